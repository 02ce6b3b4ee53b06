import PyProof.Rows.All
import Wide.All
import OpenK.AllK
import Wide.FinOn
import Lean
import PyProof.EqAt
import PyProof.EqKinds
import PyProof.TupleCall
import PyProof.NeKinds
import PyProof.ExcInit
import PyProof.Rows.SortStr
import PyProof.Rows.SortWalk
import PyProof.Rows.RuleB_bool
import PyProof.Rows.SortShellK
import KE.KIntText
import KE.KIsAll
import PyProof.AttrMissHeap
import PyProof.CompUse
import PyProof.Rows.CountFlat
import PyProof.DictCompW
import PySem.Challenge.RW_sidecut_k20_blocks_go_round
set_option Elab.async false
set_option linter.all false
set_option bootstrap.genMatcherCode false
set_option compiler.extract_closed false
set_option maxRecDepth 100000
set_option maxHeartbeats 4000000
open List renaming getElem?_eq_some_iff -> KZ, getElem?_eq_getElem -> LA, getElem?_map -> LB, mem_cons_of_mem -> LC, mem_of_getElem? -> LD, replicate -> LF, length_append -> LG, mem_cons -> LH, length_map -> LJ, mem_cons_self -> LK, length_cons -> LO, mem_append_right -> LQ, size_toArray -> LR, append_assoc -> LW, getElem?_set_ne -> LX, mem_singleton -> LY, getElem?_append_left -> LZ, mem_append -> MB, getD_eq_getElem?_getD -> MC, length_singleton -> MD, getElem?_set_self -> ME, map_append -> MF, append_nil -> MG, getElem?_append_right -> MI, replicate_succ -> MM, map_cons -> MP, length_take -> MQ, drop_eq_getElem_cons -> MX, length_nil -> MY, pairwise_cons -> NA, not_mem_nil -> NB, eq_nil_of_length_eq_zero -> ND, flatten_cons -> NF, getElem?_take_of_lt -> NG, nodup_cons -> NJ, getElem?_of_mem -> NK, getElem_mem -> NM, mem_map -> NO, range -> NP, getD_cons_zero -> NQ, getD_cons_succ -> NR, length_drop -> NS, lookup_cons -> NT, take -> NU, getElem?_cons_succ -> NV, all_eq_true -> NW, drop_length -> NX, take_length -> NY, getElem?_take_eq_none -> OA, reverse_cons -> OB, take_add_one -> OC, getElem?_range -> OF, any_cons -> OG, find?_cons -> OM, getElem?_drop -> OO, take_of_length_le -> OP, mem_range -> OR, length_replicate -> OS, getElem?_eq_none -> OT, length_pos_iff -> OY, eq_of_mem_replicate -> PL, filter_append -> PM, getElem?_set -> PX, drop_of_length_le -> PZ, set_comm -> QC, mem_reverse -> QD, eraseIdx_eq_take_drop_succ -> QJ, mem_append_left -> QK, length_set -> QL, foldl -> QM, map_nil -> QN, range_succ -> QX, filterMap_cons -> QY, mem_map_of_mem -> QZ, dropLast_concat_getLast -> RB, getElem?_inj -> RG, pairwise_iff_getElem -> RJ, countP_cons -> RT, filter_cons -> RW, getElem?_replicate -> RX, mem_filter -> SA, of_mem_zip -> SD, nodup_nil -> SI, Nodup -> SK
open PySem.Heap renaming get?_push_of_some -> LI, lt_size -> LL, get?_push_size -> LU, size_push -> NH, SameBut -> PF, get?_update_self -> QH, get?_update_other -> SF
open PySem.Str renaming ofString -> LM
open Nat renaming le_refl -> LN, lt_of_lt_of_le -> LP, zero_le -> LV, ne_of_lt -> MA, gcd -> MJ, lt_of_le_of_lt -> ML, lt_or_ge -> MN, le_trans -> MV, le_of_lt -> MW, pow_le_pow_right -> MZ, add_comm -> OD, lt_succ_self -> OE, reduceAdd -> OH, reduceSub -> OI, reduceMod -> OJ, gcd_dvd_right -> OQ, zero_add -> OU, gcd_dvd_left -> OV, Coprime -> OW, two_mul -> OX, eq_zero_or_pos -> PH, gcd_pos_of_pos_right -> PJ, mul_le_mul -> PU, log2_lt -> PY, mod_eq_of_lt -> QF, not_lt_zero -> QR, gcd_comm -> QU, mod_lt -> QV, pow_two -> RC, lt_trichotomy -> RH, succ_le_succ -> RM, mul_lt_mul'' -> RO, log2 -> RP, lt_log2_self -> RQ, exists_eq_add_of_le -> RZ
open Option renaming map_eq_some_iff -> MH, toList_some -> PK, map_some -> QP, isSome_iff_exists -> RK, bind_eq_some_iff -> RY
open Int renaming natAbs_mul -> MO, toNat_natCast -> MR, mul_ediv_cancel_left -> NI, fdiv_eq_ediv_of_nonneg -> NL, ofNat_dvd_left -> NN, emod_lt_of_pos -> ON, mul_ne_zero -> OZ, emod_nonneg -> PD, natAbs_neg -> PQ, mul_nonneg -> PR, fmod_eq_emod_of_nonneg -> RD, mul_neg_of_neg_of_pos -> RI, lt_or_le -> RN, mul_fdiv_cancel_left -> RU, mul_le_mul -> SJ
open Or renaming inl -> MS, inr -> NC
open Bool renaming and_eq_true -> MT, false_ne_true -> NZ, not_eq_true' -> PV, and_true -> RF, eq_iff_iff -> SE, and_false -> SG
open PySem.Value renaming ref -> MU, str -> OK, none -> PN
open PySem.Obj renaming mapSeq -> OL
open PySem.Txt renaming stripChars -> RA, join -> RS
open Array renaming getElem?_toList -> SH, toList -> SM
open PyProof.Rows renaming assignInOrder_cons -> UB, envOfC -> UK, AllBare -> UP, assignInOrder_nil -> VG
open PySem renaming Addr -> SN, wpAny_bind -> SO, wpAny -> SQ, Program -> SR, model -> SU, Stmt -> SV, mainGlobals -> SW, World -> SX, sizeLine -> SY, wpAny_pure -> TB, foldedSetIterable -> TC, eval -> TF, behindInMarks -> TH, starEach -> TJ, FuncData -> TK, compareOp -> TL, wpAny_mono -> TM, assignEach -> TN, attributeBase -> TQ, binaryOp -> TR, wpAny_truthy_bool -> TU, swapsWith -> TV, swapsWithSole -> TY, swappedStores -> TZ, bootBuiltins -> UA, wpAny_passesOwn -> UC, wpAny_newObj_type -> UD, wpAny_standAt -> UE, letOwnedTupleGo -> UG, wpAny_field -> UH, Scope -> UI, holding -> UJ, sysModules -> UL, bindName -> UM, assign -> UN, wpAny_holding -> UO, sliceBounds -> UQ, cLine -> UR, wpAny_setField_rec -> US, wpAny_bindName -> UT, wpAny_seqItems -> UU, backTo -> UW, subscripted -> UX, assignInOrder -> UY, IsZip -> UZ, wpAny_call_entry -> VA, getItem -> VB, wpAny_execs_nil -> VC, call_meets -> VD, codeAny -> VE, wpAny_Call_Name_kw -> VF, wpAny_rule -> VH, callerA -> VI, codeAny_mono -> VJ
open Option renaming some -> oZ
set_option hygiene false in
local macro_rules|`(~~~$x)=>`($x P w K mg base)
local macro_rules|`(↑$x)=>`(some (.p (.int $x)))
local macro_rules|`(↥$x)=>`(some (.o false $x))
local macro_rules|`(⇑$x)=>`(some (.p $x))
local macro_rules|`(⋯)=>`(by lia)
local macro_rules|`(∅)=>`(by decide)
theorem oY{p:Prop}[Decidable p](h:p):decide p=true:=decide_eq_true h
theorem oX{p:Prop}[Decidable p](h:¬p):decide p=false:=decide_eq_false h
theorem oV{c:Prop}{_:Decidable c}(h:c){α:Sort u}{t e:α}:ite c t e=t:=if_pos h
theorem oW{c:Prop}{_:Decidable c}(h:¬c){α:Sort u}{t e:α}:ite c t e=e:=if_neg h
open PySem renaming Value -> oA, Shared -> oB, Expr -> oC, Around -> oD, Heap -> oE
namespace L2
open PySem PySem.Spec PyProof.Rows
abbrev Key:=Sum Int Str
def zA:Key->oA->Bool
 |.inl k,v=>Value.isInt k v
 |.inr x,v=>Value.isStrOf x v
def IE(w:SX):Key->Int
 |.inl k=>hashInt k
 |.inr x=>hashStr w x
theorem cZ:∀{k:Key}{v:oA},zA k v=true->(∃i t,k=Sum.inl i/\v=Value.int i t)\/(∃x t,k=Sum.inr x/\v=OK x t)
 |.inl i,v,h=>by
  obtain⟨t,e⟩:=Value.isInt_shape (k:=i) (v:=v) h;exact .inl ⟨i,t,rfl,e⟩
 |.inr x,v,h=>by
  obtain⟨t,e⟩:=Value.isStrOf_shape (x:=x) (v:=v) h;exact .inr ⟨x,t,rfl,e⟩
theorem Pj(i:Int)(t:Tok):zA (.inl i) (.int i t)=true:=by simp[zA,Value.isInt]
theorem Pk(x:Str)(t:Tok):zA (.inr x) (.str x t)=true:=by simp[zA,Value.isStrOf]
theorem U6(a b:Int):decide ((Sum.inl a:Key)=Sum.inl b)=(a==b):=by
 by_cases e:a=b
 ·subst e;simp
 ·have h:¬(Sum.inl a:Key)=Sum.inl b:=λq=>e (Sum.inl.inj q);rw[oX h];exact(beq_eq_false_iff_ne.mpr e).symm
theorem U9(a b:Str):decide ((Sum.inr a:Key)=Sum.inr b)=decide (a=b):=by
 by_cases e:a=b
 ·subst e;simp
 ·have h:¬(Sum.inr a:Key)=Sum.inr b:=λq=>e (Sum.inr.inj q);rw[oX h,oX e]
theorem U7(a:Int)(b:Str):decide ((Sum.inl a:Key)=Sum.inr b)=false:=oX (λq=>nomatch q)
theorem U8(a:Str)(b:Int):decide ((Sum.inr a:Key)=Sum.inl b)=false:=oX (λq=>nomatch q)
def eJ(prog:SR)(w:SX):PySem.KeyKind prog w Key where
 is:=zA
 hash:=IE w
 inj:=λv a b ha hb=>by
  obtain⟨i,t,rfl,rfl⟩|⟨x,t,rfl,rfl⟩:=cZ ha
  ·obtain⟨j,u,rfl,e⟩|⟨y,u,rfl,e⟩:=cZ hb
   ·injection e with e1 _;rw[e1]
   ·exact nomatch e
  ·obtain⟨j,u,rfl,e⟩|⟨y,u,rfl,e⟩:=cZ hb
   ·exact nomatch e
   ·injection e with e1 _;rw[e1]
 byValue:=λk v h=>by
  rcases cZ h with⟨i,t,rfl,rfl⟩|⟨x,t,rfl,rfl⟩<;>rfl
 pyHash:=λhv h=>by
  obtain⟨i,t,rfl,rfl⟩|⟨x,t,rfl,rfl⟩:=cZ hv
  ·exact wpAny_pyHash_int h
  ·exact wpAny_pyHash_str h
 eqBool:=λhu hv h=>by
  obtain⟨i,t,rfl,rfl⟩|⟨x,t,rfl,rfl⟩:=cZ hu
  ·obtain⟨j,u,rfl,rfl⟩|⟨y,u,rfl,rfl⟩:=cZ hv
   ·rw[U6]at h;exact wpAny_eqBool_int h
   ·rw[U7]at h;exact SeqAt.EqAt.int_str i t y u _ _ _ _ h
  ·obtain⟨j,u,rfl,rfl⟩|⟨y,u,rfl,rfl⟩:=cZ hv
   ·rw[U8]at h;exact SeqAt.EqAt.str_int x t j u _ _ _ _ h
   ·rw[U9]at h;exact wpAny_eqBool_str h
 «strs»:=λk x t v h=>by
  obtain⟨i,u,rfl,e⟩|⟨y,u,rfl,e⟩:=cZ h
  ·exact nomatch e
  ·injection e with e1 _;subst e1;cases v<;>rfl
theorem Eu(prog:SR)(w:SX)(i:Int)(t:Tok):(eJ prog w).is (.inl i) (.int i t)=true:=Pj i t
theorem d9(prog:SR)(w:SX)(x:Str)(t:Tok):(eJ prog w).is (.inr x) (.str x t)=true:=Pk x t
inductive V where
 |non|bl (b:Bool)|int (i:Int)|str (x:Str)|byt (b:Array UInt8)|flt (b:UInt64)|ref (a:SN)|ty (n:String)
 deriving DecidableEq
def bC:V->oA->Prop
 |.non,u=>u=PN
 |.bl b,u=>u=Value.bool b
 |.int i,u=>∃t,u=Value.int i t
 |.str x,u=>∃t,u=OK x t
 |.byt b,u=>∃t,u=Value.bytes b t
 |.flt b,u=>∃t,u=Value.float b t
 |.ref a,u=>u=MU a
 |.ty n,u=>u=Value.type n
abbrev a9:List V->List oA->Prop:=Paired bC
theorem a9.length(r:a9 xs us):xs.length=us.length:=Paired.length r
theorem a9.get:∀{xs:List V}{us:List oA}{i:Nat}{x:V},a9 xs us->xs[i]?=oZ x->∃u,us[i]?=oZ u/\bC x u
 |_,_,_,_,.nil,e=>by simp at e
 |_,_,0,_,.cons r _,e=>by simp at e;subst e;exact⟨_,rfl,r⟩
 |_,_,i+1,x,.cons _ t,e=>by
  obtain⟨u,h1,h2⟩:=a9.get (i:=i) (x:=x) t (by simpa using e);exact⟨u,by simpa using h1,h2⟩
theorem a9.set(r:bC x u):∀{xs:List V}{us:List oA}(i:Nat),a9 xs us->a9 (xs.set i x) (us.set i u)
 |_,_,_,.nil=>.nil
 |_,_,0,.cons _ t=>.cons r t
 |_,_,i+1,.cons q t=>.cons q (a9.set r i t)
theorem a9.append:∀{xs ys:List V}{us ws:List oA},a9 xs us->a9 ys ws->a9 (xs++ys) (us++ws)
 |_,_,_,_,.nil,s=>s
 |_,_,_,_,.cons r t,s=>.cons r (a9.append t s)
theorem a9.take:∀{xs:List V}{us:List oA}(n:Nat),a9 xs us->a9 (xs.take n) (us.take n)
 |_,_,0,_=>.nil
 |_,_,_+1,.nil=>.nil
 |_,_,n+1,.cons r t=>.cons r (a9.take n t)
theorem a9.drop:∀{xs:List V}{us:List oA}(n:Nat),a9 xs us->a9 (xs.drop n) (us.drop n)
 |_,_,0,r=>r
 |_,_,_+1,.nil=>.nil
 |_,_,n+1,.cons _ t=>a9.drop n t
def xS:Option V->Option oA->Prop
 |some v,oZ u=>bC v u
 |none,none=>True
 |_,_=>False
def KV{κ:Type}:List (κ×V)->List (κ×oA)->Prop:=Paired λ(p:κ×V)(q:κ×oA)=>p.1=q.1/\bC p.2 q.2
def kV:Key->V
 |.inl i=>.int i
 |.inr x=>.str x
inductive HO where
 |lst (xs:List V)
 |tup (xs:List V)
 |dK (VN:List (Key×V))|dT (VN:List (List Key×V))
 |set (S:Int->Bool) (n:Nat)
 |ins (C dx:SN) (fs:List (Str×V))
 |own (x:SN)
 |xd (fs:List (Str×V))
 |met (f x:SN)
 |rng (lo hi:Int)
 |frz (o:Obj) (u:HO)
 |tbl (ps:Array oA)
 |ext (φ:oE->Prop)
abbrev Hp:=SN->Option HO
def upd(H:Hp)(a:SN)(o:HO):Hp:=λb=>if b=a then oZ o else H b
theorem dS:upd H a o a=oZ o:=by unfold upd;rw[oV rfl]
theorem bD(h:b≠a):upd H a o b=H b:=by unfold upd;rw[oW h]
theorem J7:upd (upd H a o) a u=upd H a u:=by
 funext b;unfold upd;split<;>rfl
theorem a8{H:Hp}(h:H a=oZ o)(h':H b=none):a≠b:=by
 intro e;subst e;rw[h]at h';cases h'
section
variable(P:SR)(w:SX)
def dW(H:Hp)(h:oE)(a:SN):HO->Prop
 |.lst xs=>xs.length<=SY/\∃(VL:List oA)(n:Nat),a9 xs VL/\h.get? a=oZ { cls:=.type "list",data:=.seq VL.toArray n }
 |.tup xs=>xs.length<=SY/\∃VL:List oA,a9 xs VL/\IsTup h a VL.toArray
 |.dK VN=>VN.length<=SY/\(a==UL)=false/\∃vs,KV VN vs/\h.DictOf (eJ P w) a vs
 |.dT VN=>VN.length<=SY/\(a==UL)=false/\∃xs:List (List Key×SN×oA),
   Paired (λ(p:List Key×V)(q:List Key×SN×oA)=>p.1=q.1/\H q.2.1=oZ (.tup (p.1.map kV))/\bC p.2 q.2.2) VN xs/\
   ∃o es ep,h.get? a=oZ o/\o.ExactDict/\o.data = .dict es ep/\es.toList=xs.map (entryOfKey (tupleKind (eJ P w)))/\(xs.map (·.1)).Nodup
 |.set S n=>h.SetOf (intKind P w) a S n
 |.ins C dx fs=>H dx=oZ (.own a)/\fs.length<=1000/\dx≠a/\h.get? a=oZ (W.instObj C dx)/\
   ∃mA,h.Ns1 dx mA/\(∀f,xS (fs.lookup f) (mA f))/\PySem.Within mA (fs.map (·.1))
 |.own _=>∃o,h.get? a=oZ o
 |.xd fs=>∃mA,h.Ns1 a mA/\∀f,xS (fs.lookup f) (mA f)
 |.rng lo hi=>∃t u v,h.get? a=oZ { cls:=.type "range",data:=.fields #[.int lo t,.int hi u,.int 1 v] }
 |.frz o u=>h.get? a=oZ o/\dW H h a u
 |.tbl ps=>h.get? a=oZ { cls:=.none,data:=.fields ps }
 |.met f x=>h.get? a=oZ (W.methodObj (.ref f) (.ref x))
 |.ext φ=>φ h/\(∃o,h.get? a=oZ o)/\∀h1 h2:oE,φ h1->(∀o,h1.get? a=oZ o->h2.get? a=oZ o)->φ h2
def oT(H:Hp)(h:oE):Prop:=∀a o,H a=oZ o->dW P w H h a o
end
theorem dW.lt(x:dW P w H h a o):a<h.objs.size:=by
 cases o with
 |lst xs=>obtain⟨_,_,_,_,e⟩:=x;exact LL e
 |tup xs=>obtain⟨_,_,_,p⟩:=x;exact p.lt
 |dK VN=>obtain⟨_,_,_,_,o,_,_,e,_⟩:=x;exact LL e
 |dT VN=>obtain⟨_,_,_,_,o,_,_,e,_⟩:=x;exact LL e
 |set S n=>obtain⟨o,_,_,_,e,_⟩:=x;exact LL e
 |ins C dx fs=>obtain⟨_,_,_,e,_⟩:=x;exact LL e
 |own y=>obtain⟨_,e⟩:=x;exact LL e
 |xd fs=>obtain⟨_,⟨_,_,_,e,_⟩,_⟩:=x;exact LL e
 |rng lo hi=>obtain⟨_,_,_,e⟩:=x;exact LL e
 |frz ob u=>obtain⟨e,_⟩:=x;exact LL e
 |tbl ps=>exact LL (show h.get? a=oZ _ from x)
 |met f y=>exact LL (show h.get? a=oZ _ from x)
 |ext φ=>obtain⟨_,⟨_,e⟩,_⟩:=x;exact LL e
theorem Paired.mapP{α β:Type}{F G:α->β->Prop}:∀{l₁:List α}{l₂:List β},Paired F l₁ l₂->(∀a b,F a b->G a b)->Paired G l₁ l₂
 |_,_,.nil,_=>.nil
 |_,_,.cons r t,f=>.cons (f _ _ r) (Paired.mapP t f)
theorem dW.stay(x:dW P w H h a o)(k:∀b u,(b=a\/H b=oZ (.own a))->h.get? b=oZ u->h'.get? b=oZ u)(ho:∀b,H b=oZ (.own a)->H' b=oZ (.own a))(ht:∀b xs,H b=oZ (.tup xs)->H' b=oZ (.tup xs)):dW P w H' h' a o:=by
 induction o with
 |lst xs=>obtain⟨z,VL,n,r,e⟩:=x;exact⟨z,VL,n,r,k _ _ (.inl rfl) e⟩
 |tup xs=>obtain⟨z,VL,r,ob,e,c⟩:=x;exact⟨z,VL,r,ob,k _ _ (.inl rfl) e,c⟩
 |dK VN=>obtain⟨z,y,vs,r,ob,es,ep,e,c⟩:=x;exact⟨z,y,vs,r,ob,es,ep,k _ _ (.inl rfl) e,c⟩
 |dT VN=>
  obtain⟨z,y,xs,r,ob,es,ep,e,c⟩:=x;exact⟨z,y,xs,Paired.mapP r λp q z=>⟨z.1,ht _ _ z.2.1,z.2.2⟩,ob,es,ep,k _ _ (.inl rfl) e,c⟩
 |set S n=>obtain⟨ob,es,ep,t,e,c⟩:=x;exact⟨ob,es,ep,t,k _ _ (.inl rfl) e,c⟩
 |ins C dx fs=>
  obtain⟨d,z,ne,e,mA,⟨od,es,ep,e2,c⟩,r⟩:=x;exact⟨ho _ d,z,ne,k _ _ (.inl rfl) e,mA,⟨od,es,ep,k _ _ (.inr d) e2,c⟩,r⟩
 |own y=>obtain⟨ob,e⟩:=x;exact⟨ob,k _ _ (.inl rfl) e⟩
 |xd fs=>obtain⟨mA,⟨od,es,ep,e,c⟩,r⟩:=x;exact⟨mA,⟨od,es,ep,k _ _ (.inl rfl) e,c⟩,r⟩
 |rng lo hi=>obtain⟨t,u,v,e⟩:=x;exact⟨t,u,v,k _ _ (.inl rfl) e⟩
 |frz ob u ih=>obtain⟨e,q⟩:=x;exact⟨k _ _ (.inl rfl) e,ih q⟩
 |tbl ps=>
  have e:h.get? a=oZ { cls:=.none,data:=.fields ps }:=x;show h'.get? a=oZ { cls:=.none,data:=.fields ps };exact k a _ (.inl rfl) e
 |met f y=>
  have e:h.get? a=oZ (W.methodObj (.ref f) (.ref y)):=x;show h'.get? a=oZ (W.methodObj (.ref f) (.ref y));exact k a _ (.inl rfl) e
 |ext φ=>obtain⟨p,⟨o,e⟩,st⟩:=x;exact⟨st _ _ p λo q=>k _ _ (.inl rfl) q,⟨o,k _ _ (.inl rfl) e⟩,st⟩
theorem oT.lt(x:oT P w H h)(e:H a=oZ o):a<h.objs.size:=(x a o e).lt
theorem oT.fresh(x:oT P w H h)(e:h.objs.size<=a):H a=none:=by
 cases q:H a with
 |none=>rfl
 |some u=>exact absurd (LP (x.lt q) e) (Nat.lt_irrefl _)
theorem oT.kept(x:oT P w H h)(k:∀b u,h.get? b=oZ u->h'.get? b=oZ u):oT P w H h':=λa o e=>
 (x a o e).stay (λb u _ q=>k b u q) (λ_ q=>q) λ_ _ q=>q
theorem oT.laid(x:oT P w H h)(k:∀b u,h.get? b=oZ u->h'.get? b=oZ u)(hp:h.objs.size<=a)(new:dW P w (upd H a o) h' a o):oT P w (upd H a o) h':=λb u e=>by
 have hn:=x.fresh hp
 by_cases hb:b=a
 ·subst hb;rw[dS]at e;cases e;exact new
 ·rw[bD hb]at e;exact(x b u e).stay (λc v _ q=>k c v q) (λc q=>by rw[bD (a8 q hn)];exact q) λc xs q=>by rw[bD (a8 q hn)];exact q
def Rd(H:Hp)(a:SN)(u:HO):Prop:=H a=oZ u\/∃o,H a=oZ (.frz o u)
theorem Rd.ok(r:Rd H a u)(x:oT P w H h):dW P w H h a u:=by
 obtain r|⟨o,r⟩:=r
 ·exact x a u r
 ·obtain⟨_,q⟩:=x a _ r;exact q
def BF:Option HO->Prop
 |some (.lst _)=>True
 |some (.dK _)=>True
 |some (.dT _)=>True
 |some (.set _ _)=>True
 |some (.ins _ _ _)=>True
 |some (.ext _)=>True
 |_=>False
theorem oT.write(ok:oT P w H h)(mu:BF (H x))(he:e=x\/H e=oZ (.own x))(k:∀b u,b≠e->h.get? b=oZ u->h'.get? b=oZ u)(vd:∃u,h'.get? e=oZ u)(new:dW P w (upd H x o') h' x o'):oT P w (upd H x o') h':=λb u q=>by
 have wj:∀c y,H c=oZ (.own y)->c≠x:=λc y r z=>by subst z;rw[r]at mu;exact mu
 have aAL:∀c xs,H c=oZ (.tup xs)->c≠x:=λc xs r z=>by subst z;rw[r]at mu;exact mu
 by_cases hb:b=x
 ·subst hb;rw[dS]at q;cases q;exact new
 ·rw[bD hb]at q
  by_cases qp:b=e
  ·have q':H b=oZ (.own x):=by
    obtain z|z:=he
    ·exact absurd (qp.trans z) hb
    ·rw[qp];exact z
   rw[q]at q';cases q';obtain⟨v,hv⟩:=vd;exact⟨v,by rw[qp];exact hv⟩
  ·refine(ok b u q).stay (λc v hc r=>k c v ?_ r) (λc r=>by rw[bD (wj c b r)];exact r) λc xs r=>by rw[bD (aAL c xs r)];exact r
   obtain rfl|hc:=hc
   ·exact qp
   ·rintro rfl;obtain z|z:=he
    ·exact wj c b hc z
    ·rw[hc]at z;cases z;exact hb rfl
structure Un(fs ex:List SN)(H H':Hp)(h h':oE):Prop where
 keep:∀b o,h.get? b=oZ o->H b=none->b∉fs->b∉ex->h'.get? b=oZ o
 slot:∀b o,h.get? b=oZ o->H b=none->b∈fs->b∉ex->∃sl,h'.get? b=oZ { o with slots:=sl }
 free:∀b o,h.get? b=oZ o->H b=none->b∉ex->H' b=none
 there:∀b o,h.get? b=oZ o->b∉ex->∃o',h'.get? b=oZ o'
 tups:∀b xs,H b=oZ (.tup xs)->H' b=oZ (.tup xs)
 frzs:∀b o u,H b=oZ (.frz o u)->H' b=oZ (.frz o u)
 tbls:∀b ps,H b=oZ (.tbl ps)->∃more,H' b=oZ (.tbl (ps++more))
theorem Un.any(u:Un fs ex H H1 h h1)(q:h.get? b=oZ ob)(n:H b=none)(hx:b∉ex):∃sl,h1.get? b=oZ { ob with slots:=sl }:=by
 by_cases hb:b∈fs
 ·exact u.slot b ob q n hb hx
 ·exact⟨ob.slots,u.keep b ob q n hb hx⟩
theorem Un.kept(k:∀b u,h.get? b=oZ u->h'.get? b=oZ u):Un fs ex H H h h':=
 ⟨λb ob q _ _ _=>k b ob q,λb ob q _ _ _=>⟨ob.slots,k b ob q⟩,λ_ _ _ n _=>n,λb ob q _=>⟨ob,k b ob q⟩,λ_ _ q=>q,λ_ _ _ q=>q,λ_ ps q=>⟨#[],by rw[q];simp⟩⟩
theorem Un.refl:Un fs ex H H h h:=Un.kept λ_ _ q=>q
theorem Un.laid{fs:List SN}{ex:List SN}{H:Hp}{h:oE}{h':oE}{a:SN}{o:HO}(k:∀b u,h.get? b=oZ u->h'.get? b=oZ u)(hp:h.objs.size<=a)(hn:H a=none):Un fs ex H (upd H a o) h h' where
 keep:=λb u q _ _ _=>k b u q
 slot:=λb u q _ _ _=>⟨u.slots,k b u q⟩
 free:=λb u q n _=>by rw[bD (MA (LP (LL q) hp))];exact n
 there:=λb u q _=>⟨u,k b u q⟩
 tups:=λb xs q=>by rw[bD (a8 q hn)];exact q
 frzs:=λb u xs q=>by rw[bD (a8 q hn)];exact q
 tbls:=λb ps q=>⟨#[],by rw[bD (a8 q hn),q];simp⟩
theorem Un.write(mu:BF (H x))(he:e=x\/H e=oZ (.own x))(k:∀b u,b≠e->h.get? b=oZ u->h'.get? b=oZ u)(vd:∃u,h'.get? e=oZ u):Un fs ex H (upd H x o) h h':=by
 have hx:∀b,H b=none->b≠x:=λb n z=>by subst z;rw[n]at mu;exact mu
 have hb:∀b,H b=none->b≠e:=λb n z=>by
  subst z;obtain r|r:=he
  ·exact hx b n r
  ·rw[n]at r;cases r
 have hm:∀b u,H b=oZ u->¬BF (oZ u)->b≠x:=λb u q nm z=>by subst z;rw[q]at mu;exact nm mu
 refine⟨λb u q n _ _=>k b u (hb b n) q,λb u q n _ _=>⟨u.slots,k b u (hb b n) q⟩,λb u q n _=>by rw[bD (hx b n)];exact n,λb u q _=>?_,
  λb xs q=>by rw[bD (hm b _ q λz=>z)];exact q,λb u xs q=>by rw[bD (hm b _ q λz=>z)];exact q,λb ps q=>⟨#[],by rw[bD (hm b _ q λz=>z),q];simp⟩⟩
 by_cases qp:b=e
 ·subst qp;exact vd
 ·exact⟨u,k b u qp q⟩
def GW(h:oE)(H:Hp):List SN:=(NP h.objs.size).filter λa=>(H a).isSome
def Az(h:oE)(H:Hp):oE:=W.hideAll h (GW h H)
theorem Pf(h:oE)(H:Hp):(Az h H).objs.size=h.objs.size:=W.hideAll_size _ _
theorem Te(e:h.get? b=oZ o)(n:H b=none):(Az h H).get? b=oZ o:=
 W.hideAll_get _ e λhm=>by
  have q:(H b).isSome=true:=(SA.mp hm).2;rw[n]at q;simp at q
theorem A5(e:(Az h H).get? b=oZ o):h.get? b=oZ o/\H b=none:=by
 have e':h.get? b=oZ o:=W.of_hideAll (GW h H) e;refine⟨e',?_⟩;cases q:H b with
 |none=>rfl
 |some x=>
  have hm:b∈GW h H:=SA.mpr ⟨OR.mpr (LL e'),by simp[q]⟩;have z:(Az h H).get? b=none:=W.hideAll_none (GW h H) hm;rw[z]at e;cases e
structure Mod(K:W.Frag)(mg:Str->Option oA)(base:oE):Prop where
 kin:K.In base
 glob:base.Ns SW mg
 blt:∃mb,base.Ns builtinsNs mb/\∀x:Str,x≠"__name__"->mb x=UA x
 nolimit:base.NoLimit
structure Cx where
 prog:SR
 w:SX
 K:W.Frag
 mg:Str->Option oA
 base:oE
 A:oD
 N:List Str
 s₀:oB
 H₀:Hp
 env:Env
 outer:List Env
 stack:List Env
 ex:List SN
 fn:Str->Bool
 calm:Bool
 pn:List (SN×Obj)
 xe:oA->oB->Prop
def El(l:List Env):List SN:=l.filterMap (·.frame)
abbrev Cx.fs(X:Cx):List SN:=El X.outer
def K0(sc:UI)(x:Str):Prop:=sc.names.lookup x=oZ .local\/sc.names.lookup x=oZ .cell\/sc.names.lookup x=oZ .free
def xR(sc:UI)(x:Str):Prop:=sc.names.lookup x=oZ .local\/sc.names.lookup x=oZ .cell
def GZ(env:Env)(h:oE)(m:Str->Option oA)(x:Str)(u:oA):Prop:=
 (env.kindOf x=oZ .local/\m x=oZ u)\/((env.kindOf x=oZ .cell\/env.kindOf x=oZ .free)/\∃c,env.cells.lookup x=oZ c/\h.IsCell c (oZ u))
structure Cx.Ok(X:Cx):Prop where
 mod:Mod X.K X.mg X.base
 kind:X.env.scope.kind = .function
 glob:X.env.globals=SW
 blt:X.env.builtins=builtinsNs
 above:X.s₀.heap.objs.size<=X.env.locals
 inj:∀x y c,X.env.cells.lookup x=oZ c->X.env.cells.lookup y=oZ c->x=y
 has:∀x,(X.env.kindOf x=oZ .cell\/X.env.kindOf x=oZ .free)->∃c,X.env.cells.lookup x=oZ c
 cab:∀x c,X.fn x=true->X.env.cells.lookup x=oZ c->X.s₀.heap.objs.size<=c
 hd:X.calm=true->X.A.handled=none
 frames:X.A.frames=oZ X.stack
 stk:X.stack=X.outer\/(X.stack=X.env::X.outer/\X.env.frame=oZ X.env.locals)
 exf:∀b∈X.ex,b≠X.env.locals/\∀x c,X.env.cells.lookup x=oZ c->c≠b
 bs:∀b o,X.base.get? b=oZ o->X.s₀.heap.get? b=oZ o/\X.H₀ b=none
 bsz:X.base.objs.size<=X.s₀.heap.objs.size
 noex:∀b o,X.base.get? b=oZ o->b∉X.ex
 exfs:∀b∈X.ex,b∉X.fs
 funs:X.s₀.heap.FunFrames X.base X.outer
 frf:∀b∈X.fs,X.H₀ b=none
structure aT(X:Cx)(pins:List (SN×Obj))(σ:List (Option V))(H:Hp)(s:oB):Prop where
 ok:X.Ok
 os:s.os=X.s₀.os
 bare:UP s.gens
 base:Un X.fs X.ex X.H₀ H X.s₀.heap s.heap
 loc:∃m,s.heap.Ns X.env.locals m/\∀(i:Nat)(x:Str)(v:V),X.N[i]?=oZ x->σ[i]?=oZ (oZ v)->K0 X.env.scope x->∃u,bC v u/\GZ X.env s.heap m x u
 cell:∀x c,X.env.cells.lookup x=oZ c->∃v,s.heap.IsCell c v
 free:H X.env.locals=none
 freeC:∀x c,X.env.cells.lookup x=oZ c->H c=none
 pin:∀p∈X.pn++pins,s.heap.get? p.1=oZ p.2/\H p.1=none/\p.1≠X.env.locals/\p.1∉X.fs/\∀v,p.2.data≠.cell v
 hok:oT X.prog X.w H s.heap
 len:σ.length=X.N.length
theorem Cx.Ok.nofr{X:Cx}(ok:X.Ok)(e:X.base.get? b=oZ o):b∉X.fs:=λhb=>by
 have:=(ok.funs.mem hb).1;rw[e]at this;cases this
theorem aT.bs(I:aT X pins σ H s):∀b o,X.base.get? b=oZ o->s.heap.get? b=oZ o/\H b=none:=λb o e=>
 ⟨I.base.keep b o (I.ok.bs b o e).1 (I.ok.bs b o e).2 (I.ok.nofr e) (I.ok.noex b o e),I.base.free b o (I.ok.bs b o e).1 (I.ok.bs b o e).2 (I.ok.noex b o e)⟩
theorem aT.bk(I:aT X pins σ H s):∀b o,X.base.get? b=oZ o->s.heap.get? b=oZ o:=λb o e=>(I.bs b o e).1
theorem aT.mod(I:aT X pins σ H s):Mod X.K X.mg X.base:=I.ok.mod
theorem aT.kIn(I:aT X pins σ H s):X.K.In s.heap:=I.ok.mod.kin.keeps I.bk
theorem aT.lt(I:aT X pins σ H s):X.env.locals<s.heap.objs.size:=let⟨_,hn,_⟩:=I.loc;hn.lt
theorem aT.sz(I:aT X pins σ H s):X.s₀.heap.objs.size<=s.heap.objs.size:=MV I.ok.above (MW I.lt)
theorem aT.nofs(I:aT X pins σ H s)(h:s.heap.objs.size<=a):a∉X.fs:=λhb=>by
 obtain⟨_,o,ho,_⟩:=I.ok.funs.mem hb;exact absurd (LP (LL ho) (MV I.sz h)) (Nat.lt_irrefl _)
theorem aT.cne(I:aT X pins σ H s):∀x c,X.env.cells.lookup x=oZ c->c≠X.env.locals:=λx c e z=>by
 obtain⟨v,o,ho,hd⟩:=I.cell x c e;obtain⟨m,⟨o',es,ep,ig,wk,_⟩,_⟩:=I.loc;rw[z,ig]at ho;cases ho;rw[wk]at hd;cases hd
theorem aT.funs(I:aT X pins σ H s):s.heap.FunFrames X.base X.outer:=by
 have all:∀(l:List Env),(∀b∈El l,b∈X.fs)->X.s₀.heap.FunFrames X.base l->s.heap.FunFrames X.base l:=by
  intro l
  induction l with
  |nil=>intro _ _;trivial
  |cons env r ih=>
   intro hs hl;obtain⟨hk,⟨L,o,hf,hn,ho,hd⟩,hr⟩:=hl;have hL:L∈X.fs:=hs L (by unfold El;rw[QY,hf];exact LK);obtain⟨sl,e⟩:=I.base.slot L o ho (I.ok.frf L hL) hL λz=>I.ok.exfs L z hL;exact⟨hk,⟨L,_,hf,hn,e,hd⟩,ih (λb hb=>hs b (by unfold El;rw[QY,hf];exact LC _ hb)) hr⟩
 exact all X.outer (λ_ hb=>hb) I.ok.funs
theorem aT.stack(I:aT X pins σ H s):s.heap.FunFrames X.base X.stack:=by
 obtain e|⟨e,hf⟩:=I.ok.stk
 ·rw[e];exact I.funs
 ·rw[e];obtain⟨m,hn,_⟩:=I.loc;refine .cons (by rw[I.ok.kind];decide) hf hn ?_ I.funs;exact Heap.get?_none_of_le (MV I.ok.bsz I.ok.above)
theorem aT.stkSub(I:aT X pins σ H s):∀b∈El X.stack,b∈X.env.locals::X.fs:=λb hb=>by
 obtain e|⟨e,hf⟩:=I.ok.stk
 ·rw[e]at hb;exact LC _ hb
 ·rw[e]at hb;unfold El at hb;rw[QY,hf]at hb;exact hb
theorem aT.stkFree(I:aT X pins σ H s):∀b∈El X.stack,H b=none:=λb hb=>by
 obtain e|hb:=LH.mp (I.stkSub b hb)
 ·rw[e];exact I.free
 ·obtain⟨_,o,ho,_⟩:=I.ok.funs.mem hb;exact I.base.free b o ho (I.ok.frf b hb) λz=>I.ok.exfs b z hb
theorem aT.step{X:Cx}{pins:List (SN×Obj)}{σ:List (Option V)}{H:Hp}{H':Hp}{s:oB}{h':oE}{g':Array GenState}{t':Nat}{ch:List SN}(I:aT X pins σ H s)(mj:∀b∈ch,(b∈X.ex\/X.s₀.heap.objs.size<=b)/\b≠X.env.locals/\(∀x c,X.env.cells.lookup x=oZ c->c≠b)/\∀p∈X.pn++pins,p.1≠b)(keep:∀b o,b≠X.env.locals->b∉X.fs->b∉ch->s.heap.get? b=oZ o->H b=none->h'.get? b=oZ o)(slot:∀b o,b≠X.env.locals->b∈X.fs->b∉ch->s.heap.get? b=oZ o->H b=none->∃sl,h'.get? b=oZ { o with slots:=sl })(free:∀b o,b∉ch->s.heap.get? b=oZ o->H b=none->H' b=none)(there:∀b o,b∉ch->s.heap.get? b=oZ o->∃o',h'.get? b=oZ o')(tups:∀b xs,H b=oZ (.tup xs)->H' b=oZ (.tup xs))(frzs:∀b o u,H b=oZ (.frz o u)->H' b=oZ (.frz o u))(tbls:∀b ps,H b=oZ (.tbl ps)->∃more,H' b=oZ (.tbl (ps++more)))(ns:∀m,s.heap.Ns X.env.locals m->h'.Ns X.env.locals m)(hok:oT X.prog X.w H' h')(hg:UP g'):
  aT X pins σ H' { s with heap:=h',gens:=g',drawn:=d',toks:=t' }:=by
 have neL:∀b o,X.s₀.heap.get? b=oZ o->b≠X.env.locals:=λb o e=>MA (LP (LL e) I.ok.above);have ju:∀b o,X.s₀.heap.get? b=oZ o->b∉X.ex->b∉ch:=λb o e hx hb=>by
  rcases(mj b hb).1 with z|z
  ·exact hx z
  ·exact absurd (LP (LL e) z) (Nat.lt_irrefl _)
 have cellK:∀x c,X.env.cells.lookup x=oZ c->∀v,s.heap.IsCell c v->h'.IsCell c v:=λx c e v zZ=>by
  obtain⟨o,ho,hd⟩:=zZ;have wm:c∉ch:=λz=>(mj c z).2.2.1 x c e rfl
  by_cases hc:c∈X.fs
  ·obtain⟨sl,q⟩:=slot c o (I.cne x c e) hc wm ho (I.freeC x c e);exact⟨_,q,hd⟩
  ·exact⟨o,keep c o (I.cne x c e) hc wm ho (I.freeC x c e),hd⟩
 refine⟨I.ok,I.os,hg,⟨λb o e n hb hx=>?_,λb o e n hb hx=>?_,λb o e n hx=>?_,λb o e hx=>?_,λb xs e=>tups b xs (I.base.tups b xs e),λb o xs e=>frzs b o xs (I.base.frzs b o xs e),λb ps e=>?_⟩,?_,λx c e=>?_,?_,λx c e=>?_,λp hp=>?_,hok,I.len⟩
 ·exact keep b o (neL b o e) hb (ju b o e hx) (I.base.keep b o e n hb hx) (I.base.free b o e n hx)
 ·obtain⟨sl,e1⟩:=I.base.slot b o e n hb hx;obtain⟨sl',e2⟩:=slot b _ (neL b o e) hb (ju b o e hx) e1 (I.base.free b o e n hx);exact⟨sl',e2⟩
 ·obtain⟨o',e1⟩:=I.base.there b o e hx;exact free b o' (ju b o e hx) e1 (I.base.free b o e n hx)
 ·obtain⟨o',e1⟩:=I.base.there b o e hx;exact there b o' (ju b o e hx) e1
 ·obtain⟨m1,e1⟩:=I.base.tbls b ps e;obtain⟨m2,e2⟩:=tbls b _ e1;exact⟨m1++m2,by rw[e2,Array.append_assoc]⟩
 ·obtain⟨m,hn,hl⟩:=I.loc;refine⟨m,ns m hn,λi x v e1 e2 e3=>?_⟩;obtain⟨u,r,l⟩:=hl i x v e1 e2 e3;refine⟨u,r,?_⟩;obtain l|⟨k,c,e,z⟩:=l
  ·exact .inl l
  ·exact .inr ⟨k,c,e,cellK x c e _ z⟩
 ·obtain⟨v,z⟩:=I.cell x c e;exact⟨v,cellK x c e v z⟩
 ·obtain⟨m,⟨o,_,_,ho,_⟩,_⟩:=I.loc;exact free _ o (λz=>(mj _ z).2.1 rfl) ho I.free
 ·obtain⟨v,o,ho,hd⟩:=I.cell x c e;exact free c o (λz=>(mj c z).2.2.1 x c e rfl) ho (I.freeC x c e)
 ·obtain⟨e,n,ne,nf,d⟩:=I.pin p hp;have wm:p.1∉ch:=λz=>(mj p.1 z).2.2.2 p hp rfl;exact⟨keep p.1 p.2 ne nf wm e n,free p.1 p.2 wm e n,ne,nf,d⟩
theorem aT.un(I:aT X pins σ H s)(u:Un X.fs [] H H' s.heap h')(hok:oT X.prog X.w H' h'):aT X pins σ H' { s with heap:=h',toks:=t' }:=by
 obtain⟨m,⟨o,es,ep,ho,r⟩,_⟩:=id I.loc;obtain⟨sl,hL⟩:=u.any ho I.free (by simp);exact I.step (g':=s.gens) (d':=s.drawn) (ch:=[]) (λ_ z=>nomatch z) (λb o _ hb _ e n=>u.keep b o e n hb (by simp)) (λb o _ hb _ e n=>u.slot b o e n hb (by simp)) (λb o _ e n=>u.free b o e n (by simp)) (λb o _ e=>u.there b o e (by simp)) u.tups u.frzs u.tbls (λm' hm=>by
  obtain⟨o',es',ep',ig,r'⟩:=hm;rw[ho]at ig;cases ig;exact⟨_,es',ep',hL,r'⟩) hok I.bare
theorem aT.call(I:aT X pins σ H s)(u:Un (El X.stack) ch H H' s.heap h')(hok:oT X.prog X.w H' h')(hg:UP g')(mj:∀b∈ch,(b∈X.ex\/X.s₀.heap.objs.size<=b)/\b≠X.env.locals/\(∀x c,X.env.cells.lookup x=oZ c->c≠b)/\∀p∈X.pn++pins,p.1≠b):
  aT X pins σ H' { s with heap:=h',gens:=g',drawn:=d',toks:=t' }:=by
 obtain⟨m,⟨o,es,ep,ho,r⟩,_⟩:=id I.loc;obtain⟨sl,hL⟩:=u.any ho I.free λz=>(mj _ z).2.1 rfl;exact I.step (ch:=ch) mj (λb o hL hb hc e n=>u.keep b o e n (λz=>(LH.mp (I.stkSub b z)).elim hL hb) hc) (λb o _ _ hc e n=>u.any e n hc) (λb o hc e n=>u.free b o e n hc) (λb o hc e=>u.there b o e hc) u.tups u.frzs u.tbls (λm' hm=>by
  obtain⟨o',es',ep',ig,r'⟩:=hm;rw[ho]at ig;cases ig;exact⟨_,es',ep',hL,r'⟩) hok hg
theorem aT.turned(I:aT X pins σ H s)(k:∀b o,b≠it->s.heap.get? b=oZ o->h'.get? b=oZ o)(hn:H it=none)(hL:it≠X.env.locals)(h1:it∈X.ex\/X.s₀.heap.objs.size<=it)(h2:∀x c,X.env.cells.lookup x=oZ c->c≠it)(h3:∀p∈X.pn++pins,p.1≠it):aT X pins σ H { s with heap:=h',toks:=t' }:=by
 have pf:∀b u,H b=oZ u->b≠it:=λb u e z=>by rw[z,hn]at e;cases e
 refine I.step (g':=s.gens) (d':=s.drawn) (ch:=[it]) (λb hb=>?_) (λb o _ _ hc e _=>k b o (λz=>hc (by simp[z])) e) (λb o _ _ hc e _=>⟨o.slots,k b o (λz=>hc (by simp[z])) e⟩) (λ_ _ _ _ n=>n)
  (λb o hc e=>⟨o,k b o (λz=>hc (by simp[z])) e⟩) (λ_ _ e=>e) (λ_ _ _ e=>e) (λb ps e=>⟨#[],by rw[e];simp⟩) (λm hm=>?_) (λb u e=>?_) I.bare
 ·have e:b=it:=by simpa using hb
  subst e;exact⟨h1,hL,h2,h3⟩
 ·obtain⟨o,es,ep,ho,r⟩:=hm;exact⟨o,es,ep,k _ o (Ne.symm hL) ho,r⟩
 ·refine(I.hok b u e).stay (λc v hc q=>k c v ?_ q) (λ_ q=>q) λ_ _ q=>q;obtain z|z:=hc
  ·rw[z];exact pf b u e
  ·exact pf c _ z
theorem aT.tok(I:aT X pins σ H s)(t:Nat):aT X pins σ H { s with toks:=t }:=I.un (h':=s.heap) (t':=t) Un.refl I.hok
theorem aT.kept(I:aT X pins σ H s)(k:∀b u,s.heap.get? b=oZ u->h'.get? b=oZ u):aT X pins σ H { s with heap:=h',toks:=t' }:=I.un (Un.kept k) (I.hok.kept k)
theorem aT.laid(I:aT X pins σ H s)(k:∀b u,s.heap.get? b=oZ u->h'.get? b=oZ u)(hp:s.heap.objs.size<=a)(new:dW X.prog X.w (upd H a o) h' a o):
  aT X pins σ (upd H a o) { s with heap:=h',toks:=t' }:=I.un (Un.laid k hp (I.hok.fresh hp)) (I.hok.laid k hp new)
theorem aT.write(I:aT X pins σ H s)(mu:BF (H x))(he:e=x\/H e=oZ (.own x))(k:∀b u,b≠e->s.heap.get? b=oZ u->h'.get? b=oZ u)(vd:∃u,h'.get? e=oZ u)(new:dW X.prog X.w (upd H x o) h' x o):aT X pins σ (upd H x o) { s with heap:=h',toks:=t' }:=I.un (Un.write mu he k vd) (I.hok.write mu he k vd new)
theorem aT.pins_of(I:aT X pins σ H s)(h:∀p∈pins',s.heap.get? p.1=oZ p.2/\H p.1=none/\p.1≠X.env.locals/\p.1∉X.fs/\∀v,p.2.data≠.cell v):aT X pins' σ H s:=
 ⟨I.ok,I.os,I.bare,I.base,I.loc,I.cell,I.free,I.freeC,λp hp=>(MB.mp hp).elim (λz=>I.pin p (QK _ z)) (h p),I.hok,I.len⟩
theorem Fh{N:List Str}(hN:N.Nodup){i j:Nat}{x:Str}(a:N[i]?=oZ x)(b:N[j]?=oZ x):i=j:=by
 obtain⟨h1,e1⟩:=KZ.mp a;obtain⟨h2,e2⟩:=KZ.mp b;exact(List.getElem_inj hN).mp (e1.trans e2.symm)
theorem zK{E:oA->oB->Prop}{Q:Unit->oB->Prop}(I:aT X pins σ H s)(hN:X.N.Nodup)(hi:X.N[i]?=oZ x)(hx:xR X.env.scope x)(r:bC v u)(h:∀s',aT X pins (σ.set i (oZ v)) H s'->(∃a,PF a s.heap s'.heap/\(a=X.env.locals\/X.env.cells.lookup x=oZ a))->Q () s')(hf:X.fn x=true\/X.env.scope.names.lookup x=oZ .local:=by first|exact .inl rfl|exact .inr rfl|assumption):SQ M A (storeName X.env x u) Q E s:=by
 obtain⟨m,hn,hl⟩:=id I.loc;have aAO:(X.env.scope.kind==.class||(X.env.scope.kind==.module&&X.env.locals != X.env.globals))=false:=by rw[I.ok.kind];rfl
 have hiσ:i<σ.length:=by rw[I.len];exact(KZ.mp hi).1
 have cne:=I.cne;have tracked:∀{a:SN}{h':oE},(∃o,s.heap.get? a=oZ o/\H a=none)->PF a s.heap h'->oT X.prog X.w H h':=λ{a h'}ha hs b ob e=>by
  obtain⟨_,_,pg⟩:=ha;refine(I.hok b ob e).stay (λc w' hc q=>(hs.2 c ?_).trans q) (λ_ q=>q) λ_ _ q=>q;rintro rfl;obtain rfl|hc:=hc
  ·rw[pg]at e;cases e
  ·rw[pg]at hc;cases hc
 obtain hk|hk:=hx
 ·refine wpAny_storeName_local hk hn (λh' ke hs=>?_) aAO;obtain⟨oL,_,_,hoL,_⟩:=id hn;refine h _ ⟨I.ok,I.os,I.bare,⟨λb o e n hb hx=>?_,λb o e n hb hx=>?_,I.base.free,λb o e hx=>?_,I.base.tups,I.base.frzs,I.base.tbls⟩,⟨_,ke,λj y v' e1 e2 e3=>?_⟩,λy c e=>?_,I.free,I.freeC,λp hp=>?_,tracked ⟨oL,hoL,I.free⟩ hs,by simpa using I.len⟩ ⟨_,hs,.inl rfl⟩
  ·exact(hs.2 b (MA (LP (LL e) I.ok.above))).trans (I.base.keep b o e n hb hx)
  ·obtain⟨sl,e1⟩:=I.base.slot b o e n hb hx;exact⟨sl,(hs.2 b (MA (LP (LL e) I.ok.above))).trans e1⟩
  ·obtain⟨o',e1⟩:=I.base.there b o e hx;exact⟨o',(hs.2 b (MA (LP (LL e) I.ok.above))).trans e1⟩
  ·by_cases hj:j=i
   ·subst hj;rw[hi]at e1;cases e1;rw[ME hiσ]at e2;cases e2;exact⟨u,r,.inl ⟨hk,by simp⟩⟩
   ·rw[LX (Ne.symm hj)]at e2;obtain⟨u',r',q⟩:=hl j y v' e1 e2 e3;refine⟨u',r',?_⟩;obtain⟨k,e⟩|⟨k,c,e,z⟩:=q
    ·refine .inl ⟨k,?_⟩;have:y≠x:=λe=>hj (Fh hN e1 (e ▸ hi));simp[this,e]
    ·exact .inr ⟨k,c,e,z.sameBut hs (cne y c e)⟩
  ·obtain⟨w',z⟩:=I.cell y c e;exact⟨w',z.sameBut hs (cne y c e)⟩
  ·obtain⟨e,n,ne,nf,d⟩:=I.pin p hp;exact⟨(hs.2 p.1 ne).trans e,n,ne,nf,d⟩
 ·have qq:X.fn x=true:=by
   obtain z|z:=hf
   ·exact z
   ·rw[z]at hk;cases hk
  obtain⟨c,hc⟩:=I.ok.has x (.inl hk);obtain⟨w',z⟩:=I.cell x c hc;refine wpAny_storeName_cell I.ok.kind hk hc z (λh' fi hs=>?_);obtain⟨oc,hoc,aAP⟩:=id z;refine h { s with heap:=h' } ⟨I.ok,I.os,I.bare,⟨λb o e n hb hx=>?_,λb o e n hb hx=>?_,I.base.free,λb o e hx=>?_,I.base.tups,I.base.frzs,I.base.tbls⟩,⟨m,hn.sameBut hs (Ne.symm (cne x c hc)),λj y v' e1 e2 e3=>?_⟩,λy c' e=>?_,I.free,I.freeC,λp hp=>?_,tracked ⟨oc,hoc,I.freeC x c hc⟩ hs,by simpa using I.len⟩ ⟨c,hs,.inr hc⟩
  ·exact(hs.2 b (MA (LP (LL e) (I.ok.cab x c qq hc)))).trans (I.base.keep b o e n hb hx)
  ·obtain⟨sl,e1⟩:=I.base.slot b o e n hb hx;exact⟨sl,(hs.2 b (MA (LP (LL e) (I.ok.cab x c qq hc)))).trans e1⟩
  ·obtain⟨o',e1⟩:=I.base.there b o e hx;exact⟨o',(hs.2 b (MA (LP (LL e) (I.ok.cab x c qq hc)))).trans e1⟩
  ·by_cases hj:j=i
   ·subst hj;rw[hi]at e1;cases e1;rw[ME hiσ]at e2;cases e2;exact⟨u,r,.inr ⟨.inl hk,c,hc,fi⟩⟩
   ·rw[LX (Ne.symm hj)]at e2;obtain⟨u',r',q⟩:=hl j y v' e1 e2 e3;refine⟨u',r',?_⟩;obtain q|⟨k,c',e,z'⟩:=q
    ·exact .inl q
    ·refine .inr ⟨k,c',e,z'.sameBut hs ?_⟩;rintro rfl;exact hj (Fh hN e1 (I.ok.inj _ _ _ e hc ▸ hi))
  ·by_cases hcc:c'=c
   ·subst hcc;exact⟨_,fi⟩
   ·obtain⟨w2,z2⟩:=I.cell y c' e;exact⟨w2,z2.sameBut hs hcc⟩
  ·obtain⟨e,n,ne,nf,d⟩:=I.pin p hp;refine⟨(hs.2 p.1 ?_).trans e,n,ne,nf,d⟩;intro q;rw[q,hoc]at e;have q':oc=p.2:=Option.some.inj e;exact d w' (by rw[<-q'];exact aAP)
theorem iU{E:oA->oB->Prop}{Q:Unit->oB->Prop}(I:aT X pins σ H s)(hN:X.N.Nodup)(hi:X.N[i]?=oZ x)(hx:xR X.env.scope x)(r:bC v u)(h:∀s',aT X pins (σ.set i (oZ v)) H s'->Q () s')(hf:X.fn x=true\/X.env.scope.names.lookup x=oZ .local:=by first|exact .inl rfl|exact .inr rfl|assumption):SQ M A (storeName X.env x u) Q E s:=
 zK I hN hi hx r (λs' I' _=>h s' I') hf
theorem aT.call'(I:aT X pins σ H s)(ho:s'.os=s.os)(u:Un (El X.stack) ch H H' s.heap s'.heap)(hok:oT X.prog X.w H' s'.heap)(hg:UP s'.gens)(mj:∀b∈ch,(b∈X.ex\/X.s₀.heap.objs.size<=b)/\b≠X.env.locals/\(∀x c,X.env.cells.lookup x=oZ c->c≠b)/\∀p∈X.pn++pins,p.1≠b):aT X pins σ H' s':=by
 obtain⟨h',g',d',t',o'⟩:=s';have e:o'=s.os:=ho;subst e;exact I.call (g':=g') (t':=t') (d':=d') u hok hg mj
abbrev XK:=oA->Option SN->Hp->Prop
abbrev St:=List (Option V)
abbrev VK:=V->Hp->Prop
abbrev TE:=St->Hp->VK->Prop
abbrev TT:=St->Hp->(Bool->Hp->Prop)->Prop
abbrev TA:=St->Hp->(List V->Hp->Prop)->Prop
structure cU where
 nx:St->Hp->Prop
 rt:VK
 bk:St->Hp->Prop:=λ_ _=>False
 ct:St->Hp->Prop:=λ_ _=>False
abbrev TS:=cU->St->Hp->Prop
def EP(X:Cx)(pins:List (SN×Obj))(σ:St)(Q:VK)(u:oA)(s':oB):Prop:=∃v H',aT X pins σ H' s'/\bC v u/\Q v H'
def TP(X:Cx)(pins:List (SN×Obj))(σ:St)(Q:Bool->Hp->Prop)(b:Bool)(s':oB):Prop:=∃H',aT X pins σ H' s'/\Q b H'
def AP(X:Cx)(pins:List (SN×Obj))(σ:St)(Q:List V->Hp->Prop)(us:List oA)(s':oB):Prop:=∃vs H',aT X pins σ H' s'/\a9 vs us/\Q vs H'
def SP(X:Cx)(pins:List (SN×Obj))(D:cU)(f:Flow)(s':oB):Prop:=
 match f with
 |.next=>∃σ' H',aT X pins σ' H' s'/\D.nx σ' H'
 |.brk=>∃σ' H',aT X pins σ' H' s'/\D.bk σ' H'
 |.cont=>∃σ' H',aT X pins σ' H' s'/\D.ct σ' H'
 |.ret u=>∃v σ' H',aT X pins σ' H' s'/\bC v u/\D.rt v H'
def PE(X:Cx)(e:oC)(t:TE):Prop:=
 ∀(pins:List (SN×Obj))(s:oB)(σ:St)(H:Hp)(Q:VK),aT X pins σ H s->t σ H Q->SQ (SU X.prog X.w) X.A (TF e X.env) (EP X pins σ Q) X.xe s
def PT(X:Cx)(e:oC)(t:TT):Prop:=
 ∀(pins:List (SN×Obj))(s:oB)(σ:St)(H:Hp)(Q:Bool->Hp->Prop),aT X pins σ H s->t σ H Q->SQ (SU X.prog X.w) X.A (isTrue e X.env (TF e X.env)) (TP X pins σ Q) X.xe s
def PW(X:Cx)(e:oC)(t:TT):Prop:=
 ∀(whole:Sem oA)(pins:List (SN×Obj))(s:oB)(σ:St)(H:Hp)(Q:Bool->Hp->Prop),aT X pins σ H s->t σ H Q->SQ (SU X.prog X.w) X.A (isTrue e X.env whole) (TP X pins σ Q) X.xe s
theorem PW.pt(h:PW X e t):PT X e t:=h _
def PA(X:Cx)(es:List oC)(t:TA):Prop:=
 ∀(pos:Pos)(pins:List (SN×Obj))(s:oB)(σ:St)(H:Hp)(Q:List V->Hp->Prop),aT X pins σ H s->t σ H Q->SQ (SU X.prog X.w) X.A (spliced (UW pos (TJ es X.env))) (AP X pins σ Q) X.xe s
def PS(X:Cx)(st:SV)(t:TS):Prop:=
 ∀(pins:List (SN×Obj))(s:oB)(σ:St)(H:Hp)(D:cU),aT X pins σ H s->t D σ H->SQ (SU X.prog X.w) X.A (exec st X.env) (SP X pins D) X.xe s
def Ko(X:Cx)(st:List SV)(t:TS):Prop:=
 ∀(pins:List (SN×Obj))(s:oB)(σ:St)(H:Hp)(D:cU),aT X pins σ H s->t D σ H->SQ (SU X.prog X.w) X.A (execs st X.env) (SP X pins D) X.xe s
theorem cL{α:Type}{t:Sem α}{Q Q':α->oB->Prop}{M:Model}{A:oD}{E:oA->oB->Prop}{s:oB}(h:SQ M A t Q E s)(hQ:∀a s,Q a s->Q' a s):SQ M A t Q' E s:=TM h hQ λ_ _ x=>x
section
variable{X:Cx}
def yD(i:Nat):TE:=λσ H Q=>∃v,σ[i]?=oZ (oZ v)/\Q v H
def tC(v:V):TE:=λ_ H Q=>Q v H
theorem sL(hN:X.N[i]?=oZ x)(hv:K0 X.env.scope x)(hd:(x==("__debug__":Str))=false:=by decide)(bh:(x==("__classdict__":Str))=false:=by decide):PE X (.Name x pos) (yD i):=by
 intro pins s σ H Q I h;obtain⟨v,e,h⟩:=h;obtain⟨m,hn,hl⟩:=I.loc;obtain⟨u,r,l⟩:=hl i x v hN e hv;have fin:EP X pins σ Q u s:=⟨v,H,I,r,h⟩;obtain⟨hk,hm⟩|⟨hk,c,hc,bg⟩:=l
 ·exact wpAny_Name (wpAny_loadName_local I.ok.kind hk hn hm fin) hd
 ·obtain hk|hk:=hk
  ·exact wpAny_Name (wpAny_loadName_cell I.ok.kind hk hc bg fin) hd
  ·exact wpAny_Name (wpAny_loadName_free I.ok.kind hk hc bg fin bh) hd
theorem X3{i j pos}:PE X (.Constant (.int i) j pos) (tC (.int i)):=λ_ _ _ H _ I h=>wpAny_Constant_int ⟨.int i,H,I.tok _,⟨_,rfl⟩,h⟩
theorem DE{b j pos}:PE X (.Constant (.bool b) j pos) (tC (.bl b)):=λ_ _ _ H _ I h=>Constant_bool ⟨.bl b,H,I,rfl,h⟩
theorem X5{j pos}:PE X (.Constant .none j pos) (tC .non):=λ_ _ _ H _ I h=>Constant_none ⟨.non,H,I,rfl,h⟩
theorem Vb{x j pos}:PE X (.Constant (.str x) j pos) (tC (.str x)):=λ_ _ _ H _ I h=>Calls.Constant_str ⟨.str x,H,I.tok _,⟨_,rfl⟩,h⟩
def Gl(X:Cx)(x:Str):Prop:=X.env.kindOf x=oZ .globalImplicit
theorem Lq{E:oA->oB->Prop}{Q:oA->oB->Prop}(I:aT X pins σ H s)(hg:Gl X x)(hm:X.mg x=oZ u)(h:Q u s)(hd:(x==("__debug__":Str))=false:=by decide):SQ (SU X.prog X.w) X.A (TF (.Name x pos) X.env) Q E s:=
 Calls.Name_function_global I.ok.kind hg (Calls.loadGlobal_global (by rw[I.ok.glob];exact I.mod.glob.keeps I.bk) hm h) hd
theorem pY{E:oA->oB->Prop}{Q:oA->oB->Prop}(I:aT X pins σ H s)(hg:Gl X x)(hm:X.mg x=none)(hv:UA x=oZ u)(h:Q u s)(hn:x≠"__name__":=by decide)(hd:(x==("__debug__":Str))=false:=by decide):SQ (SU X.prog X.w) X.A (TF (.Name x pos) X.env) Q E s:=by
 obtain⟨mb,h1,h2⟩:=I.mod.blt;exact Calls.Name_function_global I.ok.kind hg (Calls.loadGlobal_builtin (by rw[I.ok.glob];exact I.mod.glob.keeps I.bk) hm (by rw[I.ok.blt];exact h1.keeps I.bk) ((h2 x hn).trans hv) h) hd
theorem Lz(hg:Gl X x)(hm:X.mg x=oZ u)(r:bC v u)(hd:(x==("__debug__":Str))=false:=by decide):PE X (.Name x pos) (tC v):=
 λ_ _ _ H _ I h=>Lq I hg hm ⟨v,H,I,r,h⟩ hd
variable{a b:oC}{ta tb:TE}{pos:Pos}
def PC(X:Cx)(op:CmpOp)(a b:oC)(t:TE):Prop:=
 ∀(pins:List (SN×Obj))(s:oB)(σ:St)(H:Hp)(Q:VK),aT X pins σ H s->t σ H Q->
  SQ (SU X.prog X.w) X.A (TF a X.env) (λv s₁=>SQ (SU X.prog X.w) X.A (TF b X.env) (λu s₂=>SQ (SU X.prog X.w) X.A (TL op v u) (EP X pins σ Q) X.xe s₂) X.xe s₁) X.xe s
def tB(t:TE):TT:=λσ H Q=>t σ H λx H1=>∃c,x = .bl c/\Q c H1
theorem Y7(h:PC X op a b t)(h1:TH op b=false:=by first|exact nobehind _ ∅ ∅|rfl):PT X (.Compare a [op] [b] pos) (tB t):=by
 intro pins s σ H Q I hw;refine wpAny_isTrue_Compare1 (cL (h pins s σ H _ I hw) λv s1 h1=>cL h1 λu s2 h2=>cL h2 λc s3⟨x,H1,I1,r1,q1⟩=>?_) h1;obtain⟨d,rfl,q⟩:=q1;cases r1;exact TU ⟨H1,I1,q⟩
theorem Y9(h:PE X e t)(he:∀whole,isTrue e X.env whole=(do let v <-whole;standAt e.pos;UJ [v] (truthy v)):=by intro _;rfl):PT X e (tB t):=by
 intro pins s σ H Q I hw;refine isTrue_plain (cL (h pins s σ H _ I hw) λv s1⟨x,H1,I1,r1,q1⟩=>?_) (he _);obtain⟨d,rfl,q⟩:=q1;cases r1;exact TU ⟨H1,I1,q⟩
variable{tA ph:TT}{rest:List oC}
def EL(t u:TT):TT:=λσ H Q=>t σ H λc H1=>if c=true then u σ H1 Q else Q false H1
def JR(t u:TT):TT:=λσ H Q=>t σ H λc H1=>if c=true then Q true H1 else u σ H1 Q
def FD(t:TT):TT:=λσ H Q=>t σ H λc H1=>Q (!c) H1
theorem D8(ha:PT X a tA):PW X (.BoolOp .And [a] pos) tA:=by
 intro wh pins s σ H Q I h;refine isTrue_and (cL (ha pins s σ H Q I h) λc s1 e=>?_);cases c with
 |true=>exact isTrue_and_nil e
 |false=>exact e
theorem Z2(ha:PT X a tA):PW X (.BoolOp .Or [a] pos) tA:=by
 intro wh pins s σ H Q I h;refine isTrue_or (cL (ha pins s σ H Q I h) λc s1 e=>?_);cases c with
 |false=>exact isTrue_or_nil e
 |true=>exact e
theorem Z1(ha:PT X a tA)(hb:PW X (.BoolOp .And (b::rest) pos) ph):PW X (.BoolOp .And (a::b::rest) pos) (EL tA ph):=by
 intro wh pins s σ H Q I h;refine isTrue_and (cL (ha pins s σ H _ I h) λc s1 zZ=>?_);obtain⟨H1,I1,q1⟩:=zZ;cases c with
 |true=>exact hb wh pins s1 σ H1 Q I1 q1
 |false=>exact⟨H1,I1,q1⟩
theorem DL(ha:PT X a tA)(hb:PW X (.BoolOp .Or (b::rest) pos) ph):PW X (.BoolOp .Or (a::b::rest) pos) (JR tA ph):=by
 intro wh pins s σ H Q I h;refine isTrue_or (cL (ha pins s σ H _ I h) λc s1 zZ=>?_);obtain⟨H1,I1,q1⟩:=zZ;cases c with
 |true=>exact⟨H1,I1,q1⟩
 |false=>exact hb wh pins s1 σ H1 Q I1 q1
theorem Y8(ha:PT X a tA):PT X (.UnaryOp .Not a pos) (FD tA):=by
 intro pins s σ H Q I h;exact isTrue_not (ha pins s σ H (λc H1=>Q (!c) H1) I h)
def FF(ta tb:TE):TE:=λσ H Q=>ta σ H λx H1=>∃c,x = .bl c/\if c=true then Q (.bl true) H1 else tb σ H1 Q
theorem X6{op}(h:PE X a t):PE X (.BoolOp op [a] pos) t:=λpins s σ H Q I hw=>BoolOp_one (h pins s σ H Q I hw)
theorem DI(ha:PE X a ta)(hb:PE X (.BoolOp .Or (b::rest) pos) tb):PE X (.BoolOp .Or (a::b::rest) pos) (FF ta tb):=by
 intro pins s σ H Q I h;refine BoolOp_or (cL (ha pins s σ H _ I h) λv s1 zZ=>?_);obtain⟨x,H1,I1,r1,q1⟩:=zZ;obtain⟨c,rfl,q1⟩:=q1;cases r1;refine TU ?_;cases c with
 |false=>exact hb pins s1 σ H1 Q I1 q1
 |true=>exact⟨.bl true,H1,I1,rfl,q1⟩
def JP(t:TT)(ta tb:TE):TE:=λσ H Q=>t σ H λc H1=>if c=true then ta σ H1 Q else tb σ H1 Q
theorem Uz(hc:PT X c tA)(ha:PE X a ta)(hb:PE X b tb):PE X (.IfExp c a b pos) (JP tA ta tb):=by
 intro pins s σ H Q I h;refine wpAny_IfExp (cL (hc pins s σ H _ I h) λd s1 zZ=>?_);obtain⟨H1,I1,q1⟩:=zZ;cases d with
 |true=>exact ha pins s1 σ H1 Q I1 q1
 |false=>exact hb pins s1 σ H1 Q I1 q1
end
def lA(K:W.Frag)(H:Hp)(a:SN)(xs:List V):Prop:=
 Rd H a (.lst xs)\/
  ∃(o:Obj)(VL:Array oA)(n:Nat),K.lookup a=oZ o/\o.cls = .type "list"/\o.dict=none/\o.data = .seq VL n/\VL.size<=SY/\a9 xs VL.toList
def Dh(K:W.Frag)(H:Hp)(a:SN)(xs:List V):Prop:=
 Rd H a (.tup xs)\/
  ∃(o:Obj)(VL:Array oA)(n:Nat),K.lookup a=oZ o/\o.cls = .type "tuple"/\o.data = .seq VL n/\VL.size<=SY/\a9 xs VL.toList
def HE:oA->Option V
 |.none=>oZ .non
 |.bool b=>oZ (.bl b)
 |.int i _=>oZ (.int i)
 |.str x _=>oZ (.str x)
 |.bytes b _=>oZ (.byt b)
 |.float b _=>oZ (.flt b)
 |.ref a=>oZ (.ref a)
 |.type n=>oZ (.ty n)
 |_=>none
theorem bC.abs(r:bC x u):HE u=oZ x:=by
 cases x with
 |non=>cases r;rfl
 |bl _=>cases r;rfl
 |int _=>obtain⟨t,rfl⟩:=r;rfl
 |str _=>obtain⟨t,rfl⟩:=r;rfl
 |byt _=>obtain⟨t,rfl⟩:=r;rfl
 |flt _=>obtain⟨t,rfl⟩:=r;rfl
 |ref _=>cases r;rfl
 |ty _=>cases r;rfl
theorem bC.inj(r:bC x u)(q:bC y u):x=y:=Option.some.inj (r.abs.symm.trans q.abs)
theorem a9.inj:∀{xs ys:List V}{us:List oA},a9 xs us->a9 ys us->xs=ys
 |_,_,_,.nil,.nil=>rfl
 |_,_,_,.cons r t,.cons r' t'=>by rw[r.inj r',a9.inj t t']
theorem lA.of{H:Hp}{a:SN}{xs:List V}{K:W.Frag}(h:H a=oZ (.lst xs)):lA K H a xs:=.inl (.inl h)
theorem aT.list(I:aT X pins σ H s)(h:lA X.K H a xs):∃VL:List oA,a9 xs VL/\PlainL s.heap a VL.toArray/\xs.length<=SY:=by
 obtain h|⟨o,VL,n,hk,hc,hd,hs,hz,r⟩:=h
 ·obtain⟨z,VL,n,r,e⟩:=h.ok I.hok;exact⟨VL,r,⟨_,n,e,rfl,rfl,rfl⟩,z⟩
 ·refine⟨VL.toList,r,⟨o,n,I.kIn a o hk,hc,hd,by simpa using hs⟩,?_⟩;have e:=r.length;simp only[Array.length_toList]at e
  lia
theorem aT.tuple(I:aT X pins σ H s)(h:Dh X.K H a xs):∃VL:List oA,a9 xs VL/\IsTup s.heap a VL.toArray/\xs.length<=SY:=by
 obtain h|⟨o,VL,n,hk,hc,hs,hz,r⟩:=h
 ·obtain⟨z,VL,r,p⟩:=h.ok I.hok;exact⟨VL,r,p,z⟩
 ·refine⟨VL.toList,r,⟨o,I.kIn a o hk,hc,n,by simpa using hs⟩,?_⟩;have e:=r.length;simp only[Array.length_toList]at e
  lia
theorem aT.list_inj(I:aT X pins σ H s)(h:lA X.K H a xs)(h':lA X.K H a ys):xs=ys:=by
 obtain⟨VL,r,⟨o,n,e,_,_,d⟩,_⟩:=I.list h;obtain⟨its',r',⟨o',n',e',_,_,d'⟩,_⟩:=I.list h';rw[e]at e';cases e';rw[d]at d';injection d' with d1 _;have:VL=its':=by simpa using congrArg SM d1
 subst this;exact r.inj r'
theorem aT.tuple_inj(I:aT X pins σ H s)(h:Dh X.K H a xs)(h':Dh X.K H a ys):xs=ys:=by
 obtain⟨VL,r,⟨o,e,_,n,d⟩,_⟩:=I.tuple h;obtain⟨its',r',⟨o',e',_,n',d'⟩,_⟩:=I.tuple h';rw[e]at e';cases e';rw[d]at d';injection d' with d1 _;have:VL=its':=by simpa using congrArg SM d1
 subst this;exact r.inj r'
abbrev Cx.wish(X:Cx)(E:oA->oB->Prop):Cx:={ X with xe:=E }
abbrev Cx.nox(X:Cx):Cx:=X.wish λ_ _=>False
theorem Cx.Ok.wish{X:Cx}(ok:X.Ok)(E:oA->oB->Prop):(X.wish E).Ok:=
 ⟨ok.mod,ok.kind,ok.glob,ok.blt,ok.above,ok.inj,ok.has,ok.cab,ok.hd,ok.frames,ok.stk,ok.exf,ok.bs,ok.bsz,ok.noex,ok.exfs,ok.funs,ok.frf⟩
theorem Cx.Ok.unwish{X:Cx}{E:oA->oB->Prop}(ok:(X.wish E).Ok):X.Ok:=
 ⟨ok.mod,ok.kind,ok.glob,ok.blt,ok.above,ok.inj,ok.has,ok.cab,ok.hd,ok.frames,ok.stk,ok.exf,ok.bs,ok.bsz,ok.noex,ok.exfs,ok.funs,ok.frf⟩
theorem aT.wish(I:aT X pins σ H s)(E:oA->oB->Prop):aT (X.wish E) pins σ H s:=⟨I.ok.wish E,I.os,I.bare,I.base,I.loc,I.cell,I.free,I.freeC,I.pin,I.hok,I.len⟩
theorem aT.unwish{E:oA->oB->Prop}(I:aT (X.wish E) pins σ H s):aT X pins σ H s:=⟨I.ok.unwish,I.os,I.bare,I.base,I.loc,I.cell,I.free,I.freeC,I.pin,I.hok,I.len⟩
theorem SP.unwish{E:oA->oB->Prop}(h:SP (X.wish E) pins D f s'):SP X pins D f s':=by
 cases f with
 |next=>obtain⟨σ',H',I,q⟩:=h;exact⟨σ',H',I.unwish,q⟩
 |brk=>obtain⟨σ',H',I,q⟩:=h;exact⟨σ',H',I.unwish,q⟩
 |cont=>obtain⟨σ',H',I,q⟩:=h;exact⟨σ',H',I.unwish,q⟩
 |ret u=>obtain⟨v,σ',H',I,r,q⟩:=h;exact⟨v,σ',H',I.unwish,r,q⟩
theorem Ko.nox{X:Cx}{st:List SV}(h:Ko X.nox st t):Ko X st t:=λpins s σ H D I hw=>
 TM (h pins s σ H D (I.wish _) hw) (λ_ _ q=>q.unwish) λ_ _ z=>False.elim z
section
variable{X:Cx}{st:SV}{rest:List SV}{t u:TS}{e:oC}{te:TE}{pos:Pos}
def O0:TS:=λD σ H=>D.nx σ H
def FL(t u:TS):TS:=λD σ H=>t { D with nx:=u D } σ H
theorem D6:Ko X [] O0:=λ_ _ σ H _ I h=>VC ⟨σ,H,I,h⟩
theorem Ve(h1:PS X st t)(h2:Ko X rest u):Ko X (st::rest) (FL t u):=by
 intro pins s σ H D I h;refine wpAny_execs_cons (cL (h1 pins s σ H { D with nx:=u D } I h) λf s1 q=>?_);cases f with
 |next=>
  obtain⟨σ',H',I',q⟩:=q;exact h2 pins s1 σ' H' D I' q
 |ret v=>exact q
 |brk=>exact q
 |cont=>exact q
theorem D7(h1:PS X st t):Ko X [st] t:=by
 intro pins s σ H D I h;refine wpAny_execs_cons (cL (h1 pins s σ H D I h) λf s1 q=>?_);cases f with
 |next=>exact VC q
 |ret v=>exact q
 |brk=>exact q
 |cont=>exact q
theorem aT.quiet(I:aT X pins σ H s):interactive X.env=false:=by simp[interactive,I.ok.kind]
def N3(te:TE):TS:=λD σ H=>te σ H λ_ H1=>D.nx σ H1
theorem D3(he:PE X e te)(hs:TV e none pos.line X.env=pure false:=by rfl):PS X (.Expr e pos) (N3 te):=by
 intro pins s σ H D I h;exact wpAny_Expr_any (cL (he pins s σ H _ I h) λv s1 zZ=>by obtain⟨x,H1,I1,r1,q1⟩:=zZ;exact⟨σ,H1,I1,q1⟩) I.quiet hs
def FJ(te:TE):TS:=λD σ H=>te σ H D.rt
theorem Y5(he:PE X e te):PS X (.Return (oZ e) pos) (FJ te):=by
 intro pins s σ H D I h;exact wpAny_Return_some (cL (he pins s σ H _ I h) λv s1 zZ=>by obtain⟨x,H1,I1,r1,q1⟩:=zZ;exact⟨x,σ,H1,I1,r1,q1⟩)
def EV(c:TT)(t u:TS):TS:=λD σ H=>c σ H λb H1=>if b=true then t D σ H1 else u D σ H1
theorem DK(hc:PT X c tc)(ha:Ko X a t)(hb:Ko X b u):PS X (.If c a b pos) (EV tc t u):=by
 intro pins s σ H D I h;refine wpAny_If (cL (hc pins s σ H _ I h) λd s1 zZ=>?_);obtain⟨H1,I1,q1⟩:=zZ;cases d with
 |true=>exact ha pins s1 σ H1 D I1 q1
 |false=>exact hb pins s1 σ H1 D I1 q1
end
abbrev TG:=V->St->Hp->(St->Hp->Prop)->Prop
abbrev P8:=List V->St->Hp->(St->Hp->Prop)->Prop
def PG(X:Cx)(target:oC)(t:TG):Prop:=
 ∀(pins:List (SN×Obj))(s:oB)(σ:St)(H:Hp)(v:V)(u:oA)(Q:St->Hp->Prop),aT X pins σ H s->bC v u->t v σ H Q->
  SQ (SU X.prog X.w) X.A (UN target X.env u) (λ_ s'=>∃σ' H',aT X pins σ' H' s'/\Q σ' H') X.xe s
def BH(X:Cx)(ts:List oC)(t:P8):Prop:=
 ∀(pins:List (SN×Obj))(s:oB)(σ:St)(H:Hp)(vs:List V)(us:List oA)(Q:St->Hp->Prop),aT X pins σ H s->a9 vs us->t vs σ H Q->
  SQ (SU X.prog X.w) X.A (UY ((TN ts X.env).map (·.2)) us) (λ_ s'=>∃σ' H',aT X pins σ' H' s'/\Q σ' H') X.xe s
abbrev BJ:=V->V->V->Hp->(Hp->Prop)->Prop
def P7(X:Cx)(t:BJ):Prop:=
 ∀(pins:List (SN×Obj))(s:oB)(σ:St)(H:Hp)(o i v:V)(ov iv u:oA)(Q:Hp->Prop),aT X pins σ H s->bC o ov->bC i iv->bC v u->t o i v H Q->
  SQ (SU X.prog X.w) X.A (setItem ov iv u) (λ_ s'=>∃H',aT X pins σ H' s'/\Q H') X.xe s
abbrev HD:=V->V->Hp->VK->Prop
def HB(X:Cx)(op:Operator)(t:HD):Prop:=
 ∀(pins:List (SN×Obj))(s:oB)(σ:St)(H:Hp)(x y:V)(v u:oA)(Q:VK),aT X pins σ H s->bC x v->bC y u->t x y H Q->
  SQ (SU X.prog X.w) X.A (inplaceOp op v u) (EP X pins σ Q) X.xe s
def nA(i:Nat):TG:=λv σ H Q=>Q (σ.set i (oZ v)) H
theorem C8(hN:X.N.Nodup)(hi:X.N[i]?=oZ x)(hx:xR X.env.scope x)(hf:X.fn x=true\/X.env.scope.names.lookup x=oZ .local:=by first|exact .inl rfl|exact .inr rfl|assumption):PG X (.Name x pos) (nA i):=by
 intro pins s σ H v u Q I r h;exact wpAny_assign_Name (iU I hN hi hx r (λs' I'=>⟨_,H,I',h⟩) hf)
def Zk:P8:=λvs σ H Q=>vs=[]/\Q σ H
def y8(t:TG)(u:P8):P8:=λvs σ H Q=>∃v r,vs=v::r/\t v σ H λσ' H'=>u r σ' H' Q
theorem C9:BH X [] Zk:=by
 intro pins s σ H vs us Q I r h;obtain⟨e,h⟩:=h;subst e;cases r;exact VG ⟨σ,H,I,h⟩
theorem Vc(h1:PG X e t)(h2:BH X es u)(hs:(TN (e::es) X.env).map (·.2)=UN e X.env::(TN es X.env).map (·.2):=by rfl):BH X (e::es) (y8 t u):=by
 intro pins s σ H vs us Q I r h;obtain⟨v,vr,e1,h⟩:=h;subst e1;cases r with
 |cons r rr=>
  rw[hs];refine UB (cL (h1 pins s σ H _ _ _ I r h) λ_ s1 zZ=>?_);obtain⟨σ1,H1,I1,q1⟩:=zZ;exact h2 pins s1 σ1 H1 _ _ Q I1 rr q1
def T7(K:W.Frag)(n:Nat)(t:P8):TG:=λv σ H Q=>∃a xs,v = .ref a/\Dh K H a xs/\xs.length=n/\t xs σ H Q
theorem X9(hc:X.calm=true)(h:BH X es t)(hn:(TN es X.env).length=n:=by rfl)(ji:(TN es X.env).findIdx? (·.1)=none:=by rfl):PG X (.Tuple es k pos) (T7 X.K n t):=by
 intro pins s σ H v u Q I r hw;obtain⟨a,xs,e1,hq,hl,hw⟩:=hw;subst e1;cases r;obtain⟨VL,rv,ht,hz⟩:=I.tuple hq;refine assign_Tuple_tuple (I.ok.hd hc) ht (by simp[hn,<-hl,rv.length]) ji λh' hx=>?_;have I1:aT X pins σ H { s with heap:=h' }:=I.kept (t':=s.toks) λb o e=>hx b o (MA (LL e)) e;exact h pins _ σ H xs _ Q I1 (by simpa using rv) hw
def CL(to ti:TE)(t:BJ):TG:=λv σ H Q=>to σ H λo H1=>ti σ H1 λi H2=>t o i v H2 λH3=>Q σ H3
theorem X8(ho:PE X o to)(hi:PE X i ti)(hs:P7 X t)(ha:∀v,UN (.Subscript o i pos) X.env v=(do
   let ov <-UJ [v] (TF o X.env)
   let iv <-UJ [v,ov] (TF i X.env)
   standAt pos
   UJ [v,ov,iv] (setItem ov iv v)
   release [v,ov,iv] []):=by intro _;rfl):PG X (.Subscript o i pos) (CL to ti t):=by
 intro pins s σ H v u Q I r h;rw[ha];refine SO (UO (cL (ho pins s σ H _ I h) λov s1 zZ=>?_));obtain⟨x,H1,I1,r1,q1⟩:=zZ;refine SO (UO (cL (hi pins s1 σ H1 _ I1 q1) λiv s2 zZ=>?_));obtain⟨y,H2,I2,r2,q2⟩:=zZ;refine SO (UE (SO (UO (cL (hs pins s2 σ H2 x y v ov iv u _ I2 r1 r2 r q2) λ_ s3 zZ=>?_))));obtain⟨H3,I3,q3⟩:=zZ;exact wpAny_release ⟨σ,H3,I3,q3⟩
def Kh(te:TE)(g:TG):TS:=λD σ H=>te σ H λx H1=>g x σ H1 D.nx
theorem Y1(he:PE X e te)(hg:PG X tg g)(hs:TY [tg] e pos.line X.env=pure false:=by rfl)(hw:TZ [tg] e X.env=pure none:=by rfl)(h1:(TN [tg] X.env).map (·.2)=[UN tg X.env]:=by rfl):PS X (.Assign [tg] e pos) (Kh te g):=by
 intro pins s σ H D I h;refine wpAny_Assign_stores (cL (he pins s σ H _ I h) λv s1⟨x,H1,I1,r1,q1⟩=>?_) hs hw;rw[h1];exact cL (hg pins s1 σ H1 x v _ I1 r1 q1) λ_ s2 q=>q
theorem Y6(hN:X.N.Nodup)(hi:X.N[i]?=oZ x)(hx:xR X.env.scope x)(he:PE X e te)(hs:TV e (oZ (.Name x pos')) pos.line X.env=pure false:=by rfl)(hf:X.fn x=true\/X.env.scope.names.lookup x=oZ .local:=by first|exact .inl rfl|exact .inr rfl|assumption):
  PS X (.Assign [.Name x pos'] e pos) (Kh te (nA i)):=by
 intro pins s σ H D I h;refine wpAny_Assign_Name (cL (he pins s σ H _ I h) λv s1⟨y,H1,I1,r1,q1⟩=>?_) hs;exact iU I1 hN hi hx r1 (λs2 I2=>⟨_,H1,I2,q1⟩) hf
def FH(i j:Nat)(ta:TA):TS:=λD σ H=>ta σ H λvs H1=>∃v w,vs=[v,w]/\D.nx ((σ.set i (oZ v)).set j (oZ w)) H1
theorem Y4{kt k2 pt2}(hc:X.calm=true)(hN:X.N.Nodup)(hi:X.N[i]?=oZ x)(hj:X.N[j]?=oZ y)(jv:i≠j)(hx:X.env.scope.names.lookup x=oZ .local)(hy:X.env.scope.names.lookup y=oZ .local)(ha:PA X [a,b] ta)(hw:TZ [.Tuple [.Name x px,.Name y py] kt pt] (.Tuple [a,b] k2 pt2) X.env=pure (oZ [x,y]))(hs:TY [.Tuple [.Name x px,.Name y py] kt pt] (.Tuple [a,b] k2 pt2) pos.line X.env=pure false:=by rfl):
  PS X (.Assign [.Tuple [.Name x px,.Name y py] kt pt] (.Tuple [a,b] k2 pt2) pos) (FH i j ta):=by
 intro pins s σ H D I h;rw[exec_Assign_arm];refine SO (UE ?_);rw[hs];refine SO (TB ?_);rw[oW ∅];refine SO (Tuple_ (cL (ha _ pins s σ H _ I h) λus s1 zZ=>?_));obtain⟨vs,H1,I1,r1,q1⟩:=zZ;obtain⟨v,w,e1,q1⟩:=q1;subst e1;obtain⟨u1,u2,rfl,rv,fk⟩:∃u1 u2,us=[u1,u2]/\bC v u1/\bC w u2:=by
  cases r1 with
  |cons p q=>
   cases q with
   |cons p' q'=>
    cases q';exact⟨_,_,rfl,p,p'⟩
 refine UD ?_ (by show 2<=SY;decide);have I2:aT X pins σ H1 { s1 with heap:=s1.heap.push { cls:=.type "tuple",data:=.seq [u1,u2].toArray } }:=I1.kept (t':=s1.toks) λb o e=>LI _ e;rw[hw];refine SO (TB ?_);show SQ (SU X.prog X.w) X.A (do rule "assign.swapped-stores";let items <-unpackItems (.ref s1.heap.objs.size) 2 none;UY [λv=>UM X.env y v,λv=>UM X.env x v] items.reverse;pure Flow.next) _ _ _;refine SO (VH (SO (unpackItems_tuple (items:=#[u1,u2]) (I.ok.hd hc) (IsTup.new s1.heap _) λh' qr=>?_)));have I3:=I2.kept (h':=h') (t':=s1.toks) λb o e=>qr b o (MA (LL e)) e;show SQ _ _ (UY [λv=>UM X.env y v,λv=>UM X.env x v] [u2,u1] >>= λ_=>pure Flow.next) _ _ _;refine SO (UB (UT (iU I3 hN hj (.inl hy) fk (λs2 I4=>?_) (.inr hy))));refine UB (UT (iU I4 hN hi (.inl hx) rv (λs3 I5=>VG (TB ?_)) (.inr hx)));rw[QC _ _ (Ne.symm jv)]at I5;exact⟨_,H1,I5,q1⟩
def IZ(i:Nat)(te:TE)(ti:HD):TS:=λD σ H=>∃x,σ[i]?=oZ (oZ x)/\te σ H λy H1=>ti x y H1 λz H2=>D.nx (σ.set i (oZ z)) H2
theorem Y2(hN:X.N.Nodup)(hi:X.N[i]?=oZ x)(hx:xR X.env.scope x)(he:PE X e te)(ho:HB X op ti)(hf:X.fn x=true\/X.env.scope.names.lookup x=oZ .local:=by first|exact .inl rfl|exact .inr rfl|assumption):
  PS X (.AugAssign (.Name x pos') op e pos) (IZ i te ti):=by
 intro pins s σ H D I h;obtain⟨v,e1,h⟩:=h;obtain⟨m,hn,hl⟩:=I.loc;have vis:K0 X.env.scope x:=by obtain k|k:=hx;exact .inl k;exact .inr (.inl k)
 obtain⟨u,r,l⟩:=hl i x v hi e1 vis;refine wpAny_AugAssign_Name ?_;have go:SQ (SU X.prog X.w) X.A (TF e X.env) (λw s₂=>SQ (SU X.prog X.w) X.A (inplaceOp op u w) (λr s₃=>SQ (SU X.prog X.w) X.A (storeName X.env x r) (λ_=>SP X pins D .next) X.xe s₃) X.xe s₂) X.xe s:=by
  refine cL (he pins s σ H _ I h) λw s1 zZ=>?_;obtain⟨y,H1,I1,r1,q1⟩:=zZ;refine cL (ho pins s1 σ H1 v y u w _ I1 r r1 q1) λz s2 zZ=>?_;obtain⟨zv,H2,I2,r2,q2⟩:=zZ;exact iU I2 hN hi hx r2 (λs3 I3=>⟨_,H2,I3,q2⟩) hf
 obtain⟨hk,hm⟩|⟨hk,c,hc,bg⟩:=l
 ·exact wpAny_loadName_local I.ok.kind hk hn hm go
 ·obtain hk|hk:=hk
  ·exact wpAny_loadName_cell I.ok.kind hk hc bg go
  ·obtain k|k:=hx
   ·have:X.env.scope.names.lookup x=oZ .free:=hk;rw[k]at this;cases this
   ·have:X.env.scope.names.lookup x=oZ .free:=hk;rw[k]at this;cases this
def JI(f:Int->Int->Int):HD:=λx y H Q=>∃i j,x = .int i/\y = .int j/\Q (.int (f i j)) H
theorem Ti:HB X .Add (JI λi j=>i+j):=by
 intro pins s σ H x y v u Q I r1 r2 h;obtain⟨i,j,e1,e2,q⟩:=h;subst e1;subst e2;obtain⟨t,rfl⟩:=r1;obtain⟨t',rfl⟩:=r2;exact iadd_int ⟨.int _,H,I.tok _,⟨_,rfl⟩,q⟩
def Xi(c:TT)(tb:TS):TS:=λD σ H=>∃W:Nat->St->Hp->Prop,(∃m,W m σ H)/\∀m σ H,W m σ H->
 c σ H λb H1=>if b=true then ∃N:St->Hp->Prop,(∀σ' H',N σ' H'->∃m',m'<m/\W m' σ' H')/\tb { D with nx:=N,ct:=N,bk:=D.nx } σ H1 else D.nx σ H1
theorem Vd(hp:PassesOwn (SU X.prog X.w) X.A X.env X.xe)(hc:PT X c tc)(hb:Ko X body tb):PS X (.While c body [] pos) (Xi tc tb):=by
 intro pins s σ H D I h;obtain⟨W,⟨m0,w0⟩,turn⟩:=h;refine wpAny_While (codeAny_whileLoop (λn s'=>∃σ' H',aT X pins σ' H' s'/\W n σ' H') ?_ m0 ⟨σ,H,I,w0⟩);rintro n s1 ⟨σ1,H1,I1,w1⟩;refine UC hp (cL (hc pins s1 σ1 H1 _ I1 (turn n σ1 H1 w1)) λb s2 zZ=>?_);obtain⟨H2,I2,q2⟩:=zZ;cases b with
 |true=>
  obtain⟨N,hN,q2⟩:=q2;rw[oV rfl];refine UC hp (cL (hb pins s2 σ1 H2 _ I2 q2) λf s3 q3=>?_);cases f with
  |next=>
   obtain⟨σ3,H3,I3,n3⟩:=q3;obtain⟨m',hm,w3⟩:=hN σ3 H3 n3;exact⟨m',hm,σ3,H3,I3,w3⟩
  |cont=>
   obtain⟨σ3,H3,I3,n3⟩:=q3;obtain⟨m',hm,w3⟩:=hN σ3 H3 n3;exact⟨m',hm,σ3,H3,I3,w3⟩
  |brk=>exact q3
  |ret v=>exact q3
 |false=>
  rw[oW NZ];exact VC ⟨σ1,H2,I2,q2⟩
structure It where
 go:Nat->Hp->Prop
 yld:Nat->Hp->V->Hp->Prop
 stop:Nat->Hp->Prop
def pC(X:Cx)(pins:List (SN×Obj))(H:Hp)(b:SN):Prop:=
 H b=none/\b≠X.env.locals/\b∉X.fs/\(b∈X.ex\/X.s₀.heap.objs.size<=b)/\(∀x c,X.env.cells.lookup x=oZ c->c≠b)/\∀p∈X.pn++pins,p.1≠b
theorem aT.fpOk(I:aT X pins σ H s)(hb:s.heap.objs.size<=b)(hn:H' b=none):pC X pins H' b:=by
 refine⟨hn,Nat.ne_of_gt (LP I.lt hb),I.nofs hb,.inr (MV I.sz hb),λx c e z=>?_,λp hp z=>?_⟩
 ·obtain⟨v,q⟩:=I.cell x c e;exact absurd (LP q.lt (by rw[z];exact hb)) (Nat.lt_irrefl _)
 ·exact absurd (LP (LL (I.pin p hp).1) (by rw[z];exact hb)) (Nat.lt_irrefl _)
structure Nx(P:SR)(w:SX)(K:W.Frag)(tg:oC)(J:It)(fp:List SN)(it:SN)(tn:Nat->oE->Prop):Prop where
 mem:it∈fp
 obj:∀i h,tn i h->∀b∈fp,∃o,h.get? b=oZ o/\∀v,o.data≠.cell v
 keep:∀i h h',tn i h->(∀b∈fp,∀o,h.get? b=oZ o->h'.get? b=oZ o)->tn i h'
 item:∀(X:Cx),X.prog=P->X.w=w->X.K=K->X.calm=true->∀(i:Nat)(pins:List (SN×Obj))(s:oB)(σ:St)(H:Hp)(E:oA->oB->Prop),aT X pins σ H s->(∀b∈fp,pC X pins H b)->tn i s.heap->J.go i H->
  SQ (SU P w) X.A (pyNext (.ref it)) (λr s1=>∃u,r=oZ u/\
   SQ (SU P w) X.A (UG tg (.ref it) u) (λ_ s2=>∃x H',aT X pins σ H' s2/\bC x u/\J.yld i H x H'/\tn (i+1) s2.heap/\∀b∈fp,H' b=none) E s1) E s
 done:∀(X:Cx),X.prog=P->X.w=w->X.K=K->X.calm=true->∀(i:Nat)(pins:List (SN×Obj))(s:oB)(σ:St)(H:Hp)(E:oA->oB->Prop),aT X pins σ H s->(∀b∈fp,pC X pins H b)->tn i s.heap->J.stop i H->
  SQ (SU P w) X.A (pyNext (.ref it)) (λr s1=>r=none/\aT X pins σ H s1) E s
 self:∀(A:oD)(i:Nat)(s:oB)(Q:oA->oB->Prop)(E:oA->oB->Prop),tn i s.heap->Q (.ref it) s->SQ (SU P w) A (pyIter (.ref it)) Q E s
abbrev TI:=St->Hp->(It->Hp->Prop)->Prop
def GR(X:Cx)(pins:List (SN×Obj))(σ:St)(tg:oC)(R:It->Hp->Prop)(zd:oA)(s2:oB):Prop:=
 ∃(it:SN)(fp:List SN)(tn:Nat->oE->Prop)(J:It)(H':Hp),zd = .ref it/\aT X pins σ H' s2/\Nx X.prog X.w X.K tg J fp it tn/\tn 0 s2.heap/\(∀b∈fp,pC X pins H' b)/\R J H'
def PI(X:Cx)(tg iter:oC)(wi:TI):Prop:=
 ∀(pins:List (SN×Obj))(s:oB)(σ:St)(H:Hp)(R:It->Hp->Prop),aT X pins σ H s->wi σ H R->
  SQ (SU X.prog X.w) X.A (TF iter X.env) (λv s1=>SQ (SU X.prog X.w) X.A (pyIter v) (GR X pins σ tg R) X.xe s1) X.xe s
theorem Sz {E:oA->oB->Prop} {Q:Unit->oB->Prop} (ho:s.heap.get? it=oZ o) (hc:o.cls = .type n) (hd:o.data = .fields vs) (hn:["enumerate","zip","dict_itemiterator","dict_reverseitemiterator","odict_iterator","itertools.zip_longest","itertools.pairwise"].contains n=false) (hQ:Q () s):SQ M A (UG tg (.ref it) u) Q E s:=by
  unfold UG;cases tg<;>first
    | exact TB hQ
    | (cases u<;>first
        | exact TB hQ
        | (refine SO (wpAny_load ho ?_)
           rw [hc,hd];show SQ M A (if (["enumerate","zip","dict_itemiterator","dict_reverseitemiterator","odict_iterator","itertools.zip_longest","itertools.pairwise"].contains n&&vs[0]?==oZ (rawInt _))=true then _ else _) Q E s;rw [oW (by intro h;rw [hn,Bool.false_and] at h;cases h)];exact TB hQ))
def GY(K:W.Frag)(a:SN):It:=
 ⟨λi H=>∃xs x,lA K H a xs/\xs[i]?=oZ x,λi H x H'=>H'=H/\∀xs,lA K H a xs->xs[i]?=oZ x,λi H=>∃xs,lA K H a xs/\xs.length<=i⟩
def AY(lo:Int)(n:Nat):It:=⟨λi _=>i<n,λi H x H'=>H'=H/\x = .int (lo+i),λi _=>n<=i⟩
theorem Ra{P:SR}{w:SX}{K:W.Frag}{tg:oC}(a it:SN):Nx P w K tg (GY K a) [it] it (λi h=>h.IsListIter it a i) where
 mem:=by simp
 obj:=λi h st b hb=>by
  have e:b=it:=by simpa using hb
  subst e;obtain⟨o,e,c,d⟩:=st;exact⟨o,e,λv z=>by rw[d]at z;cases z⟩
 keep:=λi h h' st k=>st.at λo e=>k it (by simp) o e
 item:=by
  intro X hP hw hK hc i pins s σ H E I hf st hg;subst hP hw hK;obtain⟨xs,x,hq,hx⟩:=hg;obtain⟨VL,rv,p,hz⟩:=I.list hq;obtain⟨u,hu,ru⟩:=rv.get hx;obtain⟨f0,f1,f2,f3,f4,f5⟩:=hf it (by simp);refine wpAny_pyNext_list_item st p.isList (x:=u) (by simpa using hu) λh' pj sb=>?_;have I1:aT X pins σ H { s with heap:=h' }:=I.turned (t':=s.toks) (λb o hb e=>(sb.2 b hb).trans e) f0 f1 f3 f4 f5;obtain⟨o,e,c,d⟩:=id pj;exact⟨u,rfl,Sz (s:={ s with heap:=h' }) e c d ∅ ⟨x,H,I1,ru,⟨rfl,λys hy=>by rw[I.list_inj hy hq];exact hx⟩,pj,λb hb=>(hf b hb).1⟩⟩
 done:=by
  intro X hP hw hK hc i pins s σ H E I hf st hg;subst hP hw hK;obtain⟨xs,hq,hx⟩:=hg;obtain⟨VL,rv,p,hz⟩:=I.list hq;obtain⟨f0,f1,f2,f3,f4,f5⟩:=hf it (by simp);have hl:=rv.length;exact wpAny_pyNext_list_end (I.ok.hd hc) st p.isList (by simp;lia) λh' eb=>⟨rfl,I.turned (t':=s.toks) (λb o hb e=>eb b o hb e) f0 f1 f3 f4 f5⟩
 self:=λ_ _ _ _ _ st h=>wpAny_pyIter_listiter st h
theorem Kk{P:SR}{w:SX}{K:W.Frag}{tg:oC}(it:SN)(lo:Int)(n:Nat):Nx P w K tg (AY lo n) [it] it (λi h=>IsRangeIter h it (lo+(i:Nat)*1) ((n:Int)-(i:Nat)) 1) where
 mem:=by simp
 obj:=λi h st b hb=>by
  have e:b=it:=by simpa using hb
  subst e;exact⟨_,st,λv z=>by
   have z':Data.fields _=Data.cell v:=z;cases z'⟩
 keep:=λi h h' st k=>k it (by simp) _ st
 item:=by
  intro X hP hw hK hc i pins s σ H E I hf st hg;subst hP hw hK;obtain⟨f0,f1,f2,f3,f4,f5⟩:=hf it (by simp);have W:=Walks.range (prog:=X.prog) (w:=X.w) (I.ok.hd hc) it lo 1 n;refine W.item i s _ _ hg st λv h' tk hv pj kk=>?_;obtain⟨t,rfl⟩:=hv;have I1:aT X pins σ H { s with heap:=h',toks:=tk }:=I.turned (λb o hb e=>kk b o (by simpa using hb) e) f0 f1 f3 f4 f5;refine⟨_,rfl,Sz (s:={ s with heap:=h',toks:=tk }) (n:="range_iterator") pj rfl rfl ∅ ⟨.int (lo+i),H,I1,⟨t,?_⟩,⟨rfl,rfl⟩,pj,λb hb=>(hf b hb).1⟩⟩;rw[Int.mul_one]
 done:=by
  intro X hP hw hK hc i pins s σ H E I hf st hg;subst hP hw hK;obtain⟨f0,f1,f2,f3,f4,f5⟩:=hf it (by simp);exact wpAny_pyNext_range_end (I.ok.hd hc) st (by have:n<=i:=hg;lia) λh' eb=>⟨rfl,I.turned (t':=s.toks) (λb o hb e=>eb b o hb e) f0 f1 f3 f4 f5⟩
 self:=λ_ _ _ _ _ st h=>wpAny_pyIter_rangeiter st h
def Tg(K:W.Frag)(tl:TE):TI:=λσ H R=>tl σ H λx H1=>∃a,x = .ref a/\(∃xs,lA K H1 a xs)/\R (GY K a) H1
theorem Ma(hl:PE X l tl):PI X tg l (Tg X.K tl):=by
 intro pins s σ H R I h;refine cL (hl pins s σ H _ I h) λv s1 zZ=>?_;obtain⟨x,H1,I1,r1,q1⟩:=zZ;obtain⟨a,e,⟨xs,hq⟩,q⟩:=q1;subst e;cases r1;obtain⟨VL,rv,p,hz⟩:=I1.list hq;refine wpAny_pyIter_list p.isList ?_;refine⟨s1.heap.objs.size,[s1.heap.objs.size],_,_,H1,rfl,I1.kept (t':=s1.toks) λb o e=>LI _ e,Ra a _,⟨_,LU _ rfl,rfl,rfl⟩,λb hb=>?_,q⟩;have e:b=s1.heap.objs.size:=by simpa using hb
 subst e;exact I1.fpOk (LN _) (I1.hok.fresh (LN _))
theorem Gg{R:It->Hp->Prop}{E:oA->oB->Prop}{lo hi:Int}(I:aT X pins σ H s)(h1:-(2^62)<=lo)(h2:lo<2^62)(h3:-(2^62)<=hi)(h4:hi<2^62)(q:R (AY lo (hi-lo).toNat) H):SQ (SU X.prog X.w) X.A (pyIter (.ref s.heap.objs.size)) (GR X pins σ tg R) E { s with heap:=s.heap.push { cls:=.type "range",data:=.fields #[.int lo t,.int hi u,.int 1 v] },toks:=tk }:=by
 refine wpAny_pyIter_range (IsRange.new ..) (small_one h1 h2 h3 h4) ?_;have I1:aT X pins σ H { s with heap:=s.heap.push { cls:=.type "range",data:=.fields #[.int lo t,.int hi u,.int 1 v] },toks:=tk }:=I.kept λb o e=>LI _ e;refine⟨(s.heap.push { cls:=.type "range",data:=.fields #[.int lo t,.int hi u,.int 1 v] }).objs.size,[(s.heap.push { cls:=.type "range",data:=.fields #[.int lo t,.int hi u,.int 1 v] }).objs.size],_,_,H,rfl,
  I1.kept (t':=tk) λb o e=>LI _ e,Kk _ lo (hi-lo).toNat,?_,λb hb=>?_,q⟩
 ·have e1:lo+((0:Nat):Int)*1=lo:=by simp
  have e2:(((hi-lo).toNat:Nat):Int)-((0:Nat):Int)=Builtin.Range.rangeSize lo hi 1:=by rw[rangeSize_one];split<;>lia
  show IsRangeIter _ _ (lo+((0:Nat):Int)*1) ((((hi-lo).toNat:Nat):Int)-((0:Nat):Int)) 1;rw[e1,e2];exact LU _ rfl
 ·have e:b=(s.heap.push { cls:=.type "range",data:=.fields #[.int lo t,.int hi u,.int 1 v] }).objs.size:=by simpa using hb
  subst e;exact I1.fpOk (LN _) (I1.hok.fresh (LN _))
def L3(ta:TA):TI:=λσ H R=>ta σ H λvs H1=>∃j:Int,vs=[.int j]/\-(2^62)<=j/\j<2^62/\R (AY 0 j.toNat) H1
def L4(ta:TA):TI:=λσ H R=>ta σ H λvs H1=>∃i j:Int,vs=[.int i,.int j]/\(-(2^62)<=i/\i<2^62/\-(2^62)<=j/\j<2^62)/\R (AY i (j-i).toNat) H1
theorem Qh(hg:Gl X "range")(hm:X.mg "range" = none)(ha:PA X [a] ta)(hs:TJ [a] X.env=[(false,TF a X.env)]:=by rfl):PI X tg (.Call (.Name "range" p) [a] [] pos) (L3 ta):=by
 intro pins s σ H R I h;refine Call_ (pY I hg hm boot_range (PyProof.Rows.callWith_type1 (cL (ha pos pins s σ H _ I h) λus s1⟨vs,H1,I1,r1,q1⟩=>?_) hs rfl));obtain⟨j,e,q1,q2,q⟩:=q1;subst e;cases r1 with
 |cons r rr=>
  cases rr;obtain⟨t,rfl⟩:=r;exact call_range_1 (Gg I1 ⋯ ⋯ q1 q2 (by simpa using q))
theorem Qi(hg:Gl X "range")(hm:X.mg "range" = none)(ha:PA X [a,b] ta)(hs:TJ [a,b] X.env=[(false,TF a X.env),(false,TF b X.env)]:=by rfl)(bq:TJ [b] X.env=[(false,TF b X.env)]:=by rfl):
  PI X tg (.Call (.Name "range" p) [a,b] [] pos) (L4 ta):=by
 intro pins s σ H R I h;refine Call_ (pY I hg hm boot_range (PyProof.Rows.callWith_type1 (cL (ha pos pins s σ H _ I h) λus s1⟨vs,H1,I1,r1,q1⟩=>?_) (by rw[hs,bq]) (by rw[bq];rfl)));obtain⟨i,j,e,⟨q1,q2,q3,q4⟩,q⟩:=q1;subst e;cases r1 with
 |cons r rr=>
  cases rr with
  |cons r' rr=>
   cases rr;obtain⟨t,rfl⟩:=r;obtain⟨t',rfl⟩:=r';exact call_range_2 (Gg I1 q1 q2 q3 q4 q)
def EU(wi:TI)(g:TG)(tb:TS):TS:=λD σ H=>wi σ H λJ H1=>∃W:Nat->Nat->St->Hp->Prop,(∃m,W 0 m σ H1)/\∀i m σ H,W i m σ H->
 (J.stop i H/\D.nx σ H)\/(J.go i H/\∃N:St->Hp->Prop,(∀σ' H',N σ' H'->∃m',m'<m/\W (i+1) m' σ' H')/\∀x H',J.yld i H x H'->g x σ H' λσ2 H2=>tb { D with nx:=N,ct:=N,bk:=D.nx } σ2 H2)
def wI(fp:List SN)(h:oE):List (SN×Obj):=fp.filterMap λb=>(h.get? b).map λo=>(b,o)
theorem dB(hb:b∈fp)(e:h.get? b=oZ o):(b,o)∈wI fp h:=List.mem_filterMap.mpr ⟨b,hb,by rw[e];rfl⟩
theorem Pq(hp:p∈wI fp h):p.1∈fp/\h.get? p.1=oZ p.2:=by
 obtain⟨b,hb,e⟩:=List.mem_filterMap.mp hp;cases q:h.get? b with
 |none=>rw[q]at e;cases e
 |some o=>
  rw[q]at e;have e':(b,o)=p:=Option.some.inj e;subst e';exact⟨hb,q⟩
theorem aT.pinned(I:aT X pins σ H s)(hf:∀b∈fp,pC X pins H b)(ho:∀b∈fp,∃o,s.heap.get? b=oZ o/\∀v,o.data≠.cell v):aT X (pins++wI fp s.heap) σ H s:=
 I.pins_of λp hp=>(MB.mp hp).elim (λz=>I.pin p (LQ _ z)) λz=>by
  obtain⟨hb,e⟩:=Pq z;obtain⟨f0,f1,f2,_⟩:=hf p.1 hb;obtain⟨o,e',d⟩:=ho p.1 hb;rw[e]at e';cases e';exact⟨e,f0,f1,f2,d⟩
theorem aT.unpinned(I:aT X (pins++pl) σ H s):aT X pins σ H s:=I.pins_of λp hp=>I.pin p (LQ _ (QK _ hp))
theorem Y3(hp:PassesOwn (SU X.prog X.w) X.A X.env X.xe)(hc:X.calm=true)(hi:PI X tg iter wi)(hg:PG X tg g)(hb:Ko X body tb)(hs:∀x,TC iter X.env x=pure x:=by intro _;rfl):PS X (.For tg iter body [] pos) (EU wi g tb):=by
 intro pins s σ H D I h;refine wpAny_For (cL (hi pins s σ H _ I h) λv s1 h1=>cL h1 λzd s2 h2=>?_) hs;obtain⟨it,fp,tn,J,H2,e,I2,T,mw,f2,W,⟨m0,w0⟩,turn⟩:=h2;subst e
 -- what stays true of the iterator's objects through the loop
 have ZJ:∀{H':Hp},(∀b∈fp,H' b=none)->∀b∈fp,pC X pins H' b:=λhn b hb=>⟨hn b hb,(f2 b hb).2⟩;refine codeAny_forLoop_any (λn s'=>∃i σ' H',aT X pins σ' H' s'/\tn i s'.heap/\(∀b∈fp,H' b=none)/\W i n σ' H') ?_ m0 ⟨0,σ,H2,I2,mw,λb hb=>(f2 b hb).1,w0⟩;rintro n s3 ⟨i,σ3,H3,I3,wo,fr3,w3⟩;obtain⟨stop,qn⟩|⟨go,N,hN,step⟩:=turn i n σ3 H3 w3
 ·refine UC hp (cL (T.done X rfl rfl rfl hc i pins s3 σ3 H3 X.xe I3 (ZJ fr3) wo stop) λr s4 zZ=>?_);obtain⟨hr,I4⟩:=zZ;subst hr;exact VC ⟨σ3,H3,I4,qn⟩
 ·refine UC hp (cL (T.item X rfl rfl rfl hc i pins s3 σ3 H3 X.xe I3 (ZJ fr3) wo go) λr s4 zZ=>?_);obtain⟨u,hr,h4⟩:=zZ;subst hr;refine UC hp (cL h4 λ_ s5 zZ=>?_);obtain⟨x,H5,I5,r5,y5,jw,qt⟩:=zZ;have I5':=I5.pinned (ZJ qt) (T.obj _ _ jw);refine UC hp (cL (hg _ s5 σ3 H5 x u _ I5' r5 (step x H5 y5)) λ_ s6 zZ=>?_);obtain⟨σ6,H6,I6,q6⟩:=zZ;refine UC hp (cL (hb _ s6 σ6 H6 _ I6 q6) λf s7 q7=>?_);have again:∀{σ7:St}{H7:Hp},aT X (pins++wI fp s5.heap) σ7 H7 s7->N σ7 H7->∃m,m<n/\∃i σ' H',aT X pins σ' H' s7/\tn i s7.heap/\(∀b∈fp,H' b=none)/\W i m σ' H':=λ{σ7 H7}I7 n7=>by
   obtain⟨m',hm,w7⟩:=hN σ7 H7 n7;refine⟨m',hm,i+1,σ7,H7,I7.unpinned,T.keep _ _ _ jw λb hb o e=>(I7.pin (b,o) (LQ _ (LQ _ (dB hb e)))).1,λb hb=>?_,w7⟩;obtain⟨o,e,d⟩:=T.obj _ _ jw b hb;exact(I7.pin (b,o) (LQ _ (LQ _ (dB hb e)))).2.1
  cases f with
  |next=>obtain⟨σ7,H7,I7,n7⟩:=q7;exact again I7 n7
  |cont=>obtain⟨σ7,H7,I7,n7⟩:=q7;exact again I7 n7
  |brk=>obtain⟨σ7,H7,I7,q7⟩:=q7;exact⟨σ7,H7,I7.unpinned,q7⟩
  |ret v=>obtain⟨x7,σ7,H7,I7,r7,q7⟩:=q7;exact⟨x7,σ7,H7,I7.unpinned,r7,q7⟩
abbrev R2:=V->V->Hp->VK->Prop
def kR(X:Cx)(f:oA->oA->Sem oA)(r:R2):Prop:=
 ∀(pins:List (SN×Obj))(s:oB)(σ:St)(H:Hp)(x y:V)(v u:oA)(Q:VK),aT X pins σ H s->bC x v->bC y u->r x y H Q->
  SQ (SU X.prog X.w) X.A (f v u) (EP X pins σ Q) X.xe s
def GU(X:Cx)(f:oA->Sem oA)(r:V->Hp->VK->Prop):Prop:=
 ∀(pins:List (SN×Obj))(s:oB)(σ:St)(H:Hp)(x:V)(v:oA)(Q:VK),aT X pins σ H s->bC x v->r x H Q->
  SQ (SU X.prog X.w) X.A (f v) (EP X pins σ Q) X.xe s
def i4(X:Cx)(f:oA)(r:List V->Hp->VK->Prop):Prop:=
 ∀(pins:List (SN×Obj))(s:oB)(σ:St)(H:Hp)(xs:List V)(us:List oA)(Q:VK),aT X pins σ H s->a9 xs us->r xs H Q->
  SQ (SU X.prog X.w) X.A (call f us) (EP X pins σ Q) X.xe s
def Xd(r:R2)(ta tb:TE):TE:=λσ H Q=>ta σ H λx H1=>tb σ H1 λy H2=>r x y H2 Q
def JW(r:V->Hp->VK->Prop)(ta:TE):TE:=λσ H Q=>ta σ H λx H1=>r x H1 Q
def rI(C:Int->Int->Prop)(g:Int->Int->V):R2:=λx y H Q=>∃i j,x = .int i/\y = .int j/\C i j/\Q (g i j) H
def Hq(g:Int->Int->V):R2:=λx y H Q=>∃i j,x = .int i/\y = .int j/\Q (g i j) H
def rU(g:Int->V):V->Hp->VK->Prop:=λx H Q=>∃i,x = .int i/\Q (g i) H
theorem Q0{X:Cx}{ta:TE}(ha:PE X a ta)(hb:PE X b tb){R:V->V->Hp->Prop}(I:aT X pins σ H s)(h:ta σ H λx H1=>tb σ H1 λy H2=>R x y H2){Q:oA->oB->Prop}{f:oA->oA->Sem oA}(hf:∀v u s2 x y H2,aT X pins σ H2 s2->bC x v->bC y u->R x y H2->SQ (SU X.prog X.w) X.A (f v u) Q X.xe s2):
  SQ (SU X.prog X.w) X.A (TF a X.env) (λv s₁=>SQ (SU X.prog X.w) X.A (TF b X.env) (λu s₂=>SQ (SU X.prog X.w) X.A (f v u) Q X.xe s₂) X.xe s₁) X.xe s:=by
 refine cL (ha pins s σ H _ I h) λv s1 zZ=>?_;obtain⟨x,H1,I1,r1,q1⟩:=zZ;refine cL (hb pins s1 σ H1 _ I1 q1) λu s2 zZ=>?_;obtain⟨y,H2,I2,r2,q2⟩:=zZ;exact hf v u s2 x y H2 I2 r1 r2 q2
theorem DH(ho:kR X (TR op) r)(ha:PE X a ta)(hb:PE X b tb):PE X (.BinOp a op b pos) (Xd r ta tb):=by
 intro pins s σ H Q I h;exact wpAny_BinOp (Q0 ha hb I h λv u s2 x y H2 I2 rx ry q=>ho pins s2 σ H2 x y v u Q I2 rx ry q)
theorem DJ{r:V->Hp->VK->Prop}(ho:GU X (unaryOp op) r)(ha:PE X a ta):PE X (.UnaryOp op a pos) (JW r ta):=by
 intro pins s σ H Q I h;exact UnaryOp_ (cL (ha pins s σ H _ I h) λv s1 zZ=>by obtain⟨x,H1,I1,r1,q1⟩:=zZ;exact ho pins s1 σ H1 x v Q I1 r1 q1)
theorem AZ{C:Int->Int->Prop}{g:Int->Int->Int}(rule:∀(i j:Int)(t u:Tok)(s:oB)(Q:oA->oB->Prop)(E:oA->oB->Prop),C i j->Q (.int (g i j) s.toks) { s with toks:=s.toks+1 }->SQ (SU X.prog X.w) X.A (f (.int i t) (.int j u)) Q E s):
  kR X f (rI C λi j=>.int (g i j)):=by
 intro pins s σ H x y v u Q I rx ry h;obtain⟨i,j,rfl,rfl,hc,q⟩:=h;obtain⟨t,rfl⟩:=rx;obtain⟨t',rfl⟩:=ry;exact rule i j t t' s _ _ hc ⟨.int (g i j),H,I.tok _,⟨_,rfl⟩,q⟩
theorem DB{g:Int->Int->Int}(rule:∀(i j:Int)(t u:Tok)(s:oB)(Q:oA->oB->Prop)(E:oA->oB->Prop),Q (.int (g i j) s.toks) { s with toks:=s.toks+1 }->SQ (SU X.prog X.w) X.A (f (.int i t) (.int j u)) Q E s):
  kR X f (Hq λi j=>.int (g i j)):=by
 intro pins s σ H x y v u Q I rx ry h;obtain⟨i,j,rfl,rfl,q⟩:=h;obtain⟨t,rfl⟩:=rx;obtain⟨t',rfl⟩:=ry;exact rule i j t t' s _ _ ⟨.int (g i j),H,I.tok _,⟨_,rfl⟩,q⟩
theorem B6{g:Int->Int->Bool}(rule:∀(i j:Int)(t u:Tok)(s:oB)(Q:oA->oB->Prop)(E:oA->oB->Prop),Q (.bool (g i j)) s->SQ (SU X.prog X.w) X.A (f (.int i t) (.int j u)) Q E s):
  kR X f (Hq λi j=>.bl (g i j)):=by
 intro pins s σ H x y v u Q I rx ry h;obtain⟨i,j,rfl,rfl,q⟩:=h;obtain⟨t,rfl⟩:=rx;obtain⟨t',rfl⟩:=ry;exact rule i j t t' s _ _ ⟨.bl (g i j),H,I,rfl,q⟩
def Yn(i j:Int):Prop:=0<=j/\j<=1000000/\i.natAbs<2^64
def Ym(i j:Int):Prop:=(-(2^64)<i/\i<2^64)\/(-(2^64)<j/\j<2^64)
theorem Ym.ok{i j:Int}(h:Ym i j):IntMulOk i j:=by
 obtain⟨h1,h2⟩|⟨h1,h2⟩:=h
 ·exact .of_left (intBits_le_64 h1 h2)
 ·exact .of_right (intBits_le_64 h1 h2)
theorem cD:kR X (TR .Add) (Hq λi j=>.int (i+j)):=DB λ_ _ _ _ _ _ _ q=>add_int q
theorem g8:kR X (TR .Sub) (Hq λi j=>.int (i-j)):=DB λ_ _ _ _ _ _ _ q=>sub_int q
theorem W6:kR X (TR .Mult) (rI Ym λi j=>.int (i*j)):=AZ λ_ _ _ _ _ _ _ hc q=>mul_int q hc.ok
theorem fZ:kR X (TR .Mod) (rI (λ_ j=>0<j) λi j=>.int (i%j)):=AZ λi j _ _ _ _ _ hc q=>by
 have h1:(0:Int)<j:=hc;exact mod_int' ⋯ (by rw[RD i ⋯];exact q)
theorem Ur:kR X (TR .Pow) (rI Yn λi j=>.int (i^j.toNat)):=AZ λ_ _ _ _ _ _ _ hc q=>pow_int_small hc.1 hc.2.1 hc.2.2 q
theorem W8:kR X (TR .LShift) (rI Yn λi j=>.int (i*2^j.toNat)):=AZ λ_ _ _ _ _ _ _ hc q=>lshift_int_small hc.1 hc.2.1 hc.2.2 q
theorem KS{g:Int->Int}(rule:∀(i:Int)(t:Tok)(s:oB)(Q:oA->oB->Prop)(E:oA->oB->Prop),Q (.int (g i) s.toks) { s with toks:=s.toks+1 }->SQ (SU X.prog X.w) X.A (f (.int i t)) Q E s):
  GU X f (rU λi=>.int (g i)):=by
 intro pins s σ H x v Q I rx h;obtain⟨i,rfl,q⟩:=h;obtain⟨t,rfl⟩:=rx;exact rule i t s _ _ ⟨.int (g i),H,I.tok _,⟨_,rfl⟩,q⟩
theorem AQ:GU X (unaryOp .USub) (rU λi=>.int (-i)):=KS λ_ _ _ _ _ q=>neg_int q
section
variable{X:Cx}{a b c:oC}{ta tb tc:TE}{pos:Pos}
theorem Ik(I:aT X pins σ H s)(q:Q (.bl k) H)(e:k=k'):EP X pins σ Q (.bool k') s:=by
 subst e;exact⟨.bl k,H,I,rfl,q⟩
theorem i9:kR X (TL .Lt) (Hq λi j=>.bl (decide (i<j))):=B6 λ_ _ _ _ _ _ _ q=>lt_int q
theorem L9:kR X (TL .LtE) (Hq λi j=>.bl (decide (i<=j))):=B6 λ_ _ _ _ _ _ _ q=>le_int q
theorem rR:kR X (TL .Gt) (Hq λi j=>.bl (decide (j<i))):=B6 λ_ _ _ _ _ _ _ q=>gt_int q
theorem Uq:kR X (TL .GtE) (Hq λi j=>.bl (decide (j<=i))):=B6 λ_ _ _ _ _ _ _ q=>ge_int q
theorem W5:kR X (TL .Is) (λx y H Q=>y = .non/\Q (.bl (decide (x = .non))) H):=by
 intro pins s σ H x y v u Q I rx ry h;obtain⟨rfl,q⟩:=h;cases ry;refine is_none_gen (Ik I q ?_);cases x<;>first
  |(cases rx;rfl)
  |(obtain⟨t,rfl⟩:=rx;rfl)
theorem aV(b:oC)(h:op≠.In:=by decide)(h2:op≠.NotIn:=by decide):TH op b=false:=by
 have e1:(op==CmpOp.In)=false:=by cases op<;>first|rfl|exact absurd rfl h
 have e2:(op==CmpOp.NotIn)=false:=by cases op<;>first|rfl|exact absurd rfl h2
 cases b<;>simp[TH,e1,e2]
theorem C3(ho:kR X (TL op) r)(ha:PE X a ta)(hb:PE X b tb)(hm:TH op b=false):PE X (.Compare a [op] [b] pos) (Xd r ta tb):=by
 intro pins s σ H Q I h;exact wpAny_Compare1 (Q0 ha hb I h λv u s2 x y H2 I2 rx ry q=>ho pins s2 σ H2 x y v u Q I2 rx ry q) hm
def Nl(t:TE):TT:=λσ H Q=>t σ H λx H'=>∃k,x = .bl k/\Q k H'
theorem Mb(ho:kR X (TL op) r)(ha:PE X a ta)(hb:PE X b tb)(hm:TH op b=false):PT X (.Compare a [op] [b] pos) (Nl (Xd r ta tb)):=by
 intro pins s σ H Q I h;refine wpAny_isTrue_Compare1 (cL (ha pins s σ H _ I h) λv s1⟨x,H1,I1,r1,q1⟩=>cL (hb pins s1 σ H1 _ I1 q1) λu s2⟨y,H2,I2,r2,q2⟩=>
  cL (ho pins s2 σ H2 x y v u _ I2 r1 r2 q2) λc s3⟨z,H3,I3,r3,k,e,q3⟩=>?_) hm
 subst e;cases r3;exact TU ⟨H3,I3,q3⟩
def Wz(r r':R2)(ta tb tc:TE):TE:=λσ H Q=>ta σ H λx H1=>tb σ H1 λy H2=>r x y H2 λz H3=>∃k,z = .bl k/\
 (if k=true then tc σ H3 λw' H4=>r' y w' H4 Q else Q (.bl false) H3)
theorem Vf(ho:kR X (TL op) r)(ig:kR X (TL op') r')(ha:PE X a ta)(hb:PE X b tb)(hc:PE X c tc)(hm:lastMarks [op,op'] [b,c]=false:=by with_unfolding_all rfl):PT X (.Compare a [op,op'] [b,c] pos) (Nl (Wz r r' ta tb tc)):=by
 intro pins s σ H Q I h;refine isTrue_chain (cL (ha pins s σ H _ I h) λv s1⟨x,H1,I1,r1,q1⟩=>test_link (cL (hb pins s1 σ H1 _ I1 q1) λu s2⟨y,H2,I2,r2,q2⟩=>
  cL (ho pins s2 σ H2 x y v u _ I2 r1 r2 q2) λd s3⟨z,H3,I3,r3,k,e,q3⟩=>?_)) hm
 subst e;cases r3;refine TU ?_;cases k with
 |false=>
  obtain⟨k',e',q'⟩:=q3;cases e';exact ite_ff ⟨H3,I3,q'⟩
 |true=>
  refine ite_tt (test_last (cL (hc pins s3 σ H3 _ I3 q3) λw' s4⟨z',H4,I4,r4,q4⟩=>cL (ig pins s4 σ H4 y z' u w' _ I4 r2 r4 q4) λd' s5 zZ=>?_));obtain⟨z2,H5,I5,r5,k2,e2,q5⟩:=zZ;subst e2;cases r5;exact TU ⟨H5,I5,q5⟩
theorem sG:(SY:Nat)<2^63:=by rw[sizeLine_eq];decide
theorem Jm:kR X (TR .Add) (λx y H Q=>∃i j,x = .str i/\y = .str j/\i.length+j.length<=SY/\Q (.str (i++j)) H):=by
 intro pins s σ H x y v u Q I rx ry h;obtain⟨i,j,rfl,rfl,hz,q⟩:=h;obtain⟨t,rfl⟩:=rx;obtain⟨t',rfl⟩:=ry;exact add_str (λt' tk=>⟨.str (i++j),H,I.tok _,⟨_,rfl⟩,q⟩) hz
theorem r8(r:a9 [x] us):∃u,us=[u]/\bC x u:=by
 cases r with
 |cons r1 r2=>cases r2;exact⟨_,rfl,r1⟩
end
theorem xS.some_of(r:xS (oZ v) o):∃u,o=oZ u/\bC v u:=by
 cases o with
 |none=>exact(show False from r).elim
 |some u=>exact⟨u,rfl,r⟩
structure cV(k:Nat)(A:oD):Prop where
 hd:A.handled=none
 dp:A.depth+3*k+5<recursionLimit
 un:A.units+16*k+200<UR
 gd:A.guards=oZ []
theorem cV.mono(r:cV k A)(h:j<=k):cV j A:=⟨r.hd,by have:=r.dp;lia,by have:=r.un;lia,r.gd⟩
theorem cV.deeper(r:cV (k+1) A)(env:Env):cV k (A.deeper env):=
 ⟨r.hd,by have:=r.dp;show A.depth+1+3*k+5<_;lia,by have:=r.un;show A.units+3+16*k+200<_;lia,r.gd⟩
theorem cV.depth(r:cV k A):A.depth<recursionLimit:=by have:=r.dp;lia
theorem cV.units(r:cV k A):A.units+64<UR:=by have:=r.un;lia
def EZ:TA:=λ_ H Q=>Q [] H
def Xa(ta:TE)(tr:TA):TA:=λσ H Q=>ta σ H λx H1=>tr σ H1 λxs H2=>Q (x::xs) H2
section
variable{X:Cx}{e:oC}{es:List oC}{te:TE}{t:TA}{pos:Pos}
theorem W9:PA X [] EZ:=λ_ _ _ _ H Q I h=>Calls.spliced_nil ⟨[],H,I,.nil,h⟩
theorem B9(ha:PE X e te)(hr:PA X es t)(hs:TJ (e::es) X.env=(false,TF e X.env)::TJ es X.env:=by rfl):PA X (e::es) (Xa te t):=by
 intro pos pins s σ H Q I h;rw[hs];show SQ _ _ (spliced ((false,TF e X.env)::UW pos (TJ es X.env))) _ _ s;refine Calls.spliced_cons (cL (ha pins s σ H _ I h) λu s1 zZ=>?_);obtain⟨x,H1,I1,r1,q1⟩:=zZ;exact cL (hr pos pins s1 σ H1 _ I1 q1) λus s2 zZ=>by obtain⟨xs,H2,I2,r2,q2⟩:=zZ;exact⟨x::xs,H2,I2,.cons r1 r2,q2⟩
def FP(t:TA):TE:=λσ H Q=>t σ H λxs H1=>xs.length<=SY/\∀p,H1 p=none->Q (.ref p) (upd H1 p (.tup xs))
def EY(t:TA):TE:=λσ H Q=>t σ H λxs H1=>xs.length<=SY/\∀p,H1 p=none->Q (.ref p) (upd H1 p (.lst xs))
theorem X7{x1}(h:PA X es t):PE X (.Tuple es x1 pos) (FP t):=by
 intro pins s σ H Q I hq;refine wpAny_Tuple_spliced (cL (h pos pins s σ H _ I hq) λus s1⟨xs,H1,I1,r,z,q⟩=>⟨by rw[<-r.length];exact z,?_⟩);have hf:H1 s1.heap.objs.size=none:=I1.hok.fresh (LN _);refine⟨.ref s1.heap.objs.size,upd H1 s1.heap.objs.size (.tup xs),I1.laid (t':=s1.toks) (λb u e=>LI _ e) (LN _) ?_,rfl,q _ hf⟩;exact⟨z,us,r,⟨_,LU _ rfl,rfl,_,rfl⟩⟩
theorem X4(h:PA X es t):PE X (.List es pos) (EY t):=by
 intro pins s σ H Q I hq;refine wpAny_List_spliced (cL (h pos pins s σ H _ I hq) λus s1⟨xs,H1,I1,r,z,q⟩=>⟨by rw[<-r.length];exact z,?_⟩);have hf:H1 s1.heap.objs.size=none:=I1.hok.fresh (LN _);refine⟨.ref s1.heap.objs.size,upd H1 s1.heap.objs.size (.lst xs),I1.laid (t':=s1.toks) (λb u e=>LI _ e) (LN _) ?_,rfl,q _ hf⟩;exact⟨z,us,0,r,LU _ rfl⟩
end
abbrev Sp:=List V->Hp->VK->XK->Prop
abbrev Hm:=List Env->Hp->oB->XK->oA->oB->Prop
structure Ri(P:SR)(w:SX)(K:W.Frag)(mg:Str->Option oA)(base:oE)(A:oD)(outer:List Env)(s:oB)(H:Hp):Prop where
 frames:A.frames=oZ outer
 mod:Mod K mg base
 bs:∀b o,base.get? b=oZ o->s.heap.get? b=oZ o/\H b=none
 bsz:base.objs.size<=s.heap.objs.size
 funs:s.heap.FunFrames base outer
 frf:∀b∈El outer,H b=none
 hok:oT P w H s.heap
 bare:UP s.gens
def CE(outer:List Env)(P:SR)(w:SX)(H:Hp)(s:oB)(Q:VK)(u:oA)(s':oB):Prop:=
 ∃v H',s'.os=s.os/\UP s'.gens/\Un (El outer) [] H H' s.heap s'.heap/\oT P w H' s'.heap/\bC v u/\Q v H'
def CR(CX:Hm)(outer:List Env)(P:SR)(w:SX)(H:Hp)(s:oB)(Q:VK)(E:XK)(r:Result)(s':oB):Prop:=
 match r with
 |.ok (.ret u)=>CE outer P w H s Q u s'
 |.ok _=>False
 |.error e=>CX outer H s E e s'
structure aS(P:SR)(w:SX)(K:W.Frag)(mg:Str->Option oA)(base:oE)(CX:Hm)(k:Nat)(f:SN)(fd:TK)(ps:List Str)(sp:Sp):Prop where
 len:∀vs H Q E,sp vs H Q E->vs.length=ps.length
 run:∀(A:oD)(outer:List Env)(s:oB)(H:Hp)(args:Args)(us:List oA)(vs:List V)(Q:VK)(E:XK),cV k A->Ri P w K mg base A outer s H->BindsTo s fd args (ps.zip us)->a9 vs us->sp vs H Q E->
  VE (SU P w) A (.call (.ref f) args) (CR CX outer P w H s Q E) s
theorem aS.imp{P:SR}{w:SX}{K:W.Frag}{mg:Str->Option oA}{base:oE}{CX:Hm}{k:Nat}{f:SN}{fd:TK}{ps:List Str}{sp sp':Sp}(F:aS P w K mg base CX k f fd ps sp)
  (h:∀vs H Q E,sp' vs H Q E->sp vs H Q E):(~~~aS) CX k f fd ps sp':=
 ⟨λvs H Q E q=>F.len vs H Q E (h _ _ _ _ q),λA outer s H args us vs Q E hr he hb hv hs=>F.run A outer s H args us vs Q E hr he hb hv (h _ _ _ _ hs)⟩
theorem aT.env0(I:aT X pins σ H s):Ri X.prog X.w X.K X.mg X.base X.A X.stack s H:=
 ⟨I.ok.frames,I.ok.mod,I.bs,MV I.ok.bsz I.sz,I.stack,I.stkFree,I.hok,I.bare⟩
theorem aT.after(I:aT X pins σ H s)(h:CE X.stack X.prog X.w H s Q u s'):EP X pins σ Q u s':=by
 obtain⟨v,H',os,bare,un,hok,r,q⟩:=h;obtain⟨hh,g,d,t,os'⟩:=s';obtain rfl:os'=s.os:=os;exact⟨v,H',I.call (h':=hh) (g':=g) (d':=d) (t':=t) (ch:=[]) un hok bare (λb z=>absurd z (by simp)),r,q⟩
def Hb(sp:Sp)(qu:List V)(E:XK)(t:TA):TE:=λσ H Q=>t σ H λvs H1=>sp (vs++qu) H1 Q E
def kN(K:W.Frag)(fd:TK)(ps:List Str)(ds:List oA):Prop:=
 ∀(s:oB)(us:List oA),K.In s.heap->(us++ds).length=ps.length->BindsTo s fd ⟨us,[]⟩ (ps.zip (us++ds))
theorem kN.all{K:W.Frag}{fd:TK}{ps:List Str}(h:∀us:List oA,us.length=ps.length->bindArgs fd ⟨us,[]⟩=pure (ps.zip us)):kN K fd ps []:=λs us _ hl=>by
 rw[MG]at hl⊢;exact .of_eq (h us hl)
def Hu(CX:Hm)(X:Cx)(E:XK):Prop:=∀(pins:List (SN×Obj))(σ:St)(H:Hp)(s:oB)(e:oA)(s':oB),aT X pins σ H s->CX X.stack H s E e s'->X.xe e s'
theorem AI(F:aS X.prog X.w X.K X.mg X.base CX k f fd ps sp)(hr:cV k X.A)(hb:kN X.K fd ps ds)(hd:a9 qu ds)(hx:Hu CX X E)(I:aT X pins σ H s)(r:a9 vs us)(h:sp (vs++qu) H Q E):SQ (SU X.prog X.w) X.A (call (.ref f) us) (EP X pins σ Q) X.xe s:=by
 have r2:a9 (vs++qu) (us++ds):=r.append hd;have hl:(us++ds).length=ps.length:=by rw[<-r2.length];exact F.len _ _ _ _ h
 refine wpAny_call (VJ (F.run X.A X.stack s H ⟨us,[]⟩ (us++ds) (vs++qu) Q E hr I.env0 (hb s us I.kIn hl) r2 h) λr s' hq=>?_);cases r with
 |error e=>exact hx pins σ H s e s' I hq
 |ok fl=>
  cases fl with
  |ret u=>exact I.after hq
  |next=>exact False.elim hq
  |brk=>exact False.elim hq
  |cont=>exact False.elim hq
theorem C2(F:aS X.prog X.w X.K X.mg X.base CX k f fd ps sp)(hr:cV k X.A)(hg:Gl X x)(hm:X.mg x=oZ (.ref f))(hk:W.keepIn X.K (.ref f)=true)(hb:kN X.K fd ps ds)(hd:a9 qu ds)(hx:Hu CX X E)(ha:PA X (e::es) t)(YN:(x==("__debug__":Str))=false:=by decide)(he:TJ (e::es) X.env=(false,TF e X.env)::TJ es X.env:=by rfl)(qd:(UW pos (TJ es X.env)).any (·.1)=false:=by rfl):
  PE X (.Call (.Name x p) (e::es) [] pos) (Hb sp qu E t):=by
 intro pins s σ H Q I h;refine VF (Lq I hg hm ?_ YN);refine PySem.W.callWith_K (h₀:=X.base) I.ok.mod.kin hk (cL (ha pos pins s σ H _ I h) λus s1⟨vs,H1,I1,r,q⟩=>⟨I1.kIn,?_⟩) he qd;exact AI F hr hb hd hx I1 r q
structure aF(N P:List Str)(sc:UI):Prop where
 kind:sc.kind = .function
 co:sc.isCoroutine=false
 gen:sc.isGenerator=false
 nd:N.Nodup
 pre:N.take P.length=P
 par:∀x∈P,sc.names.lookup x=oZ .local\/sc.names.lookup x=oZ .cell
 nofree:∀y∈sc.names,y.2≠.free
theorem yR{kindOf:Str->Option NameKind}{x:Str}:∀{binds:List (Str×oA)}{m:Str->Option oA},(∀v,(x,v)∉binds)->bindL kindOf binds m x=m x
 |[],_,_=>rfl
 |(n,v)::r,m,h=>by
  unfold bindL;rw[yR λw hw=>h w (LC _ hw)]
  split
  ·have:x≠n:=by rintro rfl;exact h v LK
   simp[this]
  ·rfl
theorem yP{kindOf:Str->Option NameKind}{x:Str}:∀{binds:List (Str×oA)}{m:Str->Option oA},(∀v,(x,v)∉binds)->bindC kindOf binds m x=m x
 |[],_,_=>rfl
 |(n,v)::r,m,h=>by
  unfold bindC;rw[yP λw hw=>h w (LC _ hw)]
  split
  ·rfl
  ·have:x≠n:=by rintro rfl;exact h v LK
   simp[this]
theorem yQ{kindOf:Str->Option NameKind}:∀{P:List Str}{vs:List oA}{i:Nat}{m:Str->Option oA},P.Nodup->P[i]?=oZ x->vs[i]?=oZ v->kindOf x=oZ .local->
  bindL kindOf (P.zip vs) m x=oZ v
 |[],_,_,_,_,h,_,_=>by simp at h
 |_::_,[],_,_,_,_,h,_=>by simp at h
 |p::P,w::vs,0,m,nd,h1,h2,hk=>by
  simp at h1 h2;subst h1;subst h2;show bindL kindOf ((p,w)::P.zip vs) m p=_;unfold bindL;rw[yR λv hv=>(NJ.mp nd).1 (SD hv).1,oV hk];simp
 |p::P,w::vs,i+1,m,nd,h1,h2,hk=>by
  show bindL kindOf ((p,w)::P.zip vs) m x=_;unfold bindL;exact yQ (i:=i) (NJ.mp nd).2 (by simpa using h1) (by simpa using h2) hk
theorem yO{kindOf:Str->Option NameKind}:∀{P:List Str}{vs:List oA}{i:Nat}{m:Str->Option oA},P.Nodup->P[i]?=oZ x->vs[i]?=oZ v->kindOf x≠oZ .local->
  bindC kindOf (P.zip vs) m x=oZ v
 |[],_,_,_,_,h,_,_=>by simp at h
 |_::_,[],_,_,_,_,h,_=>by simp at h
 |p::P,w::vs,0,m,nd,h1,h2,hk=>by
  simp at h1 h2;subst h1;subst h2;show bindC kindOf ((p,w)::P.zip vs) m p=_;unfold bindC;rw[yP λv hv=>(NJ.mp nd).1 (SD hv).1,oW hk];simp
 |p::P,w::vs,i+1,m,nd,h1,h2,hk=>by
  show bindC kindOf ((p,w)::P.zip vs) m x=_;unfold bindC;exact yO (i:=i) (NJ.mp nd).2 (by simpa using h1) (by simpa using h2) hk
def j5(N:List Str)(vs:List V):St:=vs.map oZ++LF (N.length-vs.length) none
def vO(CX:Hm)(P:SR)(w:SX)(K:W.Frag)(mg:Str->Option oA)(base:oE)(N:List Str)(qual:Str)(scope:UI)(f:SN)(cd:oA)(A:oD)(outer:List Env)(s:oB)(H:Hp)(E:XK):Cx where
 prog:=P
 w:=w
 K:=K
 mg:=mg
 base:=base
 A:=A.deeper (UK qual scope s.heap.objs.size f cd)
 N:=N
 s₀:=s
 H₀:=H
 env:=UK qual scope s.heap.objs.size f cd
 outer:=outer
 stack:=UK qual scope s.heap.objs.size f cd::outer
 ex:=[]
 calm:=true
 fn:=λ_=>true
 pn:=[]
 xe:=λe s'=>SQ (SU P w) (A.deeper (UK qual scope s.heap.objs.size f cd)) (leaving (UK qual scope s.heap.objs.size f cd) e) (λ_ qw=>CX outer H s E e qw) (λe' qw=>CX outer H s E e' qw) s'
theorem Du{sc:UI}(h:sc.names.lookup x=oZ .cell):∃c,(cellsFrom n sc.names []).lookup x=oZ c:=by
 have q:=W.cellsFrom_some sc.names n [] (.inl h);exact RK.mp q
theorem Ph{CX:Hm}{P:SR}{w:SX}{K:W.Frag}{mg:Str->Option oA}{base:oE}{N ps:List Str}{qual:Str}{scope:UI}{f:SN}{cd:oA}{A:oD}{outer:List Env}{s s1:oB}{H:Hp}{E:XK}{us:List oA}{vs:List V}
  (S:aF N ps scope) (hd:A.handled=none) (e0:Ri P w K mg base A outer s H) (hl:vs.length=ps.length) (r:a9 vs us)
  (x:InCallC s s.heap.objs.size (bindL (UK qual scope s.heap.objs.size f cd).kindOf (ps.zip us) λ_=>none) (cellsFrom (s.heap.objs.size+1) scope.names []) (bindC (UK qual scope s.heap.objs.size f cd).kindOf (ps.zip us) λ_=>none) s1) :
  aT (vO CX P w K mg base N qual scope f cd A outer s H E) [] (j5 N vs) H s1:=by
 have qd:ps.length<=N.length:=by have:=congrArg List.length S.pre;rw[MQ]at this;lia
 obtain⟨h1,tk,rfl,hk⟩:=x.done;have wq:∀b:SN,b∉(vO CX P w K mg base N qual scope f cd A outer s H E).ex:=λb z=>absurd (show b∈([]:List SN)from z) (by simp);refine⟨⟨e0.mod,S.kind,rfl,rfl,LN _,λy z c h1 h2=>?_,λy hy=>?_,λy c _ h=>?_,λ_=>hd,Around.frames_deeper e0.frames,.inr ⟨rfl,rfl⟩,λb z=>absurd z (wq b),e0.bs,e0.bsz,λb _ _=>wq b,λb z=>absurd z (wq b),e0.funs,e0.frf⟩,
  rfl,e0.bare,Un.kept hk,⟨_,x.toInCall.ns,λi y v h1 h2 h3=>?_⟩,λy c h=>⟨_,x.cell y c h⟩,e0.hok.fresh (LN _),λy c h=>?_,λp hp=>absurd (show p∈([]:List (SN×Obj))from hp) (by simp),e0.hok.kept hk,?_⟩
 ·exact name_of_addr x.apart (PySem.mem_of_lookup h1) (PySem.mem_of_lookup h2)
 ·have hy:scope.names.lookup y=oZ .cell\/scope.names.lookup y=oZ .free:=hy;obtain hy|hy:=hy
  ·exact Du hy
  ·exact absurd rfl (S.nofree _ (PySem.mem_of_lookup hy))
 ·exact MW (x.above y c (PySem.mem_of_lookup h))
 ·have hi:i<vs.length:=by
   unfold j5 at h2
   by_cases hi:i<vs.length
   ·exact hi
   ·rw[MI (by simpa using hi)]at h2;rw[RX]at h2;split at h2<;>cases h2
  have ha:vs[i]?=oZ v:=by
   unfold j5 at h2;rw[LZ (by simpa using hi),LB]at h2;cases e:vs[i]? with
   |none=>rw[e]at h2;cases h2
   |some a=>rw[e]at h2;cases h2;rfl
  obtain⟨u,hu,rv⟩:=r.get ha;have hp:ps[i]?=oZ y:=by
   rw[<-S.pre,NG ⋯];exact h1
  have ndP:ps.Nodup:=by rw[<-S.pre];exact S.nd.sublist (List.take_sublist _ _)
  refine⟨u,rv,?_⟩;obtain k|k:=S.par y (LD hp)
  ·exact .inl ⟨k,yQ ndP hp hu k⟩
  ·obtain⟨c,e⟩:=Du (n:=s.heap.objs.size+1) k;refine .inr ⟨.inl k,c,e,?_⟩;have q:=x.cell y c e;rw[yO ndP hp hu (by show scope.names.lookup y≠_;rw[k];decide)]at q;exact q
 ·exact e0.hok.fresh (MW (x.above y c (PySem.mem_of_lookup h)))
 ·unfold j5;show _=N.length;rw[LG,LJ,OS]
  lia
theorem CK{CX:Hm}{P:SR}{w:SX}{K:W.Frag}{mg:Str->Option oA}{base:oE}{k:Nat}{f:SN}{name qual:Str}{params:Arguments}{body:List SV}{scope:UI}{dV kV doc pm WR ct oc:oA}{an od:Option SN}
  {qe:Array (Option oA)} {N ps:List Str} {sp:Sp} (lk:K.lookup f=oZ ⟨oc,od,.func (W.fnOf name qual params body scope dV kV doc pm an WR ct),qe⟩) (bh:W.codeIn K WR qual=true) (S:aF N ps scope)
  (len:∀vs H Q E,sp vs H Q E->vs.length=ps.length)
  (fm:∀(A:oD)(outer:List Env)(s:oB)(H:Hp)(vs:List V)(Q:VK)(E:XK),cV k (A.deeper (UK qual scope s.heap.objs.size f WR))->sp vs H Q E->
   ∃t,Ko (vO CX P w K mg base N qual scope f WR A outer s H E) body t/\t { nx:=λ_ H'=>Q .non H',rt:=Q } (j5 N vs) H) :
  aS P w K mg base CX (k+1) f (W.fnOf name qual params body scope dV kV doc pm an WR ct) ps sp:=by
 refine⟨len,λA outer s H args us vs Q E hr e0 hb r qf=>?_⟩;have hl:=len _ _ _ _ qf;have KX:K.In s.heap:=e0.mod.kin.keeps λb o e=>(e0.bs b o e).1;have lim:s.heap.NoLimit:=e0.mod.nolimit.keeps λb o e=>(e0.bs b o e).1;have wx:∀y∈ps.zip us,scope.names.lookup y.1=oZ .local\/(scope.names.lookup y.1=oZ .cell/\((cellsFrom (s.heap.objs.size+1) scope.names []).lookup y.1).isSome=true):=λzZ hy=>by
  obtain⟨n,v⟩:=zZ;obtain q|q:=S.par n (SD hy).1
  ·exact .inl q
  ·exact .inr ⟨q,W.cellsFrom_some _ _ _ (.inl q)⟩
 refine codeAny_call_function hr.depth (KX _ _ lk) rfl S.co S.gen rfl (W.codeRec_of KX bh) (hb _ _ _ _ ?_);refine wpAny_newFunctionEnv_cells S.kind wx λenv he s1 x=>?_;subst he;refine⟨lim.keeps x.toInCall.keep,codeAny_func ?_⟩;obtain⟨t,ht,hq⟩:=fm A outer s H vs Q E (hr.deeper _) qf;have I:aT (vO CX P w K mg base N qual scope f WR A outer s H E) [] (j5 N vs) H s1:=Ph S hr.hd e0 hl r x;refine TM (ht [] s1 (j5 N vs) H _ I hq) (λfl s' hs=>?_) λe s' hs=>hs;have fin:∀{σ':St}{H':Hp}{v:V}{u:oA},aT (vO CX P w K mg base N qual scope f WR A outer s H E) [] σ' H' s'->bC v u->Q v H'->CE outer P w H s Q u s':=
  λ{σ' H' v u}J rv q=>⟨v,H',J.os,J.bare,J.base,J.hok,rv,q⟩
 cases fl with
 |ret u=>
  obtain⟨v,σ',H',J,rv,q⟩:=hs;exact fin J rv q
 |next=>
  obtain⟨σ',H',J,q⟩:=hs;exact fin (v:=V.non) (u:=PN) J rfl q
 |brk=>
  obtain⟨_,_,_,q⟩:=hs;exact False.elim q
 |cont=>
  obtain⟨_,_,_,q⟩:=hs;exact False.elim q
section
variable{X:Cx}{x:Str}{p pos:Pos}{e:oC}{es:List oC}{t:TA}{id T:String}{r:List V->Hp->VK->Prop}
def BA(r:List V->Hp->VK->Prop)(t:TA):TE:=λσ H Q=>t σ H λvs H1=>r vs H1 Q
theorem Uw(hc:i4 X (.builtin id) r)(hg:Gl X x)(hm:X.mg x=none)(hv:UA x=oZ (.builtin id))(ha:PA X (e::es) t)(hn:x≠"__name__":=by decide)(YN:(x==("__debug__":Str))=false:=by decide)(he:TJ (e::es) X.env=(false,TF e X.env)::TJ es X.env:=by rfl)(qd:(UW pos (TJ es X.env)).any (·.1)=false:=by rfl):PE X (.Call (.Name x p) (e::es) [] pos) (BA r t):=by
 intro pins s σ H Q I h;refine VF (pY I hg hm hv ?_ hn YN);exact PyProof.Rows.callWith_builtin1 (cL (ha pos pins s σ H _ I h) λus s1 zZ=>by obtain⟨vs,H1,I1,r1,q1⟩:=zZ;exact hc pins s1 σ H1 vs us Q I1 r1 q1) he qd
theorem Qg(hc:i4 X (.type T) r)(hg:Gl X x)(hm:X.mg x=none)(hv:UA x=oZ (.type T))(ha:PA X (e::es) t)(hn:x≠"__name__":=by decide)(YN:(x==("__debug__":Str))=false:=by decide)(he:TJ (e::es) X.env=(false,TF e X.env)::TJ es X.env:=by rfl)(qd:(UW pos (TJ es X.env)).any (·.1)=false:=by rfl):PE X (.Call (.Name x p) (e::es) [] pos) (BA r t):=by
 intro pins s σ H Q I h;refine VF (pY I hg hm hv ?_ hn YN);exact PyProof.Rows.callWith_type1 (cL (ha pos pins s σ H _ I h) λus s1 zZ=>by obtain⟨vs,H1,I1,r1,q1⟩:=zZ;exact hc pins s1 σ H1 vs us Q I1 r1 q1) he qd
end
end L2
namespace HT
open PySem PyProof.Rows
section
open PySem.SeqAt
open PySem.AutoSeq1 (wpAny_loadPart')
open PySem.MeetsSeq PySem.MeetsSeq2 PySem.MeetsSeq3
end
theorem cat_tup{E:oA->oB->Prop}{Q:oA->oB->Prop}(ht:IsTup s.heap t vs.toArray)(hb:IsTup s.heap b ws.toArray)(hv:vs≠[])(h1:ws=[]->Q (.ref t) s)(h2:ws≠[]->Q (.ref s.heap.objs.size) { s with heap:=s.heap.push { cls:=.type "tuple",data:=.seq (vs++ws).toArray } })(hsz:vs.length+ws.length<=SY):SQ (SU prog w) A (TR .Add (.ref t) (.ref b)) Q E s:=by
 obtain⟨⟨cls,dd,data,sl⟩,ho,hc,n,hd⟩:=id ht;obtain⟨⟨aDT,dd2,data2,sl2⟩,ze,ve,n2,hd2⟩:=id hb;simp only at hc hd ve hd2;subst hc hd ve hd2;have e:vs.toArray++ws.toArray=(vs++ws).toArray:=by simp
 by_cases hw:ws=[]
 ·exact concat_meets ⟨_,ho,rfl⟩ ⟨_,ze,rfl⟩ noFill_tuple_add seq_tuple_add PySem.F.slot_tuple_add PySem.F.entry_tuple_add (PySem.F.args_tuple_add_2 _ _)
   (tuple_addW1 t b vs.toArray ws.toArray n n2 dd dd2 sl sl2 (by simpa using hv) (by simp[hw])) ⟨ho,ze,h1 hw⟩
 ·refine concat_meets ⟨_,ho,rfl⟩ ⟨_,ze,rfl⟩ noFill_tuple_add seq_tuple_add PySem.F.slot_tuple_add PySem.F.entry_tuple_add (PySem.F.args_tuple_add_2 _ _)
   (tuple_addW2 t b vs.toArray ws.toArray n n2 dd dd2 sl sl2 (by simpa using hv) (by simpa using hw) (by rw[LR,LR];exact hsz)) ⟨ho,ze,?_⟩
  rw[e];exact h2 hw
def sIx(n d:Nat):Option Int->Nat
 |none=>d
 |some v=>if v<0 then(v+(n:Int)).toNat else min v.toNat n
theorem sIx_none(n d:Nat):sIx n d none=d:=rfl
theorem sIx_nat(n d k:Nat):sIx n d (oZ (k:Int))=min k n:=by
 show(if(k:Int)<0 then((k:Int)+(n:Int)).toNat else min (k:Int).toNat n)=min k n;rw[oW ⋯,MR]
end HT
namespace L2
open PySem PySem.Spec PyProof.Rows
abbrev TO:=St->Hp->(Option Int->Hp->Prop)->Prop
def PO(X:Cx)(e:Option oC)(t:TO):Prop:=
 ∀(pins:List (SN×Obj))(s:oB)(σ:St)(H:Hp)(Q:Option Int->Hp->Prop),aT X pins σ H s->t σ H Q->
  SQ (SU X.prog X.w) X.A (evalPart e X.env) (λu s'=>∃o H',aT X pins σ H' s'/\IsPart u o/\Q o H') X.xe s
def Nh:TO:=λ_ H Q=>Q none H
def O3(t:TE):TO:=λσ H Q=>t σ H λx H1=>∃i,x = .int i/\Q (oZ i) H1
section
variable{X:Cx}{e:oC}{te:TE}{lo hi:Option oC}{tl th:TO}{pos p2:Pos}
theorem D1:PO X none Nh:=by
 intro pins s σ H Q I h;rw[evalPart_none];exact TB ⟨none,H,I,.none,h⟩
theorem D2(h:PE X e te):PO X (oZ e) (O3 te):=by
 intro pins s σ H Q I hw;rw[evalPart_some];refine cL (h pins s σ H _ I hw) λu s1 zZ=>?_;obtain⟨x,H1,I1,r1,q1⟩:=zZ;obtain⟨i,rfl,q⟩:=q1;obtain⟨t,rfl⟩:=r1;exact⟨oZ i,H1,I1,.int i t,q⟩
def HC(X:Cx)(r:V->Option Int->Option Int->Hp->VK->Prop):Prop:=
 ∀(pins:List (SN×Obj))(s:oB)(σ:St)(H:Hp)(x:V)(v vl vu:oA)(lo hi:Option Int)(sl:SN)(Q:VK),aT X pins σ H s->bC x v->s.heap.IsSliceOf sl vl vu .none->IsPart vl lo->IsPart vu hi->r x lo hi H Q->
  ∃T id,typeLookup (.type T) "__getitem__" = pure (oZ (.builtin id))/\s.TypeIs v T/\SQ (SU X.prog X.w) X.A (VB v (.ref sl)) (EP X pins σ Q) X.xe s
def JT(r:V->Option Int->Option Int->Hp->VK->Prop)(te:TE)(tl th:TO):TE:=λσ H Q=>te σ H λx H1=>tl σ H1 λl H2=>th σ H2 λu H3=>r x l u H3 Q
theorem Va{r:V->Option Int->Option Int->Hp->VK->Prop}(hr:HC X r)(he:PE X e te)(hl:PO X lo tl)(hu:PO X hi th):PE X (.Subscript e (.Slice lo hi none p2) pos) (JT r te tl th):=by
 intro pins s σ H Q I h;refine Subscript_ (cL (he pins s σ H _ I h) λv s1 zZ=>?_);obtain⟨x,H1,I1,r1,q1⟩:=zZ;refine wpAny_Slice (cL (hl pins s1 σ H1 _ I1 q1) λvl s2⟨l,H2,I2,pl,q2⟩=>cL (hu pins s2 σ H2 _ I2 q2) λvu s3 zZ=>?_);obtain⟨u,H3,I3,pu,q3⟩:=zZ;rw[evalPart_none];refine TB ?_;have I4:aT X pins σ H3 { s3 with heap:=s3.heap.push { cls:=.type "slice",data:=.fields #[vl,vu,.none] } }:=I3.kept (t':=s3.toks) λb ob q=>LI _ q;obtain⟨T,id,hT,ht,hg⟩:=hr pins { s3 with heap:=s3.heap.push { cls:=.type "slice",data:=.fields #[vl,vu,.none] } } σ H3 x v vl vu l u s3.heap.objs.size Q I4 r1 (Heap.IsSliceOf.new ..) pl pu q3;show SQ (SU X.prog X.w) X.A (subscriptTail e (.Slice lo hi none p2) v (.ref s3.heap.objs.size)) (EP X pins σ Q) X.xe { s3 with heap:=s3.heap.push { cls:=.type "slice",data:=.fields #[vl,vu,.none] } };exact tail_any (ops:=[.ref s3.heap.objs.size,v]) ht hT hg (by with_unfolding_all rfl)
def Oq(xs:List V)(lo hi:Option Int):List V:=(xs.drop (HT.sIx xs.length 0 lo)).take (HT.sIx xs.length xs.length hi-HT.sIx xs.length 0 lo)
theorem Ec(xs:List V)(lo hi:Option Int):(Oq xs lo hi).length<=xs.length:=by
 unfold Oq;rw[MQ,NS]
 lia
def DV(K:W.Frag):R2:=λx y H Q=>∃a b xs ys,x = .ref a/\y = .ref b/\Dh K H a xs/\Dh K H b ys/\xs≠[]/\xs.length+ys.length<=SY/\
 (ys=[]->Q (.ref a) H)/\(ys≠[]->∀p,H p=none->Q (.ref p) (upd H p (.tup (xs++ys))))
theorem a9.nil_iff(r:a9 xs us):us=[]↔xs=[]:=by
 cases r with
 |nil=>simp
 |cons _ _=>simp
theorem B7:kR X (TR .Add) (DV X.K):=by
 intro pins s σ H x y v u Q I rx ry h;obtain⟨a,b,xs,ys,rfl,rfl,ha,hb,hx,hz,q1,q2⟩:=h;cases rx;cases ry;obtain⟨VL,r1,p1,_⟩:=I.tuple ha;obtain⟨fo,r2,p2,_⟩:=I.tuple hb;refine HT.cat_tup p1 p2 (λz=>hx (r1.nil_iff.mp z)) (λz=>⟨.ref a,H,I,rfl,q1 (r2.nil_iff.mp z)⟩) (λz=>?_) (by rw[<-r1.length,<-r2.length];exact hz);refine⟨.ref s.heap.objs.size,_,I.laid (t':=s.toks) (o:=.tup (xs++ys)) (λb ob q=>LI _ q) (LN _) ?_,rfl,q2 (λw=>z (r2.nil_iff.mpr w)) _ (I.hok.fresh (LN _))⟩;exact⟨by rw[LG];exact hz,_,r1.append r2,IsTup.new _ _⟩
end
def Hn(n:Nat)(i:Int):Option Nat:=if 0<=i then(if i<n then oZ i.toNat else none)else if -(n:Int)<=i then oZ (i+n).toNat else none
def eV{α:Type}(xs:List α)(i:Int):Option α:=(Hn xs.length i).bind λj=>xs[j]?
theorem Lo{i:Int}(h:Hn n i=oZ j):seqIndex? i n=oZ j/\j<n/\-(n:Int)<=i/\i<n:=by
 unfold Hn at h
 by_cases h0:0<=i
 ·rw[oV h0]at h
  by_cases h1:i<n
  ·rw[oV h1]at h;have e:i.toNat=j:=Option.some.inj h;exact⟨by rw[seqIndex_of h0 h1,e],⋯,⋯,h1⟩
  ·rw[oW h1]at h;cases h
 ·rw[oW h0]at h
  by_cases h1:-(n:Int)<=i
  ·rw[oV h1]at h;have e:(i+n).toNat=j:=Option.some.inj h;exact⟨by rw[seqIndex_neg ⋯ h1,e],⋯,h1,⋯⟩
  ·rw[oW h1]at h;cases h
theorem Ab{α:Type}{xs:List α}{i:Int}{v:α}(h:eV xs i=oZ v):∃j,seqIndex? i xs.length=oZ j/\xs[j]?=oZ v/\j<xs.length/\-(xs.length:Int)<=i/\i<xs.length:=by
 unfold eV at h;cases e:Hn xs.length i with
 |none=>rw[e]at h;cases h
 |some j=>
  rw[e]at h;obtain⟨h1,h2,h3,h4⟩:=Lo e;exact⟨j,h1,h,h2,h3,h4⟩
theorem lI{α:Type}{xs:List α}{j:Nat}{v:α}(h:xs[j]?=oZ v):eV xs (j:Int)=oZ v:=by
 have hj:j<xs.length:=(KZ.mp h).1;have e:Hn xs.length (j:Int)=oZ j:=by
  unfold Hn;rw[oV ⋯,oV ⋯];simp
 unfold eV;rw[e];exact h
def uJ(b:oC):Prop:=∀o i,UX b false o i=operate [o,i] (VB o i)
def Yd(X:Cx)(r:R2):Prop:=
 ∀(value slice:oC)(pins:List (SN×Obj))(s:oB)(σ:St)(H:Hp)(x y:V)(v u:oA)(Q:VK),aT X pins σ H s->bC x v->bC y u->r x y H Q->
  UX slice false v u=operate [v,u] (VB v u)->SQ (SU X.prog X.w) X.A (subscriptTail value slice v u) (EP X pins σ Q) X.xe s
def P5(X:Cx)(id:String)(r:V->List V->Hp->VK->Prop):Prop:=
 ∀(pins:List (SN×Obj))(s:oB)(σ:St)(H:Hp)(x:V)(xs:List V)(v:oA)(us:List oA)(Q:VK),aT X pins σ H s->bC x v->a9 xs us->r x xs H Q->
  SQ (SU X.prog X.w) X.A (call (.builtin id) (v::us)) (EP X pins σ Q) X.xe s
section
variable{X:Cx}{a b:oC}{ta tb:TE}{pos:Pos}
theorem Yd.or(h:Yd X r)(h':Yd X r'):Yd X (λx y H Q=>r x y H Q\/r' x y H Q):=by
 intro value slice pins s σ H x y v u Q I rx ry q hs;obtain q|q:=q
 ·exact h value slice pins s σ H x y v u Q I rx ry q hs
 ·exact h' value slice pins s σ H x y v u Q I rx ry q hs
theorem DG(hr:Yd X r)(ha:PE X a ta)(hb:PE X b tb)(hs:uJ b):PE X (.Subscript a b pos) (Xd r ta tb):=by
 intro pins s σ H Q I h;exact Subscript_ (Q0 ha hb I h λv u s2 x y H2 I2 rx ry q=>hr a b pins s2 σ H2 x y v u Q I2 rx ry q (hs _ _))
def DW(K:W.Frag):R2:=λx y H Q=>∃p xs i v,x = .ref p/\y = .int i/\lA K H p xs/\eV xs i=oZ v/\Q v H
def DY(K:W.Frag):R2:=λx y H Q=>∃p xs i v,x = .ref p/\y = .int i/\Dh K H p xs/\eV xs i=oZ v/\Q v H
def DX:R2:=λx y H Q=>∃z i c,x = .str z/\y = .int i/\z.length<=SY/\eV z.cps.toList i=oZ c/\Q (.str ⟨#[c]⟩) H
theorem Zs:Yd X (DW X.K):=by
 intro value slice pins s σ H x y v u Q I rx ry h hs;obtain⟨p,xs,i,z,rfl,rfl,hq,he,q⟩:=h;cases rx;obtain⟨t,rfl⟩:=ry;obtain⟨VL,r,pl,hz⟩:=I.list hq;obtain⟨j,h1,h2,h3,h4,h5⟩:=Ab he;obtain⟨w,ew,fk⟩:=r.get h2;have hl:=r.length;have hn:=sG;have fin:EP X pins σ Q w s:=⟨z,H,I,fk,q⟩
 by_cases h0:0<=i
 ·have hj:i.toNat=j:=by
   rw[seqIndex_of h0 h5]at h1;exact Option.some.inj h1
  exact item_listR pl.isList h0 ⋯ (by rw[hj];simpa using ew) fin hs
 ·have hj:(i+(VL.toArray.size:Int)).toNat=j:=by
   rw[seqIndex_neg ⋯ h4]at h1;rw[LR,<-hl];exact Option.some.inj h1
  exact subscriptTail_builtinR (x:=w) pl.isList.typeIs slot_list_getitem.lookup
   (wpAny_getItem_list_neg (Q:=λr s'=>r=w/\EP X pins σ Q r s') pl.isList ⋯ (by rw[LR]<;>lia) ⋯ (by rw[hj];simpa using ew) ⟨rfl,fin⟩) hs
theorem U5:Yd X (DY X.K):=by
 intro value slice pins s σ H x y v u Q I rx ry h hs;obtain⟨p,xs,i,z,rfl,rfl,hq,he,q⟩:=h;cases rx;obtain⟨t,rfl⟩:=ry;obtain⟨VL,r,pl,hz⟩:=I.tuple hq;obtain⟨j,h1,h2,h3,h4,h5⟩:=Ab he;obtain⟨w,ew,fk⟩:=r.get h2;have hl:=r.length;have hn:=sG;have fin:EP X pins σ Q w s:=⟨z,H,I,fk,q⟩;exact subscriptTail_builtinR (x:=w) pl.typeIs slot_tuple_getitem.lookup
  (getItem_tuple (j:=j) (Q:=λr s'=>r=w/\EP X pins σ Q r s') pl ⋯ ⋯ (by rw[LR,<-hl];exact h1) (by simpa using ew) ⟨rfl,fin⟩) hs
theorem U4:Yd X DX:=by
 intro value slice pins s σ H x y v u Q I rx ry h hs;obtain⟨z,i,c,rfl,rfl,hz,he,q⟩:=h;obtain⟨t,rfl⟩:=rx;obtain⟨t',rfl⟩:=ry;obtain⟨j,h1,h2,h3,h4,h5⟩:=Ab he;have hl:z.cps.toList.length=z.length:=by simp[Str.length]
 rw[hl]at h1 h4 h5;have hn:=sG;exact tail_any (typeIs_str s z t) slot_str_getitem.lookup (getItem_str (c:=c) (by
  have e1:decide (i < -(2^63:Int))=false:=oX ⋯;have e2:decide (i>=2^63)=false:=oX ⋯;rw[e1,e2,Bool.or_false]) (by rw[h1];simpa using h2) ⟨.str ⟨#[c]⟩,H,I.tok _,⟨_,rfl⟩,q⟩) hs
def KR(K:W.Frag):R2:=λx y H Q=>DW K x y H Q\/DY K x y H Q\/DX x y H Q
theorem U3:Yd X (KR X.K):=Zs.or (U5.or U4)
theorem Iv(VL:List oA)(n j:Nat)(u:oA):OL (·.setIfInBounds j u) { cls:=.type "list",data:=.seq VL.toArray n } = { cls:=.type "list",data:=.seq (VL.set j u).toArray n }:=by
 simp[OL]
theorem aT.lst(I:aT X pins σ H s)(h:H p=oZ (.lst xs)):
  ∃(VL:List oA)(n:Nat),a9 xs VL/\s.heap.get? p=oZ { cls:=.type "list",data:=.seq VL.toArray n }/\xs.length<=SY:=by
 obtain⟨z,VL,n,r,e⟩:=I.hok p _ h;exact⟨VL,n,r,e,z⟩
theorem aT.lstUpd{H:Hp}{s:oB}{ys:List V}{VL its':List oA}{f:Obj->Obj}(I:aT X pins σ H s)(h:H p=oZ (.lst xs))(ho:s.heap.get? p=oZ { cls:=.type "list",data:=.seq VL.toArray n })(hf:f { cls:=.type "list",data:=.seq VL.toArray n } = { cls:=.type "list",data:=.seq its'.toArray n' })(r:a9 ys its')(hz:ys.length<=SY)(t:Nat):
  aT X pins σ (upd H p (.lst ys)) { s with heap:=s.heap.update p f,toks:=t }:=by
 have e:(s.heap.update p f).get? p=oZ { cls:=.type "list",data:=.seq its'.toArray n' }:=by
  rw[QH f ho (by rw[hf]<;>rfl),hf]
 refine I.write (x:=p) (e:=p) (by rw[h];trivial) (.inl rfl) (λb u hb q=>(SF _ _ (Ne.symm hb)).trans q) ⟨_,e⟩ ?_;exact⟨hz,its',n',r,e⟩
def DZ:V->V->V->Hp->(Hp->Prop)->Prop:=λo i v H Q=>∃p xs k j,o = .ref p/\i = .int k/\H p=oZ (.lst xs)/\Hn xs.length k=oZ j/\Q (upd H p (.lst (xs.set j v)))
theorem Wo:P7 X DZ:=by
 intro pins s σ H o i v ov iv u Q I ro ri rv h;obtain⟨p,xs,k,j,rfl,rfl,hp,hj,q⟩:=h;cases ro;obtain⟨t,rfl⟩:=ri;obtain⟨VL,n,r,ho,hz⟩:=I.lst hp;obtain⟨h1,h2,h3,h4⟩:=Lo hj;have hl:=r.length;have hn:=sG;have I':aT X pins σ (upd H p (.lst (xs.set j v))) { s with heap:=s.heap.update p (OL (·.setIfInBounds j u)) }:=
  I.lstUpd hp ho (Iv VL n j u) (r.set rv j) (by rw[QL];exact hz) s.toks
 by_cases h0:0<=k
 ·have hk:k.toNat=j:=by
   rw[seqIndex_of h0 h4]at h1;exact Option.some.inj h1
  exact W.ki_setAt ho h0 ⋯ (by rw[LR,<-hl];exact h4) (by rw[hk];exact⟨_,I',q⟩)
 ·have hk:(k+(VL.toArray.size:Int)).toNat=j:=by
   rw[seqIndex_neg ⋯ h3]at h1;rw[LR,<-hl];exact Option.some.inj h1
  exact W.ki_setBack ho ⋯ (by rw[LR,<-hl];exact h3) ⋯ (by rw[hk];exact⟨_,I',q⟩)
theorem Cv(lo hi:Option Int)(n:Nat):(UQ lo hi none n).1=((HT.sIx n 0 lo:Nat):Int)/\(UQ lo hi none n).2.1=((HT.sIx n n hi:Nat):Int)/\(UQ lo hi none n).2.2=1:=by
 refine⟨?_,?_,rfl⟩
 ·cases lo with
  |none=>simp[UQ,HT.sIx]
  |some i=>
   simp only[UQ,HT.sIx,Option.getD_none,show(1:Int)>0 by decide,if_true]
   by_cases h:i<0
   ·simp only[h,if_true]<;>lia
   ·simp only[h,if_false]<;>lia
 ·cases hi with
  |none=>simp[UQ,HT.sIx]
  |some i=>
   simp only[UQ,HT.sIx,Option.getD_none,show(1:Int)>0 by decide,if_true]
   by_cases h:i<0
   ·simp only[h,if_true]<;>lia
   ·simp only[h,if_false]<;>lia
theorem yC(VL:List oA)(lo hi:Option Int):slicePick VL.toArray lo hi none=((VL.drop (HT.sIx VL.length 0 lo)).take (HT.sIx VL.length VL.length hi-HT.sIx VL.length 0 lo)).toArray:=by
 obtain⟨h1,h2,h3⟩:=Cv lo hi VL.toArray.size;unfold slicePick;rw[h1,h2,h3];simp only[sliceRange_one,pick_run,LR]<;>rfl
def IU(K:W.Frag):V->Option Int->Option Int->Hp->VK->Prop:=λx lo hi H Q=>∃a xs,x = .ref a/\lA K H a xs/\∀p,H p=none->Q (.ref p) (upd H p (.lst (Oq xs lo hi)))
theorem G4:HC X (IU X.K):=by
 intro pins s σ H x v vl vu lo hi sl Q I rx hs pl pu h;obtain⟨a,xs,rfl,hx,q⟩:=h;cases rx;obtain⟨VL,r,ht,hz⟩:=I.list hx;have hlen:=r.length;refine⟨"list",_,slot_list_getitem.lookup,ht.isList.typeIs,?_⟩;refine wpAny_getItem_list_slice ht.isList hs pl pu .none (by simp) ?_ (by rw[LR]<;>lia);rw[yC,<-hlen];refine⟨.ref s.heap.objs.size,_,I.laid (t':=s.toks) (o:=.lst (Oq xs lo hi)) (λb ob q=>LI _ q) (LN _) ?_,rfl,q _ (I.hok.fresh (LN _))⟩;exact⟨MV (Ec xs lo hi) hz,_,0,(r.drop (HT.sIx xs.length 0 lo)).take (HT.sIx xs.length xs.length hi-HT.sIx xs.length 0 lo),LU _ rfl⟩
theorem Ae:i4 X (.builtin "len") (λxs H Q=>∃p ys,xs=[.ref p]/\(lA X.K H p ys\/Dh X.K H p ys)/\Q (.int ys.length) H):=by
 intro pins s σ H xs us Q I r h;obtain⟨p,ys,rfl,hq,q⟩:=h;obtain⟨u,rfl,rx⟩:=r8 r;cases rx;have hn:=sG;obtain hq|hq:=hq
 ·obtain⟨VL,r',pl,hz⟩:=I.list hq;have hlen:=r'.length;exact Calls.call_len_list pl.isList (by simp only[LR]<;>lia) ⟨.int ys.length,H,I.tok _,⟨s.toks+1,by rw[LR,hlen]⟩,q⟩
 ·obtain⟨VL,r',pl,hz⟩:=I.tuple hq;have hlen:=r'.length;exact len_tuple pl (by simp only[LR]<;>lia) ⟨.int ys.length,H,I.tok _,⟨s.toks+1,by rw[LR,hlen]⟩,q⟩
theorem Af:i4 X (.builtin "len") (λxs H Q=>∃z,xs=[.str z]/\z.length<=SY/\Q (.int z.length) H):=by
 intro pins s σ H xs us Q I r h;obtain⟨z,rfl,hz,q⟩:=h;obtain⟨u,rfl,t,rfl⟩:=r8 r;have hn:=sG;exact len_str ⋯ ⟨.int z.length,H,I.tok _,⟨_,rfl⟩,q⟩
theorem Ag:i4 X (.type "list") (λxs H Q=>∃p ys,xs=[.ref p]/\(lA X.K H p ys\/Dh X.K H p ys)/\∀l,H l=none->Q (.ref l) (upd H l (.lst ys))):=by
 intro pins s σ H xs us Q I r h;obtain⟨p,ys,rfl,hq,q⟩:=h;obtain⟨u,rfl,rx⟩:=r8 r;cases rx;have fin:∀(VL:List oA),a9 ys VL->ys.length<=SY->∀(h':oE)(c':Nat),(∀b o',s.heap.get? b=oZ o'->h'.get? b=oZ o')->
   h'.get? s.heap.objs.size=oZ { cls:=.type "list",dict:=none,data:=.seq VL.toArray c',slots:=#[] }->EP X pins σ Q (.ref s.heap.objs.size) { s with heap:=h' }:=λVL r' hz h' c' kp e=>
  ⟨.ref s.heap.objs.size,_,I.laid (t':=s.toks) kp (LN _) (show dW X.prog X.w _ h' _ (.lst ys)from⟨hz,VL,c',r',e⟩),rfl,q _ (I.hok.fresh (LN _))⟩
 obtain hq|hq:=hq
 ·obtain⟨VL,r',pl,hz⟩:=I.list hq;have hlen:=r'.length;obtain⟨o,ho,hc,n,hd⟩:=pl.isList;exact call_list_seq p (.inl rfl) ho hc hd (λh' c' kp e=>fin VL r' hz h' c' kp e) (by simp only[LR]<;>lia)
 ·obtain⟨VL,r',pl,hz⟩:=I.tuple hq;have hlen:=r'.length;obtain⟨o,ho,hc,n,hd⟩:=pl;exact call_list_seq p (.inr rfl) ho hc hd (λh' c' kp e=>fin VL r' hz h' c' kp e) (by simp only[LR]<;>lia)
theorem xV:i4 X (.type "tuple") (λxs H Q=>∃p ys,xs=[.ref p]/\((lA X.K H p ys/\∀l,H l=none->Q (.ref l) (upd H l (.tup ys)))\/(Dh X.K H p ys/\Q (.ref p) H))):=by
 intro pins s σ H xs us Q I r h;obtain⟨p,ys,rfl,h⟩:=h;obtain⟨u,rfl,rx⟩:=r8 r;cases rx;obtain⟨hq,q⟩|⟨hq,q⟩:=h
 ·obtain⟨VL,r',pl,hz⟩:=I.list hq;have hlen:=r'.length;refine call_tuple_list pl.isList (λh' kp=>?_) (by simp only[LR]<;>lia);have I1:aT X pins σ H { s with heap:=h' }:=I.kept (t':=s.toks) kp;have I2:aT X pins σ (upd H h'.objs.size (.tup ys)) { s with heap:=h'.push { cls:=.type "tuple",data:=.seq VL.toArray } }:=
   I1.laid (t':=s.toks) (λb o e=>LI _ e) (LN _) (show dW X.prog X.w _ _ _ (.tup ys)from⟨hz,VL,r',IsTup.new _ _⟩)
  exact⟨.ref h'.objs.size,_,I2,rfl,q _ (I1.hok.fresh (LN _))⟩
 ·obtain⟨VL,r',pl,hz⟩:=I.tuple hq;exact call_tuple_same pl ⟨.ref p,H,I,rfl,q⟩
def JA(K:W.Frag)(T:String)(x:V)(H:Hp):Prop:=match x with
 |.str _=>T = "str"
 |.int _=>T = "int"
 |.ref p=>(T = "list"/\∃xs,lA K H p xs)\/(T = "tuple"/\∃o,K.lookup p=oZ o/\o.cls = .type "tuple"/\o.dict=none)\/
   (T = "dict"/\((∃VN,H p=oZ (.dK VN))\/∃VN,H p=oZ (.dT VN)))\/(T = "set"/\∃S n,H p=oZ (.set S n))
 |_=>False
theorem Xt(I:aT X pins σ H s)(r:bC x v)(ty:JA X.K T x H):
  s.TypeIs v T/\∀a,v = .ref a->∃ob,s.heap.get? a=oZ ob/\ob.dict=none:=by
 cases x with
 |str z=>
  obtain⟨t,rfl⟩:=r;cases(show T = "str" from ty);exact⟨typeIs_str s z t,λ_ e=>nomatch e⟩
 |int i=>
  obtain⟨t,rfl⟩:=r;cases(show T = "int" from ty);exact⟨typeIs_int s i t,λ_ e=>nomatch e⟩
 |ref p=>
  cases r;obtain⟨rfl,xs,hq⟩|⟨rfl,o,hk,hc,hd⟩|⟨rfl,hk⟩|⟨rfl,S,n,hk⟩:=ty
  ·obtain⟨VL,_,pl,_⟩:=I.list hq;refine⟨pl.isList.typeIs,λa e=>?_⟩;cases e;obtain⟨o,n,e,c,hd,_⟩:=pl;exact⟨o,e,hd⟩
  ·refine⟨⟨o,I.kIn p o hk,hc⟩,λa e=>?_⟩;cases e;exact⟨o,I.kIn _ o hk,hd⟩
  ·have z:∃o,s.heap.get? p=oZ o/\o.ExactDict:=by
    obtain⟨VN,hk⟩|⟨VN,hk⟩:=hk
    ·obtain⟨_,_,_,_,o,_,_,e,ex,_⟩:=I.hok p _ hk;exact⟨o,e,ex⟩
    ·obtain⟨_,_,_,_,o,_,_,e,ex,_⟩:=I.hok p _ hk;exact⟨o,e,ex⟩
   obtain⟨o,e,ex⟩:=z;refine⟨⟨o,e,ex.1⟩,λa e2=>?_⟩;cases e2;exact⟨o,e,ex.2.1⟩
  ·obtain⟨o,_,_,_,e,ex,_⟩:=I.hok p _ hk;refine⟨⟨o,e,ex.1⟩,λa e2=>?_⟩;cases e2;exact⟨o,e,ex.2.1⟩
 |_=>exact False.elim ty
def EM(K:W.Frag)(T:String)(r:V->List V->Hp->VK->Prop)(to:TE):TE:=λσ H Q=>to σ H λx H1=>JA K T x H1/\r x [] H1 Q
def AM(K:W.Frag)(T:String)(r:V->List V->Hp->VK->Prop)(to:TE)(t:TA):TE:=λσ H Q=>to σ H λx H1=>JA K T x H1/\t σ H1 λxs H2=>r x xs H2 Q
variable{o e:oC}{es:List oC}{to:TE}{t:TA}{name:Str}{apos br:Pos}{T id:String}{r:V->List V->Hp->VK->Prop}
theorem X1(pa:PlainAttrs T)(slot:Slot T name id)(jx:typeOf (.builtin id)=pure (.type "method_descriptor"))(hm:P5 X id r)(ho:PE X o to)(WK:TQ o name X.env (TF o X.env)=TF o X.env:=by rfl)(WL:(apos.endLine==br.line)=true:=by rfl):PE X (.Call (.Attribute o name apos) [] [] br) (EM X.K T r to):=by
 intro pins s σ H Q I h;refine wpAny_Call_method0_late WK WL (cL (ho pins s σ H _ I h) λv s1 zZ=>?_);obtain⟨x,H1,I1,r1,ty,q1⟩:=zZ;obtain⟨h1,h2⟩:=Xt I1 r1 ty;exact⟨T,id,pa,slot,jx,h1,h2,Calls.callWith_builtin rfl (PySem.evalArgs_none (hm pins s1 σ H1 x [] v [] Q I1 r1 .nil q1))⟩
theorem Ge(pa:PlainAttrs T)(slot:Slot T name id)(jx:typeOf (.builtin id)=pure (.type "method_descriptor"))(hm:P5 X id r)(ho:PE X o to)(ha:PA X (e::es) t)(WK:TQ o name X.env (TF o X.env)=TF o X.env:=by rfl)(aAQ:((UW br (TJ (e::es) X.env)).all (λx=>!x.1)&&(backToKw br (keywordEach [] X.env)).all (λx=>x.1.isSome)
  &&decide ((e::es).length+([]:List Keyword).length+(if([]:List Keyword).isEmpty then 0 else 1)<30))=true:=by rfl)(WL:(apos.endLine==br.line)=true:=by rfl)(hs:TJ (e::es) X.env=(false,TF e X.env)::TJ es X.env:=by rfl)(qx:(UW br (TJ es X.env)).any (·.1)=false:=by rfl):
  PE X (.Call (.Attribute o name apos) (e::es) [] br) (AM X.K T r to t):=by
 intro pins s σ H Q I h;refine wpAny_Call_method_late WK aAQ WL rfl (cL (ho pins s σ H _ I h) λv s1 zZ=>?_);obtain⟨x,H1,I1,r1,ty,q1⟩:=zZ;obtain⟨h1,h2⟩:=Xt I1 r1 ty;refine⟨T,id,pa,slot,jx,h1,h2,?_⟩;have hA:=ha br pins s1 σ H1 _ I1 q1;rw[hs]at hA⊢;refine Calls.callWith_builtin (by show(false||(UW br (TJ es X.env)).any (·.1))=false;rw[qx]<;>rfl) (Calls.evalArgs_plain ?_);exact cL hA λus s2 zZ=>by obtain⟨vs,H2,I2,r2,q2⟩:=zZ;exact hm pins s2 σ H2 x vs v us Q I2 r1 r2 q2
/- xs.append(e),list.index on a module's tuple .. are P5 facts of 06m -/
end
def GQ(X:Cx)(id:String)(r:V->List V->Hp->VK->Prop):Prop:=
 ∀(pins:List (SN×Obj))(s:oB)(σ:St)(H:Hp)(x:V)(xs:List V)(v:oA)(us:List oA)(Q:VK),aT X pins σ H s->bC x v->a9 xs us->r x xs H Q->
  SQ (SU X.prog X.w) X.A (call (.builtin id) (v::us)) (EP X pins σ Q) X.xe s
theorem a9.one:∀{x:V}{us:List oA},a9 [x] us->∃u,us=[u]/\bC x u
 |_,_,.cons r .nil=>⟨_,rfl,r⟩
theorem a9.two:∀{x y:V}{us:List oA},a9 [x,y] us->∃u v,us=[u,v]/\bC x u/\bC y v
 |_,_,_,.cons r (.cons q .nil)=>⟨_,_,rfl,r,q⟩
theorem a9.eraseIdx:∀{xs:List V}{us:List oA}(i:Nat),a9 xs us->a9 (xs.eraseIdx i) (us.eraseIdx i)
 |_,_,_,.nil=>.nil
 |_,_,0,.cons _ t=>t
 |_,_,i+1,.cons r t=>.cons r (a9.eraseIdx i t)
theorem a9.reverse(h:a9 xs us):a9 xs.reverse us.reverse:=by
 induction h with
 |nil=>exact .nil
 |cons r t ih=>rw[OB,OB];exact a9.append ih (.cons r .nil)
theorem a9.rep(h:a9 xs us):∀k:Nat,a9 (LF k xs).flatten (LF k us).flatten
 |0=>.nil
 |k+1=>by
  rw[MM,MM,NF,NF];exact a9.append h (a9.rep h k)
theorem zB{α:Type}:∀(l:List α)(i:Nat),(l.eraseIdx i).length<=l.length
 |[],_=>LN _
 |_::_,0=>Nat.le_succ _
 |_::r,i+1=>RM (zB r i)
theorem y0(VL:List oA):∀(k:Nat)(acc:List oA),
  QM (λx1 x2=>x1++x2) acc.toArray (LF k VL.toArray)=(acc++(LF k VL).flatten).toArray
 |0,acc=>by simp
 |k+1,acc=>by
  have e:acc.toArray++VL.toArray=(acc++VL).toArray:=by simp
  have e2:(acc++VL)++(LF k VL).flatten=acc++(LF (k+1) VL).flatten:=by
   rw[MM,NF,LW]
  rw[<-e2,<-y0 VL k (acc++VL),<-e,MM,List.foldl_cons]
theorem aT.lset{H:Hp}{s:oB}{ys:List V}{VL its':List oA}{f:Array oA->Array oA}(I:aT X pins σ H s)(hH:H l=oZ (.lst xs))(e:s.heap.get? l=oZ { cls:=.type "list",data:=.seq VL.toArray n })(hf:f VL.toArray=its'.toArray)(hv:a9 ys its')(hz:ys.length<=SY):
  aT X pins σ (upd H l (.lst ys)) { s with heap:=s.heap.update l (OL f),toks:=t' }:=by
 have q:=PySem.IsL.update e f;rw[hf]at q;refine I.write (x:=l) (e:=l) (by rw[hH];exact trivial) (.inl rfl) (λb' u hb hu=>(SF s.heap (OL f) (Ne.symm hb)).trans hu) ⟨_,q⟩ ?_;exact⟨hz,its',_,hv,q⟩
theorem aT.lnew(I:aT X pins σ H s)(hv:a9 ys VL)(hz:ys.length<=SY):
  aT X pins σ (upd H s.heap.objs.size (.lst ys)) { s with heap:=s.heap.push { cls:=.type "list",data:=.seq VL.toArray },toks:=t' }:=
 I.laid (λ_ _ q=>LI _ q) (LN _) ⟨hz,VL,0,hv,LU _ rfl⟩
theorem aT.fresh(I:aT X pins σ H s):H s.heap.objs.size=none:=I.hok.fresh (LN _)
theorem aT.lstM(I:aT X pins σ H s)(hH:H l=oZ (.lst xs)):xs.length<=SY/\∃(VL:List oA)(n:Nat),a9 xs VL/\xs.length=VL.length/\s.heap.get? l=oZ { cls:=.type "list",data:=.seq VL.toArray n }:=by
 obtain⟨z,VL,n,r,e⟩:=I.hok l _ hH;exact⟨z,VL,n,r,r.length,e⟩
theorem Fj(h:n<=SY):Builtin.List.listTooLong n=false:=by
 unfold Builtin.List.listTooLong;exact oX ⋯
def Cb:V->List V->Hp->VK->Prop:=λx vs H Q=>∃l xs y,x = .ref l/\vs=[y]/\H l=oZ (.lst xs)/\xs.length<SY/\Q .non (upd H l (.lst (xs++[y])))
theorem zD:GQ X "list.append" Cb:=by
 intro pins s σ H x vs v us Q I rx rv h;obtain⟨l,xs,y,rfl,rfl,hH,hz,q⟩:=h;cases rx;obtain⟨u,rfl,ru⟩:=rv.one;obtain⟨z,VL,n,r,hl,e⟩:=I.lstM hH;refine VD F.slot_list_append ⟨_,e,rfl⟩ F.entry_list_append (F.args_list_append_2 _ _) (PySem.list_append l VL.toArray n u (by rw[LR];lia)) ⟨e,?_⟩;refine⟨.non,_,I.lset (its':=VL++[u]) hH e (by simp) (r.append (.cons ru .nil)) ?_,rfl,q⟩;rw[LG,MD]
 lia
def Mh:V->List V->Hp->VK->Prop:=λx vs H Q=>∃l b xs zs,x = .ref l/\vs=[.ref b]/\H l=oZ (.lst xs)/\H b=oZ (.lst zs)/\xs.length+zs.length<=SY/\Q .non (upd H l (.lst (xs++zs)))
theorem Pp:GQ X "list.extend" Mh:=by
 intro pins s σ H x vs v us Q I rx rv h;obtain⟨l,b,xs,zs,rfl,rfl,hH,hB,hz,q⟩:=h;cases rx;obtain⟨u,rfl,ru⟩:=rv.one;cases ru;obtain⟨z,VL,n,r,hl,e⟩:=I.lstM hH;obtain⟨z2,fo,n2,r2,hl2,e2⟩:=I.lstM hB;have hsz:VL.toArray.size+fo.toArray.size<=SY:=by rw[LR,LR];lia
 have kg:¬(!VL.toArray.isEmpty&&Builtin.List.listTooLong (VL.toArray.size+fo.toArray.size))=true:=by
  rw[Fj hsz,SG];exact NZ
 refine VD F.slot_list_extend ⟨_,e,rfl⟩ F.entry_list_extend (F.args_list_extend_2 _ _)
  (AutoSeq1.list_extend_list_list_0 l VL.toArray n b fo.toArray n2 kg (by rw[LR];lia) ⋯) ⟨e,e2,?_⟩
 refine⟨.non,_,I.lset (its':=VL++fo) hH e (by simp) (r.append r2) ?_,rfl,q⟩;rw[LG]
 lia
def Vo:V->List V->Hp->VK->Prop:=λx vs H Q=>∃l xs i k y,x = .ref l/\vs=[.int i]/\H l=oZ (.lst xs)/\-(2^63)<=i/\i<2^63/\seqIndex? i xs.length=oZ k/\xs[k]?=oZ y/\Q y (upd H l (.lst (xs.eraseIdx k)))
theorem Tz:GQ X "list.pop" Vo:=by
 intro pins s σ H x vs v us Q I rx rv h;obtain⟨l,xs,i,k,y,rfl,rfl,hH,h1,h2,hk,hy,q⟩:=h;cases rx;obtain⟨u,rfl,ru⟩:=rv.one;obtain⟨t,rfl⟩:=ru;obtain⟨z,VL,n,r,hl,e⟩:=I.lstM hH;obtain⟨w,hw,fk⟩:=r.get hy;refine VD F.slot_list_pop ⟨_,e,rfl⟩ F.entry_list_pop (F.args_list_pop_2 _ _)
  (MeetsSeq.list_pop_at l VL.toArray n i t k w (fitsIndex_both h1 h2) (by rw[LR,<-hl];exact hk) (by rw[<-SH];exact hw) (by rw[LR];lia)) ⟨e,?_⟩
 refine⟨y,_,I.lset (its':=VL.eraseIdx k) hH e ?_ (r.eraseIdx k) ?_,fk,q⟩
 ·show VL.toArray.eraseIdxIfInBounds k=(VL.eraseIdx k).toArray;rw[List.eraseIdxIfInBounds_toArray]
 ·have:=zB xs k
  lia
def IQ:R2:=λx y H Q=>∃l b xs zs,x = .ref l/\y = .ref b/\H l=oZ (.lst xs)/\H b=oZ (.lst zs)/\xs.length+zs.length<=SY/\∀p,H p=none->Q (.ref p) (upd H p (.lst (xs++zs)))
theorem W3:kR X (TR .Add) IQ:=by
 intro pins s σ H x y v u Q I rx ry h;obtain⟨l,b,xs,zs,rfl,rfl,hH,hB,hz,q⟩:=h;cases rx;cases ry;obtain⟨z,VL,n,r,hl,e⟩:=I.lstM hH;obtain⟨z2,fo,n2,r2,hl2,e2⟩:=I.lstM hB;refine PySem.P.add_list e e2 ?_ (by rw[LR,LR];lia);have ea:VL.toArray++fo.toArray=(VL++fo).toArray:=by simp
 rw[ea];exact⟨.ref _,_,I.lnew (t':=s.toks) (r.append r2) (by rw[LG];lia),rfl,q _ I.fresh⟩
def IT:R2:=λx y H Q=>∃l k xs,x = .ref l/\y = .int k/\H l=oZ (.lst xs)/\-(2^63)<=k/\k<2^63/\xs.length*k.toNat<=SY/\
 ∀p,H p=none->Q (.ref p) (upd H p (.lst (LF k.toNat xs).flatten))
theorem Zx{α:Type}(xs:List α)(k:Nat):(LF k xs).flatten.length=k*xs.length:=by
 induction k with
 |zero=>simp
 |succ k ih=>rw[MM,NF,LG,ih,Nat.succ_mul,OD]
theorem W7:kR X (TR .Mult) IT:=by
 intro pins s σ H x y v u Q I rx ry h;obtain⟨l,k,xs,rfl,rfl,hH,h1,h2,hz,q⟩:=h;cases rx;obtain⟨t,rfl⟩:=ry;obtain⟨z,VL,n,r,hl,e⟩:=I.lstM hH;have hlen:VL.toArray.size*k.toNat<=SY:=by rw[LR,<-hl];exact hz
 have aAS:¬VL.toArray.size*k.toNat>(2^63-1)/8:=by
  have:(SY:Nat)<=(2^63-1)/8:=∅
  lia
 have aAT:¬(!Builtin.List.listFitsIndex k)=true:=by
  rw[fitsIndex_both h1 h2];exact NZ
 have kg:¬Builtin.List.listTooLong (VL.toArray.size*k.toNat)=true:=by
  rw[Fj hlen];exact NZ
 have aAU:QM (λx1 x2=>x1++x2) #[] (LF (if VL.toArray.isEmpty=true then 0 else k.toNat) VL.toArray)=(LF k.toNat VL).flatten.toArray:=by
  have f0:∀m:Nat,QM (λx1 x2=>x1++x2) #[] (LF m VL.toArray)=(LF m VL).flatten.toArray:=λm=>by
   have:=y0 VL m [];rw[List.nil_append]at this;exact this
  rw[f0];cases VL with
  |nil=>simp
  |cons a r'=>rw[oW (by simp)]
 refine wpAny_binaryOp_repeat_ref (T:="list") (U:="int") ∅ ⟨_,e,rfl⟩ (λs'=>typeIs_int s' k t) noFill_list_mul F.fills_int_mul F.slot_int_rmul repeat_list F.slot_int_index.lookup
  (VD F.slot_int_rmul (typeIs_int s k t) F.entry_int_rmul (F.args_int_rmul_2 _ _) (int___rmul___int_list k t l VL.toArray n)
   ⟨e,rfl,⟨_,e,rfl⟩,VD F.slot_list_mul ⟨_,e,rfl⟩ F.entry_list_mul (F.args_list_mul_2 _ _) (AutoListH.list___mul___list_int_3 l VL.toArray n k t aAT aAS kg) ⟨e,?_⟩⟩)
 rw[aAU];exact⟨.ref _,_,I.lnew (t':=s.toks) (r.rep k.toNat) (by rw[Zx,Nat.mul_comm];exact hz),rfl,q _ I.fresh⟩
end L2
namespace Att
open PySem PySem.W PySem.Calls PyProof.Rows
theorem t9:∀(ns:List Int)(vs:List oA),WellAll P h vs (ns.map WData.int)->IntsAre vs ns:=by
 intro ns
 induction ns with
 |nil=>
  intro vs w;rw[QN]at w;cases w;exact .nil
 |cons n ns ih=>
  intro vs w;rw[MP]at w;cases w with
  |cons a b=>
   cases a;exact .cons _ _ (ih _ b)
theorem Qu{l:OpenLaw}(hn:l.most=oZ n){h:oE}(my:l.row.toRowW.claim.pre args=true)(hwl:WellAll P h vals args):
  ∃a vs ns,vals=[MU a]/\args=[WData.list (ns.map WData.int)]/\h.get? a=oZ { cls:=.type "list",data:=.seq vs.toArray }/\IntsAre vs ns/\ns.length<=n:=by
 have hsh:WShape.hasAll [] args [.list .int]=true:=(pre_splitW my).1;have hc:l.pre.holds [] { args:=args } = true:=(pre_splitW my).2;obtain⟨d,r,rfl,h1,h2⟩:=hasAllW_cons hsh;obtain rfl:=hasAllW_nil h2;obtain⟨xs,rfl,h3⟩:=hasW_list h1;obtain⟨ns,rfl⟩:=items_int h3;have hlen:ns.length<=n:=by
  unfold OpenLaw.pre at hc;have h4:(WTm.not (.lt (.lit (.int (n:Int))) (.len (.arg 0)))).holds [] { args:=[.list (ns.map .int)] } = true:=by
   have h4:=(holds_andW hc).1;rw[hn]at h4;exact h4
  have h5:=condW_of h4 (w_not (w_lt w_lit (w_len_list (w_arg rfl))));rw[LJ]at h5;refine Nat.le_of_not_lt λq=>?_;have q':(n:Int)<((ns.length:Nat):Int):=⋯
  first
   |(rw[oY q']at h5;exact absurd h5 ∅)
   |(simp at h5;lia)
 cases hwl with
 |cons w1 w2=>
  cases w2;cases w1 with
  |list ho kh=>exact⟨_,_,ns,rfl,rfl,ho,t9 ns _ kh,hlen⟩
theorem Qj(l:OpenLaw)(args:List WData):l.row.toRowW.claim.post args (.bool true) args=true:=
 postW_of (r:=l.row.toRowW) (X:=(true==true))
  (show WShape.has [] (.bool true) .bool=true by first|rfl|decide|simp[WShape.has,WShape.arms,WShape.armsAll])
  (show(WTm.eq .res (.lit (.bool true))).value [] { args:=args,res:=oZ (.bool true),after:=args } = oZ (.bool (true==true))from w_eq_bool (w_res rfl) w_lit) rfl
theorem attach_call{l:OpenLaw}{XP:(Str->Option oA)->oE->Prop}{YP:SX->oE->Prop}{d:DefRec}(hn:l.most=oZ n)(wy:d.params.defaults=[])(call:∀(w:SX)(s₀ s₁:oB)(mg mb:Str->Option oA)(fa:SN)(o:Obj)(pm cd doc:oA)(a:SN)(vs:List oA)(ns:List Int),
   Ground q loose [] XP w s₀ mg mb s₁.heap->YP w s₁.heap->
   s₁.heap.get? fa=oZ o->o.data = .func (docDef d.name d.params d.body d.scope pm cd doc)->s₁.heap.CodeRec cd d.name->mg d.name=oZ (.ref fa)->
   s₁.heap.get? a=oZ { cls:=.type "list",data:=.seq vs.toArray }->IntsAre vs ns->ns.length<=n->s₁.gens = #[]->
   VE (SU l.prog w) VI (.call (.ref fa) ⟨[.ref a],[]⟩) (λr s'=>r = .ok (.ret (.bool true))/\OldK s₁.heap s'.heap/\s'.os=s₁.os/\UP s'.gens) s₁):
  WalkO q loose XP YP l.row.toRowW d [] (λf vs=>PySem.call f vs):=by
 intro w s₀ s₁ mg mb G Y fa o pm cd doc dV kV ho hd bh hD hmg hg args vals as my aDV hrd hwl hlo;obtain rfl:dV = .none:=Dflts.none hD wy;obtain rfl:kV = .none:=Dflts.noKw hD;obtain⟨a,vs,ns,rfl,rfl,qy,hints,hlen⟩:=Qu hn my hwl;refine enter_call (VJ (call w s₀ s₁ mg mb fa o pm cd doc a vs ns G Y ho (fd_plain hd) bh hmg qy hints hlen hg) λr s' hq=>?_);obtain⟨rfl,h2,h3,h4⟩:=hq;exact⟨.inl ⟨.bool true,.bool true,[],rfl,λ_=>rfl,.bool true,Qj l _,λ_=>⟨List.Pairwise.nil,λ_ hm=>(nomatch hm)⟩⟩,h2,h3,h4⟩
end Att
namespace L2
open PySem PySem.Spec PyProof.Rows
theorem zV:∀{vs:List oA}{ns:List Int},IntsAre vs ns->a9 (ns.map V.int) vs
 |_,_,.nil=>.nil
 |_,_,.cons n t h=>.cons ⟨t,rfl⟩ (zV h)
def P6(H:Hp):Prop:=∀b,H b=none\/∃o xs,H b=oZ (.frz o (.lst xs))
theorem Tq{K:W.Frag}{mb:Str->Option oA}{CX:Hm}{sp:Sp}{s₁:oB}{vs:List oA}{ns:List Int}(KX:K.In s₁.heap)(ja:s₁.heap.Ns SW mg)(hb:s₁.heap.Ns builtinsNs mb)(hbb:∀x:Str,x≠"__name__"->mb x=UA x)(aAW:s₁.heap.NoLimit)(hg:s₁.gens = #[])(ha:s₁.heap.get? a=oZ { cls:=.type "list",data:=.seq vs.toArray })(hi:IntsAre vs ns)(hl:ns.length<=SY)(hr:cV k VI)(F:∀base:oE,K.In base->base.Ns SW mg->aS P w K mg base CX k fa fd [x] sp)(wz:∀(s:oB)(u:oA),BindsTo s fd ⟨[u],[]⟩ [(x,u)])(qf:∀H:Hp,P6 H->lA K H a (ns.map V.int)->sp [.ref a] H (λv _=>v = .bl true) λ_ _ _=>False)(hCX:∀H e s',CX [] H s₁ (λ_ _ _=>False) e s'->False):
  VE (SU P w) VI (.call (.ref fa) ⟨[.ref a],[]⟩) (λr s'=>r = .ok (.ret (.bool true))/\OldK s₁.heap s'.heap/\s'.os=s₁.os/\UP s'.gens) s₁:=by
 have rv:=zV hi;have aAY:=hi.length
 -- from an abstract heap in which nothing but the script may be tracked
 have core:∀H:Hp,P6 H->lA K H a (ns.map V.int)->oT P w H s₁.heap->(∀b,H b≠none->b=a)->(H a≠none->K.lookup a=none)->
   VE (SU P w) VI (.call (.ref fa) ⟨[.ref a],[]⟩) (λr s'=>r = .ok (.ret (.bool true))/\OldK s₁.heap s'.heap/\s'.os=s₁.os/\UP s'.gens) s₁:=by
  intro H hO hS hok hA hK;have jc:∀{b:SN}{o:Obj},s₁.heap.get? b=oZ o->H b=none->(Az s₁.heap H).get? b=oZ o:=λe n=>Te e n;have wq:∀{b:SN}{o:Obj}{es:Array DictEntry}{ep:Nat},s₁.heap.get? b=oZ o->o.data = .dict es ep->H b=none:=λ{b o es ep}e d=>by
   cases q:H b with
   |none=>rfl
   |some u=>
    have e':b=a:=hA b (by rw[q];simp);subst e';rw[ha]at e;cases e;have d':Data.seq vs.toArray _=Data.dict es ep:=d;cases d'
  have zi:∀{b:SN}{m:Str->Option oA},s₁.heap.Ns b m->(Az s₁.heap H).Ns b m:=λ{b m}zZ=>by obtain⟨o,es,ep,e,d,r⟩:=zZ;exact⟨o,es,ep,jc e (wq e d),d,r⟩
  have hKb:K.In (Az s₁.heap H):=λb o e=>jc (KX b o e) (by
   cases q:H b with
   |none=>rfl
   |some u=>
    have e':b=a:=hA b (by rw[q];simp);subst e';rw[hK (by rw[q];simp)]at e;cases e)
  have hM:Mod K mg (Az s₁.heap H):=⟨hKb,zi ja,⟨mb,zi hb,hbb⟩,let⟨mc,h1,h2⟩:=aAW;⟨mc,zi h1,h2⟩⟩;have e0:Ri P w K mg (Az s₁.heap H) VI [] s₁ H:=⟨rfl,hM,λb o e=>A5 e,Nat.le_of_eq (Pf _ _),trivial,λb hb=>absurd (show b∈([]:List SN)from hb) (by simp),hok,.of_eq hg⟩;refine VJ ((F _ hKb (zi ja)).run VI [] s₁ H ⟨[.ref a],[]⟩ [.ref a] [.ref a] _ _ hr e0 (wz s₁ (.ref a)) (.cons rfl .nil) (qf H hO hS)) λr s' h=>?_;cases r with
  |error e=>exact(hCX H e s' h).elim
  |ok fl=>
   cases fl with
   |next=>exact False.elim h
   |brk=>exact False.elim h
   |cont=>exact False.elim h
   |ret u=>
    obtain⟨v,H',os,bare,un,aAZ,r',q⟩:=h;have q':v = .bl true:=q;subst q';obtain rfl:u=Value.bool true:=r';refine⟨rfl,OldK.of_keep λb o e=>?_,os,bare⟩;cases q:H b with
    |none=>exact un.keep b o e q (by intro z;exact absurd (show b∈([]:List SN)from z) (by simp)) (by simp)
    |some u=>
     obtain z|⟨ob,xs,z⟩:=hO b
     ·rw[q]at z;cases z
     ·have z2:=un.frzs b ob _ z;obtain⟨e1,_⟩:=hok b _ z;obtain⟨e2,_⟩:=aAZ b _ z2;rw[e]at e1;cases e1;exact e2
 cases hk:K.lookup a with
 |some o=>
  -- the script is one of the module's own objects
  have e:=KX a o hk;rw[ha]at e;cases e;refine core (λ_=>none) (λ_=>.inl rfl) (.inr ⟨_,vs.toArray,_,hk,rfl,rfl,rfl,by rw[LR,aAY];exact hl,by simpa using rv⟩) (λb u z=>by have z':(none:Option HO)=oZ u:=z;cases z') (λb z=>absurd rfl z) λz=>absurd rfl z
 |none=>
  refine core (λb=>if b=a then oZ (.frz { cls:=.type "list",data:=.seq vs.toArray } (.lst (ns.map V.int)))else none) (λb=>?_) (.inl (.inr ⟨{ cls:=.type "list",data:=.seq vs.toArray },oV rfl⟩)) (λb u z=>?_) (λb z=>?_) λ_=>hk
  ·by_cases hb:b=a
   ·exact .inr ⟨_,_,oV hb⟩
   ·exact .inl (oW hb)
  ·by_cases hb:b=a
   ·have z':=(oV hb).symm.trans z;cases z';subst hb;exact⟨ha,by rw[LJ];exact hl,vs,_,rv,ha⟩
   ·have z':=(oW hb).symm.trans z;cases z'
  ·by_cases hb:b=a
   ·exact hb
   ·exact absurd (oW hb) z
theorem J8{l:W.OpenLaw}{XP:(Str->Option oA)->oE->Prop}{YP:SX->oE->Prop}{d:DefRec}{K:Params->W.Frag}{CX:SX->Hm}{sp:SX->Sp}(hn:l.most=oZ n)(hn2:n<=SY)(wy:d.params.defaults=[])(hr:cV k VI)(hY:∀(w:SX)(h:oE),YP w h->(K w.params).In h)(F:∀(w:SX)(mg:Str->Option oA)(fa:SN)(h:oE),(K w.params).In h->h.Ns SW mg->mg d.name=oZ (.ref fa)->
   ∃fd:TK,(∀(s:oB)(u:oA),BindsTo s fd ⟨[u],[]⟩ [(x,u)])/\
    ∀base:oE,(K w.params).In base->base.Ns SW mg->aS l.prog w (K w.params) mg base (CX w) k fa fd [x] (sp w))(qf:∀(w:SX)(H:Hp)(a:SN)(ns:List Int),ns.length<=n->P6 H->lA (K w.params) H a (ns.map V.int)->sp w [.ref a] H (λv _=>v = .bl true) λ_ _ _=>False)(hCX:∀(w:SX)(H:Hp)(s:oB)(e:oA)(s':oB),CX w [] H s (λ_ _ _=>False) e s'->False):
  W.WalkO q loose XP YP l.row.toRowW d [] (λf vs=>PySem.call f vs):=by
 refine Att.attach_call hn wy λw s₀ s₁ mg mb fa o pm cd doc a vs ns G Y ho hd bh hmg qy hints hlen hg=>?_;have KX:=hY w _ Y;obtain⟨fd,hb,hF⟩:=F w mg fa _ KX G.T.g hmg;exact Tq KX G.T.g G.T.b G.T.builtins G.T.nolimit hg qy hints (MV hlen hn2) hr hF hb (λH hO hS=>qf w H a ns hlen hO hS) λH e s'=>hCX w H s₁ e s'
end L2
/- THE LAST THEOREM (shape;LID,My.* are yours):
   My.Adr: a structure of the addresses that your layer names (classes,functions);My.Txt K t: a structure (Prop) of the equations over K;
   My.txt_mk:{K} {implicit addresses ..} (e1:nsIn K SW "law" = oZ (oZ (.ref f))) (e2:K.lookup f=oZ ⟨oc,od,.func (fnOf "law" "law" params body scope dV kV doc pm an WR ct),sl⟩) (e3:codeIn K WR "law" = true) .. : ∃t,My.Txt K t
set_option maxRecDepth 100000 in
set_option maxHeartbeats 0 in
(the tactic k_is has no namespace: write k_is) -/
namespace L2
open PySem PySem.Spec PyProof.Rows
def eZ(s:SV):Arguments:=match s with
 |.FunctionDef _ a _ _ _ _ _ _ _ _=>a
 |_=>{ posonlyargs:=[],args:=[],vararg:=none,kwonlyargs:=[],kw_defaults:=[],kwarg:=none,defaults:=[] }
def cQ(s:SV):List SV:=match s with
 |.FunctionDef _ _ b _ _ _ _ _ _ _=>b
 |_=>[]
def aC(s:SV):UI:=match s with
 |.FunctionDef _ _ _ _ _ _ sc _ _ _=>sc
 |_=>{ kind:=.function,names:=[],isGenerator:=false,isCoroutine:=false }
abbrev cJ:Hm:=λ_ _ _ _ _ _=>False
abbrev E0:XK:=λ_ _ _=>False
theorem DC:Hu cJ X E0:=λ_ _ _ _ _ _ _ h=>h.elim
structure cI(K:W.Frag)(x qual:Str)(st:SV)(f:SN)(fd:TK):Prop where
 ex:∃(oc:oA)(od:Option SN)(kV doc pm:oA)(an:Option SN)(WR ct:oA)(qe:Array (Option oA)),
  fd=W.fnOf x qual (eZ st) (cQ st) (aC st) .none kV doc pm an WR ct/\K.lookup f=oZ ⟨oc,od,.func fd,qe⟩/\W.codeIn K WR qual=true
 kp:W.keepIn K (.ref f)=true
theorem cI.ok{P:SR}{w:SX}{K:W.Frag}{mg:Str->Option oA}{base:oE}{x qual:Str}{st:SV}{f:SN}{fd:TK}{N ps:List Str}{k:Nat}{sp:Sp}(F:cI K x qual st f fd)(S:aF N ps (aC st))(len:∀vs H Q E,sp vs H Q E->vs.length=ps.length)(fm:∀(WR:oA)(A:oD)(outer:List Env)(s:oB)(H:Hp)(vs:List V)(Q:VK)(E:XK),cV k (A.deeper (UK qual (aC st) s.heap.objs.size f WR))->sp vs H Q E->
   ∃t,Ko (vO cJ P w K mg base N qual (aC st) f WR A outer s H E).nox (cQ st) t/\t { nx:=λ_ H'=>Q .non H',rt:=Q } (j5 N vs) H):(~~~aS) cJ (k+1) f fd ps sp:=by
 obtain⟨oc,od,kV,doc,pm,an,WR,ct,qe,rfl,lk,bh⟩:=F.ex;refine CK lk bh S len λA outer s H vs Q E hr qf=>?_;obtain⟨t,h,q⟩:=fm WR A outer s H vs Q E hr qf;exact⟨t,h.nox,q⟩
theorem cI.binds{K:W.Frag}{x qual:Str}{st:SV}{f:SN}{fd:TK}{ps:List Str}(F:cI K x qual st f fd)(h:∀(kV doc pm:oA)(an:Option SN)(WR ct:oA)(us:List oA),us.length=ps.length->bindArgs (W.fnOf x qual (eZ st) (cQ st) (aC st) .none kV doc pm an WR ct) ⟨us,[]⟩=pure (ps.zip us)):kN K fd ps []:=by
 obtain⟨oc,od,kV,doc,pm,an,WR,ct,qe,rfl,lk,bh⟩:=F.ex;exact .all (h kV doc pm an WR ct)
theorem Sy{K:W.Frag}{x qual:Str}{st:SV}{f:SN}{oc:oA}{od an:Option SN}{qe:Array (Option oA)}{kV doc pm WR ct:oA}(l:K.lookup f=oZ ⟨oc,od,.func (W.fnOf x qual (eZ st) (cQ st) (aC st) .none kV doc pm an WR ct),qe⟩)(c:W.codeIn K WR qual=true)(k:W.keepIn K (.ref f)=true):cI K x qual st f (W.fnOf x qual (eZ st) (cQ st) (aC st) .none kV doc pm an WR ct):=⟨⟨oc,od,kV,doc,pm,an,WR,ct,qe,rfl,l,c⟩,k⟩
theorem K9(hr:cV k A):A.units+1<UR:=ML (Nat.add_le_add_left (by decide:1<=64) _) hr.units
theorem cB(h:n<=9000):n<SY:=ML h ∅
theorem Od:i4 X (.builtin "abs") (λxs H Q=>∃i:Int,xs=[.int i]/\Q (.int (i.natAbs:Int)) H):=by
 intro pins s σ H xs us Q I r h;obtain⟨i,rfl,q⟩:=h;obtain⟨u,rfl,rx⟩:=r8 r;obtain⟨t,rfl⟩:=rx;have e:(if i<0 then -i else i)=(i.natAbs:Int):=by split<;>lia
 exact call_abs_int λu tk=>⟨.int (i.natAbs:Int),H,I.tok _,⟨u,by rw[e]⟩,q⟩
theorem Of:i4 X (.type "int") (λxs H Q=>∃b:Bool,xs=[.bl b]/\Q (.int (if b then 1 else 0)) H):=by
 intro pins s σ H xs us Q I r h;obtain⟨b,rfl,q⟩:=h;obtain⟨u,rfl,rx⟩:=r8 r;cases rx;exact PySem.call_int_bool ⟨.int _,H,I.tok _,⟨_,rfl⟩,q⟩
theorem Oh(hc:X.calm=true):i4 X (.builtin "min") (λxs H Q=>∃a b:Int,xs=[.int a,.int b]/\Q (.int (if b<a then b else a)) H):=by
 intro pins s σ H xs us Q I r h;obtain⟨a,b,rfl,q⟩:=h;obtain⟨u,v,rfl,rx,ry⟩:=a9.two r;obtain⟨t,rfl⟩:=rx;obtain⟨t',rfl⟩:=ry;refine min_two_ints (I.ok.hd hc) λh' tk hk=>?_
 by_cases c:b<a
 ·simp only[oV c]at q⊢;exact⟨.int b,H,I.kept hk,⟨_,rfl⟩,q⟩
 ·simp only[oW c]at q⊢;exact⟨.int a,H,I.kept hk,⟨_,rfl⟩,q⟩
theorem Oe(hc:X.calm=true):i4 X (.builtin "all") (λxs H Q=>∃(p:SN)(bs:List Bool),xs=[.ref p]/\lA X.K H p (bs.map V.bl)/\Q (.bl (bs.all id)) H):=by
 intro pins s σ H xs us Q I r h;obtain⟨p,bs,rfl,hq,q⟩:=h;obtain⟨u,rfl,rx⟩:=r8 r;cases rx;obtain⟨VL,rv,pl,hz⟩:=I.list hq;have ZH:p≠s.heap.objs.size:=by
  obtain⟨o,n,ho,_⟩:=pl;exact MA (LL ho)
 have hl:=rv.length;rw[LJ]at hl;have hA:X.A.in1.handled=none:=I.ok.hd hc;refine call_all_walk (wpAny_pyIter_list pl.isList ?_);refine⟨s.heap.objs.size,_,_,_,_,_,(λi=>bs.getD i true),rfl,Walks.list hA s.heap.objs.size p ZH VL.toArray,⟨⟨_,LU _ rfl,rfl,rfl⟩,pl.isList.at λo e=>LI _ e⟩,?_,?_⟩
 ·intro i v s' Q' E' hv hQ';have zj:VL[i]?=oZ v:=by simpa using hv
  have hi:i<VL.length:=(KZ.mp zj).1;have hb:(bs.map V.bl)[i]?=oZ (V.bl bs[i]):=by
   rw[LB,LA ⋯];rfl
  obtain⟨u,hu,ru⟩:=rv.get hb;rw[zj]at hu;cases hu;cases ru;have e:bs.getD i true=bs[i]:=by rw[MC,LA ⋯];rfl
  simp only[e]at hQ';exact TU hQ'
 ·intro h' tk hk;have e:(NP VL.toArray.size).all (λi=>bs.getD i true)=bs.all id:=by
   rw[LR,<-hl];clear hl hz rv q hq pl ZH;rw[SE,NW,NW];constructor
   ·intro h b hb;obtain⟨i,hi,rfl⟩:=List.mem_iff_getElem.mp hb;have:=h i (OR.mpr hi);rw[MC,LA hi]at this;exact this
   ·intro h i hi;have hi:=OR.mp hi;rw[MC,LA hi];exact h _ (NM hi)
  rw[e];refine⟨.bl _,H,?_,rfl,q⟩;exact I.kept λb o e=>hk b o (by simp;exact MA (LL e)) (LI _ e)
theorem aT.turnedLaid{X:Cx}{pins:List (SN×Obj)}{σ:St}{H:Hp}{s:oB}{h':oE}{t':Nat}{ch:List SN}{a:SN}{o:HO}(I:aT X pins σ H s)(k:∀b u,b∉ch->s.heap.get? b=oZ u->h'.get? b=oZ u)(hf:∀b∈ch,pC X pins H b)(hp:s.heap.objs.size<=a)(new:dW X.prog X.w (upd H a o) h' a o):aT X pins σ (upd H a o) { s with heap:=h',toks:=t' }:=by
 have hn:=I.hok.fresh hp;have pf:∀b u,H b=oZ u->b∉ch:=λb u e z=>by rw[(hf b z).1]at e;cases e
 refine I.step (g':=s.gens) (d':=s.drawn) (ch:=ch) (λb hb=>⟨(hf b hb).2.2.2.1,(hf b hb).2.1,(hf b hb).2.2.2.2.1,(hf b hb).2.2.2.2.2⟩) (λb u _ _ hc e _=>k b u hc e) (λb u _ _ hc e _=>⟨u.slots,k b u hc e⟩)
  (λb u hc e n=>by rw[bD (MA (LP (LL e) hp))];exact n) (λb u hc e=>⟨u,k b u hc e⟩) (λb xs e=>by rw[bD (a8 e hn)];exact e) (λb u xs e=>by rw[bD (a8 e hn)];exact e)
  (λb ps e=>⟨#[],by rw[bD (a8 e hn),e];simp⟩) (λm hm=>?_) (λb u e=>?_) I.bare
 ·obtain⟨ob,es,ep,ho,r⟩:=hm;exact⟨ob,es,ep,k _ ob (λz=>(hf _ z).2.1 rfl) ho,r⟩
 ·by_cases hb:b=a
  ·subst hb;rw[dS]at e;cases e;exact new
  ·rw[bD hb]at e;refine(I.hok b u e).stay (λc v hc q=>k c v ?_ q) (λc q=>by rw[bD (a8 q hn)];exact q) λc xs q=>by rw[bD (a8 q hn)];exact q
   obtain z|z:=hc
   ·rw[z];exact pf b u e
   ·exact pf c _ z
theorem aT.turnedL{X:Cx}{pins:List (SN×Obj)}{σ:St}{H:Hp}{s:oB}{h':oE}{t':Nat}{ch:List SN}(I:aT X pins σ H s)(k:∀b u,b∉ch->s.heap.get? b=oZ u->h'.get? b=oZ u)(hf:∀b∈ch,pC X pins H b):aT X pins σ H { s with heap:=h',toks:=t' }:=by
 have pf:∀b u,H b=oZ u->b∉ch:=λb u e z=>by rw[(hf b z).1]at e;cases e
 refine I.step (g':=s.gens) (d':=s.drawn) (ch:=ch) (λb hb=>⟨(hf b hb).2.2.2.1,(hf b hb).2.1,(hf b hb).2.2.2.2.1,(hf b hb).2.2.2.2.2⟩) (λb u _ _ hc e _=>k b u hc e) (λb u _ _ hc e _=>⟨u.slots,k b u hc e⟩)
  (λb u hc e n=>n) (λb u hc e=>⟨u,k b u hc e⟩) (λb xs e=>e) (λb u xs e=>e) (λb ps e=>⟨#[],by rw[e];simp⟩) (λm hm=>?_) (λb u e=>?_) I.bare
 ·obtain⟨ob,es,ep,ho,r⟩:=hm;exact⟨ob,es,ep,k _ ob (λz=>(hf _ z).2.1 rfl) ho,r⟩
 ·refine(I.hok b u e).stay (λc v hc q=>k c v ?_ q) (λc q=>q) λc xs q=>q;obtain z|z:=hc
  ·rw[z];exact pf b u e
  ·exact pf c _ z
def GX(K:W.Frag)(a:SN):It:=
 ⟨λi H=>∃xs x,lA K H a xs/\xs[i]?=oZ x,λi H x H'=>∃p y,x = .ref p/\H p=none/\H'=upd H p (.tup [.int (i:Int),y])/\∀xs,lA K H a xs->xs[i]?=oZ y,λi H=>∃xs,lA K H a xs/\xs.length<=i⟩
theorem Qz{P:SR}{w:SX}{K:W.Frag}{elts:List oC}{x1}{ZK:Pos}(a e it:SN)(ZH:e≠it):
  Nx P w K (.Tuple elts x1 ZK) (GX K a) [e,it] e (λi h=>(∃old,IsEnum h e it (i:Nat) old)/\h.IsListIter it a i) where
 mem:=by simp
 obj:=λi h st b hb=>by
  obtain⟨⟨old,he⟩,⟨o,ho,hc,hd⟩⟩:=st;obtain rfl|hb:=LH.mp hb
  ·exact⟨_,he,λv z=>by cases z⟩
  ·rw[LY.mp hb];exact⟨o,ho,λv z=>by rw[hd]at z;cases z⟩
 keep:=λi h h' st k=>⟨let⟨old,he⟩:=st.1;⟨old,k e (by simp) _ he⟩,st.2.at λo x=>k it (by simp) o x⟩
 item:=by
  intro X hP hw hK hc i pins s σ H E I hf st hg;subst hP hw hK;obtain⟨xs,x,hq,hx⟩:=hg;obtain⟨VL,rv,p,hz⟩:=I.list hq;obtain⟨u,hu,ru⟩:=rv.get hx;obtain⟨⟨old,he⟩,hit⟩:=st;refine wpAny_pyNext_enum_item he hit p.isList (x:=u) (by simpa using hu) ZH λh1 ho aA0 ht hsz hk=>⟨_,rfl,?_⟩;refine wpAny_letOwnedTupleGo_enum ho λh2 he2 bq=>?_;have hen:e≠s.heap.objs.size:=MA (LL he);have kk:∀b o,b∉[e,it]->s.heap.get? b=oZ o->h2.get? b=oZ o:=λb o hb q=>by
   have zk:b≠e:=λz=>hb (by simp[z]);have qz:b≠it:=λz=>hb (by simp[z]);exact bq.extBut b o zk (hk b o zk qz q)
  have new:dW X.prog X.w (upd H s.heap.objs.size (.tup [.int (i:Int),x])) h2 s.heap.objs.size (.tup [.int (i:Int),x]):=
   ⟨by show 2<=SY;decide,[.int i s.toks,u],.cons ⟨_,rfl⟩ (.cons ru .nil),⟨_,bq.extBut _ _ (Ne.symm hen) ht,rfl,_,rfl⟩⟩
  refine⟨.ref s.heap.objs.size,upd H s.heap.objs.size (.tup [.int (i:Int),x]),I.turnedLaid (t':=s.toks+1) (ch:=[e,it]) kk hf (LN _) new,rfl,
   ⟨_,x,rfl,I.hok.fresh (LN _),rfl,λys hy=>by rw[I.list_inj hy hq];exact hx⟩,⟨⟨_,by simpa using he2⟩,aA0.extBut bq.extBut (Ne.symm ZH)⟩,λb hb=>?_⟩
  have XO:b<s.heap.objs.size:=by
   obtain rfl|hb:=LH.mp hb
   ·exact LL he
   ·rw[LY.mp hb];obtain⟨o,ig,_⟩:=hit;exact LL ig
  rw[bD (MA XO)];exact(hf b hb).1
 done:=by
  intro X hP hw hK hc i pins s σ H E I hf st hg;subst hP hw hK;obtain⟨xs,hq,hx⟩:=hg;obtain⟨VL,rv,p,hz⟩:=I.list hq;have hl:=rv.length;obtain⟨⟨old,he⟩,hit⟩:=st;refine wpAny_pyNext_enum_end (I.ok.hd hc) he hit p.isList (by simp;lia) λh1 eb=>⟨rfl,?_⟩;exact I.turnedL (t':=s.toks) (ch:=[e,it]) (λb o hb q=>eb b o (λz=>hb (by simp[z])) q) hf
 self:=λ_ _ _ _ _ st h=>let⟨old,he⟩:=st.1;wpAny_pyIter_enum he h
def L1(K:W.Frag)(ta:TA):TI:=λσ H R=>ta σ H λvs H1=>∃a,vs=[.ref a]/\(∃xs,lA K H1 a xs)/\R (GX K a) H1
theorem D0{x1}(hg:Gl X "enumerate")(hm:X.mg "enumerate" = none)(ha:PA X [a] ta)(hs:TJ [a] X.env=[(false,TF a X.env)]:=by rfl):
  PI X (.Tuple elts x1 ZK) (.Call (.Name "enumerate" p) [a] [] pos) (L1 X.K ta):=by
 intro pins s σ H R I h;refine Call_ (pY I hg hm boot_enumerate (PyProof.Rows.callWith_type1 (cL (ha pos pins s σ H _ I h) λus s1⟨vs,H1,I1,r1,q1⟩=>?_) hs rfl));obtain⟨l,rfl,⟨xs,hq⟩,q⟩:=q1;obtain⟨u,rfl,ru⟩:=a9.one r1;cases ru;obtain⟨VL,rv,pl,hz⟩:=I1.list hq;refine call_enumerate_list pl.isList λh' he hit hsz hk=>?_;refine wpAny_pyIter_enum he ?_;refine⟨s1.heap.objs.size+1,[s1.heap.objs.size+1,s1.heap.objs.size],_,_,H1,rfl,I1.kept (t':=s1.toks) hk,Qz l _ _ (Nat.succ_ne_self _),⟨⟨_,he⟩,hit⟩,λb hb=>?_,q⟩;have hle:s1.heap.objs.size<=b:=by
  obtain rfl|hb:=LH.mp hb
  ·exact Nat.le_succ _
  ·rw[LY.mp hb];exact LN _
 exact I1.fpOk hle (I1.hok.fresh hle)
theorem pE {R:Result->oB->Prop} (I:Nat->oB->Prop) (turn:∀n s,I n s->SQ (SU prog w) A (pyNext it) (λr s₁=>match r with
   | none=>R (.ok .next) s₁
   | some v=>SQ (SU prog w) A (UG target it v) (λ_ s₂=>SQ (SU prog w) A (UN target env v) (λ_ s₃=>SQ (SU prog w) A (forIn ifs true λc r=>if r=true then do let ok <-isTrue c env (TF c env);pure (ForInStep.yield ok) else pure (ForInStep.yield r)) (λok s₃'=>if ok=true then SQ (SU prog w) A (TF elt env) (λx s₄=>
     SQ (SU prog w) A (call (.builtin "list.append") [acc,x]) (λ_ s₅=>∃m,m<n/\I m s₅) (λ_ _=>False) s₄) (λ_ _=>False) s₃' else ∃m,m<n/\I m s₃') (λ_ _=>False) s₃) (λ_ _=>False) s₂) (λ_ _=>False) s₁) (λ_ _=>False) s) (n:Nat) (h:I n s):VE (SU prog w) A (.compLoop (.ListComp elt [⟨target,iter,ifs,0⟩] scope pos) 0 it acc env) R s:=by
 refine codeAny_loop rfl I (λn s hI=>?_) n h;show SQ _ A ((compTurn (.ListComp elt [⟨target,iter,ifs,0⟩] scope pos) 0 it acc env).onRaise (λx=>do noteFrame x env;theTreesLotGoes x)) _ _ s;refine wpAny_noted ?_;rw [compTurn_list];refine SO (UE (SO (TM (turn n s hI) (λr s₁ h₁=>?_) λ_ _ h'=>h'.elim)));cases r with
 | none=>exact TB h₁
 | some v=>
  refine SO (TM h₁ (λ_ s₂ h₂=>SO (TM h₂ (λ_ s₃ h₃=>SO (TM h₃ (λok s₃' h₃'=>?_) λ_ _ h'=>h'.elim)) λ_ _ h'=>h'.elim)) λ_ _ h'=>h'.elim);cases ok with
  | false=>exact TB ⟨rfl,h₃'⟩
  | true=>
   exact SO (SO (TM h₃' (λx s₄ h₄=>SO (TM h₄ (λ_ s₅ h₅=>TB (TB ⟨rfl,h₅⟩)) λ_ _ h'=>h'.elim)) λ_ _ h'=>h'.elim))
def Ia(env:Env):List (Str×NameKind)->List (Str×SN)->List (Str×SN)
 |[],cs=>cs
 |(n,k)::r,cs=>Ia env r (if k==.free then(match env.cells.lookup n with|some c=>(n,c)::cs|none=>cs)else cs)
def tX(scope:UI)(env:Env):List (Str×SN):=Ia env scope.names []
theorem Ai(env:Env):∀(ns:List (Str×NameKind))(cs:List (Str×SN)),(∀y∈ns,y.2 = .free->∃c,env.cells.lookup y.1=oZ c)->
  (forIn ns cs (λx r=>do
   if x.2==.free then
    let a <-cellOf env x.1
    pure (ForInStep.yield ((x.1,a)::r))
   else pure (ForInStep.yield r)):Sem (List (Str×SN)))=pure (Ia env ns cs)
 |[],cs,_=>rfl
 |(n,k)::r,cs,h=>by
  rw[List.forIn_cons]
  by_cases hk:k = .free
  ·subst hk;obtain⟨c,hc⟩:=h (n,.free) LK rfl;have fi:env.cells.lookup n=oZ c:=hc;have e:cellOf env n=pure c:=by unfold cellOf;rw[fi]
   simp only[beq_self_eq_true,if_true,e,pure_bind,Ia,fi];exact Ai env r _ λy hy=>h y (LC _ hy)
  ·have hb:(k==NameKind.free)=false:=by simpa using hk
   simp only[hb,Bool.false_eq_true,if_false,pure_bind,Ia];exact Ai env r _ λy hy=>h y (LC _ hy)
theorem pK(h:∀y∈scope.names,y.2 = .free->∃c,env.cells.lookup y.1=oZ c):closureFor scope env=pure (tX scope env):=by
 have e:=Ai env scope.names [] h;unfold tX;rw[<-e];unfold closureFor;simp only[bind_pure]
theorem Dx(env:Env):∀(ns:List (Str×NameKind))(cs:List (Str×SN))(x:Str)(c:SN),(∀x c,cs.lookup x=oZ c->env.cells.lookup x=oZ c)->(Ia env ns cs).lookup x=oZ c->env.cells.lookup x=oZ c
 |[],_,x,c,h,e=>h x c e
 |(n,k)::r,cs,x,c,h,e=>by
  refine Dx env r _ x c (λy d hd=>?_) e
  by_cases hk:(k==NameKind.free)=true
  ·rw[oV hk]at hd;cases q:env.cells.lookup n with
   |none=>rw[q]at hd;exact h y d hd
   |some a=>
    rw[q]at hd;simp only[NT]at hd;cases b:y==n with
    |true=>rw[b]at hd;cases hd;rw[eq_of_beq b];exact q
    |false=>rw[b]at hd;exact h y d hd
  ·rw[oW hk]at hd;exact h y d hd
theorem vM(e:(tX scope env).lookup x=oZ c):env.cells.lookup x=oZ c:=Dx env _ _ x c (λ_ _ h=>by simp at h) e
theorem Dw(env:Env):∀(ns:List (Str×NameKind))(cs:List (Str×SN))(x:Str)(c:SN),(cs.lookup x=oZ c\/(x,NameKind.free)∈ns)->env.cells.lookup x=oZ c->(Ia env ns cs).lookup x=oZ c
 |[],_,x,c,h,_=>h.elim (λz=>z) (λz=>by simp at z)
 |(n,k)::r,cs,x,c,h,e=>by
  refine Dw env r _ x c ?_ e;obtain h|h:=h
  ·refine .inl ?_
   split
   ·cases q:env.cells.lookup n with
    |none=>exact h
    |some a=>
     simp only[NT];cases b:x==n with
     |true=>rw[<-eq_of_beq b,e]at q;exact q.symm
     |false=>exact h
   ·exact h
  ·obtain z|z:=LH.mp h
   ·injection z with z1 z2;subst z1 z2;refine .inl ?_;simp only[beq_self_eq_true,if_true,e,NT]
   ·exact .inr z
theorem Dy(h:(x,NameKind.free)∈scope.names)(e:env.cells.lookup x=oZ c):(tX scope env).lookup x=oZ c:=Dw env _ _ x c (.inr h) e
theorem rT{env:Env}:∀{names:List (Str×NameKind)}{x:Str},(∀y∈names,y.2≠.cell)->
    ((names.map λ(n,k)=>if(k==NameKind.free&&env.scope.kind==.function&&env.kindOf n==oZ .cell)then(n,NameKind.cell)else(n,k)).lookup x=oZ .cell\/
     (names.map λ(n,k)=>if(k==NameKind.free&&env.scope.kind==.function&&env.kindOf n==oZ .cell)then(n,NameKind.cell)else(n,k)).lookup x=oZ .free)->(x,NameKind.free)∈names
  |[],_,_,h=>by simp at h
  |(n,k)::r,x,hc,h=>by
    have ih:=@rT env r x λy hy=>hc y (LC _ hy);have hk:k≠.cell:=hc (n,k) LK;simp only[MP]at h
    by_cases q:(k==NameKind.free&&env.scope.kind==.function&&env.kindOf n==oZ .cell)=true
    . rw[oV q]at h
      simp only[NT]at h;cases b:x==n with
      |true=>
        have:k = .free:=by simp only[MT]at q;exact eq_of_beq q.1.1
        subst this;rw[eq_of_beq b];exact LK
      |false=>rw[b]at h;exact LC _ (ih h)
    . rw[oW q]at h
      simp only[NT]at h;cases b:x==n with
      |true=>
        rw[b]at h;obtain h|h:=h
        . exact absurd (Option.some.inj h) hk
        . have:k = .free:=Option.some.inj h
          subst this;rw[eq_of_beq b];exact LK
      |false=>rw[b]at h;exact LC _ (ih h)
theorem tR{env:Env}:∀{names:List (Str×NameKind)}{x:Str},names.lookup x=oZ .free->
    ((names.map λ(n,k)=>if(k==NameKind.free&&env.scope.kind==.function&&env.kindOf n==oZ .cell)then(n,NameKind.cell)else(n,k)).lookup x=oZ .cell\/
     (names.map λ(n,k)=>if(k==NameKind.free&&env.scope.kind==.function&&env.kindOf n==oZ .cell)then(n,NameKind.cell)else(n,k)).lookup x=oZ .free)
  |[],_,h=>by simp at h
  |(n,k)::r,x,h=>by
    have ih:=@tR env r x;simp only[MP];simp only[NT]at h
    by_cases q:(k==NameKind.free&&env.scope.kind==.function&&env.kindOf n==oZ .cell)=true
    . rw[oV q]
      simp only[NT];cases b:x==n with
      |true=>exact .inl rfl
      |false=>rw[b]at h;exact ih h
    . rw[oW q]
      simp only[NT];cases b:x==n with
      |true=>rw[b]at h;exact .inr h
      |false=>rw[b]at h;exact ih h
def aX(X:Cx)(N':List Str)(scope:UI)(C:SN)(s3:oB)(H3:Hp)(fp:List SN):Cx:=
 { X with N:=N',s₀:=s3,H₀:=H3,env:=compEnvC scope (tX scope X.env) C X.env,outer:=X.stack,stack:=X.stack,ex:=fp,fn:=λ_=>false,pn:=[],xe:=λ_ _=>False }
def gN(t:Nat)(cap:List Nat)(σ:St):St:=LF t none++cap.map λk=>(σ[k]?).join
def BP(J:It)(D:SN)(g:TG)(te:TE)(Q:VK)(σ:St)(H:Hp):Prop:=∃W:Nat->Nat->St->Hp->Prop,(∃m,W 0 m σ H)/\∀i m σ' H',W i m σ' H'->
 (J.stop i H'/\Q (.ref D) H')\/(J.go i H'/\∀x H2,J.yld i H' x H2->g x σ' H2 λσ3 H3=>te σ3 H3 λy H4=>∃ys,H4 D=oZ (.lst ys)/\ys.length<SY/\∃m',m'<m/\W (i+1) m' σ3 (upd H4 D (.lst (ys++[y]))))
def zN(t:Nat)(cap:List Nat)(wi:TI)(g:TG)(te:TE):TE:=λσ H Q=>wi σ H λJ H1=>∀D,H1 D=none->BP J D g te Q (gN t cap σ) (upd H1 D (.lst []))
def Q5(J:It)(D:SN)(g:TG)(tb:TT)(te:TE)(Q:VK)(σ:St)(H:Hp):Prop:=∃W:Nat->Nat->St->Hp->Prop,(∃m,W 0 m σ H)/\∀i m σ' H',W i m σ' H'->
 (J.stop i H'/\Q (.ref D) H')\/(J.go i H'/\∀x H2,J.yld i H' x H2->g x σ' H2 λσ3 H3=>tb σ3 H3 λok xa=>if ok=true then te σ3 xa λy H4=>∃ys,H4 D=oZ (.lst ys)/\ys.length<SY/\∃m',m'<m/\W (i+1) m' σ3 (upd H4 D (.lst (ys++[y])))else ∃m',m'<m/\W (i+1) m' σ3 xa)
def qS(t:Nat)(cap:List Nat)(wi:TI)(g:TG)(tb:TT)(te:TE):TE:=λσ H Q=>wi σ H λJ H1=>∀D,H1 D=none->Q5 J D g tb te Q (gN t cap σ) (upd H1 D (.lst []))
def J9(X:Cx)(ifs:List oC)(t:TT):Prop:=
 ∀(pins:List (SN×Obj))(s:oB)(σ:St)(H:Hp)(Q:Bool->Hp->Prop),aT X pins σ H s->t σ H Q->SQ (SU X.prog X.w) X.A (forIn ifs true λc r=>if r=true then do let ok <-isTrue c X.env (TF c X.env);pure (ForInStep.yield ok)else pure (ForInStep.yield r)) (TP X pins σ Q) X.xe s
theorem PT.one(h:PT X c t):J9 X [c] t:=λ_ _ _ _ _ I z=>wpAny_tests_one (h _ _ _ _ _ I z)
structure bL(X:Cx)(N':List Str)(scope:UI)(t:Nat)(cap:List Nat):Prop where
 kind:scope.kind = .function
 cell:∀y∈scope.names,y.2≠.cell
 names:∀y∈scope.names,y.2 = .local->scope.names.lookup y.1=oZ .local
 free:∀y∈scope.names,y.2 = .free->(X.env.kindOf y.1=oZ .cell\/X.env.kindOf y.1=oZ .free)
 len:N'.length=t+cap.length
 caps:∀(j k:Nat),cap[j]?=oZ k->∃x,N'[t+j]?=oZ x/\X.N[k]?=oZ x/\scope.names.lookup x=oZ .free
theorem vN(S:bL X N' scope t cap)(I3:aT X pins σ H3 s3)(hf:∀b∈fp,pC X pins H3 b)(hob:∀b∈fp,∃o,s3.heap.get? b=oZ o)(ja:h₁.Ns s3.heap.objs.size λ_=>none)(k:∀b o,s3.heap.get? b=oZ o->h₁.get? b=oZ o):
  aT (aX X N' scope s3.heap.objs.size s3 H3 fp) [] (gN t cap σ) H3 { s3 with heap:=h₁,toks:=tk }:=by
 have YT:∀{x:Str}{c:SN},(tX scope X.env).lookup x=oZ c->X.env.cells.lookup x=oZ c:=λe=>vM e;have jd:∀{c:SN}{v:Option oA},s3.heap.IsCell c v->h₁.IsCell c v:=λzZ=>by obtain⟨o,e,d⟩:=zZ;exact⟨o,k _ _ e,d⟩
 have qg:∀{x:Str},scope.names.lookup x=oZ .free->(x,NameKind.free)∈scope.names:=λe=>PySem.mem_of_lookup e;refine⟨⟨I3.mod,S.kind,I3.ok.glob,I3.ok.blt,LN _,?_,?_,?_,I3.ok.hd,I3.ok.frames,.inl rfl,?_,I3.bs,MV I3.ok.bsz I3.sz,?_,?_,I3.stack,I3.stkFree⟩,
  rfl,I3.bare,Un.kept k,⟨_,ja,?_⟩,?_,?_,?_,?_,I3.hok.kept k,?_⟩
 ·intro x y c h1 h2;exact I3.ok.inj x y c (YT h1) (YT h2)
 ·intro x hx;have hm:(x,NameKind.free)∈scope.names:=rT S.cell hx;obtain⟨c,hc⟩:=I3.ok.has x (S.free _ hm rfl);exact⟨c,Dy hm hc⟩
 ·intro x c h;cases h
 ·intro b hb;obtain⟨o,ho⟩:=hob b hb;exact⟨MA (LL ho),λx c e=>(hf b hb).2.2.2.2.1 x c (YT e)⟩
 ·intro b o e hb;rcases(hf b hb).2.2.2.1 with z|z
  ·exact I3.ok.noex b o e z
  ·exact absurd (LP (LP (LL e) I3.ok.bsz) z) (Nat.lt_irrefl _)
 ·intro b hb hz;obtain z|z:=LH.mp (I3.stkSub b hz)
  ·exact(hf b hb).2.1 z
  ·exact(hf b hb).2.2.1 z
 ·intro i x v e1 e2 e3;have ht:t<=i:=by
   obtain q|q:=MN i t
   ·unfold gN at e2;rw[LZ (by simpa using q),RX]at e2;split at e2<;>cases e2
   ·exact q
  obtain⟨j,rfl⟩:∃j,i=t+j:=⟨i-t,⋯⟩;unfold gN at e2;rw[MI (by simp),OS,Nat.add_sub_cancel_left,LB]at e2;cases q:cap[j]? with
  |none=>rw[q]at e2;cases e2
  |some m=>
   rw[q]at e2;have zl:(σ[m]?).join=oZ v:=Option.some.inj e2;have aA1:σ[m]?=oZ (oZ v):=by
    cases z:σ[m]? with
    |none=>rw[z]at zl;cases zl
    |some w=>rw[z]at zl;have:w=oZ v:=zl;rw[this]
   obtain⟨x',c1,c2,c3⟩:=S.caps j m q;have ex:x'=x:=by
    have e1':N'[t+j]?=oZ x:=e1;rw[c1]at e1';exact Option.some.inj e1'
   subst ex;have hk:=S.free _ (qg c3) rfl;obtain⟨mm,hn,hl⟩:=I3.loc;obtain⟨u,r,L⟩:=hl m x' v c2 aA1 (by obtain z|z:=hk;exact .inr (.inl z);exact .inr (.inr z));refine⟨u,r,?_⟩;obtain⟨z,_⟩|⟨_,c,hc,bg⟩:=L
   ·rcases hk with y|y<;>(have y':X.env.kindOf x'=_:=y;rw[z]at y';cases y')
   ·exact .inr ⟨tR c3,c,Dy (qg c3) hc,jd bg⟩
 ·intro x c e;obtain⟨v,z⟩:=I3.cell x c (YT e);exact⟨v,jd z⟩
 ·exact I3.hok.fresh (LN _)
 ·intro x c e;exact I3.freeC x c (YT e)
 ·intro p hp;exact absurd (show p∈([]:List (SN×Obj))from hp) (by simp)
 ·show(gN t cap σ).length=N'.length;unfold gN;rw[S.len,LG,OS,LJ]
theorem yS{QQ:oA->oB->Prop}(hc:X.calm=true)(S:bL X N' scope t cap)(hi:PI X target iter wi)(hg:∀C s3 H3 fp,PG (aX X N' scope C s3 H3 fp) target g)(hb:∀C s3 H3 fp,J9 (aX X N' scope C s3 H3 fp) ifs tb)(he:∀C s3 H3 fp,PE (aX X N' scope C s3 H3 fp) elt te)(hs:∀x,TC iter X.env x=pure x)(I:aT X pins σ H s)(h:qS t cap wi g tb te σ H Q)(fin:∀(s3 s6:oB)(H3 H5:Hp)(fp:List SN)(D:SN)(m:Str->Option oA),aT X pins σ H3 s3->(∀b∈fp,(b∈X.ex\/X.s₀.heap.objs.size<=b)/\b≠X.env.locals/\(∀x c,X.env.cells.lookup x=oZ c->c≠b)/\∀p∈X.pn++pins,p.1≠b)->s6.heap.Ns s3.heap.objs.size m->Un (El X.stack) fp H3 H5 s3.heap s6.heap->oT X.prog X.w H5 s6.heap->H5 s3.heap.objs.size=none->s6.os=s3.os->UP s6.gens->Q (.ref D) H5->compPost (SU X.prog X.w) X.A X.xe use QQ (.ref D) s3.heap.objs.size (.ok .next) s6):
  SQ (SU X.prog X.w) X.A (comprehension (.ListComp elt [⟨target,iter,ifs,0⟩] scope pos) scope X.env (firstIterPos [⟨target,iter,ifs,0⟩] pos) (newList []) (firstAsync [⟨target,iter,ifs,0⟩]) (firstIter [⟨target,iter,ifs,0⟩] X.env) use) QQ X.xe s:=by
 refine wpAny_comprehension_free (cl:=tX scope X.env) rfl hs (pK λy hy hf=>I.ok.has y.1 (S.free y hy hf)) S.kind S.names (cL (hi pins s σ H _ I h) λv s1 h1=>cL h1 λzd s2 h2=>?_);obtain⟨it,fp,tn,J,H2,e,I2,T,mw,f2,h2⟩:=h2;subst e;refine UD (wpAny_newFunctionEnv S.cell (by intro y hy;simp at hy) (λh₁ ja₁ xb₁=>?_) S.kind)
 dsimp only at ja₁ xb₁⊢
 obtain⟨s3,fq⟩:∃s3:oB,s3 = { s2 with heap:=s2.heap.push { cls:=.type "list",dict:=none,data:=.seq ([]:List oA).toArray } }:=⟨_,rfl⟩;have hD:H2 s2.heap.objs.size=none:=I2.hok.fresh (LN _);have I3:aT X pins σ (upd H2 s2.heap.objs.size (.lst [])) s3:=by
  rw[fq];exact I2.laid (t':=s2.toks) (λb u e=>LI _ e) (LN _) ⟨LV _,[],0,.nil,LU _ rfl⟩
 have aA2:s3.heap.objs.size=s2.heap.objs.size+1:=by rw[fq];exact NH ..
 have ki:∀b o,s2.heap.get? b=oZ o->s3.heap.get? b=oZ o:=λb o e=>by rw[fq];exact LI _ e
 have hC:(s2.heap.push { cls:=.type "list",dict:=none,data:=.seq ([]:List oA).toArray }).objs.size=s3.heap.objs.size:=by rw[fq]
 have f3:∀b∈fp,pC X pins (upd H2 s2.heap.objs.size (.lst [])) b:=λb hb=>by
  obtain⟨o,ho,_⟩:=T.obj _ _ mw b hb;refine⟨?_,(f2 b hb).2⟩;rw[bD (MA (LL ho))];exact(f2 b hb).1
 have xc:∀b∈fp,∃o,s3.heap.get? b=oZ o:=λb hb=>by
  obtain⟨o,ho,_⟩:=T.obj _ _ mw b hb;exact⟨o,ki b o ho⟩
 have k1:∀b o,s3.heap.get? b=oZ o->h₁.get? b=oZ o:=λb o e=>by
  refine xb₁.extBut b o ?_ ?_
  ·rw[hC];exact MA (LL e)
  ·rw[fq]at e;exact LI _ e
 have ja:h₁.Ns s3.heap.objs.size λ_=>none:=by
  rw[<-hC];exact ja₁
 have I4:=vN (tk:=s2.toks+([]:List (Str×oA)).length) S I3 f3 xc ja k1;have xf:tn 0 h₁:=T.keep _ _ _ mw λb hb o e=>k1 b o (ki b o e);obtain⟨W,⟨m0,w0⟩,turn⟩:=h2 _ hD
 -- the block's context
 obtain⟨X',XE⟩:∃X':Cx,X'=aX X N' scope s3.heap.objs.size s3 (upd H2 s2.heap.objs.size (.lst [])) fp:=⟨_,rfl⟩;have zm:PG X' target g:=by rw[XE];exact hg _ _ _ _
 have jy:PE X' elt te:=by rw[XE];exact he _ _ _ _
 have hb':J9 X' ifs tb:=by rw[XE];exact hb _ _ _ _
 have ZJ:∀{H':Hp},(∀b∈fp,H' b=none)->∀b∈fp,pC X' [] H' b:=λhn b hb=>by
  obtain⟨o,ho⟩:=xc b hb;rw[XE];refine⟨hn b hb,MA (LL ho),?_,.inl hb,λx c e=>(f3 b hb).2.2.2.2.1 x c (vM e),λp hp=>absurd (show p∈([]:List (SN×Obj))from hp) (by simp)⟩;intro hz;obtain z|z:=LH.mp (I3.stkSub b hz)
  ·exact(f3 b hb).2.1 z
  ·exact(f3 b hb).2.2.1 z
 have ft:X'.calm=true:=by rw[XE];exact hc
 have loop:VE (SU X.prog X.w) X.A (.compLoop (.ListComp elt [⟨target,iter,ifs,0⟩] scope pos) 0 (.ref it) (.ref s2.heap.objs.size) (compEnvC scope (tX scope X.env) s3.heap.objs.size X.env))
   (compPost (SU X.prog X.w) X.A X.xe use QQ (.ref s2.heap.objs.size) s3.heap.objs.size) { s3 with heap:=h₁,toks:=s2.toks+([]:List (Str×oA)).length }:=by
  refine pE (λn s'=>∃i σ' H',aT X' [] σ' H' s'/\tn i s'.heap/\(∀b∈fp,H' b=none)/\W i n σ' H') ?_ m0 ⟨0,gN t cap σ,_,by rw[XE];exact I4,xf,λb hb=>(f3 b hb).1,w0⟩;rintro n s5 ⟨i,σ5,H5,I5,jw,qt,w5⟩;obtain⟨stop,qn⟩|⟨go,step⟩:=turn i n σ5 H5 w5
  ·have q:=T.done X' (by rw[XE];rfl) (by rw[XE];rfl) (by rw[XE];rfl) ft i [] s5 σ5 H5 (λ_ _=>False) I5 (ZJ qt) jw stop;have eA:X'.A=X.A:=by rw[XE];rfl
   rw[eA]at q;refine cL q λr s6 zZ=>?_;obtain⟨hr,I6⟩:=zZ;subst hr;obtain⟨m,hn,_⟩:=I6.loc;have ke:s6.heap.Ns s3.heap.objs.size m:=by rw[XE]at hn;exact hn
   have ZZ:Un (El X.stack) fp (upd H2 s2.heap.objs.size (.lst [])) H5 s3.heap s6.heap:=by have:=I6.base;rw[XE]at this;exact this
   have bw:oT X.prog X.w H5 s6.heap:=by have:=I6.hok;rw[XE]at this;exact this
   have YE:H5 s3.heap.objs.size=none:=by have:=I6.free;rw[XE]at this;exact this
   have nh:s6.os=s3.os:=by have:=I6.os;rw[XE]at this;exact this
   exact fin _ _ _ _ _ _ _ I3 (λb hb=>⟨(f3 b hb).2.2.2.1,(f3 b hb).2.1,(f3 b hb).2.2.2.2.1,(f3 b hb).2.2.2.2.2⟩) ke ZZ bw YE nh I6.bare qn
  ·have q:=T.item X' (by rw[XE];rfl) (by rw[XE];rfl) (by rw[XE];rfl) ft i [] s5 σ5 H5 (λ_ _=>False) I5 (ZJ qt) jw go;have eA:X'.A=X.A:=by rw[XE];rfl
   have eP:X'.prog=X.prog:=by rw[XE];rfl
   have eW:X'.w=X.w:=by rw[XE];rfl
   have eE:X'.env=compEnvC scope (tX scope X.env) s3.heap.objs.size X.env:=by rw[XE];rfl
   have eX:X'.xe=λ_ _=>False:=by rw[XE];rfl
   rw[eA]at q;refine cL q λr s6 zZ=>?_;obtain⟨u,hr,h6⟩:=zZ;subst hr;refine cL h6 λ_ s7 zZ=>?_;obtain⟨x,H7,I7,r7,y7,km,fr7⟩:=zZ;have I7':=I7.pinned (ZJ fr7) (T.obj _ _ km);have q8:=zm _ s7 σ5 H7 x u _ I7' r7 (step x H7 y7);rw[eA,eP,eW,eE,eX]at q8;refine cL q8 λ_ s8 zZ=>?_;obtain⟨σ8,H8,I8,w8⟩:=zZ;have xg:=hb' _ s8 σ8 H8 _ I8 w8;rw[eA,eP,eW,eE,eX]at xg;refine cL xg λok s8 zZ=>?_;obtain⟨H8,I8,w8⟩:=zZ;cases ok with
   |false=>
    obtain⟨m',hm,w9⟩:=w8;refine⟨m',hm,i+1,σ8,_,I8.unpinned,T.keep _ _ _ km λb hb o e=>(I8.pin (b,o) (LQ _ (LQ _ (dB hb e)))).1,λb hb=>?_,w9⟩;obtain⟨o,e,d⟩:=T.obj _ _ km b hb;exact(I8.pin (b,o) (LQ _ (LQ _ (dB hb e)))).2.1
   |true=>
    have q9:=jy _ s8 σ8 H8 _ I8 w8;rw[eA,eP,eW,eE,eX]at q9;refine cL q9 λy s9 zZ=>?_;obtain⟨v9,H9,I9,r9,ys,hD9,XO,m',hm,w9⟩:=zZ;have xh:=zD (X:=X') _ s9 σ8 H9 (.ref s2.heap.objs.size) [v9] (.ref s2.heap.objs.size) [y] (λ_ H10=>H10=upd H9 s2.heap.objs.size (.lst (ys++[v9]))) I9 rfl (.cons r9 .nil) ⟨_,ys,v9,rfl,rfl,hD9,XO,rfl⟩;rw[eA,eP,eW,eX]at xh;refine cL xh λ_ s10 zZ=>?_;obtain⟨v10,H10,rf,r10,e10⟩:=zZ;subst e10;refine⟨m',hm,i+1,σ8,_,rf.unpinned,T.keep _ _ _ km λb hb o e=>(rf.pin (b,o) (LQ _ (LQ _ (dB hb e)))).1,λb hb=>?_,w9⟩;obtain⟨o,e,d⟩:=T.obj _ _ km b hb;exact(rf.pin (b,o) (LQ _ (LQ _ (dB hb e)))).2.1
 have es:({ s2 with heap:=h₁,toks:=s2.toks+([]:List (Str×oA)).length }:oB) = { s3 with heap:=h₁,toks:=s2.toks+([]:List (Str×oA)).length }:=by rw[fq]
 rw[es,hC];exact codeAny_compStart_list loop (T.self _ 0 _ _ _ xf loop)
theorem Ux(hc:X.calm=true)(S:bL X N' scope t cap)(hi:PI X target iter wi)(hg:∀C s3 H3 fp,PG (aX X N' scope C s3 H3 fp) target g)(hb:∀C s3 H3 fp,J9 (aX X N' scope C s3 H3 fp) ifs tb)(he:∀C s3 H3 fp,PE (aX X N' scope C s3 H3 fp) elt te)(hs:∀x,TC iter X.env x=pure x:=by intro _;rfl):
  PE X (.ListComp elt [⟨target,iter,ifs,0⟩] scope pos) (qS t cap wi g tb te):=by
 intro pins s σ H Q I h;rw[eval_ListComp];refine yS hc S hi hg hb he hs I h λs3 s6 H3 H5 fp D m I3 f3 ke ZZ bw YE nh ba qn=>⟨m,ke,λh' qh=>?_⟩;have kp:∀b o,b≠s3.heap.objs.size->s6.heap.get? b=oZ o->h'.get? b=oZ o:=λb o hb e=>qh.extBut b o hb e;have ju:∀{b:SN}{o:Obj},s3.heap.get? b=oZ o->b≠s3.heap.objs.size:=λe=>MA (LL e);have un7:Un (El X.stack) fp (H3) H5 s3.heap h':=
  ⟨λb o e n1 n2 n3=>kp b o (ju e) (ZZ.keep b o e n1 n2 n3),λb o e n1 n2 n3=>by obtain⟨sl,z⟩:=ZZ.slot b o e n1 n2 n3;exact⟨sl,kp b _ (ju e) z⟩,ZZ.free,
   λb o e n3=>by obtain⟨o',z⟩:=ZZ.there b o e n3;exact⟨o',kp b _ (ju e) z⟩,ZZ.tups,ZZ.frzs,ZZ.tbls⟩
 have rg:oT X.prog X.w H5 h':=λb ob e=>by
  refine(bw b ob e).stay (λc w' fi q=>kp c w' ?_ q) (λ_ q=>q) λ_ _ q=>q;rintro rfl;obtain rfl|fi:=fi
  ·rw[YE]at e;cases e
  ·rw[YE]at fi;cases fi
 exact⟨.ref D,H5,I3.call' (s':={ s6 with heap:=h' }) (ch:=fp) nh un7 rg ba f3,rfl,qn⟩
theorem C4(hc:X.calm=true)(S:bL X N' scope t cap)(hi:PI X target iter wi)(hg:∀C s3 H3 fp,PG (aX X N' scope C s3 H3 fp) target g)(he:∀C s3 H3 fp,PE (aX X N' scope C s3 H3 fp) elt te)(hs:∀x,TC iter X.env x=pure x:=by intro _;rfl):
  PE X (.ListComp elt [⟨target,iter,[],0⟩] scope pos) (zN t cap wi g te):=λpins s σ H Q I h=>Ux (tb:=λ_ H Q=>Q true H) hc S hi hg (λ_ _ _ _ _ _ _ _ _ I z=>wpAny_tests_nil ⟨_,I,z⟩) he hs pins s σ H Q I h
def O2(i j k:Nat)(ta:TA):TS:=λD σ H=>ta σ H λvs H1=>∃v w z,vs=[v,w,z]/\D.nx (((σ.set i (oZ v)).set j (oZ w)).set k (oZ z)) H1
theorem D4{kt k2 pt2}(hc:X.calm=true)(hN:X.N.Nodup)(hi:X.N[i]?=oZ x)(hj:X.N[j]?=oZ y)(hk:X.N[k]?=oZ z)(jv:i≠j)(xi:i≠k)(xk:j≠k)(hx:X.env.scope.names.lookup x=oZ .local)(hy:X.env.scope.names.lookup y=oZ .local)(hz:X.env.scope.names.lookup z=oZ .local)(ha:PA X [a,b,c] ta)(hw:TZ [.Tuple [.Name x px,.Name y py,.Name z pz] kt pt] (.Tuple [a,b,c] k2 pt2) X.env=pure (oZ [x,y,z]))(hs:TY [.Tuple [.Name x px,.Name y py,.Name z pz] kt pt] (.Tuple [a,b,c] k2 pt2) pos.line X.env=pure false:=by rfl):
  PS X (.Assign [.Tuple [.Name x px,.Name y py,.Name z pz] kt pt] (.Tuple [a,b,c] k2 pt2) pos) (O2 i j k ta):=by
 intro pins s σ H D I h;rw[exec_Assign_arm];refine SO (UE ?_);rw[hs];refine SO (TB ?_);rw[oW ∅];refine SO (Tuple_ (cL (ha _ pins s σ H _ I h) λus s1 zZ=>?_));obtain⟨vs,H1,I1,r1,q1⟩:=zZ;obtain⟨v,w,zz,e1,q1⟩:=q1;subst e1;obtain⟨u1,u2,u3,rfl,rv,fk,rz⟩:∃u1 u2 u3,us=[u1,u2,u3]/\bC v u1/\bC w u2/\bC zz u3:=by
  cases r1 with
  |cons p q=>
   cases q with
   |cons p' q'=>
    cases q' with
    |cons p'' q''=>
     cases q'';exact⟨_,_,_,rfl,p,p',p''⟩
 refine UD ?_ (by show 3<=SY;decide);have I2:aT X pins σ H1 { s1 with heap:=s1.heap.push { cls:=.type "tuple",data:=.seq [u1,u2,u3].toArray } }:=I1.kept (t':=s1.toks) λb o e=>LI _ e;rw[hw];refine SO (TB ?_);show SQ (SU X.prog X.w) X.A (do rule "assign.swapped-stores";let items <-unpackItems (.ref s1.heap.objs.size) 3 none;UY [λv=>UM X.env z v,λv=>UM X.env y v,λv=>UM X.env x v] items.reverse;pure Flow.next) _ _ _;refine SO (VH (SO (unpackItems_tuple (items:=#[u1,u2,u3]) (I.ok.hd hc) (IsTup.new s1.heap _) λh' qr=>?_)));have I3:=I2.kept (h':=h') (t':=s1.toks) λb o e=>qr b o (MA (LL e)) e;show SQ _ _ (UY [λv=>UM X.env z v,λv=>UM X.env y v,λv=>UM X.env x v] [u3,u2,u1] >>= λ_=>pure Flow.next) _ _ _;refine SO (UB (UT (iU I3 hN hk (.inl hz) rz (λs2 I4=>?_) (.inr hz))));refine UB (UT (iU I4 hN hj (.inl hy) fk (λs3 I5=>?_) (.inr hy)));refine UB (UT (iU I5 hN hi (.inl hx) rv (λs4 I6=>VG (TB ?_)) (.inr hx)));rw[QC _ _ (Ne.symm jv),QC _ _ (Ne.symm xi),QC _ _ (Ne.symm xk)]at I6;exact⟨_,H1,I6,q1⟩
structure Fn(P:SR)(w:SX)(K:W.Frag)(mg:Str->Option oA)(base:oE)(k:Nat)(x:Str)(ps:List Str)(sp:Sp):Prop where
 ex:∃f fd,aS P w K mg base cJ k f fd ps sp/\mg x=oZ (.ref f)/\W.keepIn K (.ref f)=true/\kN K fd ps []
theorem DF(F:Fn X.prog X.w X.K X.mg X.base k x ps sp)(hr:cV j X.A)(hk:k<=j)(hg:Gl X x)(ha:PA X (e::es) t)(YN:(x==("__debug__":Str))=false:=by decide)(he:TJ (e::es) X.env=(false,TF e X.env)::TJ es X.env:=by rfl)(qd:(UW pos (TJ es X.env)).any (·.1)=false:=by rfl):PE X (.Call (.Name x p) (e::es) [] pos) (Hb sp [] E0 t):=by
 obtain⟨f,fd,F,hm,hkp,hb⟩:=F.ex;exact C2 F (hr.mono hk) hg hm hkp hb .nil DC ha YN he qd
def a7:oC->Bool
 |.Starred _ _=>true
 |_=>false
theorem cC(h:a7 e=false):TJ (e::es) env=(false,TF e env)::TJ es env:=by
 cases e<;>first|rfl|(simp[a7]at h)
def bN:List oC->Bool
 |[]=>true
 |e::es=>!a7 e&&bN es
theorem eF:∀{es:List oC},bN es=true->(UW pos (TJ es env)).any (·.1)=false
 |[],_=>rfl
 |e::es,h=>by
  have h1:a7 e=false:=by simp only[bN,MT,PV]at h;exact h.1
  have h2:bN es=true:=by simp only[bN,MT]at h;exact h.2
  have ih:=eF (pos:=pos) (env:=env) h2;rw[cC h1];simp only[UW,MP,OG,Bool.false_or]at ih⊢;exact ih
theorem pc(ha:PE X e te)(hr:PA X es t)(hs:a7 e=false:=by rfl):PA X (e::es) (Xa te t):=B9 ha hr (cC hs)
theorem X2(F:Fn X.prog X.w X.K X.mg X.base k x ps sp)(hr:cV j X.A)(hk:k<=j)(hg:Gl X x)(ha:PA X (e::es) t)(YN:(x==("__debug__":Str))=false:=by decide)(hs:bN (e::es)=true:=by rfl):PE X (.Call (.Name x p) (e::es) [] pos) (Hb sp [] E0 t):=
 DF F hr hk hg ha YN (cC (by simp only[bN,MT,PV]at hs;exact hs.1)) (eF (by simp only[bN,MT]at hs;exact hs.2))
theorem Qf{X:Cx}{pos:Pos}{e:oC}{es:List oC}{t:TA}{x:Str}{p:Pos}{id:String}{r:List V->Hp->VK->Prop}(hc:i4 X (.builtin id) r)(hg:Gl X x)(hm:X.mg x=none)(hv:UA x=oZ (.builtin id))(ha:PA X (e::es) t)(hn:x≠"__name__":=by decide)(YN:(x==("__debug__":Str))=false:=by decide)(hs:bN (e::es)=true:=by rfl):PE X (.Call (.Name x p) (e::es) [] pos) (BA r t):=
 Uw hc hg hm hv ha hn YN (cC (by simp only[bN,MT,PV]at hs;exact hs.1)) (eF (by simp only[bN,MT]at hs;exact hs.2))
theorem Jp{r:List V->Hp->VK->Prop}(hc:i4 X (.type T) r)(hg:Gl X x)(hm:X.mg x=none)(hv:UA x=oZ (.type T))(ha:PA X (e::es) t)(hn:x≠"__name__":=by decide)(YN:(x==("__debug__":Str))=false:=by decide)(hs:bN (e::es)=true:=by rfl):PE X (.Call (.Name x p) (e::es) [] pos) (BA r t):=
 Qg hc hg hm hv ha hn YN (cC (by simp only[bN,MT,PV]at hs;exact hs.1)) (eF (by simp only[bN,MT]at hs;exact hs.2))
structure QE(X:Cx)(e:oC)(t:TE):Prop where
 h:PE X e t
structure QT(X:Cx)(e:oC)(t:TT):Prop where
 h:PT X e t
structure QW(X:Cx)(e:oC)(t:TT):Prop where
 h:PW X e t
structure QA(X:Cx)(es:List oC)(t:TA):Prop where
 h:PA X es t
structure QS(X:Cx)(st:SV)(t:TS):Prop where
 h:PS X st t
structure QB(X:Cx)(st:List SV)(t:TS):Prop where
 h:Ko X st t
structure QG(X:Cx)(e:oC)(t:TG):Prop where
 h:PG X e t
structure Rf(X:Cx)(es:List oC)(t:P8):Prop where
 h:BH X es t
structure QI(X:Cx)(tg e:oC)(t:TI):Prop where
 h:PI X tg e t
structure QO(X:Cx)(e:Option oC)(t:TO):Prop where
 h:PO X e t
def Ku(sc scope:UI)(N N':List Str)(t:Nat)(cap:List Nat):Bool:=
 decide (scope.kind = .function)&&scope.names.all (λy=>decide (y.2≠.cell))&&scope.names.all (λy=>decide (y.2 = .local->scope.names.lookup y.1=oZ .local)) &&
 scope.names.all (λy=>decide (y.2 = .free->(sc.names.lookup y.1=oZ .cell\/sc.names.lookup y.1=oZ .free)))&&decide (N'.length=t+cap.length) &&
 (NP cap.length).all (λj=>match cap[j]?,N'[t+j]? with|some k,oZ x=>decide (N[k]?=oZ x/\scope.names.lookup x=oZ .free)|_,_=>false)
theorem bL.of(h:Ku X.env.scope scope X.N N' t cap=true):bL X N' scope t cap:=by
 simp only[Ku,MT,NW,decide_eq_true_eq]at h;obtain⟨⟨⟨⟨⟨h1,h2⟩,h3⟩,h4⟩,h5⟩,h6⟩:=h;refine⟨h1,h2,h3,h4,h5,λj k e=>?_⟩;have hj:j<cap.length:=(KZ.mp e).1;have h:=h6 j (OR.mpr hj);rw[e]at h;cases q:N'[t+j]? with
 |none=>rw[q]at h;cases h
 |some x=>
  rw[q]at h;have h':=of_decide_eq_true h;exact⟨x,rfl,h'.1,h'.2⟩
theorem Vg:QB X [] O0:=⟨D6⟩
theorem By{X:Cx}{t:TS}{u:TS}{st:SV}{gw:List SV}(h1:QS X st t)(h2:QB X gw u):QB X (st::gw) (FL t u):=⟨Ve h1.h h2.h⟩
theorem Jq{X:Cx}{t:TS}{st:SV}(h1:QS X st t):QB X [st] t:=⟨D7 h1.h⟩
theorem Jr(h:QE X e te):QS X (.Return (oZ e) pos) (FJ te):=⟨Y5 h.h⟩
theorem M0(hc:QT X c tc)(ha:QB X b1 t)(hb:QB X b2 u):QS X (.If c b1 b2 pos) (EV tc t u):=⟨DK hc.h ha.h hb.h⟩
theorem Vn(hp:PassesOwn (SU X.prog X.w) X.A X.env X.xe)(hc:QT X c tc)(hb:QB X body tbd):QS X (.While c body [] pos) (Xi tc tbd):=⟨Vd hp hc.h hb.h⟩
theorem Vm(hp:PassesOwn (SU X.prog X.w) X.A X.env X.xe)(hc:X.calm=true)(hi:QI X tg iter wi)(hg:QG X tg g)(hb:QB X body tbd)(hs:∀x,TC iter X.env x=pure x:=by intro _;rfl):
  QS X (.For tg iter body [] pos) (EU wi g tbd):=⟨Y3 hp hc hi.h hg.h hb.h hs⟩
theorem Ca(he:QE X e te)(hs:TV e none pos.line X.env=pure false:=by rfl):QS X (.Expr e pos) (N3 te):=⟨D3 he.h hs⟩
theorem Js(hN:X.N.Nodup)(hi:X.N[i]?=oZ x)(hx:xR X.env.scope x)(he:QE X e te)(hs:TV e (oZ (.Name x pos')) pos.line X.env=pure false:=by rfl)(hf:X.fn x=true\/X.env.scope.names.lookup x=oZ .local:=by first|exact .inl rfl|exact .inr rfl|assumption):QS X (.Assign [.Name x pos'] e pos) (Kh te (nA i)):=⟨Y6 hN hi hx he.h hs hf⟩
theorem Z9(he:QE X e te)(hg:QG X tg g)(hs:TY [tg] e pos.line X.env=pure false:=by rfl)(hw:TZ [tg] e X.env=pure none:=by rfl)(h1:(TN [tg] X.env).map (·.2)=[UN tg X.env]:=by rfl):QS X (.Assign [tg] e pos) (Kh te g):=⟨Y1 he.h hg.h hs hw h1⟩
theorem AA{kt k2 pt2}(hc:X.calm=true)(hN:X.N.Nodup)(hi:X.N[i]?=oZ x)(hj:X.N[j]?=oZ y)(jv:i≠j)(hx:X.env.scope.names.lookup x=oZ .local)(hy:X.env.scope.names.lookup y=oZ .local)(ha:QA X [a,b] tr)(hw:TZ [.Tuple [.Name x px,.Name y py] kt pt] (.Tuple [a,b] k2 pt2) X.env=pure (oZ [x,y]))(hs:TY [.Tuple [.Name x px,.Name y py] kt pt] (.Tuple [a,b] k2 pt2) pos.line X.env=pure false:=by rfl):
  QS X (.Assign [.Tuple [.Name x px,.Name y py] kt pt] (.Tuple [a,b] k2 pt2) pos) (FH i j tr):=⟨Y4 hc hN hi hj jv hx hy ha.h hw hs⟩
theorem F1{kt k2 pt2}(hc:X.calm=true)(hN:X.N.Nodup)(hi:X.N[i]?=oZ x)(hj:X.N[j]?=oZ y)(hk:X.N[k]?=oZ z)(jv:i≠j)(xi:i≠k)(xk:j≠k)(hx:X.env.scope.names.lookup x=oZ .local)(hy:X.env.scope.names.lookup y=oZ .local)(hz:X.env.scope.names.lookup z=oZ .local)(ha:QA X [a,b,c] tr)(hw:TZ [.Tuple [.Name x px,.Name y py,.Name z pz] kt pt] (.Tuple [a,b,c] k2 pt2) X.env=pure (oZ [x,y,z]))(hs:TY [.Tuple [.Name x px,.Name y py,.Name z pz] kt pt] (.Tuple [a,b,c] k2 pt2) pos.line X.env=pure false:=by rfl):
  QS X (.Assign [.Tuple [.Name x px,.Name y py,.Name z pz] kt pt] (.Tuple [a,b,c] k2 pt2) pos) (O2 i j k tr):=⟨D4 hc hN hi hj hk jv xi xk hx hy hz ha.h hw hs⟩
theorem rS(hN:X.N.Nodup)(hi:X.N[i]?=oZ x)(hx:xR X.env.scope x)(hf:X.fn x=true\/X.env.scope.names.lookup x=oZ .local:=by first|exact .inl rfl|exact .inr rfl|assumption):QG X (.Name x pos) (nA i):=⟨C8 hN hi hx hf⟩
theorem Md:Rf X [] Zk:=⟨C9⟩
theorem wN(h1:QG X e g)(h2:Rf X es gs)(hs:(TN (e::es) X.env).map (·.2)=UN e X.env::(TN es X.env).map (·.2):=by rfl):Rf X (e::es) (y8 g gs):=⟨Vc h1.h h2.h hs⟩
theorem Vl(hc:X.calm=true)(h:Rf X es gs)(hn:(TN es X.env).length=n:=by rfl)(ji:(TN es X.env).findIdx? (·.1)=none:=by rfl):QG X (.Tuple es k pos) (T7 X.K n gs):=⟨X9 hc h.h hn ji⟩
theorem Z8(ho:QE X o to)(hi:QE X i ti)(hs:P7 X ts)(ha:∀v,UN (.Subscript o i pos) X.env v=(do
   let ov <-UJ [v] (TF o X.env)
   let iv <-UJ [v,ov] (TF i X.env)
   standAt pos
   UJ [v,ov,iv] (setItem ov iv v)
   release [v,ov,iv] []):=by intro _;rfl):QG X (.Subscript o i pos) (CL to ti ts):=⟨X8 ho.h hi.h hs ha⟩
theorem Qk(hg:Gl X "range")(hm:X.mg "range" = none)(ha:QA X [a] tr)(hs:a7 a=false:=by rfl):QI X tg (.Call (.Name "range" p) [a] [] pos) (L3 tr):=⟨Qh hg hm ha.h (cC hs)⟩
theorem Ql(hg:Gl X "range")(hm:X.mg "range" = none)(ha:QA X [a,b] tr)(hs:a7 a=false:=by rfl)(bq:a7 b=false:=by rfl):QI X tg (.Call (.Name "range" p) [a,b] [] pos) (L4 tr):=
 ⟨Qi hg hm ha.h (by rw[cC hs,cC bq];rfl) (by rw[cC bq];rfl)⟩
theorem E7{x1}(hg:Gl X "enumerate")(hm:X.mg "enumerate" = none)(ha:QA X [a] tr)(hs:a7 a=false:=by rfl):QI X (.Tuple elts x1 ZK) (.Call (.Name "enumerate" p) [a] [] pos) (L1 X.K tr):=⟨D0 hg hm ha.h (cC hs)⟩
theorem E8(hl:QE X l tl):QI X tg l (Tg X.K tl):=⟨Ma hl.h⟩
theorem Z3:QA X [] EZ:=⟨W9⟩
theorem qc(ha:QE X e te)(hr:QA X es tr)(hs:a7 e=false:=by rfl):QA X (e::es) (Xa te tr):=⟨pc ha.h hr.h hs⟩
theorem Z4{i j pos}:QE X (.Constant (.int i) j pos) (tC (.int i)):=⟨X3⟩
theorem DM{b j pos}:QE X (.Constant (.bool b) j pos) (tC (.bl b)):=⟨DE⟩
theorem Vi{j pos}:QE X (.Constant .none j pos) (tC .non):=⟨X5⟩
theorem Z7{x j pos}:QE X (.Constant (.str x) j pos) (tC (.str x)):=⟨Vb⟩
theorem qv(i:Nat)(hN:X.N[i]?=oZ x:=by rfl)(hv:K0 X.env.scope x:=by first|exact MS rfl|exact NC (MS rfl)|exact NC (NC rfl))(hd:(x==("__debug__":Str))=false:=by decide)(bh:(x==("__classdict__":Str))=false:=by decide):QE X (.Name x pos) (yD i):=⟨sL hN hv hd bh⟩
theorem wM(ho:kR X (TR op) r)(ha:QE X a ta)(hb:QE X b tb):QE X (.BinOp a op b pos) (Xd r ta tb):=⟨DH ho ha.h hb.h⟩
theorem DQ{r:V->Hp->VK->Prop}(ho:GU X (unaryOp op) r)(ha:QE X a ta):QE X (.UnaryOp op a pos) (JW r ta):=⟨DJ ho ha.h⟩
theorem Bz(ho:kR X (TL op) r)(ha:QE X a ta)(hb:QE X b tb)(hm:TH op b=false):QE X (.Compare a [op] [b] pos) (Xd r ta tb):=⟨C3 ho ha.h hb.h hm⟩
theorem DP(ha:QE X a ta)(hb:QE X (.BoolOp .Or (b::rest) pos) tb):QE X (.BoolOp .Or (a::b::rest) pos) (FF ta tb):=⟨DI ha.h hb.h⟩
theorem Z6{op}(h:QE X a ta):QE X (.BoolOp op [a] pos) ta:=⟨X6 h.h⟩
theorem Vh(hc:QT X c tA)(ha:QE X a ta)(hb:QE X b tb):QE X (.IfExp c a b pos) (JP tA ta tb):=⟨Uz hc.h ha.h hb.h⟩
theorem Vk{x1}(h:QA X es tr):QE X (.Tuple es x1 pos) (FP tr):=⟨X7 h.h⟩
theorem Z5(h:QA X es tr):QE X (.List es pos) (EY tr):=⟨X4 h.h⟩
theorem DO(hr:Yd X r)(ha:QE X a ta)(hb:QE X b tb)(hs:uJ b):QE X (.Subscript a b pos) (Xd r ta tb):=⟨DG hr ha.h hb.h hs⟩
theorem E9{X:Cx}:QO X none Nh:=⟨D1⟩
theorem F0(h:QE X e te):QO X (oZ e) (O3 te):=⟨D2 h.h⟩
theorem Vj{r:V->Option Int->Option Int->Hp->VK->Prop}{lo hi:Option oC}(hr:HC X r)(he:QE X e te)(hl:QO X lo tlo)(hu:QO X hi thi):QE X (.Subscript e (.Slice lo hi none p2) pos) (JT r te tlo thi):=⟨Va hr he.h hl.h hu.h⟩
theorem wL(F:Fn X.prog X.w X.K X.mg X.base k x ps sp)(hr:cV j X.A)(hk:k<=j)(hg:Gl X x)(ha:QA X (e::es) tr)(YN:(x==("__debug__":Str))=false:=by decide)(hs:bN (e::es)=true:=by rfl):QE X (.Call (.Name x p) (e::es) [] pos) (Hb sp [] E0 tr):=⟨X2 F hr hk hg ha.h YN hs⟩
theorem g9{X:Cx}{pos:Pos}{e:oC}{es:List oC}{tr:TA}{x:Str}{p:Pos}{id:String}{r:List V->Hp->VK->Prop}(hc:i4 X (.builtin id) r)(hg:Gl X x)(hm:X.mg x=none)(hv:UA x=oZ (.builtin id))(ha:QA X (e::es) tr)(hn:x≠"__name__":=by decide)(YN:(x==("__debug__":Str))=false:=by decide)(hs:bN (e::es)=true:=by rfl):QE X (.Call (.Name x p) (e::es) [] pos) (BA r tr):=⟨Qf hc hg hm hv ha.h hn YN hs⟩
theorem qC{r:List V->Hp->VK->Prop}(hc:i4 X (.type T) r)(hg:Gl X x)(hm:X.mg x=none)(hv:UA x=oZ (.type T))(ha:QA X (e::es) tr)(hn:x≠"__name__":=by decide)(YN:(x==("__debug__":Str))=false:=by decide)(hs:bN (e::es)=true:=by rfl):QE X (.Call (.Name x p) (e::es) [] pos) (BA r tr):=⟨Jp hc hg hm hv ha.h hn YN hs⟩
theorem Mc(hc:X.calm=true)(S:bL X N' scope t cap)(hi:QI X target iter wi)(hg:∀C s3 H3 fp,QG (aX X N' scope C s3 H3 fp) target g)(he:∀C s3 H3 fp,QE (aX X N' scope C s3 H3 fp) elt te)(hs:∀x,TC iter X.env x=pure x:=by intro _;rfl):
  QE X (.ListComp elt [⟨target,iter,[],0⟩] scope pos) (zN t cap wi g te):=⟨C4 hc S hi.h (λC s3 H3 fp=>(hg C s3 H3 fp).h) (λC s3 H3 fp=>(he C s3 H3 fp).h) hs⟩
theorem Me(ho:kR X (TL op) r)(ha:QE X a ta)(hb:QE X b tb)(hm:TH op b=false):QT X (.Compare a [op] [b] pos) (Nl (Xd r ta tb)):=⟨Mb ho ha.h hb.h hm⟩
theorem AD(ha:QT X a tA):QT X (.UnaryOp .Not a pos) (FD tA):=⟨Y8 ha.h⟩
theorem AE(h:QE X e te)(he:∀whole,isTrue e X.env whole=(do let v <-whole;standAt e.pos;UJ [v] (truthy v)):=by intro _;rfl):QT X e (tB te):=⟨Y9 h.h he⟩
theorem F3(ha:QT X a tA):QW X (.BoolOp .And [a] pos) tA:=⟨D8 ha.h⟩
theorem AG(ha:QT X a tA):QW X (.BoolOp .Or [a] pos) tA:=⟨Z2 ha.h⟩
theorem AF(ha:QT X a tA)(hb:QW X (.BoolOp .And (b::rest) pos) ph):QW X (.BoolOp .And (a::b::rest) pos) (EL tA ph):=⟨Z1 ha.h hb.h⟩
theorem DU(ha:QT X a tA)(hb:QW X (.BoolOp .Or (b::rest) pos) ph):QW X (.BoolOp .Or (a::b::rest) pos) (JR tA ph):=⟨DL ha.h hb.h⟩
theorem IP(h:QW X e tA):QT X e tA:=⟨h.h.pt⟩
theorem cI.okQ{P:SR}{w:SX}{K:W.Frag}{mg:Str->Option oA}{base:oE}{x qual:Str}{st:SV}{f:SN}{fd:TK}{N ps:List Str}{k:Nat}{sp:Sp}(F:cI K x qual st f fd)(S:aF N ps (aC st))(len:∀vs H Q E,sp vs H Q E->vs.length=ps.length)(fm:∀(WR:oA)(A:oD)(outer:List Env)(s:oB)(H:Hp)(vs:List V)(Q:VK)(E:XK),cV k (A.deeper (UK qual (aC st) s.heap.objs.size f WR))->sp vs H Q E->
   ∃t,QB (vO cJ P w K mg base N qual (aC st) f WR A outer s H E).nox (cQ st) t/\t { nx:=λ_ H'=>Q .non H',rt:=Q } (j5 N vs) H):(~~~aS) cJ (k+1) f fd ps sp:=
 F.ok S len λWR A outer s H vs Q E hr h=>let⟨t,h1,h2⟩:=fm WR A outer s H vs Q E hr h;⟨t,h1.h,h2⟩
theorem Dc{E:oA->oB->Prop}{Q:oA->oB->Prop}(gi:s.heap.IsTupleIter it t k)(gt:s.heap.IsTuple t items)(gx:items[k]?=oZ x)(gq:∀h',h'.IsTupleIter it t (k+1)->PF it s.heap h'->Q x { s with heap:=h' }):SQ (SU prog w) A (Builtin.SmallTypes.nextOf (.ref it)) Q E s:=by
 obtain⟨ob,eo,ec,ed⟩:=id gi;obtain⟨ot,et,_,nt,edt⟩:=gt;unfold Builtin.SmallTypes.nextOf;refine SO (wpAny_callSpecial?_slot (name:=LM "__next__") gi.typeIs F.slot_tuple_iterator_next (VA F.slot_tuple_iterator_next gi.typeIs F.entry_tuple_iterator_next ?_ (F.args_tuple_iterator_next_1 _)));show SQ _ _ (field (.ref it) 0 >>= _) _ _ _;refine SO (UH eo ed (x:=.ref t) rfl ?_);show SQ _ _ (if(MU t==PN)=true then _ else _) _ _ _;rw[oW (λhq:(MU t==PN)=true=>NZ hq)];show SQ _ _ (field (.ref it) 1 >>= _) _ _ _;refine SO (UH eo ed (x:=.int k 0) rfl ?_);show SQ _ _ (seqItems? (.ref t) >>= _) _ _ _;refine SO (UU et edt ?_);simp only[MR,gx];refine SO (wpAny_setField eo ed (by simp) (TB ⟨x,rfl,TB (gq _ ?_ (Heap.SameBut.update ..))⟩));exact⟨_,QH _ eo (Obj.isFreed_of_fields (Obj.data_mapFields ed _)),(Obj.cls_mapFields ..).trans ec,by rw[Obj.data_mapFields ed];simp[rawInt]⟩
theorem Hi{E:oA->oB->Prop}{Q:oA->oB->Prop}(gh:A.handled=none)(gi:s.heap.IsTupleIter it t k)(gt:s.heap.IsTuple t items)(gx:items[k]?=none)(ge:∀h' e,Heap.ExtBut it s.heap h'->(∃o,h'.get? e=oZ o/\o.cls = .type "StopIteration")->E (.ref e) { s with heap:=h' }):SQ (SU prog w) A (Builtin.SmallTypes.nextOf (.ref it)) Q E s:=by
 obtain⟨ob,eo,ec,ed⟩:=id gi;obtain⟨ot,et,_,nt,edt⟩:=gt;unfold Builtin.SmallTypes.nextOf;refine SO (wpAny_callSpecial?_slot (name:=LM "__next__") gi.typeIs F.slot_tuple_iterator_next (VA F.slot_tuple_iterator_next gi.typeIs F.entry_tuple_iterator_next ?_ (F.args_tuple_iterator_next_1 _)));show SQ _ _ (field (.ref it) 0 >>= _) _ _ _;refine SO (UH eo ed (x:=.ref t) rfl ?_);show SQ _ _ (if(MU t==PN)=true then _ else _) _ _ _;rw[oW (λhq:(MU t==PN)=true=>NZ hq)];show SQ _ _ (field (.ref it) 1 >>= _) _ _ _;refine SO (UH eo ed (x:=.int k 0) rfl ?_);show SQ _ _ (seqItems? (.ref t) >>= _) _ _ _;refine SO (UU et edt ?_);simp only[MR,gx];refine SO (VH (SO (wpAny_setField eo ed (by simp) ?_)));show SQ _ _ (newExc (.type "StopIteration") [] >>= _) _ _ _;refine SO ?_;simp only[newExc,newTuple];refine SO (UD ?_ (by size_fits));refine SO (m:=firstArgMember _ _) (wpAny_of_eq (a:=PN) (by first|rfl|(simp only[firstArgMember];rfl)) (UD ?_ (by size_fits)));simp only[raiseNew];refine SO (wpAny_handled ?_)
 first|rw[show A.in1.handled=none from gh]|rw[gh]
 refine SO (TB (wpAny_throw ?_));exact ge _ _ (((Heap.SameBut.update ..).extBut.push _).push _) ⟨_,LU _ rfl,rfl⟩
theorem Oy{prog:SR}{w:SX}{A:oD}(gh:A.handled=none)(it t:SN)(ZH:t≠it)(items:Array oA):
  Draws prog w A it [it,t] items.size (λi v=>items[i]?=oZ v) (λi h=>h.IsTupleIter it t i/\h.IsTuple t items) where
 live:=λ_ _ st=>let⟨o,ho,_⟩:=st.1;⟨o,ho⟩
 frame:=λ_ _ _ st hk=>⟨st.1.at λo e=>hk it (by simp) o e,st.2.at λo e=>hk t (by simp) o e⟩
 item:=λi s Q E hi st hQ=>Dc st.1 st.2 (x:=items[i]) (by simp[hi]) λh' aBA qh=>hQ _ h' s.toks (by simp[hi]) ⟨aBA,st.2.extBut qh.extBut ZH⟩ qh
 done:=λs Q E st hE=>Hi gh st.1 st.2 (by simp) hE
def jH(κ:Bool)(h:oE)(it a:SN)(i:Nat):Prop:=match κ with|true=>h.IsTupleIter it a i|false=>h.IsListIter it a i
def vB(κ:Bool)(h:oE)(a:SN)(items:Array oA):Prop:=match κ with|true=>h.IsTuple a items|false=>h.IsList a items
theorem jH.at(x:jH κ h it a i)(e:∀o,h.get? it=oZ o->h'.get? it=oZ o):jH κ h' it a i:=by
 cases κ
 ·exact Heap.IsListIter.at x e
 ·exact Heap.IsTupleIter.at x e
theorem jH.obj(x:jH κ h it a i):∃o,h.get? it=oZ o/\∀v,o.data≠.cell v:=by
 cases κ
 ·obtain⟨o,e,c,d⟩:=x;exact⟨o,e,λv z=>by rw[d]at z;cases z⟩
 ·obtain⟨o,e,c,d⟩:=x;exact⟨o,e,λv z=>by rw[d]at z;cases z⟩
theorem Ry(κ:Bool)(hh:A.handled=none)(it a:SN)(ZH:a≠it)(items:Array oA):
  Draws prog w A it [it,a] items.size (λi v=>items[i]?=oZ v) (λi h=>jH κ h it a i/\vB κ h a items):=by
 cases κ
 ·exact Draws.list hh it a ZH items
 ·exact Oy hh it a ZH items
abbrev GA(h:oE)(a:SN):oE:=h.push { cls:=.type "tuple_iterator",data:=.fields #[.ref a,.int 0 0] }
abbrev GB(h:oE)(a b:SN):oE:=(GA h a).push { cls:=.type "tuple_iterator",data:=.fields #[.ref b,.int 0 0] }
abbrev GC(h:oE)(a b:SN):oE:=(GB h a b).push { cls:=.type "tuple",data:=.seq #[.ref h.objs.size,.ref (GA h a).objs.size] }
abbrev GD(h:oE)(a b:SN):oE:=(GC h a b).push { cls:=.type "tuple",data:=.seq #[.none,.none] }
abbrev Yc(h:oE)(a b:SN):oE:=(GD h a b).push { cls:=.type "zip",data:=.fields #[.none,.bool false,.bool false,.ref (GB h a b).objs.size,.ref (GC h a b).objs.size] }
theorem Yb(a b:SN)(xs ys:Array oA):
  Meets (Builtin.«zip.__new__» ⟨[.type "zip",.ref a,.ref b],[]⟩) (λ_ R s=>s.heap.IsTuple a xs/\s.heap.IsTuple b ys/\R (.ok (.ret (.ref (GD s.heap a b).objs.size))) { s with heap:=Yc s.heap a b }):=
 .of_wp λprog w A R s h=>by
  obtain⟨hp,g,d,tk,os⟩:=s;obtain⟨ga,gb,h⟩:=h;have aBB:=sub_zip;have gA:Heap.IsTuple (Shared.heap ⟨hp,g,d,tk,os⟩) a xs:=ga;have gB:Heap.IsTuple (Shared.heap ⟨hp.push { cls:=.type "tuple_iterator",data:=.fields #[.ref a,.int 0 0] },g,d,tk,os⟩) b ys:=Heap.IsTuple.push gb _
  wp_walk using wpAny_pyIter_tuple gA,wpAny_pyIter_tuple gB
  exact⟨_,rfl,h⟩
theorem Oj{E:oA->oB->Prop}{Q:oA->oB->Prop}(ga:s.heap.IsTuple a xs)(gb:s.heap.IsTuple b ys)(g:∀h',UZ h' (s.heap.objs.size+4) (s.heap.objs.size+2) (s.heap.objs.size+3) .none->IsPair h' (s.heap.objs.size+2) (.ref s.heap.objs.size) (.ref (s.heap.objs.size+1))->IsPair h' (s.heap.objs.size+3) .none .none->
   h'.IsTupleIter s.heap.objs.size a 0->h'.IsTupleIter (s.heap.objs.size+1) b 0->(∀c o,s.heap.get? c=oZ o->h'.get? c=oZ o)->Q (.ref (s.heap.objs.size+4)) { s with heap:=h' }):
  SQ (SU prog w) A (call (.type "zip") [.ref a,.ref b]) Q E s:=by
 refine callType_new F.called_zip ∅ (F.typeCall_zip_2 _ _) (F.newCall_zip_2 _ _) (λobj=>F.args_object_init_3 obj _ _) F.entry_zip_new (Yb a b xs ys) ⟨ga,gb,?_⟩;have y1:(GA s.heap a).objs.size=s.heap.objs.size+1:=NH ..;have y2:(GB s.heap a b).objs.size=s.heap.objs.size+2:=by rw[NH,y1]
 have y3:(GC s.heap a b).objs.size=s.heap.objs.size+3:=by rw[NH,y2]
 have y4:(GD s.heap a b).objs.size=s.heap.objs.size+4:=by rw[NH,y3]
 have p4:∀{c:SN}{o:Obj},(GD s.heap a b).get? c=oZ o->(Yc s.heap a b).get? c=oZ o:=λe=>LI _ e;have p3:∀{c:SN}{o:Obj},(GC s.heap a b).get? c=oZ o->(Yc s.heap a b).get? c=oZ o:=λe=>p4 (LI _ e);have p2:∀{c:SN}{o:Obj},(GB s.heap a b).get? c=oZ o->(Yc s.heap a b).get? c=oZ o:=λe=>p3 (LI _ e);have p1:∀{c:SN}{o:Obj},(GA s.heap a).get? c=oZ o->(Yc s.heap a b).get? c=oZ o:=λe=>p2 (LI _ e);have p0:∀{c:SN}{o:Obj},s.heap.get? c=oZ o->(Yc s.heap a b).get? c=oZ o:=λe=>p1 (LI _ e);have x5:(Yc s.heap a b).get? (GD s.heap a b).objs.size=oZ _:=LU _ rfl;have x4:(Yc s.heap a b).get? (GC s.heap a b).objs.size=oZ _:=p4 (LU _ rfl);have x3:(Yc s.heap a b).get? (GB s.heap a b).objs.size=oZ _:=p3 (LU _ rfl);have x2:(Yc s.heap a b).get? (GA s.heap a).objs.size=oZ _:=p2 (LU _ rfl);have x1:(Yc s.heap a b).get? s.heap.objs.size=oZ _:=p1 (LU _ rfl);show _/\_;rw[y2,y3,y4]at x5;rw[y1,y2]at x3;rw[y3]at x4;rw[y1]at x2;rw[y4];exact⟨⟨_,x5,rfl⟩,g _ x5 x3 x4 ⟨_,x1,rfl,rfl⟩ ⟨_,x2,rfl,rfl⟩ λc o e=>p0 e⟩
theorem KP(n:Nat):[n+4,n+2,n+3,n,n+1].Nodup:=by
 simp only[NJ,LH,NB,or_false,not_or,SI,and_true,not_false_eq_true]
 lia
theorem KD(h:c∈[n+4,n+2,n+3,n,n+1]):n<=c:=by
 simp only[LH,NB,or_false]at h
 lia
section
variable{X:Cx}{pos:Pos}{a b e:oC}{ta tb te:TE}{tc:TT}
def J0(c:TT):TS:=λD σ H=>c σ H λb H1=>b=true/\D.nx σ H1
theorem Qm(hc:QT X c tc):QS X (.Assert c m pos) (J0 tc):=⟨by
 intro pins s σ H D I h;exact wpAny_Assert_holds (cL (hc.h pins s σ H _ I h) λb s1 zZ=>by obtain⟨H1,I1,q1⟩:=zZ;exact⟨q1.1,σ,H1,I1,q1.2⟩)⟩
end
def Km(i j:Int):Prop:=i.natAbs<2^8000/\j.natAbs<2^8000
theorem Kr{a:Int}(h:a.natAbs<2^8000):Builtin.Int.intBits a<=8001:=by
 unfold Builtin.Int.intBits
 split
 ·lia
 ·rename_i h0;have ZH:a.natAbs≠0:=by
   intro z;apply h0
   first|exact Int.natAbs_eq_zero.mp z|simp[Int.natAbs_eq_zero.mp z]|lia
  have:=(PY ZH).mpr h
  lia
theorem Km.ok{i j:Int}(h:Km i j):IntMulOk i j:=by
 have h1:=Kr h.1;have h2:=Kr h.2;unfold IntMulOk;have:Builtin.Int.intTooBig (Builtin.Int.intBits i+Builtin.Int.intBits j)=false:=by
  unfold Builtin.Int.intTooBig;simp only[decide_eq_false_iff_not];have:(16002:Int)<=bitsLine:=∅
  lia
 rw[this];simp
theorem B8:kR X (TR .Mult) (rI Km λi j=>.int (i*j)):=AZ λ_ _ _ _ _ _ _ hc q=>mul_int q hc.ok
def yE(i j:Int):Prop:=j≠0/\j.natAbs<2^8000
theorem dF:kR X (TR .FloorDiv) (rI yE λi j=>.int (i.fdiv j)):=AZ λi j _ _ _ _ _ hc q=>by
 obtain⟨h0,h1⟩:=hc;have hl:j.natAbs.log2<9000:=by
  have:=(PY (show j.natAbs≠0 by lia)).mpr h1
  lia
 exact floordiv_int h0 q (.inl (PyProof.noPylong_of_log2 hl))
theorem zI(ho:QE X o to)(ha:QA X [e] tr)(WK:TQ o "append" X.env (TF o X.env)=TF o X.env:=by rfl)(WL:(ap.endLine==pos.line)=true:=by rfl)(hs:a7 e=false:=by rfl):
  QE X (.Call (.Attribute o "append" ap) [e] [] pos) (AM X.K "list" Cb to tr):=
 ⟨Ge PySem.F.plainAttrs_list PySem.F.slot_list_append PySem.F.type_list_append zD ho.h ha.h WK (by rw[cC hs];rfl) WL (cC hs) (eF rfl)⟩
theorem Ad:i4 X (.builtin "divmod") (λxs H Q=>∃a b:Int,xs=[.int a,.int b]/\0<b/\b<2^200/\∀p,H p=none->Q (.ref p) (upd H p (.tup [.int (a/b),.int (a%b)]))):=by
 intro pins s σ H xs us Q I r h;obtain⟨a,b,rfl,h0,h1,q⟩:=h;obtain⟨u,v,rfl,rx,ry⟩:=a9.two r;obtain⟨t,rfl⟩:=rx;obtain⟨t',rfl⟩:=ry;have e1:a.fdiv b=a/b:=NL _ ⋯;have e2:a.fmod b=a%b:=RD _ ⋯;have hl:b.natAbs.log2<9000:=by
  have hb:b.natAbs<2^200:=⋯
  have:=(PY (show b.natAbs≠0 by lia)).mpr hb
  lia
 refine divmod_int ⋯ ?_ (.inl (PyProof.noPylong_of_log2 hl));refine⟨.ref s.heap.objs.size,_,I.laid (o:=.tup [.int (a/b),.int (a%b)]) (t':=s.toks+1+1) (λb u e=>LI _ e) (LN _) ?_,rfl,q _ (I.hok.fresh (LN _))⟩;refine⟨by show 2<=SY;decide,[.int (a.fdiv b) s.toks,.int (a.fmod b) (s.toks+1)],.cons ⟨_,by rw[e1]⟩ (.cons ⟨_,by rw[e2]⟩ .nil),⟨_,LU _ rfl,rfl,_,rfl⟩⟩
def M1:V->List V->Hp->VK->Prop:=λx vs H Q=>∃i:Int,x = .int i/\vs=[]/\Q (.int ((Builtin.Int.intBits i:Nat):Int)) H
theorem Zy:P5 X "int.bit_length" M1:=by
 intro pins s σ H x vs v us Q I rx rv h;obtain⟨i,rfl,rfl,q⟩:=h;obtain⟨t,rfl⟩:=rx;cases rv;exact call_int_bit_length ⟨.int _,H,I.tok _,⟨_,rfl⟩,q⟩
theorem D9(ho:QE X o to)(WK:TQ o "bit_length" X.env (TF o X.env)=TF o X.env:=by rfl)(WL:(ap.endLine==pos.line)=true:=by rfl):
  QE X (.Call (.Attribute o "bit_length" ap) [] [] pos) (EM X.K "int" M1 to):=
 ⟨X1 PySem.F.plainAttrs_int PySem.F.slot_int_bit_length PySem.F.type_int_bit_length Zy ho.h WK WL⟩
section
variable{κ:Type}[DecidableEq κ]
def iA(VN:List (κ×V))(k:κ):Option V:=(VN.find? λkv=>decide (kv.1=k)).map (·.2)
def sN(VN:List (κ×V))(k:κ)(v:V):List (κ×V):=
 if(VN.any λkv=>decide (kv.1=k))=true then VN.map (λkv=>if kv.1=k then(kv.1,v)else kv)else VN++[(k,v)]
theorem eI{p:κ×V}(e:p.1=k):iA (p::r) k=oZ p.2:=by simp[iA,OM,e]
theorem eH{p:κ×V}(e:¬p.1=k):iA (p::r) k=iA r k:=by simp[iA,OM,e]
theorem xN(k:κ):∀VN:List (κ×V),(VN.any λkv=>decide (kv.1=k))=(iA VN k).isSome
 |[]=>rfl
 |p::r=>by
  rw[OG]
  by_cases e:p.1=k
  ·simp only[eI e,oY e,Bool.true_or,Option.isSome_some]
  ·rw[eH e,oX e,Bool.false_or];exact xN k r
theorem Hj(k j:κ)(y:V):∀VN:List (κ×V),iA (VN.map λkv=>if kv.1=k then(kv.1,y)else kv) j=(iA VN j).map λx=>if j=k then y else x
 |[]=>rfl
 |p::r=>by
  have ih:=Hj k j y r;rw[MP]
  by_cases h:p.1=k
  ·rw[oV h]
   by_cases e:p.1=j
   ·rw[eI (p:=(p.1,y)) e,eI e,QP,oV (e.symm.trans h)]
   ·rw[eH (p:=(p.1,y)) e,eH e,ih]
  ·rw[oW h]
   by_cases e:p.1=j
   ·rw[eI (p:=p) e,eI e,QP,oW (λz=>h (e.trans z))]
   ·rw[eH (p:=p) e,eH e,ih]
theorem zU(k j:κ)(y:V):∀VN:List (κ×V),iA VN k=none->iA (VN++[(k,y)]) j=if j=k then oZ y else iA VN j
 |[],_=>by
  by_cases e:k=j
  ·rw[oV e.symm];exact eI (p:=(k,y)) e
  ·rw[oW (λz=>e z.symm)];exact eH (p:=(k,y)) e
 |p::r,hn=>by
  rw[List.cons_append];have hk:¬p.1=k:=λz=>by rw[eI z]at hn;cases hn
  rw[eH hk]at hn;have ih:=zU k j y r hn
  by_cases e:p.1=j
  ·rw[eI e,eI e,oW (λz=>hk (e.trans z))]
  ·rw[eH e,eH e,ih]
theorem Xw(VN:List (κ×V))(k j:κ)(y:V):iA (sN VN k y) j=if j=k then oZ y else iA VN j:=by
 unfold sN
 by_cases a:(VN.any λkv=>decide (kv.1=k))=true
 ·rw[oV a,Hj];rw[xN]at a
  by_cases e:j=k
  ·obtain⟨x,hx⟩:=RK.mp a;rw[oV e,e,hx,QP,oV rfl]
  ·rw[oW e];cases iA VN j with
   |none=>rfl
   |some x=>rw[QP,oW e]
 ·rw[oW a];refine zU k j y VN ?_;rw[xN]at a;cases q:iA VN k with
  |none=>rfl
  |some x=>rw[q]at a;exact(a rfl).elim
theorem tP(VN:List (κ×V))(k:κ)(v:V):(sN VN k v).length<=VN.length+1:=by
 unfold sN
 split
 ·rw[LJ];lia
 ·rw[LG,LO,MY];lia
theorem xS.isSome_eq(r:xS o u):o.isSome=u.isSome:=by
 cases o with
 |none=>cases u with
  |none=>rfl
  |some _=>exact(show False from r).elim
 |some _=>cases u with
  |none=>exact(show False from r).elim
  |some _=>rfl
theorem KV.val(r:KV VN vs)(k:κ):xS (iA VN k) (valueAt vs k):=by
 unfold KV at r
 induction r with
 |nil=>exact True.intro
 |@cons p q ps qs h t ih=>
  obtain⟨h1,h2⟩:=h
  by_cases e:p.1=k
  ·have e':q.1=k:=h1.symm.trans e;have b:valueAt (q::qs) k=oZ q.2:=by simp[valueAt,OM,e']
   rw[eI e,b];exact h2
  ·have e':¬q.1=k:=λz=>e (h1.trans z);have b:valueAt (q::qs) k=valueAt qs k:=by simp[valueAt,OM,e']
   rw[eH e,b];exact ih
theorem KV.any(r:KV VN vs)(k:κ):(VN.any λkv=>decide (kv.1=k))=vs.any λkv=>decide (kv.1=k):=by
 unfold KV at r
 induction r with
 |nil=>rfl
 |cons h t ih=>rw[OG,OG,ih,h.1]
theorem KV.repl(r:KV VN vs)(k:κ)(ry:bC y u):
  KV (VN.map λkv=>if kv.1=k then(kv.1,y)else kv) (vs.map λkv=>if kv.1=k then(kv.1,u)else kv):=by
 unfold KV at r⊢
 induction r with
 |nil=>exact .nil
 |@cons p q ps qs h t ih=>
  rw[MP,MP];refine .cons ?_ ih;obtain⟨h1,h2⟩:=h
  by_cases e:p.1=k
  ·rw[oV e,oV (h1.symm.trans e)];exact⟨h1,ry⟩
  ·rw[oW e,oW (λz=>e (h1.trans z))];exact⟨h1,h2⟩
theorem KV.put(r:KV VN vs)(k:κ)(ry:bC y u):KV (sN VN k y) (stored vs k u):=by
 unfold sN stored;rw[r.any k]
 by_cases e:(vs.any λkv=>decide (kv.1=k))=true
 ·rw[oV e,oV e];exact r.repl k ry
 ·rw[oW e,oW e];exact Paired.snoc r ⟨rfl,ry⟩
theorem KV.length(r:KV VN vs):VN.length=vs.length:=Paired.length r
end
theorem Er(r:bC (kV k) u):(eJ P w).is k u=true:=by
 cases k with
 |inl i=>obtain⟨t,e⟩:=(show ∃t,u=Value.int i t from r);subst e;exact Eu P w i t
 |inr x=>obtain⟨t,e⟩:=(show ∃t,u=OK x t from r);subst e;exact d9 P w x t
theorem y9:∀{ks:List Key}{us:List oA},a9 (ks.map kV) us->ItemsAre (eJ P w) ks us
 |[],_,r=>by rw[QN]at r;cases r;exact .nil
 |k::ks,_,r=>by
  rw[MP]at r;cases r with
  |cons h t=>exact .cons (Er h) (y9 t)
abbrev GO(H:Hp):List (List Key×V)->List (List Key×SN×oA)->Prop:=Paired λp q=>p.1=q.1/\H q.2.1=oZ (.tup (p.1.map kV))/\bC p.2 q.2.2
theorem GO.val(r:GO H VN xs)(k:List Key):xS (iA VN k) ((atKey xs k).map (·.2)):=by
 induction r with
 |nil=>exact True.intro
 |@cons p q ps qs h t ih=>
  obtain⟨h1,_,h2⟩:=h
  by_cases e:p.1=k
  ·have e':q.1=k:=h1.symm.trans e;have b:atKey (q::qs) k=oZ q.2:=by simp[atKey,OM,e']
   rw[eI e,b];exact h2
  ·have e':¬q.1=k:=λz=>e (h1.trans z);have b:atKey (q::qs) k=atKey qs k:=by simp[atKey,OM,e']
   rw[eH e,b];exact ih
theorem Vr(ok:oT P w H h)(e:Rd H a u):dW P w H h a u:=e.ok ok
theorem Ky(ok:oT P w H h)(e:Rd H a (.dK VN)):VN.length<=SY/\(a==UL)=false/\∃vs,KV VN vs/\h.DictOf (eJ P w) a vs:=
 show dW P w H h a (.dK VN)from Vr ok e
theorem BS(ok:oT P w H h)(e:H a=oZ (.dK VN)):VN.length<=SY/\(a==UL)=false/\∃vs,KV VN vs/\h.DictOf (eJ P w) a vs:=Ky ok (.inl e)
theorem Ir(ok:oT P w H h)(e:H a=oZ (.tup (ks.map kV))):(tupleKind (eJ P w)).is h ks a:=by
 obtain⟨_,VL,r,o,h1,h2,n,h3⟩:=(show dW P w H h a (.tup (ks.map kV))from ok a _ e);exact⟨o,VL.toArray,n,h1,h2,h3,by simpa using y9 r⟩
theorem Se(ok:oT P w H h)(e:Rd H a (.dT VN)):VN.length<=SY/\(a==UL)=false/\
  ∃xs,GO H VN xs/\h.DictOfH (tupleKind (eJ P w)) a xs:=by
 obtain⟨z,y,xs,r,o,es,ep,h1,h2,h3,h4,h5⟩:=(show dW P w H h a (.dT VN)from Vr ok e);refine⟨z,y,xs,r,o,es,ep,h1,h2,h3,h4,λx hx=>?_,h5⟩;have all:∀{l:List (List Key×V)}{m:List (List Key×SN×oA)},GO H l m->∀x∈m,(tupleKind (eJ P w)).is h x.1 x.2.1:=by
  intro l m q
  induction q with
  |nil=>intro x hx;exact nomatch hx
  |@cons p q ps qs hq t ih=>
   intro x hx;obtain e|hx:=LH.mp hx
   ·subst e;exact Ir ok (by rw[<-hq.1];exact hq.2.1)
   ·exact ih x hx
 exact all r x hx
def zX(H:Hp)(a:SN)(y:V)(r:Option V):Prop:=
 (∃VN k,Rd H a (.dK VN)/\y=kV k/\r=iA VN k)\/∃VN k b,Rd H a (.dT VN)/\y = .ref b/\H b=oZ (.tup (k.map kV))/\r=iA VN k
theorem zX.k{H:Hp}{a:SN}{VN:List (Key×V)}{k:Key}(e:H a=oZ (.dK VN)):zX H a (kV k) (iA VN k):=.inl ⟨VN,k,.inl e,rfl,rfl⟩
theorem aT.big(I:aT X pins σ H s):UL<s.heap.objs.size:=by
 have h:SW<s.heap.objs.size:=(I.mod.glob.keeps I.bk).lt;exact Nat.lt_trans ∅ h
theorem Ox{E:oA->oB->Prop}{Q:oA->oB->Prop}(hu:A.units+1<UR)(I:aT X pins σ H s)(g:zX H a y (oZ v))(ry:bC y u)(h:∀w' s',aT X pins σ H s'->bC v w'->Q w' s'):
  SQ (SU X.prog X.w) A (VB (.ref a) u) Q E s:=by
 obtain⟨VN,k,e,ey,l⟩|⟨VN,k,b,e,ey,eb,l⟩:=g
 ·subst ey;obtain⟨z,hd,vs,rel,dd⟩:=Ky I.hok e;obtain⟨w',hw,fk⟩:=xS.some_of (v:=v) (o:=valueAt vs k) (by rw[l];exact rel.val k);exact wpAny_getItem_of (Er ry) dd.mapOf hw (h w' _ (I.tok _) fk)
 ·subst ey;cases(show u=MU b from ry);obtain⟨z,hd,xs,rel,dd⟩:=Se I.hok e;obtain⟨w',hw,fk⟩:=xS.some_of (v:=v) (o:=(atKey xs k).map (·.2)) (by rw[l];exact rel.val k);obtain⟨p,hp,hp2⟩:=MH.mp hw;refine wpAny_getItem_heap (tupleKind_room_in1 hu) (Ir I.hok eb) dd hp ?_;rw[hp2];exact h w' _ (I.tok _) fk
theorem HI{E:oA->oB->Prop}{Q:oA->oB->Prop}(hu:A.units+1<UR)(I:aT X pins σ H s)(g:zX H a y o)(ry:bC y u)(h:∀s',aT X pins σ H s'->Q (.bool o.isSome) s'):
  SQ (SU X.prog X.w) A (TL .In u (.ref a)) Q E s:=by
 obtain⟨VN,k,e,ey,l⟩|⟨VN,k,b,e,ey,eb,l⟩:=g
 ·subst ey;obtain⟨z,hd,vs,rel,dd⟩:=Ky I.hok e;refine wpAny_in_of (Er ry) hd dd.mapOf ?_;rw[<-(rel.val k).isSome_eq,<-l];exact h _ (I.tok _)
 ·subst ey;cases(show u=MU b from ry);obtain⟨z,hd,xs,rel,dd⟩:=Se I.hok e;refine wpAny_in_heap (tupleKind_room_in1 hu) (Ir I.hok eb) hd dd ?_;have q:=(rel.val k).isSome_eq;rw[Option.isSome_map]at q;rw[<-q,<-l];exact h _ (I.tok _)
theorem Yv(I:aT X pins σ H s)(mu:BF (H a))(hs:PF a s.heap h')(he:∃q,h'.get? a=oZ q)(new:dW X.prog X.w (upd H a ob) h' a ob):
  aT X pins σ (upd H a ob) { s with heap:=h',toks:=t' }:=
 I.write (x:=a) (e:=a) mu (.inl rfl) (λb q hb z=>(hs.2 b hb).trans z) he new
theorem Q9(z:VN.length<=SY)(hd:(a==UL)=false)(rel:KV VN vs)(dd:h'.DictOf (eJ P w) a vs):
  dW P w H' h' a (.dK VN):=⟨z,hd,vs,rel,dd⟩
def Rl(i:oC):Prop:=∀ov iv,UX i false ov iv=operate [ov,iv] (VB ov iv)
theorem Mu{prog:SR}{w:SX}{A:oD}{E:oA->oB->Prop}{s:oB}{env:Env}{value slice:oC}{pos:Pos}{T id:String}{Q:oA->oB->Prop}
  (hl:typeLookup (.type T) "__getitem__" = pure (oZ (.builtin id))) (hs:Rl slice)
  (h:SQ (SU prog w) A (TF value env) (λo s₁=>SQ (SU prog w) A (TF slice env) (λi s₂=>s₂.TypeIs o T/\SQ (SU prog w) A (VB o i) Q E s₂) E s₁) E s) :
  SQ (SU prog w) A (TF (.Subscript value slice pos) env) Q E s:=by
 refine Subscript_ (TM h (λo s₁ h₁=>TM h₁ (λi s₂ h₂=>?_) λ_ _ x=>x) λ_ _ x=>x);obtain⟨hT,h₂⟩:=h₂;unfold subscriptTail;refine SO ?_;rw[getitemInPython_of_ne hT.not_modules];refine SO (wpAny_specialOf hT hl ?_);have fin:SQ (SU prog w) A (UX slice false o i) (λr s₃=>SQ (SU prog w) A (letTemporaryGo value o r >>= λ_=>pure r) Q E s₃) E s₂:=by
  rw[hs o i];exact wpAny_operating (TM h₂ (λr s₃ h₃=>SO (wpAny_letTemporaryGo (TB h₃))) λ_ _ x=>x)
 first
  |exact TB (SO fin)
  |exact SO (TB (SO fin))
  |exact SO fin
theorem Ed(I:aT X pins σ H s)(g:zX H a y o):s.TypeIs (.ref a) "dict":=by
 obtain⟨VN,k,e,_,_⟩|⟨VN,k,b,e,_,_,_⟩:=g
 ·obtain⟨_,_,vs,_,dd⟩:=Ky I.hok e;exact dd.typeIs
 ·obtain⟨_,_,xs,_,dd⟩:=Se I.hok e;exact dd.typeIs
def N2(td ty:TE):TE:=λσ H Q=>td σ H λx H1=>ty σ H1 λy H2=>∃a v,x = .ref a/\zX H2 a y (oZ v)/\Q v H2
def EO(ty td:TE):TE:=λσ H Q=>ty σ H λy H1=>td σ H1 λx H2=>∃a o,x = .ref a/\zX H2 a y o/\Q (.bl o.isSome) H2
theorem C5(hu:X.A.units+1<UR)(ho:PE X o td)(hi:PE X i ty)(hs:Rl i):PE X (.Subscript o i pos) (N2 td ty):=by
 intro pins s σ H Q I h;refine Mu PySem.F.slot_dict_getitem.lookup hs (cL (ho pins s σ H _ I h) λu s1⟨x,H1,I1,rx,q1⟩=>cL (hi pins s1 σ H1 _ I1 q1) λiv s2 zZ=>?_);obtain⟨y,H2,I2,ry,a,v,ex,g,q2⟩:=zZ;subst ex;obtain rfl:u=MU a:=rx;exact⟨Ed I2 g,Ox hu I2 g ry λw' s3 I3 fk=>⟨v,H2,I3,fk,q2⟩⟩
theorem X0(hu:X.A.units+1<UR)(hi:PE X i ty)(ho:PE X o td):PC X .In i o (EO ty td):=by
 intro pins s σ H Q I h;refine cL (hi pins s σ H _ I h) λiv s1⟨y,H1,I1,ry,q1⟩=>cL (ho pins s1 σ H1 _ I1 q1) λu s2 zZ=>?_;obtain⟨x,H2,I2,rx,a,ov,ex,g,q2⟩:=zZ;subst ex;obtain rfl:u=MU a:=rx;exact HI hu I2 g ry λs3 I3=>⟨.bl ov.isSome,H2,I3,rfl,q2⟩
theorem Rx(h:oE)(hb:UL<h.objs.size):dW P w H (h.push { cls:=.type "dict",data:=.dict #[] }) h.objs.size (.dK []):=
 ⟨LV _,beq_eq_false_iff_ne.mpr (Ne.symm (MA hb)),[],.nil,Heap.DictOf.new h⟩
inductive T where
 |non|bl (b:Bool)|int (i:Int)|str (x:Str)|tup (xs:List T)|lst (xs:List T)
inductive U where
 |p (t:T)|o (k:Bool) (xs:List T)
abbrev En:=List (Option U)
inductive R where
 |p (t:T)|s (i:Nat)
def KT(K:W.Frag)(a:SN)(xs:List V):Prop:=∃(o:Obj)(VL:Array oA)(n:Nat),K.lookup a=oZ o/\o.cls = .type "tuple"/\o.data = .seq VL n/\VL.size<=SY/\a9 xs VL.toList
def KL(K:W.Frag)(a:SN)(xs:List V):Prop:=∃(o:Obj)(VL:Array oA)(n:Nat),K.lookup a=oZ o/\o.cls = .type "list"/\o.dict=none/\o.data = .seq VL n/\VL.size<=SY/\a9 xs VL.toList
mutual
def Rp(K:W.Frag)(H:Hp)(O:SN->Prop):T->V->Prop
 |.non,v=>v = .non
 |.bl b,v=>v = .bl b
 |.int i,v=>v = .int i
 |.str x,v=>v = .str x
 |.tup xs,v=>∃a vs,v = .ref a/\((¬O a/\H a=oZ (.tup vs))\/KT K a vs)/\cR K H O xs vs
 |.lst xs,v=>∃a vs,v = .ref a/\((¬O a/\Rd H a (.lst vs))\/KL K a vs)/\cR K H O xs vs
def cR(K:W.Frag)(H:Hp)(O:SN->Prop):List T->List V->Prop
 |[],vs=>vs=[]
 |x::xs,vs=>∃v r,vs=v::r/\Rp K H O x v/\cR K H O xs r
end
structure Kp(O O':SN->Prop)(H H':Hp):Prop where
 keep:∀b o,H b=oZ o->¬O b->H' b=oZ o
 new:∀b,O' b->O b\/H b=none
theorem Kp.tup{O O':SN->Prop}(k:Kp O O' H H')(h:¬O a/\H a=oZ u):¬O' a/\H' a=oZ u:=by
 obtain⟨n,h⟩:=h;refine⟨λz=>?_,k.keep _ _ h n⟩;obtain z|z:=k.new a z
 ·exact n z
 ·rw[h]at z;cases z
theorem Rd.step{O O':SN->Prop}(k:Kp O O' H H')(h:¬O a/\Rd H a u):¬O' a/\Rd H' a u:=by
 obtain⟨n,h⟩:=h;obtain h|⟨o,h⟩:=h
 ·refine⟨λz=>?_,.inl (k.keep _ _ h n)⟩;obtain z|z:=k.new a z
  ·exact n z
  ·rw[h]at z;cases z
 ·refine⟨λz=>?_,.inr ⟨o,k.keep _ _ h n⟩⟩;obtain z|z:=k.new a z
  ·exact n z
  ·rw[h]at z;cases z
section
variable{K:W.Frag}{H H':Hp}{O O':SN->Prop}
mutual
theorem Rp.step(k:Kp O O' H H'):∀{t:T}{v:V},Rp K H O t v->Rp K H' O' t v
 |.non,_,h=>h
 |.bl _,_,h=>h
 |.int _,_,h=>h
 |.str _,_,h=>h
 |.tup xs,v,h=>by
  obtain⟨a,vs,e,h1,h2⟩:=h;exact⟨a,vs,e,h1.imp (Kp.tup k) id,cR.step k h2⟩
 |.lst xs,v,h=>by
  obtain⟨a,vs,e,h1,h2⟩:=h;exact⟨a,vs,e,h1.imp (Rd.step k) id,cR.step k h2⟩
theorem cR.step(k:Kp O O' H H'):∀{xs:List T}{vs:List V},cR K H O xs vs->cR K H' O' xs vs
 |[],_,h=>h
 |x::xs,vs,h=>by
  obtain⟨v,r,e,h1,h2⟩:=h;exact⟨v,r,e,Rp.step k h1,cR.step k h2⟩
end
theorem Kp.refl(O:SN->Prop)(H:Hp):Kp O O H H:=⟨λ_ _ h _=>h,λ_ h=>.inl h⟩
theorem Kp.less(h:∀b,O' b->O b):Kp O O' H H:=⟨λ_ _ h _=>h,λ_ z=>.inl (h _ z)⟩
theorem Kp.trans{O'':SN->Prop}(a:Kp O O' H H')(b:Kp O' O'' H' H''):Kp O O'' H H'':=by
 refine⟨λc o h n=>b.keep c o (a.keep c o h n) λz=>?_,λc h=>?_⟩
 ·obtain z|z:=a.new c z
  ·exact n z
  ·rw[h]at z;cases z
 ·obtain z|z:=b.new c h
  ·exact a.new c z
  ·by_cases n:O c
   ·exact .inl n
   ·right
    cases q:H c with
    |none=>rfl
    |some o=>rw[a.keep c o q n]at z;cases z
theorem Kp.upd(h:H a=none):Kp O O H (upd H a o):=⟨λb u e _=>by rw[bD (a8 e h)];exact e,λ_ z=>.inl z⟩
theorem cR.length:∀{xs:List T}{vs:List V},cR K H O xs vs->vs.length=xs.length
 |[],_,h=>by cases h;rfl
 |_::_,_,h=>by
  obtain⟨v,r,e,_,h2⟩:=h;rw[e,LO,LO,cR.length h2]
theorem cR.get:∀{xs:List T}{vs:List V}{i:Nat}{x:T},cR K H O xs vs->xs[i]?=oZ x->∃v,vs[i]?=oZ v/\Rp K H O x v
 |[],_,_,_,_,e=>by simp at e
 |_::_,_,0,_,⟨v,r,e,h1,_⟩,q=>by simp at q;subst q;subst e;exact⟨v,rfl,h1⟩
 |_::_,_,i+1,x,⟨v,r,e,_,h2⟩,q=>by
  obtain⟨w,q1,q2⟩:=cR.get (i:=i) (x:=x) h2 (by simpa using q);subst e;exact⟨w,by simpa using q1,q2⟩
theorem cR.append:∀{xs ys:List T}{vs ws:List V},cR K H O xs vs->cR K H O ys ws->cR K H O (xs++ys) (vs++ws)
 |[],_,_,_,h,k=>by cases h;exact k
 |_::_,_,_,_,⟨v,r,e,h1,h2⟩,k=>by subst e;exact⟨v,_,rfl,h1,cR.append h2 k⟩
theorem cR.set(h:Rp K H O x v):∀{xs:List T}{vs:List V}(i:Nat),cR K H O xs vs->cR K H O (xs.set i x) (vs.set i v)
 |[],_,_,k=>by cases k;exact rfl
 |_::_,_,0,⟨u,r,e,h1,h2⟩=>by subst e;exact⟨v,_,rfl,h,h2⟩
 |_::_,_,i+1,⟨u,r,e,h1,h2⟩=>by subst e;exact⟨u,_,rfl,h1,cR.set h i h2⟩
theorem cR.take:∀{xs:List T}{vs:List V}(n:Nat),cR K H O xs vs->cR K H O (xs.take n) (vs.take n)
 |_,_,0,_=>by simp[cR]
 |[],_,_+1,h=>by cases h;exact rfl
 |_::_,_,n+1,⟨v,r,e,h1,h2⟩=>by subst e;exact⟨v,_,rfl,h1,cR.take n h2⟩
theorem cR.drop:∀{xs:List T}{vs:List V}(n:Nat),cR K H O xs vs->cR K H O (xs.drop n) (vs.drop n)
 |_,_,0,h=>h
 |[],_,_+1,h=>by cases h;exact rfl
 |_::_,_,n+1,⟨v,r,e,h1,h2⟩=>by subst e;exact cR.drop n h2
theorem cR.reverse:∀{xs:List T}{vs:List V},cR K H O xs vs->cR K H O xs.reverse vs.reverse
 |[],_,h=>by cases h;exact rfl
 |_::_,_,⟨v,r,e,h1,h2⟩=>by
  subst e;rw[OB,OB];exact(cR.reverse h2).append ⟨v,[],rfl,h1,rfl⟩
theorem Rp.sqT(h:Rp K H O (.tup xs) v):∃a vs,v = .ref a/\Dh K H a vs/\cR K H O xs vs:=by
 obtain⟨a,vs,e,h1,h2⟩:=h;exact⟨a,vs,e,h1.imp (λh=>.inl h.2) id,h2⟩
theorem Rp.sqL(h:Rp K H O (.lst xs) v):∃a vs,v = .ref a/\lA K H a vs/\cR K H O xs vs:=by
 obtain⟨a,vs,e,h1,h2⟩:=h;exact⟨a,vs,e,h1.imp And.right id,h2⟩
end
def Ow(B:SN->Prop)(S:St)(E:En)(a:SN):Prop:=B a\/∃(i:Nat)(k:Bool)(xs:List T),E[i]?=oZ (oZ (.o k xs))/\S[i]?=oZ (oZ (.ref a))
structure RE(K:W.Frag)(B:SN->Prop)(H:Hp)(S:St)(E:En):Prop where
 len:S.length=E.length
 pure:∀(i:Nat)(t:T),E[i]?=oZ (oZ (.p t))->∃v,S[i]?=oZ (oZ v)/\Rp K H (Ow B S E) t v
 own:∀(i:Nat)(k:Bool)(xs:List T),E[i]?=oZ (oZ (.o k xs))->∃a vs,S[i]?=oZ (oZ (.ref a))/\H a=oZ (.lst vs)/\cR K H (Ow B S E) xs vs/\(k=true↔B a)
 inj:∀(i j:Nat)(k l:Bool)(xs ys:List T)(a:SN),E[i]?=oZ (oZ (.o k xs))->E[j]?=oZ (oZ (.o l ys))->S[i]?=oZ (oZ (.ref a))->S[j]?=oZ (oZ (.ref a))->i=j
 bd:∀a,B a->∃vs,H a=oZ (.lst vs)
theorem RE.ow{K:W.Frag}{B:SN->Prop}{H:Hp}{S:St}{E:En}(r:RE K B H S E){a:SN}(h:Ow B S E a):∃vs,H a=oZ (.lst vs):=by
 obtain h|⟨i,k,xs,h1,h2⟩:=h
 ·exact r.bd a h
 obtain⟨a',vs,h3,h4,_⟩:=r.own i k xs h1;rw[h2]at h3;cases h3;exact⟨vs,h4⟩
theorem RE.nn{K:W.Frag}{B:SN->Prop}{H:Hp}{S:St}{E:En}(r:RE K B H S E){a:SN}(h:H a=none):¬Ow B S E a:=λz=>by
 obtain⟨ws,e⟩:=r.ow z;rw[h]at e;cases e
theorem RE.step{K:W.Frag}{B:SN->Prop}{H:Hp}{H':Hp}{S:St}{E:En}{E':En}(r:RE K B H S E)(k:∀b o,H b=oZ o->¬Ow B S E b->H' b=oZ o)(hl:E'.length=E.length)(hp:∀(i:Nat)(t:T),E'[i]?=oZ (oZ (.p t))->E[i]?=oZ (oZ (.p t)))(ho:∀(i:Nat)(k:Bool)(kn:List T),E'[i]?=oZ (oZ (.o k kn))->∃xs,E[i]?=oZ (oZ (.o k xs))/\∀a,S[i]?=oZ (oZ (.ref a))->∃vs,H' a=oZ (.lst vs)/\cR K H' (Ow B S E) kn vs)(hb:∀a,B a->∃vs,H' a=oZ (.lst vs)):RE K B H' S E':=by
 have ow:∀b,Ow B S E' b->Ow B S E b:=λb z=>by
  obtain z|⟨i,k,xs,h1,h2⟩:=z
  ·exact .inl z
  obtain⟨ys,h3,_⟩:=ho i k xs h1;exact .inr ⟨i,k,ys,h3,h2⟩
 have kp:Kp (Ow B S E) (Ow B S E') H H':=⟨k,λb z=>.inl (ow b z)⟩;refine⟨by rw[hl];exact r.len,λi t h=>?_,λi k xs h=>?_,λi j k l xs ys a h1 h2 h3 h4=>?_,hb⟩
 ·obtain⟨v,h1,h2⟩:=r.pure i t (hp i t h);exact⟨v,h1,h2.step kp⟩
 ·obtain⟨ys,h1,h2⟩:=ho i k xs h;obtain⟨a,vs,h3,_,_,h6⟩:=r.own i k ys h1;obtain⟨ws,h7,h8⟩:=h2 a h3;exact⟨a,ws,h3,h7,h8.step (Kp.less ow),h6⟩
 ·obtain⟨_,q1,_⟩:=ho i k xs h1;obtain⟨_,q2,_⟩:=ho j l ys h2;exact r.inj i j k l _ _ a q1 q2 h3 h4
theorem RE.kept{K:W.Frag}{B:SN->Prop}{H:Hp}{H':Hp}{S:St}{E:En}(r:RE K B H S E)(k:∀b o,H b=oZ o->H' b=oZ o):RE K B H' S E:=
 r.step (λb o h _=>k b o h) rfl (λ_ _ h=>h) (λi l xs h=>⟨xs,h,λa ha=>by
  obtain⟨a',vs,h1,h2,h3,_⟩:=r.own i l xs h;rw[ha]at h1;cases h1;exact⟨vs,k _ _ h2,h3.step ⟨λb o e _=>k b o e,λb z=>.inl z⟩⟩⟩) (λa h=>let⟨vs,q⟩:=r.bd a h;⟨vs,k _ _ q⟩)
theorem RE.take{K:W.Frag}{B:SN->Prop}{H:Hp}{S:St}{E:En}(r:RE K B H S E)(n:Nat):RE K B H (S.take n) (E.take n):=by
 have gE:∀{i:Nat}{x:Option U},(E.take n)[i]?=oZ x->E[i]?=oZ x/\i<n:=λ{i x}h=>by
  by_cases c:i<n
  ·rw[NG c]at h;exact⟨h,c⟩
  ·rw[OA ⋯]at h;cases h
 have gS:∀{i:Nat}{x:Option V},i<n->S[i]?=oZ x->(S.take n)[i]?=oZ x:=λ{i x}c h=>by rw[NG c];exact h
 have bz:∀{i:Nat}{x:Option V},(S.take n)[i]?=oZ x->S[i]?=oZ x:=λ{i x}h=>by
  by_cases c:i<n
  ·rw[NG c]at h;exact h
  ·rw[OA ⋯]at h;cases h
 have ow:∀b,Ow B (S.take n) (E.take n) b->Ow B S E b:=λb z=>z.imp id λzZ=>by obtain⟨i,k,xs,h1,h2⟩:=zZ;exact⟨i,k,xs,(gE h1).1,bz h2⟩
 refine⟨by rw[MQ,MQ,r.len],λi t h=>?_,λi k xs h=>?_,λi j k l xs ys a h1 h2 h3 h4=>?_,r.bd⟩
 ·obtain⟨v,h1,h2⟩:=r.pure i t (gE h).1;exact⟨v,gS (gE h).2 h1,h2.step (Kp.less ow)⟩
 ·obtain⟨a,vs,h1,h2,h3,h4⟩:=r.own i k xs (gE h).1;exact⟨a,vs,gS (gE h).2 h1,h2,h3.step (Kp.less ow),h4⟩
 ·exact r.inj i j k l xs ys a (gE h1).1 (gE h2).1 (bz h3) (bz h4)
def RR(K:W.Frag)(B:SN->Prop)(H:Hp)(S:St)(E:En):R->V->Prop
 |.p t,v=>Rp K H (Ow B S E) t v
 |.s i,v=>S[i]?=oZ (oZ v)
def Nw(K:W.Frag)(B:SN->Prop)(H:Hp)(S:St)(E:En):List R->List V->Prop
 |[],vs=>vs=[]
 |r::rs,vs=>∃v ws,vs=v::ws/\RR K B H S E r v/\Nw K B H S E rs ws
structure Gr(B:SN->Prop)(H:Hp)(S:St)(E:En)(H':Hp)(S':St)(E':En):Prop where
 kp:Kp (Ow B S E) (Ow B S' E') H H'
 pre:∃τ,S'=S++τ
theorem Gr.refl{B:SN->Prop}:Gr B H S E H S E:=⟨Kp.refl _ _,[],by simp⟩
theorem Gr.trans{B:SN->Prop}(a:Gr B H S E H1 S1 E1)(b:Gr B H1 S1 E1 H2 S2 E2):Gr B H S E H2 S2 E2:=by
 obtain⟨t,e⟩:=a.pre;obtain⟨u,f⟩:=b.pre;exact⟨a.kp.trans b.kp,t++u,by rw[f,e,LW]⟩
theorem fD{S S':St}(h:∃τ,S'=S++τ){i:Nat}{x:Option V}(e:S[i]?=oZ x):S'[i]?=oZ x:=by
 obtain⟨t,rfl⟩:=h;rw[LZ (KZ.mp e).1];exact e
section
variable{K:W.Frag}{B:SN->Prop}{H H':Hp}{S S':St}{E E':En}{σ:St}
theorem RR.step(g:Gr B H S E H' S' E')(h:RR K B H S E r v):RR K B H' S' E' r v:=by
 cases r with
 |p t=>exact Rp.step g.kp h
 |s i=>exact fD g.pre h
theorem Nw.step(g:Gr B H S E H' S' E'):∀{rs:List R}{vs:List V},Nw K B H S E rs vs->Nw K B H' S' E' rs vs
 |[],_,h=>h
 |_::_,_,⟨v,ws,e,h1,h2⟩=>⟨v,ws,e,h1.step g,Nw.step g h2⟩
def Lk(K:W.Frag)(B:SN->Prop)(H:Hp)(S:St)(E:En)(Q':R->En->Prop)(Q:VK):Prop:=∀r E' v H' S',Q' r E'->Gr B H S E H' S' E'->RE K B H' S' E'->RR K B H' S' E' r v->Q v H'
def JX(K:W.Frag)(n:Nat)(B:SN->Prop)(H:Hp)(S:St)(E:En)(Q':List R->En->Prop)(Q:List V->Hp->Prop):Prop:=∀rs E' vs H' S',Q' rs E'->Gr B H S E H' S' E'->RE K B H' S' E'->Nw K B H' S' E' rs vs->vs.length=n->Q vs H'
theorem Lk.step{Q':R->En->Prop}(l:Lk K B H S E Q' Q)(g:Gr B H S E H' S' E'):Lk K B H' S' E' Q' Q:=λr E2 v H2 S2 q g2=>l r E2 v H2 S2 q (g.trans g2)
end
abbrev FE:=En->(R->En->Prop)->Prop
abbrev FA:=En->(List R->En->Prop)->Prop
abbrev FB:=En->(Bool->En->Prop)->Prop
def aH(K:W.Frag)(F:FE):TE:=λσ H Q=>∃B S E Q',(∃τ,S=σ++τ)/\RE K B H S E/\F E Q'/\Lk K B H S E Q' Q
def cK(K:W.Frag)(n:Nat)(F:FA):TA:=λσ H Q=>∃B S E Q',(∃τ,S=σ++τ)/\RE K B H S E/\F E Q'/\JX K n B H S E Q' Q
def eD(K:W.Frag)(F:FB):TT:=λσ H Q=>∃B S E Q',(∃τ,S=σ++τ)/\RE K B H S E/\F E Q'/\∀b E' H' S',Q' b E'->Gr B H S E H' S' E'->RE K B H' S' E'->Q b H'
theorem QE.le(h:QE X e t)(m:∀σ H Q,σ.length=X.N.length->t' σ H Q->t σ H Q):QE X e t':=⟨λpins s σ H Q I z=>h.h pins s σ H Q I (m σ H Q I.len z)⟩
theorem QA.le(h:QA X es t)(m:∀σ H Q,t' σ H Q->t σ H Q):QA X es t':=⟨λpos pins s σ H Q I z=>h.h pos pins s σ H Q I (m σ H Q z)⟩
theorem QT.le(h:QT X e t)(m:∀σ H Q,t' σ H Q->t σ H Q):QT X e t':=⟨λpins s σ H Q I z=>h.h pins s σ H Q I (m σ H Q z)⟩
theorem QW.le(h:QW X e t)(m:∀σ H Q,t' σ H Q->t σ H Q):QW X e t':=⟨λwh pins s σ H Q I z=>h.h wh pins s σ H Q I (m σ H Q z)⟩
def vl(E:En):R->Option T
 |.p t=>oZ t
 |.s i=>match E[i]? with
  |some (oZ (.o _ xs))=>oZ (.lst xs)
  |some (oZ (.p t))=>oZ t
  |_=>none
def Rt(K:W.Frag)(H:Hp)(O:SN->Prop):T->V->Prop
 |.tup xs,v=>∃a vs,v = .ref a/\Dh K H a vs/\cR K H O xs vs
 |.lst xs,v=>∃a vs,v = .ref a/\lA K H a vs/\cR K H O xs vs
 |t,v=>Rp K H O t v
theorem Rp.rt{K:W.Frag}{H:Hp}{O:SN->Prop}{t:T}{v:V}(h:Rp K H O t v):Rt K H O t v:=by
 cases t with
 |tup xs=>exact h.sqT
 |lst xs=>exact h.sqL
 |non=>exact h
 |bl _=>exact h
 |int _=>exact h
 |str _=>exact h
theorem RE.vl{K:W.Frag}{B:SN->Prop}{H:Hp}{S:St}{E:En}(re:RE K B H S E){r:R}{v:V}{t:T}(h:RR K B H S E r v)(e:vl E r=oZ t):Rt K H (Ow B S E) t v:=by
 cases r with
 |p u=>cases e;exact Rp.rt h
 |s i=>
  cases q:E[i]? with
  |none=>simp only[L2.vl,q]at e;cases e
  |some u=>
   cases u with
   |none=>simp only[L2.vl,q]at e;cases e
   |some u=>
    cases u with
    |p u=>
     simp only[L2.vl,q]at e;cases e;obtain⟨w,h1,h2⟩:=re.pure i _ q;have h':S[i]?=oZ (oZ v):=h;rw[h']at h1;cases h1;exact h2.rt
    |o k xs=>
     simp only[L2.vl,q]at e;cases e;obtain⟨a,vs,h1,h2,h3,_⟩:=re.own i k xs q;have h':S[i]?=oZ (oZ v):=h;rw[h']at h1;cases h1;exact⟨a,vs,rfl,lA.of h2,h3⟩
theorem RE.int{K:W.Frag}{B:SN->Prop}{H:Hp}{S:St}{E:En}(re:RE K B H S E){r:R}{v:V}{i:Int}(h:RR K B H S E r v)(e:L2.vl E r=oZ (.int i)):v = .int i:=re.vl h e
theorem RE.bl{K:W.Frag}{B:SN->Prop}{H:Hp}{S:St}{E:En}(re:RE K B H S E){r:R}{v:V}{b:Bool}(h:RR K B H S E r v)(e:L2.vl E r=oZ (.bl b)):v = .bl b:=re.vl h e
theorem RE.tup{K:W.Frag}{B:SN->Prop}{H:Hp}{S:St}{E:En}(re:RE K B H S E){p:SN}{ts:List T}{vs:List V}(hp:H p=none)(h:cR K H (Ow B S E) ts vs):
  Gr B H S E (upd H p (.tup vs)) S E/\RE K B (upd H p (.tup vs)) S E/\Rp K (upd H p (.tup vs)) (Ow B S E) (.tup ts) (.ref p):=by
 have k:Kp (Ow B S E) (Ow B S E) H (upd H p (.tup vs)):=Kp.upd hp;exact⟨⟨k,[],by simp⟩,re.kept λb o e=>by rw[bD (a8 e hp)];exact e,p,vs,rfl,.inl ⟨re.nn hp,dS⟩,h.step k⟩
theorem Eo{α:Type}{xs:List α}{x:α}{y:α}(h:(xs++[x])[i]?=oZ y):(i<xs.length/\xs[i]?=oZ y)\/(i=xs.length/\y=x):=by
 obtain c|c:=MN i xs.length
 ·rw[LZ c]at h;exact .inl ⟨c,h⟩
 ·rw[MI c]at h;have:i-xs.length=0:=by
   obtain z|z:=PH (i-xs.length)
   ·exact z
   ·rw[OT (by simp;lia)]at h;cases h
  rw[this]at h;simp at h;exact .inr ⟨⋯,h.symm⟩
theorem kS{α:Type}{xs:List α}{x:α}:(xs++[x])[xs.length]?=oZ x:=by simp
theorem RE.lst{K:W.Frag}{B:SN->Prop}{H:Hp}{S:St}{E:En}(re:RE K B H S E){p:SN}{ts:List T}{vs:List V}(hp:H p=none)(h:cR K H (Ow B S E) ts vs):
  Gr B H S E (upd H p (.lst vs)) (S++[oZ (.ref p)]) (E++[oZ (.o false ts)])/\RE K B (upd H p (.lst vs)) (S++[oZ (.ref p)]) (E++[oZ (.o false ts)]):=by
 have gE:∀{i:Nat}{u:U},(E++[oZ (.o false ts)])[i]?=oZ (oZ u)->(E[i]?=oZ (oZ u)/\i<E.length)\/(i=E.length/\u = .o false ts):=λ{i u}h=>by
  obtain⟨c,h⟩|⟨c,h⟩:=Eo h
  ·exact .inl ⟨h,c⟩
  ·exact .inr ⟨c,Option.some.inj h⟩
 have gS:∀{i:Nat}{x:Option V},S[i]?=oZ x->(S++[oZ (.ref p)])[i]?=oZ x:=λ{i x}h=>fD ⟨_,rfl⟩ h;have bz:∀{i:Nat}{x:Option V},i<E.length->(S++[oZ (.ref p)])[i]?=oZ x->S[i]?=oZ x:=λ{i x}c h=>by
  rw[LZ (by rw[re.len];exact c)]at h;exact h
 have lS:(S++[oZ (.ref p)])[E.length]?=oZ (oZ (.ref p)):=by rw[<-re.len];simp
 have ow:∀b,Ow B (S++[oZ (.ref p)]) (E++[oZ (.o false ts)]) b->Ow B S E b\/H b=none:=λb z=>by
  obtain z|⟨i,k,xs,h1,h2⟩:=z
  ·exact .inl (.inl z)
  obtain⟨h1,c⟩|⟨c,h1⟩:=gE h1
  ·exact .inl (.inr ⟨i,k,xs,h1,bz c h2⟩)
  ·subst c;rw[lS]at h2;cases h2;exact .inr hp
 have k:Kp (Ow B S E) (Ow B (S++[oZ (.ref p)]) (E++[oZ (.o false ts)])) H (upd H p (.lst vs)):=⟨λb o e _=>by rw[bD (a8 e hp)];exact e,ow⟩;refine⟨⟨k,_,rfl⟩,⟨by simp[re.len],λi t h=>?_,λi l xs h=>?_,λi j l m xs ys a h1 h2 h3 h4=>?_,λa h=>?_⟩⟩
 ·obtain⟨h,c⟩|⟨c,h⟩:=gE h
  ·obtain⟨v,h1,h2⟩:=re.pure i t h;exact⟨v,gS h1,h2.step k⟩
  ·cases h
 ·obtain⟨h,c⟩|⟨c,h⟩:=gE h
  ·obtain⟨a,ws,h1,h2,h3,h4⟩:=re.own i l xs h;exact⟨a,ws,gS h1,by rw[bD (a8 h2 hp)];exact h2,h3.step k,h4⟩
  ·cases h;subst c;refine⟨p,vs,lS,dS,?_,⟨λz=>absurd z ∅,λz=>absurd (.inl z) (re.nn hp)⟩⟩;exact cR.step k (by assumption)
 ·obtain⟨h1,c1⟩|⟨c1,h1⟩:=gE h1
  ·obtain⟨h2,c2⟩|⟨c2,h2⟩:=gE h2
   ·exact re.inj i j l m xs ys a h1 h2 (bz c1 h3) (bz c2 h4)
   ·subst c2;rw[lS]at h4;cases h4;exact absurd (.inr ⟨i,l,xs,h1,bz c1 h3⟩) (re.nn hp)
  ·obtain⟨h2,c2⟩|⟨c2,h2⟩:=gE h2
   ·subst c1;rw[lS]at h3;cases h3;exact absurd (.inr ⟨j,m,ys,h2,bz c2 h4⟩) (re.nn hp)
   ·rw[c1,c2]
 ·obtain⟨us,q⟩:=re.bd a h;exact⟨us,by rw[bD (a8 q hp)];exact q⟩
section
variable{X:Cx}{K:W.Frag}{pos:Pos}{a b c e:oC}{es rest:List oC}{Fa Fb Fc:FE}{Fr:FA}{Fp Fq:FB}
def Oz(i:Nat):FE:=λE Q=>match E[i]? with
 |some (oZ (.p t))=>Q (.p t) E
 |some (oZ (.o _ _))=>Q (.s i) E
 |_=>False
def fC(t:T):FE:=λE Q=>Q (.p t) E
theorem fv(i:Nat)(hN:X.N[i]?=oZ x:=by rfl)(hv:K0 X.env.scope x:=by first|exact MS rfl|exact NC (MS rfl)|exact NC (NC rfl))(hd:(x==("__debug__":Str))=false:=by decide)(bh:(x==("__classdict__":Str))=false:=by decide):QE X (.Name x pos) (aH K (Oz i)):=by
 refine(qv i hN hv hd bh).le λσ H Q hl zZ=>?_;obtain⟨B,S,E,Q',hS,re,hF,lk⟩:=zZ;have hi:i<σ.length:=by rw[hl];exact(KZ.mp hN).1
 obtain⟨τ,rfl⟩:=hS;have back:∀{v},(σ++τ)[i]?=oZ (oZ v)->σ[i]?=oZ (oZ v):=λh=>by rw[LZ hi]at h;exact h
 unfold Oz at hF;split at hF
 ·rename_i t q;obtain⟨v,h1,h2⟩:=re.pure i t q;exact⟨v,back h1,lk _ _ _ _ _ hF .refl re h2⟩
 ·rename_i k xs q;obtain⟨p,vs,h1,_⟩:=re.own i k xs q;exact⟨_,back h1,lk _ _ _ _ _ hF .refl re h1⟩
 ·exact hF.elim
theorem Zd(h:QE X e (tC v))(hv:∀K H O,Rp K H O t v):QE X e (aH K (fC t)):=h.le λσ H Q hl zZ=>by obtain⟨B,S,E,Q',hS,re,hF,lk⟩:=zZ;exact lk _ _ _ _ _ hF .refl re (hv _ _ _)
theorem aA{i j pos}:QE X (.Constant (.int i) j pos) (aH K (fC (.int i))):=Zd Z4 λ_ _ _=>rfl
theorem tN{b j pos}:QE X (.Constant (.bool b) j pos) (aH K (fC (.bl b))):=Zd DM λ_ _ _=>rfl
theorem Ap{j pos}:QE X (.Constant .none j pos) (aH K (fC .non)):=Zd Vi λ_ _ _=>rfl
theorem bA{x j pos}:QE X (.Constant (.str x) j pos) (aH K (fC (.str x))):=Zd Z7 λ_ _ _=>rfl
theorem two{G:R->R->En->(R->En->Prop)->Prop}(h:aH K (λE Q=>Fa E λx E1=>Fb E1 λy E2=>G x y E2 Q) σ H Q){P:V->V->Hp->Prop}(k:∀B S E x y v w H2 Q',(∃τ,S=σ++τ)->RE K B H2 S E->RR K B H2 S E x v->RR K B H2 S E y w->G x y E Q'->Lk K B H2 S E Q' Q->P v w H2):aH K Fa σ H λv H1=>aH K Fb σ H1 λw H2=>P v w H2:=by
 obtain⟨B,S,E,Q',⟨τ,hS⟩,re,hF,lk⟩:=h;refine⟨B,S,E,_,⟨τ,hS⟩,re,hF,λr E1 v H1 S1 q g VY rr=>?_⟩;obtain⟨τ1,YU⟩:=g.pre;refine⟨B,S1,E1,_,⟨τ++τ1,by rw[YU,hS,LW]⟩,VY,q,λr2 E2 w H2 S2 q2 g2 XG rh=>?_⟩;obtain⟨τ2,hS2⟩:=g2.pre;exact k B S2 E2 r r2 v w H2 Q' ⟨τ++τ1++τ2,by rw[hS2,YU,hS,LW,LW,LW]⟩ XG (rr.step g2) rh q2 (lk.step (g.trans g2))
theorem one{G:R->En->(R->En->Prop)->Prop}(h:aH K (λE Q=>Fa E λx E1=>G x E1 Q) σ H Q){P:V->Hp->Prop}(k:∀B S E x v H2 Q',(∃τ,S=σ++τ)->RE K B H2 S E->RR K B H2 S E x v->G x E Q'->Lk K B H2 S E Q' Q->P v H2):aH K Fa σ H λv H1=>P v H1:=by
 obtain⟨B,S,E,Q',⟨τ,hS⟩,re,hF,lk⟩:=h;refine⟨B,S,E,_,⟨τ,hS⟩,re,hF,λr E1 v H1 S1 q g VY rr=>?_⟩;obtain⟨τ1,YU⟩:=g.pre;exact k B S1 E1 r v H1 Q' ⟨τ++τ1,by rw[YU,hS,LW]⟩ VY rr q (lk.step g)
def i2(x y:Option T)(k:Int->Int->Prop):Prop:=match x,y with
 |some (.int i),oZ (.int j)=>k i j
 |_,_=>False
theorem i2.ex{k:Int->Int->Prop}(h:i2 x y k):∃i j,x=oZ (.int i)/\y=oZ (.int j)/\k i j:=by
 unfold i2 at h;split at h
 ·exact⟨_,_,rfl,rfl,h⟩
 ·exact h.elim
def fI(C:Int->Int->Prop)(g:Int->Int->Int)(Fa Fb:FE):FE:=λE Q=>Fa E λx E1=>Fb E1 λy E2=>i2 (vl E2 x) (vl E2 y) λi j=>C i j/\Q (.p (.int (g i j))) E2
def JZ(g:Int->Int->Int)(Fa Fb:FE):FE:=λE Q=>Fa E λx E1=>Fb E1 λy E2=>i2 (vl E2 x) (vl E2 y) λi j=>Q (.p (.int (g i j))) E2
def HP(g:Int->Int->Bool)(Fa Fb:FE):FE:=λE Q=>Fa E λx E1=>Fb E1 λy E2=>i2 (vl E2 x) (vl E2 y) λi j=>Q (.p (.bl (g i j))) E2
theorem aO{C:Int->Int->Prop}{g:Int->Int->Int}(ho:kR X (TR op) (rI C λi j=>.int (g i j)))(ha:QE X a (aH K Fa))(hb:QE X b (aH K Fb)):QE X (.BinOp a op b pos) (aH K (fI C g Fa Fb)):=by
 refine(wM ho ha hb).le λσ H Q hl h=>two h λB S E x y v w H2 Q' hS re rx ry q lk=>?_;obtain⟨i,j,e1,e2,c,q⟩:=q.ex;exact⟨i,j,re.int rx e1,re.int ry e2,c,lk _ _ _ _ _ q .refl re rfl⟩
theorem aU{g:Int->Int->Int}(ho:kR X (TR op) (Hq λi j=>.int (g i j)))(ha:QE X a (aH K Fa))(hb:QE X b (aH K Fb)):QE X (.BinOp a op b pos) (aH K (JZ g Fa Fb)):=by
 refine(wM ho ha hb).le λσ H Q hl h=>two h λB S E x y v w H2 Q' hS re rx ry q lk=>?_;obtain⟨i,j,e1,e2,q⟩:=q.ex;exact⟨i,j,re.int rx e1,re.int ry e2,lk _ _ _ _ _ q .refl re rfl⟩
theorem Eh{g:Int->Int->Bool}(ho:kR X (TL op) (Hq λi j=>.bl (g i j)))(ha:QE X a (aH K Fa))(hb:QE X b (aH K Fb))(hm:TH op b=false):QE X (.Compare a [op] [b] pos) (aH K (HP g Fa Fb)):=by
 refine(Bz ho ha hb hm).le λσ H Q hl h=>two h λB S E x y v w H2 Q' hS re rx ry q lk=>?_;obtain⟨i,j,e1,e2,q⟩:=q.ex;exact⟨i,j,re.int rx e1,re.int ry e2,lk _ _ _ _ _ q .refl re rfl⟩
def i1(x:Option T)(k:Int->Prop):Prop:=match x with
 |some (.int i)=>k i
 |_=>False
theorem i1.ex{k:Int->Prop}(h:i1 x k):∃i,x=oZ (.int i)/\k i:=by
 unfold i1 at h;split at h
 ·exact⟨_,rfl,h⟩
 ·exact h.elim
def b1(x:Option T)(k:Bool->Prop):Prop:=match x with
 |some (.bl i)=>k i
 |_=>False
theorem b1.ex{k:Bool->Prop}(h:b1 x k):∃i,x=oZ (.bl i)/\k i:=by
 unfold b1 at h;split at h
 ·exact⟨_,rfl,h⟩
 ·exact h.elim
def HW(Fa:FE):FE:=λE Q=>Fa E λx E1=>i1 (vl E1 x) λi=>Q (.p (.int (-i))) E1
theorem d7(ha:QE X a (aH K Fa)):QE X (.UnaryOp .USub a pos) (aH K (HW Fa)):=by
 refine(DQ AQ ha).le λσ H Q hl h=>one (Fa:=Fa) h λB S E x v H2 Q' hS re rx q lk=>?_;obtain⟨i,e1,q⟩:=q.ex;exact⟨i,re.int rx e1,lk _ _ _ _ _ q .refl re rfl⟩
theorem Xm{G:Bool->En->(Bool->En->Prop)->Prop}{Q:Bool->Hp->Prop}(h:eD K (λE Q=>Fp E λx E1=>G x E1 Q) σ H Q){P:Bool->Hp->Prop}(k:∀B S E x H2 Q',(∃τ,S=σ++τ)->RE K B H2 S E->G x E Q'->(∀b E' H' S',Q' b E'->Gr B H2 S E H' S' E'->RE K B H' S' E'->Q b H')->P x H2):eD K Fp σ H P:=by
 obtain⟨B,S,E,Q',⟨τ,hS⟩,re,hF,lk⟩:=h;refine⟨B,S,E,_,⟨τ,hS⟩,re,hF,λr E1 H1 S1 q g VY=>?_⟩;obtain⟨τ1,YU⟩:=g.pre;exact k B S1 E1 r H1 Q' ⟨τ++τ1,by rw[YU,hS,LW]⟩ VY q λb E2 H2 S2 q2 g2 XG=>lk b E2 H2 S2 q2 (g.trans g2) XG
def xU(Fa:FE):FB:=λE Q=>Fa E λx E1=>b1 (vl E1 x) λi=>Q i E1
def HH(Fp:FB):FB:=λE Q=>Fp E λx E1=>Q (!x) E1
def HF(Fp Fq:FB):FB:=λE Q=>Fp E λx E1=>if x=true then Fq E1 Q else Q false E1
def JY(Fp Fq:FB):FB:=λE Q=>Fp E λx E1=>if x=true then Q true E1 else Fq E1 Q
theorem Yq{Q:Bool->Hp->Prop}(h:eD K (xU Fa) σ H Q):aH K Fa σ H λv H1=>∃c,v = .bl c/\Q c H1:=by
 obtain⟨B,S,E,Q',⟨τ,hS⟩,re,hF,lk⟩:=h;refine⟨B,S,E,_,⟨τ,hS⟩,re,hF,λr E1 v H1 S1 q g VY rr=>?_⟩;obtain⟨i,e1,q⟩:=q.ex;exact⟨i,VY.bl rr e1,lk _ _ _ _ q g VY⟩
theorem fV(h:QE X e (aH K Fa))(he:∀whole,isTrue e X.env whole=(do let v <-whole;standAt e.pos;UJ [v] (truthy v)):=by intro _;rfl):QT X e (eD K (xU Fa)):=(AE h he).le λσ H Q z=>Yq z
theorem Aw(ha:QT X a (eD K Fp)):QT X (.UnaryOp .Not a pos) (eD K (HH Fp)):=(AD ha).le λσ H Q h=>Xm (Fp:=Fp) h λB S E x H2 Q' hS re q lk=>lk _ _ _ _ q .refl re
theorem Ax(ha:QT X a (eD K Fp)):QW X (.BoolOp .And [a] pos) (eD K Fp):=F3 ha
theorem lK(ha:QT X a (eD K Fp)):QW X (.BoolOp .Or [a] pos) (eD K Fp):=AG ha
theorem Im(ha:QT X a (eD K Fp))(hb:QW X (.BoolOp .And (b::rest) pos) (eD K Fq)):QW X (.BoolOp .And (a::b::rest) pos) (eD K (HF Fp Fq)):=by
 refine(AF ha hb).le λσ H Q h=>Xm (Fp:=Fp) h λB S E x H2 Q' hS re q lk=>?_;cases x
 ·exact lk _ _ _ _ q .refl re
 ·exact⟨B,S,E,Q',hS,re,q,lk⟩
theorem m9(ha:QT X a (eD K Fp))(hb:QW X (.BoolOp .Or (b::rest) pos) (eD K Fq)):QW X (.BoolOp .Or (a::b::rest) pos) (eD K (JY Fp Fq)):=by
 refine(DU ha hb).le λσ H Q h=>Xm (Fp:=Fp) h λB S E x H2 Q' hS re q lk=>?_;cases x
 ·exact⟨B,S,E,Q',hS,re,q,lk⟩
 ·exact lk _ _ _ _ q .refl re
theorem t7(h:QW X e (eD K Fp)):QT X e (eD K Fp):=IP h
def KC(Fa Fb:FE):FE:=λE Q=>Fa E λx E1=>b1 (vl E1 x) λi=>if i=true then Q (.p (.bl true)) E1 else Fb E1 Q
theorem CJ(ha:QE X a (aH K Fa))(hb:QE X (.BoolOp .Or (b::rest) pos) (aH K Fb)):QE X (.BoolOp .Or (a::b::rest) pos) (aH K (KC Fa Fb)):=by
 refine(DP ha hb).le λσ H Q hl h=>one (Fa:=Fa) h λB S E x v H2 Q' hS re rx q lk=>?_;obtain⟨i,e1,q⟩:=q.ex;refine⟨i,re.bl rx e1,?_⟩;cases i
 ·exact⟨B,S,E,Q',hS,re,q,lk⟩
 ·exact lk _ _ _ _ _ q .refl re rfl
theorem S7{op}(h:QE X a (aH K Fa)):QE X (.BoolOp op [a] pos) (aH K Fa):=Z6 h
def KA(Fp:FB)(Fa Fb:FE):FE:=λE Q=>Fp E λx E1=>if x=true then Fa E1 Q else Fb E1 Q
theorem pM(hc:QT X c (eD K Fp))(ha:QE X a (aH K Fa))(hb:QE X b (aH K Fb)):QE X (.IfExp c a b pos) (aH K (KA Fp Fa Fb)):=by
 refine(Vh hc ha hb).le λσ H Q hl zZ=>?_;obtain⟨B,S,E,Q',⟨τ,hS⟩,re,hF,lk⟩:=zZ;refine⟨B,S,E,_,⟨τ,hS⟩,re,hF,λr E1 H1 S1 q g VY=>?_⟩;obtain⟨τ1,YU⟩:=g.pre;have hp:∃t,S1=σ++t:=⟨τ++τ1,by rw[YU,hS,LW]⟩;cases r
 ·exact⟨B,S1,E1,Q',hp,VY,q,lk.step g⟩
 ·exact⟨B,S1,E1,Q',hp,VY,q,lk.step g⟩
def Hv:FA:=λE Q=>Q [] E
def i7(Fa:FE)(Fr:FA):FA:=λE Q=>Fa E λr E1=>Fr E1 λrs E2=>Q (r::rs) E2
theorem bQ:QA X [] (cK K 0 Hv):=Z3.le λσ H Q zZ=>by obtain⟨B,S,E,Q',hS,re,hF,lk⟩:=zZ;exact lk _ _ _ _ _ hF .refl re rfl rfl
theorem fc{n:Nat}(ha:QE X e (aH K Fa))(hr:QA X es (cK K n Fr))(hs:a7 e=false:=by rfl):QA X (e::es) (cK K (n+1) (i7 Fa Fr)):=by
 refine(qc ha hr hs).le λσ H Q zZ=>?_;obtain⟨B,S,E,Q',⟨τ,hS⟩,re,hF,lk⟩:=zZ;refine⟨B,S,E,_,⟨τ,hS⟩,re,hF,λr E1 v H1 S1 q g VY rr=>?_⟩;obtain⟨τ1,YU⟩:=g.pre;exact⟨B,S1,E1,_,⟨τ++τ1,by rw[YU,hS,LW]⟩,VY,q,λrs E2 vs H2 S2 q2 g2 XG rh hn=>lk _ _ _ _ _ q2 (g.trans g2) XG ⟨v,vs,rfl,rr.step g2,rh⟩ (by rw[LO,hn])⟩
theorem args{G:List R->En->(R->En->Prop)->Prop}(h:aH K (λE Q=>Fr E λrs E1=>G rs E1 Q) σ H Q){P:List V->Hp->Prop}(k:∀B S E rs vs H2 Q',(∃τ,S=σ++τ)->RE K B H2 S E->Nw K B H2 S E rs vs->vs.length=n->G rs E Q'->Lk K B H2 S E Q' Q->P vs H2):cK K n Fr σ H P:=by
 obtain⟨B,S,E,Q',⟨τ,hS⟩,re,hF,lk⟩:=h;refine⟨B,S,E,_,⟨τ,hS⟩,re,hF,λr E1 v H1 S1 q g VY rr hn=>?_⟩;obtain⟨τ1,YU⟩:=g.pre;exact k B S1 E1 r v H1 Q' ⟨τ++τ1,by rw[YU,hS,LW]⟩ VY rr hn q (lk.step g)
def wJ:List R->Option (List T)
 |[]=>oZ []
 |.p t::rs=>(wJ rs).map (t::·)
 |_=>none
theorem wK{B:SN->Prop}:∀{rs:List R}{vs:List V}{ts:List T},Nw K B H S E rs vs->wJ rs=oZ ts->cR K H (Ow B S E) ts vs
 |[],_,_,h,e=>by cases e;exact h
 |.p t::rs,_,ts,⟨v,ws,e1,h1,h2⟩,e=>by
  cases q:wJ rs with
  |none=>rw[wJ,q]at e;cases e
  |some us=>
   rw[wJ,q]at e;cases e;exact⟨v,ws,e1,h1,wK h2 q⟩
 |.s _::_,_,_,_,e=>by cases e
def o1{α:Type}(x:Option α)(k:α->Prop):Prop:=match x with
 |some y=>k y
 |none=>False
theorem o1.ex{α:Type}{x:Option α}{k:α->Prop}(h:o1 x k):∃y,x=oZ y/\k y:=by
 cases x with
 |none=>exact h.elim
 |some y=>exact⟨y,rfl,h⟩
def CG(Fr:FA):FE:=λE Q=>Fr E λrs E1=>o1 (wJ rs) λts=>Q (.p (.tup ts)) E1
def HS(Fr:FA):FE:=λE Q=>Fr E λrs E1=>o1 (wJ rs) λts=>Q (.s E1.length) (E1++[oZ (.o false ts)])
theorem aN{x1}(h:QA X es (cK K n Fr))(hz:n<=9000:=by decide):QE X (.Tuple es x1 pos) (aH K (CG Fr)):=by
 refine(Vk h).le λσ H Q hl h=>args (Fr:=Fr) h λB S E rs vs H2 Q' hS re rr hn q lk=>⟨by rw[hn];exact MW (cB hz),λp hp=>?_⟩;obtain⟨ts,e,q⟩:=q.ex;obtain⟨g,VV,rp⟩:=re.tup hp (wK rr e);exact lk _ _ _ _ _ q g VV rp
theorem c8(h:QA X es (cK K n Fr))(hz:n<=9000:=by decide):QE X (.List es pos) (aH K (HS Fr)):=by
 refine(Z5 h).le λσ H Q hl h=>args (Fr:=Fr) h λB S E rs vs H2 Q' hS re rr hn q lk=>⟨by rw[hn];exact MW (cB hz),λp hp=>?_⟩;obtain⟨ts,e,q⟩:=q.ex;obtain⟨g,VV⟩:=re.lst hp (wK rr e);exact lk _ _ _ _ _ q g VV (by rw[<-re.len];exact kS)
def EG:T->Option (List T)
 |.tup xs=>oZ xs
 |.lst xs=>oZ xs
 |_=>none
def JJ(x y:Option T)(k:T->Prop):Prop:=match x,y with
 |some (.tup xs),oZ (.int i)=>o1 (eV xs i) k
 |some (.lst xs),oZ (.int i)=>o1 (eV xs i) k
 |_,_=>False
theorem Rn{O:SN->Prop}{i:Int}(h:cR K H O xs vs)(e:eV xs i=oZ t):∃v,eV vs i=oZ v/\Rp K H O t v:=by
 unfold eV at e⊢;rw[h.length];cases q:Hn xs.length i with
 |none=>rw[q]at e;cases e
 |some j=>rw[q]at e;exact h.get e
def HR(Fa Fb:FE):FE:=λE Q=>Fa E λx E1=>Fb E1 λy E2=>JJ (vl E2 x) (vl E2 y) λt=>Q (.p t) E2
theorem K5(eK:X.K=K)(ha:QE X a (aH K Fa))(hb:QE X b (aH K Fb))(hs:uJ b):QE X (.Subscript a b pos) (aH K (HR Fa Fb)):=by
 subst eK;refine(DO U3 ha hb hs).le λσ H Q hl h=>two (Fa:=Fa) (Fb:=Fb) h λB S E x y v w H2 Q' hS re rx ry q lk=>?_;unfold JJ at q;split at q
 ·rename_i xs i e1 e2;obtain⟨t,e3,q⟩:=q.ex;obtain⟨p,vs,rfl,sq,rs⟩:=re.vl rx e1;obtain⟨u,h1,h2⟩:=Rn rs e3;exact .inr (.inl ⟨p,vs,i,u,rfl,re.int ry e2,sq,h1,lk _ _ _ _ _ q .refl re h2⟩)
 ·rename_i xs i e1 e2;obtain⟨t,e3,q⟩:=q.ex;obtain⟨p,vs,rfl,sq,rs⟩:=re.vl rx e1;obtain⟨u,h1,h2⟩:=Rn rs e3;exact .inl ⟨p,vs,i,u,rfl,re.int ry e2,sq,h1,lk _ _ _ _ _ q .refl re h2⟩
 ·exact q.elim
def Sk(Fr:FA):FE:=λE Q=>Fr E λrs E1=>match rs with
 |[x]=>o1 ((vl E1 x).bind EG) λxs=>Q (.p (.int xs.length)) E1
 |_=>False
theorem dJ(eK:X.K=K)(hg:Gl X "len")(hm:X.mg "len" = none)(ha:QA X (e::es) (cK K n Fr))(hs:bN (e::es)=true:=by rfl):QE X (.Call (.Name "len" p) (e::es) [] pos) (aH K (Sk Fr)):=by
 subst eK;refine(g9 Ae hg hm PySem.boot_len ha ∅ ∅ hs).le λσ H Q hl h=>args (Fr:=Fr) h λB S E rs vs H2 Q' hS re rr hn q lk=>?_
 match rs,rr,q with
 |[x],⟨v,ws,e1,h1,h2⟩,q=>
  cases h2;subst e1;obtain⟨xs,e2,q⟩:=o1.ex q;obtain⟨t,e3,e2⟩:=RY.mp e2;have rt:=re.vl h1 e3;cases t with
  |tup ys=>
   cases e2;obtain⟨p,us,rfl,sq,rs⟩:=rt;exact⟨p,us,rfl,.inr sq,by rw[rs.length];exact lk _ _ _ _ _ q .refl re rfl⟩
  |lst ys=>
   cases e2;obtain⟨p,us,rfl,sq,rs⟩:=rt;exact⟨p,us,rfl,.inl sq,by rw[rs.length];exact lk _ _ _ _ _ q .refl re rfl⟩
  |_=>cases e2
 |[],_,q=>exact q.elim
 |_::_::_,_,q=>exact q.elim
def HL(Fr:FA):FE:=λE Q=>Fr E λrs E1=>match rs with
 |[x]=>i1 (vl E1 x) λi=>Q (.p (.int (i.natAbs:Int))) E1
 |_=>False
theorem sE(hg:Gl X "abs")(hm:X.mg "abs" = none)(ha:QA X (e::es) (cK K n Fr))(hs:bN (e::es)=true:=by rfl):QE X (.Call (.Name "abs" p) (e::es) [] pos) (aH K (HL Fr)):=by
 refine(g9 Od hg hm boot_abs ha ∅ ∅ hs).le λσ H Q hl h=>args (Fr:=Fr) h λB S E rs vs H2 Q' hS re rr hn q lk=>?_
 match rs,rr,q with
 |[x],⟨v,ws,e1,h1,h2⟩,q=>
  cases h2;subst e1;obtain⟨i,e2,q⟩:=i1.ex q;exact⟨i,by rw[re.int h1 e2],lk _ _ _ _ _ q .refl re rfl⟩
 |[],_,q=>exact q.elim
 |_::_::_,_,q=>exact q.elim
def CB(Fr:FA):FE:=λE Q=>Fr E λrs E1=>match rs with
 |[x]=>b1 (vl E1 x) λi=>Q (.p (.int (if i then 1 else 0))) E1
 |_=>False
theorem Ao(hg:Gl X "int")(hm:X.mg "int" = none)(ha:QA X (e::es) (cK K n Fr))(hs:bN (e::es)=true:=by rfl):QE X (.Call (.Name "int" p) (e::es) [] pos) (aH K (CB Fr)):=by
 refine(qC Of hg hm (by decide +kernel) ha ∅ ∅ hs).le λσ H Q hl h=>args (Fr:=Fr) h λB S E rs vs H2 Q' hS re rr hn q lk=>?_
 match rs,rr,q with
 |[x],⟨v,ws,e1,h1,h2⟩,q=>
  cases h2;subst e1;obtain⟨i,e2,q⟩:=b1.ex q;exact⟨i,by rw[re.bl h1 e2],lk _ _ _ _ _ q .refl re rfl⟩
 |[],_,q=>exact q.elim
 |_::_::_,_,q=>exact q.elim
def Yz(Fr:FA):FE:=λE Q=>Fr E λrs E1=>match rs with
 |[x,y]=>i2 (vl E1 x) (vl E1 y) λi j=>(0<j/\j<2^200)/\Q (.p (.tup [.int (i/j),.int (i%j)])) E1
 |_=>False
theorem Pb(hg:Gl X "divmod")(hm:X.mg "divmod" = none)(ha:QA X (e::es) (cK K n Fr))(hs:bN (e::es)=true:=by rfl):QE X (.Call (.Name "divmod" p) (e::es) [] pos) (aH K (Yz Fr)):=by
 refine(g9 Ad hg hm boot_divmod ha ∅ ∅ hs).le λσ H Q hl h=>args (Fr:=Fr) h λB S E rs vs H2 Q' hS re rr hn q lk=>?_
 match rs,rr,q with
 |[x,y],⟨v,ws,e1,h1,w,ij,e2,h2,h3⟩,q=>
  cases h3;subst e2;subst e1;obtain⟨i,j,e3,e4,⟨c1,c2⟩,q⟩:=i2.ex q;refine⟨i,j,by rw[re.int h1 e3,re.int h2 e4],c1,c2,λp hp=>?_⟩;obtain⟨g,VV,rp⟩:=re.tup (ts:=[.int (i/j),.int (i%j)]) (vs:=[.int (i/j),.int (i%j)]) hp ⟨_,_,rfl,rfl,_,_,rfl,rfl,rfl⟩;exact lk _ _ _ _ _ q g VV rp
 |[],_,q=>exact q.elim
 |[_],_,q=>exact q.elim
 |_::_::_::_,_,q=>exact q.elim
end
structure ET where
 nx:En->Prop
 rt:R->En->Prop
 bk:En->Prop:=λ_=>False
 ct:En->Prop:=λ_=>False
abbrev FS:=ET->En->Prop
abbrev Gs(B:SN->Prop)(H:Hp)(S:St)(E:En)(H':Hp)(S':St)(E':En):Prop:=Kp (Ow B S E) (Ow B S' E') H H'
structure LS(K:W.Frag)(B:SN->Prop)(H:Hp)(σ:St)(E:En)(DT:ET)(D:cU):Prop where
 nx:∀σ' H' E',DT.nx E'->Gs B H σ E H' σ' E'->RE K B H' σ' E'->D.nx σ' H'
 rt:∀r E' v H' S',DT.rt r E'->Gs B H σ E H' S' E'->RE K B H' S' E'->RR K B H' S' E' r v->D.rt v H'
 bk:∀σ' H' E',DT.bk E'->Gs B H σ E H' σ' E'->RE K B H' σ' E'->D.bk σ' H'
 ct:∀σ' H' E',DT.ct E'->Gs B H σ E H' σ' E'->RE K B H' σ' E'->D.ct σ' H'
theorem LS.step{K:W.Frag}{B:SN->Prop}{H H':Hp}{σ σ':St}{E E':En}{DT:ET}{D:cU}(l:LS K B H σ E DT D)(g:Gs B H σ E H' σ' E'):LS K B H' σ' E' DT D:=
 ⟨λa b c d e=>l.nx a b c d (g.trans e),λa b c d e f h=>l.rt a b c d e f (g.trans h),λa b c d e=>l.bk a b c d (g.trans e),λa b c d e=>l.ct a b c d (g.trans e)⟩
def gP(K:W.Frag)(F:FS):TS:=λD σ H=>∃B E DT,RE K B H σ E/\F DT E/\LS K B H σ E DT D
theorem QS.le{X:Cx}{st:SV}{t t':TS}(h:QS X st t)(m:∀D σ H,σ.length=X.N.length->t' D σ H->t D σ H):QS X st t':=⟨λpins s σ H D I z=>h.h pins s σ H D I (m D σ H I.len z)⟩
theorem QB.le(h:QB X gw t)(m:∀D σ H,t' D σ H->t D σ H):QB X gw t':=⟨λpins s σ H D I z=>h.h pins s σ H D I (m D σ H z)⟩
theorem QG.le(h:QG X e t)(m:∀v σ H Q,σ.length=X.N.length->t' v σ H Q->t v σ H Q):QG X e t':=⟨λpins s σ H v u Q I r z=>h.h pins s σ H v u Q I r (m v σ H Q I.len z)⟩
theorem Rf.le(h:Rf X es t)(m:∀v σ H Q,t' v σ H Q->t v σ H Q):Rf X es t':=⟨λpins s σ H v u Q I r z=>h.h pins s σ H v u Q I r (m v σ H Q z)⟩
theorem QI.le(h:QI X tg e t)(m:∀σ H Q,σ.length=X.N.length->t' σ H Q->t σ H Q):QI X tg e t':=⟨λpins s σ H R I z=>h.h pins s σ H R I (m σ H R I.len z)⟩
theorem RE.map{K:W.Frag}{B:SN->Prop}{H:Hp}{S:St}{S':St}{E:En}{E':En}(re:RE K B H S E)(hl:S'.length=E'.length)(hp:∀(i:Nat)(t:T),E'[i]?=oZ (oZ (.p t))->∃v,S'[i]?=oZ (oZ v)/\Rp K H (Ow B S E) t v)(f:Nat->Nat)(ho:∀(i:Nat)(k:Bool)(xs:List T),E'[i]?=oZ (oZ (.o k xs))->E[f i]?=oZ (oZ (.o k xs))/\∃a,S[f i]?=oZ (oZ (.ref a))/\S'[i]?=oZ (oZ (.ref a)))(hf:∀(i j:Nat)(k l:Bool)(xs ys:List T),E'[i]?=oZ (oZ (.o k xs))->E'[j]?=oZ (oZ (.o l ys))->f i=f j->i=j):RE K B H S' E'/\∀b,Ow B S' E' b->Ow B S E b:=by
 have ow:∀b,Ow B S' E' b->Ow B S E b:=λb z=>by
  obtain z|⟨i,k,xs,h1,h2⟩:=z
  ·exact .inl z
  obtain⟨h3,a,h4,h5⟩:=ho i k xs h1;rw[h2]at h5;cases h5;exact .inr ⟨f i,k,xs,h3,h4⟩
 refine⟨⟨hl,λi t h=>?_,λi k xs h=>?_,λi j k l xs ys a h1 h2 h3 h4=>?_,re.bd⟩,ow⟩
 ·obtain⟨v,h1,h2⟩:=hp i t h;exact⟨v,h1,h2.step (Kp.less ow)⟩
 ·obtain⟨h3,a,h4,h5⟩:=ho i k xs h;obtain⟨a',vs,q1,q2,q3,q4⟩:=re.own _ k xs h3;rw[h4]at q1;cases q1;exact⟨a,vs,h5,q2,q3.step (Kp.less ow),q4⟩
 ·obtain⟨p1,a1,p2,p3⟩:=ho i k xs h1;obtain⟨r1,a2,r2,r3⟩:=ho j l ys h2;rw[h3]at p3;cases p3;rw[h4]at r3;cases r3;exact hf i j k l xs ys h1 h2 (re.inj _ _ k l xs ys _ p1 r1 p2 r2)
theorem RE.cut{K:W.Frag}{B:SN->Prop}{H':Hp}{S':St}{E:En}{E':En}{σ:St}(re:RE K B H' S' E')(hS:∃τ,S'=σ++τ)(hl:σ.length=E.length):RE K B H' σ (E'.take E.length)/\∀b,Ow B σ (E'.take E.length) b->Ow B S' E' b:=by
 obtain⟨τ,rfl⟩:=hS;have e:(σ++τ).take E.length=σ:=by rw[<-hl];simp
 have:=re.take E.length;rw[e]at this;refine⟨this,λb z=>?_⟩;obtain z|⟨i,k,xs,h1,h2⟩:=z
 ·exact .inl z
 have hi:i<E.length:=by
  obtain c|c:=MN i E.length
  ·exact c
  ·rw[OA ⋯]at h1;cases h1
 exact .inr ⟨i,k,xs,by rw[NG hi]at h1;exact h1,fD ⟨τ,rfl⟩ h2⟩
theorem RE.setP{K:W.Frag}{B:SN->Prop}{H:Hp}{S:St}{E:En}(re:RE K B H S E){i:Nat}{t:T}{v:V}(h:Rp K H (Ow B S E) t v):RE K B H (S.set i (oZ v)) (E.set i (oZ (.p t)))/\∀b,Ow B (S.set i (oZ v)) (E.set i (oZ (.p t))) b->Ow B S E b:=by
 refine re.map (by simp[re.len]) (λj u hj=>?_) id (λj k xs hj=>?_) (λ_ _ _ _ _ _ _ _ h=>h)
 ·rw[PX]at hj
  by_cases c:i=j
  ·subst c;rw[oV rfl]at hj;split at hj
   ·cases hj;rename_i hi;exact⟨v,by rw[ME (by rw[re.len];exact hi)],h⟩
   ·cases hj
  ·rw[oW c]at hj;obtain⟨w,h1,h2⟩:=re.pure j u hj;exact⟨w,by rw[LX c];exact h1,h2⟩
 ·rw[PX]at hj
  by_cases c:i=j
  ·subst c;rw[oV rfl]at hj;split at hj<;>cases hj
  ·rw[oW c]at hj;obtain⟨a,vs,h1,_⟩:=re.own j k xs hj;exact⟨hj,a,h1,by rw[LX c];exact h1⟩
theorem RE.setO{K:W.Frag}{B:SN->Prop}{H:Hp}{S:St}{E:En}{σ:St}(re:RE K B H S E)(hS:∃τ,S=σ++τ){i j:Nat}{k:Bool}{xs:List T}(hj:σ.length<=j)(hE:E[j]?=oZ (oZ (.o k xs))){v:V}(hv:S[j]?=oZ (oZ v)):
  RE K B H (σ.set i (oZ v)) ((E.take σ.length).set i (oZ (.o k xs)))/\∀b,Ow B (σ.set i (oZ v)) ((E.take σ.length).set i (oZ (.o k xs))) b->Ow B S E b:=by
 obtain⟨τ,rfl⟩:=hS;have hle:σ.length<=E.length:=by rw[<-re.len];simp
 have gt:∀{m:Nat}{x:Option U},(E.take σ.length)[m]?=oZ x->E[m]?=oZ x/\m<σ.length:=λ{m x}h=>by
  by_cases c:m<σ.length
  ·rw[NG c]at h;exact⟨h,c⟩
  ·rw[OA ⋯]at h;cases h
 refine re.map (by simp;lia) (λm u hm=>?_) (λm=>if m=i then j else m) (λm l ys hm=>?_) (λm n l l' ys zs h1 h2 h=>?_)
 ·rw[PX]at hm
  by_cases c:i=m
  ·subst c;rw[oV rfl]at hm;split at hm<;>cases hm
  ·rw[oW c]at hm;obtain⟨hm,lt⟩:=gt hm;obtain⟨w,h1,h2⟩:=re.pure m u hm;rw[LZ lt]at h1;exact⟨w,by rw[LX c];exact h1,h2⟩
 ·rw[PX]at hm
  by_cases c:i=m
  ·subst c;rw[oV rfl]at hm;split at hm
   ·cases hm;rename_i hi;obtain⟨a,vs,h1,_⟩:=re.own j k xs hE;rw[hv]at h1;cases h1;rw[oV rfl];refine⟨hE,a,hv,?_⟩;rw[ME (by rw[MQ]at hi;lia)]
   ·cases hm
  ·rw[oW c]at hm;obtain⟨hm,lt⟩:=gt hm;obtain⟨a,vs,h1,_⟩:=re.own m l ys hm;rw[oW (λz=>c z.symm)];refine⟨hm,a,h1,?_⟩;rw[LZ lt]at h1;rw[LX c];exact h1
 ·have lt:∀{m:Nat}{l:Bool}{ys:List T},((E.take σ.length).set i (oZ (.o k xs)))[m]?=oZ (oZ (.o l ys))->m≠i->m<σ.length:=λ{m l ys}h1 c=>by
   rw[LX (λz=>c z.symm)]at h1;exact(gt h1).2
  by_cases c1:m=i
  ·by_cases c2:n=i
   ·rw[c1,c2]
   ·simp only[oV c1,oW c2]at h;have:=lt h2 c2
    lia
  ·by_cases c2:n=i
   ·simp only[oW c1,oV c2]at h;have:=lt h1 c1
    lia
   ·simp only[oW c1,oW c2]at h;exact h
theorem RE.frz{K:W.Frag}{B:SN->Prop}{H:Hp}{S:St}{E:En}(re:RE K B H S E){i:Nat}{xs:List T}(h:E[i]?=oZ (oZ (.o false xs))):RE K B H S (E.set i (oZ (.p (.lst xs))))/\∀b,Ow B S (E.set i (oZ (.p (.lst xs)))) b->Ow B S E b/\S[i]?≠oZ (oZ (.ref b)):=by
 have hi:i<E.length:=(KZ.mp h).1;obtain⟨a,vs,h1,h2,h3,h4⟩:=re.own i false xs h;have get:∀{j:Nat}{u:U},(E.set i (oZ (.p (.lst xs))))[j]?=oZ (oZ u)->(j=i/\u = .p (.lst xs))\/(j≠i/\E[j]?=oZ (oZ u)):=λ{j u}hj=>by
  by_cases c:j=i
  ·subst c;rw[ME hi]at hj;cases hj;exact .inl ⟨rfl,rfl⟩
  ·rw[LX (λz=>c z.symm)]at hj;exact .inr ⟨c,hj⟩
 have ow:∀b,Ow B S (E.set i (oZ (.p (.lst xs)))) b->Ow B S E b/\S[i]?≠oZ (oZ (.ref b)):=λb z=>by
  obtain z|⟨j,k,ys,q1,q2⟩:=z
  ·refine⟨.inl z,λw=>?_⟩;rw[h1]at w;cases w;exact absurd (h4.mpr z) ∅
  obtain⟨_,z⟩|⟨c,q1⟩:=get q1
  ·cases z
  ·exact⟨.inr ⟨j,k,ys,q1,q2⟩,λz=>c (re.inj j i k false ys xs b q1 h q2 z)⟩
 have kl:Kp (Ow B S E) (Ow B S (E.set i (oZ (.p (.lst xs))))) H H:=Kp.less λb z=>(ow b z).1;refine⟨⟨by simp[re.len],λj t hj=>?_,λj k ys hj=>?_,λj m k l ys zs b q1 q2 q3 q4=>?_,re.bd⟩,ow⟩
 ·obtain⟨c,z⟩|⟨c,hj⟩:=get hj
  ·cases z;subst c;exact⟨_,h1,a,vs,rfl,.inl ⟨λz=>(ow a z).2 h1,.inl h2⟩,h3.step kl⟩
  ·obtain⟨w,q1,q2⟩:=re.pure j t hj;exact⟨w,q1,q2.step kl⟩
 ·obtain⟨_,z⟩|⟨c,hj⟩:=get hj
  ·cases z
  ·obtain⟨b,ws,q1,q2,q3,q4⟩:=re.own j k ys hj;exact⟨b,ws,q1,q2,q3.step kl,q4⟩
 ·obtain⟨_,z⟩|⟨_,q1⟩:=get q1
  ·cases z
  obtain⟨_,z⟩|⟨_,q2⟩:=get q2
  ·cases z
  exact re.inj j m k l ys zs b q1 q2 q3 q4
theorem RE.put{K:W.Frag}{B:SN->Prop}{H:Hp}{S:St}{E:En}(re:RE K B H S E){i:Nat}{k:Bool}{xs ys:List T}{a:SN}{ws:List V}(h:E[i]?=oZ (oZ (.o k xs)))(hS:S[i]?=oZ (oZ (.ref a)))(hw:cR K H (Ow B S E) ys ws):
  Gr B H S E (upd H a (.lst ws)) S (E.set i (oZ (.o k ys)))/\RE K B (upd H a (.lst ws)) S (E.set i (oZ (.o k ys))):=by
 have hi:i<E.length:=(KZ.mp h).1;have get:∀{j:Nat}{u:U},(E.set i (oZ (.o k ys)))[j]?=oZ (oZ u)->(j=i/\u = .o k ys)\/(j≠i/\E[j]?=oZ (oZ u)):=λ{j u}hj=>by
  by_cases c:j=i
  ·subst c;rw[ME hi]at hj;cases hj;exact .inl ⟨rfl,rfl⟩
  ·rw[LX (λz=>c z.symm)]at hj;exact .inr ⟨c,hj⟩
 have ow:∀b,Ow B S (E.set i (oZ (.o k ys))) b->Ow B S E b:=λb z=>by
  obtain z|⟨j,l,zs,q1,q2⟩:=z
  ·exact .inl z
  obtain⟨c,z⟩|⟨c,q1⟩:=get q1
  ·subst c;exact .inr ⟨j,k,xs,h,q2⟩
  ·exact .inr ⟨j,l,zs,q1,q2⟩
 have oa:Ow B S E a:=.inr ⟨i,k,xs,h,hS⟩;have kk:∀b o,H b=oZ o->¬Ow B S E b->(upd H a (.lst ws)) b=oZ o:=λb o e n=>by rw[bD (λz=>n (by rw[z];exact oa))];exact e
 have kp:Kp (Ow B S E) (Ow B S E) H (upd H a (.lst ws)):=⟨kk,λb z=>.inl z⟩;refine⟨⟨⟨kk,λb z=>.inl (ow b z)⟩,[],by simp⟩,re.step kk (by simp) (λj t hj=>?_) (λj l zs hj=>?_) (λb hb=>?_)⟩
 ·obtain⟨_,z⟩|⟨_,hj⟩:=get hj
  ·cases z
  ·exact hj
 ·obtain⟨c,z⟩|⟨c,hj⟩:=get hj
  ·cases z;subst c;refine⟨xs,h,λb hb=>?_⟩;rw[hS]at hb;cases hb;exact⟨ws,dS,hw.step kp⟩
  ·refine⟨zs,hj,λb hb=>?_⟩;obtain⟨b',us,q1,q2,q3,_⟩:=re.own j l zs hj;rw[hb]at q1;cases q1;have nb:b≠a:=λz=>c (re.inj j i l k zs xs a hj h (by rw[<-z];exact hb) hS);exact⟨us,by rw[bD nb];exact q2,q3.step kp⟩
 ·by_cases c:b=a
  ·subst c;exact⟨ws,dS⟩
  ·rw[bD c];exact re.bd b hb
section
variable{X:Cx}{K:W.Frag}{pos:Pos}{a b c e o i:oC}{es rest:List oC}{Fa Fb Fc Fe Fo Fi:FE}{Fr:FA}{Fp Fq:FB}{F G:FS}{st:SV}{gw body qi zp:List SV}
def Ho:En->(En->Prop)->Prop
 |[],k=>k []
 |x::r,k=>Ho r λr'=>k (x::r')
theorem jS:∀{E:En}{k:En->Prop},Ho E k->k E
 |[],_,h=>h
 |x::r,k,h=>jS (E:=r) (k:=λr'=>k (x::r')) h
def M4:FS:=λD E=>D.nx E
def EF(F G:FS):FS:=λD E=>F { D with nx:=λE'=>Ho E' (G D) } E
theorem bH:QB X [] (gP K M4):=Vg.le λD σ H zZ=>by obtain⟨B,E,DT,re,hF,l⟩:=zZ;exact l.nx _ _ _ hF (Kp.refl _ _) re
theorem aB(h1:QS X st (gP K F))(h2:QB X gw (gP K G)):QB X (st::gw) (gP K (EF F G)):=
 (By h1 h2).le λD σ H zZ=>by obtain⟨B,E,DT,re,hF,l⟩:=zZ;exact⟨B,E,_,re,hF,⟨λσ' H' E' hG g VV=>⟨B,E',DT,VV,jS hG,l.step g⟩,l.rt,l.bk,l.ct⟩⟩
theorem aE(h1:QS X st (gP K F)):QB X [st] (gP K F):=Jq h1
def EE(Fa:FE):FS:=λD E=>Fa E D.rt
theorem aG(h:QE X e (aH K Fa)):QS X (.Return (oZ e) pos) (gP K (EE Fa)):=
 (Jr h).le λD σ H hl zZ=>by obtain⟨B,E,DT,re,hF,l⟩:=zZ;exact⟨B,σ,E,_,⟨[],by simp⟩,re,hF,λr E' v H' S' q g VV rr=>l.rt r E' v H' S' q g.kp VV rr⟩
theorem z9{D:Bool->Hp->Prop}{B:SN->Prop}{P:Bool->En->Prop}(re:RE K B H σ E)(hF:Fp E λb E'=>P b (E'.take E.length))(k:∀b H' E',P b E'->Gs B H σ E H' σ E'->RE K B H' σ E'->D b H'):eD K Fp σ H D:=
 ⟨B,σ,E,_,⟨[],by simp⟩,re,hF,λb E' H' S' q g VV=>by
  obtain⟨r,ow⟩:=VV.cut (E:=E) g.pre re.len;exact k b H' _ q (g.kp.trans (Kp.less ow)) r⟩
theorem vC{P:R->En->En->Prop}{B:SN->Prop}(re:RE K B H σ E)(hF:Fa E λr E'=>P r E' (E'.take E.length))(k:∀r E' v H' S',P r E' (E'.take E.length)->Gr B H σ E H' S' E'->RE K B H' S' E'->RR K B H' S' E' r v->RE K B H' σ (E'.take E.length)->(∀b,Ow B σ (E'.take E.length) b->Ow B S' E' b)->Q v H'):aH K Fa σ H Q:=
 ⟨B,σ,E,_,⟨[],by simp⟩,re,hF,λr E' v H' S' q g VV rr=>by
  obtain⟨r2,ow⟩:=VV.cut (E:=E) g.pre re.len;exact k r E' v H' S' q g VV rr r2 ow⟩
def JK(Fp:FB)(F G:FS):FS:=λD E=>Fp E λb E'=>if b=true then Ho (E'.take E.length) (F D)else Ho (E'.take E.length) (G D)
theorem b8(hc:QT X c (eD K Fp))(ha:QB X qi (gP K F))(hb:QB X zp (gP K G)):QS X (.If c qi zp pos) (gP K (JK Fp F G)):=
 (M0 hc ha hb).le λD σ H hl⟨B,E,DT,re,hF,l⟩=>z9 (P:=λb E'=>if b=true then Ho E' (F DT)else Ho E' (G DT)) re hF λb H' E' q g VV=>by
  cases b
  ·exact⟨B,E',DT,VV,jS q,l.step g⟩
  ·exact⟨B,E',DT,VV,jS q,l.step g⟩
def Vy(Fa:FE):FS:=λD E=>Fa E λ_ E'=>D.nx (E'.take E.length)
theorem jC(he:QE X e (aH K Fa))(hs:TV e none pos.line X.env=pure false:=by rfl):QS X (.Expr e pos) (gP K (Vy Fa)):=
 (Ca he hs).le λD σ H hl zZ=>by obtain⟨B,E,DT,re,hF,l⟩:=zZ;exact vC (P:=λ_ _ E'=>DT.nx E') re hF λr E' v H' S' q g VV rr XG ow=>l.nx _ _ _ q (g.kp.trans (Kp.less ow)) XG
def F8(Fp:FB):FS:=λD E=>Fp E λb E'=>b=true/\D.nx (E'.take E.length)
theorem Pe(hc:QT X c (eD K Fp)):QS X (.Assert c m pos) (gP K (F8 Fp)):=
 (Qm hc).le λD σ H hl zZ=>by obtain⟨B,E,DT,re,hF,l⟩:=zZ;exact z9 (P:=λb E'=>b=true/\DT.nx E') re hF λb H' E' q g VV=>⟨q.1,l.nx _ _ _ q.2 g VV⟩
def Bw(n:Nat)(E:En):R->Option U
 |.p t=>oZ (.p t)
 |.s j=>match E[j]? with
  |some (oZ (.p t))=>oZ (.p t)
  |some (oZ (.o k xs))=>if n<=j then oZ (.o k xs)else none
  |_=>none
theorem lO{B:SN->Prop}{σ:St}{E:En}{i:Nat}(re:RE K B H S E)(hS:∃τ,S=σ++τ)(rr:RR K B H S E r v)(h:Bw σ.length E r=oZ u):
  RE K B H (σ.set i (oZ v)) ((E.take σ.length).set i (oZ u))/\∀b,Ow B (σ.set i (oZ v)) ((E.take σ.length).set i (oZ u)) b->Ow B S E b:=by
 have xl:∀{t:T},Rp K H (Ow B S E) t v->RE K B H (σ.set i (oZ v)) ((E.take σ.length).set i (oZ (.p t)))/\∀b,Ow B (σ.set i (oZ v)) ((E.take σ.length).set i (oZ (.p t))) b->Ow B S E b:=λ{t}hp=>by
  obtain⟨τ,rfl⟩:=hS;have XG:=re.take σ.length;rw[show(σ++τ).take σ.length=σ by simp]at XG;have ow:∀b,Ow B σ (E.take σ.length) b->Ow B (σ++τ) E b:=λb z=>by
   obtain z|⟨j,k,xs,h1,h2⟩:=z
   ·exact .inl z
   have hj:j<σ.length:=(KZ.mp h2).1;exact .inr ⟨j,k,xs,by rw[NG hj]at h1;exact h1,fD ⟨τ,rfl⟩ h2⟩
  obtain⟨q1,q2⟩:=XG.setP (i:=i) (hp.step (Kp.less ow));exact⟨q1,λb z=>ow b (q2 b z)⟩
 cases r with
 |p t=>cases h;exact xl rr
 |s j=>
  cases q:E[j]? with
  |none=>simp only[Bw,q]at h;cases h
  |some w=>
   cases w with
   |none=>simp only[Bw,q]at h;cases h
   |some w=>
    cases w with
    |p t=>
     simp only[Bw,q]at h;cases h;obtain⟨v',h1,h2⟩:=re.pure j t q;have je:S[j]?=oZ (oZ v):=rr;rw[je]at h1;cases h1;exact xl h2
    |o k xs=>
     simp only[Bw,q]at h;split at h
     ·cases h;rename_i c;exact re.setO hS c q rr
     ·cases h
def Vz(i:Nat)(Fa:FE):FS:=λD E=>Fa E λr E'=>o1 (Bw E.length E' r) λu=>D.nx ((E'.take E.length).set i (oZ u))
theorem Il{i:Nat}{x:Str}(hN:X.N.Nodup)(hi:X.N[i]?=oZ x)(hx:xR X.env.scope x)(he:QE X e (aH K Fa))(hs:TV e (oZ (.Name x pos')) pos.line X.env=pure false:=by rfl)(hf:X.fn x=true\/X.env.scope.names.lookup x=oZ .local:=by first|exact .inl rfl|exact .inr rfl|assumption):QS X (.Assign [.Name x pos'] e pos) (gP K (Vz i Fa)):=
 (Js hN hi hx he hs hf).le λD σ H hl⟨B,E,DT,re,hF,l⟩=>⟨B,σ,E,_,⟨[],by simp⟩,re,hF,λr E' v H' S' q g VV rr=>by
  obtain⟨u,e1,q⟩:=q.ex;rw[<-re.len]at e1 q;obtain⟨r1,ow⟩:=lO (i:=i) VV g.pre rr e1;exact l.nx _ _ _ q (g.kp.trans (Kp.less ow)) r1⟩
end
abbrev FG:=T->En->(En->Prop)->Prop
abbrev AX:=List T->En->(En->Prop)->Prop
def tH(K:W.Frag)(G:FG):TG:=λv σ H Q=>∃B τ E t Q',RE K B H (σ++τ) E/\Rp K H (Ow B (σ++τ) E) t v/\G t E Q'/\∀σ' H' E',Q' E'->Gs B H (σ++τ) E H' (σ'++τ) E'->RE K B H' (σ'++τ) E'->σ'.length=σ.length->Q σ' H'
def Mo(K:W.Frag)(G:AX):P8:=λvs σ H Q=>∃B τ E ts Q',RE K B H (σ++τ) E/\cR K H (Ow B (σ++τ) E) ts vs/\G ts E Q'/\∀σ' H' E',Q' E'->Gs B H (σ++τ) E H' (σ'++τ) E'->RE K B H' (σ'++τ) E'->σ'.length=σ.length->Q σ' H'
def pO(i:Nat):FG:=λt E Q=>Q (E.set i (oZ (.p t)))
def IB:AX:=λts E Q=>match ts with
 |[]=>Q E
 |_=>False
def CQ(g:FG)(gs:AX):AX:=λts E Q=>match ts with
 |t::r=>g t E λE'=>gs r E' Q
 |[]=>False
def ID(n:Nat)(gs:AX):FG:=λt E Q=>match t with
 |.tup ts=>cond (Nat.beq ts.length n) (gs ts E Q) False
 |_=>False
def IC(Fo Fi:FE):FG:=λt E Q=>Fo E λr E1=>Fi E1 λz E2=>match r with
 |.s j=>match E2[j]? with
  |some (oZ (.o k xs))=>i1 (vl E2 z) λm=>o1 (Hn xs.length m) λl=>Q ((E2.set j (oZ (.o k (xs.set l t)))).take E.length)
  |_=>False
 |_=>False
section
variable{X:Cx}{K:W.Frag}{pos:Pos}{a b c e o i:oC}{es rest:List oC}{Fa Fb Fc Fe Fo Fi:FE}{Fr:FA}{Fp Fq:FB}{F G:FS}{st:SV}{gw body:List SV}{g:FG}{gs:AX}
theorem kC{i:Nat}{x:Str}(hN:X.N.Nodup)(hi:X.N[i]?=oZ x)(hx:xR X.env.scope x)(hf:X.fn x=true\/X.env.scope.names.lookup x=oZ .local:=by first|exact .inl rfl|exact .inr rfl|assumption):QG X (.Name x pos) (tH K (pO i)):=
 (rS hN hi hx hf).le λv σ H Q hl zZ=>by
  obtain⟨B,τ,E,t,Q',re,rp,hF,l⟩:=zZ;have XO:i<σ.length:=by rw[hl];exact(KZ.mp hi).1
  obtain⟨r1,ow⟩:=re.setP (i:=i) rp;rw[List.set_append_left _ _ XO]at r1 ow;exact l _ _ _ hF (Kp.less ow) r1 (by simp)
theorem cE:Rf X [] (Mo K IB):=Md.le λvs σ H Q zZ=>by
 obtain⟨B,τ,E,ts,Q',re,rp,hF,l⟩:=zZ;cases ts with
 |nil=>exact⟨rp,l _ _ _ hF (Kp.refl _ _) re rfl⟩
 |cons _ _=>exact hF.elim
theorem aM(h1:QG X e (tH K g))(h2:Rf X es (Mo K gs))(hs:(TN (e::es) X.env).map (·.2)=UN e X.env::(TN es X.env).map (·.2):=by rfl):Rf X (e::es) (Mo K (CQ g gs)):=
 (wN h1 h2 hs).le λvs σ H Q zZ=>by
  obtain⟨B,τ,E,ts,Q',re,rp,hF,l⟩:=zZ;cases ts with
  |nil=>exact hF.elim
  |cons t ts=>
   obtain⟨v,r,e1,h1,h2⟩:=rp;exact⟨v,r,e1,B,τ,E,t,_,re,h1,hF,λσ' H' E' q g VV hl=>⟨B,τ,E',ts,Q',VV,h2.step g,q,λσ2 H2 E2 q2 g2 XG hl2=>l _ _ _ q2 (g.trans g2) XG (hl2.trans hl)⟩⟩
theorem dA(eK:X.K=K)(hc:X.calm=true)(h:Rf X es (Mo K gs))(hn:(TN es X.env).length=n:=by rfl)(ji:(TN es X.env).findIdx? (·.1)=none:=by rfl):QG X (.Tuple es k pos) (tH K (ID n gs)):=by
 subst eK;refine(Vl hc h hn ji).le λv σ H Q hl zZ=>?_;obtain⟨B,τ,E,t,Q',re,rp,hF,l⟩:=zZ;cases t with
 |tup ts=>
  have vf:cond (Nat.beq ts.length n) (gs ts E Q') False:=hF;cases q:Nat.beq ts.length n with
  |false=>rw[q]at vf;exact vf.elim
  |true=>
   rw[q]at vf;obtain⟨p,vs,e1,sq,rs⟩:=rp.sqT;exact⟨p,vs,e1,sq,by rw[rs.length];exact Nat.eq_of_beq_eq_true q,B,τ,E,ts,Q',re,rs,vf,l⟩
 |_=>exact hF.elim
theorem Ii(ho:QE X o (aH K Fo))(hi:QE X i (aH K Fi))(ha:∀v,UN (.Subscript o i pos) X.env v=(do
   let ov <-UJ [v] (TF o X.env)
   let iv <-UJ [v,ov] (TF i X.env)
   standAt pos
   UJ [v,ov,iv] (setItem ov iv v)
   release [v,ov,iv] []):=by intro _;rfl):QG X (.Subscript o i pos) (tH K (IC Fo Fi)):=by
 refine(Z8 ho hi Wo ha).le λv σ H Q hl zZ=>?_;obtain⟨B,τ,E,t,Q',re,rp,hF,l⟩:=zZ;refine⟨B,σ++τ,E,_,⟨τ,rfl⟩,re,hF,λr E1 w H1 S1 q g1 VY rr=>?_⟩;obtain⟨τ1,YU⟩:=g1.pre;refine⟨B,S1,E1,_,⟨τ++τ1,by rw[YU,LW]⟩,VY,q,λz E2 y H2 S2 q2 g2 XG rh=>?_⟩;have g12:=g1.trans g2;cases r with
 |p _=>exact q2.elim
 |s j=>
  have rj:S2[j]?=oZ (oZ w):=fD g2.pre rr;cases hE:E2[j]? with
  |none=>simp only[hE]at q2
  |some u=>
   cases u with
   |none=>simp only[hE]at q2
   |some u=>
    cases u with
    |p _=>simp only[hE]at q2
    |o k xs=>
     simp only[hE]at q2;obtain⟨m,e1,q2⟩:=q2.ex;obtain⟨n,e2,q2⟩:=q2.ex;obtain⟨p,vs,h1,h2,h3,h4⟩:=XG.own j k xs hE;rw[rj]at h1;cases h1;refine⟨p,vs,m,n,rfl,XG.int rh e1,h2,by rw[h3.length];exact e2,?_⟩;obtain⟨g3,YO⟩:=XG.put (ys:=xs.set n t) (ws:=vs.set n v) hE rj (h3.set (rp.step g12.kp) n);obtain⟨jz,ow⟩:=YO.cut (E:=E) (g12.trans g3).pre re.len;exact l _ _ _ q2 ((g12.trans g3).kp.trans (Kp.less ow)) jz rfl
def IW(Fa:FE)(g:FG):FS:=λD E=>Fa E λr E'=>match r with
 |.p t=>g t (E'.take E.length) D.nx
 |.s _=>False
theorem d8(he:QE X e (aH K Fa))(hg:QG X tg (tH K g))(hs:TY [tg] e pos.line X.env=pure false:=by rfl)(hw:TZ [tg] e X.env=pure none:=by rfl)(h1:(TN [tg] X.env).map (·.2)=[UN tg X.env]:=by rfl):QS X (.Assign [tg] e pos) (gP K (IW Fa g)):=
 (Z9 he hg hs hw h1).le λD σ H hl⟨B,E,DT,re,hF,l⟩=>vC (P:=λr _ E'=>match r with|.p t=>g t E' DT.nx|.s _=>False) re hF λr E' v H' S' q g' VV rr XG ow=>by
  cases r with
  |s _=>exact q.elim
  |p t=>exact⟨B,[],_,t,_,by rw[MG];exact XG,by rw[MG];exact Rp.step (Kp.less ow) rr,q,λσ2 H2 E2 q2 g2 YO _=>by rw[MG]at g2 YO;rw[MG]at g2;exact l.nx _ _ _ q2 ((g'.kp.trans (Kp.less ow)).trans g2) YO⟩
def IX(i j:Nat)(Fr:FA):FS:=λD E=>Fr E λrs E'=>match rs with
 |[.p t,r]=>o1 (Bw E.length E' r) λu=>D.nx (((E'.take E.length).set j (oZ u)).set i (oZ (.p t)))
 |[r,.p t]=>o1 (Bw E.length E' r) λu=>D.nx (((E'.take E.length).set i (oZ u)).set j (oZ (.p t)))
 |_=>False
theorem gZ{n i j:Nat}{x y:Str}{kt k2 pt2}(hc:X.calm=true)(hN:X.N.Nodup)(hi:X.N[i]?=oZ x)(hj:X.N[j]?=oZ y)(jv:i≠j)(hx:X.env.scope.names.lookup x=oZ .local)(hy:X.env.scope.names.lookup y=oZ .local)(ha:QA X [a,b] (cK K n Fr))(hw:TZ [.Tuple [.Name x px,.Name y py] kt pt] (.Tuple [a,b] k2 pt2) X.env=pure (oZ [x,y]))(hs:TY [.Tuple [.Name x px,.Name y py] kt pt] (.Tuple [a,b] k2 pt2) pos.line X.env=pure false:=by rfl):
  QS X (.Assign [.Tuple [.Name x px,.Name y py] kt pt] (.Tuple [a,b] k2 pt2) pos) (gP K (IX i j Fr)):=by
 refine(AA hc hN hi hj jv hx hy ha hw hs).le λD σ H hl⟨B,E,DT,re,hF,l⟩=>⟨B,σ,E,_,⟨[],by simp⟩,re,hF,λrs E' vs H' S' q g VV rr hn=>?_⟩;split at q
 ·rename_i t r;obtain⟨v,ws,e1,h1,w,ij,e2,h2,h3⟩:=rr;cases h3;subst e2;subst e1;obtain⟨u,e3,q⟩:=q.ex;rw[<-re.len]at e3 q;obtain⟨r1,ow⟩:=lO (i:=j) VV g.pre h2 e3;obtain⟨r2,qk⟩:=r1.setP (i:=i) (Rp.step (Kp.less ow) h1);refine⟨v,w,rfl,?_⟩;rw[QC _ _ jv];exact l.nx _ _ _ q (g.kp.trans (Kp.less λb z=>ow b (qk b z))) r2
 ·rename_i r t _;obtain⟨v,ws,e1,h1,w,ij,e2,h2,h3⟩:=rr;cases h3;subst e2;subst e1;obtain⟨u,e3,q⟩:=q.ex;rw[<-re.len]at e3 q;obtain⟨r1,ow⟩:=lO (i:=i) VV g.pre h1 e3;obtain⟨r2,qk⟩:=r1.setP (i:=j) (Rp.step (Kp.less ow) h2);exact⟨v,w,rfl,l.nx _ _ _ q (g.kp.trans (Kp.less λb z=>ow b (qk b z))) r2⟩
 ·exact q.elim
def ED(i j k:Nat)(Fr:FA):FS:=λD E=>Fr E λrs E'=>match rs with
 |[r,.p t,.p w]=>o1 (Bw E.length E' r) λu=>D.nx ((((E'.take E.length).set i (oZ u)).set j (oZ (.p t))).set k (oZ (.p w)))
 |_=>False
theorem Zj{n i j k:Nat}{x y z:Str}{kt k2 pt2}(hc:X.calm=true)(hN:X.N.Nodup)(hi:X.N[i]?=oZ x)(hj:X.N[j]?=oZ y)(hk:X.N[k]?=oZ z)(jv:i≠j)(xi:i≠k)(xk:j≠k)(hx:X.env.scope.names.lookup x=oZ .local)(hy:X.env.scope.names.lookup y=oZ .local)(hz:X.env.scope.names.lookup z=oZ .local)(ha:QA X [a,b,c] (cK K n Fr))(hw:TZ [.Tuple [.Name x px,.Name y py,.Name z pz] kt pt] (.Tuple [a,b,c] k2 pt2) X.env=pure (oZ [x,y,z]))(hs:TY [.Tuple [.Name x px,.Name y py,.Name z pz] kt pt] (.Tuple [a,b,c] k2 pt2) pos.line X.env=pure false:=by rfl):
  QS X (.Assign [.Tuple [.Name x px,.Name y py,.Name z pz] kt pt] (.Tuple [a,b,c] k2 pt2) pos) (gP K (ED i j k Fr)):=by
 refine(F1 hc hN hi hj hk jv xi xk hx hy hz ha hw hs).le λD σ H hl⟨B,E,DT,re,hF,l⟩=>⟨B,σ,E,_,⟨[],by simp⟩,re,hF,λrs E' vs H' S' q g VV rr hn=>?_⟩;split at q
 ·rename_i r t w;obtain⟨v1,ws1,e1,h1,v2,ws2,e2,h2,v3,ws3,e3,h3,h4⟩:=rr;cases h4;subst e3;subst e2;subst e1;obtain⟨u,e4,q⟩:=q.ex;rw[<-re.len]at e4 q;obtain⟨r1,ow⟩:=lO (i:=i) VV g.pre h1 e4;obtain⟨r2,qk⟩:=r1.setP (i:=j) (Rp.step (Kp.less ow) h2);obtain⟨r3,ow3⟩:=r2.setP (i:=k) (Rp.step (Kp.less λb z=>ow b (qk b z)) h3);exact⟨v1,v2,v3,rfl,l.nx _ _ _ q (g.kp.trans (Kp.less λb z=>ow b (qk b (ow3 b z)))) r3⟩
 ·exact q.elim
def EB(f:Int->Int->Int)(i:Nat)(Fa:FE):FS:=λD E=>match E[i]? with
 |some (oZ (.p (.int x)))=>Fa E λr E'=>i1 (vl E' r) λy=>D.nx ((E'.take E.length).set i (oZ (.p (.int (f x y)))))
 |_=>False
theorem Sv{i:Nat}{x:Str}{f:Int->Int->Int}(hN:X.N.Nodup)(hi:X.N[i]?=oZ x)(hx:xR X.env.scope x)(he:QE X e (aH K Fa))(ho:HB X op (JI f))(hf:X.fn x=true\/X.env.scope.names.lookup x=oZ .local:=by first|exact .inl rfl|exact .inr rfl|assumption):
  QS X (.AugAssign (.Name x pos') op e pos) (gP K (EB f i Fa)):=by
 refine QS.le ⟨Y2 hN hi hx he.h ho hf⟩ λD σ H hl zZ=>?_;obtain⟨B,E,DT,re,hF,l⟩:=zZ;unfold EB at hF;split at hF
 ·rename_i y hE;obtain⟨v,h1,h2⟩:=re.pure i _ hE;cases h2;refine⟨_,h1,vC (P:=λr E' E2=>i1 (vl E' r) λz=>DT.nx (E2.set i (oZ (.p (.int (f y z)))))) re hF λr E' v H' S' q g' VV rr XG ow=>?_⟩;obtain⟨z,e1,q⟩:=q.ex;obtain⟨r1,qk⟩:=XG.setP (i:=i) (t:=.int (f y z)) (v:=.int (f y z)) rfl;exact⟨y,z,rfl,VV.int rr e1,l.nx _ _ _ q (g'.kp.trans (Kp.less λb z=>ow b (qk b z))) r1⟩
 ·exact hF.elim
def AK(Fp:FB)(F:FS):FS:=λD E=>∃W:Nat->En->Prop,(∃m,W m E)/\∀m E,W m E->Fp E λb E'=>if b=true then F { D with nx:=λE2=>∃m',m'<m/\W m' E2,ct:=λE2=>∃m',m'<m/\W m' E2,bk:=D.nx } (E'.take E.length)else D.nx (E'.take E.length)
theorem m8(hp:PassesOwn (SU X.prog X.w) X.A X.env X.xe)(hc:QT X c (eD K Fp))(hb:QB X body (gP K F)):QS X (.While c body [] pos) (gP K (AK Fp F)):=by
 refine(Vn hp hc hb).le λD σ H hl zZ=>?_;obtain⟨B,E,DT,re,⟨W,⟨m0,w0⟩,hF⟩,l⟩:=zZ;refine⟨λm σ' H'=>∃E',W m E'/\Gs B H σ E H' σ' E'/\RE K B H' σ' E',⟨m0,E,w0,Kp.refl _ _,re⟩,?_⟩;rintro m σ1 H1 ⟨E1,w1,g1,VY⟩;refine z9 (P:=λb E'=>if b=true then F { DT with nx:=λE2=>∃m',m'<m/\W m' E2,ct:=λE2=>∃m',m'<m/\W m' E2,bk:=DT.nx } E' else DT.nx E') VY (hF m E1 w1) λb H2 E2 q g2 XG=>?_;cases b
 ·exact l.nx _ _ _ q (g1.trans g2) XG
 ·refine⟨λσ' H'=>∃m',m'<m/\∃E',W m' E'/\Gs B H σ E H' σ' E'/\RE K B H' σ' E',λσ' H' z=>z,B,E2,_,XG,q,?_⟩;have l2:=l.step (g1.trans g2);exact⟨λσ' H' E' zZ g VV=>by obtain⟨m',hm,w⟩:=zZ;exact⟨m',hm,E',w,(g1.trans g2).trans g,VV⟩,l2.rt,λσ' H' E' z g VV=>l2.nx _ _ _ z g VV,λσ' H' E' zZ g VV=>by obtain⟨m',hm,w⟩:=zZ;exact⟨m',hm,E',w,(g1.trans g2).trans g,VV⟩⟩
structure Ht(K:W.Frag)(J:It)(items:List T)(gd:Hp->(SN->Prop)->Prop):Prop where
 keep:∀H H' O O',Kp O O' H H'->gd H O->gd H' O'
 go:∀i H O,gd H O->i<items.length->J.go i H
 yld:∀i H O x H' t,gd H O->items[i]?=oZ t->(∀a,O a->H a≠none)->J.yld i H x H'->Kp O O H H'/\(∀b o,H b=oZ o->H' b=oZ o)/\Rp K H' O t x
 stop:∀H O,gd H O->J.stop items.length H
abbrev FI:=En->(List T->List Nat->En->Prop)->Prop
def k6(K:W.Frag)(F:FI):TI:=λσ H R=>∃B S E Q',(∃τ,S=σ++τ)/\RE K B H S E/\F E Q'/\∀J items us E' H' S' gd,Q' items us E'->Gr B H S E H' S' E'->RE K B H' S' E'->Ht K J items gd->(∀j∈us,∃k xs,E'[j]?=oZ (oZ (U.o k xs)))->
 (∀O:SN->Prop,(∀b,O b->Ow B S' E' b)->(∀j∈us,∀a,S'[j]?=oZ (oZ (.ref a))->¬O a)->gd H' O)->R J H'
def frzs:List Nat->En->Option En
 |[],E=>oZ E
 |j::us,E=>match E[j]? with
  |some (oZ (.o false xs))=>frzs us (E.set j (oZ (.p (.lst xs))))
  |_=>none
theorem As{B:SN->Prop}:∀{us:List Nat}{E E':En},RE K B H S E->frzs us E=oZ E'->RE K B H S E'/\(∀b,Ow B S E' b->Ow B S E b)/\(∀j∈us,∀a,S[j]?=oZ (oZ (.ref a))->¬Ow B S E' a)/\E'.length=E.length
 |[],E,E',re,h=>by cases h;exact⟨re,λb z=>z,λj hj=>absurd hj (by simp),rfl⟩
 |j::us,E,E',re,h=>by
  cases q:E[j]? with
  |none=>simp only[frzs,q]at h;cases h
  |some u=>
   cases u with
   |none=>simp only[frzs,q]at h;cases h
   |some u=>
    cases u with
    |p t=>simp only[frzs,q]at h;cases h
    |o k xs=>
     cases k
     ·simp only[frzs,q]at h;obtain⟨s1,s2⟩:=re.frz q;obtain⟨r1,r2,r3,r4⟩:=As s1 h;refine⟨r1,λb z=>(s2 b (r2 b z)).1,λm hm a ha z=>?_,by rw[r4];simp⟩;obtain rfl|hm:=LH.mp hm
      ·exact(s2 a (r2 a z)).2 ha
      ·exact r3 m hm a ha z
     ·simp only[frzs,q]at h;cases h
def i8(g:FG)(F:FS)(D:ET):List T->En->Prop
 |[],E=>D.nx E
 |x::xs,E=>g x E λE'=>Ho E' (F { D with nx:=i8 g F D xs,ct:=i8 g F D xs,bk:=D.nx })
def EC(I:FI)(g:FG)(F:FS):FS:=λD E=>I E λitems us E'=>o1 (frzs us E') λE2=>Ho (E2.take E.length) (i8 g F D items)
theorem jQ(hp:PassesOwn (SU X.prog X.w) X.A X.env X.xe)(hc:X.calm=true)(hi:QI X tg iter (k6 K I))(hg:QG X tg (tH K g))(hb:QB X body (gP K F))(hs:∀x,TC iter X.env x=pure x:=by intro _;rfl):
  QS X (.For tg iter body [] pos) (gP K (EC I g F)):=by
 refine(Vm hp hc hi hg hb hs).le λD σ H hl zZ=>?_;obtain⟨B,E,DT,re,hF,l⟩:=zZ;refine⟨B,σ,E,_,⟨[],by simp⟩,re,hF,λJ items us E1 H1 S1 gd q g1 VY ok _ rk=>?_⟩;obtain⟨E2,e2,q⟩:=q.ex;replace q:=jS q;obtain⟨f1,f2,f3,f4⟩:=As VY e2;obtain⟨c1,c2⟩:=f1.cut (E:=E) g1.pre re.len;have gs:Gs B H σ E H1 σ (E2.take E.length):=g1.kp.trans ((Kp.less f2).trans (Kp.less c2));have gd1:gd H1 (Ow B σ (E2.take E.length)):=rk _ (λb z=>f2 b (c2 b z)) λj hj a ha z=>f3 j hj a ha (c2 a z);refine⟨λi m σ' H'=>m=items.length-i/\i<=items.length/\∃E',i8 g F DT (items.drop i) E'/\Gs B H σ E H' σ' E'/\RE K B H' σ' E'/\gd H' (Ow B σ' E'),⟨_,rfl,LV _,_,q,gs,c1,gd1⟩,?_⟩;rintro i m σ2 H2 ⟨rfl,cf,E3,q3,g3,YO,jf⟩;obtain XO|hge:=MN i items.length
 ·have hd:items.drop i=items[i]::items.drop (i+1):=MX XO;rw[hd]at q3;refine .inr ⟨ok.go i H2 _ jf XO,λσ' H'=>∃E',i8 g F DT (items.drop (i+1)) E'/\Gs B H σ E H' σ' E'/\RE K B H' σ' E'/\gd H' (Ow B σ' E'),λσ' H' zZ=>by obtain⟨E',z⟩:=zZ;exact⟨items.length-(i+1),⋯,rfl,XO,E',z⟩,λx H4 y=>?_⟩;obtain⟨k4,s4,rp⟩:=ok.yld i H2 _ x H4 _ jf (LA XO) (λa z=>by obtain⟨vs,e⟩:=YO.ow z;rw[e];intro z;cases z) y;have jz:=YO.kept s4;have vg:=ok.keep _ _ _ _ k4 jf;refine⟨B,[],E3,_,_,by rw[MG];exact jz,by rw[MG];exact rp,q3,λσ5 H5 E5 q5 g5 jg hl5=>?_⟩;rw[MG]at g5 jg;rw[MG]at g5;have xo:=ok.keep _ _ _ _ g5 vg;have gg:=(g3.trans k4).trans g5;have l5:=l.step gg;refine⟨B,E5,_,jg,jS q5,?_⟩;exact⟨λσ' H' E' z g VV=>⟨E',z,gg.trans g,VV,ok.keep _ _ _ _ g xo⟩,l5.rt,λσ' H' E' z g VV=>l5.nx _ _ _ z g VV,λσ' H' E' z g VV=>⟨E',z,gg.trans g,VV,ok.keep _ _ _ _ g xo⟩⟩
 ·have ei:i=items.length:=⋯
  subst ei;rw[NX]at q3;exact .inl ⟨ok.stop H2 _ jf,l.nx _ _ _ q3 g3 YO⟩
def qT(E:En):R->List Nat
 |.p _=>[]
 |.s j=>match E[j]? with
  |some (oZ (.o _ _))=>[j]
  |_=>[]
theorem mF:∀j∈qT E r,∃k xs,E[j]?=oZ (oZ (U.o k xs)):=λj hj=>by
 cases r with
 |p _=>simp[qT]at hj
 |s m=>
  cases q:E[m]? with
  |none=>simp[qT,q]at hj
  |some u=>
   cases u with
   |none=>simp[qT,q]at hj
   |some u=>
    cases u with
    |p _=>simp[qT,q]at hj
    |o k xs=>simp[qT,q]at hj;subst hj;exact⟨k,xs,q⟩
theorem pP{B:SN->Prop}(re:RE K B H S E)(rr:RR K B H S E r v)(e:vl E r=oZ t)(O:SN->Prop)(hO:∀b,O b->Ow B S E b)(hu:∀j∈qT E r,∀a,S[j]?=oZ (oZ (.ref a))->¬O a):Rp K H O t v:=by
 cases r with
 |p u=>cases e;exact Rp.step (Kp.less hO) rr
 |s j=>
  have je:S[j]?=oZ (oZ v):=rr;cases q:E[j]? with
  |none=>simp only[vl,q]at e;cases e
  |some u=>
   cases u with
   |none=>simp only[vl,q]at e;cases e
   |some u=>
    cases u with
    |p u=>
     simp only[vl,q]at e;cases e;obtain⟨w,h1,h2⟩:=re.pure j _ q;rw[je]at h1;cases h1;exact h2.step (Kp.less hO)
    |o k xs=>
     simp only[vl,q]at e;cases e;obtain⟨a,vs,h1,h2,h3,_⟩:=re.own j k xs q;rw[je]at h1;cases h1;exact⟨a,vs,rfl,.inl ⟨hu j (by simp[qT,q]) a je,.inl h2⟩,h3.step (Kp.less hO)⟩
theorem U1:Ht K (GY K p) xs (λH O=>Rp K H O (.lst xs) (.ref p)):=by
 refine⟨λH H' O O' k h=>Rp.step k h,λi H O h hi=>?_,λi H O x H' t h e _ y=>?_,λH O h=>?_⟩
 ·obtain⟨a,vs,e,sq,rs⟩:=h.sqL;cases e;exact⟨vs,vs[i]'(by rw[rs.length];exact hi),sq,LA _⟩
 ·obtain⟨e1,y⟩:=y;subst e1;obtain⟨a,vs,e2,sq,rs⟩:=h.sqL;cases e2;obtain⟨v,h1,h2⟩:=rs.get e;rw[y vs sq]at h1;cases h1;exact⟨Kp.refl _ _,λ_ _ z=>z,h2⟩
 ·obtain⟨a,vs,e,sq,rs⟩:=h.sqL;cases e;exact⟨vs,sq,by rw[rs.length];exact LN _⟩
def iP(lo:Int)(n:Nat):List T:=(NP n).map λ(i:Nat)=>T.int (lo+(i:Int))
theorem Gj{lo:Int}:(iP lo n).length=n:=by simp[iP]
theorem Tn{lo:Int}:Ht K (AY lo n) (iP lo n) (λ_ _=>True):=by
 refine⟨λ_ _ _ _ _ h=>h,λi H O _ hi=>by show i<n;simpa[iP]using hi,λi H O x H' t _ e _ y=>?_,λH O _=>by simp[AY,iP]⟩;obtain⟨e1,y⟩:=y;subst e1;subst y;unfold iP at e;rw[LB]at e;have hi:i<n:=by
  obtain c|c:=MN i n
  ·exact c
  ·rw[OT (by simpa using c)]at e;cases e
 rw[OF hi]at e;cases e;exact⟨Kp.refl _ _,λ_ _ z=>z,rfl⟩
theorem T9:Ht K (GX K p) (xs.zipIdx.map λq=>T.tup [.int (q.2:Int),q.1]) (λH O=>Rp K H O (.lst xs) (.ref p)):=by
 refine⟨λH H' O O' k h=>Rp.step k h,λi H O h hi=>?_,λi H O x H' t h e hO y=>?_,λH O h=>?_⟩
 ·obtain⟨a,vs,e,sq,rs⟩:=h.sqL;cases e;have cf:i<xs.length:=by simpa using hi
  exact⟨vs,vs[i]'(by rw[rs.length];exact cf),sq,LA _⟩
 ·obtain⟨pp,w,e1,hp,e2,y⟩:=y;subst e1;subst e2;obtain⟨a,vs,e3,sq,rs⟩:=h.sqL;cases e3;rw[LB]at e;cases q:xs.zipIdx[i]? with
  |none=>rw[q]at e;cases e
  |some z=>
   rw[q]at e;cases e;obtain⟨q1,q2⟩:=KZ.mp q;have q1':i<xs.length:=by simpa using q1
   rw[List.getElem_zipIdx]at q2;subst q2;obtain⟨v,h1,h2⟩:=rs.get (LA q1');rw[y vs sq]at h1;cases h1;have k:Kp O O H (upd H pp (.tup [.int (i:Int),w])):=Kp.upd hp;refine⟨k,λb o z=>by rw[bD (a8 z hp)];exact z,pp,_,rfl,.inl ⟨λz=>hO pp z hp,dS⟩,_,_,rfl,?_,w,[],rfl,h2.step k,rfl⟩;simp[Rp]
 ·obtain⟨a,vs,e,sq,rs⟩:=h.sqL;cases e;exact⟨vs,sq,by simp[rs.length]⟩
def iL(Fa:FE):FI:=λE Q=>Fa E λr E1=>match vl E1 r with
 |some (.lst xs)=>Q xs (qT E1 r) E1
 |_=>False
theorem iF(eK:X.K=K)(hl:QE X l (aH K Fa)):QI X tg l (k6 K (iL Fa)):=by
 subst eK;refine(E8 hl).le λσ H R hn⟨B,S,E,Q',hS,re,hF,lk⟩=>⟨B,S,E,_,hS,re,hF,λr E1 v H1 S1 q g VY rr=>?_⟩;split at q
 ·rename_i xs e1;obtain⟨a,vs,e2,sq,rs⟩:=VY.vl rr e1;exact⟨a,e2,⟨vs,sq⟩,lk _ _ _ _ _ _ _ q g VY U1 mF λO h1 h2=>by rw[<-e2];exact pP VY rr e1 O h1 h2⟩
 ·exact q.elim
def KG(Fr:FA):FI:=λE Q=>Fr E λrs E1=>match rs with
 |[x]=>i1 (vl E1 x) λj=>(-(2^62)<=j/\j<2^62)/\Q (iP 0 j.toNat) [] E1
 |_=>False
def KH(Fr:FA):FI:=λE Q=>Fr E λrs E1=>match rs with
 |[x,y]=>i2 (vl E1 x) (vl E1 y) λi j=>(-(2^62)<=i/\i<2^62/\-(2^62)<=j/\j<2^62)/\Q (iP i (j-i).toNat) [] E1
 |_=>False
theorem fM(hg:Gl X "range")(hm:X.mg "range" = none)(ha:QA X [a] (cK K n Fr))(hs:a7 a=false:=by rfl):QI X tg (.Call (.Name "range" p) [a] [] pos) (k6 K (KG Fr)):=by
 refine(Qk hg hm ha hs).le λσ H R hn⟨B,S,E,Q',hS,re,hF,lk⟩=>⟨B,S,E,_,hS,re,hF,λrs E1 vs H1 S1 q g VY rr hn=>?_⟩
 match rs,rr,q with
 |[x],⟨v,ws,e1,h1,h2⟩,q=>
  cases h2;subst e1;obtain⟨j,e2,c,q⟩:=i1.ex q;exact⟨j,by rw[VY.int h1 e2],c.1,c.2,lk _ _ _ _ _ _ _ q g VY Tn (λj hj=>absurd hj (by simp)) λ_ _ _=>trivial⟩
 |[],_,q=>exact q.elim
 |_::_::_,_,q=>exact q.elim
theorem yX(hg:Gl X "range")(hm:X.mg "range" = none)(ha:QA X [a,b] (cK K n Fr))(hs:a7 a=false:=by rfl)(bq:a7 b=false:=by rfl):QI X tg (.Call (.Name "range" p) [a,b] [] pos) (k6 K (KH Fr)):=by
 refine(Ql hg hm ha hs bq).le λσ H R hn⟨B,S,E,Q',hS,re,hF,lk⟩=>⟨B,S,E,_,hS,re,hF,λrs E1 vs H1 S1 q g VY rr hn=>?_⟩
 match rs,rr,q with
 |[x,y],⟨v,ws,e1,h1,w,ij,e2,h2,h3⟩,q=>
  cases h3;subst e2;subst e1;obtain⟨i,j,e3,e4,c,q⟩:=i2.ex q;exact⟨i,j,by rw[VY.int h1 e3,VY.int h2 e4],c,lk _ _ _ _ _ _ _ q g VY Tn (λj hj=>absurd hj (by simp)) λ_ _ _=>trivial⟩
 |[],_,q=>exact q.elim
 |[_],_,q=>exact q.elim
 |_::_::_::_,_,q=>exact q.elim
def iE(Fr:FA):FI:=λE Q=>Fr E λrs E1=>match rs with
 |[r]=>(match vl E1 r with
  |some (.lst xs)=>Q (xs.zipIdx.map λq=>T.tup [.int (q.2:Int),q.1]) (qT E1 r) E1
  |_=>False)
 |_=>False
theorem Lj{x1}(eK:X.K=K)(hg:Gl X "enumerate")(hm:X.mg "enumerate" = none)(ha:QA X [a] (cK K n Fr))(hs:a7 a=false:=by rfl):QI X (.Tuple elts x1 ZK) (.Call (.Name "enumerate" p) [a] [] pos) (k6 K (iE Fr)):=by
 subst eK;refine(E7 hg hm ha hs).le λσ H R hn⟨B,S,E,Q',hS,re,hF,lk⟩=>⟨B,S,E,_,hS,re,hF,λrs E1 vs H1 S1 q g VY rr hn=>?_⟩
 match rs,rr,q with
 |[r],⟨v,ws,e1,h1,h2⟩,q=>
  cases h2;subst e1;simp only at q;split at q
  ·rename_i xs e1;obtain⟨a,vs,e2,sq,rs⟩:=VY.vl h1 e1;exact⟨a,by rw[e2],⟨vs,sq⟩,lk _ _ _ _ _ _ _ q g VY T9 mF λO k1 k2=>by rw[<-e2];exact pP VY h1 e1 O k1 k2⟩
  ·exact q.elim
 |[],_,q=>exact q.elim
 |_::_::_,_,q=>exact q.elim
end
mutual
def noL:T->Bool
 |.lst _=>false
 |.tup xs=>bM xs
 |_=>true
def bM:List T->Bool
 |[]=>true
 |x::xs=>noL x&&bM xs
end
def i6(H:Hp)(a:SN):Prop:=∃ws,H a=oZ (.lst ws)
section
variable{K:W.Frag}{H:Hp}{O O':SN->Prop}
mutual
theorem Rp.noL(hO:∀a,O' a->i6 H a):∀{t:T}{v:V},L2.noL t=true->Rp K H O t v->Rp K H O' t v
 |.non,_,_,h=>h
 |.bl _,_,_,h=>h
 |.int _,_,_,h=>h
 |.str _,_,_,h=>h
 |.lst _,_,e,_=>by simp[L2.noL]at e
 |.tup xs,v,e,h=>by
  obtain⟨a,vs,e1,h1,h2⟩:=h;refine⟨a,vs,e1,h1.imp (λ⟨_,h⟩=>⟨λz=>?_,h⟩) id,cR.noL hO (by simpa[L2.noL]using e) h2⟩;obtain⟨ws,q⟩:=hO a z;rw[h]at q;cases q
theorem cR.noL(hO:∀a,O' a->i6 H a):∀{xs:List T}{vs:List V},bM xs=true->cR K H O xs vs->cR K H O' xs vs
 |[],_,_,h=>h
 |x::xs,vs,e,h=>by
  obtain⟨v,r,e1,h1,h2⟩:=h;have e':L2.noL x=true/\bM xs=true:=by simpa[bM]using e
  exact⟨v,r,e1,Rp.noL hO e'.1 h1,cR.noL hO e'.2 h2⟩
end
end
theorem RE.push{K:W.Frag}{B:SN->Prop}{H':Hp}{S:St}{E:En}(re:RE K B H' S E){a:SN}{ts:List T}{vs:List V}(ha:H' a=oZ (.lst vs))(hn:¬Ow B S E a)(hb:¬B a)(hp:∀(i:Nat)(t:T),E[i]?=oZ (oZ (.p t))->∃v,S[i]?=oZ (oZ v)/\Rp K H' (λb=>Ow B S E b\/b=a) t v)(ho:∀(i:Nat)(k:Bool)(xs:List T),E[i]?=oZ (oZ (.o k xs))->∃b ws,S[i]?=oZ (oZ (.ref b))/\H' b=oZ (.lst ws)/\cR K H' (λb=>Ow B S E b\/b=a) xs ws)(h:cR K H' (λb=>Ow B S E b\/b=a) ts vs):
  RE K B H' (S++[oZ (.ref a)]) (E++[oZ (.o false ts)])/\∀b,Ow B (S++[oZ (.ref a)]) (E++[oZ (.o false ts)]) b->Ow B S E b\/b=a:=by
 have gE:∀{i:Nat}{u:U},(E++[oZ (.o false ts)])[i]?=oZ (oZ u)->(E[i]?=oZ (oZ u)/\i<E.length)\/(i=E.length/\u = .o false ts):=λ{i u}h=>by
  obtain⟨c,h⟩|⟨c,h⟩:=Eo h
  ·exact .inl ⟨h,c⟩
  ·exact .inr ⟨c,Option.some.inj h⟩
 have gS:∀{i:Nat}{x:Option V},S[i]?=oZ x->(S++[oZ (.ref a)])[i]?=oZ x:=λ{i x}h=>fD ⟨_,rfl⟩ h;have bz:∀{i:Nat}{x:Option V},i<E.length->(S++[oZ (.ref a)])[i]?=oZ x->S[i]?=oZ x:=λ{i x}c h=>by
  rw[LZ (by rw[re.len];exact c)]at h;exact h
 have lS:(S++[oZ (.ref a)])[E.length]?=oZ (oZ (.ref a)):=by rw[<-re.len];simp
 have ow:∀b,Ow B (S++[oZ (.ref a)]) (E++[oZ (.o false ts)]) b->Ow B S E b\/b=a:=λb z=>by
  obtain z|⟨i,k,xs,h1,h2⟩:=z
  ·exact .inl (.inl z)
  obtain⟨h1,c⟩|⟨c,h1⟩:=gE h1
  ·exact .inl (.inr ⟨i,k,xs,h1,bz c h2⟩)
  ·subst c;rw[lS]at h2;cases h2;exact .inr rfl
 have kl:Kp (λb=>Ow B S E b\/b=a) (Ow B (S++[oZ (.ref a)]) (E++[oZ (.o false ts)])) H' H':=Kp.less ow;refine⟨⟨by simp[re.len],λi t h=>?_,λi l xs h=>?_,λi j l m xs ys b h1 h2 h3 h4=>?_,re.bd⟩,ow⟩
 ·obtain⟨h,c⟩|⟨c,h⟩:=gE h
  ·obtain⟨v,h1,h2⟩:=hp i t h;exact⟨v,gS h1,h2.step kl⟩
  ·cases h
 ·obtain⟨h,c⟩|⟨c,h⟩:=gE h
  ·obtain⟨b,ws,h1,h2,h3⟩:=ho i l xs h;obtain⟨b',_,q1,_,_,q4⟩:=re.own i l xs h;rw[h1]at q1;cases q1;exact⟨b,ws,gS h1,h2,h3.step kl,q4⟩
  ·cases h;subst c;exact⟨a,vs,lS,ha,cR.step kl (by assumption),⟨λz=>absurd z ∅,λz=>absurd z hb⟩⟩
 ·obtain⟨h1,c1⟩|⟨c1,h1⟩:=gE h1
  ·obtain⟨h2,c2⟩|⟨c2,h2⟩:=gE h2
   ·exact re.inj i j l m xs ys b h1 h2 (bz c1 h3) (bz c2 h4)
   ·subst c2;rw[lS]at h4;cases h4;exact absurd (.inr ⟨i,l,xs,h1,bz c1 h3⟩) hn
  ·obtain⟨h2,c2⟩|⟨c2,h2⟩:=gE h2
   ·subst c1;rw[lS]at h3;cases h3;exact absurd (.inr ⟨j,m,ys,h2,bz c2 h4⟩) hn
   ·rw[c1,c2]
theorem RE.pad{K:W.Frag}{B:SN->Prop}{H:Hp}{S:St}{E:En}(re:RE K B H S E)(n:Nat):RE K B H (S++LF n none) (E++LF n none)/\(∀b,Ow B (S++LF n none) (E++LF n none) b->Ow B S E b):=by
 have gE:∀{i:Nat}{u:U},(E++LF n none)[i]?=oZ (oZ u)->E[i]?=oZ (oZ u)/\i<E.length:=λ{i u}h=>by
  obtain c|c:=MN i E.length
  ·rw[LZ c]at h;exact⟨h,c⟩
  ·rw[MI c]at h;have:=LD h;rw[List.mem_replicate]at this;cases this.2
 have gS:∀{i:Nat}{x:Option V},S[i]?=oZ x->(S++LF n none)[i]?=oZ x:=λ{i x}h=>fD ⟨_,rfl⟩ h;have bz:∀{i:Nat}{x:Option V},i<E.length->(S++LF n none)[i]?=oZ x->S[i]?=oZ x:=λ{i x}c h=>by
  rw[LZ (by rw[re.len];exact c)]at h;exact h
 have ow:∀b,Ow B (S++LF n none) (E++LF n none) b->Ow B S E b:=λb z=>z.imp id λzZ=>by obtain⟨i,k,xs,h1,h2⟩:=zZ;exact⟨i,k,xs,(gE h1).1,bz (gE h1).2 h2⟩
 have kl:Kp (Ow B S E) (Ow B (S++LF n none) (E++LF n none)) H H:=Kp.less ow;refine⟨⟨by simp[re.len],λi t h=>?_,λi l xs h=>?_,λi j l m xs ys b h1 h2 h3 h4=>?_,re.bd⟩,ow⟩
 ·obtain⟨v,h1,h2⟩:=re.pure i t (gE h).1;exact⟨v,gS h1,h2.step kl⟩
 ·obtain⟨b,ws,h1,h2,h3,h4⟩:=re.own i l xs (gE h).1;exact⟨b,ws,gS h1,h2,h3.step kl,h4⟩
 ·exact re.inj i j l m xs ys b (gE h1).1 (gE h2).1 (bz (gE h1).2 h3) (bz (gE h2).2 h4)
inductive A where
 |v (t:T)|b (xs:List T)
inductive RV where
 |v (t:T)|l (xs:List T)
abbrev dG:=List A->(RV->List T->Prop)->Prop
def j7:List A->En
 |[]=>[]
 |.v t::r=>oZ (.p t)::j7 r
 |.b xs::r=>oZ (.o true xs)::j7 r
theorem dZ:∀{as:List A},(j7 as).length=as.length
 |[]=>rfl
 |.v t::r=>by simp[j7,dZ (as:=r)]
 |.b t::r=>by simp[j7,dZ (as:=r)]
def jL:List A->Option Nat
 |[]=>none
 |.b _::_=>oZ 0
 |.v _::r=>(jL r).map (· + 1)
def GS(K:W.Frag)(H H':Hp):RV->V->Prop
 |.v t,v=>Rp K H' (i6 H) t v
 |.l xs,v=>∃a ws,v = .ref a/\H a=none/\H' a=oZ (.lst ws)/\cR K H' (λb=>i6 H b\/b=a) xs ws
def aI(K:W.Frag)(S:dG):Sp:=λvs H Q _=>∃(as:List A)(Q':RV->List T->Prop)(bx:Option SN),RE K (λa=>bx=oZ a) H (vs.map oZ) (j7 as)/\(jL as=none->bx=none)/\S as Q'/\
 ∀r xs v H',Q' r xs->(∀b o,H b=oZ o->bx≠oZ b->H' b=oZ o)->(∀a,bx=oZ a->∃ws,H' a=oZ (.lst ws)/\cR K H' (i6 H') xs ws)->GS K H H' r v->Q v H'
def vK(as:List A)(E:En):Option (List T):=match jL as with
 |none=>oZ []
 |some j=>match E[j]? with
  |some (oZ (.o true xs))=>if bM xs=true then oZ xs else none
  |_=>none
def BU(as:List A)(Q:RV->List T->Prop):ET where
 nx:=λE=>o1 (vK as E) λxs=>Q (.v .non) xs
 rt:=λr E=>o1 (vK as E) λxs=>match r with
  |.p t=>noL t=true/\Q (.v t) xs
  |.s i=>match E[i]? with
   |some (oZ (.o false ys))=>bM ys=true/\Q (.l ys) xs
   |some (oZ (.p t))=>noL t=true/\Q (.v t) xs
   |_=>False
theorem vH:∀{as:List A}{j:Nat}{k:Bool}{xs:List T},jL as=none->(j7 as)[j]?≠oZ (oZ (.o k xs))
 |[],j,_,_,_,h=>by simp[j7]at h
 |.b _::_,_,_,_,e,_=>by cases e
 |.v _::r,j,k,xs,e,h=>by
  have e':jL r=none:=by
   cases q:jL r with
   |none=>rfl
   |some m=>rw[jL,q]at e;cases e
  cases j with
  |zero=>simp[j7]at h
  |succ m=>exact vH (j:=m) e' (by simpa[j7]using h)
theorem Kz:∀{as:List A}{j:Nat}{k:Bool}{xs:List T},(j7 as)[j]?=oZ (oZ (.o k xs))->k=true
 |[],j,_,_,h=>by simp[j7]at h
 |.b _::_,0,_,_,h=>by simp[j7]at h;exact h.1
 |.v _::_,0,_,_,h=>by simp[j7]at h
 |.b _::r,j+1,_,_,h=>Kz (as:=r) (j:=j) (by simpa[j7]using h)
 |.v _::r,j+1,_,_,h=>Kz (as:=r) (j:=j) (by simpa[j7]using h)
theorem cI.okT{P:SR}{w:SX}{K:W.Frag}{mg:Str->Option oA}{base:oE}{x qual:Str}{st:SV}{f:SN}{fd:TK}{N ps:List Str}{k:Nat}{S:dG}{F:FS}(Fn:cI K x qual st f fd)(Sc:aF N ps (aC st))(len:∀as Q,S as Q->as.length=ps.length)(hb:∀(WR:oA)(A:oD)(outer:List Env)(s:oB)(H:Hp)(E:XK),cV k (A.deeper (UK qual (aC st) s.heap.objs.size f WR))->QB (vO cJ P w K mg base N qual (aC st) f WR A outer s H E).nox (cQ st) (gP K F))(hF:∀as Q,S as Q->F (BU as Q) (j7 as++LF (N.length-as.length) none)):(~~~aS) cJ (k+1) f fd ps (aI K S):=by
 refine Fn.okQ Sc (λvs H Q E⟨as,Q',bx,re,qm,hS,l⟩=>?_) (λWR A outer s H vs Q E hr⟨as,Q',bx,re,qm,hS,l⟩=>?_)
 ·have:=re.len;rw[LJ,dZ]at this;rw[this];exact len as Q' hS
 have hl:vs.length=as.length:=by have:=re.len;rwa [LJ,dZ]at this
 refine⟨_,hb WR A outer s H E hr,?_⟩;obtain⟨rm,ie⟩:=re.pad (N.length-as.length);have ji:j5 N vs=vs.map oZ++LF (N.length-as.length) none:=by unfold j5;rw[hl]
 rw[ji]
 -- the box's address
 have ni:∀b,Ow (λa=>bx=oZ a) (vs.map oZ) (j7 as) b->bx=oZ b:=λb z=>by
  obtain z|⟨i,kk,xs,h1,h2⟩:=z
  ·exact z
  obtain⟨a,ws,q1,_,_,q4⟩:=re.own i kk xs h1;rw[h2]at q1;cases q1;exact q4.mp (Kz h1)
 have fr:∀{H':Hp}{S':St}{E':En},Gs (λa=>bx=oZ a) H (vs.map oZ++LF (N.length-as.length) none) (j7 as++LF (N.length-as.length) none) H' S' E'->∀b o,H b=oZ o->bx≠oZ b->H' b=oZ o:=λg b o h n=>g.keep b o h λz=>n (ni b (ie b z));have fin:∀{r:RV}{xs:List T}{v:V}{H':Hp}{S':St}{E':En},vK as E'=oZ xs->Q' r xs->Gs (λa=>bx=oZ a) H (vs.map oZ++LF (N.length-as.length) none) (j7 as++LF (N.length-as.length) none) H' S' E'->RE K (λa=>bx=oZ a) H' S' E'->
   ((∀a,i6 H a->i6 H' a)->GS K H H' r v)->Q v H':=λ{r xs v H' S' E'}e q g VV hr=>by
  have zq:∀a,bx=oZ a->∃ws,H' a=oZ (.lst ws)/\cR K H' (i6 H') xs ws:=λa ha=>by
   unfold vK at e;cases qb:jL as with
   |none=>
    rw[qb]at e;cases e;rw[qm qb]at ha;cases ha
   |some j=>
    rw[qb]at e;simp only at e;split at e
    ·rename_i ys hE;split at e
     ·cases e;rename_i xp;obtain⟨b,ws,h1,h2,h3,h4⟩:=VV.own j true xs hE;have:bx=oZ b:=h4.mp rfl;rw[ha]at this;cases this;exact⟨ws,h2,cR.noL (λ_ z=>z) xp h3⟩
     ·cases e
    ·cases e
  refine l r xs v H' q (fr g) zq (hr λa zZ=>?_);obtain⟨ws,ha⟩:=zZ
  by_cases c:bx=oZ a
  ·obtain⟨ij,h,_⟩:=zq a c;exact⟨ij,h⟩
  ·exact⟨ws,fr g a _ ha c⟩
 refine⟨_,_,_,rm,hF as Q' hS,⟨λσ' H' E' q g VV=>?_,λr E' v H' S' q g VV rr=>?_,λ_ _ _ z=>z.elim,λ_ _ _ z=>z.elim⟩⟩
 ·obtain⟨xs,e,q⟩:=q.ex;exact fin e q g VV λ_=>rfl
 ·obtain⟨xs,e,q⟩:=q.ex;cases r with
  |p t=>exact fin e q.2 g VV λh=>Rp.noL h q.1 rr
  |s i=>
   simp only at q;split at q
   ·rename_i ys hE;refine fin e q.2 g VV λh=>?_;obtain⟨b,ws,h1,h2,h3,h4⟩:=VV.own i false ys hE;have je:S'[i]?=oZ (oZ v):=rr;rw[je]at h1;cases h1;refine⟨b,ws,rfl,?_,h2,cR.noL (λa z=>?_) q.1 h3⟩
    ·obtain z|z:=g.new b (.inr ⟨i,false,ys,hE,je⟩)
     ·have:=h4.mpr (ni b (ie b z));cases this
     ·exact z
    ·obtain z|z:=z
     ·exact h a z
     ·exact⟨ws,by rw[z];exact h2⟩
   ·rename_i t hE;obtain⟨w,h1,h2⟩:=VV.pure i t hE;have je:S'[i]?=oZ (oZ v):=rr;rw[je]at h1;cases h1;exact fin e q.2 g VV λh=>Rp.noL h q.1 h2
   ·exact q.elim
def Yk(E:En):List R->Option (List T)
 |[]=>oZ []
 |r::rs=>match vl E r,Yk E rs with
  |some t,oZ ts=>oZ (t::ts)
  |_,_=>none
def Hg(E:En)(Q:R->En->Prop):RV->Prop
 |.v t=>Q (.p t) E
 |.l xs=>Q (.s E.length) (E++[oZ (.o false xs)])
def Ee(S:dG)(Fr:FA):FE:=λE Q=>Fr E λrs E1=>o1 (Yk E1 rs) λts=>S (ts.map A.v) λr _=>Hg E1 Q r
def Si(S:dG)(Fr:FA):FE:=λE Q=>Fr E λrs E1=>match rs with
 |.s j::rs=>(match E1[j]? with
  |some (oZ (.o k xs))=>cond (rs.all λr=>!(qT E1 r).contains j) (o1 (Yk E1 rs) λts=>S (.b xs::ts.map A.v) λr ys=>Hg (E1.set j (oZ (.o k ys))) Q r) False
  |_=>False)
 |_=>False
theorem Bf{K:W.Frag}{B:SN->Prop}{H:Hp}{S:St}{E:En}(re:RE K B H S E):∀{rs:List R}{vs:List V}{ts:List T},Nw K B H S E rs vs->Yk E rs=oZ ts->∀(O:SN->Prop),(∀b,O b->Ow B S E b)->(∀r∈rs,∀j∈qT E r,∀a,S[j]?=oZ (oZ (.ref a))->¬O a)->cR K H O ts vs
 |[],_,_,h,e,_,_,_=>by cases e;exact h
 |r::rs,_,ts,⟨v,ws,e1,h1,h2⟩,e,O,hO,hu=>by
  cases q1:vl E r with
  |none=>simp only[Yk,q1]at e;cases e
  |some t=>
   cases q2:Yk E rs with
   |none=>simp only[Yk,q1,q2]at e;cases e
   |some us=>
    simp only[Yk,q1,q2]at e;cases e;exact⟨v,ws,e1,pP re h1 q1 O hO (hu r (by simp)),Bf re h2 q2 O hO λr' hr=>hu r' (by simp[hr])⟩
theorem vS:∀{ts:List T},j7 (ts.map A.v)=ts.map λt=>oZ (U.p t)
 |[]=>rfl
 |t::ts=>by simp[j7,vS (ts:=ts)]
theorem Ks:∀{ts:List T},jL (ts.map A.v)=none
 |[]=>rfl
 |t::ts=>by simp[jL,Ks (ts:=ts)]
theorem Cz{K:W.Frag}{B:SN->Prop}{H:Hp}{H':Hp}{S:St}{E:En}{E':En}(re:RE K B H S E)(VV:RE K B H' S E')(hk:∀b o,H b=oZ o->¬Ow B S E b->H' b=oZ o)(hw:∀b,Ow B S E' b->Ow B S E b)(hE:∀(i:Nat)(k:Bool)(xs:List T),E'[i]?=oZ (oZ (.o k xs))->(E[i]?=oZ (oZ (.o k xs))/\∀a,S[i]?=oZ (oZ (.ref a))->H' a=H a)\/∀a ws,S[i]?=oZ (oZ (.ref a))->H' a=oZ (.lst ws)->cR K H' (i6 H') xs ws)(hP:∀(i:Nat)(t:T),E'[i]?=oZ (oZ (.p t))->E[i]?=oZ (oZ (.p t))){r:RV}{v:V}(rv:GS K H H' r v){Q:R->En->Prop}(q:Hg E' Q r){Qv:VK}(lk:Lk K B H S E Q Qv):Qv v H':=by
 have kp:Kp (Ow B S E) (Ow B S E') H H':=⟨hk,λb z=>.inl (hw b z)⟩;cases r with
 |v t=>exact lk _ _ _ _ _ q ⟨kp,[],by simp⟩ VV (Rp.step (Kp.less λb z=>re.ow (hw b z)) rv)
 |l xs=>
  obtain⟨a,ws,rfl,h1,h2,h3⟩:=rv;have nOw:¬Ow B S E' a:=λz=>re.nn h1 (hw a z);have nB:¬B a:=λz=>re.nn h1 (.inl z);have kp2:Kp (Ow B S E) (λb=>Ow B S E' b\/b=a) H H':=⟨hk,λb z=>by
   obtain z|z:=z
   ·exact .inl (hw b z)
   ·exact .inr (by rw[z];exact h1)⟩
  obtain⟨r1,r2⟩:=VV.push h2 nOw nB (λi t h=>by
    obtain⟨w,q1,q2⟩:=re.pure i t (hP i t h);exact⟨w,q1,q2.step kp2⟩) (λi k ys h=>by
    obtain⟨b,us,q1,q2,q3,_⟩:=VV.own i k ys h;refine⟨b,us,q1,q2,?_⟩;obtain⟨z,zz⟩|z:=hE i k ys h
    ·obtain⟨b',fu,p1,p2,p3,_⟩:=re.own i k ys z;rw[q1]at p1;cases p1;have e:=zz b q1;rw[q2,p2]at e;cases e;exact p3.step kp2
    ·exact(z b us q1 q2).step (Kp.less λc hc=>by
      obtain hc|hc:=hc
      ·exact VV.ow hc
      ·exact⟨ws,by rw[hc];exact h2⟩)) (h3.step (Kp.less λb z=>by
    obtain z|z:=z
    ·exact .inl (re.ow (hw b z))
    ·exact .inr z))
  refine lk _ _ _ _ _ q ⟨⟨hk,λb z=>?_⟩,[oZ (.ref a)],rfl⟩ r1 ?_
  ·obtain z|z:=r2 b z
   ·exact .inl (hw b z)
   ·exact .inr (by rw[z];exact h1)
  ·show(S++[oZ (V.ref a)])[E'.length]?=_;rw[<-VV.len];simp
theorem Dr{K:W.Frag}{Fr:FA}{n:Nat}{S:dG}{σ:St}{H:Hp}{Q:VK}(h:aH K (Ee S Fr) σ H Q):Hb (aI K S) [] E0 (cK K n Fr) σ H Q:=by
 refine args (Fr:=Fr) h λB S' E rs vs H2 Q' hS re rr hn q lk=>?_;obtain⟨ts,e1,q⟩:=q.ex;rw[MG];have rp:=Bf re rr e1 (λ_=>False) (λ_ z=>z.elim) (λ_ _ _ _ _ _ z=>z);have no:∀b,¬Ow (λa=>(none:Option SN)=oZ a) (vs.map oZ) (ts.map λt=>oZ (U.p t)) b:=λb z=>by
  obtain z|⟨i,k,xs,h1,_⟩:=z
  ·cases z
  rw[LB]at h1;cases q:ts[i]? with
  |none=>rw[q]at h1;cases h1
  |some t=>rw[q]at h1;cases h1
 refine⟨ts.map A.v,_,none,?_,λ_=>rfl,q,λr xs v H' q2 fr _ rv=>?_⟩
 ·rw[vS];refine⟨by simp[rp.length],λi t h=>?_,λi k xs h=>?_,λi j k l xs ys a h _ _ _=>?_,λa z=>by cases z⟩
  ·rw[LB]at h;cases q:ts[i]? with
   |none=>rw[q]at h;cases h
   |some u=>
    rw[q]at h;cases h;obtain⟨v,h1,h2⟩:=rp.get q;exact⟨v,by rw[LB,h1];rfl,h2.step (Kp.less λb z=>no b z)⟩
  ·rw[LB]at h;cases q:ts[i]? with
   |none=>rw[q]at h;cases h
   |some t=>rw[q]at h;cases h
  ·rw[LB]at h;cases q:ts[i]? with
   |none=>rw[q]at h;cases h
   |some t=>rw[q]at h;cases h
 ·have same:∀b o,H2 b=oZ o->H' b=oZ o:=λb o z=>fr b o z (by intro z;cases z);exact Cz re (re.kept same) (λb o z _=>same b o z) (λb z=>z) (λi k xs h=>.inl ⟨h,λa ha=>by
   obtain⟨a',ws,h1,h2,_⟩:=re.own i k xs h;rw[ha]at h1;cases h1;rw[h2];exact same _ _ h2⟩) (λi t h=>h) rv q2 lk
theorem uN{X:Cx}{K:W.Frag}{pos:Pos}{e:oC}{es:List oC}{Fr:FA}{n k j:Nat}{x:Str}{ps:List Str}{S:dG}{p:Pos}(F:Fn X.prog X.w X.K X.mg X.base k x ps (aI K S))(hr:cV j X.A)(hk:k<=j)(hg:Gl X x)(ha:QA X (e::es) (cK K n Fr))(YN:(x==("__debug__":Str))=false:=by decide)(hs:bN (e::es)=true:=by rfl):QE X (.Call (.Name x p) (e::es) [] pos) (aH K (Ee S Fr)):=(wL F hr hk hg ha YN hs).le λ_ _ _ _ h=>Dr h
theorem d6{X:Cx}{K:W.Frag}{pos:Pos}{e:oC}{es:List oC}{Fr:FA}{n k j:Nat}{x:Str}{ps:List Str}{S:dG}{p:Pos}(F:Fn X.prog X.w X.K X.mg X.base k x ps (aI K S))(hr:cV j X.A)(hk:k<=j)(hg:Gl X x)(ha:QA X (e::es) (cK K n Fr))(YN:(x==("__debug__":Str))=false:=by decide)(hs:bN (e::es)=true:=by rfl):QE X (.Call (.Name x p) (e::es) [] pos) (aH K (Si S Fr)):=by
 refine(wL F hr hk hg ha YN hs).le λσ H Q hl h=>args (Fr:=Fr) h λB S' E rs vs H2 Q' hS re rr hn q lk=>?_;rw[MG];split at q
 ·rename_i jb rn;split at q
  ·rename_i kb xs hE;cases qc:(rn.all λr=>!(qT E r).contains jb)with
   |false=>rw[qc]at q;exact q.elim
   |true=>
    rw[qc]at q;obtain⟨ts,e1,q⟩:=o1.ex q;obtain⟨v0,ws,e2,h0,h2⟩:=rr;subst e2;have kc:S'[jb]?=oZ (oZ v0):=h0;obtain⟨a0,us,k1,k2,k3,k4⟩:=re.own jb kb xs hE;rw[kc]at k1;cases k1;have ie:Ow B S' E a0:=.inr ⟨jb,kb,xs,hE,kc⟩;have rp:=Bf re h2 e1 (λb=>b=a0) (λb z=>by rw[z];exact ie) (λr hr m hm a zr z=>by
     subst z;have c:=NW.mp qc r hr;have:m=jb:=by
      cases r with
      |p _=>simp[qT]at hm
      |s l=>
       cases ql:E[l]? with
       |none=>simp[qT,ql]at hm
       |some u=>
        cases u with
        |none=>simp[qT,ql]at hm
        |some u=>
         cases u with
         |p _=>simp[qT,ql]at hm
         |o kk zs=>
          simp[qT,ql]at hm;subst hm;exact re.inj _ _ kk kb zs xs a ql hE zr kc
     subst this;have hc:(qT E r).contains m=true:=by simpa using hm
     rw[hc]at c;cases c)
    have get:∀{i:Nat}{u:U},(oZ (U.o true xs)::ts.map λt=>oZ (U.p t))[i]?=oZ (oZ u)->(i=0/\u = .o true xs)\/∃m t,i=m+1/\ts[m]?=oZ t/\u = .p t:=λ{i u}h=>by
     cases i with
     |zero=>simp at h;exact .inl ⟨rfl,h.symm⟩
     |succ m=>
      rw[NV,LB]at h;cases q:ts[m]? with
      |none=>rw[q]at h;cases h
      |some t=>rw[q]at h;cases h;exact .inr ⟨m,t,rfl,q,rfl⟩
    have ow:∀b,Ow (λa=>oZ a0=oZ a) ((V.ref a0::ws).map oZ) (oZ (U.o true xs)::ts.map λt=>oZ (U.p t)) b->b=a0:=λb z=>by
     obtain z|⟨i,k,ys,h1,h3⟩:=z
     ·cases z;rfl
     obtain⟨c,z⟩|⟨m,t,_,_,z⟩:=get h1
     ·subst c;simp at h3;exact h3.symm
     ·cases z
    have nb:jL (A.b xs::ts.map A.v)≠none:=by intro z;cases z
    refine⟨A.b xs::ts.map A.v,_,oZ a0,?_,λz=>absurd z nb,q,λr ys v H' q2 fr bxk rv=>?_⟩
    ·have ee:j7 (A.b xs::ts.map A.v)=oZ (U.o true xs)::ts.map λt=>oZ (U.p t):=by simp[j7,vS]
     rw[ee];refine⟨by simp[rp.length],λi t h=>?_,λi k zs h=>?_,λi j k l zs ys a h1 h3 _ _=>?_,λa z=>by cases z;exact⟨us,k2⟩⟩
     ·obtain⟨_,z⟩|⟨m,t',e,q3,z⟩:=get h
      ·cases z
      ·cases z;subst e;obtain⟨v,h1,h2⟩:=rp.get q3;exact⟨v,by simp[h1],h2.step (Kp.less λb z=>ow b z)⟩
     ·obtain⟨c,z⟩|⟨m,t',e,q3,z⟩:=get h
      ·cases z;subst c;exact⟨a0,us,by simp,k2,k3.step (Kp.less λb z=>by rw[ow b z];exact ie),⟨λ_=>rfl,λ_=>rfl⟩⟩
      ·cases z
     ·obtain⟨c,z⟩|⟨m,t',e,q3,z⟩:=get h1
      ·obtain⟨c',z'⟩|⟨m,t',e,q3,z'⟩:=get h3
       ·rw[c,c']
       ·cases z'
      ·cases z
    ·obtain⟨ij,b1,b2⟩:=bxk a0 rfl;have hk:∀b o,H2 b=oZ o->¬Ow B S' E b->H' b=oZ o:=λb o z n=>fr b o z (by intro c;cases c;exact n ie);have xq:∀b,Ow B S' E b->i6 H' b:=λb z=>by
      by_cases c:b=a0
      ·subst c;exact⟨ij,b1⟩
      ·obtain⟨fu,e⟩:=re.ow z;exact⟨fu,fr b _ e (by intro z;cases z;exact c rfl)⟩
     have cg:∀{i:Nat}{u:U},(E.set jb (oZ (.o kb ys)))[i]?=oZ (oZ u)->(i=jb/\u = .o kb ys)\/(i≠jb/\E[i]?=oZ (oZ u)):=λ{i u}h=>by
      by_cases c:i=jb
      ·subst c;rw[ME (KZ.mp hE).1]at h;cases h;exact .inl ⟨rfl,rfl⟩
      ·rw[LX (λz=>c z.symm)]at h;exact .inr ⟨c,h⟩
     have kp:Kp (Ow B S' E) (Ow B S' E) H2 H':=⟨hk,λb z=>.inl z⟩;have vh:∀b,Ow B S' (E.set jb (oZ (.o kb ys))) b->Ow B S' E b:=λb z=>by
      obtain z|⟨i,k,zs,z1,z2⟩:=z
      ·exact .inl z
      obtain⟨c,z⟩|⟨c,z⟩:=cg z1
      ·subst c;exact .inr ⟨_,kb,xs,hE,z2⟩
      ·exact .inr ⟨i,k,zs,z,z2⟩
     have VV:RE K B H' S' (E.set jb (oZ (.o kb ys))):=by
      refine re.step hk (by simp) (λi t h=>?_) (λi k zs h=>?_) (λa z=>?_)
      ·obtain⟨_,z⟩|⟨_,z⟩:=cg h
       ·cases z
       ·exact z
      ·obtain⟨c,z⟩|⟨c,z⟩:=cg h
       ·cases z;subst c;refine⟨xs,hE,λa ha=>?_⟩;rw[kc]at ha;cases ha;exact⟨ij,b1,b2.step (Kp.less xq)⟩
       ·refine⟨zs,z,λa ha=>?_⟩;obtain⟨a',fu,p1,p2,p3,_⟩:=re.own i k zs z;rw[ha]at p1;cases p1;have na:a≠a0:=λw=>c (re.inj i jb k kb zs xs a0 z hE (by rw[<-w];exact ha) kc);exact⟨fu,fr a _ p2 (by intro w;cases w;exact na rfl),p3.step kp⟩
      ·exact xq a (.inl z)
     refine Cz re VV hk vh (λi k zs h=>?_) (λi t h=>?_) rv q2 lk
     ·obtain⟨c,z⟩|⟨c,z⟩:=cg h
      ·cases z
       right
       intro a us2 ha hu;subst c;rw[kc]at ha;cases ha;rw[b1]at hu;cases hu;exact b2
      ·left
       refine⟨z,λa ha=>?_⟩;obtain⟨a',fu,p1,p2,p3,_⟩:=re.own i k zs z;rw[ha]at p1;cases p1;have na:a≠a0:=λw=>c (re.inj i jb k kb zs xs a0 z hE (by rw[<-w];exact ha) kc);rw[p2];exact fr a _ p2 (by intro w;cases w;exact na rfl)
     ·obtain⟨_,z⟩|⟨_,z⟩:=cg h
      ·cases z
      ·exact z
  ·exact q.elim
 ·exact q.elim
def Ol(bk:Bool):Option (Option U)->Option U
 |some (oZ (.p t))=>oZ (.p t)
 |some (oZ (.o _ xs))=>if bk=true then oZ (.o true xs)else oZ (.p (.lst xs))
 |_=>none
def pD(t:Nat)(cap:List (Nat×Bool))(E:En):En:=LF t none++cap.map λk=>Ol k.2 E[k.1]?
def rG:List (Nat×Bool)->Option (Nat×Nat)
 |[]=>none
 |(k,true)::_=>oZ (0,k)
 |(_,false)::r=>(rG r).map λx=>(x.1+1,x.2)
def jU(cap:List (Nat×Bool)):Bool:=Nat.ble (cap.filter (·.2)).length 1
def Hk(t:Nat)(cap:List (Nat×Bool))(YQ E:En):Option En:=match rG cap with
 |none=>oZ E
 |some (j,k)=>match E[k]?,YQ[t+j]? with
  |some (oZ (.o b _)),oZ (oZ (.o true ys))=>if bM ys=true then oZ (E.set k (oZ (.o b ys)))else none
  |some (oZ (.p _)),_=>oZ E
  |_,_=>none
def kB(g:FG)(Fe:FE):List T->En->(En->Prop)->Prop
 |[],E,Q=>Q E
 |x::xs,E,Q=>g x E λE2=>Fe E2 λr E3=>match r with
  |.p t=>(match E3[E.length-1]? with
   |some (oZ (.o false acc))=>acc.length<9000/\kB g Fe xs ((E3.set (E.length-1) (oZ (.o false (acc++[t])))).take E.length) Q
   |_=>False)
  |.s _=>False
def Ef(t:Nat)(cap:List (Nat×Bool))(I:FI)(g:FG)(Fe:FE):FE:=λE Q=>I E λitems us E1=>cap.all (λk=>!(k.2&&us.contains k.1))=true/\
 kB g Fe items (pD t cap E1++[oZ (.o false [])]) λYQ=>match YQ[t+cap.length]? with
  |some (oZ (.o false zs))=>bM zs=true/\o1 (Hk t cap YQ E1) λE2=>Q (.s E2.length) (E2++[oZ (.o false zs)])
  |_=>False
theorem Ds(h:(pD t cap E)[i]?=oZ (oZ u)):∃j k b,i=t+j/\cap[j]?=oZ (k,b)/\Ol b E[k]?=oZ u:=by
 unfold pD at h;obtain c|c:=MN i t
 ·rw[LZ (by simpa using c)]at h;have:=LD h;rw[List.mem_replicate]at this;cases this.2
 ·rw[MI (by simpa using c),OS,LB]at h;cases q:cap[i-t]? with
  |none=>rw[q]at h;cases h
  |some x=>
   rw[q]at h;exact⟨i-t,x.1,x.2,⋯,q,by simpa using h⟩
theorem Dt{σ:St}{cap:List (Nat×Bool)}(h:cap[j]?=oZ (k,b)):(gN t (cap.map (·.1)) σ)[t+j]?=oZ ((σ[k]?).join):=by
 unfold gN;rw[MI (by simp)];simp[h]
theorem vI:∀{cap:List (Nat×Bool)}{j k:Nat},rG cap=oZ (j,k)->cap[j]?=oZ (k,true)
 |(k,true)::r,_,_,h=>by cases h;rfl
 |(m,false)::r,j,k,h=>by
  cases q:rG r with
  |none=>rw[rG,q]at h;cases h
  |some x=>
   rw[rG,q]at h;cases h
   simpa using vI (j:=x.1) (k:=x.2) q
theorem jM:∀{cap:List (Nat×Bool)}{j k:Nat},jU cap=true->cap[j]?=oZ (k,true)->rG cap=oZ (j,k)
 |[],j,k,_,h=>by simp at h
 |(m,true)::r,0,k,_,h=>by simp at h;subst h;rfl
 |(m,true)::r,j+1,k,ho,h=>by
  have h':r[j]?=oZ (k,true):=by simpa using h
  have:(k,true)∈r.filter (·.2):=SA.mpr ⟨LD h',rfl⟩;have hl:0<(r.filter (·.2)).length:=List.length_pos_of_mem this;unfold jU at ho;rw[List.filter_cons_of_pos (by rfl)]at ho;have:=Nat.le_of_ble_eq_true ho;simp only[LO]at this
  lia
 |(m,false)::r,0,k,_,h=>by simp at h
 |(m,false)::r,j+1,k,ho,h=>by
  have h':r[j]?=oZ (k,true):=by simpa using h
  have ig:jU r=true:=by
   unfold jU at ho⊢;rw[List.filter_cons_of_neg (by simp)]at ho;exact ho
  rw[rG,jM ig h'];rfl
def Di(i:Nat)(VN:List (Key×V))(σ:St)(H:Hp):Prop:=∃p,σ[i]?=oZ (oZ (.ref p))/\H p=oZ (.dK VN)
abbrev DD:=Option (Nat×List (Key×V))
def lC(d:DD)(σ:St)(H:Hp):Prop:=∀x,d=oZ x->Di x.1 x.2 σ H
theorem lC.same(h:lC d σ H)(k:∀b o,H b=oZ o->H' b=oZ o):lC d σ H':=λx e=>let⟨p,h1,h2⟩:=h x e;⟨p,h1,k _ _ h2⟩
theorem lC.kp{d:DD}{K:W.Frag}{B O:SN->Prop}{S σ:St}{E:En}{H H':Hp}(h:lC d σ H)(re:RE K B H S E)(k:Kp (Ow B S E) O H H'):lC d σ H':=λx e=>
 let⟨p,h1,h2⟩:=h x e;⟨p,h1,k.keep _ _ h2 λz=>by obtain⟨vs,e⟩:=re.ow z;rw[h2]at e;cases e⟩
def j0(d:DD)(K:W.Frag)(F:FE):TE:=λσ H Q=>lC d σ H/\aH K F σ H Q
def Gw(m:Bool)(t:Nat)(d:DD)(K:W.Frag)(g:FG):TG:=λv σ H Q=>lC d σ H/\tH K g v σ H λσ' H'=>lC d σ' H'->(m=true->∀i,t<=i->σ'[i]?= σ[i]?)->Q σ' H'
abbrev Mn(d:DD)(K:W.Frag)(g:FG):TG:=Gw false 0 d K g
theorem QG.gd{X:Cx}{K:W.Frag}{g:FG}{e:oC}(h:QG X e (tH K g)):QG X e (Mn none K g):=h.le λv σ H Q _ zZ=>by obtain⟨_,B,τ,E,t,Q',re,rp,hF,l⟩:=zZ;exact⟨B,τ,E,t,Q',re,rp,hF,λσ' H' E' a b c d=>l σ' H' E' a b c d (λ_ z=>by cases z) λz=>by cases z⟩
theorem QE.ed{X:Cx}{K:W.Frag}{Fe:FE}{e:oC}(h:QE X e (aH K Fe)):QE X e (j0 none K Fe):=h.le λ_ _ _ _ z=>z.2
def tT(d:DD)(K:W.Frag)(F:FB):TT:=λσ H Q=>lC d σ H/\eD K F σ H Q
section
variable{X:Cx}{K:W.Frag}{pos:Pos}{Fb:FB}{Fe:FE}{g:FG}{I:FI}
def fU(g:FG)(Fb:FB)(Fe:FE):List T->En->(En->Prop)->Prop
 |[],E,Q=>Q E
 |x::xs,E,Q=>g x E λE2=>Fb E2 λb E2'=>if b=true then Fe E2' λr E3=>match r with
  |.p t=>(match E3[E.length-1]? with
   |some (oZ (.o false acc))=>acc.length<9000/\fU g Fb Fe xs ((E3.set (E.length-1) (oZ (.o false (acc++[t])))).take E.length) Q
   |_=>False)
  |.s _=>False
  else fU g Fb Fe xs (E2'.take E.length) Q
def Al(t:Nat)(cap:List (Nat×Bool))(I:FI)(g:FG)(Fb:FB)(Fe:FE):FE:=λE Q=>I E λitems us E1=>cap.all (λk=>!(k.2&&us.contains k.1))=true/\
 fU g Fb Fe items (pD t cap E1++[oZ (.o false [])]) λYQ=>match YQ[t+cap.length]? with
  |some (oZ (.o false zs))=>bM zs=true/\o1 (Hk t cap YQ E1) λE2=>Q (.s E2.length) (E2++[oZ (.o false zs)])
  |_=>False
def WB(t:Nat)(cap:List (Nat×Bool))(YQ E E2:En):Prop:=E2.length=E.length/\∀(i:Nat)(u:U),E2[i]?=oZ (oZ u)->(∃(j:Nat)(b:Bool)(ys cj:List T),cap[j]?=oZ (i,true)/\E[i]?=oZ (oZ (.o b cj))/\YQ[t+j]?=oZ (oZ (.o true ys))/\bM ys=true/\u = .o b ys)\/(E[i]?=oZ (oZ u)/\∀(j:Nat)(b:Bool)(xs:List T),cap[j]?=oZ (i,true)->E[i]?≠oZ (oZ (.o b xs)))
theorem Rb(ho:jU cap=true)(h:Hk t cap YQ E=oZ E2):WB t cap YQ E E2:=by
 unfold Hk at h;cases qb:rG cap with
 |none=>
  rw[qb]at h;cases h;exact⟨rfl,λi u q=>.inr ⟨q,λj b xs z=>by rw[jM ho z]at qb;cases qb⟩⟩
 |some jk=>
  obtain⟨j,k⟩:=jk;rw[qb]at h;simp only at h;have only:∀{i j'},cap[j']?=oZ (i,true)->i=k:=λz=>by rw[jM ho z]at qb;cases qb;rfl
  split at h
  ·rename_i kb cj ys hE1 xr;split at h
   ·rename_i xt;cases h;refine⟨by simp,λi u q=>?_⟩
    by_cases c:i=k
    ·subst c;rw[ME (KZ.mp hE1).1]at q;cases q;exact .inl ⟨j,kb,ys,cj,vI qb,hE1,xr,xt,rfl⟩
    ·rw[LX (λz=>c z.symm)]at q;exact .inr ⟨q,λj' b xs z=>absurd (only z) c⟩
   ·cases h
  ·rename_i tp hE1;cases h;exact⟨rfl,λi u q=>.inr ⟨q,λj' b xs z y=>by rw[only z,hE1]at y;cases y⟩⟩
  ·cases h
theorem yU {cap:List (Nat×Bool)} (S:bL X N' scope t (cap.map (·.1))) (hm:jU cap=true\/m=true/\tm=t) (fx:(cap.map (·.1)).Nodup) {W:En->En->Option En} (hW:∀YQ E E2,W YQ E=oZ E2->WB t cap YQ E E2) {FC:List T->Prop->Prop} (hC:∀zs p,FC zs p->p) {rr:List T->RV} {σ:St} {Q Qv:VK} (hl:σ.length=X.N.length) (xu:∀H,lC d σ H->lC d' (gN t (cap.map (·.1)) σ) H) (out:∀(zs:List T) (D:SN) (ws:List V) (H1 H2:Hp) (p:Prop),FC zs p->H1 D=none->H2 D=oZ (.lst ws)->ws.length=zs.length->(bM zs=true->cR K H2 (λa=>i6 H1 a\/a=D) zs ws)->∃v,GS K H1 H2 (rr zs) v/\(Qv v H2->Q (.ref D) H2)) (h:j0 d K (λE Q'=>I E λitems us E1=>cap.all (λk=>!(k.2&&us.contains k.1))=true/\fU g Fb Fe items (pD t cap E1++[oZ (.o false [])]) λYQ=>match YQ[t+cap.length]? with
   | some (oZ (.o false zs))=>FC zs (o1 (W YQ E1) λE2=>Hg E2 Q' (rr zs))
   | _=>False) σ H Qv):qS t (cap.map (·.1)) (k6 K I) (Gw m tm d' K g) (tT d' K Fb) (j0 d' K Fe) σ H Q:=by
 obtain ⟨dt,B,S0,E,Q',hS,re,hF,lk⟩:=h;refine ⟨B,S0,E,_,hS,re,hF,λJ items us E1 H1 S1 gd q g1 VY se sf rk D hD=>?_⟩;obtain ⟨hus,q⟩:=q;obtain ⟨τ0,hS0⟩:=hS;obtain ⟨τ1,YU⟩:=g1.pre;have xv:∃τ,S1=σ++τ:=⟨τ0++τ1,by rw [YU,hS0,LW]⟩;have atσ:∀{j k:Nat} {b:Bool} {v:V},cap[j]? = oZ (k,b)->S1[k]? = oZ (oZ v)->σ[k]? = oZ (oZ v):=λ{j k b v} hj hv=>by
  obtain ⟨x,_,hx,_⟩:=S.caps j k (by rw [LB,hj];rfl);have hk:k<σ.length:=by rw [hl];exact (KZ.mp hx).1
  obtain ⟨τ,rfl⟩:=xv;rw [LZ hk] at hv;exact hv
 have atC:∀{j k:Nat} {b:Bool} {v:V},cap[j]? = oZ (k,b)->S1[k]? = oZ (oZ v)->(gN t (cap.map (·.1)) σ)[t+j]? = oZ (oZ v):=λ{j k b v} hj hv=>by rw [Dt hj,atσ hj hv];rfl
 have jh:∀{j k:Nat} {b:Bool} {v:V},cap[j]? = oZ (k,b)->(gN t (cap.map (·.1)) σ)[t+j]? = oZ (oZ v)->S1[k]? = oZ (oZ v):=λ{j k b v} hj hv=>by
  rw [Dt hj] at hv;have:σ[k]? = oZ (oZ v):=by
   cases z:σ[k]? with
   | none=>rw [z] at hv;cases hv
   | some y=>rw [z] at hv;simpa using hv
  exact fD xv this
 obtain ⟨Bp,sj⟩:∃Bp:SN->Prop,∀a,Bp a↔∃(j k:Nat) (kk:Bool) (xs:List T),cap[j]? = oZ (k,true)/\E1[k]? = oZ (oZ (.o kk xs))/\S1[k]? = oZ (oZ (.ref a)):=⟨_,λ_=>Iff.rfl⟩;have xw:∀{j j' m:Nat} {c c':Bool},cap[j]? = oZ (m,c)->cap[j']? = oZ (m,c')->j=j':=λ{j j' m c c'} e2 p1=>by
  have lt1:j<(cap.map (·.1)).length:=by rw [LJ];exact (KZ.mp e2).1
  exact (RG lt1 fx).mp (by rw [LB,LB,e2,p1];rfl)
 have nj:∀a,Bp a->Ow B S1 E1 a:=λa z=>by
  obtain ⟨j,k,kk,xs,_,h2,h3⟩:=(sj a).mp z;exact .inr ⟨k,kk,xs,h2,h3⟩
 -- an own list of the block is the box
 have nq:∀{i:Nat} {k:Bool} {xs:List T},(pD t cap E1)[i]? = oZ (oZ (.o k xs))->∃j m kk,i=t+j/\cap[j]? = oZ (m,true)/\E1[m]? = oZ (oZ (.o kk xs))/\k=true:=λ{i k xs} h=>by
  obtain ⟨j,m,c,e1,e2,e3⟩:=Ds h;refine ⟨j,m,?_⟩;cases qE:E1[m]? with
  | none=>rw [qE] at e3;cases e3
  | some u=>
   cases u with
   | none=>rw [qE] at e3;cases e3
   | some u=>
    cases u with
    | p _=>rw [qE] at e3;cases e3
    | o kk ys=>
     rw [qE] at e3;cases c
     ·simp [Ol] at e3
     ·simp [Ol] at e3;obtain ⟨e4,e5⟩:=e3;exact ⟨kk,e1,e2,by rw [e5],e4⟩
 have ko:∀b,Ow Bp (gN t (cap.map (·.1)) σ) (pD t cap E1) b->Bp b:=λb z=>by
  obtain z | ⟨i,k,xs,h1,h2⟩:=z
  ·exact z
  obtain ⟨j,m,kk,e1,e2,e3,_⟩:=nq h1;subst e1;exact (sj b).mpr ⟨j,m,kk,xs,e2,e3,jh e2 h2⟩
 have kl:Kp (Ow B S1 E1) (Ow Bp (gN t (cap.map (·.1)) σ) (pD t cap E1)) H1 H1:=Kp.less λb z=>nj b (ko b z);have xy:RE K Bp H1 (gN t (cap.map (·.1)) σ) (pD t cap E1):=by
  refine ⟨by simp [gN,pD],λi u h=>?_,λi k xs h=>?_,λi j k l xs ys a h1 h2 h3 h4=>?_,λa z=>VY.ow (nj a z)⟩
  ·obtain ⟨j,m,c,e1,e2,e3⟩:=Ds h;subst e1;cases qE:E1[m]? with
   | none=>rw [qE] at e3;cases e3
   | some w=>
    cases w with
    | none=>rw [qE] at e3;cases e3
    | some w=>
     cases w with
     | p w=>
      rw [qE] at e3;cases e3;obtain ⟨v,h1,h2⟩:=VY.pure m _ qE;exact ⟨v,atC e2 h1,h2.step kl⟩
     | o kk ys=>
      rw [qE] at e3;cases c
      ·simp [Ol] at e3;subst e3;obtain ⟨a,vs,h1,h2,h3,h4⟩:=VY.own m kk ys qE;refine ⟨_,atC e2 h1,a,vs,rfl,.inl ⟨λz=>?_,.inl h2⟩,h3.step kl⟩;obtain ⟨j',k',ya,kn,p1,p2,p3⟩:=(sj a).mp (ko a z);have e4:=VY.inj m k' kk ya ys kn a qE p2 h1 p3;subst e4;have lt1:j<(cap.map (·.1)).length:=by rw [LJ];exact (KZ.mp e2).1
       have lt2:j'<(cap.map (·.1)).length:=by rw [LJ];exact (KZ.mp p1).1
       have:j=j':=(RG lt1 fx).mp (by rw [LB,LB,e2,p1];rfl);subst this;rw [e2] at p1;cases p1
      ·simp [Ol] at e3
  ·obtain ⟨j,m,kk,e1,e2,e3,e4⟩:=nq h;subst e1;subst e4;obtain ⟨a,vs,h1,h2,h3,h4⟩:=VY.own m kk _ e3;exact ⟨a,vs,atC e2 h1,h2,h3.step kl,⟨λ_=>(sj a).mpr ⟨j,m,kk,_,e2,e3,h1⟩,λ_=>rfl⟩⟩
  ·obtain ⟨j1,m1,k1,e1,e2,e5,_⟩:=nq h1;obtain ⟨j2,m2,k2,e3,e4,e6,_⟩:=nq h2;subst e1;subst e3;have em:=VY.inj m1 m2 k1 k2 _ _ a e5 e6 (jh e2 h3) (jh e4 h4);subst em;rw [xw e2 e4]
 -- the accumulator gets a place
 obtain ⟨gD,reD⟩:=xy.lst (ts:=[]) (vs:=[]) hD rfl;have gd0:gd (upd H1 D (.lst [])) (Ow Bp (gN t (cap.map (·.1)) σ++[oZ (.ref D)]) (pD t cap E1++[oZ (.o false [])])):=by
  refine se.keep _ _ _ _ gD.kp (rk _ (λb z=>nj b (ko b z)) λj hj a ha z=>?_);obtain ⟨j',k',ya,kn,p1,p2,p3⟩:=(sj a).mp (ko a z);obtain ⟨kj,xj,qj⟩:=sf j hj;have ej:=VY.inj j k' kj ya xj kn a qj p2 ha p3;subst ej;have:=NW.mp hus (j,true) (LD p1);simp [hj] at this
 have hn:(gN t (cap.map (·.1)) σ).length=t+cap.length:=by simp [gN]
 have hnE:(pD t cap E1++[oZ (U.o false [])]).length=t+cap.length+1:=by simp [pD];lia
 -- the turns
 refine ⟨λi m' σ' H'=>m'=items.length-i/\i<=items.length/\∃E',fU g Fb Fe (items.drop i) E' (λYQ=>match YQ[t+cap.length]? with
   | some (oZ (.o false zs))=>FC zs (o1 (W YQ E1) λE2=>Hg E2 Q' (rr zs))
   | _=>False)/\σ'.length=t+cap.length/\E'.length=t+cap.length+1/\RE K Bp H' (σ'++[oZ (.ref D)]) E'/\
   Gs Bp (upd H1 D (.lst [])) (gN t (cap.map (·.1)) σ++[oZ (.ref D)]) (pD t cap E1++[oZ (.o false [])]) H' (σ'++[oZ (.ref D)]) E'/\gd H' (Ow Bp (σ'++[oZ (.ref D)]) E')/\lC d' σ' H'/\(m=true->∀i,tm<=i->σ'[i]? = (gN t (cap.map (·.1)) σ)[i]?),
  ⟨_,rfl,LV _,_,q,hn,hnE,reD,Kp.refl _ _,gd0,(xu _ (dt.kp re g1.kp)).kp xy gD.kp,λ_ _ _=>rfl⟩,?_⟩
 rintro i m' σ2 H2 ⟨rfl,cf,E3,q3,hl3,hE3,YO,g3,jf,vi,wo⟩;obtain XO | hge:=MN i items.length
 ·have hd:items.drop i=items[i]::items.drop (i+1):=MX XO;rw [hd] at q3;refine .inr ⟨se.go i H2 _ jf XO,λx H4 y=>?_⟩;obtain ⟨k4,s4,rp⟩:=se.yld i H2 _ x H4 _ jf (LA XO) (λa z=>by obtain ⟨vs,e⟩:=YO.ow z;rw [e];intro z;cases z) y;have jz:=YO.kept s4;have vg:=se.keep _ _ _ _ k4 jf;refine ⟨vi.same s4,_,[oZ (.ref D)],E3,_,_,jz,rp,q3,λσ5 H5 E5 q5 g5 jg hl5 vj s5=>?_⟩;have jw:m=true->∀i,tm<=i->σ5[i]? = (gN t (cap.map (·.1)) σ)[i]?:=λa i b=>(s5 a i b).trans (wo a i b);have hE5:E5.length=t+cap.length+1:=by rw [<-jg.len];simp [hl5,hl3]
  refine ⟨vj,_,σ5++[oZ (.ref D)],E5,_,⟨_,rfl⟩,jg,q5,λok zu H5' S5' zw so sv=>?_⟩;have ll:E5.length<=zu.length:=by
   obtain ⟨τ6,e6⟩:=so.pre;rw [<-jg.len,<-sv.len,e6];simp
  cases ok with
  | false=>
   have zw:fU g Fb Fe (items.drop (i+1)) (zu.take E3.length) _:=zw;obtain ⟨yb,yc⟩:=sv.cut (E:=E5) (σ:=σ5++[oZ (.ref D)]) so.pre jg.len;have eE:E5.length=E3.length:=⋯
   rw [eE] at yb yc;have gg:Gs Bp H4 (σ2++[oZ (.ref D)]) E3 H5' (σ5++[oZ (.ref D)]) (zu.take E3.length):=(g5.trans so.kp).trans (Kp.less yc);refine ⟨items.length-(i+1),⋯,rfl,XO,_,zw,⋯,?_,yb,(g3.trans k4).trans gg,se.keep _ _ _ _ gg vg,vj.kp jg so.kp,jw⟩;rw [MQ]
   lia
  | true=>
   obtain ⟨τ5,hτ5⟩:=so.pre;refine ⟨vj.kp jg so.kp,_,S5',zu,_,⟨oZ (.ref D)::τ5,by rw [hτ5];simp⟩,sv,zw,λr E6 v H6 S6 q6 g6 zx rr6=>?_⟩;have g6:=so.trans g6;cases r with
   | s _=>exact q6.elim
   | p u=>
    simp only at q6;have yd:E3.length-1=t+cap.length:=⋯
    rw [yd] at q6;split at q6
    ·rename_i acc ik;obtain ⟨hlen,q6⟩:=q6;obtain ⟨a6,ws,p1,p2,p3,p4⟩:=zx.own _ _ _ ik;have hS6:S6[t+cap.length]? = oZ (oZ (.ref D)):=fD g6.pre (by rw [MI ⋯];simp [hl5,hl3]);rw [hS6] at p1;cases p1;obtain ⟨g7,re7⟩:=zx.put (ys:=acc++[u]) (ws:=ws++[v]) ik hS6 (p3.append ⟨v,[],rfl,rr6,rfl⟩);obtain ⟨yb,yc⟩:=re7.cut (E:=E5) (σ:=σ5++[oZ (.ref D)]) (g6.trans g7).pre jg.len;have eE:E5.length=E3.length:=⋯
     rw [eE] at yb yc;have gg:Gs Bp H4 (σ2++[oZ (.ref D)]) E3 (upd H6 D (.lst (ws++[v]))) (σ5++[oZ (.ref D)]) ((E6.set (t+cap.length) (oZ (.o false (acc++[u])))).take E3.length):=(g5.trans (g6.trans g7).kp).trans (Kp.less yc);refine ⟨ws,p2,by rw [p3.length];exact cB (MW hlen),items.length-(i+1),⋯,rfl,XO,_,q6,⋯,?_,yb,(g3.trans k4).trans gg,se.keep _ _ _ _ gg vg,(vj.kp jg g6.kp).kp zx g7.kp,jw⟩;rw [MQ,QL];have:E5.length<=E6.length:=by
      obtain ⟨τ6,e6⟩:=g6.pre;rw [<-jg.len,<-zx.len,e6];simp
     lia
    ·exact q6.elim
 ·have ei:i=items.length:=⋯
  subst ei;rw [NX] at q3;refine .inl ⟨se.stop H2 _ jf,?_⟩;have vm:(match E3[t+cap.length]? with
   | some (oZ (.o false zs))=>FC zs (o1 (W E3 E1) λE2=>Hg E2 Q' (rr zs))
   | _=>False):=q3
  split at vm
  ·rename_i zs hzs;have q4:=vm;obtain ⟨E2,e2,vm⟩:=(hC _ _ vm).ex;obtain ⟨aD,ws,p1,p2,p3,p4⟩:=YO.own _ _ _ hzs;have hSD:(σ2++[oZ (V.ref D)])[t+cap.length]? = oZ (oZ (.ref D)):=by rw [MI ⋯];simp [hl3]
   rw [hSD] at p1;cases p1
   -- what is kept of the heap around
   have ie:∀b,Ow Bp (gN t (cap.map (·.1)) σ++[oZ (.ref D)]) (pD t cap E1++[oZ (.o false [])]) b->Bp b\/b=D:=λb z=>by
    obtain z | z:=gD.kp.new b z
    ·exact .inl (ko b z)
    ·obtain⟨fu,hu⟩:=reD.ow (by assumption)
     by_cases c:b=D
     ·exact .inr c
     ·rw [bD c,z] at hu;cases hu
   have kept:∀b o,H1 b=oZ o->¬Bp b->H2 b=oZ o:=λb o e n=>by
    refine g3.keep b o (by rw [bD (a8 e hD)];exact e) λz=>?_;obtain z | z:=ie b z
    ·exact n z
    ·exact a8 e hD z
   have hk:∀b o,H1 b=oZ o->¬Ow B S1 E1 b->H2 b=oZ o:=λb o e n=>kept b o e λz=>n (nj b z);obtain ⟨v0,rv0,aBJ⟩:=out zs D ws H1 H2 _ q4 hD p2 p3.length λxp=>cR.noL (λa z=>by
    obtain⟨fu,z⟩ | z:=z
    ·by_cases c:Bp a
     ·exact YO.ow (.inl c)
     ·exact ⟨fu,kept a _ z c⟩
    ·exact ⟨ws,by rw [z];exact p2⟩) xp p3
   obtain ⟨eL,eG⟩:=hW _ _ _ e2;have xq:∀b,Ow B S1 E1 b->i6 H2 b:=λb z=>by
    by_cases c:Bp b
    ·exact YO.ow (.inl c)
    ·obtain ⟨fu,e⟩:=VY.ow z;exact ⟨fu,kept b _ e c⟩
   -- a list that the block changed
   have bxI:∀{i j:Nat} {b:Bool} {cj ys:List T},cap[j]? = oZ (i,true)->E1[i]? = oZ (oZ (.o b cj))->E3[t+j]? = oZ (oZ (.o true ys))->bM ys=true->∃a tf,S1[i]? = oZ (oZ (.ref a))/\H2 a=oZ (.lst tf)/\cR K H2 (i6 H2) ys tf:=λ{i j b cj ys} hj hE xr xt=>by
    obtain ⟨a',tf,r1,r2,r3,r4⟩:=YO.own _ true ys xr;refine ⟨a',tf,?_,r2,cR.noL (λ_ z=>z) xt r3⟩;obtain ho | ⟨hm,rfl⟩:=hm
    ·obtain ⟨j',k',kk,xs,h1,h2,h3⟩:=(sj a').mp (r4.mp rfl);have e:=jM ho hj;rw [jM ho h1] at e;cases e;exact h3
    ·have mq:j<cap.length:=(KZ.mp hj).1;rw [LZ ⋯,wo hm _ (Nat.le_add_right _ _)] at r1;exact jh hj r1
   have nk:∀{i:Nat} {l:Bool} {kq:List T} {a:SN},(∀j b xs,cap[j]? = oZ (i,true)->E1[i]?≠oZ (oZ (.o b xs)))->E1[i]? = oZ (oZ (.o l kq))->S1[i]? = oZ (oZ (.ref a))->¬Bp a:=λ{i l kq a} c z ha w=>by
    obtain ⟨j',k',ya,kn,tj,vo,zy⟩:=(sj a).mp w;have:=VY.inj i k' l ya kq kn a z vo ha zy;subst this;exact c j' l kq tj z
   have vh:∀b,Ow B S1 E2 b->Ow B S1 E1 b:=λb z=>by
    obtain z | ⟨i,l,kq,z1,z2⟩:=z
    ·exact .inl z
    obtain⟨j,b',ys,cj,_,h2,_,_,_⟩ | ⟨z,_⟩:=eG _ _ z1
    ·exact .inr ⟨_,_,_,h2,z2⟩
    ·exact .inr ⟨i,l,kq,z,z2⟩
   have kp:Kp (Ow B S1 E1) (Ow B S1 E1) H1 H2:=⟨hk,λb z=>.inl z⟩;refine aBJ (Cz VY (VY.step hk eL (λi u h=>?_) (λi l kq h=>?_) (λa z=>xq a (.inl z))) hk vh (λi l kq h=>?_) (λi u h=>?_) rv0 vm (lk.step g1))
   ·obtain⟨_,_,_,_,_,_,_,_,z⟩ | ⟨z,_⟩:=eG _ _ h
    ·cases z
    ·exact z
   ·obtain⟨j,b',ys,cj,h1,h2,h3,h4,z⟩ | ⟨z,nb⟩:=eG _ _ h
    ·cases z;obtain ⟨a0,tf,r1,r2,r3⟩:=bxI h1 h2 h3 h4;refine ⟨cj,h2,λa ha=>?_⟩;rw [r1] at ha;cases ha;exact ⟨tf,r2,r3.step (Kp.less xq)⟩
    ·refine ⟨kq,z,λa ha=>?_⟩;obtain ⟨a',fu,tj,vo,zy,_⟩:=VY.own i l kq z;rw [ha] at tj;cases tj;exact ⟨fu,kept a _ vo (nk nb z ha),zy.step kp⟩
   ·obtain⟨j,b',ys,cj,h1,h2,h3,h4,z⟩ | ⟨z,nb⟩:=eG _ _ h
    ·cases z
     right
     intro a us2 ha hu;obtain ⟨a0,tf,r1,r2,r3⟩:=bxI h1 h2 h3 h4;rw [r1] at ha;cases ha;rw [r2] at hu;cases hu;exact r3
    ·left
     refine ⟨z,λa ha=>?_⟩;obtain ⟨a',fu,tj,vo,zy,_⟩:=VY.own i l kq z;rw [ha] at tj;cases tj;rw [vo];exact kept a _ vo (nk nb z ha)
   ·obtain⟨_,_,_,_,_,_,_,_,z⟩ | ⟨z,_⟩:=eG _ _ h
    ·cases z
    ·exact z
  ·exact vm.elim
theorem yT(S:bL X N' scope t (cap.map (·.1)))(ho:jU cap=true)(fx:(cap.map (·.1)).Nodup)(hl:σ.length=X.N.length)(xu:∀H,lC d σ H->lC d' (gN t (cap.map (·.1)) σ) H)(h:j0 d K (Al t cap I g Fb Fe) σ H Q):qS t (cap.map (·.1)) (k6 K I) (Mn d' K g) (tT d' K Fb) (j0 d' K Fe) σ H Q:=
 yU (W:=Hk t cap) (FC:=λzs p=>bM zs=true/\p) (rr:=.l) (Qv:=Q) S (.inl ho) fx (λ_ _ _=>Rb ho) (λ_ _ z=>z.2) hl xu (λzs D ws H1 H2 p hc hD h2 _ hn=>⟨_,⟨D,ws,rfl,hD,h2,hn hc.1⟩,id⟩) h
def bT:FB:=λE Q=>Q true E
theorem Aj(g:FG)(Fe:FE):∀xs,fU g bT Fe xs=kB g Fe xs
 |[]=>rfl
 |x::xs=>by
  funext E Q
  simp only[fU,kB,bT,if_true,Aj g Fe xs]
theorem Hc(h:qS t cap (k6 K I) (Gw m tm d K g) (tT d K bT) te σ H Q):zN t cap (k6 K I) (Gw m tm d K g) te σ H Q:=by
 obtain⟨B,S0,E,Q',hS,re,hF,lk⟩:=h;refine⟨B,S0,E,Q',hS,re,hF,λJ items us E1 H1 S1 gd q g1 VY ok sf rk D hD=>?_⟩;obtain⟨W,w0,tn⟩:=lk J items us E1 H1 S1 gd q g1 VY ok sf rk D hD;refine⟨W,w0,λi m σ' H' z=>(tn i m σ' H' z).imp id λ⟨go,st⟩=>⟨go,λx H2 y=>?_⟩⟩;obtain⟨dt,B',τ,E',u,Q2,VV,rp,vf,l⟩:=st x H2 y;refine⟨dt,B',τ,E',u,Q2,VV,rp,vf,λσ3 H3 E3 a b c e vi s3=>?_⟩;obtain⟨_,B3,S3,E4,Q4,_,jz,z,k⟩:=l σ3 H3 E3 a b c e vi s3;exact k true E4 H3 S3 z .refl jz
theorem Dz(S:bL X N' scope t (cap.map (·.1)))(ho:jU cap=true)(fx:(cap.map (·.1)).Nodup)(hl:σ.length=X.N.length)(xu:∀H,lC d σ H->lC d' (gN t (cap.map (·.1)) σ) H)(h:j0 d K (Ef t cap I g Fe) σ H Q):zN t (cap.map (·.1)) (k6 K I) (Mn d' K g) (j0 d' K Fe) σ H Q:=by
 have e:Al t cap I g bT Fe=Ef t cap I g Fe:=by unfold Al Ef;simp only[Aj]
 rw[<-e]at h;exact Hc (yT S ho fx hl xu h)
theorem QT.bd(h:QT X c (eD K Fb)):QT X c (tT none K Fb):=h.le λ_ _ _ z=>z.2
theorem iC(hc:X.calm=true)(S:bL X N' scope t (cap.map (·.1)))(ho:jU cap=true)(fx:(cap.map (·.1)).Nodup)(hi:QI X target iter (k6 K I))(hg:∀C s3 H3 fp,QG (aX X N' scope C s3 H3 fp) target (tH K g))(he:∀C s3 H3 fp,QE (aX X N' scope C s3 H3 fp) elt (aH K Fe))(hs:∀x,TC iter X.env x=pure x:=by intro _;rfl):
  QE X (.ListComp elt [⟨target,iter,[],0⟩] scope pos) (aH K (Ef t cap I g Fe)):=
 (Mc hc S hi (λC s H f=>(hg C s H f).gd) (λC s H f=>(he C s H f).ed) hs).le λσ H Q hl h=>Dz (d:=none) (d':=none) S ho fx hl (λ_ _ _ z=>by cases z) ⟨(λ_ z=>by cases z),h⟩
end
theorem Gf(hNn:X.N.Nodup)(jj:X.N[ix]?=oZ xn)(hxn:xR X.env.scope xn)(qq:X.fn xn=true\/X.env.scope.names.lookup xn=oZ .local)(tq:TV (.ListComp elt [⟨target,iter,ifs,0⟩] scope pos) (oZ (.Name xn pos')) ck.line X.env=pure true)(hc:X.calm=true)(S:bL X N' scope t cap)(hi:PI X target iter wi)(hg:∀C s3 H3 fp,PG (aX X N' scope C s3 H3 fp) target g)(hb:∀C s3 H3 fp,J9 (aX X N' scope C s3 H3 fp) ifs tb)(he:∀C s3 H3 fp,PE (aX X N' scope C s3 H3 fp) elt te)(hs:∀x,TC iter X.env x=pure x:=by intro _;rfl):
  PS X (.Assign [.Name xn pos'] (.ListComp elt [⟨target,iter,ifs,0⟩] scope pos) ck) (Kh (qS t cap wi g tb te) (nA ix)):=by
 intro pins s σ H DD I h;rw[exec_Assign_Name_used _ _ _ _ tq];refine SO (UE (SO ?_));unfold evalThenUse;refine SO ?_;obtain⟨QQ,hQQ⟩:∃QQ:oA->oB->Prop,QQ=λ_ s'=>∃σ' H',aT X pins σ' H' s'/\DD.nx σ' H':=⟨_,rfl⟩;refine cL (Q:=QQ) ?_ (λ_ s' h'=>TB (TB (by rw[hQQ]at h';exact h')));refine yS (use:=oZ (UN (.Name xn pos') X.env)) hc S hi hg hb he hs I h λs3 s6 H3 H5 fp D m I3 f3 ke ZZ bw YE nh ba qn=>?_;have I7:aT X pins σ H5 s6:=I3.call' (ch:=fp) nh ZZ bw ba f3;have fC:pC X pins H5 s3.heap.objs.size:=I3.fpOk (LN _) YE;refine wpAny_assign_Name (zK I7 hNn jj hxn (v:=.ref D) rfl (λs8 I8⟨a,sa,ha⟩=>?_) qq);have nC:s3.heap.objs.size≠a:=by
  obtain rfl|ha:=ha
  ·exact fC.2.1
  ·exactλz=>fC.2.2.2.2.1 _ _ ha z.symm
 obtain⟨mC,hnC⟩:∃m',s8.heap.Ns s3.heap.objs.size m':=⟨m,ke.at λo e=>sa.extBut _ _ nC e⟩;refine⟨mC,hnC,λh' qh=>?_⟩;rw[hQQ];refine⟨_,H5,I8.turnedL (t':=s8.toks) (ch:=[s3.heap.objs.size]) (λb u hb e=>qh.extBut _ _ (by simpa using hb) e) (λb hb=>by rw[LY.mp hb];exact fC),qn⟩
theorem D5(hNn:X.N.Nodup)(jj:X.N[ix]?=oZ xn)(hxn:xR X.env.scope xn)(qq:X.fn xn=true\/X.env.scope.names.lookup xn=oZ .local)(tq:TV (.ListComp elt [⟨target,iter,[],0⟩] scope pos) (oZ (.Name xn pos')) ck.line X.env=pure true)(hc:X.calm=true)(S:bL X N' scope t cap)(hi:PI X target iter wi)(hg:∀C s3 H3 fp,PG (aX X N' scope C s3 H3 fp) target g)(he:∀C s3 H3 fp,PE (aX X N' scope C s3 H3 fp) elt te)(hs:∀x,TC iter X.env x=pure x:=by intro _;rfl):
  PS X (.Assign [.Name xn pos'] (.ListComp elt [⟨target,iter,[],0⟩] scope pos) ck) (Kh (zN t cap wi g te) (nA ix)):=
 λpins s σ H DD I h=>Gf (tb:=λ_ H Q=>Q true H) hNn jj hxn qq tq hc S hi hg (λ_ _ _ _ _ _ _ _ _ I z=>wpAny_tests_nil ⟨_,I,z⟩) he hs pins s σ H DD I h
theorem Au{X:Cx}{K:W.Frag}{Fe:FE}{g:FG}{I:FI}{target elt iter:oC}{scope:UI}{pos pos' ck:Pos}{N':List Str}{cap:List (Nat×Bool)}{t i:Nat}{x:Str}(hN:X.N.Nodup)(hi:X.N[i]?=oZ x)(hx:xR X.env.scope x)(tq:TV (.ListComp elt [⟨target,iter,[],0⟩] scope pos) (oZ (.Name x pos')) ck.line X.env=pure true)(hc:X.calm=true)(S:bL X N' scope t (cap.map (·.1)))(ho:jU cap=true)(fx:(cap.map (·.1)).Nodup)(hit:QI X target iter (k6 K I))(hg:∀C s3 H3 fp,QG (aX X N' scope C s3 H3 fp) target (tH K g))(he:∀C s3 H3 fp,QE (aX X N' scope C s3 H3 fp) elt (aH K Fe))(hs:∀x,TC iter X.env x=pure x:=by intro _;rfl)(hf:X.fn x=true\/X.env.scope.names.lookup x=oZ .local:=by first|exact .inl rfl|exact .inr rfl|assumption):
  QS X (.Assign [.Name x pos'] (.ListComp elt [⟨target,iter,[],0⟩] scope pos) ck) (gP K (Vz i (Ef t cap I g Fe))):=
 QS.le ⟨D5 hN hi hx hf tq hc S hit.h (λC s3 H3 fp=>(hg C s3 H3 fp).gd.h) (λC s3 H3 fp=>(he C s3 H3 fp).ed.h) hs⟩ λD σ H hl⟨B,E,DT,re,hF,l⟩=>Dz (d:=none) (d':=none) S ho fx hl (λ_ _ _ z=>by cases z) ⟨(λ_ z=>by cases z),B,σ,E,_,⟨[],by simp⟩,re,hF,λr E' v H' S' q g VV rr=>by
  obtain⟨u,e1,q⟩:=q.ex;rw[<-re.len]at e1 q;obtain⟨r1,ow⟩:=lO (i:=i) VV g.pre rr e1;exact l.nx _ _ _ q (g.kp.trans (Kp.less ow)) r1⟩
mutual
def cS:T->T->Bool
 |.non,.non=>true
 |.bl a,.bl b=>a==b
 |.int a,.int b=>a==b
 |.bl a,.int b=>(if a then 1 else 0)==b
 |.int a,.bl b=>a==(if b then 1 else 0)
 |.str a,.str b=>a==b
 |.tup xs,.tup ys=>vT xs ys
 |.lst xs,.lst ys=>vT xs ys
 |_,_=>false
def vT:List T->List T->Bool
 |[],[]=>true
 |x::xs,y::ys=>cS x y&&vT xs ys
 |_,_=>false
end
mutual
def dT:T->Nat
 |.tup xs=>K3 xs+1
 |.lst xs=>K3 xs+1
 |_=>0
def K3:List T->Nat
 |[]=>0
 |x::xs=>Nat.max (dT x) (K3 xs)
end
mutual
theorem dQ:∀x:T,cS x x=true
 |.non=>rfl
 |.bl a=>by simp[cS]
 |.int a=>by simp[cS]
 |.str a=>by simp[cS]
 |.tup xs=>by rw[cS];exact sD xs
 |.lst xs=>by rw[cS];exact sD xs
theorem sD:∀xs:List T,vT xs xs=true
 |[]=>rfl
 |x::xs=>by rw[vT,dQ x,sD xs];rfl
end
theorem jP:∀xs ys:List T,vT xs ys=((NP (min xs.length ys.length)).all (λj=>cS (xs.getD j .non) (ys.getD j .non))&&xs.length==ys.length)
 |[],[]=>rfl
 |[],_::_=>by simp[vT]
 |_::_,[]=>by simp[vT]
 |x::xs,y::ys=>by
  rw[vT,jP xs ys];simp only[LO,Nat.succ_min_succ,List.range_succ_eq_map,List.all_cons,List.all_map];simp[Function.comp_def,Bool.and_assoc]
theorem sC:∀{xs:List T}{x:T},x∈xs->dT x<=K3 xs
 |y::xs,x,h=>by
  rw[K3];obtain rfl|h:=LH.mp h
  ·exact Nat.le_max_left _ _
  ·exact MV (sC h) (Nat.le_max_right _ _)
mutual
def Rq(K:W.Frag)(H:Hp):T->V->Prop
 |.non,v=>v = .non
 |.bl b,v=>v = .bl b
 |.int i,v=>v = .int i
 |.str x,v=>v = .str x
 |.tup xs,v=>∃a vs,v = .ref a/\Dh K H a vs/\xT K H xs vs
 |.lst xs,v=>∃a vs,v = .ref a/\lA K H a vs/\xT K H xs vs
def xT(K:W.Frag)(H:Hp):List T->List V->Prop
 |[],vs=>vs=[]
 |x::xs,vs=>∃v r,vs=v::r/\Rq K H x v/\xT K H xs r
end
section
variable{K:W.Frag}{H:Hp}{O:SN->Prop}
mutual
theorem Rp.rq:∀{t:T}{v:V},Rp K H O t v->Rq K H t v
 |.non,_,h=>h
 |.bl _,_,h=>h
 |.int _,_,h=>h
 |.str _,_,h=>h
 |.tup xs,v,h=>by
  obtain⟨a,vs,e,h1,h2⟩:=h;exact⟨a,vs,e,h1.imp (λh=>.inl h.2) id,cR.rq h2⟩
 |.lst xs,v,h=>by
  obtain⟨a,vs,e,h1,h2⟩:=h;exact⟨a,vs,e,h1.imp And.right id,cR.rq h2⟩
theorem cR.rq:∀{xs:List T}{vs:List V},cR K H O xs vs->xT K H xs vs
 |[],_,h=>h
 |x::xs,vs,h=>by
  obtain⟨v,r,e,h1,h2⟩:=h;exact⟨v,r,e,Rp.rq h1,cR.rq h2⟩
end
theorem Rt.rq(h:Rt K H O t v):Rq K H t v:=by
 cases t with
 |tup xs=>obtain⟨a,vs,e,h1,h2⟩:=h;exact⟨a,vs,e,h1,h2.rq⟩
 |lst xs=>obtain⟨a,vs,e,h1,h2⟩:=h;exact⟨a,vs,e,h1,h2.rq⟩
 |non=>exact h
 |bl _=>exact h
 |int _=>exact h
 |str _=>exact h
theorem xT.length:∀{xs:List T}{vs:List V},xT K H xs vs->vs.length=xs.length
 |[],_,h=>by cases h;rfl
 |_::_,_,⟨v,r,e,_,h2⟩=>by rw[e,LO,LO,xT.length h2]
theorem xT.get:∀{xs:List T}{vs:List V}{i:Nat}{x:T},xT K H xs vs->xs[i]?=oZ x->∃v,vs[i]?=oZ v/\Rq K H x v
 |[],_,_,_,_,e=>by simp at e
 |_::_,_,0,_,⟨v,r,e,h1,_⟩,q=>by simp at q;subst q;subst e;exact⟨v,rfl,h1⟩
 |_::_,_,i+1,x,⟨v,r,e,_,h2⟩,q=>by
  obtain⟨w,q1,q2⟩:=xT.get (i:=i) (x:=x) h2 (by simpa using q);subst e;exact⟨w,by simpa using q1,q2⟩
end
section
variable{X:Cx}{pins:List (SN×Obj)}{σ:St}{H:Hp}{s:oB}
theorem aT.nolt(I:aT X pins σ H s)(h1:lA X.K H a vs)(h2:Dh X.K H a ws):False:=by
 obtain⟨_,_,p1,_⟩:=I.list h1;obtain⟨_,_,p2,_⟩:=I.tuple h2;exact SeqAt.ne_of_list_tuple p1.isList p2 rfl
mutual
theorem Rq.inj(I:aT X pins σ H s):∀{x y:T}{v:V},Rq X.K H x v->Rq X.K H y v->x=y
 |.non,.non,_,_,_=>rfl
 |.bl a,.bl b,_,h,k=>by cases h;cases k;rfl
 |.int a,.int b,_,h,k=>by cases h;cases k;rfl
 |.str a,.str b,_,h,k=>by cases h;cases k;rfl
 |.tup xs,.tup ys,v,⟨a,vs,e,h1,h2⟩,⟨b,ws,f,k1,k2⟩=>by
  rw[e]at f;cases f;rw[I.tuple_inj h1 k1]at h2;rw[xT.inj I h2 k2]
 |.lst xs,.lst ys,v,⟨a,vs,e,h1,h2⟩,⟨b,ws,f,k1,k2⟩=>by
  rw[e]at f;cases f;rw[I.list_inj h1 k1]at h2;rw[xT.inj I h2 k2]
 |.tup xs,.lst ys,v,⟨a,vs,e,h1,h2⟩,⟨b,ws,f,k1,k2⟩=>by rw[e]at f;cases f;exact(I.nolt k1 h1).elim
 |.lst xs,.tup ys,v,⟨a,vs,e,h1,h2⟩,⟨b,ws,f,k1,k2⟩=>by rw[e]at f;cases f;exact(I.nolt h1 k1).elim
 |.non,.bl _,_,h,k=>by cases h;cases k
 |.non,.int _,_,h,k=>by cases h;cases k
 |.non,.str _,_,h,k=>by cases h;cases k
 |.non,.tup _,_,h,⟨_,_,k,_⟩=>by cases h;cases k
 |.non,.lst _,_,h,⟨_,_,k,_⟩=>by cases h;cases k
 |.bl _,.non,_,h,k=>by cases h;cases k
 |.bl _,.int _,_,h,k=>by cases h;cases k
 |.bl _,.str _,_,h,k=>by cases h;cases k
 |.bl _,.tup _,_,h,⟨_,_,k,_⟩=>by cases h;cases k
 |.bl _,.lst _,_,h,⟨_,_,k,_⟩=>by cases h;cases k
 |.int _,.non,_,h,k=>by cases h;cases k
 |.int _,.bl _,_,h,k=>by cases h;cases k
 |.int _,.str _,_,h,k=>by cases h;cases k
 |.int _,.tup _,_,h,⟨_,_,k,_⟩=>by cases h;cases k
 |.int _,.lst _,_,h,⟨_,_,k,_⟩=>by cases h;cases k
 |.str _,.non,_,h,k=>by cases h;cases k
 |.str _,.bl _,_,h,k=>by cases h;cases k
 |.str _,.int _,_,h,k=>by cases h;cases k
 |.str _,.tup _,_,h,⟨_,_,k,_⟩=>by cases h;cases k
 |.str _,.lst _,_,h,⟨_,_,k,_⟩=>by cases h;cases k
 |.tup _,.non,_,⟨_,_,h,_⟩,k=>by cases h;cases k
 |.tup _,.bl _,_,⟨_,_,h,_⟩,k=>by cases h;cases k
 |.tup _,.int _,_,⟨_,_,h,_⟩,k=>by cases h;cases k
 |.tup _,.str _,_,⟨_,_,h,_⟩,k=>by cases h;cases k
 |.lst _,.non,_,⟨_,_,h,_⟩,k=>by cases h;cases k
 |.lst _,.bl _,_,⟨_,_,h,_⟩,k=>by cases h;cases k
 |.lst _,.int _,_,⟨_,_,h,_⟩,k=>by cases h;cases k
 |.lst _,.str _,_,⟨_,_,h,_⟩,k=>by cases h;cases k
theorem xT.inj(I:aT X pins σ H s):∀{xs ys:List T}{vs:List V},xT X.K H xs vs->xT X.K H ys vs->xs=ys
 |[],[],_,_,_=>rfl
 |[],_::_,_,h,⟨_,_,k,_⟩=>by cases h;cases k
 |_::_,[],_,⟨_,_,h,_⟩,k=>by cases k;cases h
 |x::xs,y::ys,_,⟨v,r,e,h1,h2⟩,⟨w,r',f,k1,k2⟩=>by
  rw[e]at f;cases f;rw[Rq.inj I h1 k1,xT.inj I h2 k2]
end
theorem Hs{A:oD}{u v:oA}{k:Bool}(h:SeqAt.RcAt A s u v k)(hk:u=v->k=true)(hf:∀b t,u≠.float b t):SeqAt.EqAt A s u v k:=λprog w E Q hq=>by
 unfold eqBool;refine UO ?_;refine wpAny_ite_split (λye=>?_) (λ_=>?_)
 ·rw[hk (eq_of_beq ye)]at hq;exact SO (VH (TB hq))
 ·cases u with
  |float b t=>exact absurd rfl (hf b t)
  |_=>exact SO (h prog w E _ (TU hq))
theorem Mi(h:bC x u)(k:bC y u):x=y:=h.inj k
theorem rM(A:oD)(rx:a9 vs VL)(ry:a9 ws js)(hx:xT X.K H xs vs)(hy:xT X.K H ys ws)(ih:∀(j:Nat)(x y:T)(v w:V)(u u':oA),xs[j]?=oZ x->ys[j]?=oZ y->Rq X.K H x v->Rq X.K H y w->bC v u->bC w u'->SeqAt.EqAt A s u u' (cS x y)):
  ∀j(h1:j<VL.toArray.size)(h2:j<js.toArray.size),SeqAt.EqAt A s VL.toArray[j] js.toArray[j] (cS (xs.getD j .non) (ys.getD j .non)):=λj h1 h2=>by
 have l1:=rx.length;have l2:=ry.length;have l3:=hx.length;have l4:=hy.length;have zk:j<VL.length:=by simpa using h1
 have qz:j<js.length:=by simpa using h2
 have e1:xs[j]?=oZ xs[j]:=LA (by omega);have e2:ys[j]?=oZ ys[j]:=LA (by omega);obtain⟨v,q1,q2⟩:=hx.get e1;obtain⟨w,q3,q4⟩:=hy.get e2;obtain⟨u1,z1,r1⟩:=rx.get q1;obtain⟨v1,z2,r2⟩:=ry.get q3;have y1:VL.toArray[j]=u1:=by
  rw[LA zk]at z1
  simpa using Option.some.inj z1
 have y2:js.toArray[j]=v1:=by
  rw[LA qz]at z2
  simpa using Option.some.inj z2
 rw[y1,y2];have g1:xs.getD j .non=xs[j]:=by simp[List.getD,e1]
 have g2:ys.getD j .non=ys[j]:=by simp[List.getD,e2]
 rw[g1,g2];exact ih j _ _ v w u1 v1 e1 e2 q2 q4 r1 r2
theorem lQ(I:aT X pins σ H s)(hx:Rq X.K H x v)(rx:bC v u):(x = .non/\u = .none)\/(∃b,x = .bl b/\u = .bool b)\/(∃i t,x = .int i/\u = .int i t)\/(∃c t,x = .str c/\u = .str c t)\/(∃xs a VL,x = .tup xs/\u = .ref a/\s.heap.IsTuple a VL)\/∃xs a VL,x = .lst xs/\u = .ref a/\s.heap.IsList a VL:=by
 cases x with
 |non=>cases hx;cases rx;exact .inl ⟨rfl,rfl⟩
 |bl b=>cases hx;cases rx;exact .inr (.inl ⟨_,rfl,rfl⟩)
 |int i=>cases hx;obtain⟨t,rfl⟩:=rx;exact .inr (.inr (.inl ⟨_,t,rfl,rfl⟩))
 |str c=>cases hx;obtain⟨t,rfl⟩:=rx;exact .inr (.inr (.inr (.inl ⟨_,t,rfl,rfl⟩)))
 |tup xs=>
  obtain⟨a,vs,e,q,_⟩:=hx;subst e;cases rx;obtain⟨VL,_,p,_⟩:=I.tuple q;exact .inr (.inr (.inr (.inr (.inl ⟨xs,a,_,rfl,rfl,p⟩))))
 |lst xs=>
  obtain⟨a,vs,e,q,_⟩:=hx;subst e;cases rx;obtain⟨VL,_,p,_⟩:=I.list q;exact .inr (.inr (.inr (.inr (.inr ⟨xs,a,_,rfl,rfl,p.isList⟩))))
theorem wO(I:aT X pins σ H s){A:oD}(hu:A.units<UR)(nt:∀xs ys,¬(x = .tup xs/\y = .tup ys))(nl:∀xs ys,¬(x = .lst xs/\y = .lst ys))(hx:Rq X.K H x v)(hy:Rq X.K H y w)(rx:bC v u)(ry:bC w u'):SeqAt.RcAt A s u u' (cS x y)/\SeqAt.RcNeAt A s u u' (!(cS x y)):=by
 obtain⟨rfl,rfl⟩|⟨_,rfl,rfl⟩|⟨_,_,rfl,rfl⟩|⟨_,_,rfl,rfl⟩|⟨xs,_,_,rfl,rfl,p⟩|⟨xs,_,_,rfl,rfl,p⟩:=lQ I hx rx
 ·obtain⟨rfl,rfl⟩|⟨_,rfl,rfl⟩|⟨_,_,rfl,rfl⟩|⟨_,_,rfl,rfl⟩|⟨ys,_,_,rfl,rfl,q⟩|⟨ys,_,_,rfl,rfl,q⟩:=lQ I hy ry
  ·exact⟨SeqAt.RcAt.none_none,SeqAt.RcNeAt.none_none⟩
  ·exact⟨SeqAt.RcAt.none_bool _,SeqAt.RcNeAt.none_bool _⟩
  ·exact⟨SeqAt.RcAt.none_int _ _,SeqAt.RcNeAt.none_int _ _⟩
  ·exact⟨SeqAt.RcAt.none_str _ _,SeqAt.RcNeAt.none_str _ _⟩
  ·exact⟨SeqAt.RcAt.none_tuple q hu,SeqAt.RcNeAt.none_tuple q hu⟩
  ·exact⟨SeqAt.RcAt.none_list q hu,SeqAt.RcNeAt.none_list q hu⟩
 ·obtain⟨rfl,rfl⟩|⟨_,rfl,rfl⟩|⟨_,_,rfl,rfl⟩|⟨_,_,rfl,rfl⟩|⟨ys,_,_,rfl,rfl,q⟩|⟨ys,_,_,rfl,rfl,q⟩:=lQ I hy ry
  ·exact⟨SeqAt.RcAt.bool_none _,SeqAt.RcNeAt.bool_none _⟩
  ·exact⟨SeqAt.RcAt.bool_bool _ _,SeqAt.RcNeAt.bool_bool _ _⟩
  ·exact⟨SeqAt.RcAt.bool_int _ _ _,SeqAt.RcNeAt.bool_int _ _ _⟩
  ·exact⟨SeqAt.RcAt.bool_str _ _ _,SeqAt.RcNeAt.bool_str _ _ _⟩
  ·exact⟨SeqAt.RcAt.bool_tuple _ q hu,SeqAt.RcNeAt.bool_tuple _ q hu⟩
  ·exact⟨SeqAt.RcAt.bool_list _ q hu,SeqAt.RcNeAt.bool_list _ q hu⟩
 ·obtain⟨rfl,rfl⟩|⟨_,rfl,rfl⟩|⟨_,_,rfl,rfl⟩|⟨_,_,rfl,rfl⟩|⟨ys,_,_,rfl,rfl,q⟩|⟨ys,_,_,rfl,rfl,q⟩:=lQ I hy ry
  ·exact⟨SeqAt.RcAt.int_none _ _,SeqAt.RcNeAt.int_none _ _⟩
  ·exact⟨SeqAt.RcAt.int_bool _ _ _,SeqAt.RcNeAt.int_bool _ _ _⟩
  ·exact⟨SeqAt.RcAt.int_int _ _ _ _,SeqAt.RcNeAt.int_int _ _ _ _⟩
  ·exact⟨SeqAt.RcAt.int_str _ _ _ _,SeqAt.RcNeAt.int_str _ _ _ _⟩
  ·exact⟨SeqAt.RcAt.int_tuple _ _ q hu,SeqAt.RcNeAt.int_tuple _ _ q hu⟩
  ·exact⟨SeqAt.RcAt.int_list _ _ q hu,SeqAt.RcNeAt.int_list _ _ q hu⟩
 ·obtain⟨rfl,rfl⟩|⟨_,rfl,rfl⟩|⟨_,_,rfl,rfl⟩|⟨_,_,rfl,rfl⟩|⟨ys,_,_,rfl,rfl,q⟩|⟨ys,_,_,rfl,rfl,q⟩:=lQ I hy ry
  ·exact⟨SeqAt.RcAt.str_none _ _,SeqAt.RcNeAt.str_none _ _⟩
  ·exact⟨SeqAt.RcAt.str_bool _ _ _,SeqAt.RcNeAt.str_bool _ _ _⟩
  ·exact⟨SeqAt.RcAt.str_int _ _ _ _,SeqAt.RcNeAt.str_int _ _ _ _⟩
  ·exact⟨SeqAt.RcAt.str_str _ _ _ _,SeqAt.RcNeAt.str_str _ _ _ _⟩
  ·exact⟨SeqAt.RcAt.str_tuple _ _ q hu,SeqAt.RcNeAt.str_tuple _ _ q hu⟩
  ·exact⟨SeqAt.RcAt.str_list _ _ q hu,SeqAt.RcNeAt.str_list _ _ q hu⟩
 ·obtain⟨rfl,rfl⟩|⟨_,rfl,rfl⟩|⟨_,_,rfl,rfl⟩|⟨_,_,rfl,rfl⟩|⟨ys,_,_,rfl,rfl,q⟩|⟨ys,_,_,rfl,rfl,q⟩:=lQ I hy ry
  ·exact⟨SeqAt.RcAt.tuple_none p hu,SeqAt.RcNeAt.tuple_none p hu⟩
  ·exact⟨SeqAt.RcAt.tuple_bool _ p hu,SeqAt.RcNeAt.tuple_bool _ p hu⟩
  ·exact⟨SeqAt.RcAt.tuple_int _ _ p hu,SeqAt.RcNeAt.tuple_int _ _ p hu⟩
  ·exact⟨SeqAt.RcAt.tuple_str _ _ p hu,SeqAt.RcNeAt.tuple_str _ _ p hu⟩
  ·exact absurd ⟨rfl,rfl⟩ (nt xs ys)
  ·exact⟨SeqAt.RcAt.tuple_list p q hu,SeqAt.RcNeAt.tuple_list p q hu⟩
 ·obtain⟨rfl,rfl⟩|⟨_,rfl,rfl⟩|⟨_,_,rfl,rfl⟩|⟨_,_,rfl,rfl⟩|⟨ys,_,_,rfl,rfl,q⟩|⟨ys,_,_,rfl,rfl,q⟩:=lQ I hy ry
  ·exact⟨SeqAt.RcAt.list_none p hu,SeqAt.RcNeAt.list_none p hu⟩
  ·exact⟨SeqAt.RcAt.list_bool _ p hu,SeqAt.RcNeAt.list_bool _ p hu⟩
  ·exact⟨SeqAt.RcAt.list_int _ _ p hu,SeqAt.RcNeAt.list_int _ _ p hu⟩
  ·exact⟨SeqAt.RcAt.list_str _ _ p hu,SeqAt.RcNeAt.list_str _ _ p hu⟩
  ·exact⟨SeqAt.RcAt.list_tuple p q hu,SeqAt.RcNeAt.list_tuple p q hu⟩
  ·exact absurd ⟨rfl,rfl⟩ (nl xs ys)
theorem Uc{K:W.Frag}{x:T}{v:V}{u:oA}(h:Rq K H x v)(r:bC v u):∀b t,u≠.float b t:=λb t e=>by
 subst e;cases x with
 |tup _=>obtain⟨_,_,e,_⟩:=h;subst e;cases r
 |lst _=>obtain⟨_,_,e,_⟩:=h;subst e;cases r
 |non=>cases h;cases r
 |bl _=>cases h;cases r
 |int _=>cases h;obtain⟨_,r⟩:=r;cases r
 |str _=>cases h;obtain⟨_,r⟩:=r;cases r
theorem Cc(I:aT X pins σ H s):∀(n:Nat)(A:oD)(x y:T)(v w:V)(u u':oA),dT x<=n->Rq X.K H x v->Rq X.K H y w->bC v u->bC w u'->A.units+n<UR->SeqAt.RcAt A s u u' (cS x y)/\SeqAt.EqAt A s u u' (cS x y):=by
 have fin:∀{A:oD}{x y:T}{v w:V}{u u':oA},Rq X.K H x v->Rq X.K H y w->bC v u->bC w u'->SeqAt.RcAt A s u u' (cS x y)->SeqAt.RcAt A s u u' (cS x y)/\SeqAt.EqAt A s u u' (cS x y):=λ{A x y v w u u'}hx hy rx ry h=>⟨h,Hs h (λe=>by
   subst e;rw[Rq.inj I hx (by rw[Mi rx ry];exact hy)];exact dQ y) (Uc hx rx)⟩
 intro n
 induction n with
 |zero=>
  intro A x y v w u u' hd hx hy rx ry hu;refine fin hx hy rx ry ((wO I ⋯ (λxs ys z=>?_) (λxs ys z=>?_) hx hy rx ry).1)
  ·rw[z.1]at hd;simp[dT]at hd
  ·rw[z.1]at hd;simp[dT]at hd
 |succ n ih=>
  intro A x y v w u u' hd hx hy rx ry hu;refine fin hx hy rx ry ?_
  by_cases c1:∃xs ys,x = .tup xs/\y = .tup ys
  ·obtain⟨xs,ys,rfl,rfl⟩:=c1;obtain⟨a,vs,rfl,q1,h1⟩:=hx;obtain⟨b,ws,rfl,q2,h2⟩:=hy;cases rx;cases ry;obtain⟨VL,r1,p1,_⟩:=I.tuple q1;obtain⟨js,r2,p2,_⟩:=I.tuple q2;have:=SeqAt.RcAt.tuples p1 p2 (A:=A) ⋯ (rM A.in1 r1 r2 h1 h2 λj x y v w u u' e1 e2 k1 k2 k3 k4=>(ih A.in1 x y v w u u' (by
    have:=sC (LD e1);simp only[dT]at hd;lia) k1 k2 k3 k4 (by show A.units+1+n<UR;lia)).2)
   rw[cS,jP];have l1:=r1.length;have l2:=r2.length;have l3:=h1.length;have l4:=h2.length;have s1:VL.toArray.size=xs.length:=by simp;lia
   have s2:js.toArray.size=ys.length:=by simp;lia
   rw[s1,s2]at this;exact this
  ·by_cases c2:∃xs ys,x = .lst xs/\y = .lst ys
   ·obtain⟨xs,ys,rfl,rfl⟩:=c2;obtain⟨a,vs,rfl,q1,h1⟩:=hx;obtain⟨b,ws,rfl,q2,h2⟩:=hy;cases rx;cases ry;obtain⟨VL,r1,p1,_⟩:=I.list q1;obtain⟨js,r2,p2,_⟩:=I.list q2;have l1:=r1.length;have l2:=r2.length;have l3:=h1.length;have l4:=h2.length;have s1:VL.toArray.size=xs.length:=by simp;lia
    have s2:js.toArray.size=ys.length:=by simp;lia
    rw[cS,jP]
    by_cases hl:xs.length=ys.length
    ·have:=SeqAt.RcAt.lists p1.isList p2.isList (A:=A) (by rw[s1,s2];exact hl) ⋯ (rM A.in1 r1 r2 h1 h2 λj x y v w u u' e1 e2 k1 k2 k3 k4=>(ih A.in1 x y v w u u' (by
      have:=sC (LD e1);simp only[dT]at hd;lia) k1 k2 k3 k4 (by show A.units+1+n<UR;lia)).2)
     rw[s1]at this;rw[<-hl,Nat.min_self,beq_self_eq_true,RF];exact this
    ·have:=SeqAt.RcAt.lists_lengths p1.isList p2.isList (A:=A) (by rw[s1,s2];simpa using hl) ⋯;rw[show(xs.length==ys.length)=false by simpa using hl,SG];exact this
   ·exact(wO I ⋯ (λxs ys z=>c1 ⟨xs,ys,z⟩) (λxs ys z=>c2 ⟨xs,ys,z⟩) hx hy rx ry).1
theorem F4(I:aT X pins σ H s){A:oD}(n:Nat)(hd:dT x<=n)(hx:Rq X.K H x v)(hy:Rq X.K H y w)(rx:bC v u)(ry:bC w u')(hu:A.units+n<UR):SeqAt.RcNeAt A s u u' (!(cS x y)):=by
 by_cases c1:∃xs ys,x = .tup xs/\y = .tup ys
 ·obtain⟨xs,ys,rfl,rfl⟩:=c1;obtain⟨a,vs,rfl,q1,h1⟩:=hx;obtain⟨b,ws,rfl,q2,h2⟩:=hy;cases rx;cases ry;obtain⟨VL,r1,p1,_⟩:=I.tuple q1;obtain⟨js,r2,p2,_⟩:=I.tuple q2;have:=SeqAt.RcNeAt.tuples p1 p2 (A:=A) ⋯ (rM A.in1 r1 r2 h1 h2 λj x y v w u u' e1 e2 k1 k2 k3 k4=>(Cc I (n-1) A.in1 x y v w u u' (by
   have:=sC (LD e1);simp only[dT]at hd;lia) k1 k2 k3 k4 (by show A.units+1+(n-1)<UR;simp only[dT]at hd;lia)).2)
  rw[cS,jP];have l1:=r1.length;have l2:=r2.length;have l3:=h1.length;have l4:=h2.length;have s1:VL.toArray.size=xs.length:=by simp;lia
  have s2:js.toArray.size=ys.length:=by simp;lia
  rw[s1,s2]at this;exact this
 ·by_cases c2:∃xs ys,x = .lst xs/\y = .lst ys
  ·obtain⟨xs,ys,rfl,rfl⟩:=c2;obtain⟨a,vs,rfl,q1,h1⟩:=hx;obtain⟨b,ws,rfl,q2,h2⟩:=hy;cases rx;cases ry;obtain⟨VL,r1,p1,_⟩:=I.list q1;obtain⟨js,r2,p2,_⟩:=I.list q2;have l1:=r1.length;have l2:=r2.length;have l3:=h1.length;have l4:=h2.length;have s1:VL.toArray.size=xs.length:=by simp;lia
   have s2:js.toArray.size=ys.length:=by simp;lia
   rw[cS,jP]
   by_cases hl:xs.length=ys.length
   ·have:=SeqAt.RcNeAt.lists p1.isList p2.isList (A:=A) (by rw[s1,s2];exact hl) ⋯ (rM A.in1 r1 r2 h1 h2 λj x y v w u u' e1 e2 k1 k2 k3 k4=>(Cc I (n-1) A.in1 x y v w u u' (by
     have:=sC (LD e1);simp only[dT]at hd;lia) k1 k2 k3 k4 (by show A.units+1+(n-1)<UR;simp only[dT]at hd;lia)).2)
    rw[s1]at this;rw[<-hl,Nat.min_self,beq_self_eq_true,RF];exact this
   ·have:=SeqAt.RcNeAt.lists_lengths p1.isList p2.isList (A:=A) (by rw[s1,s2];simpa using hl) ⋯;rw[show(xs.length==ys.length)=false by simpa using hl,SG];exact this
  ·exact(wO I ⋯ (λxs ys z=>c1 ⟨xs,ys,z⟩) (λxs ys z=>c2 ⟨xs,ys,z⟩) hx hy rx ry).2
end
section
variable{X:Cx}{K:W.Frag}{pos:Pos}{a b c e o:oC}{es:List oC}{Fa Fb Fo:FE}{Fr:FA}
def AH(K:W.Frag)(ng:Bool):R2:=λx y H Q=>∃t u,Rq K H t x/\Rq K H u y/\dT t<=60/\Q (.bl (if ng then !(cS t u)else cS t u)) H
theorem Up(hr:cV k X.A):kR X (TL .Eq) (AH X.K false):=by
 intro pins s σ H x y v u Q I rx ry h;obtain⟨t,w,h1,h2,hd,q⟩:=h;exact(Cc I 60 X.A t w x y v u hd h1 h2 rx ry (by have:=hr.units;lia)).1 X.prog X.w X.xe _ (Ik I q rfl)
theorem Jo(hr:cV k X.A):kR X (TL .NotEq) (AH X.K true):=by
 intro pins s σ H x y v u Q I rx ry h;obtain⟨t,w,h1,h2,hd,q⟩:=h;exact F4 I 60 hd h1 h2 rx ry (by have:=hr.units;lia) X.prog X.w X.xe _ (Ik I q rfl)
def t2(x y:Option T)(k:T->T->Prop):Prop:=match x,y with
 |some t,oZ u=>k t u
 |_,_=>False
theorem t2.ex{k:T->T->Prop}(h:t2 x y k):∃t u,x=oZ t/\y=oZ u/\k t u:=by
 unfold t2 at h;split at h
 ·exact⟨_,_,rfl,rfl,h⟩
 ·exact h.elim
def JE(Fa Fb:FE):FE:=λE Q=>Fa E λx E1=>Fb E1 λy E2=>t2 (vl E2 x) (vl E2 y) λt u=>dT t<=60/\Q (.p (.bl (cS t u))) E2
def JF(Fa Fb:FE):FE:=λE Q=>Fa E λx E1=>Fb E1 λy E2=>t2 (vl E2 x) (vl E2 y) λt u=>dT t<=60/\Q (.p (.bl (!(cS t u)))) E2
theorem tO(eK:X.K=K)(hr:cV k X.A)(ha:QE X a (aH K Fa))(hb:QE X b (aH K Fb))(hm:TH .Eq b=false):QE X (.Compare a [.Eq] [b] pos) (aH K (JE Fa Fb)):=by
 subst eK;refine(Bz (Up hr) ha hb hm).le λσ H Q hl h=>two (Fa:=Fa) (Fb:=Fb) h λB S E x y v w H2 Q' hS re rx ry q lk=>?_;obtain⟨t,u,e1,e2,hd,q⟩:=q.ex;exact⟨t,u,(re.vl rx e1).rq,(re.vl ry e2).rq,hd,lk _ _ _ _ _ q .refl re rfl⟩
theorem CI(eK:X.K=K)(hr:cV k X.A)(ha:QE X a (aH K Fa))(hb:QE X b (aH K Fb))(hm:TH .NotEq b=false):QE X (.Compare a [.NotEq] [b] pos) (aH K (JF Fa Fb)):=by
 subst eK;refine(Bz (Jo hr) ha hb hm).le λσ H Q hl h=>two (Fa:=Fa) (Fb:=Fb) h λB S E x y v w H2 Q' hS re rx ry q lk=>?_;obtain⟨t,u,e1,e2,hd,q⟩:=q.ex;exact⟨t,u,(re.vl rx e1).rq,(re.vl ry e2).rq,hd,lk _ _ _ _ _ q .refl re rfl⟩
end
section
variable{X:Cx}{K:W.Frag}{pos:Pos}{a b c e o:oC}{es:List oC}{Fa Fb Fc Fo:FE}{Fr:FA}
theorem Av(ho:kR X (TL op) r)(ha:QE X a (aH K Fa))(hb:QE X b (aH K Fb))(hm:TH op b=false)(k:∀σ H Q,aH K F σ H Q->Xd r (aH K Fa) (aH K Fb) σ H Q):QT X (.Compare a [op] [b] pos) (eD K (xU F)):=
 (Me ho ha hb hm).le λσ H Q z=>k _ _ _ (Yq z)
theorem K6{g:Int->Int->Bool}(ho:kR X (TL op) (Hq λi j=>.bl (g i j)))(ha:QE X a (aH K Fa))(hb:QE X b (aH K Fb))(hm:TH op b=false):QT X (.Compare a [op] [b] pos) (eD K (xU (HP g Fa Fb))):=
 Av ho ha hb hm λσ H Q h=>two (Fa:=Fa) (Fb:=Fb) h λB S E x y v w H2 Q' hS re rx ry q lk=>by
  obtain⟨i,j,e1,e2,q⟩:=i2.ex q;exact⟨i,j,re.int rx e1,re.int ry e2,lk _ _ _ _ _ q .refl re rfl⟩
theorem eQ(eK:X.K=K)(hr:cV k X.A)(ha:QE X a (aH K Fa))(hb:QE X b (aH K Fb))(hm:TH .Eq b=false):QT X (.Compare a [.Eq] [b] pos) (eD K (xU (JE Fa Fb))):=by
 subst eK;refine Av (Up hr) ha hb hm λσ H Q h=>two (Fa:=Fa) (Fb:=Fb) h λB S E x y v w H2 Q' hS re rx ry q lk=>?_;obtain⟨t,u,e1,e2,hd,q⟩:=t2.ex q;exact⟨t,u,(re.vl rx e1).rq,(re.vl ry e2).rq,hd,lk _ _ _ _ _ q .refl re rfl⟩
theorem pN(eK:X.K=K)(hr:cV k X.A)(ha:QE X a (aH K Fa))(hb:QE X b (aH K Fb))(hm:TH .NotEq b=false):QT X (.Compare a [.NotEq] [b] pos) (eD K (xU (JF Fa Fb))):=by
 subst eK;refine Av (Jo hr) ha hb hm λσ H Q h=>two (Fa:=Fa) (Fb:=Fb) h λB S E x y v w H2 Q' hS re rx ry q lk=>?_;obtain⟨t,u,e1,e2,hd,q⟩:=t2.ex q;exact⟨t,u,(re.vl rx e1).rq,(re.vl ry e2).rq,hd,lk _ _ _ _ _ q .refl re rfl⟩
def Tj:T->Bool
 |.non=>true
 |_=>false
theorem CV(h:Rq K H t v):decide (v = .non)=Tj t:=by
 cases t with
 |non=>cases h;rfl
 |bl _=>cases h;rfl
 |int _=>cases h;rfl
 |str _=>cases h;rfl
 |tup _=>obtain⟨_,_,e,_⟩:=h;subst e;rfl
 |lst _=>obtain⟨_,_,e,_⟩:=h;subst e;rfl
def CC(ng:Bool)(Fa:FE):FE:=λE Q=>Fa E λx E1=>o1 (vl E1 x) λt=>Q (.p (.bl (if ng then !(Tj t)else Tj t))) E1
theorem Zq(h:aH K (CC false Fa) σ H Q):Xd (λx y H Q=>y = .non/\Q (.bl (decide (x = .non))) H) (aH K Fa) (tC .non) σ H Q:=
 one (Fa:=Fa) h λB S E x v H2 Q' hS re rx q lk=>by
  obtain⟨t,e1,q⟩:=o1.ex q;exact⟨rfl,by rw[CV (re.vl rx e1).rq];exact lk _ _ _ _ _ q .refl re rfl⟩
theorem T5{j p2}(ha:QE X a (aH K Fa))(hm:TH .Is (.Constant .none j p2)=false):QT X (.Compare a [.Is] [.Constant .none j p2] pos) (eD K (xU (CC false Fa))):=(Me W5 ha Vi hm).le λ_ _ _ h=>Zq (Yq h)
def KY:T->Bool
 |.lst _=>true
 |_=>false
def KW:T->Bool
 |.bl _=>true
 |_=>false
def fO(xs:List T)(lo hi:Option Int):List T:=(xs.drop (HT.sIx xs.length 0 lo)).take (HT.sIx xs.length xs.length hi-HT.sIx xs.length 0 lo)
theorem Q6{O:SN->Prop}{lo hi:Option Int}(h:cR K H O xs vs):cR K H O (fO xs lo hi) (Oq vs lo hi):=by
 unfold fO Oq;rw[h.length];exact(h.drop _).take _
abbrev FO:=En->(Option Int->En->Prop)->Prop
def Qx(K:W.Frag)(F:FO):TO:=λσ H Q=>∃B S E Q',(∃τ,S=σ++τ)/\RE K B H S E/\F E Q'/\∀b E' H' S',Q' b E'->Gr B H S E H' S' E'->RE K B H' S' E'->Q b H'
theorem QO.le{e:Option oC}{t t':TO}(h:QO X e t)(m:∀σ H Q,t' σ H Q->t σ H Q):QO X e t':=⟨λpins s σ H Q I z=>h.h pins s σ H Q I (m σ H Q z)⟩
def CZ:FO:=λE Q=>Q none E
def DA(Fa:FE):FO:=λE Q=>Fa E λx E1=>i1 (vl E1 x) λi=>Q (oZ i) E1
theorem o8:QO X none (Qx K CZ):=E9.le λσ H Q⟨B,S,E,Q',hS,re,hF,lk⟩=>lk _ _ _ _ hF .refl re
theorem jB(h:QE X e (aH K Fa)):QO X (oZ e) (Qx K (DA Fa)):=(F0 h).le λσ H Q⟨B,S,E,Q',hS,re,hF,lk⟩=>⟨B,S,E,_,hS,re,hF,λr E1 v H1 S1 q g VY rr=>by
 obtain⟨i,e1,q⟩:=i1.ex q;exact⟨i,VY.int rr e1,lk _ _ _ _ q g VY⟩⟩
variable{vp Gh:FO}
def IA(Fa:FE)(vp Gh:FO):FE:=λE Q=>Fa E λx E1=>vp E1 λlo E2=>Gh E2 λhi E3=>match vl E3 x with
 |some (.lst xs)=>Q (.s E3.length) (E3++[oZ (.o false (fO xs lo hi))])
 |_=>False
theorem gY{lo hi:Option oC}(eK:X.K=K)(he:QE X e (aH K Fa))(hl:QO X lo (Qx K vp))(hu:QO X hi (Qx K Gh)):QE X (.Subscript e (.Slice lo hi none p2) pos) (aH K (IA Fa vp Gh)):=by
 subst eK;refine(Vj G4 he hl hu).le λσ H Q _⟨B,S,E,Q',⟨τ,hS⟩,re,hF,lk⟩=>⟨B,S,E,_,⟨τ,hS⟩,re,hF,λx E1 v H1 S1 q g1 VY rx=>?_⟩;obtain⟨τ1,YU⟩:=g1.pre;refine⟨B,S1,E1,_,⟨τ++τ1,by rw[YU,hS,LW]⟩,VY,q,λl E2 H2 S2 q2 g2 XG=>?_⟩;obtain⟨τ2,hS2⟩:=g2.pre;refine⟨B,S2,E2,_,⟨τ++τ1++τ2,by rw[hS2,YU,hS,LW,LW,LW]⟩,XG,q2,λh E3 H3 S3 q3 g3 YO=>?_⟩;have rx3:=(rx.step g2).step g3;split at q3
 ·rename_i xs e1;obtain⟨a,vs,e2,sq,rs⟩:=YO.vl rx3 e1;refine⟨a,vs,e2,sq,λp hp=>?_⟩;obtain⟨g,VV⟩:=YO.lst hp (Q6 (lo:=l) (hi:=h) rs);exact lk _ _ _ _ _ q3 (((g1.trans g2).trans g3).trans g) VV (by rw[<-YO.len];exact kS)
 ·exact q3.elim
def ownOf(E:En):R->Option (List T)
 |.s j=>match E[j]? with
  |some (oZ (.o _ xs))=>oZ xs
  |_=>none
 |_=>none
theorem RE.ownOf{B:SN->Prop}(re:RE K B H S E)(h:RR K B H S E r v)(e:L2.ownOf E r=oZ xs):∃j k a vs,r = .s j/\E[j]?=oZ (oZ (.o k xs))/\S[j]?=oZ (oZ (.ref a))/\v = .ref a/\H a=oZ (.lst vs)/\cR K H (Ow B S E) xs vs:=by
 cases r with
 |p _=>cases e
 |s j=>
  cases q:E[j]? with
  |none=>simp only[L2.ownOf,q]at e;cases e
  |some u=>
   cases u with
   |none=>simp only[L2.ownOf,q]at e;cases e
   |some u=>
    cases u with
    |p _=>simp only[L2.ownOf,q]at e;cases e
    |o k ys=>
     simp only[L2.ownOf,q]at e;cases e;obtain⟨a,vs,h1,h2,h3,_⟩:=re.own j k xs q;have h':S[j]?=oZ (oZ v):=h;rw[h']at h1;cases h1;exact⟨j,k,a,vs,rfl,q,h',rfl,h2,h3⟩
def l2(x y:Option (List T))(k:List T->List T->Prop):Prop:=match x,y with
 |some t,oZ u=>k t u
 |_,_=>False
theorem l2.ex{k:List T->List T->Prop}(h:l2 x y k):∃t u,x=oZ t/\y=oZ u/\k t u:=by
 unfold l2 at h;split at h
 ·exact⟨_,_,rfl,rfl,h⟩
 ·exact h.elim
def HN(Fa Fb:FE):FE:=λE Q=>Fa E λx E1=>Fb E1 λy E2=>l2 (ownOf E2 x) (ownOf E2 y) λxs ys=>xs.length+ys.length<=9000/\Q (.s E2.length) (E2++[oZ (.o false (xs++ys))])
theorem m4(ha:QE X a (aH K Fa))(hb:QE X b (aH K Fb)):QE X (.BinOp a .Add b pos) (aH K (HN Fa Fb)):=by
 refine(wM W3 ha hb).le λσ H Q hl h=>two (Fa:=Fa) (Fb:=Fb) h λB S E x y v w H2 Q' hS re rx ry q lk=>?_;obtain⟨xs,ys,e1,e2,hz,q⟩:=l2.ex q;obtain⟨j,k,p,vs,_,_,_,rfl,h2,h3⟩:=re.ownOf rx e1;obtain⟨j',k',p',tw,_,_,_,rfl,qz,h3'⟩:=re.ownOf ry e2;refine⟨p,p',vs,tw,rfl,rfl,h2,qz,by rw[h3.length,h3'.length];exact MW (cB hz),λr hr=>?_⟩;obtain⟨g,VV⟩:=re.lst hr (h3.append h3');exact lk _ _ _ _ _ q g VV (by rw[<-re.len];exact kS)
def Vt(k:Int)(xs:List T):List T:=(LF k.toNat xs).flatten
theorem Vu{O:SN->Prop}(h:cR K H O xs vs):∀n:Nat,cR K H O (LF n xs).flatten (LF n vs).flatten
 |0=>by simp[cR]
 |n+1=>by rw[MM,MM,NF,NF];exact h.append (Vu h n)
def HY(Fa Fb:FE):FE:=λE Q=>Fa E λx E1=>Fb E1 λy E2=>o1 (ownOf E2 x) λxs=>i1 (vl E2 y) λk=>(-(2^63)<=k/\k<2^63/\xs.length*k.toNat<=9000)/\Q (.s E2.length) (E2++[oZ (.o false (Vt k xs))])
theorem So(ha:QE X a (aH K Fa))(hb:QE X b (aH K Fb)):QE X (.BinOp a .Mult b pos) (aH K (HY Fa Fb)):=by
 refine(wM W7 ha hb).le λσ H Q hl h=>two (Fa:=Fa) (Fb:=Fb) h λB S E x y v w H2 Q' hS re rx ry q lk=>?_;obtain⟨xs,e1,q⟩:=o1.ex q;obtain⟨k,e2,⟨c1,c2,c3⟩,q⟩:=i1.ex q;obtain⟨j,kk,p,vs,_,_,_,rfl,h2,h3⟩:=re.ownOf rx e1;refine⟨p,k,vs,rfl,re.int ry e2,h2,c1,c2,by rw[h3.length];exact MW (cB c3),λr hr=>?_⟩;obtain⟨g,VV⟩:=re.lst hr (Vu h3 k.toNat);exact lk _ _ _ _ _ q g VV (by rw[<-re.len];exact kS)
def Za(Fr:FA):FE:=λE Q=>Fr E λrs E1=>match rs with
 |[x]=>o1 ((vl E1 x).bind EG) λxs=>Q (.s E1.length) (E1++[oZ (.o false xs)])
 |_=>False
theorem Pd(eK:X.K=K)(hg:Gl X "list")(hm:X.mg "list" = none)(ha:QA X (e::es) (cK K n Fr))(hs:bN (e::es)=true:=by rfl):QE X (.Call (.Name "list" p) (e::es) [] pos) (aH K (Za Fr)):=by
 subst eK;refine(qC Ag hg hm (by decide +kernel) ha ∅ ∅ hs).le λσ H Q hl h=>args (Fr:=Fr) h λB S E rs vs H2 Q' hS re rr hn q lk=>?_
 match rs,rr,q with
 |[x],⟨v,ws,e1,h1,h2⟩,q=>
  cases h2;subst e1;obtain⟨xs,e2,q⟩:=o1.ex q;obtain⟨t,e3,e2⟩:=RY.mp e2;have rt:=re.vl h1 e3;have:∃p us,v = .ref p/\(lA X.K H2 p us\/Dh X.K H2 p us)/\cR X.K H2 (Ow B S E) xs us:=by
   cases t with
   |tup ys=>cases e2;obtain⟨p,us,e,sq,rs⟩:=rt;exact⟨p,us,e,.inr sq,rs⟩
   |lst ys=>cases e2;obtain⟨p,us,e,sq,rs⟩:=rt;exact⟨p,us,e,.inl sq,rs⟩
   |_=>cases e2
  obtain⟨p,us,rfl,sq,rs⟩:=this;refine⟨p,us,rfl,sq,λr hr=>?_⟩;obtain⟨g,VV⟩:=re.lst hr rs;exact lk _ _ _ _ _ q g VV (by rw[<-re.len];exact kS)
 |[],_,q=>exact q.elim
 |_::_::_,_,q=>exact q.elim
def R6(Fr:FA):FE:=λE Q=>Fr E λrs E1=>match rs with
 |[x]=>(match vl E1 x with
  |some (.lst xs)=>Q (.p (.tup xs)) E1
  |_=>False)
 |_=>False
theorem Ei(eK:X.K=K)(hg:Gl X "tuple")(hm:X.mg "tuple" = none)(ha:QA X (e::es) (cK K n Fr))(hs:bN (e::es)=true:=by rfl):QE X (.Call (.Name "tuple" p) (e::es) [] pos) (aH K (R6 Fr)):=by
 subst eK;refine(qC xV hg hm (by decide +kernel) ha ∅ ∅ hs).le λσ H Q hl h=>args (Fr:=Fr) h λB S E rs vs H2 Q' hS re rr hn q lk=>?_
 match rs,rr,q with
 |[x],⟨v,ws,e1,h1,h2⟩,q=>
  cases h2;subst e1;simp only at q;split at q
  ·rename_i xs e2;obtain⟨p,us,rfl,sq,rs⟩:=re.vl h1 e2;refine⟨p,us,rfl,.inl ⟨sq,λr hr=>?_⟩⟩;obtain⟨g,VV,rp⟩:=re.tup hr rs;exact lk _ _ _ _ _ q g VV rp
  ·exact q.elim
 |[],_,q=>exact q.elim
 |_::_::_,_,q=>exact q.elim
def rF:List T->Option (List Bool)
 |[]=>oZ []
 |.bl b::xs=>(rF xs).map (b::·)
 |_=>none
theorem Ro{O:SN->Prop}:∀{xs:List T}{vs:List V}{bs:List Bool},cR K H O xs vs->rF xs=oZ bs->vs=bs.map V.bl
 |[],_,_,h,e=>by cases e;exact h
 |.bl b::xs,_,bs,⟨v,r,e1,h1,h2⟩,e=>by
  cases q:rF xs with
  |none=>rw[rF,q]at e;cases e
  |some cs=>
   rw[rF,q]at e;cases e;cases h1;rw[e1,Ro h2 q];rfl
 |.non::_,_,_,_,e=>by cases e
 |.int _::_,_,_,_,e=>by cases e
 |.str _::_,_,_,_,e=>by cases e
 |.tup _::_,_,_,_,e=>by cases e
 |.lst _::_,_,_,_,e=>by cases e
def HM(Fr:FA):FE:=λE Q=>Fr E λrs E1=>match rs with
 |[x]=>(match vl E1 x with
  |some (.lst xs)=>o1 (rF xs) λbs=>Q (.p (.bl (bs.all id))) E1
  |_=>False)
 |_=>False
theorem R8(eK:X.K=K)(hc:X.calm=true)(hg:Gl X "all")(hm:X.mg "all" = none)(ha:QA X (e::es) (cK K n Fr))(hs:bN (e::es)=true:=by rfl):QE X (.Call (.Name "all" p) (e::es) [] pos) (aH K (HM Fr)):=by
 subst eK;refine(g9 (Oe hc) hg hm boot_all ha ∅ ∅ hs).le λσ H Q hl h=>args (Fr:=Fr) h λB S E rs vs H2 Q' hS re rr hn q lk=>?_
 match rs,rr,q with
 |[x],⟨v,ws,e1,h1,h2⟩,q=>
  cases h2;subst e1;simp only at q;split at q
  ·rename_i xs e2;obtain⟨p,us,rfl,sq,rs⟩:=re.vl h1 e2;obtain⟨bs,e3,q⟩:=o1.ex q;refine⟨p,bs,rfl,by rw[<-Ro rs e3];exact sq,lk _ _ _ _ _ q .refl re rfl⟩
  ·exact q.elim
 |[],_,q=>exact q.elim
 |_::_::_,_,q=>exact q.elim
def Am(f:List T->R->En->Option (List T))(Fo:FE)(Fr:FA):FE:=λE Q=>Fo E λo E1=>o1 (ownOf E1 o) λ_=>Fr E1 λrs E2=>match o,rs with
 |.s j,[r]=>(match E2[j]? with
  |some (oZ (.o k xs))=>o1 (f xs r E2) λys=>ys.length<=9000/\Q (.p .non) (E2.set j (oZ (.o k ys)))
  |_=>False)
 |_,_=>False
def BL(xs:List T)(r:R)(E:En):Option (List T):=match r with
 |.p t=>oZ (xs++[t])
 |_=>none
def BV(xs:List T)(r:R)(E:En):Option (List T):=(ownOf E r).map (xs++·)
theorem Tw{r:V->List V->Hp->VK->Prop}(eK:X.K=K)(h:aH K (Am f Fo Fr) σ H Q)(hr:∀(B:SN->Prop)(S:St)(E:En)(H2:Hp)(xs ys:List T)(rr:R)(y:V)(p:SN)(vs:List V)(Q:VK),RE K B H2 S E->RR K B H2 S E rr y->f xs rr E=oZ ys->H2 p=oZ (.lst vs)->cR K H2 (Ow B S E) xs vs->ys.length<=9000->
   (∀ws,cR K H2 (Ow B S E) ys ws->Q .non (upd H2 p (.lst ws)))->r (.ref p) [y] H2 Q):AM X.K "list" r (aH K Fo) (cK K n Fr) σ H Q:=by
 subst eK;obtain⟨B,S,E,Q',⟨τ,hS⟩,re,hF,lk⟩:=h;refine⟨B,S,E,_,⟨τ,hS⟩,re,hF,λoo E1 v H1 S1 q g1 VY rx=>?_⟩;obtain⟨τ1,YU⟩:=g1.pre;obtain⟨cj,e0,q⟩:=o1.ex q;obtain⟨j,k,p,vs,rfl,hE,yf,rfl,h2,h3⟩:=VY.ownOf rx e0;refine⟨.inl ⟨rfl,vs,lA.of h2⟩,B,S1,E1,_,⟨τ++τ1,by rw[YU,hS,LW]⟩,VY,q,λrs E2 us H2 S2 q2 g2 XG rr hn=>?_⟩;have iq:S2[j]?=oZ (oZ (.ref p)):=fD g2.pre yf
 match rs,rr,q2 with
 |[r'],⟨y,ws,e1,k1,k2⟩,q2=>
  cases k2;subst e1;simp only at q2;split at q2
  ·rename_i k2 xs tx;obtain⟨ys,e3,hz,q2⟩:=o1.ex q2;obtain⟨p',ud,z1,z2,z3,_⟩:=XG.own j k2 xs tx;rw[iq]at z1;cases z1;refine hr B S2 E2 H2 xs ys r' y p ud Q XG k1 e3 z2 z3 hz λws hw=>?_;obtain⟨g3,YO⟩:=XG.put tx iq hw;exact lk _ _ _ _ _ q2 ((g1.trans g2).trans g3) YO rfl
  ·exact q2.elim
 |[],_,q2=>exact q2.elim
 |_::_::_,_,q2=>exact q2.elim
theorem gX(eK:X.K=K)(ho:QE X o (aH K Fo))(ha:QA X [e] (cK K n Fr))(WK:TQ o "append" X.env (TF o X.env)=TF o X.env:=by rfl)(WL:(ap.endLine==pos.line)=true:=by rfl)(hs:a7 e=false:=by rfl):
  QE X (.Call (.Attribute o "append" ap) [e] [] pos) (aH K (Am BL Fo Fr)):=
 (zI ho ha WK WL hs).le λσ H Q hl h=>Tw eK h λB S E H2 xs ys rr y p vs Q re rx e hp hv hz k=>by
  cases rr with
  |s _=>cases e
  |p t=>
   cases e;refine⟨p,vs,y,rfl,rfl,hp,?_,k _ (hv.append ⟨y,[],rfl,rx,rfl⟩)⟩;rw[hv.length];rw[LG]at hz;exact cB (by simp at hz;lia)
theorem sF(eK:X.K=K)(ho:QE X o (aH K Fo))(ha:QA X [e] (cK K n Fr))(WK:TQ o "extend" X.env (TF o X.env)=TF o X.env:=by rfl)(WL:(ap.endLine==pos.line)=true:=by rfl)(hs:a7 e=false:=by rfl):
  QE X (.Call (.Attribute o "extend" ap) [e] [] pos) (aH K (Am BV Fo Fr)):=
 QE.le (t:=AM X.K "list" Mh (aH K Fo) (cK K n Fr)) ⟨Ge PySem.F.plainAttrs_list PySem.F.slot_list_extend PySem.F.type_list_extend Pp ho.h ha.h WK (by rw[cC hs];rfl) WL (cC hs) (eF rfl)⟩ λσ H Q hl h=>Tw eK h λB S E H2 xs ys rr y p vs Q re rx e hp hv hz k=>by
  unfold BV at e;cases q:ownOf E rr with
  |none=>rw[q]at e;cases e
  |some zs=>
   rw[q]at e;cases e;obtain⟨j,kk,p',tw,_,_,_,rfl,h2,h3⟩:=re.ownOf rx q;refine⟨p,p',vs,tw,rfl,rfl,hp,h2,?_,k _ (hv.append h3)⟩;rw[hv.length,h3.length];rw[LG]at hz;exact MW (cB hz)
end
abbrev fR(h:oE)(T:SN)(xs:Array oA):Prop:=h.get? T=oZ { cls:=.type "tuple",data:=.seq xs }
theorem xK(a b c:oA):checkTypeCall "zip" ⟨[a,b,c],[]⟩=pure ():=by kernel_rfl
theorem xX(a b c:oA):checkBuiltinCall "zip.__new__" ⟨[.type "zip",a,b,c],[]⟩=pure ():=by kernel_rfl
theorem pU(a b c d:oA):argsOk "object.__init__" ⟨[a,b,c,d],[]⟩:=by
 unfold argsOk;rw[signature?_of (id:="object.__init__") (n:=['_','_','t','i','n','i','_','_']) (o:=['t','c','e','j','b','o']) (by kernel_rfl) PySem.F.owner_object];kernel_rfl
abbrev GF(h:oE)(a:SN):oE:=h.push { cls:=.type "list_iterator",data:=.fields #[.ref a,.int 0 0] }
abbrev GG(h:oE)(a b:SN):oE:=(GF h a).push { cls:=.type "list_iterator",data:=.fields #[.ref b,.int 0 0] }
abbrev GH(h:oE)(a b c:SN):oE:=(GG h a b).push { cls:=.type "list_iterator",data:=.fields #[.ref c,.int 0 0] }
abbrev GI(h:oE)(a b c:SN):oE:=(GH h a b c).push { cls:=.type "tuple",data:=.seq #[.ref h.objs.size,.ref (GF h a).objs.size,.ref (GG h a b).objs.size] }
abbrev GJ(h:oE)(a b c:SN):oE:=(GI h a b c).push { cls:=.type "tuple",data:=.seq #[.none,.none,.none] }
abbrev Rc(h:oE)(a b c:SN):oE:=(GJ h a b c).push { cls:=.type "zip",data:=.fields #[.none,.bool false,.bool false,.ref (GH h a b c).objs.size,.ref (GI h a b c).objs.size] }
theorem Ya(a b c:SN)(xs ys zs:Array oA):
  Meets (Builtin.«zip.__new__» ⟨[.type "zip",.ref a,.ref b,.ref c],[]⟩) (λ_ R s=>s.heap.IsList a xs/\s.heap.IsList b ys/\s.heap.IsList c zs/\R (.ok (.ret (.ref (GJ s.heap a b c).objs.size))) { s with heap:=Rc s.heap a b c }):=
 .of_wp λprog w A R s h=>by
  obtain⟨hp,g,d,tk,os⟩:=s;obtain⟨ga,gb,gc,h⟩:=h;have aBB:=sub_zip;have gA:Heap.IsList (Shared.heap ⟨hp,g,d,tk,os⟩) a xs:=ga;have gB:Heap.IsList (Shared.heap ⟨hp.push { cls:=.type "list_iterator",data:=.fields #[.ref a,.int 0 0] },g,d,tk,os⟩) b ys:=Heap.IsList.push gb _;have gC:Heap.IsList (Shared.heap ⟨(hp.push { cls:=.type "list_iterator",data:=.fields #[.ref a,.int 0 0] }).push { cls:=.type "list_iterator",data:=.fields #[.ref b,.int 0 0] },g,d,tk,os⟩) c zs:=Heap.IsList.push (Heap.IsList.push gc _) _
  wp_walk using wpAny_pyIter_list gA,wpAny_pyIter_list gB,wpAny_pyIter_list gC
  exact⟨_,rfl,h⟩
theorem Oi{prog:SR}{w:SX}{A:oD}{E:oA->oB->Prop}{s:oB}{a b c:SN}{xs ys zs:Array oA}{Q:oA->oB->Prop}(ga:s.heap.IsList a xs)(gb:s.heap.IsList b ys)(gc:s.heap.IsList c zs)
  (g:∀h',UZ h' (s.heap.objs.size+5) (s.heap.objs.size+3) (s.heap.objs.size+4) .none->fR h' (s.heap.objs.size+3) #[.ref s.heap.objs.size,.ref (s.heap.objs.size+1),.ref (s.heap.objs.size+2)]->fR h' (s.heap.objs.size+4) #[.none,.none,.none]->
   h'.IsListIter s.heap.objs.size a 0->h'.IsListIter (s.heap.objs.size+1) b 0->h'.IsListIter (s.heap.objs.size+2) c 0->(∀c o,s.heap.get? c=oZ o->h'.get? c=oZ o)->Q (.ref (s.heap.objs.size+5)) { s with heap:=h' }) :
  SQ (SU prog w) A (call (.type "zip") [.ref a,.ref b,.ref c]) Q E s:=by
 refine callType_new F.called_zip ∅ (xK _ _ _) (xX _ _ _) (λobj=>pU obj _ _ _) F.entry_zip_new (Ya a b c xs ys zs) ⟨ga,gb,gc,?_⟩;have y1:(GF s.heap a).objs.size=s.heap.objs.size+1:=NH ..;have y2:(GG s.heap a b).objs.size=s.heap.objs.size+2:=by rw[NH,y1]
 have y3:(GH s.heap a b c).objs.size=s.heap.objs.size+3:=by rw[NH,y2]
 have y4:(GI s.heap a b c).objs.size=s.heap.objs.size+4:=by rw[NH,y3]
 have y5:(GJ s.heap a b c).objs.size=s.heap.objs.size+5:=by rw[NH,y4]
 have p5:∀{d:SN}{o:Obj},(GJ s.heap a b c).get? d=oZ o->(Rc s.heap a b c).get? d=oZ o:=λe=>LI _ e;have p4:∀{d:SN}{o:Obj},(GI s.heap a b c).get? d=oZ o->(Rc s.heap a b c).get? d=oZ o:=λe=>p5 (LI _ e);have p3:∀{d:SN}{o:Obj},(GH s.heap a b c).get? d=oZ o->(Rc s.heap a b c).get? d=oZ o:=λe=>p4 (LI _ e);have p2:∀{d:SN}{o:Obj},(GG s.heap a b).get? d=oZ o->(Rc s.heap a b c).get? d=oZ o:=λe=>p3 (LI _ e);have p1:∀{d:SN}{o:Obj},(GF s.heap a).get? d=oZ o->(Rc s.heap a b c).get? d=oZ o:=λe=>p2 (LI _ e);have p0:∀{d:SN}{o:Obj},s.heap.get? d=oZ o->(Rc s.heap a b c).get? d=oZ o:=λe=>p1 (LI _ e);have x6:(Rc s.heap a b c).get? (GJ s.heap a b c).objs.size=oZ _:=LU _ rfl;have x5:(Rc s.heap a b c).get? (GI s.heap a b c).objs.size=oZ _:=p5 (LU _ rfl);have x4:(Rc s.heap a b c).get? (GH s.heap a b c).objs.size=oZ _:=p4 (LU _ rfl);have x3:(Rc s.heap a b c).get? (GG s.heap a b).objs.size=oZ _:=p3 (LU _ rfl);have x2:(Rc s.heap a b c).get? (GF s.heap a).objs.size=oZ _:=p2 (LU _ rfl);have x1:(Rc s.heap a b c).get? s.heap.objs.size=oZ _:=p1 (LU _ rfl);show _/\_;rw[y3,y4,y5]at x6;rw[y1,y2,y3]at x4;rw[y4]at x5;rw[y2]at x3;rw[y1]at x2;rw[y5];exact⟨⟨_,x6,rfl⟩,g _ x6 x4 x5 ⟨_,x1,rfl,rfl⟩ ⟨_,x2,rfl,rfl⟩ ⟨_,x3,rfl,rfl⟩ λc o e=>p0 e⟩
structure ZQ where
 κ:Bool
 a:SN
 it:SN
 items:Array oA
structure ZA(z TI TO:SN)(ps:List ZQ):Prop where
 tz:TI≠z
 oz:TO≠z
 to:TI≠TO
 iz:∀p∈ps,p.it≠z/\p.it≠TI/\p.it≠TO
 az:∀p∈ps,p.a≠z/\p.a≠TO
 ai:∀p∈ps,∀q∈ps,p.a≠q.it
 ii:∀(i j:Nat)(p q:ZQ),ps[i]?=oZ p->ps[j]?=oZ q->p.it=q.it->i=j
section
variable{prog:SR}{w:SX}{A:oD}{E:oA->oB->Prop}{s:oB}
theorem Su{α β:Type}{M:Model}{body:α->β->Sem (ForInStep β)}{b0:β}(xs:List α):∀(m:Nat)(W:Nat->oB->Prop)(s:oB)(Q:β->oB->Prop),m<=xs.length->
  (∀j x s,j<m->xs[j]?=oZ x->W j s->SQ M A (body x b0) (λr s'=>r = .yield b0/\W (j+1) s') E s)->W 0 s->(m=xs.length->∀s',W m s'->Q b0 s')->(∀y s',xs[m]?=oZ y->W m s'->SQ M A (body y b0) (λ_ _=>False) E s')->SQ M A (forIn xs b0 body) Q E s:=by
 induction xs with
 |nil=>
  intro m W s Q hl hs h0 hq hm;rw[List.forIn_nil];have e:m=0:=Nat.le_zero.mp hl;subst e;exact TB (hq rfl s h0)
 |cons x xs ih=>
  intro m W s Q hl hs h0 hq hm;rw[List.forIn_cons];cases m with
  |zero=>exact SO (cL (hm x s rfl h0) λ_ _ z=>z.elim)
  |succ m=>
   refine SO (cL (hs 0 x s ⋯ rfl h0) λr s' zz=>?_);obtain⟨e,h1⟩:=zz;subst e;exact ih m (λj=>W (j+1)) s' Q (by simpa using hl) (λj z qw hj hz hw=>hs (j+1) z qw ⋯ (by simpa using hz) hw) h1 (λe=>hq (by simp[e])) (λy qw h=>hm y qw (by simpa using h))
def ZW(s:oB)(z TI TO:SN)(ps:List ZQ)(k j:Nat)(s':oB):Prop:=∃(h:oE)(tk:Nat),s' = { s with heap:=h,toks:=tk }/\UZ h z TI TO .ellipsis/\
 (∃cur:Array oA,fR h TO cur/\cur.size=ps.length/\∀(l:Nat)(q:ZQ),l<j->ps[l]?=oZ q->∃x,q.items[k]?=oZ x/\cur[l]?=oZ x)/\
 (∀(l:Nat)(q:ZQ),ps[l]?=oZ q->jH q.κ h q.it q.a (if l<j then k+1 else k)/\vB q.κ h q.a q.items)/\
 (∀c o,c≠z->c≠TO->(∀q∈ps,c≠q.it)->s.heap.get? c=oZ o->h.get? c=oZ o)/\h.objs.size=s.heap.objs.size
theorem vB.at(x:vB κ h a VL)(e:∀o,h.get? a=oZ o->h'.get? a=oZ o):vB κ h' a VL:=by
 cases κ
 ·exact Heap.IsList.at x e
 ·exact Heap.IsTuple.at x e
theorem kF{ps:List ZQ}{l:Nat}(h:ps[l]?=oZ q):q∈ps:=LD h
theorem GK{z TI TO:SN}{ps:List ZQ}{k j:Nat}{q:ZQ}(hA:A.handled=none)(ap:ZA z TI TO ps)(hl:ps.length<=9000)(hq:ps[j]?=oZ q)(hk:k<q.items.size){s':oB}(W:ZW s z TI TO ps k j s'){Q:Option oA->oB->Prop}
  (g:∀x s2,(∃(h:oE)(tk:Nat),s2 = { s with heap:=h,toks:=tk }/\q.items[k]?=oZ x/\UZ h z TI TO .ellipsis/\
    (∃cur:Array oA,fR h TO cur/\cur.size=ps.length/\∀(l:Nat)(q:ZQ),l<j->ps[l]?=oZ q->∃x,q.items[k]?=oZ x/\cur[l]?=oZ x)/\
    (∀(l:Nat)(q:ZQ),ps[l]?=oZ q->jH q.κ h q.it q.a (if l<j+1 then k+1 else k)/\vB q.κ h q.a q.items)/\
    (∀c o,c≠z->c≠TO->(∀q∈ps,c≠q.it)->s.heap.get? c=oZ o->h.get? c=oZ o)/\h.objs.size=s.heap.objs.size)->Q (oZ x) s2) :
  SQ (SU prog w) A (Builtin.SmallTypes.nextOf (.ref q.it) >>= λx=>pure (oZ x)) Q E s':=by
 obtain⟨h,tk,rfl,hz,⟨cur,c1,c2,c3⟩,hi,kp,uf⟩:=W;have og:=kF hq;have D:=Ry (prog:=prog) (w:=w) q.κ hA q.it q.a (ap.ai q og q og) q.items;obtain⟨i1,i2⟩:=hi j q hq;rw[oW (Nat.lt_irrefl j)]at i1;refine SO (D.item k _ _ _ hk ⟨i1,i2⟩ λx hb tb px gb sb=>TB (g x _ ⟨hb,tb,rfl,px,?_,⟨cur,?_,c2,c3⟩,λl p hp=>?_,λc o n1 n2 n3 e=>?_,?_⟩))
 ·exact sb.extBut _ _ (Ne.symm (ap.iz q og).1) hz
 ·exact sb.extBut _ _ (Ne.symm (ap.iz q og).2.2) c1
 ·by_cases e:l=j
  ·subst e;rw[hq]at hp;cases hp;rw[oV (OE _)];exact gb
  ·obtain⟨a1,a2⟩:=hi l p hp;have ne:p.it≠q.it:=λz=>e (ap.ii l j p q hp hq z);have el:(if l<j+1 then k+1 else k)=(if l<j then k+1 else k):=by
    by_cases c:l<j
    ·rw[oV c,oV ⋯]
    ·rw[oW c,oW ⋯]
   rw[el];exact⟨a1.at λo x=>sb.extBut _ _ ne x,a2.at λo x=>sb.extBut _ _ (ap.ai p (kF hp) q og) x⟩
 ·exact sb.extBut _ _ (n3 q og) (kp c o n1 n2 n3 e)
 ·rw[sb.1];exact uf
theorem Nu{z TI TO:SN}{ps:List ZQ}{k m:Nat}{old:Array oA}{Q:Fin->oB->Prop}(hA:A.handled=none)(ap:ZA z TI TO ps)(ZH:ps≠[])(hl:ps.length<=9000)
  (gz:UZ s.heap z TI TO .none) (gI:fR s.heap TI (ps.map λp=>MU p.it).toArray) (gO:fR s.heap TO old) (ho:old.size=ps.length)
  (gi:∀p∈ps,jH p.κ s.heap p.it p.a k/\vB p.κ s.heap p.a p.items) (mr:m<=ps.length) (gk:∀(j:Nat)(q:ZQ),j<m->ps[j]?=oZ q->k<q.items.size) (hpk:∀p,ps[m]?=oZ p->p.items.size=k)
  (gq:m=ps.length->∀(xs:List oA)h' tk,xs.length=ps.length->(∀(l:Nat)(q:ZQ),ps[l]?=oZ q->∃x,q.items[k]?=oZ x/\xs[l]?=oZ x)->UZ h' z TI TO (rawInt s.heap.objs.size)->(∃cur:Array oA,fR h' TO cur/\cur.size=ps.length)->
   (∀p∈ps,jH p.κ h' p.it p.a (k+1))->fR h' s.heap.objs.size xs.toArray->h'.objs.size=s.heap.objs.size+1->
   (∀c o,c≠z->c≠TO->(∀q∈ps,c≠q.it)->s.heap.get? c=oZ o->h'.get? c=oZ o)->Q (.done (.ret (.ref s.heap.objs.size))) { s with heap:=h',toks:=tk })
  (ge:m<ps.length->∀h' tk e,(∀c o,c≠z->c≠TO->(∀q∈ps,c≠q.it)->s.heap.get? c=oZ o->h'.get? c=oZ o)->(∃o,h'.get? e=oZ o/\o.cls = .type "StopIteration")->E (.ref e) { s with heap:=h',toks:=tk }) :
  SQ (SU prog w) A (Builtin.«zip.__next__» ⟨[.ref z],[]⟩) Q E s:=by
 show SQ _ _ (field (.ref z) 2 >>= _) _ _ _;refine SO (UH gz rfl (x:=.bool false) rfl ?_);show SQ _ _ (field (.ref z) 3 >>= _) _ _ _;refine SO (UH gz rfl (x:=.ref TI) rfl (SO (UU gI rfl ?_)));have hem:((ps.map λp=>MU p.it).toArray).isEmpty=false:=by
  cases ps with
  |nil=>exact absurd rfl ZH
  |cons p r=>simp
 simp only[hem,Bool.false_eq_true,if_false];refine SO ?_;unfold Builtin.SmallTypes.ownedTupleIsFree;refine SO (UH gz rfl (x:=.none) rfl (TB ?_));simp only[if_true];refine SO (VH (SO (UH gz rfl (x:=.ref TO) rfl (SO (US gz (by simp) λha za sa=>?_)))));have za':UZ ha z TI TO .ellipsis:=za;refine SO ?_;have W0:ZW s z TI TO ps k 0 { s with heap:=ha }:=by
  refine⟨ha,s.toks,rfl,za',⟨old,sa.extBut _ _ ap.oz gO,ho,λl q h=>absurd h (QR _)⟩,λl q hq=>?_,λc o n1 n2 n3 e=>sa.extBut _ _ n1 e,sa.1⟩;obtain⟨g1,g2⟩:=gi q (kF hq);rw[oW (QR _)];exact⟨g1.at λo e=>sa.extBut _ _ (ap.iz q (kF hq)).1 e,g2.at λo e=>sa.extBut _ _ (ap.az q (kF hq)).1 e⟩
 have atj:∀{j:Nat}{x:oA×Nat},(List.zipIdx (ps.map λp=>MU p.it).toArray.toList)[j]?=oZ x->∃q,ps[j]?=oZ q/\x=(MU q.it,j):=λ{j x}hx=>by
  rw[List.getElem?_zipIdx]at hx;simp only[LB,Option.map_map]at hx;cases q:ps[j]? with
  |none=>simp[q]at hx
  |some p=>simp[q]at hx;exact⟨p,rfl,hx.symm⟩
 have ll:(List.zipIdx (ps.map λp=>MU p.it).toArray.toList).length=ps.length:=by simp
 refine Su _ m (ZW s z TI TO ps k) _ _ (by rw[ll];exact mr) (λj x s' hjm hx hW=>?_) W0 (λem s' hW=>?_) (λy s' hy hW=>?_)
 ·obtain⟨q,hq,rfl⟩:=atj hx;have hj:j<ps.length:=(KZ.mp hq).1;refine SO (wpAny_onRaise ?_);show SQ _ _ (Builtin.SmallTypes.nextOf (.ref q.it) >>= _) _ _ _;refine GK hA ap hl hq (gk j q hjm hq) hW λx s2 zZ=>?_;obtain⟨h,tk,es,px,hz,⟨cur,c1,c2,c3⟩,hi,kp,uf⟩:=zZ;subst es;have yg:h.get? TO=oZ { cls:=.type "tuple",data:=.seq cur }:=c1;refine SO (UU yg rfl (SO (wpAny_updateSeq yg rfl ?_ (by rw[c2];exact MW (cB hl)) (by simp;rw[c2];exact Nat.le_succ_of_le (MW (cB hl))))));refine SO (wpAny_letGo (TB ⟨rfl,?_⟩));have su:PF TO h (h.update TO (OL (·.setIfInBounds j x))):=Heap.SameBut.update ..;have gu:fR (h.update TO (OL (·.setIfInBounds j x))) TO (cur.setIfInBounds j x):=by
   show(h.update TO (OL (·.setIfInBounds j x))).get? TO=_;rw[QH _ yg rfl];simp[OL]
  refine⟨_,tk,rfl,su.extBut _ _ (Ne.symm ap.oz) hz,⟨_,gu,by simp[c2],λl p hl' hp=>?_⟩,λl p hp=>?_,λc o n1 n2 n3 e=>su.extBut _ _ n2 (kp c o n1 n2 n3 e),by rw[su.1];exact uf⟩
  ·by_cases e:l=j
   ·subst e;rw[hq]at hp;cases hp;exact⟨x,px,by rw[Array.getElem?_setIfInBounds_self_of_lt (by rw[c2];exact hj)]⟩
   ·obtain⟨y,y1,y2⟩:=c3 l p ⋯ hp;exact⟨y,y1,by rw[Array.getElem?_setIfInBounds_ne (λz=>e z.symm)];exact y2⟩
  ·obtain⟨a1,a2⟩:=hi l p hp;exact⟨a1.at λo e=>su.extBut _ _ (ap.iz p (kF hp)).2.2 e,a2.at λo e=>su.extBut _ _ (ap.az p (kF hp)).2 e⟩
 ·rw[ll]at em;obtain⟨he,tk,rfl,hz,⟨cur,c1,c2,c3⟩,hi,kp,uf⟩:=hW;have yg:he.get? TO=oZ { cls:=.type "tuple",data:=.seq cur }:=c1;refine SO (UU yg rfl (SO (wpAny_newTuple ?_ (by simp;rw[c2];exact MW (cB hl)))));have zlt:z<he.objs.size:=LL hz;show SQ _ _ (Builtin.SmallTypes.ownedTupleHandOut (.ref z) (.ref he.objs.size) >>= _) _ _ _;refine SO ?_;unfold Builtin.SmallTypes.ownedTupleHandOut;have zf:UZ (he.push { cls:=.type "tuple",data:=.seq cur.toList.toArray }) z TI TO .ellipsis:=LI _ hz;refine SO (US zf (by simp) λhg zg sg=>?_);have zg':UZ hg z TI TO (rawInt he.objs.size):=zg;refine US zg' (by simp) λhh zh sh=>?_;have zh':UZ hh z TI TO (rawInt he.objs.size):=zh;have up:∀c o,c≠z->he.get? c=oZ o->hh.get? c=oZ o:=λc o q e=>sh.extBut _ _ q (sg.extBut _ _ q (LI _ e));have gTh:fR hh he.objs.size cur.toList.toArray:=sh.extBut _ _ (Nat.ne_of_gt zlt) (sg.extBut _ _ (Nat.ne_of_gt zlt) (LU _ rfl));have szz:hh.objs.size=he.objs.size+1:=by rw[sh.1,sg.1,NH]
  rw[uf]at zh' gTh szz;refine TB ?_;show Q (.done (.ret (.ref he.objs.size))) _;rw[uf];refine gq em cur.toList hh tk (by simp[c2]) (λl q hq=>?_) zh' ⟨cur,up _ _ ap.oz c1,c2⟩ (λp hp=>?_) gTh szz λc o n1 n2 n3 e=>up c o n1 (kp c o n1 n2 n3 e)
  ·obtain⟨x,x1,x2⟩:=c3 l q (by rw[em];exact(KZ.mp hq).1) hq;exact⟨x,x1,by simpa using x2⟩
  ·obtain⟨l,hl'⟩:=NK hp;obtain⟨a1,_⟩:=hi l p hl';rw[em,oV (KZ.mp hl').1]at a1;exact a1.at λo e=>up _ _ (ap.iz p hp).1 e
 ·obtain⟨h,tk,rfl,hz,_,hi,kp,uf⟩:=hW;obtain⟨p,hm,rfl⟩:=atj hy;have vq:=kF hm;have hpk:=hpk p hm;have D:=Ry (prog:=prog) (w:=w) p.κ hA p.it p.a (ap.ai p vq p vq) p.items;obtain⟨i1,i2⟩:=hi m p hm;rw[oW (Nat.lt_irrefl m)]at i1;refine SO (wpAny_onRaise ?_);show SQ _ _ (Builtin.SmallTypes.nextOf (.ref p.it) >>= _) _ _ _;refine SO (D.done _ _ _ (by rw[hpk];exact⟨i1,i2⟩) λhb e sb he=>?_);obtain⟨oe,q1,q2⟩:=he;have sb':Heap.ExtBut p.it h hb:=sb;have zb:UZ hb z TI TO .ellipsis:=sb' _ _ (Ne.symm (ap.iz p vq).1) hz;have hez:e≠z:=λx=>by subst x;rw[zb]at q1;cases q1;simp at q2
  exact US zb (by simp) λhc _ sc=>ge (KZ.mp hm).1 hc tk e (λc o c1 c2 c3 x=>sc.extBut _ _ c1 (sb' _ _ (c3 p vq) (kp c o c1 c2 c3 x))) ⟨oe,sc.extBut _ _ hez q1,q2⟩
end
def Dg(κ:Bool)(K:W.Frag)(H:Hp)(a:SN)(xs:List V):Prop:=match κ with
 |true=>Dh K H a xs
 |false=>lA K H a xs
theorem aT.sqK(I:aT X pins σ H s)(h:Dg κ X.K H a xs):∃VL:List oA,a9 xs VL/\vB κ s.heap a VL.toArray:=by
 cases κ
 ·obtain⟨VL,r,p,_⟩:=I.list h;exact⟨VL,r,p.isList⟩
 ·obtain⟨VL,r,p,_⟩:=I.tuple h;exact⟨VL,r,p⟩
theorem aT.sqK_inj(I:aT X pins σ H s)(h:Dg κ X.K H a xs)(h':Dg κ X.K H a ys):xs=ys:=by
 cases κ
 ·exact I.list_inj h h'
 ·exact I.tuple_inj h h'
theorem aT.notfp(I:aT X pins σ H s)(h:Dg κ X.K H a xs)(f:pC X pins H b):a≠b:=by
 have kk:∀{o:Obj},X.K.lookup a=oZ o->a≠b:=λ{o}hk z=>by
  have hb:X.base.get? a=oZ o:=I.mod.kin a o hk;subst z;obtain z|z:=f.2.2.2.1
  ·exact I.ok.noex a o hb z
  ·exact absurd (LP (LP (LL hb) I.ok.bsz) z) (Nat.lt_irrefl _)
 have hh:∀{u:HO},Rd H a u->a≠b:=λ{u}r z=>by
  subst z;have:=f.1;obtain r|⟨o,r⟩:=r
  ·rw[this]at r;cases r
  ·rw[this]at r;cases r
 cases κ
 ·obtain h|⟨o,VL,n,hk,_⟩:=h
  ·exact hh h
  ·exact kk hk
 ·obtain h|⟨o,VL,n,hk,_⟩:=h
  ·exact hh h
  ·exact kk hk
theorem HK(I:aT X pins σ H s):∀(ps:List (Bool×SN))(VL:List SN),VL.length=ps.length->(∀p∈ps,∃xs,Dg p.1 X.K H p.2 xs)->
  ∃qs:List ZQ,qs.map (λq=>(q.κ,q.a))=ps/\qs.map (·.it)=VL/\∀q∈qs,vB q.κ s.heap q.a q.items/\∃xs,Dg q.κ X.K H q.a xs/\a9 xs q.items.toList
 |[],[],_,_=>⟨[],rfl,rfl,λq h=>absurd h (by simp)⟩
 |[],_::_,e,_=>by simp at e
 |_::_,[],e,_=>by simp at e
 |p::ps,it::VL,e,h=>by
  obtain⟨qs,h1,h2,h3⟩:=HK I ps VL (by simpa using e) λq hq=>h q (by simp[hq]);obtain⟨xs,hx⟩:=h p (by simp);obtain⟨vs,r,sk⟩:=I.sqK hx;refine⟨⟨p.1,p.2,it,vs.toArray⟩::qs,by simp[h1],by simp[h2],λq hq=>?_⟩;obtain rfl|hq:=LH.mp hq
  ·exact⟨sk,xs,hx,by simpa using r⟩
  ·exact h3 q hq
def BD(K:W.Frag)(ps:List (Bool×SN)):It:=
  ⟨λi H=>∀p∈ps,∃xs x,Dg p.1 K H p.2 xs/\xs[i]?=oZ x,
   λi H v H'=>∃(q:SN)(ys:List V),v = .ref q/\H q=none/\H'=upd H q (.tup ys)/\ys.length=ps.length/\∀(j:Nat)(p:Bool×SN)(y:V),ps[j]?=oZ p->ys[j]?=oZ y->∀xs,Dg p.1 K H p.2 xs->xs[i]?=oZ y,
   λi H=>(∀p∈ps,∃xs,Dg p.1 K H p.2 xs)/\∃(m:Nat)(p:Bool×SN),ps[m]?=oZ p/\(∃xs,Dg p.1 K H p.2 xs/\xs.length=i)/\∀(j:Nat)(q:Bool×SN),j<m->ps[j]?=oZ q->∃xs x,Dg q.1 K H q.2 xs/\xs[i]?=oZ x⟩
def ZT(z TI TO:SN)(ps:List (Bool×SN))(VL:List SN)(i:Nat)(h:oE):Prop:=UZ h z TI TO .none/\fR h TI (VL.map MU).toArray/\(∃old:Array oA,fR h TO old/\old.size=ps.length)/\
 ∀(j:Nat)(p:Bool×SN)(it:SN),ps[j]?=oZ p->VL[j]?=oZ it->jH p.1 h it p.2 i
theorem zS{P:SR}{w:SX}{K:W.Frag}{elts:List oC}{x1}{ZK:Pos}(z TI TO:SN)(ps:List (Bool×SN))(VL:List SN)(hl:VL.length=ps.length)(ZH:ps≠[])(hz:ps.length<=9000)(nd:(z::TI::TO::VL).Nodup):
  Nx P w K (.Tuple elts x1 ZK) (BD K ps) (z::TI::TO::VL) z (ZT z TI TO ps VL):=by
 simp only[NJ,LH,not_or]at nd;obtain⟨⟨n1,n2,n3⟩,⟨n4,n5⟩,n6,n7⟩:=nd;have apart:∀{X:Cx}{pins:List (SN×Obj)}{σ:St}{H:Hp}{s:oB}{qs:List ZQ},aT X pins σ H s->(∀c∈z::TI::TO::VL,pC X pins H c)->qs.map (·.it)=VL->(∀q∈qs,∃xs,Dg q.κ X.K H q.a xs)->ZA z TI TO qs:=by
  intro X pins σ H s qs I hf e1 hq;have mi:∀q∈qs,q.it∈VL:=λq hq=>by rw[<-e1];exact QZ hq
  refine⟨λe=>n1 e.symm,λe=>n2 e.symm,n4,λp hp=>⟨λe=>n3 (e ▸ mi p hp),λe=>n5 (e ▸ mi p hp),λe=>n6 (e ▸ mi p hp)⟩,λp hp=>?_,λp hp q oh=>?_,λi j p q hi hj e=>?_⟩
  ·obtain⟨xs,hx⟩:=hq p hp;exact⟨I.notfp hx (hf z (by simp)),I.notfp hx (hf TO (by simp))⟩
  ·obtain⟨xs,hx⟩:=hq p hp;exact I.notfp hx (hf q.it (by simp[mi q oh]))
  ·have cf:VL[i]?=oZ p.it:=by rw[<-e1,LB,hi];rfl
   have hj':VL[j]?=oZ q.it:=by rw[<-e1,LB,hj];rfl
   exact(RG (KZ.mp cf).1 n7).mp (by rw[cf,hj',e])
 refine⟨by simp,λi h st c hc=>?_,λi h h' st k=>?_,?_,?_,λ_ _ _ _ _ st h=>wpAny_pyIter_zip st.1 h⟩
 ·obtain⟨s1,s2,⟨old,s3,_⟩,s4⟩:=st;simp only[LH]at hc;obtain rfl|rfl|rfl|hc:=hc
  ·exact⟨_,s1,λv z=>by cases z⟩
  ·exact⟨_,s2,λv z=>by cases z⟩
  ·exact⟨_,s3,λv z=>by cases z⟩
  ·obtain⟨j,hj⟩:=NK hc;have mq:j<ps.length:=by rw[<-hl];exact(KZ.mp hj).1
   exact(s4 j _ c (LA mq) hj).obj
 ·obtain⟨s1,s2,⟨old,s3,s3'⟩,s4⟩:=st;exact⟨k z (by simp) _ s1,k TI (by simp) _ s2,⟨old,k TO (by simp) _ s3,s3'⟩,λj p it hp hit=>(s4 j p it hp hit).at λo e=>k it (by simp[LD hit]) o e⟩
 ·intro X hP hw hK hc i pins s σ H E I hf st hg;subst hP hw hK;obtain⟨s1,s2,⟨old,s3,s3'⟩,s4⟩:=st;obtain⟨qs,e1,e2,h3⟩:=HK I ps VL hl λp hp=>let⟨xs,_,h,_⟩:=hg p hp;⟨xs,h⟩;have vw:qs.length=ps.length:=by rw[<-e1,LJ]
  have ap:=apart I hf e2 λq hq=>let⟨_,xs,h,_⟩:=h3 q hq;⟨xs,h⟩;have hA:X.A.in1.handled=none:=I.ok.hd hc;have yh:s.TypeIs (.ref z) "zip":=⟨_,s1,rfl⟩;have kr:∀{j:Nat}{q:ZQ},qs[j]?=oZ q->ps[j]?=oZ (q.κ,q.a)/\VL[j]?=oZ q.it:=λ{j q}h=>⟨by rw[<-e1,LB,h];rfl,by rw[<-e2,LB,h];rfl⟩;have gi:∀q∈qs,jH q.κ s.heap q.it q.a i/\vB q.κ s.heap q.a q.items:=λq hq=>by
   obtain⟨j,hj⟩:=NK hq;exact⟨s4 j _ _ (kr hj).1 (kr hj).2,(h3 q hq).1⟩
  have gk:∀q∈qs,i<q.items.size:=λq hq=>by
   obtain⟨j,hj⟩:=NK hq;obtain⟨xs,x,q1,q2⟩:=hg _ (LD (kr hj).1);obtain⟨_,ys,r1,r2⟩:=h3 q hq;rw[I.sqK_inj q1 r1]at q2;have:=(KZ.mp q2).1;have:=r2.length;simp at this
   lia
  have gI:fR s.heap TI (qs.map λp=>MU p.it).toArray:=by
   have:(qs.map λp=>MU p.it)=VL.map MU:=by rw[<-e2,List.map_map];rfl
   rw[this];exact s2
  unfold pyNext;refine SO (wpAny_attempt (wpAny_callSpecial?_slot (name:=LM "__next__") yh F.slot_zip_next (VA F.slot_zip_next yh F.entry_zip_next
   (Nu hA ap (λz=>by rw[z]at vw;exact ZH (ND (by simpa using vw.symm))) ⋯ s1 gI s3 ⋯ gi (LN _) (λ_ q _ h=>gk q (kF h)) (λp h=>by simp at h) (λ_ vs h' tk lv pv zz zo g1 zt sz kp=>⟨_,rfl,TB ?_⟩) (λh=>absurd h (Nat.lt_irrefl _))) (F.args_zip_next_1 _))))
  refine⟨_,rfl,wpAny_letOwnedTupleGo_zip zz λh2 z2 sb=>?_⟩;have hzn:z≠s.heap.objs.size:=MA (LL s1);have kk:∀c o,c∉z::TI::TO::VL->s.heap.get? c=oZ o->h2.get? c=oZ o:=λc o hc q=>by
   simp only[LH,not_or]at hc;refine sb.extBut c o hc.1 (kp c o hc.1 hc.2.2.1 (λq' oh e=>hc.2.2.2 ?_) q);rw[e,<-e2];exact QZ oh
  -- the items,as they are Hg
  obtain⟨ys,hys,ry⟩:∃ys:List V,(ys.length=ps.length/\∀(j:Nat)(p:Bool×SN)(y:V),ps[j]?=oZ p->ys[j]?=oZ y->∀xs,Dg p.1 X.K H p.2 xs->xs[i]?=oZ y)/\a9 ys vs:=by
   have dP:∀(n:Nat)(rs:List ZQ)(us:List oA),rs.length=n->us.length=n->(∀q∈rs,∃xs,Dg q.κ X.K H q.a xs/\a9 xs q.items.toList)->(∀(l:Nat)(q:ZQ),rs[l]?=oZ q->∃x,q.items[i]?=oZ x/\us[l]?=oZ x)->
     ∃ys:List V,ys.length=n/\a9 ys us/\∀(j:Nat)(q:ZQ)(y:V),rs[j]?=oZ q->ys[j]?=oZ y->∀xs,Dg q.κ X.K H q.a xs->xs[i]?=oZ y:=by
    intro n
    induction n with
    |zero=>
     intro rs us h1 h2 _ _;refine⟨[],rfl,?_,λj q y hq=>?_⟩
     ·rw[ND h2];exact .nil
     ·rw[ND h1]at hq;simp at hq
    |succ n ih=>
     intro rs us h1 h2 h4 h5
     match rs,us,h1,h2 with
     |q::rs,u::us,h1,h2=>
      obtain⟨ys,l1,l2,l3⟩:=ih rs us (by simpa using h1) (by simpa using h2) (λq' oh=>h4 q' (by simp[oh])) (λl q' oh=>by have:=h5 (l+1) q' (by simpa using oh);simpa using this);obtain⟨xs,a1,a2⟩:=h4 q (by simp);obtain⟨x,b1,b2⟩:=h5 0 q rfl;simp at b2;subst b2;have qi:q.items.toList[i]?=oZ u:=by simpa using b1
      have hi:i<xs.length:=by rw[a2.length];exact(KZ.mp qi).1
      obtain⟨u',c1,c2⟩:=a2.get (LA hi);rw[qi]at c1;cases c1;refine⟨xs[i]::ys,by simp[l1],.cons c2 l2,λj q' y hq hy zs hz'=>?_⟩;cases j with
      |zero=>
       simp at hq hy;subst hq;subst hy;rw[I.sqK_inj hz' a1];exact LA hi
      |succ j=>exact l3 j q' y (by simpa using hq) (by simpa using hy) zs hz'
   obtain⟨ys,l1,l2,l3⟩:=dP qs.length qs vs rfl lv (λq hq=>(h3 q hq).2) pv;refine⟨ys,⟨⋯,λj p y hp hy xs hx=>?_⟩,l2⟩;have mq:j<qs.length:=by rw[vw];exact(KZ.mp hp).1
   have hq:=LA mq;have:=(kr hq).1;rw[hp]at this;cases this;exact l3 j _ y hq hy xs hx
  have new:dW X.prog X.w (upd H s.heap.objs.size (.tup ys)) h2 s.heap.objs.size (.tup ys):=
   ⟨by rw[hys.1];exact MW (cB hz),vs,ry,⟨_,sb.extBut _ _ (Ne.symm hzn) zt,rfl,_,rfl⟩⟩
  have up:∀{c:SN}{o:Obj},c≠z->h'.get? c=oZ o->h2.get? c=oZ o:=λhc q=>sb.extBut _ _ hc q;refine⟨.ref s.heap.objs.size,upd H s.heap.objs.size (.tup ys),I.turnedLaid (t':=tk) (ch:=z::TI::TO::VL) kk hf (LN _) new,rfl,
   ⟨_,ys,rfl,I.hok.fresh (LN _),rfl,hys.1,hys.2⟩,⟨z2,up (λe=>n1 e.symm) (kp _ _ (λe=>n1 e.symm) n4 (λq hq=>λe=>(ap.iz q hq).2.1 e.symm) s2),?_,λj p it hp hit=>?_⟩,λc hc=>?_⟩
  ·obtain⟨cur,u1,u2⟩:=zo;exact⟨cur,up ap.oz u1,⋯⟩
  ·have mq:j<qs.length:=by rw[vw];exact(KZ.mp hp).1
   have hq:=LA mq;have q1:=(kr hq).1;have q2:=(kr hq).2;rw[hp]at q1;cases q1;rw[hit]at q2;cases q2;exact(g1 _ (NM mq)).at λo e=>up (ap.iz _ (NM mq)).1 e
  ·have XO:c<s.heap.objs.size:=by
    simp only[LH]at hc;obtain rfl|rfl|rfl|hc:=hc
    ·exact LL s1
    ·exact LL s2
    ·exact LL s3
    ·obtain⟨j,hj⟩:=NK hc;have mq:j<ps.length:=by rw[<-hl];exact(KZ.mp hj).1
     obtain⟨o,e,_⟩:=(s4 j _ c (LA mq) hj).obj;exact LL e
   rw[bD (MA XO)];exact(hf c hc).1
 ·intro X hP hw hK hc i pins s σ H E I hf st hg;subst hP hw hK;obtain⟨kh,m,pm,hm,⟨xm,hxm,hlm⟩,hb⟩:=hg;obtain⟨s1,s2,⟨old,s3,s3'⟩,s4⟩:=st;obtain⟨qs,e1,e2,h3⟩:=HK I ps VL hl kh;have vw:qs.length=ps.length:=by rw[<-e1,LJ]
  have ap:=apart I hf e2 λq hq=>let⟨_,xs,h,_⟩:=h3 q hq;⟨xs,h⟩;have hA:X.A.in1.handled=none:=I.ok.hd hc;have yh:s.TypeIs (.ref z) "zip":=⟨_,s1,rfl⟩;have kr:∀{j:Nat}{q:ZQ},qs[j]?=oZ q->ps[j]?=oZ (q.κ,q.a)/\VL[j]?=oZ q.it:=λ{j q}h=>⟨by rw[<-e1,LB,h];rfl,by rw[<-e2,LB,h];rfl⟩;have gi:∀q∈qs,jH q.κ s.heap q.it q.a i/\vB q.κ s.heap q.a q.items:=λq hq=>by
   obtain⟨j,hj⟩:=NK hq;exact⟨s4 j _ _ (kr hj).1 (kr hj).2,(h3 q hq).1⟩
  have gI:fR s.heap TI (qs.map λp=>MU p.it).toArray:=by
   have:(qs.map λp=>MU p.it)=VL.map MU:=by rw[<-e2,List.map_map];rfl
   rw[this];exact s2
  have mr:m<qs.length:=by rw[vw];exact(KZ.mp hm).1
  have og:=LA mr;have vq:qs[m].items.size=i:=by
   have q1:=(kr og).1;rw[hm]at q1;cases q1;obtain⟨_,ys,r1,r2⟩:=h3 _ (NM mr);rw[I.sqK_inj hxm r1]at hlm;have:=r2.length;simp at this
   lia
  have gk:∀(j:Nat)(q:ZQ),j<m->qs[j]?=oZ q->i<q.items.size:=λj q hj hq=>by
   obtain⟨xs,x,q1,q2⟩:=hb j _ hj (kr hq).1;obtain⟨_,ys,r1,r2⟩:=h3 q (kF hq);rw[I.sqK_inj q1 r1]at q2;have:=(KZ.mp q2).1;have:=r2.length;simp at this
   lia
  unfold pyNext;refine SO (wpAny_attempt (wpAny_callSpecial?_slot (name:=LM "__next__") yh F.slot_zip_next (VA F.slot_zip_next yh F.entry_zip_next
   (Nu hA ap (λz=>by rw[z]at mr;cases mr) ⋯ s1 gI s3 ⋯ gi (MW mr) gk (λp h=>by rw[og]at h;cases h;exact vq) (λe=>absurd e (MA mr)) λ_ h' tk e kp he=>?_) (F.args_zip_next_1 _))))
  obtain⟨o,ho,hco⟩:=he;refine SO (wpAny_isInstance (T:="StopIteration") (b:=true) ⟨o,ho,hco⟩ isSubtype_stop (TB ⟨rfl,?_⟩));refine I.turnedL (t':=tk) (ch:=z::TI::TO::VL) (λc o hc q=>?_) hf;simp only[LH,not_or]at hc;refine kp c o hc.1 hc.2.2.1 (λq' oh e=>hc.2.2.2 ?_) q;rw[e,<-e2];exact QZ oh
def gM:List T->List T->List T
 |x::xs,y::ys=>.tup [x,y]::gM xs ys
 |_,_=>[]
def jA:List T->List T->List T->List T
 |x::xs,y::ys,z::zs=>.tup [x,y,z]::jA xs ys zs
 |_,_,_=>[]
theorem jG:∀xs ys:List T,(gM xs ys).length=min xs.length ys.length
 |[],_=>by simp[gM]
 |_::_,[]=>by simp[gM]
 |_::xs,_::ys=>by simp[gM,jG xs ys]
theorem pB:∀xs ys zs:List T,(jA xs ys zs).length=min xs.length (min ys.length zs.length)
 |[],_,_=>by simp[jA]
 |_::_,[],_=>by simp[jA]
 |_::_,_::_,[]=>by simp[jA]
 |_::xs,_::ys,_::zs=>by simp[jA,pB xs ys zs]
theorem oS:∀{xs ys:List T}{i:Nat}{t:T},(gM xs ys)[i]?=oZ t->∃x y,xs[i]?=oZ x/\ys[i]?=oZ y/\t = .tup [x,y]
 |[],_,_,_,h=>by simp[gM]at h
 |_::_,[],_,_,h=>by simp[gM]at h
 |x::_,y::_,0,_,h=>by simp[gM]at h;exact⟨x,y,rfl,rfl,h.symm⟩
 |_::xs,_::ys,i+1,t,h=>by
  obtain⟨x,y,h1,h2,h3⟩:=oS (xs:=xs) (ys:=ys) (i:=i) (t:=t) (by simpa[gM]using h);exact⟨x,y,by simpa using h1,by simpa using h2,h3⟩
theorem xQ:∀{xs ys zs:List T}{i:Nat}{t:T},(jA xs ys zs)[i]?=oZ t->∃x y z,xs[i]?=oZ x/\ys[i]?=oZ y/\zs[i]?=oZ z/\t = .tup [x,y,z]
 |[],_,_,_,_,h=>by simp[jA]at h
 |_::_,[],_,_,_,h=>by simp[jA]at h
 |_::_,_::_,[],_,_,h=>by simp[jA]at h
 |x::_,y::_,z::_,0,_,h=>by simp[jA]at h;exact⟨x,y,z,rfl,rfl,rfl,h.symm⟩
 |_::xs,_::ys,_::zs,i+1,t,h=>by
  obtain⟨x,y,z,h1,h2,h3,h4⟩:=xQ (xs:=xs) (ys:=ys) (zs:=zs) (i:=i) (t:=t) (by simpa[jA]using h);exact⟨x,y,z,by simpa using h1,by simpa using h2,by simpa using h3,h4⟩
def Qy(κ:Bool)(xs:List T):T:=match κ with
 |true=>.tup xs
 |false=>.lst xs
theorem j4{K:W.Frag}{H:Hp}{O:SN->Prop}{κ:Bool}{xs:List T}{a:SN}(h:Rp K H O (Qy κ xs) (.ref a)):∃vs,Dg κ K H a vs/\cR K H O xs vs:=by
 cases κ
 ·obtain⟨a',vs,e,h1,h2⟩:=Rp.sqL h;cases e;exact⟨vs,h1,h2⟩
 ·obtain⟨a',vs,e,h1,h2⟩:=Rp.sqT h;cases e;exact⟨vs,h1,h2⟩
theorem Lm{K:W.Frag}{κ:Bool}{a b:SN}{xs ys:List T}:Ht K (BD K [(κ,a),(κ,b)]) (gM xs ys) (λH O=>Rp K H O (Qy κ xs) (.ref a)/\Rp K H O (Qy κ ys) (.ref b)):=by
 refine⟨λH H' O O' k h=>⟨Rp.step k h.1,Rp.step k h.2⟩,λi H O h hi=>?_,λi H O x H' t h e hO y=>?_,λH O h=>?_⟩
 ·obtain⟨vs,s1,r1⟩:=j4 h.1;obtain⟨ws,s2,r2⟩:=j4 h.2;rw[jG]at hi;intro p hp;simp only[LH,NB,or_false]at hp;obtain rfl|rfl:=hp
  ·exact⟨vs,vs[i]'(by rw[r1.length];lia),s1,LA _⟩
  ·exact⟨ws,ws[i]'(by rw[r2.length];lia),s2,LA _⟩
 ·obtain⟨vs,s1,r1⟩:=j4 h.1;obtain⟨ws,s2,r2⟩:=j4 h.2;obtain⟨q,us,e1,hq,e2,lu,hu⟩:=y;subst e1;subst e2;obtain⟨t1,t2,g1,g2,rfl⟩:=oS e;obtain⟨v1,a1,b1⟩:=r1.get g1;obtain⟨v2,a2,b2⟩:=r2.get g2
  match us,lu with
  |[u1,u2],_=>
   have z1:=hu 0 _ u1 rfl rfl vs s1;have z2:=hu 1 _ u2 rfl rfl ws s2;rw[a1]at z1;cases z1;rw[a2]at z2;cases z2;have k:Kp O O H (upd H q (.tup [v1,v2])):=Kp.upd hq;exact⟨k,λb o z=>by rw[bD (a8 z hq)];exact z,q,_,rfl,.inl ⟨λz=>hO q z hq,dS⟩,v1,_,rfl,b1.step k,v2,_,rfl,b2.step k,rfl⟩
 ·obtain⟨vs,s1,r1⟩:=j4 h.1;obtain⟨ws,s2,r2⟩:=j4 h.2;have l1:=r1.length;have l2:=r2.length;refine⟨λp hp=>?_,?_⟩
  ·simp only[LH,NB,or_false]at hp;obtain rfl|rfl:=hp
   ·exact⟨vs,s1⟩
   ·exact⟨ws,s2⟩
  ·rw[jG]
   by_cases c:xs.length<=ys.length
   ·exact⟨0,_,rfl,⟨vs,s1,⋯⟩,λj q hj=>absurd hj (QR _)⟩
   ·refine⟨1,_,rfl,⟨ws,s2,⋯⟩,λj q hj hq=>?_⟩;obtain rfl:j=0:=⋯
    cases hq;exact⟨vs,vs[min xs.length ys.length]'⋯,s1,LA _⟩
theorem Zr{K:W.Frag}{κ:Bool}{a b c:SN}{xs ys zs:List T}:Ht K (BD K [(κ,a),(κ,b),(κ,c)]) (jA xs ys zs) (λH O=>Rp K H O (Qy κ xs) (.ref a)/\Rp K H O (Qy κ ys) (.ref b)/\Rp K H O (Qy κ zs) (.ref c)):=by
 refine⟨λH H' O O' k h=>⟨Rp.step k h.1,Rp.step k h.2.1,Rp.step k h.2.2⟩,λi H O h hi=>?_,λi H O x H' t h e hO y=>?_,λH O h=>?_⟩
 ·obtain⟨vs,s1,r1⟩:=j4 h.1;obtain⟨ws,s2,r2⟩:=j4 h.2.1;obtain⟨us,s3,r3⟩:=j4 h.2.2;rw[pB]at hi;intro p hp;simp only[LH,NB,or_false]at hp;obtain rfl|rfl|rfl:=hp
  ·exact⟨vs,vs[i]'(by rw[r1.length];lia),s1,LA _⟩
  ·exact⟨ws,ws[i]'(by rw[r2.length];lia),s2,LA _⟩
  ·exact⟨us,us[i]'(by rw[r3.length];lia),s3,LA _⟩
 ·obtain⟨vs,s1,r1⟩:=j4 h.1;obtain⟨ws,s2,r2⟩:=j4 h.2.1;obtain⟨ts,s3,r3⟩:=j4 h.2.2;obtain⟨q,us,e1,hq,e2,lu,hu⟩:=y;subst e1;subst e2;obtain⟨t1,t2,t3,g1,g2,g3,rfl⟩:=xQ e;obtain⟨v1,a1,b1⟩:=r1.get g1;obtain⟨v2,a2,b2⟩:=r2.get g2;obtain⟨v3,a3,b3⟩:=r3.get g3
  match us,lu with
  |[u1,u2,u3],_=>
   have z1:=hu 0 _ u1 rfl rfl vs s1;have z2:=hu 1 _ u2 rfl rfl ws s2;have z3:=hu 2 _ u3 rfl rfl ts s3;rw[a1]at z1;cases z1;rw[a2]at z2;cases z2;rw[a3]at z3;cases z3;have k:Kp O O H (upd H q (.tup [v1,v2,v3])):=Kp.upd hq;exact⟨k,λb o z=>by rw[bD (a8 z hq)];exact z,q,_,rfl,.inl ⟨λz=>hO q z hq,dS⟩,v1,_,rfl,b1.step k,v2,_,rfl,b2.step k,v3,_,rfl,b3.step k,rfl⟩
 ·obtain⟨vs,s1,r1⟩:=j4 h.1;obtain⟨ws,s2,r2⟩:=j4 h.2.1;obtain⟨us,s3,r3⟩:=j4 h.2.2;have l1:=r1.length;have l2:=r2.length;have l3:=r3.length;refine⟨λp hp=>?_,?_⟩
  ·simp only[LH,NB,or_false]at hp;obtain rfl|rfl|rfl:=hp
   ·exact⟨vs,s1⟩
   ·exact⟨ws,s2⟩
   ·exact⟨us,s3⟩
  ·rw[pB]
   by_cases c1:xs.length<=min ys.length zs.length
   ·exact⟨0,_,rfl,⟨vs,s1,⋯⟩,λj q hj=>absurd hj (QR _)⟩
   ·by_cases c2:ys.length<=zs.length
    ·refine⟨1,_,rfl,⟨ws,s2,⋯⟩,λj q hj hq=>?_⟩;obtain rfl:j=0:=⋯
     cases hq;exact⟨vs,vs[min xs.length (min ys.length zs.length)]'⋯,s1,LA _⟩
    ·refine⟨2,_,rfl,⟨us,s3,⋯⟩,λj q hj hq=>?_⟩;have:j=0\/j=1:=⋯
     obtain rfl|rfl:=this
     ·cases hq;exact⟨vs,vs[min xs.length (min ys.length zs.length)]'⋯,s1,LA _⟩
     ·cases hq;exact⟨ws,ws[min xs.length (min ys.length zs.length)]'⋯,s2,LA _⟩
section
variable{X:Cx}{K:W.Frag}{pos:Pos}{Fr:FA}
def KI(K:W.Frag)(ta:TA):TI:=λσ H R=>ta σ H λvs H1=>∃κ a b xs ys,vs=[.ref a,.ref b]/\Dg κ K H1 a xs/\Dg κ K H1 b ys/\R (BD K [(κ,a),(κ,b)]) H1
def KN(K:W.Frag)(ta:TA):TI:=λσ H R=>ta σ H λvs H1=>∃a b c xs ys zs,vs=[.ref a,.ref b,.ref c]/\lA K H1 a xs/\lA K H1 b ys/\lA K H1 c zs/\R (BD K [(false,a),(false,b),(false,c)]) H1
theorem DR{x1}(hg:Gl X "zip")(hm:X.mg "zip" = none)(ha:QA X [l,r] ta)(hs:a7 l=false:=by rfl)(bq:a7 r=false:=by rfl):
  QI X (.Tuple elts x1 ZK) (.Call (.Name "zip" p) [l,r] [] pos) (KI X.K ta):=⟨by
 intro pins s σ H R I h;refine Call_ (pY I hg hm boot_zip (PyProof.Rows.callWith_type1 (cL (ha.h pos pins s σ H _ I h) λus s1⟨vs,H1,I1,r1,q1⟩=>?_) (cC hs) (eF (by simp only[bN,bq];rfl))));obtain⟨κ,a,b,xs,ys,rfl,ga,gb,q⟩:=q1;obtain⟨u,v,rfl,ru,rv⟩:=a9.two r1;cases ru;cases rv;obtain⟨ia,ra,qa⟩:=I1.sqK ga;obtain⟨ib,rb,qb⟩:=I1.sqK gb;have fin:∀h',UZ h' (s1.heap.objs.size+4) (s1.heap.objs.size+2) (s1.heap.objs.size+3) .none->IsPair h' (s1.heap.objs.size+2) (.ref s1.heap.objs.size) (.ref (s1.heap.objs.size+1))->IsPair h' (s1.heap.objs.size+3) .none .none->
   jH κ h' s1.heap.objs.size a 0->jH κ h' (s1.heap.objs.size+1) b 0->(∀c o,s1.heap.get? c=oZ o->h'.get? c=oZ o)->
   SQ (SU X.prog X.w) X.A (pyIter (.ref (s1.heap.objs.size+4))) (GR X pins σ (.Tuple elts x1 ZK) R) X.xe { s1 with heap:=h' }:=λh' z1 z2 z3 z4 z5 kp=>by
  refine wpAny_pyIter_zip z1 ?_;refine⟨s1.heap.objs.size+4,_,_,_,H1,rfl,I1.kept (t':=s1.toks) kp,zS _ (s1.heap.objs.size+2) (s1.heap.objs.size+3) [(κ,a),(κ,b)] [s1.heap.objs.size,s1.heap.objs.size+1] rfl (by simp) (by simp) (KP _),⟨z1,z2,⟨_,z3,rfl⟩,λj pq it hp hit=>?_⟩,λc hc=>?_,q⟩
  ·match j,hp,hit with
   |0,hp,hit=>cases hp;cases hit;exact z4
   |1,hp,hit=>cases hp;cases hit;exact z5
  ·have hle:s1.heap.objs.size<=c:=KD hc;exact I1.fpOk hle (I1.hok.fresh hle)
 cases κ
 ·exact call_zip_2 qa qb λh' z1 z2 z3 z4 z5 _ kp=>fin h' z1 z2 z3 z4 z5 kp
 ·exact Oj qa qb λh' z1 z2 z3 z4 z5 kp=>fin h' z1 z2 z3 z4 z5 kp⟩
theorem FV(r:a9 [x,y,z] us):∃u v w,us=[u,v,w]/\bC x u/\bC y v/\bC z w:=by
 cases r with
 |cons a r=>cases r with
  |cons b r=>cases r with
   |cons c r=>cases r;exact⟨_,_,_,rfl,a,b,c⟩
theorem DS{x1}(hg:Gl X "zip")(hm:X.mg "zip" = none)(ha:QA X [l,r,t] ta)(hs:a7 l=false:=by rfl)(bq:a7 r=false:=by rfl)(fq:a7 t=false:=by rfl):
  QI X (.Tuple elts x1 ZK) (.Call (.Name "zip" p) [l,r,t] [] pos) (KN X.K ta):=⟨by
 intro pins s σ H R I h;refine Call_ (pY I hg hm boot_zip (PyProof.Rows.callWith_type1 (cL (ha.h pos pins s σ H _ I h) λus s1⟨vs,H1,I1,r1,q1⟩=>?_) (cC hs) (eF (by simp only[bN,bq,fq];rfl))));obtain⟨a,b,c,xs,ys,zs,rfl,ga,gb,gc,q⟩:=q1;obtain⟨u,v,w,rfl,ru,rv,fk⟩:=FV r1;cases ru;cases rv;cases fk;obtain⟨ia,ra,qa,_⟩:=I1.list ga;obtain⟨ib,rb,qb,_⟩:=I1.list gb;obtain⟨ic,rc,qc',_⟩:=I1.list gc;refine Oi qa.isList qb.isList qc'.isList λh' z1 z2 z3 z4 z5 z6 kp=>?_;refine wpAny_pyIter_zip z1 ?_;have ge6:∀{d:SN},d∈[s1.heap.objs.size+5,s1.heap.objs.size+3,s1.heap.objs.size+4,s1.heap.objs.size,s1.heap.objs.size+1,s1.heap.objs.size+2]->s1.heap.objs.size<=d:=λ{d}h=>by
  simp only[LH,NB,or_false]at h;rcases h with h|h|h|h|h|h<;>rw[h]<;>first|exact LN _|exact Nat.le_add_right _ _
 refine⟨s1.heap.objs.size+5,_,_,_,H1,rfl,I1.kept (t':=s1.toks) kp,zS _ (s1.heap.objs.size+3) (s1.heap.objs.size+4) [(false,a),(false,b),(false,c)] [s1.heap.objs.size,s1.heap.objs.size+1,s1.heap.objs.size+2] rfl (by simp) (by simp) (by
  have nd6:∀n:Nat,[n+5,n+3,n+4,n,n+1,n+2].Nodup:=λn=>by
   simp only[NJ,LH,NB,or_false,not_or,SI,and_true,not_false_eq_true]
   lia
  exact nd6 _),⟨z1,z2,⟨_,z3,rfl⟩,λj pq it hp hit=>?_⟩,λd hd=>?_,q⟩
 ·match j,hp,hit with
  |0,hp,hit=>cases hp;cases hit;exact z4
  |1,hp,hit=>cases hp;cases hit;exact z5
  |2,hp,hit=>cases hp;cases hit;exact z6
 ·exact I1.fpOk (ge6 hd) (I1.hok.fresh (ge6 hd))⟩
def CN(Fr:FA):FI:=λE Q=>Fr E λrs E1=>match rs with
 |[x,y]=>(match vl E1 x,vl E1 y with
  |some (.lst xs),oZ (.lst ys)=>Q (gM xs ys) (qT E1 x++qT E1 y) E1
  |some (.tup xs),oZ (.tup ys)=>Q (gM xs ys) (qT E1 x++qT E1 y) E1
  |_,_=>False)
 |_=>False
def CO(Fr:FA):FI:=λE Q=>Fr E λrs E1=>match rs with
 |[x,y,z]=>(match vl E1 x,vl E1 y,vl E1 z with
  |some (.lst xs),oZ (.lst ys),oZ (.lst zs)=>Q (jA xs ys zs) (qT E1 x++qT E1 y++qT E1 z) E1
  |_,_,_=>False)
 |_=>False
theorem Ar{x1}(eK:X.K=K)(hg:Gl X "zip")(hm:X.mg "zip" = none)(ha:QA X [l,r] (cK K n Fr))(hs:a7 l=false:=by rfl)(bq:a7 r=false:=by rfl):
  QI X (.Tuple elts x1 ZK) (.Call (.Name "zip" p) [l,r] [] pos) (k6 K (CN Fr)):=by
 subst eK;refine(DR hg hm ha hs bq).le λσ H R hn⟨B,S,E,Q',hS,re,hF,lk⟩=>⟨B,S,E,_,hS,re,hF,λrs E1 vs H1 S1 q g VY rr hn=>?_⟩
 match rs,rr,q with
 |[x,y],⟨v,ws,e1,h1,u,ij,e2,h2,h3⟩,q=>
  cases h3;subst e2;subst e1;have own:∀j∈qT E1 x++qT E1 y,∃k xs,E1[j]?=oZ (oZ (U.o k xs)):=λj hj=>by
   obtain h|h:=MB.mp hj
   ·exact mF j h
   ·exact mF j h
  simp only at q;split at q
  ·rename_i xs ys e1 e2;obtain⟨a,vs,e3,yi,r1⟩:=VY.vl h1 e1;obtain⟨b,us,e4,ug,r2⟩:=VY.vl h2 e2;refine⟨false,a,b,vs,us,by rw[e3,e4],yi,ug,lk _ _ _ _ _ _ _ q g VY Lm own λO k1 k2=>?_⟩;rw[<-e3,<-e4];exact⟨pP VY h1 e1 O k1 λj hj=>k2 j (by simp[hj]),pP VY h2 e2 O k1 λj hj=>k2 j (by simp[hj])⟩
  ·rename_i xs ys e1 e2;obtain⟨a,vs,e3,yi,r1⟩:=VY.vl h1 e1;obtain⟨b,us,e4,ug,r2⟩:=VY.vl h2 e2;refine⟨true,a,b,vs,us,by rw[e3,e4],yi,ug,lk _ _ _ _ _ _ _ q g VY Lm own λO k1 k2=>?_⟩;rw[<-e3,<-e4];exact⟨pP VY h1 e1 O k1 λj hj=>k2 j (by simp[hj]),pP VY h2 e2 O k1 λj hj=>k2 j (by simp[hj])⟩
  ·exact q.elim
 |[],_,q=>exact q.elim
 |[_],_,q=>exact q.elim
 |_::_::_::_,_,q=>exact q.elim
theorem Zi{x1}(eK:X.K=K)(hg:Gl X "zip")(hm:X.mg "zip" = none)(ha:QA X [l,r,t] (cK K n Fr))(hs:a7 l=false:=by rfl)(bq:a7 r=false:=by rfl)(fq:a7 t=false:=by rfl):
  QI X (.Tuple elts x1 ZK) (.Call (.Name "zip" p) [l,r,t] [] pos) (k6 K (CO Fr)):=by
 subst eK;refine(DS hg hm ha hs bq fq).le λσ H R hn⟨B,S,E,Q',hS,re,hF,lk⟩=>⟨B,S,E,_,hS,re,hF,λrs E1 vs H1 S1 q g VY rr hn=>?_⟩
 match rs,rr,q with
 |[x,y,z],⟨v,ws,e1,h1,u,ij,e2,h2,v',ws'',e3,h3,h4⟩,q=>
  cases h4;subst e3;subst e2;subst e1;have own:∀j∈qT E1 x++qT E1 y++qT E1 z,∃k xs,E1[j]?=oZ (oZ (U.o k xs)):=λj hj=>by
   obtain h|h:=MB.mp hj
   ·obtain h|h:=MB.mp h
    ·exact mF j h
    ·exact mF j h
   ·exact mF j h
  simp only at q;split at q
  ·rename_i xs ys zs e1 e2 e3;obtain⟨a,vs,f1,yi,r1⟩:=VY.vl h1 e1;obtain⟨b,us,f2,ug,r2⟩:=VY.vl h2 e2;obtain⟨c,ts,f3,sq3,r3⟩:=VY.vl h3 e3;refine⟨a,b,c,vs,us,ts,by rw[f1,f2,f3],yi,ug,sq3,lk _ _ _ _ _ _ _ q g VY Zr own λO k1 k2=>?_⟩;rw[<-f1,<-f2,<-f3];exact⟨pP VY h1 e1 O k1 λj hj=>k2 j (by simp[hj]),pP VY h2 e2 O k1 λj hj=>k2 j (by simp[hj]),pP VY h3 e3 O k1 λj hj=>k2 j (by simp[hj])⟩
  ·exact q.elim
 |[],_,q=>exact q.elim
 |[_],_,q=>exact q.elim
 |[_,_],_,q=>exact q.elim
 |_::_::_::_::_,_,q=>exact q.elim
end
end L2
namespace My
open PySem L2 PyProof.Rows
abbrev oG:List Str:=["one","other"]
abbrev oH:List Str:=["_law_one","_law_other"]
abbrev oI:List Str:=["path","number"]
abbrev oJ:List Str:=["path","far","steps","is_least"]
abbrev oK:List Str:=["path","number","far","steps"]
abbrev oM:List Str:=["_law_box_here","_law_most"]
abbrev oN:List Str:=["vector"]
theorem Em(x y:Nat):MJ y (x%y)=MJ x y:=by
 rw[QU x y,Nat.gcd_rec y x,QU]
def rO(n d:Int):Int:=(if 0<d then n else -n)/((MJ n.natAbs d.natAbs:Nat):Int)
def nE(n d:Int):Int:=(if 0<d then d else -d)/((MJ n.natAbs d.natAbs:Nat):Int)
theorem Et{n d:Int}(hd:0<d)(hg:g=MJ n.natAbs d.natAbs):(n/(g:Int)).natAbs<=n.natAbs/\1<=d/(g:Int)/\d/(g:Int)<=d/\MJ (n/(g:Int)).natAbs (d/(g:Int)).natAbs=1:=by
 have g0:0<g:=by rw[hg];exact PJ _ ⋯
 have dn:(g:Int)∣n:=by rw[hg];exact NN.mpr (OV _ _)
 have dd:(g:Int)∣d:=by rw[hg];exact NN.mpr (OQ _ _)
 have en:(n/(g:Int)).natAbs=n.natAbs/g:=by rw[Int.natAbs_ediv_of_dvd dn];simp
 have ed:(d/(g:Int)).natAbs=d.natAbs/g:=by rw[Int.natAbs_ediv_of_dvd dd];simp
 refine⟨by rw[en];exact Nat.div_le_self _ _,?_,?_,?_⟩
 ·obtain⟨k,hk⟩:=dd;have zm:(0:Int)<g:=⋯
  rw[hk,NI _ ⋯];obtain h|h:=RN 0 k
  ·lia
  ·have:(g:Int)*k<=0:=Int.mul_nonpos_of_nonneg_of_nonpos ⋯ h
   lia
 ·exact Int.ediv_le_self _ ⋯
 ·rw[en,ed,Nat.gcd_div (by rw[hg];exact OV _ _) (by rw[hg];exact OQ _ _),<-hg,Nat.div_self g0]
theorem kX{n d:Int}(hd:d≠0):(rO n d).natAbs<=n.natAbs/\1<=nE n d/\nE n d<=d.natAbs/\MJ (rO n d).natAbs (nE n d).natAbs=1:=by
 unfold rO nE
 by_cases h:0<d
 ·rw[oV h,oV h];have:=Et (n:=n) (d:=d) h rfl;refine⟨this.1,this.2.1,?_,this.2.2.2⟩;have:=this.2.2.1
  lia
 ·rw[oW h,oW h];have h':0 < -d:=⋯
  have:=Et (n:=-n) (d:=-d) h' rfl;simp only[PQ]at this;refine⟨this.1,this.2.1,?_,this.2.2.2⟩;have:=this.2.2.1
  lia
abbrev Fr:=Int×Int
structure bI(p:Fr):Prop where
 d:1<=p.2
 g:MJ p.1.natAbs p.2.natAbs=1
def iV(n d:Int):Fr:=(rO n d,nE n d)
def bJ(p q:Fr):Fr:=iV (p.1*q.2+q.1*p.2) (p.2*q.2)
def aR(p q:Fr):Fr:=iV (p.1*q.2-q.1*p.2) (p.2*q.2)
def aJ(p q:Fr):Fr:=iV (p.1*q.1) (p.2*q.2)
def bZ(p q:Fr):Fr:=iV (p.1*q.2) (p.2*q.1)
def aK(p:Fr):Fr:=(-p.1,p.2)
def val(p:Fr):Rat:=(p.1:Rat)/(p.2:Rat)
theorem fW{n d:Int}(hd:d≠0):bI (iV n d):=⟨(kX hd).2.1,(kX hd).2.2.2⟩
theorem zC{n d:Int}(hd:d≠0):rO n d*d=n*nE n d:=by
 have dn:((MJ n.natAbs d.natAbs:Nat):Int)∣n:=NN.mpr (OV _ _);have dd:((MJ n.natAbs d.natAbs:Nat):Int)∣d:=NN.mpr (OQ _ _);have g0:((MJ n.natAbs d.natAbs:Nat):Int)≠0:=by
  have:=PJ n.natAbs (show 0<d.natAbs by lia)
  lia
 unfold rO nE;generalize((MJ n.natAbs d.natAbs:Nat):Int)=g at dn dd g0;obtain⟨k,hk⟩:=dn;obtain⟨m,hm⟩:=dd
 by_cases h:0<d
 ·rw[oV h,oV h,hk,hm,NI _ g0,NI _ g0];grind
 ·rw[oW h,oW h,hk,hm,<-Int.mul_neg,<-Int.mul_neg,NI _ g0,NI _ g0];grind
theorem fE{n d:Int}(hd:d≠0):val (iV n d)=(n:Rat)/(d:Rat):=by
 have h:=zC (n:=n) hd;have h1:=(kX (n:=n) hd).2.1;have a1:((nE n d:Int):Rat)≠0:=by
  have:nE n d≠0:=⋯
  exact_mod_cast this
 have a2:(d:Rat)≠0:=by exact_mod_cast hd
 have h':((rO n d:Int):Rat)*(d:Rat)=(n:Rat)*((nE n d:Int):Rat):=by exact_mod_cast h
 show((rO n d:Int):Rat)/((nE n d:Int):Rat)=(n:Rat)/(d:Rat);grind
theorem bI.ne(h:bI p):p.2≠0:=by have:=h.d;lia
theorem bI.neR(h:bI p):(p.2:Rat)≠0:=by have:=h.ne;exact_mod_cast this
theorem eB(hp:bI p)(hq:bI q):p.2*q.2≠0:=OZ hp.ne hq.ne
theorem bO(hp:bI p)(hq:bI q):val (bJ p q)=val p+val q:=by
 have h1:=hp.neR;have h2:=hq.neR;unfold bJ;rw[fE (eB hp hq)];unfold val
 push_cast
 grind
theorem bW(hp:bI p)(hq:bI q):val (aR p q)=val p-val q:=by
 have h1:=hp.neR;have h2:=hq.neR;unfold aR;rw[fE (eB hp hq)];unfold val
 push_cast
 grind
theorem aZ(hp:bI p)(hq:bI q):val (aJ p q)=val p*val q:=by
 have h1:=hp.neR;have h2:=hq.neR;unfold aJ;rw[fE (eB hp hq)];unfold val
 push_cast
 grind
theorem bR(hp:bI p):val (aK p) = - val p:=by
 have h1:=hp.neR;show((-p.1:Int):Rat)/(p.2:Rat) = - ((p.1:Rat)/(p.2:Rat))
 push_cast
 grind
theorem c7(hp:bI p)(hq:bI q):bI (bJ p q):=fW (eB hp hq)
theorem dM(hp:bI p)(hq:bI q):bI (aR p q):=fW (eB hp hq)
theorem aP(hp:bI p)(hq:bI q):bI (aJ p q):=fW (eB hp hq)
theorem e7(hp:bI p):bI (aK p):=⟨hp.d,by show MJ (-p.1).natAbs p.2.natAbs=1;rw[PQ];exact hp.g⟩
theorem aQ(n:Int):bI (n,1):=⟨by show(1:Int)<=1;decide,by simp⟩
theorem b9(hp:bI p)(hq:bI q)(h:val p=val q):p=q:=by
 have h1:=hp.neR;have h2:=hq.neR;have e:p.1*q.2=q.1*p.2:=by
  unfold val at h;have h':(p.1:Rat)*q.2=q.1*p.2:=by grind
  exact_mod_cast h'
 have en:p.1.natAbs*q.2.natAbs=q.1.natAbs*p.2.natAbs:=by rw[<-MO,<-MO,e]
 have d1:p.2.natAbs∣q.2.natAbs:=by
  have:p.2.natAbs∣p.1.natAbs*q.2.natAbs:=by rw[en];exact Nat.dvd_mul_left _ _
  exact Nat.Coprime.dvd_of_dvd_mul_left (show OW p.2.natAbs p.1.natAbs by unfold OW;rw[QU];exact hp.g) this
 have d2:q.2.natAbs∣p.2.natAbs:=by
  have:q.2.natAbs∣q.1.natAbs*p.2.natAbs:=by rw[<-en];exact Nat.dvd_mul_left _ _
  exact Nat.Coprime.dvd_of_dvd_mul_left (show OW q.2.natAbs q.1.natAbs by unfold OW;rw[QU];exact hq.g) this
 have ed:p.2.natAbs=q.2.natAbs:=Nat.dvd_antisymm d1 d2;have ed':p.2=q.2:=by have:=hp.d;have:=hq.d;lia
 have e2:p.1=q.1:=by
  rw[ed']at e;exact Int.eq_of_mul_eq_mul_right hq.ne e
 exact Prod.ext e2 ed'
theorem sM(h:x<2^e)(he:e<=8000):x<2^8000:=LP h (MZ ∅ he)
theorem bF{x y:Int}(hx:x.natAbs<2^e)(hy:y.natAbs<2^f):(x*y).natAbs<2^(e+f):=by
 rw[MO,Nat.pow_add];exact RO hx hy
theorem o7{x y:Int}(hx:x.natAbs<2^e)(hy:y.natAbs<2^e):(x+y).natAbs<2^(e+1):=by
 have:=Int.natAbs_add_le x y;rw[Nat.pow_succ]
 lia
theorem Cy{x y:Int}(hx:x.natAbs<2^e)(hy:y.natAbs<2^e):(x-y).natAbs<2^(e+1):=by
 rw[Int.sub_eq_add_neg];exact o7 hx (by rw[PQ];exact hy)
theorem k9(hp:bI p)(hq:bI q)(h:q.1≠0):val (bZ p q)=val p/val q:=by
 have h1:=hp.neR;have h2:=hq.neR;have h3:(q.1:Rat)≠0:=by exact_mod_cast h
 unfold bZ;rw[fE (OZ hp.ne h)];unfold val
 push_cast
 grind
theorem kZ(hp:bI p)(h:q.1≠0):bI (bZ p q):=fW (OZ hp.ne h)
def sz(p:Fr):Nat:=Nat.max (RP p.1.natAbs) (RP p.2.natAbs)+1
theorem dR(p:Fr):p.1.natAbs<2^sz p:=LP RQ (MZ ∅ (RM (Nat.le_max_left _ _)))
theorem bV(p:Fr):p.2.natAbs<2^sz p:=LP RQ (MZ ∅ (RM (Nat.le_max_right _ _)))
theorem Tu(h:n<2^e)(he:1<=e):RP n+1<=e:=by
 by_cases c:n=0
 ·subst c;have:RP 0=0:=by simp
  lia
 ·exact(PY c).mpr h
theorem oP(h1:p.1.natAbs<2^e)(h2:p.2.natAbs<2^e)(he:1<=e):sz p<=e:=by
 have a:=Tu h1 he;have b:=Tu h2 he;unfold sz;have:Nat.max (RP p.1.natAbs) (RP p.2.natAbs)<=e-1:=Nat.max_le.mpr ⟨⋯,⋯⟩
 lia
theorem Kg(p:Fr):1<=sz p:=by unfold sz;lia
theorem mE{n d:Int}(hd:d≠0)(h1:n.natAbs<2^e)(h2:d.natAbs<2^e)(he:1<=e):sz (iV n d)<=e:=by
 have lf:=kX (n:=n) hd;refine oP (ML lf.1 h1) ?_ he;show(nE n d).natAbs<2^e
 lia
theorem iY(hp:bI p)(hq:bI q):sz (bJ p q)<=sz p+sz q+1:=
 mE (eB hp hq) (o7 (bF (dR p) (bV q)) (by rw[OD];exact bF (dR q) (bV p))) (LP (bF (bV p) (bV q)) (MZ ∅ ⋯)) ⋯
theorem oR(hp:bI p)(hq:bI q):sz (aR p q)<=sz p+sz q+1:=
 mE (eB hp hq) (Cy (bF (dR p) (bV q)) (by rw[OD];exact bF (dR q) (bV p))) (LP (bF (bV p) (bV q)) (MZ ∅ ⋯)) ⋯
theorem cG(hp:bI p)(hq:bI q):sz (aJ p q)<=sz p+sz q:=
 mE (eB hp hq) (bF (dR p) (dR q)) (bF (bV p) (bV q)) (by have:=Kg p;lia)
theorem rZ(hp:bI p)(h:q.1≠0):sz (bZ p q)<=sz p+sz q:=
 mE (OZ hp.ne h) (bF (dR p) (bV q)) (bF (bV p) (dR q)) (by have:=Kg p;lia)
theorem oQ(p:Fr):sz (aK p)=sz p:=by unfold sz aK;simp
theorem cX(W:Nat->En->Prop)(h0:W 0 E)(hs:∀i x rest E,items[i]?=oZ x->W i E->(∀E',W (i+1) E'->i8 g F D rest E')->i8 g F D (x::rest) E)(hd:∀E,W items.length E->D.nx E):i8 g F D items E:=by
 have dP:∀n i E,items.length-i=n->i<=items.length->W i E->i8 g F D (items.drop i) E:=by
  intro n
  induction n with
  |zero=>
   intro i E e hi h;obtain rfl:i=items.length:=⋯
   rw[NX];exact hd E h
  |succ n ih=>
   intro i E e hi h;have XO:i<items.length:=⋯
   rw[MX XO];exact hs i _ _ E (LA XO) h λE' h'=>ih (i+1) E' ⋯ ⋯ h'
 exact dP _ 0 E rfl (LV _) h0
theorem cW{Q:En->Prop}(W:Nat->En->Prop)(h0:W 0 E)(hs:∀i x rest E,items[i]?=oZ x->W i E->(∀E',W (i+1) E'->kB g Fe rest E' Q)->kB g Fe (x::rest) E Q)(hd:∀E,W items.length E->Q E):kB g Fe items E Q:=by
 have dP:∀n i E,items.length-i=n->i<=items.length->W i E->kB g Fe (items.drop i) E Q:=by
  intro n
  induction n with
  |zero=>
   intro i E e hi h;obtain rfl:i=items.length:=⋯
   rw[NX];exact hd E h
  |succ n ih=>
   intro i E e hi h;have XO:i<items.length:=⋯
   rw[MX XO];exact hs i _ _ E (LA XO) h λE' h'=>ih (i+1) E' ⋯ ⋯ h'
 exact dP _ 0 E rfl (LV _) h0
def fr(p:Fr):T:=.tup [.int p.1,.int p.2]
def vc(x y:Fr):T:=.tup [fr x,fr y]
theorem Ld(p q:Fr):cS (fr p) (fr q)=decide (p=q):=by
 rw[SE];simp[fr,L2.cS,L2.vT,Prod.ext_iff]
theorem yW(x y x' y':Fr):cS (vc x y) (vc x' y')=decide (x=x'/\y=y'):=by
 rw[SE];simp[vc,L2.cS,L2.vT,Ld]
def yF(i j:Int):Prop:=Km i j\/Ym i j
theorem aW:kR X (TR .Mult) (rI yF λi j=>.int (i*j)):=by
 intro pins s σ H x y v u Q I rx ry h;obtain⟨i,j,e1,e2,hc,q⟩:=h;obtain hc|hc:=hc
 ·exact B8 pins s σ H x y v u Q I rx ry ⟨i,j,e1,e2,hc,q⟩
 ·exact W6 pins s σ H x y v u Q I rx ry ⟨i,j,e1,e2,hc,q⟩
theorem jR{i j:Int}(h1:i.natAbs<2^e)(h2:j.natAbs<2^e)(he:e<=8000):yF i j:=.inl ⟨sM h1 he,sM h2 he⟩
theorem Iw{i j:Int}(h1:i.natAbs<2^60):yF i j:=.inr (.inl ⋯)
theorem Bg{i j:Int}(h1:j.natAbs<2^60):yF i j:=.inr (.inr ⋯)
structure Txt(mg:Str->Option oA):Prop where
 n_isinstance:mg "isinstance" = none
 n_abs:mg "abs" = none
 n_divmod:mg "divmod" = none
 n_min:mg "min" = none
 n_max:mg "max" = none
 n_all:mg "all" = none
 n_len:mg "len" = none
 n_int:mg "int" = none
 n_bool:mg "bool" = none
 n_tuple:mg "tuple" = none
 n_list:mg "list" = none
 n_str:mg "str" = none
 n_range:mg "range" = none
 n_enumerate:mg "enumerate" = none
 n_zip:mg "zip" = none
structure mH(mg:Str->Option oA)(K:W.Frag)(x:Str)(t:L2.T):Prop where
 ex:∃a,mg x=oZ (.ref a)/\∀H O,Rp K H O t (.ref a)
theorem iD{X:Cx}{K:W.Frag}{x:Str}{t:L2.T}{pos:Pos}(hg:Gl X x)(c:mH X.mg K x t)(hd:(x==("__debug__":Str))=false:=by decide):QE X (.Name x pos) (aH K (fC t)):=by
 obtain⟨a,h1,h2⟩:=c.ex;exact QE.le (t:=tC (.ref a)) ⟨Lz (v:=.ref a) hg h1 rfl hd⟩ λσ H Q hl zZ=>by obtain⟨B,S,E,Q',hS,re,hF,lk⟩:=zZ;exact lk _ _ _ _ _ hF .refl re (h2 _ _)
theorem lJ{K:W.Frag}{i j:Int}(h:K.lookup a=oZ ⟨.type "tuple",od,.seq #[.int i t,.int j u] n,sl⟩)(H:Hp)(O:SN->Prop):Rp K H O (.tup [.int i,.int j]) (.ref a):=
 ⟨a,[.int i,.int j],rfl,.inr ⟨_,_,n,h,rfl,rfl,by show 2<=SY;decide,.cons ⟨t,rfl⟩ (.cons ⟨u,rfl⟩ .nil)⟩,_,_,rfl,rfl,_,_,rfl,rfl,rfl⟩
section
variable{X:Cx}{K:W.Frag}{e:oC}{te:TE}{st:Option oC}{ts:TO}{pos p2:Pos}{Fa:FE}{G:FO}
def O5(K:W.Frag)(te:TE)(ts:TO):TE:=λσ H Q=>te σ H λx H1=>ts σ H1 λk H2=>k=oZ (-1)/\∃a xs,x = .ref a/\lA K H2 a xs/\∀p,H2 p=none->Q (.ref p) (upd H2 p (.lst xs.reverse))
theorem C7(he:PE X e te)(hk:PO X st ts)(hop:∀a b,∃ops,UX (.Slice none none st p2) false a b=operate ops (VB a b)):PE X (.Subscript e (.Slice none none st p2) pos) (O5 X.K te ts):=by
 intro pins s σ H Q I h;refine Subscript_ (cL (he pins s σ H _ I h) λv s1 zZ=>?_);obtain⟨x,H1,I1,r1,q1⟩:=zZ;refine wpAny_Slice ?_;rw[evalPart_none];refine TB ?_;refine TB ?_;refine cL (hk pins s1 σ H1 _ I1 q1) λvk s2 zZ=>?_;obtain⟨k,H2,I2,pk,q2⟩:=zZ;obtain⟨rfl,a,xs,rfl,hx,q⟩:=q2;have I4:aT X pins σ H2 { s2 with heap:=s2.heap.push { cls:=.type "slice",data:=.fields #[.none,.none,vk] } }:=I2.kept (t':=s2.toks) λb ob q=>LI _ q;cases r1;obtain⟨VL,r,ht,hz⟩:=I4.list hx;have hlen:=r.length;have hg:SQ (SU X.prog X.w) X.A (VB (.ref a) (.ref s2.heap.objs.size)) (EP X pins σ Q) X.xe { s2 with heap:=s2.heap.push { cls:=.type "slice",data:=.fields #[.none,.none,vk] } }:=by
  refine wpAny_getItem_list_slice ht.isList (Heap.IsSliceOf.new ..) .none .none pk ∅ ?_ (by rw[LR]<;>lia);rw[W.krv_pick];refine⟨.ref _,_,I4.laid (t':=s2.toks) (o:=.lst xs.reverse) (λb ob q=>LI _ q) (LN _) ?_,rfl,q _ (I4.hok.fresh (LN _))⟩;exact⟨by rw[List.length_reverse];exact hz,_,0,r.reverse,LU _ rfl⟩
 obtain⟨ops,ho⟩:=hop (.ref a) (.ref s2.heap.objs.size);exact tail_any (ops:=ops) ht.isList.typeIs slot_list_getitem.lookup hg ho
def HZ(Fa:FE)(G:FO):FE:=λE Q=>Fa E λx E1=>G E1 λk E2=>k=oZ (-1)/\match vl E2 x with
 |some (.lst xs)=>Q (.s E2.length) (E2++[↥xs.reverse])
 |_=>False
theorem Zh(eK:X.K=K)(he:QE X e (aH K Fa))(hk:QO X st (Qx K G))(hop:∀a b,∃ops,UX (.Slice none none st p2) false a b=operate ops (VB a b):=by exactλ_ _=>⟨_,by with_unfolding_all rfl⟩):QE X (.Subscript e (.Slice none none st p2) pos) (aH K (HZ Fa G)):=by
 subst eK;refine QE.le (t:=O5 X.K (aH X.K Fa) (Qx X.K G)) ⟨C7 he.h hk.h hop⟩ λσ H Q _⟨B,S,E,Q',⟨τ,hS⟩,re,hF,lk⟩=>⟨B,S,E,_,⟨τ,hS⟩,re,hF,λx E1 v H1 S1 q g1 VY rx=>?_⟩;obtain⟨τ1,YU⟩:=g1.pre;refine⟨B,S1,E1,_,⟨τ++τ1,by rw[YU,hS,LW]⟩,VY,q,λl E2 H2 S2 q2 g2 XG=>?_⟩;have rx2:=rx.step g2;obtain⟨vz,q2⟩:=q2;refine⟨vz,?_⟩;split at q2
 ·rename_i xs e1;obtain⟨a,vs,e2,sq,rs⟩:=XG.vl rx2 e1;refine⟨a,vs,e2,sq,λp hp=>?_⟩;obtain⟨g,VV⟩:=XG.lst hp rs.reverse;exact lk _ _ _ _ _ q2 ((g1.trans g2).trans g) VV (by rw[<-XG.len];exact kS)
 ·exact q2.elim
end
end My
namespace L2
open PySem PySem.Spec PyProof.Rows
def Yj(t:T)(xs:List T):Bool:=xs.any λy=>cS y t
theorem K1{K:W.Frag}{H:Hp}{t:T}{e:oA->Bool}(he:∀(y:T)(w:V)(z:oA),Rq K H y w->bC w z->e z=cS y t):∀{xs:List T}{vs:List V}{VL:List oA},xT K H xs vs->a9 vs VL->VL.any e=Yj t xs/\∀z∈VL,∃y∈xs,∃w,Rq K H y w/\bC w z
 |[],_,_,h,r=>by cases h;cases r;exact⟨rfl,λz hz=>by cases hz⟩
 |y::xs,_,_,h,r=>by
  obtain⟨v,ws,rfl,h1,h2⟩:=h;cases r with
  |cons r1 r2=>
   obtain⟨q1,q2⟩:=K1 he h2 r2;refine⟨?_,λz hz=>?_⟩
   ·rw[OG,q1,he _ _ _ h1 r1];rfl
   ·obtain rfl|hz:=LH.mp hz
    ·exact⟨y,LK ..,v,h1,r1⟩
    ·obtain⟨y',h3,h4⟩:=q2 z hz;exact⟨y',LC _ h3,h4⟩
theorem Zp(hr:cV k X.A)(I:aT X pins σ H s)(ht:Rq X.K H t x)(rx:bC x v)(hxs:xT X.K H xs vs)(r:a9 vs VL)(hd:K3 xs<=50):
  ∃e:oA->Bool,VL.any e=Yj t xs/\∀z∈VL,SeqAt.EqAt X.A.in1 s z v (e z):=by
 obtain⟨e,he⟩:∃e:oA->Bool,∀(y:T)(w:V)(z:oA),Rq X.K H y w->bC w z->e z=cS y t:=by
  refine⟨λz=>@dite _ (∃y w,Rq X.K H y w/\bC w z) (Classical.propDecidable _) (λh=>cS (Classical.choose h) t) (λ_=>false),λy w z h1 h2=>?_⟩;have hex:∃y w,Rq X.K H y w/\bC w z:=⟨y,w,h1,h2⟩;show @dite _ (∃y w,Rq X.K H y w/\bC w z) (Classical.propDecidable _) (λh=>cS (Classical.choose h) t) (λ_=>false)=_;rw[dif_pos hex];obtain⟨w',h3,h4⟩:=Classical.choose_spec hex;have:=Mi h2 h4;subst this;rw[Rq.inj I h3 h1]
 obtain⟨q1,q2⟩:=K1 he hxs r;refine⟨e,q1,λz hz=>?_⟩;obtain⟨y,hy,w,h1,h2⟩:=q2 z hz;rw[he _ _ _ h1 h2];have:=sC hy;exact(Cc I 50 X.A.in1 y t w x z v ⋯ h1 ht h2 rx (by have:=hr.units;show X.A.units+1+50<UR;lia)).2
def IM:En->Bool
 |[]=>true
 |some (.o false _)::_=>false
 |_::E=>IM E
section
variable{K:W.Frag}{B:SN->Prop}{H H':Hp}{S S':St}{E E':En}{σ:St}
def tZ(E:En):List R->Option (List T×En)
 |[]=>oZ ([],E)
 |.p t::rs=>(tZ E rs).map λz=>(t::z.1,z.2)
 |.s i::rs=>match E[i]? with
  |some (↥xs)=>(tZ (E.set i (⇑(.lst xs))) rs).map λz=>(.lst xs::z.1,z.2)
  |some (⇑t)=>(tZ E rs).map λz=>(t::z.1,z.2)
  |_=>none
theorem rL:∀{rs:List R}{vs:List V}{E:En}{z:List T×En},RE K B H S E->Nw K B H S E rs vs->tZ E rs=oZ z->RE K B H S z.2/\(∀b,Ow B S z.2 b->Ow B S E b)/\cR K H (Ow B S z.2) z.1 vs
 |[],vs,E,z,re,h,e=>by cases e;exact⟨re,λb z=>z,h⟩
 |.p t::rs,_,E,z,re,⟨v,ws,e1,h1,h2⟩,e=>by
  cases q:tZ E rs with
  |none=>rw[tZ,q]at e;cases e
  |some y=>
   rw[tZ,q]at e;cases e;obtain⟨r1,r2,r3⟩:=rL re h2 q;exact⟨r1,r2,v,ws,e1,Rp.step (Kp.less r2) h1,r3⟩
 |.s i::rs,_,E,z,re,⟨v,ws,e1,h1,h2⟩,e=>by
  unfold tZ at e;split at e
  ·rename_i xs hE;obtain⟨ref,of⟩:=re.frz hE;cases q:tZ (E.set i (⇑(.lst xs))) rs with
   |none=>rw[q]at e;cases e
   |some y=>
    rw[q]at e;cases e;have qz:Nw K B H S (E.set i (⇑(.lst xs))) rs ws:=Nw.step ⟨Kp.less λb z=>(of b z).1,[],by simp⟩ h2;obtain⟨r1,r2,r3⟩:=rL ref qz q;have hi:i<E.length:=(KZ.mp hE).1;obtain⟨w,p1,p2⟩:=ref.pure i (.lst xs) (by rw[ME hi]);have h1:S[i]?=oZ (oZ v):=h1;rw[h1]at p1;cases p1;exact⟨r1,λb z=>(of b (r2 b z)).1,v,ws,e1,Rp.step (Kp.less r2) p2,r3⟩
  ·rename_i t hE;cases q:tZ E rs with
   |none=>rw[q]at e;cases e
   |some y=>
    rw[q]at e;cases e;obtain⟨r1,r2,r3⟩:=rL re h2 q;obtain⟨w,p1,p2⟩:=re.pure i t hE;have h1:S[i]?=oZ (oZ v):=h1;rw[h1]at p1;cases p1;exact⟨r1,r2,v,ws,e1,Rp.step (Kp.less r2) p2,r3⟩
  ·cases e
end
section
variable{X:Cx}{K:W.Frag}{pos:Pos}{es:List oC}{Fr:FA}
def CH(Fr:FA):FE:=λE Q=>Fr E λrs E1=>o1 (tZ E1 rs) λz=>Q (.p (.tup z.1)) z.2
theorem Aq{x1}(h:QA X es (cK K n Fr))(hz:n<=9000:=by decide):QE X (.Tuple es x1 pos) (aH K (CH Fr)):=by
 refine(Vk h).le λσ H Q hl h=>args (Fr:=Fr) h λB S E rs vs H2 Q' hS re rr hn q lk=>⟨by rw[hn];exact MW (cB hz),λp hp=>?_⟩;obtain⟨z,e,q⟩:=q.ex;obtain⟨VY,ow1,rs1⟩:=rL re rr e;obtain⟨g,VV,rp⟩:=VY.tup hp rs1;exact lk _ _ _ _ _ q (Gr.trans ⟨Kp.less ow1,[],by simp⟩ g) VV rp
end
section
variable{X:Cx}{e:oC}{es:List oC}{pos:Pos}{K:W.Frag}{Fr:FA}
theorem Og(hc:X.calm=true):i4 X (.builtin "max") (λxs H Q=>∃a b:Int,xs=[.int a,.int b]/\Q (.int (if a<b then b else a)) H):=by
 intro pins s σ H xs us Q I r h;obtain⟨a,b,rfl,q⟩:=h;obtain⟨u,v,rfl,rx,ry⟩:=a9.two r;obtain⟨t,rfl⟩:=rx;obtain⟨t',rfl⟩:=ry;refine max_two_ints (I.ok.hd hc) λh' tk hk=>?_
 by_cases c:a<b
 ·simp only[oV c]at q⊢;exact⟨.int b,H,I.kept hk,⟨_,rfl⟩,q⟩
 ·simp only[oW c]at q⊢;exact⟨.int a,H,I.kept hk,⟨_,rfl⟩,q⟩
def HU(Fr:FA):FE:=λE Q=>Fr E λrs E1=>match rs with
 |[x,y]=>i2 (vl E1 x) (vl E1 y) λi j=>Q (.p (.int (if i<j then j else i))) E1
 |_=>False
theorem R9(hc:X.calm=true)(hg:Gl X "max")(hm:X.mg "max" = none)(ha:QA X (e::es) (cK K n Fr))(hs:bN (e::es)=true:=by rfl):QE X (.Call (.Name "max" p) (e::es) [] pos) (aH K (HU Fr)):=by
 refine(g9 (Og hc) hg hm boot_max ha ∅ ∅ hs).le λσ H Q hl h=>args (Fr:=Fr) h λB S E rs vs H2 Q' hS re rr hn q lk=>?_
 match rs,rr,q with
 |[x,y],⟨v,ws,e1,h1,u,ij,e2,h2,h3⟩,q=>
  cases h3;subst e2;subst e1;obtain⟨i,j,e3,e4,q⟩:=i2.ex q;exact⟨i,j,by rw[re.int h1 e3,re.int h2 e4],lk _ _ _ _ _ q .refl re rfl⟩
 |[],_,q=>exact q.elim
 |[_],_,q=>exact q.elim
 |_::_::_::_,_,q=>exact q.elim
end
end L2
namespace HT
open PySem PySem.Spec PyProof.Rows
end HT
namespace HT
open PySem PySem.Spec PyProof.Rows
end HT
namespace L2
open PySem PySem.Spec PyProof.Rows
section
variable{X:Cx}{K:W.Frag}{a b e:oC}{te:TE}{st:Option oC}{ts:TO}{pos p2:Pos}{Fa Fb:FE}{G vp Gh:FO}
def JG(Fa:FE)(G:FO):FE:=λE Q=>Fa E λx E1=>G E1 λk E2=>k=oZ (-1)/\match vl E2 x with
 |some (.tup xs)=>Q (.p (.tup xs.reverse)) E2
 |_=>False
def BY(Fa Fb:FE):FE:=λE Q=>Fa E λx E1=>Fb E1 λy E2=>match vl E2 x,vl E2 y with
 |some (.tup (t::xs)),oZ (.tup (u::ys))=>xs.length+ys.length<=900/\Q (.p (.tup (t::xs++u::ys))) E2
 |some (.tup (_::xs)),oZ (.tup [])=>xs.length<=900/\Q x E2
 |_,_=>False
theorem An(eK:X.K=K)(ha:QE X a (aH K Fa))(hb:QE X b (aH K Fb)):QE X (.BinOp a .Add b pos) (aH K (BY Fa Fb)):=by
 subst eK;refine(wM B7 ha hb).le λσ H Q hl h=>two (Fa:=Fa) (Fb:=Fb) h λB S E x y v w H2 Q' hS re rx ry q lk=>?_;split at q
 ·rename_i t xs u ys e1 e2;obtain⟨hz,q⟩:=q;obtain⟨p,vs,rfl,sq,rs⟩:=re.vl rx e1;obtain⟨p',tw,rfl,sq',rn⟩:=re.vl ry e2;have l1:=rs.length;have l2:=rn.length;rw[LO]at l1 l2;refine⟨p,p',vs,tw,rfl,rfl,sq,sq',λz=>by rw[z]at l1;simp at l1,MW (cB ⋯),λz=>by rw[z]at l2;simp at l2,λ_ r hr=>?_⟩;obtain⟨g,VV,rp⟩:=re.tup hr (rs.append rn);exact lk _ _ _ _ _ q g VV rp
 ·rename_i t xs e1 e2;obtain⟨hz,q⟩:=q;obtain⟨p,vs,rfl,sq,rs⟩:=re.vl rx e1;obtain⟨p',tw,rfl,sq',rn⟩:=re.vl ry e2;have l1:=rs.length;have l2:=rn.length;rw[LO]at l1;rw[MY]at l2;exact⟨p,p',vs,tw,rfl,rfl,sq,sq',λz=>by rw[z]at l1;simp at l1,MW (cB ⋯),λ_=>lk _ _ _ _ _ q .refl re rx,λz=>absurd (List.length_eq_zero_iff.mp l2) z⟩
 ·exact q.elim
end
section
variable{X:Cx}{K:W.Frag}{o:oC}{pos ap:Pos}{Fa:FE}
def BW(Fa:FE):FE:=λE Q=>Fa E λx E1=>i1 (vl E1 x) λi=>Q (.p (.int (Builtin.Int.intBits i:Int))) E1
theorem Zc(ho:QE X o (aH K Fa))(WK:TQ o "bit_length" X.env (TF o X.env)=TF o X.env:=by rfl)(WL:(ap.endLine==pos.line)=true:=by rfl):
  QE X (.Call (.Attribute o "bit_length" ap) [] [] pos) (aH K (BW Fa)):=by
 refine(D9 ho WK WL).le λσ H Q hl h=>one (Fa:=Fa) h λB S E x v H2 Q' hS re rx q lk=>?_;obtain⟨i,e1,q⟩:=q.ex;have ev:=re.int rx e1;subst ev;exact⟨rfl,i,rfl,rfl,lk _ _ _ _ _ q .refl re rfl⟩
end
def z1(o:Option T)(Q:Str->Prop):Prop:=match o with
 |some (.str z)=>Q z
 |_=>False
theorem z1.ex{Q:Str->Prop}(h:z1 o Q):∃z,o=oZ (.str z)/\Q z:=by
 unfold z1 at h;split at h
 ·exact⟨_,rfl,h⟩
 ·exact h.elim
section
variable{X:Cx}{e:oC}{es:List oC}{pos:Pos}{K:W.Frag}{Fr:FA}
def HV(Fr:FA):FE:=λE Q=>Fr E λrs E1=>match rs with
 |[x,y]=>i2 (vl E1 x) (vl E1 y) λi j=>Q (.p (.int (if j<i then j else i))) E1
 |_=>False
theorem S5(hc:X.calm=true)(hg:Gl X "min")(hm:X.mg "min" = none)(ha:QA X (e::es) (cK K n Fr))(hs:bN (e::es)=true:=by rfl):QE X (.Call (.Name "min" p) (e::es) [] pos) (aH K (HV Fr)):=by
 refine(g9 (Oh hc) hg hm boot_min ha ∅ ∅ hs).le λσ H Q hl h=>args (Fr:=Fr) h λB S E rs vs H2 Q' hS re rr hn q lk=>?_
 match rs,rr,q with
 |[x,y],⟨v,ws,e1,h1,u,ij,e2,h2,h3⟩,q=>
  cases h3;subst e2;subst e1;obtain⟨i,j,e3,e4,q⟩:=i2.ex q;exact⟨i,j,by rw[re.int h1 e3,re.int h2 e4],lk _ _ _ _ _ q .refl re rfl⟩
 |[],_,q=>exact q.elim
 |[_],_,q=>exact q.elim
 |_::_::_::_,_,q=>exact q.elim
end
theorem RE.setN{K:W.Frag}{B:SN->Prop}{H:Hp}{S:St}{E:En}(re:RE K B H S E){i:Nat}{v:V}:RE K B H (S.set i (oZ v)) (E.set i none)/\∀b,Ow B (S.set i (oZ v)) (E.set i none) b->Ow B S E b:=by
 have gE:∀{j:Nat}{u:U},(E.set i none)[j]?=oZ (oZ u)->i≠j/\E[j]?=oZ (oZ u):=λ{j u}h=>by
  by_cases c:i=j
  ·subst c
   by_cases d:i<E.length
   ·rw[ME d]at h;cases h
   ·rw[OT (by simpa using d)]at h;cases h
  ·rw[LX c]at h;exact⟨c,h⟩
 refine re.map (by simp[re.len]) (λj t h=>?_) id (λj k xs h=>?_) λ_ _ _ _ _ _ _ _ h=>h
 ·obtain⟨c,h⟩:=gE h;obtain⟨v',h1,h2⟩:=re.pure j t h;exact⟨v',by rw[LX c];exact h1,h2⟩
 ·obtain⟨c,h⟩:=gE h;obtain⟨a,vs,h1,_⟩:=re.own j k xs h;exact⟨h,a,h1,by rw[LX c];exact h1⟩
def Gv(d:DD)(K:W.Frag)(n:Nat)(F:FA):TA:=λσ H Q=>lC d σ H/\cK K n F σ H Q
theorem QE.dd{X:Cx}{K:W.Frag}{d:DD}{e:oC}{Fa:FE}(h:QE X e (aH K Fa)):QE X e (j0 d K Fa):=h.le λ_ _ _ _ z=>z.2
theorem QA.dd{X:Cx}{K:W.Frag}{d:DD}{es:List oC}{Fr:FA}{n:Nat}(h:QA X es (cK K n Fr)):QA X es (Gv d K n Fr):=h.le λ_ _ _ z=>z.2
theorem R7{X:Cx}{K:W.Frag}{d:DD}{e:oC}{es:List oC}{Fa:FE}{Fr:FA}{n:Nat}(ha:QE X e (j0 d K Fa))(hr:QA X es (Gv d K n Fr))(hs:a7 e=false:=by rfl):QA X (e::es) (Gv d K (n+1) (i7 Fa Fr)):=by
 refine(qc ha hr hs).le λσ H Q zZ=>?_;obtain⟨dt,B,S,E,Q',⟨τ,hS⟩,re,hF,lk⟩:=zZ;refine⟨dt,B,S,E,_,⟨τ,hS⟩,re,hF,λr E1 v H1 S1 q g VY rr=>?_⟩;obtain⟨τ1,YU⟩:=g.pre;exact⟨dt.kp re g.kp,B,S1,E1,_,⟨τ++τ1,by rw[YU,hS,LW]⟩,VY,q,λrs E2 vs H2 S2 q2 g2 XG rh hn=>lk _ _ _ _ _ q2 (g.trans g2) XG ⟨v,vs,rfl,rr.step g2,rh⟩ (by rw[LO,hn])⟩
theorem Sl{X:Cx}{K:W.Frag}{d:DD}{pos:Pos}{e:oC}{es:List oC}{Fr:FA}{n k j:Nat}{x:Str}{ps:List Str}{S:dG}{p:Pos}(F:Fn X.prog X.w X.K X.mg X.base k x ps (aI K S))(hr:cV j X.A)(hk:k<=j)(hg:Gl X x)(ha:QA X (e::es) (Gv d K n Fr))(YN:(x==("__debug__":Str))=false:=by decide)(hs:bN (e::es)=true:=by rfl):QE X (.Call (.Name x p) (e::es) [] pos) (j0 d K (Ee S Fr)):=(wL F hr hk hg ha YN hs).le λ_ _ _ _ h=>⟨h.1,Dr h.2⟩
theorem QB.leL(h:QB X gw t)(m:∀D σ H,σ.length=X.N.length->t' D σ H->t D σ H):QB X gw t':=⟨λpins s σ H D I z=>h.h pins s σ H D I (m D σ H I.len z)⟩
end L2
namespace PySem
namespace F
end F
end PySem
namespace L2
open PySem PySem.Spec PyProof.Rows
structure GP(i:Nat)(VN:List (Key×V))(K:W.Frag)(B:SN->Prop)(H:Hp)(σ:St)(E:En)(DT:ET)(D:cU):Prop where
 nx:∀σ' H' E',DT.nx E'->Gs B H σ E H' σ' E'->RE K B H' σ' E'->Di i VN σ' H'->D.nx σ' H'
 rt:∀r E' v H' S',DT.rt r E'->Gs B H σ E H' S' E'->RE K B H' S' E'->RR K B H' S' E' r v->D.rt v H'
 bk:∀σ' H' E',DT.bk E'->Gs B H σ E H' σ' E'->RE K B H' σ' E'->Di i VN σ' H'->D.bk σ' H'
 ct:∀σ' H' E',DT.ct E'->Gs B H σ E H' σ' E'->RE K B H' σ' E'->Di i VN σ' H'->D.ct σ' H'
theorem GP.step{i:Nat}{VN:List (Key×V)}{K:W.Frag}{B:SN->Prop}{H H':Hp}{σ σ':St}{E E':En}{DT:ET}{D:cU}(l:GP i VN K B H σ E DT D)(g:Gs B H σ E H' σ' E'):GP i VN K B H' σ' E' DT D:=
 ⟨λa b c d e=>l.nx a b c d (g.trans e),λa b c d e f h=>l.rt a b c d e f (g.trans h),λa b c d e=>l.bk a b c d (g.trans e),λa b c d e=>l.ct a b c d (g.trans e)⟩
def iT(i:Nat)(VN:List (Key×V))(K:W.Frag)(F:FS):TS:=λD σ H=>Di i VN σ H/\∃B E DT,RE K B H σ E/\F DT E/\GP i VN K B H σ E DT D
theorem Di.keep{K:W.Frag}{B:SN->Prop}{H:Hp}{H':Hp}{σ:St}{σ':St}{E:En}{i:Nat}{VN:List (Key×V)}(d:Di i VN σ H)(re:RE K B H σ E)(k:∀b o,H b=oZ o->¬Ow B σ E b->H' b=oZ o)(h:σ'[i]?= σ[i]?):Di i VN σ' H':=by
 obtain⟨p,h1,h2⟩:=d;exact⟨p,by rw[h];exact h1,k p _ h2 λz=>by obtain⟨vs,e⟩:=re.ow z;rw[h2]at e;cases e⟩
theorem rK{X:Cx}{K:W.Frag}{st:SV}{gw:List SV}{F:FS}{G:FS}{i:Nat}{VN:List (Key×V)}(h1:QS X st (iT i VN K F))(h2:QB X gw (iT i VN K G)):QB X (st::gw) (iT i VN K (EF F G)):=
 (By h1 h2).le λD σ H zZ=>by obtain⟨dt,B,E,DT,re,hF,l⟩:=zZ;exact⟨dt,B,E,_,re,hF,⟨λσ' H' E' hG g VV d'=>⟨d',B,E',DT,VV,jS hG,l.step g⟩,l.rt,l.bk,l.ct⟩⟩
theorem Ak{X:Cx}{K:W.Frag}{st:SV}{F:FS}{i:Nat}{VN:List (Key×V)}(h1:QS X st (iT i VN K F)):QB X [st] (iT i VN K F):=Jq h1
theorem Sa{X:Cx}{K:W.Frag}{pos:Pos}{e:oC}{Fa:FE}{i:Nat}{VN:List (Key×V)}(h:QE X e (aH K Fa)):QS X (.Return (oZ e) pos) (iT i VN K (EE Fa)):=
 (Jr h).le λD σ H hl zZ=>by obtain⟨dt,B,E,DT,re,hF,l⟩:=zZ;exact⟨B,σ,E,_,⟨[],by simp⟩,re,hF,λr E' v H' S' q g VV rr=>l.rt r E' v H' S' q g.kp VV rr⟩
theorem Yx{X:Cx}{K:W.Frag}{pos:Pos}{e:oC}{Fa:FE}{i:Nat}{VN:List (Key×V)}(he:QE X e (aH K Fa))(hs:TV e none pos.line X.env=pure false:=by rfl):QS X (.Expr e pos) (iT i VN K (Vy Fa)):=
 (Ca he hs).le λD σ H hl zZ=>by obtain⟨dt,B,E,DT,re,hF,l⟩:=zZ;exact vC (P:=λ_ _ E'=>DT.nx E') re hF λr E' v H' S' q g VV rr XG ow=>l.nx _ _ _ q (g.kp.trans (Kp.less ow)) XG (dt.keep re g.kp.keep rfl)
theorem Sb{X:Cx}{K:W.Frag}{pos:Pos}{e:oC}{Fa:FE}{i:Nat}{VN:List (Key×V)}{j:Nat}{x:Str}{pos':Pos}(hN:X.N.Nodup)(hi:X.N[j]?=oZ x)(hx:xR X.env.scope x)(he:QE X e (aH K Fa))(ZH:j≠i)(hs:TV e (oZ (.Name x pos')) pos.line X.env=pure false:=by rfl)(hf:X.fn x=true\/X.env.scope.names.lookup x=oZ .local:=by first|exact .inl rfl|exact .inr rfl|assumption):QS X (.Assign [.Name x pos'] e pos) (iT i VN K (Vz j Fa)):=
 (Js hN hi hx he hs hf).le λD σ H hl⟨dt,B,E,DT,re,hF,l⟩=>⟨B,σ,E,_,⟨[],by simp⟩,re,hF,λr E' v H' S' q g VV rr=>by
  obtain⟨u,e1,q⟩:=q.ex;rw[<-re.len]at e1 q;obtain⟨r1,ow⟩:=lO (i:=j) VV g.pre rr e1;exact l.nx _ _ _ q (g.kp.trans (Kp.less ow)) r1 (dt.keep re g.kp.keep (LX ZH))⟩
theorem R3{X:Cx}{K:W.Frag}{body:List SV}{pos:Pos}{F:FS}{i:Nat}{VN:List (Key×V)}{j:Nat}{x:Str}{p1:Pos}{iter:oC}{I:FI}(hp:PassesOwn (SU X.prog X.w) X.A X.env X.xe)(hc:X.calm=true)(hi:QI X (.Name x p1) iter (k6 K I))(hN:X.N.Nodup)(hj:X.N[j]?=oZ x)(hx:xR X.env.scope x)(hb:QB X body (iT i VN K F))(ZH:j≠i)(hs:∀x,TC iter X.env x=pure x:=by intro _;rfl)(hf:X.fn x=true\/X.env.scope.names.lookup x=oZ .local:=by first|exact .inl rfl|exact .inr rfl|assumption):
  QS X (.For (.Name x p1) iter body [] pos) (iT i VN K (EC I (pO j) F)):=by
 refine(Vm hp hc hi (rS hN hj hx hf) hb hs).le λD σ H hl zZ=>?_;obtain⟨dt,B,E,DT,re,hF,l⟩:=zZ;refine⟨B,σ,E,_,⟨[],by simp⟩,re,hF,λJ items us E1 H1 S1 gd q g1 VY ok _ rk=>?_⟩;obtain⟨E2,e2,q⟩:=q.ex;replace q:=jS q;obtain⟨f1,f2,f3,f4⟩:=As VY e2;obtain⟨c1,c2⟩:=f1.cut (E:=E) g1.pre re.len;have gs:Gs B H σ E H1 σ (E2.take E.length):=g1.kp.trans ((Kp.less f2).trans (Kp.less c2));have gd1:gd H1 (Ow B σ (E2.take E.length)):=rk _ (λb z=>f2 b (c2 b z)) λj hj a ha z=>f3 j hj a ha (c2 a z);refine⟨λi' m σ' H'=>m=items.length-i'/\i'<=items.length/\∃E',i8 (pO j) F DT (items.drop i') E'/\Gs B H σ E H' σ' E'/\RE K B H' σ' E'/\gd H' (Ow B σ' E')/\Di i VN σ' H',⟨_,rfl,LV _,_,q,gs,c1,gd1,dt.keep re gs.keep rfl⟩,?_⟩;rintro i' m σ2 H2 ⟨rfl,cf,E3,q3,g3,YO,jf,vi⟩;obtain XO|hge:=MN i' items.length
 ·have hd:items.drop i'=items[i']::items.drop (i'+1):=MX XO;rw[hd]at q3;refine .inr ⟨ok.go i' H2 _ jf XO,λσ' H'=>∃E',i8 (pO j) F DT (items.drop (i'+1)) E'/\Gs B H σ E H' σ' E'/\RE K B H' σ' E'/\gd H' (Ow B σ' E')/\Di i VN σ' H',λσ' H' zZ=>by obtain⟨E',z⟩:=zZ;exact⟨items.length-(i'+1),⋯,rfl,XO,E',z⟩,λy H4 yl=>?_⟩;obtain⟨k4,s4,rp⟩:=ok.yld i' H2 _ y H4 _ jf (LA XO) (λa z=>by obtain⟨vs,e⟩:=YO.ow z;rw[e];intro z;cases z) yl;have jz:=YO.kept s4;have vg:=ok.keep _ _ _ _ k4 jf;obtain⟨jg,ow5⟩:=jz.setP (i:=j) rp;have q5:=jS (show Ho (E3.set j (oZ (.p items[i']))) (F { DT with nx:=i8 (pO j) F DT (items.drop (i'+1)),ct:=i8 (pO j) F DT (items.drop (i'+1)),bk:=DT.nx })from q3);have g5:Gs B H4 σ2 E3 H4 (σ2.set j (oZ y)) (E3.set j (oZ (.p items[i']))):=Kp.less ow5;have xo:=ok.keep _ _ _ _ g5 vg;have gg:=(g3.trans k4).trans g5;have l5:=l.step gg;have vj:Di i VN (σ2.set j (oZ y)) H4:=vi.keep YO (λb o e _=>s4 b o e) (LX ZH);refine⟨vj,B,_,_,jg,q5,?_⟩;exact⟨λσ' H' E' z g VV d'=>⟨E',z,gg.trans g,VV,ok.keep _ _ _ _ g xo,d'⟩,l5.rt,λσ' H' E' z g VV d'=>l5.nx _ _ _ z g VV d',λσ' H' E' z g VV d'=>⟨E',z,gg.trans g,VV,ok.keep _ _ _ _ g xo,d'⟩⟩
 ·have ei:i'=items.length:=⋯
  subst ei;rw[NX]at q3;exact .inl ⟨ok.stop H2 _ jf,l.nx _ _ _ q3 g3 YO vi⟩
theorem Sw{X:Cx}{K:W.Frag}{Fe:FE}{Fb:FB}{g:FG}{I:FI}{target elt iter c:oC}{scope:UI}{pos pos' ck:Pos}{N':List Str}{cap:List (Nat×Bool)}{t i:Nat}{x:Str}(hN:X.N.Nodup)(hi:X.N[i]?=oZ x)(hx:xR X.env.scope x)(tq:TV (.ListComp elt [⟨target,iter,[c],0⟩] scope pos) (oZ (.Name x pos')) ck.line X.env=pure true)(hc:X.calm=true)(S:bL X N' scope t (cap.map (·.1)))(ho:jU cap=true)(fx:(cap.map (·.1)).Nodup)(hit:QI X target iter (k6 K I))(hg:∀C s3 H3 fp,QG (aX X N' scope C s3 H3 fp) target (tH K g))(hb:∀C s3 H3 fp,QT (aX X N' scope C s3 H3 fp) c (eD K Fb))(he:∀C s3 H3 fp,QE (aX X N' scope C s3 H3 fp) elt (aH K Fe))(hs:∀x,TC iter X.env x=pure x:=by intro _;rfl)(hf:X.fn x=true\/X.env.scope.names.lookup x=oZ .local:=by first|exact .inl rfl|exact .inr rfl|assumption):
  QS X (.Assign [.Name x pos'] (.ListComp elt [⟨target,iter,[c],0⟩] scope pos) ck) (gP K (Vz i (Al t cap I g Fb Fe))):=
 QS.le (t:=Kh (qS t (cap.map λx:Nat×Bool=>x.1) (k6 K I) (Mn none K g) (tT none K Fb) (j0 none K Fe)) (nA i)) ⟨Gf hN hi hx hf tq hc S hit.h (λC s3 H3 fp=>(hg C s3 H3 fp).gd.h) (λC s3 H3 fp=>(hb C s3 H3 fp).bd.h.one) (λC s3 H3 fp=>(he C s3 H3 fp).ed.h) hs⟩ λD σ H hl⟨B,E,DT,re,hF,l⟩=>yT (d:=none) (d':=none) S ho fx hl (λ_ _ _ z=>by cases z) ⟨(λ_ z=>by cases z),B,σ,E,_,⟨[],by simp⟩,re,hF,λr E' v H' S' q g VV rr=>by
  obtain⟨u,e1,q⟩:=q.ex;rw[<-re.len]at e1 q;obtain⟨r1,ow⟩:=lO (i:=i) VV g.pre rr e1;exact l.nx _ _ _ q (g.kp.trans (Kp.less ow)) r1⟩
end L2
namespace HT
open PySem PySem.Spec PyProof.Rows
end HT
namespace L2
open PySem PySem.Spec PyProof.Rows
def s1(x:Option T)(k:Str->Prop):Prop:=match x with
 |some (.str i)=>k i
 |_=>False
theorem s1.ex{k:Str->Prop}(h:s1 x k):∃i,x=oZ (.str i)/\k i:=by
 unfold s1 at h;split at h
 ·exact⟨_,rfl,h⟩
 ·exact h.elim
def s2(x y:Option T)(k:Str->Str->Prop):Prop:=match x,y with
 |some (.str i),oZ (.str j)=>k i j
 |_,_=>False
theorem s2.ex{k:Str->Str->Prop}(h:s2 x y k):∃i j,x=oZ (.str i)/\y=oZ (.str j)/\k i j:=by
 unfold s2 at h;split at h
 ·exact⟨_,_,rfl,rfl,h⟩
 ·exact h.elim
def si(x y:Option T)(k:Str->Int->Prop):Prop:=match x,y with
 |some (.str i),oZ (.int j)=>k i j
 |_,_=>False
theorem si.ex{k:Str->Int->Prop}(h:si x y k):∃i j,x=oZ (.str i)/\y=oZ (.int j)/\k i j:=by
 unfold si at h;split at h
 ·exact⟨_,_,rfl,rfl,h⟩
 ·exact h.elim
abbrev big:Nat:=1000000
theorem Ac(h:n<=big):n<=SY:=by rw[sizeLine_eq];unfold big at h;lia
theorem RE.str{K:W.Frag}{B:SN->Prop}{H:Hp}{S:St}{E:En}(re:RE K B H S E){r:R}{v:V}{i:Str}(h:RR K B H S E r v)(e:L2.vl E r=oZ (.str i)):v = .str i:=re.vl h e
section
variable{X:Cx}{K:W.Frag}{pos:Pos}{a b c e o:oC}{es:List oC}{Fa Fb Fc Fo:FE}{Fr:FA}
def BX(Fa Fb:FE):FE:=λE Q=>Fa E λx E1=>Fb E1 λy E2=>s2 (vl E2 x) (vl E2 y) λi j=>i.length+j.length<=big/\∀z,z=i++j->Q (.p (.str z)) E2
theorem Lh(ha:QE X a (aH K Fa))(hb:QE X b (aH K Fb)):QE X (.BinOp a .Add b pos) (aH K (BX Fa Fb)):=by
 refine(wM Jm ha hb).le λσ H Q hl h=>two h λB S E x y v w H2 Q' hS re rx ry q lk=>?_;obtain⟨i,j,e1,e2,c,q⟩:=q.ex;exact⟨i,j,re.str rx e1,re.str ry e2,Ac c,lk _ _ _ _ _ (q _ rfl) .refl re rfl⟩
theorem V3{n:Int}(h0:0<=n)(h:x.length*n.toNat<=big)(hn:n<=big):MulOk x n:=by
 unfold big at h hn;refine⟨?_,λh1 h2 h3=>?_,λh1 h2=>?_⟩
 ·rw[oX ⋯,oX ⋯];rfl
 ·have:(x.length:Int)*n<=1000000:=by
   have e:((x.length*n.toNat:Nat):Int)=(x.length:Int)*n:=by rw[Int.natCast_mul,Int.toNat_of_nonneg h0]
   lia
  have h5:(2^63-1)/n+1<=(x.length:Int):=⋯
  have h6:((2^63-1)/n+1)*n<=(x.length:Int)*n:=Int.mul_le_mul_of_nonneg_right h5 h0;have h7:(2^63-1)/n*n+(2^63-1)%n=2^63-1:=by rw[Int.mul_comm];exact Int.mul_ediv_add_emod _ _
  have h8:(2^63-1)%n<n:=ON _ ⋯;rw[Int.add_mul,Int.one_mul]at h6
  lia
 ·unfold Builtin.Str.tooLong;exact oX (by rw[sizeLine_eq];lia)
theorem Jn:kR X (TR .Mult) (λx y H Q=>∃i j,x = .str i/\y = .int j/\MulOk i j/\Q (.str (Txt.mul i j)) H):=by
 intro pins s σ H x y v u Q I rx ry h;obtain⟨i,j,rfl,rfl,hm,q⟩:=h;obtain⟨t,rfl⟩:=rx;obtain⟨t',rfl⟩:=ry;exact SB.mul hm λt' k=>⟨.str _,H,I.tok _,⟨_,rfl⟩,q⟩
def CF(Fa Fb:FE):FE:=λE Q=>Fa E λx E1=>Fb E1 λy E2=>si (vl E2 x) (vl E2 y) λi j=>(0<=j/\j<=big/\i.length*j.toNat<=big)/\∀z,z=Txt.mul i j->Q (.p (.str z)) E2
theorem Zg(ha:QE X a (aH K Fa))(hb:QE X b (aH K Fb)):QE X (.BinOp a .Mult b pos) (aH K (CF Fa Fb)):=by
 refine(wM Jn ha hb).le λσ H Q hl h=>two h λB S E x y v w H2 Q' hS re rx ry q lk=>?_;obtain⟨i,j,e1,e2,⟨c1,c2,c3⟩,q⟩:=q.ex;exact⟨i,j,re.str rx e1,re.int ry e2,V3 c1 c3 c2,lk _ _ _ _ _ (q _ rfl) .refl re rfl⟩
def CD(Fr:FA):FE:=λE Q=>Fr E λrs E1=>match rs with
 |[x]=>s1 (vl E1 x) λi=>i.length<=big/\Q (.p (.int i.length)) E1
 |_=>False
theorem Zf(hg:Gl X "len")(hm:X.mg "len" = none)(ha:QA X (e::es) (cK K n Fr))(hs:bN (e::es)=true:=by rfl):QE X (.Call (.Name "len" p) (e::es) [] pos) (aH K (CD Fr)):=by
 refine(g9 Af hg hm PySem.boot_len ha ∅ ∅ hs).le λσ H Q hl h=>args (Fr:=Fr) h λB S E rs vs H2 Q' hS re rr hn q lk=>?_
 match rs,rr,q with
 |[x],⟨v,ws,e1,h1,h2⟩,q=>
  cases h2;subst e1;obtain⟨i,e2,c,q⟩:=s1.ex q;exact⟨i,by rw[re.str h1 e2],Ac c,lk _ _ _ _ _ q .refl re rfl⟩
 |[],_,q=>exact q.elim
 |_::_::_,_,q=>exact q.elim
end
open Classical in
noncomputable def t8 (Z:SN->Prop) (H:Hp):Hp:=λb=>if Z b then none else H b
open Classical in
noncomputable def back (Z:SN->Prop) (H H':Hp):Hp:=λb=>if Z b then H b else H' b
theorem Tf{Z:SN->Prop}(h:Z b):t8 Z H b=none:=oV h
theorem nD{Z:SN->Prop}(h:¬Z b):t8 Z H b=H b:=oW h
theorem kT{Z:SN->Prop}(h:H b=none):t8 Z H b=none:=by unfold t8;split<;>first|rfl|exact h
theorem Pg{Z:SN->Prop}(h:t8 Z H b=oZ o):¬Z b/\H b=oZ o:=by
 unfold t8 at h;split at h
 ·cases h
 ·rename_i n;exact⟨n,h⟩
theorem Hy{Z:SN->Prop}(h:Z b):back Z H H' b=H b:=oV h
theorem jK{Z:SN->Prop}(h:¬Z b):back Z H H' b=H' b:=oW h
def EI(sp:Sp):Sp:=λvs H Q E=>∃Z:SN->Prop,(∀c,Z c->∃us,H c=oZ (.lst us))/\sp vs (t8 Z H) (λv H'=>(∀c,Z c->H' c=none)->Q v (back Z H H')) E
theorem aS.frame{P:SR}{w:SX}{K:W.Frag}{mg:Str->Option oA}{base:oE}{k:Nat}{f:SN}{fd:TK}{ps:List Str}{sp:Sp}(F:aS P w K mg base cJ k f fd ps sp):(~~~aS) cJ k f fd ps (EI sp):=by
 refine⟨λvs H Q E zZ=>by obtain⟨Z,_,h⟩:=zZ;exact F.len _ _ _ _ h,λA outer s H args us vs Q E hr he hb hv⟨Z,hZ,hs⟩=>?_⟩;have nl:∀{b:SN}{o:HO},H b=oZ o->(∀us,o≠.lst us)->¬Z b:=λ{b o}h n z=>by
  obtain⟨us,e⟩:=hZ b z;rw[h]at e;cases e;exact n us rfl
 have jy:Ri P w K mg base A outer s (t8 Z H):=⟨he.frames,he.mod,λb o q=>⟨(he.bs b o q).1,kT (he.bs b o q).2⟩,he.bsz,he.funs,λb m=>kT (he.frf b m),λa o e=>by
   obtain⟨n,e⟩:=Pg e;exact(he.hok a o e).stay (λ_ _ _ q=>q) (λb q=>by rw[nD (nl q λ_ z=>by cases z)];exact q) (λb xs q=>by rw[nD (nl q λ_ z=>by cases z)];exact q),he.bare⟩
 refine VJ (F.run A outer s (t8 Z H) args us vs _ E hr jy hb hv hs) λr s' h=>?_;cases r with
 |error e=>exact h
 |ok fin=>
  cases fin with
  |ret u=>
   obtain⟨v,H1,h1,h2,un,ok,rv,q⟩:=h;have gone:∀c,Z c->H1 c=none:=λc z=>by
    obtain⟨us,e⟩:=hZ c z;obtain⟨_,VL,n,_,q⟩:=he.hok c _ e;exact un.free c _ q (Tf z) (by simp)
   refine⟨v,back Z H H1,h1,h2,⟨λb o q n=>un.keep b o q (kT n),λb o q n=>un.slot b o q (kT n),λb o q n x=>?_,un.there,λb xs q=>?_,λb o u q=>?_,λb ps q=>?_⟩,λa o e=>?_,rv,q gone⟩
   ·by_cases z:Z b
    ·rw[Hy z];exact n
    ·rw[jK z];exact un.free b o q (kT n) x
   ·have z:=nl q λ_ z=>by cases z
    rw[jK z];exact un.tups b xs (by rw[nD z];exact q)
   ·have z:=nl q λ_ z=>by cases z
    rw[jK z];exact un.frzs b o u (by rw[nD z];exact q)
   ·have z:=nl q λ_ z=>by cases z
    rw[jK z];exact un.tbls b ps (by rw[nD z];exact q)
   ·by_cases z:Z a
    ·rw[Hy z]at e;obtain⟨us,e'⟩:=hZ a z;rw[e]at e';cases e';obtain⟨y,VL,n,r,g⟩:=he.hok a _ e;refine⟨y,VL,n,r,un.keep a _ g (Tf z) (λm=>?_) (by simp)⟩;rw[he.frf a m]at e;cases e
    ·rw[jK z]at e;exact(ok a o e).stay (λ_ _ _ q=>q) (λb q=>by rw[jK λz=>by rw[gone b z]at q;cases q];exact q) (λb xs q=>by rw[jK λz=>by rw[gone b z]at q;cases q];exact q)
  |_=>exact h
theorem Fn.frame{P:SR}{w:SX}{K:W.Frag}{mg:Str->Option oA}{base:oE}{k:Nat}{x:Str}{ps:List Str}{sp:Sp}(F:Fn P w K mg base k x ps sp):(~~~Fn) k x ps (EI sp):=by
 obtain⟨f,fd,ok,h⟩:=F.ex;exact⟨⟨f,fd,ok.frame,h⟩⟩
def tU(K:W.Frag)(S:dG):Sp:=λvs H Q _=>∃(as:List A)(Q':RV->List T->Prop)(bx:Option SN),RE K (λa=>bx=oZ a) H (vs.map oZ) (j7 as)/\(jL as=none->bx=none)/\S as Q'/\
 ∀t xs v H',Q' (.v t) xs->(∀b o,H b=oZ o->bx≠oZ b->H' b=oZ o)->(∀a,bx=oZ a->∃ws,H' a=oZ (.lst ws)/\cR K H' (i6 H') xs ws)->Rp K H' (λb=>bx=oZ b) t v->Q v H'
def HJ(as:List A)(Q:RV->List T->Prop):ET where
 nx:=λ_=>False
 rt:=λr E=>o1 (vK as E) λxs=>match r with
  |.p t=>Q (.v t) xs
  |.s i=>match E[i]? with
   |some (↥ys)=>Q (.v (.lst ys)) xs
   |some (⇑t)=>Q (.v t) xs
   |_=>False
theorem cI.okL{P:SR}{w:SX}{K:W.Frag}{mg:Str->Option oA}{base:oE}{x qual:Str}{st:SV}{f:SN}{fd:TK}{N ps:List Str}{k:Nat}{S:dG}{F:FS}(Fn:cI K x qual st f fd)(Sc:aF N ps (aC st))(len:∀as Q,S as Q->as.length=ps.length)(hb:∀(WR:oA)(A:oD)(outer:List Env)(s:oB)(H:Hp)(E:XK),cV k (A.deeper (UK qual (aC st) s.heap.objs.size f WR))->QB (vO cJ P w K mg base N qual (aC st) f WR A outer s H E).nox (cQ st) (gP K F))(hF:∀as Q,S as Q->F (HJ as Q) (j7 as++LF (N.length-as.length) none)):(~~~aS) cJ (k+1) f fd ps (tU K S):=by
 refine Fn.okQ Sc (λvs H Q E⟨as,Q',bx,re,qm,hS,l⟩=>?_) (λWR A outer s H vs Q E hr⟨as,Q',bx,re,qm,hS,l⟩=>?_)
 ·have:=re.len;rw[LJ,dZ]at this;rw[this];exact len as Q' hS
 have hl:vs.length=as.length:=by have:=re.len;rwa [LJ,dZ]at this
 refine⟨_,hb WR A outer s H E hr,?_⟩;obtain⟨rm,ie⟩:=re.pad (N.length-as.length);have ji:j5 N vs=vs.map oZ++LF (N.length-as.length) none:=by unfold j5;rw[hl]
 rw[ji]
 -- the box's address
 have ni:∀b,Ow (λa=>bx=oZ a) (vs.map oZ) (j7 as) b->bx=oZ b:=λb z=>by
  obtain z|⟨i,kk,xs,h1,h2⟩:=z
  ·exact z
  obtain⟨a,ws,q1,_,_,q4⟩:=re.own i kk xs h1;rw[h2]at q1;cases q1;exact q4.mp (Kz h1)
 have fr:∀{H':Hp}{S':St}{E':En},Gs (λa=>bx=oZ a) H (vs.map oZ++LF (N.length-as.length) none) (j7 as++LF (N.length-as.length) none) H' S' E'->∀b o,H b=oZ o->bx≠oZ b->H' b=oZ o:=λg b o h n=>g.keep b o h λz=>n (ni b (ie b z));have fin:∀{r:T}{xs:List T}{v:V}{H':Hp}{S':St}{E':En},vK as E'=oZ xs->Q' (.v r) xs->Gs (λa=>bx=oZ a) H (vs.map oZ++LF (N.length-as.length) none) (j7 as++LF (N.length-as.length) none) H' S' E'->RE K (λa=>bx=oZ a) H' S' E'->
   Rp K H' (λb=>bx=oZ b) r v->Q v H':=λ{r xs v H' S' E'}e q g VV hr=>by
  have zq:∀a,bx=oZ a->∃ws,H' a=oZ (.lst ws)/\cR K H' (i6 H') xs ws:=λa ha=>by
   unfold vK at e;cases qb:jL as with
   |none=>
    rw[qb]at e;cases e;rw[qm qb]at ha;cases ha
   |some j=>
    rw[qb]at e;simp only at e;split at e
    ·rename_i ys hE;split at e
     ·cases e;rename_i xp;obtain⟨b,ws,h1,h2,h3,h4⟩:=VV.own j true xs hE;have:bx=oZ b:=h4.mp rfl;rw[ha]at this;cases this;exact⟨ws,h2,cR.noL (λ_ z=>z) xp h3⟩
     ·cases e
    ·cases e
  exact l r xs v H' q (fr g) zq hr
 refine⟨_,_,_,rm,hF as Q' hS,⟨λ_ _ _ z=>z.elim,λr E' v H' S' q g VV rr=>?_,λ_ _ _ z=>z.elim,λ_ _ _ z=>z.elim⟩⟩;obtain⟨xs,e,q⟩:=q.ex;cases r with
 |p t=>exact fin e q g VV (Rp.step (Kp.less λb z=>.inl z) rr)
 |s i=>
  simp only at q;split at q
  ·rename_i ys hE;obtain⟨b,ws,h1,h2,h3,h4⟩:=VV.own i false ys hE;have je:S'[i]?=oZ (oZ v):=rr;rw[je]at h1;cases h1;exact fin e q g VV ⟨b,ws,rfl,.inl ⟨λz=>(by have:=h4.mpr z;cases this),.inl h2⟩,h3.step (Kp.less λb z=>.inl z)⟩
  ·rename_i t hE;obtain⟨w,h1,h2⟩:=VV.pure i t hE;have je:S'[i]?=oZ (oZ v):=rr;rw[je]at h1;cases h1;exact fin e q g VV (h2.step (Kp.less λb z=>.inl z))
  ·exact q.elim
def R4(S:dG)(Fr:FA):FE:=λE Q=>Fr E λrs E1=>match rs with
 |.s j::rs=>o1 (tZ E1 rs) λz=>match z.2[j]? with
  |some (oZ (.o k xs))=>S (.b xs::z.1.map A.v) λr ys=>match r with
   |.v t=>Q (.p t) (z.2.set j (oZ (.o k ys)))
   |.l _=>False
  |_=>False
 |_=>False
theorem Eg{X:Cx}{K:W.Frag}{pos:Pos}{e:oC}{es:List oC}{Fr:FA}{n k j:Nat}{x:Str}{ps:List Str}{S:dG}{p:Pos}(F:Fn X.prog X.w X.K X.mg X.base k x ps (tU K S))(hr:cV j X.A)(hk:k<=j)(hg:Gl X x)(ha:QA X (e::es) (cK K n Fr))(YN:(x==("__debug__":Str))=false:=by decide)(hs:bN (e::es)=true:=by rfl):QE X (.Call (.Name x p) (e::es) [] pos) (aH K (R4 S Fr)):=by
 refine(wL F.frame hr hk hg ha YN hs).le λσ H Q hl h=>args (Fr:=Fr) h λB S' E0 rs vs H2 Q' hS rm rr hn q lk=>?_;rw[MG];split at q
 ·rename_i jb rn;obtain⟨z,ez,q⟩:=o1.ex q;obtain⟨v0,ws,e2,h0,h2⟩:=rr;subst e2;obtain⟨re,owz,rp⟩:=rL rm h2 ez;obtain⟨ts,E⟩:=z;simp only at q re owz rp;split at q
  ·rename_i kb xs hE;have kc:S'[jb]?=oZ (oZ v0):=h0;obtain⟨a0,us,k1,k2,k3,k4⟩:=re.own jb kb xs hE;rw[kc]at k1;cases k1;have ie:Ow B S' E a0:=.inr ⟨jb,kb,xs,hE,kc⟩;have kpi:Kp (Ow B S' E) (λb=>b=a0) H2 (t8 (λb=>Ow B S' E b/\b≠a0) H2):=⟨λb o h n=>by rw[nD λz=>n z.1];exact h,λb z=>.inl (by rw[z];exact ie)⟩;have get:∀{i:Nat}{u:U},(oZ (U.o true xs)::ts.map λt=>oZ (U.p t))[i]?=oZ (oZ u)->(i=0/\u = .o true xs)\/∃m t,i=m+1/\ts[m]?=oZ t/\u = .p t:=λ{i u}h=>by
    cases i with
    |zero=>simp at h;exact .inl ⟨rfl,h.symm⟩
    |succ m=>
     rw[NV,LB]at h;cases q:ts[m]? with
     |none=>rw[q]at h;cases h
     |some t=>rw[q]at h;simp at h;exact .inr ⟨m,t,rfl,q,h.symm⟩
   have ow:∀b,Ow (λc=>oZ a0=oZ c) ((V.ref a0::ws).map oZ) (j7 (A.b xs::ts.map A.v)) b->b=a0:=λb z=>by
    obtain z|⟨i,kk,ys,h3,h4⟩:=z
    ·cases z;rfl
    ·have h3':(oZ (U.o true xs)::ts.map λt=>oZ (U.p t))[i]?=oZ (oZ (U.o kk ys)):=by
      rw[<-h3];simp[j7,vS]
     obtain⟨c,z⟩|⟨m,t',e,q3,z⟩:=get h3'
     ·subst c;simp at h4;exact h4.symm
     ·cases z
   have enE:j7 (A.b xs::ts.map A.v)=oZ (U.o true xs)::ts.map λt=>oZ (U.p t):=by simp[j7,vS]
   have kpa:Kp (Ow B S' E) (Ow (λc=>oZ a0=oZ c) ((V.ref a0::ws).map oZ) (j7 (A.b xs::ts.map A.v))) H2 (t8 (λb=>Ow B S' E b/\b≠a0) H2):=⟨kpi.keep,λb z=>.inl (by rw[ow b z];exact ie)⟩;have yj:t8 (λb=>Ow B S' E b/\b≠a0) H2 a0=oZ (.lst us):=by rw[nD λz=>z.2 rfl];exact k2
   refine⟨λb=>Ow B S' E b/\b≠a0,λc z=>re.ow z.1,A.b xs::ts.map A.v,_,oZ a0,⟨by simp[j7,vS,rp.length],λi t h=>?_,λi kk ys h=>?_,λi i' kk l ys zs b h1 h3 _ _=>?_,λc z=>?_⟩,λz=>?_,q,λt ys v H1 q2 fr bxk rv gone=>?_⟩
   ·rw[enE]at h;obtain⟨_,z⟩|⟨m,t',e,q3,z⟩:=get h
    ·cases z
    ·cases z;subst e;obtain⟨v,h1,h3⟩:=rp.get q3;exact⟨v,by simp[h1],h3.step kpa⟩
   ·rw[enE]at h;obtain⟨c,z⟩|⟨m,t',e,q3,z⟩:=get h
    ·cases z;subst c;exact⟨a0,us,by simp,yj,k3.step kpa,⟨λ_=>rfl,λ_=>rfl⟩⟩
    ·cases z
   ·rw[enE]at h1 h3;obtain⟨c,z⟩|⟨m,t',e,q3,z⟩:=get h1
    ·obtain⟨c',z'⟩|⟨m,t',e,q3,z'⟩:=get h3
     ·rw[c,c']
     ·cases z'
    ·cases z
   ·cases z;exact⟨us,yj⟩
   ·simp[jL]at z
   ·obtain⟨ij,b1,b2⟩:=bxk a0 rfl;have wb:∀b o,H2 b=oZ o->b≠a0->back (λb=>Ow B S' E b/\b≠a0) H2 H1 b=oZ o:=λb o z n=>by
     by_cases c:Ow B S' E b
     ·rw[Hy ⟨c,n⟩];exact z
     ·rw[jK λy=>c y.1];exact fr b o (by rw[nD λy=>c y.1];exact z) (by intro y;cases y;exact n rfl)
    have hb0:back (λb=>Ow B S' E b/\b≠a0) H2 H1 a0=oZ (.lst ij):=by rw[jK λy=>y.2 rfl];exact b1
    have kpo:Kp (λb=>oZ a0=oZ b) (Ow B S' E) H1 (back (λb=>Ow B S' E b/\b≠a0) H2 H1):=⟨λb o z n=>by
      rw[jK λy=>by rw[gone b y]at z;cases z];exact z,λb z=>by
      by_cases c:b=a0
      ·exact .inl (by rw[c])
      ·exact .inr (gone b ⟨z,c⟩)⟩
    have kpb:Kp (i6 H1) (Ow B S' E) H1 (back (λb=>Ow B S' E b/\b≠a0) H2 H1):=⟨λb o z n=>by
      rw[jK λy=>by rw[gone b y]at z;cases z];exact z,λb z=>by
      by_cases c:b=a0
      ·exact .inl (by rw[c];exact⟨_,b1⟩)
      ·exact .inr (gone b ⟨z,c⟩)⟩
    generalize back (λb=>Ow B S' E b/\b≠a0) H2 H1=H' at wb hb0 kpo kpb⊢;have hk:∀b o,H2 b=oZ o->¬Ow B S' E b->H' b=oZ o:=λb o z n=>wb b o z λc=>n (by rw[c];exact ie);have cg:∀{i:Nat}{u:U},(E.set jb (oZ (.o kb ys)))[i]?=oZ (oZ u)->(i=jb/\u = .o kb ys)\/(i≠jb/\E[i]?=oZ (oZ u)):=λ{i u}h=>by
     by_cases c:i=jb
     ·subst c;rw[ME (KZ.mp hE).1]at h;cases h;exact .inl ⟨rfl,rfl⟩
     ·rw[LX (λz=>c z.symm)]at h;exact .inr ⟨c,h⟩
    have kp:Kp (Ow B S' E) (Ow B S' E) H2 H':=⟨hk,λb z=>.inl z⟩;have vh:∀b,Ow B S' (E.set jb (oZ (.o kb ys))) b->Ow B S' E b:=λb z=>by
     obtain z|⟨i,k,zs,z1,z2⟩:=z
     ·exact .inl z
     obtain⟨c,z⟩|⟨c,z⟩:=cg z1
     ·subst c;exact .inr ⟨_,kb,xs,hE,z2⟩
     ·exact .inr ⟨i,k,zs,z,z2⟩
    have VV:RE K B H' S' (E.set jb (oZ (.o kb ys))):=by
     refine re.step hk (by simp) (λi t h=>?_) (λi k zs h=>?_) (λa z=>?_)
     ·obtain⟨_,z⟩|⟨_,z⟩:=cg h
      ·cases z
      ·exact z
     ·obtain⟨c,z⟩|⟨c,z⟩:=cg h
      ·cases z;subst c;refine⟨xs,hE,λa ha=>?_⟩;rw[kc]at ha;cases ha;exact⟨ij,hb0,b2.step kpb⟩
      ·refine⟨zs,z,λa ha=>?_⟩;obtain⟨a',fu,p1,p2,p3,_⟩:=re.own i k zs z;rw[ha]at p1;cases p1;have na:a≠a0:=λw=>c (re.inj i jb k kb zs xs a0 z hE (by rw[<-w];exact ha) kc);exact⟨fu,wb a _ p2 na,p3.step kp⟩
     ·by_cases c:a=a0
      ·rw[c];exact⟨_,hb0⟩
      ·obtain⟨fu,e⟩:=re.bd a z;exact⟨fu,wb a _ e c⟩
    exact lk _ _ _ _ _ q2 ⟨⟨λb o z n=>hk b o z λy=>n (owz b y),λb z=>.inl (owz b (vh b z))⟩,[],by simp⟩ VV (Rp.step (Kp.mk (λb o z n=>kpo.keep b o z n) λb z=>kpo.new b (vh b z)) rv)
  ·exact q.elim
 ·exact q.elim
section
variable{X:Cx}{K:W.Frag}{pos ap:Pos}{e o:oC}{es:List oC}{Fo:FE}{Fr:FA}{name:Str}{id:String}
def R5(G:Str->R->En->(R->En->Prop)->Prop)(Fo:FE)(Fr:FA):FE:=λE Q=>Fo E λx E1=>s1 (vl E1 x) λi=>Fr E1 λrs E2=>match rs with
 |[y]=>G i y E2 Q
 |_=>False
theorem Sq{G:Str->R->En->(R->En->Prop)->Prop}{r:V->List V->Hp->VK->Prop}(slot:Slot "str" name id)(jx:typeOf (.builtin id)=pure (.type "method_descriptor"))(hm:P5 X id r)(k:∀B S E i y w H2 Q' Q,RE K B H2 S E->RR K B H2 S E y w->G i y E Q'->Lk K B H2 S E Q' Q->r (.str i) [w] H2 Q)(ho:QE X o (aH K Fo))(ha:QA X [e] (cK K n Fr))(WK:TQ o name X.env (TF o X.env)=TF o X.env:=by rfl)(WL:(ap.endLine==pos.line)=true:=by rfl)(hs:a7 e=false:=by rfl):
  QE X (.Call (.Attribute o name ap) [e] [] pos) (aH K (R5 G Fo Fr)):=by
 refine QE.le ⟨Ge PySem.F.plainAttrs_str slot jx hm ho.h ha.h WK (by rw[cC hs];rfl) WL (cC hs) (eF rfl)⟩ λσ H Q hl h=>one (Fa:=Fo) h λB S E x v H2 Q' hS re rx q lk=>?_;obtain⟨i,e1,q⟩:=q.ex;have ev:=re.str rx e1;subst ev;refine⟨rfl,B,S,E,_,hS,re,q,λrs E2 vs H3 S3 q3 g YO rr hn=>?_⟩
 match rs,rr,q3 with
 |[y],⟨w,ws,e2,h1,h2⟩,q3=>
  cases h2;subst e2;exact k B S3 E2 i y w H3 Q' Q YO h1 q3 (lk.step g)
 |[],_,q=>exact q.elim
 |_::_::_,_,q=>exact q.elim
def Mt(l:List Str):List T:=l.map T.str
def kM:List T->Option (List Str)
 |[]=>oZ []
 |.str x::r=>(kM r).map (x::·)
 |_=>none
theorem zL:∀{xs:List T}{l:List Str},kM xs=oZ l->xs=Mt l
 |[],_,h=>by cases h;rfl
 |.str x::r,l,h=>by
  cases q:kM r with
  |none=>rw[kM,q]at h;cases h
  |some m=>
   rw[kM,q]at h;cases h;rw[zL q];rfl
 |.non::_,_,h=>by cases h
 |.bl _::_,_,h=>by cases h
 |.int _::_,_,h=>by cases h
 |.tup _::_,_,h=>by cases h
 |.lst _::_,_,h=>by cases h
theorem Gy:∀l:List Str,kM (Mt l)=oZ l
 |[]=>rfl
 |x::l=>by show(kM (Mt l)).map (x::·)=_;rw[Gy l];rfl
def K7(i:Str)(y:R)(E:En)(Q:R->En->Prop):Prop:=match vl E y with
 |some (.lst xs)=>o1 (kM xs) λl=>JoinOk i l=true/\∀z,z=RS i l->Q (.p (.str z)) E
 |_=>False
theorem zM:∀{l:List Str}{us:List oA},a9 (l.map V.str) us->∃m:List (Str×Tok),us=strValues m/\m.map (·.1)=l
 |[],us,h=>by cases h;exact⟨[],rfl,rfl⟩
 |x::l,us,h=>by
  cases h with
  |cons h1 h2=>
   obtain⟨t,rfl⟩:=h1;obtain⟨m,rfl,e⟩:=zM h2;exact⟨(x,t)::m,rfl,by rw[MP,e]⟩
theorem Gk{O:SN->Prop}:∀{l:List Str}{vs:List V},cR K H O (Mt l) vs->vs=l.map V.str
 |[],_,h=>h
 |x::l,_,⟨v,r,e,h1,h2⟩=>by
  have h1:v = .str x:=h1;rw[e,h1,Gk h2];rfl
theorem Zz:P5 X "str.join" (λx vs H Q=>∃i a l,x = .str i/\vs=[.ref a]/\lA X.K H a (l.map V.str)/\JoinOk i l=true/\Q (.str (RS i l)) H):=by
 intro pins s σ H x vs v us Q I rx rv h;obtain⟨i,a,l,rfl,rfl,sq,hj,q⟩:=h;obtain⟨t,rfl⟩:=rx;obtain⟨u,rfl,ry⟩:=r8 rv;cases ry;obtain⟨VL,r,pl,hz⟩:=I.list sq;obtain⟨m,rfl,e⟩:=zM r;exact SC.join pl.isList e hj λt' k=>⟨.str _,H,I.tok _,⟨_,rfl⟩,q⟩
theorem Ze(eK:X.K=K)(ho:QE X o (aH K Fo))(ha:QA X [e] (cK K n Fr))(WK:TQ o "join" X.env (TF o X.env)=TF o X.env:=by rfl)(WL:(ap.endLine==pos.line)=true:=by rfl)(hs:a7 e=false:=by rfl):QE X (.Call (.Attribute o "join" ap) [e] [] pos) (aH K (R5 K7 Fo Fr)):=by
 subst eK;refine Sq PySem.F.slot_str_join PySem.F.type_str_join Zz (λB S E i y w H2 Q' Q re rr q lk=>?_) ho ha WK WL hs;unfold K7 at q;split at q
 ·rename_i xs e1;obtain⟨l,e2,c,q⟩:=o1.ex q;rw[zL e2]at e1;obtain⟨a,vs,rfl,sq,rs⟩:=re.vl rr e1;rw[Gk rs]at sq;exact⟨i,a,l,rfl,rfl,sq,c,lk _ _ _ _ _ (q _ rfl) .refl re rfl⟩
 ·exact q.elim
end
section
variable{X:Cx}{K:W.Frag}{pos:Pos}{a b c e o:oC}{es:List oC}{Fa Fb Fc Fo:FE}{Fr:FA}{vp Gh G:FO}
def BE(x:Str):It:=⟨λi _=>i<x.cps.size,λi H v H'=>H'=H/\∃c,x.cps[i]?=oZ c/\v = .str ⟨#[c]⟩,λi _=>i=x.cps.size⟩
theorem Xs(it:SN)(ty:String)(jx:ty = "str_ascii_iterator"\/ty = "str_iterator")(x:Str)(t:Tok):Nx P w K tg (BE x) [it] it (λi h=>h.IsStrIter it ty x t i) where
 mem:=by simp
 obj:=λi h st b hb=>by
  have e:b=it:=by simpa using hb
  subst e;obtain⟨o,e,c,d⟩:=st;exact⟨o,e,λv z=>by rw[d]at z;cases z⟩
 keep:=λi h h' st k=>let⟨o,ho,r⟩:=st;⟨o,k it (by simp) o ho,r⟩
 item:=by
  intro X hP hw hK hc i pins s σ H E I hf st hg;subst hP hw hK;have hg:i<x.cps.size:=hg;obtain⟨f0,f1,f2,f3,f4,f5⟩:=hf it (by simp);have hx:x.cps[i]?=oZ x.cps[i]:=by simp[hg]
  have fin:∀h',h'.IsStrIter it ty x t (i+1)->PF it s.heap h'->∃u,(oZ (OK ⟨#[x.cps[i]]⟩ s.toks))=oZ u/\SQ (SU X.prog X.w) X.A (UG tg (.ref it) u) (λ_ s2=>∃y H',aT X pins σ H' s2/\bC y u/\(BE x).yld i H y H'/\s2.heap.IsStrIter it ty x t (i+1)/\∀b∈[it],H' b=none) E { s with heap:=h',toks:=s.toks+1 }:=λh' pj sb=>by
   have I1:aT X pins σ H { s with heap:=h',toks:=s.toks+1 }:=I.turned (λb o hb e=>(sb.2 b hb).trans e) f0 f1 f3 f4 f5;obtain⟨o,e,c,d⟩:=id pj;exact⟨_,rfl,Sz (s:={ s with heap:=h',toks:=s.toks+1 }) e c d (by rcases jx with rfl|rfl<;>decide) ⟨.str _,H,I1,⟨_,rfl⟩,⟨rfl,_,hx,rfl⟩,pj,λb hb=>(hf b hb).1⟩⟩
  obtain rfl|rfl:=jx
  ·exact wpAny_pyNext_ascii_item st hx fin
  ·exact wpAny_pyNext_wide_item st hx fin
 done:=by
  intro X hP hw hK hc i pins s σ H E I hf st hg;subst hP hw hK;have hg:i=x.cps.size:=hg;subst hg;obtain⟨f0,f1,f2,f3,f4,f5⟩:=hf it (by simp);have fin:∀h',Heap.ExtBut it s.heap h'->(none:Option oA)=none/\aT X pins σ H { s with heap:=h' }:=λh' eb=>⟨rfl,I.turned (t':=s.toks) (λb o hb e=>eb b o hb e) f0 f1 f3 f4 f5⟩;obtain rfl|rfl:=jx
  ·exact wpAny_pyNext_ascii_end (I.ok.hd hc) st (by simp) fin
  ·exact wpAny_pyNext_wide_end (I.ok.hd hc) st (by simp) fin
 self:=λ_ _ _ _ _ st h=>by
  obtain rfl|rfl:=jx
  ·exact wpAny_pyIter_striter_ascii st h
  ·exact wpAny_pyIter_striter_wide st h
def CM(tl:TE):TI:=λσ H R=>tl σ H λv H1=>∃x,v = .str x/\R (BE x) H1
theorem Y0(hl:PE X l tl):PI X tg l (CM tl):=by
 intro pins s σ H R I h;refine cL (hl pins s σ H _ I h) λv s1 zZ=>?_;obtain⟨y,H1,I1,r1,x,e,q⟩:=zZ;subst e;obtain⟨t,rfl⟩:=r1;have fin:∀ty,(ty = "str_ascii_iterator"\/ty = "str_iterator")->GR X pins σ tg R (.ref s1.heap.objs.size) { s1 with heap:=s1.heap.push { cls:=.type ty,data:=.fields #[.str x t,.int 0 0] } }:=λty jx=>by
  refine⟨s1.heap.objs.size,[s1.heap.objs.size],_,_,H1,rfl,I1.kept (t':=s1.toks) λb o e=>LI _ e,Xs _ ty jx x t,⟨_,LU _ rfl,rfl,rfl⟩,λb hb=>?_,q⟩;have e:b=s1.heap.objs.size:=by simpa using hb
  subst e;exact I1.fpOk (LN _) (I1.hok.fresh (LN _))
 cases ha:x.cps.all (· < 128)
 ·exact wpAny_pyIter_wide ha (fin _ (.inr rfl))
 ·exact wpAny_pyIter_ascii ha (fin _ (.inl rfl))
def xH(x:Str):List T:=x.cps.toList.map λc=>T.str ⟨#[c]⟩
theorem U2:Ht K (BE x) (xH x) (λ_ _=>True):=by
 refine⟨λ_ _ _ _ _ h=>h,λi H O _ hi=>by show i<x.cps.size;simpa[xH]using hi,λi H O v H' t _ e _ y=>?_,λH O _=>by simp[BE,xH]⟩;obtain⟨e1,c,hc,ev⟩:=y;subst e1;subst ev;unfold xH at e;rw[LB,SH,hc]at e;cases e;exact⟨Kp.refl _ _,λ_ _ z=>z,rfl⟩
def iS(Fa:FE):FI:=λE Q=>Fa E λr E1=>s1 (vl E1 r) λx=>Q (xH x) [] E1
theorem S9(hl:QE X l (aH K Fa)):QI X tg l (k6 K (iS Fa)):=by
 refine QI.le (t:=CM (aH K Fa)) ⟨Y0 hl.h⟩ λσ H R hn⟨B,S,E,Q',hS,re,hF,lk⟩=>⟨B,S,E,_,hS,re,hF,λr E1 v H1 S1 q g VY rr=>?_⟩;obtain⟨x,e1,q⟩:=s1.ex q;exact⟨x,VY.str rr e1,lk _ _ _ _ _ _ _ q g VY U2 (λj hj=>absurd hj (by simp)) λ_ _ _=>trivial⟩
def Sj(g g':Int->Int->Bool)(Fa Fb Fc:FE):FE:=λE Q=>Fa E λx E1=>Fb E1 λy E2=>i2 (vl E2 x) (vl E2 y) λi j=>if g i j=true then Fc E2 λz E3=>i1 (vl E3 z) λk=>Q (.p (.bl (g' j k))) E3 else Q (.p (.bl false)) E2
theorem Om{g g':Int->Int->Bool}(h:aH K (Sj g g' Fa Fb Fc) σ H Q):Wz (Hq λi j=>.bl (g i j)) (Hq λi j=>.bl (g' i j)) (aH K Fa) (aH K Fb) (aH K Fc) σ H Q:=by
 refine two (Fa:=Fa) (Fb:=Fb) h λB S E x y v w H2 Q' hS re rx ry q lk=>?_;obtain⟨i,j,e1,e2,q⟩:=i2.ex q;refine⟨i,j,re.int rx e1,re.int ry e2,_,rfl,?_⟩
 by_cases he:g i j=true
 ·rw[oV he]at q⊢;obtain⟨τ,hS⟩:=hS;refine⟨B,S,E,_,⟨τ,hS⟩,re,q,λr E3 z H3 S3 q3 gr YO rr=>?_⟩;obtain⟨k,e3,q3⟩:=i1.ex q3;exact⟨j,k,re.int ry e2,YO.int rr e3,lk _ _ _ _ _ q3 gr YO rfl⟩
 ·rw[oW he]at q⊢;exact lk _ _ _ _ _ q .refl re rfl
theorem Sx{g g':Int->Int->Bool}(ho:kR X (TL op) (Hq λi j=>.bl (g i j)))(ig:kR X (TL op') (Hq λi j=>.bl (g' i j)))(ha:QE X a (aH K Fa))(hb:QE X b (aH K Fb))(hc:QE X c (aH K Fc))(hm:lastMarks [op,op'] [b,c]=false:=by with_unfolding_all rfl):QT X (.Compare a [op,op'] [b,c] pos) (eD K (xU (Sj g g' Fa Fb Fc))):=by
 refine QT.le ⟨Vf ho ig ha.h hb.h hc.h hm⟩ λσ H Q z=>?_;exact Om (Yq z)
end
end L2
namespace L2
open PySem PySem.Spec PySem.W PySem.Calls PyProof.Rows PySem.Builtin.ObjectAttr
end L2
namespace L2
open PySem PySem.Spec PySem.W PySem.Calls PyProof.Rows PySem.Builtin.ObjectAttr
end L2
namespace L2
open PySem PySem.Spec PySem.W PySem.Calls PyProof.Rows PySem.Builtin.ObjectAttr
end L2
namespace L2
open PySem PySem.Spec PySem.W PySem.Calls PyProof.Rows PySem.Builtin.ObjectAttr
end L2
namespace L2
open PySem PySem.Spec PySem.W PySem.Calls PyProof.Rows PySem.Builtin.ObjectAttr
variable{cb:Bool}
end L2
namespace L2
open PySem PySem.Spec PySem.W PySem.Calls PyProof.Rows PySem.Builtin.ObjectAttr
end L2
namespace L2
open PySem PySem.Spec PySem.W PySem.Calls PyProof.Rows PySem.Builtin.ObjectAttr
end L2
namespace L2
open PySem PySem.Spec PySem.NumText PyProof.Rows
end L2
namespace L2
open PySem PySem.Spec PySem.NumText PyProof.Rows
section
variable{X:Cx}{K:W.Frag}{pos:Pos}{o e:oC}{Fo:FE}{Fr:FA}
def JL(i:Nat)(Fa:FE):FS:=λD E=>Fa E λr E1=>match r with
 |.s j=>(match E1[j]? with
  |some (↥xs)=>D.nx ((E1.take E.length).set i none)\/D.nx (((E1.set j (⇑(.lst xs))).take E.length).set i (⇑(.lst xs)))
  |_=>False)
 |_=>False
def HX(Fo:FE)(Fr:FA):FE:=λE Q=>Fo E λo E1=>o1 (ownOf E1 o) λ_=>Fr E1 λrs E2=>match o with
 |.s j=>(match E2[j]? with
  |some (oZ (.o k xs))=>(match rs with
   |[r]=>i1 (vl E2 r) λi=>0<=i/\xs.length<=9000/\o1 (xs[i.toNat]?) λt=>Q (.p t) (E2.set j (oZ (.o k (xs.eraseIdx i.toNat))))
   |_=>False)
  |_=>False)
 |_=>False
theorem S8(eK:X.K=K)(ho:QE X o (aH K Fo))(ha:QA X [e] (cK K n Fr))(WK:TQ o "pop" X.env (TF o X.env)=TF o X.env:=by rfl)(WL:(ap.endLine==pos.line)=true:=by rfl)(hs:a7 e=false:=by rfl):
  QE X (.Call (.Attribute o "pop" ap) [e] [] pos) (aH K (HX Fo Fr)):=
 QE.le (t:=AM X.K "list" Vo (aH K Fo) (cK K n Fr)) ⟨Ge PySem.F.plainAttrs_list PySem.F.slot_list_pop PySem.F.type_list_pop Tz ho.h ha.h WK (by rw[cC hs];rfl) WL (cC hs) (eF rfl)⟩ λσ H Q hl h=>by
  subst eK;obtain⟨B,S,E,Q',⟨τ,hS⟩,re,hF,lk⟩:=h;refine⟨B,S,E,_,⟨τ,hS⟩,re,hF,λoo E1 v H1 S1 q g1 VY rx=>?_⟩;obtain⟨τ1,YU⟩:=g1.pre;obtain⟨cj,e0,q⟩:=o1.ex q;obtain⟨j,k,p,vs,rfl,hE,yf,rfl,h2,h3⟩:=VY.ownOf rx e0;refine⟨.inl ⟨rfl,vs,lA.of h2⟩,B,S1,E1,_,⟨τ++τ1,by rw[YU,hS,LW]⟩,VY,q,λrs E2 us H2 S2 q2 g2 XG rr hn=>?_⟩;have iq:S2[j]?=oZ (oZ (.ref p)):=fD g2.pre yf;simp only at q2;split at q2
  ·rename_i k2' xs tx;split at q2
   ·rename_i r;obtain⟨y,ws,rfl,k1,rfl⟩:=rr;obtain⟨i,e1,i0,hz,q3⟩:=q2.ex;obtain⟨t,ht,q3⟩:=o1.ex q3;have ey:=XG.int k1 e1;subst ey;obtain⟨p',ud,z1,z2,z3,_⟩:=XG.own j k2' xs tx;rw[iq]at z1;cases z1;have vl:=z3.length;obtain⟨g3,YO⟩:=XG.put (ys:=xs.eraseIdx i.toNat) (ws:=ud.eraseIdx i.toNat) tx iq (by rw[QJ,QJ];exact(z3.take _).append (z3.drop _));obtain⟨v,hv,rp⟩:=z3.get ht;have hil:=(KZ.mp ht).1;have sx:seqIndex? i ud.length=oZ i.toNat:=by
     unfold seqIndex?;have h0:¬i<0:=⋯
     have h1:i<(ud.length:Int):=⋯
     simp[h0,h1]
     try lia
    exact⟨p,ud,i,i.toNat,v,rfl,rfl,z2,⋯,⋯,sx,hv,lk _ _ _ _ _ q3 ((g1.trans g2).trans g3) YO (rp.step g3.kp)⟩
   ·exact q2.elim
  ·exact q2.elim
end
def tI(t:Nat):List (Nat×Bool)->Nat->En->En->Option En
 |[],_,_,E=>oZ E
 |(_,false)::r,j,YQ,E=>tI t r (j+1) YQ E
 |(k,true)::r,j,YQ,E=>match E[k]?,YQ[t+j]? with
  |some (oZ (.o b _)),oZ (oZ (.o true ys))=>if bM ys=true then tI t r (j+1) YQ (E.set k (oZ (.o b ys)))else none
  |_,_=>none
def Ie(t:Nat)(cap:List (Nat×Bool))(I:FI)(g:FG)(Fe:FE):FE:=λE Q=>I E λitems us E1=>cap.all (λk=>!(k.2&&us.contains k.1))=true/\
 kB g Fe items (pD t cap E1++[↥[]]) λYQ=>match YQ[t+cap.length]? with
  |some (↥zs)=>bM zs=true/\o1 (tI t cap 0 YQ E1) λE2=>Q (.s E2.length) (E2++[↥zs])
  |_=>False
abbrev Wr(t:Nat)(K:W.Frag)(g:FG):TG:=Gw true t none K g
theorem qW{YQ:En}{cap:List (Nat×Bool)}:∀{r:List (Nat×Bool)}{n:Nat}{E E2:En},(r.map (·.1)).Nodup->(∀j k c,r[j]?=oZ (k,c)->cap[n+j]?=oZ (k,c))->tI t r n YQ E=oZ E2->
  E2.length=E.length/\∀(i:Nat)(u:U),E2[i]?=oZ (oZ u)->(∃(j:Nat)(b:Bool)(ys cj:List T),r[j]?=oZ (i,true)/\E[i]?=oZ (oZ (.o b cj))/\YQ[t+(n+j)]?=oZ (oZ (.o true ys))/\bM ys=true/\u = .o b ys)\/(E[i]?=oZ (oZ u)/\∀(j:Nat)(b:Bool)(xs:List T),r[j]?=oZ (i,true)->E[i]?≠oZ (oZ (.o b xs)))
 |[],n,E,E2,_,_,h=>by cases h;exact⟨rfl,λi u h=>.inr ⟨h,λj b xs z=>by simp at z⟩⟩
 |(k,false)::r,n,E,E2,nd,hc,h=>by
  obtain⟨eL,eG⟩:=qW (cap:=cap) (r:=r) (n:=n+1) (NJ.mp nd).2 (λj k c q=>by have:=hc (j+1) k c (by simpa using q);rwa [show n+(j+1)=n+1+j by lia]at this) h;refine⟨eL,λi u hu=>?_⟩;obtain⟨j,b,ys,cj,q1,q2,q3,q4,q5⟩|⟨q1,q2⟩:=eG i u hu
  ·exact .inl ⟨j+1,b,ys,cj,by simpa using q1,q2,by rwa [show n+(j+1)=n+1+j by lia],q4,q5⟩
  ·refine .inr ⟨q1,λj b xs z=>?_⟩;cases j with
   |zero=>simp at z
   |succ j=>exact q2 j b xs (by simpa using z)
 |(k,true)::r,n,E,E2,nd,hc,h=>by
  rw[tI]at h;split at h
  ·rename_i b cj ys hE xr;split at h
   ·rename_i xt;obtain⟨eL,eG⟩:=qW (cap:=cap) (r:=r) (n:=n+1) (NJ.mp nd).2 (λj k c q=>by have:=hc (j+1) k c (by simpa using q);rwa [show n+(j+1)=n+1+j by lia]at this) h;have nk:∀j c,r[j]?≠oZ (k,c):=λj c z=>(NJ.mp nd).1 (NO.mpr ⟨(k,c),LD z,rfl⟩);have hk:k<E.length:=(KZ.mp hE).1;refine⟨by rw[eL,QL],λi u hu=>?_⟩
    by_cases c:i=k
    ·subst c;obtain⟨j,b',ys',kn,q1,_⟩|⟨q1,q2⟩:=eG i u hu
     ·exact absurd q1 (nk j true)
     ·rw[ME hk]at q1;cases q1;exact .inl ⟨0,b,ys,cj,rfl,hE,xr,xt,rfl⟩
    ·have ZH:(E.set k (oZ (.o b ys)))[i]?=E[i]?:=LX (λz=>c z.symm);obtain⟨j,b',ys',kn,q1,q2,q3,q4,q5⟩|⟨q1,q2⟩:=eG i u hu
     ·rw[ZH]at q2;exact .inl ⟨j+1,b',ys',kn,by simpa using q1,q2,by rwa [show n+(j+1)=n+1+j by lia],q4,q5⟩
     ·rw[ZH]at q1;refine .inr ⟨q1,λj b' xs z=>?_⟩;cases j with
      |zero=>simp at z;exact absurd z.symm c
      |succ j=>have:=q2 j b' xs (by simpa using z);rwa [ZH]at this
   ·cases h
  ·cases h
theorem Oo{X:Cx}{K:W.Frag}{Fe:FE}{g:FG}{I:FI}{scope:UI}{N':List Str}{cap:List (Nat×Bool)}{t:Nat}(S:bL X N' scope t (cap.map (·.1)))(fx:(cap.map (·.1)).Nodup){σ:St}{H:Hp}{Q:VK}(hl:σ.length=X.N.length)(h:aH K (Ie t cap I g Fe) σ H Q):zN t (cap.map (·.1)) (k6 K I) (Wr t K g) (j0 none K Fe) σ H Q:=by
 unfold Ie at h;simp only[<-Aj]at h;exact Hc (yU (W:=tI t cap 0) (FC:=λzs p=>bM zs=true/\p) (rr:=.l) (Qv:=Q) (d:=none) S (.inr ⟨rfl,rfl⟩) fx (λ_ _ _ z=>(qW fx (λj k c h=>by simpa using h) z).imp id λeG i u h=>by simpa using eG i u h) (λ_ _ z=>z.2) hl (λ_ _ _ z=>by cases z) (λzs D ws H1 H2 p hc hD h2 _ hn=>⟨_,⟨D,ws,rfl,hD,h2,hn hc.1⟩,id⟩) ⟨(λ_ z=>by cases z),h⟩)
theorem Ss{X:Cx}{K:W.Frag}{pos:Pos}{t i:Nat}{x:Str}(hN:X.N.Nodup)(hi:X.N[i]?=oZ x)(hx:xR X.env.scope x)(hf:X.fn x=true\/X.env.scope.names.lookup x=oZ .local:=by first|exact .inl rfl|exact .inr rfl|assumption)(ht:i<t:=by decide):QG X (.Name x pos) (Wr t K (pO i)):=
 (rS hN hi hx hf).le λv σ H Q hl zZ=>by
  obtain⟨_,B,τ,E,u,Q',re,rp,hF,l⟩:=zZ;have XO:i<σ.length:=by rw[hl];exact(KZ.mp hi).1
  obtain⟨r1,ow⟩:=re.setP (i:=i) rp;rw[List.set_append_left _ _ XO]at r1 ow;exact l _ _ _ hF (Kp.less ow) r1 (by simp) (λ_ z=>by cases z) λ_ j hj=>LX ⋯
section
variable{X:Cx}{K:W.Frag}{pos:Pos}{a b e o:oC}{Fa Fb Fo:FE}{Fr:FA}
def IS(K:W.Frag)(ng:Bool):R2:=λx y H Q=>∃t xs p vs,Rq K H t x/\y = .ref p/\Dh K H p vs/\xT K H xs vs/\K3 xs<=50/\Q (.bl (if ng then !(Yj t xs)else Yj t xs)) H
theorem W4(hr:cV k X.A):kR X (TL .In) (IS X.K false):=by
 intro pins s σ H x y v u Q I rx ry h;obtain⟨t,xs,p,vs,ht,rfl,hq,hxs,hd,q⟩:=h;cases ry;obtain⟨VL,r,pl,hz⟩:=I.tuple hq;obtain⟨e,q1,q2⟩:=Zp hr I ht rx hxs r hd;refine SeqAt.in_tupleAt e pl (λw hw=>q2 w (by simpa using hw)) ⟨.bl _,H,I,rfl,?_⟩;rw[show VL.toArray.any e=VL.any e by simp,q1];exact q
def HQ(ng:Bool)(Fa Fb:FE):FE:=λE Q=>Fa E λx E1=>Fb E1 λy E2=>t2 (vl E2 x) (vl E2 y) λt u=>match u with
 |.tup xs=>K3 xs<=50/\Q (.p (.bl (if ng then !(Yj t xs)else Yj t xs))) E2
 |_=>False
theorem T4(eK:X.K=K)(hr:cV k X.A)(ha:QE X a (aH K Fa))(hb:QE X b (aH K Fb))(hm:TH .In b=false):QT X (.Compare a [.In] [b] pos) (eD K (xU (HQ false Fa Fb))):=by
 subst eK;refine Av (W4 hr) ha hb hm λσ H Q h=>two (Fa:=Fa) (Fb:=Fb) h λB S E x y v w H2 Q' hS re rx ry q lk=>?_;obtain⟨t,u,e1,e2,q⟩:=t2.ex q;split at q
 ·rename_i xs;obtain⟨p,vs,e3,sq,rs⟩:=re.vl ry e2;exact⟨t,xs,p,vs,(re.vl rx e1).rq,e3,sq,rs.rq,q.1,lk _ _ _ _ _ q.2 .refl re rfl⟩
 ·exact q.elim
end
theorem dH(a:sc.kind = .function:=by rfl)(b:sc.isCoroutine=false:=by rfl)(c:sc.isGenerator=false:=by rfl)(d:N.Nodup:=by decide +kernel)(e:N.take P.length=P:=by rfl)(f:∀x∈P,sc.names.lookup x=oZ .local\/sc.names.lookup x=oZ .cell:=by decide +kernel)(g:∀y∈sc.names,y.2≠.free:=by decide +kernel):aF N P sc:=⟨a,b,c,d,e,f,g⟩
theorem f1{X:Cx}{K:W.Frag}{Fa:FE}{e:oC}(a:QE X e (aH K Fa))(h:a7 e=false:=by rfl):QA X [e] (cK K (0+1) (i7 Fa Hv)):=fc a bQ h
theorem f2{X:Cx}{K:W.Frag}{Fa:FE}{Fb:FE}{e:oC}{e':oC}(a:QE X e (aH K Fa))(b:QE X e' (aH K Fb))(h:a7 e=false:=by rfl)(h':a7 e'=false:=by rfl):QA X [e,e'] (cK K (0+1+1) (i7 Fa (i7 Fb Hv))):=fc a (f1 b h') h
theorem f3{X:Cx}{K:W.Frag}{Fa:FE}{Fb:FE}{Fc:FE}{e:oC}{e':oC}{e1:oC}(a:QE X e (aH K Fa))(b:QE X e' (aH K Fb))(c:QE X e1 (aH K Fc))(h:a7 e=false:=by rfl)(h':a7 e'=false:=by rfl)(h1:a7 e1=false:=by rfl):QA X [e,e',e1] (cK K (0+1+1+1) (i7 Fa (i7 Fb (i7 Fc Hv)))):=fc a (f2 b c h' h1) h
theorem f4{X:Cx}{K:W.Frag}{Fa:FE}{Fb:FE}{Fc:FE}{Fd:FE}{e:oC}{e':oC}{e1:oC}{e2:oC}(a:QE X e (aH K Fa))(b:QE X e' (aH K Fb))(c:QE X e1 (aH K Fc))(d:QE X e2 (aH K Fd))(h:a7 e=false:=by rfl)(h':a7 e'=false:=by rfl)(h1:a7 e1=false:=by rfl)(h2:a7 e2=false:=by rfl):QA X [e,e',e1,e2] (cK K (0+1+1+1+1) (i7 Fa (i7 Fb (i7 Fc (i7 Fd Hv))))):=fc a (f3 b c d h' h1 h2) h
theorem fX{X:Cx}{K:W.Frag}{pos:Pos}{Fa:FE}{Fb:FE}{e:oC}{e':oC}(a:QE X e (aH K Fa))(b:QE X e' (aH K Fb))(eK:X.K=K:=by rfl)(hs:uJ e':=by exactλ_ _=>rfl):QE X (.Subscript e e' pos) (aH K (HR Fa Fb)):=K5 eK a b hs
theorem fQ{X:Cx}{K:W.Frag}{pos:Pos}(i:Nat){x:Str}{n:Int}{j p p'}(hN:X.N[i]?=oZ x:=by rfl)(hv:K0 X.env.scope x:=by first|exact MS rfl|exact NC (MS rfl)|exact NC (NC rfl))(hd:(x==("__debug__":Str))=false:=by decide)(bh:(x==("__classdict__":Str))=false:=by decide)(eK:X.K=K:=by rfl):QE X (.Subscript (.Name x p) (.Constant (.int n) j p') pos) (aH K (HR (Oz i) (fC (.int n)))):=K5 eK (fv i hN hv hd bh) aA λ_ _=>rfl
theorem fK{X:Cx}{K:W.Frag}{pos:Pos}{e:oC}{es:List oC}{n k j:Nat}{x:Str}{ps:List Str}{S:dG}{Fr:FA}{p:Pos}(F:Fn X.prog X.w X.K X.mg X.base k x ps (aI K S))(ha:QA X (e::es) (cK K n Fr))(hr:cV j X.A:=by assumption)(hk:k<=j:=by decide)(hg:Gl X x:=by rfl)(YN:(x==("__debug__":Str))=false:=by decide)(hs:bN (e::es)=true:=by rfl):QE X (.Call (.Name x p) (e::es) [] pos) (aH K (Ee S Fr)):=uN F hr hk hg ha YN hs
theorem fB{X:Cx}{K:W.Frag}{pos:Pos}{e:oC}{es:List oC}{n k j:Nat}{x:Str}{ps:List Str}{S:dG}{Fr:FA}{p:Pos}(F:Fn X.prog X.w X.K X.mg X.base k x ps (aI K S))(ha:QA X (e::es) (cK K n Fr))(hr:cV j X.A:=by assumption)(hk:k<=j:=by decide)(hg:Gl X x:=by rfl)(YN:(x==("__debug__":Str))=false:=by decide)(hs:bN (e::es)=true:=by rfl):QE X (.Call (.Name x p) (e::es) [] pos) (aH K (Si S Fr)):=d6 F hr hk hg ha YN hs
theorem fS{X:Cx}{K:W.Frag}{pos:Pos}{Fa:FE}{e:oC}(i:Nat){x:Str}{pos':Pos}(hN:X.N.Nodup)(he:QE X e (aH K Fa))(hi:X.N[i]?=oZ x:=by rfl)(hx:xR X.env.scope x:=by first|exact .inl rfl|exact .inr rfl)(hs:TV e (oZ (.Name x pos')) pos.line X.env=pure false:=by rfl)(hf:X.fn x=true\/X.env.scope.names.lookup x=oZ .local:=by first|exact .inl rfl|exact .inr rfl):QS X (.Assign [.Name x pos'] e pos) (gP K (Vz i Fa)):=Il hN hi hx he hs hf
theorem fG{X:Cx}{K:W.Frag}{pos:Pos}(i:Nat){x:Str}(hN:X.N.Nodup)(hi:X.N[i]?=oZ x:=by rfl)(hx:xR X.env.scope x:=by first|exact .inl rfl|exact .inr rfl)(hf:X.fn x=true\/X.env.scope.names.lookup x=oZ .local:=by first|exact .inl rfl|exact .inr rfl):QG X (.Name x pos) (tH K (pO i)):=kC hN hi hx hf
theorem fH{X:Cx}{K:W.Frag}{pos:Pos}(i:Nat){x:Str}{N':List Str}{scope C s3 H3 fp}(hN:N'.Nodup:=by decide +kernel)(hi:N'[i]?=oZ x:=by rfl)(hx:xR (aX X N' scope C s3 H3 fp).env.scope x:=by first|exact .inl rfl|exact .inr rfl)(hf:(aX X N' scope C s3 H3 fp).fn x=true\/(aX X N' scope C s3 H3 fp).env.scope.names.lookup x=oZ .local:=by first|exact .inl rfl|exact .inr rfl):QG (aX X N' scope C s3 H3 fp) (.Name x pos) (tH K (pO i)):=kC hN hi hx hf
theorem fP{X:Cx}{K:W.Frag}{pos:Pos}{Fa:FE}{Fb:FE}{e:oC}{e':oC}{op:CmpOp}{g:Int->Int->Bool}(ho:kR X (TL op) (Hq λi j=>.bl (g i j)))(ha:QE X e (aH K Fa))(hb:QE X e' (aH K Fb))(hm:TH op e'=false:=by exact aV _):QT X (.Compare e [op] [e'] pos) (eD K (xU (HP g Fa Fb))):=K6 ho ha hb hm
theorem cI.okU{P:SR}{w:SX}{K:W.Frag}{mg:Str->Option oA}{base:oE}{x qual:Str}{st:SV}{f:SN}{fd:TK}{N ps:List Str}{k:Nat}{S:dG}{F:FS}(Fn:cI K x qual st f fd)(Sc:aF N ps (aC st))
  (hb:∀{WR:oA}{A:oD}{outer:List Env}{s:oB}{H:Hp}{E:XK},cV k (A.deeper (UK qual (aC st) s.heap.objs.size f WR))->QB (vO cJ P w K mg base N qual (aC st) f WR A outer s H E).nox (cQ st) (gP K F))
  (hF:∀as Q,S as Q->F (BU as Q) (j7 as++LF (N.length-as.length) none)) (len:∀as Q,S as Q->as.length=ps.length:=by intro as Q h;(repeat obtain⟨_,h⟩:=h);all_goals (subst as;rfl)):(~~~aS) cJ (k+1) f fd ps (aI K S):=Fn.okT Sc len (λ_ _ _ _ _ _ h=>hb h) hF
theorem mZ{prog:SR}{w:SX}{A:oD}{R:Result->oB->Prop}{s:oB}{kx vx target iter:oC}{ifs:List oC}{scope:UI}{pos:Pos}{it:oA}{D:SN}{env:Env}(I:Nat->oB->Prop)
  (turn:∀n s,I n s->SQ (SU prog w) A (pyNext it) (λr s₁=>match r with
   |none=>R (.ok .next) s₁
   |some v=>SQ (SU prog w) A (UG target it v) (λ_ s₂=>SQ (SU prog w) A (UN target env v) (λ_ s₃=>SQ (SU prog w) A (forIn ifs true λc r=>if r=true then do let ok <-isTrue c env (TF c env);pure (ForInStep.yield ok)else pure (ForInStep.yield r)) (λok s₃'=>if ok=true then SQ (SU prog w) A (TF kx env) (λx s₄=>SQ (SU prog w) A (TF vx env) (λy s₅=>
     SQ (SU prog w) A (dictSet D x y) (λ_ s₆=>∃m,m<n/\I m s₆) (λ_ _=>False) s₅) (λ_ _=>False) s₄) (λ_ _=>False) s₃' else ∃m,m<n/\I m s₃') (λ_ _=>False) s₃) (λ_ _=>False) s₂) (λ_ _=>False) s₁) (λ_ _=>False) s)
  (n:Nat) (h:I n s):VE (SU prog w) A (.compLoop (.DictComp kx vx [⟨target,iter,ifs,0⟩] scope pos) 0 it (.ref D) env) R s:=by
 refine codeAny_loop rfl I (λn s hI=>?_) n h;show SQ _ A ((compTurn (.DictComp kx vx [⟨target,iter,ifs,0⟩] scope pos) 0 it (.ref D) env).onRaise (λx=>do noteFrame x env;theTreesLotGoes x)) _ _ s;refine wpAny_noted ?_;rw[compTurn_dict];refine SO (UE (SO (TM (turn n s hI) (λr s₁ h₁=>?_) λ_ _ h'=>h'.elim)));cases r with
 |none=>exact TB h₁
 |some v=>
  refine SO (TM h₁ (λ_ s₂ h₂=>SO (TM h₂ (λ_ s₃ h₃=>SO (TM h₃ (λok s₃' h₃'=>?_) λ_ _ h'=>h'.elim)) λ_ _ h'=>h'.elim)) λ_ _ h'=>h'.elim);cases ok with
  |false=>exact TB ⟨rfl,h₃'⟩
  |true=>
   exact SO (SO (TM h₃' (λkv s₄ h₄=>SO (UO (TM h₄ (λvv s₅ h₅=>SO (UE (UO (TM h₅ (λ_ s₆ h₆=>TB ⟨rfl,h₆⟩) λ_ _ h'=>h'.elim)))) λ_ _ h'=>h'.elim))) λ_ _ h'=>h'.elim))
theorem Ot{X:Cx}{pins:List (SN×Obj)}{σ:St}{H:Hp}{s:oB}{a:SN}{v:V}{u:oA}{r:oA}{A:oD}{E:oA->oB->Prop}{VN:List (Key×V)}{k:Key}{Q:Unit->oB->Prop}(l:VN.length<SY)(I:aT X pins σ H s)(e:H a=oZ (.dK VN))(ry:bC (kV k) u)(rv:bC v r)(h:∀s',aT X pins σ (upd H a (.dK (sN VN k v))) s'->Q () s'):
  SQ (SU X.prog X.w) A (dictSet a u r) Q E s:=by
 obtain⟨z,hd,vs,rel,dd⟩:=BS I.hok e;have hz:vs.length<=SY:=by rw[<-rel.length];exact z
 have hl:(sN VN k v).length<=SY:=by have:=tP VN k v;lia
 refine wpAny_dictSet_pairs (hsz:=hz) (Er ry) dd λh' dd' hs=>h _ ?_;have he:∃q,h'.get? a=oZ q:=let⟨q,_,_,hq,_⟩:=dd';⟨q,hq⟩;exact Yv I (by rw[e];exact True.intro) hs he (Q9 hl hd (rel.put k rv) dd')
def Q3(J:It)(D:SN)(g:TG)(tb:TT)(tk tv:TE)(Q:VK)(σ:St)(H:Hp):Prop:=∃W:Nat->Nat->St->Hp->Prop,(∃m,W 0 m σ H)/\∀i m σ' H',W i m σ' H'->
 (J.stop i H'/\Q (.ref D) H')\/(J.go i H'/\∀x H2,J.yld i H' x H2->g x σ' H2 λσ3 H3=>tb σ3 H3 λok xa=>if ok=true then tk σ3 xa λy H4=>tv σ3 H4 λz H5=>∃k VN,y=kV k/\H5 D=oZ (.dK VN)/\VN.length<SY/\∃m',m'<m/\W (i+1) m' σ3 (upd H5 D (.dK (sN VN k z)))else ∃m',m'<m/\W (i+1) m' σ3 xa)
def Ki(t:Nat)(cap:List Nat)(wi:TI)(g:TG)(tb:TT)(tk tv:TE):TE:=λσ H Q=>wi σ H λJ H1=>∀D,H1 D=none->Q3 J D g tb tk tv Q (gN t cap σ) (upd H1 D (.dK []))
theorem Ic{QQ:oA->oB->Prop}(hc:X.calm=true)(S:bL X N' scope t cap)(hi:PI X target iter wi)(hg:∀C s3 H3 fp,PG (aX X N' scope C s3 H3 fp) target g)(hb:∀C s3 H3 fp,J9 (aX X N' scope C s3 H3 fp) ifs tb)(he:∀C s3 H3 fp,PE (aX X N' scope C s3 H3 fp) kx tk)(hv:∀C s3 H3 fp,PE (aX X N' scope C s3 H3 fp) vx tv)(hs:∀x,TC iter X.env x=pure x)(I:aT X pins σ H s)(h:Ki t cap wi g tb tk tv σ H Q)(fin:∀(s3 s6:oB)(H3 H5:Hp)(fp:List SN)(D:SN)(m:Str->Option oA),aT X pins σ H3 s3->(∀b∈fp,(b∈X.ex\/X.s₀.heap.objs.size<=b)/\b≠X.env.locals/\(∀x c,X.env.cells.lookup x=oZ c->c≠b)/\∀p∈X.pn++pins,p.1≠b)->s6.heap.Ns s3.heap.objs.size m->Un (El X.stack) fp H3 H5 s3.heap s6.heap->oT X.prog X.w H5 s6.heap->H5 s3.heap.objs.size=none->s6.os=s3.os->UP s6.gens->Q (.ref D) H5->compPost (SU X.prog X.w) X.A X.xe use QQ (.ref D) s3.heap.objs.size (.ok .next) s6):
  SQ (SU X.prog X.w) X.A (comprehension (.DictComp kx vx [⟨target,iter,ifs,0⟩] scope pos) scope X.env (firstIterPos [⟨target,iter,ifs,0⟩] pos) newDict (firstAsync [⟨target,iter,ifs,0⟩]) (firstIter [⟨target,iter,ifs,0⟩] X.env) use) QQ X.xe s:=by
 refine wpAny_comprehension_free (cl:=tX scope X.env) rfl hs (pK λy hy hf=>I.ok.has y.1 (S.free y hy hf)) S.kind S.names (cL (hi pins s σ H _ I h) λv s1 h1=>cL h1 λzd s2 h2=>?_);obtain⟨it,fp,tn,J,H2,e,I2,T,mw,f2,h2⟩:=h2;subst e;refine UD (wpAny_newFunctionEnv S.cell (by intro y hy;simp at hy) (λh₁ ja₁ xb₁=>?_) S.kind)
 dsimp only at ja₁ xb₁⊢
 obtain⟨s3,fq⟩:∃s3:oB,s3 = { s2 with heap:=s2.heap.push { cls:=.type "dict",dict:=none,data:=.dict #[] } }:=⟨_,rfl⟩;have hD:H2 s2.heap.objs.size=none:=I2.hok.fresh (LN _);have I3:aT X pins σ (upd H2 s2.heap.objs.size (.dK [])) s3:=by
  rw[fq];exact I2.laid (t':=s2.toks) (λb u e=>LI _ e) (LN _) (Rx s2.heap I2.big)
 have aA2:s3.heap.objs.size=s2.heap.objs.size+1:=by rw[fq];exact NH ..
 have ki:∀b o,s2.heap.get? b=oZ o->s3.heap.get? b=oZ o:=λb o e=>by rw[fq];exact LI _ e
 have hC:(s2.heap.push { cls:=.type "dict",dict:=none,data:=.dict #[] }).objs.size=s3.heap.objs.size:=by rw[fq]
 have f3:∀b∈fp,pC X pins (upd H2 s2.heap.objs.size (.dK [])) b:=λb hb=>by
  obtain⟨o,ho,_⟩:=T.obj _ _ mw b hb;refine⟨?_,(f2 b hb).2⟩;rw[bD (MA (LL ho))];exact(f2 b hb).1
 have xc:∀b∈fp,∃o,s3.heap.get? b=oZ o:=λb hb=>by
  obtain⟨o,ho,_⟩:=T.obj _ _ mw b hb;exact⟨o,ki b o ho⟩
 have k1:∀b o,s3.heap.get? b=oZ o->h₁.get? b=oZ o:=λb o e=>by
  refine xb₁.extBut b o ?_ ?_
  ·rw[hC];exact MA (LL e)
  ·rw[fq]at e;exact LI _ e
 have ja:h₁.Ns s3.heap.objs.size λ_=>none:=by
  rw[<-hC];exact ja₁
 have I4:=vN (tk:=s2.toks+([]:List (Str×oA)).length) S I3 f3 xc ja k1;have xf:tn 0 h₁:=T.keep _ _ _ mw λb hb o e=>k1 b o (ki b o e);obtain⟨W,⟨m0,w0⟩,turn⟩:=h2 _ hD
 -- the block's context
 obtain⟨X',XE⟩:∃X':Cx,X'=aX X N' scope s3.heap.objs.size s3 (upd H2 s2.heap.objs.size (.dK [])) fp:=⟨_,rfl⟩;have zm:PG X' target g:=by rw[XE];exact hg _ _ _ _
 have jy:PE X' kx tk:=by rw[XE];exact he _ _ _ _
 have zj:PE X' vx tv:=by rw[XE];exact hv _ _ _ _
 have hb':J9 X' ifs tb:=by rw[XE];exact hb _ _ _ _
 have ZJ:∀{H':Hp},(∀b∈fp,H' b=none)->∀b∈fp,pC X' [] H' b:=λhn b hb=>by
  obtain⟨o,ho⟩:=xc b hb;rw[XE];refine⟨hn b hb,MA (LL ho),?_,.inl hb,λx c e=>(f3 b hb).2.2.2.2.1 x c (vM e),λp hp=>absurd (show p∈([]:List (SN×Obj))from hp) (by simp)⟩;intro hz;obtain z|z:=LH.mp (I3.stkSub b hz)
  ·exact(f3 b hb).2.1 z
  ·exact(f3 b hb).2.2.1 z
 have ft:X'.calm=true:=by rw[XE];exact hc
 have loop:VE (SU X.prog X.w) X.A (.compLoop (.DictComp kx vx [⟨target,iter,ifs,0⟩] scope pos) 0 (.ref it) (.ref s2.heap.objs.size) (compEnvC scope (tX scope X.env) s3.heap.objs.size X.env))
   (compPost (SU X.prog X.w) X.A X.xe use QQ (.ref s2.heap.objs.size) s3.heap.objs.size) { s3 with heap:=h₁,toks:=s2.toks+([]:List (Str×oA)).length }:=by
  refine mZ (λn s'=>∃i σ' H',aT X' [] σ' H' s'/\tn i s'.heap/\(∀b∈fp,H' b=none)/\W i n σ' H') ?_ m0 ⟨0,gN t cap σ,_,by rw[XE];exact I4,xf,λb hb=>(f3 b hb).1,w0⟩;rintro n s5 ⟨i,σ5,H5,I5,jw,qt,w5⟩;obtain⟨stop,qn⟩|⟨go,step⟩:=turn i n σ5 H5 w5
  ·have q:=T.done X' (by rw[XE];rfl) (by rw[XE];rfl) (by rw[XE];rfl) ft i [] s5 σ5 H5 (λ_ _=>False) I5 (ZJ qt) jw stop;have eA:X'.A=X.A:=by rw[XE];rfl
   rw[eA]at q;refine cL q λr s6 zZ=>?_;obtain⟨hr,I6⟩:=zZ;subst hr;obtain⟨m,hn,_⟩:=I6.loc;have ke:s6.heap.Ns s3.heap.objs.size m:=by rw[XE]at hn;exact hn
   have ZZ:Un (El X.stack) fp (upd H2 s2.heap.objs.size (.dK [])) H5 s3.heap s6.heap:=by have:=I6.base;rw[XE]at this;exact this
   have bw:oT X.prog X.w H5 s6.heap:=by have:=I6.hok;rw[XE]at this;exact this
   have YE:H5 s3.heap.objs.size=none:=by have:=I6.free;rw[XE]at this;exact this
   have nh:s6.os=s3.os:=by have:=I6.os;rw[XE]at this;exact this
   exact fin _ _ _ _ _ _ _ I3 (λb hb=>⟨(f3 b hb).2.2.2.1,(f3 b hb).2.1,(f3 b hb).2.2.2.2.1,(f3 b hb).2.2.2.2.2⟩) ke ZZ bw YE nh I6.bare qn
  ·have q:=T.item X' (by rw[XE];rfl) (by rw[XE];rfl) (by rw[XE];rfl) ft i [] s5 σ5 H5 (λ_ _=>False) I5 (ZJ qt) jw go;have eA:X'.A=X.A:=by rw[XE];rfl
   have eP:X'.prog=X.prog:=by rw[XE];rfl
   have eW:X'.w=X.w:=by rw[XE];rfl
   have eE:X'.env=compEnvC scope (tX scope X.env) s3.heap.objs.size X.env:=by rw[XE];rfl
   have eX:X'.xe=λ_ _=>False:=by rw[XE];rfl
   rw[eA]at q;refine cL q λr s6 zZ=>?_;obtain⟨u,hr,h6⟩:=zZ;subst hr;refine cL h6 λ_ s7 zZ=>?_;obtain⟨x,H7,I7,r7,y7,km,fr7⟩:=zZ;have I7':=I7.pinned (ZJ fr7) (T.obj _ _ km);have q8:=zm _ s7 σ5 H7 x u _ I7' r7 (step x H7 y7);rw[eA,eP,eW,eE,eX]at q8;refine cL q8 λ_ s8 zZ=>?_;obtain⟨σ8,H8,I8,w8⟩:=zZ;have xg:=hb' _ s8 σ8 H8 _ I8 w8;rw[eA,eP,eW,eE,eX]at xg;refine cL xg λok s8 zZ=>?_;obtain⟨H8,I8,w8⟩:=zZ;cases ok with
   |false=>
    obtain⟨m',hm,w9⟩:=w8;refine⟨m',hm,i+1,σ8,_,I8.unpinned,T.keep _ _ _ km λb hb o e=>(I8.pin (b,o) (LQ _ (LQ _ (dB hb e)))).1,λb hb=>?_,w9⟩;obtain⟨o,e,d⟩:=T.obj _ _ km b hb;exact(I8.pin (b,o) (LQ _ (LQ _ (dB hb e)))).2.1
   |true=>
    have q9:=jy _ s8 σ8 H8 _ I8 w8;rw[eA,eP,eW,eE,eX]at q9;refine cL q9 λy s9 zZ=>?_;obtain⟨v9,H9,I9,r9,w9a⟩:=zZ;have q9b:=zj _ s9 σ8 H9 _ I9 w9a;rw[eA,eP,eW,eE,eX]at q9b;refine cL q9b λy2 s9 zZ=>?_;obtain⟨w9v,H9,I9,r9b,k,VN,ek,hD9,XO,m',hm,w9⟩:=zZ;subst ek;have xh:=Ot (X:=X') (A:=X.A) (E:=λ_ _=>False) (Q:=λ_ s10=>aT X' ([]++wI fp s7.heap) σ8 (upd H9 s2.heap.objs.size (.dK (sN VN k w9v))) s10) XO I9 hD9 r9 r9b λs' I'=>I';rw[eP,eW]at xh;refine cL xh λ_ s10 rf=>?_;refine⟨m',hm,i+1,σ8,_,rf.unpinned,T.keep _ _ _ km λb hb o e=>(rf.pin (b,o) (LQ _ (LQ _ (dB hb e)))).1,λb hb=>?_,w9⟩;obtain⟨o,e,d⟩:=T.obj _ _ km b hb;exact(rf.pin (b,o) (LQ _ (LQ _ (dB hb e)))).2.1
 have es:({ s2 with heap:=h₁,toks:=s2.toks+([]:List (Str×oA)).length }:oB) = { s3 with heap:=h₁,toks:=s2.toks+([]:List (Str×oA)).length }:=by rw[fq]
 rw[es,hC];exact codeAny_compStart_dict loop (T.self _ 0 _ _ _ xf loop)
theorem Uy(hc:X.calm=true)(S:bL X N' scope t cap)(hi:PI X target iter wi)(hg:∀C s3 H3 fp,PG (aX X N' scope C s3 H3 fp) target g)(hb:∀C s3 H3 fp,J9 (aX X N' scope C s3 H3 fp) ifs tb)(he:∀C s3 H3 fp,PE (aX X N' scope C s3 H3 fp) kx tk)(hv:∀C s3 H3 fp,PE (aX X N' scope C s3 H3 fp) vx tv)(hs:∀x,TC iter X.env x=pure x:=by intro _;rfl):
  PE X (.DictComp kx vx [⟨target,iter,ifs,0⟩] scope pos) (Ki t cap wi g tb tk tv):=by
 intro pins s σ H Q I h;rw[arm_eval_DictComp];refine Ic hc S hi hg hb he hv hs I h λs3 s6 H3 H5 fp D m I3 f3 ke ZZ bw YE nh ba qn=>⟨m,ke,λh' qh=>?_⟩;have kp:∀b o,b≠s3.heap.objs.size->s6.heap.get? b=oZ o->h'.get? b=oZ o:=λb o hb e=>qh.extBut b o hb e;have ju:∀{b:SN}{o:Obj},s3.heap.get? b=oZ o->b≠s3.heap.objs.size:=λe=>MA (LL e);have un7:Un (El X.stack) fp (H3) H5 s3.heap h':=
  ⟨λb o e n1 n2 n3=>kp b o (ju e) (ZZ.keep b o e n1 n2 n3),λb o e n1 n2 n3=>by obtain⟨sl,z⟩:=ZZ.slot b o e n1 n2 n3;exact⟨sl,kp b _ (ju e) z⟩,ZZ.free,
   λb o e n3=>by obtain⟨o',z⟩:=ZZ.there b o e n3;exact⟨o',kp b _ (ju e) z⟩,ZZ.tups,ZZ.frzs,ZZ.tbls⟩
 have rg:oT X.prog X.w H5 h':=λb ob e=>by
  refine(bw b ob e).stay (λc w' fi q=>kp c w' ?_ q) (λ_ q=>q) λ_ _ q=>q;rintro rfl;obtain rfl|fi:=fi
  ·rw[YE]at e;cases e
  ·rw[YE]at fi;cases fi
 exact⟨.ref D,H5,I3.call' (s':={ s6 with heap:=h' }) (ch:=fp) nh un7 rg ba f3,rfl,qn⟩
abbrev di(i:Nat)(VN:List (Key×V)):DD:=oZ (i,VN)
theorem dO(h:Di i VN σ H):lC (di i VN) σ H:=λx e=>by cases e;exact h
theorem Di.gr{K:W.Frag}{B:SN->Prop}{H:Hp}{H':Hp}{σ:St}{S:St}{S':St}{E:En}{E':En}{i:Nat}{VN:List (Key×V)}(d:Di i VN σ H)(re:RE K B H S E)(g:Gr B H S E H' S' E'):Di i VN σ H':=by
 obtain⟨p,h1,h2⟩:=d;exact⟨p,h1,g.kp.keep p _ h2 λz=>by obtain⟨vs,e⟩:=re.ow z;rw[h2]at e;cases e⟩
theorem Wq{K:W.Frag}{H:Hp}{σ:St}{i:Nat}{VN:List (Key×V)}{Fa:FE}{Q P:VK}(d:Di i VN σ H)(h:aH K Fa σ H Q)(k:∀v Hx,Di i VN σ Hx->Q v Hx->P v Hx):aH K Fa σ H P:=by
 obtain⟨B,S,E,Q',hS,re,hF,lk⟩:=h;exact⟨B,S,E,Q',hS,re,hF,λr E' v H' S' q g VV rr=>k _ _ (d.gr re g) (lk r E' v H' S' q g VV rr)⟩
section
variable{X:Cx}{K:W.Frag}{pos:Pos}{c e o:oC}{es:List oC}{b1 b2:List SV}{Fa Fo:FE}{Fp:FB}{Fr:FA}{F G:FS}{i n:Nat}{VN:List (Key×V)}
theorem bd(h:QT X e (eD K Fp)):QT X e (tT (di i VN) K Fp):=h.le λ_ _ _ z=>z.2
def CA(VN:List (Key×V))(Fa:FE):FE:=λE Q=>Fa E λr E1=>i1 (vl E1 r) λn=>∃z,iA VN (Sum.inl n)=oZ (.str z)/\Q (.p (.str z)) E1
theorem Sn(hr:cV k X.A)(hiy:X.N[i]?=oZ y)(hvy:K0 X.env.scope y)(he:QE X e (aH K Fa))(hsl:Rl e)(hd:(y==("__debug__":Str))=false:=by decide)(bh:(y==("__classdict__":Str))=false:=by decide):
  QE X (.Subscript (.Name y p1) e pos) (j0 (di i VN) K (CA VN Fa)):=by
 refine QE.le (t:=N2 (yD i) (aH K Fa)) ⟨C5 (K9 hr) (sL hiy hvy hd bh) he.h hsl⟩ λσ H Q hl zZ=>?_;obtain⟨d',B,S,E,Q',hS,re,hF,lk⟩:=zZ;have d:=d' _ rfl;obtain⟨p,d1,d2⟩:=id d;refine⟨.ref p,d1,B,S,E,_,hS,re,hF,λr E1 v H1 S1 q g VY rr=>?_⟩;obtain⟨n,e1,z,e2,q⟩:=i1.ex q;obtain⟨p',d3,d4⟩:=d.gr re g;rw[d1]at d3;cases d3;have ev:v = .int n:=VY.int rr e1;subst ev;have dg:=zX.k (k:=Sum.inl n) d4;rw[e2]at dg;exact⟨p,.str z,rfl,dg,lk _ _ _ _ _ q g VY rfl⟩
def HG(VN:List (Key×V))(Fa:FE):FB:=λE Q=>Fa E λr E1=>i1 (vl E1 r) λn=>Q (iA VN (Sum.inl n)).isSome E1
theorem T3(hr:cV k X.A)(hiy:X.N[i]?=oZ y)(hvy:K0 X.env.scope y)(he:QE X e (aH K Fa))(hd:(y==("__debug__":Str))=false:=by decide)(bh:(y==("__classdict__":Str))=false:=by decide)(h1:TH .In (.Name y p1)=false:=by first|exact nobehind _ ∅ ∅|rfl):QT X (.Compare e [.In] [.Name y p1] pos) (tT (di i VN) K (HG VN Fa)):=by
 refine QT.le (t:=tB (EO (aH K Fa) (yD i))) ⟨Y7 (X0 (K9 hr) he.h (sL hiy hvy hd bh)) h1⟩ λσ H Q zZ=>?_;obtain⟨d',B,S,E,Q',hS,re,hF,lk⟩:=zZ;have d:=d' _ rfl;refine⟨B,S,E,_,hS,re,hF,λr E1 v H1 S1 q g VY rr=>?_⟩;obtain⟨n,e1,q⟩:=i1.ex q;obtain⟨p,d1,d2⟩:=d.gr re g;have ev:v = .int n:=VY.int rr e1;subst ev;exact⟨.ref p,d1,p,_,rfl,zX.k (k:=Sum.inl n) d2,_,rfl,lk _ _ _ _ q g VY⟩
theorem Ih(eK:X.K=K)(ho:QE X o (aH K Fo))(ha:QA X [e] (Gv (di i VN) K n Fr))(WK:TQ o "append" X.env (TF o X.env)=TF o X.env:=by rfl)(WL:(ap.endLine==pos.line)=true:=by rfl)(hs:a7 e=false:=by rfl):
  QE X (.Call (.Attribute o "append" ap) [e] [] pos) (j0 (di i VN) K (Am BL Fo Fr)):=by
 subst eK;refine(zI ho ha WK WL hs).le λσ H Q hl zZ=>?_;obtain⟨d',h⟩:=zZ;have d:=d' _ rfl;have m:AM X.K "list" Cb (aH X.K Fo) (cK X.K n Fr) σ H Q:=Tw rfl h λB S E H2 xs ys rr y p vs Q re rx e hp hv hz k=>by
  cases rr with
  |s _=>cases e
  |p t=>
   cases e;refine⟨p,vs,y,rfl,rfl,hp,?_,k _ (hv.append ⟨y,[],rfl,rx,rfl⟩)⟩;rw[hv.length];simp only[LG,MD]at hz;exact cB ⋯
 exact Wq d m λv H' d' z=>⟨z.1,dO d',z.2⟩
theorem Rz(he:QE X e (j0 (di i VN) K Fa))(hs:TV e none pos.line X.env=pure false:=by rfl):QS X (.Expr e pos) (iT i VN K (Vy Fa)):=
 (Ca he hs).le λD σ H hl zZ=>by obtain⟨dt,B,E,DT,re,hF,l⟩:=zZ;exact⟨dO dt,vC (P:=λ_ _ E'=>DT.nx E') re hF λr E' v H' S' q g VV rr XG ow=>l.nx _ _ _ q (g.kp.trans (Kp.less ow)) XG (dt.keep re g.kp.keep rfl)⟩
theorem K4(hc:QT X c (tT (di i VN) K Fp))(ha:QB X b1 (iT i VN K F))(hb:QB X b2 (iT i VN K G)):QS X (.If c b1 b2 pos) (iT i VN K (JK Fp F G)):=
 (M0 hc ha hb).le λD σ H hl⟨dt,B,E,DT,re,hF,l⟩=>⟨dO dt,z9 (P:=λb E'=>if b=true then Ho E' (F DT)else Ho E' (G DT)) re hF λb H' E' q g VV=>by
  have dt':=dt.keep re g.keep rfl;cases b
  ·exact⟨dt',B,E',DT,VV,jS q,l.step g⟩
  ·exact⟨dt',B,E',DT,VV,jS q,l.step g⟩⟩
theorem Rw:QB X [] (iT i VN K M4):=Vg.le λD σ H zZ=>by obtain⟨dt,B,E,DT,re,hF,l⟩:=zZ;exact l.nx _ _ _ hF (Kp.refl _ _) re dt
end
abbrev BI:=List A->(List (Key×V)->Prop)->Prop
def Mq(K:W.Frag)(S:BI):Sp:=λvs H Q _=>∃(as:List A)(Q':List (Key×V)->Prop),RE K (λa=>(none:Option SN)=oZ a) H (vs.map oZ) (j7 as)/\jL as=none/\S as Q'/\
 ∀VN a H',Q' VN->(∀b o,H b=oZ o->H' b=oZ o)->H' a=oZ (.dK VN)->Q (.ref a) H'
def IK(x:Int×Str):T:=.tup [.int x.1,.str x.2]
def Yg(c:Str):List (Int×Str)->List (Key×V)->List (Key×V)
 |[],acc=>acc
 |x::r,acc=>Yg c r (if x.2=c then acc else sN acc (Sum.inl x.1) (.str x.2))
theorem vQ{x:Int×Str}:∀{xs:List (Int×Str)}{acc:List (Key×V)},Yg c (xs++[x]) acc=if x.2=c then Yg c xs acc else sN (Yg c xs acc) (Sum.inl x.1) (.str x.2)
 |[],acc=>rfl
 |y::xs,acc=>vQ (xs:=xs)
theorem Kv:∀{xs:List (Int×Str)}{acc:List (Key×V)},(Yg c xs acc).length<=acc.length+xs.length
 |[],_=>LN _
 |x::xs,acc=>by
  have ih:=Kv (c:=c) (xs:=xs) (acc:=if x.2=c then acc else sN acc (Sum.inl x.1) (.str x.2));have:=tP acc (Sum.inl x.1:Key) (.str x.2);unfold Yg;rw[LO];split at ih<;>(rename_i h;first|rw[oV h]|rw[oW h])<;>lia
section
variable{X:Cx}{K:W.Frag}{pos:Pos}{Fa:FE}
def JN(K:W.Frag)(c:Str)(Fa:FE):TE:=λσ H Q=>∃B S E Q',(∃τ,S=σ++τ)/\RE K B H S E/\Fa E Q'/\∀r E1 v H1 S1,Q' r E1->Gr B H S E H1 S1 E1->RE K B H1 S1 E1->RR K B H1 S1 E1 r v->
 ∃items,vl E1 r=oZ (.lst (items.map IK))/\items.length<=1000/\∀a,H1 a=none->Q (.ref a) (upd H1 a (.dK (Yg c items [])))
theorem DN{x1 c1 p1 p2 pt p3 p4 p5 p6 pcm}(eK:X.K=K)(hc:X.calm=true)(hr:∀C s3 H3 fp,cV k (aX X [x,y] scope C s3 H3 fp).A)(hi:QE X iter (aH K Fa))(S:bL X [x,y] scope 2 [])(hg:∀C s3 H3 fp,Rf (aX X [x,y] scope C s3 H3 fp) [.Name x p1,.Name y p2] (y8 (nA 0) (y8 (nA 1) Zk)))(hg1:∀C s3 H3 fp,(TN [.Name x p1,.Name y p2] (aX X [x,y] scope C s3 H3 fp).env).length=2:=by intros;rfl)(hg2:∀C s3 H3 fp,(TN [.Name x p1,.Name y p2] (aX X [x,y] scope C s3 H3 fp).env).findIdx? (·.1)=none:=by intros;rfl)(h1:∀C s3 H3 fp,QE (aX X [x,y] scope C s3 H3 fp) (.Name x p3) (yD 0))(h2:∀C s3 H3 fp,QE (aX X [x,y] scope C s3 H3 fp) (.Name y p4) (yD 1))(h3:∀C s3 H3 fp,QE (aX X [x,y] scope C s3 H3 fp) (.Name y p5) (yD 1))(hs:∀z,TC iter X.env z=pure z:=by intro _;rfl)(hm:TH .NotEq (.Constant (.str c) c1 p6)=false:=by rfl):
  QE X (.DictComp (.Name x p3) (.Name y p4) [⟨.Tuple [.Name x p1,.Name y p2] x1 pt,iter,[.Compare (.Name y p5) [.NotEq] [.Constant (.str c) c1 p6] pcm],0⟩] scope pos) (JN K c Fa):=by
 subst eK;refine QE.le (t:=Ki 2 [] (Tg X.K (aH X.K Fa)) (T7 X.K 2 (y8 (nA 0) (y8 (nA 1) Zk))) (Nl (Xd (AH X.K true) (yD 1) (tC (.str c)))) (yD 0) (yD 1))
  ⟨Uy hc S (Ma hi.h) (λC s3 H3 fp=>(Vl (X:=aX X [x,y] scope C s3 H3 fp) (k:=x1) hc (hg C s3 H3 fp) (hg1 C s3 H3 fp) (hg2 C s3 H3 fp)).h) (λC s3 H3 fp=>PT.one (Mb (Jo (hr C s3 H3 fp)) (h3 C s3 H3 fp).h Vb hm)) (λC s3 H3 fp=>(h1 C s3 H3 fp).h) (λC s3 H3 fp=>(h2 C s3 H3 fp).h) hs⟩ λσ H Q hl⟨B,S,E,Q',hS,re,hF,lk⟩=>?_
 refine⟨B,S,E,_,hS,re,hF,λr E1 v H1 S1 q g VY rr=>?_⟩;obtain⟨items,e1,hl,q⟩:=lk r E1 v H1 S1 q g VY rr;obtain⟨a,vs,rfl,sq,rs⟩:=VY.vl rr e1;refine⟨a,rfl,⟨vs,sq⟩,λD hD=>?_⟩;have nd:∀{b:SN}{u:HO}{z},H1 b=oZ u->(upd H1 D z) b=oZ u:=λe=>by rw[bD (a8 e hD)];exact e
 have sqL:∀z,lA X.K (upd H1 D z) a vs:=λz=>sq.imp (λh=>h.imp nd λzZ=>by obtain⟨o,h⟩:=zZ;exact⟨o,nd h⟩) id;refine⟨λi m σ' H'=>m=items.length-i/\i<=items.length/\σ'.length=2/\H'=upd H1 D (.dK (Yg c (items.take i) [])),⟨_,rfl,LV _,rfl,rfl⟩,?_⟩;rintro i m σ' H' ⟨rfl,cf,hσ,rfl⟩;obtain lt|ge:=MN i items.length
 ·have lv:vs.length=items.length:=by rw[rs.length,LJ]
  refine .inr ⟨⟨vs,vs[i],sqL _,LA _⟩,?_⟩;rintro w H2 ⟨rfl,hw⟩;obtain⟨v',q1,q2⟩:=rs.get (i:=i) (x:=IK items[i]) (by rw[LB,LA lt];rfl);rw[hw vs (sqL _)]at q1;cases q1;obtain⟨b,us,rfl,ug,⟨_,_,e3,a1,_,_,e4,a2,a3⟩⟩:=q2.sqT;cases a3;cases a2;cases a1;subst e4;subst e3;have sqT:∀z,Dh X.K (upd H1 D z) b [.int items[i].1,.str items[i].2]:=λz=>ug.imp (λh=>h.imp nd λzZ=>by obtain⟨o,h⟩:=zZ;exact⟨o,nd h⟩) id;refine⟨b,_,rfl,sqT _,rfl,_,_,rfl,_,_,rfl,rfl,?_⟩;have g0:((σ'.set 0 (oZ (V.int items[i].1))).set 1 (oZ (V.str items[i].2)))[0]?=oZ (oZ (.int items[i].1)):=by rw[LX ∅];exact ME ⋯
  have g1:((σ'.set 0 (oZ (V.int items[i].1))).set 1 (oZ (V.str items[i].2)))[1]?=oZ (oZ (.str items[i].2)):=ME (by simp;lia);have snoc:items.take (i+1)=items.take i++[items[i]]:=by rw[OC,LA lt];rfl
  refine⟨_,g1,.str items[i].2,.str c,rfl,rfl,by simp[dT],_,rfl,?_⟩;have ee:cS (.str items[i].2) (.str c)=decide (items[i].2=c):=by
   show(items[i].2==c)=_;exact Bool.beq_eq_decide_eq _ _
  rw[oV rfl,ee]
  by_cases z:items[i].2=c
  ·rw[oY z];refine⟨items.length-(i+1),⋯,rfl,lt,by simpa using hσ,?_⟩;rw[snoc,vQ,oV z]
  ·rw[oX z];refine⟨_,g0,_,g1,Sum.inl items[i].1,_,rfl,dS,?_,items.length-(i+1),⋯,rfl,lt,by simpa using hσ,?_⟩
   ·have:=Kv (c:=c) (xs:=items.take i) (acc:=[]);rw[MQ]at this;simp only[MY]at this;exact cB ⋯
   ·rw[J7,snoc,vQ,oW z]
 ·refine .inl ⟨⟨vs,sqL _,by rw[rs.length,LJ];exact ge⟩,?_⟩;rw[OP ge];exact q D hD
end
theorem F5{K:W.Frag}{B:SN->Prop}{H:Hp}{S:St}{E:En}{rs:List R}{vs:List V}{ts:List T}(re:RE K B H S E)(rr:Nw K B H S E rs vs)(e:Yk E rs=oZ ts):RE K (λa=>(none:Option SN)=oZ a) H (vs.map oZ) (j7 (ts.map A.v)):=by
 have rp:=Bf re rr e (λ_=>False) (λ_ z=>z.elim) (λ_ _ _ _ _ _ z=>z);have no:∀b,¬Ow (λa=>(none:Option SN)=oZ a) (vs.map oZ) (ts.map λt=>oZ (U.p t)) b:=λb z=>by
  obtain z|⟨i,k,xs,h1,_⟩:=z
  ·cases z
  rw[LB]at h1;cases q:ts[i]? with
  |none=>rw[q]at h1;cases h1
  |some t=>rw[q]at h1;cases h1
 rw[vS];refine⟨by simp[rp.length],λi t h=>?_,λi k xs h=>?_,λi j k l xs ys a h _ _ _=>?_,λa z=>by cases z⟩
 all_goals
  rw[LB]at h;cases q:ts[i]? with
  |none=>rw[q]at h;cases h
  |some u=>
   rw[q]at h;cases h
   try
    obtain⟨v,h1,h2⟩:=rp.get q;exact⟨v,by rw[LB,h1];rfl,h2.step (Kp.less λb z=>no b z)⟩
section
variable{X:Cx}{K:W.Frag}{gw:List SV}{pos:Pos}{e:oC}{es:List oC}{Fr:FA}{i:Nat}{G:List (Key×V)->FS}
def AJ(S:BI)(Fr:FA)(i:Nat)(G:List (Key×V)->FS):FS:=λD E=>Fr E λrs E1=>o1 (Yk E1 rs) λts=>S (ts.map A.v) λVN=>G VN D ((E1.take E.length).set i none)
theorem Rv{n k j:Nat}{x f:Str}{ps:List Str}{S:BI}{p p' pc:Pos}(F:Fn X.prog X.w X.K X.mg X.base k f ps (Mq K S))(hr:cV j X.A)(hk:k<=j)(hg:Gl X f)(ha:QA X (e::es) (cK K n Fr))(hN:X.N.Nodup)(hi:X.N[i]?=oZ x)(hx:xR X.env.scope x)(yk:∀VN,QB X gw (iT i VN K (G VN)))
  (YN:(f==("__debug__":Str))=false:=by decide) (ji:bN (e::es)=true:=by rfl) (hs:TV (.Call (.Name f p) (e::es) [] pc) (oZ (.Name x p')) pos.line X.env=pure false:=by rfl) (hf:X.fn x=true\/X.env.scope.names.lookup x=oZ .local:=by first|exact .inl rfl|exact .inr rfl|assumption) :
  QB X (.Assign [.Name x p'] (.Call (.Name f p) (e::es) [] pc) pos::gw) (gP K (AJ S Fr i G)):=by
 refine(By (u:=λD σ H=>∃VN,iT i VN K (G VN) D σ H) (Js hN hi hx (wL F hr hk hg ha YN ji) hs hf) ⟨λpins s σ H D I zZ=>by obtain⟨VN,z⟩:=zZ;exact(yk VN).h pins s σ H D I z⟩).leL λD σ H hl⟨B,E,DT,re,hF,l⟩=>?_;refine⟨B,σ,E,_,⟨[],by simp⟩,re,hF,λrs E1 vs H1 S1 q g VY rr hn=>?_⟩;obtain⟨ts,e1,q⟩:=q.ex;rw[MG];refine⟨ts.map A.v,_,F5 VY rr e1,Ks,q,λVN a H' q2 kp ha=>⟨VN,?_⟩⟩;obtain⟨c1,c2⟩:=VY.cut (E:=E) g.pre re.len;have c3:RE K B H' σ (E1.take E.length):=c1.kept kp;obtain⟨c4,c5⟩:=c3.setN (i:=i) (v:=.ref a);have gk:Kp (Ow B σ (E1.take E.length)) (Ow B σ (E1.take E.length)) H1 H':=⟨λb o e _=>kp b o e,λb z=>.inl z⟩;have gg:Gs B H σ E H' (σ.set i (oZ (.ref a))) ((E1.take E.length).set i none):=g.kp.trans ((Kp.less c2).trans (gk.trans (Kp.less c5)));have li:i<σ.length:=by rw[hl];exact(KZ.mp hi).1
 refine⟨⟨a,ME li,ha⟩,B,_,DT,c4,q2,?_⟩;exact⟨λσ' H' E' z g' VV _=>l.nx _ _ _ z (gg.trans g') VV,λr E' v H' S' z g' VV rr=>l.rt _ _ _ _ _ z (gg.trans g') VV rr,λσ' H' E' z g' VV _=>l.bk _ _ _ z (gg.trans g') VV,λσ' H' E' z g' VV _=>l.ct _ _ _ z (gg.trans g') VV⟩
end
theorem cI.okD{P:SR}{w:SX}{K:W.Frag}{mg:Str->Option oA}{base:oE}{x qual c:Str}{st:SV}{f:SN}{fd:TK}{N ps:List Str}{k:Nat}{S:BI}{Fa:FE}{e:oC}{pos:Pos}(Fn:cI K x qual st f fd)(Sc:aF N ps (aC st))(hbd:cQ st=[.Return (oZ e) pos])(len:∀as Q,S as Q->as.length=ps.length)(hb:∀(WR:oA)(A:oD)(outer:List Env)(s:oB)(H:Hp)(E:XK),cV k (A.deeper (UK qual (aC st) s.heap.objs.size f WR))->QE (vO cJ P w K mg base N qual (aC st) f WR A outer s H E).nox e (JN K c Fa))(hF:∀as Q,S as Q->Fa (j7 as++LF (N.length-as.length) none) λr E1=>∃items,vl E1 r=oZ (.lst (items.map IK))/\items.length<=1000/\Q (Yg c items [])):(~~~aS) cJ (k+1) f fd ps (Mq K S):=by
 refine Fn.okQ Sc (λvs H Q E⟨as,Q',re,qm,hS,l⟩=>?_) (λWR A outer s H vs Q E hr⟨as,Q',re,qm,hS,l⟩=>?_)
 ·have:=re.len;rw[LJ,dZ]at this;rw[this];exact len as Q' hS
 have hl:vs.length=as.length:=by have:=re.len;rwa [LJ,dZ]at this
 refine⟨_,by rw[hbd];exact Jq (Jr (hb WR A outer s H E hr)),?_⟩;obtain⟨rm,ie⟩:=re.pad (N.length-as.length);have ji:j5 N vs=vs.map oZ++LF (N.length-as.length) none:=by unfold j5;rw[hl]
 rw[ji];have no:∀b,¬Ow (λa=>(none:Option SN)=oZ a) (vs.map oZ) (j7 as) b:=λb z=>by
  obtain z|⟨i,kk,xs,h1,h2⟩:=z
  ·cases z
  ·exact vH qm h1
 refine⟨_,_,_,_,⟨[],by simp⟩,rm,hF as Q' hS,λr E1 v H1 S1 q g VY rr=>?_⟩;obtain⟨items,e1,h2,q⟩:=q;exact⟨items,e1,h2,λa ha=>l _ a _ q (λb o h=>by
  have:=g.kp.keep b o h λz=>no b (ie b z);rw[bD (a8 this ha)];exact this) dS⟩
end L2
namespace L2
open PySem PySem.Spec PySem.W PySem.Calls PyProof.Rows PySem.SeqAt
theorem Sm{X:Cx}{K:W.Frag}{pos:Pos}{Fe:FE}{g:FG}{I:FI}{target elt iter:oC}{scope:UI}{N':List Str}{cap:List (Nat×Bool)}{t:Nat}(hc:X.calm=true)(S:bL X N' scope t (cap.map (·.1)))(fx:(cap.map (·.1)).Nodup)(hi:QI X target iter (k6 K I))(hg:∀C s3 H3 fp,QG (aX X N' scope C s3 H3 fp) target (Wr t K g))(he:∀C s3 H3 fp,QE (aX X N' scope C s3 H3 fp) elt (aH K Fe))(hs:∀x,TC iter X.env x=pure x:=by intro _;rfl):
  QE X (.ListComp elt [⟨target,iter,[],0⟩] scope pos) (aH K (Ie t cap I g Fe)):=
 (Mc hc S hi hg (λC s H f=>(he C s H f).ed) hs).le λσ H Q hl h=>Oo S fx hl h
section
variable{X:Cx}{K:W.Frag}{pos ap:Pos}{o e:oC}{Fo:FE}{Fr:FA}
def T6(i:Str)(y:R)(E:En)(Q:R->En->Prop):Prop:=s1 (vl E y) λj=>i.length<=big/\∀z,z=RA i j->Q (.p (.str z)) E
theorem Ua:P5 X "str.strip" (λx vs H Q=>∃i j,x = .str i/\vs=[.str j]/\i.length<=SY/\Q (.str (RA i j)) H):=by
 intro pins s σ H x vs v us Q I rx rv h;obtain⟨i,j,rfl,rfl,hz,q⟩:=h;obtain⟨t,rfl⟩:=rx;obtain⟨u,rfl,ry⟩:=r8 rv;obtain⟨t',rfl⟩:=ry;exact SCL.stripChars (λt' k _=>⟨.str _,H,I.tok _,⟨_,rfl⟩,q⟩) hz
theorem Sr(ho:QE X o (aH K Fo))(ha:QA X [e] (cK K n Fr))(WK:TQ o "strip" X.env (TF o X.env)=TF o X.env:=by rfl)(WL:(ap.endLine==pos.line)=true:=by rfl)(hs:a7 e=false:=by rfl):QE X (.Call (.Attribute o "strip" ap) [e] [] pos) (aH K (R5 T6 Fo Fr)):=
 Sq PySem.F.slot_str_strip PySem.F.type_str_strip Ua (λB S E i y w H2 Q' Q re rr q lk=>by
  obtain⟨j,e1,c,q⟩:=q.ex;exact⟨i,j,rfl,by rw[re.str rr e1],Ac c,lk _ _ _ _ _ (q _ rfl) .refl re rfl⟩) ho ha WK WL hs
theorem M6:∀{ss:List Str}{us:List oA},a9 (ss.map V.str) us->∀k:Str,us.countP (isStrOf k)=ss.countP (·==k)/\∀y∈us,∃z t,y = .str z t
 |[],_,.nil,k=>⟨rfl,by simp⟩
 |s::ss,_,.cons r q,k=>by
  obtain⟨t,rfl⟩:=r;obtain⟨h1,h2⟩:=M6 q k;refine⟨by rw[RT,RT,h1];rfl,λy hy=>?_⟩;obtain rfl|hy:=LH.mp hy
  ·exact⟨_,_,rfl⟩
  ·exact h2 y hy
def Mf:V->List V->Hp->VK->Prop:=λx vs H Q=>∃(l:SN)(ss:List Str)(k:Str),x = .ref l/\vs=[.str k]/\H l=oZ (.lst (ss.map V.str))/\Q (.int ((ss.countP (·==k):Nat):Int)) H
theorem Po:GQ X "list.count" Mf:=by
 intro pins s σ H x vs v us Q I rx rv h;obtain⟨l,ss,k,rfl,rfl,hH,q⟩:=h;cases rx;obtain⟨u,rfl,ru⟩:=rv.one;obtain⟨tu,rfl⟩:=ru;obtain⟨z,VL,n,r,hl,e⟩:=I.lstM hH;obtain⟨h1,h2⟩:=M6 r k;refine VD F.slot_list_count ⟨_,e,rfl⟩ F.entry_list_count (F.args_list_count_2 _ _) (list_countAt l _ n none #[] (.str k tu) (isStrOf k)) ⟨e,λy hy=>?_,?_⟩
 ·obtain⟨z,t,rfl⟩:=h2 y (by simpa using hy);exact EqAt.str_str z t k tu
 ·refine⟨.int _,H,I.tok _,⟨_,rfl⟩,?_⟩;show Q (.int ((VL.toArray.toList.countP (isStrOf k):Nat):Int)) H;rw[show VL.toArray.toList=VL from rfl,h1];exact q
theorem EA{O:SN->Prop}:∀{ss:List Str}{vs:List V},cR K H O (ss.map T.str) vs->vs=ss.map V.str
 |[],vs,h=>by cases h;rfl
 |s::ss,vs,h=>by
  obtain⟨v,ws,rfl,h1,h2⟩:=h;rw[EA h2];cases h1;rfl
def Yy(Fo:FE)(Fr:FA):FE:=λE Q=>Fo E λo E1=>o1 (ownOf E1 o) λ_=>Fr E1 λrs E2=>match o with
 |.s j=>(match E2[j]? with
  |some (oZ (.o k xs))=>(match rs with
   |[r]=>s1 (vl E2 r) λc=>∃ss:List Str,xs=ss.map T.str/\∀z:Int,z=((ss.countP (·==c):Nat):Int)->Q (.p (.int z)) E2
   |_=>False)
  |_=>False)
 |_=>False
theorem Pa(eK:X.K=K)(ho:QE X o (aH K Fo))(ha:QA X [e] (cK K n Fr))(WK:TQ o "count" X.env (TF o X.env)=TF o X.env:=by rfl)(WL:(ap.endLine==pos.line)=true:=by rfl)(hs:a7 e=false:=by rfl):
  QE X (.Call (.Attribute o "count" ap) [e] [] pos) (aH K (Yy Fo Fr)):=
 QE.le (t:=AM X.K "list" Mf (aH K Fo) (cK K n Fr)) ⟨Ge PySem.F.plainAttrs_list PySem.F.slot_list_count PySem.F.type_list_count Po ho.h ha.h WK (by rw[cC hs];rfl) WL (cC hs) (eF rfl)⟩ λσ H Q hl h=>by
  subst eK;obtain⟨B,S,E,Q',⟨τ,hS⟩,re,hF,lk⟩:=h;refine⟨B,S,E,_,⟨τ,hS⟩,re,hF,λoo E1 v H1 S1 q g1 VY rx=>?_⟩;obtain⟨τ1,YU⟩:=g1.pre;obtain⟨cj,e0,q⟩:=o1.ex q;obtain⟨j,k,p,vs,rfl,hE,yf,rfl,h2,h3⟩:=VY.ownOf rx e0;refine⟨.inl ⟨rfl,vs,lA.of h2⟩,B,S1,E1,_,⟨τ++τ1,by rw[YU,hS,LW]⟩,VY,q,λrs E2 us H2 S2 q2 g2 XG rr hn=>?_⟩;have iq:S2[j]?=oZ (oZ (.ref p)):=fD g2.pre yf;simp only at q2;split at q2
  ·rename_i k2' xs tx;split at q2
   ·rename_i r;obtain⟨y,ws,rfl,k1,rfl⟩:=rr;obtain⟨c,e1,ss,rfl,q3⟩:=q2.ex;have ey:=XG.str k1 e1;subst ey;obtain⟨p',ud,z1,z2,z3,_⟩:=XG.own j k2' _ tx;rw[iq]at z1;cases z1;obtain rfl:=EA z3;exact⟨p,ss,c,rfl,rfl,z2,lk _ _ _ _ _ (q3 _ rfl) (g1.trans g2) XG rfl⟩
   ·exact q2.elim
  ·exact q2.elim
end
structure sA(mg:Str->Option oA)(w:SX)(K:W.Frag)(x k1 v1 k2 v2 k3 v3:Str):Prop where
 ex:∃(a:SN)(t1 t2 t3 t4 t5 t6:Tok)(n:Nat),mg x=oZ (.ref a)/\K.lookup a=oZ { cls:=.type "dict",data:=.dict #[⟨hashStr w k1,.str k1 t1,.str v1 t2⟩,⟨hashStr w k2,.str k2 t3,.str v2 t4⟩,⟨hashStr w k3,.str k3 t5,.str v3 t6⟩] n }
 ne:k1≠k2/\k1≠k3/\k2≠k3
def tQ(k1 v1 k2 v2 k3 v3 z:Str):Option Str:=if z=k1 then oZ v1 else if z=k2 then oZ v2 else if z=k3 then oZ v3 else none
def N4(k1 v1 k2 v2 k3 v3:Str)(ty:TE):TE:=λσ H Q=>ty σ H λy H2=>∃z v,y=V.str z/\tQ k1 v1 k2 v2 k3 v3 z=oZ v/\Q (V.str v) H2
section
variable{X:Cx}{K:W.Frag}{pos pos':Pos}{Fi:FE}{x k1 v1 k2 v2 k3 v3:Str}{i:oC}{ty:TE}
theorem C6(hg:Gl X x)(c:sA X.mg X.w X.K x k1 v1 k2 v2 k3 v3)(hi:PE X i ty)(hs:Rl i)(hd:(x==("__debug__":Str))=false:=by decide):PE X (.Subscript (.Name x pos) i pos') (N4 k1 v1 k2 v2 k3 v3 ty):=by
 obtain⟨a,t1,t2,t3,t4,t5,t6,n,h1,h2⟩:=c.ex;obtain⟨n12,n13,n23⟩:=c.ne;intro pins s σ H Q I h;refine Mu PySem.F.slot_dict_getitem.lookup hs (cL (Lz (v:=.ref a) hg h1 rfl hd pins s σ H (λv H1=>v = .ref a/\H1=H) I ⟨rfl,rfl⟩) λu s1 zZ=>?_);obtain⟨x',H1,I1,rx,q1⟩:=zZ;obtain⟨rfl,rfl⟩:=q1;refine cL (hi pins s1 σ H1 _ I1 h) λiv s2 zZ=>?_;obtain⟨y,H2,I2,ry,z,v,ey,ev,q2⟩:=zZ;subst ey;obtain rfl:u=MU a:=rx;have dd:s2.heap.DictOf (eJ X.prog X.w) a [((Sum.inr k1:Key),OK v1 t2),(Sum.inr k2,OK v2 t4),(Sum.inr k3,OK v3 t6)]:=by
  refine⟨_,_,_,I2.kIn a _ h2,⟨rfl,rfl,rfl⟩,rfl,λe he=>?_,?_,?_⟩
  ·have jy:e∈[(⟨hashStr X.w k1,.str k1 t1,.str v1 t2⟩:DictEntry),⟨hashStr X.w k2,.str k2 t3,.str v2 t4⟩,⟨hashStr X.w k3,.str k3 t5,.str v3 t6⟩]:=by simpa using he
   obtain rfl|jy:=LH.mp jy
   ·exact⟨Sum.inr k1,d9 _ _ _ _,rfl⟩
   obtain rfl|jy:=LH.mp jy
   ·exact⟨Sum.inr k2,d9 _ _ _ _,rfl⟩
   ·rw[LY]at jy;subst jy;exact⟨Sum.inr k3,d9 _ _ _ _,rfl⟩
  ·exact .cons (d9 _ _ _ _) rfl (.cons (d9 _ _ _ _) rfl (.cons (d9 _ _ _ _) rfl .nil))
  ·have a12:(Sum.inr k1:Key)≠Sum.inr k2:=λe=>n12 (Sum.inr.inj e);have a13:(Sum.inr k1:Key)≠Sum.inr k3:=λe=>n13 (Sum.inr.inj e);have a23:(Sum.inr k2:Key)≠Sum.inr k3:=λe=>n23 (Sum.inr.inj e);simp only[MP,QN,NJ,LH,NB,or_false,not_false_eq_true,SI,and_true,not_or];exact⟨⟨a12,a13⟩,a23⟩
 refine⟨dd.typeIs,?_⟩;have hv:∃t,valueAt [((Sum.inr k1:Key),OK v1 t2),(Sum.inr k2,OK v2 t4),(Sum.inr k3,OK v3 t6)] (Sum.inr z)=oZ (.str v t):=by
  unfold tQ at ev;unfold valueAt
  by_cases e1:z=k1
  ·rw[oV e1]at ev;cases ev;exact⟨t2,by simp[e1]⟩
  ·rw[oW e1]at ev
   by_cases e2:z=k2
   ·rw[oV e2]at ev;cases ev;exact⟨t4,by simp[e2,n12]⟩
   ·rw[oW e2]at ev
    by_cases e3:z=k3
    ·rw[oV e3]at ev;cases ev;exact⟨t6,by simp[e3,n13,n23]⟩
    ·rw[oW e3]at ev;cases ev
 obtain⟨t,hv⟩:=hv;exact wpAny_getItem_of (Er (k:=Sum.inr z) ry) dd.mapOf hv ⟨V.str v,H2,I2.tok _,⟨t,rfl⟩,q2⟩
def BZ(k1 v1 k2 v2 k3 v3:Str)(Fi:FE):FE:=λE Q=>Fi E λy E2=>z1 (vl E2 y) λz=>o1 ((tQ k1 v1 k2 v2 k3 v3 z).map T.str) λt=>Q (.p t) E2
theorem Li(eK:X.K=K)(hg:Gl X x)(c:sA X.mg X.w K x k1 v1 k2 v2 k3 v3)(hi:QE X i (aH K Fi))(hs:Rl i)(hd:(x==("__debug__":Str))=false:=by decide):QE X (.Subscript (.Name x pos) i pos') (aH K (BZ k1 v1 k2 v2 k3 v3 Fi)):=by
 subst eK;refine QE.le (t:=N4 k1 v1 k2 v2 k3 v3 (aH X.K Fi)) ⟨C6 hg c hi.h hs hd⟩ λσ H Q hlen zZ=>?_;obtain⟨B,S,E,Q',hS,re,hF,lk⟩:=zZ;refine⟨B,S,E,_,hS,re,hF,λy E4 w H4 S4 q4 g4 jz ry=>?_⟩;obtain⟨z,e1,q4⟩:=z1.ex q4;obtain⟨t,e2,q4⟩:=o1.ex q4;have ew:_=V.str z:=jz.vl ry e1;subst ew;cases hv:tQ k1 v1 k2 v2 k3 v3 z with
 |none=>rw[hv]at e2;cases e2
 |some v=>
  rw[hv]at e2;cases e2;exact⟨z,v,rfl,hv,lk _ _ _ _ _ q4 g4 jz rfl⟩
end
end L2
namespace My
open PySem L2 PyProof.Rows
def top(i:Nat):SV:=PySem.Challenge.pw_sidecut_k20_blocks_go_round.main.body.getD i (.Pass ⟨0,0,0,0⟩)
section
variable{P:SR}{w:SX}{K:W.Frag}{mg:Str->Option oA}{base:oE}
structure Bx(xs:List T)(n:Int):Prop where
 ex:∃A B c:Int,xs=[.int A,.int B,.int c]/\0<=A/\0<=B/\B<2147483647/\0<=c/\c<=n
theorem Bx.mono{n m:Int}(b:Bx xs n)(h:n<=m):Bx xs m:=let⟨A,B,c,h1,h2,h3,h4,h5,h6⟩:=b;⟨A,B,c,h1,h2,h3,h4,h5,⋯⟩
def O8:dG:=λas Q=>∃(xs:List T)(m n:Int),as=[.b xs,.v (.int m)]/\Bx xs n/\n<=1000000/\1<=m/\m<2^200/\∀r ys,0<=r->r<m->Bx ys (n+1)->Q (.v (.int r)) ys
abbrev oU(P w K mg base):=(~~~Fn) 1 "_law_take" ["_law_box_here","_law_many"] (aI K O8)
abbrev Jy:SV:=top 70
theorem Cs:aF ["_law_box_here","_law_many","_law_once","_law_found"] ["_law_box_here","_law_many"] (aC Jy):=dH
theorem B5(F:cI K "_law_take" "_law_take" Jy f fd)(TX:Txt mg):(~~~aS) cJ 1 f fd ["_law_box_here","_law_many"] (aI K O8):=by
 refine F.okU Cs (λhr=>(aB (b8 (fP rR (fQ 0) aA) (aB (d8 (Pb rfl TX.n_divmod (f2 (fQ 0) (fv 1))) (dA (n:=2) rfl rfl (aM (Ii (fv 0) aA) (aM (fG 3 Cs.nd) cE)))) (aE (aG (fv 3)))) bH) (aB (d8 (aU cD (fQ 0) aA) (Ii (fv 0) aA)) (aB (fS 2 Cs.nd (aO fZ (aO Ur (aU cD (fQ 0) (aO aW aA (fQ 0))) aA) aA)) (aE (aG (aO fZ (aO dF (aO fZ (aU cD (aO aW (fv 2) aA) (aO aW (aO aW (fQ 0) (fQ 0)) aA)) aA) aA) (fv 1)))))))) ?_;rintro as Q ⟨xs,m,n,rfl,⟨A,B,c,rfl,hA,hB,hB2,hc,hcn⟩,hn,h1,h2,k⟩;show if decide (0<A)=true then _ else _
 by_cases hA0:0<A
 ·rw[oY hA0,oV rfl];refine⟨⟨⋯,h2⟩,⟨rfl,k _ _ (PD _ ⋯) (ON _ ⋯) ⟨_,_,_,rfl,Int.ediv_nonneg hA ⋯,hB,hB2,hc,⋯⟩⟩⟩
 ·rw[oX hA0,oW ∅];have p5:Yn (B+39373*(c+1)) 5:=⟨∅,∅,⋯⟩;have d64:yE (((B+39373*(c+1))^(5:Int).toNat%2147483647*48271+(c+1)*(c+1)*7919)%2147483629) 64:=⟨∅,LP (show(64:Int).natAbs<2^7 by decide) (MZ ∅ ∅)⟩;refine⟨Iw ∅,p5,(by show(0:Int)<2147483647;decide),?_⟩;refine⟨Bg ∅,Iw ⋯,Bg ∅,?_⟩;refine⟨(by show(0:Int)<2147483629;decide),d64,(by show(0:Int)<m;lia),⟨rfl,?_⟩⟩;exact k _ _ (PD _ ⋯) (ON _ ⋯) ⟨_,_,_,rfl,hA,hB,hB2,⋯,⋯⟩
def bK(ns:List Int):List T:=ns.map T.int
theorem Th{ns:List Int}{k:Int}(h0:0<=k)(h1:k<(ns.length:Int)):∃z,eV (bK ns) k=oZ (.int z):=by
 have hk:k.toNat<ns.length:=⋯
 refine⟨ns[k.toNat],?_⟩;have e3:k=((k.toNat:Nat):Int):=⋯
 have z:=lI (xs:=bK ns) (j:=k.toNat) (v:=T.int ns[k.toNat]) (by rw[bK,LB,LA hk];rfl);rw[<-e3]at z;exact z
def Wx:dG:=λas Q=>∃(ns:List Int)(k:Int),as=[.v (.lst (bK ns)),.v (.int k)]/\0<=k/\k<=1000/\∀xs,Bx xs 0->bM xs=true->Q (.l xs) []
def J1:dG:=λas Q=>∃(n d:Int),as=[.v (.int n),.v (.int d)]/\d≠0/\d.natAbs<2^8000/\Q (.v (fr (iV n d))) []
theorem tL{i:Int}{n d:Int}(hd:d≠0)(hb:d.natAbs<2^8000):yE i ((MJ n.natAbs d.natAbs:Nat):Int):=by
 have h1:0<MJ n.natAbs d.natAbs:=PJ _ ⋯;have h2:MJ n.natAbs d.natAbs<=d.natAbs:=Nat.gcd_le_right _ ⋯;exact⟨⋯,ML ⋯ hb⟩
theorem Lg(i:Int)(n:Nat):i.fdiv (n:Int)=i/(n:Int):=NL _ ⋯
def Na:dG:=λas Q=>∃(n d:Int),as=[.v (.int n),.v (.int d)]/\Q (.v (.int ((MJ n.natAbs d.natAbs:Nat):Int))) []
abbrev j9(P w K mg base):=(~~~Fn) 1 "common_divisor" oG (aI K Na)
abbrev hJ:SV:=top 1
theorem gH:aF oG oG (aC hJ):=dH
theorem rQ(F:cI K "common_divisor" "common_divisor" hJ f fd)(TX:Txt mg):(~~~aS) cJ 1 f fd oG (aI K Na):=by
 refine F.okU gH (λhr=>(aB (gZ (i:=0) (j:=1) rfl gH.nd rfl rfl ∅ rfl rfl (f2 (sE rfl TX.n_abs (f1 (fv 0))) (sE rfl TX.n_abs (f1 (fv 1)))) rfl) (aB (m8 PassesOwn.never (pN rfl hr (fv 1) aA (aV _)) (aE (gZ (i:=0) (j:=1) rfl gH.nd rfl rfl ∅ rfl rfl (f2 (fv 1) (aO fZ (fv 0) (fv 1))) rfl))) (aE (aG (fv 0)))))) ?_;rintro as Q ⟨n,d,rfl,q⟩;refine⟨λm E=>∃x y:Nat,E=[↑x,↑y]/\m=y/\MJ x y=MJ n.natAbs d.natAbs,⟨_,_,_,rfl,rfl,rfl⟩,?_⟩;rintro m E ⟨x,y,rfl,rfl,hg⟩;refine⟨LV _,?_⟩;show if(!((m:Int)==0))=true then _ else _
 by_cases hy:m=0
 ·subst hy;rw[oW ∅];rw[Nat.gcd_zero_right]at hg;subst hg;exact⟨rfl,q⟩
 ·rw[oV (by simpa using hy)];exact⟨(by show(0:Int)<(m:Int);lia),x%m,QV _ ⋯,m,x%m,rfl,rfl,by rw[Em];exact hg⟩
abbrev dY(P w K mg base):=(~~~Fn) 2 "fraction" ["n","d"] (aI K J1)
abbrev qG:SV:=top 2
theorem n9:aF ["n","d","divisor"] ["n","d"] (aC qG):=dH
theorem Fs(F:cI K "fraction" "fraction" qG f fd)(TX:Txt mg)(WY: ~~~j9):(~~~aS) cJ 2 f fd ["n","d"] (aI K J1):=by
 refine F.okU n9 (λhr=>(aB (Pe (pN rfl hr (fv 1) aA (aV _))) (aB (fS 2 n9.nd (fK WY (f2 (fv 0) (fv 1)))) (aB (b8 (fP i9 (fv 1) aA) (aE (fS 2 n9.nd (d7 (fv 2)))) bH) (aE (aG (aN (f2 (aO dF (fv 0) (fv 2)) (aO dF (fv 1) (fv 2)))))))))) ?_;rintro as Q ⟨n,d,rfl,hd,hb,q⟩;have wk:(!(d==0))=true:=by simpa using hd
 refine⟨LV _,wk,n,d,rfl,?_⟩;have dn:((MJ n.natAbs d.natAbs:Nat):Int)∣n:=NN.mpr (OV _ _);have dd:((MJ n.natAbs d.natAbs:Nat):Int)∣d:=NN.mpr (OQ _ _);have g0:((MJ n.natAbs d.natAbs:Nat):Int)≠0:=(tL (i:=0) (n:=n) hd hb).1;have aK:∀{g m:Int},g≠0->g∣m->m.fdiv (-g)=(-m)/g:=λ{g m}h0 hm=>by
  obtain⟨k,rfl⟩:=hm;have e1:g*k=(-g)*(-k):=by grind
  have e2:-(g*k)=g*(-k):=by grind
  rw[e2,NI _ h0,e1,RU _ ⋯]
 show if decide (d<0)=true then _ else _
 by_cases h:d<0
 ·rw[oY h,oV rfl];have cz:∀i:Int,yE i (-((MJ n.natAbs d.natAbs:Nat):Int)):=λi=>⟨⋯,by rw[PQ];exact(tL (i:=i) (n:=n) hd hb).2⟩;refine⟨cz _,cz _,rfl,?_⟩;unfold iV rO nE at q;rw[oW ⋯,oW ⋯,<-aK g0 dn,<-aK g0 dd]at q;exact q
 ·rw[oX h,oW ∅];refine⟨tL hd hb,tL hd hb,rfl,?_⟩;unfold iV rO nE at q;rw[oV ⋯,oV ⋯,<-Lg,<-Lg]at q;exact q
theorem pl(h:x<2^e)(k:e<=f):x<2^f:=LP h (MZ ∅ k)
def uH(op:Fr->Fr->Fr):dG:=λas Q=>∃x y:Fr,as=[.v (fr x),.v (fr y)]/\bI x/\bI y/\sz x+sz y<=7900/\Q (.v (fr (op x y))) []
abbrev fT(P w K mg base):=(~~~Fn) 3 "added" oG (aI K (uH bJ))
abbrev Ce:SV:=top 3
theorem Wd:aF oG oG (aC Ce):=dH
theorem Ud(F:cI K "added" "added" Ce f fd)(TX:Txt mg)(VO: ~~~dY):(~~~aS) cJ 3 f fd oG (aI K (uH bJ)):=by
 refine F.okU Wd (λhr=>(aE (aG (fK VO (f2 (aU cD (aO aW (fQ 0) (fQ 1)) (aO aW (fQ 1) (fQ 0))) (aO aW (fQ 0) (fQ 1))))))) ?_;rintro as Q ⟨x,y,rfl,hx,hy,hs,q⟩;have hd:(x.2*y.2).natAbs<2^8000:=sM (bF (bV x) (bV y)) ⋯;exact⟨jR (e:=7900) (pl (dR x) ⋯) (pl (bV y) ⋯) ∅,jR (e:=7900) (pl (dR y) ⋯) (pl (bV x) ⋯) ∅,jR (e:=7900) (pl (bV x) ⋯) (pl (bV y) ⋯) ∅,_,_,rfl,eB hx hy,hd,rfl,q⟩
abbrev kQ(P w K mg base):=(~~~Fn) 3 "taken" oG (aI K (uH aR))
abbrev Co:SV:=top 4
theorem Wl:aF oG oG (aC Co):=dH
theorem Um(F:cI K "taken" "taken" Co f fd)(TX:Txt mg)(VO: ~~~dY):(~~~aS) cJ 3 f fd oG (aI K (uH aR)):=by
 refine F.okU Wl (λhr=>(aE (aG (fK VO (f2 (aU g8 (aO aW (fQ 0) (fQ 1)) (aO aW (fQ 1) (fQ 0))) (aO aW (fQ 0) (fQ 1))))))) ?_;rintro as Q ⟨x,y,rfl,hx,hy,hs,q⟩;have hd:(x.2*y.2).natAbs<2^8000:=sM (bF (bV x) (bV y)) ⋯;exact⟨jR (e:=7900) (pl (dR x) ⋯) (pl (bV y) ⋯) ∅,jR (e:=7900) (pl (dR y) ⋯) (pl (bV x) ⋯) ∅,jR (e:=7900) (pl (bV x) ⋯) (pl (bV y) ⋯) ∅,_,_,rfl,eB hx hy,hd,rfl,q⟩
abbrev jJ(P w K mg base):=(~~~Fn) 3 "times" oG (aI K (uH aJ))
abbrev Cp:SV:=top 5
theorem Wm:aF oG oG (aC Cp):=dH
theorem Uo(F:cI K "times" "times" Cp f fd)(TX:Txt mg)(VO: ~~~dY):(~~~aS) cJ 3 f fd oG (aI K (uH aJ)):=by
 refine F.okU Wm (λhr=>(aE (aG (fK VO (f2 (aO aW (fQ 0) (fQ 1)) (aO aW (fQ 0) (fQ 1))))))) ?_;rintro as Q ⟨x,y,rfl,hx,hy,hs,q⟩;have hd:(x.2*y.2).natAbs<2^8000:=sM (bF (bV x) (bV y)) ⋯;exact⟨jR (e:=7900) (pl (dR x) ⋯) (pl (dR y) ⋯) ∅,jR (e:=7900) (pl (bV x) ⋯) (pl (bV y) ⋯) ∅,_,_,rfl,eB hx hy,hd,rfl,q⟩
def cM(x y x' y':Fr):Fr:=bJ (aJ x x') (aJ y y')
def aY(x y x' y':Fr):Fr:=aR (aJ x y') (aJ y x')
structure Nv(a b:Fr)(e:Nat):Prop where
 x:bI a
 y:bI b
 sx:sz a<=e
 sy:sz b<=e
def BB(op:Fr->Fr->Fr->Fr->Fr):dG:=λas Q=>∃(x y x' y':Fr)(e f:Nat),as=[.v (vc x y),.v (vc x' y')]/\Nv x y e/\Nv x' y' f/\e+f<=3900/\Q (.v (fr (op x y x' y'))) []
abbrev pR(P w K mg base):=(~~~Fn) 4 "dot" oG (aI K (BB cM))
abbrev Wb:SV:=top 14
theorem AL:aF oG oG (aC Wb):=dH
theorem V8(F:cI K "dot" "dot" Wb f fd)(TX:Txt mg)(VU: ~~~jJ)(VS: ~~~fT):(~~~aS) cJ 4 f fd oG (aI K (BB cM)):=by
 refine F.okU AL (λhr=>(aE (aG (fK VS (f2 (fK VU (f2 (fQ 0) (fQ 1))) (fK VU (f2 (fQ 0) (fQ 1)))))))) ?_;rintro as Q ⟨x,y,x',y',e,f,rfl,h,k,he,q⟩;have:=h.sx;have:=h.sy;have:=k.sx;have:=k.sy;have n1:=aP h.x k.x;have n2:=aP h.y k.y;have s1:=cG h.x k.x;have s2:=cG h.y k.y;exact⟨_,_,rfl,h.x,k.x,⋯,_,_,rfl,h.y,k.y,⋯,_,_,rfl,n1,n2,⋯,rfl,q⟩
def Nf:dG:=λas Q=>∃x y:Fr,as=[.v (vc x y)]/\Q (.v (vc (aK y) x)) []
abbrev gV(P w K mg base):=(~~~Fn) 1 "left_of" oN (aI K Nf)
abbrev sU:SV:=top 16
theorem qP:aF ["vector","x","y"] oN (aC sU):=dH
theorem Je(F:cI K "left_of" "left_of" sU f fd)(TX:Txt mg):(~~~aS) cJ 1 f fd oN (aI K Nf):=by
 refine F.okU qP (λhr=>(aB (d8 (fv 0) (dA (n:=2) rfl rfl (aM (fG 1 qP.nd) (aM (fG 2 qP.nd) cE)))) (aE (aG (aN (f2 (aN (f2 (d7 (fQ 2)) (fQ 2))) (fv 1))))))) ?_;rintro as Q ⟨x,y,rfl,q⟩;exact⟨rfl,q⟩
theorem b7(h:Nat.ble a b=true):a<=b:=Nat.le_of_ble_eq_true h
theorem dX(h:Nv x y e)(k:Nv c s f):val (cM x y c s)=val x*val c+val y*val s:=by
 unfold cM;rw[bO (aP h.x k.x) (aP h.y k.y),aZ h.x k.x,aZ h.y k.y]
theorem dU(h:Nv x y e)(k:Nv c s f):val (aY x y c s)=val x*val s-val y*val c:=by
 unfold aY;rw[bW (aP h.x k.y) (aP h.y k.x),aZ h.x k.y,aZ h.y k.x]
theorem bB(h:Nv x y e)(k:Nv c s f):bI (cM x y c s):=c7 (aP h.x k.x) (aP h.y k.y)
theorem cH(h:Nv x y e)(k:Nv c s f):bI (aY x y c s):=dM (aP h.x k.y) (aP h.y k.x)
theorem Nv.up{x y:Fr}{e f:Nat}(h:Nv x y e)(k:e<=f):Nv x y f:=⟨h.x,h.y,MV h.sx k,MV h.sy k⟩
theorem iJ(n:Int):val (n,1)=(n:Rat):=by
 show(n:Rat)/((1:Int):Rat)=n
 push_cast
 grind
theorem gT:val (1,1)=1:=by rw[iJ];rfl
theorem k8:val (0,1)=0:=by rw[iJ];rfl
def O1:dG:=λas Q=>∃x y:Fr,as=[.v (fr x),.v (fr y)]/\bI x/\bI y/\y.1≠0/\sz x+sz y<=7900/\Q (.v (fr (bZ x y))) []
abbrev q0(P w K mg base):=(~~~Fn) 3 "over" oG (aI K O1)
abbrev Jw:SV:=top 6
theorem G2:aF oG oG (aC Jw):=dH
theorem A9(F:cI K "over" "over" Jw f fd)(TX:Txt mg)(VO: ~~~dY):(~~~aS) cJ 3 f fd oG (aI K O1):=by
 refine F.okU G2 (λhr=>(aE (aG (fK VO (f2 (aO aW (fQ 0) (fQ 1)) (aO aW (fQ 0) (fQ 1))))))) ?_;rintro as Q ⟨x,y,rfl,hx,hy,h0,hs,q⟩;have hd:(x.2*y.1).natAbs<2^8000:=sM (bF (bV x) (dR y)) ⋯;exact⟨jR (e:=7900) (pl (dR x) ⋯) (pl (bV y) ⋯) ∅,jR (e:=7900) (pl (bV x) ⋯) (pl (dR y) ⋯) ∅,_,_,rfl,OZ hx.ne h0,hd,rfl,q⟩
structure cA(x y:Fr)(e:Nat):Prop where
 nv:Nv x y e
 one:val x*val x+val y*val y=1
theorem cA.left(h:cA x y e):cA (aK y) x e:=⟨⟨e7 h.nv.y,h.nv.x,by rw[oQ];exact h.nv.sy,h.nv.sx⟩,by rw[bR h.nv.y,<-h.one];grind⟩
theorem P1(h:bI p):val p*(p.2:Rat)=(p.1:Rat):=by have:=h.neR;unfold val;grind
theorem BR(h:bI p):(0:Rat)<(p.2:Rat):=by have:=h.d;exact_mod_cast (show(0:Int)<p.2 by lia)
theorem dN(h:bI p):0<=val p↔0<=p.1:=by
 have e:=P1 h;have d:=BR h;constructor
 ·intro k;have:=Rat.mul_nonneg k (Rat.le_of_lt d);rw[e]at this
  exact_mod_cast this
 ·intro k;have k':(0:Rat)<=(p.1:Rat):=by exact_mod_cast k
  rcases Rat.le_total (a:=0) (b:=val p)with c|c
  ·exact c
  ·by_cases z:val p=0
   ·grind
   ·have:=Rat.mul_pos (a:=-val p) (b:=p.2) (by grind) d;grind
theorem xO(h:bI p):val p<=0↔p.1<=0:=by
 have:=dN (e7 h);rw[bR h]at this;have e:(aK p).1 = -p.1:=rfl;rw[e]at this;constructor
 ·intro k;have:=this.1 (by grind);lia
 ·intro k;have:=this.2 ⋯;grind
theorem Kl(h:bI p):val p<0↔p.1<0:=by
 have:=dN h;constructor
 ·intro k;exact Int.not_le.mp λc=>by have:=this.2 c;grind
 ·intro k;exact Rat.not_le.mp λc=>by have:=this.1 c;lia
theorem mG(h:bI p):0<val p↔0<p.1:=by
 have:=xO h;constructor
 ·intro k;exact Int.not_le.mp λc=>by have:=this.2 c;grind
 ·intro k;exact Rat.not_le.mp λc=>by have:=this.1 c;lia
theorem nL{lo:Int}(h:(iP lo n)[i]?=oZ t):i<n/\t = .int (lo+(i:Int)):=by
 unfold iP at h;rw[LB]at h;obtain c|c:=MN i n
 ·rw[OF c]at h;cases h;exact⟨c,rfl⟩
 ·rw[OT (by simpa using c)]at h;cases h
theorem bS{z k:Rat}(hk:0<k)(h:0<z*k):0<z:=by
 rcases Rat.le_total (a:=z) (b:=0)with c|c
 ·have:=Rat.mul_nonneg (a:=-z) (b:=k) (by grind) (Rat.le_of_lt hk);grind
 ·by_cases e:z=0
  ·rw[e]at h;grind
  ·grind
theorem iG{z k:Rat}(hk:0<k)(h:0<=z*k):0<=z:=by
 rcases Rat.le_total (a:=z) (b:=0)with c|c
 ·by_cases e:z=0
  ·grind
  ·have:=Rat.mul_pos (a:=-z) (b:=k) (by grind) hk;grind
 ·exact c
abbrev Rk(P w K mg base):=(~~~Fn) 1 "_law_box" ["_law_script","_law_k"] (aI K Wx)
abbrev Wa:SV:=top 69
theorem Jz:aF ["_law_script","_law_k","_law_cell"] ["_law_script","_law_k"] (aC Wa):=dH
theorem V7(F:cI K "_law_box" "_law_box" Wa f fd)(TX:Txt mg):(~~~aS) cJ 1 f fd ["_law_script","_law_k"] (aI K Wx):=by
 refine F.okU Jz (λhr=>(aB (fS 2 Jz.nd aA) (aB (b8 (fP i9 (fv 1) (dJ rfl rfl TX.n_len (f1 (fv 0)))) (aE (fS 2 Jz.nd (fX (fv 0) (fv 1)))) bH) (aE (aG (c8 (f3 (aO aW (sE rfl TX.n_abs (f1 (fv 2))) (Ao rfl TX.n_int (f1 (Eh Uq (sE rfl TX.n_abs (f1 (fv 2))) (aO Ur aA aA) (aV _))))) (aO fZ (aU cD (fv 2) (aO aW (aO aW aA (fv 1)) (fv 1))) aA) aA))))))) ?_;rintro as Q ⟨ns,k,rfl,h0,h1,q⟩;have p10:Yn 10 18:=⟨∅,∅,∅⟩;have bx:∀z:Int,Bx [.int ((z.natAbs:Int)*(if decide ((10:Int)^(18:Int).toNat<=(z.natAbs:Int))=true then 1 else 0)),.int ((z+7919*k*k)%2147483647),.int 0] 0:=λz=>
  ⟨_,_,_,rfl,PR ⋯ (by split<;>decide),PD _ ∅,ON _ ∅,∅,∅⟩
 have k2:(7919*k).natAbs<2^60:=⋯
 have one:∀z:Int,(if decide ((10:Int)^(18:Int).toNat<=(z.natAbs:Int))=true then(1:Int)else 0).natAbs<2^60:=λz=>by split<;>decide
 have pm:(λ(_ j:Int)=>0<j) 0 2147483647:=by show(0:Int)<2147483647;decide
 show if decide (k<((bK ns).length:Int))=true then _ else _
 by_cases hk:k<((bK ns).length:Int)
 ·rw[oY hk,oV rfl];obtain⟨z,hz⟩:=Th (ns:=ns) h0 (by simpa[bK]using hk);show o1 (eV (bK ns) k) _;rw[hz];exact⟨p10,Bg (one z),Iw ∅,Iw k2,pm,⟨rfl,q _ (bx z) rfl⟩⟩
 ·rw[oX hk,oW ∅];exact⟨p10,Bg (one 0),Iw ∅,Iw k2,pm,⟨rfl,q _ (bx 0) rfl⟩⟩
theorem Yu(ns:List Int)(m:Nat):fO (bK ns) none (oZ (m:Int))=bK (ns.take m):=by
 unfold fO bK;rw[HT.sIx_none,HT.sIx_nat,List.drop_zero,Nat.sub_zero,List.map_take];obtain h|h:=Nat.le_total m (ns.map T.int).length
 ·rw[Nat.min_eq_left h]
 ·rw[Nat.min_eq_right h,OP (LN _),OP h]
theorem Ru{lo hi:Option Int}(h:y∈fO xs lo hi):y∈xs:=List.mem_of_mem_drop (List.mem_of_mem_take h)
theorem Rr(xs:List T)(m k:Nat):(fO xs (oZ (m:Int)) (oZ (k:Int))).length<=xs.length-m:=by
 unfold fO;rw[HT.sIx_nat,HT.sIx_nat,MQ,NS];omega
theorem La{xs:List T}{i:Nat}(h:(xs.zipIdx.map λq=>T.tup [.int (q.2:Int),q.1])[i]?=oZ x):∃y,xs[i]?=oZ y/\x = .tup [.int (i:Int),y]:=by
 rw[LB]at h;cases q:xs.zipIdx[i]? with
 |none=>rw[q]at h;cases h
 |some z=>
  rw[q]at h;cases h;obtain⟨q1,q2⟩:=KZ.mp q;rw[List.getElem_zipIdx]at q2;subst q2;exact⟨_,LA (by simpa using q1),by simp⟩
def J2:dG:=λas Q=>∃(x y p q:Fr)(e f:Nat),as=[.v (vc x y),.v (vc p q)]/\Nv x y e/\Nv p q f/\e+f<=7000/\Q (.v (vc (aR x p) (aR y q))) []
inductive Pc where
 |side (x y:Fr)|arc (m n x y:Fr) (l:Bool)
def r6(l:Bool):Str:=if l then "left" else "right"
def jD:Pc->L2.T
 |.side x y=>.tup [.str "side",vc x y]
 |.arc m n x y l=>.tup [.str "arc",vc m n,vc x y,.str (r6 l)]
def Pc.px:Pc->Fr
 |.side x _=>x
 |.arc _ _ x _ _=>x
def Pc.py:Pc->Fr
 |.side _ y=>y
 |.arc _ _ _ y _=>y
def Ig(a b c d:Fr):Rat:=(val a-val c)*(val a-val c)+(val b-val d)*(val b-val d)
def qA(e:Nat)(a b:Fr):Pc->Prop
 |.side x y=>Nv x y e/\∃r:Rat,0<r/\Ig x y a b=r*r
 |.arc m n x y _=>Nv m n e/\Nv x y e/\¬(x=a/\y=b)/\∃r:Rat,0<r/\Ig a b m n=r*r/\Ig x y m n=r*r
theorem cA.neg(h:cA x y e):cA (aK x) (aK y) e:=h.left.left
theorem cA.up(h:cA x y e)(k:e<=f):cA x y f:=⟨h.nv.up k,h.one⟩
def jO(e:Nat):Fr->Fr->List Pc->Prop
 |_,_,[]=>True
 |a,b,p::ps=>qA e a b p/\jO e p.px p.py ps
def cO:Fr->List Pc->Fr
 |a,[]=>a
 |_,p::ps=>cO p.px ps
def cP:Fr->List Pc->Fr
 |b,[]=>b
 |_,p::ps=>cP p.py ps
theorem pW:∀(ps:List Pc)(a:Fr)(p:Pc),cO a (ps++[p])=p.px
 |[],_,_=>rfl
 |q::ps,_,p=>pW ps q.px p
theorem pX:∀(ps:List Pc)(a:Fr)(p:Pc),cP a (ps++[p])=p.py
 |[],_,_=>rfl
 |q::ps,_,p=>pX ps q.py p
theorem qA.up(k:e<=f):∀{p:Pc},qA e a b p->qA f a b p
 |.side _ _,h=>⟨h.1.up k,h.2⟩
 |.arc _ _ _ _ _,h=>⟨h.1.up k,h.2.1.up k,h.2.2⟩
theorem qA.nv:∀{p:Pc},qA e a b p->Nv p.px p.py e
 |.side _ _,h=>h.1
 |.arc _ _ _ _ _,h=>h.2.1
def cF(a b:Fr)(ps:List Pc):L2.T:=.tup [vc a b,.tup (ps.map jD)]
theorem V6:∀p:Pc,noL (jD p)=true
 |.side _ _=>rfl
 |.arc _ _ _ _ _=>rfl
theorem Ub(a b:Fr)(ps:List Pc)(h:bM (ps.map jD)=true):noL (cF a b ps)=true:=by
 show(true&&(bM (ps.map jD)&&true))=true;rw[h];rfl
theorem Fg:∀ps:List Pc,bM (ps.map jD)=true
 |[]=>rfl
 |p::ps=>by show(noL (jD p)&&bM (ps.map jD))=true;rw[V6,Fg ps];rfl
def Rj(n r:Nat):Prop:=r*r<=n/\n<(r+1)*(r+1)
theorem Rj.uniq(h:Rj n r)(k:Rj n s):r=s:=by
 obtain z|z|z:=RH r s
 ·have:=PU (show r+1<=s from z) (show r+1<=s from z);have:=h.2;have:=k.1;lia
 ·exact z
 ·have:=PU (show s+1<=r from z) (show s+1<=r from z);have:=k.2;have:=h.1;lia
theorem BK(x y:Nat):4*(x*y)<=(x+y)*(x+y):=by
 obtain h|h:=Nat.le_total x y
 ·obtain⟨k,rfl⟩:=RZ h;have:(x+(x+k))*(x+(x+k))=4*(x*(x+k))+k*k:=by grind
  lia
 ·obtain⟨k,rfl⟩:=RZ h;have:(y+k+y)*(y+k+y)=4*((y+k)*y)+k*k:=by grind
  lia
theorem vY(h:0<g):s<((g+s/g)/2+1)*((g+s/g)/2+1):=by
 have h1:s<g*(s/g+1):=Nat.lt_mul_div_succ s h;have h2:=BK g (s/g+1);generalize s/g=q at h1 h2⊢;have h3:g+(q+1)<=2*((g+q)/2+1):=⋯
 generalize(g+q)/2+1=b at h3⊢;have h4:=PU h3 h3;have h5:2*b*(2*b)=4*(b*b):=by grind
 lia
theorem Iz(h:0<g)(k:¬(g+s/g)/2<g):g*g<=s:=by
 have:g<=s/g:=⋯
 exact(Nat.le_div_iff_mul_le h).mp this
theorem vU(a b:Nat):((a:Int)).fdiv (b:Int)=((a/b:Nat):Int):=by
 rw[NL _ ⋯];rfl
theorem vG(g s:Nat):((g:Int)+((s:Int)).fdiv (g:Int)).fdiv 2=(((g+s/g)/2:Nat):Int):=by
 rw[vU,<-Int.natCast_add];exact vU _ 2
theorem Ej{s:Nat}(h:s≠0):∃g:Nat,(1:Int)*2^((((Builtin.Int.intBits (s:Int):Nat):Int)+1).fdiv 2).toNat=(g:Int)/\0<g/\s<g*g/\(∀e:Nat,s<2^e->g<=2^e)/\(0<=(((Builtin.Int.intBits (s:Int):Nat):Int)+1).fdiv 2)/\∀e:Nat,s<2^e->(((Builtin.Int.intBits (s:Int):Nat):Int)+1).fdiv 2<=e:=by
 have hb:Builtin.Int.intBits (s:Int)=s.log2+1:=by
  unfold Builtin.Int.intBits;rw[oW (by simpa using h)];rfl
 rw[hb];have e1:((((s.log2+1:Nat):Int)+1)).fdiv 2=(((s.log2+1+1)/2:Nat):Int):=vU (s.log2+1+1) 2;rw[e1,MR];have hl:=RQ (n:=s);refine⟨2^((s.log2+1+1)/2),by rw[Int.one_mul];exact(Int.natCast_pow 2 _).symm,Nat.pow_pos ∅,?_,λe he=>?_,⋯,λe he=>?_⟩
 ·rw[<-Nat.pow_add];exact LP hl (MZ ∅ ⋯)
 ·have:=(PY h).mpr he;exact MZ ∅ ⋯
 ·have:=(PY h).mpr he
  lia
def Xj:dG:=λas Q=>∃n:Nat,as=[.v (.int (n:Int))]/\n<2^3000/\∀r:Nat,Rj n r->Q (.v (.int (r:Int))) []
abbrev pJ(P w K mg base):=(~~~Fn) 1 "whole_root" ["square"] (aI K Xj)
abbrev lX:SV:=top 8
theorem eT:aF ["square","guess","better"] ["square"] (aC lX):=dH
theorem yA(F:cI K "whole_root" "whole_root" lX f fd)(TX:Txt mg):(~~~aS) cJ 1 f fd ["square"] (aI K Xj):=by
 refine F.okU eT (λhr=>(aB (b8 (eQ rfl hr (fv 0) aA (aV _)) (aE (aG aA)) bH) (aB (fS 1 eT.nd (aO W8 aA (aO dF (aU cD (Zc (fv 0)) aA) aA))) (aB (fS 2 eT.nd (aO dF (aU cD (fv 1) (aO dF (fv 0) (fv 1))) aA)) (aB (m8 PassesOwn.never (fP i9 (fv 2) (fv 1)) (aB (fS 1 eT.nd (fv 2)) (aE (fS 2 eT.nd (aO dF (aU cD (fv 1) (aO dF (fv 0) (fv 1))) aA))))) (aE (aG (fv 1)))))))) ?_;rintro as Q ⟨n,rfl,hb,q⟩;refine⟨LV _,?_⟩;show if L2.cS (.int (n:Int)) (.int 0)=true then _ else _
 by_cases hn:n=0
 ·subst hn;rw[oV (show L2.cS (.int ((0:Nat):Int)) (.int 0)=true by decide)];exact⟨rfl,q 0 ⟨∅,∅⟩⟩
 ·rw[oW (by simp[L2.cS];lia)];obtain⟨g0,eg,gp,gs,gb,c0,cb⟩:=Ej hn;have big:∀g:Nat,g<=2^3000->((g:Int)).natAbs<2^8000:=λg h=>by
   rw[Int.natAbs_natCast];exact ML h (Nat.pow_lt_pow_right ∅ ∅)
  have ve:∀i:Int,yE i 2:=λi=>⟨∅,sM (e:=2) ∅ ∅⟩;refine⟨ve _,⟨c0,Int.le_trans (cb 3000 hb) ∅,∅⟩,?_⟩;have eg':(λi j:Int=>i*2^j.toNat) 1 ((((Builtin.Int.intBits (n:Int):Nat):Int)+1).fdiv 2)=(g0:Int):=eg;rw[eg'];refine⟨⟨⋯,big g0 (gb _ hb)⟩,ve _,?_⟩;rw[vG];refine⟨λm E=>∃g:Nat,E=[↑(n:Int),↑(g:Int),↑(((g+n/g)/2:Nat):Int)]/\m=g/\0<g/\g<=2^3000/\n<(g+1)*(g+1),⟨_,g0,rfl,rfl,gp,gb _ hb,Nat.lt_trans gs (RO (OE _) (OE _))⟩,?_⟩;rintro m E ⟨g,rfl,rfl,hg,hgb,hgn⟩;show if decide ((((m+n/m)/2:Nat):Int)<(m:Int))=true then _ else _
  by_cases XO:(m+n/m)/2<m
  ·rw[oY ⋯,oV rfl];have hp:0<(m+n/m)/2:=by
    obtain z|z:=PH ((m+n/m)/2)
    ·have:=vY (s:=n) hg;rw[z]at this
     lia
    ·exact z
   refine⟨⟨⋯,big _ ⋯⟩,ve _,?_⟩;rw[vG];exact⟨_,XO,_,rfl,rfl,hp,⋯,vY hg⟩
  ·rw[oX ⋯,oW ∅];exact⟨rfl,q m ⟨Iz hg XO,hgn⟩⟩
theorem Vp(r:Rat):∃f:Fr,bI f/\val f=r:=by
 refine⟨(r.num,(r.den:Int)),⟨by have:=r.den_pos;show(1:Int)<=(r.den:Int);lia,?_⟩,?_⟩
 ·show MJ r.num.natAbs ((r.den:Int)).natAbs=1;rw[Int.natAbs_natCast];exact r.reduced
 ·show(r.num:Rat)/((r.den:Int):Rat)=r;rw[<-Rat.divInt_eq_div];exact Rat.num_divInt_den r
theorem Cw(hp:bI p)(hf:bI f)(h:val p=val f*val f):f.1*f.1=p.1/\f.2*f.2=p.2:=by
 have n:bI (f.1*f.1,f.2*f.2):=by
  refine⟨?_,?_⟩
  ·have h1:1*1<=f.2*f.2:=SJ hf.d hf.d ∅ (by have:=hf.d;lia);exact h1
  ·show MJ (f.1*f.1).natAbs (f.2*f.2).natAbs=1;rw[MO,MO,<-RC,<-RC];exact Nat.Coprime.pow 2 2 hf.g
 have e:(f.1*f.1,f.2*f.2)=p:=by
  refine b9 n hp ?_;rw[h];have:=hf.neR;show((f.1*f.1:Int):Rat)/((f.2*f.2:Int):Rat)=_;unfold val
  push_cast
  grind
 rw[<-e];exact⟨rfl,rfl⟩
theorem Mw(hf:bI f)(h1:f.1*f.1=p.1)(h2:f.2*f.2=p.2):sz f<=sz p:=by
 have a:∀x y:Int,x*x=y->x.natAbs<=y.natAbs:=λx y h=>by
  have:=Int.natAbs_mul_self (a:=x);rw[<-h,MO];obtain z|z:=PH x.natAbs
  ·rw[z];exact LV _
  ·exact Nat.le_mul_of_pos_left _ z
 exact oP (ML (a _ _ h1) (dR p)) (ML (a _ _ h2) (bV p)) (Kg p)
theorem M3{f:Int}{n:Nat}(h0:0<=f)(h:f*f=(n:Int)):Rj n f.natAbs:=by
 have h1:f.natAbs*f.natAbs=n:=by
  have:=Int.natAbs_mul_self (a:=f)
  lia
 exact⟨⋯,by rw[<-h1];exact RO (OE _) (OE _)⟩
def O6:dG:=λas Q=>∃p f:Fr,as=[.v (fr p)]/\bI p/\bI f/\sz p<=2900/\0<=val f/\val p=val f*val f/\Q (.v (fr f)) []
abbrev u5(P w K mg base):=(~~~Fn) 2 "root_of" ["one"] (aI K O6)
abbrev sW:SV:=top 9
theorem l9:aF ["one","n","d","top","bottom"] ["one"] (aC sW):=dH
theorem Jg(F:cI K "root_of" "root_of" sW f fd)(TX:Txt mg)(XD: ~~~pJ):(~~~aS) cJ 2 f fd ["one"] (aI K O6):=by
 refine F.okU l9 (λhr=>(aB (d8 (fv 0) (dA (n:=2) rfl rfl (aM (fG 1 l9.nd) (aM (fG 2 l9.nd) cE)))) (aB (b8 (fP i9 (fv 1) aA) (aE (aG Ap)) bH) (aB (gZ (i:=3) (j:=4) rfl l9.nd rfl rfl ∅ rfl rfl (f2 (fK XD (f1 (fv 1))) (fK XD (f1 (fv 2)))) rfl) (aB (b8 (t7 (m9 (pN rfl hr (aO aW (fv 3) (fv 3)) (fv 1) (aV _)) (lK (pN rfl hr (aO aW (fv 4) (fv 4)) (fv 2) (aV _))))) (aE (aG Ap)) bH) (aE (aG (aN (f2 (fv 3) (fv 4)))))))))) ?_;rintro as Q ⟨p,f,rfl,hp,hf,hs,f0,h,q⟩;obtain⟨h1,h2⟩:=Cw hp hf h;have n0:=(dN hf).1 f0;have d0:=hf.d;have p0:0<=p.1:=by rw[<-h1];exact PR n0 n0
 have pd:=hp.d;have e1:p.1=((p.1.natAbs:Nat):Int):=⋯
 have e2:p.2=((p.2.natAbs:Nat):Int):=⋯
 have bb:∀x:Nat,x<2^sz p->x<2^3000:=λx h=>pl h ⋯;show if decide (p.1<0)=true then _ else _;rw[oX ⋯,oW ∅];refine⟨p.1.natAbs,by rw[<-e1];rfl,bb _ (dR p),λr hr=>?_⟩;refine⟨p.2.natAbs,by rw[<-e2];rfl,bb _ (bV p),λt ht=>?_⟩;have er:r=f.1.natAbs:=hr.uniq (M3 n0 (h1.trans e1));have et:t=f.2.natAbs:=ht.uniq (M3 ⋯ (h2.trans e2));have r1:(r:Int)=f.1:=⋯
 have t1:(t:Int)=f.2:=⋯
 have zf:=Mw hf h1 h2;have m1:∀{i:Int},i.natAbs<2^sz f->yF i i:=λh=>jR (e:=3000) (pl h ⋯) (pl h ⋯) ∅;rw[r1,t1];refine⟨m1 (dR f),LV _,?_⟩;show if(!L2.cS (.int (f.1*f.1)) (.int p.1))=true then _ else _;rw[h1,dQ,oW ∅];refine⟨m1 (bV f),LV _,?_⟩;show if(!L2.cS (.int (f.2*f.2)) (.int p.2))=true then _ else _;rw[h2,dQ,oW ∅];exact⟨rfl,q⟩
abbrev kO(P w K mg base):=(~~~Fn) 4 "minus" oG (aI K J2)
abbrev Cm:SV:=top 12
theorem Wj:aF oG oG (aC Cm):=dH
theorem Uk(F:cI K "minus" "minus" Cm f fd)(TX:Txt mg)(WH: ~~~kQ):(~~~aS) cJ 4 f fd oG (aI K J2):=by
 refine F.okU Wj (λhr=>(aE (aG (aN (f2 (fK WH (f2 (fQ 0) (fQ 1))) (fK WH (f2 (fQ 0) (fQ 1)))))))) ?_;rintro as Q ⟨x,y,p,q,e,f,rfl,h,k,hs,z⟩;have:=h.sx;have:=h.sy;have:=k.sx;have:=k.sy;exact⟨_,_,rfl,h.x,k.x,⋯,_,_,rfl,h.y,k.y,⋯,rfl,z⟩
theorem qR(h:Nv x y e)(k:Nv p q f):sz (cM x y p q)<=2*(e+f)+1:=by
 have:=h.sx;have:=h.sy;have:=k.sx;have:=k.sy;have s1:=cG h.x k.x;have s2:=cG h.y k.y;have s6:=iY (aP h.x k.x) (aP h.y k.y);show sz (bJ (aJ x p) (aJ y q))<=_
 lia
structure vA(x y f:Fr):Prop where
 nv:Nv x y 610
 nf:bI f
 pos:0<val f
 sq:val x*val x+val y*val y=val f*val f
theorem vA.sz(h:vA x y f):sz f<=2801:=by
 have v:=dX h.nv h.nv;rw[h.sq]at v;obtain⟨h1,h2⟩:=Cw (bB h.nv h.nv) h.nf v;have a:=Mw h.nf h1 h2;have b:=qR h.nv h.nv
 lia
theorem Ep{a:Int}{b:Int}(h:a*a=b)(k:b.natAbs<2^(2*e)):a.natAbs<2^e:=by
 rw[<-h,MO,OX,Nat.pow_add]at k
 by_cases c:a.natAbs<2^e
 ·exact c
 ·have c:=Nat.le_of_not_lt c;have:=PU c c
  lia
theorem vA.half(h:vA x y f):My.sz f<=1221:=by
 have v:=dX h.nv h.nv;rw[h.sq]at v;obtain⟨h1,h2⟩:=Cw (bB h.nv h.nv) h.nf v;have b:=qR h.nv h.nv;exact oP (Ep h1 (pl (dR _) (show My.sz (cM x y x y)<=2*1221 by lia))) (Ep h2 (pl (bV _) (show My.sz (cM x y x y)<=2*1221 by lia))) ∅
theorem vA.unit(h:vA x y f):Nv (bZ x f) (bZ y f) 1831:=by
 have f1:f.1≠0:=by have:=(mG h.nf).1 h.pos;lia
 have s:=h.half;have:=h.nv.sx;have:=h.nv.sy;have a:=rZ h.nv.x f1;have b:=rZ h.nv.y f1;exact⟨kZ h.nv.x f1,kZ h.nv.y f1,⋯,⋯⟩
def EX:dG:=λas Q=>∃x y f:Fr,as=[.v (vc x y)]/\vA x y f/\Q (.v (fr f)) []
abbrev lE(P w K mg base):=(~~~Fn) 5 "length_of" oN (aI K EX)
abbrev nT:SV:=top 19
theorem Cr:aF oN oN (aC nT):=dH
theorem Bq(F:cI K "length_of" "length_of" nT f fd)(TX:Txt mg)(YY: ~~~u5)(WU: ~~~pR):(~~~aS) cJ 5 f fd oN (aI K EX):=by
 refine F.okU Cr (λhr=>(aE (aG (fK YY (f1 (fK WU (f2 (fv 0) (fv 0)))))))) ?_;rintro as Q ⟨x,y,f,rfl,h,q⟩;have:=qR h.nv h.nv;have v:=dX h.nv h.nv;rw[h.sq]at v;exact⟨x,y,x,y,610,610,rfl,h.nv,h.nv,∅,_,f,rfl,bB h.nv h.nv,h.nf,⋯,Rat.le_of_lt h.pos,v,rfl,q⟩
def Np:dG:=λas Q=>∃x y f:Fr,as=[.v (vc x y)]/\vA x y f/\Q (.v (vc (bZ x f) (bZ y f))) []
abbrev lH(P w K mg base):=(~~~Fn) 6 "unit_of" oN (aI K Np)
abbrev tE:SV:=top 20
theorem xG:aF ["vector","length"] oN (aC tE):=dH
theorem Jl(F:cI K "unit_of" "unit_of" tE f fd)(TX:Txt mg)(WV: ~~~lE)(WZ: ~~~q0):(~~~aS) cJ 6 f fd oN (aI K Np):=by
 refine F.okU xG (λhr=>(aB (fS 1 xG.nd (fK WV (f1 (fv 0)))) (aB (b8 (t7 (m9 (T5 (fv 1) (aV _)) (lK (eQ rfl hr (fv 1) (aN (f2 aA aA)) (aV _))))) (aE (aG Ap)) bH) (aE (aG (aN (f2 (fK WZ (f2 (fQ 0) (fv 1))) (fK WZ (f2 (fQ 0) (fv 1)))))))))) ?_;rintro as Q ⟨x,y,f,rfl,h,q⟩;have f1:f.1≠0:=by have:=(mG h.nf).1 h.pos;lia
 have ne:¬f=((0:Int),(1:Int)):=λz=>f1 (by rw[z]);have s:=h.sz;have:=h.nv.sx;have:=h.nv.sy;refine⟨x,y,f,rfl,h,b7 rfl,?_⟩;show if L2.cS (fr f) (fr (0,1))=true then _ else _;rw[Ld,oX ne,oW ∅];exact⟨_,_,rfl,h.nv.x,h.nf,f1,⋯,_,_,rfl,h.nv.y,h.nf,f1,⋯,rfl,q⟩
def EH:Pc->Bool
 |.side _ _=>true
 |.arc _ _ _ _ _=>false
def zP:dG:=λas Q=>∃x y:Fr,as=[.v (vc x y)]/\Q (.v (vc y (aK x))) []
abbrev iN(P w K mg base):=(~~~Fn) 1 "right_of" oN (aI K zP)
abbrev qN:SV:=top 17
theorem oO:aF ["vector","x","y"] oN (aC qN):=dH
theorem Ga(F:cI K "right_of" "right_of" qN f fd)(TX:Txt mg):(~~~aS) cJ 1 f fd oN (aI K zP):=by
 refine F.okU oO (λhr=>(aB (d8 (fv 0) (dA (n:=2) rfl rfl (aM (fG 1 oO.nd) (aM (fG 2 oO.nd) cE)))) (aE (aG (aN (f2 (fv 2) (aN (f2 (d7 (fQ 1)) (fQ 1))))))))) ?_;rintro as Q ⟨x,y,rfl,q⟩;exact⟨rfl,q⟩
def Nd:dG:=λas Q=>∃p:Pc,as=[.v (jD p)]/\Q (.v (.bl (EH p))) []
theorem EJ:L2.cS (.str "side") (.str "side")=true:=dQ _
theorem BM:L2.cS (.str "arc") (.str "side")=false:=∅
abbrev jI(P w K mg base):=(~~~Fn) 1 "is_side" ["piece"] (aI K Nd)
abbrev sS:SV:=top 22
theorem Ka:aF ["piece"] ["piece"] (aC sS):=dH
theorem Jd(F:cI K "is_side" "is_side" sS f fd)(TX:Txt mg):(~~~aS) cJ 1 f fd ["piece"] (aI K Nd):=by
 refine F.okU Ka (λhr=>(aE (aG (tO rfl hr (fQ 0) bA (aV _))))) ?_;rintro as Q ⟨p,rfl,q⟩;cases p with
 |side x y=>
  refine⟨LV _,rfl,?_⟩;rw[EJ];exact q
 |arc m n x y l=>
  refine⟨LV _,rfl,?_⟩;rw[BM];exact q
def KQ(p:Pc):L2.T:=vc p.px p.py
def Xb:dG:=λas Q=>∃p:Pc,as=[.v (jD p)]/\Q (.v (KQ p)) []
abbrev fL(P w K mg base):=(~~~Fn) 2 "end_of" ["piece"] (aI K Xb)
abbrev wU:SV:=top 23
theorem Qq:aF ["piece"] ["piece"] (aC wU):=dH
theorem Pt(F:cI K "end_of" "end_of" wU f fd)(TX:Txt mg)(WE: ~~~jI):(~~~aS) cJ 2 f fd ["piece"] (aI K Xb):=by
 refine F.okU Qq (λhr=>(aE (aG (pM (fV (fK WE (f1 (fv 0)))) (fQ 0) (fQ 0))))) ?_;rintro as Q ⟨p,rfl,q⟩;refine⟨p,rfl,?_⟩;cases p with
 |side x y=>exact⟨rfl,q⟩
 |arc m n x y l=>exact⟨rfl,q⟩
theorem nK{ps:List Pc}{i:Nat}(h:ps[i]?=oZ p):eV (ps.map jD) (i:Int)=oZ (jD p):=lI (by rw[LB,h];rfl)
theorem vV{ps:List Pc}:∀{a:Fr}{i:Nat}{p:Pc},ps[i]?=oZ p->cO a (ps.take (i+1))=p.px:=by
 induction ps with
 |nil=>intro a i p h;simp at h
 |cons q ps ih=>
  intro a i p h;cases i with
  |zero=>cases h;rfl
  |succ i=>exact ih (a:=q.px) (i:=i) (by simpa using h)
theorem vW{ps:List Pc}:∀{a:Fr}{i:Nat}{p:Pc},ps[i]?=oZ p->cP a (ps.take (i+1))=p.py:=by
 induction ps with
 |nil=>intro a i p h;simp at h
 |cons q ps ih=>
  intro a i p h;cases i with
  |zero=>cases h;rfl
  |succ i=>exact ih (a:=q.py) (i:=i) (by simpa using h)
def Wv:dG:=λas Q=>∃(a b:Fr)(ps:List Pc)(i:Nat),as=[.v (cF a b ps),.v (.int (i:Int))]/\i<ps.length/\Q (.v (vc (cO a (ps.take i)) (cP b (ps.take i)))) []
abbrev iK(P w K mg base):=(~~~Fn) 3 "begin_of" oI (aI K Wv)
abbrev qD:SV:=top 24
theorem Gn:aF oI oI (aC qD):=dH
theorem Fl(F:cI K "begin_of" "begin_of" qD f fd)(TX:Txt mg)(VQ: ~~~fL):(~~~aS) cJ 3 f fd oI (aI K Wv):=by
 refine F.okU Gn (λhr=>(aE (aG (pM (eQ rfl hr (fv 1) aA (aV _)) (fQ 0) (fK VQ (f1 (fX (fQ 0) (aU g8 (fv 1) aA)))))))) ?_;rintro as Q ⟨a,b,ps,i,rfl,hi,q⟩;refine⟨LV _,?_⟩;show if L2.cS (.int (i:Int)) (.int 0)=true then _ else _;cases i with
 |zero=>
  rw[oV ∅];exact⟨rfl,q⟩
 |succ i=>
  rw[oW (by simp[L2.cS];lia)];have cf:i<ps.length:=⋯
  have e:((i+1:Nat):Int)-1=(i:Int):=⋯
  show o1 (eV (ps.map jD) (((i+1:Nat):Int)-1)) _;rw[e,nK (LA cf)];refine⟨ps[i],rfl,rfl,?_⟩;have h:=LA cf;rw[vV h,vW h]at q;exact q
theorem Zw:∀{ps:List Pc},ps≠[]->∃L p,ps=L++[p]:=λ{ps}h=>⟨ps.dropLast,ps.getLast h,(RB h).symm⟩
theorem vF(L:List L2.T)(t:L2.T):eV (L++[t]) (-1)=oZ t:=by
 have e:Hn (L++[t]).length (-1)=oZ L.length:=by
  unfold Hn;rw[oW ∅,oV (by rw[LG,MD];lia),LG,MD]
  congr 1
  lia
 unfold eV;rw[e];show(L++[t])[L.length]?=_;simp
def Mz:dG:=λas Q=>∃(a b:Fr)(ps:List Pc),as=[.v (cF a b ps)]/\ps≠[]/\Q (.v (.bl (decide (cO a ps=a/\cP b ps=b)))) []
abbrev lD(P w K mg base):=(~~~Fn) 3 "is_closed" ["path"] (aI K Mz)
abbrev nQ:SV:=top 25
theorem Cq:aF ["path"] ["path"] (aC nQ):=dH
theorem Bn(F:cI K "is_closed" "is_closed" nQ f fd)(TX:Txt mg)(VQ: ~~~fL):(~~~aS) cJ 3 f fd ["path"] (aI K Mz):=by
 refine F.okU Cq (λhr=>(aE (aG (tO rfl hr (fK VQ (f1 (fX (fQ 0) (d7 aA)))) (fQ 0) (aV _))))) ?_;rintro as Q ⟨a,b,ps,rfl,hn,q⟩;obtain⟨L,p,rfl⟩:=Zw hn;show o1 (eV ((L++[p]).map jD) (-1)) _;rw[MF,show List.map jD [p]=[jD p]from rfl,vF];refine⟨p,rfl,b7 rfl,rfl,?_⟩;rw[pW,pX,<-yW]at q;exact q
theorem vZ(h:Nv x y e)(k:Nv p q f):Nv (aR x p) (aR y q) (e+f+1):=by
 have:=h.sx;have:=h.sy;have:=k.sx;have:=k.sy;have s1:=oR h.x k.x;have s2:=oR h.y k.y;exact⟨dM h.x k.x,dM h.y k.y,⋯,⋯⟩
def Ln(a b:Fr)(f:Fr):Pc->Prop
 |.side x y=>vA (aR x a) (aR y b) f
 |.arc m n x y _=>vA (aR a m) (aR b n) f/\vA (aR x m) (aR y n) f
theorem Iu{r:Rat}(h:Nv x y 300)(k:Nv p q 300)(hf:bI f)(e:val f=r)(r0:0<r)(hr:Ig x y p q=r*r):vA (aR x p) (aR y q) f:=by
 refine⟨(vZ h k).up ∅,hf,by rw[e];exact r0,?_⟩;rw[bW h.x k.x,bW h.y k.y,e,<-hr];rfl
theorem CS(h:Nv a b 300)(k:qA 300 a b p):∃f,Ln a b f p:=by
 cases p with
 |side x y=>
  obtain⟨n,r,r0,hr⟩:=k;obtain⟨f,f1,f2⟩:=Vp r;exact⟨f,Iu n h f1 f2 r0 hr⟩
 |arc m n x y l=>
  obtain⟨n1,n2,_,r,r0,hr1,hr2⟩:=k;obtain⟨f,f1,f2⟩:=Vp r;exact⟨f,Iu h n1 f1 f2 r0 hr1,Iu n2 n1 f1 f2 r0 hr2⟩
theorem mX:∀{a b:Fr}{i:Nat}{p:Pc},jO e a b ps->ps[i]?=oZ p->qA e (cO a (ps.take i)) (cP b (ps.take i)) p:=by
 induction ps with
 |nil=>intro a b i p h k;simp at k
 |cons q ps ih=>
  intro a b i p h k;cases i with
  |zero=>cases k;exact h.1
  |succ i=>exact ih (i:=i) h.2 (by simpa using k)
theorem mY:∀{ps:List Pc}{a b:Fr}(i:Nat),Nv a b e->jO e a b ps->Nv (cO a (ps.take i)) (cP b (ps.take i)) e
 |[],_,_,i,h,_=>by rw[List.take_nil];exact h
 |_::_,_,_,0,h,_=>h
 |q::ps,_,_,i+1,h,k=>mY (ps:=ps) i (qA.nv k.1) k.2
def Zm(l:Bool)(ux uy:Fr):L2.T:=if l then vc (aK uy) ux else vc uy (aK ux)
def M8:dG:=λas Q=>∃(m n x y px py f:Fr)(l:Bool),as=[.v (jD (.arc m n x y l)),.v (vc px py)]/\Nv px py 300/\Nv m n 300/\vA (aR px m) (aR py n) f/\Q (.v (Zm l (bZ (aR px m) f) (bZ (aR py n) f))) []
abbrev mM(P w K mg base):=(~~~Fn) 7 "arc_heading" ["piece","point"] (aI K M8)
abbrev kH:SV:=top 28
theorem nZ:aF ["piece","point","unit"] ["piece","point"] (aC kH):=dH
theorem wB(F:cI K "arc_heading" "arc_heading" kH f fd)(TX:Txt mg)(WM: ~~~lH)(WG: ~~~kO)(VT: ~~~gV)(VW: ~~~iN):(~~~aS) cJ 7 f fd ["piece","point"] (aI K M8):=by
 refine F.okU nZ (λhr=>(aB (fS 2 nZ.nd (fK WM (f1 (fK WG (f2 (fv 1) (fQ 0)))))) (aE (aG (pM (eQ rfl hr (fQ 0) bA (aV _)) (fK VT (f1 (fv 2))) (fK VW (f1 (fv 2)))))))) ?_;rintro as Q ⟨m,n,x,y,px,py,f,l,rfl,h,k,lg,q⟩;refine⟨px,py,m,n,300,300,rfl,h,k,∅,_,_,f,rfl,lg,LV _,?_⟩;show if L2.cS (.str (r6 l)) (.str "left")=true then _ else _;cases l with
 |true=>
  rw[oV ∅];exact⟨_,_,rfl,rfl,q⟩
 |false=>
  rw[oW ∅];exact⟨_,_,rfl,rfl,q⟩
def Td(a b f:Fr):Pc->L2.T
 |.side x y=>.tup [vc (bZ (aR x a) f) (bZ (aR y b) f),vc (bZ (aR x a) f) (bZ (aR y b) f)]
 |.arc m n x y l=>.tup [Zm l (bZ (aR a m) f) (bZ (aR b n) f),Zm l (bZ (aR x m) f) (bZ (aR y n) f)]
structure Rm(a b:Fr)(ps:List Pc)(i:Nat)(p:Pc)(f:Fr):Prop where
 at_:ps[i]?=oZ p
 nv:Nv a b 300
 ch:jO 300 a b ps
 ln:Ln (cO a (ps.take i)) (cP b (ps.take i)) f p
theorem Tc(l:Bool)(x y:Fr):noL (Zm l x y)=true:=by cases l<;>rfl
def zO:dG:=λas Q=>∃(a b:Fr)(ps:List Pc)(i:Nat)(p:Pc)(f:Fr),as=[.v (cF a b ps),.v (.int (i:Int))]/\Rm a b ps i p f/\Q (.v (Td (cO a (ps.take i)) (cP b (ps.take i)) f p)) []
abbrev iM(P w K mg base):=(~~~Fn) 8 "headings" oI (aI K zO)
abbrev qH:SV:=top 29
theorem kD:aF ["path","number","piece","begin","to","direction"] oI (aC qH):=dH
theorem Ft(F:cI K "headings" "headings" qH f fd)(TX:Txt mg)(WC: ~~~iK)(VQ: ~~~fL)(WE: ~~~jI)(WM: ~~~lH)(WG: ~~~kO)(XC: ~~~mM):(~~~aS) cJ 8 f fd oI (aI K zO):=by
 refine F.okU kD (λhr=>(aB (fS 2 kD.nd (fX (fQ 0) (fv 1))) (aB (gZ (i:=3) (j:=4) rfl kD.nd rfl rfl ∅ rfl rfl (f2 (fK WC (f2 (fv 0) (fv 1))) (fK VQ (f1 (fv 2)))) rfl) (aB (b8 (fV (fK WE (f1 (fv 2)))) (aB (fS 5 kD.nd (fK WM (f1 (fK WG (f2 (fv 4) (fv 3)))))) (aE (aG (aN (f2 (fv 5) (fv 5)))))) bH) (aE (aG (aN (f2 (fK XC (f2 (fv 2) (fv 3))) (fK XC (f2 (fv 2) (fv 4))))))))))) ?_;rintro as Q ⟨a,b,ps,i,p,f,rfl,h,q⟩;have hi:=(KZ.mp h.at_).1;have nb:=mY i h.nv h.ch;have ok:=mX h.ch h.at_;have ln:=h.ln;show o1 (eV (ps.map jD) (i:Int)) _;rw[nK h.at_];refine⟨a,b,ps,i,rfl,hi,p,rfl,p,rfl,?_⟩;generalize cO a (ps.take i)=bx at nb ok ln q⊢;generalize cP b (ps.take i)=by' at nb ok ln q⊢;cases p with
 |side x y=>
  exact⟨x,y,bx,by',300,300,rfl,ok.1,nb,∅,_,_,f,rfl,ln,rfl,q⟩
 |arc m n x y l=>
  refine⟨m,n,x,y,bx,by',f,l,rfl,nb,ok.1,ln.1,m,n,x,y,x,y,f,l,rfl,ok.2.1,ok.1,ln.2,?_,q⟩;show(noL (Zm l _ _)&&(noL (Zm l _ _)&&true))=true;rw[Tc,Tc];rfl
def IV(f:Fr):Pc->L2.T
 |.side _ _=>.non
 |.arc _ _ _ _ _=>fr f
def Nk:dG:=λas Q=>∃(a b:Fr)(ps:List Pc)(i:Nat)(p:Pc)(f:Fr),as=[.v (cF a b ps),.v (.int (i:Int))]/\Rm a b ps i p f/\Q (.v (IV f p)) []
abbrev rB(P w K mg base):=(~~~Fn) 6 "radius_of" oI (aI K Nk)
abbrev nV:SV:=top 26
theorem rW:aF ["path","number","piece"] oI (aC nV):=dH
theorem Bs(F:cI K "radius_of" "radius_of" nV f fd)(TX:Txt mg)(WE: ~~~jI)(WV: ~~~lE)(WG: ~~~kO)(VQ: ~~~fL):(~~~aS) cJ 6 f fd oI (aI K Nk):=by
 refine F.okU rW (λhr=>(aB (fS 2 rW.nd (fX (fQ 0) (fv 1))) (aB (b8 (fV (fK WE (f1 (fv 2)))) (aE (aG Ap)) bH) (aE (aG (fK WV (f1 (fK WG (f2 (fK VQ (f1 (fv 2))) (fQ 2)))))))))) ?_;rintro as Q ⟨a,b,ps,i,p,f,rfl,h,q⟩;have ok:=mX h.ch h.at_;have ln:=h.ln;show o1 (eV (ps.map jD) (i:Int)) _;rw[nK h.at_];refine⟨p,rfl,?_⟩;cases p with
 |side x y=>exact⟨rfl,q⟩
 |arc m n x y l=>exact⟨_,rfl,x,y,m,n,300,300,rfl,ok.2.1,ok.1,∅,_,_,f,rfl,ln.2,rfl,q⟩
def Yi(l:Bool)(ux uy:Fr):Fr×Fr:=if l then(aK uy,ux)else(uy,aK ux)
def hB(a b f:Fr):Pc->Fr×Fr
 |.side x y=>(bZ (aR x a) f,bZ (aR y b) f)
 |.arc m n _ _ l=>Yi l (bZ (aR a m) f) (bZ (aR b n) f)
def hE(a b f:Fr):Pc->Fr×Fr
 |.side x y=>(bZ (aR x a) f,bZ (aR y b) f)
 |.arc m n x y l=>Yi l (bZ (aR x m) f) (bZ (aR y n) f)
def bE(p:Fr×Fr):L2.T:=vc p.1 p.2
theorem K8(l:Bool)(x y:Fr):Zm l x y=bE (Yi l x y):=by cases l<;>rfl
theorem Ay(a b f:Fr)(p:Pc):Td a b f p = .tup [bE (hB a b f p),bE (hE a b f p)]:=by
 cases p with
 |side x y=>rfl
 |arc m n x y l=>show L2.T.tup [Zm l _ _,Zm l _ _]=_;rw[K8,K8];rfl
def BG(p:Fr×Fr):Prop:=Nv p.1 p.2 1831
theorem L8(h:Nv x y 1831):BG (Yi l x y):=by
 cases l with
 |true=>exact⟨e7 h.y,h.x,by show sz (aK y)<=1831;rw[oQ];exact h.sy,h.sx⟩
 |false=>exact⟨h.y,e7 h.x,h.sy,by show sz (aK x)<=1831;rw[oQ];exact h.sx⟩
theorem CW:∀{p:Pc},Ln a b f p->BG (hB a b f p)
 |.side x y,h=>vA.unit h
 |.arc m n x y l,h=>L8 (vA.unit h.1)
theorem CY:∀{p:Pc},Ln a b f p->BG (hE a b f p)
 |.side x y,h=>vA.unit h
 |.arc m n x y l,h=>L8 (vA.unit h.2)
def dI(i n:Nat):Nat:=if i=0 then n-1 else i-1
theorem Ny{i n:Nat}(h:i<n):((i:Int)-1)%(n:Int)=(dI i n:Int):=by
 unfold dI
 by_cases c:i=0
 ·subst c;rw[oV rfl];have e:(((0:Nat):Int)-1)%(n:Int)=((n:Int)-1)%(n:Int):=by
   rw[show((0:Nat):Int)-1=((n:Int)-1)+(n:Int)*(-1) by lia,Int.add_mul_emod_self_left]
  rw[e,Int.emod_eq_of_lt ⋯ ⋯]
  lia
 ·rw[oW c,Int.emod_eq_of_lt ⋯ ⋯]
  lia
theorem Dm(h:i<n):dI i n<n:=by unfold dI;split<;>lia
structure Nb(a b:Fr)(ps:List Pc)(i:Nat)(p q:Pc)(f g:Fr):Prop where
 one:Rm a b ps i p f
 two:Rm a b ps (dI i ps.length) q g
abbrev uE(a b:Fr)(ps:List Pc)(i:Nat)(q:Pc)(g:Fr):Fr×Fr:=hE (cO a (ps.take (dI i ps.length))) (cP b (ps.take (dI i ps.length))) g q
abbrev uB(a b:Fr)(ps:List Pc)(i:Nat)(p:Pc)(f:Fr):Fr×Fr:=hB (cO a (ps.take i)) (cP b (ps.take i)) f p
def Hd:dG:=λas Q=>∃(a b:Fr)(ps:List Pc)(i:Nat)(p q:Pc)(f g:Fr),as=[.v (cF a b ps),.v (.int (i:Int))]/\Nb a b ps i p q f g/\Q (.v (.tup [bE (uE a b ps i q g),bE (uB a b ps i p f)])) []
abbrev mP(P w K mg base):=(~~~Fn) 4 "cross" oG (aI K (BB aY))
abbrev Cg:SV:=top 15
theorem Wf:aF oG oG (aC Cg):=dH
theorem Ug(F:cI K "cross" "cross" Cg f fd)(TX:Txt mg)(VU: ~~~jJ)(WH: ~~~kQ):(~~~aS) cJ 4 f fd oG (aI K (BB aY)):=by
 refine F.okU Wf (λhr=>(aE (aG (fK WH (f2 (fK VU (f2 (fQ 0) (fQ 1))) (fK VU (f2 (fQ 0) (fQ 1)))))))) ?_;rintro as Q ⟨x,y,x',y',e,f,rfl,h,k,he,q⟩;have:=h.sx;have:=h.sy;have:=k.sx;have:=k.sy;have n1:=aP h.x k.y;have n2:=aP h.y k.x;have s1:=cG h.x k.y;have s2:=cG h.y k.x;exact⟨_,_,rfl,h.x,k.y,⋯,_,_,rfl,h.y,k.x,⋯,_,_,rfl,n1,n2,⋯,rfl,q⟩
abbrev fF(P w K mg base):=(~~~Fn) 9 "corner_headings" oI (aI K Hd)
abbrev gF:SV:=top 30
theorem jZ:aF ["path","number","ahead"] oI (aC gF):=dH
theorem qB(F:cI K "corner_headings" "corner_headings" gF f fd)(TX:Txt mg)(VX: ~~~iM):(~~~aS) cJ 9 f fd oI (aI K Hd):=by
 refine F.okU jZ (λhr=>(aB (fS 2 jZ.nd (aO fZ (aU g8 (fv 1) aA) (dJ rfl rfl TX.n_len (f1 (fQ 0))))) (aE (aG (aN (f2 (fX (fK VX (f2 (fv 0) (fv 2))) aA) (fX (fK VX (f2 (fv 0) (fv 1))) aA))))))) ?_;rintro as Q ⟨a,b,ps,i,p,q,f,g,rfl,h,hq⟩;have hi:=(KZ.mp h.one.at_).1;have e:=Ny hi;have em:(((ps.map jD).length:Nat):Int)=(ps.length:Int):=by rw[LJ]
 refine⟨by show(0:Int)<(((ps.map jD).length:Nat):Int);lia,?_⟩;refine⟨a,b,ps,dI i ps.length,q,g,?_,h.two,?_⟩
 ·show[A.v (cF a b ps),A.v (.int (((i:Int)-1)%(((ps.map jD).length:Nat):Int)))]=_;rw[em,e]
 rw[Ay];refine⟨a,b,ps,i,p,f,rfl,h.one,?_⟩;rw[Ay];exact⟨rfl,hq⟩
def iZ(u w:Fr×Fr):Str:=if u=w then "straight" else if 0<(aY u.1 u.2 w.1 w.2).1 then "left" else if(aY u.1 u.2 w.1 w.2).1<0 then "right" else "back"
def Xl:dG:=λas Q=>∃(a b:Fr)(ps:List Pc)(i:Nat)(p q:Pc)(f g:Fr),as=[.v (cF a b ps),.v (.int (i:Int))]/\Nb a b ps i p q f g/\Q (.v (.str (iZ (uE a b ps i q g) (uB a b ps i p f)))) []
theorem Sh(u w:Fr×Fr):L2.cS (bE u) (bE w)=decide (u=w):=by
 show L2.cS (vc u.1 u.2) (vc w.1 w.2)=_;rw[yW];simp[Prod.ext_iff]
abbrev mO(P w K mg base):=(~~~Fn) 10 "corner_word" oI (aI K Xl)
abbrev kJ:SV:=top 31
theorem gJ:aF ["path","number","bend","u","w"] oI (aC kJ):=dH
theorem wD(F:cI K "corner_word" "corner_word" kJ f fd)(TX:Txt mg)(WA: ~~~fF)(WT: ~~~mP):(~~~aS) cJ 10 f fd oI (aI K Xl):=by
 refine F.okU gJ (λhr=>(aB (d8 (fK WA (f2 (fv 0) (fv 1))) (dA (n:=2) rfl rfl (aM (fG 3 gJ.nd) (aM (fG 4 gJ.nd) cE)))) (aB (b8 (eQ rfl hr (fv 3) (fv 4) (aV _)) (aE (aG bA)) bH) (aB (fS 2 gJ.nd (fX (fK WT (f2 (fv 3) (fv 4))) aA)) (aB (b8 (fP rR (fv 2) aA) (aE (aG bA)) bH) (aE (aG (pM (fP i9 (fv 2) aA) bA bA)))))))) ?_;rintro as Q ⟨a,b,ps,i,p,q,f,g,rfl,h,hq⟩;refine⟨a,b,ps,i,p,q,f,g,rfl,h,?_⟩;have nu:BG (uE a b ps i q g):=CY h.two.ln;have nw:BG (uB a b ps i p f):=CW h.one.ln;generalize uE a b ps i q g=u at nu hq⊢;generalize uB a b ps i p f=w at nw hq⊢;refine⟨b7 rfl,?_⟩;show if L2.cS (bE u) (bE w)=true then _ else _;rw[Sh];unfold iZ at hq
 by_cases c:u=w
 ·rw[oY c,oV rfl];rw[oV c]at hq;exact⟨rfl,hq⟩
 ·rw[oX c,oW ∅];rw[oW c]at hq;refine⟨u.1,u.2,w.1,w.2,1831,1831,rfl,nu,nw,∅,?_⟩;generalize(aY u.1 u.2 w.1 w.2)=z at hq⊢;show if decide (z.1>0)=true then _ else _
  by_cases c1:0<z.1
  ·rw[oY c1,oV rfl];rw[oV c1]at hq;exact⟨rfl,hq⟩
  ·rw[oX c1,oW ∅];rw[oW c1]at hq;show if decide (z.1<0)=true then _ else _
   by_cases c2:z.1<0
   ·rw[oY c2,oV rfl];rw[oV c2]at hq;exact⟨rfl,hq⟩
   ·rw[oX c2,oW ∅];rw[oW c2]at hq;exact⟨rfl,hq⟩
noncomputable def Sk (a b:Fr) (p:Pc):Fr:=@Classical.epsilon Fr ⟨(0,1)⟩ λf=>Ln a b f p
theorem Le(h:Nv a b 300)(k:qA 300 a b p):Ln a b (Sk a b p) p:=@Classical.epsilon_spec_aux Fr ⟨(0,1)⟩ (λf=>Ln a b f p) (CS h k)
noncomputable def uW (a b:Fr) (ps:List Pc) (i:Nat) (p q:Pc):Str:=
 iZ (uE a b ps i q (Sk (cO a (ps.take (dI i ps.length))) (cP b (ps.take (dI i ps.length))) q)) (uB a b ps i p (Sk (cO a (ps.take i)) (cP b (ps.take i)) p))
noncomputable def cw (a b:Fr) (ps:List Pc) (i:Nat):Str:=((ps[i]?).bind λp=>(ps[dI i ps.length]?).map λq=>uW a b ps i p q).getD ""
theorem L7(nv:Nv a b 300)(ch:jO 300 a b ps)(hi:i<ps.length):∃p q f g,Nb a b ps i p q f g/\iZ (uE a b ps i q g) (uB a b ps i p f)=cw a b ps i:=by
 have h1:=LA hi;have h2:=LA (Dm hi);refine⟨_,_,_,_,⟨⟨h1,nv,ch,Le (mY i nv ch) (mX ch h1)⟩,⟨h2,nv,ch,Le (mY _ nv ch) (mX ch h2)⟩⟩,?_⟩;unfold cw;rw[h1,h2];rfl
noncomputable def JD (a b:Fr) (ps:List Pc) (i:Nat):L2.T:=.tup [.int (i:Int),.str (cw a b ps i)]
noncomputable def Yf (a b:Fr) (ps:List Pc) (k m:Nat):List L2.T:=(NP m).map λj=>JD a b ps (k+j)
theorem Ea(a b:Fr)(ps:List Pc)(k m:Nat):Yf a b ps k (m+1)=Yf a b ps k m++[JD a b ps (k+m)]:=by
 unfold Yf;rw[QX,MF];rfl
theorem Yt(a b:Fr)(ps:List Pc)(k m:Nat):(Yf a b ps k m).length=m:=by unfold Yf;simp
theorem Ey:∀(xs:List L2.T)(t:L2.T),bM xs=true->noL t=true->bM (xs++[t])=true
 |[],t,_,h=>by show(noL t&&true)=true;rw[h];rfl
 |x::xs,t,h1,h=>by
  have h1:(noL x&&bM xs)=true:=h1;rw[MT]at h1;show(noL x&&bM (xs++[t]))=true;rw[h1.1,Ey xs t h1.2 h];rfl
theorem nI(a b:Fr)(ps:List Pc)(k:Nat):∀m,bM (Yf a b ps k m)=true
 |0=>rfl
 |m+1=>by rw[Ea];exact Ey _ _ (nI a b ps k m) rfl
def Rg(a b:Fr)(ps:List Pc):Bool:=decide (cO a ps=a/\cP b ps=b)
def fst(a b:Fr)(ps:List Pc):Nat:=if Rg a b ps=true then 0 else 1
theorem T2(a b:Fr)(ps:List Pc):fst a b ps<=1:=by unfold fst;split<;>lia
def He:dG:=λas Q=>∃(a b:Fr)(ps:List Pc),as=[.v (cF a b ps)]/\Nv a b 300/\ps≠[]/\ps.length<=12/\jO 300 a b ps/\Q (.l (Yf a b ps (fst a b ps) (ps.length-fst a b ps))) []
theorem rJ{Q:En->Prop}(nv:Nv a b 300)(hl:ps.length<=12)(ch:jO 300 a b ps)(hk:k<=ps.length)(hQ:∀v0,Q [v0,⇑(cF a b ps),↥(Yf a b ps k (ps.length-k))]):
  kB (pO 0) (CG (i7 (Oz 0) (i7 (Ee Xl (i7 (Oz 1) (i7 (Oz 0) Hv))) Hv))) (iP (k:Int) (ps.length-k)) [none,⇑(cF a b ps),↥[]] Q:=by
 refine cW (λi E=>∃v0,E=[v0,⇑(cF a b ps),↥(Yf a b ps k i)]) ⟨none,rfl⟩ ?_ ?_
 ·rintro i t rest E hi ⟨v0,rfl⟩ KK;obtain⟨jj,rfl⟩:=nL hi;obtain⟨p,q,f,g,nb,e⟩:=L7 nv ch (show k+i<ps.length by lia);have ek:(k:Int)+(i:Int)=((k+i:Nat):Int):=⋯
  rw[ek];refine⟨a,b,ps,k+i,p,q,f,g,rfl,nb,?_⟩;rw[e];refine⟨by show(Yf a b ps k i).length<9000;rw[Yt];lia,KK _ ⟨↑((k+i:Nat):Int),?_⟩⟩;rw[Ea];rfl
 ·rintro E ⟨v0,rfl⟩;rw[Gj];exact hQ v0
abbrev uY(P w K mg base):=(~~~Fn) 11 "corners" ["path"] (aI K He)
abbrev sO:SV:=top 32
theorem xD:aF ["path","first"] ["path"] (aC sO):=dH
theorem Ja(F:cI K "corners" "corners" sO f fd)(TX:Txt mg)(WW: ~~~lD)(XR: ~~~mO):(~~~aS) cJ 11 f fd ["path"] (aI K He):=by
 refine F.okU xD (λhr=>(aB (fS 1 xD.nd (pM (fV (fK WW (f1 (fv 0)))) aA aA)) (aE (aG (iC (N':=["number","path"]) (t:=1) (cap:=[(0,false)]) rfl (bL.of rfl) rfl ∅ (yX rfl TX.n_range (f2 (fv 1) (dJ rfl rfl TX.n_len (f1 (fQ 0))))) (λ_ _ _ _=>(fH 0)) (λ_ _ _ _=>(aN (f2 (fv 0) (fK XR (f2 (fv 1) (fv 0))))))))))) ?_;rintro as Q ⟨a,b,ps,rfl,nv,hn,hl,ch,q⟩;refine⟨a,b,ps,rfl,hn,?_⟩;have hp:0<ps.length:=OY.mpr hn;have em:(((ps.map jD).length:Nat):Int)=(ps.length:Int):=by rw[LJ]
 have ed:decide (cO a ps=a/\cP b ps=b)=Rg a b ps:=rfl;show if decide (cO a ps=a/\cP b ps=b)=true then _ else _;rw[ed];unfold fst at q
 by_cases c:Rg a b ps=true
 ·rw[oV c];rw[oV c]at q;refine⟨⟨∅,∅,by show -(2^62:Int)<=(((ps.map jD).length:Nat):Int);lia,by show(((ps.map jD).length:Nat):Int)<2^62;lia⟩,rfl,?_⟩;show kB _ _ (iP 0 ((((ps.map jD).length:Nat):Int)-0).toNat) _ _;rw[em,show((ps.length:Int)-0).toNat=ps.length-0 by lia];refine rJ (k:=0) nv hl ch ⋯ λv0=>⟨nI a b ps 0 _,?_⟩;exact⟨nI a b ps 0 _,q⟩
 ·rw[oW c];rw[oW c]at q;refine⟨⟨∅,∅,by show -(2^62:Int)<=(((ps.map jD).length:Nat):Int);lia,by show(((ps.map jD).length:Nat):Int)<2^62;lia⟩,rfl,?_⟩;show kB _ _ (iP 1 ((((ps.map jD).length:Nat):Int)-1).toNat) _ _;rw[em,show((ps.length:Int)-1).toNat=ps.length-1 by lia];refine rJ (k:=1) nv hl ch ⋯ λv0=>⟨nI a b ps 1 _,?_⟩;exact⟨nI a b ps 1 _,q⟩
def Xq(x y c s:Fr):Fr:=aR (aJ x c) (aJ y s)
def Xp(x y c s:Fr):Fr:=bJ (aJ x s) (aJ y c)
def Nn:dG:=λas Q=>∃(x y c s:Fr)(e f:Nat),as=[.v (vc x y),.v (vc c s)]/\Nv x y e/\Nv c s f/\e+f<=3900/\Q (.v (vc (Xq x y c s) (Xp x y c s))) []
abbrev yN(P w K mg base):=(~~~Fn) 4 "turned" ["unit","by"] (aI K Nn)
abbrev xC:SV:=top 35
theorem k5:aF ["unit","by","x","y","c","s"] ["unit","by"] (aC xC):=dH
theorem Qe(F:cI K "turned" "turned" xC f fd)(TX:Txt mg)(VU: ~~~jJ)(WH: ~~~kQ)(VS: ~~~fT):(~~~aS) cJ 4 f fd ["unit","by"] (aI K Nn):=by
 refine F.okU k5 (λhr=>(aB (d8 (fv 0) (dA (n:=2) rfl rfl (aM (fG 2 k5.nd) (aM (fG 3 k5.nd) cE)))) (aB (d8 (fv 1) (dA (n:=2) rfl rfl (aM (fG 4 k5.nd) (aM (fG 5 k5.nd) cE)))) (aE (aG (aN (f2 (fK WH (f2 (fK VU (f2 (fv 2) (fv 4))) (fK VU (f2 (fv 3) (fv 5))))) (fK VS (f2 (fK VU (f2 (fv 2) (fv 5))) (fK VU (f2 (fv 3) (fv 4)))))))))))) ?_;rintro as Q ⟨x,y,c,s,e,f,rfl,h,k,he,q⟩;have:=h.sx;have:=h.sy;have:=k.sx;have:=k.sy;have n1:=aP h.x k.x;have n2:=aP h.y k.y;have n3:=aP h.x k.y;have n4:=aP h.y k.x;have s1:=cG h.x k.x;have s2:=cG h.y k.y;have s3:=cG h.x k.y;have s4:=cG h.y k.x;exact⟨_,_,rfl,h.x,k.x,⋯,_,_,rfl,h.y,k.y,⋯,_,_,rfl,n1,n2,⋯,_,_,rfl,h.x,k.y,⋯,_,_,rfl,h.y,k.x,⋯,_,_,rfl,n3,n4,⋯,rfl,q⟩
theorem gL(h:Nv x y e)(k:Nv c s f):val (Xq x y c s)=val x*val c-val y*val s:=by
 unfold Xq;rw[bW (aP h.x k.x) (aP h.y k.y),aZ h.x k.x,aZ h.y k.y]
theorem gK(h:Nv x y e)(k:Nv c s f):val (Xp x y c s)=val x*val s+val y*val c:=by
 unfold Xp;rw[bO (aP h.x k.y) (aP h.y k.x),aZ h.x k.y,aZ h.y k.x]
theorem Nv.tr{x y c s:Fr}{e f:Nat}(h:Nv x y e)(k:Nv c s f):Nv (Xq x y c s) (Xp x y c s) (2*(e+f)+1):=by
 have:=h.sx;have:=h.sy;have:=k.sx;have:=k.sy;have n1:=aP h.x k.x;have n2:=aP h.y k.y;have n3:=aP h.x k.y;have n4:=aP h.y k.x;have s1:=cG h.x k.x;have s2:=cG h.y k.y;have s3:=cG h.x k.y;have s4:=cG h.y k.x;have s5:=oR n1 n2;have s6:=iY n3 n4;exact⟨dM n1 n2,c7 n3 n4,by show sz (aR _ _)<=_;lia,by show sz (bJ _ _)<=_;lia⟩
theorem A4:Nv (1,1) (0,1) 10:=⟨aQ 1,aQ 0,∅,∅⟩
theorem A3:Nv (0,1) (1,1) 10:=⟨aQ 0,aQ 1,∅,∅⟩
def cT(t:Fr):Fr:=iV (t.2*t.2-t.1*t.1) (t.2*t.2+t.1*t.1)
def sT(t:Fr):Fr:=iV (2*t.2*t.1) (t.2*t.2+t.1*t.1)
theorem pL(h : bI t): t.2 * t.2 + t.1 * t.1 ≠ 0 := by
  have h1 : 1 * 1 <= t.2 * t.2 := SJ h.d h.d ∅ (by have := h.d; lia);have h2 : 0 <= t.1 * t.1 := by
      obtain c|c:=Int.le_total 0 t.1
      . exact PR c c
      . exact Int.mul_nonneg_of_nonpos_of_nonpos c c
  lia
theorem Eb(t:Fr):(t.2*t.2+t.1*t.1).natAbs<2^(2*sz t+1):=o7 (by rw[OX];exact bF (bV t) (bV t)) (by rw[OX];exact bF (dR t) (dR t))
theorem zG(h:bI t):Nv (cT t) (sT t) (2*sz t+1):=by
 have hb:=Eb t;refine⟨fW (pL h),fW (pL h),mE (pL h) (Cy (by rw[OX];exact bF (bV t) (bV t)) (by rw[OX];exact bF (dR t) (dR t))) hb ⋯,mE (pL h) ?_ hb ⋯⟩;have e:2*t.2*t.1=t.2*t.1+t.2*t.1:=by grind
 rw[e];exact o7 (by rw[OX];exact bF (bV t) (dR t)) (by rw[OX];exact bF (bV t) (dR t))
theorem rX(r : Rat): 1 + r * r ≠ 0 := by
  have : 0 <= r * r := by
      rcases Rat.le_total (a := 0) (b := r)with c|c
      . exact Rat.mul_nonneg c c
      . have h := Rat.mul_nonneg (a := -r) (b := -r) (by grind) (by grind); grind
  grind
theorem qU(h:bI t):val (cT t)=(1-val t*val t)/(1+val t*val t):=by
 have h1:=h.neR;have h2:=rX (val t);have h3:((t.2*t.2+t.1*t.1:Int):Rat)≠0:=by exact_mod_cast pL h
 unfold cT;rw[fE (pL h)];unfold val at h2⊢
 push_cast at h3⊢
 grind
theorem qV(h:bI t):val (sT t)=(2*val t)/(1+val t*val t):=by
 have h1:=h.neR;have h2:=rX (val t);have h3:((t.2*t.2+t.1*t.1:Int):Rat)≠0:=by exact_mod_cast pL h
 unfold sT;rw[fE (pL h)];unfold val at h2⊢
 push_cast at h3⊢
 grind
def Nm:dG:=λas Q=>∃t:Fr,as=[.v (fr t)]/\bI t/\sz t<=1000/\Q (.v (vc (cT t) (sT t))) []
abbrev u9(P w K mg base):=(~~~Fn) 3 "turn_of" ["tangent"] (aI K Nm)
abbrev tD:SV:=top 36
theorem mD:aF ["tangent","both","n","d"] ["tangent"] (aC tD):=dH
theorem Jk(F:cI K "turn_of" "turn_of" tD f fd)(TX:Txt mg)(VO: ~~~dY):(~~~aS) cJ 3 f fd ["tangent"] (aI K Nm):=by
 refine F.okU mD (λhr=>(aB (d8 (fv 0) (dA (n:=2) rfl rfl (aM (fG 2 mD.nd) (aM (fG 3 mD.nd) cE)))) (aB (fS 1 mD.nd (aU cD (aO aW (fv 3) (fv 3)) (aO aW (fv 2) (fv 2)))) (aE (aG (aN (f2 (fK VO (f2 (aU g8 (aO aW (fv 3) (fv 3)) (aO aW (fv 2) (fv 2))) (fv 1))) (fK VO (f2 (aO aW (aO aW aA (fv 3)) (fv 2)) (fv 1)))))))))) ?_;rintro as Q ⟨t,rfl,ht,hs,q⟩;have m1:∀i j:Int,i.natAbs<2^1002->j.natAbs<2^1002->yF i j:=λi j h1 h2=>jR h1 h2 ∅;have d1:t.2.natAbs<2^1002:=pl (bV t) ⋯;have n1:t.1.natAbs<2^1002:=pl (dR t) ⋯;have hb:=sM (Eb t) ⋯;refine⟨m1 _ _ d1 d1,m1 _ _ n1 n1,m1 _ _ d1 d1,m1 _ _ n1 n1,_,_,rfl,pL ht,hb,Iw ∅,jR (e:=1004) (pl (bF (show(2:Int).natAbs<2^2 by decide) d1) ∅) (pl n1 ∅) ∅,_,_,rfl,pL ht,hb,rfl,q⟩
def tY(x y t:Fr):L2.T:=vc (Xq x y (cT t) (sT t)) (Xp x y (cT t) (sT t))
def V0(s:Int):List Int:=if s=1 then[1]else if s=2 then[1,2]else[1,2,3]
def uM(x y t:Fr)(s:Int):List L2.T:=(V0 s).map λk=>tY x y (aJ t (iV k s))
theorem Ha{k s:Int}(hk:k.natAbs<=3)(hs:1<=s/\s<=3):bI (iV k s)/\sz (iV k s)<=2:=⟨fW ⋯,mE ⋯ (ML hk ∅) (ML (show s.natAbs<=3 by lia) ∅) ∅⟩
def Hf:dG:=λas Q=>∃(x y t:Fr)(s:Int)(e f:Nat),as=[.v (vc x y),.v (fr t),.v (.int s)]/\Nv x y e/\bI t/\sz t<=f/\e+2*f<=1400/\(s=1\/s=2\/s=3)/\Q (.l (uM x y t s)) []
abbrev u7(P w K mg base):=(~~~Fn) 5 "stepped" ["unit","tangent","steps"] (aI K Hf)
abbrev sY:SV:=top 37
theorem xF:aF ["unit","tangent","steps","turns"] ["unit","tangent","steps"] (aC sY):=dH
theorem Ji(F:cI K "stepped" "stepped" sY f fd)(TX:Txt mg)(YZ: ~~~u9)(VU: ~~~jJ)(VO: ~~~dY)(ZL: ~~~yN):(~~~aS) cJ 5 f fd ["unit","tangent","steps"] (aI K Hf):=by
 refine F.okU xF (λhr=>(aB (Au (i:=3) (N':=["k","tangent","steps"]) (t:=1) (cap:=[(1,false),(2,false)]) xF.nd rfl (MS rfl) rfl rfl (bL.of rfl) rfl ∅ (yX rfl TX.n_range (f2 aA (aU cD (fv 2) aA))) (λ_ _ _ _=>(fH 0)) (λ_ _ _ _=>(fK YZ (f1 (fK VU (f2 (fv 1) (fK VO (f2 (fv 0) (fv 2))))))))) (aE (aG (iC (N':=["by","unit"]) (t:=1) (cap:=[(0,false)]) rfl (bL.of rfl) rfl ∅ (iF rfl (fv 3)) (λ_ _ _ _=>(fH 0)) (λ_ _ _ _=>(fK ZL (f2 (fv 1) (fv 0))))))))) ?_;rintro as Q ⟨x,y,t,s,e,f,rfl,hv,ht,hf,he,hs,q⟩;have s8:∀{s:Int},s.natAbs<=3->s.natAbs<2^8000:=λh=>sM (e:=2) (ML h ∅) ∅;have st:∀{k s:Int},k.natAbs<=3->1<=s/\s<=3->bI (aJ t (iV k s))/\sz (aJ t (iV k s))<=f+2:=λh1 h2=>by
  obtain⟨n1,n2⟩:=Ha h1 h2;have:=cG ht n1;exact⟨aP ht n1,⋯⟩
 have tn:∀{k s:Int},k.natAbs<=3->1<=s/\s<=3->Nv (cT (aJ t (iV k s))) (sT (aJ t (iV k s))) (2*f+5):=λh1 h2=>by
  obtain⟨n1,n2⟩:=st h1 h2;exact(zG n1).up ⋯
 have rr:∀{s:Int},1<=s/\s<=3->(-(2^62)<=(1:Int)/\(1:Int)<2^62/\-(2^62)<=s+1/\s+1<2^62):=λh=>⋯
 have lk:∀{k s:Int},k.natAbs<=3->1<=s/\s<=3->bI (iV k s)/\sz t+sz (iV k s)<=7900/\s≠0/\s.natAbs<2^8000/\bI (aJ t (iV k s))/\sz (aJ t (iV k s))<=1000:=λh1 h2=>by
  obtain⟨n1,n2⟩:=Ha h1 h2;obtain⟨m1,m2⟩:=st h1 h2;exact⟨n1,⋯,⋯,s8 ⋯,m1,⋯⟩
 obtain rfl|rfl|rfl:=hs
 ·obtain⟨a1,a2,a3,a4,a5,a6⟩:=lk (k:=1) (s:=1) ∅ ∅;have m:∀k:Int,k.natAbs<=3->Nv (cT (aJ t (iV k 1))) (sT (aJ t (iV k 1))) (2*f+5):=λk h=>tn h ∅;refine⟨∅,rfl,_,_,rfl,a3,a4,t,_,rfl,ht,a1,a2,_,rfl,a5,a6,b7 rfl,rfl,rfl,x,y,_,_,e,_,rfl,hv,m _ ∅,⋯,b7 rfl,rfl,?_⟩;exact⟨rfl,q⟩
 ·obtain⟨a1,a2,a3,a4,a5,a6⟩:=lk (k:=1) (s:=2) ∅ ∅;obtain⟨b1,b2,b3,b4,b5,b6⟩:=lk (k:=2) (s:=2) ∅ ∅;have m:∀k:Int,k.natAbs<=3->Nv (cT (aJ t (iV k 2))) (sT (aJ t (iV k 2))) (2*f+5):=λk h=>tn h ∅;refine⟨∅,rfl,_,_,rfl,a3,a4,t,_,rfl,ht,a1,a2,_,rfl,a5,a6,b7 rfl,_,_,rfl,a3,a4,t,_,rfl,ht,b1,b2,_,rfl,b5,b6,b7 rfl,rfl,rfl,x,y,_,_,e,_,rfl,hv,m _ ∅,⋯,b7 rfl,x,y,_,_,e,_,rfl,hv,m _ ∅,⋯,b7 rfl,rfl,?_⟩;exact⟨rfl,q⟩
 ·obtain⟨a1,a2,a3,a4,a5,a6⟩:=lk (k:=1) (s:=3) ∅ ∅;obtain⟨b1,b2,b3,b4,b5,b6⟩:=lk (k:=2) (s:=3) ∅ ∅;obtain⟨c1,c2,c3,c4,c5,c6⟩:=lk (k:=3) (s:=3) ∅ ∅;have m:∀k:Int,k.natAbs<=3->Nv (cT (aJ t (iV k 3))) (sT (aJ t (iV k 3))) (2*f+5):=λk h=>tn h ∅;refine⟨∅,rfl,_,_,rfl,a3,a4,t,_,rfl,ht,a1,a2,_,rfl,a5,a6,b7 rfl,_,_,rfl,a3,a4,t,_,rfl,ht,b1,b2,_,rfl,b5,b6,b7 rfl,_,_,rfl,a3,a4,t,_,rfl,ht,c1,c2,_,rfl,c5,c6,b7 rfl,rfl,rfl,x,y,_,_,e,_,rfl,hv,m _ ∅,⋯,b7 rfl,x,y,_,_,e,_,rfl,hv,m _ ∅,⋯,b7 rfl,x,y,_,_,e,_,rfl,hv,m _ ∅,⋯,b7 rfl,rfl,?_⟩;exact⟨rfl,q⟩
def hq(x y p q:Fr):Prop:=(cM x y p q).1<=0\/(aY x y p q).1<0
def Dl(p q:Fr):Nat->Fr->Fr->Prop
 |0,x,y=>¬hq x y p q
 |n+1,x,y=>hq x y p q/\Dl p q n (aK y) x
theorem Ba(h:Nv x y e)(k:Nv p q f):hq x y p q↔(val x*val p+val y*val q<=0\/val x*val q-val y*val p<0):=by
 unfold hq;rw[<-xO (bB h k),<-Kl (cH h k),dX h k,dU h k]
theorem Vs(h:cA x y e)(k:cA p q f):∃m,m<=3/\Dl p q m x y:=by
 have i0:=Ba h.nv k.nv;have i1:=Ba h.left.nv k.nv;have i2:=Ba h.left.left.nv k.nv;have i3:=Ba h.left.left.left.nv k.nv;rw[bR h.nv.y]at i1;rw[bR h.nv.y,bR h.nv.x]at i2;rw[bR (e7 h.nv.y),bR h.nv.y,bR h.nv.x]at i3;have one:(val x*val p+val y*val q)*(val x*val p+val y*val q)+(val x*val q-val y*val p)*(val x*val q-val y*val p)=1:=by
  have:=h.one;have:=k.one;grind
 generalize hD:val x*val p+val y*val q=D at *;generalize hC:val x*val q-val y*val p=C at *;have j1:hq (aK y) x p q↔(C<=0\/0<D):=by rw[i1];grind
 have j2:hq (aK x) (aK y) p q↔(0<=D\/0<C):=by rw[i2];grind
 have j3:hq (aK (aK y)) (aK x) p q↔(0<=C\/D<0):=by rw[i3];grind
 by_cases c0:hq x y p q
 ·by_cases c1:hq (aK y) x p q
  ·by_cases c2:hq (aK x) (aK y) p q
   ·refine⟨3,∅,c0,c1,c2,?_⟩;show ¬hq (aK (aK y)) (aK x) p q;rw[j3];rw[i0]at c0;rw[j1]at c1;rw[j2]at c2;have nz:D=0->C=0->False:=λa b=>by rw[a,b]at one;grind
    clear i0 i1 i2 i3 j1 j2 j3 one hD hC h k;grind
   ·exact⟨2,∅,c0,c1,c2⟩
  ·exact⟨1,∅,c0,c1⟩
 ·exact⟨0,∅,c0⟩
def mL(x y p q:Fr):Fr:=bZ (aY x y p q) (bJ (1,1) (cM x y p q))
def gR(p q:Fr)(s:Int)(x y:Fr):List L2.T:=if x=p/\y=q then[]else uM x y (mL x y p q) s
def qb(p q:Fr)(s:Int):Nat->Fr->Fr->List L2.T
 |0,x,y=>gR p q s x y
 |n+1,x,y=>uM x y (1,1) s++qb p q s n (aK y) x
theorem uK(h:Nv x y e):tY x y (1,1)=vc (aK y) x:=by
 have e1:cT (1,1)=(0,1):=∅
 have e2:sT (1,1)=(1,1):=∅
 unfold tY;rw[e1,e2];have e8:Xq x y (0,1) (1,1)=aK y:=b9 (h.tr A3).x (e7 h.y) (by rw[gL h A3,gT,k8,bR h.y];grind);have e9:Xp x y (0,1) (1,1)=x:=b9 (h.tr A3).y h.x (by rw[gK h A3,gT,k8];grind);rw[e8,e9]
theorem Sf(x y:Fr){s:Int}(ht:bI t)(hs:s=1\/s=2\/s=3):∃L,uM x y t s=L++[tY x y t]/\L.length<=2:=by
 have e:∀{s:Int},s≠0->aJ t (iV s s)=t:=λ{s}h=>b9 (aP ht (fW h)) ht (by
  rw[aZ ht (fW h),fE h];have:(s:Rat)≠0:=by exact_mod_cast h
  grind)
 obtain rfl|rfl|rfl:=hs
 ·exact⟨[],by show[tY x y (aJ t (iV 1 1))]=_;rw[e ∅];rfl,∅⟩
 ·exact⟨[tY x y (aJ t (iV 1 2))],by show[_,tY x y (aJ t (iV 2 2))]=_;rw[e ∅];rfl,by simp⟩
 ·exact⟨[tY x y (aJ t (iV 1 3)),tY x y (aJ t (iV 2 3))],by show[_,_,tY x y (aJ t (iV 3 3))]=_;rw[e ∅];rfl,by simp⟩
def JO:dG:=λas Q=>∃(x y p q:Fr)(e f:Nat),as=[.v (vc x y),.v (vc p q)]/\Nv x y e/\Nv p q f/\e+f<=3900/\(∀b,(b=true↔hq x y p q)->Q (.v (.bl b)) [])
abbrev mQ(P w K mg base):=(~~~Fn) 5 "has_quarter" oG (aI K JO)
abbrev kK:SV:=top 38
theorem xE:aF oG oG (aC kK):=dH
theorem wF(F:cI K "has_quarter" "has_quarter" kK f fd)(TX:Txt mg)(WU: ~~~pR)(WT: ~~~mP):(~~~aS) cJ 5 f fd oG (aI K JO):=by
 refine F.okU xE (λhr=>(aE (aG (CJ (Eh L9 (fX (fK WU (f2 (fv 0) (fv 1))) aA) aA (aV _)) (S7 (Eh i9 (fX (fK WT (f2 (fv 0) (fv 1))) aA) aA (aV _))))))) ?_;rintro as Q ⟨x,y,p,q,e,f,rfl,h,k,he,z⟩;refine⟨x,y,p,q,e,f,rfl,h,k,he,?_⟩;show if decide ((cM x y p q).1<=0)=true then _ else _
 by_cases c:(cM x y p q).1<=0
 ·rw[oY c,oV rfl];exact⟨rfl,z true ⟨λ_=>.inl c,λ_=>rfl⟩⟩
 ·rw[oX c,oW ∅];refine⟨x,y,p,q,e,f,rfl,h,k,he,rfl,z _ ?_⟩;show decide ((aY x y p q).1<0)=true↔_;rw[decide_eq_true_iff];exact⟨λr=>.inr r,λr=>r.resolve_left c⟩
theorem zF:∀(xs ys:List L2.T),bM (xs++ys)=(bM xs&&bM ys)
 |[],ys=>rfl
 |x::xs,ys=>by
  show(noL x&&bM (xs++ys))=_;rw[zF xs ys,<-Bool.and_assoc];rfl
theorem Ez{s:Int}(x y t:Fr)(hs:s=1\/s=2\/s=3):bM (uM x y t s)=true:=by rcases hs with rfl|rfl|rfl<;>rfl
theorem Ly{s:Int}(p q:Fr)(hs:s=1\/s=2\/s=3):∀(m:Nat)(x y:Fr),bM (qb p q s m x y)=true
 |0,x,y=>by
  show bM (gR p q s x y)=true;unfold gR
  split
  ·rfl
  ·exact Ez _ _ _ hs
 |m+1,x,y=>by
  show bM (uM x y (1,1) s++qb p q s m (aK y) x)=true;rw[zF,Ez _ _ _ hs,Ly p q hs m];rfl
theorem uO{s:Int}(x y t:Fr)(hs:s=1\/s=2\/s=3):(uM x y t s).length<=3:=by
 obtain rfl|rfl|rfl:=hs
 ·show 1<=3;decide
 ·show 2<=3;decide
 ·show 3<=3;decide
theorem Bi(h:Nv x y e)(k:Nv p q f)(c:¬hq x y p q):0<val (cM x y p q)/\0<=val (aY x y p q):=by
 unfold hq at c;rw[not_or]at c;exact⟨(mG (bB h k)).2 ⋯,(dN (cH h k)).2 ⋯⟩
theorem k7(h:Nv x y e)(k:Nv p q f)(c:¬hq x y p q):(bJ (1,1) (cM x y p q)).1≠0:=by
 have h1:=(Bi h k c).1;have h2:=bO (aQ 1) (bB h k);rw[gT]at h2;have h3:=(mG (c7 (aQ 1) (bB h k))).1 (by rw[h2];grind)
 lia
theorem Gz(h:Nv x y e)(k:Nv p q f):sz (aY x y p q)<=2*(e+f)+1:=by
 have:=h.sx;have:=h.sy;have:=k.sx;have:=k.sy;have s1:=cG h.x k.y;have s2:=cG h.y k.x;have s6:=oR (aP h.x k.y) (aP h.y k.x);show sz (aR (aJ x q) (aJ y p))<=_
 lia
theorem xI(h:Nv x y e)(k:Nv p q f)(n:(bJ (1,1) (cM x y p q)).1≠0):bI (mL x y p q)/\sz (mL x y p q)<=4*(e+f)+4:=by
 have s5:=Gz h k;have s6:=qR h k;have s7:=iY (aQ 1) (bB h k);have o:sz (1,1)=1:=∅
 have s8:=rZ (cH h k) n;refine⟨kZ (cH h k) n,?_⟩;show sz (bZ _ _)<=_
 lia
def JS:dG:=λas Q=>∃(x y p q:Fr)(s:Int)(e f m:Nat),as=[.v (vc x y),.v (vc p q),.v (.int s)]/\cA x y e/\cA p q f/\e+f<=140/\(s=1\/s=2\/s=3)/\m<=3/\Dl p q m x y/\Q (.l (vc x y::qb p q s m x y)) []
abbrev i5(P w K mg base):=(~~~Fn) 6 "quarters_between" ["one","other","steps"] (aI K JS)
abbrev fJ:SV:=top 39
theorem dC:aF ["one","other","steps","units","last","tangent"] ["one","other","steps"] (aC fJ):=dH
theorem pF(F:cI K "quarters_between" "quarters_between" fJ f fd)(TX:Txt mg)(XS: ~~~mQ)(YM: ~~~u7)(WZ: ~~~q0)(WT: ~~~mP)(VS: ~~~fT)(WU: ~~~pR)(VZ:mH mg K "ONE_turns" (.tup [.int 1,.int 1])):(~~~aS) cJ 6 f fd ["one","other","steps"] (aI K JS):=by
 refine F.okU dC (λhr=>(aB (fS 3 dC.nd (c8 (f1 (fv 0)))) (aB (m8 PassesOwn.never (fV (fK XS (f2 (fX (fv 3) (d7 aA)) (fv 1)))) (aE (jC (sF rfl (fv 3) (f1 (fK YM (f3 (fX (fv 3) (d7 aA)) (iD rfl VZ) (fv 2)))))))) (aB (fS 4 dC.nd (fX (fv 3) (d7 aA))) (aB (b8 (pN rfl hr (fv 4) (fv 1) (aV _)) (aB (fS 5 dC.nd (fK WZ (f2 (fK WT (f2 (fv 4) (fv 1))) (fK VS (f2 (iD rfl VZ) (fK WU (f2 (fv 4) (fv 1)))))))) (aE (jC (sF rfl (fv 3) (f1 (fK YM (f3 (fv 4) (fv 5) (fv 2)))))))) bH) (aE (aG (fv 3)))))))) ?_;rintro as Q ⟨x,y,p,q,s,e,f,m0,rfl,hu,hv,he,hs,hm,hr,z⟩;refine⟨λm' E=>∃(L:List L2.T)(x' y':Fr),E=[⇑(vc x y),⇑(vc p q),↑s,↥(L++[vc x' y']),none,none]/\cA x' y' e/\Dl p q m' x' y'/\L.length+3*m'<=9/\L++vc x' y'::qb p q s m' x' y'=vc x y::qb p q s m0 x y,⟨m0,[],x,y,rfl,hu,hr,by show 0+3*m0<=9;lia,rfl⟩,?_⟩;rintro m E ⟨L,x',y',rfl,fj,hr,hl,hL⟩;have oi:=vF L (vc x' y');show o1 (eV (L++[vc x' y']) (-1)) _;rw[oi];refine⟨x',y',p,q,e,f,rfl,fj.nv,hv.nv,⋯,λb hb=>?_⟩;show if b=true then _ else _
 by_cases c:hq x' y' p q
 ·rw[oV (hb.2 c)];obtain⟨m,rfl⟩:∃k,m=k+1:=by
   cases m with
   |zero=>exact absurd c hr
   |succ k=>exact⟨k,rfl⟩
  obtain⟨L',hL',l2⟩:=Sf x' y' (aQ 1) hs;show o1 (eV (L++[vc x' y']) (-1)) _;rw[oi];refine⟨x',y',(1,1),s,e,1,rfl,fj.nv,aQ 1,∅,⋯,hs,?_⟩;refine⟨?_,m,OE m,L++[vc x' y']++L',aK y',x',?_,fj.left,hr.2,?_,?_⟩
  ·have:=uO x' y' (1,1) hs;show((L++[vc x' y'])++uM x' y' (1,1) s).length<=9000;rw[LG,LG,MD]
   lia
  ·show[_,_,_,oZ (U.o false ((L++[vc x' y'])++uM x' y' (1,1) s)),_,_]=_;rw[hL',uK fj.nv,LW (L++[vc x' y'])]
  ·rw[LG,LG,MD]
   lia
  ·rw[<-hL];show _=L++vc x' y'::(uM x' y' (1,1) s++qb p q s m (aK y') x');rw[hL',uK fj.nv];simp
 ·rw[oW (λr=>c (hb.1 r))];obtain rfl:m=0:=by
   cases m with
   |zero=>rfl
   |succ k=>exact absurd hr.1 c
  have nl:bM (vc x y::qb p q s m0 x y)=true:=Ly p q hs m0 x y;show o1 (eV (L++[vc x' y']) (-1)) _;rw[oi];refine⟨b7 rfl,?_⟩;show if(!L2.cS (vc x' y') (vc p q))=true then _ else _;rw[yW];have e0:qb p q s 0 x' y'=gR p q s x' y':=rfl;rw[e0]at hL;unfold gR at hL
  by_cases d:x'=p/\y'=q
  ·rw[oV d]at hL;rw[oW (by simpa using d)];rw[hL];exact⟨nl,z⟩
  ·rw[oW d]at hL;rw[oV (by rw[oX d];rfl)];have ne:=k7 fj.nv hv.nv c;obtain⟨t1,t2⟩:=xI fj.nv hv.nv ne;have:=(fj.nv.tr hv.nv);refine⟨x',y',p,q,e,f,rfl,fj.nv,hv.nv,⋯,x',y',p,q,e,f,rfl,fj.nv,hv.nv,⋯,(1,1),_,rfl,aQ 1,bB fj.nv hv.nv,?_,_,_,rfl,cH fj.nv hv.nv,c7 (aQ 1) (bB fj.nv hv.nv),ne,?_,?_⟩
   ·have:=qR fj.nv hv.nv;have o:sz (1,1)=1:=∅
    lia
   ·have:=qR fj.nv hv.nv;have:=Gz fj.nv hv.nv;have o:sz (1,1)=1:=∅
    have:=iY (aQ 1) (bB fj.nv hv.nv)
    lia
   refine⟨x',y',_,s,e,_,rfl,fj.nv,t1,t2,⋯,hs,?_⟩;have ee:(L++[vc x' y'])++uM x' y' (mL x' y' p q) s=vc x y::qb p q s m0 x y:=by rw[<-hL];simp
   refine⟨?_,?_,?_⟩
   ·have:=uO x' y' (mL x' y' p q) hs;show((L++[vc x' y'])++uM x' y' (mL x' y' p q) s).length<=9000;rw[LG,LG,MD]
    lia
   ·show bM ((L++[vc x' y'])++uM x' y' (mL x' y' p q) s)=true;rw[ee];exact nl
   ·show Q (.l ((L++[vc x' y'])++uM x' y' (mL x' y' p q) s)) [];rw[ee];exact z
end
theorem FT(h:cA x y e)(k:cA p q f)(c:¬hq x y p q)(c1:¬0<(aY x y p q).1):x=p/\y=q:=by
 have hh:=Bi h.nv k.nv c;have c3:val (aY x y p q)=0:=by
  have:=(xO (cH h.nv k.nv)).2 ⋯;grind
 have d1:=hh.1;rw[dX h.nv k.nv]at d1;rw[dU h.nv k.nv]at c3;have h1:=h.one;have k1:=k.one;have one:(val x*val p+val y*val q)*(val x*val p+val y*val q)=1:=by
  have:(val x*val p+val y*val q)*(val x*val p+val y*val q)+(val x*val q-val y*val p)*(val x*val q-val y*val p)=1:=by grind
  rw[c3]at this;grind
 have ex:val p=val x*(val x*val p+val y*val q)-val y*(val x*val q-val y*val p):=by grind
 have ey:val q=val y*(val x*val p+val y*val q)+val x*(val x*val q-val y*val p):=by grind
 rw[c3]at ex ey;generalize val x*val p+val y*val q=D at *;have d2:D=1:=by
  have:(D-1)*(D+1)=0:=by grind
  rcases Rat.mul_eq_zero.mp this with a|a<;>grind
 rw[d2]at ex ey;exact⟨b9 h.nv.x k.nv.x (by grind),b9 h.nv.y k.nv.y (by grind)⟩
theorem cA.tr(h:cA x y e)(k:cA c s f):cA (Xq x y c s) (Xp x y c s) (2*(e+f)+1):=⟨h.nv.tr k.nv,by
 rw[gL h.nv k.nv,gK h.nv k.nv];have:=h.one;have:=k.one;grind⟩
theorem wH(r : Rat): 0 < 1 + r * r := by
  have : 0 <= r * r := by
      rcases Rat.le_total (a := 0) (b := r)with c|c
      . exact Rat.mul_nonneg c c
      . have h := Rat.mul_nonneg (a := -r) (b := -r) (by grind) (by grind); grind
  grind
theorem Xr{a b c1 s1 c2 s2:Rat}(ha:0<=a)(ye:a<b)(hb:b<=1)(e1:c1=(1-a*a)/(1+a*a))(e2:s1=2*a/(1+a*a))(e3:c2=(1-b*b)/(1+b*b))(e4:s2=2*b/(1+b*b)):0<c1*s2-s1*c2/\0<=c1*c2+s1*s2:=by
 have A:=wH a;have B:=wH b;have AB:=Rat.mul_pos A B;have h1:c1*(1+a*a)=1-a*a:=by grind
 have h2:s1*(1+a*a)=2*a:=by grind
 have h3:c2*(1+b*b)=1-b*b:=by grind
 have h4:s2*(1+b*b)=2*b:=by grind
 have p1:0<=a*b:=Rat.mul_nonneg ha (by grind);have p2:0<(b-a)*(1+a*b):=Rat.mul_pos (by grind) (by grind);have p3:0<=(1-a)*(1+a):=Rat.mul_nonneg (by grind) (by grind);have p4:0<=(1-b)*(1+b):=Rat.mul_nonneg (by grind) (by grind);have p5:0<=((1-a)*(1+a))*((1-b)*(1+b)):=Rat.mul_nonneg p3 p4;constructor
 ·apply bS AB;have:(c1*s2-s1*c2)*((1+a*a)*(1+b*b))=(c1*(1+a*a))*(s2*(1+b*b))-(s1*(1+a*a))*(c2*(1+b*b)):=by grind
  rw[this,h1,h2,h3,h4];have:(1-a*a)*(2*b)-2*a*(1-b*b)=2*((b-a)*(1+a*b)):=by grind
  rw[this];grind
 ·apply iG AB;have:(c1*c2+s1*s2)*((1+a*a)*(1+b*b))=(c1*(1+a*a))*(c2*(1+b*b))+(s1*(1+a*a))*(s2*(1+b*b)):=by grind
  rw[this,h1,h2,h3,h4];have:(1-a*a)*(1-b*b)+2*a*(2*b)=((1-a)*(1+a))*((1-b)*(1+b))+4*(a*b):=by grind
  rw[this];grind
structure HA(u v:L2.T):Prop where
 ex:∃a b c d:Fr,u=vc a b/\v=vc c d/\Nv a b 2500/\Nv c d 2500/\val c*val c+val d*val d=1/\0<val a*val d-val b*val c/\0<=val a*val c+val b*val d
def chn:L2.T->List L2.T->Prop
 |_,[]=>True
 |a,b::l=>HA a b/\chn b l
def lst:L2.T->List L2.T->L2.T
 |a,[]=>a
 |_,b::l=>lst b l
theorem Kt:∀{a:L2.T}{l m:List L2.T},chn a l->chn (lst a l) m->chn a (l++m)
 |_,[],_,_,h=>h
 |_,_::_,_,h,k=>⟨h.1,Kt h.2 k⟩
theorem Lu:∀(a:L2.T)(l m:List L2.T),lst a (l++m)=lst (lst a l) m
 |_,[],_=>rfl
 |_,b::l,m=>Lu b l m
theorem Be:∀(a:L2.T)(l:List L2.T),∃L,a::l=L++[lst a l]
 |a,[]=>⟨[],rfl⟩
 |a,b::l=>by obtain⟨L,h⟩:=Be b l;exact⟨a::L,by show a::(b::l)=a::(L++[lst b l]);rw[h]⟩
theorem zE{x y t1 t2:Fr}{e:Nat}(h:cA x y e)(he:e<=100)(n1:bI t1)(n2:bI t2)(z1:sz t1<=566)(z2:sz t2<=566)(ha:0<=val t1)(ye:val t1<val t2)(hb:val t2<=1):HA (tY x y t1) (tY x y t2):=by
 have v1:=(zG n1).up (show _<=1133 by lia);have v2:=(zG n2).up (show _<=1133 by lia);obtain⟨p1,p2⟩:=Xr ha ye hb (qU n1) (qV n1) (qU n2) (qV n2);have o2:val (cT t2)*val (cT t2)+val (sT t2)*val (sT t2)=1:=by
  rw[qU n2,qV n2];have:=rX (val t2);grind
 have o:=h.one;refine⟨_,_,_,_,rfl,rfl,(h.nv.tr v1).up ⋯,(h.nv.tr v2).up ⋯,?_,?_,?_⟩
 ·rw[gL h.nv v2,gK h.nv v2];grind
 ·rw[gL h.nv v2,gK h.nv v2,gL h.nv v1,gK h.nv v1];generalize val (cT t1)=c1 at *;generalize val (sT t1)=s1 at *;generalize val (cT t2)=c2 at *;generalize val (sT t2)=s2 at *;have:(val x*c1-val y*s1)*(val x*s2+val y*c2)-(val x*s1+val y*c1)*(val x*c2-val y*s2)=(val x*val x+val y*val y)*(c1*s2-s1*c2):=by grind
  rw[this,o];grind
 ·rw[gL h.nv v2,gK h.nv v2,gL h.nv v1,gK h.nv v1];generalize val (cT t1)=c1 at *;generalize val (sT t1)=s1 at *;generalize val (cT t2)=c2 at *;generalize val (sT t2)=s2 at *;have:(val x*c1-val y*s1)*(val x*c2-val y*s2)+(val x*s1+val y*c1)*(val x*s2+val y*c2)=(val x*val x+val y*val y)*(c1*c2+s1*s2):=by grind
  rw[this,o];grind
theorem uL(h:Nv x y e):tY x y (0,1)=vc x y:=by
 have e1:cT (0,1)=(1,1):=∅
 have e2:sT (0,1)=(0,1):=∅
 unfold tY;rw[e1,e2];have e8:Xq x y (1,1) (0,1)=x:=b9 (h.tr A4).x h.x (by rw[gL h A4,gT,k8];grind);have e9:Xp x y (1,1) (0,1)=y:=b9 (h.tr A4).y h.y (by rw[gK h A4,gT,k8];grind);rw[e8,e9]
theorem Ah{s:Int}(h:cA x y e)(he:e<=100)(n:bI t)(z:sz t<=564)(t0:0<val t)(t1:val t<=1)(hs:s=1\/s=2\/s=3):chn (vc x y) (uM x y t s)/\lst (vc x y) (uM x y t s)=tY x y t:=by
 have k:∀{k s:Int},k.natAbs<=3->1<=s/\s<=3->bI (aJ t (iV k s))/\sz (aJ t (iV k s))<=566/\val (aJ t (iV k s))*(s:Rat)=val t*(k:Rat):=λ{k s}h1 h2=>by
  obtain⟨n1,n2⟩:=Ha h1 h2;have:=cG n n1;have nz:s≠0:=⋯
  refine⟨aP n n1,⋯,?_⟩;rw[aZ n n1,fE nz];have:(s:Rat)≠0:=by exact_mod_cast nz
  grind
 have b0:bI ((0:Int),1):=aQ 0;have z0:sz ((0:Int),1)<=566:=∅
 obtain rfl|rfl|rfl:=hs
 ·obtain⟨a1,a2,a3⟩:=k (k:=1) (s:=1) ∅ ∅;refine⟨⟨?_,trivial⟩,?_⟩
  ·rw[<-uL h.nv];exact zE h he b0 a1 z0 a2 (by rw[k8];grind) (by rw[k8];grind) (by grind)
  ·show tY x y (aJ t (iV 1 1))=_;rw[b9 a1 n (by grind)]
 ·obtain⟨a1,a2,a3⟩:=k (k:=1) (s:=2) ∅ ∅;obtain⟨b1,b2,b3⟩:=k (k:=2) (s:=2) ∅ ∅;refine⟨⟨?_,?_,trivial⟩,?_⟩
  ·rw[<-uL h.nv];exact zE h he b0 a1 z0 a2 (by rw[k8];grind) (by rw[k8];grind) (by grind)
  ·exact zE h he a1 b1 a2 b2 (by grind) (by grind) (by grind)
  ·show tY x y (aJ t (iV 2 2))=_;rw[b9 b1 n (by grind)]
 ·obtain⟨a1,a2,a3⟩:=k (k:=1) (s:=3) ∅ ∅;obtain⟨b1,b2,b3⟩:=k (k:=2) (s:=3) ∅ ∅;obtain⟨c1,c2,c3⟩:=k (k:=3) (s:=3) ∅ ∅;refine⟨⟨?_,?_,?_,trivial⟩,?_⟩
  ·rw[<-uL h.nv];exact zE h he b0 a1 z0 a2 (by rw[k8];grind) (by rw[k8];grind) (by grind)
  ·exact zE h he a1 b1 a2 b2 (by grind) (by grind) (by grind)
  ·exact zE h he b1 c1 b2 c2 (by grind) (by grind) (by grind)
  ·show tY x y (aJ t (iV 3 3))=_;rw[b9 c1 n (by grind)]
theorem zQ(h:cA x y e)(k:cA p q f)(c:¬hq x y p q)(d:¬(x=p/\y=q)):0<val (mL x y p q)/\val (mL x y p q)<=1/\tY x y (mL x y p q)=vc p q:=by
 have hh:=Bi h.nv k.nv c;have ne:=k7 h.nv k.nv c;have c0:0<val (aY x y p q):=(mG (cH h.nv k.nv)).2 (by
  obtain a|a:=RN 0 (aY x y p q).1
  ·exact a
  ·exact absurd (FT h k c ⋯) d)
 have hd:=hh.1;have nt:=(xI h.nv k.nv ne).1;have vt:val (mL x y p q)=val (aY x y p q)/(1+val (cM x y p q)):=by
  unfold mL;rw[k9 (cH h.nv k.nv) (c7 (aQ 1) (bB h.nv k.nv)) ne,bO (aQ 1) (bB h.nv k.nv),gT]
 have one:val (cM x y p q)*val (cM x y p q)+val (aY x y p q)*val (aY x y p q)=1:=by
  rw[dX h.nv k.nv,dU h.nv k.nv];have:=h.one;have:=k.one;grind
 have hD:=dX h.nv k.nv;have hC:=dU h.nv k.nv;have wt:=zG nt;have vc1:=qU nt;have vs1:=qV nt;have zz:=rX (val (mL x y p q));have ex:val p=val x*val (cM x y p q)-val y*val (aY x y p q):=by rw[hD,hC];have:=h.one;grind
 have ey:val q=val x*val (aY x y p q)+val y*val (cM x y p q):=by rw[hD,hC];have:=h.one;grind
 have t1:val (mL x y p q)*(1+val (cM x y p q))=val (aY x y p q):=by
  rw[vt];have n1:1+val (cM x y p q)≠0:=by grind
  clear vt vc1 vs1 zz ex ey hD hC one;exact Rat.div_mul_cancel n1
 have cle:val (aY x y p q)<=1:=by
  rcases Rat.le_total (a:=val (aY x y p q)) (b:=1)with a|a
  ·exact a
  ·have p1:=Rat.mul_nonneg (a:=val (aY x y p q)-1) (b:=val (aY x y p q)+1) (by grind) (by grind);have p2:=Rat.mul_pos hd hd;grind
 have t0:0<val (mL x y p q):=bS (k:=1+val (cM x y p q)) (by grind) (by rw[t1];exact c0);have t2:0<=1-val (mL x y p q):=iG (k:=1+val (cM x y p q)) (by grind) (by
  have:(1-val (mL x y p q))*(1+val (cM x y p q))=1+val (cM x y p q)-val (aY x y p q):=by grind
  rw[this];grind)
 refine⟨t0,by grind,?_⟩;have g1:val (cT (mL x y p q))=val (cM x y p q):=by
  rw[vc1];generalize val (mL x y p q)=t at *;generalize val (cM x y p q)=D at *;generalize val (aY x y p q)=C at *;have:(1-t*t-D*(1+t*t))*((1+D)*(1+D))=0:=by grind
  have nz:(1+D)*(1+D)≠0:=by have:=Rat.mul_pos (a:=1+D) (b:=1+D) (by grind) (by grind);grind
  obtain a|a:=Rat.mul_eq_zero.mp this
  ·grind
  ·exact absurd a nz
 have g2:val (sT (mL x y p q))=val (aY x y p q):=by
  rw[vs1];generalize val (mL x y p q)=t at *;generalize val (cM x y p q)=D at *;generalize val (aY x y p q)=C at *;have:(2*t-C*(1+t*t))*((1+D)*(1+D))=0:=by grind
  have nz:(1+D)*(1+D)≠0:=by have:=Rat.mul_pos (a:=1+D) (b:=1+D) (by grind) (by grind);grind
  obtain a|a:=Rat.mul_eq_zero.mp this
  ·grind
  ·exact absurd a nz
 have f1:Xq x y (cT (mL x y p q)) (sT (mL x y p q))=p:=b9 (h.nv.tr wt).x k.nv.x (by rw[gL h.nv wt,g1,g2,ex]);have f2:Xp x y (cT (mL x y p q)) (sT (mL x y p q))=q:=b9 (h.nv.tr wt).y k.nv.y (by rw[gK h.nv wt,g1,g2,ey]);unfold tY;rw[f1,f2]
theorem vL{s:Int}(k:cA p q f)(wc:e<=100)(he:e+f<=140)(hs:s=1\/s=2\/s=3):∀(m:Nat)(x y:Fr),cA x y e->Dl p q m x y->chn (vc x y) (qb p q s m x y)/\lst (vc x y) (qb p q s m x y)=vc p q
 |0,x,y,h,r=>by
  show chn (vc x y) (gR p q s x y)/\lst (vc x y) (gR p q s x y)=vc p q;unfold gR
  by_cases d:x=p/\y=q
  ·rw[oV d];exact⟨trivial,by rw[d.1,d.2];rfl⟩
  ·rw[oW d];obtain⟨t0,t1,te⟩:=zQ h k r d;obtain⟨z1,z2⟩:=xI h.nv k.nv (k7 h.nv k.nv r);have:=Ah h wc z1 ⋯ t0 t1 hs;rw[te]at this;exact this
 |m+1,x,y,h,r=>by
  obtain⟨a1,a2⟩:=Ah (t:=(1,1)) h wc (aQ 1) ∅ (by rw[gT];grind) (by rw[gT];grind) hs;rw[uK h.nv]at a2;obtain⟨b1,b2⟩:=vL k wc he hs m (aK y) x h.left r.2;rw[<-a2]at b1 b2;exact⟨Kt a1 b1,by rw[<-b2];exact Lu _ _ _⟩
def Hr(l:List L2.T):Prop:=∀t∈l,∃a b,t=vc a b
theorem Dn(x y t:Fr)(s:Int):Hr (uM x y t s):=λz hz=>by
 obtain⟨k,_,rfl⟩:=NO.mp hz;exact⟨_,_,rfl⟩
theorem Kq(p q:Fr)(s:Int):∀(m:Nat)(x y:Fr),Hr (qb p q s m x y)
 |0,x,y=>λz hz=>by
  have hz:z∈gR p q s x y:=hz;unfold gR at hz;split at hz
  ·cases hz
  ·exact Dn _ _ _ _ z hz
 |m+1,x,y=>λz hz=>by
  obtain h|h:=MB.mp hz
  ·exact Dn _ _ _ _ z h
  ·exact Kq p q s m _ _ z h
theorem Bc{s:Int}(p q:Fr)(hs:s=1\/s=2\/s=3):∀(m:Nat)(x y:Fr),(qb p q s m x y).length<=3*m+3
 |0,x,y=>by
  show(gR p q s x y).length<=3;unfold gR
  split
  ·decide
  ·exact uO _ _ _ hs
 |m+1,x,y=>by
  have:=uO x y (1,1) hs;have:=Bc p q hs m (aK y) x;show(uM x y (1,1) s++qb p q s m (aK y) x).length<=_;rw[LG]
  lia
def dP(D C:Rat):Rat:=if 0<=C then 1-D else 3+D
def cx:L2.T->Fr×Fr
 |.tup [.tup [.int a,.int b],.tup [.int c,.int d]]=>((a,b),(c,d))
 |_=>((0,1),(0,1))
theorem tM(a b:Fr):cx (vc a b)=(a,b):=rfl
def kf(x y:Fr)(t:L2.T):Rat:=dP (val x*val (cx t).1+val y*val (cx t).2) (val x*val (cx t).2-val y*val (cx t).1)
theorem iO(x y a b:Fr):kf x y (vc a b)=dP (val x*val a+val y*val b) (val x*val b-val y*val a):=rfl
def srt(k:L2.T->Rat):L2.T->List L2.T->Prop
 |_,[]=>True
 |a,b::l=>k a<k b/\srt k b l
theorem Mr{k:L2.T->Rat}:∀{a:L2.T}{l m:List L2.T},srt k a l->srt k (lst a l) m->srt k a (l++m)
 |_,[],_,_,h=>h
 |_,_::_,_,h,g=>⟨h.1,Mr h.2 g⟩
theorem rY{k:L2.T->Rat}:∀{a:L2.T}{l:List L2.T},srt k a l->∀{i:Nat}{u:L2.T},(a::l)[i]?=oZ u->i<l.length->k u<k (lst a l)
 |a,[],_,i,u,_,h=>by simp at h
 |a,[b],h,0,u,e,_=>by cases e;exact h.1
 |a,b::c::l,h,0,u,e,_=>by
  cases e;have:=rY (a:=b) (l:=c::l) h.2 (i:=0) rfl (by simp);have h1:=h.1;show k a<k (lst b (c::l));grind
 |a,b::l,h,i+1,u,e,hi=>rY (a:=b) (l:=l) h.2 e (by simpa using hi)
def At(j:Nat)(D C:Rat):Prop:=(j=0/\D=1/\C=0)\/(j=1/\D=0/\C=1)\/(j=2/\D = -1/\C=0)\/(j=3/\D=0/\C = -1)
def Uu(j:Nat)(a:Rat):Rat:=if j%2=0 then 1-(1-a*a)/(1+a*a)else 2*a/(1+a*a)
theorem C0{a b : Rat}(j : Nat)(ha : 0 <= a)(ye : a < b)(hb : b <= 1): Uu j a < Uu j b := by
  have A := wH a;have B := wH b;have AB := Rat.mul_pos A B;have p0 : 0 <= a * (1 - b) := Rat.mul_nonneg ha (by grind);have p00 : 0 < 1 - a * b := by
      have : 1 - a * b = (1 - a) + a * (1 - b) := by grind
      rw[this]; grind
  have p1 : 0 < (b - a) * (1 - a * b) := Rat.mul_pos (by grind) p00;have p2 : 0 < (b - a) * (b + a) := Rat.mul_pos (by grind) (by grind);have e1 : (1 - a * a) / (1 + a * a) * (1 + a * a) = 1 - a * a := Rat.div_mul_cancel (by grind);have e2 : (1 - b * b) / (1 + b * b) * (1 + b * b) = 1 - b * b := Rat.div_mul_cancel (by grind);have e3 : 2 * a / (1 + a * a) * (1 + a * a) = 2 * a := Rat.div_mul_cancel (by grind);have e4 : 2 * b / (1 + b * b) * (1 + b * b) = 2 * b := Rat.div_mul_cancel (by grind);unfold Uu;generalize(1 - a * a) / (1 + a * a) = c1 at *; generalize(1 - b * b) / (1 + b * b) = c2 at *;generalize 2 * a / (1 + a * a) = s1 at *; generalize 2 * b / (1 + b * b) = s2 at *
  split
  . have : 0 < (1 - c2) - (1 - c1) := bS AB (by
      have : ((1 - c2) - (1 - c1)) * ((1 + a * a) * (1 + b * b)) = (c1 * (1 + a * a)) * (1 + b * b) - (c2 * (1 + b * b)) * (1 + a * a) := by grind
      rw[this, e1, e2];have : (1 - a * a) * (1 + b * b) - (1 - b * b) * (1 + a * a) = 2 * ((b - a) * (b + a)) := by grind
      rw[this]; grind)
    grind
  . have : 0 < s2 - s1 := bS AB (by
      have : (s2 - s1) * ((1 + a * a) * (1 + b * b)) = (s2 * (1 + b * b)) * (1 + a * a) - (s1 * (1 + a * a)) * (1 + b * b) := by grind
      rw[this, e3, e4];have : 2 * b * (1 + a * a) - 2 * a * (1 + b * b) = 2 * ((b - a) * (1 - a * b)) := by grind
      rw[this]; grind)
    grind
theorem To(h:cA x y e)(k:cA p q f)(hj:At j (val x*val p+val y*val q) (val x*val q-val y*val p))(n:bI t)(t0:0<=val t)(t1:val t<=1)(t3:j=3->val t<1):kf x y (tY p q t)=(j:Rat)+Uu j (val t):=by
 have w:=zG n;have A:=wH (val t);unfold tY;rw[iO,gL k.nv w,gK k.nv w];have e1:val (cT t)*(1+val t*val t)=1-val t*val t:=by rw[qU n];exact Rat.div_mul_cancel (by grind)
 have e2:val (sT t)*(1+val t*val t)=2*val t:=by rw[qV n];exact Rat.div_mul_cancel (by grind)
 have p3:0<=(1-val t)*(1+val t):=Rat.mul_nonneg (by grind) (by grind);have c0:0<=val (cT t):=iG A (by rw[e1];grind);have s0:0<=val (sT t):=iG A (by rw[e2];grind);have cc:j=3->0<val (cT t):=λh=>bS A (by
  rw[e1];have:=t3 h;have:=Rat.mul_pos (a:=1-val t) (b:=1+val t) (by grind) (by grind);grind)
 have gD:val x*(val p*val (cT t)-val q*val (sT t))+val y*(val p*val (sT t)+val q*val (cT t))=val (cT t)*(val x*val p+val y*val q)-val (sT t)*(val x*val q-val y*val p):=by grind
 have gC:val x*(val p*val (sT t)+val q*val (cT t))-val y*(val p*val (cT t)-val q*val (sT t))=val (sT t)*(val x*val p+val y*val q)+val (cT t)*(val x*val q-val y*val p):=by grind
 rw[gD,gC];unfold Uu;rw[<-qU n,<-qV n];generalize val x*val p+val y*val q=D at *;generalize val x*val q-val y*val p=C at *;unfold dP;obtain⟨rfl,rfl,rfl⟩|⟨rfl,rfl,rfl⟩|⟨rfl,rfl,rfl⟩|⟨rfl,rfl,rfl⟩:=hj
 ·rw[oV (by grind),oV ∅];grind
 ·rw[oV (by grind),oW ∅];grind
 ·by_cases z:val (sT t)=0
  ·have z1:val t=0:=by rw[z]at e2;grind
   rw[z1]at e1;rw[oV (by grind),oV ∅];grind
  ·rw[oW (by grind),oV ∅];grind
 ·have:=cc rfl;rw[oW (by grind),oW ∅];grind
theorem Ms{s:Int}(h:cA x y e)(k:cA p q f)(hj:At j (val x*val p+val y*val q) (val x*val q-val y*val p))(n:bI t)(z:sz t<=564)(t0:0<val t)(t1:val t<=1)(t3:j=3->val t<1)(hs:s=1\/s=2\/s=3):srt (kf x y) (vc p q) (uM p q t s):=by
 have kk:∀{k s:Int},k.natAbs<=3->1<=s/\s<=3->bI (aJ t (iV k s))/\val (aJ t (iV k s))*(s:Rat)=val t*(k:Rat):=λ{k s}h1 h2=>by
  obtain⟨n1,n2⟩:=Ha h1 h2;have nz:s≠0:=⋯
  refine⟨aP n n1,?_⟩;rw[aZ n n1,fE nz];have:(s:Rat)≠0:=by exact_mod_cast nz
  grind
 have b0:bI ((0:Int),1):=aQ 0;have step:∀{t1 t2:Fr},bI t1->bI t2->0<=val t1->val t1<val t2->val t2<=val t->kf x y (tY p q t1)<kf x y (tY p q t2):=λ{a b}na nb a0 ab bt=>by
  rw[To h k hj na a0 (by grind) (λz=>by have:=t3 z;grind),To h k hj nb (by grind) (by grind) (λz=>by have:=t3 z;grind)];have:=C0 j a0 ab (by grind);grind
 have zero:∀{t2:Fr},bI t2->0<val t2->val t2<=val t->kf x y (vc p q)<kf x y (tY p q t2):=λ{b}nb ab bt=>by
  rw[<-uL k.nv];exact step b0 nb (by rw[k8];grind) (by rw[k8];exact ab) bt
 obtain rfl|rfl|rfl:=hs
 ·obtain⟨a1,a3⟩:=kk (k:=1) (s:=1) ∅ ∅;exact⟨zero a1 (by grind) (by grind),trivial⟩
 ·obtain⟨a1,a3⟩:=kk (k:=1) (s:=2) ∅ ∅;obtain⟨b1,b3⟩:=kk (k:=2) (s:=2) ∅ ∅;exact⟨zero a1 (by grind) (by grind),step a1 b1 (by grind) (by grind) (by grind),trivial⟩
 ·obtain⟨a1,a3⟩:=kk (k:=1) (s:=3) ∅ ∅;obtain⟨b1,b3⟩:=kk (k:=2) (s:=3) ∅ ∅;obtain⟨c1,c3⟩:=kk (k:=3) (s:=3) ∅ ∅;exact⟨zero a1 (by grind) (by grind),step a1 b1 (by grind) (by grind) (by grind),step b1 c1 (by grind) (by grind) (by grind),trivial⟩
theorem AN(h:cA x y e)(k:cA p q f)(c:¬hq x y p q)(d:¬(x=p/\y=q)):val (mL x y p q)<1:=by
 have hh:=Bi h.nv k.nv c;have ne:=k7 h.nv k.nv c;have hd:=hh.1;have one:val (cM x y p q)*val (cM x y p q)+val (aY x y p q)*val (aY x y p q)=1:=by
  rw[dX h.nv k.nv,dU h.nv k.nv];have:=h.one;have:=k.one;grind
 have vt:val (mL x y p q)=val (aY x y p q)/(1+val (cM x y p q)):=by
  unfold mL;rw[k9 (cH h.nv k.nv) (c7 (aQ 1) (bB h.nv k.nv)) ne,bO (aQ 1) (bB h.nv k.nv),gT]
 have t1:val (mL x y p q)*(1+val (cM x y p q))=val (aY x y p q):=by
  rw[vt];exact Rat.div_mul_cancel (by grind)
 have cle:val (aY x y p q)<=1:=by
  rcases Rat.le_total (a:=val (aY x y p q)) (b:=1)with a|a
  ·exact a
  ·have p1:=Rat.mul_nonneg (a:=val (aY x y p q)-1) (b:=val (aY x y p q)+1) (by grind) (by grind);have p2:=Rat.mul_pos hd hd;grind
 have:0<1-val (mL x y p q):=bS (k:=1+val (cM x y p q)) (by grind) (by
  have:(1-val (mL x y p q))*(1+val (cM x y p q))=1+val (cM x y p q)-val (aY x y p q):=by grind
  rw[this];grind)
 grind
theorem Yp(h:cA x y e)(k:cA p q f)(hj:At j (val x*val p+val y*val q) (val x*val q-val y*val p))(j2:j<=2):At (j+1) (val x*val (aK q)+val y*val p) (val x*val p-val y*val (aK q)):=by
 rw[bR k.nv.y];have e1:val x * -val q+val y*val p = -(val x*val q-val y*val p):=by grind
 have e2:val x*val p-val y * -val q=val x*val p+val y*val q:=by grind
 rw[e1,e2];generalize val x*val p+val y*val q=D at *;generalize val x*val q-val y*val p=C at *;obtain⟨rfl,rfl,rfl⟩|⟨rfl,rfl,rfl⟩|⟨rfl,rfl,rfl⟩|⟨rfl,rfl,rfl⟩:=hj
 ·exact .inr (.inl ⟨rfl,by grind,rfl⟩)
 ·exact .inr (.inr (.inl ⟨rfl,by grind,rfl⟩))
 ·exact .inr (.inr (.inr ⟨rfl,by grind,rfl⟩))
 ·lia
theorem Ke{s:Int}(h:cA x y e)(k:cA p q f)(wc:g<=100)(he:g+f<=140)(hs:s=1\/s=2\/s=3):∀(m j:Nat)(a b:Fr),cA a b g->j+m<=3->At j (val x*val a+val y*val b) (val x*val b-val y*val a)->Dl p q m a b->srt (kf x y) (vc a b) (qb p q s m a b)
 |0,j,a,b,u,hm,hj,r=>by
  show srt (kf x y) (vc a b) (gR p q s a b);unfold gR
  by_cases d:a=p/\b=q
  ·rw[oV d];trivial
  ·rw[oW d];obtain⟨t0,t1,te⟩:=zQ u k r d;obtain⟨z1,z2⟩:=xI u.nv k.nv (k7 u.nv k.nv r);exact Ms h u hj z1 ⋯ t0 t1 (λ_=>AN u k r d) hs
 |m+1,j,a,b,u,hm,hj,r=>by
  have s1:=Ms (t:=(1,1)) h u hj (aQ 1) ∅ (by rw[gT];grind) (by rw[gT];grind) (λz=>⋯) hs;have a2:=(Ah (t:=(1,1)) u wc (aQ 1) ∅ (by rw[gT];grind) (by rw[gT];grind) hs).2;rw[uK u.nv]at a2;have s2:=Ke h k wc he hs m (j+1) (aK b) a u.left ⋯ (Yp h u hj ⋯) r.2;rw[<-a2]at s2;exact Mr s1 s2
section
variable{P:SR}{w:SX}{K:W.Frag}{mg:Str->Option oA}{base:oE}
def EN:dG:=λas Q=>∃x y:Fr,as=[.v (fr x),.v (fr y)]/\bI x/\bI y/\sz x<=7900/\sz y<=7900/\∀r:Int,(r<0↔val x<val y)->Q (.v (.int r)) []
theorem Ys(hx:bI x)(hy:bI y):x.1*y.2<y.1*x.2↔val x<val y:=by
 have e:=bW hx hy;have n:=dM hx hy;have l:=Kl n;have dd:=eB hx hy;have v:=fE (n:=x.1*y.2-y.1*x.2) dd;have s:(aR x y).1<0↔x.1*y.2-y.1*x.2<0:=by
  have c:=zC (n:=x.1*y.2-y.1*x.2) dd;have d1:=(kX (n:=x.1*y.2-y.1*x.2) dd).2.1;have d2:0<x.2*y.2:=by
   have h1:1*1<=x.2*y.2:=SJ hx.d hy.d ∅ (by have:=hx.d;lia)
   lia
  show rO _ _<0↔_;generalize rO (x.1*y.2-y.1*x.2) (x.2*y.2)=N at *;generalize nE (x.1*y.2-y.1*x.2) (x.2*y.2)=D at *;generalize x.1*y.2-y.1*x.2=A at *;generalize x.2*y.2=B at *;constructor
  ·intro h;have:N*B<0:=RI h d2;rw[c]at this;obtain a|a:=RN A 0
   ·exact a
   ·have:=PR a (show 0<=D by lia);lia
  ·intro h;have:A*D<0:=RI h ⋯;rw[<-c]at this;obtain a|a:=RN N 0
   ·exact a
   ·have:=PR a (show 0<=B by lia);lia
 rw[e]at l;constructor
 ·intro h;have:=l.2 (s.2 ⋯);grind
 ·intro h;have:=s.1 (l.1 (by grind))
  lia
abbrev kA(P w K mg base):=(~~~Fn) 1 "compared" oG (aI K EN)
abbrev qF:SV:=top 7
theorem n8:aF ["one","other","first","second"] oG (aC qF):=dH
theorem Fm(F:cI K "compared" "compared" qF f fd)(TX:Txt mg):(~~~aS) cJ 1 f fd oG (aI K EN):=by
 refine F.okU n8 (λhr=>(aB (fS 2 n8.nd (aO aW (fQ 0) (fQ 1))) (aB (fS 3 n8.nd (aO aW (fQ 1) (fQ 0))) (aB (b8 (fP i9 (fv 2) (fv 3)) (aE (aG (d7 aA))) bH) (aB (b8 (fP rR (fv 2) (fv 3)) (aE (aG aA)) bH) (aE (aG aA))))))) ?_;rintro as Q ⟨x,y,rfl,hx,hy,s1,s2,z⟩;have ci:=Ys hx hy;refine⟨jR (e:=7900) (pl (dR x) ⋯) (pl (bV y) ⋯) ∅,jR (e:=7900) (pl (dR y) ⋯) (pl (bV x) ⋯) ∅,?_⟩;show if decide (x.1*y.2<y.1*x.2)=true then _ else _
 by_cases c:x.1*y.2<y.1*x.2
 ·rw[oY c,oV rfl];exact⟨rfl,z (-1) ⟨λ_=>ci.1 c,λ_=>∅⟩⟩
 ·rw[oX c,oW ∅];have nc:¬val x<val y:=λh=>c (ci.2 h);show if decide (y.1*x.2<x.1*y.2)=true then _ else _
  by_cases c':y.1*x.2<x.1*y.2
  ·rw[oY c',oV rfl];exact⟨rfl,z 1 ⟨λh=>⋯,λh=>absurd h nc⟩⟩
  ·rw[oX c',oW ∅];exact⟨rfl,z 0 ⟨λh=>⋯,λh=>absurd h nc⟩⟩
def JU:dG:=λas Q=>∃(x y p q:Fr)(e f:Nat),as=[.v (vc x y),.v (vc p q)]/\Nv x y e/\Nv p q f/\e+f<=3900/\∀r:Fr,bI r->sz r<=2*(e+f)+4->val r=kf x y (vc p q)->Q (.v (fr r)) []
abbrev rD(P w K mg base):=(~~~Fn) 5 "turn_size" oG (aI K JU)
abbrev nX:SV:=top 40
theorem Ct:aF oG oG (aC nX):=dH
theorem Bu(F:cI K "turn_size" "turn_size" nX f fd)(TX:Txt mg)(WT: ~~~mP)(WU: ~~~pR)(WH: ~~~kQ)(VS: ~~~fT)(VZ:mH mg K "ONE_turns" (.tup [.int 1,.int 1])):(~~~aS) cJ 5 f fd oG (aI K JU):=by
 refine F.okU Ct (λhr=>(aB (b8 (fP Uq (fX (fK WT (f2 (fv 0) (fv 1))) aA) aA) (aE (aG (fK WH (f2 (iD rfl VZ) (fK WU (f2 (fv 0) (fv 1))))))) bH) (aE (aG (fK VS (f2 (aN (f2 aA aA)) (fK WU (f2 (fv 0) (fv 1))))))))) ?_;rintro as Q ⟨x,y,p,q,e,f,rfl,h,k,he,z⟩;have sd:=qR h k;have o:sz (1,1)=1:=∅
 have o3:sz (3,1)=2:=∅
 refine⟨x,y,p,q,e,f,rfl,h,k,he,?_⟩;show if decide (0<=(aY x y p q).1)=true then _ else _
 by_cases c:0<=(aY x y p q).1
 ·rw[oY c,oV rfl];have c':=(dN (cH h k)).2 c;rw[dU h k]at c';have ss:=oR (aQ 1) (bB h k);refine⟨x,y,p,q,e,f,rfl,h,k,he,(1,1),_,rfl,aQ 1,bB h k,⋯,rfl,z _ (dM (aQ 1) (bB h k)) ⋯ ?_⟩;rw[bW (aQ 1) (bB h k),gT,dX h k,iO];unfold dP;rw[oV c']
 ·rw[oX c,oW ∅];have c':¬0<=val x*val q-val y*val p:=λhh=>c ((dN (cH h k)).1 (by rw[dU h k];exact hh));have ss:=iY (aQ 3) (bB h k);refine⟨x,y,p,q,e,f,rfl,h,k,he,(3,1),_,rfl,aQ 3,bB h k,⋯,rfl,z _ (c7 (aQ 3) (bB h k)) ⋯ ?_⟩;rw[bO (aQ 3) (bB h k),iJ,dX h k,iO];unfold dP;rw[oW c'];rfl
def N6:dG:=λas Q=>∃x y:Fr,as=[.v (vc x y)]/\Q (.v (vc (aK x) y)) []
abbrev u0(P w K mg base):=(~~~Fn) 1 "flipped" oN (aI K N6)
abbrev sQ:SV:=top 18
theorem qO:aF ["vector","x","y"] oN (aC sQ):=dH
theorem Jc(F:cI K "flipped" "flipped" sQ f fd)(TX:Txt mg):(~~~aS) cJ 1 f fd oN (aI K N6):=by
 refine F.okU qO (λhr=>(aB (d8 (fv 0) (dA (n:=2) rfl rfl (aM (fG 1 qO.nd) (aM (fG 2 qO.nd) cE)))) (aE (aG (aN (f2 (aN (f2 (d7 (fQ 1)) (fQ 1))) (fv 2))))))) ?_;rintro as Q ⟨x,y,rfl,q⟩;exact⟨rfl,q⟩
def mU(k:L2.T->Rat)(u:L2.T)(M:List L2.T->List L2.T):List L2.T->List L2.T
 |[]=>u::M []
 |r::R=>if k r<k u then r::mU k u M R else u::M (if L2.cS r u=true then R else r::R)
def sH(k:L2.T->Rat):List L2.T->List L2.T->List L2.T
 |[],_=>[]
 |u::A,B=>mU k u (sH k A) B
def Ut(e:Nat)(t:L2.T):Prop:=∃a b,t=vc a b/\Nv a b e
structure Mg(x y:Fr)(A B:List L2.T)(o:L2.T):Prop where
 k1:∀i u,A[i]?=oZ u->i+1<A.length->kf x y u<kf x y o
 k2:∀i u,A[i]?=oZ u->i+1=A.length->u=o
 k3:∀i u,B[i]?=oZ u->i+1=B.length->u=o
 lb:0<B.length
theorem Yw{B:List L2.T}(h:n<B.length):∃r R,B.drop n=r::R/\B[n]?=oZ r/\R=B.drop (n+1):=⟨B[n],B.drop (n+1),MX h,LA h,rfl⟩
def Ng:dG:=λas Q=>∃(x y:Fr)(A B:List L2.T)(o:L2.T)(e f:Nat),as=[.v (.lst A),.v (.lst B),.v (vc x y)]/\Nv x y e/\(∀t∈A,Ut f t)/\(∀t∈B,Ut f t)/\e+f<=3900/\A.length+B.length<=900/\Mg x y A B o/\bM (sH (kf x y) A B)=true/\Q (.l (sH (kf x y) A B)) []
abbrev yJ(P w K mg base):=(~~~Fn) 6 "merged" ["ahead","back","one"] (aI K Ng)
abbrev wZ:SV:=top 41
theorem hX:aF ["ahead","back","one","units","at","unit","size"] ["ahead","back","one"] (aC wZ):=dH
theorem Pz(F:cI K "merged" "merged" wZ f fd)(TX:Txt mg)(XQ: ~~~rD)(WI: ~~~kA):(~~~aS) cJ 6 f fd ["ahead","back","one"] (aI K Ng):=by
 refine F.okU hX (λhr=>(aB (fS 3 hX.nd (c8 bQ)) (aB (fS 4 hX.nd aA) (aB (jQ PassesOwn.never rfl (iF rfl (fv 0)) (fG 5 hX.nd) (aB (fS 6 hX.nd (fK XQ (f2 (fv 2) (fv 5)))) (aB (m8 PassesOwn.never (fP i9 (fK WI (f2 (fK XQ (f2 (fv 2) (fX (fv 1) (fv 4)))) (fv 6))) aA) (aB (jC (gX rfl (fv 3) (f1 (fX (fv 1) (fv 4))))) (aE (Sv (i:=4) hX.nd rfl (MS rfl) aA Ti)))) (aB (b8 (eQ rfl hr (fX (fv 1) (fv 4)) (fv 5) (aV _)) (aE (Sv (i:=4) hX.nd rfl (MS rfl) aA Ti)) bH) (aE (jC (gX rfl (fv 3) (f1 (fv 5))))))))) (aE (aG (fv 3))))))) ?_;rintro as Q ⟨x,y,A,B,o,e,f,rfl,h,ha,hb,he,hl,mg,nl,z⟩;refine cX (λi E=>∃(acc:List L2.T)(n:Nat)(v5 v6:Option U),E=[⇑(.lst A),⇑(.lst B),⇑(vc x y),↥acc,↑(n:Int),v5,v6]/\acc++sH (kf x y) (A.drop i) (B.drop n)=sH (kf x y) A B/\acc.length<=i+n/\n<=B.length/\(i<A.length->n<B.length)) ⟨[],0,none,none,rfl,rfl,LN _,LV _,λ_=>mg.lb⟩ ?_ ?_
 ·rintro i t rest E hi ⟨acc,n,v5,v6,rfl,hm,ik,hn,jj⟩ KK;have cf:A[i]?=oZ t:=hi;obtain⟨a,b,rfl,na⟩:=ha t (LD cf);have oj:i<A.length:=(KZ.mp cf).1;have hA:A.drop i=vc a b::A.drop (i+1):=by
   rw[MX oj];rw[LA oj]at cf;rw[Option.some.inj cf]
  rw[hA]at hm;refine⟨x,y,a,b,e,f,rfl,h,na,he,λsz1 n1 z1 w1=>?_⟩;have ku:kf x y (vc a b)<=kf x y o:=by
   obtain c|c:=MN (i+1) A.length
   ·exact Rat.le_of_lt (mg.k1 i _ cf c)
   ·rw[mg.k2 i _ cf ⋯];exact Rat.le_refl
  refine⟨λm E=>∃(acc:List L2.T)(n:Nat),E=[⇑(.lst A),⇑(.lst B),⇑(vc x y),↥acc,↑(n:Int),⇑(vc a b),⇑(fr sz1)]/\m=B.length-n/\n<B.length/\acc.length<=i+n/\acc++mU (kf x y) (vc a b) (sH (kf x y) (A.drop (i+1))) (B.drop n)=sH (kf x y) A B,⟨_,acc,n,rfl,rfl,jj oj,ik,hm⟩,?_⟩;clear hm ik hn jj;rintro m E ⟨acc,n,rfl,rfl,hn,ik,hm⟩;obtain⟨r,R,hd,hr,hR⟩:=Yw hn;obtain⟨c,d,rfl,nc⟩:=hb r (LD hr);have oi:eV B (n:Int)=oZ (vc c d):=lI hr;rw[hd]at hm;show o1 (eV B (n:Int)) _;rw[oi];refine⟨x,y,c,d,e,f,rfl,h,nc,he,λs2 n2 z2 w2=>?_⟩;refine⟨s2,sz1,rfl,n2,n1,⋯,⋯,λr we=>?_⟩;show if decide (r<0)=true then _ else _
  by_cases lt:r<0
  ·rw[oY lt,oV rfl];have kl:kf x y (vc c d)<kf x y (vc a b):=by rw[<-w2,<-w1];exact we.1 lt
   show o1 (eV B (n:Int)) _;rw[oi];refine⟨?_,B.length-(n+1),⋯,acc++[vc c d],n+1,rfl,rfl,?_,?_,?_⟩
   ·show(acc++[vc c d]).length<=9000;rw[LG,MD];lia
   ·obtain c1|c1:=MN (n+1) B.length
    ·exact c1
    ·have:=mg.k3 n _ hr ⋯;rw[this]at kl;grind
   ·rw[LG,MD];lia
   ·rw[<-hm];show _=acc++(if kf x y (vc c d)<kf x y (vc a b)then _ else _);rw[oV kl,hR];simp
  ·rw[oX lt,oW ∅];have kl:¬kf x y (vc c d)<kf x y (vc a b):=by rw[<-w2,<-w1];exactλh=>lt (we.2 h)
   have hm':acc++(if kf x y (vc c d)<kf x y (vc a b)then(vc c d)::mU (kf x y) (vc a b) (sH (kf x y) (A.drop (i+1))) R else(vc a b)::sH (kf x y) (A.drop (i+1)) (if L2.cS (vc c d) (vc a b)=true then R else vc c d::R))=sH (kf x y) A B:=hm;rw[oW kl]at hm';show o1 (eV B (n:Int)) _;rw[oi];refine⟨b7 rfl,?_⟩;show if L2.cS (vc c d) (vc a b)=true then _ else _
   by_cases eq:L2.cS (vc c d) (vc a b)=true
   ·rw[oV eq]at hm'⊢;refine⟨?_,KK _ ⟨acc++[vc a b],n+1,_,_,rfl,?_,?_,?_,?_⟩⟩
    ·show(acc++[vc a b]).length<=9000;rw[LG,MD];lia
    ·rw[<-hm',hR];simp
    ·rw[LG,MD];lia
    ·lia
    ·intro hi2;obtain c1|c1:=MN (n+1) B.length
     ·exact c1
     ·have t1:=mg.k3 n _ hr ⋯;have t2:=mg.k1 i _ cf hi2;rw[yW]at eq;have:=of_decide_eq_true eq;rw[this.1,this.2]at t1;rw[t1]at t2;grind
   ·rw[oW eq]at hm'⊢;refine⟨?_,KK _ ⟨acc++[vc a b],n,_,_,rfl,?_,?_,?_,?_⟩⟩
    ·show(acc++[vc a b]).length<=9000;rw[LG,MD];lia
    ·rw[<-hm',hd];simp
    ·rw[LG,MD];lia
    ·lia
    ·intro _;exact hn
 ·rintro E ⟨acc,n,v5,v6,rfl,hm,ik,hn,jj⟩;have e1:acc=sH (kf x y) A B:=by
   rw[NX]at hm;rw[<-hm];simp[sH]
  subst e1;exact⟨nl,z⟩
def Ll(t:L2.T):L2.T:=vc (aK (cx t).1) (cx t).2
theorem m7(a b:Fr):Ll (vc a b)=vc (aK a) b:=rfl
theorem yY(a:Fr):aK (aK a)=a:=by unfold aK;simp
theorem cA.flip(h:cA x y e):cA (aK x) y e:=⟨⟨e7 h.nv.x,h.nv.y,by rw[oQ];exact h.nv.sx,h.nv.sy⟩,by rw[bR h.nv.x,<-h.one];grind⟩
theorem Nv.flip{x y:Fr}{e:Nat}(h:Nv x y e):Nv (aK x) y e:=⟨e7 h.x,h.y,by rw[oQ];exact h.sx,h.sy⟩
theorem Hz:∀{a:L2.T}{l:List L2.T}{t:L2.T},chn a l->t∈l->Ut 2500 t
 |_,[],_,_,h=>by cases h
 |a,b::l,t,h,m=>by
  obtain rfl|m:=LH.mp m
  ·obtain⟨_,_,c,d,_,e,_,n,_⟩:=h.1;exact⟨c,d,e,n⟩
  ·exact Hz h.2 m
theorem Tv{k:L2.T->Rat}:∀{B:List L2.T},(∀B',(∀z∈B',z∈B)->t∈M B'->t∈M B' )->t∈mU k u M B->t∈B\/t=u\/∃B',(∀z∈B',z∈B)/\t∈M B'
 |[],_,h=>by
  obtain h|h:=LH.mp h
  ·exact .inr (.inl h)
  ·exact .inr (.inr ⟨[],λ_ h=>h,h⟩)
 |r::R,hh,h=>by
  unfold mU at h;split at h
  ·obtain h|h:=LH.mp h
   ·exact .inl (by rw[h];exact LK ..)
   ·rcases Tv (B:=R) (λB' z w=>w) h with h|h|⟨B',h1,h2⟩
    ·exact .inl (LC _ h)
    ·exact .inr (.inl h)
    ·exact .inr (.inr ⟨B',λz hz=>LC _ (h1 z hz),h2⟩)
  ·obtain h|h:=LH.mp h
   ·exact .inr (.inl h)
   ·refine .inr (.inr ⟨_,λz hz=>?_,h⟩);split at hz
    ·exact LC _ hz
    ·exact hz
theorem uP{k:L2.T->Rat}:∀{A B:List L2.T},t∈sH k A B->t∈A\/t∈B
 |[],B,h=>by cases h
 |u::A,B,h=>by
  rcases Tv (M:=sH k A) (λB' _ w=>w) h with h|h|⟨B',h1,h2⟩
  ·exact .inr h
  ·exact .inl (by rw[h];exact LK ..)
  ·obtain h|h:=uP h2
   ·exact .inl (LC _ h)
   ·exact .inr (h1 t h)
theorem Bh:∀{l:List L2.T},Hr l->bM l=true
 |[],_=>rfl
 |t::l,h=>by
  obtain⟨a,b,rfl⟩:=h t (LK ..);have:=Bh (l:=l) λt ht=>h t (LC _ ht);show(noL (vc a b)&&bM l)=true;rw[this];rfl
theorem Nz(h:Hr l):Hr (vc a b::l):=λt ht=>by
 obtain rfl|h':=LH.mp ht
 ·exact⟨_,_,rfl⟩
 ·exact h t h'
def Dp(x y p q:Fr)(s:Int)(m:Nat):List L2.T:=((vc (aK p) q::qb (aK x) y s m (aK p) q).reverse).map Ll
def uX(x y p q:Fr)(s:Int)(m m':Nat):List L2.T:=sH (kf x y) (vc x y::qb p q s m x y) (Dp x y p q s m')
theorem BO{s:Int}(h:cA x y e)(k:cA p q f)(he:e+f<=140)(uh:e<=100)(hf:f<=100)(hs:s=1\/s=2\/s=3)(r:Dl (aK x) y m (aK p) q):∀t∈Dp x y p q s m,Ut 2500 t:=by
 intro t ht;obtain⟨z,hz,rfl⟩:=NO.mp ht;have hz:=QD.mp hz;have ch:=(vL (s:=s) h.flip hf (show f+e<=140 by lia) hs m (aK p) q k.flip r).1;have uz:Ut 2500 z:=by
  obtain rfl|hz:=LH.mp hz
  ·exact⟨_,_,rfl,k.flip.nv.up ⋯⟩
  ·exact Hz ch hz
 obtain⟨a,b,rfl,n⟩:=uz;exact⟨aK a,b,rfl,n.flip⟩
theorem Aa(h:∀t∈l,Ut e t):Hr l:=λt ht=>by obtain⟨a,b,e,_⟩:=h t ht;exact⟨a,b,e⟩
theorem CU{s:Int}(h:cA x y e)(k:cA p q f)(he:e+f<=140)(uh:e<=100)(hs:s=1\/s=2\/s=3)(hm:m<=3)(r:Dl p q m x y):Mg x y (vc x y::qb p q s m x y) (Dp x y p q s m') (vc p q):=by
 have ym:At 0 (val x*val x+val y*val y) (val x*val y-val y*val x):=.inl ⟨rfl,h.one,by grind⟩;have st:=Ke (s:=s) h k uh he hs m 0 x y h ⋯ ym r;have ls:=(vL k uh he hs m x y h r).2;refine⟨λi u hi hl=>?_,λi u hi hl=>?_,λi u hi hl=>?_,?_⟩
 ·rw[<-ls];exact rY st hi (by simpa using hl)
 ·obtain⟨L,hL⟩:=Be (vc x y) (qb p q s m x y);rw[hL]at hi hl;rw[LG,MD]at hl;have:i=L.length:=⋯
  subst this;simp at hi;rw[<-hi,ls]
 ·unfold Dp at hi hl;rw[OB,MF]at hi hl;rw[LG]at hl;simp at hl;have:i=((qb (aK x) y s m' (aK p) q).reverse.map Ll).length:=by simp;lia
  subst this;rw[MI (LN _)]at hi;simp at hi;rw[<-hi,m7,yY]
 ·simp[Dp]
theorem Ts{s:Int}(x y p q:Fr)(hs:s=1\/s=2\/s=3)(m:Nat):(Dp x y p q s m).length<=3*m+4:=by
 have:=Bc (aK x) y hs m (aK p) q;simp[Dp]
 lia
def JV:dG:=λas Q=>∃(x y p q:Fr)(s:Int)(e f:Nat),as=[.v (vc x y),.v (vc p q),.v (.int s)]/\cA x y e/\cA p q f/\e+f<=140/\e<=100/\f<=100/\(s=1\/s=2\/s=3)/\∀m m',m<=3->m'<=3->Dl p q m x y->Dl (aK x) y m' (aK p) q->Q (.l (uX x y p q s m m')) []
abbrev dD(P w K mg base):=(~~~Fn) 7 "units_between" ["one","other","steps"] (aI K JV)
abbrev iW:SV:=top 42
theorem h9:aF ["one","other","steps","ahead","back"] ["one","other","steps"] (aC iW):=dH
theorem sJ(F:cI K "units_between" "units_between" iW f fd)(TX:Txt mg)(WJ: ~~~i5)(XX: ~~~u0)(ZM: ~~~yJ):(~~~aS) cJ 7 f fd ["one","other","steps"] (aI K JV):=by
 refine F.okU h9 (λhr=>(aB (fS 3 h9.nd (fK WJ (f3 (fv 0) (fv 1) (fv 2)))) (aB (fS 4 h9.nd (fK WJ (f3 (fK XX (f1 (fv 1))) (fK XX (f1 (fv 0))) (fv 2)))) (aE (aG (fK ZM (f3 (fv 3) (iC (N':=["unit"]) (t:=1) (cap:=[]) rfl (bL.of rfl) rfl ∅ (iF rfl (Zh rfl (fv 4) (jB (d7 aA)))) (λ_ _ _ _=>(fH 0)) (λ_ _ _ _=>(fK XX (f1 (fv 0))))) (fv 0)))))))) ?_;rintro as Q ⟨x,y,p,q,s,e,f,rfl,hu,hv,he,uh,hf1,hs,z⟩;obtain⟨m,hm,hr⟩:=Vs hu hv;obtain⟨m',hm',we⟩:=Vs hv.flip hu.flip;have z:=z m m' hm hm' hr we;refine⟨x,y,p,q,s,e,f,m,rfl,hu,hv,he,hs,hm,hr,?_⟩;refine⟨p,q,rfl,x,y,rfl,?_⟩;refine⟨aK p,q,aK x,y,s,f,e,m',rfl,hv.flip,hu.flip,⋯,hs,hm',we,?_⟩;have au:∀t∈(vc (aK p) q::qb (aK x) y s m' (aK p) q).reverse,∃a b,t=vc a b:=λt ht=>Nz (Kq _ _ _ _ _ _) t (QD.mp ht);have bl:Dp x y p q s m'=((vc (aK p) q::qb (aK x) y s m' (aK p) q).reverse).map Ll:=rfl;have lb:=Ts x y p q hs m';have la:=Bc p q hs m x y;have ub:=BO (s:=s) hu hv he uh hf1 hs we;have ua:∀t∈vc x y::qb p q s m x y,Ut 2500 t:=λt ht=>by
  obtain rfl|ht:=LH.mp ht
  ·exact⟨_,_,rfl,hu.nv.up ⋯⟩
  ·exact Hz (vL hv uh he hs m x y hu hr).1 ht
 have av:Hr (uX x y p q s m m'):=λt ht=>by
  obtain h|h:=uP ht
  ·exact Aa ua t h
  ·exact Aa ub t h
 refine⟨rfl,rfl,?_⟩;show kB _ _ ((vc (aK p) q::qb (aK x) y s m' (aK p) q).reverse) _ _;generalize hR:(vc (aK p) q::qb (aK x) y s m' (aK p) q).reverse=RL at au bl⊢;have ll:RL.length<=13:=by rw[bl,LJ]at lb;lia
 refine cW (λi E=>∃v0,E=[v0,↥((RL.take i).map Ll)]) ⟨none,rfl⟩ ?_ ?_
 ·rintro i t rest E hi ⟨v0,rfl⟩ KK;obtain⟨a,b,rfl⟩:=au t (LD hi);have il:=(KZ.mp hi).1;refine⟨a,b,rfl,?_,KK _ ⟨⇑(vc a b),?_⟩⟩
  ·show((RL.take i).map Ll).length<9000;rw[LJ,MQ];lia
  ·have e1:RL.take (i+1)=RL.take i++[vc a b]:=by rw[OC,hi];rfl
   rw[e1,MF];rfl
 ·rintro E ⟨v0,rfl⟩;rw[NY,<-bl];refine⟨Bh (Aa ub),?_⟩;refine⟨x,y,_,_,vc p q,e,2500,rfl,hu.nv,ua,ub,⋯,?_,CU hu hv he uh hs hm hr,Bh av,?_⟩
  ·rw[LO];lia
  ·exact⟨Bh av,z⟩
theorem bG{d c:Rat}(o:d*d+c*c=1):-1<=d/\d<=1:=by
 have hc:0<=c*c:=by
  rcases Rat.le_total (a:=0) (b:=c)with h|h
  ·exact Rat.mul_nonneg h h
  ·have:=Rat.mul_nonneg (a:=-c) (b:=-c) (by grind) (by grind);grind
 constructor
 ·rcases Rat.le_total (a:=-1) (b:=d)with h|h
  ·exact h
  ·by_cases e:d = -1
   ·grind
   ·have:=Rat.mul_pos (a:=-1-d) (b:=1-d) (by grind) (by grind);grind
 ·rcases Rat.le_total (a:=d) (b:=1)with h|h
  ·exact h
  ·by_cases e:d=1
   ·grind
   ·have:=Rat.mul_pos (a:=d-1) (b:=1+d) (by grind) (by grind);grind
theorem kE{d c:Rat}(o:d*d+c*c=1)(hc:c≠0):-1<d/\d<1:=by
 obtain⟨h1,h2⟩:=bG o;have n1:d≠1:=λe=>by
  rw[e]at o;have:c*c=0:=by grind
  rcases Rat.mul_eq_zero.mp this with a|a<;>exact hc a
 have n2:d≠-1:=λe=>by
  rw[e]at o;have:c*c=0:=by grind
  rcases Rat.mul_eq_zero.mp this with a|a<;>exact hc a
 constructor<;>grind
theorem zT{d:Rat}(o:d*d+0*0=1):d=1\/d = -1:=by
 have:(d-1)*(d+1)=0:=by grind
 obtain a|a:=Rat.mul_eq_zero.mp this
 ·left;grind
 ·right;grind
theorem J5{d1 c1 d2 c2:Rat}(o1:d1*d1+c1*c1=1)(o2:d2*d2+c2*c2=1):(d1*c2-c1*d2)*(c1+c2)=(d1-d2)*(1+d1*d2+c1*c2):=by grind
theorem Tb{d1 c1 d2 c2:Rat}(o1:d1*d1+c1*c1=1)(o2:d2*d2+c2*c2=1)(h:0<c1*c2):0<1+d1*d2+c1*c2:=by
 obtain⟨a1,a2⟩:=bG o1;obtain⟨b1,b2⟩:=bG o2;have p1:=Rat.mul_nonneg (a:=1-d1) (b:=1-d2) (by grind) (by grind);have p2:=Rat.mul_nonneg (a:=1+d1) (b:=1+d2) (by grind) (by grind);grind
theorem AR{d1 c1 d2 c2:Rat}(o1:d1*d1+c1*c1=1)(o2:d2*d2+c2*c2=1)(h1:0<c1)(h2:0<c2):0<d1*c2-c1*d2↔d2<d1:=by
 have hp:=Tb o1 o2 (Rat.mul_pos h1 h2);have id:=J5 o1 o2;have hs:0<c1+c2:=by grind
 constructor
 ·intro h;have:0<(d1-d2)*(1+d1*d2+c1*c2):=by rw[<-id];exact Rat.mul_pos h hs
  have:=bS hp this;grind
 ·intro h;exact bS hs (by rw[id];exact Rat.mul_pos (by grind) hp)
theorem Q7{ca wa cv wv cu wu:Rat}(ha:ca*ca=wa*(2-wa))(hv:cv*cv=wv*(2-wv))(hu:cu*cu=wu*(2-wu)):
  ((ca*wv-cv*wa)+(cv*wu-cu*wv)-(ca*wu-cu*wa))*(2*(wa*wv*wu))=(ca*wv-cv*wa)*(cv*wu-cu*wv)*(ca*wu-cu*wa):=by grind
theorem yV{ca wa cv wv cu wu:Rat}(ha:ca*ca=wa*(2-wa))(hv:cv*cv=wv*(2-wv))(hu:cu*cu=wu*(2-wu))(pa:0<wa)(pv:0<wv)(pu:0<wu)(h1:0<ca*wv-cv*wa)(h2:0<cv*wu-cu*wv):0<ca*wu-cu*wa/\0<(ca*wv-cv*wa)+(cv*wu-cu*wv)-(ca*wu-cu*wa):=by
 have h3:0<ca*wu-cu*wa:=bS pv (by
  have:(ca*wu-cu*wa)*wv=wu*(ca*wv-cv*wa)+wa*(cv*wu-cu*wv):=by grind
  rw[this];have:=Rat.mul_pos pu h1;have:=Rat.mul_pos pa h2;grind)
 refine⟨h3,?_⟩;have pw:0<2*(wa*wv*wu):=Rat.mul_pos (by grind) (Rat.mul_pos (Rat.mul_pos pa pv) pu);exact bS pw (by rw[Q7 ha hv hu];exact Rat.mul_pos (Rat.mul_pos h1 h2) h3)
theorem Yo{d1 c1 d2 c2:Rat}(o1:d1*d1+c1*c1=1)(o2:d2*d2+c2*c2=1):(c1*(1-d2)-c2*(1-d1))*(c1*(1-d2)+c2*(1-d1))=2*((1-d1)*(1-d2))*(d1-d2):=by grind
theorem kW{d1 c1 d2 c2:Rat}(o1:d1*d1+c1*c1=1)(o2:d2*d2+c2*c2=1)(n1:d1≠1)(n2:d2≠1):dP d1 c1<dP d2 c2↔0<c1*(1-d2)-c2*(1-d1):=by
 obtain⟨a1,a2⟩:=bG o1;obtain⟨b1,b2⟩:=bG o2;have w1:0<1-d1:=by grind
 have w2:0<1-d2:=by grind
 have ww:=Rat.mul_pos w1 w2;have id:=Yo o1 o2;unfold dP
 by_cases h1:0<=c1
 ·rw[oV h1];have p1:=Rat.mul_nonneg h1 (Rat.le_of_lt w2)
  by_cases h2:0<=c2
  ·rw[oV h2];have p2:=Rat.mul_nonneg h2 (Rat.le_of_lt w1)
   by_cases s0:0<c1*(1-d2)+c2*(1-d1)
   ·constructor
    ·intro h;exact bS s0 (by rw[id];exact Rat.mul_pos (Rat.mul_pos (by grind) ww) (by grind))
    ·intro h;have q:0<(d1-d2)*(2*((1-d1)*(1-d2))):=by
      have:(d1-d2)*(2*((1-d1)*(1-d2)))=2*((1-d1)*(1-d2))*(d1-d2):=by grind
      rw[this,<-id];exact Rat.mul_pos h s0
     have:=bS (Rat.mul_pos (show(0:Rat)<2 by grind) ww) q;grind
   ·have z:c1*(1-d2)+c2*(1-d1)=0:=by grind
    rw[z]at id;have:(2*((1-d1)*(1-d2)))*(d1-d2)=0:=by grind
    have e:d1-d2=0:=by
     obtain a|a:=Rat.mul_eq_zero.mp this
     ·grind
     ·exact a
    constructor<;>intro h<;>grind
  ·rw[oW h2];have p2:=Rat.mul_pos (a:=-c2) (b:=1-d1) (by grind) w1;obtain⟨e1,e2⟩:=kE o2 (by grind);constructor<;>intro h<;>grind
 ·rw[oW h1];have p1:=Rat.mul_pos (a:=-c1) (b:=1-d2) (by grind) w2;obtain⟨f1,f2⟩:=kE o1 (by grind)
  by_cases h2:0<=c2
  ·rw[oV h2];have p2:=Rat.mul_nonneg h2 (Rat.le_of_lt w1);constructor<;>intro h<;>grind
  ·rw[oW h2];have p2:=Rat.mul_pos (a:=-c2) (b:=1-d1) (by grind) w1;have s0:0 < -(c1*(1-d2)+c2*(1-d1)):=by grind
   constructor
   ·intro h;refine bS s0 ?_;have:(c1*(1-d2)-c2*(1-d1)) * -(c1*(1-d2)+c2*(1-d1))=(2*((1-d1)*(1-d2)))*(d2-d1):=by grind
    rw[this];exact Rat.mul_pos (Rat.mul_pos (by grind) ww) (by grind)
   ·intro h;have q:0<(d2-d1)*(2*((1-d1)*(1-d2))):=by
     have:(d2-d1)*(2*((1-d1)*(1-d2)))=(c1*(1-d2)-c2*(1-d1)) * -(c1*(1-d2)+c2*(1-d1)):=by grind
     rw[this];exact Rat.mul_pos h s0
    have:=bS (Rat.mul_pos (show(0:Rat)<2 by grind) ww) q;grind
def SS(k:L2.T->Rat)(l:List L2.T):Prop:=l.Pairwise λa b=>k a<k b
theorem Ws{k:L2.T->Rat}:∀{a:L2.T}{l:List L2.T},srt k a l->SS k (a::l)
 |a,[],_=>List.pairwise_singleton _ _
 |a,b::l,h=>by
  have ih:=Ws h.2;have q:=NA.mp ih;refine NA.mpr ⟨λt ht=>?_,ih⟩;have h1:=h.1;obtain rfl|ht:=LH.mp ht
  ·exact h1
  ·have:=q.1 t ht;grind
theorem Lv{k:L2.T->Rat}:∀{B:List L2.T},SS k B->(∀r∈B,k r=k u->L2.cS r u=true)->(∀r∈B,L2.cS r u=true->r=u)->
  (∀R,SS k R->(∀r∈R,r∈B/\k u<k r)->SS k (M R)/\∀t∈M R,k u<k t)->
  SS k (mU k u M B)/\(∀t∈mU k u M B,k t<k u->t∈B)/\(∀c,k c<k u->(∀r∈B,k c<k r)->∀t∈mU k u M B,k c<k t)
 |[],_,_,_,hM=>by
  obtain⟨h1,h2⟩:=hM [] List.Pairwise.nil (λr h=>by cases h);refine⟨NA.mpr ⟨h2,h1⟩,λt ht hk=>?_,λc hc _ t ht=>?_⟩
  ·obtain rfl|ht:=LH.mp ht
   ·grind
   ·have:=h2 t ht;grind
  ·obtain rfl|ht:=LH.mp ht
   ·exact hc
   ·have:=h2 t ht;grind
 |r::R,hB,inj,ir,hM=>by
  have q:=NA.mp hB;unfold mU
  by_cases lt:k r<k u
  ·rw[oV lt];obtain⟨i1,i2,i3⟩:=Lv (B:=R) (M:=M) q.2 (λs hs=>inj s (LC _ hs)) (λs hs=>ir s (LC _ hs)) (λR' h h'=>hM R' h λs hs=>⟨LC _ (h' s hs).1,(h' s hs).2⟩);refine⟨NA.mpr ⟨λt ht=>i3 r lt q.1 t ht,i1⟩,λt ht hk=>?_,λc hc hr t ht=>?_⟩
   ·obtain rfl|ht:=LH.mp ht
    ·exact LK ..
    ·exact LC _ (i2 t ht hk)
   ·obtain rfl|ht:=LH.mp ht
    ·exact hr _ (LK ..)
    ·exact i3 c hc (λs hs=>hr s (LC _ hs)) t ht
  ·rw[oW lt];have hR:∀s∈(if L2.cS r u=true then R else r::R),s∈r::R/\k u<k s:=λs hs=>by
    split at hs
    ·rename_i e;have:=q.1 s hs;have e':=ir r (LK ..) e;exact⟨LC _ hs,by rw[<-e'];exact this⟩
    ·rename_i e;refine⟨hs,?_⟩;have ne:k r≠k u:=λz=>e (inj r (LK ..) z);obtain rfl|hs:=LH.mp hs
     ·grind
     ·have:=q.1 s hs;grind
   have sR:SS k (if L2.cS r u=true then R else r::R):=by
    split
    ·exact q.2
    ·exact hB
   obtain⟨h1,h2⟩:=hM _ sR hR;refine⟨NA.mpr ⟨h2,h1⟩,λt ht hk=>?_,λc hc _ t ht=>?_⟩
   ·obtain rfl|ht:=LH.mp ht
    ·grind
    ·have:=h2 t ht;grind
   ·obtain rfl|ht:=LH.mp ht
    ·exact hc
    ·have:=h2 t ht;grind
theorem Tx{k:L2.T->Rat}:∀{A B:List L2.T},SS k A->SS k B->(∀u∈A,∀r∈B,k r=k u->L2.cS r u=true)->(∀u∈A,∀r∈B,L2.cS r u=true->r=u)->
  SS k (sH k A B)/\(∀c,(∀u∈A,k c<k u)->(∀r∈B,k c<k r)->∀t∈sH k A B,k c<k t)
 |[],B,_,_,_,_=>⟨List.Pairwise.nil,λc _ _ t ht=>by cases ht⟩
 |u::A,B,hA,hB,inj,ir=>by
  have q:=NA.mp hA;have ih:∀R,SS k R->(∀r∈R,r∈B/\k u<k r)->SS k (sH k A R)/\∀t∈sH k A R,k u<k t:=λR hR h'=>by
   obtain⟨h1,h2⟩:=Tx (A:=A) (B:=R) q.2 hR (λv hv r hr=>inj v (LC _ hv) r (h' r hr).1) (λv hv r hr=>ir v (LC _ hv) r (h' r hr).1);exact⟨h1,h2 u q.1 λr hr=>(h' r hr).2⟩
  obtain⟨i1,i2,i3⟩:=Lv (u:=u) (M:=sH k A) hB (inj u (LK ..)) (ir u (LK ..)) ih;exact⟨i1,λc hc hr=>i3 c (hc u (LK ..)) hr⟩
def Yl(k:L2.T->Rat)(u:L2.T):List L2.T->List L2.T
 |[]=>[]
 |r::R=>if k r<k u then Yl k u R else(if L2.cS r u=true then R else r::R)
def BC(k:L2.T->Rat)(u:L2.T):List L2.T->List L2.T
 |[]=>[]
 |r::R=>if k r<k u then r::BC k u R else[]
theorem L6{k:L2.T->Rat}:∀B:List L2.T,mU k u M B=BC k u B++u::M (Yl k u B)
 |[]=>rfl
 |r::R=>by
  unfold mU BC Yl
  split
  ·rw[L6 R];rfl
  ·rfl
theorem Vw{k:L2.T->Rat}:∀{B:List L2.T}{r:L2.T},r∈B->r∈BC k u B\/L2.cS r u=true\/r∈Yl k u B
 |s::R,r,h=>by
  unfold BC Yl
  by_cases lt:k s<k u
  ·rw[oV lt,oV lt];obtain rfl|h:=LH.mp h
   ·exact .inl (LK ..)
   ·obtain h|h|h:=Vw h
    ·exact .inl (LC _ h)
    ·exact .inr (.inl h)
    ·exact .inr (.inr h)
  ·rw[oW lt,oW lt]
   by_cases e:L2.cS s u=true
   ·rw[oV e];obtain rfl|h:=LH.mp h
    ·exact .inr (.inl e)
    ·exact .inr (.inr h)
   ·rw[oW e];exact .inr (.inr h)
theorem Vv{k:L2.T->Rat}:∀{B:List L2.T},SS k B->(∀r∈B,k r=k u->L2.cS r u=true)->(∀r∈B,L2.cS r u=true->r=u)->SS k (Yl k u B)/\∀r∈Yl k u B,r∈B/\k u<k r
 |[],_,_,_=>⟨List.Pairwise.nil,λr h=>by cases h⟩
 |s::R,hB,inj,ir=>by
  have q:=NA.mp hB;unfold Yl
  by_cases lt:k s<k u
  ·rw[oV lt];obtain⟨h1,h2⟩:=Vv (B:=R) q.2 (λr hr=>inj r (LC _ hr)) (λr hr=>ir r (LC _ hr));exact⟨h1,λr hr=>⟨LC _ (h2 r hr).1,(h2 r hr).2⟩⟩
  ·rw[oW lt]
   by_cases e:L2.cS s u=true
   ·rw[oV e];have e':=ir s (LK ..) e;exact⟨q.2,λr hr=>⟨LC _ hr,by rw[<-e'];exact q.1 r hr⟩⟩
   ·rw[oW e];have ne:k s≠k u:=λz=>e (inj s (LK ..) z);refine⟨hB,λr hr=>⟨hr,?_⟩⟩;obtain rfl|hr:=LH.mp hr
    ·grind
    ·have:=q.1 r hr;grind
theorem Lw{k:L2.T->Rat}:∀{A B:List L2.T},SS k B->(∀u∈A,∀r∈B,k r=k u->L2.cS r u=true)->(∀u∈A,∀r∈B,L2.cS r u=true->r=u)->(∀r∈B,∃u∈A,k r<=k u)->
  (∀u∈A,u∈sH k A B)/\∀r∈B,r∈sH k A B
 |[],B,_,_,_,h=>⟨λu hu=>(by cases hu),λr hr=>(by obtain⟨u,hu,_⟩:=h r hr;cases hu)⟩
 |u::A,B,hB,inj,ir,h=>by
  have e:sH k (u::A) B=BC k u B++u::sH k A (Yl k u B):=L6 B;obtain⟨g1,g2⟩:=Vv hB (inj u (LK ..)) (ir u (LK ..));obtain⟨i1,i2⟩:=Lw (A:=A) (B:=Yl k u B) g1 (λv hv r hr=>inj v (LC _ hv) r (g2 r hr).1) (λv hv r hr=>ir v (LC _ hv) r (g2 r hr).1) (λr hr=>by
   obtain⟨v,hv,le⟩:=h r (g2 r hr).1;obtain rfl|hv:=LH.mp hv
   ·have:=(g2 r hr).2;grind
   ·exact⟨v,hv,le⟩)
  rw[e];refine⟨λv hv=>?_,λr hr=>?_⟩
  ·obtain rfl|hv:=LH.mp hv
   ·simp
   ·exact LQ _ (LC _ (i1 v hv))
  ·rcases Vw (k:=k) (u:=u) hr with h1|h1|h1
   ·exact QK _ h1
   ·have:=ir u (LK ..) r hr h1;rw[this];simp
   ·exact LQ _ (LC _ (i2 r h1))
theorem Kx(hx:bI x)(hy:bI y)(h:val x*val x+val y*val y=1):y.2.natAbs∣x.2.natAbs:=by
 have h1:=hx.neR;have h2:=hy.neR;have e:(y.1*y.1)*(x.2*x.2)=(y.2*y.2)*(x.2*x.2-x.1*x.1):=by
  unfold val at h;have h':(y.1:Rat)*y.1*(x.2*x.2)=y.2*y.2*(x.2*x.2-x.1*x.1):=by grind
  exact_mod_cast h'
 have d1:y.2.natAbs^2∣y.1.natAbs^2*x.2.natAbs^2:=by
  have:(y.1*y.1*(x.2*x.2)).natAbs=y.1.natAbs^2*x.2.natAbs^2:=by rw[MO,MO,MO,RC,RC]
  rw[<-this,e,MO,MO,<-RC];exact Nat.dvd_mul_right _ _
 have cp:OW (y.2.natAbs^2) (y.1.natAbs^2):=Nat.Coprime.pow 2 2 (by unfold OW;rw[QU];exact hy.g);exact(Nat.pow_dvd_pow_iff ∅).mp (cp.dvd_of_dvd_mul_left d1)
theorem Q8(hx:bI x)(hy:bI y)(h:val x*val x+val y*val y=1):x.2=y.2:=by
 have a:=Kx hx hy h;have b:=Kx hy hx (by rw[<-h];grind);have c:=Nat.dvd_antisymm a b;have:=hx.d;have:=hy.d
 lia
theorem Wu{n d:Int}(hp:bI p)(hd:d≠0)(h:val p=(n:Rat)/(d:Rat))(h1:n.natAbs<2^e)(h2:d.natAbs<2^e)(he:1<=e):sz p<=e:=by
 have:p=iV n d:=b9 hp (fW hd) (by rw[fE hd];exact h);rw[this];exact mE hd h1 h2 he
theorem IY(h:cA x y e)(k:cA p q f)(hr:bI r)(n:Int)(hn:n.natAbs<2^(e+f+1))(hv:val r=(n:Rat)/((x.2*p.2:Int):Rat)):sz r<=e+f+1:=
 Wu hr (eB h.nv.x k.nv.x) hv hn (pl (bF (pl (bV x) h.nv.sx) (pl (bV p) k.nv.sx)) ⋯) ⋯
theorem BN{a b c d:Int}(h1:a.natAbs<2^e)(h2:b.natAbs<2^f)(h3:c.natAbs<2^e)(h4:d.natAbs<2^f):(a*b+c*d).natAbs<2^(e+f+1)/\(a*b-c*d).natAbs<2^(e+f+1):=⟨o7 (bF h1 h2) (bF h3 h4),Cy (bF h1 h2) (bF h3 h4)⟩
theorem cA.n1(h:cA x y e):x.1.natAbs<2^e:=pl (dR x) h.nv.sx
theorem cA.n2(h:cA x y e):y.1.natAbs<2^e:=pl (dR y) h.nv.sy
theorem cA.eqd(h:cA x y e):x.2=y.2:=Q8 h.nv.x h.nv.y h.one
theorem uU(h:cA x y e)(k:cA p q f):sz (cM x y p q)<=e+f+1:=by
 refine IY h k (bB h.nv k.nv) (x.1*p.1+y.1*q.1) (BN h.n1 k.n1 h.n2 k.n2).1 ?_;rw[dX h.nv k.nv];have d1:=h.eqd;have d2:=k.eqd;have z1:=h.nv.x.neR;have z2:=k.nv.x.neR;unfold val;rw[<-d1,<-d2]
 push_cast
 grind
theorem cA.trU(h:cA x y e)(k:cA p q f):cA (Xq x y p q) (Xp x y p q) (e+f+1):=by
 have t:=h.tr k;have d1:=h.eqd;have d2:=k.eqd;have z1:=h.nv.x.neR;have z2:=k.nv.x.neR;refine⟨⟨t.nv.x,t.nv.y,IY h k t.nv.x (x.1*p.1-y.1*q.1) (BN h.n1 k.n1 h.n2 k.n2).2 ?_,IY h k t.nv.y (x.1*q.1+y.1*p.1) (BN h.n1 k.n2 h.n2 k.n1).1 ?_⟩,t.one⟩
 ·rw[gL h.nv k.nv];unfold val;rw[<-d1,<-d2]
  push_cast
  grind
 ·rw[gK h.nv k.nv];unfold val;rw[<-d1,<-d2]
  push_cast
  grind
theorem I0(h:cA x y e)(k:cA p q f)(n:(bJ (1,1) (cM x y p q)).1≠0):bI (mL x y p q)/\sz (mL x y p q)<=e+f+2:=by
 have nn:=(xI h.nv k.nv n).1;refine⟨nn,?_⟩;have d1:=h.eqd;have d2:=k.eqd;have z1:=h.nv.x.neR;have z2:=k.nv.x.neR;have na:=c7 (aQ 1) (bB h.nv k.nv);have va:=bO (aQ 1) (bB h.nv k.nv);rw[gT,dX h.nv k.nv]at va;have nz:val (bJ (1,1) (cM x y p q))≠0:=λz=>by
  have:=(xO na).1 (by grind);have:=(dN na).1 (by grind)
  lia
 have vt:val (mL x y p q)=(val x*val q-val y*val p)/(1+(val x*val p+val y*val q)):=by
  unfold mL;rw[k9 (cH h.nv k.nv) na n,dU h.nv k.nv,va]
 rw[va]at nz;have b1:=(BN h.n1 k.n2 h.n2 k.n1).2;have b2:=(BN h.n1 k.n1 h.n2 k.n2).1;have b3:(x.2*p.2).natAbs<2^(e+f):=bF (pl (bV x) h.nv.sx) (pl (bV p) k.nv.sx);have hd:x.2*p.2+(x.1*p.1+y.1*q.1)≠0:=λz=>by
  apply nz;have z':(x.2:Rat)*p.2+(x.1*p.1+y.1*q.1)=0:=by exact_mod_cast z
  unfold val;rw[<-d1,<-d2];grind
 refine Wu nn hd ?_ (pl b1 ⋯) (o7 (pl b3 ⋯) b2) ⋯;rw[vt];have wk:((x.2*p.2+(x.1*p.1+y.1*q.1):Int):Rat)≠0:=by exact_mod_cast hd
 unfold val at nz⊢;rw[<-d1,<-d2]at nz⊢
 push_cast at wk⊢
 grind
theorem FQ(h:bI t)(hg:sz t<=g):cA (cT t) (sT t) (2*g+1):=⟨(zG h).up ⋯,by
 rw[qU h,qV h];have:=rX (val t);grind⟩
theorem FR(h:cA x y e)(n:bI t)(hg:sz t<=g):cA (Xq x y (cT t) (sT t)) (Xp x y (cT t) (sT t)) (e+2*g+2):=(h.trU (FQ n hg)).up ⋯
def Uv(e:Nat)(t:L2.T):Prop:=∃a b,t=vc a b/\cA a b e
theorem Uv.up(h:Uv e t)(k:e<=f):Uv f t:=let⟨a,b,h1,h2⟩:=h;⟨a,b,h1,h2.up k⟩
theorem Xv{s:Int}(h:cA x y e)(n:bI t)(hg:sz t<=g)(hs:s=1\/s=2\/s=3):∀u∈uM x y t s,Uv (e+2*g+6) u:=by
 intro u hu;obtain⟨k,hk,rfl⟩:=NO.mp hu;have kb:k.natAbs<=3:=by
  unfold V0 at hk;split at hk
  ·simp at hk;lia
  ·split at hk
   ·simp at hk;lia
   ·simp at hk;lia
 obtain⟨n1,n2⟩:=Ha (s:=s) kb ⋯;have:=cG n n1;exact⟨_,_,rfl,(FR h (aP n n1) (show _<=g+2 by lia)).up ⋯⟩
theorem Nt{s:Int}(k:cA p q f)(hs:s=1\/s=2\/s=3):∀(m:Nat)(x y:Fr),cA x y e->Dl p q m x y->∀u∈qb p q s m x y,Uv (3*e+2*f+10) u
 |0,x,y,h,r,u,hu=>by
  have hu:u∈gR p q s x y:=hu;unfold gR at hu;split at hu
  ·cases hu
  ·obtain⟨t1,t2⟩:=I0 h k (k7 h.nv k.nv r);exact(Xv h t1 t2 hs u hu).up ⋯
 |m+1,x,y,h,r,u,hu=>by
  have hu:u∈uM x y (1,1) s++qb p q s m (aK y) x:=hu;obtain hu|hu:=MB.mp hu
  ·exact(Xv h (aQ 1) (show sz (1,1)<=1 by decide) hs u hu).up ⋯
  ·exact Nt k hs m (aK y) x h.left r.2 u hu
theorem Tt{k:L2.T->Rat}(h:∀B,a<=(M B).length/\(M B).length<=a+B.length):∀B,a+1<=(mU k u M B).length/\(mU k u M B).length<=a+1+B.length
 |[]=>by
  have:=h [];show a+1<=(M []).length+1/\(M []).length+1<=a+1+0;simp at this
  lia
 |r::R=>by
  unfold mU
  split
  ·have:=Tt (k:=k) (u:=u) h R;simp only[LO]
   lia
  ·have h2:=h (if L2.cS r u=true then R else r::R);simp only[LO];split at h2
   ·split
    ·lia
    ·contradiction
   ·split
    ·contradiction
    ·simp only[LO]at h2
     lia
theorem Lr(k:L2.T->Rat):∀A B,A.length<=(sH k A B).length/\(sH k A B).length<=A.length+B.length
 |[],B=>⟨LV _,LV _⟩
 |u::A,B=>Tt (k:=k) (u:=u) (M:=sH k A) (a:=A.length) (Lr k A) B
theorem V2{s:Int}(hs:s=1\/s=2\/s=3)(hm:m<=3)(hm':m'<=3)(ne:¬(p=x/\q=y)):2<=(uX x y p q s m m').length/\(uX x y p q s m m').length<=30:=by
 have l:=Lr (kf x y) (vc x y::qb p q s m x y) (Dp x y p q s m');have l1:=Ts x y p q hs m';have l2:=Bc p q hs m x y;have l3:1<=(qb p q s m x y).length:=by
  have le:∀t:Fr,1<=(uM x y t s).length:=λt=>by rcases hs with rfl|rfl|rfl<;>simp[uM,V0]
  cases m with
  |zero=>
   show 1<=(gR p q s x y).length;unfold gR;rw[oW (λz=>ne ⟨z.1.symm,z.2.symm⟩)];exact le _
  |succ m=>
   show 1<=(uM x y (1,1) s++qb p q s m (aK y) x).length;rw[LG];have:=le (1,1)
   lia
 rw[LO]at l;unfold uX
 lia
theorem pV{d c:Rat}(o:d*d+c*c=1):0<=dP d c:=by
 obtain⟨h1,h2⟩:=bG o;unfold dP
 split<;>grind
theorem Bb{d c:Rat}(o:d*d+c*c=1)(n:d≠1):0<dP d c:=by
 obtain⟨h1,h2⟩:=bG o;unfold dP
 split
 ·grind
 ·grind
theorem lN{c:Rat}(o:1*1+c*c=1):dP 1 c=0:=by
 have:c*c=0:=by grind
 have z:c=0:=by rcases Rat.mul_eq_zero.mp this with a|a<;>exact a
 rw[z];unfold dP;rw[oV (by grind)];grind
theorem Hw{ax ay bx bY ux uy vx vy:Rat}(oa:ax*ax+ay*ay=1)(ob:bx*bx+bY*bY=1)(ou:ux*ux+uy*uy=1)(ov:vx*vx+vy*vy=1)(h:dP (bx*ux+bY*uy) (-(bx*uy-bY*ux))<dP (bx*vx+bY*vy) (-(bx*vy-bY*vx)))(hv:dP (bx*vx+bY*vy) (-(bx*vy-bY*vx))<dP (bx*ax+bY*ay) (-(bx*ay-bY*ax))):dP (ax*vx+ay*vy) (ax*vy-ay*vx)<dP (ax*ux+ay*uy) (ax*uy-ay*ux):=by
 have Ou:(bx*ux+bY*uy)*(bx*ux+bY*uy)+(-(bx*uy-bY*ux))*(-(bx*uy-bY*ux))=1:=by grind
 have Ov:(bx*vx+bY*vy)*(bx*vx+bY*vy)+(-(bx*vy-bY*vx))*(-(bx*vy-bY*vx))=1:=by grind
 have Oa:(bx*ax+bY*ay)*(bx*ax+bY*ay)+(-(bx*ay-bY*ax))*(-(bx*ay-bY*ax))=1:=by grind
 have Pv:(ax*vx+ay*vy)*(ax*vx+ay*vy)+(ax*vy-ay*vx)*(ax*vy-ay*vx)=1:=by grind
 have Pu:(ax*ux+ay*uy)*(ax*ux+ay*uy)+(ax*uy-ay*ux)*(ax*uy-ay*ux)=1:=by grind
 have kU:=pV Ou;have nv:bx*vx+bY*vy≠1:=λe=>by
  have:=lN (c:=-(bx*vy-bY*vx)) (by rw[e]at Ov;exact Ov);rw[e,this]at h;grind
 have kV:=Bb Ov nv;have na:bx*ax+bY*ay≠1:=λe=>by
  have:=lN (c:=-(bx*ay-bY*ax)) (by rw[e]at Oa;exact Oa);rw[e,this]at hv;grind
 obtain⟨_,b2⟩:=bG Ov;obtain⟨_,a2⟩:=bG Oa;obtain⟨_,u2⟩:=bG Ou;have h1:=(kW Ov Oa nv na).1 hv;have ui:0<(ax*vy-ay*vx)*(1-(ax*ux+ay*uy))-(ax*uy-ay*ux)*(1-(ax*vx+ay*vy)):=by
  have id1:(ax*vy-ay*vx)*(1-(ax*ux+ay*uy))-(ax*uy-ay*ux)*(1-(ax*vx+ay*vy))=(ax*vy-ay*vx)+(vx*uy-vy*ux)+(ux*ay-uy*ax):=by grind
  rw[id1]
  by_cases nu:bx*ux+bY*uy=1
  ·have z:(bx*uy-bY*ux)*(bx*uy-bY*ux)=0:=by rw[nu]at Ou;grind
   have z0:bx*uy-bY*ux=0:=by rcases Rat.mul_eq_zero.mp z with a|a<;>exact a
   have ex:ux=bx:=by
    have:ux=bx*(bx*ux+bY*uy)-bY*(bx*uy-bY*ux):=by grind
    rw[nu,z0]at this;grind
   have ey:uy=bY:=by
    have:uy=bY*(bx*ux+bY*uy)+bx*(bx*uy-bY*ux):=by grind
    rw[nu,z0]at this;grind
   rw[ex,ey];have id2:-(bx*vy-bY*vx)*(1-(bx*ax+bY*ay)) - -(bx*ay-bY*ax)*(1-(bx*vx+bY*vy))=(ax*vy-ay*vx)+(vx*bY-vy*bx)+(bx*ay-bY*ax):=by grind
   rw[<-id2];exact h1
  ·have h2:=(kW Ou Ov nu nv).1 h;have t:=(yV (ca:=bx*ay-bY*ax) (wa:=1-(bx*ax+bY*ay)) (cv:=bx*vy-bY*vx) (wv:=1-(bx*vx+bY*vy)) (cu:=bx*uy-bY*ux) (wu:=1-(bx*ux+bY*uy))
    (by grind) (by grind) (by grind) (by grind) (by grind) (by grind) (by grind) (by grind)).2
   have id3:((bx*ay-bY*ax)*(1-(bx*vx+bY*vy))-(bx*vy-bY*vx)*(1-(bx*ax+bY*ay)))+((bx*vy-bY*vx)*(1-(bx*ux+bY*uy))-(bx*uy-bY*ux)*(1-(bx*vx+bY*vy)))-((bx*ay-bY*ax)*(1-(bx*ux+bY*uy))-(bx*uy-bY*ux)*(1-(bx*ax+bY*ay)))=(ax*vy-ay*vx)+(vx*uy-vy*ux)+(ux*ay-uy*ax):=by grind
   rw[id3]at t;exact t
 have n1:ax*vx+ay*vy≠1:=λe=>by
  have z:(ax*vy-ay*vx)*(ax*vy-ay*vx)=0:=by rw[e]at Pv;grind
  have z0:ax*vy-ay*vx=0:=by rcases Rat.mul_eq_zero.mp z with a|a<;>exact a
  rw[e,z0]at ui;grind
 have n2:ax*ux+ay*uy≠1:=λe=>by
  have z:(ax*uy-ay*ux)*(ax*uy-ay*ux)=0:=by rw[e]at Pu;grind
  have z0:ax*uy-ay*ux=0:=by rcases Rat.mul_eq_zero.mp z with a|a<;>exact a
  rw[e,z0]at ui;grind
 exact(kW Pv Pu n1 n2).2 ui
theorem Oc{ax ay bx bY ux uy:Rat}(oa:ax*ax+ay*ay=1)(ou:ux*ux+uy*uy=1)(h:dP (bx*ux+bY*uy) (-(bx*uy-bY*ux))<dP (bx*ax+bY*ay) (-(bx*ay-bY*ax))):dP (ax*ax+ay*ay) (ax*ay-ay*ax)<dP (ax*ux+ay*uy) (ax*uy-ay*ux):=by
 have Pu:(ax*ux+ay*uy)*(ax*ux+ay*uy)+(ax*uy-ay*ux)*(ax*uy-ay*ux)=1:=by grind
 have n2:ax*ux+ay*uy≠1:=λe=>by
  have z:(ax*uy-ay*ux)*(ax*uy-ay*ux)=0:=by rw[e]at Pu;grind
  have z0:ax*uy-ay*ux=0:=by rcases Rat.mul_eq_zero.mp z with a|a<;>exact a
  have ex:ux=ax:=by
   have:ux=ax*(ax*ux+ay*uy)-ay*(ax*uy-ay*ux):=by grind
   rw[e,z0]at this;grind
  have ey:uy=ay:=by
   have:uy=ay*(ax*ux+ay*uy)+ax*(ax*uy-ay*ux):=by grind
   rw[e,z0]at this;grind
  rw[ex,ey]at h;grind
 have k1:dP (ax*ax+ay*ay) (ax*ay-ay*ax)=0:=by
  rw[oa];exact lN (by grind)
 rw[k1];exact Bb Pu n2
theorem G5{k:L2.T->Rat}(h:srt k a l)(ht:t∈a::l):t=lst a l\/k t<k (lst a l):=by
 obtain⟨i,hi⟩:=NK ht;have il:=(KZ.mp hi).1;rw[LO]at il;obtain c|c:=MN i l.length
 ·exact .inr (rY h hi c)
 ·left
  obtain⟨L,hL⟩:=Be a l;have ll:l.length+1=L.length+1:=by have:=congrArg List.length hL;simpa using this
  rw[hL]at hi;have:i=L.length:=⋯
  subst this;simp at hi;exact hi.symm
theorem G6(h:cA x y e)(k:cA p q f)(ss:SS (kf (aK p) q) L)(uv:∀t∈L,Uv g t)(mx:∀t∈L,t=vc (aK x) y\/kf (aK p) q t<kf (aK p) q (vc (aK x) y)):SS (kf x y) ((L.reverse).map Ll):=by
 unfold SS;rw[List.pairwise_map,List.pairwise_reverse];refine List.Pairwise.imp_of_mem ?_ ss;intro u' v' hu hv huv;obtain⟨ua,ub,rfl,nu⟩:=uv u' hu;have nu1:=nu.nv.x;have nu2:=nu.nv.y;have ou:=nu.one;have vP:=bR k.nv.x;have vX:=bR h.nv.x;have vu:=bR nu1;obtain rfl|XO:=mx v' hv
 ·rw[m7,m7,yY];rw[iO,iO,vP,vX]at huv;rw[iO,iO,vu];refine Oc (bx:=val p) (bY:=val q) h.one (by grind) ?_;have e1:val p * -val ua+val q*val ub = -val p*val ua+val q*val ub:=by grind
  have e2:-(val p*val ub-val q * -val ua) = -val p*val ub-val q*val ua:=by grind
  have e3:val p*val x+val q*val y = -val p * -val x+val q*val y:=by grind
  have e4:-(val p*val y-val q*val x) = -val p*val y-val q * -val x:=by grind
  rw[e1,e2,e3,e4];exact huv
 ·obtain⟨va,vb,rfl,nv⟩:=uv v' hv;have nv1:=nv.nv.x;have nv2:=nv.nv.y;have ov:=nv.one;have vv:=bR nv1;rw[m7,m7];rw[iO,iO,vP]at huv XO;rw[vX]at XO;rw[iO,iO,vu,vv];have e1:val p * -val ua+val q*val ub = -val p*val ua+val q*val ub:=by grind
  have e2:-(val p*val ub-val q * -val ua) = -val p*val ub-val q*val ua:=by grind
  have e3:val p*val x+val q*val y = -val p * -val x+val q*val y:=by grind
  have e4:-(val p*val y-val q*val x) = -val p*val y-val q * -val x:=by grind
  have e5:val p * -val va+val q*val vb = -val p*val va+val q*val vb:=by grind
  have e6:-(val p*val vb-val q * -val va) = -val p*val vb-val q*val va:=by grind
  refine Hw (bx:=val p) (bY:=val q) h.one k.one (by grind) (by grind) ?_ ?_
  ·rw[e1,e2,e5,e6];exact huv
  ·rw[e3,e4,e5,e6];exact XO
theorem Lp{d1 c1 d2 c2:Rat}(o1:d1*d1+c1*c1=1)(o2:d2*d2+c2*c2=1)(h:dP d1 c1=dP d2 c2):d1=d2/\c1=c2:=by
 have one:∀{d c d' c':Rat},d'*d'+c'*c'=1->d*d+c*c=1->0<=c->¬0<=c'->1-d=3+d'->False:=λ{d c d' c'}o' o hc fi e=>by
  obtain⟨a1,_⟩:=kE o' (by grind);obtain⟨b1,_⟩:=bG o;grind
 have same:∀{d c c':Rat},d*d+c*c=1->d*d+c'*c'=1->(c-c')*(c+c')=0:=by intros;grind
 unfold dP at h
 by_cases h1:0<=c1
 ·rw[oV h1]at h
  by_cases h2:0<=c2
  ·rw[oV h2]at h;have e:d1=d2:=by grind
   subst e;obtain z|z:=Rat.mul_eq_zero.mp (same o1 o2)
   ·exact⟨rfl,by grind⟩
   ·exact⟨rfl,by grind⟩
  ·rw[oW h2]at h;exact(one o2 o1 h1 h2 h).elim
 ·rw[oW h1]at h
  by_cases h2:0<=c2
  ·rw[oV h2]at h;exact(one o1 o2 h2 h1 h.symm).elim
  ·rw[oW h2]at h;have e:d1=d2:=by grind
   subst e;obtain z|z:=Rat.mul_eq_zero.mp (same o1 o2)
   ·exact⟨rfl,by grind⟩
   ·exact⟨rfl,by grind⟩
theorem gW{a b c d:Rat}(h:a*a+b*b=1)(k:c*c+d*d=1):(a*c+b*d)*(a*c+b*d)+(a*d-b*c)*(a*d-b*c)=1:=by grind
theorem Tp(h:cA x y e)(hu:Uv f u)(hv:Uv g v)(eq:kf x y u=kf x y v):u=v:=by
 obtain⟨a,b,rfl,ua⟩:=hu;obtain⟨c,d,rfl,uc⟩:=hv;rw[iO,iO]at eq;have o:=h.one;obtain⟨e1,e2⟩:=Lp (gW o ua.one) (gW o uc.one) eq;have f1:val a=val c:=by
  have g1:val a=val x*(val x*val a+val y*val b)-val y*(val x*val b-val y*val a):=by grind
  have g2:val c=val x*(val x*val c+val y*val d)-val y*(val x*val d-val y*val c):=by grind
  rw[g1,g2,e1,e2]
 have f2:val b=val d:=by
  have g1:val b=val y*(val x*val a+val y*val b)+val x*(val x*val b-val y*val a):=by grind
  have g2:val d=val y*(val x*val c+val y*val d)+val x*(val x*val d-val y*val c):=by grind
  rw[g1,g2,e1,e2]
 rw[b9 ua.nv.x uc.nv.x f1,b9 ua.nv.y uc.nv.y f2]
theorem Sg(hu:Uv e u)(hv:Uv f v):L2.cS u v=true↔u=v:=by
 obtain⟨a,b,rfl,ua⟩:=hu;obtain⟨c,d,rfl,uc⟩:=hv;rw[yW];constructor
 ·intro h;have:=of_decide_eq_true h;rw[this.1,this.2]
 ·intro h;have e:=congrArg cx h;rw[tM,tM]at e;exact oY ⟨congrArg Prod.fst e,congrArg Prod.snd e⟩
structure cU(x y p q:Fr)(e f:Nat)(s:Int)(m m':Nat):Prop where
 h:cA x y e
 k:cA p q f
 ef:e+f<=140
 e1:e<=100
 f1:f<=100
 hs:s=1\/s=2\/s=3
 hm:m<=3
 hm':m'<=3
 r:Dl p q m x y
 r':Dl (aK x) y m' (aK p) q
abbrev aL(x y p q:Fr)(s:Int)(m:Nat):List L2.T:=vc x y::qb p q s m x y
theorem cU.flip{s:Int}(E:cU x y p q e f s m m'):cU (aK p) q (aK x) y f e s m' m:=⟨E.k.flip,E.h.flip,by have:=E.ef;lia,E.f1,E.e1,E.hs,E.hm',E.hm,E.r',by rw[yY,yY];exact E.r⟩
theorem cU.auv(E:cU x y p q e f s m m'):∀t∈aL x y p q s m,Uv 400 t:=λt ht=>by
 have:=E.ef;have:=E.e1;have:=E.f1;obtain rfl|ht:=LH.mp ht
 ·exact⟨x,y,rfl,E.h.up ⋯⟩
 ·exact(Nt E.k E.hs m x y E.h E.r t ht).up ⋯
theorem T1(h:Uv g t):Uv g (Ll t)/\Ll (Ll t)=t:=by
 obtain⟨a,b,rfl,u⟩:=h;exact⟨⟨aK a,b,rfl,u.flip⟩,by rw[m7,m7,yY]⟩
theorem K2{s:Int}:Dp x y p q s m'=((aL (aK p) q (aK x) y s m').reverse).map Ll:=rfl
theorem cU.buv(E:cU x y p q e f s m m'):∀t∈Dp x y p q s m',Uv 400 t:=λt ht=>by
 obtain⟨z,hz,rfl⟩:=NO.mp ht;exact(T1 (E.flip.auv z (QD.mp hz))).1
theorem cU.srt{s:Int}(E:cU x y p q e f s m m'):My.srt (kf x y) (vc x y) (qb p q s m x y):=by
 have ym:At 0 (val x*val x+val y*val y) (val x*val y-val y*val x):=.inl ⟨rfl,E.h.one,by grind⟩;exact Ke (s:=s) E.h E.k E.e1 E.ef E.hs m 0 x y E.h (by have:=E.hm;lia) ym E.r
theorem cU.chn{s:Int}(E:cU x y p q e f s m m'):My.chn (vc x y) (qb p q s m x y)/\lst (vc x y) (qb p q s m x y)=vc p q:=vL E.k E.e1 E.ef E.hs m x y E.h E.r
theorem cU.ass{s:Int}(E:cU x y p q e f s m m'):SS (kf x y) (aL x y p q s m):=Ws E.srt
theorem cU.amax(E:cU x y p q e f s m m'):∀t∈aL x y p q s m,t=vc p q\/kf x y t<kf x y (vc p q):=λt ht=>by
 have:=G5 E.srt ht;rw[E.chn.2]at this;exact this
theorem cU.alast{s:Int}(E:cU x y p q e f s m m'):vc p q∈aL x y p q s m:=by
 obtain⟨L,hL⟩:=Be (vc x y) (qb p q s m x y);rw[E.chn.2]at hL;show vc p q∈vc x y::qb p q s m x y;rw[hL];simp
theorem cU.bss{s:Int}(E:cU x y p q e f s m m'):SS (kf x y) (Dp x y p q s m'):=by
 rw[K2];exact G6 E.h E.k E.flip.ass E.flip.auv E.flip.amax
theorem cU.bmax(E:cU x y p q e f s m m'):∀t∈Dp x y p q s m',kf x y t<=kf x y (vc p q):=by
 have ss:=E.bss;have e0:Dp x y p q s m'=((qb (aK x) y s m' (aK p) q).reverse).map Ll++[vc p q]:=by
  rw[K2];show((vc (aK p) q::qb (aK x) y s m' (aK p) q).reverse).map Ll=_;rw[OB,MF];show _++[Ll (vc (aK p) q)]=_;rw[m7,yY]
 rw[e0]at ss⊢;have q:=(List.pairwise_append.mp ss).2.2;intro t ht;obtain c|c:=MB.mp ht
 ·exact Rat.le_of_lt (q t c _ (by simp))
 ·rw[LY]at c;rw[c];exact Rat.le_refl
theorem cU.ub{s:Int}(E:cU x y p q e f s m m'):SS (kf x y) (uX x y p q s m m')/\∀t,t∈uX x y p q s m m'↔t∈aL x y p q s m\/t∈Dp x y p q s m':=by
 have inj:∀u∈aL x y p q s m,∀r∈Dp x y p q s m',kf x y r=kf x y u->L2.cS r u=true:=λu hu r hr z=>by
  have:=Tp E.h (E.buv r hr) (E.auv u hu) z;exact(Sg (E.buv r hr) (E.auv u hu)).2 this
 have ir:∀u∈aL x y p q s m,∀r∈Dp x y p q s m',L2.cS r u=true->r=u:=λu hu r hr z=>(Sg (E.buv r hr) (E.auv u hu)).1 z;have has:=Lw (k:=kf x y) (A:=aL x y p q s m) E.bss inj ir λr hr=>⟨vc p q,E.alast,E.bmax r hr⟩;refine⟨(Tx E.ass E.bss inj ir).1,λt=>⟨λh=>uP h,λh=>?_⟩⟩;obtain h|h:=h
 ·exact has.1 t h
 ·exact has.2 t h
theorem cU.uuv(E:cU x y p q e f s m m'):∀t∈uX x y p q s m m',Uv 400 t:=λt ht=>by
 rcases(E.ub.2 t).1 ht with h|h
 ·exact E.auv t h
 ·exact E.buv t h
theorem cU.umax(E:cU x y p q e f s m m'):∀t∈uX x y p q s m m',kf x y t<=kf x y (vc p q):=λt ht=>by
 rcases(E.ub.2 t).1 ht with h|h
 ·obtain z|z:=E.amax t h
  ·rw[z];exact Rat.le_refl
  ·exact Rat.le_of_lt z
 ·exact E.bmax t h
theorem Zu(h:cA x y e):kf x y (vc x y)=0:=by
 rw[iO,h.one];have:val x*val y-val y*val x=0:=by grind
 rw[this];exact lN (by grind)
theorem cU.umin(E:cU x y p q e f s m m'):∀t∈uX x y p q s m m',kf x y (vc x y)<=kf x y t:=λt ht=>by
 rw[Zu E.h];obtain⟨a,b,rfl,u⟩:=E.uuv t ht;rw[iO];exact pV (gW E.h.one u.one)
theorem G7{k:L2.T->Rat}(h:SS k l)(hz:z∈l)(mn:∀t∈l,k z<=k t):∃L,l=z::L:=by
 cases l with
 |nil=>cases hz
 |cons a l=>
  obtain rfl|hz:=LH.mp hz
  ·exact⟨l,rfl⟩
  ·have:=(NA.mp h).1 z hz;have:=mn a (LK ..);grind
theorem G8{k:L2.T->Rat}(h:SS k l)(hz:z∈l)(mx:∀t∈l,k t<=k z):∃L,l=L++[z]:=by
 obtain⟨a,b,rfl⟩:=List.append_of_mem hz;cases b with
 |nil=>exact⟨a,rfl⟩
 |cons c b=>
  have h2:=(List.pairwise_append.mp h).2.1;have:=(NA.mp h2).1 c (LK ..);have:=mx c (by simp);grind
theorem cU.first{s:Int}(E:cU x y p q e f s m m'):∃L,uX x y p q s m m'=vc x y::L:=G7 E.ub.1 ((E.ub.2 _).2 (.inl (LK ..))) E.umin
theorem cU.last{s:Int}(E:cU x y p q e f s m m'):∃L,uX x y p q s m m'=L++[vc p q]:=G8 E.ub.1 ((E.ub.2 _).2 (.inl E.alast)) E.umax
theorem M5{da ca du cu dv cv:Rat}(oa:da*da+ca*ca=1)(ou:du*du+cu*cu=1)(ov:dv*dv+cv*cv=1)(h1:dP da ca<=dP du cu)(h2:dP du cu<dP dv cv):dP (da*du+ca*cu) (da*cu-ca*du)<dP (da*dv+ca*cv) (da*cv-ca*dv):=by
 have Ou:=gW oa ou;have Ov:=gW oa ov;have back:∀{t s:Rat},t*t+s*s=1->da*t+ca*s=1->t=da/\s=ca:=λ{t s}o z=>by
  have O:=gW oa o;rw[z]at O;have z2:(da*s-ca*t)*(da*s-ca*t)=0:=by grind
  have z3:da*s-ca*t=0:=by rcases Rat.mul_eq_zero.mp z2 with a|a<;>exact a
  constructor
  ·have:t=da*(da*t+ca*s)-ca*(da*s-ca*t):=by grind
   rw[z,z3]at this;grind
  ·have:s=ca*(da*t+ca*s)+da*(da*s-ca*t):=by grind
   rw[z,z3]at this;grind
 have nv:da*dv+ca*cv≠1:=λz=>by
  obtain⟨e1,e2⟩:=back ov z;rw[e1,e2]at h2;grind
 by_cases eq:dP da ca=dP du cu
 ·obtain⟨e1,e2⟩:=Lp oa ou eq;rw[<-e1,<-e2,oa];have:da*ca-ca*da=0:=by grind
  rw[this,lN (by grind)];exact Bb Ov nv
 have lt:dP da ca<dP du cu:=by grind
 have nu:da*du+ca*cu≠1:=λz=>by
  obtain⟨e1,e2⟩:=back ou z;rw[e1,e2]at lt;grind
 by_cases base:da=1
 ·have c0:ca=0:=by
   rw[base]at oa;have:ca*ca=0:=by grind
   rcases Rat.mul_eq_zero.mp this with a|a<;>exact a
  rw[base,c0];have e1:1*du+0*cu=du:=by grind
  have e2:1*cu-0*du=cu:=by grind
  have e3:1*dv+0*cv=dv:=by grind
  have e4:1*cv-0*dv=cv:=by grind
  rw[e1,e2,e3,e4];exact h2
 have ka:=pV oa;have n1:du≠1:=λz=>by
  rw[z]at ou;rw[z,lN ou]at lt;grind
 have n2:dv≠1:=λz=>by
  rw[z]at ov;rw[z,lN ov]at h2;grind
 have a1:=(kW oa ou base n1).1 lt;have a2:=(kW ou ov n1 n2).1 h2;obtain⟨_,ba⟩:=bG oa;obtain⟨_,bu⟩:=bG ou;obtain⟨_,bv⟩:=bG ov;have t:=(yV (ca:=ca) (wa:=1-da) (cv:=cu) (wv:=1-du) (cu:=cv) (wu:=1-dv) (by grind) (by grind) (by grind) (by grind) (by grind) (by grind) a1 a2).2;refine(kW Ou Ov nu nv).2 ?_;have id:(da*cu-ca*du)*(1-(da*dv+ca*cv))-(da*cv-ca*dv)*(1-(da*du+ca*cu))=(ca*(1-du)-cu*(1-da))+(cu*(1-dv)-cv*(1-du))-(ca*(1-dv)-cv*(1-da)):=by grind
 rw[id];exact t
theorem F2{du cu dv cv db cb:Rat}(ou:du*du+cu*cu=1)(ov:dv*dv+cv*cv=1)(ob:db*db+cb*cb=1)(h1:dP du cu<dP dv cv)(h2:dP dv cv<=dP db cb)(c0:0<cb)(d0:0<=db):0<du*cv-cu*dv/\0<=du*dv+cu*cv:=by
 have kb:dP db cb<=1:=by unfold dP;rw[oV (by grind)];grind
 have iV:∀{d c:Rat},d*d+c*c=1->dP d c<=1->0<=c/\0<=d/\dP d c=1-d:=λ{d c}o h=>by
  obtain⟨a,b⟩:=bG o;unfold dP at h⊢
  by_cases hc:0<=c
  ·rw[oV hc]at h⊢;exact⟨hc,by grind,rfl⟩
  ·rw[oW hc]at h;obtain⟨a',b'⟩:=kE o (by grind);grind
 obtain⟨v1,v2,v3⟩:=iV ov (by grind);obtain⟨u1,u2,u3⟩:=iV ou (by grind);have lt:dv<du:=by grind
 have p1:=Rat.mul_nonneg u2 v2;have p2:=Rat.mul_nonneg u1 v1;refine⟨?_,by grind⟩;have cv0:0<cv:=by
  by_cases z:cv=0
  ·rw[z]at ov;obtain⟨_,b⟩:=bG ou;rcases zT ov with w|w<;>grind
  ·grind
 by_cases z:cu=0
 ·rw[z]at ou⊢;obtain w|w:=zT ou
  ·rw[w];grind
  ·grind
 ·exact(AR ou ov (by grind) cv0).2 lt
theorem Yr{k:L2.T->Rat}{r:Rat}:∀{l:List L2.T}{a:L2.T},srt k a l->chn a l->k a<=r->r<k (lst a l)->∃u v,u∈a::l/\v∈a::l/\HA u v/\k u<=r/\r<k v:=by
 intro l
 induction l with
 |nil=>intro a _ _ h1 h2;have h2:r<k a:=h2;grind
 |cons b l ih=>
  intro a hs hc h1 h2
  by_cases c:k b<=r
  ·obtain⟨u,v,hu,hv,n,q1,q2⟩:=ih hs.2 hc.2 c h2;exact⟨u,v,LC _ hu,LC _ hv,n,q1,q2⟩
  ·exact⟨a,b,by simp,by simp,hc.1,h1,by grind⟩
theorem G9{k:L2.T->Rat}(h:SS k l)(hu:l[i]?=oZ u)(hv:l[i+1]?=oZ v)(hb:b∈l)(lt:k u<k b):k v<=k b:=by
 obtain⟨j,hj⟩:=NK hb;obtain⟨i1,e1⟩:=KZ.mp hu;obtain⟨i2,e2⟩:=KZ.mp hv;obtain⟨j1,e3⟩:=KZ.mp hj;have pw:=RJ.mp h;obtain c|c|c:=RH j (i+1)
 ·obtain z|z:=MN j i
  ·have:=pw j i j1 i1 z;rw[e1,e3]at this;grind
  ·have:j=i:=⋯
   subst this;rw[e1]at e3;rw[e3]at lt;grind
 ·subst c;rw[e2]at e3;rw[e3];exact Rat.le_refl
 ·have:=pw (i+1) j i2 j1 c;rw[e2,e3]at this;exact Rat.le_of_lt this
theorem cU.nbr{s:Int}(E:cU x y p q e f s m m')(hu:(uX x y p q s m m')[i]?=oZ u)(hv:(uX x y p q s m m')[i+1]?=oZ v):
  ∃a b c d,u=vc a b/\v=vc c d/\cA a b 400/\cA c d 400/\0<val a*val d-val b*val c/\0<=val a*val c+val b*val d:=by
 have mu:=LD hu;have mv:=LD hv;have luv:kf x y u<kf x y v:=by
  obtain⟨i1,e1⟩:=KZ.mp hu;obtain⟨i2,e2⟩:=KZ.mp hv;have:=RJ.mp E.ub.1 i (i+1) i1 i2 ⋯;rw[e1,e2]at this;exact this
 have l2:kf x y u<kf x y (lst (vc x y) (qb p q s m x y)):=by
  rw[E.chn.2];have:=E.umax v mv;grind
 obtain⟨a,b,ha,hb,nb,q1,q2⟩:=Yr E.srt E.chn.1 (E.umin u mu) l2;have q3:=G9 E.ub.1 hu hv ((E.ub.2 b).2 (.inl hb)) q2;obtain⟨u1,u2,rfl,uu⟩:=E.uuv u mu;obtain⟨v1,v2,rfl,uv⟩:=E.uuv v mv;obtain⟨a1,a2,rfl,ua⟩:=E.auv a ha;obtain⟨b1,b2,rfl,ub⟩:=E.auv b hb;obtain⟨a1',a2',qi,zp,z1,z2,_,_,_,c0,d0⟩:=nb.ex;have z1:=congrArg cx z1;have z2:=congrArg cx z2;rw[tM,tM]at z1 z2;cases z1;cases z2;refine⟨u1,u2,v1,v2,rfl,rfl,uu,uv,?_⟩;rw[iO,iO]at q1 luv q3;have o:=E.h.one;have Oa:=gW o ua.one;have Ou:=gW o uu.one;have Ov:=gW o uv.one;have Ob:=gW o ub.one;have s1:=M5 Oa Ou Ov q1 luv;have inv:∀t1 t2 r1 r2:Rat,(val x*t1+val y*t2)*(val x*r1+val y*r2)+(val x*t2-val y*t1)*(val x*r2-val y*r1)=t1*r1+t2*r2:=λt1 t2 r1 r2=>by grind
 have inw:∀t1 t2 r1 r2:Rat,(val x*t1+val y*t2)*(val x*r2-val y*r1)-(val x*t2-val y*t1)*(val x*r1+val y*r2)=t1*r2-t2*r1:=λt1 t2 r1 r2=>by grind
 rw[inv,inw,inv,inw]at s1;have s2:dP (val a1*val v1+val a2*val v2) (val a1*val v2-val a2*val v1)<=dP (val a1*val b1+val a2*val b2) (val a1*val b2-val a2*val b1):=by
  by_cases z:dP (val x*val v1+val y*val v2) (val x*val v2-val y*val v1)=dP (val x*val b1+val y*val b2) (val x*val b2-val y*val b1)
  ·have:=Tp E.h ⟨v1,v2,rfl,uv⟩ ⟨b1,b2,rfl,ub⟩ z;have:=congrArg cx this;rw[tM,tM]at this;cases this;exact Rat.le_refl
  ·have s3:=M5 Oa Ov Ob (by grind) (show _<_ by grind);rw[inv,inw,inv,inw]at s3;exact Rat.le_of_lt s3
 have fin:=F2 (gW ua.one uu.one) (gW ua.one uv.one) (gW ua.one ub.one) s1 s2 c0 d0;have oa:=ua.one;have i1:(val a1*val u1+val a2*val u2)*(val a1*val v2-val a2*val v1)-(val a1*val u2-val a2*val u1)*(val a1*val v1+val a2*val v2)=val u1*val v2-val u2*val v1:=by grind
 have i2:(val a1*val u1+val a2*val u2)*(val a1*val v1+val a2*val v2)+(val a1*val u2-val a2*val u1)*(val a1*val v2-val a2*val v1)=val u1*val v1+val u2*val v2:=by grind
 rw[i1,i2]at fin;exact fin
def Nj:dG:=λas Q=>∃(x y p q:Fr)(e f:Nat),as=[.v (vc x y),.v (vc p q)]/\Nv x y e/\Nv p q f/\e+f<=3900/\Q (.v (vc (bJ x p) (bJ y q))) []
abbrev rA(P w K mg base):=(~~~Fn) 4 "plus" oG (aI K Nj)
abbrev Jx:SV:=top 11
theorem G3:aF oG oG (aC Jx):=dH
theorem B4(F:cI K "plus" "plus" Jx f fd)(TX:Txt mg)(VS: ~~~fT):(~~~aS) cJ 4 f fd oG (aI K Nj):=by
 refine F.okU G3 (λhr=>(aE (aG (aN (f2 (fK VS (f2 (fQ 0) (fQ 1))) (fK VS (f2 (fQ 0) (fQ 1)))))))) ?_;rintro as Q ⟨x,y,p,q,e,f,rfl,h,k,he,z⟩;have:=h.sx;have:=h.sy;have:=k.sx;have:=k.sy;exact⟨_,_,rfl,h.x,k.x,⋯,_,_,rfl,h.y,k.y,⋯,rfl,z⟩
def uV:dG:=λas Q=>∃(x y b:Fr)(e:Nat),as=[.v (vc x y),.v (fr b)]/\Nv x y e/\bI b/\e+sz b<=7000/\Q (.v (vc (aJ x b) (aJ y b))) []
abbrev kP(P w K mg base):=(~~~Fn) 4 "scaled" ["vector","by"] (aI K uV)
abbrev xA:SV:=top 13
theorem Qs:aF ["vector","by"] ["vector","by"] (aC xA):=dH
theorem Qc(F:cI K "scaled" "scaled" xA f fd)(TX:Txt mg)(VU: ~~~jJ):(~~~aS) cJ 4 f fd ["vector","by"] (aI K uV):=by
 refine F.okU Qs (λhr=>(aE (aG (aN (f2 (fK VU (f2 (fQ 0) (fv 1))) (fK VU (f2 (fQ 0) (fv 1)))))))) ?_;rintro as Q ⟨x,y,b,e,rfl,h,k,he,z⟩;have:=h.sx;have:=h.sy;exact⟨_,_,rfl,h.x,k,⋯,_,_,rfl,h.y,k,⋯,rfl,z⟩
def Rh(x y p q:Fr):Fr:=bJ (1,1) (cM x y p q)
def J3(x p d:Fr):Fr:=aJ (bJ x p) (bZ (1,1) d)
theorem H0:sz (1,1)=1:=∅
theorem Bj(h:Nv x y e)(k:Nv p q f):Nv (bJ x p) (bJ y q) (e+f+1):=by
 have:=h.sx;have:=h.sy;have:=k.sx;have:=k.sy;have s1:=iY h.x k.x;have s2:=iY h.y k.y;exact⟨c7 h.x k.x,c7 h.y k.y,⋯,⋯⟩
theorem pZ(h:Nv x y e)(k:bI b):Nv (aJ x b) (aJ y b) (e+sz b):=by
 have:=h.sx;have:=h.sy;have s1:=cG h.x k;have s2:=cG h.y k;exact⟨aP h.x k,aP h.y k,⋯,⋯⟩
theorem Dd(h:cA x y e)(k:cA p q f):bI (Rh x y p q)/\sz (Rh x y p q)<=e+f+3/\val (Rh x y p q)=1+(val x*val p+val y*val q):=by
 have s:=uU h k;have s2:=iY (aQ 1) (bB h.nv k.nv);have o:=H0;refine⟨c7 (aQ 1) (bB h.nv k.nv),?_,?_⟩
 ·show sz (bJ (1,1) (cM x y p q))<=_
  lia
 ·show val (bJ (1,1) (cM x y p q))=_;rw[bO (aQ 1) (bB h.nv k.nv),gT,dX h.nv k.nv]
theorem Iq(h:bI d)(n:d.1≠0):bI (bZ (1,1) d)/\sz (bZ (1,1) d)<=sz d+1/\val (bZ (1,1) d)=1/val d:=by
 have s:=rZ (aQ 1) n;have o:=H0;exact⟨kZ (aQ 1) n,⋯,by rw[k9 (aQ 1) h n,gT]⟩
theorem AU(h:bI d)(n:d.1≠0):val d≠0:=λz=>by
 have:=(xO h).1 (by grind);have:=(dN h).1 (by grind)
 lia
def FN:dG:=λas Q=>∃(x y p q:Fr),as=[.v (vc x y),.v (vc p q)]/\cA x y 150/\cA p q 150/\(Rh x y p q).1≠0/\Q (.v (vc (J3 x p (Rh x y p q)) (J3 y q (Rh x y p q)))) []
abbrev yM(P w K mg base):=(~~~Fn) 5 "tip_of" oG (aI K FN)
abbrev xB:SV:=top 44
theorem Qt:aF oG oG (aC xB):=dH
theorem Qd(F:cI K "tip_of" "tip_of" xB f fd)(TX:Txt mg)(WD: ~~~kP)(WS: ~~~rA)(WZ: ~~~q0)(VS: ~~~fT)(WU: ~~~pR)(VZ:mH mg K "ONE_turns" (.tup [.int 1,.int 1])):(~~~aS) cJ 5 f fd oG (aI K FN):=by
 refine F.okU Qt (λhr=>(aE (aG (fK WD (f2 (fK WS (f2 (fv 0) (fv 1))) (fK WZ (f2 (iD rfl VZ) (fK VS (f2 (iD rfl VZ) (fK WU (f2 (fv 0) (fv 1)))))))))))) ?_;rintro as Q ⟨x,y,p,q,rfl,h,k,n,z⟩;have s:=uU h k;have o:=H0;obtain⟨u1,u2,_⟩:=Dd h k;obtain⟨i1,i2,_⟩:=Iq u1 n;refine⟨x,y,p,q,150,150,rfl,h.nv,k.nv,∅,?_⟩;refine⟨x,y,p,q,150,150,rfl,h.nv,k.nv,∅,(1,1),_,rfl,aQ 1,bB h.nv k.nv,⋯,?_⟩;refine⟨(1,1),Rh x y p q,rfl,aQ 1,u1,n,⋯,?_⟩;exact⟨_,_,_,_,rfl,Bj h.nv k.nv,i1,⋯,rfl,z⟩
def Yh(u v:L2.T):Fr:=cM (cx u).1 (cx u).2 (cx v).1 (cx v).2
def mn(a b:Fr):Fr:=if val b<val a then b else a
def Pn(U:List L2.T):Nat->Fr
 |0=>Yh (U.getD 0 .non) (U.getD 1 .non)
 |i+1=>mn (Pn U i) (Yh (U.getD (i+1) .non) (U.getD (i+2) .non))
theorem Sd(h:Uv 150 u)(k:Uv 150 v):bI (Yh u v)/\sz (Yh u v)<=301:=by
 obtain⟨a,b,rfl,h⟩:=h;obtain⟨c,d,rfl,k⟩:=k;exact⟨bB h.nv k.nv,uU h k⟩
theorem Tr{U:List L2.T}(h:∀t∈U,Uv 150 t):∀i,i+2<=U.length->bI (Pn U i)/\sz (Pn U i)<=301:=by
 have g:∀i,i<U.length->Uv 150 (U.getD i .non):=λi hi=>by
  rw[MC,LA hi];exact h _ (NM hi)
 intro i
 induction i with
 |zero=>intro hi;exact Sd (g 0 ⋯) (g 1 ⋯)
 |succ i ih=>
  intro hi;show bI (mn _ _)/\sz (mn _ _)<=301;unfold mn
  split
  ·exact Sd (g (i+1) ⋯) (g (i+2) ⋯)
  ·exact ih ⋯
theorem eR(U:List L2.T)(k:Nat):fO U (oZ (k:Int)) none=U.drop k:=by
 unfold fO;rw[HT.sIx_nat,HT.sIx_none];obtain c|c:=Nat.le_total k U.length
 ·rw[Nat.min_eq_left c];exact OP (by rw[NS];exact LN _)
 ·rw[Nat.min_eq_right c,PZ (LN _),PZ c];simp
theorem J6{U:List L2.T}(h:∀t∈U,Uv 150 t)(hi:i<U.length):∃a b,U[i]?=oZ (vc a b)/\U.getD i .non=vc a b/\eV U (i:Int)=oZ (vc a b)/\cA a b 150:=by
 obtain⟨a,b,e,n⟩:=h _ (NM hi);have e1:U[i]?=oZ (vc a b):=by rw[LA hi,e]
 exact⟨a,b,e1,by rw[MC,e1];rfl,lI e1,n⟩
theorem JC{U:List L2.T}(h:∀t∈U,Uv 150 t)(hi:(gM (fO U (oZ 1) none) (fO U (oZ 2) none))[i]?=oZ t):∃a b c d,t = .tup [vc a b,vc c d]/\U.getD (i+1) .non=vc a b/\U.getD (i+2) .non=vc c d/\cA a b 150/\cA c d 150/\i+3<=U.length:=by
 obtain⟨u,v,h1,h2,rfl⟩:=oS hi;have e1:=eR U 1;have e2:=eR U 2;rw[show fO U (oZ 1) none=U.drop 1 from e1,OO]at h1;rw[show fO U (oZ 2) none=U.drop 2 from e2,OO]at h2;have l2:=(KZ.mp h2).1;obtain⟨a,b,a1,a2,a3,a4⟩:=J6 h (i:=i+1) ⋯;obtain⟨c,d,c1,c2,c3,c4⟩:=J6 h (i:=i+2) ⋯;rw[OD 1 i]at h1;rw[OD 2 i]at h2;rw[a1]at h1;cases h1;rw[c1]at h2;cases h2;exact⟨a,b,c,d,rfl,a2,c2,a4,c4,⋯⟩
theorem Xz(U:List L2.T):(gM (fO U (oZ 1) none) (fO U (oZ 2) none)).length=U.length-2:=by
 have e1:=eR U 1;have e2:=eR U 2;rw[jG,show fO U (oZ 1) none=U.drop 1 from e1,show fO U (oZ 2) none=U.drop 2 from e2,NS,NS]
 lia
def JQ:dG:=λas Q=>∃U:List L2.T,as=[.v (.lst U)]/\2<=U.length/\U.length<=40/\(∀t∈U,Uv 150 t)/\Q (.v (fr (Pn U (U.length-2)))) []
abbrev qZ(P w K mg base):=(~~~Fn) 5 "least_dot" ["units"] (aI K JQ)
abbrev nS:SV:=top 43
theorem eN:aF ["units","least","one","other","found"] ["units"] (aC nS):=dH
theorem Bo(F:cI K "least_dot" "least_dot" nS f fd)(TX:Txt mg)(WU: ~~~pR)(WI: ~~~kA):(~~~aS) cJ 5 f fd ["units"] (aI K JQ):=by
 refine F.okU eN (λhr=>(aB (fS 1 eN.nd (fK WU (f2 (fQ 0) (fQ 0)))) (aB (jQ PassesOwn.never rfl (Ar rfl rfl TX.n_zip (f2 (gY rfl (fv 0) (jB aA) o8) (gY rfl (fv 0) (jB aA) o8))) (dA (n:=2) rfl rfl (aM (fG 2 eN.nd) (aM (fG 3 eN.nd) cE))) (aB (fS 4 eN.nd (fK WU (f2 (fv 2) (fv 3)))) (aE (b8 (fP i9 (fK WI (f2 (fv 4) (fv 1))) aA) (aE (fS 1 eN.nd (fv 4))) bH)))) (aE (aG (fv 1)))))) ?_;rintro as Q ⟨U,rfl,h2,h40,hU,z⟩;obtain⟨a,b,_,a2,a3,a4⟩:=J6 hU (i:=0) ⋯;obtain⟨c,d,_,c2,c3,c4⟩:=J6 hU (i:=1) ⋯;show o1 (eV U 0) _;rw[show eV U 0=_ from a3];show o1 (eV U 1) _;rw[show eV U 1=_ from c3];refine⟨a,b,c,d,150,150,rfl,a4.nv,c4.nv,∅,?_⟩;have e0:cM a b c d=Pn U 0:=by
  show _=Yh (U.getD 0 .non) (U.getD 1 .non);rw[a2,c2];rfl
 rw[e0];refine cX (λi E=>∃(v2 v3 v4:Option L2.U),E=[⇑(.lst U),⇑(fr (Pn U i)),v2,v3,v4]) ⟨none,none,none,rfl⟩ ?_ ?_
 ·rintro i t rest E hi ⟨v2,v3,v4,rfl⟩ KK;obtain⟨a,b,c,d,rfl,a2,c2,a4,c4,hl⟩:=JC hU hi;obtain⟨l1,l2⟩:=Tr hU i ⋯;have sd:=uU a4 c4;refine⟨a,b,c,d,150,150,rfl,a4.nv,c4.nv,∅,?_⟩;refine⟨_,_,rfl,bB a4.nv c4.nv,l1,⋯,⋯,λr hr=>?_⟩;have e1:Pn U (i+1)=mn (Pn U i) (cM a b c d):=by
   show mn _ (Yh (U.getD (i+1) .non) (U.getD (i+2) .non))=_;rw[a2,c2];rfl
  show if decide (r<0)=true then _ else _
  by_cases cc:r<0
  ·rw[oY cc,oV rfl];have:Pn U (i+1)=cM a b c d:=by rw[e1];unfold mn;rw[oV (hr.1 cc)]
   refine KK _ ⟨⇑(vc a b),⇑(vc c d),⇑(fr (cM a b c d)),?_⟩;rw[this];rfl
  ·rw[oX cc,oW ∅];have:Pn U (i+1)=Pn U i:=by rw[e1];unfold mn;rw[oW (λz=>cc (hr.2 z))]
   refine KK _ ⟨⇑(vc a b),⇑(vc c d),⇑(fr (cM a b c d)),?_⟩;rw[this]
 ·rintro E ⟨v2,v3,v4,rfl⟩;rw[Xz];exact⟨rfl,z⟩
theorem Ex:∀ns:List Int,bM (bK ns)=true
 |[]=>rfl
 |_::ns=>by simp[bK,bM,noL];exact Ex ns
def Nc:dG:=λas Q=>∃(ns:List Int)(m:Nat),as=[.v (.lst (bK ns)),.v (.int (m:Int))]/\ns.length<=63/\2<=m/\m<=63/\∀cs:List Int,cs.length<=m->Q (.l (bK cs)) []
abbrev yH(P w K mg base):=(~~~Fn) 1 "_law_folded" ["_law_script","_law_many"] (aI K Nc)
abbrev wV:SV:=top 71
theorem o9:aF ["_law_script","_law_many","_law_cells","_law_k","_law_cell"] ["_law_script","_law_many"] (aC wV):=dH
theorem Pw(F:cI K "_law_folded" "_law_folded" wV f fd)(TX:Txt mg):(~~~aS) cJ 1 f fd ["_law_script","_law_many"] (aI K Nc):=by
 refine F.okU o9 (λhr=>(aB (fS 2 o9.nd (Pd rfl rfl TX.n_list (f1 (gY rfl (fv 0) o8 (jB (fv 1)))))) (aB (jQ PassesOwn.never rfl (Lj rfl rfl TX.n_enumerate (f1 (gY rfl (fv 0) (jB (fv 1)) (jB aA)))) (dA (n:=2) rfl rfl (aM (fG 3 o9.nd) (aM (fG 4 o9.nd) cE))) (aE (d8 (aU cD (fX (fv 2) (aO fZ (fv 3) (fv 1))) (aO aW (fv 4) (aU cD (fv 3) aA))) (Ii (fv 2) (aO fZ (fv 3) (fv 1)))))) (aE (aG (fv 2)))))) ?_;rintro as Q ⟨ns,m,rfl,hl,hm2,hm,q⟩;refine cX (λi E=>∃(cs:List Int)(v3 v4:Option U),E=[⇑(.lst (bK ns)),↑(m:Int),↥(bK cs),v3,v4]/\cs.length=(ns.take m).length)
  ⟨ns.take m,none,none,by rw[<-Yu],rfl⟩ ?_ ?_
 ·rintro i x rest E hi ⟨cs,v3,v4,rfl,hc⟩ K;obtain⟨y,hy,rfl⟩:=La hi;obtain⟨z,rfl⟩:∃z,y=T.int z:=by
   obtain⟨z,_,e⟩:=NO.mp (Ru (LD hy));exact⟨z,e.symm⟩
  have oj:i<ns.length-m:=by
   have h1:=(KZ.mp hy).1;have h2:=Rr (bK ns) m 63;simp[bK]at h2;exact LP h1 h2
  have hcl:cs.length=m:=by rw[hc,MQ];lia
  have em:((i:Int)%(m:Int))=((i%m:Nat):Int):=rfl;have hj:i%m<cs.length:=by rw[hcl];exact QV _ ⋯
  have oi:eV (bK cs) ((i:Int)%(m:Int))=oZ (T.int cs[i%m]):=by
   rw[em];exact lI (by rw[bK,LB,LA hj];rfl)
  have hix:Hn (bK cs).length ((i:Int)%(m:Int))=oZ (i%m):=by
   rw[em];unfold Hn;rw[oV ⋯,oV (by simp[bK];lia),MR]
  have hmp:(λ(_ j:Int)=>0<j) (i:Int) (m:Int):=by show(0:Int)<(m:Int);lia
  refine⟨hmp,?_⟩;show o1 (eV (bK cs) ((i:Int)%(m:Int))) _;rw[oi];refine⟨Bg ⋯,hmp,?_⟩;show o1 (Hn (bK cs).length ((i:Int)%(m:Int))) _;rw[hix];have e:bK (cs.set (i%m) (cs[i%m]+z*((i:Int)+2)))=(bK cs).set (i%m) (.int (cs[i%m]+z*((i:Int)+2))):=by rw[bK,bK,List.map_set]
  exact K _ ⟨cs.set (i%m) (cs[i%m]+z*((i:Int)+2)),↑(i:Int),↑z,by rw[e];rfl,by rw[QL];exact hc⟩
 ·rintro E ⟨cs,v3,v4,rfl,hc⟩;have hcm:cs.length<=m:=by rw[hc,MQ];lia
  exact⟨Ex _,q cs hcm⟩
abbrev mS(P w K mg base):=(~~~Fn) 1 "_law_frac" ["_law_n","_law_d"] (aI K J1)
abbrev Ck:SV:=top 72
theorem rV:aF ["_law_n","_law_d","_law_one","_law_other"] ["_law_n","_law_d"] (aC Ck):=dH
theorem Uj(F:cI K "_law_frac" "_law_frac" Ck f fd)(TX:Txt mg):(~~~aS) cJ 1 f fd ["_law_n","_law_d"] (aI K J1):=by
 refine F.okU rV (λhr=>(aB (gZ (i:=2) (j:=3) rfl rV.nd rfl rfl ∅ rfl rfl (f2 (sE rfl TX.n_abs (f1 (fv 0))) (sE rfl TX.n_abs (f1 (fv 1)))) rfl) (aB (m8 PassesOwn.never (fP rR (fv 3) aA) (aE (gZ (i:=2) (j:=3) rfl rV.nd rfl rfl ∅ rfl rfl (f2 (fv 3) (aO fZ (fv 2) (fv 3))) rfl))) (aB (fS 2 rV.nd (aO aW (fv 2) (pM (fP rR (fv 1) aA) aA (d7 aA)))) (aE (aG (aN (f2 (aO dF (fv 0) (fv 2)) (aO dF (fv 1) (fv 2)))))))))) ?_;rintro as Q ⟨n,d,rfl,hd,hb,q⟩;refine⟨λm E=>∃(x y:Nat),E=[↑n,↑d,↑x,↑y]/\m=y/\MJ x y=MJ n.natAbs d.natAbs,⟨_,_,_,rfl,rfl,rfl⟩,?_⟩;rintro m E ⟨x,y,rfl,rfl,hg⟩;show if decide ((0:Int)<(m:Int))=true then _ else _
 by_cases hy:(0:Int)<(m:Int)
 ·rw[oY hy,oV rfl];exact⟨hy,x%m,QV _ ⋯,m,x%m,rfl,rfl,by rw[Em];exact hg⟩
 ·rw[oX hy,oW ∅];obtain rfl:m=0:=⋯
  rw[Nat.gcd_zero_right]at hg;subst hg;have dn:((MJ n.natAbs d.natAbs:Nat):Int)∣n:=NN.mpr (OV _ _);have dd:((MJ n.natAbs d.natAbs:Nat):Int)∣d:=NN.mpr (OQ _ _);have g0:((MJ n.natAbs d.natAbs:Nat):Int)≠0:=(tL (i:=0) (n:=n) hd hb).1;have aK:∀{g m:Int},g≠0->g∣m->m.fdiv (-g)=(-m)/g:=λ{g m}h0 hm=>by
   obtain⟨k,rfl⟩:=hm;have e1:g*k=(-g)*(-k):=by grind
   have e2:-(g*k)=g*(-k):=by grind
   rw[e2,NI _ h0,e1,RU _ ⋯]
  show if decide (0<d)=true then _ else _
  by_cases h:0<d
  ·rw[oY h,oV rfl];have e1:((MJ n.natAbs d.natAbs:Nat):Int)*1=((MJ n.natAbs d.natAbs:Nat):Int):=Int.mul_one _;refine⟨Bg ∅,?_⟩;rw[e1];refine⟨tL hd hb,tL hd hb,rfl,?_⟩;unfold iV rO nE at q;rw[oV h,oV h,<-Lg,<-Lg]at q;exact q
  ·rw[oX h,oW ∅];have e1:((MJ n.natAbs d.natAbs:Nat):Int) * -1 = -((MJ n.natAbs d.natAbs:Nat):Int):=⋯
   refine⟨Bg ∅,?_⟩;rw[e1];have cz:∀i:Int,yE i (-((MJ n.natAbs d.natAbs:Nat):Int)):=λi=>⟨⋯,by rw[PQ];exact(tL (i:=i) (n:=n) hd hb).2⟩;refine⟨cz _,cz _,rfl,?_⟩;unfold iV rO nE at q;rw[oW h,oW h,<-aK g0 dn,<-aK g0 dd]at q;exact q
abbrev Kn(P w K mg base):=(~~~Fn) 2 "_law_sum" oH (aI K (uH bJ))
abbrev Jv:SV:=top 73
theorem G1:aF oH oH (aC Jv):=dH
theorem A8(F:cI K "_law_sum" "_law_sum" Jv f fd)(TX:Txt mg)(WO: ~~~mS):(~~~aS) cJ 2 f fd oH (aI K (uH bJ)):=by
 refine F.okU G1 (λhr=>(aE (aG (fK WO (f2 (aU cD (aO aW (fQ 0) (fQ 1)) (aO aW (fQ 1) (fQ 0))) (aO aW (fQ 0) (fQ 1))))))) ?_;rintro as Q ⟨x,y,rfl,hx,hy,hs,q⟩;have hd:(x.2*y.2).natAbs<2^8000:=sM (bF (bV x) (bV y)) ⋯;exact⟨jR (e:=7900) (pl (dR x) ⋯) (pl (bV y) ⋯) ∅,jR (e:=7900) (pl (dR y) ⋯) (pl (bV x) ⋯) ∅,jR (e:=7900) (pl (bV x) ⋯) (pl (bV y) ⋯) ∅,_,_,rfl,eB hx hy,hd,rfl,q⟩
abbrev u4(P w K mg base):=(~~~Fn) 2 "_law_less" oH (aI K (uH aR))
abbrev Cn:SV:=top 75
theorem Wk:aF oH oH (aC Cn):=dH
theorem Ul(F:cI K "_law_less" "_law_less" Cn f fd)(TX:Txt mg)(WO: ~~~mS):(~~~aS) cJ 2 f fd oH (aI K (uH aR)):=by
 refine F.okU Wk (λhr=>(aE (aG (fK WO (f2 (aU g8 (aO aW (fQ 0) (fQ 1)) (aO aW (fQ 1) (fQ 0))) (aO aW (fQ 0) (fQ 1))))))) ?_;rintro as Q ⟨x,y,rfl,hx,hy,hs,q⟩;have hd:(x.2*y.2).natAbs<2^8000:=sM (bF (bV x) (bV y)) ⋯;exact⟨jR (e:=7900) (pl (dR x) ⋯) (pl (bV y) ⋯) ∅,jR (e:=7900) (pl (dR y) ⋯) (pl (bV x) ⋯) ∅,jR (e:=7900) (pl (bV x) ⋯) (pl (bV y) ⋯) ∅,_,_,rfl,eB hx hy,hd,rfl,q⟩
abbrev mV(P w K mg base):=(~~~Fn) 2 "_law_product" oH (aI K (uH aJ))
abbrev qK:SV:=top 74
theorem Gq:aF oH oH (aC qK):=dH
theorem Fx(F:cI K "_law_product" "_law_product" qK f fd)(TX:Txt mg)(WO: ~~~mS):(~~~aS) cJ 2 f fd oH (aI K (uH aJ)):=by
 refine F.okU Gq (λhr=>(aE (aG (fK WO (f2 (aO aW (fQ 0) (fQ 1)) (aO aW (fQ 0) (fQ 1))))))) ?_;rintro as Q ⟨x,y,rfl,hx,hy,hs,q⟩;have hd:(x.2*y.2).natAbs<2^8000:=sM (bF (bV x) (bV y)) ⋯;exact⟨jR (e:=7900) (pl (dR x) ⋯) (pl (dR y) ⋯) ∅,jR (e:=7900) (pl (bV x) ⋯) (pl (bV y) ⋯) ∅,_,_,rfl,eB hx hy,hd,rfl,q⟩
abbrev z7(P w K mg base):=(~~~Fn) 3 "_law_add" oH (aI K Nj)
abbrev Jt:SV:=top 76
theorem F9:aF oH oH (aC Jt):=dH
theorem A6(F:cI K "_law_add" "_law_add" Jt f fd)(TX:Txt mg)(cm: ~~~Kn):(~~~aS) cJ 3 f fd oH (aI K Nj):=by
 refine F.okU F9 (λhr=>(aE (aG (aN (f2 (fK cm (f2 (fQ 0) (fQ 1))) (fK cm (f2 (fQ 0) (fQ 1)))))))) ?_;rintro as Q ⟨x,y,p,q,e,f,rfl,h,k,hs,z⟩;have:=h.sx;have:=h.sy;have:=k.sx;have:=k.sy;exact⟨_,_,rfl,h.x,k.x,⋯,_,_,rfl,h.y,k.y,⋯,rfl,z⟩
abbrev uI(P w K mg base):=(~~~Fn) 3 "_law_sub" oH (aI K J2)
abbrev Ju:SV:=top 77
theorem G0:aF oH oH (aC Ju):=dH
theorem A7(F:cI K "_law_sub" "_law_sub" Ju f fd)(TX:Txt mg)(XY: ~~~u4):(~~~aS) cJ 3 f fd oH (aI K J2):=by
 refine F.okU G0 (λhr=>(aE (aG (aN (f2 (fK XY (f2 (fQ 0) (fQ 1))) (fK XY (f2 (fQ 0) (fQ 1)))))))) ?_;rintro as Q ⟨x,y,p,q,e,f,rfl,h,k,hs,z⟩;have:=h.sx;have:=h.sy;have:=k.sx;have:=k.sy;exact⟨_,_,rfl,h.x,k.x,⋯,_,_,rfl,h.y,k.y,⋯,rfl,z⟩
abbrev iB(P w K mg base):=(~~~Fn) 3 "_law_scaled_by" ["_law_vector","_law_share"] (aI K uV)
abbrev lV:SV:=top 78
theorem yB:aF ["_law_vector","_law_share"] ["_law_vector","_law_share"] (aC lV):=dH
theorem x8(F:cI K "_law_scaled_by" "_law_scaled_by" lV f fd)(TX:Txt mg)(WN: ~~~mV):(~~~aS) cJ 3 f fd ["_law_vector","_law_share"] (aI K uV):=by
 refine F.okU yB (λhr=>(aE (aG (aN (f2 (fK WN (f2 (fQ 0) (fv 1))) (fK WN (f2 (fQ 0) (fv 1)))))))) ?_;rintro as Q ⟨x,y,b,e,rfl,h,hb,hs,q⟩;have:=h.sx;have:=h.sy;exact⟨_,_,rfl,h.x,hb,⋯,_,_,rfl,h.y,hb,⋯,rfl,q⟩
abbrev yI(P w K mg base):=(~~~Fn) 3 "_law_cross" oH (aI K (BB aY))
abbrev wX:SV:=top 79
theorem Qr:aF oH oH (aC wX):=dH
theorem Px(F:cI K "_law_cross" "_law_cross" wX f fd)(TX:Txt mg)(XY: ~~~u4)(WN: ~~~mV):(~~~aS) cJ 3 f fd oH (aI K (BB aY)):=by
 refine F.okU Qr (λhr=>(aE (aG (fK XY (f2 (fK WN (f2 (fQ 0) (fQ 1))) (fK WN (f2 (fQ 0) (fQ 1)))))))) ?_;rintro as Q ⟨x,y,x',y',e,f,rfl,h,k,he,q⟩;have:=h.sx;have:=h.sy;have:=k.sx;have:=k.sy;have n1:=aP h.x k.y;have n2:=aP h.y k.x;have s1:=cG h.x k.y;have s2:=cG h.y k.x;exact⟨_,_,rfl,h.x,k.y,⋯,_,_,rfl,h.y,k.x,⋯,_,_,rfl,n1,n2,⋯,rfl,q⟩
abbrev mW(P w K mg base):=(~~~Fn) 1 "_law_quarter" ["_law_vector"] (aI K Nf)
abbrev qL:SV:=top 81
theorem Gu:aF ["_law_vector"] ["_law_vector"] (aC qL):=dH
theorem Fy(F:cI K "_law_quarter" "_law_quarter" qL f fd)(TX:Txt mg):(~~~aS) cJ 1 f fd ["_law_vector"] (aI K Nf):=by
 refine F.okU Gu (λhr=>(aE (aG (aN (f2 (aN (f2 (d7 (fX (fQ 0) aA)) (fX (fQ 0) aA))) (fQ 0)))))) ?_;rintro as Q ⟨x,y,rfl,q⟩;exact⟨rfl,q⟩
def AO(k:Nat):Fr×Fr:=match k with
 |0=>((1,1),(0,1))|1=>((4,5),(3,5))|2=>((3,5),(4,5))|3=>((12,13),(5,13))|_=>((5,13),(12,13))
def Qo:Nat->Fr×Fr->Fr×Fr
 |0,p=>p
 |n+1,p=>let q:=Qo n p;(aK q.2,q.1)
def un(k:Nat):Fr×Fr:=Qo (k/5%4) (AO (k%5))
def KU(k:Nat):L2.T:=vc (un k).1 (un k).2
theorem Xu(k:Nat)(h:k<20):cA (un k).1 (un k).2 4:=by
 have n0:∀j,j<5->cA (AO j).1 (AO j).2 4:=λj hj=>by
  have:j=0\/j=1\/j=2\/j=3\/j=4:=⋯
  have mk:∀a b c:Int,0<c->MJ a.natAbs c.natAbs=1->MJ b.natAbs c.natAbs=1->a.natAbs<2^4->b.natAbs<2^4->c.natAbs<2^4->a*a+b*b=c*c->cA (a,c) (b,c) 4:=λa b c c0 g1 g2 a4 b4 c4 e=>by
   refine⟨⟨⟨c0,g1⟩,⟨c0,g2⟩,oP a4 c4 ∅,oP b4 c4 ∅⟩,?_⟩;show(a:Rat)/(c:Rat)*((a:Rat)/(c:Rat))+(b:Rat)/(c:Rat)*((b:Rat)/(c:Rat))=1;have nz:(c:Rat)≠0:=by exact_mod_cast (show c≠0 by lia)
   have e':(a:Rat)*a+b*b=c*c:=by exact_mod_cast e
   grind
  obtain rfl|rfl|rfl|rfl|rfl:=this
  ·exact mk 1 0 1 ∅ ∅ ∅ ∅ ∅ ∅ ∅
  ·exact mk 4 3 5 ∅ ∅ ∅ ∅ ∅ ∅ ∅
  ·exact mk 3 4 5 ∅ ∅ ∅ ∅ ∅ ∅ ∅
  ·exact mk 12 5 13 ∅ ∅ ∅ ∅ ∅ ∅ ∅
  ·exact mk 5 12 13 ∅ ∅ ∅ ∅ ∅ ∅ ∅
 have nr:∀n p,cA p.1 p.2 4->cA (Qo n p).1 (Qo n p).2 4:=λn p hp=>by
  induction n with
  |zero=>exact hp
  |succ n ih=>exact ih.left
 exact nr _ _ (n0 _ (QV _ ∅))
theorem FU:∀j k:Fin 20,j≠k->un j.1≠un k.1:=by decide +kernel
def tUnitOf':dG:=λas Q=>∃k:Nat,as=[.v (.int (k:Int))]/\k<20/\Q (.v (KU k)) []
abbrev tK(P w K mg base):=(~~~Fn) 2 "_law_unit_at" ["_law_k"] (aI K tUnitOf')
abbrev qM:SV:=top 82
theorem iR:aF ["_law_k","_law_some","_law_found","_law_turn"] ["_law_k"] (aC qM):=dH
theorem Fz(F:cI K "_law_unit_at" "_law_unit_at" qM f fd)(TX:Txt mg)(XA: ~~~mW):(~~~aS) cJ 2 f fd ["_law_k"] (aI K tUnitOf'):=by
 refine F.okU iR (λhr=>(aB (fS 1 iR.nd (c8 (fc (aN (f2 (aN (f2 aA aA)) (aN (f2 aA aA)))) (f4 (aN (f2 (aN (f2 aA aA)) (aN (f2 aA aA)))) (aN (f2 (aN (f2 aA aA)) (aN (f2 aA aA)))) (aN (f2 (aN (f2 aA aA)) (aN (f2 aA aA)))) (aN (f2 (aN (f2 aA aA)) (aN (f2 aA aA)))))))) (aB (fS 2 iR.nd (fX (fv 1) (aO fZ (fv 0) aA))) (aB (jQ PassesOwn.never rfl (fM rfl TX.n_range (f1 (aO fZ (aO dF (fv 0) aA) aA))) (fG 3 iR.nd) (aE (fS 2 iR.nd (fK XA (f1 (fv 2)))))) (aE (aG (fv 2))))))) ?_;rintro as Q ⟨k,rfl,hk,q⟩;refine⟨by show(0:Int)<5;decide,?_⟩;have ym:∀j:Nat,j<5->eV [L2.T.tup [.tup [.int 1,.int 1],.tup [.int 0,.int 1]],.tup [.tup [.int 4,.int 5],.tup [.int 3,.int 5]],.tup [.tup [.int 3,.int 5],.tup [.int 4,.int 5]],.tup [.tup [.int 12,.int 13],.tup [.int 5,.int 13]],.tup [.tup [.int 5,.int 13],.tup [.int 12,.int 13]]] (j:Int)=oZ (vc (AO j).1 (AO j).2):=λj hj=>by
  have:j=0\/j=1\/j=2\/j=3\/j=4:=⋯
  rcases this with rfl|rfl|rfl|rfl|rfl<;>rfl
 have em:((k:Int)%5)=((k%5:Nat):Int):=rfl;show o1 (eV [L2.T.tup [.tup [.int 1,.int 1],.tup [.int 0,.int 1]],.tup [.tup [.int 4,.int 5],.tup [.int 3,.int 5]],.tup [.tup [.int 3,.int 5],.tup [.int 4,.int 5]],.tup [.tup [.int 12,.int 13],.tup [.int 5,.int 13]],.tup [.tup [.int 5,.int 13],.tup [.int 12,.int 13]]] ((k:Int)%5)) _;rw[em,ym _ (QV _ ∅)];have ek:((k:Int).fdiv 5%4)=((k/5%4:Nat):Int):=by
  rw[NL _ ∅]
  lia
 refine⟨⟨∅,∅⟩,by show(0:Int)<4;decide,?_⟩;rw[ek];refine⟨⟨⋯,⋯⟩,?_⟩;rw[MR];refine cX (λi E=>∃v1 v3:Option U,E=[↑(k:Int),v1,⇑(vc (Qo i (AO (k%5))).1 (Qo i (AO (k%5))).2),v3]) ⟨_,_,rfl⟩ ?_ ?_
 ·rintro i t rest E hi ⟨v1,v3,rfl⟩ KK;exact⟨_,_,rfl,KK _ ⟨_,_,rfl⟩⟩
 ·rintro E ⟨v1,v3,rfl⟩;have el:(iP 0 (k/5%4)).length=k/5%4:=by simp[iP]
  rw[el];exact⟨rfl,q⟩
inductive Mv where
 |side (x y m:Fr)|arc (x y u v r:Fr) (l:Bool)
def nF:Mv->L2.T
 |.side x y m=>.tup [.str "side",vc x y,fr m]
 |.arc x y u v r l=>.tup [.str "arc",vc x y,vc u v,fr r,.str (r6 l)]
def Dv(B:Nat)(x:Fr):Prop:=∃k:Int,val x*65=(k:Rat)/\k.natAbs<=B
def Wh(W:Nat)(x:Fr):Prop:=∃k:Int,val x=(k:Rat)/\k.natAbs<=W
theorem Dv.neg(n:bI x)(h:Dv B x):Dv B (aK x):=by
 obtain⟨k,e,b⟩:=h;exact⟨-k,by rw[bR n];push_cast;grind,⋯⟩
theorem Dv.up(h:Dv B x)(k:B<=C):Dv C x:=let⟨j,e,b⟩:=h;⟨j,e,⋯⟩
theorem Dv.add(nx:bI x)(ny:bI y)(h:Dv B x)(k:Dv C y):Dv (B+C) (bJ x y):=by
 obtain⟨i,e1,b1⟩:=h;obtain⟨j,e2,b2⟩:=k;exact⟨i+j,by rw[bO nx ny];push_cast;grind,⋯⟩
theorem Dv.sub(nx:bI x)(ny:bI y)(h:Dv B x)(k:Dv C y):Dv (B+C) (aR x y):=by
 obtain⟨i,e1,b1⟩:=h;obtain⟨j,e2,b2⟩:=k;exact⟨i-j,by rw[bW nx ny];push_cast;grind,⋯⟩
theorem Dv.mul(nx:bI x)(ny:bI y)(h:Dv B x)(k:Wh W y):Dv (B*W) (aJ x y):=by
 obtain⟨i,e1,b1⟩:=h;obtain⟨j,e2,b2⟩:=k;refine⟨i*j,by rw[aZ nx ny];push_cast;grind,?_⟩;rw[MO];exact PU b1 b2
theorem Nr(k:Nat)(h:k<20):Dv 65 (un k).1/\Dv 65 (un k).2:=by
 have dP:∀k:Fin 20,(65%(un k.1).1.2=0/\(un k.1).1.1.natAbs<=(un k.1).1.2.natAbs/\0<(un k.1).1.2)/\(65%(un k.1).2.2=0/\(un k.1).2.1.natAbs<=(un k.1).2.2.natAbs/\0<(un k.1).2.2):=by decide +kernel
 have mk:∀x:Fr,(65%x.2=0/\x.1.natAbs<=x.2.natAbs/\0<x.2)->Dv 65 x:=λx zZ=>by
  obtain⟨h1,h2,h3⟩:=zZ;obtain⟨c,hc⟩:x.2∣65:=Int.dvd_of_emod_eq_zero h1;have nz:(x.2:Rat)≠0:=by exact_mod_cast (show x.2≠0 by lia)
  have fi:(65:Rat)=(x.2:Rat)*(c:Rat):=by exact_mod_cast hc
  refine⟨x.1*c,?_,?_⟩
  ·show(x.1:Rat)/(x.2:Rat)*65=_;rw[fi];push_cast;grind
  ·rw[MO];have e:x.2.natAbs*c.natAbs=65:=by rw[<-MO,<-hc];rfl
   exact MV (Nat.mul_le_mul_right _ h2) ⋯
 exact⟨mk _ (dP ⟨k,h⟩).1,mk _ (dP ⟨k,h⟩).2⟩
theorem Xx{k:Int}(h:k.natAbs<=W):Wh W (k,1):=⟨k,iJ k,h⟩
def fY:Mv->Prop
 |.side x y m=>cA x y 4/\bI m/\sz m<=4/\0<val m/\Dv 65 x/\Dv 65 y/\Wh 11 m
 |.arc x y u v r _=>cA x y 4/\cA u v 4/\¬(x=u/\y=v)/\bI r/\sz r<=3/\0<val r/\(Dv 65 x/\Dv 65 y)/\(Dv 65 u/\Dv 65 v)/\Wh 6 r
theorem V5:∀m:Mv,noL (nF m)=true
 |.side _ _ _=>rfl
 |.arc _ _ _ _ _ _=>rfl
theorem nJ:∀ms:List Mv,bM (ms.map nF)=true
 |[]=>rfl
 |m::ms=>by show(noL (nF m)&&bM (ms.map nF))=true;rw[V5,nJ ms];rfl
theorem Hl{k:Int}(h1:1<=k)(he:k.natAbs<2^e)(e0:0<e):bI (k,1)/\sz (k,1)<=e/\0<val (k,1):=by
 refine⟨aQ k,oP he (show(1:Int).natAbs<2^e from Nat.one_lt_two_pow ⋯) e0,?_⟩;rw[iJ]
 exact_mod_cast (show 0<k by lia)
theorem sI(h:bI x):aJ x (-1,1)=aK x:=by
 have n1:bI ((-1,1):Fr):=aQ (-1);refine b9 (aP h n1) (e7 h) ?_;rw[aZ h n1,bR h,iJ];grind
def GV:Mv->Mv
 |.side x y m=>.side (aK x) (aK y) m
 |.arc x y u v r l=>.arc (aK x) (aK y) (aK u) (aK v) r l
theorem Ek(h:aK x=aK y):x=y:=by
 have h1:=congrArg Prod.fst h;have h2:=congrArg Prod.snd h;simp only[aK]at h1 h2;exact Prod.ext ⋯ h2
theorem fY.back:∀{m:Mv},fY m->fY (GV m)
 |.side _ _ _,⟨u,a,b,c,g1,g2,w⟩=>⟨u.neg,a,b,c,g1.neg u.nv.x,g2.neg u.nv.y,w⟩
 |.arc _ _ _ _ _ _,⟨u,v,ne,a,b,c,g,h,w⟩=>⟨u.neg,v.neg,λz=>ne ⟨Ek z.1,Ek z.2⟩,a,b,c,⟨g.1.neg u.nv.x,g.2.neg u.nv.y⟩,⟨h.1.neg v.nv.x,h.2.neg v.nv.y⟩,w⟩
theorem jT(k:Nv x y f)(hb:bI b)(hs:sz b<=e):Nv (aJ x b) (aJ y b) (f+e):=by
 have:=k.sx;have:=k.sy;have m1:=cG k.x hb;have m2:=cG k.y hb;exact⟨aP k.x hb,aP k.y hb,⋯,⋯⟩
theorem Bk(h:Nv p q e)(k:Nv x y f):Nv (aR p x) (aR q y) (e+f+1):=by
 have:=h.sx;have:=h.sy;have:=k.sx;have:=k.sy;have m1:=oR h.x k.x;have m2:=oR h.y k.y;exact⟨dM h.x k.x,dM h.y k.y,⋯,⋯⟩
theorem wA(h:Nv p q e)(k:Nv x y f):Nv (bJ p x) (bJ q y) (e+f+1):=by
 have:=h.sx;have:=h.sy;have:=k.sx;have:=k.sy;have m1:=iY h.x k.x;have m2:=iY h.y k.y;exact⟨c7 h.x k.x,c7 h.y k.y,⋯,⋯⟩
def rP(a b:Fr):Mv->Pc
 |.side x y m=>.side (bJ a (aJ x m)) (bJ b (aJ y m))
 |.arc x y u v r l=>.arc (aR a (aJ x r)) (aR b (aJ y r)) (bJ (aR a (aJ x r)) (aJ u r)) (bJ (aR b (aJ y r)) (aJ v r)) l
theorem Iy(h:Nv a b e):∀{m:Mv},fY m->qA (e+16) a b (rP a b m)
 |.side x y m,⟨u,nm,sm,pm,_⟩=>by
  have s:=jT u.nv nm sm;refine⟨(wA h s).up ⋯,val m,pm,?_⟩;unfold Ig;rw[bO h.x s.x,bO h.y s.y,aZ u.nv.x nm,aZ u.nv.y nm];have:=u.one;have e1:(val a+val x*val m-val a)*(val a+val x*val m-val a)+(val b+val y*val m-val b)*(val b+val y*val m-val b)=(val x*val x+val y*val y)*(val m*val m):=by grind
  rw[e1,this];grind
 |.arc x y u v r l,⟨uu,uv,ne,nr,sr,pr,_⟩=>by
  have s:=jT uu.nv nr sr;have t:=jT uv.nv nr sr;have m:=Bk h s;have z:=wA m t;have o1:=uu.one;have o2:=uv.one;refine⟨m.up ⋯,z.up ⋯,λc=>?_,val r,pr,?_,?_⟩
  ·have c1:=congrArg val c.1;have c2:=congrArg val c.2;rw[bO m.x t.x,bW h.x s.x,aZ uu.nv.x nr,aZ uv.nv.x nr]at c1;rw[bO m.y t.y,bW h.y s.y,aZ uu.nv.y nr,aZ uv.nv.y nr]at c2;have r0:val r≠0:=by grind
   have e1:val x=val u:=by
    have:(val u-val x)*val r=0:=by grind
    rcases Rat.mul_eq_zero.mp this with q|q<;>grind
   have e2:val y=val v:=by
    have:(val v-val y)*val r=0:=by grind
    rcases Rat.mul_eq_zero.mp this with q|q<;>grind
   exact ne ⟨b9 uu.nv.x uv.nv.x e1,b9 uu.nv.y uv.nv.y e2⟩
  ·unfold Ig;rw[bW h.x s.x,bW h.y s.y,aZ uu.nv.x nr,aZ uu.nv.y nr];have e1:(val a-(val a-val x*val r))*(val a-(val a-val x*val r))+(val b-(val b-val y*val r))*(val b-(val b-val y*val r))=(val x*val x+val y*val y)*(val r*val r):=by grind
   rw[e1,o1];grind
  ·unfold Ig;rw[bO m.x t.x,bO m.y t.y,bW h.x s.x,bW h.y s.y,aZ uu.nv.x nr,aZ uu.nv.y nr,aZ uv.nv.x nr,aZ uv.nv.y nr];have e1:(val a-val x*val r+val u*val r-(val a-val x*val r))*(val a-val x*val r+val u*val r-(val a-val x*val r))+(val b-val y*val r+val v*val r-(val b-val y*val r))*(val b-val y*val r+val v*val r-(val b-val y*val r))=(val u*val u+val v*val v)*(val r*val r):=by grind
   rw[e1,o2];grind
theorem EK{D k:Int}(n:bI x)(hD:0<D)(q:val x*(D:Rat)=(k:Rat))(b1:D.natAbs<2^e)(b2:k.natAbs<2^e)(e0:0<e):sz x<=e:=by
 have v:=P1 n;have q:x.1*D=k*x.2:=by
  have:((x.1:Rat))*(D:Rat)=(k:Rat)*(x.2:Rat):=by rw[<-v,<-q];grind
  exact_mod_cast this
 have d1:=n.d;have q':x.1.natAbs*D.natAbs=k.natAbs*x.2.natAbs:=by rw[<-MO,<-MO,q]
 have dv:x.2.natAbs∣D.natAbs:=by
  have:x.2.natAbs∣x.1.natAbs*D.natAbs:=⟨k.natAbs,by rw[q'];exact Nat.mul_comm _ _⟩;exact(OW.symm n.g).dvd_of_dvd_mul_left this
 have le:=Nat.le_of_dvd ⋯ dv;have l1:x.1.natAbs<=k.natAbs:=by
  obtain c|c:=MN k.natAbs x.1.natAbs
  ·have a1:(k.natAbs+1)*D.natAbs<=x.1.natAbs*D.natAbs:=Nat.mul_le_mul_right _ c;have a2:k.natAbs*x.2.natAbs<=k.natAbs*D.natAbs:=Nat.mul_le_mul_left _ le;have a3:(k.natAbs+1)*D.natAbs=k.natAbs*D.natAbs+D.natAbs:=by rw[Nat.add_mul,Nat.one_mul]
   have a4:0<D.natAbs:=⋯
   lia
  ·exact c
 exact oP (ML l1 b2) (ML le b1) e0
theorem Dv.sz(n:bI x)(h:Dv B x)(hB:B<2^14):sz x<=14:=by
 obtain⟨k,e,b⟩:=h;exact EK (D:=65) (k:=k) n ∅ (by rw[<-e];norm_cast) ∅ ⋯ ∅
def St(a b:Fr):Prop:=Nv a b 3/\Dv 260 a/\Dv 260 b
theorem V4(h:Nv a b e)(da:Dv B a)(db:Dv B b)(hB:B+800<2^14):∀{m:Mv},fY m->qA 14 a b (rP a b m)/\Dv (B+780) (rP a b m).px/\Dv (B+780) (rP a b m).py
 |.side x y m,ok=>by
  obtain⟨u,nm,sm,pm,gx,gy,w⟩:=id ok;have o:=Iy h ok;have s:=jT u.nv nm sm;have d1:=(da.add h.x s.x (gx.mul u.nv.x nm w)).up (show _<=B+780 by lia);have d2:=(db.add h.y s.y (gy.mul u.nv.y nm w)).up (show _<=B+780 by lia);exact⟨⟨⟨o.1.x,o.1.y,d1.sz o.1.x ⋯,d2.sz o.1.y ⋯⟩,o.2⟩,d1,d2⟩
 |.arc x y u v r l,ok=>by
  obtain⟨uu,uv,ne,nr,sr,pr,gx,gu,w⟩:=id ok;have o:=Iy h ok;have s:=jT uu.nv nr sr;have t:=jT uv.nv nr sr;have m:=Bk h s;have c1:=da.sub h.x s.x (gx.1.mul uu.nv.x nr w);have c2:=db.sub h.y s.y (gx.2.mul uu.nv.y nr w);have d1:=(c1.add m.x t.x (gu.1.mul uv.nv.x nr w)).up (show _<=B+780 by lia);have d2:=(c2.add m.y t.y (gu.2.mul uv.nv.y nr w)).up (show _<=B+780 by lia);exact⟨⟨⟨o.1.x,o.1.y,c1.sz o.1.x ⋯,c2.sz o.1.y ⋯⟩,⟨o.2.1.x,o.2.1.y,d1.sz o.2.1.x ⋯,d2.sz o.2.1.y ⋯⟩,o.2.2⟩,d1,d2⟩
def N8:dG:=λas Q=>∃(xs:List L2.T)(n:Int)(w:Bool),as=[.b xs,.v (.bl w)]/\Bx xs n/\n<=900000/\∀m ys,fY m->Bx ys (n+5)->bM ys=true->Q (.v (nF m)) ys
abbrev lF(P w K mg base):=(~~~Fn) 3 "_law_one_move" ["_law_box_here","_law_arcs"] (aI K N8)
abbrev nU:SV:=top 83
theorem jE:aF ["_law_box_here","_law_arcs","_law_turn","_law_kind","_law_many","_law_first","_law_more"] ["_law_box_here","_law_arcs"] (aC nU):=dH
theorem Br(F:cI K "_law_one_move" "_law_one_move" nU f fd)(TX:Txt mg)(VR: ~~~oU)(XH: ~~~tK):(~~~aS) cJ 3 f fd ["_law_box_here","_law_arcs"] (aI K N8):=by
 refine F.okU jE (λhr=>(aB (gZ (i:=3) (j:=4) rfl jE.nd rfl rfl ∅ rfl rfl (f2 (fB VR (f2 (fv 0) aA)) (aU cD aA (fB VR (f2 (fv 0) aA)))) rfl) (aB (gZ (i:=5) (j:=6) rfl jE.nd rfl rfl ∅ rfl rfl (f2 (fB VR (f2 (fv 0) aA)) (aU cD aA (fB VR (f2 (fv 0) aA)))) rfl) (aB (b8 (t7 (m9 (Aw (fV (fv 1))) (lK (fP rR (fv 3) aA)))) (aE (aG (aN (f3 bA (fK XH (f1 (fv 5))) (aN (f2 (fv 4) aA)))))) bH) (aB (fS 2 jE.nd (fX (c8 (f2 bA bA)) (fB VR (f2 (fv 0) aA)))) (aE (aG (aN (fc bA (f4 (fK XH (f1 (fv 5))) (fK XH (f1 (aO fZ (aU cD (fv 5) (fv 6)) aA))) (aN (f2 (aU cD aA (aO dF (fv 4) aA)) aA)) (fv 2))))))))))) ?_;rintro as Q ⟨xs,n,w,rfl,hB,hn,q⟩;refine⟨xs,3,n,rfl,hB,⋯,∅,∅,λkd y1 k0 k1 b1=>?_⟩;refine⟨y1,11,n+1,rfl,b1,⋯,∅,∅,λmn y2 m0 m1 b2=>?_⟩;refine⟨y2,20,n+1+1,rfl,b2,⋯,∅,∅,λfs y3 f0 f1 b3=>?_⟩;refine⟨y3,19,n+1+1+1,rfl,b3,⋯,∅,∅,λmo y4 o0 o1' b4=>?_⟩;obtain⟨f,rfl⟩:∃f:Nat,fs=(f:Int):=⟨fs.toNat,⋯⟩;have hf:f<20:=⋯
 obtain⟨w1,w2,w3⟩:=Hl (k:=1+mn) (e:=4) ⋯ ⋯ ∅;obtain⟨A,B,C,rfl,_⟩:=id b4;have one:Q (.v (nF (.side (un f).1 (un f).2 (1+mn,1)))) [.int A,.int B,.int C]:=q (.side (un f).1 (un f).2 (1+mn,1)) _ ⟨Xu f hf,w1,w2,w3,(Nr f hf).1,(Nr f hf).2,Xx ⋯⟩ (b4.mono ⋯) rfl;cases w with
 |false=>
  exact⟨f,rfl,hf,rfl,one⟩
 |true=>
  show if decide (0<kd)=true then _ else _
  by_cases c:0<kd
  ·rw[oY c,oV rfl];exact⟨f,rfl,hf,rfl,one⟩
  ·rw[oX c,oW ∅];refine⟨_,2,n+1+1+1+1,rfl,b4,⋯,∅,∅,λtn y5 t0 t1 b5=>?_⟩;obtain⟨A,B,C,rfl,_⟩:=id b5;obtain⟨l,hl⟩:∃l,eV [L2.T.str (LM "left"),.str (LM "right")] tn=oZ (.str (r6 l)):=by
    have:tn=0\/tn=1:=⋯
    obtain rfl|rfl:=this
    ·exact⟨true,rfl⟩
    ·exact⟨false,rfl⟩
   show o1 (eV [L2.T.str (LM "left"),.str (LM "right")] tn) _;rw[hl];refine⟨f,rfl,hf,by show(0:Int)<20;decide,?_⟩;obtain⟨g,hg⟩:∃g:Nat,((f:Int)+(1+mo))%20=(g:Int):=⟨(((f:Int)+(1+mo))%20).toNat,⋯⟩;have oq:g<20:=⋯
   have hgf:f≠g:=⋯
   rw[hg];refine⟨g,rfl,oq,⟨∅,∅⟩,?_⟩;have er:(1+mn).fdiv 2=(1+mn)/2:=NL _ ∅;rw[er];obtain⟨r1,r2,r3⟩:=Hl (k:=1+(1+mn)/2) (e:=3) ⋯ ⋯ ∅;exact⟨rfl,q (.arc (un f).1 (un f).2 (un g).1 (un g).2 (1+(1+mn)/2,1) l) _ ⟨Xu f hf,Xu g oq,λz=>FU ⟨f,hf⟩ ⟨g,oq⟩ (by simpa using hgf) (Prod.ext z.1 z.2),r1,r2,r3,Nr f hf,Nr g oq,Xx ⋯⟩ (b5.mono ⋯) rfl⟩
def N9:dG:=λas Q=>∃m:Mv,as=[.v (nF m)]/\fY m/\Q (.v (nF (GV m))) []
abbrev Dk(P w K mg base):=(~~~Fn) 4 "_law_back" ["_law_move"] (aI K N9)
abbrev Ci:SV:=top 85
theorem Wi:aF ["_law_move"] ["_law_move"] (aC Ci):=dH
theorem Uh(F:cI K "_law_back" "_law_back" Ci f fd)(TX:Txt mg)(VP: ~~~iB):(~~~aS) cJ 4 f fd ["_law_move"] (aI K N9):=by
 refine F.okU Wi (λhr=>(aB (b8 (eQ rfl hr (fQ 0) bA (aV _)) (aE (aG (aN (f3 bA (fK VP (f2 (fQ 0) (aN (f2 (d7 aA) aA)))) (fQ 0))))) bH) (aE (aG (aN (fc bA (f4 (fK VP (f2 (fQ 0) (aN (f2 (d7 aA) aA)))) (fK VP (f2 (fQ 0) (aN (f2 (d7 aA) aA)))) (fQ 0) (fQ 0)))))))) ?_;rintro as Q ⟨m,rfl,h,q⟩;have n1:bI ((-1,1):Fr):=aQ (-1);have s1:sz ((-1,1):Fr)<=1:=oP (e:=1) ∅ ∅ ∅;cases m with
 |side x y m=>
  refine⟨LV _,?_⟩;refine⟨x,y,(-1,1),4,rfl,h.1.nv,n1,⋯,rfl,?_⟩;rw[sI h.1.nv.x,sI h.1.nv.y];exact q
 |arc x y u v r l=>
  refine⟨LV _,?_⟩;refine⟨x,y,(-1,1),4,rfl,h.1.nv,n1,⋯,u,v,(-1,1),4,rfl,h.2.1.nv,n1,⋯,rfl,?_⟩;rw[sI h.1.nv.x,sI h.1.nv.y,sI h.2.1.nv.x,sI h.2.1.nv.y];exact q
def cN:Fr->Fr->List Mv->List Pc
 |_,_,[]=>[]
 |a,b,m::ms=>rP a b m::cN (rP a b m).px (rP a b m).py ms
theorem fA:∀(ms:List Mv)(a b:Fr),(cN a b ms).length=ms.length
 |[],_,_=>rfl
 |m::ms,a,b=>congrArg (· + 1) (fA ms _ _)
theorem Gd:∀(ms:List Mv)(a b:Fr)(m:Mv),cN a b (ms++[m])=cN a b ms++[rP (cO a (cN a b ms)) (cP b (cN a b ms)) m]
 |[],_,_,_=>rfl
 |n::ms,a,b,m=>congrArg (rP a b n::·) (Gd ms _ _ m)
def uA:Mv->Fr
 |.side _ _ m=>m
 |.arc _ _ _ _ r _=>r
def bU:Mv->Fr×Fr
 |.side x y _=>(x,y)
 |.arc x y _ _ _ l=>Yi l x y
def eU:Mv->Fr×Fr
 |.side x y _=>(x,y)
 |.arc _ _ u v _ l=>Yi l u v
def Xe:dG:=λas Q=>∃(a b:Fr)(ms:List Mv),as=[.v (vc a b),.v (.lst (ms.map nF))]/\St a b/\(∀m∈ms,fY m)/\ms.length<=12/\Q (.v (cF a b (cN a b ms))) []
abbrev mT(P w K mg base):=(~~~Fn) 4 "_law_path_of" ["_law_start","_law_moves"] (aI K Xe)
abbrev qJ:SV:=top 84
theorem fN:aF ["_law_start","_law_moves","_law_move","_law_at","_law_pieces","_law_middle"] ["_law_start","_law_moves"] (aC qJ):=dH
theorem Fv(F:cI K "_law_path_of" "_law_path_of" qJ f fd)(TX:Txt mg)(YR: ~~~z7)(XT: ~~~uI)(VP: ~~~iB):(~~~aS) cJ 4 f fd ["_law_start","_law_moves"] (aI K Xe):=by
 refine F.okU fN (λhr=>(aB (gZ (i:=3) (j:=4) rfl fN.nd rfl rfl ∅ rfl rfl (f2 (fv 0) (c8 bQ)) rfl) (aB (jQ PassesOwn.never rfl (iF rfl (fv 1)) (fG 2 fN.nd) (aE (b8 (eQ rfl hr (fQ 2) bA (aV _)) (aB (fS 3 fN.nd (fK YR (f2 (fv 3) (fK VP (f2 (fQ 2) (fQ 2)))))) (aE (jC (gX rfl (fv 4) (f1 (aN (f2 bA (fv 3)))))))) (aB (fS 5 fN.nd (fK XT (f2 (fv 3) (fK VP (f2 (fQ 2) (fQ 2)))))) (aB (fS 3 fN.nd (fK YR (f2 (fv 5) (fK VP (f2 (fQ 2) (fQ 2)))))) (aE (jC (gX rfl (fv 4) (f1 (aN (f4 bA (fv 5) (fv 3) (fQ 2)))))))))))) (aE (aG (aN (f2 (fv 0) (Ei rfl rfl TX.n_tuple (f1 (fv 4)))))))))) ?_;rintro as Q ⟨a,b,ms,rfl,⟨nv,sa,sb⟩,hm,hl,q⟩;refine cX (λi E=>∃(v2 v5:Option U)(ps:List Pc)(hx hy:Fr),E=[⇑(vc a b),⇑(.lst (ms.map nF)),v2,⇑(vc hx hy),↥(ps.map jD),v5]/\ps=cN a b (ms.take i)/\hx=cO a ps/\hy=cP b ps/\Nv hx hy (3+16*i)) ⟨_,_,[],a,b,rfl,rfl,rfl,rfl,nv⟩ ?_ ?_
 ·rintro i t rest E hi ⟨v2,v5,ps,hx,hy,rfl,hp,ex,ey,hv⟩ KK;rw[LB]at hi;cases hq:ms[i]? with
  |none=>rw[hq]at hi;cases hi
  |some m=>
   rw[hq]at hi;cases hi;have aFX:i<ms.length:=(KZ.mp hq).1;have ok:=hm m (LD hq);have op:=Iy hv ok;have nx:=(qA.nv op).up (show 3+16*i+16<=3+16*(i+1) by lia);have pl:ps.length<=12:=by rw[hp,fA,MQ];lia
   have tk:cN a b (ms.take (i+1))=ps++[rP hx hy m]:=by rw[OC,hq,PK,Gd,<-hp,<-ex,<-ey]
   have done:∀v2 v5,∃(v2' v5':Option U)(ps':List Pc)(qr hy':Fr),[⇑(vc a b),⇑(.lst (ms.map nF)),v2,⇑(vc (rP hx hy m).px (rP hx hy m).py),↥(ps.map jD++[jD (rP hx hy m)]),v5]=[⇑(vc a b),⇑(.lst (ms.map nF)),v2',⇑(vc qr hy'),oZ (U.o false (ps'.map jD)),v5']/\ps'=cN a b (ms.take (i+1))/\qr=cO a ps'/\hy'=cP b ps'/\Nv qr hy' (3+16*(i+1)):=λv2 v5=>
    ⟨v2,v5,ps++[rP hx hy m],_,_,by rw[MF];rfl,tk.symm,(pW ps a _).symm,(pX ps b _).symm,nx⟩
   have lp:(ps.map jD++[jD (rP hx hy m)]).length<=9000:=by simp;lia
   cases m with
   |side x y m=>
    refine⟨LV _,?_⟩;have s:=jT ok.1.nv ok.2.1 ok.2.2.1;have sm:=ok.2.2.1;refine⟨x,y,m,4,rfl,ok.1.nv,ok.2.1,⋯,?_⟩;refine⟨hx,hy,_,_,3+16*i,4+4,rfl,hv,s,⋯,?_⟩;exact⟨lp,KK _ (done _ _)⟩
   |arc x y u v r l=>
    obtain⟨o1,o2,o3,o4,o5,o6⟩:=id ok;refine⟨LV _,?_⟩;have s:=jT o1.nv o4 o5;have t:=jT o2.nv o4 o5;refine⟨x,y,r,4,rfl,o1.nv,o4,⋯,?_⟩;refine⟨hx,hy,_,_,3+16*i,4+3,rfl,hv,s,⋯,?_⟩;refine⟨u,v,r,4,rfl,o2.nv,o4,⋯,?_⟩;refine⟨_,_,_,_,3+16*i+(4+3)+1,4+3,rfl,Bk hv s,t,⋯,?_⟩;exact⟨lp,KK _ (done _ _)⟩
 ·rintro E ⟨v2,v5,ps,hx,hy,rfl,hp,ex,ey,hv⟩;rw[LJ,NY]at hp;rw[<-hp]at q;exact⟨Ub a b ps (Fg ps),q⟩
theorem Zn{Fa Fb:FE}{κ:L2.R->En->Prop}(R:L2.R->Prop)(ha:c=true->∀κ',(∀u,R u->κ' u E)->Fa E κ')(hb:c=false->∀κ',(∀u,R u->κ' u E)->Fb E κ')(hk:∀u,R u->κ u E):if c=true then Fa E κ else Fb E κ:=by
 cases c with
 |true=>exact ha rfl κ hk
 |false=>exact hb rfl κ hk
theorem Ew(h:∀t∈L,∃m,t=nF m/\fY m):∃ms:List Mv,L=ms.map nF/\∀m∈ms,fY m:=by
 induction L with
 |nil=>exact⟨[],rfl,by simp⟩
 |cons t L ih=>
  obtain⟨m,e,ok⟩:=h t (by simp);obtain⟨ms,e2,ok2⟩:=ih λt ht=>h t (LC _ ht);refine⟨m::ms,by rw[e,e2];rfl,λm' hm'=>?_⟩;obtain rfl|hm':=LH.mp hm'
  ·exact ok
  ·exact ok2 m' hm'
theorem uR(h:∀t∈L,∃m,t=nF m/\fY m):bM L=true:=by
 obtain⟨ms,rfl,_⟩:=Ew h;exact nJ ms
theorem Gx{s t:Int}(s0:0<=s)(s1:s<9)(t0:0<=t)(t1:t<9):St (s-4,1) (t-4,1):=
  ⟨⟨aQ _,aQ _,oP (show(s-4).natAbs<2^3 by lia) (show(1:Int).natAbs<2^3 by decide) ∅,oP (show(t-4).natAbs<2^3 by lia) (show(1:Int).natAbs<2^3 by decide) ∅⟩,
   ⟨(s-4)*65,by rw[iJ];push_cast;grind,⋯⟩,⟨(t-4)*65,by rw[iJ];push_cast;grind,⋯⟩⟩
structure Pm(a b:Fr)(ms:List Mv):Prop where
 st:St a b
 ok:∀m∈ms,fY m
 ne:ms≠[]
 len:ms.length<=12
def M7:dG:=λas Q=>∃(xs:List L2.T)(n k:Int),as=[.b xs,.v (.int k)]/\Bx xs n/\n<=800000/\1<=k/\k<=9/\∀ms ys,(∀m∈ms,fY m)->ms≠[]->ms.length<=10->Bx ys (n+70)->bM ys=true->Q (.l (ms.map nF)) ys
abbrev pH(P w K mg base):=(~~~Fn) 5 "_law_all_moves" oM (aI K M7)
abbrev lU:SV:=top 86
theorem iH:aF ["_law_box_here","_law_most","_law_found","_law_rest","_law_way","_law_many"] oM (aC lU):=dH
theorem xZ(F:cI K "_law_all_moves" "_law_all_moves" lU f fd)(TX:Txt mg)(VR: ~~~oU)(WX: ~~~lF)(cn: ~~~Dk):(~~~aS) cJ 5 f fd oM (aI K M7):=by
 refine F.okU iH (λhr=>(aB (gZ (i:=4) (j:=5) rfl iH.nd rfl rfl ∅ rfl rfl (f2 (fB VR (f2 (fv 0) aA)) (aU cD aA (fB VR (f2 (fv 0) (fv 1))))) rfl) (aB (Au (i:=2) (N':=["_law_turn","_law_box_here"]) (t:=1) (cap:=[(0,true)]) iH.nd rfl (MS rfl) rfl rfl (bL.of rfl) rfl ∅ (fM rfl TX.n_range (f1 (pM (fP i9 (fv 4) aA) (fv 5) (aU cD aA (aO dF (fv 5) aA))))) (λ_ _ _ _=>(fH 0)) (λ_ _ _ _=>(fB WX (f2 (fv 1) (tO rfl hr (fv 0) aA (aV _)))))) (aB (b8 (fP i9 (fv 4) aA) (aE (aG (fv 2))) bH) (aB (fS 3 iH.nd (m4 (fv 2) (iC (N':=["_law_move"]) (t:=1) (cap:=[]) rfl (bL.of rfl) rfl ∅ (iF rfl (fv 2)) (λ_ _ _ _=>(fH 0)) (λ_ _ _ _=>(fK cn (f1 (fv 0))))))) (aB (b8 (eQ rfl hr (fv 4) aA (aV _)) (aE (aG (fv 3))) bH) (aE (aG (Sm (N':=["_law_turn","_law_rest","_law_box_here"]) (t:=1) (cap:=[(3,true),(0,true)]) rfl (bL.of rfl) ∅ (fM rfl TX.n_range (f1 (dJ rfl rfl TX.n_len (f1 (fv 3))))) (λ_ _ _ _=>(Ss (i:=0) (show SK (["_law_turn","_law_rest","_law_box_here"]:List Str) by decide +kernel) rfl (MS rfl) (NC rfl))) (λ_ _ _ _=>(S8 rfl (fv 1) (f1 (fB VR (f2 (fv 2) (dJ rfl rfl TX.n_len (f1 (fv 1))))))))))))))))) ?_;rintro as Q ⟨xs,n,k,rfl,hB,hn,vz,hk9,q⟩;refine⟨xs,4,n,rfl,hB,⋯,∅,∅,λway y1 w0 w1 b1=>?_⟩;refine⟨y1,k,n+1,rfl,b1,⋯,⋯,⋯,λmn y2 m0 m1 b2=>?_⟩;obtain⟨A0,B0,c0,rfl,_⟩:=id b2;have ef:(1+mn).fdiv 2=(1+mn)/2:=NL _ ∅;have ZI:∀m:Nat,(iP 0 m).length=m:=λm=>by simp[iP]
 show if decide (way<2)=true then _ else _;refine Zn (λu=>∃c:Int,vl [oZ (U.o true [L2.T.int A0,.int B0,.int c0]),↑k,none,none,↑way,↑(1+mn)] u=oZ (.int c)/\1<=c/\c<=9/\(¬way<2->c<=5)) ?_ ?_ ?_
 ·intro hw κ' J;exact J (.p (.int (1+mn))) ⟨1+mn,rfl,⋯,⋯,λz=>absurd (of_decide_eq_true hw) z⟩
 ·intro hw κ' J;refine⟨⟨∅,∅⟩,?_⟩;rw[ef];exact J _ ⟨1+(1+mn)/2,rfl,⋯,⋯,λ_=>⋯⟩
 rintro u ⟨c,hu,c1,c9,c5⟩;show i1 (vl [oZ (U.o true [L2.T.int A0,.int B0,.int c0]),↑k,none,none,↑way,↑(1+mn)] u) _;rw[hu];refine⟨⟨⋯,⋯⟩,rfl,?_⟩;refine cW (λi E=>∃(w0:Option U)(A B c:Int)(L:List L2.T),E=[w0,oZ (.o true [.int A,.int B,.int c]),↥L]/\Bx [.int A,.int B,.int c] (n+4+5*i)/\L.length=i/\∀t∈L,∃m,t=nF m/\fY m) ⟨none,A0,B0,c0,[],rfl,b2.mono ⋯,rfl,by simp⟩ ?_ ?_
 ·rintro i t rest E hi ⟨w0,A,B,c',L,rfl,hb,hL,hU⟩ KK;obtain⟨jj,rfl⟩:=nL hi;refine⟨LV _,_,_,_,rfl,hb,⋯,λm ys om b' nl'=>?_⟩;obtain⟨A',B',yn,rfl,_⟩:=id b';refine⟨by show L.length<9000;lia,KK _ ⟨_,A',B',yn,L++[nF m],rfl,b'.mono ⋯,by rw[LG,hL];rfl,λt ht=>?_⟩⟩;obtain ht|ht:=MB.mp ht
  ·exact hU t ht
  ·rw[LY]at ht;exact⟨m,ht,om⟩
 rintro E ⟨w0,A,B,cc,L,rfl,hb,hL,hU⟩;rw[ZI]at hL hb;have hLc:(L.length:Int)=c:=⋯
 replace hb:=hb.mono (show n+4+5*(c.toNat:Int)<=n+50 by lia);refine⟨uR hU,?_⟩;show if decide (way<2)=true then _ else _
 by_cases hw:way<2
 ·rw[oY hw,oV rfl];obtain⟨ms,rfl,om⟩:=Ew hU;rw[LJ]at hLc;exact⟨nJ ms,q ms _ om (by intro z;rw[z]at hLc;simp at hLc;lia) ⋯ (hb.mono ⋯) rfl⟩
 ·rw[oX hw,oW ∅];refine⟨rfl,?_⟩;refine cW (λi E=>∃(w0:Option U)(M:List L2.T),E=[w0,↥M]/\M.length=i/\∀t∈M,∃m,t=nF m/\fY m) ⟨none,[],rfl,rfl,by simp⟩ ?_ ?_
  ·rintro i t rest E hi ⟨w0,M,rfl,hM,hV⟩ KK;obtain⟨m,rfl,om⟩:=hU t (LD hi);have XO:=(KZ.mp hi).1;refine⟨m,rfl,om,by show M.length<9000;lia,KK _ ⟨_,M++[nF (GV m)],rfl,by rw[LG,hM];rfl,λt ht=>?_⟩⟩;obtain ht|ht:=MB.mp ht
   ·exact hV t ht
   ·rw[LY]at ht;exact⟨GV m,ht,om.back⟩
  rintro E ⟨w0,M,rfl,hM,hV⟩;refine⟨uR hV,by show L.length+M.length<=9000;lia,?_⟩;have hW:∀t∈L++M,∃m,t=nF m/\fY m:=λt ht=>(MB.mp ht).elim (hU t) (hV t);have hN:(L++M).length<=10:=by rw[LG];have:=c5 hw;lia
  have hN1:1<=(L++M).length:=by rw[LG];lia
  generalize L++M=W at hW hN hN1⊢;refine⟨LV _,?_⟩;show if(way==3)=true then _ else _
  by_cases h3:way=3
  ·rw[oV (by simpa using h3)];obtain⟨ms,rfl,om⟩:=Ew hW;rw[LJ]at hN hN1;exact⟨nJ ms,q ms _ om (by intro z;rw[z]at hN1;simp at hN1) hN (hb.mono ⋯) rfl⟩
  ·rw[oW (by simpa using h3)];refine⟨⟨⋯,⋯⟩,rfl,?_⟩;refine cW (λi E=>∃(w0:Option U)(A B c:Int)(Lf R:List L2.T),E=[w0,oZ (.o true Lf),oZ (.o true [.int A,.int B,.int c]),↥R]/\Bx [.int A,.int B,.int c] (n+50+i)/\Lf.length+i=W.length/\R.length=i/\(∀t∈Lf,∃m,t=nF m/\fY m)/\∀t∈R,∃m,t=nF m/\fY m) ⟨none,A,B,cc,W,[],rfl,by simpa using hb,rfl,rfl,hW,by simp⟩ ?_ ?_
   ·rintro i t rest E hi ⟨w0,A,B,c',Lf,R,rfl,hb,hl,hR,hU,hV⟩ KK;obtain⟨jj,rfl⟩:=nL hi;rw[MR]at jj;refine⟨_,(Lf.length:Int),_,rfl,hb,⋯,⋯,⋯,λr ys r0 r1 b'=>?_⟩;obtain⟨A',B',yn,rfl,_⟩:=id b';have hr:r.toNat<Lf.length:=⋯
    refine⟨r0,by show Lf.length<=9000;lia,?_⟩;show o1 (Lf[r.toNat]?) _;rw[LA hr];have he:(Lf.eraseIdx r.toNat).length+1=Lf.length:=by rw[List.length_eraseIdx_of_lt hr];lia
    refine⟨by show R.length<9000;lia,KK _ ⟨_,A',B',yn,Lf.eraseIdx r.toNat,R++[Lf[r.toNat]],rfl,b'.mono ⋯,⋯,by rw[LG,hR];rfl,λt ht=>hU t (List.mem_of_mem_eraseIdx ht),λt ht=>?_⟩⟩;obtain ht|ht:=MB.mp ht
    ·exact hV t ht
    ·rw[LY]at ht;rw[ht];exact hU _ (NM hr)
   rintro E ⟨w0,A,B,c',Lf,R,rfl,hb,hl,hR,hU,hV⟩;rw[MR,ZI]at hl hR hb;obtain rfl:Lf=[]:=ND ⋯;refine⟨uR hV,?_⟩;obtain⟨ms,rfl,om⟩:=Ew hV;rw[LJ]at hR;exact⟨nJ ms,q ms _ om (by intro z;rw[z]at hR;simp at hR;lia) ⋯ (hb.mono ⋯) rfl⟩
def Kj:dG:=λas Q=>∃(xs:List L2.T)(n k:Int),as=[.b xs,.v (.int k)]/\Bx xs n/\n<=700000/\1<=k/\k<=9/\∀a b ms ys,Pm a b ms->Bx ys (n+80)->Q (.v (.tup [cF a b (cN a b ms),.lst (ms.map nF)])) ys
abbrev wY:SV:=top 87
theorem tF:aF ["_law_box_here","_law_most","_law_start","_law_found"] oM (aC wY):=dH
theorem Py(F:cI K "_law_drawn" "_law_drawn" wY f fd)(TX:Txt mg)(VR: ~~~oU)(XZ: ~~~pH)(XB: ~~~mT):(~~~aS) cJ 6 f fd oM (tU K Kj):=by
 refine F.okL tF ?len (λWR A outer s H E hr=>(aB (Il (i:=2) tF.nd rfl (MS rfl) (aN (fc (aN (fc (aU g8 (d6 VR hr ⋯ rfl (fc (fv 0) (fc aA bQ))) aA) (fc aA bQ))) (fc (aN (fc (aU g8 (d6 VR hr ⋯ rfl (fc (fv 0) (fc aA bQ))) aA) (fc aA bQ))) bQ))))
 (aB (Il (i:=3) tF.nd rfl (MS rfl) (d6 XZ hr ⋯ rfl (fc (fv 0) (fc (fv 1) bQ))))
 (aE (aG (Aq (fc (uN XB hr ⋯ rfl (fc (fv 2) (fc (fv 3) bQ))) (fc (fv 3) bQ)))))))) ?rd
 case len=>rintro as Q ⟨xs,n,k,rfl,_⟩;rfl
 case rd=>
  rintro as Q ⟨xs,n,k,rfl,hB,hn,vz,hk9,q⟩;refine⟨xs,9,n,rfl,hB,⋯,∅,∅,λsx y1 s0 s1 b1=>?_⟩;refine⟨y1,9,n+1,rfl,b1,⋯,∅,∅,λsy y2 t0 t1 b2=>?_⟩;have nvs:=Gx s0 s1 t0 t1;refine⟨y2,n+1+1,k,rfl,b2,⋯,vz,hk9,λms ys om nm lm b3 nl=>?_⟩;obtain⟨A,B,C,rfl,_⟩:=id b3;refine⟨_,_,ms,rfl,nvs,om,⋯,?_⟩;exact q _ _ ms _ ⟨nvs,om,nm,⋯⟩ (b3.mono ⋯)
structure Fw(p:Fr):Prop where
 n:bI p
 s:sz p<=14
 pos:0<val p
theorem Io{n d : Int}(h1 : 1 <= n)(h2 : n <= 9999)(h3 : 1 <= d)(h4 : d <= 999): Fw (iV n d) /\ d ≠ 0 /\ d.natAbs < 2 ^ 8000 := by
  have nz : d ≠ 0 := by lia
  have b : ∀{z : Int}, z.natAbs <= 9999 -> z.natAbs < 2 ^ 14 := λh => ML h ∅;refine⟨⟨fW nz, mE nz (b ⋯) (b ⋯) ∅, ?_⟩, nz, sM (e := 14) (b ⋯) ∅⟩;rw[fE nz];have hn : (0 : Rat) < (n : Rat) := by exact_mod_cast (show(0 : Int) < n by lia)
  have hd : (0 : Rat) < (d : Rat) := by exact_mod_cast (show(0 : Int) < d by lia)
  exact bS hd (by
      have : (n : Rat) / (d : Rat) * (d : Rat) = n := by grind
      rw[this]; exact hn)
def Xk:dG:=λas Q=>∃(xs:List L2.T)(n:Int),as=[.b xs]/\Bx xs n/\n<=900000/\∀p ys,Fw p->Bx ys (n+5)->bM ys=true->Q (.v (fr p)) ys
abbrev yL(P w K mg base):=(~~~Fn) 2 "_law_width" ["_law_box_here"] (aI K Xk)
abbrev w6:SV:=top 88
theorem tG:aF ["_law_box_here","_law_way","_law_bottom"] ["_law_box_here"] (aC w6):=dH
theorem Qb(F:cI K "_law_width" "_law_width" w6 f fd)(TX:Txt mg)(VR: ~~~oU)(WO: ~~~mS):(~~~aS) cJ 2 f fd ["_law_box_here"] (aI K Xk):=by
 refine F.okU tG (λhr=>(aB (fS 1 tG.nd (fB VR (f2 (fv 0) aA))) (aB (b8 (eQ rfl hr (fv 1) aA (aV _)) (aB (fS 2 tG.nd (aU cD aA (fB VR (f2 (fv 0) aA)))) (aE (aG (fK WO (f2 (aU cD aA (fB VR (f2 (fv 0) (S5 rfl rfl TX.n_min (f2 (aO aW aA (fv 2)) aA))))) (fv 2)))))) bH) (aB (b8 (eQ rfl hr (fv 1) aA (aV _)) (aE (aG (aN (f2 (aU cD aA (fB VR (f2 (fv 0) aA))) aA)))) bH) (aE (aG (fK WO (f2 (aU cD aA (fB VR (f2 (fv 0) (fX (c8 (f2 aA aA)) (fB VR (f2 (fv 0) aA)))))) (fX (c8 (f4 aA aA aA aA)) (fB VR (f2 (fv 0) aA))))))))))) ?_;rintro as Q ⟨xs,n,rfl,hB,hn,q⟩;refine⟨xs,8,n,rfl,hB,⋯,∅,∅,λway y1 w0 w1 b1=>?_⟩;obtain⟨A,B,C,rfl,_⟩:=id b1;refine⟨LV _,?_⟩;show if(way==0)=true then _ else _
 by_cases h0:way=0
 ·rw[oV (by simpa using h0)];refine⟨_,995,n+1,rfl,b1,⋯,∅,∅,λbo y2 o0 o1' b2=>?_⟩;obtain⟨A,B,C,rfl,_⟩:=id b2;refine⟨Bg ⋯,?_⟩;refine⟨_,_,n+1+1,rfl,b2,⋯,?_,?_,λr ys r0 r1 b3=>?_⟩
  ·show 1<=if(9999:Int)<20*(5+bo)then(9999:Int)else 20*(5+bo)
   split<;>lia
  ·show(if(9999:Int)<20*(5+bo)then(9999:Int)else 20*(5+bo))<2^200
   split<;>lia
  replace r1:r<if(9999:Int)<20*(5+bo)then(9999:Int)else 20*(5+bo):=r1;have r2:r<9999:=by revert r1;split<;>lia
  obtain⟨A,B,C,rfl,_⟩:=id b3;obtain⟨f,nz,z8⟩:=Io (n:=1+r) (d:=5+bo) ⋯ ⋯ ⋯ ⋯;exact⟨_,_,rfl,nz,z8,rfl,q _ _ f (b3.mono ⋯) rfl⟩
 ·rw[oW (by simpa using h0)];refine⟨LV _,?_⟩;show if(way==1)=true then _ else _
  by_cases h1:way=1
  ·rw[oV (by simpa using h1)];refine⟨_,26,n+1,rfl,b1,⋯,∅,∅,λr y2 r0 r1 b2=>?_⟩;obtain⟨A,B,C,rfl,_⟩:=id b2;obtain⟨f,_,_⟩:=Io (n:=25+r) (d:=1) ⋯ ⋯ ∅ ∅;refine⟨rfl,q (25+r,1) _ ⟨aQ _,?_,?_⟩ (b2.mono ⋯) rfl⟩
   ·exact oP (e:=14) (ML (show(25+r).natAbs<=50 by lia) ∅) (show(1:Int).natAbs<2^14 by decide) ∅
   ·rw[iJ];exact_mod_cast (show 0<25+r by lia)
  ·rw[oW (by simpa using h1)];refine⟨_,2,n+1,rfl,b1,⋯,∅,∅,λpk y2 p0 p1 b2=>?_⟩;obtain⟨A,B,C,rfl,_⟩:=id b2;obtain⟨m,hm,m1,m2⟩:∃m:Int,eV [L2.T.int 4,.int 24] pk=oZ (.int m)/\1<=m/\m<=24:=by
    have:pk=0\/pk=1:=⋯
    obtain rfl|rfl:=this
    ·exact⟨4,rfl,∅,∅⟩
    ·exact⟨24,rfl,∅,∅⟩
   show o1 (eV [L2.T.int 4,.int 24] pk) _;rw[hm];refine⟨_,m,n+1+1,rfl,b2,⋯,m1,⋯,λr y3 r0 r1 b3=>?_⟩;refine⟨y3,4,n+1+1+1,rfl,b3,⋯,∅,∅,λpk y4 p0 p1 b4=>?_⟩;obtain⟨A,B,C,rfl,_⟩:=id b4;obtain⟨d,hd,d1,d2⟩:∃d:Int,eV [L2.T.int 1,.int 2,.int 3,.int 4] pk=oZ (.int d)/\1<=d/\d<=4:=by
    have:pk=0\/pk=1\/pk=2\/pk=3:=⋯
    obtain rfl|rfl|rfl|rfl:=this
    ·exact⟨1,rfl,∅,∅⟩
    ·exact⟨2,rfl,∅,∅⟩
    ·exact⟨3,rfl,∅,∅⟩
    ·exact⟨4,rfl,∅,∅⟩
   show o1 (eV [L2.T.int 1,.int 2,.int 3,.int 4] pk) _;rw[hd];obtain⟨f,nz,z8⟩:=Io (n:=1+r) (d:=d) ⋯ ⋯ d1 ⋯;exact⟨_,_,rfl,nz,z8,rfl,q _ _ f (b4.mono ⋯) rfl⟩
end
def Wy:dG:=λas Q=>∃(xs:List L2.T)(n:Int),as=[.b xs]/\Bx xs n/\n<=600000/\∀a b ms p(s:Int)ys,Pm a b ms->Fw p->(s=1\/s=2\/s=3)->Bx ys (n+100)->Q (.v (.tup [cF a b (cN a b ms),.lst (ms.map nF),fr p,.int s])) ys
abbrev Cj:SV:=top 89
theorem iQ:aF ["_law_box_here","_law_great","_law_arcs","_law_more","_law_far","_law_steps","_law_found","_law_path"] ["_law_box_here"] (aC Cj):=dH
theorem Ui{P:SR}{w:SX}{K:W.Frag}{mg:Str->Option oA}{base:oE}{f:SN}{fd:TK}(F:cI K "_law_case" "_law_case" Cj f fd)(TX:Txt mg)(VR: ~~~oU)(ZN: ~~~yL)(WX: ~~~lF)(XB: ~~~mT)(ZO:Fn P w K mg base 6 "_law_drawn" oM (tU K Kj)):(~~~aS) cJ 7 f fd ["_law_box_here"] (tU K Wy):=by
 refine F.okL iQ ?len (λWR A outer s H E hr=>(aB (d8 (aN (fc (tO rfl hr (d6 VR hr ⋯ rfl (fc (fv 0) (fc aA bQ))) aA (aV _)) (fc (tO rfl hr (d6 VR hr ⋯ rfl (fc (fv 0) (fc aA bQ))) aA (aV _)) (fc (tO rfl hr (d6 VR hr ⋯ rfl (fc (fv 0) (fc aA bQ))) aA (aV _)) bQ)))) (dA (n:=3) rfl rfl (aM (kC (i:=1) iQ.nd rfl (MS rfl)) (aM (kC (i:=2) iQ.nd rfl (NC rfl)) (aM (kC (i:=3) iQ.nd rfl (MS rfl)) cE)))))
 (aB (gZ (i:=4) (j:=5) rfl iQ.nd rfl rfl ∅ rfl rfl (fc (d6 ZN hr ⋯ rfl (fc (fv 0) bQ)) (fc (aU cD aA (d6 VR hr ⋯ rfl (fc (fv 0) (fc aA bQ)))) bQ)) rfl)
 (aB (b8 (fV (fv 1)) (aB (Au (i:=6) (N':=["_law_turn","_law_box_here","_law_arcs"]) (t:=1) (cap:=[(0,true),(2,false)]) iQ.nd rfl (MS rfl) rfl rfl (bL.of rfl) rfl ∅ (fM rfl TX.n_range (fc (aU cD aA (d6 VR hr ⋯ rfl (fc (fv 0) (fc aA bQ)))) bQ)) (λ_ _ _ _=>(kC (i:=0) (show SK (["_law_turn","_law_box_here","_law_arcs"]:List Str) by decide +kernel) rfl (MS rfl) (NC rfl))) (λ_ _ _ _=>(d6 WX hr ⋯ rfl (fc (fv 1) (fc (fv 2) bQ)))))
 (aE (aG (Aq (fc (uN XB hr ⋯ rfl (fc (aN (fc (aN (fc aA (fc aA bQ))) (fc (aN (fc aA (fc aA bQ))) bQ))) (fc (fv 6) bQ))) (fc (fv 6) (fc (fv 4) (fc aA bQ)))))))) bH)
 (aB (d8 (Eg ZO hr ⋯ rfl (fc (fv 0) (fc aA bQ))) (dA (n:=2) rfl rfl (aM (kC (i:=7) iQ.nd rfl (MS rfl)) (aM (kC (i:=6) iQ.nd rfl (MS rfl)) cE))))
 (aE (aG (Aq (fc (fv 7) (fc (fv 6) (fc (fv 4) (fc (pM (t7 (m9 (K6 i9 (dJ rfl rfl TX.n_len (fc (fv 6) bQ)) aA (aV _)) (lK (fV (fv 3))))) (fv 5) aA) bQ)))))))))))) ?rd
 case len=>rintro as Q ⟨xs,n,rfl,_⟩;rfl
 case rd=>
  rintro as Q ⟨xs,n,rfl,hB,hn,q⟩;refine⟨xs,8,n,rfl,hB,⋯,∅,∅,λgr y1 g0 g1 b1=>?_⟩;refine⟨LV _,?_⟩;refine⟨y1,2,n+1,rfl,b1,⋯,∅,∅,λar y2 a0 a1 b2=>?_⟩;refine⟨LV _,?_⟩;refine⟨y2,8,n+1+1,rfl,b2,⋯,∅,∅,λmo y3 m0 m1 b3=>?_⟩;refine⟨LV _,?_⟩;refine⟨y3,n+1+1+1,rfl,b3,⋯,λp y4 fw b4 nl4=>?_⟩;refine⟨y4,3,n+1+1+1+5,rfl,b4,⋯,∅,∅,λst y5 s0 s1 b5=>?_⟩;obtain⟨A,B,C,rfl,_⟩:=id b5;have ZI:∀m:Nat,(iP 0 m).length=m:=λm=>by simp[iP]
  have hs:1+st=1\/1+st=2\/1+st=3:=⋯
  show if(gr==0)=true then _ else _
  by_cases h0:gr=0
  ·rw[oV (by simpa using h0)];refine⟨_,6,n+1+1+1+5+1,rfl,b5,⋯,∅,∅,λmany y6 v0 v1 b6=>?_⟩;obtain⟨A1,B1,C1,rfl,_⟩:=id b6;refine⟨⟨⋯,⋯⟩,rfl,?_⟩;refine cW (λi E=>∃(w0:Option U)(A B c:Int)(L:List L2.T),E=[w0,oZ (.o true [.int A,.int B,.int c]),⇑(.bl (ar==0)),↥L]/\Bx [.int A,.int B,.int c] (n+10+5*i)/\L.length=i/\∀t∈L,∃m,t=nF m/\fY m) ⟨none,A1,B1,C1,[],rfl,b6.mono ⋯,rfl,by simp⟩ ?_ ?_
   ·rintro i t rest E hi ⟨w0,A,B,c',L,rfl,hb,hL,hU⟩ KK;obtain⟨jj,rfl⟩:=nL hi;refine⟨_,_,_,rfl,hb,⋯,λm ys om b' nl'=>?_⟩;obtain⟨A',B',yn,rfl,_⟩:=id b';refine⟨by show L.length<9000;lia,KK _ ⟨_,A',B',yn,L++[nF m],rfl,b'.mono ⋯,by rw[LG,hL];rfl,λt ht=>?_⟩⟩;obtain ht|ht:=MB.mp ht
    ·exact hU t ht
    ·rw[LY]at ht;exact⟨m,ht,om⟩
   rintro E ⟨w0,A,B,cc,L,rfl,hb,hL,hU⟩;rw[ZI]at hL hb;refine⟨uR hU,?_⟩;obtain⟨ms,rfl,om⟩:=Ew hU;rw[LJ]at hL;have st0:St (0,1) (0,1):=Gx (s:=4) (t:=4) ∅ ∅ ∅ ∅;refine⟨_,_,ms,rfl,st0,om,⋯,?_⟩;exact q _ _ ms p 1 _ ⟨st0,om,by intro z;rw[z]at hL;simp at hL;lia,⋯⟩ fw (.inl rfl) (hb.mono ⋯)
  ·rw[oW (by simpa using h0)];refine⟨_,n+1+1+1+5+1,4,rfl,b5,⋯,∅,∅,λa b ms y6 pm b6=>?_⟩;obtain⟨A1,B1,C1,rfl,_⟩:=id b6;show if decide ((((ms.map nF).length:Nat):Int)<3)=true then _ else _;have fin:∀s:Int,s=1\/s=2\/s=3->Q (.v (.tup [cF a b (cN a b ms),.lst (ms.map nF),fr p,.int s])) [.int A1,.int B1,.int C1]:=λs hs=>q _ _ ms p s _ pm fw hs (b6.mono ⋯)
   by_cases c:(((ms.map nF).length:Nat):Int)<3
   ·rw[oV (oY c)];exact fin _ hs
   ·rw[oW (by rw[oX c];decide)];show if(mo==0)=true then _ else _
    by_cases c2:(mo==0)=true
    ·rw[oV c2];exact fin _ hs
    ·rw[oW c2];exact fin 1 (.inl rfl)
section
variable{P:SR}{w:SX}{K:W.Frag}{mg:Str->Option oA}{base:oE}
theorem kG:∀(ms:List Mv)(a b:Fr)(i:Nat)(m:Mv),ms[i]?=oZ m->(cN a b ms)[i]?=oZ (rP (cO a ((cN a b ms).take i)) (cP b ((cN a b ms).take i)) m)
 |[],_,_,_,_,h=>by simp at h
 |n::ms,a,b,0,m,h=>by cases h;rfl
 |n::ms,a,b,i+1,m,h=>kG ms _ _ i m (by simpa using h)
theorem zH:∀(ms:List Mv)(a b:Fr)(B:Nat),Nv a b 14->Dv B a->Dv B b->B+780*ms.length+20<2^14->(∀m∈ms,fY m)->jO 14 a b (cN a b ms)
 |[],_,_,_,_,_,_,_,_=>trivial
 |m::ms,a,b,B,nv,da,db,hB,ok=>by
  rw[LO]at hB;obtain⟨o,dx,dy⟩:=V4 nv da db ⋯ (ok m LK);exact⟨o,zH ms _ _ (B+780) (qA.nv o) dx dy ⋯ λn hn=>ok n (LC _ hn)⟩
theorem rH(k:e<=f):∀{ps:List Pc}{a b:Fr},jO e a b ps->jO f a b ps
 |[],_,_,_=>trivial
 |_::_,_,_,h=>⟨qA.up k h.1,rH k h.2⟩
theorem Pm.chain(h:Pm a b ms):jO 14 a b (cN a b ms):=
 zH ms a b 260 (h.st.1.up ∅) h.st.2.1 h.st.2.2 (by have:=h.len;lia) h.ok
def px(a b:Fr)(ms:List Mv)(i:Nat):Fr:=cO a ((cN a b ms).take i)
def py(a b:Fr)(ms:List Mv)(i:Nat):Fr:=cP b ((cN a b ms).take i)
theorem Pm.nv(h:Pm a b ms)(i:Nat):Nv (px a b ms i) (py a b ms i) 14:=mY i (h.st.1.up ∅) h.chain
theorem pA(na:bI a)(nx:bI x):aR (bJ a x) a=x:=b9 (dM (c7 na nx) na) nx (by rw[bW (c7 na nx) na,bO na nx];grind)
theorem sub_sub'(na:bI a)(nx:bI x):aR a (aR a x)=x:=b9 (dM na (dM na nx)) nx (by rw[bW na (dM na nx),bW na nx];grind)
theorem eS(nx:bI x)(nm:bI m)(h:0<val m):bZ (aJ x m) m=x:=by
 have m1:m.1≠0:=by have:=(mG nm).1 h;lia
 refine b9 (kZ (aP nx nm) m1) nx ?_;rw[k9 (aP nx nm) nm m1,aZ nx nm];have:val m≠0:=by grind
 grind
theorem rN(u:cA x y 4)(nm:bI m)(sm:sz m<=4)(h:0<val m):vA (aJ x m) (aJ y m) m:=by
 refine⟨(jT u.nv nm sm).up ∅,nm,h,?_⟩;rw[aZ u.nv.x nm,aZ u.nv.y nm];have:=u.one;have e:val x*val m*(val x*val m)+val y*val m*(val y*val m)=(val x*val x+val y*val y)*(val m*val m):=by grind
 rw[e,this];grind
theorem fY.len(h:fY m):bI (uA m)/\sz (uA m)<=4/\0<val (uA m):=by
 cases m with
 |side x y m=>exact⟨h.2.1,h.2.2.1,h.2.2.2.1⟩
 |arc x y u v r l=>exact⟨h.2.2.2.1,MV h.2.2.2.2.1 ∅,h.2.2.2.2.2.1⟩
theorem fY.bu(h:fY m):cA (bU m).1 (bU m).2 4:=by
 cases m with
 |side x y m=>exact h.1
 |arc x y u v r l=>
  cases l with
  |true=>exact h.1.left
  |false=>
   have:=h.1;refine⟨⟨this.nv.y,e7 this.nv.x,this.nv.sy,by show sz (aK x)<=4;rw[oQ];exact this.nv.sx⟩,?_⟩;show val y*val y+val (aK x)*val (aK x)=1;rw[bR this.nv.x];have:=this.one;grind
theorem fY.eu(h:fY m):cA (eU m).1 (eU m).2 4:=by
 cases m with
 |side x y m=>exact h.1
 |arc x y u v r l=>
  have u':=h.2.1;cases l with
  |true=>exact u'.left
  |false=>
   refine⟨⟨u'.nv.y,e7 u'.nv.x,u'.nv.sy,by show sz (aK u)<=4;rw[oQ];exact u'.nv.sx⟩,?_⟩;show val v*val v+val (aK u)*val (aK u)=1;rw[bR u'.nv.x];have:=u'.one;grind
theorem vE(h:Nv a b e)(ok:fY (.arc x y u v r l)):
  aR a (aR a (aJ x r))=aJ x r/\aR b (aR b (aJ y r))=aJ y r/\aR (bJ (aR a (aJ x r)) (aJ u r)) (aR a (aJ x r))=aJ u r/\aR (bJ (aR b (aJ y r)) (aJ v r)) (aR b (aJ y r))=aJ v r:=by
 obtain⟨o1,o2,_,nr,_⟩:=ok;have nx:=aP o1.nv.x nr;have ny:=aP o1.nv.y nr;have nu:=aP o2.nv.x nr;have nw:=aP o2.nv.y nr;exact⟨sub_sub' h.x nx,sub_sub' h.y ny,pA (dM h.x nx) nu,pA (dM h.y ny) nw⟩
theorem CT(h:Nv a b e)(ok:fY m):Ln a b (uA m) (rP a b m):=by
 cases m with
 |side x y m=>
  obtain⟨n1,n2,n3⟩:bI m/\sz m<=4/\0<val m:=ok.len;have nx:=aP ok.1.nv.x n1;have ny:=aP ok.1.nv.y n1;show vA (aR (bJ a (aJ x m)) a) (aR (bJ b (aJ y m)) b) m;rw[pA h.x nx,pA h.y ny];exact rN ok.1 n1 n2 n3
 |arc x y u v r l=>
  obtain⟨n1,n2,n3⟩:bI r/\sz r<=4/\0<val r:=ok.len;obtain⟨e1,e2,e3,e4⟩:=vE h ok;show vA (aR a (aR a (aJ x r))) (aR b (aR b (aJ y r))) r/\vA (aR (bJ (aR a (aJ x r)) (aJ u r)) (aR a (aJ x r))) (aR (bJ (aR b (aJ y r)) (aJ v r)) (aR b (aJ y r))) r;rw[e1,e2,e3,e4];exact⟨rN ok.1 n1 n2 n3,rN ok.2.1 n1 n2 n3⟩
theorem Ta(h:Nv a b e)(ok:fY m):hB a b (uA m) (rP a b m)=bU m/\hE a b (uA m) (rP a b m)=eU m:=by
 cases m with
 |side x y m=>
  obtain⟨n1,n2,n3⟩:bI m/\sz m<=4/\0<val m:=ok.len;have nx:=aP ok.1.nv.x n1;have ny:=aP ok.1.nv.y n1;have e:(bZ (aR (bJ a (aJ x m)) a) m,bZ (aR (bJ b (aJ y m)) b) m)=(x,y):=by
   rw[pA h.x nx,pA h.y ny];exact Prod.ext (eS ok.1.nv.x n1 n3) (eS ok.1.nv.y n1 n3)
  exact⟨e,e⟩
 |arc x y u v r l=>
  obtain⟨n1,n2,n3⟩:bI r/\sz r<=4/\0<val r:=ok.len;obtain⟨e1,e2,e3,e4⟩:=vE h ok;constructor
  ·show Yi l (bZ (aR a (aR a (aJ x r))) r) (bZ (aR b (aR b (aJ y r))) r)=Yi l x y;rw[e1,e2];rw[eS ok.1.nv.x n1 n3,eS ok.1.nv.y n1 n3]
  ·show Yi l (bZ (aR (bJ (aR a (aJ x r)) (aJ u r)) (aR a (aJ x r))) r) (bZ (aR (bJ (aR b (aJ y r)) (aJ v r)) (aR b (aJ y r))) r)=Yi l u v;rw[e3,e4];rw[eS ok.2.1.nv.x n1 n3,eS ok.2.1.nv.y n1 n3]
theorem Pm.at_(h:Pm a b ms)(hi:ms[i]?=oZ m):Rm a b (cN a b ms) i (rP (px a b ms i) (py a b ms i) m) (uA m):=
 ⟨kG ms a b i m hi,h.st.1.up ∅,rH ∅ h.chain,CT (h.nv i) (h.ok m (LD hi))⟩
theorem Pm.head(h:Pm a b ms)(hi:ms[i]?=oZ m):Td (cO a ((cN a b ms).take i)) (cP b ((cN a b ms).take i)) (uA m) (rP (px a b ms i) (py a b ms i) m) = .tup [bE (bU m),bE (eU m)]:=by
 rw[Ay];have:=Ta (h.nv i) (h.ok m (LD hi));unfold px py at this⊢;rw[this.1,this.2]
theorem uS(hi:ms[i]?=oZ m):px a b ms (i+1)=(rP (px a b ms i) (py a b ms i) m).px/\py a b ms (i+1)=(rP (px a b ms i) (py a b ms i) m).py:=
 ⟨vV (kG ms a b i m hi),vW (kG ms a b i m hi)⟩
def Kf(i:Nat)(bx bY ex eY rx ry:Fr):L2.T:=.tup [.str "strip",.int (i:Int),.tup [vc (aR bx rx) (aR bY ry),vc (aR ex rx) (aR eY ry),vc (bJ ex rx) (bJ eY ry),vc (bJ bx rx) (bJ bY ry)],.str "r-l-"]
def Xh:dG:=λas Q=>∃(a b:Fr)(ms:List Mv)(i:Nat)(x y m p:Fr),as=[.v (cF a b (cN a b ms)),.v (.int (i:Int)),.v (fr p)]/\Pm a b ms/\ms[i]?=oZ (.side x y m)/\Fw p/\
 Q (.v (Kf i (px a b ms i) (py a b ms i) (px a b ms (i+1)) (py a b ms (i+1)) (aJ (aK y) p) (aJ x p))) []
abbrev pI(P w K mg base):=(~~~Fn) 9 "side_strip" ["path","number","far"] (aI K Xh)
abbrev lW:SV:=top 51
theorem iI:aF ["path","number","far","reach","outline","begin","to"] ["path","number","far"] (aC lW):=dH
theorem x9(F:cI K "side_strip" "side_strip" lW f fd)(TX:Txt mg)(WC: ~~~iK)(VQ: ~~~fL)(WD: ~~~kP)(VT: ~~~gV)(VX: ~~~iM)(WG: ~~~kO)(WS: ~~~rA):(~~~aS) cJ 9 f fd ["path","number","far"] (aI K Xh):=by
 refine F.okU iI (λhr=>(aB (gZ (i:=5) (j:=6) rfl iI.nd rfl rfl ∅ rfl rfl (f2 (fK WC (f2 (fv 0) (fv 1))) (fK VQ (f1 (fX (fQ 0) (fv 1))))) rfl) (aB (fS 3 iI.nd (fK WD (f2 (fK VT (f1 (fX (fK VX (f2 (fv 0) (fv 1))) aA))) (fv 2)))) (aB (fS 4 iI.nd (aN (f4 (fK WG (f2 (fv 5) (fv 3))) (fK WG (f2 (fv 6) (fv 3))) (fK WS (f2 (fv 6) (fv 3))) (fK WS (f2 (fv 5) (fv 3)))))) (aE (aG (aN (f4 bA (fv 1) (fv 4) bA)))))))) ?_;rintro as Q ⟨a,b,ms,i,x,y,m,p,rfl,h,hi,fw,q⟩;have hl:=(KZ.mp hi).1;have hp:=kG ms a b i _ hi;have pa:=h.at_ hi;have ok:=h.ok _ (LD hi);have hd:=h.head hi;have n0:=h.nv i;have n1:=h.nv (i+1);obtain⟨ex,ey⟩:=uS (a:=a) (b:=b) hi;refine⟨a,b,_,i,rfl,by rw[fA];exact hl,?_⟩;show o1 (eV ((cN a b ms).map jD) (i:Int)) _;rw[nK hp];refine⟨_,rfl,?_⟩;refine⟨a,b,_,i,_,_,rfl,pa,?_⟩;rw[hd];refine⟨x,y,rfl,?_⟩;have us:=ok.1.left;refine⟨_,_,p,4,rfl,us.nv,fw.n,by have:=fw.s;lia,?_⟩;have nr:=jT us.nv fw.n fw.s;have en:Nv (rP (px a b ms i) (py a b ms i) (.side x y m)).px (rP (px a b ms i) (py a b ms i) (.side x y m)).py 14:=by rw[<-ex,<-ey];exact n1
 rw[ex,ey]at q;exact⟨_,_,_,_,14,4+14,rfl,n0,nr,∅,_,_,_,_,14,4+14,rfl,en,nr,∅,_,_,_,_,14,4+14,rfl,en,nr,∅,_,_,_,_,14,4+14,rfl,n0,nr,∅,rfl,q⟩
theorem AS{s:Int}(h:cA x y 4)(k:cA p q 4)(hs:s=1\/s=2\/s=3)(r:Dl p q m x y)(r':Dl (aK x) y m' (aK p) q):∀u∈uX x y p q s m m',Uv 30 u:=by
 intro u hu;obtain hu|hu:=uP hu
 ·obtain rfl|hu:=LH.mp hu
  ·exact⟨_,_,rfl,h.up ∅⟩
  ·exact(Nt k hs m x y h r u hu).up ∅
 ·obtain⟨z,hz,rfl⟩:=NO.mp hu;have hz:=QD.mp hz;have uz:Uv 30 z:=by
   obtain rfl|hz:=LH.mp hz
   ·exact⟨_,_,rfl,k.flip.up ∅⟩
   ·exact(Nt h.flip hs m' (aK p) q k.flip r' z hz).up ∅
  obtain⟨a,b,rfl,n⟩:=uz;exact⟨aK a,b,rfl,n.flip⟩
def vX(a b:Fr×Fr):Rat:=val a.1*val b.2-val a.2*val b.1
def vD(a b:Fr×Fr):Rat:=val a.1*val b.1+val a.2*val b.2
structure Us(u w:Fr×Fr)(us:List (Fr×Fr)):Prop where
 n2:2<=us.length
 n30:us.length<=30
 uv:∀a∈us,cA a.1 a.2 30
 hd:us[0]?=oZ u
 ls:us[us.length-1]?=oZ w
 nb:∀i a b,us[i]?=oZ a->us[i+1]?=oZ b->0<vX a b/\0<=vD a b
theorem Df(h:bE a=bE b):a=b:=by
 have h:=congrArg cx h;have e:∀c:Fr×Fr,cx (bE c)=c:=λc=>tM c.1 c.2
 rwa [e,e]at h
theorem Z0(h:∀t∈L,Uv e t):∃us:List (Fr×Fr),L=us.map bE/\∀a∈us,cA a.1 a.2 e:=by
 induction L with
 |nil=>exact⟨[],rfl,by simp⟩
 |cons t L ih=>
  obtain⟨us,e1,h1⟩:=ih λt ht=>h t (LC _ ht);obtain⟨a,b,rfl,n⟩:=h t LK;refine⟨(a,b)::us,by rw[e1];rfl,λc hc=>?_⟩;obtain rfl|hc:=LH.mp hc
  ·exact n
  ·exact h1 c hc
theorem xM{s:Int}(h:cA x y 4)(k:cA p q 4)(ne:¬(p=x/\q=y))(hs:s=1\/s=2\/s=3)(hm:m<=3)(hm':m'<=3)(r:Dl p q m x y)(r':Dl (aK x) y m' (aK p) q):
  ∃us,uX x y p q s m m'=us.map bE/\Us (x,y) (p,q) us:=by
 have E:cU x y p q 4 4 s m m':=⟨h,k,∅,∅,∅,hs,hm,hm',r,r'⟩;obtain⟨l1,l2⟩:=V2 hs hm hm' ne;obtain⟨us,e,uv⟩:=Z0 (AS h k hs r r');have at_:∀{i a},us[i]?=oZ a->(uX x y p q s m m')[i]?=oZ (bE a):=λ{i a}h=>by rw[e,LB,h];rfl
 have el:(uX x y p q s m m').length=us.length:=by rw[e,LJ]
 have bk:∀{i:Nat}{a:Fr×Fr},(uX x y p q s m m')[i]?=oZ (bE a)->us[i]?=oZ a:=λ{i a}h=>by
  rw[e,LB]at h;obtain⟨z,hz,ez⟩:=MH.mp h;rw[hz,Df ez]
 refine⟨us,e,⟨⋯,⋯,uv,?_,?_,?_⟩⟩
 ·obtain⟨L,eL⟩:=E.first;refine bk ?_;rw[eL];rfl
 ·obtain⟨L,eL⟩:=E.last;refine bk ?_;rw[<-el,eL];simp[bE]
 ·intro i a b ha hb;obtain⟨a1,a2,b1,b2,ea,eb,_,_,n1,n2⟩:=E.nbr (at_ ha) (at_ hb);have ea:a=(a1,a2):=Df ea;have eb:b=(b1,b2):=Df eb;rw[ea,eb];exact⟨n1,n2⟩
def xJ(a b:Fr×Fr):Fr×Fr:=(J3 a.1 b.1 (Rh a.1 a.2 b.1 b.2),J3 a.2 b.2 (Rh a.1 a.2 b.1 b.2))
theorem De(h:cA a.1 a.2 30)(k:cA b.1 b.2 30)(d:0<=vD a b):(Rh a.1 a.2 b.1 b.2).1≠0:=by
 obtain⟨u1,u2,u3⟩:=Dd h k;have:0<val (Rh a.1 a.2 b.1 b.2):=by rw[u3];unfold vD at d;grind
 have:=(mG u1).1 this
 lia
theorem J4(h:cA a.1 a.2 30)(k:cA b.1 b.2 30)(d:0<=vD a b):Nv (xJ a b).1 (xJ a b).2 130:=by
 obtain⟨u1,u2,u3⟩:=Dd h k;obtain⟨i1,i2,i3⟩:=Iq u1 (De h k d);exact(pZ (Bj h.nv k.nv) i1).up ⋯
theorem Xn(h:cA a.1 a.2 30)(k:cA b.1 b.2 30)(d:0<=vD a b):val (xJ a b).1*(1+vD a b)=val a.1+val b.1/\val (xJ a b).2*(1+vD a b)=val a.2+val b.2:=by
 obtain⟨u1,u2,u3⟩:=Dd h k;have n0:=De h k d;obtain⟨i1,i2,i3⟩:=Iq u1 n0;have a':=Bj h.nv k.nv;have vn:=AU u1 n0;have e:1+vD a b=val (Rh a.1 a.2 b.1 b.2):=u3.symm;constructor
 ·show val (aJ _ _)*_=_;rw[aZ a'.x i1,i3,bO h.nv.x k.nv.x,e];grind
 ·show val (aJ _ _)*_=_;rw[aZ a'.y i1,i3,bO h.nv.y k.nv.y,e];grind
def Es(a b:Fr×Fr):Rat:=vX a b/(1+vD a b)
theorem Zv(x : 0 < vX a b)(d : 0 <= vD a b): 0 < Es a b := by
  have h1 : 0 < 1 + vD a b := by grind
  have e : Es a b * (1 + vD a b) = vX a b := by
      unfold Es; have : (1 + vD a b) ≠ 0 := by grind
      grind
  exact bS h1 (by rw[e]; exact x)
theorem Xo(h:cA a.1 a.2 30)(k:cA b.1 b.2 30)(d:0<=vD a b):
  (val (xJ a b).1=val a.1-Es a b*val a.2/\val (xJ a b).2=val a.2+Es a b*val a.1)/\(val (xJ a b).1=val b.1+Es a b*val b.2/\val (xJ a b).2=val b.2-Es a b*val b.1):=by
 obtain⟨e1,e2⟩:=Xn h k d;have n:(1+vD a b)≠0:=by grind
 have el:Es a b*(1+vD a b)=vX a b:=by unfold Es;grind
 have o1:=h.one;have o2:=k.one;generalize val (xJ a b).1=t1 at e1⊢;generalize val (xJ a b).2=t2 at e2⊢;generalize Es a b=l at el⊢;have c:∀z w:Rat,(z-w)*(1+vD a b)=0->z=w:=λz w h=>by
  obtain q|q:=Rat.mul_eq_zero.mp h
  ·grind
  ·exact absurd q n
 unfold vX vD at *;refine⟨⟨c _ _ ?_,c _ _ ?_⟩,⟨c _ _ ?_,c _ _ ?_⟩⟩<;>grind
def d0:Fr×Fr:=((0,1),(0,1))
def cy(V:List (Fr×Fr))(k:Nat):Fr×Fr:=V.getD ((k+V.length-2)%V.length) d0
def j8(a o t:Fr×Fr):Rat:=(val o.1-val a.1)*(val t.2-val o.2)-(val o.2-val a.2)*(val t.1-val o.1)
structure Ye(V:List (Fr×Fr)):Prop where
 n3:3<=V.length
 n100:V.length<=100
 nv:∀p∈V,Nv p.1 p.2 600
 ne:∀k,k<V.length->cy V k≠cy V (k+1)
 ps:∀k,k<V.length->k≠1->0<j8 (cy V k) (cy V (k+1)) (cy V (k+2))
 p1:0<=j8 (cy V 1) (cy V 2) (cy V 3)
 or_:4<=V.length\/0<j8 (cy V 1) (cy V 2) (cy V 3)
theorem Wn(h:0<j8 a o t):a≠o/\o≠t:=by
 constructor
 ·intro e;subst e;unfold j8 at h;grind
 ·intro e;subst e;unfold j8 at h;grind
theorem Ml{V:List (Fr×Fr)}(n3:3<=V.length)(n100:V.length<=100)(nv:∀p∈V,Nv p.1 p.2 600)(h:∀k,k<V.length->0<j8 (cy V k) (cy V (k+1)) (cy V (k+2))):Ye V:=
 ⟨n3,n100,nv,λk hk=>(Wn (h k hk)).1,λk hk _=>h k hk,Rat.le_of_lt (h 1 ⋯),.inr (h 1 ⋯)⟩
theorem Qn(na:Nv a.1 a.2 600)(nb:Nv b.1 b.2 600)(nc:Nv c.1 c.2 600)(h:0<j8 a b c):Ye [a,b,c]:=by
 refine Ml (by simp) (by simp) (λp hp=>?_) λk hk=>?_
 ·simp only[LH,NB,or_false]at hp;obtain rfl|rfl|rfl:=hp
  ·exact na
  ·exact nb
  ·exact nc
 ·have:k=0\/k=1\/k=2:=by simp only[LO,MY]at hk;lia
  obtain rfl|rfl|rfl:=this
  ·simp only[cy,LO,MY,OH,OI,OJ,OU,NQ,NR];unfold j8 at *;grind
  ·simp only[cy,LO,MY,OH,OI,OJ,OU,NQ,NR];unfold j8 at *;grind
  ·simp only[cy,LO,MY,OH,OI,OJ,OU,NQ,NR];exact h
theorem Gi(na:Nv a.1 a.2 600)(nb:Nv b.1 b.2 600)(nc:Nv c.1 c.2 600)(nd:Nv d.1 d.2 600)(h1:0<j8 a b c)(h2:0<j8 b c d)(h3:0<j8 c d a)(h4:0<j8 d a b):Ye [a,b,c,d]:=by
 refine Ml (by simp) (by simp) (λp hp=>?_) λk hk=>?_
 ·simp only[LH,NB,or_false]at hp;obtain rfl|rfl|rfl|rfl:=hp
  ·exact na
  ·exact nb
  ·exact nc
  ·exact nd
 ·have:k=0\/k=1\/k=2\/k=3:=by simp only[LO,MY]at hk;lia
  obtain rfl|rfl|rfl|rfl:=this
  ·simp only[cy,LO,MY,OH,OI,OJ,OU,NQ,NR];exact h3
  ·simp only[cy,LO,MY,OH,OI,OJ,OU,NQ,NR];exact h4
  ·simp only[cy,LO,MY,OH,OI,OJ,OU,NQ,NR];exact h1
  ·simp only[cy,LO,MY,OH,OI,OJ,OU,NQ,NR];exact h2
def bp(P:Fr×Fr)(p:Fr)(r:Fr×Fr):Fr×Fr:=(bJ P.1 (aJ r.1 p),bJ P.2 (aJ r.2 p))
theorem jN{P r:Fr×Fr}(nP:Nv P.1 P.2 e)(nr:Nv r.1 r.2 f)(np:bI p):val (bp P p r).1=val P.1+val r.1*val p/\val (bp P p r).2=val P.2+val r.2*val p:=
 ⟨by show val (bJ _ _)=_;rw[bO nP.x (aP nr.x np),aZ nr.x np],by show val (bJ _ _)=_;rw[bO nP.y (aP nr.y np),aZ nr.y np]⟩
theorem vJ{P r:Fr×Fr}(nP:Nv P.1 P.2 e)(nr:Nv r.1 r.2 f)(np:bI p)(sp:sz p<=g):Nv (bp P p r).1 (bp P p r).2 (e+f+g+1):=by
 have m:=pZ nr np;exact(Bj nP m).up ⋯
structure GN(rs:List (Fr×Fr)):Prop where
 n3:3<=rs.length
 n40:rs.length<=40
 nv:∀r∈rs,Nv r.1 r.2 130
 a2:∀i a b,rs[i]?=oZ a->rs[i+1]?=oZ b->0<vX a b
 a3:∀i a b c,rs[i]?=oZ a->rs[i+1]?=oZ b->rs[i+2]?=oZ c->0<j8 a b c
 en:∀a b,rs[0]?=oZ a->rs[rs.length-1]?=oZ b->0<=vX a b
theorem Zb{P:Fr×Fr}{rs:List (Fr×Fr)}(nP:Nv P.1 P.2 14)(fw:Fw p)(F:GN rs):Ye (P::rs.map (bp P p)):=by
 have l3:=F.n3;have l40:=F.n40;have p0:=fw.pos;have len:(P::rs.map (bp P p)).length=rs.length+1:=by simp
 have at_:∀j,j<rs.length->∃r,rs[j]?=oZ r/\(P::rs.map (bp P p)).getD (j+1) d0=bp P p r/\Nv r.1 r.2 130:=λj hj=>by
  refine⟨rs[j],LA hj,?_,F.nv _ (NM hj)⟩;rw[MC,NV,LB,LA hj];rfl
 have z0:(P::rs.map (bp P p)).getD 0 d0=P:=rfl;have iu:∀k j,(k+(rs.length+1)-2)%(rs.length+1)=j->cy (P::rs.map (bp P p)) k=(P::rs.map (bp P p)).getD j d0:=λk j h=>by unfold cy;rw[len,h]
 have md:∀{k j:Nat},j<rs.length+1->(k+(rs.length+1)-2=j\/k+(rs.length+1)-2=j+(rs.length+1))->(k+(rs.length+1)-2)%(rs.length+1)=j:=λ{k j}h1 h2=>by
  obtain h2|h2:=h2
  ·rw[h2];exact QF h1
  ·rw[h2,Nat.add_mod_right];exact QF h1
 have sPb:∀{a b:Fr×Fr},Nv a.1 a.2 130->Nv b.1 b.2 130->j8 P (bp P p a) (bp P p b)=vX a b*(val p*val p):=λ{a b}ha hb=>by
  obtain⟨a1,a2⟩:=jN nP ha fw.n;obtain⟨b1,b2⟩:=jN nP hb fw.n;unfold j8 vX;rw[a1,a2,b1,b2];grind
 have pp:0<val p*val p:=Rat.mul_pos p0 p0;have main:∀k,k<rs.length+1->(k≠1->0<j8 (cy (P::rs.map (bp P p)) k) (cy (P::rs.map (bp P p)) (k+1)) (cy (P::rs.map (bp P p)) (k+2)))/\(k=1->0<=j8 (cy (P::rs.map (bp P p)) k) (cy (P::rs.map (bp P p)) (k+1)) (cy (P::rs.map (bp P p)) (k+2))/\cy (P::rs.map (bp P p)) k≠cy (P::rs.map (bp P p)) (k+1)):=λk hk=>by
  obtain c|c:=MN k 3
  ·have:k=0\/k=1\/k=2:=⋯
   obtain rfl|rfl|rfl:=this
   ·refine⟨λ_=>?_,λz=>absurd z ∅⟩;obtain⟨a,a1,a2,a3⟩:=at_ (rs.length-2) ⋯;obtain⟨b,b1,b2,b3⟩:=at_ (rs.length-1) ⋯;rw[iu 0 (rs.length-2+1) (md ⋯ (.inl ⋯)),iu (0+1) (rs.length-1+1) (md ⋯ (.inl ⋯)),iu (0+2) 0 (md ⋯ (.inr ⋯)),z0,a2,b2];have e:j8 (bp P p a) (bp P p b) P=j8 P (bp P p a) (bp P p b):=by unfold j8;grind
    rw[e,sPb a3 b3];exact Rat.mul_pos (F.a2 _ a b a1 (by rw[show rs.length-2+1=rs.length-1 by lia];exact b1)) pp
   ·refine⟨λz=>absurd rfl z,λ_=>?_⟩;obtain⟨a,a1,a2,a3⟩:=at_ 0 ⋯;obtain⟨b,b1,b2,b3⟩:=at_ (rs.length-1) ⋯;obtain⟨b',qi,zp,b3'⟩:=at_ (rs.length-2) ⋯;rw[iu 1 (rs.length-1+1) (md ⋯ (.inl ⋯)),iu (1+1) 0 (md ⋯ (.inr ⋯)),iu (1+2) (0+1) (md ⋯ (.inr ⋯)),z0,a2,b2];have e:j8 (bp P p b) P (bp P p a)=j8 P (bp P p a) (bp P p b):=by unfold j8;grind
    rw[e,sPb a3 b3];refine⟨Rat.mul_nonneg (F.en a b a1 b1) (Rat.le_of_lt pp),λz=>?_⟩;have h:=sPb b3' b3;have q:=Rat.mul_pos (F.a2 _ b' b qi (by rw[show rs.length-2+1=rs.length-1 by lia];exact b1)) pp;rw[<-h,z]at q;unfold j8 at q;grind
   ·refine⟨λ_=>?_,λz=>absurd z ∅⟩;obtain⟨a,a1,a2,a3⟩:=at_ 0 ⋯;obtain⟨b,b1,b2,b3⟩:=at_ 1 ⋯;rw[iu 2 0 (md ⋯ (.inr ⋯)),iu (2+1) (0+1) (md ⋯ (.inr ⋯)),iu (2+2) (1+1) (md ⋯ (.inr ⋯)),z0,a2,b2,sPb a3 b3];exact Rat.mul_pos (F.a2 0 a b a1 b1) pp
  ·refine⟨λ_=>?_,λz=>⋯⟩;obtain⟨a,a1,a2,a3⟩:=at_ (k-3) ⋯;obtain⟨b,b1,b2,b3⟩:=at_ (k-3+1) ⋯;obtain⟨d,d1,d2,d3⟩:=at_ (k-3+2) ⋯;rw[iu k (k-3+1) (md ⋯ (.inr ⋯)),iu (k+1) (k-3+1+1) (md ⋯ (.inr ⋯)),iu (k+2) (k-3+2+1) (md ⋯ (.inr ⋯)),a2,b2,d2];obtain⟨a4,a5⟩:=jN nP a3 fw.n;obtain⟨b4,b5⟩:=jN nP b3 fw.n;obtain⟨d4,d5⟩:=jN nP d3 fw.n;have h:=F.a3 _ a b d a1 b1 d1;have e:j8 (bp P p a) (bp P p b) (bp P p d)=j8 a b d*(val p*val p):=by
    unfold j8;rw[a4,a5,b4,b5,d4,d5];grind
   rw[e];exact Rat.mul_pos h pp
 refine⟨by rw[len];lia,by rw[len];lia,λq hq=>?_,λk hk=>?_,λk hk k1=>(main k (by rw[len]at hk;exact hk)).1 k1,((main 1 ⋯).2 rfl).1,.inl (by rw[len];lia)⟩
 ·obtain rfl|hq:=LH.mp hq
  ·exact nP.up ∅
  ·obtain⟨r,hr,rfl⟩:=NO.mp hq;exact(vJ nP (F.nv r hr) fw.n fw.s).up ∅
 ·by_cases c:k=1
  ·exact((main k (by rw[len]at hk;exact hk)).2 c).2
  ·exact(Wn ((main k (by rw[len]at hk;exact hk)).1 c)).1
def gU(us:List (Fr×Fr))(i:Nat):Fr×Fr:=us.getD i d0
def Hh(us:List (Fr×Fr))(i:Nat):Fr×Fr:=xJ (gU us i) (gU us (i+1))
def j6(us:List (Fr×Fr)):List (Fr×Fr):=(NP (us.length-1)).map (Hh us)
def gQ(us:List (Fr×Fr)):List (Fr×Fr):=gU us 0::(j6 us++[gU us (us.length-1)])
def tV(us:List (Fr×Fr))(j:Nat):Fr×Fr:=if j%2=0 then gU us (j/2)else Hh us (j/2)
def zW(us:List (Fr×Fr)):List (Fr×Fr):=(NP (2*us.length-1)).map (tV us)
theorem Us.at_{u:Fr×Fr}{w:Fr×Fr}{us:List (Fr×Fr)}(U:Us u w us){i:Nat}(h:i<us.length):us[i]?=oZ (gU us i)/\cA (gU us i).1 (gU us i).2 30:=by
 have e:us[i]?=oZ (gU us i):=by unfold gU;rw[MC,LA h];rfl
 exact⟨e,U.uv _ (LD e)⟩
theorem Us.g0{u:Fr×Fr}{w:Fr×Fr}{us:List (Fr×Fr)}(U:Us u w us):gU us 0=u/\gU us (us.length-1)=w:=by
 have n2:=U.n2;have h1:=(U.at_ (i:=0) ⋯).1;have h2:=(U.at_ (i:=us.length-1) ⋯).1;rw[U.hd]at h1;rw[U.ls]at h2;exact⟨(Option.some.inj h1).symm,(Option.some.inj h2).symm⟩
theorem Us.step{u:Fr×Fr}{w:Fr×Fr}{us:List (Fr×Fr)}(U:Us u w us){i:Nat}(h:i+1<us.length):0<vX (gU us i) (gU us (i+1))/\0<=vD (gU us i) (gU us (i+1))/\Nv (Hh us i).1 (Hh us i).2 130/\0<Es (gU us i) (gU us (i+1))/\
  (val (Hh us i).1=val (gU us i).1-Es (gU us i) (gU us (i+1))*val (gU us i).2/\val (Hh us i).2=val (gU us i).2+Es (gU us i) (gU us (i+1))*val (gU us i).1)/\
  (val (Hh us i).1=val (gU us (i+1)).1+Es (gU us i) (gU us (i+1))*val (gU us (i+1)).2/\val (Hh us i).2=val (gU us (i+1)).2-Es (gU us i) (gU us (i+1))*val (gU us (i+1)).1):=by
 obtain⟨a1,a2⟩:=U.at_ (i:=i) ⋯;obtain⟨b1,b2⟩:=U.at_ h;obtain⟨x,d⟩:=U.nb i _ _ a1 b1;obtain⟨t1,t2⟩:=Xo a2 b2 d;exact⟨x,d,J4 a2 b2 d,Zv x d,t1,t2⟩
theorem Vq:(gQ us).length=us.length-1+2:=by unfold gQ j6;simp
theorem uT(h:i<us.length-1):(gQ us)[i+1]?=oZ (Hh us i):=by
 unfold gQ j6;rw[NV,LZ (by simp;lia),LB,OF h];rfl
theorem zJ:(gQ us)[us.length-1+1]?=oZ (gU us (us.length-1)):=by
 unfold gQ j6;rw[NV,MI (by simp)];simp
theorem Us.edge{u:Fr×Fr}{w:Fr×Fr}{us:List (Fr×Fr)}(U:Us u w us){i:Nat}(h:i<us.length):∃a b m,(gQ us)[i]?=oZ a/\(gQ us)[i+1]?=oZ b/\0<m/\val b.1-val a.1 = -(m*val (gU us i).2)/\val b.2-val a.2=m*val (gU us i).1/\vD a (gU us i)=1:=by
 have n2:=U.n2;have o:=(U.at_ h).2.one;have first:(gQ us)[0]?=oZ (gU us 0):=rfl;obtain rfl|ip:=PH i
 ·obtain⟨_,_,_,l,⟨p1,p2⟩,_⟩:=U.step (i:=0) ⋯;refine⟨_,_,_,first,uT ⋯,l,?_,?_,?_⟩
  ·rw[p1];grind
  ·rw[p2];grind
  ·unfold vD;exact o
 ·obtain⟨k,rfl⟩:∃k,i=k+1:=⟨i-1,⋯⟩;obtain⟨_,_,_,l0,_,⟨q1,q2⟩⟩:=U.step (i:=k) ⋯;obtain c|c:=MN (k+2) us.length
  ·obtain⟨_,_,_,l1,⟨p1,p2⟩,_⟩:=U.step (i:=k+1) ⋯;refine⟨_,_,Es (gU us k) (gU us (k+1))+Es (gU us (k+1)) (gU us (k+1+1)),uT ⋯,uT ⋯,by grind,?_,?_,?_⟩
   ·rw[p1,q1];grind
   ·rw[p2,q2];grind
   ·unfold vD;rw[q1,q2];grind
  ·have e:k+1=us.length-1:=⋯
   have rl:=zJ (us:=us);rw[<-e]at rl;refine⟨_,_,_,uT ⋯,rl,l0,?_,?_,?_⟩
   ·rw[q1];grind
   ·rw[q2];grind
   ·unfold vD;rw[q1,q2];grind
theorem Us.fan{u:Fr×Fr}{w:Fr×Fr}{us:List (Fr×Fr)}(U:Us u w us)(h:0<=vX u w):GN (gQ us):=by
 have n2:=U.n2;have n30:=U.n30;have len:=Vq (us:=us);obtain⟨g0,gl⟩:=U.g0;refine⟨⋯,⋯,λr hr=>?_,λi a b ha hb=>?_,λi a b c ha hb hc=>?_,λa b ha hb=>?_⟩
 ·obtain rfl|hr:=LH.mp hr
  ·exact(U.at_ ⋯).2.nv.up ∅
  ·obtain hr|hr:=MB.mp hr
   ·obtain⟨i,hi,rfl⟩:=NO.mp hr;have:=OR.mp hi;exact(U.step (i:=i) ⋯).2.2.1
   ·rw[LY.mp hr];exact(U.at_ ⋯).2.nv.up ∅
 ·have hi:=(KZ.mp hb).1;obtain⟨a',b',m,e1,e2,m0,d1,d2,dd⟩:=U.edge (i:=i) ⋯;rw[e1]at ha;rw[e2]at hb;cases ha;cases hb;have e:vX a b=m*vD a (gU us i):=by unfold vX vD;grind
  rw[e,dd];grind
 ·have hi:=(KZ.mp hc).1;obtain⟨a',b',m,e1,e2,m0,d1,d2,_⟩:=U.edge (i:=i) ⋯;obtain⟨b'',c',n,e3,e4,n0,f1,f2,_⟩:=U.edge (i:=i+1) ⋯;rw[e1]at ha;rw[e2]at hb;rw[e4]at hc;cases ha;cases hb;cases hc;rw[e2]at e3;cases e3;have x:=(U.step (i:=i) ⋯).1;have e:j8 a b c=m*n*vX (gU us i) (gU us (i+1)):=by unfold j8;rw[d1,d2,f1,f2];unfold vX;grind
  rw[e];exact Rat.mul_pos (Rat.mul_pos m0 n0) x
 ·have e1:(gQ us)[0]?=oZ (gU us 0):=rfl;rw[e1]at ha;cases ha;rw[show(gQ us).length-1=us.length-1+1 by lia,zJ]at hb;cases hb;rw[g0,gl];exact h
theorem Xy:(zW us).length=2*us.length-1:=by unfold zW;simp
theorem P4(h:j<2*us.length-1):(zW us)[j]?=oZ (tV us j):=by unfold zW;rw[LB,OF h];rfl
theorem Us.wt{u:Fr×Fr}{w:Fr×Fr}{us:List (Fr×Fr)}(U:Us u w us){j:Nat}(h:j<2*us.length-1):Nv (tV us j).1 (tV us j).2 130:=by
 unfold tV
 split
 ·exact(U.at_ ⋯).2.nv.up ∅
 ·exact(U.step ⋯).2.2.1
theorem FX{a b l:Rat}(o:a*a+b*b=1)(h:0<l):0<a*(b+l*a)-b*(a-l*b)/\0<(a+l*b)*b-(b-l*a)*a:=by
 have e1:a*(b+l*a)-b*(a-l*b)=l*(a*a+b*b):=by grind
 have e2:(a+l*b)*b-(b-l*a)*a=l*(a*a+b*b):=by grind
 rw[e1,e2,o];grind
theorem Us.wtX{u:Fr×Fr}{w:Fr×Fr}{us:List (Fr×Fr)}(U:Us u w us){j:Nat}(h:j+1<2*us.length-1):0<vX (tV us j) (tV us (j+1)):=by
 obtain c|c:=Nat.mod_two_eq_zero_or_one j
 ·have e1:tV us j=gU us (j/2):=by unfold tV;rw[oV c]
  have e2:tV us (j+1)=Hh us (j/2):=by unfold tV;rw[oW ⋯,show(j+1)/2=j/2 by lia]
  obtain⟨_,_,_,l,⟨p1,p2⟩,_⟩:=U.step (i:=j/2) ⋯;have o:=(U.at_ (i:=j/2) ⋯).2.one;rw[e1,e2];unfold vX;rw[p1,p2];exact(FX o l).1
 ·have e1:tV us j=Hh us (j/2):=by unfold tV;rw[oW ⋯]
  have e2:tV us (j+1)=gU us (j/2+1):=by unfold tV;rw[oV ⋯,show(j+1)/2=j/2+1 by lia]
  obtain⟨_,_,_,l,_,⟨p1,p2⟩⟩:=U.step (i:=j/2) ⋯;have o:=(U.at_ (i:=j/2+1) ⋯).2.one;rw[e1,e2];unfold vX;rw[p1,p2];exact(FX o l).2
end
def tS(z:Str):List Nat:=z.cps.toList
def IL(c:Nat):Bool:=(LM "lrbe-").cps.contains c
structure Mk(n:Nat)(z:Str):Prop where
 len:z.length=n
 ok:∀c∈tS z,IL c=true
theorem qQ(z:Str):z.length=(tS z).length:=rfl
theorem Mk.of(h:((tS z).length==n&&(tS z).all IL)=true):Mk n z:=by
 rw[MT]at h;exact⟨(by simpa using h.1:(tS z).length=n),λc hc=>NW.mp h.2 c hc⟩
theorem Cu(a b:Str):tS (a++b)=tS a++tS b:=by
 show(a.cps++b.cps).toList=_;rw[Array.toList_append];rfl
theorem Mk.app(h:Mk n a)(k:Mk m b):Mk (n+m) (a++b):=
 ⟨by rw[qQ,Cu,LG,<-qQ,<-qQ,h.len,k.len],λc hc=>by
  rw[Cu]at hc;exact(MB.mp hc).elim (h.ok c) (k.ok c)⟩
theorem yZ(z:Array Nat):∀(n:Nat)(acc:Array Nat),(QM (λx y=>x++y) acc (LF n z)).toList=acc.toList++(LF n z.toList).flatten
 |0,acc=>by simp
 |n+1,acc=>by rw[MM,List.foldl_cons,yZ z n,Array.toList_append,MM,NF,LW]
theorem Mk.mul(h:Mk 1 c)(k:Nat)(hk:1<=k):Mk k (Txt.mul c (k:Int)):=by
 unfold Txt.mul;rw[oW ⋯]
 split
 ·rename_i h1;have:k=1:=by
   rw[Bool.or_eq_true]at h1;obtain h1|h1:=h1
   ·have:(k:Int)=1:=by simpa using h1
    lia
   ·rw[h.len]at h1;cases h1
  rw[this];exact h
 ·have e:tS ⟨QM (λx1 x2=>x1++x2) #[] (LF (k:Int).toNat c.cps)⟩=(LF k (tS c)).flatten:=by
   show SM (QM (λx y=>x++y) #[] (LF (k:Int).toNat c.cps))=_;rw[yZ,MR];rfl
  refine⟨?_,λx hx=>?_⟩
  ·rw[qQ,e];have h1:(tS c).length=1:=h.len;simp[h1]
  ·rw[e]at hx;obtain⟨l,hl,hx⟩:=List.mem_flatten.mp hx;rw[PL hl]at hx;exact h.ok x hx
theorem Nq:∀{l:List Nat},(∀c∈l,p c=true)->l.takeWhile p=l
 |[],_=>rfl
 |c::l,h=>by rw[List.takeWhile_cons,oV (h c LK),Nq λd hd=>h d (LC _ hd)]
theorem Mk.strip(h:Mk n z):RA z (LM "lrbe-")=LM "":=by
 have a:∀c∈z.cps.toList,(LM "lrbe-").cps.contains c=true:=h.ok;unfold RA;rw[stripBy_eq];have lo:stripLo (LM "lrbe-").cps.contains true z=z.cps.size:=by
  unfold stripLo;rw[oV rfl,Nq a];rfl
 have hi:stripHi (LM "lrbe-").cps.contains true z z.cps.size=z.cps.size:=by
  unfold stripHi;rw[oV rfl,show List.drop z.cps.size z.cps.toList=[]from PZ (LN _)];rfl
 rw[lo,hi];unfold PySem.Builtin.Str.strSub;have e:z.cps.extract z.cps.size z.cps.size = #[]:=by simp
 rw[e];rfl
section
variable{P:SR}{w:SX}{K:W.Frag}{mg:Str->Option oA}{base:oE}
theorem FZ(h:(gM (us.map bE) (fO (us.map bE) (oZ 1) none))[i]?=oZ t):i+1<us.length/\t = .tup [bE (gU us i),bE (gU us (i+1))]:=by
 obtain⟨u,v,h1,h2,rfl⟩:=oS h;have e1:=eR (us.map bE) 1;rw[show fO (us.map bE) (oZ 1) none=(us.map bE).drop 1 from e1,OO,LB]at h2;rw[LB]at h1;obtain⟨a,ha,rfl⟩:=MH.mp h1;obtain⟨b,hb,rfl⟩:=MH.mp h2;rw[OD 1 i]at hb;have l:=(KZ.mp hb).1;have ga:gU us i=a:=by unfold gU;rw[MC,ha];rfl
 have gb:gU us (i+1)=b:=by unfold gU;rw[MC,hb];rfl
 exact⟨l,by rw[ga,gb]⟩
theorem AV(us:List (Fr×Fr)):(gM (us.map bE) (fO (us.map bE) (oZ 1) none)).length=us.length-1:=by
 have e1:=eR (us.map bE) 1;rw[jG,show fO (us.map bE) (oZ 1) none=(us.map bE).drop 1 from e1,NS,LJ]
 lia
theorem dE:∀l:List (Fr×Fr),bM (l.map bE)=true
 |[]=>rfl
 |a::l=>by show(noL (bE a)&&bM (l.map bE))=true;rw[dE l];rfl
def O9:dG:=λas Q=>∃(u w:Fr×Fr)(us:List (Fr×Fr)),as=[.v (.lst (us.map bE))]/\Us u w us/\Q (.l ((j6 us).map bE)) []
abbrev pS(P w K mg base):=(~~~Fn) 6 "tips_of" ["units"] (aI K O9)
abbrev sZ:SV:=top 52
theorem Kc:aF ["units"] ["units"] (aC sZ):=dH
theorem Jj(F:cI K "tips_of" "tips_of" sZ f fd)(TX:Txt mg)(ZP: ~~~yM):(~~~aS) cJ 6 f fd ["units"] (aI K O9):=by
 refine F.okU Kc (λhr=>(aE (aG (iC (N':=oG) (t:=2) (cap:=[]) rfl (bL.of rfl) rfl ∅ (Ar rfl rfl TX.n_zip (f2 (fv 0) (gY rfl (fv 0) (jB aA) o8))) (λ_ _ _ _=>(dA (n:=2) rfl rfl (aM (fH 0) (aM (fH 1) cE)))) (λ_ _ _ _=>(fK ZP (f2 (fv 0) (fv 1)))))))) ?_;rintro as Q ⟨u,w,us,rfl,U,q⟩;have n30:=U.n30;refine⟨rfl,?_⟩;refine cW (λi E=>∃v0 v1,E=[v0,v1,↥(((NP i).map (Hh us)).map bE)]) ⟨none,none,rfl⟩ ?_ ?_
 ·rintro i t rest E hi ⟨v0,v1,rfl⟩ KK;obtain⟨l,rfl⟩:=FZ hi;obtain⟨a1,a2⟩:=U.at_ (i:=i) ⋯;obtain⟨b1,b2⟩:=U.at_ l;obtain⟨_,d⟩:=U.nb i _ _ a1 b1;refine⟨_,_,_,_,rfl,a2.up ∅,b2.up ∅,De a2 b2 d,?_⟩;refine⟨by show(List.map bE (List.map (Hh us) (NP i))).length<9000;simp;lia,KK _ ⟨⇑(bE (gU us i)),⇑(bE (gU us (i+1))),?_⟩⟩;rw[QX,MF,MF];rfl
 ·rintro E ⟨v0,v1,rfl⟩;rw[AV];exact⟨dE _,dE _,q⟩
theorem Us.atl{u w:Fr×Fr}{us:List (Fr×Fr)}(U:Us u w us):eV (us.map bE) (-1)=oZ (bE (gU us (us.length-1))):=by
 have n2:=U.n2;obtain⟨L,p,e⟩:∃L p,us=L++[p]:=⟨us.dropLast,us.getLast (by intro z;rw[z]at n2;simp at n2),(RB _).symm⟩;have g:gU us (us.length-1)=p:=by rw[e];unfold gU;simp[MC]
 rw[g,e,MF];exact My.vF _ _
def O4:dG:=λas Q=>∃(u w:Fr×Fr)(us:List (Fr×Fr)),as=[.v (.lst (us.map bE)),.v (.bl false)]/\Us u w us/\Q (.l ((gQ us).map bE)) []
abbrev lG(P w K mg base):=(~~~Fn) 7 "rays_of" ["units","is_least"] (aI K O4)
abbrev sV:SV:=top 53
theorem Kb:aF ["units","is_least"] ["units","is_least"] (aC sV):=dH
theorem Jf(F:cI K "rays_of" "rays_of" sV f fd)(TX:Txt mg)(XF: ~~~pS):(~~~aS) cJ 7 f fd ["units","is_least"] (aI K O4):=by
 refine F.okU Kb (λhr=>(aB (b8 (fV (fv 1)) (aE (aG (fv 0))) bH) (aE (aG (m4 (m4 (c8 (f1 (fQ 0))) (fK XF (f1 (fv 0)))) (c8 (f1 (fX (fv 0) (d7 aA))))))))) ?_;rintro as Q ⟨u,w,us,rfl,U,q⟩;have n30:=U.n30;have n2:=U.n2;obtain⟨g0,gl⟩:=U.g0;show o1 (eV (us.map bE) ((0:Nat):Int)) _;rw[lI (show(us.map bE)[0]?=oZ (bE (gU us 0)) by rw[LB,(U.at_ (i:=0) ⋯).1];rfl)];refine⟨u,w,us,rfl,U,?_⟩;refine⟨by show 1+((j6 us).map bE).length<=9000;unfold j6;simp;lia,?_⟩;show o1 (eV (us.map bE) (-1)) _;rw[U.atl];refine⟨by show(bE (gU us 0)::(j6 us).map bE).length+1<=9000;unfold j6;simp;lia,?_⟩;have e:(bE (gU us 0)::(j6 us).map bE)++[bE (gU us (us.length-1))]=(gQ us).map bE:=by
  unfold gQ;rw[MP,MF];rfl
 refine⟨?_,?_⟩
 ·show bM ((bE (gU us 0)::(j6 us).map bE)++[bE (gU us (us.length-1))])=true;rw[e];exact dE _
 ·rw[<-e]at q;exact q
def Q1(w:Str)(i:Nat)(V:List (Fr×Fr))(mk:Str):L2.T:=.tup [.str w,.int (i:Int),.tup (V.map bE),.str mk]
def ES:dG:=λas Q=>∃(wd:Str)(i:Nat)(P:Fr×Fr)(p:Fr)(rs:List (Fr×Fr))(c:Str),as=[.v (.str wd),.v (.int (i:Int)),.v (bE P),.v (fr p),.v (.lst (rs.map bE)),.v (.str c)]/\Nv P.1 P.2 14/\Fw p/\GN rs/\Mk 1 c/\
 ∀mk,Mk (rs.length+1) mk->Q (.v (Q1 wd i (P::rs.map (bp P p)) mk)) []
abbrev zY(P w K mg base):=(~~~Fn) 5 "fan" ["word","number","point","far","rays","mark"] (aI K ES)
abbrev Wc:SV:=top 54
theorem Wg:aF ["word","number","point","far","rays","mark","outline"] ["word","number","point","far","rays","mark"] (aC Wc):=dH
theorem V9(F:cI K "fan" "fan" Wc f fd)(TX:Txt mg)(WS: ~~~rA)(WD: ~~~kP):(~~~aS) cJ 5 f fd ["word","number","point","far","rays","mark"] (aI K ES):=by
 refine F.okU Wg (λhr=>(aB (fS 6 Wg.nd (m4 (c8 (f1 (fv 2))) (iC (N':=["ray","point","far"]) (t:=1) (cap:=[(2,false),(3,false)]) rfl (bL.of rfl) rfl ∅ (iF rfl (fv 4)) (λ_ _ _ _=>(fH 0)) (λ_ _ _ _=>(fK WS (f2 (fv 1) (fK WD (f2 (fv 0) (fv 2))))))))) (aE (aG (aN (f4 (fv 0) (fv 1) (Ei rfl rfl TX.n_tuple (f1 (fv 6))) (Lh (Lh bA (Zg (fv 5) (aU g8 (dJ rfl rfl TX.n_len (f1 (fv 4))) aA))) bA))))))) ?_;rintro as Q ⟨wd,i,P,p,rs,c,rfl,nP,fw,F,hc,q⟩;have n3:=F.n3;have n40:=F.n40;refine⟨rfl,?_⟩;refine cW (λi E=>∃v0,E=[v0,⇑(bE P),⇑(fr p),↥(((rs.take i).map (bp P p)).map bE)]) ⟨none,rfl⟩ ?_ ?_
 ·rintro i t rest E hi ⟨v0,rfl⟩ KK;rw[LB]at hi;obtain⟨r,hr,rfl⟩:=MH.mp hi;have nr:=F.nv r (LD hr);have il:=(KZ.mp hr).1;refine⟨r.1,r.2,p,130,rfl,nr,fw.n,by have:=fw.s;lia,?_⟩;refine⟨P.1,P.2,_,_,14,130+sz p,rfl,nP,pZ nr fw.n,by have:=fw.s;lia,?_⟩;refine⟨by show(((rs.take i).map (bp P p)).map bE).length<9000;simp;lia,KK _ ⟨⇑(bE r),?_⟩⟩;rw[OC,hr,PK,MF,MF];rfl
 ·rintro E ⟨v0,rfl⟩;rw[LJ,NY];refine⟨dE _,by show 1+((rs.map (bp P p)).map bE).length<=9000;simp;lia,?_⟩;have ej:(((rs.map bE).length:Nat):Int)-1=((rs.length-1:Nat):Int):=by rw[LJ];lia
  have bb:∀{k:Nat},k<=100->k<=big:=λh=>MV h ∅;have h1:Mk 1 (LM "-"):=Mk.of (by decide +kernel);refine⟨⟨by rw[ej];lia,by rw[ej];exact Int.ofNat_le.mpr (bb ⋯),by rw[ej,MR,hc.len];exact bb ⋯⟩,?_⟩;rw[ej];intro z1 e1;have m1:Mk (rs.length-1) z1:=by rw[e1];exact hc.mul _ ⋯
  refine⟨by rw[h1.len,m1.len];exact bb ⋯,?_⟩;intro z2 e2;have m2:Mk (1+(rs.length-1)) z2:=by rw[e2];exact h1.app m1
  refine⟨by rw[m2.len,h1.len];exact bb ⋯,?_⟩;intro z3 e3;have m3:Mk (1+(rs.length-1)+1) z3:=by rw[e3];exact m2.app h1
  have ml:1+(rs.length-1)+1=rs.length+1:=⋯
  rw[ml]at m3;refine⟨?_,q z3 m3⟩;show(true&&(true&&(bM (bE P::((rs.map (bp P p)).map bE))&&(true&&true))))=true;rw[show bM (bE P::((rs.map (bp P p)).map bE))=true from dE (P::rs.map (bp P p))];rfl
theorem Pm.nbr(h:Pm a b ms)(hi:ms[i]?=oZ m)(hk:ms[dI i ms.length]?=oZ mb):
  Nb a b (cN a b ms) i (rP (px a b ms i) (py a b ms i) m) (rP (px a b ms (dI i ms.length)) (py a b ms (dI i ms.length)) mb) (uA m) (uA mb)/\
  uE a b (cN a b ms) i (rP (px a b ms (dI i ms.length)) (py a b ms (dI i ms.length)) mb) (uA mb)=eU mb/\uB a b (cN a b ms) i (rP (px a b ms i) (py a b ms i) m) (uA m)=bU m:=by
 refine⟨⟨h.at_ hi,by rw[fA];exact h.at_ hk⟩,?_,?_⟩
 ·show hE _ _ _ _=_;rw[fA];exact(Ta (h.nv _) (h.ok _ (LD hk))).2
 ·exact(Ta (h.nv _) (h.ok _ (LD hi))).1
theorem xP(u w:Fr×Fr):iZ u w = "straight"\/(iZ u w = "left"/\0<(aY u.1 u.2 w.1 w.2).1)\/(iZ u w = "right"/\(aY u.1 u.2 w.1 w.2).1<0)\/iZ u w = "back":=by
 unfold iZ
 split
 ·exact .inl rfl
 ·split
  ·rename_i h;exact .inr (.inl ⟨rfl,h⟩)
  ·split
   ·rename_i h;exact .inr (.inr (.inl ⟨rfl,h⟩))
   ·exact .inr (.inr (.inr rfl))
def Gm(u:Fr×Fr):Fr×Fr:=(u.2,aK u.1)
def Bd(u:Fr×Fr):Fr×Fr:=(aK u.2,u.1)
theorem Mm(h:cA u.1 u.2 e):cA (Gm u).1 (Gm u).2 e/\cA (Bd u).1 (Bd u).2 e:=by
 refine⟨⟨⟨h.nv.y,e7 h.nv.x,h.nv.sy,by show sz (aK u.1)<=e;rw[oQ];exact h.nv.sx⟩,?_⟩,h.left⟩;show val u.2*val u.2+val (aK u.1)*val (aK u.1)=1;rw[bR h.nv.x];have:=h.one;grind
theorem F7{u w:Fr×Fr}(h:cA u.1 u.2 e)(k:cA w.1 w.2 f):vX (Gm u) (Gm w)=vX u w/\vX (Bd u) (Bd w)=vX u w/\vX (Gm u) (Bd u)=0/\vX (Bd u) (Gm u)=0:=by
 have a:=bR h.nv.x;have b:=bR h.nv.y;have c:=bR k.nv.x;have d:=bR k.nv.y;unfold vX Gm Bd;simp only;rw[a,b,c,d];exact⟨by grind,by grind,by grind,by grind⟩
theorem Vx(h:cA u.1 u.2 e):¬(Bd u=Gm u):=λz=>by
 have e1:aK u.2=u.2:=congrArg Prod.fst z;have e2:u.1=aK u.1:=congrArg Prod.snd z;have v1:=bR h.nv.y;rw[e1]at v1;have v2:=bR h.nv.x;rw[<-e2]at v2;have o:=h.one;have z1:val u.1=0:=by grind
 have z2:val u.2=0:=by grind
 rw[z1,z2]at o;grind
theorem FW(h:0<vX a b):¬(b=a):=λz=>by subst z;unfold vX at h;grind
def N5:dG:=λas Q=>∃(a b:Fr)(ms:List Mv)(i:Nat)(m mb:Mv)(wd:Str)(s:Int),as=[.v (cF a b (cN a b ms)),.v (.int (i:Int)),.v (.str wd),.v (.int s)]/\Pm a b ms/\ms[i]?=oZ m/\ms[dI i ms.length]?=oZ mb/\
 wd=iZ (eU mb) (bU m)/\wd≠"straight"/\(s=1\/s=2\/s=3)/\∀u w us,Us u w us->0<=vX u w->Q (.l (us.map bE)) []
abbrev qY(P w K mg base):=(~~~Fn) 10 "fan_units" ["path","number","word","steps"] (aI K N5)
abbrev nO:SV:=top 55
theorem l7:aF ["path","number","word","steps","u","w"] ["path","number","word","steps"] (aC nO):=dH
theorem Bm(F:cI K "fan_units" "fan_units" nO f fd)(TX:Txt mg)(WA: ~~~fF)(VM: ~~~dD)(VT: ~~~gV)(VW: ~~~iN):(~~~aS) cJ 10 f fd ["path","number","word","steps"] (aI K N5):=by
 refine F.okU l7 (λhr=>(aB (d8 (fK WA (f2 (fv 0) (fv 1))) (dA (n:=2) rfl rfl (aM (fG 4 l7.nd) (aM (fG 5 l7.nd) cE)))) (aB (b8 (eQ rfl hr (fv 2) bA (aV _)) (aE (aG (fK VM (f3 (fK VW (f1 (fv 4))) (fK VW (f1 (fv 5))) (fv 3))))) bH) (aB (b8 (eQ rfl hr (fv 2) bA (aV _)) (aE (aG (fK VM (f3 (fK VT (f1 (fv 5))) (fK VT (f1 (fv 4))) (fv 3))))) bH) (aE (aG (fK VM (f3 (fK VW (f1 (fv 4))) (fK VT (f1 (fv 4))) (fv 3))))))))) ?_;rintro as Q ⟨a,b,ms,i,m,mb,wd,s,rfl,h,hi,hk,hw,ns,hs,q⟩;obtain⟨nb,e1,e2⟩:=h.nbr hi hk;have ue:=(h.ok _ (LD hk)).eu;have ub:=(h.ok _ (LD hi)).bu;refine⟨a,b,_,i,_,_,_,_,rfl,nb,?_⟩;rw[e1,e2];generalize eU mb=u at ue hw;generalize bU m=w at ub hw;obtain⟨r1,l1⟩:=Mm ue;obtain⟨r2,l2⟩:=Mm ub;obtain⟨x1,x2,x3,_⟩:=F7 ue ub;have y2:vX (Bd w) (Bd u)=vX w u:=(F7 ub ue).2.1;have vx:=dU ue.nv ub.nv;have nx:=cH ue.nv ub.nv;refine⟨LV _,?_⟩;obtain c|⟨c,c0⟩|⟨c,c0⟩|c:=xP u w
 ·exact absurd (hw.trans c) ns
 ·rw[c]at hw;subst hw;have p0:=(mG nx).2 c0;rw[vx]at p0;replace p0:0<vX u w:=p0;refine⟨u.1,u.2,rfl,w.1,w.2,rfl,_,_,_,_,s,4,4,rfl,r1,r2,∅,∅,∅,hs,λk k' hk jn r r'=>?_⟩;obtain⟨us,e,U⟩:=xM r1 r2 (λz=>FW (by rw[x1];exact p0) (Prod.ext z.1 z.2:Gm w=Gm u)) hs hk jn r r';rw[show uX u.2 (aK u.1) w.2 (aK w.1) s k k'=us.map bE from e];exact⟨dE us,q _ _ us U (by show 0<=vX (Gm u) (Gm w);rw[x1];exact Rat.le_of_lt p0)⟩
 ·rw[c]at hw;subst hw;have p0:=(Kl nx).2 c0;rw[vx]at p0;have p1:0<vX w u:=by unfold vX;grind
  refine⟨LV _,?_⟩;refine⟨w.1,w.2,rfl,u.1,u.2,rfl,_,_,_,_,s,4,4,rfl,l2,l1,∅,∅,∅,hs,λk k' hk jn r r'=>?_⟩;obtain⟨us,e,U⟩:=xM l2 l1 (λz=>FW (by rw[y2];exact p1) (Prod.ext z.1 z.2:Bd u=Bd w)) hs hk jn r r';rw[show uX (aK w.2) w.1 (aK u.2) u.1 s k k'=us.map bE from e];exact⟨dE us,q _ _ us U (by show 0<=vX (Bd w) (Bd u);rw[y2];exact Rat.le_of_lt p1)⟩
 ·rw[c]at hw;subst hw;refine⟨LV _,?_⟩;refine⟨u.1,u.2,rfl,u.1,u.2,rfl,_,_,_,_,s,4,4,rfl,r1,l1,∅,∅,∅,hs,λk k' hk jn r r'=>?_⟩;obtain⟨us,e,U⟩:=xM r1 l1 (λz=>Vx ue (Prod.ext z.1 z.2)) hs hk jn r r';rw[show uX u.2 (aK u.1) (aK u.2) u.1 s k k'=us.map bE from e];exact⟨dE us,q _ _ us U (by show 0<=vX (Gm u) (Bd u);rw[x3];exact Rat.le_refl)⟩
def Gb(t:L2.T)(w:Str)(i:Nat):Prop:=∃V mk,t=Q1 w i V mk/\Ye V/\Mk V.length mk
theorem nG{w:Str}{i:Nat}(h:Gb t w i):noL t=true:=by
 obtain⟨V,mk,rfl,_⟩:=h;show(true&&(true&&(bM (V.map bE)&&(true&&true))))=true;rw[dE];rfl
theorem Ip{P:Fr×Fr}{rs:List (Fr×Fr)}(nP:Nv P.1 P.2 14)(fw:Fw p)(F:GN rs)(h:Mk (rs.length+1) mk):Gb (Q1 wd i (P::rs.map (bp P p)) mk) wd i:=
 ⟨_,mk,rfl,Zb nP fw F,by rw[LO,LJ];exact h⟩
def N1:dG:=λas Q=>∃(a b:Fr)(ms:List Mv)(i:Nat)(m mb:Mv)(wd:Str)(p:Fr)(s:Int),as=[.v (cF a b (cN a b ms)),.v (.int (i:Int)),.v (.str wd),.v (fr p),.v (.int s),.v (.bl false)]/\Pm a b ms/\ms[i]?=oZ m/\ms[dI i ms.length]?=oZ mb/\
 wd=iZ (eU mb) (bU m)/\wd≠"straight"/\Fw p/\(s=1\/s=2\/s=3)/\∀t,Gb t "fan" i->Q (.v t) []
abbrev pG(P w K mg base):=(~~~Fn) 11 "corner_fan" ["path","number","word","far","steps","is_least"] (aI K N1)
abbrev lR:SV:=top 56
theorem pQ:aF ["path","number","word","far","steps","is_least","rays"] ["path","number","word","far","steps","is_least"] (aC lR):=dH
theorem xY(F:cI K "corner_fan" "corner_fan" lR f fd)(TX:Txt mg)(WQ: ~~~lG)(YF: ~~~qY)(YV: ~~~zY)(WC: ~~~iK)(YG:sA mg w K "FAN_MARKS" "left" "r" "right" "l" "back" "b"):(~~~aS) cJ 11 f fd ["path","number","word","far","steps","is_least"] (aI K N1):=by
 refine F.okU pQ (λhr=>(aB (fS 6 pQ.nd (fK WQ (f2 (fK YF (f4 (fv 0) (fv 1) (fv 2) (fv 4))) (fv 5)))) (aE (aG (fK YV (fc bA (fc (fv 1) (f4 (fK WC (f2 (fv 0) (fv 1))) (fv 3) (fv 6) (Li rfl rfl YG (fv 2) (λ_ _=>rfl)))))))))) ?_;rintro as Q ⟨a,b,ms,i,m,mb,wd,p,s,rfl,h,hi,hk,hw,ns,fw,hs,q⟩;have hl:=(KZ.mp hi).1;refine⟨a,b,ms,i,m,mb,wd,s,rfl,h,hi,hk,hw,ns,hs,λu w us U x=>?_⟩;refine⟨u,w,us,rfl,U,?_⟩;refine⟨a,b,_,i,rfl,by rw[fA];exact hl,?_⟩;have mc:∃c,tQ "left" "r" "right" "l" "back" "b" wd=oZ c/\Mk 1 c:=by
  obtain c|⟨c,_⟩|⟨c,_⟩|c:=xP (eU mb) (bU m)
  ·exact absurd (hw.trans c) ns
  ·rw[c]at hw;subst hw;exact⟨"r",rfl,Mk.of (by decide +kernel)⟩
  ·rw[c]at hw;subst hw;exact⟨"l",rfl,Mk.of (by decide +kernel)⟩
  ·rw[c]at hw;subst hw;exact⟨"b",rfl,Mk.of (by decide +kernel)⟩
 obtain⟨c,ec,mc⟩:=mc;show o1 ((tQ "left" "r" "right" "l" "back" "b" wd).map L2.T.str) _;rw[ec];have F:=U.fan x;refine⟨_,i,(px a b ms i,py a b ms i),p,gQ us,c,rfl,h.nv i,fw,F,mc,λmk hm=>?_⟩;have g:=Ip (P:=(px a b ms i,py a b ms i)) (wd:="fan") (i:=i) (h.nv i) fw F hm;exact⟨nG g,q _ g⟩
def Xg:dG:=λas Q=>∃(a b:Fr)(ms:List Mv)(m:Mv)(p:Fr)(s:Int),as=[.v (cF a b (cN a b ms)),.v (fr p),.v (.int s),.v (.bl false)]/\Pm a b ms/\ms[0]?=oZ m/\Fw p/\(s=1\/s=2\/s=3)/\∀t,Gb t "cap" 0->Q (.v t) []
abbrev rC(P w K mg base):=(~~~Fn) 9 "start_cap" oJ (aI K Xg)
abbrev nW:SV:=top 57
theorem mB:aF ["path","far","steps","is_least","u","rays"] oJ (aC nW):=dH
theorem Bt(F:cI K "start_cap" "start_cap" nW f fd)(TX:Txt mg)(VX: ~~~iM)(WQ: ~~~lG)(VM: ~~~dD)(VT: ~~~gV)(VW: ~~~iN)(YV: ~~~zY):(~~~aS) cJ 9 f fd oJ (aI K Xg):=by
 refine F.okU mB (λhr=>(aB (fS 4 mB.nd (fX (fK VX (f2 (fv 0) aA)) aA)) (aB (fS 5 mB.nd (fK WQ (f2 (fK VM (f3 (fK VT (f1 (fv 4))) (fK VW (f1 (fv 4))) (fv 2))) (fv 3)))) (aE (aG (fK YV (fc bA (fc aA (f4 (fQ 0) (fv 1) (fv 5) bA))))))))) ?_;rintro as Q ⟨a,b,ms,m,p,s,rfl,h,hi,fw,hs,q⟩;have pa:=h.at_ hi;have hd:=h.head hi;have ub:=(h.ok _ (LD hi)).bu;refine⟨a,b,_,0,_,_,rfl,pa,?_⟩;rw[hd];generalize bU m=u at ub;obtain⟨r1,l1⟩:=Mm ub;obtain⟨_,_,_,x4⟩:=F7 ub ub;refine⟨u.1,u.2,rfl,u.1,u.2,rfl,_,_,_,_,s,4,4,rfl,l1,r1,∅,∅,∅,hs,λk k' hk jn r r'=>?_⟩;obtain⟨us,e,U⟩:=xM l1 r1 (λz=>Vx ub (Prod.ext z.1 z.2:Gm u=Bd u).symm) hs hk jn r r';rw[show uX (aK u.2) u.1 u.2 (aK u.1) s k k'=us.map bE from e];refine⟨_,_,us,rfl,U,?_⟩;have F:=U.fan (show 0<=vX (Bd u) (Gm u) by rw[x4];exact Rat.le_refl);refine⟨_,0,(a,b),p,gQ us,_,rfl,h.nv 0,fw,F,Mk.of (by decide +kernel),λmk hm=>?_⟩;have g:=Ip (P:=(a,b)) (wd:="cap") (i:=0) (h.nv 0) fw F hm;exact⟨nG g,q _ g⟩
def ER:dG:=λas Q=>∃(a b:Fr)(ms:List Mv)(m:Mv)(p:Fr)(s:Int),as=[.v (cF a b (cN a b ms)),.v (fr p),.v (.int s),.v (.bl false)]/\Pm a b ms/\ms[ms.length-1]?=oZ m/\Fw p/\(s=1\/s=2\/s=3)/\∀t,Gb t "cap" (ms.length-1)->Q (.v t) []
abbrev uZ(P w K mg base):=(~~~Fn) 9 "end_cap" oJ (aI K ER)
abbrev sP:SV:=top 58
theorem lZ:aF ["path","far","steps","is_least","last","u","rays"] oJ (aC sP):=dH
theorem Jb(F:cI K "end_cap" "end_cap" sP f fd)(TX:Txt mg)(VX: ~~~iM)(WQ: ~~~lG)(VM: ~~~dD)(VT: ~~~gV)(VW: ~~~iN)(YV: ~~~zY)(VQ: ~~~fL):(~~~aS) cJ 9 f fd oJ (aI K ER):=by
 refine F.okU lZ (λhr=>(aB (fS 4 lZ.nd (aU g8 (dJ rfl rfl TX.n_len (f1 (fQ 0))) aA)) (aB (fS 5 lZ.nd (fX (fK VX (f2 (fv 0) (fv 4))) aA)) (aB (fS 6 lZ.nd (fK WQ (f2 (fK VM (f3 (fK VW (f1 (fv 5))) (fK VT (f1 (fv 5))) (fv 2))) (fv 3)))) (aE (aG (fK YV (fc bA (fc (fv 4) (f4 (fK VQ (f1 (fX (fQ 0) (fv 4)))) (fv 1) (fv 6) bA)))))))))) ?_;rintro as Q ⟨a,b,ms,m,p,s,rfl,h,hi,fw,hs,q⟩;have pa:=h.at_ hi;have hd:=h.head hi;have hp:=kG ms a b _ _ hi;have ub:=(h.ok _ (LD hi)).eu;have n1:=OY.mpr h.ne;obtain⟨ex,ey⟩:=uS (a:=a) (b:=b) hi;have nv:=h.nv (ms.length-1+1);have ej:((((cN a b ms).map jD).length:Nat):Int)-1=((ms.length-1:Nat):Int):=by rw[LJ,fA];lia
 refine⟨a,b,_,ms.length-1,_,_,?_,pa,?_⟩
 ·show[A.v (cF a b (cN a b ms)),A.v (.int (((((cN a b ms).map jD).length:Nat):Int)-1))]=_;rw[ej]
 rw[hd];generalize hu:eU m=u at ub;obtain⟨r1,l1⟩:=Mm ub;obtain⟨_,_,x3,_⟩:=F7 ub ub;refine⟨u.1,u.2,rfl,u.1,u.2,rfl,_,_,_,_,s,4,4,rfl,r1,l1,∅,∅,∅,hs,λk k' hk jn r r'=>?_⟩;obtain⟨us,e,U⟩:=xM r1 l1 (λz=>Vx ub (Prod.ext z.1 z.2:Bd u=Gm u)) hs hk jn r r';rw[show uX u.2 (aK u.1) (aK u.2) u.1 s k k'=us.map bE from e];refine⟨_,_,us,rfl,U,?_⟩;have F:=U.fan (show 0<=vX (Gm u) (Bd u) by rw[x3];exact Rat.le_refl);show o1 (eV ((cN a b ms).map jD) (((((cN a b ms).map jD).length:Nat):Int)-1)) _;rw[ej,nK hp];refine⟨_,rfl,?_⟩;rw[ex,ey]at nv;refine⟨_,ms.length-1,(_,_),p,gQ us,LM "e",rfl,nv,fw,F,Mk.of (by decide +kernel),λmk hm=>?_⟩;have g:=Ip (P:=(_,_)) (wd:="cap") (i:=ms.length-1) nv fw F hm;exact⟨nG g,q _ g⟩
def N0:dG:=λas Q=>∃(a b:Fr)(ms:List Mv)(i:Nat)(x y u v r:Fr)(l:Bool),as=[.v (cF a b (cN a b ms)),.v (.int (i:Int))]/\Pm a b ms/\ms[i]?=oZ (.arc x y u v r l)/\
 Q (.v (if l=true then .tup [vc (aJ x r) (aJ y r),vc (aJ u r) (aJ v r)]else .tup [vc (aJ u r) (aJ v r),vc (aJ x r) (aJ y r)])) []
abbrev mN(P w K mg base):=(~~~Fn) 5 "arc_vectors" oI (aI K N0)
abbrev kI:SV:=top 27
theorem gG:aF ["path","number","piece","begin","to"] oI (aC kI):=dH
theorem wC(F:cI K "arc_vectors" "arc_vectors" kI f fd)(TX:Txt mg)(WG: ~~~kO)(WC: ~~~iK)(VQ: ~~~fL):(~~~aS) cJ 5 f fd oI (aI K N0):=by
 refine F.okU gG (λhr=>(aB (fS 2 gG.nd (fX (fQ 0) (fv 1))) (aB (fS 3 gG.nd (fK WG (f2 (fK WC (f2 (fv 0) (fv 1))) (fQ 2)))) (aB (fS 4 gG.nd (fK WG (f2 (fK VQ (f1 (fv 2))) (fQ 2)))) (aE (aG (pM (eQ rfl hr (fQ 2) bA (aV _)) (aN (f2 (fv 3) (fv 4))) (aN (f2 (fv 4) (fv 3)))))))))) ?_;rintro as Q ⟨a,b,ms,i,x,y,u,v,r,l,rfl,h,hi,q⟩;have hl:=(KZ.mp hi).1;have hp:=kG ms a b _ _ hi;have ok:=h.ok _ (LD hi);have n0:=h.nv i;obtain⟨e1,e2,e3,e4⟩:=vE n0 ok;obtain⟨o1,o2,_,nr,sr,_⟩:=id ok;have sx:=jT o1.nv nr (show sz r<=4 by lia);have su:=jT o2.nv nr (show sz r<=4 by lia);have nm:=Bk n0 sx;have ne:=wA nm su;show L2.o1 (eV ((cN a b ms).map jD) (i:Int)) _;rw[nK hp]
 change Nv (cO a (NU i (cN a b ms))) (cP b (NU i (cN a b ms))) 14 at n0
 change aR (cO a (NU i (cN a b ms))) (aR (cO a (NU i (cN a b ms))) (aJ x r))=aJ x r at e1
 change aR (cP b (NU i (cN a b ms))) (aR (cP b (NU i (cN a b ms))) (aJ y r))=aJ y r at e2
 refine⟨a,b,_,i,rfl,by rw[fA];exact hl,?_⟩;refine⟨_,_,_,_,14,_,rfl,n0,nm,∅,?_⟩;refine⟨_,rfl,?_⟩;refine⟨_,_,_,_,_,_,rfl,ne,nm,∅,?_⟩
 change aR (bJ (aR (cO a (NU i (cN a b ms))) (aJ x r)) (aJ u r)) (aR (cO a (NU i (cN a b ms))) (aJ x r))=aJ u r at e3
 change aR (bJ (aR (cP b (NU i (cN a b ms))) (aJ y r)) (aJ v r)) (aR (cP b (NU i (cN a b ms))) (aJ y r))=aJ v r at e4
 rw[e1,e2];show Hg _ _ (.v (vc (aR (bJ (aR (cO a (NU i (cN a b ms))) (aJ x r)) (aJ u r)) (aR (cO a (NU i (cN a b ms))) (aJ x r))) (aR (bJ (aR (cP b (NU i (cN a b ms))) (aJ y r)) (aJ v r)) (aR (cP b (NU i (cN a b ms))) (aJ y r)))));rw[e3,e4];refine⟨LV _,?_⟩;cases l with
 |true=>exact⟨rfl,q⟩
 |false=>exact⟨rfl,q⟩
def M9:dG:=λas Q=>∃(a b:Fr)(ms:List Mv)(i:Nat)(x y u v r:Fr)(l:Bool)(s:Int),as=[.v (cF a b (cN a b ms)),.v (.int (i:Int)),.v (.int s)]/\Pm a b ms/\ms[i]?=oZ (.arc x y u v r l)/\(s=1\/s=2\/s=3)/\
 ∀u w us,Us u w us->Q (.l (us.map bE)) []
abbrev qX(P w K mg base):=(~~~Fn) 8 "arc_units" ["path","number","steps"] (aI K M9)
abbrev nN:SV:=top 59
theorem lY:aF ["path","number","steps","first","last"] ["path","number","steps"] (aC nN):=dH
theorem Bl(F:cI K "arc_units" "arc_units" nN f fd)(TX:Txt mg)(XU: ~~~mN)(VM: ~~~dD)(WM: ~~~lH):(~~~aS) cJ 8 f fd ["path","number","steps"] (aI K M9):=by
 refine F.okU lY (λhr=>(aB (d8 (fK XU (f2 (fv 0) (fv 1))) (dA (n:=2) rfl rfl (aM (fG 3 lY.nd) (aM (fG 4 lY.nd) cE)))) (aE (aG (fK VM (f3 (fK WM (f1 (fv 3))) (fK WM (f1 (fv 4))) (fv 2))))))) ?_;rintro as Q ⟨a,b,ms,i,x,y,u,v,r,l,s,rfl,h,hi,hs,q⟩;obtain⟨o1,o2,ne,nr,sr,r0,_⟩:=h.ok _ (LD hi);have l1:=rN o1 nr (show sz r<=4 by lia) r0;have l2:=rN o2 nr (show sz r<=4 by lia) r0;have ex:=eS o1.nv.x nr r0;have ey:=eS o1.nv.y nr r0;have eu:=eS o2.nv.x nr r0;have ev:=eS o2.nv.y nr r0;refine⟨a,b,ms,i,x,y,u,v,r,l,rfl,h,hi,?_⟩;cases l with
 |true=>
  refine⟨_,_,r,rfl,l1,_,_,r,rfl,l2,?_⟩;rw[ex,ey,eu,ev];refine⟨x,y,u,v,s,4,4,rfl,o1,o2,∅,∅,∅,hs,λk k' hk jn r1 r2=>?_⟩;obtain⟨us,e,U⟩:=xM o1 o2 (λz=>ne ⟨z.1.symm,z.2.symm⟩) hs hk jn r1 r2;rw[e];exact⟨dE us,q _ _ us U⟩
 |false=>
  refine⟨_,_,r,rfl,l2,_,_,r,rfl,l1,?_⟩;rw[ex,ey,eu,ev];refine⟨u,v,x,y,s,4,4,rfl,o2,o1,∅,∅,∅,hs,λk k' hk jn r1 r2=>?_⟩;obtain⟨us,e,U⟩:=xM o2 o1 (λz=>ne ⟨z.1,z.2⟩) hs hk jn r1 r2;rw[e];exact⟨dE us,q _ _ us U⟩
def Xc:dG:=λas Q=>∃r p ls:Fr,as=[.v (fr r),.v (fr p),.v (fr ls)]/\bI r/\sz r<=4/\0<val r/\Fw p/\bI ls/\sz ls<=310/\0<=val ls/\val ls<=1/\
 ∀z,bI z->sz z<=340->(z=(0,1)\/(z≠(0,1)/\0<val z/\val z<val r+val p))->Q (.v (fr z)) []
abbrev tJ(P w K mg base):=(~~~Fn) 4 "inner_of" ["radius","far","least"] (aI K Xc)
abbrev qI:SV:=top 60
theorem Gp:aF ["radius","far","least"] ["radius","far","least"] (aC qI):=dH
theorem Fu(F:cI K "inner_of" "inner_of" qI f fd)(TX:Txt mg)(WI: ~~~kA)(VU: ~~~jJ)(WH: ~~~kQ)(WZ: ~~~q0)(VS: ~~~fT)(XI:mH mg K "NOUGHT" (.tup [.int 0,.int 1]))(YA:mH mg K "ONE_blocks" (.tup [.int 1,.int 1]))(ky:mH mg K "TWO" (.tup [.int 2,.int 1])):(~~~aS) cJ 4 f fd ["radius","far","least"] (aI K Xc):=by
 refine F.okU Gp (λhr=>(aB (b8 (fP Uq (fK WI (f2 (fv 1) (fv 0))) aA) (aE (aG (iD rfl XI))) bH) (aE (aG (fK VU (f2 (fK WH (f2 (fv 0) (fv 1))) (fK WZ (f2 (fK VS (f2 (iD rfl YA) (fv 2))) (iD rfl ky))))))))) ?_;rintro as Q ⟨r,p,ls,rfl,nr,sr,r0,fw,nl,sl,l0,l1,q⟩;have sp:=fw.s;have p0:=fw.pos;refine⟨p,r,rfl,fw.n,nr,⋯,⋯,λk hk=>?_⟩;show if decide (k>=0)=true then _ else _
 by_cases c:0<=k
 ·rw[oV (oY c)];exact⟨rfl,q (0,1) (aQ 0) ∅ (.inl rfl)⟩
 ·rw[oW (by simpa using c)];have lt:val p<val r:=hk.1 ⋯;have n1:=dM nr fw.n;have n2:=c7 (aQ 1) nl;have nt:bI ((2,1):Fr):=aQ 2;have t0:((2,1):Fr).1≠0:=∅
  have s1:=oR nr fw.n;have s2:=iY (aQ 1) nl;have s3:=rZ n2 t0;have o:=H0;have st:sz ((2,1):Fr)=2:=∅
  have n3:=kZ n2 t0;have s4:=cG n1 n3;refine⟨r,p,rfl,nr,fw.n,⋯,?_⟩;refine⟨(1,1),ls,rfl,aQ 1,nl,⋯,?_⟩;refine⟨_,(2,1),rfl,n2,nt,t0,⋯,?_⟩;refine⟨_,_,rfl,n1,n3,⋯,rfl,?_⟩;have e:val (aJ (aR r p) (bZ (bJ (1,1) ls) (2,1)))=(val r-val p)*((1+val ls)/2):=by
   rw[aZ n1 n3,bW nr fw.n,k9 n2 nt t0,bO (aQ 1) nl,gT,iJ];rfl
  have h1:0<(1+val ls)/2:=by grind
  have h2:(1+val ls)/2<=1:=by grind
  have h3:0<val r-val p:=by grind
  have pos:=Rat.mul_pos h3 h1;refine q _ (aP n1 n3) ⋯ (.inr ⟨λz=>?_,by rw[e];exact pos,?_⟩)
  ·rw[z,k8]at e;grind
  ·rw[e];have h4:0<=(val r-val p)*(1-(1+val ls)/2):=Rat.mul_nonneg (Rat.le_of_lt h3) (by grind);grind
theorem GL{u w:Fr×Fr}{us:List (Fr×Fr)}(U:Us u w us){i:Nat}(h:(gM ((j6 us).map bE) (fO (us.map bE) (oZ 1) none))[i]?=oZ t):i+1<us.length/\t = .tup [bE (Hh us i),bE (gU us (i+1))]:=by
 obtain⟨x,y,h1,h2,rfl⟩:=oS h;have e1:=eR (us.map bE) 1;rw[show fO (us.map bE) (oZ 1) none=(us.map bE).drop 1 from e1,OO,LB,OD 1 i]at h2;obtain⟨b,hb,rfl⟩:=MH.mp h2;have l:=(KZ.mp hb).1;rw[(U.at_ l).1]at hb;cases hb;unfold j6 at h1;rw[LB,LB,OF ⋯]at h1;cases h1;exact⟨l,rfl⟩
theorem AW(us:List (Fr×Fr)):(gM ((j6 us).map bE) (fO (us.map bE) (oZ 1) none)).length=us.length-1:=by
 have e1:=eR (us.map bE) 1;rw[jG,show fO (us.map bE) (oZ 1) none=(us.map bE).drop 1 from e1,NS,LJ];unfold j6;simp
def P0:dG:=λas Q=>∃(u w:Fr×Fr)(us:List (Fr×Fr)),as=[.v (.lst (us.map bE))]/\Us u w us/\Q (.l ((zW us).map bE)) []
abbrev rE(P w K mg base):=(~~~Fn) 7 "with_tips" ["units"] (aI K P0)
abbrev nY:SV:=top 61
theorem jF:aF ["units","rays","tip","unit"] ["units"] (aC nY):=dH
theorem Bv(F:cI K "with_tips" "with_tips" nY f fd)(TX:Txt mg)(XF: ~~~pS):(~~~aS) cJ 7 f fd ["units"] (aI K P0):=by
 refine F.okU jF (λhr=>(aB (fS 1 jF.nd (c8 (f1 (fQ 0)))) (aB (jQ PassesOwn.never rfl (Ar rfl rfl TX.n_zip (f2 (fK XF (f1 (fv 0))) (gY rfl (fv 0) (jB aA) o8))) (dA (n:=2) rfl rfl (aM (fG 2 jF.nd) (aM (fG 3 jF.nd) cE))) (aB (jC (gX rfl (fv 1) (f1 (fv 2)))) (aE (jC (gX rfl (fv 1) (f1 (fv 3))))))) (aE (aG (fv 1)))))) ?_;rintro as Q ⟨u,w,us,rfl,U,q⟩;have n30:=U.n30;have n2:=U.n2;show o1 (eV (us.map bE) ((0:Nat):Int)) _;rw[lI (show(us.map bE)[0]?=oZ (bE (gU us 0)) by rw[LB,(U.at_ (i:=0) ⋯).1];rfl)];refine⟨u,w,us,rfl,U,?_⟩;refine cX (λi E=>∃v2 v3:Option L2.U,E=[⇑(.lst (us.map bE)),↥(((NP (2*i+1)).map (tV us)).map bE),v2,v3]) ⟨none,none,rfl⟩ ?_ ?_
 ·rintro i t rest E hi ⟨v2,v3,rfl⟩ KK;obtain⟨l,rfl⟩:=GL U hi;have e1:tV us (2*i+1)=Hh us i:=by unfold tV;rw[oW ⋯,show(2*i+1)/2=i by lia]
  have e2:tV us (2*i+2)=gU us (i+1):=by unfold tV;rw[oV ⋯,show(2*i+2)/2=i+1 by lia]
  refine⟨by simp;lia,by simp;lia,KK _ ⟨⇑(bE (Hh us i)),⇑(bE (gU us (i+1))),?_⟩⟩;have e3:((NP (2*(i+1)+1)).map (tV us)).map bE=(((NP (2*i+1)).map (tV us)).map bE++[bE (Hh us i)])++[bE (gU us (i+1))]:=by
   rw[show 2*(i+1)+1=2*i+1+1+1 by lia,QX (n:=2*i+1+1),QX (n:=2*i+1),MF,MF,MF,MF,<-e1,<-e2];rfl
  rw[e3];rfl
 ·rintro E ⟨v2,v3,rfl⟩;rw[AW,show 2*(us.length-1)+1=2*us.length-1 by lia];exact⟨dE _,q⟩
def FK:dG:=λas Q=>∃(k:Nat)(w l:Bool),as=[.v (.int (k:Int)),.v (.bl w),.v (.str (r6 l))]/\2<=k/\k<=100/\∀L:List Str,L.length=k->(∀z∈L,Mk (if w=true then 3 else 4) z)->Q (.l (L.map L2.T.str)) []
theorem kY:∀l:List Str,bM (l.map L2.T.str)=true
 |[]=>rfl
 |a::l=>by show(true&&bM (l.map L2.T.str))=true;rw[kY l];rfl
theorem CP{α:Type}{T:Prop}{G R:α->Prop}(h:(∀a,R a->G a)->T)(k:∀a,R a->G a):T:=h k
def wQ(w:Bool):List Str:=if w=true then["-r-"]else["lr-l","-r-l","-rll"]
theorem Cd(w:Bool):∀z∈wQ w,Mk (if w=true then 3 else 4) z:=by
 cases w with
 |true=>intro z hz;rw[LY.mp hz];exact Mk.of (by decide +kernel)
 |false=>
  intro z hz;have:z = "lr-l"\/z = "-r-l"\/z = "-rll":=by simpa[wQ]using hz
  rcases this with rfl|rfl|rfl<;>exact Mk.of (by decide +kernel)
theorem F6(w:Bool):∀z∈wQ w,∀c∈tS z,c=45\/c=108\/c=114:=by
 have dP:∀z:Str,((tS z).all λc=>c==45||c==108||c==114)=true->∀c∈tS z,c=45\/c=108\/c=114:=λz h c hc=>by
  have:=NW.mp h c hc
  simpa[or_assoc]using this
 cases w with
 |true=>intro z hz;rw[LY.mp hz];exact dP _ (by decide +kernel)
 |false=>
  intro z hz;have:z = "lr-l"\/z = "-r-l"\/z = "-rll":=by simpa[wQ]using hz
  rcases this with rfl|rfl|rfl<;>exact dP _ (by decide +kernel)
theorem KO(c:Nat)(h:c=45\/c=108\/c=114):∃d,tQ "l" "r" "r" "l" "-" "-" ⟨#[c]⟩=oZ d/\Mk 1 d:=by
 obtain rfl|rfl|rfl:=h
 ·exact⟨"-",by decide +kernel,Mk.of (by decide +kernel)⟩
 ·exact⟨"r",by decide +kernel,Mk.of (by decide +kernel)⟩
 ·exact⟨"l",by decide +kernel,Mk.of (by decide +kernel)⟩
theorem L5:∀l:List Str,tS (RS ⟨#[]⟩ l)=(l.map tS).flatten:=λl=>by
 show tS (Builtin.Str.glued ⟨#[]⟩ l)=_;rw[StrLaws.glued_eq_join]
 induction l with
 |nil=>rfl
 |cons a r ih=>
  cases r with
  |nil=>simp[Str.join,tS]
  |cons b r=>
   have:Str.join ⟨#[]⟩ (a::b::r)=a++⟨#[]⟩++Str.join ⟨#[]⟩ (b::r):=rfl;rw[this,Cu,Cu,ih];simp[tS]
theorem Zt(l:List Str)(h:∀y∈l,Mk 1 y)(hl:l.length<=100):JoinOk (LM "") l=true/\Mk l.length (RS (LM "") l):=by
 have fl:∀l:List Str,(∀y∈l,Mk 1 y)->(l.map tS).flatten.length=l.length/\(l.map (·.length)).sum=l.length/\∀c∈(l.map tS).flatten,IL c=true:=λl h=>by
  induction l with
  |nil=>exact⟨rfl,rfl,by simp⟩
  |cons a r ih=>
   obtain⟨i1,i2,i3⟩:=ih λy hy=>h y (LC _ hy);have ma:=h a LK;have la:=ma.len;refine⟨?_,?_,λc hc=>?_⟩
   ·rw[MP,NF,LG,i1,<-qQ,la,LO];lia
   ·rw[MP,List.sum_cons,i2,la,LO];lia
   ·rw[MP,NF]at hc;exact(MB.mp hc).elim (ma.ok c) (i3 c)
 obtain⟨f1,f2,f3⟩:=fl l h;have z:(LM "").length=0:=rfl;have tl:Builtin.Str.tooLong ((l.map (·.length)).sum+l.length*(LM "").length)=false:=by
  unfold Builtin.Str.tooLong;rw[f2,z,Nat.mul_zero,Nat.add_zero];exact oX (by have:=Ac (show l.length<=big from MV hl ∅);lia)
 refine⟨?_,?_,?_⟩
 ·unfold JoinOk;rw[StrLaws.joinTotal,tl];rfl
 ·rw[qQ];show(tS (RS ⟨#[]⟩ l)).length=_;rw[L5,f1]
 ·intro c hc;have hc:c∈tS (RS ⟨#[]⟩ l):=hc;rw[L5]at hc;exact f3 c hc
theorem Mj(k:Nat)(z:Str):Vt (k:Int) [L2.T.str z]=(LF k z).map L2.T.str:=by
 unfold Vt;rw[MR]
 induction k with
 |zero=>rfl
 |succ k ih=>rw[MM,NF,ih,MM];rfl
abbrev mK(P w K mg base):=(~~~Fn) 1 "sector_marks" ["many","is_whole","turn"] (aI K FK)
abbrev jY:SV:=top 62
theorem iX:aF ["many","is_whole","turn","marks"] ["many","is_whole","turn"] (aC jY):=dH
theorem uF(F:cI K "sector_marks" "sector_marks" jY f fd)(TX:Txt mg)(YB:sA mg w K "OTHER_MARK" "l" "r" "r" "l" "-" "-"):(~~~aS) cJ 1 f fd ["many","is_whole","turn"] (aI K FK):=by
 refine F.okU iX (λhr=>(aB (b8 (fV (fv 1)) (aE (fS 3 iX.nd (So (c8 (f1 bA)) (fv 0)))) (aE (fS 3 iX.nd (m4 (m4 (c8 (f1 bA)) (So (c8 (f1 bA)) (aU g8 (fv 0) aA))) (c8 (f1 bA)))))) (aB (b8 (eQ rfl hr (fv 2) bA (aV _)) (aE (aG (fv 3))) bH) (aE (aG (iC (N':=["row"]) (t:=1) (cap:=[]) rfl (bL.of rfl) rfl ∅ (iF rfl (fv 3)) (λ_ _ _ _=>(fH 0)) (λ_ _ _ _=>(Ze rfl bA (f1 (iC (N':=["sign"]) (t:=1) (cap:=[]) rfl (bL.of rfl) rfl ∅ (S9 (fv 0)) (λ_ _ _ _=>(fH 0)) (λ_ _ _ _=>(Li rfl rfl YB (fv 0) (λ_ _=>rfl))))))))))))) ?_;rintro as Q ⟨k,w,l,rfl,k2,aF3,q⟩;apply CP (R:=λ(L:List L2.T)=>∃ss:List Str,L=ss.map L2.T.str/\ss.length=k/\∀z∈ss,z∈wQ w)
 case h=>
  intro J;show if w=true then _ else _
  by_cases hw:w=true
  ·rw[oV hw];refine⟨⟨⋯,⋯,by show 1*(k:Int).toNat<=9000;lia⟩,?_⟩;generalize hL:Vt (k:Int) _=L;exact J L ⟨LF k "-r-",by rw[<-hL];exact Mj k _,by simp,λz hz=>by rw[PL hz,hw];exact LY.mpr rfl⟩
  ·rw[oW hw];have ek:(k:Int)-2=((k-2:Nat):Int):=⋯
   have er:=Mj (k-2) "-r-l";refine⟨⟨⋯,⋯,by show 1*((k:Int)-2).toNat<=9000;lia⟩,?_⟩;rw[ek];generalize hM:Vt ((k-2:Nat):Int) _=M;have eM:M=(LF (k-2) (LM "-r-l")).map L2.T.str:=hM.symm.trans er;have lM:M.length=k-2:=by rw[eM];simp
   refine⟨by show 1+M.length<=9000;lia,by show(L2.T.str "lr-l"::M).length+1<=9000;rw[LO];lia,?_⟩;refine J ((L2.T.str "lr-l"::M)++[L2.T.str "-rll"]) ⟨LM "lr-l"::(LF (k-2) (LM "-r-l")++[LM "-rll"]),?_,?_,λz hz=>?_⟩
   ·rw[eM,MP,MF];rfl
   ·simp;lia
   ·have e:wQ w=[LM "lr-l",LM "-r-l",LM "-rll"]:=by unfold wQ;rw[oW hw]
    rw[e];obtain rfl|hz:=LH.mp hz
    ·exact LK
    ·obtain hz|hz:=MB.mp hz
     ·rw[PL hz];exact LC _ LK
     ·rw[LY.mp hz];exact LC _ (LC _ LK)
 rintro L ⟨ss,rfl,hl,hs⟩;have ok:∀z∈ss,Mk (if w=true then 3 else 4) z:=λz hz=>Cd w z (hs z hz);refine⟨LV _,?_⟩;cases l with
 |true=>exact⟨kY ss,q ss hl ok⟩
 |false=>
  refine⟨rfl,?_⟩;refine cW (λi E=>∃(v0:Option L2.U)(ts:List Str),E=[v0,↥(ts.map L2.T.str)]/\ts.length=i/\∀z∈ts,Mk (if w=true then 3 else 4) z) ⟨none,[],rfl,rfl,by simp⟩ ?_ ?_
  ·rintro i t rest E hi ⟨v0,ts,rfl,ht,hk⟩ KK;rw[LB]at hi;obtain⟨z,hz,rfl⟩:=MH.mp hi;have mz:=LD hz;have il:=(KZ.mp hz).1;have kz:=hs z mz;have step:∀m,Mk (if w=true then 3 else 4) m->(ts.map L2.T.str).length<9000/\kB _ _ rest [⇑(.str z),↥(ts.map L2.T.str++[.str m])] _:=λm hm=>
    ⟨by rw[LJ];lia,KK _ ⟨⇑(.str z),ts++[m],by rw[MF];rfl,by rw[LG,ht];rfl,λy hy=>by
     obtain hy|hy:=MB.mp hy
     ·exact hk y hy
     ·rw[LY.mp hy];exact hm⟩⟩
   have cz:∀c∈tS z,c=45\/c=108\/c=114:=F6 w z kz;refine⟨rfl,?_⟩;refine cW (λj E=>∃(v1:Option L2.U)(us:List Str),E=[v1,↥(us.map L2.T.str)]/\us.length=j/\∀y∈us,Mk 1 y) ⟨none,[],rfl,rfl,by simp⟩ ?_ ?_
   ·rintro j t lh E hj ⟨v1,us,rfl,hu,hv⟩ KK2;have hj':((tS z).map λc=>L2.T.str ⟨#[c]⟩)[j]?=oZ t:=hj;rw[LB]at hj';obtain⟨c,hc,rfl⟩:=MH.mp hj';have jl:=(KZ.mp hc).1;have z4:=(Cd w z kz).len;rw[qQ]at z4;obtain⟨d,ed,md⟩:=KO c (cz c (LD hc));show o1 ((tQ "l" "r" "r" "l" "-" "-" ⟨#[c]⟩).map L2.T.str) _;rw[ed];refine⟨by show(us.map L2.T.str).length<9000;rw[LJ];split at z4<;>lia,KK2 _ ⟨⇑(.str ⟨#[c]⟩),us++[d],by rw[MF];rfl,by rw[LG,hu];rfl,λy hy=>?_⟩⟩;obtain hy|hy:=MB.mp hy
    ·exact hv y hy
    ·rw[LY.mp hy];exact md
   ·rintro E ⟨v1,us,rfl,hu,hv⟩;have lu:us.length=if w=true then 3 else 4:=by
     rw[hu];show((tS z).map λc=>L2.T.str ⟨#[c]⟩).length=_;rw[LJ];exact(Cd w z kz).len
    refine⟨kY us,?_⟩;show o1 (kM (us.map L2.T.str)) _;rw[show kM (us.map L2.T.str)=oZ us from Gy us];obtain⟨jo,jm⟩:=Zt us hv (by split at lu<;>lia);refine⟨jo,λm hm=>?_⟩;exact step m (by rw[hm,<-lu];exact jm)
  ·rintro E ⟨v0,ts,rfl,ht,hk⟩;rw[LJ,hl]at ht;exact⟨kY ts,kY ts,q ts ht hk⟩
theorem Kd{M a b:Fr×Fr}{R:Fr}{e:Nat}(nM:Nv M.1 M.2 14)(na:Nv a.1 a.2 130)(nb:Nv b.1 b.2 130)(nR:bI R)(sR:sz R<=30)(R0:0<val R)(x:0<vX a b):Ye [M,bp M R a,bp M R b]:=by
 obtain⟨a1,a2⟩:=jN nM na nR;obtain⟨b1,b2⟩:=jN nM nb nR;refine Qn (nM.up ∅) ((vJ nM na nR sR).up ∅) ((vJ nM nb nR sR).up ∅) ?_;have e:j8 M (bp M R a) (bp M R b)=vX a b*(val R*val R):=by unfold j8 vX;rw[a1,a2,b1,b2];grind
 rw[e];exact Rat.mul_pos x (Rat.mul_pos R0 R0)
theorem Qw{M a b:Fr×Fr}{R z:Fr}(nM:Nv M.1 M.2 14)(na:Nv a.1 a.2 130)(nb:Nv b.1 b.2 130)(nR:bI R)(sR:sz R<=30)(nz:bI z)(sz':sz z<=340)(z0:0<val z)(zR:val z<val R)(x:0<vX a b):Ye [bp M z a,bp M R a,bp M R b,bp M z b]:=by
 obtain⟨a1,a2⟩:=jN nM na nR;obtain⟨b1,b2⟩:=jN nM nb nR;obtain⟨c1,c2⟩:=jN nM na nz;obtain⟨d1,d2⟩:=jN nM nb nz;have d0:0<val R-val z:=by grind
 have R0:0<val R:=by grind
 have p1:=Rat.mul_pos (Rat.mul_pos d0 R0) x;have p2:=Rat.mul_pos (Rat.mul_pos d0 z0) x;refine Gi ((vJ nM na nz sz').up ∅) ((vJ nM na nR sR).up ∅) ((vJ nM nb nR sR).up ∅) ((vJ nM nb nz sz').up ∅) ?_ ?_ ?_ ?_
 ·have e:j8 (bp M z a) (bp M R a) (bp M R b)=(val R-val z)*val R*vX a b:=by unfold j8 vX;rw[a1,a2,b1,b2,c1,c2];grind
  rw[e];exact p1
 ·have e:j8 (bp M R a) (bp M R b) (bp M z b)=(val R-val z)*val R*vX a b:=by unfold j8 vX;rw[a1,a2,b1,b2,d1,d2];grind
  rw[e];exact p1
 ·have e:j8 (bp M R b) (bp M z b) (bp M z a)=(val R-val z)*val z*vX a b:=by unfold j8 vX;rw[b1,b2,c1,c2,d1,d2];grind
  rw[e];exact p2
 ·have e:j8 (bp M z b) (bp M z a) (bp M R a)=(val R-val z)*val z*vX a b:=by unfold j8 vX;rw[a1,a2,c1,c2,d1,d2];grind
  rw[e];exact p2
theorem R1(h:cA a.1 a.2 e)(k:cA b.1 b.2 f):vD a b<=1:=by
 have o1:=h.one;have o2:=k.one;have s1:0<=(val a.1-val b.1)*(val a.1-val b.1):=by
  rcases Rat.le_total (a:=0) (b:=val a.1-val b.1)with c|c
  ·exact Rat.mul_nonneg c c
  ·have:=Rat.mul_nonneg (a:=-(val a.1-val b.1)) (b:=-(val a.1-val b.1)) (by grind) (by grind);grind
 have s2:0<=(val a.2-val b.2)*(val a.2-val b.2):=by
  rcases Rat.le_total (a:=0) (b:=val a.2-val b.2)with c|c
  ·exact Rat.mul_nonneg c c
  ·have:=Rat.mul_nonneg (a:=-(val a.2-val b.2)) (b:=-(val a.2-val b.2)) (by grind) (by grind);grind
 unfold vD;grind
theorem Us.ld{u w:Fr×Fr}{us:List (Fr×Fr)}(U:Us u w us):∀i,i+2<=us.length->0<=val (Pn (us.map bE) i)/\val (Pn (us.map bE) i)<=1:=by
 have two:∀i,i+2<=us.length->0<=val (Yh ((us.map bE).getD i .non) ((us.map bE).getD (i+1) .non))/\val (Yh ((us.map bE).getD i .non) ((us.map bE).getD (i+1) .non))<=1:=λi hi=>by
  obtain⟨a1,a2⟩:=U.at_ (i:=i) ⋯;obtain⟨b1,b2⟩:=U.at_ (i:=i+1) ⋯;have ga:∀{j c},us[j]?=oZ c->(us.map bE).getD j .non=bE c:=λ{j c}h=>by rw[MC,LB,h];rfl
  rw[ga a1,ga b1];have e:val (Yh (bE (gU us i)) (bE (gU us (i+1))))=vD (gU us i) (gU us (i+1)):=by
   unfold Yh;have c:∀c:Fr×Fr,cx (bE c)=c:=λc=>tM c.1 c.2;rw[c,c];exact dX a2.nv b2.nv
  rw[e];exact⟨(U.nb i _ _ a1 b1).2,R1 a2 b2⟩
 intro i
 induction i with
 |zero=>intro hi;exact two 0 hi
 |succ i ih=>
  intro hi;show 0<=val (mn _ _)/\val (mn _ _)<=1;unfold mn
  split
  ·exact two (i+1) ⋯
  ·exact ih ⋯
theorem FY{us:List (Fr×Fr)}{MK:List Str}(h:(jA ((zW us).map bE) (fO ((zW us).map bE) (oZ 1) none) (MK.map L2.T.str))[j]?=oZ t):j+1<2*us.length-1/\∃m,MK[j]?=oZ m/\t = .tup [bE (tV us j),bE (tV us (j+1)),.str m]:=by
 obtain⟨x,y,z,h1,h2,h3,rfl⟩:=xQ h;have e1:=eR ((zW us).map bE) 1;rw[show fO ((zW us).map bE) (oZ 1) none=((zW us).map bE).drop 1 from e1,OO,LB,OD 1 j]at h2;rw[LB]at h1 h3;obtain⟨b,hb,rfl⟩:=MH.mp h2;obtain⟨a,ha,rfl⟩:=MH.mp h1;obtain⟨m,hm,rfl⟩:=MH.mp h3;have l:=(KZ.mp hb).1;rw[Xy]at l;rw[P4 l]at hb;cases hb;rw[P4 ⋯]at ha;cases ha;exact⟨l,m,hm,rfl⟩
def O7:dG:=λas Q=>∃(a b:Fr)(ms:List Mv)(i:Nat)(x y u v r:Fr)(l:Bool)(p:Fr)(s:Int),as=[.v (cF a b (cN a b ms)),.v (.int (i:Int)),.v (fr p),.v (.int s)]/\Pm a b ms/\ms[i]?=oZ (.arc x y u v r l)/\Fw p/\(s=1\/s=2\/s=3)/\
 ∀L,2<=L.length->L.length%2=0->L.length<=60->(∀t∈L,Gb t "sector" i)->Q (.l L) []
theorem uQ{w:Str}{i:Nat}:∀{L:List L2.T},(∀t∈L,Gb t w i)->bM L=true
 |[],_=>rfl
 |t::L,h=>by
  show(noL t&&bM L)=true;rw[nG (h t LK),uQ λs hs=>h s (LC _ hs)];rfl
abbrev u6(P w K mg base):=(~~~Fn) 9 "sectors" oK (aI K O7)
abbrev sX:SV:=top 63
theorem bX:aF ["path","number","far","steps","radius","units","inner","outer","rays","marks","found","middle","turn","one","other","row","high","outline"] oK (aC sX):=dH
theorem Jh(F:cI K "sectors" "sectors" sX f fd)(TX:Txt mg)(YH: ~~~rB)(YI: ~~~qX)(YS: ~~~tJ)(YJ: ~~~qZ)(VS: ~~~fT)(YK: ~~~rE)(XJ: ~~~mK)(WS: ~~~rA)(WD: ~~~kP)(XI:mH mg K "NOUGHT" (.tup [.int 0,.int 1])):(~~~aS) cJ 9 f fd oK (aI K O7):=by
 refine F.okU bX (λhr=>(aB (gZ (i:=11) (j:=12) rfl bX.nd rfl rfl ∅ rfl rfl (f2 (fX (fX (fQ 0) (fv 1)) aA) (fX (fX (fQ 0) (fv 1)) aA)) rfl) (aB (fS 4 bX.nd (fK YH (f2 (fv 0) (fv 1)))) (aB (fS 5 bX.nd (fK YI (f3 (fv 0) (fv 1) (fv 3)))) (aB (fS 6 bX.nd (fK YS (f3 (fv 4) (fv 2) (fK YJ (f1 (fv 5)))))) (aB (fS 7 bX.nd (fK VS (f2 (fv 4) (fv 2)))) (aB (fS 8 bX.nd (fK YK (f1 (fv 5)))) (aB (fS 9 bX.nd (fK XJ (f3 (aU g8 (dJ rfl rfl TX.n_len (f1 (fv 8))) aA) (tO rfl hr (fv 6) (iD rfl XI) (aV _)) (fv 12)))) (aB (fS 10 bX.nd (c8 bQ)) (aB (jQ PassesOwn.never rfl (Zi rfl rfl TX.n_zip (f3 (fv 8) (gY rfl (fv 8) (jB aA) o8) (fv 9))) (dA (n:=3) rfl rfl (aM (fG 13 bX.nd) (aM (fG 14 bX.nd) (aM (fG 15 bX.nd) cE)))) (aB (fS 16 bX.nd (aN (f2 (fK WS (f2 (fv 11) (fK WD (f2 (fv 13) (fv 7))))) (fK WS (f2 (fv 11) (fK WD (f2 (fv 14) (fv 7)))))))) (aB (b8 (eQ rfl hr (fv 6) (iD rfl XI) (aV _)) (aE (fS 17 bX.nd (An rfl (aN (f1 (fv 11))) (fv 16)))) (aE (fS 17 bX.nd (An rfl (An rfl (aN (f1 (fK WS (f2 (fv 11) (fK WD (f2 (fv 13) (fv 6))))))) (fv 16)) (aN (f1 (fK WS (f2 (fv 11) (fK WD (f2 (fv 14) (fv 6))))))))))) (aE (jC (gX rfl (fv 10) (f1 (aN (f4 bA (fv 1) (fv 17) (fv 15)))))))))) (aE (aG (fv 10))))))))))))) ?_;rintro as Q ⟨a,b,ms,i,x,y,u,v,r,l,p,s,rfl,h,hi,fw,hs,q⟩;have hp:=kG ms a b _ _ hi;have pa:=h.at_ hi;have ok:=h.ok _ (LD hi);obtain⟨nr,sr,r0⟩:bI r/\sz r<=4/\0<val r:=ok.len;have oc:=mX h.chain hp;have nM:Nv (aR (px a b ms i) (aJ x r)) (aR (py a b ms i) (aJ y r)) 14:=oc.1;have sp:=fw.s;have p0:=fw.pos;show o1 (eV ((cN a b ms).map jD) (i:Int)) _;rw[nK hp];show o1 (eV ((cN a b ms).map jD) (i:Int)) _;rw[nK hp];refine⟨a,b,_,i,_,_,rfl,pa,?_⟩;refine⟨a,b,ms,i,x,y,u,v,r,l,s,rfl,h,hi,hs,λU0 W0 us U=>?_⟩;have n2:=U.n2;have n30:=U.n30;have lu:(us.map bE).length=us.length:=LJ ..;have uv:∀t∈us.map bE,Uv 150 t:=λt ht=>by
  obtain⟨c,hc,rfl⟩:=NO.mp ht;exact⟨_,_,rfl,(U.uv c hc).up ∅⟩
 obtain⟨d1,d2⟩:=Tr uv (us.length-2) ⋯;obtain⟨d3,d4⟩:=U.ld (us.length-2) ⋯;refine⟨us.map bE,rfl,⋯,⋯,uv,?_⟩;rw[lu];refine⟨r,p,_,rfl,nr,sr,r0,fw,d1,⋯,d3,d4,λz nz sz' hz=>?_⟩;refine⟨r,p,rfl,nr,fw.n,⋯,?_⟩;have nR:=c7 nr fw.n;have sR:sz (bJ r p)<=30:=by have:=iY nr fw.n;lia
 have vR:=bO nr fw.n;refine⟨U0,W0,us,rfl,U,?_⟩;refine⟨b7 rfl,?_⟩;have lw:=Xy (us:=us);have lw':((zW us).map bE).length=2*us.length-1:=by rw[LJ,lw]
 refine⟨2*us.length-2,decide (z=(0,1)),l,?_,⋯,⋯,λMK lMK hMK=>?_⟩
 ·show[A.v (.int ((((zW us).map bE).length:Nat)-1:Int)),A.v (.bl (L2.cS (fr z) (fr (0,1)))),A.v (.str (r6 l))]=_;rw[Ld,lw',show(((2*us.length-1:Nat):Int)-1)=((2*us.length-2:Nat):Int) by lia]
 refine cX (λj E=>∃(yo yp yq uj uk:Option L2.U)(L:List L2.T),E=[⇑(cF a b (cN a b ms)),↑(i:Int),⇑(fr p),↑s,⇑(fr r),↥(us.map bE),⇑(fr z),⇑(fr (bJ r p)),⇑(.lst ((zW us).map bE)),⇑(.lst (MK.map L2.T.str)),↥L,⇑(vc (aR (px a b ms i) (aJ x r)) (aR (py a b ms i) (aJ y r))),⇑(.str (r6 l)),yo,yp,yq,uj,uk]/\L.length=j/\∀t∈L,Gb t "sector" i) ⟨none,none,none,none,none,[],rfl,rfl,by simp⟩ ?_ ?_
 ·rintro j t rest E hj ⟨yo,yp,yq,uj,uk,L,rfl,hL,hG⟩ KK;obtain⟨lj,m,hm,rfl⟩:=FY hj;have na:=U.wt (j:=j) ⋯;have nb:=U.wt lj;have xx:=U.wtX lj;have mm:=hMK m (LD hm);have done:∀V,Ye V->Mk V.length m->∀uj uk,∃(yo yp yq aB2 aB3:Option L2.U)(L':List L2.T),[⇑(cF a b (cN a b ms)),↑(i:Int),⇑(fr p),↑s,⇑(fr r),↥(us.map bE),⇑(fr z),⇑(fr (bJ r p)),⇑(.lst ((zW us).map bE)),⇑(.lst (MK.map L2.T.str)),↥(L++[Q1 "sector" i V m]),⇑(vc (aR (px a b ms i) (aJ x r)) (aR (py a b ms i) (aJ y r))),⇑(.str (r6 l)),⇑(bE (tV us j)),⇑(bE (tV us (j+1))),⇑(.str m),uj,uk]=[⇑(cF a b (cN a b ms)),↑(i:Int),⇑(fr p),↑s,⇑(fr r),↥(us.map bE),⇑(fr z),⇑(fr (bJ r p)),⇑(.lst ((zW us).map bE)),⇑(.lst (MK.map L2.T.str)),↥L',⇑(vc (aR (px a b ms i) (aJ x r)) (aR (py a b ms i) (aJ y r))),⇑(.str (r6 l)),yo,yp,yq,aB2,aB3]/\L'.length=j+1/\∀t∈L',Gb t "sector" i:=λV hV hk uj uk=>
   ⟨_,_,_,uj,uk,L++[Q1 "sector" i V m],rfl,by rw[LG,hL];rfl,λt ht=>by
    obtain ht|ht:=MB.mp ht
    ·exact hG t ht
    ·rw[LY.mp ht];exact⟨V,m,rfl,hV,hk⟩⟩
  have lp:∀t:L2.T,(L++[t]).length<=9000:=λt=>by rw[LG,hL,MD];lia
  refine⟨_,_,bJ r p,130,rfl,na,nR,⋯,?_⟩;refine⟨_,_,_,_,14,130+sz (bJ r p),rfl,nM,pZ na nR,⋯,?_⟩;refine⟨_,_,bJ r p,130,rfl,nb,nR,⋯,?_⟩;refine⟨_,_,_,_,14,130+sz (bJ r p),rfl,nM,pZ nb nR,⋯,?_⟩;refine⟨b7 rfl,?_⟩;show if L2.cS (fr z) (fr (0,1))=true then _ else _;rw[Ld]
  by_cases cz:z=(0,1)
  ·rw[oV (oY cz)];rw[oV (oY cz)]at mm;have R:=Kd (e:=14) (M:=(aR (px a b ms i) (aJ x r),aR (py a b ms i) (aJ y r))) nM na nb nR sR (by rw[vR];grind) xx;refine⟨b7 rfl,lp _,KK _ (done _ R mm _ _)⟩
  ·rw[oW (by simpa using cz)];rw[oW (by simpa using cz)]at mm;obtain⟨_,z0,zR⟩:z≠(0,1)/\0<val z/\val z<val r+val p:=hz.resolve_left cz;have R:=Qw (M:=(aR (px a b ms i) (aJ x r),aR (py a b ms i) (aJ y r))) nM na nb nR sR nz sz' z0 (by rw[vR];exact zR) xx;refine⟨_,_,z,130,rfl,na,nz,⋯,?_⟩;refine⟨_,_,_,_,14,130+sz z,rfl,nM,pZ na nz,⋯,?_⟩;refine⟨b7 rfl,?_⟩;refine⟨_,_,z,130,rfl,nb,nz,⋯,?_⟩;refine⟨_,_,_,_,14,130+sz z,rfl,nM,pZ nb nz,⋯,?_⟩;refine⟨b7 rfl,lp _,KK _ (done _ R mm _ _)⟩
 ·rintro E ⟨yo,yp,yq,uj,uk,L,rfl,hL,hG⟩;have lz:(jA ((zW us).map bE) (fO ((zW us).map bE) (oZ 1) none) (MK.map L2.T.str)).length=2*us.length-2:=by
   have e1:=eR ((zW us).map bE) 1;rw[pB,show fO ((zW us).map bE) (oZ 1) none=((zW us).map bE).drop 1 from e1,NS,lw',LJ,lMK]
   lia
  rw[lz]at hL;exact⟨uQ hG,q L ⋯ ⋯ ⋯ hG⟩
theorem Wt(h:Pm a b ms)(hi:ms[i]?=oZ (.side x y m))(fw:Fw p):Gb (Kf i (px a b ms i) (py a b ms i) (px a b ms (i+1)) (py a b ms (i+1)) (aJ (aK y) p) (aJ x p)) "strip" i:=by
 have ok:=h.ok _ (LD hi);obtain⟨nm,sm,m0⟩:bI m/\sz m<=4/\0<val m:=ok.len;have n0:=h.nv i;have n1:=h.nv (i+1);obtain⟨ex,ey⟩:=uS (a:=a) (b:=b) hi;have vx:val (px a b ms (i+1))=val (px a b ms i)+val x*val m:=by
  rw[ex];show val (bJ _ _)=_;rw[bO n0.x (aP ok.1.nv.x nm),aZ ok.1.nv.x nm]
 have vy:val (py a b ms (i+1))=val (py a b ms i)+val y*val m:=by
  rw[ey];show val (bJ _ _)=_;rw[bO n0.y (aP ok.1.nv.y nm),aZ ok.1.nv.y nm]
 have us:=ok.1.left;have nr:=jT us.nv fw.n fw.s;have r1:val (aJ (aK y) p) = -(val y*val p):=by rw[aZ us.nv.x fw.n,bR ok.1.nv.y];grind
 have r2:val (aJ x p)=val x*val p:=aZ us.nv.y fw.n;generalize aJ (aK y) p=rx at *;generalize aJ x p=ry at *;generalize px a b ms i=bx at *;generalize py a b ms i=bY at *;generalize px a b ms (i+1)=cx at *;generalize py a b ms (i+1)=cY at *;have o:=ok.1.one;have p0:=fw.pos;have pp:0<2*(val m*val p):=by have:=Rat.mul_pos m0 p0;grind
 refine⟨[(aR bx rx,aR bY ry),(aR cx rx,aR cY ry),(bJ cx rx,bJ cY ry),(bJ bx rx,bJ bY ry)],"r-l-",rfl,?_,(Mk.of (by decide +kernel):Mk 4 (LM "r-l-"))⟩;have v1:=bW n0.x nr.x;have v2:=bW n0.y nr.y;have v3:=bW n1.x nr.x;have v4:=bW n1.y nr.y;have v5:=bO n1.x nr.x;have v6:=bO n1.y nr.y;have v7:=bO n0.x nr.x;have v8:=bO n0.y nr.y;have dP:∀t:Rat,t=2*(val m*val p)*(val x*val x+val y*val y)->0<t:=λt e=>by rw[e,o];grind
 refine Gi ((vZ n0 nr).up ∅) ((vZ n1 nr).up ∅) ((wA n1 nr).up ∅) ((wA n0 nr).up ∅) (dP _ ?_) (dP _ ?_) (dP _ ?_) (dP _ ?_)
 all_goals
  unfold j8;simp only;simp only[v1,v2,v3,v4,v5,v6,v7,v8,vx,vy,r1,r2];grind
def PB(a b:Fr)(ms:List Mv)(p:Fr)(i:Nat)(L:List L2.T):Mv->Prop
 |.side x y _=>L=[Kf i (px a b ms i) (py a b ms i) (px a b ms (i+1)) (py a b ms (i+1)) (aJ (aK y) p) (aJ x p)]
 |.arc ..=>2<=L.length/\L.length%2=0/\L.length<=60/\∀t∈L,Gb t "sector" i
theorem PB.len:∀{m:Mv},PB a b ms p i L m->L.length<=60
 |.side ..,h=>by rw[show L=_ from h];exact b7 rfl
 |.arc ..,h=>h.2.2.1
theorem PB.noL:∀{m:Mv},PB a b ms p i L m->bM L=true
 |.side ..,h=>by rw[show L=_ from h];rfl
 |.arc ..,h=>uQ h.2.2.2
def Ni:dG:=λas Q=>∃(a b:Fr)(ms:List Mv)(i:Nat)(m:Mv)(p:Fr)(s:Int),as=[.v (cF a b (cN a b ms)),.v (.int (i:Int)),.v (fr p),.v (.int s)]/\Pm a b ms/\ms[i]?=oZ m/\Fw p/\(s=1\/s=2\/s=3)/\∀L,PB a b ms p i L m->Q (.l L) []
abbrev mJ(P w K mg base):=(~~~Fn) 10 "piece_blocks" oK (aI K Ni)
abbrev jX:SV:=top 64
theorem uG:aF oK oK (aC jX):=dH
theorem uD(F:cI K "piece_blocks" "piece_blocks" jX f fd)(TX:Txt mg)(WE: ~~~jI)(YC: ~~~pI)(ZC: ~~~u6):(~~~aS) cJ 10 f fd oK (aI K Ni):=by
 refine F.okU uG (λhr=>(aB (b8 (fV (fK WE (f1 (fX (fQ 0) (fv 1))))) (aE (aG (c8 (f1 (fK YC (f3 (fv 0) (fv 1) (fv 2))))))) bH) (aE (aG (fK ZC (f4 (fv 0) (fv 1) (fv 2) (fv 3))))))) ?_;rintro as Q ⟨a,b,ms,i,m,p,s,rfl,h,hi,fw,hs,q⟩;have hp:=kG ms a b _ _ hi;show o1 (eV ((cN a b ms).map jD) (i:Int)) _;rw[nK hp];refine⟨_,rfl,?_⟩;cases m with
 |side x y m=>exact⟨a,b,ms,i,x,y,m,p,rfl,h,hi,fw,rfl,q _ rfl⟩
 |arc x y u v r l=>exact⟨a,b,ms,i,x,y,u,v,r,l,p,s,rfl,h,hi,fw,hs,λL h2 he h60 hG=>⟨uQ hG,q L ⟨h2,he,h60,hG⟩⟩⟩
theorem Ls(h:Ln a b f p)(k:Ln a b g p):f=g:=by
 have dP:∀{x y f g:Fr},vA x y f->vA x y g->f=g:=λ{x y f g}h k=>by
  refine b9 h.nf k.nf ?_;have e:val f*val f=val g*val g:=by rw[<-h.sq,<-k.sq]
  have f0:=h.pos;have g0:=k.pos;have z:(val f-val g)*(val f+val g)=0:=by grind
  rcases Rat.mul_eq_zero.mp z with q|q<;>grind
 cases p with
 |side x y=>exact dP h k
 |arc m n x y l=>exact dP h.1 k.1
theorem Pm.cw(h:Pm a b ms)(hi:ms[i]?=oZ m)(hk:ms[dI i ms.length]?=oZ mb):My.cw a b (cN a b ms) i=iZ (eU mb) (bU m):=by
 obtain⟨nb,e1,e2⟩:=h.nbr hi hk;obtain⟨p,q,f,g,nb',e⟩:=L7 (a:=a) (b:=b) (ps:=cN a b ms) (i:=i) (h.st.1.up ∅) (rH ∅ h.chain) (by rw[fA];exact(KZ.mp hi).1);have p1:=nb.one.at_;rw[nb'.one.at_]at p1;cases p1;have p2:=nb.two.at_;rw[nb'.two.at_]at p2;cases p2;have f1:=Ls nb'.one.ln nb.one.ln;have f2:=Ls nb'.two.ln nb.two.ln;subst f1;subst f2;rw[<-e,e1,e2]
def Ww:BI:=λas Q=>∃(a b:Fr)(ms:List Mv),as=[.v (cF a b (cN a b ms))]/\Pm a b ms/\∀VN,(∀n v,iA VN (Sum.inl n)=oZ v->∃i:Nat,n=(i:Int)/\i<ms.length/\v = .str (My.cw a b (cN a b ms) i)/\My.cw a b (cN a b ms) i≠"straight")->Q VN
theorem Kw{n:Int}:∀{xs:List (Int×Str)}{acc:List (Key×V)},iA (Yg c xs acc) (Sum.inl n)=oZ v->iA acc (Sum.inl n)=oZ v\/∃x∈xs,x.1=n/\x.2≠c/\v = .str x.2
 |[],acc,h=>.inl h
 |x::xs,acc,h=>by
  rcases Kw (xs:=xs) h with q|⟨y,hy,q⟩
  ·by_cases e:x.2=c
   ·rw[oV e]at q;exact .inl q
   ·rw[oW e,Xw]at q
    by_cases k:(Sum.inl n:Key)=Sum.inl x.1
    ·rw[oV k]at q;cases q;exact .inr ⟨x,LK,(Sum.inl.inj k).symm,e,rfl⟩
    ·rw[oW k]at q;exact .inl q
  ·exact .inr ⟨y,LC _ hy,q⟩
abbrev Dj(P w K mg base):=(~~~Fn) 12 "bends" ["path"] (Mq K Ww)
abbrev Cf:SV:=top 65
theorem We:aF ["path"] ["path"] (aC Cf):=dH
theorem Ue(F:cI K "bends" "bends" Cf f fd)(TX:Txt mg)(ZD: ~~~uY):(~~~aS) cJ 12 f fd ["path"] (Mq K Ww):=by
 refine F.okD (c:="straight") (k:=11) We rfl (λas Q h=>?_) (λWR A outer s H E hr=>DN rfl rfl (λ_ _ _ _=>hr) (uN ZD hr ⋯ rfl (fc (fv 0) bQ)) (bL.of rfl)
  (λ_ _ _ _=>wN (rS (i:=0) (show SK (["number","word"]:List Str) by decide +kernel) rfl (MS rfl) (NC rfl)) (wN (rS (i:=1) (show SK (["number","word"]:List Str) by decide +kernel) rfl (MS rfl) (NC rfl)) Md))
  (h1:=λ_ _ _ _=>⟨sL rfl (by first|exact MS rfl|exact NC (MS rfl)|exact NC (NC rfl))⟩) (h2:=λ_ _ _ _=>⟨sL rfl (by first|exact MS rfl|exact NC (MS rfl)|exact NC (NC rfl))⟩) (h3:=λ_ _ _ _=>⟨sL rfl (by first|exact MS rfl|exact NC (MS rfl)|exact NC (NC rfl))⟩)) (λas Q h=>?_)
 ·obtain⟨a,b,ms,rfl,_⟩:=h;rfl
 ·obtain⟨a,b,ms,rfl,h,q⟩:=h;have l12:=h.len;have fl:=T2 a b (cN a b ms);have pl:=fA ms a b;refine⟨a,b,cN a b ms,rfl,h.st.1.up ∅,λz=>h.ne (ND (by rw[<-pl,z];rfl)),by rw[pl];exact l12,rH ∅ h.chain,?_⟩;refine⟨(NP ((cN a b ms).length-fst a b (cN a b ms))).map λj=>(((fst a b (cN a b ms)+j:Nat):Int),My.cw a b (cN a b ms) (fst a b (cN a b ms)+j)),?_,by simp;lia,q _ λn v hv=>?_⟩
  ·rw[List.map_map];rfl
  ·obtain z|⟨x,hx,e1,e2,e3⟩:=Kw hv
   ·cases z
   ·obtain⟨j,hj,rfl⟩:=NO.mp hx;have:=OR.mp hj;exact⟨_,e1.symm,⋯,e3,e2⟩
def pT(a b:Fr)(ms:List Mv)(p:Fr):Nat->List L2.T->Prop
 |0,L=>L=[]
 |j+1,L=>∃L0 P F:List L2.T,pT a b ms p j L0/\L=L0++P++F/\(∃m,ms[j]?=oZ m/\PB a b ms p j P m)/\(F=[]\/∃t k,F=[t]/\k<ms.length/\Gb t "fan" k)
theorem pT.len:∀{j:Nat}{L:List L2.T},pT a b ms p j L->L.length<=61*j
 |0,L,h=>by rw[show L=[]from h];exact LV _
 |j+1,L,⟨L0,P,F,h0,e,⟨m,_,hP⟩,hF⟩=>by
  have:=pT.len h0;have:=hP.len;have:F.length<=1:=by rcases hF with rfl|⟨t,k,rfl,_⟩<;>simp
  rw[e,LG,LG];lia
theorem nH:∀{xs ys:List L2.T},bM xs=true->bM ys=true->bM (xs++ys)=true
 |[],_,_,h=>h
 |x::xs,ys,h1,h2=>by
  have h1:(noL x&&bM xs)=true:=h1;rw[MT]at h1;show(noL x&&bM (xs++ys))=true;rw[h1.1,nH h1.2 h2];rfl
theorem Ff{w:Str}{i:Nat}(g:Gb t w i):bM [t]=true:=by
 show(L2.noL t&&true)=true;rw[nG g];rfl
theorem pT.noL:∀{j:Nat}{L:List L2.T},pT a b ms p j L->bM L=true
 |0,L,h=>by rw[show L=[]from h];rfl
 |j+1,L,⟨L0,P,F,h0,e,⟨m,_,hP⟩,hF⟩=>by
  have hf:bM F=true:=by
   obtain rfl|⟨t,k,rfl,_,g⟩:=hF
   ·rfl
   ·show(L2.noL t&&true)=true;rw[nG g];rfl
  rw[e];exact nH (nH h0.noL hP.noL) hf
def tW(a b:Fr)(ms:List Mv)(p:Fr)(L:List L2.T):Prop:=∃L0,pT a b ms p ms.length L0/\((Rg a b (cN a b ms)=true/\L=L0)\/(Rg a b (cN a b ms)=false/\∃t0 t1,Gb t0 "cap" 0/\Gb t1 "cap" (ms.length-1)/\L=t0::(L0++[t1])))
def N7:dG:=λas Q=>∃(a b:Fr)(ms:List Mv)(p:Fr)(s:Int),as=[.v (cF a b (cN a b ms)),.v (fr p),.v (.int s),.v (.bl false)]/\Pm a b ms/\Fw p/\(s=1\/s=2\/s=3)/\∀L,tW a b ms p L->Q (.l L) []
abbrev mR(P w K mg base):=(~~~Fn) 13 "laid_blocks" oJ (aI K N7)
abbrev kL:SV:=top 66
theorem eC:aF ["path","far","steps","is_least","words","found","number","behind"] oJ (aC kL):=dH
theorem wG(F:cI K "laid_blocks" "laid_blocks" kL f fd)(TX:Txt mg)(cq: ~~~Dj)(XM: ~~~mJ)(YD: ~~~pG)(WW: ~~~lD)(YL: ~~~rC)(ZE: ~~~uZ):(~~~aS) cJ 13 f fd oJ (aI K N7):=by
 refine F.okU eC (λhr=>(Rv (i:=4) cq hr ⋯ rfl (f1 (fv 0)) eC.nd rfl (MS rfl) (λVN=>(rK (Sb (j:=5) eC.nd rfl (MS rfl) (c8 bQ) ∅) (rK (R3 (j:=6) PassesOwn.never rfl (fM rfl TX.n_range (f1 (dJ rfl rfl TX.n_len (f1 (fQ 0))))) eC.nd rfl (MS rfl) (rK (Yx (sF rfl (fv 5) (f1 (fK XM (f4 (fv 0) (fv 6) (fv 1) (fv 2)))))) (rK (Sb (j:=7) eC.nd rfl (MS rfl) (aO fZ (aU cD (fv 6) aA) (dJ rfl rfl TX.n_len (f1 (fQ 0)))) ∅) (Ak (K4 (T3 hr rfl (by first|exact MS rfl|exact NC (MS rfl)|exact NC (NC rfl)) (fv 7)) (Ak (Rz (Ih rfl (fv 5) (R7 (Sl YD hr ⋯ rfl (R7 (QE.dd (fv 0)) (R7 (QE.dd (fv 7)) (R7 (Sn hr rfl (by first|exact MS rfl|exact NC (MS rfl)|exact NC (NC rfl)) (fv 7) (λ_ _=>rfl)) (R7 (QE.dd (fv 1)) (R7 (QE.dd (fv 2)) (R7 (QE.dd (fv 3)) (QA.dd bQ)))))))) (QA.dd bQ))))) Rw)))) ∅) (rK (K4 (bd (fV (fK WW (f1 (fv 0))))) (Ak (Sa (fv 5))) Rw) (Ak (Sa (m4 (m4 (c8 (f1 (fK YL (f4 (fv 0) (fv 1) (fv 2) (fv 3))))) (fv 5)) (c8 (f1 (fK ZE (f4 (fv 0) (fv 1) (fv 2) (fv 3)))))))))))))) ?_;rintro as Q ⟨a,b,ms,p,s,rfl,h,fw,hs,q⟩;have l12:=h.len;have l1:=OY.mpr h.ne;have pl:=fA ms a b;have em:((((cN a b ms).map jD).length:Nat):Int)=(ms.length:Int):=by rw[LJ,pl]
 refine⟨a,b,ms,rfl,h,λVN hk=>?_⟩;refine⟨⟨by rw[em];lia,by rw[em];lia⟩,?_⟩;rw[em,MR];refine cX (λj E=>∃(v6 v7:Option L2.U)(L:List L2.T),E=[⇑(cF a b (cN a b ms)),⇑(fr p),↑s,⇑(.bl false),none,↥L,v6,v7]/\pT a b ms p j L) ⟨none,none,[],rfl,rfl⟩ ?_ ?_
 ·rintro j t rest E hj ⟨v6,v7,L,rfl,hT⟩ KK;obtain⟨jl,rfl⟩:=nL hj;have lT:=hT.len;rw[Int.zero_add];have hm:=LA jl;refine⟨a,b,ms,j,_,p,s,rfl,h,hm,fw,hs,λPl hP=>?_⟩;have lP:=hP.len;refine⟨by show(L++Pl).length<=9000;rw[LG];lia,?_⟩;refine⟨by show(0:Int)<((((cN a b ms).map jD).length:Nat):Int);rw[em];lia,?_⟩;obtain⟨k,wb,kl⟩:∃k:Nat,((j:Int)+1)%(ms.length:Int)=(k:Int)/\k<ms.length:=⟨(((j:Int)+1)%(ms.length:Int)).toNat,by have:=PD ((j:Int)+1) (show(ms.length:Int)≠0 by lia);lia,by
   have:=PD ((j:Int)+1) (show(ms.length:Int)≠0 by lia);have:=ON ((j:Int)+1) (show 0<(ms.length:Int) by lia)
   lia⟩
  have vz:((j:Int)+1)%((((cN a b ms).map jD).length:Nat):Int)=(k:Int):=by rw[em];exact wb
  show if(iA VN (Sum.inl (((j:Int)+1)%((((cN a b ms).map jD).length:Nat):Int)))).isSome=true then _ else _;rw[vz];cases hv:iA VN (Sum.inl (k:Int))with
  |none=>
   rw[oW ∅];exact KK _ ⟨↑(j:Int),↑(k:Int),L++Pl,rfl,L,Pl,[],hT,(MG _).symm,⟨_,hm,hP⟩,.inl rfl⟩
  |some v=>
   rw[oV (by rfl)];obtain⟨i,e1,il,rfl,ns⟩:=hk _ _ hv;obtain rfl:k=i:=⋯
   have hmk:=LA kl;have zr:=LA (Dm kl);have ew:=h.cw hmk zr;refine⟨_,hv,?_⟩;refine⟨a,b,ms,k,_,_,_,p,s,rfl,h,hmk,zr,ew,ns,fw,hs,λt g=>?_⟩;refine⟨by show((L++Pl)++[t]).length<=9000;rw[LG,LG,MD];lia,?_⟩;exact KK _ ⟨↑(j:Int),↑(k:Int),(L++Pl)++[t],rfl,L,Pl,[t],hT,rfl,⟨_,hm,hP⟩,.inr ⟨t,k,rfl,kl,g⟩⟩
 ·rintro E ⟨v6,v7,L,rfl,hT⟩;have lr:(iP 0 ms.length).length=ms.length:=by simp[iP]
  rw[lr]at hT;have lT:=hT.len;refine⟨a,b,_,rfl,λz=>h.ne (ND (by rw[<-pl,z];rfl)),?_⟩;show if Rg a b (cN a b ms)=true then _ else _
  by_cases c:Rg a b (cN a b ms)=true
  ·rw[oV c];exact⟨hT.noL,q L ⟨L,hT,.inl ⟨c,rfl⟩⟩⟩
  ·rw[oW c];have hm0:=LA l1;have mr:=LA (show ms.length-1<ms.length by lia);refine⟨a,b,ms,_,p,s,rfl,h,hm0,fw,hs,λt0 g0=>?_⟩;refine⟨by show 1+L.length<=9000;lia,?_⟩;refine⟨a,b,ms,_,p,s,rfl,h,mr,fw,hs,λt1 g1=>?_⟩;refine⟨by show(t0::L).length+1<=9000;rw[LO];lia,?_⟩;refine⟨?_,q _ ⟨L,hT,.inr ⟨by simpa using c,t0,t1,g0,g1,rfl⟩⟩⟩;show(L2.noL t0&&bM (L++[t1]))=true;rw[nG g0,nH hT.noL (Ff g1)];rfl
def Mx:dG:=λas Q=>∃(a b:Fr)(ms:List Mv)(p:Fr)(s:Int),as=[.v (cF a b (cN a b ms)),.v (fr p),.v (.int s)]/\Pm a b ms/\Fw p/\(s=1\/s=2\/s=3)/\∀L,tW a b ms p L->Q (.l L) []
theorem tW.noL(h:tW a b ms p L):bM L=true:=by
 obtain⟨L0,hT,⟨_,rfl⟩|⟨_,t0,t1,g0,g1,rfl⟩⟩:=h
 ·exact hT.noL
 ·show(L2.noL t0&&bM (L0++[t1]))=true;rw[nG g0,nH hT.noL (Ff g1)];rfl
abbrev yG(P w K mg base):=(~~~Fn) 14 "blocks" ["path","far","steps"] (aI K Mx)
abbrev wR:SV:=top 67
theorem Qp:aF ["path","far","steps"] ["path","far","steps"] (aC wR):=dH
theorem Pr(F:cI K "blocks" "blocks" wR f fd)(TX:Txt mg)(XW: ~~~mR):(~~~aS) cJ 14 f fd ["path","far","steps"] (aI K Mx):=by
 refine F.okU Qp (λhr=>(aE (aG (fK XW (f4 (fv 0) (fv 1) (fv 2) tN))))) ?_;rintro as Q ⟨a,b,ms,p,s,rfl,h,fw,hs,q⟩;exact⟨a,b,ms,p,s,rfl,h,fw,hs,λL hL=>⟨hL.noL,q L hL⟩⟩
theorem BQ{V:List (Fr×Fr)}(h3:3<=V.length)(hk:k<V.length):eV (V.map bE) ((k:Int)-2)=oZ (bE (cy V k))/\eV (V.map bE) ((k:Int)-1)=oZ (bE (cy V (k+1)))/\eV (V.map bE) (k:Int)=oZ (bE (cy V (k+2))):=by
 have dP:∀(z:Int)(j:Nat),-(V.length:Int)<=z->z<V.length->((j:Int)=z\/(j:Int)=z+V.length)->j<V.length->eV (V.map bE) z=oZ (bE (V.getD j d0)):=λz j h1 h2 h3 hj=>by
  have e:Hn (V.map bE).length z=oZ j:=by
   unfold Hn;rw[LJ];obtain h3|h3:=h3
   ·rw[oV ⋯,oV ⋯];congr 1;lia
   ·rw[oW ⋯,oV ⋯];congr 1;lia
  unfold eV;rw[e];show(V.map bE)[j]?=_;rw[LB,MC,LA hj];rfl
 have md:∀{k j:Nat},j<V.length->(k+V.length-2=j\/k+V.length-2=j+V.length)->(k+V.length-2)%V.length=j:=λ{k j}h1 h2=>by
  obtain h2|h2:=h2
  ·rw[h2];exact QF h1
  ·rw[h2,Nat.add_mod_right];exact QF h1
 have iu:∀k j,(k+V.length-2)%V.length=j->cy V k=V.getD j d0:=λk j h=>by unfold cy;rw[h]
 have main:∀(k:Nat)(z:Int),k<V.length+2->z=(k:Int)-2->eV (V.map bE) z=oZ (bE (cy V k)):=λk z hk hz=>by
  obtain c|c:=MN k 2
  ·rw[iu k (k+V.length-2) (md ⋯ (.inl rfl))];exact dP _ _ ⋯ ⋯ (.inr ⋯) ⋯
  ·rw[iu k (k-2) (md ⋯ (.inr ⋯))];exact dP _ _ ⋯ ⋯ (.inl ⋯) ⋯
 exact⟨main k _ ⋯ rfl,main (k+1) _ ⋯ ⋯,main (k+2) _ ⋯ ⋯⟩
theorem Ye.cnv{V:List (Fr×Fr)}(R:Ye V)(k:Nat):Nv (cy V k).1 (cy V k).2 600:=by
 have n3:=R.n3;have hj:(k+V.length-2)%V.length<V.length:=QV _ ⋯;unfold cy;rw[MC,LA hj];exact R.nv _ (NM hj)
def JM:dG:=λas Q=>∃(t:L2.T)(wd:Str)(i many:Nat),as=[.v t,.v (.int (many:Int))]/\Gb t wd i/\i<many/\Q (.v (.bl true)) []
abbrev mI(P w K mg base):=(~~~Fn) 4 "_law_block_right" ["_law_block","_law_many"] (aI K JM)
abbrev jW:SV:=top 90
theorem bP:aF ["_law_block","_law_many","_law_turns","_law_k","_law_word","_law_number","_law_spots","_law_marks","_law_side","_law_one","_law_other","_law_third"] ["_law_block","_law_many"] (aC jW):=dH
theorem uC(F:cI K "_law_block_right" "_law_block_right" jW f fd)(TX:Txt mg)(ZR: ~~~yI)(XT: ~~~uI):(~~~aS) cJ 4 f fd ["_law_block","_law_many"] (aI K JM):=by
 refine F.okU bP (λhr=>(aB (d8 (fv 0) (dA (n:=4) rfl rfl (aM (fG 4 bP.nd) (aM (fG 5 bP.nd) (aM (fG 6 bP.nd) (aM (fG 7 bP.nd) cE)))))) (aB (b8 (t7 (m9 (Aw (Sx L9 i9 aA (fv 5) (fv 1))) (m9 (fP i9 (dJ rfl rfl TX.n_len (f1 (fv 6))) aA) (m9 (pN rfl hr (Zf rfl TX.n_len (f1 (fv 7))) (dJ rfl rfl TX.n_len (f1 (fv 6))) (aV _)) (lK (pN rfl hr (Sr (fv 7) (f1 bA)) bA (aV _))))))) (aE (aG tN)) bH) (aB (fS 2 bP.nd aA) (aB (jQ PassesOwn.never rfl (fM rfl TX.n_range (f1 (dJ rfl rfl TX.n_len (f1 (fv 6))))) (fG 3 bP.nd) (aB (Zj (i:=9) (j:=10) (k:=11) rfl bP.nd rfl rfl rfl ∅ ∅ ∅ rfl rfl rfl (f3 (fX (fv 6) (aU g8 (fv 3) aA)) (fX (fv 6) (aU g8 (fv 3) aA)) (fX (fv 6) (fv 3))) rfl) (aB (fS 8 bP.nd (fX (fK ZR (f2 (fK XT (f2 (fv 10) (fv 9))) (fK XT (f2 (fv 11) (fv 10))))) aA)) (aB (b8 (t7 (m9 (eQ rfl hr (fv 9) (fv 10) (aV _)) (lK (fP i9 (fv 8) aA)))) (aE (aG tN)) bH) (aE (fS 2 bP.nd (aU cD (fv 2) (Ao rfl TX.n_int (f1 (Eh rR (fv 8) aA (aV _))))))))))) (aE (aG (Eh rR (fv 2) aA (aV _))))))))) ?_;rintro as Q ⟨t,wd,i,many,rfl,⟨V,mk,rfl,R,hm⟩,hi,q⟩;have n3:=R.n3;have lm:((((V.map bE).length:Nat)):Int)=(V.length:Int):=by rw[LJ]
 have ms':=hm.strip;show if(!decide ((i:Int)<(many:Int)))=true then _ else _;rw[oY (show(i:Int)<(many:Int) by lia),oW ∅];show if decide ((((V.map bE).length:Nat):Int)<3)=true then _ else _;rw[lm,oX (show ¬(V.length:Int)<3 by lia),oW ∅];refine⟨by rw[hm.len];exact MV R.n100 ∅,b7 rfl,?_⟩;show if(!L2.cS (.int (mk.length:Int)) (.int (((V.map bE).length:Nat):Int)))=true then _ else _;rw[hm.len,lm,dQ,oW ∅];refine⟨by rw[hm.len];exact MV R.n100 ∅,λz hz=>⟨b7 rfl,?_⟩⟩;rw[ms']at hz;show if(!L2.cS (.str z) (.str ""))=true then _ else _;rw[hz,dQ,oW ∅];have n100:=R.n100;refine⟨⟨by rw[lm];lia,by rw[lm];lia⟩,?_⟩;show Ho _ (i8 _ _ _ (iP 0 ((((V.map bE).length:Nat):Int)).toNat));rw[lm,MR];refine cX (λk E=>∃(c:Int)(v3 v8 v9 v10 v11:Option L2.U),E=[⇑(Q1 wd i V mk),↑(many:Int),↑c,v3,⇑(.str wd),↑(i:Int),⇑(.tup (V.map bE)),⇑(.str mk),v8,v9,v10,v11]/\c<=k/\0<=c/\(k<=1->c=k)/\(1<k->(k:Int)-1<=c)/\(1<k->0<j8 (cy V 1) (cy V 2) (cy V 3)->(k:Int)<=c)) ⟨0,none,none,none,none,none,rfl,Int.le_refl _,Int.le_refl _,λ_=>rfl,λz=>absurd z ∅,λz=>absurd z ∅⟩ ?_ ?_
 ·rintro k t rest E hk ⟨c,v3,v8,v9,v10,v11,rfl,c1,c0,c2,c3,c4⟩ KK;obtain⟨kl,rfl⟩:=nL hk;rw[Int.zero_add];obtain⟨a1,a2,a3⟩:=BQ n3 kl;have w1:=R.cnv k;have w2:=R.cnv (k+1);have w3:=R.cnv (k+2);have ne:=R.ne k kl;show o1 (eV (V.map bE) ((k:Int)-2)) _;rw[a1];show o1 (eV (V.map bE) ((k:Int)-1)) _;rw[a2];show o1 (eV (V.map bE) (k:Int)) _;rw[a3];have s1:=vZ w2 w1;have s2:=vZ w3 w2;refine⟨_,_,_,_,600,600,rfl,w2,w1,∅,_,_,_,_,600,600,rfl,w3,w2,∅,?_⟩;refine⟨_,_,_,_,1201,1201,rfl,s1,s2,∅,?_⟩;have wg:=dU s1 s2;have nc:=cH s1 s2;rw[bW w2.x w1.x,bW w2.y w1.y,bW w3.x w2.x,bW w3.y w2.y]at wg;replace wg:val _=j8 (cy V k) (cy V (k+1)) (cy V (k+2)):=wg;generalize hz:aY _ _ _ _=f at wg nc;refine⟨b7 rfl,?_⟩;show if L2.cS (bE (cy V k)) (bE (cy V (k+1)))=true then _ else _;rw[Sh,oX ne,oW ∅];have f0:0<=f.1:=by
   refine(dN nc).1 ?_;rw[wg]
   by_cases k1:k=1
   ·subst k1;exact R.p1
   ·exact Rat.le_of_lt (R.ps k kl k1)
  have fp:k≠1\/0<j8 (cy V 1) (cy V 2) (cy V 3)->0<f.1:=λz=>by
   refine(mG nc).1 ?_;rw[wg]
   by_cases k1:k=1
   ·subst k1;exact z.resolve_left (λy=>y rfl)
   ·exact R.ps k kl k1
  show if decide (f.1<0)=true then _ else _;rw[oX ⋯,oW ∅];obtain⟨d,hd⟩:∃d:Int,(if decide (0<f.1)=true then(1:Int)else 0)=d:=⟨_,rfl⟩;have dv:(0<f.1->d=1)/\(¬0<f.1->d=0):=⟨λz=>by rw[<-hd,oV (oY z)],λz=>by rw[<-hd,oW (by rw[oX z];decide)]⟩;refine KK _ ⟨c+(if decide (0<f.1)=true then(1:Int)else 0),_,_,_,_,_,rfl,?_⟩;rw[hd];have db:0<=d/\d<=1:=by
   by_cases z:0<f.1
   ·rw[dv.1 z];decide
   ·rw[dv.2 z];decide
  refine⟨by push_cast;lia,⋯,λz=>?_,λz=>?_,λz s=>?_⟩
  ·have k0:k=0:=⋯
   have:=dv.1 (fp (.inl ⋯));have:=c2 ⋯
   push_cast;lia
  ·by_cases k1:k=1
   ·have:=c2 ⋯
    push_cast;lia
   ·have:=dv.1 (fp (.inl k1));have:1<k:=⋯
    have:=c3 this
    push_cast;lia
  ·have:=dv.1 (fp (.inr s))
   by_cases k1:k<=1
   ·have:=c2 k1
    push_cast;lia
   ·have:=c4 ⋯ s
    push_cast;lia
 ·rintro E ⟨c,v3,v8,v9,v10,v11,rfl,c1,c0,c2,c3,c4⟩;have lr:(iP 0 V.length).length=V.length:=by simp[iP]
  rw[lr]at c1 c2 c3 c4;have aB4:2<c:=by
   obtain o|o:=R.or_
   ·have:=c3 ⋯;lia
   ·have:=c4 ⋯ o;lia
  show L2.noL (.bl (decide (2<c)))=true/\Q (.v (.bl (decide (2<c)))) [];rw[oY aB4];exact⟨rfl,q⟩
def P2:L2.T->Str
 |.tup (.str w::_)=>w
 |_=>LM ""
def jV(k:Nat):L2.T->Bool
 |.tup (.str w::.int i::_)=>decide (i=(k:Int))&&(decide (w=LM "strip")||decide (w=LM "sector"))
 |_=>false
theorem Gb.wd{w:Str}{i:Nat}(g:Gb t w i):P2 t=w/\∀k,jV k t=(decide ((i:Int)=(k:Int))&&(decide (w=LM "strip")||decide (w=LM "sector"))):=by
 obtain⟨V,mk,rfl,_⟩:=g;exact⟨rfl,λk=>rfl⟩
theorem PB.mem{ms:List Mv}(h:Pm a b ms)(fw:Fw p){i:Nat}{P:List L2.T}(hi:ms[i]?=oZ m)(hP:PB a b ms p i P m):∀t∈P,∃w,Gb t w i/\(w=LM "strip"\/w=LM "sector"):=by
 intro t ht;cases m with
 |side x y m=>
  rw[show P=_ from hP]at ht;rw[LY.mp ht];exact⟨_,Wt h hi fw,.inl rfl⟩
 |arc x y u v r l=>exact⟨_,hP.2.2.2 t ht,.inr rfl⟩
theorem pT.mem(h:Pm a b ms)(fw:Fw p):∀{j:Nat}{L:List L2.T},j<=ms.length->pT a b ms p j L->∀t∈L,∃w i,Gb t w i/\i<ms.length/\w≠LM "cap"
 |0,L,_,hT,t,ht=>by rw[show L=[]from hT]at ht;cases ht
 |j+1,L,hj,⟨L0,P,F,h0,e,⟨m,hm,hP⟩,hF⟩,t,ht=>by
  rw[e]at ht;obtain ht|ht:=MB.mp ht
  ·obtain ht|ht:=MB.mp ht
   ·exact h0.mem h fw ⋯ t ht
   ·obtain⟨w,g,c⟩:=hP.mem h fw hm t ht;exact⟨w,j,g,⋯,by rcases c with rfl|rfl<;>decide⟩
  ·obtain rfl|⟨t',k,rfl,kl,g⟩:=hF
   ·cases ht
   ·rw[LY.mp ht];exact⟨_,k,g,kl,∅⟩
theorem m6{q:L2.T->Bool}{L:List L2.T}(h:∀t∈L,q t=false):L.filter q=[]:=List.filter_eq_nil_iff.mpr λt ht=>by rw[h t ht];decide
theorem Ij{q:L2.T->Bool}{L:List L2.T}(h:∀t∈L,q t=true):L.filter q=L:=List.filter_eq_self.mpr h
theorem pT.own(h:Pm a b ms)(fw:Fw p):∀{j:Nat}{L:List L2.T},pT a b ms p j L->(j<=k->L.filter (jV k)=[])/\(k<j->∃m,ms[k]?=oZ m/\PB a b ms p k (L.filter (jV k)) m)
 |0,L,hT=>by
  rw[show L=[]from hT];exact⟨λ_=>rfl,λz=>absurd z ⋯⟩
 |j+1,L,⟨L0,P,F,h0,e,⟨m,hm,hP⟩,hF⟩=>by
  obtain⟨i1,i2⟩:=pT.own h fw (k:=k) h0;have f0:F.filter (jV k)=[]:=m6 λt ht=>by
   obtain rfl|⟨t',k',rfl,kl,g⟩:=hF
   ·cases ht
   ·rw[LY.mp ht,g.wd.2 k];rw[Bool.and_eq_false_iff];exact .inr ∅
  have pm:∀t∈P,jV k t=decide ((j:Int)=(k:Int)):=λt ht=>by
   obtain⟨w,g,c⟩:=hP.mem h fw hm t ht;rw[g.wd.2 k];obtain rfl|rfl:=c
   ·rw[show(decide (LM "strip" = LM "strip")||decide (LM "strip" = LM "sector"))=true by decide,RF]
   ·rw[show(decide (LM "sector" = LM "strip")||decide (LM "sector" = LM "sector"))=true by decide,RF]
  rw[e,PM,PM,f0,MG];obtain c|c|c:=RH k j
  ·have p0:P.filter (jV k)=[]:=m6 λt ht=>by rw[pm t ht];exact oX ⋯
   rw[p0,MG];exact⟨λz=>absurd z ⋯,λ_=>i2 c⟩
  ·subst c;have p0:P.filter (jV k)=P:=Ij λt ht=>by rw[pm t ht];exact oY rfl
   rw[p0,i1 (LN _)];exact⟨λz=>absurd z ⋯,λ_=>⟨m,hm,hP⟩⟩
  ·have p0:P.filter (jV k)=[]:=m6 λt ht=>by rw[pm t ht];exact oX ⋯
   rw[p0,MG];exact⟨λ_=>i1 ⋯,λz=>absurd z ⋯⟩
theorem tW.mem(h:Pm a b ms)(fw:Fw p)(hL:tW a b ms p L):∀t∈L,∃w i,Gb t w i/\i<ms.length:=by
 have l1:=OY.mpr h.ne;intro t ht;obtain⟨L0,hT,⟨_,rfl⟩|⟨_,t0,t1,g0,g1,rfl⟩⟩:=hL
 ·obtain⟨w,i,g,il,_⟩:=hT.mem h fw (LN _) t ht;exact⟨w,i,g,il⟩
 ·obtain rfl|ht:=LH.mp ht
  ·exact⟨_,0,g0,l1⟩
  ·obtain ht|ht:=MB.mp ht
   ·obtain⟨w,i,g,il,_⟩:=hT.mem h fw (LN _) t ht;exact⟨w,i,g,il⟩
   ·rw[LY.mp ht];exact⟨_,ms.length-1,g1,⋯⟩
theorem tW.own(h:Pm a b ms)(fw:Fw p)(hL:tW a b ms p L)(hk:ms[k]?=oZ m):PB a b ms p k (L.filter (jV k)) m:=by
 have kl:=(KZ.mp hk).1;have cap:∀{t i},Gb t (LM "cap") i->jV k t=false:=λ{t i}g=>by
  rw[g.wd.2 k,Bool.and_eq_false_iff];exact .inr ∅
 have main:∀{L0},pT a b ms p ms.length L0->PB a b ms p k (L0.filter (jV k)) m:=λ{L0}hT=>by
  obtain⟨m',hm',hP⟩:=(hT.own h fw (k:=k)).2 kl;rw[hk]at hm';cases hm';exact hP
 obtain⟨L0,hT,⟨_,rfl⟩|⟨_,t0,t1,g0,g1,rfl⟩⟩:=hL
 ·exact main hT
 ·rw[RW,oW (by rw[cap g0];decide),PM,RW,oW (by rw[cap g1];decide),List.filter_nil,MG];exact main hT
theorem tW.caps(h:Pm a b ms)(fw:Fw p)(hL:tW a b ms p L):(L.map P2).countP (·==LM "cap")=if Rg a b (cN a b ms)=true then 0 else 2:=by
 have z:∀{L0},pT a b ms p ms.length L0->(L0.map P2).countP (·==LM "cap")=0:=λ{L0}hT=>by
  rw[List.countP_eq_zero];intro w hw;obtain⟨t,ht,rfl⟩:=NO.mp hw;obtain⟨w,i,g,_,ne⟩:=hT.mem h fw (LN _) t ht;rw[g.wd.1]
  simpa using ne
 obtain⟨L0,hT,⟨c,rfl⟩|⟨c,t0,t1,g0,g1,rfl⟩⟩:=hL
 ·rw[oV c,z hT]
 ·rw[oW (by rw[c];decide),MP,MF,RT,List.countP_append,z hT,g0.wd.1,MP,QN,g1.wd.1];decide
end
theorem Ib{Q:En->Prop}(W:Nat->En->Prop)(h0:W 0 E)(hs:∀i x rest E,items[i]?=oZ x->W i E->(∀E',W (i+1) E'->fU g Fb Fe rest E' Q)->fU g Fb Fe (x::rest) E Q)(hd:∀E,W items.length E->Q E):fU g Fb Fe items E Q:=by
 have dP:∀n i E,items.length-i=n->i<=items.length->W i E->fU g Fb Fe (items.drop i) E Q:=by
  intro n
  induction n with
  |zero=>
   intro i E e hi h;obtain rfl:i=items.length:=⋯
   rw[NX];exact hd E h
  |succ n ih=>
   intro i E e hi h;have XO:i<items.length:=⋯
   rw[MX XO];exact hs i _ _ E (LA XO) h λE' h'=>ih (i+1) E' ⋯ ⋯ h'
 exact dP _ 0 E rfl (LV _) h0
theorem Dq:∀n:Nat,rF (LF n (.bl true))=oZ (LF n true)
 |0=>rfl
 |n+1=>by rw[MM,rF,Dq n];rfl
theorem Lx:∀n:Nat,bM (LF n (.bl true))=true
 |0=>rfl
 |n+1=>by rw[MM,bM,Lx n];rfl
section
variable{P:SR}{w:SX}{K:W.Frag}{mg:Str->Option oA}{base:oE}
theorem Lb(i j:Int):L2.cS (.int i) (.int j)=decide (i=j):=by
 by_cases c:i=j
 ·subst c;rw[dQ,oY rfl]
 ·rw[oX c];simp[L2.cS,c]
theorem Lc(i j:Str):L2.cS (.str i) (.str j)=decide (i=j):=by
 by_cases c:i=j
 ·subst c;rw[dQ,oY rfl]
 ·rw[oX c];simp[L2.cS,c]
theorem Zo(w:Str):Yj (.str w) [.str "strip",.str "sector"]=(decide (w=LM "strip")||decide (w=LM "sector")):=by
 unfold Yj;rw[OG,OG,List.any_nil,Bool.or_false,Lc,Lc]
 congr 1<;>exact decide_eq_decide.mpr ⟨Eq.symm,Eq.symm⟩
def Xf:dG:=λas Q=>∃(a b:Fr)(ms:List Mv)(p:Fr)(s:Int),as=[.v (cF a b (cN a b ms)),.v (.lst (ms.map nF)),.v (fr p),.v (.int s)]/\Pm a b ms/\Fw p/\(s=1\/s=2\/s=3)/\Q (.v (.bl true)) []
theorem tW.len(h:Pm a b ms)(hL:tW a b ms p L):L.length<=800:=by
 have:=h.len;obtain⟨L0,hT,⟨_,rfl⟩|⟨_,t0,t1,_,_,rfl⟩⟩:=hL
 ·have:=hT.len;lia
 ·have:=hT.len;simp;lia
abbrev yK(P w K mg base):=(~~~Fn) 15 "_law_right" ["_law_path","_law_found","_law_far","_law_steps"] (aI K Xf)
abbrev w4:SV:=top 91
theorem eO:aF ["_law_path","_law_found","_law_far","_law_steps","_law_told","_law_at","_law_open_ends","_law_number","_law_move","_law_own","_law_reach"] ["_law_path","_law_found","_law_far","_law_steps"] (aC w4):=dH
theorem Qa(F:cI K "_law_right" "_law_right" w4 f fd)(TX:Txt mg)(ZS: ~~~yG)(XN: ~~~mI)(VP: ~~~iB)(XA: ~~~mW)(XT: ~~~uI)(YR: ~~~z7):(~~~aS) cJ 15 f fd ["_law_path","_law_found","_law_far","_law_steps"] (aI K Xf):=by
 refine F.okU eO (λhr=>(aB (fS 4 eO.nd (fK ZS (f3 (fv 0) (fv 2) (fv 3)))) (aB (b8 (Aw (fV (R8 rfl rfl rfl TX.n_all (f1 (iC (N':=["_law_block","_law_found"]) (t:=1) (cap:=[(1,false)]) rfl (bL.of rfl) rfl ∅ (iF rfl (fv 4)) (λ_ _ _ _=>(fH 0)) (λ_ _ _ _=>(fK XN (f2 (fv 0) (dJ rfl rfl TX.n_len (f1 (fv 1))))))))))) (aE (aG tN)) bH) (aB (fS 5 eO.nd (fQ 0)) (aB (jQ PassesOwn.never rfl (Lj rfl rfl TX.n_enumerate (f1 (fv 1))) (dA (n:=2) rfl rfl (aM (fG 7 eO.nd) (aM (fG 8 eO.nd) cE))) (aB (Sw (i:=9) (N':=["_law_block","_law_number"]) (t:=1) (cap:=[(7,false)]) eO.nd rfl (MS rfl) rfl rfl (bL.of rfl) rfl ∅ (iF rfl (fv 4)) (λ_ _ _ _=>(fH 0)) (λ_ _ _ _=>(t7 (Im (eQ rfl hr (fQ 0) (fv 1) (aV _)) (Ax (T4 rfl hr (fQ 0) (aN (f2 bA bA)) rfl))))) (λ_ _ _ _=>(fv 0))) (aB (b8 (t7 (m9 (t7 (Im (eQ rfl hr (fQ 8) bA (aV _)) (Ax (t7 (m9 (fP i9 (dJ rfl rfl TX.n_len (f1 (fv 9))) aA) (lK (fP rR (aO fZ (dJ rfl rfl TX.n_len (f1 (fv 9))) aA) aA))))))) (lK (t7 (Im (eQ rfl hr (fQ 8) bA (aV _)) (Ax (pN rfl hr (dJ rfl rfl TX.n_len (f1 (fv 9))) aA (aV _)))))))) (aE (aG tN)) bH) (aB (b8 (eQ rfl hr (fQ 8) bA (aV _)) (aB (fS 10 eO.nd (fK VP (f2 (fK XA (f1 (fQ 8))) (fv 2)))) (aE (b8 (t7 (m9 (pN rfl hr (fX (fX (fQ 9) aA) aA) (fK XT (f2 (fv 5) (fv 10))) (aV _)) (lK (pN rfl hr (fX (fX (fQ 9) aA) aA) (fK YR (f2 (fv 5) (fv 10))) (aV _))))) (aE (aG tN)) bH))) bH) (aE (fS 5 eO.nd (pM (eQ rfl hr (fQ 8) bA (aV _)) (fX (fX (fQ 0) (fv 7)) (d7 aA)) (fX (fX (fQ 0) (fv 7)) aA)))))))) (aB (fS 6 eO.nd (aO aW aA (Ao rfl TX.n_int (f1 (CI rfl hr (fv 5) (fQ 0) (aV _)))))) (aE (aG (tO rfl hr (Pa rfl (iC (N':=["_law_block"]) (t:=1) (cap:=[]) rfl (bL.of rfl) rfl ∅ (iF rfl (fv 4)) (λ_ _ _ _=>(fH 0)) (λ_ _ _ _=>(fQ 0))) (f1 bA)) (fv 6) (aV _)))))))))) ?_;rintro as Q ⟨a,b,ms,p,s,rfl,h,fw,hs,q⟩;refine⟨a,b,ms,p,s,rfl,h,fw,hs,λL hL=>?_⟩;have lL:=hL.len h;have hG:=hL.mem h fw;refine⟨rfl,?_⟩;refine cW (λi E=>∃v0,E=[v0,⇑(.lst (ms.map nF)),↥(LF i (.bl true))]) ⟨none,rfl⟩ ?_ ?_
 ·rintro i t rest E hi ⟨v0,rfl⟩ KK;have il:=(KZ.mp hi).1;obtain⟨w,n,g,nl⟩:=hG t (LD hi);refine⟨t,w,n,ms.length,?_,g,nl,?_⟩
  ·show[A.v t,A.v (.int (((ms.map nF).length:Nat):Int))]=_;rw[LJ]
  refine⟨by simp;lia,KK _ ⟨⇑t,?_⟩⟩;rw[List.replicate_succ'];rfl
 rintro E ⟨v0,rfl⟩;refine⟨Lx _,?_⟩;show o1 (rF (LF L.length (.bl true))) _;rw[Dq];have kh:(LF L.length true).all id=true:=by simp
 show if(!((LF L.length true).all id))=true then _ else _;rw[kh,oW ∅];have pl:=fA ms a b;refine cX (λk E=>∃v6 v7 v8 v9 v10:Option L2.U,E=[⇑(cF a b (cN a b ms)),⇑(.lst (ms.map nF)),⇑(fr p),↑s,↥L,⇑(vc (px a b ms k) (py a b ms k)),v6,v7,v8,v9,v10]) ⟨none,none,none,none,none,rfl⟩ ?_ ?_
 ·rintro k t rest E hk ⟨v6,v7,v8,v9,v10,rfl⟩ KK;obtain⟨y,hy,rfl⟩:=La hk;rw[LB]at hy;obtain⟨m,hm,rfl⟩:=MH.mp hy;have ok:=h.ok _ (LD hm);have kl:=(KZ.mp hm).1;have hp:=kG ms a b _ _ hm;obtain⟨ex,ey⟩:=uS (a:=a) (b:=b) hm;have hO:=hL.own h fw hm;refine⟨rfl,?_⟩;refine Ib (λi E=>∃v0,E=[v0,↑(k:Int),↥((L.take i).filter (jV k))]) ⟨none,rfl⟩ ?_ ?_
  ·rintro i t lh E hi ⟨v0,rfl⟩ KK2;have il:=(KZ.mp hi).1;obtain⟨w,n,g,nl⟩:=hG t (LD hi);have eo:=g.wd.2 k;have tk:(L.take (i+1)).filter (jV k)=(L.take i).filter (jV k)++if jV k t=true then[t]else[]:=by
    rw[OC,hi,PK,PM,RW,List.filter_nil]
   have lf:((L.take i).filter (jV k)).length<9000:=by
    have:=List.length_filter_le (jV k) (L.take i);rw[MQ]at this;lia
   have yes:jV k t=true->((L.take i).filter (jV k)).length<9000/\fU _ _ _ lh [⇑t,↑(k:Int),↥((L.take i).filter (jV k)++[t])] _:=λz=>⟨lf,KK2 _ ⟨⇑t,by rw[tk,oV z]⟩⟩;have no:¬jV k t=true->fU _ _ _ lh [⇑t,↑(k:Int),↥((L.take i).filter (jV k))] _:=λz=>KK2 _ ⟨⇑t,by rw[tk,oW z,MG]⟩;obtain⟨V,mk,rfl,_⟩:=g;refine⟨b7 rfl,?_⟩;show if L2.cS (.int (n:Int)) (.int (k:Int))=true then _ else _
   by_cases c1:(n:Int)=(k:Int)
   ·rw[oV (by rw[Lb];exact oY c1)];refine⟨b7 rfl,?_⟩;show if Yj (.str w) [.str "strip",.str "sector"]=true then _ else _;rw[oY c1,Bool.true_and,<-Zo]at eo
    by_cases c2:Yj (.str w) [.str "strip",.str "sector"]=true
    ·rw[oV c2];exact yes (by rw[eo];exact c2)
    ·rw[oW c2];exact no (by rw[eo];exact c2)
   ·rw[oW (by rw[Lb,oX c1];decide)];exact no (by rw[eo,oX c1,Bool.false_and];decide)
  rintro E ⟨v0,rfl⟩;rw[NY];generalize L.filter (jV k)=O at hO;refine⟨hO.noL,?_⟩;have n0:=h.nv k;cases m with
  |side x y m=>
   obtain rfl:O=_:=hO;have us:=ok.1.left;have nr:=jT us.nv fw.n fw.s;refine⟨b7 rfl,b7 rfl,b7 rfl,b7 rfl,?_⟩;refine⟨x,y,rfl,_,_,p,4,rfl,us.nv,fw.n,by have:=fw.s;lia,?_⟩;refine⟨_,_,_,_,14,4+14,rfl,n0,nr,∅,b7 rfl,?_⟩;show if(!L2.cS (vc (aR (px a b ms k) (aJ (aK y) p)) (aR (py a b ms k) (aJ x p))) (vc (aR (px a b ms k) (aJ (aK y) p)) (aR (py a b ms k) (aJ x p))))=true then _ else _;rw[dQ,oW ∅];refine⟨_,_,_,_,14,4+14,rfl,n0,nr,∅,b7 rfl,?_⟩;show if(!L2.cS (vc (bJ (px a b ms k) (aJ (aK y) p)) (bJ (py a b ms k) (aJ x p))) (vc (bJ (px a b ms k) (aJ (aK y) p)) (bJ (py a b ms k) (aJ x p))))=true then _ else _;rw[dQ,oW ∅];refine⟨b7 rfl,?_⟩;show o1 (eV ((cN a b ms).map jD) (k:Int)) _;rw[nK hp];exact KK _ ⟨_,_,_,_,_,by rw[ex,ey];rfl⟩
  |arc x y u v r l=>
   obtain⟨h2,he,h60,_⟩:=hO;refine⟨b7 rfl,?_⟩;show if decide ((O.length:Int)<2)=true then _ else _;rw[oX (show ¬(O.length:Int)<2 by lia),oW ∅];refine⟨by show(0:Int)<2;decide,?_⟩;show if decide (0<(O.length:Int)%2)=true then _ else _;rw[oX (show ¬0<(O.length:Int)%2 by lia),oW ∅];refine⟨b7 rfl,b7 rfl,b7 rfl,?_⟩;show o1 (eV ((cN a b ms).map jD) (k:Int)) _;rw[nK hp];exact KK _ ⟨_,_,_,_,_,by rw[ex,ey];rfl⟩
 ·rintro E ⟨v6,v7,v8,v9,v10,rfl⟩;have le:((ms.map nF).zipIdx.map λq=>L2.T.tup [.int (q.2:Int),q.1]).length=ms.length:=by simp
  have lx:px a b ms ms.length=cO a (cN a b ms):=by unfold px;rw[<-pl,NY]
  have ly:py a b ms ms.length=cP b (cN a b ms):=by unfold py;rw[<-pl,NY]
  show Ho _ _;rw[le];refine⟨b7 rfl,?_⟩;have cv:(if(!L2.cS (vc (px a b ms ms.length) (py a b ms ms.length)) (vc a b))=true then(1:Int)else 0)=if Rg a b (cN a b ms)=true then 0 else 1:=by
   rw[yW,lx,ly];show(if(!Rg a b (cN a b ms))=true then(1:Int)else 0)=_;cases Rg a b (cN a b ms)<;>rfl
  refine⟨Bg (by show(if(!L2.cS (vc (px a b ms ms.length) (py a b ms ms.length)) (vc a b))=true then(1:Int)else 0).natAbs<2^60;split<;>decide),rfl,?_⟩;refine cW (λi E=>∃v0,E=[v0,↥(((L.take i).map P2).map L2.T.str)]) ⟨none,rfl⟩ ?_ ?_
  ·rintro i t rest E hi ⟨v0,rfl⟩ KK;have il:=(KZ.mp hi).1;obtain⟨w,n,g,nl⟩:=hG t (LD hi);have ew:=g.wd.1;have tk:((L.take (i+1)).map P2).map L2.T.str=((L.take i).map P2).map L2.T.str++[.str w]:=by
    rw[OC,hi,PK,MF,MF,MP,QN,ew];rfl
   obtain⟨V,mk,rfl,_⟩:=g;refine⟨by show(((L.take i).map P2).map L2.T.str).length<9000;simp;lia,KK _ ⟨⇑(Q1 w n V mk),?_⟩⟩;rw[tk];rfl
  rintro E ⟨v0,rfl⟩;rw[NY];refine⟨kY _,L.map P2,rfl,λz hz=>⟨b7 rfl,?_⟩⟩;show L2.noL (.bl (L2.cS (.int z) (.int (2*(if(!L2.cS (vc (px a b ms ms.length) (py a b ms ms.length)) (vc a b))=true then(1:Int)else 0)))))=true/\Q (.v (.bl (L2.cS (.int z) (.int (2*(if(!L2.cS (vc (px a b ms ms.length) (py a b ms ms.length)) (vc a b))=true then(1:Int)else 0)))))) [];have ez:z=2*(if(!L2.cS (vc (px a b ms ms.length) (py a b ms ms.length)) (vc a b))=true then(1:Int)else 0):=by
   rw[hz,hL.caps h fw,cv];cases Rg a b (cN a b ms)<;>rfl
  rw[<-ez,dQ];exact⟨rfl,q⟩
end
def EW:dG:=λas Q=>∃ns:List Int,as=[.v (.lst (bK ns))]/\ns.length<=63/\Q (.v (.bl true)) []
abbrev wW:SV:=top 92
theorem l8:aF ["_law_script","_law_cells","_law_k","_law_box_here","_law_turn","_law_path","_law_found","_law_far","_law_steps"] ["_law_script"] (aC wW):=dH
theorem W2{P:SR}{w:SX}{K:W.Frag}{mg:Str->Option oA}{base:oE}{f:SN}{fd:TK}(F:cI K "law" "law" wW f fd)(TX:Txt mg)(ZU: ~~~yH)(lq: ~~~Rk)(de:Fn P w K mg base 7 "_law_case" ["_law_box_here"] (tU K Wy))(ZV: ~~~yK):(~~~aS) cJ 16 f fd ["_law_script"] (aI K EW):=by
 refine F.okU l8 (λhr=>(aB (fS 1 l8.nd (fK ZU (f2 (fv 0) aA))) (aB (jQ PassesOwn.never rfl (fM rfl TX.n_range (f1 (R9 rfl rfl TX.n_max (f2 aA (dJ rfl rfl TX.n_len (f1 (fv 1))))))) (fG 2 l8.nd) (aB (fS 3 l8.nd (fK lq (f2 (fv 1) (fv 2)))) (aE (jQ PassesOwn.never rfl (fM rfl TX.n_range (f1 aA)) (fG 4 l8.nd) (aB (d8 (Eg de hr ⋯ rfl (f1 (fv 3))) (dA (n:=4) rfl rfl (aM (fG 5 l8.nd) (aM (fG 6 l8.nd) (aM (fG 7 l8.nd) (aM (fG 8 l8.nd) cE)))))) (aE (b8 (Aw (fV (fK ZV (f4 (fv 5) (fv 6) (fv 7) (fv 8))))) (aE (aG tN)) bH))))))) (aE (aG tN))))) ?_;rintro as Q ⟨ns,rfl,hl,q⟩;refine⟨ns,4,rfl,hl,∅,∅,λcs l6=>?_⟩;have lc:((bK cs).length:Int)=cs.length:=by simp[bK]
 obtain⟨m,hm⟩:∃m:Int,m=(if(2:Int)<((bK cs).length:Int)then((bK cs).length:Int)else 2):=⟨_,rfl⟩;have m5:m<=4/\0<=m:=by rw[hm];split<;>lia
 refine⟨⟨by show -(2^62:Int)<=(if(2:Int)<((bK cs).length:Int)then((bK cs).length:Int)else 2);rw[<-hm];lia,by show(if(2:Int)<((bK cs).length:Int)then((bK cs).length:Int)else 2)<2^62;rw[<-hm];lia⟩,?_⟩;show Ho _ (i8 _ _ _ (iP 0 (if(2:Int)<((bK cs).length:Int)then((bK cs).length:Int)else 2).toNat));rw[<-hm];refine cX (λi E=>∃v2 v3 v4 v5 v6 v7 v8:Option U,E=[⇑(.lst (bK ns)),↥(bK cs),v2,v3,v4,v5,v6,v7,v8]) ⟨_,_,_,_,_,_,_,rfl⟩ ?_ ?_
 ·rintro i t rest E hi ⟨v2,v3,v4,v5,v6,v7,v8,rfl⟩ KK;obtain⟨jj,rfl⟩:=nL hi;refine⟨cs,_,rfl,⋯,⋯,λxs bx nl=>?_⟩;obtain⟨A0,B0,c0,rfl,_⟩:=id bx;refine⟨∅,?_⟩;show Ho _ (i8 _ _ _ (iP 0 2));refine cX (λj E=>∃(ys:List L2.T)(v4 v5 v6 v7 v8:Option U),E=[⇑(.lst (bK ns)),↥(bK cs),↑(0+(i:Int)),↥ys,v4,v5,v6,v7,v8]/\Bx ys (400*j)) ⟨_,_,_,_,_,_,rfl,bx.mono (by simp)⟩ ?_ ?_
  ·rintro j t aDN E hj ⟨ys,v4,v5,v6,v7,v8,rfl,bj⟩ KJ;obtain⟨hjn,rfl⟩:=nL hj;obtain⟨A1,B1,c1,rfl,_⟩:=id bj;refine⟨_,_,rfl,bj,⋯,λa b ms p s y1 pm fw hs b1=>?_⟩;obtain⟨A2,B2,c2,rfl,_⟩:=id b1;refine⟨a,b,ms,p,s,rfl,pm,fw,hs,?_⟩;exact KJ _ ⟨_,_,_,_,_,_,rfl,b1.mono (by push_cast;lia)⟩
  ·rintro E ⟨ys,v4,v5,v6,v7,v8,rfl,bj⟩;exact KK _ ⟨_,_,_,_,_,_,_,rfl⟩
 ·rintro E ⟨v2,v3,v4,v5,v6,v7,v8,rfl⟩;exact⟨rfl,q⟩
theorem IF{α:Type}{us:List α}(h:us.length=1):∃a0,us=[a0]:=by
 cases us with
 |nil=>simp at h
 |cons a0 us=>
 replace h:us.length=0:=by simpa using h
 cases us with
 |nil=>exact⟨a0,rfl⟩
 |cons a us=>simp at h
theorem IG{α:Type}{us:List α}(h:us.length=2):∃a0 a1,us=[a0,a1]:=by
 cases us with
 |nil=>simp at h
 |cons a0 us=>
 replace h:us.length=1:=by simpa using h
 cases us with
 |nil=>simp at h
 |cons a1 us=>
 replace h:us.length=0:=by simpa using h
 cases us with
 |nil=>exact⟨a0,a1,rfl⟩
 |cons a us=>simp at h
theorem IH{α:Type}{us:List α}(h:us.length=3):∃a0 a1 a2,us=[a0,a1,a2]:=by
 cases us with
 |nil=>simp at h
 |cons a0 us=>
 replace h:us.length=2:=by simpa using h
 cases us with
 |nil=>simp at h
 |cons a1 us=>
 replace h:us.length=1:=by simpa using h
 cases us with
 |nil=>simp at h
 |cons a2 us=>
 replace h:us.length=0:=by simpa using h
 cases us with
 |nil=>exact⟨a0,a1,a2,rfl⟩
 |cons a us=>simp at h
theorem II{α:Type}{us:List α}(h:us.length=4):∃a0 a1 a2 a3,us=[a0,a1,a2,a3]:=by
 cases us with
 |nil=>simp at h
 |cons a0 us=>
 replace h:us.length=3:=by simpa using h
 cases us with
 |nil=>simp at h
 |cons a1 us=>
 replace h:us.length=2:=by simpa using h
 cases us with
 |nil=>simp at h
 |cons a2 us=>
 replace h:us.length=1:=by simpa using h
 cases us with
 |nil=>simp at h
 |cons a3 us=>
 replace h:us.length=0:=by simpa using h
 cases us with
 |nil=>exact⟨a0,a1,a2,a3,rfl⟩
 |cons a us=>simp at h
theorem IJ{α:Type}{us:List α}(h:us.length=6):∃a0 a1 a2 a3 a4 a5,us=[a0,a1,a2,a3,a4,a5]:=by
 cases us with
 |nil=>simp at h
 |cons a0 us=>
 replace h:us.length=5:=by simpa using h
 cases us with
 |nil=>simp at h
 |cons a1 us=>
 replace h:us.length=4:=by simpa using h
 cases us with
 |nil=>simp at h
 |cons a2 us=>
 replace h:us.length=3:=by simpa using h
 cases us with
 |nil=>simp at h
 |cons a3 us=>
 replace h:us.length=2:=by simpa using h
 cases us with
 |nil=>simp at h
 |cons a4 us=>
 replace h:us.length=1:=by simpa using h
 cases us with
 |nil=>simp at h
 |cons a5 us=>
 replace h:us.length=0:=by simpa using h
 cases us with
 |nil=>exact⟨a0,a1,a2,a3,a4,a5,rfl⟩
 |cons a us=>simp at h
def Mp(K:W.Frag):Sp:=λvs H Q _=>∃(a:SN)(ns:List Int),vs=[.ref a]/\lA K H a (ns.map V.int)/\ns.length<=63/\∀H',Q (.bl true) H'
theorem V1{K:W.Frag}(vs:List V)(H:Hp)(Q:VK)(E:XK)(h:Mp K vs H Q E):aI K EW vs H Q E:=by
 obtain⟨a,ns,rfl,hs,hl,q⟩:=h;have no:∀b,¬Ow (λa=>(none:Option SN)=oZ a) [oZ (V.ref a)] [⇑(.lst (bK ns))] b:=λb z=>by
  obtain z|⟨i,k,xs,h1,_⟩:=z
  ·cases z
  ·match i,h1 with
   |0,h1=>simp at h1
   |_+1,h1=>simp at h1
 have ii:∀ns:List Int,cR K H (Ow (λa=>(none:Option SN)=oZ a) [oZ (V.ref a)] [⇑(.lst (bK ns))]) (bK ns) (ns.map V.int):=λns=>by
  have dP:∀(O:SN->Prop)(ms:List Int),cR K H O (bK ms) (ms.map V.int):=λO ms=>by
   induction ms with
   |nil=>rfl
   |cons m ms ih=>exact⟨_,_,rfl,rfl,ih⟩
  exact dP _ ns
 refine⟨[.v (.lst (bK ns))],λr _=>r = .v (.bl true),none,⟨rfl,λi t h=>?_,λi k xs h=>?_,λi j k l xs ys b h=>?_,λb z=>by cases z⟩,λ_=>rfl,⟨ns,rfl,hl,rfl⟩,λr xs v H' e _ _ rr=>?_⟩
 ·match i,h with
  |0,h=>
   simp[j7]at h;subst h;exact⟨_,rfl,a,_,rfl,hs.imp (λh=>⟨no a,h⟩) id,ii ns⟩
  |_+1,h=>simp[j7]at h
 ·match i,h with
  |0,h=>simp[j7]at h
  |_+1,h=>simp[j7]at h
 ·match i,h with
  |0,h=>simp[j7]at h
  |_+1,h=>simp[j7]at h
 ·subst e;cases rr;exact q H'
def Fc(K:W.Frag)(nm:Str)(st:SV)(f:SN):Prop:=∃(oc:oA)(od:Option SN)(kV dc pm:oA)(an:Option SN)(cd ct:oA)(sl:Array (Option oA)),
 W.nsIn K SW nm=oZ (oZ (.ref f))/\K.lookup f=oZ ⟨oc,od,.func (W.fnOf nm nm (eZ st) (cQ st) (aC st) .none kV dc pm an cd ct),sl⟩/\W.codeIn K cd nm=true/\W.keepIn K (.ref f)=true
theorem fc{K:W.Frag}{nm:Str}{st:SV}{f:SN}{oc:oA}{od:Option SN}{kV dc pm:oA}{an:Option SN}{cd ct:oA}{sl:Array (Option oA)}(a:W.nsIn K SW nm=oZ (oZ (.ref f)))(l:K.lookup f=oZ ⟨oc,od,.func (W.fnOf nm nm (eZ st) (cQ st) (aC st) .none kV dc pm an cd ct),sl⟩)(c:W.codeIn K cd nm=true)(k:W.keepIn K (.ref f)=true):Fc K nm st f:=⟨_,_,_,_,_,_,_,_,_,a,l,c,k⟩
theorem gm{P:SR}{w:SX}{K:W.Frag}{h base:oE}{mg:Str->Option oA}{nm:Str}{st:SV}{f:SN}{CX:Hm}{k:Nat}{ps:List Str}{sp:Sp}(X:K.In h)(G:h.Ns SW mg)(p:Fc K nm st f)(ok:∀{fd:TK},cI K nm nm st f fd->aS P w K mg base CX k f fd ps sp)
  (bd:∀{fd:TK},cI K nm nm st f fd->kN K fd ps []):∃f fd,aS P w K mg base CX k f fd ps sp/\mg nm=oZ (.ref f)/\W.keepIn K (.ref f)=true/\kN K fd ps []:=by
 obtain⟨_,_,_,_,_,_,_,_,_,a,l,c,k⟩:=p;have F:=Sy (st:=st) l c k;exact⟨f,_,ok F,W.mg_of X G a,k,bd F⟩
theorem xW{P:SR}{w:SX}{K:W.Frag}{h base:oE}{mg:Str->Option oA}{nm:Str}{st:SV}{f:SN}{CX:Hm}{k:Nat}{ps:List Str}{sp:Sp}(X:K.In h)(G:h.Ns SW mg)(p:Fc K nm st f)(ok:∀{fd:TK},cI K nm nm st f fd->aS P w K mg base CX k f fd ps sp)(hl:ps.length=1:=by rfl)
  (hb:∀(kV doc pm:oA)(an:Option SN)(WR ct a0:oA),bindArgs (W.fnOf nm nm (eZ st) (cQ st) (aC st) .none kV doc pm an WR ct) ⟨[a0],[]⟩=pure (ps.zip [a0]):=by intros;rfl):∃f fd,aS P w K mg base CX k f fd ps sp/\mg nm=oZ (.ref f)/\W.keepIn K (.ref f)=true/\kN K fd ps []:=
 gm X G p ok λF=>F.binds λkV doc pm an WR ct us e=>by obtain⟨a0,rfl⟩:=IF (e.trans hl);exact hb ..
theorem lB{P:SR}{w:SX}{K:W.Frag}{h base:oE}{mg:Str->Option oA}{nm:Str}{st:SV}{f:SN}{CX:Hm}{k:Nat}{ps:List Str}{sp:Sp}(X:K.In h)(G:h.Ns SW mg)(p:Fc K nm st f)(ok:∀{fd:TK},cI K nm nm st f fd->aS P w K mg base CX k f fd ps sp)(hl:ps.length=2:=by rfl)
  (hb:∀(kV doc pm:oA)(an:Option SN)(WR ct a0 a1:oA),bindArgs (W.fnOf nm nm (eZ st) (cQ st) (aC st) .none kV doc pm an WR ct) ⟨[a0,a1],[]⟩=pure (ps.zip [a0,a1]):=by intros;rfl):∃f fd,aS P w K mg base CX k f fd ps sp/\mg nm=oZ (.ref f)/\W.keepIn K (.ref f)=true/\kN K fd ps []:=
 gm X G p ok λF=>F.binds λkV doc pm an WR ct us e=>by obtain⟨a0,a1,rfl⟩:=IG (e.trans hl);exact hb ..
theorem Zl{P:SR}{w:SX}{K:W.Frag}{h base:oE}{mg:Str->Option oA}{nm:Str}{st:SV}{f:SN}{CX:Hm}{k:Nat}{ps:List Str}{sp:Sp}(X:K.In h)(G:h.Ns SW mg)(p:Fc K nm st f)(ok:∀{fd:TK},cI K nm nm st f fd->aS P w K mg base CX k f fd ps sp)(hl:ps.length=3:=by rfl)
  (hb:∀(kV doc pm:oA)(an:Option SN)(WR ct a0 a1 a2:oA),bindArgs (W.fnOf nm nm (eZ st) (cQ st) (aC st) .none kV doc pm an WR ct) ⟨[a0,a1,a2],[]⟩=pure (ps.zip [a0,a1,a2]):=by intros;rfl):∃f fd,aS P w K mg base CX k f fd ps sp/\mg nm=oZ (.ref f)/\W.keepIn K (.ref f)=true/\kN K fd ps []:=
 gm X G p ok λF=>F.binds λkV doc pm an WR ct us e=>by obtain⟨a0,a1,a2,rfl⟩:=IH (e.trans hl);exact hb ..
theorem T8{P:SR}{w:SX}{K:W.Frag}{h base:oE}{mg:Str->Option oA}{nm:Str}{st:SV}{f:SN}{CX:Hm}{k:Nat}{ps:List Str}{sp:Sp}(X:K.In h)(G:h.Ns SW mg)(p:Fc K nm st f)(ok:∀{fd:TK},cI K nm nm st f fd->aS P w K mg base CX k f fd ps sp)(hl:ps.length=4:=by rfl)
  (hb:∀(kV doc pm:oA)(an:Option SN)(WR ct a0 a1 a2 a3:oA),bindArgs (W.fnOf nm nm (eZ st) (cQ st) (aC st) .none kV doc pm an WR ct) ⟨[a0,a1,a2,a3],[]⟩=pure (ps.zip [a0,a1,a2,a3]):=by intros;rfl):∃f fd,aS P w K mg base CX k f fd ps sp/\mg nm=oZ (.ref f)/\W.keepIn K (.ref f)=true/\kN K fd ps []:=
 gm X G p ok λF=>F.binds λkV doc pm an WR ct us e=>by obtain⟨a0,a1,a2,a3,rfl⟩:=II (e.trans hl);exact hb ..
theorem JH{P:SR}{w:SX}{K:W.Frag}{h base:oE}{mg:Str->Option oA}{nm:Str}{st:SV}{f:SN}{CX:Hm}{k:Nat}{ps:List Str}{sp:Sp}(X:K.In h)(G:h.Ns SW mg)(p:Fc K nm st f)(ok:∀{fd:TK},cI K nm nm st f fd->aS P w K mg base CX k f fd ps sp)(hl:ps.length=6:=by rfl)
  (hb:∀(kV doc pm:oA)(an:Option SN)(WR ct a0 a1 a2 a3 a4 a5:oA),bindArgs (W.fnOf nm nm (eZ st) (cQ st) (aC st) .none kV doc pm an WR ct) ⟨[a0,a1,a2,a3,a4,a5],[]⟩=pure (ps.zip [a0,a1,a2,a3,a4,a5]):=by intros;rfl):∃f fd,aS P w K mg base CX k f fd ps sp/\mg nm=oZ (.ref f)/\W.keepIn K (.ref f)=true/\kN K fd ps []:=
 gm X G p ok λF=>F.binds λkV doc pm an WR ct us e=>by obtain⟨a0,a1,a2,a3,a4,a5,rfl⟩:=IJ (e.trans hl);exact hb ..
theorem P9{P:SR}{w:SX}{K:W.Frag}{h:oE}{mg:Str->Option oA}{fa f0 f1 f2 f3 f4 f5 f6 f7 f8 f9 f10 f11 f12 f13 f14 f15 f16 f17 f18 f19 f20 f21 f22 f23 f24 f25 f26 f27 f28 f29 f30 f31 f32 f33 f34 f35 f36 f37 f38 f39 f40 f41 f42 f43 f44 f45 f46 f47 f48 f49 f50 f51 f52 f53 f54 f55 f56 f57 f58 f59 f60 f61 f62 f63 f64 f65 f66 f67 f68 f69 f70 f71 f72 f73 f74 f75 f76 f77 f78 f79:SN}(X:K.In h)(G:h.Ns SW mg)(hfa:mg "law" = oZ (.ref fa))
  (p0:Fc K "_law_take" Jy f0)
  (p1:Fc K "common_divisor" hJ f1)
  (p2:Fc K "fraction" qG f2)
  (p3:Fc K "added" Ce f3)
  (p4:Fc K "taken" Co f4)
  (p5:Fc K "times" Cp f5)
  (p6:Fc K "dot" Wb f6)
  (p7:Fc K "left_of" sU f7)
  (p8:Fc K "over" Jw f8)
  (p9:Fc K "_law_box" Wa f9)
  (p10:Fc K "whole_root" lX f10)
  (p11:Fc K "root_of" sW f11)
  (p12:Fc K "minus" Cm f12)
  (p13:Fc K "length_of" nT f13)
  (p14:Fc K "unit_of" tE f14)
  (p15:Fc K "right_of" qN f15)
  (p16:Fc K "is_side" sS f16)
  (p17:Fc K "end_of" wU f17)
  (p18:Fc K "begin_of" qD f18)
  (p19:Fc K "is_closed" nQ f19)
  (p20:Fc K "arc_heading" kH f20)
  (p21:Fc K "headings" qH f21)
  (p22:Fc K "radius_of" nV f22)
  (p23:Fc K "cross" Cg f23)
  (p24:Fc K "corner_headings" gF f24)
  (p25:Fc K "corner_word" kJ f25)
  (p26:Fc K "corners" sO f26)
  (p27:Fc K "turned" xC f27)
  (p28:Fc K "turn_of" tD f28)
  (p29:Fc K "stepped" sY f29)
  (p30:Fc K "has_quarter" kK f30)
  (p31:Fc K "quarters_between" fJ f31)
  (p32:Fc K "compared" qF f32)
  (p33:Fc K "turn_size" nX f33)
  (p34:Fc K "flipped" sQ f34)
  (p35:Fc K "merged" wZ f35)
  (p36:Fc K "units_between" iW f36)
  (p37:Fc K "plus" Jx f37)
  (p38:Fc K "scaled" xA f38)
  (p39:Fc K "tip_of" xB f39)
  (p40:Fc K "least_dot" nS f40)
  (p41:Fc K "_law_folded" wV f41)
  (p42:Fc K "_law_frac" Ck f42)
  (p43:Fc K "_law_sum" Jv f43)
  (p44:Fc K "_law_less" Cn f44)
  (p45:Fc K "_law_product" qK f45)
  (p46:Fc K "_law_add" Jt f46)
  (p47:Fc K "_law_sub" Ju f47)
  (p48:Fc K "_law_scaled_by" lV f48)
  (p49:Fc K "_law_cross" wX f49)
  (p50:Fc K "_law_quarter" qL f50)
  (p51:Fc K "_law_unit_at" qM f51)
  (p52:Fc K "_law_one_move" nU f52)
  (p53:Fc K "_law_back" Ci f53)
  (p54:Fc K "_law_path_of" qJ f54)
  (p55:Fc K "_law_all_moves" lU f55)
  (p56:Fc K "_law_drawn" wY f56)
  (p57:Fc K "_law_width" w6 f57)
  (p58:Fc K "_law_case" Cj f58)
  (p59:Fc K "side_strip" lW f59)
  (p60:Fc K "tips_of" sZ f60)
  (p61:Fc K "rays_of" sV f61)
  (p62:Fc K "fan" Wc f62)
  (p63:Fc K "fan_units" nO f63)
  (p64:Fc K "corner_fan" lR f64)
  (p65:Fc K "start_cap" nW f65)
  (p66:Fc K "end_cap" sP f66)
  (p67:Fc K "arc_vectors" kI f67)
  (p68:Fc K "arc_units" nN f68)
  (p69:Fc K "inner_of" qI f69)
  (p70:Fc K "with_tips" nY f70)
  (p71:Fc K "sector_marks" jY f71)
  (p72:Fc K "sectors" sX f72)
  (p73:Fc K "piece_blocks" jX f73)
  (p74:Fc K "bends" Cf f74)
  (p75:Fc K "laid_blocks" kL f75)
  (p76:Fc K "blocks" wR f76)
  (p77:Fc K "_law_block_right" jW f77)
  (p78:Fc K "_law_right" w4 f78)
  (p79:Fc K "law" wW f79)
  {ZF:SN} {df dh dj dk dm dq:Tok} {dr:Nat} (fy:W.nsIn K SW "FAN_MARKS" = oZ (oZ (.ref ZF))) (fz:K.lookup ZF=oZ { cls:=.type "dict",data:=.dict #[⟨hashStr w "left",.str "left" df,.str "r" dh⟩,⟨hashStr w "right",.str "right" dj,.str "l" dk⟩,⟨hashStr w "back",.str "back" dm,.str "b" dq⟩] dr })
  {YW:SN} {aa ae af ag ah aj:Tok} {ak:Nat} (dw:W.nsIn K SW "OTHER_MARK" = oZ (oZ (.ref YW))) (dz:K.lookup YW=oZ { cls:=.type "dict",data:=.dict #[⟨hashStr w "l",.str "l" aa,.str "r" ae⟩,⟨hashStr w "r",.str "r" af,.str "l" ag⟩,⟨hashStr w "-",.str "-" ah,.str "-" aj⟩] ak })
  {gf:SN} {iw:Option SN} {jq jr:Tok} {jt:Nat} {iy:Array (Option oA)} (me:W.nsIn K SW "NOUGHT" = oZ (oZ (.ref gf))) (mf:K.lookup gf=oZ ⟨.type "tuple",iw,.seq #[.int 0 jq,.int 1 jr] jt,iy⟩)
  {YX:SN} {ZX:Option SN} {ao aq:Tok} {aw:Nat} {ZY:Array (Option oA)} (eh:W.nsIn K SW "ONE_blocks" = oZ (oZ (.ref YX))) (fb:K.lookup YX=oZ ⟨.type "tuple",ZX,.seq #[.int 1 ao,.int 1 aq] aw,ZY⟩)
  {ZG:SN} {bc:Option SN} {fe ff:Tok} {fg:Nat} {bf:Array (Option oA)} (gj:W.nsIn K SW "ONE_turns" = oZ (oZ (.ref ZG))) (gn:K.lookup ZG=oZ ⟨.type "tuple",bc,.seq #[.int 1 fe,.int 1 ff] fg,bf⟩)
  {qo:SN} {ox:Option SN} {um uo:Tok} {uq:Nat} {oy:Array (Option oA)} (yr:W.nsIn K SW "TWO" = oZ (oZ (.ref qo))) (yt:K.lookup qo=oZ ⟨.type "tuple",ox,.seq #[.int 2 um,.int 1 uo] uq,oy⟩)
  (fh:W.nsIn K SW "isinstance" = oZ none) (yu:W.nsIn K SW "abs" = oZ none) (mh:W.nsIn K SW "divmod" = oZ none) (yv:W.nsIn K SW "min" = oZ none) (yw:W.nsIn K SW "max" = oZ none) (yx:W.nsIn K SW "all" = oZ none) (Xz:W.nsIn K SW "len" = oZ none) (yy:W.nsIn K SW "int" = oZ none) (ur:W.nsIn K SW "bool" = oZ none) (pb:W.nsIn K SW "tuple" = oZ none) (uw:W.nsIn K SW "list" = oZ none) (yz:W.nsIn K SW "str" = oZ none) (pe:W.nsIn K SW "range" = oZ none) (gv:W.nsIn K SW "enumerate" = oZ none) (zc:W.nsIn K SW "zip" = oZ none) :
  ∃fd:TK,(∀(s:oB)(v:oA),BindsTo s fd ⟨[v],[]⟩ [("_law_script",v)])/\∀base:oE,K.In base->base.Ns SW mg->aS P w K mg base cJ 16 fa fd ["_law_script"] (Mp K):=by
 obtain⟨oc,od,kV,dc,pm,an,cd,ct,sl,a79,l79,c79,k79⟩:=p79;have e:=hfa.symm.trans (W.mg_of X G a79);cases e;have T:Txt mg:=⟨W.mg_none_of X G fh,W.mg_none_of X G yu,W.mg_none_of X G mh,W.mg_none_of X G yv,W.mg_none_of X G yw,W.mg_none_of X G yx,W.mg_none_of X G Xz,W.mg_none_of X G yy,W.mg_none_of X G ur,W.mg_none_of X G pb,W.mg_none_of X G uw,W.mg_none_of X G yz,W.mg_none_of X G pe,W.mg_none_of X G gv,W.mg_none_of X G zc⟩;have YG:sA mg w K "FAN_MARKS" "left" "r" "right" "l" "back" "b":=⟨⟨_,_,_,_,_,_,_,_,W.mg_of X G fy,fz⟩,∅⟩;have YB:sA mg w K "OTHER_MARK" "l" "r" "r" "l" "-" "-":=⟨⟨_,_,_,_,_,_,_,_,W.mg_of X G dw,dz⟩,∅⟩;have XI:mH mg K "NOUGHT" (.tup [.int 0,.int 1]):=⟨_,W.mg_of X G me,lJ mf⟩;have YA:mH mg K "ONE_blocks" (.tup [.int 1,.int 1]):=⟨_,W.mg_of X G eh,lJ fb⟩;have VZ:mH mg K "ONE_turns" (.tup [.int 1,.int 1]):=⟨_,W.mg_of X G gj,lJ gn⟩;have ky:mH mg K "TWO" (.tup [.int 2,.int 1]):=⟨_,W.mg_of X G yr,lJ yt⟩;have F79:=Sy (st:=wW) l79 c79 k79;refine⟨W.fnOf "law" "law" (eZ wW) (cQ wW) (aC wW) .none kV dc pm an cd ct,λs v=>.of_eq rfl,λbase _ _=>?_⟩;have VR: ~~~oU:=⟨lB X G p0 (B5 · T )⟩;have WY: ~~~j9:=⟨lB X G p1 (rQ · T )⟩;have VO: ~~~dY:=⟨lB X G p2 (Fs · T WY)⟩;have VS: ~~~fT:=⟨lB X G p3 (Ud · T VO)⟩;have WH: ~~~kQ:=⟨lB X G p4 (Um · T VO)⟩;have VU: ~~~jJ:=⟨lB X G p5 (Uo · T VO)⟩;have WU: ~~~pR:=⟨lB X G p6 (V8 · T VU VS)⟩;have VT: ~~~gV:=⟨xW X G p7 (Je · T )⟩;have WZ: ~~~q0:=⟨lB X G p8 (A9 · T VO)⟩;have lq: ~~~Rk:=⟨lB X G p9 (V7 · T )⟩;have XD: ~~~pJ:=⟨xW X G p10 (yA · T )⟩;have YY: ~~~u5:=⟨xW X G p11 (Jg · T XD)⟩;have WG: ~~~kO:=⟨lB X G p12 (Uk · T WH)⟩;have WV: ~~~lE:=⟨xW X G p13 (Bq · T YY WU)⟩;have WM: ~~~lH:=⟨xW X G p14 (Jl · T WV WZ)⟩;have VW: ~~~iN:=⟨xW X G p15 (Ga · T )⟩;have WE: ~~~jI:=⟨xW X G p16 (Jd · T )⟩;have VQ: ~~~fL:=⟨xW X G p17 (Pt · T WE)⟩;have WC: ~~~iK:=⟨lB X G p18 (Fl · T VQ)⟩;have WW: ~~~lD:=⟨xW X G p19 (Bn · T VQ)⟩;have XC: ~~~mM:=⟨lB X G p20 (wB · T WM WG VT VW)⟩;have VX: ~~~iM:=⟨lB X G p21 (Ft · T WC VQ WE WM WG XC)⟩;have YH: ~~~rB:=⟨lB X G p22 (Bs · T WE WV WG VQ)⟩;have WT: ~~~mP:=⟨lB X G p23 (Ug · T VU WH)⟩;have WA: ~~~fF:=⟨lB X G p24 (qB · T VX)⟩;have XR: ~~~mO:=⟨lB X G p25 (wD · T WA WT)⟩;have ZD: ~~~uY:=⟨xW X G p26 (Ja · T WW XR)⟩;have ZL: ~~~yN:=⟨lB X G p27 (Qe · T VU WH VS)⟩;have YZ: ~~~u9:=⟨xW X G p28 (Jk · T VO)⟩;have YM: ~~~u7:=⟨Zl X G p29 (Ji · T YZ VU VO ZL)⟩;have XS: ~~~mQ:=⟨lB X G p30 (wF · T WU WT)⟩;have WJ: ~~~i5:=⟨Zl X G p31 (pF · T XS YM WZ WT VS WU VZ)⟩;have WI: ~~~kA:=⟨lB X G p32 (Fm · T )⟩;have XQ: ~~~rD:=⟨lB X G p33 (Bu · T WT WU WH VS VZ)⟩;have XX: ~~~u0:=⟨xW X G p34 (Jc · T )⟩;have ZM: ~~~yJ:=⟨Zl X G p35 (Pz · T XQ WI)⟩;have VM: ~~~dD:=⟨Zl X G p36 (sJ · T WJ XX ZM)⟩;have WS: ~~~rA:=⟨lB X G p37 (B4 · T VS)⟩;have WD: ~~~kP:=⟨lB X G p38 (Qc · T VU)⟩;have ZP: ~~~yM:=⟨lB X G p39 (Qd · T WD WS WZ VS WU VZ)⟩;have YJ: ~~~qZ:=⟨xW X G p40 (Bo · T WU WI)⟩;have ZU: ~~~yH:=⟨lB X G p41 (Pw · T )⟩;have WO: ~~~mS:=⟨lB X G p42 (Uj · T )⟩;have cm: ~~~Kn:=⟨lB X G p43 (A8 · T WO)⟩;have XY: ~~~u4:=⟨lB X G p44 (Ul · T WO)⟩;have WN: ~~~mV:=⟨lB X G p45 (Fx · T WO)⟩;have YR: ~~~z7:=⟨lB X G p46 (A6 · T cm)⟩;have XT: ~~~uI:=⟨lB X G p47 (A7 · T XY)⟩;have VP: ~~~iB:=⟨lB X G p48 (x8 · T WN)⟩;have ZR: ~~~yI:=⟨lB X G p49 (Px · T XY WN)⟩;have XA: ~~~mW:=⟨xW X G p50 (Fy · T )⟩;have XH: ~~~tK:=⟨xW X G p51 (Fz · T XA)⟩;have WX: ~~~lF:=⟨lB X G p52 (Br · T VR XH)⟩;have cn: ~~~Dk:=⟨xW X G p53 (Uh · T VP)⟩;have XB: ~~~mT:=⟨lB X G p54 (Fv · T YR XT VP)⟩;have XZ: ~~~pH:=⟨lB X G p55 (xZ · T VR WX cn)⟩;have ZO:Fn P w K mg base 6 "_law_drawn" oM (tU K Kj):=⟨lB X G p56 (Py · T VR XZ XB)⟩;have ZN: ~~~yL:=⟨xW X G p57 (Qb · T VR WO)⟩;have de:Fn P w K mg base 7 "_law_case" ["_law_box_here"] (tU K Wy):=⟨xW X G p58 (Ui · T VR ZN WX XB ZO)⟩;have YC: ~~~pI:=⟨Zl X G p59 (x9 · T WC VQ WD VT VX WG WS)⟩;have XF: ~~~pS:=⟨xW X G p60 (Jj · T ZP)⟩;have WQ: ~~~lG:=⟨lB X G p61 (Jf · T XF)⟩;have YV: ~~~zY:=⟨JH X G p62 (V9 · T WS WD)⟩;have YF: ~~~qY:=⟨T8 X G p63 (Bm · T WA VM VT VW)⟩;have YD: ~~~pG:=⟨JH X G p64 (xY · T WQ YF YV WC YG)⟩;have YL: ~~~rC:=⟨T8 X G p65 (Bt · T VX WQ VM VT VW YV)⟩;have ZE: ~~~uZ:=⟨T8 X G p66 (Jb · T VX WQ VM VT VW YV VQ)⟩;have XU: ~~~mN:=⟨lB X G p67 (wC · T WG WC VQ)⟩;have YI: ~~~qX:=⟨Zl X G p68 (Bl · T XU VM WM)⟩;have YS: ~~~tJ:=⟨Zl X G p69 (Fu · T WI VU WH WZ VS XI YA ky)⟩;have YK: ~~~rE:=⟨xW X G p70 (Bv · T XF)⟩;have XJ: ~~~mK:=⟨Zl X G p71 (uF · T YB)⟩;have ZC: ~~~u6:=⟨T8 X G p72 (Jh · T YH YI YS YJ VS YK XJ WS WD XI)⟩;have XM: ~~~mJ:=⟨T8 X G p73 (uD · T WE YC ZC)⟩;have cq: ~~~Dj:=⟨xW X G p74 (Ue · T ZD)⟩;have XW: ~~~mR:=⟨T8 X G p75 (wG · T cq XM YD WW YL ZE)⟩;have ZS: ~~~yG:=⟨Zl X G p76 (Pr · T XW)⟩;have XN: ~~~mI:=⟨lB X G p77 (uC · T ZR XT)⟩;have ZV: ~~~yK:=⟨T8 X G p78 (Qa · T ZS XN VP XA XT YR)⟩;exact(W2 F79 T ZU lq de ZV).imp V1
theorem JB{l:W.OpenLaw}{XP:(Str->Option oA)->oE->Prop}{YP:SX->oE->Prop}{d:DefRec}{K:Params->W.Frag}(hn:l.most=oZ 63)(wy:d.params.defaults=[])(hY:∀(w:SX)(h:oE),YP w h->(K w.params).In h)(F:∀(w:SX)(mg:Str->Option oA)(fa:SN)(h:oE),(K w.params).In h->h.Ns SW mg->mg d.name=oZ (.ref fa)->
   ∃fd:TK,(∀(s:oB)(u:oA),BindsTo s fd ⟨[u],[]⟩ [("_law_script",u)])/\∀base:oE,(K w.params).In base->base.Ns SW mg->aS l.prog w (K w.params) mg base cJ 16 fa fd ["_law_script"] (Mp (K w.params))):
  W.WalkO q loose XP YP l.row.toRowW d [] (λf vs=>PySem.call f vs):=
 L2.J8 (n:=63) (k:=16) (x:="_law_script") (CX:=λ_=>cJ) (sp:=λw=>Mp (K w.params)) hn ∅ wy ⟨rfl,∅,∅,rfl⟩ hY F (λ_ _ a ns hl _ hS=>⟨a,ns,rfl,hS,hl,λ_=>rfl⟩) λ_ _ _ _ _ z=>z
end My
namespace PySem.W.Fast
def tw14647331871997240566:=0
def tw14949434128667751340:=0
def tw5078073975130748335:=0
def tw7934636289179972102:=0
def tw13985872193605573201:=0
def tw7667247517023474139:=0
def tw10610390403395652149:=0
def tw14289334040572796391:=0
def tw3560199862930788316:=0
def tw2728424443790024627:=0
def tw5482399663808209379:=0
def tw4713341973301192789:=0
def tw1534702470508115436:=0
def tw11858572490853485926:=0
def tw5192111725712559173:=0
def tw17638690113150600746:=0
def tw10933264853444249246:=0
def tw2839465916327135430:=0
def tw15725275224533112312:=0
def tw8969760078505423546:=0
def tw3662411047247770458:=0
def tw832311927843331565:=0
def tw13141692045943158907:=0
def tw14598539120994667198:=0
def tw10233365072109647153:=0
def tw17323612186887517893:=0
def tw12627199118196132345:=0
def tw5897595573341968742:=0
def tw894946737894976020:=0
def tw8398392569931967410:=0
def tw8398913538943468246:=0
def tw16640839654761915068:=0
def tw17957107010680652805:=0
def tw8282048310827401647:=0
def tw9297766397846621290:=0
def tw5347506727415601740:=0
def tw14947792454076168083:=0
def tw9752141710490675243:=0
def tw13215237439630581451:=0
def tw14922546229261536554:=0
def tw2057455120420675314:=0
def tw17340099751942730533:=0
def tw3062596199083331080:=0
def tw8335937633607332351:=0
def tw15996771754197604928:=0
def tw18133711866734616000:=0
def tw3495745330721940130:=0
def tw17712351819792043272:=0
def tw6921140454498694407:=0
def tw6054260190504876000:=0
def tw10504871338589940577:=0
def tw10172000198535300044:=0
def tw17363760380643920658:=0
def tw11770182497516221985:=0
def tw8119058447344994433:=0
def tw8761442266686738944:=0
def tw1303976430041834563:=0
def tw8653491681046267729:=0
def tw10635377565211334701:=0
def tw13667838078640150664:=0
def tw8713068951238072543:=0
def tw3659760006826240358:=0
def tw5025084759086831081:=0
def tw9802224676121220676:=0
def tw16856072240261739072:=0
def tw5685572313461251888:=0
def tw10338132038581683180:=0
def tw9006818112608391366:=0
def tw4453504213699404609:=0
def tw14534789196428215629:=0
def tw10503349130519882997:=0
def tw2547374251878728461:=0
def tw13559147447643793741:=0
def tw9879810087099993740:=0
def tw17814841861584667192:=0
def tw17285333806214052636:=0
def tw17765667510250241225:=0
def tw15094839243513131599:=0
def tw147657251920765866:=0
def tw6111373442401957025:=0
def tw17630551187428978759:=0
def tw8498293752455057034:=0
def tw1524303752181479249:=0
def tw12714338019657848931:=0
def tw11276891823737746523:=0
def tw10961566028157897990:=0
def tw565962100267670821:=0
def tw3122915525461095746:=0
def tw16046490162086343085:=0
def tw11361464594550238599:=0
def tw3501642359671403214:=0
def tw7949730694594263887:=0
def tw12910896910095526573:=0
def tw408416071720317784:=0
def tw7715199518438351784:=0
def tw18079776580568042552:=0
def tw12144319471206670263:=0
def tw10785825249317875700:=0
def tw1415997536289247874:=0
def tw16683263970130988388:=0
def tw17172249514416795726:=0
def tw5490815051597894849:=0
def tw14798603207416262765:=0
def tw2632009029448981307:=0
def tw6921280341818762291:=0
def tw17528212455717398321:=0
def tw2256879963468926508:=0
def tw15711305828730184458:=0
def tw17563149904220333985:=0
def tw5568644594532054983:=0
def tw13584182836646757730:=0
def tw7589806547279288115:=0
def tw3357682698660370706:=0
def tw16483776492522849530:=0
def tw3493741050865774300:=0
def tw9680637687902047645:=0
def tw10594211006608175618:=0
def tw4061335409631574762:=0
def tw4990590260212564999:=0
def tw6635657518645359466:=0
def tw1165905557772048529:=0
def tw18059517026419173056:=0
def tw1708154198270356168:=0
def tw2922267033042363024:=0
def tw654984686152213703:=0
def tw2526539530858747543:=0
def tw16598909795975188919:=0
def tw10713875257455490428:=0
def tw13432258285639964478:=0
def tw10034588346811277902:=0
def tw3958132002794839945:=0
def tw1391316690637362241:=0
def tw11451259874110045516:=0
def tw15507902414023999440:=0
def tw475882068948841888:=0
def tw235031448643670881:=0
def tw17676384999990885563:=0
def tw7776592434808647933:=0
def tw3576015399403424504:=0
def tw15569374005964660887:=0
def tw1199811421420405118:=0
def tw7131759802352792479:=0
def tw6860858375061422892:=0
def tw10888522517424512065:=0
def tw1780452197224850366:=0
def tw6017623623324000857:=0
def tw460047850525459353:=0
def tw12038412590296515824:=0
def tw3840476653646279876:=0
def tw13661581248170314761:=0
def tw359527137003463407:=0
def tw15987537180190548147:=0
def tw2305813875483468057:=0
def tw509795056741494042:=0
def tw11027371122646308333:=0
def tw4805413477350015901:=0
def tw14068249730152608358:=0
def tw7844614041274102562:=0
def tw13023333384712487045:=0
def tw1958810224004607301:=0
def tw766641093260262295:=0
def tw12963056320583758176:=0
def tw13775907735002204431:=0
def tw8612477364521984569:=0
def tw16301861814032117787:=0
end PySem.W.Fast
open PySem PySem.W PyProof.Rows
set_option maxRecDepth 100000 in
set_option maxHeartbeats 0 in
theorem PySem.Challenge.cw_sidecut_k20_blocks_go_round_holds : PySem.Challenge.rw_sidecut_k20_blocks_go_round.Holds := by
 w_on; o_law; k_head; (case hw => w_witness2)
 k_fill
 refine My.JB (l := PySem.Challenge.rw_sidecut_k20_blocks_go_round) rfl rfl (λw h Y => PySem.W.kIn_of Y) ?F
 case F =>
  intro w mg fa h KX G hmg
  refine' My.P9 KX G hmg ..
  any_goals exact My.fc rfl rfl rfl rfl
  any_goals k_is
  all_goals kernel_rfl
#print axioms PySem.Challenge.cw_sidecut_k20_blocks_go_round_holds
