import PyProof.Rows.All
import Wide.All
import OpenK.AllK
import Wide.FinOn
import Lean
import PyProof.EqAt
import PyProof.EqKinds
import PyProof.TupleCall
import PyProof.NeKinds
import PyProof.ExcInit
import PyProof.Rows.SortStr
import PyProof.Rows.SortWalk
import PyProof.Rows.RuleB_bool
import PyProof.Rows.SortShellK
import KE.KIntText
import KE.KIsAll
import PyProof.AttrMissHeap
import PyProof.CompUse
import PyProof.Rows.CountFlat
import PyProof.DictCompW
import PyProof.StrCalls6
import PyProof.DictItemsLoops
import PySem.Challenge.RW_sidecut_k21_near_points_are_in_blocks
set_option Elab.async false
set_option linter.all false
set_option bootstrap.genMatcherCode false
set_option compiler.extract_closed false
set_option maxRecDepth 100000
set_option maxHeartbeats 4000000
open List renaming getElem?_eq_some_iff -> NV, getElem?_eq_getElem -> NW, mem_of_getElem? -> NX, getElem?_map -> NY, mem_cons -> NZ, length_append -> OB, mem_cons_of_mem -> OC, length_map -> OD, replicate -> OE, size_toArray -> OJ, mem_cons_self -> OK, append_assoc -> OM, mem_append_right -> ON, getElem?_append_left -> OO, getElem?_set_ne -> OP, range -> OQ, map_append -> OR, length_singleton -> OS, length_cons -> OT, getD_eq_getElem?_getD -> OU, getElem?_set_self -> OV, getElem?_append_right -> OX, mem_append -> OZ, mem_singleton -> PD, length_take -> PM, append_nil -> PV, replicate_succ -> PY, map_cons -> PZ, mem_append_left -> QD, not_mem_nil -> QF, mem_range -> QH, mem_map -> QK, pairwise_cons -> QL, drop_eq_getElem_cons -> QM, eq_nil_of_length_eq_zero -> QP, getElem?_take_of_lt -> QR, getElem?_eq_none -> QU, nodup_cons -> QX, getElem?_of_mem -> QY, flatten_cons -> RB, length_drop -> RC, take -> RF, getElem?_cons_succ -> RG, getElem?_range -> RH, length_pos_iff -> RI, lookup_cons -> RJ, getElem_mem -> RK, mem_singleton_self -> RN, mem_map_of_mem -> RO, take_of_length_le -> RP, length_replicate -> RQ, range_succ -> RS, getElem?_take_eq_none -> RT, reverse_cons -> RU, take_add_one -> RW, drop_length -> RY, take_length -> SA, getElem?_replicate -> SD, find?_cons -> SG, getElem?_drop -> SH, dropLast_concat_getLast -> SJ, all_eq_true -> SK, getElem?_set -> TK, mem_reverse -> TM, eraseIdx_eq_take_drop_succ -> TQ, length_set -> TR, foldl -> TU, filterMap_cons -> TZ, any_cons -> UE, getElem?_inj -> UG, pairwise_iff_getElem -> UI, map_map -> UL, any_eq_true -> UQ, mem_flatten -> UT, mem_filter -> UX, of_mem_zip -> UY, length_nil -> UZ, range_succ_eq_map -> VE, drop_of_length_le -> VF, nodup_nil -> VI, Nodup -> VL
open PySem.Heap renaming get?_push_of_some -> OA, lt_size -> OH, get?_push_size -> OL, size_push -> RA, SameBut -> SU, get?_update_self -> TN, get?_update_other -> VC
open Nat renaming le_refl -> OF, zero_le -> OG, lt_of_lt_of_le -> OI, lt_or_ge -> OY, ne_of_lt -> PB, gcd -> PJ, le_of_lt -> PK, lt_of_le_of_lt -> PL, le_trans -> PQ, pow_le_pow_right -> PU, eq_zero_or_pos -> QJ, add_comm -> RX, lt_succ_self -> RZ, gcd_dvd_right -> SI, gcd_dvd_left -> SM, Coprime -> SN, two_mul -> SO, not_lt_zero -> SQ, gcd_pos_of_pos_right -> SV, mod_lt -> TC, mul_le_mul -> TH, log2_lt -> TL, gcd_comm -> TY, pow_two -> UC, succ_le_succ -> UK, mul_lt_mul'' -> UN, log2 -> UO, lt_log2_self -> UP, exists_eq_add_of_le -> UW, le_succ -> VD
open PySem.Str renaming ofString -> OW
open Bool renaming and_eq_true -> PF, false_ne_true -> RM, not_eq_true' -> TJ, eq_iff_iff -> VA, and_false -> VG
open Option renaming map_eq_some_iff -> PH, toList_some -> SX, map_some -> TV, isSome_iff_exists -> UJ, bind_eq_some_iff -> UU
open Int renaming natAbs_mul -> PN, toNat_natCast -> PR, mul_ediv_cancel_left -> QV, fdiv_eq_ediv_of_nonneg -> QZ, ofNat_dvd_left -> RD, mul_ne_zero -> SR, emod_lt_of_pos -> SW, natAbs_neg -> TB, mul_nonneg -> TF, fmod_eq_emod_of_nonneg -> UD, mul_neg_of_neg_of_pos -> UH, lt_or_le -> UM, mul_fdiv_cancel_left -> US, emod_nonneg -> VB, mul_le_mul -> VJ
open Or renaming inl -> PX, inr -> QN
open PySem.Value renaming ref -> QC, str -> SE, none -> SY
open PySem.Obj renaming mapSeq -> SF
open Array renaming length_toList -> UA, getElem?_toList -> VH, toList -> VM
open PySem.Txt renaming join -> UR
open PyProof.Rows renaming AllBare -> WT, envOfC -> WU, assignInOrder_cons -> XO
open PySem renaming Addr -> VN, wpAny_bind -> VO, wpAny -> VP, Program -> VQ, model -> VR, Stmt -> VS, mainGlobals -> VT, World -> VU, wpAny_pure -> VV, sizeLine -> VW, foldedSetIterable -> VX, eval -> VY, starEach -> VZ, behindInMarks -> WA, FuncData -> WC, assignEach -> WD, compareOp -> WE, binaryOp -> WG, attributeBase -> WH, wpAny_newObj_type -> WI, swapsWith -> WJ, wpAny_field -> WK, bootBuiltins -> WL, wpAny_mono -> WM, wpAny_passesOwn -> WN, wpAny_truthy_bool -> WO, holding -> WQ, wpAny_holding -> WR, letOwnedTupleGo -> WS, sysModules -> WV, wpAny_call_entry -> WW, assign -> WX, swapsWithSole -> WY, swappedStores -> WZ, getItem -> XA, sliceBounds -> XB, Scope -> XC, wpAny_setField_rec -> XD, cLine -> XE, wpAny_seqItems -> XF, backTo -> XG, subscripted -> XH, wpAny_standAt -> XI, IsZip -> XJ, codeAny -> XM, wpAny_execs_nil -> XN, wpAny_pyIter_tuple -> XQ, wpAny_Call_Name_kw -> XR, call_meets -> XS, callerA -> XT, codeAny_mono -> XU
open Option renaming some -> oZ
set_option hygiene false in
local macro_rules|`(~~~$x)=>`($x P w K mg base)
local macro_rules|`(↑$x)=>`(some (.p (.int $x)))
local macro_rules|`(↥$x)=>`(some (.o false $x))
local macro_rules|`(⇑$x)=>`(some (.p $x))
local macro_rules|`(⋯)=>`(by lia)
local macro_rules|`(∅)=>`(by decide)
theorem oY{p:Prop}[Decidable p](h:p):decide p=true:=decide_eq_true h
theorem oX{p:Prop}[Decidable p](h:¬p):decide p=false:=decide_eq_false h
theorem oV{c:Prop}{_:Decidable c}(h:c){α:Sort u}{t e:α}:ite c t e=t:=if_pos h
theorem oW{c:Prop}{_:Decidable c}(h:¬c){α:Sort u}{t e:α}:ite c t e=e:=if_neg h
open PySem renaming Value -> oA, Shared -> oB, Expr -> oC, Around -> oD, Heap -> oE
namespace L2
open PySem PySem.Spec PyProof.Rows
abbrev Key:=Sum Int Str
def Ad:Key->oA->Bool
 |.inl k,v=>Value.isInt k v
 |.inr x,v=>Value.isStrOf x v
def LD(w:VU):Key->Int
 |.inl k=>hashInt k
 |.inr x=>hashStr w x
theorem c8:∀{k:Key}{v:oA},Ad k v=true->(∃i t,k=Sum.inl i/\v=Value.int i t)\/(∃x t,k=Sum.inr x/\v=SE x t)
 |.inl i,v,h=>by
  obtain⟨t,e⟩:=Value.isInt_shape (k:=i) (v:=v) h;exact .inl ⟨i,t,rfl,e⟩
 |.inr x,v,h=>by
  obtain⟨t,e⟩:=Value.isStrOf_shape (x:=x) (v:=v) h;exact .inr ⟨x,t,rfl,e⟩
theorem Rg(i:Int)(t:Tok):Ad (.inl i) (.int i t)=true:=by simp[Ad,Value.isInt]
theorem Rh(x:Str)(t:Tok):Ad (.inr x) (.str x t)=true:=by simp[Ad,Value.isStrOf]
theorem AD(a b:Int):decide ((Sum.inl a:Key)=Sum.inl b)=(a==b):=by
 by_cases e:a=b
 ·subst e;simp
 ·have h:¬(Sum.inl a:Key)=Sum.inl b:=λq=>e (Sum.inl.inj q);rw[oX h];exact(beq_eq_false_iff_ne.mpr e).symm
theorem AG(a b:Str):decide ((Sum.inr a:Key)=Sum.inr b)=decide (a=b):=by
 by_cases e:a=b
 ·subst e;simp
 ·have h:¬(Sum.inr a:Key)=Sum.inr b:=λq=>e (Sum.inr.inj q);rw[oX h,oX e]
theorem AE(a:Int)(b:Str):decide ((Sum.inl a:Key)=Sum.inr b)=false:=oX (λq=>nomatch q)
theorem AF(a:Str)(b:Int):decide ((Sum.inr a:Key)=Sum.inl b)=false:=oX (λq=>nomatch q)
def eO(prog:VQ)(w:VU):PySem.KeyKind prog w Key where
 is:=Ad
 hash:=LD w
 inj:=λv a b ha hb=>by
  obtain⟨i,t,rfl,rfl⟩|⟨x,t,rfl,rfl⟩:=c8 ha
  ·obtain⟨j,u,rfl,e⟩|⟨y,u,rfl,e⟩:=c8 hb
   ·injection e with e1 _;rw[e1]
   ·exact nomatch e
  ·obtain⟨j,u,rfl,e⟩|⟨y,u,rfl,e⟩:=c8 hb
   ·exact nomatch e
   ·injection e with e1 _;rw[e1]
 byValue:=λk v h=>by
  rcases c8 h with⟨i,t,rfl,rfl⟩|⟨x,t,rfl,rfl⟩<;>rfl
 pyHash:=λhv h=>by
  obtain⟨i,t,rfl,rfl⟩|⟨x,t,rfl,rfl⟩:=c8 hv
  ·exact wpAny_pyHash_int h
  ·exact wpAny_pyHash_str h
 eqBool:=λhu hv h=>by
  obtain⟨i,t,rfl,rfl⟩|⟨x,t,rfl,rfl⟩:=c8 hu
  ·obtain⟨j,u,rfl,rfl⟩|⟨y,u,rfl,rfl⟩:=c8 hv
   ·rw[AD]at h;exact wpAny_eqBool_int h
   ·rw[AE]at h;exact SeqAt.EqAt.int_str i t y u _ _ _ _ h
  ·obtain⟨j,u,rfl,rfl⟩|⟨y,u,rfl,rfl⟩:=c8 hv
   ·rw[AF]at h;exact SeqAt.EqAt.str_int x t j u _ _ _ _ h
   ·rw[AG]at h;exact wpAny_eqBool_str h
 «strs»:=λk x t v h=>by
  obtain⟨i,u,rfl,e⟩|⟨y,u,rfl,e⟩:=c8 h
  ·exact nomatch e
  ·injection e with e1 _;subst e1;cases v<;>rfl
theorem Gy(prog:VQ)(w:VU)(i:Int)(t:Tok):(eO prog w).is (.inl i) (.int i t)=true:=Rg i t
theorem d8(prog:VQ)(w:VU)(x:Str)(t:Tok):(eO prog w).is (.inr x) (.str x t)=true:=Rh x t
inductive V where
 |non|bl (b:Bool)|int (i:Int)|str (x:Str)|byt (b:Array UInt8)|flt (b:UInt64)|ref (a:VN)|ty (n:String)
 deriving DecidableEq
def bN:V->oA->Prop
 |.non,u=>u=SY
 |.bl b,u=>u=Value.bool b
 |.int i,u=>∃t,u=Value.int i t
 |.str x,u=>∃t,u=SE x t
 |.byt b,u=>∃t,u=Value.bytes b t
 |.flt b,u=>∃t,u=Value.float b t
 |.ref a,u=>u=QC a
 |.ty n,u=>u=Value.type n
abbrev bA:List V->List oA->Prop:=Paired bN
theorem bA.length(r:bA xs us):xs.length=us.length:=Paired.length r
theorem bA.get:∀{xs:List V}{us:List oA}{i:Nat}{x:V},bA xs us->xs[i]?=oZ x->∃u,us[i]?=oZ u/\bN x u
 |_,_,_,_,.nil,e=>by simp at e
 |_,_,0,_,.cons r _,e=>by simp at e;subst e;exact⟨_,rfl,r⟩
 |_,_,i+1,x,.cons _ t,e=>by
  obtain⟨u,h1,h2⟩:=bA.get (i:=i) (x:=x) t (by simpa using e);exact⟨u,by simpa using h1,h2⟩
theorem bA.set(r:bN x u):∀{xs:List V}{us:List oA}(i:Nat),bA xs us->bA (xs.set i x) (us.set i u)
 |_,_,_,.nil=>.nil
 |_,_,0,.cons _ t=>.cons r t
 |_,_,i+1,.cons q t=>.cons q (bA.set r i t)
theorem bA.append:∀{xs ys:List V}{us ws:List oA},bA xs us->bA ys ws->bA (xs++ys) (us++ws):=by
 intro xs ys us ws h s
 induction h with
 |nil=>exact s
 |cons r t ih=>exact .cons r ih
theorem bA.take:∀{xs:List V}{us:List oA}(n:Nat),bA xs us->bA (xs.take n) (us.take n)
 |_,_,0,_=>.nil
 |_,_,_+1,.nil=>.nil
 |_,_,n+1,.cons r t=>.cons r (bA.take n t)
theorem bA.drop:∀{xs:List V}{us:List oA}(n:Nat),bA xs us->bA (xs.drop n) (us.drop n)
 |_,_,0,r=>r
 |_,_,_+1,.nil=>.nil
 |_,_,n+1,.cons _ t=>bA.drop n t
def yU:Option V->Option oA->Prop
 |some v,oZ u=>bN v u
 |none,none=>True
 |_,_=>False
def KV{κ:Type}:List (κ×V)->List (κ×oA)->Prop:=Paired λ(p:κ×V)(q:κ×oA)=>p.1=q.1/\bN p.2 q.2
def kV:Key->V
 |.inl i=>.int i
 |.inr x=>.str x
inductive HO where
 |lst (xs:List V)
 |tup (xs:List V)
 |dK (XZ:List (Key×V))|dT (XZ:List (List Key×V))
 |set (S:Int->Bool) (n:Nat)
 |ins (C dx:VN) (fs:List (Str×V))
 |own (x:VN)
 |xd (fs:List (Str×V))
 |met (f x:VN)
 |rng (lo hi:Int)
 |frz (o:Obj) (u:HO)
 |tbl (ps:Array oA)
 |ext (φ:oE->Prop)
abbrev Hp:=VN->Option HO
def upd(H:Hp)(a:VN)(o:HO):Hp:=λb=>if b=a then oZ o else H b
theorem dP:upd H a o a=oZ o:=by unfold upd;rw[oV rfl]
theorem bE(h:b≠a):upd H a o b=H b:=by unfold upd;rw[oW h]
theorem O8:upd (upd H a o) a u=upd H a u:=by
 funext b;unfold upd;split<;>rfl
theorem a8{H:Hp}(h:H a=oZ o)(h':H b=none):a≠b:=by
 intro e;subst e;rw[h]at h';cases h'
section
variable(P:VQ)(w:VU)
def dU(H:Hp)(h:oE)(a:VN):HO->Prop
 |.lst xs=>xs.length<=VW/\∃(XX:List oA)(n:Nat),bA xs XX/\h.get? a=oZ { cls:=.type "list",data:=.seq XX.toArray n }
 |.tup xs=>xs.length<=VW/\∃XX:List oA,bA xs XX/\IsTup h a XX.toArray
 |.dK XZ=>XZ.length<=VW/\(a==WV)=false/\∃vs,KV XZ vs/\h.DictOf (eO P w) a vs
 |.dT XZ=>XZ.length<=VW/\(a==WV)=false/\∃xs:List (List Key×VN×oA),
   Paired (λ(p:List Key×V)(q:List Key×VN×oA)=>p.1=q.1/\H q.2.1=oZ (.tup (p.1.map kV))/\bN p.2 q.2.2) XZ xs/\
   ∃o es ep,h.get? a=oZ o/\o.ExactDict/\o.data = .dict es ep/\es.toList=xs.map (entryOfKey (tupleKind (eO P w)))/\(xs.map (·.1)).Nodup
 |.set S n=>h.SetOf (intKind P w) a S n
 |.ins C dx fs=>H dx=oZ (.own a)/\fs.length<=1000/\dx≠a/\h.get? a=oZ (W.instObj C dx)/\
   ∃mA,h.Ns1 dx mA/\(∀f,yU (fs.lookup f) (mA f))/\PySem.Within mA (fs.map (·.1))
 |.own _=>∃o,h.get? a=oZ o
 |.xd fs=>∃mA,h.Ns1 a mA/\∀f,yU (fs.lookup f) (mA f)
 |.rng lo hi=>∃t u v,h.get? a=oZ { cls:=.type "range",data:=.fields #[.int lo t,.int hi u,.int 1 v] }
 |.frz o u=>h.get? a=oZ o/\dU H h a u
 |.tbl ps=>h.get? a=oZ { cls:=.none,data:=.fields ps }
 |.met f x=>h.get? a=oZ (W.methodObj (.ref f) (.ref x))
 |.ext φ=>φ h/\(∃o,h.get? a=oZ o)/\∀h1 h2:oE,φ h1->(∀o,h1.get? a=oZ o->h2.get? a=oZ o)->φ h2
def pT(H:Hp)(h:oE):Prop:=∀a o,H a=oZ o->dU P w H h a o
end
theorem dU.lt(x:dU P w H h a o):a<h.objs.size:=by
 cases o with
 |lst xs=>obtain⟨_,_,_,_,e⟩:=x;exact OH e
 |tup xs=>obtain⟨_,_,_,p⟩:=x;exact p.lt
 |dK XZ=>obtain⟨_,_,_,_,o,_,_,e,_⟩:=x;exact OH e
 |dT XZ=>obtain⟨_,_,_,_,o,_,_,e,_⟩:=x;exact OH e
 |set S n=>obtain⟨o,_,_,_,e,_⟩:=x;exact OH e
 |ins C dx fs=>obtain⟨_,_,_,e,_⟩:=x;exact OH e
 |own y=>obtain⟨_,e⟩:=x;exact OH e
 |xd fs=>obtain⟨_,⟨_,_,_,e,_⟩,_⟩:=x;exact OH e
 |rng lo hi=>obtain⟨_,_,_,e⟩:=x;exact OH e
 |frz ob u=>obtain⟨e,_⟩:=x;exact OH e
 |tbl ps=>exact OH (show h.get? a=oZ _ from x)
 |met f y=>exact OH (show h.get? a=oZ _ from x)
 |ext φ=>obtain⟨_,⟨_,e⟩,_⟩:=x;exact OH e
theorem Paired.mapP{α β:Type}{F G:α->β->Prop}:∀{l₁:List α}{l₂:List β},Paired F l₁ l₂->(∀a b,F a b->G a b)->Paired G l₁ l₂:=by
 intro l₁ l₂ h f
 induction h with
 |nil=>exact .nil
 |cons r t ih=>exact .cons (f _ _ r) ih
theorem dU.stay(x:dU P w H h a o)(k:∀b u,(b=a\/H b=oZ (.own a))->h.get? b=oZ u->h'.get? b=oZ u)(ho:∀b,H b=oZ (.own a)->H' b=oZ (.own a))(ht:∀b xs,H b=oZ (.tup xs)->H' b=oZ (.tup xs)):dU P w H' h' a o:=by
 induction o with
 |lst xs=>obtain⟨z,XX,n,r,e⟩:=x;exact⟨z,XX,n,r,k _ _ (.inl rfl) e⟩
 |tup xs=>obtain⟨z,XX,r,ob,e,c⟩:=x;exact⟨z,XX,r,ob,k _ _ (.inl rfl) e,c⟩
 |dK XZ=>obtain⟨z,y,vs,r,ob,es,ep,e,c⟩:=x;exact⟨z,y,vs,r,ob,es,ep,k _ _ (.inl rfl) e,c⟩
 |dT XZ=>
  obtain⟨z,y,xs,r,ob,es,ep,e,c⟩:=x;exact⟨z,y,xs,Paired.mapP r λp q z=>⟨z.1,ht _ _ z.2.1,z.2.2⟩,ob,es,ep,k _ _ (.inl rfl) e,c⟩
 |set S n=>obtain⟨ob,es,ep,t,e,c⟩:=x;exact⟨ob,es,ep,t,k _ _ (.inl rfl) e,c⟩
 |ins C dx fs=>
  obtain⟨d,z,ne,e,mA,⟨od,es,ep,e2,c⟩,r⟩:=x;exact⟨ho _ d,z,ne,k _ _ (.inl rfl) e,mA,⟨od,es,ep,k _ _ (.inr d) e2,c⟩,r⟩
 |own y=>obtain⟨ob,e⟩:=x;exact⟨ob,k _ _ (.inl rfl) e⟩
 |xd fs=>obtain⟨mA,⟨od,es,ep,e,c⟩,r⟩:=x;exact⟨mA,⟨od,es,ep,k _ _ (.inl rfl) e,c⟩,r⟩
 |rng lo hi=>obtain⟨t,u,v,e⟩:=x;exact⟨t,u,v,k _ _ (.inl rfl) e⟩
 |frz ob u ih=>obtain⟨e,q⟩:=x;exact⟨k _ _ (.inl rfl) e,ih q⟩
 |tbl ps=>
  have e:h.get? a=oZ { cls:=.none,data:=.fields ps }:=x;show h'.get? a=oZ { cls:=.none,data:=.fields ps };exact k a _ (.inl rfl) e
 |met f y=>
  have e:h.get? a=oZ (W.methodObj (.ref f) (.ref y)):=x;show h'.get? a=oZ (W.methodObj (.ref f) (.ref y));exact k a _ (.inl rfl) e
 |ext φ=>obtain⟨p,⟨o,e⟩,st⟩:=x;exact⟨st _ _ p λo q=>k _ _ (.inl rfl) q,⟨o,k _ _ (.inl rfl) e⟩,st⟩
theorem pT.lt(x:pT P w H h)(e:H a=oZ o):a<h.objs.size:=(x a o e).lt
theorem pT.fresh(x:pT P w H h)(e:h.objs.size<=a):H a=none:=by
 cases q:H a with
 |none=>rfl
 |some u=>exact absurd (OI (x.lt q) e) (Nat.lt_irrefl _)
theorem pT.kept(x:pT P w H h)(k:∀b u,h.get? b=oZ u->h'.get? b=oZ u):pT P w H h':=λa o e=>
 (x a o e).stay (λb u _ q=>k b u q) (λ_ q=>q) λ_ _ q=>q
theorem pT.laid(x:pT P w H h)(k:∀b u,h.get? b=oZ u->h'.get? b=oZ u)(hp:h.objs.size<=a)(new:dU P w (upd H a o) h' a o):pT P w (upd H a o) h':=λb u e=>by
 have hn:=x.fresh hp
 by_cases hb:b=a
 ·subst hb;rw[dP]at e;cases e;exact new
 ·rw[bE hb]at e;exact(x b u e).stay (λc v _ q=>k c v q) (λc q=>by rw[bE (a8 q hn)];exact q) λc xs q=>by rw[bE (a8 q hn)];exact q
def Rd(H:Hp)(a:VN)(u:HO):Prop:=H a=oZ u\/∃o,H a=oZ (.frz o u)
theorem Rd.ok(r:Rd H a u)(x:pT P w H h):dU P w H h a u:=by
 obtain r|⟨o,r⟩:=r
 ·exact x a u r
 ·obtain⟨_,q⟩:=x a _ r;exact q
def DS:Option HO->Prop
 |some (.lst _)=>True
 |some (.dK _)=>True
 |some (.dT _)=>True
 |some (.set _ _)=>True
 |some (.ins _ _ _)=>True
 |some (.ext _)=>True
 |_=>False
theorem pT.write(ok:pT P w H h)(mu:DS (H x))(he:e=x\/H e=oZ (.own x))(k:∀b u,b≠e->h.get? b=oZ u->h'.get? b=oZ u)(xv:∃u,h'.get? e=oZ u)(new:dU P w (upd H x o') h' x o'):pT P w (upd H x o') h':=λb u q=>by
 have yp:∀c y,H c=oZ (.own y)->c≠x:=λc y r z=>by subst z;rw[r]at mu;exact mu
 have aBU:∀c xs,H c=oZ (.tup xs)->c≠x:=λc xs r z=>by subst z;rw[r]at mu;exact mu
 by_cases hb:b=x
 ·subst hb;rw[dP]at q;cases q;exact new
 ·rw[bE hb]at q
  by_cases vp:b=e
  ·have q':H b=oZ (.own x):=by
    obtain z|z:=he
    ·exact absurd (vp.trans z) hb
    ·rw[vp];exact z
   rw[q]at q';cases q';obtain⟨v,hv⟩:=xv;exact⟨v,by rw[vp];exact hv⟩
  ·refine(ok b u q).stay (λc v hc r=>k c v ?_ r) (λc r=>by rw[bE (yp c b r)];exact r) λc xs r=>by rw[bE (aBU c xs r)];exact r
   obtain rfl|hc:=hc
   ·exact vp
   ·rintro rfl;obtain z|z:=he
    ·exact yp c b hc z
    ·rw[hc]at z;cases z;exact hb rfl
structure Un(fs ex:List VN)(H H':Hp)(h h':oE):Prop where
 keep:∀b o,h.get? b=oZ o->H b=none->b∉fs->b∉ex->h'.get? b=oZ o
 slot:∀b o,h.get? b=oZ o->H b=none->b∈fs->b∉ex->∃sl,h'.get? b=oZ { o with slots:=sl }
 free:∀b o,h.get? b=oZ o->H b=none->b∉ex->H' b=none
 there:∀b o,h.get? b=oZ o->b∉ex->∃o',h'.get? b=oZ o'
 tups:∀b xs,H b=oZ (.tup xs)->H' b=oZ (.tup xs)
 frzs:∀b o u,H b=oZ (.frz o u)->H' b=oZ (.frz o u)
 tbls:∀b ps,H b=oZ (.tbl ps)->∃more,H' b=oZ (.tbl (ps++more))
theorem Un.any(u:Un fs ex H H1 h h1)(q:h.get? b=oZ ob)(n:H b=none)(hx:b∉ex):∃sl,h1.get? b=oZ { ob with slots:=sl }:=by
 by_cases hb:b∈fs
 ·exact u.slot b ob q n hb hx
 ·exact⟨ob.slots,u.keep b ob q n hb hx⟩
theorem Un.kept(k:∀b u,h.get? b=oZ u->h'.get? b=oZ u):Un fs ex H H h h':=
 ⟨λb ob q _ _ _=>k b ob q,λb ob q _ _ _=>⟨ob.slots,k b ob q⟩,λ_ _ _ n _=>n,λb ob q _=>⟨ob,k b ob q⟩,λ_ _ q=>q,λ_ _ _ q=>q,λ_ ps q=>⟨#[],by rw[q];simp⟩⟩
theorem Un.refl:Un fs ex H H h h:=Un.kept λ_ _ q=>q
theorem Un.laid{fs:List VN}{ex:List VN}{H:Hp}{h:oE}{h':oE}{a:VN}{o:HO}(k:∀b u,h.get? b=oZ u->h'.get? b=oZ u)(hp:h.objs.size<=a)(hn:H a=none):Un fs ex H (upd H a o) h h' where
 keep:=λb u q _ _ _=>k b u q
 slot:=λb u q _ _ _=>⟨u.slots,k b u q⟩
 free:=λb u q n _=>by rw[bE (PB (OI (OH q) hp))];exact n
 there:=λb u q _=>⟨u,k b u q⟩
 tups:=λb xs q=>by rw[bE (a8 q hn)];exact q
 frzs:=λb u xs q=>by rw[bE (a8 q hn)];exact q
 tbls:=λb ps q=>⟨#[],by rw[bE (a8 q hn),q];simp⟩
theorem Un.write(mu:DS (H x))(he:e=x\/H e=oZ (.own x))(k:∀b u,b≠e->h.get? b=oZ u->h'.get? b=oZ u)(xv:∃u,h'.get? e=oZ u):Un fs ex H (upd H x o) h h':=by
 have hx:∀b,H b=none->b≠x:=λb n z=>by subst z;rw[n]at mu;exact mu
 have hb:∀b,H b=none->b≠e:=λb n z=>by
  subst z;obtain r|r:=he
  ·exact hx b n r
  ·rw[n]at r;cases r
 have hm:∀b u,H b=oZ u->¬DS (oZ u)->b≠x:=λb u q nm z=>by subst z;rw[q]at mu;exact nm mu
 refine⟨λb u q n _ _=>k b u (hb b n) q,λb u q n _ _=>⟨u.slots,k b u (hb b n) q⟩,λb u q n _=>by rw[bE (hx b n)];exact n,λb u q _=>?_,
  λb xs q=>by rw[bE (hm b _ q λz=>z)];exact q,λb u xs q=>by rw[bE (hm b _ q λz=>z)];exact q,λb ps q=>⟨#[],by rw[bE (hm b _ q λz=>z),q];simp⟩⟩
 by_cases vp:b=e
 ·subst vp;exact xv
 ·exact⟨u,k b u vp q⟩
def JL(h:oE)(H:Hp):List VN:=(OQ h.objs.size).filter λa=>(H a).isSome
def Ce(h:oE)(H:Hp):oE:=W.hideAll h (JL h H)
theorem Rb(h:oE)(H:Hp):(Ce h H).objs.size=h.objs.size:=W.hideAll_size _ _
theorem Vb(e:h.get? b=oZ o)(n:H b=none):(Ce h H).get? b=oZ o:=
 W.hideAll_get _ e λhm=>by
  have q:(H b).isSome=true:=(UX.mp hm).2;rw[n]at q;simp at q
theorem G6(e:(Ce h H).get? b=oZ o):h.get? b=oZ o/\H b=none:=by
 have e':h.get? b=oZ o:=W.of_hideAll (JL h H) e;refine⟨e',?_⟩;cases q:H b with
 |none=>rfl
 |some x=>
  have hm:b∈JL h H:=UX.mpr ⟨QH.mpr (OH e'),by simp[q]⟩;have z:(Ce h H).get? b=none:=W.hideAll_none (JL h H) hm;rw[z]at e;cases e
structure Mod(K:W.Frag)(mg:Str->Option oA)(base:oE):Prop where
 kin:K.In base
 glob:base.Ns VT mg
 blt:∃mb,base.Ns builtinsNs mb/\∀x:Str,x≠"__name__"->mb x=WL x
 nolimit:base.NoLimit
structure Cx where
 prog:VQ
 w:VU
 K:W.Frag
 mg:Str->Option oA
 base:oE
 A:oD
 N:List Str
 s₀:oB
 H₀:Hp
 env:Env
 outer:List Env
 stack:List Env
 ex:List VN
 fn:Str->Bool
 calm:Bool
 pn:List (VN×Obj)
 xe:oA->oB->Prop
def Jc(l:List Env):List VN:=l.filterMap (·.frame)
abbrev Cx.fs(X:Cx):List VN:=Jc X.outer
def P4(sc:XC)(x:Str):Prop:=sc.names.lookup x=oZ .local\/sc.names.lookup x=oZ .cell\/sc.names.lookup x=oZ .free
def yT(sc:XC)(x:Str):Prop:=sc.names.lookup x=oZ .local\/sc.names.lookup x=oZ .cell
def JP(env:Env)(h:oE)(m:Str->Option oA)(x:Str)(u:oA):Prop:=
 (env.kindOf x=oZ .local/\m x=oZ u)\/((env.kindOf x=oZ .cell\/env.kindOf x=oZ .free)/\∃c,env.cells.lookup x=oZ c/\h.IsCell c (oZ u))
structure Cx.Ok(X:Cx):Prop where
 mod:Mod X.K X.mg X.base
 kind:X.env.scope.kind = .function
 glob:X.env.globals=VT
 blt:X.env.builtins=builtinsNs
 above:X.s₀.heap.objs.size<=X.env.locals
 inj:∀x y c,X.env.cells.lookup x=oZ c->X.env.cells.lookup y=oZ c->x=y
 has:∀x,(X.env.kindOf x=oZ .cell\/X.env.kindOf x=oZ .free)->∃c,X.env.cells.lookup x=oZ c
 cab:∀x c,X.fn x=true->X.env.cells.lookup x=oZ c->X.s₀.heap.objs.size<=c
 hd:X.calm=true->X.A.handled=none
 frames:X.A.frames=oZ X.stack
 stk:X.stack=X.outer\/(X.stack=X.env::X.outer/\X.env.frame=oZ X.env.locals)
 exf:∀b∈X.ex,b≠X.env.locals/\∀x c,X.env.cells.lookup x=oZ c->c≠b
 bs:∀b o,X.base.get? b=oZ o->X.s₀.heap.get? b=oZ o/\X.H₀ b=none
 bsz:X.base.objs.size<=X.s₀.heap.objs.size
 noex:∀b o,X.base.get? b=oZ o->b∉X.ex
 exfs:∀b∈X.ex,b∉X.fs
 funs:X.s₀.heap.FunFrames X.base X.outer
 frf:∀b∈X.fs,X.H₀ b=none
structure aU(X:Cx)(pins:List (VN×Obj))(σ:List (Option V))(H:Hp)(s:oB):Prop where
 ok:X.Ok
 os:s.os=X.s₀.os
 bare:WT s.gens
 base:Un X.fs X.ex X.H₀ H X.s₀.heap s.heap
 loc:∃m,s.heap.Ns X.env.locals m/\∀(i:Nat)(x:Str)(v:V),X.N[i]?=oZ x->σ[i]?=oZ (oZ v)->P4 X.env.scope x->∃u,bN v u/\JP X.env s.heap m x u
 cell:∀x c,X.env.cells.lookup x=oZ c->∃v,s.heap.IsCell c v
 free:H X.env.locals=none
 freeC:∀x c,X.env.cells.lookup x=oZ c->H c=none
 pin:∀p∈X.pn++pins,s.heap.get? p.1=oZ p.2/\H p.1=none/\p.1≠X.env.locals/\p.1∉X.fs/\∀v,p.2.data≠.cell v
 hok:pT X.prog X.w H s.heap
 len:σ.length=X.N.length
theorem Cx.Ok.nofr{X:Cx}(ok:X.Ok)(e:X.base.get? b=oZ o):b∉X.fs:=λhb=>by
 have:=(ok.funs.mem hb).1;rw[e]at this;cases this
theorem aU.bs(I:aU X pins σ H s):∀b o,X.base.get? b=oZ o->s.heap.get? b=oZ o/\H b=none:=λb o e=>
 ⟨I.base.keep b o (I.ok.bs b o e).1 (I.ok.bs b o e).2 (I.ok.nofr e) (I.ok.noex b o e),I.base.free b o (I.ok.bs b o e).1 (I.ok.bs b o e).2 (I.ok.noex b o e)⟩
theorem aU.bk(I:aU X pins σ H s):∀b o,X.base.get? b=oZ o->s.heap.get? b=oZ o:=λb o e=>(I.bs b o e).1
theorem aU.mod(I:aU X pins σ H s):Mod X.K X.mg X.base:=I.ok.mod
theorem aU.kIn(I:aU X pins σ H s):X.K.In s.heap:=I.ok.mod.kin.keeps I.bk
theorem aU.lt(I:aU X pins σ H s):X.env.locals<s.heap.objs.size:=let⟨_,hn,_⟩:=I.loc;hn.lt
theorem aU.sz(I:aU X pins σ H s):X.s₀.heap.objs.size<=s.heap.objs.size:=PQ I.ok.above (PK I.lt)
theorem aU.nofs(I:aU X pins σ H s)(h:s.heap.objs.size<=a):a∉X.fs:=λhb=>by
 obtain⟨_,o,ho,_⟩:=I.ok.funs.mem hb;exact absurd (OI (OH ho) (PQ I.sz h)) (Nat.lt_irrefl _)
theorem aU.cne(I:aU X pins σ H s):∀x c,X.env.cells.lookup x=oZ c->c≠X.env.locals:=λx c e z=>by
 obtain⟨v,o,ho,hd⟩:=I.cell x c e;obtain⟨m,⟨o',es,ep,qg,yq,_⟩,_⟩:=I.loc;rw[z,qg]at ho;cases ho;rw[yq]at hd;cases hd
theorem aU.funs(I:aU X pins σ H s):s.heap.FunFrames X.base X.outer:=by
 have all:∀(l:List Env),(∀b∈Jc l,b∈X.fs)->X.s₀.heap.FunFrames X.base l->s.heap.FunFrames X.base l:=by
  intro l
  induction l with
  |nil=>intro _ _;trivial
  |cons env r ih=>
   intro hs hl;obtain⟨hk,⟨L,o,hf,hn,ho,hd⟩,hr⟩:=hl;have hL:L∈X.fs:=hs L (by unfold Jc;rw[TZ,hf];exact OK);obtain⟨sl,e⟩:=I.base.slot L o ho (I.ok.frf L hL) hL λz=>I.ok.exfs L z hL;exact⟨hk,⟨L,_,hf,hn,e,hd⟩,ih (λb hb=>hs b (by unfold Jc;rw[TZ,hf];exact OC _ hb)) hr⟩
 exact all X.outer (λ_ hb=>hb) I.ok.funs
theorem aU.stack(I:aU X pins σ H s):s.heap.FunFrames X.base X.stack:=by
 obtain e|⟨e,hf⟩:=I.ok.stk
 ·rw[e];exact I.funs
 ·rw[e];obtain⟨m,hn,_⟩:=I.loc;refine .cons (by rw[I.ok.kind];decide) hf hn ?_ I.funs;exact Heap.get?_none_of_le (PQ I.ok.bsz I.ok.above)
theorem aU.stkSub(I:aU X pins σ H s):∀b∈Jc X.stack,b∈X.env.locals::X.fs:=λb hb=>by
 obtain e|⟨e,hf⟩:=I.ok.stk
 ·rw[e]at hb;exact OC _ hb
 ·rw[e]at hb;unfold Jc at hb;rw[TZ,hf]at hb;exact hb
theorem aU.stkFree(I:aU X pins σ H s):∀b∈Jc X.stack,H b=none:=λb hb=>by
 obtain e|hb:=NZ.mp (I.stkSub b hb)
 ·rw[e];exact I.free
 ·obtain⟨_,o,ho,_⟩:=I.ok.funs.mem hb;exact I.base.free b o ho (I.ok.frf b hb) λz=>I.ok.exfs b z hb
theorem aU.step{X:Cx}{pins:List (VN×Obj)}{σ:List (Option V)}{H:Hp}{H':Hp}{s:oB}{h':oE}{g':Array GenState}{t':Nat}{ch:List VN}(I:aU X pins σ H s)(rh:∀b∈ch,(b∈X.ex\/X.s₀.heap.objs.size<=b)/\b≠X.env.locals/\(∀x c,X.env.cells.lookup x=oZ c->c≠b)/\∀p∈X.pn++pins,p.1≠b)(keep:∀b o,b≠X.env.locals->b∉X.fs->b∉ch->s.heap.get? b=oZ o->H b=none->h'.get? b=oZ o)(slot:∀b o,b≠X.env.locals->b∈X.fs->b∉ch->s.heap.get? b=oZ o->H b=none->∃sl,h'.get? b=oZ { o with slots:=sl })(free:∀b o,b∉ch->s.heap.get? b=oZ o->H b=none->H' b=none)(there:∀b o,b∉ch->s.heap.get? b=oZ o->∃o',h'.get? b=oZ o')(tups:∀b xs,H b=oZ (.tup xs)->H' b=oZ (.tup xs))(frzs:∀b o u,H b=oZ (.frz o u)->H' b=oZ (.frz o u))(tbls:∀b ps,H b=oZ (.tbl ps)->∃more,H' b=oZ (.tbl (ps++more)))(ns:∀m,s.heap.Ns X.env.locals m->h'.Ns X.env.locals m)(hok:pT X.prog X.w H' h')(hg:WT g'):
  aU X pins σ H' { s with heap:=h',gens:=g',drawn:=d',toks:=t' }:=by
 have neL:∀b o,X.s₀.heap.get? b=oZ o->b≠X.env.locals:=λb o e=>PB (OI (OH e) I.ok.above);have uk:∀b o,X.s₀.heap.get? b=oZ o->b∉X.ex->b∉ch:=λb o e hx hb=>by
  rcases(rh b hb).1 with z|z
  ·exact hx z
  ·exact absurd (OI (OH e) z) (Nat.lt_irrefl _)
 have cellK:∀x c,X.env.cells.lookup x=oZ c->∀v,s.heap.IsCell c v->h'.IsCell c v:=λx c e v zZ=>by
  obtain⟨o,ho,hd⟩:=zZ;have yr:c∉ch:=λz=>(rh c z).2.2.1 x c e rfl
  by_cases hc:c∈X.fs
  ·obtain⟨sl,q⟩:=slot c o (I.cne x c e) hc yr ho (I.freeC x c e);exact⟨_,q,hd⟩
  ·exact⟨o,keep c o (I.cne x c e) hc yr ho (I.freeC x c e),hd⟩
 refine⟨I.ok,I.os,hg,⟨λb o e n hb hx=>?_,λb o e n hb hx=>?_,λb o e n hx=>?_,λb o e hx=>?_,λb xs e=>tups b xs (I.base.tups b xs e),λb o xs e=>frzs b o xs (I.base.frzs b o xs e),λb ps e=>?_⟩,?_,λx c e=>?_,?_,λx c e=>?_,λp hp=>?_,hok,I.len⟩
 ·exact keep b o (neL b o e) hb (uk b o e hx) (I.base.keep b o e n hb hx) (I.base.free b o e n hx)
 ·obtain⟨sl,e1⟩:=I.base.slot b o e n hb hx;obtain⟨sl',e2⟩:=slot b _ (neL b o e) hb (uk b o e hx) e1 (I.base.free b o e n hx);exact⟨sl',e2⟩
 ·obtain⟨o',e1⟩:=I.base.there b o e hx;exact free b o' (uk b o e hx) e1 (I.base.free b o e n hx)
 ·obtain⟨o',e1⟩:=I.base.there b o e hx;exact there b o' (uk b o e hx) e1
 ·obtain⟨m1,e1⟩:=I.base.tbls b ps e;obtain⟨m2,e2⟩:=tbls b _ e1;exact⟨m1++m2,by rw[e2,Array.append_assoc]⟩
 ·obtain⟨m,hn,hl⟩:=I.loc;refine⟨m,ns m hn,λi x v e1 e2 e3=>?_⟩;obtain⟨u,r,l⟩:=hl i x v e1 e2 e3;refine⟨u,r,?_⟩;obtain l|⟨k,c,e,z⟩:=l
  ·exact .inl l
  ·exact .inr ⟨k,c,e,cellK x c e _ z⟩
 ·obtain⟨v,z⟩:=I.cell x c e;exact⟨v,cellK x c e v z⟩
 ·obtain⟨m,⟨o,_,_,ho,_⟩,_⟩:=I.loc;exact free _ o (λz=>(rh _ z).2.1 rfl) ho I.free
 ·obtain⟨v,o,ho,hd⟩:=I.cell x c e;exact free c o (λz=>(rh c z).2.2.1 x c e rfl) ho (I.freeC x c e)
 ·obtain⟨e,n,ne,nf,d⟩:=I.pin p hp;have yr:p.1∉ch:=λz=>(rh p.1 z).2.2.2 p hp rfl;exact⟨keep p.1 p.2 ne nf yr e n,free p.1 p.2 yr e n,ne,nf,d⟩
theorem aU.un(I:aU X pins σ H s)(u:Un X.fs [] H H' s.heap h')(hok:pT X.prog X.w H' h'):aU X pins σ H' { s with heap:=h',toks:=t' }:=by
 obtain⟨m,⟨o,es,ep,ho,r⟩,_⟩:=id I.loc;obtain⟨sl,hL⟩:=u.any ho I.free (by simp);exact I.step (g':=s.gens) (d':=s.drawn) (ch:=[]) (λ_ z=>nomatch z) (λb o _ hb _ e n=>u.keep b o e n hb (by simp)) (λb o _ hb _ e n=>u.slot b o e n hb (by simp)) (λb o _ e n=>u.free b o e n (by simp)) (λb o _ e=>u.there b o e (by simp)) u.tups u.frzs u.tbls (λm' hm=>by
  obtain⟨o',es',ep',qg,r'⟩:=hm;rw[ho]at qg;cases qg;exact⟨_,es',ep',hL,r'⟩) hok I.bare
theorem aU.call(I:aU X pins σ H s)(u:Un (Jc X.stack) ch H H' s.heap h')(hok:pT X.prog X.w H' h')(hg:WT g')(rh:∀b∈ch,(b∈X.ex\/X.s₀.heap.objs.size<=b)/\b≠X.env.locals/\(∀x c,X.env.cells.lookup x=oZ c->c≠b)/\∀p∈X.pn++pins,p.1≠b):
  aU X pins σ H' { s with heap:=h',gens:=g',drawn:=d',toks:=t' }:=by
 obtain⟨m,⟨o,es,ep,ho,r⟩,_⟩:=id I.loc;obtain⟨sl,hL⟩:=u.any ho I.free λz=>(rh _ z).2.1 rfl;exact I.step (ch:=ch) rh (λb o hL hb hc e n=>u.keep b o e n (λz=>(NZ.mp (I.stkSub b z)).elim hL hb) hc) (λb o _ _ hc e n=>u.any e n hc) (λb o hc e n=>u.free b o e n hc) (λb o hc e=>u.there b o e hc) u.tups u.frzs u.tbls (λm' hm=>by
  obtain⟨o',es',ep',qg,r'⟩:=hm;rw[ho]at qg;cases qg;exact⟨_,es',ep',hL,r'⟩) hok hg
theorem aU.turned(I:aU X pins σ H s)(k:∀b o,b≠it->s.heap.get? b=oZ o->h'.get? b=oZ o)(hn:H it=none)(hL:it≠X.env.locals)(h1:it∈X.ex\/X.s₀.heap.objs.size<=it)(h2:∀x c,X.env.cells.lookup x=oZ c->c≠it)(h3:∀p∈X.pn++pins,p.1≠it):aU X pins σ H { s with heap:=h',toks:=t' }:=by
 have um:∀b u,H b=oZ u->b≠it:=λb u e z=>by rw[z,hn]at e;cases e
 refine I.step (g':=s.gens) (d':=s.drawn) (ch:=[it]) (λb hb=>?_) (λb o _ _ hc e _=>k b o (λz=>hc (by simp[z])) e) (λb o _ _ hc e _=>⟨o.slots,k b o (λz=>hc (by simp[z])) e⟩) (λ_ _ _ _ n=>n)
  (λb o hc e=>⟨o,k b o (λz=>hc (by simp[z])) e⟩) (λ_ _ e=>e) (λ_ _ _ e=>e) (λb ps e=>⟨#[],by rw[e];simp⟩) (λm hm=>?_) (λb u e=>?_) I.bare
 ·have e:b=it:=by simpa using hb
  subst e;exact⟨h1,hL,h2,h3⟩
 ·obtain⟨o,es,ep,ho,r⟩:=hm;exact⟨o,es,ep,k _ o (Ne.symm hL) ho,r⟩
 ·refine(I.hok b u e).stay (λc v hc q=>k c v ?_ q) (λ_ q=>q) λ_ _ q=>q;obtain z|z:=hc
  ·rw[z];exact um b u e
  ·exact um c _ z
theorem aU.tok(I:aU X pins σ H s)(t:Nat):aU X pins σ H { s with toks:=t }:=I.un (h':=s.heap) (t':=t) Un.refl I.hok
theorem aU.kept(I:aU X pins σ H s)(k:∀b u,s.heap.get? b=oZ u->h'.get? b=oZ u):aU X pins σ H { s with heap:=h',toks:=t' }:=I.un (Un.kept k) (I.hok.kept k)
theorem aU.laid(I:aU X pins σ H s)(k:∀b u,s.heap.get? b=oZ u->h'.get? b=oZ u)(hp:s.heap.objs.size<=a)(new:dU X.prog X.w (upd H a o) h' a o):
  aU X pins σ (upd H a o) { s with heap:=h',toks:=t' }:=I.un (Un.laid k hp (I.hok.fresh hp)) (I.hok.laid k hp new)
theorem aU.write(I:aU X pins σ H s)(mu:DS (H x))(he:e=x\/H e=oZ (.own x))(k:∀b u,b≠e->s.heap.get? b=oZ u->h'.get? b=oZ u)(xv:∃u,h'.get? e=oZ u)(new:dU X.prog X.w (upd H x o) h' x o):aU X pins σ (upd H x o) { s with heap:=h',toks:=t' }:=I.un (Un.write mu he k xv) (I.hok.write mu he k xv new)
theorem aU.pins_of(I:aU X pins σ H s)(h:∀p∈pins',s.heap.get? p.1=oZ p.2/\H p.1=none/\p.1≠X.env.locals/\p.1∉X.fs/\∀v,p.2.data≠.cell v):aU X pins' σ H s:=
 ⟨I.ok,I.os,I.bare,I.base,I.loc,I.cell,I.free,I.freeC,λp hp=>(OZ.mp hp).elim (λz=>I.pin p (QD _ z)) (h p),I.hok,I.len⟩
theorem Hf{N:List Str}(hN:N.Nodup){i j:Nat}{x:Str}(a:N[i]?=oZ x)(b:N[j]?=oZ x):i=j:=by
 obtain⟨h1,e1⟩:=NV.mp a;obtain⟨h2,e2⟩:=NV.mp b;exact(List.getElem_inj hN).mp (e1.trans e2.symm)
theorem As{E:oA->oB->Prop}{Q:Unit->oB->Prop}(I:aU X pins σ H s)(hN:X.N.Nodup)(hi:X.N[i]?=oZ x)(hx:yT X.env.scope x)(r:bN v u)(h:∀s',aU X pins (σ.set i (oZ v)) H s'->(∃a,SU a s.heap s'.heap/\(a=X.env.locals\/X.env.cells.lookup x=oZ a))->Q () s')(hf:X.fn x=true\/X.env.scope.names.lookup x=oZ .local:=by first|exact .inl rfl|exact .inr rfl|assumption):VP M A (storeName X.env x u) Q E s:=by
 obtain⟨m,hn,hl⟩:=id I.loc;have aBX:(X.env.scope.kind==.class||(X.env.scope.kind==.module&&X.env.locals != X.env.globals))=false:=by rw[I.ok.kind];rfl
 have hiσ:i<σ.length:=by rw[I.len];exact(NV.mp hi).1
 have cne:=I.cne;have tracked:∀{a:VN}{h':oE},(∃o,s.heap.get? a=oZ o/\H a=none)->SU a s.heap h'->pT X.prog X.w H h':=λ{a h'}ha hs b ob e=>by
  obtain⟨_,_,uo⟩:=ha;refine(I.hok b ob e).stay (λc w' hc q=>(hs.2 c ?_).trans q) (λ_ q=>q) λ_ _ q=>q;rintro rfl;obtain rfl|hc:=hc
  ·rw[uo]at e;cases e
  ·rw[uo]at hc;cases hc
 obtain hk|hk:=hx
 ·refine wpAny_storeName_local hk hn (λh' qh hs=>?_) aBX;obtain⟨oL,_,_,hoL,_⟩:=id hn;refine h _ ⟨I.ok,I.os,I.bare,⟨λb o e n hb hx=>?_,λb o e n hb hx=>?_,I.base.free,λb o e hx=>?_,I.base.tups,I.base.frzs,I.base.tbls⟩,⟨_,qh,λj y v' e1 e2 e3=>?_⟩,λy c e=>?_,I.free,I.freeC,λp hp=>?_,tracked ⟨oL,hoL,I.free⟩ hs,by simpa using I.len⟩ ⟨_,hs,.inl rfl⟩
  ·exact(hs.2 b (PB (OI (OH e) I.ok.above))).trans (I.base.keep b o e n hb hx)
  ·obtain⟨sl,e1⟩:=I.base.slot b o e n hb hx;exact⟨sl,(hs.2 b (PB (OI (OH e) I.ok.above))).trans e1⟩
  ·obtain⟨o',e1⟩:=I.base.there b o e hx;exact⟨o',(hs.2 b (PB (OI (OH e) I.ok.above))).trans e1⟩
  ·by_cases hj:j=i
   ·subst hj;rw[hi]at e1;cases e1;rw[OV hiσ]at e2;cases e2;exact⟨u,r,.inl ⟨hk,by simp⟩⟩
   ·rw[OP (Ne.symm hj)]at e2;obtain⟨u',r',q⟩:=hl j y v' e1 e2 e3;refine⟨u',r',?_⟩;obtain⟨k,e⟩|⟨k,c,e,z⟩:=q
    ·refine .inl ⟨k,?_⟩;have:y≠x:=λe=>hj (Hf hN e1 (e ▸ hi));simp[this,e]
    ·exact .inr ⟨k,c,e,z.sameBut hs (cne y c e)⟩
  ·obtain⟨w',z⟩:=I.cell y c e;exact⟨w',z.sameBut hs (cne y c e)⟩
  ·obtain⟨e,n,ne,nf,d⟩:=I.pin p hp;exact⟨(hs.2 p.1 ne).trans e,n,ne,nf,d⟩
 ·have rz:X.fn x=true:=by
   obtain z|z:=hf
   ·exact z
   ·rw[z]at hk;cases hk
  obtain⟨c,hc⟩:=I.ok.has x (.inl hk);obtain⟨w',z⟩:=I.cell x c hc;refine wpAny_storeName_cell I.ok.kind hk hc z (λh' iw hs=>?_);obtain⟨oc,hoc,aBY⟩:=id z;refine h { s with heap:=h' } ⟨I.ok,I.os,I.bare,⟨λb o e n hb hx=>?_,λb o e n hb hx=>?_,I.base.free,λb o e hx=>?_,I.base.tups,I.base.frzs,I.base.tbls⟩,⟨m,hn.sameBut hs (Ne.symm (cne x c hc)),λj y v' e1 e2 e3=>?_⟩,λy c' e=>?_,I.free,I.freeC,λp hp=>?_,tracked ⟨oc,hoc,I.freeC x c hc⟩ hs,by simpa using I.len⟩ ⟨c,hs,.inr hc⟩
  ·exact(hs.2 b (PB (OI (OH e) (I.ok.cab x c rz hc)))).trans (I.base.keep b o e n hb hx)
  ·obtain⟨sl,e1⟩:=I.base.slot b o e n hb hx;exact⟨sl,(hs.2 b (PB (OI (OH e) (I.ok.cab x c rz hc)))).trans e1⟩
  ·obtain⟨o',e1⟩:=I.base.there b o e hx;exact⟨o',(hs.2 b (PB (OI (OH e) (I.ok.cab x c rz hc)))).trans e1⟩
  ·by_cases hj:j=i
   ·subst hj;rw[hi]at e1;cases e1;rw[OV hiσ]at e2;cases e2;exact⟨u,r,.inr ⟨.inl hk,c,hc,iw⟩⟩
   ·rw[OP (Ne.symm hj)]at e2;obtain⟨u',r',q⟩:=hl j y v' e1 e2 e3;refine⟨u',r',?_⟩;obtain q|⟨k,c',e,z'⟩:=q
    ·exact .inl q
    ·refine .inr ⟨k,c',e,z'.sameBut hs ?_⟩;rintro rfl;exact hj (Hf hN e1 (I.ok.inj _ _ _ e hc ▸ hi))
  ·by_cases hcc:c'=c
   ·subst hcc;exact⟨_,iw⟩
   ·obtain⟨w2,z2⟩:=I.cell y c' e;exact⟨w2,z2.sameBut hs hcc⟩
  ·obtain⟨e,n,ne,nf,d⟩:=I.pin p hp;refine⟨(hs.2 p.1 ?_).trans e,n,ne,nf,d⟩;intro q;rw[q,hoc]at e;have q':oc=p.2:=Option.some.inj e;exact d w' (by rw[<-q'];exact aBY)
theorem pH{E:oA->oB->Prop}{Q:Unit->oB->Prop}(I:aU X pins σ H s)(hN:X.N.Nodup)(hi:X.N[i]?=oZ x)(hx:yT X.env.scope x)(r:bN v u)(h:∀s',aU X pins (σ.set i (oZ v)) H s'->Q () s')(hf:X.fn x=true\/X.env.scope.names.lookup x=oZ .local:=by first|exact .inl rfl|exact .inr rfl|assumption):VP M A (storeName X.env x u) Q E s:=
 As I hN hi hx r (λs' I' _=>h s' I') hf
theorem aU.call'(I:aU X pins σ H s)(ho:s'.os=s.os)(u:Un (Jc X.stack) ch H H' s.heap s'.heap)(hok:pT X.prog X.w H' s'.heap)(hg:WT s'.gens)(rh:∀b∈ch,(b∈X.ex\/X.s₀.heap.objs.size<=b)/\b≠X.env.locals/\(∀x c,X.env.cells.lookup x=oZ c->c≠b)/\∀p∈X.pn++pins,p.1≠b):aU X pins σ H' s':=by
 obtain⟨h',g',d',t',o'⟩:=s';have e:o'=s.os:=ho;subst e;exact I.call (g':=g') (t':=t') (d':=d') u hok hg rh
abbrev XK:=oA->Option VN->Hp->Prop
abbrev St:=List (Option V)
abbrev VK:=V->Hp->Prop
abbrev TE:=St->Hp->VK->Prop
abbrev TT:=St->Hp->(Bool->Hp->Prop)->Prop
abbrev TA:=St->Hp->(List V->Hp->Prop)->Prop
structure cU where
 nx:St->Hp->Prop
 rt:VK
 bk:St->Hp->Prop:=λ_ _=>False
 ct:St->Hp->Prop:=λ_ _=>False
abbrev TS:=cU->St->Hp->Prop
def EP(X:Cx)(pins:List (VN×Obj))(σ:St)(Q:VK)(u:oA)(s':oB):Prop:=∃v H',aU X pins σ H' s'/\bN v u/\Q v H'
def TP(X:Cx)(pins:List (VN×Obj))(σ:St)(Q:Bool->Hp->Prop)(b:Bool)(s':oB):Prop:=∃H',aU X pins σ H' s'/\Q b H'
def AP(X:Cx)(pins:List (VN×Obj))(σ:St)(Q:List V->Hp->Prop)(us:List oA)(s':oB):Prop:=∃vs H',aU X pins σ H' s'/\bA vs us/\Q vs H'
def SP(X:Cx)(pins:List (VN×Obj))(D:cU)(f:Flow)(s':oB):Prop:=
 match f with
 |.next=>∃σ' H',aU X pins σ' H' s'/\D.nx σ' H'
 |.brk=>∃σ' H',aU X pins σ' H' s'/\D.bk σ' H'
 |.cont=>∃σ' H',aU X pins σ' H' s'/\D.ct σ' H'
 |.ret u=>∃v σ' H',aU X pins σ' H' s'/\bN v u/\D.rt v H'
def PE(X:Cx)(e:oC)(t:TE):Prop:=
 ∀(pins:List (VN×Obj))(s:oB)(σ:St)(H:Hp)(Q:VK),aU X pins σ H s->t σ H Q->VP (VR X.prog X.w) X.A (VY e X.env) (EP X pins σ Q) X.xe s
def PT(X:Cx)(e:oC)(t:TT):Prop:=
 ∀(pins:List (VN×Obj))(s:oB)(σ:St)(H:Hp)(Q:Bool->Hp->Prop),aU X pins σ H s->t σ H Q->VP (VR X.prog X.w) X.A (isTrue e X.env (VY e X.env)) (TP X pins σ Q) X.xe s
def PW(X:Cx)(e:oC)(t:TT):Prop:=
 ∀(whole:Sem oA)(pins:List (VN×Obj))(s:oB)(σ:St)(H:Hp)(Q:Bool->Hp->Prop),aU X pins σ H s->t σ H Q->VP (VR X.prog X.w) X.A (isTrue e X.env whole) (TP X pins σ Q) X.xe s
theorem PW.pt(h:PW X e t):PT X e t:=h _
def PA(X:Cx)(es:List oC)(t:TA):Prop:=
 ∀(pos:Pos)(pins:List (VN×Obj))(s:oB)(σ:St)(H:Hp)(Q:List V->Hp->Prop),aU X pins σ H s->t σ H Q->VP (VR X.prog X.w) X.A (spliced (XG pos (VZ es X.env))) (AP X pins σ Q) X.xe s
def PS(X:Cx)(st:VS)(t:TS):Prop:=
 ∀(pins:List (VN×Obj))(s:oB)(σ:St)(H:Hp)(D:cU),aU X pins σ H s->t D σ H->VP (VR X.prog X.w) X.A (exec st X.env) (SP X pins D) X.xe s
def Mj(X:Cx)(st:List VS)(t:TS):Prop:=
 ∀(pins:List (VN×Obj))(s:oB)(σ:St)(H:Hp)(D:cU),aU X pins σ H s->t D σ H->VP (VR X.prog X.w) X.A (execs st X.env) (SP X pins D) X.xe s
theorem dQ{α:Type}{t:Sem α}{Q Q':α->oB->Prop}{M:Model}{A:oD}{E:oA->oB->Prop}{s:oB}(h:VP M A t Q E s)(hQ:∀a s,Q a s->Q' a s):VP M A t Q' E s:=WM h hQ λ_ _ x=>x
section
variable{X:Cx}
def zE(i:Nat):TE:=λσ H Q=>∃v,σ[i]?=oZ (oZ v)/\Q v H
def tC(v:V):TE:=λ_ H Q=>Q v H
theorem tJ(hN:X.N[i]?=oZ x)(hv:P4 X.env.scope x)(hd:(x==("__debug__":Str))=false:=by decide)(ja:(x==("__classdict__":Str))=false:=by decide):PE X (.Name x pos) (zE i):=by
 intro pins s σ H Q I h;obtain⟨v,e,h⟩:=h;obtain⟨m,hn,hl⟩:=I.loc;obtain⟨u,r,l⟩:=hl i x v hN e hv;have fin:EP X pins σ Q u s:=⟨v,H,I,r,h⟩;obtain⟨hk,hm⟩|⟨hk,c,hc,iy⟩:=l
 ·exact wpAny_Name (wpAny_loadName_local I.ok.kind hk hn hm fin) hd
 ·obtain hk|hk:=hk
  ·exact wpAny_Name (wpAny_loadName_cell I.ok.kind hk hc iy fin) hd
  ·exact wpAny_Name (wpAny_loadName_free I.ok.kind hk hc iy fin ja) hd
theorem BE{i j pos}:PE X (.Constant (.int i) j pos) (tC (.int i)):=λ_ _ _ H _ I h=>wpAny_Constant_int ⟨.int i,H,I.tok _,⟨_,rfl⟩,h⟩
theorem GC{b j pos}:PE X (.Constant (.bool b) j pos) (tC (.bl b)):=λ_ _ _ H _ I h=>Constant_bool ⟨.bl b,H,I,rfl,h⟩
theorem BG{j pos}:PE X (.Constant .none j pos) (tC .non):=λ_ _ _ H _ I h=>Constant_none ⟨.non,H,I,rfl,h⟩
theorem Wu{x j pos}:PE X (.Constant (.str x) j pos) (tC (.str x)):=λ_ _ _ H _ I h=>Calls.Constant_str ⟨.str x,H,I.tok _,⟨_,rfl⟩,h⟩
def Gl(X:Cx)(x:Str):Prop:=X.env.kindOf x=oZ .globalImplicit
theorem Np{E:oA->oB->Prop}{Q:oA->oB->Prop}(I:aU X pins σ H s)(hg:Gl X x)(hm:X.mg x=oZ u)(h:Q u s)(hd:(x==("__debug__":Str))=false:=by decide):VP (VR X.prog X.w) X.A (VY (.Name x pos) X.env) Q E s:=
 Calls.Name_function_global I.ok.kind hg (Calls.loadGlobal_global (by rw[I.ok.glob];exact I.mod.glob.keeps I.bk) hm h) hd
theorem qO{E:oA->oB->Prop}{Q:oA->oB->Prop}(I:aU X pins σ H s)(hg:Gl X x)(hm:X.mg x=none)(hv:WL x=oZ u)(h:Q u s)(hn:x≠"__name__":=by decide)(hd:(x==("__debug__":Str))=false:=by decide):VP (VR X.prog X.w) X.A (VY (.Name x pos) X.env) Q E s:=by
 obtain⟨mb,h1,h2⟩:=I.mod.blt;exact Calls.Name_function_global I.ok.kind hg (Calls.loadGlobal_builtin (by rw[I.ok.glob];exact I.mod.glob.keeps I.bk) hm (by rw[I.ok.blt];exact h1.keeps I.bk) ((h2 x hn).trans hv) h) hd
theorem Od(hg:Gl X x)(hm:X.mg x=oZ u)(r:bN v u)(hd:(x==("__debug__":Str))=false:=by decide):PE X (.Name x pos) (tC v):=
 λ_ _ _ H _ I h=>Np I hg hm ⟨v,H,I,r,h⟩ hd
variable{a b:oC}{ta tb:TE}{pos:Pos}
def PC(X:Cx)(op:CmpOp)(a b:oC)(t:TE):Prop:=
 ∀(pins:List (VN×Obj))(s:oB)(σ:St)(H:Hp)(Q:VK),aU X pins σ H s->t σ H Q->
  VP (VR X.prog X.w) X.A (VY a X.env) (λv s₁=>VP (VR X.prog X.w) X.A (VY b X.env) (λu s₂=>VP (VR X.prog X.w) X.A (WE op v u) (EP X pins σ Q) X.xe s₂) X.xe s₁) X.xe s
def tB(t:TE):TT:=λσ H Q=>t σ H λx H1=>∃c,x = .bl c/\Q c H1
theorem BU(h:PC X op a b t)(h1:WA op b=false:=by first|exact nobehind _ ∅ ∅|rfl):PT X (.Compare a [op] [b] pos) (tB t):=by
 intro pins s σ H Q I hw;refine wpAny_isTrue_Compare1 (dQ (h pins s σ H _ I hw) λv s1 h1=>dQ h1 λu s2 h2=>dQ h2 λc s3⟨x,H1,I1,r1,q1⟩=>?_) h1;obtain⟨d,rfl,q⟩:=q1;cases r1;exact WO ⟨H1,I1,q⟩
theorem BW(h:PE X e t)(he:∀whole,isTrue e X.env whole=(do let v <-whole;standAt e.pos;WQ [v] (truthy v)):=by intro _;rfl):PT X e (tB t):=by
 intro pins s σ H Q I hw;refine isTrue_plain (dQ (h pins s σ H _ I hw) λv s1⟨x,H1,I1,r1,q1⟩=>?_) (he _);obtain⟨d,rfl,q⟩:=q1;cases r1;exact WO ⟨H1,I1,q⟩
variable{tA tB':TT}{rest:List oC}
def MV(t u:TT):TT:=λσ H Q=>t σ H λc H1=>if c=true then Q true H1 else u σ H1 Q
def HW(t:TT):TT:=λσ H Q=>t σ H λc H1=>Q (!c) H1
theorem BY(ha:PT X a tA):PW X (.BoolOp .Or [a] pos) tA:=by
 intro wh pins s σ H Q I h;refine isTrue_or (dQ (ha pins s σ H Q I h) λc s1 e=>?_);cases c with
 |false=>exact isTrue_or_nil e
 |true=>exact e
theorem GK(ha:PT X a tA)(hb:PW X (.BoolOp .Or (b::rest) pos) tB'):PW X (.BoolOp .Or (a::b::rest) pos) (MV tA tB'):=by
 intro wh pins s σ H Q I h;refine isTrue_or (dQ (ha pins s σ H _ I h) λc s1 zZ=>?_);obtain⟨H1,I1,q1⟩:=zZ;cases c with
 |true=>exact⟨H1,I1,q1⟩
 |false=>exact hb wh pins s1 σ H1 Q I1 q1
theorem BV(ha:PT X a tA):PT X (.UnaryOp .Not a pos) (HW tA):=by
 intro pins s σ H Q I h;exact isTrue_not (ha pins s σ H (λc H1=>Q (!c) H1) I h)
def HY(ta tb:TE):TE:=λσ H Q=>ta σ H λx H1=>∃c,x = .bl c/\if c=true then Q (.bl true) H1 else tb σ H1 Q
theorem BH{op}(h:PE X a t):PE X (.BoolOp op [a] pos) t:=λpins s σ H Q I hw=>BoolOp_one (h pins s σ H Q I hw)
theorem GH(ha:PE X a ta)(hb:PE X (.BoolOp .Or (b::rest) pos) tb):PE X (.BoolOp .Or (a::b::rest) pos) (HY ta tb):=by
 intro pins s σ H Q I h;refine BoolOp_or (dQ (ha pins s σ H _ I h) λv s1 zZ=>?_);obtain⟨x,H1,I1,r1,q1⟩:=zZ;obtain⟨c,rfl,q1⟩:=q1;cases r1;refine WO ?_;cases c with
 |false=>exact hb pins s1 σ H1 Q I1 q1
 |true=>exact⟨.bl true,H1,I1,rfl,q1⟩
def MS(t:TT)(ta tb:TE):TE:=λσ H Q=>t σ H λc H1=>if c=true then ta σ H1 Q else tb σ H1 Q
theorem Ws(hc:PT X c tA)(ha:PE X a ta)(hb:PE X b tb):PE X (.IfExp c a b pos) (MS tA ta tb):=by
 intro pins s σ H Q I h;refine wpAny_IfExp (dQ (hc pins s σ H _ I h) λd s1 zZ=>?_);obtain⟨H1,I1,q1⟩:=zZ;cases d with
 |true=>exact ha pins s1 σ H1 Q I1 q1
 |false=>exact hb pins s1 σ H1 Q I1 q1
end
def lZ(K:W.Frag)(H:Hp)(a:VN)(xs:List V):Prop:=
 Rd H a (.lst xs)\/
  ∃(o:Obj)(XX:Array oA)(n:Nat),K.lookup a=oZ o/\o.cls = .type "list"/\o.dict=none/\o.data = .seq XX n/\XX.size<=VW/\bA xs XX.toList
def yS(K:W.Frag)(H:Hp)(a:VN)(xs:List V):Prop:=
 Rd H a (.tup xs)\/
  ∃(o:Obj)(XX:Array oA)(n:Nat),K.lookup a=oZ o/\o.cls = .type "tuple"/\o.data = .seq XX n/\XX.size<=VW/\bA xs XX.toList
def JU:oA->Option V
 |.none=>oZ .non
 |.bool b=>oZ (.bl b)
 |.int i _=>oZ (.int i)
 |.str x _=>oZ (.str x)
 |.bytes b _=>oZ (.byt b)
 |.float b _=>oZ (.flt b)
 |.ref a=>oZ (.ref a)
 |.type n=>oZ (.ty n)
 |_=>none
theorem bN.abs(r:bN x u):JU u=oZ x:=by
 cases x with
 |non=>cases r;rfl
 |bl _=>cases r;rfl
 |int _=>obtain⟨t,rfl⟩:=r;rfl
 |str _=>obtain⟨t,rfl⟩:=r;rfl
 |byt _=>obtain⟨t,rfl⟩:=r;rfl
 |flt _=>obtain⟨t,rfl⟩:=r;rfl
 |ref _=>cases r;rfl
 |ty _=>cases r;rfl
theorem bN.inj(r:bN x u)(q:bN y u):x=y:=Option.some.inj (r.abs.symm.trans q.abs)
theorem bA.inj:∀{xs ys:List V}{us:List oA},bA xs us->bA ys us->xs=ys:=by
 intro xs ys us h
 induction h generalizing ys with
 |nil=>intro k;cases k;rfl
 |cons r t ih=>
  intro k;cases k with
  |cons r' t'=>rw[r.inj r',ih t']
theorem lZ.of{H:Hp}{a:VN}{xs:List V}{K:W.Frag}(h:H a=oZ (.lst xs)):lZ K H a xs:=.inl (.inl h)
theorem aU.list(I:aU X pins σ H s)(h:lZ X.K H a xs):∃XX:List oA,bA xs XX/\PlainL s.heap a XX.toArray/\xs.length<=VW:=by
 obtain h|⟨o,XX,n,hk,hc,hd,hs,hz,r⟩:=h
 ·obtain⟨z,XX,n,r,e⟩:=h.ok I.hok;exact⟨XX,r,⟨_,n,e,rfl,rfl,rfl⟩,z⟩
 ·refine⟨XX.toList,r,⟨o,n,I.kIn a o hk,hc,hd,by simpa using hs⟩,?_⟩;have e:=r.length;simp only[UA]at e
  lia
theorem aU.tuple(I:aU X pins σ H s)(h:yS X.K H a xs):∃XX:List oA,bA xs XX/\IsTup s.heap a XX.toArray/\xs.length<=VW:=by
 obtain h|⟨o,XX,n,hk,hc,hs,hz,r⟩:=h
 ·obtain⟨z,XX,r,p⟩:=h.ok I.hok;exact⟨XX,r,p,z⟩
 ·refine⟨XX.toList,r,⟨o,I.kIn a o hk,hc,n,by simpa using hs⟩,?_⟩;have e:=r.length;simp only[UA]at e
  lia
theorem aU.list_inj(I:aU X pins σ H s)(h:lZ X.K H a xs)(h':lZ X.K H a ys):xs=ys:=by
 obtain⟨XX,r,⟨o,n,e,_,_,d⟩,_⟩:=I.list h;obtain⟨its',r',⟨o',n',e',_,_,d'⟩,_⟩:=I.list h';rw[e]at e';cases e';rw[d]at d';injection d' with d1 _;have:XX=its':=by simpa using congrArg VM d1
 subst this;exact r.inj r'
theorem aU.tuple_inj(I:aU X pins σ H s)(h:yS X.K H a xs)(h':yS X.K H a ys):xs=ys:=by
 obtain⟨XX,r,⟨o,e,_,n,d⟩,_⟩:=I.tuple h;obtain⟨its',r',⟨o',e',_,n',d'⟩,_⟩:=I.tuple h';rw[e]at e';cases e';rw[d]at d';injection d' with d1 _;have:XX=its':=by simpa using congrArg VM d1
 subst this;exact r.inj r'
abbrev Cx.wish(X:Cx)(E:oA->oB->Prop):Cx:={ X with xe:=E }
abbrev Cx.nox(X:Cx):Cx:=X.wish λ_ _=>False
theorem Cx.Ok.wish{X:Cx}(ok:X.Ok)(E:oA->oB->Prop):(X.wish E).Ok:=
 ⟨ok.mod,ok.kind,ok.glob,ok.blt,ok.above,ok.inj,ok.has,ok.cab,ok.hd,ok.frames,ok.stk,ok.exf,ok.bs,ok.bsz,ok.noex,ok.exfs,ok.funs,ok.frf⟩
theorem Cx.Ok.unwish{X:Cx}{E:oA->oB->Prop}(ok:(X.wish E).Ok):X.Ok:=
 ⟨ok.mod,ok.kind,ok.glob,ok.blt,ok.above,ok.inj,ok.has,ok.cab,ok.hd,ok.frames,ok.stk,ok.exf,ok.bs,ok.bsz,ok.noex,ok.exfs,ok.funs,ok.frf⟩
theorem aU.wish(I:aU X pins σ H s)(E:oA->oB->Prop):aU (X.wish E) pins σ H s:=⟨I.ok.wish E,I.os,I.bare,I.base,I.loc,I.cell,I.free,I.freeC,I.pin,I.hok,I.len⟩
theorem aU.unwish{E:oA->oB->Prop}(I:aU (X.wish E) pins σ H s):aU X pins σ H s:=⟨I.ok.unwish,I.os,I.bare,I.base,I.loc,I.cell,I.free,I.freeC,I.pin,I.hok,I.len⟩
theorem SP.unwish{E:oA->oB->Prop}(h:SP (X.wish E) pins D f s'):SP X pins D f s':=by
 cases f with
 |next=>obtain⟨σ',H',I,q⟩:=h;exact⟨σ',H',I.unwish,q⟩
 |brk=>obtain⟨σ',H',I,q⟩:=h;exact⟨σ',H',I.unwish,q⟩
 |cont=>obtain⟨σ',H',I,q⟩:=h;exact⟨σ',H',I.unwish,q⟩
 |ret u=>obtain⟨v,σ',H',I,r,q⟩:=h;exact⟨v,σ',H',I.unwish,r,q⟩
theorem Mj.nox{X:Cx}{st:List VS}(h:Mj X.nox st t):Mj X st t:=λpins s σ H D I hw=>
 WM (h pins s σ H D (I.wish _) hw) (λ_ _ q=>q.unwish) λ_ _ z=>False.elim z
section
variable{X:Cx}{st:VS}{rest:List VS}{t u:TS}{e:oC}{te:TE}{pos:Pos}
def U2:TS:=λD σ H=>D.nx σ H
def IC(t u:TS):TS:=λD σ H=>t { D with nx:=u D } σ H
theorem L0:Mj X [] U2:=λ_ _ σ H _ I h=>XN ⟨σ,H,I,h⟩
theorem Xa(h1:PS X st t)(h2:Mj X rest u):Mj X (st::rest) (IC t u):=by
 intro pins s σ H D I h;refine wpAny_execs_cons (dQ (h1 pins s σ H { D with nx:=u D } I h) λf s1 q=>?_);cases f with
 |next=>
  obtain⟨σ',H',I',q⟩:=q;exact h2 pins s1 σ' H' D I' q
 |ret v=>exact q
 |brk=>exact q
 |cont=>exact q
theorem L1(h1:PS X st t):Mj X [st] t:=by
 intro pins s σ H D I h;refine wpAny_execs_cons (dQ (h1 pins s σ H D I h) λf s1 q=>?_);cases f with
 |next=>exact XN q
 |ret v=>exact q
 |brk=>exact q
 |cont=>exact q
theorem aU.quiet(I:aU X pins σ H s):interactive X.env=false:=by simp[interactive,I.ok.kind]
def T4(te:TE):TS:=λD σ H=>te σ H λ_ H1=>D.nx σ H1
theorem K8(he:PE X e te)(hs:WJ e none pos.line X.env=pure false:=by rfl):PS X (.Expr e pos) (T4 te):=by
 intro pins s σ H D I h;exact wpAny_Expr_any (dQ (he pins s σ H _ I h) λv s1 zZ=>by obtain⟨x,H1,I1,r1,q1⟩:=zZ;exact⟨σ,H1,I1,q1⟩) I.quiet hs
def IA(te:TE):TS:=λD σ H=>te σ H D.rt
theorem BR(he:PE X e te):PS X (.Return (oZ e) pos) (IA te):=by
 intro pins s σ H D I h;exact wpAny_Return_some (dQ (he pins s σ H _ I h) λv s1 zZ=>by obtain⟨x,H1,I1,r1,q1⟩:=zZ;exact⟨x,σ,H1,I1,r1,q1⟩)
def HQ(c:TT)(t u:TS):TS:=λD σ H=>c σ H λb H1=>if b=true then t D σ H1 else u D σ H1
theorem GJ(hc:PT X c tc)(ha:Mj X a t)(hb:Mj X b u):PS X (.If c a b pos) (HQ tc t u):=by
 intro pins s σ H D I h;refine wpAny_If (dQ (hc pins s σ H _ I h) λd s1 zZ=>?_);obtain⟨H1,I1,q1⟩:=zZ;cases d with
 |true=>exact ha pins s1 σ H1 D I1 q1
 |false=>exact hb pins s1 σ H1 D I1 q1
end
abbrev TG:=V->St->Hp->(St->Hp->Prop)->Prop
abbrev V8:=List V->St->Hp->(St->Hp->Prop)->Prop
def PG(X:Cx)(target:oC)(t:TG):Prop:=
 ∀(pins:List (VN×Obj))(s:oB)(σ:St)(H:Hp)(v:V)(u:oA)(Q:St->Hp->Prop),aU X pins σ H s->bN v u->t v σ H Q->
  VP (VR X.prog X.w) X.A (WX target X.env u) (λ_ s'=>∃σ' H',aU X pins σ' H' s'/\Q σ' H') X.xe s
def DV(X:Cx)(ts:List oC)(t:V8):Prop:=
 ∀(pins:List (VN×Obj))(s:oB)(σ:St)(H:Hp)(vs:List V)(us:List oA)(Q:St->Hp->Prop),aU X pins σ H s->bA vs us->t vs σ H Q->
  VP (VR X.prog X.w) X.A (assignInOrder ((WD ts X.env).map (·.2)) us) (λ_ s'=>∃σ' H',aU X pins σ' H' s'/\Q σ' H') X.xe s
abbrev DX:=V->V->V->Hp->(Hp->Prop)->Prop
def V7(X:Cx)(t:DX):Prop:=
 ∀(pins:List (VN×Obj))(s:oB)(σ:St)(H:Hp)(o i v:V)(ov iv u:oA)(Q:Hp->Prop),aU X pins σ H s->bN o ov->bN i iv->bN v u->t o i v H Q->
  VP (VR X.prog X.w) X.A (setItem ov iv u) (λ_ s'=>∃H',aU X pins σ H' s'/\Q H') X.xe s
abbrev JT:=V->V->Hp->VK->Prop
def JS(X:Cx)(op:Operator)(t:JT):Prop:=
 ∀(pins:List (VN×Obj))(s:oB)(σ:St)(H:Hp)(x y:V)(v u:oA)(Q:VK),aU X pins σ H s->bN x v->bN y u->t x y H Q->
  VP (VR X.prog X.w) X.A (inplaceOp op v u) (EP X pins σ Q) X.xe s
def nT(i:Nat):TG:=λv σ H Q=>Q (σ.set i (oZ v)) H
theorem K3(hN:X.N.Nodup)(hi:X.N[i]?=oZ x)(hx:yT X.env.scope x)(hf:X.fn x=true\/X.env.scope.names.lookup x=oZ .local:=by first|exact .inl rfl|exact .inr rfl|assumption):PG X (.Name x pos) (nT i):=by
 intro pins s σ H v u Q I r h;exact wpAny_assign_Name (pH I hN hi hx r (λs' I'=>⟨_,H,I',h⟩) hf)
def F2:V8:=λvs σ H Q=>vs=[]/\Q σ H
def Ab(t:TG)(u:V8):V8:=λvs σ H Q=>∃v r,vs=v::r/\t v σ H λσ' H'=>u r σ' H' Q
theorem K4:DV X [] F2:=by
 intro pins s σ H vs us Q I r h;obtain⟨e,h⟩:=h;subst e;cases r;exact assignInOrder_nil ⟨σ,H,I,h⟩
theorem Wv(h1:PG X e t)(h2:DV X es u)(hs:(WD (e::es) X.env).map (·.2)=WX e X.env::(WD es X.env).map (·.2):=by rfl):DV X (e::es) (Ab t u):=by
 intro pins s σ H vs us Q I r h;obtain⟨v,vr,e1,h⟩:=h;subst e1;cases r with
 |cons r rr=>
  rw[hs];refine XO (dQ (h1 pins s σ H _ _ _ I r h) λ_ s1 zZ=>?_);obtain⟨σ1,H1,I1,q1⟩:=zZ;exact h2 pins s1 σ1 H1 _ _ Q I1 rr q1
def Z2(K:W.Frag)(n:Nat)(t:V8):TG:=λv σ H Q=>∃a xs,v = .ref a/\yS K H a xs/\xs.length=n/\t xs σ H Q
theorem BK(hc:X.calm=true)(h:DV X es t)(hn:(WD es X.env).length=n:=by rfl)(mq:(WD es X.env).findIdx? (·.1)=none:=by rfl):PG X (.Tuple es k pos) (Z2 X.K n t):=by
 intro pins s σ H v u Q I r hw;obtain⟨a,xs,e1,hq,hl,hw⟩:=hw;subst e1;cases r;obtain⟨XX,rv,ht,hz⟩:=I.tuple hq;refine assign_Tuple_tuple (I.ok.hd hc) ht (by simp[hn,<-hl,rv.length]) mq λh' hx=>?_;have I1:aU X pins σ H { s with heap:=h' }:=I.kept (t':=s.toks) λb o e=>hx b o (PB (OH e)) e;exact h pins _ σ H xs _ Q I1 (by simpa using rv) hw
def FD(to ti:TE)(t:DX):TG:=λv σ H Q=>to σ H λo H1=>ti σ H1 λi H2=>t o i v H2 λH3=>Q σ H3
theorem BJ(ho:PE X o to)(hi:PE X i ti)(hs:V7 X t)(ha:∀v,WX (.Subscript o i pos) X.env v=(do
   let ov <-WQ [v] (VY o X.env)
   let iv <-WQ [v,ov] (VY i X.env)
   standAt pos
   WQ [v,ov,iv] (setItem ov iv v)
   release [v,ov,iv] []):=by intro _;rfl):PG X (.Subscript o i pos) (FD to ti t):=by
 intro pins s σ H v u Q I r h;rw[ha];refine VO (WR (dQ (ho pins s σ H _ I h) λov s1 zZ=>?_));obtain⟨x,H1,I1,r1,q1⟩:=zZ;refine VO (WR (dQ (hi pins s1 σ H1 _ I1 q1) λiv s2 zZ=>?_));obtain⟨y,H2,I2,r2,q2⟩:=zZ;refine VO (XI (VO (WR (dQ (hs pins s2 σ H2 x y v ov iv u _ I2 r1 r2 r q2) λ_ s3 zZ=>?_))));obtain⟨H3,I3,q3⟩:=zZ;exact wpAny_release ⟨σ,H3,I3,q3⟩
def Lz(te:TE)(g:TG):TS:=λD σ H=>te σ H λx H1=>g x σ H1 D.nx
theorem BN(he:PE X e te)(hg:PG X tg g)(hs:WY [tg] e pos.line X.env=pure false:=by rfl)(hw:WZ [tg] e X.env=pure none:=by rfl)(h1:(WD [tg] X.env).map (·.2)=[WX tg X.env]:=by rfl):PS X (.Assign [tg] e pos) (Lz te g):=by
 intro pins s σ H D I h;refine wpAny_Assign_stores (dQ (he pins s σ H _ I h) λv s1⟨x,H1,I1,r1,q1⟩=>?_) hs hw;rw[h1];exact dQ (hg pins s1 σ H1 x v _ I1 r1 q1) λ_ s2 q=>q
theorem BS(hN:X.N.Nodup)(hi:X.N[i]?=oZ x)(hx:yT X.env.scope x)(he:PE X e te)(hs:WJ e (oZ (.Name x pos')) pos.line X.env=pure false:=by rfl)(hf:X.fn x=true\/X.env.scope.names.lookup x=oZ .local:=by first|exact .inl rfl|exact .inr rfl|assumption):
  PS X (.Assign [.Name x pos'] e pos) (Lz te (nT i)):=by
 intro pins s σ H D I h;refine wpAny_Assign_Name (dQ (he pins s σ H _ I h) λv s1⟨y,H1,I1,r1,q1⟩=>?_) hs;exact pH I1 hN hi hx r1 (λs2 I2=>⟨_,H1,I2,q1⟩) hf
def HZ(i j:Nat)(ta:TA):TS:=λD σ H=>ta σ H λvs H1=>∃v w,vs=[v,w]/\D.nx ((σ.set i (oZ v)).set j (oZ w)) H1
theorem BQ{kt k2 pt2}(hc:X.calm=true)(hN:X.N.Nodup)(hi:X.N[i]?=oZ x)(hj:X.N[j]?=oZ y)(xw:i≠j)(hx:X.env.scope.names.lookup x=oZ .local)(hy:X.env.scope.names.lookup y=oZ .local)(ha:PA X [a,b] ta)(hw:WZ [.Tuple [.Name x px,.Name y py] kt pt] (.Tuple [a,b] k2 pt2) X.env=pure (oZ [x,y]))(hs:WY [.Tuple [.Name x px,.Name y py] kt pt] (.Tuple [a,b] k2 pt2) pos.line X.env=pure false:=by rfl):
  PS X (.Assign [.Tuple [.Name x px,.Name y py] kt pt] (.Tuple [a,b] k2 pt2) pos) (HZ i j ta):=by
 intro pins s σ H D I h;rw[exec_Assign_arm];refine VO (XI ?_);rw[hs];refine VO (VV ?_);rw[oW ∅];refine VO (Tuple_ (dQ (ha _ pins s σ H _ I h) λus s1 zZ=>?_));obtain⟨vs,H1,I1,r1,q1⟩:=zZ;obtain⟨v,w,e1,q1⟩:=q1;subst e1;obtain⟨u1,u2,rfl,rv,mr⟩:∃u1 u2,us=[u1,u2]/\bN v u1/\bN w u2:=by
  cases r1 with
  |cons p q=>
   cases q with
   |cons p' q'=>
    cases q';exact⟨_,_,rfl,p,p'⟩
 refine WI ?_ (by show 2<=VW;decide);have I2:aU X pins σ H1 { s1 with heap:=s1.heap.push { cls:=.type "tuple",data:=.seq [u1,u2].toArray } }:=I1.kept (t':=s1.toks) λb o e=>OA _ e;rw[hw];refine VO (VV ?_);show VP (VR X.prog X.w) X.A (do rule "assign.swapped-stores";let items <-unpackItems (.ref s1.heap.objs.size) 2 none;assignInOrder [λv=>bindName X.env y v,λv=>bindName X.env x v] items.reverse;pure Flow.next) _ _ _;refine VO (wpAny_rule (VO (unpackItems_tuple (items:=#[u1,u2]) (I.ok.hd hc) (IsTup.new s1.heap _) λh' yt=>?_)));have I3:=I2.kept (h':=h') (t':=s1.toks) λb o e=>yt b o (PB (OH e)) e;show VP _ _ (assignInOrder [λv=>bindName X.env y v,λv=>bindName X.env x v] [u2,u1] >>= λ_=>pure Flow.next) _ _ _;refine VO (XO (wpAny_bindName (pH I3 hN hj (.inl hy) mr (λs2 I4=>?_) (.inr hy))));refine XO (wpAny_bindName (pH I4 hN hi (.inl hx) rv (λs3 I5=>assignInOrder_nil (VV ?_)) (.inr hx)));rw[List.set_comm _ _ (Ne.symm xw)]at I5;exact⟨_,H1,I5,q1⟩
def LZ(i:Nat)(te:TE)(ti:JT):TS:=λD σ H=>∃x,σ[i]?=oZ (oZ x)/\te σ H λy H1=>ti x y H1 λz H2=>D.nx (σ.set i (oZ z)) H2
theorem BO(hN:X.N.Nodup)(hi:X.N[i]?=oZ x)(hx:yT X.env.scope x)(he:PE X e te)(ho:JS X op ti)(hf:X.fn x=true\/X.env.scope.names.lookup x=oZ .local:=by first|exact .inl rfl|exact .inr rfl|assumption):
  PS X (.AugAssign (.Name x pos') op e pos) (LZ i te ti):=by
 intro pins s σ H D I h;obtain⟨v,e1,h⟩:=h;obtain⟨m,hn,hl⟩:=I.loc;have vis:P4 X.env.scope x:=by obtain k|k:=hx;exact .inl k;exact .inr (.inl k)
 obtain⟨u,r,l⟩:=hl i x v hi e1 vis;refine wpAny_AugAssign_Name ?_;have go:VP (VR X.prog X.w) X.A (VY e X.env) (λw s₂=>VP (VR X.prog X.w) X.A (inplaceOp op u w) (λr s₃=>VP (VR X.prog X.w) X.A (storeName X.env x r) (λ_=>SP X pins D .next) X.xe s₃) X.xe s₂) X.xe s:=by
  refine dQ (he pins s σ H _ I h) λw s1 zZ=>?_;obtain⟨y,H1,I1,r1,q1⟩:=zZ;refine dQ (ho pins s1 σ H1 v y u w _ I1 r r1 q1) λz s2 zZ=>?_;obtain⟨zv,H2,I2,r2,q2⟩:=zZ;exact pH I2 hN hi hx r2 (λs3 I3=>⟨_,H2,I3,q2⟩) hf
 obtain⟨hk,hm⟩|⟨hk,c,hc,iy⟩:=l
 ·exact wpAny_loadName_local I.ok.kind hk hn hm go
 ·obtain hk|hk:=hk
  ·exact wpAny_loadName_cell I.ok.kind hk hc iy go
  ·obtain k|k:=hx
   ·have:X.env.scope.names.lookup x=oZ .free:=hk;rw[k]at this;cases this
   ·have:X.env.scope.names.lookup x=oZ .free:=hk;rw[k]at this;cases this
def MJ(f:Int->Int->Int):JT:=λx y H Q=>∃i j,x = .int i/\y = .int j/\Q (.int (f i j)) H
theorem Vf:JS X .Add (MJ λi j=>i+j):=by
 intro pins s σ H x y v u Q I r1 r2 h;obtain⟨i,j,e1,e2,q⟩:=h;subst e1;subst e2;obtain⟨t,rfl⟩:=r1;obtain⟨t',rfl⟩:=r2;exact iadd_int ⟨.int _,H,I.tok _,⟨_,rfl⟩,q⟩
def Yz(c:TT)(tb:TS):TS:=λD σ H=>∃W:Nat->St->Hp->Prop,(∃m,W m σ H)/\∀m σ H,W m σ H->
 c σ H λb H1=>if b=true then ∃N:St->Hp->Prop,(∀σ' H',N σ' H'->∃m',m'<m/\W m' σ' H')/\tb { D with nx:=N,ct:=N,bk:=D.nx } σ H1 else D.nx σ H1
theorem Wz(hp:PassesOwn (VR X.prog X.w) X.A X.env X.xe)(hc:PT X c tc)(hb:Mj X body tb):PS X (.While c body [] pos) (Yz tc tb):=by
 intro pins s σ H D I h;obtain⟨W,⟨m0,w0⟩,turn⟩:=h;refine wpAny_While (codeAny_whileLoop (λn s'=>∃σ' H',aU X pins σ' H' s'/\W n σ' H') ?_ m0 ⟨σ,H,I,w0⟩);rintro n s1 ⟨σ1,H1,I1,w1⟩;refine WN hp (dQ (hc pins s1 σ1 H1 _ I1 (turn n σ1 H1 w1)) λb s2 zZ=>?_);obtain⟨H2,I2,q2⟩:=zZ;cases b with
 |true=>
  obtain⟨N,hN,q2⟩:=q2;rw[oV rfl];refine WN hp (dQ (hb pins s2 σ1 H2 _ I2 q2) λf s3 q3=>?_);cases f with
  |next=>
   obtain⟨σ3,H3,I3,n3⟩:=q3;obtain⟨m',hm,w3⟩:=hN σ3 H3 n3;exact⟨m',hm,σ3,H3,I3,w3⟩
  |cont=>
   obtain⟨σ3,H3,I3,n3⟩:=q3;obtain⟨m',hm,w3⟩:=hN σ3 H3 n3;exact⟨m',hm,σ3,H3,I3,w3⟩
  |brk=>exact q3
  |ret v=>exact q3
 |false=>
  rw[oW RM];exact XN ⟨σ1,H2,I2,q2⟩
structure It where
 go:Nat->Hp->Prop
 yld:Nat->Hp->V->Hp->Prop
 stop:Nat->Hp->Prop
def rL(X:Cx)(pins:List (VN×Obj))(H:Hp)(b:VN):Prop:=
 H b=none/\b≠X.env.locals/\b∉X.fs/\(b∈X.ex\/X.s₀.heap.objs.size<=b)/\(∀x c,X.env.cells.lookup x=oZ c->c≠b)/\∀p∈X.pn++pins,p.1≠b
theorem aU.fpOk(I:aU X pins σ H s)(hb:s.heap.objs.size<=b)(hn:H' b=none):rL X pins H' b:=by
 refine⟨hn,Nat.ne_of_gt (OI I.lt hb),I.nofs hb,.inr (PQ I.sz hb),λx c e z=>?_,λp hp z=>?_⟩
 ·obtain⟨v,q⟩:=I.cell x c e;exact absurd (OI q.lt (by rw[z];exact hb)) (Nat.lt_irrefl _)
 ·exact absurd (OI (OH (I.pin p hp).1) (by rw[z];exact hb)) (Nat.lt_irrefl _)
structure Jg(P:VQ)(w:VU)(K:W.Frag)(tg:oC)(J:It)(fp:List VN)(it:VN)(tn:Nat->oE->Prop):Prop where
 mem:it∈fp
 obj:∀i h,tn i h->∀b∈fp,∃o,h.get? b=oZ o/\∀v,o.data≠.cell v
 keep:∀i h h',tn i h->(∀b∈fp,∀o,h.get? b=oZ o->h'.get? b=oZ o)->tn i h'
 item:∀(X:Cx),X.prog=P->X.w=w->X.K=K->X.calm=true->∀(i:Nat)(pins:List (VN×Obj))(s:oB)(σ:St)(H:Hp)(E:oA->oB->Prop),aU X pins σ H s->(∀b∈fp,rL X pins H b)->tn i s.heap->J.go i H->
  VP (VR P w) X.A (pyNext (.ref it)) (λr s1=>∃u,r=oZ u/\
   VP (VR P w) X.A (WS tg (.ref it) u) (λ_ s2=>∃x H',aU X pins σ H' s2/\bN x u/\J.yld i H x H'/\tn (i+1) s2.heap/\∀b∈fp,H' b=none) E s1) E s
 done:∀(X:Cx),X.prog=P->X.w=w->X.K=K->X.calm=true->∀(i:Nat)(pins:List (VN×Obj))(s:oB)(σ:St)(H:Hp)(E:oA->oB->Prop),aU X pins σ H s->(∀b∈fp,rL X pins H b)->tn i s.heap->J.stop i H->
  VP (VR P w) X.A (pyNext (.ref it)) (λr s1=>r=none/\aU X pins σ H s1) E s
 self:∀(A:oD)(i:Nat)(s:oB)(Q:oA->oB->Prop)(E:oA->oB->Prop),tn i s.heap->Q (.ref it) s->VP (VR P w) A (pyIter (.ref it)) Q E s
abbrev TI:=St->Hp->(It->Hp->Prop)->Prop
def JG(X:Cx)(pins:List (VN×Obj))(σ:St)(tg:oC)(R:It->Hp->Prop)(itv:oA)(s2:oB):Prop:=
 ∃(it:VN)(fp:List VN)(tn:Nat->oE->Prop)(J:It)(H':Hp),itv = .ref it/\aU X pins σ H' s2/\Jg X.prog X.w X.K tg J fp it tn/\tn 0 s2.heap/\(∀b∈fp,rL X pins H' b)/\R J H'
def PI(X:Cx)(tg iter:oC)(wi:TI):Prop:=
 ∀(pins:List (VN×Obj))(s:oB)(σ:St)(H:Hp)(R:It->Hp->Prop),aU X pins σ H s->wi σ H R->
  VP (VR X.prog X.w) X.A (VY iter X.env) (λv s1=>VP (VR X.prog X.w) X.A (pyIter v) (JG X pins σ tg R) X.xe s1) X.xe s
theorem Nh {E:oA->oB->Prop} {Q:Unit->oB->Prop} (ho:s.heap.get? it=oZ o) (hc:o.cls = .type n) (hd:o.data = .fields vs) (hn:["enumerate","zip","dict_itemiterator","dict_reverseitemiterator","odict_iterator","itertools.zip_longest","itertools.pairwise"].contains n=false) (hQ:Q () s):VP M A (WS tg (.ref it) u) Q E s:=by
  unfold WS;cases tg<;>first
    | exact VV hQ
    | (cases u<;>first
        | exact VV hQ
        | (refine VO (wpAny_load ho ?_)
           rw [hc,hd];show VP M A (if (["enumerate","zip","dict_itemiterator","dict_reverseitemiterator","odict_iterator","itertools.zip_longest","itertools.pairwise"].contains n&&vs[0]?==oZ (rawInt _))=true then _ else _) Q E s;rw [oW (by intro h;rw [hn,Bool.false_and] at h;cases h)];exact VV hQ))
def JN(K:W.Frag)(a:VN):It:=
 ⟨λi H=>∃xs x,lZ K H a xs/\xs[i]?=oZ x,λi H x H'=>H'=H/\∀xs,lZ K H a xs->xs[i]?=oZ x,λi H=>∃xs,lZ K H a xs/\xs.length<=i⟩
def JO(K:W.Frag)(a:VN):It:=
 ⟨λi H=>∃xs x,yS K H a xs/\xs[i]?=oZ x,λi H x H'=>H'=H/\∀xs,yS K H a xs->xs[i]?=oZ x,λi H=>∃xs,yS K H a xs/\xs.length<=i⟩
def DH(lo:Int)(n:Nat):It:=⟨λi _=>i<n,λi H x H'=>H'=H/\x = .int (lo+i),λi _=>n<=i⟩
theorem Sr{P:VQ}{w:VU}{K:W.Frag}{tg:oC}(a it:VN):Jg P w K tg (JN K a) [it] it (λi h=>h.IsListIter it a i) where
 mem:=by simp
 obj:=λi h st b hb=>by
  have e:b=it:=by simpa using hb
  subst e;obtain⟨o,e,c,d⟩:=st;exact⟨o,e,λv z=>by rw[d]at z;cases z⟩
 keep:=λi h h' st k=>st.at λo e=>k it (by simp) o e
 item:=by
  intro X hP hw hK hc i pins s σ H E I hf st hg;subst hP hw hK;obtain⟨xs,x,hq,hx⟩:=hg;obtain⟨XX,rv,p,hz⟩:=I.list hq;obtain⟨u,hu,ru⟩:=rv.get hx;obtain⟨f0,f1,f2,f3,f4,f5⟩:=hf it (by simp);refine wpAny_pyNext_list_item st p.isList (x:=u) (by simpa using hu) λh' qi sb=>?_;have I1:aU X pins σ H { s with heap:=h' }:=I.turned (t':=s.toks) (λb o hb e=>(sb.2 b hb).trans e) f0 f1 f3 f4 f5;obtain⟨o,e,c,d⟩:=id qi;exact⟨u,rfl,Nh (s:={ s with heap:=h' }) e c d ∅ ⟨x,H,I1,ru,⟨rfl,λys hy=>by rw[I.list_inj hy hq];exact hx⟩,qi,λb hb=>(hf b hb).1⟩⟩
 done:=by
  intro X hP hw hK hc i pins s σ H E I hf st hg;subst hP hw hK;obtain⟨xs,hq,hx⟩:=hg;obtain⟨XX,rv,p,hz⟩:=I.list hq;obtain⟨f0,f1,f2,f3,f4,f5⟩:=hf it (by simp);have hl:=rv.length;exact wpAny_pyNext_list_end (I.ok.hd hc) st p.isList (by simp;lia) λh' eb=>⟨rfl,I.turned (t':=s.toks) (λb o hb e=>eb b o hb e) f0 f1 f3 f4 f5⟩
 self:=λ_ _ _ _ _ st h=>wpAny_pyIter_listiter st h
theorem Mc{P:VQ}{w:VU}{K:W.Frag}{tg:oC}(a it:VN):Jg P w K tg (JO K a) [it] it (λi h=>h.IsTupleIter it a i) where
 mem:=by simp
 obj:=λi h st b hb=>by
  have e:b=it:=by simpa using hb
  subst e;obtain⟨o,e,c,d⟩:=st;exact⟨o,e,λv z=>by rw[d]at z;cases z⟩
 keep:=λi h h' st k=>st.at λo e=>k it (by simp) o e
 item:=by
  intro X hP hw hK hc i pins s σ H E I hf st hg;subst hP hw hK;obtain⟨xs,x,hq,hx⟩:=hg;obtain⟨XX,rv,p,hz⟩:=I.tuple hq;obtain⟨u,hu,ru⟩:=rv.get hx;obtain⟨f0,f1,f2,f3,f4,f5⟩:=hf it (by simp);refine wpAny_pyNext_tuple_item st (show s.heap.IsTuple a XX.toArray from p) (x:=u) (by simpa using hu) λh' qi sb=>?_;have I1:aU X pins σ H { s with heap:=h' }:=I.turned (t':=s.toks) (λb o hb e=>(sb.2 b hb).trans e) f0 f1 f3 f4 f5;obtain⟨o,e,c,d⟩:=id qi;exact⟨u,rfl,Nh (s:={ s with heap:=h' }) e c d ∅ ⟨x,H,I1,ru,⟨rfl,λys hy=>by rw[I.tuple_inj hy hq];exact hx⟩,qi,λb hb=>(hf b hb).1⟩⟩
 done:=by
  intro X hP hw hK hc i pins s σ H E I hf st hg;subst hP hw hK;obtain⟨xs,hq,hx⟩:=hg;obtain⟨XX,rv,p,hz⟩:=I.tuple hq;obtain⟨f0,f1,f2,f3,f4,f5⟩:=hf it (by simp);have hl:=rv.length;exact wpAny_pyNext_tuple_end (I.ok.hd hc) st (show s.heap.IsTuple a XX.toArray from p) (by simp;lia) λh' eb=>⟨rfl,I.turned (t':=s.toks) (λb o hb e=>eb b o hb e) f0 f1 f3 f4 f5⟩
 self:=λ_ _ _ _ _ st h=>wpAny_pyIter_tupleiter st h
theorem Mb{P:VQ}{w:VU}{K:W.Frag}{tg:oC}(it:VN)(lo:Int)(n:Nat):Jg P w K tg (DH lo n) [it] it (λi h=>IsRangeIter h it (lo+(i:Nat)*1) ((n:Int)-(i:Nat)) 1) where
 mem:=by simp
 obj:=λi h st b hb=>by
  have e:b=it:=by simpa using hb
  subst e;exact⟨_,st,λv z=>by
   have z':Data.fields _=Data.cell v:=z;cases z'⟩
 keep:=λi h h' st k=>k it (by simp) _ st
 item:=by
  intro X hP hw hK hc i pins s σ H E I hf st hg;subst hP hw hK;obtain⟨f0,f1,f2,f3,f4,f5⟩:=hf it (by simp);have W:=Walks.range (prog:=X.prog) (w:=X.w) (I.ok.hd hc) it lo 1 n;refine W.item i s _ _ hg st λv h' tk hv qi kk=>?_;obtain⟨t,rfl⟩:=hv;have I1:aU X pins σ H { s with heap:=h',toks:=tk }:=I.turned (λb o hb e=>kk b o (by simpa using hb) e) f0 f1 f3 f4 f5;refine⟨_,rfl,Nh (s:={ s with heap:=h',toks:=tk }) (n:="range_iterator") qi rfl rfl ∅ ⟨.int (lo+i),H,I1,⟨t,?_⟩,⟨rfl,rfl⟩,qi,λb hb=>(hf b hb).1⟩⟩;rw[Int.mul_one]
 done:=by
  intro X hP hw hK hc i pins s σ H E I hf st hg;subst hP hw hK;obtain⟨f0,f1,f2,f3,f4,f5⟩:=hf it (by simp);exact wpAny_pyNext_range_end (I.ok.hd hc) st (by have:n<=i:=hg;lia) λh' eb=>⟨rfl,I.turned (t':=s.toks) (λb o hb e=>eb b o hb e) f0 f1 f3 f4 f5⟩
 self:=λ_ _ _ _ _ st h=>wpAny_pyIter_rangeiter st h
def Vd(K:W.Frag)(tl:TE):TI:=λσ H R=>tl σ H λx H1=>∃a,x = .ref a/\(∃xs,lZ K H1 a xs)/\R (JN K a) H1
def FH(K:W.Frag)(tl:TE):TI:=λσ H R=>tl σ H λx H1=>∃a,x = .ref a/\(∃xs,yS K H1 a xs)/\R (JO K a) H1
theorem Oe(hl:PE X l tl):PI X tg l (Vd X.K tl):=by
 intro pins s σ H R I h;refine dQ (hl pins s σ H _ I h) λv s1 zZ=>?_;obtain⟨x,H1,I1,r1,q1⟩:=zZ;obtain⟨a,e,⟨xs,hq⟩,q⟩:=q1;subst e;cases r1;obtain⟨XX,rv,p,hz⟩:=I1.list hq;refine wpAny_pyIter_list p.isList ?_;refine⟨s1.heap.objs.size,[s1.heap.objs.size],_,_,H1,rfl,I1.kept (t':=s1.toks) λb o e=>OA _ e,Sr a _,⟨_,OL _ rfl,rfl,rfl⟩,λb hb=>?_,q⟩;have e:b=s1.heap.objs.size:=by simpa using hb
 subst e;exact I1.fpOk (OF _) (I1.hok.fresh (OF _))
theorem BM(hl:PE X l tl):PI X tg l (FH X.K tl):=by
 intro pins s σ H R I h;refine dQ (hl pins s σ H _ I h) λv s1 zZ=>?_;obtain⟨x,H1,I1,r1,q1⟩:=zZ;obtain⟨a,e,⟨xs,hq⟩,q⟩:=q1;subst e;cases r1;obtain⟨XX,rv,p,hz⟩:=I1.tuple hq;refine XQ (show s1.heap.IsTuple a XX.toArray from p) ?_;refine⟨s1.heap.objs.size,[s1.heap.objs.size],_,_,H1,rfl,I1.kept (t':=s1.toks) λb o e=>OA _ e,Mc a _,⟨_,OL _ rfl,rfl,rfl⟩,λb hb=>?_,q⟩;have e:b=s1.heap.objs.size:=by simpa using hb
 subst e;exact I1.fpOk (OF _) (I1.hok.fresh (OF _))
theorem Hw{R:It->Hp->Prop}{E:oA->oB->Prop}{lo hi:Int}(I:aU X pins σ H s)(h1:-(2^62)<=lo)(h2:lo<2^62)(h3:-(2^62)<=hi)(h4:hi<2^62)(q:R (DH lo (hi-lo).toNat) H):VP (VR X.prog X.w) X.A (pyIter (.ref s.heap.objs.size)) (JG X pins σ tg R) E { s with heap:=s.heap.push { cls:=.type "range",data:=.fields #[.int lo t,.int hi u,.int 1 v] },toks:=tk }:=by
 refine wpAny_pyIter_range (IsRange.new ..) (small_one h1 h2 h3 h4) ?_;have I1:aU X pins σ H { s with heap:=s.heap.push { cls:=.type "range",data:=.fields #[.int lo t,.int hi u,.int 1 v] },toks:=tk }:=I.kept λb o e=>OA _ e;refine⟨(s.heap.push { cls:=.type "range",data:=.fields #[.int lo t,.int hi u,.int 1 v] }).objs.size,[(s.heap.push { cls:=.type "range",data:=.fields #[.int lo t,.int hi u,.int 1 v] }).objs.size],_,_,H,rfl,
  I1.kept (t':=tk) λb o e=>OA _ e,Mb _ lo (hi-lo).toNat,?_,λb hb=>?_,q⟩
 ·have e1:lo+((0:Nat):Int)*1=lo:=by simp
  have e2:(((hi-lo).toNat:Nat):Int)-((0:Nat):Int)=Builtin.Range.rangeSize lo hi 1:=by rw[rangeSize_one];split<;>lia
  show IsRangeIter _ _ (lo+((0:Nat):Int)*1) ((((hi-lo).toNat:Nat):Int)-((0:Nat):Int)) 1;rw[e1,e2];exact OL _ rfl
 ·have e:b=(s.heap.push { cls:=.type "range",data:=.fields #[.int lo t,.int hi u,.int 1 v] }).objs.size:=by simpa using hb
  subst e;exact I1.fpOk (OF _) (I1.hok.fresh (OF _))
def Q7(ta:TA):TI:=λσ H R=>ta σ H λvs H1=>∃j:Int,vs=[.int j]/\-(2^62)<=j/\j<2^62/\R (DH 0 j.toNat) H1
def Q8(ta:TA):TI:=λσ H R=>ta σ H λvs H1=>∃i j:Int,vs=[.int i,.int j]/\(-(2^62)<=i/\i<2^62/\-(2^62)<=j/\j<2^62)/\R (DH i (j-i).toNat) H1
theorem Sa(hg:Gl X "range")(hm:X.mg "range" = none)(ha:PA X [a] ta)(hs:VZ [a] X.env=[(false,VY a X.env)]:=by rfl):PI X tg (.Call (.Name "range" p) [a] [] pos) (Q7 ta):=by
 intro pins s σ H R I h;refine Call_ (qO I hg hm boot_range (PyProof.Rows.callWith_type1 (dQ (ha pos pins s σ H _ I h) λus s1⟨vs,H1,I1,r1,q1⟩=>?_) hs rfl));obtain⟨j,e,q1,q2,q⟩:=q1;subst e;cases r1 with
 |cons r rr=>
  cases rr;obtain⟨t,rfl⟩:=r;exact call_range_1 (Hw I1 ⋯ ⋯ q1 q2 (by simpa using q))
theorem Sb(hg:Gl X "range")(hm:X.mg "range" = none)(ha:PA X [a,b] ta)(hs:VZ [a,b] X.env=[(false,VY a X.env),(false,VY b X.env)]:=by rfl)(jc:VZ [b] X.env=[(false,VY b X.env)]:=by rfl):
  PI X tg (.Call (.Name "range" p) [a,b] [] pos) (Q8 ta):=by
 intro pins s σ H R I h;refine Call_ (qO I hg hm boot_range (PyProof.Rows.callWith_type1 (dQ (ha pos pins s σ H _ I h) λus s1⟨vs,H1,I1,r1,q1⟩=>?_) (by rw[hs,jc]) (by rw[jc];rfl)));obtain⟨i,j,e,⟨q1,q2,q3,q4⟩,q⟩:=q1;subst e;cases r1 with
 |cons r rr=>
  cases rr with
  |cons r' rr=>
   cases rr;obtain⟨t,rfl⟩:=r;obtain⟨t',rfl⟩:=r';exact call_range_2 (Hw I1 q1 q2 q3 q4 q)
def HP(wi:TI)(g:TG)(tb:TS):TS:=λD σ H=>wi σ H λJ H1=>∃W:Nat->Nat->St->Hp->Prop,(∃m,W 0 m σ H1)/\∀i m σ H,W i m σ H->
 (J.stop i H/\D.nx σ H)\/(J.go i H/\∃N:St->Hp->Prop,(∀σ' H',N σ' H'->∃m',m'<m/\W (i+1) m' σ' H')/\∀x H',J.yld i H x H'->g x σ H' λσ2 H2=>tb { D with nx:=N,ct:=N,bk:=D.nx } σ2 H2)
def Df(fp:List VN)(h:oE):List (VN×Obj):=fp.filterMap λb=>(h.get? b).map λo=>(b,o)
theorem iG(hb:b∈fp)(e:h.get? b=oZ o):(b,o)∈Df fp h:=List.mem_filterMap.mpr ⟨b,hb,by rw[e];rfl⟩
theorem Rj(hp:p∈Df fp h):p.1∈fp/\h.get? p.1=oZ p.2:=by
 obtain⟨b,hb,e⟩:=List.mem_filterMap.mp hp;cases q:h.get? b with
 |none=>rw[q]at e;cases e
 |some o=>
  rw[q]at e;have e':(b,o)=p:=Option.some.inj e;subst e';exact⟨hb,q⟩
theorem aU.pinned(I:aU X pins σ H s)(hf:∀b∈fp,rL X pins H b)(ho:∀b∈fp,∃o,s.heap.get? b=oZ o/\∀v,o.data≠.cell v):aU X (pins++Df fp s.heap) σ H s:=
 I.pins_of λp hp=>(OZ.mp hp).elim (λz=>I.pin p (ON _ z)) λz=>by
  obtain⟨hb,e⟩:=Rj z;obtain⟨f0,f1,f2,_⟩:=hf p.1 hb;obtain⟨o,e',d⟩:=ho p.1 hb;rw[e]at e';cases e';exact⟨e,f0,f1,f2,d⟩
theorem aU.unpinned(I:aU X (pins++pl) σ H s):aU X pins σ H s:=I.pins_of λp hp=>I.pin p (ON _ (QD _ hp))
theorem BP(hp:PassesOwn (VR X.prog X.w) X.A X.env X.xe)(hc:X.calm=true)(hi:PI X tg iter wi)(hg:PG X tg g)(hb:Mj X body tb)(hs:∀x,VX iter X.env x=pure x:=by intro _;rfl):PS X (.For tg iter body [] pos) (HP wi g tb):=by
 intro pins s σ H D I h;refine wpAny_For (dQ (hi pins s σ H _ I h) λv s1 h1=>dQ h1 λitv s2 h2=>?_) hs;obtain⟨it,fp,tn,J,H2,e,I2,T,st2,f2,W,⟨m0,w0⟩,turn⟩:=h2;subst e
 -- what stays true of the iterator's objects through the loop
 have mw:∀{H':Hp},(∀b∈fp,H' b=none)->∀b∈fp,rL X pins H' b:=λhn b hb=>⟨hn b hb,(f2 b hb).2⟩;refine codeAny_forLoop_any (λn s'=>∃i σ' H',aU X pins σ' H' s'/\tn i s'.heap/\(∀b∈fp,H' b=none)/\W i n σ' H') ?_ m0 ⟨0,σ,H2,I2,st2,λb hb=>(f2 b hb).1,w0⟩;rintro n s3 ⟨i,σ3,H3,I3,yu,fr3,w3⟩;obtain⟨stop,qn⟩|⟨go,N,hN,step⟩:=turn i n σ3 H3 w3
 ·refine WN hp (dQ (T.done X rfl rfl rfl hc i pins s3 σ3 H3 X.xe I3 (mw fr3) yu stop) λr s4 zZ=>?_);obtain⟨hr,I4⟩:=zZ;subst hr;exact XN ⟨σ3,H3,I4,qn⟩
 ·refine WN hp (dQ (T.item X rfl rfl rfl hc i pins s3 σ3 H3 X.xe I3 (mw fr3) yu go) λr s4 zZ=>?_);obtain⟨u,hr,h4⟩:=zZ;subst hr;refine WN hp (dQ h4 λ_ s5 zZ=>?_);obtain⟨x,H5,I5,r5,y5,se,fr5⟩:=zZ;have I5':=I5.pinned (mw fr5) (T.obj _ _ se);refine WN hp (dQ (hg _ s5 σ3 H5 x u _ I5' r5 (step x H5 y5)) λ_ s6 zZ=>?_);obtain⟨σ6,H6,I6,q6⟩:=zZ;refine WN hp (dQ (hb _ s6 σ6 H6 _ I6 q6) λf s7 q7=>?_);have again:∀{σ7:St}{H7:Hp},aU X (pins++Df fp s5.heap) σ7 H7 s7->N σ7 H7->∃m,m<n/\∃i σ' H',aU X pins σ' H' s7/\tn i s7.heap/\(∀b∈fp,H' b=none)/\W i m σ' H':=λ{σ7 H7}I7 n7=>by
   obtain⟨m',hm,w7⟩:=hN σ7 H7 n7;refine⟨m',hm,i+1,σ7,H7,I7.unpinned,T.keep _ _ _ se λb hb o e=>(I7.pin (b,o) (ON _ (ON _ (iG hb e)))).1,λb hb=>?_,w7⟩;obtain⟨o,e,d⟩:=T.obj _ _ se b hb;exact(I7.pin (b,o) (ON _ (ON _ (iG hb e)))).2.1
  cases f with
  |next=>obtain⟨σ7,H7,I7,n7⟩:=q7;exact again I7 n7
  |cont=>obtain⟨σ7,H7,I7,n7⟩:=q7;exact again I7 n7
  |brk=>obtain⟨σ7,H7,I7,q7⟩:=q7;exact⟨σ7,H7,I7.unpinned,q7⟩
  |ret v=>obtain⟨x7,σ7,H7,I7,r7,q7⟩:=q7;exact⟨x7,σ7,H7,I7.unpinned,r7,q7⟩
abbrev R2:=V->V->Hp->VK->Prop
def m4(X:Cx)(f:oA->oA->Sem oA)(r:R2):Prop:=
 ∀(pins:List (VN×Obj))(s:oB)(σ:St)(H:Hp)(x y:V)(v u:oA)(Q:VK),aU X pins σ H s->bN x v->bN y u->r x y H Q->
  VP (VR X.prog X.w) X.A (f v u) (EP X pins σ Q) X.xe s
def JJ(X:Cx)(f:oA->Sem oA)(r:V->Hp->VK->Prop):Prop:=
 ∀(pins:List (VN×Obj))(s:oB)(σ:St)(H:Hp)(x:V)(v:oA)(Q:VK),aU X pins σ H s->bN x v->r x H Q->
  VP (VR X.prog X.w) X.A (f v) (EP X pins σ Q) X.xe s
def jR(X:Cx)(f:oA)(r:List V->Hp->VK->Prop):Prop:=
 ∀(pins:List (VN×Obj))(s:oB)(σ:St)(H:Hp)(xs:List V)(us:List oA)(Q:VK),aU X pins σ H s->bA xs us->r xs H Q->
  VP (VR X.prog X.w) X.A (call f us) (EP X pins σ Q) X.xe s
def Yu(r:R2)(ta tb:TE):TE:=λσ H Q=>ta σ H λx H1=>tb σ H1 λy H2=>r x y H2 Q
def NA(r:V->Hp->VK->Prop)(ta:TE):TE:=λσ H Q=>ta σ H λx H1=>r x H1 Q
def rI(C:Int->Int->Prop)(g:Int->Int->V):R2:=λx y H Q=>∃i j,x = .int i/\y = .int j/\C i j/\Q (g i j) H
def Sx(g:Int->Int->V):R2:=λx y H Q=>∃i j,x = .int i/\y = .int j/\Q (g i j) H
def rU(g:Int->V):V->Hp->VK->Prop:=λx H Q=>∃i,x = .int i/\Q (g i) H
theorem W4{X:Cx}{ta:TE}(ha:PE X a ta)(hb:PE X b tb){R:V->V->Hp->Prop}(I:aU X pins σ H s)(h:ta σ H λx H1=>tb σ H1 λy H2=>R x y H2){Q:oA->oB->Prop}{f:oA->oA->Sem oA}(hf:∀v u s2 x y H2,aU X pins σ H2 s2->bN x v->bN y u->R x y H2->VP (VR X.prog X.w) X.A (f v u) Q X.xe s2):
  VP (VR X.prog X.w) X.A (VY a X.env) (λv s₁=>VP (VR X.prog X.w) X.A (VY b X.env) (λu s₂=>VP (VR X.prog X.w) X.A (f v u) Q X.xe s₂) X.xe s₁) X.xe s:=by
 refine dQ (ha pins s σ H _ I h) λv s1 zZ=>?_;obtain⟨x,H1,I1,r1,q1⟩:=zZ;refine dQ (hb pins s1 σ H1 _ I1 q1) λu s2 zZ=>?_;obtain⟨y,H2,I2,r2,q2⟩:=zZ;exact hf v u s2 x y H2 I2 r1 r2 q2
theorem GG(ho:m4 X (WG op) r)(ha:PE X a ta)(hb:PE X b tb):PE X (.BinOp a op b pos) (Yu r ta tb):=by
 intro pins s σ H Q I h;exact wpAny_BinOp (W4 ha hb I h λv u s2 x y H2 I2 rx ry q=>ho pins s2 σ H2 x y v u Q I2 rx ry q)
theorem GI{r:V->Hp->VK->Prop}(ho:JJ X (unaryOp op) r)(ha:PE X a ta):PE X (.UnaryOp op a pos) (NA r ta):=by
 intro pins s σ H Q I h;exact UnaryOp_ (dQ (ha pins s σ H _ I h) λv s1 zZ=>by obtain⟨x,H1,I1,r1,q1⟩:=zZ;exact ho pins s1 σ H1 x v Q I1 r1 q1)
theorem DJ{C:Int->Int->Prop}{g:Int->Int->Int}(rule:∀(i j:Int)(t u:Tok)(s:oB)(Q:oA->oB->Prop)(E:oA->oB->Prop),C i j->Q (.int (g i j) s.toks) { s with toks:=s.toks+1 }->VP (VR X.prog X.w) X.A (f (.int i t) (.int j u)) Q E s):
  m4 X f (rI C λi j=>.int (g i j)):=by
 intro pins s σ H x y v u Q I rx ry h;obtain⟨i,j,rfl,rfl,hc,q⟩:=h;obtain⟨t,rfl⟩:=rx;obtain⟨t',rfl⟩:=ry;exact rule i j t t' s _ _ hc ⟨.int (g i j),H,I.tok _,⟨_,rfl⟩,q⟩
theorem FZ{g:Int->Int->Int}(rule:∀(i j:Int)(t u:Tok)(s:oB)(Q:oA->oB->Prop)(E:oA->oB->Prop),Q (.int (g i j) s.toks) { s with toks:=s.toks+1 }->VP (VR X.prog X.w) X.A (f (.int i t) (.int j u)) Q E s):
  m4 X f (Sx λi j=>.int (g i j)):=by
 intro pins s σ H x y v u Q I rx ry h;obtain⟨i,j,rfl,rfl,q⟩:=h;obtain⟨t,rfl⟩:=rx;obtain⟨t',rfl⟩:=ry;exact rule i j t t' s _ _ ⟨.int (g i j),H,I.tok _,⟨_,rfl⟩,q⟩
theorem J1{g:Int->Int->Bool}(rule:∀(i j:Int)(t u:Tok)(s:oB)(Q:oA->oB->Prop)(E:oA->oB->Prop),Q (.bool (g i j)) s->VP (VR X.prog X.w) X.A (f (.int i t) (.int j u)) Q E s):
  m4 X f (Sx λi j=>.bl (g i j)):=by
 intro pins s σ H x y v u Q I rx ry h;obtain⟨i,j,rfl,rfl,q⟩:=h;obtain⟨t,rfl⟩:=rx;obtain⟨t',rfl⟩:=ry;exact rule i j t t' s _ _ ⟨.bl (g i j),H,I,rfl,q⟩
def A9(i j:Int):Prop:=0<=j/\j<=1000000/\i.natAbs<2^64
def A8(i j:Int):Prop:=(-(2^64)<i/\i<2^64)\/(-(2^64)<j/\j<2^64)
theorem A8.ok{i j:Int}(h:A8 i j):IntMulOk i j:=by
 obtain⟨h1,h2⟩|⟨h1,h2⟩:=h
 ·exact .of_left (intBits_le_64 h1 h2)
 ·exact .of_right (intBits_le_64 h1 h2)
theorem cF:m4 X (WG .Add) (Sx λi j=>.int (i+j)):=FZ λ_ _ _ _ _ _ _ q=>add_int q
theorem iJ:m4 X (WG .Sub) (Sx λi j=>.int (i-j)):=FZ λ_ _ _ _ _ _ _ q=>sub_int q
theorem AX:m4 X (WG .Mult) (rI A8 λi j=>.int (i*j)):=DJ λ_ _ _ _ _ _ _ hc q=>mul_int q hc.ok
theorem iI:m4 X (WG .Mod) (rI (λ_ j=>0<j) λi j=>.int (i%j)):=DJ λi j _ _ _ _ _ hc q=>by
 have h1:(0:Int)<j:=hc;exact mod_int' ⋯ (by rw[UD i ⋯];exact q)
theorem Wm:m4 X (WG .Pow) (rI A9 λi j=>.int (i^j.toNat)):=DJ λ_ _ _ _ _ _ _ hc q=>pow_int_small hc.1 hc.2.1 hc.2.2 q
theorem AZ:m4 X (WG .LShift) (rI A9 λi j=>.int (i*2^j.toNat)):=DJ λ_ _ _ _ _ _ _ hc q=>lshift_int_small hc.1 hc.2.1 hc.2.2 q
theorem NR{g:Int->Int}(rule:∀(i:Int)(t:Tok)(s:oB)(Q:oA->oB->Prop)(E:oA->oB->Prop),Q (.int (g i) s.toks) { s with toks:=s.toks+1 }->VP (VR X.prog X.w) X.A (f (.int i t)) Q E s):
  JJ X f (rU λi=>.int (g i)):=by
 intro pins s σ H x v Q I rx h;obtain⟨i,rfl,q⟩:=h;obtain⟨t,rfl⟩:=rx;exact rule i t s _ _ ⟨.int (g i),H,I.tok _,⟨_,rfl⟩,q⟩
theorem CZ:JJ X (unaryOp .USub) (rU λi=>.int (-i)):=NR λ_ _ _ _ _ q=>neg_int q
theorem Jv(I:aU X pins σ H s)(q:Q (.bl k) H)(e:k=k'):EP X pins σ Q (.bool k') s:=by
 subst e;exact⟨.bl k,H,I,rfl,q⟩
theorem lI:m4 X (WE .Lt) (Sx λi j=>.bl (decide (i<j))):=J1 λ_ _ _ _ _ _ _ q=>lt_int q
theorem GA:m4 X (WE .LtE) (Sx λi j=>.bl (decide (i<=j))):=J1 λ_ _ _ _ _ _ _ q=>le_int q
theorem Al:m4 X (WE .Gt) (Sx λi j=>.bl (decide (j<i))):=J1 λ_ _ _ _ _ _ _ q=>gt_int q
theorem Wk:m4 X (WE .GtE) (Sx λi j=>.bl (decide (j<=i))):=J1 λ_ _ _ _ _ _ _ q=>ge_int q
theorem AW:m4 X (WE .Is) (λx y H Q=>y = .non/\Q (.bl (decide (x = .non))) H):=by
 intro pins s σ H x y v u Q I rx ry h;obtain⟨rfl,q⟩:=h;cases ry;refine is_none_gen (Jv I q ?_);cases x<;>first
  |(cases rx;rfl)
  |(obtain⟨t,rfl⟩:=rx;rfl)
theorem bK(b:oC)(h:op≠.In:=by decide)(h2:op≠.NotIn:=by decide):WA op b=false:=by
 have e1:(op==CmpOp.In)=false:=by cases op<;>first|rfl|exact absurd rfl h
 have e2:(op==CmpOp.NotIn)=false:=by cases op<;>first|rfl|exact absurd rfl h2
 cases b<;>simp[WA,e1,e2]
theorem J7(ho:m4 X (WE op) r)(ha:PE X a ta)(hb:PE X b tb)(hm:WA op b=false):PE X (.Compare a [op] [b] pos) (Yu r ta tb):=by
 intro pins s σ H Q I h;exact wpAny_Compare1 (W4 ha hb I h λv u s2 x y H2 I2 rx ry q=>ho pins s2 σ H2 x y v u Q I2 rx ry q) hm
def Yy(t:TE):TT:=λσ H Q=>t σ H λx H'=>∃k,x = .bl k/\Q k H'
theorem Of(ho:m4 X (WE op) r)(ha:PE X a ta)(hb:PE X b tb)(hm:WA op b=false):PT X (.Compare a [op] [b] pos) (Yy (Yu r ta tb)):=by
 intro pins s σ H Q I h;refine wpAny_isTrue_Compare1 (dQ (ha pins s σ H _ I h) λv s1⟨x,H1,I1,r1,q1⟩=>dQ (hb pins s1 σ H1 _ I1 q1) λu s2⟨y,H2,I2,r2,q2⟩=>
  dQ (ho pins s2 σ H2 x y v u _ I2 r1 r2 q2) λc s3⟨z,H3,I3,r3,k,e,q3⟩=>?_) hm
 subst e;cases r3;exact WO ⟨H3,I3,q3⟩
theorem xA:(VW:Nat)<2^63:=by rw[sizeLine_eq];decide
theorem Kw:m4 X (WG .Add) (λx y H Q=>∃i j,x = .str i/\y = .str j/\i.length+j.length<=VW/\Q (.str (i++j)) H):=by
 intro pins s σ H x y v u Q I rx ry h;obtain⟨i,j,rfl,rfl,hz,q⟩:=h;obtain⟨t,rfl⟩:=rx;obtain⟨t',rfl⟩:=ry;exact add_str (λt' tk=>⟨.str (i++j),H,I.tok _,⟨_,rfl⟩,q⟩) hz
theorem yP(r:bA [x] us):∃u,us=[u]/\bN x u:=by
 cases r with
 |cons r1 r2=>cases r2;exact⟨_,rfl,r1⟩
theorem yU.some_of(r:yU (oZ v) o):∃u,o=oZ u/\bN v u:=by
 cases o with
 |none=>exact(show False from r).elim
 |some u=>exact⟨u,rfl,r⟩
structure dD(k:Nat)(A:oD):Prop where
 hd:A.handled=none
 dp:A.depth+3*k+5<recursionLimit
 un:A.units+16*k+200<XE
 gd:A.guards=oZ []
theorem dD.mono(r:dD k A)(h:j<=k):dD j A:=⟨r.hd,by have:=r.dp;lia,by have:=r.un;lia,r.gd⟩
theorem dD.deeper(r:dD (k+1) A)(env:Env):dD k (A.deeper env):=
 ⟨r.hd,by have:=r.dp;show A.depth+1+3*k+5<_;lia,by have:=r.un;show A.units+3+16*k+200<_;lia,r.gd⟩
theorem dD.depth(r:dD k A):A.depth<recursionLimit:=by have:=r.dp;lia
theorem dD.units(r:dD k A):A.units+64<XE:=by have:=r.un;lia
def HV:TA:=λ_ H Q=>Q [] H
def Yr(ta:TE)(tr:TA):TA:=λσ H Q=>ta σ H λx H1=>tr σ H1 λxs H2=>Q (x::xs) H2
section
variable{X:Cx}{e:oC}{es:List oC}{te:TE}{t:TA}{pos:Pos}
theorem BA:PA X [] HV:=λ_ _ _ _ H Q I h=>Calls.spliced_nil ⟨[],H,I,.nil,h⟩
theorem J4(ha:PE X e te)(hr:PA X es t)(hs:VZ (e::es) X.env=(false,VY e X.env)::VZ es X.env:=by rfl):PA X (e::es) (Yr te t):=by
 intro pos pins s σ H Q I h;rw[hs];show VP _ _ (spliced ((false,VY e X.env)::XG pos (VZ es X.env))) _ _ s;refine Calls.spliced_cons (dQ (ha pins s σ H _ I h) λu s1 zZ=>?_);obtain⟨x,H1,I1,r1,q1⟩:=zZ;exact dQ (hr pos pins s1 σ H1 _ I1 q1) λus s2 zZ=>by obtain⟨xs,H2,I2,r2,q2⟩:=zZ;exact⟨x::xs,H2,I2,.cons r1 r2,q2⟩
def IE(t:TA):TE:=λσ H Q=>t σ H λxs H1=>xs.length<=VW/\∀p,H1 p=none->Q (.ref p) (upd H1 p (.tup xs))
def HU(t:TA):TE:=λσ H Q=>t σ H λxs H1=>xs.length<=VW/\∀p,H1 p=none->Q (.ref p) (upd H1 p (.lst xs))
theorem BI{x1}(h:PA X es t):PE X (.Tuple es x1 pos) (IE t):=by
 intro pins s σ H Q I hq;refine wpAny_Tuple_spliced (dQ (h pos pins s σ H _ I hq) λus s1⟨xs,H1,I1,r,z,q⟩=>⟨by rw[<-r.length];exact z,?_⟩);have hf:H1 s1.heap.objs.size=none:=I1.hok.fresh (OF _);refine⟨.ref s1.heap.objs.size,upd H1 s1.heap.objs.size (.tup xs),I1.laid (t':=s1.toks) (λb u e=>OA _ e) (OF _) ?_,rfl,q _ hf⟩;exact⟨z,us,r,⟨_,OL _ rfl,rfl,_,rfl⟩⟩
theorem BF(h:PA X es t):PE X (.List es pos) (HU t):=by
 intro pins s σ H Q I hq;refine wpAny_List_spliced (dQ (h pos pins s σ H _ I hq) λus s1⟨xs,H1,I1,r,z,q⟩=>⟨by rw[<-r.length];exact z,?_⟩);have hf:H1 s1.heap.objs.size=none:=I1.hok.fresh (OF _);refine⟨.ref s1.heap.objs.size,upd H1 s1.heap.objs.size (.lst xs),I1.laid (t':=s1.toks) (λb u e=>OA _ e) (OF _) ?_,rfl,q _ hf⟩;exact⟨z,us,0,r,OL _ rfl⟩
end
abbrev Sp:=List V->Hp->VK->XK->Prop
abbrev Jb:=List Env->Hp->oB->XK->oA->oB->Prop
structure Sz(P:VQ)(w:VU)(K:W.Frag)(mg:Str->Option oA)(base:oE)(A:oD)(outer:List Env)(s:oB)(H:Hp):Prop where
 frames:A.frames=oZ outer
 mod:Mod K mg base
 bs:∀b o,base.get? b=oZ o->s.heap.get? b=oZ o/\H b=none
 bsz:base.objs.size<=s.heap.objs.size
 funs:s.heap.FunFrames base outer
 frf:∀b∈Jc outer,H b=none
 hok:pT P w H s.heap
 bare:WT s.gens
def CE(outer:List Env)(P:VQ)(w:VU)(H:Hp)(s:oB)(Q:VK)(u:oA)(s':oB):Prop:=
 ∃v H',s'.os=s.os/\WT s'.gens/\Un (Jc outer) [] H H' s.heap s'.heap/\pT P w H' s'.heap/\bN v u/\Q v H'
def CR(CX:Jb)(outer:List Env)(P:VQ)(w:VU)(H:Hp)(s:oB)(Q:VK)(E:XK)(r:Result)(s':oB):Prop:=
 match r with
 |.ok (.ret u)=>CE outer P w H s Q u s'
 |.ok _=>False
 |.error e=>CX outer H s E e s'
structure aT(P:VQ)(w:VU)(K:W.Frag)(mg:Str->Option oA)(base:oE)(CX:Jb)(k:Nat)(f:VN)(fd:WC)(ps:List Str)(sp:Sp):Prop where
 len:∀vs H Q E,sp vs H Q E->vs.length=ps.length
 run:∀(A:oD)(outer:List Env)(s:oB)(H:Hp)(args:Args)(us:List oA)(vs:List V)(Q:VK)(E:XK),dD k A->Sz P w K mg base A outer s H->BindsTo s fd args (ps.zip us)->bA vs us->sp vs H Q E->
  XM (VR P w) A (.call (.ref f) args) (CR CX outer P w H s Q E) s
theorem aT.imp{P:VQ}{w:VU}{K:W.Frag}{mg:Str->Option oA}{base:oE}{CX:Jb}{k:Nat}{f:VN}{fd:WC}{ps:List Str}{sp sp':Sp}(F:aT P w K mg base CX k f fd ps sp)
  (h:∀vs H Q E,sp' vs H Q E->sp vs H Q E):(~~~aT) CX k f fd ps sp':=
 ⟨λvs H Q E q=>F.len vs H Q E (h _ _ _ _ q),λA outer s H args us vs Q E hr he hb hv hs=>F.run A outer s H args us vs Q E hr he hb hv (h _ _ _ _ hs)⟩
theorem aU.env0(I:aU X pins σ H s):Sz X.prog X.w X.K X.mg X.base X.A X.stack s H:=
 ⟨I.ok.frames,I.ok.mod,I.bs,PQ I.ok.bsz I.sz,I.stack,I.stkFree,I.hok,I.bare⟩
theorem aU.after(I:aU X pins σ H s)(h:CE X.stack X.prog X.w H s Q u s'):EP X pins σ Q u s':=by
 obtain⟨v,H',os,bare,un,hok,r,q⟩:=h;obtain⟨hh,g,d,t,os'⟩:=s';obtain rfl:os'=s.os:=os;exact⟨v,H',I.call (h':=hh) (g':=g) (d':=d) (t':=t) (ch:=[]) un hok bare (λb z=>absurd z (by simp)),r,q⟩
def Im(sp:Sp)(vq:List V)(E:XK)(t:TA):TE:=λσ H Q=>t σ H λvs H1=>sp (vs++vq) H1 Q E
def k8(K:W.Frag)(fd:WC)(ps:List Str)(ds:List oA):Prop:=
 ∀(s:oB)(us:List oA),K.In s.heap->(us++ds).length=ps.length->BindsTo s fd ⟨us,[]⟩ (ps.zip (us++ds))
theorem k8.all{K:W.Frag}{fd:WC}{ps:List Str}(h:∀us:List oA,us.length=ps.length->bindArgs fd ⟨us,[]⟩=pure (ps.zip us)):k8 K fd ps []:=λs us _ hl=>by
 rw[PV]at hl⊢;exact .of_eq (h us hl)
def Jf(CX:Jb)(X:Cx)(E:XK):Prop:=∀(pins:List (VN×Obj))(σ:St)(H:Hp)(s:oB)(e:oA)(s':oB),aU X pins σ H s->CX X.stack H s E e s'->X.xe e s'
theorem CN(F:aT X.prog X.w X.K X.mg X.base CX k f fd ps sp)(hr:dD k X.A)(hb:k8 X.K fd ps ds)(hd:bA vq ds)(hx:Jf CX X E)(I:aU X pins σ H s)(r:bA vs us)(h:sp (vs++vq) H Q E):VP (VR X.prog X.w) X.A (call (.ref f) us) (EP X pins σ Q) X.xe s:=by
 have r2:bA (vs++vq) (us++ds):=r.append hd;have hl:(us++ds).length=ps.length:=by rw[<-r2.length];exact F.len _ _ _ _ h
 refine wpAny_call (XU (F.run X.A X.stack s H ⟨us,[]⟩ (us++ds) (vs++vq) Q E hr I.env0 (hb s us I.kIn hl) r2 h) λr s' hq=>?_);cases r with
 |error e=>exact hx pins σ H s e s' I hq
 |ok fl=>
  cases fl with
  |ret u=>exact I.after hq
  |next=>exact False.elim hq
  |brk=>exact False.elim hq
  |cont=>exact False.elim hq
theorem J6(F:aT X.prog X.w X.K X.mg X.base CX k f fd ps sp)(hr:dD k X.A)(hg:Gl X x)(hm:X.mg x=oZ (.ref f))(hk:W.keepIn X.K (.ref f)=true)(hb:k8 X.K fd ps ds)(hd:bA vq ds)(hx:Jf CX X E)(ha:PA X (e::es) t)(cg:(x==("__debug__":Str))=false:=by decide)(he:VZ (e::es) X.env=(false,VY e X.env)::VZ es X.env:=by rfl)(uq:(XG pos (VZ es X.env)).any (·.1)=false:=by rfl):
  PE X (.Call (.Name x p) (e::es) [] pos) (Im sp vq E t):=by
 intro pins s σ H Q I h;refine XR (Np I hg hm ?_ cg);refine PySem.W.callWith_K (h₀:=X.base) I.ok.mod.kin hk (dQ (ha pos pins s σ H _ I h) λus s1⟨vs,H1,I1,r,q⟩=>⟨I1.kIn,?_⟩) he uq;exact CN F hr hb hd hx I1 r q
structure aF(N P:List Str)(sc:XC):Prop where
 kind:sc.kind = .function
 co:sc.isCoroutine=false
 gen:sc.isGenerator=false
 nd:N.Nodup
 pre:N.take P.length=P
 par:∀x∈P,sc.names.lookup x=oZ .local\/sc.names.lookup x=oZ .cell
 nofree:∀y∈sc.names,y.2≠.free
theorem zT{kindOf:Str->Option NameKind}{x:Str}:∀{binds:List (Str×oA)}{m:Str->Option oA},(∀v,(x,v)∉binds)->bindL kindOf binds m x=m x
 |[],_,_=>rfl
 |(n,v)::r,m,h=>by
  unfold bindL;rw[zT λw hw=>h w (OC _ hw)]
  split
  ·have:x≠n:=by rintro rfl;exact h v OK
   simp[this]
  ·rfl
theorem zQ{kindOf:Str->Option NameKind}{x:Str}:∀{binds:List (Str×oA)}{m:Str->Option oA},(∀v,(x,v)∉binds)->bindC kindOf binds m x=m x
 |[],_,_=>rfl
 |(n,v)::r,m,h=>by
  unfold bindC;rw[zQ λw hw=>h w (OC _ hw)]
  split
  ·rfl
  ·have:x≠n:=by rintro rfl;exact h v OK
   simp[this]
theorem zS{kindOf:Str->Option NameKind}:∀{P:List Str}{vs:List oA}{i:Nat}{m:Str->Option oA},P.Nodup->P[i]?=oZ x->vs[i]?=oZ v->kindOf x=oZ .local->
  bindL kindOf (P.zip vs) m x=oZ v
 |[],_,_,_,_,h,_,_=>by simp at h
 |_::_,[],_,_,_,_,h,_=>by simp at h
 |p::P,w::vs,0,m,nd,h1,h2,hk=>by
  simp at h1 h2;subst h1;subst h2;show bindL kindOf ((p,w)::P.zip vs) m p=_;unfold bindL;rw[zT λv hv=>(QX.mp nd).1 (UY hv).1,oV hk];simp
 |p::P,w::vs,i+1,m,nd,h1,h2,hk=>by
  show bindL kindOf ((p,w)::P.zip vs) m x=_;unfold bindL;exact zS (i:=i) (QX.mp nd).2 (by simpa using h1) (by simpa using h2) hk
theorem zP{kindOf:Str->Option NameKind}:∀{P:List Str}{vs:List oA}{i:Nat}{m:Str->Option oA},P.Nodup->P[i]?=oZ x->vs[i]?=oZ v->kindOf x≠oZ .local->
  bindC kindOf (P.zip vs) m x=oZ v
 |[],_,_,_,_,h,_,_=>by simp at h
 |_::_,[],_,_,_,_,h,_=>by simp at h
 |p::P,w::vs,0,m,nd,h1,h2,hk=>by
  simp at h1 h2;subst h1;subst h2;show bindC kindOf ((p,w)::P.zip vs) m p=_;unfold bindC;rw[zQ λv hv=>(QX.mp nd).1 (UY hv).1,oW hk];simp
 |p::P,w::vs,i+1,m,nd,h1,h2,hk=>by
  show bindC kindOf ((p,w)::P.zip vs) m x=_;unfold bindC;exact zP (i:=i) (QX.mp nd).2 (by simpa using h1) (by simpa using h2) hk
def kD(N:List Str)(vs:List V):St:=vs.map oZ++OE (N.length-vs.length) none
def wQ(CX:Jb)(P:VQ)(w:VU)(K:W.Frag)(mg:Str->Option oA)(base:oE)(N:List Str)(qual:Str)(scope:XC)(f:VN)(cd:oA)(A:oD)(outer:List Env)(s:oB)(H:Hp)(E:XK):Cx where
 prog:=P
 w:=w
 K:=K
 mg:=mg
 base:=base
 A:=A.deeper (WU qual scope s.heap.objs.size f cd)
 N:=N
 s₀:=s
 H₀:=H
 env:=WU qual scope s.heap.objs.size f cd
 outer:=outer
 stack:=WU qual scope s.heap.objs.size f cd::outer
 ex:=[]
 calm:=true
 fn:=λ_=>true
 pn:=[]
 xe:=λe s'=>VP (VR P w) (A.deeper (WU qual scope s.heap.objs.size f cd)) (leaving (WU qual scope s.heap.objs.size f cd) e) (λ_ vw=>CX outer H s E e vw) (λe' vw=>CX outer H s E e' vw) s'
theorem Fj{sc:XC}(h:sc.names.lookup x=oZ .cell):∃c,(cellsFrom n sc.names []).lookup x=oZ c:=by
 have q:=W.cellsFrom_some sc.names n [] (.inl h);exact UJ.mp q
theorem Rf{CX:Jb}{P:VQ}{w:VU}{K:W.Frag}{mg:Str->Option oA}{base:oE}{N ps:List Str}{qual:Str}{scope:XC}{f:VN}{cd:oA}{A:oD}{outer:List Env}{s s1:oB}{H:Hp}{E:XK}{us:List oA}{vs:List V}
  (S:aF N ps scope) (hd:A.handled=none) (e0:Sz P w K mg base A outer s H) (hl:vs.length=ps.length) (r:bA vs us)
  (x:InCallC s s.heap.objs.size (bindL (WU qual scope s.heap.objs.size f cd).kindOf (ps.zip us) λ_=>none) (cellsFrom (s.heap.objs.size+1) scope.names []) (bindC (WU qual scope s.heap.objs.size f cd).kindOf (ps.zip us) λ_=>none) s1) :
  aU (wQ CX P w K mg base N qual scope f cd A outer s H E) [] (kD N vs) H s1:=by
 have uq:ps.length<=N.length:=by have:=congrArg List.length S.pre;rw[PM]at this;lia
 obtain⟨h1,tk,rfl,hk⟩:=x.done;have yv:∀b:VN,b∉(wQ CX P w K mg base N qual scope f cd A outer s H E).ex:=λb z=>absurd (show b∈([]:List VN)from z) (by simp);refine⟨⟨e0.mod,S.kind,rfl,rfl,OF _,λy z c h1 h2=>?_,λy hy=>?_,λy c _ h=>?_,λ_=>hd,Around.frames_deeper e0.frames,.inr ⟨rfl,rfl⟩,λb z=>absurd z (yv b),e0.bs,e0.bsz,λb _ _=>yv b,λb z=>absurd z (yv b),e0.funs,e0.frf⟩,
  rfl,e0.bare,Un.kept hk,⟨_,x.toInCall.ns,λi y v h1 h2 h3=>?_⟩,λy c h=>⟨_,x.cell y c h⟩,e0.hok.fresh (OF _),λy c h=>?_,λp hp=>absurd (show p∈([]:List (VN×Obj))from hp) (by simp),e0.hok.kept hk,?_⟩
 ·exact name_of_addr x.apart (PySem.mem_of_lookup h1) (PySem.mem_of_lookup h2)
 ·have hy:scope.names.lookup y=oZ .cell\/scope.names.lookup y=oZ .free:=hy;obtain hy|hy:=hy
  ·exact Fj hy
  ·exact absurd rfl (S.nofree _ (PySem.mem_of_lookup hy))
 ·exact PK (x.above y c (PySem.mem_of_lookup h))
 ·have hi:i<vs.length:=by
   unfold kD at h2
   by_cases hi:i<vs.length
   ·exact hi
   ·rw[OX (by simpa using hi)]at h2;rw[SD]at h2;split at h2<;>cases h2
  have ha:vs[i]?=oZ v:=by
   unfold kD at h2;rw[OO (by simpa using hi),NY]at h2;cases e:vs[i]? with
   |none=>rw[e]at h2;cases h2
   |some a=>rw[e]at h2;cases h2;rfl
  obtain⟨u,hu,rv⟩:=r.get ha;have hp:ps[i]?=oZ y:=by
   rw[<-S.pre,QR ⋯];exact h1
  have ndP:ps.Nodup:=by rw[<-S.pre];exact S.nd.sublist (List.take_sublist _ _)
  refine⟨u,rv,?_⟩;obtain k|k:=S.par y (NX hp)
  ·exact .inl ⟨k,zS ndP hp hu k⟩
  ·obtain⟨c,e⟩:=Fj (n:=s.heap.objs.size+1) k;refine .inr ⟨.inl k,c,e,?_⟩;have q:=x.cell y c e;rw[zP ndP hp hu (by show scope.names.lookup y≠_;rw[k];decide)]at q;exact q
 ·exact e0.hok.fresh (PK (x.above y c (PySem.mem_of_lookup h)))
 ·unfold kD;show _=N.length;rw[OB,OD,RQ]
  lia
theorem EZ{CX:Jb}{P:VQ}{w:VU}{K:W.Frag}{mg:Str->Option oA}{base:oE}{k:Nat}{f:VN}{name qual:Str}{params:Arguments}{body:List VS}{scope:XC}{dV kV doc pm YZ ct oc:oA}{an od:Option VN}
  {ur:Array (Option oA)} {N ps:List Str} {sp:Sp} (lk:K.lookup f=oZ ⟨oc,od,.func (W.fnOf name qual params body scope dV kV doc pm an YZ ct),ur⟩) (ja:W.codeIn K YZ qual=true) (S:aF N ps scope)
  (len:∀vs H Q E,sp vs H Q E->vs.length=ps.length)
  (ky:∀(A:oD)(outer:List Env)(s:oB)(H:Hp)(vs:List V)(Q:VK)(E:XK),dD k (A.deeper (WU qual scope s.heap.objs.size f YZ))->sp vs H Q E->
   ∃t,Mj (wQ CX P w K mg base N qual scope f YZ A outer s H E) body t/\t { nx:=λ_ H'=>Q .non H',rt:=Q } (kD N vs) H) :
  aT P w K mg base CX (k+1) f (W.fnOf name qual params body scope dV kV doc pm an YZ ct) ps sp:=by
 refine⟨len,λA outer s H args us vs Q E hr e0 hb r uw=>?_⟩;have hl:=len _ _ _ _ uw;have KX:K.In s.heap:=e0.mod.kin.keeps λb o e=>(e0.bs b o e).1;have lim:s.heap.NoLimit:=e0.mod.nolimit.keeps λb o e=>(e0.bs b o e).1;have yw:∀y∈ps.zip us,scope.names.lookup y.1=oZ .local\/(scope.names.lookup y.1=oZ .cell/\((cellsFrom (s.heap.objs.size+1) scope.names []).lookup y.1).isSome=true):=λzZ hy=>by
  obtain⟨n,v⟩:=zZ;obtain q|q:=S.par n (UY hy).1
  ·exact .inl q
  ·exact .inr ⟨q,W.cellsFrom_some _ _ _ (.inl q)⟩
 refine codeAny_call_function hr.depth (KX _ _ lk) rfl S.co S.gen rfl (W.codeRec_of KX ja) (hb _ _ _ _ ?_);refine wpAny_newFunctionEnv_cells S.kind yw λenv he s1 x=>?_;subst he;refine⟨lim.keeps x.toInCall.keep,codeAny_func ?_⟩;obtain⟨t,ht,hq⟩:=ky A outer s H vs Q E (hr.deeper _) uw;have I:aU (wQ CX P w K mg base N qual scope f YZ A outer s H E) [] (kD N vs) H s1:=Rf S hr.hd e0 hl r x;refine WM (ht [] s1 (kD N vs) H _ I hq) (λfl s' hs=>?_) λe s' hs=>hs;have fin:∀{σ':St}{H':Hp}{v:V}{u:oA},aU (wQ CX P w K mg base N qual scope f YZ A outer s H E) [] σ' H' s'->bN v u->Q v H'->CE outer P w H s Q u s':=
  λ{σ' H' v u}J rv q=>⟨v,H',J.os,J.bare,J.base,J.hok,rv,q⟩
 cases fl with
 |ret u=>
  obtain⟨v,σ',H',J,rv,q⟩:=hs;exact fin J rv q
 |next=>
  obtain⟨σ',H',J,q⟩:=hs;exact fin (v:=V.non) (u:=SY) J rfl q
 |brk=>
  obtain⟨_,_,_,q⟩:=hs;exact False.elim q
 |cont=>
  obtain⟨_,_,_,q⟩:=hs;exact False.elim q
section
variable{X:Cx}{x:Str}{p pos:Pos}{e:oC}{es:List oC}{t:TA}{id T:String}{r:List V->Hp->VK->Prop}
def DM(r:List V->Hp->VK->Prop)(t:TA):TE:=λσ H Q=>t σ H λvs H1=>r vs H1 Q
theorem Wo(hc:jR X (.builtin id) r)(hg:Gl X x)(hm:X.mg x=none)(hv:WL x=oZ (.builtin id))(ha:PA X (e::es) t)(hn:x≠"__name__":=by decide)(cg:(x==("__debug__":Str))=false:=by decide)(he:VZ (e::es) X.env=(false,VY e X.env)::VZ es X.env:=by rfl)(uq:(XG pos (VZ es X.env)).any (·.1)=false:=by rfl):PE X (.Call (.Name x p) (e::es) [] pos) (DM r t):=by
 intro pins s σ H Q I h;refine XR (qO I hg hm hv ?_ hn cg);exact PyProof.Rows.callWith_builtin1 (dQ (ha pos pins s σ H _ I h) λus s1 zZ=>by obtain⟨vs,H1,I1,r1,q1⟩:=zZ;exact hc pins s1 σ H1 vs us Q I1 r1 q1) he uq
theorem Rz(hc:jR X (.type T) r)(hg:Gl X x)(hm:X.mg x=none)(hv:WL x=oZ (.type T))(ha:PA X (e::es) t)(hn:x≠"__name__":=by decide)(cg:(x==("__debug__":Str))=false:=by decide)(he:VZ (e::es) X.env=(false,VY e X.env)::VZ es X.env:=by rfl)(uq:(XG pos (VZ es X.env)).any (·.1)=false:=by rfl):PE X (.Call (.Name x p) (e::es) [] pos) (DM r t):=by
 intro pins s σ H Q I h;refine XR (qO I hg hm hv ?_ hn cg);exact PyProof.Rows.callWith_type1 (dQ (ha pos pins s σ H _ I h) λus s1 zZ=>by obtain⟨vs,H1,I1,r1,q1⟩:=zZ;exact hc pins s1 σ H1 vs us Q I1 r1 q1) he uq
end
end L2
namespace HT
open PySem PyProof.Rows
section
open PySem.SeqAt
open PySem.AutoSeq1 (wpAny_loadPart')
open PySem.MeetsSeq PySem.MeetsSeq2 PySem.MeetsSeq3
end
theorem cat_tup{E:oA->oB->Prop}{Q:oA->oB->Prop}(ht:IsTup s.heap t vs.toArray)(hb:IsTup s.heap b ws.toArray)(hv:vs≠[])(h1:ws=[]->Q (.ref t) s)(h2:ws≠[]->Q (.ref s.heap.objs.size) { s with heap:=s.heap.push { cls:=.type "tuple",data:=.seq (vs++ws).toArray } })(hsz:vs.length+ws.length<=VW):VP (VR prog w) A (WG .Add (.ref t) (.ref b)) Q E s:=by
 obtain⟨⟨cls,dd,data,sl⟩,ho,hc,n,hd⟩:=id ht;obtain⟨⟨aFK,dd2,data2,sl2⟩,ho2,xx,n2,hd2⟩:=id hb;simp only at hc hd xx hd2;subst hc hd xx hd2;have e:vs.toArray++ws.toArray=(vs++ws).toArray:=by simp
 by_cases hw:ws=[]
 ·exact concat_meets ⟨_,ho,rfl⟩ ⟨_,ho2,rfl⟩ noFill_tuple_add seq_tuple_add PySem.F.slot_tuple_add PySem.F.entry_tuple_add (PySem.F.args_tuple_add_2 _ _)
   (tuple_addW1 t b vs.toArray ws.toArray n n2 dd dd2 sl sl2 (by simpa using hv) (by simp[hw])) ⟨ho,ho2,h1 hw⟩
 ·refine concat_meets ⟨_,ho,rfl⟩ ⟨_,ho2,rfl⟩ noFill_tuple_add seq_tuple_add PySem.F.slot_tuple_add PySem.F.entry_tuple_add (PySem.F.args_tuple_add_2 _ _)
   (tuple_addW2 t b vs.toArray ws.toArray n n2 dd dd2 sl sl2 (by simpa using hv) (by simpa using hw) (by rw[OJ,OJ];exact hsz)) ⟨ho,ho2,?_⟩
  rw[e];exact h2 hw
def sIx(n d:Nat):Option Int->Nat
 |none=>d
 |some v=>if v<0 then(v+(n:Int)).toNat else min v.toNat n
theorem sIx_none(n d:Nat):sIx n d none=d:=rfl
theorem sIx_nat(n d k:Nat):sIx n d (oZ (k:Int))=min k n:=by
 show(if(k:Int)<0 then((k:Int)+(n:Int)).toNat else min (k:Int).toNat n)=min k n;rw[oW ⋯,PR]
theorem CP(n d:Nat)(hd:d<=n)(o:Option Int):sIx n d o<=n:=by
 cases o with
 |none=>exact hd
 |some v=>
  show(if v<0 then(v+(n:Int)).toNat else min v.toNat n)<=n
  by_cases hv:v<0
  ·rw[oV hv];lia
  ·rw[oW hv];exact Nat.min_le_right _ _
theorem Mq(v:Int)(n d:Nat):(if v<0 then max (v+(n:Int)) 0 else min v (n:Int))=((sIx n d (oZ v):Nat):Int):=by
 show(if v<0 then max (v+(n:Int)) 0 else min v (n:Int))=(((if v<0 then(v+(n:Int)).toNat else min v.toNat n):Nat):Int)
 by_cases hv:v<0
 ·simp only[oV hv];lia
 ·simp only[oW hv];lia
theorem Ji(lo hi:Option Int)(n:Nat):Builtin.Slice.sliceAdjust lo hi 1 (n:Int)=(((sIx n 0 lo:Nat):Int),((sIx n n hi:Nat):Int)):=by
 have h1:¬((1:Int)<0):=⋯
 unfold Builtin.Slice.sliceAdjust;simp only[h1,if_false];refine Prod.ext ?_ ?_
 ·cases lo with
  |none=>rfl
  |some v=>exact Mq v n 0
 ·cases hi with
  |none=>rfl
  |some v=>exact Mq v n n
theorem Kz(i j:Nat):Builtin.Slice.slicePlaces (i:Int) (j:Int) 1=j-i:=by
 unfold Builtin.Slice.slicePlaces;have h1:(1:Int)>0:=⋯
 simp only[h1,if_true,Int.ediv_one]
 split<;>lia
theorem yI{E:oA->oB->Prop}{o:Option Int}{Q:Option Int->oB->Prop}(p:IsPart v o)(h:Q o s):VP (VR prog w) A (Builtin.Slice.slicePartIndex v) Q E s:=by
 cases p with
 |none=>exact slicePart_none h
 |int i t=>exact slicePart_int h
theorem uF{E:oA->oB->Prop}{lo hi:Option Int}{Q:Int×Int×Nat->oB->Prop}(hs:s.heap.IsSliceOf sl vl vu .none)(pl:IsPart vl lo)(pu:IsPart vu hi)(h:Q (((sIx n 0 lo:Nat):Int),1,sIx n n hi-sIx n 0 lo) s):VP (VR prog w) A (Builtin.Slice.sliceApplied (.ref sl) (pure (n:Int))) Q E s:=by
 obtain⟨os,yx,hcs,hds⟩:=id hs;unfold Builtin.Slice.sliceApplied Builtin.Slice.sliceFields;refine VO (VO (WK yx hds (x:=vl) rfl (VO (WK yx hds (x:=vu) rfl (VO (WK yx hds (x:=.none) rfl (VV ?_)))))));refine VO (slicePart_none ?_);show VP _ _ (if((1:Int)==0)=true then _ else _) _ _ s;rw[oW ∅];refine VO (yI pl (VO (yI pu (VO (VV ?_)))));show VP _ _ (match Builtin.Slice.sliceAdjust lo hi 1 (n:Int)with|(lo,hi)=>pure (lo,(1:Int),Builtin.Slice.slicePlaces lo hi 1)) _ _ s;rw[Ji lo hi n];show VP _ _ (pure (((sIx n 0 lo:Nat):Int),(1:Int),Builtin.Slice.slicePlaces ((sIx n 0 lo:Nat):Int) ((sIx n n hi:Nat):Int) 1)) _ _ s;rw[Kz];exact VV h
theorem Ww(xs:Array oA)(i k:Nat):((OQ k).filterMap λ(m:Nat)=>xs[((i:Int)+(m:Int)*1).toNat]?).toArray=((xs.toList.drop i).take k).toArray:=by
 have e:(λ(m:Nat)=>xs[((i:Int)+(m:Int)*1).toNat]?)=λm=>xs[i+m]?:=by
  funext m
  have:((i:Int)+(m:Int)*1).toNat=i+m:=⋯
  rw[this]
 rw[e];have:=pick_run xs i k;rw[List.filterMap_map]at this;have e2:((λx=>xs[x]?)∘λx=>i+x)=λm=>xs[i+m]?:=rfl;rw[e2]at this;rw[this]
theorem getItem_tuple_cut{E:oA->oB->Prop}{lo hi:Option Int}{Q:oA->oB->Prop}(ht:IsTup s.heap t items)(hs:s.heap.IsSliceOf sl vl vu .none)(pl:IsPart vl lo)(pu:IsPart vu hi)(hw:¬(sIx items.size 0 lo=0/\sIx items.size items.size hi=items.size))(h:Q (.ref s.heap.objs.size) { s with heap:=s.heap.push { cls:=.type "tuple",data:=.seq ((items.toList.drop (sIx items.size 0 lo)).take (sIx items.size items.size hi-sIx items.size 0 lo)).toArray } })(hsz:items.size<=VW):VP (VR prog w) A (XA (.ref t) (.ref sl)) Q E s:=by
 have oq:sizeOk (.seq ((items.toList.drop (sIx items.size 0 lo)).take (sIx items.size items.size hi-sIx items.size 0 lo)).toArray):=by
  show((items.toList.drop (sIx items.size 0 lo)).take (sIx items.size items.size hi-sIx items.size 0 lo)).toArray.size<=VW;rw[OJ,PM,RC,UA];omega
 have hj:sIx items.size items.size hi<=items.size:=CP _ _ (OF _) hi;obtain⟨os,yx,hcs,hds⟩:=id hs;have hTs:s.TypeIs (.ref sl) "slice":=⟨os,yx,hcs⟩;unfold XA
 try with_reducible refine WR ?_
 first|refine VO (VV ?_)|skip
 refine VO (wpAny_sequenceKey ht.typeIs ∅ ?_);refine VO (wpAny_callSpecial?_slot (name:=OW "__getitem__") ht.typeIs PyProof.Rows.slot_tuple_getitem
  (WW PyProof.Rows.slot_tuple_getitem ht.typeIs entry_tuple_getitem ?_ (args_tuple_getitem _ _)))
 show VP _ _ (Builtin.Tuple.tupleItemsOf (.ref t) >>= _) _ _ s;refine VO (tupleItemsOf_ ht ?_);refine VO (wpAny_typeOf hTs ?_);rw[oV ∅];refine VO (uF hs pl pu ?_);have hno:¬((((sIx items.size 0 lo:Nat):Int)==0&&(1:Int)==1&&(sIx items.size items.size hi-sIx items.size 0 lo)==items.size)=true):=by
  intro q;rw[PF,PF]at q;have q1:((sIx items.size 0 lo:Nat):Int)=0:=eq_of_beq q.1.1;have q2:sIx items.size items.size hi-sIx items.size 0 lo=items.size:=eq_of_beq q.2;exact hw ⟨by omega,by omega⟩
 show VP _ _ (if(((sIx items.size 0 lo:Nat):Int)==0&&(1:Int)==1&&(sIx items.size items.size hi-sIx items.size 0 lo)==items.size)=true then _ else _) _ _ s;rw[oW hno,Ww]
 first
  |exact VO (m:=Builtin.Tuple.tupleExact _) (WI (VV ⟨_,rfl,VV h⟩) oq)
  |exact VO (m:=Builtin.Tuple.tupleExact _) (WI (VO (VV (VV ⟨_,rfl,VV h⟩))) oq)
  |exact VO (VO (m:=Builtin.Tuple.tupleExact _) (WI (VV (VV ⟨_,rfl,VV h⟩)) oq))
  |exact VO (VO (m:=Builtin.Tuple.tupleExact _) (WI (VV ⟨_,rfl,VV h⟩) oq))
end HT
namespace L2
open PySem PySem.Spec PyProof.Rows
abbrev TO:=St->Hp->(Option Int->Hp->Prop)->Prop
def PO(X:Cx)(e:Option oC)(t:TO):Prop:=
 ∀(pins:List (VN×Obj))(s:oB)(σ:St)(H:Hp)(Q:Option Int->Hp->Prop),aU X pins σ H s->t σ H Q->
  VP (VR X.prog X.w) X.A (evalPart e X.env) (λu s'=>∃o H',aU X pins σ H' s'/\IsPart u o/\Q o H') X.xe s
def Pl:TO:=λ_ H Q=>Q none H
def U4(t:TE):TO:=λσ H Q=>t σ H λx H1=>∃i,x = .int i/\Q (oZ i) H1
section
variable{X:Cx}{e:oC}{te:TE}{lo hi:Option oC}{tl th:TO}{pos p2:Pos}
theorem K6:PO X none Pl:=by
 intro pins s σ H Q I h;rw[evalPart_none];exact VV ⟨none,H,I,.none,h⟩
theorem K7(h:PE X e te):PO X (oZ e) (U4 te):=by
 intro pins s σ H Q I hw;rw[evalPart_some];refine dQ (h pins s σ H _ I hw) λu s1 zZ=>?_;obtain⟨x,H1,I1,r1,q1⟩:=zZ;obtain⟨i,rfl,q⟩:=q1;obtain⟨t,rfl⟩:=r1;exact⟨oZ i,H1,I1,.int i t,q⟩
def JI(X:Cx)(r:V->Option Int->Option Int->Hp->VK->Prop):Prop:=
 ∀(pins:List (VN×Obj))(s:oB)(σ:St)(H:Hp)(x:V)(v vl vu:oA)(lo hi:Option Int)(sl:VN)(Q:VK),aU X pins σ H s->bN x v->s.heap.IsSliceOf sl vl vu .none->IsPart vl lo->IsPart vu hi->r x lo hi H Q->
  ∃T id,typeLookup (.type T) "__getitem__" = pure (oZ (.builtin id))/\s.TypeIs v T/\VP (VR X.prog X.w) X.A (XA v (.ref sl)) (EP X pins σ Q) X.xe s
def MX(r:V->Option Int->Option Int->Hp->VK->Prop)(te:TE)(tl th:TO):TE:=λσ H Q=>te σ H λx H1=>tl σ H1 λl H2=>th σ H2 λu H3=>r x l u H3 Q
theorem Wt{r:V->Option Int->Option Int->Hp->VK->Prop}(hr:JI X r)(he:PE X e te)(hl:PO X lo tl)(hu:PO X hi th):PE X (.Subscript e (.Slice lo hi none p2) pos) (MX r te tl th):=by
 intro pins s σ H Q I h;refine Subscript_ (dQ (he pins s σ H _ I h) λv s1 zZ=>?_);obtain⟨x,H1,I1,r1,q1⟩:=zZ;refine wpAny_Slice (dQ (hl pins s1 σ H1 _ I1 q1) λvl s2⟨l,H2,I2,pl,q2⟩=>dQ (hu pins s2 σ H2 _ I2 q2) λvu s3 zZ=>?_);obtain⟨u,H3,I3,pu,q3⟩:=zZ;rw[evalPart_none];refine VV ?_;have I4:aU X pins σ H3 { s3 with heap:=s3.heap.push { cls:=.type "slice",data:=.fields #[vl,vu,.none] } }:=I3.kept (t':=s3.toks) λb ob q=>OA _ q;obtain⟨T,id,hT,ht,hg⟩:=hr pins { s3 with heap:=s3.heap.push { cls:=.type "slice",data:=.fields #[vl,vu,.none] } } σ H3 x v vl vu l u s3.heap.objs.size Q I4 r1 (Heap.IsSliceOf.new ..) pl pu q3;show VP (VR X.prog X.w) X.A (subscriptTail e (.Slice lo hi none p2) v (.ref s3.heap.objs.size)) (EP X pins σ Q) X.xe { s3 with heap:=s3.heap.push { cls:=.type "slice",data:=.fields #[vl,vu,.none] } };exact tail_any (ops:=[.ref s3.heap.objs.size,v]) ht hT hg (by with_unfolding_all rfl)
def Fz(xs:List V)(lo hi:Option Int):List V:=(xs.drop (HT.sIx xs.length 0 lo)).take (HT.sIx xs.length xs.length hi-HT.sIx xs.length 0 lo)
theorem uL(xs:List V)(lo hi:Option Int):(Fz xs lo hi).length<=xs.length:=by
 unfold Fz;rw[PM,RC]
 lia
def LQ(K:W.Frag):V->Option Int->Option Int->Hp->VK->Prop:=λx lo hi H Q=>∃a xs,x = .ref a/\yS K H a xs/\
 ¬(HT.sIx xs.length 0 lo=0/\HT.sIx xs.length xs.length hi=xs.length)/\∀p,H p=none->Q (.ref p) (upd H p (.tup (Fz xs lo hi)))
theorem CU:JI X (LQ X.K):=by
 intro pins s σ H x v vl vu lo hi sl Q I rx hs pl pu h;obtain⟨a,xs,rfl,hx,hw,q⟩:=h;cases rx;obtain⟨XX,r,ht,hz⟩:=I.tuple hx;have hlen:XX.toArray.size=xs.length:=by rw[OJ];exact r.length.symm
 refine⟨"tuple",_,PyProof.Rows.slot_tuple_getitem.lookup,ht.typeIs,?_⟩;refine HT.getItem_tuple_cut ht hs pl pu (by rw[hlen];exact hw) ?_ (by rw[hlen];exact hz);rw[hlen];refine⟨.ref s.heap.objs.size,_,I.laid (t':=s.toks) (o:=.tup (Fz xs lo hi)) (λb ob q=>OA _ q) (OF _) ?_,rfl,q _ (I.hok.fresh (OF _))⟩;exact⟨PQ (uL xs lo hi) hz,_,(r.drop (HT.sIx xs.length 0 lo)).take (HT.sIx xs.length xs.length hi-HT.sIx xs.length 0 lo),IsTup.new _ _⟩
def GV(K:W.Frag):R2:=λx y H Q=>∃a b xs ys,x = .ref a/\y = .ref b/\yS K H a xs/\yS K H b ys/\xs≠[]/\xs.length+ys.length<=VW/\
 (ys=[]->Q (.ref a) H)/\(ys≠[]->∀p,H p=none->Q (.ref p) (upd H p (.tup (xs++ys))))
theorem bA.nil_iff(r:bA xs us):us=[]↔xs=[]:=by
 cases r with
 |nil=>simp
 |cons _ _=>simp
theorem J2:m4 X (WG .Add) (GV X.K):=by
 intro pins s σ H x y v u Q I rx ry h;obtain⟨a,b,xs,ys,rfl,rfl,ha,hb,hx,hz,q1,q2⟩:=h;cases rx;cases ry;obtain⟨XX,r1,p1,_⟩:=I.tuple ha;obtain⟨kz,r2,p2,_⟩:=I.tuple hb;refine HT.cat_tup p1 p2 (λz=>hx (r1.nil_iff.mp z)) (λz=>⟨.ref a,H,I,rfl,q1 (r2.nil_iff.mp z)⟩) (λz=>?_) (by rw[<-r1.length,<-r2.length];exact hz);refine⟨.ref s.heap.objs.size,_,I.laid (t':=s.toks) (o:=.tup (xs++ys)) (λb ob q=>OA _ q) (OF _) ?_,rfl,q2 (λw=>z (r2.nil_iff.mpr w)) _ (I.hok.fresh (OF _))⟩;exact⟨by rw[OB];exact hz,_,r1.append r2,IsTup.new _ _⟩
end
def Nk(n:Nat)(i:Int):Option Nat:=if 0<=i then(if i<n then oZ i.toNat else none)else if -(n:Int)<=i then oZ (i+n).toNat else none
def eZ{α:Type}(xs:List α)(i:Int):Option α:=(Nk xs.length i).bind λj=>xs[j]?
theorem Nl{i:Int}(h:Nk n i=oZ j):seqIndex? i n=oZ j/\j<n/\-(n:Int)<=i/\i<n:=by
 unfold Nk at h
 by_cases h0:0<=i
 ·rw[oV h0]at h
  by_cases h1:i<n
  ·rw[oV h1]at h;have e:i.toNat=j:=Option.some.inj h;exact⟨by rw[seqIndex_of h0 h1,e],⋯,⋯,h1⟩
  ·rw[oW h1]at h;cases h
 ·rw[oW h0]at h
  by_cases h1:-(n:Int)<=i
  ·rw[oV h1]at h;have e:(i+n).toNat=j:=Option.some.inj h;exact⟨by rw[seqIndex_neg ⋯ h1,e],⋯,h1,⋯⟩
  ·rw[oW h1]at h;cases h
theorem Bj{α:Type}{xs:List α}{i:Int}{v:α}(h:eZ xs i=oZ v):∃j,seqIndex? i xs.length=oZ j/\xs[j]?=oZ v/\j<xs.length/\-(xs.length:Int)<=i/\i<xs.length:=by
 unfold eZ at h;cases e:Nk xs.length i with
 |none=>rw[e]at h;cases h
 |some j=>
  rw[e]at h;obtain⟨h1,h2,h3,h4⟩:=Nl e;exact⟨j,h1,h,h2,h3,h4⟩
theorem iO{α:Type}{xs:List α}{j:Nat}{v:α}(h:xs[j]?=oZ v):eZ xs (j:Int)=oZ v:=by
 have hj:j<xs.length:=(NV.mp h).1;have e:Nk xs.length (j:Int)=oZ j:=by
  unfold Nk;rw[oV ⋯,oV ⋯];simp
 unfold eZ;rw[e];exact h
def vC(b:oC):Prop:=∀o i,XH b false o i=operate [o,i] (XA o i)
def Zs(X:Cx)(r:R2):Prop:=
 ∀(value slice:oC)(pins:List (VN×Obj))(s:oB)(σ:St)(H:Hp)(x y:V)(v u:oA)(Q:VK),aU X pins σ H s->bN x v->bN y u->r x y H Q->
  XH slice false v u=operate [v,u] (XA v u)->VP (VR X.prog X.w) X.A (subscriptTail value slice v u) (EP X pins σ Q) X.xe s
def DI(X:Cx)(id:String)(r:V->List V->Hp->VK->Prop):Prop:=
 ∀(pins:List (VN×Obj))(s:oB)(σ:St)(H:Hp)(x:V)(xs:List V)(v:oA)(us:List oA)(Q:VK),aU X pins σ H s->bN x v->bA xs us->r x xs H Q->
  VP (VR X.prog X.w) X.A (call (.builtin id) (v::us)) (EP X pins σ Q) X.xe s
section
variable{X:Cx}{a b:oC}{ta tb:TE}{pos:Pos}
theorem Zs.or(h:Zs X r)(h':Zs X r'):Zs X (λx y H Q=>r x y H Q\/r' x y H Q):=by
 intro value slice pins s σ H x y v u Q I rx ry q hs;obtain q|q:=q
 ·exact h value slice pins s σ H x y v u Q I rx ry q hs
 ·exact h' value slice pins s σ H x y v u Q I rx ry q hs
theorem GF(hr:Zs X r)(ha:PE X a ta)(hb:PE X b tb)(hs:vC b):PE X (.Subscript a b pos) (Yu r ta tb):=by
 intro pins s σ H Q I h;exact Subscript_ (W4 ha hb I h λv u s2 x y H2 I2 rx ry q=>hr a b pins s2 σ H2 x y v u Q I2 rx ry q (hs _ _))
def GW(K:W.Frag):R2:=λx y H Q=>∃p xs i v,x = .ref p/\y = .int i/\lZ K H p xs/\eZ xs i=oZ v/\Q v H
def GY(K:W.Frag):R2:=λx y H Q=>∃p xs i v,x = .ref p/\y = .int i/\yS K H p xs/\eZ xs i=oZ v/\Q v H
def GX:R2:=λx y H Q=>∃z i c,x = .str z/\y = .int i/\z.length<=VW/\eZ z.cps.toList i=oZ c/\Q (.str ⟨#[c]⟩) H
theorem F8:Zs X (GW X.K):=by
 intro value slice pins s σ H x y v u Q I rx ry h hs;obtain⟨p,xs,i,z,rfl,rfl,hq,he,q⟩:=h;cases rx;obtain⟨t,rfl⟩:=ry;obtain⟨XX,r,pl,hz⟩:=I.list hq;obtain⟨j,h1,h2,h3,h4,h5⟩:=Bj he;obtain⟨w,ew,mr⟩:=r.get h2;have hl:=r.length;have hn:=xA;have fin:EP X pins σ Q w s:=⟨z,H,I,mr,q⟩
 by_cases h0:0<=i
 ·have hj:i.toNat=j:=by
   rw[seqIndex_of h0 h5]at h1;exact Option.some.inj h1
  exact item_listR pl.isList h0 ⋯ (by rw[hj];simpa using ew) fin hs
 ·have hj:(i+(XX.toArray.size:Int)).toNat=j:=by
   rw[seqIndex_neg ⋯ h4]at h1;rw[OJ,<-hl];exact Option.some.inj h1
  exact subscriptTail_builtinR (x:=w) pl.isList.typeIs slot_list_getitem.lookup
   (wpAny_getItem_list_neg (Q:=λr s'=>r=w/\EP X pins σ Q r s') pl.isList ⋯ (by rw[OJ]<;>lia) ⋯ (by rw[hj];simpa using ew) ⟨rfl,fin⟩) hs
theorem AA:Zs X (GY X.K):=by
 intro value slice pins s σ H x y v u Q I rx ry h hs;obtain⟨p,xs,i,z,rfl,rfl,hq,he,q⟩:=h;cases rx;obtain⟨t,rfl⟩:=ry;obtain⟨XX,r,pl,hz⟩:=I.tuple hq;obtain⟨j,h1,h2,h3,h4,h5⟩:=Bj he;obtain⟨w,ew,mr⟩:=r.get h2;have hl:=r.length;have hn:=xA;have fin:EP X pins σ Q w s:=⟨z,H,I,mr,q⟩;exact subscriptTail_builtinR (x:=w) pl.typeIs slot_tuple_getitem.lookup
  (getItem_tuple (j:=j) (Q:=λr s'=>r=w/\EP X pins σ Q r s') pl ⋯ ⋯ (by rw[OJ,<-hl];exact h1) (by simpa using ew) ⟨rfl,fin⟩) hs
theorem Z9:Zs X GX:=by
 intro value slice pins s σ H x y v u Q I rx ry h hs;obtain⟨z,i,c,rfl,rfl,hz,he,q⟩:=h;obtain⟨t,rfl⟩:=rx;obtain⟨t',rfl⟩:=ry;obtain⟨j,h1,h2,h3,h4,h5⟩:=Bj he;have hl:z.cps.toList.length=z.length:=by simp[Str.length]
 rw[hl]at h1 h4 h5;have hn:=xA;exact tail_any (typeIs_str s z t) slot_str_getitem.lookup (getItem_str (c:=c) (by
  have e1:decide (i < -(2^63:Int))=false:=oX ⋯;have e2:decide (i>=2^63)=false:=oX ⋯;rw[e1,e2,Bool.or_false]) (by rw[h1];simpa using h2) ⟨.str ⟨#[c]⟩,H,I.tok _,⟨_,rfl⟩,q⟩) hs
def NQ(K:W.Frag):R2:=λx y H Q=>GW K x y H Q\/GY K x y H Q\/GX x y H Q
theorem Z8:Zs X (NQ X.K):=F8.or (AA.or Z9)
theorem Kd(XX:List oA)(n j:Nat)(u:oA):SF (·.setIfInBounds j u) { cls:=.type "list",data:=.seq XX.toArray n } = { cls:=.type "list",data:=.seq (XX.set j u).toArray n }:=by
 simp[SF]
theorem aU.lst(I:aU X pins σ H s)(h:H p=oZ (.lst xs)):
  ∃(XX:List oA)(n:Nat),bA xs XX/\s.heap.get? p=oZ { cls:=.type "list",data:=.seq XX.toArray n }/\xs.length<=VW:=by
 obtain⟨z,XX,n,r,e⟩:=I.hok p _ h;exact⟨XX,n,r,e,z⟩
theorem aU.lstUpd{H:Hp}{s:oB}{ys:List V}{XX its':List oA}{f:Obj->Obj}(I:aU X pins σ H s)(h:H p=oZ (.lst xs))(ho:s.heap.get? p=oZ { cls:=.type "list",data:=.seq XX.toArray n })(hf:f { cls:=.type "list",data:=.seq XX.toArray n } = { cls:=.type "list",data:=.seq its'.toArray n' })(r:bA ys its')(hz:ys.length<=VW)(t:Nat):
  aU X pins σ (upd H p (.lst ys)) { s with heap:=s.heap.update p f,toks:=t }:=by
 have e:(s.heap.update p f).get? p=oZ { cls:=.type "list",data:=.seq its'.toArray n' }:=by
  rw[TN f ho (by rw[hf]<;>rfl),hf]
 refine I.write (x:=p) (e:=p) (by rw[h];trivial) (.inl rfl) (λb u hb q=>(VC _ _ (Ne.symm hb)).trans q) ⟨_,e⟩ ?_;exact⟨hz,its',n',r,e⟩
def GZ:V->V->V->Hp->(Hp->Prop)->Prop:=λo i v H Q=>∃p xs k j,o = .ref p/\i = .int k/\H p=oZ (.lst xs)/\Nk xs.length k=oZ j/\Q (upd H p (.lst (xs.set j v)))
theorem Ye:V7 X GZ:=by
 intro pins s σ H o i v ov iv u Q I ro ri rv h;obtain⟨p,xs,k,j,rfl,rfl,hp,hj,q⟩:=h;cases ro;obtain⟨t,rfl⟩:=ri;obtain⟨XX,n,r,ho,hz⟩:=I.lst hp;obtain⟨h1,h2,h3,h4⟩:=Nl hj;have hl:=r.length;have hn:=xA;have I':aU X pins σ (upd H p (.lst (xs.set j v))) { s with heap:=s.heap.update p (SF (·.setIfInBounds j u)) }:=
  I.lstUpd hp ho (Kd XX n j u) (r.set rv j) (by rw[TR];exact hz) s.toks
 by_cases h0:0<=k
 ·have hk:k.toNat=j:=by
   rw[seqIndex_of h0 h4]at h1;exact Option.some.inj h1
  exact W.ki_setAt ho h0 ⋯ (by rw[OJ,<-hl];exact h4) (by rw[hk];exact⟨_,I',q⟩)
 ·have hk:(k+(XX.toArray.size:Int)).toNat=j:=by
   rw[seqIndex_neg ⋯ h3]at h1;rw[OJ,<-hl];exact Option.some.inj h1
  exact W.ki_setBack ho ⋯ (by rw[OJ,<-hl];exact h3) ⋯ (by rw[hk];exact⟨_,I',q⟩)
theorem Ed(lo hi:Option Int)(n:Nat):(XB lo hi none n).1=((HT.sIx n 0 lo:Nat):Int)/\(XB lo hi none n).2.1=((HT.sIx n n hi:Nat):Int)/\(XB lo hi none n).2.2=1:=by
 refine⟨?_,?_,rfl⟩
 ·cases lo with
  |none=>simp[XB,HT.sIx]
  |some i=>
   simp only[XB,HT.sIx,Option.getD_none,show(1:Int)>0 by decide,if_true]
   by_cases h:i<0
   ·simp only[h,if_true]<;>lia
   ·simp only[h,if_false]<;>lia
 ·cases hi with
  |none=>simp[XB,HT.sIx]
  |some i=>
   simp only[XB,HT.sIx,Option.getD_none,show(1:Int)>0 by decide,if_true]
   by_cases h:i<0
   ·simp only[h,if_true]<;>lia
   ·simp only[h,if_false]<;>lia
theorem zD(XX:List oA)(lo hi:Option Int):slicePick XX.toArray lo hi none=((XX.drop (HT.sIx XX.length 0 lo)).take (HT.sIx XX.length XX.length hi-HT.sIx XX.length 0 lo)).toArray:=by
 obtain⟨h1,h2,h3⟩:=Ed lo hi XX.toArray.size;unfold slicePick;rw[h1,h2,h3];simp only[sliceRange_one,pick_run,OJ]<;>rfl
def LP(K:W.Frag):V->Option Int->Option Int->Hp->VK->Prop:=λx lo hi H Q=>∃a xs,x = .ref a/\lZ K H a xs/\∀p,H p=none->Q (.ref p) (upd H p (.lst (Fz xs lo hi)))
theorem N4:JI X (LP X.K):=by
 intro pins s σ H x v vl vu lo hi sl Q I rx hs pl pu h;obtain⟨a,xs,rfl,hx,q⟩:=h;cases rx;obtain⟨XX,r,ht,hz⟩:=I.list hx;have hlen:=r.length;refine⟨"list",_,slot_list_getitem.lookup,ht.isList.typeIs,?_⟩;refine wpAny_getItem_list_slice ht.isList hs pl pu .none (by simp) ?_ (by rw[OJ]<;>lia);rw[zD,<-hlen];refine⟨.ref s.heap.objs.size,_,I.laid (t':=s.toks) (o:=.lst (Fz xs lo hi)) (λb ob q=>OA _ q) (OF _) ?_,rfl,q _ (I.hok.fresh (OF _))⟩;exact⟨PQ (uL xs lo hi) hz,_,0,(r.drop (HT.sIx xs.length 0 lo)).take (HT.sIx xs.length xs.length hi-HT.sIx xs.length 0 lo),OL _ rfl⟩
theorem Bm:jR X (.builtin "len") (λxs H Q=>∃p ys,xs=[.ref p]/\(lZ X.K H p ys\/yS X.K H p ys)/\Q (.int ys.length) H):=by
 intro pins s σ H xs us Q I r h;obtain⟨p,ys,rfl,hq,q⟩:=h;obtain⟨u,rfl,rx⟩:=yP r;cases rx;have hn:=xA;obtain hq|hq:=hq
 ·obtain⟨XX,r',pl,hz⟩:=I.list hq;have hlen:=r'.length;exact Calls.call_len_list pl.isList (by simp only[OJ]<;>lia) ⟨.int ys.length,H,I.tok _,⟨s.toks+1,by rw[OJ,hlen]⟩,q⟩
 ·obtain⟨XX,r',pl,hz⟩:=I.tuple hq;have hlen:=r'.length;exact len_tuple pl (by simp only[OJ]<;>lia) ⟨.int ys.length,H,I.tok _,⟨s.toks+1,by rw[OJ,hlen]⟩,q⟩
theorem Bn:jR X (.type "list") (λxs H Q=>∃p ys,xs=[.ref p]/\(lZ X.K H p ys\/yS X.K H p ys)/\∀l,H l=none->Q (.ref l) (upd H l (.lst ys))):=by
 intro pins s σ H xs us Q I r h;obtain⟨p,ys,rfl,hq,q⟩:=h;obtain⟨u,rfl,rx⟩:=yP r;cases rx;have fin:∀(XX:List oA),bA ys XX->ys.length<=VW->∀(h':oE)(c':Nat),(∀b o',s.heap.get? b=oZ o'->h'.get? b=oZ o')->
   h'.get? s.heap.objs.size=oZ { cls:=.type "list",dict:=none,data:=.seq XX.toArray c',slots:=#[] }->EP X pins σ Q (.ref s.heap.objs.size) { s with heap:=h' }:=λXX r' hz h' c' kp e=>
  ⟨.ref s.heap.objs.size,_,I.laid (t':=s.toks) kp (OF _) (show dU X.prog X.w _ h' _ (.lst ys)from⟨hz,XX,c',r',e⟩),rfl,q _ (I.hok.fresh (OF _))⟩
 obtain hq|hq:=hq
 ·obtain⟨XX,r',pl,hz⟩:=I.list hq;have hlen:=r'.length;obtain⟨o,ho,hc,n,hd⟩:=pl.isList;exact call_list_seq p (.inl rfl) ho hc hd (λh' c' kp e=>fin XX r' hz h' c' kp e) (by simp only[OJ]<;>lia)
 ·obtain⟨XX,r',pl,hz⟩:=I.tuple hq;have hlen:=r'.length;obtain⟨o,ho,hc,n,hd⟩:=pl;exact call_list_seq p (.inr rfl) ho hc hd (λh' c' kp e=>fin XX r' hz h' c' kp e) (by simp only[OJ]<;>lia)
theorem yV:jR X (.type "tuple") (λxs H Q=>∃p ys,xs=[.ref p]/\((lZ X.K H p ys/\∀l,H l=none->Q (.ref l) (upd H l (.tup ys)))\/(yS X.K H p ys/\Q (.ref p) H))):=by
 intro pins s σ H xs us Q I r h;obtain⟨p,ys,rfl,h⟩:=h;obtain⟨u,rfl,rx⟩:=yP r;cases rx;obtain⟨hq,q⟩|⟨hq,q⟩:=h
 ·obtain⟨XX,r',pl,hz⟩:=I.list hq;have hlen:=r'.length;refine call_tuple_list pl.isList (λh' kp=>?_) (by simp only[OJ]<;>lia);have I1:aU X pins σ H { s with heap:=h' }:=I.kept (t':=s.toks) kp;have I2:aU X pins σ (upd H h'.objs.size (.tup ys)) { s with heap:=h'.push { cls:=.type "tuple",data:=.seq XX.toArray } }:=
   I1.laid (t':=s.toks) (λb o e=>OA _ e) (OF _) (show dU X.prog X.w _ _ _ (.tup ys)from⟨hz,XX,r',IsTup.new _ _⟩)
  exact⟨.ref h'.objs.size,_,I2,rfl,q _ (I1.hok.fresh (OF _))⟩
 ·obtain⟨XX,r',pl,hz⟩:=I.tuple hq;exact call_tuple_same pl ⟨.ref p,H,I,rfl,q⟩
def MA(K:W.Frag)(T:String)(x:V)(H:Hp):Prop:=match x with
 |.str _=>T = "str"
 |.int _=>T = "int"
 |.ref p=>(T = "list"/\∃xs,lZ K H p xs)\/(T = "tuple"/\∃o,K.lookup p=oZ o/\o.cls = .type "tuple"/\o.dict=none)\/
   (T = "dict"/\((∃XZ,H p=oZ (.dK XZ))\/∃XZ,H p=oZ (.dT XZ)))\/(T = "set"/\∃S n,H p=oZ (.set S n))
 |_=>False
theorem Zj(I:aU X pins σ H s)(r:bN x v)(ty:MA X.K T x H):
  s.TypeIs v T/\∀a,v = .ref a->∃ob,s.heap.get? a=oZ ob/\ob.dict=none:=by
 cases x with
 |str z=>
  obtain⟨t,rfl⟩:=r;cases(show T = "str" from ty);exact⟨typeIs_str s z t,λ_ e=>nomatch e⟩
 |int i=>
  obtain⟨t,rfl⟩:=r;cases(show T = "int" from ty);exact⟨typeIs_int s i t,λ_ e=>nomatch e⟩
 |ref p=>
  cases r;obtain⟨rfl,xs,hq⟩|⟨rfl,o,hk,hc,hd⟩|⟨rfl,hk⟩|⟨rfl,S,n,hk⟩:=ty
  ·obtain⟨XX,_,pl,_⟩:=I.list hq;refine⟨pl.isList.typeIs,λa e=>?_⟩;cases e;obtain⟨o,n,e,c,hd,_⟩:=pl;exact⟨o,e,hd⟩
  ·refine⟨⟨o,I.kIn p o hk,hc⟩,λa e=>?_⟩;cases e;exact⟨o,I.kIn _ o hk,hd⟩
  ·have z:∃o,s.heap.get? p=oZ o/\o.ExactDict:=by
    obtain⟨XZ,hk⟩|⟨XZ,hk⟩:=hk
    ·obtain⟨_,_,_,_,o,_,_,e,ex,_⟩:=I.hok p _ hk;exact⟨o,e,ex⟩
    ·obtain⟨_,_,_,_,o,_,_,e,ex,_⟩:=I.hok p _ hk;exact⟨o,e,ex⟩
   obtain⟨o,e,ex⟩:=z;refine⟨⟨o,e,ex.1⟩,λa e2=>?_⟩;cases e2;exact⟨o,e,ex.2.1⟩
  ·obtain⟨o,_,_,_,e,ex,_⟩:=I.hok p _ hk;refine⟨⟨o,e,ex.1⟩,λa e2=>?_⟩;cases e2;exact⟨o,e,ex.2.1⟩
 |_=>exact False.elim ty
def HJ(K:W.Frag)(T:String)(r:V->List V->Hp->VK->Prop)(to:TE):TE:=λσ H Q=>to σ H λx H1=>MA K T x H1/\r x [] H1 Q
def DL(K:W.Frag)(T:String)(r:V->List V->Hp->VK->Prop)(to:TE)(t:TA):TE:=λσ H Q=>to σ H λx H1=>MA K T x H1/\t σ H1 λxs H2=>r x xs H2 Q
variable{o e:oC}{es:List oC}{to:TE}{t:TA}{name:Str}{apos jd:Pos}{T id:String}{r:V->List V->Hp->VK->Prop}
theorem BC(pa:PlainAttrs T)(slot:Slot T name id)(qd:typeOf (.builtin id)=pure (.type "method_descriptor"))(hm:DI X id r)(ho:PE X o to)(ZD:WH o name X.env (VY o X.env)=VY o X.env:=by rfl)(ZE:(apos.endLine==jd.line)=true:=by rfl):PE X (.Call (.Attribute o name apos) [] [] jd) (HJ X.K T r to):=by
 intro pins s σ H Q I h;refine wpAny_Call_method0_late ZD ZE (dQ (ho pins s σ H _ I h) λv s1 zZ=>?_);obtain⟨x,H1,I1,r1,ty,q1⟩:=zZ;obtain⟨h1,h2⟩:=Zj I1 r1 ty;exact⟨T,id,pa,slot,qd,h1,h2,Calls.callWith_builtin rfl (PySem.evalArgs_none (hm pins s1 σ H1 x [] v [] Q I1 r1 .nil q1))⟩
theorem Oc(pa:PlainAttrs T)(slot:Slot T name id)(qd:typeOf (.builtin id)=pure (.type "method_descriptor"))(hm:DI X id r)(ho:PE X o to)(ha:PA X (e::es) t)(ZD:WH o name X.env (VY o X.env)=VY o X.env:=by rfl)(aB0:((XG jd (VZ (e::es) X.env)).all (λx=>!x.1)&&(backToKw jd (keywordEach [] X.env)).all (λx=>x.1.isSome)
  &&decide ((e::es).length+([]:List Keyword).length+(if([]:List Keyword).isEmpty then 0 else 1)<30))=true:=by rfl)(ZE:(apos.endLine==jd.line)=true:=by rfl)(hs:VZ (e::es) X.env=(false,VY e X.env)::VZ es X.env:=by rfl)(vz:(XG jd (VZ es X.env)).any (·.1)=false:=by rfl):
  PE X (.Call (.Attribute o name apos) (e::es) [] jd) (DL X.K T r to t):=by
 intro pins s σ H Q I h;refine wpAny_Call_method_late ZD aB0 ZE rfl (dQ (ho pins s σ H _ I h) λv s1 zZ=>?_);obtain⟨x,H1,I1,r1,ty,q1⟩:=zZ;obtain⟨h1,h2⟩:=Zj I1 r1 ty;refine⟨T,id,pa,slot,qd,h1,h2,?_⟩;have hA:=ha jd pins s1 σ H1 _ I1 q1;rw[hs]at hA⊢;refine Calls.callWith_builtin (by show(false||(XG jd (VZ es X.env)).any (·.1))=false;rw[vz]<;>rfl) (Calls.evalArgs_plain ?_);exact dQ hA λus s2 zZ=>by obtain⟨vs,H2,I2,r2,q2⟩:=zZ;exact hm pins s2 σ H2 x vs v us Q I2 r1 r2 q2
/- xs.append(e),list.index on a module's tuple .. are DI facts of 06m -/
end
def JQ(X:Cx)(id:String)(r:V->List V->Hp->VK->Prop):Prop:=
 ∀(pins:List (VN×Obj))(s:oB)(σ:St)(H:Hp)(x:V)(xs:List V)(v:oA)(us:List oA)(Q:VK),aU X pins σ H s->bN x v->bA xs us->r x xs H Q->
  VP (VR X.prog X.w) X.A (call (.builtin id) (v::us)) (EP X pins σ Q) X.xe s
theorem bA.one:∀{x:V}{us:List oA},bA [x] us->∃u,us=[u]/\bN x u:=by
 intro x us h;cases h with
 |cons r t=>cases t;exact⟨_,rfl,r⟩
theorem bA.two:∀{x y:V}{us:List oA},bA [x,y] us->∃u v,us=[u,v]/\bN x u/\bN y v:=by
 intro x y us h;cases h with
 |cons r t=>
  obtain⟨v,rfl,q⟩:=bA.one t;exact⟨_,_,rfl,r,q⟩
theorem bA.eraseIdx:∀{xs:List V}{us:List oA}(i:Nat),bA xs us->bA (xs.eraseIdx i) (us.eraseIdx i)
 |_,_,_,.nil=>.nil
 |_,_,0,.cons _ t=>t
 |_,_,i+1,.cons r t=>.cons r (bA.eraseIdx i t)
theorem bA.reverse(h:bA xs us):bA xs.reverse us.reverse:=by
 induction h with
 |nil=>exact .nil
 |cons r t ih=>rw[RU,RU];exact bA.append ih (.cons r .nil)
theorem bA.rep(h:bA xs us):∀k:Nat,bA (OE k xs).flatten (OE k us).flatten
 |0=>.nil
 |k+1=>by
  rw[PY,PY,RB,RB];exact bA.append h (bA.rep h k)
theorem Af{α:Type}:∀(l:List α)(i:Nat),(l.eraseIdx i).length<=l.length
 |[],_=>OF _
 |_::_,0=>VD _
 |_::r,i+1=>UK (Af r i)
theorem Aa(XX:List oA):∀(k:Nat)(acc:List oA),
  TU (λx1 x2=>x1++x2) acc.toArray (OE k XX.toArray)=(acc++(OE k XX).flatten).toArray
 |0,acc=>by simp
 |k+1,acc=>by
  have e:acc.toArray++XX.toArray=(acc++XX).toArray:=by simp
  have e2:(acc++XX)++(OE k XX).flatten=acc++(OE (k+1) XX).flatten:=by
   rw[PY,RB,OM]
  rw[<-e2,<-Aa XX k (acc++XX),<-e,PY,List.foldl_cons]
theorem aU.lset{H:Hp}{s:oB}{ys:List V}{XX its':List oA}{f:Array oA->Array oA}(I:aU X pins σ H s)(hH:H l=oZ (.lst xs))(e:s.heap.get? l=oZ { cls:=.type "list",data:=.seq XX.toArray n })(hf:f XX.toArray=its'.toArray)(hv:bA ys its')(hz:ys.length<=VW):
  aU X pins σ (upd H l (.lst ys)) { s with heap:=s.heap.update l (SF f),toks:=t' }:=by
 have q:=PySem.IsL.update e f;rw[hf]at q;refine I.write (x:=l) (e:=l) (by rw[hH];exact trivial) (.inl rfl) (λb' u hb hu=>(VC s.heap (SF f) (Ne.symm hb)).trans hu) ⟨_,q⟩ ?_;exact⟨hz,its',_,hv,q⟩
theorem aU.lnew(I:aU X pins σ H s)(hv:bA ys XX)(hz:ys.length<=VW):
  aU X pins σ (upd H s.heap.objs.size (.lst ys)) { s with heap:=s.heap.push { cls:=.type "list",data:=.seq XX.toArray },toks:=t' }:=
 I.laid (λ_ _ q=>OA _ q) (OF _) ⟨hz,XX,0,hv,OL _ rfl⟩
theorem aU.fresh(I:aU X pins σ H s):H s.heap.objs.size=none:=I.hok.fresh (OF _)
theorem aU.lstM(I:aU X pins σ H s)(hH:H l=oZ (.lst xs)):xs.length<=VW/\∃(XX:List oA)(n:Nat),bA xs XX/\xs.length=XX.length/\s.heap.get? l=oZ { cls:=.type "list",data:=.seq XX.toArray n }:=by
 obtain⟨z,XX,n,r,e⟩:=I.hok l _ hH;exact⟨z,XX,n,r,r.length,e⟩
theorem Hg(h:n<=VW):Builtin.List.listTooLong n=false:=by
 unfold Builtin.List.listTooLong;exact oX ⋯
def Di:V->List V->Hp->VK->Prop:=λx vs H Q=>∃l xs y,x = .ref l/\vs=[y]/\H l=oZ (.lst xs)/\xs.length<VW/\Q .non (upd H l (.lst (xs++[y])))
theorem Ah:JQ X "list.append" Di:=by
 intro pins s σ H x vs v us Q I rx rv h;obtain⟨l,xs,y,rfl,rfl,hH,hz,q⟩:=h;cases rx;obtain⟨u,rfl,ru⟩:=rv.one;obtain⟨z,XX,n,r,hl,e⟩:=I.lstM hH;refine XS F.slot_list_append ⟨_,e,rfl⟩ F.entry_list_append (F.args_list_append_2 _ _) (PySem.list_append l XX.toArray n u (by rw[OJ];lia)) ⟨e,?_⟩;refine⟨.non,_,I.lset (its':=XX++[u]) hH e (by simp) (r.append (.cons ru .nil)) ?_,rfl,q⟩;rw[OB,OS]
 lia
def Ol:V->List V->Hp->VK->Prop:=λx vs H Q=>∃l b xs zs,x = .ref l/\vs=[.ref b]/\H l=oZ (.lst xs)/\H b=oZ (.lst zs)/\xs.length+zs.length<=VW/\Q .non (upd H l (.lst (xs++zs)))
theorem Ri:JQ X "list.extend" Ol:=by
 intro pins s σ H x vs v us Q I rx rv h;obtain⟨l,b,xs,zs,rfl,rfl,hH,hB,hz,q⟩:=h;cases rx;obtain⟨u,rfl,ru⟩:=rv.one;cases ru;obtain⟨z,XX,n,r,hl,e⟩:=I.lstM hH;obtain⟨z2,kz,n2,r2,hl2,e2⟩:=I.lstM hB;have hsz:XX.toArray.size+kz.toArray.size<=VW:=by rw[OJ,OJ];lia
 have qk:¬(!XX.toArray.isEmpty&&Builtin.List.listTooLong (XX.toArray.size+kz.toArray.size))=true:=by
  rw[Hg hsz,VG];exact RM
 refine XS F.slot_list_extend ⟨_,e,rfl⟩ F.entry_list_extend (F.args_list_extend_2 _ _)
  (AutoSeq1.list_extend_list_list_0 l XX.toArray n b kz.toArray n2 qk (by rw[OJ];lia) ⋯) ⟨e,e2,?_⟩
 refine⟨.non,_,I.lset (its':=XX++kz) hH e (by simp) (r.append r2) ?_,rfl,q⟩;rw[OB]
 lia
def Xi:V->List V->Hp->VK->Prop:=λx vs H Q=>∃l xs i k y,x = .ref l/\vs=[.int i]/\H l=oZ (.lst xs)/\-(2^63)<=i/\i<2^63/\seqIndex? i xs.length=oZ k/\xs[k]?=oZ y/\Q y (upd H l (.lst (xs.eraseIdx k)))
theorem Vt:JQ X "list.pop" Xi:=by
 intro pins s σ H x vs v us Q I rx rv h;obtain⟨l,xs,i,k,y,rfl,rfl,hH,h1,h2,hk,hy,q⟩:=h;cases rx;obtain⟨u,rfl,ru⟩:=rv.one;obtain⟨t,rfl⟩:=ru;obtain⟨z,XX,n,r,hl,e⟩:=I.lstM hH;obtain⟨w,hw,mr⟩:=r.get hy;refine XS F.slot_list_pop ⟨_,e,rfl⟩ F.entry_list_pop (F.args_list_pop_2 _ _)
  (MeetsSeq.list_pop_at l XX.toArray n i t k w (fitsIndex_both h1 h2) (by rw[OJ,<-hl];exact hk) (by rw[<-VH];exact hw) (by rw[OJ];lia)) ⟨e,?_⟩
 refine⟨y,_,I.lset (its':=XX.eraseIdx k) hH e ?_ (r.eraseIdx k) ?_,mr,q⟩
 ·show XX.toArray.eraseIdxIfInBounds k=(XX.eraseIdx k).toArray;rw[List.eraseIdxIfInBounds_toArray]
 ·have:=Af xs k
  lia
def LN:R2:=λx y H Q=>∃l b xs zs,x = .ref l/\y = .ref b/\H l=oZ (.lst xs)/\H b=oZ (.lst zs)/\xs.length+zs.length<=VW/\∀p,H p=none->Q (.ref p) (upd H p (.lst (xs++zs)))
theorem AV:m4 X (WG .Add) LN:=by
 intro pins s σ H x y v u Q I rx ry h;obtain⟨l,b,xs,zs,rfl,rfl,hH,hB,hz,q⟩:=h;cases rx;cases ry;obtain⟨z,XX,n,r,hl,e⟩:=I.lstM hH;obtain⟨z2,kz,n2,r2,hl2,e2⟩:=I.lstM hB;refine PySem.P.add_list e e2 ?_ (by rw[OJ,OJ];lia);have ea:XX.toArray++kz.toArray=(XX++kz).toArray:=by simp
 rw[ea];exact⟨.ref _,_,I.lnew (t':=s.toks) (r.append r2) (by rw[OB];lia),rfl,q _ I.fresh⟩
def LO:R2:=λx y H Q=>∃l k xs,x = .ref l/\y = .int k/\H l=oZ (.lst xs)/\-(2^63)<=k/\k<2^63/\xs.length*k.toNat<=VW/\
 ∀p,H p=none->Q (.ref p) (upd H p (.lst (OE k.toNat xs).flatten))
theorem G1{α:Type}(xs:List α)(k:Nat):(OE k xs).flatten.length=k*xs.length:=by
 induction k with
 |zero=>simp
 |succ k ih=>rw[PY,RB,OB,ih,Nat.succ_mul,RX]
theorem AY:m4 X (WG .Mult) LO:=by
 intro pins s σ H x y v u Q I rx ry h;obtain⟨l,k,xs,rfl,rfl,hH,h1,h2,hz,q⟩:=h;cases rx;obtain⟨t,rfl⟩:=ry;obtain⟨z,XX,n,r,hl,e⟩:=I.lstM hH;have hlen:XX.toArray.size*k.toNat<=VW:=by rw[OJ,<-hl];exact hz
 have aB2:¬XX.toArray.size*k.toNat>(2^63-1)/8:=by
  have:(VW:Nat)<=(2^63-1)/8:=∅
  lia
 have aB3:¬(!Builtin.List.listFitsIndex k)=true:=by
  rw[fitsIndex_both h1 h2];exact RM
 have qk:¬Builtin.List.listTooLong (XX.toArray.size*k.toNat)=true:=by
  rw[Hg hlen];exact RM
 have aB4:TU (λx1 x2=>x1++x2) #[] (OE (if XX.toArray.isEmpty=true then 0 else k.toNat) XX.toArray)=(OE k.toNat XX).flatten.toArray:=by
  have f0:∀m:Nat,TU (λx1 x2=>x1++x2) #[] (OE m XX.toArray)=(OE m XX).flatten.toArray:=λm=>by
   have:=Aa XX m [];rw[List.nil_append]at this;exact this
  rw[f0];cases XX with
  |nil=>simp
  |cons a r'=>rw[oW (by simp)]
 refine wpAny_binaryOp_repeat_ref (T:="list") (U:="int") ∅ ⟨_,e,rfl⟩ (λs'=>typeIs_int s' k t) noFill_list_mul F.fills_int_mul F.slot_int_rmul repeat_list F.slot_int_index.lookup
  (XS F.slot_int_rmul (typeIs_int s k t) F.entry_int_rmul (F.args_int_rmul_2 _ _) (int___rmul___int_list k t l XX.toArray n)
   ⟨e,rfl,⟨_,e,rfl⟩,XS F.slot_list_mul ⟨_,e,rfl⟩ F.entry_list_mul (F.args_list_mul_2 _ _) (AutoListH.list___mul___list_int_3 l XX.toArray n k t aB3 aB2 qk) ⟨e,?_⟩⟩)
 rw[aB4];exact⟨.ref _,_,I.lnew (t':=s.toks) (r.rep k.toNat) (by rw[G1,Nat.mul_comm];exact hz),rfl,q _ I.fresh⟩
end L2
namespace Att
open PySem PySem.W PySem.Calls PyProof.Rows
theorem uZ:∀(ns:List Int)(vs:List oA),WellAll P h vs (ns.map WData.int)->IntsAre vs ns:=by
 intro ns
 induction ns with
 |nil=>
  intro vs w;rw[List.map_nil]at w;cases w;exact .nil
 |cons n ns ih=>
  intro vs w;rw[PZ]at w;cases w with
  |cons a b=>
   cases a;exact .cons _ _ (ih _ b)
theorem Sn{l:OpenLaw}(hn:l.most=oZ n){h:oE}(sf:l.row.toRowW.claim.pre args=true)(hwl:WellAll P h vals args):
  ∃a vs ns,vals=[QC a]/\args=[WData.list (ns.map WData.int)]/\h.get? a=oZ { cls:=.type "list",data:=.seq vs.toArray }/\IntsAre vs ns/\ns.length<=n:=by
 have hsh:WShape.hasAll [] args [.list .int]=true:=(pre_splitW sf).1;have hc:l.pre.holds [] { args:=args } = true:=(pre_splitW sf).2;obtain⟨d,r,rfl,h1,h2⟩:=hasAllW_cons hsh;obtain rfl:=hasAllW_nil h2;obtain⟨xs,rfl,h3⟩:=hasW_list h1;obtain⟨ns,rfl⟩:=items_int h3;have hlen:ns.length<=n:=by
  unfold OpenLaw.pre at hc;have h4:(WTm.not (.lt (.lit (.int (n:Int))) (.len (.arg 0)))).holds [] { args:=[.list (ns.map .int)] } = true:=by
   have h4:=(holds_andW hc).1;rw[hn]at h4;exact h4
  have h5:=condW_of h4 (w_not (w_lt w_lit (w_len_list (w_arg rfl))));rw[OD]at h5;refine Nat.le_of_not_lt λq=>?_;have q':(n:Int)<((ns.length:Nat):Int):=⋯
  first
   |(rw[oY q']at h5;exact absurd h5 ∅)
   |(simp at h5;lia)
 cases hwl with
 |cons w1 w2=>
  cases w2;cases w1 with
  |list ho wb=>exact⟨_,_,ns,rfl,rfl,ho,uZ ns _ wb,hlen⟩
theorem Sd(l:OpenLaw)(args:List WData):l.row.toRowW.claim.post args (.bool true) args=true:=
 postW_of (r:=l.row.toRowW) (X:=(true==true))
  (show WShape.has [] (.bool true) .bool=true by first|rfl|decide|simp[WShape.has,WShape.arms,WShape.armsAll])
  (show(WTm.eq .res (.lit (.bool true))).value [] { args:=args,res:=oZ (.bool true),after:=args } = oZ (.bool (true==true))from w_eq_bool (w_res rfl) w_lit) rfl
theorem attach_call{l:OpenLaw}{XP:(Str->Option oA)->oE->Prop}{YP:VU->oE->Prop}{d:DefRec}(hn:l.most=oZ n)(yy:d.params.defaults=[])(call:∀(w:VU)(s₀ s₁:oB)(mg mb:Str->Option oA)(fa:VN)(o:Obj)(pm cd doc:oA)(a:VN)(vs:List oA)(ns:List Int),
   Ground q loose [] XP w s₀ mg mb s₁.heap->YP w s₁.heap->
   s₁.heap.get? fa=oZ o->o.data = .func (docDef d.name d.params d.body d.scope pm cd doc)->s₁.heap.CodeRec cd d.name->mg d.name=oZ (.ref fa)->
   s₁.heap.get? a=oZ { cls:=.type "list",data:=.seq vs.toArray }->IntsAre vs ns->ns.length<=n->s₁.gens = #[]->
   XM (VR l.prog w) XT (.call (.ref fa) ⟨[.ref a],[]⟩) (λr s'=>r = .ok (.ret (.bool true))/\OldK s₁.heap s'.heap/\s'.os=s₁.os/\WT s'.gens) s₁):
  WalkO q loose XP YP l.row.toRowW d [] (λf vs=>PySem.call f vs):=by
 intro w s₀ s₁ mg mb G Y fa o pm cd doc dV kV ho hd ja hD hmg hg args vals as sf aFO hrd hwl hlo;obtain rfl:dV = .none:=Dflts.none hD yy;obtain rfl:kV = .none:=Dflts.noKw hD;obtain⟨a,vs,ns,rfl,rfl,wc,hints,hlen⟩:=Sn hn sf hwl;refine enter_call (XU (call w s₀ s₁ mg mb fa o pm cd doc a vs ns G Y ho (fd_plain hd) ja hmg wc hints hlen hg) λr s' hq=>?_);obtain⟨rfl,h2,h3,h4⟩:=hq;exact⟨.inl ⟨.bool true,.bool true,[],rfl,λ_=>rfl,.bool true,Sd l _,λ_=>⟨List.Pairwise.nil,λ_ hm=>(nomatch hm)⟩⟩,h2,h3,h4⟩
end Att
namespace L2
open PySem PySem.Spec PyProof.Rows
theorem Bd:∀{vs:List oA}{ns:List Int},IntsAre vs ns->bA (ns.map V.int) vs
 |_,_,.nil=>.nil
 |_,_,.cons n t h=>.cons ⟨t,rfl⟩ (Bd h)
def V6(H:Hp):Prop:=∀b,H b=none\/∃o xs,H b=oZ (.frz o (.lst xs))
theorem Vl{K:W.Frag}{mb:Str->Option oA}{CX:Jb}{sp:Sp}{s₁:oB}{vs:List oA}{ns:List Int}(KX:K.In s₁.heap)(sj:s₁.heap.Ns VT mg)(hb:s₁.heap.Ns builtinsNs mb)(hbb:∀x:Str,x≠"__name__"->mb x=WL x)(aB6:s₁.heap.NoLimit)(hg:s₁.gens = #[])(ha:s₁.heap.get? a=oZ { cls:=.type "list",data:=.seq vs.toArray })(hi:IntsAre vs ns)(hl:ns.length<=VW)(hr:dD k XT)(F:∀base:oE,K.In base->base.Ns VT mg->aT P w K mg base CX k fa fd [x] sp)(yz:∀(s:oB)(u:oA),BindsTo s fd ⟨[u],[]⟩ [(x,u)])(uw:∀H:Hp,V6 H->lZ K H a (ns.map V.int)->sp [.ref a] H (λv _=>v = .bl true) λ_ _ _=>False)(hCX:∀H e s',CX [] H s₁ (λ_ _ _=>False) e s'->False):
  XM (VR P w) XT (.call (.ref fa) ⟨[.ref a],[]⟩) (λr s'=>r = .ok (.ret (.bool true))/\OldK s₁.heap s'.heap/\s'.os=s₁.os/\WT s'.gens) s₁:=by
 have rv:=Bd hi;have aB8:=hi.length
 -- from an abstract heap in which nothing but the script may be tracked
 have core:∀H:Hp,V6 H->lZ K H a (ns.map V.int)->pT P w H s₁.heap->(∀b,H b≠none->b=a)->(H a≠none->K.lookup a=none)->
   XM (VR P w) XT (.call (.ref fa) ⟨[.ref a],[]⟩) (λr s'=>r = .ok (.ret (.bool true))/\OldK s₁.heap s'.heap/\s'.os=s₁.os/\WT s'.gens) s₁:=by
  intro H hO hS hok hA hK;have ox:∀{b:VN}{o:Obj},s₁.heap.get? b=oZ o->H b=none->(Ce s₁.heap H).get? b=oZ o:=λe n=>Vb e n;have yv:∀{b:VN}{o:Obj}{es:Array DictEntry}{ep:Nat},s₁.heap.get? b=oZ o->o.data = .dict es ep->H b=none:=λ{b o es ep}e d=>by
   cases q:H b with
   |none=>rfl
   |some u=>
    have e':b=a:=hA b (by rw[q];simp);subst e';rw[ha]at e;cases e;have d':Data.seq vs.toArray _=Data.dict es ep:=d;cases d'
  have nsK:∀{b:VN}{m:Str->Option oA},s₁.heap.Ns b m->(Ce s₁.heap H).Ns b m:=λ{b m}zZ=>by obtain⟨o,es,ep,e,d,r⟩:=zZ;exact⟨o,es,ep,ox e (yv e d),d,r⟩
  have hKb:K.In (Ce s₁.heap H):=λb o e=>ox (KX b o e) (by
   cases q:H b with
   |none=>rfl
   |some u=>
    have e':b=a:=hA b (by rw[q];simp);subst e';rw[hK (by rw[q];simp)]at e;cases e)
  have hM:Mod K mg (Ce s₁.heap H):=⟨hKb,nsK sj,⟨mb,nsK hb,hbb⟩,let⟨mc,h1,h2⟩:=aB6;⟨mc,nsK h1,h2⟩⟩;have e0:Sz P w K mg (Ce s₁.heap H) XT [] s₁ H:=⟨rfl,hM,λb o e=>G6 e,Nat.le_of_eq (Rb _ _),trivial,λb hb=>absurd (show b∈([]:List VN)from hb) (by simp),hok,.of_eq hg⟩;refine XU ((F _ hKb (nsK sj)).run XT [] s₁ H ⟨[.ref a],[]⟩ [.ref a] [.ref a] _ _ hr e0 (yz s₁ (.ref a)) (.cons rfl .nil) (uw H hO hS)) λr s' h=>?_;cases r with
  |error e=>exact(hCX H e s' h).elim
  |ok fl=>
   cases fl with
   |next=>exact False.elim h
   |brk=>exact False.elim h
   |cont=>exact False.elim h
   |ret u=>
    obtain⟨v,H',os,bare,un,aB9,r',q⟩:=h;have q':v = .bl true:=q;subst q';obtain rfl:u=Value.bool true:=r';refine⟨rfl,OldK.of_keep λb o e=>?_,os,bare⟩;cases q:H b with
    |none=>exact un.keep b o e q (by intro z;exact absurd (show b∈([]:List VN)from z) (by simp)) (by simp)
    |some u=>
     obtain z|⟨ob,xs,z⟩:=hO b
     ·rw[q]at z;cases z
     ·have z2:=un.frzs b ob _ z;obtain⟨e1,_⟩:=hok b _ z;obtain⟨e2,_⟩:=aB9 b _ z2;rw[e]at e1;cases e1;exact e2
 cases hk:K.lookup a with
 |some o=>
  -- the script is one of the module's own objects
  have e:=KX a o hk;rw[ha]at e;cases e;refine core (λ_=>none) (λ_=>.inl rfl) (.inr ⟨_,vs.toArray,_,hk,rfl,rfl,rfl,by rw[OJ,aB8];exact hl,by simpa using rv⟩) (λb u z=>by have z':(none:Option HO)=oZ u:=z;cases z') (λb z=>absurd rfl z) λz=>absurd rfl z
 |none=>
  refine core (λb=>if b=a then oZ (.frz { cls:=.type "list",data:=.seq vs.toArray } (.lst (ns.map V.int)))else none) (λb=>?_) (.inl (.inr ⟨{ cls:=.type "list",data:=.seq vs.toArray },oV rfl⟩)) (λb u z=>?_) (λb z=>?_) λ_=>hk
  ·by_cases hb:b=a
   ·exact .inr ⟨_,_,oV hb⟩
   ·exact .inl (oW hb)
  ·by_cases hb:b=a
   ·have z':=(oV hb).symm.trans z;cases z';subst hb;exact⟨ha,by rw[OD];exact hl,vs,_,rv,ha⟩
   ·have z':=(oW hb).symm.trans z;cases z'
  ·by_cases hb:b=a
   ·exact hb
   ·exact absurd (oW hb) z
theorem O9{l:W.OpenLaw}{XP:(Str->Option oA)->oE->Prop}{YP:VU->oE->Prop}{d:DefRec}{K:Params->W.Frag}{CX:VU->Jb}{sp:VU->Sp}(hn:l.most=oZ n)(hn2:n<=VW)(yy:d.params.defaults=[])(hr:dD k XT)(hY:∀(w:VU)(h:oE),YP w h->(K w.params).In h)(F:∀(w:VU)(mg:Str->Option oA)(fa:VN)(h:oE),(K w.params).In h->h.Ns VT mg->mg d.name=oZ (.ref fa)->
   ∃fd:WC,(∀(s:oB)(u:oA),BindsTo s fd ⟨[u],[]⟩ [(x,u)])/\
    ∀base:oE,(K w.params).In base->base.Ns VT mg->aT l.prog w (K w.params) mg base (CX w) k fa fd [x] (sp w))(uw:∀(w:VU)(H:Hp)(a:VN)(ns:List Int),ns.length<=n->V6 H->lZ (K w.params) H a (ns.map V.int)->sp w [.ref a] H (λv _=>v = .bl true) λ_ _ _=>False)(hCX:∀(w:VU)(H:Hp)(s:oB)(e:oA)(s':oB),CX w [] H s (λ_ _ _=>False) e s'->False):
  W.WalkO q loose XP YP l.row.toRowW d [] (λf vs=>PySem.call f vs):=by
 refine Att.attach_call hn yy λw s₀ s₁ mg mb fa o pm cd doc a vs ns G Y ho hd ja hmg wc hints hlen hg=>?_;have KX:=hY w _ Y;obtain⟨fd,hb,hF⟩:=F w mg fa _ KX G.T.g hmg;exact Vl KX G.T.g G.T.b G.T.builtins G.T.nolimit hg wc hints (PQ hlen hn2) hr hF hb (λH hO hS=>uw w H a ns hlen hO hS) λH e s'=>hCX w H s₁ e s'
end L2
/- THE LAST THEOREM (shape;LID,My.* are yours):
   My.Adr: a structure of the addresses that your layer names (classes,functions);My.Txt K t: a structure (Prop) of the equations over K;
   My.txt_mk:{K} {implicit addresses ..} (e1:nsIn K VT "law" = oZ (oZ (.ref f))) (e2:K.lookup f=oZ ⟨oc,od,.func (fnOf "law" "law" params body scope dV kV doc pm an YZ ct),sl⟩) (e3:codeIn K YZ "law" = true) .. : ∃t,My.Txt K t
set_option maxRecDepth 100000 in
set_option maxHeartbeats 0 in
(the tactic k_is has no namespace: write k_is) -/
namespace L2
open PySem PySem.Spec PyProof.Rows
def fM(s:VS):Arguments:=match s with
 |.FunctionDef _ a _ _ _ _ _ _ _ _=>a
 |_=>{ posonlyargs:=[],args:=[],vararg:=none,kwonlyargs:=[],kw_defaults:=[],kwarg:=none,defaults:=[] }
def cW(s:VS):List VS:=match s with
 |.FunctionDef _ _ b _ _ _ _ _ _ _=>b
 |_=>[]
def aC(s:VS):XC:=match s with
 |.FunctionDef _ _ _ _ _ _ sc _ _ _=>sc
 |_=>{ kind:=.function,names:=[],isGenerator:=false,isCoroutine:=false }
abbrev cO:Jb:=λ_ _ _ _ _ _=>False
abbrev E0:XK:=λ_ _ _=>False
theorem GB:Jf cO X E0:=λ_ _ _ _ _ _ _ h=>h.elim
structure cL(K:W.Frag)(x qual:Str)(st:VS)(f:VN)(fd:WC):Prop where
 ex:∃(oc:oA)(od:Option VN)(kV doc pm:oA)(an:Option VN)(YZ ct:oA)(ur:Array (Option oA)),
  fd=W.fnOf x qual (fM st) (cW st) (aC st) .none kV doc pm an YZ ct/\K.lookup f=oZ ⟨oc,od,.func fd,ur⟩/\W.codeIn K YZ qual=true
 kp:W.keepIn K (.ref f)=true
theorem cL.ok{P:VQ}{w:VU}{K:W.Frag}{mg:Str->Option oA}{base:oE}{x qual:Str}{st:VS}{f:VN}{fd:WC}{N ps:List Str}{k:Nat}{sp:Sp}(F:cL K x qual st f fd)(S:aF N ps (aC st))(len:∀vs H Q E,sp vs H Q E->vs.length=ps.length)(ky:∀(YZ:oA)(A:oD)(outer:List Env)(s:oB)(H:Hp)(vs:List V)(Q:VK)(E:XK),dD k (A.deeper (WU qual (aC st) s.heap.objs.size f YZ))->sp vs H Q E->
   ∃t,Mj (wQ cO P w K mg base N qual (aC st) f YZ A outer s H E).nox (cW st) t/\t { nx:=λ_ H'=>Q .non H',rt:=Q } (kD N vs) H):(~~~aT) cO (k+1) f fd ps sp:=by
 obtain⟨oc,od,kV,doc,pm,an,YZ,ct,ur,rfl,lk,ja⟩:=F.ex;refine EZ lk ja S len λA outer s H vs Q E hr uw=>?_;obtain⟨t,h,q⟩:=ky YZ A outer s H vs Q E hr uw;exact⟨t,h.nox,q⟩
theorem cL.binds{K:W.Frag}{x qual:Str}{st:VS}{f:VN}{fd:WC}{ps:List Str}(F:cL K x qual st f fd)(h:∀(kV doc pm:oA)(an:Option VN)(YZ ct:oA)(us:List oA),us.length=ps.length->bindArgs (W.fnOf x qual (fM st) (cW st) (aC st) .none kV doc pm an YZ ct) ⟨us,[]⟩=pure (ps.zip us)):k8 K fd ps []:=by
 obtain⟨oc,od,kV,doc,pm,an,YZ,ct,ur,rfl,lk,ja⟩:=F.ex;exact .all (h kV doc pm an YZ ct)
theorem Uw{K:W.Frag}{x qual:Str}{st:VS}{f:VN}{oc:oA}{od an:Option VN}{ur:Array (Option oA)}{kV doc pm YZ ct:oA}(l:K.lookup f=oZ ⟨oc,od,.func (W.fnOf x qual (fM st) (cW st) (aC st) .none kV doc pm an YZ ct),ur⟩)(c:W.codeIn K YZ qual=true)(k:W.keepIn K (.ref f)=true):cL K x qual st f (W.fnOf x qual (fM st) (cW st) (aC st) .none kV doc pm an YZ ct):=⟨⟨oc,od,kV,doc,pm,an,YZ,ct,ur,rfl,l,c⟩,k⟩
theorem Q5(hr:dD k A):A.units+1<XE:=PL (Nat.add_le_add_left (by decide:1<=64) _) hr.units
theorem b9(h:n<=9000):n<VW:=PL h ∅
theorem Qh:jR X (.builtin "abs") (λxs H Q=>∃i:Int,xs=[.int i]/\Q (.int (i.natAbs:Int)) H):=by
 intro pins s σ H xs us Q I r h;obtain⟨i,rfl,q⟩:=h;obtain⟨u,rfl,rx⟩:=yP r;obtain⟨t,rfl⟩:=rx;have e:(if i<0 then -i else i)=(i.natAbs:Int):=by split<;>lia
 exact call_abs_int λu tk=>⟨.int (i.natAbs:Int),H,I.tok _,⟨u,by rw[e]⟩,q⟩
theorem Qj:jR X (.type "int") (λxs H Q=>∃b:Bool,xs=[.bl b]/\Q (.int (if b then 1 else 0)) H):=by
 intro pins s σ H xs us Q I r h;obtain⟨b,rfl,q⟩:=h;obtain⟨u,rfl,rx⟩:=yP r;cases rx;exact PySem.call_int_bool ⟨.int _,H,I.tok _,⟨_,rfl⟩,q⟩
theorem Ql(hc:X.calm=true):jR X (.builtin "min") (λxs H Q=>∃a b:Int,xs=[.int a,.int b]/\Q (.int (if b<a then b else a)) H):=by
 intro pins s σ H xs us Q I r h;obtain⟨a,b,rfl,q⟩:=h;obtain⟨u,v,rfl,rx,ry⟩:=bA.two r;obtain⟨t,rfl⟩:=rx;obtain⟨t',rfl⟩:=ry;refine min_two_ints (I.ok.hd hc) λh' tk hk=>?_
 by_cases c:b<a
 ·simp only[oV c]at q⊢;exact⟨.int b,H,I.kept hk,⟨_,rfl⟩,q⟩
 ·simp only[oW c]at q⊢;exact⟨.int a,H,I.kept hk,⟨_,rfl⟩,q⟩
theorem aU.turnedLaid{X:Cx}{pins:List (VN×Obj)}{σ:St}{H:Hp}{s:oB}{h':oE}{t':Nat}{ch:List VN}{a:VN}{o:HO}(I:aU X pins σ H s)(k:∀b u,b∉ch->s.heap.get? b=oZ u->h'.get? b=oZ u)(hf:∀b∈ch,rL X pins H b)(hp:s.heap.objs.size<=a)(new:dU X.prog X.w (upd H a o) h' a o):aU X pins σ (upd H a o) { s with heap:=h',toks:=t' }:=by
 have hn:=I.hok.fresh hp;have um:∀b u,H b=oZ u->b∉ch:=λb u e z=>by rw[(hf b z).1]at e;cases e
 refine I.step (g':=s.gens) (d':=s.drawn) (ch:=ch) (λb hb=>⟨(hf b hb).2.2.2.1,(hf b hb).2.1,(hf b hb).2.2.2.2.1,(hf b hb).2.2.2.2.2⟩) (λb u _ _ hc e _=>k b u hc e) (λb u _ _ hc e _=>⟨u.slots,k b u hc e⟩)
  (λb u hc e n=>by rw[bE (PB (OI (OH e) hp))];exact n) (λb u hc e=>⟨u,k b u hc e⟩) (λb xs e=>by rw[bE (a8 e hn)];exact e) (λb u xs e=>by rw[bE (a8 e hn)];exact e)
  (λb ps e=>⟨#[],by rw[bE (a8 e hn),e];simp⟩) (λm hm=>?_) (λb u e=>?_) I.bare
 ·obtain⟨ob,es,ep,ho,r⟩:=hm;exact⟨ob,es,ep,k _ ob (λz=>(hf _ z).2.1 rfl) ho,r⟩
 ·by_cases hb:b=a
  ·subst hb;rw[dP]at e;cases e;exact new
  ·rw[bE hb]at e;refine(I.hok b u e).stay (λc v hc q=>k c v ?_ q) (λc q=>by rw[bE (a8 q hn)];exact q) λc xs q=>by rw[bE (a8 q hn)];exact q
   obtain z|z:=hc
   ·rw[z];exact um b u e
   ·exact um c _ z
theorem aU.turnedL{X:Cx}{pins:List (VN×Obj)}{σ:St}{H:Hp}{s:oB}{h':oE}{t':Nat}{ch:List VN}(I:aU X pins σ H s)(k:∀b u,b∉ch->s.heap.get? b=oZ u->h'.get? b=oZ u)(hf:∀b∈ch,rL X pins H b):aU X pins σ H { s with heap:=h',toks:=t' }:=by
 have um:∀b u,H b=oZ u->b∉ch:=λb u e z=>by rw[(hf b z).1]at e;cases e
 refine I.step (g':=s.gens) (d':=s.drawn) (ch:=ch) (λb hb=>⟨(hf b hb).2.2.2.1,(hf b hb).2.1,(hf b hb).2.2.2.2.1,(hf b hb).2.2.2.2.2⟩) (λb u _ _ hc e _=>k b u hc e) (λb u _ _ hc e _=>⟨u.slots,k b u hc e⟩)
  (λb u hc e n=>n) (λb u hc e=>⟨u,k b u hc e⟩) (λb xs e=>e) (λb u xs e=>e) (λb ps e=>⟨#[],by rw[e];simp⟩) (λm hm=>?_) (λb u e=>?_) I.bare
 ·obtain⟨ob,es,ep,ho,r⟩:=hm;exact⟨ob,es,ep,k _ ob (λz=>(hf _ z).2.1 rfl) ho,r⟩
 ·refine(I.hok b u e).stay (λc v hc q=>k c v ?_ q) (λc q=>q) λc xs q=>q;obtain z|z:=hc
  ·rw[z];exact um b u e
  ·exact um c _ z
def JM(K:W.Frag)(a:VN):It:=
 ⟨λi H=>∃xs x,lZ K H a xs/\xs[i]?=oZ x,λi H x H'=>∃p y,x = .ref p/\H p=none/\H'=upd H p (.tup [.int (i:Int),y])/\∀xs,lZ K H a xs->xs[i]?=oZ y,λi H=>∃xs,lZ K H a xs/\xs.length<=i⟩
theorem Sq{P:VQ}{w:VU}{K:W.Frag}{elts:List oC}{x1}{fi:Pos}(a e it:VN)(fg:e≠it):
  Jg P w K (.Tuple elts x1 fi) (JM K a) [e,it] e (λi h=>(∃old,IsEnum h e it (i:Nat) old)/\h.IsListIter it a i) where
 mem:=by simp
 obj:=λi h st b hb=>by
  obtain⟨⟨old,he⟩,⟨o,ho,hc,hd⟩⟩:=st;obtain rfl|hb:=NZ.mp hb
  ·exact⟨_,he,λv z=>by cases z⟩
  ·rw[PD.mp hb];exact⟨o,ho,λv z=>by rw[hd]at z;cases z⟩
 keep:=λi h h' st k=>⟨let⟨old,he⟩:=st.1;⟨old,k e (by simp) _ he⟩,st.2.at λo x=>k it (by simp) o x⟩
 item:=by
  intro X hP hw hK hc i pins s σ H E I hf st hg;subst hP hw hK;obtain⟨xs,x,hq,hx⟩:=hg;obtain⟨XX,rv,p,hz⟩:=I.list hq;obtain⟨u,hu,ru⟩:=rv.get hx;obtain⟨⟨old,he⟩,hit⟩:=st;refine wpAny_pyNext_enum_item he hit p.isList (x:=u) (by simpa using hu) fg λh1 ho aCA ht hsz hk=>⟨_,rfl,?_⟩;refine wpAny_letOwnedTupleGo_enum ho λh2 he2 jc=>?_;have hen:e≠s.heap.objs.size:=PB (OH he);have kk:∀b o,b∉[e,it]->s.heap.get? b=oZ o->h2.get? b=oZ o:=λb o hb q=>by
   have h1':b≠e:=λz=>hb (by simp[z]);have we:b≠it:=λz=>hb (by simp[z]);exact jc.extBut b o h1' (hk b o h1' we q)
  have new:dU X.prog X.w (upd H s.heap.objs.size (.tup [.int (i:Int),x])) h2 s.heap.objs.size (.tup [.int (i:Int),x]):=
   ⟨by show 2<=VW;decide,[.int i s.toks,u],.cons ⟨_,rfl⟩ (.cons ru .nil),⟨_,jc.extBut _ _ (Ne.symm hen) ht,rfl,_,rfl⟩⟩
  refine⟨.ref s.heap.objs.size,upd H s.heap.objs.size (.tup [.int (i:Int),x]),I.turnedLaid (t':=s.toks+1) (ch:=[e,it]) kk hf (OF _) new,rfl,
   ⟨_,x,rfl,I.hok.fresh (OF _),rfl,λys hy=>by rw[I.list_inj hy hq];exact hx⟩,⟨⟨_,by simpa using he2⟩,aCA.extBut jc.extBut (Ne.symm fg)⟩,λb hb=>?_⟩
  have ag:b<s.heap.objs.size:=by
   obtain rfl|hb:=NZ.mp hb
   ·exact OH he
   ·rw[PD.mp hb];obtain⟨o,qg,_⟩:=hit;exact OH qg
  rw[bE (PB ag)];exact(hf b hb).1
 done:=by
  intro X hP hw hK hc i pins s σ H E I hf st hg;subst hP hw hK;obtain⟨xs,hq,hx⟩:=hg;obtain⟨XX,rv,p,hz⟩:=I.list hq;have hl:=rv.length;obtain⟨⟨old,he⟩,hit⟩:=st;refine wpAny_pyNext_enum_end (I.ok.hd hc) he hit p.isList (by simp;lia) λh1 eb=>⟨rfl,?_⟩;exact I.turnedL (t':=s.toks) (ch:=[e,it]) (λb o hb q=>eb b o (λz=>hb (by simp[z])) q) hf
 self:=λ_ _ _ _ _ st h=>let⟨old,he⟩:=st.1;wpAny_pyIter_enum he h
def Q6(K:W.Frag)(ta:TA):TI:=λσ H R=>ta σ H λvs H1=>∃a,vs=[.ref a]/\(∃xs,lZ K H1 a xs)/\R (JM K a) H1
theorem K5{x1}(hg:Gl X "enumerate")(hm:X.mg "enumerate" = none)(ha:PA X [a] ta)(hs:VZ [a] X.env=[(false,VY a X.env)]:=by rfl):
  PI X (.Tuple elts x1 fi) (.Call (.Name "enumerate" p) [a] [] pos) (Q6 X.K ta):=by
 intro pins s σ H R I h;refine Call_ (qO I hg hm boot_enumerate (PyProof.Rows.callWith_type1 (dQ (ha pos pins s σ H _ I h) λus s1⟨vs,H1,I1,r1,q1⟩=>?_) hs rfl));obtain⟨l,rfl,⟨xs,hq⟩,q⟩:=q1;obtain⟨u,rfl,ru⟩:=bA.one r1;cases ru;obtain⟨XX,rv,pl,hz⟩:=I1.list hq;refine call_enumerate_list pl.isList λh' he hit hsz hk=>?_;refine wpAny_pyIter_enum he ?_;refine⟨s1.heap.objs.size+1,[s1.heap.objs.size+1,s1.heap.objs.size],_,_,H1,rfl,I1.kept (t':=s1.toks) hk,Sq l _ _ (Nat.succ_ne_self _),⟨⟨_,he⟩,hit⟩,λb hb=>?_,q⟩;have hle:s1.heap.objs.size<=b:=by
  obtain rfl|hb:=NZ.mp hb
  ·exact VD _
  ·rw[PD.mp hb];exact OF _
 exact I1.fpOk hle (I1.hok.fresh hle)
theorem Aq(h:Runs M Γ p t fs s e s'):s.toks<=s'.toks:=by
 induction h with
 |fresh _ ih=>exact PQ (VD _) ih
 |_=>first|exact OF _|assumption|(rename_i i1 i2;exact PQ i1 i2)
theorem Me(h:Wakes M Γ p g r s res s'):s.toks<=s'.toks:=by
 have:=Aq ((Sem.runs_resume_iff M Γ (l:=[]) (k:=λ_=>Sem.pure (.done .next))).mpr ⟨res,s',h,.done⟩);exact this
theorem P0{α:Type}(t:Sem α):∀{Q:α->Pos->oB->Prop}{E:oA->Pos->oB->Prop}{p:Pos}{s:oB},Sem.wp M Γ t Q E p s->Sem.wp M Γ t (λa p' s'=>Q a p' s'/\s.toks<=s'.toks) E p s:=by
 have up:∀{t:Sem α}{Q:α->Pos->oB->Prop}{E:oA->Pos->oB->Prop}{p:Pos}{s:oB}{a b:Nat},a<=b->Sem.wp M Γ t (λa p' s'=>Q a p' s'/\b<=s'.toks) E p s->Sem.wp M Γ t (λx p' s'=>Q x p' s'/\a<=s'.toks) E p s:=λ{t Q E p s a b}l h=>Sem.wp_mono M Γ t (λ_ _ _ h=>⟨h.1,PQ l h.2⟩) (λ_ _ _ h=>h) p s h
 induction t with
 |pure x=>exactλh=>⟨h,OF _⟩
 |raise v=>exact id
 |unsupported|finish|yield|fork|await|register=>exactλh=>h
 |fresh k ih=>exactλh=>up (VD _) (ih _ h)
 |rule _ k ih|«at» _ k ih|alloc _ k ih|loadIfAlive _ k ih|point _ k ih|ask k ih|os _ _ k ih|handled _ k ih|newGen _ k ih|stack k ih|thread k ih=>exactλh=>ih _ h
 |load a _ k ih|genState a k ih=>exactλzZ=>by obtain⟨o,ho,h⟩:=zZ;exact⟨o,ho,ih _ h⟩
 |update a _ f k ih|choose _ _ k ih=>exactλzZ=>by obtain⟨ha,h⟩:=zZ;exact⟨ha,ih _ h⟩
 |call c h g l k ih=>exactλzZ=>by obtain⟨r,s',hr,h⟩:=zZ;exact⟨r,s',hr,up (Aq hr) (ih _ h)⟩
 |resume g r l k ih=>exactλzZ=>by obtain⟨res,s',hw,h⟩:=zZ;exact⟨res,s',hw,up (Me hw) (ih _ h)⟩
theorem Mf{α:Type}{t:Sem α}{Q:α->oB->Prop}{E:oA->oB->Prop}(h:VP M A t Q E s):VP M A t (λa s'=>Q a s'/\s.toks<=s'.toks) E s:=λΓ p hA=>P0 t (h Γ p hA)
theorem Iu{α:Type}{t:Sem α}{Q Q':α->oB->Prop}{E:oA->oB->Prop}(h:VP M A t Q E s)(hQ:∀a s',Q a s'->s.toks<=s'.toks->Q' a s'):VP M A t Q' E s:=dQ (Mf h) λa s' z=>hQ a s' z.1 z.2
def V3(e target iter:oC)(ifs:List oC)(EC:Sem Unit)(it acc:oA)(env:Env):Sem Fin:=do
 standAt iter.pos
 match <-pyNext it with
 |none=>pure (.done .next)
 |some v=>
  WS target it v
  WX target env v
  let mut ok:=true
  for c in ifs do
   if ok then ok <-isTrue c env (VY c env)
  if ok then EC
  again (.compLoop e 0 it acc env)
theorem pV {R:Result->oB->Prop} (ht:(VR prog w).den (.compLoop e 0 it acc env)=(V3 e target iter ifs EC it acc env).onRaise λx=>do noteFrame x env;theTreesLotGoes x) (hA:A.under (.compLoop e 0 it acc env)=A) (I:Nat->oB->Prop) (turn:∀n s,I n s->VP (VR prog w) A (pyNext it) (λr s₁=>match r with
   | none=>R (.ok .next) s₁
   | some v=>VP (VR prog w) A (WS target it v) (λ_ s₂=>VP (VR prog w) A (WX target env v) (λ_ s₃=>VP (VR prog w) A (forIn ifs true λc r=>if r=true then do let ok <-isTrue c env (VY c env);pure (ForInStep.yield ok) else pure (ForInStep.yield r)) (λok s₃'=>if ok=true then VP (VR prog w) A EC (λ_ s₅=>∃m,m<n/\I m s₅) (λ_ _=>False) s₃' else ∃m,m<n/\I m s₃') (λ_ _=>False) s₃) (λ_ _=>False) s₂) (λ_ _=>False) s₁) (λ_ _=>False) s) (n:Nat) (h:I n s):XM (VR prog w) A (.compLoop e 0 it acc env) R s:=by
 refine codeAny_loop rfl I (λn s hI=>?_) n h;rw [ht,hA];refine wpAny_noted ?_;refine VO (XI (VO (WM (turn n s hI) (λr s₁ h₁=>?_) λ_ _ h'=>h'.elim)));cases r with
 | none=>exact VV h₁
 | some v=>
  refine VO (WM h₁ (λ_ s₂ h₂=>VO (WM h₂ (λ_ s₃ h₃=>VO (WM h₃ (λok s₃' h₃'=>?_) λ_ _ h'=>h'.elim)) λ_ _ h'=>h'.elim)) λ_ _ h'=>h'.elim);cases ok with
  | false=>exact VV ⟨rfl,h₃'⟩
  | true=>exact VO (WM h₃' (λ_ s₅ h₅=>VV ⟨rfl,h₅⟩) λ_ _ h'=>h'.elim)
def Jm(env:Env):List (Str×NameKind)->List (Str×VN)->List (Str×VN)
 |[],cs=>cs
 |(n,k)::r,cs=>Jm env r (if k==.free then(match env.cells.lookup n with|some c=>(n,c)::cs|none=>cs)else cs)
def Br(scope:XC)(env:Env):List (Str×VN):=Jm env scope.names []
theorem Bq(env:Env):∀(ns:List (Str×NameKind))(cs:List (Str×VN)),(∀y∈ns,y.2 = .free->∃c,env.cells.lookup y.1=oZ c)->
  (forIn ns cs (λx r=>do
   if x.2==.free then
    let a <-cellOf env x.1
    pure (ForInStep.yield ((x.1,a)::r))
   else pure (ForInStep.yield r)):Sem (List (Str×VN)))=pure (Jm env ns cs)
 |[],cs,_=>rfl
 |(n,k)::r,cs,h=>by
  rw[List.forIn_cons]
  by_cases hk:k = .free
  ·subst hk;obtain⟨c,hc⟩:=h (n,.free) OK rfl;have iw:env.cells.lookup n=oZ c:=hc;have e:cellOf env n=pure c:=by unfold cellOf;rw[iw]
   simp only[beq_self_eq_true,if_true,e,pure_bind,Jm,iw];exact Bq env r _ λy hy=>h y (OC _ hy)
  ·have hb:(k==NameKind.free)=false:=by simpa using hk
   simp only[hb,Bool.false_eq_true,if_false,pure_bind,Jm];exact Bq env r _ λy hy=>h y (OC _ hy)
theorem yW(h:∀y∈scope.names,y.2 = .free->∃c,env.cells.lookup y.1=oZ c):closureFor scope env=pure (Br scope env):=by
 have e:=Bq env scope.names [] h;unfold Br;rw[<-e];unfold closureFor;simp only[bind_pure]
theorem Fm(env:Env):∀(ns:List (Str×NameKind))(cs:List (Str×VN))(x:Str)(c:VN),(∀x c,cs.lookup x=oZ c->env.cells.lookup x=oZ c)->(Jm env ns cs).lookup x=oZ c->env.cells.lookup x=oZ c
 |[],_,x,c,h,e=>h x c e
 |(n,k)::r,cs,x,c,h,e=>by
  refine Fm env r _ x c (λy d hd=>?_) e
  by_cases hk:(k==NameKind.free)=true
  ·rw[oV hk]at hd;cases q:env.cells.lookup n with
   |none=>rw[q]at hd;exact h y d hd
   |some a=>
    rw[q]at hd;simp only[RJ]at hd;cases b:y==n with
    |true=>rw[b]at hd;cases hd;rw[eq_of_beq b];exact q
    |false=>rw[b]at hd;exact h y d hd
  ·rw[oW hk]at hd;exact h y d hd
theorem Ft(e:(Br scope env).lookup x=oZ c):env.cells.lookup x=oZ c:=Fm env _ _ x c (λ_ _ h=>by simp at h) e
theorem Fl(env:Env):∀(ns:List (Str×NameKind))(cs:List (Str×VN))(x:Str)(c:VN),(cs.lookup x=oZ c\/(x,NameKind.free)∈ns)->env.cells.lookup x=oZ c->(Jm env ns cs).lookup x=oZ c
 |[],_,x,c,h,_=>h.elim (λz=>z) (λz=>by simp at z)
 |(n,k)::r,cs,x,c,h,e=>by
  refine Fl env r _ x c ?_ e;obtain h|h:=h
  ·refine .inl ?_
   split
   ·cases q:env.cells.lookup n with
    |none=>exact h
    |some a=>
     simp only[RJ];cases b:x==n with
     |true=>rw[<-eq_of_beq b,e]at q;exact q.symm
     |false=>exact h
   ·exact h
  ·obtain z|z:=NZ.mp h
   ·injection z with z1 z2;subst z1 z2;refine .inl ?_;simp only[beq_self_eq_true,if_true,e,RJ]
   ·exact .inr z
theorem Fs(h:(x,NameKind.free)∈scope.names)(e:env.cells.lookup x=oZ c):(Br scope env).lookup x=oZ c:=Fl env _ _ x c (.inr h) e
theorem sJ{env:Env}:∀{names:List (Str×NameKind)}{x:Str},(∀y∈names,y.2≠.cell)->
    ((names.map λ(n,k)=>if(k==NameKind.free&&env.scope.kind==.function&&env.kindOf n==oZ .cell)then(n,NameKind.cell)else(n,k)).lookup x=oZ .cell\/
     (names.map λ(n,k)=>if(k==NameKind.free&&env.scope.kind==.function&&env.kindOf n==oZ .cell)then(n,NameKind.cell)else(n,k)).lookup x=oZ .free)->(x,NameKind.free)∈names
  |[],_,_,h=>by simp at h
  |(n,k)::r,x,hc,h=>by
    have ih:=@sJ env r x λy hy=>hc y (OC _ hy);have hk:k≠.cell:=hc (n,k) OK;simp only[PZ]at h
    by_cases q:(k==NameKind.free&&env.scope.kind==.function&&env.kindOf n==oZ .cell)=true
    . rw[oV q]at h
      simp only[RJ]at h;cases b:x==n with
      |true=>
        have:k = .free:=by simp only[PF]at q;exact eq_of_beq q.1.1
        subst this;rw[eq_of_beq b];exact OK
      |false=>rw[b]at h;exact OC _ (ih h)
    . rw[oW q]at h
      simp only[RJ]at h;cases b:x==n with
      |true=>
        rw[b]at h;obtain h|h:=h
        . exact absurd (Option.some.inj h) hk
        . have:k = .free:=Option.some.inj h
          subst this;rw[eq_of_beq b];exact OK
      |false=>rw[b]at h;exact OC _ (ih h)
theorem uR{env:Env}:∀{names:List (Str×NameKind)}{x:Str},names.lookup x=oZ .free->
    ((names.map λ(n,k)=>if(k==NameKind.free&&env.scope.kind==.function&&env.kindOf n==oZ .cell)then(n,NameKind.cell)else(n,k)).lookup x=oZ .cell\/
     (names.map λ(n,k)=>if(k==NameKind.free&&env.scope.kind==.function&&env.kindOf n==oZ .cell)then(n,NameKind.cell)else(n,k)).lookup x=oZ .free)
  |[],_,h=>by simp at h
  |(n,k)::r,x,h=>by
    have ih:=@uR env r x;simp only[PZ];simp only[RJ]at h
    by_cases q:(k==NameKind.free&&env.scope.kind==.function&&env.kindOf n==oZ .cell)=true
    . rw[oV q]
      simp only[RJ];cases b:x==n with
      |true=>exact .inl rfl
      |false=>rw[b]at h;exact ih h
    . rw[oW q]
      simp only[RJ];cases b:x==n with
      |true=>rw[b]at h;exact .inr h
      |false=>rw[b]at h;exact ih h
def aW(X:Cx)(N':List Str)(scope:XC)(C:VN)(s3:oB)(H3:Hp)(fp:List VN):Cx:=
 { X with N:=N',s₀:=s3,H₀:=H3,env:=compEnvC scope (Br scope X.env) C X.env,outer:=X.stack,stack:=X.stack,ex:=fp,fn:=λ_=>false,pn:=[],xe:=λ_ _=>False }
def g8(t:Nat)(cap:List Nat)(σ:St):St:=OE t none++cap.map λk=>(σ[k]?).join
def EE(J:It)(D:VN)(g:TG)(te:TE)(Q:VK)(σ:St)(H:Hp):Prop:=∃W:Nat->Nat->St->Hp->Prop,(∃m,W 0 m σ H)/\∀i m σ' H',W i m σ' H'->
 (J.stop i H'/\Q (.ref D) H')\/(J.go i H'/\∀x H2,J.yld i H' x H2->g x σ' H2 λσ3 H3=>te σ3 H3 λy H4=>∃ys,H4 D=oZ (.lst ys)/\ys.length<VW/\∃m',m'<m/\W (i+1) m' σ3 (upd H4 D (.lst (ys++[y]))))
def Aw(t:Nat)(cap:List Nat)(wi:TI)(g:TG)(te:TE):TE:=λσ H Q=>wi σ H λJ H1=>∀D,H1 D=none->EE J D g te Q (g8 t cap σ) (upd H1 D (.lst []))
def W9(J:It)(D:VN)(g:TG)(tb:TT)(tel:St->Hp->(Hp->Prop)->Prop)(Q:VK)(σ:St)(H:Hp):Prop:=∃W:Nat->Nat->St->Hp->Prop,(∃m,W 0 m σ H)/\∀i m σ' H',W i m σ' H'->
 (J.stop i H'/\Q (.ref D) H')\/(J.go i H'/\∀x H2,J.yld i H' x H2->g x σ' H2 λσ3 H3=>tb σ3 H3 λok vd=>if ok=true then tel σ3 vd λH4=>∃m',m'<m/\W (i+1) m' σ3 H4 else ∃m',m'<m/\W (i+1) m' σ3 vd)
def W8(J:It)(D:VN)(g:TG)(tb:TT)(te:TE)(Q:VK)(σ:St)(H:Hp):Prop:=∃W:Nat->Nat->St->Hp->Prop,(∃m,W 0 m σ H)/\∀i m σ' H',W i m σ' H'->
 (J.stop i H'/\Q (.ref D) H')\/(J.go i H'/\∀x H2,J.yld i H' x H2->g x σ' H2 λσ3 H3=>tb σ3 H3 λok vd=>if ok=true then te σ3 vd λy H4=>∃ys,H4 D=oZ (.lst ys)/\ys.length<VW/\∃m',m'<m/\W (i+1) m' σ3 (upd H4 D (.lst (ys++[y])))else ∃m',m'<m/\W (i+1) m' σ3 vd)
def rF(t:Nat)(cap:List Nat)(wi:TI)(g:TG)(tb:TT)(te:TE):TE:=λσ H Q=>wi σ H λJ H1=>∀D,H1 D=none->W8 J D g tb te Q (g8 t cap σ) (upd H1 D (.lst []))
def P2(X:Cx)(ifs:List oC)(t:TT):Prop:=
 ∀(pins:List (VN×Obj))(s:oB)(σ:St)(H:Hp)(Q:Bool->Hp->Prop),aU X pins σ H s->t σ H Q->VP (VR X.prog X.w) X.A (forIn ifs true λc r=>if r=true then do let ok <-isTrue c X.env (VY c X.env);pure (ForInStep.yield ok)else pure (ForInStep.yield r)) (TP X pins σ Q) X.xe s
theorem PT.one(h:PT X c t):P2 X [c] t:=λ_ _ _ _ _ I z=>wpAny_tests_one (h _ _ _ _ _ I z)
structure bM(X:Cx)(N':List Str)(scope:XC)(t:Nat)(cap:List Nat):Prop where
 kind:scope.kind = .function
 cell:∀y∈scope.names,y.2≠.cell
 names:∀y∈scope.names,y.2 = .local->scope.names.lookup y.1=oZ .local
 free:∀y∈scope.names,y.2 = .free->(X.env.kindOf y.1=oZ .cell\/X.env.kindOf y.1=oZ .free)
 len:N'.length=t+cap.length
 caps:∀(j k:Nat),cap[j]?=oZ k->∃x,N'[t+j]?=oZ x/\X.N[k]?=oZ x/\scope.names.lookup x=oZ .free
section
variable{X:Cx}
theorem Jn(S:bM X N' scope t cap)(I3:aU X pins σ H3 s3)(hf:∀b∈fp,rL X pins H3 b)(hob:∀b∈fp,∃o,s3.heap.get? b=oZ o)(sj:h₁.Ns s3.heap.objs.size λ_=>none)(k:∀b o,s3.heap.get? b=oZ o->h₁.get? b=oZ o):
  aU (aW X N' scope s3.heap.objs.size s3 H3 fp) [] (g8 t cap σ) H3 { s3 with heap:=h₁,toks:=tk }:=by
 have dh:∀{x:Str}{c:VN},(Br scope X.env).lookup x=oZ c->X.env.cells.lookup x=oZ c:=λe=>Ft e;have oy:∀{c:VN}{v:Option oA},s3.heap.IsCell c v->h₁.IsCell c v:=λzZ=>by obtain⟨o,e,d⟩:=zZ;exact⟨o,k _ _ e,d⟩
 have ve:∀{x:Str},scope.names.lookup x=oZ .free->(x,NameKind.free)∈scope.names:=λe=>PySem.mem_of_lookup e;refine⟨⟨I3.mod,S.kind,I3.ok.glob,I3.ok.blt,OF _,?_,?_,?_,I3.ok.hd,I3.ok.frames,.inl rfl,?_,I3.bs,PQ I3.ok.bsz I3.sz,?_,?_,I3.stack,I3.stkFree⟩,
  rfl,I3.bare,Un.kept k,⟨_,sj,?_⟩,?_,?_,?_,?_,I3.hok.kept k,?_⟩
 ·intro x y c h1 h2;exact I3.ok.inj x y c (dh h1) (dh h2)
 ·intro x hx;have hm:(x,NameKind.free)∈scope.names:=sJ S.cell hx;obtain⟨c,hc⟩:=I3.ok.has x (S.free _ hm rfl);exact⟨c,Fs hm hc⟩
 ·intro x c h;cases h
 ·intro b hb;obtain⟨o,ho⟩:=hob b hb;exact⟨PB (OH ho),λx c e=>(hf b hb).2.2.2.2.1 x c (dh e)⟩
 ·intro b o e hb;rcases(hf b hb).2.2.2.1 with z|z
  ·exact I3.ok.noex b o e z
  ·exact absurd (OI (OI (OH e) I3.ok.bsz) z) (Nat.lt_irrefl _)
 ·intro b hb hz;obtain z|z:=NZ.mp (I3.stkSub b hz)
  ·exact(hf b hb).2.1 z
  ·exact(hf b hb).2.2.1 z
 ·intro i x v e1 e2 e3;have ht:t<=i:=by
   obtain q|q:=OY i t
   ·unfold g8 at e2;rw[OO (by simpa using q),SD]at e2;split at e2<;>cases e2
   ·exact q
  obtain⟨j,rfl⟩:∃j,i=t+j:=⟨i-t,⋯⟩;unfold g8 at e2;rw[OX (by simp),RQ,Nat.add_sub_cancel_left,NY]at e2;cases q:cap[j]? with
  |none=>rw[q]at e2;cases e2
  |some m=>
   rw[q]at e2;have e2':(σ[m]?).join=oZ v:=Option.some.inj e2;have aCC:σ[m]?=oZ (oZ v):=by
    cases z:σ[m]? with
    |none=>rw[z]at e2';cases e2'
    |some w=>rw[z]at e2';have:w=oZ v:=e2';rw[this]
   obtain⟨x',c1,c2,c3⟩:=S.caps j m q;have ex:x'=x:=by
    have e1':N'[t+j]?=oZ x:=e1;rw[c1]at e1';exact Option.some.inj e1'
   subst ex;have hk:=S.free _ (ve c3) rfl;obtain⟨mm,hn,hl⟩:=I3.loc;obtain⟨u,r,L⟩:=hl m x' v c2 aCC (by obtain z|z:=hk;exact .inr (.inl z);exact .inr (.inr z));refine⟨u,r,?_⟩;obtain⟨z,_⟩|⟨_,c,hc,iy⟩:=L
   ·rcases hk with y|y<;>(have y':X.env.kindOf x'=_:=y;rw[z]at y';cases y')
   ·exact .inr ⟨uR c3,c,Fs (ve c3) hc,oy iy⟩
 ·intro x c e;obtain⟨v,z⟩:=I3.cell x c (dh e);exact⟨v,oy z⟩
 ·exact I3.hok.fresh (OF _)
 ·intro x c e;exact I3.freeC x c (dh e)
 ·intro p hp;exact absurd (show p∈([]:List (VN×Obj))from hp) (by simp)
 ·show(g8 t cap σ).length=N'.length;unfold g8;rw[S.len,OB,RQ,OD]
theorem zU{EC:VN->Env->Sem Unit}{tel:VN->St->Hp->(Hp->Prop)->Prop}{wi:TI}{QQ:oA->oB->Prop}{s:oB}{Q:VK}(hc:X.calm=true)(S:bM X N' scope t cap)(hi:PI X target iter wi)(hg:∀C s3 H3 fp,PG (aW X N' scope C s3 H3 fp) target g)(hb:∀C s3 H3 fp,P2 (aW X N' scope C s3 H3 fp) ifs tb)(hs:∀x,VX iter X.env x=pure x)(I:aU X pins σ H s)(ht0:n0<=s.toks)(hcl:clausesOf e=[⟨target,iter,ifs,0⟩])(hsz:sizeOk data)(hob:∀{s H},aU X pins σ H s->aU X pins σ (upd H s.heap.objs.size ho) { s with heap:=s.heap.push { cls:=.type ty,dict:=none,data:=data } })(hel:∀C s3 H3 fp D pins s σ H(R:Hp->Prop)(Q:oB->Prop),aU (aW X N' scope C s3 H3 fp) pins σ H s->n0<=s.toks->tel D σ H R->(∀s' H',aU (aW X N' scope C s3 H3 fp) pins σ H' s'->n0<=s'.toks->R H'->Q s')->VP (VR X.prog X.w) X.A (EC D (aW X N' scope C s3 H3 fp).env) (λ_=>Q) (λ_ _=>False) s)(ht:∀it D env,(VR X.prog X.w).den (.compLoop e 0 it (.ref D) env)=(V3 e target iter ifs (EC D env) it (.ref D) env).onRaise λx=>do noteFrame x env;theTreesLotGoes x)(hA:∀it D env,X.A.under (.compLoop e 0 it (.ref D) env)=X.A)(mq:∀{it acc:oA}{env:Env}{R:Result->oB->Prop}{s:oB},XM (VR X.prog X.w) X.A (.compLoop e 0 it acc env) R s->VP (VR X.prog X.w) X.A (pyIter it) (λit' s'=>XM (VR X.prog X.w) X.A (.compLoop e 0 it' acc env) R s') (notedBy (VR X.prog X.w) X.A env λx s'=>R (.error x) s') s->XM (VR X.prog X.w) X.A (.compStart e 0 it acc env) R s)(h:wi σ H λJ H1=>∀D,H1 D=none->W9 J D g tb (tel D) Q (g8 t cap σ) (upd H1 D ho))(fin:∀(s3 s6:oB)(H3 H5:Hp)(fp:List VN)(D:VN)(m:Str->Option oA),aU X pins σ H3 s3->(∀b∈fp,(b∈X.ex\/X.s₀.heap.objs.size<=b)/\b≠X.env.locals/\(∀x c,X.env.cells.lookup x=oZ c->c≠b)/\∀p∈X.pn++pins,p.1≠b)->s6.heap.Ns s3.heap.objs.size m->Un (Jc X.stack) fp H3 H5 s3.heap s6.heap->pT X.prog X.w H5 s6.heap->H5 s3.heap.objs.size=none->s6.os=s3.os->WT s6.gens->Q (.ref D) H5->compPost (VR X.prog X.w) X.A X.xe use QQ (.ref D) s3.heap.objs.size (.ok .next) s6):
  VP (VR X.prog X.w) X.A (comprehension e scope X.env (firstIterPos [⟨target,iter,ifs,0⟩] pos) (newObj (.type ty) data) (firstAsync [⟨target,iter,ifs,0⟩]) (firstIter [⟨target,iter,ifs,0⟩] X.env) use) QQ X.xe s:=by
 refine wpAny_comprehension_free (cl:=Br scope X.env) hcl hs (yW λy hy hf=>I.ok.has y.1 (S.free y hy hf)) S.kind S.names (Iu (hi pins s σ H _ I h) λv s1 h1 t1=>Iu h1 λitv s2 h2 t2=>?_);obtain⟨it,fp,tn,J,H2,e,I2,T,st2,f2,h2⟩:=h2;subst e;refine WI (wpAny_newFunctionEnv S.cell (by intro y hy;simp at hy) (λh₁ sj₁ hsb₁=>?_) S.kind) hsz
 dsimp only at sj₁ hsb₁⊢
 obtain⟨s3,rk⟩:∃s3:oB,s3 = { s2 with heap:=s2.heap.push { cls:=.type ty,dict:=none,data:=data } }:=⟨_,rfl⟩;have hD:H2 s2.heap.objs.size=none:=I2.hok.fresh (OF _);have I3:aU X pins σ (upd H2 s2.heap.objs.size ho) s3:=by
  rw[rk];exact hob I2
 have aFV:s3.heap.objs.size=s2.heap.objs.size+1:=by rw[rk];exact RA ..
 have zc:∀b o,s2.heap.get? b=oZ o->s3.heap.get? b=oZ o:=λb o e=>by rw[rk];exact OA _ e
 have hC:(s2.heap.push { cls:=.type ty,dict:=none,data:=data }).objs.size=s3.heap.objs.size:=by rw[rk]
 have f3:∀b∈fp,rL X pins (upd H2 s2.heap.objs.size ho) b:=λb hb=>by
  obtain⟨o,ho,_⟩:=T.obj _ _ st2 b hb;refine⟨?_,(f2 b hb).2⟩;rw[bE (PB (OH ho))];exact(f2 b hb).1
 have ob3:∀b∈fp,∃o,s3.heap.get? b=oZ o:=λb hb=>by
  obtain⟨o,ho,_⟩:=T.obj _ _ st2 b hb;exact⟨o,zc b o ho⟩
 have k1:∀b o,s3.heap.get? b=oZ o->h₁.get? b=oZ o:=λb o e=>by
  refine hsb₁.extBut b o ?_ ?_
  ·rw[hC];exact PB (OH e)
  ·rw[rk]at e;exact OA _ e
 have sj:h₁.Ns s3.heap.objs.size λ_=>none:=by
  rw[<-hC];exact sj₁
 have I4:=Jn (tk:=s2.toks+([]:List (Str×oA)).length) S I3 f3 ob3 sj k1;have st4:tn 0 h₁:=T.keep _ _ _ st2 λb hb o e=>k1 b o (zc b o e);obtain⟨W,⟨m0,w0⟩,turn⟩:=h2 _ hD
 -- the block's context
 obtain⟨X',ff⟩:∃X':Cx,X'=aW X N' scope s3.heap.objs.size s3 (upd H2 s2.heap.objs.size ho) fp:=⟨_,rfl⟩;have hg':PG X' target g:=by rw[ff];exact hg _ _ _ _
 have hb':P2 X' ifs tb:=by rw[ff];exact hb _ _ _ _
 have mw:∀{H':Hp},(∀b∈fp,H' b=none)->∀b∈fp,rL X' [] H' b:=λhn b hb=>by
  obtain⟨o,ho⟩:=ob3 b hb;rw[ff];refine⟨hn b hb,PB (OH ho),?_,.inl hb,λx c e=>(f3 b hb).2.2.2.2.1 x c (Ft e),λp hp=>absurd (show p∈([]:List (VN×Obj))from hp) (by simp)⟩;intro hz;obtain z|z:=NZ.mp (I3.stkSub b hz)
  ·exact(f3 b hb).2.1 z
  ·exact(f3 b hb).2.2.1 z
 have vf:X'.calm=true:=by rw[ff];exact hc
 have loop:XM (VR X.prog X.w) X.A (.compLoop e 0 (.ref it) (.ref s2.heap.objs.size) (compEnvC scope (Br scope X.env) s3.heap.objs.size X.env))
   (compPost (VR X.prog X.w) X.A X.xe use QQ (.ref s2.heap.objs.size) s3.heap.objs.size) { s3 with heap:=h₁,toks:=s2.toks+([]:List (Str×oA)).length }:=by
  refine pV (ht _ _ _) (hA _ _ _) (λn s'=>n0<=s'.toks/\∃i σ' H',aU X' [] σ' H' s'/\tn i s'.heap/\(∀b∈fp,H' b=none)/\W i n σ' H') ?_ m0 ⟨by show n0<=s2.toks+0;lia,0,g8 t cap σ,_,by rw[ff];exact I4,st4,λb hb=>(f3 b hb).1,w0⟩;rintro n s5 ⟨t5,i,σ5,H5,I5,se,fr5,w5⟩;obtain⟨stop,qn⟩|⟨go,step⟩:=turn i n σ5 H5 w5
  ·have q:=T.done X' (by rw[ff];rfl) (by rw[ff];rfl) (by rw[ff];rfl) vf i [] s5 σ5 H5 (λ_ _=>False) I5 (mw fr5) se stop;have eA:X'.A=X.A:=by rw[ff];rfl
   rw[eA]at q;refine dQ q λr s6 zZ=>?_;obtain⟨hr,I6⟩:=zZ;subst hr;obtain⟨m,hn,_⟩:=I6.loc;have qh:s6.heap.Ns s3.heap.objs.size m:=by rw[ff]at hn;exact hn
   have my:Un (Jc X.stack) fp (upd H2 s2.heap.objs.size ho) H5 s3.heap s6.heap:=by have:=I6.base;rw[ff]at this;exact this
   have je:pT X.prog X.w H5 s6.heap:=by have:=I6.hok;rw[ff]at this;exact this
   have ck:H5 s3.heap.objs.size=none:=by have:=I6.free;rw[ff]at this;exact this
   have so:s6.os=s3.os:=by have:=I6.os;rw[ff]at this;exact this
   exact fin _ _ _ _ _ _ _ I3 (λb hb=>⟨(f3 b hb).2.2.2.1,(f3 b hb).2.1,(f3 b hb).2.2.2.2.1,(f3 b hb).2.2.2.2.2⟩) qh my je ck so I6.bare qn
  ·have q:=T.item X' (by rw[ff];rfl) (by rw[ff];rfl) (by rw[ff];rfl) vf i [] s5 σ5 H5 (λ_ _=>False) I5 (mw fr5) se go;have eA:X'.A=X.A:=by rw[ff];rfl
   have eP:X'.prog=X.prog:=by rw[ff];rfl
   have eW:X'.w=X.w:=by rw[ff];rfl
   have eE:X'.env=compEnvC scope (Br scope X.env) s3.heap.objs.size X.env:=by rw[ff];rfl
   have eX:X'.xe=λ_ _=>False:=by rw[ff];rfl
   rw[eA]at q;refine Iu q λr s6 zZ t6=>?_;obtain⟨u,hr,h6⟩:=zZ;subst hr;refine Iu h6 λ_ s7 zZ t7=>?_;obtain⟨x,H7,I7,r7,y7,zd,fr7⟩:=zZ;have I7':=I7.pinned (mw fr7) (T.obj _ _ zd);have q8:=hg' _ s7 σ5 H7 x u _ I7' r7 (step x H7 y7);rw[eA,eP,eW,eE,eX]at q8;refine Iu q8 λ_ s8 zZ t8=>?_;obtain⟨σ8,H8,I8,w8⟩:=zZ;have q8b:=hb' _ s8 σ8 H8 _ I8 w8;rw[eA,eP,eW,eE,eX]at q8b;refine Iu q8b λok s8 zZ t8b=>?_;obtain⟨H8,I8,w8⟩:=zZ;cases ok with
   |false=>
    obtain⟨m',hm,w9⟩:=w8;refine⟨m',hm,⋯,i+1,σ8,_,I8.unpinned,T.keep _ _ _ zd λb hb o e=>(I8.pin (b,o) (ON _ (ON _ (iG hb e)))).1,λb hb=>?_,w9⟩;obtain⟨o,e,d⟩:=T.obj _ _ zd b hb;exact(I8.pin (b,o) (ON _ (ON _ (iG hb e)))).2.1
   |true=>
    have ze:=hel s3.heap.objs.size s3 (upd H2 s2.heap.objs.size ho) fp s2.heap.objs.size _ s8 σ8 H8 _ (λs'=>∃m,m<n/\n0<=s'.toks/\∃i σ' H',aU X' [] σ' H' s'/\tn i s'.heap/\(∀b∈fp,H' b=none)/\W i m σ' H') (by rw[ff]at I8;exact I8) ⋯ w8 λs10 H10 vg t10⟨m',hm,w9⟩=>?_
    ·rw[<-ff,eE]at ze;exact ze
    rw[<-ff]at vg;refine⟨m',hm,t10,i+1,σ8,_,vg.unpinned,T.keep _ _ _ zd λb hb o e=>(vg.pin (b,o) (ON _ (ON _ (iG hb e)))).1,λb hb=>?_,w9⟩;obtain⟨o,e,d⟩:=T.obj _ _ zd b hb;exact(vg.pin (b,o) (ON _ (ON _ (iG hb e)))).2.1
 have es:({ s2 with heap:=h₁,toks:=s2.toks+([]:List (Str×oA)).length }:oB) = { s3 with heap:=h₁,toks:=s2.toks+([]:List (Str×oA)).length }:=by rw[rk]
 rw[es,hC];exact mq loop (T.self _ 0 _ _ _ st4 loop)
def ME(n:Nat)(X:Cx)(e:oC)(t:TE):Prop:=
 ∀(pins:List (VN×Obj))(s:oB)(σ:St)(H:Hp)(Q:VK),aU X pins σ H s->n<=s.toks->t σ H Q->VP (VR X.prog X.w) X.A (VY e X.env) (EP X pins σ Q) X.xe s
theorem wO{QQ:oA->oB->Prop}(hc:X.calm=true)(S:bM X N' scope t cap)(hi:PI X target iter wi)(hg:∀C s3 H3 fp,PG (aW X N' scope C s3 H3 fp) target g)(hb:∀C s3 H3 fp,P2 (aW X N' scope C s3 H3 fp) ifs tb)(he:∀C s3 H3 fp,ME n0 (aW X N' scope C s3 H3 fp) elt te)(hs:∀x,VX iter X.env x=pure x)(I:aU X pins σ H s)(ht0:n0<=s.toks)(h:rF t cap wi g tb te σ H Q)(fin:∀(s3 s6:oB)(H3 H5:Hp)(fp:List VN)(D:VN)(m:Str->Option oA),aU X pins σ H3 s3->(∀b∈fp,(b∈X.ex\/X.s₀.heap.objs.size<=b)/\b≠X.env.locals/\(∀x c,X.env.cells.lookup x=oZ c->c≠b)/\∀p∈X.pn++pins,p.1≠b)->s6.heap.Ns s3.heap.objs.size m->Un (Jc X.stack) fp H3 H5 s3.heap s6.heap->pT X.prog X.w H5 s6.heap->H5 s3.heap.objs.size=none->s6.os=s3.os->WT s6.gens->Q (.ref D) H5->compPost (VR X.prog X.w) X.A X.xe use QQ (.ref D) s3.heap.objs.size (.ok .next) s6):
  VP (VR X.prog X.w) X.A (comprehension (.ListComp elt [⟨target,iter,ifs,0⟩] scope pos) scope X.env (firstIterPos [⟨target,iter,ifs,0⟩] pos) (newList []) (firstAsync [⟨target,iter,ifs,0⟩]) (firstIter [⟨target,iter,ifs,0⟩] X.env) use) QQ X.xe s:=
 zU (ty:="list") (data:=.seq #[]) (ho:=.lst []) (EC:=λD env=>do let _ <-call (.builtin "list.append") [.ref D,<-VY elt env]) (tel:=λD σ H R=>te σ H λy H4=>∃ys,H4 D=oZ (.lst ys)/\ys.length<VW/\R (upd H4 D (.lst (ys++[y])))) hc S hi hg hb hs I ht0 rfl (OG _)
  (λI2=>I2.laid (t':=_) (λb u e=>OA _ e) (OF _) ⟨OG _,[],0,.nil,OL _ rfl⟩)
  (λC s3 H3 fp D pins s σ H R Q I p z k=>VO (Iu (he C s3 H3 fp pins s σ H _ I p z) λy s9 z9 t9=>by
   obtain⟨v9,H9,I9,r9,ys,hD9,ag,hr⟩:=z9;refine VO (Iu (Ah (X:=aW X N' scope C s3 H3 fp) _ s9 σ H9 (.ref D) [v9] (.ref D) [y] (λ_ H10=>H10=upd H9 D (.lst (ys++[v9]))) I9 rfl (.cons r9 .nil) ⟨_,ys,v9,rfl,rfl,hD9,ag,rfl⟩) λ_ s10 z10 t10=>?_);obtain⟨v10,H10,vg,r10,e10⟩:=z10;subst e10;exact VV (k _ _ vg ⋯ hr)))
  (λ_ _ _=>rfl) (λ_ _ _=>rfl) codeAny_compStart_list h fin
theorem Fu(I3:aU X pins σ H3 s3)(f3:∀b∈fp,(b∈X.ex\/X.s₀.heap.objs.size<=b)/\b≠X.env.locals/\(∀x c,X.env.cells.lookup x=oZ c->c≠b)/\∀p∈X.pn++pins,p.1≠b)(qh:s6.heap.Ns s3.heap.objs.size m)(my:Un (Jc X.stack) fp H3 H5 s3.heap s6.heap)(je:pT X.prog X.w H5 s6.heap)(ck:H5 s3.heap.objs.size=none)(so:s6.os=s3.os)(ba:WT s6.gens)(qn:QQ (.ref D) H5):compPost (VR X.prog X.w) X.A X.xe none (EP X pins σ QQ) (.ref D) s3.heap.objs.size (.ok .next) s6:=by
 refine⟨m,qh,λh' xy=>?_⟩;have kp:∀b o,b≠s3.heap.objs.size->s6.heap.get? b=oZ o->h'.get? b=oZ o:=λb o hb e=>xy.extBut b o hb e;have uk:∀{b:VN}{o:Obj},s3.heap.get? b=oZ o->b≠s3.heap.objs.size:=λe=>PB (OH e);have un7:Un (Jc X.stack) fp (H3) H5 s3.heap h':=
  ⟨λb o e n1 n2 n3=>kp b o (uk e) (my.keep b o e n1 n2 n3),λb o e n1 n2 n3=>by obtain⟨sl,z⟩:=my.slot b o e n1 n2 n3;exact⟨sl,kp b _ (uk e) z⟩,my.free,
   λb o e n3=>by obtain⟨o',z⟩:=my.there b o e n3;exact⟨o',kp b _ (uk e) z⟩,my.tups,my.frzs,my.tbls⟩
 have aCE:pT X.prog X.w H5 h':=λb ob e=>by
  refine(je b ob e).stay (λc w' iw q=>kp c w' ?_ q) (λ_ q=>q) λ_ _ q=>q;rintro rfl;obtain rfl|iw:=iw
  ·rw[ck]at e;cases e
  ·rw[ck]at iw;cases iw
 exact⟨.ref D,H5,I3.call' (s':={ s6 with heap:=h' }) (ch:=fp) so un7 aCE ba f3,rfl,qn⟩
theorem Wq(hc:X.calm=true)(S:bM X N' scope t cap)(hi:PI X target iter wi)(hg:∀C s3 H3 fp,PG (aW X N' scope C s3 H3 fp) target g)(hb:∀C s3 H3 fp,P2 (aW X N' scope C s3 H3 fp) ifs tb)(he:∀C s3 H3 fp,PE (aW X N' scope C s3 H3 fp) elt te)(hs:∀x,VX iter X.env x=pure x:=by intro _;rfl):
  PE X (.ListComp elt [⟨target,iter,ifs,0⟩] scope pos) (rF t cap wi g tb te):=by
 intro pins s σ H Q I h;rw[eval_ListComp];exact wO (n0:=0) hc S hi hg hb (λC s3 H3 fp pins s σ H Q I _ z=>he C s3 H3 fp pins s σ H Q I z) hs I (OG _) h λs3 s6 H3 H5 fp D m I3 f3 qh my je ck so ba qn=>Fu I3 f3 qh my je ck so ba qn
theorem J8(hc:X.calm=true)(S:bM X N' scope t cap)(hi:PI X target iter wi)(hg:∀C s3 H3 fp,PG (aW X N' scope C s3 H3 fp) target g)(he:∀C s3 H3 fp,PE (aW X N' scope C s3 H3 fp) elt te)(hs:∀x,VX iter X.env x=pure x:=by intro _;rfl):
  PE X (.ListComp elt [⟨target,iter,[],0⟩] scope pos) (Aw t cap wi g te):=λpins s σ H Q I h=>Wq (tb:=λ_ H Q=>Q true H) hc S hi hg (λ_ _ _ _ _ _ _ _ _ I z=>wpAny_tests_nil ⟨_,I,z⟩) he hs pins s σ H Q I h
end
structure Fn(P:VQ)(w:VU)(K:W.Frag)(mg:Str->Option oA)(base:oE)(k:Nat)(x:Str)(ps:List Str)(sp:Sp):Prop where
 ex:∃f fd,aT P w K mg base cO k f fd ps sp/\mg x=oZ (.ref f)/\W.keepIn K (.ref f)=true/\k8 K fd ps []
theorem GD(F:Fn X.prog X.w X.K X.mg X.base k x ps sp)(hr:dD j X.A)(hk:k<=j)(hg:Gl X x)(ha:PA X (e::es) t)(cg:(x==("__debug__":Str))=false:=by decide)(he:VZ (e::es) X.env=(false,VY e X.env)::VZ es X.env:=by rfl)(uq:(XG pos (VZ es X.env)).any (·.1)=false:=by rfl):PE X (.Call (.Name x p) (e::es) [] pos) (Im sp [] E0 t):=by
 obtain⟨f,fd,F,hm,hkp,hb⟩:=F.ex;exact J6 F (hr.mono hk) hg hm hkp hb .nil GB ha cg he uq
def a9:oC->Bool
 |.Starred _ _=>true
 |_=>false
theorem cK(h:a9 e=false):VZ (e::es) env=(false,VY e env)::VZ es env:=by
 cases e<;>first|rfl|(simp[a9]at h)
def bO:List oC->Bool
 |[]=>true
 |e::es=>!a9 e&&bO es
theorem fL:∀{es:List oC},bO es=true->(XG pos (VZ es env)).any (·.1)=false
 |[],_=>rfl
 |e::es,h=>by
  have h1:a9 e=false:=by simp only[bO,PF,TJ]at h;exact h.1
  have h2:bO es=true:=by simp only[bO,PF]at h;exact h.2
  have ih:=fL (pos:=pos) (env:=env) h2;rw[cK h1];simp only[XG,PZ,UE,Bool.false_or]at ih⊢;exact ih
theorem pc(ha:PE X e te)(hr:PA X es t)(hs:a9 e=false:=by rfl):PA X (e::es) (Yr te t):=J4 ha hr (cK hs)
theorem BD(F:Fn X.prog X.w X.K X.mg X.base k x ps sp)(hr:dD j X.A)(hk:k<=j)(hg:Gl X x)(ha:PA X (e::es) t)(cg:(x==("__debug__":Str))=false:=by decide)(hs:bO (e::es)=true:=by rfl):PE X (.Call (.Name x p) (e::es) [] pos) (Im sp [] E0 t):=
 GD F hr hk hg ha cg (cK (by simp only[bO,PF,TJ]at hs;exact hs.1)) (fL (by simp only[bO,PF]at hs;exact hs.2))
theorem Ry{X:Cx}{pos:Pos}{e:oC}{es:List oC}{t:TA}{x:Str}{p:Pos}{id:String}{r:List V->Hp->VK->Prop}(hc:jR X (.builtin id) r)(hg:Gl X x)(hm:X.mg x=none)(hv:WL x=oZ (.builtin id))(ha:PA X (e::es) t)(hn:x≠"__name__":=by decide)(cg:(x==("__debug__":Str))=false:=by decide)(hs:bO (e::es)=true:=by rfl):PE X (.Call (.Name x p) (e::es) [] pos) (DM r t):=
 Wo hc hg hm hv ha hn cg (cK (by simp only[bO,PF,TJ]at hs;exact hs.1)) (fL (by simp only[bO,PF]at hs;exact hs.2))
theorem Ky{r:List V->Hp->VK->Prop}(hc:jR X (.type T) r)(hg:Gl X x)(hm:X.mg x=none)(hv:WL x=oZ (.type T))(ha:PA X (e::es) t)(hn:x≠"__name__":=by decide)(cg:(x==("__debug__":Str))=false:=by decide)(hs:bO (e::es)=true:=by rfl):PE X (.Call (.Name x p) (e::es) [] pos) (DM r t):=
 Rz hc hg hm hv ha hn cg (cK (by simp only[bO,PF,TJ]at hs;exact hs.1)) (fL (by simp only[bO,PF]at hs;exact hs.2))
structure QE(X:Cx)(e:oC)(t:TE):Prop where
 h:PE X e t
structure QT(X:Cx)(e:oC)(t:TT):Prop where
 h:PT X e t
structure QW(X:Cx)(e:oC)(t:TT):Prop where
 h:PW X e t
structure QA(X:Cx)(es:List oC)(t:TA):Prop where
 h:PA X es t
structure QS(X:Cx)(st:VS)(t:TS):Prop where
 h:PS X st t
structure QB(X:Cx)(st:List VS)(t:TS):Prop where
 h:Mj X st t
structure QG(X:Cx)(e:oC)(t:TG):Prop where
 h:PG X e t
structure Sw(X:Cx)(es:List oC)(t:V8):Prop where
 h:DV X es t
structure QI(X:Cx)(tg e:oC)(t:TI):Prop where
 h:PI X tg e t
structure QO(X:Cx)(e:Option oC)(t:TO):Prop where
 h:PO X e t
def Mr(sc scope:XC)(N N':List Str)(t:Nat)(cap:List Nat):Bool:=
 decide (scope.kind = .function)&&scope.names.all (λy=>decide (y.2≠.cell))&&scope.names.all (λy=>decide (y.2 = .local->scope.names.lookup y.1=oZ .local)) &&
 scope.names.all (λy=>decide (y.2 = .free->(sc.names.lookup y.1=oZ .cell\/sc.names.lookup y.1=oZ .free)))&&decide (N'.length=t+cap.length) &&
 (OQ cap.length).all (λj=>match cap[j]?,N'[t+j]? with|some k,oZ x=>decide (N[k]?=oZ x/\scope.names.lookup x=oZ .free)|_,_=>false)
theorem bM.of(h:Mr X.env.scope scope X.N N' t cap=true):bM X N' scope t cap:=by
 simp only[Mr,PF,SK,decide_eq_true_eq]at h;obtain⟨⟨⟨⟨⟨h1,h2⟩,h3⟩,h4⟩,h5⟩,h6⟩:=h;refine⟨h1,h2,h3,h4,h5,λj k e=>?_⟩;have hj:j<cap.length:=(NV.mp e).1;have h:=h6 j (QH.mpr hj);rw[e]at h;cases q:N'[t+j]? with
 |none=>rw[q]at h;cases h
 |some x=>
  rw[q]at h;have h':=of_decide_eq_true h;exact⟨x,rfl,h'.1,h'.2⟩
theorem Xb:QB X [] U2:=⟨L0⟩
theorem Dg{X:Cx}{t:TS}{u:TS}{st:VS}{mj:List VS}(h1:QS X st t)(h2:QB X mj u):QB X (st::mj) (IC t u):=⟨Xa h1.h h2.h⟩
theorem La{X:Cx}{t:TS}{st:VS}(h1:QS X st t):QB X [st] t:=⟨L1 h1.h⟩
theorem Lb(h:QE X e te):QS X (.Return (oZ e) pos) (IA te):=⟨BR h.h⟩
theorem R5(hc:QT X c tc)(ha:QB X b1 t)(hb:QB X b2 u):QS X (.If c b1 b2 pos) (HQ tc t u):=⟨GJ hc.h ha.h hb.h⟩
theorem Xh(hp:PassesOwn (VR X.prog X.w) X.A X.env X.xe)(hc:QT X c tc)(hb:QB X body tbd):QS X (.While c body [] pos) (Yz tc tbd):=⟨Wz hp hc.h hb.h⟩
theorem Xg(hp:PassesOwn (VR X.prog X.w) X.A X.env X.xe)(hc:X.calm=true)(hi:QI X tg iter wi)(hg:QG X tg g)(hb:QB X body tbd)(hs:∀x,VX iter X.env x=pure x:=by intro _;rfl):
  QS X (.For tg iter body [] pos) (HP wi g tbd):=⟨BP hp hc hi.h hg.h hb.h hs⟩
theorem Dh(he:QE X e te)(hs:WJ e none pos.line X.env=pure false:=by rfl):QS X (.Expr e pos) (T4 te):=⟨K8 he.h hs⟩
theorem Lc(hN:X.N.Nodup)(hi:X.N[i]?=oZ x)(hx:yT X.env.scope x)(he:QE X e te)(hs:WJ e (oZ (.Name x pos')) pos.line X.env=pure false:=by rfl)(hf:X.fn x=true\/X.env.scope.names.lookup x=oZ .local:=by first|exact .inl rfl|exact .inr rfl|assumption):QS X (.Assign [.Name x pos'] e pos) (Lz te (nT i)):=⟨BS hN hi hx he.h hs hf⟩
theorem CH(he:QE X e te)(hg:QG X tg g)(hs:WY [tg] e pos.line X.env=pure false:=by rfl)(hw:WZ [tg] e X.env=pure none:=by rfl)(h1:(WD [tg] X.env).map (·.2)=[WX tg X.env]:=by rfl):QS X (.Assign [tg] e pos) (Lz te g):=⟨BN he.h hg.h hs hw h1⟩
theorem CI{kt k2 pt2}(hc:X.calm=true)(hN:X.N.Nodup)(hi:X.N[i]?=oZ x)(hj:X.N[j]?=oZ y)(xw:i≠j)(hx:X.env.scope.names.lookup x=oZ .local)(hy:X.env.scope.names.lookup y=oZ .local)(ha:QA X [a,b] tr)(hw:WZ [.Tuple [.Name x px,.Name y py] kt pt] (.Tuple [a,b] k2 pt2) X.env=pure (oZ [x,y]))(hs:WY [.Tuple [.Name x px,.Name y py] kt pt] (.Tuple [a,b] k2 pt2) pos.line X.env=pure false:=by rfl):
  QS X (.Assign [.Tuple [.Name x px,.Name y py] kt pt] (.Tuple [a,b] k2 pt2) pos) (HZ i j tr):=⟨BQ hc hN hi hj xw hx hy ha.h hw hs⟩
theorem sI(hN:X.N.Nodup)(hi:X.N[i]?=oZ x)(hx:yT X.env.scope x)(hf:X.fn x=true\/X.env.scope.names.lookup x=oZ .local:=by first|exact .inl rfl|exact .inr rfl|assumption):QG X (.Name x pos) (nT i):=⟨K3 hN hi hx hf⟩
theorem Oi:Sw X [] F2:=⟨K4⟩
theorem xP(h1:QG X e g)(h2:Sw X es gs)(hs:(WD (e::es) X.env).map (·.2)=WX e X.env::(WD es X.env).map (·.2):=by rfl):Sw X (e::es) (Ab g gs):=⟨Wv h1.h h2.h hs⟩
theorem Xf(hc:X.calm=true)(h:Sw X es gs)(hn:(WD es X.env).length=n:=by rfl)(mq:(WD es X.env).findIdx? (·.1)=none:=by rfl):QG X (.Tuple es k pos) (Z2 X.K n gs):=⟨BK hc h.h hn mq⟩
theorem CF(ho:QE X o to)(hi:QE X i ti)(hs:V7 X ts)(ha:∀v,WX (.Subscript o i pos) X.env v=(do
   let ov <-WQ [v] (VY o X.env)
   let iv <-WQ [v,ov] (VY i X.env)
   standAt pos
   WQ [v,ov,iv] (setItem ov iv v)
   release [v,ov,iv] []):=by intro _;rfl):QG X (.Subscript o i pos) (FD to ti ts):=⟨BJ ho.h hi.h hs ha⟩
theorem Se(hg:Gl X "range")(hm:X.mg "range" = none)(ha:QA X [a] tr)(hs:a9 a=false:=by rfl):QI X tg (.Call (.Name "range" p) [a] [] pos) (Q7 tr):=⟨Sa hg hm ha.h (cK hs)⟩
theorem Sf(hg:Gl X "range")(hm:X.mg "range" = none)(ha:QA X [a,b] tr)(hs:a9 a=false:=by rfl)(jc:a9 b=false:=by rfl):QI X tg (.Call (.Name "range" p) [a,b] [] pos) (Q8 tr):=
 ⟨Sb hg hm ha.h (by rw[cK hs,cK jc];rfl) (by rw[cK jc];rfl)⟩
theorem L4{x1}(hg:Gl X "enumerate")(hm:X.mg "enumerate" = none)(ha:QA X [a] tr)(hs:a9 a=false:=by rfl):QI X (.Tuple elts x1 fi) (.Call (.Name "enumerate" p) [a] [] pos) (Q6 X.K tr):=⟨K5 hg hm ha.h (cK hs)⟩
theorem L5(hl:QE X l tl):QI X tg l (Vd X.K tl):=⟨Oe hl.h⟩
theorem CG(hl:QE X l tl):QI X tg l (FH X.K tl):=⟨BM hl.h⟩
theorem BZ:QA X [] HV:=⟨BA⟩
theorem qc(ha:QE X e te)(hr:QA X es tr)(hs:a9 e=false:=by rfl):QA X (e::es) (Yr te tr):=⟨pc ha.h hr.h hs⟩
theorem CA{i j pos}:QE X (.Constant (.int i) j pos) (tC (.int i)):=⟨BE⟩
theorem GL{b j pos}:QE X (.Constant (.bool b) j pos) (tC (.bl b)):=⟨GC⟩
theorem Xd{j pos}:QE X (.Constant .none j pos) (tC .non):=⟨BG⟩
theorem CD{x j pos}:QE X (.Constant (.str x) j pos) (tC (.str x)):=⟨Wu⟩
theorem qv(i:Nat)(hN:X.N[i]?=oZ x:=by rfl)(hv:P4 X.env.scope x:=by first|exact PX rfl|exact QN (PX rfl)|exact QN (QN rfl))(hd:(x==("__debug__":Str))=false:=by decide)(ja:(x==("__classdict__":Str))=false:=by decide):QE X (.Name x pos) (zE i):=⟨tJ hN hv hd ja⟩
theorem xO(ho:m4 X (WG op) r)(ha:QE X a ta)(hb:QE X b tb):QE X (.BinOp a op b pos) (Yu r ta tb):=⟨GG ho ha.h hb.h⟩
theorem GQ{r:V->Hp->VK->Prop}(ho:JJ X (unaryOp op) r)(ha:QE X a ta):QE X (.UnaryOp op a pos) (NA r ta):=⟨GI ho ha.h⟩
theorem Og(ho:m4 X (WE op) r)(ha:QE X a ta)(hb:QE X b tb)(hm:WA op b=false):QE X (.Compare a [op] [b] pos) (Yu r ta tb):=⟨J7 ho ha.h hb.h hm⟩
theorem GP(ha:QE X a ta)(hb:QE X (.BoolOp .Or (b::rest) pos) tb):QE X (.BoolOp .Or (a::b::rest) pos) (HY ta tb):=⟨GH ha.h hb.h⟩
theorem CC{op}(h:QE X a ta):QE X (.BoolOp op [a] pos) ta:=⟨BH h.h⟩
theorem Xc(hc:QT X c tA)(ha:QE X a ta)(hb:QE X b tb):QE X (.IfExp c a b pos) (MS tA ta tb):=⟨Ws hc.h ha.h hb.h⟩
theorem Xe{x1}(h:QA X es tr):QE X (.Tuple es x1 pos) (IE tr):=⟨BI h.h⟩
theorem CB(h:QA X es tr):QE X (.List es pos) (HU tr):=⟨BF h.h⟩
theorem GO(hr:Zs X r)(ha:QE X a ta)(hb:QE X b tb)(hs:vC b):QE X (.Subscript a b pos) (Yu r ta tb):=⟨GF hr ha.h hb.h hs⟩
theorem L6{X:Cx}:QO X none Pl:=⟨K6⟩
theorem L7(h:QE X e te):QO X (oZ e) (U4 te):=⟨K7 h.h⟩
theorem Hv{r:V->Option Int->Option Int->Hp->VK->Prop}{lo hi:Option oC}(hr:JI X r)(he:QE X e te)(hl:QO X lo tlo)(hu:QO X hi thi):QE X (.Subscript e (.Slice lo hi none p2) pos) (MX r te tlo thi):=⟨Wt hr he.h hl.h hu.h⟩
theorem xN(F:Fn X.prog X.w X.K X.mg X.base k x ps sp)(hr:dD j X.A)(hk:k<=j)(hg:Gl X x)(ha:QA X (e::es) tr)(cg:(x==("__debug__":Str))=false:=by decide)(hs:bO (e::es)=true:=by rfl):QE X (.Call (.Name x p) (e::es) [] pos) (Im sp [] E0 tr):=⟨BD F hr hk hg ha.h cg hs⟩
theorem jP{X:Cx}{pos:Pos}{e:oC}{es:List oC}{tr:TA}{x:Str}{p:Pos}{id:String}{r:List V->Hp->VK->Prop}(hc:jR X (.builtin id) r)(hg:Gl X x)(hm:X.mg x=none)(hv:WL x=oZ (.builtin id))(ha:QA X (e::es) tr)(hn:x≠"__name__":=by decide)(cg:(x==("__debug__":Str))=false:=by decide)(hs:bO (e::es)=true:=by rfl):QE X (.Call (.Name x p) (e::es) [] pos) (DM r tr):=⟨Ry hc hg hm hv ha.h hn cg hs⟩
theorem qR{r:List V->Hp->VK->Prop}(hc:jR X (.type T) r)(hg:Gl X x)(hm:X.mg x=none)(hv:WL x=oZ (.type T))(ha:QA X (e::es) tr)(hn:x≠"__name__":=by decide)(cg:(x==("__debug__":Str))=false:=by decide)(hs:bO (e::es)=true:=by rfl):QE X (.Call (.Name x p) (e::es) [] pos) (DM r tr):=⟨Ky hc hg hm hv ha.h hn cg hs⟩
theorem Oh(hc:X.calm=true)(S:bM X N' scope t cap)(hi:QI X target iter wi)(hg:∀C s3 H3 fp,QG (aW X N' scope C s3 H3 fp) target g)(he:∀C s3 H3 fp,QE (aW X N' scope C s3 H3 fp) elt te)(hs:∀x,VX iter X.env x=pure x:=by intro _;rfl):
  QE X (.ListComp elt [⟨target,iter,[],0⟩] scope pos) (Aw t cap wi g te):=⟨J8 hc S hi.h (λC s3 H3 fp=>(hg C s3 H3 fp).h) (λC s3 H3 fp=>(he C s3 H3 fp).h) hs⟩
theorem Oj(ho:m4 X (WE op) r)(ha:QE X a ta)(hb:QE X b tb)(hm:WA op b=false):QT X (.Compare a [op] [b] pos) (Yy (Yu r ta tb)):=⟨Of ho ha.h hb.h hm⟩
theorem CJ(ha:QT X a tA):QT X (.UnaryOp .Not a pos) (HW tA):=⟨BV ha.h⟩
theorem CK(h:QE X e te)(he:∀whole,isTrue e X.env whole=(do let v <-whole;standAt e.pos;WQ [v] (truthy v)):=by intro _;rfl):QT X e (tB te):=⟨BW h.h he⟩
theorem CL(ha:QT X a tA):QW X (.BoolOp .Or [a] pos) tA:=⟨BY ha.h⟩
theorem GU(ha:QT X a tA)(hb:QW X (.BoolOp .Or (b::rest) pos) tB'):QW X (.BoolOp .Or (a::b::rest) pos) (MV tA tB'):=⟨GK ha.h hb.h⟩
theorem LM(h:QW X e tA):QT X e tA:=⟨h.h.pt⟩
theorem cL.okQ{P:VQ}{w:VU}{K:W.Frag}{mg:Str->Option oA}{base:oE}{x qual:Str}{st:VS}{f:VN}{fd:WC}{N ps:List Str}{k:Nat}{sp:Sp}(F:cL K x qual st f fd)(S:aF N ps (aC st))(len:∀vs H Q E,sp vs H Q E->vs.length=ps.length)(ky:∀(YZ:oA)(A:oD)(outer:List Env)(s:oB)(H:Hp)(vs:List V)(Q:VK)(E:XK),dD k (A.deeper (WU qual (aC st) s.heap.objs.size f YZ))->sp vs H Q E->
   ∃t,QB (wQ cO P w K mg base N qual (aC st) f YZ A outer s H E).nox (cW st) t/\t { nx:=λ_ H'=>Q .non H',rt:=Q } (kD N vs) H):(~~~aT) cO (k+1) f fd ps sp:=
 F.ok S len λYZ A outer s H vs Q E hr h=>let⟨t,h1,h2⟩:=ky YZ A outer s H vs Q E hr h;⟨t,h1.h,h2⟩
theorem Eh{E:oA->oB->Prop}{Q:oA->oB->Prop}(gi:s.heap.IsTupleIter it t k)(gt:s.heap.IsTuple t items)(gx:items[k]?=oZ x)(gq:∀h',h'.IsTupleIter it t (k+1)->SU it s.heap h'->Q x { s with heap:=h' }):VP (VR prog w) A (Builtin.SmallTypes.nextOf (.ref it)) Q E s:=by
 obtain⟨ob,eo,ec,ed⟩:=id gi;obtain⟨ot,et,_,nt,edt⟩:=gt;unfold Builtin.SmallTypes.nextOf;refine VO (wpAny_callSpecial?_slot (name:=OW "__next__") gi.typeIs F.slot_tuple_iterator_next (WW F.slot_tuple_iterator_next gi.typeIs F.entry_tuple_iterator_next ?_ (F.args_tuple_iterator_next_1 _)));show VP _ _ (field (.ref it) 0 >>= _) _ _ _;refine VO (WK eo ed (x:=.ref t) rfl ?_);show VP _ _ (if(QC t==SY)=true then _ else _) _ _ _;rw[oW (λhq:(QC t==SY)=true=>RM hq)];show VP _ _ (field (.ref it) 1 >>= _) _ _ _;refine VO (WK eo ed (x:=.int k 0) rfl ?_);show VP _ _ (seqItems? (.ref t) >>= _) _ _ _;refine VO (XF et edt ?_);simp only[PR,gx];refine VO (wpAny_setField eo ed (by simp) (VV ⟨x,rfl,VV (gq _ ?_ (Heap.SameBut.update ..))⟩));exact⟨_,TN _ eo (Obj.isFreed_of_fields (Obj.data_mapFields ed _)),(Obj.cls_mapFields ..).trans ec,by rw[Obj.data_mapFields ed];simp[rawInt]⟩
theorem Iw{E:oA->oB->Prop}{Q:oA->oB->Prop}(gh:A.handled=none)(gi:s.heap.IsTupleIter it t k)(gt:s.heap.IsTuple t items)(gx:items[k]?=none)(ge:∀h' e,Heap.ExtBut it s.heap h'->(∃o,h'.get? e=oZ o/\o.cls = .type "StopIteration")->E (.ref e) { s with heap:=h' }):VP (VR prog w) A (Builtin.SmallTypes.nextOf (.ref it)) Q E s:=by
 obtain⟨ob,eo,ec,ed⟩:=id gi;obtain⟨ot,et,_,nt,edt⟩:=gt;unfold Builtin.SmallTypes.nextOf;refine VO (wpAny_callSpecial?_slot (name:=OW "__next__") gi.typeIs F.slot_tuple_iterator_next (WW F.slot_tuple_iterator_next gi.typeIs F.entry_tuple_iterator_next ?_ (F.args_tuple_iterator_next_1 _)));show VP _ _ (field (.ref it) 0 >>= _) _ _ _;refine VO (WK eo ed (x:=.ref t) rfl ?_);show VP _ _ (if(QC t==SY)=true then _ else _) _ _ _;rw[oW (λhq:(QC t==SY)=true=>RM hq)];show VP _ _ (field (.ref it) 1 >>= _) _ _ _;refine VO (WK eo ed (x:=.int k 0) rfl ?_);show VP _ _ (seqItems? (.ref t) >>= _) _ _ _;refine VO (XF et edt ?_);simp only[PR,gx];refine VO (wpAny_rule (VO (wpAny_setField eo ed (by simp) ?_)));show VP _ _ (newExc (.type "StopIteration") [] >>= _) _ _ _;refine VO ?_;simp only[newExc,newTuple];refine VO (WI ?_ (by size_fits));refine VO (m:=firstArgMember _ _) (wpAny_of_eq (a:=SY) (by first|rfl|(simp only[firstArgMember];rfl)) (WI ?_ (by size_fits)));simp only[raiseNew];refine VO (wpAny_handled ?_)
 first|rw[show A.in1.handled=none from gh]|rw[gh]
 refine VO (VV (wpAny_throw ?_));exact ge _ _ (((Heap.SameBut.update ..).extBut.push _).push _) ⟨_,OL _ rfl,rfl⟩
theorem Qt{prog:VQ}{w:VU}{A:oD}(gh:A.handled=none)(it t:VN)(fg:t≠it)(items:Array oA):
  Draws prog w A it [it,t] items.size (λi v=>items[i]?=oZ v) (λi h=>h.IsTupleIter it t i/\h.IsTuple t items) where
 live:=λ_ _ st=>let⟨o,ho,_⟩:=st.1;⟨o,ho⟩
 frame:=λ_ _ _ st hk=>⟨st.1.at λo e=>hk it (by simp) o e,st.2.at λo e=>hk t (by simp) o e⟩
 item:=λi s Q E hi st hQ=>Eh st.1 st.2 (x:=items[i]) (by simp[hi]) λh' aCG xy=>hQ _ h' s.toks (by simp[hi]) ⟨aCG,st.2.extBut xy.extBut fg⟩ xy
 done:=λs Q E st hE=>Iw gh st.1 st.2 (by simp) hE
def jS(κ:Bool)(h:oE)(it a:VN)(i:Nat):Prop:=match κ with|true=>h.IsTupleIter it a i|false=>h.IsListIter it a i
def wG(κ:Bool)(h:oE)(a:VN)(items:Array oA):Prop:=match κ with|true=>h.IsTuple a items|false=>h.IsList a items
theorem jS.at(x:jS κ h it a i)(e:∀o,h.get? it=oZ o->h'.get? it=oZ o):jS κ h' it a i:=by
 cases κ
 ·exact Heap.IsListIter.at x e
 ·exact Heap.IsTupleIter.at x e
theorem jS.obj(x:jS κ h it a i):∃o,h.get? it=oZ o/\∀v,o.data≠.cell v:=by
 cases κ
 ·obtain⟨o,e,c,d⟩:=x;exact⟨o,e,λv z=>by rw[d]at z;cases z⟩
 ·obtain⟨o,e,c,d⟩:=x;exact⟨o,e,λv z=>by rw[d]at z;cases z⟩
theorem Tw(κ:Bool)(hh:A.handled=none)(it a:VN)(fg:a≠it)(items:Array oA):
  Draws prog w A it [it,a] items.size (λi v=>items[i]?=oZ v) (λi h=>jS κ h it a i/\wG κ h a items):=by
 cases κ
 ·exact Draws.list hh it a fg items
 ·exact Qt hh it a fg items
abbrev IT(h:oE)(a:VN):oE:=h.push { cls:=.type "tuple_iterator",data:=.fields #[.ref a,.int 0 0] }
abbrev IU(h:oE)(a b:VN):oE:=(IT h a).push { cls:=.type "tuple_iterator",data:=.fields #[.ref b,.int 0 0] }
abbrev IV(h:oE)(a b:VN):oE:=(IU h a b).push { cls:=.type "tuple",data:=.seq #[.ref h.objs.size,.ref (IT h a).objs.size] }
abbrev IW(h:oE)(a b:VN):oE:=(IV h a b).push { cls:=.type "tuple",data:=.seq #[.none,.none] }
abbrev Zr(h:oE)(a b:VN):oE:=(IW h a b).push { cls:=.type "zip",data:=.fields #[.none,.bool false,.bool false,.ref (IU h a b).objs.size,.ref (IV h a b).objs.size] }
theorem Zq(a b:VN)(xs ys:Array oA):
  Meets (Builtin.«zip.__new__» ⟨[.type "zip",.ref a,.ref b],[]⟩) (λ_ R s=>s.heap.IsTuple a xs/\s.heap.IsTuple b ys/\R (.ok (.ret (.ref (IW s.heap a b).objs.size))) { s with heap:=Zr s.heap a b }):=
 .of_wp λprog w A R s h=>by
  obtain⟨hp,g,d,tk,os⟩:=s;obtain⟨ga,gb,h⟩:=h;have aCH:=sub_zip;have gA:Heap.IsTuple (Shared.heap ⟨hp,g,d,tk,os⟩) a xs:=ga;have gB:Heap.IsTuple (Shared.heap ⟨hp.push { cls:=.type "tuple_iterator",data:=.fields #[.ref a,.int 0 0] },g,d,tk,os⟩) b ys:=Heap.IsTuple.push gb _
  wp_walk using XQ gA,XQ gB
  exact⟨_,rfl,h⟩
theorem Qn{E:oA->oB->Prop}{Q:oA->oB->Prop}(ga:s.heap.IsTuple a xs)(gb:s.heap.IsTuple b ys)(g:∀h',XJ h' (s.heap.objs.size+4) (s.heap.objs.size+2) (s.heap.objs.size+3) .none->IsPair h' (s.heap.objs.size+2) (.ref s.heap.objs.size) (.ref (s.heap.objs.size+1))->IsPair h' (s.heap.objs.size+3) .none .none->
   h'.IsTupleIter s.heap.objs.size a 0->h'.IsTupleIter (s.heap.objs.size+1) b 0->(∀c o,s.heap.get? c=oZ o->h'.get? c=oZ o)->Q (.ref (s.heap.objs.size+4)) { s with heap:=h' }):
  VP (VR prog w) A (call (.type "zip") [.ref a,.ref b]) Q E s:=by
 refine callType_new F.called_zip ∅ (F.typeCall_zip_2 _ _) (F.newCall_zip_2 _ _) (λobj=>F.args_object_init_3 obj _ _) F.entry_zip_new (Zq a b xs ys) ⟨ga,gb,?_⟩;have y1:(IT s.heap a).objs.size=s.heap.objs.size+1:=RA ..;have y2:(IU s.heap a b).objs.size=s.heap.objs.size+2:=by rw[RA,y1]
 have y3:(IV s.heap a b).objs.size=s.heap.objs.size+3:=by rw[RA,y2]
 have y4:(IW s.heap a b).objs.size=s.heap.objs.size+4:=by rw[RA,y3]
 have p4:∀{c:VN}{o:Obj},(IW s.heap a b).get? c=oZ o->(Zr s.heap a b).get? c=oZ o:=λe=>OA _ e;have p3:∀{c:VN}{o:Obj},(IV s.heap a b).get? c=oZ o->(Zr s.heap a b).get? c=oZ o:=λe=>p4 (OA _ e);have p2:∀{c:VN}{o:Obj},(IU s.heap a b).get? c=oZ o->(Zr s.heap a b).get? c=oZ o:=λe=>p3 (OA _ e);have p1:∀{c:VN}{o:Obj},(IT s.heap a).get? c=oZ o->(Zr s.heap a b).get? c=oZ o:=λe=>p2 (OA _ e);have p0:∀{c:VN}{o:Obj},s.heap.get? c=oZ o->(Zr s.heap a b).get? c=oZ o:=λe=>p1 (OA _ e);have x5:(Zr s.heap a b).get? (IW s.heap a b).objs.size=oZ _:=OL _ rfl;have x4:(Zr s.heap a b).get? (IV s.heap a b).objs.size=oZ _:=p4 (OL _ rfl);have x3:(Zr s.heap a b).get? (IU s.heap a b).objs.size=oZ _:=p3 (OL _ rfl);have x2:(Zr s.heap a b).get? (IT s.heap a).objs.size=oZ _:=p2 (OL _ rfl);have x1:(Zr s.heap a b).get? s.heap.objs.size=oZ _:=p1 (OL _ rfl);show _/\_;rw[y2,y3,y4]at x5;rw[y1,y2]at x3;rw[y3]at x4;rw[y1]at x2;rw[y4];exact⟨⟨_,x5,rfl⟩,g _ x5 x3 x4 ⟨_,x1,rfl,rfl⟩ ⟨_,x2,rfl,rfl⟩ λc o e=>p0 e⟩
theorem NO(n:Nat):[n+4,n+2,n+3,n,n+1].Nodup:=by
 simp only[QX,NZ,QF,or_false,not_or,VI,and_true,not_false_eq_true]
 lia
theorem NI(h:c∈[n+4,n+2,n+3,n,n+1]):n<=c:=by
 simp only[NZ,QF,or_false]at h
 lia
section
variable{X:Cx}{pos:Pos}{a b e:oC}{ta tb te:TE}{tc:TT}
def O1(c:TT):TS:=λD σ H=>c σ H λb H1=>b=true/\D.nx σ H1
theorem Sg(hc:QT X c tc):QS X (.Assert c m pos) (O1 tc):=⟨by
 intro pins s σ H D I h;exact wpAny_Assert_holds (dQ (hc.h pins s σ H _ I h) λb s1 zZ=>by obtain⟨H1,I1,q1⟩:=zZ;exact⟨q1.1,σ,H1,I1,q1.2⟩)⟩
end
def Mh(i j:Int):Prop:=i.natAbs<2^8000/\j.natAbs<2^8000
theorem Mm{a:Int}(h:a.natAbs<2^8000):Builtin.Int.intBits a<=8001:=by
 unfold Builtin.Int.intBits
 split
 ·lia
 ·rename_i h0;have fg:a.natAbs≠0:=by
   intro z;apply h0
   first|exact Int.natAbs_eq_zero.mp z|simp[Int.natAbs_eq_zero.mp z]|lia
  have:=(TL fg).mpr h
  lia
theorem Mh.ok{i j:Int}(h:Mh i j):IntMulOk i j:=by
 have h1:=Mm h.1;have h2:=Mm h.2;unfold IntMulOk;have:Builtin.Int.intTooBig (Builtin.Int.intBits i+Builtin.Int.intBits j)=false:=by
  unfold Builtin.Int.intTooBig;simp only[decide_eq_false_iff_not];have:(16002:Int)<=bitsLine:=∅
  lia
 rw[this];simp
theorem J3:m4 X (WG .Mult) (rI Mh λi j=>.int (i*j)):=DJ λ_ _ _ _ _ _ _ hc q=>mul_int q hc.ok
def zG(i j:Int):Prop:=j≠0/\j.natAbs<2^8000
theorem dF:m4 X (WG .FloorDiv) (rI zG λi j=>.int (i.fdiv j)):=DJ λi j _ _ _ _ _ hc q=>by
 obtain⟨h0,h1⟩:=hc;have hl:j.natAbs.log2<9000:=by
  have:=(TL (show j.natAbs≠0 by lia)).mpr h1
  lia
 exact floordiv_int h0 q (.inl (PyProof.noPylong_of_log2 hl))
theorem Ao(ho:QE X o to)(ha:QA X [e] tr)(ZD:WH o "append" X.env (VY o X.env)=VY o X.env:=by rfl)(ZE:(ap.endLine==pos.line)=true:=by rfl)(hs:a9 e=false:=by rfl):
  QE X (.Call (.Attribute o "append" ap) [e] [] pos) (DL X.K "list" Di to tr):=
 ⟨Oc PySem.F.plainAttrs_list PySem.F.slot_list_append PySem.F.type_list_append Ah ho.h ha.h ZD (by rw[cK hs];rfl) ZE (cK hs) (fL rfl)⟩
theorem Bl:jR X (.builtin "divmod") (λxs H Q=>∃a b:Int,xs=[.int a,.int b]/\0<b/\b<2^200/\∀p,H p=none->Q (.ref p) (upd H p (.tup [.int (a/b),.int (a%b)]))):=by
 intro pins s σ H xs us Q I r h;obtain⟨a,b,rfl,h0,h1,q⟩:=h;obtain⟨u,v,rfl,rx,ry⟩:=bA.two r;obtain⟨t,rfl⟩:=rx;obtain⟨t',rfl⟩:=ry;have e1:a.fdiv b=a/b:=QZ _ ⋯;have e2:a.fmod b=a%b:=UD _ ⋯;have hl:b.natAbs.log2<9000:=by
  have hb:b.natAbs<2^200:=⋯
  have:=(TL (show b.natAbs≠0 by lia)).mpr hb
  lia
 refine divmod_int ⋯ ?_ (.inl (PyProof.noPylong_of_log2 hl));refine⟨.ref s.heap.objs.size,_,I.laid (o:=.tup [.int (a/b),.int (a%b)]) (t':=s.toks+1+1) (λb u e=>OA _ e) (OF _) ?_,rfl,q _ (I.hok.fresh (OF _))⟩;refine⟨by show 2<=VW;decide,[.int (a.fdiv b) s.toks,.int (a.fmod b) (s.toks+1)],.cons ⟨_,by rw[e1]⟩ (.cons ⟨_,by rw[e2]⟩ .nil),⟨_,OL _ rfl,rfl,_,rfl⟩⟩
def R6:V->List V->Hp->VK->Prop:=λx vs H Q=>∃i:Int,x = .int i/\vs=[]/\Q (.int ((Builtin.Int.intBits i:Nat):Int)) H
theorem G2:DI X "int.bit_length" R6:=by
 intro pins s σ H x vs v us Q I rx rv h;obtain⟨i,rfl,rfl,q⟩:=h;obtain⟨t,rfl⟩:=rx;cases rv;exact call_int_bit_length ⟨.int _,H,I.tok _,⟨_,rfl⟩,q⟩
theorem L3(ho:QE X o to)(ZD:WH o "bit_length" X.env (VY o X.env)=VY o X.env:=by rfl)(ZE:(ap.endLine==pos.line)=true:=by rfl):
  QE X (.Call (.Attribute o "bit_length" ap) [] [] pos) (HJ X.K "int" R6 to):=
 ⟨BC PySem.F.plainAttrs_int PySem.F.slot_int_bit_length PySem.F.type_int_bit_length G2 ho.h ZD ZE⟩
section
variable{κ:Type}[DecidableEq κ]
def jF(XZ:List (κ×V))(k:κ):Option V:=(XZ.find? λkv=>decide (kv.1=k)).map (·.2)
def tL(XZ:List (κ×V))(k:κ)(v:V):List (κ×V):=
 if(XZ.any λkv=>decide (kv.1=k))=true then XZ.map (λkv=>if kv.1=k then(kv.1,v)else kv)else XZ++[(k,v)]
theorem eH{p:κ×V}(e:p.1=k):jF (p::r) k=oZ p.2:=by simp[jF,SG,e]
theorem eF{p:κ×V}(e:¬p.1=k):jF (p::r) k=jF r k:=by simp[jF,SG,e]
theorem yN(k:κ):∀XZ:List (κ×V),(XZ.any λkv=>decide (kv.1=k))=(jF XZ k).isSome
 |[]=>rfl
 |p::r=>by
  rw[UE]
  by_cases e:p.1=k
  ·simp only[eH e,oY e,Bool.true_or,Option.isSome_some]
  ·rw[eF e,oX e,Bool.false_or];exact yN k r
theorem Iy(k j:κ)(y:V):∀XZ:List (κ×V),jF (XZ.map λkv=>if kv.1=k then(kv.1,y)else kv) j=(jF XZ j).map λx=>if j=k then y else x
 |[]=>rfl
 |p::r=>by
  have ih:=Iy k j y r;rw[PZ]
  by_cases h:p.1=k
  ·rw[oV h]
   by_cases e:p.1=j
   ·rw[eH (p:=(p.1,y)) e,eH e,TV,oV (e.symm.trans h)]
   ·rw[eF (p:=(p.1,y)) e,eF e,ih]
  ·rw[oW h]
   by_cases e:p.1=j
   ·rw[eH (p:=p) e,eH e,TV,oW (λz=>h (e.trans z))]
   ·rw[eF (p:=p) e,eF e,ih]
theorem Bc(k j:κ)(y:V):∀XZ:List (κ×V),jF XZ k=none->jF (XZ++[(k,y)]) j=if j=k then oZ y else jF XZ j
 |[],_=>by
  by_cases e:k=j
  ·rw[oV e.symm];exact eH (p:=(k,y)) e
  ·rw[oW (λz=>e z.symm)];exact eF (p:=(k,y)) e
 |p::r,hn=>by
  rw[List.cons_append];have hk:¬p.1=k:=λz=>by rw[eH z]at hn;cases hn
  rw[eF hk]at hn;have ih:=Bc k j y r hn
  by_cases e:p.1=j
  ·rw[eH e,eH e,oW (λz=>hk (e.trans z))]
  ·rw[eF e,eF e,ih]
theorem Zl(XZ:List (κ×V))(k j:κ)(y:V):jF (tL XZ k y) j=if j=k then oZ y else jF XZ j:=by
 unfold tL
 by_cases a:(XZ.any λkv=>decide (kv.1=k))=true
 ·rw[oV a,Iy];rw[yN]at a
  by_cases e:j=k
  ·obtain⟨x,hx⟩:=UJ.mp a;rw[oV e,e,hx,TV,oV rfl]
  ·rw[oW e];cases jF XZ j with
   |none=>rfl
   |some x=>rw[TV,oW e]
 ·rw[oW a];refine Bc k j y XZ ?_;rw[yN]at a;cases q:jF XZ k with
  |none=>rfl
  |some x=>rw[q]at a;exact(a rfl).elim
theorem uN(XZ:List (κ×V))(k:κ)(v:V):(tL XZ k v).length<=XZ.length+1:=by
 unfold tL
 split
 ·rw[OD];lia
 ·rw[OB,OT,UZ];lia
theorem yU.isSome_eq(r:yU o u):o.isSome=u.isSome:=by
 cases o with
 |none=>cases u with
  |none=>rfl
  |some _=>exact(show False from r).elim
 |some _=>cases u with
  |none=>exact(show False from r).elim
  |some _=>rfl
theorem KV.val(r:KV XZ vs)(k:κ):yU (jF XZ k) (valueAt vs k):=by
 unfold KV at r
 induction r with
 |nil=>exact True.intro
 |@cons p q ps qs h t ih=>
  obtain⟨h1,h2⟩:=h
  by_cases e:p.1=k
  ·have e':q.1=k:=h1.symm.trans e;have b:valueAt (q::qs) k=oZ q.2:=by simp[valueAt,SG,e']
   rw[eH e,b];exact h2
  ·have e':¬q.1=k:=λz=>e (h1.trans z);have b:valueAt (q::qs) k=valueAt qs k:=by simp[valueAt,SG,e']
   rw[eF e,b];exact ih
theorem KV.any(r:KV XZ vs)(k:κ):(XZ.any λkv=>decide (kv.1=k))=vs.any λkv=>decide (kv.1=k):=by
 unfold KV at r
 induction r with
 |nil=>rfl
 |cons h t ih=>rw[UE,UE,ih,h.1]
theorem KV.repl(r:KV XZ vs)(k:κ)(ry:bN y u):
  KV (XZ.map λkv=>if kv.1=k then(kv.1,y)else kv) (vs.map λkv=>if kv.1=k then(kv.1,u)else kv):=by
 unfold KV at r⊢
 induction r with
 |nil=>exact .nil
 |@cons p q ps qs h t ih=>
  rw[PZ,PZ];refine .cons ?_ ih;obtain⟨h1,h2⟩:=h
  by_cases e:p.1=k
  ·rw[oV e,oV (h1.symm.trans e)];exact⟨h1,ry⟩
  ·rw[oW e,oW (λz=>e (h1.trans z))];exact⟨h1,h2⟩
theorem KV.put(r:KV XZ vs)(k:κ)(ry:bN y u):KV (tL XZ k y) (stored vs k u):=by
 unfold tL stored;rw[r.any k]
 by_cases e:(vs.any λkv=>decide (kv.1=k))=true
 ·rw[oV e,oV e];exact r.repl k ry
 ·rw[oW e,oW e];exact Paired.snoc r ⟨rfl,ry⟩
theorem KV.length(r:KV XZ vs):XZ.length=vs.length:=Paired.length r
end
theorem Gv(r:bN (kV k) u):(eO P w).is k u=true:=by
 cases k with
 |inl i=>obtain⟨t,e⟩:=(show ∃t,u=Value.int i t from r);subst e;exact Gy P w i t
 |inr x=>obtain⟨t,e⟩:=(show ∃t,u=SE x t from r);subst e;exact d8 P w x t
theorem Ac:∀{ks:List Key}{us:List oA},bA (ks.map kV) us->ItemsAre (eO P w) ks us
 |[],_,r=>by rw[List.map_nil]at r;cases r;exact .nil
 |k::ks,_,r=>by
  rw[PZ]at r;cases r with
  |cons h t=>exact .cons (Gv h) (Ac t)
abbrev JE(H:Hp):List (List Key×V)->List (List Key×VN×oA)->Prop:=Paired λp q=>p.1=q.1/\H q.2.1=oZ (.tup (p.1.map kV))/\bN p.2 q.2.2
theorem JE.val(r:JE H XZ xs)(k:List Key):yU (jF XZ k) ((atKey xs k).map (·.2)):=by
 induction r with
 |nil=>exact True.intro
 |@cons p q ps qs h t ih=>
  obtain⟨h1,_,h2⟩:=h
  by_cases e:p.1=k
  ·have e':q.1=k:=h1.symm.trans e;have b:atKey (q::qs) k=oZ q.2:=by simp[atKey,SG,e']
   rw[eH e,b];exact h2
  ·have e':¬q.1=k:=λz=>e (h1.trans z);have b:atKey (q::qs) k=atKey qs k:=by simp[atKey,SG,e']
   rw[eF e,b];exact ih
theorem Xk(ok:pT P w H h)(e:Rd H a u):dU P w H h a u:=e.ok ok
theorem Mu(ok:pT P w H h)(e:Rd H a (.dK XZ)):XZ.length<=VW/\(a==WV)=false/\∃vs,KV XZ vs/\h.DictOf (eO P w) a vs:=
 show dU P w H h a (.dK XZ)from Xk ok e
theorem EH(ok:pT P w H h)(e:H a=oZ (.dK XZ)):XZ.length<=VW/\(a==WV)=false/\∃vs,KV XZ vs/\h.DictOf (eO P w) a vs:=Mu ok (.inl e)
theorem Kb(ok:pT P w H h)(e:H a=oZ (.tup (ks.map kV))):(tupleKind (eO P w)).is h ks a:=by
 obtain⟨_,XX,r,o,h1,h2,n,h3⟩:=(show dU P w H h a (.tup (ks.map kV))from ok a _ e);exact⟨o,XX.toArray,n,h1,h2,h3,by simpa using Ac r⟩
theorem Uc(ok:pT P w H h)(e:Rd H a (.dT XZ)):XZ.length<=VW/\(a==WV)=false/\
  ∃xs,JE H XZ xs/\h.DictOfH (tupleKind (eO P w)) a xs:=by
 obtain⟨z,y,xs,r,o,es,ep,h1,h2,h3,h4,h5⟩:=(show dU P w H h a (.dT XZ)from Xk ok e);refine⟨z,y,xs,r,o,es,ep,h1,h2,h3,h4,λx hx=>?_,h5⟩;have all:∀{l:List (List Key×V)}{m:List (List Key×VN×oA)},JE H l m->∀x∈m,(tupleKind (eO P w)).is h x.1 x.2.1:=by
  intro l m q
  induction q with
  |nil=>intro x hx;exact nomatch hx
  |@cons p q ps qs hq t ih=>
   intro x hx;obtain e|hx:=NZ.mp hx
   ·subst e;exact Kb ok (by rw[<-hq.1];exact hq.2.1)
   ·exact ih x hx
 exact all r x hx
def Be(H:Hp)(a:VN)(y:V)(r:Option V):Prop:=
 (∃XZ k,Rd H a (.dK XZ)/\y=kV k/\r=jF XZ k)\/∃XZ k b,Rd H a (.dT XZ)/\y = .ref b/\H b=oZ (.tup (k.map kV))/\r=jF XZ k
theorem Be.k{H:Hp}{a:VN}{XZ:List (Key×V)}{k:Key}(e:H a=oZ (.dK XZ)):Be H a (kV k) (jF XZ k):=.inl ⟨XZ,k,.inl e,rfl,rfl⟩
theorem aU.big(I:aU X pins σ H s):WV<s.heap.objs.size:=by
 have h:VT<s.heap.objs.size:=(I.mod.glob.keeps I.bk).lt;exact Nat.lt_trans ∅ h
theorem Qs{E:oA->oB->Prop}{Q:oA->oB->Prop}(hu:A.units+1<XE)(I:aU X pins σ H s)(g:Be H a y (oZ v))(ry:bN y u)(h:∀w' s',aU X pins σ H s'->bN v w'->Q w' s'):
  VP (VR X.prog X.w) A (XA (.ref a) u) Q E s:=by
 obtain⟨XZ,k,e,ey,l⟩|⟨XZ,k,b,e,ey,eb,l⟩:=g
 ·subst ey;obtain⟨z,hd,vs,rel,dd⟩:=Mu I.hok e;obtain⟨w',hw,mr⟩:=yU.some_of (v:=v) (o:=valueAt vs k) (by rw[l];exact rel.val k);exact wpAny_getItem_of (Gv ry) dd.mapOf hw (h w' _ (I.tok _) mr)
 ·subst ey;cases(show u=QC b from ry);obtain⟨z,hd,xs,rel,dd⟩:=Uc I.hok e;obtain⟨w',hw,mr⟩:=yU.some_of (v:=v) (o:=(atKey xs k).map (·.2)) (by rw[l];exact rel.val k);obtain⟨p,hp,hp2⟩:=PH.mp hw;refine wpAny_getItem_heap (tupleKind_room_in1 hu) (Kb I.hok eb) dd hp ?_;rw[hp2];exact h w' _ (I.tok _) mr
theorem JX{E:oA->oB->Prop}{Q:oA->oB->Prop}(hu:A.units+1<XE)(I:aU X pins σ H s)(g:Be H a y o)(ry:bN y u)(h:∀s',aU X pins σ H s'->Q (.bool o.isSome) s'):
  VP (VR X.prog X.w) A (WE .In u (.ref a)) Q E s:=by
 obtain⟨XZ,k,e,ey,l⟩|⟨XZ,k,b,e,ey,eb,l⟩:=g
 ·subst ey;obtain⟨z,hd,vs,rel,dd⟩:=Mu I.hok e;refine wpAny_in_of (Gv ry) hd dd.mapOf ?_;rw[<-(rel.val k).isSome_eq,<-l];exact h _ (I.tok _)
 ·subst ey;cases(show u=QC b from ry);obtain⟨z,hd,xs,rel,dd⟩:=Uc I.hok e;refine wpAny_in_heap (tupleKind_room_in1 hu) (Kb I.hok eb) hd dd ?_;have q:=(rel.val k).isSome_eq;rw[Option.isSome_map]at q;rw[<-q,<-l];exact h _ (I.tok _)
theorem C9(I:aU X pins σ H s)(mu:DS (H a))(hs:SU a s.heap h')(he:∃q,h'.get? a=oZ q)(new:dU X.prog X.w (upd H a ob) h' a ob):
  aU X pins σ (upd H a ob) { s with heap:=h',toks:=t' }:=
 I.write (x:=a) (e:=a) mu (.inl rfl) (λb q hb z=>(hs.2 b hb).trans z) he new
theorem X2(z:XZ.length<=VW)(hd:(a==WV)=false)(rel:KV XZ vs)(dd:h'.DictOf (eO P w) a vs):
  dU P w H' h' a (.dK XZ):=⟨z,hd,vs,rel,dd⟩
def Td(i:oC):Prop:=∀ov iv,XH i false ov iv=operate [ov,iv] (XA ov iv)
theorem Pa{prog:VQ}{w:VU}{A:oD}{E:oA->oB->Prop}{s:oB}{env:Env}{value slice:oC}{pos:Pos}{T id:String}{Q:oA->oB->Prop}
  (hl:typeLookup (.type T) "__getitem__" = pure (oZ (.builtin id))) (hs:Td slice)
  (h:VP (VR prog w) A (VY value env) (λo s₁=>VP (VR prog w) A (VY slice env) (λi s₂=>s₂.TypeIs o T/\VP (VR prog w) A (XA o i) Q E s₂) E s₁) E s) :
  VP (VR prog w) A (VY (.Subscript value slice pos) env) Q E s:=by
 refine Subscript_ (WM h (λo s₁ h₁=>WM h₁ (λi s₂ h₂=>?_) λ_ _ x=>x) λ_ _ x=>x);obtain⟨hT,h₂⟩:=h₂;unfold subscriptTail;refine VO ?_;rw[getitemInPython_of_ne hT.not_modules];refine VO (wpAny_specialOf hT hl ?_);have fin:VP (VR prog w) A (XH slice false o i) (λr s₃=>VP (VR prog w) A (letTemporaryGo value o r >>= λ_=>pure r) Q E s₃) E s₂:=by
  rw[hs o i];exact wpAny_operating (WM h₂ (λr s₃ h₃=>VO (wpAny_letTemporaryGo (VV h₃))) λ_ _ x=>x)
 first
  |exact VV (VO fin)
  |exact VO (VV (VO fin))
  |exact VO fin
theorem Ga(I:aU X pins σ H s)(g:Be H a y o):s.TypeIs (.ref a) "dict":=by
 obtain⟨XZ,k,e,_,_⟩|⟨XZ,k,b,e,_,_,_⟩:=g
 ·obtain⟨_,_,vs,_,dd⟩:=Mu I.hok e;exact dd.typeIs
 ·obtain⟨_,_,xs,_,dd⟩:=Uc I.hok e;exact dd.typeIs
def T3(td ty:TE):TE:=λσ H Q=>td σ H λx H1=>ty σ H1 λy H2=>∃a v,x = .ref a/\Be H2 a y (oZ v)/\Q v H2
def HL(ty td:TE):TE:=λσ H Q=>ty σ H λy H1=>td σ H1 λx H2=>∃a o,x = .ref a/\Be H2 a y o/\Q (.bl o.isSome) H2
theorem J9(hu:X.A.units+1<XE)(ho:PE X o td)(hi:PE X i ty)(hs:Td i):PE X (.Subscript o i pos) (T3 td ty):=by
 intro pins s σ H Q I h;refine Pa PySem.F.slot_dict_getitem.lookup hs (dQ (ho pins s σ H _ I h) λu s1⟨x,H1,I1,rx,q1⟩=>dQ (hi pins s1 σ H1 _ I1 q1) λiv s2 zZ=>?_);obtain⟨y,H2,I2,ry,a,v,ex,g,q2⟩:=zZ;subst ex;obtain rfl:u=QC a:=rx;exact⟨Ga I2 g,Qs hu I2 g ry λw' s3 I3 mr=>⟨v,H2,I3,mr,q2⟩⟩
theorem BB(hu:X.A.units+1<XE)(hi:PE X i ty)(ho:PE X o td):PC X .In i o (HL ty td):=by
 intro pins s σ H Q I h;refine dQ (hi pins s σ H _ I h) λiv s1⟨y,H1,I1,ry,q1⟩=>dQ (ho pins s1 σ H1 _ I1 q1) λu s2 zZ=>?_;obtain⟨x,H2,I2,rx,a,ov,ex,g,q2⟩:=zZ;subst ex;obtain rfl:u=QC a:=rx;exact JX hu I2 g ry λs3 I3=>⟨.bl ov.isSome,H2,I3,rfl,q2⟩
theorem Tv(h:oE)(hb:WV<h.objs.size):dU P w H (h.push { cls:=.type "dict",data:=.dict #[] }) h.objs.size (.dK []):=
 ⟨OG _,beq_eq_false_iff_ne.mpr (Ne.symm (PB hb)),[],.nil,Heap.DictOf.new h⟩
inductive T where
 |non|bl (b:Bool)|int (i:Int)|str (x:Str)|tup (xs:List T)|lst (xs:List T)
inductive U where
 |p (t:T)|o (k:Bool) (xs:List T)
abbrev En:=List (Option U)
inductive R where
 |p (t:T)|s (i:Nat)
def KT(K:W.Frag)(a:VN)(xs:List V):Prop:=∃(o:Obj)(XX:Array oA)(n:Nat),K.lookup a=oZ o/\o.cls = .type "tuple"/\o.data = .seq XX n/\XX.size<=VW/\bA xs XX.toList
def KL(K:W.Frag)(a:VN)(xs:List V):Prop:=∃(o:Obj)(XX:Array oA)(n:Nat),K.lookup a=oZ o/\o.cls = .type "list"/\o.dict=none/\o.data = .seq XX n/\XX.size<=VW/\bA xs XX.toList
mutual
def Rp(K:W.Frag)(H:Hp)(O:VN->Prop):T->V->Prop
 |.non,v=>v = .non
 |.bl b,v=>v = .bl b
 |.int i,v=>v = .int i
 |.str x,v=>v = .str x
 |.tup xs,v=>∃a vs,v = .ref a/\((¬O a/\H a=oZ (.tup vs))\/KT K a vs)/\cX K H O xs vs
 |.lst xs,v=>∃a vs,v = .ref a/\((¬O a/\Rd H a (.lst vs))\/KL K a vs)/\cX K H O xs vs
def cX(K:W.Frag)(H:Hp)(O:VN->Prop):List T->List V->Prop
 |[],vs=>vs=[]
 |x::xs,vs=>∃v r,vs=v::r/\Rp K H O x v/\cX K H O xs r
end
structure Kp(O O':VN->Prop)(H H':Hp):Prop where
 keep:∀b o,H b=oZ o->¬O b->H' b=oZ o
 new:∀b,O' b->O b\/H b=none
theorem Kp.tup{O O':VN->Prop}(k:Kp O O' H H')(h:¬O a/\H a=oZ u):¬O' a/\H' a=oZ u:=by
 obtain⟨n,h⟩:=h;refine⟨λz=>?_,k.keep _ _ h n⟩;obtain z|z:=k.new a z
 ·exact n z
 ·rw[h]at z;cases z
theorem Rd.step{O O':VN->Prop}(k:Kp O O' H H')(h:¬O a/\Rd H a u):¬O' a/\Rd H' a u:=by
 obtain⟨n,h⟩:=h;obtain h|⟨o,h⟩:=h
 ·refine⟨λz=>?_,.inl (k.keep _ _ h n)⟩;obtain z|z:=k.new a z
  ·exact n z
  ·rw[h]at z;cases z
 ·refine⟨λz=>?_,.inr ⟨o,k.keep _ _ h n⟩⟩;obtain z|z:=k.new a z
  ·exact n z
  ·rw[h]at z;cases z
section
variable{K:W.Frag}{H H':Hp}{O O':VN->Prop}
mutual
theorem Rp.step(k:Kp O O' H H'):∀{t:T}{v:V},Rp K H O t v->Rp K H' O' t v
 |.non,_,h=>h
 |.bl _,_,h=>h
 |.int _,_,h=>h
 |.str _,_,h=>h
 |.tup xs,v,h=>by
  obtain⟨a,vs,e,h1,h2⟩:=h;exact⟨a,vs,e,h1.imp (Kp.tup k) id,cX.step k h2⟩
 |.lst xs,v,h=>by
  obtain⟨a,vs,e,h1,h2⟩:=h;exact⟨a,vs,e,h1.imp (Rd.step k) id,cX.step k h2⟩
theorem cX.step(k:Kp O O' H H'):∀{xs:List T}{vs:List V},cX K H O xs vs->cX K H' O' xs vs
 |[],_,h=>h
 |x::xs,vs,h=>by
  obtain⟨v,r,e,h1,h2⟩:=h;exact⟨v,r,e,Rp.step k h1,cX.step k h2⟩
end
theorem Kp.refl(O:VN->Prop)(H:Hp):Kp O O H H:=⟨λ_ _ h _=>h,λ_ h=>.inl h⟩
theorem Kp.less(h:∀b,O' b->O b):Kp O O' H H:=⟨λ_ _ h _=>h,λ_ z=>.inl (h _ z)⟩
theorem Kp.trans{O'':VN->Prop}(a:Kp O O' H H')(b:Kp O' O'' H' H''):Kp O O'' H H'':=by
 refine⟨λc o h n=>b.keep c o (a.keep c o h n) λz=>?_,λc h=>?_⟩
 ·obtain z|z:=a.new c z
  ·exact n z
  ·rw[h]at z;cases z
 ·obtain z|z:=b.new c h
  ·exact a.new c z
  ·by_cases n:O c
   ·exact .inl n
   ·right
    cases q:H c with
    |none=>rfl
    |some o=>rw[a.keep c o q n]at z;cases z
theorem Kp.upd(h:H a=none):Kp O O H (upd H a o):=⟨λb u e _=>by rw[bE (a8 e h)];exact e,λ_ z=>.inl z⟩
theorem cX.length:∀{xs:List T}{vs:List V},cX K H O xs vs->vs.length=xs.length
 |[],_,h=>by cases h;rfl
 |_::_,_,h=>by
  obtain⟨v,r,e,_,h2⟩:=h;rw[e,OT,OT,cX.length h2]
theorem cX.get:∀{xs:List T}{vs:List V}{i:Nat}{x:T},cX K H O xs vs->xs[i]?=oZ x->∃v,vs[i]?=oZ v/\Rp K H O x v
 |[],_,_,_,_,e=>by simp at e
 |_::_,_,0,_,⟨v,r,e,h1,_⟩,q=>by simp at q;subst q;subst e;exact⟨v,rfl,h1⟩
 |_::_,_,i+1,x,⟨v,r,e,_,h2⟩,q=>by
  obtain⟨w,q1,q2⟩:=cX.get (i:=i) (x:=x) h2 (by simpa using q);subst e;exact⟨w,by simpa using q1,q2⟩
theorem cX.append:∀{xs ys:List T}{vs ws:List V},cX K H O xs vs->cX K H O ys ws->cX K H O (xs++ys) (vs++ws)
 |[],_,_,_,h,k=>by cases h;exact k
 |_::_,_,_,_,⟨v,r,e,h1,h2⟩,k=>by subst e;exact⟨v,_,rfl,h1,cX.append h2 k⟩
theorem cX.set(h:Rp K H O x v):∀{xs:List T}{vs:List V}(i:Nat),cX K H O xs vs->cX K H O (xs.set i x) (vs.set i v)
 |[],_,_,k=>by cases k;exact rfl
 |_::_,_,0,⟨u,r,e,h1,h2⟩=>by subst e;exact⟨v,_,rfl,h,h2⟩
 |_::_,_,i+1,⟨u,r,e,h1,h2⟩=>by subst e;exact⟨u,_,rfl,h1,cX.set h i h2⟩
theorem cX.take:∀{xs:List T}{vs:List V}(n:Nat),cX K H O xs vs->cX K H O (xs.take n) (vs.take n)
 |_,_,0,_=>by simp[cX]
 |[],_,_+1,h=>by cases h;exact rfl
 |_::_,_,n+1,⟨v,r,e,h1,h2⟩=>by subst e;exact⟨v,_,rfl,h1,cX.take n h2⟩
theorem cX.drop:∀{xs:List T}{vs:List V}(n:Nat),cX K H O xs vs->cX K H O (xs.drop n) (vs.drop n)
 |_,_,0,h=>h
 |[],_,_+1,h=>by cases h;exact rfl
 |_::_,_,n+1,⟨v,r,e,h1,h2⟩=>by subst e;exact cX.drop n h2
theorem cX.reverse:∀{xs:List T}{vs:List V},cX K H O xs vs->cX K H O xs.reverse vs.reverse
 |[],_,h=>by cases h;exact rfl
 |_::_,_,⟨v,r,e,h1,h2⟩=>by
  subst e;rw[RU,RU];exact(cX.reverse h2).append ⟨v,[],rfl,h1,rfl⟩
theorem Rp.sqT(h:Rp K H O (.tup xs) v):∃a vs,v = .ref a/\yS K H a vs/\cX K H O xs vs:=by
 obtain⟨a,vs,e,h1,h2⟩:=h;exact⟨a,vs,e,h1.imp (λh=>.inl h.2) id,h2⟩
theorem Rp.sqL(h:Rp K H O (.lst xs) v):∃a vs,v = .ref a/\lZ K H a vs/\cX K H O xs vs:=by
 obtain⟨a,vs,e,h1,h2⟩:=h;exact⟨a,vs,e,h1.imp And.right id,h2⟩
end
def Ow(B:VN->Prop)(S:St)(E:En)(a:VN):Prop:=B a\/∃(i:Nat)(k:Bool)(xs:List T),E[i]?=oZ (oZ (.o k xs))/\S[i]?=oZ (oZ (.ref a))
structure RE(K:W.Frag)(B:VN->Prop)(H:Hp)(S:St)(E:En):Prop where
 len:S.length=E.length
 pure:∀(i:Nat)(t:T),E[i]?=oZ (oZ (.p t))->∃v,S[i]?=oZ (oZ v)/\Rp K H (Ow B S E) t v
 own:∀(i:Nat)(k:Bool)(xs:List T),E[i]?=oZ (oZ (.o k xs))->∃a vs,S[i]?=oZ (oZ (.ref a))/\H a=oZ (.lst vs)/\cX K H (Ow B S E) xs vs/\(k=true↔B a)
 inj:∀(i j:Nat)(k l:Bool)(xs ys:List T)(a:VN),E[i]?=oZ (oZ (.o k xs))->E[j]?=oZ (oZ (.o l ys))->S[i]?=oZ (oZ (.ref a))->S[j]?=oZ (oZ (.ref a))->i=j
 bd:∀a,B a->∃vs,H a=oZ (.lst vs)
theorem RE.ow{K:W.Frag}{B:VN->Prop}{H:Hp}{S:St}{E:En}(r:RE K B H S E){a:VN}(h:Ow B S E a):∃vs,H a=oZ (.lst vs):=by
 obtain h|⟨i,k,xs,h1,h2⟩:=h
 ·exact r.bd a h
 obtain⟨a',vs,h3,h4,_⟩:=r.own i k xs h1;rw[h2]at h3;cases h3;exact⟨vs,h4⟩
theorem RE.nn{K:W.Frag}{B:VN->Prop}{H:Hp}{S:St}{E:En}(r:RE K B H S E){a:VN}(h:H a=none):¬Ow B S E a:=λz=>by
 obtain⟨ws,e⟩:=r.ow z;rw[h]at e;cases e
theorem RE.step{K:W.Frag}{B:VN->Prop}{H:Hp}{H':Hp}{S:St}{E:En}{E':En}(r:RE K B H S E)(k:∀b o,H b=oZ o->¬Ow B S E b->H' b=oZ o)(hl:E'.length=E.length)(hp:∀(i:Nat)(t:T),E'[i]?=oZ (oZ (.p t))->E[i]?=oZ (oZ (.p t)))(ho:∀(i:Nat)(k:Bool)(qm:List T),E'[i]?=oZ (oZ (.o k qm))->∃xs,E[i]?=oZ (oZ (.o k xs))/\∀a,S[i]?=oZ (oZ (.ref a))->∃vs,H' a=oZ (.lst vs)/\cX K H' (Ow B S E) qm vs)(hb:∀a,B a->∃vs,H' a=oZ (.lst vs)):RE K B H' S E':=by
 have ow:∀b,Ow B S E' b->Ow B S E b:=λb z=>by
  obtain z|⟨i,k,xs,h1,h2⟩:=z
  ·exact .inl z
  obtain⟨ys,h3,_⟩:=ho i k xs h1;exact .inr ⟨i,k,ys,h3,h2⟩
 have kp:Kp (Ow B S E) (Ow B S E') H H':=⟨k,λb z=>.inl (ow b z)⟩;refine⟨by rw[hl];exact r.len,λi t h=>?_,λi k xs h=>?_,λi j k l xs ys a h1 h2 h3 h4=>?_,hb⟩
 ·obtain⟨v,h1,h2⟩:=r.pure i t (hp i t h);exact⟨v,h1,h2.step kp⟩
 ·obtain⟨ys,h1,h2⟩:=ho i k xs h;obtain⟨a,vs,h3,_,_,h6⟩:=r.own i k ys h1;obtain⟨ws,h7,h8⟩:=h2 a h3;exact⟨a,ws,h3,h7,h8.step (Kp.less ow),h6⟩
 ·obtain⟨_,q1,_⟩:=ho i k xs h1;obtain⟨_,q2,_⟩:=ho j l ys h2;exact r.inj i j k l _ _ a q1 q2 h3 h4
theorem RE.kept{K:W.Frag}{B:VN->Prop}{H:Hp}{H':Hp}{S:St}{E:En}(r:RE K B H S E)(k:∀b o,H b=oZ o->H' b=oZ o):RE K B H' S E:=
 r.step (λb o h _=>k b o h) rfl (λ_ _ h=>h) (λi l xs h=>⟨xs,h,λa ha=>by
  obtain⟨a',vs,h1,h2,h3,_⟩:=r.own i l xs h;rw[ha]at h1;cases h1;exact⟨vs,k _ _ h2,h3.step ⟨λb o e _=>k b o e,λb z=>.inl z⟩⟩⟩) (λa h=>let⟨vs,q⟩:=r.bd a h;⟨vs,k _ _ q⟩)
theorem RE.take{K:W.Frag}{B:VN->Prop}{H:Hp}{S:St}{E:En}(r:RE K B H S E)(n:Nat):RE K B H (S.take n) (E.take n):=by
 have gE:∀{i:Nat}{x:Option U},(E.take n)[i]?=oZ x->E[i]?=oZ x/\i<n:=λ{i x}h=>by
  by_cases c:i<n
  ·rw[QR c]at h;exact⟨h,c⟩
  ·rw[RT ⋯]at h;cases h
 have gS:∀{i:Nat}{x:Option V},i<n->S[i]?=oZ x->(S.take n)[i]?=oZ x:=λ{i x}c h=>by rw[QR c];exact h
 have jf:∀{i:Nat}{x:Option V},(S.take n)[i]?=oZ x->S[i]?=oZ x:=λ{i x}h=>by
  by_cases c:i<n
  ·rw[QR c]at h;exact h
  ·rw[RT ⋯]at h;cases h
 have ow:∀b,Ow B (S.take n) (E.take n) b->Ow B S E b:=λb z=>z.imp id λzZ=>by obtain⟨i,k,xs,h1,h2⟩:=zZ;exact⟨i,k,xs,(gE h1).1,jf h2⟩
 refine⟨by rw[PM,PM,r.len],λi t h=>?_,λi k xs h=>?_,λi j k l xs ys a h1 h2 h3 h4=>?_,r.bd⟩
 ·obtain⟨v,h1,h2⟩:=r.pure i t (gE h).1;exact⟨v,gS (gE h).2 h1,h2.step (Kp.less ow)⟩
 ·obtain⟨a,vs,h1,h2,h3,h4⟩:=r.own i k xs (gE h).1;exact⟨a,vs,gS (gE h).2 h1,h2,h3.step (Kp.less ow),h4⟩
 ·exact r.inj i j k l xs ys a (gE h1).1 (gE h2).1 (jf h3) (jf h4)
def RR(K:W.Frag)(B:VN->Prop)(H:Hp)(S:St)(E:En):R->V->Prop
 |.p t,v=>Rp K H (Ow B S E) t v
 |.s i,v=>S[i]?=oZ (oZ v)
def Qd(K:W.Frag)(B:VN->Prop)(H:Hp)(S:St)(E:En):List R->List V->Prop
 |[],vs=>vs=[]
 |r::rs,vs=>∃v ws,vs=v::ws/\RR K B H S E r v/\Qd K B H S E rs ws
structure Gr(B:VN->Prop)(H:Hp)(S:St)(E:En)(H':Hp)(S':St)(E':En):Prop where
 kp:Kp (Ow B S E) (Ow B S' E') H H'
 pre:∃τ,S'=S++τ
theorem Gr.refl{B:VN->Prop}:Gr B H S E H S E:=⟨Kp.refl _ _,[],by simp⟩
theorem Gr.trans{B:VN->Prop}(a:Gr B H S E H1 S1 E1)(b:Gr B H1 S1 E1 H2 S2 E2):Gr B H S E H2 S2 E2:=by
 obtain⟨t,e⟩:=a.pre;obtain⟨u,f⟩:=b.pre;exact⟨a.kp.trans b.kp,t++u,by rw[f,e,OM]⟩
theorem gL{S S':St}(h:∃τ,S'=S++τ){i:Nat}{x:Option V}(e:S[i]?=oZ x):S'[i]?=oZ x:=by
 obtain⟨t,rfl⟩:=h;rw[OO (NV.mp e).1];exact e
section
variable{K:W.Frag}{B:VN->Prop}{H H':Hp}{S S':St}{E E':En}{σ:St}
theorem RR.step(g:Gr B H S E H' S' E')(h:RR K B H S E r v):RR K B H' S' E' r v:=by
 cases r with
 |p t=>exact Rp.step g.kp h
 |s i=>exact gL g.pre h
theorem Qd.step(g:Gr B H S E H' S' E'):∀{rs:List R}{vs:List V},Qd K B H S E rs vs->Qd K B H' S' E' rs vs
 |[],_,h=>h
 |_::_,_,⟨v,ws,e,h1,h2⟩=>⟨v,ws,e,h1.step g,Qd.step g h2⟩
def Lk(K:W.Frag)(B:VN->Prop)(H:Hp)(S:St)(E:En)(Q':R->En->Prop)(Q:VK):Prop:=∀r E' v H' S',Q' r E'->Gr B H S E H' S' E'->RE K B H' S' E'->RR K B H' S' E' r v->Q v H'
def NB(K:W.Frag)(n:Nat)(B:VN->Prop)(H:Hp)(S:St)(E:En)(Q':List R->En->Prop)(Q:List V->Hp->Prop):Prop:=∀rs E' vs H' S',Q' rs E'->Gr B H S E H' S' E'->RE K B H' S' E'->Qd K B H' S' E' rs vs->vs.length=n->Q vs H'
theorem Lk.step{Q':R->En->Prop}(l:Lk K B H S E Q' Q)(g:Gr B H S E H' S' E'):Lk K B H' S' E' Q' Q:=λr E2 v H2 S2 q g2=>l r E2 v H2 S2 q (g.trans g2)
end
abbrev FE:=En->(R->En->Prop)->Prop
abbrev FA:=En->(List R->En->Prop)->Prop
abbrev FB:=En->(Bool->En->Prop)->Prop
def aI(K:W.Frag)(F:FE):TE:=λσ H Q=>∃B S E Q',(∃τ,S=σ++τ)/\RE K B H S E/\F E Q'/\Lk K B H S E Q' Q
def dA(K:W.Frag)(n:Nat)(F:FA):TA:=λσ H Q=>∃B S E Q',(∃τ,S=σ++τ)/\RE K B H S E/\F E Q'/\NB K n B H S E Q' Q
def i8(K:W.Frag)(F:FB):TT:=λσ H Q=>∃B S E Q',(∃τ,S=σ++τ)/\RE K B H S E/\F E Q'/\∀b E' H' S',Q' b E'->Gr B H S E H' S' E'->RE K B H' S' E'->Q b H'
theorem QE.le(h:QE X e t)(m:∀σ H Q,σ.length=X.N.length->t' σ H Q->t σ H Q):QE X e t':=⟨λpins s σ H Q I z=>h.h pins s σ H Q I (m σ H Q I.len z)⟩
theorem QA.le(h:QA X es t)(m:∀σ H Q,t' σ H Q->t σ H Q):QA X es t':=⟨λpos pins s σ H Q I z=>h.h pos pins s σ H Q I (m σ H Q z)⟩
theorem QT.le(h:QT X e t)(m:∀σ H Q,t' σ H Q->t σ H Q):QT X e t':=⟨λpins s σ H Q I z=>h.h pins s σ H Q I (m σ H Q z)⟩
theorem QW.le(h:QW X e t)(m:∀σ H Q,t' σ H Q->t σ H Q):QW X e t':=⟨λwh pins s σ H Q I z=>h.h wh pins s σ H Q I (m σ H Q z)⟩
def vl(E:En):R->Option T
 |.p t=>oZ t
 |.s i=>match E[i]? with
  |some (oZ (.o _ xs))=>oZ (.lst xs)
  |some (oZ (.p t))=>oZ t
  |_=>none
def Rt(K:W.Frag)(H:Hp)(O:VN->Prop):T->V->Prop
 |.tup xs,v=>∃a vs,v = .ref a/\yS K H a vs/\cX K H O xs vs
 |.lst xs,v=>∃a vs,v = .ref a/\lZ K H a vs/\cX K H O xs vs
 |t,v=>Rp K H O t v
theorem Rp.rt{K:W.Frag}{H:Hp}{O:VN->Prop}{t:T}{v:V}(h:Rp K H O t v):Rt K H O t v:=by
 cases t with
 |tup xs=>exact h.sqT
 |lst xs=>exact h.sqL
 |non=>exact h
 |bl _=>exact h
 |int _=>exact h
 |str _=>exact h
theorem RE.vl{K:W.Frag}{B:VN->Prop}{H:Hp}{S:St}{E:En}(re:RE K B H S E){r:R}{v:V}{t:T}(h:RR K B H S E r v)(e:vl E r=oZ t):Rt K H (Ow B S E) t v:=by
 cases r with
 |p u=>cases e;exact Rp.rt h
 |s i=>
  cases q:E[i]? with
  |none=>simp only[L2.vl,q]at e;cases e
  |some u=>
   cases u with
   |none=>simp only[L2.vl,q]at e;cases e
   |some u=>
    cases u with
    |p u=>
     simp only[L2.vl,q]at e;cases e;obtain⟨w,h1,h2⟩:=re.pure i _ q;have h':S[i]?=oZ (oZ v):=h;rw[h']at h1;cases h1;exact h2.rt
    |o k xs=>
     simp only[L2.vl,q]at e;cases e;obtain⟨a,vs,h1,h2,h3,_⟩:=re.own i k xs q;have h':S[i]?=oZ (oZ v):=h;rw[h']at h1;cases h1;exact⟨a,vs,rfl,lZ.of h2,h3⟩
theorem RE.int{K:W.Frag}{B:VN->Prop}{H:Hp}{S:St}{E:En}(re:RE K B H S E){r:R}{v:V}{i:Int}(h:RR K B H S E r v)(e:L2.vl E r=oZ (.int i)):v = .int i:=re.vl h e
theorem RE.bl{K:W.Frag}{B:VN->Prop}{H:Hp}{S:St}{E:En}(re:RE K B H S E){r:R}{v:V}{b:Bool}(h:RR K B H S E r v)(e:L2.vl E r=oZ (.bl b)):v = .bl b:=re.vl h e
theorem RE.tup{K:W.Frag}{B:VN->Prop}{H:Hp}{S:St}{E:En}(re:RE K B H S E){p:VN}{ts:List T}{vs:List V}(hp:H p=none)(h:cX K H (Ow B S E) ts vs):
  Gr B H S E (upd H p (.tup vs)) S E/\RE K B (upd H p (.tup vs)) S E/\Rp K (upd H p (.tup vs)) (Ow B S E) (.tup ts) (.ref p):=by
 have k:Kp (Ow B S E) (Ow B S E) H (upd H p (.tup vs)):=Kp.upd hp;exact⟨⟨k,[],by simp⟩,re.kept λb o e=>by rw[bE (a8 e hp)];exact e,p,vs,rfl,.inl ⟨re.nn hp,dP⟩,h.step k⟩
theorem Gq{α:Type}{xs:List α}{x:α}{y:α}(h:(xs++[x])[i]?=oZ y):(i<xs.length/\xs[i]?=oZ y)\/(i=xs.length/\y=x):=by
 obtain c|c:=OY i xs.length
 ·rw[OO c]at h;exact .inl ⟨c,h⟩
 ·rw[OX c]at h;have:i-xs.length=0:=by
   obtain z|z:=QJ (i-xs.length)
   ·exact z
   ·rw[QU (by simp;lia)]at h;cases h
  rw[this]at h;simp at h;exact .inr ⟨⋯,h.symm⟩
theorem lE{α:Type}{xs:List α}{x:α}:(xs++[x])[xs.length]?=oZ x:=by simp
theorem RE.lst{K:W.Frag}{B:VN->Prop}{H:Hp}{S:St}{E:En}(re:RE K B H S E){p:VN}{ts:List T}{vs:List V}(hp:H p=none)(h:cX K H (Ow B S E) ts vs):
  Gr B H S E (upd H p (.lst vs)) (S++[oZ (.ref p)]) (E++[oZ (.o false ts)])/\RE K B (upd H p (.lst vs)) (S++[oZ (.ref p)]) (E++[oZ (.o false ts)]):=by
 have gE:∀{i:Nat}{u:U},(E++[oZ (.o false ts)])[i]?=oZ (oZ u)->(E[i]?=oZ (oZ u)/\i<E.length)\/(i=E.length/\u = .o false ts):=λ{i u}h=>by
  obtain⟨c,h⟩|⟨c,h⟩:=Gq h
  ·exact .inl ⟨h,c⟩
  ·exact .inr ⟨c,Option.some.inj h⟩
 have gS:∀{i:Nat}{x:Option V},S[i]?=oZ x->(S++[oZ (.ref p)])[i]?=oZ x:=λ{i x}h=>gL ⟨_,rfl⟩ h;have jf:∀{i:Nat}{x:Option V},i<E.length->(S++[oZ (.ref p)])[i]?=oZ x->S[i]?=oZ x:=λ{i x}c h=>by
  rw[OO (by rw[re.len];exact c)]at h;exact h
 have lS:(S++[oZ (.ref p)])[E.length]?=oZ (oZ (.ref p)):=by rw[<-re.len];simp
 have ow:∀b,Ow B (S++[oZ (.ref p)]) (E++[oZ (.o false ts)]) b->Ow B S E b\/H b=none:=λb z=>by
  obtain z|⟨i,k,xs,h1,h2⟩:=z
  ·exact .inl (.inl z)
  obtain⟨h1,c⟩|⟨c,h1⟩:=gE h1
  ·exact .inl (.inr ⟨i,k,xs,h1,jf c h2⟩)
  ·subst c;rw[lS]at h2;cases h2;exact .inr hp
 have k:Kp (Ow B S E) (Ow B (S++[oZ (.ref p)]) (E++[oZ (.o false ts)])) H (upd H p (.lst vs)):=⟨λb o e _=>by rw[bE (a8 e hp)];exact e,ow⟩;refine⟨⟨k,_,rfl⟩,⟨by simp[re.len],λi t h=>?_,λi l xs h=>?_,λi j l m xs ys a h1 h2 h3 h4=>?_,λa h=>?_⟩⟩
 ·obtain⟨h,c⟩|⟨c,h⟩:=gE h
  ·obtain⟨v,h1,h2⟩:=re.pure i t h;exact⟨v,gS h1,h2.step k⟩
  ·cases h
 ·obtain⟨h,c⟩|⟨c,h⟩:=gE h
  ·obtain⟨a,ws,h1,h2,h3,h4⟩:=re.own i l xs h;exact⟨a,ws,gS h1,by rw[bE (a8 h2 hp)];exact h2,h3.step k,h4⟩
  ·cases h;subst c;refine⟨p,vs,lS,dP,?_,⟨λz=>absurd z ∅,λz=>absurd (.inl z) (re.nn hp)⟩⟩;exact cX.step k (by assumption)
 ·obtain⟨h1,c1⟩|⟨c1,h1⟩:=gE h1
  ·obtain⟨h2,c2⟩|⟨c2,h2⟩:=gE h2
   ·exact re.inj i j l m xs ys a h1 h2 (jf c1 h3) (jf c2 h4)
   ·subst c2;rw[lS]at h4;cases h4;exact absurd (.inr ⟨i,l,xs,h1,jf c1 h3⟩) (re.nn hp)
  ·obtain⟨h2,c2⟩|⟨c2,h2⟩:=gE h2
   ·subst c1;rw[lS]at h3;cases h3;exact absurd (.inr ⟨j,m,ys,h2,jf c2 h4⟩) (re.nn hp)
   ·rw[c1,c2]
 ·obtain⟨us,q⟩:=re.bd a h;exact⟨us,by rw[bE (a8 q hp)];exact q⟩
section
variable{X:Cx}{K:W.Frag}{pos:Pos}{a b c e:oC}{es rest:List oC}{Fa Fb Fc:FE}{Fr:FA}{Fp Fq:FB}
def Qw(i:Nat):FE:=λE Q=>match E[i]? with
 |some (oZ (.p t))=>Q (.p t) E
 |some (oZ (.o _ _))=>Q (.s i) E
 |_=>False
def fC(t:T):FE:=λE Q=>Q (.p t) E
theorem fv(i:Nat)(hN:X.N[i]?=oZ x:=by rfl)(hv:P4 X.env.scope x:=by first|exact PX rfl|exact QN (PX rfl)|exact QN (QN rfl))(hd:(x==("__debug__":Str))=false:=by decide)(ja:(x==("__classdict__":Str))=false:=by decide):QE X (.Name x pos) (aI K (Qw i)):=by
 refine(qv i hN hv hd ja).le λσ H Q hl zZ=>?_;obtain⟨B,S,E,Q',hS,re,hF,lk⟩:=zZ;have hi:i<σ.length:=by rw[hl];exact(NV.mp hN).1
 obtain⟨τ,rfl⟩:=hS;have back:∀{v},(σ++τ)[i]?=oZ (oZ v)->σ[i]?=oZ (oZ v):=λh=>by rw[OO hi]at h;exact h
 unfold Qw at hF;split at hF
 ·rename_i t q;obtain⟨v,h1,h2⟩:=re.pure i t q;exact⟨v,back h1,lk _ _ _ _ _ hF .refl re h2⟩
 ·rename_i k xs q;obtain⟨p,vs,h1,_⟩:=re.own i k xs q;exact⟨_,back h1,lk _ _ _ _ _ hF .refl re h1⟩
 ·exact hF.elim
theorem D7(h:QE X e (tC v))(hv:∀K H O,Rp K H O t v):QE X e (aI K (fC t)):=h.le λσ H Q hl zZ=>by obtain⟨B,S,E,Q',hS,re,hF,lk⟩:=zZ;exact lk _ _ _ _ _ hF .refl re (hv _ _ _)
theorem aA{i j pos}:QE X (.Constant (.int i) j pos) (aI K (fC (.int i))):=D7 CA λ_ _ _=>rfl
theorem Gg{b j pos}:QE X (.Constant (.bool b) j pos) (aI K (fC (.bl b))):=D7 GL λ_ _ _=>rfl
theorem Bw{j pos}:QE X (.Constant .none j pos) (aI K (fC .non)):=D7 Xd λ_ _ _=>rfl
theorem bG{x j pos}:QE X (.Constant (.str x) j pos) (aI K (fC (.str x))):=D7 CD λ_ _ _=>rfl
theorem two{G:R->R->En->(R->En->Prop)->Prop}(h:aI K (λE Q=>Fa E λx E1=>Fb E1 λy E2=>G x y E2 Q) σ H Q){P:V->V->Hp->Prop}(k:∀B S E x y v w H2 Q',(∃τ,S=σ++τ)->RE K B H2 S E->RR K B H2 S E x v->RR K B H2 S E y w->G x y E Q'->Lk K B H2 S E Q' Q->P v w H2):aI K Fa σ H λv H1=>aI K Fb σ H1 λw H2=>P v w H2:=by
 obtain⟨B,S,E,Q',⟨τ,hS⟩,re,hF,lk⟩:=h;refine⟨B,S,E,_,⟨τ,hS⟩,re,hF,λr E1 v H1 S1 q g YI rr=>?_⟩;obtain⟨τ1,df⟩:=g.pre;refine⟨B,S1,E1,_,⟨τ++τ1,by rw[df,hS,OM]⟩,YI,q,λr2 E2 w H2 S2 q2 g2 ZX wg=>?_⟩;obtain⟨τ2,zj⟩:=g2.pre;exact k B S2 E2 r r2 v w H2 Q' ⟨τ++τ1++τ2,by rw[zj,df,hS,OM,OM,OM]⟩ ZX (rr.step g2) wg q2 (lk.step (g.trans g2))
theorem one{G:R->En->(R->En->Prop)->Prop}(h:aI K (λE Q=>Fa E λx E1=>G x E1 Q) σ H Q){P:V->Hp->Prop}(k:∀B S E x v H2 Q',(∃τ,S=σ++τ)->RE K B H2 S E->RR K B H2 S E x v->G x E Q'->Lk K B H2 S E Q' Q->P v H2):aI K Fa σ H λv H1=>P v H1:=by
 obtain⟨B,S,E,Q',⟨τ,hS⟩,re,hF,lk⟩:=h;refine⟨B,S,E,_,⟨τ,hS⟩,re,hF,λr E1 v H1 S1 q g YI rr=>?_⟩;obtain⟨τ1,df⟩:=g.pre;exact k B S1 E1 r v H1 Q' ⟨τ++τ1,by rw[df,hS,OM]⟩ YI rr q (lk.step g)
def i2(x y:Option T)(k:Int->Int->Prop):Prop:=match x,y with
 |some (.int i),oZ (.int j)=>k i j
 |_,_=>False
theorem i2.ex{k:Int->Int->Prop}(h:i2 x y k):∃i j,x=oZ (.int i)/\y=oZ (.int j)/\k i j:=by
 unfold i2 at h;split at h
 ·exact⟨_,_,rfl,rfl,h⟩
 ·exact h.elim
def fI(C:Int->Int->Prop)(g:Int->Int->Int)(Fa Fb:FE):FE:=λE Q=>Fa E λx E1=>Fb E1 λy E2=>i2 (vl E2 x) (vl E2 y) λi j=>C i j/\Q (.p (.int (g i j))) E2
def ND(g:Int->Int->Int)(Fa Fb:FE):FE:=λE Q=>Fa E λx E1=>Fb E1 λy E2=>i2 (vl E2 x) (vl E2 y) λi j=>Q (.p (.int (g i j))) E2
def KH(g:Int->Int->Bool)(Fa Fb:FE):FE:=λE Q=>Fa E λx E1=>Fb E1 λy E2=>i2 (vl E2 x) (vl E2 y) λi j=>Q (.p (.bl (g i j))) E2
theorem aP{C:Int->Int->Prop}{g:Int->Int->Int}(ho:m4 X (WG op) (rI C λi j=>.int (g i j)))(ha:QE X a (aI K Fa))(hb:QE X b (aI K Fb)):QE X (.BinOp a op b pos) (aI K (fI C g Fa Fb)):=by
 refine(xO ho ha hb).le λσ H Q hl h=>two h λB S E x y v w H2 Q' hS re rx ry q lk=>?_;obtain⟨i,j,e1,e2,c,q⟩:=q.ex;exact⟨i,j,re.int rx e1,re.int ry e2,c,lk _ _ _ _ _ q .refl re rfl⟩
theorem aY{g:Int->Int->Int}(ho:m4 X (WG op) (Sx λi j=>.int (g i j)))(ha:QE X a (aI K Fa))(hb:QE X b (aI K Fb)):QE X (.BinOp a op b pos) (aI K (ND g Fa Fb)):=by
 refine(xO ho ha hb).le λσ H Q hl h=>two h λB S E x y v w H2 Q' hS re rx ry q lk=>?_;obtain⟨i,j,e1,e2,q⟩:=q.ex;exact⟨i,j,re.int rx e1,re.int ry e2,lk _ _ _ _ _ q .refl re rfl⟩
theorem Ul{g:Int->Int->Bool}(ho:m4 X (WE op) (Sx λi j=>.bl (g i j)))(ha:QE X a (aI K Fa))(hb:QE X b (aI K Fb))(hm:WA op b=false):QE X (.Compare a [op] [b] pos) (aI K (KH g Fa Fb)):=by
 refine(Og ho ha hb hm).le λσ H Q hl h=>two h λB S E x y v w H2 Q' hS re rx ry q lk=>?_;obtain⟨i,j,e1,e2,q⟩:=q.ex;exact⟨i,j,re.int rx e1,re.int ry e2,lk _ _ _ _ _ q .refl re rfl⟩
def i1(x:Option T)(k:Int->Prop):Prop:=match x with
 |some (.int i)=>k i
 |_=>False
theorem i1.ex{k:Int->Prop}(h:i1 x k):∃i,x=oZ (.int i)/\k i:=by
 unfold i1 at h;split at h
 ·exact⟨_,rfl,h⟩
 ·exact h.elim
def b1(x:Option T)(k:Bool->Prop):Prop:=match x with
 |some (.bl i)=>k i
 |_=>False
theorem b1.ex{k:Bool->Prop}(h:b1 x k):∃i,x=oZ (.bl i)/\k i:=by
 unfold b1 at h;split at h
 ·exact⟨_,rfl,h⟩
 ·exact h.elim
def KR(Fa:FE):FE:=λE Q=>Fa E λx E1=>i1 (vl E1 x) λi=>Q (.p (.int (-i))) E1
theorem eV(ha:QE X a (aI K Fa)):QE X (.UnaryOp .USub a pos) (aI K (KR Fa)):=by
 refine(GQ CZ ha).le λσ H Q hl h=>one (Fa:=Fa) h λB S E x v H2 Q' hS re rx q lk=>?_;obtain⟨i,e1,q⟩:=q.ex;exact⟨i,re.int rx e1,lk _ _ _ _ _ q .refl re rfl⟩
theorem V2{G:Bool->En->(Bool->En->Prop)->Prop}{Q:Bool->Hp->Prop}(h:i8 K (λE Q=>Fp E λx E1=>G x E1 Q) σ H Q){P:Bool->Hp->Prop}(k:∀B S E x H2 Q',(∃τ,S=σ++τ)->RE K B H2 S E->G x E Q'->(∀b E' H' S',Q' b E'->Gr B H2 S E H' S' E'->RE K B H' S' E'->Q b H')->P x H2):i8 K Fp σ H P:=by
 obtain⟨B,S,E,Q',⟨τ,hS⟩,re,hF,lk⟩:=h;refine⟨B,S,E,_,⟨τ,hS⟩,re,hF,λr E1 H1 S1 q g YI=>?_⟩;obtain⟨τ1,df⟩:=g.pre;exact k B S1 E1 r H1 Q' ⟨τ++τ1,by rw[df,hS,OM]⟩ YI q λb E2 H2 S2 q2 g2 ZX=>lk b E2 H2 S2 q2 (g.trans g2) ZX
def Ex(Fa:FE):FB:=λE Q=>Fa E λx E1=>b1 (vl E1 x) λi=>Q i E1
def JW(Fp:FB):FB:=λE Q=>Fp E λx E1=>Q (!x) E1
def NC(Fp Fq:FB):FB:=λE Q=>Fp E λx E1=>if x=true then Q true E1 else Fq E1 Q
theorem W3{Q:Bool->Hp->Prop}(h:i8 K (Ex Fa) σ H Q):aI K Fa σ H λv H1=>∃c,v = .bl c/\Q c H1:=by
 obtain⟨B,S,E,Q',⟨τ,hS⟩,re,hF,lk⟩:=h;refine⟨B,S,E,_,⟨τ,hS⟩,re,hF,λr E1 v H1 S1 q g YI rr=>?_⟩;obtain⟨i,e1,q⟩:=q.ex;exact⟨i,YI.bl rr e1,lk _ _ _ _ q g YI⟩
theorem iF(h:QE X e (aI K Fa))(he:∀whole,isTrue e X.env whole=(do let v <-whole;standAt e.pos;WQ [v] (truthy v)):=by intro _;rfl):QT X e (i8 K (Ex Fa)):=(CK h he).le λσ H Q z=>W3 z
theorem Uu(ha:QT X a (i8 K Fp)):QT X (.UnaryOp .Not a pos) (i8 K (JW Fp)):=(CJ ha).le λσ H Q h=>V2 (Fp:=Fp) h λB S E x H2 Q' hS re q lk=>lk _ _ _ _ q .refl re
theorem Cc(ha:QT X a (i8 K Fp)):QW X (.BoolOp .Or [a] pos) (i8 K Fp):=CL ha
theorem Ng(ha:QT X a (i8 K Fp))(hb:QW X (.BoolOp .Or (b::rest) pos) (i8 K Fq)):QW X (.BoolOp .Or (a::b::rest) pos) (i8 K (NC Fp Fq)):=by
 refine(GU ha hb).le λσ H Q h=>V2 (Fp:=Fp) h λB S E x H2 Q' hS re q lk=>?_;cases x
 ·exact⟨B,S,E,Q',hS,re,q,lk⟩
 ·exact lk _ _ _ _ q .refl re
theorem F1(h:QW X e (i8 K Fp)):QT X e (i8 K Fp):=LM h
def NH(Fa Fb:FE):FE:=λE Q=>Fa E λx E1=>b1 (vl E1 x) λi=>if i=true then Q (.p (.bl true)) E1 else Fb E1 Q
theorem EY(ha:QE X a (aI K Fa))(hb:QE X (.BoolOp .Or (b::rest) pos) (aI K Fb)):QE X (.BoolOp .Or (a::b::rest) pos) (aI K (NH Fa Fb)):=by
 refine(GP ha hb).le λσ H Q hl h=>one (Fa:=Fa) h λB S E x v H2 Q' hS re rx q lk=>?_;obtain⟨i,e1,q⟩:=q.ex;refine⟨i,re.bl rx e1,?_⟩;cases i
 ·exact⟨B,S,E,Q',hS,re,q,lk⟩
 ·exact lk _ _ _ _ _ q .refl re rfl
theorem Y3{op}(h:QE X a (aI K Fa)):QE X (.BoolOp op [a] pos) (aI K Fa):=CC h
def NF(Fp:FB)(Fa Fb:FE):FE:=λE Q=>Fp E λx E1=>if x=true then Fa E1 Q else Fb E1 Q
theorem nN(hc:QT X c (i8 K Fp))(ha:QE X a (aI K Fa))(hb:QE X b (aI K Fb)):QE X (.IfExp c a b pos) (aI K (NF Fp Fa Fb)):=by
 refine(Xc hc ha hb).le λσ H Q hl zZ=>?_;obtain⟨B,S,E,Q',⟨τ,hS⟩,re,hF,lk⟩:=zZ;refine⟨B,S,E,_,⟨τ,hS⟩,re,hF,λr E1 H1 S1 q g YI=>?_⟩;obtain⟨τ1,df⟩:=g.pre;have hp:∃t,S1=σ++t:=⟨τ++τ1,by rw[df,hS,OM]⟩;cases r
 ·exact⟨B,S1,E1,Q',hp,YI,q,lk.step g⟩
 ·exact⟨B,S1,E1,Q',hp,YI,q,lk.step g⟩
def Jh:FA:=λE Q=>Q [] E
def jI(Fa:FE)(Fr:FA):FA:=λE Q=>Fa E λr E1=>Fr E1 λrs E2=>Q (r::rs) E2
theorem bP:QA X [] (dA K 0 Jh):=BZ.le λσ H Q zZ=>by obtain⟨B,S,E,Q',hS,re,hF,lk⟩:=zZ;exact lk _ _ _ _ _ hF .refl re rfl rfl
theorem fc{n:Nat}(ha:QE X e (aI K Fa))(hr:QA X es (dA K n Fr))(hs:a9 e=false:=by rfl):QA X (e::es) (dA K (n+1) (jI Fa Fr)):=by
 refine(qc ha hr hs).le λσ H Q zZ=>?_;obtain⟨B,S,E,Q',⟨τ,hS⟩,re,hF,lk⟩:=zZ;refine⟨B,S,E,_,⟨τ,hS⟩,re,hF,λr E1 v H1 S1 q g YI rr=>?_⟩;obtain⟨τ1,df⟩:=g.pre;exact⟨B,S1,E1,_,⟨τ++τ1,by rw[df,hS,OM]⟩,YI,q,λrs E2 vs H2 S2 q2 g2 ZX wg hn=>lk _ _ _ _ _ q2 (g.trans g2) ZX ⟨v,vs,rfl,rr.step g2,wg⟩ (by rw[OT,hn])⟩
theorem args{G:List R->En->(R->En->Prop)->Prop}(h:aI K (λE Q=>Fr E λrs E1=>G rs E1 Q) σ H Q){P:List V->Hp->Prop}(k:∀B S E rs vs H2 Q',(∃τ,S=σ++τ)->RE K B H2 S E->Qd K B H2 S E rs vs->vs.length=n->G rs E Q'->Lk K B H2 S E Q' Q->P vs H2):dA K n Fr σ H P:=by
 obtain⟨B,S,E,Q',⟨τ,hS⟩,re,hF,lk⟩:=h;refine⟨B,S,E,_,⟨τ,hS⟩,re,hF,λr E1 v H1 S1 q g YI rr hn=>?_⟩;obtain⟨τ1,df⟩:=g.pre;exact k B S1 E1 r v H1 Q' ⟨τ++τ1,by rw[df,hS,OM]⟩ YI rr hn q (lk.step g)
def xK:List R->Option (List T)
 |[]=>oZ []
 |.p t::rs=>(xK rs).map (t::·)
 |_=>none
theorem xM{B:VN->Prop}:∀{rs:List R}{vs:List V}{ts:List T},Qd K B H S E rs vs->xK rs=oZ ts->cX K H (Ow B S E) ts vs
 |[],_,_,h,e=>by cases e;exact h
 |.p t::rs,_,ts,⟨v,ws,e1,h1,h2⟩,e=>by
  cases q:xK rs with
  |none=>rw[xK,q]at e;cases e
  |some us=>
   rw[xK,q]at e;cases e;exact⟨v,ws,e1,h1,xM h2 q⟩
 |.s _::_,_,_,_,e=>by cases e
def o1{α:Type}(x:Option α)(k:α->Prop):Prop:=match x with
 |some y=>k y
 |none=>False
theorem o1.ex{α:Type}{x:Option α}{k:α->Prop}(h:o1 x k):∃y,x=oZ y/\k y:=by
 cases x with
 |none=>exact h.elim
 |some y=>exact⟨y,rfl,h⟩
def EW(Fr:FA):FE:=λE Q=>Fr E λrs E1=>o1 (xK rs) λts=>Q (.p (.tup ts)) E1
def KO(Fr:FA):FE:=λE Q=>Fr E λrs E1=>o1 (xK rs) λts=>Q (.s E1.length) (E1++[oZ (.o false ts)])
theorem aM{x1}(h:QA X es (dA K n Fr))(hz:n<=9000:=by decide):QE X (.Tuple es x1 pos) (aI K (EW Fr)):=by
 refine(Xe h).le λσ H Q hl h=>args (Fr:=Fr) h λB S E rs vs H2 Q' hS re rr hn q lk=>⟨by rw[hn];exact PK (b9 hz),λp hp=>?_⟩;obtain⟨ts,e,q⟩:=q.ex;obtain⟨g,YG,rp⟩:=re.tup hp (xM rr e);exact lk _ _ _ _ _ q g YG rp
theorem cV(h:QA X es (dA K n Fr))(hz:n<=9000:=by decide):QE X (.List es pos) (aI K (KO Fr)):=by
 refine(CB h).le λσ H Q hl h=>args (Fr:=Fr) h λB S E rs vs H2 Q' hS re rr hn q lk=>⟨by rw[hn];exact PK (b9 hz),λp hp=>?_⟩;obtain⟨ts,e,q⟩:=q.ex;obtain⟨g,YG⟩:=re.lst hp (xM rr e);exact lk _ _ _ _ _ q g YG (by rw[<-re.len];exact lE)
def HF:T->Option (List T)
 |.tup xs=>oZ xs
 |.lst xs=>oZ xs
 |_=>none
def ML(x y:Option T)(k:T->Prop):Prop:=match x,y with
 |some (.tup xs),oZ (.int i)=>o1 (eZ xs i) k
 |some (.lst xs),oZ (.int i)=>o1 (eZ xs i) k
 |_,_=>False
theorem Tg{O:VN->Prop}{i:Int}(h:cX K H O xs vs)(e:eZ xs i=oZ t):∃v,eZ vs i=oZ v/\Rp K H O t v:=by
 unfold eZ at e⊢;rw[h.length];cases q:Nk xs.length i with
 |none=>rw[q]at e;cases e
 |some j=>rw[q]at e;exact h.get e
def KN(Fa Fb:FE):FE:=λE Q=>Fa E λx E1=>Fb E1 λy E2=>ML (vl E2 x) (vl E2 y) λt=>Q (.p t) E2
theorem P9(eK:X.K=K)(ha:QE X a (aI K Fa))(hb:QE X b (aI K Fb))(hs:vC b):QE X (.Subscript a b pos) (aI K (KN Fa Fb)):=by
 subst eK;refine(GO Z8 ha hb hs).le λσ H Q hl h=>two (Fa:=Fa) (Fb:=Fb) h λB S E x y v w H2 Q' hS re rx ry q lk=>?_;unfold ML at q;split at q
 ·rename_i xs i e1 e2;obtain⟨t,e3,q⟩:=q.ex;obtain⟨p,vs,rfl,sq,rs⟩:=re.vl rx e1;obtain⟨u,h1,h2⟩:=Tg rs e3;exact .inr (.inl ⟨p,vs,i,u,rfl,re.int ry e2,sq,h1,lk _ _ _ _ _ q .refl re h2⟩)
 ·rename_i xs i e1 e2;obtain⟨t,e3,q⟩:=q.ex;obtain⟨p,vs,rfl,sq,rs⟩:=re.vl rx e1;obtain⟨u,h1,h2⟩:=Tg rs e3;exact .inl ⟨p,vs,i,u,rfl,re.int ry e2,sq,h1,lk _ _ _ _ _ q .refl re h2⟩
 ·exact q.elim
def Uh(Fr:FA):FE:=λE Q=>Fr E λrs E1=>match rs with
 |[x]=>o1 ((vl E1 x).bind HF) λxs=>Q (.p (.int xs.length)) E1
 |_=>False
theorem fR(eK:X.K=K)(hg:Gl X "len")(hm:X.mg "len" = none)(ha:QA X (e::es) (dA K n Fr))(hs:bO (e::es)=true:=by rfl):QE X (.Call (.Name "len" p) (e::es) [] pos) (aI K (Uh Fr)):=by
 subst eK;refine(jP Bm hg hm PySem.boot_len ha ∅ ∅ hs).le λσ H Q hl h=>args (Fr:=Fr) h λB S E rs vs H2 Q' hS re rr hn q lk=>?_;obtain _|⟨x,_|⟨_,_⟩⟩:=rs
 ·exact False.elim q
 ·obtain⟨v,ws,e1,h1,h2⟩:=rr;cases h2;subst e1;obtain⟨xs,e2,q⟩:=o1.ex q;obtain⟨t,e3,e2⟩:=UU.mp e2;have rt:=re.vl h1 e3;cases t with
  |tup ys=>
   cases e2;obtain⟨p,us,rfl,sq,rs⟩:=rt;exact⟨p,us,rfl,.inr sq,by rw[rs.length];exact lk _ _ _ _ _ q .refl re rfl⟩
  |lst ys=>
   cases e2;obtain⟨p,us,rfl,sq,rs⟩:=rt;exact⟨p,us,rfl,.inl sq,by rw[rs.length];exact lk _ _ _ _ _ q .refl re rfl⟩
  |_=>cases e2
 ·exact False.elim q
def KA(Fr:FA):FE:=λE Q=>Fr E λrs E1=>match rs with
 |[x]=>i1 (vl E1 x) λi=>Q (.p (.int (i.natAbs:Int))) E1
 |_=>False
theorem sZ(hg:Gl X "abs")(hm:X.mg "abs" = none)(ha:QA X (e::es) (dA K n Fr))(hs:bO (e::es)=true:=by rfl):QE X (.Call (.Name "abs" p) (e::es) [] pos) (aI K (KA Fr)):=by
 refine(jP Qh hg hm boot_abs ha ∅ ∅ hs).le λσ H Q hl h=>args (Fr:=Fr) h λB S E rs vs H2 Q' hS re rr hn q lk=>?_;obtain _|⟨x,_|⟨_,_⟩⟩:=rs
 ·exact False.elim q
 ·obtain⟨v,ws,e1,h1,h2⟩:=rr;cases h2;subst e1;obtain⟨i,e2,q⟩:=i1.ex q;exact⟨i,by rw[re.int h1 e2],lk _ _ _ _ _ q .refl re rfl⟩
 ·exact False.elim q
def ER(Fr:FA):FE:=λE Q=>Fr E λrs E1=>match rs with
 |[x]=>b1 (vl E1 x) λi=>Q (.p (.int (if i then 1 else 0))) E1
 |_=>False
theorem D8(hg:Gl X "int")(hm:X.mg "int" = none)(ha:QA X (e::es) (dA K n Fr))(hs:bO (e::es)=true:=by rfl):QE X (.Call (.Name "int" p) (e::es) [] pos) (aI K (ER Fr)):=by
 refine(qR Qj hg hm (by decide +kernel) ha ∅ ∅ hs).le λσ H Q hl h=>args (Fr:=Fr) h λB S E rs vs H2 Q' hS re rr hn q lk=>?_;obtain _|⟨x,_|⟨_,_⟩⟩:=rs
 ·exact False.elim q
 ·obtain⟨v,ws,e1,h1,h2⟩:=rr;cases h2;subst e1;obtain⟨i,e2,q⟩:=b1.ex q;exact⟨i,by rw[re.bl h1 e2],lk _ _ _ _ _ q .refl re rfl⟩
 ·exact False.elim q
def D3(Fr:FA):FE:=λE Q=>Fr E λrs E1=>match rs with
 |[x,y]=>i2 (vl E1 x) (vl E1 y) λi j=>(0<j/\j<2^200)/\Q (.p (.tup [.int (i/j),.int (i%j)])) E1
 |_=>False
theorem Qx(hg:Gl X "divmod")(hm:X.mg "divmod" = none)(ha:QA X (e::es) (dA K n Fr))(hs:bO (e::es)=true:=by rfl):QE X (.Call (.Name "divmod" p) (e::es) [] pos) (aI K (D3 Fr)):=by
 refine(jP Bl hg hm boot_divmod ha ∅ ∅ hs).le λσ H Q hl h=>args (Fr:=Fr) h λB S E rs vs H2 Q' hS re rr hn q lk=>?_;obtain _|⟨x,_|⟨y,_|⟨_,_⟩⟩⟩:=rs
 ·exact False.elim q
 ·exact False.elim q
 ·obtain⟨v,ws,e1,h1,w,mz,e2,h2,h3⟩:=rr;cases h3;subst e2;subst e1;obtain⟨i,j,e3,e4,⟨c1,c2⟩,q⟩:=i2.ex q;refine⟨i,j,by rw[re.int h1 e3,re.int h2 e4],c1,c2,λp hp=>?_⟩;obtain⟨g,YG,rp⟩:=re.tup (ts:=[.int (i/j),.int (i%j)]) (vs:=[.int (i/j),.int (i%j)]) hp ⟨_,_,rfl,rfl,_,_,rfl,rfl,rfl⟩;exact lk _ _ _ _ _ q g YG rp
 ·exact False.elim q
end
structure ET where
 nx:En->Prop
 rt:R->En->Prop
 bk:En->Prop:=λ_=>False
 ct:En->Prop:=λ_=>False
abbrev FS:=ET->En->Prop
abbrev Gs(B:VN->Prop)(H:Hp)(S:St)(E:En)(H':Hp)(S':St)(E':En):Prop:=Kp (Ow B S E) (Ow B S' E') H H'
structure LS(K:W.Frag)(B:VN->Prop)(H:Hp)(σ:St)(E:En)(DT:ET)(D:cU):Prop where
 nx:∀σ' H' E',DT.nx E'->Gs B H σ E H' σ' E'->RE K B H' σ' E'->D.nx σ' H'
 rt:∀r E' v H' S',DT.rt r E'->Gs B H σ E H' S' E'->RE K B H' S' E'->RR K B H' S' E' r v->D.rt v H'
 bk:∀σ' H' E',DT.bk E'->Gs B H σ E H' σ' E'->RE K B H' σ' E'->D.bk σ' H'
 ct:∀σ' H' E',DT.ct E'->Gs B H σ E H' σ' E'->RE K B H' σ' E'->D.ct σ' H'
theorem LS.step{K:W.Frag}{B:VN->Prop}{H H':Hp}{σ σ':St}{E E':En}{DT:ET}{D:cU}(l:LS K B H σ E DT D)(g:Gs B H σ E H' σ' E'):LS K B H' σ' E' DT D:=
 ⟨λa b c d e=>l.nx a b c d (g.trans e),λa b c d e f h=>l.rt a b c d e f (g.trans h),λa b c d e=>l.bk a b c d (g.trans e),λa b c d e=>l.ct a b c d (g.trans e)⟩
def i9(K:W.Frag)(F:FS):TS:=λD σ H=>∃B E DT,RE K B H σ E/\F DT E/\LS K B H σ E DT D
theorem QS.le{X:Cx}{st:VS}{t t':TS}(h:QS X st t)(m:∀D σ H,σ.length=X.N.length->t' D σ H->t D σ H):QS X st t':=⟨λpins s σ H D I z=>h.h pins s σ H D I (m D σ H I.len z)⟩
theorem QB.le(h:QB X mj t)(m:∀D σ H,t' D σ H->t D σ H):QB X mj t':=⟨λpins s σ H D I z=>h.h pins s σ H D I (m D σ H z)⟩
theorem QG.le(h:QG X e t)(m:∀v σ H Q,σ.length=X.N.length->t' v σ H Q->t v σ H Q):QG X e t':=⟨λpins s σ H v u Q I r z=>h.h pins s σ H v u Q I r (m v σ H Q I.len z)⟩
theorem Sw.le(h:Sw X es t)(m:∀v σ H Q,t' v σ H Q->t v σ H Q):Sw X es t':=⟨λpins s σ H v u Q I r z=>h.h pins s σ H v u Q I r (m v σ H Q z)⟩
theorem QI.le(h:QI X tg e t)(m:∀σ H Q,σ.length=X.N.length->t' σ H Q->t σ H Q):QI X tg e t':=⟨λpins s σ H R I z=>h.h pins s σ H R I (m σ H R I.len z)⟩
theorem RE.map{K:W.Frag}{B:VN->Prop}{H:Hp}{S:St}{S':St}{E:En}{E':En}(re:RE K B H S E)(hl:S'.length=E'.length)(hp:∀(i:Nat)(t:T),E'[i]?=oZ (oZ (.p t))->∃v,S'[i]?=oZ (oZ v)/\Rp K H (Ow B S E) t v)(f:Nat->Nat)(ho:∀(i:Nat)(k:Bool)(xs:List T),E'[i]?=oZ (oZ (.o k xs))->E[f i]?=oZ (oZ (.o k xs))/\∃a,S[f i]?=oZ (oZ (.ref a))/\S'[i]?=oZ (oZ (.ref a)))(hf:∀(i j:Nat)(k l:Bool)(xs ys:List T),E'[i]?=oZ (oZ (.o k xs))->E'[j]?=oZ (oZ (.o l ys))->f i=f j->i=j):RE K B H S' E'/\∀b,Ow B S' E' b->Ow B S E b:=by
 have ow:∀b,Ow B S' E' b->Ow B S E b:=λb z=>by
  obtain z|⟨i,k,xs,h1,h2⟩:=z
  ·exact .inl z
  obtain⟨h3,a,h4,h5⟩:=ho i k xs h1;rw[h2]at h5;cases h5;exact .inr ⟨f i,k,xs,h3,h4⟩
 refine⟨⟨hl,λi t h=>?_,λi k xs h=>?_,λi j k l xs ys a h1 h2 h3 h4=>?_,re.bd⟩,ow⟩
 ·obtain⟨v,h1,h2⟩:=hp i t h;exact⟨v,h1,h2.step (Kp.less ow)⟩
 ·obtain⟨h3,a,h4,h5⟩:=ho i k xs h;obtain⟨a',vs,q1,q2,q3,q4⟩:=re.own _ k xs h3;rw[h4]at q1;cases q1;exact⟨a,vs,h5,q2,q3.step (Kp.less ow),q4⟩
 ·obtain⟨p1,a1,p2,p3⟩:=ho i k xs h1;obtain⟨r1,a2,r2,r3⟩:=ho j l ys h2;rw[h3]at p3;cases p3;rw[h4]at r3;cases r3;exact hf i j k l xs ys h1 h2 (re.inj _ _ k l xs ys _ p1 r1 p2 r2)
theorem RE.cut{K:W.Frag}{B:VN->Prop}{H':Hp}{S':St}{E:En}{E':En}{σ:St}(re:RE K B H' S' E')(hS:∃τ,S'=σ++τ)(hl:σ.length=E.length):RE K B H' σ (E'.take E.length)/\∀b,Ow B σ (E'.take E.length) b->Ow B S' E' b:=by
 obtain⟨τ,rfl⟩:=hS;have e:(σ++τ).take E.length=σ:=by rw[<-hl];simp
 have:=re.take E.length;rw[e]at this;refine⟨this,λb z=>?_⟩;obtain z|⟨i,k,xs,h1,h2⟩:=z
 ·exact .inl z
 have hi:i<E.length:=by
  obtain c|c:=OY i E.length
  ·exact c
  ·rw[RT ⋯]at h1;cases h1
 exact .inr ⟨i,k,xs,by rw[QR hi]at h1;exact h1,gL ⟨τ,rfl⟩ h2⟩
theorem RE.setP{K:W.Frag}{B:VN->Prop}{H:Hp}{S:St}{E:En}(re:RE K B H S E){i:Nat}{t:T}{v:V}(h:Rp K H (Ow B S E) t v):RE K B H (S.set i (oZ v)) (E.set i (oZ (.p t)))/\∀b,Ow B (S.set i (oZ v)) (E.set i (oZ (.p t))) b->Ow B S E b:=by
 refine re.map (by simp[re.len]) (λj u hj=>?_) id (λj k xs hj=>?_) (λ_ _ _ _ _ _ _ _ h=>h)
 ·rw[TK]at hj
  by_cases c:i=j
  ·subst c;rw[oV rfl]at hj;split at hj
   ·cases hj;rename_i hi;exact⟨v,by rw[OV (by rw[re.len];exact hi)],h⟩
   ·cases hj
  ·rw[oW c]at hj;obtain⟨w,h1,h2⟩:=re.pure j u hj;exact⟨w,by rw[OP c];exact h1,h2⟩
 ·rw[TK]at hj
  by_cases c:i=j
  ·subst c;rw[oV rfl]at hj;split at hj<;>cases hj
  ·rw[oW c]at hj;obtain⟨a,vs,h1,_⟩:=re.own j k xs hj;exact⟨hj,a,h1,by rw[OP c];exact h1⟩
theorem RE.setO{K:W.Frag}{B:VN->Prop}{H:Hp}{S:St}{E:En}{σ:St}(re:RE K B H S E)(hS:∃τ,S=σ++τ){i j:Nat}{k:Bool}{xs:List T}(hj:σ.length<=j)(hE:E[j]?=oZ (oZ (.o k xs))){v:V}(hv:S[j]?=oZ (oZ v)):
  RE K B H (σ.set i (oZ v)) ((E.take σ.length).set i (oZ (.o k xs)))/\∀b,Ow B (σ.set i (oZ v)) ((E.take σ.length).set i (oZ (.o k xs))) b->Ow B S E b:=by
 obtain⟨τ,rfl⟩:=hS;have hle:σ.length<=E.length:=by rw[<-re.len];simp
 have gt:∀{m:Nat}{x:Option U},(E.take σ.length)[m]?=oZ x->E[m]?=oZ x/\m<σ.length:=λ{m x}h=>by
  by_cases c:m<σ.length
  ·rw[QR c]at h;exact⟨h,c⟩
  ·rw[RT ⋯]at h;cases h
 refine re.map (by simp;lia) (λm u hm=>?_) (λm=>if m=i then j else m) (λm l ys hm=>?_) (λm n l l' ys zs h1 h2 h=>?_)
 ·rw[TK]at hm
  by_cases c:i=m
  ·subst c;rw[oV rfl]at hm;split at hm<;>cases hm
  ·rw[oW c]at hm;obtain⟨hm,lt⟩:=gt hm;obtain⟨w,h1,h2⟩:=re.pure m u hm;rw[OO lt]at h1;exact⟨w,by rw[OP c];exact h1,h2⟩
 ·rw[TK]at hm
  by_cases c:i=m
  ·subst c;rw[oV rfl]at hm;split at hm
   ·cases hm;rename_i hi;obtain⟨a,vs,h1,_⟩:=re.own j k xs hE;rw[hv]at h1;cases h1;rw[oV rfl];refine⟨hE,a,hv,?_⟩;rw[OV (by rw[PM]at hi;lia)]
   ·cases hm
  ·rw[oW c]at hm;obtain⟨hm,lt⟩:=gt hm;obtain⟨a,vs,h1,_⟩:=re.own m l ys hm;rw[oW (λz=>c z.symm)];refine⟨hm,a,h1,?_⟩;rw[OO lt]at h1;rw[OP c];exact h1
 ·have lt:∀{m:Nat}{l:Bool}{ys:List T},((E.take σ.length).set i (oZ (.o k xs)))[m]?=oZ (oZ (.o l ys))->m≠i->m<σ.length:=λ{m l ys}h1 c=>by
   rw[OP (λz=>c z.symm)]at h1;exact(gt h1).2
  by_cases c1:m=i
  ·by_cases c2:n=i
   ·rw[c1,c2]
   ·simp only[oV c1,oW c2]at h;have:=lt h2 c2
    lia
  ·by_cases c2:n=i
   ·simp only[oW c1,oV c2]at h;have:=lt h1 c1
    lia
   ·simp only[oW c1,oW c2]at h;exact h
theorem RE.frz{K:W.Frag}{B:VN->Prop}{H:Hp}{S:St}{E:En}(re:RE K B H S E){i:Nat}{xs:List T}(h:E[i]?=oZ (oZ (.o false xs))):RE K B H S (E.set i (oZ (.p (.lst xs))))/\∀b,Ow B S (E.set i (oZ (.p (.lst xs)))) b->Ow B S E b/\S[i]?≠oZ (oZ (.ref b)):=by
 have hi:i<E.length:=(NV.mp h).1;obtain⟨a,vs,h1,h2,h3,h4⟩:=re.own i false xs h;have get:∀{j:Nat}{u:U},(E.set i (oZ (.p (.lst xs))))[j]?=oZ (oZ u)->(j=i/\u = .p (.lst xs))\/(j≠i/\E[j]?=oZ (oZ u)):=λ{j u}hj=>by
  by_cases c:j=i
  ·subst c;rw[OV hi]at hj;cases hj;exact .inl ⟨rfl,rfl⟩
  ·rw[OP (λz=>c z.symm)]at hj;exact .inr ⟨c,hj⟩
 have ow:∀b,Ow B S (E.set i (oZ (.p (.lst xs)))) b->Ow B S E b/\S[i]?≠oZ (oZ (.ref b)):=λb z=>by
  obtain z|⟨j,k,ys,q1,q2⟩:=z
  ·refine⟨.inl z,λw=>?_⟩;rw[h1]at w;cases w;exact absurd (h4.mpr z) ∅
  obtain⟨_,z⟩|⟨c,q1⟩:=get q1
  ·cases z
  ·exact⟨.inr ⟨j,k,ys,q1,q2⟩,λz=>c (re.inj j i k false ys xs b q1 h q2 z)⟩
 have kl:Kp (Ow B S E) (Ow B S (E.set i (oZ (.p (.lst xs))))) H H:=Kp.less λb z=>(ow b z).1;refine⟨⟨by simp[re.len],λj t hj=>?_,λj k ys hj=>?_,λj m k l ys zs b q1 q2 q3 q4=>?_,re.bd⟩,ow⟩
 ·obtain⟨c,z⟩|⟨c,hj⟩:=get hj
  ·cases z;subst c;exact⟨_,h1,a,vs,rfl,.inl ⟨λz=>(ow a z).2 h1,.inl h2⟩,h3.step kl⟩
  ·obtain⟨w,q1,q2⟩:=re.pure j t hj;exact⟨w,q1,q2.step kl⟩
 ·obtain⟨_,z⟩|⟨c,hj⟩:=get hj
  ·cases z
  ·obtain⟨b,ws,q1,q2,q3,q4⟩:=re.own j k ys hj;exact⟨b,ws,q1,q2,q3.step kl,q4⟩
 ·obtain⟨_,z⟩|⟨_,q1⟩:=get q1
  ·cases z
  obtain⟨_,z⟩|⟨_,q2⟩:=get q2
  ·cases z
  exact re.inj j m k l ys zs b q1 q2 q3 q4
theorem RE.put{K:W.Frag}{B:VN->Prop}{H:Hp}{S:St}{E:En}(re:RE K B H S E){i:Nat}{k:Bool}{xs ys:List T}{a:VN}{ws:List V}(h:E[i]?=oZ (oZ (.o k xs)))(hS:S[i]?=oZ (oZ (.ref a)))(hw:cX K H (Ow B S E) ys ws):
  Gr B H S E (upd H a (.lst ws)) S (E.set i (oZ (.o k ys)))/\RE K B (upd H a (.lst ws)) S (E.set i (oZ (.o k ys))):=by
 have hi:i<E.length:=(NV.mp h).1;have get:∀{j:Nat}{u:U},(E.set i (oZ (.o k ys)))[j]?=oZ (oZ u)->(j=i/\u = .o k ys)\/(j≠i/\E[j]?=oZ (oZ u)):=λ{j u}hj=>by
  by_cases c:j=i
  ·subst c;rw[OV hi]at hj;cases hj;exact .inl ⟨rfl,rfl⟩
  ·rw[OP (λz=>c z.symm)]at hj;exact .inr ⟨c,hj⟩
 have ow:∀b,Ow B S (E.set i (oZ (.o k ys))) b->Ow B S E b:=λb z=>by
  obtain z|⟨j,l,zs,q1,q2⟩:=z
  ·exact .inl z
  obtain⟨c,z⟩|⟨c,q1⟩:=get q1
  ·subst c;exact .inr ⟨j,k,xs,h,q2⟩
  ·exact .inr ⟨j,l,zs,q1,q2⟩
 have oa:Ow B S E a:=.inr ⟨i,k,xs,h,hS⟩;have kk:∀b o,H b=oZ o->¬Ow B S E b->(upd H a (.lst ws)) b=oZ o:=λb o e n=>by rw[bE (λz=>n (by rw[z];exact oa))];exact e
 have kp:Kp (Ow B S E) (Ow B S E) H (upd H a (.lst ws)):=⟨kk,λb z=>.inl z⟩;refine⟨⟨⟨kk,λb z=>.inl (ow b z)⟩,[],by simp⟩,re.step kk (by simp) (λj t hj=>?_) (λj l zs hj=>?_) (λb hb=>?_)⟩
 ·obtain⟨_,z⟩|⟨_,hj⟩:=get hj
  ·cases z
  ·exact hj
 ·obtain⟨c,z⟩|⟨c,hj⟩:=get hj
  ·cases z;subst c;refine⟨xs,h,λb hb=>?_⟩;rw[hS]at hb;cases hb;exact⟨ws,dP,hw.step kp⟩
  ·refine⟨zs,hj,λb hb=>?_⟩;obtain⟨b',us,q1,q2,q3,_⟩:=re.own j l zs hj;rw[hb]at q1;cases q1;have nb:b≠a:=λz=>c (re.inj j i l k zs xs a hj h (by rw[<-z];exact hb) hS);exact⟨us,by rw[bE nb];exact q2,q3.step kp⟩
 ·by_cases c:b=a
  ·subst c;exact⟨ws,dP⟩
  ·rw[bE c];exact re.bd b hb
section
variable{X:Cx}{K:W.Frag}{pos:Pos}{a b c e o i:oC}{es rest:List oC}{Fa Fb Fc Fe Fo Fi:FE}{Fr:FA}{Fp Fq:FB}{F G:FS}{st:VS}{mj body ya b2':List VS}
def Cn:En->(En->Prop)->Prop
 |[],k=>k []
 |x::r,k=>Cn r λr'=>k (x::r')
theorem j7:∀{E:En}{k:En->Prop},Cn E k->k E
 |[],_,h=>h
 |x::r,k,h=>j7 (E:=r) (k:=λr'=>k (x::r')) h
def R8:FS:=λD E=>D.nx E
def M7(F G:FS):FS:=λD E=>F { D with nx:=λE'=>Cn E' (G D) } E
theorem bR:QB X [] (i9 K R8):=Xb.le λD σ H zZ=>by obtain⟨B,E,DT,re,hF,l⟩:=zZ;exact l.nx _ _ _ hF (Kp.refl _ _) re
theorem aB(h1:QS X st (i9 K F))(h2:QB X mj (i9 K G)):QB X (st::mj) (i9 K (M7 F G)):=
 (Dg h1 h2).le λD σ H zZ=>by obtain⟨B,E,DT,re,hF,l⟩:=zZ;exact⟨B,E,_,re,hF,⟨λσ' H' E' hG g YG=>⟨B,E',DT,YG,j7 hG,l.step g⟩,l.rt,l.bk,l.ct⟩⟩
theorem aE(h1:QS X st (i9 K F)):QB X [st] (i9 K F):=La h1
def HE(Fa:FE):FS:=λD E=>Fa E D.rt
theorem aG(h:QE X e (aI K Fa)):QS X (.Return (oZ e) pos) (i9 K (HE Fa)):=
 (Lb h).le λD σ H hl zZ=>by obtain⟨B,E,DT,re,hF,l⟩:=zZ;exact⟨B,σ,E,_,⟨[],by simp⟩,re,hF,λr E' v H' S' q g YG rr=>l.rt r E' v H' S' q g.kp YG rr⟩
theorem Bh{D:Bool->Hp->Prop}{B:VN->Prop}{P:Bool->En->Prop}(re:RE K B H σ E)(hF:Fp E λb E'=>P b (E'.take E.length))(k:∀b H' E',P b E'->Gs B H σ E H' σ E'->RE K B H' σ E'->D b H'):i8 K Fp σ H D:=
 ⟨B,σ,E,_,⟨[],by simp⟩,re,hF,λb E' H' S' q g YG=>by
  obtain⟨r,ow⟩:=YG.cut (E:=E) g.pre re.len;exact k b H' _ q (g.kp.trans (Kp.less ow)) r⟩
theorem wH{P:R->En->En->Prop}{B:VN->Prop}(re:RE K B H σ E)(hF:Fa E λr E'=>P r E' (E'.take E.length))(k:∀r E' v H' S',P r E' (E'.take E.length)->Gr B H σ E H' S' E'->RE K B H' S' E'->RR K B H' S' E' r v->RE K B H' σ (E'.take E.length)->(∀b,Ow B σ (E'.take E.length) b->Ow B S' E' b)->Q v H'):aI K Fa σ H Q:=
 ⟨B,σ,E,_,⟨[],by simp⟩,re,hF,λr E' v H' S' q g YG rr=>by
  obtain⟨r2,ow⟩:=YG.cut (E:=E) g.pre re.len;exact k r E' v H' S' q g YG rr r2 ow⟩
def MN(Fp:FB)(F G:FS):FS:=λD E=>Fp E λb E'=>if b=true then Cn (E'.take E.length) (F D)else Cn (E'.take E.length) (G D)
theorem cD(hc:QT X c (i8 K Fp))(ha:QB X ya (i9 K F))(hb:QB X b2' (i9 K G)):QS X (.If c ya b2' pos) (i9 K (MN Fp F G)):=
 (R5 hc ha hb).le λD σ H hl⟨B,E,DT,re,hF,l⟩=>Bh (P:=λb E'=>if b=true then Cn E' (F DT)else Cn E' (G DT)) re hF λb H' E' q g YG=>by
  cases b
  ·exact⟨B,E',DT,YG,j7 q,l.step g⟩
  ·exact⟨B,E',DT,YG,j7 q,l.step g⟩
def Xq(Fa:FE):FS:=λD E=>Fa E λ_ E'=>D.nx (E'.take E.length)
theorem jK(he:QE X e (aI K Fa))(hs:WJ e none pos.line X.env=pure false:=by rfl):QS X (.Expr e pos) (i9 K (Xq Fa)):=
 (Dh he hs).le λD σ H hl zZ=>by obtain⟨B,E,DT,re,hF,l⟩:=zZ;exact wH (P:=λ_ _ E'=>DT.nx E') re hF λr E' v H' S' q g YG rr ZX ow=>l.nx _ _ _ q (g.kp.trans (Kp.less ow)) ZX
def M6(Fp:FB):FS:=λD E=>Fp E λb E'=>b=true/\D.nx (E'.take E.length)
theorem Ra(hc:QT X c (i8 K Fp)):QS X (.Assert c m pos) (i9 K (M6 Fp)):=
 (Sg hc).le λD σ H hl zZ=>by obtain⟨B,E,DT,re,hF,l⟩:=zZ;exact Bh (P:=λb E'=>b=true/\DT.nx E') re hF λb H' E' q g YG=>⟨q.1,l.nx _ _ _ q.2 g YG⟩
def Hu(n:Nat)(E:En):R->Option U
 |.p t=>oZ (.p t)
 |.s j=>match E[j]? with
  |some (oZ (.p t))=>oZ (.p t)
  |some (oZ (.o k xs))=>if n<=j then oZ (.o k xs)else none
  |_=>none
theorem sH{B:VN->Prop}{σ:St}{E:En}{i:Nat}(re:RE K B H S E)(hS:∃τ,S=σ++τ)(rr:RR K B H S E r v)(h:Hu σ.length E r=oZ u):
  RE K B H (σ.set i (oZ v)) ((E.take σ.length).set i (oZ u))/\∀b,Ow B (σ.set i (oZ v)) ((E.take σ.length).set i (oZ u)) b->Ow B S E b:=by
 have zk:∀{t:T},Rp K H (Ow B S E) t v->RE K B H (σ.set i (oZ v)) ((E.take σ.length).set i (oZ (.p t)))/\∀b,Ow B (σ.set i (oZ v)) ((E.take σ.length).set i (oZ (.p t))) b->Ow B S E b:=λ{t}hp=>by
  obtain⟨τ,rfl⟩:=hS;have ZX:=re.take σ.length;rw[show(σ++τ).take σ.length=σ by simp]at ZX;have ow:∀b,Ow B σ (E.take σ.length) b->Ow B (σ++τ) E b:=λb z=>by
   obtain z|⟨j,k,xs,h1,h2⟩:=z
   ·exact .inl z
   have hj:j<σ.length:=(NV.mp h2).1;exact .inr ⟨j,k,xs,by rw[QR hj]at h1;exact h1,gL ⟨τ,rfl⟩ h2⟩
  obtain⟨q1,q2⟩:=ZX.setP (i:=i) (hp.step (Kp.less ow));exact⟨q1,λb z=>ow b (q2 b z)⟩
 cases r with
 |p t=>cases h;exact zk rr
 |s j=>
  cases q:E[j]? with
  |none=>simp only[Hu,q]at h;cases h
  |some w=>
   cases w with
   |none=>simp only[Hu,q]at h;cases h
   |some w=>
    cases w with
    |p t=>
     simp only[Hu,q]at h;cases h;obtain⟨v',h1,h2⟩:=re.pure j t q;have pb:S[j]?=oZ (oZ v):=rr;rw[pb]at h1;cases h1;exact zk h2
    |o k xs=>
     simp only[Hu,q]at h;split at h
     ·cases h;rename_i c;exact re.setO hS c q rr
     ·cases h
def M8(i:Nat)(Fa:FE):FS:=λD E=>Fa E λr E'=>o1 (Hu E.length E' r) λu=>D.nx ((E'.take E.length).set i (oZ u))
theorem Jw{i:Nat}{x:Str}(hN:X.N.Nodup)(hi:X.N[i]?=oZ x)(hx:yT X.env.scope x)(he:QE X e (aI K Fa))(hs:WJ e (oZ (.Name x pos')) pos.line X.env=pure false:=by rfl)(hf:X.fn x=true\/X.env.scope.names.lookup x=oZ .local:=by first|exact .inl rfl|exact .inr rfl|assumption):QS X (.Assign [.Name x pos'] e pos) (i9 K (M8 i Fa)):=
 (Lc hN hi hx he hs hf).le λD σ H hl⟨B,E,DT,re,hF,l⟩=>⟨B,σ,E,_,⟨[],by simp⟩,re,hF,λr E' v H' S' q g YG rr=>by
  obtain⟨u,e1,q⟩:=q.ex;rw[<-re.len]at e1 q;obtain⟨r1,ow⟩:=sH (i:=i) YG g.pre rr e1;exact l.nx _ _ _ q (g.kp.trans (Kp.less ow)) r1⟩
end
abbrev FG:=T->En->(En->Prop)->Prop
abbrev DG:=List T->En->(En->Prop)->Prop
def u9(K:W.Frag)(G:FG):TG:=λv σ H Q=>∃B τ E t Q',RE K B H (σ++τ) E/\Rp K H (Ow B (σ++τ) E) t v/\G t E Q'/\∀σ' H' E',Q' E'->Gs B H (σ++τ) E H' (σ'++τ) E'->RE K B H' (σ'++τ) E'->σ'.length=σ.length->Q σ' H'
def Oo(K:W.Frag)(G:DG):V8:=λvs σ H Q=>∃B τ E ts Q',RE K B H (σ++τ) E/\cX K H (Ow B (σ++τ) E) ts vs/\G ts E Q'/\∀σ' H' E',Q' E'->Gs B H (σ++τ) E H' (σ'++τ) E'->RE K B H' (σ'++τ) E'->σ'.length=σ.length->Q σ' H'
def qD(i:Nat):FG:=λt E Q=>Q (E.set i (oZ (.p t)))
def LA:DG:=λts E Q=>match ts with
 |[]=>Q E
 |_=>False
def FN(g:FG)(gs:DG):DG:=λts E Q=>match ts with
 |t::r=>g t E λE'=>gs r E' Q
 |[]=>False
def LC(n:Nat)(gs:DG):FG:=λt E Q=>match t with
 |.tup ts=>cond (Nat.beq ts.length n) (gs ts E Q) False
 |_=>False
def LB(Fo Fi:FE):FG:=λt E Q=>Fo E λr E1=>Fi E1 λz E2=>match r with
 |.s j=>match E2[j]? with
  |some (oZ (.o k xs))=>i1 (vl E2 z) λm=>o1 (Nk xs.length m) λl=>Q ((E2.set j (oZ (.o k (xs.set l t)))).take E.length)
  |_=>False
 |_=>False
section
variable{X:Cx}{K:W.Frag}{pos:Pos}{a b c e o i:oC}{es rest:List oC}{Fa Fb Fc Fe Fo Fi:FE}{Fr:FA}{Fp Fq:FB}{F G:FS}{st:VS}{mj body:List VS}{g:FG}{gs:DG}
theorem kL{i:Nat}{x:Str}(hN:X.N.Nodup)(hi:X.N[i]?=oZ x)(hx:yT X.env.scope x)(hf:X.fn x=true\/X.env.scope.names.lookup x=oZ .local:=by first|exact .inl rfl|exact .inr rfl|assumption):QG X (.Name x pos) (u9 K (qD i)):=
 (sI hN hi hx hf).le λv σ H Q hl zZ=>by
  obtain⟨B,τ,E,t,Q',re,rp,hF,l⟩:=zZ;have ag:i<σ.length:=by rw[hl];exact(NV.mp hi).1
  obtain⟨r1,ow⟩:=re.setP (i:=i) rp;rw[List.set_append_left _ _ ag]at r1 ow;exact l _ _ _ hF (Kp.less ow) r1 (by simp)
theorem cH:Sw X [] (Oo K LA):=Oi.le λvs σ H Q zZ=>by
 obtain⟨B,τ,E,ts,Q',re,rp,hF,l⟩:=zZ;cases ts with
 |nil=>exact⟨rp,l _ _ _ hF (Kp.refl _ _) re rfl⟩
 |cons _ _=>exact hF.elim
theorem aQ(h1:QG X e (u9 K g))(h2:Sw X es (Oo K gs))(hs:(WD (e::es) X.env).map (·.2)=WX e X.env::(WD es X.env).map (·.2):=by rfl):Sw X (e::es) (Oo K (FN g gs)):=
 (xP h1 h2 hs).le λvs σ H Q zZ=>by
  obtain⟨B,τ,E,ts,Q',re,rp,hF,l⟩:=zZ;cases ts with
  |nil=>exact hF.elim
  |cons t ts=>
   obtain⟨v,r,e1,h1,h2⟩:=rp;exact⟨v,r,e1,B,τ,E,t,_,re,h1,hF,λσ' H' E' q g YG hl=>⟨B,τ,E',ts,Q',YG,h2.step g,q,λσ2 H2 E2 q2 g2 ZX hl2=>l _ _ _ q2 (g.trans g2) ZX (hl2.trans hl)⟩⟩
theorem dE(eK:X.K=K)(hc:X.calm=true)(h:Sw X es (Oo K gs))(hn:(WD es X.env).length=n:=by rfl)(mq:(WD es X.env).findIdx? (·.1)=none:=by rfl):QG X (.Tuple es k pos) (u9 K (LC n gs)):=by
 subst eK;refine(Xf hc h hn mq).le λv σ H Q hl zZ=>?_;obtain⟨B,τ,E,t,Q',re,rp,hF,l⟩:=zZ;cases t with
 |tup ts=>
  have yb:cond (Nat.beq ts.length n) (gs ts E Q') False:=hF;cases q:Nat.beq ts.length n with
  |false=>rw[q]at yb;exact yb.elim
  |true=>
   rw[q]at yb;obtain⟨p,vs,e1,sq,rs⟩:=rp.sqT;exact⟨p,vs,e1,sq,by rw[rs.length];exact Nat.eq_of_beq_eq_true q,B,τ,E,ts,Q',re,rs,yb,l⟩
 |_=>exact hF.elim
theorem Ju(ho:QE X o (aI K Fo))(hi:QE X i (aI K Fi))(ha:∀v,WX (.Subscript o i pos) X.env v=(do
   let ov <-WQ [v] (VY o X.env)
   let iv <-WQ [v,ov] (VY i X.env)
   standAt pos
   WQ [v,ov,iv] (setItem ov iv v)
   release [v,ov,iv] []):=by intro _;rfl):QG X (.Subscript o i pos) (u9 K (LB Fo Fi)):=by
 refine(CF ho hi Ye ha).le λv σ H Q hl zZ=>?_;obtain⟨B,τ,E,t,Q',re,rp,hF,l⟩:=zZ;refine⟨B,σ++τ,E,_,⟨τ,rfl⟩,re,hF,λr E1 w H1 S1 q g1 YI rr=>?_⟩;obtain⟨τ1,df⟩:=g1.pre;refine⟨B,S1,E1,_,⟨τ++τ1,by rw[df,OM]⟩,YI,q,λz E2 y H2 S2 q2 g2 ZX wg=>?_⟩;have g12:=g1.trans g2;cases r with
 |p _=>exact q2.elim
 |s j=>
  have rj:S2[j]?=oZ (oZ w):=gL g2.pre rr;cases hE:E2[j]? with
  |none=>simp only[hE]at q2
  |some u=>
   cases u with
   |none=>simp only[hE]at q2
   |some u=>
    cases u with
    |p _=>simp only[hE]at q2
    |o k xs=>
     simp only[hE]at q2;obtain⟨m,e1,q2⟩:=q2.ex;obtain⟨n,e2,q2⟩:=q2.ex;obtain⟨p,vs,h1,h2,h3,h4⟩:=ZX.own j k xs hE;rw[rj]at h1;cases h1;refine⟨p,vs,m,n,rfl,ZX.int wg e1,h2,by rw[h3.length];exact e2,?_⟩;obtain⟨g3,cj⟩:=ZX.put (ys:=xs.set n t) (ws:=vs.set n v) hE rj (h3.set (rp.step g12.kp) n);obtain⟨qe,ow⟩:=cj.cut (E:=E) (g12.trans g3).pre re.len;exact l _ _ _ q2 ((g12.trans g3).kp.trans (Kp.less ow)) qe rfl
def LV(Fa:FE)(g:FG):FS:=λD E=>Fa E λr E'=>match r with
 |.p t=>g t (E'.take E.length) D.nx
 |.s _=>False
theorem d6(he:QE X e (aI K Fa))(hg:QG X tg (u9 K g))(hs:WY [tg] e pos.line X.env=pure false:=by rfl)(hw:WZ [tg] e X.env=pure none:=by rfl)(h1:(WD [tg] X.env).map (·.2)=[WX tg X.env]:=by rfl):QS X (.Assign [tg] e pos) (i9 K (LV Fa g)):=
 (CH he hg hs hw h1).le λD σ H hl⟨B,E,DT,re,hF,l⟩=>wH (P:=λr _ E'=>match r with|.p t=>g t E' DT.nx|.s _=>False) re hF λr E' v H' S' q g' YG rr ZX ow=>by
  cases r with
  |s _=>exact q.elim
  |p t=>exact⟨B,[],_,t,_,by rw[PV];exact ZX,by rw[PV];exact Rp.step (Kp.less ow) rr,q,λσ2 H2 E2 q2 g2 cj _=>by rw[PV]at g2 cj;rw[PV]at g2;exact l.nx _ _ _ q2 ((g'.kp.trans (Kp.less ow)).trans g2) cj⟩
def LW(i j:Nat)(Fr:FA):FS:=λD E=>Fr E λrs E'=>match rs with
 |[.p t,r]=>o1 (Hu E.length E' r) λu=>D.nx (((E'.take E.length).set j (oZ u)).set i (oZ (.p t)))
 |[r,.p t]=>o1 (Hu E.length E' r) λu=>D.nx (((E'.take E.length).set i (oZ u)).set j (oZ (.p t)))
 |_=>False
theorem gH{n i j:Nat}{x y:Str}{kt k2 pt2}(hc:X.calm=true)(hN:X.N.Nodup)(hi:X.N[i]?=oZ x)(hj:X.N[j]?=oZ y)(xw:i≠j)(hx:X.env.scope.names.lookup x=oZ .local)(hy:X.env.scope.names.lookup y=oZ .local)(ha:QA X [a,b] (dA K n Fr))(hw:WZ [.Tuple [.Name x px,.Name y py] kt pt] (.Tuple [a,b] k2 pt2) X.env=pure (oZ [x,y]))(hs:WY [.Tuple [.Name x px,.Name y py] kt pt] (.Tuple [a,b] k2 pt2) pos.line X.env=pure false:=by rfl):
  QS X (.Assign [.Tuple [.Name x px,.Name y py] kt pt] (.Tuple [a,b] k2 pt2) pos) (i9 K (LW i j Fr)):=by
 refine(CI hc hN hi hj xw hx hy ha hw hs).le λD σ H hl⟨B,E,DT,re,hF,l⟩=>⟨B,σ,E,_,⟨[],by simp⟩,re,hF,λrs E' vs H' S' q g YG rr hn=>?_⟩;split at q
 ·rename_i t r;obtain⟨v,ws,e1,h1,w,mz,e2,h2,h3⟩:=rr;cases h3;subst e2;subst e1;obtain⟨u,e3,q⟩:=q.ex;rw[<-re.len]at e3 q;obtain⟨r1,ow⟩:=sH (i:=j) YG g.pre h2 e3;obtain⟨r2,zl⟩:=r1.setP (i:=i) (Rp.step (Kp.less ow) h1);refine⟨v,w,rfl,?_⟩;rw[List.set_comm _ _ xw];exact l.nx _ _ _ q (g.kp.trans (Kp.less λb z=>ow b (zl b z))) r2
 ·rename_i r t _;obtain⟨v,ws,e1,h1,w,mz,e2,h2,h3⟩:=rr;cases h3;subst e2;subst e1;obtain⟨u,e3,q⟩:=q.ex;rw[<-re.len]at e3 q;obtain⟨r1,ow⟩:=sH (i:=i) YG g.pre h1 e3;obtain⟨r2,zl⟩:=r1.setP (i:=j) (Rp.step (Kp.less ow) h2);exact⟨v,w,rfl,l.nx _ _ _ q (g.kp.trans (Kp.less λb z=>ow b (zl b z))) r2⟩
 ·exact q.elim
def HC(f:Int->Int->Int)(i:Nat)(Fa:FE):FS:=λD E=>match E[i]? with
 |some (oZ (.p (.int x)))=>Fa E λr E'=>i1 (vl E' r) λy=>D.nx ((E'.take E.length).set i (oZ (.p (.int (f x y)))))
 |_=>False
theorem Ur{i:Nat}{x:Str}{f:Int->Int->Int}(hN:X.N.Nodup)(hi:X.N[i]?=oZ x)(hx:yT X.env.scope x)(he:QE X e (aI K Fa))(ho:JS X op (MJ f))(hf:X.fn x=true\/X.env.scope.names.lookup x=oZ .local:=by first|exact .inl rfl|exact .inr rfl|assumption):
  QS X (.AugAssign (.Name x pos') op e pos) (i9 K (HC f i Fa)):=by
 refine QS.le ⟨BO hN hi hx he.h ho hf⟩ λD σ H hl zZ=>?_;obtain⟨B,E,DT,re,hF,l⟩:=zZ;unfold HC at hF;split at hF
 ·rename_i y hE;obtain⟨v,h1,h2⟩:=re.pure i _ hE;cases h2;refine⟨_,h1,wH (P:=λr E' E2=>i1 (vl E' r) λz=>DT.nx (E2.set i (oZ (.p (.int (f y z)))))) re hF λr E' v H' S' q g' YG rr ZX ow=>?_⟩;obtain⟨z,e1,q⟩:=q.ex;obtain⟨r1,zl⟩:=ZX.setP (i:=i) (t:=.int (f y z)) (v:=.int (f y z)) rfl;exact⟨y,z,rfl,YG.int rr e1,l.nx _ _ _ q (g'.kp.trans (Kp.less λb z=>ow b (zl b z))) r1⟩
 ·exact hF.elim
def CQ(Fp:FB)(F:FS):FS:=λD E=>∃W:Nat->En->Prop,(∃m,W m E)/\∀m E,W m E->Fp E λb E'=>if b=true then F { D with nx:=λE2=>∃m',m'<m/\W m' E2,ct:=λE2=>∃m',m'<m/\W m' E2,bk:=D.nx } (E'.take E.length)else D.nx (E'.take E.length)
theorem nQ(hp:PassesOwn (VR X.prog X.w) X.A X.env X.xe)(hc:QT X c (i8 K Fp))(hb:QB X body (i9 K F)):QS X (.While c body [] pos) (i9 K (CQ Fp F)):=by
 refine(Xh hp hc hb).le λD σ H hl zZ=>?_;obtain⟨B,E,DT,re,⟨W,⟨m0,w0⟩,hF⟩,l⟩:=zZ;refine⟨λm σ' H'=>∃E',W m E'/\Gs B H σ E H' σ' E'/\RE K B H' σ' E',⟨m0,E,w0,Kp.refl _ _,re⟩,?_⟩;rintro m σ1 H1 ⟨E1,w1,g1,YI⟩;refine Bh (P:=λb E'=>if b=true then F { DT with nx:=λE2=>∃m',m'<m/\W m' E2,ct:=λE2=>∃m',m'<m/\W m' E2,bk:=DT.nx } E' else DT.nx E') YI (hF m E1 w1) λb H2 E2 q g2 ZX=>?_;cases b
 ·exact l.nx _ _ _ q (g1.trans g2) ZX
 ·refine⟨λσ' H'=>∃m',m'<m/\∃E',W m' E'/\Gs B H σ E H' σ' E'/\RE K B H' σ' E',λσ' H' z=>z,B,E2,_,ZX,q,?_⟩;have l2:=l.step (g1.trans g2);exact⟨λσ' H' E' zZ g YG=>by obtain⟨m',hm,w⟩:=zZ;exact⟨m',hm,E',w,(g1.trans g2).trans g,YG⟩,l2.rt,λσ' H' E' z g YG=>l2.nx _ _ _ z g YG,λσ' H' E' zZ g YG=>by obtain⟨m',hm,w⟩:=zZ;exact⟨m',hm,E',w,(g1.trans g2).trans g,YG⟩⟩
structure Es(K:W.Frag)(J:It)(items:List T)(gd:Hp->(VN->Prop)->Prop):Prop where
 keep:∀H H' O O',Kp O O' H H'->gd H O->gd H' O'
 go:∀i H O,gd H O->i<items.length->J.go i H
 yld:∀i H O x H' t,gd H O->items[i]?=oZ t->(∀a,O a->H a≠none)->J.yld i H x H'->Kp O O H H'/\(∀b o,H b=oZ o->H' b=oZ o)/\Rp K H' O t x
 stop:∀H O,gd H O->J.stop items.length H
abbrev FI:=En->(List T->List Nat->En->Prop)->Prop
def mR(K:W.Frag)(F:FI):TI:=λσ H R=>∃B S E Q',(∃τ,S=σ++τ)/\RE K B H S E/\F E Q'/\∀J items us E' H' S' gd,Q' items us E'->Gr B H S E H' S' E'->RE K B H' S' E'->Es K J items gd->(∀j∈us,∃k xs,E'[j]?=oZ (oZ (U.o k xs)))->
 (∀O:VN->Prop,(∀b,O b->Ow B S' E' b)->(∀j∈us,∀a,S'[j]?=oZ (oZ (.ref a))->¬O a)->gd H' O)->R J H'
def frzs:List Nat->En->Option En
 |[],E=>oZ E
 |j::us,E=>match E[j]? with
  |some (oZ (.o false xs))=>frzs us (E.set j (oZ (.p (.lst xs))))
  |_=>none
theorem Ca{B:VN->Prop}:∀{us:List Nat}{E E':En},RE K B H S E->frzs us E=oZ E'->RE K B H S E'/\(∀b,Ow B S E' b->Ow B S E b)/\(∀j∈us,∀a,S[j]?=oZ (oZ (.ref a))->¬Ow B S E' a)/\E'.length=E.length
 |[],E,E',re,h=>by cases h;exact⟨re,λb z=>z,λj hj=>absurd hj (by simp),rfl⟩
 |j::us,E,E',re,h=>by
  cases q:E[j]? with
  |none=>simp only[frzs,q]at h;cases h
  |some u=>
   cases u with
   |none=>simp only[frzs,q]at h;cases h
   |some u=>
    cases u with
    |p t=>simp only[frzs,q]at h;cases h
    |o k xs=>
     cases k
     ·simp only[frzs,q]at h;obtain⟨s1,s2⟩:=re.frz q;obtain⟨r1,r2,r3,r4⟩:=Ca s1 h;refine⟨r1,λb z=>(s2 b (r2 b z)).1,λm hm a ha z=>?_,by rw[r4];simp⟩;obtain rfl|hm:=NZ.mp hm
      ·exact(s2 a (r2 a z)).2 ha
      ·exact r3 m hm a ha z
     ·simp only[frzs,q]at h;cases h
def hJ(g:FG)(F:FS)(D:ET):List T->En->Prop
 |[],E=>D.nx E
 |x::xs,E=>g x E λE'=>Cn E' (F { D with nx:=hJ g F D xs,ct:=hJ g F D xs,bk:=D.nx })
def HD(I:FI)(g:FG)(F:FS):FS:=λD E=>I E λitems us E'=>o1 (frzs us E') λE2=>Cn (E2.take E.length) (hJ g F D items)
theorem j5(hp:PassesOwn (VR X.prog X.w) X.A X.env X.xe)(hc:X.calm=true)(hi:QI X tg iter (mR K I))(hg:QG X tg (u9 K g))(hb:QB X body (i9 K F))(hs:∀x,VX iter X.env x=pure x:=by intro _;rfl):
  QS X (.For tg iter body [] pos) (i9 K (HD I g F)):=by
 refine(Xg hp hc hi hg hb hs).le λD σ H hl zZ=>?_;obtain⟨B,E,DT,re,hF,l⟩:=zZ;refine⟨B,σ,E,_,⟨[],by simp⟩,re,hF,λJ items us E1 H1 S1 gd q g1 YI ok _ wj=>?_⟩;obtain⟨E2,e2,q⟩:=q.ex;replace q:=j7 q;obtain⟨f1,f2,f3,f4⟩:=Ca YI e2;obtain⟨c1,c2⟩:=f1.cut (E:=E) g1.pre re.len;have gs:Gs B H σ E H1 σ (E2.take E.length):=g1.kp.trans ((Kp.less f2).trans (Kp.less c2));have gd1:gd H1 (Ow B σ (E2.take E.length)):=wj _ (λb z=>f2 b (c2 b z)) λj hj a ha z=>f3 j hj a ha (c2 a z);refine⟨λi m σ' H'=>m=items.length-i/\i<=items.length/\∃E',hJ g F DT (items.drop i) E'/\Gs B H σ E H' σ' E'/\RE K B H' σ' E'/\gd H' (Ow B σ' E'),⟨_,rfl,OG _,_,q,gs,c1,gd1⟩,?_⟩;rintro i m σ2 H2 ⟨rfl,jh,E3,q3,g3,cj,pe⟩;obtain ag|hge:=OY i items.length
 ·have hd:items.drop i=items[i]::items.drop (i+1):=QM ag;rw[hd]at q3;refine .inr ⟨ok.go i H2 _ pe ag,λσ' H'=>∃E',hJ g F DT (items.drop (i+1)) E'/\Gs B H σ E H' σ' E'/\RE K B H' σ' E'/\gd H' (Ow B σ' E'),λσ' H' zZ=>by obtain⟨E',z⟩:=zZ;exact⟨items.length-(i+1),⋯,rfl,ag,E',z⟩,λx H4 y=>?_⟩;obtain⟨k4,s4,rp⟩:=ok.yld i H2 _ x H4 _ pe (NW ag) (λa z=>by obtain⟨vs,e⟩:=cj.ow z;rw[e];intro z;cases z) y;have qe:=cj.kept s4;have yc:=ok.keep _ _ _ _ k4 pe;refine⟨B,[],E3,_,_,by rw[PV];exact qe,by rw[PV];exact rp,q3,λσ5 H5 E5 q5 g5 pf hl5=>?_⟩;rw[PV]at g5 pf;rw[PV]at g5;have zm:=ok.keep _ _ _ _ g5 yc;have gg:=(g3.trans k4).trans g5;have l5:=l.step gg;refine⟨B,E5,_,pf,j7 q5,?_⟩;exact⟨λσ' H' E' z g YG=>⟨E',z,gg.trans g,YG,ok.keep _ _ _ _ g zm⟩,l5.rt,λσ' H' E' z g YG=>l5.nx _ _ _ z g YG,λσ' H' E' z g YG=>⟨E',z,gg.trans g,YG,ok.keep _ _ _ _ g zm⟩⟩
 ·have ei:i=items.length:=⋯
  subst ei;rw[RY]at q3;exact .inl ⟨ok.stop H2 _ pe,l.nx _ _ _ q3 g3 cj⟩
def pX(E:En):R->List Nat
 |.p _=>[]
 |.s j=>match E[j]? with
  |some (oZ (.o _ _))=>[j]
  |_=>[]
theorem mV:∀j∈pX E r,∃k xs,E[j]?=oZ (oZ (U.o k xs)):=λj hj=>by
 cases r with
 |p _=>simp[pX]at hj
 |s m=>
  cases q:E[m]? with
  |none=>simp[pX,q]at hj
  |some u=>
   cases u with
   |none=>simp[pX,q]at hj
   |some u=>
    cases u with
    |p _=>simp[pX,q]at hj
    |o k xs=>simp[pX,q]at hj;subst hj;exact⟨k,xs,q⟩
theorem oP{B:VN->Prop}(re:RE K B H S E)(rr:RR K B H S E r v)(e:vl E r=oZ t)(O:VN->Prop)(hO:∀b,O b->Ow B S E b)(hu:∀j∈pX E r,∀a,S[j]?=oZ (oZ (.ref a))->¬O a):Rp K H O t v:=by
 cases r with
 |p u=>cases e;exact Rp.step (Kp.less hO) rr
 |s j=>
  have pb:S[j]?=oZ (oZ v):=rr;cases q:E[j]? with
  |none=>simp only[vl,q]at e;cases e
  |some u=>
   cases u with
   |none=>simp only[vl,q]at e;cases e
   |some u=>
    cases u with
    |p u=>
     simp only[vl,q]at e;cases e;obtain⟨w,h1,h2⟩:=re.pure j _ q;rw[pb]at h1;cases h1;exact h2.step (Kp.less hO)
    |o k xs=>
     simp only[vl,q]at e;cases e;obtain⟨a,vs,h1,h2,h3,_⟩:=re.own j k xs q;rw[pb]at h1;cases h1;exact⟨a,vs,rfl,.inl ⟨hu j (by simp[pX,q]) a pb,.inl h2⟩,h3.step (Kp.less hO)⟩
theorem Z5:Es K (JN K p) xs (λH O=>Rp K H O (.lst xs) (.ref p)):=by
 refine⟨λH H' O O' k h=>Rp.step k h,λi H O h hi=>?_,λi H O x H' t h e _ y=>?_,λH O h=>?_⟩
 ·obtain⟨a,vs,e,sq,rs⟩:=h.sqL;cases e;exact⟨vs,vs[i]'(by rw[rs.length];exact hi),sq,NW _⟩
 ·obtain⟨e1,y⟩:=y;subst e1;obtain⟨a,vs,e2,sq,rs⟩:=h.sqL;cases e2;obtain⟨v,h1,h2⟩:=rs.get e;rw[y vs sq]at h1;cases h1;exact⟨Kp.refl _ _,λ_ _ z=>z,h2⟩
 ·obtain⟨a,vs,e,sq,rs⟩:=h.sqL;cases e;exact⟨vs,sq,by rw[rs.length];exact OF _⟩
theorem Z7:Es K (JO K p) xs (λH O=>Rp K H O (.tup xs) (.ref p)):=by
 refine⟨λH H' O O' k h=>Rp.step k h,λi H O h hi=>?_,λi H O x H' t h e _ y=>?_,λH O h=>?_⟩
 ·obtain⟨a,vs,e,sq,rs⟩:=h.sqT;cases e;exact⟨vs,vs[i]'(by rw[rs.length];exact hi),sq,NW _⟩
 ·obtain⟨e1,y⟩:=y;subst e1;obtain⟨a,vs,e2,sq,rs⟩:=h.sqT;cases e2;obtain⟨v,h1,h2⟩:=rs.get e;rw[y vs sq]at h1;cases h1;exact⟨Kp.refl _ _,λ_ _ z=>z,h2⟩
 ·obtain⟨a,vs,e,sq,rs⟩:=h.sqT;cases e;exact⟨vs,sq,by rw[rs.length];exact OF _⟩
def g9(lo:Int)(n:Nat):List T:=(OQ n).map λ(i:Nat)=>T.int (lo+(i:Int))
theorem Hx{lo:Int}:(g9 lo n).length=n:=by simp[g9]
theorem Vh{lo:Int}:Es K (DH lo n) (g9 lo n) (λ_ _=>True):=by
 refine⟨λ_ _ _ _ _ h=>h,λi H O _ hi=>by show i<n;simpa[g9]using hi,λi H O x H' t _ e _ y=>?_,λH O _=>by simp[DH,g9]⟩;obtain⟨e1,y⟩:=y;subst e1;subst y;unfold g9 at e;rw[NY]at e;have hi:i<n:=by
  obtain c|c:=OY i n
  ·exact c
  ·rw[QU (by simpa using c)]at e;cases e
 rw[RH hi]at e;cases e;exact⟨Kp.refl _ _,λ_ _ z=>z,rfl⟩
theorem Z4:Es K (JM K p) (xs.zipIdx.map λq=>T.tup [.int (q.2:Int),q.1]) (λH O=>Rp K H O (.lst xs) (.ref p)):=by
 refine⟨λH H' O O' k h=>Rp.step k h,λi H O h hi=>?_,λi H O x H' t h e hO y=>?_,λH O h=>?_⟩
 ·obtain⟨a,vs,e,sq,rs⟩:=h.sqL;cases e;have jh:i<xs.length:=by simpa using hi
  exact⟨vs,vs[i]'(by rw[rs.length];exact jh),sq,NW _⟩
 ·obtain⟨pp,w,e1,hp,e2,y⟩:=y;subst e1;subst e2;obtain⟨a,vs,e3,sq,rs⟩:=h.sqL;cases e3;rw[NY]at e;cases q:xs.zipIdx[i]? with
  |none=>rw[q]at e;cases e
  |some z=>
   rw[q]at e;cases e;obtain⟨q1,q2⟩:=NV.mp q;have q1':i<xs.length:=by simpa using q1
   rw[List.getElem_zipIdx]at q2;subst q2;obtain⟨v,h1,h2⟩:=rs.get (NW q1');rw[y vs sq]at h1;cases h1;have k:Kp O O H (upd H pp (.tup [.int (i:Int),w])):=Kp.upd hp;refine⟨k,λb o z=>by rw[bE (a8 z hp)];exact z,pp,_,rfl,.inl ⟨λz=>hO pp z hp,dP⟩,_,_,rfl,?_,w,[],rfl,h2.step k,rfl⟩;simp[Rp]
 ·obtain⟨a,vs,e,sq,rs⟩:=h.sqL;cases e;exact⟨vs,sq,by simp[rs.length]⟩
def iL(Fa:FE):FI:=λE Q=>Fa E λr E1=>match vl E1 r with
 |some (.lst xs)=>Q xs (pX E1 r) E1
 |_=>False
def iT(Fa:FE):FI:=λE Q=>Fa E λr E1=>match vl E1 r with
 |some (.tup xs)=>Q xs [] E1
 |_=>False
theorem kM(eK:X.K=K)(hl:QE X l (aI K Fa)):QI X tg l (mR K (iL Fa)):=by
 subst eK;refine(L5 hl).le λσ H R hn⟨B,S,E,Q',hS,re,hF,lk⟩=>⟨B,S,E,_,hS,re,hF,λr E1 v H1 S1 q g YI rr=>?_⟩;split at q
 ·rename_i xs e1;obtain⟨a,vs,e2,sq,rs⟩:=YI.vl rr e1;exact⟨a,e2,⟨vs,sq⟩,lk _ _ _ _ _ _ _ q g YI Z5 mV λO h1 h2=>by rw[<-e2];exact oP YI rr e1 O h1 h2⟩
 ·exact q.elim
theorem Y7(eK:X.K=K)(hl:QE X l (aI K Fa)):QI X tg l (mR K (iT Fa)):=by
 subst eK;refine(CG hl).le λσ H R hn⟨B,S,E,Q',hS,re,hF,lk⟩=>⟨B,S,E,_,hS,re,hF,λr E1 v H1 S1 q g YI rr=>?_⟩;split at q
 ·rename_i xs e1;obtain⟨a,vs,e2,sq,rs⟩:=YI.vl rr e1;refine⟨a,e2,⟨vs,sq⟩,lk _ _ _ _ _ _ _ q g YI Z7 (λj hj=>absurd hj (by simp)) λO h1 h2=>?_⟩;rw[<-e2];refine oP YI rr e1 O h1 λj hj=>?_;cases r with
  |p _=>simp[pX]at hj
  |s m=>
   cases q2:E1[m]? with
   |none=>simp only[vl,q2]at e1;cases e1
   |some u=>
    cases u with
    |none=>simp only[vl,q2]at e1;cases e1
    |some u=>
     cases u with
     |p u=>simp[pX,q2]at hj
     |o k ys=>simp only[vl,q2]at e1;cases e1
 ·exact q.elim
def NJ(Fr:FA):FI:=λE Q=>Fr E λrs E1=>match rs with
 |[x]=>i1 (vl E1 x) λj=>(-(2^62)<=j/\j<2^62)/\Q (g9 0 j.toNat) [] E1
 |_=>False
def NK(Fr:FA):FI:=λE Q=>Fr E λrs E1=>match rs with
 |[x,y]=>i2 (vl E1 x) (vl E1 y) λi j=>(-(2^62)<=i/\i<2^62/\-(2^62)<=j/\j<2^62)/\Q (g9 i (j-i).toNat) [] E1
 |_=>False
theorem eJ(hg:Gl X "range")(hm:X.mg "range" = none)(ha:QA X [a] (dA K n Fr))(hs:a9 a=false:=by rfl):QI X tg (.Call (.Name "range" p) [a] [] pos) (mR K (NJ Fr)):=by
 refine(Se hg hm ha hs).le λσ H R hn⟨B,S,E,Q',hS,re,hF,lk⟩=>⟨B,S,E,_,hS,re,hF,λrs E1 vs H1 S1 q g YI rr hn=>?_⟩;obtain _|⟨x,_|⟨_,_⟩⟩:=rs
 ·exact False.elim q
 ·obtain⟨v,ws,e1,h1,h2⟩:=rr;cases h2;subst e1;obtain⟨j,e2,c,q⟩:=i1.ex q;exact⟨j,by rw[YI.int h1 e2],c.1,c.2,lk _ _ _ _ _ _ _ q g YI Vh (λj hj=>absurd hj (by simp)) λ_ _ _=>trivial⟩
 ·exact False.elim q
theorem zX(hg:Gl X "range")(hm:X.mg "range" = none)(ha:QA X [a,b] (dA K n Fr))(hs:a9 a=false:=by rfl)(jc:a9 b=false:=by rfl):QI X tg (.Call (.Name "range" p) [a,b] [] pos) (mR K (NK Fr)):=by
 refine(Sf hg hm ha hs jc).le λσ H R hn⟨B,S,E,Q',hS,re,hF,lk⟩=>⟨B,S,E,_,hS,re,hF,λrs E1 vs H1 S1 q g YI rr hn=>?_⟩;obtain _|⟨x,_|⟨y,_|⟨_,_⟩⟩⟩:=rs
 ·exact False.elim q
 ·exact False.elim q
 ·obtain⟨v,ws,e1,h1,w,mz,e2,h2,h3⟩:=rr;cases h3;subst e2;subst e1;obtain⟨i,j,e3,e4,c,q⟩:=i2.ex q;exact⟨i,j,by rw[YI.int h1 e3,YI.int h2 e4],c,lk _ _ _ _ _ _ _ q g YI Vh (λj hj=>absurd hj (by simp)) λ_ _ _=>trivial⟩
 ·exact False.elim q
def iE(Fr:FA):FI:=λE Q=>Fr E λrs E1=>match rs with
 |[r]=>(match vl E1 r with
  |some (.lst xs)=>Q (xs.zipIdx.map λq=>T.tup [.int (q.2:Int),q.1]) (pX E1 r) E1
  |_=>False)
 |_=>False
theorem E9{x1}(eK:X.K=K)(hg:Gl X "enumerate")(hm:X.mg "enumerate" = none)(ha:QA X [a] (dA K n Fr))(hs:a9 a=false:=by rfl):QI X (.Tuple elts x1 fi) (.Call (.Name "enumerate" p) [a] [] pos) (mR K (iE Fr)):=by
 subst eK;refine(L4 hg hm ha hs).le λσ H R hn⟨B,S,E,Q',hS,re,hF,lk⟩=>⟨B,S,E,_,hS,re,hF,λrs E1 vs H1 S1 q g YI rr hn=>?_⟩;obtain _|⟨r,_|⟨_,_⟩⟩:=rs
 ·exact False.elim q
 ·obtain⟨v,ws,e1,h1,h2⟩:=rr;cases h2;subst e1;simp only at q;split at q
  ·rename_i xs e1;obtain⟨a,vs,e2,sq,rs⟩:=YI.vl h1 e1;exact⟨a,by rw[e2],⟨vs,sq⟩,lk _ _ _ _ _ _ _ q g YI Z4 mV λO k1 k2=>by rw[<-e2];exact oP YI h1 e1 O k1 k2⟩
  ·exact q.elim
 ·exact False.elim q
end
mutual
def noL:T->Bool
 |.lst _=>false
 |.tup xs=>bL xs
 |_=>true
def bL:List T->Bool
 |[]=>true
 |x::xs=>noL x&&bL xs
end
def jH(H:Hp)(a:VN):Prop:=∃ws,H a=oZ (.lst ws)
section
variable{K:W.Frag}{H:Hp}{O O':VN->Prop}
mutual
theorem Rp.noL(hO:∀a,O' a->jH H a):∀{t:T}{v:V},L2.noL t=true->Rp K H O t v->Rp K H O' t v
 |.non,_,_,h=>h
 |.bl _,_,_,h=>h
 |.int _,_,_,h=>h
 |.str _,_,_,h=>h
 |.lst _,_,e,_=>by simp[L2.noL]at e
 |.tup xs,v,e,h=>by
  obtain⟨a,vs,e1,h1,h2⟩:=h;refine⟨a,vs,e1,h1.imp (λ⟨_,h⟩=>⟨λz=>?_,h⟩) id,cX.noL hO (by simpa[L2.noL]using e) h2⟩;obtain⟨ws,q⟩:=hO a z;rw[h]at q;cases q
theorem cX.noL(hO:∀a,O' a->jH H a):∀{xs:List T}{vs:List V},bL xs=true->cX K H O xs vs->cX K H O' xs vs
 |[],_,_,h=>h
 |x::xs,vs,e,h=>by
  obtain⟨v,r,e1,h1,h2⟩:=h;have e':L2.noL x=true/\bL xs=true:=by simpa[bL]using e
  exact⟨v,r,e1,Rp.noL hO e'.1 h1,cX.noL hO e'.2 h2⟩
end
end
theorem RE.push{K:W.Frag}{B:VN->Prop}{H':Hp}{S:St}{E:En}(re:RE K B H' S E){a:VN}{ts:List T}{vs:List V}(ha:H' a=oZ (.lst vs))(hn:¬Ow B S E a)(hb:¬B a)(hp:∀(i:Nat)(t:T),E[i]?=oZ (oZ (.p t))->∃v,S[i]?=oZ (oZ v)/\Rp K H' (λb=>Ow B S E b\/b=a) t v)(ho:∀(i:Nat)(k:Bool)(xs:List T),E[i]?=oZ (oZ (.o k xs))->∃b ws,S[i]?=oZ (oZ (.ref b))/\H' b=oZ (.lst ws)/\cX K H' (λb=>Ow B S E b\/b=a) xs ws)(h:cX K H' (λb=>Ow B S E b\/b=a) ts vs):
  RE K B H' (S++[oZ (.ref a)]) (E++[oZ (.o false ts)])/\∀b,Ow B (S++[oZ (.ref a)]) (E++[oZ (.o false ts)]) b->Ow B S E b\/b=a:=by
 have gE:∀{i:Nat}{u:U},(E++[oZ (.o false ts)])[i]?=oZ (oZ u)->(E[i]?=oZ (oZ u)/\i<E.length)\/(i=E.length/\u = .o false ts):=λ{i u}h=>by
  obtain⟨c,h⟩|⟨c,h⟩:=Gq h
  ·exact .inl ⟨h,c⟩
  ·exact .inr ⟨c,Option.some.inj h⟩
 have gS:∀{i:Nat}{x:Option V},S[i]?=oZ x->(S++[oZ (.ref a)])[i]?=oZ x:=λ{i x}h=>gL ⟨_,rfl⟩ h;have jf:∀{i:Nat}{x:Option V},i<E.length->(S++[oZ (.ref a)])[i]?=oZ x->S[i]?=oZ x:=λ{i x}c h=>by
  rw[OO (by rw[re.len];exact c)]at h;exact h
 have lS:(S++[oZ (.ref a)])[E.length]?=oZ (oZ (.ref a)):=by rw[<-re.len];simp
 have ow:∀b,Ow B (S++[oZ (.ref a)]) (E++[oZ (.o false ts)]) b->Ow B S E b\/b=a:=λb z=>by
  obtain z|⟨i,k,xs,h1,h2⟩:=z
  ·exact .inl (.inl z)
  obtain⟨h1,c⟩|⟨c,h1⟩:=gE h1
  ·exact .inl (.inr ⟨i,k,xs,h1,jf c h2⟩)
  ·subst c;rw[lS]at h2;cases h2;exact .inr rfl
 have kl:Kp (λb=>Ow B S E b\/b=a) (Ow B (S++[oZ (.ref a)]) (E++[oZ (.o false ts)])) H' H':=Kp.less ow;refine⟨⟨by simp[re.len],λi t h=>?_,λi l xs h=>?_,λi j l m xs ys b h1 h2 h3 h4=>?_,re.bd⟩,ow⟩
 ·obtain⟨h,c⟩|⟨c,h⟩:=gE h
  ·obtain⟨v,h1,h2⟩:=hp i t h;exact⟨v,gS h1,h2.step kl⟩
  ·cases h
 ·obtain⟨h,c⟩|⟨c,h⟩:=gE h
  ·obtain⟨b,ws,h1,h2,h3⟩:=ho i l xs h;obtain⟨b',_,q1,_,_,q4⟩:=re.own i l xs h;rw[h1]at q1;cases q1;exact⟨b,ws,gS h1,h2,h3.step kl,q4⟩
  ·cases h;subst c;exact⟨a,vs,lS,ha,cX.step kl (by assumption),⟨λz=>absurd z ∅,λz=>absurd z hb⟩⟩
 ·obtain⟨h1,c1⟩|⟨c1,h1⟩:=gE h1
  ·obtain⟨h2,c2⟩|⟨c2,h2⟩:=gE h2
   ·exact re.inj i j l m xs ys b h1 h2 (jf c1 h3) (jf c2 h4)
   ·subst c2;rw[lS]at h4;cases h4;exact absurd (.inr ⟨i,l,xs,h1,jf c1 h3⟩) hn
  ·obtain⟨h2,c2⟩|⟨c2,h2⟩:=gE h2
   ·subst c1;rw[lS]at h3;cases h3;exact absurd (.inr ⟨j,m,ys,h2,jf c2 h4⟩) hn
   ·rw[c1,c2]
theorem RE.pad{K:W.Frag}{B:VN->Prop}{H:Hp}{S:St}{E:En}(re:RE K B H S E)(n:Nat):RE K B H (S++OE n none) (E++OE n none)/\(∀b,Ow B (S++OE n none) (E++OE n none) b->Ow B S E b):=by
 have gE:∀{i:Nat}{u:U},(E++OE n none)[i]?=oZ (oZ u)->E[i]?=oZ (oZ u)/\i<E.length:=λ{i u}h=>by
  obtain c|c:=OY i E.length
  ·rw[OO c]at h;exact⟨h,c⟩
  ·rw[OX c]at h;have:=NX h;rw[List.mem_replicate]at this;cases this.2
 have gS:∀{i:Nat}{x:Option V},S[i]?=oZ x->(S++OE n none)[i]?=oZ x:=λ{i x}h=>gL ⟨_,rfl⟩ h;have jf:∀{i:Nat}{x:Option V},i<E.length->(S++OE n none)[i]?=oZ x->S[i]?=oZ x:=λ{i x}c h=>by
  rw[OO (by rw[re.len];exact c)]at h;exact h
 have ow:∀b,Ow B (S++OE n none) (E++OE n none) b->Ow B S E b:=λb z=>z.imp id λzZ=>by obtain⟨i,k,xs,h1,h2⟩:=zZ;exact⟨i,k,xs,(gE h1).1,jf (gE h1).2 h2⟩
 have kl:Kp (Ow B S E) (Ow B (S++OE n none) (E++OE n none)) H H:=Kp.less ow;refine⟨⟨by simp[re.len],λi t h=>?_,λi l xs h=>?_,λi j l m xs ys b h1 h2 h3 h4=>?_,re.bd⟩,ow⟩
 ·obtain⟨v,h1,h2⟩:=re.pure i t (gE h).1;exact⟨v,gS h1,h2.step kl⟩
 ·obtain⟨b,ws,h1,h2,h3,h4⟩:=re.own i l xs (gE h).1;exact⟨b,ws,gS h1,h2,h3.step kl,h4⟩
 ·exact re.inj i j l m xs ys b (gE h1).1 (gE h2).1 (jf (gE h1).2 h3) (jf (gE h2).2 h4)
inductive A where
 |v (t:T)|b (xs:List T)
inductive RV where
 |v (t:T)|l (xs:List T)
abbrev dG:=List A->(RV->List T->Prop)->Prop
def kF:List A->En
 |[]=>[]
 |.v t::r=>oZ (.p t)::kF r
 |.b xs::r=>oZ (.o true xs)::kF r
theorem dZ:∀{as:List A},(kF as).length=as.length
 |[]=>rfl
 |.v t::r=>by simp[kF,dZ (as:=r)]
 |.b t::r=>by simp[kF,dZ (as:=r)]
def jX:List A->Option Nat
 |[]=>none
 |.b _::_=>oZ 0
 |.v _::r=>(jX r).map (· + 1)
def JH(K:W.Frag)(H H':Hp):RV->V->Prop
 |.v t,v=>Rp K H' (jH H) t v
 |.l xs,v=>∃a ws,v = .ref a/\H a=none/\H' a=oZ (.lst ws)/\cX K H' (λb=>jH H b\/b=a) xs ws
def aJ(K:W.Frag)(S:dG):Sp:=λvs H Q _=>∃(as:List A)(Q':RV->List T->Prop)(bx:Option VN),RE K (λa=>bx=oZ a) H (vs.map oZ) (kF as)/\(jX as=none->bx=none)/\S as Q'/\
 ∀r xs v H',Q' r xs->(∀b o,H b=oZ o->bx≠oZ b->H' b=oZ o)->(∀a,bx=oZ a->∃ws,H' a=oZ (.lst ws)/\cX K H' (jH H') xs ws)->JH K H H' r v->Q v H'
def wM(as:List A)(E:En):Option (List T):=match jX as with
 |none=>oZ []
 |some j=>match E[j]? with
  |some (oZ (.o true xs))=>if bL xs=true then oZ xs else none
  |_=>none
def EI(as:List A)(Q:RV->List T->Prop):ET where
 nx:=λE=>o1 (wM as E) λxs=>Q (.v .non) xs
 rt:=λr E=>o1 (wM as E) λxs=>match r with
  |.p t=>noL t=true/\Q (.v t) xs
  |.s i=>match E[i]? with
   |some (oZ (.o false ys))=>bL ys=true/\Q (.l ys) xs
   |some (oZ (.p t))=>noL t=true/\Q (.v t) xs
   |_=>False
theorem wK:∀{as:List A}{j:Nat}{k:Bool}{xs:List T},jX as=none->(kF as)[j]?≠oZ (oZ (.o k xs))
 |[],j,_,_,_,h=>by simp[kF]at h
 |.b _::_,_,_,_,e,_=>by cases e
 |.v _::r,j,k,xs,e,h=>by
  have e':jX r=none:=by
   cases q:jX r with
   |none=>rfl
   |some m=>rw[jX,q]at e;cases e
  cases j with
  |zero=>simp[kF]at h
  |succ m=>exact wK (j:=m) e' (by simpa[kF]using h)
theorem Mw:∀{as:List A}{j:Nat}{k:Bool}{xs:List T},(kF as)[j]?=oZ (oZ (.o k xs))->k=true
 |[],j,_,_,h=>by simp[kF]at h
 |.b _::_,0,_,_,h=>by simp[kF]at h;exact h.1
 |.v _::_,0,_,_,h=>by simp[kF]at h
 |.b _::r,j+1,_,_,h=>Mw (as:=r) (j:=j) (by simpa[kF]using h)
 |.v _::r,j+1,_,_,h=>Mw (as:=r) (j:=j) (by simpa[kF]using h)
theorem cL.okT{P:VQ}{w:VU}{K:W.Frag}{mg:Str->Option oA}{base:oE}{x qual:Str}{st:VS}{f:VN}{fd:WC}{N ps:List Str}{k:Nat}{S:dG}{F:FS}(Fn:cL K x qual st f fd)(Sc:aF N ps (aC st))(len:∀as Q,S as Q->as.length=ps.length)(hb:∀(YZ:oA)(A:oD)(outer:List Env)(s:oB)(H:Hp)(E:XK),dD k (A.deeper (WU qual (aC st) s.heap.objs.size f YZ))->QB (wQ cO P w K mg base N qual (aC st) f YZ A outer s H E).nox (cW st) (i9 K F))(hF:∀as Q,S as Q->F (EI as Q) (kF as++OE (N.length-as.length) none)):(~~~aT) cO (k+1) f fd ps (aJ K S):=by
 refine Fn.okQ Sc (λvs H Q E⟨as,Q',bx,re,vh,hS,l⟩=>?_) (λYZ A outer s H vs Q E hr⟨as,Q',bx,re,vh,hS,l⟩=>?_)
 ·have:=re.len;rw[OD,dZ]at this;rw[this];exact len as Q' hS
 have hl:vs.length=as.length:=by have:=re.len;rwa [OD,dZ]at this
 refine⟨_,hb YZ A outer s H E hr,?_⟩;obtain⟨wk,ml⟩:=re.pad (N.length-as.length);have mq:kD N vs=vs.map oZ++OE (N.length-as.length) none:=by unfold kD;rw[hl]
 rw[mq]
 -- the box's address
 have sv:∀b,Ow (λa=>bx=oZ a) (vs.map oZ) (kF as) b->bx=oZ b:=λb z=>by
  obtain z|⟨i,kk,xs,h1,h2⟩:=z
  ·exact z
  obtain⟨a,ws,q1,_,_,q4⟩:=re.own i kk xs h1;rw[h2]at q1;cases q1;exact q4.mp (Mw h1)
 have fr:∀{H':Hp}{S':St}{E':En},Gs (λa=>bx=oZ a) H (vs.map oZ++OE (N.length-as.length) none) (kF as++OE (N.length-as.length) none) H' S' E'->∀b o,H b=oZ o->bx≠oZ b->H' b=oZ o:=λg b o h n=>g.keep b o h λz=>n (sv b (ml b z));have fin:∀{r:RV}{xs:List T}{v:V}{H':Hp}{S':St}{E':En},wM as E'=oZ xs->Q' r xs->Gs (λa=>bx=oZ a) H (vs.map oZ++OE (N.length-as.length) none) (kF as++OE (N.length-as.length) none) H' S' E'->RE K (λa=>bx=oZ a) H' S' E'->
   ((∀a,jH H a->jH H' a)->JH K H H' r v)->Q v H':=λ{r xs v H' S' E'}e q g YG hr=>by
  have hbx:∀a,bx=oZ a->∃ws,H' a=oZ (.lst ws)/\cX K H' (jH H') xs ws:=λa ha=>by
   unfold wM at e;cases qb:jX as with
   |none=>
    rw[qb]at e;cases e;rw[vh qb]at ha;cases ha
   |some j=>
    rw[qb]at e;simp only at e;split at e
    ·rename_i ys hE;split at e
     ·cases e;rename_i zp;obtain⟨b,ws,h1,h2,h3,h4⟩:=YG.own j true xs hE;have:bx=oZ b:=h4.mp rfl;rw[ha]at this;cases this;exact⟨ws,h2,cX.noL (λ_ z=>z) zp h3⟩
     ·cases e
    ·cases e
  refine l r xs v H' q (fr g) hbx (hr λa zZ=>?_);obtain⟨ws,ha⟩:=zZ
  by_cases c:bx=oZ a
  ·obtain⟨mz,h,_⟩:=hbx a c;exact⟨mz,h⟩
  ·exact⟨ws,fr g a _ ha c⟩
 refine⟨_,_,_,wk,hF as Q' hS,⟨λσ' H' E' q g YG=>?_,λr E' v H' S' q g YG rr=>?_,λ_ _ _ z=>z.elim,λ_ _ _ z=>z.elim⟩⟩
 ·obtain⟨xs,e,q⟩:=q.ex;exact fin e q g YG λ_=>rfl
 ·obtain⟨xs,e,q⟩:=q.ex;cases r with
  |p t=>exact fin e q.2 g YG λh=>Rp.noL h q.1 rr
  |s i=>
   simp only at q;split at q
   ·rename_i ys hE;refine fin e q.2 g YG λh=>?_;obtain⟨b,ws,h1,h2,h3,h4⟩:=YG.own i false ys hE;have pb:S'[i]?=oZ (oZ v):=rr;rw[pb]at h1;cases h1;refine⟨b,ws,rfl,?_,h2,cX.noL (λa z=>?_) q.1 h3⟩
    ·obtain z|z:=g.new b (.inr ⟨i,false,ys,hE,pb⟩)
     ·have:=h4.mpr (sv b (ml b z));cases this
     ·exact z
    ·obtain z|z:=z
     ·exact h a z
     ·exact⟨ws,by rw[z];exact h2⟩
   ·rename_i t hE;obtain⟨w,h1,h2⟩:=YG.pure i t hE;have pb:S'[i]?=oZ (oZ v):=rr;rw[pb]at h1;cases h1;exact fin e q.2 g YG λh=>Rp.noL h q.1 h2
   ·exact q.elim
def Zy(E:En):List R->Option (List T)
 |[]=>oZ []
 |r::rs=>match vl E r,Zy E rs with
  |some t,oZ ts=>oZ (t::ts)
  |_,_=>none
def told(E:En)(Q:R->En->Prop):RV->Prop
 |.v t=>Q (.p t) E
 |.l xs=>Q (.s E.length) (E++[oZ (.o false xs)])
def Ge(S:dG)(Fr:FA):FE:=λE Q=>Fr E λrs E1=>o1 (Zy E1 rs) λts=>S (ts.map A.v) λr _=>told E1 Q r
def Ug(S:dG)(Fr:FA):FE:=λE Q=>Fr E λrs E1=>match rs with
 |.s j::rs=>(match E1[j]? with
  |some (oZ (.o k xs))=>cond (rs.all λr=>!(pX E1 r).contains j) (o1 (Zy E1 rs) λts=>S (.b xs::ts.map A.v) λr ys=>told (E1.set j (oZ (.o k ys))) Q r) False
  |_=>False)
 |_=>False
theorem Cm{K:W.Frag}{B:VN->Prop}{H:Hp}{S:St}{E:En}(re:RE K B H S E):∀{rs:List R}{vs:List V}{ts:List T},Qd K B H S E rs vs->Zy E rs=oZ ts->∀(O:VN->Prop),(∀b,O b->Ow B S E b)->(∀r∈rs,∀j∈pX E r,∀a,S[j]?=oZ (oZ (.ref a))->¬O a)->cX K H O ts vs
 |[],_,_,h,e,_,_,_=>by cases e;exact h
 |r::rs,_,ts,⟨v,ws,e1,h1,h2⟩,e,O,hO,hu=>by
  cases q1:vl E r with
  |none=>simp only[Zy,q1]at e;cases e
  |some t=>
   cases q2:Zy E rs with
   |none=>simp only[Zy,q1,q2]at e;cases e
   |some us=>
    simp only[Zy,q1,q2]at e;cases e;exact⟨v,ws,e1,oP re h1 q1 O hO (hu r (by simp)),Cm re h2 q2 O hO λr' hr=>hu r' (by simp[hr])⟩
theorem wU:∀{ts:List T},kF (ts.map A.v)=ts.map λt=>oZ (U.p t)
 |[]=>rfl
 |t::ts=>by simp[kF,wU (ts:=ts)]
theorem Mo:∀{ts:List T},jX (ts.map A.v)=none
 |[]=>rfl
 |t::ts=>by simp[jX,Mo (ts:=ts)]
theorem Eg{K:W.Frag}{B:VN->Prop}{H:Hp}{H':Hp}{S:St}{E:En}{E':En}(re:RE K B H S E)(YG:RE K B H' S E')(hk:∀b o,H b=oZ o->¬Ow B S E b->H' b=oZ o)(hw:∀b,Ow B S E' b->Ow B S E b)(hE:∀(i:Nat)(k:Bool)(xs:List T),E'[i]?=oZ (oZ (.o k xs))->(E[i]?=oZ (oZ (.o k xs))/\∀a,S[i]?=oZ (oZ (.ref a))->H' a=H a)\/∀a ws,S[i]?=oZ (oZ (.ref a))->H' a=oZ (.lst ws)->cX K H' (jH H') xs ws)(hP:∀(i:Nat)(t:T),E'[i]?=oZ (oZ (.p t))->E[i]?=oZ (oZ (.p t))){r:RV}{v:V}(rv:JH K H H' r v){Q:R->En->Prop}(q:told E' Q r){Qv:VK}(lk:Lk K B H S E Q Qv):Qv v H':=by
 have kp:Kp (Ow B S E) (Ow B S E') H H':=⟨hk,λb z=>.inl (hw b z)⟩;cases r with
 |v t=>exact lk _ _ _ _ _ q ⟨kp,[],by simp⟩ YG (Rp.step (Kp.less λb z=>re.ow (hw b z)) rv)
 |l xs=>
  obtain⟨a,ws,rfl,h1,h2,h3⟩:=rv;have nOw:¬Ow B S E' a:=λz=>re.nn h1 (hw a z);have nB:¬B a:=λz=>re.nn h1 (.inl z);have kp2:Kp (Ow B S E) (λb=>Ow B S E' b\/b=a) H H':=⟨hk,λb z=>by
   obtain z|z:=z
   ·exact .inl (hw b z)
   ·exact .inr (by rw[z];exact h1)⟩
  obtain⟨r1,r2⟩:=YG.push h2 nOw nB (λi t h=>by
    obtain⟨w,q1,q2⟩:=re.pure i t (hP i t h);exact⟨w,q1,q2.step kp2⟩) (λi k ys h=>by
    obtain⟨b,us,q1,q2,q3,_⟩:=YG.own i k ys h;refine⟨b,us,q1,q2,?_⟩;obtain⟨z,zz⟩|z:=hE i k ys h
    ·obtain⟨b',lh,p1,p2,p3,_⟩:=re.own i k ys z;rw[q1]at p1;cases p1;have e:=zz b q1;rw[q2,p2]at e;cases e;exact p3.step kp2
    ·exact(z b us q1 q2).step (Kp.less λc hc=>by
      obtain hc|hc:=hc
      ·exact YG.ow hc
      ·exact⟨ws,by rw[hc];exact h2⟩)) (h3.step (Kp.less λb z=>by
    obtain z|z:=z
    ·exact .inl (re.ow (hw b z))
    ·exact .inr z))
  refine lk _ _ _ _ _ q ⟨⟨hk,λb z=>?_⟩,[oZ (.ref a)],rfl⟩ r1 ?_
  ·obtain z|z:=r2 b z
   ·exact .inl (hw b z)
   ·exact .inr (by rw[z];exact h1)
  ·show(S++[oZ (V.ref a)])[E'.length]?=_;rw[<-YG.len];simp
theorem Ff{K:W.Frag}{Fr:FA}{n:Nat}{S:dG}{σ:St}{H:Hp}{Q:VK}(h:aI K (Ge S Fr) σ H Q):Im (aJ K S) [] E0 (dA K n Fr) σ H Q:=by
 refine args (Fr:=Fr) h λB S' E rs vs H2 Q' hS re rr hn q lk=>?_;obtain⟨ts,e1,q⟩:=q.ex;rw[PV];have rp:=Cm re rr e1 (λ_=>False) (λ_ z=>z.elim) (λ_ _ _ _ _ _ z=>z);have no:∀b,¬Ow (λa=>(none:Option VN)=oZ a) (vs.map oZ) (ts.map λt=>oZ (U.p t)) b:=λb z=>by
  obtain z|⟨i,k,xs,h1,_⟩:=z
  ·cases z
  rw[NY]at h1;cases q:ts[i]? with
  |none=>rw[q]at h1;cases h1
  |some t=>rw[q]at h1;cases h1
 refine⟨ts.map A.v,_,none,?_,λ_=>rfl,q,λr xs v H' q2 fr _ rv=>?_⟩
 ·rw[wU];refine⟨by simp[rp.length],λi t h=>?_,λi k xs h=>?_,λi j k l xs ys a h _ _ _=>?_,λa z=>by cases z⟩
  ·rw[NY]at h;cases q:ts[i]? with
   |none=>rw[q]at h;cases h
   |some u=>
    rw[q]at h;cases h;obtain⟨v,h1,h2⟩:=rp.get q;exact⟨v,by rw[NY,h1];rfl,h2.step (Kp.less λb z=>no b z)⟩
  ·rw[NY]at h;cases q:ts[i]? with
   |none=>rw[q]at h;cases h
   |some t=>rw[q]at h;cases h
  ·rw[NY]at h;cases q:ts[i]? with
   |none=>rw[q]at h;cases h
   |some t=>rw[q]at h;cases h
 ·have same:∀b o,H2 b=oZ o->H' b=oZ o:=λb o z=>fr b o z (by intro z;cases z);exact Eg re (re.kept same) (λb o z _=>same b o z) (λb z=>z) (λi k xs h=>.inl ⟨h,λa ha=>by
   obtain⟨a',ws,h1,h2,_⟩:=re.own i k xs h;rw[ha]at h1;cases h1;rw[h2];exact same _ _ h2⟩) (λi t h=>h) rv q2 lk
theorem vI{X:Cx}{K:W.Frag}{pos:Pos}{e:oC}{es:List oC}{Fr:FA}{n k j:Nat}{x:Str}{ps:List Str}{S:dG}{p:Pos}(F:Fn X.prog X.w X.K X.mg X.base k x ps (aJ K S))(hr:dD j X.A)(hk:k<=j)(hg:Gl X x)(ha:QA X (e::es) (dA K n Fr))(cg:(x==("__debug__":Str))=false:=by decide)(hs:bO (e::es)=true:=by rfl):QE X (.Call (.Name x p) (e::es) [] pos) (aI K (Ge S Fr)):=(xN F hr hk hg ha cg hs).le λ_ _ _ _ h=>Ff h
theorem d5{X:Cx}{K:W.Frag}{pos:Pos}{e:oC}{es:List oC}{Fr:FA}{n k j:Nat}{x:Str}{ps:List Str}{S:dG}{p:Pos}(F:Fn X.prog X.w X.K X.mg X.base k x ps (aJ K S))(hr:dD j X.A)(hk:k<=j)(hg:Gl X x)(ha:QA X (e::es) (dA K n Fr))(cg:(x==("__debug__":Str))=false:=by decide)(hs:bO (e::es)=true:=by rfl):QE X (.Call (.Name x p) (e::es) [] pos) (aI K (Ug S Fr)):=by
 refine(xN F hr hk hg ha cg hs).le λσ H Q hl h=>args (Fr:=Fr) h λB S' E rs vs H2 Q' hS re rr hn q lk=>?_;rw[PV];split at q
 ·rename_i jb wm;split at q
  ·rename_i kb xs hE;cases qc:(wm.all λr=>!(pX E r).contains jb)with
   |false=>rw[qc]at q;exact q.elim
   |true=>
    rw[qc]at q;obtain⟨ts,e1,q⟩:=o1.ex q;obtain⟨v0,ws,e2,h0,h2⟩:=rr;subst e2;have qf:S'[jb]?=oZ (oZ v0):=h0;obtain⟨a0,us,k1,k2,k3,k4⟩:=re.own jb kb xs hE;rw[qf]at k1;cases k1;have ml:Ow B S' E a0:=.inr ⟨jb,kb,xs,hE,qf⟩;have rp:=Cm re h2 e1 (λb=>b=a0) (λb z=>by rw[z];exact ml) (λr hr m hm a hma z=>by
     subst z;have c:=SK.mp qc r hr;have:m=jb:=by
      cases r with
      |p _=>simp[pX]at hm
      |s l=>
       cases ql:E[l]? with
       |none=>simp[pX,ql]at hm
       |some u=>
        cases u with
        |none=>simp[pX,ql]at hm
        |some u=>
         cases u with
         |p _=>simp[pX,ql]at hm
         |o kk zs=>
          simp[pX,ql]at hm;subst hm;exact re.inj _ _ kk kb zs xs a ql hE hma qf
     subst this;have hc:(pX E r).contains m=true:=by simpa using hm
     rw[hc]at c;cases c)
    have get:∀{i:Nat}{u:U},(oZ (U.o true xs)::ts.map λt=>oZ (U.p t))[i]?=oZ (oZ u)->(i=0/\u = .o true xs)\/∃m t,i=m+1/\ts[m]?=oZ t/\u = .p t:=λ{i u}h=>by
     cases i with
     |zero=>simp at h;exact .inl ⟨rfl,h.symm⟩
     |succ m=>
      rw[RG,NY]at h;cases q:ts[m]? with
      |none=>rw[q]at h;cases h
      |some t=>rw[q]at h;cases h;exact .inr ⟨m,t,rfl,q,rfl⟩
    have ow:∀b,Ow (λa=>oZ a0=oZ a) ((V.ref a0::ws).map oZ) (oZ (U.o true xs)::ts.map λt=>oZ (U.p t)) b->b=a0:=λb z=>by
     obtain z|⟨i,k,ys,h1,h3⟩:=z
     ·cases z;rfl
     obtain⟨c,z⟩|⟨m,t,_,_,z⟩:=get h1
     ·subst c;simp at h3;exact h3.symm
     ·cases z
    have nb:jX (A.b xs::ts.map A.v)≠none:=by intro z;cases z
    refine⟨A.b xs::ts.map A.v,_,oZ a0,?_,λz=>absurd z nb,q,λr ys v H' q2 fr bxk rv=>?_⟩
    ·have ee:kF (A.b xs::ts.map A.v)=oZ (U.o true xs)::ts.map λt=>oZ (U.p t):=by simp[kF,wU]
     rw[ee];refine⟨by simp[rp.length],λi t h=>?_,λi k zs h=>?_,λi j k l zs ys a h1 h3 _ _=>?_,λa z=>by cases z;exact⟨us,k2⟩⟩
     ·obtain⟨_,z⟩|⟨m,t',e,q3,z⟩:=get h
      ·cases z
      ·cases z;subst e;obtain⟨v,h1,h2⟩:=rp.get q3;exact⟨v,by simp[h1],h2.step (Kp.less λb z=>ow b z)⟩
     ·obtain⟨c,z⟩|⟨m,t',e,q3,z⟩:=get h
      ·cases z;subst c;exact⟨a0,us,by simp,k2,k3.step (Kp.less λb z=>by rw[ow b z];exact ml),⟨λ_=>rfl,λ_=>rfl⟩⟩
      ·cases z
     ·obtain⟨c,z⟩|⟨m,t',e,q3,z⟩:=get h1
      ·obtain⟨c',z'⟩|⟨m,t',e,q3,z'⟩:=get h3
       ·rw[c,c']
       ·cases z'
      ·cases z
    ·obtain⟨mz,b1,b2⟩:=bxk a0 rfl;have hk:∀b o,H2 b=oZ o->¬Ow B S' E b->H' b=oZ o:=λb o z n=>fr b o z (by intro c;cases c;exact n ml);have zq:∀b,Ow B S' E b->jH H' b:=λb z=>by
      by_cases c:b=a0
      ·subst c;exact⟨mz,b1⟩
      ·obtain⟨lh,e⟩:=re.ow z;exact⟨lh,fr b _ e (by intro z;cases z;exact c rfl)⟩
     have ji:∀{i:Nat}{u:U},(E.set jb (oZ (.o kb ys)))[i]?=oZ (oZ u)->(i=jb/\u = .o kb ys)\/(i≠jb/\E[i]?=oZ (oZ u)):=λ{i u}h=>by
      by_cases c:i=jb
      ·subst c;rw[OV (NV.mp hE).1]at h;cases h;exact .inl ⟨rfl,rfl⟩
      ·rw[OP (λz=>c z.symm)]at h;exact .inr ⟨c,h⟩
     have kp:Kp (Ow B S' E) (Ow B S' E) H2 H':=⟨hk,λb z=>.inl z⟩;have yd:∀b,Ow B S' (E.set jb (oZ (.o kb ys))) b->Ow B S' E b:=λb z=>by
      obtain z|⟨i,k,zs,z1,z2⟩:=z
      ·exact .inl z
      obtain⟨c,z⟩|⟨c,z⟩:=ji z1
      ·subst c;exact .inr ⟨_,kb,xs,hE,z2⟩
      ·exact .inr ⟨i,k,zs,z,z2⟩
     have YG:RE K B H' S' (E.set jb (oZ (.o kb ys))):=by
      refine re.step hk (by simp) (λi t h=>?_) (λi k zs h=>?_) (λa z=>?_)
      ·obtain⟨_,z⟩|⟨_,z⟩:=ji h
       ·cases z
       ·exact z
      ·obtain⟨c,z⟩|⟨c,z⟩:=ji h
       ·cases z;subst c;refine⟨xs,hE,λa ha=>?_⟩;rw[qf]at ha;cases ha;exact⟨mz,b1,b2.step (Kp.less zq)⟩
       ·refine⟨zs,z,λa ha=>?_⟩;obtain⟨a',lh,p1,p2,p3,_⟩:=re.own i k zs z;rw[ha]at p1;cases p1;have na:a≠a0:=λw=>c (re.inj i jb k kb zs xs a0 z hE (by rw[<-w];exact ha) qf);exact⟨lh,fr a _ p2 (by intro w;cases w;exact na rfl),p3.step kp⟩
      ·exact zq a (.inl z)
     refine Eg re YG hk yd (λi k zs h=>?_) (λi t h=>?_) rv q2 lk
     ·obtain⟨c,z⟩|⟨c,z⟩:=ji h
      ·cases z
       right
       intro a us2 ha hu;subst c;rw[qf]at ha;cases ha;rw[b1]at hu;cases hu;exact b2
      ·left
       refine⟨z,λa ha=>?_⟩;obtain⟨a',lh,p1,p2,p3,_⟩:=re.own i k zs z;rw[ha]at p1;cases p1;have na:a≠a0:=λw=>c (re.inj i jb k kb zs xs a0 z hE (by rw[<-w];exact ha) qf);rw[p2];exact fr a _ p2 (by intro w;cases w;exact na rfl)
     ·obtain⟨_,z⟩|⟨_,z⟩:=ji h
      ·cases z
      ·exact z
  ·exact q.elim
 ·exact q.elim
def Qo(bk:Bool):Option (Option U)->Option U
 |some (oZ (.p t))=>oZ (.p t)
 |some (oZ (.o _ xs))=>if bk=true then oZ (.o true xs)else oZ (.p (.lst xs))
 |_=>none
def pU(t:Nat)(cap:List (Nat×Bool))(E:En):En:=OE t none++cap.map λk=>Qo k.2 E[k.1]?
def rY:List (Nat×Bool)->Option (Nat×Nat)
 |[]=>none
 |(k,true)::_=>oZ (0,k)
 |(_,false)::r=>(rY r).map λx=>(x.1+1,x.2)
def kT(cap:List (Nat×Bool)):Bool:=Nat.ble (cap.filter (·.2)).length 1
def Iz(t:Nat)(cap:List (Nat×Bool))(cm E:En):Option En:=match rY cap with
 |none=>oZ E
 |some (j,k)=>match E[k]?,cm[t+j]? with
  |some (oZ (.o b _)),oZ (oZ (.o true ys))=>if bL ys=true then oZ (E.set k (oZ (.o b ys)))else none
  |some (oZ (.p _)),_=>oZ E
  |_,_=>none
def lD(g:FG)(Fe:FE):List T->En->(En->Prop)->Prop
 |[],E,Q=>Q E
 |x::xs,E,Q=>g x E λE2=>Fe E2 λr E3=>match r with
  |.p t=>(match E3[E.length-1]? with
   |some (oZ (.o false acc))=>acc.length<9000/\lD g Fe xs ((E3.set (E.length-1) (oZ (.o false (acc++[t])))).take E.length) Q
   |_=>False)
  |.s _=>False
def Gf(t:Nat)(cap:List (Nat×Bool))(I:FI)(g:FG)(Fe:FE):FE:=λE Q=>I E λitems us E1=>cap.all (λk=>!(k.2&&us.contains k.1))=true/\
 lD g Fe items (pU t cap E1++[oZ (.o false [])]) λcm=>match cm[t+cap.length]? with
  |some (oZ (.o false zs))=>bL zs=true/\o1 (Iz t cap cm E1) λE2=>Q (.s E2.length) (E2++[oZ (.o false zs)])
  |_=>False
theorem Fg(h:(pU t cap E)[i]?=oZ (oZ u)):∃j k b,i=t+j/\cap[j]?=oZ (k,b)/\Qo b E[k]?=oZ u:=by
 unfold pU at h;obtain c|c:=OY i t
 ·rw[OO (by simpa using c)]at h;have:=NX h;rw[List.mem_replicate]at this;cases this.2
 ·rw[OX (by simpa using c),RQ,NY]at h;cases q:cap[i-t]? with
  |none=>rw[q]at h;cases h
  |some x=>
   rw[q]at h;exact⟨i-t,x.1,x.2,⋯,q,by simpa using h⟩
theorem Fh{σ:St}{cap:List (Nat×Bool)}(h:cap[j]?=oZ (k,b)):(g8 t (cap.map (·.1)) σ)[t+j]?=oZ ((σ[k]?).join):=by
 unfold g8;rw[OX (by simp)];simp[h]
theorem wL:∀{cap:List (Nat×Bool)}{j k:Nat},rY cap=oZ (j,k)->cap[j]?=oZ (k,true)
 |(k,true)::r,_,_,h=>by cases h;rfl
 |(m,false)::r,j,k,h=>by
  cases q:rY r with
  |none=>rw[rY,q]at h;cases h
  |some x=>
   rw[rY,q]at h;cases h
   simpa using wL (j:=x.1) (k:=x.2) q
theorem jY:∀{cap:List (Nat×Bool)}{j k:Nat},kT cap=true->cap[j]?=oZ (k,true)->rY cap=oZ (j,k)
 |[],j,k,_,h=>by simp at h
 |(m,true)::r,0,k,_,h=>by simp at h;subst h;rfl
 |(m,true)::r,j+1,k,ho,h=>by
  have h':r[j]?=oZ (k,true):=by simpa using h
  have:(k,true)∈r.filter (·.2):=UX.mpr ⟨NX h',rfl⟩;have hl:0<(r.filter (·.2)).length:=List.length_pos_of_mem this;unfold kT at ho;rw[List.filter_cons_of_pos (by rfl)]at ho;have:=Nat.le_of_ble_eq_true ho;simp only[OT]at this
  lia
 |(m,false)::r,0,k,_,h=>by simp at h
 |(m,false)::r,j+1,k,ho,h=>by
  have h':r[j]?=oZ (k,true):=by simpa using h
  have qg:kT r=true:=by
   unfold kT at ho⊢;rw[List.filter_cons_of_neg (by simp)]at ho;exact ho
  rw[rY,jY qg h'];rfl
def Er(i:Nat)(XZ:List (Key×V))(σ:St)(H:Hp):Prop:=∃p,σ[i]?=oZ (oZ (.ref p))/\H p=oZ (.dK XZ)
abbrev DD:=Option (Nat×List (Key×V))
def lQ(d:DD)(σ:St)(H:Hp):Prop:=∀x,d=oZ x->Er x.1 x.2 σ H
theorem lQ.same(h:lQ d σ H)(k:∀b o,H b=oZ o->H' b=oZ o):lQ d σ H':=λx e=>let⟨p,h1,h2⟩:=h x e;⟨p,h1,k _ _ h2⟩
theorem lQ.kp{d:DD}{K:W.Frag}{B O:VN->Prop}{S σ:St}{E:En}{H H':Hp}(h:lQ d σ H)(re:RE K B H S E)(k:Kp (Ow B S E) O H H'):lQ d σ H':=λx e=>
 let⟨p,h1,h2⟩:=h x e;⟨p,h1,k.keep _ _ h2 λz=>by obtain⟨vs,e⟩:=re.ow z;rw[h2]at e;cases e⟩
def kO(d:DD)(K:W.Frag)(F:FE):TE:=λσ H Q=>lQ d σ H/\aI K F σ H Q
def Ig(m:Bool)(t:Nat)(d:DD)(K:W.Frag)(g:FG):TG:=λv σ H Q=>lQ d σ H/\u9 K g v σ H λσ' H'=>lQ d σ' H'->(m=true->∀i,t<=i->σ'[i]?= σ[i]?)->Q σ' H'
abbrev Yg(d:DD)(K:W.Frag)(g:FG):TG:=Ig false 0 d K g
theorem QG.gd{X:Cx}{K:W.Frag}{g:FG}{e:oC}(h:QG X e (u9 K g)):QG X e (Yg none K g):=h.le λv σ H Q _ zZ=>by obtain⟨_,B,τ,E,t,Q',re,rp,hF,l⟩:=zZ;exact⟨B,τ,E,t,Q',re,rp,hF,λσ' H' E' a b c d=>l σ' H' E' a b c d (λ_ z=>by cases z) λz=>by cases z⟩
theorem QE.ed{X:Cx}{K:W.Frag}{Fe:FE}{e:oC}(h:QE X e (aI K Fe)):QE X e (kO none K Fe):=h.le λ_ _ _ _ z=>z.2
def Ar(d:DD)(K:W.Frag)(F:FB):TT:=λσ H Q=>lQ d σ H/\i8 K F σ H Q
section
variable{X:Cx}{K:W.Frag}{pos:Pos}{Fb:FB}{Fe:FE}{g:FG}{I:FI}
def nK(g:FG)(Fb:FB)(Fe:FE):List T->En->(En->Prop)->Prop
 |[],E,Q=>Q E
 |x::xs,E,Q=>g x E λE2=>Fb E2 λb E2'=>if b=true then Fe E2' λr E3=>match r with
  |.p t=>(match E3[E.length-1]? with
   |some (oZ (.o false acc))=>acc.length<9000/\nK g Fb Fe xs ((E3.set (E.length-1) (oZ (.o false (acc++[t])))).take E.length) Q
   |_=>False)
  |.s _=>False
  else nK g Fb Fe xs (E2'.take E.length) Q
def Jp(t:Nat)(cap:List (Nat×Bool))(I:FI)(g:FG)(Fb:FB)(Fe:FE):FE:=λE Q=>I E λitems us E1=>cap.all (λk=>!(k.2&&us.contains k.1))=true/\
 nK g Fb Fe items (pU t cap E1++[oZ (.o false [])]) λcm=>match cm[t+cap.length]? with
  |some (oZ (.o false zs))=>bL zs=true/\o1 (Iz t cap cm E1) λE2=>Q (.s E2.length) (E2++[oZ (.o false zs)])
  |_=>False
def WB(t:Nat)(cap:List (Nat×Bool))(cm E E2:En):Prop:=E2.length=E.length/\∀(i:Nat)(u:U),E2[i]?=oZ (oZ u)->(∃(j:Nat)(b:Bool)(ys kq:List T),cap[j]?=oZ (i,true)/\E[i]?=oZ (oZ (.o b kq))/\cm[t+j]?=oZ (oZ (.o true ys))/\bL ys=true/\u = .o b ys)\/(E[i]?=oZ (oZ u)/\∀(j:Nat)(b:Bool)(xs:List T),cap[j]?=oZ (i,true)->E[i]?≠oZ (oZ (.o b xs)))
theorem Su(ho:kT cap=true)(h:Iz t cap cm E=oZ E2):WB t cap cm E E2:=by
 unfold Iz at h;cases qb:rY cap with
 |none=>
  rw[qb]at h;cases h;exact⟨rfl,λi u q=>.inr ⟨q,λj b xs z=>by rw[jY ho z]at qb;cases qb⟩⟩
 |some jk=>
  obtain⟨j,k⟩:=jk;rw[qb]at h;simp only at h;have only:∀{i j'},cap[j']?=oZ (i,true)->i=k:=λz=>by rw[jY ho z]at qb;cases qb;rfl
  split at h
  ·rename_i kb kq ys hE1 zr;split at h
   ·rename_i zu;cases h;refine⟨by simp,λi u q=>?_⟩
    by_cases c:i=k
    ·subst c;rw[OV (NV.mp hE1).1]at q;cases q;exact .inl ⟨j,kb,ys,kq,wL qb,hE1,zr,zu,rfl⟩
    ·rw[OP (λz=>c z.symm)]at q;exact .inr ⟨q,λj' b xs z=>absurd (only z) c⟩
   ·cases h
  ·rename_i tp hE1;cases h;exact⟨rfl,λi u q=>.inr ⟨q,λj' b xs z y=>by rw[only z,hE1]at y;cases y⟩⟩
  ·cases h
theorem zV {cap:List (Nat×Bool)} (S:bM X N' scope t (cap.map (·.1))) (hm:kT cap=true\/m=true/\tm=t) (nh:(cap.map (·.1)).Nodup) {W:En->En->Option En} (hW:∀cm E E2,W cm E=oZ E2->WB t cap cm E E2) {FC:List T->Prop->Prop} (hC:∀zs p,FC zs p->p) {rr:List T->RV} {σ:St} {Q Qv:VK} (hl:σ.length=X.N.length) (zw:∀H,lQ d σ H->lQ d' (g8 t (cap.map (·.1)) σ) H) (out:∀(zs:List T) (D:VN) (ws:List V) (H1 H2:Hp) (p:Prop),FC zs p->H1 D=none->H2 D=oZ (.lst ws)->ws.length=zs.length->(bL zs=true->cX K H2 (λa=>jH H1 a\/a=D) zs ws)->∃v,JH K H1 H2 (rr zs) v/\(Qv v H2->Q (.ref D) H2)) (h:kO d K (λE Q'=>I E λitems us E1=>cap.all (λk=>!(k.2&&us.contains k.1))=true/\nK g Fb Fe items (pU t cap E1++[oZ (.o false [])]) λcm=>match cm[t+cap.length]? with
   | some (oZ (.o false zs))=>FC zs (o1 (W cm E1) λE2=>told E2 Q' (rr zs))
   | _=>False) σ H Qv):rF t (cap.map (·.1)) (mR K I) (Ig m tm d' K g) (Ar d' K Fb) (kO d' K Fe) σ H Q:=by
 obtain ⟨dt,B,S0,E,Q',hS,re,hF,lk⟩:=h;refine ⟨B,S0,E,_,hS,re,hF,λJ items us E1 H1 S1 gd q g1 YI wo wq wj D hD=>?_⟩;obtain ⟨hus,q⟩:=q;obtain ⟨τ0,hS0⟩:=hS;obtain ⟨τ1,df⟩:=g1.pre;have zx:∃τ,S1=σ++τ:=⟨τ0++τ1,by rw [df,hS0,OM]⟩;have atσ:∀{j k:Nat} {b:Bool} {v:V},cap[j]? = oZ (k,b)->S1[k]? = oZ (oZ v)->σ[k]? = oZ (oZ v):=λ{j k b v} hj hv=>by
  obtain ⟨x,_,hx,_⟩:=S.caps j k (by rw [NY,hj];rfl);have hk:k<σ.length:=by rw [hl];exact (NV.mp hx).1
  obtain ⟨τ,rfl⟩:=zx;rw [OO hk] at hv;exact hv
 have atC:∀{j k:Nat} {b:Bool} {v:V},cap[j]? = oZ (k,b)->S1[k]? = oZ (oZ v)->(g8 t (cap.map (·.1)) σ)[t+j]? = oZ (oZ v):=λ{j k b v} hj hv=>by rw [Fh hj,atσ hj hv];rfl
 have pg:∀{j k:Nat} {b:Bool} {v:V},cap[j]? = oZ (k,b)->(g8 t (cap.map (·.1)) σ)[t+j]? = oZ (oZ v)->S1[k]? = oZ (oZ v):=λ{j k b v} hj hv=>by
  rw [Fh hj] at hv;have:σ[k]? = oZ (oZ v):=by
   cases z:σ[k]? with
   | none=>rw [z] at hv;cases hv
   | some y=>rw [z] at hv;simpa using hv
  exact gL zx this
 obtain ⟨Bp,wx⟩:∃Bp:VN->Prop,∀a,Bp a↔∃(j k:Nat) (kk:Bool) (xs:List T),cap[j]? = oZ (k,true)/\E1[k]? = oZ (oZ (.o kk xs))/\S1[k]? = oZ (oZ (.ref a)):=⟨_,λ_=>Iff.rfl⟩;have zy:∀{j j' m:Nat} {c c':Bool},cap[j]? = oZ (m,c)->cap[j']? = oZ (m,c')->j=j':=λ{j j' m c c'} e2 p1=>by
  have lt1:j<(cap.map (·.1)).length:=by rw [OD];exact (NV.mp e2).1
  exact (UG lt1 nh).mp (by rw [NY,NY,e2,p1];rfl)
 have tf:∀a,Bp a->Ow B S1 E1 a:=λa z=>by
  obtain ⟨j,k,kk,xs,_,h2,h3⟩:=(wx a).mp z;exact .inr ⟨k,kk,xs,h2,h3⟩
 -- an own list of the block is the box
 have tj:∀{i:Nat} {k:Bool} {xs:List T},(pU t cap E1)[i]? = oZ (oZ (.o k xs))->∃j m kk,i=t+j/\cap[j]? = oZ (m,true)/\E1[m]? = oZ (oZ (.o kk xs))/\k=true:=λ{i k xs} h=>by
  obtain ⟨j,m,c,e1,e2,e3⟩:=Fg h;refine ⟨j,m,?_⟩;cases qE:E1[m]? with
  | none=>rw [qE] at e3;cases e3
  | some u=>
   cases u with
   | none=>rw [qE] at e3;cases e3
   | some u=>
    cases u with
    | p _=>rw [qE] at e3;cases e3
    | o kk ys=>
     rw [qE] at e3;cases c
     ·simp [Qo] at e3
     ·simp [Qo] at e3;obtain ⟨e4,e5⟩:=e3;exact ⟨kk,e1,e2,by rw [e5],e4⟩
 have qo:∀b,Ow Bp (g8 t (cap.map (·.1)) σ) (pU t cap E1) b->Bp b:=λb z=>by
  obtain z | ⟨i,k,xs,h1,h2⟩:=z
  ·exact z
  obtain ⟨j,m,kk,e1,e2,e3,_⟩:=tj h1;subst e1;exact (wx b).mpr ⟨j,m,kk,xs,e2,e3,pg e2 h2⟩
 have kl:Kp (Ow B S1 E1) (Ow Bp (g8 t (cap.map (·.1)) σ) (pU t cap E1)) H1 H1:=Kp.less λb z=>tf b (qo b z);have aAA:RE K Bp H1 (g8 t (cap.map (·.1)) σ) (pU t cap E1):=by
  refine ⟨by simp [g8,pU],λi u h=>?_,λi k xs h=>?_,λi j k l xs ys a h1 h2 h3 h4=>?_,λa z=>YI.ow (tf a z)⟩
  ·obtain ⟨j,m,c,e1,e2,e3⟩:=Fg h;subst e1;cases qE:E1[m]? with
   | none=>rw [qE] at e3;cases e3
   | some w=>
    cases w with
    | none=>rw [qE] at e3;cases e3
    | some w=>
     cases w with
     | p w=>
      rw [qE] at e3;cases e3;obtain ⟨v,h1,h2⟩:=YI.pure m _ qE;exact ⟨v,atC e2 h1,h2.step kl⟩
     | o kk ys=>
      rw [qE] at e3;cases c
      ·simp [Qo] at e3;subst e3;obtain ⟨a,vs,h1,h2,h3,h4⟩:=YI.own m kk ys qE;refine ⟨_,atC e2 h1,a,vs,rfl,.inl ⟨λz=>?_,.inl h2⟩,h3.step kl⟩;obtain ⟨j',k',kk',qm,p1,p2,p3⟩:=(wx a).mp (qo a z);have e4:=YI.inj m k' kk kk' ys qm a qE p2 h1 p3;subst e4;have lt1:j<(cap.map (·.1)).length:=by rw [OD];exact (NV.mp e2).1
       have lt2:j'<(cap.map (·.1)).length:=by rw [OD];exact (NV.mp p1).1
       have:j=j':=(UG lt1 nh).mp (by rw [NY,NY,e2,p1];rfl);subst this;rw [e2] at p1;cases p1
      ·simp [Qo] at e3
  ·obtain ⟨j,m,kk,e1,e2,e3,e4⟩:=tj h;subst e1;subst e4;obtain ⟨a,vs,h1,h2,h3,h4⟩:=YI.own m kk _ e3;exact ⟨a,vs,atC e2 h1,h2,h3.step kl,⟨λ_=>(wx a).mpr ⟨j,m,kk,_,e2,e3,h1⟩,λ_=>rfl⟩⟩
  ·obtain ⟨j1,m1,k1,e1,e2,e5,_⟩:=tj h1;obtain ⟨j2,m2,k2,e3,e4,e6,_⟩:=tj h2;subst e1;subst e3;have em:=YI.inj m1 m2 k1 k2 _ _ a e5 e6 (pg e2 h3) (pg e4 h4);subst em;rw [zy e2 e4]
 -- the accumulator gets a place
 obtain ⟨gD,reD⟩:=aAA.lst (ts:=[]) (vs:=[]) hD rfl;have gd0:gd (upd H1 D (.lst [])) (Ow Bp (g8 t (cap.map (·.1)) σ++[oZ (.ref D)]) (pU t cap E1++[oZ (.o false [])])):=by
  refine wo.keep _ _ _ _ gD.kp (wj _ (λb z=>tf b (qo b z)) λj hj a ha z=>?_);obtain ⟨j',k',kk',qm,p1,p2,p3⟩:=(wx a).mp (qo a z);obtain ⟨kj,xj,qj⟩:=wq j hj;have ej:=YI.inj j k' kj kk' xj qm a qj p2 ha p3;subst ej;have:=SK.mp hus (j,true) (NX p1);simp [hj] at this
 have hn:(g8 t (cap.map (·.1)) σ).length=t+cap.length:=by simp [g8]
 have hnE:(pU t cap E1++[oZ (U.o false [])]).length=t+cap.length+1:=by simp [pU];lia
 -- the turns
 refine ⟨λi m' σ' H'=>m'=items.length-i/\i<=items.length/\∃E',nK g Fb Fe (items.drop i) E' (λcm=>match cm[t+cap.length]? with
   | some (oZ (.o false zs))=>FC zs (o1 (W cm E1) λE2=>told E2 Q' (rr zs))
   | _=>False)/\σ'.length=t+cap.length/\E'.length=t+cap.length+1/\RE K Bp H' (σ'++[oZ (.ref D)]) E'/\
   Gs Bp (upd H1 D (.lst [])) (g8 t (cap.map (·.1)) σ++[oZ (.ref D)]) (pU t cap E1++[oZ (.o false [])]) H' (σ'++[oZ (.ref D)]) E'/\gd H' (Ow Bp (σ'++[oZ (.ref D)]) E')/\lQ d' σ' H'/\(m=true->∀i,tm<=i->σ'[i]? = (g8 t (cap.map (·.1)) σ)[i]?),
  ⟨_,rfl,OG _,_,q,hn,hnE,reD,Kp.refl _ _,gd0,(zw _ (dt.kp re g1.kp)).kp aAA gD.kp,λ_ _ _=>rfl⟩,?_⟩
 rintro i m' σ2 H2 ⟨rfl,jh,E3,q3,hl3,hE3,cj,g3,pe,ye,yu⟩;obtain ag | hge:=OY i items.length
 ·have hd:items.drop i=items[i]::items.drop (i+1):=QM ag;rw [hd] at q3;refine .inr ⟨wo.go i H2 _ pe ag,λx H4 y=>?_⟩;obtain ⟨k4,s4,rp⟩:=wo.yld i H2 _ x H4 _ pe (NW ag) (λa z=>by obtain ⟨vs,e⟩:=cj.ow z;rw [e];intro z;cases z) y;have qe:=cj.kept s4;have yc:=wo.keep _ _ _ _ k4 pe;refine ⟨ye.same s4,_,[oZ (.ref D)],E3,_,_,qe,rp,q3,λσ5 H5 E5 q5 g5 pf hl5 yf s5=>?_⟩;have se:m=true->∀i,tm<=i->σ5[i]? = (g8 t (cap.map (·.1)) σ)[i]?:=λa i b=>(s5 a i b).trans (yu a i b);have hE5:E5.length=t+cap.length+1:=by rw [<-pf.len];simp [hl5,hl3]
  refine ⟨yf,_,σ5++[oZ (.ref D)],E5,_,⟨_,rfl⟩,pf,q5,λok E5' H5' S5' q5' wy wz=>?_⟩;have ll:E5.length<=E5'.length:=by
   obtain ⟨τ6,e6⟩:=wy.pre;rw [<-pf.len,<-wz.len,e6];simp
  cases ok with
  | false=>
   have q5':nK g Fb Fe (items.drop (i+1)) (E5'.take E3.length) _:=q5';obtain ⟨re8,ow8⟩:=wz.cut (E:=E5) (σ:=σ5++[oZ (.ref D)]) wy.pre pf.len;have eE:E5.length=E3.length:=⋯
   rw [eE] at re8 ow8;have gg:Gs Bp H4 (σ2++[oZ (.ref D)]) E3 H5' (σ5++[oZ (.ref D)]) (E5'.take E3.length):=(g5.trans wy.kp).trans (Kp.less ow8);refine ⟨items.length-(i+1),⋯,rfl,ag,_,q5',⋯,?_,re8,(g3.trans k4).trans gg,wo.keep _ _ _ _ gg yc,yf.kp pf wy.kp,se⟩;rw [PM]
   lia
  | true=>
   obtain ⟨τ5,hτ5⟩:=wy.pre;refine ⟨yf.kp pf wy.kp,_,S5',E5',_,⟨oZ (.ref D)::τ5,by rw [hτ5];simp⟩,wz,q5',λr E6 v H6 S6 q6 g6 re6 rr6=>?_⟩;have g6:=wy.trans g6;cases r with
   | s _=>exact q6.elim
   | p u=>
    simp only at q6;have aAE:E3.length-1=t+cap.length:=⋯
    rw [aAE] at q6;split at q6
    ·rename_i acc ni;obtain ⟨hlen,q6⟩:=q6;obtain ⟨a6,ws,p1,p2,p3,p4⟩:=re6.own _ _ _ ni;have hS6:S6[t+cap.length]? = oZ (oZ (.ref D)):=gL g6.pre (by rw [OX ⋯];simp [hl5,hl3]);rw [hS6] at p1;cases p1;obtain ⟨g7,re7⟩:=re6.put (ys:=acc++[u]) (ws:=ws++[v]) ni hS6 (p3.append ⟨v,[],rfl,rr6,rfl⟩);obtain ⟨re8,ow8⟩:=re7.cut (E:=E5) (σ:=σ5++[oZ (.ref D)]) (g6.trans g7).pre pf.len;have eE:E5.length=E3.length:=⋯
     rw [eE] at re8 ow8;have gg:Gs Bp H4 (σ2++[oZ (.ref D)]) E3 (upd H6 D (.lst (ws++[v]))) (σ5++[oZ (.ref D)]) ((E6.set (t+cap.length) (oZ (.o false (acc++[u])))).take E3.length):=(g5.trans (g6.trans g7).kp).trans (Kp.less ow8);refine ⟨ws,p2,by rw [p3.length];exact b9 (PK hlen),items.length-(i+1),⋯,rfl,ag,_,q6,⋯,?_,re8,(g3.trans k4).trans gg,wo.keep _ _ _ _ gg yc,(yf.kp pf g6.kp).kp re6 g7.kp,se⟩;rw [PM,TR];have:E5.length<=E6.length:=by
      obtain ⟨τ6,e6⟩:=g6.pre;rw [<-pf.len,<-re6.len,e6];simp
     lia
    ·exact q6.elim
 ·have ei:i=items.length:=⋯
  subst ei;rw [RY] at q3;refine .inl ⟨wo.stop H2 _ pe,?_⟩;have yg:(match E3[t+cap.length]? with
   | some (oZ (.o false zs))=>FC zs (o1 (W E3 E1) λE2=>told E2 Q' (rr zs))
   | _=>False):=q3
  split at yg
  ·rename_i zs hzs;have q4:=yg;obtain ⟨E2,e2,yg⟩:=(hC _ _ yg).ex;obtain ⟨aD,ws,p1,p2,p3,p4⟩:=cj.own _ _ _ hzs;have hSD:(σ2++[oZ (V.ref D)])[t+cap.length]? = oZ (oZ (.ref D)):=by rw [OX ⋯];simp [hl3]
   rw [hSD] at p1;cases p1
   -- what is kept of the heap around
   have ml:∀b,Ow Bp (g8 t (cap.map (·.1)) σ++[oZ (.ref D)]) (pU t cap E1++[oZ (.o false [])]) b->Bp b\/b=D:=λb z=>by
    obtain z | z:=gD.kp.new b z
    ·exact .inl (qo b z)
    ·obtain⟨lh,hu⟩:=reD.ow (by assumption)
     by_cases c:b=D
     ·exact .inr c
     ·rw [bE c,z] at hu;cases hu
   have kept:∀b o,H1 b=oZ o->¬Bp b->H2 b=oZ o:=λb o e n=>by
    refine g3.keep b o (by rw [bE (a8 e hD)];exact e) λz=>?_;obtain z | z:=ml b z
    ·exact n z
    ·exact a8 e hD z
   have hk:∀b o,H1 b=oZ o->¬Ow B S1 E1 b->H2 b=oZ o:=λb o e n=>kept b o e λz=>n (tf b z);obtain ⟨v0,rv0,aCP⟩:=out zs D ws H1 H2 _ q4 hD p2 p3.length λzp=>cX.noL (λa z=>by
    obtain⟨lh,z⟩ | z:=z
    ·by_cases c:Bp a
     ·exact cj.ow (.inl c)
     ·exact ⟨lh,kept a _ z c⟩
    ·exact ⟨ws,by rw [z];exact p2⟩) zp p3
   obtain ⟨eL,eG⟩:=hW _ _ _ e2;have zq:∀b,Ow B S1 E1 b->jH H2 b:=λb z=>by
    by_cases c:Bp b
    ·exact cj.ow (.inl c)
    ·obtain ⟨lh,e⟩:=YI.ow z;exact ⟨lh,kept b _ e c⟩
   -- a list that the block changed
   have bxI:∀{i j:Nat} {b:Bool} {kq ys:List T},cap[j]? = oZ (i,true)->E1[i]? = oZ (oZ (.o b kq))->E3[t+j]? = oZ (oZ (.o true ys))->bL ys=true->∃a xa,S1[i]? = oZ (oZ (.ref a))/\H2 a=oZ (.lst xa)/\cX K H2 (jH H2) ys xa:=λ{i j b kq ys} hj hE zr zu=>by
    obtain ⟨a',xa,r1,r2,r3,r4⟩:=cj.own _ true ys zr;refine ⟨a',xa,?_,r2,cX.noL (λ_ z=>z) zu r3⟩;obtain ho | ⟨hm,rfl⟩:=hm
    ·obtain ⟨j',k',kk,xs,h1,h2,h3⟩:=(wx a').mp (r4.mp rfl);have e:=jY ho hj;rw [jY ho h1] at e;cases e;exact h3
    ·have rm:j<cap.length:=(NV.mp hj).1;rw [OO ⋯,yu hm _ (Nat.le_add_right _ _)] at r1;exact pg hj r1
   have nk:∀{i:Nat} {l:Bool} {qp:List T} {a:VN},(∀j b xs,cap[j]? = oZ (i,true)->E1[i]?≠oZ (oZ (.o b xs)))->E1[i]? = oZ (oZ (.o l qp))->S1[i]? = oZ (oZ (.ref a))->¬Bp a:=λ{i l qp a} c z ha w=>by
    obtain ⟨j',k',kk',qm,xb,yh,p3'⟩:=(wx a).mp w;have:=YI.inj i k' l kk' qp qm a z yh ha p3';subst this;exact c j' l qp xb z
   have yd:∀b,Ow B S1 E2 b->Ow B S1 E1 b:=λb z=>by
    obtain z | ⟨i,l,qp,z1,z2⟩:=z
    ·exact .inl z
    obtain⟨j,b',ys,kq,_,h2,_,_,_⟩ | ⟨z,_⟩:=eG _ _ z1
    ·exact .inr ⟨_,_,_,h2,z2⟩
    ·exact .inr ⟨i,l,qp,z,z2⟩
   have kp:Kp (Ow B S1 E1) (Ow B S1 E1) H1 H2:=⟨hk,λb z=>.inl z⟩;refine aCP (Eg YI (YI.step hk eL (λi u h=>?_) (λi l qp h=>?_) (λa z=>zq a (.inl z))) hk yd (λi l qp h=>?_) (λi u h=>?_) rv0 yg (lk.step g1))
   ·obtain⟨_,_,_,_,_,_,_,_,z⟩ | ⟨z,_⟩:=eG _ _ h
    ·cases z
    ·exact z
   ·obtain⟨j,b',ys,kq,h1,h2,h3,h4,z⟩ | ⟨z,nb⟩:=eG _ _ h
    ·cases z;obtain ⟨a0,xa,r1,r2,r3⟩:=bxI h1 h2 h3 h4;refine ⟨kq,h2,λa ha=>?_⟩;rw [r1] at ha;cases ha;exact ⟨xa,r2,r3.step (Kp.less zq)⟩
    ·refine ⟨qp,z,λa ha=>?_⟩;obtain ⟨a',lh,xb,yh,p3',_⟩:=YI.own i l qp z;rw [ha] at xb;cases xb;exact ⟨lh,kept a _ yh (nk nb z ha),p3'.step kp⟩
   ·obtain⟨j,b',ys,kq,h1,h2,h3,h4,z⟩ | ⟨z,nb⟩:=eG _ _ h
    ·cases z
     right
     intro a us2 ha hu;obtain ⟨a0,xa,r1,r2,r3⟩:=bxI h1 h2 h3 h4;rw [r1] at ha;cases ha;rw [r2] at hu;cases hu;exact r3
    ·left
     refine ⟨z,λa ha=>?_⟩;obtain ⟨a',lh,xb,yh,p3',_⟩:=YI.own i l qp z;rw [ha] at xb;cases xb;rw [yh];exact kept a _ yh (nk nb z ha)
   ·obtain⟨_,_,_,_,_,_,_,_,z⟩ | ⟨z,_⟩:=eG _ _ h
    ·cases z
    ·exact z
  ·exact yg.elim
theorem Qp(S:bM X N' scope t (cap.map (·.1)))(ho:kT cap=true)(nh:(cap.map (·.1)).Nodup)(hl:σ.length=X.N.length)(zw:∀H,lQ d σ H->lQ d' (g8 t (cap.map (·.1)) σ) H)(h:kO d K (Jp t cap I g Fb Fe) σ H Q):rF t (cap.map (·.1)) (mR K I) (Yg d' K g) (Ar d' K Fb) (kO d' K Fe) σ H Q:=
 zV (W:=Iz t cap) (FC:=λzs p=>bL zs=true/\p) (rr:=.l) (Qv:=Q) S (.inl ho) nh (λ_ _ _=>Su ho) (λ_ _ z=>z.2) hl zw (λzs D ws H1 H2 p hc hD h2 _ hn=>⟨_,⟨D,ws,rfl,hD,h2,hn hc.1⟩,id⟩) h
def bT:FB:=λE Q=>Q true E
theorem Bs(g:FG)(Fe:FE):∀xs,nK g bT Fe xs=lD g Fe xs
 |[]=>rfl
 |x::xs=>by
  funext E Q
  simp only[nK,lD,bT,if_true,Bs g Fe xs]
theorem Io(h:rF t cap (mR K I) (Ig m tm d K g) (Ar d K bT) te σ H Q):Aw t cap (mR K I) (Ig m tm d K g) te σ H Q:=by
 obtain⟨B,S0,E,Q',hS,re,hF,lk⟩:=h;refine⟨B,S0,E,Q',hS,re,hF,λJ items us E1 H1 S1 gd q g1 YI ok wq wj D hD=>?_⟩;obtain⟨W,w0,tn⟩:=lk J items us E1 H1 S1 gd q g1 YI ok wq wj D hD;refine⟨W,w0,λi m σ' H' z=>(tn i m σ' H' z).imp id λ⟨go,st⟩=>⟨go,λx H2 y=>?_⟩⟩;obtain⟨dt,B',τ,E',u,Q2,YG,rp,yb,l⟩:=st x H2 y;refine⟨dt,B',τ,E',u,Q2,YG,rp,yb,λσ3 H3 E3 a b c e ye s3=>?_⟩;obtain⟨_,B3,S3,E4,Q4,_,qe,z,k⟩:=l σ3 H3 E3 a b c e ye s3;exact k true E4 H3 S3 z .refl qe
theorem Fv(S:bM X N' scope t (cap.map (·.1)))(ho:kT cap=true)(nh:(cap.map (·.1)).Nodup)(hl:σ.length=X.N.length)(zw:∀H,lQ d σ H->lQ d' (g8 t (cap.map (·.1)) σ) H)(h:kO d K (Gf t cap I g Fe) σ H Q):Aw t (cap.map (·.1)) (mR K I) (Yg d' K g) (kO d' K Fe) σ H Q:=by
 have e:Jp t cap I g bT Fe=Gf t cap I g Fe:=by unfold Jp Gf;simp only[Bs]
 rw[<-e]at h;exact Io (Qp S ho nh hl zw h)
theorem iP(hc:X.calm=true)(S:bM X N' scope t (cap.map (·.1)))(ho:kT cap=true)(nh:(cap.map (·.1)).Nodup)(hi:QI X target iter (mR K I))(hg:∀C s3 H3 fp,QG (aW X N' scope C s3 H3 fp) target (u9 K g))(he:∀C s3 H3 fp,QE (aW X N' scope C s3 H3 fp) elt (aI K Fe))(hs:∀x,VX iter X.env x=pure x:=by intro _;rfl):
  QE X (.ListComp elt [⟨target,iter,[],0⟩] scope pos) (aI K (Gf t cap I g Fe)):=
 (Oh hc S hi (λC s H f=>(hg C s H f).gd) (λC s H f=>(he C s H f).ed) hs).le λσ H Q hl h=>Fv (d:=none) (d':=none) S ho nh hl (λ_ _ _ z=>by cases z) ⟨(λ_ z=>by cases z),h⟩
end
theorem Wy(hNn:X.N.Nodup)(lq:X.N[ix]?=oZ xn)(hxn:yT X.env.scope xn)(rz:X.fn xn=true\/X.env.scope.names.lookup xn=oZ .local)(xc:WJ (.ListComp elt [⟨target,iter,ifs,0⟩] scope pos) (oZ (.Name xn pos')) lx.line X.env=pure true)(hc:X.calm=true)(S:bM X N' scope t cap)(hi:PI X target iter wi)(hg:∀C s3 H3 fp,PG (aW X N' scope C s3 H3 fp) target g)(hb:∀C s3 H3 fp,P2 (aW X N' scope C s3 H3 fp) ifs tb)(he:∀C s3 H3 fp,ME n0 (aW X N' scope C s3 H3 fp) elt te)(hs:∀x,VX iter X.env x=pure x)(pins:List (VN×Obj))(s:oB)(σ:St)(H:Hp)(DD:cU)(I:aU X pins σ H s)(ht0:n0<=s.toks)(h:Lz (rF t cap wi g tb te) (nT ix) DD σ H):
  VP (VR X.prog X.w) X.A (exec (.Assign [.Name xn pos'] (.ListComp elt [⟨target,iter,ifs,0⟩] scope pos) lx) X.env) (SP X pins DD) X.xe s:=by
 rw[exec_Assign_Name_used _ _ _ _ xc];refine VO (XI (VO ?_));unfold evalThenUse;refine VO ?_;obtain⟨QQ,hQQ⟩:∃QQ:oA->oB->Prop,QQ=λ_ s'=>∃σ' H',aU X pins σ' H' s'/\DD.nx σ' H':=⟨_,rfl⟩;refine dQ (Q:=QQ) ?_ (λ_ s' h'=>VV (VV (by rw[hQQ]at h';exact h')));refine wO (use:=oZ (WX (.Name xn pos') X.env)) hc S hi hg hb he hs I ht0 h λs3 s6 H3 H5 fp D m I3 f3 qh my je ck so ba qn=>?_;have I7:aU X pins σ H5 s6:=I3.call' (ch:=fp) so my je ba f3;have fC:rL X pins H5 s3.heap.objs.size:=I3.fpOk (OF _) ck;refine wpAny_assign_Name (As I7 hNn lq hxn (v:=.ref D) rfl (λs8 I8⟨a,sa,ha⟩=>?_) rz);have nC:s3.heap.objs.size≠a:=by
  obtain rfl|ha:=ha
  ·exact fC.2.1
  ·exactλz=>fC.2.2.2.2.1 _ _ ha z.symm
 obtain⟨mC,hnC⟩:∃m',s8.heap.Ns s3.heap.objs.size m':=⟨m,qh.at λo e=>sa.extBut _ _ nC e⟩;refine⟨mC,hnC,λh' xy=>?_⟩;rw[hQQ];refine⟨_,H5,I8.turnedL (t':=s8.toks) (ch:=[s3.heap.objs.size]) (λb u hb e=>xy.extBut _ _ (by simpa using hb) e) (λb hb=>by rw[PD.mp hb];exact fC),qn⟩
theorem Wx(hNn:X.N.Nodup)(lq:X.N[ix]?=oZ xn)(hxn:yT X.env.scope xn)(rz:X.fn xn=true\/X.env.scope.names.lookup xn=oZ .local)(xc:WJ (.ListComp elt [⟨target,iter,ifs,0⟩] scope pos) (oZ (.Name xn pos')) lx.line X.env=pure true)(hc:X.calm=true)(S:bM X N' scope t cap)(hi:PI X target iter wi)(hg:∀C s3 H3 fp,PG (aW X N' scope C s3 H3 fp) target g)(hb:∀C s3 H3 fp,P2 (aW X N' scope C s3 H3 fp) ifs tb)(he:∀C s3 H3 fp,PE (aW X N' scope C s3 H3 fp) elt te)(hs:∀x,VX iter X.env x=pure x:=by intro _;rfl):
  PS X (.Assign [.Name xn pos'] (.ListComp elt [⟨target,iter,ifs,0⟩] scope pos) lx) (Lz (rF t cap wi g tb te) (nT ix)):=
 λpins s σ H DD I h=>Wy (n0:=0) hNn lq hxn rz xc hc S hi hg hb (λC s3 H3 fp pins s σ H Q I _ z=>he C s3 H3 fp pins s σ H Q I z) hs pins s σ H DD I (OG _) h
theorem K9(hNn:X.N.Nodup)(lq:X.N[ix]?=oZ xn)(hxn:yT X.env.scope xn)(rz:X.fn xn=true\/X.env.scope.names.lookup xn=oZ .local)(xc:WJ (.ListComp elt [⟨target,iter,[],0⟩] scope pos) (oZ (.Name xn pos')) lx.line X.env=pure true)(hc:X.calm=true)(S:bM X N' scope t cap)(hi:PI X target iter wi)(hg:∀C s3 H3 fp,PG (aW X N' scope C s3 H3 fp) target g)(he:∀C s3 H3 fp,PE (aW X N' scope C s3 H3 fp) elt te)(hs:∀x,VX iter X.env x=pure x:=by intro _;rfl):
  PS X (.Assign [.Name xn pos'] (.ListComp elt [⟨target,iter,[],0⟩] scope pos) lx) (Lz (Aw t cap wi g te) (nT ix)):=
 λpins s σ H DD I h=>Wx (tb:=λ_ H Q=>Q true H) hNn lq hxn rz xc hc S hi hg (λ_ _ _ _ _ _ _ _ _ I z=>wpAny_tests_nil ⟨_,I,z⟩) he hs pins s σ H DD I h
theorem Cb{X:Cx}{K:W.Frag}{Fe:FE}{g:FG}{I:FI}{target elt iter:oC}{scope:XC}{pos pos' lx:Pos}{N':List Str}{cap:List (Nat×Bool)}{t i:Nat}{x:Str}(hN:X.N.Nodup)(hi:X.N[i]?=oZ x)(hx:yT X.env.scope x)(xc:WJ (.ListComp elt [⟨target,iter,[],0⟩] scope pos) (oZ (.Name x pos')) lx.line X.env=pure true)(hc:X.calm=true)(S:bM X N' scope t (cap.map (·.1)))(ho:kT cap=true)(nh:(cap.map (·.1)).Nodup)(hit:QI X target iter (mR K I))(hg:∀C s3 H3 fp,QG (aW X N' scope C s3 H3 fp) target (u9 K g))(he:∀C s3 H3 fp,QE (aW X N' scope C s3 H3 fp) elt (aI K Fe))(hs:∀x,VX iter X.env x=pure x:=by intro _;rfl)(hf:X.fn x=true\/X.env.scope.names.lookup x=oZ .local:=by first|exact .inl rfl|exact .inr rfl|assumption):
  QS X (.Assign [.Name x pos'] (.ListComp elt [⟨target,iter,[],0⟩] scope pos) lx) (i9 K (M8 i (Gf t cap I g Fe))):=
 QS.le ⟨K9 hN hi hx hf xc hc S hit.h (λC s3 H3 fp=>(hg C s3 H3 fp).gd.h) (λC s3 H3 fp=>(he C s3 H3 fp).ed.h) hs⟩ λD σ H hl⟨B,E,DT,re,hF,l⟩=>Fv (d:=none) (d':=none) S ho nh hl (λ_ _ _ z=>by cases z) ⟨(λ_ z=>by cases z),B,σ,E,_,⟨[],by simp⟩,re,hF,λr E' v H' S' q g YG rr=>by
  obtain⟨u,e1,q⟩:=q.ex;rw[<-re.len]at e1 q;obtain⟨r1,ow⟩:=sH (i:=i) YG g.pre rr e1;exact l.nx _ _ _ q (g.kp.trans (Kp.less ow)) r1⟩
mutual
def dX:T->T->Bool
 |.non,.non=>true
 |.bl a,.bl b=>a==b
 |.int a,.int b=>a==b
 |.bl a,.int b=>(if a then 1 else 0)==b
 |.int a,.bl b=>a==(if b then 1 else 0)
 |.str a,.str b=>a==b
 |.tup xs,.tup ys=>wV xs ys
 |.lst xs,.lst ys=>wV xs ys
 |_,_=>false
def wV:List T->List T->Bool
 |[],[]=>true
 |x::xs,y::ys=>dX x y&&wV xs ys
 |_,_=>false
end
mutual
def dT:T->Nat
 |.tup xs=>EF xs+1
 |.lst xs=>EF xs+1
 |_=>0
def EF:List T->Nat
 |[]=>0
 |x::xs=>Nat.max (dT x) (EF xs)
end
mutual
theorem nL:∀x:T,dX x x=true
 |.non=>rfl
 |.bl a=>by simp[dX]
 |.int a=>by simp[dX]
 |.str a=>by simp[dX]
 |.tup xs=>by rw[dX];exact sW xs
 |.lst xs=>by rw[dX];exact sW xs
theorem sW:∀xs:List T,wV xs xs=true
 |[]=>rfl
 |x::xs=>by rw[wV,nL x,sW xs];rfl
end
theorem j4:∀xs ys:List T,wV xs ys=((OQ (min xs.length ys.length)).all (λj=>dX (xs.getD j .non) (ys.getD j .non))&&xs.length==ys.length)
 |[],[]=>rfl
 |[],_::_=>by simp[wV]
 |_::_,[]=>by simp[wV]
 |x::xs,y::ys=>by
  rw[wV,j4 xs ys];simp only[OT,Nat.succ_min_succ,VE,List.all_cons,List.all_map];simp[Function.comp_def,Bool.and_assoc]
theorem wR:∀{xs:List T}{x:T},x∈xs->dT x<=EF xs
 |y::xs,x,h=>by
  rw[EF];obtain rfl|h:=NZ.mp h
  ·exact Nat.le_max_left _ _
  ·exact PQ (wR h) (Nat.le_max_right _ _)
mutual
def Rq(K:W.Frag)(H:Hp):T->V->Prop
 |.non,v=>v = .non
 |.bl b,v=>v = .bl b
 |.int i,v=>v = .int i
 |.str x,v=>v = .str x
 |.tup xs,v=>∃a vs,v = .ref a/\yS K H a vs/\Em K H xs vs
 |.lst xs,v=>∃a vs,v = .ref a/\lZ K H a vs/\Em K H xs vs
def Em(K:W.Frag)(H:Hp):List T->List V->Prop
 |[],vs=>vs=[]
 |x::xs,vs=>∃v r,vs=v::r/\Rq K H x v/\Em K H xs r
end
section
variable{K:W.Frag}{H:Hp}{O:VN->Prop}
mutual
theorem Rp.rq:∀{t:T}{v:V},Rp K H O t v->Rq K H t v
 |.non,_,h=>h
 |.bl _,_,h=>h
 |.int _,_,h=>h
 |.str _,_,h=>h
 |.tup xs,v,h=>by
  obtain⟨a,vs,e,h1,h2⟩:=h;exact⟨a,vs,e,h1.imp (λh=>.inl h.2) id,cX.rq h2⟩
 |.lst xs,v,h=>by
  obtain⟨a,vs,e,h1,h2⟩:=h;exact⟨a,vs,e,h1.imp And.right id,cX.rq h2⟩
theorem cX.rq:∀{xs:List T}{vs:List V},cX K H O xs vs->Em K H xs vs
 |[],_,h=>h
 |x::xs,vs,h=>by
  obtain⟨v,r,e,h1,h2⟩:=h;exact⟨v,r,e,Rp.rq h1,cX.rq h2⟩
end
theorem Rt.rq(h:Rt K H O t v):Rq K H t v:=by
 cases t with
 |tup xs=>obtain⟨a,vs,e,h1,h2⟩:=h;exact⟨a,vs,e,h1,h2.rq⟩
 |lst xs=>obtain⟨a,vs,e,h1,h2⟩:=h;exact⟨a,vs,e,h1,h2.rq⟩
 |non=>exact h
 |bl _=>exact h
 |int _=>exact h
 |str _=>exact h
theorem Em.length:∀{xs:List T}{vs:List V},Em K H xs vs->vs.length=xs.length
 |[],_,h=>by cases h;rfl
 |_::_,_,⟨v,r,e,_,h2⟩=>by rw[e,OT,OT,Em.length h2]
theorem Em.get:∀{xs:List T}{vs:List V}{i:Nat}{x:T},Em K H xs vs->xs[i]?=oZ x->∃v,vs[i]?=oZ v/\Rq K H x v
 |[],_,_,_,_,e=>by simp at e
 |_::_,_,0,_,⟨v,r,e,h1,_⟩,q=>by simp at q;subst q;subst e;exact⟨v,rfl,h1⟩
 |_::_,_,i+1,x,⟨v,r,e,_,h2⟩,q=>by
  obtain⟨w,q1,q2⟩:=Em.get (i:=i) (x:=x) h2 (by simpa using q);subst e;exact⟨w,by simpa using q1,q2⟩
end
section
variable{X:Cx}{pins:List (VN×Obj)}{σ:St}{H:Hp}{s:oB}
theorem aU.nolt(I:aU X pins σ H s)(h1:lZ X.K H a vs)(h2:yS X.K H a ws):False:=by
 obtain⟨_,_,p1,_⟩:=I.list h1;obtain⟨_,_,p2,_⟩:=I.tuple h2;exact SeqAt.ne_of_list_tuple p1.isList p2 rfl
mutual
theorem Rq.inj(I:aU X pins σ H s):∀{x y:T}{v:V},Rq X.K H x v->Rq X.K H y v->x=y
 |.tup xs,y,v,h,k=>by
  obtain⟨a,vs,e,h1,h2⟩:=h;subst e;cases y with
  |tup ys=>
   obtain⟨b,ws,f,k1,k2⟩:=k;cases f;rw[I.tuple_inj h1 k1]at h2;rw[Em.inj I h2 k2]
  |lst ys=>
   obtain⟨b,ws,f,k1,k2⟩:=k;cases f;exact(I.nolt k1 h1).elim
  |_=>cases k
 |.lst xs,y,v,h,k=>by
  obtain⟨a,vs,e,h1,h2⟩:=h;subst e;cases y with
  |lst ys=>
   obtain⟨b,ws,f,k1,k2⟩:=k;cases f;rw[I.list_inj h1 k1]at h2;rw[Em.inj I h2 k2]
  |tup ys=>
   obtain⟨b,ws,f,k1,k2⟩:=k;cases f;exact(I.nolt h1 k1).elim
  |_=>cases k
 |.non,y,v,h,k=>by
  cases h;cases y with
  |tup ys=>obtain⟨_,_,k,_⟩:=k;cases k
  |lst ys=>obtain⟨_,_,k,_⟩:=k;cases k
  |_=>cases k<;>rfl
 |.bl a,y,v,h,k=>by
  cases h;cases y with
  |tup ys=>obtain⟨_,_,k,_⟩:=k;cases k
  |lst ys=>obtain⟨_,_,k,_⟩:=k;cases k
  |_=>cases k<;>rfl
 |.int a,y,v,h,k=>by
  cases h;cases y with
  |tup ys=>obtain⟨_,_,k,_⟩:=k;cases k
  |lst ys=>obtain⟨_,_,k,_⟩:=k;cases k
  |_=>cases k<;>rfl
 |.str a,y,v,h,k=>by
  cases h;cases y with
  |tup ys=>obtain⟨_,_,k,_⟩:=k;cases k
  |lst ys=>obtain⟨_,_,k,_⟩:=k;cases k
  |_=>cases k<;>rfl
theorem Em.inj(I:aU X pins σ H s):∀{xs ys:List T}{vs:List V},Em X.K H xs vs->Em X.K H ys vs->xs=ys
 |[],ys,_,h,k=>by
  cases h;cases ys with
  |nil=>rfl
  |cons y ys=>obtain⟨_,_,k,_⟩:=k;cases k
 |x::xs,ys,_,h,k=>by
  obtain⟨v,r,e,h1,h2⟩:=h;subst e;cases ys with
  |nil=>cases k
  |cons y ys=>
   obtain⟨w,r',f,k1,k2⟩:=k;cases f;rw[Rq.inj I h1 k1,Em.inj I h2 k2]
end
theorem Je{A:oD}{u v:oA}{k:Bool}(h:SeqAt.RcAt A s u v k)(hk:u=v->k=true)(hf:∀b t,u≠.float b t):SeqAt.EqAt A s u v k:=λprog w E Q hq=>by
 unfold eqBool;refine WR ?_;refine wpAny_ite_split (λhab=>?_) (λ_=>?_)
 ·rw[hk (eq_of_beq hab)]at hq;exact VO (wpAny_rule (VV hq))
 ·cases u with
  |float b t=>exact absurd rfl (hf b t)
  |_=>exact VO (h prog w E _ (WO hq))
theorem M3(h:bN x u)(k:bN y u):x=y:=h.inj k
theorem sD(A:oD)(rx:bA vs XX)(ry:bA ws js)(hx:Em X.K H xs vs)(hy:Em X.K H ys ws)(ih:∀(j:Nat)(x y:T)(v w:V)(u u':oA),xs[j]?=oZ x->ys[j]?=oZ y->Rq X.K H x v->Rq X.K H y w->bN v u->bN w u'->SeqAt.EqAt A s u u' (dX x y)):
  ∀j(h1:j<XX.toArray.size)(h2:j<js.toArray.size),SeqAt.EqAt A s XX.toArray[j] js.toArray[j] (dX (xs.getD j .non) (ys.getD j .non)):=λj h1 h2=>by
 have l1:=rx.length;have l2:=ry.length;have l3:=hx.length;have l4:=hy.length;have h1':j<XX.length:=by simpa using h1
 have we:j<js.length:=by simpa using h2
 have e1:xs[j]?=oZ xs[j]:=NW (by omega);have e2:ys[j]?=oZ ys[j]:=NW (by omega);obtain⟨v,q1,q2⟩:=hx.get e1;obtain⟨w,q3,q4⟩:=hy.get e2;obtain⟨u1,z1,r1⟩:=rx.get q1;obtain⟨v1,z2,r2⟩:=ry.get q3;have y1:XX.toArray[j]=u1:=by
  rw[NW h1']at z1
  simpa using Option.some.inj z1
 have y2:js.toArray[j]=v1:=by
  rw[NW we]at z2
  simpa using Option.some.inj z2
 rw[y1,y2];have g1:xs.getD j .non=xs[j]:=by simp[List.getD,e1]
 have g2:ys.getD j .non=ys[j]:=by simp[List.getD,e2]
 rw[g1,g2];exact ih j _ _ v w u1 v1 e1 e2 q2 q4 r1 r2
theorem mF(I:aU X pins σ H s)(hx:Rq X.K H x v)(rx:bN v u):(x = .non/\u = .none)\/(∃b,x = .bl b/\u = .bool b)\/(∃i t,x = .int i/\u = .int i t)\/(∃c t,x = .str c/\u = .str c t)\/(∃xs a XX,x = .tup xs/\u = .ref a/\s.heap.IsTuple a XX)\/∃xs a XX,x = .lst xs/\u = .ref a/\s.heap.IsList a XX:=by
 cases x with
 |non=>cases hx;cases rx;exact .inl ⟨rfl,rfl⟩
 |bl b=>cases hx;cases rx;exact .inr (.inl ⟨_,rfl,rfl⟩)
 |int i=>cases hx;obtain⟨t,rfl⟩:=rx;exact .inr (.inr (.inl ⟨_,t,rfl,rfl⟩))
 |str c=>cases hx;obtain⟨t,rfl⟩:=rx;exact .inr (.inr (.inr (.inl ⟨_,t,rfl,rfl⟩)))
 |tup xs=>
  obtain⟨a,vs,e,q,_⟩:=hx;subst e;cases rx;obtain⟨XX,_,p,_⟩:=I.tuple q;exact .inr (.inr (.inr (.inr (.inl ⟨xs,a,_,rfl,rfl,p⟩))))
 |lst xs=>
  obtain⟨a,vs,e,q,_⟩:=hx;subst e;cases rx;obtain⟨XX,_,p,_⟩:=I.list q;exact .inr (.inr (.inr (.inr (.inr ⟨xs,a,_,rfl,rfl,p.isList⟩))))
theorem xR(I:aU X pins σ H s){A:oD}(hu:A.units<XE)(nt:∀xs ys,¬(x = .tup xs/\y = .tup ys))(nl:∀xs ys,¬(x = .lst xs/\y = .lst ys))(hx:Rq X.K H x v)(hy:Rq X.K H y w)(rx:bN v u)(ry:bN w u'):SeqAt.RcAt A s u u' (dX x y)/\SeqAt.RcNeAt A s u u' (!(dX x y)):=by
 obtain⟨rfl,rfl⟩|⟨_,rfl,rfl⟩|⟨_,_,rfl,rfl⟩|⟨_,_,rfl,rfl⟩|⟨xs,_,_,rfl,rfl,p⟩|⟨xs,_,_,rfl,rfl,p⟩:=mF I hx rx
 ·obtain⟨rfl,rfl⟩|⟨_,rfl,rfl⟩|⟨_,_,rfl,rfl⟩|⟨_,_,rfl,rfl⟩|⟨ys,_,_,rfl,rfl,q⟩|⟨ys,_,_,rfl,rfl,q⟩:=mF I hy ry
  ·exact⟨SeqAt.RcAt.none_none,SeqAt.RcNeAt.none_none⟩
  ·exact⟨SeqAt.RcAt.none_bool _,SeqAt.RcNeAt.none_bool _⟩
  ·exact⟨SeqAt.RcAt.none_int _ _,SeqAt.RcNeAt.none_int _ _⟩
  ·exact⟨SeqAt.RcAt.none_str _ _,SeqAt.RcNeAt.none_str _ _⟩
  ·exact⟨SeqAt.RcAt.none_tuple q hu,SeqAt.RcNeAt.none_tuple q hu⟩
  ·exact⟨SeqAt.RcAt.none_list q hu,SeqAt.RcNeAt.none_list q hu⟩
 ·obtain⟨rfl,rfl⟩|⟨_,rfl,rfl⟩|⟨_,_,rfl,rfl⟩|⟨_,_,rfl,rfl⟩|⟨ys,_,_,rfl,rfl,q⟩|⟨ys,_,_,rfl,rfl,q⟩:=mF I hy ry
  ·exact⟨SeqAt.RcAt.bool_none _,SeqAt.RcNeAt.bool_none _⟩
  ·exact⟨SeqAt.RcAt.bool_bool _ _,SeqAt.RcNeAt.bool_bool _ _⟩
  ·exact⟨SeqAt.RcAt.bool_int _ _ _,SeqAt.RcNeAt.bool_int _ _ _⟩
  ·exact⟨SeqAt.RcAt.bool_str _ _ _,SeqAt.RcNeAt.bool_str _ _ _⟩
  ·exact⟨SeqAt.RcAt.bool_tuple _ q hu,SeqAt.RcNeAt.bool_tuple _ q hu⟩
  ·exact⟨SeqAt.RcAt.bool_list _ q hu,SeqAt.RcNeAt.bool_list _ q hu⟩
 ·obtain⟨rfl,rfl⟩|⟨_,rfl,rfl⟩|⟨_,_,rfl,rfl⟩|⟨_,_,rfl,rfl⟩|⟨ys,_,_,rfl,rfl,q⟩|⟨ys,_,_,rfl,rfl,q⟩:=mF I hy ry
  ·exact⟨SeqAt.RcAt.int_none _ _,SeqAt.RcNeAt.int_none _ _⟩
  ·exact⟨SeqAt.RcAt.int_bool _ _ _,SeqAt.RcNeAt.int_bool _ _ _⟩
  ·exact⟨SeqAt.RcAt.int_int _ _ _ _,SeqAt.RcNeAt.int_int _ _ _ _⟩
  ·exact⟨SeqAt.RcAt.int_str _ _ _ _,SeqAt.RcNeAt.int_str _ _ _ _⟩
  ·exact⟨SeqAt.RcAt.int_tuple _ _ q hu,SeqAt.RcNeAt.int_tuple _ _ q hu⟩
  ·exact⟨SeqAt.RcAt.int_list _ _ q hu,SeqAt.RcNeAt.int_list _ _ q hu⟩
 ·obtain⟨rfl,rfl⟩|⟨_,rfl,rfl⟩|⟨_,_,rfl,rfl⟩|⟨_,_,rfl,rfl⟩|⟨ys,_,_,rfl,rfl,q⟩|⟨ys,_,_,rfl,rfl,q⟩:=mF I hy ry
  ·exact⟨SeqAt.RcAt.str_none _ _,SeqAt.RcNeAt.str_none _ _⟩
  ·exact⟨SeqAt.RcAt.str_bool _ _ _,SeqAt.RcNeAt.str_bool _ _ _⟩
  ·exact⟨SeqAt.RcAt.str_int _ _ _ _,SeqAt.RcNeAt.str_int _ _ _ _⟩
  ·exact⟨SeqAt.RcAt.str_str _ _ _ _,SeqAt.RcNeAt.str_str _ _ _ _⟩
  ·exact⟨SeqAt.RcAt.str_tuple _ _ q hu,SeqAt.RcNeAt.str_tuple _ _ q hu⟩
  ·exact⟨SeqAt.RcAt.str_list _ _ q hu,SeqAt.RcNeAt.str_list _ _ q hu⟩
 ·obtain⟨rfl,rfl⟩|⟨_,rfl,rfl⟩|⟨_,_,rfl,rfl⟩|⟨_,_,rfl,rfl⟩|⟨ys,_,_,rfl,rfl,q⟩|⟨ys,_,_,rfl,rfl,q⟩:=mF I hy ry
  ·exact⟨SeqAt.RcAt.tuple_none p hu,SeqAt.RcNeAt.tuple_none p hu⟩
  ·exact⟨SeqAt.RcAt.tuple_bool _ p hu,SeqAt.RcNeAt.tuple_bool _ p hu⟩
  ·exact⟨SeqAt.RcAt.tuple_int _ _ p hu,SeqAt.RcNeAt.tuple_int _ _ p hu⟩
  ·exact⟨SeqAt.RcAt.tuple_str _ _ p hu,SeqAt.RcNeAt.tuple_str _ _ p hu⟩
  ·exact absurd ⟨rfl,rfl⟩ (nt xs ys)
  ·exact⟨SeqAt.RcAt.tuple_list p q hu,SeqAt.RcNeAt.tuple_list p q hu⟩
 ·obtain⟨rfl,rfl⟩|⟨_,rfl,rfl⟩|⟨_,_,rfl,rfl⟩|⟨_,_,rfl,rfl⟩|⟨ys,_,_,rfl,rfl,q⟩|⟨ys,_,_,rfl,rfl,q⟩:=mF I hy ry
  ·exact⟨SeqAt.RcAt.list_none p hu,SeqAt.RcNeAt.list_none p hu⟩
  ·exact⟨SeqAt.RcAt.list_bool _ p hu,SeqAt.RcNeAt.list_bool _ p hu⟩
  ·exact⟨SeqAt.RcAt.list_int _ _ p hu,SeqAt.RcNeAt.list_int _ _ p hu⟩
  ·exact⟨SeqAt.RcAt.list_str _ _ p hu,SeqAt.RcNeAt.list_str _ _ p hu⟩
  ·exact⟨SeqAt.RcAt.list_tuple p q hu,SeqAt.RcNeAt.list_tuple p q hu⟩
  ·exact absurd ⟨rfl,rfl⟩ (nl xs ys)
theorem Vx{K:W.Frag}{x:T}{v:V}{u:oA}(h:Rq K H x v)(r:bN v u):∀b t,u≠.float b t:=λb t e=>by
 subst e;cases x with
 |tup _=>obtain⟨_,_,e,_⟩:=h;subst e;cases r
 |lst _=>obtain⟨_,_,e,_⟩:=h;subst e;cases r
 |non=>cases h;cases r
 |bl _=>cases h;cases r
 |int _=>cases h;obtain⟨_,r⟩:=r;cases r
 |str _=>cases h;obtain⟨_,r⟩:=r;cases r
theorem Ld(I:aU X pins σ H s):∀(n:Nat)(A:oD)(x y:T)(v w:V)(u u':oA),dT x<=n->Rq X.K H x v->Rq X.K H y w->bN v u->bN w u'->A.units+n<XE->SeqAt.RcAt A s u u' (dX x y)/\SeqAt.EqAt A s u u' (dX x y):=by
 have fin:∀{A:oD}{x y:T}{v w:V}{u u':oA},Rq X.K H x v->Rq X.K H y w->bN v u->bN w u'->SeqAt.RcAt A s u u' (dX x y)->SeqAt.RcAt A s u u' (dX x y)/\SeqAt.EqAt A s u u' (dX x y):=λ{A x y v w u u'}hx hy rx ry h=>⟨h,Je h (λe=>by
   subst e;rw[Rq.inj I hx (by rw[M3 rx ry];exact hy)];exact nL y) (Vx hx rx)⟩
 intro n
 induction n with
 |zero=>
  intro A x y v w u u' hd hx hy rx ry hu;refine fin hx hy rx ry ((xR I ⋯ (λxs ys z=>?_) (λxs ys z=>?_) hx hy rx ry).1)
  ·rw[z.1]at hd;simp[dT]at hd
  ·rw[z.1]at hd;simp[dT]at hd
 |succ n ih=>
  intro A x y v w u u' hd hx hy rx ry hu;refine fin hx hy rx ry ?_
  by_cases c1:∃xs ys,x = .tup xs/\y = .tup ys
  ·obtain⟨xs,ys,rfl,rfl⟩:=c1;obtain⟨a,vs,rfl,q1,h1⟩:=hx;obtain⟨b,ws,rfl,q2,h2⟩:=hy;cases rx;cases ry;obtain⟨XX,r1,p1,_⟩:=I.tuple q1;obtain⟨js,r2,p2,_⟩:=I.tuple q2;have:=SeqAt.RcAt.tuples p1 p2 (A:=A) ⋯ (sD A.in1 r1 r2 h1 h2 λj x y v w u u' e1 e2 k1 k2 k3 k4=>(ih A.in1 x y v w u u' (by
    have:=wR (NX e1);simp only[dT]at hd;lia) k1 k2 k3 k4 (by show A.units+1+n<XE;lia)).2)
   rw[dX,j4];have l1:=r1.length;have l2:=r2.length;have l3:=h1.length;have l4:=h2.length;have s1:XX.toArray.size=xs.length:=by simp;lia
   have s2:js.toArray.size=ys.length:=by simp;lia
   rw[s1,s2]at this;exact this
  ·by_cases c2:∃xs ys,x = .lst xs/\y = .lst ys
   ·obtain⟨xs,ys,rfl,rfl⟩:=c2;obtain⟨a,vs,rfl,q1,h1⟩:=hx;obtain⟨b,ws,rfl,q2,h2⟩:=hy;cases rx;cases ry;obtain⟨XX,r1,p1,_⟩:=I.list q1;obtain⟨js,r2,p2,_⟩:=I.list q2;have l1:=r1.length;have l2:=r2.length;have l3:=h1.length;have l4:=h2.length;have s1:XX.toArray.size=xs.length:=by simp;lia
    have s2:js.toArray.size=ys.length:=by simp;lia
    rw[dX,j4]
    by_cases hl:xs.length=ys.length
    ·have:=SeqAt.RcAt.lists p1.isList p2.isList (A:=A) (by rw[s1,s2];exact hl) ⋯ (sD A.in1 r1 r2 h1 h2 λj x y v w u u' e1 e2 k1 k2 k3 k4=>(ih A.in1 x y v w u u' (by
      have:=wR (NX e1);simp only[dT]at hd;lia) k1 k2 k3 k4 (by show A.units+1+n<XE;lia)).2)
     rw[s1]at this;rw[<-hl,Nat.min_self,beq_self_eq_true,Bool.and_true];exact this
    ·have:=SeqAt.RcAt.lists_lengths p1.isList p2.isList (A:=A) (by rw[s1,s2];simpa using hl) ⋯;rw[show(xs.length==ys.length)=false by simpa using hl,VG];exact this
   ·exact(xR I ⋯ (λxs ys z=>c1 ⟨xs,ys,z⟩) (λxs ys z=>c2 ⟨xs,ys,z⟩) hx hy rx ry).1
theorem L9(I:aU X pins σ H s){A:oD}(n:Nat)(hd:dT x<=n)(hx:Rq X.K H x v)(hy:Rq X.K H y w)(rx:bN v u)(ry:bN w u')(hu:A.units+n<XE):SeqAt.RcNeAt A s u u' (!(dX x y)):=by
 by_cases c1:∃xs ys,x = .tup xs/\y = .tup ys
 ·obtain⟨xs,ys,rfl,rfl⟩:=c1;obtain⟨a,vs,rfl,q1,h1⟩:=hx;obtain⟨b,ws,rfl,q2,h2⟩:=hy;cases rx;cases ry;obtain⟨XX,r1,p1,_⟩:=I.tuple q1;obtain⟨js,r2,p2,_⟩:=I.tuple q2;have:=SeqAt.RcNeAt.tuples p1 p2 (A:=A) ⋯ (sD A.in1 r1 r2 h1 h2 λj x y v w u u' e1 e2 k1 k2 k3 k4=>(Ld I (n-1) A.in1 x y v w u u' (by
   have:=wR (NX e1);simp only[dT]at hd;lia) k1 k2 k3 k4 (by show A.units+1+(n-1)<XE;simp only[dT]at hd;lia)).2)
  rw[dX,j4];have l1:=r1.length;have l2:=r2.length;have l3:=h1.length;have l4:=h2.length;have s1:XX.toArray.size=xs.length:=by simp;lia
  have s2:js.toArray.size=ys.length:=by simp;lia
  rw[s1,s2]at this;exact this
 ·by_cases c2:∃xs ys,x = .lst xs/\y = .lst ys
  ·obtain⟨xs,ys,rfl,rfl⟩:=c2;obtain⟨a,vs,rfl,q1,h1⟩:=hx;obtain⟨b,ws,rfl,q2,h2⟩:=hy;cases rx;cases ry;obtain⟨XX,r1,p1,_⟩:=I.list q1;obtain⟨js,r2,p2,_⟩:=I.list q2;have l1:=r1.length;have l2:=r2.length;have l3:=h1.length;have l4:=h2.length;have s1:XX.toArray.size=xs.length:=by simp;lia
   have s2:js.toArray.size=ys.length:=by simp;lia
   rw[dX,j4]
   by_cases hl:xs.length=ys.length
   ·have:=SeqAt.RcNeAt.lists p1.isList p2.isList (A:=A) (by rw[s1,s2];exact hl) ⋯ (sD A.in1 r1 r2 h1 h2 λj x y v w u u' e1 e2 k1 k2 k3 k4=>(Ld I (n-1) A.in1 x y v w u u' (by
     have:=wR (NX e1);simp only[dT]at hd;lia) k1 k2 k3 k4 (by show A.units+1+(n-1)<XE;simp only[dT]at hd;lia)).2)
    rw[s1]at this;rw[<-hl,Nat.min_self,beq_self_eq_true,Bool.and_true];exact this
   ·have:=SeqAt.RcNeAt.lists_lengths p1.isList p2.isList (A:=A) (by rw[s1,s2];simpa using hl) ⋯;rw[show(xs.length==ys.length)=false by simpa using hl,VG];exact this
  ·exact(xR I ⋯ (λxs ys z=>c1 ⟨xs,ys,z⟩) (λxs ys z=>c2 ⟨xs,ys,z⟩) hx hy rx ry).2
end
section
variable{X:Cx}{K:W.Frag}{pos:Pos}{a b c e o:oC}{es:List oC}{Fa Fb Fo:FE}{Fr:FA}
def CM(K:W.Frag)(ng:Bool):R2:=λx y H Q=>∃t u,Rq K H t x/\Rq K H u y/\dT t<=60/\Q (.bl (if ng then !(dX t u)else dX t u)) H
theorem Wj(hr:dD k X.A):m4 X (WE .Eq) (CM X.K false):=by
 intro pins s σ H x y v u Q I rx ry h;obtain⟨t,w,h1,h2,hd,q⟩:=h;exact(Ld I 60 X.A t w x y v u hd h1 h2 rx ry (by have:=hr.units;lia)).1 X.prog X.w X.xe _ (Jv I q rfl)
theorem Wl(hr:dD k X.A):m4 X (WE .NotEq) (CM X.K true):=by
 intro pins s σ H x y v u Q I rx ry h;obtain⟨t,w,h1,h2,hd,q⟩:=h;exact L9 I 60 hd h1 h2 rx ry (by have:=hr.units;lia) X.prog X.w X.xe _ (Jv I q rfl)
def t2(x y:Option T)(k:T->T->Prop):Prop:=match x,y with
 |some t,oZ u=>k t u
 |_,_=>False
theorem t2.ex{k:T->T->Prop}(h:t2 x y k):∃t u,x=oZ t/\y=oZ u/\k t u:=by
 unfold t2 at h;split at h
 ·exact⟨_,_,rfl,rfl,h⟩
 ·exact h.elim
def MG(Fa Fb:FE):FE:=λE Q=>Fa E λx E1=>Fb E1 λy E2=>t2 (vl E2 x) (vl E2 y) λt u=>dT t<=60/\Q (.p (.bl (dX t u))) E2
def NG(Fa Fb:FE):FE:=λE Q=>Fa E λx E1=>Fb E1 λy E2=>t2 (vl E2 x) (vl E2 y) λt u=>dT t<=60/\Q (.p (.bl (!(dX t u)))) E2
theorem wY(eK:X.K=K)(hr:dD k X.A)(ha:QE X a (aI K Fa))(hb:QE X b (aI K Fb))(hm:WA .Eq b=false):QE X (.Compare a [.Eq] [b] pos) (aI K (MG Fa Fb)):=by
 subst eK;refine(Og (Wj hr) ha hb hm).le λσ H Q hl h=>two (Fa:=Fa) (Fb:=Fb) h λB S E x y v w H2 Q' hS re rx ry q lk=>?_;obtain⟨t,u,e1,e2,hd,q⟩:=q.ex;exact⟨t,u,(re.vl rx e1).rq,(re.vl ry e2).rq,hd,lk _ _ _ _ _ q .refl re rfl⟩
end
section
variable{X:Cx}{K:W.Frag}{pos:Pos}{a b c e o:oC}{es:List oC}{Fa Fb Fc Fo:FE}{Fr:FA}
theorem Jx(ho:m4 X (WE op) r)(ha:QE X a (aI K Fa))(hb:QE X b (aI K Fb))(hm:WA op b=false)(k:∀σ H Q,aI K F σ H Q->Yu r (aI K Fa) (aI K Fb) σ H Q):QT X (.Compare a [op] [b] pos) (i8 K (Ex F)):=
 (Oj ho ha hb hm).le λσ H Q z=>k _ _ _ (W3 z)
theorem Q0{g:Int->Int->Bool}(ho:m4 X (WE op) (Sx λi j=>.bl (g i j)))(ha:QE X a (aI K Fa))(hb:QE X b (aI K Fb))(hm:WA op b=false):QT X (.Compare a [op] [b] pos) (i8 K (Ex (KH g Fa Fb))):=
 Jx ho ha hb hm λσ H Q h=>two (Fa:=Fa) (Fb:=Fb) h λB S E x y v w H2 Q' hS re rx ry q lk=>by
  obtain⟨i,j,e1,e2,q⟩:=i2.ex q;exact⟨i,j,re.int rx e1,re.int ry e2,lk _ _ _ _ _ q .refl re rfl⟩
theorem gJ(eK:X.K=K)(hr:dD k X.A)(ha:QE X a (aI K Fa))(hb:QE X b (aI K Fb))(hm:WA .Eq b=false):QT X (.Compare a [.Eq] [b] pos) (i8 K (Ex (MG Fa Fb))):=by
 subst eK;refine Jx (Wj hr) ha hb hm λσ H Q h=>two (Fa:=Fa) (Fb:=Fb) h λB S E x y v w H2 Q' hS re rx ry q lk=>?_;obtain⟨t,u,e1,e2,hd,q⟩:=t2.ex q;exact⟨t,u,(re.vl rx e1).rq,(re.vl ry e2).rq,hd,lk _ _ _ _ _ q .refl re rfl⟩
theorem Gn(eK:X.K=K)(hr:dD k X.A)(ha:QE X a (aI K Fa))(hb:QE X b (aI K Fb))(hm:WA .NotEq b=false):QT X (.Compare a [.NotEq] [b] pos) (i8 K (Ex (NG Fa Fb))):=by
 subst eK;refine Jx (Wl hr) ha hb hm λσ H Q h=>two (Fa:=Fa) (Fb:=Fb) h λB S E x y v w H2 Q' hS re rx ry q lk=>?_;obtain⟨t,u,e1,e2,hd,q⟩:=t2.ex q;exact⟨t,u,(re.vl rx e1).rq,(re.vl ry e2).rq,hd,lk _ _ _ _ _ q .refl re rfl⟩
def Vg:T->Bool
 |.non=>true
 |_=>false
theorem FU(h:Rq K H t v):decide (v = .non)=Vg t:=by
 cases t with
 |non=>cases h;rfl
 |bl _=>cases h;rfl
 |int _=>cases h;rfl
 |str _=>cases h;rfl
 |tup _=>obtain⟨_,_,e,_⟩:=h;subst e;rfl
 |lst _=>obtain⟨_,_,e,_⟩:=h;subst e;rfl
def ES(ng:Bool)(Fa:FE):FE:=λE Q=>Fa E λx E1=>o1 (vl E1 x) λt=>Q (.p (.bl (if ng then !(Vg t)else Vg t))) E1
theorem F6(h:aI K (ES false Fa) σ H Q):Yu (λx y H Q=>y = .non/\Q (.bl (decide (x = .non))) H) (aI K Fa) (tC .non) σ H Q:=
 one (Fa:=Fa) h λB S E x v H2 Q' hS re rx q lk=>by
  obtain⟨t,e1,q⟩:=o1.ex q;exact⟨rfl,by rw[FU (re.vl rx e1).rq];exact lk _ _ _ _ _ q .refl re rfl⟩
theorem Z1{j p2}(ha:QE X a (aI K Fa))(hm:WA .Is (.Constant .none j p2)=false):QT X (.Compare a [.Is] [.Constant .none j p2] pos) (i8 K (Ex (ES false Fa))):=(Oj AW ha Xd hm).le λ_ _ _ h=>F6 (W3 h)
def NU:T->Bool
 |.lst _=>true
 |_=>false
def NT:T->Bool
 |.bl _=>true
 |_=>false
def fO(xs:List T)(lo hi:Option Int):List T:=(xs.drop (HT.sIx xs.length 0 lo)).take (HT.sIx xs.length xs.length hi-HT.sIx xs.length 0 lo)
theorem Ts{O:VN->Prop}{lo hi:Option Int}(h:cX K H O xs vs):cX K H O (fO xs lo hi) (Fz vs lo hi):=by
 unfold fO Fz;rw[h.length];exact(h.drop _).take _
abbrev FO:=En->(Option Int->En->Prop)->Prop
def Ih(K:W.Frag)(F:FO):TO:=λσ H Q=>∃B S E Q',(∃τ,S=σ++τ)/\RE K B H S E/\F E Q'/\∀b E' H' S',Q' b E'->Gr B H S E H' S' E'->RE K B H' S' E'->Q b H'
theorem QO.le{e:Option oC}{t t':TO}(h:QO X e t)(m:∀σ H Q,t' σ H Q->t σ H Q):QO X e t':=⟨λpins s σ H Q I z=>h.h pins s σ H Q I (m σ H Q z)⟩
def FX:FO:=λE Q=>Q none E
def FY(Fa:FE):FO:=λE Q=>Fa E λx E1=>i1 (vl E1 x) λi=>Q (oZ i) E1
theorem pN:QO X none (Ih K FX):=L6.le λσ H Q⟨B,S,E,Q',hS,re,hF,lk⟩=>lk _ _ _ _ hF .refl re
theorem gG(h:QE X e (aI K Fa)):QO X (oZ e) (Ih K (FY Fa)):=(L7 h).le λσ H Q⟨B,S,E,Q',hS,re,hF,lk⟩=>⟨B,S,E,_,hS,re,hF,λr E1 v H1 S1 q g YI rr=>by
 obtain⟨i,e1,q⟩:=i1.ex q;exact⟨i,YI.int rr e1,lk _ _ _ _ q g YI⟩⟩
variable{rn Gh:FO}
def KY(Fa:FE)(rn Gh:FO):FE:=λE Q=>Fa E λx E1=>rn E1 λlo E2=>Gh E2 λhi E3=>match vl E3 x with
 |some (.lst xs)=>Q (.s E3.length) (E3++[oZ (.o false (fO xs lo hi))])
 |_=>False
theorem iD{lo hi:Option oC}(eK:X.K=K)(he:QE X e (aI K Fa))(hl:QO X lo (Ih K rn))(hu:QO X hi (Ih K Gh)):QE X (.Subscript e (.Slice lo hi none p2) pos) (aI K (KY Fa rn Gh)):=by
 subst eK;refine(Hv N4 he hl hu).le λσ H Q _⟨B,S,E,Q',⟨τ,hS⟩,re,hF,lk⟩=>⟨B,S,E,_,⟨τ,hS⟩,re,hF,λx E1 v H1 S1 q g1 YI rx=>?_⟩;obtain⟨τ1,df⟩:=g1.pre;refine⟨B,S1,E1,_,⟨τ++τ1,by rw[df,hS,OM]⟩,YI,q,λl E2 H2 S2 q2 g2 ZX=>?_⟩;obtain⟨τ2,zj⟩:=g2.pre;refine⟨B,S2,E2,_,⟨τ++τ1++τ2,by rw[zj,df,hS,OM,OM,OM]⟩,ZX,q2,λh E3 H3 S3 q3 g3 cj=>?_⟩;have rx3:=(rx.step g2).step g3;split at q3
 ·rename_i xs e1;obtain⟨a,vs,e2,sq,rs⟩:=cj.vl rx3 e1;refine⟨a,vs,e2,sq,λp hp=>?_⟩;obtain⟨g,YG⟩:=cj.lst hp (Ts (lo:=l) (hi:=h) rs);exact lk _ _ _ _ _ q3 (((g1.trans g2).trans g3).trans g) YG (by rw[<-cj.len];exact lE)
 ·exact q3.elim
def ownOf(E:En):R->Option (List T)
 |.s j=>match E[j]? with
  |some (oZ (.o _ xs))=>oZ xs
  |_=>none
 |_=>none
theorem RE.ownOf{B:VN->Prop}(re:RE K B H S E)(h:RR K B H S E r v)(e:L2.ownOf E r=oZ xs):∃j k a vs,r = .s j/\E[j]?=oZ (oZ (.o k xs))/\S[j]?=oZ (oZ (.ref a))/\v = .ref a/\H a=oZ (.lst vs)/\cX K H (Ow B S E) xs vs:=by
 cases r with
 |p _=>cases e
 |s j=>
  cases q:E[j]? with
  |none=>simp only[L2.ownOf,q]at e;cases e
  |some u=>
   cases u with
   |none=>simp only[L2.ownOf,q]at e;cases e
   |some u=>
    cases u with
    |p _=>simp only[L2.ownOf,q]at e;cases e
    |o k ys=>
     simp only[L2.ownOf,q]at e;cases e;obtain⟨a,vs,h1,h2,h3,_⟩:=re.own j k xs q;have h':S[j]?=oZ (oZ v):=h;rw[h']at h1;cases h1;exact⟨j,k,a,vs,rfl,q,h',rfl,h2,h3⟩
def l2(x y:Option (List T))(k:List T->List T->Prop):Prop:=match x,y with
 |some t,oZ u=>k t u
 |_,_=>False
theorem l2.ex{k:List T->List T->Prop}(h:l2 x y k):∃t u,x=oZ t/\y=oZ u/\k t u:=by
 unfold l2 at h;split at h
 ·exact⟨_,_,rfl,rfl,h⟩
 ·exact h.elim
def KG(Fa Fb:FE):FE:=λE Q=>Fa E λx E1=>Fb E1 λy E2=>l2 (ownOf E2 x) (ownOf E2 y) λxs ys=>xs.length+ys.length<=9000/\Q (.s E2.length) (E2++[oZ (.o false (xs++ys))])
theorem l8(ha:QE X a (aI K Fa))(hb:QE X b (aI K Fb)):QE X (.BinOp a .Add b pos) (aI K (KG Fa Fb)):=by
 refine(xO AV ha hb).le λσ H Q hl h=>two (Fa:=Fa) (Fb:=Fb) h λB S E x y v w H2 Q' hS re rx ry q lk=>?_;obtain⟨xs,ys,e1,e2,hz,q⟩:=l2.ex q;obtain⟨j,k,p,vs,_,_,_,rfl,h2,h3⟩:=re.ownOf rx e1;obtain⟨j',k',p',xf,_,_,_,rfl,we,h3'⟩:=re.ownOf ry e2;refine⟨p,p',vs,xf,rfl,rfl,h2,we,by rw[h3.length,h3'.length];exact PK (b9 hz),λr hr=>?_⟩;obtain⟨g,YG⟩:=re.lst hr (h3.append h3');exact lk _ _ _ _ _ q g YG (by rw[<-re.len];exact lE)
def Xl(k:Int)(xs:List T):List T:=(OE k.toNat xs).flatten
theorem Xm{O:VN->Prop}(h:cX K H O xs vs):∀n:Nat,cX K H O (OE n xs).flatten (OE n vs).flatten
 |0=>by simp[cX]
 |n+1=>by rw[PY,PY,RB,RB];exact h.append (Xm h n)
def KU(Fa Fb:FE):FE:=λE Q=>Fa E λx E1=>Fb E1 λy E2=>o1 (ownOf E2 x) λxs=>i1 (vl E2 y) λk=>(-(2^63)<=k/\k<2^63/\xs.length*k.toNat<=9000)/\Q (.s E2.length) (E2++[oZ (.o false (Xl k xs))])
theorem Uo(ha:QE X a (aI K Fa))(hb:QE X b (aI K Fb)):QE X (.BinOp a .Mult b pos) (aI K (KU Fa Fb)):=by
 refine(xO AY ha hb).le λσ H Q hl h=>two (Fa:=Fa) (Fb:=Fb) h λB S E x y v w H2 Q' hS re rx ry q lk=>?_;obtain⟨xs,e1,q⟩:=o1.ex q;obtain⟨k,e2,⟨c1,c2,c3⟩,q⟩:=i1.ex q;obtain⟨j,kk,p,vs,_,_,_,rfl,h2,h3⟩:=re.ownOf rx e1;refine⟨p,k,vs,rfl,re.int ry e2,h2,c1,c2,by rw[h3.length];exact PK (b9 c3),λr hr=>?_⟩;obtain⟨g,YG⟩:=re.lst hr (Xm h3 k.toNat);exact lk _ _ _ _ _ q g YG (by rw[<-re.len];exact lE)
def D4(Fr:FA):FE:=λE Q=>Fr E λrs E1=>match rs with
 |[x]=>o1 ((vl E1 x).bind HF) λxs=>Q (.s E1.length) (E1++[oZ (.o false xs)])
 |_=>False
theorem Qy(eK:X.K=K)(hg:Gl X "list")(hm:X.mg "list" = none)(ha:QA X (e::es) (dA K n Fr))(hs:bO (e::es)=true:=by rfl):QE X (.Call (.Name "list" p) (e::es) [] pos) (aI K (D4 Fr)):=by
 subst eK;refine(qR Bn hg hm (by decide +kernel) ha ∅ ∅ hs).le λσ H Q hl h=>args (Fr:=Fr) h λB S E rs vs H2 Q' hS re rr hn q lk=>?_;obtain _|⟨x,_|⟨_,_⟩⟩:=rs
 ·exact False.elim q
 ·obtain⟨v,ws,e1,h1,h2⟩:=rr;cases h2;subst e1;obtain⟨xs,e2,q⟩:=o1.ex q;obtain⟨t,e3,e2⟩:=UU.mp e2;have rt:=re.vl h1 e3;have:∃p us,v = .ref p/\(lZ X.K H2 p us\/yS X.K H2 p us)/\cX X.K H2 (Ow B S E) xs us:=by
   cases t with
   |tup ys=>cases e2;obtain⟨p,us,e,sq,rs⟩:=rt;exact⟨p,us,e,.inr sq,rs⟩
   |lst ys=>cases e2;obtain⟨p,us,e,sq,rs⟩:=rt;exact⟨p,us,e,.inl sq,rs⟩
   |_=>cases e2
  obtain⟨p,us,rfl,sq,rs⟩:=this;refine⟨p,us,rfl,sq,λr hr=>?_⟩;obtain⟨g,YG⟩:=re.lst hr rs;exact lk _ _ _ _ _ q g YG (by rw[<-re.len];exact lE)
 ·exact False.elim q
def X7(Fr:FA):FE:=λE Q=>Fr E λrs E1=>match rs with
 |[x]=>(match vl E1 x with
  |some (.lst xs)=>Q (.p (.tup xs)) E1
  |_=>False)
 |_=>False
theorem Gj(eK:X.K=K)(hg:Gl X "tuple")(hm:X.mg "tuple" = none)(ha:QA X (e::es) (dA K n Fr))(hs:bO (e::es)=true:=by rfl):QE X (.Call (.Name "tuple" p) (e::es) [] pos) (aI K (X7 Fr)):=by
 subst eK;refine(qR yV hg hm (by decide +kernel) ha ∅ ∅ hs).le λσ H Q hl h=>args (Fr:=Fr) h λB S E rs vs H2 Q' hS re rr hn q lk=>?_;obtain _|⟨x,_|⟨_,_⟩⟩:=rs
 ·exact False.elim q
 ·obtain⟨v,ws,e1,h1,h2⟩:=rr;cases h2;subst e1;simp only at q;split at q
  ·rename_i xs e2;obtain⟨p,us,rfl,sq,rs⟩:=re.vl h1 e2;refine⟨p,us,rfl,.inl ⟨sq,λr hr=>?_⟩⟩;obtain⟨g,YG,rp⟩:=re.tup hr rs;exact lk _ _ _ _ _ q g YG rp
  ·exact q.elim
 ·exact False.elim q
def rX:List T->Option (List Bool)
 |[]=>oZ []
 |.bl b::xs=>(rX xs).map (b::·)
 |_=>none
theorem Tj{O:VN->Prop}:∀{xs:List T}{vs:List V}{bs:List Bool},cX K H O xs vs->rX xs=oZ bs->vs=bs.map V.bl
 |[],_,_,h,e=>by cases e;exact h
 |.bl b::xs,_,bs,⟨v,r,e1,h1,h2⟩,e=>by
  cases q:rX xs with
  |none=>rw[rX,q]at e;cases e
  |some cs=>
   rw[rX,q]at e;cases e;cases h1;rw[e1,Tj h2 q];rfl
 |.non::_,_,_,_,e=>by cases e
 |.int _::_,_,_,_,e=>by cases e
 |.str _::_,_,_,_,e=>by cases e
 |.tup _::_,_,_,_,e=>by cases e
 |.lst _::_,_,_,_,e=>by cases e
def Bu(f:List T->R->En->Option (List T))(Fo:FE)(Fr:FA):FE:=λE Q=>Fo E λo E1=>o1 (ownOf E1 o) λ_=>Fr E1 λrs E2=>match o,rs with
 |.s j,[r]=>(match E2[j]? with
  |some (oZ (.o k xs))=>o1 (f xs r E2) λys=>ys.length<=9000/\Q (.p .non) (E2.set j (oZ (.o k ys)))
  |_=>False)
 |_,_=>False
def DZ(xs:List T)(r:R)(E:En):Option (List T):=match r with
 |.p t=>oZ (xs++[t])
 |_=>none
def EJ(xs:List T)(r:R)(E:En):Option (List T):=(ownOf E r).map (xs++·)
theorem Vr{r:V->List V->Hp->VK->Prop}(eK:X.K=K)(h:aI K (Bu f Fo Fr) σ H Q)(hr:∀(B:VN->Prop)(S:St)(E:En)(H2:Hp)(xs ys:List T)(rr:R)(y:V)(p:VN)(vs:List V)(Q:VK),RE K B H2 S E->RR K B H2 S E rr y->f xs rr E=oZ ys->H2 p=oZ (.lst vs)->cX K H2 (Ow B S E) xs vs->ys.length<=9000->
   (∀ws,cX K H2 (Ow B S E) ys ws->Q .non (upd H2 p (.lst ws)))->r (.ref p) [y] H2 Q):DL X.K "list" r (aI K Fo) (dA K n Fr) σ H Q:=by
 subst eK;obtain⟨B,S,E,Q',⟨τ,hS⟩,re,hF,lk⟩:=h;refine⟨B,S,E,_,⟨τ,hS⟩,re,hF,λoo E1 v H1 S1 q g1 YI rx=>?_⟩;obtain⟨τ1,df⟩:=g1.pre;obtain⟨kq,e0,q⟩:=o1.ex q;obtain⟨j,k,p,vs,rfl,hE,hSj,rfl,h2,h3⟩:=YI.ownOf rx e0;refine⟨.inl ⟨rfl,vs,lZ.of h2⟩,B,S1,E1,_,⟨τ++τ1,by rw[df,hS,OM]⟩,YI,q,λrs E2 us H2 S2 q2 g2 ZX rr hn=>?_⟩;have qq:S2[j]?=oZ (oZ (.ref p)):=gL g2.pre hSj;obtain _|⟨r',_|⟨_,_⟩⟩:=rs
 ·exact False.elim q2
 ·obtain⟨y,ws,e1,k1,k2⟩:=rr;cases k2;subst e1;simp only at q2;split at q2
  ·rename_i k2 xs hE2;obtain⟨ys,e3,hz,q2⟩:=o1.ex q2;obtain⟨p',yi,z1,z2,z3,_⟩:=ZX.own j k2 xs hE2;rw[qq]at z1;cases z1;refine hr B S2 E2 H2 xs ys r' y p yi Q ZX k1 e3 z2 z3 hz λws hw=>?_;obtain⟨g3,cj⟩:=ZX.put hE2 qq hw;exact lk _ _ _ _ _ q2 ((g1.trans g2).trans g3) cj rfl
  ·exact q2.elim
 ·exact False.elim q2
theorem iC(eK:X.K=K)(ho:QE X o (aI K Fo))(ha:QA X [e] (dA K n Fr))(ZD:WH o "append" X.env (VY o X.env)=VY o X.env:=by rfl)(ZE:(ap.endLine==pos.line)=true:=by rfl)(hs:a9 e=false:=by rfl):
  QE X (.Call (.Attribute o "append" ap) [e] [] pos) (aI K (Bu DZ Fo Fr)):=
 (Ao ho ha ZD ZE hs).le λσ H Q hl h=>Vr eK h λB S E H2 xs ys rr y p vs Q re rx e hp hv hz k=>by
  cases rr with
  |s _=>cases e
  |p t=>
   cases e;refine⟨p,vs,y,rfl,rfl,hp,?_,k _ (hv.append ⟨y,[],rfl,rx,rfl⟩)⟩;rw[hv.length];rw[OB]at hz;exact b9 (by simp at hz;lia)
theorem tD(eK:X.K=K)(ho:QE X o (aI K Fo))(ha:QA X [e] (dA K n Fr))(ZD:WH o "extend" X.env (VY o X.env)=VY o X.env:=by rfl)(ZE:(ap.endLine==pos.line)=true:=by rfl)(hs:a9 e=false:=by rfl):
  QE X (.Call (.Attribute o "extend" ap) [e] [] pos) (aI K (Bu EJ Fo Fr)):=
 QE.le (t:=DL X.K "list" Ol (aI K Fo) (dA K n Fr)) ⟨Oc PySem.F.plainAttrs_list PySem.F.slot_list_extend PySem.F.type_list_extend Ri ho.h ha.h ZD (by rw[cK hs];rfl) ZE (cK hs) (fL rfl)⟩ λσ H Q hl h=>Vr eK h λB S E H2 xs ys rr y p vs Q re rx e hp hv hz k=>by
  unfold EJ at e;cases q:ownOf E rr with
  |none=>rw[q]at e;cases e
  |some zs=>
   rw[q]at e;cases e;obtain⟨j,kk,p',xf,_,_,_,rfl,h2,h3⟩:=re.ownOf rx q;refine⟨p,p',vs,xf,rfl,rfl,hp,h2,?_,k _ (hv.append h3)⟩;rw[hv.length,h3.length];rw[OB]at hz;exact PK (b9 hz)
end
abbrev fZ(h:oE)(T:VN)(xs:Array oA):Prop:=h.get? T=oZ { cls:=.type "tuple",data:=.seq xs }
theorem yM(a b c:oA):checkTypeCall "zip" ⟨[a,b,c],[]⟩=pure ():=by kernel_rfl
theorem yY(a b c:oA):checkBuiltinCall "zip.__new__" ⟨[.type "zip",a,b,c],[]⟩=pure ():=by kernel_rfl
theorem qK(a b c d:oA):argsOk "object.__init__" ⟨[a,b,c,d],[]⟩:=by
 unfold argsOk;rw[signature?_of (id:="object.__init__") (n:=['_','_','t','i','n','i','_','_']) (o:=['t','c','e','j','b','o']) (by kernel_rfl) PySem.F.owner_object];kernel_rfl
abbrev IX(h:oE)(a:VN):oE:=h.push { cls:=.type "list_iterator",data:=.fields #[.ref a,.int 0 0] }
abbrev IY(h:oE)(a b:VN):oE:=(IX h a).push { cls:=.type "list_iterator",data:=.fields #[.ref b,.int 0 0] }
abbrev IZ(h:oE)(a b c:VN):oE:=(IY h a b).push { cls:=.type "list_iterator",data:=.fields #[.ref c,.int 0 0] }
abbrev JA(h:oE)(a b c:VN):oE:=(IZ h a b c).push { cls:=.type "tuple",data:=.seq #[.ref h.objs.size,.ref (IX h a).objs.size,.ref (IY h a b).objs.size] }
abbrev JB(h:oE)(a b c:VN):oE:=(JA h a b c).push { cls:=.type "tuple",data:=.seq #[.none,.none,.none] }
abbrev Sv(h:oE)(a b c:VN):oE:=(JB h a b c).push { cls:=.type "zip",data:=.fields #[.none,.bool false,.bool false,.ref (IZ h a b c).objs.size,.ref (JA h a b c).objs.size] }
theorem Zp(a b c:VN)(xs ys zs:Array oA):
  Meets (Builtin.«zip.__new__» ⟨[.type "zip",.ref a,.ref b,.ref c],[]⟩) (λ_ R s=>s.heap.IsList a xs/\s.heap.IsList b ys/\s.heap.IsList c zs/\R (.ok (.ret (.ref (JB s.heap a b c).objs.size))) { s with heap:=Sv s.heap a b c }):=
 .of_wp λprog w A R s h=>by
  obtain⟨hp,g,d,tk,os⟩:=s;obtain⟨ga,gb,gc,h⟩:=h;have aCH:=sub_zip;have gA:Heap.IsList (Shared.heap ⟨hp,g,d,tk,os⟩) a xs:=ga;have gB:Heap.IsList (Shared.heap ⟨hp.push { cls:=.type "list_iterator",data:=.fields #[.ref a,.int 0 0] },g,d,tk,os⟩) b ys:=Heap.IsList.push gb _;have gC:Heap.IsList (Shared.heap ⟨(hp.push { cls:=.type "list_iterator",data:=.fields #[.ref a,.int 0 0] }).push { cls:=.type "list_iterator",data:=.fields #[.ref b,.int 0 0] },g,d,tk,os⟩) c zs:=Heap.IsList.push (Heap.IsList.push gc _) _
  wp_walk using wpAny_pyIter_list gA,wpAny_pyIter_list gB,wpAny_pyIter_list gC
  exact⟨_,rfl,h⟩
theorem Qm{prog:VQ}{w:VU}{A:oD}{E:oA->oB->Prop}{s:oB}{a b c:VN}{xs ys zs:Array oA}{Q:oA->oB->Prop}(ga:s.heap.IsList a xs)(gb:s.heap.IsList b ys)(gc:s.heap.IsList c zs)
  (g:∀h',XJ h' (s.heap.objs.size+5) (s.heap.objs.size+3) (s.heap.objs.size+4) .none->fZ h' (s.heap.objs.size+3) #[.ref s.heap.objs.size,.ref (s.heap.objs.size+1),.ref (s.heap.objs.size+2)]->fZ h' (s.heap.objs.size+4) #[.none,.none,.none]->
   h'.IsListIter s.heap.objs.size a 0->h'.IsListIter (s.heap.objs.size+1) b 0->h'.IsListIter (s.heap.objs.size+2) c 0->(∀c o,s.heap.get? c=oZ o->h'.get? c=oZ o)->Q (.ref (s.heap.objs.size+5)) { s with heap:=h' }) :
  VP (VR prog w) A (call (.type "zip") [.ref a,.ref b,.ref c]) Q E s:=by
 refine callType_new F.called_zip ∅ (yM _ _ _) (yY _ _ _) (λobj=>qK obj _ _ _) F.entry_zip_new (Zp a b c xs ys zs) ⟨ga,gb,gc,?_⟩;have y1:(IX s.heap a).objs.size=s.heap.objs.size+1:=RA ..;have y2:(IY s.heap a b).objs.size=s.heap.objs.size+2:=by rw[RA,y1]
 have y3:(IZ s.heap a b c).objs.size=s.heap.objs.size+3:=by rw[RA,y2]
 have y4:(JA s.heap a b c).objs.size=s.heap.objs.size+4:=by rw[RA,y3]
 have y5:(JB s.heap a b c).objs.size=s.heap.objs.size+5:=by rw[RA,y4]
 have p5:∀{d:VN}{o:Obj},(JB s.heap a b c).get? d=oZ o->(Sv s.heap a b c).get? d=oZ o:=λe=>OA _ e;have p4:∀{d:VN}{o:Obj},(JA s.heap a b c).get? d=oZ o->(Sv s.heap a b c).get? d=oZ o:=λe=>p5 (OA _ e);have p3:∀{d:VN}{o:Obj},(IZ s.heap a b c).get? d=oZ o->(Sv s.heap a b c).get? d=oZ o:=λe=>p4 (OA _ e);have p2:∀{d:VN}{o:Obj},(IY s.heap a b).get? d=oZ o->(Sv s.heap a b c).get? d=oZ o:=λe=>p3 (OA _ e);have p1:∀{d:VN}{o:Obj},(IX s.heap a).get? d=oZ o->(Sv s.heap a b c).get? d=oZ o:=λe=>p2 (OA _ e);have p0:∀{d:VN}{o:Obj},s.heap.get? d=oZ o->(Sv s.heap a b c).get? d=oZ o:=λe=>p1 (OA _ e);have x6:(Sv s.heap a b c).get? (JB s.heap a b c).objs.size=oZ _:=OL _ rfl;have x5:(Sv s.heap a b c).get? (JA s.heap a b c).objs.size=oZ _:=p5 (OL _ rfl);have x4:(Sv s.heap a b c).get? (IZ s.heap a b c).objs.size=oZ _:=p4 (OL _ rfl);have x3:(Sv s.heap a b c).get? (IY s.heap a b).objs.size=oZ _:=p3 (OL _ rfl);have x2:(Sv s.heap a b c).get? (IX s.heap a).objs.size=oZ _:=p2 (OL _ rfl);have x1:(Sv s.heap a b c).get? s.heap.objs.size=oZ _:=p1 (OL _ rfl);show _/\_;rw[y3,y4,y5]at x6;rw[y1,y2,y3]at x4;rw[y4]at x5;rw[y2]at x3;rw[y1]at x2;rw[y5];exact⟨⟨_,x6,rfl⟩,g _ x6 x4 x5 ⟨_,x1,rfl,rfl⟩ ⟨_,x2,rfl,rfl⟩ ⟨_,x3,rfl,rfl⟩ λc o e=>p0 e⟩
structure ZQ where
 κ:Bool
 a:VN
 it:VN
 items:Array oA
structure ZA(z TI TO:VN)(ps:List ZQ):Prop where
 tz:TI≠z
 oz:TO≠z
 to:TI≠TO
 iz:∀p∈ps,p.it≠z/\p.it≠TI/\p.it≠TO
 az:∀p∈ps,p.a≠z/\p.a≠TO
 ai:∀p∈ps,∀q∈ps,p.a≠q.it
 ii:∀(i j:Nat)(p q:ZQ),ps[i]?=oZ p->ps[j]?=oZ q->p.it=q.it->i=j
section
variable{prog:VQ}{w:VU}{A:oD}{E:oA->oB->Prop}{s:oB}
theorem Uq{α β:Type}{M:Model}{body:α->β->Sem (ForInStep β)}{b0:β}(xs:List α):∀(m:Nat)(W:Nat->oB->Prop)(s:oB)(Q:β->oB->Prop),m<=xs.length->
  (∀j x s,j<m->xs[j]?=oZ x->W j s->VP M A (body x b0) (λr s'=>r = .yield b0/\W (j+1) s') E s)->W 0 s->(m=xs.length->∀s',W m s'->Q b0 s')->(∀y s',xs[m]?=oZ y->W m s'->VP M A (body y b0) (λ_ _=>False) E s')->VP M A (forIn xs b0 body) Q E s:=by
 induction xs with
 |nil=>
  intro m W s Q hl hs h0 hq hm;rw[List.forIn_nil];have e:m=0:=Nat.le_zero.mp hl;subst e;exact VV (hq rfl s h0)
 |cons x xs ih=>
  intro m W s Q hl hs h0 hq hm;rw[List.forIn_cons];cases m with
  |zero=>exact VO (dQ (hm x s rfl h0) λ_ _ z=>z.elim)
  |succ m=>
   refine VO (dQ (hs 0 x s ⋯ rfl h0) λr s' zz=>?_);obtain⟨e,h1⟩:=zz;subst e;exact ih m (λj=>W (j+1)) s' Q (by simpa using hl) (λj z vw hj hz hw=>hs (j+1) z vw ⋯ (by simpa using hz) hw) h1 (λe=>hq (by simp[e])) (λy vw h=>hm y vw (by simpa using h))
def ZW(s:oB)(z TI TO:VN)(ps:List ZQ)(k j:Nat)(s':oB):Prop:=∃(h:oE)(tk:Nat),s' = { s with heap:=h,toks:=tk }/\XJ h z TI TO .ellipsis/\
 (∃cur:Array oA,fZ h TO cur/\cur.size=ps.length/\∀(l:Nat)(q:ZQ),l<j->ps[l]?=oZ q->∃x,q.items[k]?=oZ x/\cur[l]?=oZ x)/\
 (∀(l:Nat)(q:ZQ),ps[l]?=oZ q->jS q.κ h q.it q.a (if l<j then k+1 else k)/\wG q.κ h q.a q.items)/\
 (∀c o,c≠z->c≠TO->(∀q∈ps,c≠q.it)->s.heap.get? c=oZ o->h.get? c=oZ o)/\h.objs.size=s.heap.objs.size
theorem wG.at(x:wG κ h a XX)(e:∀o,h.get? a=oZ o->h'.get? a=oZ o):wG κ h' a XX:=by
 cases κ
 ·exact Heap.IsList.at x e
 ·exact Heap.IsTuple.at x e
theorem kR{ps:List ZQ}{l:Nat}(h:ps[l]?=oZ q):q∈ps:=NX h
theorem JC{z TI TO:VN}{ps:List ZQ}{k j:Nat}{q:ZQ}(hA:A.handled=none)(ap:ZA z TI TO ps)(hl:ps.length<=9000)(hq:ps[j]?=oZ q)(hk:k<q.items.size){s':oB}(W:ZW s z TI TO ps k j s'){Q:Option oA->oB->Prop}
  (g:∀x s2,(∃(h:oE)(tk:Nat),s2 = { s with heap:=h,toks:=tk }/\q.items[k]?=oZ x/\XJ h z TI TO .ellipsis/\
    (∃cur:Array oA,fZ h TO cur/\cur.size=ps.length/\∀(l:Nat)(q:ZQ),l<j->ps[l]?=oZ q->∃x,q.items[k]?=oZ x/\cur[l]?=oZ x)/\
    (∀(l:Nat)(q:ZQ),ps[l]?=oZ q->jS q.κ h q.it q.a (if l<j+1 then k+1 else k)/\wG q.κ h q.a q.items)/\
    (∀c o,c≠z->c≠TO->(∀q∈ps,c≠q.it)->s.heap.get? c=oZ o->h.get? c=oZ o)/\h.objs.size=s.heap.objs.size)->Q (oZ x) s2) :
  VP (VR prog w) A (Builtin.SmallTypes.nextOf (.ref q.it) >>= λx=>pure (oZ x)) Q E s':=by
 obtain⟨h,tk,rfl,hz,⟨cur,c1,c2,c3⟩,hi,kp,xg⟩:=W;have tq:=kR hq;have D:=Tw (prog:=prog) (w:=w) q.κ hA q.it q.a (ap.ai q tq q tq) q.items;obtain⟨i1,i2⟩:=hi j q hq;rw[oW (Nat.lt_irrefl j)]at i1;refine VO (D.item k _ _ _ hk ⟨i1,i2⟩ λx hb tb px gb sb=>VV (g x _ ⟨hb,tb,rfl,px,?_,⟨cur,?_,c2,c3⟩,λl p hp=>?_,λc o n1 n2 n3 e=>?_,?_⟩))
 ·exact sb.extBut _ _ (Ne.symm (ap.iz q tq).1) hz
 ·exact sb.extBut _ _ (Ne.symm (ap.iz q tq).2.2) c1
 ·by_cases e:l=j
  ·subst e;rw[hq]at hp;cases hp;rw[oV (RZ _)];exact gb
  ·obtain⟨a1,a2⟩:=hi l p hp;have ne:p.it≠q.it:=λz=>e (ap.ii l j p q hp hq z);have el:(if l<j+1 then k+1 else k)=(if l<j then k+1 else k):=by
    by_cases c:l<j
    ·rw[oV c,oV ⋯]
    ·rw[oW c,oW ⋯]
   rw[el];exact⟨a1.at λo x=>sb.extBut _ _ ne x,a2.at λo x=>sb.extBut _ _ (ap.ai p (kR hp) q tq) x⟩
 ·exact sb.extBut _ _ (n3 q tq) (kp c o n1 n2 n3 e)
 ·rw[sb.1];exact xg
theorem Qb{z TI TO:VN}{ps:List ZQ}{k m:Nat}{old:Array oA}{Q:Fin->oB->Prop}(hA:A.handled=none)(ap:ZA z TI TO ps)(fg:ps≠[])(hl:ps.length<=9000)
  (gz:XJ s.heap z TI TO .none) (gI:fZ s.heap TI (ps.map λp=>QC p.it).toArray) (gO:fZ s.heap TO old) (ho:old.size=ps.length)
  (gi:∀p∈ps,jS p.κ s.heap p.it p.a k/\wG p.κ s.heap p.a p.items) (vi:m<=ps.length) (gk:∀(j:Nat)(q:ZQ),j<m->ps[j]?=oZ q->k<q.items.size) (hpk:∀p,ps[m]?=oZ p->p.items.size=k)
  (gq:m=ps.length->∀(xs:List oA)h' tk,xs.length=ps.length->(∀(l:Nat)(q:ZQ),ps[l]?=oZ q->∃x,q.items[k]?=oZ x/\xs[l]?=oZ x)->XJ h' z TI TO (rawInt s.heap.objs.size)->(∃cur:Array oA,fZ h' TO cur/\cur.size=ps.length)->
   (∀p∈ps,jS p.κ h' p.it p.a (k+1))->fZ h' s.heap.objs.size xs.toArray->h'.objs.size=s.heap.objs.size+1->
   (∀c o,c≠z->c≠TO->(∀q∈ps,c≠q.it)->s.heap.get? c=oZ o->h'.get? c=oZ o)->Q (.done (.ret (.ref s.heap.objs.size))) { s with heap:=h',toks:=tk })
  (ge:m<ps.length->∀h' tk e,(∀c o,c≠z->c≠TO->(∀q∈ps,c≠q.it)->s.heap.get? c=oZ o->h'.get? c=oZ o)->(∃o,h'.get? e=oZ o/\o.cls = .type "StopIteration")->E (.ref e) { s with heap:=h',toks:=tk }) :
  VP (VR prog w) A (Builtin.«zip.__next__» ⟨[.ref z],[]⟩) Q E s:=by
 show VP _ _ (field (.ref z) 2 >>= _) _ _ _;refine VO (WK gz rfl (x:=.bool false) rfl ?_);show VP _ _ (field (.ref z) 3 >>= _) _ _ _;refine VO (WK gz rfl (x:=.ref TI) rfl (VO (XF gI rfl ?_)));have hem:((ps.map λp=>QC p.it).toArray).isEmpty=false:=by
  cases ps with
  |nil=>exact absurd rfl fg
  |cons p r=>simp
 simp only[hem,Bool.false_eq_true,if_false];refine VO ?_;unfold Builtin.SmallTypes.ownedTupleIsFree;refine VO (WK gz rfl (x:=.none) rfl (VV ?_));simp only[if_true];refine VO (wpAny_rule (VO (WK gz rfl (x:=.ref TO) rfl (VO (XD gz (by simp) λha za sa=>?_)))));have za':XJ ha z TI TO .ellipsis:=za;refine VO ?_;have W0:ZW s z TI TO ps k 0 { s with heap:=ha }:=by
  refine⟨ha,s.toks,rfl,za',⟨old,sa.extBut _ _ ap.oz gO,ho,λl q h=>absurd h (SQ _)⟩,λl q hq=>?_,λc o n1 n2 n3 e=>sa.extBut _ _ n1 e,sa.1⟩;obtain⟨g1,g2⟩:=gi q (kR hq);rw[oW (SQ _)];exact⟨g1.at λo e=>sa.extBut _ _ (ap.iz q (kR hq)).1 e,g2.at λo e=>sa.extBut _ _ (ap.az q (kR hq)).1 e⟩
 have atj:∀{j:Nat}{x:oA×Nat},(List.zipIdx (ps.map λp=>QC p.it).toArray.toList)[j]?=oZ x->∃q,ps[j]?=oZ q/\x=(QC q.it,j):=λ{j x}hx=>by
  rw[List.getElem?_zipIdx]at hx;simp only[NY,Option.map_map]at hx;cases q:ps[j]? with
  |none=>simp[q]at hx
  |some p=>simp[q]at hx;exact⟨p,rfl,hx.symm⟩
 have ll:(List.zipIdx (ps.map λp=>QC p.it).toArray.toList).length=ps.length:=by simp
 refine Uq _ m (ZW s z TI TO ps k) _ _ (by rw[ll];exact vi) (λj x s' hjm hx hW=>?_) W0 (λem s' hW=>?_) (λy s' hy hW=>?_)
 ·obtain⟨q,hq,rfl⟩:=atj hx;have hj:j<ps.length:=(NV.mp hq).1;refine VO (wpAny_onRaise ?_);show VP _ _ (Builtin.SmallTypes.nextOf (.ref q.it) >>= _) _ _ _;refine JC hA ap hl hq (gk j q hjm hq) hW λx s2 zZ=>?_;obtain⟨h,tk,es,px,hz,⟨cur,c1,c2,c3⟩,hi,kp,xg⟩:=zZ;subst es;have c1':h.get? TO=oZ { cls:=.type "tuple",data:=.seq cur }:=c1;refine VO (XF c1' rfl (VO (wpAny_updateSeq c1' rfl ?_ (by rw[c2];exact PK (b9 hl)) (by simp;rw[c2];exact Nat.le_succ_of_le (PK (b9 hl))))));refine VO (wpAny_letGo (VV ⟨rfl,?_⟩));have su:SU TO h (h.update TO (SF (·.setIfInBounds j x))):=Heap.SameBut.update ..;have gu:fZ (h.update TO (SF (·.setIfInBounds j x))) TO (cur.setIfInBounds j x):=by
   show(h.update TO (SF (·.setIfInBounds j x))).get? TO=_;rw[TN _ c1' rfl];simp[SF]
  refine⟨_,tk,rfl,su.extBut _ _ (Ne.symm ap.oz) hz,⟨_,gu,by simp[c2],λl p hl' hp=>?_⟩,λl p hp=>?_,λc o n1 n2 n3 e=>su.extBut _ _ n2 (kp c o n1 n2 n3 e),by rw[su.1];exact xg⟩
  ·by_cases e:l=j
   ·subst e;rw[hq]at hp;cases hp;exact⟨x,px,by rw[Array.getElem?_setIfInBounds_self_of_lt (by rw[c2];exact hj)]⟩
   ·obtain⟨y,y1,y2⟩:=c3 l p ⋯ hp;exact⟨y,y1,by rw[Array.getElem?_setIfInBounds_ne (λz=>e z.symm)];exact y2⟩
  ·obtain⟨a1,a2⟩:=hi l p hp;exact⟨a1.at λo e=>su.extBut _ _ (ap.iz p (kR hp)).2.2 e,a2.at λo e=>su.extBut _ _ (ap.az p (kR hp)).2 e⟩
 ·rw[ll]at em;obtain⟨he,tk,rfl,hz,⟨cur,c1,c2,c3⟩,hi,kp,xg⟩:=hW;have c1':he.get? TO=oZ { cls:=.type "tuple",data:=.seq cur }:=c1;refine VO (XF c1' rfl (VO (wpAny_newTuple ?_ (by simp;rw[c2];exact PK (b9 hl)))));have zlt:z<he.objs.size:=OH hz;show VP _ _ (Builtin.SmallTypes.ownedTupleHandOut (.ref z) (.ref he.objs.size) >>= _) _ _ _;refine VO ?_;unfold Builtin.SmallTypes.ownedTupleHandOut;have zf:XJ (he.push { cls:=.type "tuple",data:=.seq cur.toList.toArray }) z TI TO .ellipsis:=OA _ hz;refine VO (XD zf (by simp) λhg zg sg=>?_);have zg':XJ hg z TI TO (rawInt he.objs.size):=zg;refine XD zg' (by simp) λhh zh sh=>?_;have zh':XJ hh z TI TO (rawInt he.objs.size):=zh;have up:∀c o,c≠z->he.get? c=oZ o->hh.get? c=oZ o:=λc o q e=>sh.extBut _ _ q (sg.extBut _ _ q (OA _ e));have gTh:fZ hh he.objs.size cur.toList.toArray:=sh.extBut _ _ (Nat.ne_of_gt zlt) (sg.extBut _ _ (Nat.ne_of_gt zlt) (OL _ rfl));have szz:hh.objs.size=he.objs.size+1:=by rw[sh.1,sg.1,RA]
  rw[xg]at zh' gTh szz;refine VV ?_;show Q (.done (.ret (.ref he.objs.size))) _;rw[xg];refine gq em cur.toList hh tk (by simp[c2]) (λl q hq=>?_) zh' ⟨cur,up _ _ ap.oz c1,c2⟩ (λp hp=>?_) gTh szz λc o n1 n2 n3 e=>up c o n1 (kp c o n1 n2 n3 e)
  ·obtain⟨x,x1,x2⟩:=c3 l q (by rw[em];exact(NV.mp hq).1) hq;exact⟨x,x1,by simpa using x2⟩
  ·obtain⟨l,hl'⟩:=QY hp;obtain⟨a1,_⟩:=hi l p hl';rw[em,oV (NV.mp hl').1]at a1;exact a1.at λo e=>up _ _ (ap.iz p hp).1 e
 ·obtain⟨h,tk,rfl,hz,_,hi,kp,xg⟩:=hW;obtain⟨p,hm,rfl⟩:=atj hy;have yj:=kR hm;have hpk:=hpk p hm;have D:=Tw (prog:=prog) (w:=w) p.κ hA p.it p.a (ap.ai p yj p yj) p.items;obtain⟨i1,i2⟩:=hi m p hm;rw[oW (Nat.lt_irrefl m)]at i1;refine VO (wpAny_onRaise ?_);show VP _ _ (Builtin.SmallTypes.nextOf (.ref p.it) >>= _) _ _ _;refine VO (D.done _ _ _ (by rw[hpk];exact⟨i1,i2⟩) λhb e sb he=>?_);obtain⟨oe,q1,q2⟩:=he;have sb':Heap.ExtBut p.it h hb:=sb;have zb:XJ hb z TI TO .ellipsis:=sb' _ _ (Ne.symm (ap.iz p yj).1) hz;have hez:e≠z:=λx=>by subst x;rw[zb]at q1;cases q1;simp at q2
  exact XD zb (by simp) λhc _ sc=>ge (NV.mp hm).1 hc tk e (λc o c1 c2 c3 x=>sc.extBut _ _ c1 (sb' _ _ (c3 p yj) (kp c o c1 c2 c3 x))) ⟨oe,sc.extBut _ _ hez q1,q2⟩
end
def Eo(κ:Bool)(K:W.Frag)(H:Hp)(a:VN)(xs:List V):Prop:=match κ with
 |true=>yS K H a xs
 |false=>lZ K H a xs
theorem aU.sqK(I:aU X pins σ H s)(h:Eo κ X.K H a xs):∃XX:List oA,bA xs XX/\wG κ s.heap a XX.toArray:=by
 cases κ
 ·obtain⟨XX,r,p,_⟩:=I.list h;exact⟨XX,r,p.isList⟩
 ·obtain⟨XX,r,p,_⟩:=I.tuple h;exact⟨XX,r,p⟩
theorem aU.sqK_inj(I:aU X pins σ H s)(h:Eo κ X.K H a xs)(h':Eo κ X.K H a ys):xs=ys:=by
 cases κ
 ·exact I.list_inj h h'
 ·exact I.tuple_inj h h'
theorem aU.notfp(I:aU X pins σ H s)(h:Eo κ X.K H a xs)(f:rL X pins H b):a≠b:=by
 have kk:∀{o:Obj},X.K.lookup a=oZ o->a≠b:=λ{o}hk z=>by
  have hb:X.base.get? a=oZ o:=I.mod.kin a o hk;subst z;obtain z|z:=f.2.2.2.1
  ·exact I.ok.noex a o hb z
  ·exact absurd (OI (OI (OH hb) I.ok.bsz) z) (Nat.lt_irrefl _)
 have hh:∀{u:HO},Rd H a u->a≠b:=λ{u}r z=>by
  subst z;have:=f.1;obtain r|⟨o,r⟩:=r
  ·rw[this]at r;cases r
  ·rw[this]at r;cases r
 cases κ
 ·obtain h|⟨o,XX,n,hk,_⟩:=h
  ·exact hh h
  ·exact kk hk
 ·obtain h|⟨o,XX,n,hk,_⟩:=h
  ·exact hh h
  ·exact kk hk
theorem JZ(I:aU X pins σ H s):∀(ps:List (Bool×VN))(XX:List VN),XX.length=ps.length->(∀p∈ps,∃xs,Eo p.1 X.K H p.2 xs)->
  ∃qs:List ZQ,qs.map (λq=>(q.κ,q.a))=ps/\qs.map (·.it)=XX/\∀q∈qs,wG q.κ s.heap q.a q.items/\∃xs,Eo q.κ X.K H q.a xs/\bA xs q.items.toList
 |[],[],_,_=>⟨[],rfl,rfl,λq h=>absurd h (by simp)⟩
 |[],_::_,e,_=>by simp at e
 |_::_,[],e,_=>by simp at e
 |p::ps,it::XX,e,h=>by
  obtain⟨qs,h1,h2,h3⟩:=JZ I ps XX (by simpa using e) λq hq=>h q (by simp[hq]);obtain⟨xs,hx⟩:=h p (by simp);obtain⟨vs,r,sk⟩:=I.sqK hx;refine⟨⟨p.1,p.2,it,vs.toArray⟩::qs,by simp[h1],by simp[h2],λq hq=>?_⟩;obtain rfl|hq:=NZ.mp hq
  ·exact⟨sk,xs,hx,by simpa using r⟩
  ·exact h3 q hq
def DQ(K:W.Frag)(ps:List (Bool×VN)):It:=
  ⟨λi H=>∀p∈ps,∃xs x,Eo p.1 K H p.2 xs/\xs[i]?=oZ x,
   λi H v H'=>∃(q:VN)(ys:List V),v = .ref q/\H q=none/\H'=upd H q (.tup ys)/\ys.length=ps.length/\∀(j:Nat)(p:Bool×VN)(y:V),ps[j]?=oZ p->ys[j]?=oZ y->∀xs,Eo p.1 K H p.2 xs->xs[i]?=oZ y,
   λi H=>(∀p∈ps,∃xs,Eo p.1 K H p.2 xs)/\∃(m:Nat)(p:Bool×VN),ps[m]?=oZ p/\(∃xs,Eo p.1 K H p.2 xs/\xs.length=i)/\∀(j:Nat)(q:Bool×VN),j<m->ps[j]?=oZ q->∃xs x,Eo q.1 K H q.2 xs/\xs[i]?=oZ x⟩
def ZT(z TI TO:VN)(ps:List (Bool×VN))(XX:List VN)(i:Nat)(h:oE):Prop:=XJ h z TI TO .none/\fZ h TI (XX.map QC).toArray/\(∃old:Array oA,fZ h TO old/\old.size=ps.length)/\
 ∀(j:Nat)(p:Bool×VN)(it:VN),ps[j]?=oZ p->XX[j]?=oZ it->jS p.1 h it p.2 i
theorem Ba{P:VQ}{w:VU}{K:W.Frag}{elts:List oC}{x1}{fi:Pos}(z TI TO:VN)(ps:List (Bool×VN))(XX:List VN)(hl:XX.length=ps.length)(fg:ps≠[])(hz:ps.length<=9000)(nd:(z::TI::TO::XX).Nodup):
  Jg P w K (.Tuple elts x1 fi) (DQ K ps) (z::TI::TO::XX) z (ZT z TI TO ps XX):=by
 simp only[QX,NZ,not_or]at nd;obtain⟨⟨n1,n2,n3⟩,⟨n4,n5⟩,n6,n7⟩:=nd;have apart:∀{X:Cx}{pins:List (VN×Obj)}{σ:St}{H:Hp}{s:oB}{qs:List ZQ},aU X pins σ H s->(∀c∈z::TI::TO::XX,rL X pins H c)->qs.map (·.it)=XX->(∀q∈qs,∃xs,Eo q.κ X.K H q.a xs)->ZA z TI TO qs:=by
  intro X pins σ H s qs I hf e1 hq;have mi:∀q∈qs,q.it∈XX:=λq hq=>by rw[<-e1];exact RO hq
  refine⟨λe=>n1 e.symm,λe=>n2 e.symm,n4,λp hp=>⟨λe=>n3 (e ▸ mi p hp),λe=>n5 (e ▸ mi p hp),λe=>n6 (e ▸ mi p hp)⟩,λp hp=>?_,λp hp q tu=>?_,λi j p q hi hj e=>?_⟩
  ·obtain⟨xs,hx⟩:=hq p hp;exact⟨I.notfp hx (hf z (by simp)),I.notfp hx (hf TO (by simp))⟩
  ·obtain⟨xs,hx⟩:=hq p hp;exact I.notfp hx (hf q.it (by simp[mi q tu]))
  ·have jh:XX[i]?=oZ p.it:=by rw[<-e1,NY,hi];rfl
   have hj':XX[j]?=oZ q.it:=by rw[<-e1,NY,hj];rfl
   exact(UG (NV.mp jh).1 n7).mp (by rw[jh,hj',e])
 refine⟨by simp,λi h st c hc=>?_,λi h h' st k=>?_,?_,?_,λ_ _ _ _ _ st h=>wpAny_pyIter_zip st.1 h⟩
 ·obtain⟨s1,s2,⟨old,s3,_⟩,s4⟩:=st;simp only[NZ]at hc;obtain rfl|rfl|rfl|hc:=hc
  ·exact⟨_,s1,λv z=>by cases z⟩
  ·exact⟨_,s2,λv z=>by cases z⟩
  ·exact⟨_,s3,λv z=>by cases z⟩
  ·obtain⟨j,hj⟩:=QY hc;have rm:j<ps.length:=by rw[<-hl];exact(NV.mp hj).1
   exact(s4 j _ c (NW rm) hj).obj
 ·obtain⟨s1,s2,⟨old,s3,s3'⟩,s4⟩:=st;exact⟨k z (by simp) _ s1,k TI (by simp) _ s2,⟨old,k TO (by simp) _ s3,s3'⟩,λj p it hp hit=>(s4 j p it hp hit).at λo e=>k it (by simp[NX hit]) o e⟩
 ·intro X hP hw hK hc i pins s σ H E I hf st hg;subst hP hw hK;obtain⟨s1,s2,⟨old,s3,s3'⟩,s4⟩:=st;obtain⟨qs,e1,e2,h3⟩:=JZ I ps XX hl λp hp=>let⟨xs,_,h,_⟩:=hg p hp;⟨xs,h⟩;have yk:qs.length=ps.length:=by rw[<-e1,OD]
  have ap:=apart I hf e2 λq hq=>let⟨_,xs,h,_⟩:=h3 q hq;⟨xs,h⟩;have hA:X.A.in1.handled=none:=I.ok.hd hc;have hzz:s.TypeIs (.ref z) "zip":=⟨_,s1,rfl⟩;have qr:∀{j:Nat}{q:ZQ},qs[j]?=oZ q->ps[j]?=oZ (q.κ,q.a)/\XX[j]?=oZ q.it:=λ{j q}h=>⟨by rw[<-e1,NY,h];rfl,by rw[<-e2,NY,h];rfl⟩;have gi:∀q∈qs,jS q.κ s.heap q.it q.a i/\wG q.κ s.heap q.a q.items:=λq hq=>by
   obtain⟨j,hj⟩:=QY hq;exact⟨s4 j _ _ (qr hj).1 (qr hj).2,(h3 q hq).1⟩
  have gk:∀q∈qs,i<q.items.size:=λq hq=>by
   obtain⟨j,hj⟩:=QY hq;obtain⟨xs,x,q1,q2⟩:=hg _ (NX (qr hj).1);obtain⟨_,ys,r1,r2⟩:=h3 q hq;rw[I.sqK_inj q1 r1]at q2;have:=(NV.mp q2).1;have:=r2.length;simp at this
   lia
  have gI:fZ s.heap TI (qs.map λp=>QC p.it).toArray:=by
   have:(qs.map λp=>QC p.it)=XX.map QC:=by rw[<-e2,UL];rfl
   rw[this];exact s2
  unfold pyNext;refine VO (wpAny_attempt (wpAny_callSpecial?_slot (name:=OW "__next__") hzz F.slot_zip_next (WW F.slot_zip_next hzz F.entry_zip_next
   (Qb hA ap (λz=>by rw[z]at yk;exact fg (QP (by simpa using yk.symm))) ⋯ s1 gI s3 ⋯ gi (OF _) (λ_ q _ h=>gk q (kR h)) (λp h=>by simp at h) (λ_ vs h' tk lv pv zz zo g1 zt sz kp=>⟨_,rfl,VV ?_⟩) (λh=>absurd h (Nat.lt_irrefl _))) (F.args_zip_next_1 _))))
  refine⟨_,rfl,wpAny_letOwnedTupleGo_zip zz λh2 z2 sb=>?_⟩;have hzn:z≠s.heap.objs.size:=PB (OH s1);have kk:∀c o,c∉z::TI::TO::XX->s.heap.get? c=oZ o->h2.get? c=oZ o:=λc o hc q=>by
   simp only[NZ,not_or]at hc;refine sb.extBut c o hc.1 (kp c o hc.1 hc.2.2.1 (λq' tu e=>hc.2.2.2 ?_) q);rw[e,<-e2];exact RO tu
  -- the items,as they are told
  obtain⟨ys,hys,ry⟩:∃ys:List V,(ys.length=ps.length/\∀(j:Nat)(p:Bool×VN)(y:V),ps[j]?=oZ p->ys[j]?=oZ y->∀xs,Eo p.1 X.K H p.2 xs->xs[i]?=oZ y)/\bA ys vs:=by
   have eN:∀(n:Nat)(rs:List ZQ)(us:List oA),rs.length=n->us.length=n->(∀q∈rs,∃xs,Eo q.κ X.K H q.a xs/\bA xs q.items.toList)->(∀(l:Nat)(q:ZQ),rs[l]?=oZ q->∃x,q.items[i]?=oZ x/\us[l]?=oZ x)->
     ∃ys:List V,ys.length=n/\bA ys us/\∀(j:Nat)(q:ZQ)(y:V),rs[j]?=oZ q->ys[j]?=oZ y->∀xs,Eo q.κ X.K H q.a xs->xs[i]?=oZ y:=by
    intro n
    induction n with
    |zero=>
     intro rs us h1 h2 _ _;refine⟨[],rfl,?_,λj q y hq=>?_⟩
     ·rw[QP h2];exact .nil
     ·rw[QP h1]at hq;simp at hq
    |succ n ih=>
     intro rs us h1 h2 h4 h5
     match rs,us,h1,h2 with
     |q::rs,u::us,h1,h2=>
      obtain⟨ys,l1,l2,l3⟩:=ih rs us (by simpa using h1) (by simpa using h2) (λq' tu=>h4 q' (by simp[tu])) (λl q' tu=>by have:=h5 (l+1) q' (by simpa using tu);simpa using this);obtain⟨xs,a1,a2⟩:=h4 q (by simp);obtain⟨x,b1,b2⟩:=h5 0 q rfl;simp at b2;subst b2;have ya:q.items.toList[i]?=oZ u:=by simpa using b1
      have hi:i<xs.length:=by rw[a2.length];exact(NV.mp ya).1
      obtain⟨u',c1,c2⟩:=a2.get (NW hi);rw[ya]at c1;cases c1;refine⟨xs[i]::ys,by simp[l1],.cons c2 l2,λj q' y hq hy zs hz'=>?_⟩;cases j with
      |zero=>
       simp at hq hy;subst hq;subst hy;rw[I.sqK_inj hz' a1];exact NW hi
      |succ j=>exact l3 j q' y (by simpa using hq) (by simpa using hy) zs hz'
   obtain⟨ys,l1,l2,l3⟩:=eN qs.length qs vs rfl lv (λq hq=>(h3 q hq).2) pv;refine⟨ys,⟨⋯,λj p y hp hy xs hx=>?_⟩,l2⟩;have rm:j<qs.length:=by rw[yk];exact(NV.mp hp).1
   have hq:=NW rm;have:=(qr hq).1;rw[hp]at this;cases this;exact l3 j _ y hq hy xs hx
  have new:dU X.prog X.w (upd H s.heap.objs.size (.tup ys)) h2 s.heap.objs.size (.tup ys):=
   ⟨by rw[hys.1];exact PK (b9 hz),vs,ry,⟨_,sb.extBut _ _ (Ne.symm hzn) zt,rfl,_,rfl⟩⟩
  have up:∀{c:VN}{o:Obj},c≠z->h'.get? c=oZ o->h2.get? c=oZ o:=λhc q=>sb.extBut _ _ hc q;refine⟨.ref s.heap.objs.size,upd H s.heap.objs.size (.tup ys),I.turnedLaid (t':=tk) (ch:=z::TI::TO::XX) kk hf (OF _) new,rfl,
   ⟨_,ys,rfl,I.hok.fresh (OF _),rfl,hys.1,hys.2⟩,⟨z2,up (λe=>n1 e.symm) (kp _ _ (λe=>n1 e.symm) n4 (λq hq=>λe=>(ap.iz q hq).2.1 e.symm) s2),?_,λj p it hp hit=>?_⟩,λc hc=>?_⟩
  ·obtain⟨cur,u1,u2⟩:=zo;exact⟨cur,up ap.oz u1,⋯⟩
  ·have rm:j<qs.length:=by rw[yk];exact(NV.mp hp).1
   have hq:=NW rm;have q1:=(qr hq).1;have q2:=(qr hq).2;rw[hp]at q1;cases q1;rw[hit]at q2;cases q2;exact(g1 _ (RK rm)).at λo e=>up (ap.iz _ (RK rm)).1 e
  ·have ag:c<s.heap.objs.size:=by
    simp only[NZ]at hc;obtain rfl|rfl|rfl|hc:=hc
    ·exact OH s1
    ·exact OH s2
    ·exact OH s3
    ·obtain⟨j,hj⟩:=QY hc;have rm:j<ps.length:=by rw[<-hl];exact(NV.mp hj).1
     obtain⟨o,e,_⟩:=(s4 j _ c (NW rm) hj).obj;exact OH e
   rw[bE (PB ag)];exact(hf c hc).1
 ·intro X hP hw hK hc i pins s σ H E I hf st hg;subst hP hw hK;obtain⟨wb,m,pm,hm,⟨xm,hxm,hlm⟩,hb⟩:=hg;obtain⟨s1,s2,⟨old,s3,s3'⟩,s4⟩:=st;obtain⟨qs,e1,e2,h3⟩:=JZ I ps XX hl wb;have yk:qs.length=ps.length:=by rw[<-e1,OD]
  have ap:=apart I hf e2 λq hq=>let⟨_,xs,h,_⟩:=h3 q hq;⟨xs,h⟩;have hA:X.A.in1.handled=none:=I.ok.hd hc;have hzz:s.TypeIs (.ref z) "zip":=⟨_,s1,rfl⟩;have qr:∀{j:Nat}{q:ZQ},qs[j]?=oZ q->ps[j]?=oZ (q.κ,q.a)/\XX[j]?=oZ q.it:=λ{j q}h=>⟨by rw[<-e1,NY,h];rfl,by rw[<-e2,NY,h];rfl⟩;have gi:∀q∈qs,jS q.κ s.heap q.it q.a i/\wG q.κ s.heap q.a q.items:=λq hq=>by
   obtain⟨j,hj⟩:=QY hq;exact⟨s4 j _ _ (qr hj).1 (qr hj).2,(h3 q hq).1⟩
  have gI:fZ s.heap TI (qs.map λp=>QC p.it).toArray:=by
   have:(qs.map λp=>QC p.it)=XX.map QC:=by rw[<-e2,UL];rfl
   rw[this];exact s2
  have vi:m<qs.length:=by rw[yk];exact(NV.mp hm).1
  have tq:=NW vi;have yj:qs[m].items.size=i:=by
   have q1:=(qr tq).1;rw[hm]at q1;cases q1;obtain⟨_,ys,r1,r2⟩:=h3 _ (RK vi);rw[I.sqK_inj hxm r1]at hlm;have:=r2.length;simp at this
   lia
  have gk:∀(j:Nat)(q:ZQ),j<m->qs[j]?=oZ q->i<q.items.size:=λj q hj hq=>by
   obtain⟨xs,x,q1,q2⟩:=hb j _ hj (qr hq).1;obtain⟨_,ys,r1,r2⟩:=h3 q (kR hq);rw[I.sqK_inj q1 r1]at q2;have:=(NV.mp q2).1;have:=r2.length;simp at this
   lia
  unfold pyNext;refine VO (wpAny_attempt (wpAny_callSpecial?_slot (name:=OW "__next__") hzz F.slot_zip_next (WW F.slot_zip_next hzz F.entry_zip_next
   (Qb hA ap (λz=>by rw[z]at vi;cases vi) ⋯ s1 gI s3 ⋯ gi (PK vi) gk (λp h=>by rw[tq]at h;cases h;exact yj) (λe=>absurd e (PB vi)) λ_ h' tk e kp he=>?_) (F.args_zip_next_1 _))))
  obtain⟨o,ho,hco⟩:=he;refine VO (wpAny_isInstance (T:="StopIteration") (b:=true) ⟨o,ho,hco⟩ isSubtype_stop (VV ⟨rfl,?_⟩));refine I.turnedL (t':=tk) (ch:=z::TI::TO::XX) (λc o hc q=>?_) hf;simp only[NZ,not_or]at hc;refine kp c o hc.1 hc.2.2.1 (λq' tu e=>hc.2.2.2 ?_) q;rw[e,<-e2];exact RO tu
def gZ:List T->List T->List T
 |x::xs,y::ys=>.tup [x,y]::gZ xs ys
 |_,_=>[]
def jJ:List T->List T->List T->List T
 |x::xs,y::ys,z::zs=>.tup [x,y,z]::jJ xs ys zs
 |_,_,_=>[]
theorem jQ:∀xs ys:List T,(gZ xs ys).length=min xs.length ys.length
 |[],_=>by simp[gZ]
 |_::_,[]=>by simp[gZ]
 |_::xs,_::ys=>by simp[gZ,jQ xs ys]
theorem pS:∀xs ys zs:List T,(jJ xs ys zs).length=min xs.length (min ys.length zs.length)
 |[],_,_=>by simp[jJ]
 |_::_,[],_=>by simp[jJ]
 |_::_,_::_,[]=>by simp[jJ]
 |_::xs,_::ys,_::zs=>by simp[jJ,pS xs ys zs]
theorem pL:∀{xs ys:List T}{i:Nat}{t:T},(gZ xs ys)[i]?=oZ t->∃x y,xs[i]?=oZ x/\ys[i]?=oZ y/\t = .tup [x,y]
 |[],_,_,_,h=>by simp[gZ]at h
 |_::_,[],_,_,h=>by simp[gZ]at h
 |x::_,y::_,0,_,h=>by simp[gZ]at h;exact⟨x,y,rfl,rfl,h.symm⟩
 |_::xs,_::ys,i+1,t,h=>by
  obtain⟨x,y,h1,h2,h3⟩:=pL (xs:=xs) (ys:=ys) (i:=i) (t:=t) (by simpa[gZ]using h);exact⟨x,y,by simpa using h1,by simpa using h2,h3⟩
theorem yR:∀{xs ys zs:List T}{i:Nat}{t:T},(jJ xs ys zs)[i]?=oZ t->∃x y z,xs[i]?=oZ x/\ys[i]?=oZ y/\zs[i]?=oZ z/\t = .tup [x,y,z]
 |[],_,_,_,_,h=>by simp[jJ]at h
 |_::_,[],_,_,_,h=>by simp[jJ]at h
 |_::_,_::_,[],_,_,h=>by simp[jJ]at h
 |x::_,y::_,z::_,0,_,h=>by simp[jJ]at h;exact⟨x,y,z,rfl,rfl,rfl,h.symm⟩
 |_::xs,_::ys,_::zs,i+1,t,h=>by
  obtain⟨x,y,z,h1,h2,h3,h4⟩:=yR (xs:=xs) (ys:=ys) (zs:=zs) (i:=i) (t:=t) (by simpa[jJ]using h);exact⟨x,y,z,by simpa using h1,by simpa using h2,by simpa using h3,h4⟩
def So(κ:Bool)(xs:List T):T:=match κ with
 |true=>.tup xs
 |false=>.lst xs
theorem kC{K:W.Frag}{H:Hp}{O:VN->Prop}{κ:Bool}{xs:List T}{a:VN}(h:Rp K H O (So κ xs) (.ref a)):∃vs,Eo κ K H a vs/\cX K H O xs vs:=by
 cases κ
 ·obtain⟨a',vs,e,h1,h2⟩:=Rp.sqL h;cases e;exact⟨vs,h1,h2⟩
 ·obtain⟨a',vs,e,h1,h2⟩:=Rp.sqT h;cases e;exact⟨vs,h1,h2⟩
theorem Nj{K:W.Frag}{κ:Bool}{a b:VN}{xs ys:List T}:Es K (DQ K [(κ,a),(κ,b)]) (gZ xs ys) (λH O=>Rp K H O (So κ xs) (.ref a)/\Rp K H O (So κ ys) (.ref b)):=by
 refine⟨λH H' O O' k h=>⟨Rp.step k h.1,Rp.step k h.2⟩,λi H O h hi=>?_,λi H O x H' t h e hO y=>?_,λH O h=>?_⟩
 ·obtain⟨vs,s1,r1⟩:=kC h.1;obtain⟨ws,s2,r2⟩:=kC h.2;rw[jQ]at hi;intro p hp;simp only[NZ,QF,or_false]at hp;obtain rfl|rfl:=hp
  ·exact⟨vs,vs[i]'(by rw[r1.length];lia),s1,NW _⟩
  ·exact⟨ws,ws[i]'(by rw[r2.length];lia),s2,NW _⟩
 ·obtain⟨vs,s1,r1⟩:=kC h.1;obtain⟨ws,s2,r2⟩:=kC h.2;obtain⟨q,us,e1,hq,e2,lu,hu⟩:=y;subst e1;subst e2;obtain⟨t1,t2,g1,g2,rfl⟩:=pL e;obtain⟨v1,a1,b1⟩:=r1.get g1;obtain⟨v2,a2,b2⟩:=r2.get g2;obtain _|⟨u1,_|⟨u2,_|⟨_,_⟩⟩⟩:=us
  ·cases lu
  ·cases lu
  ·have z1:=hu 0 _ u1 rfl rfl vs s1;have z2:=hu 1 _ u2 rfl rfl ws s2;rw[a1]at z1;cases z1;rw[a2]at z2;cases z2;have k:Kp O O H (upd H q (.tup [v1,v2])):=Kp.upd hq;exact⟨k,λb o z=>by rw[bE (a8 z hq)];exact z,q,_,rfl,.inl ⟨λz=>hO q z hq,dP⟩,v1,_,rfl,b1.step k,v2,_,rfl,b2.step k,rfl⟩
  ·cases lu
 ·obtain⟨vs,s1,r1⟩:=kC h.1;obtain⟨ws,s2,r2⟩:=kC h.2;have l1:=r1.length;have l2:=r2.length;refine⟨λp hp=>?_,?_⟩
  ·simp only[NZ,QF,or_false]at hp;obtain rfl|rfl:=hp
   ·exact⟨vs,s1⟩
   ·exact⟨ws,s2⟩
  ·rw[jQ]
   by_cases c:xs.length<=ys.length
   ·exact⟨0,_,rfl,⟨vs,s1,⋯⟩,λj q hj=>absurd hj (SQ _)⟩
   ·refine⟨1,_,rfl,⟨ws,s2,⋯⟩,λj q hj hq=>?_⟩;obtain rfl:j=0:=⋯
    cases hq;exact⟨vs,vs[min xs.length ys.length]'⋯,s1,NW _⟩
theorem F7{K:W.Frag}{κ:Bool}{a b c:VN}{xs ys zs:List T}:Es K (DQ K [(κ,a),(κ,b),(κ,c)]) (jJ xs ys zs) (λH O=>Rp K H O (So κ xs) (.ref a)/\Rp K H O (So κ ys) (.ref b)/\Rp K H O (So κ zs) (.ref c)):=by
 refine⟨λH H' O O' k h=>⟨Rp.step k h.1,Rp.step k h.2.1,Rp.step k h.2.2⟩,λi H O h hi=>?_,λi H O x H' t h e hO y=>?_,λH O h=>?_⟩
 ·obtain⟨vs,s1,r1⟩:=kC h.1;obtain⟨ws,s2,r2⟩:=kC h.2.1;obtain⟨us,s3,r3⟩:=kC h.2.2;rw[pS]at hi;intro p hp;simp only[NZ,QF,or_false]at hp;obtain rfl|rfl|rfl:=hp
  ·exact⟨vs,vs[i]'(by rw[r1.length];lia),s1,NW _⟩
  ·exact⟨ws,ws[i]'(by rw[r2.length];lia),s2,NW _⟩
  ·exact⟨us,us[i]'(by rw[r3.length];lia),s3,NW _⟩
 ·obtain⟨vs,s1,r1⟩:=kC h.1;obtain⟨ws,s2,r2⟩:=kC h.2.1;obtain⟨ts,s3,r3⟩:=kC h.2.2;obtain⟨q,us,e1,hq,e2,lu,hu⟩:=y;subst e1;subst e2;obtain⟨t1,t2,t3,g1,g2,g3,rfl⟩:=yR e;obtain⟨v1,a1,b1⟩:=r1.get g1;obtain⟨v2,a2,b2⟩:=r2.get g2;obtain⟨v3,a3,b3⟩:=r3.get g3;obtain _|⟨u1,_|⟨u2,_|⟨u3,_|⟨_,_⟩⟩⟩⟩:=us
  ·cases lu
  ·cases lu
  ·cases lu
  ·have z1:=hu 0 _ u1 rfl rfl vs s1;have z2:=hu 1 _ u2 rfl rfl ws s2;have z3:=hu 2 _ u3 rfl rfl ts s3;rw[a1]at z1;cases z1;rw[a2]at z2;cases z2;rw[a3]at z3;cases z3;have k:Kp O O H (upd H q (.tup [v1,v2,v3])):=Kp.upd hq;exact⟨k,λb o z=>by rw[bE (a8 z hq)];exact z,q,_,rfl,.inl ⟨λz=>hO q z hq,dP⟩,v1,_,rfl,b1.step k,v2,_,rfl,b2.step k,v3,_,rfl,b3.step k,rfl⟩
  ·cases lu
 ·obtain⟨vs,s1,r1⟩:=kC h.1;obtain⟨ws,s2,r2⟩:=kC h.2.1;obtain⟨us,s3,r3⟩:=kC h.2.2;have l1:=r1.length;have l2:=r2.length;have l3:=r3.length;refine⟨λp hp=>?_,?_⟩
  ·simp only[NZ,QF,or_false]at hp;obtain rfl|rfl|rfl:=hp
   ·exact⟨vs,s1⟩
   ·exact⟨ws,s2⟩
   ·exact⟨us,s3⟩
  ·rw[pS]
   by_cases c1:xs.length<=min ys.length zs.length
   ·exact⟨0,_,rfl,⟨vs,s1,⋯⟩,λj q hj=>absurd hj (SQ _)⟩
   ·by_cases c2:ys.length<=zs.length
    ·refine⟨1,_,rfl,⟨ws,s2,⋯⟩,λj q hj hq=>?_⟩;obtain rfl:j=0:=⋯
     cases hq;exact⟨vs,vs[min xs.length (min ys.length zs.length)]'⋯,s1,NW _⟩
    ·refine⟨2,_,rfl,⟨us,s3,⋯⟩,λj q hj hq=>?_⟩;have:j=0\/j=1:=⋯
     obtain rfl|rfl:=this
     ·cases hq;exact⟨vs,vs[min xs.length (min ys.length zs.length)]'⋯,s1,NW _⟩
     ·cases hq;exact⟨ws,ws[min xs.length (min ys.length zs.length)]'⋯,s2,NW _⟩
section
variable{X:Cx}{K:W.Frag}{pos:Pos}{Fr:FA}
def NL(K:W.Frag)(ta:TA):TI:=λσ H R=>ta σ H λvs H1=>∃κ a b xs ys,vs=[.ref a,.ref b]/\Eo κ K H1 a xs/\Eo κ K H1 b ys/\R (DQ K [(κ,a),(κ,b)]) H1
def NM(K:W.Frag)(ta:TA):TI:=λσ H R=>ta σ H λvs H1=>∃a b c xs ys zs,vs=[.ref a,.ref b,.ref c]/\lZ K H1 a xs/\lZ K H1 b ys/\lZ K H1 c zs/\R (DQ K [(false,a),(false,b),(false,c)]) H1
theorem GR{x1}(hg:Gl X "zip")(hm:X.mg "zip" = none)(ha:QA X [l,r] ta)(hs:a9 l=false:=by rfl)(jc:a9 r=false:=by rfl):
  QI X (.Tuple elts x1 fi) (.Call (.Name "zip" p) [l,r] [] pos) (NL X.K ta):=⟨by
 intro pins s σ H R I h;refine Call_ (qO I hg hm boot_zip (PyProof.Rows.callWith_type1 (dQ (ha.h pos pins s σ H _ I h) λus s1⟨vs,H1,I1,r1,q1⟩=>?_) (cK hs) (fL (by simp only[bO,jc];rfl))));obtain⟨κ,a,b,xs,ys,rfl,ga,gb,q⟩:=q1;obtain⟨u,v,rfl,ru,rv⟩:=bA.two r1;cases ru;cases rv;obtain⟨ia,ra,qa⟩:=I1.sqK ga;obtain⟨ib,rb,qb⟩:=I1.sqK gb;have fin:∀h',XJ h' (s1.heap.objs.size+4) (s1.heap.objs.size+2) (s1.heap.objs.size+3) .none->IsPair h' (s1.heap.objs.size+2) (.ref s1.heap.objs.size) (.ref (s1.heap.objs.size+1))->IsPair h' (s1.heap.objs.size+3) .none .none->
   jS κ h' s1.heap.objs.size a 0->jS κ h' (s1.heap.objs.size+1) b 0->(∀c o,s1.heap.get? c=oZ o->h'.get? c=oZ o)->
   VP (VR X.prog X.w) X.A (pyIter (.ref (s1.heap.objs.size+4))) (JG X pins σ (.Tuple elts x1 fi) R) X.xe { s1 with heap:=h' }:=λh' z1 z2 z3 z4 z5 kp=>by
  refine wpAny_pyIter_zip z1 ?_;refine⟨s1.heap.objs.size+4,_,_,_,H1,rfl,I1.kept (t':=s1.toks) kp,Ba _ (s1.heap.objs.size+2) (s1.heap.objs.size+3) [(κ,a),(κ,b)] [s1.heap.objs.size,s1.heap.objs.size+1] rfl (by simp) (by simp) (NO _),⟨z1,z2,⟨_,z3,rfl⟩,λj pq it hp hit=>?_⟩,λc hc=>?_,q⟩
  ·match j,hp,hit with
   |0,hp,hit=>cases hp;cases hit;exact z4
   |1,hp,hit=>cases hp;cases hit;exact z5
  ·have hle:s1.heap.objs.size<=c:=NI hc;exact I1.fpOk hle (I1.hok.fresh hle)
 cases κ
 ·exact call_zip_2 qa qb λh' z1 z2 z3 z4 z5 _ kp=>fin h' z1 z2 z3 z4 z5 kp
 ·exact Qn qa qb λh' z1 z2 z3 z4 z5 kp=>fin h' z1 z2 z3 z4 z5 kp⟩
theorem IL(r:bA [x,y,z] us):∃u v w,us=[u,v,w]/\bN x u/\bN y v/\bN z w:=by
 cases r with
 |cons a r=>cases r with
  |cons b r=>cases r with
   |cons c r=>cases r;exact⟨_,_,_,rfl,a,b,c⟩
theorem GS{x1}(hg:Gl X "zip")(hm:X.mg "zip" = none)(ha:QA X [l,r,t] ta)(hs:a9 l=false:=by rfl)(jc:a9 r=false:=by rfl)(rk:a9 t=false:=by rfl):
  QI X (.Tuple elts x1 fi) (.Call (.Name "zip" p) [l,r,t] [] pos) (NM X.K ta):=⟨by
 intro pins s σ H R I h;refine Call_ (qO I hg hm boot_zip (PyProof.Rows.callWith_type1 (dQ (ha.h pos pins s σ H _ I h) λus s1⟨vs,H1,I1,r1,q1⟩=>?_) (cK hs) (fL (by simp only[bO,jc,rk];rfl))));obtain⟨a,b,c,xs,ys,zs,rfl,ga,gb,gc,q⟩:=q1;obtain⟨u,v,w,rfl,ru,rv,mr⟩:=IL r1;cases ru;cases rv;cases mr;obtain⟨ia,ra,qa,_⟩:=I1.list ga;obtain⟨ib,rb,qb,_⟩:=I1.list gb;obtain⟨ic,rc,qc',_⟩:=I1.list gc;refine Qm qa.isList qb.isList qc'.isList λh' z1 z2 z3 z4 z5 z6 kp=>?_;refine wpAny_pyIter_zip z1 ?_;have ge6:∀{d:VN},d∈[s1.heap.objs.size+5,s1.heap.objs.size+3,s1.heap.objs.size+4,s1.heap.objs.size,s1.heap.objs.size+1,s1.heap.objs.size+2]->s1.heap.objs.size<=d:=λ{d}h=>by
  simp only[NZ,QF,or_false]at h;rcases h with h|h|h|h|h|h<;>rw[h]<;>first|exact OF _|exact Nat.le_add_right _ _
 refine⟨s1.heap.objs.size+5,_,_,_,H1,rfl,I1.kept (t':=s1.toks) kp,Ba _ (s1.heap.objs.size+3) (s1.heap.objs.size+4) [(false,a),(false,b),(false,c)] [s1.heap.objs.size,s1.heap.objs.size+1,s1.heap.objs.size+2] rfl (by simp) (by simp) (by
  have nd6:∀n:Nat,[n+5,n+3,n+4,n,n+1,n+2].Nodup:=λn=>by
   simp only[QX,NZ,QF,or_false,not_or,VI,and_true,not_false_eq_true]
   lia
  exact nd6 _),⟨z1,z2,⟨_,z3,rfl⟩,λj pq it hp hit=>?_⟩,λd hd=>?_,q⟩
 ·match j,hp,hit with
  |0,hp,hit=>cases hp;cases hit;exact z4
  |1,hp,hit=>cases hp;cases hit;exact z5
  |2,hp,hit=>cases hp;cases hit;exact z6
 ·exact I1.fpOk (ge6 hd) (I1.hok.fresh (ge6 hd))⟩
def FJ(Fr:FA):FI:=λE Q=>Fr E λrs E1=>match rs with
 |[x,y]=>(match vl E1 x,vl E1 y with
  |some (.lst xs),oZ (.lst ys)=>Q (gZ xs ys) (pX E1 x++pX E1 y) E1
  |some (.tup xs),oZ (.tup ys)=>Q (gZ xs ys) (pX E1 x++pX E1 y) E1
  |_,_=>False)
 |_=>False
def FK(Fr:FA):FI:=λE Q=>Fr E λrs E1=>match rs with
 |[x,y,z]=>(match vl E1 x,vl E1 y,vl E1 z with
  |some (.lst xs),oZ (.lst ys),oZ (.lst zs)=>Q (jJ xs ys zs) (pX E1 x++pX E1 y++pX E1 z) E1
  |_,_,_=>False)
 |_=>False
theorem Bz{x1}(eK:X.K=K)(hg:Gl X "zip")(hm:X.mg "zip" = none)(ha:QA X [l,r] (dA K n Fr))(hs:a9 l=false:=by rfl)(jc:a9 r=false:=by rfl):
  QI X (.Tuple elts x1 fi) (.Call (.Name "zip" p) [l,r] [] pos) (mR K (FJ Fr)):=by
 subst eK;refine(GR hg hm ha hs jc).le λσ H R hn⟨B,S,E,Q',hS,re,hF,lk⟩=>⟨B,S,E,_,hS,re,hF,λrs E1 vs H1 S1 q g YI rr hn=>?_⟩;obtain _|⟨x,_|⟨y,_|⟨_,_⟩⟩⟩:=rs
 ·exact False.elim q
 ·exact False.elim q
 ·obtain⟨v,ws,e1,h1,u,mz,e2,h2,h3⟩:=rr;cases h3;subst e2;subst e1;have own:∀j∈pX E1 x++pX E1 y,∃k xs,E1[j]?=oZ (oZ (U.o k xs)):=λj hj=>by
   obtain h|h:=OZ.mp hj
   ·exact mV j h
   ·exact mV j h
  simp only at q;split at q
  ·rename_i xs ys e1 e2;obtain⟨a,vs,e3,sq1,r1⟩:=YI.vl h1 e1;obtain⟨b,us,e4,xh,r2⟩:=YI.vl h2 e2;refine⟨false,a,b,vs,us,by rw[e3,e4],sq1,xh,lk _ _ _ _ _ _ _ q g YI Nj own λO k1 k2=>?_⟩;rw[<-e3,<-e4];exact⟨oP YI h1 e1 O k1 λj hj=>k2 j (by simp[hj]),oP YI h2 e2 O k1 λj hj=>k2 j (by simp[hj])⟩
  ·rename_i xs ys e1 e2;obtain⟨a,vs,e3,sq1,r1⟩:=YI.vl h1 e1;obtain⟨b,us,e4,xh,r2⟩:=YI.vl h2 e2;refine⟨true,a,b,vs,us,by rw[e3,e4],sq1,xh,lk _ _ _ _ _ _ _ q g YI Nj own λO k1 k2=>?_⟩;rw[<-e3,<-e4];exact⟨oP YI h1 e1 O k1 λj hj=>k2 j (by simp[hj]),oP YI h2 e2 O k1 λj hj=>k2 j (by simp[hj])⟩
  ·exact q.elim
 ·exact False.elim q
theorem F0{x1}(eK:X.K=K)(hg:Gl X "zip")(hm:X.mg "zip" = none)(ha:QA X [l,r,t] (dA K n Fr))(hs:a9 l=false:=by rfl)(jc:a9 r=false:=by rfl)(rk:a9 t=false:=by rfl):
  QI X (.Tuple elts x1 fi) (.Call (.Name "zip" p) [l,r,t] [] pos) (mR K (FK Fr)):=by
 subst eK;refine(GS hg hm ha hs jc rk).le λσ H R hn⟨B,S,E,Q',hS,re,hF,lk⟩=>⟨B,S,E,_,hS,re,hF,λrs E1 vs H1 S1 q g YI rr hn=>?_⟩;obtain _|⟨x,_|⟨y,_|⟨z,_|⟨_,_⟩⟩⟩⟩:=rs
 ·exact False.elim q
 ·exact False.elim q
 ·exact False.elim q
 ·obtain⟨v,ws,e1,h1,u,mz,e2,h2,v',aGW,e3,h3,h4⟩:=rr;cases h4;subst e3;subst e2;subst e1;have own:∀j∈pX E1 x++pX E1 y++pX E1 z,∃k xs,E1[j]?=oZ (oZ (U.o k xs)):=λj hj=>by
   obtain h|h:=OZ.mp hj
   ·obtain h|h:=OZ.mp h
    ·exact mV j h
    ·exact mV j h
   ·exact mV j h
  simp only at q;split at q
  ·rename_i xs ys zs e1 e2 e3;obtain⟨a,vs,f1,sq1,r1⟩:=YI.vl h1 e1;obtain⟨b,us,f2,xh,r2⟩:=YI.vl h2 e2;obtain⟨c,ts,f3,sq3,r3⟩:=YI.vl h3 e3;refine⟨a,b,c,vs,us,ts,by rw[f1,f2,f3],sq1,xh,sq3,lk _ _ _ _ _ _ _ q g YI F7 own λO k1 k2=>?_⟩;rw[<-f1,<-f2,<-f3];exact⟨oP YI h1 e1 O k1 λj hj=>k2 j (by simp[hj]),oP YI h2 e2 O k1 λj hj=>k2 j (by simp[hj]),oP YI h3 e3 O k1 λj hj=>k2 j (by simp[hj])⟩
  ·exact q.elim
 ·exact False.elim q
end
end L2
namespace My
open PySem L2 PyProof.Rows
abbrev oG:List Str:=["one","other"]
abbrev oH:List Str:=["_law_one","_law_other"]
abbrev oI:List Str:=["path","number"]
abbrev oJ:List Str:=["path","far","steps","is_least"]
abbrev oK:List Str:=["path","number","far","steps"]
abbrev oM:List Str:=["_law_box_here","_law_most"]
theorem Gp(x y:Nat):PJ y (x%y)=PJ x y:=by
 rw[TY x y,Nat.gcd_rec y x,TY]
def sF(n d:Int):Int:=(if 0<d then n else -n)/((PJ n.natAbs d.natAbs:Nat):Int)
def nW(n d:Int):Int:=(if 0<d then d else -d)/((PJ n.natAbs d.natAbs:Nat):Int)
theorem Gx{n d:Int}(hd:0<d)(hg:g=PJ n.natAbs d.natAbs):(n/(g:Int)).natAbs<=n.natAbs/\1<=d/(g:Int)/\d/(g:Int)<=d/\PJ (n/(g:Int)).natAbs (d/(g:Int)).natAbs=1:=by
 have g0:0<g:=by rw[hg];exact SV _ ⋯
 have dn:(g:Int)∣n:=by rw[hg];exact RD.mpr (SM _ _)
 have dd:(g:Int)∣d:=by rw[hg];exact RD.mpr (SI _ _)
 have en:(n/(g:Int)).natAbs=n.natAbs/g:=by rw[Int.natAbs_ediv_of_dvd dn];simp
 have ed:(d/(g:Int)).natAbs=d.natAbs/g:=by rw[Int.natAbs_ediv_of_dvd dd];simp
 refine⟨by rw[en];exact Nat.div_le_self _ _,?_,?_,?_⟩
 ·obtain⟨k,hk⟩:=dd;have hg':(0:Int)<g:=⋯
  rw[hk,QV _ ⋯];obtain h|h:=UM 0 k
  ·lia
  ·have:(g:Int)*k<=0:=Int.mul_nonpos_of_nonneg_of_nonpos ⋯ h
   lia
 ·exact Int.ediv_le_self _ ⋯
 ·rw[en,ed,Nat.gcd_div (by rw[hg];exact SM _ _) (by rw[hg];exact SI _ _),<-hg,Nat.div_self g0]
theorem jN{n d:Int}(hd:d≠0):(sF n d).natAbs<=n.natAbs/\1<=nW n d/\nW n d<=d.natAbs/\PJ (sF n d).natAbs (nW n d).natAbs=1:=by
 unfold sF nW
 by_cases h:0<d
 ·rw[oV h,oV h];have:=Gx (n:=n) (d:=d) h rfl;refine⟨this.1,this.2.1,?_,this.2.2.2⟩;have:=this.2.2.1
  lia
 ·rw[oW h,oW h];have h':0 < -d:=⋯
  have:=Gx (n:=-n) (d:=-d) h' rfl;simp only[TB]at this;refine⟨this.1,this.2.1,?_,this.2.2.2⟩;have:=this.2.2.1
  lia
abbrev Fr:=Int×Int
structure bF(p:Fr):Prop where
 d:1<=p.2
 g:PJ p.1.natAbs p.2.natAbs=1
def fY(n d:Int):Fr:=(sF n d,nW n d)
def aV(p q:Fr):Fr:=fY (p.1*q.2+q.1*p.2) (p.2*q.2)
def aS(p q:Fr):Fr:=fY (p.1*q.2-q.1*p.2) (p.2*q.2)
def aH(p q:Fr):Fr:=fY (p.1*q.1) (p.2*q.2)
def bX(p q:Fr):Fr:=fY (p.1*q.2) (p.2*q.1)
def aN(p:Fr):Fr:=(-p.1,p.2)
def val(p:Fr):Rat:=(p.1:Rat)/(p.2:Rat)
theorem gK{n d:Int}(hd:d≠0):bF (fY n d):=⟨(jN hd).2.1,(jN hd).2.2.2⟩
theorem Ag{n d:Int}(hd:d≠0):sF n d*d=n*nW n d:=by
 have dn:((PJ n.natAbs d.natAbs:Nat):Int)∣n:=RD.mpr (SM _ _);have dd:((PJ n.natAbs d.natAbs:Nat):Int)∣d:=RD.mpr (SI _ _);have g0:((PJ n.natAbs d.natAbs:Nat):Int)≠0:=by
  have:=SV n.natAbs (show 0<d.natAbs by lia)
  lia
 unfold sF nW;generalize((PJ n.natAbs d.natAbs:Nat):Int)=g at dn dd g0;obtain⟨k,hk⟩:=dn;obtain⟨m,hm⟩:=dd
 by_cases h:0<d
 ·rw[oV h,oV h,hk,hm,QV _ g0,QV _ g0];grind
 ·rw[oW h,oW h,hk,hm,<-Int.mul_neg,<-Int.mul_neg,QV _ g0,QV _ g0];grind
theorem eT{n d:Int}(hd:d≠0):val (fY n d)=(n:Rat)/(d:Rat):=by
 have h:=Ag (n:=n) hd;have h1:=(jN (n:=n) hd).2.1;have a1:((nW n d:Int):Rat)≠0:=by
  have:nW n d≠0:=⋯
  exact_mod_cast this
 have a2:(d:Rat)≠0:=by exact_mod_cast hd
 have h':((sF n d:Int):Rat)*(d:Rat)=(n:Rat)*((nW n d:Int):Rat):=by exact_mod_cast h
 show((sF n d:Int):Rat)/((nW n d:Int):Rat)=(n:Rat)/(d:Rat);grind
theorem bF.ne(h:bF p):p.2≠0:=by have:=h.d;lia
theorem bF.neR(h:bF p):(p.2:Rat)≠0:=by have:=h.ne;exact_mod_cast this
theorem d9(hp:bF p)(hq:bF q):p.2*q.2≠0:=SR hp.ne hq.ne
theorem a7(hp:bF p)(hq:bF q):val (aV p q)=val p+val q:=by
 have h1:=hp.neR;have h2:=hq.neR;unfold aV;rw[eT (d9 hp hq)];unfold val
 push_cast
 grind
theorem bQ(hp:bF p)(hq:bF q):val (aS p q)=val p-val q:=by
 have h1:=hp.neR;have h2:=hq.neR;unfold aS;rw[eT (d9 hp hq)];unfold val
 push_cast
 grind
theorem aR(hp:bF p)(hq:bF q):val (aH p q)=val p*val q:=by
 have h1:=hp.neR;have h2:=hq.neR;unfold aH;rw[eT (d9 hp hq)];unfold val
 push_cast
 grind
theorem bC(hp:bF p):val (aN p) = - val p:=by
 have h1:=hp.neR;show((-p.1:Int):Rat)/(p.2:Rat) = - ((p.1:Rat)/(p.2:Rat))
 push_cast
 grind
theorem cI(hp:bF p)(hq:bF q):bF (aV p q):=gK (d9 hp hq)
theorem dB(hp:bF p)(hq:bF q):bF (aS p q):=gK (d9 hp hq)
theorem aK(hp:bF p)(hq:bF q):bF (aH p q):=gK (d9 hp hq)
theorem eQ(hp:bF p):bF (aN p):=⟨hp.d,by show PJ (-p.1).natAbs p.2.natAbs=1;rw[TB];exact hp.g⟩
theorem aO(n:Int):bF (n,1):=⟨by show(1:Int)<=1;decide,by simp⟩
theorem b8(hp:bF p)(hq:bF q)(h:val p=val q):p=q:=by
 have h1:=hp.neR;have h2:=hq.neR;have e:p.1*q.2=q.1*p.2:=by
  unfold val at h;have h':(p.1:Rat)*q.2=q.1*p.2:=by grind
  exact_mod_cast h'
 have en:p.1.natAbs*q.2.natAbs=q.1.natAbs*p.2.natAbs:=by rw[<-PN,<-PN,e]
 have d1:p.2.natAbs∣q.2.natAbs:=by
  have:p.2.natAbs∣p.1.natAbs*q.2.natAbs:=by rw[en];exact Nat.dvd_mul_left _ _
  exact Nat.Coprime.dvd_of_dvd_mul_left (show SN p.2.natAbs p.1.natAbs by unfold SN;rw[TY];exact hp.g) this
 have d2:q.2.natAbs∣p.2.natAbs:=by
  have:q.2.natAbs∣q.1.natAbs*p.2.natAbs:=by rw[<-en];exact Nat.dvd_mul_left _ _
  exact Nat.Coprime.dvd_of_dvd_mul_left (show SN q.2.natAbs q.1.natAbs by unfold SN;rw[TY];exact hq.g) this
 have ed:p.2.natAbs=q.2.natAbs:=Nat.dvd_antisymm d1 d2;have ed':p.2=q.2:=by have:=hp.d;have:=hq.d;lia
 have e2:p.1=q.1:=by
  rw[ed']at e;exact Int.eq_of_mul_eq_mul_right hq.ne e
 exact Prod.ext e2 ed'
theorem tK(h:x<2^e)(he:e<=8000):x<2^8000:=OI h (PU ∅ he)
theorem bI{x y:Int}(hx:x.natAbs<2^e)(hy:y.natAbs<2^f):(x*y).natAbs<2^(e+f):=by
 rw[PN,Nat.pow_add];exact UN hx hy
theorem pM{x y:Int}(hx:x.natAbs<2^e)(hy:y.natAbs<2^e):(x+y).natAbs<2^(e+1):=by
 have:=Int.natAbs_add_le x y;rw[Nat.pow_succ]
 lia
theorem Ef{x y:Int}(hx:x.natAbs<2^e)(hy:y.natAbs<2^e):(x-y).natAbs<2^(e+1):=by
 rw[Int.sub_eq_add_neg];exact pM hx (by rw[TB];exact hy)
theorem lL(hp:bF p)(hq:bF q)(h:q.1≠0):val (bX p q)=val p/val q:=by
 have h1:=hp.neR;have h2:=hq.neR;have h3:(q.1:Rat)≠0:=by exact_mod_cast h
 unfold bX;rw[eT (SR hp.ne h)];unfold val
 push_cast
 grind
theorem j8(hp:bF p)(h:q.1≠0):bF (bX p q):=gK (SR hp.ne h)
def sz(p:Fr):Nat:=Nat.max (UO p.1.natAbs) (UO p.2.natAbs)+1
theorem dN(p:Fr):p.1.natAbs<2^sz p:=OI UP (PU ∅ (UK (Nat.le_max_left _ _)))
theorem bW(p:Fr):p.2.natAbs<2^sz p:=OI UP (PU ∅ (UK (Nat.le_max_right _ _)))
theorem Vp(h:n<2^e)(he:1<=e):UO n+1<=e:=by
 by_cases c:n=0
 ·subst c;have:UO 0=0:=by simp
  lia
 ·exact(TL c).mpr h
theorem pI(h1:p.1.natAbs<2^e)(h2:p.2.natAbs<2^e)(he:1<=e):sz p<=e:=by
 have a:=Vp h1 he;have b:=Vp h2 he;unfold sz;have:Nat.max (UO p.1.natAbs) (UO p.2.natAbs)<=e-1:=Nat.max_le.mpr ⟨⋯,⋯⟩
 lia
theorem Ly(p:Fr):1<=sz p:=by unfold sz;lia
theorem mS{n d:Int}(hd:d≠0)(h1:n.natAbs<2^e)(h2:d.natAbs<2^e)(he:1<=e):sz (fY n d)<=e:=by
 have lf:=jN (n:=n) hd;refine pI (PL lf.1 h1) ?_ he;show(nW n d).natAbs<2^e
 lia
theorem gV(hp:bF p)(hq:bF q):sz (aV p q)<=sz p+sz q+1:=
 mS (d9 hp hq) (pM (bI (dN p) (bW q)) (by rw[RX];exact bI (dN q) (bW p))) (OI (bI (bW p) (bW q)) (PU ∅ ⋯)) ⋯
theorem mT(hp:bF p)(hq:bF q):sz (aS p q)<=sz p+sz q+1:=
 mS (d9 hp hq) (Ef (bI (dN p) (bW q)) (by rw[RX];exact bI (dN q) (bW p))) (OI (bI (bW p) (bW q)) (PU ∅ ⋯)) ⋯
theorem cC(hp:bF p)(hq:bF q):sz (aH p q)<=sz p+sz q:=
 mS (d9 hp hq) (bI (dN p) (dN q)) (bI (bW p) (bW q)) (by have:=Ly p;lia)
theorem pR(hp:bF p)(h:q.1≠0):sz (bX p q)<=sz p+sz q:=
 mS (SR hp.ne h) (bI (dN p) (bW q)) (bI (bW p) (dN q)) (by have:=Ly p;lia)
theorem pJ(p:Fr):sz (aN p)=sz p:=by unfold sz aN;simp
theorem cZ(W:Nat->En->Prop)(h0:W 0 E)(hs:∀i x rest E,items[i]?=oZ x->W i E->(∀E',W (i+1) E'->hJ g F D rest E')->hJ g F D (x::rest) E)(hd:∀E,W items.length E->D.nx E):hJ g F D items E:=by
 have eN:∀n i E,items.length-i=n->i<=items.length->W i E->hJ g F D (items.drop i) E:=by
  intro n
  induction n with
  |zero=>
   intro i E e hi h;obtain rfl:i=items.length:=⋯
   rw[RY];exact hd E h
  |succ n ih=>
   intro i E e hi h;have ag:i<items.length:=⋯
   rw[QM ag];exact hs i _ _ E (NW ag) h λE' h'=>ih (i+1) E' ⋯ ⋯ h'
 exact eN _ 0 E rfl (OG _) h0
theorem cY{Q:En->Prop}(W:Nat->En->Prop)(h0:W 0 E)(hs:∀i x rest E,items[i]?=oZ x->W i E->(∀E',W (i+1) E'->lD g Fe rest E' Q)->lD g Fe (x::rest) E Q)(hd:∀E,W items.length E->Q E):lD g Fe items E Q:=by
 have eN:∀n i E,items.length-i=n->i<=items.length->W i E->lD g Fe (items.drop i) E Q:=by
  intro n
  induction n with
  |zero=>
   intro i E e hi h;obtain rfl:i=items.length:=⋯
   rw[RY];exact hd E h
  |succ n ih=>
   intro i E e hi h;have ag:i<items.length:=⋯
   rw[QM ag];exact hs i _ _ E (NW ag) h λE' h'=>ih (i+1) E' ⋯ ⋯ h'
 exact eN _ 0 E rfl (OG _) h0
def fr(p:Fr):T:=.tup [.int p.1,.int p.2]
def vc(x y:Fr):T:=.tup [fr x,fr y]
theorem Mx(p q:Fr):dX (fr p) (fr q)=decide (p=q):=by
 rw[VA];simp[fr,L2.dX,L2.wV,Prod.ext_iff]
theorem Gd(x y x' y':Fr):dX (vc x y) (vc x' y')=decide (x=x'/\y=y'):=by
 rw[VA];simp[vc,L2.dX,L2.wV,Mx]
def zH(i j:Int):Prop:=Mh i j\/A8 i j
theorem aZ:m4 X (WG .Mult) (rI zH λi j=>.int (i*j)):=by
 intro pins s σ H x y v u Q I rx ry h;obtain⟨i,j,e1,e2,hc,q⟩:=h;obtain hc|hc:=hc
 ·exact J3 pins s σ H x y v u Q I rx ry ⟨i,j,e1,e2,hc,q⟩
 ·exact AX pins s σ H x y v u Q I rx ry ⟨i,j,e1,e2,hc,q⟩
theorem j6{i j:Int}(h1:i.natAbs<2^e)(h2:j.natAbs<2^e)(he:e<=8000):zH i j:=.inl ⟨tK h1 he,tK h2 he⟩
theorem Ke{i j:Int}(h1:i.natAbs<2^60):zH i j:=.inr (.inl ⋯)
theorem Ha{i j:Int}(h1:j.natAbs<2^60):zH i j:=.inr (.inr ⋯)
structure Txt(mg:Str->Option oA):Prop where
 n_isinstance:mg "isinstance" = none
 n_abs:mg "abs" = none
 n_divmod:mg "divmod" = none
 n_min:mg "min" = none
 n_max:mg "max" = none
 n_all:mg "all" = none
 n_len:mg "len" = none
 n_int:mg "int" = none
 n_bool:mg "bool" = none
 n_tuple:mg "tuple" = none
 n_list:mg "list" = none
 n_str:mg "str" = none
 n_range:mg "range" = none
 n_enumerate:mg "enumerate" = none
 n_zip:mg "zip" = none
structure mW(mg:Str->Option oA)(K:W.Frag)(x:Str)(t:L2.T):Prop where
 ex:∃a,mg x=oZ (.ref a)/\∀H O,Rp K H O t (.ref a)
theorem iQ{X:Cx}{K:W.Frag}{x:Str}{t:L2.T}{pos:Pos}(hg:Gl X x)(c:mW X.mg K x t)(hd:(x==("__debug__":Str))=false:=by decide):QE X (.Name x pos) (aI K (fC t)):=by
 obtain⟨a,h1,h2⟩:=c.ex;exact QE.le (t:=tC (.ref a)) ⟨Od (v:=.ref a) hg h1 rfl hd⟩ λσ H Q hl zZ=>by obtain⟨B,S,E,Q',hS,re,hF,lk⟩:=zZ;exact lk _ _ _ _ _ hF .refl re (h2 _ _)
theorem l7{K:W.Frag}{i j:Int}(h:K.lookup a=oZ ⟨.type "tuple",od,.seq #[.int i t,.int j u] n,sl⟩)(H:Hp)(O:VN->Prop):Rp K H O (.tup [.int i,.int j]) (.ref a):=
 ⟨a,[.int i,.int j],rfl,.inr ⟨_,_,n,h,rfl,rfl,by show 2<=VW;decide,.cons ⟨t,rfl⟩ (.cons ⟨u,rfl⟩ .nil)⟩,_,_,rfl,rfl,_,_,rfl,rfl,rfl⟩
section
variable{X:Cx}{K:W.Frag}{e:oC}{te:TE}{st:Option oC}{ts:TO}{pos p2:Pos}{Fa:FE}{G:FO}
def U6(K:W.Frag)(te:TE)(ts:TO):TE:=λσ H Q=>te σ H λx H1=>ts σ H1 λk H2=>k=oZ (-1)/\∃a xs,x = .ref a/\lZ K H2 a xs/\∀p,H2 p=none->Q (.ref p) (upd H2 p (.lst xs.reverse))
theorem K2(he:PE X e te)(hk:PO X st ts)(hop:∀a b,∃ops,XH (.Slice none none st p2) false a b=operate ops (XA a b)):PE X (.Subscript e (.Slice none none st p2) pos) (U6 X.K te ts):=by
 intro pins s σ H Q I h;refine Subscript_ (dQ (he pins s σ H _ I h) λv s1 zZ=>?_);obtain⟨x,H1,I1,r1,q1⟩:=zZ;refine wpAny_Slice ?_;rw[evalPart_none];refine VV ?_;refine VV ?_;refine dQ (hk pins s1 σ H1 _ I1 q1) λvk s2 zZ=>?_;obtain⟨k,H2,I2,pk,q2⟩:=zZ;obtain⟨rfl,a,xs,rfl,hx,q⟩:=q2;have I4:aU X pins σ H2 { s2 with heap:=s2.heap.push { cls:=.type "slice",data:=.fields #[.none,.none,vk] } }:=I2.kept (t':=s2.toks) λb ob q=>OA _ q;cases r1;obtain⟨XX,r,ht,hz⟩:=I4.list hx;have hlen:=r.length;have hg:VP (VR X.prog X.w) X.A (XA (.ref a) (.ref s2.heap.objs.size)) (EP X pins σ Q) X.xe { s2 with heap:=s2.heap.push { cls:=.type "slice",data:=.fields #[.none,.none,vk] } }:=by
  refine wpAny_getItem_list_slice ht.isList (Heap.IsSliceOf.new ..) .none .none pk ∅ ?_ (by rw[OJ]<;>lia);rw[W.krv_pick];refine⟨.ref _,_,I4.laid (t':=s2.toks) (o:=.lst xs.reverse) (λb ob q=>OA _ q) (OF _) ?_,rfl,q _ (I4.hok.fresh (OF _))⟩;exact⟨by rw[List.length_reverse];exact hz,_,0,r.reverse,OL _ rfl⟩
 obtain⟨ops,ho⟩:=hop (.ref a) (.ref s2.heap.objs.size);exact tail_any (ops:=ops) ht.isList.typeIs slot_list_getitem.lookup hg ho
def KW(Fa:FE)(G:FO):FE:=λE Q=>Fa E λx E1=>G E1 λk E2=>k=oZ (-1)/\match vl E2 x with
 |some (.lst xs)=>Q (.s E2.length) (E2++[↥xs.reverse])
 |_=>False
theorem E8(eK:X.K=K)(he:QE X e (aI K Fa))(hk:QO X st (Ih K G))(hop:∀a b,∃ops,XH (.Slice none none st p2) false a b=operate ops (XA a b):=by exactλ_ _=>⟨_,by with_unfolding_all rfl⟩):QE X (.Subscript e (.Slice none none st p2) pos) (aI K (KW Fa G)):=by
 subst eK;refine QE.le (t:=U6 X.K (aI X.K Fa) (Ih X.K G)) ⟨K2 he.h hk.h hop⟩ λσ H Q _⟨B,S,E,Q',⟨τ,hS⟩,re,hF,lk⟩=>⟨B,S,E,_,⟨τ,hS⟩,re,hF,λx E1 v H1 S1 q g1 YI rx=>?_⟩;obtain⟨τ1,df⟩:=g1.pre;refine⟨B,S1,E1,_,⟨τ++τ1,by rw[df,hS,OM]⟩,YI,q,λl E2 H2 S2 q2 g2 ZX=>?_⟩;have rx2:=rx.step g2;obtain⟨hk1,q2⟩:=q2;refine⟨hk1,?_⟩;split at q2
 ·rename_i xs e1;obtain⟨a,vs,e2,sq,rs⟩:=ZX.vl rx2 e1;refine⟨a,vs,e2,sq,λp hp=>?_⟩;obtain⟨g,YG⟩:=ZX.lst hp rs.reverse;exact lk _ _ _ _ _ q2 ((g1.trans g2).trans g) YG (by rw[<-ZX.len];exact lE)
 ·exact q2.elim
end
end My
namespace L2
open PySem PySem.Spec PyProof.Rows
def LL:En->Bool
 |[]=>true
 |some (.o false _)::_=>false
 |_::E=>LL E
section
variable{K:W.Frag}{B:VN->Prop}{H H':Hp}{S S':St}{E E':En}{σ:St}
def uX(E:En):List R->Option (List T×En)
 |[]=>oZ ([],E)
 |.p t::rs=>(uX E rs).map λz=>(t::z.1,z.2)
 |.s i::rs=>match E[i]? with
  |some (↥xs)=>(uX (E.set i (⇑(.lst xs))) rs).map λz=>(.lst xs::z.1,z.2)
  |some (⇑t)=>(uX E rs).map λz=>(t::z.1,z.2)
  |_=>none
theorem sC:∀{rs:List R}{vs:List V}{E:En}{z:List T×En},RE K B H S E->Qd K B H S E rs vs->uX E rs=oZ z->RE K B H S z.2/\(∀b,Ow B S z.2 b->Ow B S E b)/\cX K H (Ow B S z.2) z.1 vs
 |[],vs,E,z,re,h,e=>by cases e;exact⟨re,λb z=>z,h⟩
 |.p t::rs,_,E,z,re,⟨v,ws,e1,h1,h2⟩,e=>by
  cases q:uX E rs with
  |none=>rw[uX,q]at e;cases e
  |some y=>
   rw[uX,q]at e;cases e;obtain⟨r1,r2,r3⟩:=sC re h2 q;exact⟨r1,r2,v,ws,e1,Rp.step (Kp.less r2) h1,r3⟩
 |.s i::rs,_,E,z,re,⟨v,ws,e1,h1,h2⟩,e=>by
  unfold uX at e;split at e
  ·rename_i xs hE;obtain⟨ref,of⟩:=re.frz hE;cases q:uX (E.set i (⇑(.lst xs))) rs with
   |none=>rw[q]at e;cases e
   |some y=>
    rw[q]at e;cases e;have we:Qd K B H S (E.set i (⇑(.lst xs))) rs ws:=Qd.step ⟨Kp.less λb z=>(of b z).1,[],by simp⟩ h2;obtain⟨r1,r2,r3⟩:=sC ref we q;have hi:i<E.length:=(NV.mp hE).1;obtain⟨w,p1,p2⟩:=ref.pure i (.lst xs) (by rw[OV hi]);have h1:S[i]?=oZ (oZ v):=h1;rw[h1]at p1;cases p1;exact⟨r1,λb z=>(of b (r2 b z)).1,v,ws,e1,Rp.step (Kp.less r2) p2,r3⟩
  ·rename_i t hE;cases q:uX E rs with
   |none=>rw[q]at e;cases e
   |some y=>
    rw[q]at e;cases e;obtain⟨r1,r2,r3⟩:=sC re h2 q;obtain⟨w,p1,p2⟩:=re.pure i t hE;have h1:S[i]?=oZ (oZ v):=h1;rw[h1]at p1;cases p1;exact⟨r1,r2,v,ws,e1,Rp.step (Kp.less r2) p2,r3⟩
  ·cases e
end
section
variable{X:Cx}{K:W.Frag}{pos:Pos}{es:List oC}{Fr:FA}
def EX(Fr:FA):FE:=λE Q=>Fr E λrs E1=>o1 (uX E1 rs) λz=>Q (.p (.tup z.1)) z.2
theorem By{x1}(h:QA X es (dA K n Fr))(hz:n<=9000:=by decide):QE X (.Tuple es x1 pos) (aI K (EX Fr)):=by
 refine(Xe h).le λσ H Q hl h=>args (Fr:=Fr) h λB S E rs vs H2 Q' hS re rr hn q lk=>⟨by rw[hn];exact PK (b9 hz),λp hp=>?_⟩;obtain⟨z,e,q⟩:=q.ex;obtain⟨YI,ow1,rs1⟩:=sC re rr e;obtain⟨g,YG,rp⟩:=YI.tup hp rs1;exact lk _ _ _ _ _ q (Gr.trans ⟨Kp.less ow1,[],by simp⟩ g) YG rp
end
section
variable{X:Cx}{e:oC}{es:List oC}{pos:Pos}{K:W.Frag}{Fr:FA}
theorem Qk(hc:X.calm=true):jR X (.builtin "max") (λxs H Q=>∃a b:Int,xs=[.int a,.int b]/\Q (.int (if a<b then b else a)) H):=by
 intro pins s σ H xs us Q I r h;obtain⟨a,b,rfl,q⟩:=h;obtain⟨u,v,rfl,rx,ry⟩:=bA.two r;obtain⟨t,rfl⟩:=rx;obtain⟨t',rfl⟩:=ry;refine max_two_ints (I.ok.hd hc) λh' tk hk=>?_
 by_cases c:a<b
 ·simp only[oV c]at q⊢;exact⟨.int b,H,I.kept hk,⟨_,rfl⟩,q⟩
 ·simp only[oW c]at q⊢;exact⟨.int a,H,I.kept hk,⟨_,rfl⟩,q⟩
def KP(Fr:FA):FE:=λE Q=>Fr E λrs E1=>match rs with
 |[x,y]=>i2 (vl E1 x) (vl E1 y) λi j=>Q (.p (.int (if i<j then j else i))) E1
 |_=>False
theorem Y1(hc:X.calm=true)(hg:Gl X "max")(hm:X.mg "max" = none)(ha:QA X (e::es) (dA K n Fr))(hs:bO (e::es)=true:=by rfl):QE X (.Call (.Name "max" p) (e::es) [] pos) (aI K (KP Fr)):=by
 refine(jP (Qk hc) hg hm boot_max ha ∅ ∅ hs).le λσ H Q hl h=>args (Fr:=Fr) h λB S E rs vs H2 Q' hS re rr hn q lk=>?_;obtain _|⟨x,_|⟨y,_|⟨_,_⟩⟩⟩:=rs
 ·exact False.elim q
 ·exact False.elim q
 ·obtain⟨v,ws,e1,h1,u,mz,e2,h2,h3⟩:=rr;cases h3;subst e2;subst e1;obtain⟨i,j,e3,e4,q⟩:=i2.ex q;exact⟨i,j,by rw[re.int h1 e3,re.int h2 e4],lk _ _ _ _ _ q .refl re rfl⟩
 ·exact False.elim q
end
end L2
namespace HT
open PySem PySem.Spec PyProof.Rows
end HT
namespace HT
open PySem PySem.Spec PyProof.Rows
end HT
namespace L2
open PySem PySem.Spec PyProof.Rows
section
variable{X:Cx}{K:W.Frag}{a b e:oC}{te:TE}{st:Option oC}{ts:TO}{pos p2:Pos}{Fa Fb:FE}{G rn Gh:FO}
def MH(Fa:FE)(G:FO):FE:=λE Q=>Fa E λx E1=>G E1 λk E2=>k=oZ (-1)/\match vl E2 x with
 |some (.tup xs)=>Q (.p (.tup xs.reverse)) E2
 |_=>False
def KZ(Fa:FE)(rn Gh:FO):FE:=λE Q=>Fa E λx E1=>rn E1 λlo E2=>Gh E2 λhi E3=>match vl E3 x with
 |some (.tup xs)=>¬(HT.sIx xs.length 0 lo=0/\HT.sIx xs.length xs.length hi=xs.length)/\Q (.p (.tup (fO xs lo hi))) E3
 |_=>False
theorem Qz{lo hi:Option oC}(eK:X.K=K)(he:QE X e (aI K Fa))(hl:QO X lo (Ih K rn))(hu:QO X hi (Ih K Gh)):QE X (.Subscript e (.Slice lo hi none p2) pos) (aI K (KZ Fa rn Gh)):=by
 subst eK;refine(Hv CU he hl hu).le λσ H Q _⟨B,S,E,Q',⟨τ,hS⟩,re,hF,lk⟩=>⟨B,S,E,_,⟨τ,hS⟩,re,hF,λx E1 v H1 S1 q g1 YI rx=>?_⟩;obtain⟨τ1,df⟩:=g1.pre;refine⟨B,S1,E1,_,⟨τ++τ1,by rw[df,hS,OM]⟩,YI,q,λl E2 H2 S2 q2 g2 ZX=>?_⟩;obtain⟨τ2,zj⟩:=g2.pre;refine⟨B,S2,E2,_,⟨τ++τ1++τ2,by rw[zj,df,hS,OM,OM,OM]⟩,ZX,q2,λh E3 H3 S3 q3 g3 cj=>?_⟩;have rx3:=(rx.step g2).step g3;split at q3
 ·rename_i xs e1;obtain⟨a,vs,e2,sq,rs⟩:=cj.vl rx3 e1;obtain⟨nw,q3⟩:=q3;refine⟨a,vs,e2,sq,by rw[rs.length];exact nw,λp hp=>?_⟩;obtain⟨g,YG,rp⟩:=cj.tup hp (Ts (lo:=l) (hi:=h) rs);exact lk _ _ _ _ _ q3 (((g1.trans g2).trans g3).trans g) YG rp
 ·exact q3.elim
def EM(Fa Fb:FE):FE:=λE Q=>Fa E λx E1=>Fb E1 λy E2=>match vl E2 x,vl E2 y with
 |some (.tup (t::xs)),oZ (.tup (u::ys))=>xs.length+ys.length<=900/\Q (.p (.tup (t::xs++u::ys))) E2
 |some (.tup (_::xs)),oZ (.tup [])=>xs.length<=900/\Q x E2
 |_,_=>False
theorem Bv(eK:X.K=K)(ha:QE X a (aI K Fa))(hb:QE X b (aI K Fb)):QE X (.BinOp a .Add b pos) (aI K (EM Fa Fb)):=by
 subst eK;refine(xO J2 ha hb).le λσ H Q hl h=>two (Fa:=Fa) (Fb:=Fb) h λB S E x y v w H2 Q' hS re rx ry q lk=>?_;split at q
 ·rename_i t xs u ys e1 e2;obtain⟨hz,q⟩:=q;obtain⟨p,vs,rfl,sq,rs⟩:=re.vl rx e1;obtain⟨p',xf,rfl,sq',wm⟩:=re.vl ry e2;have l1:=rs.length;have l2:=wm.length;rw[OT]at l1 l2;refine⟨p,p',vs,xf,rfl,rfl,sq,sq',λz=>by rw[z]at l1;simp at l1,PK (b9 ⋯),λz=>by rw[z]at l2;simp at l2,λ_ r hr=>?_⟩;obtain⟨g,YG,rp⟩:=re.tup hr (rs.append wm);exact lk _ _ _ _ _ q g YG rp
 ·rename_i t xs e1 e2;obtain⟨hz,q⟩:=q;obtain⟨p,vs,rfl,sq,rs⟩:=re.vl rx e1;obtain⟨p',xf,rfl,sq',wm⟩:=re.vl ry e2;have l1:=rs.length;have l2:=wm.length;rw[OT]at l1;rw[UZ]at l2;exact⟨p,p',vs,xf,rfl,rfl,sq,sq',λz=>by rw[z]at l1;simp at l1,PK (b9 ⋯),λ_=>lk _ _ _ _ _ q .refl re rx,λz=>absurd (List.length_eq_zero_iff.mp l2) z⟩
 ·exact q.elim
end
section
variable{X:Cx}{K:W.Frag}{o:oC}{pos ap:Pos}{Fa:FE}
def EK(Fa:FE):FE:=λE Q=>Fa E λx E1=>i1 (vl E1 x) λi=>Q (.p (.int (Builtin.Int.intBits i:Int))) E1
theorem D6(ho:QE X o (aI K Fa))(ZD:WH o "bit_length" X.env (VY o X.env)=VY o X.env:=by rfl)(ZE:(ap.endLine==pos.line)=true:=by rfl):
  QE X (.Call (.Attribute o "bit_length" ap) [] [] pos) (aI K (EK Fa)):=by
 refine(L3 ho ZD ZE).le λσ H Q hl h=>one (Fa:=Fa) h λB S E x v H2 Q' hS re rx q lk=>?_;obtain⟨i,e1,q⟩:=q.ex;have ev:=re.int rx e1;subst ev;exact⟨rfl,i,rfl,rfl,lk _ _ _ _ _ q .refl re rfl⟩
end
def z1(o:Option T)(Q:Str->Prop):Prop:=match o with
 |some (.str z)=>Q z
 |_=>False
theorem z1.ex{Q:Str->Prop}(h:z1 o Q):∃z,o=oZ (.str z)/\Q z:=by
 unfold z1 at h;split at h
 ·exact⟨_,rfl,h⟩
 ·exact h.elim
section
variable{X:Cx}{e:oC}{es:List oC}{pos:Pos}{K:W.Frag}{Fr:FA}
def KQ(Fr:FA):FE:=λE Q=>Fr E λrs E1=>match rs with
 |[x,y]=>i2 (vl E1 x) (vl E1 y) λi j=>Q (.p (.int (if j<i then j else i))) E1
 |_=>False
theorem Y2(hc:X.calm=true)(hg:Gl X "min")(hm:X.mg "min" = none)(ha:QA X (e::es) (dA K n Fr))(hs:bO (e::es)=true:=by rfl):QE X (.Call (.Name "min" p) (e::es) [] pos) (aI K (KQ Fr)):=by
 refine(jP (Ql hc) hg hm boot_min ha ∅ ∅ hs).le λσ H Q hl h=>args (Fr:=Fr) h λB S E rs vs H2 Q' hS re rr hn q lk=>?_;obtain _|⟨x,_|⟨y,_|⟨_,_⟩⟩⟩:=rs
 ·exact False.elim q
 ·exact False.elim q
 ·obtain⟨v,ws,e1,h1,u,mz,e2,h2,h3⟩:=rr;cases h3;subst e2;subst e1;obtain⟨i,j,e3,e4,q⟩:=i2.ex q;exact⟨i,j,by rw[re.int h1 e3,re.int h2 e4],lk _ _ _ _ _ q .refl re rfl⟩
 ·exact False.elim q
end
theorem Tn:WL "any" = oZ (.builtin "any"):=by decide +kernel
theorem Qi(hc:X.calm=true):jR X (.builtin "any") (λxs H Q=>∃(p:VN)(bs:List Bool),xs=[.ref p]/\lZ X.K H p (bs.map V.bl)/\Q (.bl (bs.any id)) H):=by
 intro pins s σ H xs us Q I r h;obtain⟨p,bs,rfl,hq,q⟩:=h;obtain⟨u,rfl,rx⟩:=yP r;cases rx;obtain⟨XX,rv,pl,hz⟩:=I.list hq;have fg:p≠s.heap.objs.size:=by
  obtain⟨o,n,ho,_⟩:=pl;exact PB (OH ho)
 have hl:=rv.length;rw[OD]at hl;have hA:X.A.in1.handled=none:=I.ok.hd hc;refine call_any_walk (wpAny_pyIter_list pl.isList ?_);refine⟨s.heap.objs.size,_,_,_,_,_,(λi=>bs.getD i false),rfl,Walks.list hA s.heap.objs.size p fg XX.toArray,⟨⟨_,OL _ rfl,rfl,rfl⟩,pl.isList.at λo e=>OA _ e⟩,?_,?_⟩
 ·intro i v s' Q' E' hv hQ';have hv':XX[i]?=oZ v:=by simpa using hv
  have hi:i<XX.length:=(NV.mp hv').1;have hb:(bs.map V.bl)[i]?=oZ (V.bl bs[i]):=by
   rw[NY,NW ⋯];rfl
  obtain⟨u,hu,ru⟩:=rv.get hb;rw[hv']at hu;cases hu;cases ru;have e:bs.getD i false=bs[i]:=by rw[OU,NW ⋯];rfl
  simp only[e]at hQ';exact WO hQ'
 ·intro h' tk hk;have e:(OQ XX.toArray.size).any (λi=>bs.getD i false)=bs.any id:=by
   rw[OJ,<-hl];clear hl hz rv q hq pl fg;rw[VA,UQ,UQ];constructor
   ·rintro⟨i,hi,h⟩;have hi:=QH.mp hi;rw[OU,NW hi]at h;exact⟨_,RK hi,h⟩
   ·rintro⟨b,hb,h⟩;obtain⟨i,hi,rfl⟩:=List.mem_iff_getElem.mp hb;refine⟨i,QH.mpr hi,?_⟩;rw[OU,NW hi];exact h
  rw[e];refine⟨.bl _,H,?_,rfl,q⟩;exact I.kept λb o e=>hk b o (by simp;exact PB (OH e)) (OA _ e)
section
variable{X:Cx}{K:W.Frag}{pos:Pos}{Fr:FA}{Fa:FE}{e a:oC}{es:List oC}
def KD(Fr:FA):FE:=λE Q=>Fr E λrs E1=>match rs with
 |[x]=>(match vl E1 x with
  |some (.lst xs)=>o1 (rX xs) λbs=>Q (.p (.bl (bs.any id))) E1
  |_=>False)
 |_=>False
theorem Y0(eK:X.K=K)(hc:X.calm=true)(hg:Gl X "any")(hm:X.mg "any" = none)(ha:QA X (e::es) (dA K n Fr))(hs:bO (e::es)=true:=by rfl):QE X (.Call (.Name "any" p) (e::es) [] pos) (aI K (KD Fr)):=by
 subst eK;refine(jP (Qi hc) hg hm Tn ha ∅ ∅ hs).le λσ H Q hl h=>args (Fr:=Fr) h λB S E rs vs H2 Q' hS re rr hn q lk=>?_;obtain _|⟨x,_|⟨_,_⟩⟩:=rs
 ·exact False.elim q
 ·obtain⟨v,ws,e1,h1,h2⟩:=rr;cases h2;subst e1;simp only at q;split at q
  ·rename_i xs e2;obtain⟨p,us,rfl,sq,rs⟩:=re.vl h1 e2;obtain⟨bs,e3,q⟩:=o1.ex q;refine⟨p,bs,rfl,by rw[<-Tj rs e3];exact sq,lk _ _ _ _ _ q .refl re rfl⟩
  ·exact q.elim
 ·exact False.elim q
end
theorem RE.setN{K:W.Frag}{B:VN->Prop}{H:Hp}{S:St}{E:En}(re:RE K B H S E){i:Nat}{v:V}:RE K B H (S.set i (oZ v)) (E.set i none)/\∀b,Ow B (S.set i (oZ v)) (E.set i none) b->Ow B S E b:=by
 have gE:∀{j:Nat}{u:U},(E.set i none)[j]?=oZ (oZ u)->i≠j/\E[j]?=oZ (oZ u):=λ{j u}h=>by
  by_cases c:i=j
  ·subst c
   by_cases d:i<E.length
   ·rw[OV d]at h;cases h
   ·rw[QU (by simpa using d)]at h;cases h
  ·rw[OP c]at h;exact⟨c,h⟩
 refine re.map (by simp[re.len]) (λj t h=>?_) id (λj k xs h=>?_) λ_ _ _ _ _ _ _ _ h=>h
 ·obtain⟨c,h⟩:=gE h;obtain⟨v',h1,h2⟩:=re.pure j t h;exact⟨v',by rw[OP c];exact h1,h2⟩
 ·obtain⟨c,h⟩:=gE h;obtain⟨a,vs,h1,_⟩:=re.own j k xs h;exact⟨h,a,h1,by rw[OP c];exact h1⟩
def Ie(d:DD)(K:W.Frag)(n:Nat)(F:FA):TA:=λσ H Q=>lQ d σ H/\dA K n F σ H Q
theorem QE.dd{X:Cx}{K:W.Frag}{d:DD}{e:oC}{Fa:FE}(h:QE X e (aI K Fa)):QE X e (kO d K Fa):=h.le λ_ _ _ _ z=>z.2
theorem QA.dd{X:Cx}{K:W.Frag}{d:DD}{es:List oC}{Fr:FA}{n:Nat}(h:QA X es (dA K n Fr)):QA X es (Ie d K n Fr):=h.le λ_ _ _ z=>z.2
theorem X9{X:Cx}{K:W.Frag}{d:DD}{e:oC}{es:List oC}{Fa:FE}{Fr:FA}{n:Nat}(ha:QE X e (kO d K Fa))(hr:QA X es (Ie d K n Fr))(hs:a9 e=false:=by rfl):QA X (e::es) (Ie d K (n+1) (jI Fa Fr)):=by
 refine(qc ha hr hs).le λσ H Q zZ=>?_;obtain⟨dt,B,S,E,Q',⟨τ,hS⟩,re,hF,lk⟩:=zZ;refine⟨dt,B,S,E,_,⟨τ,hS⟩,re,hF,λr E1 v H1 S1 q g YI rr=>?_⟩;obtain⟨τ1,df⟩:=g.pre;exact⟨dt.kp re g.kp,B,S1,E1,_,⟨τ++τ1,by rw[df,hS,OM]⟩,YI,q,λrs E2 vs H2 S2 q2 g2 ZX wg hn=>lk _ _ _ _ _ q2 (g.trans g2) ZX ⟨v,vs,rfl,rr.step g2,wg⟩ (by rw[OT,hn])⟩
theorem Uj{X:Cx}{K:W.Frag}{d:DD}{pos:Pos}{e:oC}{es:List oC}{Fr:FA}{n k j:Nat}{x:Str}{ps:List Str}{S:dG}{p:Pos}(F:Fn X.prog X.w X.K X.mg X.base k x ps (aJ K S))(hr:dD j X.A)(hk:k<=j)(hg:Gl X x)(ha:QA X (e::es) (Ie d K n Fr))(cg:(x==("__debug__":Str))=false:=by decide)(hs:bO (e::es)=true:=by rfl):QE X (.Call (.Name x p) (e::es) [] pos) (kO d K (Ge S Fr)):=(xN F hr hk hg ha cg hs).le λ_ _ _ _ h=>⟨h.1,Ff h.2⟩
theorem QB.leL(h:QB X mj t)(m:∀D σ H,σ.length=X.N.length->t' D σ H->t D σ H):QB X mj t':=⟨λpins s σ H D I z=>h.h pins s σ H D I (m D σ H I.len z)⟩
end L2
namespace PySem
namespace F
end F
end PySem
namespace L2
open PySem PySem.Spec PyProof.Rows
structure JF(i:Nat)(XZ:List (Key×V))(K:W.Frag)(B:VN->Prop)(H:Hp)(σ:St)(E:En)(DT:ET)(D:cU):Prop where
 nx:∀σ' H' E',DT.nx E'->Gs B H σ E H' σ' E'->RE K B H' σ' E'->Er i XZ σ' H'->D.nx σ' H'
 rt:∀r E' v H' S',DT.rt r E'->Gs B H σ E H' S' E'->RE K B H' S' E'->RR K B H' S' E' r v->D.rt v H'
 bk:∀σ' H' E',DT.bk E'->Gs B H σ E H' σ' E'->RE K B H' σ' E'->Er i XZ σ' H'->D.bk σ' H'
 ct:∀σ' H' E',DT.ct E'->Gs B H σ E H' σ' E'->RE K B H' σ' E'->Er i XZ σ' H'->D.ct σ' H'
theorem JF.step{i:Nat}{XZ:List (Key×V)}{K:W.Frag}{B:VN->Prop}{H H':Hp}{σ σ':St}{E E':En}{DT:ET}{D:cU}(l:JF i XZ K B H σ E DT D)(g:Gs B H σ E H' σ' E'):JF i XZ K B H' σ' E' DT D:=
 ⟨λa b c d e=>l.nx a b c d (g.trans e),λa b c d e f h=>l.rt a b c d e f (g.trans h),λa b c d e=>l.bk a b c d (g.trans e),λa b c d e=>l.ct a b c d (g.trans e)⟩
def jA(i:Nat)(XZ:List (Key×V))(K:W.Frag)(F:FS):TS:=λD σ H=>Er i XZ σ H/\∃B E DT,RE K B H σ E/\F DT E/\JF i XZ K B H σ E DT D
theorem Er.keep{K:W.Frag}{B:VN->Prop}{H:Hp}{H':Hp}{σ:St}{σ':St}{E:En}{i:Nat}{XZ:List (Key×V)}(d:Er i XZ σ H)(re:RE K B H σ E)(k:∀b o,H b=oZ o->¬Ow B σ E b->H' b=oZ o)(h:σ'[i]?= σ[i]?):Er i XZ σ' H':=by
 obtain⟨p,h1,h2⟩:=d;exact⟨p,by rw[h];exact h1,k p _ h2 λz=>by obtain⟨vs,e⟩:=re.ow z;rw[h2]at e;cases e⟩
theorem sA{X:Cx}{K:W.Frag}{st:VS}{mj:List VS}{F:FS}{G:FS}{i:Nat}{XZ:List (Key×V)}(h1:QS X st (jA i XZ K F))(h2:QB X mj (jA i XZ K G)):QB X (st::mj) (jA i XZ K (M7 F G)):=
 (Dg h1 h2).le λD σ H zZ=>by obtain⟨dt,B,E,DT,re,hF,l⟩:=zZ;exact⟨dt,B,E,_,re,hF,⟨λσ' H' E' hG g YG d'=>⟨d',B,E',DT,YG,j7 hG,l.step g⟩,l.rt,l.bk,l.ct⟩⟩
theorem Bt{X:Cx}{K:W.Frag}{st:VS}{F:FS}{i:Nat}{XZ:List (Key×V)}(h1:QS X st (jA i XZ K F)):QB X [st] (jA i XZ K F):=La h1
theorem Tz{X:Cx}{K:W.Frag}{pos:Pos}{e:oC}{Fa:FE}{i:Nat}{XZ:List (Key×V)}(h:QE X e (aI K Fa)):QS X (.Return (oZ e) pos) (jA i XZ K (HE Fa)):=
 (Lb h).le λD σ H hl zZ=>by obtain⟨dt,B,E,DT,re,hF,l⟩:=zZ;exact⟨B,σ,E,_,⟨[],by simp⟩,re,hF,λr E' v H' S' q g YG rr=>l.rt r E' v H' S' q g.kp YG rr⟩
theorem D1{X:Cx}{K:W.Frag}{pos:Pos}{e:oC}{Fa:FE}{i:Nat}{XZ:List (Key×V)}(he:QE X e (aI K Fa))(hs:WJ e none pos.line X.env=pure false:=by rfl):QS X (.Expr e pos) (jA i XZ K (Xq Fa)):=
 (Dh he hs).le λD σ H hl zZ=>by obtain⟨dt,B,E,DT,re,hF,l⟩:=zZ;exact wH (P:=λ_ _ E'=>DT.nx E') re hF λr E' v H' S' q g YG rr ZX ow=>l.nx _ _ _ q (g.kp.trans (Kp.less ow)) ZX (dt.keep re g.kp.keep rfl)
theorem Ua{X:Cx}{K:W.Frag}{pos:Pos}{e:oC}{Fa:FE}{i:Nat}{XZ:List (Key×V)}{j:Nat}{x:Str}{pos':Pos}(hN:X.N.Nodup)(hi:X.N[j]?=oZ x)(hx:yT X.env.scope x)(he:QE X e (aI K Fa))(fg:j≠i)(hs:WJ e (oZ (.Name x pos')) pos.line X.env=pure false:=by rfl)(hf:X.fn x=true\/X.env.scope.names.lookup x=oZ .local:=by first|exact .inl rfl|exact .inr rfl|assumption):QS X (.Assign [.Name x pos'] e pos) (jA i XZ K (M8 j Fa)):=
 (Lc hN hi hx he hs hf).le λD σ H hl⟨dt,B,E,DT,re,hF,l⟩=>⟨B,σ,E,_,⟨[],by simp⟩,re,hF,λr E' v H' S' q g YG rr=>by
  obtain⟨u,e1,q⟩:=q.ex;rw[<-re.len]at e1 q;obtain⟨r1,ow⟩:=sH (i:=j) YG g.pre rr e1;exact l.nx _ _ _ q (g.kp.trans (Kp.less ow)) r1 (dt.keep re g.kp.keep (OP fg))⟩
theorem X4{X:Cx}{K:W.Frag}{body:List VS}{pos:Pos}{F:FS}{i:Nat}{XZ:List (Key×V)}{j:Nat}{x:Str}{p1:Pos}{iter:oC}{I:FI}(hp:PassesOwn (VR X.prog X.w) X.A X.env X.xe)(hc:X.calm=true)(hi:QI X (.Name x p1) iter (mR K I))(hN:X.N.Nodup)(hj:X.N[j]?=oZ x)(hx:yT X.env.scope x)(hb:QB X body (jA i XZ K F))(fg:j≠i)(hs:∀x,VX iter X.env x=pure x:=by intro _;rfl)(hf:X.fn x=true\/X.env.scope.names.lookup x=oZ .local:=by first|exact .inl rfl|exact .inr rfl|assumption):
  QS X (.For (.Name x p1) iter body [] pos) (jA i XZ K (HD I (qD j) F)):=by
 refine(Xg hp hc hi (sI hN hj hx hf) hb hs).le λD σ H hl zZ=>?_;obtain⟨dt,B,E,DT,re,hF,l⟩:=zZ;refine⟨B,σ,E,_,⟨[],by simp⟩,re,hF,λJ items us E1 H1 S1 gd q g1 YI ok _ wj=>?_⟩;obtain⟨E2,e2,q⟩:=q.ex;replace q:=j7 q;obtain⟨f1,f2,f3,f4⟩:=Ca YI e2;obtain⟨c1,c2⟩:=f1.cut (E:=E) g1.pre re.len;have gs:Gs B H σ E H1 σ (E2.take E.length):=g1.kp.trans ((Kp.less f2).trans (Kp.less c2));have gd1:gd H1 (Ow B σ (E2.take E.length)):=wj _ (λb z=>f2 b (c2 b z)) λj hj a ha z=>f3 j hj a ha (c2 a z);refine⟨λi' m σ' H'=>m=items.length-i'/\i'<=items.length/\∃E',hJ (qD j) F DT (items.drop i') E'/\Gs B H σ E H' σ' E'/\RE K B H' σ' E'/\gd H' (Ow B σ' E')/\Er i XZ σ' H',⟨_,rfl,OG _,_,q,gs,c1,gd1,dt.keep re gs.keep rfl⟩,?_⟩;rintro i' m σ2 H2 ⟨rfl,jh,E3,q3,g3,cj,pe,ye⟩;obtain ag|hge:=OY i' items.length
 ·have hd:items.drop i'=items[i']::items.drop (i'+1):=QM ag;rw[hd]at q3;refine .inr ⟨ok.go i' H2 _ pe ag,λσ' H'=>∃E',hJ (qD j) F DT (items.drop (i'+1)) E'/\Gs B H σ E H' σ' E'/\RE K B H' σ' E'/\gd H' (Ow B σ' E')/\Er i XZ σ' H',λσ' H' zZ=>by obtain⟨E',z⟩:=zZ;exact⟨items.length-(i'+1),⋯,rfl,ag,E',z⟩,λy H4 yl=>?_⟩;obtain⟨k4,s4,rp⟩:=ok.yld i' H2 _ y H4 _ pe (NW ag) (λa z=>by obtain⟨vs,e⟩:=cj.ow z;rw[e];intro z;cases z) yl;have qe:=cj.kept s4;have yc:=ok.keep _ _ _ _ k4 pe;obtain⟨pf,ow5⟩:=qe.setP (i:=j) rp;have q5:=j7 (show Cn (E3.set j (oZ (.p items[i']))) (F { DT with nx:=hJ (qD j) F DT (items.drop (i'+1)),ct:=hJ (qD j) F DT (items.drop (i'+1)),bk:=DT.nx })from q3);have g5:Gs B H4 σ2 E3 H4 (σ2.set j (oZ y)) (E3.set j (oZ (.p items[i']))):=Kp.less ow5;have zm:=ok.keep _ _ _ _ g5 yc;have gg:=(g3.trans k4).trans g5;have l5:=l.step gg;have yf:Er i XZ (σ2.set j (oZ y)) H4:=ye.keep cj (λb o e _=>s4 b o e) (OP fg);refine⟨yf,B,_,_,pf,q5,?_⟩;exact⟨λσ' H' E' z g YG d'=>⟨E',z,gg.trans g,YG,ok.keep _ _ _ _ g zm,d'⟩,l5.rt,λσ' H' E' z g YG d'=>l5.nx _ _ _ z g YG d',λσ' H' E' z g YG d'=>⟨E',z,gg.trans g,YG,ok.keep _ _ _ _ g zm,d'⟩⟩
 ·have ei:i'=items.length:=⋯
  subst ei;rw[RY]at q3;exact .inl ⟨ok.stop H2 _ pe,l.nx _ _ _ q3 g3 cj ye⟩
end L2
namespace HT
open PySem PySem.Spec PyProof.Rows
end HT
namespace L2
open PySem PySem.Spec PyProof.Rows
def s1(x:Option T)(k:Str->Prop):Prop:=match x with
 |some (.str i)=>k i
 |_=>False
theorem s1.ex{k:Str->Prop}(h:s1 x k):∃i,x=oZ (.str i)/\k i:=by
 unfold s1 at h;split at h
 ·exact⟨_,rfl,h⟩
 ·exact h.elim
def s2(x y:Option T)(k:Str->Str->Prop):Prop:=match x,y with
 |some (.str i),oZ (.str j)=>k i j
 |_,_=>False
theorem s2.ex{k:Str->Str->Prop}(h:s2 x y k):∃i j,x=oZ (.str i)/\y=oZ (.str j)/\k i j:=by
 unfold s2 at h;split at h
 ·exact⟨_,_,rfl,rfl,h⟩
 ·exact h.elim
def si(x y:Option T)(k:Str->Int->Prop):Prop:=match x,y with
 |some (.str i),oZ (.int j)=>k i j
 |_,_=>False
theorem si.ex{k:Str->Int->Prop}(h:si x y k):∃i j,x=oZ (.str i)/\y=oZ (.int j)/\k i j:=by
 unfold si at h;split at h
 ·exact⟨_,_,rfl,rfl,h⟩
 ·exact h.elim
abbrev big:Nat:=1000000
theorem Ti(h:n<=big):n<=VW:=by rw[sizeLine_eq];unfold big at h;lia
theorem RE.str{K:W.Frag}{B:VN->Prop}{H:Hp}{S:St}{E:En}(re:RE K B H S E){r:R}{v:V}{i:Str}(h:RR K B H S E r v)(e:L2.vl E r=oZ (.str i)):v = .str i:=re.vl h e
section
variable{X:Cx}{K:W.Frag}{pos:Pos}{a b c e o:oC}{es:List oC}{Fa Fb Fc Fo:FE}{Fr:FA}
def EL(Fa Fb:FE):FE:=λE Q=>Fa E λx E1=>Fb E1 λy E2=>s2 (vl E2 x) (vl E2 y) λi j=>i.length+j.length<=big/\∀z,z=i++j->Q (.p (.str z)) E2
theorem Nc(ha:QE X a (aI K Fa))(hb:QE X b (aI K Fb)):QE X (.BinOp a .Add b pos) (aI K (EL Fa Fb)):=by
 refine(xO Kw ha hb).le λσ H Q hl h=>two h λB S E x y v w H2 Q' hS re rx ry q lk=>?_;obtain⟨i,j,e1,e2,c,q⟩:=q.ex;exact⟨i,j,re.str rx e1,re.str ry e2,Ti c,lk _ _ _ _ _ (q _ rfl) .refl re rfl⟩
theorem AK{n:Int}(h0:0<=n)(h:x.length*n.toNat<=big)(hn:n<=big):MulOk x n:=by
 unfold big at h hn;refine⟨?_,λh1 h2 h3=>?_,λh1 h2=>?_⟩
 ·rw[oX ⋯,oX ⋯];rfl
 ·have:(x.length:Int)*n<=1000000:=by
   have e:((x.length*n.toNat:Nat):Int)=(x.length:Int)*n:=by rw[Int.natCast_mul,Int.toNat_of_nonneg h0]
   lia
  have h5:(2^63-1)/n+1<=(x.length:Int):=⋯
  have h6:((2^63-1)/n+1)*n<=(x.length:Int)*n:=Int.mul_le_mul_of_nonneg_right h5 h0;have h7:(2^63-1)/n*n+(2^63-1)%n=2^63-1:=by rw[Int.mul_comm];exact Int.mul_ediv_add_emod _ _
  have h8:(2^63-1)%n<n:=SW _ ⋯;rw[Int.add_mul,Int.one_mul]at h6
  lia
 ·unfold Builtin.Str.tooLong;exact oX (by rw[sizeLine_eq];lia)
theorem Kx:m4 X (WG .Mult) (λx y H Q=>∃i j,x = .str i/\y = .int j/\MulOk i j/\Q (.str (Txt.mul i j)) H):=by
 intro pins s σ H x y v u Q I rx ry h;obtain⟨i,j,rfl,rfl,hm,q⟩:=h;obtain⟨t,rfl⟩:=rx;obtain⟨t',rfl⟩:=ry;exact SB.mul hm λt' k=>⟨.str _,H,I.tok _,⟨_,rfl⟩,q⟩
def EU(Fa Fb:FE):FE:=λE Q=>Fa E λx E1=>Fb E1 λy E2=>si (vl E2 x) (vl E2 y) λi j=>(0<=j/\j<=big/\i.length*j.toNat<=big)/\∀z,z=Txt.mul i j->Q (.p (.str z)) E2
theorem E7(ha:QE X a (aI K Fa))(hb:QE X b (aI K Fb)):QE X (.BinOp a .Mult b pos) (aI K (EU Fa Fb)):=by
 refine(xO Kx ha hb).le λσ H Q hl h=>two h λB S E x y v w H2 Q' hS re rx ry q lk=>?_;obtain⟨i,j,e1,e2,⟨c1,c2,c3⟩,q⟩:=q.ex;exact⟨i,j,re.str rx e1,re.int ry e2,AK c1 c3 c2,lk _ _ _ _ _ (q _ rfl) .refl re rfl⟩
end
open Classical in
noncomputable def uY (Z:VN->Prop) (H:Hp):Hp:=λb=>if Z b then none else H b
open Classical in
noncomputable def back (Z:VN->Prop) (H H':Hp):Hp:=λb=>if Z b then H b else H' b
theorem Vc{Z:VN->Prop}(h:Z b):uY Z H b=none:=oV h
theorem nU{Z:VN->Prop}(h:¬Z b):uY Z H b=H b:=oW h
theorem lF{Z:VN->Prop}(h:H b=none):uY Z H b=none:=by unfold uY;split<;>first|rfl|exact h
theorem Rc{Z:VN->Prop}(h:uY Z H b=oZ o):¬Z b/\H b=oZ o:=by
 unfold uY at h;split at h
 ·cases h
 ·rename_i n;exact⟨n,h⟩
theorem Jk{Z:VN->Prop}(h:Z b):back Z H H' b=H b:=oV h
theorem jW{Z:VN->Prop}(h:¬Z b):back Z H H' b=H' b:=oW h
def HH(sp:Sp):Sp:=λvs H Q E=>∃Z:VN->Prop,(∀c,Z c->∃us,H c=oZ (.lst us))/\sp vs (uY Z H) (λv H'=>(∀c,Z c->H' c=none)->Q v (back Z H H')) E
theorem aT.frame{P:VQ}{w:VU}{K:W.Frag}{mg:Str->Option oA}{base:oE}{k:Nat}{f:VN}{fd:WC}{ps:List Str}{sp:Sp}(F:aT P w K mg base cO k f fd ps sp):(~~~aT) cO k f fd ps (HH sp):=by
 refine⟨λvs H Q E zZ=>by obtain⟨Z,_,h⟩:=zZ;exact F.len _ _ _ _ h,λA outer s H args us vs Q E hr he hb hv⟨Z,hZ,hs⟩=>?_⟩;have nl:∀{b:VN}{o:HO},H b=oZ o->(∀us,o≠.lst us)->¬Z b:=λ{b o}h n z=>by
  obtain⟨us,e⟩:=hZ b z;rw[h]at e;cases e;exact n us rfl
 have vj:Sz P w K mg base A outer s (uY Z H):=⟨he.frames,he.mod,λb o q=>⟨(he.bs b o q).1,lF (he.bs b o q).2⟩,he.bsz,he.funs,λb m=>lF (he.frf b m),λa o e=>by
   obtain⟨n,e⟩:=Rc e;exact(he.hok a o e).stay (λ_ _ _ q=>q) (λb q=>by rw[nU (nl q λ_ z=>by cases z)];exact q) (λb xs q=>by rw[nU (nl q λ_ z=>by cases z)];exact q),he.bare⟩
 refine XU (F.run A outer s (uY Z H) args us vs _ E hr vj hb hv hs) λr s' h=>?_;cases r with
 |error e=>exact h
 |ok fin=>
  cases fin with
  |ret u=>
   obtain⟨v,H1,h1,h2,un,ok,rv,q⟩:=h;have gone:∀c,Z c->H1 c=none:=λc z=>by
    obtain⟨us,e⟩:=hZ c z;obtain⟨_,XX,n,_,q⟩:=he.hok c _ e;exact un.free c _ q (Vc z) (by simp)
   refine⟨v,back Z H H1,h1,h2,⟨λb o q n=>un.keep b o q (lF n),λb o q n=>un.slot b o q (lF n),λb o q n x=>?_,un.there,λb xs q=>?_,λb o u q=>?_,λb ps q=>?_⟩,λa o e=>?_,rv,q gone⟩
   ·by_cases z:Z b
    ·rw[Jk z];exact n
    ·rw[jW z];exact un.free b o q (lF n) x
   ·have z:=nl q λ_ z=>by cases z
    rw[jW z];exact un.tups b xs (by rw[nU z];exact q)
   ·have z:=nl q λ_ z=>by cases z
    rw[jW z];exact un.frzs b o u (by rw[nU z];exact q)
   ·have z:=nl q λ_ z=>by cases z
    rw[jW z];exact un.tbls b ps (by rw[nU z];exact q)
   ·by_cases z:Z a
    ·rw[Jk z]at e;obtain⟨us,e'⟩:=hZ a z;rw[e]at e';cases e';obtain⟨y,XX,n,r,g⟩:=he.hok a _ e;refine⟨y,XX,n,r,un.keep a _ g (Vc z) (λm=>?_) (by simp)⟩;rw[he.frf a m]at e;cases e
    ·rw[jW z]at e;exact(ok a o e).stay (λ_ _ _ q=>q) (λb q=>by rw[jW λz=>by rw[gone b z]at q;cases q];exact q) (λb xs q=>by rw[jW λz=>by rw[gone b z]at q;cases q];exact q)
  |_=>exact h
theorem Fn.frame{P:VQ}{w:VU}{K:W.Frag}{mg:Str->Option oA}{base:oE}{k:Nat}{x:Str}{ps:List Str}{sp:Sp}(F:Fn P w K mg base k x ps sp):(~~~Fn) k x ps (HH sp):=by
 obtain⟨f,fd,ok,h⟩:=F.ex;exact⟨⟨f,fd,ok.frame,h⟩⟩
def uS(K:W.Frag)(S:dG):Sp:=λvs H Q _=>∃(as:List A)(Q':RV->List T->Prop)(bx:Option VN),RE K (λa=>bx=oZ a) H (vs.map oZ) (kF as)/\(jX as=none->bx=none)/\S as Q'/\
 ∀t xs v H',Q' (.v t) xs->(∀b o,H b=oZ o->bx≠oZ b->H' b=oZ o)->(∀a,bx=oZ a->∃ws,H' a=oZ (.lst ws)/\cX K H' (jH H') xs ws)->Rp K H' (λb=>bx=oZ b) t v->Q v H'
def JY(as:List A)(Q:RV->List T->Prop):ET where
 nx:=λ_=>False
 rt:=λr E=>o1 (wM as E) λxs=>match r with
  |.p t=>Q (.v t) xs
  |.s i=>match E[i]? with
   |some (↥ys)=>Q (.v (.lst ys)) xs
   |some (⇑t)=>Q (.v t) xs
   |_=>False
theorem cL.okL{P:VQ}{w:VU}{K:W.Frag}{mg:Str->Option oA}{base:oE}{x qual:Str}{st:VS}{f:VN}{fd:WC}{N ps:List Str}{k:Nat}{S:dG}{F:FS}(Fn:cL K x qual st f fd)(Sc:aF N ps (aC st))(len:∀as Q,S as Q->as.length=ps.length)(hb:∀(YZ:oA)(A:oD)(outer:List Env)(s:oB)(H:Hp)(E:XK),dD k (A.deeper (WU qual (aC st) s.heap.objs.size f YZ))->QB (wQ cO P w K mg base N qual (aC st) f YZ A outer s H E).nox (cW st) (i9 K F))(hF:∀as Q,S as Q->F (JY as Q) (kF as++OE (N.length-as.length) none)):(~~~aT) cO (k+1) f fd ps (uS K S):=by
 refine Fn.okQ Sc (λvs H Q E⟨as,Q',bx,re,vh,hS,l⟩=>?_) (λYZ A outer s H vs Q E hr⟨as,Q',bx,re,vh,hS,l⟩=>?_)
 ·have:=re.len;rw[OD,dZ]at this;rw[this];exact len as Q' hS
 have hl:vs.length=as.length:=by have:=re.len;rwa [OD,dZ]at this
 refine⟨_,hb YZ A outer s H E hr,?_⟩;obtain⟨wk,ml⟩:=re.pad (N.length-as.length);have mq:kD N vs=vs.map oZ++OE (N.length-as.length) none:=by unfold kD;rw[hl]
 rw[mq]
 -- the box's address
 have sv:∀b,Ow (λa=>bx=oZ a) (vs.map oZ) (kF as) b->bx=oZ b:=λb z=>by
  obtain z|⟨i,kk,xs,h1,h2⟩:=z
  ·exact z
  obtain⟨a,ws,q1,_,_,q4⟩:=re.own i kk xs h1;rw[h2]at q1;cases q1;exact q4.mp (Mw h1)
 have fr:∀{H':Hp}{S':St}{E':En},Gs (λa=>bx=oZ a) H (vs.map oZ++OE (N.length-as.length) none) (kF as++OE (N.length-as.length) none) H' S' E'->∀b o,H b=oZ o->bx≠oZ b->H' b=oZ o:=λg b o h n=>g.keep b o h λz=>n (sv b (ml b z));have fin:∀{r:T}{xs:List T}{v:V}{H':Hp}{S':St}{E':En},wM as E'=oZ xs->Q' (.v r) xs->Gs (λa=>bx=oZ a) H (vs.map oZ++OE (N.length-as.length) none) (kF as++OE (N.length-as.length) none) H' S' E'->RE K (λa=>bx=oZ a) H' S' E'->
   Rp K H' (λb=>bx=oZ b) r v->Q v H':=λ{r xs v H' S' E'}e q g YG hr=>by
  have hbx:∀a,bx=oZ a->∃ws,H' a=oZ (.lst ws)/\cX K H' (jH H') xs ws:=λa ha=>by
   unfold wM at e;cases qb:jX as with
   |none=>
    rw[qb]at e;cases e;rw[vh qb]at ha;cases ha
   |some j=>
    rw[qb]at e;simp only at e;split at e
    ·rename_i ys hE;split at e
     ·cases e;rename_i zp;obtain⟨b,ws,h1,h2,h3,h4⟩:=YG.own j true xs hE;have:bx=oZ b:=h4.mp rfl;rw[ha]at this;cases this;exact⟨ws,h2,cX.noL (λ_ z=>z) zp h3⟩
     ·cases e
    ·cases e
  exact l r xs v H' q (fr g) hbx hr
 refine⟨_,_,_,wk,hF as Q' hS,⟨λ_ _ _ z=>z.elim,λr E' v H' S' q g YG rr=>?_,λ_ _ _ z=>z.elim,λ_ _ _ z=>z.elim⟩⟩;obtain⟨xs,e,q⟩:=q.ex;cases r with
 |p t=>exact fin e q g YG (Rp.step (Kp.less λb z=>.inl z) rr)
 |s i=>
  simp only at q;split at q
  ·rename_i ys hE;obtain⟨b,ws,h1,h2,h3,h4⟩:=YG.own i false ys hE;have pb:S'[i]?=oZ (oZ v):=rr;rw[pb]at h1;cases h1;exact fin e q g YG ⟨b,ws,rfl,.inl ⟨λz=>(by have:=h4.mpr z;cases this),.inl h2⟩,h3.step (Kp.less λb z=>.inl z)⟩
  ·rename_i t hE;obtain⟨w,h1,h2⟩:=YG.pure i t hE;have pb:S'[i]?=oZ (oZ v):=rr;rw[pb]at h1;cases h1;exact fin e q g YG (h2.step (Kp.less λb z=>.inl z))
  ·exact q.elim
def X6(S:dG)(Fr:FA):FE:=λE Q=>Fr E λrs E1=>match rs with
 |.s j::rs=>o1 (uX E1 rs) λz=>match z.2[j]? with
  |some (oZ (.o k xs))=>S (.b xs::z.1.map A.v) λr ys=>match r with
   |.v t=>Q (.p t) (z.2.set j (oZ (.o k ys)))
   |.l _=>False
  |_=>False
 |_=>False
theorem Gi{X:Cx}{K:W.Frag}{pos:Pos}{e:oC}{es:List oC}{Fr:FA}{n k j:Nat}{x:Str}{ps:List Str}{S:dG}{p:Pos}(F:Fn X.prog X.w X.K X.mg X.base k x ps (uS K S))(hr:dD j X.A)(hk:k<=j)(hg:Gl X x)(ha:QA X (e::es) (dA K n Fr))(cg:(x==("__debug__":Str))=false:=by decide)(hs:bO (e::es)=true:=by rfl):QE X (.Call (.Name x p) (e::es) [] pos) (aI K (X6 S Fr)):=by
 refine(xN F.frame hr hk hg ha cg hs).le λσ H Q hl h=>args (Fr:=Fr) h λB S' E0 rs vs H2 Q' hS wk rr hn q lk=>?_;rw[PV];split at q
 ·rename_i jb wm;obtain⟨z,ez,q⟩:=o1.ex q;obtain⟨v0,ws,e2,h0,h2⟩:=rr;subst e2;obtain⟨re,owz,rp⟩:=sC wk h2 ez;obtain⟨ts,E⟩:=z;simp only at q re owz rp;split at q
  ·rename_i kb xs hE;have qf:S'[jb]?=oZ (oZ v0):=h0;obtain⟨a0,us,k1,k2,k3,k4⟩:=re.own jb kb xs hE;rw[qf]at k1;cases k1;have ml:Ow B S' E a0:=.inr ⟨jb,kb,xs,hE,qf⟩;have kpi:Kp (Ow B S' E) (λb=>b=a0) H2 (uY (λb=>Ow B S' E b/\b≠a0) H2):=⟨λb o h n=>by rw[nU λz=>n z.1];exact h,λb z=>.inl (by rw[z];exact ml)⟩;have get:∀{i:Nat}{u:U},(oZ (U.o true xs)::ts.map λt=>oZ (U.p t))[i]?=oZ (oZ u)->(i=0/\u = .o true xs)\/∃m t,i=m+1/\ts[m]?=oZ t/\u = .p t:=λ{i u}h=>by
    cases i with
    |zero=>simp at h;exact .inl ⟨rfl,h.symm⟩
    |succ m=>
     rw[RG,NY]at h;cases q:ts[m]? with
     |none=>rw[q]at h;cases h
     |some t=>rw[q]at h;simp at h;exact .inr ⟨m,t,rfl,q,h.symm⟩
   have ow:∀b,Ow (λc=>oZ a0=oZ c) ((V.ref a0::ws).map oZ) (kF (A.b xs::ts.map A.v)) b->b=a0:=λb z=>by
    obtain z|⟨i,kk,ys,h3,h4⟩:=z
    ·cases z;rfl
    ·have h3':(oZ (U.o true xs)::ts.map λt=>oZ (U.p t))[i]?=oZ (oZ (U.o kk ys)):=by
      rw[<-h3];simp[kF,wU]
     obtain⟨c,z⟩|⟨m,t',e,q3,z⟩:=get h3'
     ·subst c;simp at h4;exact h4.symm
     ·cases z
   have enE:kF (A.b xs::ts.map A.v)=oZ (U.o true xs)::ts.map λt=>oZ (U.p t):=by simp[kF,wU]
   have kpa:Kp (Ow B S' E) (Ow (λc=>oZ a0=oZ c) ((V.ref a0::ws).map oZ) (kF (A.b xs::ts.map A.v))) H2 (uY (λb=>Ow B S' E b/\b≠a0) H2):=⟨kpi.keep,λb z=>.inl (by rw[ow b z];exact ml)⟩;have aAN:uY (λb=>Ow B S' E b/\b≠a0) H2 a0=oZ (.lst us):=by rw[nU λz=>z.2 rfl];exact k2
   refine⟨λb=>Ow B S' E b/\b≠a0,λc z=>re.ow z.1,A.b xs::ts.map A.v,_,oZ a0,⟨by simp[kF,wU,rp.length],λi t h=>?_,λi kk ys h=>?_,λi i' kk l ys zs b h1 h3 _ _=>?_,λc z=>?_⟩,λz=>?_,q,λt ys v H1 q2 fr bxk rv gone=>?_⟩
   ·rw[enE]at h;obtain⟨_,z⟩|⟨m,t',e,q3,z⟩:=get h
    ·cases z
    ·cases z;subst e;obtain⟨v,h1,h3⟩:=rp.get q3;exact⟨v,by simp[h1],h3.step kpa⟩
   ·rw[enE]at h;obtain⟨c,z⟩|⟨m,t',e,q3,z⟩:=get h
    ·cases z;subst c;exact⟨a0,us,by simp,aAN,k3.step kpa,⟨λ_=>rfl,λ_=>rfl⟩⟩
    ·cases z
   ·rw[enE]at h1 h3;obtain⟨c,z⟩|⟨m,t',e,q3,z⟩:=get h1
    ·obtain⟨c',z'⟩|⟨m,t',e,q3,z'⟩:=get h3
     ·rw[c,c']
     ·cases z'
    ·cases z
   ·cases z;exact⟨us,aAN⟩
   ·simp[jX]at z
   ·obtain⟨mz,b1,b2⟩:=bxk a0 rfl;have ym:∀b o,H2 b=oZ o->b≠a0->back (λb=>Ow B S' E b/\b≠a0) H2 H1 b=oZ o:=λb o z n=>by
     by_cases c:Ow B S' E b
     ·rw[Jk ⟨c,n⟩];exact z
     ·rw[jW λy=>c y.1];exact fr b o (by rw[nU λy=>c y.1];exact z) (by intro y;cases y;exact n rfl)
    have hb0:back (λb=>Ow B S' E b/\b≠a0) H2 H1 a0=oZ (.lst mz):=by rw[jW λy=>y.2 rfl];exact b1
    have kpo:Kp (λb=>oZ a0=oZ b) (Ow B S' E) H1 (back (λb=>Ow B S' E b/\b≠a0) H2 H1):=⟨λb o z n=>by
      rw[jW λy=>by rw[gone b y]at z;cases z];exact z,λb z=>by
      by_cases c:b=a0
      ·exact .inl (by rw[c])
      ·exact .inr (gone b ⟨z,c⟩)⟩
    have kpb:Kp (jH H1) (Ow B S' E) H1 (back (λb=>Ow B S' E b/\b≠a0) H2 H1):=⟨λb o z n=>by
      rw[jW λy=>by rw[gone b y]at z;cases z];exact z,λb z=>by
      by_cases c:b=a0
      ·exact .inl (by rw[c];exact⟨_,b1⟩)
      ·exact .inr (gone b ⟨z,c⟩)⟩
    generalize back (λb=>Ow B S' E b/\b≠a0) H2 H1=H' at ym hb0 kpo kpb⊢;have hk:∀b o,H2 b=oZ o->¬Ow B S' E b->H' b=oZ o:=λb o z n=>ym b o z λc=>n (by rw[c];exact ml);have ji:∀{i:Nat}{u:U},(E.set jb (oZ (.o kb ys)))[i]?=oZ (oZ u)->(i=jb/\u = .o kb ys)\/(i≠jb/\E[i]?=oZ (oZ u)):=λ{i u}h=>by
     by_cases c:i=jb
     ·subst c;rw[OV (NV.mp hE).1]at h;cases h;exact .inl ⟨rfl,rfl⟩
     ·rw[OP (λz=>c z.symm)]at h;exact .inr ⟨c,h⟩
    have kp:Kp (Ow B S' E) (Ow B S' E) H2 H':=⟨hk,λb z=>.inl z⟩;have yd:∀b,Ow B S' (E.set jb (oZ (.o kb ys))) b->Ow B S' E b:=λb z=>by
     obtain z|⟨i,k,zs,z1,z2⟩:=z
     ·exact .inl z
     obtain⟨c,z⟩|⟨c,z⟩:=ji z1
     ·subst c;exact .inr ⟨_,kb,xs,hE,z2⟩
     ·exact .inr ⟨i,k,zs,z,z2⟩
    have YG:RE K B H' S' (E.set jb (oZ (.o kb ys))):=by
     refine re.step hk (by simp) (λi t h=>?_) (λi k zs h=>?_) (λa z=>?_)
     ·obtain⟨_,z⟩|⟨_,z⟩:=ji h
      ·cases z
      ·exact z
     ·obtain⟨c,z⟩|⟨c,z⟩:=ji h
      ·cases z;subst c;refine⟨xs,hE,λa ha=>?_⟩;rw[qf]at ha;cases ha;exact⟨mz,hb0,b2.step kpb⟩
      ·refine⟨zs,z,λa ha=>?_⟩;obtain⟨a',lh,p1,p2,p3,_⟩:=re.own i k zs z;rw[ha]at p1;cases p1;have na:a≠a0:=λw=>c (re.inj i jb k kb zs xs a0 z hE (by rw[<-w];exact ha) qf);exact⟨lh,ym a _ p2 na,p3.step kp⟩
     ·by_cases c:a=a0
      ·rw[c];exact⟨_,hb0⟩
      ·obtain⟨lh,e⟩:=re.bd a z;exact⟨lh,ym a _ e c⟩
    exact lk _ _ _ _ _ q2 ⟨⟨λb o z n=>hk b o z λy=>n (owz b y),λb z=>.inl (owz b (yd b z))⟩,[],by simp⟩ YG (Rp.step (Kp.mk (λb o z n=>kpo.keep b o z n) λb z=>kpo.new b (yd b z)) rv)
  ·exact q.elim
 ·exact q.elim
section
variable{X:Cx}{K:W.Frag}{pos ap:Pos}{e o:oC}{es:List oC}{Fo:FE}{Fr:FA}{name:Str}{id:String}
def EV(G:Str->R->En->(R->En->Prop)->Prop)(Fo:FE)(Fr:FA):FE:=λE Q=>Fo E λx E1=>s1 (vl E1 x) λi=>Fr E1 λrs E2=>match rs with
 |[y]=>G i y E2 Q
 |_=>False
theorem Y5{G:Str->R->En->(R->En->Prop)->Prop}{r:V->List V->Hp->VK->Prop}(slot:Slot "str" name id)(qd:typeOf (.builtin id)=pure (.type "method_descriptor"))(hm:DI X id r)(k:∀B S E i y w H2 Q' Q,RE K B H2 S E->RR K B H2 S E y w->G i y E Q'->Lk K B H2 S E Q' Q->r (.str i) [w] H2 Q)(ho:QE X o (aI K Fo))(ha:QA X [e] (dA K n Fr))(ZD:WH o name X.env (VY o X.env)=VY o X.env:=by rfl)(ZE:(ap.endLine==pos.line)=true:=by rfl)(hs:a9 e=false:=by rfl):
  QE X (.Call (.Attribute o name ap) [e] [] pos) (aI K (EV G Fo Fr)):=by
 refine QE.le ⟨Oc PySem.F.plainAttrs_str slot qd hm ho.h ha.h ZD (by rw[cK hs];rfl) ZE (cK hs) (fL rfl)⟩ λσ H Q hl h=>one (Fa:=Fo) h λB S E x v H2 Q' hS re rx q lk=>?_;obtain⟨i,e1,q⟩:=q.ex;have ev:=re.str rx e1;subst ev;refine⟨rfl,B,S,E,_,hS,re,q,λrs E2 vs H3 S3 q3 g cj rr hn=>?_⟩;obtain _|⟨y,_|⟨_,_⟩⟩:=rs
 ·exact False.elim q3
 ·obtain⟨w,ws,e2,h1,h2⟩:=rr;cases h2;subst e2;exact k B S3 E2 i y w H3 Q' Q cj h1 q3 (lk.step g)
 ·exact False.elim q3
def Oz(l:List Str):List T:=l.map T.str
def k7:List T->Option (List Str)
 |[]=>oZ []
 |.str x::r=>(k7 r).map (x::·)
 |_=>none
theorem Au:∀{xs:List T}{l:List Str},k7 xs=oZ l->xs=Oz l
 |[],_,h=>by cases h;rfl
 |.str x::r,l,h=>by
  cases q:k7 r with
  |none=>rw[k7,q]at h;cases h
  |some m=>
   rw[k7,q]at h;cases h;rw[Au q];rfl
 |.non::_,_,h=>by cases h
 |.bl _::_,_,h=>by cases h
 |.int _::_,_,h=>by cases h
 |.tup _::_,_,h=>by cases h
 |.lst _::_,_,h=>by cases h
theorem Ij:∀l:List Str,k7 (Oz l)=oZ l
 |[]=>rfl
 |x::l=>by show(k7 (Oz l)).map (x::·)=_;rw[Ij l];rfl
def Q1(i:Str)(y:R)(E:En)(Q:R->En->Prop):Prop:=match vl E y with
 |some (.lst xs)=>o1 (k7 xs) λl=>JoinOk i l=true/\∀z,z=UR i l->Q (.p (.str z)) E
 |_=>False
theorem Av:∀{l:List Str}{us:List oA},bA (l.map V.str) us->∃m:List (Str×Tok),us=strValues m/\m.map (·.1)=l
 |[],us,h=>by cases h;exact⟨[],rfl,rfl⟩
 |x::l,us,h=>by
  cases h with
  |cons h1 h2=>
   obtain⟨t,rfl⟩:=h1;obtain⟨m,rfl,e⟩:=Av h2;exact⟨(x,t)::m,rfl,by rw[PZ,e]⟩
theorem Hy{O:VN->Prop}:∀{l:List Str}{vs:List V},cX K H O (Oz l) vs->vs=l.map V.str
 |[],_,h=>h
 |x::l,_,⟨v,r,e,h1,h2⟩=>by
  have h1:v = .str x:=h1;rw[e,h1,Hy h2];rfl
theorem G3:DI X "str.join" (λx vs H Q=>∃i a l,x = .str i/\vs=[.ref a]/\lZ X.K H a (l.map V.str)/\JoinOk i l=true/\Q (.str (UR i l)) H):=by
 intro pins s σ H x vs v us Q I rx rv h;obtain⟨i,a,l,rfl,rfl,sq,hj,q⟩:=h;obtain⟨t,rfl⟩:=rx;obtain⟨u,rfl,ry⟩:=yP rv;cases ry;obtain⟨XX,r,pl,hz⟩:=I.list sq;obtain⟨m,rfl,e⟩:=Av r;exact SC.join pl.isList e hj λt' k=>⟨.str _,H,I.tok _,⟨_,rfl⟩,q⟩
theorem D9(eK:X.K=K)(ho:QE X o (aI K Fo))(ha:QA X [e] (dA K n Fr))(ZD:WH o "join" X.env (VY o X.env)=VY o X.env:=by rfl)(ZE:(ap.endLine==pos.line)=true:=by rfl)(hs:a9 e=false:=by rfl):QE X (.Call (.Attribute o "join" ap) [e] [] pos) (aI K (EV Q1 Fo Fr)):=by
 subst eK;refine Y5 PySem.F.slot_str_join PySem.F.type_str_join G3 (λB S E i y w H2 Q' Q re rr q lk=>?_) ho ha ZD ZE hs;unfold Q1 at q;split at q
 ·rename_i xs e1;obtain⟨l,e2,c,q⟩:=o1.ex q;rw[Au e2]at e1;obtain⟨a,vs,rfl,sq,rs⟩:=re.vl rr e1;rw[Hy rs]at sq;exact⟨i,a,l,rfl,rfl,sq,c,lk _ _ _ _ _ (q _ rfl) .refl re rfl⟩
 ·exact q.elim
end
section
variable{X:Cx}{K:W.Frag}{pos:Pos}{a b c e o:oC}{es:List oC}{Fa Fb Fc Fo:FE}{Fr:FA}{rn Gh G:FO}
def DR(x:Str):It:=⟨λi _=>i<x.cps.size,λi H v H'=>H'=H/\∃c,x.cps[i]?=oZ c/\v = .str ⟨#[c]⟩,λi _=>i=x.cps.size⟩
theorem Zi{P:VQ}{w:VU}{tg:oC}(it:VN)(ty:String)(qd:ty = "str_ascii_iterator"\/ty = "str_iterator")(x:Str)(t:Tok):Jg P w K tg (DR x) [it] it (λi h=>h.IsStrIter it ty x t i) where
 mem:=by simp
 obj:=λi h st b hb=>by
  have e:b=it:=by simpa using hb
  subst e;obtain⟨o,e,c,d⟩:=st;exact⟨o,e,λv z=>by rw[d]at z;cases z⟩
 keep:=λi h h' st k=>let⟨o,ho,r⟩:=st;⟨o,k it (by simp) o ho,r⟩
 item:=by
  intro X hP hw hK hc i pins s σ H E I hf st hg;subst hP hw hK;have hg:i<x.cps.size:=hg;obtain⟨f0,f1,f2,f3,f4,f5⟩:=hf it (by simp);have hx:x.cps[i]?=oZ x.cps[i]:=by simp[hg]
  have fin:∀h',h'.IsStrIter it ty x t (i+1)->SU it s.heap h'->∃u,(oZ (SE ⟨#[x.cps[i]]⟩ s.toks))=oZ u/\VP (VR X.prog X.w) X.A (WS tg (.ref it) u) (λ_ s2=>∃y H',aU X pins σ H' s2/\bN y u/\(DR x).yld i H y H'/\s2.heap.IsStrIter it ty x t (i+1)/\∀b∈[it],H' b=none) E { s with heap:=h',toks:=s.toks+1 }:=λh' qi sb=>by
   have I1:aU X pins σ H { s with heap:=h',toks:=s.toks+1 }:=I.turned (λb o hb e=>(sb.2 b hb).trans e) f0 f1 f3 f4 f5;obtain⟨o,e,c,d⟩:=id qi;exact⟨_,rfl,Nh (s:={ s with heap:=h',toks:=s.toks+1 }) e c d (by rcases qd with rfl|rfl<;>decide) ⟨.str _,H,I1,⟨_,rfl⟩,⟨rfl,_,hx,rfl⟩,qi,λb hb=>(hf b hb).1⟩⟩
  obtain rfl|rfl:=qd
  ·exact wpAny_pyNext_ascii_item st hx fin
  ·exact wpAny_pyNext_wide_item st hx fin
 done:=by
  intro X hP hw hK hc i pins s σ H E I hf st hg;subst hP hw hK;have hg:i=x.cps.size:=hg;subst hg;obtain⟨f0,f1,f2,f3,f4,f5⟩:=hf it (by simp);have fin:∀h',Heap.ExtBut it s.heap h'->(none:Option oA)=none/\aU X pins σ H { s with heap:=h' }:=λh' eb=>⟨rfl,I.turned (t':=s.toks) (λb o hb e=>eb b o hb e) f0 f1 f3 f4 f5⟩;obtain rfl|rfl:=qd
  ·exact wpAny_pyNext_ascii_end (I.ok.hd hc) st (by simp) fin
  ·exact wpAny_pyNext_wide_end (I.ok.hd hc) st (by simp) fin
 self:=λ_ _ _ _ _ st h=>by
  obtain rfl|rfl:=qd
  ·exact wpAny_pyIter_striter_ascii st h
  ·exact wpAny_pyIter_striter_wide st h
def FF(tl:TE):TI:=λσ H R=>tl σ H λv H1=>∃x,v = .str x/\R (DR x) H1
theorem BL(hl:PE X l tl):PI X tg l (FF tl):=by
 intro pins s σ H R I h;refine dQ (hl pins s σ H _ I h) λv s1 zZ=>?_;obtain⟨y,H1,I1,r1,x,e,q⟩:=zZ;subst e;obtain⟨t,rfl⟩:=r1;have fin:∀ty,(ty = "str_ascii_iterator"\/ty = "str_iterator")->JG X pins σ tg R (.ref s1.heap.objs.size) { s1 with heap:=s1.heap.push { cls:=.type ty,data:=.fields #[.str x t,.int 0 0] } }:=λty qd=>by
  refine⟨s1.heap.objs.size,[s1.heap.objs.size],_,_,H1,rfl,I1.kept (t':=s1.toks) λb o e=>OA _ e,Zi _ ty qd x t,⟨_,OL _ rfl,rfl,rfl⟩,λb hb=>?_,q⟩;have e:b=s1.heap.objs.size:=by simpa using hb
  subst e;exact I1.fpOk (OF _) (I1.hok.fresh (OF _))
 cases ha:x.cps.all (· < 128)
 ·exact wpAny_pyIter_wide ha (fin _ (.inr rfl))
 ·exact wpAny_pyIter_ascii ha (fin _ (.inl rfl))
def uD(x:Str):List T:=x.cps.toList.map λc=>T.str ⟨#[c]⟩
theorem Z6:Es K (DR x) (uD x) (λ_ _=>True):=by
 refine⟨λ_ _ _ _ _ h=>h,λi H O _ hi=>by show i<x.cps.size;simpa[uD]using hi,λi H O v H' t _ e _ y=>?_,λH O _=>by simp[DR,uD]⟩;obtain⟨e1,c,hc,ev⟩:=y;subst e1;subst ev;unfold uD at e;rw[NY,VH,hc]at e;cases e;exact⟨Kp.refl _ _,λ_ _ z=>z,rfl⟩
def iS(Fa:FE):FI:=λE Q=>Fa E λr E1=>s1 (vl E1 r) λx=>Q (uD x) [] E1
theorem Y6(hl:QE X l (aI K Fa)):QI X tg l (mR K (iS Fa)):=by
 refine QI.le (t:=FF (aI K Fa)) ⟨BL hl.h⟩ λσ H R hn⟨B,S,E,Q',hS,re,hF,lk⟩=>⟨B,S,E,_,hS,re,hF,λr E1 v H1 S1 q g YI rr=>?_⟩;obtain⟨x,e1,q⟩:=s1.ex q;exact⟨x,YI.str rr e1,lk _ _ _ _ _ _ _ q g YI Z6 (λj hj=>absurd hj (by simp)) λ_ _ _=>trivial⟩
end
end L2
namespace L2
open PySem PySem.Spec PySem.W PySem.Calls PyProof.Rows PySem.Builtin.ObjectAttr
end L2
namespace L2
open PySem PySem.Spec PySem.W PySem.Calls PyProof.Rows PySem.Builtin.ObjectAttr
end L2
namespace L2
open PySem PySem.Spec PySem.W PySem.Calls PyProof.Rows PySem.Builtin.ObjectAttr
end L2
namespace L2
open PySem PySem.Spec PySem.W PySem.Calls PyProof.Rows PySem.Builtin.ObjectAttr
end L2
namespace L2
open PySem PySem.Spec PySem.W PySem.Calls PyProof.Rows PySem.Builtin.ObjectAttr
variable{cb:Bool}
end L2
namespace L2
open PySem PySem.Spec PySem.W PySem.Calls PyProof.Rows PySem.Builtin.ObjectAttr
end L2
namespace L2
open PySem PySem.Spec PySem.W PySem.Calls PyProof.Rows PySem.Builtin.ObjectAttr
end L2
namespace L2
open PySem PySem.Spec PySem.NumText PyProof.Rows
end L2
namespace L2
open PySem PySem.Spec PySem.NumText PyProof.Rows
section
variable{X:Cx}{K:W.Frag}{pos:Pos}{o e:oC}{Fo:FE}{Fr:FA}
def MO(i:Nat)(Fa:FE):FS:=λD E=>Fa E λr E1=>match r with
 |.s j=>(match E1[j]? with
  |some (↥xs)=>D.nx ((E1.take E.length).set i none)\/D.nx (((E1.set j (⇑(.lst xs))).take E.length).set i (⇑(.lst xs)))
  |_=>False)
 |_=>False
def KS(Fo:FE)(Fr:FA):FE:=λE Q=>Fo E λo E1=>o1 (ownOf E1 o) λ_=>Fr E1 λrs E2=>match o with
 |.s j=>(match E2[j]? with
  |some (oZ (.o k xs))=>(match rs with
   |[r]=>i1 (vl E2 r) λi=>0<=i/\xs.length<=9000/\o1 (xs[i.toNat]?) λt=>Q (.p t) (E2.set j (oZ (.o k (xs.eraseIdx i.toNat))))
   |_=>False)
  |_=>False)
 |_=>False
theorem Y4(eK:X.K=K)(ho:QE X o (aI K Fo))(ha:QA X [e] (dA K n Fr))(ZD:WH o "pop" X.env (VY o X.env)=VY o X.env:=by rfl)(ZE:(ap.endLine==pos.line)=true:=by rfl)(hs:a9 e=false:=by rfl):
  QE X (.Call (.Attribute o "pop" ap) [e] [] pos) (aI K (KS Fo Fr)):=
 QE.le (t:=DL X.K "list" Xi (aI K Fo) (dA K n Fr)) ⟨Oc PySem.F.plainAttrs_list PySem.F.slot_list_pop PySem.F.type_list_pop Vt ho.h ha.h ZD (by rw[cK hs];rfl) ZE (cK hs) (fL rfl)⟩ λσ H Q hl h=>by
  subst eK;obtain⟨B,S,E,Q',⟨τ,hS⟩,re,hF,lk⟩:=h;refine⟨B,S,E,_,⟨τ,hS⟩,re,hF,λoo E1 v H1 S1 q g1 YI rx=>?_⟩;obtain⟨τ1,df⟩:=g1.pre;obtain⟨kq,e0,q⟩:=o1.ex q;obtain⟨j,k,p,vs,rfl,hE,hSj,rfl,h2,h3⟩:=YI.ownOf rx e0;refine⟨.inl ⟨rfl,vs,lZ.of h2⟩,B,S1,E1,_,⟨τ++τ1,by rw[df,hS,OM]⟩,YI,q,λrs E2 us H2 S2 q2 g2 ZX rr hn=>?_⟩;have qq:S2[j]?=oZ (oZ (.ref p)):=gL g2.pre hSj;simp only at q2;split at q2
  ·rename_i k2' xs hE2;split at q2
   ·rename_i r;obtain⟨y,ws,rfl,k1,rfl⟩:=rr;obtain⟨i,e1,i0,hz,q3⟩:=q2.ex;obtain⟨t,ht,q3⟩:=o1.ex q3;have ey:=ZX.int k1 e1;subst ey;obtain⟨p',yi,z1,z2,z3,_⟩:=ZX.own j k2' xs hE2;rw[qq]at z1;cases z1;have vl:=z3.length;obtain⟨g3,cj⟩:=ZX.put (ys:=xs.eraseIdx i.toNat) (ws:=yi.eraseIdx i.toNat) hE2 qq (by rw[TQ,TQ];exact(z3.take _).append (z3.drop _));obtain⟨v,hv,rp⟩:=z3.get ht;have hil:=(NV.mp ht).1;have sx:seqIndex? i yi.length=oZ i.toNat:=by
     unfold seqIndex?;have h0:¬i<0:=⋯
     have h1:i<(yi.length:Int):=⋯
     simp[h0,h1]
     try lia
    exact⟨p,yi,i,i.toNat,v,rfl,rfl,z2,⋯,⋯,sx,hv,lk _ _ _ _ _ q3 ((g1.trans g2).trans g3) cj (rp.step g3.kp)⟩
   ·exact q2.elim
  ·exact q2.elim
end
def uG(t:Nat):List (Nat×Bool)->Nat->En->En->Option En
 |[],_,_,E=>oZ E
 |(_,false)::r,j,cm,E=>uG t r (j+1) cm E
 |(k,true)::r,j,cm,E=>match E[k]?,cm[t+j]? with
  |some (oZ (.o b _)),oZ (oZ (.o true ys))=>if bL ys=true then uG t r (j+1) cm (E.set k (oZ (.o b ys)))else none
  |_,_=>none
def Jq(t:Nat)(cap:List (Nat×Bool))(I:FI)(g:FG)(Fe:FE):FE:=λE Q=>I E λitems us E1=>cap.all (λk=>!(k.2&&us.contains k.1))=true/\
 lD g Fe items (pU t cap E1++[↥[]]) λcm=>match cm[t+cap.length]? with
  |some (↥zs)=>bL zs=true/\o1 (uG t cap 0 cm E1) λE2=>Q (.s E2.length) (E2++[↥zs])
  |_=>False
abbrev Yh(t:Nat)(K:W.Frag)(g:FG):TG:=Ig true t none K g
theorem rJ{cm:En}{cap:List (Nat×Bool)}:∀{r:List (Nat×Bool)}{n:Nat}{E E2:En},(r.map (·.1)).Nodup->(∀j k c,r[j]?=oZ (k,c)->cap[n+j]?=oZ (k,c))->uG t r n cm E=oZ E2->
  E2.length=E.length/\∀(i:Nat)(u:U),E2[i]?=oZ (oZ u)->(∃(j:Nat)(b:Bool)(ys kq:List T),r[j]?=oZ (i,true)/\E[i]?=oZ (oZ (.o b kq))/\cm[t+(n+j)]?=oZ (oZ (.o true ys))/\bL ys=true/\u = .o b ys)\/(E[i]?=oZ (oZ u)/\∀(j:Nat)(b:Bool)(xs:List T),r[j]?=oZ (i,true)->E[i]?≠oZ (oZ (.o b xs)))
 |[],n,E,E2,_,_,h=>by cases h;exact⟨rfl,λi u h=>.inr ⟨h,λj b xs z=>by simp at z⟩⟩
 |(k,false)::r,n,E,E2,nd,hc,h=>by
  obtain⟨eL,eG⟩:=rJ (cap:=cap) (r:=r) (n:=n+1) (QX.mp nd).2 (λj k c q=>by have:=hc (j+1) k c (by simpa using q);rwa [show n+(j+1)=n+1+j by lia]at this) h;refine⟨eL,λi u hu=>?_⟩;obtain⟨j,b,ys,kq,q1,q2,q3,q4,q5⟩|⟨q1,q2⟩:=eG i u hu
  ·exact .inl ⟨j+1,b,ys,kq,by simpa using q1,q2,by rwa [show n+(j+1)=n+1+j by lia],q4,q5⟩
  ·refine .inr ⟨q1,λj b xs z=>?_⟩;cases j with
   |zero=>simp at z
   |succ j=>exact q2 j b xs (by simpa using z)
 |(k,true)::r,n,E,E2,nd,hc,h=>by
  rw[uG]at h;split at h
  ·rename_i b kq ys hE zr;split at h
   ·rename_i zu;obtain⟨eL,eG⟩:=rJ (cap:=cap) (r:=r) (n:=n+1) (QX.mp nd).2 (λj k c q=>by have:=hc (j+1) k c (by simpa using q);rwa [show n+(j+1)=n+1+j by lia]at this) h;have nk:∀j c,r[j]?≠oZ (k,c):=λj c z=>(QX.mp nd).1 (QK.mpr ⟨(k,c),NX z,rfl⟩);have hk:k<E.length:=(NV.mp hE).1;refine⟨by rw[eL,TR],λi u hu=>?_⟩
    by_cases c:i=k
    ·subst c;obtain⟨j,b',ys',qm,q1,_⟩|⟨q1,q2⟩:=eG i u hu
     ·exact absurd q1 (nk j true)
     ·rw[OV hk]at q1;cases q1;exact .inl ⟨0,b,ys,kq,rfl,hE,zr,zu,rfl⟩
    ·have fg:(E.set k (oZ (.o b ys)))[i]?=E[i]?:=OP (λz=>c z.symm);obtain⟨j,b',ys',qm,q1,q2,q3,q4,q5⟩|⟨q1,q2⟩:=eG i u hu
     ·rw[fg]at q2;exact .inl ⟨j+1,b',ys',qm,by simpa using q1,q2,by rwa [show n+(j+1)=n+1+j by lia],q4,q5⟩
     ·rw[fg]at q1;refine .inr ⟨q1,λj b' xs z=>?_⟩;cases j with
      |zero=>simp at z;exact absurd z.symm c
      |succ j=>have:=q2 j b' xs (by simpa using z);rwa [fg]at this
   ·cases h
  ·cases h
theorem Qq{X:Cx}{K:W.Frag}{Fe:FE}{g:FG}{I:FI}{scope:XC}{N':List Str}{cap:List (Nat×Bool)}{t:Nat}(S:bM X N' scope t (cap.map (·.1)))(nh:(cap.map (·.1)).Nodup){σ:St}{H:Hp}{Q:VK}(hl:σ.length=X.N.length)(h:aI K (Jq t cap I g Fe) σ H Q):Aw t (cap.map (·.1)) (mR K I) (Yh t K g) (kO none K Fe) σ H Q:=by
 unfold Jq at h;simp only[<-Bs]at h;exact Io (zV (W:=uG t cap 0) (FC:=λzs p=>bL zs=true/\p) (rr:=.l) (Qv:=Q) (d:=none) S (.inr ⟨rfl,rfl⟩) nh (λ_ _ _ z=>(rJ nh (λj k c h=>by simpa using h) z).imp id λeG i u h=>by simpa using eG i u h) (λ_ _ z=>z.2) hl (λ_ _ _ z=>by cases z) (λzs D ws H1 H2 p hc hD h2 _ hn=>⟨_,⟨D,ws,rfl,hD,h2,hn hc.1⟩,id⟩) ⟨(λ_ z=>by cases z),h⟩)
theorem Up{X:Cx}{K:W.Frag}{pos:Pos}{t i:Nat}{x:Str}(hN:X.N.Nodup)(hi:X.N[i]?=oZ x)(hx:yT X.env.scope x)(hf:X.fn x=true\/X.env.scope.names.lookup x=oZ .local:=by first|exact .inl rfl|exact .inr rfl|assumption)(ht:i<t:=by decide):QG X (.Name x pos) (Yh t K (qD i)):=
 (sI hN hi hx hf).le λv σ H Q hl zZ=>by
  obtain⟨_,B,τ,E,u,Q',re,rp,hF,l⟩:=zZ;have ag:i<σ.length:=by rw[hl];exact(NV.mp hi).1
  obtain⟨r1,ow⟩:=re.setP (i:=i) rp;rw[List.set_append_left _ _ ag]at r1 ow;exact l _ _ _ hF (Kp.less ow) r1 (by simp) (λ_ z=>by cases z) λ_ j hj=>OP ⋯
theorem dH(a:sc.kind = .function:=by rfl)(b:sc.isCoroutine=false:=by rfl)(c:sc.isGenerator=false:=by rfl)(d:N.Nodup:=by decide +kernel)(e:N.take P.length=P:=by rfl)(f:∀x∈P,sc.names.lookup x=oZ .local\/sc.names.lookup x=oZ .cell:=by decide +kernel)(g:∀y∈sc.names,y.2≠.free:=by decide +kernel):aF N P sc:=⟨a,b,c,d,e,f,g⟩
theorem f1{X:Cx}{K:W.Frag}{Fa:FE}{e:oC}(a:QE X e (aI K Fa))(h:a9 e=false:=by rfl):QA X [e] (dA K (0+1) (jI Fa Jh)):=fc a bP h
theorem f2{X:Cx}{K:W.Frag}{Fa:FE}{Fb:FE}{e:oC}{e':oC}(a:QE X e (aI K Fa))(b:QE X e' (aI K Fb))(h:a9 e=false:=by rfl)(h':a9 e'=false:=by rfl):QA X [e,e'] (dA K (0+1+1) (jI Fa (jI Fb Jh))):=fc a (f1 b h') h
theorem f3{X:Cx}{K:W.Frag}{Fa:FE}{Fb:FE}{Fc:FE}{e:oC}{e':oC}{e1:oC}(a:QE X e (aI K Fa))(b:QE X e' (aI K Fb))(c:QE X e1 (aI K Fc))(h:a9 e=false:=by rfl)(h':a9 e'=false:=by rfl)(h1:a9 e1=false:=by rfl):QA X [e,e',e1] (dA K (0+1+1+1) (jI Fa (jI Fb (jI Fc Jh)))):=fc a (f2 b c h' h1) h
theorem f4{X:Cx}{K:W.Frag}{Fa:FE}{Fb:FE}{Fc:FE}{Fd:FE}{e:oC}{e':oC}{e1:oC}{e2:oC}(a:QE X e (aI K Fa))(b:QE X e' (aI K Fb))(c:QE X e1 (aI K Fc))(d:QE X e2 (aI K Fd))(h:a9 e=false:=by rfl)(h':a9 e'=false:=by rfl)(h1:a9 e1=false:=by rfl)(h2:a9 e2=false:=by rfl):QA X [e,e',e1,e2] (dA K (0+1+1+1+1) (jI Fa (jI Fb (jI Fc (jI Fd Jh))))):=fc a (f3 b c d h' h1 h2) h
theorem fX{X:Cx}{K:W.Frag}{pos:Pos}{Fa:FE}{Fb:FE}{e:oC}{e':oC}(a:QE X e (aI K Fa))(b:QE X e' (aI K Fb))(eK:X.K=K:=by rfl)(hs:vC e':=by exactλ_ _=>rfl):QE X (.Subscript e e' pos) (aI K (KN Fa Fb)):=P9 eK a b hs
theorem fQ{X:Cx}{K:W.Frag}{pos:Pos}(i:Nat){x:Str}{n:Int}{j p p'}(hN:X.N[i]?=oZ x:=by rfl)(hv:P4 X.env.scope x:=by first|exact PX rfl|exact QN (PX rfl)|exact QN (QN rfl))(hd:(x==("__debug__":Str))=false:=by decide)(ja:(x==("__classdict__":Str))=false:=by decide)(eK:X.K=K:=by rfl):QE X (.Subscript (.Name x p) (.Constant (.int n) j p') pos) (aI K (KN (Qw i) (fC (.int n)))):=P9 eK (fv i hN hv hd ja) aA λ_ _=>rfl
theorem fK{X:Cx}{K:W.Frag}{pos:Pos}{e:oC}{es:List oC}{n k j:Nat}{x:Str}{ps:List Str}{S:dG}{Fr:FA}{p:Pos}(F:Fn X.prog X.w X.K X.mg X.base k x ps (aJ K S))(ha:QA X (e::es) (dA K n Fr))(hr:dD j X.A:=by assumption)(hk:k<=j:=by decide)(hg:Gl X x:=by rfl)(cg:(x==("__debug__":Str))=false:=by decide)(hs:bO (e::es)=true:=by rfl):QE X (.Call (.Name x p) (e::es) [] pos) (aI K (Ge S Fr)):=vI F hr hk hg ha cg hs
theorem fB{X:Cx}{K:W.Frag}{pos:Pos}{e:oC}{es:List oC}{n k j:Nat}{x:Str}{ps:List Str}{S:dG}{Fr:FA}{p:Pos}(F:Fn X.prog X.w X.K X.mg X.base k x ps (aJ K S))(ha:QA X (e::es) (dA K n Fr))(hr:dD j X.A:=by assumption)(hk:k<=j:=by decide)(hg:Gl X x:=by rfl)(cg:(x==("__debug__":Str))=false:=by decide)(hs:bO (e::es)=true:=by rfl):QE X (.Call (.Name x p) (e::es) [] pos) (aI K (Ug S Fr)):=d5 F hr hk hg ha cg hs
theorem fS{X:Cx}{K:W.Frag}{pos:Pos}{Fa:FE}{e:oC}(i:Nat){x:Str}{pos':Pos}(hN:X.N.Nodup)(he:QE X e (aI K Fa))(hi:X.N[i]?=oZ x:=by rfl)(hx:yT X.env.scope x:=by first|exact .inl rfl|exact .inr rfl)(hs:WJ e (oZ (.Name x pos')) pos.line X.env=pure false:=by rfl)(hf:X.fn x=true\/X.env.scope.names.lookup x=oZ .local:=by first|exact .inl rfl|exact .inr rfl):QS X (.Assign [.Name x pos'] e pos) (i9 K (M8 i Fa)):=Jw hN hi hx he hs hf
theorem fG{X:Cx}{K:W.Frag}{pos:Pos}(i:Nat){x:Str}(hN:X.N.Nodup)(hi:X.N[i]?=oZ x:=by rfl)(hx:yT X.env.scope x:=by first|exact .inl rfl|exact .inr rfl)(hf:X.fn x=true\/X.env.scope.names.lookup x=oZ .local:=by first|exact .inl rfl|exact .inr rfl):QG X (.Name x pos) (u9 K (qD i)):=kL hN hi hx hf
theorem fH{X:Cx}{K:W.Frag}{pos:Pos}(i:Nat){x:Str}{N':List Str}{scope C s3 H3 fp}(hN:N'.Nodup:=by decide +kernel)(hi:N'[i]?=oZ x:=by rfl)(hx:yT (aW X N' scope C s3 H3 fp).env.scope x:=by first|exact .inl rfl|exact .inr rfl)(hf:(aW X N' scope C s3 H3 fp).fn x=true\/(aW X N' scope C s3 H3 fp).env.scope.names.lookup x=oZ .local:=by first|exact .inl rfl|exact .inr rfl):QG (aW X N' scope C s3 H3 fp) (.Name x pos) (u9 K (qD i)):=kL hN hi hx hf
theorem fP{X:Cx}{K:W.Frag}{pos:Pos}{Fa:FE}{Fb:FE}{e:oC}{e':oC}{op:CmpOp}{g:Int->Int->Bool}(ho:m4 X (WE op) (Sx λi j=>.bl (g i j)))(ha:QE X e (aI K Fa))(hb:QE X e' (aI K Fb))(hm:WA op e'=false:=by exact bK _):QT X (.Compare e [op] [e'] pos) (i8 K (Ex (KH g Fa Fb))):=Q0 ho ha hb hm
theorem cL.okU{P:VQ}{w:VU}{K:W.Frag}{mg:Str->Option oA}{base:oE}{x qual:Str}{st:VS}{f:VN}{fd:WC}{N ps:List Str}{k:Nat}{S:dG}{F:FS}(Fn:cL K x qual st f fd)(Sc:aF N ps (aC st))
  (hb:∀{YZ:oA}{A:oD}{outer:List Env}{s:oB}{H:Hp}{E:XK},dD k (A.deeper (WU qual (aC st) s.heap.objs.size f YZ))->QB (wQ cO P w K mg base N qual (aC st) f YZ A outer s H E).nox (cW st) (i9 K F))
  (hF:∀as Q,S as Q->F (EI as Q) (kF as++OE (N.length-as.length) none)) (len:∀as Q,S as Q->as.length=ps.length:=by intro as Q h;(repeat obtain⟨_,h⟩:=h);all_goals (subst as;rfl)):(~~~aT) cO (k+1) f fd ps (aJ K S):=Fn.okT Sc len (λ_ _ _ _ _ _ h=>hb h) hF
theorem Qr{X:Cx}{pins:List (VN×Obj)}{σ:St}{H:Hp}{s:oB}{a:VN}{v:V}{u:oA}{r:oA}{A:oD}{E:oA->oB->Prop}{XZ:List (Key×V)}{k:Key}{Q:Unit->oB->Prop}(l:XZ.length<VW)(I:aU X pins σ H s)(e:H a=oZ (.dK XZ))(ry:bN (kV k) u)(rv:bN v r)(h:∀s',aU X pins σ (upd H a (.dK (tL XZ k v))) s'->Q () s'):
  VP (VR X.prog X.w) A (dictSet a u r) Q E s:=by
 obtain⟨z,hd,vs,rel,dd⟩:=EH I.hok e;have hz:vs.length<=VW:=by rw[<-rel.length];exact z
 have hl:(tL XZ k v).length<=VW:=by have:=uN XZ k v;lia
 refine wpAny_dictSet_pairs (hsz:=hz) (Gv ry) dd λh' dd' hs=>h _ ?_;have he:∃q,h'.get? a=oZ q:=let⟨q,_,_,hq,_⟩:=dd';⟨q,hq⟩;exact C9 I (by rw[e];exact True.intro) hs he (X2 hl hd (rel.put k rv) dd')
def W7(J:It)(D:VN)(g:TG)(tb:TT)(tk tv:TE)(Q:VK)(σ:St)(H:Hp):Prop:=∃W:Nat->Nat->St->Hp->Prop,(∃m,W 0 m σ H)/\∀i m σ' H',W i m σ' H'->
 (J.stop i H'/\Q (.ref D) H')\/(J.go i H'/\∀x H2,J.yld i H' x H2->g x σ' H2 λσ3 H3=>tb σ3 H3 λok vd=>if ok=true then tk σ3 vd λy H4=>tv σ3 H4 λz H5=>∃k XZ,y=kV k/\H5 D=oZ (.dK XZ)/\XZ.length<VW/\∃m',m'<m/\W (i+1) m' σ3 (upd H5 D (.dK (tL XZ k z)))else ∃m',m'<m/\W (i+1) m' σ3 vd)
def Yq(t:Nat)(cap:List Nat)(wi:TI)(g:TG)(tb:TT)(tk tv:TE):TE:=λσ H Q=>wi σ H λJ H1=>∀D,H1 D=none->W7 J D g tb tk tv Q (g8 t cap σ) (upd H1 D (.dK []))
theorem Wr(hc:X.calm=true)(S:bM X N' scope t cap)(hi:PI X target iter wi)(hg:∀C s3 H3 fp,PG (aW X N' scope C s3 H3 fp) target g)(hb:∀C s3 H3 fp,P2 (aW X N' scope C s3 H3 fp) ifs tb)(he:∀C s3 H3 fp,PE (aW X N' scope C s3 H3 fp) kx tk)(hv:∀C s3 H3 fp,PE (aW X N' scope C s3 H3 fp) vx tv)(hs:∀x,VX iter X.env x=pure x:=by intro _;rfl):
  PE X (.DictComp kx vx [⟨target,iter,ifs,0⟩] scope pos) (Yq t cap wi g tb tk tv):=by
 intro pins s σ H Q I h;rw[arm_eval_DictComp];exact zU (n0:=0) (ty:="dict") (data:=.dict #[]) (ho:=.dK []) (EC:=λD env=>do
   let kv <-VY kx env
   let vv <-WQ [kv] (VY vx env)
   standAt { kx.pos with endLine:=vx.pos.endLine,endCol:=vx.pos.endCol }
   WQ [kv,vv] (dictSet D kv vv)) (tel:=λD σ H R=>tk σ H λy H4=>tv σ H4 λz H5=>∃k XZ,y=kV k/\H5 D=oZ (.dK XZ)/\XZ.length<VW/\R (upd H5 D (.dK (tL XZ k z)))) hc S hi hg hb hs I (OG _) rfl (OG _)
  (λI2=>I2.laid (t':=_) (λb u e=>OA _ e) (OF _) (Tv _ I2.big))
  (λC s3 H3 fp D pins s σ H R Q I p z k=>VO (dQ (he C s3 H3 fp pins s σ H _ I z) λy s9⟨v9,H9,I9,r9,w9⟩=>VO (WR (dQ (hv C s3 H3 fp pins s9 σ H9 _ I9 w9) λy2 s10 zZ=>by
   obtain⟨v10,H10,vg,r10,kk,XZ,ek,hD,ag,hr⟩:=zZ;subst ek;exact VO (XI (WR (Qr (X:=aW X N' scope C s3 H3 fp) (A:=X.A) (E:=λ_ _=>False) ag vg hD r9 r10 λs' I'=>k _ _ I' (OG _) hr)))))))
  (λ_ _ _=>rfl) (λ_ _ _=>rfl) codeAny_compStart_dict h λs3 s6 H3 H5 fp D m I3 f3 qh my je ck so ba qn=>Fu I3 f3 qh my je ck so ba qn
abbrev di(i:Nat)(XZ:List (Key×V)):DD:=oZ (i,XZ)
theorem dO(h:Er i XZ σ H):lQ (di i XZ) σ H:=λx e=>by cases e;exact h
theorem Er.gr{K:W.Frag}{B:VN->Prop}{H:Hp}{H':Hp}{σ:St}{S:St}{S':St}{E:En}{E':En}{i:Nat}{XZ:List (Key×V)}(d:Er i XZ σ H)(re:RE K B H S E)(g:Gr B H S E H' S' E'):Er i XZ σ H':=by
 obtain⟨p,h1,h2⟩:=d;exact⟨p,h1,g.kp.keep p _ h2 λz=>by obtain⟨vs,e⟩:=re.ow z;rw[h2]at e;cases e⟩
theorem Yf{K:W.Frag}{H:Hp}{σ:St}{i:Nat}{XZ:List (Key×V)}{Fa:FE}{Q P:VK}(d:Er i XZ σ H)(h:aI K Fa σ H Q)(k:∀v J,Er i XZ σ J->Q v J->P v J):aI K Fa σ H P:=by
 obtain⟨B,S,E,Q',hS,re,hF,lk⟩:=h;exact⟨B,S,E,Q',hS,re,hF,λr E' v H' S' q g YG rr=>k _ _ (d.gr re g) (lk r E' v H' S' q g YG rr)⟩
section
variable{X:Cx}{K:W.Frag}{pos:Pos}{c e o:oC}{es:List oC}{b1 b2:List VS}{Fa Fo:FE}{Fp:FB}{Fr:FA}{F G:FS}{i n:Nat}{XZ:List (Key×V)}
theorem bd(h:QT X e (i8 K Fp)):QT X e (Ar (di i XZ) K Fp):=h.le λ_ _ _ z=>z.2
def EO(XZ:List (Key×V))(Fa:FE):FE:=λE Q=>Fa E λr E1=>i1 (vl E1 r) λn=>∃z,jF XZ (Sum.inl n)=oZ (.str z)/\Q (.p (.str z)) E1
theorem Um(hr:dD k X.A)(hiy:X.N[i]?=oZ y)(hvy:P4 X.env.scope y)(he:QE X e (aI K Fa))(hsl:Td e)(hd:(y==("__debug__":Str))=false:=by decide)(ja:(y==("__classdict__":Str))=false:=by decide):
  QE X (.Subscript (.Name y p1) e pos) (kO (di i XZ) K (EO XZ Fa)):=by
 refine QE.le (t:=T3 (zE i) (aI K Fa)) ⟨J9 (Q5 hr) (tJ hiy hvy hd ja) he.h hsl⟩ λσ H Q hl zZ=>?_;obtain⟨d',B,S,E,Q',hS,re,hF,lk⟩:=zZ;have d:=d' _ rfl;obtain⟨p,d1,d2⟩:=id d;refine⟨.ref p,d1,B,S,E,_,hS,re,hF,λr E1 v H1 S1 q g YI rr=>?_⟩;obtain⟨n,e1,z,e2,q⟩:=i1.ex q;obtain⟨p',d3,d4⟩:=d.gr re g;rw[d1]at d3;cases d3;have ev:v = .int n:=YI.int rr e1;subst ev;have dg:=Be.k (k:=Sum.inl n) d4;rw[e2]at dg;exact⟨p,.str z,rfl,dg,lk _ _ _ _ _ q g YI rfl⟩
def JV(XZ:List (Key×V))(Fa:FE):FB:=λE Q=>Fa E λr E1=>i1 (vl E1 r) λn=>Q (jF XZ (Sum.inl n)).isSome E1
theorem Z0(hr:dD k X.A)(hiy:X.N[i]?=oZ y)(hvy:P4 X.env.scope y)(he:QE X e (aI K Fa))(hd:(y==("__debug__":Str))=false:=by decide)(ja:(y==("__classdict__":Str))=false:=by decide)(h1:WA .In (.Name y p1)=false:=by first|exact nobehind _ ∅ ∅|rfl):QT X (.Compare e [.In] [.Name y p1] pos) (Ar (di i XZ) K (JV XZ Fa)):=by
 refine QT.le (t:=tB (HL (aI K Fa) (zE i))) ⟨BU (BB (Q5 hr) he.h (tJ hiy hvy hd ja)) h1⟩ λσ H Q zZ=>?_;obtain⟨d',B,S,E,Q',hS,re,hF,lk⟩:=zZ;have d:=d' _ rfl;refine⟨B,S,E,_,hS,re,hF,λr E1 v H1 S1 q g YI rr=>?_⟩;obtain⟨n,e1,q⟩:=i1.ex q;obtain⟨p,d1,d2⟩:=d.gr re g;have ev:v = .int n:=YI.int rr e1;subst ev;exact⟨.ref p,d1,p,_,rfl,Be.k (k:=Sum.inl n) d2,_,rfl,lk _ _ _ _ q g YI⟩
theorem Jt(eK:X.K=K)(ho:QE X o (aI K Fo))(ha:QA X [e] (Ie (di i XZ) K n Fr))(ZD:WH o "append" X.env (VY o X.env)=VY o X.env:=by rfl)(ZE:(ap.endLine==pos.line)=true:=by rfl)(hs:a9 e=false:=by rfl):
  QE X (.Call (.Attribute o "append" ap) [e] [] pos) (kO (di i XZ) K (Bu DZ Fo Fr)):=by
 subst eK;refine(Ao ho ha ZD ZE hs).le λσ H Q hl zZ=>?_;obtain⟨d',h⟩:=zZ;have d:=d' _ rfl;have m:DL X.K "list" Di (aI X.K Fo) (dA X.K n Fr) σ H Q:=Vr rfl h λB S E H2 xs ys rr y p vs Q re rx e hp hv hz k=>by
  cases rr with
  |s _=>cases e
  |p t=>
   cases e;refine⟨p,vs,y,rfl,rfl,hp,?_,k _ (hv.append ⟨y,[],rfl,rx,rfl⟩)⟩;rw[hv.length];simp only[OB,OS]at hz;exact b9 ⋯
 exact Yf d m λv H' d' z=>⟨z.1,dO d',z.2⟩
theorem Tx(he:QE X e (kO (di i XZ) K Fa))(hs:WJ e none pos.line X.env=pure false:=by rfl):QS X (.Expr e pos) (jA i XZ K (Xq Fa)):=
 (Dh he hs).le λD σ H hl zZ=>by obtain⟨dt,B,E,DT,re,hF,l⟩:=zZ;exact⟨dO dt,wH (P:=λ_ _ E'=>DT.nx E') re hF λr E' v H' S' q g YG rr ZX ow=>l.nx _ _ _ q (g.kp.trans (Kp.less ow)) ZX (dt.keep re g.kp.keep rfl)⟩
theorem P7(hc:QT X c (Ar (di i XZ) K Fp))(ha:QB X b1 (jA i XZ K F))(hb:QB X b2 (jA i XZ K G)):QS X (.If c b1 b2 pos) (jA i XZ K (MN Fp F G)):=
 (R5 hc ha hb).le λD σ H hl⟨dt,B,E,DT,re,hF,l⟩=>⟨dO dt,Bh (P:=λb E'=>if b=true then Cn E' (F DT)else Cn E' (G DT)) re hF λb H' E' q g YG=>by
  have dt':=dt.keep re g.keep rfl;cases b
  ·exact⟨dt',B,E',DT,YG,j7 q,l.step g⟩
  ·exact⟨dt',B,E',DT,YG,j7 q,l.step g⟩⟩
theorem Tu:QB X [] (jA i XZ K R8):=Xb.le λD σ H zZ=>by obtain⟨dt,B,E,DT,re,hF,l⟩:=zZ;exact l.nx _ _ _ hF (Kp.refl _ _) re dt
end
abbrev DW:=List A->(List (Key×V)->Prop)->Prop
def Ot(K:W.Frag)(S:DW):Sp:=λvs H Q _=>∃(as:List A)(Q':List (Key×V)->Prop),RE K (λa=>(none:Option VN)=oZ a) H (vs.map oZ) (kF as)/\jX as=none/\S as Q'/\
 ∀XZ a H',Q' XZ->H a=none->(∀b o,H b=oZ o->H' b=oZ o)->H' a=oZ (.dK XZ)->Q (.ref a) H'
def LK(x:Int×Str):T:=.tup [.int x.1,.str x.2]
def Zv(c:Str):List (Int×Str)->List (Key×V)->List (Key×V)
 |[],acc=>acc
 |x::r,acc=>Zv c r (if x.2=c then acc else tL acc (Sum.inl x.1) (.str x.2))
theorem r8{x:Int×Str}:∀{xs:List (Int×Str)}{acc:List (Key×V)},Zv c (xs++[x]) acc=if x.2=c then Zv c xs acc else tL (Zv c xs acc) (Sum.inl x.1) (.str x.2)
 |[],acc=>rfl
 |y::xs,acc=>r8 (xs:=xs)
theorem Ms:∀{xs:List (Int×Str)}{acc:List (Key×V)},(Zv c xs acc).length<=acc.length+xs.length
 |[],_=>OF _
 |x::xs,acc=>by
  have ih:=Ms (c:=c) (xs:=xs) (acc:=if x.2=c then acc else tL acc (Sum.inl x.1) (.str x.2));have:=uN acc (Sum.inl x.1:Key) (.str x.2);unfold Zv;rw[OT];split at ih<;>(rename_i h;first|rw[oV h]|rw[oW h])<;>lia
section
variable{X:Cx}{K:W.Frag}{pos:Pos}{Fa:FE}
def MQ(K:W.Frag)(c:Str)(Fa:FE):TE:=λσ H Q=>∃B S E Q',(∃τ,S=σ++τ)/\RE K B H S E/\Fa E Q'/\∀r E1 v H1 S1,Q' r E1->Gr B H S E H1 S1 E1->RE K B H1 S1 E1->RR K B H1 S1 E1 r v->
 ∃items,vl E1 r=oZ (.lst (items.map LK))/\items.length<=9000/\∀a,H1 a=none->Q (.ref a) (upd H1 a (.dK (Zv c items [])))
theorem GN{x1 c1 p1 p2 pt p3 p4 p5 p6 pcm}(eK:X.K=K)(hc:X.calm=true)(hr:∀C s3 H3 fp,dD k (aW X [x,y] scope C s3 H3 fp).A)(hi:QE X iter (aI K Fa))(S:bM X [x,y] scope 2 [])(hg:∀C s3 H3 fp,Sw (aW X [x,y] scope C s3 H3 fp) [.Name x p1,.Name y p2] (Ab (nT 0) (Ab (nT 1) F2)))(hg1:∀C s3 H3 fp,(WD [.Name x p1,.Name y p2] (aW X [x,y] scope C s3 H3 fp).env).length=2:=by intros;rfl)(hg2:∀C s3 H3 fp,(WD [.Name x p1,.Name y p2] (aW X [x,y] scope C s3 H3 fp).env).findIdx? (·.1)=none:=by intros;rfl)(h1:∀C s3 H3 fp,QE (aW X [x,y] scope C s3 H3 fp) (.Name x p3) (zE 0))(h2:∀C s3 H3 fp,QE (aW X [x,y] scope C s3 H3 fp) (.Name y p4) (zE 1))(h3:∀C s3 H3 fp,QE (aW X [x,y] scope C s3 H3 fp) (.Name y p5) (zE 1))(hs:∀z,VX iter X.env z=pure z:=by intro _;rfl)(hm:WA .NotEq (.Constant (.str c) c1 p6)=false:=by rfl):
  QE X (.DictComp (.Name x p3) (.Name y p4) [⟨.Tuple [.Name x p1,.Name y p2] x1 pt,iter,[.Compare (.Name y p5) [.NotEq] [.Constant (.str c) c1 p6] pcm],0⟩] scope pos) (MQ K c Fa):=by
 subst eK;refine QE.le (t:=Yq 2 [] (Vd X.K (aI X.K Fa)) (Z2 X.K 2 (Ab (nT 0) (Ab (nT 1) F2))) (Yy (Yu (CM X.K true) (zE 1) (tC (.str c)))) (zE 0) (zE 1))
  ⟨Wr hc S (Oe hi.h) (λC s3 H3 fp=>(Xf (X:=aW X [x,y] scope C s3 H3 fp) (k:=x1) hc (hg C s3 H3 fp) (hg1 C s3 H3 fp) (hg2 C s3 H3 fp)).h) (λC s3 H3 fp=>PT.one (Of (Wl (hr C s3 H3 fp)) (h3 C s3 H3 fp).h Wu hm)) (λC s3 H3 fp=>(h1 C s3 H3 fp).h) (λC s3 H3 fp=>(h2 C s3 H3 fp).h) hs⟩ λσ H Q hl⟨B,S,E,Q',hS,re,hF,lk⟩=>?_
 refine⟨B,S,E,_,hS,re,hF,λr E1 v H1 S1 q g YI rr=>?_⟩;obtain⟨items,e1,hl,q⟩:=lk r E1 v H1 S1 q g YI rr;obtain⟨a,vs,rfl,sq,rs⟩:=YI.vl rr e1;refine⟨a,rfl,⟨vs,sq⟩,λD hD=>?_⟩;have nd:∀{b:VN}{u:HO}{z},H1 b=oZ u->(upd H1 D z) b=oZ u:=λe=>by rw[bE (a8 e hD)];exact e
 have sqL:∀z,lZ X.K (upd H1 D z) a vs:=λz=>sq.imp (λh=>h.imp nd λzZ=>by obtain⟨o,h⟩:=zZ;exact⟨o,nd h⟩) id;refine⟨λi m σ' H'=>m=items.length-i/\i<=items.length/\σ'.length=2/\H'=upd H1 D (.dK (Zv c (items.take i) [])),⟨_,rfl,OG _,rfl,rfl⟩,?_⟩;rintro i m σ' H' ⟨rfl,jh,hσ,rfl⟩;obtain lt|ge:=OY i items.length
 ·have lv:vs.length=items.length:=by rw[rs.length,OD]
  refine .inr ⟨⟨vs,vs[i],sqL _,NW _⟩,?_⟩;rintro w H2 ⟨rfl,hw⟩;obtain⟨v',q1,q2⟩:=rs.get (i:=i) (x:=LK items[i]) (by rw[NY,NW lt];rfl);rw[hw vs (sqL _)]at q1;cases q1;obtain⟨b,us,rfl,xh,⟨_,_,e3,a1,_,_,e4,a2,a3⟩⟩:=q2.sqT;cases a3;cases a2;cases a1;subst e4;subst e3;have sqT:∀z,yS X.K (upd H1 D z) b [.int items[i].1,.str items[i].2]:=λz=>xh.imp (λh=>h.imp nd λzZ=>by obtain⟨o,h⟩:=zZ;exact⟨o,nd h⟩) id;refine⟨b,_,rfl,sqT _,rfl,_,_,rfl,_,_,rfl,rfl,?_⟩;have g0:((σ'.set 0 (oZ (V.int items[i].1))).set 1 (oZ (V.str items[i].2)))[0]?=oZ (oZ (.int items[i].1)):=by rw[OP ∅];exact OV ⋯
  have g1:((σ'.set 0 (oZ (V.int items[i].1))).set 1 (oZ (V.str items[i].2)))[1]?=oZ (oZ (.str items[i].2)):=OV (by simp;lia);have snoc:items.take (i+1)=items.take i++[items[i]]:=by rw[RW,NW lt];rfl
  refine⟨_,g1,.str items[i].2,.str c,rfl,rfl,by simp[dT],_,rfl,?_⟩;have ee:dX (.str items[i].2) (.str c)=decide (items[i].2=c):=by
   show(items[i].2==c)=_;exact Bool.beq_eq_decide_eq _ _
  rw[oV rfl,ee]
  by_cases z:items[i].2=c
  ·rw[oY z];refine⟨items.length-(i+1),⋯,rfl,lt,by simpa using hσ,?_⟩;rw[snoc,r8,oV z]
  ·rw[oX z];refine⟨_,g0,_,g1,Sum.inl items[i].1,_,rfl,dP,?_,items.length-(i+1),⋯,rfl,lt,by simpa using hσ,?_⟩
   ·have:=Ms (c:=c) (xs:=items.take i) (acc:=[]);rw[PM]at this;simp only[UZ]at this;exact b9 ⋯
   ·rw[O8,snoc,r8,oW z]
 ·refine .inl ⟨⟨vs,sqL _,by rw[rs.length,OD];exact ge⟩,?_⟩;rw[RP ge];exact q D hD
end
theorem M0{K:W.Frag}{B:VN->Prop}{H:Hp}{S:St}{E:En}{rs:List R}{vs:List V}{ts:List T}(re:RE K B H S E)(rr:Qd K B H S E rs vs)(e:Zy E rs=oZ ts):RE K (λa=>(none:Option VN)=oZ a) H (vs.map oZ) (kF (ts.map A.v)):=by
 have rp:=Cm re rr e (λ_=>False) (λ_ z=>z.elim) (λ_ _ _ _ _ _ z=>z);have no:∀b,¬Ow (λa=>(none:Option VN)=oZ a) (vs.map oZ) (ts.map λt=>oZ (U.p t)) b:=λb z=>by
  obtain z|⟨i,k,xs,h1,_⟩:=z
  ·cases z
  rw[NY]at h1;cases q:ts[i]? with
  |none=>rw[q]at h1;cases h1
  |some t=>rw[q]at h1;cases h1
 rw[wU];refine⟨by simp[rp.length],λi t h=>?_,λi k xs h=>?_,λi j k l xs ys a h _ _ _=>?_,λa z=>by cases z⟩
 all_goals
  rw[NY]at h;cases q:ts[i]? with
  |none=>rw[q]at h;cases h
  |some u=>
   rw[q]at h;cases h
   try
    obtain⟨v,h1,h2⟩:=rp.get q;exact⟨v,by rw[NY,h1];rfl,h2.step (Kp.less λb z=>no b z)⟩
section
variable{X:Cx}{K:W.Frag}{mj:List VS}{pos:Pos}{e:oC}{es:List oC}{Fr:FA}{i:Nat}{G:List (Key×V)->FS}
def CO(S:DW)(Fr:FA)(i:Nat)(G:List (Key×V)->FS):FS:=λD E=>Fr E λrs E1=>o1 (Zy E1 rs) λts=>S (ts.map A.v) λXZ=>G XZ D ((E1.take E.length).set i none)
theorem Tt{n k j:Nat}{x f:Str}{ps:List Str}{S:DW}{p p' pc:Pos}(F:Fn X.prog X.w X.K X.mg X.base k f ps (Ot K S))(hr:dD j X.A)(hk:k<=j)(hg:Gl X f)(ha:QA X (e::es) (dA K n Fr))(hN:X.N.Nodup)(hi:X.N[i]?=oZ x)(hx:yT X.env.scope x)(aAO:∀XZ,QB X mj (jA i XZ K (G XZ)))
  (cg:(f==("__debug__":Str))=false:=by decide) (mq:bO (e::es)=true:=by rfl) (hs:WJ (.Call (.Name f p) (e::es) [] pc) (oZ (.Name x p')) pos.line X.env=pure false:=by rfl) (hf:X.fn x=true\/X.env.scope.names.lookup x=oZ .local:=by first|exact .inl rfl|exact .inr rfl|assumption) :
  QB X (.Assign [.Name x p'] (.Call (.Name f p) (e::es) [] pc) pos::mj) (i9 K (CO S Fr i G)):=by
 refine(Dg (u:=λD σ H=>∃XZ,jA i XZ K (G XZ) D σ H) (Lc hN hi hx (xN F hr hk hg ha cg mq) hs hf) ⟨λpins s σ H D I zZ=>by obtain⟨XZ,z⟩:=zZ;exact(aAO XZ).h pins s σ H D I z⟩).leL λD σ H hl⟨B,E,DT,re,hF,l⟩=>?_;refine⟨B,σ,E,_,⟨[],by simp⟩,re,hF,λrs E1 vs H1 S1 q g YI rr hn=>?_⟩;obtain⟨ts,e1,q⟩:=q.ex;rw[PV];refine⟨ts.map A.v,_,M0 YI rr e1,Mo,q,λXZ a H' q2 _ kp ha=>⟨XZ,?_⟩⟩;obtain⟨c1,c2⟩:=YI.cut (E:=E) g.pre re.len;have c3:RE K B H' σ (E1.take E.length):=c1.kept kp;obtain⟨c4,c5⟩:=c3.setN (i:=i) (v:=.ref a);have gk:Kp (Ow B σ (E1.take E.length)) (Ow B σ (E1.take E.length)) H1 H':=⟨λb o e _=>kp b o e,λb z=>.inl z⟩;have gg:Gs B H σ E H' (σ.set i (oZ (.ref a))) ((E1.take E.length).set i none):=g.kp.trans ((Kp.less c2).trans (gk.trans (Kp.less c5)));have li:i<σ.length:=by rw[hl];exact(NV.mp hi).1
 refine⟨⟨a,OV li,ha⟩,B,_,DT,c4,q2,?_⟩;exact⟨λσ' H' E' z g' YG _=>l.nx _ _ _ z (gg.trans g') YG,λr E' v H' S' z g' YG rr=>l.rt _ _ _ _ _ z (gg.trans g') YG rr,λσ' H' E' z g' YG _=>l.bk _ _ _ z (gg.trans g') YG,λσ' H' E' z g' YG _=>l.ct _ _ _ z (gg.trans g') YG⟩
end
theorem cL.okD{P:VQ}{w:VU}{K:W.Frag}{mg:Str->Option oA}{base:oE}{x qual c:Str}{st:VS}{f:VN}{fd:WC}{N ps:List Str}{k:Nat}{S:DW}{Fa:FE}{e:oC}{pos:Pos}(Fn:cL K x qual st f fd)(Sc:aF N ps (aC st))(hbd:cW st=[.Return (oZ e) pos])(len:∀as Q,S as Q->as.length=ps.length)(hb:∀(YZ:oA)(A:oD)(outer:List Env)(s:oB)(H:Hp)(E:XK),dD k (A.deeper (WU qual (aC st) s.heap.objs.size f YZ))->QE (wQ cO P w K mg base N qual (aC st) f YZ A outer s H E).nox e (MQ K c Fa))(hF:∀as Q,S as Q->Fa (kF as++OE (N.length-as.length) none) λr E1=>∃items,vl E1 r=oZ (.lst (items.map LK))/\items.length<=9000/\Q (Zv c items [])):(~~~aT) cO (k+1) f fd ps (Ot K S):=by
 refine Fn.okQ Sc (λvs H Q E⟨as,Q',re,vh,hS,l⟩=>?_) (λYZ A outer s H vs Q E hr⟨as,Q',re,vh,hS,l⟩=>?_)
 ·have:=re.len;rw[OD,dZ]at this;rw[this];exact len as Q' hS
 have hl:vs.length=as.length:=by have:=re.len;rwa [OD,dZ]at this
 refine⟨_,by rw[hbd];exact La (Lb (hb YZ A outer s H E hr)),?_⟩;obtain⟨wk,ml⟩:=re.pad (N.length-as.length);have mq:kD N vs=vs.map oZ++OE (N.length-as.length) none:=by unfold kD;rw[hl]
 rw[mq];have no:∀b,¬Ow (λa=>(none:Option VN)=oZ a) (vs.map oZ) (kF as) b:=λb z=>by
  obtain z|⟨i,kk,xs,h1,h2⟩:=z
  ·cases z
  ·exact wK vh h1
 refine⟨_,_,_,_,⟨[],by simp⟩,wk,hF as Q' hS,λr E1 v H1 S1 q g YI rr=>?_⟩;obtain⟨items,e1,h2,q⟩:=q;refine⟨items,e1,h2,λa ha=>?_⟩;have kp:∀b o,H b=oZ o->H1 b=oZ o:=λb o h=>g.kp.keep b o h λz=>no b (ml b z);refine l _ a _ q ?_ (λb o h=>by rw[bE (a8 (kp b o h) ha)];exact kp b o h) dP;cases e:H a with
 |none=>rfl
 |some o=>have:=kp a o e;rw[ha]at this;cases this
end L2
namespace L2
open PySem PySem.Spec PySem.W PySem.Calls PyProof.Rows PySem.SeqAt
theorem Uk{X:Cx}{K:W.Frag}{pos:Pos}{Fe:FE}{g:FG}{I:FI}{target elt iter:oC}{scope:XC}{N':List Str}{cap:List (Nat×Bool)}{t:Nat}(hc:X.calm=true)(S:bM X N' scope t (cap.map (·.1)))(nh:(cap.map (·.1)).Nodup)(hi:QI X target iter (mR K I))(hg:∀C s3 H3 fp,QG (aW X N' scope C s3 H3 fp) target (Yh t K g))(he:∀C s3 H3 fp,QE (aW X N' scope C s3 H3 fp) elt (aI K Fe))(hs:∀x,VX iter X.env x=pure x:=by intro _;rfl):
  QE X (.ListComp elt [⟨target,iter,[],0⟩] scope pos) (aI K (Jq t cap I g Fe)):=
 (Oh hc S hi hg (λC s H f=>(he C s H f).ed) hs).le λσ H Q hl h=>Qq S nh hl h
structure sV(mg:Str->Option oA)(w:VU)(K:W.Frag)(x k1 v1 k2 v2 k3 v3:Str):Prop where
 ex:∃(a:VN)(t1 t2 t3 t4 t5 t6:Tok)(n:Nat),mg x=oZ (.ref a)/\K.lookup a=oZ { cls:=.type "dict",data:=.dict #[⟨hashStr w k1,.str k1 t1,.str v1 t2⟩,⟨hashStr w k2,.str k2 t3,.str v2 t4⟩,⟨hashStr w k3,.str k3 t5,.str v3 t6⟩] n }
 ne:k1≠k2/\k1≠k3/\k2≠k3
def uP(k1 v1 k2 v2 k3 v3 z:Str):Option Str:=if z=k1 then oZ v1 else if z=k2 then oZ v2 else if z=k3 then oZ v3 else none
def T5(k1 v1 k2 v2 k3 v3:Str)(ty:TE):TE:=λσ H Q=>ty σ H λy H2=>∃z v,y=V.str z/\uP k1 v1 k2 v2 k3 v3 z=oZ v/\Q (V.str v) H2
section
variable{X:Cx}{K:W.Frag}{pos pos':Pos}{Fi:FE}{x k1 v1 k2 v2 k3 v3:Str}{i:oC}{ty:TE}
theorem K0(hg:Gl X x)(c:sV X.mg X.w X.K x k1 v1 k2 v2 k3 v3)(hi:PE X i ty)(hs:Td i)(hd:(x==("__debug__":Str))=false:=by decide):PE X (.Subscript (.Name x pos) i pos') (T5 k1 v1 k2 v2 k3 v3 ty):=by
 obtain⟨a,t1,t2,t3,t4,t5,t6,n,h1,h2⟩:=c.ex;obtain⟨n12,n13,n23⟩:=c.ne;intro pins s σ H Q I h;refine Pa PySem.F.slot_dict_getitem.lookup hs (dQ (Od (v:=.ref a) hg h1 rfl hd pins s σ H (λv H1=>v = .ref a/\H1=H) I ⟨rfl,rfl⟩) λu s1 zZ=>?_);obtain⟨x',H1,I1,rx,q1⟩:=zZ;obtain⟨rfl,rfl⟩:=q1;refine dQ (hi pins s1 σ H1 _ I1 h) λiv s2 zZ=>?_;obtain⟨y,H2,I2,ry,z,v,ey,ev,q2⟩:=zZ;subst ey;obtain rfl:u=QC a:=rx;have dd:s2.heap.DictOf (eO X.prog X.w) a [((Sum.inr k1:Key),SE v1 t2),(Sum.inr k2,SE v2 t4),(Sum.inr k3,SE v3 t6)]:=by
  refine⟨_,_,_,I2.kIn a _ h2,⟨rfl,rfl,rfl⟩,rfl,λe he=>?_,?_,?_⟩
  ·have vj:e∈[(⟨hashStr X.w k1,.str k1 t1,.str v1 t2⟩:DictEntry),⟨hashStr X.w k2,.str k2 t3,.str v2 t4⟩,⟨hashStr X.w k3,.str k3 t5,.str v3 t6⟩]:=by simpa using he
   obtain rfl|vj:=NZ.mp vj
   ·exact⟨Sum.inr k1,d8 _ _ _ _,rfl⟩
   obtain rfl|vj:=NZ.mp vj
   ·exact⟨Sum.inr k2,d8 _ _ _ _,rfl⟩
   ·rw[PD]at vj;subst vj;exact⟨Sum.inr k3,d8 _ _ _ _,rfl⟩
  ·exact .cons (d8 _ _ _ _) rfl (.cons (d8 _ _ _ _) rfl (.cons (d8 _ _ _ _) rfl .nil))
  ·have a12:(Sum.inr k1:Key)≠Sum.inr k2:=λe=>n12 (Sum.inr.inj e);have a13:(Sum.inr k1:Key)≠Sum.inr k3:=λe=>n13 (Sum.inr.inj e);have a23:(Sum.inr k2:Key)≠Sum.inr k3:=λe=>n23 (Sum.inr.inj e);simp only[PZ,List.map_nil,QX,NZ,QF,or_false,not_false_eq_true,VI,and_true,not_or];exact⟨⟨a12,a13⟩,a23⟩
 refine⟨dd.typeIs,?_⟩;have hv:∃t,valueAt [((Sum.inr k1:Key),SE v1 t2),(Sum.inr k2,SE v2 t4),(Sum.inr k3,SE v3 t6)] (Sum.inr z)=oZ (.str v t):=by
  unfold uP at ev;unfold valueAt
  by_cases e1:z=k1
  ·rw[oV e1]at ev;cases ev;exact⟨t2,by simp[e1]⟩
  ·rw[oW e1]at ev
   by_cases e2:z=k2
   ·rw[oV e2]at ev;cases ev;exact⟨t4,by simp[e2,n12]⟩
   ·rw[oW e2]at ev
    by_cases e3:z=k3
    ·rw[oV e3]at ev;cases ev;exact⟨t6,by simp[e3,n13,n23]⟩
    ·rw[oW e3]at ev;cases ev
 obtain⟨t,hv⟩:=hv;exact wpAny_getItem_of (Gv (k:=Sum.inr z) ry) dd.mapOf hv ⟨V.str v,H2,I2.tok _,⟨t,rfl⟩,q2⟩
def EN(k1 v1 k2 v2 k3 v3:Str)(Fi:FE):FE:=λE Q=>Fi E λy E2=>z1 (vl E2 y) λz=>o1 ((uP k1 v1 k2 v2 k3 v3 z).map T.str) λt=>Q (.p t) E2
theorem Nd(eK:X.K=K)(hg:Gl X x)(c:sV X.mg X.w K x k1 v1 k2 v2 k3 v3)(hi:QE X i (aI K Fi))(hs:Td i)(hd:(x==("__debug__":Str))=false:=by decide):QE X (.Subscript (.Name x pos) i pos') (aI K (EN k1 v1 k2 v2 k3 v3 Fi)):=by
 subst eK;refine QE.le (t:=T5 k1 v1 k2 v2 k3 v3 (aI X.K Fi)) ⟨K0 hg c hi.h hs hd⟩ λσ H Q hlen zZ=>?_;obtain⟨B,S,E,Q',hS,re,hF,lk⟩:=zZ;refine⟨B,S,E,_,hS,re,hF,λy E4 w H4 S4 q4 g4 qe ry=>?_⟩;obtain⟨z,e1,q4⟩:=z1.ex q4;obtain⟨t,e2,q4⟩:=o1.ex q4;have ew:_=V.str z:=qe.vl ry e1;subst ew;cases hv:uP k1 v1 k2 v2 k3 v3 z with
 |none=>rw[hv]at e2;cases e2
 |some v=>
  rw[hv]at e2;cases e2;exact⟨z,v,rfl,hv,lk _ _ _ _ _ q4 g4 qe rfl⟩
end
end L2
namespace My
open PySem L2 PyProof.Rows
def top(i:Nat):VS:=PySem.Challenge.pw_sidecut_k21_near_points_are_in_blocks.main.body.getD i (.Pass ⟨0,0,0,0⟩)
section
variable{P:VQ}{w:VU}{K:W.Frag}{mg:Str->Option oA}{base:oE}
structure Bx(xs:List T)(n:Int):Prop where
 ex:∃A B c:Int,xs=[.int A,.int B,.int c]/\0<=A/\0<=B/\B<2147483647/\0<=c/\c<=n
theorem Bx.mono{n m:Int}(b:Bx xs n)(h:n<=m):Bx xs m:=let⟨A,B,c,h1,h2,h3,h4,h5,h6⟩:=b;⟨A,B,c,h1,h2,h3,h4,h5,⋯⟩
def U9:dG:=λas Q=>∃(xs:List T)(m n:Int),as=[.b xs,.v (.int m)]/\Bx xs n/\n<=1000000/\1<=m/\m<2^200/\∀r ys,0<=r->r<m->Bx ys (n+1)->Q (.v (.int r)) ys
abbrev kJ(P w K mg base):=(~~~Fn) 1 "_law_take" ["_law_box_here","_law_many"] (aJ K U9)
abbrev Lm:VS:=top 70
theorem Dy:aF ["_law_box_here","_law_many","_law_once","_law_found"] ["_law_box_here","_law_many"] (aC Lm):=dH
theorem J0(F:cL K "_law_take" "_law_take" Lm f fd)(TX:Txt mg):(~~~aT) cO 1 f fd ["_law_box_here","_law_many"] (aJ K U9):=by
 refine F.okU Dy (λhr=>(aB (cD (fP Al (fQ 0) aA) (aB (d6 (Qx rfl TX.n_divmod (f2 (fQ 0) (fv 1))) (dE (n:=2) rfl rfl (aQ (Ju (fv 0) aA) (aQ (fG 3 Dy.nd) cH)))) (aE (aG (fv 3)))) bR) (aB (d6 (aY cF (fQ 0) aA) (Ju (fv 0) aA)) (aB (fS 2 Dy.nd (aP iI (aP Wm (aY cF (fQ 0) (aP aZ aA (fQ 0))) aA) aA)) (aE (aG (aP iI (aP dF (aP iI (aY cF (aP aZ (fv 2) aA) (aP aZ (aP aZ (fQ 0) (fQ 0)) aA)) aA) aA) (fv 1)))))))) ?_;rintro as Q ⟨xs,m,n,rfl,⟨A,B,c,rfl,hA,hB,hB2,hc,hcn⟩,hn,h1,h2,k⟩;show if decide (0<A)=true then _ else _
 by_cases hA0:0<A
 ·rw[oY hA0,oV rfl];refine⟨⟨⋯,h2⟩,⟨rfl,k _ _ (VB _ ⋯) (SW _ ⋯) ⟨_,_,_,rfl,Int.ediv_nonneg hA ⋯,hB,hB2,hc,⋯⟩⟩⟩
 ·rw[oX hA0,oW ∅];have p5:A9 (B+39373*(c+1)) 5:=⟨∅,∅,⋯⟩;have d64:zG (((B+39373*(c+1))^(5:Int).toNat%2147483647*48271+(c+1)*(c+1)*7919)%2147483629) 64:=⟨∅,OI (show(64:Int).natAbs<2^7 by decide) (PU ∅ ∅)⟩;refine⟨Ke ∅,p5,(by show(0:Int)<2147483647;decide),?_⟩;refine⟨Ha ∅,Ke ⋯,Ha ∅,?_⟩;refine⟨(by show(0:Int)<2147483629;decide),d64,(by show(0:Int)<m;lia),⟨rfl,?_⟩⟩;exact k _ _ (VB _ ⋯) (SW _ ⋯) ⟨_,_,_,rfl,hA,hB,hB2,⋯,⋯⟩
def bH(ns:List Int):List T:=ns.map T.int
theorem Ve{ns:List Int}{k:Int}(h0:0<=k)(h1:k<(ns.length:Int)):∃z,eZ (bH ns) k=oZ (.int z):=by
 have hk:k.toNat<ns.length:=⋯
 refine⟨ns[k.toNat],?_⟩;have e3:k=((k.toNat:Nat):Int):=⋯
 have z:=iO (xs:=bH ns) (j:=k.toNat) (v:=T.int ns[k.toNat]) (by rw[bH,NY,NW hk];rfl);rw[<-e3]at z;exact z
def Yo:dG:=λas Q=>∃(ns:List Int)(k:Int),as=[.v (.lst (bH ns)),.v (.int k)]/\0<=k/\k<=1000/\∀xs,Bx xs 0->bL xs=true->Q (.l xs) []
def O2:dG:=λas Q=>∃(n d:Int),as=[.v (.int n),.v (.int d)]/\d≠0/\d.natAbs<2^8000/\Q (.v (fr (fY n d))) []
theorem uK{i:Int}{n d:Int}(hd:d≠0)(hb:d.natAbs<2^8000):zG i ((PJ n.natAbs d.natAbs:Nat):Int):=by
 have h1:0<PJ n.natAbs d.natAbs:=SV _ ⋯;have h2:PJ n.natAbs d.natAbs<=d.natAbs:=Nat.gcd_le_right _ ⋯;exact⟨⋯,PL ⋯ hb⟩
theorem Na(i:Int)(n:Nat):i.fdiv (n:Int)=i/(n:Int):=QZ _ ⋯
def Pf:dG:=λas Q=>∃(n d:Int),as=[.v (.int n),.v (.int d)]/\Q (.v (.int ((PJ n.natAbs d.natAbs:Nat):Int))) []
abbrev kG(P w K mg base):=(~~~Fn) 1 "common_divisor" oG (aJ K Pf)
abbrev iK:VS:=top 1
theorem gQ:aF oG oG (aC iK):=dH
theorem sG(F:cL K "common_divisor" "common_divisor" iK f fd)(TX:Txt mg):(~~~aT) cO 1 f fd oG (aJ K Pf):=by
 refine F.okU gQ (λhr=>(aB (gH (i:=0) (j:=1) rfl gQ.nd rfl rfl ∅ rfl rfl (f2 (sZ rfl TX.n_abs (f1 (fv 0))) (sZ rfl TX.n_abs (f1 (fv 1)))) rfl) (aB (nQ PassesOwn.never (Gn rfl hr (fv 1) aA (bK _)) (aE (gH (i:=0) (j:=1) rfl gQ.nd rfl rfl ∅ rfl rfl (f2 (fv 1) (aP iI (fv 0) (fv 1))) rfl))) (aE (aG (fv 0)))))) ?_;rintro as Q ⟨n,d,rfl,q⟩;refine⟨λm E=>∃x y:Nat,E=[↑x,↑y]/\m=y/\PJ x y=PJ n.natAbs d.natAbs,⟨_,_,_,rfl,rfl,rfl⟩,?_⟩;rintro m E ⟨x,y,rfl,rfl,hg⟩;refine⟨OG _,?_⟩;show if(!((m:Int)==0))=true then _ else _
 by_cases hy:m=0
 ·subst hy;rw[oW ∅];rw[Nat.gcd_zero_right]at hg;subst hg;exact⟨rfl,q⟩
 ·rw[oV (by simpa using hy)];exact⟨(by show(0:Int)<(m:Int);lia),x%m,TC _ ⋯,m,x%m,rfl,rfl,by rw[Gp];exact hg⟩
abbrev dY(P w K mg base):=(~~~Fn) 2 "fraction" ["n","d"] (aJ K O2)
abbrev qU:VS:=top 2
theorem pF:aF ["n","d","divisor"] ["n","d"] (aC qU):=dH
theorem Hj(F:cL K "fraction" "fraction" qU f fd)(TX:Txt mg)(ZK: ~~~kG):(~~~aT) cO 2 f fd ["n","d"] (aJ K O2):=by
 refine F.okU pF (λhr=>(aB (Ra (Gn rfl hr (fv 1) aA (bK _))) (aB (fS 2 pF.nd (fK ZK (f2 (fv 0) (fv 1)))) (aB (cD (fP lI (fv 1) aA) (aE (fS 2 pF.nd (eV (fv 2)))) bR) (aE (aG (aM (f2 (aP dF (fv 0) (fv 2)) (aP dF (fv 1) (fv 2)))))))))) ?_;rintro as Q ⟨n,d,rfl,hd,hb,q⟩;have yq:(!(d==0))=true:=by simpa using hd
 refine⟨OG _,yq,n,d,rfl,?_⟩;have dn:((PJ n.natAbs d.natAbs:Nat):Int)∣n:=RD.mpr (SM _ _);have dd:((PJ n.natAbs d.natAbs:Nat):Int)∣d:=RD.mpr (SI _ _);have g0:((PJ n.natAbs d.natAbs:Nat):Int)≠0:=(uK (i:=0) (n:=n) hd hb).1;have aN:∀{g m:Int},g≠0->g∣m->m.fdiv (-g)=(-m)/g:=λ{g m}h0 hm=>by
  obtain⟨k,rfl⟩:=hm;have e1:g*k=(-g)*(-k):=by grind
  have e2:-(g*k)=g*(-k):=by grind
  rw[e2,QV _ h0,e1,US _ ⋯]
 show if decide (d<0)=true then _ else _
 by_cases h:d<0
 ·rw[oY h,oV rfl];have cz:∀i:Int,zG i (-((PJ n.natAbs d.natAbs:Nat):Int)):=λi=>⟨⋯,by rw[TB];exact(uK (i:=i) (n:=n) hd hb).2⟩;refine⟨cz _,cz _,rfl,?_⟩;unfold fY sF nW at q;rw[oW ⋯,oW ⋯,<-aN g0 dn,<-aN g0 dd]at q;exact q
 ·rw[oX h,oW ∅];refine⟨uK hd hb,uK hd hb,rfl,?_⟩;unfold fY sF nW at q;rw[oV ⋯,oV ⋯,<-Na,<-Na]at q;exact q
theorem pl(h:x<2^e)(k:e<=f):x<2^f:=OI h (PU ∅ k)
def vA(op:Fr->Fr->Fr):dG:=λas Q=>∃x y:Fr,as=[.v (fr x),.v (fr y)]/\bF x/\bF y/\sz x+sz y<=7900/\Q (.v (fr (op x y))) []
abbrev gF(P w K mg base):=(~~~Fn) 3 "added" oG (aJ K (vA aV))
abbrev Dk:VS:=top 3
theorem Xv:aF oG oG (aC Dk):=dH
theorem Vy(F:cL K "added" "added" Dk f fd)(TX:Txt mg)(YB: ~~~dY):(~~~aT) cO 3 f fd oG (aJ K (vA aV)):=by
 refine F.okU Xv (λhr=>(aE (aG (fK YB (f2 (aY cF (aP aZ (fQ 0) (fQ 1)) (aP aZ (fQ 1) (fQ 0))) (aP aZ (fQ 0) (fQ 1))))))) ?_;rintro as Q ⟨x,y,rfl,hx,hy,hs,q⟩;have hd:(x.2*y.2).natAbs<2^8000:=tK (bI (bW x) (bW y)) ⋯;exact⟨j6 (e:=7900) (pl (dN x) ⋯) (pl (bW y) ⋯) ∅,j6 (e:=7900) (pl (dN y) ⋯) (pl (bW x) ⋯) ∅,j6 (e:=7900) (pl (bW x) ⋯) (pl (bW y) ⋯) ∅,_,_,rfl,d9 hx hy,hd,rfl,q⟩
abbrev lB(P w K mg base):=(~~~Fn) 3 "taken" oG (aJ K (vA aS))
abbrev Dt:VS:=top 4
theorem Yc:aF oG oG (aC Dt):=dH
theorem Wg(F:cL K "taken" "taken" Dt f fd)(TX:Txt mg)(YB: ~~~dY):(~~~aT) cO 3 f fd oG (aJ K (vA aS)):=by
 refine F.okU Yc (λhr=>(aE (aG (fK YB (f2 (aY iJ (aP aZ (fQ 0) (fQ 1)) (aP aZ (fQ 1) (fQ 0))) (aP aZ (fQ 0) (fQ 1))))))) ?_;rintro as Q ⟨x,y,rfl,hx,hy,hs,q⟩;have hd:(x.2*y.2).natAbs<2^8000:=tK (bI (bW x) (bW y)) ⋯;exact⟨j6 (e:=7900) (pl (dN x) ⋯) (pl (bW y) ⋯) ∅,j6 (e:=7900) (pl (dN y) ⋯) (pl (bW x) ⋯) ∅,j6 (e:=7900) (pl (bW x) ⋯) (pl (bW y) ⋯) ∅,_,_,rfl,d9 hx hy,hd,rfl,q⟩
abbrev jV(P w K mg base):=(~~~Fn) 3 "times" oG (aJ K (vA aH))
abbrev Du:VS:=top 5
theorem Yd:aF oG oG (aC Du):=dH
theorem Wi(F:cL K "times" "times" Du f fd)(TX:Txt mg)(YB: ~~~dY):(~~~aT) cO 3 f fd oG (aJ K (vA aH)):=by
 refine F.okU Yd (λhr=>(aE (aG (fK YB (f2 (aP aZ (fQ 0) (fQ 1)) (aP aZ (fQ 0) (fQ 1))))))) ?_;rintro as Q ⟨x,y,rfl,hx,hy,hs,q⟩;have hd:(x.2*y.2).natAbs<2^8000:=tK (bI (bW x) (bW y)) ⋯;exact⟨j6 (e:=7900) (pl (dN x) ⋯) (pl (dN y) ⋯) ∅,j6 (e:=7900) (pl (bW x) ⋯) (pl (bW y) ⋯) ∅,_,_,rfl,d9 hx hy,hd,rfl,q⟩
def cS(x y x' y':Fr):Fr:=aV (aH x x') (aH y y')
def aX(x y x' y':Fr):Fr:=aS (aH x y') (aH y x')
structure Nv(a b:Fr)(e:Nat):Prop where
 x:bF a
 y:bF b
 sx:sz a<=e
 sy:sz b<=e
def DN(op:Fr->Fr->Fr->Fr->Fr):dG:=λas Q=>∃(x y x' y':Fr)(e f:Nat),as=[.v (vc x y),.v (vc x' y')]/\Nv x y e/\Nv x' y' f/\e+f<=3900/\Q (.v (fr (op x y x' y'))) []
abbrev qI(P w K mg base):=(~~~Fn) 4 "dot" oG (aJ K (DN cS))
abbrev Xs:VS:=top 14
theorem CS:aF oG oG (aC Xs):=dH
theorem AQ(F:cL K "dot" "dot" Xs f fd)(TX:Txt mg)(YF: ~~~jV)(YD: ~~~gF):(~~~aT) cO 4 f fd oG (aJ K (DN cS)):=by
 refine F.okU CS (λhr=>(aE (aG (fK YD (f2 (fK YF (f2 (fQ 0) (fQ 1))) (fK YF (f2 (fQ 0) (fQ 1)))))))) ?_;rintro as Q ⟨x,y,x',y',e,f,rfl,h,k,he,q⟩;have:=h.sx;have:=h.sy;have:=k.sx;have:=k.sy;have n1:=aK h.x k.x;have n2:=aK h.y k.y;have s1:=cC h.x k.x;have s2:=cC h.y k.y;exact⟨_,_,rfl,h.x,k.x,⋯,_,_,rfl,h.y,k.y,⋯,_,_,rfl,n1,n2,⋯,rfl,q⟩
def Pj:dG:=λas Q=>∃x y:Fr,as=[.v (vc x y)]/\Q (.v (vc (aN y) x)) []
abbrev iA(P w K mg base):=(~~~Fn) 1 "left_of" ["vector"] (aJ K Pj)
abbrev tQ:VS:=top 16
theorem rD:aF ["vector","x","y"] ["vector"] (aC tQ):=dH
theorem Kn(F:cL K "left_of" "left_of" tQ f fd)(TX:Txt mg):(~~~aT) cO 1 f fd ["vector"] (aJ K Pj):=by
 refine F.okU rD (λhr=>(aB (d6 (fv 0) (dE (n:=2) rfl rfl (aQ (fG 1 rD.nd) (aQ (fG 2 rD.nd) cH)))) (aE (aG (aM (f2 (aM (f2 (eV (fQ 2)) (fQ 2))) (fv 1))))))) ?_;rintro as Q ⟨x,y,rfl,q⟩;exact⟨rfl,q⟩
theorem d7(h:Nat.ble a b=true):a<=b:=Nat.le_of_ble_eq_true h
theorem dW(h:Nv x y e)(k:Nv c s f):val (cS x y c s)=val x*val c+val y*val s:=by
 unfold cS;rw[a7 (aK h.x k.x) (aK h.y k.y),aR h.x k.x,aR h.y k.y]
theorem dR(h:Nv x y e)(k:Nv c s f):val (aX x y c s)=val x*val s-val y*val c:=by
 unfold aX;rw[bQ (aK h.x k.y) (aK h.y k.x),aR h.x k.y,aR h.y k.x]
theorem bD(h:Nv x y e)(k:Nv c s f):bF (cS x y c s):=cI (aK h.x k.x) (aK h.y k.y)
theorem cJ(h:Nv x y e)(k:Nv c s f):bF (aX x y c s):=dB (aK h.x k.y) (aK h.y k.x)
theorem Nv.up{x y:Fr}{e f:Nat}(h:Nv x y e)(k:e<=f):Nv x y f:=⟨h.x,h.y,PQ h.sx k,PQ h.sy k⟩
theorem iW(n:Int):val (n,1)=(n:Rat):=by
 show(n:Rat)/((1:Int):Rat)=n
 push_cast
 grind
theorem gW:val (1,1)=1:=by rw[iW];rfl
theorem kQ:val (0,1)=0:=by rw[iW];rfl
def U3:dG:=λas Q=>∃x y:Fr,as=[.v (fr x),.v (fr y)]/\bF x/\bF y/\y.1≠0/\sz x+sz y<=7900/\Q (.v (fr (bX x y))) []
abbrev rP(P w K mg base):=(~~~Fn) 3 "over" oG (aJ K U3)
abbrev Lj:VS:=top 6
theorem N2:aF oG oG (aC Lj):=dH
theorem H0(F:cL K "over" "over" Lj f fd)(TX:Txt mg)(YB: ~~~dY):(~~~aT) cO 3 f fd oG (aJ K U3):=by
 refine F.okU N2 (λhr=>(aE (aG (fK YB (f2 (aP aZ (fQ 0) (fQ 1)) (aP aZ (fQ 0) (fQ 1))))))) ?_;rintro as Q ⟨x,y,rfl,hx,hy,h0,hs,q⟩;have hd:(x.2*y.1).natAbs<2^8000:=tK (bI (bW x) (dN y)) ⋯;exact⟨j6 (e:=7900) (pl (dN x) ⋯) (pl (bW y) ⋯) ∅,j6 (e:=7900) (pl (bW x) ⋯) (pl (dN y) ⋯) ∅,_,_,rfl,SR hx.ne h0,hd,rfl,q⟩
structure bV(x y:Fr)(e:Nat):Prop where
 nv:Nv x y e
 one:val x*val x+val y*val y=1
theorem bV.left(h:bV x y e):bV (aN y) x e:=⟨⟨eQ h.nv.y,h.nv.x,by rw[pJ];exact h.nv.sy,h.nv.sx⟩,by rw[bC h.nv.y,<-h.one];grind⟩
theorem V4(h:bF p):val p*(p.2:Rat)=(p.1:Rat):=by have:=h.neR;unfold val;grind
theorem EG(h:bF p):(0:Rat)<(p.2:Rat):=by have:=h.d;exact_mod_cast (show(0:Int)<p.2 by lia)
theorem eI(h:bF p):0<=val p↔0<=p.1:=by
 have e:=V4 h;have d:=EG h;constructor
 ·intro k;have:=Rat.mul_nonneg k (Rat.le_of_lt d);rw[e]at this
  exact_mod_cast this
 ·intro k;have k':(0:Rat)<=(p.1:Rat):=by exact_mod_cast k
  rcases Rat.le_total (a:=0) (b:=val p)with c|c
  ·exact c
  ·by_cases z:val p=0
   ·grind
   ·have:=Rat.mul_pos (a:=-val p) (b:=p.2) (by grind) d;grind
theorem yO(h:bF p):val p<=0↔p.1<=0:=by
 have:=eI (eQ h);rw[bC h]at this;have e:(aN p).1 = -p.1:=rfl;rw[e]at this;constructor
 ·intro k;have:=this.1 (by grind);lia
 ·intro k;have:=this.2 ⋯;grind
theorem El(h:bF p):val p<0↔p.1<0:=by
 have:=eI h;constructor
 ·intro k;exact Int.not_le.mp λc=>by have:=this.2 c;grind
 ·intro k;exact Rat.not_le.mp λc=>by have:=this.1 c;lia
theorem pK(h:bF p):0<val p↔0<p.1:=by
 have:=yO h;constructor
 ·intro k;exact Int.not_le.mp λc=>by have:=this.2 c;grind
 ·intro k;exact Rat.not_le.mp λc=>by have:=this.1 c;lia
theorem mD{lo:Int}(h:(g9 lo n)[i]?=oZ t):i<n/\t = .int (lo+(i:Int)):=by
 unfold g9 at h;rw[NY]at h;obtain c|c:=OY i n
 ·rw[RH c]at h;cases h;exact⟨c,rfl⟩
 ·rw[QU (by simpa using c)]at h;cases h
theorem bS{z k:Rat}(hk:0<k)(h:0<z*k):0<z:=by
 rcases Rat.le_total (a:=z) (b:=0)with c|c
 ·have:=Rat.mul_nonneg (a:=-z) (b:=k) (by grind) (Rat.le_of_lt hk);grind
 ·by_cases e:z=0
  ·rw[e]at h;grind
  ·grind
theorem iR{z k:Rat}(hk:0<k)(h:0<=z*k):0<=z:=by
 rcases Rat.le_total (a:=z) (b:=0)with c|c
 ·by_cases e:z=0
  ·grind
  ·have:=Rat.mul_pos (a:=-z) (b:=k) (by grind) hk;grind
 ·exact c
abbrev Tb(P w K mg base):=(~~~Fn) 1 "_law_box" ["_law_script","_law_k"] (aJ K Yo)
abbrev Xr:VS:=top 69
theorem Lo:aF ["_law_script","_law_k","_law_cell"] ["_law_script","_law_k"] (aC Xr):=dH
theorem AO(F:cL K "_law_box" "_law_box" Xr f fd)(TX:Txt mg):(~~~aT) cO 1 f fd ["_law_script","_law_k"] (aJ K Yo):=by
 refine F.okU Lo (λhr=>(aB (fS 2 Lo.nd aA) (aB (cD (fP lI (fv 1) (fR rfl rfl TX.n_len (f1 (fv 0)))) (aE (fS 2 Lo.nd (fX (fv 0) (fv 1)))) bR) (aE (aG (cV (f3 (aP aZ (sZ rfl TX.n_abs (f1 (fv 2))) (D8 rfl TX.n_int (f1 (Ul Wk (sZ rfl TX.n_abs (f1 (fv 2))) (aP Wm aA aA) (bK _))))) (aP iI (aY cF (fv 2) (aP aZ (aP aZ aA (fv 1)) (fv 1))) aA) aA))))))) ?_;rintro as Q ⟨ns,k,rfl,h0,h1,q⟩;have p10:A9 10 18:=⟨∅,∅,∅⟩;have bx:∀z:Int,Bx [.int ((z.natAbs:Int)*(if decide ((10:Int)^(18:Int).toNat<=(z.natAbs:Int))=true then 1 else 0)),.int ((z+7919*k*k)%2147483647),.int 0] 0:=λz=>
  ⟨_,_,_,rfl,TF ⋯ (by split<;>decide),VB _ ∅,SW _ ∅,∅,∅⟩
 have k2:(7919*k).natAbs<2^60:=⋯
 have one:∀z:Int,(if decide ((10:Int)^(18:Int).toNat<=(z.natAbs:Int))=true then(1:Int)else 0).natAbs<2^60:=λz=>by split<;>decide
 have pm:(λ(_ j:Int)=>0<j) 0 2147483647:=by show(0:Int)<2147483647;decide
 show if decide (k<((bH ns).length:Int))=true then _ else _
 by_cases hk:k<((bH ns).length:Int)
 ·rw[oY hk,oV rfl];obtain⟨z,hz⟩:=Ve (ns:=ns) h0 (by simpa[bH]using hk);show o1 (eZ (bH ns) k) _;rw[hz];exact⟨p10,Ha (one z),Ke ∅,Ke k2,pm,⟨rfl,q _ (bx z) rfl⟩⟩
 ·rw[oX hk,oW ∅];exact⟨p10,Ha (one 0),Ke ∅,Ke k2,pm,⟨rfl,q _ (bx 0) rfl⟩⟩
theorem C8(ns:List Int)(m:Nat):fO (bH ns) none (oZ (m:Int))=bH (ns.take m):=by
 unfold fO bH;rw[HT.sIx_none,HT.sIx_nat,List.drop_zero,Nat.sub_zero,List.map_take];obtain h|h:=Nat.le_total m (ns.map T.int).length
 ·rw[Nat.min_eq_left h]
 ·rw[Nat.min_eq_right h,RP (OF _),RP h]
theorem Tr{lo hi:Option Int}(h:y∈fO xs lo hi):y∈xs:=List.mem_of_mem_drop (List.mem_of_mem_take h)
theorem Tq(xs:List T)(m k:Nat):(fO xs (oZ (m:Int)) (oZ (k:Int))).length<=xs.length-m:=by
 unfold fO;rw[HT.sIx_nat,HT.sIx_nat,PM,RC];omega
theorem D2{xs:List T}{i:Nat}(h:(xs.zipIdx.map λq=>T.tup [.int (q.2:Int),q.1])[i]?=oZ x):∃y,xs[i]?=oZ y/\x = .tup [.int (i:Int),y]:=by
 rw[NY]at h;cases q:xs.zipIdx[i]? with
 |none=>rw[q]at h;cases h
 |some z=>
  rw[q]at h;cases h;obtain⟨q1,q2⟩:=NV.mp q;rw[List.getElem_zipIdx]at q2;subst q2;exact⟨_,NW (by simpa using q1),by simp⟩
def O3:dG:=λas Q=>∃(x y p q:Fr)(e f:Nat),as=[.v (vc x y),.v (vc p q)]/\Nv x y e/\Nv p q f/\e+f<=7000/\Q (.v (vc (aS x p) (aS y q))) []
inductive Pc where
 |side (x y:Fr)|arc (m n x y:Fr) (l:Bool)
def sQ(l:Bool):Str:=if l then "left" else "right"
def jO:Pc->L2.T
 |.side x y=>.tup [.str "side",vc x y]
 |.arc m n x y l=>.tup [.str "arc",vc m n,vc x y,.str (sQ l)]
def Pc.px:Pc->Fr
 |.side x _=>x
 |.arc _ _ x _ _=>x
def Pc.py:Pc->Fr
 |.side _ y=>y
 |.arc _ _ _ y _=>y
def Js(a b c d:Fr):Rat:=(val a-val c)*(val a-val c)+(val b-val d)*(val b-val d)
def qP(e:Nat)(a b:Fr):Pc->Prop
 |.side x y=>Nv x y e/\∃r:Rat,0<r/\Js x y a b=r*r
 |.arc m n x y _=>Nv m n e/\Nv x y e/\¬(x=a/\y=b)/\∃r:Rat,0<r/\Js a b m n=r*r/\Js x y m n=r*r
theorem bV.neg(h:bV x y e):bV (aN x) (aN y) e:=h.left.left
theorem bV.up(h:bV x y e)(k:e<=f):bV x y f:=⟨h.nv.up k,h.one⟩
def jZ(e:Nat):Fr->Fr->List Pc->Prop
 |_,_,[]=>True
 |a,b,p::ps=>qP e a b p/\jZ e p.px p.py ps
def cP:Fr->List Pc->Fr
 |a,[]=>a
 |_,p::ps=>cP p.px ps
def cQ:Fr->List Pc->Fr
 |b,[]=>b
 |_,p::ps=>cQ p.py ps
theorem qM:∀(ps:List Pc)(a:Fr)(p:Pc),cP a (ps++[p])=p.px
 |[],_,_=>rfl
 |q::ps,_,p=>qM ps q.px p
theorem qN:∀(ps:List Pc)(a:Fr)(p:Pc),cQ a (ps++[p])=p.py
 |[],_,_=>rfl
 |q::ps,_,p=>qN ps q.py p
theorem qP.up(k:e<=f):∀{p:Pc},qP e a b p->qP f a b p
 |.side _ _,h=>⟨h.1.up k,h.2⟩
 |.arc _ _ _ _ _,h=>⟨h.1.up k,h.2.1.up k,h.2.2⟩
theorem qP.nv:∀{p:Pc},qP e a b p->Nv p.px p.py e
 |.side _ _,h=>h.1
 |.arc _ _ _ _ _,h=>h.2.1
def cA(a b:Fr)(ps:List Pc):L2.T:=.tup [vc a b,.tup (ps.map jO)]
theorem AN:∀p:Pc,noL (jO p)=true
 |.side _ _=>rfl
 |.arc _ _ _ _ _=>rfl
theorem Vv(a b:Fr)(ps:List Pc)(h:bL (ps.map jO)=true):noL (cA a b ps)=true:=by
 show(true&&(bL (ps.map jO)&&true))=true;rw[h];rfl
theorem He:∀ps:List Pc,bL (ps.map jO)=true
 |[]=>rfl
 |p::ps=>by show(noL (jO p)&&bL (ps.map jO))=true;rw[AN,He ps];rfl
def Ta(n r:Nat):Prop:=r*r<=n/\n<(r+1)*(r+1)
theorem Ta.uniq(h:Ta n r)(k:Ta n s):r=s:=by
 obtain z|z|z:=Nat.lt_trichotomy r s
 ·have:=TH (show r+1<=s from z) (show r+1<=s from z);have:=h.2;have:=k.1;lia
 ·exact z
 ·have:=TH (show s+1<=r from z) (show s+1<=r from z);have:=k.2;have:=h.1;lia
theorem DY(x y:Nat):4*(x*y)<=(x+y)*(x+y):=by
 obtain h|h:=Nat.le_total x y
 ·obtain⟨k,rfl⟩:=UW h;have:(x+(x+k))*(x+(x+k))=4*(x*(x+k))+k*k:=by grind
  lia
 ·obtain⟨k,rfl⟩:=UW h;have:(y+k+y)*(y+k+y)=4*((y+k)*y)+k*k:=by grind
  lia
theorem xB(h:0<g):s<((g+s/g)/2+1)*((g+s/g)/2+1):=by
 have h1:s<g*(s/g+1):=Nat.lt_mul_div_succ s h;have h2:=DY g (s/g+1);generalize s/g=q at h1 h2⊢;have h3:g+(q+1)<=2*((g+q)/2+1):=⋯
 generalize(g+q)/2+1=b at h3⊢;have h4:=TH h3 h3;have h5:2*b*(2*b)=4*(b*b):=by grind
 lia
theorem Kg(h:0<g)(k:¬(g+s/g)/2<g):g*g<=s:=by
 have:g<=s/g:=⋯
 exact(Nat.le_div_iff_mul_le h).mp this
theorem wX(a b:Nat):((a:Int)).fdiv (b:Int)=((a/b:Nat):Int):=by
 rw[QZ _ ⋯];rfl
theorem wJ(g s:Nat):((g:Int)+((s:Int)).fdiv (g:Int)).fdiv 2=(((g+s/g)/2:Nat):Int):=by
 rw[wX,<-Int.natCast_add];exact wX _ 2
theorem Gk{s:Nat}(h:s≠0):∃g:Nat,(1:Int)*2^((((Builtin.Int.intBits (s:Int):Nat):Int)+1).fdiv 2).toNat=(g:Int)/\0<g/\s<g*g/\(∀e:Nat,s<2^e->g<=2^e)/\(0<=(((Builtin.Int.intBits (s:Int):Nat):Int)+1).fdiv 2)/\∀e:Nat,s<2^e->(((Builtin.Int.intBits (s:Int):Nat):Int)+1).fdiv 2<=e:=by
 have hb:Builtin.Int.intBits (s:Int)=s.log2+1:=by
  unfold Builtin.Int.intBits;rw[oW (by simpa using h)];rfl
 rw[hb];have e1:((((s.log2+1:Nat):Int)+1)).fdiv 2=(((s.log2+1+1)/2:Nat):Int):=wX (s.log2+1+1) 2;rw[e1,PR];have hl:=UP (n:=s);refine⟨2^((s.log2+1+1)/2),by rw[Int.one_mul];exact(Int.natCast_pow 2 _).symm,Nat.pow_pos ∅,?_,λe he=>?_,⋯,λe he=>?_⟩
 ·rw[<-Nat.pow_add];exact OI hl (PU ∅ ⋯)
 ·have:=(TL h).mpr he;exact PU ∅ ⋯
 ·have:=(TL h).mpr he
  lia
def Za:dG:=λas Q=>∃n:Nat,as=[.v (.int (n:Int))]/\n<2^3000/\∀r:Nat,Ta n r->Q (.v (.int (r:Int))) []
abbrev qB(P w K mg base):=(~~~Fn) 1 "whole_root" ["square"] (aJ K Za)
abbrev mK:VS:=top 8
theorem fJ:aF ["square","guess","better"] ["square"] (aC mK):=dH
theorem zB(F:cL K "whole_root" "whole_root" mK f fd)(TX:Txt mg):(~~~aT) cO 1 f fd ["square"] (aJ K Za):=by
 refine F.okU fJ (λhr=>(aB (cD (gJ rfl hr (fv 0) aA (bK _)) (aE (aG aA)) bR) (aB (fS 1 fJ.nd (aP AZ aA (aP dF (aY cF (D6 (fv 0)) aA) aA))) (aB (fS 2 fJ.nd (aP dF (aY cF (fv 1) (aP dF (fv 0) (fv 1))) aA)) (aB (nQ PassesOwn.never (fP lI (fv 2) (fv 1)) (aB (fS 1 fJ.nd (fv 2)) (aE (fS 2 fJ.nd (aP dF (aY cF (fv 1) (aP dF (fv 0) (fv 1))) aA))))) (aE (aG (fv 1)))))))) ?_;rintro as Q ⟨n,rfl,hb,q⟩;refine⟨OG _,?_⟩;show if L2.dX (.int (n:Int)) (.int 0)=true then _ else _
 by_cases hn:n=0
 ·subst hn;rw[oV (show L2.dX (.int ((0:Nat):Int)) (.int 0)=true by decide)];exact⟨rfl,q 0 ⟨∅,∅⟩⟩
 ·rw[oW (by simp[L2.dX];lia)];obtain⟨g0,eg,gp,gs,gb,c0,cb⟩:=Gk hn;have big:∀g:Nat,g<=2^3000->((g:Int)).natAbs<2^8000:=λg h=>by
   rw[Int.natAbs_natCast];exact PL h (Nat.pow_lt_pow_right ∅ ∅)
  have xx:∀i:Int,zG i 2:=λi=>⟨∅,tK (e:=2) ∅ ∅⟩;refine⟨xx _,⟨c0,Int.le_trans (cb 3000 hb) ∅,∅⟩,?_⟩;have eg':(λi j:Int=>i*2^j.toNat) 1 ((((Builtin.Int.intBits (n:Int):Nat):Int)+1).fdiv 2)=(g0:Int):=eg;rw[eg'];refine⟨⟨⋯,big g0 (gb _ hb)⟩,xx _,?_⟩;rw[wJ];refine⟨λm E=>∃g:Nat,E=[↑(n:Int),↑(g:Int),↑(((g+n/g)/2:Nat):Int)]/\m=g/\0<g/\g<=2^3000/\n<(g+1)*(g+1),⟨_,g0,rfl,rfl,gp,gb _ hb,Nat.lt_trans gs (UN (RZ _) (RZ _))⟩,?_⟩;rintro m E ⟨g,rfl,rfl,hg,hgb,hgn⟩;show if decide ((((m+n/m)/2:Nat):Int)<(m:Int))=true then _ else _
  by_cases ag:(m+n/m)/2<m
  ·rw[oY ⋯,oV rfl];have hp:0<(m+n/m)/2:=by
    obtain z|z:=QJ ((m+n/m)/2)
    ·have:=xB (s:=n) hg;rw[z]at this
     lia
    ·exact z
   refine⟨⟨⋯,big _ ⋯⟩,xx _,?_⟩;rw[wJ];exact⟨_,ag,_,rfl,rfl,hp,⋯,xB hg⟩
  ·rw[oX ⋯,oW ∅];exact⟨rfl,q m ⟨Kg hg ag,hgn⟩⟩
theorem Xj(r:Rat):∃f:Fr,bF f/\val f=r:=by
 refine⟨(r.num,(r.den:Int)),⟨by have:=r.den_pos;show(1:Int)<=(r.den:Int);lia,?_⟩,?_⟩
 ·show PJ r.num.natAbs ((r.den:Int)).natAbs=1;rw[Int.natAbs_natCast];exact r.reduced
 ·show(r.num:Rat)/((r.den:Int):Rat)=r;rw[<-Rat.divInt_eq_div];exact Rat.num_divInt_den r
theorem Ee(hp:bF p)(hf:bF f)(h:val p=val f*val f):f.1*f.1=p.1/\f.2*f.2=p.2:=by
 have n:bF (f.1*f.1,f.2*f.2):=by
  refine⟨?_,?_⟩
  ·have h1:1*1<=f.2*f.2:=VJ hf.d hf.d ∅ (by have:=hf.d;lia);exact h1
  ·show PJ (f.1*f.1).natAbs (f.2*f.2).natAbs=1;rw[PN,PN,<-UC,<-UC];exact Nat.Coprime.pow 2 2 hf.g
 have e:(f.1*f.1,f.2*f.2)=p:=by
  refine b8 n hp ?_;rw[h];have:=hf.neR;show((f.1*f.1:Int):Rat)/((f.2*f.2:Int):Rat)=_;unfold val
  push_cast
  grind
 rw[<-e];exact⟨rfl,rfl⟩
theorem Pb(hf:bF f)(h1:f.1*f.1=p.1)(h2:f.2*f.2=p.2):sz f<=sz p:=by
 have a:∀x y:Int,x*x=y->x.natAbs<=y.natAbs:=λx y h=>by
  have:=Int.natAbs_mul_self (a:=x);rw[<-h,PN];obtain z|z:=QJ x.natAbs
  ·rw[z];exact OG _
  ·exact Nat.le_mul_of_pos_left _ z
 exact pI (PL (a _ _ h1) (dN p)) (PL (a _ _ h2) (bW p)) (Ly p)
theorem R7{f:Int}{n:Nat}(h0:0<=f)(h:f*f=(n:Int)):Ta n f.natAbs:=by
 have h1:f.natAbs*f.natAbs=n:=by
  have:=Int.natAbs_mul_self (a:=f)
  lia
 exact⟨⋯,by rw[<-h1];exact UN (RZ _) (RZ _)⟩
def U7:dG:=λas Q=>∃p f:Fr,as=[.v (fr p)]/\bF p/\bF f/\sz p<=2900/\0<=val f/\val p=val f*val f/\Q (.v (fr f)) []
abbrev wA(P w K mg base):=(~~~Fn) 2 "root_of" ["one"] (aJ K U7)
abbrev tS:VS:=top 9
theorem mO:aF ["one","n","d","top","bottom"] ["one"] (aC tS):=dH
theorem Kq(F:cL K "root_of" "root_of" tS f fd)(TX:Txt mg)(ZO: ~~~qB):(~~~aT) cO 2 f fd ["one"] (aJ K U7):=by
 refine F.okU mO (λhr=>(aB (d6 (fv 0) (dE (n:=2) rfl rfl (aQ (fG 1 mO.nd) (aQ (fG 2 mO.nd) cH)))) (aB (cD (fP lI (fv 1) aA) (aE (aG Bw)) bR) (aB (gH (i:=3) (j:=4) rfl mO.nd rfl rfl ∅ rfl rfl (f2 (fK ZO (f1 (fv 1))) (fK ZO (f1 (fv 2)))) rfl) (aB (cD (F1 (Ng (Gn rfl hr (aP aZ (fv 3) (fv 3)) (fv 1) (bK _)) (Cc (Gn rfl hr (aP aZ (fv 4) (fv 4)) (fv 2) (bK _))))) (aE (aG Bw)) bR) (aE (aG (aM (f2 (fv 3) (fv 4)))))))))) ?_;rintro as Q ⟨p,f,rfl,hp,hf,hs,f0,h,q⟩;obtain⟨h1,h2⟩:=Ee hp hf h;have n0:=(eI hf).1 f0;have d0:=hf.d;have p0:0<=p.1:=by rw[<-h1];exact TF n0 n0
 have pd:=hp.d;have e1:p.1=((p.1.natAbs:Nat):Int):=⋯
 have e2:p.2=((p.2.natAbs:Nat):Int):=⋯
 have bb:∀x:Nat,x<2^sz p->x<2^3000:=λx h=>pl h ⋯;show if decide (p.1<0)=true then _ else _;rw[oX ⋯,oW ∅];refine⟨p.1.natAbs,by rw[<-e1];rfl,bb _ (dN p),λr hr=>?_⟩;refine⟨p.2.natAbs,by rw[<-e2];rfl,bb _ (bW p),λt ht=>?_⟩;have er:r=f.1.natAbs:=hr.uniq (R7 n0 (h1.trans e1));have et:t=f.2.natAbs:=ht.uniq (R7 ⋯ (h2.trans e2));have r1:(r:Int)=f.1:=⋯
 have t1:(t:Int)=f.2:=⋯
 have zf:=Pb hf h1 h2;have m1:∀{i:Int},i.natAbs<2^sz f->zH i i:=λh=>j6 (e:=3000) (pl h ⋯) (pl h ⋯) ∅;rw[r1,t1];refine⟨m1 (dN f),OG _,?_⟩;show if(!L2.dX (.int (f.1*f.1)) (.int p.1))=true then _ else _;rw[h1,nL,oW ∅];refine⟨m1 (bW f),OG _,?_⟩;show if(!L2.dX (.int (f.2*f.2)) (.int p.2))=true then _ else _;rw[h2,nL,oW ∅];exact⟨rfl,q⟩
abbrev k9(P w K mg base):=(~~~Fn) 4 "minus" oG (aJ K O3)
abbrev Dr:VS:=top 12
theorem Ya:aF oG oG (aC Dr):=dH
theorem We(F:cL K "minus" "minus" Dr f fd)(TX:Txt mg)(YT: ~~~lB):(~~~aT) cO 4 f fd oG (aJ K O3):=by
 refine F.okU Ya (λhr=>(aE (aG (aM (f2 (fK YT (f2 (fQ 0) (fQ 1))) (fK YT (f2 (fQ 0) (fQ 1)))))))) ?_;rintro as Q ⟨x,y,p,q,e,f,rfl,h,k,hs,z⟩;have:=h.sx;have:=h.sy;have:=k.sx;have:=k.sy;exact⟨_,_,rfl,h.x,k.x,⋯,_,_,rfl,h.y,k.y,⋯,rfl,z⟩
theorem rE(h:Nv x y e)(k:Nv p q f):sz (cS x y p q)<=2*(e+f)+1:=by
 have:=h.sx;have:=h.sy;have:=k.sx;have:=k.sy;have s1:=cC h.x k.x;have s2:=cC h.y k.y;have s6:=gV (aK h.x k.x) (aK h.y k.y);show sz (aV (aH x p) (aH y q))<=_
 lia
structure wF(x y f:Fr):Prop where
 nv:Nv x y 610
 nf:bF f
 pos:0<val f
 sq:val x*val x+val y*val y=val f*val f
theorem wF.sz(h:wF x y f):sz f<=2801:=by
 have v:=dW h.nv h.nv;rw[h.sq]at v;obtain⟨h1,h2⟩:=Ee (bD h.nv h.nv) h.nf v;have a:=Pb h.nf h1 h2;have b:=rE h.nv h.nv
 lia
theorem Gu{a:Int}{b:Int}(h:a*a=b)(k:b.natAbs<2^(2*e)):a.natAbs<2^e:=by
 rw[<-h,PN,SO,Nat.pow_add]at k
 by_cases c:a.natAbs<2^e
 ·exact c
 ·have c:=Nat.le_of_not_lt c;have:=TH c c
  lia
theorem wF.half(h:wF x y f):My.sz f<=1221:=by
 have v:=dW h.nv h.nv;rw[h.sq]at v;obtain⟨h1,h2⟩:=Ee (bD h.nv h.nv) h.nf v;have b:=rE h.nv h.nv;exact pI (Gu h1 (pl (dN _) (show My.sz (cS x y x y)<=2*1221 by lia))) (Gu h2 (pl (bW _) (show My.sz (cS x y x y)<=2*1221 by lia))) ∅
theorem wF.unit(h:wF x y f):Nv (bX x f) (bX y f) 1831:=by
 have f1:f.1≠0:=by have:=(pK h.nf).1 h.pos;lia
 have s:=h.half;have:=h.nv.sx;have:=h.nv.sy;have a:=pR h.nv.x f1;have b:=pR h.nv.y f1;exact⟨j8 h.nv.x f1,j8 h.nv.y f1,⋯,⋯⟩
def HS:dG:=λas Q=>∃x y f:Fr,as=[.v (vc x y)]/\wF x y f/\Q (.v (fr f)) []
abbrev lU(P w K mg base):=(~~~Fn) 5 "length_of" ["vector"] (aJ K HS)
abbrev o7:VS:=top 19
theorem Dx:aF ["vector"] ["vector"] (aC o7):=dH
theorem Cw(F:cL K "length_of" "length_of" o7 f fd)(TX:Txt mg)(dq: ~~~wA)(ZG: ~~~qI):(~~~aT) cO 5 f fd ["vector"] (aJ K HS):=by
 refine F.okU Dx (λhr=>(aE (aG (fK dq (f1 (fK ZG (f2 (fv 0) (fv 0)))))))) ?_;rintro as Q ⟨x,y,f,rfl,h,q⟩;have:=rE h.nv h.nv;have v:=dW h.nv h.nv;rw[h.sq]at v;exact⟨x,y,x,y,610,610,rfl,h.nv,h.nv,∅,_,f,rfl,bD h.nv h.nv,h.nf,⋯,Rat.le_of_lt h.pos,v,rfl,q⟩
def Pt:dG:=λas Q=>∃x y f:Fr,as=[.v (vc x y)]/\wF x y f/\Q (.v (vc (bX x f) (bX y f))) []
abbrev lY(P w K mg base):=(~~~Fn) 6 "unit_of" ["vector"] (aJ K Pt)
abbrev tX:VS:=top 20
theorem yF:aF ["vector","length"] ["vector"] (aC tX):=dH
theorem Kv(F:cL K "unit_of" "unit_of" tX f fd)(TX:Txt mg)(ZH: ~~~lU)(ZL: ~~~rP):(~~~aT) cO 6 f fd ["vector"] (aJ K Pt):=by
 refine F.okU yF (λhr=>(aB (fS 1 yF.nd (fK ZH (f1 (fv 0)))) (aB (cD (F1 (Ng (Z1 (fv 1) (bK _)) (Cc (gJ rfl hr (fv 1) (aM (f2 aA aA)) (bK _))))) (aE (aG Bw)) bR) (aE (aG (aM (f2 (fK ZL (f2 (fQ 0) (fv 1))) (fK ZL (f2 (fQ 0) (fv 1)))))))))) ?_;rintro as Q ⟨x,y,f,rfl,h,q⟩;have f1:f.1≠0:=by have:=(pK h.nf).1 h.pos;lia
 have ne:¬f=((0:Int),(1:Int)):=λz=>f1 (by rw[z]);have s:=h.sz;have:=h.nv.sx;have:=h.nv.sy;refine⟨x,y,f,rfl,h,d7 rfl,?_⟩;show if L2.dX (fr f) (fr (0,1))=true then _ else _;rw[Mx,oX ne,oW ∅];exact⟨_,_,rfl,h.nv.x,h.nf,f1,⋯,_,_,rfl,h.nv.y,h.nf,f1,⋯,rfl,q⟩
def HG:Pc->Bool
 |.side _ _=>true
 |.arc _ _ _ _ _=>false
def Ay:dG:=λas Q=>∃x y:Fr,as=[.v (vc x y)]/\Q (.v (vc y (aN x))) []
abbrev iZ(P w K mg base):=(~~~Fn) 1 "right_of" ["vector"] (aJ K Ay)
abbrev rB:VS:=top 17
theorem pG:aF ["vector","x","y"] ["vector"] (aC rB):=dH
theorem Hs(F:cL K "right_of" "right_of" rB f fd)(TX:Txt mg):(~~~aT) cO 1 f fd ["vector"] (aJ K Ay):=by
 refine F.okU pG (λhr=>(aB (d6 (fv 0) (dE (n:=2) rfl rfl (aQ (fG 1 pG.nd) (aQ (fG 2 pG.nd) cH)))) (aE (aG (aM (f2 (fv 2) (aM (f2 (eV (fQ 1)) (fQ 1))))))))) ?_;rintro as Q ⟨x,y,rfl,q⟩;exact⟨rfl,q⟩
def Ph:dG:=λas Q=>∃p:Pc,as=[.v (jO p)]/\Q (.v (.bl (HG p))) []
theorem HI:L2.dX (.str "side") (.str "side")=true:=nL _
theorem EA:L2.dX (.str "arc") (.str "side")=false:=∅
abbrev jT(P w K mg base):=(~~~Fn) 1 "is_side" ["piece"] (aJ K Ph)
abbrev tP:VS:=top 22
theorem Lp:aF ["piece"] ["piece"] (aC tP):=dH
theorem Km(F:cL K "is_side" "is_side" tP f fd)(TX:Txt mg):(~~~aT) cO 1 f fd ["piece"] (aJ K Ph):=by
 refine F.okU Lp (λhr=>(aE (aG (wY rfl hr (fQ 0) bG (bK _))))) ?_;rintro as Q ⟨p,rfl,q⟩;cases p with
 |side x y=>
  refine⟨OG _,rfl,?_⟩;rw[HI];exact q
 |arc m n x y l=>
  refine⟨OG _,rfl,?_⟩;rw[EA];exact q
def NP(p:Pc):L2.T:=vc p.px p.py
def Ys:dG:=λas Q=>∃p:Pc,as=[.v (jO p)]/\Q (.v (NP p)) []
abbrev fV(P w K mg base):=(~~~Fn) 2 "end_of" ["piece"] (aJ K Ys)
abbrev xU:VS:=top 23
theorem Sj:aF ["piece"] ["piece"] (aC xU):=dH
theorem Rl(F:cL K "end_of" "end_of" xU f fd)(TX:Txt mg)(YR: ~~~jT):(~~~aT) cO 2 f fd ["piece"] (aJ K Ys):=by
 refine F.okU Sj (λhr=>(aE (aG (nN (iF (fK YR (f1 (fv 0)))) (fQ 0) (fQ 0))))) ?_;rintro as Q ⟨p,rfl,q⟩;refine⟨p,rfl,?_⟩;cases p with
 |side x y=>exact⟨rfl,q⟩
 |arc m n x y l=>exact⟨rfl,q⟩
theorem qF{ps:List Pc}{i:Nat}(h:ps[i]?=oZ p):eZ (ps.map jO) (i:Int)=oZ (jO p):=iO (by rw[NY,h];rfl)
theorem w4{ps:List Pc}:∀{a:Fr}{i:Nat}{p:Pc},ps[i]?=oZ p->cP a (ps.take (i+1))=p.px:=by
 induction ps with
 |nil=>intro a i p h;simp at h
 |cons q ps ih=>
  intro a i p h;cases i with
  |zero=>cases h;rfl
  |succ i=>exact ih (a:=q.px) (i:=i) (by simpa using h)
theorem w6{ps:List Pc}:∀{a:Fr}{i:Nat}{p:Pc},ps[i]?=oZ p->cQ a (ps.take (i+1))=p.py:=by
 induction ps with
 |nil=>intro a i p h;simp at h
 |cons q ps ih=>
  intro a i p h;cases i with
  |zero=>cases h;rfl
  |succ i=>exact ih (a:=q.py) (i:=i) (by simpa using h)
def Ym:dG:=λas Q=>∃(a b:Fr)(ps:List Pc)(i:Nat),as=[.v (cA a b ps),.v (.int (i:Int))]/\i<ps.length/\Q (.v (vc (cP a (ps.take i)) (cQ b (ps.take i)))) []
abbrev iX(P w K mg base):=(~~~Fn) 3 "begin_of" oI (aJ K Ym)
abbrev qS:VS:=top 24
theorem Hz:aF oI oI (aC qS):=dH
theorem Hh(F:cL K "begin_of" "begin_of" qS f fd)(TX:Txt mg)(YC: ~~~fV):(~~~aT) cO 3 f fd oI (aJ K Ym):=by
 refine F.okU Hz (λhr=>(aE (aG (nN (gJ rfl hr (fv 1) aA (bK _)) (fQ 0) (fK YC (f1 (fX (fQ 0) (aY iJ (fv 1) aA)))))))) ?_;rintro as Q ⟨a,b,ps,i,rfl,hi,q⟩;refine⟨OG _,?_⟩;show if L2.dX (.int (i:Int)) (.int 0)=true then _ else _;cases i with
 |zero=>
  rw[oV ∅];exact⟨rfl,q⟩
 |succ i=>
  rw[oW (by simp[L2.dX];lia)];have jh:i<ps.length:=⋯
  have e:((i+1:Nat):Int)-1=(i:Int):=⋯
  show o1 (eZ (ps.map jO) (((i+1:Nat):Int)-1)) _;rw[e,qF (NW jh)];refine⟨ps[i],rfl,rfl,?_⟩;have h:=NW jh;rw[w4 h,w6 h]at q;exact q
theorem G0:∀{ps:List Pc},ps≠[]->∃L p,ps=L++[p]:=λ{ps}h=>⟨ps.dropLast,ps.getLast h,(SJ h).symm⟩
theorem rW(L:List L2.T)(t:L2.T):eZ (L++[t]) (-1)=oZ t:=by
 have e:Nk (L++[t]).length (-1)=oZ L.length:=by
  unfold Nk;rw[oW ∅,oV (by rw[OB,OS];lia),OB,OS]
  congr 1
  lia
 unfold eZ;rw[e];show(L++[t])[L.length]?=_;simp
def Pe:dG:=λas Q=>∃(a b:Fr)(ps:List Pc),as=[.v (cA a b ps)]/\ps≠[]/\Q (.v (.bl (decide (cP a ps=a/\cQ b ps=b)))) []
abbrev lR(P w K mg base):=(~~~Fn) 3 "is_closed" ["path"] (aJ K Pe)
abbrev oT:VS:=top 25
theorem Dw:aF ["path"] ["path"] (aC oT):=dH
theorem Ct(F:cL K "is_closed" "is_closed" oT f fd)(TX:Txt mg)(YC: ~~~fV):(~~~aT) cO 3 f fd ["path"] (aJ K Pe):=by
 refine F.okU Dw (λhr=>(aE (aG (wY rfl hr (fK YC (f1 (fX (fQ 0) (eV aA)))) (fQ 0) (bK _))))) ?_;rintro as Q ⟨a,b,ps,rfl,hn,q⟩;obtain⟨L,p,rfl⟩:=G0 hn;show o1 (eZ ((L++[p]).map jO) (-1)) _;rw[OR,show List.map jO [p]=[jO p]from rfl,rW];refine⟨p,rfl,d7 rfl,rfl,?_⟩;rw[qM,qN,<-Gd]at q;exact q
theorem xD(h:Nv x y e)(k:Nv p q f):Nv (aS x p) (aS y q) (e+f+1):=by
 have:=h.sx;have:=h.sy;have:=k.sx;have:=k.sy;have s1:=mT h.x k.x;have s2:=mT h.y k.y;exact⟨dB h.x k.x,dB h.y k.y,⋯,⋯⟩
def Ln(a b:Fr)(f:Fr):Pc->Prop
 |.side x y=>wF (aS x a) (aS y b) f
 |.arc m n x y _=>wF (aS a m) (aS b n) f/\wF (aS x m) (aS y n) f
theorem Kc{r:Rat}(h:Nv x y 300)(k:Nv p q 300)(hf:bF f)(e:val f=r)(r0:0<r)(hr:Js x y p q=r*r):wF (aS x p) (aS y q) f:=by
 refine⟨(xD h k).up ∅,hf,by rw[e];exact r0,?_⟩;rw[bQ h.x k.x,bQ h.y k.y,e,<-hr];rfl
theorem FP(h:Nv a b 300)(k:qP 300 a b p):∃f,Ln a b f p:=by
 cases p with
 |side x y=>
  obtain⟨n,r,r0,hr⟩:=k;obtain⟨f,f1,f2⟩:=Xj r;exact⟨f,Kc n h f1 f2 r0 hr⟩
 |arc m n x y l=>
  obtain⟨n1,n2,_,r,r0,hr1,hr2⟩:=k;obtain⟨f,f1,f2⟩:=Xj r;exact⟨f,Kc h n1 f1 f2 r0 hr1,Kc n2 n1 f1 f2 r0 hr2⟩
theorem j0:∀{a b:Fr}{i:Nat}{p:Pc},jZ e a b ps->ps[i]?=oZ p->qP e (cP a (ps.take i)) (cQ b (ps.take i)) p:=by
 induction ps with
 |nil=>intro a b i p h k;simp at k
 |cons q ps ih=>
  intro a b i p h k;cases i with
  |zero=>cases k;exact h.1
  |succ i=>exact ih (i:=i) h.2 (by simpa using k)
theorem nJ:∀{ps:List Pc}{a b:Fr}(i:Nat),Nv a b e->jZ e a b ps->Nv (cP a (ps.take i)) (cQ b (ps.take i)) e
 |[],_,_,i,h,_=>by rw[List.take_nil];exact h
 |_::_,_,_,0,h,_=>h
 |q::ps,_,_,i+1,h,k=>nJ (ps:=ps) i (qP.nv k.1) k.2
def F4(l:Bool)(ux uy:Fr):L2.T:=if l then vc (aN uy) ux else vc uy (aN ux)
def S8:dG:=λas Q=>∃(m n x y px py f:Fr)(l:Bool),as=[.v (jO (.arc m n x y l)),.v (vc px py)]/\Nv px py 300/\Nv m n 300/\wF (aS px m) (aS py n) f/\Q (.v (F4 l (bX (aS px m) f) (bX (aS py n) f))) []
abbrev m7(P w K mg base):=(~~~Fn) 7 "arc_heading" ["piece","point"] (aJ K S8)
abbrev kW:VS:=top 28
theorem pD:aF ["piece","point","unit"] ["piece","point"] (aC kW):=dH
theorem xE(F:cL K "arc_heading" "arc_heading" kW f fd)(TX:Txt mg)(YW: ~~~lY)(YS: ~~~k9)(YE: ~~~iA)(YH: ~~~iZ):(~~~aT) cO 7 f fd ["piece","point"] (aJ K S8):=by
 refine F.okU pD (λhr=>(aB (fS 2 pD.nd (fK YW (f1 (fK YS (f2 (fv 1) (fQ 0)))))) (aE (aG (nN (gJ rfl hr (fQ 0) bG (bK _)) (fK YE (f1 (fv 2))) (fK YH (f1 (fv 2)))))))) ?_;rintro as Q ⟨m,n,x,y,px,py,f,l,rfl,h,k,lg,q⟩;refine⟨px,py,m,n,300,300,rfl,h,k,∅,_,_,f,rfl,lg,OG _,?_⟩;show if L2.dX (.str (sQ l)) (.str "left")=true then _ else _;cases l with
 |true=>
  rw[oV ∅];exact⟨_,_,rfl,rfl,q⟩
 |false=>
  rw[oW ∅];exact⟨_,_,rfl,rfl,q⟩
def Va(a b f:Fr):Pc->L2.T
 |.side x y=>.tup [vc (bX (aS x a) f) (bX (aS y b) f),vc (bX (aS x a) f) (bX (aS y b) f)]
 |.arc m n x y l=>.tup [F4 l (bX (aS a m) f) (bX (aS b n) f),F4 l (bX (aS x m) f) (bX (aS y n) f)]
structure Te(a b:Fr)(ps:List Pc)(i:Nat)(p:Pc)(f:Fr):Prop where
 at_:ps[i]?=oZ p
 nv:Nv a b 300
 ch:jZ 300 a b ps
 ln:Ln (cP a (ps.take i)) (cQ b (ps.take i)) f p
theorem Uz(l:Bool)(x y:Fr):noL (F4 l x y)=true:=by cases l<;>rfl
def Ax:dG:=λas Q=>∃(a b:Fr)(ps:List Pc)(i:Nat)(p:Pc)(f:Fr),as=[.v (cA a b ps),.v (.int (i:Int))]/\Te a b ps i p f/\Q (.v (Va (cP a (ps.take i)) (cQ b (ps.take i)) f p)) []
abbrev iY(P w K mg base):=(~~~Fn) 8 "headings" oI (aJ K Ax)
abbrev qV:VS:=top 29
theorem kN:aF ["path","number","piece","begin","to","direction"] oI (aC qV):=dH
theorem Hk(F:cL K "headings" "headings" qV f fd)(TX:Txt mg)(YM: ~~~iX)(YC: ~~~fV)(YR: ~~~jT)(YW: ~~~lY)(YS: ~~~k9)(ZN: ~~~m7):(~~~aT) cO 8 f fd oI (aJ K Ax):=by
 refine F.okU kN (λhr=>(aB (fS 2 kN.nd (fX (fQ 0) (fv 1))) (aB (gH (i:=3) (j:=4) rfl kN.nd rfl rfl ∅ rfl rfl (f2 (fK YM (f2 (fv 0) (fv 1))) (fK YC (f1 (fv 2)))) rfl) (aB (cD (iF (fK YR (f1 (fv 2)))) (aB (fS 5 kN.nd (fK YW (f1 (fK YS (f2 (fv 4) (fv 3)))))) (aE (aG (aM (f2 (fv 5) (fv 5)))))) bR) (aE (aG (aM (f2 (fK ZN (f2 (fv 2) (fv 3))) (fK ZN (f2 (fv 2) (fv 4))))))))))) ?_;rintro as Q ⟨a,b,ps,i,p,f,rfl,h,q⟩;have hi:=(NV.mp h.at_).1;have nb:=nJ i h.nv h.ch;have ok:=j0 h.ch h.at_;have ln:=h.ln;show o1 (eZ (ps.map jO) (i:Int)) _;rw[qF h.at_];refine⟨a,b,ps,i,rfl,hi,p,rfl,p,rfl,?_⟩;generalize cP a (ps.take i)=bx at nb ok ln q⊢;generalize cQ b (ps.take i)=by' at nb ok ln q⊢;cases p with
 |side x y=>
  exact⟨x,y,bx,by',300,300,rfl,ok.1,nb,∅,_,_,f,rfl,ln,rfl,q⟩
 |arc m n x y l=>
  refine⟨m,n,x,y,bx,by',f,l,rfl,nb,ok.1,ln.1,m,n,x,y,x,y,f,l,rfl,ok.2.1,ok.1,ln.2,?_,q⟩;show(noL (F4 l _ _)&&(noL (F4 l _ _)&&true))=true;rw[Uz,Uz];rfl
def LR(f:Fr):Pc->L2.T
 |.side _ _=>.non
 |.arc _ _ _ _ _=>fr f
def Pp:dG:=λas Q=>∃(a b:Fr)(ps:List Pc)(i:Nat)(p:Pc)(f:Fr),as=[.v (cA a b ps),.v (.int (i:Int))]/\Te a b ps i p f/\Q (.v (LR f p)) []
abbrev rR(P w K mg base):=(~~~Fn) 6 "radius_of" oI (aJ K Pp)
abbrev o9:VS:=top 26
theorem sN:aF ["path","number","piece"] oI (aC o9):=dH
theorem Cz(F:cL K "radius_of" "radius_of" o9 f fd)(TX:Txt mg)(YR: ~~~jT)(ZH: ~~~lU)(YS: ~~~k9)(YC: ~~~fV):(~~~aT) cO 6 f fd oI (aJ K Pp):=by
 refine F.okU sN (λhr=>(aB (fS 2 sN.nd (fX (fQ 0) (fv 1))) (aB (cD (iF (fK YR (f1 (fv 2)))) (aE (aG Bw)) bR) (aE (aG (fK ZH (f1 (fK YS (f2 (fK YC (f1 (fv 2))) (fQ 2)))))))))) ?_;rintro as Q ⟨a,b,ps,i,p,f,rfl,h,q⟩;have ok:=j0 h.ch h.at_;have ln:=h.ln;show o1 (eZ (ps.map jO) (i:Int)) _;rw[qF h.at_];refine⟨p,rfl,?_⟩;cases p with
 |side x y=>exact⟨rfl,q⟩
 |arc m n x y l=>exact⟨_,rfl,x,y,m,n,300,300,rfl,ok.2.1,ok.1,∅,_,_,f,rfl,ln.2,rfl,q⟩
def Zx(l:Bool)(ux uy:Fr):Fr×Fr:=if l then(aN uy,ux)else(uy,aN ux)
def hB(a b f:Fr):Pc->Fr×Fr
 |.side x y=>(bX (aS x a) f,bX (aS y b) f)
 |.arc m n _ _ l=>Zx l (bX (aS a m) f) (bX (aS b n) f)
def hE(a b f:Fr):Pc->Fr×Fr
 |.side x y=>(bX (aS x a) f,bX (aS y b) f)
 |.arc m n x y l=>Zx l (bX (aS x m) f) (bX (aS y n) f)
def bB(p:Fr×Fr):L2.T:=vc p.1 p.2
theorem Q3(l:Bool)(x y:Fr):F4 l x y=bB (Zx l x y):=by cases l<;>rfl
theorem Cd(a b f:Fr)(p:Pc):Va a b f p = .tup [bB (hB a b f p),bB (hE a b f p)]:=by
 cases p with
 |side x y=>rfl
 |arc m n x y l=>show L2.T.tup [F4 l _ _,F4 l _ _]=_;rw[Q3,Q3];rfl
def DU(p:Fr×Fr):Prop:=Nv p.1 p.2 1831
theorem R4(h:Nv x y 1831):DU (Zx l x y):=by
 cases l with
 |true=>exact⟨eQ h.y,h.x,by show sz (aN y)<=1831;rw[pJ];exact h.sy,h.sx⟩
 |false=>exact⟨h.y,eQ h.x,h.sy,by show sz (aN x)<=1831;rw[pJ];exact h.sx⟩
theorem FV:∀{p:Pc},Ln a b f p->DU (hB a b f p)
 |.side x y,h=>wF.unit h
 |.arc m n x y l,h=>R4 (wF.unit h.1)
theorem FW:∀{p:Pc},Ln a b f p->DU (hE a b f p)
 |.side x y,h=>wF.unit h
 |.arc m n x y l,h=>R4 (wF.unit h.2)
def cE(i n:Nat):Nat:=if i=0 then n-1 else i-1
theorem Qe{i n:Nat}(h:i<n):((i:Int)-1)%(n:Int)=(cE i n:Int):=by
 unfold cE
 by_cases c:i=0
 ·subst c;rw[oV rfl];have e:(((0:Nat):Int)-1)%(n:Int)=((n:Int)-1)%(n:Int):=by
   rw[show((0:Nat):Int)-1=((n:Int)-1)+(n:Int)*(-1) by lia,Int.add_mul_emod_self_left]
  rw[e,Int.emod_eq_of_lt ⋯ ⋯]
  lia
 ·rw[oW c,Int.emod_eq_of_lt ⋯ ⋯]
  lia
theorem lC(h:i<n):cE i n<n:=by unfold cE;split<;>lia
structure Nb(a b:Fr)(ps:List Pc)(i:Nat)(p q:Pc)(f g:Fr):Prop where
 one:Te a b ps i p f
 two:Te a b ps (cE i ps.length) q g
abbrev uE(a b:Fr)(ps:List Pc)(i:Nat)(q:Pc)(g:Fr):Fr×Fr:=hE (cP a (ps.take (cE i ps.length))) (cQ b (ps.take (cE i ps.length))) g q
abbrev uB(a b:Fr)(ps:List Pc)(i:Nat)(p:Pc)(f:Fr):Fr×Fr:=hB (cP a (ps.take i)) (cQ b (ps.take i)) f p
def Ip:dG:=λas Q=>∃(a b:Fr)(ps:List Pc)(i:Nat)(p q:Pc)(f g:Fr),as=[.v (cA a b ps),.v (.int (i:Int))]/\Nb a b ps i p q f g/\Q (.v (.tup [bB (uE a b ps i q g),bB (uB a b ps i p f)])) []
abbrev nA(P w K mg base):=(~~~Fn) 4 "cross" oG (aJ K (DN aX))
abbrev Dm:VS:=top 15
theorem Xx:aF oG oG (aC Dm):=dH
theorem Wa(F:cL K "cross" "cross" Dm f fd)(TX:Txt mg)(YF: ~~~jV)(YT: ~~~lB):(~~~aT) cO 4 f fd oG (aJ K (DN aX)):=by
 refine F.okU Xx (λhr=>(aE (aG (fK YT (f2 (fK YF (f2 (fQ 0) (fQ 1))) (fK YF (f2 (fQ 0) (fQ 1)))))))) ?_;rintro as Q ⟨x,y,x',y',e,f,rfl,h,k,he,q⟩;have:=h.sx;have:=h.sy;have:=k.sx;have:=k.sy;have n1:=aK h.x k.y;have n2:=aK h.y k.x;have s1:=cC h.x k.y;have s2:=cC h.y k.x;exact⟨_,_,rfl,h.x,k.y,⋯,_,_,rfl,h.y,k.x,⋯,_,_,rfl,n1,n2,⋯,rfl,q⟩
abbrev fN(P w K mg base):=(~~~Fn) 9 "corner_headings" oI (aJ K Ip)
abbrev gN:VS:=top 30
theorem kB:aF ["path","number","ahead"] oI (aC gN):=dH
theorem qQ(F:cL K "corner_headings" "corner_headings" gN f fd)(TX:Txt mg)(YJ: ~~~iY):(~~~aT) cO 9 f fd oI (aJ K Ip):=by
 refine F.okU kB (λhr=>(aB (fS 2 kB.nd (aP iI (aY iJ (fv 1) aA) (fR rfl rfl TX.n_len (f1 (fQ 0))))) (aE (aG (aM (f2 (fX (fK YJ (f2 (fv 0) (fv 2))) aA) (fX (fK YJ (f2 (fv 0) (fv 1))) aA))))))) ?_;rintro as Q ⟨a,b,ps,i,p,q,f,g,rfl,h,hq⟩;have hi:=(NV.mp h.one.at_).1;have e:=Qe hi;have em:(((ps.map jO).length:Nat):Int)=(ps.length:Int):=by rw[OD]
 refine⟨by show(0:Int)<(((ps.map jO).length:Nat):Int);lia,?_⟩;refine⟨a,b,ps,cE i ps.length,q,g,?_,h.two,?_⟩
 ·show[A.v (cA a b ps),A.v (.int (((i:Int)-1)%(((ps.map jO).length:Nat):Int)))]=_;rw[em,e]
 rw[Cd];refine⟨a,b,ps,i,p,f,rfl,h.one,?_⟩;rw[Cd];exact⟨rfl,hq⟩
def b7(u w:Fr×Fr):Str:=if u=w then "straight" else if 0<(aX u.1 u.2 w.1 w.2).1 then "left" else if(aX u.1 u.2 w.1 w.2).1<0 then "right" else "back"
def Zc:dG:=λas Q=>∃(a b:Fr)(ps:List Pc)(i:Nat)(p q:Pc)(f g:Fr),as=[.v (cA a b ps),.v (.int (i:Int))]/\Nb a b ps i p q f g/\Q (.v (.str (b7 (uE a b ps i q g) (uB a b ps i p f)))) []
theorem X5(u w:Fr×Fr):L2.dX (bB u) (bB w)=decide (u=w):=by
 show L2.dX (vc u.1 u.2) (vc w.1 w.2)=_;rw[Gd];simp[Prod.ext_iff]
abbrev m9(P w K mg base):=(~~~Fn) 10 "corner_word" oI (aJ K Zc)
abbrev kY:VS:=top 31
theorem gR:aF ["path","number","bend","u","w"] oI (aC kY):=dH
theorem xG(F:cL K "corner_word" "corner_word" kY f fd)(TX:Txt mg)(YL: ~~~fN)(ZF: ~~~nA):(~~~aT) cO 10 f fd oI (aJ K Zc):=by
 refine F.okU gR (λhr=>(aB (d6 (fK YL (f2 (fv 0) (fv 1))) (dE (n:=2) rfl rfl (aQ (fG 3 gR.nd) (aQ (fG 4 gR.nd) cH)))) (aB (cD (gJ rfl hr (fv 3) (fv 4) (bK _)) (aE (aG bG)) bR) (aB (fS 2 gR.nd (fX (fK ZF (f2 (fv 3) (fv 4))) aA)) (aB (cD (fP Al (fv 2) aA) (aE (aG bG)) bR) (aE (aG (nN (fP lI (fv 2) aA) bG bG)))))))) ?_;rintro as Q ⟨a,b,ps,i,p,q,f,g,rfl,h,hq⟩;refine⟨a,b,ps,i,p,q,f,g,rfl,h,?_⟩;have nu:DU (uE a b ps i q g):=FW h.two.ln;have nw:DU (uB a b ps i p f):=FV h.one.ln;generalize uE a b ps i q g=u at nu hq⊢;generalize uB a b ps i p f=w at nw hq⊢;refine⟨d7 rfl,?_⟩;show if L2.dX (bB u) (bB w)=true then _ else _;rw[X5];unfold b7 at hq
 by_cases c:u=w
 ·rw[oY c,oV rfl];rw[oV c]at hq;exact⟨rfl,hq⟩
 ·rw[oX c,oW ∅];rw[oW c]at hq;refine⟨u.1,u.2,w.1,w.2,1831,1831,rfl,nu,nw,∅,?_⟩;generalize(aX u.1 u.2 w.1 w.2)=z at hq⊢;show if decide (z.1>0)=true then _ else _
  by_cases c1:0<z.1
  ·rw[oY c1,oV rfl];rw[oV c1]at hq;exact⟨rfl,hq⟩
  ·rw[oX c1,oW ∅];rw[oW c1]at hq;show if decide (z.1<0)=true then _ else _
   by_cases c2:z.1<0
   ·rw[oY c2,oV rfl];rw[oV c2]at hq;exact⟨rfl,hq⟩
   ·rw[oX c2,oW ∅];rw[oW c2]at hq;exact⟨rfl,hq⟩
noncomputable def Uh (a b:Fr) (p:Pc):Fr:=@Classical.epsilon Fr ⟨(0,1)⟩ λf=>Ln a b f p
theorem Mz(h:Nv a b 300)(k:qP 300 a b p):Ln a b (Uh a b p) p:=@Classical.epsilon_spec_aux Fr ⟨(0,1)⟩ (λf=>Ln a b f p) (FP h k)
noncomputable def uW (a b:Fr) (ps:List Pc) (i:Nat) (p q:Pc):Str:=
 b7 (uE a b ps i q (Uh (cP a (ps.take (cE i ps.length))) (cQ b (ps.take (cE i ps.length))) q)) (uB a b ps i p (Uh (cP a (ps.take i)) (cQ b (ps.take i)) p))
noncomputable def cw (a b:Fr) (ps:List Pc) (i:Nat):Str:=((ps[i]?).bind λp=>(ps[cE i ps.length]?).map λq=>uW a b ps i p q).getD ""
theorem R3(nv:Nv a b 300)(ch:jZ 300 a b ps)(hi:i<ps.length):∃p q f g,Nb a b ps i p q f g/\b7 (uE a b ps i q g) (uB a b ps i p f)=cw a b ps i:=by
 have h1:=NW hi;have h2:=NW (lC hi);refine⟨_,_,_,_,⟨⟨h1,nv,ch,Mz (nJ i nv ch) (j0 ch h1)⟩,⟨h2,nv,ch,Mz (nJ _ nv ch) (j0 ch h2)⟩⟩,?_⟩;unfold cw;rw[h1,h2];rfl
noncomputable def MF (a b:Fr) (ps:List Pc) (i:Nat):L2.T:=.tup [.int (i:Int),.str (cw a b ps i)]
noncomputable def Zu (a b:Fr) (ps:List Pc) (k m:Nat):List L2.T:=(OQ m).map λj=>MF a b ps (k+j)
theorem Fx(a b:Fr)(ps:List Pc)(k m:Nat):Zu a b ps k (m+1)=Zu a b ps k m++[MF a b ps (k+m)]:=by
 unfold Zu;rw[RS,OR];rfl
theorem C7(a b:Fr)(ps:List Pc)(k m:Nat):(Zu a b ps k m).length=m:=by unfold Zu;simp
theorem Hc:∀(xs:List L2.T)(t:L2.T),bL xs=true->noL t=true->bL (xs++[t])=true
 |[],t,_,h=>by show(noL t&&true)=true;rw[h];rfl
 |x::xs,t,h1,h=>by
  have h1:(noL x&&bL xs)=true:=h1;rw[PF]at h1;show(noL x&&bL (xs++[t]))=true;rw[h1.1,Hc xs t h1.2 h];rfl
theorem n8(a b:Fr)(ps:List Pc)(k:Nat):∀m,bL (Zu a b ps k m)=true
 |0=>rfl
 |m+1=>by rw[Fx];exact Hc _ _ (n8 a b ps k m) rfl
def W6(a b:Fr)(ps:List Pc):Bool:=decide (cP a ps=a/\cQ b ps=b)
def fst(a b:Fr)(ps:List Pc):Nat:=if W6 a b ps=true then 0 else 1
theorem Y9(a b:Fr)(ps:List Pc):fst a b ps<=1:=by unfold fst;split<;>lia
def Iq:dG:=λas Q=>∃(a b:Fr)(ps:List Pc),as=[.v (cA a b ps)]/\Nv a b 300/\ps≠[]/\ps.length<=12/\jZ 300 a b ps/\Q (.l (Zu a b ps (fst a b ps) (ps.length-fst a b ps))) []
theorem r6{Q:En->Prop}(nv:Nv a b 300)(hl:ps.length<=12)(ch:jZ 300 a b ps)(hk:k<=ps.length)(hQ:∀v0,Q [v0,⇑(cA a b ps),↥(Zu a b ps k (ps.length-k))]):
  lD (qD 0) (EW (jI (Qw 0) (jI (Ge Zc (jI (Qw 1) (jI (Qw 0) Jh))) Jh))) (g9 (k:Int) (ps.length-k)) [none,⇑(cA a b ps),↥[]] Q:=by
 refine cY (λi E=>∃v0,E=[v0,⇑(cA a b ps),↥(Zu a b ps k i)]) ⟨none,rfl⟩ ?_ ?_
 ·rintro i t rest E hi ⟨v0,rfl⟩ KK;obtain⟨lq,rfl⟩:=mD hi;obtain⟨p,q,f,g,nb,e⟩:=R3 nv ch (show k+i<ps.length by lia);have ek:(k:Int)+(i:Int)=((k+i:Nat):Int):=⋯
  rw[ek];refine⟨a,b,ps,k+i,p,q,f,g,rfl,nb,?_⟩;rw[e];refine⟨by show(Zu a b ps k i).length<9000;rw[C7];lia,KK _ ⟨↑((k+i:Nat):Int),?_⟩⟩;rw[Fx];rfl
 ·rintro E ⟨v0,rfl⟩;rw[Hx];exact hQ v0
abbrev vV(P w K mg base):=(~~~Fn) 11 "corners" ["path"] (aJ K Iq)
abbrev tM:VS:=top 32
theorem yC:aF ["path","first"] ["path"] (aC tM):=dH
theorem Kj(F:cL K "corners" "corners" tM f fd)(TX:Txt mg)(ZI: ~~~lR)(ZZ: ~~~m9):(~~~aT) cO 11 f fd ["path"] (aJ K Iq):=by
 refine F.okU yC (λhr=>(aB (fS 1 yC.nd (nN (iF (fK ZI (f1 (fv 0)))) aA aA)) (aE (aG (iP (N':=["number","path"]) (t:=1) (cap:=[(0,false)]) rfl (bM.of rfl) rfl ∅ (zX rfl TX.n_range (f2 (fv 1) (fR rfl rfl TX.n_len (f1 (fQ 0))))) (λ_ _ _ _=>(fH 0)) (λ_ _ _ _=>(aM (f2 (fv 0) (fK ZZ (f2 (fv 1) (fv 0))))))))))) ?_;rintro as Q ⟨a,b,ps,rfl,nv,hn,hl,ch,q⟩;refine⟨a,b,ps,rfl,hn,?_⟩;have hp:0<ps.length:=RI.mpr hn;have em:(((ps.map jO).length:Nat):Int)=(ps.length:Int):=by rw[OD]
 have ed:decide (cP a ps=a/\cQ b ps=b)=W6 a b ps:=rfl;show if decide (cP a ps=a/\cQ b ps=b)=true then _ else _;rw[ed];unfold fst at q
 by_cases c:W6 a b ps=true
 ·rw[oV c];rw[oV c]at q;refine⟨⟨∅,∅,by show -(2^62:Int)<=(((ps.map jO).length:Nat):Int);lia,by show(((ps.map jO).length:Nat):Int)<2^62;lia⟩,rfl,?_⟩;show lD _ _ (g9 0 ((((ps.map jO).length:Nat):Int)-0).toNat) _ _;rw[em,show((ps.length:Int)-0).toNat=ps.length-0 by lia];refine r6 (k:=0) nv hl ch ⋯ λv0=>⟨n8 a b ps 0 _,?_⟩;exact⟨n8 a b ps 0 _,q⟩
 ·rw[oW c];rw[oW c]at q;refine⟨⟨∅,∅,by show -(2^62:Int)<=(((ps.map jO).length:Nat):Int);lia,by show(((ps.map jO).length:Nat):Int)<2^62;lia⟩,rfl,?_⟩;show lD _ _ (g9 1 ((((ps.map jO).length:Nat):Int)-1).toNat) _ _;rw[em,show((ps.length:Int)-1).toNat=ps.length-1 by lia];refine r6 (k:=1) nv hl ch ⋯ λv0=>⟨n8 a b ps 1 _,?_⟩;exact⟨n8 a b ps 1 _,q⟩
def Zg(x y c s:Fr):Fr:=aS (aH x c) (aH y s)
def Zf(x y c s:Fr):Fr:=aV (aH x s) (aH y c)
def Pr:dG:=λas Q=>∃(x y c s:Fr)(e f:Nat),as=[.v (vc x y),.v (vc c s)]/\Nv x y e/\Nv c s f/\e+f<=3900/\Q (.v (vc (Zg x y c s) (Zf x y c s))) []
abbrev zO(P w K mg base):=(~~~Fn) 4 "turned" ["unit","by"] (aJ K Pr)
abbrev yB:VS:=top 35
theorem lJ:aF ["unit","by","x","y","c","s"] ["unit","by"] (aC yB):=dH
theorem Rx(F:cL K "turned" "turned" yB f fd)(TX:Txt mg)(YF: ~~~jV)(YT: ~~~lB)(YD: ~~~gF):(~~~aT) cO 4 f fd ["unit","by"] (aJ K Pr):=by
 refine F.okU lJ (λhr=>(aB (d6 (fv 0) (dE (n:=2) rfl rfl (aQ (fG 2 lJ.nd) (aQ (fG 3 lJ.nd) cH)))) (aB (d6 (fv 1) (dE (n:=2) rfl rfl (aQ (fG 4 lJ.nd) (aQ (fG 5 lJ.nd) cH)))) (aE (aG (aM (f2 (fK YT (f2 (fK YF (f2 (fv 2) (fv 4))) (fK YF (f2 (fv 3) (fv 5))))) (fK YD (f2 (fK YF (f2 (fv 2) (fv 5))) (fK YF (f2 (fv 3) (fv 4)))))))))))) ?_;rintro as Q ⟨x,y,c,s,e,f,rfl,h,k,he,q⟩;have:=h.sx;have:=h.sy;have:=k.sx;have:=k.sy;have n1:=aK h.x k.x;have n2:=aK h.y k.y;have n3:=aK h.x k.y;have n4:=aK h.y k.x;have s1:=cC h.x k.x;have s2:=cC h.y k.y;have s3:=cC h.x k.y;have s4:=cC h.y k.x;exact⟨_,_,rfl,h.x,k.x,⋯,_,_,rfl,h.y,k.y,⋯,_,_,rfl,n1,n2,⋯,_,_,rfl,h.x,k.y,⋯,_,_,rfl,h.y,k.x,⋯,_,_,rfl,n3,n4,⋯,rfl,q⟩
theorem gY(h:Nv x y e)(k:Nv c s f):val (Zg x y c s)=val x*val c-val y*val s:=by
 unfold Zg;rw[bQ (aK h.x k.x) (aK h.y k.y),aR h.x k.x,aR h.y k.y]
theorem gX(h:Nv x y e)(k:Nv c s f):val (Zf x y c s)=val x*val s+val y*val c:=by
 unfold Zf;rw[a7 (aK h.x k.y) (aK h.y k.x),aR h.x k.y,aR h.y k.x]
theorem Nv.tr{x y c s:Fr}{e f:Nat}(h:Nv x y e)(k:Nv c s f):Nv (Zg x y c s) (Zf x y c s) (2*(e+f)+1):=by
 have:=h.sx;have:=h.sy;have:=k.sx;have:=k.sy;have n1:=aK h.x k.x;have n2:=aK h.y k.y;have n3:=aK h.x k.y;have n4:=aK h.y k.x;have s1:=cC h.x k.x;have s2:=cC h.y k.y;have s3:=cC h.x k.y;have s4:=cC h.y k.x;have s5:=mT n1 n2;have s6:=gV n3 n4;exact⟨dB n1 n2,cI n3 n4,by show sz (aS _ _)<=_;lia,by show sz (aV _ _)<=_;lia⟩
theorem G5:Nv (1,1) (0,1) 10:=⟨aO 1,aO 0,∅,∅⟩
theorem G4:Nv (0,1) (1,1) 10:=⟨aO 0,aO 1,∅,∅⟩
def cT(t:Fr):Fr:=fY (t.2*t.2-t.1*t.1) (t.2*t.2+t.1*t.1)
def sT(t:Fr):Fr:=fY (2*t.2*t.1) (t.2*t.2+t.1*t.1)
theorem qC(h:bF t):t.2*t.2+t.1*t.1≠0:=by
 have h1:1*1<=t.2*t.2:=VJ h.d h.d ∅ (by have:=h.d;lia);have h2:0<=t.1*t.1:=by
   obtain c|c:=Int.le_total 0 t.1
   ·exact TF c c
   ·exact Int.mul_nonneg_of_nonpos_of_nonpos c c
 lia
theorem Fy(t:Fr):(t.2*t.2+t.1*t.1).natAbs<2^(2*sz t+1):=pM (by rw[SO];exact bI (bW t) (bW t)) (by rw[SO];exact bI (dN t) (dN t))
theorem Ak(h:bF t):Nv (cT t) (sT t) (2*sz t+1):=by
 have hb:=Fy t;refine⟨gK (qC h),gK (qC h),mS (qC h) (Ef (by rw[SO];exact bI (bW t) (bW t)) (by rw[SO];exact bI (dN t) (dN t))) hb ⋯,mS (qC h) ?_ hb ⋯⟩;have e:2*t.2*t.1=t.2*t.1+t.2*t.1:=by grind
 rw[e];exact pM (by rw[SO];exact bI (bW t) (dN t)) (by rw[SO];exact bI (bW t) (dN t))
theorem sO(r:Rat):1+r*r≠0:=by
 have:0<=r*r:=by
   rcases Rat.le_total (a:=0) (b:=r)with c|c
   ·exact Rat.mul_nonneg c c
   ·have h:=Rat.mul_nonneg (a:=-r) (b:=-r) (by grind) (by grind);grind
 grind
theorem rG(h:bF t):val (cT t)=(1-val t*val t)/(1+val t*val t):=by
 have h1:=h.neR;have h2:=sO (val t);have h3:((t.2*t.2+t.1*t.1:Int):Rat)≠0:=by exact_mod_cast qC h
 unfold cT;rw[eT (qC h)];unfold val at h2⊢
 push_cast at h3⊢
 grind
theorem rH(h:bF t):val (sT t)=(2*val t)/(1+val t*val t):=by
 have h1:=h.neR;have h2:=sO (val t);have h3:((t.2*t.2+t.1*t.1:Int):Rat)≠0:=by exact_mod_cast qC h
 unfold sT;rw[eT (qC h)];unfold val at h2⊢
 push_cast at h3⊢
 grind
def Pq:dG:=λas Q=>∃t:Fr,as=[.v (fr t)]/\bF t/\sz t<=1000/\Q (.v (vc (cT t) (sT t))) []
abbrev wD(P w K mg base):=(~~~Fn) 3 "turn_of" ["tangent"] (aJ K Pq)
abbrev tW:VS:=top 36
theorem mQ:aF ["tangent","both","n","d"] ["tangent"] (aC tW):=dH
theorem Ku(F:cL K "turn_of" "turn_of" tW f fd)(TX:Txt mg)(YB: ~~~dY):(~~~aT) cO 3 f fd ["tangent"] (aJ K Pq):=by
 refine F.okU mQ (λhr=>(aB (d6 (fv 0) (dE (n:=2) rfl rfl (aQ (fG 2 mQ.nd) (aQ (fG 3 mQ.nd) cH)))) (aB (fS 1 mQ.nd (aY cF (aP aZ (fv 3) (fv 3)) (aP aZ (fv 2) (fv 2)))) (aE (aG (aM (f2 (fK YB (f2 (aY iJ (aP aZ (fv 3) (fv 3)) (aP aZ (fv 2) (fv 2))) (fv 1))) (fK YB (f2 (aP aZ (aP aZ aA (fv 3)) (fv 2)) (fv 1)))))))))) ?_;rintro as Q ⟨t,rfl,ht,hs,q⟩;have m1:∀i j:Int,i.natAbs<2^1002->j.natAbs<2^1002->zH i j:=λi j h1 h2=>j6 h1 h2 ∅;have d1:t.2.natAbs<2^1002:=pl (bW t) ⋯;have n1:t.1.natAbs<2^1002:=pl (dN t) ⋯;have hb:=tK (Fy t) ⋯;refine⟨m1 _ _ d1 d1,m1 _ _ n1 n1,m1 _ _ d1 d1,m1 _ _ n1 n1,_,_,rfl,qC ht,hb,Ke ∅,j6 (e:=1004) (pl (bI (show(2:Int).natAbs<2^2 by decide) d1) ∅) (pl n1 ∅) ∅,_,_,rfl,qC ht,hb,rfl,q⟩
def uV(x y t:Fr):L2.T:=vc (Zg x y (cT t) (sT t)) (Zf x y (cT t) (sT t))
def AH(s:Int):List Int:=if s=1 then[1]else if s=2 then[1,2]else[1,2,3]
def vG(x y t:Fr)(s:Int):List L2.T:=(AH s).map λk=>uV x y (aH t (fY k s))
theorem Il{k s:Int}(hk:k.natAbs<=3)(hs:1<=s/\s<=3):bF (fY k s)/\sz (fY k s)<=2:=⟨gK ⋯,mS ⋯ (PL hk ∅) (PL (show s.natAbs<=3 by lia) ∅) ∅⟩
def Ir:dG:=λas Q=>∃(x y t:Fr)(s:Int)(e f:Nat),as=[.v (vc x y),.v (fr t),.v (.int s)]/\Nv x y e/\bF t/\sz t<=f/\e+2*f<=1400/\(s=1\/s=2\/s=3)/\Q (.l (vG x y t s)) []
abbrev wC(P w K mg base):=(~~~Fn) 5 "stepped" ["unit","tangent","steps"] (aJ K Ir)
abbrev tU:VS:=top 37
theorem yE:aF ["unit","tangent","steps","turns"] ["unit","tangent","steps"] (aC tU):=dH
theorem Ks(F:cL K "stepped" "stepped" tU f fd)(TX:Txt mg)(dr: ~~~wD)(YF: ~~~jV)(YB: ~~~dY)(fj: ~~~zO):(~~~aT) cO 5 f fd ["unit","tangent","steps"] (aJ K Ir):=by
 refine F.okU yE (λhr=>(aB (Cb (i:=3) (N':=["k","tangent","steps"]) (t:=1) (cap:=[(1,false),(2,false)]) yE.nd rfl (PX rfl) rfl rfl (bM.of rfl) rfl ∅ (zX rfl TX.n_range (f2 aA (aY cF (fv 2) aA))) (λ_ _ _ _=>(fH 0)) (λ_ _ _ _=>(fK dr (f1 (fK YF (f2 (fv 1) (fK YB (f2 (fv 0) (fv 2))))))))) (aE (aG (iP (N':=["by","unit"]) (t:=1) (cap:=[(0,false)]) rfl (bM.of rfl) rfl ∅ (kM rfl (fv 3)) (λ_ _ _ _=>(fH 0)) (λ_ _ _ _=>(fK fj (f2 (fv 1) (fv 0))))))))) ?_;rintro as Q ⟨x,y,t,s,e,f,rfl,hv,ht,hf,he,hs,q⟩;have s8:∀{s:Int},s.natAbs<=3->s.natAbs<2^8000:=λh=>tK (e:=2) (PL h ∅) ∅;have st:∀{k s:Int},k.natAbs<=3->1<=s/\s<=3->bF (aH t (fY k s))/\sz (aH t (fY k s))<=f+2:=λh1 h2=>by
  obtain⟨n1,n2⟩:=Il h1 h2;have:=cC ht n1;exact⟨aK ht n1,⋯⟩
 have tn:∀{k s:Int},k.natAbs<=3->1<=s/\s<=3->Nv (cT (aH t (fY k s))) (sT (aH t (fY k s))) (2*f+5):=λh1 h2=>by
  obtain⟨n1,n2⟩:=st h1 h2;exact(Ak n1).up ⋯
 have rr:∀{s:Int},1<=s/\s<=3->(-(2^62)<=(1:Int)/\(1:Int)<2^62/\-(2^62)<=s+1/\s+1<2^62):=λh=>⋯
 have lk:∀{k s:Int},k.natAbs<=3->1<=s/\s<=3->bF (fY k s)/\sz t+sz (fY k s)<=7900/\s≠0/\s.natAbs<2^8000/\bF (aH t (fY k s))/\sz (aH t (fY k s))<=1000:=λh1 h2=>by
  obtain⟨n1,n2⟩:=Il h1 h2;obtain⟨m1,m2⟩:=st h1 h2;exact⟨n1,⋯,⋯,s8 ⋯,m1,⋯⟩
 obtain rfl|rfl|rfl:=hs
 ·obtain⟨a1,a2,a3,a4,a5,a6⟩:=lk (k:=1) (s:=1) ∅ ∅;have m:∀k:Int,k.natAbs<=3->Nv (cT (aH t (fY k 1))) (sT (aH t (fY k 1))) (2*f+5):=λk h=>tn h ∅;refine⟨∅,rfl,_,_,rfl,a3,a4,t,_,rfl,ht,a1,a2,_,rfl,a5,a6,d7 rfl,rfl,rfl,x,y,_,_,e,_,rfl,hv,m _ ∅,⋯,d7 rfl,rfl,?_⟩;exact⟨rfl,q⟩
 ·obtain⟨a1,a2,a3,a4,a5,a6⟩:=lk (k:=1) (s:=2) ∅ ∅;obtain⟨b1,b2,b3,b4,b5,b6⟩:=lk (k:=2) (s:=2) ∅ ∅;have m:∀k:Int,k.natAbs<=3->Nv (cT (aH t (fY k 2))) (sT (aH t (fY k 2))) (2*f+5):=λk h=>tn h ∅;refine⟨∅,rfl,_,_,rfl,a3,a4,t,_,rfl,ht,a1,a2,_,rfl,a5,a6,d7 rfl,_,_,rfl,a3,a4,t,_,rfl,ht,b1,b2,_,rfl,b5,b6,d7 rfl,rfl,rfl,x,y,_,_,e,_,rfl,hv,m _ ∅,⋯,d7 rfl,x,y,_,_,e,_,rfl,hv,m _ ∅,⋯,d7 rfl,rfl,?_⟩;exact⟨rfl,q⟩
 ·obtain⟨a1,a2,a3,a4,a5,a6⟩:=lk (k:=1) (s:=3) ∅ ∅;obtain⟨b1,b2,b3,b4,b5,b6⟩:=lk (k:=2) (s:=3) ∅ ∅;obtain⟨c1,c2,c3,c4,c5,c6⟩:=lk (k:=3) (s:=3) ∅ ∅;have m:∀k:Int,k.natAbs<=3->Nv (cT (aH t (fY k 3))) (sT (aH t (fY k 3))) (2*f+5):=λk h=>tn h ∅;refine⟨∅,rfl,_,_,rfl,a3,a4,t,_,rfl,ht,a1,a2,_,rfl,a5,a6,d7 rfl,_,_,rfl,a3,a4,t,_,rfl,ht,b1,b2,_,rfl,b5,b6,d7 rfl,_,_,rfl,a3,a4,t,_,rfl,ht,c1,c2,_,rfl,c5,c6,d7 rfl,rfl,rfl,x,y,_,_,e,_,rfl,hv,m _ ∅,⋯,d7 rfl,x,y,_,_,e,_,rfl,hv,m _ ∅,⋯,d7 rfl,x,y,_,_,e,_,rfl,hv,m _ ∅,⋯,d7 rfl,rfl,?_⟩;exact⟨rfl,q⟩
def hq(x y p q:Fr):Prop:=(cS x y p q).1<=0\/(aX x y p q).1<0
def uU(p q:Fr):Nat->Fr->Fr->Prop
 |0,x,y=>¬hq x y p q
 |n+1,x,y=>hq x y p q/\uU p q n (aN y) x
theorem Cf(h:Nv x y e)(k:Nv p q f):hq x y p q↔(val x*val p+val y*val q<=0\/val x*val q-val y*val p<0):=by
 unfold hq;rw[<-yO (bD h k),<-El (cJ h k),dW h k,dR h k]
theorem Dj(h:bV x y e)(k:bV p q f):∃m,m<=3/\uU p q m x y:=by
 have i0:=Cf h.nv k.nv;have i1:=Cf h.left.nv k.nv;have i2:=Cf h.left.left.nv k.nv;have i3:=Cf h.left.left.left.nv k.nv;rw[bC h.nv.y]at i1;rw[bC h.nv.y,bC h.nv.x]at i2;rw[bC (eQ h.nv.y),bC h.nv.y,bC h.nv.x]at i3;have one:(val x*val p+val y*val q)*(val x*val p+val y*val q)+(val x*val q-val y*val p)*(val x*val q-val y*val p)=1:=by
  have:=h.one;have:=k.one;grind
 generalize hD:val x*val p+val y*val q=D at *;generalize hC:val x*val q-val y*val p=C at *;have j1:hq (aN y) x p q↔(C<=0\/0<D):=by rw[i1];grind
 have j2:hq (aN x) (aN y) p q↔(0<=D\/0<C):=by rw[i2];grind
 have j3:hq (aN (aN y)) (aN x) p q↔(0<=C\/D<0):=by rw[i3];grind
 by_cases c0:hq x y p q
 ·by_cases c1:hq (aN y) x p q
  ·by_cases c2:hq (aN x) (aN y) p q
   ·refine⟨3,∅,c0,c1,c2,?_⟩;show ¬hq (aN (aN y)) (aN x) p q;rw[j3];rw[i0]at c0;rw[j1]at c1;rw[j2]at c2;have nz:D=0->C=0->False:=λa b=>by rw[a,b]at one;grind
    clear i0 i1 i2 i3 j1 j2 j3 one hD hC h k;grind
   ·exact⟨2,∅,c0,c1,c2⟩
  ·exact⟨1,∅,c0,c1⟩
 ·exact⟨0,∅,c0⟩
def m6(x y p q:Fr):Fr:=bX (aX x y p q) (aV (1,1) (cS x y p q))
def h9(p q:Fr)(s:Int)(x y:Fr):List L2.T:=if x=p/\y=q then[]else vG x y (m6 x y p q) s
def qb(p q:Fr)(s:Int):Nat->Fr->Fr->List L2.T
 |0,x,y=>h9 p q s x y
 |n+1,x,y=>vG x y (1,1) s++qb p q s n (aN y) x
theorem vE(h:Nv x y e):uV x y (1,1)=vc (aN y) x:=by
 have e1:cT (1,1)=(0,1):=∅
 have e2:sT (1,1)=(1,1):=∅
 unfold uV;rw[e1,e2];have e8:Zg x y (0,1) (1,1)=aN y:=b8 (h.tr G4).x (eQ h.y) (by rw[gY h G4,gW,kQ,bC h.y];grind);have e9:Zf x y (0,1) (1,1)=x:=b8 (h.tr G4).y h.x (by rw[gX h G4,gW,kQ];grind);rw[e8,e9]
theorem Ud(x y:Fr){s:Int}(ht:bF t)(hs:s=1\/s=2\/s=3):∃L,vG x y t s=L++[uV x y t]/\L.length<=2:=by
 have e:∀{s:Int},s≠0->aH t (fY s s)=t:=λ{s}h=>b8 (aK ht (gK h)) ht (by
  rw[aR ht (gK h),eT h];have:(s:Rat)≠0:=by exact_mod_cast h
  grind)
 obtain rfl|rfl|rfl:=hs
 ·exact⟨[],by show[uV x y (aH t (fY 1 1))]=_;rw[e ∅];rfl,∅⟩
 ·exact⟨[uV x y (aH t (fY 1 2))],by show[_,uV x y (aH t (fY 2 2))]=_;rw[e ∅];rfl,by simp⟩
 ·exact⟨[uV x y (aH t (fY 1 3)),uV x y (aH t (fY 2 3))],by show[_,_,uV x y (aH t (fY 3 3))]=_;rw[e ∅];rfl,by simp⟩
def MR:dG:=λas Q=>∃(x y p q:Fr)(e f:Nat),as=[.v (vc x y),.v (vc p q)]/\Nv x y e/\Nv p q f/\e+f<=3900/\(∀b,(b=true↔hq x y p q)->Q (.v (.bl b)) [])
abbrev nD(P w K mg base):=(~~~Fn) 5 "has_quarter" oG (aJ K MR)
abbrev kZ:VS:=top 38
theorem yD:aF oG oG (aC kZ):=dH
theorem xH(F:cL K "has_quarter" "has_quarter" kZ f fd)(TX:Txt mg)(ZG: ~~~qI)(ZF: ~~~nA):(~~~aT) cO 5 f fd oG (aJ K MR):=by
 refine F.okU yD (λhr=>(aE (aG (EY (Ul GA (fX (fK ZG (f2 (fv 0) (fv 1))) aA) aA (bK _)) (Y3 (Ul lI (fX (fK ZF (f2 (fv 0) (fv 1))) aA) aA (bK _))))))) ?_;rintro as Q ⟨x,y,p,q,e,f,rfl,h,k,he,z⟩;refine⟨x,y,p,q,e,f,rfl,h,k,he,?_⟩;show if decide ((cS x y p q).1<=0)=true then _ else _
 by_cases c:(cS x y p q).1<=0
 ·rw[oY c,oV rfl];exact⟨rfl,z true ⟨λ_=>.inl c,λ_=>rfl⟩⟩
 ·rw[oX c,oW ∅];refine⟨x,y,p,q,e,f,rfl,h,k,he,rfl,z _ ?_⟩;show decide ((aX x y p q).1<0)=true↔_;rw[decide_eq_true_iff];exact⟨λr=>.inr r,λr=>r.resolve_left c⟩
theorem Aj:∀(xs ys:List L2.T),bL (xs++ys)=(bL xs&&bL ys)
 |[],ys=>rfl
 |x::xs,ys=>by
  show(noL x&&bL (xs++ys))=_;rw[Aj xs ys,<-Bool.and_assoc];rfl
theorem Hd{s:Int}(x y t:Fr)(hs:s=1\/s=2\/s=3):bL (vG x y t s)=true:=by rcases hs with rfl|rfl|rfl<;>rfl
theorem Nz{s:Int}(p q:Fr)(hs:s=1\/s=2\/s=3):∀(m:Nat)(x y:Fr),bL (qb p q s m x y)=true
 |0,x,y=>by
  show bL (h9 p q s x y)=true;unfold h9
  split
  ·rfl
  ·exact Hd _ _ _ hs
 |m+1,x,y=>by
  show bL (vG x y (1,1) s++qb p q s m (aN y) x)=true;rw[Aj,Hd _ _ _ hs,Nz p q hs m];rfl
theorem vK{s:Int}(x y t:Fr)(hs:s=1\/s=2\/s=3):(vG x y t s).length<=3:=by
 obtain rfl|rfl|rfl:=hs
 ·show 1<=3;decide
 ·show 2<=3;decide
 ·show 3<=3;decide
theorem Cp(h:Nv x y e)(k:Nv p q f)(c:¬hq x y p q):0<val (cS x y p q)/\0<=val (aX x y p q):=by
 unfold hq at c;rw[not_or]at c;exact⟨(pK (bD h k)).2 ⋯,(eI (cJ h k)).2 ⋯⟩
theorem lK(h:Nv x y e)(k:Nv p q f)(c:¬hq x y p q):(aV (1,1) (cS x y p q)).1≠0:=by
 have h1:=(Cp h k c).1;have h2:=a7 (aO 1) (bD h k);rw[gW]at h2;have h3:=(pK (cI (aO 1) (bD h k))).1 (by rw[h2];grind)
 lia
theorem Ik(h:Nv x y e)(k:Nv p q f):sz (aX x y p q)<=2*(e+f)+1:=by
 have:=h.sx;have:=h.sy;have:=k.sx;have:=k.sy;have s1:=cC h.x k.y;have s2:=cC h.y k.x;have s6:=mT (aK h.x k.y) (aK h.y k.x);show sz (aS (aH x q) (aH y p))<=_
 lia
theorem yJ(h:Nv x y e)(k:Nv p q f)(n:(aV (1,1) (cS x y p q)).1≠0):bF (m6 x y p q)/\sz (m6 x y p q)<=4*(e+f)+4:=by
 have s5:=Ik h k;have s6:=rE h k;have s7:=gV (aO 1) (bD h k);have o:sz (1,1)=1:=∅
 have s8:=pR (cJ h k) n;refine⟨j8 (cJ h k) n,?_⟩;show sz (bX _ _)<=_
 lia
def MW:dG:=λas Q=>∃(x y p q:Fr)(s:Int)(e f m:Nat),as=[.v (vc x y),.v (vc p q),.v (.int s)]/\bV x y e/\bV p q f/\e+f<=140/\(s=1\/s=2\/s=3)/\m<=3/\uU p q m x y/\Q (.l (vc x y::qb p q s m x y)) []
abbrev jG(P w K mg base):=(~~~Fn) 6 "quarters_between" ["one","other","steps"] (aJ K MW)
abbrev fU:VS:=top 39
theorem dC:aF ["one","other","steps","units","last","tangent"] ["one","other","steps"] (aC fU):=dH
theorem pW(F:cL K "quarters_between" "quarters_between" fU f fd)(TX:Txt mg)(aa: ~~~nD)(cf: ~~~wC)(ZL: ~~~rP)(ZF: ~~~nA)(YD: ~~~gF)(ZG: ~~~qI)(YK:mW mg K "ONE_turns" (.tup [.int 1,.int 1])):(~~~aT) cO 6 f fd ["one","other","steps"] (aJ K MW):=by
 refine F.okU dC (λhr=>(aB (fS 3 dC.nd (cV (f1 (fv 0)))) (aB (nQ PassesOwn.never (iF (fK aa (f2 (fX (fv 3) (eV aA)) (fv 1)))) (aE (jK (tD rfl (fv 3) (f1 (fK cf (f3 (fX (fv 3) (eV aA)) (iQ rfl YK) (fv 2)))))))) (aB (fS 4 dC.nd (fX (fv 3) (eV aA))) (aB (cD (Gn rfl hr (fv 4) (fv 1) (bK _)) (aB (fS 5 dC.nd (fK ZL (f2 (fK ZF (f2 (fv 4) (fv 1))) (fK YD (f2 (iQ rfl YK) (fK ZG (f2 (fv 4) (fv 1)))))))) (aE (jK (tD rfl (fv 3) (f1 (fK cf (f3 (fv 4) (fv 5) (fv 2)))))))) bR) (aE (aG (fv 3)))))))) ?_;rintro as Q ⟨x,y,p,q,s,e,f,m0,rfl,hu,hv,he,hs,hm,hr,z⟩;refine⟨λm' E=>∃(L:List L2.T)(x' y':Fr),E=[⇑(vc x y),⇑(vc p q),↑s,↥(L++[vc x' y']),none,none]/\bV x' y' e/\uU p q m' x' y'/\L.length+3*m'<=9/\L++vc x' y'::qb p q s m' x' y'=vc x y::qb p q s m0 x y,⟨m0,[],x,y,rfl,hu,hr,by show 0+3*m0<=9;lia,rfl⟩,?_⟩;rintro m E ⟨L,x',y',rfl,kr,hr,hl,hL⟩;have tw:=rW L (vc x' y');show o1 (eZ (L++[vc x' y']) (-1)) _;rw[tw];refine⟨x',y',p,q,e,f,rfl,kr.nv,hv.nv,⋯,λb hb=>?_⟩;show if b=true then _ else _
 by_cases c:hq x' y' p q
 ·rw[oV (hb.2 c)];obtain⟨m,rfl⟩:∃k,m=k+1:=by
   cases m with
   |zero=>exact absurd c hr
   |succ k=>exact⟨k,rfl⟩
  obtain⟨L',hL',l2⟩:=Ud x' y' (aO 1) hs;show o1 (eZ (L++[vc x' y']) (-1)) _;rw[tw];refine⟨x',y',(1,1),s,e,1,rfl,kr.nv,aO 1,∅,⋯,hs,?_⟩;refine⟨?_,m,RZ m,L++[vc x' y']++L',aN y',x',?_,kr.left,hr.2,?_,?_⟩
  ·have:=vK x' y' (1,1) hs;show((L++[vc x' y'])++vG x' y' (1,1) s).length<=9000;rw[OB,OB,OS]
   lia
  ·show[_,_,_,oZ (U.o false ((L++[vc x' y'])++vG x' y' (1,1) s)),_,_]=_;rw[hL',vE kr.nv,OM (L++[vc x' y'])]
  ·rw[OB,OB,OS]
   lia
  ·rw[<-hL];show _=L++vc x' y'::(vG x' y' (1,1) s++qb p q s m (aN y') x');rw[hL',vE kr.nv];simp
 ·rw[oW (λr=>c (hb.1 r))];obtain rfl:m=0:=by
   cases m with
   |zero=>rfl
   |succ k=>exact absurd hr.1 c
  have nl:bL (vc x y::qb p q s m0 x y)=true:=Nz p q hs m0 x y;show o1 (eZ (L++[vc x' y']) (-1)) _;rw[tw];refine⟨d7 rfl,?_⟩;show if(!L2.dX (vc x' y') (vc p q))=true then _ else _;rw[Gd];have e0:qb p q s 0 x' y'=h9 p q s x' y':=rfl;rw[e0]at hL;unfold h9 at hL
  by_cases d:x'=p/\y'=q
  ·rw[oV d]at hL;rw[oW (by simpa using d)];rw[hL];exact⟨nl,z⟩
  ·rw[oW d]at hL;rw[oV (by rw[oX d];rfl)];have ne:=lK kr.nv hv.nv c;obtain⟨t1,t2⟩:=yJ kr.nv hv.nv ne;have:=(kr.nv.tr hv.nv);refine⟨x',y',p,q,e,f,rfl,kr.nv,hv.nv,⋯,x',y',p,q,e,f,rfl,kr.nv,hv.nv,⋯,(1,1),_,rfl,aO 1,bD kr.nv hv.nv,?_,_,_,rfl,cJ kr.nv hv.nv,cI (aO 1) (bD kr.nv hv.nv),ne,?_,?_⟩
   ·have:=rE kr.nv hv.nv;have o:sz (1,1)=1:=∅
    lia
   ·have:=rE kr.nv hv.nv;have:=Ik kr.nv hv.nv;have o:sz (1,1)=1:=∅
    have:=gV (aO 1) (bD kr.nv hv.nv)
    lia
   refine⟨x',y',_,s,e,_,rfl,kr.nv,t1,t2,⋯,hs,?_⟩;have ee:(L++[vc x' y'])++vG x' y' (m6 x' y' p q) s=vc x y::qb p q s m0 x y:=by rw[<-hL];simp
   refine⟨?_,?_,?_⟩
   ·have:=vK x' y' (m6 x' y' p q) hs;show((L++[vc x' y'])++vG x' y' (m6 x' y' p q) s).length<=9000;rw[OB,OB,OS]
    lia
   ·show bL ((L++[vc x' y'])++vG x' y' (m6 x' y' p q) s)=true;rw[ee];exact nl
   ·show Q (.l ((L++[vc x' y'])++vG x' y' (m6 x' y' p q) s)) [];rw[ee];exact z
end
theorem II(h:bV x y e)(k:bV p q f)(c:¬hq x y p q)(c1:¬0<(aX x y p q).1):x=p/\y=q:=by
 have hh:=Cp h.nv k.nv c;have c3:val (aX x y p q)=0:=by
  have:=(yO (cJ h.nv k.nv)).2 ⋯;grind
 have d1:=hh.1;rw[dW h.nv k.nv]at d1;rw[dR h.nv k.nv]at c3;have h1:=h.one;have k1:=k.one;have one:(val x*val p+val y*val q)*(val x*val p+val y*val q)=1:=by
  have:(val x*val p+val y*val q)*(val x*val p+val y*val q)+(val x*val q-val y*val p)*(val x*val q-val y*val p)=1:=by grind
  rw[c3]at this;grind
 have ex:val p=val x*(val x*val p+val y*val q)-val y*(val x*val q-val y*val p):=by grind
 have ey:val q=val y*(val x*val p+val y*val q)+val x*(val x*val q-val y*val p):=by grind
 rw[c3]at ex ey;generalize val x*val p+val y*val q=D at *;have d2:D=1:=by
  have:(D-1)*(D+1)=0:=by grind
  rcases Rat.mul_eq_zero.mp this with a|a<;>grind
 rw[d2]at ex ey;exact⟨b8 h.nv.x k.nv.x (by grind),b8 h.nv.y k.nv.y (by grind)⟩
theorem bV.tr(h:bV x y e)(k:bV c s f):bV (Zg x y c s) (Zf x y c s) (2*(e+f)+1):=⟨h.nv.tr k.nv,by
 rw[gY h.nv k.nv,gX h.nv k.nv];have:=h.one;have:=k.one;grind⟩
theorem xJ(r:Rat):0<1+r*r:=by
 have:0<=r*r:=by
   rcases Rat.le_total (a:=0) (b:=r)with c|c
   ·exact Rat.mul_nonneg c c
   ·have h:=Rat.mul_nonneg (a:=-r) (b:=-r) (by grind) (by grind);grind
 grind
theorem Zh{a b c1 s1 c2 s2:Rat}(ha:0<=a)(hab:a<b)(hb:b<=1)(e1:c1=(1-a*a)/(1+a*a))(e2:s1=2*a/(1+a*a))(e3:c2=(1-b*b)/(1+b*b))(e4:s2=2*b/(1+b*b)):0<c1*s2-s1*c2/\0<=c1*c2+s1*s2:=by
 have A:=xJ a;have B:=xJ b;have AB:=Rat.mul_pos A B;have h1:c1*(1+a*a)=1-a*a:=by grind
 have h2:s1*(1+a*a)=2*a:=by grind
 have h3:c2*(1+b*b)=1-b*b:=by grind
 have h4:s2*(1+b*b)=2*b:=by grind
 have p1:0<=a*b:=Rat.mul_nonneg ha (by grind);have p2:0<(b-a)*(1+a*b):=Rat.mul_pos (by grind) (by grind);have p3:0<=(1-a)*(1+a):=Rat.mul_nonneg (by grind) (by grind);have p4:0<=(1-b)*(1+b):=Rat.mul_nonneg (by grind) (by grind);have p5:0<=((1-a)*(1+a))*((1-b)*(1+b)):=Rat.mul_nonneg p3 p4;constructor
 ·apply bS AB;have:(c1*s2-s1*c2)*((1+a*a)*(1+b*b))=(c1*(1+a*a))*(s2*(1+b*b))-(s1*(1+a*a))*(c2*(1+b*b)):=by grind
  rw[this,h1,h2,h3,h4];have:(1-a*a)*(2*b)-2*a*(1-b*b)=2*((b-a)*(1+a*b)):=by grind
  rw[this];grind
 ·apply iR AB;have:(c1*c2+s1*s2)*((1+a*a)*(1+b*b))=(c1*(1+a*a))*(c2*(1+b*b))+(s1*(1+a*a))*(s2*(1+b*b)):=by grind
  rw[this,h1,h2,h3,h4];have:(1-a*a)*(1-b*b)+2*a*(2*b)=((1-a)*(1+a))*((1-b)*(1+b))+4*(a*b):=by grind
  rw[this];grind
structure JR(u v:L2.T):Prop where
 ex:∃a b c d:Fr,u=vc a b/\v=vc c d/\Nv a b 2500/\Nv c d 2500/\val c*val c+val d*val d=1/\0<val a*val d-val b*val c/\0<=val a*val c+val b*val d
def chn:L2.T->List L2.T->Prop
 |_,[]=>True
 |a,b::l=>JR a b/\chn b l
def lst:L2.T->List L2.T->L2.T
 |a,[]=>a
 |_,b::l=>lst b l
theorem Mp:∀{a:L2.T}{l m:List L2.T},chn a l->chn (lst a l) m->chn a (l++m)
 |_,[],_,_,h=>h
 |_,_::_,_,h,k=>⟨h.1,Mp h.2 k⟩
theorem Nu:∀(a:L2.T)(l m:List L2.T),lst a (l++m)=lst (lst a l) m
 |_,[],_=>rfl
 |_,b::l,m=>Nu b l m
theorem Ck:∀(a:L2.T)(l:List L2.T),∃L,a::l=L++[lst a l]
 |a,[]=>⟨[],rfl⟩
 |a,b::l=>by obtain⟨L,h⟩:=Ck b l;exact⟨a::L,by show a::(b::l)=a::(L++[lst b l]);rw[h]⟩
theorem Ai{x y t1 t2:Fr}{e:Nat}(h:bV x y e)(he:e<=100)(n1:bF t1)(n2:bF t2)(z1:sz t1<=566)(z2:sz t2<=566)(ha:0<=val t1)(hab:val t1<val t2)(hb:val t2<=1):JR (uV x y t1) (uV x y t2):=by
 have v1:=(Ak n1).up (show _<=1133 by lia);have v2:=(Ak n2).up (show _<=1133 by lia);obtain⟨p1,p2⟩:=Zh ha hab hb (rG n1) (rH n1) (rG n2) (rH n2);have o2:val (cT t2)*val (cT t2)+val (sT t2)*val (sT t2)=1:=by
  rw[rG n2,rH n2];have:=sO (val t2);grind
 have o:=h.one;refine⟨_,_,_,_,rfl,rfl,(h.nv.tr v1).up ⋯,(h.nv.tr v2).up ⋯,?_,?_,?_⟩
 ·rw[gY h.nv v2,gX h.nv v2];grind
 ·rw[gY h.nv v2,gX h.nv v2,gY h.nv v1,gX h.nv v1];generalize val (cT t1)=c1 at *;generalize val (sT t1)=s1 at *;generalize val (cT t2)=c2 at *;generalize val (sT t2)=s2 at *;have:(val x*c1-val y*s1)*(val x*s2+val y*c2)-(val x*s1+val y*c1)*(val x*c2-val y*s2)=(val x*val x+val y*val y)*(c1*s2-s1*c2):=by grind
  rw[this,o];grind
 ·rw[gY h.nv v2,gX h.nv v2,gY h.nv v1,gX h.nv v1];generalize val (cT t1)=c1 at *;generalize val (sT t1)=s1 at *;generalize val (cT t2)=c2 at *;generalize val (sT t2)=s2 at *;have:(val x*c1-val y*s1)*(val x*c2-val y*s2)+(val x*s1+val y*c1)*(val x*s2+val y*c2)=(val x*val x+val y*val y)*(c1*c2+s1*s2):=by grind
  rw[this,o];grind
theorem vF(h:Nv x y e):uV x y (0,1)=vc x y:=by
 have e1:cT (0,1)=(1,1):=∅
 have e2:sT (0,1)=(0,1):=∅
 unfold uV;rw[e1,e2];have e8:Zg x y (1,1) (0,1)=x:=b8 (h.tr G5).x h.x (by rw[gY h G5,gW,kQ];grind);have e9:Zf x y (1,1) (0,1)=y:=b8 (h.tr G5).y h.y (by rw[gX h G5,gW,kQ];grind);rw[e8,e9]
theorem Bo{s:Int}(h:bV x y e)(he:e<=100)(n:bF t)(z:sz t<=564)(t0:0<val t)(t1:val t<=1)(hs:s=1\/s=2\/s=3):chn (vc x y) (vG x y t s)/\lst (vc x y) (vG x y t s)=uV x y t:=by
 have k:∀{k s:Int},k.natAbs<=3->1<=s/\s<=3->bF (aH t (fY k s))/\sz (aH t (fY k s))<=566/\val (aH t (fY k s))*(s:Rat)=val t*(k:Rat):=λ{k s}h1 h2=>by
  obtain⟨n1,n2⟩:=Il h1 h2;have:=cC n n1;have nz:s≠0:=⋯
  refine⟨aK n n1,⋯,?_⟩;rw[aR n n1,eT nz];have:(s:Rat)≠0:=by exact_mod_cast nz
  grind
 have b0:bF ((0:Int),1):=aO 0;have z0:sz ((0:Int),1)<=566:=∅
 obtain rfl|rfl|rfl:=hs
 ·obtain⟨a1,a2,a3⟩:=k (k:=1) (s:=1) ∅ ∅;refine⟨⟨?_,trivial⟩,?_⟩
  ·rw[<-vF h.nv];exact Ai h he b0 a1 z0 a2 (by rw[kQ];grind) (by rw[kQ];grind) (by grind)
  ·show uV x y (aH t (fY 1 1))=_;rw[b8 a1 n (by grind)]
 ·obtain⟨a1,a2,a3⟩:=k (k:=1) (s:=2) ∅ ∅;obtain⟨b1,b2,b3⟩:=k (k:=2) (s:=2) ∅ ∅;refine⟨⟨?_,?_,trivial⟩,?_⟩
  ·rw[<-vF h.nv];exact Ai h he b0 a1 z0 a2 (by rw[kQ];grind) (by rw[kQ];grind) (by grind)
  ·exact Ai h he a1 b1 a2 b2 (by grind) (by grind) (by grind)
  ·show uV x y (aH t (fY 2 2))=_;rw[b8 b1 n (by grind)]
 ·obtain⟨a1,a2,a3⟩:=k (k:=1) (s:=3) ∅ ∅;obtain⟨b1,b2,b3⟩:=k (k:=2) (s:=3) ∅ ∅;obtain⟨c1,c2,c3⟩:=k (k:=3) (s:=3) ∅ ∅;refine⟨⟨?_,?_,?_,trivial⟩,?_⟩
  ·rw[<-vF h.nv];exact Ai h he b0 a1 z0 a2 (by rw[kQ];grind) (by rw[kQ];grind) (by grind)
  ·exact Ai h he a1 b1 a2 b2 (by grind) (by grind) (by grind)
  ·exact Ai h he b1 c1 b2 c2 (by grind) (by grind) (by grind)
  ·show uV x y (aH t (fY 3 3))=_;rw[b8 c1 n (by grind)]
theorem Az(h:bV x y e)(k:bV p q f)(c:¬hq x y p q)(d:¬(x=p/\y=q)):0<val (m6 x y p q)/\val (m6 x y p q)<=1/\uV x y (m6 x y p q)=vc p q:=by
 have hh:=Cp h.nv k.nv c;have ne:=lK h.nv k.nv c;have c0:0<val (aX x y p q):=(pK (cJ h.nv k.nv)).2 (by
  obtain a|a:=UM 0 (aX x y p q).1
  ·exact a
  ·exact absurd (II h k c ⋯) d)
 have hd:=hh.1;have nt:=(yJ h.nv k.nv ne).1;have vt:val (m6 x y p q)=val (aX x y p q)/(1+val (cS x y p q)):=by
  unfold m6;rw[lL (cJ h.nv k.nv) (cI (aO 1) (bD h.nv k.nv)) ne,a7 (aO 1) (bD h.nv k.nv),gW]
 have one:val (cS x y p q)*val (cS x y p q)+val (aX x y p q)*val (aX x y p q)=1:=by
  rw[dW h.nv k.nv,dR h.nv k.nv];have:=h.one;have:=k.one;grind
 have hD:=dW h.nv k.nv;have hC:=dR h.nv k.nv;have wt:=Ak nt;have vc1:=rG nt;have vs1:=rH nt;have zz:=sO (val (m6 x y p q));have ex:val p=val x*val (cS x y p q)-val y*val (aX x y p q):=by rw[hD,hC];have:=h.one;grind
 have ey:val q=val x*val (aX x y p q)+val y*val (cS x y p q):=by rw[hD,hC];have:=h.one;grind
 have t1:val (m6 x y p q)*(1+val (cS x y p q))=val (aX x y p q):=by
  rw[vt];have n1:1+val (cS x y p q)≠0:=by grind
  clear vt vc1 vs1 zz ex ey hD hC one;exact Rat.div_mul_cancel n1
 have cle:val (aX x y p q)<=1:=by
  rcases Rat.le_total (a:=val (aX x y p q)) (b:=1)with a|a
  ·exact a
  ·have p1:=Rat.mul_nonneg (a:=val (aX x y p q)-1) (b:=val (aX x y p q)+1) (by grind) (by grind);have p2:=Rat.mul_pos hd hd;grind
 have t0:0<val (m6 x y p q):=bS (k:=1+val (cS x y p q)) (by grind) (by rw[t1];exact c0);have t2:0<=1-val (m6 x y p q):=iR (k:=1+val (cS x y p q)) (by grind) (by
  have:(1-val (m6 x y p q))*(1+val (cS x y p q))=1+val (cS x y p q)-val (aX x y p q):=by grind
  rw[this];grind)
 refine⟨t0,by grind,?_⟩;have g1:val (cT (m6 x y p q))=val (cS x y p q):=by
  rw[vc1];generalize val (m6 x y p q)=t at *;generalize val (cS x y p q)=D at *;generalize val (aX x y p q)=C at *;have:(1-t*t-D*(1+t*t))*((1+D)*(1+D))=0:=by grind
  have nz:(1+D)*(1+D)≠0:=by have:=Rat.mul_pos (a:=1+D) (b:=1+D) (by grind) (by grind);grind
  obtain a|a:=Rat.mul_eq_zero.mp this
  ·grind
  ·exact absurd a nz
 have g2:val (sT (m6 x y p q))=val (aX x y p q):=by
  rw[vs1];generalize val (m6 x y p q)=t at *;generalize val (cS x y p q)=D at *;generalize val (aX x y p q)=C at *;have:(2*t-C*(1+t*t))*((1+D)*(1+D))=0:=by grind
  have nz:(1+D)*(1+D)≠0:=by have:=Rat.mul_pos (a:=1+D) (b:=1+D) (by grind) (by grind);grind
  obtain a|a:=Rat.mul_eq_zero.mp this
  ·grind
  ·exact absurd a nz
 have f1:Zg x y (cT (m6 x y p q)) (sT (m6 x y p q))=p:=b8 (h.nv.tr wt).x k.nv.x (by rw[gY h.nv wt,g1,g2,ex]);have f2:Zf x y (cT (m6 x y p q)) (sT (m6 x y p q))=q:=b8 (h.nv.tr wt).y k.nv.y (by rw[gX h.nv wt,g1,g2,ey]);unfold uV;rw[f1,f2]
theorem wN{s:Int}(k:bV p q f)(yn:e<=100)(he:e+f<=140)(hs:s=1\/s=2\/s=3):∀(m:Nat)(x y:Fr),bV x y e->uU p q m x y->chn (vc x y) (qb p q s m x y)/\lst (vc x y) (qb p q s m x y)=vc p q
 |0,x,y,h,r=>by
  show chn (vc x y) (h9 p q s x y)/\lst (vc x y) (h9 p q s x y)=vc p q;unfold h9
  by_cases d:x=p/\y=q
  ·rw[oV d];exact⟨trivial,by rw[d.1,d.2];rfl⟩
  ·rw[oW d];obtain⟨t0,t1,te⟩:=Az h k r d;obtain⟨z1,z2⟩:=yJ h.nv k.nv (lK h.nv k.nv r);have:=Bo h yn z1 ⋯ t0 t1 hs;rw[te]at this;exact this
 |m+1,x,y,h,r=>by
  obtain⟨a1,a2⟩:=Bo (t:=(1,1)) h yn (aO 1) ∅ (by rw[gW];grind) (by rw[gW];grind) hs;rw[vE h.nv]at a2;obtain⟨b1,b2⟩:=wN k yn he hs m (aN y) x h.left r.2;rw[<-a2]at b1 b2;exact⟨Mp a1 b1,by rw[<-b2];exact Nu _ _ _⟩
def Jd(l:List L2.T):Prop:=∀t∈l,∃a b,t=vc a b
theorem Ew(x y t:Fr)(s:Int):Jd (vG x y t s):=λz hz=>by
 obtain⟨k,_,rfl⟩:=QK.mp hz;exact⟨_,_,rfl⟩
theorem Ml(p q:Fr)(s:Int):∀(m:Nat)(x y:Fr),Jd (qb p q s m x y)
 |0,x,y=>λz hz=>by
  have hz:z∈h9 p q s x y:=hz;unfold h9 at hz;split at hz
  ·cases hz
  ·exact Ew _ _ _ _ z hz
 |m+1,x,y=>λz hz=>by
  obtain h|h:=OZ.mp hz
  ·exact Ew _ _ _ _ z h
  ·exact Ml p q s m _ _ z h
theorem Cj{s:Int}(p q:Fr)(hs:s=1\/s=2\/s=3):∀(m:Nat)(x y:Fr),(qb p q s m x y).length<=3*m+3
 |0,x,y=>by
  show(h9 p q s x y).length<=3;unfold h9
  split
  ·decide
  ·exact vK _ _ _ hs
 |m+1,x,y=>by
  have:=vK x y (1,1) hs;have:=Cj p q hs m (aN y) x;show(vG x y (1,1) s++qb p q s m (aN y) x).length<=_;rw[OB]
  lia
def eN(D C:Rat):Rat:=if 0<=C then 1-D else 3+D
def cx:L2.T->Fr×Fr
 |.tup [.tup [.int a,.int b],.tup [.int c,.int d]]=>((a,b),(c,d))
 |_=>((0,1),(0,1))
theorem uM(a b:Fr):cx (vc a b)=(a,b):=rfl
def kf(x y:Fr)(t:L2.T):Rat:=eN (val x*val (cx t).1+val y*val (cx t).2) (val x*val (cx t).2-val y*val (cx t).1)
theorem i4(x y a b:Fr):kf x y (vc a b)=eN (val x*val a+val y*val b) (val x*val b-val y*val a):=rfl
def srt(k:L2.T->Rat):L2.T->List L2.T->Prop
 |_,[]=>True
 |a,b::l=>k a<k b/\srt k b l
theorem Ox{k:L2.T->Rat}:∀{a:L2.T}{l m:List L2.T},srt k a l->srt k (lst a l) m->srt k a (l++m)
 |_,[],_,_,h=>h
 |_,_::_,_,h,g=>⟨h.1,Ox h.2 g⟩
theorem sP{k:L2.T->Rat}:∀{a:L2.T}{l:List L2.T},srt k a l->∀{i:Nat}{u:L2.T},(a::l)[i]?=oZ u->i<l.length->k u<k (lst a l)
 |a,[],_,i,u,_,h=>by simp at h
 |a,[b],h,0,u,e,_=>by cases e;exact h.1
 |a,b::c::l,h,0,u,e,_=>by
  cases e;have:=sP (a:=b) (l:=c::l) h.2 (i:=0) rfl (by simp);have h1:=h.1;show k a<k (lst b (c::l));grind
 |a,b::l,h,i+1,u,e,hi=>sP (a:=b) (l:=l) h.2 e (by simpa using hi)
def At(j:Nat)(D C:Rat):Prop:=(j=0/\D=1/\C=0)\/(j=1/\D=0/\C=1)\/(j=2/\D = -1/\C=0)\/(j=3/\D=0/\C = -1)
def Wn(j:Nat)(a:Rat):Rat:=if j%2=0 then 1-(1-a*a)/(1+a*a)else 2*a/(1+a*a)
theorem J5{a b:Rat}(j:Nat)(ha:0<=a)(hab:a<b)(hb:b<=1):Wn j a<Wn j b:=by
 have A:=xJ a;have B:=xJ b;have AB:=Rat.mul_pos A B;have p0:0<=a*(1-b):=Rat.mul_nonneg ha (by grind);have p00:0<1-a*b:=by
   have:1-a*b=(1-a)+a*(1-b):=by grind
   rw[this];grind
 have p1:0<(b-a)*(1-a*b):=Rat.mul_pos (by grind) p00;have p2:0<(b-a)*(b+a):=Rat.mul_pos (by grind) (by grind);have e1:(1-a*a)/(1+a*a)*(1+a*a)=1-a*a:=Rat.div_mul_cancel (by grind);have e2:(1-b*b)/(1+b*b)*(1+b*b)=1-b*b:=Rat.div_mul_cancel (by grind);have e3:2*a/(1+a*a)*(1+a*a)=2*a:=Rat.div_mul_cancel (by grind);have e4:2*b/(1+b*b)*(1+b*b)=2*b:=Rat.div_mul_cancel (by grind);unfold Wn;generalize(1-a*a)/(1+a*a)=c1 at *;generalize(1-b*b)/(1+b*b)=c2 at *;generalize 2*a/(1+a*a)=s1 at *;generalize 2*b/(1+b*b)=s2 at *
 split
 ·have:0<(1-c2)-(1-c1):=bS AB (by
   have:((1-c2)-(1-c1))*((1+a*a)*(1+b*b))=(c1*(1+a*a))*(1+b*b)-(c2*(1+b*b))*(1+a*a):=by grind
   rw[this,e1,e2];have:(1-a*a)*(1+b*b)-(1-b*b)*(1+a*a)=2*((b-a)*(b+a)):=by grind
   rw[this];grind)
  grind
 ·have:0<s2-s1:=bS AB (by
   have:(s2-s1)*((1+a*a)*(1+b*b))=(s2*(1+b*b))*(1+a*a)-(s1*(1+a*a))*(1+b*b):=by grind
   rw[this,e3,e4];have:2*b*(1+a*a)-2*a*(1+b*b)=2*((b-a)*(1-a*b)):=by grind
   rw[this];grind)
  grind
theorem Vj(h:bV x y e)(k:bV p q f)(hj:At j (val x*val p+val y*val q) (val x*val q-val y*val p))(n:bF t)(t0:0<=val t)(t1:val t<=1)(t3:j=3->val t<1):kf x y (uV p q t)=(j:Rat)+Wn j (val t):=by
 have w:=Ak n;have A:=xJ (val t);unfold uV;rw[i4,gY k.nv w,gX k.nv w];have e1:val (cT t)*(1+val t*val t)=1-val t*val t:=by rw[rG n];exact Rat.div_mul_cancel (by grind)
 have e2:val (sT t)*(1+val t*val t)=2*val t:=by rw[rH n];exact Rat.div_mul_cancel (by grind)
 have p3:0<=(1-val t)*(1+val t):=Rat.mul_nonneg (by grind) (by grind);have c0:0<=val (cT t):=iR A (by rw[e1];grind);have s0:0<=val (sT t):=iR A (by rw[e2];grind);have cc:j=3->0<val (cT t):=λh=>bS A (by
  rw[e1];have:=t3 h;have:=Rat.mul_pos (a:=1-val t) (b:=1+val t) (by grind) (by grind);grind)
 have gD:val x*(val p*val (cT t)-val q*val (sT t))+val y*(val p*val (sT t)+val q*val (cT t))=val (cT t)*(val x*val p+val y*val q)-val (sT t)*(val x*val q-val y*val p):=by grind
 have gC:val x*(val p*val (sT t)+val q*val (cT t))-val y*(val p*val (cT t)-val q*val (sT t))=val (sT t)*(val x*val p+val y*val q)+val (cT t)*(val x*val q-val y*val p):=by grind
 rw[gD,gC];unfold Wn;rw[<-rG n,<-rH n];generalize val x*val p+val y*val q=D at *;generalize val x*val q-val y*val p=C at *;unfold eN;obtain⟨rfl,rfl,rfl⟩|⟨rfl,rfl,rfl⟩|⟨rfl,rfl,rfl⟩|⟨rfl,rfl,rfl⟩:=hj
 ·rw[oV (by grind),oV ∅];grind
 ·rw[oV (by grind),oW ∅];grind
 ·by_cases z:val (sT t)=0
  ·have z1:val t=0:=by rw[z]at e2;grind
   rw[z1]at e1;rw[oV (by grind),oV ∅];grind
  ·rw[oW (by grind),oV ∅];grind
 ·have:=cc rfl;rw[oW (by grind),oW ∅];grind
theorem Oy{s:Int}(h:bV x y e)(k:bV p q f)(hj:At j (val x*val p+val y*val q) (val x*val q-val y*val p))(n:bF t)(z:sz t<=564)(t0:0<val t)(t1:val t<=1)(t3:j=3->val t<1)(hs:s=1\/s=2\/s=3):srt (kf x y) (vc p q) (vG p q t s):=by
 have kk:∀{k s:Int},k.natAbs<=3->1<=s/\s<=3->bF (aH t (fY k s))/\val (aH t (fY k s))*(s:Rat)=val t*(k:Rat):=λ{k s}h1 h2=>by
  obtain⟨n1,n2⟩:=Il h1 h2;have nz:s≠0:=⋯
  refine⟨aK n n1,?_⟩;rw[aR n n1,eT nz];have:(s:Rat)≠0:=by exact_mod_cast nz
  grind
 have b0:bF ((0:Int),1):=aO 0;have step:∀{t1 t2:Fr},bF t1->bF t2->0<=val t1->val t1<val t2->val t2<=val t->kf x y (uV p q t1)<kf x y (uV p q t2):=λ{a b}na nb a0 ab bt=>by
  rw[Vj h k hj na a0 (by grind) (λz=>by have:=t3 z;grind),Vj h k hj nb (by grind) (by grind) (λz=>by have:=t3 z;grind)];have:=J5 j a0 ab (by grind);grind
 have zero:∀{t2:Fr},bF t2->0<val t2->val t2<=val t->kf x y (vc p q)<kf x y (uV p q t2):=λ{b}nb ab bt=>by
  rw[<-vF k.nv];exact step b0 nb (by rw[kQ];grind) (by rw[kQ];exact ab) bt
 obtain rfl|rfl|rfl:=hs
 ·obtain⟨a1,a3⟩:=kk (k:=1) (s:=1) ∅ ∅;exact⟨zero a1 (by grind) (by grind),trivial⟩
 ·obtain⟨a1,a3⟩:=kk (k:=1) (s:=2) ∅ ∅;obtain⟨b1,b3⟩:=kk (k:=2) (s:=2) ∅ ∅;exact⟨zero a1 (by grind) (by grind),step a1 b1 (by grind) (by grind) (by grind),trivial⟩
 ·obtain⟨a1,a3⟩:=kk (k:=1) (s:=3) ∅ ∅;obtain⟨b1,b3⟩:=kk (k:=2) (s:=3) ∅ ∅;obtain⟨c1,c3⟩:=kk (k:=3) (s:=3) ∅ ∅;exact⟨zero a1 (by grind) (by grind),step a1 b1 (by grind) (by grind) (by grind),step b1 c1 (by grind) (by grind) (by grind),trivial⟩
theorem CW(h:bV x y e)(k:bV p q f)(c:¬hq x y p q)(d:¬(x=p/\y=q)):val (m6 x y p q)<1:=by
 have hh:=Cp h.nv k.nv c;have ne:=lK h.nv k.nv c;have hd:=hh.1;have one:val (cS x y p q)*val (cS x y p q)+val (aX x y p q)*val (aX x y p q)=1:=by
  rw[dW h.nv k.nv,dR h.nv k.nv];have:=h.one;have:=k.one;grind
 have vt:val (m6 x y p q)=val (aX x y p q)/(1+val (cS x y p q)):=by
  unfold m6;rw[lL (cJ h.nv k.nv) (cI (aO 1) (bD h.nv k.nv)) ne,a7 (aO 1) (bD h.nv k.nv),gW]
 have t1:val (m6 x y p q)*(1+val (cS x y p q))=val (aX x y p q):=by
  rw[vt];exact Rat.div_mul_cancel (by grind)
 have cle:val (aX x y p q)<=1:=by
  rcases Rat.le_total (a:=val (aX x y p q)) (b:=1)with a|a
  ·exact a
  ·have p1:=Rat.mul_nonneg (a:=val (aX x y p q)-1) (b:=val (aX x y p q)+1) (by grind) (by grind);have p2:=Rat.mul_pos hd hd;grind
 have:0<1-val (m6 x y p q):=bS (k:=1+val (cS x y p q)) (by grind) (by
  have:(1-val (m6 x y p q))*(1+val (cS x y p q))=1+val (cS x y p q)-val (aX x y p q):=by grind
  rw[this];grind)
 grind
theorem C2(h:bV x y e)(k:bV p q f)(hj:At j (val x*val p+val y*val q) (val x*val q-val y*val p))(j2:j<=2):At (j+1) (val x*val (aN q)+val y*val p) (val x*val p-val y*val (aN q)):=by
 rw[bC k.nv.y];have e1:val x * -val q+val y*val p = -(val x*val q-val y*val p):=by grind
 have e2:val x*val p-val y * -val q=val x*val p+val y*val q:=by grind
 rw[e1,e2];generalize val x*val p+val y*val q=D at *;generalize val x*val q-val y*val p=C at *;obtain⟨rfl,rfl,rfl⟩|⟨rfl,rfl,rfl⟩|⟨rfl,rfl,rfl⟩|⟨rfl,rfl,rfl⟩:=hj
 ·exact .inr (.inl ⟨rfl,by grind,rfl⟩)
 ·exact .inr (.inr (.inl ⟨rfl,by grind,rfl⟩))
 ·exact .inr (.inr (.inr ⟨rfl,by grind,rfl⟩))
 ·lia
theorem Lw{s:Int}(h:bV x y e)(k:bV p q f)(yn:g<=100)(he:g+f<=140)(hs:s=1\/s=2\/s=3):∀(m j:Nat)(a b:Fr),bV a b g->j+m<=3->At j (val x*val a+val y*val b) (val x*val b-val y*val a)->uU p q m a b->srt (kf x y) (vc a b) (qb p q s m a b)
 |0,j,a,b,u,hm,hj,r=>by
  show srt (kf x y) (vc a b) (h9 p q s a b);unfold h9
  by_cases d:a=p/\b=q
  ·rw[oV d];trivial
  ·rw[oW d];obtain⟨t0,t1,te⟩:=Az u k r d;obtain⟨z1,z2⟩:=yJ u.nv k.nv (lK u.nv k.nv r);exact Oy h u hj z1 ⋯ t0 t1 (λ_=>CW u k r d) hs
 |m+1,j,a,b,u,hm,hj,r=>by
  have s1:=Oy (t:=(1,1)) h u hj (aO 1) ∅ (by rw[gW];grind) (by rw[gW];grind) (λz=>⋯) hs;have a2:=(Bo (t:=(1,1)) u yn (aO 1) ∅ (by rw[gW];grind) (by rw[gW];grind) hs).2;rw[vE u.nv]at a2;have s2:=Lw h k yn he hs m (j+1) (aN b) a u.left ⋯ (C2 h u hj ⋯) r.2;rw[<-a2]at s2;exact Ox s1 s2
section
variable{P:VQ}{w:VU}{K:W.Frag}{mg:Str->Option oA}{base:oE}
def HK:dG:=λas Q=>∃x y:Fr,as=[.v (fr x),.v (fr y)]/\bF x/\bF y/\sz x<=7900/\sz y<=7900/\∀r:Int,(r<0↔val x<val y)->Q (.v (.int r)) []
theorem C6(hx:bF x)(hy:bF y):x.1*y.2<y.1*x.2↔val x<val y:=by
 have e:=bQ hx hy;have n:=dB hx hy;have l:=El n;have dd:=d9 hx hy;have v:=eT (n:=x.1*y.2-y.1*x.2) dd;have s:(aS x y).1<0↔x.1*y.2-y.1*x.2<0:=by
  have c:=Ag (n:=x.1*y.2-y.1*x.2) dd;have d1:=(jN (n:=x.1*y.2-y.1*x.2) dd).2.1;have d2:0<x.2*y.2:=by
   have h1:1*1<=x.2*y.2:=VJ hx.d hy.d ∅ (by have:=hx.d;lia)
   lia
  show sF _ _<0↔_;generalize sF (x.1*y.2-y.1*x.2) (x.2*y.2)=N at *;generalize nW (x.1*y.2-y.1*x.2) (x.2*y.2)=D at *;generalize x.1*y.2-y.1*x.2=A at *;generalize x.2*y.2=B at *;constructor
  ·intro h;have:N*B<0:=UH h d2;rw[c]at this;obtain a|a:=UM A 0
   ·exact a
   ·have:=TF a (show 0<=D by lia);lia
  ·intro h;have:A*D<0:=UH h ⋯;rw[<-c]at this;obtain a|a:=UM N 0
   ·exact a
   ·have:=TF a (show 0<=B by lia);lia
 rw[e]at l;constructor
 ·intro h;have:=l.2 (s.2 ⋯);grind
 ·intro h;have:=s.1 (l.1 (by grind))
  lia
abbrev kH(P w K mg base):=(~~~Fn) 1 "compared" oG (aJ K HK)
abbrev qT:VS:=top 7
theorem pE:aF ["one","other","first","second"] oG (aC qT):=dH
theorem Hi(F:cL K "compared" "compared" qT f fd)(TX:Txt mg):(~~~aT) cO 1 f fd oG (aJ K HK):=by
 refine F.okU pE (λhr=>(aB (fS 2 pE.nd (aP aZ (fQ 0) (fQ 1))) (aB (fS 3 pE.nd (aP aZ (fQ 1) (fQ 0))) (aB (cD (fP lI (fv 2) (fv 3)) (aE (aG (eV aA))) bR) (aB (cD (fP Al (fv 2) (fv 3)) (aE (aG aA)) bR) (aE (aG aA))))))) ?_;rintro as Q ⟨x,y,rfl,hx,hy,s1,s2,z⟩;have ci:=C6 hx hy;refine⟨j6 (e:=7900) (pl (dN x) ⋯) (pl (bW y) ⋯) ∅,j6 (e:=7900) (pl (dN y) ⋯) (pl (bW x) ⋯) ∅,?_⟩;show if decide (x.1*y.2<y.1*x.2)=true then _ else _
 by_cases c:x.1*y.2<y.1*x.2
 ·rw[oY c,oV rfl];exact⟨rfl,z (-1) ⟨λ_=>ci.1 c,λ_=>∅⟩⟩
 ·rw[oX c,oW ∅];have nc:¬val x<val y:=λh=>c (ci.2 h);show if decide (y.1*x.2<x.1*y.2)=true then _ else _
  by_cases c':y.1*x.2<x.1*y.2
  ·rw[oY c',oV rfl];exact⟨rfl,z 1 ⟨λh=>⋯,λh=>absurd h nc⟩⟩
  ·rw[oX c',oW ∅];exact⟨rfl,z 0 ⟨λh=>⋯,λh=>absurd h nc⟩⟩
def MY:dG:=λas Q=>∃(x y p q:Fr)(e f:Nat),as=[.v (vc x y),.v (vc p q)]/\Nv x y e/\Nv p q f/\e+f<=3900/\∀r:Fr,bF r->sz r<=2*(e+f)+4->val r=kf x y (vc p q)->Q (.v (fr r)) []
abbrev rT(P w K mg base):=(~~~Fn) 5 "turn_size" oG (aJ K MY)
abbrev pB:VS:=top 40
theorem Dz:aF oG oG (aC pB):=dH
theorem Dd(F:cL K "turn_size" "turn_size" pB f fd)(TX:Txt mg)(ZF: ~~~nA)(ZG: ~~~qI)(YT: ~~~lB)(YD: ~~~gF)(YK:mW mg K "ONE_turns" (.tup [.int 1,.int 1])):(~~~aT) cO 5 f fd oG (aJ K MY):=by
 refine F.okU Dz (λhr=>(aB (cD (fP Wk (fX (fK ZF (f2 (fv 0) (fv 1))) aA) aA) (aE (aG (fK YT (f2 (iQ rfl YK) (fK ZG (f2 (fv 0) (fv 1))))))) bR) (aE (aG (fK YD (f2 (aM (f2 aA aA)) (fK ZG (f2 (fv 0) (fv 1))))))))) ?_;rintro as Q ⟨x,y,p,q,e,f,rfl,h,k,he,z⟩;have sd:=rE h k;have o:sz (1,1)=1:=∅
 have o3:sz (3,1)=2:=∅
 refine⟨x,y,p,q,e,f,rfl,h,k,he,?_⟩;show if decide (0<=(aX x y p q).1)=true then _ else _
 by_cases c:0<=(aX x y p q).1
 ·rw[oY c,oV rfl];have c':=(eI (cJ h k)).2 c;rw[dR h k]at c';have ss:=mT (aO 1) (bD h k);refine⟨x,y,p,q,e,f,rfl,h,k,he,(1,1),_,rfl,aO 1,bD h k,⋯,rfl,z _ (dB (aO 1) (bD h k)) ⋯ ?_⟩;rw[bQ (aO 1) (bD h k),gW,dW h k,i4];unfold eN;rw[oV c']
 ·rw[oX c,oW ∅];have c':¬0<=val x*val q-val y*val p:=λhh=>c ((eI (cJ h k)).1 (by rw[dR h k];exact hh));have ss:=gV (aO 3) (bD h k);refine⟨x,y,p,q,e,f,rfl,h,k,he,(3,1),_,rfl,aO 3,bD h k,⋯,rfl,z _ (cI (aO 3) (bD h k)) ⋯ ?_⟩;rw[a7 (aO 3) (bD h k),iW,dW h k,i4];unfold eN;rw[oW c'];rfl
def T7:dG:=λas Q=>∃x y:Fr,as=[.v (vc x y)]/\Q (.v (vc (aN x) y)) []
abbrev vY(P w K mg base):=(~~~Fn) 1 "flipped" ["vector"] (aJ K T7)
abbrev tO:VS:=top 18
theorem rC:aF ["vector","x","y"] ["vector"] (aC tO):=dH
theorem Kl(F:cL K "flipped" "flipped" tO f fd)(TX:Txt mg):(~~~aT) cO 1 f fd ["vector"] (aJ K T7):=by
 refine F.okU rC (λhr=>(aB (d6 (fv 0) (dE (n:=2) rfl rfl (aQ (fG 1 rC.nd) (aQ (fG 2 rC.nd) cH)))) (aE (aG (aM (f2 (aM (f2 (eV (fQ 1)) (fQ 1))) (fv 2))))))) ?_;rintro as Q ⟨x,y,rfl,q⟩;exact⟨rfl,q⟩
def mU(k:L2.T->Rat)(u:L2.T)(M:List L2.T->List L2.T):List L2.T->List L2.T
 |[]=>u::M []
 |r::R=>if k r<k u then r::mU k u M R else u::M (if L2.dX r u=true then R else r::R)
def tF(k:L2.T->Rat):List L2.T->List L2.T->List L2.T
 |[],_=>[]
 |u::A,B=>mU k u (tF k A) B
def Ut(e:Nat)(t:L2.T):Prop:=∃a b,t=vc a b/\Nv a b e
structure Mg(x y:Fr)(A B:List L2.T)(o:L2.T):Prop where
 k1:∀i u,A[i]?=oZ u->i+1<A.length->kf x y u<kf x y o
 k2:∀i u,A[i]?=oZ u->i+1=A.length->u=o
 k3:∀i u,B[i]?=oZ u->i+1=B.length->u=o
 lb:0<B.length
theorem D0{B:List L2.T}(h:n<B.length):∃r R,B.drop n=r::R/\B[n]?=oZ r/\R=B.drop (n+1):=⟨B[n],B.drop (n+1),QM h,NW h,rfl⟩
def Pk:dG:=λas Q=>∃(x y:Fr)(A B:List L2.T)(o:L2.T)(e f:Nat),as=[.v (.lst A),.v (.lst B),.v (vc x y)]/\Nv x y e/\(∀t∈A,Ut f t)/\(∀t∈B,Ut f t)/\e+f<=3900/\A.length+B.length<=900/\Mg x y A B o/\bL (tF (kf x y) A B)=true/\Q (.l (tF (kf x y) A B)) []
abbrev zL(P w K mg base):=(~~~Fn) 6 "merged" ["ahead","back","one"] (aJ K Pk)
abbrev xZ:VS:=top 41
theorem iM:aF ["ahead","back","one","units","at","unit","size"] ["ahead","back","one"] (aC xZ):=dH
theorem Rr(F:cL K "merged" "merged" xZ f fd)(TX:Txt mg)(ZY: ~~~rT)(YU: ~~~kH):(~~~aT) cO 6 f fd ["ahead","back","one"] (aJ K Pk):=by
 refine F.okU iM (λhr=>(aB (fS 3 iM.nd (cV bP)) (aB (fS 4 iM.nd aA) (aB (j5 PassesOwn.never rfl (kM rfl (fv 0)) (fG 5 iM.nd) (aB (fS 6 iM.nd (fK ZY (f2 (fv 2) (fv 5)))) (aB (nQ PassesOwn.never (fP lI (fK YU (f2 (fK ZY (f2 (fv 2) (fX (fv 1) (fv 4)))) (fv 6))) aA) (aB (jK (iC rfl (fv 3) (f1 (fX (fv 1) (fv 4))))) (aE (Ur (i:=4) iM.nd rfl (PX rfl) aA Vf)))) (aB (cD (gJ rfl hr (fX (fv 1) (fv 4)) (fv 5) (bK _)) (aE (Ur (i:=4) iM.nd rfl (PX rfl) aA Vf)) bR) (aE (jK (iC rfl (fv 3) (f1 (fv 5))))))))) (aE (aG (fv 3))))))) ?_;rintro as Q ⟨x,y,A,B,o,e,f,rfl,h,ha,hb,he,hl,mg,nl,z⟩;refine cZ (λi E=>∃(acc:List L2.T)(n:Nat)(v5 v6:Option U),E=[⇑(.lst A),⇑(.lst B),⇑(vc x y),↥acc,↑(n:Int),v5,v6]/\acc++tF (kf x y) (A.drop i) (B.drop n)=tF (kf x y) A B/\acc.length<=i+n/\n<=B.length/\(i<A.length->n<B.length)) ⟨[],0,none,none,rfl,rfl,OF _,OG _,λ_=>mg.lb⟩ ?_ ?_
 ·rintro i t rest E hi ⟨acc,n,v5,v6,rfl,hm,ni,hn,lq⟩ KK;have jh:A[i]?=oZ t:=hi;obtain⟨a,b,rfl,na⟩:=ha t (NX jh);have tx:i<A.length:=(NV.mp jh).1;have hA:A.drop i=vc a b::A.drop (i+1):=by
   rw[QM tx];rw[NW tx]at jh;rw[Option.some.inj jh]
  rw[hA]at hm;refine⟨x,y,a,b,e,f,rfl,h,na,he,λsz1 n1 z1 w1=>?_⟩;have ku:kf x y (vc a b)<=kf x y o:=by
   obtain c|c:=OY (i+1) A.length
   ·exact Rat.le_of_lt (mg.k1 i _ jh c)
   ·rw[mg.k2 i _ jh ⋯];exact Rat.le_refl
  refine⟨λm E=>∃(acc:List L2.T)(n:Nat),E=[⇑(.lst A),⇑(.lst B),⇑(vc x y),↥acc,↑(n:Int),⇑(vc a b),⇑(fr sz1)]/\m=B.length-n/\n<B.length/\acc.length<=i+n/\acc++mU (kf x y) (vc a b) (tF (kf x y) (A.drop (i+1))) (B.drop n)=tF (kf x y) A B,⟨_,acc,n,rfl,rfl,lq tx,ni,hm⟩,?_⟩;clear hm ni hn lq;rintro m E ⟨acc,n,rfl,rfl,hn,ni,hm⟩;obtain⟨r,R,hd,hr,hR⟩:=D0 hn;obtain⟨c,d,rfl,nc⟩:=hb r (NX hr);have tw:eZ B (n:Int)=oZ (vc c d):=iO hr;rw[hd]at hm;show o1 (eZ B (n:Int)) _;rw[tw];refine⟨x,y,c,d,e,f,rfl,h,nc,he,λs2 n2 z2 w2=>?_⟩;refine⟨s2,sz1,rfl,n2,n1,⋯,⋯,λr yo=>?_⟩;show if decide (r<0)=true then _ else _
  by_cases lt:r<0
  ·rw[oY lt,oV rfl];have kl:kf x y (vc c d)<kf x y (vc a b):=by rw[<-w2,<-w1];exact yo.1 lt
   show o1 (eZ B (n:Int)) _;rw[tw];refine⟨?_,B.length-(n+1),⋯,acc++[vc c d],n+1,rfl,rfl,?_,?_,?_⟩
   ·show(acc++[vc c d]).length<=9000;rw[OB,OS];lia
   ·obtain c1|c1:=OY (n+1) B.length
    ·exact c1
    ·have:=mg.k3 n _ hr ⋯;rw[this]at kl;grind
   ·rw[OB,OS];lia
   ·rw[<-hm];show _=acc++(if kf x y (vc c d)<kf x y (vc a b)then _ else _);rw[oV kl,hR];simp
  ·rw[oX lt,oW ∅];have kl:¬kf x y (vc c d)<kf x y (vc a b):=by rw[<-w2,<-w1];exactλh=>lt (yo.2 h)
   have hm':acc++(if kf x y (vc c d)<kf x y (vc a b)then(vc c d)::mU (kf x y) (vc a b) (tF (kf x y) (A.drop (i+1))) R else(vc a b)::tF (kf x y) (A.drop (i+1)) (if L2.dX (vc c d) (vc a b)=true then R else vc c d::R))=tF (kf x y) A B:=hm;rw[oW kl]at hm';show o1 (eZ B (n:Int)) _;rw[tw];refine⟨d7 rfl,?_⟩;show if L2.dX (vc c d) (vc a b)=true then _ else _
   by_cases eq:L2.dX (vc c d) (vc a b)=true
   ·rw[oV eq]at hm'⊢;refine⟨?_,KK _ ⟨acc++[vc a b],n+1,_,_,rfl,?_,?_,?_,?_⟩⟩
    ·show(acc++[vc a b]).length<=9000;rw[OB,OS];lia
    ·rw[<-hm',hR];simp
    ·rw[OB,OS];lia
    ·lia
    ·intro hi2;obtain c1|c1:=OY (n+1) B.length
     ·exact c1
     ·have t1:=mg.k3 n _ hr ⋯;have t2:=mg.k1 i _ jh hi2;rw[Gd]at eq;have:=of_decide_eq_true eq;rw[this.1,this.2]at t1;rw[t1]at t2;grind
   ·rw[oW eq]at hm'⊢;refine⟨?_,KK _ ⟨acc++[vc a b],n,_,_,rfl,?_,?_,?_,?_⟩⟩
    ·show(acc++[vc a b]).length<=9000;rw[OB,OS];lia
    ·rw[<-hm',hd];simp
    ·rw[OB,OS];lia
    ·lia
    ·intro _;exact hn
 ·rintro E ⟨acc,n,v5,v6,rfl,hm,ni,hn,lq⟩;have e1:acc=tF (kf x y) A B:=by
   rw[RY]at hm;rw[<-hm];simp[tF]
  subst e1;exact⟨nl,z⟩
def Nf(t:L2.T):L2.T:=vc (aN (cx t).1) (cx t).2
theorem nO(a b:Fr):Nf (vc a b)=vc (aN a) b:=rfl
theorem zY(a:Fr):aN (aN a)=a:=by unfold aN;simp
theorem bV.flip(h:bV x y e):bV (aN x) y e:=⟨⟨eQ h.nv.x,h.nv.y,by rw[pJ];exact h.nv.sx,h.nv.sy⟩,by rw[bC h.nv.x,<-h.one];grind⟩
theorem Nv.flip{x y:Fr}{e:Nat}(h:Nv x y e):Nv (aN x) y e:=⟨eQ h.x,h.y,by rw[pJ];exact h.sx,h.sy⟩
theorem Jl:∀{a:L2.T}{l:List L2.T}{t:L2.T},chn a l->t∈l->Ut 2500 t
 |_,[],_,_,h=>by cases h
 |a,b::l,t,h,m=>by
  obtain rfl|m:=NZ.mp m
  ·obtain⟨_,_,c,d,_,e,_,n,_⟩:=h.1;exact⟨c,d,e,n⟩
  ·exact Jl h.2 m
theorem Vq{k:L2.T->Rat}:∀{B:List L2.T},(∀B',(∀z∈B',z∈B)->t∈M B'->t∈M B' )->t∈mU k u M B->t∈B\/t=u\/∃B',(∀z∈B',z∈B)/\t∈M B'
 |[],_,h=>by
  obtain h|h:=NZ.mp h
  ·exact .inr (.inl h)
  ·exact .inr (.inr ⟨[],λ_ h=>h,h⟩)
 |r::R,hh,h=>by
  unfold mU at h;split at h
  ·obtain h|h:=NZ.mp h
   ·exact .inl (by rw[h];exact OK ..)
   ·rcases Vq (B:=R) (λB' z w=>w) h with h|h|⟨B',h1,h2⟩
    ·exact .inl (OC _ h)
    ·exact .inr (.inl h)
    ·exact .inr (.inr ⟨B',λz hz=>OC _ (h1 z hz),h2⟩)
  ·obtain h|h:=NZ.mp h
   ·exact .inr (.inl h)
   ·refine .inr (.inr ⟨_,λz hz=>?_,h⟩);split at hz
    ·exact OC _ hz
    ·exact hz
theorem vL{k:L2.T->Rat}:∀{A B:List L2.T},t∈tF k A B->t∈A\/t∈B
 |[],B,h=>by cases h
 |u::A,B,h=>by
  rcases Vq (M:=tF k A) (λB' _ w=>w) h with h|h|⟨B',h1,h2⟩
  ·exact .inr h
  ·exact .inl (by rw[h];exact OK ..)
  ·obtain h|h:=vL h2
   ·exact .inl (OC _ h)
   ·exact .inr (h1 t h)
theorem Co:∀{l:List L2.T},Jd l->bL l=true
 |[],_=>rfl
 |t::l,h=>by
  obtain⟨a,b,rfl⟩:=h t (OK ..);have:=Co (l:=l) λt ht=>h t (OC _ ht);show(noL (vc a b)&&bL l)=true;rw[this];rfl
theorem Qf(h:Jd l):Jd (vc a b::l):=λt ht=>by
 obtain rfl|h':=NZ.mp ht
 ·exact⟨_,_,rfl⟩
 ·exact h t h'
def Ey(x y p q:Fr)(s:Int)(m:Nat):List L2.T:=((vc (aN p) q::qb (aN x) y s m (aN p) q).reverse).map Nf
def sU(x y p q:Fr)(s:Int)(m m':Nat):List L2.T:=tF (kf x y) (vc x y::qb p q s m x y) (Ey x y p q s m')
theorem ED{s:Int}(h:bV x y e)(k:bV p q f)(he:e+f<=140)(xi:e<=100)(hf:f<=100)(hs:s=1\/s=2\/s=3)(r:uU (aN x) y m (aN p) q):∀t∈Ey x y p q s m,Ut 2500 t:=by
 intro t ht;obtain⟨z,hz,rfl⟩:=QK.mp ht;have hz:=TM.mp hz;have ch:=(wN (s:=s) h.flip hf (show f+e<=140 by lia) hs m (aN p) q k.flip r).1;have uz:Ut 2500 z:=by
  obtain rfl|hz:=NZ.mp hz
  ·exact⟨_,_,rfl,k.flip.nv.up ⋯⟩
  ·exact Jl ch hz
 obtain⟨a,b,rfl,n⟩:=uz;exact⟨aN a,b,rfl,n.flip⟩
theorem Bi(h:∀t∈l,Ut e t):Jd l:=λt ht=>by obtain⟨a,b,e,_⟩:=h t ht;exact⟨a,b,e⟩
theorem FR{s:Int}(h:bV x y e)(k:bV p q f)(he:e+f<=140)(xi:e<=100)(hs:s=1\/s=2\/s=3)(hm:m<=3)(r:uU p q m x y):Mg x y (vc x y::qb p q s m x y) (Ey x y p q s m') (vc p q):=by
 have at0:At 0 (val x*val x+val y*val y) (val x*val y-val y*val x):=.inl ⟨rfl,h.one,by grind⟩;have st:=Lw (s:=s) h k xi he hs m 0 x y h ⋯ at0 r;have ls:=(wN k xi he hs m x y h r).2;refine⟨λi u hi hl=>?_,λi u hi hl=>?_,λi u hi hl=>?_,?_⟩
 ·rw[<-ls];exact sP st hi (by simpa using hl)
 ·obtain⟨L,hL⟩:=Ck (vc x y) (qb p q s m x y);rw[hL]at hi hl;rw[OB,OS]at hl;have:i=L.length:=⋯
  subst this;simp at hi;rw[<-hi,ls]
 ·unfold Ey at hi hl;rw[RU,OR]at hi hl;rw[OB]at hl;simp at hl;have:i=((qb (aN x) y s m' (aN p) q).reverse.map Nf).length:=by simp;lia
  subst this;rw[OX (OF _)]at hi;simp at hi;rw[<-hi,nO,zY]
 ·simp[Ey]
theorem Vn{s:Int}(x y p q:Fr)(hs:s=1\/s=2\/s=3)(m:Nat):(Ey x y p q s m).length<=3*m+4:=by
 have:=Cj (aN x) y hs m (aN p) q;simp[Ey]
 lia
def MZ:dG:=λas Q=>∃(x y p q:Fr)(s:Int)(e f:Nat),as=[.v (vc x y),.v (vc p q),.v (.int s)]/\bV x y e/\bV p q f/\e+f<=140/\e<=100/\f<=100/\(s=1\/s=2\/s=3)/\∀m m',m<=3->m'<=3->uU p q m x y->uU (aN x) y m' (aN p) q->Q (.l (sU x y p q s m m')) []
abbrev cR(P w K mg base):=(~~~Fn) 7 "units_between" ["one","other","steps"] (aJ K MZ)
abbrev jD:VS:=top 42
theorem iN:aF ["one","other","steps","ahead","back"] ["one","other","steps"] (aC jD):=dH
theorem tH(F:cL K "units_between" "units_between" jD f fd)(TX:Txt mg)(YV: ~~~jG)(ah: ~~~vY)(fk: ~~~zL):(~~~aT) cO 7 f fd ["one","other","steps"] (aJ K MZ):=by
 refine F.okU iN (λhr=>(aB (fS 3 iN.nd (fK YV (f3 (fv 0) (fv 1) (fv 2)))) (aB (fS 4 iN.nd (fK YV (f3 (fK ah (f1 (fv 1))) (fK ah (f1 (fv 0))) (fv 2)))) (aE (aG (fK fk (f3 (fv 3) (iP (N':=["unit"]) (t:=1) (cap:=[]) rfl (bM.of rfl) rfl ∅ (kM rfl (E8 rfl (fv 4) (gG (eV aA)))) (λ_ _ _ _=>(fH 0)) (λ_ _ _ _=>(fK ah (f1 (fv 0))))) (fv 0)))))))) ?_;rintro as Q ⟨x,y,p,q,s,e,f,rfl,hu,hv,he,xi,hf1,hs,z⟩;obtain⟨m,hm,hr⟩:=Dj hu hv;obtain⟨m',hm',yo⟩:=Dj hv.flip hu.flip;have z:=z m m' hm hm' hr yo;refine⟨x,y,p,q,s,e,f,m,rfl,hu,hv,he,hs,hm,hr,?_⟩;refine⟨p,q,rfl,x,y,rfl,?_⟩;refine⟨aN p,q,aN x,y,s,f,e,m',rfl,hv.flip,hu.flip,⋯,hs,hm',yo,?_⟩;have au:∀t∈(vc (aN p) q::qb (aN x) y s m' (aN p) q).reverse,∃a b,t=vc a b:=λt ht=>Qf (Ml _ _ _ _ _ _) t (TM.mp ht);have bl:Ey x y p q s m'=((vc (aN p) q::qb (aN x) y s m' (aN p) q).reverse).map Nf:=rfl;have lb:=Vn x y p q hs m';have la:=Cj p q hs m x y;have ub:=ED (s:=s) hu hv he xi hf1 hs yo;have ua:∀t∈vc x y::qb p q s m x y,Ut 2500 t:=λt ht=>by
  obtain rfl|ht:=NZ.mp ht
  ·exact⟨_,_,rfl,hu.nv.up ⋯⟩
  ·exact Jl (wN hv xi he hs m x y hu hr).1 ht
 have av:Jd (sU x y p q s m m'):=λt ht=>by
  obtain h|h:=vL ht
  ·exact Bi ua t h
  ·exact Bi ub t h
 refine⟨rfl,rfl,?_⟩;show lD _ _ ((vc (aN p) q::qb (aN x) y s m' (aN p) q).reverse) _ _;generalize hR:(vc (aN p) q::qb (aN x) y s m' (aN p) q).reverse=RL at au bl⊢;have ll:RL.length<=13:=by rw[bl,OD]at lb;lia
 refine cY (λi E=>∃v0,E=[v0,↥((RL.take i).map Nf)]) ⟨none,rfl⟩ ?_ ?_
 ·rintro i t rest E hi ⟨v0,rfl⟩ KK;obtain⟨a,b,rfl⟩:=au t (NX hi);have il:=(NV.mp hi).1;refine⟨a,b,rfl,?_,KK _ ⟨⇑(vc a b),?_⟩⟩
  ·show((RL.take i).map Nf).length<9000;rw[OD,PM];lia
  ·have e1:RL.take (i+1)=RL.take i++[vc a b]:=by rw[RW,hi];rfl
   rw[e1,OR];rfl
 ·rintro E ⟨v0,rfl⟩;rw[SA,<-bl];refine⟨Co (Bi ub),?_⟩;refine⟨x,y,_,_,vc p q,e,2500,rfl,hu.nv,ua,ub,⋯,?_,FR hu hv he xi hs hm hr,Co av,?_⟩
  ·rw[OT];lia
  ·exact⟨Co av,z⟩
theorem bJ{d c:Rat}(o:d*d+c*c=1):-1<=d/\d<=1:=by
 have hc:0<=c*c:=by
  rcases Rat.le_total (a:=0) (b:=c)with h|h
  ·exact Rat.mul_nonneg h h
  ·have:=Rat.mul_nonneg (a:=-c) (b:=-c) (by grind) (by grind);grind
 constructor
 ·rcases Rat.le_total (a:=-1) (b:=d)with h|h
  ·exact h
  ·by_cases e:d = -1
   ·grind
   ·have:=Rat.mul_pos (a:=-1-d) (b:=1-d) (by grind) (by grind);grind
 ·rcases Rat.le_total (a:=d) (b:=1)with h|h
  ·exact h
  ·by_cases e:d=1
   ·grind
   ·have:=Rat.mul_pos (a:=d-1) (b:=1+d) (by grind) (by grind);grind
theorem kP{d c:Rat}(o:d*d+c*c=1)(hc:c≠0):-1<d/\d<1:=by
 obtain⟨h1,h2⟩:=bJ o;have n1:d≠1:=λe=>by
  rw[e]at o;have:c*c=0:=by grind
  rcases Rat.mul_eq_zero.mp this with a|a<;>exact hc a
 have n2:d≠-1:=λe=>by
  rw[e]at o;have:c*c=0:=by grind
  rcases Rat.mul_eq_zero.mp this with a|a<;>exact hc a
 constructor<;>grind
theorem Bb{d:Rat}(o:d*d+0*0=1):d=1\/d = -1:=by
 have:(d-1)*(d+1)=0:=by grind
 obtain a|a:=Rat.mul_eq_zero.mp this
 ·left;grind
 ·right;grind
theorem O6{d1 c1 d2 c2:Rat}(o1:d1*d1+c1*c1=1)(o2:d2*d2+c2*c2=1):(d1*c2-c1*d2)*(c1+c2)=(d1-d2)*(1+d1*d2+c1*c2):=by grind
theorem Uy{d1 c1 d2 c2:Rat}(o1:d1*d1+c1*c1=1)(o2:d2*d2+c2*c2=1)(h:0<c1*c2):0<1+d1*d2+c1*c2:=by
 obtain⟨a1,a2⟩:=bJ o1;obtain⟨b1,b2⟩:=bJ o2;have p1:=Rat.mul_nonneg (a:=1-d1) (b:=1-d2) (by grind) (by grind);have p2:=Rat.mul_nonneg (a:=1+d1) (b:=1+d2) (by grind) (by grind);grind
theorem DA{d1 c1 d2 c2:Rat}(o1:d1*d1+c1*c1=1)(o2:d2*d2+c2*c2=1)(h1:0<c1)(h2:0<c2):0<d1*c2-c1*d2↔d2<d1:=by
 have hp:=Uy o1 o2 (Rat.mul_pos h1 h2);have id:=O6 o1 o2;have hs:0<c1+c2:=by grind
 constructor
 ·intro h;have:0<(d1-d2)*(1+d1*d2+c1*c2):=by rw[<-id];exact Rat.mul_pos h hs
  have:=bS hp this;grind
 ·intro h;exact bS hs (by rw[id];exact Rat.mul_pos (by grind) hp)
theorem X0{ca wa cv wv cu wu:Rat}(ha:ca*ca=wa*(2-wa))(hv:cv*cv=wv*(2-wv))(hu:cu*cu=wu*(2-wu)):
  ((ca*wv-cv*wa)+(cv*wu-cu*wv)-(ca*wu-cu*wa))*(2*(wa*wv*wu))=(ca*wv-cv*wa)*(cv*wu-cu*wv)*(ca*wu-cu*wa):=by grind
theorem zW{ca wa cv wv cu wu:Rat}(ha:ca*ca=wa*(2-wa))(hv:cv*cv=wv*(2-wv))(hu:cu*cu=wu*(2-wu))(pa:0<wa)(pv:0<wv)(pu:0<wu)(h1:0<ca*wv-cv*wa)(h2:0<cv*wu-cu*wv):0<ca*wu-cu*wa/\0<(ca*wv-cv*wa)+(cv*wu-cu*wv)-(ca*wu-cu*wa):=by
 have h3:0<ca*wu-cu*wa:=bS pv (by
  have:(ca*wu-cu*wa)*wv=wu*(ca*wv-cv*wa)+wa*(cv*wu-cu*wv):=by grind
  rw[this];have:=Rat.mul_pos pu h1;have:=Rat.mul_pos pa h2;grind)
 refine⟨h3,?_⟩;have pw:0<2*(wa*wv*wu):=Rat.mul_pos (by grind) (Rat.mul_pos (Rat.mul_pos pa pv) pu);exact bS pw (by rw[X0 ha hv hu];exact Rat.mul_pos (Rat.mul_pos h1 h2) h3)
theorem C0{d1 c1 d2 c2:Rat}(o1:d1*d1+c1*c1=1)(o2:d2*d2+c2*c2=1):(c1*(1-d2)-c2*(1-d1))*(c1*(1-d2)+c2*(1-d1))=2*((1-d1)*(1-d2))*(d1-d2):=by grind
theorem lG{d1 c1 d2 c2:Rat}(o1:d1*d1+c1*c1=1)(o2:d2*d2+c2*c2=1)(n1:d1≠1)(n2:d2≠1):eN d1 c1<eN d2 c2↔0<c1*(1-d2)-c2*(1-d1):=by
 obtain⟨a1,a2⟩:=bJ o1;obtain⟨b1,b2⟩:=bJ o2;have w1:0<1-d1:=by grind
 have w2:0<1-d2:=by grind
 have ww:=Rat.mul_pos w1 w2;have id:=C0 o1 o2;unfold eN
 by_cases h1:0<=c1
 ·rw[oV h1];have p1:=Rat.mul_nonneg h1 (Rat.le_of_lt w2)
  by_cases h2:0<=c2
  ·rw[oV h2];have p2:=Rat.mul_nonneg h2 (Rat.le_of_lt w1)
   by_cases s0:0<c1*(1-d2)+c2*(1-d1)
   ·constructor
    ·intro h;exact bS s0 (by rw[id];exact Rat.mul_pos (Rat.mul_pos (by grind) ww) (by grind))
    ·intro h;have q:0<(d1-d2)*(2*((1-d1)*(1-d2))):=by
      have:(d1-d2)*(2*((1-d1)*(1-d2)))=2*((1-d1)*(1-d2))*(d1-d2):=by grind
      rw[this,<-id];exact Rat.mul_pos h s0
     have:=bS (Rat.mul_pos (show(0:Rat)<2 by grind) ww) q;grind
   ·have z:c1*(1-d2)+c2*(1-d1)=0:=by grind
    rw[z]at id;have:(2*((1-d1)*(1-d2)))*(d1-d2)=0:=by grind
    have e:d1-d2=0:=by
     obtain a|a:=Rat.mul_eq_zero.mp this
     ·grind
     ·exact a
    constructor<;>intro h<;>grind
  ·rw[oW h2];have p2:=Rat.mul_pos (a:=-c2) (b:=1-d1) (by grind) w1;obtain⟨e1,e2⟩:=kP o2 (by grind);constructor<;>intro h<;>grind
 ·rw[oW h1];have p1:=Rat.mul_pos (a:=-c1) (b:=1-d2) (by grind) w2;obtain⟨f1,f2⟩:=kP o1 (by grind)
  by_cases h2:0<=c2
  ·rw[oV h2];have p2:=Rat.mul_nonneg h2 (Rat.le_of_lt w1);constructor<;>intro h<;>grind
  ·rw[oW h2];have p2:=Rat.mul_pos (a:=-c2) (b:=1-d1) (by grind) w1;have s0:0 < -(c1*(1-d2)+c2*(1-d1)):=by grind
   constructor
   ·intro h;refine bS s0 ?_;have:(c1*(1-d2)-c2*(1-d1)) * -(c1*(1-d2)+c2*(1-d1))=(2*((1-d1)*(1-d2)))*(d2-d1):=by grind
    rw[this];exact Rat.mul_pos (Rat.mul_pos (by grind) ww) (by grind)
   ·intro h;have q:0<(d2-d1)*(2*((1-d1)*(1-d2))):=by
     have:(d2-d1)*(2*((1-d1)*(1-d2)))=(c1*(1-d2)-c2*(1-d1)) * -(c1*(1-d2)+c2*(1-d1)):=by grind
     rw[this];exact Rat.mul_pos h s0
    have:=bS (Rat.mul_pos (show(0:Rat)<2 by grind) ww) q;grind
def SS(k:L2.T->Rat)(l:List L2.T):Prop:=l.Pairwise λa b=>k a<k b
theorem Yi{k:L2.T->Rat}:∀{a:L2.T}{l:List L2.T},srt k a l->SS k (a::l)
 |a,[],_=>List.pairwise_singleton _ _
 |a,b::l,h=>by
  have ih:=Yi h.2;have q:=QL.mp ih;refine QL.mpr ⟨λt ht=>?_,ih⟩;have h1:=h.1;obtain rfl|ht:=NZ.mp ht
  ·exact h1
  ·have:=q.1 t ht;grind
theorem Nw{k:L2.T->Rat}:∀{B:List L2.T},SS k B->(∀r∈B,k r=k u->L2.dX r u=true)->(∀r∈B,L2.dX r u=true->r=u)->
  (∀R,SS k R->(∀r∈R,r∈B/\k u<k r)->SS k (M R)/\∀t∈M R,k u<k t)->
  SS k (mU k u M B)/\(∀t∈mU k u M B,k t<k u->t∈B)/\(∀c,k c<k u->(∀r∈B,k c<k r)->∀t∈mU k u M B,k c<k t)
 |[],_,_,_,hM=>by
  obtain⟨h1,h2⟩:=hM [] List.Pairwise.nil (λr h=>by cases h);refine⟨QL.mpr ⟨h2,h1⟩,λt ht hk=>?_,λc hc _ t ht=>?_⟩
  ·obtain rfl|ht:=NZ.mp ht
   ·grind
   ·have:=h2 t ht;grind
  ·obtain rfl|ht:=NZ.mp ht
   ·exact hc
   ·have:=h2 t ht;grind
 |r::R,hB,inj,nj,hM=>by
  have q:=QL.mp hB;unfold mU
  by_cases lt:k r<k u
  ·rw[oV lt];obtain⟨i1,i2,i3⟩:=Nw (B:=R) (M:=M) q.2 (λs hs=>inj s (OC _ hs)) (λs hs=>nj s (OC _ hs)) (λR' h h'=>hM R' h λs hs=>⟨OC _ (h' s hs).1,(h' s hs).2⟩);refine⟨QL.mpr ⟨λt ht=>i3 r lt q.1 t ht,i1⟩,λt ht hk=>?_,λc hc hr t ht=>?_⟩
   ·obtain rfl|ht:=NZ.mp ht
    ·exact OK ..
    ·exact OC _ (i2 t ht hk)
   ·obtain rfl|ht:=NZ.mp ht
    ·exact hr _ (OK ..)
    ·exact i3 c hc (λs hs=>hr s (OC _ hs)) t ht
  ·rw[oW lt];have hR:∀s∈(if L2.dX r u=true then R else r::R),s∈r::R/\k u<k s:=λs hs=>by
    split at hs
    ·rename_i e;have:=q.1 s hs;have e':=nj r (OK ..) e;exact⟨OC _ hs,by rw[<-e'];exact this⟩
    ·rename_i e;refine⟨hs,?_⟩;have ne:k r≠k u:=λz=>e (inj r (OK ..) z);obtain rfl|hs:=NZ.mp hs
     ·grind
     ·have:=q.1 s hs;grind
   have sR:SS k (if L2.dX r u=true then R else r::R):=by
    split
    ·exact q.2
    ·exact hB
   obtain⟨h1,h2⟩:=hM _ sR hR;refine⟨QL.mpr ⟨h2,h1⟩,λt ht hk=>?_,λc hc _ t ht=>?_⟩
   ·obtain rfl|ht:=NZ.mp ht
    ·grind
    ·have:=h2 t ht;grind
   ·obtain rfl|ht:=NZ.mp ht
    ·exact hc
    ·have:=h2 t ht;grind
theorem Vs{k:L2.T->Rat}:∀{A B:List L2.T},SS k A->SS k B->(∀u∈A,∀r∈B,k r=k u->L2.dX r u=true)->(∀u∈A,∀r∈B,L2.dX r u=true->r=u)->
  SS k (tF k A B)/\(∀c,(∀u∈A,k c<k u)->(∀r∈B,k c<k r)->∀t∈tF k A B,k c<k t)
 |[],B,_,_,_,_=>⟨List.Pairwise.nil,λc _ _ t ht=>by cases ht⟩
 |u::A,B,hA,hB,inj,nj=>by
  have q:=QL.mp hA;have ih:∀R,SS k R->(∀r∈R,r∈B/\k u<k r)->SS k (tF k A R)/\∀t∈tF k A R,k u<k t:=λR hR h'=>by
   obtain⟨h1,h2⟩:=Vs (A:=A) (B:=R) q.2 hR (λv hv r hr=>inj v (OC _ hv) r (h' r hr).1) (λv hv r hr=>nj v (OC _ hv) r (h' r hr).1);exact⟨h1,h2 u q.1 λr hr=>(h' r hr).2⟩
  obtain⟨i1,i2,i3⟩:=Nw (u:=u) (M:=tF k A) hB (inj u (OK ..)) (nj u (OK ..)) ih;exact⟨i1,λc hc hr=>i3 c (hc u (OK ..)) hr⟩
def Zz(k:L2.T->Rat)(u:L2.T):List L2.T->List L2.T
 |[]=>[]
 |r::R=>if k r<k u then Zz k u R else(if L2.dX r u=true then R else r::R)
def DO(k:L2.T->Rat)(u:L2.T):List L2.T->List L2.T
 |[]=>[]
 |r::R=>if k r<k u then r::DO k u R else[]
theorem R1{k:L2.T->Rat}:∀B:List L2.T,mU k u M B=DO k u B++u::M (Zz k u B)
 |[]=>rfl
 |r::R=>by
  unfold mU DO Zz
  split
  ·rw[R1 R];rfl
  ·rfl
theorem Xp{k:L2.T->Rat}:∀{B:List L2.T}{r:L2.T},r∈B->r∈DO k u B\/L2.dX r u=true\/r∈Zz k u B
 |s::R,r,h=>by
  unfold DO Zz
  by_cases lt:k s<k u
  ·rw[oV lt,oV lt];obtain rfl|h:=NZ.mp h
   ·exact .inl (OK ..)
   ·obtain h|h|h:=Xp h
    ·exact .inl (OC _ h)
    ·exact .inr (.inl h)
    ·exact .inr (.inr h)
  ·rw[oW lt,oW lt]
   by_cases e:L2.dX s u=true
   ·rw[oV e];obtain rfl|h:=NZ.mp h
    ·exact .inr (.inl e)
    ·exact .inr (.inr h)
   ·rw[oW e];exact .inr (.inr h)
theorem Xo{k:L2.T->Rat}:∀{B:List L2.T},SS k B->(∀r∈B,k r=k u->L2.dX r u=true)->(∀r∈B,L2.dX r u=true->r=u)->SS k (Zz k u B)/\∀r∈Zz k u B,r∈B/\k u<k r
 |[],_,_,_=>⟨List.Pairwise.nil,λr h=>by cases h⟩
 |s::R,hB,inj,nj=>by
  have q:=QL.mp hB;unfold Zz
  by_cases lt:k s<k u
  ·rw[oV lt];obtain⟨h1,h2⟩:=Xo (B:=R) q.2 (λr hr=>inj r (OC _ hr)) (λr hr=>nj r (OC _ hr));exact⟨h1,λr hr=>⟨OC _ (h2 r hr).1,(h2 r hr).2⟩⟩
  ·rw[oW lt]
   by_cases e:L2.dX s u=true
   ·rw[oV e];have e':=nj s (OK ..) e;exact⟨q.2,λr hr=>⟨OC _ hr,by rw[<-e'];exact q.1 r hr⟩⟩
   ·rw[oW e];have ne:k s≠k u:=λz=>e (inj s (OK ..) z);refine⟨hB,λr hr=>⟨hr,?_⟩⟩;obtain rfl|hr:=NZ.mp hr
    ·grind
    ·have:=q.1 r hr;grind
theorem Nx{k:L2.T->Rat}:∀{A B:List L2.T},SS k B->(∀u∈A,∀r∈B,k r=k u->L2.dX r u=true)->(∀u∈A,∀r∈B,L2.dX r u=true->r=u)->(∀r∈B,∃u∈A,k r<=k u)->
  (∀u∈A,u∈tF k A B)/\∀r∈B,r∈tF k A B
 |[],B,_,_,_,h=>⟨λu hu=>(by cases hu),λr hr=>(by obtain⟨u,hu,_⟩:=h r hr;cases hu)⟩
 |u::A,B,hB,inj,nj,h=>by
  have e:tF k (u::A) B=DO k u B++u::tF k A (Zz k u B):=R1 B;obtain⟨g1,g2⟩:=Xo hB (inj u (OK ..)) (nj u (OK ..));obtain⟨i1,i2⟩:=Nx (A:=A) (B:=Zz k u B) g1 (λv hv r hr=>inj v (OC _ hv) r (g2 r hr).1) (λv hv r hr=>nj v (OC _ hv) r (g2 r hr).1) (λr hr=>by
   obtain⟨v,hv,le⟩:=h r (g2 r hr).1;obtain rfl|hv:=NZ.mp hv
   ·have:=(g2 r hr).2;grind
   ·exact⟨v,hv,le⟩)
  rw[e];refine⟨λv hv=>?_,λr hr=>?_⟩
  ·obtain rfl|hv:=NZ.mp hv
   ·simp
   ·exact ON _ (OC _ (i1 v hv))
  ·rcases Xp (k:=k) (u:=u) hr with h1|h1|h1
   ·exact QD _ h1
   ·have:=nj u (OK ..) r hr h1;rw[this];simp
   ·exact ON _ (OC _ (i2 r h1))
theorem Mt(hx:bF x)(hy:bF y)(h:val x*val x+val y*val y=1):y.2.natAbs∣x.2.natAbs:=by
 have h1:=hx.neR;have h2:=hy.neR;have e:(y.1*y.1)*(x.2*x.2)=(y.2*y.2)*(x.2*x.2-x.1*x.1):=by
  unfold val at h;have h':(y.1:Rat)*y.1*(x.2*x.2)=y.2*y.2*(x.2*x.2-x.1*x.1):=by grind
  exact_mod_cast h'
 have d1:y.2.natAbs^2∣y.1.natAbs^2*x.2.natAbs^2:=by
  have:(y.1*y.1*(x.2*x.2)).natAbs=y.1.natAbs^2*x.2.natAbs^2:=by rw[PN,PN,PN,UC,UC]
  rw[<-this,e,PN,PN,<-UC];exact Nat.dvd_mul_right _ _
 have cp:SN (y.2.natAbs^2) (y.1.natAbs^2):=Nat.Coprime.pow 2 2 (by unfold SN;rw[TY];exact hy.g);exact(Nat.pow_dvd_pow_iff ∅).mp (cp.dvd_of_dvd_mul_left d1)
theorem X1(hx:bF x)(hy:bF y)(h:val x*val x+val y*val y=1):x.2=y.2:=by
 have a:=Mt hx hy h;have b:=Mt hy hx (by rw[<-h];grind);have c:=Nat.dvd_antisymm a b;have:=hx.d;have:=hy.d
 lia
theorem Yl{n d:Int}(hp:bF p)(hd:d≠0)(h:val p=(n:Rat)/(d:Rat))(h1:n.natAbs<2^e)(h2:d.natAbs<2^e)(he:1<=e):sz p<=e:=by
 have:p=fY n d:=b8 hp (gK hd) (by rw[eT hd];exact h);rw[this];exact mS hd h1 h2 he
theorem LY(h:bV x y e)(k:bV p q f)(hr:bF r)(n:Int)(hn:n.natAbs<2^(e+f+1))(hv:val r=(n:Rat)/((x.2*p.2:Int):Rat)):sz r<=e+f+1:=
 Yl hr (d9 h.nv.x k.nv.x) hv hn (pl (bI (pl (bW x) h.nv.sx) (pl (bW p) k.nv.sx)) ⋯) ⋯
theorem EB{a b c d:Int}(h1:a.natAbs<2^e)(h2:b.natAbs<2^f)(h3:c.natAbs<2^e)(h4:d.natAbs<2^f):(a*b+c*d).natAbs<2^(e+f+1)/\(a*b-c*d).natAbs<2^(e+f+1):=⟨pM (bI h1 h2) (bI h3 h4),Ef (bI h1 h2) (bI h3 h4)⟩
theorem bV.n1(h:bV x y e):x.1.natAbs<2^e:=pl (dN x) h.nv.sx
theorem bV.n2(h:bV x y e):y.1.natAbs<2^e:=pl (dN y) h.nv.sy
theorem bV.eqd(h:bV x y e):x.2=y.2:=X1 h.nv.x h.nv.y h.one
theorem vS(h:bV x y e)(k:bV p q f):sz (cS x y p q)<=e+f+1:=by
 refine LY h k (bD h.nv k.nv) (x.1*p.1+y.1*q.1) (EB h.n1 k.n1 h.n2 k.n2).1 ?_;rw[dW h.nv k.nv];have d1:=h.eqd;have d2:=k.eqd;have z1:=h.nv.x.neR;have z2:=k.nv.x.neR;unfold val;rw[<-d1,<-d2]
 push_cast
 grind
theorem bV.trU(h:bV x y e)(k:bV p q f):bV (Zg x y p q) (Zf x y p q) (e+f+1):=by
 have t:=h.tr k;have d1:=h.eqd;have d2:=k.eqd;have z1:=h.nv.x.neR;have z2:=k.nv.x.neR;refine⟨⟨t.nv.x,t.nv.y,LY h k t.nv.x (x.1*p.1-y.1*q.1) (EB h.n1 k.n1 h.n2 k.n2).2 ?_,LY h k t.nv.y (x.1*q.1+y.1*p.1) (EB h.n1 k.n2 h.n2 k.n1).1 ?_⟩,t.one⟩
 ·rw[gY h.nv k.nv];unfold val;rw[<-d1,<-d2]
  push_cast
  grind
 ·rw[gX h.nv k.nv];unfold val;rw[<-d1,<-d2]
  push_cast
  grind
theorem O0(h:bV x y e)(k:bV p q f)(n:(aV (1,1) (cS x y p q)).1≠0):bF (m6 x y p q)/\sz (m6 x y p q)<=e+f+2:=by
 have nn:=(yJ h.nv k.nv n).1;refine⟨nn,?_⟩;have d1:=h.eqd;have d2:=k.eqd;have z1:=h.nv.x.neR;have z2:=k.nv.x.neR;have na:=cI (aO 1) (bD h.nv k.nv);have va:=a7 (aO 1) (bD h.nv k.nv);rw[gW,dW h.nv k.nv]at va;have nz:val (aV (1,1) (cS x y p q))≠0:=λz=>by
  have:=(yO na).1 (by grind);have:=(eI na).1 (by grind)
  lia
 have vt:val (m6 x y p q)=(val x*val q-val y*val p)/(1+(val x*val p+val y*val q)):=by
  unfold m6;rw[lL (cJ h.nv k.nv) na n,dR h.nv k.nv,va]
 rw[va]at nz;have b1:=(EB h.n1 k.n2 h.n2 k.n1).2;have b2:=(EB h.n1 k.n1 h.n2 k.n2).1;have b3:(x.2*p.2).natAbs<2^(e+f):=bI (pl (bW x) h.nv.sx) (pl (bW p) k.nv.sx);have hd:x.2*p.2+(x.1*p.1+y.1*q.1)≠0:=λz=>by
  apply nz;have z':(x.2:Rat)*p.2+(x.1*p.1+y.1*q.1)=0:=by exact_mod_cast z
  unfold val;rw[<-d1,<-d2];grind
 refine Yl nn hd ?_ (pl b1 ⋯) (pM (pl b3 ⋯) b2) ⋯;rw[vt];have yq:((x.2*p.2+(x.1*p.1+y.1*q.1):Int):Rat)≠0:=by exact_mod_cast hd
 unfold val at nz⊢;rw[<-d1,<-d2]at nz⊢
 push_cast at yq⊢
 grind
theorem IG(h:bF t)(hg:sz t<=g):bV (cT t) (sT t) (2*g+1):=⟨(Ak h).up ⋯,by
 rw[rG h,rH h];have:=sO (val t);grind⟩
theorem IH(h:bV x y e)(n:bF t)(hg:sz t<=g):bV (Zg x y (cT t) (sT t)) (Zf x y (cT t) (sT t)) (e+2*g+2):=(h.trU (IG n hg)).up ⋯
def Uv(e:Nat)(t:L2.T):Prop:=∃a b,t=vc a b/\bV a b e
theorem Uv.up(h:Uv e t)(k:e<=f):Uv f t:=let⟨a,b,h1,h2⟩:=h;⟨a,b,h1,h2.up k⟩
theorem Zk{s:Int}(h:bV x y e)(n:bF t)(hg:sz t<=g)(hs:s=1\/s=2\/s=3):∀u∈vG x y t s,Uv (e+2*g+6) u:=by
 intro u hu;obtain⟨k,hk,rfl⟩:=QK.mp hu;have kb:k.natAbs<=3:=by
  unfold AH at hk;split at hk
  ·simp at hk;lia
  ·split at hk
   ·simp at hk;lia
   ·simp at hk;lia
 obtain⟨n1,n2⟩:=Il (s:=s) kb ⋯;have:=cC n n1;exact⟨_,_,rfl,(IH h (aK n n1) (show _<=g+2 by lia)).up ⋯⟩
theorem Pz{s:Int}(k:bV p q f)(hs:s=1\/s=2\/s=3):∀(m:Nat)(x y:Fr),bV x y e->uU p q m x y->∀u∈qb p q s m x y,Uv (3*e+2*f+10) u
 |0,x,y,h,r,u,hu=>by
  have hu:u∈h9 p q s x y:=hu;unfold h9 at hu;split at hu
  ·cases hu
  ·obtain⟨t1,t2⟩:=O0 h k (lK h.nv k.nv r);exact(Zk h t1 t2 hs u hu).up ⋯
 |m+1,x,y,h,r,u,hu=>by
  have hu:u∈vG x y (1,1) s++qb p q s m (aN y) x:=hu;obtain hu|hu:=OZ.mp hu
  ·exact(Zk h (aO 1) (show sz (1,1)<=1 by decide) hs u hu).up ⋯
  ·exact Pz k hs m (aN y) x h.left r.2 u hu
theorem Vo{k:L2.T->Rat}(h:∀B,a<=(M B).length/\(M B).length<=a+B.length):∀B,a+1<=(mU k u M B).length/\(mU k u M B).length<=a+1+B.length
 |[]=>by
  have:=h [];show a+1<=(M []).length+1/\(M []).length+1<=a+1+0;simp at this
  lia
 |r::R=>by
  unfold mU
  split
  ·have:=Vo (k:=k) (u:=u) h R;simp only[OT]
   lia
  ·have h2:=h (if L2.dX r u=true then R else r::R);simp only[OT];split at h2
   ·split
    ·lia
    ·contradiction
   ·split
    ·contradiction
    ·simp only[OT]at h2
     lia
theorem Nr(k:L2.T->Rat):∀A B,A.length<=(tF k A B).length/\(tF k A B).length<=A.length+B.length
 |[],B=>⟨OG _,OG _⟩
 |u::A,B=>Vo (k:=k) (u:=u) (M:=tF k A) (a:=A.length) (Nr k A) B
theorem AJ{s:Int}(hs:s=1\/s=2\/s=3)(hm:m<=3)(hm':m'<=3)(ne:¬(p=x/\q=y)):2<=(sU x y p q s m m').length/\(sU x y p q s m m').length<=30:=by
 have l:=Nr (kf x y) (vc x y::qb p q s m x y) (Ey x y p q s m');have l1:=Vn x y p q hs m';have l2:=Cj p q hs m x y;have l3:1<=(qb p q s m x y).length:=by
  have le:∀t:Fr,1<=(vG x y t s).length:=λt=>by rcases hs with rfl|rfl|rfl<;>simp[vG,AH]
  cases m with
  |zero=>
   show 1<=(h9 p q s x y).length;unfold h9;rw[oW (λz=>ne ⟨z.1.symm,z.2.symm⟩)];exact le _
  |succ m=>
   show 1<=(vG x y (1,1) s++qb p q s m (aN y) x).length;rw[OB];have:=le (1,1)
   lia
 rw[OT]at l;unfold sU
 lia
theorem qL{d c:Rat}(o:d*d+c*c=1):0<=eN d c:=by
 obtain⟨h1,h2⟩:=bJ o;unfold eN
 split<;>grind
theorem Cg{d c:Rat}(o:d*d+c*c=1)(n:d≠1):0<eN d c:=by
 obtain⟨h1,h2⟩:=bJ o;unfold eN
 split
 ·grind
 ·grind
theorem l9{c:Rat}(o:1*1+c*c=1):eN 1 c=0:=by
 have:c*c=0:=by grind
 have z:c=0:=by rcases Rat.mul_eq_zero.mp this with a|a<;>exact a
 rw[z];unfold eN;rw[oV (by grind)];grind
theorem Jj{ax ay bx bY ux uy vx vy:Rat}(oa:ax*ax+ay*ay=1)(ob:bx*bx+bY*bY=1)(ou:ux*ux+uy*uy=1)(ov:vx*vx+vy*vy=1)(h:eN (bx*ux+bY*uy) (-(bx*uy-bY*ux))<eN (bx*vx+bY*vy) (-(bx*vy-bY*vx)))(hv:eN (bx*vx+bY*vy) (-(bx*vy-bY*vx))<eN (bx*ax+bY*ay) (-(bx*ay-bY*ax))):eN (ax*vx+ay*vy) (ax*vy-ay*vx)<eN (ax*ux+ay*uy) (ax*uy-ay*ux):=by
 have Ou:(bx*ux+bY*uy)*(bx*ux+bY*uy)+(-(bx*uy-bY*ux))*(-(bx*uy-bY*ux))=1:=by grind
 have Ov:(bx*vx+bY*vy)*(bx*vx+bY*vy)+(-(bx*vy-bY*vx))*(-(bx*vy-bY*vx))=1:=by grind
 have Oa:(bx*ax+bY*ay)*(bx*ax+bY*ay)+(-(bx*ay-bY*ax))*(-(bx*ay-bY*ax))=1:=by grind
 have Pv:(ax*vx+ay*vy)*(ax*vx+ay*vy)+(ax*vy-ay*vx)*(ax*vy-ay*vx)=1:=by grind
 have Pu:(ax*ux+ay*uy)*(ax*ux+ay*uy)+(ax*uy-ay*ux)*(ax*uy-ay*ux)=1:=by grind
 have kU:=qL Ou;have nv:bx*vx+bY*vy≠1:=λe=>by
  have:=l9 (c:=-(bx*vy-bY*vx)) (by rw[e]at Ov;exact Ov);rw[e,this]at h;grind
 have kV:=Cg Ov nv;have na:bx*ax+bY*ay≠1:=λe=>by
  have:=l9 (c:=-(bx*ay-bY*ax)) (by rw[e]at Oa;exact Oa);rw[e,this]at hv;grind
 obtain⟨_,b2⟩:=bJ Ov;obtain⟨_,a2⟩:=bJ Oa;obtain⟨_,u2⟩:=bJ Ou;have h1:=(lG Ov Oa nv na).1 hv;have xk:0<(ax*vy-ay*vx)*(1-(ax*ux+ay*uy))-(ax*uy-ay*ux)*(1-(ax*vx+ay*vy)):=by
  have id1:(ax*vy-ay*vx)*(1-(ax*ux+ay*uy))-(ax*uy-ay*ux)*(1-(ax*vx+ay*vy))=(ax*vy-ay*vx)+(vx*uy-vy*ux)+(ux*ay-uy*ax):=by grind
  rw[id1]
  by_cases nu:bx*ux+bY*uy=1
  ·have z:(bx*uy-bY*ux)*(bx*uy-bY*ux)=0:=by rw[nu]at Ou;grind
   have z0:bx*uy-bY*ux=0:=by rcases Rat.mul_eq_zero.mp z with a|a<;>exact a
   have ex:ux=bx:=by
    have:ux=bx*(bx*ux+bY*uy)-bY*(bx*uy-bY*ux):=by grind
    rw[nu,z0]at this;grind
   have ey:uy=bY:=by
    have:uy=bY*(bx*ux+bY*uy)+bx*(bx*uy-bY*ux):=by grind
    rw[nu,z0]at this;grind
   rw[ex,ey];have id2:-(bx*vy-bY*vx)*(1-(bx*ax+bY*ay)) - -(bx*ay-bY*ax)*(1-(bx*vx+bY*vy))=(ax*vy-ay*vx)+(vx*bY-vy*bx)+(bx*ay-bY*ax):=by grind
   rw[<-id2];exact h1
  ·have h2:=(lG Ou Ov nu nv).1 h;have t:=(zW (ca:=bx*ay-bY*ax) (wa:=1-(bx*ax+bY*ay)) (cv:=bx*vy-bY*vx) (wv:=1-(bx*vx+bY*vy)) (cu:=bx*uy-bY*ux) (wu:=1-(bx*ux+bY*uy))
    (by grind) (by grind) (by grind) (by grind) (by grind) (by grind) (by grind) (by grind)).2
   have id3:((bx*ay-bY*ax)*(1-(bx*vx+bY*vy))-(bx*vy-bY*vx)*(1-(bx*ax+bY*ay)))+((bx*vy-bY*vx)*(1-(bx*ux+bY*uy))-(bx*uy-bY*ux)*(1-(bx*vx+bY*vy)))-((bx*ay-bY*ax)*(1-(bx*ux+bY*uy))-(bx*uy-bY*ux)*(1-(bx*ax+bY*ay)))=(ax*vy-ay*vx)+(vx*uy-vy*ux)+(ux*ay-uy*ax):=by grind
   rw[id3]at t;exact t
 have n1:ax*vx+ay*vy≠1:=λe=>by
  have z:(ax*vy-ay*vx)*(ax*vy-ay*vx)=0:=by rw[e]at Pv;grind
  have z0:ax*vy-ay*vx=0:=by rcases Rat.mul_eq_zero.mp z with a|a<;>exact a
  rw[e,z0]at xk;grind
 have n2:ax*ux+ay*uy≠1:=λe=>by
  have z:(ax*uy-ay*ux)*(ax*uy-ay*ux)=0:=by rw[e]at Pu;grind
  have z0:ax*uy-ay*ux=0:=by rcases Rat.mul_eq_zero.mp z with a|a<;>exact a
  rw[e,z0]at xk;grind
 exact(lG Pv Pu n1 n2).2 xk
theorem Qg{ax ay bx bY ux uy:Rat}(oa:ax*ax+ay*ay=1)(ou:ux*ux+uy*uy=1)(h:eN (bx*ux+bY*uy) (-(bx*uy-bY*ux))<eN (bx*ax+bY*ay) (-(bx*ay-bY*ax))):eN (ax*ax+ay*ay) (ax*ay-ay*ax)<eN (ax*ux+ay*uy) (ax*uy-ay*ux):=by
 have Pu:(ax*ux+ay*uy)*(ax*ux+ay*uy)+(ax*uy-ay*ux)*(ax*uy-ay*ux)=1:=by grind
 have n2:ax*ux+ay*uy≠1:=λe=>by
  have z:(ax*uy-ay*ux)*(ax*uy-ay*ux)=0:=by rw[e]at Pu;grind
  have z0:ax*uy-ay*ux=0:=by rcases Rat.mul_eq_zero.mp z with a|a<;>exact a
  have ex:ux=ax:=by
   have:ux=ax*(ax*ux+ay*uy)-ay*(ax*uy-ay*ux):=by grind
   rw[e,z0]at this;grind
  have ey:uy=ay:=by
   have:uy=ay*(ax*ux+ay*uy)+ax*(ax*uy-ay*ux):=by grind
   rw[e,z0]at this;grind
  rw[ex,ey]at h;grind
 have k1:eN (ax*ax+ay*ay) (ax*ay-ay*ax)=0:=by
  rw[oa];exact l9 (by grind)
 rw[k1];exact Cg Pu n2
theorem N5{k:L2.T->Rat}(h:srt k a l)(ht:t∈a::l):t=lst a l\/k t<k (lst a l):=by
 obtain⟨i,hi⟩:=QY ht;have il:=(NV.mp hi).1;rw[OT]at il;obtain c|c:=OY i l.length
 ·exact .inr (sP h hi c)
 ·left
  obtain⟨L,hL⟩:=Ck a l;have ll:l.length+1=L.length+1:=by have:=congrArg List.length hL;simpa using this
  rw[hL]at hi;have:i=L.length:=⋯
  subst this;simp at hi;exact hi.symm
theorem N6(h:bV x y e)(k:bV p q f)(ss:SS (kf (aN p) q) L)(uv:∀t∈L,Uv g t)(mx:∀t∈L,t=vc (aN x) y\/kf (aN p) q t<kf (aN p) q (vc (aN x) y)):SS (kf x y) ((L.reverse).map Nf):=by
 unfold SS;rw[List.pairwise_map,List.pairwise_reverse];refine List.Pairwise.imp_of_mem ?_ ss;intro u' v' hu hv huv;obtain⟨ua,ub,rfl,nu⟩:=uv u' hu;have nu1:=nu.nv.x;have nu2:=nu.nv.y;have ou:=nu.one;have vP:=bC k.nv.x;have vX:=bC h.nv.x;have vu:=bC nu1;obtain rfl|ag:=mx v' hv
 ·rw[nO,nO,zY];rw[i4,i4,vP,vX]at huv;rw[i4,i4,vu];refine Qg (bx:=val p) (bY:=val q) h.one (by grind) ?_;have e1:val p * -val ua+val q*val ub = -val p*val ua+val q*val ub:=by grind
  have e2:-(val p*val ub-val q * -val ua) = -val p*val ub-val q*val ua:=by grind
  have e3:val p*val x+val q*val y = -val p * -val x+val q*val y:=by grind
  have e4:-(val p*val y-val q*val x) = -val p*val y-val q * -val x:=by grind
  rw[e1,e2,e3,e4];exact huv
 ·obtain⟨va,vb,rfl,nv⟩:=uv v' hv;have nv1:=nv.nv.x;have nv2:=nv.nv.y;have ov:=nv.one;have vv:=bC nv1;rw[nO,nO];rw[i4,i4,vP]at huv ag;rw[vX]at ag;rw[i4,i4,vu,vv];have e1:val p * -val ua+val q*val ub = -val p*val ua+val q*val ub:=by grind
  have e2:-(val p*val ub-val q * -val ua) = -val p*val ub-val q*val ua:=by grind
  have e3:val p*val x+val q*val y = -val p * -val x+val q*val y:=by grind
  have e4:-(val p*val y-val q*val x) = -val p*val y-val q * -val x:=by grind
  have e5:val p * -val va+val q*val vb = -val p*val va+val q*val vb:=by grind
  have e6:-(val p*val vb-val q * -val va) = -val p*val vb-val q*val va:=by grind
  refine Jj (bx:=val p) (bY:=val q) h.one k.one (by grind) (by grind) ?_ ?_
  ·rw[e1,e2,e5,e6];exact huv
  ·rw[e3,e4,e5,e6];exact ag
theorem Nm{d1 c1 d2 c2:Rat}(o1:d1*d1+c1*c1=1)(o2:d2*d2+c2*c2=1)(h:eN d1 c1=eN d2 c2):d1=d2/\c1=c2:=by
 have one:∀{d c d' c':Rat},d'*d'+c'*c'=1->d*d+c*c=1->0<=c->¬0<=c'->1-d=3+d'->False:=λ{d c d' c'}o' o hc iw e=>by
  obtain⟨a1,_⟩:=kP o' (by grind);obtain⟨b1,_⟩:=bJ o;grind
 have same:∀{d c c':Rat},d*d+c*c=1->d*d+c'*c'=1->(c-c')*(c+c')=0:=by intros;grind
 unfold eN at h
 by_cases h1:0<=c1
 ·rw[oV h1]at h
  by_cases h2:0<=c2
  ·rw[oV h2]at h;have e:d1=d2:=by grind
   subst e;obtain z|z:=Rat.mul_eq_zero.mp (same o1 o2)
   ·exact⟨rfl,by grind⟩
   ·exact⟨rfl,by grind⟩
  ·rw[oW h2]at h;exact(one o2 o1 h1 h2 h).elim
 ·rw[oW h1]at h
  by_cases h2:0<=c2
  ·rw[oV h2]at h;exact(one o1 o2 h2 h1 h.symm).elim
  ·rw[oW h2]at h;have e:d1=d2:=by grind
   subst e;obtain z|z:=Rat.mul_eq_zero.mp (same o1 o2)
   ·exact⟨rfl,by grind⟩
   ·exact⟨rfl,by grind⟩
theorem iB{a b c d:Rat}(h:a*a+b*b=1)(k:c*c+d*d=1):(a*c+b*d)*(a*c+b*d)+(a*d-b*c)*(a*d-b*c)=1:=by grind
theorem Vk(h:bV x y e)(hu:Uv f u)(hv:Uv g v)(eq:kf x y u=kf x y v):u=v:=by
 obtain⟨a,b,rfl,ua⟩:=hu;obtain⟨c,d,rfl,uc⟩:=hv;rw[i4,i4]at eq;have o:=h.one;obtain⟨e1,e2⟩:=Nm (iB o ua.one) (iB o uc.one) eq;have f1:val a=val c:=by
  have g1:val a=val x*(val x*val a+val y*val b)-val y*(val x*val b-val y*val a):=by grind
  have g2:val c=val x*(val x*val c+val y*val d)-val y*(val x*val d-val y*val c):=by grind
  rw[g1,g2,e1,e2]
 have f2:val b=val d:=by
  have g1:val b=val y*(val x*val a+val y*val b)+val x*(val x*val b-val y*val a):=by grind
  have g2:val d=val y*(val x*val c+val y*val d)+val x*(val x*val d-val y*val c):=by grind
  rw[g1,g2,e1,e2]
 rw[b8 ua.nv.x uc.nv.x f1,b8 ua.nv.y uc.nv.y f2]
theorem Ue(hu:Uv e u)(hv:Uv f v):L2.dX u v=true↔u=v:=by
 obtain⟨a,b,rfl,ua⟩:=hu;obtain⟨c,d,rfl,uc⟩:=hv;rw[Gd];constructor
 ·intro h;have:=of_decide_eq_true h;rw[this.1,this.2]
 ·intro h;have e:=congrArg cx h;rw[uM,uM]at e;exact oY ⟨congrArg Prod.fst e,congrArg Prod.snd e⟩
theorem xS:∀{m n:Nat}{x y:Fr},uU p q m x y->uU p q n x y->m=n
 |0,0,_,_,_,_=>rfl
 |0,_+1,_,_,h,k=>absurd k.1 h
 |_+1,0,_,_,h,k=>absurd h.1 k
 |m+1,n+1,_,_,h,k=>by rw[xS h.2 k.2]
structure cU(x y p q:Fr)(e f:Nat)(s:Int)(m m':Nat):Prop where
 h:bV x y e
 k:bV p q f
 ef:e+f<=140
 e1:e<=100
 f1:f<=100
 hs:s=1\/s=2\/s=3
 hm:m<=3
 hm':m'<=3
 r:uU p q m x y
 r':uU (aN x) y m' (aN p) q
abbrev aL(x y p q:Fr)(s:Int)(m:Nat):List L2.T:=vc x y::qb p q s m x y
theorem cU.flip{s:Int}(E:cU x y p q e f s m m'):cU (aN p) q (aN x) y f e s m' m:=⟨E.k.flip,E.h.flip,by have:=E.ef;lia,E.f1,E.e1,E.hs,E.hm',E.hm,E.r',by rw[zY,zY];exact E.r⟩
theorem cU.auv(E:cU x y p q e f s m m'):∀t∈aL x y p q s m,Uv 400 t:=λt ht=>by
 have:=E.ef;have:=E.e1;have:=E.f1;obtain rfl|ht:=NZ.mp ht
 ·exact⟨x,y,rfl,E.h.up ⋯⟩
 ·exact(Pz E.k E.hs m x y E.h E.r t ht).up ⋯
theorem Y8(h:Uv g t):Uv g (Nf t)/\Nf (Nf t)=t:=by
 obtain⟨a,b,rfl,u⟩:=h;exact⟨⟨aN a,b,rfl,u.flip⟩,by rw[nO,nO,zY]⟩
theorem P5{s:Int}:Ey x y p q s m'=((aL (aN p) q (aN x) y s m').reverse).map Nf:=rfl
theorem cU.buv(E:cU x y p q e f s m m'):∀t∈Ey x y p q s m',Uv 400 t:=λt ht=>by
 obtain⟨z,hz,rfl⟩:=QK.mp ht;exact(Y8 (E.flip.auv z (TM.mp hz))).1
theorem cU.srt{s:Int}(E:cU x y p q e f s m m'):My.srt (kf x y) (vc x y) (qb p q s m x y):=by
 have at0:At 0 (val x*val x+val y*val y) (val x*val y-val y*val x):=.inl ⟨rfl,E.h.one,by grind⟩;exact Lw (s:=s) E.h E.k E.e1 E.ef E.hs m 0 x y E.h (by have:=E.hm;lia) at0 E.r
theorem cU.chn{s:Int}(E:cU x y p q e f s m m'):My.chn (vc x y) (qb p q s m x y)/\lst (vc x y) (qb p q s m x y)=vc p q:=wN E.k E.e1 E.ef E.hs m x y E.h E.r
theorem cU.ass{s:Int}(E:cU x y p q e f s m m'):SS (kf x y) (aL x y p q s m):=Yi E.srt
theorem cU.amax(E:cU x y p q e f s m m'):∀t∈aL x y p q s m,t=vc p q\/kf x y t<kf x y (vc p q):=λt ht=>by
 have:=N5 E.srt ht;rw[E.chn.2]at this;exact this
theorem cU.alast{s:Int}(E:cU x y p q e f s m m'):vc p q∈aL x y p q s m:=by
 obtain⟨L,hL⟩:=Ck (vc x y) (qb p q s m x y);rw[E.chn.2]at hL;show vc p q∈vc x y::qb p q s m x y;rw[hL];simp
theorem cU.bss{s:Int}(E:cU x y p q e f s m m'):SS (kf x y) (Ey x y p q s m'):=by
 rw[P5];exact N6 E.h E.k E.flip.ass E.flip.auv E.flip.amax
theorem cU.bmax(E:cU x y p q e f s m m'):∀t∈Ey x y p q s m',kf x y t<=kf x y (vc p q):=by
 have ss:=E.bss;have e0:Ey x y p q s m'=((qb (aN x) y s m' (aN p) q).reverse).map Nf++[vc p q]:=by
  rw[P5];show((vc (aN p) q::qb (aN x) y s m' (aN p) q).reverse).map Nf=_;rw[RU,OR];show _++[Nf (vc (aN p) q)]=_;rw[nO,zY]
 rw[e0]at ss⊢;have q:=(List.pairwise_append.mp ss).2.2;intro t ht;obtain c|c:=OZ.mp ht
 ·exact Rat.le_of_lt (q t c _ (by simp))
 ·rw[PD]at c;rw[c];exact Rat.le_refl
theorem cU.ub{s:Int}(E:cU x y p q e f s m m'):SS (kf x y) (sU x y p q s m m')/\∀t,t∈sU x y p q s m m'↔t∈aL x y p q s m\/t∈Ey x y p q s m':=by
 have inj:∀u∈aL x y p q s m,∀r∈Ey x y p q s m',kf x y r=kf x y u->L2.dX r u=true:=λu hu r hr z=>by
  have:=Vk E.h (E.buv r hr) (E.auv u hu) z;exact(Ue (E.buv r hr) (E.auv u hu)).2 this
 have nj:∀u∈aL x y p q s m,∀r∈Ey x y p q s m',L2.dX r u=true->r=u:=λu hu r hr z=>(Ue (E.buv r hr) (E.auv u hu)).1 z;have has:=Nx (k:=kf x y) (A:=aL x y p q s m) E.bss inj nj λr hr=>⟨vc p q,E.alast,E.bmax r hr⟩;refine⟨(Vs E.ass E.bss inj nj).1,λt=>⟨λh=>vL h,λh=>?_⟩⟩;obtain h|h:=h
 ·exact has.1 t h
 ·exact has.2 t h
theorem cU.uuv(E:cU x y p q e f s m m'):∀t∈sU x y p q s m m',Uv 400 t:=λt ht=>by
 rcases(E.ub.2 t).1 ht with h|h
 ·exact E.auv t h
 ·exact E.buv t h
theorem cU.umax(E:cU x y p q e f s m m'):∀t∈sU x y p q s m m',kf x y t<=kf x y (vc p q):=λt ht=>by
 rcases(E.ub.2 t).1 ht with h|h
 ·obtain z|z:=E.amax t h
  ·rw[z];exact Rat.le_refl
  ·exact Rat.le_of_lt z
 ·exact E.bmax t h
theorem F9(h:bV x y e):kf x y (vc x y)=0:=by
 rw[i4,h.one];have:val x*val y-val y*val x=0:=by grind
 rw[this];exact l9 (by grind)
theorem cU.umin(E:cU x y p q e f s m m'):∀t∈sU x y p q s m m',kf x y (vc x y)<=kf x y t:=λt ht=>by
 rw[F9 E.h];obtain⟨a,b,rfl,u⟩:=E.uuv t ht;rw[i4];exact qL (iB E.h.one u.one)
theorem N7{k:L2.T->Rat}(h:SS k l)(hz:z∈l)(mn:∀t∈l,k z<=k t):∃L,l=z::L:=by
 cases l with
 |nil=>cases hz
 |cons a l=>
  obtain rfl|hz:=NZ.mp hz
  ·exact⟨l,rfl⟩
  ·have:=(QL.mp h).1 z hz;have:=mn a (OK ..);grind
theorem N8{k:L2.T->Rat}(h:SS k l)(hz:z∈l)(mx:∀t∈l,k t<=k z):∃L,l=L++[z]:=by
 obtain⟨a,b,rfl⟩:=List.append_of_mem hz;cases b with
 |nil=>exact⟨a,rfl⟩
 |cons c b=>
  have h2:=(List.pairwise_append.mp h).2.1;have:=(QL.mp h2).1 c (OK ..);have:=mx c (by simp);grind
theorem cU.first{s:Int}(E:cU x y p q e f s m m'):∃L,sU x y p q s m m'=vc x y::L:=N7 E.ub.1 ((E.ub.2 _).2 (.inl (OK ..))) E.umin
theorem cU.last{s:Int}(E:cU x y p q e f s m m'):∃L,sU x y p q s m m'=L++[vc p q]:=N8 E.ub.1 ((E.ub.2 _).2 (.inl E.alast)) E.umax
theorem R9{da ca du cu dv cv:Rat}(oa:da*da+ca*ca=1)(ou:du*du+cu*cu=1)(ov:dv*dv+cv*cv=1)(h1:eN da ca<=eN du cu)(h2:eN du cu<eN dv cv):eN (da*du+ca*cu) (da*cu-ca*du)<eN (da*dv+ca*cv) (da*cv-ca*dv):=by
 have Ou:=iB oa ou;have Ov:=iB oa ov;have back:∀{t s:Rat},t*t+s*s=1->da*t+ca*s=1->t=da/\s=ca:=λ{t s}o z=>by
  have O:=iB oa o;rw[z]at O;have z2:(da*s-ca*t)*(da*s-ca*t)=0:=by grind
  have z3:da*s-ca*t=0:=by rcases Rat.mul_eq_zero.mp z2 with a|a<;>exact a
  constructor
  ·have:t=da*(da*t+ca*s)-ca*(da*s-ca*t):=by grind
   rw[z,z3]at this;grind
  ·have:s=ca*(da*t+ca*s)+da*(da*s-ca*t):=by grind
   rw[z,z3]at this;grind
 have nv:da*dv+ca*cv≠1:=λz=>by
  obtain⟨e1,e2⟩:=back ov z;rw[e1,e2]at h2;grind
 by_cases eq:eN da ca=eN du cu
 ·obtain⟨e1,e2⟩:=Nm oa ou eq;rw[<-e1,<-e2,oa];have:da*ca-ca*da=0:=by grind
  rw[this,l9 (by grind)];exact Cg Ov nv
 have lt:eN da ca<eN du cu:=by grind
 have nu:da*du+ca*cu≠1:=λz=>by
  obtain⟨e1,e2⟩:=back ou z;rw[e1,e2]at lt;grind
 by_cases base:da=1
 ·have c0:ca=0:=by
   rw[base]at oa;have:ca*ca=0:=by grind
   rcases Rat.mul_eq_zero.mp this with a|a<;>exact a
  rw[base,c0];have e1:1*du+0*cu=du:=by grind
  have e2:1*cu-0*du=cu:=by grind
  have e3:1*dv+0*cv=dv:=by grind
  have e4:1*cv-0*dv=cv:=by grind
  rw[e1,e2,e3,e4];exact h2
 have ka:=qL oa;have n1:du≠1:=λz=>by
  rw[z]at ou;rw[z,l9 ou]at lt;grind
 have n2:dv≠1:=λz=>by
  rw[z]at ov;rw[z,l9 ov]at h2;grind
 have a1:=(lG oa ou base n1).1 lt;have a2:=(lG ou ov n1 n2).1 h2;obtain⟨_,ba⟩:=bJ oa;obtain⟨_,bu⟩:=bJ ou;obtain⟨_,bv⟩:=bJ ov;have t:=(zW (ca:=ca) (wa:=1-da) (cv:=cu) (wv:=1-du) (cu:=cv) (wu:=1-dv) (by grind) (by grind) (by grind) (by grind) (by grind) (by grind) a1 a2).2;refine(lG Ou Ov nu nv).2 ?_;have id:(da*cu-ca*du)*(1-(da*dv+ca*cv))-(da*cv-ca*dv)*(1-(da*du+ca*cu))=(ca*(1-du)-cu*(1-da))+(cu*(1-dv)-cv*(1-du))-(ca*(1-dv)-cv*(1-da)):=by grind
 rw[id];exact t
theorem L8{du cu dv cv db cb:Rat}(ou:du*du+cu*cu=1)(ov:dv*dv+cv*cv=1)(ob:db*db+cb*cb=1)(h1:eN du cu<eN dv cv)(h2:eN dv cv<=eN db cb)(c0:0<cb)(d0:0<=db):0<du*cv-cu*dv/\0<=du*dv+cu*cv:=by
 have kb:eN db cb<=1:=by unfold eN;rw[oV (by grind)];grind
 have fY:∀{d c:Rat},d*d+c*c=1->eN d c<=1->0<=c/\0<=d/\eN d c=1-d:=λ{d c}o h=>by
  obtain⟨a,b⟩:=bJ o;unfold eN at h⊢
  by_cases hc:0<=c
  ·rw[oV hc]at h⊢;exact⟨hc,by grind,rfl⟩
  ·rw[oW hc]at h;obtain⟨a',b'⟩:=kP o (by grind);grind
 obtain⟨v1,v2,v3⟩:=fY ov (by grind);obtain⟨u1,u2,u3⟩:=fY ou (by grind);have lt:dv<du:=by grind
 have p1:=Rat.mul_nonneg u2 v2;have p2:=Rat.mul_nonneg u1 v1;refine⟨?_,by grind⟩;have cv0:0<cv:=by
  by_cases z:cv=0
  ·rw[z]at ov;obtain⟨_,b⟩:=bJ ou;rcases Bb ov with w|w<;>grind
  ·grind
 by_cases z:cu=0
 ·rw[z]at ou⊢;obtain w|w:=Bb ou
  ·rw[w];grind
  ·grind
 ·exact(DA ou ov (by grind) cv0).2 lt
theorem C4{k:L2.T->Rat}{r:Rat}:∀{l:List L2.T}{a:L2.T},srt k a l->chn a l->k a<=r->r<k (lst a l)->∃u v,u∈a::l/\v∈a::l/\JR u v/\k u<=r/\r<k v:=by
 intro l
 induction l with
 |nil=>intro a _ _ h1 h2;have h2:r<k a:=h2;grind
 |cons b l ih=>
  intro a hs hc h1 h2
  by_cases c:k b<=r
  ·obtain⟨u,v,hu,hv,n,q1,q2⟩:=ih hs.2 hc.2 c h2;exact⟨u,v,OC _ hu,OC _ hv,n,q1,q2⟩
  ·exact⟨a,b,by simp,by simp,hc.1,h1,by grind⟩
theorem N9{k:L2.T->Rat}(h:SS k l)(hu:l[i]?=oZ u)(hv:l[i+1]?=oZ v)(hb:b∈l)(lt:k u<k b):k v<=k b:=by
 obtain⟨j,hj⟩:=QY hb;obtain⟨i1,e1⟩:=NV.mp hu;obtain⟨i2,e2⟩:=NV.mp hv;obtain⟨j1,e3⟩:=NV.mp hj;have pw:=UI.mp h;obtain c|c|c:=Nat.lt_trichotomy j (i+1)
 ·obtain z|z:=OY j i
  ·have:=pw j i j1 i1 z;rw[e1,e3]at this;grind
  ·have:j=i:=⋯
   subst this;rw[e1]at e3;rw[e3]at lt;grind
 ·subst c;rw[e2]at e3;rw[e3];exact Rat.le_refl
 ·have:=pw (i+1) j i2 j1 c;rw[e2,e3]at this;exact Rat.le_of_lt this
theorem cU.nbr{s:Int}(E:cU x y p q e f s m m')(hu:(sU x y p q s m m')[i]?=oZ u)(hv:(sU x y p q s m m')[i+1]?=oZ v):
  ∃a b c d,u=vc a b/\v=vc c d/\bV a b 400/\bV c d 400/\0<val a*val d-val b*val c/\0<=val a*val c+val b*val d:=by
 have mu:=NX hu;have mv:=NX hv;have luv:kf x y u<kf x y v:=by
  obtain⟨i1,e1⟩:=NV.mp hu;obtain⟨i2,e2⟩:=NV.mp hv;have:=UI.mp E.ub.1 i (i+1) i1 i2 ⋯;rw[e1,e2]at this;exact this
 have l2:kf x y u<kf x y (lst (vc x y) (qb p q s m x y)):=by
  rw[E.chn.2];have:=E.umax v mv;grind
 obtain⟨a,b,ha,hb,nb,q1,q2⟩:=C4 E.srt E.chn.1 (E.umin u mu) l2;have q3:=N9 E.ub.1 hu hv ((E.ub.2 b).2 (.inl hb)) q2;obtain⟨u1,u2,rfl,uu⟩:=E.uuv u mu;obtain⟨v1,v2,rfl,uv⟩:=E.uuv v mv;obtain⟨a1,a2,rfl,ua⟩:=E.auv a ha;obtain⟨b1,b2,rfl,ub⟩:=E.auv b hb;obtain⟨a1',a2',ya,b2',z1,z2,_,_,_,c0,d0⟩:=nb.ex;have z1:=congrArg cx z1;have z2:=congrArg cx z2;rw[uM,uM]at z1 z2;cases z1;cases z2;refine⟨u1,u2,v1,v2,rfl,rfl,uu,uv,?_⟩;rw[i4,i4]at q1 luv q3;have o:=E.h.one;have Oa:=iB o ua.one;have Ou:=iB o uu.one;have Ov:=iB o uv.one;have Ob:=iB o ub.one;have s1:=R9 Oa Ou Ov q1 luv;have inv:∀t1 t2 r1 r2:Rat,(val x*t1+val y*t2)*(val x*r1+val y*r2)+(val x*t2-val y*t1)*(val x*r2-val y*r1)=t1*r1+t2*r2:=λt1 t2 r1 r2=>by grind
 have inw:∀t1 t2 r1 r2:Rat,(val x*t1+val y*t2)*(val x*r2-val y*r1)-(val x*t2-val y*t1)*(val x*r1+val y*r2)=t1*r2-t2*r1:=λt1 t2 r1 r2=>by grind
 rw[inv,inw,inv,inw]at s1;have s2:eN (val a1*val v1+val a2*val v2) (val a1*val v2-val a2*val v1)<=eN (val a1*val b1+val a2*val b2) (val a1*val b2-val a2*val b1):=by
  by_cases z:eN (val x*val v1+val y*val v2) (val x*val v2-val y*val v1)=eN (val x*val b1+val y*val b2) (val x*val b2-val y*val b1)
  ·have:=Vk E.h ⟨v1,v2,rfl,uv⟩ ⟨b1,b2,rfl,ub⟩ z;have:=congrArg cx this;rw[uM,uM]at this;cases this;exact Rat.le_refl
  ·have s3:=R9 Oa Ov Ob (by grind) (show _<_ by grind);rw[inv,inw,inv,inw]at s3;exact Rat.le_of_lt s3
 have fin:=L8 (iB ua.one uu.one) (iB ua.one uv.one) (iB ua.one ub.one) s1 s2 c0 d0;have oa:=ua.one;have i1:(val a1*val u1+val a2*val u2)*(val a1*val v2-val a2*val v1)-(val a1*val u2-val a2*val u1)*(val a1*val v1+val a2*val v2)=val u1*val v2-val u2*val v1:=by grind
 have i2:(val a1*val u1+val a2*val u2)*(val a1*val v1+val a2*val v2)+(val a1*val u2-val a2*val u1)*(val a1*val v2-val a2*val v1)=val u1*val v1+val u2*val v2:=by grind
 rw[i1,i2]at fin;exact fin
def Po:dG:=λas Q=>∃(x y p q:Fr)(e f:Nat),as=[.v (vc x y),.v (vc p q)]/\Nv x y e/\Nv p q f/\e+f<=3900/\Q (.v (vc (aV x p) (aV y q))) []
abbrev rQ(P w K mg base):=(~~~Fn) 4 "plus" oG (aJ K Po)
abbrev Ll:VS:=top 11
theorem N3:aF oG oG (aC Ll):=dH
theorem I0(F:cL K "plus" "plus" Ll f fd)(TX:Txt mg)(YD: ~~~gF):(~~~aT) cO 4 f fd oG (aJ K Po):=by
 refine F.okU N3 (λhr=>(aE (aG (aM (f2 (fK YD (f2 (fQ 0) (fQ 1))) (fK YD (f2 (fQ 0) (fQ 1)))))))) ?_;rintro as Q ⟨x,y,p,q,e,f,rfl,h,k,he,z⟩;have:=h.sx;have:=h.sy;have:=k.sx;have:=k.sy;exact⟨_,_,rfl,h.x,k.x,⋯,_,_,rfl,h.y,k.y,⋯,rfl,z⟩
def vT:dG:=λas Q=>∃(x y b:Fr)(e:Nat),as=[.v (vc x y),.v (fr b)]/\Nv x y e/\bF b/\e+sz b<=7000/\Q (.v (vc (aH x b) (aH y b))) []
abbrev lA(P w K mg base):=(~~~Fn) 4 "scaled" ["vector","by"] (aJ K vT)
abbrev x9:VS:=top 13
theorem Sl:aF ["vector","by"] ["vector","by"] (aC x9):=dH
theorem Rv(F:cL K "scaled" "scaled" x9 f fd)(TX:Txt mg)(YF: ~~~jV):(~~~aT) cO 4 f fd ["vector","by"] (aJ K vT):=by
 refine F.okU Sl (λhr=>(aE (aG (aM (f2 (fK YF (f2 (fQ 0) (fv 1))) (fK YF (f2 (fQ 0) (fv 1)))))))) ?_;rintro as Q ⟨x,y,b,e,rfl,h,k,he,z⟩;have:=h.sx;have:=h.sy;exact⟨_,_,rfl,h.x,k,⋯,_,_,rfl,h.y,k,⋯,rfl,z⟩
def Sy(x y p q:Fr):Fr:=aV (1,1) (cS x y p q)
def O4(x p d:Fr):Fr:=aH (aV x p) (bX (1,1) d)
theorem Yk:sz (1,1)=1:=∅
theorem mB(h:Nv x y e)(k:Nv p q f):Nv (aV x p) (aV y q) (e+f+1):=by
 have:=h.sx;have:=h.sy;have:=k.sx;have:=k.sy;have s1:=gV h.x k.x;have s2:=gV h.y k.y;exact⟨cI h.x k.x,cI h.y k.y,⋯,⋯⟩
theorem iH(h:Nv x y e)(k:bF b):Nv (aH x b) (aH y b) (e+sz b):=by
 have:=h.sx;have:=h.sy;have s1:=cC h.x k;have s2:=cC h.y k;exact⟨aK h.x k,aK h.y k,⋯,⋯⟩
theorem Ej(h:bV x y e)(k:bV p q f):bF (Sy x y p q)/\sz (Sy x y p q)<=e+f+3/\val (Sy x y p q)=1+(val x*val p+val y*val q):=by
 have s:=vS h k;have s2:=gV (aO 1) (bD h.nv k.nv);have o:=Yk;refine⟨cI (aO 1) (bD h.nv k.nv),?_,?_⟩
 ·show sz (aV (1,1) (cS x y p q))<=_
  lia
 ·show val (aV (1,1) (cS x y p q))=_;rw[a7 (aO 1) (bD h.nv k.nv),gW,dW h.nv k.nv]
theorem Ka(h:bF d)(n:d.1≠0):bF (bX (1,1) d)/\sz (bX (1,1) d)<=sz d+1/\val (bX (1,1) d)=1/val d:=by
 have s:=pR (aO 1) n;have o:=Yk;exact⟨j8 (aO 1) n,⋯,by rw[lL (aO 1) h n,gW]⟩
theorem DC(h:bF d)(n:d.1≠0):val d≠0:=λz=>by
 have:=(yO h).1 (by grind);have:=(eI h).1 (by grind)
 lia
def ID:dG:=λas Q=>∃(x y p q:Fr),as=[.v (vc x y),.v (vc p q)]/\bV x y 150/\bV p q 150/\(Sy x y p q).1≠0/\Q (.v (vc (O4 x p (Sy x y p q)) (O4 y q (Sy x y p q)))) []
abbrev zN(P w K mg base):=(~~~Fn) 5 "tip_of" oG (aJ K ID)
abbrev yA:VS:=top 44
theorem Sm:aF oG oG (aC yA):=dH
theorem Rw(F:cL K "tip_of" "tip_of" yA f fd)(TX:Txt mg)(YO: ~~~lA)(ZC: ~~~rQ)(ZL: ~~~rP)(YD: ~~~gF)(ZG: ~~~qI)(YK:mW mg K "ONE_turns" (.tup [.int 1,.int 1])):(~~~aT) cO 5 f fd oG (aJ K ID):=by
 refine F.okU Sm (λhr=>(aE (aG (fK YO (f2 (fK ZC (f2 (fv 0) (fv 1))) (fK ZL (f2 (iQ rfl YK) (fK YD (f2 (iQ rfl YK) (fK ZG (f2 (fv 0) (fv 1)))))))))))) ?_;rintro as Q ⟨x,y,p,q,rfl,h,k,n,z⟩;have s:=vS h k;have o:=Yk;obtain⟨u1,u2,_⟩:=Ej h k;obtain⟨i1,i2,_⟩:=Ka u1 n;refine⟨x,y,p,q,150,150,rfl,h.nv,k.nv,∅,?_⟩;refine⟨x,y,p,q,150,150,rfl,h.nv,k.nv,∅,(1,1),_,rfl,aO 1,bD h.nv k.nv,⋯,?_⟩;refine⟨(1,1),Sy x y p q,rfl,aO 1,u1,n,⋯,?_⟩;exact⟨_,_,_,_,rfl,mB h.nv k.nv,i1,⋯,rfl,z⟩
def Zw(u v:L2.T):Fr:=cS (cx u).1 (cx u).2 (cx v).1 (cx v).2
def mn(a b:Fr):Fr:=if val b<val a then b else a
def Ci(U:List L2.T):Nat->Fr
 |0=>Zw (U.getD 0 .non) (U.getD 1 .non)
 |i+1=>mn (Ci U i) (Zw (U.getD (i+1) .non) (U.getD (i+2) .non))
theorem Ub(h:Uv 150 u)(k:Uv 150 v):bF (Zw u v)/\sz (Zw u v)<=301:=by
 obtain⟨a,b,rfl,h⟩:=h;obtain⟨c,d,rfl,k⟩:=k;exact⟨bD h.nv k.nv,vS h k⟩
theorem Vm{U:List L2.T}(h:∀t∈U,Uv 150 t):∀i,i+2<=U.length->bF (Ci U i)/\sz (Ci U i)<=301:=by
 have g:∀i,i<U.length->Uv 150 (U.getD i .non):=λi hi=>by
  rw[OU,NW hi];exact h _ (RK hi)
 intro i
 induction i with
 |zero=>intro hi;exact Ub (g 0 ⋯) (g 1 ⋯)
 |succ i ih=>
  intro hi;show bF (mn _ _)/\sz (mn _ _)<=301;unfold mn
  split
  ·exact Ub (g (i+1) ⋯) (g (i+2) ⋯)
  ·exact ih ⋯
theorem fD(U:List L2.T)(k:Nat):fO U (oZ (k:Int)) none=U.drop k:=by
 unfold fO;rw[HT.sIx_nat,HT.sIx_none];obtain c|c:=Nat.le_total k U.length
 ·rw[Nat.min_eq_left c];exact RP (by rw[RC];exact OF _)
 ·rw[Nat.min_eq_right c,VF (OF _),VF c];simp
theorem O7{U:List L2.T}(h:∀t∈U,Uv 150 t)(hi:i<U.length):∃a b,U[i]?=oZ (vc a b)/\U.getD i .non=vc a b/\eZ U (i:Int)=oZ (vc a b)/\bV a b 150:=by
 obtain⟨a,b,e,n⟩:=h _ (RK hi);have e1:U[i]?=oZ (vc a b):=by rw[NW hi,e]
 exact⟨a,b,e1,by rw[OU,e1];rfl,iO e1,n⟩
theorem MC{U:List L2.T}(h:∀t∈U,Uv 150 t)(hi:(gZ (fO U (oZ 1) none) (fO U (oZ 2) none))[i]?=oZ t):∃a b c d,t = .tup [vc a b,vc c d]/\U.getD (i+1) .non=vc a b/\U.getD (i+2) .non=vc c d/\bV a b 150/\bV c d 150/\i+3<=U.length:=by
 obtain⟨u,v,h1,h2,rfl⟩:=pL hi;have e1:=fD U 1;have e2:=fD U 2;rw[show fO U (oZ 1) none=U.drop 1 from e1,SH]at h1;rw[show fO U (oZ 2) none=U.drop 2 from e2,SH]at h2;have l2:=(NV.mp h2).1;obtain⟨a,b,a1,a2,a3,a4⟩:=O7 h (i:=i+1) ⋯;obtain⟨c,d,c1,c2,c3,c4⟩:=O7 h (i:=i+2) ⋯;rw[RX 1 i]at h1;rw[RX 2 i]at h2;rw[a1]at h1;cases h1;rw[c1]at h2;cases h2;exact⟨a,b,c,d,rfl,a2,c2,a4,c4,⋯⟩
theorem Zo(U:List L2.T):(gZ (fO U (oZ 1) none) (fO U (oZ 2) none)).length=U.length-2:=by
 have e1:=fD U 1;have e2:=fD U 2;rw[jQ,show fO U (oZ 1) none=U.drop 1 from e1,show fO U (oZ 2) none=U.drop 2 from e2,RC,RC]
 lia
def MU:dG:=λas Q=>∃U:List L2.T,as=[.v (.lst U)]/\2<=U.length/\U.length<=40/\(∀t∈U,Uv 150 t)/\Q (.v (fr (Ci U (U.length-2)))) []
abbrev rO(P w K mg base):=(~~~Fn) 5 "least_dot" ["units"] (aJ K MU)
abbrev oU:VS:=top 43
theorem eR:aF ["units","least","one","other","found"] ["units"] (aC oU):=dH
theorem Cu(F:cL K "least_dot" "least_dot" oU f fd)(TX:Txt mg)(ZG: ~~~qI)(YU: ~~~kH):(~~~aT) cO 5 f fd ["units"] (aJ K MU):=by
 refine F.okU eR (λhr=>(aB (fS 1 eR.nd (fK ZG (f2 (fQ 0) (fQ 0)))) (aB (j5 PassesOwn.never rfl (Bz rfl rfl TX.n_zip (f2 (iD rfl (fv 0) (gG aA) pN) (iD rfl (fv 0) (gG aA) pN))) (dE (n:=2) rfl rfl (aQ (fG 2 eR.nd) (aQ (fG 3 eR.nd) cH))) (aB (fS 4 eR.nd (fK ZG (f2 (fv 2) (fv 3)))) (aE (cD (fP lI (fK YU (f2 (fv 4) (fv 1))) aA) (aE (fS 1 eR.nd (fv 4))) bR)))) (aE (aG (fv 1)))))) ?_;rintro as Q ⟨U,rfl,h2,h40,hU,z⟩;obtain⟨a,b,_,a2,a3,a4⟩:=O7 hU (i:=0) ⋯;obtain⟨c,d,_,c2,c3,c4⟩:=O7 hU (i:=1) ⋯;show o1 (eZ U 0) _;rw[show eZ U 0=_ from a3];show o1 (eZ U 1) _;rw[show eZ U 1=_ from c3];refine⟨a,b,c,d,150,150,rfl,a4.nv,c4.nv,∅,?_⟩;have e0:cS a b c d=Ci U 0:=by
  show _=Zw (U.getD 0 .non) (U.getD 1 .non);rw[a2,c2];rfl
 rw[e0];refine cZ (λi E=>∃(v2 v3 v4:Option L2.U),E=[⇑(.lst U),⇑(fr (Ci U i)),v2,v3,v4]) ⟨none,none,none,rfl⟩ ?_ ?_
 ·rintro i t rest E hi ⟨v2,v3,v4,rfl⟩ KK;obtain⟨a,b,c,d,rfl,a2,c2,a4,c4,hl⟩:=MC hU hi;obtain⟨l1,l2⟩:=Vm hU i ⋯;have sd:=vS a4 c4;refine⟨a,b,c,d,150,150,rfl,a4.nv,c4.nv,∅,?_⟩;refine⟨_,_,rfl,bD a4.nv c4.nv,l1,⋯,⋯,λr hr=>?_⟩;have e1:Ci U (i+1)=mn (Ci U i) (cS a b c d):=by
   show mn _ (Zw (U.getD (i+1) .non) (U.getD (i+2) .non))=_;rw[a2,c2];rfl
  show if decide (r<0)=true then _ else _
  by_cases cc:r<0
  ·rw[oY cc,oV rfl];have:Ci U (i+1)=cS a b c d:=by rw[e1];unfold mn;rw[oV (hr.1 cc)]
   refine KK _ ⟨⇑(vc a b),⇑(vc c d),⇑(fr (cS a b c d)),?_⟩;rw[this];rfl
  ·rw[oX cc,oW ∅];have:Ci U (i+1)=Ci U i:=by rw[e1];unfold mn;rw[oW (λz=>cc (hr.2 z))]
   refine KK _ ⟨⇑(vc a b),⇑(vc c d),⇑(fr (cS a b c d)),?_⟩;rw[this]
 ·rintro E ⟨v2,v3,v4,rfl⟩;rw[Zo];exact⟨rfl,z⟩
theorem Hb:∀ns:List Int,bL (bH ns)=true
 |[]=>rfl
 |_::ns=>by simp[bH,bL,noL];exact Hb ns
def Pg:dG:=λas Q=>∃(ns:List Int)(m:Nat),as=[.v (.lst (bH ns)),.v (.int (m:Int))]/\ns.length<=63/\2<=m/\m<=63/\∀cs:List Int,cs.length<=m->Q (.l (bH cs)) []
abbrev zJ(P w K mg base):=(~~~Fn) 1 "_law_folded" ["_law_script","_law_many"] (aJ K Pg)
abbrev xV:VS:=top 71
theorem pP:aF ["_law_script","_law_many","_law_cells","_law_k","_law_cell"] ["_law_script","_law_many"] (aC xV):=dH
theorem Rm(F:cL K "_law_folded" "_law_folded" xV f fd)(TX:Txt mg):(~~~aT) cO 1 f fd ["_law_script","_law_many"] (aJ K Pg):=by
 refine F.okU pP (λhr=>(aB (fS 2 pP.nd (Qy rfl rfl TX.n_list (f1 (iD rfl (fv 0) pN (gG (fv 1)))))) (aB (j5 PassesOwn.never rfl (E9 rfl rfl TX.n_enumerate (f1 (iD rfl (fv 0) (gG (fv 1)) (gG aA)))) (dE (n:=2) rfl rfl (aQ (fG 3 pP.nd) (aQ (fG 4 pP.nd) cH))) (aE (d6 (aY cF (fX (fv 2) (aP iI (fv 3) (fv 1))) (aP aZ (fv 4) (aY cF (fv 3) aA))) (Ju (fv 2) (aP iI (fv 3) (fv 1)))))) (aE (aG (fv 2)))))) ?_;rintro as Q ⟨ns,m,rfl,hl,hm2,hm,q⟩;refine cZ (λi E=>∃(cs:List Int)(v3 v4:Option U),E=[⇑(.lst (bH ns)),↑(m:Int),↥(bH cs),v3,v4]/\cs.length=(ns.take m).length)
  ⟨ns.take m,none,none,by rw[<-C8],rfl⟩ ?_ ?_
 ·rintro i x rest E hi ⟨cs,v3,v4,rfl,hc⟩ K;obtain⟨y,hy,rfl⟩:=D2 hi;obtain⟨z,rfl⟩:∃z,y=T.int z:=by
   obtain⟨z,_,e⟩:=QK.mp (Tr (NX hy));exact⟨z,e.symm⟩
  have tx:i<ns.length-m:=by
   have h1:=(NV.mp hy).1;have h2:=Tq (bH ns) m 63;simp[bH]at h2;exact OI h1 h2
  have hcl:cs.length=m:=by rw[hc,PM];lia
  have em:((i:Int)%(m:Int))=((i%m:Nat):Int):=rfl;have hj:i%m<cs.length:=by rw[hcl];exact TC _ ⋯
  have tw:eZ (bH cs) ((i:Int)%(m:Int))=oZ (T.int cs[i%m]):=by
   rw[em];exact iO (by rw[bH,NY,NW hj];rfl)
  have hix:Nk (bH cs).length ((i:Int)%(m:Int))=oZ (i%m):=by
   rw[em];unfold Nk;rw[oV ⋯,oV (by simp[bH];lia),PR]
  have hmp:(λ(_ j:Int)=>0<j) (i:Int) (m:Int):=by show(0:Int)<(m:Int);lia
  refine⟨hmp,?_⟩;show o1 (eZ (bH cs) ((i:Int)%(m:Int))) _;rw[tw];refine⟨Ha ⋯,hmp,?_⟩;show o1 (Nk (bH cs).length ((i:Int)%(m:Int))) _;rw[hix];have e:bH (cs.set (i%m) (cs[i%m]+z*((i:Int)+2)))=(bH cs).set (i%m) (.int (cs[i%m]+z*((i:Int)+2))):=by rw[bH,bH,List.map_set]
  exact K _ ⟨cs.set (i%m) (cs[i%m]+z*((i:Int)+2)),↑(i:Int),↑z,by rw[e];rfl,by rw[TR];exact hc⟩
 ·rintro E ⟨cs,v3,v4,rfl,hc⟩;have hcm:cs.length<=m:=by rw[hc,PM];lia
  exact⟨Hb _,q cs hcm⟩
abbrev jU(P w K mg base):=(~~~Fn) 1 "_law_frac" ["_law_n","_law_d"] (aJ K O2)
abbrev Dq:VS:=top 72
theorem sM:aF ["_law_n","_law_d","_law_one","_law_other"] ["_law_n","_law_d"] (aC Dq):=dH
theorem Wd(F:cL K "_law_frac" "_law_frac" Dq f fd)(TX:Txt mg):(~~~aT) cO 1 f fd ["_law_n","_law_d"] (aJ K O2):=by
 refine F.okU sM (λhr=>(aB (gH (i:=2) (j:=3) rfl sM.nd rfl rfl ∅ rfl rfl (f2 (sZ rfl TX.n_abs (f1 (fv 0))) (sZ rfl TX.n_abs (f1 (fv 1)))) rfl) (aB (nQ PassesOwn.never (fP Al (fv 3) aA) (aE (gH (i:=2) (j:=3) rfl sM.nd rfl rfl ∅ rfl rfl (f2 (fv 3) (aP iI (fv 2) (fv 3))) rfl))) (aB (fS 2 sM.nd (aP aZ (fv 2) (nN (fP Al (fv 1) aA) aA (eV aA)))) (aE (aG (aM (f2 (aP dF (fv 0) (fv 2)) (aP dF (fv 1) (fv 2)))))))))) ?_;rintro as Q ⟨n,d,rfl,hd,hb,q⟩;refine⟨λm E=>∃(x y:Nat),E=[↑n,↑d,↑x,↑y]/\m=y/\PJ x y=PJ n.natAbs d.natAbs,⟨_,_,_,rfl,rfl,rfl⟩,?_⟩;rintro m E ⟨x,y,rfl,rfl,hg⟩;show if decide ((0:Int)<(m:Int))=true then _ else _
 by_cases hy:(0:Int)<(m:Int)
 ·rw[oY hy,oV rfl];exact⟨hy,x%m,TC _ ⋯,m,x%m,rfl,rfl,by rw[Gp];exact hg⟩
 ·rw[oX hy,oW ∅];obtain rfl:m=0:=⋯
  rw[Nat.gcd_zero_right]at hg;subst hg;have dn:((PJ n.natAbs d.natAbs:Nat):Int)∣n:=RD.mpr (SM _ _);have dd:((PJ n.natAbs d.natAbs:Nat):Int)∣d:=RD.mpr (SI _ _);have g0:((PJ n.natAbs d.natAbs:Nat):Int)≠0:=(uK (i:=0) (n:=n) hd hb).1;have aN:∀{g m:Int},g≠0->g∣m->m.fdiv (-g)=(-m)/g:=λ{g m}h0 hm=>by
   obtain⟨k,rfl⟩:=hm;have e1:g*k=(-g)*(-k):=by grind
   have e2:-(g*k)=g*(-k):=by grind
   rw[e2,QV _ h0,e1,US _ ⋯]
  show if decide (0<d)=true then _ else _
  by_cases h:0<d
  ·rw[oY h,oV rfl];have e1:((PJ n.natAbs d.natAbs:Nat):Int)*1=((PJ n.natAbs d.natAbs:Nat):Int):=Int.mul_one _;refine⟨Ha ∅,?_⟩;rw[e1];refine⟨uK hd hb,uK hd hb,rfl,?_⟩;unfold fY sF nW at q;rw[oV h,oV h,<-Na,<-Na]at q;exact q
  ·rw[oX h,oW ∅];have e1:((PJ n.natAbs d.natAbs:Nat):Int) * -1 = -((PJ n.natAbs d.natAbs:Nat):Int):=⋯
   refine⟨Ha ∅,?_⟩;rw[e1];have cz:∀i:Int,zG i (-((PJ n.natAbs d.natAbs:Nat):Int)):=λi=>⟨⋯,by rw[TB];exact(uK (i:=i) (n:=n) hd hb).2⟩;refine⟨cz _,cz _,rfl,?_⟩;unfold fY sF nW at q;rw[oW h,oW h,<-aN g0 dn,<-aN g0 dd]at q;exact q
abbrev Mi(P w K mg base):=(~~~Fn) 2 "_law_sum" oH (aJ K (vA aV))
abbrev Li:VS:=top 73
theorem N1:aF oH oH (aC Li):=dH
theorem G9(F:cL K "_law_sum" "_law_sum" Li f fd)(TX:Txt mg)(YN: ~~~jU):(~~~aT) cO 2 f fd oH (aJ K (vA aV)):=by
 refine F.okU N1 (λhr=>(aE (aG (fK YN (f2 (aY cF (aP aZ (fQ 0) (fQ 1)) (aP aZ (fQ 1) (fQ 0))) (aP aZ (fQ 0) (fQ 1))))))) ?_;rintro as Q ⟨x,y,rfl,hx,hy,hs,q⟩;have hd:(x.2*y.2).natAbs<2^8000:=tK (bI (bW x) (bW y)) ⋯;exact⟨j6 (e:=7900) (pl (dN x) ⋯) (pl (bW y) ⋯) ∅,j6 (e:=7900) (pl (dN y) ⋯) (pl (bW x) ⋯) ∅,j6 (e:=7900) (pl (bW x) ⋯) (pl (bW y) ⋯) ∅,_,_,rfl,d9 hx hy,hd,rfl,q⟩
abbrev vZ(P w K mg base):=(~~~Fn) 2 "_law_less" oH (aJ K (vA aS))
abbrev Ds:VS:=top 75
theorem Yb:aF oH oH (aC Ds):=dH
theorem Wf(F:cL K "_law_less" "_law_less" Ds f fd)(TX:Txt mg)(YN: ~~~jU):(~~~aT) cO 2 f fd oH (aJ K (vA aS)):=by
 refine F.okU Yb (λhr=>(aE (aG (fK YN (f2 (aY iJ (aP aZ (fQ 0) (fQ 1)) (aP aZ (fQ 1) (fQ 0))) (aP aZ (fQ 0) (fQ 1))))))) ?_;rintro as Q ⟨x,y,rfl,hx,hy,hs,q⟩;have hd:(x.2*y.2).natAbs<2^8000:=tK (bI (bW x) (bW y)) ⋯;exact⟨j6 (e:=7900) (pl (dN x) ⋯) (pl (bW y) ⋯) ∅,j6 (e:=7900) (pl (dN y) ⋯) (pl (bW x) ⋯) ∅,j6 (e:=7900) (pl (bW x) ⋯) (pl (bW y) ⋯) ∅,_,_,rfl,d9 hx hy,hd,rfl,q⟩
abbrev kI(P w K mg base):=(~~~Fn) 2 "_law_product" oH (aJ K (vA aH))
abbrev qZ:VS:=top 74
theorem Ib:aF oH oH (aC qZ):=dH
theorem Ho(F:cL K "_law_product" "_law_product" qZ f fd)(TX:Txt mg)(YN: ~~~jU):(~~~aT) cO 2 f fd oH (aJ K (vA aH)):=by
 refine F.okU Ib (λhr=>(aE (aG (fK YN (f2 (aP aZ (fQ 0) (fQ 1)) (aP aZ (fQ 0) (fQ 1))))))) ?_;rintro as Q ⟨x,y,rfl,hx,hy,hs,q⟩;have hd:(x.2*y.2).natAbs<2^8000:=tK (bI (bW x) (bW y)) ⋯;exact⟨j6 (e:=7900) (pl (dN x) ⋯) (pl (dN y) ⋯) ∅,j6 (e:=7900) (pl (bW x) ⋯) (pl (bW y) ⋯) ∅,_,_,rfl,d9 hx hy,hd,rfl,q⟩
abbrev vB(P w K mg base):=(~~~Fn) 3 "_law_add" oH (aJ K Po)
abbrev Lg:VS:=top 76
theorem M9:aF oH oH (aC Lg):=dH
theorem G7(F:cL K "_law_add" "_law_add" Lg f fd)(TX:Txt mg)(jj: ~~~Mi):(~~~aT) cO 3 f fd oH (aJ K Po):=by
 refine F.okU M9 (λhr=>(aE (aG (aM (f2 (fK jj (f2 (fQ 0) (fQ 1))) (fK jj (f2 (fQ 0) (fQ 1)))))))) ?_;rintro as Q ⟨x,y,p,q,e,f,rfl,h,k,hs,z⟩;have:=h.sx;have:=h.sy;have:=k.sx;have:=k.sy;exact⟨_,_,rfl,h.x,k.x,⋯,_,_,rfl,h.y,k.y,⋯,rfl,z⟩
abbrev Bg(P w K mg base):=(~~~Fn) 3 "_law_sub" oH (aJ K O3)
abbrev Lh:VS:=top 77
theorem N0:aF oH oH (aC Lh):=dH
theorem G8(F:cL K "_law_sub" "_law_sub" Lh f fd)(TX:Txt mg)(aj: ~~~vZ):(~~~aT) cO 3 f fd oH (aJ K O3):=by
 refine F.okU N0 (λhr=>(aE (aG (aM (f2 (fK aj (f2 (fQ 0) (fQ 1))) (fK aj (f2 (fQ 0) (fQ 1)))))))) ?_;rintro as Q ⟨x,y,p,q,e,f,rfl,h,k,hs,z⟩;have:=h.sx;have:=h.sy;have:=k.sx;have:=k.sy;exact⟨_,_,rfl,h.x,k.x,⋯,_,_,rfl,h.y,k.y,⋯,rfl,z⟩
abbrev fA(P w K mg base):=(~~~Fn) 3 "_law_scaled_by" ["_law_vector","_law_share"] (aJ K vT)
abbrev mI:VS:=top 78
theorem zC:aF ["_law_vector","_law_share"] ["_law_vector","_law_share"] (aC mI):=dH
theorem y9(F:cL K "_law_scaled_by" "_law_scaled_by" mI f fd)(TX:Txt mg)(YQ: ~~~kI):(~~~aT) cO 3 f fd ["_law_vector","_law_share"] (aJ K vT):=by
 refine F.okU zC (λhr=>(aE (aG (aM (f2 (fK YQ (f2 (fQ 0) (fv 1))) (fK YQ (f2 (fQ 0) (fv 1)))))))) ?_;rintro as Q ⟨x,y,b,e,rfl,h,hb,hs,q⟩;have:=h.sx;have:=h.sy;exact⟨_,_,rfl,h.x,hb,⋯,_,_,rfl,h.y,hb,⋯,rfl,q⟩
abbrev zK(P w K mg base):=(~~~Fn) 3 "_law_cross" oH (aJ K (DN aX))
abbrev xX:VS:=top 79
theorem Sk:aF oH oH (aC xX):=dH
theorem Rn(F:cL K "_law_cross" "_law_cross" xX f fd)(TX:Txt mg)(aj: ~~~vZ)(YQ: ~~~kI):(~~~aT) cO 3 f fd oH (aJ K (DN aX)):=by
 refine F.okU Sk (λhr=>(aE (aG (fK aj (f2 (fK YQ (f2 (fQ 0) (fQ 1))) (fK YQ (f2 (fQ 0) (fQ 1)))))))) ?_;rintro as Q ⟨x,y,x',y',e,f,rfl,h,k,he,q⟩;have:=h.sx;have:=h.sy;have:=k.sx;have:=k.sy;have n1:=aK h.x k.y;have n2:=aK h.y k.x;have s1:=cC h.x k.y;have s2:=cC h.y k.x;exact⟨_,_,rfl,h.x,k.y,⋯,_,_,rfl,h.y,k.x,⋯,_,_,rfl,n1,n2,⋯,rfl,q⟩
abbrev uJ(P w K mg base):=(~~~Fn) 1 "_law_quarter" ["_law_vector"] (aJ K Pj)
abbrev q9:VS:=top 81
theorem Ic:aF ["_law_vector"] ["_law_vector"] (aC q9):=dH
theorem Hq(F:cL K "_law_quarter" "_law_quarter" q9 f fd)(TX:Txt mg):(~~~aT) cO 1 f fd ["_law_vector"] (aJ K Pj):=by
 refine F.okU Ic (λhr=>(aE (aG (aM (f2 (aM (f2 (eV (fX (fQ 0) aA)) (fX (fQ 0) aA))) (fQ 0)))))) ?_;rintro as Q ⟨x,y,rfl,q⟩;exact⟨rfl,q⟩
def CY(k:Nat):Fr×Fr:=match k with
 |0=>((1,1),(0,1))|1=>((4,5),(3,5))|2=>((3,5),(4,5))|3=>((12,13),(5,13))|_=>((5,13),(12,13))
def Sh:Nat->Fr×Fr->Fr×Fr
 |0,p=>p
 |n+1,p=>let q:=Sh n p;(aN q.2,q.1)
def un(k:Nat):Fr×Fr:=Sh (k/5%4) (CY (k%5))
def NS(k:Nat):L2.T:=vc (un k).1 (un k).2
theorem Py(k:Nat)(h:k<20):bV (un k).1 (un k).2 4:=by
 have n0:∀j,j<5->bV (CY j).1 (CY j).2 4:=λj hj=>by
  have:j=0\/j=1\/j=2\/j=3\/j=4:=⋯
  have mk:∀a b c:Int,0<c->PJ a.natAbs c.natAbs=1->PJ b.natAbs c.natAbs=1->a.natAbs<2^4->b.natAbs<2^4->c.natAbs<2^4->a*a+b*b=c*c->bV (a,c) (b,c) 4:=λa b c c0 g1 g2 a4 b4 c4 e=>by
   refine⟨⟨⟨c0,g1⟩,⟨c0,g2⟩,pI a4 c4 ∅,pI b4 c4 ∅⟩,?_⟩;show(a:Rat)/(c:Rat)*((a:Rat)/(c:Rat))+(b:Rat)/(c:Rat)*((b:Rat)/(c:Rat))=1;have nz:(c:Rat)≠0:=by exact_mod_cast (show c≠0 by lia)
   have e':(a:Rat)*a+b*b=c*c:=by exact_mod_cast e
   grind
  obtain rfl|rfl|rfl|rfl|rfl:=this
  ·exact mk 1 0 1 ∅ ∅ ∅ ∅ ∅ ∅ ∅
  ·exact mk 4 3 5 ∅ ∅ ∅ ∅ ∅ ∅ ∅
  ·exact mk 3 4 5 ∅ ∅ ∅ ∅ ∅ ∅ ∅
  ·exact mk 12 5 13 ∅ ∅ ∅ ∅ ∅ ∅ ∅
  ·exact mk 5 12 13 ∅ ∅ ∅ ∅ ∅ ∅ ∅
 have nr:∀n p,bV p.1 p.2 4->bV (Sh n p).1 (Sh n p).2 4:=λn p hp=>by
  induction n with
  |zero=>exact hp
  |succ n ih=>exact ih.left
 exact nr _ _ (n0 _ (TC _ ∅))
theorem IJ:∀j k:Fin 20,j≠k->un j.1≠un k.1:=by decide +kernel
def tUnitOf':dG:=λas Q=>∃k:Nat,as=[.v (.int (k:Int))]/\k<20/\Q (.v (NS k)) []
abbrev nG(P w K mg base):=(~~~Fn) 2 "_law_unit_at" ["_law_k"] (aJ K tUnitOf')
abbrev rA:VS:=top 82
theorem i7:aF ["_law_k","_law_some","_law_found","_law_turn"] ["_law_k"] (aC rA):=dH
theorem Hr(F:cL K "_law_unit_at" "_law_unit_at" rA f fd)(TX:Txt mg)(cn: ~~~uJ):(~~~aT) cO 2 f fd ["_law_k"] (aJ K tUnitOf'):=by
 refine F.okU i7 (λhr=>(aB (fS 1 i7.nd (cV (fc (aM (f2 (aM (f2 aA aA)) (aM (f2 aA aA)))) (f4 (aM (f2 (aM (f2 aA aA)) (aM (f2 aA aA)))) (aM (f2 (aM (f2 aA aA)) (aM (f2 aA aA)))) (aM (f2 (aM (f2 aA aA)) (aM (f2 aA aA)))) (aM (f2 (aM (f2 aA aA)) (aM (f2 aA aA)))))))) (aB (fS 2 i7.nd (fX (fv 1) (aP iI (fv 0) aA))) (aB (j5 PassesOwn.never rfl (eJ rfl TX.n_range (f1 (aP iI (aP dF (fv 0) aA) aA))) (fG 3 i7.nd) (aE (fS 2 i7.nd (fK cn (f1 (fv 2)))))) (aE (aG (fv 2))))))) ?_;rintro as Q ⟨k,rfl,hk,q⟩;refine⟨by show(0:Int)<5;decide,?_⟩;have at0:∀j:Nat,j<5->eZ [L2.T.tup [.tup [.int 1,.int 1],.tup [.int 0,.int 1]],.tup [.tup [.int 4,.int 5],.tup [.int 3,.int 5]],.tup [.tup [.int 3,.int 5],.tup [.int 4,.int 5]],.tup [.tup [.int 12,.int 13],.tup [.int 5,.int 13]],.tup [.tup [.int 5,.int 13],.tup [.int 12,.int 13]]] (j:Int)=oZ (vc (CY j).1 (CY j).2):=λj hj=>by
  have:j=0\/j=1\/j=2\/j=3\/j=4:=⋯
  rcases this with rfl|rfl|rfl|rfl|rfl<;>rfl
 have em:((k:Int)%5)=((k%5:Nat):Int):=rfl;show o1 (eZ [L2.T.tup [.tup [.int 1,.int 1],.tup [.int 0,.int 1]],.tup [.tup [.int 4,.int 5],.tup [.int 3,.int 5]],.tup [.tup [.int 3,.int 5],.tup [.int 4,.int 5]],.tup [.tup [.int 12,.int 13],.tup [.int 5,.int 13]],.tup [.tup [.int 5,.int 13],.tup [.int 12,.int 13]]] ((k:Int)%5)) _;rw[em,at0 _ (TC _ ∅)];have ek:((k:Int).fdiv 5%4)=((k/5%4:Nat):Int):=by
  rw[QZ _ ∅]
  lia
 refine⟨⟨∅,∅⟩,by show(0:Int)<4;decide,?_⟩;rw[ek];refine⟨⟨⋯,⋯⟩,?_⟩;rw[PR];refine cZ (λi E=>∃v1 v3:Option U,E=[↑(k:Int),v1,⇑(vc (Sh i (CY (k%5))).1 (Sh i (CY (k%5))).2),v3]) ⟨_,_,rfl⟩ ?_ ?_
 ·rintro i t rest E hi ⟨v1,v3,rfl⟩ KK;exact⟨_,_,rfl,KK _ ⟨_,_,rfl⟩⟩
 ·rintro E ⟨v1,v3,rfl⟩;have el:(g9 0 (k/5%4)).length=k/5%4:=by simp[g9]
  rw[el];exact⟨rfl,q⟩
inductive Mv where
 |side (x y m:Fr)|arc (x y u v r:Fr) (l:Bool)
def kS:Mv->L2.T
 |.side x y m=>.tup [.str "side",vc x y,fr m]
 |.arc x y u v r l=>.tup [.str "arc",vc x y,vc u v,fr r,.str (sQ l)]
def Dv(B:Nat)(x:Fr):Prop:=∃k:Int,val x*65=(k:Rat)/\k.natAbs<=B
def Wh(W:Nat)(x:Fr):Prop:=∃k:Int,val x=(k:Rat)/\k.natAbs<=W
theorem Dv.neg(n:bF x)(h:Dv B x):Dv B (aN x):=by
 obtain⟨k,e,b⟩:=h;exact⟨-k,by rw[bC n];push_cast;grind,⋯⟩
theorem Dv.up(h:Dv B x)(k:B<=C):Dv C x:=let⟨j,e,b⟩:=h;⟨j,e,⋯⟩
theorem Dv.add(nx:bF x)(ny:bF y)(h:Dv B x)(k:Dv C y):Dv (B+C) (aV x y):=by
 obtain⟨i,e1,b1⟩:=h;obtain⟨j,e2,b2⟩:=k;exact⟨i+j,by rw[a7 nx ny];push_cast;grind,⋯⟩
theorem Dv.sub(nx:bF x)(ny:bF y)(h:Dv B x)(k:Dv C y):Dv (B+C) (aS x y):=by
 obtain⟨i,e1,b1⟩:=h;obtain⟨j,e2,b2⟩:=k;exact⟨i-j,by rw[bQ nx ny];push_cast;grind,⋯⟩
theorem Dv.mul(nx:bF x)(ny:bF y)(h:Dv B x)(k:Wh W y):Dv (B*W) (aH x y):=by
 obtain⟨i,e1,b1⟩:=h;obtain⟨j,e2,b2⟩:=k;refine⟨i*j,by rw[aR nx ny];push_cast;grind,?_⟩;rw[PN];exact TH b1 b2
theorem Px(k:Nat)(h:k<20):Dv 65 (un k).1/\Dv 65 (un k).2:=by
 have eN:∀k:Fin 20,(65%(un k.1).1.2=0/\(un k.1).1.1.natAbs<=(un k.1).1.2.natAbs/\0<(un k.1).1.2)/\(65%(un k.1).2.2=0/\(un k.1).2.1.natAbs<=(un k.1).2.2.natAbs/\0<(un k.1).2.2):=by decide +kernel
 have mk:∀x:Fr,(65%x.2=0/\x.1.natAbs<=x.2.natAbs/\0<x.2)->Dv 65 x:=λx zZ=>by
  obtain⟨h1,h2,h3⟩:=zZ;obtain⟨c,hc⟩:x.2∣65:=Int.dvd_of_emod_eq_zero h1;have nz:(x.2:Rat)≠0:=by exact_mod_cast (show x.2≠0 by lia)
  have iw:(65:Rat)=(x.2:Rat)*(c:Rat):=by exact_mod_cast hc
  refine⟨x.1*c,?_,?_⟩
  ·show(x.1:Rat)/(x.2:Rat)*65=_;rw[iw];push_cast;grind
  ·rw[PN];have e:x.2.natAbs*c.natAbs=65:=by rw[<-PN,<-hc];rfl
   exact PQ (Nat.mul_le_mul_right _ h2) ⋯
 exact⟨mk _ (eN ⟨k,h⟩).1,mk _ (eN ⟨k,h⟩).2⟩
theorem Zm{k:Int}(h:k.natAbs<=W):Wh W (k,1):=⟨k,iW k,h⟩
def fT:Mv->Prop
 |.side x y m=>bV x y 4/\bF m/\sz m<=4/\0<val m/\Dv 65 x/\Dv 65 y/\Wh 11 m
 |.arc x y u v r _=>bV x y 4/\bV u v 4/\¬(x=u/\y=v)/\bF r/\sz r<=3/\0<val r/\(Dv 65 x/\Dv 65 y)/\(Dv 65 u/\Dv 65 v)/\Wh 6 r
theorem AM:∀m:Mv,noL (kS m)=true
 |.side _ _ _=>rfl
 |.arc _ _ _ _ _ _=>rfl
theorem n9:∀ms:List Mv,bL (ms.map kS)=true
 |[]=>rfl
 |m::ms=>by show(noL (kS m)&&bL (ms.map kS))=true;rw[AM,n9 ms];rfl
theorem Ja{k:Int}(h1:1<=k)(he:k.natAbs<2^e)(e0:0<e):bF (k,1)/\sz (k,1)<=e/\0<val (k,1):=by
 refine⟨aO k,pI he (show(1:Int).natAbs<2^e from Nat.one_lt_two_pow ⋯) e0,?_⟩;rw[iW]
 exact_mod_cast (show 0<k by lia)
theorem tG(h:bF x):aH x (-1,1)=aN x:=by
 have n1:bF ((-1,1):Fr):=aO (-1);refine b8 (aK h n1) (eQ h) ?_;rw[aR h n1,bC h,iW];grind
def JK:Mv->Mv
 |.side x y m=>.side (aN x) (aN y) m
 |.arc x y u v r l=>.arc (aN x) (aN y) (aN u) (aN v) r l
theorem Gm(h:aN x=aN y):x=y:=by
 have h1:=congrArg Prod.fst h;have h2:=congrArg Prod.snd h;simp only[aN]at h1 h2;exact Prod.ext ⋯ h2
theorem fT.back:∀{m:Mv},fT m->fT (JK m)
 |.side _ _ _,⟨u,a,b,c,g1,g2,w⟩=>⟨u.neg,a,b,c,g1.neg u.nv.x,g2.neg u.nv.y,w⟩
 |.arc _ _ _ _ _ _,⟨u,v,ne,a,b,c,g,h,w⟩=>⟨u.neg,v.neg,λz=>ne ⟨Gm z.1,Gm z.2⟩,a,b,c,⟨g.1.neg u.nv.x,g.2.neg u.nv.y⟩,⟨h.1.neg v.nv.x,h.2.neg v.nv.y⟩,w⟩
theorem lH(k:Nv x y f)(hb:bF b)(hs:sz b<=e):Nv (aH x b) (aH y b) (f+e):=by
 have:=k.sx;have:=k.sy;have m1:=cC k.x hb;have m2:=cC k.y hb;exact⟨aK k.x hb,aK k.y hb,⋯,⋯⟩
theorem Cq(h:Nv p q e)(k:Nv x y f):Nv (aS p x) (aS q y) (e+f+1):=by
 have:=h.sx;have:=h.sy;have:=k.sx;have:=k.sy;have m1:=mT h.x k.x;have m2:=mT h.y k.y;exact⟨dB h.x k.x,dB h.y k.y,⋯,⋯⟩
theorem Ki(h:Nv p q e)(k:Nv x y f):Nv (aV p x) (aV q y) (e+f+1):=by
 have:=h.sx;have:=h.sy;have:=k.sx;have:=k.sy;have m1:=gV h.x k.x;have m2:=gV h.y k.y;exact⟨cI h.x k.x,cI h.y k.y,⋯,⋯⟩
def rK(a b:Fr):Mv->Pc
 |.side x y m=>.side (aV a (aH x m)) (aV b (aH y m))
 |.arc x y u v r l=>.arc (aS a (aH x r)) (aS b (aH y r)) (aV (aS a (aH x r)) (aH u r)) (aV (aS b (aH y r)) (aH v r)) l
theorem Kf(h:Nv a b e):∀{m:Mv},fT m->qP (e+16) a b (rK a b m)
 |.side x y m,⟨u,nm,sm,pm,_⟩=>by
  have s:=lH u.nv nm sm;refine⟨(Ki h s).up ⋯,val m,pm,?_⟩;unfold Js;rw[a7 h.x s.x,a7 h.y s.y,aR u.nv.x nm,aR u.nv.y nm];have:=u.one;have e1:(val a+val x*val m-val a)*(val a+val x*val m-val a)+(val b+val y*val m-val b)*(val b+val y*val m-val b)=(val x*val x+val y*val y)*(val m*val m):=by grind
  rw[e1,this];grind
 |.arc x y u v r l,⟨uu,uv,ne,nr,sr,pr,_⟩=>by
  have s:=lH uu.nv nr sr;have t:=lH uv.nv nr sr;have m:=Cq h s;have z:=Ki m t;have o1:=uu.one;have o2:=uv.one;refine⟨m.up ⋯,z.up ⋯,λc=>?_,val r,pr,?_,?_⟩
  ·have c1:=congrArg val c.1;have c2:=congrArg val c.2;rw[a7 m.x t.x,bQ h.x s.x,aR uu.nv.x nr,aR uv.nv.x nr]at c1;rw[a7 m.y t.y,bQ h.y s.y,aR uu.nv.y nr,aR uv.nv.y nr]at c2;have r0:val r≠0:=by grind
   have e1:val x=val u:=by
    have:(val u-val x)*val r=0:=by grind
    rcases Rat.mul_eq_zero.mp this with q|q<;>grind
   have e2:val y=val v:=by
    have:(val v-val y)*val r=0:=by grind
    rcases Rat.mul_eq_zero.mp this with q|q<;>grind
   exact ne ⟨b8 uu.nv.x uv.nv.x e1,b8 uu.nv.y uv.nv.y e2⟩
  ·unfold Js;rw[bQ h.x s.x,bQ h.y s.y,aR uu.nv.x nr,aR uu.nv.y nr];have e1:(val a-(val a-val x*val r))*(val a-(val a-val x*val r))+(val b-(val b-val y*val r))*(val b-(val b-val y*val r))=(val x*val x+val y*val y)*(val r*val r):=by grind
   rw[e1,o1];grind
  ·unfold Js;rw[a7 m.x t.x,a7 m.y t.y,bQ h.x s.x,bQ h.y s.y,aR uu.nv.x nr,aR uu.nv.y nr,aR uv.nv.x nr,aR uv.nv.y nr];have e1:(val a-val x*val r+val u*val r-(val a-val x*val r))*(val a-val x*val r+val u*val r-(val a-val x*val r))+(val b-val y*val r+val v*val r-(val b-val y*val r))*(val b-val y*val r+val v*val r-(val b-val y*val r))=(val u*val u+val v*val v)*(val r*val r):=by grind
   rw[e1,o2];grind
theorem S5{D k:Int}(n:bF x)(hD:0<D)(q:val x*(D:Rat)=(k:Rat))(b1:D.natAbs<2^e)(b2:k.natAbs<2^e)(e0:0<e):sz x<=e:=by
 have v:=V4 n;have q:x.1*D=k*x.2:=by
  have:((x.1:Rat))*(D:Rat)=(k:Rat)*(x.2:Rat):=by rw[<-v,<-q];grind
  exact_mod_cast this
 have d1:=n.d;have q':x.1.natAbs*D.natAbs=k.natAbs*x.2.natAbs:=by rw[<-PN,<-PN,q]
 have dv:x.2.natAbs∣D.natAbs:=by
  have:x.2.natAbs∣x.1.natAbs*D.natAbs:=⟨k.natAbs,by rw[q'];exact Nat.mul_comm _ _⟩;exact(SN.symm n.g).dvd_of_dvd_mul_left this
 have le:=Nat.le_of_dvd ⋯ dv;have l1:x.1.natAbs<=k.natAbs:=by
  obtain c|c:=OY k.natAbs x.1.natAbs
  ·have a1:(k.natAbs+1)*D.natAbs<=x.1.natAbs*D.natAbs:=Nat.mul_le_mul_right _ c;have a2:k.natAbs*x.2.natAbs<=k.natAbs*D.natAbs:=Nat.mul_le_mul_left _ le;have a3:(k.natAbs+1)*D.natAbs=k.natAbs*D.natAbs+D.natAbs:=by rw[Nat.add_mul,Nat.one_mul]
   have a4:0<D.natAbs:=⋯
   lia
  ·exact c
 exact pI (PL l1 b2) (PL le b1) e0
theorem Dv.sz(n:bF x)(h:Dv B x)(hB:B<2^14):sz x<=14:=by
 obtain⟨k,e,b⟩:=h;exact S5 (D:=65) (k:=k) n ∅ (by rw[<-e];norm_cast) ∅ ⋯ ∅
def St(a b:Fr):Prop:=Nv a b 3/\Dv 260 a/\Dv 260 b
theorem AL(h:Nv a b e)(da:Dv B a)(db:Dv B b)(hB:B+800<2^14):∀{m:Mv},fT m->qP 14 a b (rK a b m)/\Dv (B+780) (rK a b m).px/\Dv (B+780) (rK a b m).py
 |.side x y m,ok=>by
  obtain⟨u,nm,sm,pm,gx,gy,w⟩:=id ok;have o:=Kf h ok;have s:=lH u.nv nm sm;have d1:=(da.add h.x s.x (gx.mul u.nv.x nm w)).up (show _<=B+780 by lia);have d2:=(db.add h.y s.y (gy.mul u.nv.y nm w)).up (show _<=B+780 by lia);exact⟨⟨⟨o.1.x,o.1.y,d1.sz o.1.x ⋯,d2.sz o.1.y ⋯⟩,o.2⟩,d1,d2⟩
 |.arc x y u v r l,ok=>by
  obtain⟨uu,uv,ne,nr,sr,pr,gx,gu,w⟩:=id ok;have o:=Kf h ok;have s:=lH uu.nv nr sr;have t:=lH uv.nv nr sr;have m:=Cq h s;have c1:=da.sub h.x s.x (gx.1.mul uu.nv.x nr w);have c2:=db.sub h.y s.y (gx.2.mul uu.nv.y nr w);have d1:=(c1.add m.x t.x (gu.1.mul uv.nv.x nr w)).up (show _<=B+780 by lia);have d2:=(c2.add m.y t.y (gu.2.mul uv.nv.y nr w)).up (show _<=B+780 by lia);exact⟨⟨⟨o.1.x,o.1.y,c1.sz o.1.x ⋯,c2.sz o.1.y ⋯⟩,⟨o.2.1.x,o.2.1.y,d1.sz o.2.1.x ⋯,d2.sz o.2.1.y ⋯⟩,o.2.2⟩,d1,d2⟩
def T9:dG:=λas Q=>∃(xs:List L2.T)(n:Int)(w:Bool),as=[.b xs,.v (.bl w)]/\Bx xs n/\n<=900000/\∀m ys,fT m->Bx ys (n+5)->bL ys=true->Q (.v (kS m)) ys
abbrev lW(P w K mg base):=(~~~Fn) 3 "_law_one_move" ["_law_box_here","_law_arcs"] (aJ K T9)
abbrev o8:VS:=top 83
theorem jL:aF ["_law_box_here","_law_arcs","_law_turn","_law_kind","_law_many","_law_first","_law_more"] ["_law_box_here","_law_arcs"] (aC o8):=dH
theorem Cy(F:cL K "_law_one_move" "_law_one_move" o8 f fd)(TX:Txt mg)(YA: ~~~kJ)(YX: ~~~nG):(~~~aT) cO 3 f fd ["_law_box_here","_law_arcs"] (aJ K T9):=by
 refine F.okU jL (λhr=>(aB (gH (i:=3) (j:=4) rfl jL.nd rfl rfl ∅ rfl rfl (f2 (fB YA (f2 (fv 0) aA)) (aY cF aA (fB YA (f2 (fv 0) aA)))) rfl) (aB (gH (i:=5) (j:=6) rfl jL.nd rfl rfl ∅ rfl rfl (f2 (fB YA (f2 (fv 0) aA)) (aY cF aA (fB YA (f2 (fv 0) aA)))) rfl) (aB (cD (F1 (Ng (Uu (iF (fv 1))) (Cc (fP Al (fv 3) aA)))) (aE (aG (aM (f3 bG (fK YX (f1 (fv 5))) (aM (f2 (fv 4) aA)))))) bR) (aB (fS 2 jL.nd (fX (cV (f2 bG bG)) (fB YA (f2 (fv 0) aA)))) (aE (aG (aM (fc bG (f4 (fK YX (f1 (fv 5))) (fK YX (f1 (aP iI (aY cF (fv 5) (fv 6)) aA))) (aM (f2 (aY cF aA (aP dF (fv 4) aA)) aA)) (fv 2))))))))))) ?_;rintro as Q ⟨xs,n,w,rfl,hB,hn,q⟩;refine⟨xs,3,n,rfl,hB,⋯,∅,∅,λkd y1 k0 k1 b1=>?_⟩;refine⟨y1,11,n+1,rfl,b1,⋯,∅,∅,λmn y2 m0 m1 b2=>?_⟩;refine⟨y2,20,n+1+1,rfl,b2,⋯,∅,∅,λfs y3 f0 f1 b3=>?_⟩;refine⟨y3,19,n+1+1+1,rfl,b3,⋯,∅,∅,λmo y4 o0 o1' b4=>?_⟩;obtain⟨f,rfl⟩:∃f:Nat,fs=(f:Int):=⟨fs.toNat,⋯⟩;have hf:f<20:=⋯
 obtain⟨w1,w2,w3⟩:=Ja (k:=1+mn) (e:=4) ⋯ ⋯ ∅;obtain⟨A,B,C,rfl,_⟩:=id b4;have one:Q (.v (kS (.side (un f).1 (un f).2 (1+mn,1)))) [.int A,.int B,.int C]:=q (.side (un f).1 (un f).2 (1+mn,1)) _ ⟨Py f hf,w1,w2,w3,(Px f hf).1,(Px f hf).2,Zm ⋯⟩ (b4.mono ⋯) rfl;cases w with
 |false=>
  exact⟨f,rfl,hf,rfl,one⟩
 |true=>
  show if decide (0<kd)=true then _ else _
  by_cases c:0<kd
  ·rw[oY c,oV rfl];exact⟨f,rfl,hf,rfl,one⟩
  ·rw[oX c,oW ∅];refine⟨_,2,n+1+1+1+1,rfl,b4,⋯,∅,∅,λtn y5 t0 t1 b5=>?_⟩;obtain⟨A,B,C,rfl,_⟩:=id b5;obtain⟨l,hl⟩:∃l,eZ [L2.T.str (OW "left"),.str (OW "right")] tn=oZ (.str (sQ l)):=by
    have:tn=0\/tn=1:=⋯
    obtain rfl|rfl:=this
    ·exact⟨true,rfl⟩
    ·exact⟨false,rfl⟩
   show o1 (eZ [L2.T.str (OW "left"),.str (OW "right")] tn) _;rw[hl];refine⟨f,rfl,hf,by show(0:Int)<20;decide,?_⟩;obtain⟨g,hg⟩:∃g:Nat,((f:Int)+(1+mo))%20=(g:Int):=⟨(((f:Int)+(1+mo))%20).toNat,⋯⟩;have uf:g<20:=⋯
   have hgf:f≠g:=⋯
   rw[hg];refine⟨g,rfl,uf,⟨∅,∅⟩,?_⟩;have er:(1+mn).fdiv 2=(1+mn)/2:=QZ _ ∅;rw[er];obtain⟨r1,r2,r3⟩:=Ja (k:=1+(1+mn)/2) (e:=3) ⋯ ⋯ ∅;exact⟨rfl,q (.arc (un f).1 (un f).2 (un g).1 (un g).2 (1+(1+mn)/2,1) l) _ ⟨Py f hf,Py g uf,λz=>IJ ⟨f,hf⟩ ⟨g,uf⟩ (by simpa using hgf) (Prod.ext z.1 z.2),r1,r2,r3,Px f hf,Px g uf,Zm ⋯⟩ (b5.mono ⋯) rfl⟩
def U1:dG:=λas Q=>∃m:Mv,as=[.v (kS m)]/\fT m/\Q (.v (kS (JK m))) []
abbrev Eu(P w K mg base):=(~~~Fn) 4 "_law_back" ["_law_move"] (aJ K U1)
abbrev Dn:VS:=top 85
theorem Xz:aF ["_law_move"] ["_law_move"] (aC Dn):=dH
theorem Wb(F:cL K "_law_back" "_law_back" Dn f fd)(TX:Txt mg)(XY: ~~~fA):(~~~aT) cO 4 f fd ["_law_move"] (aJ K U1):=by
 refine F.okU Xz (λhr=>(aB (cD (gJ rfl hr (fQ 0) bG (bK _)) (aE (aG (aM (f3 bG (fK XY (f2 (fQ 0) (aM (f2 (eV aA) aA)))) (fQ 0))))) bR) (aE (aG (aM (fc bG (f4 (fK XY (f2 (fQ 0) (aM (f2 (eV aA) aA)))) (fK XY (f2 (fQ 0) (aM (f2 (eV aA) aA)))) (fQ 0) (fQ 0)))))))) ?_;rintro as Q ⟨m,rfl,h,q⟩;have n1:bF ((-1,1):Fr):=aO (-1);have s1:sz ((-1,1):Fr)<=1:=pI (e:=1) ∅ ∅ ∅;cases m with
 |side x y m=>
  refine⟨OG _,?_⟩;refine⟨x,y,(-1,1),4,rfl,h.1.nv,n1,⋯,rfl,?_⟩;rw[tG h.1.nv.x,tG h.1.nv.y];exact q
 |arc x y u v r l=>
  refine⟨OG _,?_⟩;refine⟨x,y,(-1,1),4,rfl,h.1.nv,n1,⋯,u,v,(-1,1),4,rfl,h.2.1.nv,n1,⋯,rfl,?_⟩;rw[tG h.1.nv.x,tG h.1.nv.y,tG h.2.1.nv.x,tG h.2.1.nv.y];exact q
def cM:Fr->Fr->List Mv->List Pc
 |_,_,[]=>[]
 |a,b,m::ms=>rK a b m::cM (rK a b m).px (rK a b m).py ms
theorem dI:∀(ms:List Mv)(a b:Fr),(cM a b ms).length=ms.length
 |[],_,_=>rfl
 |m::ms,a,b=>congrArg (· + 1) (dI ms _ _)
theorem Ht:∀(ms:List Mv)(a b:Fr)(m:Mv),cM a b (ms++[m])=cM a b ms++[rK (cP a (cM a b ms)) (cQ b (cM a b ms)) m]
 |[],_,_,_=>rfl
 |n::ms,a,b,m=>congrArg (rK a b n::·) (Ht ms _ _ m)
def u4:Mv->Fr
 |.side _ _ m=>m
 |.arc _ _ _ _ r _=>r
def bU:Mv->Fr×Fr
 |.side x y _=>(x,y)
 |.arc x y _ _ _ l=>Zx l x y
def eU:Mv->Fr×Fr
 |.side x y _=>(x,y)
 |.arc _ _ u v _ l=>Zx l u v
def Yv:dG:=λas Q=>∃(a b:Fr)(ms:List Mv),as=[.v (vc a b),.v (.lst (ms.map kS))]/\St a b/\(∀m∈ms,fT m)/\ms.length<=12/\Q (.v (cA a b (cM a b ms))) []
abbrev nF(P w K mg base):=(~~~Fn) 4 "_law_path_of" ["_law_start","_law_moves"] (aJ K Yv)
abbrev qY:VS:=top 84
theorem fW:aF ["_law_start","_law_moves","_law_move","_law_at","_law_pieces","_law_middle"] ["_law_start","_law_moves"] (aC qY):=dH
theorem Hn(F:cL K "_law_path_of" "_law_path_of" qY f fd)(TX:Txt mg)(ZR: ~~~vB)(cq: ~~~Bg)(XY: ~~~fA):(~~~aT) cO 4 f fd ["_law_start","_law_moves"] (aJ K Yv):=by
 refine F.okU fW (λhr=>(aB (gH (i:=3) (j:=4) rfl fW.nd rfl rfl ∅ rfl rfl (f2 (fv 0) (cV bP)) rfl) (aB (j5 PassesOwn.never rfl (kM rfl (fv 1)) (fG 2 fW.nd) (aE (cD (gJ rfl hr (fQ 2) bG (bK _)) (aB (fS 3 fW.nd (fK ZR (f2 (fv 3) (fK XY (f2 (fQ 2) (fQ 2)))))) (aE (jK (iC rfl (fv 4) (f1 (aM (f2 bG (fv 3)))))))) (aB (fS 5 fW.nd (fK cq (f2 (fv 3) (fK XY (f2 (fQ 2) (fQ 2)))))) (aB (fS 3 fW.nd (fK ZR (f2 (fv 5) (fK XY (f2 (fQ 2) (fQ 2)))))) (aE (jK (iC rfl (fv 4) (f1 (aM (f4 bG (fv 5) (fv 3) (fQ 2)))))))))))) (aE (aG (aM (f2 (fv 0) (Gj rfl rfl TX.n_tuple (f1 (fv 4)))))))))) ?_;rintro as Q ⟨a,b,ms,rfl,⟨nv,sa,sb⟩,hm,hl,q⟩;refine cZ (λi E=>∃(v2 v5:Option U)(ps:List Pc)(hx hy:Fr),E=[⇑(vc a b),⇑(.lst (ms.map kS)),v2,⇑(vc hx hy),↥(ps.map jO),v5]/\ps=cM a b (ms.take i)/\hx=cP a ps/\hy=cQ b ps/\Nv hx hy (3+16*i)) ⟨_,_,[],a,b,rfl,rfl,rfl,rfl,nv⟩ ?_ ?_
 ·rintro i t rest E hi ⟨v2,v5,ps,hx,hy,rfl,hp,ex,ey,hv⟩ KK;rw[NY]at hi;cases hq:ms[i]? with
  |none=>rw[hq]at hi;cases hi
  |some m=>
   rw[hq]at hi;cases hi;have aHT:i<ms.length:=(NV.mp hq).1;have ok:=hm m (NX hq);have op:=Kf hv ok;have nx:=(qP.nv op).up (show 3+16*i+16<=3+16*(i+1) by lia);have pl:ps.length<=12:=by rw[hp,dI,PM];lia
   have tk:cM a b (ms.take (i+1))=ps++[rK hx hy m]:=by rw[RW,hq,SX,Ht,<-hp,<-ex,<-ey]
   have done:∀v2 v5,∃(v2' v5':Option U)(ps':List Pc)(yt hy':Fr),[⇑(vc a b),⇑(.lst (ms.map kS)),v2,⇑(vc (rK hx hy m).px (rK hx hy m).py),↥(ps.map jO++[jO (rK hx hy m)]),v5]=[⇑(vc a b),⇑(.lst (ms.map kS)),v2',⇑(vc yt hy'),oZ (U.o false (ps'.map jO)),v5']/\ps'=cM a b (ms.take (i+1))/\yt=cP a ps'/\hy'=cQ b ps'/\Nv yt hy' (3+16*(i+1)):=λv2 v5=>
    ⟨v2,v5,ps++[rK hx hy m],_,_,by rw[OR];rfl,tk.symm,(qM ps a _).symm,(qN ps b _).symm,nx⟩
   have lp:(ps.map jO++[jO (rK hx hy m)]).length<=9000:=by simp;lia
   cases m with
   |side x y m=>
    refine⟨OG _,?_⟩;have s:=lH ok.1.nv ok.2.1 ok.2.2.1;have sm:=ok.2.2.1;refine⟨x,y,m,4,rfl,ok.1.nv,ok.2.1,⋯,?_⟩;refine⟨hx,hy,_,_,3+16*i,4+4,rfl,hv,s,⋯,?_⟩;exact⟨lp,KK _ (done _ _)⟩
   |arc x y u v r l=>
    obtain⟨o1,o2,o3,o4,o5,o6⟩:=id ok;refine⟨OG _,?_⟩;have s:=lH o1.nv o4 o5;have t:=lH o2.nv o4 o5;refine⟨x,y,r,4,rfl,o1.nv,o4,⋯,?_⟩;refine⟨hx,hy,_,_,3+16*i,4+3,rfl,hv,s,⋯,?_⟩;refine⟨u,v,r,4,rfl,o2.nv,o4,⋯,?_⟩;refine⟨_,_,_,_,3+16*i+(4+3)+1,4+3,rfl,Cq hv s,t,⋯,?_⟩;exact⟨lp,KK _ (done _ _)⟩
 ·rintro E ⟨v2,v5,ps,hx,hy,rfl,hp,ex,ey,hv⟩;rw[OD,SA]at hp;rw[<-hp]at q;exact⟨Vv a b ps (He ps),q⟩
theorem F5{Fa Fb:FE}{κ:L2.R->En->Prop}(R:L2.R->Prop)(ha:c=true->∀κ',(∀u,R u->κ' u E)->Fa E κ')(hb:c=false->∀κ',(∀u,R u->κ' u E)->Fb E κ')(hk:∀u,R u->κ u E):if c=true then Fa E κ else Fb E κ:=by
 cases c with
 |true=>exact ha rfl κ hk
 |false=>exact hb rfl κ hk
theorem Gz(h:∀t∈L,∃m,t=kS m/\fT m):∃ms:List Mv,L=ms.map kS/\∀m∈ms,fT m:=by
 induction L with
 |nil=>exact⟨[],rfl,by simp⟩
 |cons t L ih=>
  obtain⟨m,e,ok⟩:=h t (by simp);obtain⟨ms,e2,ok2⟩:=ih λt ht=>h t (OC _ ht);refine⟨m::ms,by rw[e,e2];rfl,λm' hm'=>?_⟩;obtain rfl|hm':=NZ.mp hm'
  ·exact ok
  ·exact ok2 m' hm'
theorem vN(h:∀t∈L,∃m,t=kS m/\fT m):bL L=true:=by
 obtain⟨ms,rfl,_⟩:=Gz h;exact n9 ms
theorem Ii{s t:Int}(s0:0<=s)(s1:s<9)(t0:0<=t)(t1:t<9):St (s-4,1) (t-4,1):=
  ⟨⟨aO _,aO _,pI (show(s-4).natAbs<2^3 by lia) (show(1:Int).natAbs<2^3 by decide) ∅,pI (show(t-4).natAbs<2^3 by lia) (show(1:Int).natAbs<2^3 by decide) ∅⟩,
   ⟨(s-4)*65,by rw[iW];push_cast;grind,⋯⟩,⟨(t-4)*65,by rw[iW];push_cast;grind,⋯⟩⟩
structure Pm(a b:Fr)(ms:List Mv):Prop where
 st:St a b
 ok:∀m∈ms,fT m
 ne:ms≠[]
 len:ms.length<=12
def S7:dG:=λas Q=>∃(xs:List L2.T)(n k:Int),as=[.b xs,.v (.int k)]/\Bx xs n/\n<=800000/\1<=k/\k<=9/\∀ms ys,(∀m∈ms,fT m)->ms≠[]->ms.length<=10->Bx ys (n+70)->bL ys=true->Q (.l (ms.map kS)) ys
abbrev pZ(P w K mg base):=(~~~Fn) 5 "_law_all_moves" oM (aJ K S7)
abbrev mH:VS:=top 86
theorem iU:aF ["_law_box_here","_law_most","_law_found","_law_rest","_law_way","_law_many"] oM (aC mH):=dH
theorem y8(F:cL K "_law_all_moves" "_law_all_moves" mH f fd)(TX:Txt mg)(YA: ~~~kJ)(ZJ: ~~~lW)(jn: ~~~Eu):(~~~aT) cO 5 f fd oM (aJ K S7):=by
 refine F.okU iU (λhr=>(aB (gH (i:=4) (j:=5) rfl iU.nd rfl rfl ∅ rfl rfl (f2 (fB YA (f2 (fv 0) aA)) (aY cF aA (fB YA (f2 (fv 0) (fv 1))))) rfl) (aB (Cb (i:=2) (N':=["_law_turn","_law_box_here"]) (t:=1) (cap:=[(0,true)]) iU.nd rfl (PX rfl) rfl rfl (bM.of rfl) rfl ∅ (eJ rfl TX.n_range (f1 (nN (fP lI (fv 4) aA) (fv 5) (aY cF aA (aP dF (fv 5) aA))))) (λ_ _ _ _=>(fH 0)) (λ_ _ _ _=>(fB ZJ (f2 (fv 1) (wY rfl hr (fv 0) aA (bK _)))))) (aB (cD (fP lI (fv 4) aA) (aE (aG (fv 2))) bR) (aB (fS 3 iU.nd (l8 (fv 2) (iP (N':=["_law_move"]) (t:=1) (cap:=[]) rfl (bM.of rfl) rfl ∅ (kM rfl (fv 2)) (λ_ _ _ _=>(fH 0)) (λ_ _ _ _=>(fK jn (f1 (fv 0))))))) (aB (cD (gJ rfl hr (fv 4) aA (bK _)) (aE (aG (fv 3))) bR) (aE (aG (Uk (N':=["_law_turn","_law_rest","_law_box_here"]) (t:=1) (cap:=[(3,true),(0,true)]) rfl (bM.of rfl) ∅ (eJ rfl TX.n_range (f1 (fR rfl rfl TX.n_len (f1 (fv 3))))) (λ_ _ _ _=>(Up (i:=0) (show VL (["_law_turn","_law_rest","_law_box_here"]:List Str) by decide +kernel) rfl (PX rfl) (QN rfl))) (λ_ _ _ _=>(Y4 rfl (fv 1) (f1 (fB YA (f2 (fv 2) (fR rfl rfl TX.n_len (f1 (fv 1))))))))))))))))) ?_;rintro as Q ⟨xs,n,k,rfl,hB,hn,hk1,hk9,q⟩;refine⟨xs,4,n,rfl,hB,⋯,∅,∅,λway y1 w0 w1 b1=>?_⟩;refine⟨y1,k,n+1,rfl,b1,⋯,⋯,⋯,λmn y2 m0 m1 b2=>?_⟩;obtain⟨A0,B0,c0,rfl,_⟩:=id b2;have ef:(1+mn).fdiv 2=(1+mn)/2:=QZ _ ∅;have fh:∀m:Nat,(g9 0 m).length=m:=λm=>by simp[g9]
 show if decide (way<2)=true then _ else _;refine F5 (λu=>∃c:Int,vl [oZ (U.o true [L2.T.int A0,.int B0,.int c0]),↑k,none,none,↑way,↑(1+mn)] u=oZ (.int c)/\1<=c/\c<=9/\(¬way<2->c<=5)) ?_ ?_ ?_
 ·intro hw κ' J;exact J (.p (.int (1+mn))) ⟨1+mn,rfl,⋯,⋯,λz=>absurd (of_decide_eq_true hw) z⟩
 ·intro hw κ' J;refine⟨⟨∅,∅⟩,?_⟩;rw[ef];exact J _ ⟨1+(1+mn)/2,rfl,⋯,⋯,λ_=>⋯⟩
 rintro u ⟨c,hu,c1,c9,c5⟩;show i1 (vl [oZ (U.o true [L2.T.int A0,.int B0,.int c0]),↑k,none,none,↑way,↑(1+mn)] u) _;rw[hu];refine⟨⟨⋯,⋯⟩,rfl,?_⟩;refine cY (λi E=>∃(w0:Option U)(A B c:Int)(L:List L2.T),E=[w0,oZ (.o true [.int A,.int B,.int c]),↥L]/\Bx [.int A,.int B,.int c] (n+4+5*i)/\L.length=i/\∀t∈L,∃m,t=kS m/\fT m) ⟨none,A0,B0,c0,[],rfl,b2.mono ⋯,rfl,by simp⟩ ?_ ?_
 ·rintro i t rest E hi ⟨w0,A,B,c',L,rfl,hb,hL,hU⟩ KK;obtain⟨lq,rfl⟩:=mD hi;refine⟨OG _,_,_,_,rfl,hb,⋯,λm ys om b' nl'=>?_⟩;obtain⟨A',B',c'',rfl,_⟩:=id b';refine⟨by show L.length<9000;lia,KK _ ⟨_,A',B',c'',L++[kS m],rfl,b'.mono ⋯,by rw[OB,hL];rfl,λt ht=>?_⟩⟩;obtain ht|ht:=OZ.mp ht
  ·exact hU t ht
  ·rw[PD]at ht;exact⟨m,ht,om⟩
 rintro E ⟨w0,A,B,cc,L,rfl,hb,hL,hU⟩;rw[fh]at hL hb;have hLc:(L.length:Int)=c:=⋯
 replace hb:=hb.mono (show n+4+5*(c.toNat:Int)<=n+50 by lia);refine⟨vN hU,?_⟩;show if decide (way<2)=true then _ else _
 by_cases hw:way<2
 ·rw[oY hw,oV rfl];obtain⟨ms,rfl,om⟩:=Gz hU;rw[OD]at hLc;exact⟨n9 ms,q ms _ om (by intro z;rw[z]at hLc;simp at hLc;lia) ⋯ (hb.mono ⋯) rfl⟩
 ·rw[oX hw,oW ∅];refine⟨rfl,?_⟩;refine cY (λi E=>∃(w0:Option U)(M:List L2.T),E=[w0,↥M]/\M.length=i/\∀t∈M,∃m,t=kS m/\fT m) ⟨none,[],rfl,rfl,by simp⟩ ?_ ?_
  ·rintro i t rest E hi ⟨w0,M,rfl,hM,hV⟩ KK;obtain⟨m,rfl,om⟩:=hU t (NX hi);have ag:=(NV.mp hi).1;refine⟨m,rfl,om,by show M.length<9000;lia,KK _ ⟨_,M++[kS (JK m)],rfl,by rw[OB,hM];rfl,λt ht=>?_⟩⟩;obtain ht|ht:=OZ.mp ht
   ·exact hV t ht
   ·rw[PD]at ht;exact⟨JK m,ht,om.back⟩
  rintro E ⟨w0,M,rfl,hM,hV⟩;refine⟨vN hV,by show L.length+M.length<=9000;lia,?_⟩;have hW:∀t∈L++M,∃m,t=kS m/\fT m:=λt ht=>(OZ.mp ht).elim (hU t) (hV t);have hN:(L++M).length<=10:=by rw[OB];have:=c5 hw;lia
  have hN1:1<=(L++M).length:=by rw[OB];lia
  generalize L++M=W at hW hN hN1⊢;refine⟨OG _,?_⟩;show if(way==3)=true then _ else _
  by_cases h3:way=3
  ·rw[oV (by simpa using h3)];obtain⟨ms,rfl,om⟩:=Gz hW;rw[OD]at hN hN1;exact⟨n9 ms,q ms _ om (by intro z;rw[z]at hN1;simp at hN1) hN (hb.mono ⋯) rfl⟩
  ·rw[oW (by simpa using h3)];refine⟨⟨⋯,⋯⟩,rfl,?_⟩;refine cY (λi E=>∃(w0:Option U)(A B c:Int)(Lf R:List L2.T),E=[w0,oZ (.o true Lf),oZ (.o true [.int A,.int B,.int c]),↥R]/\Bx [.int A,.int B,.int c] (n+50+i)/\Lf.length+i=W.length/\R.length=i/\(∀t∈Lf,∃m,t=kS m/\fT m)/\∀t∈R,∃m,t=kS m/\fT m) ⟨none,A,B,cc,W,[],rfl,by simpa using hb,rfl,rfl,hW,by simp⟩ ?_ ?_
   ·rintro i t rest E hi ⟨w0,A,B,c',Lf,R,rfl,hb,hl,hR,hU,hV⟩ KK;obtain⟨lq,rfl⟩:=mD hi;rw[PR]at lq;refine⟨_,(Lf.length:Int),_,rfl,hb,⋯,⋯,⋯,λr ys r0 r1 b'=>?_⟩;obtain⟨A',B',c'',rfl,_⟩:=id b';have hr:r.toNat<Lf.length:=⋯
    refine⟨r0,by show Lf.length<=9000;lia,?_⟩;show o1 (Lf[r.toNat]?) _;rw[NW hr];have he:(Lf.eraseIdx r.toNat).length+1=Lf.length:=by rw[List.length_eraseIdx_of_lt hr];lia
    refine⟨by show R.length<9000;lia,KK _ ⟨_,A',B',c'',Lf.eraseIdx r.toNat,R++[Lf[r.toNat]],rfl,b'.mono ⋯,⋯,by rw[OB,hR];rfl,λt ht=>hU t (List.mem_of_mem_eraseIdx ht),λt ht=>?_⟩⟩;obtain ht|ht:=OZ.mp ht
    ·exact hV t ht
    ·rw[PD]at ht;rw[ht];exact hU _ (RK hr)
   rintro E ⟨w0,A,B,c',Lf,R,rfl,hb,hl,hR,hU,hV⟩;rw[PR,fh]at hl hR hb;obtain rfl:Lf=[]:=QP ⋯;refine⟨vN hV,?_⟩;obtain⟨ms,rfl,om⟩:=Gz hV;rw[OD]at hR;exact⟨n9 ms,q ms _ om (by intro z;rw[z]at hR;simp at hR;lia) ⋯ (hb.mono ⋯) rfl⟩
def Ma:dG:=λas Q=>∃(xs:List L2.T)(n k:Int),as=[.b xs,.v (.int k)]/\Bx xs n/\n<=700000/\1<=k/\k<=9/\∀a b ms ys,Pm a b ms->Bx ys (n+80)->Q (.v (.tup [cA a b (cM a b ms),.lst (ms.map kS)])) ys
abbrev xY:VS:=top 87
theorem tY:aF ["_law_box_here","_law_most","_law_start","_law_found"] oM (aC xY):=dH
theorem Ro(F:cL K "_law_drawn" "_law_drawn" xY f fd)(TX:Txt mg)(YA: ~~~kJ)(ak: ~~~pZ)(ZM: ~~~nF):(~~~aT) cO 6 f fd oM (uS K Ma):=by
 refine F.okL tY ?len (λYZ A outer s H E hr=>(aB (Jw (i:=2) tY.nd rfl (PX rfl) (aM (fc (aM (fc (aY iJ (d5 YA hr ⋯ rfl (fc (fv 0) (fc aA bP))) aA) (fc aA bP))) (fc (aM (fc (aY iJ (d5 YA hr ⋯ rfl (fc (fv 0) (fc aA bP))) aA) (fc aA bP))) bP))))
 (aB (Jw (i:=3) tY.nd rfl (PX rfl) (d5 ak hr ⋯ rfl (fc (fv 0) (fc (fv 1) bP))))
 (aE (aG (By (fc (vI ZM hr ⋯ rfl (fc (fv 2) (fc (fv 3) bP))) (fc (fv 3) bP)))))))) ?rd
 case len=>rintro as Q ⟨xs,n,k,rfl,_⟩;rfl
 case rd=>
  rintro as Q ⟨xs,n,k,rfl,hB,hn,hk1,hk9,q⟩;refine⟨xs,9,n,rfl,hB,⋯,∅,∅,λsx y1 s0 s1 b1=>?_⟩;refine⟨y1,9,n+1,rfl,b1,⋯,∅,∅,λsy y2 t0 t1 b2=>?_⟩;have nvs:=Ii s0 s1 t0 t1;refine⟨y2,n+1+1,k,rfl,b2,⋯,hk1,hk9,λms ys om nm lm b3 nl=>?_⟩;obtain⟨A,B,C,rfl,_⟩:=id b3;refine⟨_,_,ms,rfl,nvs,om,⋯,?_⟩;exact q _ _ ms _ ⟨nvs,om,nm,⋯⟩ (b3.mono ⋯)
structure Fw(p:Fr):Prop where
 n:bF p
 s:sz p<=14
 pos:0<val p
theorem Jy{n d:Int}(h1:1<=n)(h2:n<=9999)(h3:1<=d)(h4:d<=999):Fw (fY n d)/\d≠0/\d.natAbs<2^8000:=by
 have nz:d≠0:=⋯
 have b:∀{z:Int},z.natAbs<=9999->z.natAbs<2^14:=λh=>PL h ∅;refine⟨⟨gK nz,mS nz (b ⋯) (b ⋯) ∅,?_⟩,nz,tK (e:=14) (b ⋯) ∅⟩;rw[eT nz];have hn:(0:Rat)<(n:Rat):=by exact_mod_cast (show(0:Int)<n by lia)
 have hd:(0:Rat)<(d:Rat):=by exact_mod_cast (show(0:Int)<d by lia)
 exact bS hd (by
   have:(n:Rat)/(d:Rat)*(d:Rat)=n:=by grind
   rw[this];exact hn)
def Zb:dG:=λas Q=>∃(xs:List L2.T)(n:Int),as=[.b xs]/\Bx xs n/\n<=900000/\∀p ys,Fw p->Bx ys (n+5)->bL ys=true->Q (.v (fr p)) ys
abbrev zM(P w K mg base):=(~~~Fn) 2 "_law_width" ["_law_box_here"] (aJ K Zb)
abbrev x8:VS:=top 88
theorem tZ:aF ["_law_box_here","_law_way","_law_bottom"] ["_law_box_here"] (aC x8):=dH
theorem Ru(F:cL K "_law_width" "_law_width" x8 f fd)(TX:Txt mg)(YA: ~~~kJ)(YN: ~~~jU):(~~~aT) cO 2 f fd ["_law_box_here"] (aJ K Zb):=by
 refine F.okU tZ (λhr=>(aB (fS 1 tZ.nd (fB YA (f2 (fv 0) aA))) (aB (cD (gJ rfl hr (fv 1) aA (bK _)) (aB (fS 2 tZ.nd (aY cF aA (fB YA (f2 (fv 0) aA)))) (aE (aG (fK YN (f2 (aY cF aA (fB YA (f2 (fv 0) (Y2 rfl rfl TX.n_min (f2 (aP aZ aA (fv 2)) aA))))) (fv 2)))))) bR) (aB (cD (gJ rfl hr (fv 1) aA (bK _)) (aE (aG (aM (f2 (aY cF aA (fB YA (f2 (fv 0) aA))) aA)))) bR) (aE (aG (fK YN (f2 (aY cF aA (fB YA (f2 (fv 0) (fX (cV (f2 aA aA)) (fB YA (f2 (fv 0) aA)))))) (fX (cV (f4 aA aA aA aA)) (fB YA (f2 (fv 0) aA))))))))))) ?_;rintro as Q ⟨xs,n,rfl,hB,hn,q⟩;refine⟨xs,8,n,rfl,hB,⋯,∅,∅,λway y1 w0 w1 b1=>?_⟩;obtain⟨A,B,C,rfl,_⟩:=id b1;refine⟨OG _,?_⟩;show if(way==0)=true then _ else _
 by_cases h0:way=0
 ·rw[oV (by simpa using h0)];refine⟨_,995,n+1,rfl,b1,⋯,∅,∅,λbo y2 o0 o1' b2=>?_⟩;obtain⟨A,B,C,rfl,_⟩:=id b2;refine⟨Ha ⋯,?_⟩;refine⟨_,_,n+1+1,rfl,b2,⋯,?_,?_,λr ys r0 r1 b3=>?_⟩
  ·show 1<=if(9999:Int)<20*(5+bo)then(9999:Int)else 20*(5+bo)
   split<;>lia
  ·show(if(9999:Int)<20*(5+bo)then(9999:Int)else 20*(5+bo))<2^200
   split<;>lia
  replace r1:r<if(9999:Int)<20*(5+bo)then(9999:Int)else 20*(5+bo):=r1;have r2:r<9999:=by revert r1;split<;>lia
  obtain⟨A,B,C,rfl,_⟩:=id b3;obtain⟨f,nz,z8⟩:=Jy (n:=1+r) (d:=5+bo) ⋯ ⋯ ⋯ ⋯;exact⟨_,_,rfl,nz,z8,rfl,q _ _ f (b3.mono ⋯) rfl⟩
 ·rw[oW (by simpa using h0)];refine⟨OG _,?_⟩;show if(way==1)=true then _ else _
  by_cases h1:way=1
  ·rw[oV (by simpa using h1)];refine⟨_,26,n+1,rfl,b1,⋯,∅,∅,λr y2 r0 r1 b2=>?_⟩;obtain⟨A,B,C,rfl,_⟩:=id b2;obtain⟨f,_,_⟩:=Jy (n:=25+r) (d:=1) ⋯ ⋯ ∅ ∅;refine⟨rfl,q (25+r,1) _ ⟨aO _,?_,?_⟩ (b2.mono ⋯) rfl⟩
   ·exact pI (e:=14) (PL (show(25+r).natAbs<=50 by lia) ∅) (show(1:Int).natAbs<2^14 by decide) ∅
   ·rw[iW];exact_mod_cast (show 0<25+r by lia)
  ·rw[oW (by simpa using h1)];refine⟨_,2,n+1,rfl,b1,⋯,∅,∅,λpk y2 p0 p1 b2=>?_⟩;obtain⟨A,B,C,rfl,_⟩:=id b2;obtain⟨m,hm,m1,m2⟩:∃m:Int,eZ [L2.T.int 4,.int 24] pk=oZ (.int m)/\1<=m/\m<=24:=by
    have:pk=0\/pk=1:=⋯
    obtain rfl|rfl:=this
    ·exact⟨4,rfl,∅,∅⟩
    ·exact⟨24,rfl,∅,∅⟩
   show o1 (eZ [L2.T.int 4,.int 24] pk) _;rw[hm];refine⟨_,m,n+1+1,rfl,b2,⋯,m1,⋯,λr y3 r0 r1 b3=>?_⟩;refine⟨y3,4,n+1+1+1,rfl,b3,⋯,∅,∅,λpk y4 p0 p1 b4=>?_⟩;obtain⟨A,B,C,rfl,_⟩:=id b4;obtain⟨d,hd,d1,d2⟩:∃d:Int,eZ [L2.T.int 1,.int 2,.int 3,.int 4] pk=oZ (.int d)/\1<=d/\d<=4:=by
    have:pk=0\/pk=1\/pk=2\/pk=3:=⋯
    obtain rfl|rfl|rfl|rfl:=this
    ·exact⟨1,rfl,∅,∅⟩
    ·exact⟨2,rfl,∅,∅⟩
    ·exact⟨3,rfl,∅,∅⟩
    ·exact⟨4,rfl,∅,∅⟩
   show o1 (eZ [L2.T.int 1,.int 2,.int 3,.int 4] pk) _;rw[hd];obtain⟨f,nz,z8⟩:=Jy (n:=1+r) (d:=d) ⋯ ⋯ d1 ⋯;exact⟨_,_,rfl,nz,z8,rfl,q _ _ f (b4.mono ⋯) rfl⟩
end
def Yp:dG:=λas Q=>∃(xs:List L2.T)(n:Int),as=[.b xs]/\Bx xs n/\n<=600000/\∀a b ms p(s:Int)ys,Pm a b ms->Fw p->(s=1\/s=2\/s=3)->Bx ys (n+100)->Q (.v (.tup [cA a b (cM a b ms),.lst (ms.map kS),fr p,.int s])) ys
abbrev Dp:VS:=top 89
theorem i6:aF ["_law_box_here","_law_great","_law_arcs","_law_more","_law_far","_law_steps","_law_found","_law_path"] ["_law_box_here"] (aC Dp):=dH
theorem Wc{P:VQ}{w:VU}{K:W.Frag}{mg:Str->Option oA}{base:oE}{f:VN}{fd:WC}(F:cL K "_law_case" "_law_case" Dp f fd)(TX:Txt mg)(YA: ~~~kJ)(fm: ~~~zM)(ZJ: ~~~lW)(ZM: ~~~nF)(fo:Fn P w K mg base 6 "_law_drawn" oM (uS K Ma)):(~~~aT) cO 7 f fd ["_law_box_here"] (uS K Yp):=by
 refine F.okL i6 ?len (λYZ A outer s H E hr=>(aB (d6 (aM (fc (wY rfl hr (d5 YA hr ⋯ rfl (fc (fv 0) (fc aA bP))) aA (bK _)) (fc (wY rfl hr (d5 YA hr ⋯ rfl (fc (fv 0) (fc aA bP))) aA (bK _)) (fc (wY rfl hr (d5 YA hr ⋯ rfl (fc (fv 0) (fc aA bP))) aA (bK _)) bP)))) (dE (n:=3) rfl rfl (aQ (kL (i:=1) i6.nd rfl (PX rfl)) (aQ (kL (i:=2) i6.nd rfl (QN rfl)) (aQ (kL (i:=3) i6.nd rfl (PX rfl)) cH)))))
 (aB (gH (i:=4) (j:=5) rfl i6.nd rfl rfl ∅ rfl rfl (fc (d5 fm hr ⋯ rfl (fc (fv 0) bP)) (fc (aY cF aA (d5 YA hr ⋯ rfl (fc (fv 0) (fc aA bP)))) bP)) rfl)
 (aB (cD (iF (fv 1)) (aB (Cb (i:=6) (N':=["_law_turn","_law_box_here","_law_arcs"]) (t:=1) (cap:=[(0,true),(2,false)]) i6.nd rfl (PX rfl) rfl rfl (bM.of rfl) rfl ∅ (eJ rfl TX.n_range (fc (aY cF aA (d5 YA hr ⋯ rfl (fc (fv 0) (fc aA bP)))) bP)) (λ_ _ _ _=>(kL (i:=0) (show VL (["_law_turn","_law_box_here","_law_arcs"]:List Str) by decide +kernel) rfl (PX rfl) (QN rfl))) (λ_ _ _ _=>(d5 ZJ hr ⋯ rfl (fc (fv 1) (fc (fv 2) bP)))))
 (aE (aG (By (fc (vI ZM hr ⋯ rfl (fc (aM (fc (aM (fc aA (fc aA bP))) (fc (aM (fc aA (fc aA bP))) bP))) (fc (fv 6) bP))) (fc (fv 6) (fc (fv 4) (fc aA bP)))))))) bR)
 (aB (d6 (Gi fo hr ⋯ rfl (fc (fv 0) (fc aA bP))) (dE (n:=2) rfl rfl (aQ (kL (i:=7) i6.nd rfl (PX rfl)) (aQ (kL (i:=6) i6.nd rfl (PX rfl)) cH))))
 (aE (aG (By (fc (fv 7) (fc (fv 6) (fc (fv 4) (fc (nN (F1 (Ng (Q0 lI (fR rfl rfl TX.n_len (fc (fv 6) bP)) aA (bK _)) (Cc (iF (fv 3))))) (fv 5) aA) bP)))))))))))) ?rd
 case len=>rintro as Q ⟨xs,n,rfl,_⟩;rfl
 case rd=>
  rintro as Q ⟨xs,n,rfl,hB,hn,q⟩;refine⟨xs,8,n,rfl,hB,⋯,∅,∅,λgr y1 g0 g1 b1=>?_⟩;refine⟨OG _,?_⟩;refine⟨y1,2,n+1,rfl,b1,⋯,∅,∅,λar y2 a0 a1 b2=>?_⟩;refine⟨OG _,?_⟩;refine⟨y2,8,n+1+1,rfl,b2,⋯,∅,∅,λmo y3 m0 m1 b3=>?_⟩;refine⟨OG _,?_⟩;refine⟨y3,n+1+1+1,rfl,b3,⋯,λp y4 fw b4 nl4=>?_⟩;refine⟨y4,3,n+1+1+1+5,rfl,b4,⋯,∅,∅,λst y5 s0 s1 b5=>?_⟩;obtain⟨A,B,C,rfl,_⟩:=id b5;have fh:∀m:Nat,(g9 0 m).length=m:=λm=>by simp[g9]
  have hs:1+st=1\/1+st=2\/1+st=3:=⋯
  show if(gr==0)=true then _ else _
  by_cases h0:gr=0
  ·rw[oV (by simpa using h0)];refine⟨_,6,n+1+1+1+5+1,rfl,b5,⋯,∅,∅,λmany y6 v0 v1 b6=>?_⟩;obtain⟨A1,B1,C1,rfl,_⟩:=id b6;refine⟨⟨⋯,⋯⟩,rfl,?_⟩;refine cY (λi E=>∃(w0:Option U)(A B c:Int)(L:List L2.T),E=[w0,oZ (.o true [.int A,.int B,.int c]),⇑(.bl (ar==0)),↥L]/\Bx [.int A,.int B,.int c] (n+10+5*i)/\L.length=i/\∀t∈L,∃m,t=kS m/\fT m) ⟨none,A1,B1,C1,[],rfl,b6.mono ⋯,rfl,by simp⟩ ?_ ?_
   ·rintro i t rest E hi ⟨w0,A,B,c',L,rfl,hb,hL,hU⟩ KK;obtain⟨lq,rfl⟩:=mD hi;refine⟨_,_,_,rfl,hb,⋯,λm ys om b' nl'=>?_⟩;obtain⟨A',B',c'',rfl,_⟩:=id b';refine⟨by show L.length<9000;lia,KK _ ⟨_,A',B',c'',L++[kS m],rfl,b'.mono ⋯,by rw[OB,hL];rfl,λt ht=>?_⟩⟩;obtain ht|ht:=OZ.mp ht
    ·exact hU t ht
    ·rw[PD]at ht;exact⟨m,ht,om⟩
   rintro E ⟨w0,A,B,cc,L,rfl,hb,hL,hU⟩;rw[fh]at hL hb;refine⟨vN hU,?_⟩;obtain⟨ms,rfl,om⟩:=Gz hU;rw[OD]at hL;have st0:St (0,1) (0,1):=Ii (s:=4) (t:=4) ∅ ∅ ∅ ∅;refine⟨_,_,ms,rfl,st0,om,⋯,?_⟩;exact q _ _ ms p 1 _ ⟨st0,om,by intro z;rw[z]at hL;simp at hL;lia,⋯⟩ fw (.inl rfl) (hb.mono ⋯)
  ·rw[oW (by simpa using h0)];refine⟨_,n+1+1+1+5+1,4,rfl,b5,⋯,∅,∅,λa b ms y6 pm b6=>?_⟩;obtain⟨A1,B1,C1,rfl,_⟩:=id b6;show if decide ((((ms.map kS).length:Nat):Int)<3)=true then _ else _;have fin:∀s:Int,s=1\/s=2\/s=3->Q (.v (.tup [cA a b (cM a b ms),.lst (ms.map kS),fr p,.int s])) [.int A1,.int B1,.int C1]:=λs hs=>q _ _ ms p s _ pm fw hs (b6.mono ⋯)
   by_cases c:(((ms.map kS).length:Nat):Int)<3
   ·rw[oV (oY c)];exact fin _ hs
   ·rw[oW (by rw[oX c];decide)];show if(mo==0)=true then _ else _
    by_cases c2:(mo==0)=true
    ·rw[oV c2];exact fin _ hs
    ·rw[oW c2];exact fin 1 (.inl rfl)
section
variable{P:VQ}{w:VU}{K:W.Frag}{mg:Str->Option oA}{base:oE}
theorem jC:∀(ms:List Mv)(a b:Fr)(i:Nat)(m:Mv),ms[i]?=oZ m->(cM a b ms)[i]?=oZ (rK (cP a ((cM a b ms).take i)) (cQ b ((cM a b ms).take i)) m)
 |[],_,_,_,_,h=>by simp at h
 |n::ms,a,b,0,m,h=>by cases h;rfl
 |n::ms,a,b,i+1,m,h=>jC ms _ _ i m (by simpa using h)
theorem Am:∀(ms:List Mv)(a b:Fr)(B:Nat),Nv a b 14->Dv B a->Dv B b->B+780*ms.length+20<2^14->(∀m∈ms,fT m)->jZ 14 a b (cM a b ms)
 |[],_,_,_,_,_,_,_,_=>trivial
 |m::ms,a,b,B,nv,da,db,hB,ok=>by
  rw[OT]at hB;obtain⟨o,dx,dy⟩:=AL nv da db ⋯ (ok m OK);exact⟨o,Am ms _ _ (B+780) (qP.nv o) dx dy ⋯ λn hn=>ok n (OC _ hn)⟩
theorem rZ(k:e<=f):∀{ps:List Pc}{a b:Fr},jZ e a b ps->jZ f a b ps
 |[],_,_,_=>trivial
 |_::_,_,_,h=>⟨qP.up k h.1,rZ k h.2⟩
theorem Pm.chain(h:Pm a b ms):jZ 14 a b (cM a b ms):=
 Am ms a b 260 (h.st.1.up ∅) h.st.2.1 h.st.2.2 (by have:=h.len;lia) h.ok
def px(a b:Fr)(ms:List Mv)(i:Nat):Fr:=cP a ((cM a b ms).take i)
def py(a b:Fr)(ms:List Mv)(i:Nat):Fr:=cQ b ((cM a b ms).take i)
theorem Pm.nv(h:Pm a b ms)(i:Nat):Nv (px a b ms i) (py a b ms i) 14:=nJ i (h.st.1.up ∅) h.chain
theorem pQ(na:bF a)(nx:bF x):aS (aV a x) a=x:=b8 (dB (cI na nx) na) nx (by rw[bQ (cI na nx) na,a7 na nx];grind)
theorem sub_sub'(na:bF a)(nx:bF x):aS a (aS a x)=x:=b8 (dB na (dB na nx)) nx (by rw[bQ na (dB na nx),bQ na nx];grind)
theorem fF(nx:bF x)(nm:bF m)(h:0<val m):bX (aH x m) m=x:=by
 have m1:m.1≠0:=by have:=(pK nm).1 h;lia
 refine b8 (j8 (aK nx nm) m1) nx ?_;rw[lL (aK nx nm) nm m1,aR nx nm];have:val m≠0:=by grind
 grind
theorem sE(u:bV x y 4)(nm:bF m)(sm:sz m<=4)(h:0<val m):wF (aH x m) (aH y m) m:=by
 refine⟨(lH u.nv nm sm).up ∅,nm,h,?_⟩;rw[aR u.nv.x nm,aR u.nv.y nm];have:=u.one;have e:val x*val m*(val x*val m)+val y*val m*(val y*val m)=(val x*val x+val y*val y)*(val m*val m):=by grind
 rw[e,this];grind
theorem fT.len(h:fT m):bF (u4 m)/\sz (u4 m)<=4/\0<val (u4 m):=by
 cases m with
 |side x y m=>exact⟨h.2.1,h.2.2.1,h.2.2.2.1⟩
 |arc x y u v r l=>exact⟨h.2.2.2.1,PQ h.2.2.2.2.1 ∅,h.2.2.2.2.2.1⟩
theorem fT.bu(h:fT m):bV (bU m).1 (bU m).2 4:=by
 cases m with
 |side x y m=>exact h.1
 |arc x y u v r l=>
  cases l with
  |true=>exact h.1.left
  |false=>
   have:=h.1;refine⟨⟨this.nv.y,eQ this.nv.x,this.nv.sy,by show sz (aN x)<=4;rw[pJ];exact this.nv.sx⟩,?_⟩;show val y*val y+val (aN x)*val (aN x)=1;rw[bC this.nv.x];have:=this.one;grind
theorem fT.eu(h:fT m):bV (eU m).1 (eU m).2 4:=by
 cases m with
 |side x y m=>exact h.1
 |arc x y u v r l=>
  have u':=h.2.1;cases l with
  |true=>exact u'.left
  |false=>
   refine⟨⟨u'.nv.y,eQ u'.nv.x,u'.nv.sy,by show sz (aN u)<=4;rw[pJ];exact u'.nv.sx⟩,?_⟩;show val v*val v+val (aN u)*val (aN u)=1;rw[bC u'.nv.x];have:=u'.one;grind
theorem wI(h:Nv a b e)(ok:fT (.arc x y u v r l)):
  aS a (aS a (aH x r))=aH x r/\aS b (aS b (aH y r))=aH y r/\aS (aV (aS a (aH x r)) (aH u r)) (aS a (aH x r))=aH u r/\aS (aV (aS b (aH y r)) (aH v r)) (aS b (aH y r))=aH v r:=by
 obtain⟨o1,o2,_,nr,_⟩:=ok;have nx:=aK o1.nv.x nr;have ny:=aK o1.nv.y nr;have nu:=aK o2.nv.x nr;have nw:=aK o2.nv.y nr;exact⟨sub_sub' h.x nx,sub_sub' h.y ny,pQ (dB h.x nx) nu,pQ (dB h.y ny) nw⟩
theorem FQ(h:Nv a b e)(ok:fT m):Ln a b (u4 m) (rK a b m):=by
 cases m with
 |side x y m=>
  obtain⟨n1,n2,n3⟩:bF m/\sz m<=4/\0<val m:=ok.len;have nx:=aK ok.1.nv.x n1;have ny:=aK ok.1.nv.y n1;show wF (aS (aV a (aH x m)) a) (aS (aV b (aH y m)) b) m;rw[pQ h.x nx,pQ h.y ny];exact sE ok.1 n1 n2 n3
 |arc x y u v r l=>
  obtain⟨n1,n2,n3⟩:bF r/\sz r<=4/\0<val r:=ok.len;obtain⟨e1,e2,e3,e4⟩:=wI h ok;show wF (aS a (aS a (aH x r))) (aS b (aS b (aH y r))) r/\wF (aS (aV (aS a (aH x r)) (aH u r)) (aS a (aH x r))) (aS (aV (aS b (aH y r)) (aH v r)) (aS b (aH y r))) r;rw[e1,e2,e3,e4];exact⟨sE ok.1 n1 n2 n3,sE ok.2.1 n1 n2 n3⟩
theorem Ux(h:Nv a b e)(ok:fT m):hB a b (u4 m) (rK a b m)=bU m/\hE a b (u4 m) (rK a b m)=eU m:=by
 cases m with
 |side x y m=>
  obtain⟨n1,n2,n3⟩:bF m/\sz m<=4/\0<val m:=ok.len;have nx:=aK ok.1.nv.x n1;have ny:=aK ok.1.nv.y n1;have e:(bX (aS (aV a (aH x m)) a) m,bX (aS (aV b (aH y m)) b) m)=(x,y):=by
   rw[pQ h.x nx,pQ h.y ny];exact Prod.ext (fF ok.1.nv.x n1 n3) (fF ok.1.nv.y n1 n3)
  exact⟨e,e⟩
 |arc x y u v r l=>
  obtain⟨n1,n2,n3⟩:bF r/\sz r<=4/\0<val r:=ok.len;obtain⟨e1,e2,e3,e4⟩:=wI h ok;constructor
  ·show Zx l (bX (aS a (aS a (aH x r))) r) (bX (aS b (aS b (aH y r))) r)=Zx l x y;rw[e1,e2];rw[fF ok.1.nv.x n1 n3,fF ok.1.nv.y n1 n3]
  ·show Zx l (bX (aS (aV (aS a (aH x r)) (aH u r)) (aS a (aH x r))) r) (bX (aS (aV (aS b (aH y r)) (aH v r)) (aS b (aH y r))) r)=Zx l u v;rw[e3,e4];rw[fF ok.2.1.nv.x n1 n3,fF ok.2.1.nv.y n1 n3]
theorem Pm.at_(h:Pm a b ms)(hi:ms[i]?=oZ m):Te a b (cM a b ms) i (rK (px a b ms i) (py a b ms i) m) (u4 m):=
 ⟨jC ms a b i m hi,h.st.1.up ∅,rZ ∅ h.chain,FQ (h.nv i) (h.ok m (NX hi))⟩
theorem Pm.head(h:Pm a b ms)(hi:ms[i]?=oZ m):Va (cP a ((cM a b ms).take i)) (cQ b ((cM a b ms).take i)) (u4 m) (rK (px a b ms i) (py a b ms i) m) = .tup [bB (bU m),bB (eU m)]:=by
 rw[Cd];have:=Ux (h.nv i) (h.ok m (NX hi));unfold px py at this⊢;rw[this.1,this.2]
theorem pO(hi:ms[i]?=oZ m):px a b ms (i+1)=(rK (px a b ms i) (py a b ms i) m).px/\py a b ms (i+1)=(rK (px a b ms i) (py a b ms i) m).py:=
 ⟨w4 (jC ms a b i m hi),w6 (jC ms a b i m hi)⟩
def Lx(i:Nat)(bx bY ex eY rx ry:Fr):L2.T:=.tup [.str "strip",.int (i:Int),.tup [vc (aS bx rx) (aS bY ry),vc (aS ex rx) (aS eY ry),vc (aV ex rx) (aV eY ry),vc (aV bx rx) (aV bY ry)],.str "r-l-"]
def Yx:dG:=λas Q=>∃(a b:Fr)(ms:List Mv)(i:Nat)(x y m p:Fr),as=[.v (cA a b (cM a b ms)),.v (.int (i:Int)),.v (fr p)]/\Pm a b ms/\ms[i]?=oZ (.side x y m)/\Fw p/\
 Q (.v (Lx i (px a b ms i) (py a b ms i) (px a b ms (i+1)) (py a b ms (i+1)) (aH (aN y) p) (aH x p))) []
abbrev qA(P w K mg base):=(~~~Fn) 9 "side_strip" ["path","number","far"] (aJ K Yx)
abbrev mJ:VS:=top 51
theorem iV:aF ["path","number","far","reach","outline","begin","to"] ["path","number","far"] (aC mJ):=dH
theorem zA(F:cL K "side_strip" "side_strip" mJ f fd)(TX:Txt mg)(YM: ~~~iX)(YC: ~~~fV)(YO: ~~~lA)(YE: ~~~iA)(YJ: ~~~iY)(YS: ~~~k9)(ZC: ~~~rQ):(~~~aT) cO 9 f fd ["path","number","far"] (aJ K Yx):=by
 refine F.okU iV (λhr=>(aB (gH (i:=5) (j:=6) rfl iV.nd rfl rfl ∅ rfl rfl (f2 (fK YM (f2 (fv 0) (fv 1))) (fK YC (f1 (fX (fQ 0) (fv 1))))) rfl) (aB (fS 3 iV.nd (fK YO (f2 (fK YE (f1 (fX (fK YJ (f2 (fv 0) (fv 1))) aA))) (fv 2)))) (aB (fS 4 iV.nd (aM (f4 (fK YS (f2 (fv 5) (fv 3))) (fK YS (f2 (fv 6) (fv 3))) (fK ZC (f2 (fv 6) (fv 3))) (fK ZC (f2 (fv 5) (fv 3)))))) (aE (aG (aM (f4 bG (fv 1) (fv 4) bG)))))))) ?_;rintro as Q ⟨a,b,ms,i,x,y,m,p,rfl,h,hi,fw,q⟩;have hl:=(NV.mp hi).1;have hp:=jC ms a b i _ hi;have pa:=h.at_ hi;have ok:=h.ok _ (NX hi);have hd:=h.head hi;have n0:=h.nv i;have n1:=h.nv (i+1);obtain⟨ex,ey⟩:=pO (a:=a) (b:=b) hi;refine⟨a,b,_,i,rfl,by rw[dI];exact hl,?_⟩;show o1 (eZ ((cM a b ms).map jO) (i:Int)) _;rw[qF hp];refine⟨_,rfl,?_⟩;refine⟨a,b,_,i,_,_,rfl,pa,?_⟩;rw[hd];refine⟨x,y,rfl,?_⟩;have us:=ok.1.left;refine⟨_,_,p,4,rfl,us.nv,fw.n,by have:=fw.s;lia,?_⟩;have nr:=lH us.nv fw.n fw.s;have en:Nv (rK (px a b ms i) (py a b ms i) (.side x y m)).px (rK (px a b ms i) (py a b ms i) (.side x y m)).py 14:=by rw[<-ex,<-ey];exact n1
 rw[ex,ey]at q;exact⟨_,_,_,_,14,4+14,rfl,n0,nr,∅,_,_,_,_,14,4+14,rfl,en,nr,∅,_,_,_,_,14,4+14,rfl,en,nr,∅,_,_,_,_,14,4+14,rfl,n0,nr,∅,rfl,q⟩
theorem DB{s:Int}(h:bV x y 4)(k:bV p q 4)(hs:s=1\/s=2\/s=3)(r:uU p q m x y)(r':uU (aN x) y m' (aN p) q):∀u∈sU x y p q s m m',Uv 30 u:=by
 intro u hu;obtain hu|hu:=vL hu
 ·obtain rfl|hu:=NZ.mp hu
  ·exact⟨_,_,rfl,h.up ∅⟩
  ·exact(Pz k hs m x y h r u hu).up ∅
 ·obtain⟨z,hz,rfl⟩:=QK.mp hu;have hz:=TM.mp hz;have uz:Uv 30 z:=by
   obtain rfl|hz:=NZ.mp hz
   ·exact⟨_,_,rfl,k.flip.up ∅⟩
   ·exact(Pz h.flip hs m' (aN p) q k.flip r' z hz).up ∅
  obtain⟨a,b,rfl,n⟩:=uz;exact⟨aN a,b,rfl,n.flip⟩
def vX(a b:Fr×Fr):Rat:=val a.1*val b.2-val a.2*val b.1
def vD(a b:Fr×Fr):Rat:=val a.1*val b.1+val a.2*val b.2
structure Us(u w:Fr×Fr)(us:List (Fr×Fr)):Prop where
 n2:2<=us.length
 n30:us.length<=30
 uv:∀a∈us,bV a.1 a.2 30
 hd:us[0]?=oZ u
 ls:us[us.length-1]?=oZ w
 nb:∀i a b,us[i]?=oZ a->us[i+1]?=oZ b->0<vX a b/\0<=vD a b
theorem vU(h:bB a=bB b):a=b:=by
 have h:=congrArg cx h;have e:∀c:Fr×Fr,cx (bB c)=c:=λc=>uM c.1 c.2
 rwa [e,e]at h
theorem BX(h:∀t∈L,Uv e t):∃us:List (Fr×Fr),L=us.map bB/\∀a∈us,bV a.1 a.2 e:=by
 induction L with
 |nil=>exact⟨[],rfl,by simp⟩
 |cons t L ih=>
  obtain⟨us,e1,h1⟩:=ih λt ht=>h t (OC _ ht);obtain⟨a,b,rfl,n⟩:=h t OK;refine⟨(a,b)::us,by rw[e1];rfl,λc hc=>?_⟩;obtain rfl|hc:=NZ.mp hc
  ·exact n
  ·exact h1 c hc
theorem IK{s:Int}(h:bV x y 4)(k:bV p q 4)(ne:¬(p=x/\q=y))(hs:s=1\/s=2\/s=3)(hm:m<=3)(hm':m'<=3)(r:uU p q m x y)(r':uU (aN x) y m' (aN p) q):
  ∃us,sU x y p q s m m'=us.map bB/\Us (x,y) (p,q) us:=by
 have E:cU x y p q 4 4 s m m':=⟨h,k,∅,∅,∅,hs,hm,hm',r,r'⟩;obtain⟨l1,l2⟩:=AJ hs hm hm' ne;obtain⟨us,e,uv⟩:=BX (DB h k hs r r');have at_:∀{i a},us[i]?=oZ a->(sU x y p q s m m')[i]?=oZ (bB a):=λ{i a}h=>by rw[e,NY,h];rfl
 have el:(sU x y p q s m m').length=us.length:=by rw[e,OD]
 have bk:∀{i:Nat}{a:Fr×Fr},(sU x y p q s m m')[i]?=oZ (bB a)->us[i]?=oZ a:=λ{i a}h=>by
  rw[e,NY]at h;obtain⟨z,hz,ez⟩:=PH.mp h;rw[hz,vU ez]
 refine⟨us,e,⟨⋯,⋯,uv,?_,?_,?_⟩⟩
 ·obtain⟨L,eL⟩:=E.first;refine bk ?_;rw[eL];rfl
 ·obtain⟨L,eL⟩:=E.last;refine bk ?_;rw[<-el,eL];simp[bB]
 ·intro i a b ha hb;obtain⟨a1,a2,b1,b2,ea,eb,_,_,n1,n2⟩:=E.nbr (at_ ha) (at_ hb);have ea:a=(a1,a2):=vU ea;have eb:b=(b1,b2):=vU eb;rw[ea,eb];exact⟨n1,n2⟩
def yK(a b:Fr×Fr):Fr×Fr:=(O4 a.1 b.1 (Sy a.1 a.2 b.1 b.2),O4 a.2 b.2 (Sy a.1 a.2 b.1 b.2))
theorem Ek(h:bV a.1 a.2 30)(k:bV b.1 b.2 30)(d:0<=vD a b):(Sy a.1 a.2 b.1 b.2).1≠0:=by
 obtain⟨u1,u2,u3⟩:=Ej h k;have:0<val (Sy a.1 a.2 b.1 b.2):=by rw[u3];unfold vD at d;grind
 have:=(pK u1).1 this
 lia
theorem O5(h:bV a.1 a.2 30)(k:bV b.1 b.2 30)(d:0<=vD a b):Nv (yK a b).1 (yK a b).2 130:=by
 obtain⟨u1,u2,u3⟩:=Ej h k;obtain⟨i1,i2,i3⟩:=Ka u1 (Ek h k d);exact(iH (mB h.nv k.nv) i1).up ⋯
theorem Zd(h:bV a.1 a.2 30)(k:bV b.1 b.2 30)(d:0<=vD a b):val (yK a b).1*(1+vD a b)=val a.1+val b.1/\val (yK a b).2*(1+vD a b)=val a.2+val b.2:=by
 obtain⟨u1,u2,u3⟩:=Ej h k;have n0:=Ek h k d;obtain⟨i1,i2,i3⟩:=Ka u1 n0;have a':=mB h.nv k.nv;have vn:=DC u1 n0;have e:1+vD a b=val (Sy a.1 a.2 b.1 b.2):=u3.symm;constructor
 ·show val (aH _ _)*_=_;rw[aR a'.x i1,i3,a7 h.nv.x k.nv.x,e];grind
 ·show val (aH _ _)*_=_;rw[aR a'.y i1,i3,a7 h.nv.y k.nv.y,e];grind
def Ae(a b:Fr×Fr):Rat:=vX a b/(1+vD a b)
theorem Nn(x:0<vX a b)(d:0<=vD a b):0<Ae a b:=by
 have h1:0<1+vD a b:=by grind
 have e:Ae a b*(1+vD a b)=vX a b:=by
   unfold Ae;have:(1+vD a b)≠0:=by grind
   grind
 exact bS h1 (by rw[e];exact x)
theorem Iv(h:bV a.1 a.2 30)(k:bV b.1 b.2 30)(d:0<=vD a b):
  (val (yK a b).1=val a.1-Ae a b*val a.2/\val (yK a b).2=val a.2+Ae a b*val a.1)/\(val (yK a b).1=val b.1+Ae a b*val b.2/\val (yK a b).2=val b.2-Ae a b*val b.1):=by
 obtain⟨e1,e2⟩:=Zd h k d;have n:(1+vD a b)≠0:=by grind
 have el:Ae a b*(1+vD a b)=vX a b:=by unfold Ae;grind
 have o1:=h.one;have o2:=k.one;generalize val (yK a b).1=t1 at e1⊢;generalize val (yK a b).2=t2 at e2⊢;generalize Ae a b=l at el⊢;have c:∀z w:Rat,(z-w)*(1+vD a b)=0->z=w:=λz w h=>by
  obtain q|q:=Rat.mul_eq_zero.mp h
  ·grind
  ·exact absurd q n
 unfold vX vD at *;refine⟨⟨c _ _ ?_,c _ _ ?_⟩,⟨c _ _ ?_,c _ _ ?_⟩⟩<;>grind
structure UB(u w:Fr×Fr)(s:Int)(us:List (Fr×Fr)):Prop where
 U:Us u w us
 nd:us.Nodup
 ex:∃m m',uU w.1 w.2 m u.1 u.2/\uU (aN u.1) u.2 m' (aN w.1) w.2/\sU u.1 u.2 w.1 w.2 s m m'=us.map bB
theorem IF{u w:Fr×Fr}{s:Int}(h:bV u.1 u.2 4)(k:bV w.1 w.2 4)(ne:w≠u)(hs:s=1\/s=2\/s=3)(hm:m<=3)(hm':m'<=3)(r:uU w.1 w.2 m u.1 u.2)(r':uU (aN u.1) u.2 m' (aN w.1) w.2):
  ∃us,UB u w s us:=by
 have E:cU u.1 u.2 w.1 w.2 4 4 s m m':=⟨h,k,∅,∅,∅,hs,hm,hm',r,r'⟩;obtain⟨us,e,U⟩:=IK h k (λz=>ne (Prod.ext z.1 z.2)) hs hm hm' r r';have ss:=E.ub.1;rw[e]at ss;exact⟨us,U,(List.pairwise_map.mp ss).imp λ{a b}lt z=>by rw[z]at lt;exact absurd lt (Rat.lt_irrefl),m,m',r,r',e⟩
noncomputable def Ss (u w:Fr×Fr) (s:Int):List (Fr×Fr):=Classical.epsilon (UB u w s)
theorem dS{u:Fr×Fr}{w:Fr×Fr}{s:Int}(h:bV u.1 u.2 4)(k:bV w.1 w.2 4)(ne:w≠u)(hs:s=1\/s=2\/s=3):UB u w s (Ss u w s):=by
 obtain⟨m,hm,r⟩:=Dj h k;obtain⟨m',hm',r'⟩:=Dj k.flip h.flip;exact Classical.epsilon_spec (IF h k ne hs hm hm' r r')
theorem uT{u:Fr×Fr}{w:Fr×Fr}{s:Int}(h:bV u.1 u.2 4)(k:bV w.1 w.2 4)(ne:w≠u)(hs:s=1\/s=2\/s=3)(r:uU w.1 w.2 m u.1 u.2)(r':uU (aN u.1) u.2 m' (aN w.1) w.2):sU u.1 u.2 w.1 w.2 s m m'=(Ss u w s).map bB:=by
 obtain⟨_,_,n,n',t,t',f⟩:=dS h k ne hs;rw[xS r t,xS r' t',f]
def d0:Fr×Fr:=((0,1),(0,1))
def bp(P:Fr×Fr)(p:Fr)(r:Fr×Fr):Fr×Fr:=(aV P.1 (aH r.1 p),aV P.2 (aH r.2 p))
theorem P6{P r:Fr×Fr}(nP:Nv P.1 P.2 e)(nr:Nv r.1 r.2 f)(np:bF p)(sp:sz p<=g):Nv (bp P p r).1 (bp P p r).2 (e+f+g+1):=by
 have m:=iH nr np;exact(mB nP m).up ⋯
theorem nI{P r:Fr×Fr}(nP:Nv P.1 P.2 e)(nr:Nv r.1 r.2 f)(np:bF p):val (bp P p r).1=val P.1+val r.1*val p/\val (bp P p r).2=val P.2+val r.2*val p:=
 ⟨by show val (aV _ _)=_;rw[a7 nP.x (aK nr.x np),aR nr.x np],by show val (aV _ _)=_;rw[a7 nP.y (aK nr.y np),aR nr.y np]⟩
def gU(us:List (Fr×Fr))(i:Nat):Fr×Fr:=us.getD i d0
def zF(us:List (Fr×Fr))(i:Nat):Fr×Fr:=yK (gU us i) (gU us (i+1))
def kE(us:List (Fr×Fr)):List (Fr×Fr):=(OQ (us.length-1)).map (zF us)
def dM(us:List (Fr×Fr)):List (Fr×Fr):=gU us 0::(kE us++[gU us (us.length-1)])
def e7(us:List (Fr×Fr))(j:Nat):Fr×Fr:=if j%2=0 then gU us (j/2)else zF us (j/2)
def Ep(us:List (Fr×Fr)):List (Fr×Fr):=(OQ (2*us.length-1)).map (e7 us)
theorem Us.at_{u:Fr×Fr}{w:Fr×Fr}{us:List (Fr×Fr)}(U:Us u w us){i:Nat}(h:i<us.length):us[i]?=oZ (gU us i)/\bV (gU us i).1 (gU us i).2 30:=by
 have e:us[i]?=oZ (gU us i):=by unfold gU;rw[OU,NW h];rfl
 exact⟨e,U.uv _ (NX e)⟩
theorem Us.step{u:Fr×Fr}{w:Fr×Fr}{us:List (Fr×Fr)}(U:Us u w us){i:Nat}(h:i+1<us.length):0<=vD (gU us i) (gU us (i+1))/\Nv (zF us i).1 (zF us i).2 130/\0<Ae (gU us i) (gU us (i+1))/\
  (val (zF us i).1=val (gU us i).1-Ae (gU us i) (gU us (i+1))*val (gU us i).2/\val (zF us i).2=val (gU us i).2+Ae (gU us i) (gU us (i+1))*val (gU us i).1):=by
 obtain⟨a1,a2⟩:=U.at_ (i:=i) ⋯;obtain⟨b1,b2⟩:=U.at_ h;obtain⟨x,d⟩:=U.nb i _ _ a1 b1;exact⟨d,O5 a2 b2 d,Nn x d,(Iv a2 b2 d).1⟩
theorem xQ:(dM us).length=us.length-1+2:=by unfold dM kE;simp
theorem Us.rays{u:Fr×Fr}{w:Fr×Fr}{us:List (Fr×Fr)}(U:Us u w us):3<=(dM us).length/\(dM us).length<=40/\∀r∈dM us,Nv r.1 r.2 130:=by
 have n2:=U.n2;have n30:=U.n30;have len:=xQ (us:=us);refine⟨⋯,⋯,λr hr=>?_⟩;obtain rfl|hr:=NZ.mp hr
 ·exact(U.at_ ⋯).2.nv.up ∅
 ·obtain hr|hr:=OZ.mp hr
  ·obtain⟨i,hi,rfl⟩:=QK.mp hr;have:=QH.mp hi;exact(U.step (i:=i) ⋯).2.1
  ·rw[PD.mp hr];exact(U.at_ ⋯).2.nv.up ∅
theorem Zn:(Ep us).length=2*us.length-1:=by unfold Ep;simp
theorem V5(h:j<2*us.length-1):(Ep us)[j]?=oZ (e7 us j):=by unfold Ep;rw[NY,RH h];rfl
theorem Us.wt{u:Fr×Fr}{w:Fr×Fr}{us:List (Fr×Fr)}(U:Us u w us){j:Nat}(h:j<2*us.length-1):Nv (e7 us j).1 (e7 us j).2 130:=by
 unfold e7
 split
 ·exact(U.at_ ⋯).2.nv.up ∅
 ·exact(U.step ⋯).2.1
theorem Us.atl{u:Fr×Fr}{w:Fr×Fr}{us:List (Fr×Fr)}(U:Us u w us):eZ (us.map bB) (-1)=oZ (bB (gU us (us.length-1))):=by
 have n2:=U.n2;obtain⟨L,p,e⟩:∃L p,us=L++[p]:=⟨us.dropLast,us.getLast (by intro z;rw[z]at n2;simp at n2),(SJ _).symm⟩;have g:gU us (us.length-1)=p:=by rw[e];unfold gU;simp[OU]
 rw[g,e,OR];exact My.rW _ _
end
def k6(z:Str):List Nat:=z.cps.toList
def MM(c:Nat):Bool:=(OW "lrbe-").cps.contains c
structure Mk(n:Nat)(z:Str):Prop where
 len:z.length=n
 ok:∀c∈k6 z,MM c=true
theorem Ec(z:Str):z.length=(k6 z).length:=rfl
theorem Mk.of(h:((k6 z).length==n&&(k6 z).all MM)=true):Mk n z:=by
 rw[PF]at h;exact⟨(by simpa using h.1:(k6 z).length=n),λc hc=>SK.mp h.2 c hc⟩
theorem Eb(a b:Str):k6 (a++b)=k6 a++k6 b:=by
 show(a.cps++b.cps).toList=_;rw[Array.toList_append];rfl
theorem Mk.app(h:Mk n a)(k:Mk m b):Mk (n+m) (a++b):=
 ⟨by rw[Ec,Eb,OB,<-Ec,<-Ec,h.len,k.len],λc hc=>by
  rw[Eb]at hc;exact(OZ.mp hc).elim (h.ok c) (k.ok c)⟩
theorem z7(z:Array Nat):∀(n:Nat)(acc:Array Nat),(TU (λx y=>x++y) acc (OE n z)).toList=acc.toList++(OE n z.toList).flatten
 |0,acc=>by simp
 |n+1,acc=>by rw[PY,List.foldl_cons,z7 z n,Array.toList_append,PY,RB,OM]
theorem Mk.mul(h:Mk 1 c)(k:Nat)(hk:1<=k):Mk k (Txt.mul c (k:Int)):=by
 unfold Txt.mul;rw[oW ⋯]
 split
 ·rename_i h1;have:k=1:=by
   rw[Bool.or_eq_true]at h1;obtain h1|h1:=h1
   ·have:(k:Int)=1:=by simpa using h1
    lia
   ·rw[h.len]at h1;cases h1
  rw[this];exact h
 ·have e:k6 ⟨TU (λx1 x2=>x1++x2) #[] (OE (k:Int).toNat c.cps)⟩=(OE k (k6 c)).flatten:=by
   show VM (TU (λx y=>x++y) #[] (OE (k:Int).toNat c.cps))=_;rw[z7,PR];rfl
  refine⟨?_,λx hx=>?_⟩
  ·rw[Ec,e];have h1:(k6 c).length=1:=h.len;simp[h1]
  ·rw[e]at hx;obtain⟨l,hl,hx⟩:=UT.mp hx;rw[List.eq_of_mem_replicate hl]at hx;exact h.ok x hx
section
variable{P:VQ}{w:VU}{K:W.Frag}{mg:Str->Option oA}{base:oE}
theorem IS(h:(gZ (us.map bB) (fO (us.map bB) (oZ 1) none))[i]?=oZ t):i+1<us.length/\t = .tup [bB (gU us i),bB (gU us (i+1))]:=by
 obtain⟨u,v,h1,h2,rfl⟩:=pL h;have e1:=fD (us.map bB) 1;rw[show fO (us.map bB) (oZ 1) none=(us.map bB).drop 1 from e1,SH,NY]at h2;rw[NY]at h1;obtain⟨a,ha,rfl⟩:=PH.mp h1;obtain⟨b,hb,rfl⟩:=PH.mp h2;rw[RX 1 i]at hb;have l:=(NV.mp hb).1;have ga:gU us i=a:=by unfold gU;rw[OU,ha];rfl
 have gb:gU us (i+1)=b:=by unfold gU;rw[OU,hb];rfl
 exact⟨l,by rw[ga,gb]⟩
theorem DE(us:List (Fr×Fr)):(gZ (us.map bB) (fO (us.map bB) (oZ 1) none)).length=us.length-1:=by
 have e1:=fD (us.map bB) 1;rw[jQ,show fO (us.map bB) (oZ 1) none=(us.map bB).drop 1 from e1,RC,OD]
 lia
theorem dJ:∀l:List (Fr×Fr),bL (l.map bB)=true
 |[]=>rfl
 |a::l=>by show(noL (bB a)&&bL (l.map bB))=true;rw[dJ l];rfl
def V0:dG:=λas Q=>∃(u w:Fr×Fr)(us:List (Fr×Fr)),as=[.v (.lst (us.map bB))]/\Us u w us/\Q (.l ((kE us).map bB)) []
abbrev qJ(P w K mg base):=(~~~Fn) 6 "tips_of" ["units"] (aJ K V0)
abbrev tV:VS:=top 52
theorem Ls:aF ["units"] ["units"] (aC tV):=dH
theorem Kt(F:cL K "tips_of" "tips_of" tV f fd)(TX:Txt mg)(fq: ~~~zN):(~~~aT) cO 6 f fd ["units"] (aJ K V0):=by
 refine F.okU Ls (λhr=>(aE (aG (iP (N':=oG) (t:=2) (cap:=[]) rfl (bM.of rfl) rfl ∅ (Bz rfl rfl TX.n_zip (f2 (fv 0) (iD rfl (fv 0) (gG aA) pN))) (λ_ _ _ _=>(dE (n:=2) rfl rfl (aQ (fH 0) (aQ (fH 1) cH)))) (λ_ _ _ _=>(fK fq (f2 (fv 0) (fv 1)))))))) ?_;rintro as Q ⟨u,w,us,rfl,U,q⟩;have n30:=U.n30;refine⟨rfl,?_⟩;refine cY (λi E=>∃v0 v1,E=[v0,v1,↥(((OQ i).map (zF us)).map bB)]) ⟨none,none,rfl⟩ ?_ ?_
 ·rintro i t rest E hi ⟨v0,v1,rfl⟩ KK;obtain⟨l,rfl⟩:=IS hi;obtain⟨a1,a2⟩:=U.at_ (i:=i) ⋯;obtain⟨b1,b2⟩:=U.at_ l;obtain⟨_,d⟩:=U.nb i _ _ a1 b1;refine⟨_,_,_,_,rfl,a2.up ∅,b2.up ∅,Ek a2 b2 d,?_⟩;refine⟨by show(List.map bB (List.map (zF us) (OQ i))).length<9000;simp;lia,KK _ ⟨⇑(bB (gU us i)),⇑(bB (gU us (i+1))),?_⟩⟩;rw[RS,OR,OR];rfl
 ·rintro E ⟨v0,v1,rfl⟩;rw[DE];exact⟨dJ _,dJ _,q⟩
def U5:dG:=λas Q=>∃(u w:Fr×Fr)(us:List (Fr×Fr)),as=[.v (.lst (us.map bB)),.v (.bl false)]/\Us u w us/\Q (.l ((dM us).map bB)) []
abbrev lX(P w K mg base):=(~~~Fn) 7 "rays_of" ["units","is_least"] (aJ K U5)
abbrev tR:VS:=top 53
theorem Lr:aF ["units","is_least"] ["units","is_least"] (aC tR):=dH
theorem Ko(F:cL K "rays_of" "rays_of" tR f fd)(TX:Txt mg)(ZP: ~~~qJ):(~~~aT) cO 7 f fd ["units","is_least"] (aJ K U5):=by
 refine F.okU Lr (λhr=>(aB (cD (iF (fv 1)) (aE (aG (fv 0))) bR) (aE (aG (l8 (l8 (cV (f1 (fQ 0))) (fK ZP (f1 (fv 0)))) (cV (f1 (fX (fv 0) (eV aA))))))))) ?_;rintro as Q ⟨u,w,us,rfl,U,q⟩;have n30:=U.n30;have n2:=U.n2;show o1 (eZ (us.map bB) ((0:Nat):Int)) _;rw[iO (show(us.map bB)[0]?=oZ (bB (gU us 0)) by rw[NY,(U.at_ (i:=0) ⋯).1];rfl)];refine⟨u,w,us,rfl,U,?_⟩;refine⟨by show 1+((kE us).map bB).length<=9000;unfold kE;simp;lia,?_⟩;show o1 (eZ (us.map bB) (-1)) _;rw[U.atl];refine⟨by show(bB (gU us 0)::(kE us).map bB).length+1<=9000;unfold kE;simp;lia,?_⟩;have e:(bB (gU us 0)::(kE us).map bB)++[bB (gU us (us.length-1))]=(dM us).map bB:=by
  unfold dM;rw[PZ,OR];rfl
 refine⟨?_,?_⟩
 ·show bL ((bB (gU us 0)::(kE us).map bB)++[bB (gU us (us.length-1))])=true;rw[e];exact dJ _
 ·rw[<-e]at q;exact q
def Zt(w:Str)(i:Nat)(V:List (Fr×Fr))(mk:Str):L2.T:=.tup [.str w,.int (i:Int),.tup (V.map bB),.str mk]
theorem nY(w:Str)(i:Nat)(V:List (Fr×Fr))(mk:Str):noL (Zt w i V mk)=true:=by
 show(true&&(true&&(bL (V.map bB)&&(true&&true))))=true;rw[dJ];rfl
def P8(c:Str)(k:Nat):Str:=(OW "-"++Txt.mul c (k:Int))++OW "-"
def sX(wd:Str)(i:Nat)(P:Fr×Fr)(p:Fr)(us:List (Fr×Fr))(c:Str):L2.T:=Zt wd i (P::(dM us).map (bp P p)) (P8 c us.length)
def HN:dG:=λas Q=>∃(u w:Fr×Fr)(wd:Str)(i:Nat)(P:Fr×Fr)(p:Fr)(us:List (Fr×Fr))(c:Str),as=[.v (.str wd),.v (.int (i:Int)),.v (bB P),.v (fr p),.v (.lst ((dM us).map bB)),.v (.str c)]/\Nv P.1 P.2 14/\Fw p/\Us u w us/\Mk 1 c/\Q (.v (sX wd i P p us c)) []
abbrev Bf(P w K mg base):=(~~~Fn) 5 "fan" ["word","number","point","far","rays","mark"] (aJ K HN)
abbrev Xt:VS:=top 54
theorem Xy:aF ["word","number","point","far","rays","mark","outline"] ["word","number","point","far","rays","mark"] (aC Xt):=dH
theorem AR(F:cL K "fan" "fan" Xt f fd)(TX:Txt mg)(ZC: ~~~rQ)(YO: ~~~lA):(~~~aT) cO 5 f fd ["word","number","point","far","rays","mark"] (aJ K HN):=by
 refine F.okU Xy (λhr=>(aB (fS 6 Xy.nd (l8 (cV (f1 (fv 2))) (iP (N':=["ray","point","far"]) (t:=1) (cap:=[(2,false),(3,false)]) rfl (bM.of rfl) rfl ∅ (kM rfl (fv 4)) (λ_ _ _ _=>(fH 0)) (λ_ _ _ _=>(fK ZC (f2 (fv 1) (fK YO (f2 (fv 0) (fv 2))))))))) (aE (aG (aM (f4 (fv 0) (fv 1) (Gj rfl rfl TX.n_tuple (f1 (fv 6))) (Nc (Nc bG (E7 (fv 5) (aY iJ (fR rfl rfl TX.n_len (f1 (fv 4))) aA))) bG))))))) ?_;rintro as Q ⟨u,w,wd,i,P,p,us,c,rfl,nP,fw,U,hc,q⟩;obtain⟨n3,n40,nv⟩:=U.rays;have rl:=xQ (us:=us);have n2:=U.n2;refine⟨rfl,?_⟩;refine cY (λi E=>∃v0,E=[v0,⇑(bB P),⇑(fr p),↥((((dM us).take i).map (bp P p)).map bB)]) ⟨none,rfl⟩ ?_ ?_
 ·rintro i t rest E hi ⟨v0,rfl⟩ KK;rw[NY]at hi;obtain⟨r,hr,rfl⟩:=PH.mp hi;have nr:=nv r (NX hr);have il:=(NV.mp hr).1;refine⟨r.1,r.2,p,130,rfl,nr,fw.n,by have:=fw.s;lia,?_⟩;refine⟨P.1,P.2,_,_,14,130+sz p,rfl,nP,iH nr fw.n,by have:=fw.s;lia,?_⟩;refine⟨by show((((dM us).take i).map (bp P p)).map bB).length<9000;simp;lia,KK _ ⟨⇑(bB r),?_⟩⟩;rw[RW,hr,SX,OR,OR];rfl
 ·rintro E ⟨v0,rfl⟩;rw[OD,SA];refine⟨dJ _,by show 1+(((dM us).map (bp P p)).map bB).length<=9000;simp;lia,?_⟩;have ej:((((dM us).map bB).length:Nat):Int)-1=(us.length:Int):=by rw[OD];lia
  have bb:∀{k:Nat},k<=100->k<=big:=λh=>PQ h ∅;have m1:Mk 1 (OW "-"):=Mk.of (by decide +kernel);refine⟨⟨by rw[ej];lia,by rw[ej];exact Int.ofNat_le.mpr (bb ⋯),by rw[ej,PR,hc.len];exact bb ⋯⟩,?_⟩;rw[ej];rintro z1 rfl;have m2:=hc.mul us.length ⋯;refine⟨by rw[m1.len,m2.len];exact bb ⋯,?_⟩;rintro z2 rfl;have m3:=m1.app m2;refine⟨by rw[m3.len,m1.len];exact bb ⋯,?_⟩;rintro z3 rfl;exact⟨nY wd i (P::(dM us).map (bp P p)) (P8 c us.length),q⟩
theorem Pm.nbr(h:Pm a b ms)(hi:ms[i]?=oZ m)(hk:ms[cE i ms.length]?=oZ mb):
  Nb a b (cM a b ms) i (rK (px a b ms i) (py a b ms i) m) (rK (px a b ms (cE i ms.length)) (py a b ms (cE i ms.length)) mb) (u4 m) (u4 mb)/\
  uE a b (cM a b ms) i (rK (px a b ms (cE i ms.length)) (py a b ms (cE i ms.length)) mb) (u4 mb)=eU mb/\uB a b (cM a b ms) i (rK (px a b ms i) (py a b ms i) m) (u4 m)=bU m:=by
 refine⟨⟨h.at_ hi,by rw[dI];exact h.at_ hk⟩,?_,?_⟩
 ·show hE _ _ _ _=_;rw[dI];exact(Ux (h.nv _) (h.ok _ (NX hk))).2
 ·exact(Ux (h.nv _) (h.ok _ (NX hi))).1
theorem yQ(u w:Fr×Fr):b7 u w = "straight"\/(b7 u w = "left"/\0<(aX u.1 u.2 w.1 w.2).1)\/(b7 u w = "right"/\(aX u.1 u.2 w.1 w.2).1<0)\/b7 u w = "back":=by
 unfold b7
 split
 ·exact .inl rfl
 ·split
  ·rename_i h;exact .inr (.inl ⟨rfl,h⟩)
  ·split
   ·rename_i h;exact .inr (.inr (.inl ⟨rfl,h⟩))
   ·exact .inr (.inr (.inr rfl))
abbrev vQ(u:Fr×Fr):Fr×Fr:=(u.2,aN u.1)
abbrev uO(u:Fr×Fr):Fr×Fr:=(aN u.2,u.1)
theorem qG(h:bV u.1 u.2 e):bV (vQ u).1 (vQ u).2 e/\bV (uO u).1 (uO u).2 e:=by
 refine⟨⟨⟨h.nv.y,eQ h.nv.x,h.nv.sy,by show sz (aN u.1)<=e;rw[pJ];exact h.nv.sx⟩,?_⟩,h.left⟩;show val u.2*val u.2+val (aN u.1)*val (aN u.1)=1;rw[bC h.nv.x];have:=h.one;grind
theorem HB{u w:Fr×Fr}(h:bV u.1 u.2 e)(k:bV w.1 w.2 f):vX (vQ u) (vQ w)=vX u w/\vX (uO u) (uO w)=vX u w/\vX (vQ u) (uO u)=0/\vX (uO u) (vQ u)=0:=by
 have a:=bC h.nv.x;have b:=bC h.nv.y;have c:=bC k.nv.x;have d:=bC k.nv.y;unfold vX vQ uO;simp only;rw[a,b,c,d];exact⟨by grind,by grind,by grind,by grind⟩
theorem sL(h:bV u.1 u.2 e):¬(uO u=vQ u):=λz=>by
 have e1:aN u.2=u.2:=congrArg Prod.fst z;have e2:u.1=aN u.1:=congrArg Prod.snd z;have v1:=bC h.nv.y;rw[e1]at v1;have v2:=bC h.nv.x;rw[<-e2]at v2;have o:=h.one;have z1:val u.1=0:=by grind
 have z2:val u.2=0:=by grind
 rw[z1,z2]at o;grind
theorem IP(h:0<vX a b):¬(b=a):=λz=>by subst z;unfold vX at h;grind
noncomputable def wW (u w:Fr×Fr) (s:Int):List (Fr×Fr):=if b7 u w = "left" then Ss (vQ u) (vQ w) s else if b7 u w = "right" then Ss (uO w) (uO u) s else Ss (vQ u) (uO u) s
def D5(wd:Str):Str:=if wd = "left" then "r" else if wd = "right" then "l" else "b"
theorem sY{u w:Fr×Fr}{s:Int}(ue:bV u.1 u.2 4)(ub:bV w.1 w.2 4){G:Prop}(h1:u=w->b7 u w = "straight"->G)(h2:b7 u w = "left"->vQ w≠vQ u->wW u w s=Ss (vQ u) (vQ w) s->G)(h3:b7 u w = "right"->uO u≠uO w->wW u w s=Ss (uO w) (uO u) s->G)(h4:b7 u w = "back"->uO u≠vQ u->wW u w s=Ss (vQ u) (uO u) s->G):G:=by
 obtain⟨x1,_,_,_⟩:=HB ue ub;have y2:vX (uO w) (uO u)=vX w u:=(HB ub ue).2.1;have vx:val (aX u.1 u.2 w.1 w.2)=vX u w:=dR ue.nv ub.nv;have nx:=cJ ue.nv ub.nv
 by_cases e:u=w
 ·exact h1 e (by unfold b7;rw[oV e])
 obtain c|⟨c,c0⟩|⟨c,c0⟩|c:=yQ u w
 ·refine absurd c ?_;unfold b7;rw[oW e]
  split
  ·decide
  ·split
   ·decide
   ·decide
 ·have p0:=(pK nx).2 c0;rw[vx,<-x1]at p0;exact h2 c (IP p0) (by unfold wW;rw[oV c])
 ·have p0:=(El nx).2 c0;rw[vx]at p0;have p1:0<vX w u:=by unfold vX at *;grind
  rw[<-y2]at p1;exact h3 c (IP p1) (by unfold wW;rw[c,oW ∅,oV rfl])
 ·exact h4 c (sL ue) (by unfold wW;rw[c,oW ∅,oW ∅])
def T6:dG:=λas Q=>∃(a b:Fr)(ms:List Mv)(i:Nat)(m mb:Mv)(s:Int),as=[.v (cA a b (cM a b ms)),.v (.int (i:Int)),.v (.str (b7 (eU mb) (bU m))),.v (.int s)]/\Pm a b ms/\ms[i]?=oZ m/\ms[cE i ms.length]?=oZ mb/\
 b7 (eU mb) (bU m)≠"straight"/\(s=1\/s=2\/s=3)/\∀x y,Us x y (wW (eU mb) (bU m) s)->Q (.l ((wW (eU mb) (bU m) s).map bB)) []
abbrev rN(P w K mg base):=(~~~Fn) 10 "fan_units" ["path","number","word","steps"] (aJ K T6)
abbrev oS:VS:=top 55
theorem mN:aF ["path","number","word","steps","u","w"] ["path","number","word","steps"] (aC oS):=dH
theorem Cs(F:cL K "fan_units" "fan_units" oS f fd)(TX:Txt mg)(YL: ~~~fN)(XW: ~~~cR)(YE: ~~~iA)(YH: ~~~iZ):(~~~aT) cO 10 f fd ["path","number","word","steps"] (aJ K T6):=by
 refine F.okU mN (λhr=>(aB (d6 (fK YL (f2 (fv 0) (fv 1))) (dE (n:=2) rfl rfl (aQ (fG 4 mN.nd) (aQ (fG 5 mN.nd) cH)))) (aB (cD (gJ rfl hr (fv 2) bG (bK _)) (aE (aG (fK XW (f3 (fK YH (f1 (fv 4))) (fK YH (f1 (fv 5))) (fv 3))))) bR) (aB (cD (gJ rfl hr (fv 2) bG (bK _)) (aE (aG (fK XW (f3 (fK YE (f1 (fv 5))) (fK YE (f1 (fv 4))) (fv 3))))) bR) (aE (aG (fK XW (f3 (fK YH (f1 (fv 4))) (fK YE (f1 (fv 4))) (fv 3))))))))) ?_;rintro as Q ⟨a,b,ms,i,m,mb,s,rfl,h,hi,hk,ns,hs,q⟩;obtain⟨nb,e1,e2⟩:=h.nbr hi hk;have ue:=(h.ok _ (NX hk)).eu;have ub:=(h.ok _ (NX hi)).bu;refine⟨a,b,_,i,_,_,_,_,rfl,nb,?_⟩;rw[e1,e2];generalize eU mb=u at *;generalize bU m=w at *;obtain⟨r1,l1⟩:=qG ue;obtain⟨r2,l2⟩:=qG ub;refine⟨OG _,?_⟩;refine sY (s:=s) ue ub (λ_ c=>absurd c ns) (λc n e=>?_) (λc n e=>?_) (λc n e=>?_)
 ·rw[c];rw[e]at q;refine⟨u.1,u.2,rfl,w.1,w.2,rfl,_,_,_,_,s,4,4,rfl,r1,r2,∅,∅,∅,hs,λk k' _ _ r r'=>?_⟩;rw[show sU _ _ _ _ s k k'=_ from uT r1 r2 n hs r r'];exact⟨dJ _,q _ _ (dS r1 r2 n hs).U⟩
 ·rw[c];rw[e]at q;refine⟨OG _,w.1,w.2,rfl,u.1,u.2,rfl,_,_,_,_,s,4,4,rfl,l2,l1,∅,∅,∅,hs,λk k' _ _ r r'=>?_⟩;rw[show sU _ _ _ _ s k k'=_ from uT l2 l1 n hs r r'];exact⟨dJ _,q _ _ (dS l2 l1 n hs).U⟩
 ·rw[c];rw[e]at q;refine⟨OG _,u.1,u.2,rfl,u.1,u.2,rfl,_,_,_,_,s,4,4,rfl,r1,l1,∅,∅,∅,hs,λk k' _ _ r r'=>?_⟩;rw[show sU _ _ _ _ s k k'=_ from uT r1 l1 n hs r r'];exact⟨dJ _,q _ _ (dS r1 l1 n hs).U⟩
def T2:dG:=λas Q=>∃(a b:Fr)(ms:List Mv)(i:Nat)(m mb:Mv)(p:Fr)(s:Int),as=[.v (cA a b (cM a b ms)),.v (.int (i:Int)),.v (.str (b7 (eU mb) (bU m))),.v (fr p),.v (.int s),.v (.bl false)]/\Pm a b ms/\ms[i]?=oZ m/\ms[cE i ms.length]?=oZ mb/\
 b7 (eU mb) (bU m)≠"straight"/\Fw p/\(s=1\/s=2\/s=3)/\Q (.v (sX "fan" i (px a b ms i,py a b ms i) p (wW (eU mb) (bU m) s) (D5 (b7 (eU mb) (bU m))))) []
abbrev pY(P w K mg base):=(~~~Fn) 11 "corner_fan" ["path","number","word","far","steps","is_least"] (aJ K T2)
abbrev mG:VS:=top 56
theorem qH:aF ["path","number","word","far","steps","is_least","rays"] ["path","number","word","far","steps","is_least"] (aC mG):=dH
theorem yZ(F:cL K "corner_fan" "corner_fan" mG f fd)(TX:Txt mg)(YY: ~~~lX)(bf: ~~~rN)(dj: ~~~Bf)(YM: ~~~iX)(bg:sV mg w K "FAN_MARKS" "left" "r" "right" "l" "back" "b"):(~~~aT) cO 11 f fd ["path","number","word","far","steps","is_least"] (aJ K T2):=by
 refine F.okU qH (λhr=>(aB (fS 6 qH.nd (fK YY (f2 (fK bf (f4 (fv 0) (fv 1) (fv 2) (fv 4))) (fv 5)))) (aE (aG (fK dj (fc bG (fc (fv 1) (f4 (fK YM (f2 (fv 0) (fv 1))) (fv 3) (fv 6) (Nd rfl rfl bg (fv 2) (λ_ _=>rfl)))))))))) ?_;rintro as Q ⟨a,b,ms,i,m,mb,p,s,rfl,h,hi,hk,ns,fw,hs,q⟩;have hl:=(NV.mp hi).1;refine⟨a,b,ms,i,m,mb,s,rfl,h,hi,hk,ns,hs,λx y U=>?_⟩;refine⟨x,y,_,rfl,U,?_⟩;refine⟨a,b,_,i,rfl,by rw[dI];exact hl,?_⟩;have mc:uP "left" "r" "right" "l" "back" "b" (b7 (eU mb) (bU m))=oZ (D5 (b7 (eU mb) (bU m)))/\Mk 1 (D5 (b7 (eU mb) (bU m))):=by
  obtain c|⟨c,_⟩|⟨c,_⟩|c:=yQ (eU mb) (bU m)
  ·exact absurd c ns
  all_goals rw[c];exact⟨by decide +kernel,Mk.of (by decide +kernel)⟩
 obtain⟨ec,mc⟩:=mc;show o1 ((uP "left" "r" "right" "l" "back" "b" (b7 (eU mb) (bU m))).map L2.T.str) _;rw[ec];exact⟨x,y,_,i,(px a b ms i,py a b ms i),p,_,_,rfl,h.nv i,fw,U,mc,nY ..,q⟩
noncomputable def To (a b:Fr) (ms:List Mv) (p:Fr) (s:Int) (m:Mv):L2.T:=sX "cap" 0 (a,b) p (Ss (uO (bU m)) (vQ (bU m)) s) "e"
noncomputable def C5 (a b:Fr) (ms:List Mv) (p:Fr) (s:Int) (m:Mv):L2.T:=sX "cap" (ms.length-1) (px a b ms ms.length,py a b ms ms.length) p (Ss (vQ (eU m)) (uO (eU m)) s) "e"
def Yw:dG:=λas Q=>∃(a b:Fr)(ms:List Mv)(m:Mv)(p:Fr)(s:Int),as=[.v (cA a b (cM a b ms)),.v (fr p),.v (.int s),.v (.bl false)]/\Pm a b ms/\ms[0]?=oZ m/\Fw p/\(s=1\/s=2\/s=3)/\Q (.v (To a b ms p s m)) []
abbrev rS(P w K mg base):=(~~~Fn) 9 "start_cap" oJ (aJ K Yw)
abbrev pA:VS:=top 57
theorem mP:aF ["path","far","steps","is_least","u","rays"] oJ (aC pA):=dH
theorem Dc(F:cL K "start_cap" "start_cap" pA f fd)(TX:Txt mg)(YJ: ~~~iY)(YY: ~~~lX)(XW: ~~~cR)(YE: ~~~iA)(YH: ~~~iZ)(dj: ~~~Bf):(~~~aT) cO 9 f fd oJ (aJ K Yw):=by
 refine F.okU mP (λhr=>(aB (fS 4 mP.nd (fX (fK YJ (f2 (fv 0) aA)) aA)) (aB (fS 5 mP.nd (fK YY (f2 (fK XW (f3 (fK YE (f1 (fv 4))) (fK YH (f1 (fv 4))) (fv 2))) (fv 3)))) (aE (aG (fK dj (fc bG (fc aA (f4 (fQ 0) (fv 1) (fv 5) bG))))))))) ?_;rintro as Q ⟨a,b,ms,m,p,s,rfl,h,hi,fw,hs,q⟩;have pa:=h.at_ hi;have hd:=h.head hi;have ub:=(h.ok _ (NX hi)).bu;refine⟨a,b,_,0,_,_,rfl,pa,?_⟩;rw[hd];unfold To at q;generalize bU m=u at *;obtain⟨r1,l1⟩:=qG ub;refine⟨u.1,u.2,rfl,u.1,u.2,rfl,_,_,_,_,s,4,4,rfl,l1,r1,∅,∅,∅,hs,λk k' _ _ r r'=>?_⟩;rw[show sU _ _ _ _ s k k'=_ from uT l1 r1 (λz=>sL ub z.symm) hs r r'];have U:=(dS l1 r1 (λz=>sL ub z.symm) hs).U;exact⟨_,_,_,rfl,U,_,_,_,0,(a,b),p,_,_,rfl,h.nv 0,fw,U,Mk.of (by decide +kernel),nY ..,q⟩
def HM:dG:=λas Q=>∃(a b:Fr)(ms:List Mv)(m:Mv)(p:Fr)(s:Int),as=[.v (cA a b (cM a b ms)),.v (fr p),.v (.int s),.v (.bl false)]/\Pm a b ms/\ms[ms.length-1]?=oZ m/\Fw p/\(s=1\/s=2\/s=3)/\Q (.v (C5 a b ms p s m)) []
abbrev vW(P w K mg base):=(~~~Fn) 9 "end_cap" oJ (aJ K HM)
abbrev tN:VS:=top 58
theorem mM:aF ["path","far","steps","is_least","last","u","rays"] oJ (aC tN):=dH
theorem Kk(F:cL K "end_cap" "end_cap" tN f fd)(TX:Txt mg)(YJ: ~~~iY)(YY: ~~~lX)(XW: ~~~cR)(YE: ~~~iA)(YH: ~~~iZ)(dj: ~~~Bf)(YC: ~~~fV):(~~~aT) cO 9 f fd oJ (aJ K HM):=by
 refine F.okU mM (λhr=>(aB (fS 4 mM.nd (aY iJ (fR rfl rfl TX.n_len (f1 (fQ 0))) aA)) (aB (fS 5 mM.nd (fX (fK YJ (f2 (fv 0) (fv 4))) aA)) (aB (fS 6 mM.nd (fK YY (f2 (fK XW (f3 (fK YH (f1 (fv 5))) (fK YE (f1 (fv 5))) (fv 2))) (fv 3)))) (aE (aG (fK dj (fc bG (fc (fv 4) (f4 (fK YC (f1 (fX (fQ 0) (fv 4)))) (fv 1) (fv 6) bG)))))))))) ?_;rintro as Q ⟨a,b,ms,m,p,s,rfl,h,hi,fw,hs,q⟩;have pa:=h.at_ hi;have hd:=h.head hi;have hp:=jC ms a b _ _ hi;have ub:=(h.ok _ (NX hi)).eu;have n1:=RI.mpr h.ne;obtain⟨ex,ey⟩:=pO (a:=a) (b:=b) hi;have nv:=h.nv (ms.length-1+1);have ej:((((cM a b ms).map jO).length:Nat):Int)-1=((ms.length-1:Nat):Int):=by rw[OD,dI];lia
 refine⟨a,b,_,ms.length-1,_,_,?_,pa,?_⟩
 ·show[A.v (cA a b (cM a b ms)),A.v (.int (((((cM a b ms).map jO).length:Nat):Int)-1))]=_;rw[ej]
 rw[hd];unfold C5 at q;generalize eU m=u at *;obtain⟨r1,l1⟩:=qG ub;refine⟨u.1,u.2,rfl,u.1,u.2,rfl,_,_,_,_,s,4,4,rfl,r1,l1,∅,∅,∅,hs,λk k' _ _ r r'=>?_⟩;rw[show sU _ _ _ _ s k k'=_ from uT r1 l1 (sL ub) hs r r'];have U:=(dS r1 l1 (sL ub) hs).U;refine⟨_,_,_,rfl,U,?_⟩;show o1 (eZ ((cM a b ms).map jO) (((((cM a b ms).map jO).length:Nat):Int)-1)) _;rw[ej,qF hp];refine⟨_,rfl,?_⟩;rw[show ms.length-1+1=ms.length by lia]at ex ey nv;rw[ex,ey]at nv q;exact⟨_,_,_,ms.length-1,(_,_),p,_,OW "e",rfl,nv,fw,U,Mk.of (by decide +kernel),nY ..,q⟩
def T1:dG:=λas Q=>∃(a b:Fr)(ms:List Mv)(i:Nat)(x y u v r:Fr)(l:Bool),as=[.v (cA a b (cM a b ms)),.v (.int (i:Int))]/\Pm a b ms/\ms[i]?=oZ (.arc x y u v r l)/\
 Q (.v (if l=true then .tup [vc (aH x r) (aH y r),vc (aH u r) (aH v r)]else .tup [vc (aH u r) (aH v r),vc (aH x r) (aH y r)])) []
abbrev m8(P w K mg base):=(~~~Fn) 5 "arc_vectors" oI (aJ K T1)
abbrev kX:VS:=top 27
theorem gP:aF ["path","number","piece","begin","to"] oI (aC kX):=dH
theorem xF(F:cL K "arc_vectors" "arc_vectors" kX f fd)(TX:Txt mg)(YS: ~~~k9)(YM: ~~~iX)(YC: ~~~fV):(~~~aT) cO 5 f fd oI (aJ K T1):=by
 refine F.okU gP (λhr=>(aB (fS 2 gP.nd (fX (fQ 0) (fv 1))) (aB (fS 3 gP.nd (fK YS (f2 (fK YM (f2 (fv 0) (fv 1))) (fQ 2)))) (aB (fS 4 gP.nd (fK YS (f2 (fK YC (f1 (fv 2))) (fQ 2)))) (aE (aG (nN (gJ rfl hr (fQ 2) bG (bK _)) (aM (f2 (fv 3) (fv 4))) (aM (f2 (fv 4) (fv 3)))))))))) ?_;rintro as Q ⟨a,b,ms,i,x,y,u,v,r,l,rfl,h,hi,q⟩;have hl:=(NV.mp hi).1;have hp:=jC ms a b _ _ hi;have ok:=h.ok _ (NX hi);have n0:=h.nv i;obtain⟨e1,e2,e3,e4⟩:=wI n0 ok;obtain⟨o1,o2,_,nr,sr,_⟩:=id ok;have sx:=lH o1.nv nr (show sz r<=4 by lia);have su:=lH o2.nv nr (show sz r<=4 by lia);have nm:=Cq n0 sx;have ne:=Ki nm su;show L2.o1 (eZ ((cM a b ms).map jO) (i:Int)) _;rw[qF hp]
 change Nv (cP a (RF i (cM a b ms))) (cQ b (RF i (cM a b ms))) 14 at n0
 change aS (cP a (RF i (cM a b ms))) (aS (cP a (RF i (cM a b ms))) (aH x r))=aH x r at e1
 change aS (cQ b (RF i (cM a b ms))) (aS (cQ b (RF i (cM a b ms))) (aH y r))=aH y r at e2
 refine⟨a,b,_,i,rfl,by rw[dI];exact hl,?_⟩;refine⟨_,_,_,_,14,_,rfl,n0,nm,∅,?_⟩;refine⟨_,rfl,?_⟩;refine⟨_,_,_,_,_,_,rfl,ne,nm,∅,?_⟩
 change aS (aV (aS (cP a (RF i (cM a b ms))) (aH x r)) (aH u r)) (aS (cP a (RF i (cM a b ms))) (aH x r))=aH u r at e3
 change aS (aV (aS (cQ b (RF i (cM a b ms))) (aH y r)) (aH v r)) (aS (cQ b (RF i (cM a b ms))) (aH y r))=aH v r at e4
 rw[e1,e2];show told _ _ (.v (vc (aS (aV (aS (cP a (RF i (cM a b ms))) (aH x r)) (aH u r)) (aS (cP a (RF i (cM a b ms))) (aH x r))) (aS (aV (aS (cQ b (RF i (cM a b ms))) (aH y r)) (aH v r)) (aS (cQ b (RF i (cM a b ms))) (aH y r)))));rw[e3,e4];refine⟨OG _,?_⟩;cases l with
 |true=>exact⟨rfl,q⟩
 |false=>exact⟨rfl,q⟩
noncomputable def cN (x y u v:Fr) (l:Bool) (s:Int):List (Fr×Fr):=if l=true then Ss (x,y) (u,v) s else Ss (u,v) (x,y) s
theorem Tf{s:Int}(ok:fT (.arc x y u v r l))(hs:s=1\/s=2\/s=3):∃a b,UB a b s (cN x y u v l s):=by
 obtain⟨o1,o2,ne,_⟩:=ok;cases l with
 |true=>exact⟨(x,y),(u,v),dS o1 o2 (λz=>ne ⟨(congrArg Prod.fst z).symm,(congrArg Prod.snd z).symm⟩) hs⟩
 |false=>exact⟨(u,v),(x,y),dS o2 o1 (λz=>ne ⟨congrArg Prod.fst z,congrArg Prod.snd z⟩) hs⟩
def S9:dG:=λas Q=>∃(a b:Fr)(ms:List Mv)(i:Nat)(x y u v r:Fr)(l:Bool)(s:Int),as=[.v (cA a b (cM a b ms)),.v (.int (i:Int)),.v (.int s)]/\Pm a b ms/\ms[i]?=oZ (.arc x y u v r l)/\(s=1\/s=2\/s=3)/\Q (.l ((cN x y u v l s).map bB)) []
abbrev rM(P w K mg base):=(~~~Fn) 8 "arc_units" ["path","number","steps"] (aJ K S9)
abbrev oR:VS:=top 59
theorem mL:aF ["path","number","steps","first","last"] ["path","number","steps"] (aC oR):=dH
theorem Cr(F:cL K "arc_units" "arc_units" oR f fd)(TX:Txt mg)(ae: ~~~m8)(XW: ~~~cR)(YW: ~~~lY):(~~~aT) cO 8 f fd ["path","number","steps"] (aJ K S9):=by
 refine F.okU mL (λhr=>(aB (d6 (fK ae (f2 (fv 0) (fv 1))) (dE (n:=2) rfl rfl (aQ (fG 3 mL.nd) (aQ (fG 4 mL.nd) cH)))) (aE (aG (fK XW (f3 (fK YW (f1 (fv 3))) (fK YW (f1 (fv 4))) (fv 2))))))) ?_;rintro as Q ⟨a,b,ms,i,x,y,u,v,r,l,s,rfl,h,hi,hs,q⟩;obtain⟨o1,o2,ne,nr,sr,r0,_⟩:=h.ok _ (NX hi);have l1:=sE o1 nr (show sz r<=4 by lia) r0;have l2:=sE o2 nr (show sz r<=4 by lia) r0;have ex:=fF o1.nv.x nr r0;have ey:=fF o1.nv.y nr r0;have eu:=fF o2.nv.x nr r0;have ev:=fF o2.nv.y nr r0;refine⟨a,b,ms,i,x,y,u,v,r,l,rfl,h,hi,?_⟩;cases l with
 |true=>
  refine⟨_,_,r,rfl,l1,_,_,r,rfl,l2,?_⟩;rw[ex,ey,eu,ev];refine⟨x,y,u,v,s,4,4,rfl,o1,o2,∅,∅,∅,hs,λk k' _ _ r1 r2=>?_⟩;rw[show sU _ _ _ _ s k k'=_ from uT (u:=(x,y)) (w:=(u,v)) o1 o2 (λz=>ne ⟨(congrArg Prod.fst z).symm,(congrArg Prod.snd z).symm⟩) hs r1 r2];exact⟨dJ _,q⟩
 |false=>
  refine⟨_,_,r,rfl,l2,_,_,r,rfl,l1,?_⟩;rw[ex,ey,eu,ev];refine⟨u,v,x,y,s,4,4,rfl,o2,o1,∅,∅,∅,hs,λk k' _ _ r1 r2=>?_⟩;rw[show sU _ _ _ _ s k k'=_ from uT (u:=(u,v)) (w:=(x,y)) o2 o1 (λz=>ne ⟨congrArg Prod.fst z,congrArg Prod.snd z⟩) hs r1 r2];exact⟨dJ _,q⟩
def wZ(r p ls:Fr):Fr:=if val r<=val p then(0,1)else aH (aS r p) (bX (aV (1,1) ls) (2,1))
theorem Jz(nr:bF r)(sr:sz r<=4)(fw:Fw p)(nl:bF ls)(sl:sz ls<=310)(l0:0<=val ls):bF (wZ r p ls)/\sz (wZ r p ls)<=340/\
  (wZ r p ls=(0,1)↔val r<=val p)/\(val p<val r->val (wZ r p ls)=(val r-val p)*((1+val ls)/2)):=by
 have sp:=fw.s;have p0:=fw.pos;have n1:=dB nr fw.n;have n2:=cI (aO 1) nl;have nt:bF ((2,1):Fr):=aO 2;have t0:((2,1):Fr).1≠0:=∅
 have s1:=mT nr fw.n;have s2:=gV (aO 1) nl;have s3:=pR n2 t0;have o:=Yk;have st:sz ((2,1):Fr)=2:=∅
 have n3:=j8 n2 t0;have s4:=cC n1 n3
 by_cases c:val r<=val p
 ·unfold wZ;rw[oV c];refine⟨aO 0,∅,by simp[c],λz=>by grind⟩
 ·unfold wZ;rw[oW c];have e:val (aH (aS r p) (bX (aV (1,1) ls) (2,1)))=(val r-val p)*((1+val ls)/2):=by
   rw[aR n1 n3,bQ nr fw.n,lL n2 nt t0,a7 (aO 1) nl,gW,iW];rfl
  have h1:0<(1+val ls)/2:=by grind
  have h3:0<val r-val p:=by grind
  have pos:=Rat.mul_pos h3 h1;refine⟨aK n1 n3,⋯,⟨λz=>?_,λz=>absurd z c⟩,λ_=>e⟩;rw[z,kQ]at e;grind
def Yt:dG:=λas Q=>∃r p ls:Fr,as=[.v (fr r),.v (fr p),.v (fr ls)]/\bF r/\sz r<=4/\Fw p/\bF ls/\sz ls<=310/\Q (.v (fr (wZ r p ls))) []
abbrev uH(P w K mg base):=(~~~Fn) 4 "inner_of" ["radius","far","least"] (aJ K Yt)
abbrev qW:VS:=top 60
theorem Ia:aF ["radius","far","least"] ["radius","far","least"] (aC qW):=dH
theorem Hl(F:cL K "inner_of" "inner_of" qW f fd)(TX:Txt mg)(YU: ~~~kH)(YF: ~~~jV)(YT: ~~~lB)(ZL: ~~~rP)(YD: ~~~gF)(ZS:mW mg K "NOUGHT" (.tup [.int 0,.int 1]))(ao:mW mg K "ONE_blocks" (.tup [.int 1,.int 1]))(qt:mW mg K "TWO" (.tup [.int 2,.int 1])):(~~~aT) cO 4 f fd ["radius","far","least"] (aJ K Yt):=by
 refine F.okU Ia (λhr=>(aB (cD (fP Wk (fK YU (f2 (fv 1) (fv 0))) aA) (aE (aG (iQ rfl ZS))) bR) (aE (aG (fK YF (f2 (fK YT (f2 (fv 0) (fv 1))) (fK ZL (f2 (fK YD (f2 (iQ rfl ao) (fv 2))) (iQ rfl qt))))))))) ?_;rintro as Q ⟨r,p,ls,rfl,nr,sr,fw,nl,sl,q⟩;have sp:=fw.s;refine⟨p,r,rfl,fw.n,nr,⋯,⋯,λk hk=>?_⟩;show if decide (k>=0)=true then _ else _;unfold wZ at q
 by_cases c:0<=k
 ·rw[oV (oY c)];rw[oV (by have:=hk.2;grind)]at q;exact⟨rfl,q⟩
 ·rw[oW (by simpa using c)];have lt:val p<val r:=hk.1 ⋯;rw[oW (by grind)]at q;have n1:=dB nr fw.n;have n2:=cI (aO 1) nl;have nt:bF ((2,1):Fr):=aO 2;have t0:((2,1):Fr).1≠0:=∅
  have s1:=mT nr fw.n;have s2:=gV (aO 1) nl;have s3:=pR n2 t0;have o:=Yk;have st:sz ((2,1):Fr)=2:=∅
  have n3:=j8 n2 t0;refine⟨r,p,rfl,nr,fw.n,⋯,?_⟩;refine⟨(1,1),ls,rfl,aO 1,nl,⋯,?_⟩;refine⟨_,(2,1),rfl,n2,nt,t0,⋯,?_⟩;exact⟨_,_,rfl,n1,n3,⋯,rfl,q⟩
theorem JD{u w:Fr×Fr}{us:List (Fr×Fr)}(U:Us u w us){i:Nat}(h:(gZ ((kE us).map bB) (fO (us.map bB) (oZ 1) none))[i]?=oZ t):i+1<us.length/\t = .tup [bB (zF us i),bB (gU us (i+1))]:=by
 obtain⟨x,y,h1,h2,rfl⟩:=pL h;have e1:=fD (us.map bB) 1;rw[show fO (us.map bB) (oZ 1) none=(us.map bB).drop 1 from e1,SH,NY,RX 1 i]at h2;obtain⟨b,hb,rfl⟩:=PH.mp h2;have l:=(NV.mp hb).1;rw[(U.at_ l).1]at hb;cases hb;unfold kE at h1;rw[NY,NY,RH ⋯]at h1;cases h1;exact⟨l,rfl⟩
theorem DF(us:List (Fr×Fr)):(gZ ((kE us).map bB) (fO (us.map bB) (oZ 1) none)).length=us.length-1:=by
 have e1:=fD (us.map bB) 1;rw[jQ,show fO (us.map bB) (oZ 1) none=(us.map bB).drop 1 from e1,RC,OD];unfold kE;simp
def V1:dG:=λas Q=>∃(u w:Fr×Fr)(us:List (Fr×Fr)),as=[.v (.lst (us.map bB))]/\Us u w us/\Q (.l ((Ep us).map bB)) []
abbrev rV(P w K mg base):=(~~~Fn) 7 "with_tips" ["units"] (aJ K V1)
abbrev pC:VS:=top 61
theorem jM:aF ["units","rays","tip","unit"] ["units"] (aC pC):=dH
theorem De(F:cL K "with_tips" "with_tips" pC f fd)(TX:Txt mg)(ZP: ~~~qJ):(~~~aT) cO 7 f fd ["units"] (aJ K V1):=by
 refine F.okU jM (λhr=>(aB (fS 1 jM.nd (cV (f1 (fQ 0)))) (aB (j5 PassesOwn.never rfl (Bz rfl rfl TX.n_zip (f2 (fK ZP (f1 (fv 0))) (iD rfl (fv 0) (gG aA) pN))) (dE (n:=2) rfl rfl (aQ (fG 2 jM.nd) (aQ (fG 3 jM.nd) cH))) (aB (jK (iC rfl (fv 1) (f1 (fv 2)))) (aE (jK (iC rfl (fv 1) (f1 (fv 3))))))) (aE (aG (fv 1)))))) ?_;rintro as Q ⟨u,w,us,rfl,U,q⟩;have n30:=U.n30;have n2:=U.n2;show o1 (eZ (us.map bB) ((0:Nat):Int)) _;rw[iO (show(us.map bB)[0]?=oZ (bB (gU us 0)) by rw[NY,(U.at_ (i:=0) ⋯).1];rfl)];refine⟨u,w,us,rfl,U,?_⟩;refine cZ (λi E=>∃v2 v3:Option L2.U,E=[⇑(.lst (us.map bB)),↥(((OQ (2*i+1)).map (e7 us)).map bB),v2,v3]) ⟨none,none,rfl⟩ ?_ ?_
 ·rintro i t rest E hi ⟨v2,v3,rfl⟩ KK;obtain⟨l,rfl⟩:=JD U hi;have e1:e7 us (2*i+1)=zF us i:=by unfold e7;rw[oW ⋯,show(2*i+1)/2=i by lia]
  have e2:e7 us (2*i+2)=gU us (i+1):=by unfold e7;rw[oV ⋯,show(2*i+2)/2=i+1 by lia]
  refine⟨by simp;lia,by simp;lia,KK _ ⟨⇑(bB (zF us i)),⇑(bB (gU us (i+1))),?_⟩⟩;have e3:((OQ (2*(i+1)+1)).map (e7 us)).map bB=(((OQ (2*i+1)).map (e7 us)).map bB++[bB (zF us i)])++[bB (gU us (i+1))]:=by
   rw[show 2*(i+1)+1=2*i+1+1+1 by lia,RS (n:=2*i+1+1),RS (n:=2*i+1),OR,OR,OR,OR,<-e1,<-e2];rfl
  rw[e3];rfl
 ·rintro E ⟨v2,v3,rfl⟩;rw[DF,show 2*(us.length-1)+1=2*us.length-1 by lia];exact⟨dJ _,q⟩
theorem FL:∀l:List Str,k6 (UR ⟨#[]⟩ l)=(l.map k6).flatten:=λl=>by
 show k6 (Builtin.Str.glued ⟨#[]⟩ l)=_;rw[StrLaws.glued_eq_join]
 induction l with
 |nil=>rfl
 |cons a r ih=>
  cases r with
  |nil=>simp[Str.join,k6]
  |cons b r=>
   have:Str.join ⟨#[]⟩ (a::b::r)=a++⟨#[]⟩++Str.join ⟨#[]⟩ (b::r):=rfl;rw[this,Eb,Eb,ih];simp[k6]
theorem oO:∀l:List Str,bL (l.map L2.T.str)=true
 |[]=>rfl
 |a::l=>by show(true&&bL (l.map L2.T.str))=true;rw[oO l];rfl
theorem Q9{α:Type}{T:Prop}{G R:α->Prop}(h:(∀a,R a->G a)->T)(k:∀a,R a->G a):T:=h k
def LU(n:Nat)(l:Bool):Str:=(if l=true then["-r-","lr-l","-rll","-r-l"]else["-l-","rl-r","-lrr","-l-r"]:List Str).getD n ""
def Le(w:Bool)(k j:Nat):Nat:=if w=true then 0 else if j=0 then 1 else if j+1=k then 2 else 3
theorem HA(w:Bool)(k j:Nat):Le w k j=0\/Le w k j=1\/Le w k j=2\/Le w k j=3:=by unfold Le;grind
def mE(w l:Bool)(many j:Nat):Str:=LU (Le w many j) l
def i5(w l:Bool)(k:Nat):List Str:=(OQ k).map (mE w l k)
def DK(c:Nat):Nat:=if c=108 then 114 else if c=114 then 108 else c
theorem M4(w:Bool)(k j:Nat):(∀c∈k6 (mE w true k j),c=45\/c=108\/c=114)/\(k6 (mE w true k j)).length<=4/\k6 (mE w false k j)=(k6 (mE w true k j)).map DK:=by
 have eN:∀z y:Str,((k6 z).all (λc=>c==45||c==108||c==114)&&decide ((k6 z).length<=4)&&decide (k6 y=(k6 z).map DK))=true->(∀c∈k6 z,c=45\/c=108\/c=114)/\(k6 z).length<=4/\k6 y=(k6 z).map DK:=λz y h=>by
  rw[PF,PF]at h;refine⟨λc hc=>?_,of_decide_eq_true h.1.2,of_decide_eq_true h.2⟩;have:=SK.mp h.1.1 c hc
  simpa[or_assoc]using this
 unfold mE;rcases HA w k j with e|e|e|e<;>rw[e]<;>exact eN _ _ (by decide +kernel)
def tI(c:Nat):Str:=⟨#[c]⟩
theorem NN(c:Nat)(h:c=45\/c=108\/c=114):uP "l" "r" "r" "l" "-" "-" ⟨#[c]⟩=oZ (tI (DK c)):=by
 rcases h with rfl|rfl|rfl<;>decide +kernel
theorem CV(h:k6 a=k6 b):a=b:=by
 cases a;cases b;exact congrArg Str.mk (Array.toList_inj.mp h)
theorem Vi(l:List Nat)(hl:l.length<=100):JoinOk (OW "") (l.map tI)=true/\k6 (UR (OW "") (l.map tI))=l:=by
 have fl:∀l:List Nat,((l.map tI).map (·.length)).sum=l.length/\((l.map tI).map k6).flatten=l:=λl=>by
  induction l with
  |nil=>exact⟨rfl,rfl⟩
  |cons a r ih=>
   rw[PZ,PZ,PZ,List.sum_cons,RB,ih.1,ih.2,OT];exact⟨show 1+_=_ by lia,rfl⟩
 obtain⟨f1,f2⟩:=fl l;have z:(OW "").length=0:=rfl;have tl:Builtin.Str.tooLong (((l.map tI).map (·.length)).sum+(l.map tI).length*(OW "").length)=false:=by
  unfold Builtin.Str.tooLong;rw[f1,z,Nat.mul_zero,Nat.add_zero];exact oX (by have:=Ti (show l.length<=big from PQ hl ∅);lia)
 refine⟨?_,?_⟩
 ·unfold JoinOk;rw[StrLaws.joinTotal,tl];rfl
 ·show k6 (UR ⟨#[]⟩ (l.map tI))=_;rw[FL,f2]
theorem oQ{w l:Bool}{k j:Nat}(h:j<k):(i5 w l k)[j]?=oZ (mE w l k j):=by unfold i5;rw[NY,RH h];rfl
theorem Xn(h:2<=k):i5 false true k=OW "lr-l"::(OE (k-2) (OW "-r-l")++[OW "-rll"]):=by
 refine List.ext_getElem? λj=>?_;obtain c|c:=OY j k
 ·rw[oQ c];unfold mE Le;rw[oW ∅]
  by_cases z:j=0
  ·subst z;rfl
  ·obtain⟨i,rfl⟩:∃i,j=i+1:=⟨j-1,⋯⟩;rw[oW z,RG]
   by_cases d:i+1+1=k
   ·rw[oV d,OX (by simp;lia),RQ,show i-(k-2)=0 by lia];rfl
   ·rw[oW d,OO (by simp;lia),SD,oV ⋯];rfl
 ·rw[QU (by unfold i5;simp;lia),QU (by simp;lia)]
theorem Om(k:Nat)(z:Str):Xl (k:Int) [L2.T.str z]=(OE k z).map L2.T.str:=by
 unfold Xl;rw[PR]
 induction k with
 |zero=>rfl
 |succ k ih=>rw[PY,RB,ih,PY];rfl
def IB:dG:=λas Q=>∃(k:Nat)(w l:Bool),as=[.v (.int (k:Int)),.v (.bl w),.v (.str (sQ l))]/\2<=k/\k<=100/\Q (.l ((i5 w l k).map L2.T.str)) []
abbrev mY(P w K mg base):=(~~~Fn) 1 "sector_marks" ["many","is_whole","turn"] (aJ K IB)
abbrev kA:VS:=top 62
theorem jE:aF ["many","is_whole","turn","marks"] ["many","is_whole","turn"] (aC kA):=dH
theorem u6(F:cL K "sector_marks" "sector_marks" kA f fd)(TX:Txt mg)(aq:sV mg w K "OTHER_MARK" "l" "r" "r" "l" "-" "-"):(~~~aT) cO 1 f fd ["many","is_whole","turn"] (aJ K IB):=by
 refine F.okU jE (λhr=>(aB (cD (iF (fv 1)) (aE (fS 3 jE.nd (Uo (cV (f1 bG)) (fv 0)))) (aE (fS 3 jE.nd (l8 (l8 (cV (f1 bG)) (Uo (cV (f1 bG)) (aY iJ (fv 0) aA))) (cV (f1 bG)))))) (aB (cD (gJ rfl hr (fv 2) bG (bK _)) (aE (aG (fv 3))) bR) (aE (aG (iP (N':=["row"]) (t:=1) (cap:=[]) rfl (bM.of rfl) rfl ∅ (kM rfl (fv 3)) (λ_ _ _ _=>(fH 0)) (λ_ _ _ _=>(D9 rfl bG (f1 (iP (N':=["sign"]) (t:=1) (cap:=[]) rfl (bM.of rfl) rfl ∅ (Y6 (fv 0)) (λ_ _ _ _=>(fH 0)) (λ_ _ _ _=>(Nd rfl rfl aq (fv 0) (λ_ _=>rfl))))))))))))) ?_;rintro as Q ⟨k,w,l,rfl,k2,aHZ,q⟩;apply Q9 (R:=λ(L:List L2.T)=>L=(i5 w true k).map L2.T.str)
 case h=>
  intro J;show if w=true then _ else _
  by_cases hw:w=true
  ·rw[oV hw];refine⟨⟨⋯,⋯,by show 1*(k:Int).toNat<=9000;lia⟩,?_⟩;generalize hL:Xl (k:Int) _=L;refine J L ?_;rw[<-hL];refine(Om k _).trans (congrArg _ ?_);refine List.ext_getElem? λj=>?_;rw[hw];obtain c|c:=OY j k
   ·rw[oQ c,SD,oV c];rfl
   ·rw[QU (by simp;lia),QU (by unfold i5;simp;lia)]
  ·rw[oW hw];have ek:(k:Int)-2=((k-2:Nat):Int):=⋯
   have er:=Om (k-2) "-r-l";refine⟨⟨⋯,⋯,by show 1*((k:Int)-2).toNat<=9000;lia⟩,?_⟩;rw[ek];generalize hM:Xl ((k-2:Nat):Int) _=M;have eM:M=(OE (k-2) (OW "-r-l")).map L2.T.str:=hM.symm.trans er;have lM:M.length=k-2:=by rw[eM];simp
   refine⟨by show 1+M.length<=9000;lia,by show(L2.T.str "lr-l"::M).length+1<=9000;rw[OT];lia,?_⟩;refine J ((L2.T.str "lr-l"::M)++[L2.T.str "-rll"]) ?_;rw[eM,show w=false by simpa using hw,Xn k2,PZ,OR];rfl
 rintro L rfl;have lr:∀l,(i5 w l k).length=k:=λl=>by unfold i5;simp
 refine⟨OG _,?_⟩;cases l with
 |true=>exact⟨oO _,q⟩
 |false=>
  refine⟨rfl,?_⟩;refine cY (λi E=>∃v0:Option L2.U,E=[v0,↥(((i5 w false k).take i).map L2.T.str)]) ⟨none,rfl⟩ ?_ ?_
  ·rintro i t rest E hi ⟨v0,rfl⟩ KK;rw[NY]at hi;obtain⟨z,hz,rfl⟩:=PH.mp hi;have il:=(NV.mp hz).1;rw[lr]at il;rw[oQ il]at hz;cases hz;obtain⟨cz,c4,sw⟩:=M4 w k i;have tk:((i5 w false k).take (i+1)).map L2.T.str=((i5 w false k).take i).map L2.T.str++[.str (mE w false k i)]:=by
    rw[RW,oQ il,SX,OR];rfl
   generalize mE w true k i=z at *;refine⟨rfl,?_⟩;refine cY (λj E=>∃v1:Option L2.U,E=[v1,↥(((((k6 z).take j).map DK).map tI).map L2.T.str)]) ⟨none,rfl⟩ ?_ ?_
   ·rintro j t aE3 E hj ⟨v1,rfl⟩ KK2;have hj':((k6 z).map λc=>L2.T.str ⟨#[c]⟩)[j]?=oZ t:=hj;rw[NY]at hj';obtain⟨c,hc,rfl⟩:=PH.mp hj';show o1 ((uP "l" "r" "r" "l" "-" "-" ⟨#[c]⟩).map L2.T.str) _;rw[NN c (cz c (NX hc))];refine⟨by show(((((k6 z).take j).map DK).map tI).map L2.T.str).length<9000;simp;lia,KK2 _ ⟨⇑(.str ⟨#[c]⟩),?_⟩⟩;rw[RW,hc,SX,OR,OR,OR];rfl
   ·rintro E ⟨v1,rfl⟩;have e:RF (uD z).length (k6 z)=k6 z:=by show RF ((k6 z).map λc=>L2.T.str ⟨#[c]⟩).length _=_;rw[OD,SA]
    rw[e,<-sw];refine⟨oO _,?_⟩;show o1 (k7 (((k6 (mE w false k i)).map tI).map L2.T.str)) _;rw[show k7 (((k6 (mE w false k i)).map tI).map L2.T.str)=oZ _ from Ij _];obtain⟨jo,jm⟩:=Vi (k6 (mE w false k i)) (by rw[sw,OD];lia);refine⟨jo,?_⟩;rintro m rfl;refine⟨by rw[OD,PM,lr];lia,KK _ ⟨⇑(.str z),?_⟩⟩;rw[tk];rw[show UR (OW "") ((k6 (mE w false k i)).map tI)=mE w false k i from CV jm];rfl
  ·rintro E ⟨v0,rfl⟩;rw[OD,lr];have e:(i5 w false k).take k=i5 w false k:=RP (by rw[lr];exact OF _);rw[e];exact⟨oO _,oO _,q⟩
theorem X3(h:bV a.1 a.2 e)(k:bV b.1 b.2 f):vD a b<=1:=by
 have o1:=h.one;have o2:=k.one;have s1:0<=(val a.1-val b.1)*(val a.1-val b.1):=by
  rcases Rat.le_total (a:=0) (b:=val a.1-val b.1)with c|c
  ·exact Rat.mul_nonneg c c
  ·have:=Rat.mul_nonneg (a:=-(val a.1-val b.1)) (b:=-(val a.1-val b.1)) (by grind) (by grind);grind
 have s2:0<=(val a.2-val b.2)*(val a.2-val b.2):=by
  rcases Rat.le_total (a:=0) (b:=val a.2-val b.2)with c|c
  ·exact Rat.mul_nonneg c c
  ·have:=Rat.mul_nonneg (a:=-(val a.2-val b.2)) (b:=-(val a.2-val b.2)) (by grind) (by grind);grind
 unfold vD;grind
theorem Us.ld{u w:Fr×Fr}{us:List (Fr×Fr)}(U:Us u w us):∀i,i+2<=us.length->0<=val (Ci (us.map bB) i)/\val (Ci (us.map bB) i)<=1:=by
 have two:∀i,i+2<=us.length->0<=val (Zw ((us.map bB).getD i .non) ((us.map bB).getD (i+1) .non))/\val (Zw ((us.map bB).getD i .non) ((us.map bB).getD (i+1) .non))<=1:=λi hi=>by
  obtain⟨a1,a2⟩:=U.at_ (i:=i) ⋯;obtain⟨b1,b2⟩:=U.at_ (i:=i+1) ⋯;have ga:∀{j c},us[j]?=oZ c->(us.map bB).getD j .non=bB c:=λ{j c}h=>by rw[OU,NY,h];rfl
  rw[ga a1,ga b1];have e:val (Zw (bB (gU us i)) (bB (gU us (i+1))))=vD (gU us i) (gU us (i+1)):=by
   unfold Zw;have c:∀c:Fr×Fr,cx (bB c)=c:=λc=>uM c.1 c.2;rw[c,c];exact dW a2.nv b2.nv
  rw[e];exact⟨(U.nb i _ _ a1 b1).2,X3 a2 b2⟩
 intro i
 induction i with
 |zero=>intro hi;exact two 0 hi
 |succ i ih=>
  intro hi;show 0<=val (mn _ _)/\val (mn _ _)<=1;unfold mn
  split
  ·exact two (i+1) ⋯
  ·exact ih ⋯
theorem IQ{us:List (Fr×Fr)}{MK:List Str}(h:(jJ ((Ep us).map bB) (fO ((Ep us).map bB) (oZ 1) none) (MK.map L2.T.str))[j]?=oZ t):j+1<2*us.length-1/\∃m,MK[j]?=oZ m/\t = .tup [bB (e7 us j),bB (e7 us (j+1)),.str m]:=by
 obtain⟨x,y,z,h1,h2,h3,rfl⟩:=yR h;have e1:=fD ((Ep us).map bB) 1;rw[show fO ((Ep us).map bB) (oZ 1) none=((Ep us).map bB).drop 1 from e1,SH,NY,RX 1 j]at h2;rw[NY]at h1 h3;obtain⟨b,hb,rfl⟩:=PH.mp h2;obtain⟨a,ha,rfl⟩:=PH.mp h1;obtain⟨m,hm,rfl⟩:=PH.mp h3;have l:=(NV.mp hb).1;rw[Zn]at l;rw[V5 l]at hb;cases hb;rw[V5 ⋯]at ha;cases ha;exact⟨l,m,hm,rfl⟩
def Ea(M:Fr×Fr)(R z:Fr)(a b:Fr×Fr):List (Fr×Fr):=if z=(0,1)then[M,bp M R a,bp M R b]else[bp M z a,bp M R a,bp M R b,bp M z b]
def Lv(i:Nat)(M:Fr×Fr)(R z:Fr)(us:List (Fr×Fr))(l:Bool)(j:Nat):L2.T:=Zt "sector" i (Ea M R z (e7 us j) (e7 us (j+1))) (mE (decide (z=(0,1))) l (2*us.length-2) j)
def Lu(i:Nat)(M:Fr×Fr)(r p:Fr)(us:List (Fr×Fr))(l:Bool):List L2.T:=(OQ (2*us.length-2)).map (Lv i M (aV r p) (wZ r p (Ci (us.map bB) (us.length-2))) us l)
def cG(a b:Fr)(ms:List Mv)(i:Nat)(x y r:Fr):Fr×Fr:=(aS (px a b ms i) (aH x r),aS (py a b ms i) (aH y r))
theorem xC(h:∀j,noL (f j)=true):∀n,bL ((OQ n).map f)=true:=λn=>by
 have eN:∀l:List Nat,bL (l.map f)=true:=λl=>by
  induction l with
  |nil=>rfl
  |cons a l ih=>show(noL (f a)&&bL (l.map f))=true;rw[h,ih];rfl
 exact eN _
theorem Vw(i:Nat)(M:Fr×Fr)(r p:Fr)(us:List (Fr×Fr))(l:Bool):bL (Lu i M r p us l)=true:=xC (λ_=>nY ..) _
theorem Us.inn{u w:Fr×Fr}{us:List (Fr×Fr)}(U:Us u w us):(∀t∈us.map bB,Uv 150 t)/\bF (Ci (us.map bB) (us.length-2))/\sz (Ci (us.map bB) (us.length-2))<=301/\0<=val (Ci (us.map bB) (us.length-2)):=by
 have n2:=U.n2;have uv:∀t∈us.map bB,Uv 150 t:=λt ht=>by
  obtain⟨c,hc,rfl⟩:=QK.mp ht;exact⟨_,_,rfl,(U.uv c hc).up ∅⟩
 obtain⟨d1,d2⟩:=Vm uv (us.length-2) (by rw[OD];lia);exact⟨uv,d1,d2,(U.ld (us.length-2) ⋯).1⟩
def U8:dG:=λas Q=>∃(a b:Fr)(ms:List Mv)(i:Nat)(x y u v r:Fr)(l:Bool)(p:Fr)(s:Int),as=[.v (cA a b (cM a b ms)),.v (.int (i:Int)),.v (fr p),.v (.int s)]/\Pm a b ms/\ms[i]?=oZ (.arc x y u v r l)/\Fw p/\(s=1\/s=2\/s=3)/\
 Q (.l (Lu i (cG a b ms i x y r) r p (cN x y u v l s) l)) []
abbrev wB(P w K mg base):=(~~~Fn) 9 "sectors" oK (aJ K U8)
abbrev tT:VS:=top 63
theorem bZ:aF ["path","number","far","steps","radius","units","inner","outer","rays","marks","found","middle","turn","one","other","row","high","outline"] oK (aC tT):=dH
theorem Kr(F:cL K "sectors" "sectors" tT f fd)(TX:Txt mg)(bh: ~~~rR)(bq: ~~~rM)(cy: ~~~uH)(br: ~~~rO)(YD: ~~~gF)(bw: ~~~rV)(ZU: ~~~mY)(ZC: ~~~rQ)(YO: ~~~lA)(ZS:mW mg K "NOUGHT" (.tup [.int 0,.int 1])):(~~~aT) cO 9 f fd oK (aJ K U8):=by
 refine F.okU bZ (λhr=>(aB (gH (i:=11) (j:=12) rfl bZ.nd rfl rfl ∅ rfl rfl (f2 (fX (fX (fQ 0) (fv 1)) aA) (fX (fX (fQ 0) (fv 1)) aA)) rfl) (aB (fS 4 bZ.nd (fK bh (f2 (fv 0) (fv 1)))) (aB (fS 5 bZ.nd (fK bq (f3 (fv 0) (fv 1) (fv 3)))) (aB (fS 6 bZ.nd (fK cy (f3 (fv 4) (fv 2) (fK br (f1 (fv 5)))))) (aB (fS 7 bZ.nd (fK YD (f2 (fv 4) (fv 2)))) (aB (fS 8 bZ.nd (fK bw (f1 (fv 5)))) (aB (fS 9 bZ.nd (fK ZU (f3 (aY iJ (fR rfl rfl TX.n_len (f1 (fv 8))) aA) (wY rfl hr (fv 6) (iQ rfl ZS) (bK _)) (fv 12)))) (aB (fS 10 bZ.nd (cV bP)) (aB (j5 PassesOwn.never rfl (F0 rfl rfl TX.n_zip (f3 (fv 8) (iD rfl (fv 8) (gG aA) pN) (fv 9))) (dE (n:=3) rfl rfl (aQ (fG 13 bZ.nd) (aQ (fG 14 bZ.nd) (aQ (fG 15 bZ.nd) cH)))) (aB (fS 16 bZ.nd (aM (f2 (fK ZC (f2 (fv 11) (fK YO (f2 (fv 13) (fv 7))))) (fK ZC (f2 (fv 11) (fK YO (f2 (fv 14) (fv 7)))))))) (aB (cD (gJ rfl hr (fv 6) (iQ rfl ZS) (bK _)) (aE (fS 17 bZ.nd (Bv rfl (aM (f1 (fv 11))) (fv 16)))) (aE (fS 17 bZ.nd (Bv rfl (Bv rfl (aM (f1 (fK ZC (f2 (fv 11) (fK YO (f2 (fv 13) (fv 6))))))) (fv 16)) (aM (f1 (fK ZC (f2 (fv 11) (fK YO (f2 (fv 14) (fv 6))))))))))) (aE (jK (iC rfl (fv 10) (f1 (aM (f4 bG (fv 1) (fv 17) (fv 15)))))))))) (aE (aG (fv 10))))))))))))) ?_;rintro as Q ⟨a,b,ms,i,x,y,u,v,r,l,p,s,rfl,h,hi,fw,hs,q⟩;have hp:=jC ms a b _ _ hi;have pa:=h.at_ hi;have ok:=h.ok _ (NX hi);obtain⟨nr,sr,r0⟩:bF r/\sz r<=4/\0<val r:=ok.len;have oc:=j0 h.chain hp;have nM:Nv (cG a b ms i x y r).1 (cG a b ms i x y r).2 14:=oc.1;have sp:=fw.s;have p0:=fw.pos;show o1 (eZ ((cM a b ms).map jO) (i:Int)) _;rw[qF hp];show o1 (eZ ((cM a b ms).map jO) (i:Int)) _;rw[qF hp];refine⟨a,b,_,i,_,_,rfl,pa,?_⟩;refine⟨a,b,ms,i,x,y,u,v,r,l,s,rfl,h,hi,hs,?_⟩;obtain⟨U0,W0,B⟩:=Tf ok hs;have U:=B.U;generalize cN x y u v l s=us at *;have n2:=U.n2;have n30:=U.n30;have lu:(us.map bB).length=us.length:=OD ..;obtain⟨uv,d1,d2,d3⟩:=U.inn;refine⟨us.map bB,rfl,⋯,⋯,uv,?_⟩;rw[lu];obtain⟨nz,sz',_⟩:=Jz nr sr fw d1 ⋯ d3;unfold Lu at q;refine⟨r,p,_,rfl,nr,sr,fw,d1,⋯,?_⟩;generalize wZ r p (Ci (us.map bB) (us.length-2))=z at *;refine⟨r,p,rfl,nr,fw.n,⋯,?_⟩;have nR:=cI nr fw.n;have sR:sz (aV r p)<=30:=by have:=gV nr fw.n;lia
 refine⟨U0,W0,us,rfl,U,?_⟩;refine⟨d7 rfl,?_⟩;have lw:=Zn (us:=us);have lw':((Ep us).map bB).length=2*us.length-1:=by rw[OD,lw]
 refine⟨2*us.length-2,decide (z=(0,1)),l,?_,⋯,⋯,?_⟩
 ·show[A.v (.int ((((Ep us).map bB).length:Nat)-1:Int)),A.v (.bl (L2.dX (fr z) (fr (0,1)))),A.v (.str (sQ l))]=_;rw[Mx,lw',show(((2*us.length-1:Nat):Int)-1)=((2*us.length-2:Nat):Int) by lia]
 have vM:vc (aS (px a b ms i) (aH x r)) (aS (py a b ms i) (aH y r))=bB (cG a b ms i x y r):=rfl;show Cn _ (hJ _ _ _ _);refine cZ (λj E=>∃(og v14 v15 v16 v17:Option L2.U),E=[⇑(cA a b (cM a b ms)),↑(i:Int),⇑(fr p),↑s,⇑(fr r),↥(us.map bB),⇑(fr z),⇑(fr (aV r p)),⇑(.lst ((Ep us).map bB)),⇑(.lst ((i5 (decide (z=(0,1))) l (2*us.length-2)).map L2.T.str)),↥((OQ j).map (Lv i (cG a b ms i x y r) (aV r p) z us l)),⇑(bB (cG a b ms i x y r)),⇑(.str (sQ l)),og,v14,v15,v16,v17]) ⟨none,none,none,none,none,rfl⟩ ?_ ?_
 ·rintro j t rest E hj ⟨og,v14,v15,v16,v17,rfl⟩ KK;obtain⟨lj,m,hm,rfl⟩:=IQ hj;rw[oQ ⋯]at hm;cases hm;have na:=U.wt (j:=j) ⋯;have nb:=U.wt lj;have lp:∀t:L2.T,((OQ j).map (Lv i (cG a b ms i x y r) (aV r p) z us l)++[t]).length<=9000:=λt=>by simp;lia
  have rj:(OQ (j+1)).map (Lv i (cG a b ms i x y r) (aV r p) z us l)=(OQ j).map (Lv i (cG a b ms i x y r) (aV r p) z us l)++[Zt "sector" i (Ea (cG a b ms i x y r) (aV r p) z (e7 us j) (e7 us (j+1))) (mE (decide (z=(0,1))) l (2*us.length-2) j)]:=by
   rw[RS,OR];rfl
  refine⟨_,_,aV r p,130,rfl,na,nR,⋯,?_⟩;refine⟨_,_,_,_,14,130+sz (aV r p),rfl,nM,iH na nR,⋯,?_⟩;refine⟨_,_,aV r p,130,rfl,nb,nR,⋯,?_⟩;refine⟨_,_,_,_,14,130+sz (aV r p),rfl,nM,iH nb nR,⋯,?_⟩;refine⟨d7 rfl,?_⟩;show if L2.dX (fr z) (fr (0,1))=true then _ else _;rw[Mx]
  by_cases cz:z=(0,1)
  ·rw[oV (oY cz)];refine⟨d7 rfl,lp _,KK _ ⟨⇑(bB (e7 us j)),⇑(bB (e7 us (j+1))),⇑(.str (mE (decide (z=(0,1))) l (2*us.length-2) j)),⇑(.tup [bB (bp (cG a b ms i x y r) (aV r p) (e7 us j)),bB (bp (cG a b ms i x y r) (aV r p) (e7 us (j+1)))]),⇑(.tup ([(cG a b ms i x y r),bp (cG a b ms i x y r) (aV r p) (e7 us j),bp (cG a b ms i x y r) (aV r p) (e7 us (j+1))].map bB)),?_⟩⟩;rw[rj];unfold Ea;rw[oV cz];rfl
  ·rw[oW (by simpa using cz)];refine⟨_,_,z,130,rfl,na,nz,⋯,?_⟩;refine⟨_,_,_,_,14,130+sz z,rfl,nM,iH na nz,⋯,?_⟩;refine⟨d7 rfl,?_⟩;refine⟨_,_,z,130,rfl,nb,nz,⋯,?_⟩;refine⟨_,_,_,_,14,130+sz z,rfl,nM,iH nb nz,⋯,?_⟩;refine⟨d7 rfl,lp _,KK _ ⟨⇑(bB (e7 us j)),⇑(bB (e7 us (j+1))),⇑(.str (mE (decide (z=(0,1))) l (2*us.length-2) j)),⇑(.tup [bB (bp (cG a b ms i x y r) (aV r p) (e7 us j)),bB (bp (cG a b ms i x y r) (aV r p) (e7 us (j+1)))]),⇑(.tup ([bp (cG a b ms i x y r) z (e7 us j),bp (cG a b ms i x y r) (aV r p) (e7 us j),bp (cG a b ms i x y r) (aV r p) (e7 us (j+1)),bp (cG a b ms i x y r) z (e7 us (j+1))].map bB)),?_⟩⟩;rw[rj];unfold Ea;rw[oW cz];rfl
 ·rintro E ⟨og,v14,v15,v16,v17,rfl⟩;have lz:(jJ ((Ep us).map bB) (fO ((Ep us).map bB) (oZ 1) none) ((i5 (decide (z=(0,1))) l (2*us.length-2)).map L2.T.str)).length=2*us.length-2:=by
   have e1:=fD ((Ep us).map bB) 1;rw[pS,show fO ((Ep us).map bB) (oZ 1) none=((Ep us).map bB).drop 1 from e1,RC,lw',OD];unfold i5;simp
   lia
  rw[lz];exact⟨xC (λ_=>nY ..) _,q⟩
def gM(ms:List Mv)(i:Nat):Mv:=ms.getD i (.side (0,1) (0,1) (0,1))
theorem fE(h:i<ms.length):ms[i]?=oZ (gM ms i):=by unfold gM;rw[OU,NW h];rfl
section
variable(a b:Fr)(ms:List Mv)(p:Fr)(s:Int)
noncomputable def eB (i:Nat):List L2.T:=match gM ms i with
 |.side x y _=>[Lx i (px a b ms i) (py a b ms i) (px a b ms (i+1)) (py a b ms (i+1)) (aH (aN y) p) (aH x p)]
 |.arc x y u v r l=>Lu i (cG a b ms i x y r) r p (cN x y u v l s) l
def Tp(i:Nat):Str:=b7 (eU (gM ms (cE i ms.length))) (bU (gM ms i))
noncomputable def kK (k:Nat):List L2.T:=if fst a b (cM a b ms)<=k/\Tp ms k≠"straight" then[sX "fan" k (px a b ms k,py a b ms k) p (wW (eU (gM ms (cE k ms.length))) (bU (gM ms k)) s) (D5 (Tp ms k))]else[]
noncomputable def jB:Nat->List L2.T
 |0=>[]
 |j+1=>jB j++eB a b ms p s j++kK a b ms p s ((j+1)%ms.length)
noncomputable def mZ:List L2.T:=if W6 a b (cM a b ms)=true then jB a b ms p s ms.length else[To a b ms p s (gM ms 0)]++jB a b ms p s ms.length++[C5 a b ms p s (gM ms (ms.length-1))]
end
theorem Nt(h:Ln a b f p)(k:Ln a b g p):f=g:=by
 have eN:∀{x y f g:Fr},wF x y f->wF x y g->f=g:=λ{x y f g}h k=>by
  refine b8 h.nf k.nf ?_;have e:val f*val f=val g*val g:=by rw[<-h.sq,<-k.sq]
  have f0:=h.pos;have g0:=k.pos;have z:(val f-val g)*(val f+val g)=0:=by grind
  rcases Rat.mul_eq_zero.mp z with q|q<;>grind
 cases p with
 |side x y=>exact eN h k
 |arc m n x y l=>exact eN h.1 k.1
theorem Pm.cw(h:Pm a b ms)(hi:ms[i]?=oZ m)(hk:ms[cE i ms.length]?=oZ mb):My.cw a b (cM a b ms) i=b7 (eU mb) (bU m):=by
 obtain⟨nb,e1,e2⟩:=h.nbr hi hk;obtain⟨p,q,f,g,nb',e⟩:=R3 (a:=a) (b:=b) (ps:=cM a b ms) (i:=i) (h.st.1.up ∅) (rZ ∅ h.chain) (by rw[dI];exact(NV.mp hi).1);have p1:=nb.one.at_;rw[nb'.one.at_]at p1;cases p1;have p2:=nb.two.at_;rw[nb'.two.at_]at p2;cases p2;have f1:=Nt nb'.one.ln nb.one.ln;have f2:=Nt nb'.two.ln nb.two.ln;subst f1;subst f2;rw[<-e,e1,e2]
theorem Pm.cr(h:Pm a b ms)(hi:i<ms.length):My.cw a b (cM a b ms) i=Tp ms i:=h.cw (fE hi) (fE (lC hi))
theorem W2(h:Pm a b ms)(hi:i<ms.length)(e:gM ms i = .arc x y u v r l):fT (.arc x y u v r l):=by
 rw[<-e];exact h.ok _ (NX (fE hi))
theorem Pm.piece(h:Pm a b ms){s:Int}(hs:s=1\/s=2\/s=3)(hi:i<ms.length):bL (eB a b ms p s i)=true/\(eB a b ms p s i).length<=60:=by
 unfold eB;cases e:gM ms i with
 |side x y m=>exact⟨rfl,d7 rfl⟩
 |arc x y u v r l=>
  obtain⟨_,_,B⟩:=Tf (W2 h hi e) hs;refine⟨Vw ..,?_⟩;have:=B.U.n30;unfold Lu;simp;lia
theorem C3(a b:Fr)(ms:List Mv)(p:Fr)(s:Int)(k:Nat):bL (kK a b ms p s k)=true/\(kK a b ms p s k).length<=1:=by
 unfold kK
 split
 ·refine⟨?_,OF _⟩;show(L2.noL (sX _ _ _ _ _ _)&&true)=true;rw[show L2.noL (sX _ _ _ _ _ _)=true from nY ..];rfl
 ·exact⟨rfl,OG _⟩
theorem nZ:∀{xs ys:List L2.T},bL xs=true->bL ys=true->bL (xs++ys)=true
 |[],_,_,h=>h
 |x::xs,ys,h1,h2=>by
  have h1:(noL x&&bL xs)=true:=h1;rw[PF]at h1;show(noL x&&bL (xs++ys))=true;rw[h1.1,nZ h1.2 h2];rfl
theorem Pm.told(h:Pm a b ms){s:Int}(hs:s=1\/s=2\/s=3):∀{j:Nat},j<=ms.length->bL (jB a b ms p s j)=true/\(jB a b ms p s j).length<=61*j
 |0,_=>⟨rfl,OG _⟩
 |j+1,hj=>by
  obtain⟨i1,i2⟩:=Pm.told h (p:=p) hs (j:=j) ⋯;obtain⟨p1,p2⟩:=h.piece (p:=p) hs (i:=j) ⋯;obtain⟨b1,b2⟩:=C3 a b ms p s ((j+1)%ms.length);refine⟨nZ (nZ i1 p1) b1,?_⟩;show(jB a b ms p s j++eB a b ms p s j++kK a b ms p s ((j+1)%ms.length)).length<=_;rw[OB,OB];lia
theorem Pm.blk(h:Pm a b ms){s:Int}(hs:s=1\/s=2\/s=3):bL (mZ a b ms p s)=true/\(mZ a b ms p s).length<=800:=by
 obtain⟨i1,i2⟩:=h.told (p:=p) hs (OF _);have:=h.len;unfold mZ
 split
 ·exact⟨i1,⋯⟩
 ·have nb:∀wd i P us c,bL [sX wd i P p us c]=true:=λwd i P us c=>by
   show(L2.noL (sX _ _ _ _ _ _)&&true)=true;rw[show L2.noL (sX _ _ _ _ _ _)=true from nY ..];rfl
  refine⟨nZ (nZ (nb ..) i1) (nb ..),?_⟩;rw[OB,OB];simp only[OS]
  lia
def Pn:dG:=λas Q=>∃(a b:Fr)(ms:List Mv)(i:Nat)(p:Fr)(s:Int),as=[.v (cA a b (cM a b ms)),.v (.int (i:Int)),.v (fr p),.v (.int s)]/\Pm a b ms/\i<ms.length/\Fw p/\(s=1\/s=2\/s=3)/\Q (.l (eB a b ms p s i)) []
abbrev mX(P w K mg base):=(~~~Fn) 10 "piece_blocks" oK (aJ K Pn)
abbrev j9:VS:=top 64
theorem u7:aF oK oK (aC j9):=dH
theorem u5(F:cL K "piece_blocks" "piece_blocks" j9 f fd)(TX:Txt mg)(YR: ~~~jT)(aw: ~~~qA)(dw: ~~~wB):(~~~aT) cO 10 f fd oK (aJ K Pn):=by
 refine F.okU u7 (λhr=>(aB (cD (iF (fK YR (f1 (fX (fQ 0) (fv 1))))) (aE (aG (cV (f1 (fK aw (f3 (fv 0) (fv 1) (fv 2))))))) bR) (aE (aG (fK dw (f4 (fv 0) (fv 1) (fv 2) (fv 3))))))) ?_;rintro as Q ⟨a,b,ms,i,p,s,rfl,h,il,fw,hs,q⟩;have hi:=fE il;have hp:=jC ms a b _ _ hi;have nl:=(h.piece (p:=p) hs il).1;show o1 (eZ ((cM a b ms).map jO) (i:Int)) _;rw[qF hp];refine⟨_,rfl,?_⟩;unfold eB at q nl;cases e:gM ms i with
 |side x y m=>
  rw[e]at q hi;exact⟨a,b,ms,i,x,y,m,p,rfl,h,hi,fw,rfl,q⟩
 |arc x y u v r l=>
  rw[e]at q hi nl;exact⟨a,b,ms,i,x,y,u,v,r,l,p,s,rfl,h,hi,fw,hs,nl,q⟩
def Yn:DW:=λas Q=>∃(a b:Fr)(ms:List Mv),as=[.v (cA a b (cM a b ms))]/\Pm a b ms/\∀XZ,(∀k:Nat,k<ms.length->jF XZ (Sum.inl (k:Int))=if fst a b (cM a b ms)<=k/\Tp ms k≠"straight" then oZ (.str (Tp ms k))else none)->Q XZ
theorem Jo{c:Str}{f:Nat}{W:Nat->Str}{k:Nat}:∀N:Nat,jF (Zv c ((OQ N).map λj=>(((f+j:Nat):Int),W (f+j))) []) (Sum.inl (k:Int))=if f<=k/\k<f+N/\W k≠c then oZ (.str (W k))else none
 |0=>by rw[oW ⋯];rfl
 |N+1=>by
  rw[RS,OR,List.map_singleton,r8]
  by_cases e:W (f+N)=c
  ·rw[oV e,Jo N]
   by_cases z:k=f+N
   ·subst z;rw[oW ⋯,oW (by simp[e])]
   ·have:(f<=k/\k<f+N/\W k≠c)↔(f<=k/\k<f+(N+1)/\W k≠c):=⟨λh=>⟨h.1,⋯,h.2.2⟩,λh=>⟨h.1,⋯,h.2.2⟩⟩;simp only[this]
  ·rw[oW e,Zl,Jo N]
   by_cases z:k=f+N
   ·subst z;rw[oV rfl,oV ⟨⋯,⋯,e⟩]
   ·have:(f<=k/\k<f+N/\W k≠c)↔(f<=k/\k<f+(N+1)/\W k≠c):=⟨λh=>⟨h.1,⋯,h.2.2⟩,λh=>⟨h.1,⋯,h.2.2⟩⟩;rw[oW (λq=>z (by have:=Sum.inl.inj q;lia))];simp only[this]
abbrev Et(P w K mg base):=(~~~Fn) 12 "bends" ["path"] (Ot K Yn)
abbrev Dl:VS:=top 65
theorem Xw:aF ["path"] ["path"] (aC Dl):=dH
theorem Vz(F:cL K "bends" "bends" Dl f fd)(TX:Txt mg)(dz: ~~~vV):(~~~aT) cO 12 f fd ["path"] (Ot K Yn):=by
 refine F.okD (c:="straight") (k:=11) Xw rfl (λas Q h=>?_) (λYZ A outer s H E hr=>GN rfl rfl (λ_ _ _ _=>hr) (vI dz hr ⋯ rfl (fc (fv 0) bP)) (bM.of rfl)
  (λ_ _ _ _=>xP (sI (i:=0) (show VL (["number","word"]:List Str) by decide +kernel) rfl (PX rfl) (QN rfl)) (xP (sI (i:=1) (show VL (["number","word"]:List Str) by decide +kernel) rfl (PX rfl) (QN rfl)) Oi))
  (h1:=λ_ _ _ _=>⟨tJ rfl (by first|exact PX rfl|exact QN (PX rfl)|exact QN (QN rfl))⟩) (h2:=λ_ _ _ _=>⟨tJ rfl (by first|exact PX rfl|exact QN (PX rfl)|exact QN (QN rfl))⟩) (h3:=λ_ _ _ _=>⟨tJ rfl (by first|exact PX rfl|exact QN (PX rfl)|exact QN (QN rfl))⟩)) (λas Q h=>?_)
 ·obtain⟨a,b,ms,rfl,_⟩:=h;rfl
 ·obtain⟨a,b,ms,rfl,h,q⟩:=h;have l12:=h.len;have fl:=Y9 a b (cM a b ms);have pl:=dI ms a b;have l1:=RI.mpr h.ne;refine⟨a,b,cM a b ms,rfl,h.st.1.up ∅,λz=>h.ne (QP (by rw[<-pl,z];rfl)),by rw[pl];exact l12,rZ ∅ h.chain,?_⟩;refine⟨(OQ ((cM a b ms).length-fst a b (cM a b ms))).map λj=>(((fst a b (cM a b ms)+j:Nat):Int),My.cw a b (cM a b ms) (fst a b (cM a b ms)+j)),?_,by simp;lia,q _ λk hk=>?_⟩
  ·rw[UL];rfl
  ·rw[Jo,h.cr hk,pl];have:(fst a b (cM a b ms)<=k/\k<fst a b (cM a b ms)+(ms.length-fst a b (cM a b ms))/\Tp ms k≠OW "straight")↔(fst a b (cM a b ms)<=k/\Tp ms k≠OW "straight"):=⟨λh=>⟨h.1,h.2.2⟩,λh=>⟨h.1,⋯,h.2⟩⟩;simp only[this]
theorem Pw(a b:Fr)(ms:List Mv)(p:Fr)(s:Int)(j:Nat):jB a b ms p s (j+1)=jB a b ms p s j++eB a b ms p s j++kK a b ms p s ((j+1)%ms.length):=rfl
def T8:dG:=λas Q=>∃(a b:Fr)(ms:List Mv)(p:Fr)(s:Int),as=[.v (cA a b (cM a b ms)),.v (fr p),.v (.int s),.v (.bl false)]/\Pm a b ms/\Fw p/\(s=1\/s=2\/s=3)/\Q (.l (mZ a b ms p s)) []
abbrev nE(P w K mg base):=(~~~Fn) 13 "laid_blocks" oJ (aJ K T8)
abbrev k5:VS:=top 66
theorem eC:aF ["path","far","steps","is_least","words","found","number","behind"] oJ (aC k5):=dH
theorem xI(F:cL K "laid_blocks" "laid_blocks" k5 f fd)(TX:Txt mg)(jq: ~~~Et)(ZV: ~~~mX)(bc: ~~~pY)(ZI: ~~~lR)(bz: ~~~rS)(eh: ~~~vW):(~~~aT) cO 13 f fd oJ (aJ K T8):=by
 refine F.okU eC (λhr=>(Tt (i:=4) jq hr ⋯ rfl (f1 (fv 0)) eC.nd rfl (PX rfl) (λXZ=>(sA (Ua (j:=5) eC.nd rfl (PX rfl) (cV bP) ∅) (sA (X4 (j:=6) PassesOwn.never rfl (eJ rfl TX.n_range (f1 (fR rfl rfl TX.n_len (f1 (fQ 0))))) eC.nd rfl (PX rfl) (sA (D1 (tD rfl (fv 5) (f1 (fK ZV (f4 (fv 0) (fv 6) (fv 1) (fv 2)))))) (sA (Ua (j:=7) eC.nd rfl (PX rfl) (aP iI (aY cF (fv 6) aA) (fR rfl rfl TX.n_len (f1 (fQ 0)))) ∅) (Bt (P7 (Z0 hr rfl (by first|exact PX rfl|exact QN (PX rfl)|exact QN (QN rfl)) (fv 7)) (Bt (Tx (Jt rfl (fv 5) (X9 (Uj bc hr ⋯ rfl (X9 (QE.dd (fv 0)) (X9 (QE.dd (fv 7)) (X9 (Um hr rfl (by first|exact PX rfl|exact QN (PX rfl)|exact QN (QN rfl)) (fv 7) (λ_ _=>rfl)) (X9 (QE.dd (fv 1)) (X9 (QE.dd (fv 2)) (X9 (QE.dd (fv 3)) (QA.dd bP)))))))) (QA.dd bP))))) Tu)))) ∅) (sA (P7 (bd (iF (fK ZI (f1 (fv 0))))) (Bt (Tz (fv 5))) Tu) (Bt (Tz (l8 (l8 (cV (f1 (fK bz (f4 (fv 0) (fv 1) (fv 2) (fv 3))))) (fv 5)) (cV (f1 (fK eh (f4 (fv 0) (fv 1) (fv 2) (fv 3)))))))))))))) ?_;rintro as Q ⟨a,b,ms,p,s,rfl,h,fw,hs,q⟩;have l12:=h.len;have l1:=RI.mpr h.ne;have pl:=dI ms a b;have em:((((cM a b ms).map jO).length:Nat):Int)=(ms.length:Int):=by rw[OD,pl]
 have nl:=(h.blk (p:=p) hs).1;unfold mZ at q nl;refine⟨a,b,ms,rfl,h,λXZ hk=>?_⟩;refine⟨⟨by rw[em];lia,by rw[em];lia⟩,?_⟩;rw[em,PR];refine cZ (λj E=>∃(v6 v7:Option L2.U),E=[⇑(cA a b (cM a b ms)),⇑(fr p),↑s,⇑(.bl false),none,↥(jB a b ms p s j),v6,v7]) ⟨none,none,rfl⟩ ?_ ?_
 ·rintro j t rest E hj ⟨v6,v7,rfl⟩ KK;obtain⟨jl,rfl⟩:=mD hj;rw[Int.zero_add];have lT:=(h.told (p:=p) hs (PK jl)).2;have lP:=(h.piece (p:=p) hs jl).2;refine⟨a,b,ms,j,p,s,rfl,h,jl,fw,hs,?_⟩;refine⟨by show(jB a b ms p s j++eB a b ms p s j).length<=9000;rw[OB];lia,?_⟩;refine⟨by show(0:Int)<((((cM a b ms).map jO).length:Nat):Int);rw[em];lia,?_⟩;have ym:((j:Int)+1)%(ms.length:Int)=(((j+1)%ms.length:Nat):Int):=by push_cast;rfl
  have kl:(j+1)%ms.length<ms.length:=TC _ l1;show if(jF XZ (Sum.inl (((j:Int)+1)%((((cM a b ms).map jO).length:Nat):Int)))).isSome=true then _ else _;rw[em,ym,hk _ kl]
  by_cases c:fst a b (cM a b ms)<=(j+1)%ms.length/\Tp ms ((j+1)%ms.length)≠"straight"
  ·have e:kK a b ms p s ((j+1)%ms.length)=[_]:=oV c;rw[oV c,oV (by rfl)];refine⟨_,by rw[hk _ kl,oV c],?_⟩;refine⟨a,b,ms,(j+1)%ms.length,_,_,p,s,rfl,h,fE kl,fE (lC kl),c.2,fw,hs,?_⟩;refine⟨by show((jB a b ms p s j++eB a b ms p s j)++[_]).length<=9000;rw[OB,OB,OS];lia,KK _ ⟨↑(j:Int),↑(((j+1)%ms.length:Nat):Int),?_⟩⟩;rw[Pw,e];rfl
  ·have e:kK a b ms p s ((j+1)%ms.length)=[]:=oW c;rw[oW c,oW ∅];refine KK _ ⟨↑(j:Int),↑(((j+1)%ms.length:Nat):Int),?_⟩;rw[Pw,e,PV]
 ·rintro E ⟨v6,v7,rfl⟩;have lr:(g9 0 ms.length).length=ms.length:=by simp[g9]
  rw[lr];have lT:=(h.told (p:=p) hs (OF _)).2;refine⟨a,b,_,rfl,λz=>h.ne (QP (by rw[<-pl,z];rfl)),?_⟩;show if W6 a b (cM a b ms)=true then _ else _
  by_cases c:W6 a b (cM a b ms)=true
  ·rw[oV c]at q nl⊢;exact⟨nl,q⟩
  ·rw[oW c]at q nl⊢;refine⟨a,b,ms,_,p,s,rfl,h,fE l1,fw,hs,?_⟩;refine⟨by show 1+(jB a b ms p s ms.length).length<=9000;lia,?_⟩;refine⟨a,b,ms,_,p,s,rfl,h,fE ⋯,fw,hs,?_⟩;refine⟨by show(To a b ms p s (gM ms 0)::jB a b ms p s ms.length).length+1<=9000;rw[OT];lia,?_⟩;exact⟨nl,q⟩
def Pd:dG:=λas Q=>∃(a b:Fr)(ms:List Mv)(p:Fr)(s:Int),as=[.v (cA a b (cM a b ms)),.v (fr p),.v (.int s)]/\Pm a b ms/\Fw p/\(s=1\/s=2\/s=3)/\Q (.l (mZ a b ms p s)) []
abbrev zI(P w K mg base):=(~~~Fn) 14 "blocks" ["path","far","steps"] (aJ K Pd)
abbrev xT:VS:=top 67
theorem Si:aF ["path","far","steps"] ["path","far","steps"] (aC xT):=dH
theorem Rk(F:cL K "blocks" "blocks" xT f fd)(TX:Txt mg)(af: ~~~nE):(~~~aT) cO 14 f fd ["path","far","steps"] (aJ K Pd):=by
 refine F.okU Si (λhr=>(aE (aG (fK af (f4 (fv 0) (fv 1) (fv 2) Gg))))) ?_;rintro as Q ⟨a,b,ms,p,s,rfl,h,fw,hs,q⟩;exact⟨a,b,ms,p,s,rfl,h,fw,hs,(h.blk hs).1,q⟩
theorem LX(x:Rat):0<=x*x:=by
 rcases Rat.le_total (a:=0) (b:=x)with c|c
 ·exact Rat.mul_nonneg c c
 ·have:=Rat.mul_nonneg (a:=-x) (b:=-x) (by grind) (by grind);grind
theorem Nq{x p:Rat}(p0:0<=p)(h:x*x<=p*p):x<=p:=by
 refine Rat.not_lt.mp λz=>?_;have a:=Rat.mul_pos (show 0<x-p by grind) (show 0<x by grind);have b:=Rat.mul_nonneg p0 (show 0<=x-p by grind);grind
theorem Gb{u1 u2 d1 d2 p:Rat}(o:u1*u1+u2*u2=1)(h:d1*d1+d2*d2<=p*p)(p0:0<=p):(u1*d1+u2*d2<=p/\-p<=u1*d1+u2*d2)/\u1*d2-u2*d1<=p/\-p<=u1*d2-u2*d1:=by
 have e:(u1*d1+u2*d2)*(u1*d1+u2*d2)+(u1*d2-u2*d1)*(u1*d2-u2*d1)=d1*d1+d2*d2:=by
  have:(u1*d1+u2*d2)*(u1*d1+u2*d2)+(u1*d2-u2*d1)*(u1*d2-u2*d1)=(u1*u1+u2*u2)*(d1*d1+d2*d2):=by grind
  rw[this,o];grind
 have s1:=LX (u1*d1+u2*d2);have s2:=LX (u1*d2-u2*d1);refine⟨⟨Nq p0 (by grind),?_⟩,Nq p0 (by grind),?_⟩
 ·have:=Nq (x:=-(u1*d1+u2*d2)) p0 (by grind);grind
 ·have:=Nq (x:=-(u1*d2-u2*d1)) p0 (by grind);grind
def pv(V:List (Fr×Fr))(k:Nat):Fr×Fr:=gU V (if k=0 then V.length-1 else k-1)
def tE(a o q:Fr×Fr):Rat:=(val o.1-val a.1)*(val q.2-val a.2)-(val o.2-val a.2)*(val q.1-val a.1)
def DP(V:List (Fr×Fr))(q:Fr×Fr):Prop:=∀k,k<V.length->0<=tE (pv V k) (gU V k) q
def P1(t:L2.T)(q:Fr×Fr):Prop:=∃(wd:Str)(i:Nat)(V:List (Fr×Fr))(mk:Str),t=Zt wd i V mk/\DP V q
def Bk(t:L2.T):Prop:=∃(wd:Str)(i:Nat)(V:List (Fr×Fr))(mk:Str),t=Zt wd i V mk/\1<=V.length/\V.length<=60/\∀q∈V,Nv q.1 q.2 500
theorem Ni{wd:Str}{i:Nat}{V:List (Fr×Fr)}{mk:Str}{q:Fr×Fr}:P1 (Zt wd i V mk) q↔DP V q:=by
 refine⟨λ⟨wd',i',V',mk',e,h⟩=>?_,λh=>⟨_,_,_,_,rfl,h⟩⟩;have e1:V.map bB=V'.map bB:=by injection e with e;injection e with _ e;injection e with _ e;injection e with e _;injection e
 rw[(List.map_inj_right λ_ _ z=>vU z).mp e1];exact h
section
variable{u w:Fr×Fr}{us:List (Fr×Fr)}
theorem Us.st2(U:Us u w us)(h:i+1<us.length):0<Ae (gU us i) (gU us (i+1))/\
  (val (zF us i).1=val (gU us i).1-Ae (gU us i) (gU us (i+1))*val (gU us i).2/\val (zF us i).2=val (gU us i).2+Ae (gU us i) (gU us (i+1))*val (gU us i).1)/\
  (val (zF us i).1=val (gU us (i+1)).1+Ae (gU us i) (gU us (i+1))*val (gU us (i+1)).2/\val (zF us i).2=val (gU us (i+1)).2-Ae (gU us i) (gU us (i+1))*val (gU us (i+1)).1):=by
 obtain⟨a1,a2⟩:=U.at_ (i:=i) ⋯;obtain⟨b1,b2⟩:=U.at_ h;obtain⟨x,d⟩:=U.nb i _ _ a1 b1;obtain⟨t1,t2⟩:=Iv a2 b2 d;exact⟨Nn x d,t1,t2⟩
theorem vO(h:i<us.length-1):(dM us)[i+1]?=oZ (zF us i):=by
 unfold dM kE;rw[RG,OO (by simp;lia),NY,RH h];rfl
theorem Ap:(dM us)[us.length-1+1]?=oZ (gU us (us.length-1)):=by
 unfold dM kE;rw[RG,OX (by simp)];simp
theorem Us.edge(U:Us u w us){i:Nat}(h:i<us.length):∃a b m,(dM us)[i]?=oZ a/\(dM us)[i+1]?=oZ b/\0<m/\val b.1-val a.1 = -(m*val (gU us i).2)/\val b.2-val a.2=m*val (gU us i).1/\vD a (gU us i)=1:=by
 have n2:=U.n2;have o:=(U.at_ h).2.one;have first:(dM us)[0]?=oZ (gU us 0):=rfl;obtain rfl|ip:=QJ i
 ·obtain⟨l,⟨p1,p2⟩,_⟩:=U.st2 (i:=0) ⋯;refine⟨_,_,_,first,vO ⋯,l,?_,?_,?_⟩
  ·rw[p1];grind
  ·rw[p2];grind
  ·unfold vD;exact o
 ·obtain⟨k,rfl⟩:∃k,i=k+1:=⟨i-1,⋯⟩;obtain⟨l0,_,⟨q1,q2⟩⟩:=U.st2 (i:=k) ⋯;obtain c|c:=OY (k+2) us.length
  ·obtain⟨l1,⟨p1,p2⟩,_⟩:=U.st2 (i:=k+1) ⋯;refine⟨_,_,Ae (gU us k) (gU us (k+1))+Ae (gU us (k+1)) (gU us (k+1+1)),vO ⋯,vO ⋯,by grind,?_,?_,?_⟩
   ·rw[p1,q1];grind
   ·rw[p2,q2];grind
   ·unfold vD;rw[q1,q2];grind
  ·have e:k+1=us.length-1:=⋯
   have rl:=Ap (us:=us);rw[<-e]at rl;refine⟨_,_,_,vO ⋯,rl,l0,?_,?_,?_⟩
   ·rw[q1];grind
   ·rw[q2];grind
   ·unfold vD;rw[q1,q2];grind
theorem vJ{P:Fr×Fr}{rs:List (Fr×Fr)}{k:Nat}{r:Fr×Fr}(h:rs[k]?=oZ r):gU (P::rs.map (bp P p)) (k+1)=bp P p r:=by
 unfold gU;rw[OU,RG,NY,h];rfl
theorem X8(U:Us u w us){P q:Fr×Fr}(nP:Nv P.1 P.2 14)(fw:Fw p)(hq:(val q.1-val P.1)*(val q.1-val P.1)+(val q.2-val P.2)*(val q.2-val P.2)<=val p*val p)(c0:0<=val (gU us 0).1*(val q.2-val P.2)-val (gU us 0).2*(val q.1-val P.1))(c1:0<=(val q.1-val P.1)*val (gU us (us.length-1)).2-(val q.2-val P.2)*val (gU us (us.length-1)).1)(wd:Str)(i:Nat)(c:Str):P1 (sX wd i P p us c) q:=by
 have n2:=U.n2;have rl:=xQ (us:=us);obtain⟨_,_,nv⟩:=U.rays;have p0:=fw.pos;have len:(P::(dM us).map (bp P p)).length=us.length+2:=by rw[OT,OD];lia
 refine⟨wd,i,_,_,rfl,λk hk=>?_⟩;rw[len]at hk;have g0:gU (P::(dM us).map (bp P p)) 0=P:=rfl;unfold pv;rw[len];obtain rfl|kp:=QJ k
 ·have rs:=Ap (us:=us);rw[oV rfl,g0,show us.length+2-1=us.length-1+1+1 by lia,vJ rs];obtain⟨v1,v2⟩:=nI (p:=p) nP (nv _ (NX rs)) fw.n;unfold tE;rw[v1,v2];have:=Rat.mul_nonneg (Rat.le_of_lt p0) c1;grind
 obtain⟨k,rfl⟩:∃j,k=j+1:=⟨k-1,⋯⟩;rw[oW ⋯,show k+1-1=k by lia];obtain rfl|kp:=QJ k
 ·have rs:(dM us)[0]?=oZ (gU us 0):=rfl;rw[g0,vJ rs];obtain⟨v1,v2⟩:=nI (p:=p) nP (nv _ (NX rs)) fw.n;unfold tE;rw[v1,v2];have:=Rat.mul_nonneg (Rat.le_of_lt p0) c0;grind
 obtain⟨k,rfl⟩:∃j,k=j+1:=⟨k-1,⋯⟩;obtain⟨a,b,m,r1,r2,m0,e1,e2,e3⟩:=U.edge (i:=k) ⋯;rw[vJ r1,vJ r2];obtain⟨v1,v2⟩:=nI (p:=p) nP (nv _ (NX r1)) fw.n;obtain⟨v3,v4⟩:=nI (p:=p) nP (nv _ (NX r2)) fw.n;have db:=(Gb (U.at_ (i:=k) ⋯).2.one hq (Rat.le_of_lt p0)).1.1;unfold tE;rw[v1,v2,v3,v4];unfold vD at e3;generalize gU us k=z at *;have f1:val b.1=val a.1-m*val z.2:=by grind
 have f2:val b.2=val a.2+m*val z.1:=by grind
 rw[f1,f2];have:=Rat.mul_nonneg (Rat.mul_nonneg (Rat.le_of_lt p0) (Rat.le_of_lt m0)) (show 0<=val p-(val z.1*(val q.1-val P.1)+val z.2*(val q.2-val P.2)) by grind);have e:(val P.1+(val a.1-m*val z.2)*val p-(val P.1+val a.1*val p))*(val q.2-(val P.2+val a.2*val p))-(val P.2+(val a.2+m*val z.1)*val p-(val P.2+val a.2*val p))*(val q.1-(val P.1+val a.1*val p)) =
  val p*m*(val p*(val a.1*val z.1+val a.2*val z.2)-(val z.1*(val q.1-val P.1)+val z.2*(val q.2-val P.2))):=by grind
 rw[e,e3];grind
def Ei(us:List (Fr×Fr))(j:Nat):Fr×Fr:=gU us ((j+1)/2)
theorem Us.ws(U:Us u w us)(h:j+1<2*us.length-1):∃l,0<l/\val (e7 us (j+1)).1=val (e7 us j).1-l*val (Ei us j).2/\val (e7 us (j+1)).2=val (e7 us j).2+l*val (Ei us j).1/\val (e7 us j).1*val (Ei us j).1+val (e7 us j).2*val (Ei us j).2=1/\
  val (Ei us j).1*val (Ei us j).1+val (Ei us j).2*val (Ei us j).2=1:=by
 obtain c|c:=Nat.mod_two_eq_zero_or_one j
 ·have e1:e7 us j=gU us (j/2):=by unfold e7;rw[oV c]
  have e2:e7 us (j+1)=zF us (j/2):=by unfold e7;rw[oW ⋯,show(j+1)/2=j/2 by lia]
  have e3:Ei us j=gU us (j/2):=by unfold Ei;rw[show(j+1)/2=j/2 by lia]
  obtain⟨l,⟨p1,p2⟩,_⟩:=U.st2 (i:=j/2) ⋯;have o:=(U.at_ (i:=j/2) ⋯).2.one;rw[e1,e2,e3];exact⟨_,l,p1,p2,o,o⟩
 ·have e1:e7 us j=zF us (j/2):=by unfold e7;rw[oW ⋯]
  have e2:e7 us (j+1)=gU us (j/2+1):=by unfold e7;rw[oV ⋯,show(j+1)/2=j/2+1 by lia]
  have e3:Ei us j=gU us (j/2+1):=by unfold Ei;rw[show(j+1)/2=j/2+1 by lia]
  obtain⟨l,_,⟨p1,p2⟩⟩:=U.st2 (i:=j/2) ⋯;have o:=(U.at_ (i:=j/2+1) ⋯).2.one;rw[e1,e2,e3];refine⟨_,l,?_,?_,?_,o⟩
  ·rw[p1];grind
  ·rw[p2];grind
  ·rw[p1,p2];grind
theorem CT(U:Us u w us){j:Nat}(hj:j+1<2*us.length-1){M q:Fr×Fr}{R z:Fr}(nM:Nv M.1 M.2 14)(nR:bF R)(nz:bF z)(z0:0<=val z)(zR:val z<=val R)
  (c0:0<=val (e7 us j).1*(val q.2-val M.2)-val (e7 us j).2*(val q.1-val M.1)) (c1:0<=(val q.1-val M.1)*val (e7 us (j+1)).2-(val q.2-val M.2)*val (e7 us (j+1)).1)
  (h1:z≠(0,1)->val z<=val (Ei us j).1*(val q.1-val M.1)+val (Ei us j).2*(val q.2-val M.2)) (h2:val (Ei us j).1*(val q.1-val M.1)+val (Ei us j).2*(val q.2-val M.2)<=val R):DP (Ea M R z (e7 us j) (e7 us (j+1))) q:=by
 obtain⟨l,l0,e1,e2,e3,o⟩:=U.ws hj;have na:=U.wt (j:=j) ⋯;have nc:=U.wt hj;obtain⟨ra1,ra2⟩:=nI (p:=R) nM na nR;obtain⟨rc1,rc2⟩:=nI (p:=R) nM nc nR;obtain⟨za1,za2⟩:=nI (p:=z) nM na nz;obtain⟨zc1,zc2⟩:=nI (p:=z) nM nc nz;generalize e7 us j=A at *;generalize e7 us (j+1)=C at *;generalize Ei us j=y at *;have R0:0<=val R:=by grind
 have side:0<=tE (bp M R A) (bp M R C) q:=by
  unfold tE;rw[ra1,ra2,rc1,rc2,e1,e2];have:=Rat.mul_nonneg (Rat.mul_nonneg R0 (Rat.le_of_lt l0)) (show 0<=val R-(val y.1*(val q.1-val M.1)+val y.2*(val q.2-val M.2)) by grind);have e:(val M.1+(val A.1-l*val y.2)*val R-(val M.1+val A.1*val R))*(val q.2-(val M.2+val A.2*val R))-(val M.2+(val A.2+l*val y.1)*val R-(val M.2+val A.2*val R))*(val q.1-(val M.1+val A.1*val R)) =
   val R*l*(val R*(val A.1*val y.1+val A.2*val y.2)-(val y.1*(val q.1-val M.1)+val y.2*(val q.2-val M.2))):=by grind
  rw[e,e3];grind
 unfold Ea
 by_cases hz:z=(0,1)
 ·rw[oV hz];intro k hk;have hk:k<3:=hk;have:k=0\/k=1\/k=2:=⋯
  obtain rfl|rfl|rfl:=this
  ·show 0<=tE (bp M R C) M q;unfold tE;rw[rc1,rc2];have:=Rat.mul_nonneg R0 c1;grind
  ·show 0<=tE M (bp M R A) q;unfold tE;rw[ra1,ra2];have:=Rat.mul_nonneg R0 c0;grind
  ·exact side
 ·rw[oW hz];have h1:=h1 hz;intro k hk;have hk:k<4:=hk;have:k=0\/k=1\/k=2\/k=3:=⋯
  obtain rfl|rfl|rfl|rfl:=this
  ·show 0<=tE (bp M z C) (bp M z A) q;unfold tE;rw[za1,za2,zc1,zc2,e1,e2];have:=Rat.mul_nonneg (Rat.mul_nonneg z0 (Rat.le_of_lt l0)) (show 0<=(val y.1*(val q.1-val M.1)+val y.2*(val q.2-val M.2))-val z by grind);have e:(val M.1+val A.1*val z-(val M.1+(val A.1-l*val y.2)*val z))*(val q.2-(val M.2+(val A.2+l*val y.1)*val z))-(val M.2+val A.2*val z-(val M.2+(val A.2+l*val y.1)*val z))*(val q.1-(val M.1+(val A.1-l*val y.2)*val z)) =
    val z*l*((val y.1*(val q.1-val M.1)+val y.2*(val q.2-val M.2))-val z*(val A.1*val y.1+val A.2*val y.2)):=by grind
   rw[e,e3];grind
  ·show 0<=tE (bp M z A) (bp M R A) q;unfold tE;rw[za1,za2,ra1,ra2];have:=Rat.mul_nonneg (show 0<=val R-val z by grind) c0;grind
  ·exact side
  ·show 0<=tE (bp M R C) (bp M z C) q;unfold tE;rw[rc1,rc2,zc1,zc2];have:=Rat.mul_nonneg (show 0<=val R-val z by grind) c1;grind
end
theorem Yj{q X Y:Fr×Fr}{u1 u2 m rx ry p:Rat}{V:List (Fr×Fr)}(o:u1*u1+u2*u2=1)(m0:0<m)(p0:0<p)(e1:val Y.1=val X.1+u1*m)(e2:val Y.2=val X.2+u2*m)(r1:rx = -(u2*p))(r2:ry=u1*p){v0 v1 v2 v3:Fr×Fr}(hV:V=[v0,v1,v2,v3])(a0:val v0.1=val X.1-rx/\val v0.2=val X.2-ry)(a1:val v1.1=val Y.1-rx/\val v1.2=val Y.2-ry)(a2:val v2.1=val Y.1+rx/\val v2.2=val Y.2+ry)(a3:val v3.1=val X.1+rx/\val v3.2=val X.2+ry)(x0:0<=u1*(val q.1-val X.1)+u2*(val q.2-val X.2))(x1:u1*(val q.1-val X.1)+u2*(val q.2-val X.2)<=m)(y0:-p<=u1*(val q.2-val X.2)-u2*(val q.1-val X.1))(y1:u1*(val q.2-val X.2)-u2*(val q.1-val X.1)<=p):DP V q:=by
 subst hV;intro k hk;have hk:k<4:=hk;have:k=0\/k=1\/k=2\/k=3:=⋯
 generalize hx:val q.1-val X.1=x at *;generalize hy:val q.2-val X.2=y at *;have q1:val q.1=val X.1+x:=by grind
 have q2:val q.2=val X.2+y:=by grind
 obtain rfl|rfl|rfl|rfl:=this
 ·show 0<=tE v3 v0 q;unfold tE;rw[a0.1,a0.2,a3.1,a3.2,q1,q2,r1,r2];have:=Rat.mul_nonneg (Rat.le_of_lt p0) x0;have e:(val X.1 - -(u2*p)-(val X.1 + -(u2*p)))*(val X.2+y-(val X.2+u1*p))-(val X.2-u1*p-(val X.2+u1*p))*(val X.1+x-(val X.1 + -(u2*p)))=2*(p*(u1*x+u2*y)):=by grind
  rw[e];grind
 ·show 0<=tE v0 v1 q;unfold tE;rw[a0.1,a0.2,a1.1,a1.2,e1,e2,q1,q2,r1,r2];have:=Rat.mul_nonneg (Rat.le_of_lt m0) (show 0<=u1*y-u2*x+p by grind);have e:(val X.1+u1*m - -(u2*p)-(val X.1 - -(u2*p)))*(val X.2+y-(val X.2-u1*p))-(val X.2+u2*m-u1*p-(val X.2-u1*p))*(val X.1+x-(val X.1 - -(u2*p)))=m*(u1*y-u2*x+p*(u1*u1+u2*u2)):=by grind
  rw[e,o];grind
 ·show 0<=tE v1 v2 q;unfold tE;rw[a1.1,a1.2,a2.1,a2.2,e1,e2,q1,q2,r1,r2];have:=Rat.mul_nonneg (Rat.le_of_lt p0) (show 0<=m-(u1*x+u2*y) by grind);have e:(val X.1+u1*m + -(u2*p)-(val X.1+u1*m - -(u2*p)))*(val X.2+y-(val X.2+u2*m-u1*p))-(val X.2+u2*m+u1*p-(val X.2+u2*m-u1*p))*(val X.1+x-(val X.1+u1*m - -(u2*p)))=2*(p*(m*(u1*u1+u2*u2)-(u1*x+u2*y))):=by grind
  rw[e,o];grind
 ·show 0<=tE v2 v3 q;unfold tE;rw[a2.1,a2.2,a3.1,a3.2,e1,e2,q1,q2,r1,r2];have:=Rat.mul_nonneg (Rat.le_of_lt m0) (show 0<=p-(u1*y-u2*x) by grind);have e:(val X.1 + -(u2*p)-(val X.1+u1*m + -(u2*p)))*(val X.2+y-(val X.2+u2*m+u1*p))-(val X.2+u1*p-(val X.2+u2*m+u1*p))*(val X.1+x-(val X.1+u1*m + -(u2*p)))=m*(p*(u1*u1+u2*u2)-(u1*y-u2*x)):=by grind
  rw[e,o];grind
end
theorem Ze{a1 a2 b1 b2 t1 t2 l v1 v2:Rat}(l0:0<l)(h1:t1=a1-l*a2)(h2:t2=a2+l*a1)(h3:t1=b1+l*b2)(h4:t2=b2-l*b1):
  (v1*b1+v2*b2<=v1*a1+v2*a2->0<=v1*t2-v2*t1)/\(v1*a1+v2*a2<=v1*b1+v2*b2->0<=t1*v2-t2*v1):=by
 have d1:a1-b1=l*(a2+b2):=by grind
 have d2:a2-b2 = -(l*(a1+b1)):=by grind
 have e1:2*t1=(1+l*l)*(a1+b1):=by
  have:2*t1=(a1+b1)-l*(a2-b2):=by grind
  rw[this,d2];grind
 have e2:2*t2=(1+l*l)*(a2+b2):=by
  have:2*t2=(a2+b2)+l*(a1-b1):=by grind
  rw[this,d1];grind
 have e3:v1*a1+v2*a2-(v1*b1+v2*b2)=l*(v1*(a2+b2)-v2*(a1+b1)):=by
  have:v1*a1+v2*a2-(v1*b1+v2*b2)=v1*(a1-b1)+v2*(a2-b2):=by grind
  rw[this,d1,d2];grind
 have e4:2*(v1*t2-v2*t1)=(1+l*l)*(v1*(a2+b2)-v2*(a1+b1)):=by
  have:2*(v1*t2-v2*t1)=v1*(2*t2)-v2*(2*t1):=by grind
  rw[this,e1,e2];grind
 generalize v1*(a2+b2)-v2*(a1+b1)=W at *;have ll:=LX l;constructor
 ·intro h;have W0:0<=W:=Rat.not_lt.mp λz=>by
   have:=Rat.mul_pos l0 (show 0 < -W by grind);grind
  have:=Rat.mul_nonneg (show 0<=1+l*l by grind) W0;grind
 ·intro h;have W0:0<=-W:=Rat.not_lt.mp λz=>by
   have:=Rat.mul_pos l0 (show 0<W by grind);grind
  have:=Rat.mul_nonneg (show 0<=1+l*l by grind) W0;grind
def dd(q:Fr×Fr)(N:Rat×Rat):Rat:=(val q.1-N.1)*(val q.1-N.1)+(val q.2-N.2)*(val q.2-N.2)
def lO(M:Fr×Fr)(r:Fr)(us:List (Fr×Fr))(k:Nat):Rat×Rat:=(val M.1+val (gU us k).1*val r,val M.2+val (gU us k).2*val r)
theorem B9{A C:Fr×Fr}{us:List (Fr×Fr)}(U:Us A C us){M q:Fr×Fr}{i:Nat}{l:Bool}(nM:Nv M.1 M.2 14)(nr:bF r)(sr:sz r<=4)(r0:0<val r)(fw:Fw p){k:Nat}(hk:k<us.length)(hd:dd q (lO M r us k)<=val p*val p)(n1:k+1<us.length->dd q (lO M r us k)<=dd q (lO M r us (k+1)))(n0:∀j,k=j+1->dd q (lO M r us k)<=dd q (lO M r us j))(f0:k=0->0<=val (gU us k).1*(val q.2-(lO M r us k).2)-val (gU us k).2*(val q.1-(lO M r us k).1))(f1:k+1=us.length->0<=(val q.1-(lO M r us k).1)*val (gU us k).2-(val q.2-(lO M r us k).2)*val (gU us k).1):∃t∈Lu i M r p us l,P1 t q:=by
 have n2:=U.n2;obtain⟨_,d1,d2,d3⟩:=U.inn;have d4:=(U.ld (us.length-2) ⋯).2;have p0:=fw.pos;obtain⟨nz,sz',zi,zv⟩:=Jz nr sr fw d1 ⋯ d3;have nR:=cI nr fw.n;have vR:=a7 nr fw.n;have ok:=(U.at_ hk).2.one;have db:=Gb (d1:=val q.1-(lO M r us k).1) (d2:=val q.2-(lO M r us k).2) ok hd (Rat.le_of_lt p0);unfold Lu;generalize Ci (us.map bB) (us.length-2)=ld at *;generalize hz:wZ r p ld=z at *;have xl:0<=val z/\val z<=val (aV r p)/\(z≠(0,1)->val z<=val r-val p):=by
  rw[vR]
  by_cases c:z=(0,1)
  ·rw[c,kQ];exact⟨Rat.le_refl,by grind,λh=>absurd rfl h⟩
  ·have lt:val p<val r:=by
    have:¬val r<=val p:=λy=>c (zi.2 y);grind
   have e:=zv lt;have a:=Rat.mul_nonneg (show 0<=val r-val p by grind) (show 0<=(1+val ld)/2 by grind);have b:=Rat.mul_nonneg (show 0<=val r-val p by grind) (show 0<=1-(1+val ld)/2 by grind);exact⟨by grind,by grind,λ_=>by grind⟩
 have cmp:∀j,j<us.length->dd q (lO M r us k)<=dd q (lO M r us j)->(val q.1-val M.1)*val (gU us j).1+(val q.2-val M.2)*val (gU us j).2<=(val q.1-val M.1)*val (gU us k).1+(val q.2-val M.2)*val (gU us k).2:=λj hj hle=>by
  have oj:=(U.at_ hj).2.one;unfold dd lO at hle;simp only at hle;have ex:∀y:Fr×Fr,val y.1*val y.1+val y.2*val y.2=1->(val q.1-(val M.1+val y.1*val r))*(val q.1-(val M.1+val y.1*val r))+(val q.2-(val M.2+val y.2*val r))*(val q.2-(val M.2+val y.2*val r)) =
    (val q.1-val M.1)*(val q.1-val M.1)+(val q.2-val M.2)*(val q.2-val M.2)+val r*val r-2*(val r*((val q.1-val M.1)*val y.1+(val q.2-val M.2)*val y.2)):=λy o=>by
   have:(val q.1-(val M.1+val y.1*val r))*(val q.1-(val M.1+val y.1*val r))+(val q.2-(val M.2+val y.2*val r))*(val q.2-(val M.2+val y.2*val r)) =
    (val q.1-val M.1)*(val q.1-val M.1)+(val q.2-val M.2)*(val q.2-val M.2)+val r*val r*(val y.1*val y.1+val y.2*val y.2)-2*(val r*((val q.1-val M.1)*val y.1+(val q.2-val M.2)*val y.2)):=by grind
   rw[this,o];grind
  rw[ex _ oj,ex _ ok]at hle;refine Rat.not_lt.mp λy=>?_;have:=Rat.mul_pos r0 (show 0<(val q.1-val M.1)*val (gU us j).1+(val q.2-val M.2)*val (gU us j).2-((val q.1-val M.1)*val (gU us k).1+(val q.2-val M.2)*val (gU us k).2) by grind);grind
 have uv:val (gU us k).1*(val q.1-val M.1)+val (gU us k).2*(val q.2-val M.2)=val r+(val (gU us k).1*(val q.1-(lO M r us k).1)+val (gU us k).2*(val q.2-(lO M r us k).2)):=by
  unfold lO;simp only;have:val (gU us k).1*(val q.1-(val M.1+val (gU us k).1*val r))+val (gU us k).2*(val q.2-(val M.2+val (gU us k).2*val r))=val (gU us k).1*(val q.1-val M.1)+val (gU us k).2*(val q.2-val M.2)-val r*(val (gU us k).1*val (gU us k).1+val (gU us k).2*val (gU us k).2):=by grind
  rw[this,ok];grind
 have cr:val (gU us k).1*(val q.2-(lO M r us k).2)-val (gU us k).2*(val q.1-(lO M r us k).1)=val (gU us k).1*(val q.2-val M.2)-val (gU us k).2*(val q.1-val M.1):=by
  unfold lO;simp only;grind
 have cr':(val q.1-(lO M r us k).1)*val (gU us k).2-(val q.2-(lO M r us k).2)*val (gU us k).1=(val q.1-val M.1)*val (gU us k).2-(val q.2-val M.2)*val (gU us k).1:=by
  unfold lO;simp only;grind
 rw[cr]at f0;rw[cr']at f1;have fin:∀j,j+1<2*us.length-1->(j+1)/2=k->0<=val (e7 us j).1*(val q.2-val M.2)-val (e7 us j).2*(val q.1-val M.1)->0<=(val q.1-val M.1)*val (e7 us (j+1)).2-(val q.2-val M.2)*val (e7 us (j+1)).1->∃t∈(OQ (2*us.length-2)).map (Lv i M (aV r p) z us l),P1 t q:=λj hj ej c0 c1=>by
  have eu:Ei us j=gU us k:=by unfold Ei;rw[ej]
  refine⟨_,QK.mpr ⟨j,QH.mpr ⋯,rfl⟩,Ni.mpr (CT U hj nM nR nz xl.1 xl.2.1 c0 c1 (λh=>?_) ?_)⟩
  ·rw[eu,uv];have:=xl.2.2 h;grind
  ·rw[eu,uv,vR];grind
 have vm:∀j,k=j+1->0<=(val q.1-val M.1)*val (gU us k).2-(val q.2-val M.2)*val (gU us k).1->∃t∈(OQ (2*us.length-2)).map (Lv i M (aV r p) z us l),P1 t q:=λj ej c=>by
  subst ej;have e1:e7 us (2*j+1)=zF us j:=by unfold e7;rw[oW ⋯,show(2*j+1)/2=j by lia]
  have e2:e7 us (2*j+1+1)=gU us (j+1):=by unfold e7;rw[oV ⋯,show(2*j+1+1)/2=j+1 by lia]
  obtain⟨l0,⟨t1,t2⟩,t3,t4⟩:=U.st2 (i:=j) hk;refine fin (2*j+1) ⋯ ⋯ ?_ (by rw[e2];exact c);rw[e1];exact(Ze l0 t1 t2 t3 t4).2 (cmp j ⋯ (n0 j rfl))
 by_cases c:0<=val (gU us k).1*(val q.2-val M.2)-val (gU us k).2*(val q.1-val M.1)
 ·obtain h|h:=OY (k+1) us.length
  ·have e1:e7 us (2*k)=gU us k:=by unfold e7;rw[oV ⋯,show 2*k/2=k by lia]
   have e2:e7 us (2*k+1)=zF us k:=by unfold e7;rw[oW ⋯,show(2*k+1)/2=k by lia]
   obtain⟨l0,⟨t1,t2⟩,t3,t4⟩:=U.st2 (i:=k) h;refine fin (2*k) ⋯ ⋯ (by rw[e1];exact c) ?_;rw[e2];exact(Ze l0 t1 t2 t3 t4).1 (cmp (k+1) h (n1 h))
  ·obtain⟨j,rfl⟩:∃j,k=j+1:=⟨k-1,⋯⟩;exact vm j rfl (f1 ⋯)
 ·obtain h|h:=QJ k
  ·exact absurd (f0 h) c
  ·obtain⟨j,rfl⟩:∃j,k=j+1:=⟨k-1,⋯⟩;exact vm j rfl (by grind)
section
variable{P:VQ}{w:VU}{K:W.Frag}{mg:Str->Option oA}{base:oE}
theorem Gw{α:Type}(f:α->Rat):∀{l:List α},l≠[]->∃x∈l,∀y∈l,f x<=f y
 |[],h=>absurd rfl h
 |[a],_=>⟨a,RN _,λy hy=>by rw[PD.mp hy];exact Rat.le_refl⟩
 |a::b::l,_=>by
  obtain⟨x,hx,m⟩:=Gw f (l:=b::l) (by simp)
  by_cases c:f a<=f x
  ·refine⟨a,OK ..,λy hy=>?_⟩;obtain rfl|hy:=NZ.mp hy
   ·exact Rat.le_refl
   ·have:=m y hy;grind
  ·refine⟨x,OC _ hx,λy hy=>?_⟩;obtain rfl|hy:=NZ.mp hy
   ·grind
   ·exact m y hy
section
variable{a b:Fr}{ms:List Mv}{p:Fr}{s:Int}
def cB(a b:Fr)(ms:List Mv)(j:Nat):Rat×Rat:=(val (px a b ms j),val (py a b ms j))
noncomputable def B8 (a b:Fr) (ms:List Mv) (s:Int) (i:Nat):List (Rat×Rat):=match gM ms i with
 |.side _ _ _=>[]
 |.arc x y u v r l=>(OQ (cN x y u v l s).length).map (lO (cG a b ms i x y r) r (cN x y u v l s))
noncomputable def uQ (a b:Fr) (ms:List Mv) (s:Int):List (Rat×Rat):=(OQ (ms.length+1)).map (cB a b ms)++((OQ ms.length).map (B8 a b ms s)).flatten
theorem vH(h:j<=ms.length):cB a b ms j∈uQ a b ms s:=QD _ (RO (QH.mpr ⋯))
theorem Md(hi:i<ms.length)(e:gM ms i = .arc x y u v r l)(hk:k<(cN x y u v l s).length):lO (cG a b ms i x y r) r (cN x y u v l s) k∈uQ a b ms s:=by
 refine ON _ (UT.mpr ⟨B8 a b ms s i,RO (QH.mpr hi),?_⟩);unfold B8;rw[e];exact RO (QH.mpr hk)
theorem Kh{N:Rat×Rat}(h:N∈uQ a b ms s):(∃j,j<=ms.length/\N=cB a b ms j)\/∃i x y u v r l k,i<ms.length/\gM ms i = .arc x y u v r l/\k<(cN x y u v l s).length/\N=lO (cG a b ms i x y r) r (cN x y u v l s) k:=by
 obtain h|h:=OZ.mp h
 ·obtain⟨j,hj,rfl⟩:=QK.mp h;have:=QH.mp hj;exact .inl ⟨j,⋯,rfl⟩
 ·obtain⟨L,hL,h⟩:=UT.mp h;obtain⟨i,hi,rfl⟩:=QK.mp hL;unfold B8 at h;cases e:gM ms i with
  |side x y m=>rw[e]at h;cases h
  |arc x y u v r l=>
   rw[e]at h;obtain⟨k,hk,rfl⟩:=QK.mp h;exact .inr ⟨i,x,y,u,v,r,l,k,QH.mp hi,e,QH.mp hk,rfl⟩
theorem yL:∀{N j:Nat},j<N->t∈eB a b ms p s j\/t∈kK a b ms p s ((j+1)%ms.length)->t∈jB a b ms p s N
 |0,_,h,_=>absurd h (SQ _)
 |N+1,j,h,ht=>by
  show t∈jB a b ms p s N++eB a b ms p s N++kK a b ms p s ((N+1)%ms.length);obtain c|c:=OY j N
  ·exact QD _ (QD _ (yL c ht))
  ·obtain rfl:j=N:=⋯
   obtain h|h:=ht
   ·exact QD _ (ON _ h)
   ·exact ON _ h
theorem Ez(h:t∈jB a b ms p s ms.length):t∈mZ a b ms p s:=by
 unfold mZ
 split
 ·exact h
 ·exact QD _ (ON _ h)
theorem An(hi:i<ms.length)(h:t∈eB a b ms p s i):t∈mZ a b ms p s:=Ez (yL hi (.inl h))
theorem Th(hk:k<ms.length)(h:t∈kK a b ms p s k):t∈mZ a b ms p s:=by
 have e:(cE k ms.length+1)%ms.length=k:=by
  unfold cE
  split
  ·rw[show ms.length-1+1=ms.length by lia,Nat.mod_self];lia
  ·rw[show k-1+1=k by lia,Nat.mod_eq_of_lt hk]
 exact Ez (yL (lC hk) (.inr (by rw[e];exact h)))
def Cv(a b:Fr)(ms:List Mv)(p:Fr)(s:Int)(q:Fr×Fr):Prop:=∃t∈mZ a b ms p s,P1 t q
theorem Pm.ue(h:Pm a b ms)(hk:k<ms.length):bV (eU (gM ms k)).1 (eU (gM ms k)).2 4/\bV (bU (gM ms k)).1 (bU (gM ms k)).2 4:=
 ⟨(h.ok _ (NX (fE hk))).eu,(h.ok _ (NX (fE hk))).bu⟩
theorem yG(h:Pm a b ms)(fw:Fw p)(hi:i<ms.length)(e:gM ms i = .side x y m)(x0:0<=val x*(val q.1-val (px a b ms i))+val y*(val q.2-val (py a b ms i)))(x1:val x*(val q.1-val (px a b ms i))+val y*(val q.2-val (py a b ms i))<=val m)(y0:-val p<=val x*(val q.2-val (py a b ms i))-val y*(val q.1-val (px a b ms i)))(y1:val x*(val q.2-val (py a b ms i))-val y*(val q.1-val (px a b ms i))<=val p):Cv a b ms p s q:=by
 have hm:=fE hi;rw[e]at hm;obtain⟨ux,nm,sm,pm,_⟩:=h.ok _ (NX hm);have n0:=h.nv i;have n1:=h.nv (i+1);obtain⟨ex,ey⟩:=pO (a:=a) (b:=b) hm;have vx:val (px a b ms (i+1))=val (px a b ms i)+val x*val m:=by
  rw[ex];show val (aV _ (aH x m))=_;rw[a7 n0.x (aK ux.nv.x nm),aR ux.nv.x nm]
 have vy:val (py a b ms (i+1))=val (py a b ms i)+val y*val m:=by
  rw[ey];show val (aV _ (aH y m))=_;rw[a7 n0.y (aK ux.nv.y nm),aR ux.nv.y nm]
 have nr:=iH ux.left.nv fw.n;have r1:val (aH (aN y) p) = -(val y*val p):=by rw[aR (eQ ux.nv.y) fw.n,bC ux.nv.y];grind
 have r2:val (aH x p)=val x*val p:=aR ux.nv.x fw.n;refine⟨Lx i (px a b ms i) (py a b ms i) (px a b ms (i+1)) (py a b ms (i+1)) (aH (aN y) p) (aH x p),An hi (by unfold eB;rw[e];exact RN _),"strip",i,[(_,_),(_,_),(_,_),(_,_)],"r-l-",rfl,?_⟩;exact Yj (X:=(px a b ms i,py a b ms i)) (Y:=(px a b ms (i+1),py a b ms (i+1))) ux.one pm fw.pos vx vy r1 r2 rfl ⟨bQ n0.x nr.x,bQ n0.y nr.y⟩ ⟨bQ n1.x nr.x,bQ n1.y nr.y⟩ ⟨a7 n1.x nr.x,a7 n1.y nr.y⟩ ⟨a7 n0.x nr.x,a7 n0.y nr.y⟩ x0 x1 y0 y1
theorem yH(h:Pm a b ms)(hi:i<ms.length)(e:gM ms i = .side x y m):(cB a b ms (i+1)).1=val (px a b ms i)+val x*val m/\(cB a b ms (i+1)).2=val (py a b ms i)+val y*val m/\val x*val x+val y*val y=1/\0<val m:=by
 have hm:=fE hi;rw[e]at hm;obtain⟨ux,nm,sm,pm,_⟩:=h.ok _ (NX hm);have n0:=h.nv i;obtain⟨ex,ey⟩:=pO (a:=a) (b:=b) hm;refine⟨?_,?_,ux.one,pm⟩
 ·show val (px a b ms (i+1))=_;rw[ex];show val (aV _ (aH x m))=_;rw[a7 n0.x (aK ux.nv.x nm),aR ux.nv.x nm]
 ·show val (py a b ms (i+1))=_;rw[ey];show val (aV _ (aH y m))=_;rw[a7 n0.y (aK ux.nv.y nm),aR ux.nv.y nm]
theorem nH(h:Pm a b ms)(hi:i<ms.length)(e:gM ms i = .arc x y u v r l)(hs:s=1\/s=2\/s=3):∃A C,Us A C (cN x y u v l s)/\Nv (cG a b ms i x y r).1 (cG a b ms i x y r).2 14/\bF r/\sz r<=4/\0<val r/\
  (l=true->(gU (cN x y u v l s) 0=(x,y)/\gU (cN x y u v l s) ((cN x y u v l s).length-1)=(u,v))/\cB a b ms i=lO (cG a b ms i x y r) r (cN x y u v l s) 0/\cB a b ms (i+1)=lO (cG a b ms i x y r) r (cN x y u v l s) ((cN x y u v l s).length-1))/\
  (l=false->(gU (cN x y u v l s) 0=(u,v)/\gU (cN x y u v l s) ((cN x y u v l s).length-1)=(x,y))/\cB a b ms (i+1)=lO (cG a b ms i x y r) r (cN x y u v l s) 0/\cB a b ms i=lO (cG a b ms i x y r) r (cN x y u v l s) ((cN x y u v l s).length-1)):=by
 have hm:=fE hi;rw[e]at hm;have ok:=h.ok _ (NX hm);obtain⟨o1,o2,ne,nr,sr,r0,_⟩:=id ok;have nM:Nv (cG a b ms i x y r).1 (cG a b ms i x y r).2 14:=(j0 h.chain (jC ms a b _ _ hm)).1;have n0:=h.nv i;obtain⟨ex,ey⟩:=pO (a:=a) (b:=b) hm;have g0:∀{A C us},Us A C us->gU us 0=A/\gU us (us.length-1)=C:=λ{A C us}U=>by
  have n2:=U.n2;have h1:=(U.at_ (i:=0) ⋯).1;have h2:=(U.at_ (i:=us.length-1) ⋯).1;rw[U.hd]at h1;rw[U.ls]at h2;exact⟨(Option.some.inj h1).symm,(Option.some.inj h2).symm⟩
 have M1:val (cG a b ms i x y r).1=val (px a b ms i)-val x*val r:=by show val (aS _ _)=_;rw[bQ n0.x (aK o1.nv.x nr),aR o1.nv.x nr]
 have M2:val (cG a b ms i x y r).2=val (py a b ms i)-val y*val r:=by show val (aS _ _)=_;rw[bQ n0.y (aK o1.nv.y nr),aR o1.nv.y nr]
 have b0:cB a b ms i=(val (cG a b ms i x y r).1+val x*val r,val (cG a b ms i x y r).2+val y*val r):=by
  rw[M1,M2];exact Prod.ext (by show val (px a b ms i)=_;grind) (by show val (py a b ms i)=_;grind)
 have b1:cB a b ms (i+1)=(val (cG a b ms i x y r).1+val u*val r,val (cG a b ms i x y r).2+val v*val r):=by
  refine Prod.ext ?_ ?_
  ·show val (px a b ms (i+1))=_;rw[ex];show val (aV (cG a b ms i x y r).1 (aH u r))=_;rw[a7 nM.x (aK o2.nv.x nr),aR o2.nv.x nr]
  ·show val (py a b ms (i+1))=_;rw[ey];show val (aV (cG a b ms i x y r).2 (aH v r))=_;rw[a7 nM.y (aK o2.nv.y nr),aR o2.nv.y nr]
 cases l with
 |true=>
  have B:UB (x,y) (u,v) s (cN x y u v true s):=by unfold cN;rw[oV rfl];exact dS o1 o2 (λz=>ne ⟨(congrArg Prod.fst z).symm,(congrArg Prod.snd z).symm⟩) hs
  obtain⟨z0,z1⟩:=g0 B.U;refine⟨_,_,B.U,nM,nr,⋯,r0,λ_=>⟨⟨z0,z1⟩,?_,?_⟩,λz=>absurd z ∅⟩
  ·rw[b0];unfold lO;rw[z0]
  ·rw[b1];unfold lO;rw[z1]
 |false=>
  have B:UB (u,v) (x,y) s (cN x y u v false s):=by unfold cN;rw[oW ∅];exact dS o2 o1 (λz=>ne ⟨congrArg Prod.fst z,congrArg Prod.snd z⟩) hs
  obtain⟨z0,z1⟩:=g0 B.U;refine⟨_,_,B.U,nM,nr,⋯,r0,λz=>absurd z ∅,λ_=>⟨⟨z0,z1⟩,?_,?_⟩⟩
  ·rw[b1];unfold lO;rw[z0]
  ·rw[b0];unfold lO;rw[z1]
structure Qc(a b:Fr)(ms:List Mv)(p:Fr)(s:Int)(q:Fr×Fr)(D:Rat):Prop where
 h:Pm a b ms
 fw:Fw p
 hs:s=1\/s=2\/s=3
 le:D<=val p*val p
 mn:∀N∈uQ a b ms s,D<=dd q N
theorem Qc.arc{D:Rat}(Z:Qc a b ms p s q D)(hi:i<ms.length)(e:gM ms i = .arc x y u v r l)(hk:k<(cN x y u v l s).length)(ed:dd q (lO (cG a b ms i x y r) r (cN x y u v l s) k)=D)(f0:k=0->0<=val (gU (cN x y u v l s) k).1*(val q.2-(lO (cG a b ms i x y r) r (cN x y u v l s) k).2)-val (gU (cN x y u v l s) k).2*(val q.1-(lO (cG a b ms i x y r) r (cN x y u v l s) k).1))(f1:k+1=(cN x y u v l s).length->0<=(val q.1-(lO (cG a b ms i x y r) r (cN x y u v l s) k).1)*val (gU (cN x y u v l s) k).2-(val q.2-(lO (cG a b ms i x y r) r (cN x y u v l s) k).2)*val (gU (cN x y u v l s) k).1):Cv a b ms p s q:=by
 obtain⟨A,C,U,nM,nr,sr,r0,_⟩:=nH Z.h hi e Z.hs;obtain⟨t,ht,hq⟩:=B9 (i:=i) (l:=l) U nM nr sr r0 Z.fw hk (by rw[ed];exact Z.le) (λh=>by rw[ed];exact Z.mn _ (Md hi e h)) (λj hj=>by rw[ed];exact Z.mn _ (Md hi e ⋯)) f0 f1;exact⟨t,An hi (by unfold eB;rw[e];exact ht),hq⟩
theorem Qc.out{D:Rat}(Z:Qc a b ms p s q D)(hi:i<ms.length)(ed:dd q (cB a b ms i)=D)(c:0<=val (bU (gM ms i)).1*(val q.1-(cB a b ms i).1)+val (bU (gM ms i)).2*(val q.2-(cB a b ms i).2)):Cv a b ms p s q:=by
 have p0:=Z.fw.pos;cases e:gM ms i with
 |side x y m=>
  rw[e]at c;obtain⟨e1,e2,o,m0⟩:=yH Z.h hi e;have mn:=Z.mn _ (vH (a:=a) (b:=b) (s:=s) (show i+1<=ms.length by lia))
  change 0<=val x*(val q.1-val (px a b ms i))+val y*(val q.2-val (py a b ms i))at c
  have ed':(val q.1-val (px a b ms i))*(val q.1-val (px a b ms i))+(val q.2-val (py a b ms i))*(val q.2-val (py a b ms i))=D:=ed;have db:=Gb o (by rw[ed'];exact Z.le) (Rat.le_of_lt p0)
  by_cases t:val x*(val q.1-val (px a b ms i))+val y*(val q.2-val (py a b ms i))<=val m
  ·exact yG Z.h Z.fw hi e c t db.2.2 db.2.1
  ·exfalso;unfold dd at mn;rw[e1,e2]at mn;have:=Rat.mul_pos m0 (show 0<val x*(val q.1-val (px a b ms i))+val y*(val q.2-val (py a b ms i))-val m by grind);have m2:=Rat.mul_pos m0 m0;have ex:(val q.1-(val (px a b ms i)+val x*val m))*(val q.1-(val (px a b ms i)+val x*val m))+(val q.2-(val (py a b ms i)+val y*val m))*(val q.2-(val (py a b ms i)+val y*val m)) =
    (val q.1-val (px a b ms i))*(val q.1-val (px a b ms i))+(val q.2-val (py a b ms i))*(val q.2-val (py a b ms i))+val m*val m*(val x*val x+val y*val y)-2*(val m*(val x*(val q.1-val (px a b ms i))+val y*(val q.2-val (py a b ms i)))):=by grind
   rw[ex,o,ed']at mn;grind
 |arc x y u v r l=>
  rw[e]at c;obtain⟨A,C,U,nM,nr,sr,r0,h1,h2⟩:=nH Z.h hi e Z.hs;have n2:=U.n2;cases l with
  |true=>
   obtain⟨⟨g0,g1⟩,b0,b1⟩:=h1 rfl;rw[b0]at ed c;refine Z.arc hi e ⋯ ed (λ_=>?_) (λz=>⋯);rw[g0]
   change 0<=val (aN y)*_+val x*_ at c
   have ok:=Z.h.ok _ (NX (fE hi));rw[e]at ok;rw[bC ok.1.nv.y]at c;show 0<=val x*_-val y*_;grind
  |false=>
   obtain⟨⟨g0,g1⟩,b0,b1⟩:=h2 rfl;rw[b1]at ed c;refine Z.arc hi e ⋯ ed (λz=>⋯) (λ_=>?_);rw[g1]
   change 0<=val y*_+val (aN x)*_ at c
   have ok:=Z.h.ok _ (NX (fE hi));rw[e]at ok;rw[bC ok.1.nv.x]at c;show 0<=_*val y-_*val x;grind
theorem Qc.inn{D:Rat}(Z:Qc a b ms p s q D)(hi:i<ms.length)(ed:dd q (cB a b ms (i+1))=D)(c:val (eU (gM ms i)).1*(val q.1-(cB a b ms (i+1)).1)+val (eU (gM ms i)).2*(val q.2-(cB a b ms (i+1)).2)<=0):Cv a b ms p s q:=by
 have p0:=Z.fw.pos;cases e:gM ms i with
 |side x y m=>
  rw[e]at c;obtain⟨e1,e2,o,m0⟩:=yH Z.h hi e;have mn:=Z.mn _ (vH (a:=a) (b:=b) (s:=s) (show i<=ms.length by lia))
  change dd q (cB a b ms (i+1))=D at ed
  change val x*(val q.1-(cB a b ms (i+1)).1)+val y*(val q.2-(cB a b ms (i+1)).2)<=0 at c
  have db:=Gb o (show(val q.1-(cB a b ms (i+1)).1)*(val q.1-(cB a b ms (i+1)).1)+(val q.2-(cB a b ms (i+1)).2)*(val q.2-(cB a b ms (i+1)).2)<=val p*val p from by have:=Z.le;rw[<-ed]at this;exact this) (Rat.le_of_lt p0);unfold dd at ed;rw[e1,e2]at c db ed;have f1:val x*(val q.1-(val (px a b ms i)+val x*val m))+val y*(val q.2-(val (py a b ms i)+val y*val m))=val x*(val q.1-val (px a b ms i))+val y*(val q.2-val (py a b ms i))-val m*(val x*val x+val y*val y):=by grind
  have f2:val x*(val q.2-(val (py a b ms i)+val y*val m))-val y*(val q.1-(val (px a b ms i)+val x*val m))=val x*(val q.2-val (py a b ms i))-val y*(val q.1-val (px a b ms i)):=by grind
  rw[f1,o]at c db;rw[f2]at db
  by_cases t:0<=val x*(val q.1-val (px a b ms i))+val y*(val q.2-val (py a b ms i))
  ·exact yG Z.h Z.fw hi e t (by grind) db.2.2 db.2.1
  ·exfalso
   change D<=(val q.1-val (px a b ms i))*(val q.1-val (px a b ms i))+(val q.2-val (py a b ms i))*(val q.2-val (py a b ms i))at mn
   have:=Rat.mul_pos m0 (show 0 < -(val x*(val q.1-val (px a b ms i))+val y*(val q.2-val (py a b ms i))) by grind);have m2:=Rat.mul_pos m0 m0;have ex:(val q.1-(val (px a b ms i)+val x*val m))*(val q.1-(val (px a b ms i)+val x*val m))+(val q.2-(val (py a b ms i)+val y*val m))*(val q.2-(val (py a b ms i)+val y*val m)) =
    (val q.1-val (px a b ms i))*(val q.1-val (px a b ms i))+(val q.2-val (py a b ms i))*(val q.2-val (py a b ms i))+val m*val m*(val x*val x+val y*val y)-2*(val m*(val x*(val q.1-val (px a b ms i))+val y*(val q.2-val (py a b ms i)))):=by grind
   rw[ex,o]at ed;grind
 |arc x y u v r l=>
  rw[e]at c;obtain⟨A,C,U,nM,nr,sr,r0,h1,h2⟩:=nH Z.h hi e Z.hs;have n2:=U.n2;have ok:=Z.h.ok _ (NX (fE hi));rw[e]at ok;cases l with
  |true=>
   obtain⟨⟨g0,g1⟩,b0,b1⟩:=h1 rfl;rw[b1]at ed c;refine Z.arc hi e ⋯ ed (λz=>⋯) (λ_=>?_);rw[g1]
   change val (aN v)*_+val u*_<=0 at c
   rw[bC ok.2.1.nv.y]at c;show 0<=_*val v-_*val u;grind
  |false=>
   obtain⟨⟨g0,g1⟩,b0,b1⟩:=h2 rfl;rw[b0]at ed c;refine Z.arc hi e ⋯ ed (λ_=>?_) (λz=>⋯);rw[g0]
   change val v*_+val (aN u)*_<=0 at c
   rw[bC ok.2.1.nv.x]at c;show 0<=val u*_-val v*_;grind
theorem Us.g0{u w:Fr×Fr}{us:List (Fr×Fr)}(U:Us u w us):gU us 0=u/\gU us (us.length-1)=w:=by
 have n2:=U.n2;have h1:=(U.at_ (i:=0) ⋯).1;have h2:=(U.at_ (i:=us.length-1) ⋯).1;rw[U.hd]at h1;rw[U.ls]at h2;exact⟨(Option.some.inj h1).symm,(Option.some.inj h2).symm⟩
theorem M5(h:bV u.1 u.2 e)(d1 d2:Rat):val (vQ u).1*d2-val (vQ u).2*d1=val u.1*d1+val u.2*d2/\d1*val (vQ u).2-d2*val (vQ u).1 = -(val u.1*d1+val u.2*d2)/\
  val (uO u).1*d2-val (uO u).2*d1 = -(val u.1*d1+val u.2*d2)/\d1*val (uO u).2-d2*val (uO u).1=val u.1*d1+val u.2*d2:=by
 have a:=bC h.nv.x;have b:=bC h.nv.y;unfold vQ uO;simp only;rw[a,b];exact⟨by grind,by grind,by grind,by grind⟩
theorem Ui{u w:Fr×Fr}(ue:bV u.1 u.2 4)(ub:bV w.1 w.2 4)(ns:b7 u w≠"straight")(hs:s=1\/s=2\/s=3){d1 d2:Rat}(h1:0<=val u.1*d1+val u.2*d2)(h2:val w.1*d1+val w.2*d2<=0):
  ∃x y,Us x y (wW u w s)/\0<=val x.1*d2-val x.2*d1/\0<=d1*val y.2-d2*val y.1:=by
 obtain⟨r1,l1⟩:=qG ue;obtain⟨r2,l2⟩:=qG ub;obtain⟨a1,a2,a3,a4⟩:=M5 ue d1 d2;obtain⟨b1,b2,b3,b4⟩:=M5 ub d1 d2;refine sY (s:=s) ue ub (λ_ c=>absurd c ns) (λc n e=>?_) (λc n e=>?_) (λc n e=>?_)<;>rw[e]
 ·exact⟨_,_,(dS r1 r2 n hs).U,by rw[a1];exact h1,by rw[b2];grind⟩
 ·exact⟨_,_,(dS l2 l1 n hs).U,by rw[b3];grind,by rw[a4];exact h1⟩
 ·exact⟨_,_,(dS r1 l1 n hs).U,by rw[a1];exact h1,by rw[a4];exact h1⟩
theorem Qc.fan{D:Rat}(Z:Qc a b ms p s q D)(ed:dd q (cB a b ms j)=D)(U:Us x y us)(c0:0<=val x.1*(val q.2-val (py a b ms j))-val x.2*(val q.1-val (px a b ms j)))(c1:0<=(val q.1-val (px a b ms j))*val y.2-(val q.2-val (py a b ms j))*val y.1)(wd:Str)(i:Nat)(c:Str):
  P1 (sX wd i (px a b ms j,py a b ms j) p us c) q:=by
 obtain⟨g0,g1⟩:=U.g0;refine X8 U (P:=(px a b ms j,py a b ms j)) (Z.h.nv j) Z.fw ?_ (by rw[g0];exact c0) (by rw[g1];exact c1) wd i c;have:=Z.le;rw[<-ed]at this;exact this
theorem Qc.ends{D:Rat}(Z:Qc a b ms p s q D)(hj:j<=ms.length)(ed:dd q (cB a b ms j)=D):Cv a b ms p s q:=by
 have l1:=RI.mpr Z.h.ne;have qu:∀k k',k<ms.length->fst a b (cM a b ms)<=k->cE k ms.length=k'->cB a b ms (k'+1)=cB a b ms k->dd q (cB a b ms k)=D->Cv a b ms p s q:=λk k' hk hf ha he hd=>by
  have hk':k'<ms.length:=by rw[<-ha];exact lC hk
  by_cases c:0<=val (bU (gM ms k)).1*(val q.1-(cB a b ms k).1)+val (bU (gM ms k)).2*(val q.2-(cB a b ms k).2)
  ·exact Z.out hk hd c
  by_cases c':val (eU (gM ms k')).1*(val q.1-(cB a b ms (k'+1)).1)+val (eU (gM ms k')).2*(val q.2-(cB a b ms (k'+1)).2)<=0
  ·exact Z.inn hk' (by rw[he];exact hd) c'
  rw[he]at c';have hw:Tp ms k=b7 (eU (gM ms k')) (bU (gM ms k)):=by unfold Tp;rw[ha]
  by_cases st:Tp ms k = "straight"
  ·exfalso;rw[hw]at st;have:eU (gM ms k')=bU (gM ms k):=by
    refine sY (s:=1) (Z.h.ue hk').1 (Z.h.ue hk).2 (λe _=>e) (λz _ _=>?_) (λz _ _=>?_) (λz _ _=>?_)<;>· rw[z]at st;exact absurd st ∅
   rw[this]at c';grind
  ·rw[hw]at st;obtain⟨x,y,U,d1,d2⟩:=Ui (Z.h.ue hk').1 (Z.h.ue hk).2 st Z.hs (d1:=val q.1-(cB a b ms k).1) (d2:=val q.2-(cB a b ms k).2) (by grind) (by grind);refine⟨_,Th hk (by unfold kK;rw[oV ⟨hf,by rw[hw];exact st⟩];exact RN _),?_⟩;rw[ha];exact Z.fan hd U d1 d2 _ _ _
 by_cases cl:W6 a b (cM a b ms)=true
 ·have f0:fst a b (cM a b ms)=0:=by unfold fst;rw[oV cl]
  have e0:cB a b ms ms.length=cB a b ms 0:=by
   have:=of_decide_eq_true cl;have e1:px a b ms ms.length=cP a (cM a b ms):=by unfold px;rw[<-dI ms a b,SA]
   have e2:py a b ms ms.length=cQ b (cM a b ms):=by unfold py;rw[<-dI ms a b,SA]
   unfold cB;rw[e1,e2,this.1,this.2];rfl
  have zero:dd q (cB a b ms 0)=D->Cv a b ms p s q:=λhd=>qu 0 (ms.length-1) l1 ⋯ rfl (by rw[show ms.length-1+1=ms.length by lia];exact e0) hd;obtain rfl|jp:=QJ j
  ·exact zero ed
  ·obtain jl|jg:=OY j ms.length
   ·exact qu j (j-1) jl ⋯ (by unfold cE;rw[oW ⋯]) (by rw[show j-1+1=j by lia]) ed
   ·obtain rfl:j=ms.length:=⋯
    exact zero (by rw[<-e0];exact ed)
 ·have f1:fst a b (cM a b ms)=1:=by unfold fst;rw[oW cl]
  obtain rfl|jp:=QJ j
  ·by_cases c:0<=val (bU (gM ms 0)).1*(val q.1-(cB a b ms 0).1)+val (bU (gM ms 0)).2*(val q.2-(cB a b ms 0).2)
   ·exact Z.out l1 ed c
   have u0:=(Z.h.ue l1).2;obtain⟨r1,xo⟩:=qG u0;obtain⟨a1,a2,a3,a4⟩:=M5 u0 (val q.1-(cB a b ms 0).1) (val q.2-(cB a b ms 0).2);refine⟨To a b ms p s (gM ms 0),by unfold mZ;rw[oW cl];exact QD _ (QD _ (RN _)),?_⟩;exact Z.fan (j:=0) ed (dS xo r1 (λz=>sL u0 z.symm) Z.hs).U (by show 0<=_*(val q.2-(cB a b ms 0).2)-_*(val q.1-(cB a b ms 0).1);rw[a3];grind) (by show 0<=(val q.1-(cB a b ms 0).1)*_-(val q.2-(cB a b ms 0).2)*_;rw[a2];grind) _ _ _
  ·obtain jl|jg:=OY j ms.length
   ·exact qu j (j-1) jl ⋯ (by unfold cE;rw[oW ⋯]) (by rw[show j-1+1=j by lia]) ed
   ·obtain rfl:j=ms.length:=⋯
    have l2:ms.length-1<ms.length:=⋯
    have el:ms.length-1+1=ms.length:=⋯
    by_cases c:val (eU (gM ms (ms.length-1))).1*(val q.1-(cB a b ms ms.length).1)+val (eU (gM ms (ms.length-1))).2*(val q.2-(cB a b ms ms.length).2)<=0
    ·exact Z.inn l2 (by rw[el];exact ed) (by rw[el];exact c)
    have u0:=(Z.h.ue l2).1;obtain⟨r1,xo⟩:=qG u0;obtain⟨a1,a2,a3,a4⟩:=M5 u0 (val q.1-(cB a b ms ms.length).1) (val q.2-(cB a b ms ms.length).2);refine⟨C5 a b ms p s (gM ms (ms.length-1)),by unfold mZ;rw[oW cl];exact ON _ (RN _),?_⟩;exact Z.fan (j:=ms.length) ed (dS r1 xo (sL u0) Z.hs).U (by show 0<=_*(val q.2-(cB a b ms ms.length).2)-_*(val q.1-(cB a b ms ms.length).1);rw[a1];grind) (by show 0<=(val q.1-(cB a b ms ms.length).1)*_-(val q.2-(cB a b ms ms.length).2)*_;rw[a4];grind) _ _ _
theorem Qc.node{D:Rat}(Z:Qc a b ms p s q D){N:Rat×Rat}(hN:N∈uQ a b ms s)(ed:dd q N=D):Cv a b ms p s q:=by
 obtain⟨j,hj,rfl⟩|⟨i,x,y,u,v,r,l,k,hi,e,hk,rfl⟩:=Kh hN
 ·exact Z.ends hj ed
 ·obtain⟨A,C,U,nM,nr,sr,r0,h1,h2⟩:=nH Z.h hi e Z.hs;have n2:=U.n2
  by_cases k0:k=0
  ·subst k0;cases l with
   |true=>obtain⟨_,b0,b1⟩:=h1 rfl;exact Z.ends (PK hi) (by rw[b0];exact ed)
   |false=>obtain⟨_,b0,b1⟩:=h2 rfl;exact Z.ends hi (by rw[b0];exact ed)
  ·by_cases k1:k+1=(cN x y u v l s).length
   ·have ek:k=(cN x y u v l s).length-1:=⋯
    subst ek;cases l with
    |true=>obtain⟨_,b0,b1⟩:=h1 rfl;exact Z.ends hi (by rw[b1];exact ed)
    |false=>obtain⟨_,b0,b1⟩:=h2 rfl;exact Z.ends (PK hi) (by rw[b1];exact ed)
   ·exact Z.arc hi e hk ed (λz=>absurd z k0) (λz=>absurd z k1)
def MD(a b:Fr)(ms:List Mv)(s:Int)(X:Rat×Rat):Prop:=X∈uQ a b ms s\/∃i x y m,i<ms.length/\gM ms i = .side x y m/\∃t:Rat,0<=t/\t<=1/\X=(val (px a b ms i)+val x*val m*t,val (py a b ms i)+val y*val m*t)
theorem Vu(h:Pm a b ms)(fw:Fw p)(hs:s=1\/s=2\/s=3){X:Rat×Rat}(on:MD a b ms s X)(le:dd q X<=val p*val p):Cv a b ms p s q:=by
 have p0:=fw.pos;have node:∀N∈uQ a b ms s,dd q N<=val p*val p->Cv a b ms p s q:=λN hN hd=>by
  obtain⟨Y,hY,mn⟩:=Gw (dd q) (l:=uQ a b ms s) (λz=>by rw[z]at hN;cases hN);exact Qc.node (D:=dd q Y) ⟨h,fw,hs,Rat.le_trans (mn N hN) hd,mn⟩ hY rfl
 obtain hX|⟨i,x,y,m,hi,e,t,t0,t1,rfl⟩:=on
 ·exact node X hX le
 ·obtain⟨e1,e2,o,m0⟩:=yH h hi e;have mt:=Rat.mul_nonneg (Rat.le_of_lt m0) t0;have mt1:=Rat.mul_nonneg (Rat.le_of_lt m0) (show 0<=1-t by grind);unfold dd at le;simp only at le;have db:=Gb o le (Rat.le_of_lt p0);have f2:val x*(val q.2-(val (py a b ms i)+val y*val m*t))-val y*(val q.1-(val (px a b ms i)+val x*val m*t))=val x*(val q.2-val (py a b ms i))-val y*(val q.1-val (px a b ms i)):=by grind
  rw[f2]at db;have sq:∀z:Rat,(val q.1-(val (px a b ms i)+val x*val m*z))*(val q.1-(val (px a b ms i)+val x*val m*z))+(val q.2-(val (py a b ms i)+val y*val m*z))*(val q.2-(val (py a b ms i)+val y*val m*z)) =
    (val q.1-val (px a b ms i))*(val q.1-val (px a b ms i))+(val q.2-val (py a b ms i))*(val q.2-val (py a b ms i))+val m*z*(val m*z)-2*(val m*z*(val x*(val q.1-val (px a b ms i))+val y*(val q.2-val (py a b ms i)))):=λz=>by
   have:(val q.1-(val (px a b ms i)+val x*val m*z))*(val q.1-(val (px a b ms i)+val x*val m*z))+(val q.2-(val (py a b ms i)+val y*val m*z))*(val q.2-(val (py a b ms i)+val y*val m*z)) =
    (val q.1-val (px a b ms i))*(val q.1-val (px a b ms i))+(val q.2-val (py a b ms i))*(val q.2-val (py a b ms i))+val m*z*(val m*z)*(val x*val x+val y*val y)-2*(val m*z*(val x*(val q.1-val (px a b ms i))+val y*(val q.2-val (py a b ms i)))):=by grind
   rw[this,o];grind
  rw[sq]at le;have q0:=sq 0;have q1:=sq 1;generalize hf:val x*(val q.1-val (px a b ms i))+val y*(val q.2-val (py a b ms i))=f at *
  by_cases c0:0<=f
  ·by_cases c1:f<=val m
   ·exact yG h fw hi e (by rw[hf];exact c0) (by rw[hf];exact c1) db.2.2 db.2.1
   ·refine node _ (vH (j:=i+1) hi) ?_;unfold dd;rw[e1,e2,show val x*val m=val x*val m*1 by grind,show val y*val m=val y*val m*1 by grind,q1];have:=Rat.mul_nonneg mt1 (show 0<=(f-val m)+(f-val m*t) by grind);grind
  ·refine node _ (vH (j:=i) (PK hi)) ?_;show(val q.1-val (px a b ms i))*(val q.1-val (px a b ms i))+(val q.2-val (py a b ms i))*(val q.2-val (py a b ms i))<=_;have:=Rat.mul_nonneg mt (show 0<=val m*t-f-f by grind);grind
end
theorem Jr{P:Fr×Fr}(nP:Nv P.1 P.2 14)(fw:Fw p)(U:Us x y us)(wd:Str)(i:Nat)(c:Str):Bk (sX wd i P p us c):=by
 obtain⟨n3,n40,nv⟩:=U.rays;have sp:=fw.s;refine⟨wd,i,_,_,rfl,by simp,by simp;lia,λq hq=>?_⟩;obtain rfl|hq:=NZ.mp hq
 ·exact nP.up ⋯
 ·obtain⟨r,hr,rfl⟩:=QK.mp hq;exact(P6 nP (nv r hr) fw.n sp).up ⋯
theorem W5{s:Int}(h:Pm a b ms)(fw:Fw p)(hs:s=1\/s=2\/s=3):∀t∈mZ a b ms p s,Bk t:=by
 have l1:=RI.mpr h.ne;have sp:=fw.s;have piece:∀i,i<ms.length->∀t∈eB a b ms p s i,Bk t:=λi hi t ht=>by
  have hm:=fE hi;unfold eB at ht;cases e:gM ms i with
  |side x y m=>
   rw[e]at ht hm;cases PD.mp ht;obtain⟨ux,nm,sm,pm,_⟩:=h.ok _ (NX hm);have n0:=h.nv i;have n1:=h.nv (i+1);have nr:=iH ux.left.nv fw.n;have s1:=(xD n0 nr).up (show _<=500 by lia);have s2:=(xD n1 nr).up (show _<=500 by lia);have s3:=(mB n1 nr).up (show _<=500 by lia);have s4:=(mB n0 nr).up (show _<=500 by lia);refine⟨"strip",i,[(_,_),(_,_),(_,_),(_,_)],"r-l-",rfl,by simp,by simp,λq hq=>?_⟩;simp only[NZ,QF,or_false]at hq;obtain rfl|rfl|rfl|rfl:=hq
   ·exact s1
   ·exact s2
   ·exact s3
   ·exact s4
  |arc x y u v r l=>
   rw[e]at ht;obtain⟨j,hj,rfl⟩:=QK.mp ht;have hj:=QH.mp hj;obtain⟨A,C,U,nM,nr,sr,r0,_⟩:=nH h hi e hs;obtain⟨_,d1,d2,d3⟩:=U.inn;obtain⟨nz,sz',_⟩:=Jz nr sr fw d1 ⋯ d3;have nR:=cI nr fw.n;have sR:sz (aV r p)<=340:=by have:=gV nr fw.n;lia
   have na:=U.wt (j:=j) ⋯;have nb:=U.wt (j:=j+1) ⋯;have q:∀{g:Fr}{A:Fr×Fr},bF g->sz g<=340->Nv A.1 A.2 130->Nv (bp (cG a b ms i x y r) g A).1 (bp (cG a b ms i x y r) g A).2 500:=λ{g A}n s k=>(P6 nM k n s).up ⋯;refine⟨_,_,_,_,rfl,?_,?_,?_⟩
   ·unfold Ea;split<;>simp
   ·unfold Ea;split<;>simp
   ·unfold Ea
    split
    ·intro t ht;simp only[NZ,QF,or_false]at ht;obtain rfl|rfl|rfl:=ht
     ·exact nM.up ⋯
     ·exact q nR sR na
     ·exact q nR sR nb
    ·intro t ht;simp only[NZ,QF,or_false]at ht;obtain rfl|rfl|rfl|rfl:=ht
     ·exact q nz sz' na
     ·exact q nR sR na
     ·exact q nR sR nb
     ·exact q nz sz' nb
 have qu:∀k,k<ms.length->∀t∈kK a b ms p s k,Bk t:=λk hk t ht=>by
  unfold kK at ht;split at ht
  ·rename_i c;cases PD.mp ht;obtain⟨x,y,U,_⟩:=Ui (s:=s) (d1:=0) (d2:=0) (h.ue (lC hk)).1 (h.ue hk).2 c.2 hs (by grind) (by grind);exact Jr (h.nv k) fw U _ _ _
  ·cases ht
 have told:∀j,j<=ms.length->∀t∈jB a b ms p s j,Bk t:=λj=>by
  induction j with
  |zero=>intro _ t ht;cases ht
  |succ j ih=>
   intro hj t ht;obtain ht|ht:=OZ.mp ht
   ·obtain ht|ht:=OZ.mp ht
    ·exact ih ⋯ t ht
    ·exact piece j ⋯ t ht
   ·exact qu _ (TC _ l1) t ht
 intro t ht;unfold mZ at ht;split at ht
 ·exact told _ (OF _) t ht
 ·obtain ht|ht:=OZ.mp ht
  ·obtain ht|ht:=OZ.mp ht
   ·cases PD.mp ht;obtain⟨r1,xo⟩:=qG (h.ue l1).2;exact Jr (P:=(a,b)) (h.nv 0) fw (dS xo r1 (λz=>sL (h.ue l1).2 z.symm) hs).U _ _ _
   ·exact told _ (OF _) t ht
  ·cases PD.mp ht;have l2:ms.length-1<ms.length:=⋯
   obtain⟨r1,xo⟩:=qG (h.ue l2).1;exact Jr (P:=(px a b ms ms.length,py a b ms ms.length)) (h.nv _) fw (dS r1 xo (sL (h.ue l2).1) hs).U _ _ _
theorem Qa{V:List (Fr×Fr)}(h:i<V.length):eZ (V.map bB) (i:Int)=oZ (bB (gU V i))/\gU V i∈V:=by
 have e:V[i]?=oZ (gU V i):=by unfold gU;rw[OU,NW h];rfl
 exact⟨iO (by rw[NY,e];rfl),NX e⟩
theorem IM{V:List (Fr×Fr)}(h:k<V.length):eZ (V.map bB) ((k:Int)-1)=oZ (bB (pv V k))/\pv V k∈V:=by
 unfold pv;obtain rfl|kp:=QJ k
 ·rw[oV rfl];refine⟨?_,(Qa ⋯).2⟩;obtain⟨L,p,e⟩:∃L p,V=L++[p]:=⟨V.dropLast,V.getLast (by intro z;rw[z]at h;simp at h),(SJ _).symm⟩;have g:gU V (V.length-1)=p:=by rw[e];unfold gU;simp[OU]
  rw[g,e,OR];exact My.rW _ _
 ·rw[oW ⋯,show(k:Int)-1=((k-1:Nat):Int) by lia];exact Qa ⋯
def MT:dG:=λas Q=>∃(wd:Str)(i:Nat)(V:List (Fr×Fr))(mk:Str)(q:Fr×Fr),as=[.v (Zt wd i V mk),.v (bB q)]/\1<=V.length/\V.length<=60/\(∀v∈V,Nv v.1 v.2 500)/\Nv q.1 q.2 500/\∀c:Bool,(c=true↔DP V q)->Q (.v (.bl c)) []
abbrev Tc(P w K mg base):=(~~~Fn) 4 "_law_in" ["_law_block","_law_point"] (aJ K MT)
abbrev Xu:VS:=top 91
theorem Lq:aF ["_law_block","_law_point","_law_spots","_law_k"] ["_law_block","_law_point"] (aC Xu):=dH
theorem AU(F:cL K "_law_in" "_law_in" Xu f fd)(TX:Txt mg)(ft: ~~~zK)(cq: ~~~Bg):(~~~aT) cO 4 f fd ["_law_block","_law_point"] (aJ K MT):=by
 refine F.okU Lq (λhr=>(aB (fS 2 Lq.nd (fQ 0)) (aB (j5 PassesOwn.never rfl (eJ rfl TX.n_range (f1 (fR rfl rfl TX.n_len (f1 (fv 2))))) (fG 3 Lq.nd) (aE (cD (fP lI (fX (fK ft (f2 (fK cq (f2 (fX (fv 2) (fv 3)) (fX (fv 2) (aY iJ (fv 3) aA)))) (fK cq (f2 (fv 1) (fX (fv 2) (aY iJ (fv 3) aA)))))) aA) aA) (aE (aG Gg)) bR))) (aE (aG Gg))))) ?_;rintro as Q ⟨wd,i,V,mk,q,rfl,v1,v60,nV,nq,z⟩;have lV:((((V.map bB).length:Nat):Int))=(V.length:Int):=by rw[OD]
 refine⟨⟨by rw[lV];lia,by rw[lV];lia⟩,?_⟩;show Cn _ (hJ _ _ _ (g9 0 ((((V.map bB).length:Nat):Int)).toNat));rw[lV,PR];refine cZ (λk E=>∃v3:Option U,E=[⇑(Zt wd i V mk),⇑(bB q),⇑(.tup (V.map bB)),v3]/\∀j,j<k->0<=tE (pv V j) (gU V j) q) ⟨_,rfl,λj hj=>⋯⟩ ?_ ?_
 ·rintro k t rest E hk ⟨v3,rfl,hi⟩ KK;obtain⟨kl,rfl⟩:=mD hk;rw[Int.zero_add];obtain⟨g1,m1⟩:=Qa kl;obtain⟨g2,m2⟩:=IM kl;have n1:=nV _ m1;have n2:=nV _ m2;have k1:=xD n1 n2;have k2:=xD nq n2;show o1 (eZ (V.map bB) (k:Int)) _;rw[g1];show o1 (eZ (V.map bB) ((k:Int)-1)) _;rw[g2];refine⟨_,_,_,_,500,500,rfl,n1,n2,∅,?_⟩;show o1 (eZ (V.map bB) ((k:Int)-1)) _;rw[g2];refine⟨_,_,_,_,500,500,rfl,nq,n2,∅,?_⟩;refine⟨_,_,_,_,1001,1001,rfl,k1,k2,∅,?_⟩;have sg:=El (cJ k1 k2);rw[dR k1 k2,bQ n1.x n2.x,bQ n1.y n2.y,bQ nq.x n2.x,bQ nq.y n2.y]at sg;show if decide ((aX (aS (gU V k).1 (pv V k).1) (aS (gU V k).2 (pv V k).2) (aS q.1 (pv V k).1) (aS q.2 (pv V k).2)).1<0)=true then _ else _
  by_cases c:(aX (aS (gU V k).1 (pv V k).1) (aS (gU V k).2 (pv V k).2) (aS q.1 (pv V k).1) (aS q.2 (pv V k).2)).1<0
  ·rw[oY c,oV rfl];have lt:=sg.2 c;refine⟨rfl,z false ⟨λh=>(RM h).elim,λh=>?_⟩⟩;have:=h k kl;unfold tE at this;grind
  ·rw[oX c,oW ∅];refine KK _ ⟨_,rfl,λj hj=>?_⟩;obtain h|h:=OY j k
   ·exact hi j h
   ·obtain rfl:j=k:=⋯
    unfold tE;exact Rat.not_lt.mp λy=>c (sg.1 (by grind))
 ·rintro E ⟨v3,rfl,hi⟩;have lr:(g9 0 V.length).length=V.length:=by simp[g9]
  rw[lr]at hi;exact⟨rfl,z true ⟨λ_=>hi,λ_=>rfl⟩⟩
theorem FT{ms:List Mv}(h:i<ms.length):eZ (ms.map kS) (i:Int)=oZ (kS (gM ms i)):=iO (by rw[NY,fE h];rfl)
def Qu(a b:Fr)(ms:List Mv)(j:Nat):L2.T:=vc (px a b ms j) (py a b ms j)
theorem MP{t k:Int}(t0:0<=t)(t1:t<=k)(hk:k=8\/k=16):bF (fY t k)/\sz (fY t k)<=5/\0<=val (fY t k)/\val (fY t k)<=1:=by
 have kp:0<k:=⋯
 have lf:=jN (n:=t) (d:=k) ⋯;have n:bF (fY t k):=⟨lf.2.1,lf.2.2.2⟩;have v:=eT (n:=t) (d:=k) ⋯;have k0:(0:Rat)<(k:Rat):=by exact_mod_cast kp
 have a0:(0:Rat)<=(t:Rat):=by exact_mod_cast t0
 have a1:(t:Rat)<=(k:Rat):=by exact_mod_cast t1
 have e:val (fY t k)*(k:Rat)=(t:Rat):=by rw[v];grind
 refine⟨n,S5 n kp e ⋯ ⋯ ∅,?_,?_⟩
 ·refine Rat.not_lt.mp λz=>?_;have:=Rat.mul_pos (show 0 < -val (fY t k) by grind) k0;grind
 ·refine Rat.not_lt.mp λz=>?_;have:=Rat.mul_pos (show 0<val (fY t k)-1 by grind) k0;grind
def HX:dG:=λas Q=>∃(xs:List L2.T)(n:Int)(a b:Fr)(ms:List Mv)(s:Int),as=[.b xs,.v (cA a b (cM a b ms)),.v (.lst (ms.map kS)),.v (.int s)]/\Bx xs n/\n<=800000/\Pm a b ms/\(s=1\/s=2\/s=3)/\
 ∀(X:Fr×Fr)ys,Nv X.1 X.2 60->MD a b ms s (val X.1,val X.2)->Bx ys (n+3)->bL ys=true->Q (.v (bB X)) ys
abbrev uI(P w K mg base):=(~~~Fn) 8 "_law_on_path" ["_law_box_here","_law_path","_law_found","_law_steps"] (aJ K HX)
abbrev qX:VS:=top 90
theorem eD:aF ["_law_box_here","_law_path","_law_found","_law_steps","_law_ends","_law_move","_law_units","_law_number","_law_share","_law_one","_law_other"] ["_law_box_here","_law_path","_law_found","_law_steps"] (aC qX):=dH
theorem Hm(F:cL K "_law_on_path" "_law_on_path" qX f fd)(TX:Txt mg)(YA: ~~~kJ)(YN: ~~~jU)(ZR: ~~~vB)(XY: ~~~fA)(XW: ~~~cR):(~~~aT) cO 8 f fd ["_law_box_here","_law_path","_law_found","_law_steps"] (aJ K HX):=by
 refine F.okU eD (λhr=>(aB (gH (i:=7) (j:=8) rfl eD.nd rfl rfl ∅ rfl rfl (f2 (fB YA (f2 (fv 0) (fR rfl rfl TX.n_len (f1 (fv 2))))) (fK YN (f2 (fB YA (f2 (fv 0) aA)) aA))) rfl) (aB (fS 4 eD.nd (l8 (cV (f1 (fQ 1))) (iP (N':=["_law_piece"]) (t:=1) (cap:=[]) rfl (bM.of rfl) rfl ∅ (Y7 rfl (fQ 1)) (λ_ _ _ _=>(fH 0)) (λ_ _ _ _=>(nN (gJ rfl hr (fQ 0) bG (bK _)) (fQ 0) (fQ 0)))))) (aB (fS 5 eD.nd (fX (fv 2) (fv 7))) (aB (cD (gJ rfl hr (fQ 5) bG (bK _)) (aE (aG (fK ZR (f2 (fX (fv 4) (fv 7)) (fK XY (f2 (fK XY (f2 (fQ 5) (fQ 5))) (fv 8))))))) bR) (aB (d6 (nN (gJ rfl hr (fQ 5) bG (bK _)) (Qz rfl (fv 5) (gG aA) (gG aA)) (aM (f2 (fQ 5) (fQ 5)))) (dE (n:=2) rfl rfl (aQ (fG 9 eD.nd) (aQ (fG 10 eD.nd) cH)))) (aB (fS 6 eD.nd (fK XW (f3 (fv 9) (fv 10) (fv 3)))) (aE (aG (fK ZR (f2 (fX (fX (fQ 1) (fv 7)) aA) (fK XY (f2 (fX (fv 6) (fB YA (f2 (fv 0) (fR rfl rfl TX.n_len (f1 (fv 6)))))) (fQ 5)))))))))))))) ?_;rintro as Q ⟨xs,n,a,b,ms,s,rfl,hB,hn,h,hs,q⟩;have l12:=h.len;have l1:=RI.mpr h.ne;have em:((((ms.map kS).length:Nat):Int))=(ms.length:Int):=by rw[OD]
 refine⟨xs,_,n,rfl,hB,⋯,by rw[em];lia,by rw[em];lia,λr y1 r0 r1 b1=>?_⟩;rw[em]at r1;obtain⟨i,rfl⟩:∃i:Nat,r=(i:Int):=⟨r.toNat,⋯⟩;have hi:i<ms.length:=⋯
 refine⟨y1,9,n+1,rfl,b1,⋯,∅,∅,λt y2 t0 t1 b2=>?_⟩;refine⟨t,8,rfl,∅,OI (show(8:Int).natAbs<2^4 by decide) (PU ∅ ∅),?_⟩;obtain⟨nS,sS,S0,S1⟩:=MP (k:=8) t0 (show t<=8 by lia) (.inl rfl);generalize fY t 8=S at *;obtain⟨A2,B2,c2,rfl,_⟩:=id b2;refine⟨rfl,?_⟩;refine cY (λi E=>∃v0:Option L2.U,E=[v0,↥((OQ i).map λj=>Qu a b ms (j+1))]) ⟨none,rfl⟩ ?_ ?_
 ·rintro i t rest E hi ⟨v0,rfl⟩ KK;rw[NY]at hi;obtain⟨pc,hp,rfl⟩:=PH.mp hi;have il:=(NV.mp hp).1;rw[dI]at il;have hm:=fE il;rw[jC ms a b _ _ hm]at hp;cases hp;obtain⟨ex,ey⟩:=pO (a:=a) (b:=b) hm;have lr:((OQ i).map λj=>Qu a b ms (j+1)).length<9000:=by simp;lia
  rw[show cP a ((cM a b ms).take i)=px a b ms i from rfl,show cQ b ((cM a b ms).take i)=py a b ms i from rfl];have K1:=KK _ ⟨⇑(jO (rK (px a b ms i) (py a b ms i) (gM ms i))),rfl⟩;rw[RS,OR,List.map_singleton]at K1;unfold Qu at K1 lr⊢;rw[ex,ey]at K1;clear KK ex ey hm;generalize gM ms i=m at *;cases m with
  |side x y m=>exact⟨OG _,lr,K1⟩
  |arc x y u v r l=>exact⟨OG _,lr,K1⟩
 rintro E ⟨v0,rfl⟩;rw[OD,dI];have eE:[vc a b]++((OQ ms.length).map λj=>Qu a b ms (j+1))=(OQ (ms.length+1)).map (Qu a b ms):=by
  rw[VE,PZ,UL];rfl
 refine⟨xC (λ_=>rfl) _,?_⟩;refine⟨by show 1+((OQ ms.length).map λj=>Qu a b ms (j+1)).length<=9000;simp;lia,?_⟩;show Cn [oZ (.o true [.int A2,.int B2,.int c2]),⇑(cA a b (cM a b ms)),⇑(.lst (ms.map kS)),↑s,↥([vc a b]++((OQ ms.length).map λj=>Qu a b ms (j+1))),none,none,↑(i:Int),⇑(fr S),none,none] (M7 _ _ _);rw[eE];show o1 (eZ (ms.map kS) (i:Int)) _;rw[FT hi];have ok:=h.ok _ (NX (fE hi));cases e:gM ms i with
 |side x y m=>
  rw[e]at ok;obtain⟨ux,nm,sm,pm,_⟩:=ok;refine⟨OG _,?_⟩;have en:eZ ((OQ (ms.length+1)).map (Qu a b ms)) (i:Int)=oZ (Qu a b ms i):=iO (by rw[NY,RH ⋯];rfl);show o1 (eZ ((OQ (ms.length+1)).map (Qu a b ms)) (i:Int)) _;rw[en];have k1:=iH ux.nv nm;have k2:=iH k1 nS;have k3:=mB (h.nv i) k2;refine⟨x,y,m,4,rfl,ux.nv,nm,⋯,?_⟩;refine⟨_,_,S,4+sz m,rfl,k1,nS,⋯,?_⟩;refine⟨_,_,_,_,14,4+sz m+sz S,rfl,h.nv i,k2,⋯,rfl,?_⟩;refine q (aV (px a b ms i) (aH (aH x m) S),aV (py a b ms i) (aH (aH y m) S)) _ (k3.up ⋯) (.inr ⟨i,x,y,m,hi,e,val S,S0,S1,Prod.ext ?_ ?_⟩) (b2.mono ⋯) rfl
  ·show val (aV _ _)=_;rw[a7 (h.nv i).x k2.x,aR k1.x nS,aR ux.nv.x nm]
  ·show val (aV _ _)=_;rw[a7 (h.nv i).y k2.y,aR k1.y nS,aR ux.nv.y nm]
 |arc x y u v r l=>
  rw[e]at ok;obtain⟨o1',o2',ne,nr,sr,r0,_⟩:=ok;refine⟨OG _,OG _,?_⟩;apply Q9 (R:=λ(E:En)=>∃A C:Fr×Fr,E=[oZ (.o true [.int A2,.int B2,.int c2]),⇑(cA a b (cM a b ms)),⇑(.lst (ms.map kS)),↑s,↥((OQ (ms.length+1)).map (Qu a b ms)),⇑(kS (.arc x y u v r l)),none,↑(i:Int),⇑(fr S),⇑(bB A),⇑(bB C)]/\bV A.1 A.2 4/\bV C.1 C.2 4/\C≠A/\cN x y u v l s=Ss A C s)
  case h=>
   intro J;show if L2.dX (.str (sQ l)) (.str (OW "left"))=true then _ else _;rw[show L2.dX (.str (sQ l)) (.str (OW "left"))=l by cases l<;>rfl]
   by_cases cl:l=true
   ·rw[oV cl];refine⟨λz=>absurd z.1 (show ¬HT.sIx 5 0 (oZ 1)=0 by decide),?_⟩;show Cn [oZ (.o true [.int A2,.int B2,.int c2]),⇑(cA a b (cM a b ms)),⇑(.lst (ms.map kS)),↑s,↥((OQ (ms.length+1)).map (Qu a b ms)),⇑(kS (.arc x y u v r l)),none,↑(i:Int),⇑(fr S),⇑(bB (x,y)),⇑(bB (u,v))] (M7 _ _ _);generalize hE:([oZ (.o true [.int A2,.int B2,.int c2]),⇑(cA a b (cM a b ms)),⇑(.lst (ms.map kS)),↑s,↥((OQ (ms.length+1)).map (Qu a b ms)),⇑(kS (.arc x y u v r l)),none,↑(i:Int),⇑(fr S),⇑(bB (x,y)),⇑(bB (u,v))]:En)=E;exact J E ⟨(x,y),(u,v),hE.symm,o1',o2',λz=>ne ⟨(congrArg Prod.fst z).symm,(congrArg Prod.snd z).symm⟩,by unfold cN;rw[oV cl]⟩
   ·rw[oW cl];exact J _ ⟨(u,v),(x,y),rfl,o2',o1',λz=>ne ⟨congrArg Prod.fst z,congrArg Prod.snd z⟩,by unfold cN;rw[oW cl]⟩
  rintro E ⟨A,C,rfl,uA,uC,nAC,eU⟩;refine⟨_,_,_,_,s,4,4,rfl,uA,uC,∅,∅,∅,hs,λk k' _ _ r1 r2=>?_⟩;rw[show sU _ _ _ _ s k k'=_ from uT uA uC nAC hs r1 r2,<-eU];have U:=(dS uA uC nAC hs).U;rw[<-eU]at U;have n2:=U.n2;have n30:=U.n30;have lu:(((((cN x y u v l s).map bB).length:Nat)):Int)=((cN x y u v l s).length:Int):=by rw[OD]
  have hm:=fE hi;rw[e]at hm;have hp:=jC ms a b _ _ hm;have nM:Nv (cG a b ms i x y r).1 (cG a b ms i x y r).2 14:=(j0 h.chain hp).1;show o1 (eZ ((cM a b ms).map jO) (i:Int)) _;rw[qF hp];refine⟨_,_,n+1+1,rfl,b2,⋯,by rw[lu];lia,by rw[lu];lia,λw y3 w0 w1 b3=>?_⟩;rw[lu]at w1;obtain⟨k,rfl⟩:∃k:Nat,w=(k:Int):=⟨w.toNat,⋯⟩;obtain⟨A3,B3,c3,rfl,_⟩:=id b3;have hk:k<(cN x y u v l s).length:=⋯
  obtain⟨ek,nk⟩:=U.at_ hk;show o1 (eZ ((cN x y u v l s).map bB) (k:Int)) _;rw[(Qa hk).1];have k1:=iH nk.nv nr;have k2:=mB nM k1;refine⟨_,_,r,30,rfl,nk.nv,nr,⋯,?_⟩;refine⟨_,_,_,_,14,30+sz r,rfl,nM,k1,⋯,rfl,?_⟩;refine q (aV (cG a b ms i x y r).1 (aH (gU (cN x y u v l s) k).1 r),aV (cG a b ms i x y r).2 (aH (gU (cN x y u v l s) k).2 r)) _ (k2.up ⋯) (.inl ?_) (b3.mono ⋯) rfl;have em:=Md (s:=s) (a:=a) (b:=b) hi e hk;unfold lO at em;show(val (aV _ _),val (aV _ _))∈_;rw[a7 nM.x k1.x,a7 nM.y k1.y,aR nk.nv.x nr,aR nk.nv.y nr];exact em
end
theorem Mn:∀L:List Bool,rX (L.map L2.T.bl)=oZ L
 |[]=>rfl
 |c::L=>by
  show(rX (L.map L2.T.bl)).map (c::·)=_;rw[Mn L];rfl
theorem Ny:∀L:List Bool,bL (L.map L2.T.bl)=true
 |[]=>rfl
 |c::L=>by show(true&&bL (L.map L2.T.bl))=true;rw[Ny L];rfl
def HR:dG:=λas Q=>∃ns:List Int,as=[.v (.lst (bH ns))]/\ns.length<=63/\Q (.v (.bl true)) []
abbrev xW:VS:=top 92
theorem gT:aF ["_law_script","_law_cells","_law_k","_law_box_here","_law_turn","_law_told","_law_spot","_law_path","_law_found","_law_far","_law_steps","_law_share","_law_reach","_law_point"] ["_law_script"] (aC xW):=dH
theorem AS{P:VQ}{w:VU}{K:W.Frag}{mg:Str->Option oA}{base:oE}{f:VN}{fd:WC}(F:cL K "law" "law" xW f fd)(TX:Txt mg)(fu: ~~~zJ)(qw: ~~~Tb)(jr:Fn P w K mg base 7 "_law_case" ["_law_box_here"] (uS K Yp))(fx: ~~~zI)(YA: ~~~kJ)(YN: ~~~jU)(YX: ~~~nG)(YQ: ~~~kI)(XY: ~~~fA)(ZR: ~~~vB)(de: ~~~uI)(qx: ~~~Tc)(aAR:mg "any" = none):(~~~aT) cO 16 f fd ["_law_script"] (aJ K HR):=by
 refine F.okU gT (λhr=>(aB (fS 1 gT.nd (fK fu (f2 (fv 0) aA))) (aB (j5 PassesOwn.never rfl (eJ rfl TX.n_range (f1 (Y1 rfl rfl TX.n_max (f2 aA (fR rfl rfl TX.n_len (f1 (fv 1))))))) (fG 2 gT.nd) (aB (fS 3 gT.nd (fK qw (f2 (fv 1) (fv 2)))) (aE (j5 PassesOwn.never rfl (eJ rfl TX.n_range (f1 aA)) (fG 4 gT.nd) (aB (d6 (Gi jr hr ⋯ rfl (f1 (fv 3))) (dE (n:=4) rfl rfl (aQ (fG 7 gT.nd) (aQ (fG 8 gT.nd) (aQ (fG 9 gT.nd) (aQ (fG 10 gT.nd) cH)))))) (aB (fS 5 gT.nd (fK fx (f3 (fv 7) (fv 9) (fv 10)))) (aE (j5 PassesOwn.never rfl (eJ rfl TX.n_range (f1 aA)) (fG 6 gT.nd) (aB (fS 11 gT.nd (fX (cV (f3 (aM (f2 aA aA)) (aM (f2 aA aA)) (fK YN (f2 (fB YA (f2 (fv 3) aA)) aA)))) (fB YA (f2 (fv 3) aA)))) (aB (fS 12 gT.nd (fK XY (f2 (fK YX (f1 (fB YA (f2 (fv 3) aA)))) (fK YQ (f2 (fv 9) (fv 11)))))) (aB (fS 13 gT.nd (fK ZR (f2 (fB de (f4 (fv 3) (fv 7) (fv 8) (fv 10))) (fv 12)))) (aE (cD (Uu (iF (Y0 rfl rfl rfl aAR (f1 (iP (N':=["_law_block","_law_point"]) (t:=1) (cap:=[(13,false)]) rfl (bM.of rfl) rfl ∅ (kM rfl (fv 5)) (λ_ _ _ _=>(fH 0)) (λ_ _ _ _=>(fK qx (f2 (fv 0) (fv 1))))))))) (aE (aG Gg)) bR))))))))))))) (aE (aG Gg))))) ?_;rintro as Q ⟨ns,rfl,hl,q⟩;refine⟨ns,4,rfl,hl,∅,∅,λcs l6=>?_⟩;have lc:((bH cs).length:Int)=cs.length:=by simp[bH]
 obtain⟨m,hm⟩:∃m:Int,m=(if(2:Int)<((bH cs).length:Int)then((bH cs).length:Int)else 2):=⟨_,rfl⟩;have m5:m<=4/\0<=m:=by rw[hm];split<;>lia
 refine⟨⟨by show -(2^62:Int)<=(if(2:Int)<((bH cs).length:Int)then((bH cs).length:Int)else 2);rw[<-hm];lia,by show(if(2:Int)<((bH cs).length:Int)then((bH cs).length:Int)else 2)<2^62;rw[<-hm];lia⟩,?_⟩;show Cn _ (hJ _ _ _ (g9 0 (if(2:Int)<((bH cs).length:Int)then((bH cs).length:Int)else 2).toNat));rw[<-hm];refine cZ (λi E=>∃v2 v3 v4 v5 v6 v7 v8 v9 v10 v11 qy og:Option U,E=[⇑(.lst (bH ns)),↥(bH cs),v2,v3,v4,v5,v6,v7,v8,v9,v10,v11,qy,og]) ⟨_,_,_,_,_,_,_,_,_,_,_,_,rfl⟩ ?_ ?_
 ·rintro i t rest E hi ⟨v2,v3,v4,v5,v6,v7,v8,v9,v10,v11,qy,og,rfl⟩ KK;obtain⟨lq,rfl⟩:=mD hi;refine⟨cs,_,rfl,⋯,⋯,λxs bx nl=>?_⟩;obtain⟨A0,B0,c0,rfl,_⟩:=id bx;refine⟨∅,?_⟩;show Cn _ (hJ _ _ _ (g9 0 2));refine cZ (λj E=>∃(ys:List L2.T)(v4 v5 v6 v7 v8 v9 v10 v11 qy og:Option U),E=[⇑(.lst (bH ns)),↥(bH cs),↑(0+(i:Int)),↥ys,v4,v5,v6,v7,v8,v9,v10,v11,qy,og]/\Bx ys (400*j)) ⟨_,_,_,_,_,_,_,_,_,_,_,rfl,bx.mono (by simp)⟩ ?_ ?_
  ·rintro j t aFC E hj ⟨ys,v4,v5,v6,v7,v8,v9,v10,v11,qy,og,rfl,bj⟩ KJ;obtain⟨hjn,rfl⟩:=mD hj;obtain⟨A1,B1,c1,rfl,_⟩:=id bj;refine⟨_,_,rfl,bj,⋯,λa b ms p s y1 pm fw hs b1=>?_⟩;obtain⟨A2,B2,c2,rfl,_⟩:=id b1;refine⟨a,b,ms,p,s,rfl,pm,fw,hs,?_⟩;have bl:=pm.blk (p:=p) hs;have bk:=W5 (p:=p) pm fw hs;have sp:=fw.s;refine⟨∅,?_⟩;show Cn _ (hJ _ _ _ (g9 0 20));refine cZ (λk E=>∃(zs:List L2.T)(v6 v11 qy og:Option U),E=[⇑(.lst (bH ns)),↥(bH cs),↑(0+(i:Int)),↥zs,↑(0+(j:Int)),↥(mZ a b ms p s),v6,⇑(cA a b (cM a b ms)),⇑(.lst (ms.map kS)),⇑(fr p),↑s,v11,qy,og]/\Bx zs (400*j+100+10*k)) ⟨_,_,_,_,_,rfl,b1.mono (by simp)⟩ ?_ ?_
   ·rintro k t aDG E hk ⟨zs,v6,v11,qy,og,rfl,bk0⟩ KI;obtain⟨hkn,rfl⟩:=mD hk;obtain⟨A3,B3,c3,rfl,_⟩:=id bk0;refine⟨_,17,_,rfl,bk0,⋯,∅,∅,λt y2 t0 t1 b2=>?_⟩;obtain⟨A4,B4,c4,rfl,_⟩:=id b2;refine⟨t,16,rfl,∅,OI (show(16:Int).natAbs<2^5 by decide) (PU ∅ ∅),?_⟩;obtain⟨nS,sS,S0,S1⟩:=MP (k:=16) t0 (show t<=16 by lia) (.inr rfl);generalize fY t 16=S at *;refine⟨_,3,_,rfl,b2,⋯,∅,∅,λw y3 w0 w1 b3=>?_⟩;obtain⟨A5,B5,c5,rfl,_⟩:=id b3;obtain⟨S',eS,nS',sS',S0',S1'⟩:∃S':Fr,eZ [fr (1,1),fr (1,1),fr S] w=oZ (fr S')/\bF S'/\sz S'<=5/\0<=val S'/\val S'<=1:=by
     have e1:val ((1,1):Fr)=1:=gW;have:w=0\/w=1\/w=2:=⋯
     obtain rfl|rfl|rfl:=this
     ·exact⟨(1,1),rfl,aO 1,∅,by rw[e1];decide,by rw[e1];exact Rat.le_refl⟩
     ·exact⟨(1,1),rfl,aO 1,∅,by rw[e1];decide,by rw[e1];exact Rat.le_refl⟩
     ·exact⟨S,rfl,nS,sS,S0,S1⟩
    show o1 (eZ [fr (1,1),fr (1,1),fr S] w) _;rw[eS];refine⟨_,20,_,rfl,b3,⋯,∅,∅,λc y4 q0 q1 b4=>?_⟩;obtain⟨A6,B6,c6,rfl,_⟩:=id b4;obtain⟨d,rfl⟩:∃d:Nat,c=(d:Int):=⟨c.toNat,⋯⟩;have hd:d<20:=⋯
    have ud:=Py d hd;refine⟨d,rfl,hd,?_⟩;have k1:=aK fw.n nS';have sk:=cC fw.n nS';have k2:=iH ud.nv k1;refine⟨p,S',rfl,fw.n,nS',⋯,?_⟩;refine⟨_,_,_,4,rfl,ud.nv,k1,⋯,?_⟩;refine⟨_,_,a,b,ms,s,rfl,b4,⋯,pm,hs,λX y5 nX onX b5 nl5=>?_⟩;obtain⟨A7,B7,c7,rfl,_⟩:=id b5;refine⟨_,_,_,_,60,4+sz (aH p S'),rfl,nX,k2,⋯,?_⟩;have nq:=mB nX k2;have near:Cv a b ms p s (aV X.1 (aH (un d).1 (aH p S')),aV X.2 (aH (un d).2 (aH p S'))):=by
     refine Vu pm fw hs onX ?_;unfold dd;simp only;rw[a7 nX.x k2.x,a7 nX.y k2.y,aR ud.nv.x k1,aR ud.nv.y k1,aR fw.n nS'];have o:=ud.one;have p0:=fw.pos;have pp:=Rat.mul_pos p0 p0;have e:(val X.1+val (un d).1*(val p*val S')-val X.1)*(val X.1+val (un d).1*(val p*val S')-val X.1)+(val X.2+val (un d).2*(val p*val S')-val X.2)*(val X.2+val (un d).2*(val p*val S')-val X.2)=val p*val p*(val S'*val S')*(val (un d).1*val (un d).1+val (un d).2*val (un d).2):=by grind
     rw[e,o];have a1:=Rat.mul_nonneg S0' (show 0<=1-val S' by grind);have a2:=Rat.mul_nonneg (Rat.le_of_lt pp) (show 0<=1-val S'*val S' by grind);grind
    have nq':Nv (aV X.1 (aH (un d).1 (aH p S'))) (aV X.2 (aH (un d).2 (aH p S'))) 500:=nq.up ⋯;generalize hQ:(aV X.1 (aH (un d).1 (aH p S')),aV X.2 (aH (un d).2 (aH p S')))=Z at near;have hZ1:=congrArg Prod.fst hQ;have hZ2:=congrArg Prod.snd hQ;simp only at hZ1 hZ2;rw[hZ1,hZ2]at nq'⊢;clear hQ hZ1 hZ2;refine⟨rfl,?_⟩;refine cY (λn E=>∃(v0:Option U)(L:List Bool),E=[v0,⇑(bB Z),↥(L.map L2.T.bl)]/\L.length=n/\∀(h:Nat)(t:L2.T)(c:Bool),(mZ a b ms p s)[h]?=oZ t->L[h]?=oZ c->(c=true↔P1 t Z)) ?_ ?_ ?_
    ·exact⟨none,[],rfl,rfl,λh t c _ z=>by cases z⟩
    ·rintro n t aFE E hn ⟨v0,L,rfl,ll,hc⟩ KC;have nl:=(NV.mp hn).1;obtain⟨wd,bi,V,mk,rfl,v1,v60,nV⟩:=bk t (NX hn);refine⟨wd,bi,V,mk,Z,rfl,v1,v60,nV,nq',λc hcc=>?_⟩;refine⟨by show(L.map L2.T.bl).length<9000;rw[OD];lia,KC _ ⟨⇑(Zt wd bi V mk),L++[c],?_,by rw[OB,OS,ll],λh t c' ht iw=>?_⟩⟩
     ·rw[OR];rfl
     ·obtain y|y:=OY h L.length
      ·rw[OO y]at iw;exact hc h t c' ht iw
      ·rw[OX y]at iw;have e0:h-L.length=0:=by
        have:=(NV.mp iw).1;rw[OS]at this;lia
       rw[e0]at iw;cases iw;obtain rfl:h=n:=⋯
       rw[hn]at ht;cases ht;rw[Ni];exact hcc
    ·rintro E ⟨v0,L,rfl,ll,hc⟩;refine⟨Ny L,?_⟩;show o1 (rX (L.map L2.T.bl)) _;rw[Mn];have an:L.any id=true:=by
      obtain⟨t,ht,lq⟩:=near;obtain⟨h,hh,e⟩:=List.getElem_of_mem ht;have ht':(mZ a b ms p s)[h]?=oZ t:=by rw[NW hh,e]
      have hl:h<L.length:=by rw[ll];exact hh
      have:=(hc h t L[h] ht' (NW hl)).2 lq;exact UQ.mpr ⟨L[h],RK hl,this⟩
     show if(!(L.any id))=true then _ else _;rw[an,oW ∅];exact KI _ ⟨_,_,_,_,_,rfl,b5.mono (by push_cast;lia)⟩
   ·rintro E ⟨zs,v6,v11,qy,og,rfl,bk0⟩;exact KJ _ ⟨_,_,_,_,_,_,_,_,_,_,_,rfl,bk0.mono (by simp[g9];lia)⟩
  ·rintro E ⟨ys,v4,v5,v6,v7,v8,v9,v10,v11,qy,og,rfl,bj⟩;exact KK _ ⟨_,_,_,_,_,_,_,_,_,_,_,_,rfl⟩
 ·rintro E ⟨v2,v3,v4,v5,v6,v7,v8,v9,v10,v11,qy,og,rfl⟩;exact⟨rfl,q⟩
theorem LF{α:Type}{us:List α}(h:us.length=1):∃a0,us=[a0]:=by
 cases us with
 |nil=>simp at h
 |cons a0 us=>
 replace h:us.length=0:=by simpa using h
 cases us with
 |nil=>exact⟨a0,rfl⟩
 |cons a us=>simp at h
theorem LG{α:Type}{us:List α}(h:us.length=2):∃a0 a1,us=[a0,a1]:=by
 cases us with
 |nil=>simp at h
 |cons a0 us=>
 replace h:us.length=1:=by simpa using h
 cases us with
 |nil=>simp at h
 |cons a1 us=>
 replace h:us.length=0:=by simpa using h
 cases us with
 |nil=>exact⟨a0,a1,rfl⟩
 |cons a us=>simp at h
theorem LH{α:Type}{us:List α}(h:us.length=3):∃a0 a1 a2,us=[a0,a1,a2]:=by
 cases us with
 |nil=>simp at h
 |cons a0 us=>
 replace h:us.length=2:=by simpa using h
 cases us with
 |nil=>simp at h
 |cons a1 us=>
 replace h:us.length=1:=by simpa using h
 cases us with
 |nil=>simp at h
 |cons a2 us=>
 replace h:us.length=0:=by simpa using h
 cases us with
 |nil=>exact⟨a0,a1,a2,rfl⟩
 |cons a us=>simp at h
theorem LI{α:Type}{us:List α}(h:us.length=4):∃a0 a1 a2 a3,us=[a0,a1,a2,a3]:=by
 cases us with
 |nil=>simp at h
 |cons a0 us=>
 replace h:us.length=3:=by simpa using h
 cases us with
 |nil=>simp at h
 |cons a1 us=>
 replace h:us.length=2:=by simpa using h
 cases us with
 |nil=>simp at h
 |cons a2 us=>
 replace h:us.length=1:=by simpa using h
 cases us with
 |nil=>simp at h
 |cons a3 us=>
 replace h:us.length=0:=by simpa using h
 cases us with
 |nil=>exact⟨a0,a1,a2,a3,rfl⟩
 |cons a us=>simp at h
theorem LJ{α:Type}{us:List α}(h:us.length=6):∃a0 a1 a2 a3 a4 a5,us=[a0,a1,a2,a3,a4,a5]:=by
 cases us with
 |nil=>simp at h
 |cons a0 us=>
 replace h:us.length=5:=by simpa using h
 cases us with
 |nil=>simp at h
 |cons a1 us=>
 replace h:us.length=4:=by simpa using h
 cases us with
 |nil=>simp at h
 |cons a2 us=>
 replace h:us.length=3:=by simpa using h
 cases us with
 |nil=>simp at h
 |cons a3 us=>
 replace h:us.length=2:=by simpa using h
 cases us with
 |nil=>simp at h
 |cons a4 us=>
 replace h:us.length=1:=by simpa using h
 cases us with
 |nil=>simp at h
 |cons a5 us=>
 replace h:us.length=0:=by simpa using h
 cases us with
 |nil=>exact⟨a0,a1,a2,a3,a4,a5,rfl⟩
 |cons a us=>simp at h
def Oq(K:W.Frag):Sp:=λvs H Q _=>∃(a:VN)(ns:List Int),vs=[.ref a]/\lZ K H a (ns.map V.int)/\ns.length<=63/\∀H',Q (.bl true) H'
theorem AI{K:W.Frag}(vs:List V)(H:Hp)(Q:VK)(E:XK)(h:Oq K vs H Q E):aJ K HR vs H Q E:=by
 obtain⟨a,ns,rfl,hs,hl,q⟩:=h;have no:∀b,¬Ow (λa=>(none:Option VN)=oZ a) [oZ (V.ref a)] [⇑(.lst (bH ns))] b:=λb z=>by
  obtain z|⟨i,k,xs,h1,_⟩:=z
  ·cases z
  ·match i,h1 with
   |0,h1=>simp at h1
   |_+1,h1=>simp at h1
 have ii:∀ns:List Int,cX K H (Ow (λa=>(none:Option VN)=oZ a) [oZ (V.ref a)] [⇑(.lst (bH ns))]) (bH ns) (ns.map V.int):=λns=>by
  have eN:∀(O:VN->Prop)(ms:List Int),cX K H O (bH ms) (ms.map V.int):=λO ms=>by
   induction ms with
   |nil=>rfl
   |cons m ms ih=>exact⟨_,_,rfl,rfl,ih⟩
  exact eN _ ns
 refine⟨[.v (.lst (bH ns))],λr _=>r = .v (.bl true),none,⟨rfl,λi t h=>?_,λi k xs h=>?_,λi j k l xs ys b h=>?_,λb z=>by cases z⟩,λ_=>rfl,⟨ns,rfl,hl,rfl⟩,λr xs v H' e _ _ rr=>?_⟩
 ·match i,h with
  |0,h=>
   simp[kF]at h;subst h;exact⟨_,rfl,a,_,rfl,hs.imp (λh=>⟨no a,h⟩) id,ii ns⟩
  |_+1,h=>simp[kF]at h
 ·match i,h with
  |0,h=>simp[kF]at h
  |_+1,h=>simp[kF]at h
 ·match i,h with
  |0,h=>simp[kF]at h
  |_+1,h=>simp[kF]at h
 ·subst e;cases rr;exact q H'
def Fc(K:W.Frag)(nm:Str)(st:VS)(f:VN):Prop:=∃(oc:oA)(od:Option VN)(kV dc pm:oA)(an:Option VN)(cd ct:oA)(sl:Array (Option oA)),
 W.nsIn K VT nm=oZ (oZ (.ref f))/\K.lookup f=oZ ⟨oc,od,.func (W.fnOf nm nm (fM st) (cW st) (aC st) .none kV dc pm an cd ct),sl⟩/\W.codeIn K cd nm=true/\W.keepIn K (.ref f)=true
theorem fc{K:W.Frag}{nm:Str}{st:VS}{f:VN}{oc:oA}{od:Option VN}{kV dc pm:oA}{an:Option VN}{cd ct:oA}{sl:Array (Option oA)}(a:W.nsIn K VT nm=oZ (oZ (.ref f)))(l:K.lookup f=oZ ⟨oc,od,.func (W.fnOf nm nm (fM st) (cW st) (aC st) .none kV dc pm an cd ct),sl⟩)(c:W.codeIn K cd nm=true)(k:W.keepIn K (.ref f)=true):Fc K nm st f:=⟨_,_,_,_,_,_,_,_,_,a,l,c,k⟩
theorem gm{P:VQ}{w:VU}{K:W.Frag}{h base:oE}{mg:Str->Option oA}{nm:Str}{st:VS}{f:VN}{CX:Jb}{k:Nat}{ps:List Str}{sp:Sp}(X:K.In h)(G:h.Ns VT mg)(p:Fc K nm st f)(ok:∀{fd:WC},cL K nm nm st f fd->aT P w K mg base CX k f fd ps sp)
  (bd:∀{fd:WC},cL K nm nm st f fd->k8 K fd ps []):∃f fd,aT P w K mg base CX k f fd ps sp/\mg nm=oZ (.ref f)/\W.keepIn K (.ref f)=true/\k8 K fd ps []:=by
 obtain⟨_,_,_,_,_,_,_,_,_,a,l,c,k⟩:=p;have F:=Uw (st:=st) l c k;exact⟨f,_,ok F,W.mg_of X G a,k,bd F⟩
theorem yX{P:VQ}{w:VU}{K:W.Frag}{h base:oE}{mg:Str->Option oA}{nm:Str}{st:VS}{f:VN}{CX:Jb}{k:Nat}{ps:List Str}{sp:Sp}(X:K.In h)(G:h.Ns VT mg)(p:Fc K nm st f)(ok:∀{fd:WC},cL K nm nm st f fd->aT P w K mg base CX k f fd ps sp)(hl:ps.length=1:=by rfl)
  (hb:∀(kV doc pm:oA)(an:Option VN)(YZ ct a0:oA),bindArgs (W.fnOf nm nm (fM st) (cW st) (aC st) .none kV doc pm an YZ ct) ⟨[a0],[]⟩=pure (ps.zip [a0]):=by intros;rfl):∃f fd,aT P w K mg base CX k f fd ps sp/\mg nm=oZ (.ref f)/\W.keepIn K (.ref f)=true/\k8 K fd ps []:=
 gm X G p ok λF=>F.binds λkV doc pm an YZ ct us e=>by obtain⟨a0,rfl⟩:=LF (e.trans hl);exact hb ..
theorem lN{P:VQ}{w:VU}{K:W.Frag}{h base:oE}{mg:Str->Option oA}{nm:Str}{st:VS}{f:VN}{CX:Jb}{k:Nat}{ps:List Str}{sp:Sp}(X:K.In h)(G:h.Ns VT mg)(p:Fc K nm st f)(ok:∀{fd:WC},cL K nm nm st f fd->aT P w K mg base CX k f fd ps sp)(hl:ps.length=2:=by rfl)
  (hb:∀(kV doc pm:oA)(an:Option VN)(YZ ct a0 a1:oA),bindArgs (W.fnOf nm nm (fM st) (cW st) (aC st) .none kV doc pm an YZ ct) ⟨[a0,a1],[]⟩=pure (ps.zip [a0,a1]):=by intros;rfl):∃f fd,aT P w K mg base CX k f fd ps sp/\mg nm=oZ (.ref f)/\W.keepIn K (.ref f)=true/\k8 K fd ps []:=
 gm X G p ok λF=>F.binds λkV doc pm an YZ ct us e=>by obtain⟨a0,a1,rfl⟩:=LG (e.trans hl);exact hb ..
theorem F3{P:VQ}{w:VU}{K:W.Frag}{h base:oE}{mg:Str->Option oA}{nm:Str}{st:VS}{f:VN}{CX:Jb}{k:Nat}{ps:List Str}{sp:Sp}(X:K.In h)(G:h.Ns VT mg)(p:Fc K nm st f)(ok:∀{fd:WC},cL K nm nm st f fd->aT P w K mg base CX k f fd ps sp)(hl:ps.length=3:=by rfl)
  (hb:∀(kV doc pm:oA)(an:Option VN)(YZ ct a0 a1 a2:oA),bindArgs (W.fnOf nm nm (fM st) (cW st) (aC st) .none kV doc pm an YZ ct) ⟨[a0,a1,a2],[]⟩=pure (ps.zip [a0,a1,a2]):=by intros;rfl):∃f fd,aT P w K mg base CX k f fd ps sp/\mg nm=oZ (.ref f)/\W.keepIn K (.ref f)=true/\k8 K fd ps []:=
 gm X G p ok λF=>F.binds λkV doc pm an YZ ct us e=>by obtain⟨a0,a1,a2,rfl⟩:=LH (e.trans hl);exact hb ..
theorem Z3{P:VQ}{w:VU}{K:W.Frag}{h base:oE}{mg:Str->Option oA}{nm:Str}{st:VS}{f:VN}{CX:Jb}{k:Nat}{ps:List Str}{sp:Sp}(X:K.In h)(G:h.Ns VT mg)(p:Fc K nm st f)(ok:∀{fd:WC},cL K nm nm st f fd->aT P w K mg base CX k f fd ps sp)(hl:ps.length=4:=by rfl)
  (hb:∀(kV doc pm:oA)(an:Option VN)(YZ ct a0 a1 a2 a3:oA),bindArgs (W.fnOf nm nm (fM st) (cW st) (aC st) .none kV doc pm an YZ ct) ⟨[a0,a1,a2,a3],[]⟩=pure (ps.zip [a0,a1,a2,a3]):=by intros;rfl):∃f fd,aT P w K mg base CX k f fd ps sp/\mg nm=oZ (.ref f)/\W.keepIn K (.ref f)=true/\k8 K fd ps []:=
 gm X G p ok λF=>F.binds λkV doc pm an YZ ct us e=>by obtain⟨a0,a1,a2,a3,rfl⟩:=LI (e.trans hl);exact hb ..
theorem MI{P:VQ}{w:VU}{K:W.Frag}{h base:oE}{mg:Str->Option oA}{nm:Str}{st:VS}{f:VN}{CX:Jb}{k:Nat}{ps:List Str}{sp:Sp}(X:K.In h)(G:h.Ns VT mg)(p:Fc K nm st f)(ok:∀{fd:WC},cL K nm nm st f fd->aT P w K mg base CX k f fd ps sp)(hl:ps.length=6:=by rfl)
  (hb:∀(kV doc pm:oA)(an:Option VN)(YZ ct a0 a1 a2 a3 a4 a5:oA),bindArgs (W.fnOf nm nm (fM st) (cW st) (aC st) .none kV doc pm an YZ ct) ⟨[a0,a1,a2,a3,a4,a5],[]⟩=pure (ps.zip [a0,a1,a2,a3,a4,a5]):=by intros;rfl):∃f fd,aT P w K mg base CX k f fd ps sp/\mg nm=oZ (.ref f)/\W.keepIn K (.ref f)=true/\k8 K fd ps []:=
 gm X G p ok λF=>F.binds λkV doc pm an YZ ct us e=>by obtain⟨a0,a1,a2,a3,a4,a5,rfl⟩:=LJ (e.trans hl);exact hb ..
theorem V9{P:VQ}{w:VU}{K:W.Frag}{h:oE}{mg:Str->Option oA}{fa f0 f1 f2 f3 f4 f5 f6 f7 f8 f9 f10 f11 f12 f13 f14 f15 f16 f17 f18 f19 f20 f21 f22 f23 f24 f25 f26 f27 f28 f29 f30 f31 f32 f33 f34 f35 f36 f37 f38 f39 f40 f41 f42 f43 f44 f45 f46 f47 f48 f49 f50 f51 f52 f53 f54 f55 f56 f57 f58 f59 f60 f61 f62 f63 f64 f65 f66 f67 f68 f69 f70 f71 f72 f73 f74 f75 f76 f77 f78 f79:VN}(X:K.In h)(G:h.Ns VT mg)(hfa:mg "law" = oZ (.ref fa))
  (p0:Fc K "_law_take" Lm f0)
  (p1:Fc K "common_divisor" iK f1)
  (p2:Fc K "fraction" qU f2)
  (p3:Fc K "added" Dk f3)
  (p4:Fc K "taken" Dt f4)
  (p5:Fc K "times" Du f5)
  (p6:Fc K "dot" Xs f6)
  (p7:Fc K "left_of" tQ f7)
  (p8:Fc K "over" Lj f8)
  (p9:Fc K "_law_box" Xr f9)
  (p10:Fc K "whole_root" mK f10)
  (p11:Fc K "root_of" tS f11)
  (p12:Fc K "minus" Dr f12)
  (p13:Fc K "length_of" o7 f13)
  (p14:Fc K "unit_of" tX f14)
  (p15:Fc K "right_of" rB f15)
  (p16:Fc K "is_side" tP f16)
  (p17:Fc K "end_of" xU f17)
  (p18:Fc K "begin_of" qS f18)
  (p19:Fc K "is_closed" oT f19)
  (p20:Fc K "arc_heading" kW f20)
  (p21:Fc K "headings" qV f21)
  (p22:Fc K "radius_of" o9 f22)
  (p23:Fc K "cross" Dm f23)
  (p24:Fc K "corner_headings" gN f24)
  (p25:Fc K "corner_word" kY f25)
  (p26:Fc K "corners" tM f26)
  (p27:Fc K "turned" yB f27)
  (p28:Fc K "turn_of" tW f28)
  (p29:Fc K "stepped" tU f29)
  (p30:Fc K "has_quarter" kZ f30)
  (p31:Fc K "quarters_between" fU f31)
  (p32:Fc K "compared" qT f32)
  (p33:Fc K "turn_size" pB f33)
  (p34:Fc K "flipped" tO f34)
  (p35:Fc K "merged" xZ f35)
  (p36:Fc K "units_between" jD f36)
  (p37:Fc K "plus" Ll f37)
  (p38:Fc K "scaled" x9 f38)
  (p39:Fc K "tip_of" yA f39)
  (p40:Fc K "least_dot" oU f40)
  (p41:Fc K "_law_folded" xV f41)
  (p42:Fc K "_law_frac" Dq f42)
  (p43:Fc K "_law_sum" Li f43)
  (p44:Fc K "_law_less" Ds f44)
  (p45:Fc K "_law_product" qZ f45)
  (p46:Fc K "_law_add" Lg f46)
  (p47:Fc K "_law_sub" Lh f47)
  (p48:Fc K "_law_scaled_by" mI f48)
  (p49:Fc K "_law_cross" xX f49)
  (p50:Fc K "_law_quarter" q9 f50)
  (p51:Fc K "_law_unit_at" rA f51)
  (p52:Fc K "_law_one_move" o8 f52)
  (p53:Fc K "_law_back" Dn f53)
  (p54:Fc K "_law_path_of" qY f54)
  (p55:Fc K "_law_all_moves" mH f55)
  (p56:Fc K "_law_drawn" xY f56)
  (p57:Fc K "_law_width" x8 f57)
  (p58:Fc K "_law_case" Dp f58)
  (p59:Fc K "side_strip" mJ f59)
  (p60:Fc K "tips_of" tV f60)
  (p61:Fc K "rays_of" tR f61)
  (p62:Fc K "fan" Xt f62)
  (p63:Fc K "fan_units" oS f63)
  (p64:Fc K "corner_fan" mG f64)
  (p65:Fc K "start_cap" pA f65)
  (p66:Fc K "end_cap" tN f66)
  (p67:Fc K "arc_vectors" kX f67)
  (p68:Fc K "arc_units" oR f68)
  (p69:Fc K "inner_of" qW f69)
  (p70:Fc K "with_tips" pC f70)
  (p71:Fc K "sector_marks" kA f71)
  (p72:Fc K "sectors" tT f72)
  (p73:Fc K "piece_blocks" j9 f73)
  (p74:Fc K "bends" Dl f74)
  (p75:Fc K "laid_blocks" k5 f75)
  (p76:Fc K "blocks" xT f76)
  (p77:Fc K "_law_in" Xu f77)
  (p78:Fc K "_law_on_path" qX f78)
  (p79:Fc K "law" xW f79)
  {fb:VN} {jt ju jv jw jx jy:Tok} {jz:Nat} (ly:W.nsIn K VT "FAN_MARKS" = oZ (oZ (.ref fb))) (ma:K.lookup fb=oZ { cls:=.type "dict",data:=.dict #[⟨hashStr w "left",.str "left" jt,.str "r" ju⟩,⟨hashStr w "right",.str "right" jv,.str "l" jw⟩,⟨hashStr w "back",.str "back" jx,.str "b" jy⟩] jz })
  {dk:VN} {gf gj gn gv gw ie:Tok} {ig:Nat} (kc:W.nsIn K VT "OTHER_MARK" = oZ (oZ (.ref dk))) (ke:K.lookup dk=oZ { cls:=.type "dict",data:=.dict #[⟨hashStr w "l",.str "l" gf,.str "r" gj⟩,⟨hashStr w "r",.str "r" gn,.str "l" gv⟩,⟨hashStr w "-",.str "-" gw,.str "-" ie⟩] ig })
  {md:VN} {oh:Option VN} {ph pj:Tok} {pz:Nat} {oi:Array (Option oA)} (qz:W.nsIn K VT "NOUGHT" = oZ (oZ (.ref md))) (rf:K.lookup md=oZ ⟨.type "tuple",oh,.seq #[.int 0 ph,.int 1 pj] pz,oi⟩)
  {dm:VN} {fy:Option VN} {ij ik:Tok} {iq:Nat} {fz:Array (Option oA)} (kg:W.nsIn K VT "ONE_blocks" = oZ (oZ (.ref dm))) (kh:K.lookup dm=oZ ⟨.type "tuple",fy,.seq #[.int 1 ij,.int 1 ik] iq,fz⟩)
  {fe:VN} {ir:Option VN} {ki km:Tok} {kn:Nat} {iu:Array (Option oA)} (me:W.nsIn K VT "ONE_turns" = oZ (oZ (.ref fe))) (mf:K.lookup fe=oZ ⟨.type "tuple",ir,.seq #[.int 1 ki,.int 1 km] kn,iu⟩)
  {vo:VN} {ug:Option VN} {xp xq:Tok} {xr:Nat} {uh:Array (Option oA)} (aAS:W.nsIn K VT "TWO" = oZ (oZ (.ref vo))) (aAT:K.lookup vo=oZ ⟨.type "tuple",ug,.seq #[.int 2 xp,.int 1 xq] xr,uh⟩)
  (ko:W.nsIn K VT "isinstance" = oZ none) (aAU:W.nsIn K VT "abs" = oZ none) (rg:W.nsIn K VT "divmod" = oZ none) (aAV:W.nsIn K VT "min" = oZ none) (aAW:W.nsIn K VT "max" = oZ none) (aAX:W.nsIn K VT "all" = oZ none) (Zo:W.nsIn K VT "len" = oZ none) (aAY:W.nsIn K VT "int" = oZ none) (xt:W.nsIn K VT "bool" = oZ none) (ui:W.nsIn K VT "tuple" = oZ none) (xu:W.nsIn K VT "list" = oZ none) (aAZ:W.nsIn K VT "str" = oZ none) (uj:W.nsIn K VT "range" = oZ none) (mh:W.nsIn K VT "enumerate" = oZ none) (aA0:W.nsIn K VT "zip" = oZ none) (aA1:W.nsIn K VT "any" = oZ none) :
  ∃fd:WC,(∀(s:oB)(v:oA),BindsTo s fd ⟨[v],[]⟩ [("_law_script",v)])/\∀base:oE,K.In base->base.Ns VT mg->aT P w K mg base cO 16 fa fd ["_law_script"] (Oq K):=by
 obtain⟨oc,od,kV,dc,pm,an,cd,ct,sl,a79,l79,c79,k79⟩:=p79;have e:=hfa.symm.trans (W.mg_of X G a79);cases e;have T:Txt mg:=⟨W.mg_none_of X G ko,W.mg_none_of X G aAU,W.mg_none_of X G rg,W.mg_none_of X G aAV,W.mg_none_of X G aAW,W.mg_none_of X G aAX,W.mg_none_of X G Zo,W.mg_none_of X G aAY,W.mg_none_of X G xt,W.mg_none_of X G ui,W.mg_none_of X G xu,W.mg_none_of X G aAZ,W.mg_none_of X G uj,W.mg_none_of X G mh,W.mg_none_of X G aA0⟩;have bg:sV mg w K "FAN_MARKS" "left" "r" "right" "l" "back" "b":=⟨⟨_,_,_,_,_,_,_,_,W.mg_of X G ly,ma⟩,∅⟩;have aq:sV mg w K "OTHER_MARK" "l" "r" "r" "l" "-" "-":=⟨⟨_,_,_,_,_,_,_,_,W.mg_of X G kc,ke⟩,∅⟩;have ZS:mW mg K "NOUGHT" (.tup [.int 0,.int 1]):=⟨_,W.mg_of X G qz,l7 rf⟩;have ao:mW mg K "ONE_blocks" (.tup [.int 1,.int 1]):=⟨_,W.mg_of X G kg,l7 kh⟩;have YK:mW mg K "ONE_turns" (.tup [.int 1,.int 1]):=⟨_,W.mg_of X G me,l7 mf⟩;have qt:mW mg K "TWO" (.tup [.int 2,.int 1]):=⟨_,W.mg_of X G aAS,l7 aAT⟩;have F79:=Uw (st:=xW) l79 c79 k79;refine⟨W.fnOf "law" "law" (fM xW) (cW xW) (aC xW) .none kV dc pm an cd ct,λs v=>.of_eq rfl,λbase _ _=>?_⟩;have YA: ~~~kJ:=⟨lN X G p0 (J0 · T )⟩;have ZK: ~~~kG:=⟨lN X G p1 (sG · T )⟩;have YB: ~~~dY:=⟨lN X G p2 (Hj · T ZK)⟩;have YD: ~~~gF:=⟨lN X G p3 (Vy · T YB)⟩;have YT: ~~~lB:=⟨lN X G p4 (Wg · T YB)⟩;have YF: ~~~jV:=⟨lN X G p5 (Wi · T YB)⟩;have ZG: ~~~qI:=⟨lN X G p6 (AQ · T YF YD)⟩;have YE: ~~~iA:=⟨yX X G p7 (Kn · T )⟩;have ZL: ~~~rP:=⟨lN X G p8 (H0 · T YB)⟩;have qw: ~~~Tb:=⟨lN X G p9 (AO · T )⟩;have ZO: ~~~qB:=⟨yX X G p10 (zB · T )⟩;have dq: ~~~wA:=⟨yX X G p11 (Kq · T ZO)⟩;have YS: ~~~k9:=⟨lN X G p12 (We · T YT)⟩;have ZH: ~~~lU:=⟨yX X G p13 (Cw · T dq ZG)⟩;have YW: ~~~lY:=⟨yX X G p14 (Kv · T ZH ZL)⟩;have YH: ~~~iZ:=⟨yX X G p15 (Hs · T )⟩;have YR: ~~~jT:=⟨yX X G p16 (Km · T )⟩;have YC: ~~~fV:=⟨yX X G p17 (Rl · T YR)⟩;have YM: ~~~iX:=⟨lN X G p18 (Hh · T YC)⟩;have ZI: ~~~lR:=⟨yX X G p19 (Ct · T YC)⟩;have ZN: ~~~m7:=⟨lN X G p20 (xE · T YW YS YE YH)⟩;have YJ: ~~~iY:=⟨lN X G p21 (Hk · T YM YC YR YW YS ZN)⟩;have bh: ~~~rR:=⟨lN X G p22 (Cz · T YR ZH YS YC)⟩;have ZF: ~~~nA:=⟨lN X G p23 (Wa · T YF YT)⟩;have YL: ~~~fN:=⟨lN X G p24 (qQ · T YJ)⟩;have ZZ: ~~~m9:=⟨lN X G p25 (xG · T YL ZF)⟩;have dz: ~~~vV:=⟨yX X G p26 (Kj · T ZI ZZ)⟩;have fj: ~~~zO:=⟨lN X G p27 (Rx · T YF YT YD)⟩;have dr: ~~~wD:=⟨yX X G p28 (Ku · T YB)⟩;have cf: ~~~wC:=⟨F3 X G p29 (Ks · T dr YF YB fj)⟩;have aa: ~~~nD:=⟨lN X G p30 (xH · T ZG ZF)⟩;have YV: ~~~jG:=⟨F3 X G p31 (pW · T aa cf ZL ZF YD ZG YK)⟩;have YU: ~~~kH:=⟨lN X G p32 (Hi · T )⟩;have ZY: ~~~rT:=⟨lN X G p33 (Dd · T ZF ZG YT YD YK)⟩;have ah: ~~~vY:=⟨yX X G p34 (Kl · T )⟩;have fk: ~~~zL:=⟨F3 X G p35 (Rr · T ZY YU)⟩;have XW: ~~~cR:=⟨F3 X G p36 (tH · T YV ah fk)⟩;have ZC: ~~~rQ:=⟨lN X G p37 (I0 · T YD)⟩;have YO: ~~~lA:=⟨lN X G p38 (Rv · T YF)⟩;have fq: ~~~zN:=⟨lN X G p39 (Rw · T YO ZC ZL YD ZG YK)⟩;have br: ~~~rO:=⟨yX X G p40 (Cu · T ZG YU)⟩;have fu: ~~~zJ:=⟨lN X G p41 (Rm · T )⟩;have YN: ~~~jU:=⟨lN X G p42 (Wd · T )⟩;have jj: ~~~Mi:=⟨lN X G p43 (G9 · T YN)⟩;have aj: ~~~vZ:=⟨lN X G p44 (Wf · T YN)⟩;have YQ: ~~~kI:=⟨lN X G p45 (Ho · T YN)⟩;have ZR: ~~~vB:=⟨lN X G p46 (G7 · T jj)⟩;have cq: ~~~Bg:=⟨lN X G p47 (G8 · T aj)⟩;have XY: ~~~fA:=⟨lN X G p48 (y9 · T YQ)⟩;have ft: ~~~zK:=⟨lN X G p49 (Rn · T aj YQ)⟩;have cn: ~~~uJ:=⟨yX X G p50 (Hq · T )⟩;have YX: ~~~nG:=⟨yX X G p51 (Hr · T cn)⟩;have ZJ: ~~~lW:=⟨lN X G p52 (Cy · T YA YX)⟩;have jn: ~~~Eu:=⟨yX X G p53 (Wb · T XY)⟩;have ZM: ~~~nF:=⟨lN X G p54 (Hn · T ZR cq XY)⟩;have ak: ~~~pZ:=⟨lN X G p55 (y8 · T YA ZJ jn)⟩;have fo:Fn P w K mg base 6 "_law_drawn" oM (uS K Ma):=⟨lN X G p56 (Ro · T YA ak ZM)⟩;have fm: ~~~zM:=⟨yX X G p57 (Ru · T YA YN)⟩;have jr:Fn P w K mg base 7 "_law_case" ["_law_box_here"] (uS K Yp):=⟨yX X G p58 (Wc · T YA fm ZJ ZM fo)⟩;have aw: ~~~qA:=⟨F3 X G p59 (zA · T YM YC YO YE YJ YS ZC)⟩;have ZP: ~~~qJ:=⟨yX X G p60 (Kt · T fq)⟩;have YY: ~~~lX:=⟨lN X G p61 (Ko · T ZP)⟩;have dj: ~~~Bf:=⟨MI X G p62 (AR · T ZC YO)⟩;have bf: ~~~rN:=⟨Z3 X G p63 (Cs · T YL XW YE YH)⟩;have bc: ~~~pY:=⟨MI X G p64 (yZ · T YY bf dj YM bg)⟩;have bz: ~~~rS:=⟨Z3 X G p65 (Dc · T YJ YY XW YE YH dj)⟩;have eh: ~~~vW:=⟨Z3 X G p66 (Kk · T YJ YY XW YE YH dj YC)⟩;have ae: ~~~m8:=⟨lN X G p67 (xF · T YS YM YC)⟩;have bq: ~~~rM:=⟨F3 X G p68 (Cr · T ae XW YW)⟩;have cy: ~~~uH:=⟨F3 X G p69 (Hl · T YU YF YT ZL YD ZS ao qt)⟩;have bw: ~~~rV:=⟨yX X G p70 (De · T ZP)⟩;have ZU: ~~~mY:=⟨F3 X G p71 (u6 · T aq)⟩;have dw: ~~~wB:=⟨Z3 X G p72 (Kr · T bh bq cy br YD bw ZU ZC YO ZS)⟩;have ZV: ~~~mX:=⟨Z3 X G p73 (u5 · T YR aw dw)⟩;have jq: ~~~Et:=⟨yX X G p74 (Vz · T dz)⟩;have af: ~~~nE:=⟨Z3 X G p75 (xI · T jq ZV bc ZI bz eh)⟩;have fx: ~~~zI:=⟨F3 X G p76 (Rk · T af)⟩;have qx: ~~~Tc:=⟨lN X G p77 (AU · T ft cq)⟩;have de: ~~~uI:=⟨Z3 X G p78 (Hm · T YA YN ZR XY XW)⟩;exact(AS F79 T fu qw jr fx YA YN YX YQ XY ZR de qx (W.mg_none_of X G aA1)).imp AI
theorem MB{l:W.OpenLaw}{XP:(Str->Option oA)->oE->Prop}{YP:VU->oE->Prop}{d:DefRec}{K:Params->W.Frag}(hn:l.most=oZ 63)(yy:d.params.defaults=[])(hY:∀(w:VU)(h:oE),YP w h->(K w.params).In h)(F:∀(w:VU)(mg:Str->Option oA)(fa:VN)(h:oE),(K w.params).In h->h.Ns VT mg->mg d.name=oZ (.ref fa)->
   ∃fd:WC,(∀(s:oB)(u:oA),BindsTo s fd ⟨[u],[]⟩ [("_law_script",u)])/\∀base:oE,(K w.params).In base->base.Ns VT mg->aT l.prog w (K w.params) mg base cO 16 fa fd ["_law_script"] (Oq (K w.params))):
  W.WalkO q loose XP YP l.row.toRowW d [] (λf vs=>PySem.call f vs):=
 L2.O9 (n:=63) (k:=16) (x:="_law_script") (CX:=λ_=>cO) (sp:=λw=>Oq (K w.params)) hn ∅ yy ⟨rfl,∅,∅,rfl⟩ hY F (λ_ _ a ns hl _ hS=>⟨a,ns,rfl,hS,hl,λ_=>rfl⟩) λ_ _ _ _ _ z=>z
end My
namespace PySem.W.Fast
def tw182363007680108437:=0
def tw272001682436857968:=0
def tw7943916703269954630:=0
def tw2859401515329445141:=0
def tw18383641351128566047:=0
def tw10374258526141040846:=0
def tw11579463331344881619:=0
def tw2912363001253182624:=0
def tw11984585774122411591:=0
def tw17135791929220890231:=0
def tw9290476225495262993:=0
def tw4119627545709369648:=0
def tw10525494982832253697:=0
def tw15672614910950944614:=0
def tw16759707202647408946:=0
def tw18077408512340814346:=0
def tw12278564162799977444:=0
def tw14952723938550416758:=0
def tw2910495256856982038:=0
def tw5916114397118071129:=0
def tw807758599425930383:=0
def tw1960728628904253427:=0
def tw14827580262447512274:=0
def tw13845732798897709685:=0
def tw7620101447838035981:=0
def tw16092860371408854058:=0
def tw12261592050547079720:=0
def tw11144192385108888385:=0
def tw3215720317123924571:=0
def tw1688134327078629274:=0
def tw6829919548317407616:=0
def tw10242492602514267883:=0
def tw4454728798773586214:=0
def tw9480200893539116944:=0
def tw4820813174405905959:=0
def tw11338460875680593263:=0
def tw17209102836698481039:=0
def tw11008553903027714270:=0
def tw9929663654003659636:=0
def tw16900481062028358113:=0
def tw12084907442932559547:=0
def tw3569544114131455228:=0
def tw12508511346596824700:=0
def tw17189334576093133940:=0
def tw16584441734681819379:=0
def tw13469005113961026716:=0
def tw9878124677930536613:=0
def tw1078190376371321616:=0
def tw15411176529194594021:=0
def tw15670539326413146565:=0
def tw4170247912494490940:=0
def tw12663104965168813143:=0
def tw18360955017536225301:=0
def tw14200566303798719001:=0
def tw15126376907902082036:=0
def tw17601614818209382939:=0
def tw3811952641174866986:=0
def tw7478344653615520893:=0
def tw6243137161612890328:=0
def tw15045785121465959676:=0
def tw14020227861647624172:=0
def tw807582587393686320:=0
def tw391531768039682570:=0
def tw5539639578231651333:=0
def tw6367909308306175161:=0
def tw3026892242578702257:=0
def tw6573333410689083129:=0
def tw634018382712808767:=0
def tw6392073742435162297:=0
def tw6506454828337437520:=0
def tw7449694182267529124:=0
def tw15066866120991923808:=0
def tw8769260805323530973:=0
def tw3443544856983105803:=0
def tw84022228192371014:=0
def tw15805109135899293414:=0
def tw2571994704296480101:=0
def tw2185518030115706291:=0
def tw9316175316802899989:=0
def tw13622917634096673527:=0
def tw13679096478675624351:=0
def tw16978811842314266058:=0
def tw13844787249014641537:=0
def tw11258288205084151777:=0
def tw6479241637421778222:=0
def tw7974913469433935257:=0
def tw17957749885743372299:=0
def tw18281548754905005427:=0
def tw3865558868943392098:=0
def tw5425051487140750489:=0
def tw5166560683994749124:=0
def tw16537438323195417492:=0
def tw15922278425672746404:=0
def tw13278457218151629731:=0
def tw6465937534249430152:=0
def tw4547981114718468078:=0
def tw9480970602376956280:=0
def tw11588238438362320098:=0
def tw3335598437974608345:=0
def tw12010923780617932165:=0
def tw14318747741103035007:=0
def tw3539448082582691527:=0
def tw2446220777309227125:=0
def tw1986522018463019248:=0
def tw491880395629600710:=0
def tw13699912590817389157:=0
def tw15492140867113081651:=0
def tw17420049716461882062:=0
def tw13805001962966913991:=0
def tw6594913566200290430:=0
def tw14339869580556449846:=0
def tw6281711454387275168:=0
def tw12591887906213226249:=0
def tw13700212522735479662:=0
def tw17645707822664824742:=0
def tw479828503149007347:=0
def tw17321561178756108838:=0
def tw8040581046307658197:=0
def tw7868648686792041852:=0
def tw10012874832024743604:=0
def tw13089389339190009676:=0
def tw17792113107264085555:=0
def tw6701033653074319875:=0
def tw16134501311650824611:=0
def tw15309363218955343552:=0
def tw6465883188606989138:=0
def tw5954867228948673250:=0
def tw13927067923713069085:=0
def tw1117864345291606789:=0
def tw7477272388267889808:=0
def tw12259006604459616012:=0
def tw5667000806248169180:=0
def tw11958358816412276389:=0
def tw11418463872345781247:=0
def tw15853507472326201060:=0
def tw7699267809625083907:=0
def tw2439506275240369170:=0
def tw12214165859254982249:=0
def tw6308485096594111472:=0
def tw12538166539689568722:=0
def tw9331735222330766085:=0
def tw7665598802713345261:=0
def tw3198189574462354349:=0
def tw10146033209505866284:=0
def tw840074534096236376:=0
def tw16598550087935813789:=0
def tw15858067074121881003:=0
def tw16253042626665520455:=0
def tw2665003779914510637:=0
def tw4494296862488043606:=0
def tw4394367714631858521:=0
def tw2173629361684015369:=0
def tw13314754989698902826:=0
def tw12559187737506057486:=0
def tw11730868175738751425:=0
def tw9472633315137604097:=0
def tw494871751745794076:=0
def tw16189923527932736771:=0
def tw6899824906935218763:=0
def tw4242842480949113549:=0
def tw6330932355734934239:=0
def tw12558667375336246150:=0
def tw2507714832342713865:=0
def tw13847385286791881437:=0
def tw9985865194671588580:=0
def tw3114793075206064350:=0
def tw6257722355751025936:=0
def tw12415513983072725928:=0
def tw6855557147725041343:=0
def tw1193269262259580248:=0
def tw17786693773785443943:=0
def tw2277028692359490491:=0
def tw9585074551837311447:=0
def tw2193454215145668322:=0
def tw7591193777037796286:=0
def tw9049693804257798688:=0
def tw16665944697990065719:=0
def tw16041203031766782700:=0
def tw7099439171535152824:=0
def tw9378251984996153315:=0
def tw15824782940647493639:=0
def tw2720153657729727598:=0
def tw14665312769495637665:=0
def tw1644498819424130682:=0
def tw16500182631062017710:=0
def tw12718318111030062921:=0
def tw5619727934628778448:=0
def tw14715106801074683972:=0
def tw14340094244743277040:=0
end PySem.W.Fast
open PySem PySem.W PyProof.Rows
set_option maxRecDepth 100000 in
set_option maxHeartbeats 0 in
theorem PySem.Challenge.cw_sidecut_k21_near_points_are_in_blocks_holds : PySem.Challenge.rw_sidecut_k21_near_points_are_in_blocks.Holds := by
 w_on; o_law; k_head; (case hw => w_witness2)
 k_fill
 refine My.MB (l := PySem.Challenge.rw_sidecut_k21_near_points_are_in_blocks) rfl rfl (λw h Y => PySem.W.kIn_of Y) ?F
 case F =>
  intro w mg fa h KX G hmg
  refine' My.V9 KX G hmg ..
  any_goals exact My.fc rfl rfl rfl rfl
  any_goals k_is
  all_goals kernel_rfl
#print axioms PySem.Challenge.cw_sidecut_k21_near_points_are_in_blocks_holds
