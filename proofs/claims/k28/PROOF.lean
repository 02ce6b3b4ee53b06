import PyProof.Rows.All
import Wide.All
import OpenK.AllK
import Wide.FinOn
import Lean
import PyProof.EqAt
import PyProof.EqKinds
import PyProof.TupleCall
import PyProof.NeKinds
import PyProof.ExcInit
import PyProof.Rows.SortStr
import PyProof.Rows.SortWalk
import PyProof.Rows.RuleB_bool
import PyProof.Rows.SortShellK
import KE.KIntText
import KE.KIsAll
import PyProof.AttrMissHeap
import PyProof.CompUse
import PyProof.Rows.CountFlat
import PySem.Challenge.RW_sidecut_k28_rims_go_round
set_option Elab.async false
set_option linter.all false
set_option bootstrap.genMatcherCode false
set_option compiler.extract_closed false
set_option maxRecDepth 100000
set_option maxHeartbeats 4000000
open List renaming mem_map -> MH, getElem?_eq_getElem -> MI, mem_cons -> MJ, getElem?_eq_some_iff -> MK, length_map -> ML, mem_of_getElem? -> MN, append_assoc -> MO, length_append -> MP, map_cons -> MR, length_cons -> MS, getElem?_map -> MT, mem_append_right -> MV, mem_singleton -> MW, map_map -> MY, size_toArray -> MZ, mem_append -> NB, getElem?_set_ne -> ND, mem_cons_of_mem -> NF, getD_eq_getElem?_getD -> NG, mem_filter -> NI, mem_append_left -> NJ, getElem?_append_left -> NK, mem_zipIdx_iff_getElem? -> NL, filterMap_cons_none -> NM, sum_cons -> NN, getElem?_set_self -> NR, append_nil -> NS, filter_cons_of_pos -> NT, filter_cons_of_neg -> NU, mem_flatMap -> NV, replicate -> NW, filterMap_cons_some -> NZ, length_take -> OC, map_append -> OE, getElem?_append_right -> OF, range -> OG, map_congr_left -> OI, mem_of_mem_take -> OJ, length_singleton -> OM, mem_range -> OO, nil_append -> OP, all_eq_true -> OQ, flatMap_cons -> OS, getElem?_take_of_lt -> OT, mem_cons_self -> OV, getElem?_of_mem -> OW, length_nil -> OZ, drop_eq_getElem_cons -> PB, getElem_mem -> PC, lookup_cons -> PD, getElem?_eq_none -> PM, of_mem_zip -> PQ, eq_nil_of_length_eq_zero -> PR, not_mem_nil -> PU, drop_length -> PV, any_eq_true -> PX, take_of_length_le -> PY, nodup_cons -> QC, getElem?_take_eq_none -> QJ, length_drop -> QM, map_nil -> QN, length_tail -> QU, mem_flatten -> QV, mem_filterMap -> QY, filterMap_map -> QZ, forIn_cons -> RB, pairwise_cons -> RC, getElem?_set -> RD, length_replicate -> RF, filterMap_cons -> RI, find?_cons -> RK, filter_append -> RN, reverse_cons -> RQ, length -> RU, range_succ_eq_map -> RW, set_comm -> RY, length_set -> SA, getElem?_zipIdx -> SD, mem_of_mem_tail -> SH, length_zip -> SI, count_eq_zero_of_not_mem -> SJ, getElem?_range -> SK, mem_map_of_mem -> SM, perm_iff_count -> SN, nodup_nil -> SO, getElem?_inj -> SY, getElem?_eq_none_iff -> TB, length_filterMap_le -> TN, mem_reverse -> TQ, getElem?_replicate -> TR, count_cons -> UA, length_pos_of_mem -> UD, forIn_nil -> UH, drop_zero -> UK, any_cons -> UL, map_take -> UN
open PySem.Heap renaming get?_push_of_some -> MM, lt_size -> MX, get?_push_size -> NA, SameBut -> PN, get?_update_self -> QD, size_push -> QK, get?_update_other -> UB
open Nat renaming le_refl -> MQ, lt_of_lt_of_le -> NC, lt_of_le_of_lt -> NH, ne_of_lt -> NQ, gcd -> NX, le_of_lt -> OA, le_trans -> OH, mul_le_mul -> OL, zero_le -> OR, pow_le_pow_right -> OX, lt_or_ge -> OY, gcd_dvd_left -> PF, gcd_dvd_right -> PJ, gcd_pos_of_pos_right -> QR, mod_lt -> RO, Coprime -> RX, mod_eq_of_lt -> RZ, gcd_comm -> SE, max_le -> SF, min_eq_left -> SG, pow_add -> SQ, eq_zero_or_pos -> SS, max -> TH, dvd_mul_left -> TJ, log2 -> TK, zero_add -> TM, le_mul_of_pos_right -> TU, not_lt_zero -> TV, log2_lt -> UC, mul_pos -> UE
open PySem.Value renaming ref -> NO, none -> PK
open Bool renaming and_eq_true -> NY, false_eq_true -> OD, false_ne_true -> PL, not_true -> RG, eq_iff_iff -> RJ, not_eq_true' -> RS, or_eq_true -> TZ, and_false -> UG, not_false -> UJ, and_true -> UM
open Int renaming ofNat_dvd_left -> OB, natAbs_mul -> OK, mul_ediv_cancel_left -> OU, toNat_natCast -> PH, mul_ne_zero -> QF, fdiv_eq_ediv_of_nonneg -> QH, natAbs_neg -> QL, mul_assoc -> RH, mul_nonpos_of_nonneg_of_nonpos -> RT, mul_pos -> SR, emod_lt_of_pos -> SU, natAbs_natCast -> SV, ediv_eq_of_eq_mul_right -> SW, fmod_eq_emod_of_nonneg -> SX, eq_of_mul_eq_mul_left -> TF, mul_fdiv_cancel_left -> TL, emod_nonneg -> TY
open Or renaming inl -> ON, inr -> QP
open PySem.Str renaming ofString -> PZ
open Array renaming length_toList -> QX, getElem?_eq_getElem -> TC, getElem?_toList -> UI, toList -> UO
open PySem.Obj renaming mapSeq -> RA, data_mapFields -> RL
open PySem.Txt renaming slice -> RM
open Option renaming bind_eq_some_iff -> RP
open PyProof.Rows renaming assignInOrder_cons -> VX, envOfC -> WL, AllBare -> WN, assignInOrder_nil -> XB
open PySem renaming wpAny_bind -> UP, Addr -> UQ, wpAny_pure -> UR, wpAny -> US, sizeLine -> UT, Program -> UU, model -> UW, mainGlobals -> UX, World -> UY, Stmt -> UZ, foldedSetIterable -> VA, starEach -> VB, assignEach -> VC, wpAny_newObj_type -> VD, behindInMarks -> VE, eval -> VF, compareOp -> VG, FuncData -> VH, wpAny_call_entry -> VI, wpAny_truthy_bool -> VJ, swapsWith -> VL, sliceBounds -> VM, wpAny_field -> VN, sysModules -> VO, swapsWithSole -> VP, swappedStores -> VQ, attributeBase -> VR, binaryOp -> VS, tupleKind -> VT, bootBuiltins -> VU, holding -> VV, cLine -> VW, wpAny_passesOwn -> VY, wpAny_holding -> VZ, wpAny_mono -> WA, assign -> WC, wpAny_rule -> WD, wpAny_seqItems -> WE, bindName -> WG, backTo -> WH, getItem -> WI, Scope -> WJ, wpAny_pyIter_tuple -> WK, wpAny_setField_rec -> WM, wpAny_bindName -> WO, subscripted -> WQ, assignInOrder -> WR, wpAny_standAt -> WS, wpAny_execs_nil -> WT, letOwnedTupleGo -> WU, wpAny_setField -> WV, sizeLine_eq -> WW, rawInt -> WX, wpAny_Call_Name_kw -> WY, evalPart_none -> WZ, wpAny_attempt -> XA, callerA -> XC
open Option renaming some -> oZ
set_option hygiene false in
local macro_rules|`(~~~$x)=>`($x P w K mg base)
local macro_rules|`(↑$x)=>`(some (.p (.int $x)))
local macro_rules|`(↥$x)=>`(some (.o false $x))
local macro_rules|`(⇑$x)=>`(some (.p $x))
local macro_rules|`(⋯)=>`(by lia)
local macro_rules|`(∅)=>`(by decide)
theorem oY{p:Prop}[Decidable p](h:p):decide p=true:=decide_eq_true h
theorem oX{p:Prop}[Decidable p](h:¬p):decide p=false:=decide_eq_false h
theorem oV{c:Prop}{_:Decidable c}(h:c){α:Sort u}{t e:α}:ite c t e=t:=if_pos h
theorem oW{c:Prop}{_:Decidable c}(h:¬c){α:Sort u}{t e:α}:ite c t e=e:=if_neg h
open PySem renaming Value -> oA, Shared -> oB, Expr -> oC, Around -> oD, Heap -> oE
namespace L2
open PySem PySem.Spec PyProof.Rows
abbrev Key:=Sum Int Str
def xR:Key->oA->Bool
 |.inl k,v=>Value.isInt k v
 |.inr x,v=>Value.isStrOf x v
def JE(w:UY):Key->Int
 |.inl k=>hashInt k
 |.inr x=>hashStr w x
theorem cR:∀{k:Key}{v:oA},xR k v=true->(∃i t,k=Sum.inl i/\v=Value.int i t)\/(∃x t,k=Sum.inr x/\v=Value.str x t)
 |.inl i,v,h=>by
  obtain⟨t,e⟩:=Value.isInt_shape (k:=i) (v:=v) h;exact .inl ⟨i,t,rfl,e⟩
 |.inr x,v,h=>by
  obtain⟨t,e⟩:=Value.isStrOf_shape (x:=x) (v:=v) h;exact .inr ⟨x,t,rfl,e⟩
theorem Oi(i:Int)(t:Tok):xR (.inl i) (.int i t)=true:=by simp[xR,Value.isInt]
theorem Oj(x:Str)(t:Tok):xR (.inr x) (.str x t)=true:=by simp[xR,Value.isStrOf]
theorem V6(a b:Int):decide ((Sum.inl a:Key)=Sum.inl b)=(a==b):=by
 by_cases e:a=b
 ·subst e;simp
 ·have h:¬(Sum.inl a:Key)=Sum.inl b:=λq=>e (Sum.inl.inj q);rw[oX h];exact(beq_eq_false_iff_ne.mpr e).symm
theorem V9(a b:Str):decide ((Sum.inr a:Key)=Sum.inr b)=decide (a=b):=by
 by_cases e:a=b
 ·subst e;simp
 ·have h:¬(Sum.inr a:Key)=Sum.inr b:=λq=>e (Sum.inr.inj q);rw[oX h,oX e]
theorem V7(a:Int)(b:Str):decide ((Sum.inl a:Key)=Sum.inr b)=false:=oX (λq=>nomatch q)
theorem V8(a:Str)(b:Int):decide ((Sum.inr a:Key)=Sum.inl b)=false:=oX (λq=>nomatch q)
def b9(prog:UU)(w:UY):PySem.KeyKind prog w Key where
 is:=xR
 hash:=JE w
 inj:=λv a b ha hb=>by
  obtain⟨i,t,rfl,rfl⟩|⟨x,t,rfl,rfl⟩:=cR ha
  ·obtain⟨j,u,rfl,e⟩|⟨y,u,rfl,e⟩:=cR hb
   ·injection e with e1 _;rw[e1]
   ·exact nomatch e
  ·obtain⟨j,u,rfl,e⟩|⟨y,u,rfl,e⟩:=cR hb
   ·exact nomatch e
   ·injection e with e1 _;rw[e1]
 byValue:=λk v h=>by
  rcases cR h with⟨i,t,rfl,rfl⟩|⟨x,t,rfl,rfl⟩<;>rfl
 pyHash:=λhv h=>by
  obtain⟨i,t,rfl,rfl⟩|⟨x,t,rfl,rfl⟩:=cR hv
  ·exact wpAny_pyHash_int h
  ·exact wpAny_pyHash_str h
 eqBool:=λhu hv h=>by
  obtain⟨i,t,rfl,rfl⟩|⟨x,t,rfl,rfl⟩:=cR hu
  ·obtain⟨j,u,rfl,rfl⟩|⟨y,u,rfl,rfl⟩:=cR hv
   ·rw[V6]at h;exact wpAny_eqBool_int h
   ·rw[V7]at h;exact SeqAt.EqAt.int_str i t y u _ _ _ _ h
  ·obtain⟨j,u,rfl,rfl⟩|⟨y,u,rfl,rfl⟩:=cR hv
   ·rw[V8]at h;exact SeqAt.EqAt.str_int x t j u _ _ _ _ h
   ·rw[V9]at h;exact wpAny_eqBool_str h
 «strs»:=λk x t v h=>by
  obtain⟨i,u,rfl,e⟩|⟨y,u,rfl,e⟩:=cR h
  ·exact nomatch e
  ·injection e with e1 _;subst e1;cases v<;>rfl
theorem Cn(prog:UU)(w:UY)(i:Int)(t:Tok):(b9 prog w).is (.inl i) (.int i t)=true:=Oi i t
theorem Co(prog:UU)(w:UY)(x:Str)(t:Tok):(b9 prog w).is (.inr x) (.str x t)=true:=Oj x t
inductive V where
 |non|bl (b:Bool)|int (i:Int)|str (x:Str)|byt (b:Array UInt8)|flt (b:UInt64)|ref (a:UQ)|ty (n:String)
 deriving DecidableEq
def bM:V->oA->Prop
 |.non,u=>u=PK
 |.bl b,u=>u=Value.bool b
 |.int i,u=>∃t,u=Value.int i t
 |.str x,u=>∃t,u=Value.str x t
 |.byt b,u=>∃t,u=Value.bytes b t
 |.flt b,u=>∃t,u=Value.float b t
 |.ref a,u=>u=NO a
 |.ty n,u=>u=Value.type n
abbrev bA:List V->List oA->Prop:=Paired bM
theorem bA.length(r:bA xs us):xs.length=us.length:=Paired.length r
theorem bA.get:∀{xs:List V}{us:List oA}{i:Nat}{x:V},bA xs us->xs[i]?=oZ x->∃u,us[i]?=oZ u/\bM x u
 |_,_,_,_,.nil,e=>by simp at e
 |_,_,0,_,.cons r _,e=>by simp at e;subst e;exact⟨_,rfl,r⟩
 |_,_,i+1,x,.cons _ t,e=>by
  obtain⟨u,h1,h2⟩:=bA.get (i:=i) (x:=x) t (by simpa using e);exact⟨u,by simpa using h1,h2⟩
theorem bA.set(r:bM x u):∀{xs:List V}{us:List oA}(i:Nat),bA xs us->bA (xs.set i x) (us.set i u)
 |_,_,_,.nil=>.nil
 |_,_,0,.cons _ t=>.cons r t
 |_,_,i+1,.cons q t=>.cons q (bA.set r i t)
theorem bA.append:∀{xs ys:List V}{us ws:List oA},bA xs us->bA ys ws->bA (xs++ys) (us++ws)
 |_,_,_,_,.nil,s=>s
 |_,_,_,_,.cons r t,s=>.cons r (bA.append t s)
theorem bA.take:∀{xs:List V}{us:List oA}(n:Nat),bA xs us->bA (xs.take n) (us.take n)
 |_,_,0,_=>.nil
 |_,_,_+1,.nil=>.nil
 |_,_,n+1,.cons r t=>.cons r (bA.take n t)
theorem bA.drop:∀{xs:List V}{us:List oA}(n:Nat),bA xs us->bA (xs.drop n) (us.drop n)
 |_,_,0,r=>r
 |_,_,_+1,.nil=>.nil
 |_,_,n+1,.cons _ t=>bA.drop n t
def Qn:Option V->Option oA->Prop
 |some v,oZ u=>bM v u
 |none,none=>True
 |_,_=>False
def KV{κ:Type}:List (κ×V)->List (κ×oA)->Prop:=Paired λ(p:κ×V)(q:κ×oA)=>p.1=q.1/\bM p.2 q.2
def kV:Key->V
 |.inl i=>.int i
 |.inr x=>.str x
inductive HO where
 |lst (xs:List V)
 |tup (xs:List V)
 |dK (XN:List (Key×V))|dT (XN:List (List Key×V))
 |set (S:Int->Bool) (n:Nat)
 |ins (C dx:UQ) (fs:List (Str×V))
 |own (x:UQ)
 |xd (fs:List (Str×V))
 |met (f x:UQ)
 |rng (lo hi:Int)
 |frz (o:Obj) (u:HO)
 |tbl (ps:Array oA)
 |ext (φ:oE->Prop)
abbrev Hp:=UQ->Option HO
def upd(H:Hp)(a:UQ)(o:HO):Hp:=λb=>if b=a then oZ o else H b
theorem bY:upd H a o a=oZ o:=by unfold upd;rw[oV rfl]
theorem aT(h:b≠a):upd H a o b=H b:=by unfold upd;rw[oW h]
theorem K3:upd (upd H a o) a u=upd H a u:=by
 funext b;unfold upd;split<;>rfl
theorem DW{H:Hp}(h:H a=oZ o)(h':H b=oZ u)(d:o≠u):a≠b:=by
 intro e;subst e;rw[h]at h';exact d (Option.some.inj h')
theorem aV{H:Hp}(h:H a=oZ o)(h':H b=none):a≠b:=by
 intro e;subst e;rw[h]at h';cases h'
section
variable(P:UU)(w:UY)
def dD(H:Hp)(h:oE)(a:UQ):HO->Prop
 |.lst xs=>xs.length<=UT/\∃(XD:List oA)(n:Nat),bA xs XD/\h.get? a=oZ { cls:=.type "list",data:=.seq XD.toArray n }
 |.tup xs=>xs.length<=UT/\∃XD:List oA,bA xs XD/\IsTup h a XD.toArray
 |.dK XN=>XN.length<=UT/\(a==VO)=false/\∃vs,KV XN vs/\h.DictOf (b9 P w) a vs
 |.dT XN=>XN.length<=UT/\(a==VO)=false/\∃xs:List (List Key×UQ×oA),
   Paired (λ(p:List Key×V)(q:List Key×UQ×oA)=>p.1=q.1/\H q.2.1=oZ (.tup (p.1.map kV))/\bM p.2 q.2.2) XN xs/\
   ∃o es ep,h.get? a=oZ o/\o.ExactDict/\o.data = .dict es ep/\es.toList=xs.map (entryOfKey (VT (b9 P w)))/\(xs.map (·.1)).Nodup
 |.set S n=>h.SetOf (intKind P w) a S n
 |.ins C dx fs=>H dx=oZ (.own a)/\fs.length<=1000/\dx≠a/\h.get? a=oZ (W.instObj C dx)/\
   ∃mA,h.Ns1 dx mA/\(∀f,Qn (fs.lookup f) (mA f))/\PySem.Within mA (fs.map (·.1))
 |.own _=>∃o,h.get? a=oZ o
 |.xd fs=>∃mA,h.Ns1 a mA/\∀f,Qn (fs.lookup f) (mA f)
 |.rng lo hi=>∃t u v,h.get? a=oZ { cls:=.type "range",data:=.fields #[.int lo t,.int hi u,.int 1 v] }
 |.frz o u=>h.get? a=oZ o/\dD H h a u
 |.tbl ps=>h.get? a=oZ { cls:=.none,data:=.fields ps }
 |.met f x=>h.get? a=oZ (W.methodObj (.ref f) (.ref x))
 |.ext φ=>φ h/\(∃o,h.get? a=oZ o)/\∀h1 h2:oE,φ h1->(∀o,h1.get? a=oZ o->h2.get? a=oZ o)->φ h2
def nJ(H:Hp)(h:oE):Prop:=∀a o,H a=oZ o->dD P w H h a o
end
theorem dD.lt(x:dD P w H h a o):a<h.objs.size:=by
 cases o with
 |lst xs=>obtain⟨_,_,_,_,e⟩:=x;exact MX e
 |tup xs=>obtain⟨_,_,_,p⟩:=x;exact p.lt
 |dK XN=>obtain⟨_,_,_,_,o,_,_,e,_⟩:=x;exact MX e
 |dT XN=>obtain⟨_,_,_,_,o,_,_,e,_⟩:=x;exact MX e
 |set S n=>obtain⟨o,_,_,_,e,_⟩:=x;exact MX e
 |ins C dx fs=>obtain⟨_,_,_,e,_⟩:=x;exact MX e
 |own y=>obtain⟨_,e⟩:=x;exact MX e
 |xd fs=>obtain⟨_,⟨_,_,_,e,_⟩,_⟩:=x;exact MX e
 |rng lo hi=>obtain⟨_,_,_,e⟩:=x;exact MX e
 |frz ob u=>obtain⟨e,_⟩:=x;exact MX e
 |tbl ps=>exact MX (show h.get? a=oZ _ from x)
 |met f y=>exact MX (show h.get? a=oZ _ from x)
 |ext φ=>obtain⟨_,⟨_,e⟩,_⟩:=x;exact MX e
theorem Paired.mapP{α β:Type}{F G:α->β->Prop}:∀{l₁:List α}{l₂:List β},Paired F l₁ l₂->(∀a b,F a b->G a b)->Paired G l₁ l₂
 |_,_,.nil,_=>.nil
 |_,_,.cons r t,f=>.cons (f _ _ r) (Paired.mapP t f)
theorem dD.stay(x:dD P w H h a o)(k:∀b u,(b=a\/H b=oZ (.own a))->h.get? b=oZ u->h'.get? b=oZ u)(ho:∀b,H b=oZ (.own a)->H' b=oZ (.own a))(ht:∀b xs,H b=oZ (.tup xs)->H' b=oZ (.tup xs)):dD P w H' h' a o:=by
 induction o with
 |lst xs=>obtain⟨z,XD,n,r,e⟩:=x;exact⟨z,XD,n,r,k _ _ (.inl rfl) e⟩
 |tup xs=>obtain⟨z,XD,r,ob,e,c⟩:=x;exact⟨z,XD,r,ob,k _ _ (.inl rfl) e,c⟩
 |dK XN=>obtain⟨z,y,vs,r,ob,es,ep,e,c⟩:=x;exact⟨z,y,vs,r,ob,es,ep,k _ _ (.inl rfl) e,c⟩
 |dT XN=>
  obtain⟨z,y,xs,r,ob,es,ep,e,c⟩:=x;exact⟨z,y,xs,Paired.mapP r λp q z=>⟨z.1,ht _ _ z.2.1,z.2.2⟩,ob,es,ep,k _ _ (.inl rfl) e,c⟩
 |set S n=>obtain⟨ob,es,ep,t,e,c⟩:=x;exact⟨ob,es,ep,t,k _ _ (.inl rfl) e,c⟩
 |ins C dx fs=>
  obtain⟨d,z,ne,e,mA,⟨od,es,ep,e2,c⟩,r⟩:=x;exact⟨ho _ d,z,ne,k _ _ (.inl rfl) e,mA,⟨od,es,ep,k _ _ (.inr d) e2,c⟩,r⟩
 |own y=>obtain⟨ob,e⟩:=x;exact⟨ob,k _ _ (.inl rfl) e⟩
 |xd fs=>obtain⟨mA,⟨od,es,ep,e,c⟩,r⟩:=x;exact⟨mA,⟨od,es,ep,k _ _ (.inl rfl) e,c⟩,r⟩
 |rng lo hi=>obtain⟨t,u,v,e⟩:=x;exact⟨t,u,v,k _ _ (.inl rfl) e⟩
 |frz ob u ih=>obtain⟨e,q⟩:=x;exact⟨k _ _ (.inl rfl) e,ih q⟩
 |tbl ps=>
  have e:h.get? a=oZ { cls:=.none,data:=.fields ps }:=x;show h'.get? a=oZ { cls:=.none,data:=.fields ps };exact k a _ (.inl rfl) e
 |met f y=>
  have e:h.get? a=oZ (W.methodObj (.ref f) (.ref y)):=x;show h'.get? a=oZ (W.methodObj (.ref f) (.ref y));exact k a _ (.inl rfl) e
 |ext φ=>obtain⟨p,⟨o,e⟩,st⟩:=x;exact⟨st _ _ p λo q=>k _ _ (.inl rfl) q,⟨o,k _ _ (.inl rfl) e⟩,st⟩
theorem nJ.lt(x:nJ P w H h)(e:H a=oZ o):a<h.objs.size:=(x a o e).lt
theorem nJ.fresh(x:nJ P w H h)(e:h.objs.size<=a):H a=none:=by
 cases q:H a with
 |none=>rfl
 |some u=>exact absurd (NC (x.lt q) e) (Nat.lt_irrefl _)
theorem nJ.kept(x:nJ P w H h)(k:∀b u,h.get? b=oZ u->h'.get? b=oZ u):nJ P w H h':=λa o e=>
 (x a o e).stay (λb u _ q=>k b u q) (λ_ q=>q) λ_ _ q=>q
theorem nJ.laid(x:nJ P w H h)(k:∀b u,h.get? b=oZ u->h'.get? b=oZ u)(hp:h.objs.size<=a)(new:dD P w (upd H a o) h' a o):nJ P w (upd H a o) h':=λb u e=>by
 have hn:=x.fresh hp
 by_cases hb:b=a
 ·subst hb;rw[bY]at e;cases e;exact new
 ·rw[aT hb]at e;exact(x b u e).stay (λc v _ q=>k c v q) (λc q=>by rw[aT (aV q hn)];exact q) λc xs q=>by rw[aT (aV q hn)];exact q
def Rd(H:Hp)(a:UQ)(u:HO):Prop:=H a=oZ u\/∃o,H a=oZ (.frz o u)
theorem Rd.ok(r:Rd H a u)(x:nJ P w H h):dD P w H h a u:=by
 obtain r|⟨o,r⟩:=r
 ·exact x a u r
 ·obtain⟨_,q⟩:=x a _ r;exact q
def BV:Option HO->Prop
 |some (.lst _)=>True
 |some (.dK _)=>True
 |some (.dT _)=>True
 |some (.set _ _)=>True
 |some (.ins _ _ _)=>True
 |some (.ext _)=>True
 |_=>False
theorem nJ.write(ok:nJ P w H h)(mu:BV (H x))(he:e=x\/H e=oZ (.own x))(k:∀b u,b≠e->h.get? b=oZ u->h'.get? b=oZ u)(uc:∃u,h'.get? e=oZ u)(new:dD P w (upd H x o') h' x o'):nJ P w (upd H x o') h':=λb u q=>by
 have uz:∀c y,H c=oZ (.own y)->c≠x:=λc y r z=>by subst z;rw[r]at mu;exact mu
 have aAB:∀c xs,H c=oZ (.tup xs)->c≠x:=λc xs r z=>by subst z;rw[r]at mu;exact mu
 by_cases hb:b=x
 ·subst hb;rw[bY]at q;cases q;exact new
 ·rw[aT hb]at q
  by_cases fo:b=e
  ·have q':H b=oZ (.own x):=by
    obtain z|z:=he
    ·exact absurd (fo.trans z) hb
    ·rw[fo];exact z
   rw[q]at q';cases q';obtain⟨v,hv⟩:=uc;exact⟨v,by rw[fo];exact hv⟩
  ·refine(ok b u q).stay (λc v hc r=>k c v ?_ r) (λc r=>by rw[aT (uz c b r)];exact r) λc xs r=>by rw[aT (aAB c xs r)];exact r
   obtain rfl|hc:=hc
   ·exact fo
   ·rintro rfl;obtain z|z:=he
    ·exact uz c b hc z
    ·rw[hc]at z;cases z;exact hb rfl
structure Un(fs ex:List UQ)(H H':Hp)(h h':oE):Prop where
 keep:∀b o,h.get? b=oZ o->H b=none->b∉fs->b∉ex->h'.get? b=oZ o
 slot:∀b o,h.get? b=oZ o->H b=none->b∈fs->b∉ex->∃sl,h'.get? b=oZ { o with slots:=sl }
 free:∀b o,h.get? b=oZ o->H b=none->b∉ex->H' b=none
 there:∀b o,h.get? b=oZ o->b∉ex->∃o',h'.get? b=oZ o'
 tups:∀b xs,H b=oZ (.tup xs)->H' b=oZ (.tup xs)
 frzs:∀b o u,H b=oZ (.frz o u)->H' b=oZ (.frz o u)
 tbls:∀b ps,H b=oZ (.tbl ps)->∃more,H' b=oZ (.tbl (ps++more))
theorem Un.any(u:Un fs ex H H1 h h1)(q:h.get? b=oZ ob)(n:H b=none)(hx:b∉ex):∃sl,h1.get? b=oZ { ob with slots:=sl }:=by
 by_cases hb:b∈fs
 ·exact u.slot b ob q n hb hx
 ·exact⟨ob.slots,u.keep b ob q n hb hx⟩
theorem Un.kept(k:∀b u,h.get? b=oZ u->h'.get? b=oZ u):Un fs ex H H h h':=
 ⟨λb ob q _ _ _=>k b ob q,λb ob q _ _ _=>⟨ob.slots,k b ob q⟩,λ_ _ _ n _=>n,λb ob q _=>⟨ob,k b ob q⟩,λ_ _ q=>q,λ_ _ _ q=>q,λ_ ps q=>⟨#[],by rw[q];simp⟩⟩
theorem Un.refl:Un fs ex H H h h:=Un.kept λ_ _ q=>q
theorem Un.laid{fs:List UQ}{ex:List UQ}{H:Hp}{h:oE}{h':oE}{a:UQ}{o:HO}(k:∀b u,h.get? b=oZ u->h'.get? b=oZ u)(hp:h.objs.size<=a)(hn:H a=none):Un fs ex H (upd H a o) h h' where
 keep:=λb u q _ _ _=>k b u q
 slot:=λb u q _ _ _=>⟨u.slots,k b u q⟩
 free:=λb u q n _=>by rw[aT (NQ (NC (MX q) hp))];exact n
 there:=λb u q _=>⟨u,k b u q⟩
 tups:=λb xs q=>by rw[aT (aV q hn)];exact q
 frzs:=λb u xs q=>by rw[aT (aV q hn)];exact q
 tbls:=λb ps q=>⟨#[],by rw[aT (aV q hn),q];simp⟩
theorem Un.write(mu:BV (H x))(he:e=x\/H e=oZ (.own x))(k:∀b u,b≠e->h.get? b=oZ u->h'.get? b=oZ u)(uc:∃u,h'.get? e=oZ u):Un fs ex H (upd H x o) h h':=by
 have hx:∀b,H b=none->b≠x:=λb n z=>by subst z;rw[n]at mu;exact mu
 have hb:∀b,H b=none->b≠e:=λb n z=>by
  subst z;obtain r|r:=he
  ·exact hx b n r
  ·rw[n]at r;cases r
 have hm:∀b u,H b=oZ u->¬BV (oZ u)->b≠x:=λb u q nm z=>by subst z;rw[q]at mu;exact nm mu
 refine⟨λb u q n _ _=>k b u (hb b n) q,λb u q n _ _=>⟨u.slots,k b u (hb b n) q⟩,λb u q n _=>by rw[aT (hx b n)];exact n,λb u q _=>?_,
  λb xs q=>by rw[aT (hm b _ q λz=>z)];exact q,λb u xs q=>by rw[aT (hm b _ q λz=>z)];exact q,λb ps q=>⟨#[],by rw[aT (hm b _ q λz=>z),q];simp⟩⟩
 by_cases fo:b=e
 ·subst fo;exact uc
 ·exact⟨u,k b u fo q⟩
def HM(h:oE)(H:Hp):List UQ:=(OG h.objs.size).filter λa=>(H a).isSome
def zE(h:oE)(H:Hp):oE:=W.hideAll h (HM h H)
theorem Og(h:oE)(H:Hp):(zE h H).objs.size=h.objs.size:=W.hideAll_size _ _
theorem Ta(e:h.get? b=oZ o)(n:H b=none):(zE h H).get? b=oZ o:=
 W.hideAll_get _ e λhm=>by
  have q:(H b).isSome=true:=(NI.mp hm).2;rw[n]at q;simp at q
theorem Zo(e:(zE h H).get? b=oZ o):h.get? b=oZ o/\H b=none:=by
 have e':h.get? b=oZ o:=W.of_hideAll (HM h H) e;refine⟨e',?_⟩;cases q:H b with
 |none=>rfl
 |some x=>
  have hm:b∈HM h H:=NI.mpr ⟨OO.mpr (MX e'),by simp[q]⟩;have z:(zE h H).get? b=none:=W.hideAll_none (HM h H) hm;rw[z]at e;cases e
structure Mod(K:W.Frag)(mg:Str->Option oA)(base:oE):Prop where
 kin:K.In base
 glob:base.Ns UX mg
 blt:∃mb,base.Ns builtinsNs mb/\∀x:Str,x≠"__name__"->mb x=VU x
 nolimit:base.NoLimit
structure Cx where
 prog:UU
 w:UY
 K:W.Frag
 mg:Str->Option oA
 base:oE
 A:oD
 N:List Str
 s₀:oB
 H₀:Hp
 env:Env
 outer:List Env
 stack:List Env
 ex:List UQ
 fn:Str->Bool
 calm:Bool
 pn:List (UQ×Obj)
 xe:oA->oB->Prop
def Ke(l:List Env):List UQ:=l.filterMap (·.frame)
abbrev Cx.fs(X:Cx):List UQ:=Ke X.outer
def R7(sc:WJ)(x:Str):Prop:=sc.names.lookup x=oZ .local\/sc.names.lookup x=oZ .cell\/sc.names.lookup x=oZ .free
def yK(sc:WJ)(x:Str):Prop:=sc.names.lookup x=oZ .local\/sc.names.lookup x=oZ .cell
def HR(env:Env)(h:oE)(m:Str->Option oA)(x:Str)(u:oA):Prop:=
 (env.kindOf x=oZ .local/\m x=oZ u)\/((env.kindOf x=oZ .cell\/env.kindOf x=oZ .free)/\∃c,env.cells.lookup x=oZ c/\h.IsCell c (oZ u))
structure Cx.Ok(X:Cx):Prop where
 mod:Mod X.K X.mg X.base
 kind:X.env.scope.kind = .function
 glob:X.env.globals=UX
 blt:X.env.builtins=builtinsNs
 above:X.s₀.heap.objs.size<=X.env.locals
 inj:∀x y c,X.env.cells.lookup x=oZ c->X.env.cells.lookup y=oZ c->x=y
 has:∀x,(X.env.kindOf x=oZ .cell\/X.env.kindOf x=oZ .free)->∃c,X.env.cells.lookup x=oZ c
 cab:∀x c,X.fn x=true->X.env.cells.lookup x=oZ c->X.s₀.heap.objs.size<=c
 hd:X.calm=true->X.A.handled=none
 frames:X.A.frames=oZ X.stack
 stk:X.stack=X.outer\/(X.stack=X.env::X.outer/\X.env.frame=oZ X.env.locals)
 exf:∀b∈X.ex,b≠X.env.locals/\∀x c,X.env.cells.lookup x=oZ c->c≠b
 bs:∀b o,X.base.get? b=oZ o->X.s₀.heap.get? b=oZ o/\X.H₀ b=none
 bsz:X.base.objs.size<=X.s₀.heap.objs.size
 noex:∀b o,X.base.get? b=oZ o->b∉X.ex
 exfs:∀b∈X.ex,b∉X.fs
 funs:X.s₀.heap.FunFrames X.base X.outer
 frf:∀b∈X.fs,X.H₀ b=none
structure aS(X:Cx)(pins:List (UQ×Obj))(σ:List (Option V))(H:Hp)(s:oB):Prop where
 ok:X.Ok
 os:s.os=X.s₀.os
 bare:WN s.gens
 base:Un X.fs X.ex X.H₀ H X.s₀.heap s.heap
 loc:∃m,s.heap.Ns X.env.locals m/\∀(i:Nat)(x:Str)(v:V),X.N[i]?=oZ x->σ[i]?=oZ (oZ v)->R7 X.env.scope x->∃u,bM v u/\HR X.env s.heap m x u
 cell:∀x c,X.env.cells.lookup x=oZ c->∃v,s.heap.IsCell c v
 free:H X.env.locals=none
 freeC:∀x c,X.env.cells.lookup x=oZ c->H c=none
 pin:∀p∈X.pn++pins,s.heap.get? p.1=oZ p.2/\H p.1=none/\p.1≠X.env.locals/\p.1∉X.fs/\∀v,p.2.data≠.cell v
 hok:nJ X.prog X.w H s.heap
 len:σ.length=X.N.length
theorem Cx.Ok.nofr{X:Cx}(ok:X.Ok)(e:X.base.get? b=oZ o):b∉X.fs:=λhb=>by
 have:=(ok.funs.mem hb).1;rw[e]at this;cases this
theorem aS.bs(I:aS X pins σ H s):∀b o,X.base.get? b=oZ o->s.heap.get? b=oZ o/\H b=none:=λb o e=>
 ⟨I.base.keep b o (I.ok.bs b o e).1 (I.ok.bs b o e).2 (I.ok.nofr e) (I.ok.noex b o e),I.base.free b o (I.ok.bs b o e).1 (I.ok.bs b o e).2 (I.ok.noex b o e)⟩
theorem aS.bk(I:aS X pins σ H s):∀b o,X.base.get? b=oZ o->s.heap.get? b=oZ o:=λb o e=>(I.bs b o e).1
theorem aS.mod(I:aS X pins σ H s):Mod X.K X.mg X.base:=I.ok.mod
theorem aS.kIn(I:aS X pins σ H s):X.K.In s.heap:=I.ok.mod.kin.keeps I.bk
theorem aS.lt(I:aS X pins σ H s):X.env.locals<s.heap.objs.size:=let⟨_,hn,_⟩:=I.loc;hn.lt
theorem aS.sz(I:aS X pins σ H s):X.s₀.heap.objs.size<=s.heap.objs.size:=OH I.ok.above (OA I.lt)
theorem aS.nofs(I:aS X pins σ H s)(h:s.heap.objs.size<=a):a∉X.fs:=λhb=>by
 obtain⟨_,o,ho,_⟩:=I.ok.funs.mem hb;exact absurd (NC (MX ho) (OH I.sz h)) (Nat.lt_irrefl _)
theorem aS.cne(I:aS X pins σ H s):∀x c,X.env.cells.lookup x=oZ c->c≠X.env.locals:=λx c e z=>by
 obtain⟨v,o,ho,hd⟩:=I.cell x c e;obtain⟨m,⟨o',es,ep,ak,vf,_⟩,_⟩:=I.loc;rw[z,ak]at ho;cases ho;rw[vf]at hd;cases hd
theorem aS.funs(I:aS X pins σ H s):s.heap.FunFrames X.base X.outer:=by
 have all:∀(l:List Env),(∀b∈Ke l,b∈X.fs)->X.s₀.heap.FunFrames X.base l->s.heap.FunFrames X.base l:=by
  intro l
  induction l with
  |nil=>intro _ _;trivial
  |cons env r ih=>
   intro hs hl;obtain⟨hk,⟨L,o,hf,hn,ho,hd⟩,hr⟩:=hl;have hL:L∈X.fs:=hs L (by unfold Ke;rw[RI,hf];exact OV);obtain⟨sl,e⟩:=I.base.slot L o ho (I.ok.frf L hL) hL λz=>I.ok.exfs L z hL;exact⟨hk,⟨L,_,hf,hn,e,hd⟩,ih (λb hb=>hs b (by unfold Ke;rw[RI,hf];exact NF _ hb)) hr⟩
 exact all X.outer (λ_ hb=>hb) I.ok.funs
theorem aS.stack(I:aS X pins σ H s):s.heap.FunFrames X.base X.stack:=by
 obtain e|⟨e,hf⟩:=I.ok.stk
 ·rw[e];exact I.funs
 ·rw[e];obtain⟨m,hn,_⟩:=I.loc;refine .cons (by rw[I.ok.kind];decide) hf hn ?_ I.funs;exact Heap.get?_none_of_le (OH I.ok.bsz I.ok.above)
theorem aS.stkSub(I:aS X pins σ H s):∀b∈Ke X.stack,b∈X.env.locals::X.fs:=λb hb=>by
 obtain e|⟨e,hf⟩:=I.ok.stk
 ·rw[e]at hb;exact NF _ hb
 ·rw[e]at hb;unfold Ke at hb;rw[RI,hf]at hb;exact hb
theorem aS.stkFree(I:aS X pins σ H s):∀b∈Ke X.stack,H b=none:=λb hb=>by
 obtain e|hb:=MJ.mp (I.stkSub b hb)
 ·rw[e];exact I.free
 ·obtain⟨_,o,ho,_⟩:=I.ok.funs.mem hb;exact I.base.free b o ho (I.ok.frf b hb) λz=>I.ok.exfs b z hb
theorem aS.step{X:Cx}{pins:List (UQ×Obj)}{σ:List (Option V)}{H:Hp}{H':Hp}{s:oB}{h':oE}{g':Array GenState}{t':Nat}{ch:List UQ}(I:aS X pins σ H s)(jm:∀b∈ch,(b∈X.ex\/X.s₀.heap.objs.size<=b)/\b≠X.env.locals/\(∀x c,X.env.cells.lookup x=oZ c->c≠b)/\∀p∈X.pn++pins,p.1≠b)(keep:∀b o,b≠X.env.locals->b∉X.fs->b∉ch->s.heap.get? b=oZ o->H b=none->h'.get? b=oZ o)(slot:∀b o,b≠X.env.locals->b∈X.fs->b∉ch->s.heap.get? b=oZ o->H b=none->∃sl,h'.get? b=oZ { o with slots:=sl })(free:∀b o,b∉ch->s.heap.get? b=oZ o->H b=none->H' b=none)(there:∀b o,b∉ch->s.heap.get? b=oZ o->∃o',h'.get? b=oZ o')(tups:∀b xs,H b=oZ (.tup xs)->H' b=oZ (.tup xs))(frzs:∀b o u,H b=oZ (.frz o u)->H' b=oZ (.frz o u))(tbls:∀b ps,H b=oZ (.tbl ps)->∃more,H' b=oZ (.tbl (ps++more)))(ns:∀m,s.heap.Ns X.env.locals m->h'.Ns X.env.locals m)(hok:nJ X.prog X.w H' h')(hg:WN g'):
  aS X pins σ H' { s with heap:=h',gens:=g',drawn:=d',toks:=t' }:=by
 have neL:∀b o,X.s₀.heap.get? b=oZ o->b≠X.env.locals:=λb o e=>NQ (NC (MX e) I.ok.above);have lr:∀b o,X.s₀.heap.get? b=oZ o->b∉X.ex->b∉ch:=λb o e hx hb=>by
  rcases(jm b hb).1 with z|z
  ·exact hx z
  ·exact absurd (NC (MX e) z) (Nat.lt_irrefl _)
 have cellK:∀x c,X.env.cells.lookup x=oZ c->∀v,s.heap.IsCell c v->h'.IsCell c v:=λx c e v zZ=>by
  obtain⟨o,ho,hd⟩:=zZ;have vg:c∉ch:=λz=>(jm c z).2.2.1 x c e rfl
  by_cases hc:c∈X.fs
  ·obtain⟨sl,q⟩:=slot c o (I.cne x c e) hc vg ho (I.freeC x c e);exact⟨_,q,hd⟩
  ·exact⟨o,keep c o (I.cne x c e) hc vg ho (I.freeC x c e),hd⟩
 refine⟨I.ok,I.os,hg,⟨λb o e n hb hx=>?_,λb o e n hb hx=>?_,λb o e n hx=>?_,λb o e hx=>?_,λb xs e=>tups b xs (I.base.tups b xs e),λb o xs e=>frzs b o xs (I.base.frzs b o xs e),λb ps e=>?_⟩,?_,λx c e=>?_,?_,λx c e=>?_,λp hp=>?_,hok,I.len⟩
 ·exact keep b o (neL b o e) hb (lr b o e hx) (I.base.keep b o e n hb hx) (I.base.free b o e n hx)
 ·obtain⟨sl,e1⟩:=I.base.slot b o e n hb hx;obtain⟨sl',e2⟩:=slot b _ (neL b o e) hb (lr b o e hx) e1 (I.base.free b o e n hx);exact⟨sl',e2⟩
 ·obtain⟨o',e1⟩:=I.base.there b o e hx;exact free b o' (lr b o e hx) e1 (I.base.free b o e n hx)
 ·obtain⟨o',e1⟩:=I.base.there b o e hx;exact there b o' (lr b o e hx) e1
 ·obtain⟨m1,e1⟩:=I.base.tbls b ps e;obtain⟨m2,e2⟩:=tbls b _ e1;exact⟨m1++m2,by rw[e2,Array.append_assoc]⟩
 ·obtain⟨m,hn,hl⟩:=I.loc;refine⟨m,ns m hn,λi x v e1 e2 e3=>?_⟩;obtain⟨u,r,l⟩:=hl i x v e1 e2 e3;refine⟨u,r,?_⟩;obtain l|⟨k,c,e,z⟩:=l
  ·exact .inl l
  ·exact .inr ⟨k,c,e,cellK x c e _ z⟩
 ·obtain⟨v,z⟩:=I.cell x c e;exact⟨v,cellK x c e v z⟩
 ·obtain⟨m,⟨o,_,_,ho,_⟩,_⟩:=I.loc;exact free _ o (λz=>(jm _ z).2.1 rfl) ho I.free
 ·obtain⟨v,o,ho,hd⟩:=I.cell x c e;exact free c o (λz=>(jm c z).2.2.1 x c e rfl) ho (I.freeC x c e)
 ·obtain⟨e,n,ne,nf,d⟩:=I.pin p hp;have vg:p.1∉ch:=λz=>(jm p.1 z).2.2.2 p hp rfl;exact⟨keep p.1 p.2 ne nf vg e n,free p.1 p.2 vg e n,ne,nf,d⟩
theorem aS.un(I:aS X pins σ H s)(u:Un X.fs [] H H' s.heap h')(hok:nJ X.prog X.w H' h'):aS X pins σ H' { s with heap:=h',toks:=t' }:=by
 obtain⟨m,⟨o,es,ep,ho,r⟩,_⟩:=id I.loc;obtain⟨sl,hL⟩:=u.any ho I.free (by simp);exact I.step (g':=s.gens) (d':=s.drawn) (ch:=[]) (λ_ z=>nomatch z) (λb o _ hb _ e n=>u.keep b o e n hb (by simp)) (λb o _ hb _ e n=>u.slot b o e n hb (by simp)) (λb o _ e n=>u.free b o e n (by simp)) (λb o _ e=>u.there b o e (by simp)) u.tups u.frzs u.tbls (λm' hm=>by
  obtain⟨o',ck,vh,ak,r'⟩:=hm;rw[ho]at ak;cases ak;exact⟨_,ck,vh,hL,r'⟩) hok I.bare
theorem aS.call(I:aS X pins σ H s)(u:Un (Ke X.stack) ch H H' s.heap h')(hok:nJ X.prog X.w H' h')(hg:WN g')(jm:∀b∈ch,(b∈X.ex\/X.s₀.heap.objs.size<=b)/\b≠X.env.locals/\(∀x c,X.env.cells.lookup x=oZ c->c≠b)/\∀p∈X.pn++pins,p.1≠b):
  aS X pins σ H' { s with heap:=h',gens:=g',drawn:=d',toks:=t' }:=by
 obtain⟨m,⟨o,es,ep,ho,r⟩,_⟩:=id I.loc;obtain⟨sl,hL⟩:=u.any ho I.free λz=>(jm _ z).2.1 rfl;exact I.step (ch:=ch) jm (λb o hL hb hc e n=>u.keep b o e n (λz=>(MJ.mp (I.stkSub b z)).elim hL hb) hc) (λb o _ _ hc e n=>u.any e n hc) (λb o hc e n=>u.free b o e n hc) (λb o hc e=>u.there b o e hc) u.tups u.frzs u.tbls (λm' hm=>by
  obtain⟨o',ck,vh,ak,r'⟩:=hm;rw[ho]at ak;cases ak;exact⟨_,ck,vh,hL,r'⟩) hok hg
theorem aS.turned(I:aS X pins σ H s)(k:∀b o,b≠it->s.heap.get? b=oZ o->h'.get? b=oZ o)(hn:H it=none)(hL:it≠X.env.locals)(h1:it∈X.ex\/X.s₀.heap.objs.size<=it)(h2:∀x c,X.env.cells.lookup x=oZ c->c≠it)(h3:∀p∈X.pn++pins,p.1≠it):aS X pins σ H { s with heap:=h',toks:=t' }:=by
 have lx:∀b u,H b=oZ u->b≠it:=λb u e z=>by rw[z,hn]at e;cases e
 refine I.step (g':=s.gens) (d':=s.drawn) (ch:=[it]) (λb hb=>?_) (λb o _ _ hc e _=>k b o (λz=>hc (by simp[z])) e) (λb o _ _ hc e _=>⟨o.slots,k b o (λz=>hc (by simp[z])) e⟩) (λ_ _ _ _ n=>n)
  (λb o hc e=>⟨o,k b o (λz=>hc (by simp[z])) e⟩) (λ_ _ e=>e) (λ_ _ _ e=>e) (λb ps e=>⟨#[],by rw[e];simp⟩) (λm hm=>?_) (λb u e=>?_) I.bare
 ·have e:b=it:=by simpa using hb
  subst e;exact⟨h1,hL,h2,h3⟩
 ·obtain⟨o,es,ep,ho,r⟩:=hm;exact⟨o,es,ep,k _ o (Ne.symm hL) ho,r⟩
 ·refine(I.hok b u e).stay (λc v hc q=>k c v ?_ q) (λ_ q=>q) λ_ _ q=>q;obtain z|z:=hc
  ·rw[z];exact lx b u e
  ·exact lx c _ z
theorem aS.tok(I:aS X pins σ H s)(t:Nat):aS X pins σ H { s with toks:=t }:=I.un (h':=s.heap) (t':=t) Un.refl I.hok
theorem aS.kept(I:aS X pins σ H s)(k:∀b u,s.heap.get? b=oZ u->h'.get? b=oZ u):aS X pins σ H { s with heap:=h',toks:=t' }:=I.un (Un.kept k) (I.hok.kept k)
theorem aS.laid(I:aS X pins σ H s)(k:∀b u,s.heap.get? b=oZ u->h'.get? b=oZ u)(hp:s.heap.objs.size<=a)(new:dD X.prog X.w (upd H a o) h' a o):
  aS X pins σ (upd H a o) { s with heap:=h',toks:=t' }:=I.un (Un.laid k hp (I.hok.fresh hp)) (I.hok.laid k hp new)
theorem aS.write(I:aS X pins σ H s)(mu:BV (H x))(he:e=x\/H e=oZ (.own x))(k:∀b u,b≠e->s.heap.get? b=oZ u->h'.get? b=oZ u)(uc:∃u,h'.get? e=oZ u)(new:dD X.prog X.w (upd H x o) h' x o):aS X pins σ (upd H x o) { s with heap:=h',toks:=t' }:=I.un (Un.write mu he k uc) (I.hok.write mu he k uc new)
theorem aS.pins_of(I:aS X pins σ H s)(h:∀p∈pins',s.heap.get? p.1=oZ p.2/\H p.1=none/\p.1≠X.env.locals/\p.1∉X.fs/\∀v,p.2.data≠.cell v):aS X pins' σ H s:=
 ⟨I.ok,I.os,I.bare,I.base,I.loc,I.cell,I.free,I.freeC,λp hp=>(NB.mp hp).elim (λz=>I.pin p (NJ _ z)) (h p),I.hok,I.len⟩
theorem Cq{N:List Str}(hN:N.Nodup){i j:Nat}{x:Str}(a:N[i]?=oZ x)(b:N[j]?=oZ x):i=j:=by
 obtain⟨h1,e1⟩:=MK.mp a;obtain⟨h2,e2⟩:=MK.mp b;exact(List.getElem_inj hN).mp (e1.trans e2.symm)
theorem yB{E:oA->oB->Prop}{Q:Unit->oB->Prop}(I:aS X pins σ H s)(hN:X.N.Nodup)(hi:X.N[i]?=oZ x)(hx:yK X.env.scope x)(r:bM v u)(h:∀s',aS X pins (σ.set i (oZ v)) H s'->(∃a,PN a s.heap s'.heap/\(a=X.env.locals\/X.env.cells.lookup x=oZ a))->Q () s')(hf:X.fn x=true\/X.env.scope.names.lookup x=oZ .local:=by first|exact .inl rfl|exact .inr rfl|assumption):US M A (storeName X.env x u) Q E s:=by
 obtain⟨m,hn,hl⟩:=id I.loc;have aAC:(X.env.scope.kind==.class||(X.env.scope.kind==.module&&X.env.locals != X.env.globals))=false:=by rw[I.ok.kind];rfl
 have hiσ:i<σ.length:=by rw[I.len];exact(MK.mp hi).1
 have cne:=I.cne;have tracked:∀{a:UQ}{h':oE},(∃o,s.heap.get? a=oZ o/\H a=none)->PN a s.heap h'->nJ X.prog X.w H h':=λ{a h'}ha hs b ob e=>by
  obtain⟨_,_,mj⟩:=ha;refine(I.hok b ob e).stay (λc w' hc q=>(hs.2 c ?_).trans q) (λ_ q=>q) λ_ _ q=>q;rintro rfl;obtain rfl|hc:=hc
  ·rw[mj]at e;cases e
  ·rw[mj]at hc;cases hc
 obtain hk|hk:=hx
 ·refine wpAny_storeName_local hk hn (λh' pj hs=>?_) aAC;obtain⟨oL,_,_,hoL,_⟩:=id hn;refine h _ ⟨I.ok,I.os,I.bare,⟨λb o e n hb hx=>?_,λb o e n hb hx=>?_,I.base.free,λb o e hx=>?_,I.base.tups,I.base.frzs,I.base.tbls⟩,⟨_,pj,λj y v' e1 e2 e3=>?_⟩,λy c e=>?_,I.free,I.freeC,λp hp=>?_,tracked ⟨oL,hoL,I.free⟩ hs,by simpa using I.len⟩ ⟨_,hs,.inl rfl⟩
  ·exact(hs.2 b (NQ (NC (MX e) I.ok.above))).trans (I.base.keep b o e n hb hx)
  ·obtain⟨sl,e1⟩:=I.base.slot b o e n hb hx;exact⟨sl,(hs.2 b (NQ (NC (MX e) I.ok.above))).trans e1⟩
  ·obtain⟨o',e1⟩:=I.base.there b o e hx;exact⟨o',(hs.2 b (NQ (NC (MX e) I.ok.above))).trans e1⟩
  ·by_cases hj:j=i
   ·subst hj;rw[hi]at e1;cases e1;rw[NR hiσ]at e2;cases e2;exact⟨u,r,.inl ⟨hk,by simp⟩⟩
   ·rw[ND (Ne.symm hj)]at e2;obtain⟨u',r',q⟩:=hl j y v' e1 e2 e3;refine⟨u',r',?_⟩;obtain⟨k,e⟩|⟨k,c,e,z⟩:=q
    ·refine .inl ⟨k,?_⟩;have:y≠x:=λe=>hj (Cq hN e1 (e ▸ hi));simp[this,e]
    ·exact .inr ⟨k,c,e,z.sameBut hs (cne y c e)⟩
  ·obtain⟨w',z⟩:=I.cell y c e;exact⟨w',z.sameBut hs (cne y c e)⟩
  ·obtain⟨e,n,ne,nf,d⟩:=I.pin p hp;exact⟨(hs.2 p.1 ne).trans e,n,ne,nf,d⟩
 ·have pw:X.fn x=true:=by
   obtain z|z:=hf
   ·exact z
   ·rw[z]at hk;cases hk
  obtain⟨c,hc⟩:=I.ok.has x (.inl hk);obtain⟨w',z⟩:=I.cell x c hc;refine wpAny_storeName_cell I.ok.kind hk hc z (λh' ay hs=>?_);obtain⟨oc,hoc,aAD⟩:=id z;refine h { s with heap:=h' } ⟨I.ok,I.os,I.bare,⟨λb o e n hb hx=>?_,λb o e n hb hx=>?_,I.base.free,λb o e hx=>?_,I.base.tups,I.base.frzs,I.base.tbls⟩,⟨m,hn.sameBut hs (Ne.symm (cne x c hc)),λj y v' e1 e2 e3=>?_⟩,λy c' e=>?_,I.free,I.freeC,λp hp=>?_,tracked ⟨oc,hoc,I.freeC x c hc⟩ hs,by simpa using I.len⟩ ⟨c,hs,.inr hc⟩
  ·exact(hs.2 b (NQ (NC (MX e) (I.ok.cab x c pw hc)))).trans (I.base.keep b o e n hb hx)
  ·obtain⟨sl,e1⟩:=I.base.slot b o e n hb hx;exact⟨sl,(hs.2 b (NQ (NC (MX e) (I.ok.cab x c pw hc)))).trans e1⟩
  ·obtain⟨o',e1⟩:=I.base.there b o e hx;exact⟨o',(hs.2 b (NQ (NC (MX e) (I.ok.cab x c pw hc)))).trans e1⟩
  ·by_cases hj:j=i
   ·subst hj;rw[hi]at e1;cases e1;rw[NR hiσ]at e2;cases e2;exact⟨u,r,.inr ⟨.inl hk,c,hc,ay⟩⟩
   ·rw[ND (Ne.symm hj)]at e2;obtain⟨u',r',q⟩:=hl j y v' e1 e2 e3;refine⟨u',r',?_⟩;obtain q|⟨k,c',e,z'⟩:=q
    ·exact .inl q
    ·refine .inr ⟨k,c',e,z'.sameBut hs ?_⟩;rintro rfl;exact hj (Cq hN e1 (I.ok.inj _ _ _ e hc ▸ hi))
  ·by_cases hcc:c'=c
   ·subst hcc;exact⟨_,ay⟩
   ·obtain⟨w2,z2⟩:=I.cell y c' e;exact⟨w2,z2.sameBut hs hcc⟩
  ·obtain⟨e,n,ne,nf,d⟩:=I.pin p hp;refine⟨(hs.2 p.1 ?_).trans e,n,ne,nf,d⟩;intro q;rw[q,hoc]at e;have q':oc=p.2:=Option.some.inj e;exact d w' (by rw[<-q'];exact aAD)
theorem jG{E:oA->oB->Prop}{Q:Unit->oB->Prop}(I:aS X pins σ H s)(hN:X.N.Nodup)(hi:X.N[i]?=oZ x)(hx:yK X.env.scope x)(r:bM v u)(h:∀s',aS X pins (σ.set i (oZ v)) H s'->Q () s')(hf:X.fn x=true\/X.env.scope.names.lookup x=oZ .local:=by first|exact .inl rfl|exact .inr rfl|assumption):US M A (storeName X.env x u) Q E s:=
 yB I hN hi hx r (λs' I' _=>h s' I') hf
theorem aS.call'(I:aS X pins σ H s)(ho:s'.os=s.os)(u:Un (Ke X.stack) ch H H' s.heap s'.heap)(hok:nJ X.prog X.w H' s'.heap)(hg:WN s'.gens)(jm:∀b∈ch,(b∈X.ex\/X.s₀.heap.objs.size<=b)/\b≠X.env.locals/\(∀x c,X.env.cells.lookup x=oZ c->c≠b)/\∀p∈X.pn++pins,p.1≠b):aS X pins σ H' s':=by
 obtain⟨h',g',d',t',o'⟩:=s';have e:o'=s.os:=ho;subst e;exact I.call (g':=g') (t':=t') (d':=d') u hok hg jm
abbrev XK:=oA->Option UQ->Hp->Prop
abbrev St:=List (Option V)
abbrev VK:=V->Hp->Prop
abbrev TE:=St->Hp->VK->Prop
abbrev TT:=St->Hp->(Bool->Hp->Prop)->Prop
abbrev TA:=St->Hp->(List V->Hp->Prop)->Prop
structure mV where
 nx:St->Hp->Prop
 rt:VK
 bk:St->Hp->Prop:=λ_ _=>False
 ct:St->Hp->Prop:=λ_ _=>False
abbrev TS:=mV->St->Hp->Prop
def EP(X:Cx)(pins:List (UQ×Obj))(σ:St)(Q:VK)(u:oA)(s':oB):Prop:=∃v H',aS X pins σ H' s'/\bM v u/\Q v H'
def TP(X:Cx)(pins:List (UQ×Obj))(σ:St)(Q:Bool->Hp->Prop)(b:Bool)(s':oB):Prop:=∃H',aS X pins σ H' s'/\Q b H'
def AP(X:Cx)(pins:List (UQ×Obj))(σ:St)(Q:List V->Hp->Prop)(us:List oA)(s':oB):Prop:=∃vs H',aS X pins σ H' s'/\bA vs us/\Q vs H'
def SP(X:Cx)(pins:List (UQ×Obj))(D:mV)(f:Flow)(s':oB):Prop:=
 match f with
 |.next=>∃σ' H',aS X pins σ' H' s'/\D.nx σ' H'
 |.brk=>∃σ' H',aS X pins σ' H' s'/\D.bk σ' H'
 |.cont=>∃σ' H',aS X pins σ' H' s'/\D.ct σ' H'
 |.ret u=>∃v σ' H',aS X pins σ' H' s'/\bM v u/\D.rt v H'
def PE(X:Cx)(e:oC)(t:TE):Prop:=
 ∀(pins:List (UQ×Obj))(s:oB)(σ:St)(H:Hp)(Q:VK),aS X pins σ H s->t σ H Q->US (UW X.prog X.w) X.A (VF e X.env) (EP X pins σ Q) X.xe s
def PT(X:Cx)(e:oC)(t:TT):Prop:=
 ∀(pins:List (UQ×Obj))(s:oB)(σ:St)(H:Hp)(Q:Bool->Hp->Prop),aS X pins σ H s->t σ H Q->US (UW X.prog X.w) X.A (isTrue e X.env (VF e X.env)) (TP X pins σ Q) X.xe s
def PW(X:Cx)(e:oC)(t:TT):Prop:=
 ∀(whole:Sem oA)(pins:List (UQ×Obj))(s:oB)(σ:St)(H:Hp)(Q:Bool->Hp->Prop),aS X pins σ H s->t σ H Q->US (UW X.prog X.w) X.A (isTrue e X.env whole) (TP X pins σ Q) X.xe s
theorem PW.pt(h:PW X e t):PT X e t:=h _
def PA(X:Cx)(es:List oC)(t:TA):Prop:=
 ∀(pos:Pos)(pins:List (UQ×Obj))(s:oB)(σ:St)(H:Hp)(Q:List V->Hp->Prop),aS X pins σ H s->t σ H Q->US (UW X.prog X.w) X.A (spliced (WH pos (VB es X.env))) (AP X pins σ Q) X.xe s
def PS(X:Cx)(st:UZ)(t:TS):Prop:=
 ∀(pins:List (UQ×Obj))(s:oB)(σ:St)(H:Hp)(D:mV),aS X pins σ H s->t D σ H->US (UW X.prog X.w) X.A (exec st X.env) (SP X pins D) X.xe s
def Je(X:Cx)(st:List UZ)(t:TS):Prop:=
 ∀(pins:List (UQ×Obj))(s:oB)(σ:St)(H:Hp)(D:mV),aS X pins σ H s->t D σ H->US (UW X.prog X.w) X.A (execs st X.env) (SP X pins D) X.xe s
theorem cW{α:Type}{t:Sem α}{Q Q':α->oB->Prop}{M:Model}{A:oD}{E:oA->oB->Prop}{s:oB}(h:US M A t Q E s)(hQ:∀a s,Q a s->Q' a s):US M A t Q' E s:=WA h hQ λ_ _ x=>x
section
variable{X:Cx}
def rY(i:Nat):TE:=λσ H Q=>∃v,σ[i]?=oZ (oZ v)/\Q v H
def tC(v:V):TE:=λ_ H Q=>Q v H
theorem Vc(hN:X.N[i]?=oZ x)(hv:R7 X.env.scope x)(hd:(x==("__debug__":Str))=false:=by decide)(bc:(x==("__classdict__":Str))=false:=by decide):PE X (.Name x pos) (rY i):=by
 intro pins s σ H Q I h;obtain⟨v,e,h⟩:=h;obtain⟨m,hn,hl⟩:=I.loc;obtain⟨u,r,l⟩:=hl i x v hN e hv;have fin:EP X pins σ Q u s:=⟨v,H,I,r,h⟩;obtain⟨hk,hm⟩|⟨hk,c,hc,da⟩:=l
 ·exact wpAny_Name (wpAny_loadName_local I.ok.kind hk hn hm fin) hd
 ·obtain hk|hk:=hk
  ·exact wpAny_Name (wpAny_loadName_cell I.ok.kind hk hc da fin) hd
  ·exact wpAny_Name (wpAny_loadName_free I.ok.kind hk hc da fin bc) hd
theorem X9{i j pos}:PE X (.Constant (.int i) j pos) (tC (.int i)):=λ_ _ _ H _ I h=>wpAny_Constant_int ⟨.int i,H,I.tok _,⟨_,rfl⟩,h⟩
theorem EE{b j pos}:PE X (.Constant (.bool b) j pos) (tC (.bl b)):=λ_ _ _ H _ I h=>Constant_bool ⟨.bl b,H,I,rfl,h⟩
theorem Y1{j pos}:PE X (.Constant .none j pos) (tC .non):=λ_ _ _ H _ I h=>Constant_none ⟨.non,H,I,rfl,h⟩
theorem Y4{x j pos}:PE X (.Constant (.str x) j pos) (tC (.str x)):=λ_ _ _ H _ I h=>Calls.Constant_str ⟨.str x,H,I.tok _,⟨_,rfl⟩,h⟩
def Gl(X:Cx)(x:Str):Prop:=X.env.kindOf x=oZ .globalImplicit
theorem Kx{E:oA->oB->Prop}{Q:oA->oB->Prop}(I:aS X pins σ H s)(hg:Gl X x)(hm:X.mg x=oZ u)(h:Q u s)(hd:(x==("__debug__":Str))=false:=by decide):US (UW X.prog X.w) X.A (VF (.Name x pos) X.env) Q E s:=
 Calls.Name_function_global I.ok.kind hg (Calls.loadGlobal_global (by rw[I.ok.glob];exact I.mod.glob.keeps I.bk) hm h) hd
theorem rG{E:oA->oB->Prop}{Q:oA->oB->Prop}(I:aS X pins σ H s)(hg:Gl X x)(hm:X.mg x=none)(hv:VU x=oZ u)(h:Q u s)(hn:x≠"__name__":=by decide)(hd:(x==("__debug__":Str))=false:=by decide):US (UW X.prog X.w) X.A (VF (.Name x pos) X.env) Q E s:=by
 obtain⟨mb,h1,h2⟩:=I.mod.blt;exact Calls.Name_function_global I.ok.kind hg (Calls.loadGlobal_builtin (by rw[I.ok.glob];exact I.mod.glob.keeps I.bk) hm (by rw[I.ok.blt];exact h1.keeps I.bk) ((h2 x hn).trans hv) h) hd
theorem Li(hg:Gl X x)(hm:X.mg x=oZ u)(r:bM v u)(hd:(x==("__debug__":Str))=false:=by decide):PE X (.Name x pos) (tC v):=
 λ_ _ _ H _ I h=>Kx I hg hm ⟨v,H,I,r,h⟩ hd
variable{a b:oC}{ta tb:TE}{pos:Pos}
def tB(t:TE):TT:=λσ H Q=>t σ H λx H1=>∃c,x = .bl c/\Q c H1
theorem Z9(h:PE X e t)(he:∀whole,isTrue e X.env whole=(do let v <-whole;standAt e.pos;VV [v] (truthy v)):=by intro _;rfl):PT X e (tB t):=by
 intro pins s σ H Q I hw;refine isTrue_plain (cW (h pins s σ H _ I hw) λv s1⟨x,H1,I1,r1,q1⟩=>?_) (he _);obtain⟨d,rfl,q⟩:=q1;cases r1;exact VJ ⟨H1,I1,q⟩
variable{tA nh:TT}{rest:List oC}
def GD(t u:TT):TT:=λσ H Q=>t σ H λc H1=>if c=true then u σ H1 Q else Q false H1
def KS(t u:TT):TT:=λσ H Q=>t σ H λc H1=>if c=true then Q true H1 else u σ H1 Q
def GL(t:TT):TT:=λσ H Q=>t σ H λc H1=>Q (!c) H1
theorem F1(ha:PT X a tA):PW X (.BoolOp .And [a] pos) tA:=by
 intro wh pins s σ H Q I h;refine isTrue_and (cW (ha pins s σ H Q I h) λc s1 e=>?_);cases c with
 |true=>exact isTrue_and_nil e
 |false=>exact e
theorem AB(ha:PT X a tA):PW X (.BoolOp .Or [a] pos) tA:=by
 intro wh pins s σ H Q I h;refine isTrue_or (cW (ha pins s σ H Q I h) λc s1 e=>?_);cases c with
 |false=>exact isTrue_or_nil e
 |true=>exact e
theorem AA(ha:PT X a tA)(hb:PW X (.BoolOp .And (b::rest) pos) nh):PW X (.BoolOp .And (a::b::rest) pos) (GD tA nh):=by
 intro wh pins s σ H Q I h;refine isTrue_and (cW (ha pins s σ H _ I h) λc s1 zZ=>?_);obtain⟨H1,I1,q1⟩:=zZ;cases c with
 |true=>exact hb wh pins s1 σ H1 Q I1 q1
 |false=>exact⟨H1,I1,q1⟩
theorem EO(ha:PT X a tA)(hb:PW X (.BoolOp .Or (b::rest) pos) nh):PW X (.BoolOp .Or (a::b::rest) pos) (KS tA nh):=by
 intro wh pins s σ H Q I h;refine isTrue_or (cW (ha pins s σ H _ I h) λc s1 zZ=>?_);obtain⟨H1,I1,q1⟩:=zZ;cases c with
 |true=>exact⟨H1,I1,q1⟩
 |false=>exact hb wh pins s1 σ H1 Q I1 q1
theorem Z8(ha:PT X a tA):PT X (.UnaryOp .Not a pos) (GL tA):=by
 intro pins s σ H Q I h;exact isTrue_not (ha pins s σ H (λc H1=>Q (!c) H1) I h)
def GN(ta tb:TE):TE:=λσ H Q=>ta σ H λx H1=>∃c,x = .bl c/\if c=true then Q (.bl true) H1 else tb σ H1 Q
def P7(ta:TE):TE:=λσ H Q=>ta σ H λx H1=>∃c,x = .bl c/\Q (.bl (!c)) H1
theorem Y3{op}(h:PE X a t):PE X (.BoolOp op [a] pos) t:=λpins s σ H Q I hw=>BoolOp_one (h pins s σ H Q I hw)
theorem EJ(ha:PE X a ta)(hb:PE X (.BoolOp .Or (b::rest) pos) tb):PE X (.BoolOp .Or (a::b::rest) pos) (GN ta tb):=by
 intro pins s σ H Q I h;refine BoolOp_or (cW (ha pins s σ H _ I h) λv s1 zZ=>?_);obtain⟨x,H1,I1,r1,q1⟩:=zZ;obtain⟨c,rfl,q1⟩:=q1;cases r1;refine VJ ?_;cases c with
 |false=>exact hb pins s1 σ H1 Q I1 q1
 |true=>exact⟨.bl true,H1,I1,rfl,q1⟩
theorem Y2(ha:PE X a ta):PE X (.UnaryOp .Not a pos) (P7 ta):=by
 intro pins s σ H Q I h;refine UnaryOp_ (cW (ha pins s σ H _ I h) λv s1 zZ=>?_);obtain⟨x,H1,I1,r1,q1⟩:=zZ;obtain⟨c,rfl,q1⟩:=q1;cases r1;exact not_of (VJ ⟨.bl (!c),H1,I1,rfl,q1⟩)
def KR(t:TT)(ta tb:TE):TE:=λσ H Q=>t σ H λc H1=>if c=true then ta σ H1 Q else tb σ H1 Q
theorem Va(hc:PT X c tA)(ha:PE X a ta)(hb:PE X b tb):PE X (.IfExp c a b pos) (KR tA ta tb):=by
 intro pins s σ H Q I h;refine wpAny_IfExp (cW (hc pins s σ H _ I h) λd s1 zZ=>?_);obtain⟨H1,I1,q1⟩:=zZ;cases d with
 |true=>exact ha pins s1 σ H1 Q I1 q1
 |false=>exact hb pins s1 σ H1 Q I1 q1
end
def jJ(K:W.Frag)(H:Hp)(a:UQ)(xs:List V):Prop:=
 Rd H a (.lst xs)\/
  ∃(o:Obj)(XD:Array oA)(n:Nat),K.lookup a=oZ o/\o.cls = .type "list"/\o.dict=none/\o.data = .seq XD n/\XD.size<=UT/\bA xs XD.toList
def nA(K:W.Frag)(H:Hp)(a:UQ)(xs:List V):Prop:=
 Rd H a (.tup xs)\/
  ∃(o:Obj)(XD:Array oA)(n:Nat),K.lookup a=oZ o/\o.cls = .type "tuple"/\o.data = .seq XD n/\XD.size<=UT/\bA xs XD.toList
def HX:oA->Option V
 |.none=>oZ .non
 |.bool b=>oZ (.bl b)
 |.int i _=>oZ (.int i)
 |.str x _=>oZ (.str x)
 |.bytes b _=>oZ (.byt b)
 |.float b _=>oZ (.flt b)
 |.ref a=>oZ (.ref a)
 |.type n=>oZ (.ty n)
 |_=>none
theorem bM.abs(r:bM x u):HX u=oZ x:=by
 cases x with
 |non=>cases r;rfl
 |bl _=>cases r;rfl
 |int _=>obtain⟨t,rfl⟩:=r;rfl
 |str _=>obtain⟨t,rfl⟩:=r;rfl
 |byt _=>obtain⟨t,rfl⟩:=r;rfl
 |flt _=>obtain⟨t,rfl⟩:=r;rfl
 |ref _=>cases r;rfl
 |ty _=>cases r;rfl
theorem bM.inj(r:bM x u)(q:bM y u):x=y:=Option.some.inj (r.abs.symm.trans q.abs)
theorem bA.inj:∀{xs ys:List V}{us:List oA},bA xs us->bA ys us->xs=ys
 |_,_,_,.nil,.nil=>rfl
 |_,_,_,.cons r t,.cons r' t'=>by rw[r.inj r',bA.inj t t']
theorem jJ.of{H:Hp}{a:UQ}{xs:List V}{K:W.Frag}(h:H a=oZ (.lst xs)):jJ K H a xs:=.inl (.inl h)
theorem aS.list(I:aS X pins σ H s)(h:jJ X.K H a xs):∃XD:List oA,bA xs XD/\PlainL s.heap a XD.toArray/\xs.length<=UT:=by
 obtain h|⟨o,XD,n,hk,hc,hd,hs,hz,r⟩:=h
 ·obtain⟨z,XD,n,r,e⟩:=h.ok I.hok;exact⟨XD,r,⟨_,n,e,rfl,rfl,rfl⟩,z⟩
 ·refine⟨XD.toList,r,⟨o,n,I.kIn a o hk,hc,hd,by simpa using hs⟩,?_⟩;have e:=r.length;simp only[QX]at e
  lia
theorem aS.tuple(I:aS X pins σ H s)(h:nA X.K H a xs):∃XD:List oA,bA xs XD/\IsTup s.heap a XD.toArray/\xs.length<=UT:=by
 obtain h|⟨o,XD,n,hk,hc,hs,hz,r⟩:=h
 ·obtain⟨z,XD,r,p⟩:=h.ok I.hok;exact⟨XD,r,p,z⟩
 ·refine⟨XD.toList,r,⟨o,I.kIn a o hk,hc,n,by simpa using hs⟩,?_⟩;have e:=r.length;simp only[QX]at e
  lia
theorem aS.list_inj(I:aS X pins σ H s)(h:jJ X.K H a xs)(h':jJ X.K H a ys):xs=ys:=by
 obtain⟨XD,r,⟨o,n,e,_,_,d⟩,_⟩:=I.list h;obtain⟨its',r',⟨o',n',e',_,_,d'⟩,_⟩:=I.list h';rw[e]at e';cases e';rw[d]at d';injection d' with d1 _;have:XD=its':=by simpa using congrArg UO d1
 subst this;exact r.inj r'
theorem aS.tuple_inj(I:aS X pins σ H s)(h:nA X.K H a xs)(h':nA X.K H a ys):xs=ys:=by
 obtain⟨XD,r,⟨o,e,_,n,d⟩,_⟩:=I.tuple h;obtain⟨its',r',⟨o',e',_,n',d'⟩,_⟩:=I.tuple h';rw[e]at e';cases e';rw[d]at d';injection d' with d1 _;have:XD=its':=by simpa using congrArg UO d1
 subst this;exact r.inj r'
abbrev Cx.wish(X:Cx)(E:oA->oB->Prop):Cx:={ X with xe:=E }
abbrev Cx.nox(X:Cx):Cx:=X.wish λ_ _=>False
theorem Cx.Ok.wish{X:Cx}(ok:X.Ok)(E:oA->oB->Prop):(X.wish E).Ok:=
 ⟨ok.mod,ok.kind,ok.glob,ok.blt,ok.above,ok.inj,ok.has,ok.cab,ok.hd,ok.frames,ok.stk,ok.exf,ok.bs,ok.bsz,ok.noex,ok.exfs,ok.funs,ok.frf⟩
theorem Cx.Ok.unwish{X:Cx}{E:oA->oB->Prop}(ok:(X.wish E).Ok):X.Ok:=
 ⟨ok.mod,ok.kind,ok.glob,ok.blt,ok.above,ok.inj,ok.has,ok.cab,ok.hd,ok.frames,ok.stk,ok.exf,ok.bs,ok.bsz,ok.noex,ok.exfs,ok.funs,ok.frf⟩
theorem aS.wish(I:aS X pins σ H s)(E:oA->oB->Prop):aS (X.wish E) pins σ H s:=⟨I.ok.wish E,I.os,I.bare,I.base,I.loc,I.cell,I.free,I.freeC,I.pin,I.hok,I.len⟩
theorem aS.unwish{E:oA->oB->Prop}(I:aS (X.wish E) pins σ H s):aS X pins σ H s:=⟨I.ok.unwish,I.os,I.bare,I.base,I.loc,I.cell,I.free,I.freeC,I.pin,I.hok,I.len⟩
theorem SP.unwish{E:oA->oB->Prop}(h:SP (X.wish E) pins D f s'):SP X pins D f s':=by
 cases f with
 |next=>obtain⟨σ',H',I,q⟩:=h;exact⟨σ',H',I.unwish,q⟩
 |brk=>obtain⟨σ',H',I,q⟩:=h;exact⟨σ',H',I.unwish,q⟩
 |cont=>obtain⟨σ',H',I,q⟩:=h;exact⟨σ',H',I.unwish,q⟩
 |ret u=>obtain⟨v,σ',H',I,r,q⟩:=h;exact⟨v,σ',H',I.unwish,r,q⟩
theorem Je.nox{X:Cx}{st:List UZ}(h:Je X.nox st t):Je X st t:=λpins s σ H D I hw=>
 WA (h pins s σ H D (I.wish _) hw) (λ_ _ q=>q.unwish) λ_ _ z=>False.elim z
section
variable{X:Cx}{st:UZ}{rest:List UZ}{t u:TS}{e:oC}{te:TE}{pos:Pos}
def P6:TS:=λD σ H=>D.nx σ H
def BE(t u:TS):TS:=λD σ H=>t { D with nx:=u D } σ H
theorem E7:Je X [] P6:=λ_ _ σ H _ I h=>WT ⟨σ,H,I,h⟩
theorem Vk(h1:PS X st t)(h2:Je X rest u):Je X (st::rest) (BE t u):=by
 intro pins s σ H D I h;refine wpAny_execs_cons (cW (h1 pins s σ H { D with nx:=u D } I h) λf s1 q=>?_);cases f with
 |next=>
  obtain⟨σ',H',I',q⟩:=q;exact h2 pins s1 σ' H' D I' q
 |ret v=>exact q
 |brk=>exact q
 |cont=>exact q
theorem E8(h1:PS X st t):Je X [st] t:=by
 intro pins s σ H D I h;refine wpAny_execs_cons (cW (h1 pins s σ H D I h) λf s1 q=>?_);cases f with
 |next=>exact WT q
 |ret v=>exact q
 |brk=>exact q
 |cont=>exact q
def O7:TS:=λD σ H=>D.ct σ H
theorem Dl:PS X (.Continue pos) O7:=λ_ _ σ H _ I h=>wpAny_Continue ⟨σ,H,I,h⟩
theorem aS.quiet(I:aS X pins σ H s):interactive X.env=false:=by simp[interactive,I.ok.kind]
def O8(te:TE):TS:=λD σ H=>te σ H λ_ H1=>D.nx σ H1
theorem D7(he:PE X e te)(hs:VL e none pos.line X.env=pure false:=by rfl):PS X (.Expr e pos) (O8 te):=by
 intro pins s σ H D I h;exact wpAny_Expr_any (cW (he pins s σ H _ I h) λv s1 zZ=>by obtain⟨x,H1,I1,r1,q1⟩:=zZ;exact⟨σ,H1,I1,q1⟩) I.quiet hs
def GP(te:TE):TS:=λD σ H=>te σ H D.rt
theorem Z6(he:PE X e te):PS X (.Return (oZ e) pos) (GP te):=by
 intro pins s σ H D I h;exact wpAny_Return_some (cW (he pins s σ H _ I h) λv s1 zZ=>by obtain⟨x,H1,I1,r1,q1⟩:=zZ;exact⟨x,σ,H1,I1,r1,q1⟩)
def GH(c:TT)(t u:TS):TS:=λD σ H=>c σ H λb H1=>if b=true then t D σ H1 else u D σ H1
theorem EN(hc:PT X c tc)(ha:Je X a t)(hb:Je X b u):PS X (.If c a b pos) (GH tc t u):=by
 intro pins s σ H D I h;refine wpAny_If (cW (hc pins s σ H _ I h) λd s1 zZ=>?_);obtain⟨H1,I1,q1⟩:=zZ;cases d with
 |true=>exact ha pins s1 σ H1 D I1 q1
 |false=>exact hb pins s1 σ H1 D I1 q1
end
abbrev TG:=V->St->Hp->(St->Hp->Prop)->Prop
abbrev K7:=List V->St->Hp->(St->Hp->Prop)->Prop
def PG(X:Cx)(target:oC)(t:TG):Prop:=
 ∀(pins:List (UQ×Obj))(s:oB)(σ:St)(H:Hp)(v:V)(u:oA)(Q:St->Hp->Prop),aS X pins σ H s->bM v u->t v σ H Q->
  US (UW X.prog X.w) X.A (WC target X.env u) (λ_ s'=>∃σ' H',aS X pins σ' H' s'/\Q σ' H') X.xe s
def BW(X:Cx)(ts:List oC)(t:K7):Prop:=
 ∀(pins:List (UQ×Obj))(s:oB)(σ:St)(H:Hp)(vs:List V)(us:List oA)(Q:St->Hp->Prop),aS X pins σ H s->bA vs us->t vs σ H Q->
  US (UW X.prog X.w) X.A (WR ((VC ts X.env).map (·.2)) us) (λ_ s'=>∃σ' H',aS X pins σ' H' s'/\Q σ' H') X.xe s
abbrev BZ:=V->V->V->Hp->(Hp->Prop)->Prop
def Yc(X:Cx)(t:BZ):Prop:=
 ∀(pins:List (UQ×Obj))(s:oB)(σ:St)(H:Hp)(o i v:V)(ov iv u:oA)(Q:Hp->Prop),aS X pins σ H s->bM o ov->bM i iv->bM v u->t o i v H Q->
  US (UW X.prog X.w) X.A (setItem ov iv u) (λ_ s'=>∃H',aS X pins σ H' s'/\Q H') X.xe s
def jB(i:Nat):TG:=λv σ H Q=>Q (σ.set i (oZ v)) H
theorem C8(hN:X.N.Nodup)(hi:X.N[i]?=oZ x)(hx:yK X.env.scope x)(hf:X.fn x=true\/X.env.scope.names.lookup x=oZ .local:=by first|exact .inl rfl|exact .inr rfl|assumption):PG X (.Name x pos) (jB i):=by
 intro pins s σ H v u Q I r h;exact wpAny_assign_Name (jG I hN hi hx r (λs' I'=>⟨_,H,I',h⟩) hf)
def Yz:K7:=λvs σ H Q=>vs=[]/\Q σ H
def nE(t:TG)(u:K7):K7:=λvs σ H Q=>∃v r,vs=v::r/\t v σ H λσ' H'=>u r σ' H' Q
theorem C9:BW X [] Yz:=by
 intro pins s σ H vs us Q I r h;obtain⟨e,h⟩:=h;subst e;cases r;exact XB ⟨σ,H,I,h⟩
theorem Vd(h1:PG X e t)(h2:BW X es u)(hs:(VC (e::es) X.env).map (·.2)=WC e X.env::(VC es X.env).map (·.2):=by rfl):BW X (e::es) (nE t u):=by
 intro pins s σ H vs us Q I r h;obtain⟨v,vr,e1,h⟩:=h;subst e1;cases r with
 |cons r rr=>
  rw[hs];refine VX (cW (h1 pins s σ H _ _ _ I r h) λ_ s1 zZ=>?_);obtain⟨σ1,H1,I1,q1⟩:=zZ;exact h2 pins s1 σ1 H1 _ _ Q I1 rr q1
def U8(K:W.Frag)(n:Nat)(t:K7):TG:=λv σ H Q=>∃a xs,v = .ref a/\nA K H a xs/\xs.length=n/\t xs σ H Q
theorem Y7(hc:X.calm=true)(h:BW X es t)(hn:(VC es X.env).length=n:=by rfl)(jy:(VC es X.env).findIdx? (·.1)=none:=by rfl):PG X (.Tuple es k pos) (U8 X.K n t):=by
 intro pins s σ H v u Q I r hw;obtain⟨a,xs,e1,hq,hl,hw⟩:=hw;subst e1;cases r;obtain⟨XD,rv,ht,hz⟩:=I.tuple hq;refine assign_Tuple_tuple (I.ok.hd hc) ht (by simp[hn,<-hl,rv.length]) jy λh' hx=>?_;have I1:aS X pins σ H { s with heap:=h' }:=I.kept (t':=s.toks) λb o e=>hx b o (NQ (MX e)) e;exact h pins _ σ H xs _ Q I1 (by simpa using rv) hw
def DH(to ti:TE)(t:BZ):TG:=λv σ H Q=>to σ H λo H1=>ti σ H1 λi H2=>t o i v H2 λH3=>Q σ H3
theorem Y6(ho:PE X o to)(hi:PE X i ti)(hs:Yc X t)(ha:∀v,WC (.Subscript o i pos) X.env v=(do
   let ov <-VV [v] (VF o X.env)
   let iv <-VV [v,ov] (VF i X.env)
   standAt pos
   VV [v,ov,iv] (setItem ov iv v)
   release [v,ov,iv] []):=by intro _;rfl):PG X (.Subscript o i pos) (DH to ti t):=by
 intro pins s σ H v u Q I r h;rw[ha];refine UP (VZ (cW (ho pins s σ H _ I h) λov s1 zZ=>?_));obtain⟨x,H1,I1,r1,q1⟩:=zZ;refine UP (VZ (cW (hi pins s1 σ H1 _ I1 q1) λiv s2 zZ=>?_));obtain⟨y,H2,I2,r2,q2⟩:=zZ;refine UP (WS (UP (VZ (cW (hs pins s2 σ H2 x y v ov iv u _ I2 r1 r2 r q2) λ_ s3 zZ=>?_))));obtain⟨H3,I3,q3⟩:=zZ;exact wpAny_release ⟨σ,H3,I3,q3⟩
def Pu(te:TE)(g:TG):TS:=λD σ H=>te σ H λx H1=>g x σ H1 D.nx
theorem Z3(he:PE X e te)(hg:PG X tg g)(hs:VP [tg] e pos.line X.env=pure false:=by rfl)(hw:VQ [tg] e X.env=pure none:=by rfl)(h1:(VC [tg] X.env).map (·.2)=[WC tg X.env]:=by rfl):PS X (.Assign [tg] e pos) (Pu te g):=by
 intro pins s σ H D I h;refine wpAny_Assign_stores (cW (he pins s σ H _ I h) λv s1⟨x,H1,I1,r1,q1⟩=>?_) hs hw;rw[h1];exact cW (hg pins s1 σ H1 x v _ I1 r1 q1) λ_ s2 q=>q
theorem Z7(hN:X.N.Nodup)(hi:X.N[i]?=oZ x)(hx:yK X.env.scope x)(he:PE X e te)(hs:VL e (oZ (.Name x pos')) pos.line X.env=pure false:=by rfl)(hf:X.fn x=true\/X.env.scope.names.lookup x=oZ .local:=by first|exact .inl rfl|exact .inr rfl|assumption):
  PS X (.Assign [.Name x pos'] e pos) (Pu te (jB i)):=by
 intro pins s σ H D I h;refine wpAny_Assign_Name (cW (he pins s σ H _ I h) λv s1⟨y,H1,I1,r1,q1⟩=>?_) hs;exact jG I1 hN hi hx r1 (λs2 I2=>⟨_,H1,I2,q1⟩) hf
def GO(i j:Nat)(ta:TA):TS:=λD σ H=>ta σ H λvs H1=>∃v w,vs=[v,w]/\D.nx ((σ.set i (oZ v)).set j (oZ w)) H1
theorem Z5{kt k2 qA}(hc:X.calm=true)(hN:X.N.Nodup)(hi:X.N[i]?=oZ x)(hj:X.N[j]?=oZ y)(fq:i≠j)(hx:X.env.scope.names.lookup x=oZ .local)(hy:X.env.scope.names.lookup y=oZ .local)(ha:PA X [a,b] ta)(hw:VQ [.Tuple [.Name x px,.Name y py] kt pt] (.Tuple [a,b] k2 qA) X.env=pure (oZ [x,y]))(hs:VP [.Tuple [.Name x px,.Name y py] kt pt] (.Tuple [a,b] k2 qA) pos.line X.env=pure false:=by rfl):
  PS X (.Assign [.Tuple [.Name x px,.Name y py] kt pt] (.Tuple [a,b] k2 qA) pos) (GO i j ta):=by
 intro pins s σ H D I h;rw[exec_Assign_arm];refine UP (WS ?_);rw[hs];refine UP (UR ?_);rw[oW ∅];refine UP (Tuple_ (cW (ha _ pins s σ H _ I h) λus s1 zZ=>?_));obtain⟨vs,H1,I1,r1,q1⟩:=zZ;obtain⟨v,w,e1,q1⟩:=q1;subst e1;obtain⟨u1,u2,rfl,rv,jz⟩:∃u1 u2,us=[u1,u2]/\bM v u1/\bM w u2:=by
  cases r1 with
  |cons p q=>
   cases q with
   |cons p' q'=>
    cases q';exact⟨_,_,rfl,p,p'⟩
 refine VD ?_ (by show 2<=UT;decide);have I2:aS X pins σ H1 { s1 with heap:=s1.heap.push { cls:=.type "tuple",data:=.seq [u1,u2].toArray } }:=I1.kept (t':=s1.toks) λb o e=>MM _ e;rw[hw];refine UP (UR ?_);show US (UW X.prog X.w) X.A (do rule "assign.swapped-stores";let items <-unpackItems (.ref s1.heap.objs.size) 2 none;WR [λv=>WG X.env y v,λv=>WG X.env x v] items.reverse;pure Flow.next) _ _ _;refine UP (WD (UP (unpackItems_tuple (items:=#[u1,u2]) (I.ok.hd hc) (IsTup.new s1.heap _) λh' vi=>?_)));have I3:=I2.kept (h':=h') (t':=s1.toks) λb o e=>vi b o (NQ (MX e)) e;show US _ _ (WR [λv=>WG X.env y v,λv=>WG X.env x v] [u2,u1] >>= λ_=>pure Flow.next) _ _ _;refine UP (VX (WO (jG I3 hN hj (.inl hy) jz (λs2 I4=>?_) (.inr hy))));refine VX (WO (jG I4 hN hi (.inl hx) rv (λs3 I5=>XB (UR ?_)) (.inr hx)));rw[RY _ _ (Ne.symm fq)]at I5;exact⟨_,H1,I5,q1⟩
def Xb(c:TT)(tb:TS):TS:=λD σ H=>∃W:Nat->St->Hp->Prop,(∃m,W m σ H)/\∀m σ H,W m σ H->
 c σ H λb H1=>if b=true then ∃N:St->Hp->Prop,(∀σ' H',N σ' H'->∃m',m'<m/\W m' σ' H')/\tb { D with nx:=N,ct:=N,bk:=D.nx } σ H1 else D.nx σ H1
theorem Vj(hp:PassesOwn (UW X.prog X.w) X.A X.env X.xe)(hc:PT X c tc)(hb:Je X body tb):PS X (.While c body [] pos) (Xb tc tb):=by
 intro pins s σ H D I h;obtain⟨W,⟨m0,w0⟩,turn⟩:=h;refine wpAny_While (codeAny_whileLoop (λn s'=>∃σ' H',aS X pins σ' H' s'/\W n σ' H') ?_ m0 ⟨σ,H,I,w0⟩);rintro n s1 ⟨σ1,H1,I1,w1⟩;refine VY hp (cW (hc pins s1 σ1 H1 _ I1 (turn n σ1 H1 w1)) λb s2 zZ=>?_);obtain⟨H2,I2,q2⟩:=zZ;cases b with
 |true=>
  obtain⟨N,hN,q2⟩:=q2;rw[oV rfl];refine VY hp (cW (hb pins s2 σ1 H2 _ I2 q2) λf s3 q3=>?_);cases f with
  |next=>
   obtain⟨σ3,H3,I3,n3⟩:=q3;obtain⟨m',hm,w3⟩:=hN σ3 H3 n3;exact⟨m',hm,σ3,H3,I3,w3⟩
  |cont=>
   obtain⟨σ3,H3,I3,n3⟩:=q3;obtain⟨m',hm,w3⟩:=hN σ3 H3 n3;exact⟨m',hm,σ3,H3,I3,w3⟩
  |brk=>exact q3
  |ret v=>exact q3
 |false=>
  rw[oW PL];exact WT ⟨σ1,H2,I2,q2⟩
structure It where
 go:Nat->Hp->Prop
 yld:Nat->Hp->V->Hp->Prop
 stop:Nat->Hp->Prop
def oQ(X:Cx)(pins:List (UQ×Obj))(H:Hp)(b:UQ):Prop:=
 H b=none/\b≠X.env.locals/\b∉X.fs/\(b∈X.ex\/X.s₀.heap.objs.size<=b)/\(∀x c,X.env.cells.lookup x=oZ c->c≠b)/\∀p∈X.pn++pins,p.1≠b
theorem aS.fpOk(I:aS X pins σ H s)(hb:s.heap.objs.size<=b)(hn:H' b=none):oQ X pins H' b:=by
 refine⟨hn,Nat.ne_of_gt (NC I.lt hb),I.nofs hb,.inr (OH I.sz hb),λx c e z=>?_,λp hp z=>?_⟩
 ·obtain⟨v,q⟩:=I.cell x c e;exact absurd (NC q.lt (by rw[z];exact hb)) (Nat.lt_irrefl _)
 ·exact absurd (NC (MX (I.pin p hp).1) (by rw[z];exact hb)) (Nat.lt_irrefl _)
structure Bk(P:UU)(w:UY)(K:W.Frag)(tg:oC)(J:It)(fp:List UQ)(it:UQ)(tn:Nat->oE->Prop):Prop where
 mem:it∈fp
 obj:∀i h,tn i h->∀b∈fp,∃o,h.get? b=oZ o/\∀v,o.data≠.cell v
 keep:∀i h h',tn i h->(∀b∈fp,∀o,h.get? b=oZ o->h'.get? b=oZ o)->tn i h'
 item:∀(X:Cx),X.prog=P->X.w=w->X.K=K->X.calm=true->∀(i:Nat)(pins:List (UQ×Obj))(s:oB)(σ:St)(H:Hp)(E:oA->oB->Prop),aS X pins σ H s->(∀b∈fp,oQ X pins H b)->tn i s.heap->J.go i H->
  US (UW P w) X.A (pyNext (.ref it)) (λr s1=>∃u,r=oZ u/\
   US (UW P w) X.A (WU tg (.ref it) u) (λ_ s2=>∃x H',aS X pins σ H' s2/\bM x u/\J.yld i H x H'/\tn (i+1) s2.heap/\∀b∈fp,H' b=none) E s1) E s
 done:∀(X:Cx),X.prog=P->X.w=w->X.K=K->X.calm=true->∀(i:Nat)(pins:List (UQ×Obj))(s:oB)(σ:St)(H:Hp)(E:oA->oB->Prop),aS X pins σ H s->(∀b∈fp,oQ X pins H b)->tn i s.heap->J.stop i H->
  US (UW P w) X.A (pyNext (.ref it)) (λr s1=>r=none/\aS X pins σ H s1) E s
 self:∀(A:oD)(i:Nat)(s:oB)(Q:oA->oB->Prop)(E:oA->oB->Prop),tn i s.heap->Q (.ref it) s->US (UW P w) A (pyIter (.ref it)) Q E s
abbrev TI:=St->Hp->(It->Hp->Prop)->Prop
def HV(X:Cx)(pins:List (UQ×Obj))(σ:St)(tg:oC)(R:It->Hp->Prop)(itv:oA)(s2:oB):Prop:=
 ∃(it:UQ)(fp:List UQ)(tn:Nat->oE->Prop)(J:It)(H':Hp),itv = .ref it/\aS X pins σ H' s2/\Bk X.prog X.w X.K tg J fp it tn/\tn 0 s2.heap/\(∀b∈fp,oQ X pins H' b)/\R J H'
def PI(X:Cx)(tg iter:oC)(wi:TI):Prop:=
 ∀(pins:List (UQ×Obj))(s:oB)(σ:St)(H:Hp)(R:It->Hp->Prop),aS X pins σ H s->wi σ H R->
  US (UW X.prog X.w) X.A (VF iter X.env) (λv s1=>US (UW X.prog X.w) X.A (pyIter v) (HV X pins σ tg R) X.xe s1) X.xe s
theorem Kl {E:oA->oB->Prop} {Q:Unit->oB->Prop} (ho:s.heap.get? it=oZ o) (hc:o.cls = .type n) (hd:o.data = .fields vs) (hn:["enumerate","zip","dict_itemiterator","dict_reverseitemiterator","odict_iterator","itertools.zip_longest","itertools.pairwise"].contains n=false) (hQ:Q () s):US M A (WU tg (.ref it) u) Q E s:=by
  unfold WU;cases tg<;>first
    | exact UR hQ
    | (cases u<;>first
        | exact UR hQ
        | (refine UP (wpAny_load ho ?_)
           rw [hc,hd];show US M A (if (["enumerate","zip","dict_itemiterator","dict_reverseitemiterator","odict_iterator","itertools.zip_longest","itertools.pairwise"].contains n&&vs[0]?==oZ (WX _))=true then _ else _) Q E s;rw [oW (by intro h;rw [hn,Bool.false_and] at h;cases h)];exact UR hQ))
def HC(K:W.Frag)(a:UQ):It:=
 ⟨λi H=>∃xs x,jJ K H a xs/\xs[i]?=oZ x,λi H x H'=>H'=H/\∀xs,jJ K H a xs->xs[i]?=oZ x,λi H=>∃xs,jJ K H a xs/\xs.length<=i⟩
def HD(K:W.Frag)(a:UQ):It:=
 ⟨λi H=>∃xs x,nA K H a xs/\xs[i]?=oZ x,λi H x H'=>H'=H/\∀xs,nA K H a xs->xs[i]?=oZ x,λi H=>∃xs,nA K H a xs/\xs.length<=i⟩
def BU(lo:Int)(n:Nat):It:=⟨λi _=>i<n,λi H x H'=>H'=H/\x = .int (lo+i),λi _=>n<=i⟩
theorem yH{P:UU}{w:UY}{K:W.Frag}{tg:oC}(a it:UQ):Bk P w K tg (HC K a) [it] it (λi h=>h.IsListIter it a i) where
 mem:=by simp
 obj:=λi h st b hb=>by
  have e:b=it:=by simpa using hb
  subst e;obtain⟨o,e,c,d⟩:=st;exact⟨o,e,λv z=>by rw[d]at z;cases z⟩
 keep:=λi h h' st k=>st.at λo e=>k it (by simp) o e
 item:=by
  intro X hP hw hK hc i pins s σ H E I hf st hg;subst hP hw hK;obtain⟨xs,x,hq,hx⟩:=hg;obtain⟨XD,rv,p,hz⟩:=I.list hq;obtain⟨u,hu,ru⟩:=rv.get hx;obtain⟨f0,f1,f2,f3,f4,f5⟩:=hf it (by simp);refine wpAny_pyNext_list_item st p.isList (x:=u) (by simpa using hu) λh' gc sb=>?_;have I1:aS X pins σ H { s with heap:=h' }:=I.turned (t':=s.toks) (λb o hb e=>(sb.2 b hb).trans e) f0 f1 f3 f4 f5;obtain⟨o,e,c,d⟩:=id gc;exact⟨u,rfl,Kl (s:={ s with heap:=h' }) e c d ∅ ⟨x,H,I1,ru,⟨rfl,λys hy=>by rw[I.list_inj hy hq];exact hx⟩,gc,λb hb=>(hf b hb).1⟩⟩
 done:=by
  intro X hP hw hK hc i pins s σ H E I hf st hg;subst hP hw hK;obtain⟨xs,hq,hx⟩:=hg;obtain⟨XD,rv,p,hz⟩:=I.list hq;obtain⟨f0,f1,f2,f3,f4,f5⟩:=hf it (by simp);have hl:=rv.length;exact wpAny_pyNext_list_end (I.ok.hd hc) st p.isList (by simp;lia) λh' eb=>⟨rfl,I.turned (t':=s.toks) (λb o hb e=>eb b o hb e) f0 f1 f3 f4 f5⟩
 self:=λ_ _ _ _ _ st h=>wpAny_pyIter_listiter st h
theorem vU{P:UU}{w:UY}{K:W.Frag}{tg:oC}(a it:UQ):Bk P w K tg (HD K a) [it] it (λi h=>h.IsTupleIter it a i) where
 mem:=by simp
 obj:=λi h st b hb=>by
  have e:b=it:=by simpa using hb
  subst e;obtain⟨o,e,c,d⟩:=st;exact⟨o,e,λv z=>by rw[d]at z;cases z⟩
 keep:=λi h h' st k=>st.at λo e=>k it (by simp) o e
 item:=by
  intro X hP hw hK hc i pins s σ H E I hf st hg;subst hP hw hK;obtain⟨xs,x,hq,hx⟩:=hg;obtain⟨XD,rv,p,hz⟩:=I.tuple hq;obtain⟨u,hu,ru⟩:=rv.get hx;obtain⟨f0,f1,f2,f3,f4,f5⟩:=hf it (by simp);refine wpAny_pyNext_tuple_item st (show s.heap.IsTuple a XD.toArray from p) (x:=u) (by simpa using hu) λh' gc sb=>?_;have I1:aS X pins σ H { s with heap:=h' }:=I.turned (t':=s.toks) (λb o hb e=>(sb.2 b hb).trans e) f0 f1 f3 f4 f5;obtain⟨o,e,c,d⟩:=id gc;exact⟨u,rfl,Kl (s:={ s with heap:=h' }) e c d ∅ ⟨x,H,I1,ru,⟨rfl,λys hy=>by rw[I.tuple_inj hy hq];exact hx⟩,gc,λb hb=>(hf b hb).1⟩⟩
 done:=by
  intro X hP hw hK hc i pins s σ H E I hf st hg;subst hP hw hK;obtain⟨xs,hq,hx⟩:=hg;obtain⟨XD,rv,p,hz⟩:=I.tuple hq;obtain⟨f0,f1,f2,f3,f4,f5⟩:=hf it (by simp);have hl:=rv.length;exact wpAny_pyNext_tuple_end (I.ok.hd hc) st (show s.heap.IsTuple a XD.toArray from p) (by simp;lia) λh' eb=>⟨rfl,I.turned (t':=s.toks) (λb o hb e=>eb b o hb e) f0 f1 f3 f4 f5⟩
 self:=λ_ _ _ _ _ st h=>wpAny_pyIter_tupleiter st h
theorem Ip{P:UU}{w:UY}{K:W.Frag}{tg:oC}(it:UQ)(lo:Int)(n:Nat):Bk P w K tg (BU lo n) [it] it (λi h=>IsRangeIter h it (lo+(i:Nat)*1) ((n:Int)-(i:Nat)) 1) where
 mem:=by simp
 obj:=λi h st b hb=>by
  have e:b=it:=by simpa using hb
  subst e;exact⟨_,st,λv z=>by
   have z':Data.fields _=Data.cell v:=z;cases z'⟩
 keep:=λi h h' st k=>k it (by simp) _ st
 item:=by
  intro X hP hw hK hc i pins s σ H E I hf st hg;subst hP hw hK;obtain⟨f0,f1,f2,f3,f4,f5⟩:=hf it (by simp);have W:=Walks.range (prog:=X.prog) (w:=X.w) (I.ok.hd hc) it lo 1 n;refine W.item i s _ _ hg st λv h' tk hv gc kk=>?_;obtain⟨t,rfl⟩:=hv;have I1:aS X pins σ H { s with heap:=h',toks:=tk }:=I.turned (λb o hb e=>kk b o (by simpa using hb) e) f0 f1 f3 f4 f5;refine⟨_,rfl,Kl (s:={ s with heap:=h',toks:=tk }) (n:="range_iterator") gc rfl rfl ∅ ⟨.int (lo+i),H,I1,⟨t,?_⟩,⟨rfl,rfl⟩,gc,λb hb=>(hf b hb).1⟩⟩;rw[Int.mul_one]
 done:=by
  intro X hP hw hK hc i pins s σ H E I hf st hg;subst hP hw hK;obtain⟨f0,f1,f2,f3,f4,f5⟩:=hf it (by simp);exact wpAny_pyNext_range_end (I.ok.hd hc) st (by have:n<=i:=hg;lia) λh' eb=>⟨rfl,I.turned (t':=s.toks) (λb o hb e=>eb b o hb e) f0 f1 f3 f4 f5⟩
 self:=λ_ _ _ _ _ st h=>wpAny_pyIter_rangeiter st h
def Te(K:W.Frag)(tl:TE):TI:=λσ H R=>tl σ H λx H1=>∃a,x = .ref a/\(∃xs,jJ K H1 a xs)/\R (HC K a) H1
def DO(K:W.Frag)(tl:TE):TI:=λσ H R=>tl σ H λx H1=>∃a,x = .ref a/\(∃xs,nA K H1 a xs)/\R (HD K a) H1
theorem D2(hl:PE X l tl):PI X tg l (Te X.K tl):=by
 intro pins s σ H R I h;refine cW (hl pins s σ H _ I h) λv s1 zZ=>?_;obtain⟨x,H1,I1,r1,q1⟩:=zZ;obtain⟨a,e,⟨xs,hq⟩,q⟩:=q1;subst e;cases r1;obtain⟨XD,rv,p,hz⟩:=I1.list hq;refine wpAny_pyIter_list p.isList ?_;refine⟨s1.heap.objs.size,[s1.heap.objs.size],_,_,H1,rfl,I1.kept (t':=s1.toks) λb o e=>MM _ e,yH a _,⟨_,NA _ rfl,rfl,rfl⟩,λb hb=>?_,q⟩;have e:b=s1.heap.objs.size:=by simpa using hb
 subst e;exact I1.fpOk (MQ _) (I1.hok.fresh (MQ _))
theorem Y9(hl:PE X l tl):PI X tg l (DO X.K tl):=by
 intro pins s σ H R I h;refine cW (hl pins s σ H _ I h) λv s1 zZ=>?_;obtain⟨x,H1,I1,r1,q1⟩:=zZ;obtain⟨a,e,⟨xs,hq⟩,q⟩:=q1;subst e;cases r1;obtain⟨XD,rv,p,hz⟩:=I1.tuple hq;refine WK (show s1.heap.IsTuple a XD.toArray from p) ?_;refine⟨s1.heap.objs.size,[s1.heap.objs.size],_,_,H1,rfl,I1.kept (t':=s1.toks) λb o e=>MM _ e,vU a _,⟨_,NA _ rfl,rfl,rfl⟩,λb hb=>?_,q⟩;have e:b=s1.heap.objs.size:=by simpa using hb
 subst e;exact I1.fpOk (MQ _) (I1.hok.fresh (MQ _))
theorem Vt{R:It->Hp->Prop}{E:oA->oB->Prop}{lo hi:Int}(I:aS X pins σ H s)(h1:-(2^62)<=lo)(h2:lo<2^62)(h3:-(2^62)<=hi)(h4:hi<2^62)(q:R (BU lo (hi-lo).toNat) H):US (UW X.prog X.w) X.A (pyIter (.ref s.heap.objs.size)) (HV X pins σ tg R) E { s with heap:=s.heap.push { cls:=.type "range",data:=.fields #[.int lo t,.int hi u,.int 1 v] },toks:=tk }:=by
 refine wpAny_pyIter_range (IsRange.new ..) (small_one h1 h2 h3 h4) ?_;have I1:aS X pins σ H { s with heap:=s.heap.push { cls:=.type "range",data:=.fields #[.int lo t,.int hi u,.int 1 v] },toks:=tk }:=I.kept λb o e=>MM _ e;refine⟨(s.heap.push { cls:=.type "range",data:=.fields #[.int lo t,.int hi u,.int 1 v] }).objs.size,[(s.heap.push { cls:=.type "range",data:=.fields #[.int lo t,.int hi u,.int 1 v] }).objs.size],_,_,H,rfl,
  I1.kept (t':=tk) λb o e=>MM _ e,Ip _ lo (hi-lo).toNat,?_,λb hb=>?_,q⟩
 ·have e1:lo+((0:Nat):Int)*1=lo:=by simp
  have e2:(((hi-lo).toNat:Nat):Int)-((0:Nat):Int)=Builtin.Range.rangeSize lo hi 1:=by rw[rangeSize_one];split<;>lia
  show IsRangeIter _ _ (lo+((0:Nat):Int)*1) ((((hi-lo).toNat:Nat):Int)-((0:Nat):Int)) 1;rw[e1,e2];exact NA _ rfl
 ·have e:b=(s.heap.push { cls:=.type "range",data:=.fields #[.int lo t,.int hi u,.int 1 v] }).objs.size:=by simpa using hb
  subst e;exact I1.fpOk (MQ _) (I1.hok.fresh (MQ _))
def M3(ta:TA):TI:=λσ H R=>ta σ H λvs H1=>∃j:Int,vs=[.int j]/\-(2^62)<=j/\j<2^62/\R (BU 0 j.toNat) H1
theorem Pg(hg:Gl X "range")(hm:X.mg "range" = none)(ha:PA X [a] ta)(hs:VB [a] X.env=[(false,VF a X.env)]:=by rfl):PI X tg (.Call (.Name "range" p) [a] [] pos) (M3 ta):=by
 intro pins s σ H R I h;refine Call_ (rG I hg hm boot_range (PyProof.Rows.callWith_type1 (cW (ha pos pins s σ H _ I h) λus s1⟨vs,H1,I1,r1,q1⟩=>?_) hs rfl));obtain⟨j,e,q1,q2,q⟩:=q1;subst e;cases r1 with
 |cons r rr=>
  cases rr;obtain⟨t,rfl⟩:=r;exact call_range_1 (Vt I1 ⋯ ⋯ q1 q2 (by simpa using q))
def BC(wi:TI)(g:TG)(tb:TS):TS:=λD σ H=>wi σ H λJ H1=>∃W:Nat->Nat->St->Hp->Prop,(∃m,W 0 m σ H1)/\∀i m σ H,W i m σ H->
 (J.stop i H/\D.nx σ H)\/(J.go i H/\∃N:St->Hp->Prop,(∀σ' H',N σ' H'->∃m',m'<m/\W (i+1) m' σ' H')/\∀x H',J.yld i H x H'->g x σ H' λσ2 H2=>tb { D with nx:=N,ct:=N,bk:=D.nx } σ2 H2)
def zW(fp:List UQ)(h:oE):List (UQ×Obj):=fp.filterMap λb=>(h.get? b).map λo=>(b,o)
theorem g9(hb:b∈fp)(e:h.get? b=oZ o):(b,o)∈zW fp h:=QY.mpr ⟨b,hb,by rw[e];rfl⟩
theorem Oq(hp:p∈zW fp h):p.1∈fp/\h.get? p.1=oZ p.2:=by
 obtain⟨b,hb,e⟩:=QY.mp hp;cases q:h.get? b with
 |none=>rw[q]at e;cases e
 |some o=>
  rw[q]at e;have e':(b,o)=p:=Option.some.inj e;subst e';exact⟨hb,q⟩
theorem aS.pinned(I:aS X pins σ H s)(hf:∀b∈fp,oQ X pins H b)(ho:∀b∈fp,∃o,s.heap.get? b=oZ o/\∀v,o.data≠.cell v):aS X (pins++zW fp s.heap) σ H s:=
 I.pins_of λp hp=>(NB.mp hp).elim (λz=>I.pin p (MV _ z)) λz=>by
  obtain⟨hb,e⟩:=Oq z;obtain⟨f0,f1,f2,_⟩:=hf p.1 hb;obtain⟨o,e',d⟩:=ho p.1 hb;rw[e]at e';cases e';exact⟨e,f0,f1,f2,d⟩
theorem aS.unpinned(I:aS X (pins++pl) σ H s):aS X pins σ H s:=I.pins_of λp hp=>I.pin p (MV _ (NJ _ hp))
theorem Z4(hp:PassesOwn (UW X.prog X.w) X.A X.env X.xe)(hc:X.calm=true)(hi:PI X tg iter wi)(hg:PG X tg g)(hb:Je X body tb)(hs:∀x,VA iter X.env x=pure x:=by intro _;rfl):PS X (.For tg iter body [] pos) (BC wi g tb):=by
 intro pins s σ H D I h;refine wpAny_For (cW (hi pins s σ H _ I h) λv s1 h1=>cW h1 λitv s2 h2=>?_) hs;obtain⟨it,fp,tn,J,H2,e,I2,T,gf,f2,W,⟨m0,w0⟩,turn⟩:=h2;subst e
 -- what stays true of the iterator's objects through the loop
 have cm:∀{H':Hp},(∀b∈fp,H' b=none)->∀b∈fp,oQ X pins H' b:=λhn b hb=>⟨hn b hb,(f2 b hb).2⟩;refine codeAny_forLoop_any (λn s'=>∃i σ' H',aS X pins σ' H' s'/\tn i s'.heap/\(∀b∈fp,H' b=none)/\W i n σ' H') ?_ m0 ⟨0,σ,H2,I2,gf,λb hb=>(f2 b hb).1,w0⟩;rintro n s3 ⟨i,σ3,H3,I3,vj,fr3,w3⟩;obtain⟨stop,qn⟩|⟨go,N,hN,step⟩:=turn i n σ3 H3 w3
 ·refine VY hp (cW (T.done X rfl rfl rfl hc i pins s3 σ3 H3 X.xe I3 (cm fr3) vj stop) λr s4 zZ=>?_);obtain⟨hr,I4⟩:=zZ;subst hr;exact WT ⟨σ3,H3,I4,qn⟩
 ·refine VY hp (cW (T.item X rfl rfl rfl hc i pins s3 σ3 H3 X.xe I3 (cm fr3) vj go) λr s4 zZ=>?_);obtain⟨u,hr,h4⟩:=zZ;subst hr;refine VY hp (cW h4 λ_ s5 zZ=>?_);obtain⟨x,H5,I5,r5,y5,kd,yv⟩:=zZ;have I5':=I5.pinned (cm yv) (T.obj _ _ kd);refine VY hp (cW (hg _ s5 σ3 H5 x u _ I5' r5 (step x H5 y5)) λ_ s6 zZ=>?_);obtain⟨σ6,H6,I6,q6⟩:=zZ;refine VY hp (cW (hb _ s6 σ6 H6 _ I6 q6) λf s7 q7=>?_);have again:∀{σ7:St}{H7:Hp},aS X (pins++zW fp s5.heap) σ7 H7 s7->N σ7 H7->∃m,m<n/\∃i σ' H',aS X pins σ' H' s7/\tn i s7.heap/\(∀b∈fp,H' b=none)/\W i m σ' H':=λ{σ7 H7}I7 n7=>by
   obtain⟨m',hm,w7⟩:=hN σ7 H7 n7;refine⟨m',hm,i+1,σ7,H7,I7.unpinned,T.keep _ _ _ kd λb hb o e=>(I7.pin (b,o) (MV _ (MV _ (g9 hb e)))).1,λb hb=>?_,w7⟩;obtain⟨o,e,d⟩:=T.obj _ _ kd b hb;exact(I7.pin (b,o) (MV _ (MV _ (g9 hb e)))).2.1
  cases f with
  |next=>obtain⟨σ7,H7,I7,n7⟩:=q7;exact again I7 n7
  |cont=>obtain⟨σ7,H7,I7,n7⟩:=q7;exact again I7 n7
  |brk=>obtain⟨σ7,H7,I7,q7⟩:=q7;exact⟨σ7,H7,I7.unpinned,q7⟩
  |ret v=>obtain⟨x7,σ7,H7,I7,r7,q7⟩:=q7;exact⟨x7,σ7,H7,I7.unpinned,r7,q7⟩
abbrev R2:=V->V->Hp->VK->Prop
def lK(X:Cx)(f:oA->oA->Sem oA)(r:R2):Prop:=
 ∀(pins:List (UQ×Obj))(s:oB)(σ:St)(H:Hp)(x y:V)(v u:oA)(Q:VK),aS X pins σ H s->bM x v->bM y u->r x y H Q->
  US (UW X.prog X.w) X.A (f v u) (EP X pins σ Q) X.xe s
def HG(X:Cx)(f:oA->Sem oA)(r:V->Hp->VK->Prop):Prop:=
 ∀(pins:List (UQ×Obj))(s:oB)(σ:St)(H:Hp)(x:V)(v:oA)(Q:VK),aS X pins σ H s->bM x v->r x H Q->
  US (UW X.prog X.w) X.A (f v) (EP X pins σ Q) X.xe s
def iH(X:Cx)(f:oA)(r:List V->Hp->VK->Prop):Prop:=
 ∀(pins:List (UQ×Obj))(s:oB)(σ:St)(H:Hp)(xs:List V)(us:List oA)(Q:VK),aS X pins σ H s->bA xs us->r xs H Q->
  US (UW X.prog X.w) X.A (call f us) (EP X pins σ Q) X.xe s
def HW(X:Cx)(r:V->Hp->(Bool->Hp->Prop)->Prop):Prop:=
 ∀(pins:List (UQ×Obj))(s:oB)(σ:St)(H:Hp)(x:V)(v:oA)(Q:Bool->Hp->Prop),aS X pins σ H s->bM x v->r x H Q->
  US (UW X.prog X.w) X.A (truthy v) (TP X pins σ Q) X.xe s
def Ww(r:R2)(ta tb:TE):TE:=λσ H Q=>ta σ H λx H1=>tb σ H1 λy H2=>r x y H2 Q
def KW(r:V->Hp->VK->Prop)(ta:TE):TE:=λσ H Q=>ta σ H λx H1=>r x H1 Q
def rI(C:Int->Int->Prop)(g:Int->Int->V):R2:=λx y H Q=>∃i j,x = .int i/\y = .int j/\C i j/\Q (g i j) H
def Pm(g:Int->Int->V):R2:=λx y H Q=>∃i j,x = .int i/\y = .int j/\Q (g i j) H
def rU(g:Int->V):V->Hp->VK->Prop:=λx H Q=>∃i,x = .int i/\Q (g i) H
theorem S7{X:Cx}{ta:TE}(ha:PE X a ta)(hb:PE X b tb){R:V->V->Hp->Prop}(I:aS X pins σ H s)(h:ta σ H λx H1=>tb σ H1 λy H2=>R x y H2){Q:oA->oB->Prop}{f:oA->oA->Sem oA}(hf:∀v u s2 x y H2,aS X pins σ H2 s2->bM x v->bM y u->R x y H2->US (UW X.prog X.w) X.A (f v u) Q X.xe s2):
  US (UW X.prog X.w) X.A (VF a X.env) (λv s₁=>US (UW X.prog X.w) X.A (VF b X.env) (λu s₂=>US (UW X.prog X.w) X.A (f v u) Q X.xe s₂) X.xe s₁) X.xe s:=by
 refine cW (ha pins s σ H _ I h) λv s1 zZ=>?_;obtain⟨x,H1,I1,r1,q1⟩:=zZ;refine cW (hb pins s1 σ H1 _ I1 q1) λu s2 zZ=>?_;obtain⟨y,H2,I2,r2,q2⟩:=zZ;exact hf v u s2 x y H2 I2 r1 r2 q2
theorem EH(ho:lK X (VS op) r)(ha:PE X a ta)(hb:PE X b tb):PE X (.BinOp a op b pos) (Ww r ta tb):=by
 intro pins s σ H Q I h;exact wpAny_BinOp (S7 ha hb I h λv u s2 x y H2 I2 rx ry q=>ho pins s2 σ H2 x y v u Q I2 rx ry q)
theorem EK{r:V->Hp->VK->Prop}(ho:HG X (unaryOp op) r)(ha:PE X a ta):PE X (.UnaryOp op a pos) (KW r ta):=by
 intro pins s σ H Q I h;exact UnaryOp_ (cW (ha pins s σ H _ I h) λv s1 zZ=>by obtain⟨x,H1,I1,r1,q1⟩:=zZ;exact ho pins s1 σ H1 x v Q I1 r1 q1)
theorem EB{C:Int->Int->Prop}{g:Int->Int->Int}(rule:∀(i j:Int)(t u:Tok)(s:oB)(Q:oA->oB->Prop)(E:oA->oB->Prop),C i j->Q (.int (g i j) s.toks) { s with toks:=s.toks+1 }->US (UW X.prog X.w) X.A (f (.int i t) (.int j u)) Q E s):
  lK X f (rI C λi j=>.int (g i j)):=by
 intro pins s σ H x y v u Q I rx ry h;obtain⟨i,j,rfl,rfl,hc,q⟩:=h;obtain⟨t,rfl⟩:=rx;obtain⟨t',rfl⟩:=ry;exact rule i j t t' s _ _ hc ⟨.int (g i j),H,I.tok _,⟨_,rfl⟩,q⟩
theorem EC{g:Int->Int->Int}(rule:∀(i j:Int)(t u:Tok)(s:oB)(Q:oA->oB->Prop)(E:oA->oB->Prop),Q (.int (g i j) s.toks) { s with toks:=s.toks+1 }->US (UW X.prog X.w) X.A (f (.int i t) (.int j u)) Q E s):
  lK X f (Pm λi j=>.int (g i j)):=by
 intro pins s σ H x y v u Q I rx ry h;obtain⟨i,j,rfl,rfl,q⟩:=h;obtain⟨t,rfl⟩:=rx;obtain⟨t',rfl⟩:=ry;exact rule i j t t' s _ _ ⟨.int (g i j),H,I.tok _,⟨_,rfl⟩,q⟩
theorem Zz{g:Int->Int->Bool}(rule:∀(i j:Int)(t u:Tok)(s:oB)(Q:oA->oB->Prop)(E:oA->oB->Prop),Q (.bool (g i j)) s->US (UW X.prog X.w) X.A (f (.int i t) (.int j u)) Q E s):
  lK X f (Pm λi j=>.bl (g i j)):=by
 intro pins s σ H x y v u Q I rx ry h;obtain⟨i,j,rfl,rfl,q⟩:=h;obtain⟨t,rfl⟩:=rx;obtain⟨t',rfl⟩:=ry;exact rule i j t t' s _ _ ⟨.bl (g i j),H,I,rfl,q⟩
def R3(i j:Int):Prop:=0<=j/\j<=1000000/\i.natAbs<2^64
def Xw(i j:Int):Prop:=(-(2^64)<i/\i<2^64)\/(-(2^64)<j/\j<2^64)
theorem Xw.ok{i j:Int}(h:Xw i j):IntMulOk i j:=by
 obtain⟨h1,h2⟩|⟨h1,h2⟩:=h
 ·exact .of_left (intBits_le_64 h1 h2)
 ·exact .of_right (intBits_le_64 h1 h2)
theorem b8:lK X (VS .Add) (Pm λi j=>.int (i+j)):=EC λ_ _ _ _ _ _ _ q=>add_int q
theorem iW:lK X (VS .Sub) (Pm λi j=>.int (i-j)):=EC λ_ _ _ _ _ _ _ q=>sub_int q
theorem X5:lK X (VS .Mult) (rI Xw λi j=>.int (i*j)):=EB λ_ _ _ _ _ _ _ hc q=>mul_int q hc.ok
theorem kM:lK X (VS .Mod) (rI (λ_ j=>0<j) λi j=>.int (i%j)):=EB λi j _ _ _ _ _ hc q=>by
 have h1:(0:Int)<j:=hc;exact mod_int' ⋯ (by rw[SX i ⋯];exact q)
theorem Ut:lK X (VS .Pow) (rI R3 λi j=>.int (i^j.toNat)):=EB λ_ _ _ _ _ _ _ hc q=>pow_int_small hc.1 hc.2.1 hc.2.2 q
theorem MB{g:Int->Int}(rule:∀(i:Int)(t:Tok)(s:oB)(Q:oA->oB->Prop)(E:oA->oB->Prop),Q (.int (g i) s.toks) { s with toks:=s.toks+1 }->US (UW X.prog X.w) X.A (f (.int i t)) Q E s):
  HG X f (rU λi=>.int (g i)):=by
 intro pins s σ H x v Q I rx h;obtain⟨i,rfl,q⟩:=h;obtain⟨t,rfl⟩:=rx;exact rule i t s _ _ ⟨.int (g i),H,I.tok _,⟨_,rfl⟩,q⟩
theorem BI:HG X (unaryOp .USub) (rU λi=>.int (-i)):=MB λ_ _ _ _ _ q=>neg_int q
section
variable{X:Cx}{a b c:oC}{ta tb tc:TE}{pos:Pos}
theorem uE(I:aS X pins σ H s)(q:Q (.bl k) H)(e:k=k'):EP X pins σ Q (.bool k') s:=by
 subst e;exact⟨.bl k,H,I,rfl,q⟩
theorem gW:lK X (VG .Lt) (Pm λi j=>.bl (decide (i<j))):=Zz λ_ _ _ _ _ _ _ q=>lt_int q
theorem N6:lK X (VG .LtE) (Pm λi j=>.bl (decide (i<=j))):=Zz λ_ _ _ _ _ _ _ q=>le_int q
theorem uU:lK X (VG .Gt) (Pm λi j=>.bl (decide (j<i))):=Zz λ_ _ _ _ _ _ _ q=>gt_int q
theorem N5:lK X (VG .GtE) (Pm λi j=>.bl (decide (j<=i))):=Zz λ_ _ _ _ _ _ _ q=>ge_int q
theorem Pc:lK X (VG .In) (λx y H Q=>∃i j,x = .str i/\y = .str j/\Q (.bl (!(Builtin.Str.occurrences j i 0 j.length 1).isEmpty)) H):=by
 intro pins s σ H x y v u Q I rx ry h;obtain⟨i,j,rfl,rfl,q⟩:=h;obtain⟨t,rfl⟩:=rx;obtain⟨t',rfl⟩:=ry;exact in_str (uE I q rfl)
theorem X4:lK X (VG .Is) (λx y H Q=>y = .non/\Q (.bl (decide (x = .non))) H):=by
 intro pins s σ H x y v u Q I rx ry h;obtain⟨rfl,q⟩:=h;cases ry;refine is_none_gen (uE I q ?_);cases x<;>first
  |(cases rx;rfl)
  |(obtain⟨t,rfl⟩:=rx;rfl)
theorem B8:lK X (VG .IsNot) (λx y H Q=>y = .non/\Q (.bl (!decide (x = .non))) H):=by
 intro pins s σ H x y v u Q I rx ry h;obtain⟨rfl,q⟩:=h;cases ry;refine isnot_none_gen (uE I q ?_);cases x<;>first
  |(cases rx;rfl)
  |(obtain⟨t,rfl⟩:=rx;rfl)
theorem cH(b:oC)(h:op≠.In:=by decide)(h2:op≠.NotIn:=by decide):VE op b=false:=by
 have e1:(op==CmpOp.In)=false:=by cases op<;>first|rfl|exact absurd rfl h
 have e2:(op==CmpOp.NotIn)=false:=by cases op<;>first|rfl|exact absurd rfl h2
 cases b<;>simp[VE,e1,e2]
theorem C3(ho:lK X (VG op) r)(ha:PE X a ta)(hb:PE X b tb)(hm:VE op b=false):PE X (.Compare a [op] [b] pos) (Ww r ta tb):=by
 intro pins s σ H Q I h;exact wpAny_Compare1 (S7 ha hb I h λv u s2 x y H2 I2 rx ry q=>ho pins s2 σ H2 x y v u Q I2 rx ry q) hm
def Q9(t:TE):TT:=λσ H Q=>t σ H λx H'=>∃k,x = .bl k/\Q k H'
theorem F0(ho:lK X (VG op) r)(ha:PE X a ta)(hb:PE X b tb)(hm:VE op b=false):PT X (.Compare a [op] [b] pos) (Q9 (Ww r ta tb)):=by
 intro pins s σ H Q I h;refine wpAny_isTrue_Compare1 (cW (ha pins s σ H _ I h) λv s1⟨x,H1,I1,r1,q1⟩=>cW (hb pins s1 σ H1 _ I1 q1) λu s2⟨y,H2,I2,r2,q2⟩=>
  cW (ho pins s2 σ H2 x y v u _ I2 r1 r2 q2) λc s3⟨z,H3,I3,r3,k,e,q3⟩=>?_) hm
 subst e;cases r3;exact VJ ⟨H3,I3,q3⟩
def CA(K:W.Frag)(x:V)(H:Hp)(k:Bool):Prop:=
 match x with
 |.non=>k=false
 |.bl b=>k=b
 |.int i=>k=(i != 0)
 |.str y=>y.length<=UT/\k=((y.length:Int) != 0)
 |.byt y=>y.size<=UT/\k=((y.size:Int) != 0)
 |.ref p=>(∃xs,jJ K H p xs/\k = !xs.isEmpty)\/(∃xs,nA K H p xs/\k = !xs.isEmpty)\/∃XN,H p=oZ (.dK XN)/\k = !XN.isEmpty
 |_=>False
theorem Gx{κ:Type}{XN:List (κ×V)}{vs:List (κ×oA)}(r:KV XN vs):(!vs.isEmpty) = !XN.isEmpty:=by
 cases r<;>rfl
theorem uL(r:bA xs XD):(!XD.toArray.isEmpty) = !xs.isEmpty:=by
 cases r<;>simp
theorem rH:(UT:Nat)<2^63:=by rw[WW];decide
theorem BG:HW X (λx H Q=>∃k,CA X.K x H k/\Q k H):=by
 intro pins s σ H x v Q I rx h;obtain⟨k,e,q⟩:=h;have hl:=rH;have hs:UT=16777216:=WW;cases x with
 |non=>
  cases rx;have e':k=false:=e;subst e';exact truthy_none ⟨H,I,q⟩
 |bl b=>
  cases rx;have e':k=b:=e;subst e';exact VJ ⟨H,I,q⟩
 |int i=>
  obtain⟨t,rfl⟩:=rx;have e':k=(i != 0):=e;subst e';exact PySem.P.truthy_int ⟨H,I,q⟩
 |str y=>
  obtain⟨t,rfl⟩:=rx;obtain⟨hy,e'⟩:y.length<=UT/\k=((y.length:Int) != 0):=e;subst e';exact PySem.P.truthy_str ⋯ ⟨H,I.tok _,q⟩
 |byt y=>
  obtain⟨t,rfl⟩:=rx;obtain⟨hy,e'⟩:y.size<=UT/\k=((y.size:Int) != 0):=e;subst e';exact W.truthy_bytes ⋯ ⟨H,I.tok _,q⟩
 |ref p=>
  cases rx;have e':(∃xs,jJ X.K H p xs/\k = !xs.isEmpty)\/(∃xs,nA X.K H p xs/\k = !xs.isEmpty)\/∃XN,H p=oZ (.dK XN)/\k = !XN.isEmpty:=e;obtain⟨xs,hx,e'⟩|⟨xs,hx,e'⟩|⟨XN,hx,e'⟩:=e'
  ·subst e';obtain⟨XD,r,pl,hz⟩:=I.list hx;have hlen:=r.length;exact wpAny_truthy_list pl.isList (by simp only[MZ];lia) ⟨H,I.tok _,by rw[uL r];exact q⟩
  ·subst e';obtain⟨XD,r,pl,hz⟩:=I.tuple hx;have hlen:=r.length;exact truthy_tuple pl (by simp only[MZ];lia) ⟨H,I.tok _,by rw[uL r];exact q⟩
  ·subst e';obtain⟨hz,hS,vs,r,m⟩:XN.length<=UT/\(p==VO)=false/\∃vs,KV XN vs/\s.heap.DictOf (b9 X.prog X.w) p vs:=I.hok p _ hx;have hlen:XN.length=vs.length:=Paired.length r;exact wpAny_truthy_dict hS m ⋯ ⟨H,I.tok _,by rw[Gx r];exact q⟩
 |_=>exact(show False from e).elim
theorem Vl(ha:PE X a ta)(he:∀whole,isTrue a X.env whole=(do let v <-whole;standAt a.pos;VV [v] (truthy v))):
  PT X a (λσ H Q=>ta σ H λx H'=>∃k,CA X.K x H' k/\Q k H'):=by
 intro pins s σ H Q I h;exact isTrue_plain (cW (ha pins s σ H _ I h) λv s1 zZ=>by obtain⟨x,H1,I1,r1,q1⟩:=zZ;exact BG pins s1 σ H1 x v Q I1 r1 q1) (he _)
theorem sN(r:bA [x] us):∃u,us=[u]/\bM x u:=by
 cases r with
 |cons r1 r2=>cases r2;exact⟨_,rfl,r1⟩
end
structure dW(k:Nat)(A:oD):Prop where
 hd:A.handled=none
 dp:A.depth+3*k+5<recursionLimit
 un:A.units+16*k+200<VW
 gd:A.guards=oZ []
theorem dW.mono(r:dW k A)(h:j<=k):dW j A:=⟨r.hd,by have:=r.dp;lia,by have:=r.un;lia,r.gd⟩
theorem dW.deeper(r:dW (k+1) A)(env:Env):dW k (A.deeper env):=
 ⟨r.hd,by have:=r.dp;show A.depth+1+3*k+5<_;lia,by have:=r.un;show A.units+3+16*k+200<_;lia,r.gd⟩
theorem dW.depth(r:dW k A):A.depth<recursionLimit:=by have:=r.dp;lia
theorem dW.units(r:dW k A):A.units+64<VW:=by have:=r.un;lia
def BD:TA:=λ_ H Q=>Q [] H
def Ws(ta:TE)(tr:TA):TA:=λσ H Q=>ta σ H λx H1=>tr σ H1 λxs H2=>Q (x::xs) H2
section
variable{X:Cx}{e:oC}{es:List oC}{te:TE}{t:TA}{pos:Pos}
theorem X7:PA X [] BD:=λ_ _ _ _ H Q I h=>Calls.spliced_nil ⟨[],H,I,.nil,h⟩
theorem C0(ha:PE X e te)(hr:PA X es t)(hs:VB (e::es) X.env=(false,VF e X.env)::VB es X.env:=by rfl):PA X (e::es) (Ws te t):=by
 intro pos pins s σ H Q I h;rw[hs];show US _ _ (spliced ((false,VF e X.env)::WH pos (VB es X.env))) _ _ s;refine Calls.spliced_cons (cW (ha pins s σ H _ I h) λu s1 zZ=>?_);obtain⟨x,H1,I1,r1,q1⟩:=zZ;exact cW (hr pos pins s1 σ H1 _ I1 q1) λus s2 zZ=>by obtain⟨xs,H2,I2,r2,q2⟩:=zZ;exact⟨x::xs,H2,I2,.cons r1 r2,q2⟩
def GR(t:TA):TE:=λσ H Q=>t σ H λxs H1=>xs.length<=UT/\∀p,H1 p=none->Q (.ref p) (upd H1 p (.tup xs))
def GK(t:TA):TE:=λσ H Q=>t σ H λxs H1=>xs.length<=UT/\∀p,H1 p=none->Q (.ref p) (upd H1 p (.lst xs))
theorem Y5{x1}(h:PA X es t):PE X (.Tuple es x1 pos) (GR t):=by
 intro pins s σ H Q I hq;refine wpAny_Tuple_spliced (cW (h pos pins s σ H _ I hq) λus s1⟨xs,H1,I1,r,z,q⟩=>⟨by rw[<-r.length];exact z,?_⟩);have hf:H1 s1.heap.objs.size=none:=I1.hok.fresh (MQ _);refine⟨.ref s1.heap.objs.size,upd H1 s1.heap.objs.size (.tup xs),I1.laid (t':=s1.toks) (λb u e=>MM _ e) (MQ _) ?_,rfl,q _ hf⟩;exact⟨z,us,r,⟨_,NA _ rfl,rfl,_,rfl⟩⟩
theorem Y0(h:PA X es t):PE X (.List es pos) (GK t):=by
 intro pins s σ H Q I hq;refine wpAny_List_spliced (cW (h pos pins s σ H _ I hq) λus s1⟨xs,H1,I1,r,z,q⟩=>⟨by rw[<-r.length];exact z,?_⟩);have hf:H1 s1.heap.objs.size=none:=I1.hok.fresh (MQ _);refine⟨.ref s1.heap.objs.size,upd H1 s1.heap.objs.size (.lst xs),I1.laid (t':=s1.toks) (λb u e=>MM _ e) (MQ _) ?_,rfl,q _ hf⟩;exact⟨z,us,0,r,NA _ rfl⟩
end
abbrev Sp:=List V->Hp->VK->XK->Prop
abbrev Fj:=List Env->Hp->oB->XK->oA->oB->Prop
structure Xz(P:UU)(w:UY)(K:W.Frag)(mg:Str->Option oA)(base:oE)(A:oD)(outer:List Env)(s:oB)(H:Hp):Prop where
 frames:A.frames=oZ outer
 mod:Mod K mg base
 bs:∀b o,base.get? b=oZ o->s.heap.get? b=oZ o/\H b=none
 bsz:base.objs.size<=s.heap.objs.size
 funs:s.heap.FunFrames base outer
 frf:∀b∈Ke outer,H b=none
 hok:nJ P w H s.heap
 bare:WN s.gens
def CE(outer:List Env)(P:UU)(w:UY)(H:Hp)(s:oB)(Q:VK)(u:oA)(s':oB):Prop:=
 ∃v H',s'.os=s.os/\WN s'.gens/\Un (Ke outer) [] H H' s.heap s'.heap/\nJ P w H' s'.heap/\bM v u/\Q v H'
def CR(CX:Fj)(outer:List Env)(P:UU)(w:UY)(H:Hp)(s:oB)(Q:VK)(E:XK)(r:Result)(s':oB):Prop:=
 match r with
 |.ok (.ret u)=>CE outer P w H s Q u s'
 |.ok _=>False
 |.error e=>CX outer H s E e s'
structure bE(P:UU)(w:UY)(K:W.Frag)(mg:Str->Option oA)(base:oE)(CX:Fj)(k:Nat)(f:UQ)(fd:VH)(ps:List Str)(sp:Sp):Prop where
 len:∀vs H Q E,sp vs H Q E->vs.length=ps.length
 run:∀(A:oD)(outer:List Env)(s:oB)(H:Hp)(args:Args)(us:List oA)(vs:List V)(Q:VK)(E:XK),dW k A->Xz P w K mg base A outer s H->BindsTo s fd args (ps.zip us)->bA vs us->sp vs H Q E->
  codeAny (UW P w) A (.call (.ref f) args) (CR CX outer P w H s Q E) s
theorem bE.imp{P:UU}{w:UY}{K:W.Frag}{mg:Str->Option oA}{base:oE}{CX:Fj}{k:Nat}{f:UQ}{fd:VH}{ps:List Str}{sp sp':Sp}(F:bE P w K mg base CX k f fd ps sp)
  (h:∀vs H Q E,sp' vs H Q E->sp vs H Q E):(~~~bE) CX k f fd ps sp':=
 ⟨λvs H Q E q=>F.len vs H Q E (h _ _ _ _ q),λA outer s H args us vs Q E hr he hb hv hs=>F.run A outer s H args us vs Q E hr he hb hv (h _ _ _ _ hs)⟩
theorem aS.env0(I:aS X pins σ H s):Xz X.prog X.w X.K X.mg X.base X.A X.stack s H:=
 ⟨I.ok.frames,I.ok.mod,I.bs,OH I.ok.bsz I.sz,I.stack,I.stkFree,I.hok,I.bare⟩
theorem aS.after(I:aS X pins σ H s)(h:CE X.stack X.prog X.w H s Q u s'):EP X pins σ Q u s':=by
 obtain⟨v,H',os,bare,un,hok,r,q⟩:=h;obtain⟨hh,g,d,t,os'⟩:=s';obtain rfl:os'=s.os:=os;exact⟨v,H',I.call (h':=hh) (g':=g) (d':=d) (t':=t) (ch:=[]) un hok bare (λb z=>absurd z (by simp)),r,q⟩
def Ec(sp:Sp)(qd:List V)(E:XK)(t:TA):TE:=λσ H Q=>t σ H λvs H1=>sp (vs++qd) H1 Q E
def k9(K:W.Frag)(fd:VH)(ps:List Str)(ds:List oA):Prop:=
 ∀(s:oB)(us:List oA),K.In s.heap->(us++ds).length=ps.length->BindsTo s fd ⟨us,[]⟩ (ps.zip (us++ds))
theorem k9.all{K:W.Frag}{fd:VH}{ps:List Str}(h:∀us:List oA,us.length=ps.length->bindArgs fd ⟨us,[]⟩=pure (ps.zip us)):k9 K fd ps []:=λs us _ hl=>by
 rw[NS]at hl⊢;exact .of_eq (h us hl)
def Ft(CX:Fj)(X:Cx)(E:XK):Prop:=∀(pins:List (UQ×Obj))(σ:St)(H:Hp)(s:oB)(e:oA)(s':oB),aS X pins σ H s->CX X.stack H s E e s'->X.xe e s'
theorem AS(F:bE X.prog X.w X.K X.mg X.base CX k f fd ps sp)(hr:dW k X.A)(hb:k9 X.K fd ps ds)(hd:bA qd ds)(hx:Ft CX X E)(I:aS X pins σ H s)(r:bA vs us)(h:sp (vs++qd) H Q E):US (UW X.prog X.w) X.A (call (.ref f) us) (EP X pins σ Q) X.xe s:=by
 have r2:bA (vs++qd) (us++ds):=r.append hd;have hl:(us++ds).length=ps.length:=by rw[<-r2.length];exact F.len _ _ _ _ h
 refine wpAny_call (codeAny_mono (F.run X.A X.stack s H ⟨us,[]⟩ (us++ds) (vs++qd) Q E hr I.env0 (hb s us I.kIn hl) r2 h) λr s' hq=>?_);cases r with
 |error e=>exact hx pins σ H s e s' I hq
 |ok fl=>
  cases fl with
  |ret u=>exact I.after hq
  |next=>exact False.elim hq
  |brk=>exact False.elim hq
  |cont=>exact False.elim hq
theorem C1(F:bE X.prog X.w X.K X.mg X.base CX k f fd ps sp)(hr:dW k X.A)(hg:Gl X x)(hm:X.mg x=oZ (.ref f))(hk:W.keepIn X.K (.ref f)=true)(hb:k9 X.K fd ps ds)(hd:bA qd ds)(hx:Ft CX X E)(ha:PA X (e::es) t)(ZR:(x==("__debug__":Str))=false:=by decide)(he:VB (e::es) X.env=(false,VF e X.env)::VB es X.env:=by rfl)(ni:(WH pos (VB es X.env)).any (·.1)=false:=by rfl):
  PE X (.Call (.Name x p) (e::es) [] pos) (Ec sp qd E t):=by
 intro pins s σ H Q I h;refine WY (Kx I hg hm ?_ ZR);refine PySem.W.callWith_K (h₀:=X.base) I.ok.mod.kin hk (cW (ha pos pins s σ H _ I h) λus s1⟨vs,H1,I1,r,q⟩=>⟨I1.kIn,?_⟩) he ni;exact AS F hr hb hd hx I1 r q
structure aK(N P:List Str)(sc:WJ):Prop where
 kind:sc.kind = .function
 co:sc.isCoroutine=false
 gen:sc.isGenerator=false
 nd:N.Nodup
 pre:N.take P.length=P
 par:∀x∈P,sc.names.lookup x=oZ .local\/sc.names.lookup x=oZ .cell
 nofree:∀y∈sc.names,y.2≠.free
theorem xA{kindOf:Str->Option NameKind}{x:Str}:∀{binds:List (Str×oA)}{m:Str->Option oA},(∀v,(x,v)∉binds)->bindL kindOf binds m x=m x
 |[],_,_=>rfl
 |(n,v)::r,m,h=>by
  unfold bindL;rw[xA λw hw=>h w (NF _ hw)]
  split
  ·have:x≠n:=by rintro rfl;exact h v OV
   simp[this]
  ·rfl
theorem w4{kindOf:Str->Option NameKind}{x:Str}:∀{binds:List (Str×oA)}{m:Str->Option oA},(∀v,(x,v)∉binds)->bindC kindOf binds m x=m x
 |[],_,_=>rfl
 |(n,v)::r,m,h=>by
  unfold bindC;rw[w4 λw hw=>h w (NF _ hw)]
  split
  ·rfl
  ·have:x≠n:=by rintro rfl;exact h v OV
   simp[this]
theorem w6{kindOf:Str->Option NameKind}:∀{P:List Str}{vs:List oA}{i:Nat}{m:Str->Option oA},P.Nodup->P[i]?=oZ x->vs[i]?=oZ v->kindOf x=oZ .local->
  bindL kindOf (P.zip vs) m x=oZ v
 |[],_,_,_,_,h,_,_=>by simp at h
 |_::_,[],_,_,_,_,h,_=>by simp at h
 |p::P,w::vs,0,m,nd,h1,h2,hk=>by
  simp at h1 h2;subst h1;subst h2;show bindL kindOf ((p,w)::P.zip vs) m p=_;unfold bindL;rw[xA λv hv=>(QC.mp nd).1 (PQ hv).1,oV hk];simp
 |p::P,w::vs,i+1,m,nd,h1,h2,hk=>by
  show bindL kindOf ((p,w)::P.zip vs) m x=_;unfold bindL;exact w6 (i:=i) (QC.mp nd).2 (by simpa using h1) (by simpa using h2) hk
theorem wZ{kindOf:Str->Option NameKind}:∀{P:List Str}{vs:List oA}{i:Nat}{m:Str->Option oA},P.Nodup->P[i]?=oZ x->vs[i]?=oZ v->kindOf x≠oZ .local->
  bindC kindOf (P.zip vs) m x=oZ v
 |[],_,_,_,_,h,_,_=>by simp at h
 |_::_,[],_,_,_,_,h,_=>by simp at h
 |p::P,w::vs,0,m,nd,h1,h2,hk=>by
  simp at h1 h2;subst h1;subst h2;show bindC kindOf ((p,w)::P.zip vs) m p=_;unfold bindC;rw[w4 λv hv=>(QC.mp nd).1 (PQ hv).1,oW hk];simp
 |p::P,w::vs,i+1,m,nd,h1,h2,hk=>by
  show bindC kindOf ((p,w)::P.zip vs) m x=_;unfold bindC;exact wZ (i:=i) (QC.mp nd).2 (by simpa using h1) (by simpa using h2) hk
def mI(N:List Str)(vs:List V):St:=vs.map oZ++NW (N.length-vs.length) none
def yV(CX:Fj)(P:UU)(w:UY)(K:W.Frag)(mg:Str->Option oA)(base:oE)(N:List Str)(qual:Str)(scope:WJ)(f:UQ)(cd:oA)(A:oD)(outer:List Env)(s:oB)(H:Hp)(E:XK):Cx where
 prog:=P
 w:=w
 K:=K
 mg:=mg
 base:=base
 A:=A.deeper (WL qual scope s.heap.objs.size f cd)
 N:=N
 s₀:=s
 H₀:=H
 env:=WL qual scope s.heap.objs.size f cd
 outer:=outer
 stack:=WL qual scope s.heap.objs.size f cd::outer
 ex:=[]
 calm:=true
 fn:=λ_=>true
 pn:=[]
 xe:=λe s'=>US (UW P w) (A.deeper (WL qual scope s.heap.objs.size f cd)) (leaving (WL qual scope s.heap.objs.size f cd) e) (λ_ qe=>CX outer H s E e qe) (λe' qe=>CX outer H s E e' qe) s'
theorem Br{sc:WJ}(h:sc.names.lookup x=oZ .cell):∃c,(cellsFrom n sc.names []).lookup x=oZ c:=by
 have q:=W.cellsFrom_some sc.names n [] (.inl h);exact Option.isSome_iff_exists.mp q
theorem Oh{CX:Fj}{P:UU}{w:UY}{K:W.Frag}{mg:Str->Option oA}{base:oE}{N ps:List Str}{qual:Str}{scope:WJ}{f:UQ}{cd:oA}{A:oD}{outer:List Env}{s s1:oB}{H:Hp}{E:XK}{us:List oA}{vs:List V}
  (S:aK N ps scope) (hd:A.handled=none) (e0:Xz P w K mg base A outer s H) (hl:vs.length=ps.length) (r:bA vs us)
  (x:InCallC s s.heap.objs.size (bindL (WL qual scope s.heap.objs.size f cd).kindOf (ps.zip us) λ_=>none) (cellsFrom (s.heap.objs.size+1) scope.names []) (bindC (WL qual scope s.heap.objs.size f cd).kindOf (ps.zip us) λ_=>none) s1) :
  aS (yV CX P w K mg base N qual scope f cd A outer s H E) [] (mI N vs) H s1:=by
 have ni:ps.length<=N.length:=by have:=congrArg RU S.pre;rw[OC]at this;lia
 obtain⟨h1,tk,rfl,hk⟩:=x.done;have vn:∀b:UQ,b∉(yV CX P w K mg base N qual scope f cd A outer s H E).ex:=λb z=>absurd (show b∈([]:List UQ)from z) (by simp);refine⟨⟨e0.mod,S.kind,rfl,rfl,MQ _,λy z c h1 h2=>?_,λy hy=>?_,λy c _ h=>?_,λ_=>hd,Around.frames_deeper e0.frames,.inr ⟨rfl,rfl⟩,λb z=>absurd z (vn b),e0.bs,e0.bsz,λb _ _=>vn b,λb z=>absurd z (vn b),e0.funs,e0.frf⟩,
  rfl,e0.bare,Un.kept hk,⟨_,x.toInCall.ns,λi y v h1 h2 h3=>?_⟩,λy c h=>⟨_,x.cell y c h⟩,e0.hok.fresh (MQ _),λy c h=>?_,λp hp=>absurd (show p∈([]:List (UQ×Obj))from hp) (by simp),e0.hok.kept hk,?_⟩
 ·exact name_of_addr x.apart (PySem.mem_of_lookup h1) (PySem.mem_of_lookup h2)
 ·have hy:scope.names.lookup y=oZ .cell\/scope.names.lookup y=oZ .free:=hy;obtain hy|hy:=hy
  ·exact Br hy
  ·exact absurd rfl (S.nofree _ (PySem.mem_of_lookup hy))
 ·exact OA (x.above y c (PySem.mem_of_lookup h))
 ·have hi:i<vs.length:=by
   unfold mI at h2
   by_cases hi:i<vs.length
   ·exact hi
   ·rw[OF (by simpa using hi)]at h2;rw[TR]at h2;split at h2<;>cases h2
  have ha:vs[i]?=oZ v:=by
   unfold mI at h2;rw[NK (by simpa using hi),MT]at h2;cases e:vs[i]? with
   |none=>rw[e]at h2;cases h2
   |some a=>rw[e]at h2;cases h2;rfl
  obtain⟨u,hu,rv⟩:=r.get ha;have hp:ps[i]?=oZ y:=by
   rw[<-S.pre,OT ⋯];exact h1
  have ndP:ps.Nodup:=by rw[<-S.pre];exact S.nd.sublist (List.take_sublist _ _)
  refine⟨u,rv,?_⟩;obtain k|k:=S.par y (MN hp)
  ·exact .inl ⟨k,w6 ndP hp hu k⟩
  ·obtain⟨c,e⟩:=Br (n:=s.heap.objs.size+1) k;refine .inr ⟨.inl k,c,e,?_⟩;have q:=x.cell y c e;rw[wZ ndP hp hu (by show scope.names.lookup y≠_;rw[k];decide)]at q;exact q
 ·exact e0.hok.fresh (OA (x.above y c (PySem.mem_of_lookup h)))
 ·unfold mI;show _=N.length;rw[MP,ML,RF]
  lia
theorem DE{CX:Fj}{P:UU}{w:UY}{K:W.Frag}{mg:Str->Option oA}{base:oE}{k:Nat}{f:UQ}{name qual:Str}{params:Arguments}{body:List UZ}{scope:WJ}{dV kV doc pm YH ct oc:oA}{an od:Option UQ}
  {nj:Array (Option oA)} {N ps:List Str} {sp:Sp} (lk:K.lookup f=oZ ⟨oc,od,.func (W.fnOf name qual params body scope dV kV doc pm an YH ct),nj⟩) (bc:W.codeIn K YH qual=true) (S:aK N ps scope)
  (len:∀vs H Q E,sp vs H Q E->vs.length=ps.length)
  (bw:∀(A:oD)(outer:List Env)(s:oB)(H:Hp)(vs:List V)(Q:VK)(E:XK),dW k (A.deeper (WL qual scope s.heap.objs.size f YH))->sp vs H Q E->
   ∃t,Je (yV CX P w K mg base N qual scope f YH A outer s H E) body t/\t { nx:=λ_ H'=>Q .non H',rt:=Q } (mI N vs) H) :
  bE P w K mg base CX (k+1) f (W.fnOf name qual params body scope dV kV doc pm an YH ct) ps sp:=by
 refine⟨len,λA outer s H args us vs Q E hr e0 hb r nr=>?_⟩;have hl:=len _ _ _ _ nr;have KX:K.In s.heap:=e0.mod.kin.keeps λb o e=>(e0.bs b o e).1;have lim:s.heap.NoLimit:=e0.mod.nolimit.keeps λb o e=>(e0.bs b o e).1;have vo:∀y∈ps.zip us,scope.names.lookup y.1=oZ .local\/(scope.names.lookup y.1=oZ .cell/\((cellsFrom (s.heap.objs.size+1) scope.names []).lookup y.1).isSome=true):=λzZ hy=>by
  obtain⟨n,v⟩:=zZ;obtain q|q:=S.par n (PQ hy).1
  ·exact .inl q
  ·exact .inr ⟨q,W.cellsFrom_some _ _ _ (.inl q)⟩
 refine codeAny_call_function hr.depth (KX _ _ lk) rfl S.co S.gen rfl (W.codeRec_of KX bc) (hb _ _ _ _ ?_);refine wpAny_newFunctionEnv_cells S.kind vo λenv he s1 x=>?_;subst he;refine⟨lim.keeps x.toInCall.keep,codeAny_func ?_⟩;obtain⟨t,ht,hq⟩:=bw A outer s H vs Q E (hr.deeper _) nr;have I:aS (yV CX P w K mg base N qual scope f YH A outer s H E) [] (mI N vs) H s1:=Oh S hr.hd e0 hl r x;refine WA (ht [] s1 (mI N vs) H _ I hq) (λfl s' hs=>?_) λe s' hs=>hs;have fin:∀{σ':St}{H':Hp}{v:V}{u:oA},aS (yV CX P w K mg base N qual scope f YH A outer s H E) [] σ' H' s'->bM v u->Q v H'->CE outer P w H s Q u s':=
  λ{σ' H' v u}J rv q=>⟨v,H',J.os,J.bare,J.base,J.hok,rv,q⟩
 cases fl with
 |ret u=>
  obtain⟨v,σ',H',J,rv,q⟩:=hs;exact fin J rv q
 |next=>
  obtain⟨σ',H',J,q⟩:=hs;exact fin (v:=V.non) (u:=PK) J rfl q
 |brk=>
  obtain⟨_,_,_,q⟩:=hs;exact False.elim q
 |cont=>
  obtain⟨_,_,_,q⟩:=hs;exact False.elim q
section
variable{X:Cx}{x:Str}{p pos:Pos}{e:oC}{es:List oC}{t:TA}{id T:String}{r:List V->Hp->VK->Prop}
def BQ(r:List V->Hp->VK->Prop)(t:TA):TE:=λσ H Q=>t σ H λvs H1=>r vs H1 Q
theorem Ux(hc:iH X (.builtin id) r)(hg:Gl X x)(hm:X.mg x=none)(hv:VU x=oZ (.builtin id))(ha:PA X (e::es) t)(hn:x≠"__name__":=by decide)(ZR:(x==("__debug__":Str))=false:=by decide)(he:VB (e::es) X.env=(false,VF e X.env)::VB es X.env:=by rfl)(ni:(WH pos (VB es X.env)).any (·.1)=false:=by rfl):PE X (.Call (.Name x p) (e::es) [] pos) (BQ r t):=by
 intro pins s σ H Q I h;refine WY (rG I hg hm hv ?_ hn ZR);exact PyProof.Rows.callWith_builtin1 (cW (ha pos pins s σ H _ I h) λus s1 zZ=>by obtain⟨vs,H1,I1,r1,q1⟩:=zZ;exact hc pins s1 σ H1 vs us Q I1 r1 q1) he ni
theorem Pf(hc:iH X (.type T) r)(hg:Gl X x)(hm:X.mg x=none)(hv:VU x=oZ (.type T))(ha:PA X (e::es) t)(hn:x≠"__name__":=by decide)(ZR:(x==("__debug__":Str))=false:=by decide)(he:VB (e::es) X.env=(false,VF e X.env)::VB es X.env:=by rfl)(ni:(WH pos (VB es X.env)).any (·.1)=false:=by rfl):PE X (.Call (.Name x p) (e::es) [] pos) (BQ r t):=by
 intro pins s σ H Q I h;refine WY (rG I hg hm hv ?_ hn ZR);exact PyProof.Rows.callWith_type1 (cW (ha pos pins s σ H _ I h) λus s1 zZ=>by obtain⟨vs,H1,I1,r1,q1⟩:=zZ;exact hc pins s1 σ H1 vs us Q I1 r1 q1) he ni
end
end L2
namespace HT
open PySem PyProof.Rows
section
open PySem.SeqAt
open PySem.AutoSeq1 (wpAny_loadPart')
open PySem.MeetsSeq PySem.MeetsSeq2 PySem.MeetsSeq3
end
theorem cat_tup{E:oA->oB->Prop}{Q:oA->oB->Prop}(ht:IsTup s.heap t vs.toArray)(hb:IsTup s.heap b ws.toArray)(hv:vs≠[])(h1:ws=[]->Q (.ref t) s)(h2:ws≠[]->Q (.ref s.heap.objs.size) { s with heap:=s.heap.push { cls:=.type "tuple",data:=.seq (vs++ws).toArray } })(hsz:vs.length+ws.length<=UT):US (UW prog w) A (VS .Add (.ref t) (.ref b)) Q E s:=by
 obtain⟨⟨cls,dd,data,sl⟩,ho,hc,n,hd⟩:=id ht;obtain⟨⟨aEQ,dd2,data2,sl2⟩,yw,hc2,n2,hd2⟩:=id hb;simp only at hc hd hc2 hd2;subst hc hd hc2 hd2;have e:vs.toArray++ws.toArray=(vs++ws).toArray:=by simp
 by_cases hw:ws=[]
 ·exact concat_meets ⟨_,ho,rfl⟩ ⟨_,yw,rfl⟩ noFill_tuple_add seq_tuple_add PySem.F.slot_tuple_add PySem.F.entry_tuple_add (PySem.F.args_tuple_add_2 _ _)
   (tuple_addW1 t b vs.toArray ws.toArray n n2 dd dd2 sl sl2 (by simpa using hv) (by simp[hw])) ⟨ho,yw,h1 hw⟩
 ·refine concat_meets ⟨_,ho,rfl⟩ ⟨_,yw,rfl⟩ noFill_tuple_add seq_tuple_add PySem.F.slot_tuple_add PySem.F.entry_tuple_add (PySem.F.args_tuple_add_2 _ _)
   (tuple_addW2 t b vs.toArray ws.toArray n n2 dd dd2 sl sl2 (by simpa using hv) (by simpa using hw) (by rw[MZ,MZ];exact hsz)) ⟨ho,yw,?_⟩
  rw[e];exact h2 hw
def sIx(n d:Nat):Option Int->Nat
 |none=>d
 |some v=>if v<0 then(v+(n:Int)).toNat else min v.toNat n
theorem sIx_none(n d:Nat):sIx n d none=d:=rfl
theorem sIx_nat(n d k:Nat):sIx n d (oZ (k:Int))=min k n:=by
 show(if(k:Int)<0 then((k:Int)+(n:Int)).toNat else min (k:Int).toNat n)=min k n;rw[oW ⋯,PH]
theorem AV(n d:Nat)(hd:d<=n)(o:Option Int):sIx n d o<=n:=by
 cases o with
 |none=>exact hd
 |some v=>
  show(if v<0 then(v+(n:Int)).toNat else min v.toNat n)<=n
  by_cases hv:v<0
  ·rw[oV hv];lia
  ·rw[oW hv];exact Nat.min_le_right _ _
theorem Jn(v:Int)(n d:Nat):(if v<0 then max (v+(n:Int)) 0 else min v (n:Int))=((sIx n d (oZ v):Nat):Int):=by
 show(if v<0 then max (v+(n:Int)) 0 else min v (n:Int))=(((if v<0 then(v+(n:Int)).toNat else min v.toNat n):Nat):Int)
 by_cases hv:v<0
 ·simp only[oV hv];lia
 ·simp only[oW hv];lia
theorem Fu(lo hi:Option Int)(n:Nat):Builtin.Slice.sliceAdjust lo hi 1 (n:Int)=(((sIx n 0 lo:Nat):Int),((sIx n n hi:Nat):Int)):=by
 have h1:¬((1:Int)<0):=⋯
 unfold Builtin.Slice.sliceAdjust;simp only[h1,if_false];refine Prod.ext ?_ ?_
 ·cases lo with
  |none=>rfl
  |some v=>exact Jn v n 0
 ·cases hi with
  |none=>rfl
  |some v=>exact Jn v n n
theorem Hn(i j:Nat):Builtin.Slice.slicePlaces (i:Int) (j:Int) 1=j-i:=by
 unfold Builtin.Slice.slicePlaces;have h1:(1:Int)>0:=⋯
 simp only[h1,if_true,Int.ediv_one]
 split<;>lia
theorem vO{E:oA->oB->Prop}{o:Option Int}{Q:Option Int->oB->Prop}(p:IsPart v o)(h:Q o s):US (UW prog w) A (Builtin.Slice.slicePartIndex v) Q E s:=by
 cases p with
 |none=>exact slicePart_none h
 |int i t=>exact slicePart_int h
theorem rT{E:oA->oB->Prop}{lo hi:Option Int}{Q:Int×Int×Nat->oB->Prop}(hs:s.heap.IsSliceOf sl vl vu .none)(pl:IsPart vl lo)(pu:IsPart vu hi)(h:Q (((sIx n 0 lo:Nat):Int),1,sIx n n hi-sIx n 0 lo) s):US (UW prog w) A (Builtin.Slice.sliceApplied (.ref sl) (pure (n:Int))) Q E s:=by
 obtain⟨os,vp,hcs,yx⟩:=id hs;unfold Builtin.Slice.sliceApplied Builtin.Slice.sliceFields;refine UP (UP (VN vp yx (x:=vl) rfl (UP (VN vp yx (x:=vu) rfl (UP (VN vp yx (x:=.none) rfl (UR ?_)))))));refine UP (slicePart_none ?_);show US _ _ (if((1:Int)==0)=true then _ else _) _ _ s;rw[oW ∅];refine UP (vO pl (UP (vO pu (UP (UR ?_)))));show US _ _ (match Builtin.Slice.sliceAdjust lo hi 1 (n:Int)with|(lo,hi)=>pure (lo,(1:Int),Builtin.Slice.slicePlaces lo hi 1)) _ _ s;rw[Fu lo hi n];show US _ _ (pure (((sIx n 0 lo:Nat):Int),(1:Int),Builtin.Slice.slicePlaces ((sIx n 0 lo:Nat):Int) ((sIx n n hi:Nat):Int) 1)) _ _ s;rw[Hn];exact UR h
theorem Vf(xs:Array oA)(i k:Nat):((OG k).filterMap λ(m:Nat)=>xs[((i:Int)+(m:Int)*1).toNat]?).toArray=((xs.toList.drop i).take k).toArray:=by
 have e:(λ(m:Nat)=>xs[((i:Int)+(m:Int)*1).toNat]?)=λm=>xs[i+m]?:=by
  funext m
  have:((i:Int)+(m:Int)*1).toNat=i+m:=⋯
  rw[this]
 rw[e];have:=pick_run xs i k;rw[QZ]at this;have e2:((λx=>xs[x]?)∘λx=>i+x)=λm=>xs[i+m]?:=rfl;rw[e2]at this;rw[this]
theorem getItem_tuple_cut{E:oA->oB->Prop}{lo hi:Option Int}{Q:oA->oB->Prop}(ht:IsTup s.heap t items)(hs:s.heap.IsSliceOf sl vl vu .none)(pl:IsPart vl lo)(pu:IsPart vu hi)(hw:¬(sIx items.size 0 lo=0/\sIx items.size items.size hi=items.size))(h:Q (.ref s.heap.objs.size) { s with heap:=s.heap.push { cls:=.type "tuple",data:=.seq ((items.toList.drop (sIx items.size 0 lo)).take (sIx items.size items.size hi-sIx items.size 0 lo)).toArray } })(hsz:items.size<=UT):US (UW prog w) A (WI (.ref t) (.ref sl)) Q E s:=by
 have de:sizeOk (.seq ((items.toList.drop (sIx items.size 0 lo)).take (sIx items.size items.size hi-sIx items.size 0 lo)).toArray):=by
  show((items.toList.drop (sIx items.size 0 lo)).take (sIx items.size items.size hi-sIx items.size 0 lo)).toArray.size<=UT;rw[MZ,OC,QM,QX];omega
 have hj:sIx items.size items.size hi<=items.size:=AV _ _ (MQ _) hi;obtain⟨os,vp,hcs,yx⟩:=id hs;have hTs:s.TypeIs (.ref sl) "slice":=⟨os,vp,hcs⟩;unfold WI
 try with_reducible refine VZ ?_
 first|refine UP (UR ?_)|skip
 refine UP (wpAny_sequenceKey ht.typeIs ∅ ?_);refine UP (wpAny_callSpecial?_slot (name:=PZ "__getitem__") ht.typeIs PyProof.Rows.slot_tuple_getitem
  (VI PyProof.Rows.slot_tuple_getitem ht.typeIs entry_tuple_getitem ?_ (args_tuple_getitem _ _)))
 show US _ _ (Builtin.Tuple.tupleItemsOf (.ref t) >>= _) _ _ s;refine UP (tupleItemsOf_ ht ?_);refine UP (wpAny_typeOf hTs ?_);rw[oV ∅];refine UP (rT hs pl pu ?_);have ZP:¬((((sIx items.size 0 lo:Nat):Int)==0&&(1:Int)==1&&(sIx items.size items.size hi-sIx items.size 0 lo)==items.size)=true):=by
  intro q;rw[NY,NY]at q;have q1:((sIx items.size 0 lo:Nat):Int)=0:=eq_of_beq q.1.1;have q2:sIx items.size items.size hi-sIx items.size 0 lo=items.size:=eq_of_beq q.2;exact hw ⟨by omega,by omega⟩
 show US _ _ (if(((sIx items.size 0 lo:Nat):Int)==0&&(1:Int)==1&&(sIx items.size items.size hi-sIx items.size 0 lo)==items.size)=true then _ else _) _ _ s;rw[oW ZP,Vf]
 first
  |exact UP (m:=Builtin.Tuple.tupleExact _) (VD (UR ⟨_,rfl,UR h⟩) de)
  |exact UP (m:=Builtin.Tuple.tupleExact _) (VD (UP (UR (UR ⟨_,rfl,UR h⟩))) de)
  |exact UP (UP (m:=Builtin.Tuple.tupleExact _) (VD (UR (UR ⟨_,rfl,UR h⟩)) de))
  |exact UP (UP (m:=Builtin.Tuple.tupleExact _) (VD (UR ⟨_,rfl,UR h⟩) de))
end HT
namespace L2
open PySem PySem.Spec PyProof.Rows
abbrev TO:=St->Hp->(Option Int->Hp->Prop)->Prop
def PO(X:Cx)(e:Option oC)(t:TO):Prop:=
 ∀(pins:List (UQ×Obj))(s:oB)(σ:St)(H:Hp)(Q:Option Int->Hp->Prop),aS X pins σ H s->t σ H Q->
  US (UW X.prog X.w) X.A (evalPart e X.env) (λu s'=>∃o H',aS X pins σ H' s'/\IsPart u o/\Q o H') X.xe s
def Mn:TO:=λ_ H Q=>Q none H
def Q1(t:TE):TO:=λσ H Q=>t σ H λx H1=>∃i,x = .int i/\Q (oZ i) H1
section
variable{X:Cx}{e:oC}{te:TE}{lo hi:Option oC}{tl th:TO}{pos p2:Pos}
theorem D5:PO X none Mn:=by
 intro pins s σ H Q I h;rw[WZ];exact UR ⟨none,H,I,.none,h⟩
theorem D6(h:PE X e te):PO X (oZ e) (Q1 te):=by
 intro pins s σ H Q I hw;rw[evalPart_some];refine cW (h pins s σ H _ I hw) λu s1 zZ=>?_;obtain⟨x,H1,I1,r1,q1⟩:=zZ;obtain⟨i,rfl,q⟩:=q1;obtain⟨t,rfl⟩:=r1;exact⟨oZ i,H1,I1,.int i t,q⟩
def BY(X:Cx)(r:V->Option Int->Option Int->Hp->VK->Prop):Prop:=
 ∀(pins:List (UQ×Obj))(s:oB)(σ:St)(H:Hp)(x:V)(v vl vu:oA)(lo hi:Option Int)(sl:UQ)(Q:VK),aS X pins σ H s->bM x v->s.heap.IsSliceOf sl vl vu .none->IsPart vl lo->IsPart vu hi->r x lo hi H Q->
  ∃T id,typeLookup (.type T) "__getitem__" = pure (oZ (.builtin id))/\s.TypeIs v T/\US (UW X.prog X.w) X.A (WI v (.ref sl)) (EP X pins σ Q) X.xe s
def KU(r:V->Option Int->Option Int->Hp->VK->Prop)(te:TE)(tl th:TO):TE:=λσ H Q=>te σ H λx H1=>tl σ H1 λl H2=>th σ H2 λu H3=>r x l u H3 Q
theorem Vb{r:V->Option Int->Option Int->Hp->VK->Prop}(hr:BY X r)(he:PE X e te)(hl:PO X lo tl)(hu:PO X hi th):PE X (.Subscript e (.Slice lo hi none p2) pos) (KU r te tl th):=by
 intro pins s σ H Q I h;refine Subscript_ (cW (he pins s σ H _ I h) λv s1 zZ=>?_);obtain⟨x,H1,I1,r1,q1⟩:=zZ;refine wpAny_Slice (cW (hl pins s1 σ H1 _ I1 q1) λvl s2⟨l,H2,I2,pl,q2⟩=>cW (hu pins s2 σ H2 _ I2 q2) λvu s3 zZ=>?_);obtain⟨u,H3,I3,pu,q3⟩:=zZ;rw[WZ];refine UR ?_;have I4:aS X pins σ H3 { s3 with heap:=s3.heap.push { cls:=.type "slice",data:=.fields #[vl,vu,.none] } }:=I3.kept (t':=s3.toks) λb ob q=>MM _ q;obtain⟨T,id,hT,ht,hg⟩:=hr pins { s3 with heap:=s3.heap.push { cls:=.type "slice",data:=.fields #[vl,vu,.none] } } σ H3 x v vl vu l u s3.heap.objs.size Q I4 r1 (Heap.IsSliceOf.new ..) pl pu q3;show US (UW X.prog X.w) X.A (subscriptTail e (.Slice lo hi none p2) v (.ref s3.heap.objs.size)) (EP X pins σ Q) X.xe { s3 with heap:=s3.heap.push { cls:=.type "slice",data:=.fields #[vl,vu,.none] } };exact tail_any (ops:=[.ref s3.heap.objs.size,v]) ht hT hg (by with_unfolding_all rfl)
def By(xs:List V)(lo hi:Option Int):List V:=(xs.drop (HT.sIx xs.length 0 lo)).take (HT.sIx xs.length xs.length hi-HT.sIx xs.length 0 lo)
theorem sG(xs:List V)(lo hi:Option Int):(By xs lo hi).length<=xs.length:=by
 unfold By;rw[OC,QM]
 lia
def JU(K:W.Frag):V->Option Int->Option Int->Hp->VK->Prop:=λx lo hi H Q=>∃a xs,x = .ref a/\nA K H a xs/\
 ¬(HT.sIx xs.length 0 lo=0/\HT.sIx xs.length xs.length hi=xs.length)/\∀p,H p=none->Q (.ref p) (upd H p (.tup (By xs lo hi)))
theorem AY:BY X (JU X.K):=by
 intro pins s σ H x v vl vu lo hi sl Q I rx hs pl pu h;obtain⟨a,xs,rfl,hx,hw,q⟩:=h;cases rx;obtain⟨XD,r,ht,hz⟩:=I.tuple hx;have hlen:XD.toArray.size=xs.length:=by rw[MZ];exact r.length.symm
 refine⟨"tuple",_,PyProof.Rows.slot_tuple_getitem.lookup,ht.typeIs,?_⟩;refine HT.getItem_tuple_cut ht hs pl pu (by rw[hlen];exact hw) ?_ (by rw[hlen];exact hz);rw[hlen];refine⟨.ref s.heap.objs.size,_,I.laid (t':=s.toks) (o:=.tup (By xs lo hi)) (λb ob q=>MM _ q) (MQ _) ?_,rfl,q _ (I.hok.fresh (MQ _))⟩;exact⟨OH (sG xs lo hi) hz,_,(r.drop (HT.sIx xs.length 0 lo)).take (HT.sIx xs.length xs.length hi-HT.sIx xs.length 0 lo),IsTup.new _ _⟩
def EY(K:W.Frag):R2:=λx y H Q=>∃a b xs ys,x = .ref a/\y = .ref b/\nA K H a xs/\nA K H b ys/\xs≠[]/\xs.length+ys.length<=UT/\
 (ys=[]->Q (.ref a) H)/\(ys≠[]->∀p,H p=none->Q (.ref p) (upd H p (.tup (xs++ys))))
theorem bA.nil_iff(r:bA xs us):us=[]↔xs=[]:=by
 cases r with
 |nil=>simp
 |cons _ _=>simp
theorem A8:lK X (VS .Add) (EY X.K):=by
 intro pins s σ H x y v u Q I rx ry h;obtain⟨a,b,xs,ys,rfl,rfl,ha,hb,hx,hz,q1,q2⟩:=h;cases rx;cases ry;obtain⟨XD,r1,p1,_⟩:=I.tuple ha;obtain⟨bz,r2,p2,_⟩:=I.tuple hb;refine HT.cat_tup p1 p2 (λz=>hx (r1.nil_iff.mp z)) (λz=>⟨.ref a,H,I,rfl,q1 (r2.nil_iff.mp z)⟩) (λz=>?_) (by rw[<-r1.length,<-r2.length];exact hz);refine⟨.ref s.heap.objs.size,_,I.laid (t':=s.toks) (o:=.tup (xs++ys)) (λb ob q=>MM _ q) (MQ _) ?_,rfl,q2 (λw=>z (r2.nil_iff.mpr w)) _ (I.hok.fresh (MQ _))⟩;exact⟨by rw[MP];exact hz,_,r1.append r2,IsTup.new _ _⟩
end
def Fg(n:Nat)(i:Int):Option Nat:=if 0<=i then(if i<n then oZ i.toNat else none)else if -(n:Int)<=i then oZ (i+n).toNat else none
def jY{α:Type}(xs:List α)(i:Int):Option α:=(Fg xs.length i).bind λj=>xs[j]?
theorem Kq{i:Int}(h:Fg n i=oZ j):seqIndex? i n=oZ j/\j<n/\-(n:Int)<=i/\i<n:=by
 unfold Fg at h
 by_cases h0:0<=i
 ·rw[oV h0]at h
  by_cases h1:i<n
  ·rw[oV h1]at h;have e:i.toNat=j:=Option.some.inj h;exact⟨by rw[seqIndex_of h0 h1,e],⋯,⋯,h1⟩
  ·rw[oW h1]at h;cases h
 ·rw[oW h0]at h
  by_cases h1:-(n:Int)<=i
  ·rw[oV h1]at h;have e:(i+n).toNat=j:=Option.some.inj h;exact⟨by rw[seqIndex_neg ⋯ h1,e],⋯,h1,⋯⟩
  ·rw[oW h1]at h;cases h
theorem yN{α:Type}{xs:List α}{i:Int}{v:α}(h:jY xs i=oZ v):∃j,seqIndex? i xs.length=oZ j/\xs[j]?=oZ v/\j<xs.length/\-(xs.length:Int)<=i/\i<xs.length:=by
 unfold jY at h;cases e:Fg xs.length i with
 |none=>rw[e]at h;cases h
 |some j=>
  rw[e]at h;obtain⟨h1,h2,h3,h4⟩:=Kq e;exact⟨j,h1,h,h2,h3,h4⟩
theorem yO{α:Type}{xs:List α}{j:Nat}{v:α}(h:xs[j]?=oZ v):jY xs (j:Int)=oZ v:=by
 have hj:j<xs.length:=(MK.mp h).1;have e:Fg xs.length (j:Int)=oZ j:=by
  unfold Fg;rw[oV ⋯,oV ⋯];simp
 unfold jY;rw[e];exact h
def pC(b:oC):Prop:=∀o i,WQ b false o i=operate [o,i] (WI o i)
def Xq(X:Cx)(r:R2):Prop:=
 ∀(value slice:oC)(pins:List (UQ×Obj))(s:oB)(σ:St)(H:Hp)(x y:V)(v u:oA)(Q:VK),aS X pins σ H s->bM x v->bM y u->r x y H Q->
  WQ slice false v u=operate [v,u] (WI v u)->US (UW X.prog X.w) X.A (subscriptTail value slice v u) (EP X pins σ Q) X.xe s
def HE(X:Cx)(id:String)(r:V->List V->Hp->VK->Prop):Prop:=
 ∀(pins:List (UQ×Obj))(s:oB)(σ:St)(H:Hp)(x:V)(xs:List V)(v:oA)(us:List oA)(Q:VK),aS X pins σ H s->bM x v->bA xs us->r x xs H Q->
  US (UW X.prog X.w) X.A (call (.builtin id) (v::us)) (EP X pins σ Q) X.xe s
section
variable{X:Cx}{a b:oC}{ta tb:TE}{pos:Pos}
theorem Xq.or(h:Xq X r)(h':Xq X r'):Xq X (λx y H Q=>r x y H Q\/r' x y H Q):=by
 intro value slice pins s σ H x y v u Q I rx ry q hs;obtain q|q:=q
 ·exact h value slice pins s σ H x y v u Q I rx ry q hs
 ·exact h' value slice pins s σ H x y v u Q I rx ry q hs
theorem EG(hr:Xq X r)(ha:PE X a ta)(hb:PE X b tb)(hs:pC b):PE X (.Subscript a b pos) (Ww r ta tb):=by
 intro pins s σ H Q I h;exact Subscript_ (S7 ha hb I h λv u s2 x y H2 I2 rx ry q=>hr a b pins s2 σ H2 x y v u Q I2 rx ry q (hs _ _))
def EZ(K:W.Frag):R2:=λx y H Q=>∃p xs i v,x = .ref p/\y = .int i/\jJ K H p xs/\jY xs i=oZ v/\Q v H
def FF(K:W.Frag):R2:=λx y H Q=>∃p xs i v,x = .ref p/\y = .int i/\nA K H p xs/\jY xs i=oZ v/\Q v H
def FD:R2:=λx y H Q=>∃z i c,x = .str z/\y = .int i/\z.length<=UT/\jY z.cps.toList i=oZ c/\Q (.str ⟨#[c]⟩) H
theorem Zg:Xq X (EZ X.K):=by
 intro value slice pins s σ H x y v u Q I rx ry h hs;obtain⟨p,xs,i,z,rfl,rfl,hq,he,q⟩:=h;cases rx;obtain⟨t,rfl⟩:=ry;obtain⟨XD,r,pl,hz⟩:=I.list hq;obtain⟨j,h1,h2,h3,h4,h5⟩:=yN he;obtain⟨w,ew,jz⟩:=r.get h2;have hl:=r.length;have hn:=rH;have fin:EP X pins σ Q w s:=⟨z,H,I,jz,q⟩
 by_cases h0:0<=i
 ·have hj:i.toNat=j:=by
   rw[seqIndex_of h0 h5]at h1;exact Option.some.inj h1
  exact item_listR pl.isList h0 ⋯ (by rw[hj];simpa using ew) fin hs
 ·have hj:(i+(XD.toArray.size:Int)).toNat=j:=by
   rw[seqIndex_neg ⋯ h4]at h1;rw[MZ,<-hl];exact Option.some.inj h1
  exact subscriptTail_builtinR (x:=w) pl.isList.typeIs slot_list_getitem.lookup
   (wpAny_getItem_list_neg (Q:=λr s'=>r=w/\EP X pins σ Q r s') pl.isList ⋯ (by rw[MZ]<;>lia) ⋯ (by rw[hj];simpa using ew) ⟨rfl,fin⟩) hs
theorem V5:Xq X (FF X.K):=by
 intro value slice pins s σ H x y v u Q I rx ry h hs;obtain⟨p,xs,i,z,rfl,rfl,hq,he,q⟩:=h;cases rx;obtain⟨t,rfl⟩:=ry;obtain⟨XD,r,pl,hz⟩:=I.tuple hq;obtain⟨j,h1,h2,h3,h4,h5⟩:=yN he;obtain⟨w,ew,jz⟩:=r.get h2;have hl:=r.length;have hn:=rH;have fin:EP X pins σ Q w s:=⟨z,H,I,jz,q⟩;exact subscriptTail_builtinR (x:=w) pl.typeIs slot_tuple_getitem.lookup
  (getItem_tuple (j:=j) (Q:=λr s'=>r=w/\EP X pins σ Q r s') pl ⋯ ⋯ (by rw[MZ,<-hl];exact h1) (by simpa using ew) ⟨rfl,fin⟩) hs
theorem V4:Xq X FD:=by
 intro value slice pins s σ H x y v u Q I rx ry h hs;obtain⟨z,i,c,rfl,rfl,hz,he,q⟩:=h;obtain⟨t,rfl⟩:=rx;obtain⟨t',rfl⟩:=ry;obtain⟨j,h1,h2,h3,h4,h5⟩:=yN he;have hl:z.cps.toList.length=z.length:=by simp[Str.length]
 rw[hl]at h1 h4 h5;have hn:=rH;exact tail_any (typeIs_str s z t) slot_str_getitem.lookup (getItem_str (c:=c) (by
  have e1:decide (i < -(2^63:Int))=false:=oX ⋯;have e2:decide (i>=2^63)=false:=oX ⋯;rw[e1,e2,Bool.or_false]) (by rw[h1];simpa using h2) ⟨.str ⟨#[c]⟩,H,I.tok _,⟨_,rfl⟩,q⟩) hs
def LY(K:W.Frag):R2:=λx y H Q=>EZ K x y H Q\/FF K x y H Q\/FD x y H Q
theorem Tj:Xq X (LY X.K):=Zg.or (V5.or V4)
theorem Hb(XD:List oA)(n j:Nat)(u:oA):RA (·.setIfInBounds j u) { cls:=.type "list",data:=.seq XD.toArray n } = { cls:=.type "list",data:=.seq (XD.set j u).toArray n }:=by
 simp[RA]
theorem aS.lst(I:aS X pins σ H s)(h:H p=oZ (.lst xs)):
  ∃(XD:List oA)(n:Nat),bA xs XD/\s.heap.get? p=oZ { cls:=.type "list",data:=.seq XD.toArray n }/\xs.length<=UT:=by
 obtain⟨z,XD,n,r,e⟩:=I.hok p _ h;exact⟨XD,n,r,e,z⟩
theorem aS.lstUpd{H:Hp}{s:oB}{ys:List V}{XD its':List oA}{f:Obj->Obj}(I:aS X pins σ H s)(h:H p=oZ (.lst xs))(ho:s.heap.get? p=oZ { cls:=.type "list",data:=.seq XD.toArray n })(hf:f { cls:=.type "list",data:=.seq XD.toArray n } = { cls:=.type "list",data:=.seq its'.toArray n' })(r:bA ys its')(hz:ys.length<=UT)(t:Nat):
  aS X pins σ (upd H p (.lst ys)) { s with heap:=s.heap.update p f,toks:=t }:=by
 have e:(s.heap.update p f).get? p=oZ { cls:=.type "list",data:=.seq its'.toArray n' }:=by
  rw[QD f ho (by rw[hf]<;>rfl),hf]
 refine I.write (x:=p) (e:=p) (by rw[h];trivial) (.inl rfl) (λb u hb q=>(UB _ _ (Ne.symm hb)).trans q) ⟨_,e⟩ ?_;exact⟨hz,its',n',r,e⟩
def FJ:V->V->V->Hp->(Hp->Prop)->Prop:=λo i v H Q=>∃p xs k j,o = .ref p/\i = .int k/\H p=oZ (.lst xs)/\Fg xs.length k=oZ j/\Q (upd H p (.lst (xs.set j v)))
theorem Wj:Yc X FJ:=by
 intro pins s σ H o i v ov iv u Q I ro ri rv h;obtain⟨p,xs,k,j,rfl,rfl,hp,hj,q⟩:=h;cases ro;obtain⟨t,rfl⟩:=ri;obtain⟨XD,n,r,ho,hz⟩:=I.lst hp;obtain⟨h1,h2,h3,h4⟩:=Kq hj;have hl:=r.length;have hn:=rH;have I':aS X pins σ (upd H p (.lst (xs.set j v))) { s with heap:=s.heap.update p (RA (·.setIfInBounds j u)) }:=
  I.lstUpd hp ho (Hb XD n j u) (r.set rv j) (by rw[SA];exact hz) s.toks
 by_cases h0:0<=k
 ·have hk:k.toNat=j:=by
   rw[seqIndex_of h0 h4]at h1;exact Option.some.inj h1
  exact W.ki_setAt ho h0 ⋯ (by rw[MZ,<-hl];exact h4) (by rw[hk];exact⟨_,I',q⟩)
 ·have hk:(k+(XD.toArray.size:Int)).toNat=j:=by
   rw[seqIndex_neg ⋯ h3]at h1;rw[MZ,<-hl];exact Option.some.inj h1
  exact W.ki_setBack ho ⋯ (by rw[MZ,<-hl];exact h3) ⋯ (by rw[hk];exact⟨_,I',q⟩)
theorem As(lo hi:Option Int)(n:Nat):(VM lo hi none n).1=((HT.sIx n 0 lo:Nat):Int)/\(VM lo hi none n).2.1=((HT.sIx n n hi:Nat):Int)/\(VM lo hi none n).2.2=1:=by
 refine⟨?_,?_,rfl⟩
 ·cases lo with
  |none=>simp[VM,HT.sIx]
  |some i=>
   simp only[VM,HT.sIx,Option.getD_none,show(1:Int)>0 by decide,if_true]
   by_cases h:i<0
   ·simp only[h,if_true]<;>lia
   ·simp only[h,if_false]<;>lia
 ·cases hi with
  |none=>simp[VM,HT.sIx]
  |some i=>
   simp only[VM,HT.sIx,Option.getD_none,show(1:Int)>0 by decide,if_true]
   by_cases h:i<0
   ·simp only[h,if_true]<;>lia
   ·simp only[h,if_false]<;>lia
theorem wQ(XD:List oA)(lo hi:Option Int):slicePick XD.toArray lo hi none=((XD.drop (HT.sIx XD.length 0 lo)).take (HT.sIx XD.length XD.length hi-HT.sIx XD.length 0 lo)).toArray:=by
 obtain⟨h1,h2,h3⟩:=As lo hi XD.toArray.size;unfold slicePick;rw[h1,h2,h3];simp only[sliceRange_one,pick_run,MZ]<;>rfl
def JS(K:W.Frag):V->Option Int->Option Int->Hp->VK->Prop:=λx lo hi H Q=>∃a xs,x = .ref a/\jJ K H a xs/\∀p,H p=none->Q (.ref p) (upd H p (.lst (By xs lo hi)))
theorem J5:BY X (JS X.K):=by
 intro pins s σ H x v vl vu lo hi sl Q I rx hs pl pu h;obtain⟨a,xs,rfl,hx,q⟩:=h;cases rx;obtain⟨XD,r,ht,hz⟩:=I.list hx;have hlen:=r.length;refine⟨"list",_,slot_list_getitem.lookup,ht.isList.typeIs,?_⟩;refine wpAny_getItem_list_slice ht.isList hs pl pu .none (by simp) ?_ (by rw[MZ]<;>lia);rw[wQ,<-hlen];refine⟨.ref s.heap.objs.size,_,I.laid (t':=s.toks) (o:=.lst (By xs lo hi)) (λb ob q=>MM _ q) (MQ _) ?_,rfl,q _ (I.hok.fresh (MQ _))⟩;exact⟨OH (sG xs lo hi) hz,_,0,(r.drop (HT.sIx xs.length 0 lo)).take (HT.sIx xs.length xs.length hi-HT.sIx xs.length 0 lo),NA _ rfl⟩
theorem yR:iH X (.builtin "len") (λxs H Q=>∃p ys,xs=[.ref p]/\(jJ X.K H p ys\/nA X.K H p ys)/\Q (.int ys.length) H):=by
 intro pins s σ H xs us Q I r h;obtain⟨p,ys,rfl,hq,q⟩:=h;obtain⟨u,rfl,rx⟩:=sN r;cases rx;have hn:=rH;obtain hq|hq:=hq
 ·obtain⟨XD,r',pl,hz⟩:=I.list hq;have hlen:=r'.length;exact Calls.call_len_list pl.isList (by simp only[MZ]<;>lia) ⟨.int ys.length,H,I.tok _,⟨s.toks+1,by rw[MZ,hlen]⟩,q⟩
 ·obtain⟨XD,r',pl,hz⟩:=I.tuple hq;have hlen:=r'.length;exact len_tuple pl (by simp only[MZ]<;>lia) ⟨.int ys.length,H,I.tok _,⟨s.toks+1,by rw[MZ,hlen]⟩,q⟩
theorem yS:iH X (.type "list") (λxs H Q=>∃p ys,xs=[.ref p]/\(jJ X.K H p ys\/nA X.K H p ys)/\∀l,H l=none->Q (.ref l) (upd H l (.lst ys))):=by
 intro pins s σ H xs us Q I r h;obtain⟨p,ys,rfl,hq,q⟩:=h;obtain⟨u,rfl,rx⟩:=sN r;cases rx;have fin:∀(XD:List oA),bA ys XD->ys.length<=UT->∀(h':oE)(c':Nat),(∀b o',s.heap.get? b=oZ o'->h'.get? b=oZ o')->
   h'.get? s.heap.objs.size=oZ { cls:=.type "list",dict:=none,data:=.seq XD.toArray c',slots:=#[] }->EP X pins σ Q (.ref s.heap.objs.size) { s with heap:=h' }:=λXD r' hz h' c' kp e=>
  ⟨.ref s.heap.objs.size,_,I.laid (t':=s.toks) kp (MQ _) (show dD X.prog X.w _ h' _ (.lst ys)from⟨hz,XD,c',r',e⟩),rfl,q _ (I.hok.fresh (MQ _))⟩
 obtain hq|hq:=hq
 ·obtain⟨XD,r',pl,hz⟩:=I.list hq;have hlen:=r'.length;obtain⟨o,ho,hc,n,hd⟩:=pl.isList;exact call_list_seq p (.inl rfl) ho hc hd (λh' c' kp e=>fin XD r' hz h' c' kp e) (by simp only[MZ]<;>lia)
 ·obtain⟨XD,r',pl,hz⟩:=I.tuple hq;have hlen:=r'.length;obtain⟨o,ho,hc,n,hd⟩:=pl;exact call_list_seq p (.inr rfl) ho hc hd (λh' c' kp e=>fin XD r' hz h' c' kp e) (by simp only[MZ]<;>lia)
theorem wB:iH X (.type "tuple") (λxs H Q=>∃p ys,xs=[.ref p]/\((jJ X.K H p ys/\∀l,H l=none->Q (.ref l) (upd H l (.tup ys)))\/(nA X.K H p ys/\Q (.ref p) H))):=by
 intro pins s σ H xs us Q I r h;obtain⟨p,ys,rfl,h⟩:=h;obtain⟨u,rfl,rx⟩:=sN r;cases rx;obtain⟨hq,q⟩|⟨hq,q⟩:=h
 ·obtain⟨XD,r',pl,hz⟩:=I.list hq;have hlen:=r'.length;refine call_tuple_list pl.isList (λh' kp=>?_) (by simp only[MZ]<;>lia);have I1:aS X pins σ H { s with heap:=h' }:=I.kept (t':=s.toks) kp;have I2:aS X pins σ (upd H h'.objs.size (.tup ys)) { s with heap:=h'.push { cls:=.type "tuple",data:=.seq XD.toArray } }:=
   I1.laid (t':=s.toks) (λb o e=>MM _ e) (MQ _) (show dD X.prog X.w _ _ _ (.tup ys)from⟨hz,XD,r',IsTup.new _ _⟩)
  exact⟨.ref h'.objs.size,_,I2,rfl,q _ (I1.hok.fresh (MQ _))⟩
 ·obtain⟨XD,r',pl,hz⟩:=I.tuple hq;exact call_tuple_same pl ⟨.ref p,H,I,rfl,q⟩
def KY(K:W.Frag)(T:String)(x:V)(H:Hp):Prop:=match x with
 |.str _=>T = "str"
 |.int _=>T = "int"
 |.ref p=>(T = "list"/\∃xs,jJ K H p xs)\/(T = "tuple"/\∃o,K.lookup p=oZ o/\o.cls = .type "tuple"/\o.dict=none)\/
   (T = "dict"/\((∃XN,H p=oZ (.dK XN))\/∃XN,H p=oZ (.dT XN)))\/(T = "set"/\∃S n,H p=oZ (.set S n))
 |_=>False
theorem BH(I:aS X pins σ H s)(r:bM x v)(ty:KY X.K T x H):
  s.TypeIs v T/\∀a,v = .ref a->∃ob,s.heap.get? a=oZ ob/\ob.dict=none:=by
 cases x with
 |str z=>
  obtain⟨t,rfl⟩:=r;cases(show T = "str" from ty);exact⟨typeIs_str s z t,λ_ e=>nomatch e⟩
 |int i=>
  obtain⟨t,rfl⟩:=r;cases(show T = "int" from ty);exact⟨typeIs_int s i t,λ_ e=>nomatch e⟩
 |ref p=>
  cases r;obtain⟨rfl,xs,hq⟩|⟨rfl,o,hk,hc,hd⟩|⟨rfl,hk⟩|⟨rfl,S,n,hk⟩:=ty
  ·obtain⟨XD,_,pl,_⟩:=I.list hq;refine⟨pl.isList.typeIs,λa e=>?_⟩;cases e;obtain⟨o,n,e,c,hd,_⟩:=pl;exact⟨o,e,hd⟩
  ·refine⟨⟨o,I.kIn p o hk,hc⟩,λa e=>?_⟩;cases e;exact⟨o,I.kIn _ o hk,hd⟩
  ·have z:∃o,s.heap.get? p=oZ o/\o.ExactDict:=by
    obtain⟨XN,hk⟩|⟨XN,hk⟩:=hk
    ·obtain⟨_,_,_,_,o,_,_,e,ex,_⟩:=I.hok p _ hk;exact⟨o,e,ex⟩
    ·obtain⟨_,_,_,_,o,_,_,e,ex,_⟩:=I.hok p _ hk;exact⟨o,e,ex⟩
   obtain⟨o,e,ex⟩:=z;refine⟨⟨o,e,ex.1⟩,λa e2=>?_⟩;cases e2;exact⟨o,e,ex.2.1⟩
  ·obtain⟨o,_,_,_,e,ex,_⟩:=I.hok p _ hk;refine⟨⟨o,e,ex.1⟩,λa e2=>?_⟩;cases e2;exact⟨o,e,ex.2.1⟩
 |_=>exact False.elim ty
def HL(K:W.Frag)(T:String)(r:V->List V->Hp->VK->Prop)(to:TE)(t:TA):TE:=λσ H Q=>to σ H λx H1=>KY K T x H1/\t σ H1 λxs H2=>r x xs H2 Q
variable{o e:oC}{es:List oC}{to:TE}{t:TA}{name:Str}{apos YZ:Pos}{T id:String}{r:V->List V->Hp->VK->Prop}
theorem Uw(pa:PlainAttrs T)(slot:Slot T name id)(hty:typeOf (.builtin id)=pure (.type "method_descriptor"))(hm:HE X id r)(ho:PE X o to)(ha:PA X (e::es) t)(YF:VR o name X.env (VF o X.env)=VF o X.env:=by rfl)(aAG:((WH YZ (VB (e::es) X.env)).all (λx=>!x.1)&&(backToKw YZ (keywordEach [] X.env)).all (λx=>x.1.isSome)
  &&decide ((e::es).length+([]:List Keyword).length+(if([]:List Keyword).isEmpty then 0 else 1)<30))=true:=by rfl)(YG:(apos.endLine==YZ.line)=true:=by rfl)(hs:VB (e::es) X.env=(false,VF e X.env)::VB es X.env:=by rfl)(qf:(WH YZ (VB es X.env)).any (·.1)=false:=by rfl):
  PE X (.Call (.Attribute o name apos) (e::es) [] YZ) (HL X.K T r to t):=by
 intro pins s σ H Q I h;refine wpAny_Call_method_late YF aAG YG rfl (cW (ho pins s σ H _ I h) λv s1 zZ=>?_);obtain⟨x,H1,I1,r1,ty,q1⟩:=zZ;obtain⟨h1,h2⟩:=BH I1 r1 ty;refine⟨T,id,pa,slot,hty,h1,h2,?_⟩;have hA:=ha YZ pins s1 σ H1 _ I1 q1;rw[hs]at hA⊢;refine Calls.callWith_builtin (by show(false||(WH YZ (VB es X.env)).any (·.1))=false;rw[qf]<;>rfl) (Calls.evalArgs_plain ?_);exact cW hA λus s2 zZ=>by obtain⟨vs,H2,I2,r2,q2⟩:=zZ;exact hm pins s2 σ H2 x vs v us Q I2 r1 r2 q2
/- xs.append(e),list.index on a module's tuple .. are HE facts of 06m -/
end
def KD(X:Cx)(id:String)(r:V->List V->Hp->VK->Prop):Prop:=
 ∀(pins:List (UQ×Obj))(s:oB)(σ:St)(H:Hp)(x:V)(xs:List V)(v:oA)(us:List oA)(Q:VK),aS X pins σ H s->bM x v->bA xs us->r x xs H Q->
  US (UW X.prog X.w) X.A (call (.builtin id) (v::us)) (EP X pins σ Q) X.xe s
theorem bA.one:∀{x:V}{us:List oA},bA [x] us->∃u,us=[u]/\bM x u
 |_,_,.cons r .nil=>⟨_,rfl,r⟩
theorem bA.two:∀{x y:V}{us:List oA},bA [x,y] us->∃u v,us=[u,v]/\bM x u/\bM y v
 |_,_,_,.cons r (.cons q .nil)=>⟨_,_,rfl,r,q⟩
theorem bA.reverse(h:bA xs us):bA xs.reverse us.reverse:=by
 induction h with
 |nil=>exact .nil
 |cons r t ih=>rw[RQ,RQ];exact bA.append ih (.cons r .nil)
theorem aS.lset{H:Hp}{s:oB}{ys:List V}{XD its':List oA}{f:Array oA->Array oA}(I:aS X pins σ H s)(hH:H l=oZ (.lst xs))(e:s.heap.get? l=oZ { cls:=.type "list",data:=.seq XD.toArray n })(hf:f XD.toArray=its'.toArray)(hv:bA ys its')(hz:ys.length<=UT):
  aS X pins σ (upd H l (.lst ys)) { s with heap:=s.heap.update l (RA f),toks:=t' }:=by
 have q:=PySem.IsL.update e f;rw[hf]at q;refine I.write (x:=l) (e:=l) (by rw[hH];exact trivial) (.inl rfl) (λb' u hb hu=>(UB s.heap (RA f) (Ne.symm hb)).trans hu) ⟨_,q⟩ ?_;exact⟨hz,its',_,hv,q⟩
theorem aS.lnew(I:aS X pins σ H s)(hv:bA ys XD)(hz:ys.length<=UT):
  aS X pins σ (upd H s.heap.objs.size (.lst ys)) { s with heap:=s.heap.push { cls:=.type "list",data:=.seq XD.toArray },toks:=t' }:=
 I.laid (λ_ _ q=>MM _ q) (MQ _) ⟨hz,XD,0,hv,NA _ rfl⟩
theorem aS.fresh(I:aS X pins σ H s):H s.heap.objs.size=none:=I.hok.fresh (MQ _)
theorem aS.lstM(I:aS X pins σ H s)(hH:H l=oZ (.lst xs)):xs.length<=UT/\∃(XD:List oA)(n:Nat),bA xs XD/\xs.length=XD.length/\s.heap.get? l=oZ { cls:=.type "list",data:=.seq XD.toArray n }:=by
 obtain⟨z,XD,n,r,e⟩:=I.hok l _ hH;exact⟨z,XD,n,r,r.length,e⟩
theorem Ue(h:n<=UT):Builtin.List.listTooLong n=false:=by
 unfold Builtin.List.listTooLong;exact oX ⋯
def Ls:V->List V->Hp->VK->Prop:=λx vs H Q=>∃l xs y,x = .ref l/\vs=[y]/\H l=oZ (.lst xs)/\xs.length<UT/\Q .non (upd H l (.lst (xs++[y])))
theorem xU:KD X "list.append" Ls:=by
 intro pins s σ H x vs v us Q I rx rv h;obtain⟨l,xs,y,rfl,rfl,hH,hz,q⟩:=h;cases rx;obtain⟨u,rfl,ru⟩:=rv.one;obtain⟨z,XD,n,r,hl,e⟩:=I.lstM hH;refine call_meets F.slot_list_append ⟨_,e,rfl⟩ F.entry_list_append (F.args_list_append_2 _ _) (PySem.list_append l XD.toArray n u (by rw[MZ];lia)) ⟨e,?_⟩;refine⟨.non,_,I.lset (its':=XD++[u]) hH e (by simp) (r.append (.cons ru .nil)) ?_,rfl,q⟩;rw[MP,OM]
 lia
def Lu:V->List V->Hp->VK->Prop:=λx vs H Q=>∃l b xs zs,x = .ref l/\vs=[.ref b]/\H l=oZ (.lst xs)/\H b=oZ (.lst zs)/\xs.length+zs.length<=UT/\Q .non (upd H l (.lst (xs++zs)))
theorem Om:KD X "list.extend" Lu:=by
 intro pins s σ H x vs v us Q I rx rv h;obtain⟨l,b,xs,zs,rfl,rfl,hH,hB,hz,q⟩:=h;cases rx;obtain⟨u,rfl,ru⟩:=rv.one;cases ru;obtain⟨z,XD,n,r,hl,e⟩:=I.lstM hH;obtain⟨z2,bz,n2,r2,nu,e2⟩:=I.lstM hB;have hsz:XD.toArray.size+bz.toArray.size<=UT:=by rw[MZ,MZ];lia
 have vw:¬(!XD.toArray.isEmpty&&Builtin.List.listTooLong (XD.toArray.size+bz.toArray.size))=true:=by
  rw[Ue hsz,UG];exact PL
 refine call_meets F.slot_list_extend ⟨_,e,rfl⟩ F.entry_list_extend (F.args_list_extend_2 _ _)
  (AutoSeq1.list_extend_list_list_0 l XD.toArray n b bz.toArray n2 vw (by rw[MZ];lia) ⋯) ⟨e,e2,?_⟩
 refine⟨.non,_,I.lset (its':=XD++bz) hH e (by simp) (r.append r2) ?_,rfl,q⟩;rw[MP]
 lia
def JR:R2:=λx y H Q=>∃l b xs zs,x = .ref l/\y = .ref b/\H l=oZ (.lst xs)/\H b=oZ (.lst zs)/\xs.length+zs.length<=UT/\∀p,H p=none->Q (.ref p) (upd H p (.lst (xs++zs)))
theorem X3:lK X (VS .Add) JR:=by
 intro pins s σ H x y v u Q I rx ry h;obtain⟨l,b,xs,zs,rfl,rfl,hH,hB,hz,q⟩:=h;cases rx;cases ry;obtain⟨z,XD,n,r,hl,e⟩:=I.lstM hH;obtain⟨z2,bz,n2,r2,nu,e2⟩:=I.lstM hB;refine PySem.P.add_list e e2 ?_ (by rw[MZ,MZ];lia);have ea:XD.toArray++bz.toArray=(XD++bz).toArray:=by simp
 rw[ea];exact⟨.ref _,_,I.lnew (t':=s.toks) (r.append r2) (by rw[MP];lia),rfl,q _ I.fresh⟩
end L2
namespace Att
open PySem PySem.W PySem.Calls PyProof.Rows
theorem sP:∀(ns:List Int)(vs:List oA),WellAll P h vs (ns.map WData.int)->IntsAre vs ns:=by
 intro ns
 induction ns with
 |nil=>
  intro vs w;rw[QN]at w;cases w;exact .nil
 |cons n ns ih=>
  intro vs w;rw[MR]at w;cases w with
  |cons a b=>
   cases a;exact .cons _ _ (ih _ b)
theorem Pp{l:OpenLaw}(hn:l.most=oZ n){h:oE}(YI:l.row.toRowW.claim.pre args=true)(hwl:WellAll P h vals args):
  ∃a vs ns,vals=[NO a]/\args=[WData.list (ns.map WData.int)]/\h.get? a=oZ { cls:=.type "list",data:=.seq vs.toArray }/\IntsAre vs ns/\ns.length<=n:=by
 have qg:WShape.hasAll [] args [.list .int]=true:=(pre_splitW YI).1;have hc:l.pre.holds [] { args:=args } = true:=(pre_splitW YI).2;obtain⟨d,r,rfl,h1,h2⟩:=hasAllW_cons qg;obtain rfl:=hasAllW_nil h2;obtain⟨xs,rfl,h3⟩:=hasW_list h1;obtain⟨ns,rfl⟩:=items_int h3;have hlen:ns.length<=n:=by
  unfold OpenLaw.pre at hc;have h4:(WTm.not (.lt (.lit (.int (n:Int))) (.len (.arg 0)))).holds [] { args:=[.list (ns.map .int)] } = true:=by
   have h4:=(holds_andW hc).1;rw[hn]at h4;exact h4
  have h5:=condW_of h4 (w_not (w_lt w_lit (w_len_list (w_arg rfl))));rw[ML]at h5;refine Nat.le_of_not_lt λq=>?_;have q':(n:Int)<((ns.length:Nat):Int):=⋯
  first
   |(rw[oY q']at h5;exact absurd h5 ∅)
   |(simp at h5;lia)
 cases hwl with
 |cons w1 w2=>
  cases w2;cases w1 with
  |list ho du=>exact⟨_,_,ns,rfl,rfl,ho,sP ns _ du,hlen⟩
theorem Ph(l:OpenLaw)(args:List WData):l.row.toRowW.claim.post args (.bool true) args=true:=
 postW_of (r:=l.row.toRowW) (X:=(true==true))
  (show WShape.has [] (.bool true) .bool=true by first|rfl|decide|simp[WShape.has,WShape.arms,WShape.armsAll])
  (show(WTm.eq .res (.lit (.bool true))).value [] { args:=args,res:=oZ (.bool true),after:=args } = oZ (.bool (true==true))from w_eq_bool (w_res rfl) w_lit) rfl
theorem attach_call{l:OpenLaw}{XP:(Str->Option oA)->oE->Prop}{YP:UY->oE->Prop}{d:DefRec}(hn:l.most=oZ n)(vx:d.params.defaults=[])(call:∀(w:UY)(s₀ s₁:oB)(mg mb:Str->Option oA)(fa:UQ)(o:Obj)(pm cd doc:oA)(a:UQ)(vs:List oA)(ns:List Int),
   Ground q loose [] XP w s₀ mg mb s₁.heap->YP w s₁.heap->
   s₁.heap.get? fa=oZ o->o.data = .func (docDef d.name d.params d.body d.scope pm cd doc)->s₁.heap.CodeRec cd d.name->mg d.name=oZ (.ref fa)->
   s₁.heap.get? a=oZ { cls:=.type "list",data:=.seq vs.toArray }->IntsAre vs ns->ns.length<=n->s₁.gens = #[]->
   codeAny (UW l.prog w) XC (.call (.ref fa) ⟨[.ref a],[]⟩) (λr s'=>r = .ok (.ret (.bool true))/\OldK s₁.heap s'.heap/\s'.os=s₁.os/\WN s'.gens) s₁):
  WalkO q loose XP YP l.row.toRowW d [] (λf vs=>PySem.call f vs):=by
 intro w s₀ s₁ mg mb G Y fa o pm cd doc dV kV ho hd bc hD hmg hg args vals as YI aES hrd hwl hlo;obtain rfl:dV = .none:=Dflts.none hD vx;obtain rfl:kV = .none:=Dflts.noKw hD;obtain⟨a,vs,ns,rfl,rfl,qh,hints,hlen⟩:=Pp hn YI hwl;refine enter_call (codeAny_mono (call w s₀ s₁ mg mb fa o pm cd doc a vs ns G Y ho (fd_plain hd) bc hmg qh hints hlen hg) λr s' hq=>?_);obtain⟨rfl,h2,h3,h4⟩:=hq;exact⟨.inl ⟨.bool true,.bool true,[],rfl,λ_=>rfl,.bool true,Ph l _,λ_=>⟨List.Pairwise.nil,λ_ hm=>(nomatch hm)⟩⟩,h2,h3,h4⟩
end Att
namespace L2
open PySem PySem.Spec PyProof.Rows
theorem yI:∀{vs:List oA}{ns:List Int},IntsAre vs ns->bA (ns.map V.int) vs
 |_,_,.nil=>.nil
 |_,_,.cons n t h=>.cons ⟨t,rfl⟩ (yI h)
def R5(H:Hp):Prop:=∀b,H b=none\/∃o xs,H b=oZ (.frz o (.lst xs))
theorem Tr{K:W.Frag}{mb:Str->Option oA}{CX:Fj}{sp:Sp}{s₁:oB}{vs:List oA}{ns:List Int}(KX:K.In s₁.heap)(kf:s₁.heap.Ns UX mg)(hb:s₁.heap.Ns builtinsNs mb)(hbb:∀x:Str,x≠"__name__"->mb x=VU x)(aAI:s₁.heap.NoLimit)(hg:s₁.gens = #[])(ha:s₁.heap.get? a=oZ { cls:=.type "list",data:=.seq vs.toArray })(hi:IntsAre vs ns)(hl:ns.length<=UT)(hr:dW k XC)(F:∀base:oE,K.In base->base.Ns UX mg->bE P w K mg base CX k fa fd [x] sp)(vy:∀(s:oB)(u:oA),BindsTo s fd ⟨[u],[]⟩ [(x,u)])(nr:∀H:Hp,R5 H->jJ K H a (ns.map V.int)->sp [.ref a] H (λv _=>v = .bl true) λ_ _ _=>False)(hCX:∀H e s',CX [] H s₁ (λ_ _ _=>False) e s'->False):
  codeAny (UW P w) XC (.call (.ref fa) ⟨[.ref a],[]⟩) (λr s'=>r = .ok (.ret (.bool true))/\OldK s₁.heap s'.heap/\s'.os=s₁.os/\WN s'.gens) s₁:=by
 have rv:=yI hi;have aAK:=hi.length
 -- from an abstract heap in which nothing but the script may be tracked
 have core:∀H:Hp,R5 H->jJ K H a (ns.map V.int)->nJ P w H s₁.heap->(∀b,H b≠none->b=a)->(H a≠none->K.lookup a=none)->
   codeAny (UW P w) XC (.call (.ref fa) ⟨[.ref a],[]⟩) (λr s'=>r = .ok (.ret (.bool true))/\OldK s₁.heap s'.heap/\s'.os=s₁.os/\WN s'.gens) s₁:=by
  intro H hO hS hok hA hK;have df:∀{b:UQ}{o:Obj},s₁.heap.get? b=oZ o->H b=none->(zE s₁.heap H).get? b=oZ o:=λe n=>Ta e n;have vn:∀{b:UQ}{o:Obj}{es:Array DictEntry}{ep:Nat},s₁.heap.get? b=oZ o->o.data = .dict es ep->H b=none:=λ{b o es ep}e d=>by
   cases q:H b with
   |none=>rfl
   |some u=>
    have e':b=a:=hA b (by rw[q];simp);subst e';rw[ha]at e;cases e;have d':Data.seq vs.toArray _=Data.dict es ep:=d;cases d'
  have yy:∀{b:UQ}{m:Str->Option oA},s₁.heap.Ns b m->(zE s₁.heap H).Ns b m:=λ{b m}zZ=>by obtain⟨o,es,ep,e,d,r⟩:=zZ;exact⟨o,es,ep,df e (vn e d),d,r⟩
  have hKb:K.In (zE s₁.heap H):=λb o e=>df (KX b o e) (by
   cases q:H b with
   |none=>rfl
   |some u=>
    have e':b=a:=hA b (by rw[q];simp);subst e';rw[hK (by rw[q];simp)]at e;cases e)
  have hM:Mod K mg (zE s₁.heap H):=⟨hKb,yy kf,⟨mb,yy hb,hbb⟩,let⟨mc,h1,h2⟩:=aAI;⟨mc,yy h1,h2⟩⟩;have e0:Xz P w K mg (zE s₁.heap H) XC [] s₁ H:=⟨rfl,hM,λb o e=>Zo e,Nat.le_of_eq (Og _ _),trivial,λb hb=>absurd (show b∈([]:List UQ)from hb) (by simp),hok,.of_eq hg⟩;refine codeAny_mono ((F _ hKb (yy kf)).run XC [] s₁ H ⟨[.ref a],[]⟩ [.ref a] [.ref a] _ _ hr e0 (vy s₁ (.ref a)) (.cons rfl .nil) (nr H hO hS)) λr s' h=>?_;cases r with
  |error e=>exact(hCX H e s' h).elim
  |ok fl=>
   cases fl with
   |next=>exact False.elim h
   |brk=>exact False.elim h
   |cont=>exact False.elim h
   |ret u=>
    obtain⟨v,H',os,bare,un,qi,r',q⟩:=h;have q':v = .bl true:=q;subst q';obtain rfl:u=Value.bool true:=r';refine⟨rfl,OldK.of_keep λb o e=>?_,os,bare⟩;cases q:H b with
    |none=>exact un.keep b o e q (by intro z;exact absurd (show b∈([]:List UQ)from z) (by simp)) (by simp)
    |some u=>
     obtain z|⟨ob,xs,z⟩:=hO b
     ·rw[q]at z;cases z
     ·have z2:=un.frzs b ob _ z;obtain⟨e1,_⟩:=hok b _ z;obtain⟨e2,_⟩:=qi b _ z2;rw[e]at e1;cases e1;exact e2
 cases hk:K.lookup a with
 |some o=>
  -- the script is one of the module's own objects
  have e:=KX a o hk;rw[ha]at e;cases e;refine core (λ_=>none) (λ_=>.inl rfl) (.inr ⟨_,vs.toArray,_,hk,rfl,rfl,rfl,by rw[MZ,aAK];exact hl,by simpa using rv⟩) (λb u z=>by have z':(none:Option HO)=oZ u:=z;cases z') (λb z=>absurd rfl z) λz=>absurd rfl z
 |none=>
  refine core (λb=>if b=a then oZ (.frz { cls:=.type "list",data:=.seq vs.toArray } (.lst (ns.map V.int)))else none) (λb=>?_) (.inl (.inr ⟨{ cls:=.type "list",data:=.seq vs.toArray },oV rfl⟩)) (λb u z=>?_) (λb z=>?_) λ_=>hk
  ·by_cases hb:b=a
   ·exact .inr ⟨_,_,oV hb⟩
   ·exact .inl (oW hb)
  ·by_cases hb:b=a
   ·have z':=(oV hb).symm.trans z;cases z';subst hb;exact⟨ha,by rw[ML];exact hl,vs,_,rv,ha⟩
   ·have z':=(oW hb).symm.trans z;cases z'
  ·by_cases hb:b=a
   ·exact hb
   ·exact absurd (oW hb) z
theorem K6{l:W.OpenLaw}{XP:(Str->Option oA)->oE->Prop}{YP:UY->oE->Prop}{d:DefRec}{K:Params->W.Frag}{CX:UY->Fj}{sp:UY->Sp}(hn:l.most=oZ n)(hn2:n<=UT)(vx:d.params.defaults=[])(hr:dW k XC)(hY:∀(w:UY)(h:oE),YP w h->(K w.params).In h)(F:∀(w:UY)(mg:Str->Option oA)(fa:UQ)(h:oE),(K w.params).In h->h.Ns UX mg->mg d.name=oZ (.ref fa)->
   ∃fd:VH,(∀(s:oB)(u:oA),BindsTo s fd ⟨[u],[]⟩ [(x,u)])/\
    ∀base:oE,(K w.params).In base->base.Ns UX mg->bE l.prog w (K w.params) mg base (CX w) k fa fd [x] (sp w))(nr:∀(w:UY)(H:Hp)(a:UQ)(ns:List Int),ns.length<=n->R5 H->jJ (K w.params) H a (ns.map V.int)->sp w [.ref a] H (λv _=>v = .bl true) λ_ _ _=>False)(hCX:∀(w:UY)(H:Hp)(s:oB)(e:oA)(s':oB),CX w [] H s (λ_ _ _=>False) e s'->False):
  W.WalkO q loose XP YP l.row.toRowW d [] (λf vs=>PySem.call f vs):=by
 refine Att.attach_call hn vx λw s₀ s₁ mg mb fa o pm cd doc a vs ns G Y ho hd bc hmg qh hints hlen hg=>?_;have KX:=hY w _ Y;obtain⟨fd,hb,hF⟩:=F w mg fa _ KX G.T.g hmg;exact Tr KX G.T.g G.T.b G.T.builtins G.T.nolimit hg qh hints (OH hlen hn2) hr hF hb (λH hO hS=>nr w H a ns hlen hO hS) λH e s'=>hCX w H s₁ e s'
end L2
/- THE LAST THEOREM (shape;LID,My.* are yours):
   My.Adr: a structure of the addresses that your layer names (classes,functions);My.Txt K t: a structure (Prop) of the equations over K;
   My.txt_mk:{K} {implicit addresses ..} (e1:nsIn K UX "law" = oZ (oZ (.ref f))) (e2:K.lookup f=oZ ⟨oc,od,.func (fnOf "law" "law" params body scope dV kV doc pm an YH ct),sl⟩) (e3:codeIn K YH "law" = true) .. : ∃t,My.Txt K t
set_option maxRecDepth 100000 in
set_option maxHeartbeats 0 in
(the tactic k_is has no namespace: write k_is) -/
namespace L2
open PySem PySem.Spec PyProof.Rows
def gG(s:UZ):Arguments:=match s with
 |.FunctionDef _ a _ _ _ _ _ _ _ _=>a
 |_=>{ posonlyargs:=[],args:=[],vararg:=none,kwonlyargs:=[],kw_defaults:=[],kwarg:=none,defaults:=[] }
def dF(s:UZ):List UZ:=match s with
 |.FunctionDef _ _ b _ _ _ _ _ _ _=>b
 |_=>[]
def aC(s:UZ):WJ:=match s with
 |.FunctionDef _ _ _ _ _ _ sc _ _ _=>sc
 |_=>{ kind:=.function,names:=[],isGenerator:=false,isCoroutine:=false }
abbrev eT:Fj:=λ_ _ _ _ _ _=>False
abbrev E0:XK:=λ_ _ _=>False
theorem ED:Ft eT X E0:=λ_ _ _ _ _ _ _ h=>h.elim
structure dY(K:W.Frag)(x qual:Str)(st:UZ)(f:UQ)(fd:VH):Prop where
 ex:∃(oc:oA)(od:Option UQ)(kV doc pm:oA)(an:Option UQ)(YH ct:oA)(nj:Array (Option oA)),
  fd=W.fnOf x qual (gG st) (dF st) (aC st) .none kV doc pm an YH ct/\K.lookup f=oZ ⟨oc,od,.func fd,nj⟩/\W.codeIn K YH qual=true
 kp:W.keepIn K (.ref f)=true
theorem dY.ok{P:UU}{w:UY}{K:W.Frag}{mg:Str->Option oA}{base:oE}{x qual:Str}{st:UZ}{f:UQ}{fd:VH}{N ps:List Str}{k:Nat}{sp:Sp}(F:dY K x qual st f fd)(S:aK N ps (aC st))(len:∀vs H Q E,sp vs H Q E->vs.length=ps.length)(bw:∀(YH:oA)(A:oD)(outer:List Env)(s:oB)(H:Hp)(vs:List V)(Q:VK)(E:XK),dW k (A.deeper (WL qual (aC st) s.heap.objs.size f YH))->sp vs H Q E->
   ∃t,Je (yV eT P w K mg base N qual (aC st) f YH A outer s H E).nox (dF st) t/\t { nx:=λ_ H'=>Q .non H',rt:=Q } (mI N vs) H):(~~~bE) eT (k+1) f fd ps sp:=by
 obtain⟨oc,od,kV,doc,pm,an,YH,ct,nj,rfl,lk,bc⟩:=F.ex;refine DE lk bc S len λA outer s H vs Q E hr nr=>?_;obtain⟨t,h,q⟩:=bw YH A outer s H vs Q E hr nr;exact⟨t,h.nox,q⟩
theorem dY.binds{K:W.Frag}{x qual:Str}{st:UZ}{f:UQ}{fd:VH}{ps:List Str}(F:dY K x qual st f fd)(h:∀(kV doc pm:oA)(an:Option UQ)(YH ct:oA)(us:List oA),us.length=ps.length->bindArgs (W.fnOf x qual (gG st) (dF st) (aC st) .none kV doc pm an YH ct) ⟨us,[]⟩=pure (ps.zip us)):k9 K fd ps []:=by
 obtain⟨oc,od,kV,doc,pm,an,YH,ct,nj,rfl,lk,bc⟩:=F.ex;exact .all (h kV doc pm an YH ct)
theorem Sq{K:W.Frag}{x qual:Str}{st:UZ}{f:UQ}{oc:oA}{od an:Option UQ}{nj:Array (Option oA)}{kV doc pm YH ct:oA}(l:K.lookup f=oZ ⟨oc,od,.func (W.fnOf x qual (gG st) (dF st) (aC st) .none kV doc pm an YH ct),nj⟩)(c:W.codeIn K YH qual=true)(k:W.keepIn K (.ref f)=true):dY K x qual st f (W.fnOf x qual (gG st) (dF st) (aC st) .none kV doc pm an YH ct):=⟨⟨oc,od,kV,doc,pm,an,YH,ct,nj,rfl,l,c⟩,k⟩
theorem DL(hr:dW k A):A.units+1<VW:=NH (Nat.add_le_add_left (by decide:1<=64) _) hr.units
theorem bU(h:n<=9000):n<UT:=NH h ∅
theorem Nh:iH X (.builtin "abs") (λxs H Q=>∃i:Int,xs=[.int i]/\Q (.int (i.natAbs:Int)) H):=by
 intro pins s σ H xs us Q I r h;obtain⟨i,rfl,q⟩:=h;obtain⟨u,rfl,rx⟩:=sN r;obtain⟨t,rfl⟩:=rx;have e:(if i<0 then -i else i)=(i.natAbs:Int):=by split<;>lia
 exact call_abs_int λu tk=>⟨.int (i.natAbs:Int),H,I.tok _,⟨u,by rw[e]⟩,q⟩
theorem Nj:iH X (.type "int") (λxs H Q=>∃b:Bool,xs=[.bl b]/\Q (.int (if b then 1 else 0)) H):=by
 intro pins s σ H xs us Q I r h;obtain⟨b,rfl,q⟩:=h;obtain⟨u,rfl,rx⟩:=sN r;cases rx;exact PySem.call_int_bool ⟨.int _,H,I.tok _,⟨_,rfl⟩,q⟩
theorem xB(hc:X.calm=true):iH X (.builtin "all") (λxs H Q=>∃(p:UQ)(bs:List Bool),xs=[.ref p]/\jJ X.K H p (bs.map V.bl)/\Q (.bl (bs.all id)) H):=by
 intro pins s σ H xs us Q I r h;obtain⟨p,bs,rfl,hq,q⟩:=h;obtain⟨u,rfl,rx⟩:=sN r;cases rx;obtain⟨XD,rv,pl,hz⟩:=I.list hq;have YY:p≠s.heap.objs.size:=by
  obtain⟨o,n,ho,_⟩:=pl;exact NQ (MX ho)
 have hl:=rv.length;rw[ML]at hl;have hA:X.A.in1.handled=none:=I.ok.hd hc;refine call_all_walk (wpAny_pyIter_list pl.isList ?_);refine⟨s.heap.objs.size,_,_,_,_,_,(λi=>bs.getD i true),rfl,Walks.list hA s.heap.objs.size p YY XD.toArray,⟨⟨_,NA _ rfl,rfl,rfl⟩,pl.isList.at λo e=>MM _ e⟩,?_,?_⟩
 ·intro i v s' Q' E' hv wa;have jq:XD[i]?=oZ v:=by simpa using hv
  have hi:i<XD.length:=(MK.mp jq).1;have hb:(bs.map V.bl)[i]?=oZ (V.bl bs[i]):=by
   rw[MT,MI ⋯];rfl
  obtain⟨u,hu,ru⟩:=rv.get hb;rw[jq]at hu;cases hu;cases ru;have e:bs.getD i true=bs[i]:=by rw[NG,MI ⋯];rfl
  simp only[e]at wa;exact VJ wa
 ·intro h' tk hk;have e:(OG XD.toArray.size).all (λi=>bs.getD i true)=bs.all id:=by
   rw[MZ,<-hl];clear hl hz rv q hq pl YY;rw[RJ,OQ,OQ];constructor
   ·intro h b hb;obtain⟨i,hi,rfl⟩:=List.mem_iff_getElem.mp hb;have:=h i (OO.mpr hi);rw[NG,MI hi]at this;exact this
   ·intro h i hi;have hi:=OO.mp hi;rw[NG,MI hi];exact h _ (PC hi)
  rw[e];refine⟨.bl _,H,?_,rfl,q⟩;exact I.kept λb o e=>hk b o (by simp;exact NQ (MX e)) (MM _ e)
theorem aS.turnedLaid{X:Cx}{pins:List (UQ×Obj)}{σ:St}{H:Hp}{s:oB}{h':oE}{t':Nat}{ch:List UQ}{a:UQ}{o:HO}(I:aS X pins σ H s)(k:∀b u,b∉ch->s.heap.get? b=oZ u->h'.get? b=oZ u)(hf:∀b∈ch,oQ X pins H b)(hp:s.heap.objs.size<=a)(new:dD X.prog X.w (upd H a o) h' a o):aS X pins σ (upd H a o) { s with heap:=h',toks:=t' }:=by
 have hn:=I.hok.fresh hp;have lx:∀b u,H b=oZ u->b∉ch:=λb u e z=>by rw[(hf b z).1]at e;cases e
 refine I.step (g':=s.gens) (d':=s.drawn) (ch:=ch) (λb hb=>⟨(hf b hb).2.2.2.1,(hf b hb).2.1,(hf b hb).2.2.2.2.1,(hf b hb).2.2.2.2.2⟩) (λb u _ _ hc e _=>k b u hc e) (λb u _ _ hc e _=>⟨u.slots,k b u hc e⟩)
  (λb u hc e n=>by rw[aT (NQ (NC (MX e) hp))];exact n) (λb u hc e=>⟨u,k b u hc e⟩) (λb xs e=>by rw[aT (aV e hn)];exact e) (λb u xs e=>by rw[aT (aV e hn)];exact e)
  (λb ps e=>⟨#[],by rw[aT (aV e hn),e];simp⟩) (λm hm=>?_) (λb u e=>?_) I.bare
 ·obtain⟨ob,es,ep,ho,r⟩:=hm;exact⟨ob,es,ep,k _ ob (λz=>(hf _ z).2.1 rfl) ho,r⟩
 ·by_cases hb:b=a
  ·subst hb;rw[bY]at e;cases e;exact new
  ·rw[aT hb]at e;refine(I.hok b u e).stay (λc v hc q=>k c v ?_ q) (λc q=>by rw[aT (aV q hn)];exact q) λc xs q=>by rw[aT (aV q hn)];exact q
   obtain z|z:=hc
   ·rw[z];exact lx b u e
   ·exact lx c _ z
theorem aS.turnedL{X:Cx}{pins:List (UQ×Obj)}{σ:St}{H:Hp}{s:oB}{h':oE}{t':Nat}{ch:List UQ}(I:aS X pins σ H s)(k:∀b u,b∉ch->s.heap.get? b=oZ u->h'.get? b=oZ u)(hf:∀b∈ch,oQ X pins H b):aS X pins σ H { s with heap:=h',toks:=t' }:=by
 have lx:∀b u,H b=oZ u->b∉ch:=λb u e z=>by rw[(hf b z).1]at e;cases e
 refine I.step (g':=s.gens) (d':=s.drawn) (ch:=ch) (λb hb=>⟨(hf b hb).2.2.2.1,(hf b hb).2.1,(hf b hb).2.2.2.2.1,(hf b hb).2.2.2.2.2⟩) (λb u _ _ hc e _=>k b u hc e) (λb u _ _ hc e _=>⟨u.slots,k b u hc e⟩)
  (λb u hc e n=>n) (λb u hc e=>⟨u,k b u hc e⟩) (λb xs e=>e) (λb u xs e=>e) (λb ps e=>⟨#[],by rw[e];simp⟩) (λm hm=>?_) (λb u e=>?_) I.bare
 ·obtain⟨ob,es,ep,ho,r⟩:=hm;exact⟨ob,es,ep,k _ ob (λz=>(hf _ z).2.1 rfl) ho,r⟩
 ·refine(I.hok b u e).stay (λc v hc q=>k c v ?_ q) (λc q=>q) λc xs q=>q;obtain z|z:=hc
  ·rw[z];exact lx b u e
  ·exact lx c _ z
def HP(K:W.Frag)(a:UQ):It:=
 ⟨λi H=>∃xs x,jJ K H a xs/\xs[i]?=oZ x,λi H x H'=>∃p y,x = .ref p/\H p=none/\H'=upd H p (.tup [.int (i:Int),y])/\∀xs,jJ K H a xs->xs[i]?=oZ y,λi H=>∃xs,jJ K H a xs/\xs.length<=i⟩
theorem Pw{P:UU}{w:UY}{K:W.Frag}{elts:List oC}{x1}{ZS:Pos}(a e it:UQ)(YY:e≠it):
  Bk P w K (.Tuple elts x1 ZS) (HP K a) [e,it] e (λi h=>(∃old,IsEnum h e it (i:Nat) old)/\h.IsListIter it a i) where
 mem:=by simp
 obj:=λi h st b hb=>by
  obtain⟨⟨old,he⟩,⟨o,ho,hc,hd⟩⟩:=st;obtain rfl|hb:=MJ.mp hb
  ·exact⟨_,he,λv z=>by cases z⟩
  ·rw[MW.mp hb];exact⟨o,ho,λv z=>by rw[hd]at z;cases z⟩
 keep:=λi h h' st k=>⟨let⟨old,he⟩:=st.1;⟨old,k e (by simp) _ he⟩,st.2.at λo x=>k it (by simp) o x⟩
 item:=by
  intro X hP hw hK hc i pins s σ H E I hf st hg;subst hP hw hK;obtain⟨xs,x,hq,hx⟩:=hg;obtain⟨XD,rv,p,hz⟩:=I.list hq;obtain⟨u,hu,ru⟩:=rv.get hx;obtain⟨⟨old,he⟩,hit⟩:=st;refine wpAny_pyNext_enum_item he hit p.isList (x:=u) (by simpa using hu) YY λh1 ho aAL ht hsz hk=>⟨_,rfl,?_⟩;refine wpAny_letOwnedTupleGo_enum ho λh2 he2 gj=>?_;have hen:e≠s.heap.objs.size:=NQ (MX he);have kk:∀b o,b∉[e,it]->s.heap.get? b=oZ o->h2.get? b=oZ o:=λb o hb q=>by
   have yz:b≠e:=λz=>hb (by simp[z]);have qk:b≠it:=λz=>hb (by simp[z]);exact gj.extBut b o yz (hk b o yz qk q)
  have new:dD X.prog X.w (upd H s.heap.objs.size (.tup [.int (i:Int),x])) h2 s.heap.objs.size (.tup [.int (i:Int),x]):=
   ⟨by show 2<=UT;decide,[.int i s.toks,u],.cons ⟨_,rfl⟩ (.cons ru .nil),⟨_,gj.extBut _ _ (Ne.symm hen) ht,rfl,_,rfl⟩⟩
  refine⟨.ref s.heap.objs.size,upd H s.heap.objs.size (.tup [.int (i:Int),x]),I.turnedLaid (t':=s.toks+1) (ch:=[e,it]) kk hf (MQ _) new,rfl,
   ⟨_,x,rfl,I.hok.fresh (MQ _),rfl,λys hy=>by rw[I.list_inj hy hq];exact hx⟩,⟨⟨_,by simpa using he2⟩,aAL.extBut gj.extBut (Ne.symm YY)⟩,λb hb=>?_⟩
  have YX:b<s.heap.objs.size:=by
   obtain rfl|hb:=MJ.mp hb
   ·exact MX he
   ·rw[MW.mp hb];obtain⟨o,ak,_⟩:=hit;exact MX ak
  rw[aT (NQ YX)];exact(hf b hb).1
 done:=by
  intro X hP hw hK hc i pins s σ H E I hf st hg;subst hP hw hK;obtain⟨xs,hq,hx⟩:=hg;obtain⟨XD,rv,p,hz⟩:=I.list hq;have hl:=rv.length;obtain⟨⟨old,he⟩,hit⟩:=st;refine wpAny_pyNext_enum_end (I.ok.hd hc) he hit p.isList (by simp;lia) λh1 eb=>⟨rfl,?_⟩;exact I.turnedL (t':=s.toks) (ch:=[e,it]) (λb o hb q=>eb b o (λz=>hb (by simp[z])) q) hf
 self:=λ_ _ _ _ _ st h=>let⟨old,he⟩:=st.1;wpAny_pyIter_enum he h
def M1(K:W.Frag)(ta:TA):TI:=λσ H R=>ta σ H λvs H1=>∃a,vs=[.ref a]/\(∃xs,jJ K H1 a xs)/\R (HP K a) H1
theorem D1{x1}(hg:Gl X "enumerate")(hm:X.mg "enumerate" = none)(ha:PA X [a] ta)(hs:VB [a] X.env=[(false,VF a X.env)]:=by rfl):
  PI X (.Tuple elts x1 ZS) (.Call (.Name "enumerate" p) [a] [] pos) (M1 X.K ta):=by
 intro pins s σ H R I h;refine Call_ (rG I hg hm boot_enumerate (PyProof.Rows.callWith_type1 (cW (ha pos pins s σ H _ I h) λus s1⟨vs,H1,I1,r1,q1⟩=>?_) hs rfl));obtain⟨l,rfl,⟨xs,hq⟩,q⟩:=q1;obtain⟨u,rfl,ru⟩:=bA.one r1;cases ru;obtain⟨XD,rv,pl,hz⟩:=I1.list hq;refine call_enumerate_list pl.isList λh' he hit hsz hk=>?_;refine wpAny_pyIter_enum he ?_;refine⟨s1.heap.objs.size+1,[s1.heap.objs.size+1,s1.heap.objs.size],_,_,H1,rfl,I1.kept (t':=s1.toks) hk,Pw l _ _ (Nat.succ_ne_self _),⟨⟨_,he⟩,hit⟩,λb hb=>?_,q⟩;have hle:s1.heap.objs.size<=b:=by
  obtain rfl|hb:=MJ.mp hb
  ·exact Nat.le_succ _
  ·rw[MW.mp hb];exact MQ _
 exact I1.fpOk hle (I1.hok.fresh hle)
theorem mY {R:Result->oB->Prop} (I:Nat->oB->Prop) (turn:∀n s,I n s->US (UW prog w) A (pyNext it) (λr s₁=>match r with
   | none=>R (.ok .next) s₁
   | some v=>US (UW prog w) A (WU target it v) (λ_ s₂=>US (UW prog w) A (WC target env v) (λ_ s₃=>US (UW prog w) A (forIn ifs true λc r=>if r=true then do let ok <-isTrue c env (VF c env);pure (ForInStep.yield ok) else pure (ForInStep.yield r)) (λok s₃'=>if ok=true then US (UW prog w) A (VF elt env) (λx s₄=>
     US (UW prog w) A (call (.builtin "list.append") [acc,x]) (λ_ s₅=>∃m,m<n/\I m s₅) (λ_ _=>False) s₄) (λ_ _=>False) s₃' else ∃m,m<n/\I m s₃') (λ_ _=>False) s₃) (λ_ _=>False) s₂) (λ_ _=>False) s₁) (λ_ _=>False) s) (n:Nat) (h:I n s):codeAny (UW prog w) A (.compLoop (.ListComp elt [⟨target,iter,ifs,0⟩] scope pos) 0 it acc env) R s:=by
 refine codeAny_loop rfl I (λn s hI=>?_) n h;show US _ A ((compTurn (.ListComp elt [⟨target,iter,ifs,0⟩] scope pos) 0 it acc env).onRaise (λx=>do noteFrame x env;theTreesLotGoes x)) _ _ s;refine wpAny_noted ?_;rw [compTurn_list];refine UP (WS (UP (WA (turn n s hI) (λr s₁ h₁=>?_) λ_ _ h'=>h'.elim)));cases r with
 | none=>exact UR h₁
 | some v=>
  refine UP (WA h₁ (λ_ s₂ h₂=>UP (WA h₂ (λ_ s₃ h₃=>UP (WA h₃ (λok s₃' h₃'=>?_) λ_ _ h'=>h'.elim)) λ_ _ h'=>h'.elim)) λ_ _ h'=>h'.elim);cases ok with
  | false=>exact UR ⟨rfl,h₃'⟩
  | true=>
   exact UP (UP (WA h₃' (λx s₄ h₄=>UP (WA h₄ (λ_ s₅ h₅=>UR (UR ⟨rfl,h₅⟩)) λ_ _ h'=>h'.elim)) λ_ _ h'=>h'.elim))
def Fy(env:Env):List (Str×NameKind)->List (Str×UQ)->List (Str×UQ)
 |[],cs=>cs
 |(n,k)::r,cs=>Fy env r (if k==.free then(match env.cells.lookup n with|some c=>(n,c)::cs|none=>cs)else cs)
def yU(scope:WJ)(env:Env):List (Str×UQ):=Fy env scope.names []
theorem yT(env:Env):∀(ns:List (Str×NameKind))(cs:List (Str×UQ)),(∀y∈ns,y.2 = .free->∃c,env.cells.lookup y.1=oZ c)->
  (forIn ns cs (λx r=>do
   if x.2==.free then
    let a <-cellOf env x.1
    pure (ForInStep.yield ((x.1,a)::r))
   else pure (ForInStep.yield r)):Sem (List (Str×UQ)))=pure (Fy env ns cs)
 |[],cs,_=>rfl
 |(n,k)::r,cs,h=>by
  rw[RB]
  by_cases hk:k = .free
  ·subst hk;obtain⟨c,hc⟩:=h (n,.free) OV rfl;have ay:env.cells.lookup n=oZ c:=hc;have e:cellOf env n=pure c:=by unfold cellOf;rw[ay]
   simp only[beq_self_eq_true,if_true,e,pure_bind,Fy,ay];exact yT env r _ λy hy=>h y (NF _ hy)
  ·have hb:(k==NameKind.free)=false:=by simpa using hk
   simp only[hb,OD,if_false,pure_bind,Fy];exact yT env r _ λy hy=>h y (NF _ hy)
theorem wC(h:∀y∈scope.names,y.2 = .free->∃c,env.cells.lookup y.1=oZ c):closureFor scope env=pure (yU scope env):=by
 have e:=yT env scope.names [] h;unfold yU;rw[<-e];unfold closureFor;simp only[bind_pure]
theorem Bt(env:Env):∀(ns:List (Str×NameKind))(cs:List (Str×UQ))(x:Str)(c:UQ),(∀x c,cs.lookup x=oZ c->env.cells.lookup x=oZ c)->(Fy env ns cs).lookup x=oZ c->env.cells.lookup x=oZ c
 |[],_,x,c,h,e=>h x c e
 |(n,k)::r,cs,x,c,h,e=>by
  refine Bt env r _ x c (λy d hd=>?_) e
  by_cases hk:(k==NameKind.free)=true
  ·rw[oV hk]at hd;cases q:env.cells.lookup n with
   |none=>rw[q]at hd;exact h y d hd
   |some a=>
    rw[q]at hd;simp only[PD]at hd;cases b:y==n with
    |true=>rw[b]at hd;cases hd;rw[eq_of_beq b];exact q
    |false=>rw[b]at hd;exact h y d hd
  ·rw[oW hk]at hd;exact h y d hd
theorem Bv(e:(yU scope env).lookup x=oZ c):env.cells.lookup x=oZ c:=Bt env _ _ x c (λ_ _ h=>by simp at h) e
theorem Bs(env:Env):∀(ns:List (Str×NameKind))(cs:List (Str×UQ))(x:Str)(c:UQ),(cs.lookup x=oZ c\/(x,NameKind.free)∈ns)->env.cells.lookup x=oZ c->(Fy env ns cs).lookup x=oZ c
 |[],_,x,c,h,_=>h.elim (λz=>z) (λz=>by simp at z)
 |(n,k)::r,cs,x,c,h,e=>by
  refine Bs env r _ x c ?_ e;obtain h|h:=h
  ·refine .inl ?_
   split
   ·cases q:env.cells.lookup n with
    |none=>exact h
    |some a=>
     simp only[PD];cases b:x==n with
     |true=>rw[<-eq_of_beq b,e]at q;exact q.symm
     |false=>exact h
   ·exact h
  ·obtain z|z:=MJ.mp h
   ·injection z with z1 z2;subst z1 z2;refine .inl ?_;simp only[beq_self_eq_true,if_true,e,PD]
   ·exact .inr z
theorem Bu(h:(x,NameKind.free)∈scope.names)(e:env.cells.lookup x=oZ c):(yU scope env).lookup x=oZ c:=Bs env _ _ x c (.inr h) e
theorem qB{env:Env}:∀{names:List (Str×NameKind)}{x:Str},(∀y∈names,y.2≠.cell)->
    ((names.map λ(n,k)=>if(k==NameKind.free&&env.scope.kind==.function&&env.kindOf n==oZ .cell)then(n,NameKind.cell)else(n,k)).lookup x=oZ .cell\/
     (names.map λ(n,k)=>if(k==NameKind.free&&env.scope.kind==.function&&env.kindOf n==oZ .cell)then(n,NameKind.cell)else(n,k)).lookup x=oZ .free)->(x,NameKind.free)∈names
  |[],_,_,h=>by simp at h
  |(n,k)::r,x,hc,h=>by
    have ih:=@qB env r x λy hy=>hc y (NF _ hy);have hk:k≠.cell:=hc (n,k) OV;simp only[MR]at h
    by_cases q:(k==NameKind.free&&env.scope.kind==.function&&env.kindOf n==oZ .cell)=true
    . rw[oV q]at h
      simp only[PD]at h;cases b:x==n with
      |true=>
        have:k = .free:=by simp only[NY]at q;exact eq_of_beq q.1.1
        subst this;rw[eq_of_beq b];exact OV
      |false=>rw[b]at h;exact NF _ (ih h)
    . rw[oW q]at h
      simp only[PD]at h;cases b:x==n with
      |true=>
        rw[b]at h;obtain h|h:=h
        . exact absurd (Option.some.inj h) hk
        . have:k = .free:=Option.some.inj h
          subst this;rw[eq_of_beq b];exact OV
      |false=>rw[b]at h;exact NF _ (ih h)
theorem sJ{env:Env}:∀{names:List (Str×NameKind)}{x:Str},names.lookup x=oZ .free->
    ((names.map λ(n,k)=>if(k==NameKind.free&&env.scope.kind==.function&&env.kindOf n==oZ .cell)then(n,NameKind.cell)else(n,k)).lookup x=oZ .cell\/
     (names.map λ(n,k)=>if(k==NameKind.free&&env.scope.kind==.function&&env.kindOf n==oZ .cell)then(n,NameKind.cell)else(n,k)).lookup x=oZ .free)
  |[],_,h=>by simp at h
  |(n,k)::r,x,h=>by
    have ih:=@sJ env r x;simp only[MR];simp only[PD]at h
    by_cases q:(k==NameKind.free&&env.scope.kind==.function&&env.kindOf n==oZ .cell)=true
    . rw[oV q]
      simp only[PD];cases b:x==n with
      |true=>exact .inl rfl
      |false=>rw[b]at h;exact ih h
    . rw[oW q]
      simp only[PD];cases b:x==n with
      |true=>rw[b]at h;exact .inr h
      |false=>rw[b]at h;exact ih h
def bN(X:Cx)(N':List Str)(scope:WJ)(C:UQ)(s3:oB)(H3:Hp)(fp:List UQ):Cx:=
 { X with N:=N',s₀:=s3,H₀:=H3,env:=compEnvC scope (yU scope X.env) C X.env,outer:=X.stack,stack:=X.stack,ex:=fp,fn:=λ_=>false,pn:=[],xe:=λ_ _=>False }
def iM(t:Nat)(cap:List Nat)(σ:St):St:=NW t none++cap.map λk=>(σ[k]?).join
def CF(J:It)(D:UQ)(g:TG)(te:TE)(Q:VK)(σ:St)(H:Hp):Prop:=∃W:Nat->Nat->St->Hp->Prop,(∃m,W 0 m σ H)/\∀i m σ' H',W i m σ' H'->
 (J.stop i H'/\Q (.ref D) H')\/(J.go i H'/\∀x H2,J.yld i H' x H2->g x σ' H2 λσ3 H3=>te σ3 H3 λy H4=>∃ys,H4 D=oZ (.lst ys)/\ys.length<UT/\∃m',m'<m/\W (i+1) m' σ3 (upd H4 D (.lst (ys++[y]))))
def Ed(t:Nat)(cap:List Nat)(wi:TI)(g:TG)(te:TE):TE:=λσ H Q=>wi σ H λJ H1=>∀D,H1 D=none->CF J D g te Q (iM t cap σ) (upd H1 D (.lst []))
def S8(J:It)(D:UQ)(g:TG)(tb:TT)(te:TE)(Q:VK)(σ:St)(H:Hp):Prop:=∃W:Nat->Nat->St->Hp->Prop,(∃m,W 0 m σ H)/\∀i m σ' H',W i m σ' H'->
 (J.stop i H'/\Q (.ref D) H')\/(J.go i H'/\∀x H2,J.yld i H' x H2->g x σ' H2 λσ3 H3=>tb σ3 H3 λok H3'=>if ok=true then te σ3 H3' λy H4=>∃ys,H4 D=oZ (.lst ys)/\ys.length<UT/\∃m',m'<m/\W (i+1) m' σ3 (upd H4 D (.lst (ys++[y])))else ∃m',m'<m/\W (i+1) m' σ3 H3')
def n9(t:Nat)(cap:List Nat)(wi:TI)(g:TG)(tb:TT)(te:TE):TE:=λσ H Q=>wi σ H λJ H1=>∀D,H1 D=none->S8 J D g tb te Q (iM t cap σ) (upd H1 D (.lst []))
def BX(X:Cx)(ifs:List oC)(t:TT):Prop:=
 ∀(pins:List (UQ×Obj))(s:oB)(σ:St)(H:Hp)(Q:Bool->Hp->Prop),aS X pins σ H s->t σ H Q->US (UW X.prog X.w) X.A (forIn ifs true λc r=>if r=true then do let ok <-isTrue c X.env (VF c X.env);pure (ForInStep.yield ok)else pure (ForInStep.yield r)) (TP X pins σ Q) X.xe s
theorem PT.one(h:PT X c t):BX X [c] t:=λ_ _ _ _ _ I z=>wpAny_tests_one (h _ _ _ _ _ I z)
structure bH(X:Cx)(N':List Str)(scope:WJ)(t:Nat)(cap:List Nat):Prop where
 kind:scope.kind = .function
 cell:∀y∈scope.names,y.2≠.cell
 names:∀y∈scope.names,y.2 = .local->scope.names.lookup y.1=oZ .local
 free:∀y∈scope.names,y.2 = .free->(X.env.kindOf y.1=oZ .cell\/X.env.kindOf y.1=oZ .free)
 len:N'.length=t+cap.length
 caps:∀(j k:Nat),cap[j]?=oZ k->∃x,N'[t+j]?=oZ x/\X.N[k]?=oZ x/\scope.names.lookup x=oZ .free
theorem Ga(S:bH X N' scope t cap)(I3:aS X pins σ H3 s3)(hf:∀b∈fp,oQ X pins H3 b)(hob:∀b∈fp,∃o,s3.heap.get? b=oZ o)(kf:h₁.Ns s3.heap.objs.size λ_=>none)(k:∀b o,s3.heap.get? b=oZ o->h₁.get? b=oZ o):
  aS (bN X N' scope s3.heap.objs.size s3 H3 fp) [] (iM t cap σ) H3 { s3 with heap:=h₁,toks:=tk }:=by
 have ZN:∀{x:Str}{c:UQ},(yU scope X.env).lookup x=oZ c->X.env.cells.lookup x=oZ c:=λe=>Bv e;have dh:∀{c:UQ}{v:Option oA},s3.heap.IsCell c v->h₁.IsCell c v:=λzZ=>by obtain⟨o,e,d⟩:=zZ;exact⟨o,k _ _ e,d⟩
 have ny:∀{x:Str},scope.names.lookup x=oZ .free->(x,NameKind.free)∈scope.names:=λe=>PySem.mem_of_lookup e;refine⟨⟨I3.mod,S.kind,I3.ok.glob,I3.ok.blt,MQ _,?_,?_,?_,I3.ok.hd,I3.ok.frames,.inl rfl,?_,I3.bs,OH I3.ok.bsz I3.sz,?_,?_,I3.stack,I3.stkFree⟩,
  rfl,I3.bare,Un.kept k,⟨_,kf,?_⟩,?_,?_,?_,?_,I3.hok.kept k,?_⟩
 ·intro x y c h1 h2;exact I3.ok.inj x y c (ZN h1) (ZN h2)
 ·intro x hx;have hm:(x,NameKind.free)∈scope.names:=qB S.cell hx;obtain⟨c,hc⟩:=I3.ok.has x (S.free _ hm rfl);exact⟨c,Bu hm hc⟩
 ·intro x c h;cases h
 ·intro b hb;obtain⟨o,ho⟩:=hob b hb;exact⟨NQ (MX ho),λx c e=>(hf b hb).2.2.2.2.1 x c (ZN e)⟩
 ·intro b o e hb;rcases(hf b hb).2.2.2.1 with z|z
  ·exact I3.ok.noex b o e z
  ·exact absurd (NC (NC (MX e) I3.ok.bsz) z) (Nat.lt_irrefl _)
 ·intro b hb hz;obtain z|z:=MJ.mp (I3.stkSub b hz)
  ·exact(hf b hb).2.1 z
  ·exact(hf b hb).2.2.1 z
 ·intro i x v e1 e2 e3;have ht:t<=i:=by
   obtain q|q:=OY i t
   ·unfold iM at e2;rw[NK (by simpa using q),TR]at e2;split at e2<;>cases e2
   ·exact q
  obtain⟨j,rfl⟩:∃j,i=t+j:=⟨i-t,⋯⟩;unfold iM at e2;rw[OF (by simp),RF,Nat.add_sub_cancel_left,MT]at e2;cases q:cap[j]? with
  |none=>rw[q]at e2;cases e2
  |some m=>
   rw[q]at e2;have zc:(σ[m]?).join=oZ v:=Option.some.inj e2;have aAO:σ[m]?=oZ (oZ v):=by
    cases z:σ[m]? with
    |none=>rw[z]at zc;cases zc
    |some w=>rw[z]at zc;have:w=oZ v:=zc;rw[this]
   obtain⟨x',c1,c2,c3⟩:=S.caps j m q;have ex:x'=x:=by
    have wb:N'[t+j]?=oZ x:=e1;rw[c1]at wb;exact Option.some.inj wb
   subst ex;have hk:=S.free _ (ny c3) rfl;obtain⟨mm,hn,hl⟩:=I3.loc;obtain⟨u,r,L⟩:=hl m x' v c2 aAO (by obtain z|z:=hk;exact .inr (.inl z);exact .inr (.inr z));refine⟨u,r,?_⟩;obtain⟨z,_⟩|⟨_,c,hc,da⟩:=L
   ·rcases hk with y|y<;>(have y':X.env.kindOf x'=_:=y;rw[z]at y';cases y')
   ·exact .inr ⟨sJ c3,c,Bu (ny c3) hc,dh da⟩
 ·intro x c e;obtain⟨v,z⟩:=I3.cell x c (ZN e);exact⟨v,dh z⟩
 ·exact I3.hok.fresh (MQ _)
 ·intro x c e;exact I3.freeC x c (ZN e)
 ·intro p hp;exact absurd (show p∈([]:List (UQ×Obj))from hp) (by simp)
 ·show(iM t cap σ).length=N'.length;unfold iM;rw[S.len,MP,RF,ML]
theorem xC{QQ:oA->oB->Prop}(hc:X.calm=true)(S:bH X N' scope t cap)(hi:PI X target iter wi)(hg:∀C s3 H3 fp,PG (bN X N' scope C s3 H3 fp) target g)(hb:∀C s3 H3 fp,BX (bN X N' scope C s3 H3 fp) ifs tb)(he:∀C s3 H3 fp,PE (bN X N' scope C s3 H3 fp) elt te)(hs:∀x,VA iter X.env x=pure x)(I:aS X pins σ H s)(h:n9 t cap wi g tb te σ H Q)(fin:∀(s3 s6:oB)(H3 H5:Hp)(fp:List UQ)(D:UQ)(m:Str->Option oA),aS X pins σ H3 s3->(∀b∈fp,(b∈X.ex\/X.s₀.heap.objs.size<=b)/\b≠X.env.locals/\(∀x c,X.env.cells.lookup x=oZ c->c≠b)/\∀p∈X.pn++pins,p.1≠b)->s6.heap.Ns s3.heap.objs.size m->Un (Ke X.stack) fp H3 H5 s3.heap s6.heap->nJ X.prog X.w H5 s6.heap->H5 s3.heap.objs.size=none->s6.os=s3.os->WN s6.gens->Q (.ref D) H5->compPost (UW X.prog X.w) X.A X.xe use QQ (.ref D) s3.heap.objs.size (.ok .next) s6):
  US (UW X.prog X.w) X.A (comprehension (.ListComp elt [⟨target,iter,ifs,0⟩] scope pos) scope X.env (firstIterPos [⟨target,iter,ifs,0⟩] pos) (newList []) (firstAsync [⟨target,iter,ifs,0⟩]) (firstIter [⟨target,iter,ifs,0⟩] X.env) use) QQ X.xe s:=by
 refine wpAny_comprehension_free (cl:=yU scope X.env) rfl hs (wC λy hy hf=>I.ok.has y.1 (S.free y hy hf)) S.kind S.names (cW (hi pins s σ H _ I h) λv s1 h1=>cW h1 λitv s2 h2=>?_);obtain⟨it,fp,tn,J,H2,e,I2,T,gf,f2,h2⟩:=h2;subst e;refine VD (wpAny_newFunctionEnv S.cell (by intro y hy;simp at hy) (λh₁ kf₁ hsb₁=>?_) S.kind)
 dsimp only at kf₁ hsb₁⊢
 obtain⟨s3,ud⟩:∃s3:oB,s3 = { s2 with heap:=s2.heap.push { cls:=.type "list",dict:=none,data:=.seq ([]:List oA).toArray } }:=⟨_,rfl⟩;have hD:H2 s2.heap.objs.size=none:=I2.hok.fresh (MQ _);have I3:aS X pins σ (upd H2 s2.heap.objs.size (.lst [])) s3:=by
  rw[ud];exact I2.laid (t':=s2.toks) (λb u e=>MM _ e) (MQ _) ⟨OR _,[],0,.nil,NA _ rfl⟩
 have aEV:s3.heap.objs.size=s2.heap.objs.size+1:=by rw[ud];exact QK ..
 have we:∀b o,s2.heap.get? b=oZ o->s3.heap.get? b=oZ o:=λb o e=>by rw[ud];exact MM _ e
 have hC:(s2.heap.push { cls:=.type "list",dict:=none,data:=.seq ([]:List oA).toArray }).objs.size=s3.heap.objs.size:=by rw[ud]
 have f3:∀b∈fp,oQ X pins (upd H2 s2.heap.objs.size (.lst [])) b:=λb hb=>by
  obtain⟨o,ho,_⟩:=T.obj _ _ gf b hb;refine⟨?_,(f2 b hb).2⟩;rw[aT (NQ (MX ho))];exact(f2 b hb).1
 have wg:∀b∈fp,∃o,s3.heap.get? b=oZ o:=λb hb=>by
  obtain⟨o,ho,_⟩:=T.obj _ _ gf b hb;exact⟨o,we b o ho⟩
 have k1:∀b o,s3.heap.get? b=oZ o->h₁.get? b=oZ o:=λb o e=>by
  refine hsb₁.extBut b o ?_ ?_
  ·rw[hC];exact NQ (MX e)
  ·rw[ud]at e;exact MM _ e
 have kf:h₁.Ns s3.heap.objs.size λ_=>none:=by
  rw[<-hC];exact kf₁
 have I4:=Ga (tk:=s2.toks+([]:List (Str×oA)).length) S I3 f3 wg kf k1;have st4:tn 0 h₁:=T.keep _ _ _ gf λb hb o e=>k1 b o (we b o e);obtain⟨W,⟨m0,w0⟩,turn⟩:=h2 _ hD
 -- the block's context
 obtain⟨X',ae⟩:∃X':Cx,X'=bN X N' scope s3.heap.objs.size s3 (upd H2 s2.heap.objs.size (.lst [])) fp:=⟨_,rfl⟩;have hg':PG X' target g:=by rw[ae];exact hg _ _ _ _
 have qm:PE X' elt te:=by rw[ae];exact he _ _ _ _
 have oh:BX X' ifs tb:=by rw[ae];exact hb _ _ _ _
 have cm:∀{H':Hp},(∀b∈fp,H' b=none)->∀b∈fp,oQ X' [] H' b:=λhn b hb=>by
  obtain⟨o,ho⟩:=wg b hb;rw[ae];refine⟨hn b hb,NQ (MX ho),?_,.inl hb,λx c e=>(f3 b hb).2.2.2.2.1 x c (Bv e),λp hp=>absurd (show p∈([]:List (UQ×Obj))from hp) (by simp)⟩;intro hz;obtain z|z:=MJ.mp (I3.stkSub b hz)
  ·exact(f3 b hb).2.1 z
  ·exact(f3 b hb).2.2.1 z
 have oi:X'.calm=true:=by rw[ae];exact hc
 have loop:codeAny (UW X.prog X.w) X.A (.compLoop (.ListComp elt [⟨target,iter,ifs,0⟩] scope pos) 0 (.ref it) (.ref s2.heap.objs.size) (compEnvC scope (yU scope X.env) s3.heap.objs.size X.env))
   (compPost (UW X.prog X.w) X.A X.xe use QQ (.ref s2.heap.objs.size) s3.heap.objs.size) { s3 with heap:=h₁,toks:=s2.toks+([]:List (Str×oA)).length }:=by
  refine mY (λn s'=>∃i σ' H',aS X' [] σ' H' s'/\tn i s'.heap/\(∀b∈fp,H' b=none)/\W i n σ' H') ?_ m0 ⟨0,iM t cap σ,_,by rw[ae];exact I4,st4,λb hb=>(f3 b hb).1,w0⟩;rintro n s5 ⟨i,σ5,H5,I5,kd,yv,w5⟩;obtain⟨stop,qn⟩|⟨go,step⟩:=turn i n σ5 H5 w5
  ·have q:=T.done X' (by rw[ae];rfl) (by rw[ae];rfl) (by rw[ae];rfl) oi i [] s5 σ5 H5 (λ_ _=>False) I5 (cm yv) kd stop;have eA:X'.A=X.A:=by rw[ae];rfl
   rw[eA]at q;refine cW q λr s6 zZ=>?_;obtain⟨hr,I6⟩:=zZ;subst hr;obtain⟨m,hn,_⟩:=I6.loc;have pj:s6.heap.Ns s3.heap.objs.size m:=by rw[ae]at hn;exact hn
   have gr:Un (Ke X.stack) fp (upd H2 s2.heap.objs.size (.lst [])) H5 s3.heap s6.heap:=by have:=I6.base;rw[ae]at this;exact this
   have gv:nJ X.prog X.w H5 s6.heap:=by have:=I6.hok;rw[ae]at this;exact this
   have au:H5 s3.heap.objs.size=none:=by have:=I6.free;rw[ae]at this;exact this
   have wj:s6.os=s3.os:=by have:=I6.os;rw[ae]at this;exact this
   exact fin _ _ _ _ _ _ _ I3 (λb hb=>⟨(f3 b hb).2.2.2.1,(f3 b hb).2.1,(f3 b hb).2.2.2.2.1,(f3 b hb).2.2.2.2.2⟩) pj gr gv au wj I6.bare qn
  ·have q:=T.item X' (by rw[ae];rfl) (by rw[ae];rfl) (by rw[ae];rfl) oi i [] s5 σ5 H5 (λ_ _=>False) I5 (cm yv) kd go;have eA:X'.A=X.A:=by rw[ae];rfl
   have eP:X'.prog=X.prog:=by rw[ae];rfl
   have eW:X'.w=X.w:=by rw[ae];rfl
   have eE:X'.env=compEnvC scope (yU scope X.env) s3.heap.objs.size X.env:=by rw[ae];rfl
   have eX:X'.xe=λ_ _=>False:=by rw[ae];rfl
   rw[eA]at q;refine cW q λr s6 zZ=>?_;obtain⟨u,hr,h6⟩:=zZ;subst hr;refine cW h6 λ_ s7 zZ=>?_;obtain⟨x,H7,I7,r7,y7,wk,fr7⟩:=zZ;have I7':=I7.pinned (cm fr7) (T.obj _ _ wk);have q8:=hg' _ s7 σ5 H7 x u _ I7' r7 (step x H7 y7);rw[eA,eP,eW,eE,eX]at q8;refine cW q8 λ_ s8 zZ=>?_;obtain⟨σ8,H8,I8,w8⟩:=zZ;have q8b:=oh _ s8 σ8 H8 _ I8 w8;rw[eA,eP,eW,eE,eX]at q8b;refine cW q8b λok s8 zZ=>?_;obtain⟨H8,I8,w8⟩:=zZ;cases ok with
   |false=>
    obtain⟨m',hm,w9⟩:=w8;refine⟨m',hm,i+1,σ8,_,I8.unpinned,T.keep _ _ _ wk λb hb o e=>(I8.pin (b,o) (MV _ (MV _ (g9 hb e)))).1,λb hb=>?_,w9⟩;obtain⟨o,e,d⟩:=T.obj _ _ wk b hb;exact(I8.pin (b,o) (MV _ (MV _ (g9 hb e)))).2.1
   |true=>
    have q9:=qm _ s8 σ8 H8 _ I8 w8;rw[eA,eP,eW,eE,eX]at q9;refine cW q9 λy s9 zZ=>?_;obtain⟨v9,H9,I9,r9,ys,hD9,YX,m',hm,w9⟩:=zZ;have q10:=xU (X:=X') _ s9 σ8 H9 (.ref s2.heap.objs.size) [v9] (.ref s2.heap.objs.size) [y] (λ_ H10=>H10=upd H9 s2.heap.objs.size (.lst (ys++[v9]))) I9 rfl (.cons r9 .nil) ⟨_,ys,v9,rfl,rfl,hD9,YX,rfl⟩;rw[eA,eP,eW,eX]at q10;refine cW q10 λ_ s10 zZ=>?_;obtain⟨v10,H10,I10,r10,e10⟩:=zZ;subst e10;refine⟨m',hm,i+1,σ8,_,I10.unpinned,T.keep _ _ _ wk λb hb o e=>(I10.pin (b,o) (MV _ (MV _ (g9 hb e)))).1,λb hb=>?_,w9⟩;obtain⟨o,e,d⟩:=T.obj _ _ wk b hb;exact(I10.pin (b,o) (MV _ (MV _ (g9 hb e)))).2.1
 have es:({ s2 with heap:=h₁,toks:=s2.toks+([]:List (Str×oA)).length }:oB) = { s3 with heap:=h₁,toks:=s2.toks+([]:List (Str×oA)).length }:=by rw[ud]
 rw[es,hC];exact codeAny_compStart_list loop (T.self _ 0 _ _ _ st4 loop)
theorem Dh(hc:X.calm=true)(S:bH X N' scope t cap)(hi:PI X target iter wi)(hg:∀C s3 H3 fp,PG (bN X N' scope C s3 H3 fp) target g)(hb:∀C s3 H3 fp,BX (bN X N' scope C s3 H3 fp) ifs tb)(he:∀C s3 H3 fp,PE (bN X N' scope C s3 H3 fp) elt te)(hs:∀x,VA iter X.env x=pure x:=by intro _;rfl):
  PE X (.ListComp elt [⟨target,iter,ifs,0⟩] scope pos) (n9 t cap wi g tb te):=by
 intro pins s σ H Q I h;rw[eval_ListComp];refine xC hc S hi hg hb he hs I h λs3 s6 H3 H5 fp D m I3 f3 pj gr gv au wj ba qn=>⟨m,pj,λh' jr=>?_⟩;have kp:∀b o,b≠s3.heap.objs.size->s6.heap.get? b=oZ o->h'.get? b=oZ o:=λb o hb e=>jr.extBut b o hb e;have lr:∀{b:UQ}{o:Obj},s3.heap.get? b=oZ o->b≠s3.heap.objs.size:=λe=>NQ (MX e);have un7:Un (Ke X.stack) fp (H3) H5 s3.heap h':=
  ⟨λb o e n1 n2 n3=>kp b o (lr e) (gr.keep b o e n1 n2 n3),λb o e n1 n2 n3=>by obtain⟨sl,z⟩:=gr.slot b o e n1 n2 n3;exact⟨sl,kp b _ (lr e) z⟩,gr.free,
   λb o e n3=>by obtain⟨o',z⟩:=gr.there b o e n3;exact⟨o',kp b _ (lr e) z⟩,gr.tups,gr.frzs,gr.tbls⟩
 have aAQ:nJ X.prog X.w H5 h':=λb ob e=>by
  refine(gv b ob e).stay (λc w' ay q=>kp c w' ?_ q) (λ_ q=>q) λ_ _ q=>q;rintro rfl;obtain rfl|ay:=ay
  ·rw[au]at e;cases e
  ·rw[au]at ay;cases ay
 exact⟨.ref D,H5,I3.call' (s':={ s6 with heap:=h' }) (ch:=fp) wj un7 aAQ ba f3,rfl,qn⟩
theorem C4(hc:X.calm=true)(S:bH X N' scope t cap)(hi:PI X target iter wi)(hg:∀C s3 H3 fp,PG (bN X N' scope C s3 H3 fp) target g)(he:∀C s3 H3 fp,PE (bN X N' scope C s3 H3 fp) elt te)(hs:∀x,VA iter X.env x=pure x:=by intro _;rfl):
  PE X (.ListComp elt [⟨target,iter,[],0⟩] scope pos) (Ed t cap wi g te):=λpins s σ H Q I h=>Dh (tb:=λ_ H Q=>Q true H) hc S hi hg (λ_ _ _ _ _ _ _ _ _ I z=>wpAny_tests_nil ⟨_,I,z⟩) he hs pins s σ H Q I h
def Q0(i j k:Nat)(ta:TA):TS:=λD σ H=>ta σ H λvs H1=>∃v w z,vs=[v,w,z]/\D.nx (((σ.set i (oZ v)).set j (oZ w)).set k (oZ z)) H1
theorem D8{kt k2 qA}(hc:X.calm=true)(hN:X.N.Nodup)(hi:X.N[i]?=oZ x)(hj:X.N[j]?=oZ y)(hk:X.N[k]?=oZ z)(fq:i≠j)(wm:i≠k)(wo:j≠k)(hx:X.env.scope.names.lookup x=oZ .local)(hy:X.env.scope.names.lookup y=oZ .local)(hz:X.env.scope.names.lookup z=oZ .local)(ha:PA X [a,b,c] ta)(hw:VQ [.Tuple [.Name x px,.Name y py,.Name z pz] kt pt] (.Tuple [a,b,c] k2 qA) X.env=pure (oZ [x,y,z]))(hs:VP [.Tuple [.Name x px,.Name y py,.Name z pz] kt pt] (.Tuple [a,b,c] k2 qA) pos.line X.env=pure false:=by rfl):
  PS X (.Assign [.Tuple [.Name x px,.Name y py,.Name z pz] kt pt] (.Tuple [a,b,c] k2 qA) pos) (Q0 i j k ta):=by
 intro pins s σ H D I h;rw[exec_Assign_arm];refine UP (WS ?_);rw[hs];refine UP (UR ?_);rw[oW ∅];refine UP (Tuple_ (cW (ha _ pins s σ H _ I h) λus s1 zZ=>?_));obtain⟨vs,H1,I1,r1,q1⟩:=zZ;obtain⟨v,w,zz,e1,q1⟩:=q1;subst e1;obtain⟨u1,u2,u3,rfl,rv,jz,rz⟩:∃u1 u2 u3,us=[u1,u2,u3]/\bM v u1/\bM w u2/\bM zz u3:=by
  cases r1 with
  |cons p q=>
   cases q with
   |cons p' q'=>
    cases q' with
    |cons p'' q''=>
     cases q'';exact⟨_,_,_,rfl,p,p',p''⟩
 refine VD ?_ (by show 3<=UT;decide);have I2:aS X pins σ H1 { s1 with heap:=s1.heap.push { cls:=.type "tuple",data:=.seq [u1,u2,u3].toArray } }:=I1.kept (t':=s1.toks) λb o e=>MM _ e;rw[hw];refine UP (UR ?_);show US (UW X.prog X.w) X.A (do rule "assign.swapped-stores";let items <-unpackItems (.ref s1.heap.objs.size) 3 none;WR [λv=>WG X.env z v,λv=>WG X.env y v,λv=>WG X.env x v] items.reverse;pure Flow.next) _ _ _;refine UP (WD (UP (unpackItems_tuple (items:=#[u1,u2,u3]) (I.ok.hd hc) (IsTup.new s1.heap _) λh' vi=>?_)));have I3:=I2.kept (h':=h') (t':=s1.toks) λb o e=>vi b o (NQ (MX e)) e;show US _ _ (WR [λv=>WG X.env z v,λv=>WG X.env y v,λv=>WG X.env x v] [u3,u2,u1] >>= λ_=>pure Flow.next) _ _ _;refine UP (VX (WO (jG I3 hN hk (.inl hz) rz (λs2 I4=>?_) (.inr hz))));refine VX (WO (jG I4 hN hj (.inl hy) jz (λs3 I5=>?_) (.inr hy)));refine VX (WO (jG I5 hN hi (.inl hx) rv (λs4 I6=>XB (UR ?_)) (.inr hx)));rw[RY _ _ (Ne.symm fq),RY _ _ (Ne.symm wm),RY _ _ (Ne.symm wo)]at I6;exact⟨_,H1,I6,q1⟩
structure Fn(P:UU)(w:UY)(K:W.Frag)(mg:Str->Option oA)(base:oE)(k:Nat)(x:Str)(ps:List Str)(sp:Sp):Prop where
 ex:∃f fd,bE P w K mg base eT k f fd ps sp/\mg x=oZ (.ref f)/\W.keepIn K (.ref f)=true/\k9 K fd ps []
theorem EF(F:Fn X.prog X.w X.K X.mg X.base k x ps sp)(hr:dW j X.A)(hk:k<=j)(hg:Gl X x)(ha:PA X (e::es) t)(ZR:(x==("__debug__":Str))=false:=by decide)(he:VB (e::es) X.env=(false,VF e X.env)::VB es X.env:=by rfl)(ni:(WH pos (VB es X.env)).any (·.1)=false:=by rfl):PE X (.Call (.Name x p) (e::es) [] pos) (Ec sp [] E0 t):=by
 obtain⟨f,fd,F,hm,hkp,hb⟩:=F.ex;exact C1 F (hr.mono hk) hg hm hkp hb .nil ED ha ZR he ni
def bO:oC->Bool
 |.Starred _ _=>true
 |_=>false
theorem dI(h:bO e=false):VB (e::es) env=(false,VF e env)::VB es env:=by
 cases e<;>first|rfl|(simp[bO]at h)
def bJ:List oC->Bool
 |[]=>true
 |e::es=>!bO e&&bJ es
theorem iN:∀{es:List oC},bJ es=true->(WH pos (VB es env)).any (·.1)=false
 |[],_=>rfl
 |e::es,h=>by
  have h1:bO e=false:=by simp only[bJ,NY,RS]at h;exact h.1
  have h2:bJ es=true:=by simp only[bJ,NY]at h;exact h.2
  have ih:=iN (pos:=pos) (env:=env) h2;rw[dI h1];simp only[WH,MR,UL,Bool.false_or]at ih⊢;exact ih
theorem pc(ha:PE X e te)(hr:PA X es t)(hs:bO e=false:=by rfl):PA X (e::es) (Ws te t):=C0 ha hr (dI hs)
theorem X8(F:Fn X.prog X.w X.K X.mg X.base k x ps sp)(hr:dW j X.A)(hk:k<=j)(hg:Gl X x)(ha:PA X (e::es) t)(ZR:(x==("__debug__":Str))=false:=by decide)(hs:bJ (e::es)=true:=by rfl):PE X (.Call (.Name x p) (e::es) [] pos) (Ec sp [] E0 t):=
 EF F hr hk hg ha ZR (dI (by simp only[bJ,NY,RS]at hs;exact hs.1)) (iN (by simp only[bJ,NY]at hs;exact hs.2))
theorem Pe{X:Cx}{pos:Pos}{e:oC}{es:List oC}{t:TA}{x:Str}{p:Pos}{id:String}{r:List V->Hp->VK->Prop}(hc:iH X (.builtin id) r)(hg:Gl X x)(hm:X.mg x=none)(hv:VU x=oZ (.builtin id))(ha:PA X (e::es) t)(hn:x≠"__name__":=by decide)(ZR:(x==("__debug__":Str))=false:=by decide)(hs:bJ (e::es)=true:=by rfl):PE X (.Call (.Name x p) (e::es) [] pos) (BQ r t):=
 Ux hc hg hm hv ha hn ZR (dI (by simp only[bJ,NY,RS]at hs;exact hs.1)) (iN (by simp only[bJ,NY]at hs;exact hs.2))
theorem Hm{r:List V->Hp->VK->Prop}(hc:iH X (.type T) r)(hg:Gl X x)(hm:X.mg x=none)(hv:VU x=oZ (.type T))(ha:PA X (e::es) t)(hn:x≠"__name__":=by decide)(ZR:(x==("__debug__":Str))=false:=by decide)(hs:bJ (e::es)=true:=by rfl):PE X (.Call (.Name x p) (e::es) [] pos) (BQ r t):=
 Pf hc hg hm hv ha hn ZR (dI (by simp only[bJ,NY,RS]at hs;exact hs.1)) (iN (by simp only[bJ,NY]at hs;exact hs.2))
structure QE(X:Cx)(e:oC)(t:TE):Prop where
 h:PE X e t
structure QT(X:Cx)(e:oC)(t:TT):Prop where
 h:PT X e t
structure QW(X:Cx)(e:oC)(t:TT):Prop where
 h:PW X e t
structure QA(X:Cx)(es:List oC)(t:TA):Prop where
 h:PA X es t
structure QS(X:Cx)(st:UZ)(t:TS):Prop where
 h:PS X st t
structure QB(X:Cx)(st:List UZ)(t:TS):Prop where
 h:Je X st t
structure QG(X:Cx)(e:oC)(t:TG):Prop where
 h:PG X e t
structure Ff(X:Cx)(es:List oC)(t:K7):Prop where
 h:BW X es t
structure QI(X:Cx)(tg e:oC)(t:TI):Prop where
 h:PI X tg e t
structure QO(X:Cx)(e:Option oC)(t:TO):Prop where
 h:PO X e t
def Jp(sc scope:WJ)(N N':List Str)(t:Nat)(cap:List Nat):Bool:=
 decide (scope.kind = .function)&&scope.names.all (λy=>decide (y.2≠.cell))&&scope.names.all (λy=>decide (y.2 = .local->scope.names.lookup y.1=oZ .local)) &&
 scope.names.all (λy=>decide (y.2 = .free->(sc.names.lookup y.1=oZ .cell\/sc.names.lookup y.1=oZ .free)))&&decide (N'.length=t+cap.length) &&
 (OG cap.length).all (λj=>match cap[j]?,N'[t+j]? with|some k,oZ x=>decide (N[k]?=oZ x/\scope.names.lookup x=oZ .free)|_,_=>false)
theorem bH.of(h:Jp X.env.scope scope X.N N' t cap=true):bH X N' scope t cap:=by
 simp only[Jp,NY,OQ,decide_eq_true_eq]at h;obtain⟨⟨⟨⟨⟨h1,h2⟩,h3⟩,h4⟩,h5⟩,h6⟩:=h;refine⟨h1,h2,h3,h4,h5,λj k e=>?_⟩;have hj:j<cap.length:=(MK.mp e).1;have h:=h6 j (OO.mpr hj);rw[e]at h;cases q:N'[t+j]? with
 |none=>rw[q]at h;cases h
 |some x=>
  rw[q]at h;have h':=of_decide_eq_true h;exact⟨x,rfl,h'.1,h'.2⟩
theorem AF:QB X [] P6:=⟨E7⟩
theorem jN{X:Cx}{t:TS}{u:TS}{st:UZ}{aq:List UZ}(h1:QS X st t)(h2:QB X aq u):QB X (st::aq) (BE t u):=⟨Vk h1.h h2.h⟩
theorem u9{X:Cx}{t:TS}{st:UZ}(h1:QS X st t):QB X [st] t:=⟨E8 h1.h⟩
theorem Hu(h:QE X e te):QS X (.Return (oZ e) pos) (GP te):=⟨Z6 h.h⟩
theorem EW(hc:QT X c tc)(ha:QB X b1 t)(hb:QB X b2 u):QS X (.If c b1 b2 pos) (GH tc t u):=⟨EN hc.h ha.h hb.h⟩
theorem Vs(hp:PassesOwn (UW X.prog X.w) X.A X.env X.xe)(hc:QT X c tc)(hb:QB X body tbd):QS X (.While c body [] pos) (Xb tc tbd):=⟨Vj hp hc.h hb.h⟩
theorem z9(hp:PassesOwn (UW X.prog X.w) X.A X.env X.xe)(hc:X.calm=true)(hi:QI X tg iter wi)(hg:QG X tg g)(hb:QB X body tbd)(hs:∀x,VA iter X.env x=pure x:=by intro _;rfl):
  QS X (.For tg iter body [] pos) (BC wi g tbd):=⟨Z4 hp hc hi.h hg.h hb.h hs⟩
theorem Lr(he:QE X e te)(hs:VL e none pos.line X.env=pure false:=by rfl):QS X (.Expr e pos) (O8 te):=⟨D7 he.h hs⟩
theorem vB(hN:X.N.Nodup)(hi:X.N[i]?=oZ x)(hx:yK X.env.scope x)(he:QE X e te)(hs:VL e (oZ (.Name x pos')) pos.line X.env=pure false:=by rfl)(hf:X.fn x=true\/X.env.scope.names.lookup x=oZ .local:=by first|exact .inl rfl|exact .inr rfl|assumption):QS X (.Assign [.Name x pos'] e pos) (Pu te (jB i)):=⟨Z7 hN hi hx he.h hs hf⟩
theorem Vr(he:QE X e te)(hg:QG X tg g)(hs:VP [tg] e pos.line X.env=pure false:=by rfl)(hw:VQ [tg] e X.env=pure none:=by rfl)(h1:(VC [tg] X.env).map (·.2)=[WC tg X.env]:=by rfl):QS X (.Assign [tg] e pos) (Pu te g):=⟨Z3 he.h hg.h hs hw h1⟩
theorem AK{kt k2 qA}(hc:X.calm=true)(hN:X.N.Nodup)(hi:X.N[i]?=oZ x)(hj:X.N[j]?=oZ y)(fq:i≠j)(hx:X.env.scope.names.lookup x=oZ .local)(hy:X.env.scope.names.lookup y=oZ .local)(ha:QA X [a,b] tr)(hw:VQ [.Tuple [.Name x px,.Name y py] kt pt] (.Tuple [a,b] k2 qA) X.env=pure (oZ [x,y]))(hs:VP [.Tuple [.Name x px,.Name y py] kt pt] (.Tuple [a,b] k2 qA) pos.line X.env=pure false:=by rfl):
  QS X (.Assign [.Tuple [.Name x px,.Name y py] kt pt] (.Tuple [a,b] k2 qA) pos) (GO i j tr):=⟨Z5 hc hN hi hj fq hx hy ha.h hw hs⟩
theorem F7{kt k2 qA}(hc:X.calm=true)(hN:X.N.Nodup)(hi:X.N[i]?=oZ x)(hj:X.N[j]?=oZ y)(hk:X.N[k]?=oZ z)(fq:i≠j)(wm:i≠k)(wo:j≠k)(hx:X.env.scope.names.lookup x=oZ .local)(hy:X.env.scope.names.lookup y=oZ .local)(hz:X.env.scope.names.lookup z=oZ .local)(ha:QA X [a,b,c] tr)(hw:VQ [.Tuple [.Name x px,.Name y py,.Name z pz] kt pt] (.Tuple [a,b,c] k2 qA) X.env=pure (oZ [x,y,z]))(hs:VP [.Tuple [.Name x px,.Name y py,.Name z pz] kt pt] (.Tuple [a,b,c] k2 qA) pos.line X.env=pure false:=by rfl):
  QS X (.Assign [.Tuple [.Name x px,.Name y py,.Name z pz] kt pt] (.Tuple [a,b,c] k2 qA) pos) (Q0 i j k tr):=⟨D8 hc hN hi hj hk fq wm wo hx hy hz ha.h hw hs⟩
theorem kO(hN:X.N.Nodup)(hi:X.N[i]?=oZ x)(hx:yK X.env.scope x)(hf:X.fn x=true\/X.env.scope.names.lookup x=oZ .local:=by first|exact .inl rfl|exact .inr rfl|assumption):QG X (.Name x pos) (jB i):=⟨C8 hN hi hx hf⟩
theorem z7:Ff X [] Yz:=⟨C9⟩
theorem j9(h1:QG X e g)(h2:Ff X es gs)(hs:(VC (e::es) X.env).map (·.2)=WC e X.env::(VC es X.env).map (·.2):=by rfl):Ff X (e::es) (nE g gs):=⟨Vd h1.h h2.h hs⟩
theorem Ht(hc:X.calm=true)(h:Ff X es gs)(hn:(VC es X.env).length=n:=by rfl)(jy:(VC es X.env).findIdx? (·.1)=none:=by rfl):QG X (.Tuple es k pos) (U8 X.K n gs):=⟨Y7 hc h.h hn jy⟩
theorem Vq(ho:QE X o to)(hi:QE X i ti)(hs:Yc X ts)(ha:∀v,WC (.Subscript o i pos) X.env v=(do
   let ov <-VV [v] (VF o X.env)
   let iv <-VV [v,ov] (VF i X.env)
   standAt pos
   VV [v,ov,iv] (setItem ov iv v)
   release [v,ov,iv] []):=by intro _;rfl):QG X (.Subscript o i pos) (DH to ti ts):=⟨Y6 ho.h hi.h hs ha⟩
theorem Pk(hg:Gl X "range")(hm:X.mg "range" = none)(ha:QA X [a] tr)(hs:bO a=false:=by rfl):QI X tg (.Call (.Name "range" p) [a] [] pos) (M3 tr):=⟨Pg hg hm ha.h (dI hs)⟩
theorem F4{x1}(hg:Gl X "enumerate")(hm:X.mg "enumerate" = none)(ha:QA X [a] tr)(hs:bO a=false:=by rfl):QI X (.Tuple elts x1 ZS) (.Call (.Name "enumerate" p) [a] [] pos) (M1 X.K tr):=⟨D1 hg hm ha.h (dI hs)⟩
theorem z8(hl:QE X l tl):QI X tg l (Te X.K tl):=⟨D2 hl.h⟩
theorem AJ(hl:QE X l tl):QI X tg l (DO X.K tl):=⟨Y9 hl.h⟩
theorem Hq:QA X [] BD:=⟨X7⟩
theorem qc(ha:QE X e te)(hr:QA X es tr)(hs:bO e=false:=by rfl):QA X (e::es) (Ws te tr):=⟨pc ha.h hr.h hs⟩
theorem z6{i j pos}:QE X (.Constant (.int i) j pos) (tC (.int i)):=⟨X9⟩
theorem ER{b j pos}:QE X (.Constant (.bool b) j pos) (tC (.bl b)):=⟨EE⟩
theorem Hs{j pos}:QE X (.Constant .none j pos) (tC .non):=⟨Y1⟩
theorem AI{x j pos}:QE X (.Constant (.str x) j pos) (tC (.str x)):=⟨Y4⟩
theorem qv(i:Nat)(hN:X.N[i]?=oZ x:=by rfl)(hv:R7 X.env.scope x:=by first|exact ON rfl|exact QP (ON rfl)|exact QP (QP rfl))(hd:(x==("__debug__":Str))=false:=by decide)(bc:(x==("__classdict__":Str))=false:=by decide):QE X (.Name x pos) (rY i):=⟨Vc hN hv hd bc⟩
theorem Dp(ho:lK X (VS op) r)(ha:QE X a ta)(hb:QE X b tb):QE X (.BinOp a op b pos) (Ww r ta tb):=⟨EH ho ha.h hb.h⟩
theorem EU{r:V->Hp->VK->Prop}(ho:HG X (unaryOp op) r)(ha:QE X a ta):QE X (.UnaryOp op a pos) (KW r ta):=⟨EK ho ha.h⟩
theorem AG(ha:QE X a ta):QE X (.UnaryOp .Not a pos) (P7 ta):=⟨Y2 ha.h⟩
theorem Lo(ho:lK X (VG op) r)(ha:QE X a ta)(hb:QE X b tb)(hm:VE op b=false):QE X (.Compare a [op] [b] pos) (Ww r ta tb):=⟨C3 ho ha.h hb.h hm⟩
theorem ES(ha:QE X a ta)(hb:QE X (.BoolOp .Or (b::rest) pos) tb):QE X (.BoolOp .Or (a::b::rest) pos) (GN ta tb):=⟨EJ ha.h hb.h⟩
theorem AH{op}(h:QE X a ta):QE X (.BoolOp op [a] pos) ta:=⟨Y3 h.h⟩
theorem Vo(hc:QT X c tA)(ha:QE X a ta)(hb:QE X b tb):QE X (.IfExp c a b pos) (KR tA ta tb):=⟨Va hc.h ha.h hb.h⟩
theorem Vp{x1}(h:QA X es tr):QE X (.Tuple es x1 pos) (GR tr):=⟨Y5 h.h⟩
theorem Hr(h:QA X es tr):QE X (.List es pos) (GK tr):=⟨Y0 h.h⟩
theorem N8(hr:Xq X r)(ha:QE X a ta)(hb:QE X b tb)(hs:pC b):QE X (.Subscript a b pos) (Ww r ta tb):=⟨EG hr ha.h hb.h hs⟩
theorem F5{X:Cx}:QO X none Mn:=⟨D5⟩
theorem F6(h:QE X e te):QO X (oZ e) (Q1 te):=⟨D6 h.h⟩
theorem vA{r:V->Option Int->Option Int->Hp->VK->Prop}{lo hi:Option oC}(hr:BY X r)(he:QE X e te)(hl:QO X lo tlo)(hu:QO X hi thi):QE X (.Subscript e (.Slice lo hi none p2) pos) (KU r te tlo thi):=⟨Vb hr he.h hl.h hu.h⟩
theorem Vn(F:Fn X.prog X.w X.K X.mg X.base k x ps sp)(hr:dW j X.A)(hk:k<=j)(hg:Gl X x)(ha:QA X (e::es) tr)(ZR:(x==("__debug__":Str))=false:=by decide)(hs:bJ (e::es)=true:=by rfl):QE X (.Call (.Name x p) (e::es) [] pos) (Ec sp [] E0 tr):=⟨X8 F hr hk hg ha.h ZR hs⟩
theorem eO{X:Cx}{pos:Pos}{e:oC}{es:List oC}{tr:TA}{x:Str}{p:Pos}{id:String}{r:List V->Hp->VK->Prop}(hc:iH X (.builtin id) r)(hg:Gl X x)(hm:X.mg x=none)(hv:VU x=oZ (.builtin id))(ha:QA X (e::es) tr)(hn:x≠"__name__":=by decide)(ZR:(x==("__debug__":Str))=false:=by decide)(hs:bJ (e::es)=true:=by rfl):QE X (.Call (.Name x p) (e::es) [] pos) (BQ r tr):=⟨Pe hc hg hm hv ha.h hn ZR hs⟩
theorem nQ{r:List V->Hp->VK->Prop}(hc:iH X (.type T) r)(hg:Gl X x)(hm:X.mg x=none)(hv:VU x=oZ (.type T))(ha:QA X (e::es) tr)(hn:x≠"__name__":=by decide)(ZR:(x==("__debug__":Str))=false:=by decide)(hs:bJ (e::es)=true:=by rfl):QE X (.Call (.Name x p) (e::es) [] pos) (BQ r tr):=⟨Hm hc hg hm hv ha.h hn ZR hs⟩
theorem Lp(hc:X.calm=true)(S:bH X N' scope t cap)(hi:QI X target iter wi)(hg:∀C s3 H3 fp,QG (bN X N' scope C s3 H3 fp) target g)(he:∀C s3 H3 fp,QE (bN X N' scope C s3 H3 fp) elt te)(hs:∀x,VA iter X.env x=pure x:=by intro _;rfl):
  QE X (.ListComp elt [⟨target,iter,[],0⟩] scope pos) (Ed t cap wi g te):=⟨C4 hc S hi.h (λC s3 H3 fp=>(hg C s3 H3 fp).h) (λC s3 H3 fp=>(he C s3 H3 fp).h) hs⟩
theorem Aa(ho:lK X (VG op) r)(ha:QE X a ta)(hb:QE X b tb)(hm:VE op b=false):QT X (.Compare a [op] [b] pos) (Q9 (Ww r ta tb)):=⟨F0 ho ha.h hb.h hm⟩
theorem AL(ha:QT X a tA):QT X (.UnaryOp .Not a pos) (GL tA):=⟨Z8 ha.h⟩
theorem AM(h:QE X e te)(he:∀whole,isTrue e X.env whole=(do let v <-whole;standAt e.pos;VV [v] (truthy v)):=by intro _;rfl):QT X e (tB te):=⟨Z9 h.h he⟩
theorem F8(ha:QT X a tA):QW X (.BoolOp .And [a] pos) tA:=⟨F1 ha.h⟩
theorem AO(ha:QT X a tA):QW X (.BoolOp .Or [a] pos) tA:=⟨AB ha.h⟩
theorem AN(ha:QT X a tA)(hb:QW X (.BoolOp .And (b::rest) pos) nh):QW X (.BoolOp .And (a::b::rest) pos) (GD tA nh):=⟨AA ha.h hb.h⟩
theorem EX(ha:QT X a tA)(hb:QW X (.BoolOp .Or (b::rest) pos) nh):QW X (.BoolOp .Or (a::b::rest) pos) (KS tA nh):=⟨EO ha.h hb.h⟩
theorem JQ(h:QW X e tA):QT X e tA:=⟨h.h.pt⟩
theorem dY.okQ{P:UU}{w:UY}{K:W.Frag}{mg:Str->Option oA}{base:oE}{x qual:Str}{st:UZ}{f:UQ}{fd:VH}{N ps:List Str}{k:Nat}{sp:Sp}(F:dY K x qual st f fd)(S:aK N ps (aC st))(len:∀vs H Q E,sp vs H Q E->vs.length=ps.length)(bw:∀(YH:oA)(A:oD)(outer:List Env)(s:oB)(H:Hp)(vs:List V)(Q:VK)(E:XK),dW k (A.deeper (WL qual (aC st) s.heap.objs.size f YH))->sp vs H Q E->
   ∃t,QB (yV eT P w K mg base N qual (aC st) f YH A outer s H E).nox (dF st) t/\t { nx:=λ_ H'=>Q .non H',rt:=Q } (mI N vs) H):(~~~bE) eT (k+1) f fd ps sp:=
 F.ok S len λYH A outer s H vs Q E hr h=>let⟨t,h1,h2⟩:=bw YH A outer s H vs Q E hr h;⟨t,h1.h,h2⟩
theorem Ay{E:oA->oB->Prop}{Q:oA->oB->Prop}(gi:s.heap.IsTupleIter it t k)(gt:s.heap.IsTuple t items)(gx:items[k]?=oZ x)(gq:∀h',h'.IsTupleIter it t (k+1)->PN it s.heap h'->Q x { s with heap:=h' }):US (UW prog w) A (Builtin.SmallTypes.nextOf (.ref it)) Q E s:=by
 obtain⟨ob,eo,ec,ed⟩:=id gi;obtain⟨ot,et,_,nt,edt⟩:=gt;unfold Builtin.SmallTypes.nextOf;refine UP (wpAny_callSpecial?_slot (name:=PZ "__next__") gi.typeIs F.slot_tuple_iterator_next (VI F.slot_tuple_iterator_next gi.typeIs F.entry_tuple_iterator_next ?_ (F.args_tuple_iterator_next_1 _)));show US _ _ (field (.ref it) 0 >>= _) _ _ _;refine UP (VN eo ed (x:=.ref t) rfl ?_);show US _ _ (if(NO t==PK)=true then _ else _) _ _ _;rw[oW (λhq:(NO t==PK)=true=>PL hq)];show US _ _ (field (.ref it) 1 >>= _) _ _ _;refine UP (VN eo ed (x:=.int k 0) rfl ?_);show US _ _ (seqItems? (.ref t) >>= _) _ _ _;refine UP (WE et edt ?_);simp only[PH,gx];refine UP (WV eo ed (by simp) (UR ⟨x,rfl,UR (gq _ ?_ (Heap.SameBut.update ..))⟩));exact⟨_,QD _ eo (Obj.isFreed_of_fields (RL ed _)),(Obj.cls_mapFields ..).trans ec,by rw[RL ed];simp[WX]⟩
theorem Ei{E:oA->oB->Prop}{Q:oA->oB->Prop}(gh:A.handled=none)(gi:s.heap.IsTupleIter it t k)(gt:s.heap.IsTuple t items)(gx:items[k]?=none)(ge:∀h' e,Heap.ExtBut it s.heap h'->(∃o,h'.get? e=oZ o/\o.cls = .type "StopIteration")->E (.ref e) { s with heap:=h' }):US (UW prog w) A (Builtin.SmallTypes.nextOf (.ref it)) Q E s:=by
 obtain⟨ob,eo,ec,ed⟩:=id gi;obtain⟨ot,et,_,nt,edt⟩:=gt;unfold Builtin.SmallTypes.nextOf;refine UP (wpAny_callSpecial?_slot (name:=PZ "__next__") gi.typeIs F.slot_tuple_iterator_next (VI F.slot_tuple_iterator_next gi.typeIs F.entry_tuple_iterator_next ?_ (F.args_tuple_iterator_next_1 _)));show US _ _ (field (.ref it) 0 >>= _) _ _ _;refine UP (VN eo ed (x:=.ref t) rfl ?_);show US _ _ (if(NO t==PK)=true then _ else _) _ _ _;rw[oW (λhq:(NO t==PK)=true=>PL hq)];show US _ _ (field (.ref it) 1 >>= _) _ _ _;refine UP (VN eo ed (x:=.int k 0) rfl ?_);show US _ _ (seqItems? (.ref t) >>= _) _ _ _;refine UP (WE et edt ?_);simp only[PH,gx];refine UP (WD (UP (WV eo ed (by simp) ?_)));show US _ _ (newExc (.type "StopIteration") [] >>= _) _ _ _;refine UP ?_;simp only[newExc,newTuple];refine UP (VD ?_ (by size_fits));refine UP (m:=firstArgMember _ _) (wpAny_of_eq (a:=PK) (by first|rfl|(simp only[firstArgMember];rfl)) (VD ?_ (by size_fits)));simp only[raiseNew];refine UP (wpAny_handled ?_)
 first|rw[show A.in1.handled=none from gh]|rw[gh]
 refine UP (UR (wpAny_throw ?_));exact ge _ _ (((Heap.SameBut.update ..).extBut.push _).push _) ⟨_,NA _ rfl,rfl⟩
theorem Nu{prog:UU}{w:UY}{A:oD}(gh:A.handled=none)(it t:UQ)(YY:t≠it)(items:Array oA):
  Draws prog w A it [it,t] items.size (λi v=>items[i]?=oZ v) (λi h=>h.IsTupleIter it t i/\h.IsTuple t items) where
 live:=λ_ _ st=>let⟨o,ho,_⟩:=st.1;⟨o,ho⟩
 frame:=λ_ _ _ st hk=>⟨st.1.at λo e=>hk it (by simp) o e,st.2.at λo e=>hk t (by simp) o e⟩
 item:=λi s Q E hi st hQ=>Ay st.1 st.2 (x:=items[i]) (by simp[hi]) λh' gy jr=>hQ _ h' s.toks (by simp[hi]) ⟨gy,st.2.extBut jr.extBut YY⟩ jr
 done:=λs Q E st hE=>Ei gh st.1 st.2 (by simp) hE
def iZ(κ:Bool)(h:oE)(it a:UQ)(i:Nat):Prop:=match κ with|true=>h.IsTupleIter it a i|false=>h.IsListIter it a i
def tZ(κ:Bool)(h:oE)(a:UQ)(items:Array oA):Prop:=match κ with|true=>h.IsTuple a items|false=>h.IsList a items
theorem iZ.at(x:iZ κ h it a i)(e:∀o,h.get? it=oZ o->h'.get? it=oZ o):iZ κ h' it a i:=by
 cases κ
 ·exact Heap.IsListIter.at x e
 ·exact Heap.IsTupleIter.at x e
theorem iZ.obj(x:iZ κ h it a i):∃o,h.get? it=oZ o/\∀v,o.data≠.cell v:=by
 cases κ
 ·obtain⟨o,e,c,d⟩:=x;exact⟨o,e,λv z=>by rw[d]at z;cases z⟩
 ·obtain⟨o,e,c,d⟩:=x;exact⟨o,e,λv z=>by rw[d]at z;cases z⟩
theorem Rv(κ:Bool)(hh:A.handled=none)(it a:UQ)(YY:a≠it)(items:Array oA):
  Draws prog w A it [it,a] items.size (λi v=>items[i]?=oZ v) (λi h=>iZ κ h it a i/\tZ κ h a items):=by
 cases κ
 ·exact Draws.list hh it a YY items
 ·exact Nu hh it a YY items
abbrev GV(h:oE)(a:UQ):oE:=h.push { cls:=.type "tuple_iterator",data:=.fields #[.ref a,.int 0 0] }
abbrev GW(h:oE)(a b:UQ):oE:=(GV h a).push { cls:=.type "tuple_iterator",data:=.fields #[.ref b,.int 0 0] }
abbrev GX(h:oE)(a b:UQ):oE:=(GW h a b).push { cls:=.type "tuple",data:=.seq #[.ref h.objs.size,.ref (GV h a).objs.size] }
abbrev GY(h:oE)(a b:UQ):oE:=(GX h a b).push { cls:=.type "tuple",data:=.seq #[.none,.none] }
abbrev Xn(h:oE)(a b:UQ):oE:=(GY h a b).push { cls:=.type "zip",data:=.fields #[.none,.bool false,.bool false,.ref (GW h a b).objs.size,.ref (GX h a b).objs.size] }
theorem Xl(a b:UQ)(xs ys:Array oA):
  Meets (Builtin.«zip.__new__» ⟨[.type "zip",.ref a,.ref b],[]⟩) (λ_ R s=>s.heap.IsTuple a xs/\s.heap.IsTuple b ys/\R (.ok (.ret (.ref (GY s.heap a b).objs.size))) { s with heap:=Xn s.heap a b }):=
 .of_wp λprog w A R s h=>by
  obtain⟨hp,g,d,tk,os⟩:=s;obtain⟨ga,gb,h⟩:=h;have aE3:=sub_zip;have gA:Heap.IsTuple (Shared.heap ⟨hp,g,d,tk,os⟩) a xs:=ga;have gB:Heap.IsTuple (Shared.heap ⟨hp.push { cls:=.type "tuple_iterator",data:=.fields #[.ref a,.int 0 0] },g,d,tk,os⟩) b ys:=Heap.IsTuple.push gb _
  wp_walk using WK gA,WK gB
  exact⟨_,rfl,h⟩
theorem Np{E:oA->oB->Prop}{Q:oA->oB->Prop}(ga:s.heap.IsTuple a xs)(gb:s.heap.IsTuple b ys)(g:∀h',IsZip h' (s.heap.objs.size+4) (s.heap.objs.size+2) (s.heap.objs.size+3) .none->IsPair h' (s.heap.objs.size+2) (.ref s.heap.objs.size) (.ref (s.heap.objs.size+1))->IsPair h' (s.heap.objs.size+3) .none .none->
   h'.IsTupleIter s.heap.objs.size a 0->h'.IsTupleIter (s.heap.objs.size+1) b 0->(∀c o,s.heap.get? c=oZ o->h'.get? c=oZ o)->Q (.ref (s.heap.objs.size+4)) { s with heap:=h' }):
  US (UW prog w) A (call (.type "zip") [.ref a,.ref b]) Q E s:=by
 refine callType_new F.called_zip ∅ (F.typeCall_zip_2 _ _) (F.newCall_zip_2 _ _) (λobj=>F.args_object_init_3 obj _ _) F.entry_zip_new (Xl a b xs ys) ⟨ga,gb,?_⟩;have y1:(GV s.heap a).objs.size=s.heap.objs.size+1:=QK ..;have y2:(GW s.heap a b).objs.size=s.heap.objs.size+2:=by rw[QK,y1]
 have y3:(GX s.heap a b).objs.size=s.heap.objs.size+3:=by rw[QK,y2]
 have y4:(GY s.heap a b).objs.size=s.heap.objs.size+4:=by rw[QK,y3]
 have p4:∀{c:UQ}{o:Obj},(GY s.heap a b).get? c=oZ o->(Xn s.heap a b).get? c=oZ o:=λe=>MM _ e;have p3:∀{c:UQ}{o:Obj},(GX s.heap a b).get? c=oZ o->(Xn s.heap a b).get? c=oZ o:=λe=>p4 (MM _ e);have p2:∀{c:UQ}{o:Obj},(GW s.heap a b).get? c=oZ o->(Xn s.heap a b).get? c=oZ o:=λe=>p3 (MM _ e);have p1:∀{c:UQ}{o:Obj},(GV s.heap a).get? c=oZ o->(Xn s.heap a b).get? c=oZ o:=λe=>p2 (MM _ e);have p0:∀{c:UQ}{o:Obj},s.heap.get? c=oZ o->(Xn s.heap a b).get? c=oZ o:=λe=>p1 (MM _ e);have x5:(Xn s.heap a b).get? (GY s.heap a b).objs.size=oZ _:=NA _ rfl;have x4:(Xn s.heap a b).get? (GX s.heap a b).objs.size=oZ _:=p4 (NA _ rfl);have x3:(Xn s.heap a b).get? (GW s.heap a b).objs.size=oZ _:=p3 (NA _ rfl);have x2:(Xn s.heap a b).get? (GV s.heap a).objs.size=oZ _:=p2 (NA _ rfl);have x1:(Xn s.heap a b).get? s.heap.objs.size=oZ _:=p1 (NA _ rfl);show _/\_;rw[y2,y3,y4]at x5;rw[y1,y2]at x3;rw[y3]at x4;rw[y1]at x2;rw[y4];exact⟨⟨_,x5,rfl⟩,g _ x5 x3 x4 ⟨_,x1,rfl,rfl⟩ ⟨_,x2,rfl,rfl⟩ λc o e=>p0 e⟩
theorem LX(n:Nat):[n+4,n+2,n+3,n,n+1].Nodup:=by
 simp only[QC,MJ,PU,or_false,not_or,SO,and_true,not_false_eq_true]
 lia
theorem LO(h:c∈[n+4,n+2,n+3,n,n+1]):n<=c:=by
 simp only[MJ,PU,or_false]at h
 lia
section
variable{X:Cx}{pos:Pos}{a b e:oC}{ta tb te:TE}{tc:TT}
def J6(c:TT):TS:=λD σ H=>c σ H λb H1=>b=true/\D.nx σ H1
theorem Pl(hc:QT X c tc):QS X (.Assert c m pos) (J6 tc):=⟨by
 intro pins s σ H D I h;exact wpAny_Assert_holds (cW (hc.h pins s σ H _ I h) λb s1 zZ=>by obtain⟨H1,I1,q1⟩:=zZ;exact⟨q1.1,σ,H1,I1,q1.2⟩)⟩
end
def Iy(i j:Int):Prop:=i.natAbs<2^8000/\j.natAbs<2^8000
theorem Jk{a:Int}(h:a.natAbs<2^8000):Builtin.Int.intBits a<=8001:=by
 unfold Builtin.Int.intBits
 split
 ·lia
 ·rename_i h0;have YY:a.natAbs≠0:=by
   intro z;apply h0
   first|exact Int.natAbs_eq_zero.mp z|simp[Int.natAbs_eq_zero.mp z]|lia
  have:=(UC YY).mpr h
  lia
theorem Iy.ok{i j:Int}(h:Iy i j):IntMulOk i j:=by
 have h1:=Jk h.1;have h2:=Jk h.2;unfold IntMulOk;have:Builtin.Int.intTooBig (Builtin.Int.intBits i+Builtin.Int.intBits j)=false:=by
  unfold Builtin.Int.intTooBig;simp only[decide_eq_false_iff_not];have:(16002:Int)<=bitsLine:=∅
  lia
 rw[this];simp
theorem A9:lK X (VS .Mult) (rI Iy λi j=>.int (i*j)):=EB λ_ _ _ _ _ _ _ hc q=>mul_int q hc.ok
def r8(i j:Int):Prop:=j≠0/\j.natAbs<2^8000
theorem dA:lK X (VS .FloorDiv) (rI r8 λi j=>.int (i.fdiv j)):=EB λi j _ _ _ _ _ hc q=>by
 obtain⟨h0,h1⟩:=hc;have hl:j.natAbs.log2<9000:=by
  have:=(UC (show j.natAbs≠0 by lia)).mpr h1
  lia
 exact floordiv_int h0 q (.inl (PyProof.noPylong_of_log2 hl))
theorem xY(ho:QE X o to)(ha:QA X [e] tr)(YF:VR o "append" X.env (VF o X.env)=VF o X.env:=by rfl)(YG:(ap.endLine==pos.line)=true:=by rfl)(hs:bO e=false:=by rfl):
  QE X (.Call (.Attribute o "append" ap) [e] [] pos) (HL X.K "list" Ls to tr):=
 ⟨Uw PySem.F.plainAttrs_list PySem.F.slot_list_append PySem.F.type_list_append xU ho.h ha.h YF (by rw[dI hs];rfl) YG (dI hs) (iN rfl)⟩
theorem yQ:iH X (.builtin "divmod") (λxs H Q=>∃a b:Int,xs=[.int a,.int b]/\0<b/\b<2^200/\∀p,H p=none->Q (.ref p) (upd H p (.tup [.int (a/b),.int (a%b)]))):=by
 intro pins s σ H xs us Q I r h;obtain⟨a,b,rfl,h0,h1,q⟩:=h;obtain⟨u,v,rfl,rx,ry⟩:=bA.two r;obtain⟨t,rfl⟩:=rx;obtain⟨t',rfl⟩:=ry;have e1:a.fdiv b=a/b:=QH _ ⋯;have e2:a.fmod b=a%b:=SX _ ⋯;have hl:b.natAbs.log2<9000:=by
  have hb:b.natAbs<2^200:=⋯
  have:=(UC (show b.natAbs≠0 by lia)).mpr hb
  lia
 refine divmod_int ⋯ ?_ (.inl (PyProof.noPylong_of_log2 hl));refine⟨.ref s.heap.objs.size,_,I.laid (o:=.tup [.int (a/b),.int (a%b)]) (t':=s.toks+1+1) (λb u e=>MM _ e) (MQ _) ?_,rfl,q _ (I.hok.fresh (MQ _))⟩;refine⟨by show 2<=UT;decide,[.int (a.fdiv b) s.toks,.int (a.fmod b) (s.toks+1)],.cons ⟨_,by rw[e1]⟩ (.cons ⟨_,by rw[e2]⟩ .nil),⟨_,NA _ rfl,rfl,_,rfl⟩⟩
section
variable{κ:Type}[DecidableEq κ]
def m7(XN:List (κ×V))(k:κ):Option V:=(XN.find? λkv=>decide (kv.1=k)).map (·.2)
def zY(XN:List (κ×V))(k:κ)(v:V):List (κ×V):=
 if(XN.any λkv=>decide (kv.1=k))=true then XN.map (λkv=>if kv.1=k then(kv.1,v)else kv)else XN++[(k,v)]
theorem qL{p:κ×V}(e:p.1=k):m7 (p::r) k=oZ p.2:=by simp[m7,RK,e]
theorem qK{p:κ×V}(e:¬p.1=k):m7 (p::r) k=m7 r k:=by simp[m7,RK,e]
theorem Eo(k:κ):∀XN:List (κ×V),(XN.any λkv=>decide (kv.1=k))=(m7 XN k).isSome
 |[]=>rfl
 |p::r=>by
  rw[UL]
  by_cases e:p.1=k
  ·simp only[qL e,oY e,Bool.true_or,Option.isSome_some]
  ·rw[qK e,oX e,Bool.false_or];exact Eo k r
theorem Cj(XN:List (κ×V))(k:κ)(v:V):(zY XN k v).length<=XN.length+1:=by
 unfold zY
 split
 ·rw[ML];lia
 ·rw[MP,MS,OZ];lia
theorem Qn.isSome_eq(r:Qn o u):o.isSome=u.isSome:=by
 cases o with
 |none=>cases u with
  |none=>rfl
  |some _=>exact(show False from r).elim
 |some _=>cases u with
  |none=>exact(show False from r).elim
  |some _=>rfl
end
theorem DS(r:bM (kV k) u):(b9 P w).is k u=true:=by
 cases k with
 |inl i=>obtain⟨t,e⟩:=(show ∃t,u=Value.int i t from r);subst e;exact Cn P w i t
 |inr x=>obtain⟨t,e⟩:=(show ∃t,u=Value.str x t from r);subst e;exact Co P w x t
theorem rE:∀{ks:List Key}{us:List oA},bA (ks.map kV) us->ItemsAre (b9 P w) ks us
 |[],_,r=>by rw[QN]at r;cases r;exact .nil
 |k::ks,_,r=>by
  rw[MR]at r;cases r with
  |cons h t=>exact .cons (DS h) (rE t)
abbrev Ja(H:Hp):List (List Key×V)->List (List Key×UQ×oA)->Prop:=Paired λp q=>p.1=q.1/\H q.2.1=oZ (.tup (p.1.map kV))/\bM p.2 q.2.2
theorem Ja.val(r:Ja H XN xs)(k:List Key):Qn (m7 XN k) ((atKey xs k).map (·.2)):=by
 induction r with
 |nil=>exact True.intro
 |@cons p q ps qs h t ih=>
  obtain⟨h1,_,h2⟩:=h
  by_cases e:p.1=k
  ·have e':q.1=k:=h1.symm.trans e;have b:atKey (q::qs) k=oZ q.2:=by simp[atKey,RK,e']
   rw[qL e,b];exact h2
  ·have e':¬q.1=k:=λz=>e (h1.trans z);have b:atKey (q::qs) k=atKey qs k:=by simp[atKey,RK,e']
   rw[qK e,b];exact ih
theorem Ja.repl(r:Ja H XN xs)(k:List Key)(ry:bM y u):
  Ja H (XN.map λkv=>if kv.1=k then(kv.1,y)else kv) (xs.map (putAt k u)):=by
 induction r with
 |nil=>exact .nil
 |@cons p q ps qs h t ih=>
  rw[MR,MR];refine .cons ?_ ih;obtain⟨h1,h2,h3⟩:=h;unfold putAt
  by_cases e:p.1=k
  ·rw[oV e,oV (h1.symm.trans e)];exact⟨h1,h2,ry⟩
  ·rw[oW e,oW (λz=>e (h1.trans z))];exact⟨h1,h2,h3⟩
theorem Ja.put(r:Ja H XN xs)(k:List Key)(hb:H b=oZ (.tup (k.map kV)))(ry:bM y u):
  Ja H (zY XN k y) (storedH xs k b u):=by
 have e:(XN.any λkv=>decide (kv.1=k))=(atKey xs k).isSome:=by
  rw[Eo,(r.val k).isSome_eq,Option.isSome_map]
 unfold zY storedH;rw[e]
 by_cases q:(atKey xs k).isSome=true
 ·rw[oV q,oV q];exact r.repl k ry
 ·rw[oW q,oW q];exact Paired.snoc r ⟨rfl,hb,ry⟩
theorem Ja.keeps(r:Ja H XN xs)(ht:∀b ys,H b=oZ (.tup ys)->H' b=oZ (.tup ys)):Ja H' XN xs:=
 Paired.mapP r λ_ _ z=>⟨z.1,ht _ _ z.2.1,z.2.2⟩
theorem Vu(ok:nJ P w H h)(e:Rd H a u):dD P w H h a u:=e.ok ok
theorem CJ(ok:nJ P w H h)(e:Rd H a (.dK XN)):XN.length<=UT/\(a==VO)=false/\∃vs,KV XN vs/\h.DictOf (b9 P w) a vs:=
 show dD P w H h a (.dK XN)from Vu ok e
theorem To(ok:nJ P w H h)(e:H a=oZ (.tup (ks.map kV))):(VT (b9 P w)).is h ks a:=by
 obtain⟨_,XD,r,o,h1,h2,n,h3⟩:=(show dD P w H h a (.tup (ks.map kV))from ok a _ e);exact⟨o,XD.toArray,n,h1,h2,h3,by simpa using rE r⟩
theorem L6(ok:nJ P w H h)(e:Rd H a (.dT XN)):XN.length<=UT/\(a==VO)=false/\
  ∃xs,Ja H XN xs/\h.DictOfH (VT (b9 P w)) a xs:=by
 obtain⟨z,y,xs,r,o,es,ep,h1,h2,h3,h4,h5⟩:=(show dD P w H h a (.dT XN)from Vu ok e);refine⟨z,y,xs,r,o,es,ep,h1,h2,h3,h4,λx hx=>?_,h5⟩;have all:∀{l:List (List Key×V)}{m:List (List Key×UQ×oA)},Ja H l m->∀x∈m,(VT (b9 P w)).is h x.1 x.2.1:=by
  intro l m q
  induction q with
  |nil=>intro x hx;exact nomatch hx
  |@cons p q ps qs hq t ih=>
   intro x hx;obtain e|hx:=MJ.mp hx
   ·subst e;exact To ok (by rw[<-hq.1];exact hq.2.1)
   ·exact ih x hx
 exact all r x hx
theorem CK(ok:nJ P w H h)(e:H a=oZ (.dT XN)):XN.length<=UT/\(a==VO)=false/\
  ∃xs,Ja H XN xs/\h.DictOfH (VT (b9 P w)) a xs:=L6 ok (.inl e)
theorem aS.big(I:aS X pins σ H s):VO<s.heap.objs.size:=by
 have h:UX<s.heap.objs.size:=(I.mod.glob.keeps I.bk).lt;exact Nat.lt_trans ∅ h
theorem Ju(I:aS X pins σ H s)(mu:BV (H a))(hs:PN a s.heap h')(he:∃q,h'.get? a=oZ q)(new:dD X.prog X.w (upd H a ob) h' a ob):
  aS X pins σ (upd H a ob) { s with heap:=h',toks:=t' }:=
 I.write (x:=a) (e:=a) mu (.inl rfl) (λb q hb z=>(hs.2 b hb).trans z) he new
theorem Rw(h:oE)(hb:VO<h.objs.size):dD P w H (h.push { cls:=.type "dict",data:=.dict #[] }) h.objs.size (.dT []):=
 ⟨OR _,beq_eq_false_iff_ne.mpr (Ne.symm (NQ hb)),[],.nil,_,#[],0,NA _ rfl,⟨rfl,rfl,rfl⟩,rfl,rfl,SO⟩
def Wu:TE:=λ_ H Q=>∀p,H p=none->Q (.ref p) (upd H p (.dT []))
theorem Uz:PE X (.Dict [] [] pos) Wu:=λpins s σ H Q I h=>
 wpAny_Dict_empty ⟨.ref s.heap.objs.size,_,I.laid (a:=s.heap.objs.size) (o:=.dT []) (t':=s.toks) (λ_ _ q=>MM _ q) (MQ _) (Rw s.heap I.big),rfl,h _ (I.hok.fresh (MQ _))⟩
inductive T where
 |non|bl (b:Bool)|int (i:Int)|str (x:Str)|tup (xs:List T)|lst (xs:List T)
inductive U where
 |p (t:T)|o (k:Bool) (xs:List T)
abbrev En:=List (Option U)
inductive R where
 |p (t:T)|s (i:Nat)
def KT(K:W.Frag)(a:UQ)(xs:List V):Prop:=∃(o:Obj)(XD:Array oA)(n:Nat),K.lookup a=oZ o/\o.cls = .type "tuple"/\o.data = .seq XD n/\XD.size<=UT/\bA xs XD.toList
def KL(K:W.Frag)(a:UQ)(xs:List V):Prop:=∃(o:Obj)(XD:Array oA)(n:Nat),K.lookup a=oZ o/\o.cls = .type "list"/\o.dict=none/\o.data = .seq XD n/\XD.size<=UT/\bA xs XD.toList
mutual
def Rp(K:W.Frag)(H:Hp)(O:UQ->Prop):T->V->Prop
 |.non,v=>v = .non
 |.bl b,v=>v = .bl b
 |.int i,v=>v = .int i
 |.str x,v=>v = .str x
 |.tup xs,v=>∃a vs,v = .ref a/\((¬O a/\H a=oZ (.tup vs))\/KT K a vs)/\bW K H O xs vs
 |.lst xs,v=>∃a vs,v = .ref a/\((¬O a/\Rd H a (.lst vs))\/KL K a vs)/\bW K H O xs vs
def bW(K:W.Frag)(H:Hp)(O:UQ->Prop):List T->List V->Prop
 |[],vs=>vs=[]
 |x::xs,vs=>∃v r,vs=v::r/\Rp K H O x v/\bW K H O xs r
end
structure Kp(O O':UQ->Prop)(H H':Hp):Prop where
 keep:∀b o,H b=oZ o->¬O b->H' b=oZ o
 new:∀b,O' b->O b\/H b=none
theorem Kp.tup{O O':UQ->Prop}(k:Kp O O' H H')(h:¬O a/\H a=oZ u):¬O' a/\H' a=oZ u:=by
 obtain⟨n,h⟩:=h;refine⟨λz=>?_,k.keep _ _ h n⟩;obtain z|z:=k.new a z
 ·exact n z
 ·rw[h]at z;cases z
theorem Rd.step{O O':UQ->Prop}(k:Kp O O' H H')(h:¬O a/\Rd H a u):¬O' a/\Rd H' a u:=by
 obtain⟨n,h⟩:=h;obtain h|⟨o,h⟩:=h
 ·refine⟨λz=>?_,.inl (k.keep _ _ h n)⟩;obtain z|z:=k.new a z
  ·exact n z
  ·rw[h]at z;cases z
 ·refine⟨λz=>?_,.inr ⟨o,k.keep _ _ h n⟩⟩;obtain z|z:=k.new a z
  ·exact n z
  ·rw[h]at z;cases z
section
variable{K:W.Frag}{H H':Hp}{O O':UQ->Prop}
mutual
theorem Rp.step(k:Kp O O' H H'):∀{t:T}{v:V},Rp K H O t v->Rp K H' O' t v
 |.non,_,h=>h
 |.bl _,_,h=>h
 |.int _,_,h=>h
 |.str _,_,h=>h
 |.tup xs,v,h=>by
  obtain⟨a,vs,e,h1,h2⟩:=h;exact⟨a,vs,e,h1.imp (Kp.tup k) id,bW.step k h2⟩
 |.lst xs,v,h=>by
  obtain⟨a,vs,e,h1,h2⟩:=h;exact⟨a,vs,e,h1.imp (Rd.step k) id,bW.step k h2⟩
theorem bW.step(k:Kp O O' H H'):∀{xs:List T}{vs:List V},bW K H O xs vs->bW K H' O' xs vs
 |[],_,h=>h
 |x::xs,vs,h=>by
  obtain⟨v,r,e,h1,h2⟩:=h;exact⟨v,r,e,Rp.step k h1,bW.step k h2⟩
end
theorem Kp.refl(O:UQ->Prop)(H:Hp):Kp O O H H:=⟨λ_ _ h _=>h,λ_ h=>.inl h⟩
theorem Kp.less(h:∀b,O' b->O b):Kp O O' H H:=⟨λ_ _ h _=>h,λ_ z=>.inl (h _ z)⟩
theorem Kp.trans{O'':UQ->Prop}(a:Kp O O' H H')(b:Kp O' O'' H' H''):Kp O O'' H H'':=by
 refine⟨λc o h n=>b.keep c o (a.keep c o h n) λz=>?_,λc h=>?_⟩
 ·obtain z|z:=a.new c z
  ·exact n z
  ·rw[h]at z;cases z
 ·obtain z|z:=b.new c h
  ·exact a.new c z
  ·by_cases n:O c
   ·exact .inl n
   ·right
    cases q:H c with
    |none=>rfl
    |some o=>rw[a.keep c o q n]at z;cases z
theorem Kp.upd(h:H a=none):Kp O O H (upd H a o):=⟨λb u e _=>by rw[aT (aV e h)];exact e,λ_ z=>.inl z⟩
theorem bW.length:∀{xs:List T}{vs:List V},bW K H O xs vs->vs.length=xs.length
 |[],_,h=>by cases h;rfl
 |_::_,_,h=>by
  obtain⟨v,r,e,_,h2⟩:=h;rw[e,MS,MS,bW.length h2]
theorem bW.get:∀{xs:List T}{vs:List V}{i:Nat}{x:T},bW K H O xs vs->xs[i]?=oZ x->∃v,vs[i]?=oZ v/\Rp K H O x v
 |[],_,_,_,_,e=>by simp at e
 |_::_,_,0,_,⟨v,r,e,h1,_⟩,q=>by simp at q;subst q;subst e;exact⟨v,rfl,h1⟩
 |_::_,_,i+1,x,⟨v,r,e,_,h2⟩,q=>by
  obtain⟨w,q1,q2⟩:=bW.get (i:=i) (x:=x) h2 (by simpa using q);subst e;exact⟨w,by simpa using q1,q2⟩
theorem bW.append:∀{xs ys:List T}{vs ws:List V},bW K H O xs vs->bW K H O ys ws->bW K H O (xs++ys) (vs++ws)
 |[],_,_,_,h,k=>by cases h;exact k
 |_::_,_,_,_,⟨v,r,e,h1,h2⟩,k=>by subst e;exact⟨v,_,rfl,h1,bW.append h2 k⟩
theorem bW.set(h:Rp K H O x v):∀{xs:List T}{vs:List V}(i:Nat),bW K H O xs vs->bW K H O (xs.set i x) (vs.set i v)
 |[],_,_,k=>by cases k;exact rfl
 |_::_,_,0,⟨u,r,e,h1,h2⟩=>by subst e;exact⟨v,_,rfl,h,h2⟩
 |_::_,_,i+1,⟨u,r,e,h1,h2⟩=>by subst e;exact⟨u,_,rfl,h1,bW.set h i h2⟩
theorem bW.take:∀{xs:List T}{vs:List V}(n:Nat),bW K H O xs vs->bW K H O (xs.take n) (vs.take n)
 |_,_,0,_=>by simp[bW]
 |[],_,_+1,h=>by cases h;exact rfl
 |_::_,_,n+1,⟨v,r,e,h1,h2⟩=>by subst e;exact⟨v,_,rfl,h1,bW.take n h2⟩
theorem bW.drop:∀{xs:List T}{vs:List V}(n:Nat),bW K H O xs vs->bW K H O (xs.drop n) (vs.drop n)
 |_,_,0,h=>h
 |[],_,_+1,h=>by cases h;exact rfl
 |_::_,_,n+1,⟨v,r,e,h1,h2⟩=>by subst e;exact bW.drop n h2
theorem bW.reverse:∀{xs:List T}{vs:List V},bW K H O xs vs->bW K H O xs.reverse vs.reverse
 |[],_,h=>by cases h;exact rfl
 |_::_,_,⟨v,r,e,h1,h2⟩=>by
  subst e;rw[RQ,RQ];exact(bW.reverse h2).append ⟨v,[],rfl,h1,rfl⟩
theorem Rp.sqT(h:Rp K H O (.tup xs) v):∃a vs,v = .ref a/\nA K H a vs/\bW K H O xs vs:=by
 obtain⟨a,vs,e,h1,h2⟩:=h;exact⟨a,vs,e,h1.imp (λh=>.inl h.2) id,h2⟩
theorem Rp.sqL(h:Rp K H O (.lst xs) v):∃a vs,v = .ref a/\jJ K H a vs/\bW K H O xs vs:=by
 obtain⟨a,vs,e,h1,h2⟩:=h;exact⟨a,vs,e,h1.imp And.right id,h2⟩
end
def Ow(B:UQ->Prop)(S:St)(E:En)(a:UQ):Prop:=B a\/∃(i:Nat)(k:Bool)(xs:List T),E[i]?=oZ (oZ (.o k xs))/\S[i]?=oZ (oZ (.ref a))
structure RE(K:W.Frag)(B:UQ->Prop)(H:Hp)(S:St)(E:En):Prop where
 len:S.length=E.length
 pure:∀(i:Nat)(t:T),E[i]?=oZ (oZ (.p t))->∃v,S[i]?=oZ (oZ v)/\Rp K H (Ow B S E) t v
 own:∀(i:Nat)(k:Bool)(xs:List T),E[i]?=oZ (oZ (.o k xs))->∃a vs,S[i]?=oZ (oZ (.ref a))/\H a=oZ (.lst vs)/\bW K H (Ow B S E) xs vs/\(k=true↔B a)
 inj:∀(i j:Nat)(k l:Bool)(xs ys:List T)(a:UQ),E[i]?=oZ (oZ (.o k xs))->E[j]?=oZ (oZ (.o l ys))->S[i]?=oZ (oZ (.ref a))->S[j]?=oZ (oZ (.ref a))->i=j
 bd:∀a,B a->∃vs,H a=oZ (.lst vs)
theorem RE.ow{K:W.Frag}{B:UQ->Prop}{H:Hp}{S:St}{E:En}(r:RE K B H S E){a:UQ}(h:Ow B S E a):∃vs,H a=oZ (.lst vs):=by
 obtain h|⟨i,k,xs,h1,h2⟩:=h
 ·exact r.bd a h
 obtain⟨a',vs,h3,h4,_⟩:=r.own i k xs h1;rw[h2]at h3;cases h3;exact⟨vs,h4⟩
theorem RE.nn{K:W.Frag}{B:UQ->Prop}{H:Hp}{S:St}{E:En}(r:RE K B H S E){a:UQ}(h:H a=none):¬Ow B S E a:=λz=>by
 obtain⟨ws,e⟩:=r.ow z;rw[h]at e;cases e
theorem RE.step{K:W.Frag}{B:UQ->Prop}{H:Hp}{H':Hp}{S:St}{E:En}{E':En}(r:RE K B H S E)(k:∀b o,H b=oZ o->¬Ow B S E b->H' b=oZ o)(hl:E'.length=E.length)(hp:∀(i:Nat)(t:T),E'[i]?=oZ (oZ (.p t))->E[i]?=oZ (oZ (.p t)))(ho:∀(i:Nat)(k:Bool)(oj:List T),E'[i]?=oZ (oZ (.o k oj))->∃xs,E[i]?=oZ (oZ (.o k xs))/\∀a,S[i]?=oZ (oZ (.ref a))->∃vs,H' a=oZ (.lst vs)/\bW K H' (Ow B S E) oj vs)(hb:∀a,B a->∃vs,H' a=oZ (.lst vs)):RE K B H' S E':=by
 have ow:∀b,Ow B S E' b->Ow B S E b:=λb z=>by
  obtain z|⟨i,k,xs,h1,h2⟩:=z
  ·exact .inl z
  obtain⟨ys,h3,_⟩:=ho i k xs h1;exact .inr ⟨i,k,ys,h3,h2⟩
 have kp:Kp (Ow B S E) (Ow B S E') H H':=⟨k,λb z=>.inl (ow b z)⟩;refine⟨by rw[hl];exact r.len,λi t h=>?_,λi k xs h=>?_,λi j k l xs ys a h1 h2 h3 h4=>?_,hb⟩
 ·obtain⟨v,h1,h2⟩:=r.pure i t (hp i t h);exact⟨v,h1,h2.step kp⟩
 ·obtain⟨ys,h1,h2⟩:=ho i k xs h;obtain⟨a,vs,h3,_,_,h6⟩:=r.own i k ys h1;obtain⟨ws,h7,h8⟩:=h2 a h3;exact⟨a,ws,h3,h7,h8.step (Kp.less ow),h6⟩
 ·obtain⟨_,q1,_⟩:=ho i k xs h1;obtain⟨_,q2,_⟩:=ho j l ys h2;exact r.inj i j k l _ _ a q1 q2 h3 h4
theorem RE.kept{K:W.Frag}{B:UQ->Prop}{H:Hp}{H':Hp}{S:St}{E:En}(r:RE K B H S E)(k:∀b o,H b=oZ o->H' b=oZ o):RE K B H' S E:=
 r.step (λb o h _=>k b o h) rfl (λ_ _ h=>h) (λi l xs h=>⟨xs,h,λa ha=>by
  obtain⟨a',vs,h1,h2,h3,_⟩:=r.own i l xs h;rw[ha]at h1;cases h1;exact⟨vs,k _ _ h2,h3.step ⟨λb o e _=>k b o e,λb z=>.inl z⟩⟩⟩) (λa h=>let⟨vs,q⟩:=r.bd a h;⟨vs,k _ _ q⟩)
theorem RE.take{K:W.Frag}{B:UQ->Prop}{H:Hp}{S:St}{E:En}(r:RE K B H S E)(n:Nat):RE K B H (S.take n) (E.take n):=by
 have gE:∀{i:Nat}{x:Option U},(E.take n)[i]?=oZ x->E[i]?=oZ x/\i<n:=λ{i x}h=>by
  by_cases c:i<n
  ·rw[OT c]at h;exact⟨h,c⟩
  ·rw[QJ ⋯]at h;cases h
 have gS:∀{i:Nat}{x:Option V},i<n->S[i]?=oZ x->(S.take n)[i]?=oZ x:=λ{i x}c h=>by rw[OT c];exact h
 have bf:∀{i:Nat}{x:Option V},(S.take n)[i]?=oZ x->S[i]?=oZ x:=λ{i x}h=>by
  by_cases c:i<n
  ·rw[OT c]at h;exact h
  ·rw[QJ ⋯]at h;cases h
 have ow:∀b,Ow B (S.take n) (E.take n) b->Ow B S E b:=λb z=>z.imp id λzZ=>by obtain⟨i,k,xs,h1,h2⟩:=zZ;exact⟨i,k,xs,(gE h1).1,bf h2⟩
 refine⟨by rw[OC,OC,r.len],λi t h=>?_,λi k xs h=>?_,λi j k l xs ys a h1 h2 h3 h4=>?_,r.bd⟩
 ·obtain⟨v,h1,h2⟩:=r.pure i t (gE h).1;exact⟨v,gS (gE h).2 h1,h2.step (Kp.less ow)⟩
 ·obtain⟨a,vs,h1,h2,h3,h4⟩:=r.own i k xs (gE h).1;exact⟨a,vs,gS (gE h).2 h1,h2,h3.step (Kp.less ow),h4⟩
 ·exact r.inj i j k l xs ys a (gE h1).1 (gE h2).1 (bf h3) (bf h4)
def RR(K:W.Frag)(B:UQ->Prop)(H:Hp)(S:St)(E:En):R->V->Prop
 |.p t,v=>Rp K H (Ow B S E) t v
 |.s i,v=>S[i]?=oZ (oZ v)
def Qf(K:W.Frag)(B:UQ->Prop)(H:Hp)(S:St)(E:En):List R->List V->Prop
 |[],vs=>vs=[]
 |r::rs,vs=>∃v ws,vs=v::ws/\RR K B H S E r v/\Qf K B H S E rs ws
structure Gr(B:UQ->Prop)(H:Hp)(S:St)(E:En)(H':Hp)(S':St)(E':En):Prop where
 kp:Kp (Ow B S E) (Ow B S' E') H H'
 pre:∃τ,S'=S++τ
theorem Gr.refl{B:UQ->Prop}:Gr B H S E H S E:=⟨Kp.refl _ _,[],by simp⟩
theorem Gr.trans{B:UQ->Prop}(a:Gr B H S E H1 S1 E1)(b:Gr B H1 S1 E1 H2 S2 E2):Gr B H S E H2 S2 E2:=by
 obtain⟨t,e⟩:=a.pre;obtain⟨u,f⟩:=b.pre;exact⟨a.kp.trans b.kp,t++u,by rw[f,e,MO]⟩
theorem gL{S S':St}(h:∃τ,S'=S++τ){i:Nat}{x:Option V}(e:S[i]?=oZ x):S'[i]?=oZ x:=by
 obtain⟨t,rfl⟩:=h;rw[NK (MK.mp e).1];exact e
section
variable{K:W.Frag}{B:UQ->Prop}{H H':Hp}{S S':St}{E E':En}{σ:St}
theorem RR.step(g:Gr B H S E H' S' E')(h:RR K B H S E r v):RR K B H' S' E' r v:=by
 cases r with
 |p t=>exact Rp.step g.kp h
 |s i=>exact gL g.pre h
theorem Qf.step(g:Gr B H S E H' S' E'):∀{rs:List R}{vs:List V},Qf K B H S E rs vs->Qf K B H' S' E' rs vs
 |[],_,h=>h
 |_::_,_,⟨v,ws,e,h1,h2⟩=>⟨v,ws,e,h1.step g,Qf.step g h2⟩
def Lk(K:W.Frag)(B:UQ->Prop)(H:Hp)(S:St)(E:En)(Q':R->En->Prop)(Q:VK):Prop:=∀r E' v H' S',Q' r E'->Gr B H S E H' S' E'->RE K B H' S' E'->RR K B H' S' E' r v->Q v H'
def LA(K:W.Frag)(n:Nat)(B:UQ->Prop)(H:Hp)(S:St)(E:En)(Q':List R->En->Prop)(Q:List V->Hp->Prop):Prop:=∀rs E' vs H' S',Q' rs E'->Gr B H S E H' S' E'->RE K B H' S' E'->Qf K B H' S' E' rs vs->vs.length=n->Q vs H'
theorem Lk.step{Q':R->En->Prop}(l:Lk K B H S E Q' Q)(g:Gr B H S E H' S' E'):Lk K B H' S' E' Q' Q:=λr E2 v H2 S2 q g2=>l r E2 v H2 S2 q (g.trans g2)
end
abbrev FE:=En->(R->En->Prop)->Prop
abbrev FA:=En->(List R->En->Prop)->Prop
abbrev FB:=En->(Bool->En->Prop)->Prop
def aJ(K:W.Frag)(F:FE):TE:=λσ H Q=>∃B S E Q',(∃τ,S=σ++τ)/\RE K B H S E/\F E Q'/\Lk K B H S E Q' Q
def cZ(K:W.Frag)(n:Nat)(F:FA):TA:=λσ H Q=>∃B S E Q',(∃τ,S=σ++τ)/\RE K B H S E/\F E Q'/\LA K n B H S E Q' Q
def d8(K:W.Frag)(F:FB):TT:=λσ H Q=>∃B S E Q',(∃τ,S=σ++τ)/\RE K B H S E/\F E Q'/\∀b E' H' S',Q' b E'->Gr B H S E H' S' E'->RE K B H' S' E'->Q b H'
theorem QE.le(h:QE X e t)(m:∀σ H Q,σ.length=X.N.length->t' σ H Q->t σ H Q):QE X e t':=⟨λpins s σ H Q I z=>h.h pins s σ H Q I (m σ H Q I.len z)⟩
theorem QA.le(h:QA X es t)(m:∀σ H Q,t' σ H Q->t σ H Q):QA X es t':=⟨λpos pins s σ H Q I z=>h.h pos pins s σ H Q I (m σ H Q z)⟩
theorem QT.le(h:QT X e t)(m:∀σ H Q,t' σ H Q->t σ H Q):QT X e t':=⟨λpins s σ H Q I z=>h.h pins s σ H Q I (m σ H Q z)⟩
theorem QW.le(h:QW X e t)(m:∀σ H Q,t' σ H Q->t σ H Q):QW X e t':=⟨λwh pins s σ H Q I z=>h.h wh pins s σ H Q I (m σ H Q z)⟩
def vl(E:En):R->Option T
 |.p t=>oZ t
 |.s i=>match E[i]? with
  |some (oZ (.o _ xs))=>oZ (.lst xs)
  |some (oZ (.p t))=>oZ t
  |_=>none
def Rt(K:W.Frag)(H:Hp)(O:UQ->Prop):T->V->Prop
 |.tup xs,v=>∃a vs,v = .ref a/\nA K H a vs/\bW K H O xs vs
 |.lst xs,v=>∃a vs,v = .ref a/\jJ K H a vs/\bW K H O xs vs
 |t,v=>Rp K H O t v
theorem Rp.rt{K:W.Frag}{H:Hp}{O:UQ->Prop}{t:T}{v:V}(h:Rp K H O t v):Rt K H O t v:=by
 cases t with
 |tup xs=>exact h.sqT
 |lst xs=>exact h.sqL
 |non=>exact h
 |bl _=>exact h
 |int _=>exact h
 |str _=>exact h
theorem RE.vl{K:W.Frag}{B:UQ->Prop}{H:Hp}{S:St}{E:En}(re:RE K B H S E){r:R}{v:V}{t:T}(h:RR K B H S E r v)(e:vl E r=oZ t):Rt K H (Ow B S E) t v:=by
 cases r with
 |p u=>cases e;exact Rp.rt h
 |s i=>
  cases q:E[i]? with
  |none=>simp only[L2.vl,q]at e;cases e
  |some u=>
   cases u with
   |none=>simp only[L2.vl,q]at e;cases e
   |some u=>
    cases u with
    |p u=>
     simp only[L2.vl,q]at e;cases e;obtain⟨w,h1,h2⟩:=re.pure i _ q;have h':S[i]?=oZ (oZ v):=h;rw[h']at h1;cases h1;exact h2.rt
    |o k xs=>
     simp only[L2.vl,q]at e;cases e;obtain⟨a,vs,h1,h2,h3,_⟩:=re.own i k xs q;have h':S[i]?=oZ (oZ v):=h;rw[h']at h1;cases h1;exact⟨a,vs,rfl,jJ.of h2,h3⟩
theorem RE.int{K:W.Frag}{B:UQ->Prop}{H:Hp}{S:St}{E:En}(re:RE K B H S E){r:R}{v:V}{i:Int}(h:RR K B H S E r v)(e:L2.vl E r=oZ (.int i)):v = .int i:=re.vl h e
theorem RE.bl{K:W.Frag}{B:UQ->Prop}{H:Hp}{S:St}{E:En}(re:RE K B H S E){r:R}{v:V}{b:Bool}(h:RR K B H S E r v)(e:L2.vl E r=oZ (.bl b)):v = .bl b:=re.vl h e
theorem RE.tup{K:W.Frag}{B:UQ->Prop}{H:Hp}{S:St}{E:En}(re:RE K B H S E){p:UQ}{ts:List T}{vs:List V}(hp:H p=none)(h:bW K H (Ow B S E) ts vs):
  Gr B H S E (upd H p (.tup vs)) S E/\RE K B (upd H p (.tup vs)) S E/\Rp K (upd H p (.tup vs)) (Ow B S E) (.tup ts) (.ref p):=by
 have k:Kp (Ow B S E) (Ow B S E) H (upd H p (.tup vs)):=Kp.upd hp;exact⟨⟨k,[],by simp⟩,re.kept λb o e=>by rw[aT (aV e hp)];exact e,p,vs,rfl,.inl ⟨re.nn hp,bY⟩,h.step k⟩
theorem uK{α:Type}{xs:List α}{x:α}{y:α}(h:(xs++[x])[i]?=oZ y):(i<xs.length/\xs[i]?=oZ y)\/(i=xs.length/\y=x):=by
 obtain c|c:=OY i xs.length
 ·rw[NK c]at h;exact .inl ⟨c,h⟩
 ·rw[OF c]at h;have:i-xs.length=0:=by
   obtain z|z:=SS (i-xs.length)
   ·exact z
   ·rw[PM (by simp;lia)]at h;cases h
  rw[this]at h;simp at h;exact .inr ⟨⋯,h.symm⟩
theorem jC{α:Type}{xs:List α}{x:α}:(xs++[x])[xs.length]?=oZ x:=by simp
theorem RE.lst{K:W.Frag}{B:UQ->Prop}{H:Hp}{S:St}{E:En}(re:RE K B H S E){p:UQ}{ts:List T}{vs:List V}(hp:H p=none)(h:bW K H (Ow B S E) ts vs):
  Gr B H S E (upd H p (.lst vs)) (S++[oZ (.ref p)]) (E++[oZ (.o false ts)])/\RE K B (upd H p (.lst vs)) (S++[oZ (.ref p)]) (E++[oZ (.o false ts)]):=by
 have gE:∀{i:Nat}{u:U},(E++[oZ (.o false ts)])[i]?=oZ (oZ u)->(E[i]?=oZ (oZ u)/\i<E.length)\/(i=E.length/\u = .o false ts):=λ{i u}h=>by
  obtain⟨c,h⟩|⟨c,h⟩:=uK h
  ·exact .inl ⟨h,c⟩
  ·exact .inr ⟨c,Option.some.inj h⟩
 have gS:∀{i:Nat}{x:Option V},S[i]?=oZ x->(S++[oZ (.ref p)])[i]?=oZ x:=λ{i x}h=>gL ⟨_,rfl⟩ h;have bf:∀{i:Nat}{x:Option V},i<E.length->(S++[oZ (.ref p)])[i]?=oZ x->S[i]?=oZ x:=λ{i x}c h=>by
  rw[NK (by rw[re.len];exact c)]at h;exact h
 have lS:(S++[oZ (.ref p)])[E.length]?=oZ (oZ (.ref p)):=by rw[<-re.len];simp
 have ow:∀b,Ow B (S++[oZ (.ref p)]) (E++[oZ (.o false ts)]) b->Ow B S E b\/H b=none:=λb z=>by
  obtain z|⟨i,k,xs,h1,h2⟩:=z
  ·exact .inl (.inl z)
  obtain⟨h1,c⟩|⟨c,h1⟩:=gE h1
  ·exact .inl (.inr ⟨i,k,xs,h1,bf c h2⟩)
  ·subst c;rw[lS]at h2;cases h2;exact .inr hp
 have k:Kp (Ow B S E) (Ow B (S++[oZ (.ref p)]) (E++[oZ (.o false ts)])) H (upd H p (.lst vs)):=⟨λb o e _=>by rw[aT (aV e hp)];exact e,ow⟩;refine⟨⟨k,_,rfl⟩,⟨by simp[re.len],λi t h=>?_,λi l xs h=>?_,λi j l m xs ys a h1 h2 h3 h4=>?_,λa h=>?_⟩⟩
 ·obtain⟨h,c⟩|⟨c,h⟩:=gE h
  ·obtain⟨v,h1,h2⟩:=re.pure i t h;exact⟨v,gS h1,h2.step k⟩
  ·cases h
 ·obtain⟨h,c⟩|⟨c,h⟩:=gE h
  ·obtain⟨a,ws,h1,h2,h3,h4⟩:=re.own i l xs h;exact⟨a,ws,gS h1,by rw[aT (aV h2 hp)];exact h2,h3.step k,h4⟩
  ·cases h;subst c;refine⟨p,vs,lS,bY,?_,⟨λz=>absurd z ∅,λz=>absurd (.inl z) (re.nn hp)⟩⟩;exact bW.step k (by assumption)
 ·obtain⟨h1,c1⟩|⟨c1,h1⟩:=gE h1
  ·obtain⟨h2,c2⟩|⟨c2,h2⟩:=gE h2
   ·exact re.inj i j l m xs ys a h1 h2 (bf c1 h3) (bf c2 h4)
   ·subst c2;rw[lS]at h4;cases h4;exact absurd (.inr ⟨i,l,xs,h1,bf c1 h3⟩) (re.nn hp)
  ·obtain⟨h2,c2⟩|⟨c2,h2⟩:=gE h2
   ·subst c1;rw[lS]at h3;cases h3;exact absurd (.inr ⟨j,m,ys,h2,bf c2 h4⟩) (re.nn hp)
   ·rw[c1,c2]
 ·obtain⟨us,q⟩:=re.bd a h;exact⟨us,by rw[aT (aV q hp)];exact q⟩
section
variable{X:Cx}{K:W.Frag}{pos:Pos}{a b c e:oC}{es rest:List oC}{Fa Fb Fc:FE}{Fr:FA}{Fp Fq:FB}
def T5(i:Nat):FE:=λE Q=>match E[i]? with
 |some (oZ (.p t))=>Q (.p t) E
 |some (oZ (.o _ _))=>Q (.s i) E
 |_=>False
def fC(t:T):FE:=λE Q=>Q (.p t) E
theorem fv(i:Nat)(hN:X.N[i]?=oZ x:=by rfl)(hv:R7 X.env.scope x:=by first|exact ON rfl|exact QP (ON rfl)|exact QP (QP rfl))(hd:(x==("__debug__":Str))=false:=by decide)(bc:(x==("__classdict__":Str))=false:=by decide):QE X (.Name x pos) (aJ K (T5 i)):=by
 refine(qv i hN hv hd bc).le λσ H Q hl zZ=>?_;obtain⟨B,S,E,Q',hS,re,hF,lk⟩:=zZ;have hi:i<σ.length:=by rw[hl];exact(MK.mp hN).1
 obtain⟨τ,rfl⟩:=hS;have back:∀{v},(σ++τ)[i]?=oZ (oZ v)->σ[i]?=oZ (oZ v):=λh=>by rw[NK hi]at h;exact h
 unfold T5 at hF;split at hF
 ·rename_i t q;obtain⟨v,h1,h2⟩:=re.pure i t q;exact⟨v,back h1,lk _ _ _ _ _ hF .refl re h2⟩
 ·rename_i k xs q;obtain⟨p,vs,h1,_⟩:=re.own i k xs q;exact⟨_,back h1,lk _ _ _ _ _ hF .refl re h1⟩
 ·exact hF.elim
theorem Se(h:QE X e (tC v))(hv:∀K H O,Rp K H O t v):QE X e (aJ K (fC t)):=h.le λσ H Q hl zZ=>by obtain⟨B,S,E,Q',hS,re,hF,lk⟩:=zZ;exact lk _ _ _ _ _ hF .refl re (hv _ _ _)
theorem aA{i j pos}:QE X (.Constant (.int i) j pos) (aJ K (fC (.int i))):=Se z6 λ_ _ _=>rfl
theorem pN{b j pos}:QE X (.Constant (.bool b) j pos) (aJ K (fC (.bl b))):=Se ER λ_ _ _=>rfl
theorem qY{j pos}:QE X (.Constant .none j pos) (aJ K (fC .non)):=Se Hs λ_ _ _=>rfl
theorem iU{x j pos}:QE X (.Constant (.str x) j pos) (aJ K (fC (.str x))):=Se AI λ_ _ _=>rfl
theorem two{G:R->R->En->(R->En->Prop)->Prop}(h:aJ K (λE Q=>Fa E λx E1=>Fb E1 λy E2=>G x y E2 Q) σ H Q){P:V->V->Hp->Prop}(k:∀B S E x y v w H2 Q',(∃τ,S=σ++τ)->RE K B H2 S E->RR K B H2 S E x v->RR K B H2 S E y w->G x y E Q'->Lk K B H2 S E Q' Q->P v w H2):aJ K Fa σ H λv H1=>aJ K Fb σ H1 λw H2=>P v w H2:=by
 obtain⟨B,S,E,Q',⟨τ,hS⟩,re,hF,lk⟩:=h;refine⟨B,S,E,_,⟨τ,hS⟩,re,hF,λr E1 v H1 S1 q g XJ rr=>?_⟩;obtain⟨τ1,ZG⟩:=g.pre;refine⟨B,S1,E1,_,⟨τ++τ1,by rw[ZG,hS,MO]⟩,XJ,q,λr2 E2 w H2 S2 q2 g2 YE wt=>?_⟩;obtain⟨τ2,kg⟩:=g2.pre;exact k B S2 E2 r r2 v w H2 Q' ⟨τ++τ1++τ2,by rw[kg,ZG,hS,MO,MO,MO]⟩ YE (rr.step g2) wt q2 (lk.step (g.trans g2))
theorem one{G:R->En->(R->En->Prop)->Prop}(h:aJ K (λE Q=>Fa E λx E1=>G x E1 Q) σ H Q){P:V->Hp->Prop}(k:∀B S E x v H2 Q',(∃τ,S=σ++τ)->RE K B H2 S E->RR K B H2 S E x v->G x E Q'->Lk K B H2 S E Q' Q->P v H2):aJ K Fa σ H λv H1=>P v H1:=by
 obtain⟨B,S,E,Q',⟨τ,hS⟩,re,hF,lk⟩:=h;refine⟨B,S,E,_,⟨τ,hS⟩,re,hF,λr E1 v H1 S1 q g XJ rr=>?_⟩;obtain⟨τ1,ZG⟩:=g.pre;exact k B S1 E1 r v H1 Q' ⟨τ++τ1,by rw[ZG,hS,MO]⟩ XJ rr q (lk.step g)
def i2(x y:Option T)(k:Int->Int->Prop):Prop:=match x,y with
 |some (.int i),oZ (.int j)=>k i j
 |_,_=>False
theorem i2.ex{k:Int->Int->Prop}(h:i2 x y k):∃i j,x=oZ (.int i)/\y=oZ (.int j)/\k i j:=by
 unfold i2 at h;split at h
 ·exact⟨_,_,rfl,rfl,h⟩
 ·exact h.elim
def fI(C:Int->Int->Prop)(g:Int->Int->Int)(Fa Fb:FE):FE:=λE Q=>Fa E λx E1=>Fb E1 λy E2=>i2 (vl E2 x) (vl E2 y) λi j=>C i j/\Q (.p (.int (g i j))) E2
def LI(g:Int->Int->Int)(Fa Fb:FE):FE:=λE Q=>Fa E λx E1=>Fb E1 λy E2=>i2 (vl E2 x) (vl E2 y) λi j=>Q (.p (.int (g i j))) E2
def IK(g:Int->Int->Bool)(Fa Fb:FE):FE:=λE Q=>Fa E λx E1=>Fb E1 λy E2=>i2 (vl E2 x) (vl E2 y) λi j=>Q (.p (.bl (g i j))) E2
theorem aL{C:Int->Int->Prop}{g:Int->Int->Int}(ho:lK X (VS op) (rI C λi j=>.int (g i j)))(ha:QE X a (aJ K Fa))(hb:QE X b (aJ K Fb)):QE X (.BinOp a op b pos) (aJ K (fI C g Fa Fb)):=by
 refine(Dp ho ha hb).le λσ H Q hl h=>two h λB S E x y v w H2 Q' hS re rx ry q lk=>?_;obtain⟨i,j,e1,e2,c,q⟩:=q.ex;exact⟨i,j,re.int rx e1,re.int ry e2,c,lk _ _ _ _ _ q .refl re rfl⟩
theorem aY{g:Int->Int->Int}(ho:lK X (VS op) (Pm λi j=>.int (g i j)))(ha:QE X a (aJ K Fa))(hb:QE X b (aJ K Fb)):QE X (.BinOp a op b pos) (aJ K (LI g Fa Fb)):=by
 refine(Dp ho ha hb).le λσ H Q hl h=>two h λB S E x y v w H2 Q' hS re rx ry q lk=>?_;obtain⟨i,j,e1,e2,q⟩:=q.ex;exact⟨i,j,re.int rx e1,re.int ry e2,lk _ _ _ _ _ q .refl re rfl⟩
theorem xK{g:Int->Int->Bool}(ho:lK X (VG op) (Pm λi j=>.bl (g i j)))(ha:QE X a (aJ K Fa))(hb:QE X b (aJ K Fb))(hm:VE op b=false):QE X (.Compare a [op] [b] pos) (aJ K (IK g Fa Fb)):=by
 refine(Lo ho ha hb hm).le λσ H Q hl h=>two h λB S E x y v w H2 Q' hS re rx ry q lk=>?_;obtain⟨i,j,e1,e2,q⟩:=q.ex;exact⟨i,j,re.int rx e1,re.int ry e2,lk _ _ _ _ _ q .refl re rfl⟩
def i1(x:Option T)(k:Int->Prop):Prop:=match x with
 |some (.int i)=>k i
 |_=>False
theorem i1.ex{k:Int->Prop}(h:i1 x k):∃i,x=oZ (.int i)/\k i:=by
 unfold i1 at h;split at h
 ·exact⟨_,rfl,h⟩
 ·exact h.elim
def b1(x:Option T)(k:Bool->Prop):Prop:=match x with
 |some (.bl i)=>k i
 |_=>False
theorem b1.ex{k:Bool->Prop}(h:b1 x k):∃i,x=oZ (.bl i)/\k i:=by
 unfold b1 at h;split at h
 ·exact⟨_,rfl,h⟩
 ·exact h.elim
def IU(Fa:FE):FE:=λE Q=>Fa E λx E1=>i1 (vl E1 x) λi=>Q (.p (.int (-i))) E1
theorem qX(ha:QE X a (aJ K Fa)):QE X (.UnaryOp .USub a pos) (aJ K (IU Fa)):=by
 refine(EU BI ha).le λσ H Q hl h=>one (Fa:=Fa) h λB S E x v H2 Q' hS re rx q lk=>?_;obtain⟨i,e1,q⟩:=q.ex;exact⟨i,re.int rx e1,lk _ _ _ _ _ q .refl re rfl⟩
def IV(Fa:FE):FE:=λE Q=>Fa E λx E1=>b1 (vl E1 x) λi=>Q (.p (.bl (!i))) E1
theorem U1(ha:QE X a (aJ K Fa)):QE X (.UnaryOp .Not a pos) (aJ K (IV Fa)):=by
 refine(AG ha).le λσ H Q hl h=>one (Fa:=Fa) h λB S E x v H2 Q' hS re rx q lk=>?_;obtain⟨i,e1,q⟩:=q.ex;exact⟨i,re.bl rx e1,lk _ _ _ _ _ q .refl re rfl⟩
theorem Xc{G:Bool->En->(Bool->En->Prop)->Prop}{Q:Bool->Hp->Prop}(h:d8 K (λE Q=>Fp E λx E1=>G x E1 Q) σ H Q){P:Bool->Hp->Prop}(k:∀B S E x H2 Q',(∃τ,S=σ++τ)->RE K B H2 S E->G x E Q'->(∀b E' H' S',Q' b E'->Gr B H2 S E H' S' E'->RE K B H' S' E'->Q b H')->P x H2):d8 K Fp σ H P:=by
 obtain⟨B,S,E,Q',⟨τ,hS⟩,re,hF,lk⟩:=h;refine⟨B,S,E,_,⟨τ,hS⟩,re,hF,λr E1 H1 S1 q g XJ=>?_⟩;obtain⟨τ1,ZG⟩:=g.pre;exact k B S1 E1 r H1 Q' ⟨τ++τ1,by rw[ZG,hS,MO]⟩ XJ q λb E2 H2 S2 q2 g2 YE=>lk b E2 H2 S2 q2 (g.trans g2) YE
def wA(Fa:FE):FB:=λE Q=>Fa E λx E1=>b1 (vl E1 x) λi=>Q i E1
def IB(Fp:FB):FB:=λE Q=>Fp E λx E1=>Q (!x) E1
def IA(Fp Fq:FB):FB:=λE Q=>Fp E λx E1=>if x=true then Fq E1 Q else Q false E1
def LG(Fp Fq:FB):FB:=λE Q=>Fp E λx E1=>if x=true then Q true E1 else Fq E1 Q
theorem Yf{Q:Bool->Hp->Prop}(h:d8 K (wA Fa) σ H Q):aJ K Fa σ H λv H1=>∃c,v = .bl c/\Q c H1:=by
 obtain⟨B,S,E,Q',⟨τ,hS⟩,re,hF,lk⟩:=h;refine⟨B,S,E,_,⟨τ,hS⟩,re,hF,λr E1 v H1 S1 q g XJ rr=>?_⟩;obtain⟨i,e1,q⟩:=q.ex;exact⟨i,XJ.bl rr e1,lk _ _ _ _ q g XJ⟩
theorem Gp(h:QE X e (aJ K Fa))(he:∀whole,isTrue e X.env whole=(do let v <-whole;standAt e.pos;VV [v] (truthy v)):=by intro _;rfl):QT X e (d8 K (wA Fa)):=(AM h he).le λσ H Q z=>Yf z
theorem So(ha:QT X a (d8 K Fp)):QT X (.UnaryOp .Not a pos) (d8 K (IB Fp)):=(AL ha).le λσ H Q h=>Xc (Fp:=Fp) h λB S E x H2 Q' hS re q lk=>lk _ _ _ _ q .refl re
theorem Kh(ha:QT X a (d8 K Fp)):QW X (.BoolOp .And [a] pos) (d8 K Fp):=F8 ha
theorem uJ(ha:QT X a (d8 K Fp)):QW X (.BoolOp .Or [a] pos) (d8 K Fp):=AO ha
theorem Sr(ha:QT X a (d8 K Fp))(hb:QW X (.BoolOp .And (b::rest) pos) (d8 K Fq)):QW X (.BoolOp .And (a::b::rest) pos) (d8 K (IA Fp Fq)):=by
 refine(AN ha hb).le λσ H Q h=>Xc (Fp:=Fp) h λB S E x H2 Q' hS re q lk=>?_;cases x
 ·exact lk _ _ _ _ q .refl re
 ·exact⟨B,S,E,Q',hS,re,q,lk⟩
theorem Ce(ha:QT X a (d8 K Fp))(hb:QW X (.BoolOp .Or (b::rest) pos) (d8 K Fq)):QW X (.BoolOp .Or (a::b::rest) pos) (d8 K (LG Fp Fq)):=by
 refine(EX ha hb).le λσ H Q h=>Xc (Fp:=Fp) h λB S E x H2 Q' hS re q lk=>?_;cases x
 ·exact⟨B,S,E,Q',hS,re,q,lk⟩
 ·exact lk _ _ _ _ q .refl re
theorem Gq(h:QW X e (d8 K Fp)):QT X e (d8 K Fp):=JQ h
def LL(Fa Fb:FE):FE:=λE Q=>Fa E λx E1=>b1 (vl E1 x) λi=>if i=true then Q (.p (.bl true)) E1 else Fb E1 Q
theorem Sj(ha:QE X a (aJ K Fa))(hb:QE X (.BoolOp .Or (b::rest) pos) (aJ K Fb)):QE X (.BoolOp .Or (a::b::rest) pos) (aJ K (LL Fa Fb)):=by
 refine(ES ha hb).le λσ H Q hl h=>one (Fa:=Fa) h λB S E x v H2 Q' hS re rx q lk=>?_;obtain⟨i,e1,q⟩:=q.ex;refine⟨i,re.bl rx e1,?_⟩;cases i
 ·exact⟨B,S,E,Q',hS,re,q,lk⟩
 ·exact lk _ _ _ _ _ q .refl re rfl
theorem U2{op}(h:QE X a (aJ K Fa)):QE X (.BoolOp op [a] pos) (aJ K Fa):=AH h
def LJ(Fp:FB)(Fa Fb:FE):FE:=λE Q=>Fp E λx E1=>if x=true then Fa E1 Q else Fb E1 Q
theorem pO(hc:QT X c (d8 K Fp))(ha:QE X a (aJ K Fa))(hb:QE X b (aJ K Fb)):QE X (.IfExp c a b pos) (aJ K (LJ Fp Fa Fb)):=by
 refine(Vo hc ha hb).le λσ H Q hl zZ=>?_;obtain⟨B,S,E,Q',⟨τ,hS⟩,re,hF,lk⟩:=zZ;refine⟨B,S,E,_,⟨τ,hS⟩,re,hF,λr E1 H1 S1 q g XJ=>?_⟩;obtain⟨τ1,ZG⟩:=g.pre;have hp:∃t,S1=σ++t:=⟨τ++τ1,by rw[ZG,hS,MO]⟩;cases r
 ·exact⟨B,S1,E1,Q',hp,XJ,q,lk.step g⟩
 ·exact⟨B,S1,E1,Q',hp,XJ,q,lk.step g⟩
def Qp:FA:=λE Q=>Q [] E
def lP(Fa:FE)(Fr:FA):FA:=λE Q=>Fa E λr E1=>Fr E1 λrs E2=>Q (r::rs) E2
theorem lV:QA X [] (cZ K 0 Qp):=Hq.le λσ H Q zZ=>by obtain⟨B,S,E,Q',hS,re,hF,lk⟩:=zZ;exact lk _ _ _ _ _ hF .refl re rfl rfl
theorem fc{n:Nat}(ha:QE X e (aJ K Fa))(hr:QA X es (cZ K n Fr))(hs:bO e=false:=by rfl):QA X (e::es) (cZ K (n+1) (lP Fa Fr)):=by
 refine(qc ha hr hs).le λσ H Q zZ=>?_;obtain⟨B,S,E,Q',⟨τ,hS⟩,re,hF,lk⟩:=zZ;refine⟨B,S,E,_,⟨τ,hS⟩,re,hF,λr E1 v H1 S1 q g XJ rr=>?_⟩;obtain⟨τ1,ZG⟩:=g.pre;exact⟨B,S1,E1,_,⟨τ++τ1,by rw[ZG,hS,MO]⟩,XJ,q,λrs E2 vs H2 S2 q2 g2 YE wt hn=>lk _ _ _ _ _ q2 (g.trans g2) YE ⟨v,vs,rfl,rr.step g2,wt⟩ (by rw[MS,hn])⟩
theorem args{G:List R->En->(R->En->Prop)->Prop}(h:aJ K (λE Q=>Fr E λrs E1=>G rs E1 Q) σ H Q){P:List V->Hp->Prop}(k:∀B S E rs vs H2 Q',(∃τ,S=σ++τ)->RE K B H2 S E->Qf K B H2 S E rs vs->vs.length=n->G rs E Q'->Lk K B H2 S E Q' Q->P vs H2):cZ K n Fr σ H P:=by
 obtain⟨B,S,E,Q',⟨τ,hS⟩,re,hF,lk⟩:=h;refine⟨B,S,E,_,⟨τ,hS⟩,re,hF,λr E1 v H1 S1 q g XJ rr hn=>?_⟩;obtain⟨τ1,ZG⟩:=g.pre;exact k B S1 E1 r v H1 Q' ⟨τ++τ1,by rw[ZG,hS,MO]⟩ XJ rr hn q (lk.step g)
def uZ:List R->Option (List T)
 |[]=>oZ []
 |.p t::rs=>(uZ rs).map (t::·)
 |_=>none
theorem u7{B:UQ->Prop}:∀{rs:List R}{vs:List V}{ts:List T},Qf K B H S E rs vs->uZ rs=oZ ts->bW K H (Ow B S E) ts vs
 |[],_,_,h,e=>by cases e;exact h
 |.p t::rs,_,ts,⟨v,ws,e1,h1,h2⟩,e=>by
  cases q:uZ rs with
  |none=>rw[uZ,q]at e;cases e
  |some us=>
   rw[uZ,q]at e;cases e;exact⟨v,ws,e1,h1,u7 h2 q⟩
 |.s _::_,_,_,_,e=>by cases e
def o1{α:Type}(x:Option α)(k:α->Prop):Prop:=match x with
 |some y=>k y
 |none=>False
theorem o1.ex{α:Type}{x:Option α}{k:α->Prop}(h:o1 x k):∃y,x=oZ y/\k y:=by
 cases x with
 |none=>exact h.elim
 |some y=>exact⟨y,rfl,h⟩
def JA(Fr:FA):FE:=λE Q=>Fr E λrs E1=>o1 (uZ rs) λts=>Q (.p (.tup ts)) E1
def IS(Fr:FA):FE:=λE Q=>Fr E λrs E1=>o1 (uZ rs) λts=>Q (.s E1.length) (E1++[oZ (.o false ts)])
theorem aH{x1}(h:QA X es (cZ K n Fr))(hz:n<=9000:=by decide):QE X (.Tuple es x1 pos) (aJ K (JA Fr)):=by
 refine(Vp h).le λσ H Q hl h=>args (Fr:=Fr) h λB S E rs vs H2 Q' hS re rr hn q lk=>⟨by rw[hn];exact OA (bU hz),λp hp=>?_⟩;obtain⟨ts,e,q⟩:=q.ex;obtain⟨g,XH,rp⟩:=re.tup hp (u7 rr e);exact lk _ _ _ _ _ q g XH rp
theorem eU(h:QA X es (cZ K n Fr))(hz:n<=9000:=by decide):QE X (.List es pos) (aJ K (IS Fr)):=by
 refine(Hr h).le λσ H Q hl h=>args (Fr:=Fr) h λB S E rs vs H2 Q' hS re rr hn q lk=>⟨by rw[hn];exact OA (bU hz),λp hp=>?_⟩;obtain⟨ts,e,q⟩:=q.ex;obtain⟨g,XH⟩:=re.lst hp (u7 rr e);exact lk _ _ _ _ _ q g XH (by rw[<-re.len];exact jC)
def FX:T->Option (List T)
 |.tup xs=>oZ xs
 |.lst xs=>oZ xs
 |_=>none
def KP(x y:Option T)(k:T->Prop):Prop:=match x,y with
 |some (.tup xs),oZ (.int i)=>o1 (jY xs i) k
 |some (.lst xs),oZ (.int i)=>o1 (jY xs i) k
 |_,_=>False
theorem Qs{O:UQ->Prop}{i:Int}(h:bW K H O xs vs)(e:jY xs i=oZ t):∃v,jY vs i=oZ v/\Rp K H O t v:=by
 unfold jY at e⊢;rw[h.length];cases q:Fg xs.length i with
 |none=>rw[q]at e;cases e
 |some j=>rw[q]at e;exact h.get e
def IM(Fa Fb:FE):FE:=λE Q=>Fa E λx E1=>Fb E1 λy E2=>KP (vl E2 x) (vl E2 y) λt=>Q (.p t) E2
theorem L8(eK:X.K=K)(ha:QE X a (aJ K Fa))(hb:QE X b (aJ K Fb))(hs:pC b):QE X (.Subscript a b pos) (aJ K (IM Fa Fb)):=by
 subst eK;refine(N8 Tj ha hb hs).le λσ H Q hl h=>two (Fa:=Fa) (Fb:=Fb) h λB S E x y v w H2 Q' hS re rx ry q lk=>?_;unfold KP at q;split at q
 ·rename_i xs i e1 e2;obtain⟨t,e3,q⟩:=q.ex;obtain⟨p,vs,rfl,sq,rs⟩:=re.vl rx e1;obtain⟨u,h1,h2⟩:=Qs rs e3;exact .inr (.inl ⟨p,vs,i,u,rfl,re.int ry e2,sq,h1,lk _ _ _ _ _ q .refl re h2⟩)
 ·rename_i xs i e1 e2;obtain⟨t,e3,q⟩:=q.ex;obtain⟨p,vs,rfl,sq,rs⟩:=re.vl rx e1;obtain⟨u,h1,h2⟩:=Qs rs e3;exact .inl ⟨p,vs,i,u,rfl,re.int ry e2,sq,h1,lk _ _ _ _ _ q .refl re h2⟩
 ·exact q.elim
def IQ(Fr:FA):FE:=λE Q=>Fr E λrs E1=>match rs with
 |[x]=>o1 ((vl E1 x).bind FX) λxs=>Q (.p (.int xs.length)) E1
 |_=>False
theorem jS(eK:X.K=K)(hg:Gl X "len")(hm:X.mg "len" = none)(ha:QA X (e::es) (cZ K n Fr))(hs:bJ (e::es)=true:=by rfl):QE X (.Call (.Name "len" p) (e::es) [] pos) (aJ K (IQ Fr)):=by
 subst eK;refine(eO yR hg hm PySem.boot_len ha ∅ ∅ hs).le λσ H Q hl h=>args (Fr:=Fr) h λB S E rs vs H2 Q' hS re rr hn q lk=>?_
 match rs,rr,q with
 |[x],⟨v,ws,e1,h1,h2⟩,q=>
  cases h2;subst e1;obtain⟨xs,e2,q⟩:=o1.ex q;obtain⟨t,e3,e2⟩:=RP.mp e2;have rt:=re.vl h1 e3;cases t with
  |tup ys=>
   cases e2;obtain⟨p,us,rfl,sq,rs⟩:=rt;exact⟨p,us,rfl,.inr sq,by rw[rs.length];exact lk _ _ _ _ _ q .refl re rfl⟩
  |lst ys=>
   cases e2;obtain⟨p,us,rfl,sq,rs⟩:=rt;exact⟨p,us,rfl,.inl sq,by rw[rs.length];exact lk _ _ _ _ _ q .refl re rfl⟩
  |_=>cases e2
 |[],_,q=>exact q.elim
 |_::_::_,_,q=>exact q.elim
def IG(Fr:FA):FE:=λE Q=>Fr E λrs E1=>match rs with
 |[x]=>i1 (vl E1 x) λi=>Q (.p (.int (i.natAbs:Int))) E1
 |_=>False
theorem qW(hg:Gl X "abs")(hm:X.mg "abs" = none)(ha:QA X (e::es) (cZ K n Fr))(hs:bJ (e::es)=true:=by rfl):QE X (.Call (.Name "abs" p) (e::es) [] pos) (aJ K (IG Fr)):=by
 refine(eO Nh hg hm boot_abs ha ∅ ∅ hs).le λσ H Q hl h=>args (Fr:=Fr) h λB S E rs vs H2 Q' hS re rr hn q lk=>?_
 match rs,rr,q with
 |[x],⟨v,ws,e1,h1,h2⟩,q=>
  cases h2;subst e1;obtain⟨i,e2,q⟩:=i1.ex q;exact⟨i,by rw[re.int h1 e2],lk _ _ _ _ _ q .refl re rfl⟩
 |[],_,q=>exact q.elim
 |_::_::_,_,q=>exact q.elim
def CW(Fr:FA):FE:=λE Q=>Fr E λrs E1=>match rs with
 |[x]=>b1 (vl E1 x) λi=>Q (.p (.int (if i then 1 else 0))) E1
 |_=>False
theorem Yt(hg:Gl X "int")(hm:X.mg "int" = none)(ha:QA X (e::es) (cZ K n Fr))(hs:bJ (e::es)=true:=by rfl):QE X (.Call (.Name "int" p) (e::es) [] pos) (aJ K (CW Fr)):=by
 refine(nQ Nj hg hm (by decide +kernel) ha ∅ ∅ hs).le λσ H Q hl h=>args (Fr:=Fr) h λB S E rs vs H2 Q' hS re rr hn q lk=>?_
 match rs,rr,q with
 |[x],⟨v,ws,e1,h1,h2⟩,q=>
  cases h2;subst e1;obtain⟨i,e2,q⟩:=b1.ex q;exact⟨i,by rw[re.bl h1 e2],lk _ _ _ _ _ q .refl re rfl⟩
 |[],_,q=>exact q.elim
 |_::_::_,_,q=>exact q.elim
def Yo(Fr:FA):FE:=λE Q=>Fr E λrs E1=>match rs with
 |[x,y]=>i2 (vl E1 x) (vl E1 y) λi j=>(0<j/\j<2^200)/\Q (.p (.tup [.int (i/j),.int (i%j)])) E1
 |_=>False
theorem Oa(hg:Gl X "divmod")(hm:X.mg "divmod" = none)(ha:QA X (e::es) (cZ K n Fr))(hs:bJ (e::es)=true:=by rfl):QE X (.Call (.Name "divmod" p) (e::es) [] pos) (aJ K (Yo Fr)):=by
 refine(eO yQ hg hm boot_divmod ha ∅ ∅ hs).le λσ H Q hl h=>args (Fr:=Fr) h λB S E rs vs H2 Q' hS re rr hn q lk=>?_
 match rs,rr,q with
 |[x,y],⟨v,ws,e1,h1,w,kh,e2,h2,h3⟩,q=>
  cases h3;subst e2;subst e1;obtain⟨i,j,e3,e4,⟨c1,c2⟩,q⟩:=i2.ex q;refine⟨i,j,by rw[re.int h1 e3,re.int h2 e4],c1,c2,λp hp=>?_⟩;obtain⟨g,XH,rp⟩:=re.tup (ts:=[.int (i/j),.int (i%j)]) (vs:=[.int (i/j),.int (i%j)]) hp ⟨_,_,rfl,rfl,_,_,rfl,rfl,rfl⟩;exact lk _ _ _ _ _ q g XH rp
 |[],_,q=>exact q.elim
 |[_],_,q=>exact q.elim
 |_::_::_::_,_,q=>exact q.elim
end
structure ET where
 nx:En->Prop
 rt:R->En->Prop
 bk:En->Prop:=λ_=>False
 ct:En->Prop:=λ_=>False
abbrev FS:=ET->En->Prop
abbrev Gs(B:UQ->Prop)(H:Hp)(S:St)(E:En)(H':Hp)(S':St)(E':En):Prop:=Kp (Ow B S E) (Ow B S' E') H H'
structure LS(K:W.Frag)(B:UQ->Prop)(H:Hp)(σ:St)(E:En)(DT:ET)(D:mV):Prop where
 nx:∀σ' H' E',DT.nx E'->Gs B H σ E H' σ' E'->RE K B H' σ' E'->D.nx σ' H'
 rt:∀r E' v H' S',DT.rt r E'->Gs B H σ E H' S' E'->RE K B H' S' E'->RR K B H' S' E' r v->D.rt v H'
 bk:∀σ' H' E',DT.bk E'->Gs B H σ E H' σ' E'->RE K B H' σ' E'->D.bk σ' H'
 ct:∀σ' H' E',DT.ct E'->Gs B H σ E H' σ' E'->RE K B H' σ' E'->D.ct σ' H'
theorem LS.step{K:W.Frag}{B:UQ->Prop}{H H':Hp}{σ σ':St}{E E':En}{DT:ET}{D:mV}(l:LS K B H σ E DT D)(g:Gs B H σ E H' σ' E'):LS K B H' σ' E' DT D:=
 ⟨λa b c d e=>l.nx a b c d (g.trans e),λa b c d e f h=>l.rt a b c d e f (g.trans h),λa b c d e=>l.bk a b c d (g.trans e),λa b c d e=>l.ct a b c d (g.trans e)⟩
def gU(K:W.Frag)(F:FS):TS:=λD σ H=>∃B E DT,RE K B H σ E/\F DT E/\LS K B H σ E DT D
theorem QS.le{X:Cx}{st:UZ}{t t':TS}(h:QS X st t)(m:∀D σ H,σ.length=X.N.length->t' D σ H->t D σ H):QS X st t':=⟨λpins s σ H D I z=>h.h pins s σ H D I (m D σ H I.len z)⟩
theorem QB.le(h:QB X aq t)(m:∀D σ H,t' D σ H->t D σ H):QB X aq t':=⟨λpins s σ H D I z=>h.h pins s σ H D I (m D σ H z)⟩
theorem QG.le(h:QG X e t)(m:∀v σ H Q,σ.length=X.N.length->t' v σ H Q->t v σ H Q):QG X e t':=⟨λpins s σ H v u Q I r z=>h.h pins s σ H v u Q I r (m v σ H Q I.len z)⟩
theorem Ff.le(h:Ff X es t)(m:∀v σ H Q,t' v σ H Q->t v σ H Q):Ff X es t':=⟨λpins s σ H v u Q I r z=>h.h pins s σ H v u Q I r (m v σ H Q z)⟩
theorem QI.le(h:QI X tg e t)(m:∀σ H Q,σ.length=X.N.length->t' σ H Q->t σ H Q):QI X tg e t':=⟨λpins s σ H R I z=>h.h pins s σ H R I (m σ H R I.len z)⟩
theorem RE.map{K:W.Frag}{B:UQ->Prop}{H:Hp}{S:St}{S':St}{E:En}{E':En}(re:RE K B H S E)(hl:S'.length=E'.length)(hp:∀(i:Nat)(t:T),E'[i]?=oZ (oZ (.p t))->∃v,S'[i]?=oZ (oZ v)/\Rp K H (Ow B S E) t v)(f:Nat->Nat)(ho:∀(i:Nat)(k:Bool)(xs:List T),E'[i]?=oZ (oZ (.o k xs))->E[f i]?=oZ (oZ (.o k xs))/\∃a,S[f i]?=oZ (oZ (.ref a))/\S'[i]?=oZ (oZ (.ref a)))(hf:∀(i j:Nat)(k l:Bool)(xs ys:List T),E'[i]?=oZ (oZ (.o k xs))->E'[j]?=oZ (oZ (.o l ys))->f i=f j->i=j):RE K B H S' E'/\∀b,Ow B S' E' b->Ow B S E b:=by
 have ow:∀b,Ow B S' E' b->Ow B S E b:=λb z=>by
  obtain z|⟨i,k,xs,h1,h2⟩:=z
  ·exact .inl z
  obtain⟨h3,a,h4,h5⟩:=ho i k xs h1;rw[h2]at h5;cases h5;exact .inr ⟨f i,k,xs,h3,h4⟩
 refine⟨⟨hl,λi t h=>?_,λi k xs h=>?_,λi j k l xs ys a h1 h2 h3 h4=>?_,re.bd⟩,ow⟩
 ·obtain⟨v,h1,h2⟩:=hp i t h;exact⟨v,h1,h2.step (Kp.less ow)⟩
 ·obtain⟨h3,a,h4,h5⟩:=ho i k xs h;obtain⟨a',vs,q1,q2,q3,q4⟩:=re.own _ k xs h3;rw[h4]at q1;cases q1;exact⟨a,vs,h5,q2,q3.step (Kp.less ow),q4⟩
 ·obtain⟨p1,a1,p2,p3⟩:=ho i k xs h1;obtain⟨r1,a2,r2,r3⟩:=ho j l ys h2;rw[h3]at p3;cases p3;rw[h4]at r3;cases r3;exact hf i j k l xs ys h1 h2 (re.inj _ _ k l xs ys _ p1 r1 p2 r2)
theorem RE.cut{K:W.Frag}{B:UQ->Prop}{H':Hp}{S':St}{E:En}{E':En}{σ:St}(re:RE K B H' S' E')(hS:∃τ,S'=σ++τ)(hl:σ.length=E.length):RE K B H' σ (E'.take E.length)/\∀b,Ow B σ (E'.take E.length) b->Ow B S' E' b:=by
 obtain⟨τ,rfl⟩:=hS;have e:(σ++τ).take E.length=σ:=by rw[<-hl];simp
 have:=re.take E.length;rw[e]at this;refine⟨this,λb z=>?_⟩;obtain z|⟨i,k,xs,h1,h2⟩:=z
 ·exact .inl z
 have hi:i<E.length:=by
  obtain c|c:=OY i E.length
  ·exact c
  ·rw[QJ ⋯]at h1;cases h1
 exact .inr ⟨i,k,xs,by rw[OT hi]at h1;exact h1,gL ⟨τ,rfl⟩ h2⟩
theorem RE.setP{K:W.Frag}{B:UQ->Prop}{H:Hp}{S:St}{E:En}(re:RE K B H S E){i:Nat}{t:T}{v:V}(h:Rp K H (Ow B S E) t v):RE K B H (S.set i (oZ v)) (E.set i (oZ (.p t)))/\∀b,Ow B (S.set i (oZ v)) (E.set i (oZ (.p t))) b->Ow B S E b:=by
 refine re.map (by simp[re.len]) (λj u hj=>?_) id (λj k xs hj=>?_) (λ_ _ _ _ _ _ _ _ h=>h)
 ·rw[RD]at hj
  by_cases c:i=j
  ·subst c;rw[oV rfl]at hj;split at hj
   ·cases hj;rename_i hi;exact⟨v,by rw[NR (by rw[re.len];exact hi)],h⟩
   ·cases hj
  ·rw[oW c]at hj;obtain⟨w,h1,h2⟩:=re.pure j u hj;exact⟨w,by rw[ND c];exact h1,h2⟩
 ·rw[RD]at hj
  by_cases c:i=j
  ·subst c;rw[oV rfl]at hj;split at hj<;>cases hj
  ·rw[oW c]at hj;obtain⟨a,vs,h1,_⟩:=re.own j k xs hj;exact⟨hj,a,h1,by rw[ND c];exact h1⟩
theorem RE.setO{K:W.Frag}{B:UQ->Prop}{H:Hp}{S:St}{E:En}{σ:St}(re:RE K B H S E)(hS:∃τ,S=σ++τ){i j:Nat}{k:Bool}{xs:List T}(hj:σ.length<=j)(hE:E[j]?=oZ (oZ (.o k xs))){v:V}(hv:S[j]?=oZ (oZ v)):
  RE K B H (σ.set i (oZ v)) ((E.take σ.length).set i (oZ (.o k xs)))/\∀b,Ow B (σ.set i (oZ v)) ((E.take σ.length).set i (oZ (.o k xs))) b->Ow B S E b:=by
 obtain⟨τ,rfl⟩:=hS;have hle:σ.length<=E.length:=by rw[<-re.len];simp
 have gt:∀{m:Nat}{x:Option U},(E.take σ.length)[m]?=oZ x->E[m]?=oZ x/\m<σ.length:=λ{m x}h=>by
  by_cases c:m<σ.length
  ·rw[OT c]at h;exact⟨h,c⟩
  ·rw[QJ ⋯]at h;cases h
 refine re.map (by simp;lia) (λm u hm=>?_) (λm=>if m=i then j else m) (λm l ys hm=>?_) (λm n l l' ys zs h1 h2 h=>?_)
 ·rw[RD]at hm
  by_cases c:i=m
  ·subst c;rw[oV rfl]at hm;split at hm<;>cases hm
  ·rw[oW c]at hm;obtain⟨hm,lt⟩:=gt hm;obtain⟨w,h1,h2⟩:=re.pure m u hm;rw[NK lt]at h1;exact⟨w,by rw[ND c];exact h1,h2⟩
 ·rw[RD]at hm
  by_cases c:i=m
  ·subst c;rw[oV rfl]at hm;split at hm
   ·cases hm;rename_i hi;obtain⟨a,vs,h1,_⟩:=re.own j k xs hE;rw[hv]at h1;cases h1;rw[oV rfl];refine⟨hE,a,hv,?_⟩;rw[NR (by rw[OC]at hi;lia)]
   ·cases hm
  ·rw[oW c]at hm;obtain⟨hm,lt⟩:=gt hm;obtain⟨a,vs,h1,_⟩:=re.own m l ys hm;rw[oW (λz=>c z.symm)];refine⟨hm,a,h1,?_⟩;rw[NK lt]at h1;rw[ND c];exact h1
 ·have lt:∀{m:Nat}{l:Bool}{ys:List T},((E.take σ.length).set i (oZ (.o k xs)))[m]?=oZ (oZ (.o l ys))->m≠i->m<σ.length:=λ{m l ys}h1 c=>by
   rw[ND (λz=>c z.symm)]at h1;exact(gt h1).2
  by_cases c1:m=i
  ·by_cases c2:n=i
   ·rw[c1,c2]
   ·simp only[oV c1,oW c2]at h;have:=lt h2 c2
    lia
  ·by_cases c2:n=i
   ·simp only[oW c1,oV c2]at h;have:=lt h1 c1
    lia
   ·simp only[oW c1,oW c2]at h;exact h
theorem RE.frz{K:W.Frag}{B:UQ->Prop}{H:Hp}{S:St}{E:En}(re:RE K B H S E){i:Nat}{xs:List T}(h:E[i]?=oZ (oZ (.o false xs))):RE K B H S (E.set i (oZ (.p (.lst xs))))/\∀b,Ow B S (E.set i (oZ (.p (.lst xs)))) b->Ow B S E b/\S[i]?≠oZ (oZ (.ref b)):=by
 have hi:i<E.length:=(MK.mp h).1;obtain⟨a,vs,h1,h2,h3,h4⟩:=re.own i false xs h;have get:∀{j:Nat}{u:U},(E.set i (oZ (.p (.lst xs))))[j]?=oZ (oZ u)->(j=i/\u = .p (.lst xs))\/(j≠i/\E[j]?=oZ (oZ u)):=λ{j u}hj=>by
  by_cases c:j=i
  ·subst c;rw[NR hi]at hj;cases hj;exact .inl ⟨rfl,rfl⟩
  ·rw[ND (λz=>c z.symm)]at hj;exact .inr ⟨c,hj⟩
 have ow:∀b,Ow B S (E.set i (oZ (.p (.lst xs)))) b->Ow B S E b/\S[i]?≠oZ (oZ (.ref b)):=λb z=>by
  obtain z|⟨j,k,ys,q1,q2⟩:=z
  ·refine⟨.inl z,λw=>?_⟩;rw[h1]at w;cases w;exact absurd (h4.mpr z) ∅
  obtain⟨_,z⟩|⟨c,q1⟩:=get q1
  ·cases z
  ·exact⟨.inr ⟨j,k,ys,q1,q2⟩,λz=>c (re.inj j i k false ys xs b q1 h q2 z)⟩
 have kl:Kp (Ow B S E) (Ow B S (E.set i (oZ (.p (.lst xs))))) H H:=Kp.less λb z=>(ow b z).1;refine⟨⟨by simp[re.len],λj t hj=>?_,λj k ys hj=>?_,λj m k l ys zs b q1 q2 q3 q4=>?_,re.bd⟩,ow⟩
 ·obtain⟨c,z⟩|⟨c,hj⟩:=get hj
  ·cases z;subst c;exact⟨_,h1,a,vs,rfl,.inl ⟨λz=>(ow a z).2 h1,.inl h2⟩,h3.step kl⟩
  ·obtain⟨w,q1,q2⟩:=re.pure j t hj;exact⟨w,q1,q2.step kl⟩
 ·obtain⟨_,z⟩|⟨c,hj⟩:=get hj
  ·cases z
  ·obtain⟨b,ws,q1,q2,q3,q4⟩:=re.own j k ys hj;exact⟨b,ws,q1,q2,q3.step kl,q4⟩
 ·obtain⟨_,z⟩|⟨_,q1⟩:=get q1
  ·cases z
  obtain⟨_,z⟩|⟨_,q2⟩:=get q2
  ·cases z
  exact re.inj j m k l ys zs b q1 q2 q3 q4
theorem RE.put{K:W.Frag}{B:UQ->Prop}{H:Hp}{S:St}{E:En}(re:RE K B H S E){i:Nat}{k:Bool}{xs ys:List T}{a:UQ}{ws:List V}(h:E[i]?=oZ (oZ (.o k xs)))(hS:S[i]?=oZ (oZ (.ref a)))(hw:bW K H (Ow B S E) ys ws):
  Gr B H S E (upd H a (.lst ws)) S (E.set i (oZ (.o k ys)))/\RE K B (upd H a (.lst ws)) S (E.set i (oZ (.o k ys))):=by
 have hi:i<E.length:=(MK.mp h).1;have get:∀{j:Nat}{u:U},(E.set i (oZ (.o k ys)))[j]?=oZ (oZ u)->(j=i/\u = .o k ys)\/(j≠i/\E[j]?=oZ (oZ u)):=λ{j u}hj=>by
  by_cases c:j=i
  ·subst c;rw[NR hi]at hj;cases hj;exact .inl ⟨rfl,rfl⟩
  ·rw[ND (λz=>c z.symm)]at hj;exact .inr ⟨c,hj⟩
 have ow:∀b,Ow B S (E.set i (oZ (.o k ys))) b->Ow B S E b:=λb z=>by
  obtain z|⟨j,l,zs,q1,q2⟩:=z
  ·exact .inl z
  obtain⟨c,z⟩|⟨c,q1⟩:=get q1
  ·subst c;exact .inr ⟨j,k,xs,h,q2⟩
  ·exact .inr ⟨j,l,zs,q1,q2⟩
 have oa:Ow B S E a:=.inr ⟨i,k,xs,h,hS⟩;have kk:∀b o,H b=oZ o->¬Ow B S E b->(upd H a (.lst ws)) b=oZ o:=λb o e n=>by rw[aT (λz=>n (by rw[z];exact oa))];exact e
 have kp:Kp (Ow B S E) (Ow B S E) H (upd H a (.lst ws)):=⟨kk,λb z=>.inl z⟩;refine⟨⟨⟨kk,λb z=>.inl (ow b z)⟩,[],by simp⟩,re.step kk (by simp) (λj t hj=>?_) (λj l zs hj=>?_) (λb hb=>?_)⟩
 ·obtain⟨_,z⟩|⟨_,hj⟩:=get hj
  ·cases z
  ·exact hj
 ·obtain⟨c,z⟩|⟨c,hj⟩:=get hj
  ·cases z;subst c;refine⟨xs,h,λb hb=>?_⟩;rw[hS]at hb;cases hb;exact⟨ws,bY,hw.step kp⟩
  ·refine⟨zs,hj,λb hb=>?_⟩;obtain⟨b',us,q1,q2,q3,_⟩:=re.own j l zs hj;rw[hb]at q1;cases q1;have nb:b≠a:=λz=>c (re.inj j i l k zs xs a hj h (by rw[<-z];exact hb) hS);exact⟨us,by rw[aT nb];exact q2,q3.step kp⟩
 ·by_cases c:b=a
  ·subst c;exact⟨ws,bY⟩
  ·rw[aT c];exact re.bd b hb
section
variable{X:Cx}{K:W.Frag}{pos:Pos}{a b c e o i:oC}{es rest:List oC}{Fa Fb Fc Fe Fo Fi:FE}{Fr:FA}{Fp Fq:FB}{F G:FS}{st:UZ}{aq body qo zd:List UZ}
def sR:En->(En->Prop)->Prop
 |[],k=>k []
 |x::r,k=>sR r λr'=>k (x::r')
theorem gK:∀{E:En}{k:En->Prop},sR E k->k E
 |[],_,h=>h
 |x::r,k,h=>gK (E:=r) (k:=λr'=>k (x::r')) h
def FR:FS:=λD E=>D.nx E
def FV(F G:FS):FS:=λD E=>F { D with nx:=λE'=>sR E' (G D) } E
theorem c9:QB X [] (gU K FR):=AF.le λD σ H zZ=>by obtain⟨B,E,DT,re,hF,l⟩:=zZ;exact l.nx _ _ _ hF (Kp.refl _ _) re
theorem aB(h1:QS X st (gU K F))(h2:QB X aq (gU K G)):QB X (st::aq) (gU K (FV F G)):=
 (jN h1 h2).le λD σ H zZ=>by obtain⟨B,E,DT,re,hF,l⟩:=zZ;exact⟨B,E,_,re,hF,⟨λσ' H' E' hG g XH=>⟨B,E',DT,XH,gK hG,l.step g⟩,l.rt,l.bk,l.ct⟩⟩
theorem aG(h1:QS X st (gU K F)):QB X [st] (gU K F):=u9 h1
def FU(Fa:FE):FS:=λD E=>Fa E D.rt
theorem aN(h:QE X e (aJ K Fa)):QS X (.Return (oZ e) pos) (gU K (FU Fa)):=
 (Hu h).le λD σ H hl zZ=>by obtain⟨B,E,DT,re,hF,l⟩:=zZ;exact⟨B,σ,E,_,⟨[],by simp⟩,re,hF,λr E' v H' S' q g XH rr=>l.rt r E' v H' S' q g.kp XH rr⟩
theorem Fv{D:Bool->Hp->Prop}{B:UQ->Prop}{P:Bool->En->Prop}(re:RE K B H σ E)(hF:Fp E λb E'=>P b (E'.take E.length))(k:∀b H' E',P b E'->Gs B H σ E H' σ E'->RE K B H' σ E'->D b H'):d8 K Fp σ H D:=
 ⟨B,σ,E,_,⟨[],by simp⟩,re,hF,λb E' H' S' q g XH=>by
  obtain⟨r,ow⟩:=XH.cut (E:=E) g.pre re.len;exact k b H' _ q (g.kp.trans (Kp.less ow)) r⟩
theorem Fw{P:R->En->En->Prop}{B:UQ->Prop}(re:RE K B H σ E)(hF:Fa E λr E'=>P r E' (E'.take E.length))(k:∀r E' v H' S',P r E' (E'.take E.length)->Gr B H σ E H' S' E'->RE K B H' S' E'->RR K B H' S' E' r v->RE K B H' σ (E'.take E.length)->(∀b,Ow B σ (E'.take E.length) b->Ow B S' E' b)->Q v H'):aJ K Fa σ H Q:=
 ⟨B,σ,E,_,⟨[],by simp⟩,re,hF,λr E' v H' S' q g XH rr=>by
  obtain⟨r2,ow⟩:=XH.cut (E:=E) g.pre re.len;exact k r E' v H' S' q g XH rr r2 ow⟩
def LZ(Fp:FB)(F G:FS):FS:=λD E=>Fp E λb E'=>if b=true then sR (E'.take E.length) (F D)else sR (E'.take E.length) (G D)
theorem eS(hc:QT X c (d8 K Fp))(ha:QB X qo (gU K F))(hb:QB X zd (gU K G)):QS X (.If c qo zd pos) (gU K (LZ Fp F G)):=
 (EW hc ha hb).le λD σ H hl⟨B,E,DT,re,hF,l⟩=>Fv (P:=λb E'=>if b=true then sR E' (F DT)else sR E' (G DT)) re hF λb H' E' q g XH=>by
  cases b
  ·exact⟨B,E',DT,XH,gK q,l.step g⟩
  ·exact⟨B,E',DT,XH,gK q,l.step g⟩
def O0(Fa:FE):FS:=λD E=>Fa E λ_ E'=>D.nx (E'.take E.length)
theorem iD(he:QE X e (aJ K Fa))(hs:VL e none pos.line X.env=pure false:=by rfl):QS X (.Expr e pos) (gU K (O0 Fa)):=
 (Lr he hs).le λD σ H hl zZ=>by obtain⟨B,E,DT,re,hF,l⟩:=zZ;exact Fw (P:=λ_ _ E'=>DT.nx E') re hF λr E' v H' S' q g XH rr YE ow=>l.nx _ _ _ q (g.kp.trans (Kp.less ow)) YE
def G7(Fp:FB):FS:=λD E=>Fp E λb E'=>b=true/\D.nx (E'.take E.length)
theorem Of(hc:QT X c (d8 K Fp)):QS X (.Assert c m pos) (gU K (G7 Fp)):=
 (Pl hc).le λD σ H hl zZ=>by obtain⟨B,E,DT,re,hF,l⟩:=zZ;exact Fv (P:=λb E'=>b=true/\DT.nx E') re hF λb H' E' q g XH=>⟨q.1,l.nx _ _ _ q.2 g XH⟩
def pick(n:Nat)(E:En):R->Option U
 |.p t=>oZ (.p t)
 |.s j=>match E[j]? with
  |some (oZ (.p t))=>oZ (.p t)
  |some (oZ (.o k xs))=>if n<=j then oZ (.o k xs)else none
  |_=>none
theorem mR{B:UQ->Prop}{σ:St}{E:En}{i:Nat}(re:RE K B H S E)(hS:∃τ,S=σ++τ)(rr:RR K B H S E r v)(h:pick σ.length E r=oZ u):
  RE K B H (σ.set i (oZ v)) ((E.take σ.length).set i (oZ u))/\∀b,Ow B (σ.set i (oZ v)) ((E.take σ.length).set i (oZ u)) b->Ow B S E b:=by
 have wu:∀{t:T},Rp K H (Ow B S E) t v->RE K B H (σ.set i (oZ v)) ((E.take σ.length).set i (oZ (.p t)))/\∀b,Ow B (σ.set i (oZ v)) ((E.take σ.length).set i (oZ (.p t))) b->Ow B S E b:=λ{t}hp=>by
  obtain⟨τ,rfl⟩:=hS;have YE:=re.take σ.length;rw[show(σ++τ).take σ.length=σ by simp]at YE;have ow:∀b,Ow B σ (E.take σ.length) b->Ow B (σ++τ) E b:=λb z=>by
   obtain z|⟨j,k,xs,h1,h2⟩:=z
   ·exact .inl z
   have hj:j<σ.length:=(MK.mp h2).1;exact .inr ⟨j,k,xs,by rw[OT hj]at h1;exact h1,gL ⟨τ,rfl⟩ h2⟩
  obtain⟨q1,q2⟩:=YE.setP (i:=i) (hp.step (Kp.less ow));exact⟨q1,λb z=>ow b (q2 b z)⟩
 cases r with
 |p t=>cases h;exact wu rr
 |s j=>
  cases q:E[j]? with
  |none=>simp only[pick,q]at h;cases h
  |some w=>
   cases w with
   |none=>simp only[pick,q]at h;cases h
   |some w=>
    cases w with
    |p t=>
     simp only[pick,q]at h;cases h;obtain⟨v',h1,h2⟩:=re.pure j t q;have jt:S[j]?=oZ (oZ v):=rr;rw[jt]at h1;cases h1;exact wu h2
    |o k xs=>
     simp only[pick,q]at h;split at h
     ·cases h;rename_i c;exact re.setO hS c q rr
     ·cases h
def G9(i:Nat)(Fa:FE):FS:=λD E=>Fa E λr E'=>o1 (pick E.length E' r) λu=>D.nx ((E'.take E.length).set i (oZ u))
theorem U5{i:Nat}{x:Str}(hN:X.N.Nodup)(hi:X.N[i]?=oZ x)(hx:yK X.env.scope x)(he:QE X e (aJ K Fa))(hs:VL e (oZ (.Name x pos')) pos.line X.env=pure false:=by rfl)(hf:X.fn x=true\/X.env.scope.names.lookup x=oZ .local:=by first|exact .inl rfl|exact .inr rfl|assumption):QS X (.Assign [.Name x pos'] e pos) (gU K (G9 i Fa)):=
 (vB hN hi hx he hs hf).le λD σ H hl⟨B,E,DT,re,hF,l⟩=>⟨B,σ,E,_,⟨[],by simp⟩,re,hF,λr E' v H' S' q g XH rr=>by
  obtain⟨u,e1,q⟩:=q.ex;rw[<-re.len]at e1 q;obtain⟨r1,ow⟩:=mR (i:=i) XH g.pre rr e1;exact l.nx _ _ _ q (g.kp.trans (Kp.less ow)) r1⟩
end
abbrev FG:=T->En->(En->Prop)->Prop
abbrev Ya:=List T->En->(En->Prop)->Prop
def qH(K:W.Frag)(G:FG):TG:=λv σ H Q=>∃B τ E t Q',RE K B H (σ++τ) E/\Rp K H (Ow B (σ++τ) E) t v/\G t E Q'/\∀σ' H' E',Q' E'->Gs B H (σ++τ) E H' (σ'++τ) E'->RE K B H' (σ'++τ) E'->σ'.length=σ.length->Q σ' H'
def Dz(K:W.Frag)(G:Ya):K7:=λvs σ H Q=>∃B τ E ts Q',RE K B H (σ++τ) E/\bW K H (Ow B (σ++τ) E) ts vs/\G ts E Q'/\∀σ' H' E',Q' E'->Gs B H (σ++τ) E H' (σ'++τ) E'->RE K B H' (σ'++τ) E'->σ'.length=σ.length->Q σ' H'
def Kr(i:Nat):FG:=λt E Q=>Q (E.set i (oZ (.p t)))
def DQ:Ya:=λts E Q=>match ts with
 |[]=>Q E
 |_=>False
def M7(g:FG)(gs:Ya):Ya:=λts E Q=>match ts with
 |t::r=>g t E λE'=>gs r E' Q
 |[]=>False
def DR(n:Nat)(gs:Ya):FG:=λt E Q=>match t with
 |.tup ts=>cond (Nat.beq ts.length n) (gs ts E Q) False
 |_=>False
def JD(Fo Fi:FE):FG:=λt E Q=>Fo E λr E1=>Fi E1 λz E2=>match r with
 |.s j=>match E2[j]? with
  |some (oZ (.o k xs))=>i1 (vl E2 z) λm=>o1 (Fg xs.length m) λl=>Q ((E2.set j (oZ (.o k (xs.set l t)))).take E.length)
  |_=>False
 |_=>False
section
variable{X:Cx}{K:W.Frag}{pos:Pos}{a b c e o i:oC}{es rest:List oC}{Fa Fb Fc Fe Fo Fi:FE}{Fr:FA}{Fp Fq:FB}{F G:FS}{st:UZ}{aq body:List UZ}{g:FG}{gs:Ya}
theorem Kb{i:Nat}{x:Str}(hN:X.N.Nodup)(hi:X.N[i]?=oZ x)(hx:yK X.env.scope x)(hf:X.fn x=true\/X.env.scope.names.lookup x=oZ .local:=by first|exact .inl rfl|exact .inr rfl|assumption):QG X (.Name x pos) (qH K (Kr i)):=
 (kO hN hi hx hf).le λv σ H Q hl zZ=>by
  obtain⟨B,τ,E,t,Q',re,rp,hF,l⟩:=zZ;have YX:i<σ.length:=by rw[hl];exact(MK.mp hi).1
  obtain⟨r1,ow⟩:=re.setP (i:=i) rp;rw[List.set_append_left _ _ YX]at r1 ow;exact l _ _ _ hF (Kp.less ow) r1 (by simp)
theorem bG:Ff X [] (Dz K DQ):=z7.le λvs σ H Q zZ=>by
 obtain⟨B,τ,E,ts,Q',re,rp,hF,l⟩:=zZ;cases ts with
 |nil=>exact⟨rp,l _ _ _ hF (Kp.refl _ _) re rfl⟩
 |cons _ _=>exact hF.elim
theorem aE(h1:QG X e (qH K g))(h2:Ff X es (Dz K gs))(hs:(VC (e::es) X.env).map (·.2)=WC e X.env::(VC es X.env).map (·.2):=by rfl):Ff X (e::es) (Dz K (M7 g gs)):=
 (j9 h1 h2 hs).le λvs σ H Q zZ=>by
  obtain⟨B,τ,E,ts,Q',re,rp,hF,l⟩:=zZ;cases ts with
  |nil=>exact hF.elim
  |cons t ts=>
   obtain⟨v,r,e1,h1,h2⟩:=rp;exact⟨v,r,e1,B,τ,E,t,_,re,h1,hF,λσ' H' E' q g XH hl=>⟨B,τ,E',ts,Q',XH,h2.step g,q,λσ2 H2 E2 q2 g2 YE nu=>l _ _ _ q2 (g.trans g2) YE (nu.trans hl)⟩⟩
theorem bS(eK:X.K=K)(hc:X.calm=true)(h:Ff X es (Dz K gs))(hn:(VC es X.env).length=n:=by rfl)(jy:(VC es X.env).findIdx? (·.1)=none:=by rfl):QG X (.Tuple es k pos) (qH K (DR n gs)):=by
 subst eK;refine(Ht hc h hn jy).le λv σ H Q hl zZ=>?_;obtain⟨B,τ,E,t,Q',re,rp,hF,l⟩:=zZ;cases t with
 |tup ts=>
  have cj:cond (Nat.beq ts.length n) (gs ts E Q') False:=hF;cases q:Nat.beq ts.length n with
  |false=>rw[q]at cj;exact cj.elim
  |true=>
   rw[q]at cj;obtain⟨p,vs,e1,sq,rs⟩:=rp.sqT;exact⟨p,vs,e1,sq,by rw[rs.length];exact Nat.eq_of_beq_eq_true q,B,τ,E,ts,Q',re,rs,cj,l⟩
 |_=>exact hF.elim
theorem Gk(ho:QE X o (aJ K Fo))(hi:QE X i (aJ K Fi))(ha:∀v,WC (.Subscript o i pos) X.env v=(do
   let ov <-VV [v] (VF o X.env)
   let iv <-VV [v,ov] (VF i X.env)
   standAt pos
   VV [v,ov,iv] (setItem ov iv v)
   release [v,ov,iv] []):=by intro _;rfl):QG X (.Subscript o i pos) (qH K (JD Fo Fi)):=by
 refine(Vq ho hi Wj ha).le λv σ H Q hl zZ=>?_;obtain⟨B,τ,E,t,Q',re,rp,hF,l⟩:=zZ;refine⟨B,σ++τ,E,_,⟨τ,rfl⟩,re,hF,λr E1 w H1 S1 q g1 XJ rr=>?_⟩;obtain⟨τ1,ZG⟩:=g1.pre;refine⟨B,S1,E1,_,⟨τ++τ1,by rw[ZG,MO]⟩,XJ,q,λz E2 y H2 S2 q2 g2 YE wt=>?_⟩;have g12:=g1.trans g2;cases r with
 |p _=>exact q2.elim
 |s j=>
  have rj:S2[j]?=oZ (oZ w):=gL g2.pre rr;cases hE:E2[j]? with
  |none=>simp only[hE]at q2
  |some u=>
   cases u with
   |none=>simp only[hE]at q2
   |some u=>
    cases u with
    |p _=>simp only[hE]at q2
    |o k xs=>
     simp only[hE]at q2;obtain⟨m,e1,q2⟩:=q2.ex;obtain⟨n,e2,q2⟩:=q2.ex;obtain⟨p,vs,h1,h2,h3,h4⟩:=YE.own j k xs hE;rw[rj]at h1;cases h1;refine⟨p,vs,m,n,rfl,YE.int wt e1,h2,by rw[h3.length];exact e2,?_⟩;obtain⟨g3,YM⟩:=YE.put (ys:=xs.set n t) (ws:=vs.set n v) hE rj (h3.set (rp.step g12.kp) n);obtain⟨ig,ow⟩:=YM.cut (E:=E) (g12.trans g3).pre re.len;exact l _ _ _ q2 ((g12.trans g3).kp.trans (Kp.less ow)) ig rfl
def JV(Fa:FE)(g:FG):FS:=λD E=>Fa E λr E'=>match r with
 |.p t=>g t (E'.take E.length) D.nx
 |.s _=>False
theorem iV(he:QE X e (aJ K Fa))(hg:QG X tg (qH K g))(hs:VP [tg] e pos.line X.env=pure false:=by rfl)(hw:VQ [tg] e X.env=pure none:=by rfl)(h1:(VC [tg] X.env).map (·.2)=[WC tg X.env]:=by rfl):QS X (.Assign [tg] e pos) (gU K (JV Fa g)):=
 (Vr he hg hs hw h1).le λD σ H hl⟨B,E,DT,re,hF,l⟩=>Fw (P:=λr _ E'=>match r with|.p t=>g t E' DT.nx|.s _=>False) re hF λr E' v H' S' q g' XH rr YE ow=>by
  cases r with
  |s _=>exact q.elim
  |p t=>exact⟨B,[],_,t,_,by rw[NS];exact YE,by rw[NS];exact Rp.step (Kp.less ow) rr,q,λσ2 H2 E2 q2 g2 YM _=>by rw[NS]at g2 YM;rw[NS]at g2;exact l.nx _ _ _ q2 ((g'.kp.trans (Kp.less ow)).trans g2) YM⟩
def JX(i j:Nat)(Fr:FA):FS:=λD E=>Fr E λrs E'=>match rs with
 |[.p t,r]=>o1 (pick E.length E' r) λu=>D.nx (((E'.take E.length).set j (oZ u)).set i (oZ (.p t)))
 |[r,.p t]=>o1 (pick E.length E' r) λu=>D.nx (((E'.take E.length).set i (oZ u)).set j (oZ (.p t)))
 |_=>False
theorem kI{n i j:Nat}{x y:Str}{kt k2 qA}(hc:X.calm=true)(hN:X.N.Nodup)(hi:X.N[i]?=oZ x)(hj:X.N[j]?=oZ y)(fq:i≠j)(hx:X.env.scope.names.lookup x=oZ .local)(hy:X.env.scope.names.lookup y=oZ .local)(ha:QA X [a,b] (cZ K n Fr))(hw:VQ [.Tuple [.Name x px,.Name y py] kt pt] (.Tuple [a,b] k2 qA) X.env=pure (oZ [x,y]))(hs:VP [.Tuple [.Name x px,.Name y py] kt pt] (.Tuple [a,b] k2 qA) pos.line X.env=pure false:=by rfl):
  QS X (.Assign [.Tuple [.Name x px,.Name y py] kt pt] (.Tuple [a,b] k2 qA) pos) (gU K (JX i j Fr)):=by
 refine(AK hc hN hi hj fq hx hy ha hw hs).le λD σ H hl⟨B,E,DT,re,hF,l⟩=>⟨B,σ,E,_,⟨[],by simp⟩,re,hF,λrs E' vs H' S' q g XH rr hn=>?_⟩;split at q
 ·rename_i t r;obtain⟨v,ws,e1,h1,w,kh,e2,h2,h3⟩:=rr;cases h3;subst e2;subst e1;obtain⟨u,e3,q⟩:=q.ex;rw[<-re.len]at e3 q;obtain⟨r1,ow⟩:=mR (i:=j) XH g.pre h2 e3;obtain⟨r2,uf⟩:=r1.setP (i:=i) (Rp.step (Kp.less ow) h1);refine⟨v,w,rfl,?_⟩;rw[RY _ _ fq];exact l.nx _ _ _ q (g.kp.trans (Kp.less λb z=>ow b (uf b z))) r2
 ·rename_i r t _;obtain⟨v,ws,e1,h1,w,kh,e2,h2,h3⟩:=rr;cases h3;subst e2;subst e1;obtain⟨u,e3,q⟩:=q.ex;rw[<-re.len]at e3 q;obtain⟨r1,ow⟩:=mR (i:=i) XH g.pre h1 e3;obtain⟨r2,uf⟩:=r1.setP (i:=j) (Rp.step (Kp.less ow) h2);exact⟨v,w,rfl,l.nx _ _ _ q (g.kp.trans (Kp.less λb z=>ow b (uf b z))) r2⟩
 ·exact q.elim
def FT(i j k:Nat)(Fr:FA):FS:=λD E=>Fr E λrs E'=>match rs with
 |[r,.p t,.p w]=>o1 (pick E.length E' r) λu=>D.nx ((((E'.take E.length).set i (oZ u)).set j (oZ (.p t))).set k (oZ (.p w)))
 |_=>False
theorem Kg{n i j k:Nat}{x y z:Str}{kt k2 qA}(hc:X.calm=true)(hN:X.N.Nodup)(hi:X.N[i]?=oZ x)(hj:X.N[j]?=oZ y)(hk:X.N[k]?=oZ z)(fq:i≠j)(wm:i≠k)(wo:j≠k)(hx:X.env.scope.names.lookup x=oZ .local)(hy:X.env.scope.names.lookup y=oZ .local)(hz:X.env.scope.names.lookup z=oZ .local)(ha:QA X [a,b,c] (cZ K n Fr))(hw:VQ [.Tuple [.Name x px,.Name y py,.Name z pz] kt pt] (.Tuple [a,b,c] k2 qA) X.env=pure (oZ [x,y,z]))(hs:VP [.Tuple [.Name x px,.Name y py,.Name z pz] kt pt] (.Tuple [a,b,c] k2 qA) pos.line X.env=pure false:=by rfl):
  QS X (.Assign [.Tuple [.Name x px,.Name y py,.Name z pz] kt pt] (.Tuple [a,b,c] k2 qA) pos) (gU K (FT i j k Fr)):=by
 refine(F7 hc hN hi hj hk fq wm wo hx hy hz ha hw hs).le λD σ H hl⟨B,E,DT,re,hF,l⟩=>⟨B,σ,E,_,⟨[],by simp⟩,re,hF,λrs E' vs H' S' q g XH rr hn=>?_⟩;split at q
 ·rename_i r t w;obtain⟨v1,ws1,e1,h1,v2,ws2,e2,h2,v3,ws3,e3,h3,h4⟩:=rr;cases h4;subst e3;subst e2;subst e1;obtain⟨u,e4,q⟩:=q.ex;rw[<-re.len]at e4 q;obtain⟨r1,ow⟩:=mR (i:=i) XH g.pre h1 e4;obtain⟨r2,uf⟩:=r1.setP (i:=j) (Rp.step (Kp.less ow) h2);obtain⟨r3,zi⟩:=r2.setP (i:=k) (Rp.step (Kp.less λb z=>ow b (uf b z)) h3);exact⟨v1,v2,v3,rfl,l.nx _ _ _ q (g.kp.trans (Kp.less λb z=>ow b (uf b (zi b z)))) r3⟩
 ·exact q.elim
def AW(Fp:FB)(F:FS):FS:=λD E=>∃W:Nat->En->Prop,(∃m,W m E)/\∀m E,W m E->Fp E λb E'=>if b=true then F { D with nx:=λE2=>∃m',m'<m/\W m' E2,ct:=λE2=>∃m',m'<m/\W m' E2,bk:=D.nx } (E'.take E.length)else D.nx (E'.take E.length)
theorem uI(hp:PassesOwn (UW X.prog X.w) X.A X.env X.xe)(hc:QT X c (d8 K Fp))(hb:QB X body (gU K F)):QS X (.While c body [] pos) (gU K (AW Fp F)):=by
 refine(Vs hp hc hb).le λD σ H hl zZ=>?_;obtain⟨B,E,DT,re,⟨W,⟨m0,w0⟩,hF⟩,l⟩:=zZ;refine⟨λm σ' H'=>∃E',W m E'/\Gs B H σ E H' σ' E'/\RE K B H' σ' E',⟨m0,E,w0,Kp.refl _ _,re⟩,?_⟩;rintro m σ1 H1 ⟨E1,w1,g1,XJ⟩;refine Fv (P:=λb E'=>if b=true then F { DT with nx:=λE2=>∃m',m'<m/\W m' E2,ct:=λE2=>∃m',m'<m/\W m' E2,bk:=DT.nx } E' else DT.nx E') XJ (hF m E1 w1) λb H2 E2 q g2 YE=>?_;cases b
 ·exact l.nx _ _ _ q (g1.trans g2) YE
 ·refine⟨λσ' H'=>∃m',m'<m/\∃E',W m' E'/\Gs B H σ E H' σ' E'/\RE K B H' σ' E',λσ' H' z=>z,B,E2,_,YE,q,?_⟩;have l2:=l.step (g1.trans g2);exact⟨λσ' H' E' zZ g XH=>by obtain⟨m',hm,w⟩:=zZ;exact⟨m',hm,E',w,(g1.trans g2).trans g,XH⟩,l2.rt,λσ' H' E' z g XH=>l2.nx _ _ _ z g XH,λσ' H' E' zZ g XH=>by obtain⟨m',hm,w⟩:=zZ;exact⟨m',hm,E',w,(g1.trans g2).trans g,XH⟩⟩
structure Fs(K:W.Frag)(J:It)(items:List T)(gd:Hp->(UQ->Prop)->Prop):Prop where
 keep:∀H H' O O',Kp O O' H H'->gd H O->gd H' O'
 go:∀i H O,gd H O->i<items.length->J.go i H
 yld:∀i H O x H' t,gd H O->items[i]?=oZ t->(∀a,O a->H a≠none)->J.yld i H x H'->Kp O O H H'/\(∀b o,H b=oZ o->H' b=oZ o)/\Rp K H' O t x
 stop:∀H O,gd H O->J.stop items.length H
abbrev FI:=En->(List T->List Nat->En->Prop)->Prop
def lJ(K:W.Frag)(F:FI):TI:=λσ H R=>∃B S E Q',(∃τ,S=σ++τ)/\RE K B H S E/\F E Q'/\∀J items us E' H' S' gd,Q' items us E'->Gr B H S E H' S' E'->RE K B H' S' E'->Fs K J items gd->(∀j∈us,∃k xs,E'[j]?=oZ (oZ (U.o k xs)))->
 (∀O:UQ->Prop,(∀b,O b->Ow B S' E' b)->(∀j∈us,∀a,S'[j]?=oZ (oZ (.ref a))->¬O a)->gd H' O)->R J H'
def frzs:List Nat->En->Option En
 |[],E=>oZ E
 |j::us,E=>match E[j]? with
  |some (oZ (.o false xs))=>frzs us (E.set j (oZ (.p (.lst xs))))
  |_=>none
theorem zC{B:UQ->Prop}:∀{us:List Nat}{E E':En},RE K B H S E->frzs us E=oZ E'->RE K B H S E'/\(∀b,Ow B S E' b->Ow B S E b)/\(∀j∈us,∀a,S[j]?=oZ (oZ (.ref a))->¬Ow B S E' a)/\E'.length=E.length
 |[],E,E',re,h=>by cases h;exact⟨re,λb z=>z,λj hj=>absurd hj (by simp),rfl⟩
 |j::us,E,E',re,h=>by
  cases q:E[j]? with
  |none=>simp only[frzs,q]at h;cases h
  |some u=>
   cases u with
   |none=>simp only[frzs,q]at h;cases h
   |some u=>
    cases u with
    |p t=>simp only[frzs,q]at h;cases h
    |o k xs=>
     cases k
     ·simp only[frzs,q]at h;obtain⟨s1,s2⟩:=re.frz q;obtain⟨r1,r2,r3,r4⟩:=zC s1 h;refine⟨r1,λb z=>(s2 b (r2 b z)).1,λm hm a ha z=>?_,by rw[r4];simp⟩;obtain rfl|hm:=MJ.mp hm
      ·exact(s2 a (r2 a z)).2 ha
      ·exact r3 m hm a ha z
     ·simp only[frzs,q]at h;cases h
def fW(g:FG)(F:FS)(D:ET):List T->En->Prop
 |[],E=>D.nx E
 |x::xs,E=>g x E λE'=>sR E' (F { D with nx:=fW g F D xs,ct:=fW g F D xs,bk:=D.nx })
def FN(I:FI)(g:FG)(F:FS):FS:=λD E=>I E λitems us E'=>o1 (frzs us E') λE2=>sR (E2.take E.length) (fW g F D items)
theorem gJ(hp:PassesOwn (UW X.prog X.w) X.A X.env X.xe)(hc:X.calm=true)(hi:QI X tg iter (lJ K I))(hg:QG X tg (qH K g))(hb:QB X body (gU K F))(hs:∀x,VA iter X.env x=pure x:=by intro _;rfl):
  QS X (.For tg iter body [] pos) (gU K (FN I g F)):=by
 refine(z9 hp hc hi hg hb hs).le λD σ H hl zZ=>?_;obtain⟨B,E,DT,re,hF,l⟩:=zZ;refine⟨B,σ,E,_,⟨[],by simp⟩,re,hF,λJ items us E1 H1 S1 gd q g1 XJ ok _ qp=>?_⟩;obtain⟨E2,e2,q⟩:=q.ex;replace q:=gK q;obtain⟨f1,f2,f3,f4⟩:=zC XJ e2;obtain⟨c1,c2⟩:=f1.cut (E:=E) g1.pre re.len;have gs:Gs B H σ E H1 σ (E2.take E.length):=g1.kp.trans ((Kp.less f2).trans (Kp.less c2));have gd1:gd H1 (Ow B σ (E2.take E.length)):=qp _ (λb z=>f2 b (c2 b z)) λj hj a ha z=>f3 j hj a ha (c2 a z);refine⟨λi m σ' H'=>m=items.length-i/\i<=items.length/\∃E',fW g F DT (items.drop i) E'/\Gs B H σ E H' σ' E'/\RE K B H' σ' E'/\gd H' (Ow B σ' E'),⟨_,rfl,OR _,_,q,gs,c1,gd1⟩,?_⟩;rintro i m σ2 H2 ⟨rfl,ij,E3,q3,g3,YM,dk⟩;obtain YX|hge:=OY i items.length
 ·have hd:items.drop i=items[i]::items.drop (i+1):=PB YX;rw[hd]at q3;refine .inr ⟨ok.go i H2 _ dk YX,λσ' H'=>∃E',fW g F DT (items.drop (i+1)) E'/\Gs B H σ E H' σ' E'/\RE K B H' σ' E'/\gd H' (Ow B σ' E'),λσ' H' zZ=>by obtain⟨E',z⟩:=zZ;exact⟨items.length-(i+1),⋯,rfl,YX,E',z⟩,λx H4 y=>?_⟩;obtain⟨k4,s4,rp⟩:=ok.yld i H2 _ x H4 _ dk (MI YX) (λa z=>by obtain⟨vs,e⟩:=YM.ow z;rw[e];intro z;cases z) y;have ig:=YM.kept s4;have ug:=ok.keep _ _ _ _ k4 dk;refine⟨B,[],E3,_,_,by rw[NS];exact ig,by rw[NS];exact rp,q3,λσ5 H5 E5 q5 g5 ao wx=>?_⟩;rw[NS]at g5 ao;rw[NS]at g5;have wy:=ok.keep _ _ _ _ g5 ug;have gg:=(g3.trans k4).trans g5;have l5:=l.step gg;refine⟨B,E5,_,ao,gK q5,?_⟩;exact⟨λσ' H' E' z g XH=>⟨E',z,gg.trans g,XH,ok.keep _ _ _ _ g wy⟩,l5.rt,λσ' H' E' z g XH=>l5.nx _ _ _ z g XH,λσ' H' E' z g XH=>⟨E',z,gg.trans g,XH,ok.keep _ _ _ _ g wy⟩⟩
 ·have ei:i=items.length:=⋯
  subst ei;rw[PV]at q3;exact .inl ⟨ok.stop H2 _ dk,l.nx _ _ _ q3 g3 YM⟩
def qJ(E:En):R->List Nat
 |.p _=>[]
 |.s j=>match E[j]? with
  |some (oZ (.o _ _))=>[j]
  |_=>[]
theorem tP:∀j∈qJ E r,∃k xs,E[j]?=oZ (oZ (U.o k xs)):=λj hj=>by
 cases r with
 |p _=>simp[qJ]at hj
 |s m=>
  cases q:E[m]? with
  |none=>simp[qJ,q]at hj
  |some u=>
   cases u with
   |none=>simp[qJ,q]at hj
   |some u=>
    cases u with
    |p _=>simp[qJ,q]at hj
    |o k xs=>simp[qJ,q]at hj;subst hj;exact⟨k,xs,q⟩
theorem nG{B:UQ->Prop}(re:RE K B H S E)(rr:RR K B H S E r v)(e:vl E r=oZ t)(O:UQ->Prop)(hO:∀b,O b->Ow B S E b)(hu:∀j∈qJ E r,∀a,S[j]?=oZ (oZ (.ref a))->¬O a):Rp K H O t v:=by
 cases r with
 |p u=>cases e;exact Rp.step (Kp.less hO) rr
 |s j=>
  have jt:S[j]?=oZ (oZ v):=rr;cases q:E[j]? with
  |none=>simp only[vl,q]at e;cases e
  |some u=>
   cases u with
   |none=>simp only[vl,q]at e;cases e
   |some u=>
    cases u with
    |p u=>
     simp only[vl,q]at e;cases e;obtain⟨w,h1,h2⟩:=re.pure j _ q;rw[jt]at h1;cases h1;exact h2.step (Kp.less hO)
    |o k xs=>
     simp only[vl,q]at e;cases e;obtain⟨a,vs,h1,h2,h3,_⟩:=re.own j k xs q;rw[jt]at h1;cases h1;exact⟨a,vs,rfl,.inl ⟨hu j (by simp[qJ,q]) a jt,.inl h2⟩,h3.step (Kp.less hO)⟩
theorem Gy:Fs K (HC K p) xs (λH O=>Rp K H O (.lst xs) (.ref p)):=by
 refine⟨λH H' O O' k h=>Rp.step k h,λi H O h hi=>?_,λi H O x H' t h e _ y=>?_,λH O h=>?_⟩
 ·obtain⟨a,vs,e,sq,rs⟩:=h.sqL;cases e;exact⟨vs,vs[i]'(by rw[rs.length];exact hi),sq,MI _⟩
 ·obtain⟨e1,y⟩:=y;subst e1;obtain⟨a,vs,e2,sq,rs⟩:=h.sqL;cases e2;obtain⟨v,h1,h2⟩:=rs.get e;rw[y vs sq]at h1;cases h1;exact⟨Kp.refl _ _,λ_ _ z=>z,h2⟩
 ·obtain⟨a,vs,e,sq,rs⟩:=h.sqL;cases e;exact⟨vs,sq,by rw[rs.length];exact MQ _⟩
theorem Ti:Fs K (HD K p) xs (λH O=>Rp K H O (.tup xs) (.ref p)):=by
 refine⟨λH H' O O' k h=>Rp.step k h,λi H O h hi=>?_,λi H O x H' t h e _ y=>?_,λH O h=>?_⟩
 ·obtain⟨a,vs,e,sq,rs⟩:=h.sqT;cases e;exact⟨vs,vs[i]'(by rw[rs.length];exact hi),sq,MI _⟩
 ·obtain⟨e1,y⟩:=y;subst e1;obtain⟨a,vs,e2,sq,rs⟩:=h.sqT;cases e2;obtain⟨v,h1,h2⟩:=rs.get e;rw[y vs sq]at h1;cases h1;exact⟨Kp.refl _ _,λ_ _ z=>z,h2⟩
 ·obtain⟨a,vs,e,sq,rs⟩:=h.sqT;cases e;exact⟨vs,sq,by rw[rs.length];exact MQ _⟩
def rL(lo:Int)(n:Nat):List T:=(OG n).map λ(i:Nat)=>T.int (lo+(i:Int))
theorem V3{lo:Int}:Fs K (BU lo n) (rL lo n) (λ_ _=>True):=by
 refine⟨λ_ _ _ _ _ h=>h,λi H O _ hi=>by show i<n;simpa[rL]using hi,λi H O x H' t _ e _ y=>?_,λH O _=>by simp[BU,rL]⟩;obtain⟨e1,y⟩:=y;subst e1;subst y;unfold rL at e;rw[MT]at e;have hi:i<n:=by
  obtain c|c:=OY i n
  ·exact c
  ·rw[PM (by simpa using c)]at e;cases e
 rw[SK hi]at e;cases e;exact⟨Kp.refl _ _,λ_ _ z=>z,rfl⟩
theorem V2:Fs K (HP K p) (xs.zipIdx.map λq=>T.tup [.int (q.2:Int),q.1]) (λH O=>Rp K H O (.lst xs) (.ref p)):=by
 refine⟨λH H' O O' k h=>Rp.step k h,λi H O h hi=>?_,λi H O x H' t h e hO y=>?_,λH O h=>?_⟩
 ·obtain⟨a,vs,e,sq,rs⟩:=h.sqL;cases e;have ij:i<xs.length:=by simpa using hi
  exact⟨vs,vs[i]'(by rw[rs.length];exact ij),sq,MI _⟩
 ·obtain⟨pp,w,e1,hp,e2,y⟩:=y;subst e1;subst e2;obtain⟨a,vs,e3,sq,rs⟩:=h.sqL;cases e3;rw[MT]at e;cases q:xs.zipIdx[i]? with
  |none=>rw[q]at e;cases e
  |some z=>
   rw[q]at e;cases e;obtain⟨q1,q2⟩:=MK.mp q;have q1':i<xs.length:=by simpa using q1
   rw[List.getElem_zipIdx]at q2;subst q2;obtain⟨v,h1,h2⟩:=rs.get (MI q1');rw[y vs sq]at h1;cases h1;have k:Kp O O H (upd H pp (.tup [.int (i:Int),w])):=Kp.upd hp;refine⟨k,λb o z=>by rw[aT (aV z hp)];exact z,pp,_,rfl,.inl ⟨λz=>hO pp z hp,bY⟩,_,_,rfl,?_,w,[],rfl,h2.step k,rfl⟩;simp[Rp]
 ·obtain⟨a,vs,e,sq,rs⟩:=h.sqL;cases e;exact⟨vs,sq,by simp[rs.length]⟩
def iL(Fa:FE):FI:=λE Q=>Fa E λr E1=>match vl E1 r with
 |some (.lst xs)=>Q xs (qJ E1 r) E1
 |_=>False
def iT(Fa:FE):FI:=λE Q=>Fa E λr E1=>match vl E1 r with
 |some (.tup xs)=>Q xs [] E1
 |_=>False
theorem dG(eK:X.K=K)(hl:QE X l (aJ K Fa)):QI X tg l (lJ K (iL Fa)):=by
 subst eK;refine(z8 hl).le λσ H R hn⟨B,S,E,Q',hS,re,hF,lk⟩=>⟨B,S,E,_,hS,re,hF,λr E1 v H1 S1 q g XJ rr=>?_⟩;split at q
 ·rename_i xs e1;obtain⟨a,vs,e2,sq,rs⟩:=XJ.vl rr e1;exact⟨a,e2,⟨vs,sq⟩,lk _ _ _ _ _ _ _ q g XJ Gy tP λO h1 h2=>by rw[<-e2];exact nG XJ rr e1 O h1 h2⟩
 ·exact q.elim
theorem qZ(eK:X.K=K)(hl:QE X l (aJ K Fa)):QI X tg l (lJ K (iT Fa)):=by
 subst eK;refine(AJ hl).le λσ H R hn⟨B,S,E,Q',hS,re,hF,lk⟩=>⟨B,S,E,_,hS,re,hF,λr E1 v H1 S1 q g XJ rr=>?_⟩;split at q
 ·rename_i xs e1;obtain⟨a,vs,e2,sq,rs⟩:=XJ.vl rr e1;refine⟨a,e2,⟨vs,sq⟩,lk _ _ _ _ _ _ _ q g XJ Ti (λj hj=>absurd hj (by simp)) λO h1 h2=>?_⟩;rw[<-e2];refine nG XJ rr e1 O h1 λj hj=>?_;cases r with
  |p _=>simp[qJ]at hj
  |s m=>
   cases q2:E1[m]? with
   |none=>simp only[vl,q2]at e1;cases e1
   |some u=>
    cases u with
    |none=>simp only[vl,q2]at e1;cases e1
    |some u=>
     cases u with
     |p u=>simp[qJ,q2]at hj
     |o k ys=>simp only[vl,q2]at e1;cases e1
 ·exact q.elim
def LU(Fr:FA):FI:=λE Q=>Fr E λrs E1=>match rs with
 |[x]=>i1 (vl E1 x) λj=>(-(2^62)<=j/\j<2^62)/\Q (rL 0 j.toNat) [] E1
 |_=>False
theorem j0(hg:Gl X "range")(hm:X.mg "range" = none)(ha:QA X [a] (cZ K n Fr))(hs:bO a=false:=by rfl):QI X tg (.Call (.Name "range" p) [a] [] pos) (lJ K (LU Fr)):=by
 refine(Pk hg hm ha hs).le λσ H R hn⟨B,S,E,Q',hS,re,hF,lk⟩=>⟨B,S,E,_,hS,re,hF,λrs E1 vs H1 S1 q g XJ rr hn=>?_⟩
 match rs,rr,q with
 |[x],⟨v,ws,e1,h1,h2⟩,q=>
  cases h2;subst e1;obtain⟨j,e2,c,q⟩:=i1.ex q;exact⟨j,by rw[XJ.int h1 e2],c.1,c.2,lk _ _ _ _ _ _ _ q g XJ V3 (λj hj=>absurd hj (by simp)) λ_ _ _=>trivial⟩
 |[],_,q=>exact q.elim
 |_::_::_,_,q=>exact q.elim
def iE(Fr:FA):FI:=λE Q=>Fr E λrs E1=>match rs with
 |[r]=>(match vl E1 r with
  |some (.lst xs)=>Q (xs.zipIdx.map λq=>T.tup [.int (q.2:Int),q.1]) (qJ E1 r) E1
  |_=>False)
 |_=>False
theorem zA{x1}(eK:X.K=K)(hg:Gl X "enumerate")(hm:X.mg "enumerate" = none)(ha:QA X [a] (cZ K n Fr))(hs:bO a=false:=by rfl):QI X (.Tuple elts x1 ZS) (.Call (.Name "enumerate" p) [a] [] pos) (lJ K (iE Fr)):=by
 subst eK;refine(F4 hg hm ha hs).le λσ H R hn⟨B,S,E,Q',hS,re,hF,lk⟩=>⟨B,S,E,_,hS,re,hF,λrs E1 vs H1 S1 q g XJ rr hn=>?_⟩
 match rs,rr,q with
 |[r],⟨v,ws,e1,h1,h2⟩,q=>
  cases h2;subst e1;simp only at q;split at q
  ·rename_i xs e1;obtain⟨a,vs,e2,sq,rs⟩:=XJ.vl h1 e1;exact⟨a,by rw[e2],⟨vs,sq⟩,lk _ _ _ _ _ _ _ q g XJ V2 tP λO k1 k2=>by rw[<-e2];exact nG XJ h1 e1 O k1 k2⟩
  ·exact q.elim
 |[],_,q=>exact q.elim
 |_::_::_,_,q=>exact q.elim
end
mutual
def noL:T->Bool
 |.lst _=>false
 |.tup xs=>dH xs
 |_=>true
def dH:List T->Bool
 |[]=>true
 |x::xs=>noL x&&dH xs
end
def cY(H:Hp)(a:UQ):Prop:=∃ws,H a=oZ (.lst ws)
section
variable{K:W.Frag}{H:Hp}{O O':UQ->Prop}
mutual
theorem Rp.noL(hO:∀a,O' a->cY H a):∀{t:T}{v:V},L2.noL t=true->Rp K H O t v->Rp K H O' t v
 |.non,_,_,h=>h
 |.bl _,_,_,h=>h
 |.int _,_,_,h=>h
 |.str _,_,_,h=>h
 |.lst _,_,e,_=>by simp[L2.noL]at e
 |.tup xs,v,e,h=>by
  obtain⟨a,vs,e1,h1,h2⟩:=h;refine⟨a,vs,e1,h1.imp (λ⟨_,h⟩=>⟨λz=>?_,h⟩) id,bW.noL hO (by simpa[L2.noL]using e) h2⟩;obtain⟨ws,q⟩:=hO a z;rw[h]at q;cases q
theorem bW.noL(hO:∀a,O' a->cY H a):∀{xs:List T}{vs:List V},dH xs=true->bW K H O xs vs->bW K H O' xs vs
 |[],_,_,h=>h
 |x::xs,vs,e,h=>by
  obtain⟨v,r,e1,h1,h2⟩:=h;have e':L2.noL x=true/\dH xs=true:=by simpa[dH]using e
  exact⟨v,r,e1,Rp.noL hO e'.1 h1,bW.noL hO e'.2 h2⟩
end
end
theorem RE.push{K:W.Frag}{B:UQ->Prop}{H':Hp}{S:St}{E:En}(re:RE K B H' S E){a:UQ}{ts:List T}{vs:List V}(ha:H' a=oZ (.lst vs))(hn:¬Ow B S E a)(hb:¬B a)(hp:∀(i:Nat)(t:T),E[i]?=oZ (oZ (.p t))->∃v,S[i]?=oZ (oZ v)/\Rp K H' (λb=>Ow B S E b\/b=a) t v)(ho:∀(i:Nat)(k:Bool)(xs:List T),E[i]?=oZ (oZ (.o k xs))->∃b ws,S[i]?=oZ (oZ (.ref b))/\H' b=oZ (.lst ws)/\bW K H' (λb=>Ow B S E b\/b=a) xs ws)(h:bW K H' (λb=>Ow B S E b\/b=a) ts vs):
  RE K B H' (S++[oZ (.ref a)]) (E++[oZ (.o false ts)])/\∀b,Ow B (S++[oZ (.ref a)]) (E++[oZ (.o false ts)]) b->Ow B S E b\/b=a:=by
 have gE:∀{i:Nat}{u:U},(E++[oZ (.o false ts)])[i]?=oZ (oZ u)->(E[i]?=oZ (oZ u)/\i<E.length)\/(i=E.length/\u = .o false ts):=λ{i u}h=>by
  obtain⟨c,h⟩|⟨c,h⟩:=uK h
  ·exact .inl ⟨h,c⟩
  ·exact .inr ⟨c,Option.some.inj h⟩
 have gS:∀{i:Nat}{x:Option V},S[i]?=oZ x->(S++[oZ (.ref a)])[i]?=oZ x:=λ{i x}h=>gL ⟨_,rfl⟩ h;have bf:∀{i:Nat}{x:Option V},i<E.length->(S++[oZ (.ref a)])[i]?=oZ x->S[i]?=oZ x:=λ{i x}c h=>by
  rw[NK (by rw[re.len];exact c)]at h;exact h
 have lS:(S++[oZ (.ref a)])[E.length]?=oZ (oZ (.ref a)):=by rw[<-re.len];simp
 have ow:∀b,Ow B (S++[oZ (.ref a)]) (E++[oZ (.o false ts)]) b->Ow B S E b\/b=a:=λb z=>by
  obtain z|⟨i,k,xs,h1,h2⟩:=z
  ·exact .inl (.inl z)
  obtain⟨h1,c⟩|⟨c,h1⟩:=gE h1
  ·exact .inl (.inr ⟨i,k,xs,h1,bf c h2⟩)
  ·subst c;rw[lS]at h2;cases h2;exact .inr rfl
 have kl:Kp (λb=>Ow B S E b\/b=a) (Ow B (S++[oZ (.ref a)]) (E++[oZ (.o false ts)])) H' H':=Kp.less ow;refine⟨⟨by simp[re.len],λi t h=>?_,λi l xs h=>?_,λi j l m xs ys b h1 h2 h3 h4=>?_,re.bd⟩,ow⟩
 ·obtain⟨h,c⟩|⟨c,h⟩:=gE h
  ·obtain⟨v,h1,h2⟩:=hp i t h;exact⟨v,gS h1,h2.step kl⟩
  ·cases h
 ·obtain⟨h,c⟩|⟨c,h⟩:=gE h
  ·obtain⟨b,ws,h1,h2,h3⟩:=ho i l xs h;obtain⟨b',_,q1,_,_,q4⟩:=re.own i l xs h;rw[h1]at q1;cases q1;exact⟨b,ws,gS h1,h2,h3.step kl,q4⟩
  ·cases h;subst c;exact⟨a,vs,lS,ha,bW.step kl (by assumption),⟨λz=>absurd z ∅,λz=>absurd z hb⟩⟩
 ·obtain⟨h1,c1⟩|⟨c1,h1⟩:=gE h1
  ·obtain⟨h2,c2⟩|⟨c2,h2⟩:=gE h2
   ·exact re.inj i j l m xs ys b h1 h2 (bf c1 h3) (bf c2 h4)
   ·subst c2;rw[lS]at h4;cases h4;exact absurd (.inr ⟨i,l,xs,h1,bf c1 h3⟩) hn
  ·obtain⟨h2,c2⟩|⟨c2,h2⟩:=gE h2
   ·subst c1;rw[lS]at h3;cases h3;exact absurd (.inr ⟨j,m,ys,h2,bf c2 h4⟩) hn
   ·rw[c1,c2]
theorem RE.pad{K:W.Frag}{B:UQ->Prop}{H:Hp}{S:St}{E:En}(re:RE K B H S E)(n:Nat):RE K B H (S++NW n none) (E++NW n none)/\(∀b,Ow B (S++NW n none) (E++NW n none) b->Ow B S E b):=by
 have gE:∀{i:Nat}{u:U},(E++NW n none)[i]?=oZ (oZ u)->E[i]?=oZ (oZ u)/\i<E.length:=λ{i u}h=>by
  obtain c|c:=OY i E.length
  ·rw[NK c]at h;exact⟨h,c⟩
  ·rw[OF c]at h;have:=MN h;rw[List.mem_replicate]at this;cases this.2
 have gS:∀{i:Nat}{x:Option V},S[i]?=oZ x->(S++NW n none)[i]?=oZ x:=λ{i x}h=>gL ⟨_,rfl⟩ h;have bf:∀{i:Nat}{x:Option V},i<E.length->(S++NW n none)[i]?=oZ x->S[i]?=oZ x:=λ{i x}c h=>by
  rw[NK (by rw[re.len];exact c)]at h;exact h
 have ow:∀b,Ow B (S++NW n none) (E++NW n none) b->Ow B S E b:=λb z=>z.imp id λzZ=>by obtain⟨i,k,xs,h1,h2⟩:=zZ;exact⟨i,k,xs,(gE h1).1,bf (gE h1).2 h2⟩
 have kl:Kp (Ow B S E) (Ow B (S++NW n none) (E++NW n none)) H H:=Kp.less ow;refine⟨⟨by simp[re.len],λi t h=>?_,λi l xs h=>?_,λi j l m xs ys b h1 h2 h3 h4=>?_,re.bd⟩,ow⟩
 ·obtain⟨v,h1,h2⟩:=re.pure i t (gE h).1;exact⟨v,gS h1,h2.step kl⟩
 ·obtain⟨b,ws,h1,h2,h3,h4⟩:=re.own i l xs (gE h).1;exact⟨b,ws,gS h1,h2,h3.step kl,h4⟩
 ·exact re.inj i j l m xs ys b (gE h1).1 (gE h2).1 (bf (gE h1).2 h3) (bf (gE h2).2 h4)
inductive A where
 |v (t:T)|b (xs:List T)
inductive RV where
 |v (t:T)|l (xs:List T)
abbrev iO:=List A->(RV->List T->Prop)->Prop
def qU:List A->En
 |[]=>[]
 |.v t::r=>oZ (.p t)::qU r
 |.b xs::r=>oZ (.o true xs)::qU r
theorem kG:∀{as:List A},(qU as).length=as.length
 |[]=>rfl
 |.v t::r=>by simp[qU,kG (as:=r)]
 |.b t::r=>by simp[qU,kG (as:=r)]
def Bl:List A->Option Nat
 |[]=>none
 |.b _::_=>oZ 0
 |.v _::r=>(Bl r).map (· + 1)
def HF(K:W.Frag)(H H':Hp):RV->V->Prop
 |.v t,v=>Rp K H' (cY H) t v
 |.l xs,v=>∃a ws,v = .ref a/\H a=none/\H' a=oZ (.lst ws)/\bW K H' (λb=>cY H b\/b=a) xs ws
def aQ(K:W.Frag)(S:iO):Sp:=λvs H Q _=>∃(as:List A)(Q':RV->List T->Prop)(bx:Option UQ),RE K (λa=>bx=oZ a) H (vs.map oZ) (qU as)/\(Bl as=none->bx=none)/\S as Q'/\
 ∀r xs v H',Q' r xs->(∀b o,H b=oZ o->bx≠oZ b->H' b=oZ o)->(∀a,bx=oZ a->∃ws,H' a=oZ (.lst ws)/\bW K H' (cY H') xs ws)->HF K H H' r v->Q v H'
def Jl(as:List A)(E:En):Option (List T):=match Bl as with
 |none=>oZ []
 |some j=>match E[j]? with
  |some (oZ (.o true xs))=>if dH xs=true then oZ xs else none
  |_=>none
def endT(as:List A)(Q:RV->List T->Prop):ET where
 nx:=λE=>o1 (Jl as E) λxs=>Q (.v .non) xs
 rt:=λr E=>o1 (Jl as E) λxs=>match r with
  |.p t=>noL t=true/\Q (.v t) xs
  |.s i=>match E[i]? with
   |some (oZ (.o false ys))=>dH ys=true/\Q (.l ys) xs
   |some (oZ (.p t))=>noL t=true/\Q (.v t) xs
   |_=>False
theorem Ry:∀{as:List A}{j:Nat}{k:Bool}{xs:List T},(qU as)[j]?=oZ (oZ (.o k xs))->k=true
 |[],j,_,_,h=>by simp[qU]at h
 |.b _::_,0,_,_,h=>by simp[qU]at h;exact h.1
 |.v _::_,0,_,_,h=>by simp[qU]at h
 |.b _::r,j+1,_,_,h=>Ry (as:=r) (j:=j) (by simpa[qU]using h)
 |.v _::r,j+1,_,_,h=>Ry (as:=r) (j:=j) (by simpa[qU]using h)
theorem dY.okT{P:UU}{w:UY}{K:W.Frag}{mg:Str->Option oA}{base:oE}{x qual:Str}{st:UZ}{f:UQ}{fd:VH}{N ps:List Str}{k:Nat}{S:iO}{F:FS}(Fn:dY K x qual st f fd)(Sc:aK N ps (aC st))(len:∀as Q,S as Q->as.length=ps.length)(hb:∀(YH:oA)(A:oD)(outer:List Env)(s:oB)(H:Hp)(E:XK),dW k (A.deeper (WL qual (aC st) s.heap.objs.size f YH))->QB (yV eT P w K mg base N qual (aC st) f YH A outer s H E).nox (dF st) (gU K F))(hF:∀as Q,S as Q->F (endT as Q) (qU as++NW (N.length-as.length) none)):(~~~bE) eT (k+1) f fd ps (aQ K S):=by
 refine Fn.okQ Sc (λvs H Q E⟨as,Q',bx,re,hbn,hS,l⟩=>?_) (λYH A outer s H vs Q E hr⟨as,Q',bx,re,hbn,hS,l⟩=>?_)
 ·have:=re.len;rw[ML,kG]at this;rw[this];exact len as Q' hS
 have hl:vs.length=as.length:=by have:=re.len;rwa [ML,kG]at this
 refine⟨_,hb YH A outer s H E hr,?_⟩;obtain⟨re0,om⟩:=re.pad (N.length-as.length);have jy:mI N vs=vs.map oZ++NW (N.length-as.length) none:=by unfold mI;rw[hl]
 rw[jy]
 -- the box's address
 have wz:∀b,Ow (λa=>bx=oZ a) (vs.map oZ) (qU as) b->bx=oZ b:=λb z=>by
  obtain z|⟨i,kk,xs,h1,h2⟩:=z
  ·exact z
  obtain⟨a,ws,q1,_,_,q4⟩:=re.own i kk xs h1;rw[h2]at q1;cases q1;exact q4.mp (Ry h1)
 have fr:∀{H':Hp}{S':St}{E':En},Gs (λa=>bx=oZ a) H (vs.map oZ++NW (N.length-as.length) none) (qU as++NW (N.length-as.length) none) H' S' E'->∀b o,H b=oZ o->bx≠oZ b->H' b=oZ o:=λg b o h n=>g.keep b o h λz=>n (wz b (om b z));have fin:∀{r:RV}{xs:List T}{v:V}{H':Hp}{S':St}{E':En},Jl as E'=oZ xs->Q' r xs->Gs (λa=>bx=oZ a) H (vs.map oZ++NW (N.length-as.length) none) (qU as++NW (N.length-as.length) none) H' S' E'->RE K (λa=>bx=oZ a) H' S' E'->
   ((∀a,cY H a->cY H' a)->HF K H H' r v)->Q v H':=λ{r xs v H' S' E'}e q g XH hr=>by
  have hbx:∀a,bx=oZ a->∃ws,H' a=oZ (.lst ws)/\bW K H' (cY H') xs ws:=λa ha=>by
   unfold Jl at e;cases qb:Bl as with
   |none=>
    rw[qb]at e;cases e;rw[hbn qb]at ha;cases ha
   |some j=>
    rw[qb]at e;simp only at e;split at e
    ·rename_i ys hE;split at e
     ·cases e;rename_i hnl;obtain⟨b,ws,h1,h2,h3,h4⟩:=XH.own j true xs hE;have:bx=oZ b:=h4.mp rfl;rw[ha]at this;cases this;exact⟨ws,h2,bW.noL (λ_ z=>z) hnl h3⟩
     ·cases e
    ·cases e
  refine l r xs v H' q (fr g) hbx (hr λa zZ=>?_);obtain⟨ws,ha⟩:=zZ
  by_cases c:bx=oZ a
  ·obtain⟨kh,h,_⟩:=hbx a c;exact⟨kh,h⟩
  ·exact⟨ws,fr g a _ ha c⟩
 refine⟨_,_,_,re0,hF as Q' hS,⟨λσ' H' E' q g XH=>?_,λr E' v H' S' q g XH rr=>?_,λ_ _ _ z=>z.elim,λ_ _ _ z=>z.elim⟩⟩
 ·obtain⟨xs,e,q⟩:=q.ex;exact fin e q g XH λ_=>rfl
 ·obtain⟨xs,e,q⟩:=q.ex;cases r with
  |p t=>exact fin e q.2 g XH λh=>Rp.noL h q.1 rr
  |s i=>
   simp only at q;split at q
   ·rename_i ys hE;refine fin e q.2 g XH λh=>?_;obtain⟨b,ws,h1,h2,h3,h4⟩:=XH.own i false ys hE;have jt:S'[i]?=oZ (oZ v):=rr;rw[jt]at h1;cases h1;refine⟨b,ws,rfl,?_,h2,bW.noL (λa z=>?_) q.1 h3⟩
    ·obtain z|z:=g.new b (.inr ⟨i,false,ys,hE,jt⟩)
     ·have:=h4.mpr (wz b (om b z));cases this
     ·exact z
    ·obtain z|z:=z
     ·exact h a z
     ·exact⟨ws,by rw[z];exact h2⟩
   ·rename_i t hE;obtain⟨w,h1,h2⟩:=XH.pure i t hE;have jt:S'[i]?=oZ (oZ v):=rr;rw[jt]at h1;cases h1;exact fin e q.2 g XH λh=>Rp.noL h q.1 h2
   ·exact q.elim
def N2(E:En):List R->Option (List T)
 |[]=>oZ []
 |r::rs=>match vl E r,N2 E rs with
  |some t,oZ ts=>oZ (t::ts)
  |_,_=>none
def vT(E:En)(Q:R->En->Prop):RV->Prop
 |.v t=>Q (.p t) E
 |.l xs=>Q (.s E.length) (E++[oZ (.o false xs)])
def Sa(S:iO)(Fr:FA):FE:=λE Q=>Fr E λrs E1=>o1 (N2 E1 rs) λts=>S (ts.map A.v) λr _=>vT E1 Q r
def Sb(S:iO)(Fr:FA):FE:=λE Q=>Fr E λrs E1=>match rs with
 |.s j::rs=>(match E1[j]? with
  |some (oZ (.o k xs))=>cond (rs.all λr=>!(qJ E1 r).contains j) (o1 (N2 E1 rs) λts=>S (.b xs::ts.map A.v) λr ys=>vT (E1.set j (oZ (.o k ys))) Q r) False
  |_=>False)
 |_=>False
theorem Hc{K:W.Frag}{B:UQ->Prop}{H:Hp}{S:St}{E:En}(re:RE K B H S E):∀{rs:List R}{vs:List V}{ts:List T},Qf K B H S E rs vs->N2 E rs=oZ ts->∀(O:UQ->Prop),(∀b,O b->Ow B S E b)->(∀r∈rs,∀j∈qJ E r,∀a,S[j]?=oZ (oZ (.ref a))->¬O a)->bW K H O ts vs
 |[],_,_,h,e,_,_,_=>by cases e;exact h
 |r::rs,_,ts,⟨v,ws,e1,h1,h2⟩,e,O,hO,hu=>by
  cases q1:vl E r with
  |none=>simp only[N2,q1]at e;cases e
  |some t=>
   cases q2:N2 E rs with
   |none=>simp only[N2,q1,q2]at e;cases e
   |some us=>
    simp only[N2,q1,q2]at e;cases e;exact⟨v,ws,e1,nG re h1 q1 O hO (hu r (by simp)),Hc re h2 q2 O hO λr' hr=>hu r' (by simp[hr])⟩
theorem Rz:∀{ts:List T},qU (ts.map A.v)=ts.map λt=>oZ (U.p t)
 |[]=>rfl
 |t::ts=>by simp[qU,Rz (ts:=ts)]
theorem Ax{K:W.Frag}{B:UQ->Prop}{H:Hp}{H':Hp}{S:St}{E:En}{E':En}(re:RE K B H S E)(XH:RE K B H' S E')(hk:∀b o,H b=oZ o->¬Ow B S E b->H' b=oZ o)(hw:∀b,Ow B S E' b->Ow B S E b)(hE:∀(i:Nat)(k:Bool)(xs:List T),E'[i]?=oZ (oZ (.o k xs))->(E[i]?=oZ (oZ (.o k xs))/\∀a,S[i]?=oZ (oZ (.ref a))->H' a=H a)\/∀a ws,S[i]?=oZ (oZ (.ref a))->H' a=oZ (.lst ws)->bW K H' (cY H') xs ws)(hP:∀(i:Nat)(t:T),E'[i]?=oZ (oZ (.p t))->E[i]?=oZ (oZ (.p t))){r:RV}{v:V}(rv:HF K H H' r v){Q:R->En->Prop}(q:vT E' Q r){Qv:VK}(lk:Lk K B H S E Q Qv):Qv v H':=by
 have kp:Kp (Ow B S E) (Ow B S E') H H':=⟨hk,λb z=>.inl (hw b z)⟩;cases r with
 |v t=>exact lk _ _ _ _ _ q ⟨kp,[],by simp⟩ XH (Rp.step (Kp.less λb z=>re.ow (hw b z)) rv)
 |l xs=>
  obtain⟨a,ws,rfl,h1,h2,h3⟩:=rv;have nOw:¬Ow B S E' a:=λz=>re.nn h1 (hw a z);have nB:¬B a:=λz=>re.nn h1 (.inl z);have kp2:Kp (Ow B S E) (λb=>Ow B S E' b\/b=a) H H':=⟨hk,λb z=>by
   obtain z|z:=z
   ·exact .inl (hw b z)
   ·exact .inr (by rw[z];exact h1)⟩
  obtain⟨r1,r2⟩:=XH.push h2 nOw nB (λi t h=>by
    obtain⟨w,q1,q2⟩:=re.pure i t (hP i t h);exact⟨w,q1,q2.step kp2⟩) (λi k ys h=>by
    obtain⟨b,us,q1,q2,q3,_⟩:=XH.own i k ys h;refine⟨b,us,q1,q2,?_⟩;obtain⟨z,zz⟩|z:=hE i k ys h
    ·obtain⟨b',dw,p1,p2,p3,_⟩:=re.own i k ys z;rw[q1]at p1;cases p1;have e:=zz b q1;rw[q2,p2]at e;cases e;exact p3.step kp2
    ·exact(z b us q1 q2).step (Kp.less λc hc=>by
      obtain hc|hc:=hc
      ·exact XH.ow hc
      ·exact⟨ws,by rw[hc];exact h2⟩)) (h3.step (Kp.less λb z=>by
    obtain z|z:=z
    ·exact .inl (re.ow (hw b z))
    ·exact .inr z))
  refine lk _ _ _ _ _ q ⟨⟨hk,λb z=>?_⟩,[oZ (.ref a)],rfl⟩ r1 ?_
  ·obtain z|z:=r2 b z
   ·exact .inl (hw b z)
   ·exact .inr (by rw[z];exact h1)
  ·show(S++[oZ (V.ref a)])[E'.length]?=_;rw[<-XH.len];simp
theorem Rb{K:W.Frag}{Fr:FA}{n:Nat}{S:iO}{σ:St}{H:Hp}{Q:VK}(h:aJ K (Sa S Fr) σ H Q):Ec (aQ K S) [] E0 (cZ K n Fr) σ H Q:=by
 refine args (Fr:=Fr) h λB S' E rs vs H2 Q' hS re rr hn q lk=>?_;obtain⟨ts,e1,q⟩:=q.ex;rw[NS];have rp:=Hc re rr e1 (λ_=>False) (λ_ z=>z.elim) (λ_ _ _ _ _ _ z=>z);have no:∀b,¬Ow (λa=>(none:Option UQ)=oZ a) (vs.map oZ) (ts.map λt=>oZ (U.p t)) b:=λb z=>by
  obtain z|⟨i,k,xs,h1,_⟩:=z
  ·cases z
  rw[MT]at h1;cases q:ts[i]? with
  |none=>rw[q]at h1;cases h1
  |some t=>rw[q]at h1;cases h1
 refine⟨ts.map A.v,_,none,?_,λ_=>rfl,q,λr xs v H' q2 fr _ rv=>?_⟩
 ·rw[Rz];refine⟨by simp[rp.length],λi t h=>?_,λi k xs h=>?_,λi j k l xs ys a h _ _ _=>?_,λa z=>by cases z⟩
  ·rw[MT]at h;cases q:ts[i]? with
   |none=>rw[q]at h;cases h
   |some u=>
    rw[q]at h;cases h;obtain⟨v,h1,h2⟩:=rp.get q;exact⟨v,by rw[MT,h1];rfl,h2.step (Kp.less λb z=>no b z)⟩
  ·rw[MT]at h;cases q:ts[i]? with
   |none=>rw[q]at h;cases h
   |some t=>rw[q]at h;cases h
  ·rw[MT]at h;cases q:ts[i]? with
   |none=>rw[q]at h;cases h
   |some t=>rw[q]at h;cases h
 ·have same:∀b o,H2 b=oZ o->H' b=oZ o:=λb o z=>fr b o z (by intro z;cases z);exact Ax re (re.kept same) (λb o z _=>same b o z) (λb z=>z) (λi k xs h=>.inl ⟨h,λa ha=>by
   obtain⟨a',ws,h1,h2,_⟩:=re.own i k xs h;rw[ha]at h1;cases h1;rw[h2];exact same _ _ h2⟩) (λi t h=>h) rv q2 lk
theorem Yr{X:Cx}{K:W.Frag}{pos:Pos}{e:oC}{es:List oC}{Fr:FA}{n k j:Nat}{x:Str}{ps:List Str}{S:iO}{p:Pos}(F:Fn X.prog X.w X.K X.mg X.base k x ps (aQ K S))(hr:dW j X.A)(hk:k<=j)(hg:Gl X x)(ha:QA X (e::es) (cZ K n Fr))(ZR:(x==("__debug__":Str))=false:=by decide)(hs:bJ (e::es)=true:=by rfl):QE X (.Call (.Name x p) (e::es) [] pos) (aJ K (Sa S Fr)):=(Vn F hr hk hg ha ZR hs).le λ_ _ _ _ h=>Rb h
theorem Sf{X:Cx}{K:W.Frag}{pos:Pos}{e:oC}{es:List oC}{Fr:FA}{n k j:Nat}{x:Str}{ps:List Str}{S:iO}{p:Pos}(F:Fn X.prog X.w X.K X.mg X.base k x ps (aQ K S))(hr:dW j X.A)(hk:k<=j)(hg:Gl X x)(ha:QA X (e::es) (cZ K n Fr))(ZR:(x==("__debug__":Str))=false:=by decide)(hs:bJ (e::es)=true:=by rfl):QE X (.Call (.Name x p) (e::es) [] pos) (aJ K (Sb S Fr)):=by
 refine(Vn F hr hk hg ha ZR hs).le λσ H Q hl h=>args (Fr:=Fr) h λB S' E rs vs H2 Q' hS re rr hn q lk=>?_;rw[NS];split at q
 ·rename_i jb oq;split at q
  ·rename_i kb xs hE;cases qc:(oq.all λr=>!(qJ E r).contains jb)with
   |false=>rw[qc]at q;exact q.elim
   |true=>
    rw[qc]at q;obtain⟨ts,e1,q⟩:=o1.ex q;obtain⟨v0,ws,e2,h0,h2⟩:=rr;subst e2;have qq:S'[jb]?=oZ (oZ v0):=h0;obtain⟨a0,us,k1,k2,k3,k4⟩:=re.own jb kb xs hE;rw[qq]at k1;cases k1;have om:Ow B S' E a0:=.inr ⟨jb,kb,xs,hE,qq⟩;have rp:=Hc re h2 e1 (λb=>b=a0) (λb z=>by rw[z];exact om) (λr hr m hm a hma z=>by
     subst z;have c:=OQ.mp qc r hr;have:m=jb:=by
      cases r with
      |p _=>simp[qJ]at hm
      |s l=>
       cases ql:E[l]? with
       |none=>simp[qJ,ql]at hm
       |some u=>
        cases u with
        |none=>simp[qJ,ql]at hm
        |some u=>
         cases u with
         |p _=>simp[qJ,ql]at hm
         |o kk zs=>
          simp[qJ,ql]at hm;subst hm;exact re.inj _ _ kk kb zs xs a ql hE hma qq
     subst this;have hc:(qJ E r).contains m=true:=by simpa using hm
     rw[hc]at c;cases c)
    have get:∀{i:Nat}{u:U},(oZ (U.o true xs)::ts.map λt=>oZ (U.p t))[i]?=oZ (oZ u)->(i=0/\u = .o true xs)\/∃m t,i=m+1/\ts[m]?=oZ t/\u = .p t:=λ{i u}h=>by
     cases i with
     |zero=>simp at h;exact .inl ⟨rfl,h.symm⟩
     |succ m=>
      rw[List.getElem?_cons_succ,MT]at h;cases q:ts[m]? with
      |none=>rw[q]at h;cases h
      |some t=>rw[q]at h;cases h;exact .inr ⟨m,t,rfl,q,rfl⟩
    have ow:∀b,Ow (λa=>oZ a0=oZ a) ((V.ref a0::ws).map oZ) (oZ (U.o true xs)::ts.map λt=>oZ (U.p t)) b->b=a0:=λb z=>by
     obtain z|⟨i,k,ys,h1,h3⟩:=z
     ·cases z;rfl
     obtain⟨c,z⟩|⟨m,t,_,_,z⟩:=get h1
     ·subst c;simp at h3;exact h3.symm
     ·cases z
    have nb:Bl (A.b xs::ts.map A.v)≠none:=by intro z;cases z
    refine⟨A.b xs::ts.map A.v,_,oZ a0,?_,λz=>absurd z nb,q,λr ys v H' q2 fr bxk rv=>?_⟩
    ·have ee:qU (A.b xs::ts.map A.v)=oZ (U.o true xs)::ts.map λt=>oZ (U.p t):=by simp[qU,Rz]
     rw[ee];refine⟨by simp[rp.length],λi t h=>?_,λi k zs h=>?_,λi j k l zs ys a h1 h3 _ _=>?_,λa z=>by cases z;exact⟨us,k2⟩⟩
     ·obtain⟨_,z⟩|⟨m,t',e,q3,z⟩:=get h
      ·cases z
      ·cases z;subst e;obtain⟨v,h1,h2⟩:=rp.get q3;exact⟨v,by simp[h1],h2.step (Kp.less λb z=>ow b z)⟩
     ·obtain⟨c,z⟩|⟨m,t',e,q3,z⟩:=get h
      ·cases z;subst c;exact⟨a0,us,by simp,k2,k3.step (Kp.less λb z=>by rw[ow b z];exact om),⟨λ_=>rfl,λ_=>rfl⟩⟩
      ·cases z
     ·obtain⟨c,z⟩|⟨m,t',e,q3,z⟩:=get h1
      ·obtain⟨c',z'⟩|⟨m,t',e,q3,z'⟩:=get h3
       ·rw[c,c']
       ·cases z'
      ·cases z
    ·obtain⟨kh,b1,b2⟩:=bxk a0 rfl;have hk:∀b o,H2 b=oZ o->¬Ow B S' E b->H' b=oZ o:=λb o z n=>fr b o z (by intro c;cases c;exact n om);have xc:∀b,Ow B S' E b->cY H' b:=λb z=>by
      by_cases c:b=a0
      ·subst c;exact⟨kh,b1⟩
      ·obtain⟨dw,e⟩:=re.ow z;exact⟨dw,fr b _ e (by intro z;cases z;exact c rfl)⟩
     have ik:∀{i:Nat}{u:U},(E.set jb (oZ (.o kb ys)))[i]?=oZ (oZ u)->(i=jb/\u = .o kb ys)\/(i≠jb/\E[i]?=oZ (oZ u)):=λ{i u}h=>by
      by_cases c:i=jb
      ·subst c;rw[NR (MK.mp hE).1]at h;cases h;exact .inl ⟨rfl,rfl⟩
      ·rw[ND (λz=>c z.symm)]at h;exact .inr ⟨c,h⟩
     have kp:Kp (Ow B S' E) (Ow B S' E) H2 H':=⟨hk,λb z=>.inl z⟩;have owE:∀b,Ow B S' (E.set jb (oZ (.o kb ys))) b->Ow B S' E b:=λb z=>by
      obtain z|⟨i,k,zs,z1,z2⟩:=z
      ·exact .inl z
      obtain⟨c,z⟩|⟨c,z⟩:=ik z1
      ·subst c;exact .inr ⟨_,kb,xs,hE,z2⟩
      ·exact .inr ⟨i,k,zs,z,z2⟩
     have XH:RE K B H' S' (E.set jb (oZ (.o kb ys))):=by
      refine re.step hk (by simp) (λi t h=>?_) (λi k zs h=>?_) (λa z=>?_)
      ·obtain⟨_,z⟩|⟨_,z⟩:=ik h
       ·cases z
       ·exact z
      ·obtain⟨c,z⟩|⟨c,z⟩:=ik h
       ·cases z;subst c;refine⟨xs,hE,λa ha=>?_⟩;rw[qq]at ha;cases ha;exact⟨kh,b1,b2.step (Kp.less xc)⟩
       ·refine⟨zs,z,λa ha=>?_⟩;obtain⟨a',dw,p1,p2,p3,_⟩:=re.own i k zs z;rw[ha]at p1;cases p1;have na:a≠a0:=λw=>c (re.inj i jb k kb zs xs a0 z hE (by rw[<-w];exact ha) qq);exact⟨dw,fr a _ p2 (by intro w;cases w;exact na rfl),p3.step kp⟩
      ·exact xc a (.inl z)
     refine Ax re XH hk owE (λi k zs h=>?_) (λi t h=>?_) rv q2 lk
     ·obtain⟨c,z⟩|⟨c,z⟩:=ik h
      ·cases z
       right
       intro a us2 ha hu;subst c;rw[qq]at ha;cases ha;rw[b1]at hu;cases hu;exact b2
      ·left
       refine⟨z,λa ha=>?_⟩;obtain⟨a',dw,p1,p2,p3,_⟩:=re.own i k zs z;rw[ha]at p1;cases p1;have na:a≠a0:=λw=>c (re.inj i jb k kb zs xs a0 z hE (by rw[<-w];exact ha) qq);rw[p2];exact fr a _ p2 (by intro w;cases w;exact na rfl)
     ·obtain⟨_,z⟩|⟨_,z⟩:=ik h
      ·cases z
      ·exact z
  ·exact q.elim
 ·exact q.elim
def Nq(bk:Bool):Option (Option U)->Option U
 |some (oZ (.p t))=>oZ (.p t)
 |some (oZ (.o _ xs))=>if bk=true then oZ (.o true xs)else oZ (.p (.lst xs))
 |_=>none
def nM(t:Nat)(cap:List (Nat×Bool))(E:En):En:=NW t none++cap.map λk=>Nq k.2 E[k.1]?
def pH:List (Nat×Bool)->Option (Nat×Nat)
 |[]=>none
 |(k,true)::_=>oZ (0,k)
 |(_,false)::r=>(pH r).map λx=>(x.1+1,x.2)
def jD(cap:List (Nat×Bool)):Bool:=Nat.ble (cap.filter (·.2)).length 1
def Er(t:Nat)(cap:List (Nat×Bool))(av E:En):Option En:=match pH cap with
 |none=>oZ E
 |some (j,k)=>match E[k]?,av[t+j]? with
  |some (oZ (.o b _)),oZ (oZ (.o true ys))=>if dH ys=true then oZ (E.set k (oZ (.o b ys)))else none
  |some (oZ (.p _)),_=>oZ E
  |_,_=>none
def gV(g:FG)(Fe:FE):List T->En->(En->Prop)->Prop
 |[],E,Q=>Q E
 |x::xs,E,Q=>g x E λE2=>Fe E2 λr E3=>match r with
  |.p t=>(match E3[E.length-1]? with
   |some (oZ (.o false acc))=>acc.length<9000/\gV g Fe xs ((E3.set (E.length-1) (oZ (.o false (acc++[t])))).take E.length) Q
   |_=>False)
  |.s _=>False
def Cb(t:Nat)(cap:List (Nat×Bool))(I:FI)(g:FG)(Fe:FE):FE:=λE Q=>I E λitems us E1=>cap.all (λk=>!(k.2&&us.contains k.1))=true/\
 gV g Fe items (nM t cap E1++[oZ (.o false [])]) λav=>match av[t+cap.length]? with
  |some (oZ (.o false zs))=>dH zs=true/\o1 (Er t cap av E1) λE2=>Q (.s E2.length) (E2++[oZ (.o false zs)])
  |_=>False
theorem Bm(h:(nM t cap E)[i]?=oZ (oZ u)):∃j k b,i=t+j/\cap[j]?=oZ (k,b)/\Nq b E[k]?=oZ u:=by
 unfold nM at h;obtain c|c:=OY i t
 ·rw[NK (by simpa using c)]at h;have:=MN h;rw[List.mem_replicate]at this;cases this.2
 ·rw[OF (by simpa using c),RF,MT]at h;cases q:cap[i-t]? with
  |none=>rw[q]at h;cases h
  |some x=>
   rw[q]at h;exact⟨i-t,x.1,x.2,⋯,q,by simpa using h⟩
theorem Bn{σ:St}{cap:List (Nat×Bool)}(h:cap[j]?=oZ (k,b)):(iM t (cap.map (·.1)) σ)[t+j]?=oZ ((σ[k]?).join):=by
 unfold iM;rw[OF (by simp)];simp[h]
theorem t8:∀{cap:List (Nat×Bool)}{j k:Nat},pH cap=oZ (j,k)->cap[j]?=oZ (k,true)
 |(k,true)::r,_,_,h=>by cases h;rfl
 |(m,false)::r,j,k,h=>by
  cases q:pH r with
  |none=>rw[pH,q]at h;cases h
  |some x=>
   rw[pH,q]at h;cases h
   simpa using t8 (j:=x.1) (k:=x.2) q
theorem i8:∀{cap:List (Nat×Bool)}{j k:Nat},jD cap=true->cap[j]?=oZ (k,true)->pH cap=oZ (j,k)
 |[],j,k,_,h=>by simp at h
 |(m,true)::r,0,k,_,h=>by simp at h;subst h;rfl
 |(m,true)::r,j+1,k,ho,h=>by
  have h':r[j]?=oZ (k,true):=by simpa using h
  have:(k,true)∈r.filter (·.2):=NI.mpr ⟨MN h',rfl⟩;have hl:0<(r.filter (·.2)).length:=UD this;unfold jD at ho;rw[NT (by rfl)]at ho;have:=Nat.le_of_ble_eq_true ho;simp only[MS]at this
  lia
 |(m,false)::r,0,k,_,h=>by simp at h
 |(m,false)::r,j+1,k,ho,h=>by
  have h':r[j]?=oZ (k,true):=by simpa using h
  have ak:jD r=true:=by
   unfold jD at ho⊢;rw[NU (by simp)]at ho;exact ho
  rw[pH,i8 ak h'];rfl
def KZ(i:Nat)(XN:List (Key×V))(σ:St)(H:Hp):Prop:=∃p,σ[i]?=oZ (oZ (.ref p))/\H p=oZ (.dK XN)
abbrev DD:=Option (Nat×List (Key×V))
def lL(d:DD)(σ:St)(H:Hp):Prop:=∀x,d=oZ x->KZ x.1 x.2 σ H
theorem lL.same(h:lL d σ H)(k:∀b o,H b=oZ o->H' b=oZ o):lL d σ H':=λx e=>let⟨p,h1,h2⟩:=h x e;⟨p,h1,k _ _ h2⟩
theorem lL.kp{d:DD}{K:W.Frag}{B O:UQ->Prop}{S σ:St}{E:En}{H H':Hp}(h:lL d σ H)(re:RE K B H S E)(k:Kp (Ow B S E) O H H'):lL d σ H':=λx e=>
 let⟨p,h1,h2⟩:=h x e;⟨p,h1,k.keep _ _ h2 λz=>by obtain⟨vs,e⟩:=re.ow z;rw[h2]at e;cases e⟩
def sM(d:DD)(K:W.Frag)(F:FE):TE:=λσ H Q=>lL d σ H/\aJ K F σ H Q
def Lz(m:Bool)(t:Nat)(d:DD)(K:W.Frag)(g:FG):TG:=λv σ H Q=>lL d σ H/\qH K g v σ H λσ' H'=>lL d σ' H'->(m=true->∀i,t<=i->σ'[i]?= σ[i]?)->Q σ' H'
abbrev Ly(d:DD)(K:W.Frag)(g:FG):TG:=Lz false 0 d K g
theorem QG.gd{X:Cx}{K:W.Frag}{g:FG}{e:oC}(h:QG X e (qH K g)):QG X e (Ly none K g):=h.le λv σ H Q _ zZ=>by obtain⟨_,B,τ,E,t,Q',re,rp,hF,l⟩:=zZ;exact⟨B,τ,E,t,Q',re,rp,hF,λσ' H' E' a b c d=>l σ' H' E' a b c d (λ_ z=>by cases z) λz=>by cases z⟩
theorem QE.ed{X:Cx}{K:W.Frag}{Fe:FE}{e:oC}(h:QE X e (aJ K Fe)):QE X e (sM none K Fe):=h.le λ_ _ _ _ z=>z.2
def Dx(d:DD)(K:W.Frag)(F:FB):TT:=λσ H Q=>lL d σ H/\d8 K F σ H Q
section
variable{X:Cx}{K:W.Frag}{pos:Pos}{Fb:FB}{Fe:FE}{g:FG}{I:FI}
def iS(g:FG)(Fb:FB)(Fe:FE):List T->En->(En->Prop)->Prop
 |[],E,Q=>Q E
 |x::xs,E,Q=>g x E λE2=>Fb E2 λb E2'=>if b=true then Fe E2' λr E3=>match r with
  |.p t=>(match E3[E.length-1]? with
   |some (oZ (.o false acc))=>acc.length<9000/\iS g Fb Fe xs ((E3.set (E.length-1) (oZ (.o false (acc++[t])))).take E.length) Q
   |_=>False)
  |.s _=>False
  else iS g Fb Fe xs (E2'.take E.length) Q
def y9(t:Nat)(cap:List (Nat×Bool))(I:FI)(g:FG)(Fb:FB)(Fe:FE):FE:=λE Q=>I E λitems us E1=>cap.all (λk=>!(k.2&&us.contains k.1))=true/\
 iS g Fb Fe items (nM t cap E1++[oZ (.o false [])]) λav=>match av[t+cap.length]? with
  |some (oZ (.o false zs))=>dH zs=true/\o1 (Er t cap av E1) λE2=>Q (.s E2.length) (E2++[oZ (.o false zs)])
  |_=>False
def WB(t:Nat)(cap:List (Nat×Bool))(av E E2:En):Prop:=E2.length=E.length/\∀(i:Nat)(u:U),E2[i]?=oZ (oZ u)->(∃(j:Nat)(b:Bool)(ys fu:List T),cap[j]?=oZ (i,true)/\E[i]?=oZ (oZ (.o b fu))/\av[t+j]?=oZ (oZ (.o true ys))/\dH ys=true/\u = .o b ys)\/(E[i]?=oZ (oZ u)/\∀(j:Nat)(b:Bool)(xs:List T),cap[j]?=oZ (i,true)->E[i]?≠oZ (oZ (.o b xs)))
theorem Qc(ho:jD cap=true)(h:Er t cap av E=oZ E2):WB t cap av E E2:=by
 unfold Er at h;cases qb:pH cap with
 |none=>
  rw[qb]at h;cases h;exact⟨rfl,λi u q=>.inr ⟨q,λj b xs z=>by rw[i8 ho z]at qb;cases qb⟩⟩
 |some jk=>
  obtain⟨j,k⟩:=jk;rw[qb]at h;simp only at h;have only:∀{i j'},cap[j']?=oZ (i,true)->i=k:=λz=>by rw[i8 ho z]at qb;cases qb;rfl
  split at h
  ·rename_i kb fu ys hE1 hEi;split at h
   ·rename_i hny;cases h;refine⟨by simp,λi u q=>?_⟩
    by_cases c:i=k
    ·subst c;rw[NR (MK.mp hE1).1]at q;cases q;exact .inl ⟨j,kb,ys,fu,t8 qb,hE1,hEi,hny,rfl⟩
    ·rw[ND (λz=>c z.symm)]at q;exact .inr ⟨q,λj' b xs z=>absurd (only z) c⟩
   ·cases h
  ·rename_i tp hE1;cases h;exact⟨rfl,λi u q=>.inr ⟨q,λj' b xs z y=>by rw[only z,hE1]at y;cases y⟩⟩
  ·cases h
theorem Nt {cap:List (Nat×Bool)} (S:bH X N' scope t (cap.map (·.1))) (hm:jD cap=true\/m=true/\tm=t) (fw:(cap.map (·.1)).Nodup) {W:En->En->Option En} (hW:∀av E E2,W av E=oZ E2->WB t cap av E E2) {FC:List T->Prop->Prop} (hC:∀zs p,FC zs p->p) {rr:List T->RV} {σ:St} {Q Qv:VK} (hl:σ.length=X.N.length) (il:∀H,lL d σ H->lL d' (iM t (cap.map (·.1)) σ) H) (out:∀(zs:List T) (D:UQ) (ws:List V) (H1 H2:Hp) (p:Prop),FC zs p->H1 D=none->H2 D=oZ (.lst ws)->ws.length=zs.length->(dH zs=true->bW K H2 (λa=>cY H1 a\/a=D) zs ws)->∃v,HF K H1 H2 (rr zs) v/\(Qv v H2->Q (.ref D) H2)) (h:sM d K (λE Q'=>I E λitems us E1=>cap.all (λk=>!(k.2&&us.contains k.1))=true/\iS g Fb Fe items (nM t cap E1++[oZ (.o false [])]) λav=>match av[t+cap.length]? with
   | some (oZ (.o false zs))=>FC zs (o1 (W av E1) λE2=>vT E2 Q' (rr zs))
   | _=>False) σ H Qv):n9 t (cap.map (·.1)) (lJ K I) (Lz m tm d' K g) (Dx d' K Fb) (sM d' K Fe) σ H Q:=by
 obtain ⟨dt,B,S0,E,Q',hS,re,hF,lk⟩:=h;refine ⟨B,S0,E,_,hS,re,hF,λJ items us E1 H1 S1 gd q g1 XJ qr qt qp D hD=>?_⟩;obtain ⟨hus,q⟩:=q;obtain ⟨τ0,hS0⟩:=hS;obtain ⟨τ1,ZG⟩:=g1.pre;have xf:∃τ,S1=σ++τ:=⟨τ0++τ1,by rw [ZG,hS0,MO]⟩;have atσ:∀{j k:Nat} {b:Bool} {v:V},cap[j]? = oZ (k,b)->S1[k]? = oZ (oZ v)->σ[k]? = oZ (oZ v):=λ{j k b v} hj hv=>by
  obtain ⟨x,_,hx,_⟩:=S.caps j k (by rw [MT,hj];rfl);have hk:k<σ.length:=by rw [hl];exact (MK.mp hx).1
  obtain ⟨τ,rfl⟩:=xf;rw [NK hk] at hv;exact hv
 have atC:∀{j k:Nat} {b:Bool} {v:V},cap[j]? = oZ (k,b)->S1[k]? = oZ (oZ v)->(iM t (cap.map (·.1)) σ)[t+j]? = oZ (oZ v):=λ{j k b v} hj hv=>by rw [Bn hj,atσ hj hv];rfl
 have dq:∀{j k:Nat} {b:Bool} {v:V},cap[j]? = oZ (k,b)->(iM t (cap.map (·.1)) σ)[t+j]? = oZ (oZ v)->S1[k]? = oZ (oZ v):=λ{j k b v} hj hv=>by
  rw [Bn hj] at hv;have:σ[k]? = oZ (oZ v):=by
   cases z:σ[k]? with
   | none=>rw [z] at hv;cases hv
   | some y=>rw [z] at hv;simpa using hv
  exact gL xf this
 obtain ⟨Bp,qu⟩:∃Bp:UQ->Prop,∀a,Bp a↔∃(j k:Nat) (kk:Bool) (xs:List T),cap[j]? = oZ (k,true)/\E1[k]? = oZ (oZ (.o kk xs))/\S1[k]? = oZ (oZ (.ref a)):=⟨_,λ_=>Iff.rfl⟩;have xg:∀{j j' m:Nat} {c c':Bool},cap[j]? = oZ (m,c)->cap[j']? = oZ (m,c')->j=j':=λ{j j' m c c'} e2 p1=>by
  have lt1:j<(cap.map (·.1)).length:=by rw [ML];exact (MK.mp e2).1
  exact (SY lt1 fw).mp (by rw [MT,MT,e2,p1];rfl)
 have ki:∀a,Bp a->Ow B S1 E1 a:=λa z=>by
  obtain ⟨j,k,kk,xs,_,h2,h3⟩:=(qu a).mp z;exact .inr ⟨k,kk,xs,h2,h3⟩
 -- an own list of the block is the box
 have km:∀{i:Nat} {k:Bool} {xs:List T},(nM t cap E1)[i]? = oZ (oZ (.o k xs))->∃j m kk,i=t+j/\cap[j]? = oZ (m,true)/\E1[m]? = oZ (oZ (.o kk xs))/\k=true:=λ{i k xs} h=>by
  obtain ⟨j,m,c,e1,e2,e3⟩:=Bm h;refine ⟨j,m,?_⟩;cases qE:E1[m]? with
  | none=>rw [qE] at e3;cases e3
  | some u=>
   cases u with
   | none=>rw [qE] at e3;cases e3
   | some u=>
    cases u with
    | p _=>rw [qE] at e3;cases e3
    | o kk ys=>
     rw [qE] at e3;cases c
     ·simp [Nq] at e3
     ·simp [Nq] at e3;obtain ⟨e4,e5⟩:=e3;exact ⟨kk,e1,e2,by rw [e5],e4⟩
 have ip:∀b,Ow Bp (iM t (cap.map (·.1)) σ) (nM t cap E1) b->Bp b:=λb z=>by
  obtain z | ⟨i,k,xs,h1,h2⟩:=z
  ·exact z
  obtain ⟨j,m,kk,e1,e2,e3,_⟩:=km h1;subst e1;exact (qu b).mpr ⟨j,m,kk,xs,e2,e3,dq e2 h2⟩
 have kl:Kp (Ow B S1 E1) (Ow Bp (iM t (cap.map (·.1)) σ) (nM t cap E1)) H1 H1:=Kp.less λb z=>ki b (ip b z);have xh:RE K Bp H1 (iM t (cap.map (·.1)) σ) (nM t cap E1):=by
  refine ⟨by simp [iM,nM],λi u h=>?_,λi k xs h=>?_,λi j k l xs ys a h1 h2 h3 h4=>?_,λa z=>XJ.ow (ki a z)⟩
  ·obtain ⟨j,m,c,e1,e2,e3⟩:=Bm h;subst e1;cases qE:E1[m]? with
   | none=>rw [qE] at e3;cases e3
   | some w=>
    cases w with
    | none=>rw [qE] at e3;cases e3
    | some w=>
     cases w with
     | p w=>
      rw [qE] at e3;cases e3;obtain ⟨v,h1,h2⟩:=XJ.pure m _ qE;exact ⟨v,atC e2 h1,h2.step kl⟩
     | o kk ys=>
      rw [qE] at e3;cases c
      ·simp [Nq] at e3;subst e3;obtain ⟨a,vs,h1,h2,h3,h4⟩:=XJ.own m kk ys qE;refine ⟨_,atC e2 h1,a,vs,rfl,.inl ⟨λz=>?_,.inl h2⟩,h3.step kl⟩;obtain ⟨j',k',xi,oj,p1,p2,p3⟩:=(qu a).mp (ip a z);have e4:=XJ.inj m k' kk xi ys oj a qE p2 h1 p3;subst e4;have lt1:j<(cap.map (·.1)).length:=by rw [ML];exact (MK.mp e2).1
       have lt2:j'<(cap.map (·.1)).length:=by rw [ML];exact (MK.mp p1).1
       have:j=j':=(SY lt1 fw).mp (by rw [MT,MT,e2,p1];rfl);subst this;rw [e2] at p1;cases p1
      ·simp [Nq] at e3
  ·obtain ⟨j,m,kk,e1,e2,e3,e4⟩:=km h;subst e1;subst e4;obtain ⟨a,vs,h1,h2,h3,h4⟩:=XJ.own m kk _ e3;exact ⟨a,vs,atC e2 h1,h2,h3.step kl,⟨λ_=>(qu a).mpr ⟨j,m,kk,_,e2,e3,h1⟩,λ_=>rfl⟩⟩
  ·obtain ⟨j1,m1,k1,e1,e2,e5,_⟩:=km h1;obtain ⟨j2,m2,k2,e3,e4,e6,_⟩:=km h2;subst e1;subst e3;have em:=XJ.inj m1 m2 k1 k2 _ _ a e5 e6 (dq e2 h3) (dq e4 h4);subst em;rw [xg e2 e4]
 -- the accumulator gets a place
 obtain ⟨gD,reD⟩:=xh.lst (ts:=[]) (vs:=[]) hD rfl;have gd0:gd (upd H1 D (.lst [])) (Ow Bp (iM t (cap.map (·.1)) σ++[oZ (.ref D)]) (nM t cap E1++[oZ (.o false [])])):=by
  refine qr.keep _ _ _ _ gD.kp (qp _ (λb z=>ki b (ip b z)) λj hj a ha z=>?_);obtain ⟨j',k',xi,oj,p1,p2,p3⟩:=(qu a).mp (ip a z);obtain ⟨kj,xj,qj⟩:=qt j hj;have ej:=XJ.inj j k' kj xi xj oj a qj p2 ha p3;subst ej;have:=OQ.mp hus (j,true) (MN p1);simp [hj] at this
 have hn:(iM t (cap.map (·.1)) σ).length=t+cap.length:=by simp [iM]
 have hnE:(nM t cap E1++[oZ (U.o false [])]).length=t+cap.length+1:=by simp [nM];lia
 -- the turns
 refine ⟨λi m' σ' H'=>m'=items.length-i/\i<=items.length/\∃E',iS g Fb Fe (items.drop i) E' (λav=>match av[t+cap.length]? with
   | some (oZ (.o false zs))=>FC zs (o1 (W av E1) λE2=>vT E2 Q' (rr zs))
   | _=>False)/\σ'.length=t+cap.length/\E'.length=t+cap.length+1/\RE K Bp H' (σ'++[oZ (.ref D)]) E'/\
   Gs Bp (upd H1 D (.lst [])) (iM t (cap.map (·.1)) σ++[oZ (.ref D)]) (nM t cap E1++[oZ (.o false [])]) H' (σ'++[oZ (.ref D)]) E'/\gd H' (Ow Bp (σ'++[oZ (.ref D)]) E')/\lL d' σ' H'/\(m=true->∀i,tm<=i->σ'[i]? = (iM t (cap.map (·.1)) σ)[i]?),
  ⟨_,rfl,OR _,_,q,hn,hnE,reD,Kp.refl _ _,gd0,(il _ (dt.kp re g1.kp)).kp xh gD.kp,λ_ _ _=>rfl⟩,?_⟩
 rintro i m' σ2 H2 ⟨rfl,ij,E3,q3,hl3,hE3,YM,g3,dk,dt3,vj⟩;obtain YX | hge:=OY i items.length
 ·have hd:items.drop i=items[i]::items.drop (i+1):=PB YX;rw [hd] at q3;refine .inr ⟨qr.go i H2 _ dk YX,λx H4 y=>?_⟩;obtain ⟨k4,s4,rp⟩:=qr.yld i H2 _ x H4 _ dk (MI YX) (λa z=>by obtain ⟨vs,e⟩:=YM.ow z;rw [e];intro z;cases z) y;have ig:=YM.kept s4;have ug:=qr.keep _ _ _ _ k4 dk;refine ⟨dt3.same s4,_,[oZ (.ref D)],E3,_,_,ig,rp,q3,λσ5 H5 E5 q5 g5 ao wx zj s5=>?_⟩;have kd:m=true->∀i,tm<=i->σ5[i]? = (iM t (cap.map (·.1)) σ)[i]?:=λa i b=>(s5 a i b).trans (vj a i b);have hE5:E5.length=t+cap.length+1:=by rw [<-ao.len];simp [wx,hl3]
  refine ⟨zj,_,σ5++[oZ (.ref D)],E5,_,⟨_,rfl⟩,ao,q5,λok zk H5' S5' zl qw qx=>?_⟩;have ll:E5.length<=zk.length:=by
   obtain ⟨τ6,e6⟩:=qw.pre;rw [<-ao.len,<-qx.len,e6];simp
  cases ok with
  | false=>
   have zl:iS g Fb Fe (items.drop (i+1)) (zk.take E3.length) _:=zl;obtain ⟨xl,xo⟩:=qx.cut (E:=E5) (σ:=σ5++[oZ (.ref D)]) qw.pre ao.len;have eE:E5.length=E3.length:=⋯
   rw [eE] at xl xo;have gg:Gs Bp H4 (σ2++[oZ (.ref D)]) E3 H5' (σ5++[oZ (.ref D)]) (zk.take E3.length):=(g5.trans qw.kp).trans (Kp.less xo);refine ⟨items.length-(i+1),⋯,rfl,YX,_,zl,⋯,?_,xl,(g3.trans k4).trans gg,qr.keep _ _ _ _ gg ug,zj.kp ao qw.kp,kd⟩;rw [OC]
   lia
  | true=>
   obtain ⟨τ5,hτ5⟩:=qw.pre;refine ⟨zj.kp ao qw.kp,_,S5',zk,_,⟨oZ (.ref D)::τ5,by rw [hτ5];simp⟩,qx,zl,λr E6 v H6 S6 q6 g6 uh rr6=>?_⟩;have g6:=qw.trans g6;cases r with
   | s _=>exact q6.elim
   | p u=>
    simp only at q6;have xp:E3.length-1=t+cap.length:=⋯
    rw [xp] at q6;split at q6
    ·rename_i acc xq;obtain ⟨hlen,q6⟩:=q6;obtain ⟨a6,ws,p1,p2,p3,p4⟩:=uh.own _ _ _ xq;have hS6:S6[t+cap.length]? = oZ (oZ (.ref D)):=gL g6.pre (by rw [OF ⋯];simp [wx,hl3]);rw [hS6] at p1;cases p1;obtain ⟨g7,re7⟩:=uh.put (ys:=acc++[u]) (ws:=ws++[v]) xq hS6 (p3.append ⟨v,[],rfl,rr6,rfl⟩);obtain ⟨xl,xo⟩:=re7.cut (E:=E5) (σ:=σ5++[oZ (.ref D)]) (g6.trans g7).pre ao.len;have eE:E5.length=E3.length:=⋯
     rw [eE] at xl xo;have gg:Gs Bp H4 (σ2++[oZ (.ref D)]) E3 (upd H6 D (.lst (ws++[v]))) (σ5++[oZ (.ref D)]) ((E6.set (t+cap.length) (oZ (.o false (acc++[u])))).take E3.length):=(g5.trans (g6.trans g7).kp).trans (Kp.less xo);refine ⟨ws,p2,by rw [p3.length];exact bU (OA hlen),items.length-(i+1),⋯,rfl,YX,_,q6,⋯,?_,xl,(g3.trans k4).trans gg,qr.keep _ _ _ _ gg ug,(zj.kp ao g6.kp).kp uh g7.kp,kd⟩;rw [OC,SA];have:E5.length<=E6.length:=by
      obtain ⟨τ6,e6⟩:=g6.pre;rw [<-ao.len,<-uh.len,e6];simp
     lia
    ·exact q6.elim
 ·have ei:i=items.length:=⋯
  subst ei;rw [PV] at q3;refine .inl ⟨qr.stop H2 _ dk,?_⟩;have ui:(match E3[t+cap.length]? with
   | some (oZ (.o false zs))=>FC zs (o1 (W E3 E1) λE2=>vT E2 Q' (rr zs))
   | _=>False):=q3
  split at ui
  ·rename_i zs hzs;have q4:=ui;obtain ⟨E2,e2,ui⟩:=(hC _ _ ui).ex;obtain ⟨aD,ws,p1,p2,p3,p4⟩:=YM.own _ _ _ hzs;have hSD:(σ2++[oZ (V.ref D)])[t+cap.length]? = oZ (oZ (.ref D)):=by rw [OF ⋯];simp [hl3]
   rw [hSD] at p1;cases p1
   -- what is kept of the heap around
   have om:∀b,Ow Bp (iM t (cap.map (·.1)) σ++[oZ (.ref D)]) (nM t cap E1++[oZ (.o false [])]) b->Bp b\/b=D:=λb z=>by
    obtain z | z:=gD.kp.new b z
    ·exact .inl (ip b z)
    ·obtain⟨dw,hu⟩:=reD.ow (by assumption)
     by_cases c:b=D
     ·exact .inr c
     ·rw [aT c,z] at hu;cases hu
   have kept:∀b o,H1 b=oZ o->¬Bp b->H2 b=oZ o:=λb o e n=>by
    refine g3.keep b o (by rw [aT (aV e hD)];exact e) λz=>?_;obtain z | z:=om b z
    ·exact n z
    ·exact aV e hD z
   have hk:∀b o,H1 b=oZ o->¬Ow B S1 E1 b->H2 b=oZ o:=λb o e n=>kept b o e λz=>n (ki b z);obtain ⟨v0,rv0,aA5⟩:=out zs D ws H1 H2 _ q4 hD p2 p3.length λhnl=>bW.noL (λa z=>by
    obtain⟨dw,z⟩ | z:=z
    ·by_cases c:Bp a
     ·exact YM.ow (.inl c)
     ·exact ⟨dw,kept a _ z c⟩
    ·exact ⟨ws,by rw [z];exact p2⟩) hnl p3
   obtain ⟨eL,eG⟩:=hW _ _ _ e2;have xc:∀b,Ow B S1 E1 b->cY H2 b:=λb z=>by
    by_cases c:Bp b
    ·exact YM.ow (.inl c)
    ·obtain ⟨dw,e⟩:=XJ.ow z;exact ⟨dw,kept b _ e c⟩
   -- a list that the block changed
   have bxI:∀{i j:Nat} {b:Bool} {fu ys:List T},cap[j]? = oZ (i,true)->E1[i]? = oZ (oZ (.o b fu))->E3[t+j]? = oZ (oZ (.o true ys))->dH ys=true->∃a qy,S1[i]? = oZ (oZ (.ref a))/\H2 a=oZ (.lst qy)/\bW K H2 (cY H2) ys qy:=λ{i j b fu ys} hj hE hEi hny=>by
    obtain ⟨a',qy,r1,r2,r3,r4⟩:=YM.own _ true ys hEi;refine ⟨a',qy,?_,r2,bW.noL (λ_ z=>z) hny r3⟩;obtain ho | ⟨hm,rfl⟩:=hm
    ·obtain ⟨j',k',kk,xs,h1,h2,h3⟩:=(qu a').mp (r4.mp rfl);have e:=i8 ho hj;rw [i8 ho h1] at e;cases e;exact h3
    ·have ju:j<cap.length:=(MK.mp hj).1;rw [NK ⋯,vj hm _ (Nat.le_add_right _ _)] at r1;exact dq hj r1
   have nk:∀{i:Nat} {l:Bool} {iq:List T} {a:UQ},(∀j b xs,cap[j]? = oZ (i,true)->E1[i]?≠oZ (oZ (.o b xs)))->E1[i]? = oZ (oZ (.o l iq))->S1[i]? = oZ (oZ (.ref a))->¬Bp a:=λ{i l iq a} c z ha w=>by
    obtain ⟨j',k',xi,oj,qz,uj,zm⟩:=(qu a).mp w;have:=XJ.inj i k' l xi iq oj a z uj ha zm;subst this;exact c j' l iq qz z
   have owE:∀b,Ow B S1 E2 b->Ow B S1 E1 b:=λb z=>by
    obtain z | ⟨i,l,iq,z1,z2⟩:=z
    ·exact .inl z
    obtain⟨j,b',ys,fu,_,h2,_,_,_⟩ | ⟨z,_⟩:=eG _ _ z1
    ·exact .inr ⟨_,_,_,h2,z2⟩
    ·exact .inr ⟨i,l,iq,z,z2⟩
   have kp:Kp (Ow B S1 E1) (Ow B S1 E1) H1 H2:=⟨hk,λb z=>.inl z⟩;refine aA5 (Ax XJ (XJ.step hk eL (λi u h=>?_) (λi l iq h=>?_) (λa z=>xc a (.inl z))) hk owE (λi l iq h=>?_) (λi u h=>?_) rv0 ui (lk.step g1))
   ·obtain⟨_,_,_,_,_,_,_,_,z⟩ | ⟨z,_⟩:=eG _ _ h
    ·cases z
    ·exact z
   ·obtain⟨j,b',ys,fu,h1,h2,h3,h4,z⟩ | ⟨z,nb⟩:=eG _ _ h
    ·cases z;obtain ⟨a0,qy,r1,r2,r3⟩:=bxI h1 h2 h3 h4;refine ⟨fu,h2,λa ha=>?_⟩;rw [r1] at ha;cases ha;exact ⟨qy,r2,r3.step (Kp.less xc)⟩
    ·refine ⟨iq,z,λa ha=>?_⟩;obtain ⟨a',dw,qz,uj,zm,_⟩:=XJ.own i l iq z;rw [ha] at qz;cases qz;exact ⟨dw,kept a _ uj (nk nb z ha),zm.step kp⟩
   ·obtain⟨j,b',ys,fu,h1,h2,h3,h4,z⟩ | ⟨z,nb⟩:=eG _ _ h
    ·cases z
     right
     intro a us2 ha hu;obtain ⟨a0,qy,r1,r2,r3⟩:=bxI h1 h2 h3 h4;rw [r1] at ha;cases ha;rw [r2] at hu;cases hu;exact r3
    ·left
     refine ⟨z,λa ha=>?_⟩;obtain ⟨a',dw,qz,uj,zm,_⟩:=XJ.own i l iq z;rw [ha] at qz;cases qz;rw [uj];exact kept a _ uj (nk nb z ha)
   ·obtain⟨_,_,_,_,_,_,_,_,z⟩ | ⟨z,_⟩:=eG _ _ h
    ·cases z
    ·exact z
  ·exact ui.elim
theorem xD(S:bH X N' scope t (cap.map (·.1)))(ho:jD cap=true)(fw:(cap.map (·.1)).Nodup)(hl:σ.length=X.N.length)(il:∀H,lL d σ H->lL d' (iM t (cap.map (·.1)) σ) H)(h:sM d K (y9 t cap I g Fb Fe) σ H Q):n9 t (cap.map (·.1)) (lJ K I) (Ly d' K g) (Dx d' K Fb) (sM d' K Fe) σ H Q:=
 Nt (W:=Er t cap) (FC:=λzs p=>dH zs=true/\p) (rr:=.l) (Qv:=Q) S (.inl ho) fw (λ_ _ _=>Qc ho) (λ_ _ z=>z.2) hl il (λzs D ws H1 H2 p hc hD h2 _ hn=>⟨_,⟨D,ws,rfl,hD,h2,hn hc.1⟩,id⟩) h
def bT:FB:=λE Q=>Q true E
theorem Jq(g:FG)(Fe:FE):∀xs,iS g bT Fe xs=gV g Fe xs
 |[]=>rfl
 |x::xs=>by
  funext E Q
  simp only[iS,gV,bT,if_true,Jq g Fe xs]
theorem Wr(h:n9 t cap (lJ K I) (Lz m tm d K g) (Dx d K bT) te σ H Q):Ed t cap (lJ K I) (Lz m tm d K g) te σ H Q:=by
 obtain⟨B,S0,E,Q',hS,re,hF,lk⟩:=h;refine⟨B,S0,E,Q',hS,re,hF,λJ items us E1 H1 S1 gd q g1 XJ ok qt qp D hD=>?_⟩;obtain⟨W,w0,tn⟩:=lk J items us E1 H1 S1 gd q g1 XJ ok qt qp D hD;refine⟨W,w0,λi m σ' H' z=>(tn i m σ' H' z).imp id λ⟨go,st⟩=>⟨go,λx H2 y=>?_⟩⟩;obtain⟨dt,B',τ,E',u,Q2,XH,rp,cj,l⟩:=st x H2 y;refine⟨dt,B',τ,E',u,Q2,XH,rp,cj,λσ3 H3 E3 a b c e dt3 s3=>?_⟩;obtain⟨_,B3,S3,E4,Q4,_,ig,z,k⟩:=l σ3 H3 E3 a b c e dt3 s3;exact k true E4 H3 S3 z .refl ig
theorem Bw(S:bH X N' scope t (cap.map (·.1)))(ho:jD cap=true)(fw:(cap.map (·.1)).Nodup)(hl:σ.length=X.N.length)(il:∀H,lL d σ H->lL d' (iM t (cap.map (·.1)) σ) H)(h:sM d K (Cb t cap I g Fe) σ H Q):Ed t (cap.map (·.1)) (lJ K I) (Ly d' K g) (sM d' K Fe) σ H Q:=by
 have e:y9 t cap I g bT Fe=Cb t cap I g Fe:=by unfold y9 Cb;simp only[Jq]
 rw[<-e]at h;exact Wr (xD S ho fw hl il h)
theorem QT.bd(h:QT X c (d8 K Fb)):QT X c (Dx none K Fb):=h.le λ_ _ _ z=>z.2
theorem fD(hc:X.calm=true)(S:bH X N' scope t (cap.map (·.1)))(ho:jD cap=true)(fw:(cap.map (·.1)).Nodup)(hi:QI X target iter (lJ K I))(hg:∀C s3 H3 fp,QG (bN X N' scope C s3 H3 fp) target (qH K g))(he:∀C s3 H3 fp,QE (bN X N' scope C s3 H3 fp) elt (aJ K Fe))(hs:∀x,VA iter X.env x=pure x:=by intro _;rfl):
  QE X (.ListComp elt [⟨target,iter,[],0⟩] scope pos) (aJ K (Cb t cap I g Fe)):=
 (Lp hc S hi (λC s H f=>(hg C s H f).gd) (λC s H f=>(he C s H f).ed) hs).le λσ H Q hl h=>Bw (d:=none) (d':=none) S ho fw hl (λ_ _ _ z=>by cases z) ⟨(λ_ z=>by cases z),h⟩
end
theorem Vi(hNn:X.N.Nodup)(uk:X.N[ix]?=oZ xn)(hxn:yK X.env.scope xn)(pw:X.fn xn=true\/X.env.scope.names.lookup xn=oZ .local)(xr:VL (.ListComp elt [⟨target,iter,ifs,0⟩] scope pos) (oZ (.Name xn pos')) dz.line X.env=pure true)(hc:X.calm=true)(S:bH X N' scope t cap)(hi:PI X target iter wi)(hg:∀C s3 H3 fp,PG (bN X N' scope C s3 H3 fp) target g)(hb:∀C s3 H3 fp,BX (bN X N' scope C s3 H3 fp) ifs tb)(he:∀C s3 H3 fp,PE (bN X N' scope C s3 H3 fp) elt te)(hs:∀x,VA iter X.env x=pure x:=by intro _;rfl):
  PS X (.Assign [.Name xn pos'] (.ListComp elt [⟨target,iter,ifs,0⟩] scope pos) dz) (Pu (n9 t cap wi g tb te) (jB ix)):=by
 intro pins s σ H DD I h;rw[exec_Assign_Name_used _ _ _ _ xr];refine UP (WS (UP ?_));unfold evalThenUse;refine UP ?_;obtain⟨QQ,hQQ⟩:∃QQ:oA->oB->Prop,QQ=λ_ s'=>∃σ' H',aS X pins σ' H' s'/\DD.nx σ' H':=⟨_,rfl⟩;refine cW (Q:=QQ) ?_ (λ_ s' h'=>UR (UR (by rw[hQQ]at h';exact h')));refine xC (use:=oZ (WC (.Name xn pos') X.env)) hc S hi hg hb he hs I h λs3 s6 H3 H5 fp D m I3 f3 pj gr gv au wj ba qn=>?_;have I7:aS X pins σ H5 s6:=I3.call' (ch:=fp) wj gr gv ba f3;have fC:oQ X pins H5 s3.heap.objs.size:=I3.fpOk (MQ _) au;refine wpAny_assign_Name (yB I7 hNn uk hxn (v:=.ref D) rfl (λs8 I8⟨a,sa,ha⟩=>?_) pw);have nC:s3.heap.objs.size≠a:=by
  obtain rfl|ha:=ha
  ·exact fC.2.1
  ·exactλz=>fC.2.2.2.2.1 _ _ ha z.symm
 obtain⟨mC,hnC⟩:∃m',s8.heap.Ns s3.heap.objs.size m':=⟨m,pj.at λo e=>sa.extBut _ _ nC e⟩;refine⟨mC,hnC,λh' jr=>?_⟩;rw[hQQ];refine⟨_,H5,I8.turnedL (t':=s8.toks) (ch:=[s3.heap.objs.size]) (λb u hb e=>jr.extBut _ _ (by simpa using hb) e) (λb hb=>by rw[MW.mp hb];exact fC),qn⟩
theorem D9(hNn:X.N.Nodup)(uk:X.N[ix]?=oZ xn)(hxn:yK X.env.scope xn)(pw:X.fn xn=true\/X.env.scope.names.lookup xn=oZ .local)(xr:VL (.ListComp elt [⟨target,iter,[],0⟩] scope pos) (oZ (.Name xn pos')) dz.line X.env=pure true)(hc:X.calm=true)(S:bH X N' scope t cap)(hi:PI X target iter wi)(hg:∀C s3 H3 fp,PG (bN X N' scope C s3 H3 fp) target g)(he:∀C s3 H3 fp,PE (bN X N' scope C s3 H3 fp) elt te)(hs:∀x,VA iter X.env x=pure x:=by intro _;rfl):
  PS X (.Assign [.Name xn pos'] (.ListComp elt [⟨target,iter,[],0⟩] scope pos) dz) (Pu (Ed t cap wi g te) (jB ix)):=
 λpins s σ H DD I h=>Vi (tb:=λ_ H Q=>Q true H) hNn uk hxn pw xr hc S hi hg (λ_ _ _ _ _ _ _ _ _ I z=>wpAny_tests_nil ⟨_,I,z⟩) he hs pins s σ H DD I h
theorem pP{X:Cx}{K:W.Frag}{Fe:FE}{g:FG}{I:FI}{target elt iter:oC}{scope:WJ}{pos pos' dz:Pos}{N':List Str}{cap:List (Nat×Bool)}{t i:Nat}{x:Str}(hN:X.N.Nodup)(hi:X.N[i]?=oZ x)(hx:yK X.env.scope x)(xr:VL (.ListComp elt [⟨target,iter,[],0⟩] scope pos) (oZ (.Name x pos')) dz.line X.env=pure true)(hc:X.calm=true)(S:bH X N' scope t (cap.map (·.1)))(ho:jD cap=true)(fw:(cap.map (·.1)).Nodup)(hit:QI X target iter (lJ K I))(hg:∀C s3 H3 fp,QG (bN X N' scope C s3 H3 fp) target (qH K g))(he:∀C s3 H3 fp,QE (bN X N' scope C s3 H3 fp) elt (aJ K Fe))(hs:∀x,VA iter X.env x=pure x:=by intro _;rfl)(hf:X.fn x=true\/X.env.scope.names.lookup x=oZ .local:=by first|exact .inl rfl|exact .inr rfl|assumption):
  QS X (.Assign [.Name x pos'] (.ListComp elt [⟨target,iter,[],0⟩] scope pos) dz) (gU K (G9 i (Cb t cap I g Fe))):=
 QS.le ⟨D9 hN hi hx hf xr hc S hit.h (λC s3 H3 fp=>(hg C s3 H3 fp).gd.h) (λC s3 H3 fp=>(he C s3 H3 fp).ed.h) hs⟩ λD σ H hl⟨B,E,DT,re,hF,l⟩=>Bw (d:=none) (d':=none) S ho fw hl (λ_ _ _ z=>by cases z) ⟨(λ_ z=>by cases z),B,σ,E,_,⟨[],by simp⟩,re,hF,λr E' v H' S' q g XH rr=>by
  obtain⟨u,e1,q⟩:=q.ex;rw[<-re.len]at e1 q;obtain⟨r1,ow⟩:=mR (i:=i) XH g.pre rr e1;exact l.nx _ _ _ q (g.kp.trans (Kp.less ow)) r1⟩
mutual
def iP:T->T->Bool
 |.non,.non=>true
 |.bl a,.bl b=>a==b
 |.int a,.int b=>a==b
 |.bl a,.int b=>(if a then 1 else 0)==b
 |.int a,.bl b=>a==(if b then 1 else 0)
 |.str a,.str b=>a==b
 |.tup xs,.tup ys=>sO xs ys
 |.lst xs,.lst ys=>sO xs ys
 |_,_=>false
def sO:List T->List T->Bool
 |[],[]=>true
 |x::xs,y::ys=>iP x y&&sO xs ys
 |_,_=>false
end
mutual
def dT:T->Nat
 |.tup xs=>Yj xs+1
 |.lst xs=>Yj xs+1
 |_=>0
def Yj:List T->Nat
 |[]=>0
 |x::xs=>TH (dT x) (Yj xs)
end
mutual
theorem Ca:∀x:T,iP x x=true
 |.non=>rfl
 |.bl a=>by simp[iP]
 |.int a=>by simp[iP]
 |.str a=>by simp[iP]
 |.tup xs=>by rw[iP];exact qV xs
 |.lst xs=>by rw[iP];exact qV xs
theorem qV:∀xs:List T,sO xs xs=true
 |[]=>rfl
 |x::xs=>by rw[sO,Ca x,qV xs];rfl
end
theorem jA:∀xs ys:List T,sO xs ys=((OG (min xs.length ys.length)).all (λj=>iP (xs.getD j .non) (ys.getD j .non))&&xs.length==ys.length)
 |[],[]=>rfl
 |[],_::_=>by simp[sO]
 |_::_,[]=>by simp[sO]
 |x::xs,y::ys=>by
  rw[sO,jA xs ys];simp only[MS,Nat.succ_min_succ,RW,List.all_cons,List.all_map];simp[Function.comp_def,Bool.and_assoc]
theorem uA:∀{xs:List T}{x:T},x∈xs->dT x<=Yj xs
 |y::xs,x,h=>by
  rw[Yj];obtain rfl|h:=MJ.mp h
  ·exact Nat.le_max_left _ _
  ·exact OH (uA h) (Nat.le_max_right _ _)
mutual
def Rq(K:W.Frag)(H:Hp):T->V->Prop
 |.non,v=>v = .non
 |.bl b,v=>v = .bl b
 |.int i,v=>v = .int i
 |.str x,v=>v = .str x
 |.tup xs,v=>∃a vs,v = .ref a/\nA K H a vs/\Ba K H xs vs
 |.lst xs,v=>∃a vs,v = .ref a/\jJ K H a vs/\Ba K H xs vs
def Ba(K:W.Frag)(H:Hp):List T->List V->Prop
 |[],vs=>vs=[]
 |x::xs,vs=>∃v r,vs=v::r/\Rq K H x v/\Ba K H xs r
end
section
variable{K:W.Frag}{H:Hp}{O:UQ->Prop}
mutual
theorem Rp.rq:∀{t:T}{v:V},Rp K H O t v->Rq K H t v
 |.non,_,h=>h
 |.bl _,_,h=>h
 |.int _,_,h=>h
 |.str _,_,h=>h
 |.tup xs,v,h=>by
  obtain⟨a,vs,e,h1,h2⟩:=h;exact⟨a,vs,e,h1.imp (λh=>.inl h.2) id,bW.rq h2⟩
 |.lst xs,v,h=>by
  obtain⟨a,vs,e,h1,h2⟩:=h;exact⟨a,vs,e,h1.imp And.right id,bW.rq h2⟩
theorem bW.rq:∀{xs:List T}{vs:List V},bW K H O xs vs->Ba K H xs vs
 |[],_,h=>h
 |x::xs,vs,h=>by
  obtain⟨v,r,e,h1,h2⟩:=h;exact⟨v,r,e,Rp.rq h1,bW.rq h2⟩
end
theorem Rt.rq(h:Rt K H O t v):Rq K H t v:=by
 cases t with
 |tup xs=>obtain⟨a,vs,e,h1,h2⟩:=h;exact⟨a,vs,e,h1,h2.rq⟩
 |lst xs=>obtain⟨a,vs,e,h1,h2⟩:=h;exact⟨a,vs,e,h1,h2.rq⟩
 |non=>exact h
 |bl _=>exact h
 |int _=>exact h
 |str _=>exact h
theorem Ba.length:∀{xs:List T}{vs:List V},Ba K H xs vs->vs.length=xs.length
 |[],_,h=>by cases h;rfl
 |_::_,_,⟨v,r,e,_,h2⟩=>by rw[e,MS,MS,Ba.length h2]
theorem Ba.get:∀{xs:List T}{vs:List V}{i:Nat}{x:T},Ba K H xs vs->xs[i]?=oZ x->∃v,vs[i]?=oZ v/\Rq K H x v
 |[],_,_,_,_,e=>by simp at e
 |_::_,_,0,_,⟨v,r,e,h1,_⟩,q=>by simp at q;subst q;subst e;exact⟨v,rfl,h1⟩
 |_::_,_,i+1,x,⟨v,r,e,_,h2⟩,q=>by
  obtain⟨w,q1,q2⟩:=Ba.get (i:=i) (x:=x) h2 (by simpa using q);subst e;exact⟨w,by simpa using q1,q2⟩
end
section
variable{X:Cx}{pins:List (UQ×Obj)}{σ:St}{H:Hp}{s:oB}
theorem aS.nolt(I:aS X pins σ H s)(h1:jJ X.K H a vs)(h2:nA X.K H a ws):False:=by
 obtain⟨_,_,p1,_⟩:=I.list h1;obtain⟨_,_,p2,_⟩:=I.tuple h2;exact SeqAt.ne_of_list_tuple p1.isList p2 rfl
mutual
theorem Rq.inj(I:aS X pins σ H s):∀{x y:T}{v:V},Rq X.K H x v->Rq X.K H y v->x=y
 |.non,.non,_,_,_=>rfl
 |.bl a,.bl b,_,h,k=>by cases h;cases k;rfl
 |.int a,.int b,_,h,k=>by cases h;cases k;rfl
 |.str a,.str b,_,h,k=>by cases h;cases k;rfl
 |.tup xs,.tup ys,v,⟨a,vs,e,h1,h2⟩,⟨b,ws,f,k1,k2⟩=>by
  rw[e]at f;cases f;rw[I.tuple_inj h1 k1]at h2;rw[Ba.inj I h2 k2]
 |.lst xs,.lst ys,v,⟨a,vs,e,h1,h2⟩,⟨b,ws,f,k1,k2⟩=>by
  rw[e]at f;cases f;rw[I.list_inj h1 k1]at h2;rw[Ba.inj I h2 k2]
 |.tup xs,.lst ys,v,⟨a,vs,e,h1,h2⟩,⟨b,ws,f,k1,k2⟩=>by rw[e]at f;cases f;exact(I.nolt k1 h1).elim
 |.lst xs,.tup ys,v,⟨a,vs,e,h1,h2⟩,⟨b,ws,f,k1,k2⟩=>by rw[e]at f;cases f;exact(I.nolt h1 k1).elim
 |.non,.bl _,_,h,k=>by cases h;cases k
 |.non,.int _,_,h,k=>by cases h;cases k
 |.non,.str _,_,h,k=>by cases h;cases k
 |.non,.tup _,_,h,⟨_,_,k,_⟩=>by cases h;cases k
 |.non,.lst _,_,h,⟨_,_,k,_⟩=>by cases h;cases k
 |.bl _,.non,_,h,k=>by cases h;cases k
 |.bl _,.int _,_,h,k=>by cases h;cases k
 |.bl _,.str _,_,h,k=>by cases h;cases k
 |.bl _,.tup _,_,h,⟨_,_,k,_⟩=>by cases h;cases k
 |.bl _,.lst _,_,h,⟨_,_,k,_⟩=>by cases h;cases k
 |.int _,.non,_,h,k=>by cases h;cases k
 |.int _,.bl _,_,h,k=>by cases h;cases k
 |.int _,.str _,_,h,k=>by cases h;cases k
 |.int _,.tup _,_,h,⟨_,_,k,_⟩=>by cases h;cases k
 |.int _,.lst _,_,h,⟨_,_,k,_⟩=>by cases h;cases k
 |.str _,.non,_,h,k=>by cases h;cases k
 |.str _,.bl _,_,h,k=>by cases h;cases k
 |.str _,.int _,_,h,k=>by cases h;cases k
 |.str _,.tup _,_,h,⟨_,_,k,_⟩=>by cases h;cases k
 |.str _,.lst _,_,h,⟨_,_,k,_⟩=>by cases h;cases k
 |.tup _,.non,_,⟨_,_,h,_⟩,k=>by cases h;cases k
 |.tup _,.bl _,_,⟨_,_,h,_⟩,k=>by cases h;cases k
 |.tup _,.int _,_,⟨_,_,h,_⟩,k=>by cases h;cases k
 |.tup _,.str _,_,⟨_,_,h,_⟩,k=>by cases h;cases k
 |.lst _,.non,_,⟨_,_,h,_⟩,k=>by cases h;cases k
 |.lst _,.bl _,_,⟨_,_,h,_⟩,k=>by cases h;cases k
 |.lst _,.int _,_,⟨_,_,h,_⟩,k=>by cases h;cases k
 |.lst _,.str _,_,⟨_,_,h,_⟩,k=>by cases h;cases k
theorem Ba.inj(I:aS X pins σ H s):∀{xs ys:List T}{vs:List V},Ba X.K H xs vs->Ba X.K H ys vs->xs=ys
 |[],[],_,_,_=>rfl
 |[],_::_,_,h,⟨_,_,k,_⟩=>by cases h;cases k
 |_::_,[],_,⟨_,_,h,_⟩,k=>by cases k;cases h
 |x::xs,y::ys,_,⟨v,r,e,h1,h2⟩,⟨w,r',f,k1,k2⟩=>by
  rw[e]at f;cases f;rw[Rq.inj I h1 k1,Ba.inj I h2 k2]
end
theorem Fm{A:oD}{u v:oA}{k:Bool}(h:SeqAt.RcAt A s u v k)(hk:u=v->k=true)(hf:∀b t,u≠.float b t):SeqAt.EqAt A s u v k:=λprog w E Q hq=>by
 unfold eqBool;refine VZ ?_;refine wpAny_ite_split (λxt=>?_) (λ_=>?_)
 ·rw[hk (eq_of_beq xt)]at hq;exact UP (WD (UR hq))
 ·cases u with
  |float b t=>exact absurd rfl (hf b t)
  |_=>exact UP (h prog w E _ (VJ hq))
theorem G0(h:bM x u)(k:bM y u):x=y:=h.inj k
theorem pS(A:oD)(rx:bA vs XD)(ry:bA ws js)(hx:Ba X.K H xs vs)(hy:Ba X.K H ys ws)(ih:∀(j:Nat)(x y:T)(v w:V)(u u':oA),xs[j]?=oZ x->ys[j]?=oZ y->Rq X.K H x v->Rq X.K H y w->bM v u->bM w u'->SeqAt.EqAt A s u u' (iP x y)):
  ∀j(h1:j<XD.toArray.size)(h2:j<js.toArray.size),SeqAt.EqAt A s XD.toArray[j] js.toArray[j] (iP (xs.getD j .non) (ys.getD j .non)):=λj h1 h2=>by
 have l1:=rx.length;have l2:=ry.length;have l3:=hx.length;have l4:=hy.length;have yz:j<XD.length:=by simpa using h1
 have qk:j<js.length:=by simpa using h2
 have e1:xs[j]?=oZ xs[j]:=MI (by omega);have e2:ys[j]?=oZ ys[j]:=MI (by omega);obtain⟨v,q1,q2⟩:=hx.get e1;obtain⟨w,q3,q4⟩:=hy.get e2;obtain⟨u1,z1,r1⟩:=rx.get q1;obtain⟨v1,z2,r2⟩:=ry.get q3;have y1:XD.toArray[j]=u1:=by
  rw[MI yz]at z1
  simpa using Option.some.inj z1
 have y2:js.toArray[j]=v1:=by
  rw[MI qk]at z2
  simpa using Option.some.inj z2
 rw[y1,y2];have g1:xs.getD j .non=xs[j]:=by simp[List.getD,e1]
 have g2:ys.getD j .non=ys[j]:=by simp[List.getD,e2]
 rw[g1,g2];exact ih j _ _ v w u1 v1 e1 e2 q2 q4 r1 r2
theorem kP(I:aS X pins σ H s)(hx:Rq X.K H x v)(rx:bM v u):(x = .non/\u = .none)\/(∃b,x = .bl b/\u = .bool b)\/(∃i t,x = .int i/\u = .int i t)\/(∃c t,x = .str c/\u = .str c t)\/(∃xs a XD,x = .tup xs/\u = .ref a/\s.heap.IsTuple a XD)\/∃xs a XD,x = .lst xs/\u = .ref a/\s.heap.IsList a XD:=by
 cases x with
 |non=>cases hx;cases rx;exact .inl ⟨rfl,rfl⟩
 |bl b=>cases hx;cases rx;exact .inr (.inl ⟨_,rfl,rfl⟩)
 |int i=>cases hx;obtain⟨t,rfl⟩:=rx;exact .inr (.inr (.inl ⟨_,t,rfl,rfl⟩))
 |str c=>cases hx;obtain⟨t,rfl⟩:=rx;exact .inr (.inr (.inr (.inl ⟨_,t,rfl,rfl⟩)))
 |tup xs=>
  obtain⟨a,vs,e,q,_⟩:=hx;subst e;cases rx;obtain⟨XD,_,p,_⟩:=I.tuple q;exact .inr (.inr (.inr (.inr (.inl ⟨xs,a,_,rfl,rfl,p⟩))))
 |lst xs=>
  obtain⟨a,vs,e,q,_⟩:=hx;subst e;cases rx;obtain⟨XD,_,p,_⟩:=I.list q;exact .inr (.inr (.inr (.inr (.inr ⟨xs,a,_,rfl,rfl,p.isList⟩))))
theorem vC(I:aS X pins σ H s){A:oD}(hu:A.units<VW)(nt:∀xs ys,¬(x = .tup xs/\y = .tup ys))(nl:∀xs ys,¬(x = .lst xs/\y = .lst ys))(hx:Rq X.K H x v)(hy:Rq X.K H y w)(rx:bM v u)(ry:bM w u'):SeqAt.RcAt A s u u' (iP x y)/\SeqAt.RcNeAt A s u u' (!(iP x y)):=by
 obtain⟨rfl,rfl⟩|⟨_,rfl,rfl⟩|⟨_,_,rfl,rfl⟩|⟨_,_,rfl,rfl⟩|⟨xs,_,_,rfl,rfl,p⟩|⟨xs,_,_,rfl,rfl,p⟩:=kP I hx rx
 ·obtain⟨rfl,rfl⟩|⟨_,rfl,rfl⟩|⟨_,_,rfl,rfl⟩|⟨_,_,rfl,rfl⟩|⟨ys,_,_,rfl,rfl,q⟩|⟨ys,_,_,rfl,rfl,q⟩:=kP I hy ry
  ·exact⟨SeqAt.RcAt.none_none,SeqAt.RcNeAt.none_none⟩
  ·exact⟨SeqAt.RcAt.none_bool _,SeqAt.RcNeAt.none_bool _⟩
  ·exact⟨SeqAt.RcAt.none_int _ _,SeqAt.RcNeAt.none_int _ _⟩
  ·exact⟨SeqAt.RcAt.none_str _ _,SeqAt.RcNeAt.none_str _ _⟩
  ·exact⟨SeqAt.RcAt.none_tuple q hu,SeqAt.RcNeAt.none_tuple q hu⟩
  ·exact⟨SeqAt.RcAt.none_list q hu,SeqAt.RcNeAt.none_list q hu⟩
 ·obtain⟨rfl,rfl⟩|⟨_,rfl,rfl⟩|⟨_,_,rfl,rfl⟩|⟨_,_,rfl,rfl⟩|⟨ys,_,_,rfl,rfl,q⟩|⟨ys,_,_,rfl,rfl,q⟩:=kP I hy ry
  ·exact⟨SeqAt.RcAt.bool_none _,SeqAt.RcNeAt.bool_none _⟩
  ·exact⟨SeqAt.RcAt.bool_bool _ _,SeqAt.RcNeAt.bool_bool _ _⟩
  ·exact⟨SeqAt.RcAt.bool_int _ _ _,SeqAt.RcNeAt.bool_int _ _ _⟩
  ·exact⟨SeqAt.RcAt.bool_str _ _ _,SeqAt.RcNeAt.bool_str _ _ _⟩
  ·exact⟨SeqAt.RcAt.bool_tuple _ q hu,SeqAt.RcNeAt.bool_tuple _ q hu⟩
  ·exact⟨SeqAt.RcAt.bool_list _ q hu,SeqAt.RcNeAt.bool_list _ q hu⟩
 ·obtain⟨rfl,rfl⟩|⟨_,rfl,rfl⟩|⟨_,_,rfl,rfl⟩|⟨_,_,rfl,rfl⟩|⟨ys,_,_,rfl,rfl,q⟩|⟨ys,_,_,rfl,rfl,q⟩:=kP I hy ry
  ·exact⟨SeqAt.RcAt.int_none _ _,SeqAt.RcNeAt.int_none _ _⟩
  ·exact⟨SeqAt.RcAt.int_bool _ _ _,SeqAt.RcNeAt.int_bool _ _ _⟩
  ·exact⟨SeqAt.RcAt.int_int _ _ _ _,SeqAt.RcNeAt.int_int _ _ _ _⟩
  ·exact⟨SeqAt.RcAt.int_str _ _ _ _,SeqAt.RcNeAt.int_str _ _ _ _⟩
  ·exact⟨SeqAt.RcAt.int_tuple _ _ q hu,SeqAt.RcNeAt.int_tuple _ _ q hu⟩
  ·exact⟨SeqAt.RcAt.int_list _ _ q hu,SeqAt.RcNeAt.int_list _ _ q hu⟩
 ·obtain⟨rfl,rfl⟩|⟨_,rfl,rfl⟩|⟨_,_,rfl,rfl⟩|⟨_,_,rfl,rfl⟩|⟨ys,_,_,rfl,rfl,q⟩|⟨ys,_,_,rfl,rfl,q⟩:=kP I hy ry
  ·exact⟨SeqAt.RcAt.str_none _ _,SeqAt.RcNeAt.str_none _ _⟩
  ·exact⟨SeqAt.RcAt.str_bool _ _ _,SeqAt.RcNeAt.str_bool _ _ _⟩
  ·exact⟨SeqAt.RcAt.str_int _ _ _ _,SeqAt.RcNeAt.str_int _ _ _ _⟩
  ·exact⟨SeqAt.RcAt.str_str _ _ _ _,SeqAt.RcNeAt.str_str _ _ _ _⟩
  ·exact⟨SeqAt.RcAt.str_tuple _ _ q hu,SeqAt.RcNeAt.str_tuple _ _ q hu⟩
  ·exact⟨SeqAt.RcAt.str_list _ _ q hu,SeqAt.RcNeAt.str_list _ _ q hu⟩
 ·obtain⟨rfl,rfl⟩|⟨_,rfl,rfl⟩|⟨_,_,rfl,rfl⟩|⟨_,_,rfl,rfl⟩|⟨ys,_,_,rfl,rfl,q⟩|⟨ys,_,_,rfl,rfl,q⟩:=kP I hy ry
  ·exact⟨SeqAt.RcAt.tuple_none p hu,SeqAt.RcNeAt.tuple_none p hu⟩
  ·exact⟨SeqAt.RcAt.tuple_bool _ p hu,SeqAt.RcNeAt.tuple_bool _ p hu⟩
  ·exact⟨SeqAt.RcAt.tuple_int _ _ p hu,SeqAt.RcNeAt.tuple_int _ _ p hu⟩
  ·exact⟨SeqAt.RcAt.tuple_str _ _ p hu,SeqAt.RcNeAt.tuple_str _ _ p hu⟩
  ·exact absurd ⟨rfl,rfl⟩ (nt xs ys)
  ·exact⟨SeqAt.RcAt.tuple_list p q hu,SeqAt.RcNeAt.tuple_list p q hu⟩
 ·obtain⟨rfl,rfl⟩|⟨_,rfl,rfl⟩|⟨_,_,rfl,rfl⟩|⟨_,_,rfl,rfl⟩|⟨ys,_,_,rfl,rfl,q⟩|⟨ys,_,_,rfl,rfl,q⟩:=kP I hy ry
  ·exact⟨SeqAt.RcAt.list_none p hu,SeqAt.RcNeAt.list_none p hu⟩
  ·exact⟨SeqAt.RcAt.list_bool _ p hu,SeqAt.RcNeAt.list_bool _ p hu⟩
  ·exact⟨SeqAt.RcAt.list_int _ _ p hu,SeqAt.RcNeAt.list_int _ _ p hu⟩
  ·exact⟨SeqAt.RcAt.list_str _ _ p hu,SeqAt.RcNeAt.list_str _ _ p hu⟩
  ·exact⟨SeqAt.RcAt.list_tuple p q hu,SeqAt.RcNeAt.list_tuple p q hu⟩
  ·exact absurd ⟨rfl,rfl⟩ (nl xs ys)
theorem Ud{K:W.Frag}{x:T}{v:V}{u:oA}(h:Rq K H x v)(r:bM v u):∀b t,u≠.float b t:=λb t e=>by
 subst e;cases x with
 |tup _=>obtain⟨_,_,e,_⟩:=h;subst e;cases r
 |lst _=>obtain⟨_,_,e,_⟩:=h;subst e;cases r
 |non=>cases h;cases r
 |bl _=>cases h;cases r
 |int _=>cases h;obtain⟨_,r⟩:=r;cases r
 |str _=>cases h;obtain⟨_,r⟩:=r;cases r
theorem Hv(I:aS X pins σ H s):∀(n:Nat)(A:oD)(x y:T)(v w:V)(u u':oA),dT x<=n->Rq X.K H x v->Rq X.K H y w->bM v u->bM w u'->A.units+n<VW->SeqAt.RcAt A s u u' (iP x y)/\SeqAt.EqAt A s u u' (iP x y):=by
 have fin:∀{A:oD}{x y:T}{v w:V}{u u':oA},Rq X.K H x v->Rq X.K H y w->bM v u->bM w u'->SeqAt.RcAt A s u u' (iP x y)->SeqAt.RcAt A s u u' (iP x y)/\SeqAt.EqAt A s u u' (iP x y):=λ{A x y v w u u'}hx hy rx ry h=>⟨h,Fm h (λe=>by
   subst e;rw[Rq.inj I hx (by rw[G0 rx ry];exact hy)];exact Ca y) (Ud hx rx)⟩
 intro n
 induction n with
 |zero=>
  intro A x y v w u u' hd hx hy rx ry hu;refine fin hx hy rx ry ((vC I ⋯ (λxs ys z=>?_) (λxs ys z=>?_) hx hy rx ry).1)
  ·rw[z.1]at hd;simp[dT]at hd
  ·rw[z.1]at hd;simp[dT]at hd
 |succ n ih=>
  intro A x y v w u u' hd hx hy rx ry hu;refine fin hx hy rx ry ?_
  by_cases c1:∃xs ys,x = .tup xs/\y = .tup ys
  ·obtain⟨xs,ys,rfl,rfl⟩:=c1;obtain⟨a,vs,rfl,q1,h1⟩:=hx;obtain⟨b,ws,rfl,q2,h2⟩:=hy;cases rx;cases ry;obtain⟨XD,r1,p1,_⟩:=I.tuple q1;obtain⟨js,r2,p2,_⟩:=I.tuple q2;have:=SeqAt.RcAt.tuples p1 p2 (A:=A) ⋯ (pS A.in1 r1 r2 h1 h2 λj x y v w u u' e1 e2 k1 k2 k3 k4=>(ih A.in1 x y v w u u' (by
    have:=uA (MN e1);simp only[dT]at hd;lia) k1 k2 k3 k4 (by show A.units+1+n<VW;lia)).2)
   rw[iP,jA];have l1:=r1.length;have l2:=r2.length;have l3:=h1.length;have l4:=h2.length;have s1:XD.toArray.size=xs.length:=by simp;lia
   have s2:js.toArray.size=ys.length:=by simp;lia
   rw[s1,s2]at this;exact this
  ·by_cases c2:∃xs ys,x = .lst xs/\y = .lst ys
   ·obtain⟨xs,ys,rfl,rfl⟩:=c2;obtain⟨a,vs,rfl,q1,h1⟩:=hx;obtain⟨b,ws,rfl,q2,h2⟩:=hy;cases rx;cases ry;obtain⟨XD,r1,p1,_⟩:=I.list q1;obtain⟨js,r2,p2,_⟩:=I.list q2;have l1:=r1.length;have l2:=r2.length;have l3:=h1.length;have l4:=h2.length;have s1:XD.toArray.size=xs.length:=by simp;lia
    have s2:js.toArray.size=ys.length:=by simp;lia
    rw[iP,jA]
    by_cases hl:xs.length=ys.length
    ·have:=SeqAt.RcAt.lists p1.isList p2.isList (A:=A) (by rw[s1,s2];exact hl) ⋯ (pS A.in1 r1 r2 h1 h2 λj x y v w u u' e1 e2 k1 k2 k3 k4=>(ih A.in1 x y v w u u' (by
      have:=uA (MN e1);simp only[dT]at hd;lia) k1 k2 k3 k4 (by show A.units+1+n<VW;lia)).2)
     rw[s1]at this;rw[<-hl,Nat.min_self,beq_self_eq_true,UM];exact this
    ·have:=SeqAt.RcAt.lists_lengths p1.isList p2.isList (A:=A) (by rw[s1,s2];simpa using hl) ⋯;rw[show(xs.length==ys.length)=false by simpa using hl,UG];exact this
   ·exact(vC I ⋯ (λxs ys z=>c1 ⟨xs,ys,z⟩) (λxs ys z=>c2 ⟨xs,ys,z⟩) hx hy rx ry).1
theorem F9(I:aS X pins σ H s){A:oD}(n:Nat)(hd:dT x<=n)(hx:Rq X.K H x v)(hy:Rq X.K H y w)(rx:bM v u)(ry:bM w u')(hu:A.units+n<VW):SeqAt.RcNeAt A s u u' (!(iP x y)):=by
 by_cases c1:∃xs ys,x = .tup xs/\y = .tup ys
 ·obtain⟨xs,ys,rfl,rfl⟩:=c1;obtain⟨a,vs,rfl,q1,h1⟩:=hx;obtain⟨b,ws,rfl,q2,h2⟩:=hy;cases rx;cases ry;obtain⟨XD,r1,p1,_⟩:=I.tuple q1;obtain⟨js,r2,p2,_⟩:=I.tuple q2;have:=SeqAt.RcNeAt.tuples p1 p2 (A:=A) ⋯ (pS A.in1 r1 r2 h1 h2 λj x y v w u u' e1 e2 k1 k2 k3 k4=>(Hv I (n-1) A.in1 x y v w u u' (by
   have:=uA (MN e1);simp only[dT]at hd;lia) k1 k2 k3 k4 (by show A.units+1+(n-1)<VW;simp only[dT]at hd;lia)).2)
  rw[iP,jA];have l1:=r1.length;have l2:=r2.length;have l3:=h1.length;have l4:=h2.length;have s1:XD.toArray.size=xs.length:=by simp;lia
  have s2:js.toArray.size=ys.length:=by simp;lia
  rw[s1,s2]at this;exact this
 ·by_cases c2:∃xs ys,x = .lst xs/\y = .lst ys
  ·obtain⟨xs,ys,rfl,rfl⟩:=c2;obtain⟨a,vs,rfl,q1,h1⟩:=hx;obtain⟨b,ws,rfl,q2,h2⟩:=hy;cases rx;cases ry;obtain⟨XD,r1,p1,_⟩:=I.list q1;obtain⟨js,r2,p2,_⟩:=I.list q2;have l1:=r1.length;have l2:=r2.length;have l3:=h1.length;have l4:=h2.length;have s1:XD.toArray.size=xs.length:=by simp;lia
   have s2:js.toArray.size=ys.length:=by simp;lia
   rw[iP,jA]
   by_cases hl:xs.length=ys.length
   ·have:=SeqAt.RcNeAt.lists p1.isList p2.isList (A:=A) (by rw[s1,s2];exact hl) ⋯ (pS A.in1 r1 r2 h1 h2 λj x y v w u u' e1 e2 k1 k2 k3 k4=>(Hv I (n-1) A.in1 x y v w u u' (by
     have:=uA (MN e1);simp only[dT]at hd;lia) k1 k2 k3 k4 (by show A.units+1+(n-1)<VW;simp only[dT]at hd;lia)).2)
    rw[s1]at this;rw[<-hl,Nat.min_self,beq_self_eq_true,UM];exact this
   ·have:=SeqAt.RcNeAt.lists_lengths p1.isList p2.isList (A:=A) (by rw[s1,s2];simpa using hl) ⋯;rw[show(xs.length==ys.length)=false by simpa using hl,UG];exact this
  ·exact(vC I ⋯ (λxs ys z=>c1 ⟨xs,ys,z⟩) (λxs ys z=>c2 ⟨xs,ys,z⟩) hx hy rx ry).2
end
section
variable{X:Cx}{K:W.Frag}{pos:Pos}{a b c e o:oC}{es:List oC}{Fa Fb Fo:FE}{Fr:FA}
def AQ(K:W.Frag)(ng:Bool):R2:=λx y H Q=>∃t u,Rq K H t x/\Rq K H u y/\dT t<=60/\Q (.bl (if ng then !(iP t u)else iP t u)) H
theorem Us(hr:dW k X.A):lK X (VG .Eq) (AQ X.K false):=by
 intro pins s σ H x y v u Q I rx ry h;obtain⟨t,w,h1,h2,hd,q⟩:=h;exact(Hv I 60 X.A t w x y v u hd h1 h2 rx ry (by have:=hr.units;lia)).1 X.prog X.w X.xe _ (uE I q rfl)
theorem X6(hr:dW k X.A):lK X (VG .NotEq) (AQ X.K true):=by
 intro pins s σ H x y v u Q I rx ry h;obtain⟨t,w,h1,h2,hd,q⟩:=h;exact F9 I 60 hd h1 h2 rx ry (by have:=hr.units;lia) X.prog X.w X.xe _ (uE I q rfl)
def t2(x y:Option T)(k:T->T->Prop):Prop:=match x,y with
 |some t,oZ u=>k t u
 |_,_=>False
theorem t2.ex{k:T->T->Prop}(h:t2 x y k):∃t u,x=oZ t/\y=oZ u/\k t u:=by
 unfold t2 at h;split at h
 ·exact⟨_,_,rfl,rfl,h⟩
 ·exact h.elim
def LH(Fa Fb:FE):FE:=λE Q=>Fa E λx E1=>Fb E1 λy E2=>t2 (vl E2 x) (vl E2 y) λt u=>dT t<=60/\Q (.p (.bl (iP t u))) E2
def LK(Fa Fb:FE):FE:=λE Q=>Fa E λx E1=>Fb E1 λy E2=>t2 (vl E2 x) (vl E2 y) λt u=>dT t<=60/\Q (.p (.bl (!(iP t u)))) E2
end
section
variable{X:Cx}{K:W.Frag}{pos:Pos}{a b c e o:oC}{es:List oC}{Fa Fb Fc Fo:FE}{Fr:FA}
theorem zD(ho:lK X (VG op) r)(ha:QE X a (aJ K Fa))(hb:QE X b (aJ K Fb))(hm:VE op b=false)(k:∀σ H Q,aJ K F σ H Q->Ww r (aJ K Fa) (aJ K Fb) σ H Q):QT X (.Compare a [op] [b] pos) (d8 K (wA F)):=
 (Aa ho ha hb hm).le λσ H Q z=>k _ _ _ (Yf z)
theorem DF{g:Int->Int->Bool}(ho:lK X (VG op) (Pm λi j=>.bl (g i j)))(ha:QE X a (aJ K Fa))(hb:QE X b (aJ K Fb))(hm:VE op b=false):QT X (.Compare a [op] [b] pos) (d8 K (wA (IK g Fa Fb))):=
 zD ho ha hb hm λσ H Q h=>two (Fa:=Fa) (Fb:=Fb) h λB S E x y v w H2 Q' hS re rx ry q lk=>by
  obtain⟨i,j,e1,e2,q⟩:=i2.ex q;exact⟨i,j,re.int rx e1,re.int ry e2,lk _ _ _ _ _ q .refl re rfl⟩
theorem Cd(eK:X.K=K)(hr:dW k X.A)(ha:QE X a (aJ K Fa))(hb:QE X b (aJ K Fb))(hm:VE .Eq b=false):QT X (.Compare a [.Eq] [b] pos) (d8 K (wA (LH Fa Fb))):=by
 subst eK;refine zD (Us hr) ha hb hm λσ H Q h=>two (Fa:=Fa) (Fb:=Fb) h λB S E x y v w H2 Q' hS re rx ry q lk=>?_;obtain⟨t,u,e1,e2,hd,q⟩:=t2.ex q;exact⟨t,u,(re.vl rx e1).rq,(re.vl ry e2).rq,hd,lk _ _ _ _ _ q .refl re rfl⟩
theorem sH(eK:X.K=K)(hr:dW k X.A)(ha:QE X a (aJ K Fa))(hb:QE X b (aJ K Fb))(hm:VE .NotEq b=false):QT X (.Compare a [.NotEq] [b] pos) (d8 K (wA (LK Fa Fb))):=by
 subst eK;refine zD (X6 hr) ha hb hm λσ H Q h=>two (Fa:=Fa) (Fb:=Fb) h λB S E x y v w H2 Q' hS re rx ry q lk=>?_;obtain⟨t,u,e1,e2,hd,q⟩:=t2.ex q;exact⟨t,u,(re.vl rx e1).rq,(re.vl ry e2).rq,hd,lk _ _ _ _ _ q .refl re rfl⟩
def Th:T->Bool
 |.non=>true
 |_=>false
theorem N3(h:Rq K H t v):decide (v = .non)=Th t:=by
 cases t with
 |non=>cases h;rfl
 |bl _=>cases h;rfl
 |int _=>cases h;rfl
 |str _=>cases h;rfl
 |tup _=>obtain⟨_,_,e,_⟩:=h;subst e;rfl
 |lst _=>obtain⟨_,_,e,_⟩:=h;subst e;rfl
def Yp(ng:Bool)(Fa:FE):FE:=λE Q=>Fa E λx E1=>o1 (vl E1 x) λt=>Q (.p (.bl (if ng then !(Th t)else Th t))) E1
theorem Ze(h:aJ K (Yp false Fa) σ H Q):Ww (λx y H Q=>y = .non/\Q (.bl (decide (x = .non))) H) (aJ K Fa) (tC .non) σ H Q:=
 one (Fa:=Fa) h λB S E x v H2 Q' hS re rx q lk=>by
  obtain⟨t,e1,q⟩:=o1.ex q;exact⟨rfl,by rw[N3 (re.vl rx e1).rq];exact lk _ _ _ _ _ q .refl re rfl⟩
theorem Ug(h:aJ K (Yp true Fa) σ H Q):Ww (λx y H Q=>y = .non/\Q (.bl (!decide (x = .non))) H) (aJ K Fa) (tC .non) σ H Q:=
 one (Fa:=Fa) h λB S E x v H2 Q' hS re rx q lk=>by
  obtain⟨t,e1,q⟩:=o1.ex q;exact⟨rfl,by rw[N3 (re.vl rx e1).rq];exact lk _ _ _ _ _ q .refl re rfl⟩
theorem Sn{j p2}(ha:QE X a (aJ K Fa))(hm:VE .Is (.Constant .none j p2)=false):QT X (.Compare a [.Is] [.Constant .none j p2] pos) (d8 K (wA (Yp false Fa))):=(Aa X4 ha Hs hm).le λ_ _ _ h=>Ze (Yf h)
theorem Yy{j p2}(ha:QE X a (aJ K Fa))(hm:VE .IsNot (.Constant .none j p2)=false):QT X (.Compare a [.IsNot] [.Constant .none j p2] pos) (d8 K (wA (Yp true Fa))):=(Aa B8 ha Hs hm).le λ_ _ _ h=>Ug (Yf h)
def MG:T->Bool
 |.lst _=>true
 |_=>false
def MF:T->Bool
 |.bl _=>true
 |_=>false
def i9(xs:List T)(lo hi:Option Int):List T:=(xs.drop (HT.sIx xs.length 0 lo)).take (HT.sIx xs.length xs.length hi-HT.sIx xs.length 0 lo)
theorem Rl{O:UQ->Prop}{lo hi:Option Int}(h:bW K H O xs vs):bW K H O (i9 xs lo hi) (By vs lo hi):=by
 unfold i9 By;rw[h.length];exact(h.drop _).take _
abbrev FO:=En->(Option Int->En->Prop)->Prop
def qI(K:W.Frag)(F:FO):TO:=λσ H Q=>∃B S E Q',(∃τ,S=σ++τ)/\RE K B H S E/\F E Q'/\∀b E' H' S',Q' b E'->Gr B H S E H' S' E'->RE K B H' S' E'->Q b H'
theorem QO.le{e:Option oC}{t t':TO}(h:QO X e t)(m:∀σ H Q,t' σ H Q->t σ H Q):QO X e t':=⟨λpins s σ H Q I z=>h.h pins s σ H Q I (m σ H Q z)⟩
def DY:FO:=λE Q=>Q none E
def DZ(Fa:FE):FO:=λE Q=>Fa E λx E1=>i1 (vl E1 x) λi=>Q (oZ i) E1
theorem kH:QO X none (qI K DY):=F5.le λσ H Q⟨B,S,E,Q',hS,re,hF,lk⟩=>lk _ _ _ _ hF .refl re
theorem fF(h:QE X e (aJ K Fa)):QO X (oZ e) (qI K (DZ Fa)):=(F6 h).le λσ H Q⟨B,S,E,Q',hS,re,hF,lk⟩=>⟨B,S,E,_,hS,re,hF,λr E1 v H1 S1 q g XJ rr=>by
 obtain⟨i,e1,q⟩:=i1.ex q;exact⟨i,XJ.int rr e1,lk _ _ _ _ q g XJ⟩⟩
variable{aw Gh:FO}
def IX(Fa:FE)(aw Gh:FO):FE:=λE Q=>Fa E λx E1=>aw E1 λlo E2=>Gh E2 λhi E3=>match vl E3 x with
 |some (.lst xs)=>Q (.s E3.length) (E3++[oZ (.o false (i9 xs lo hi))])
 |_=>False
theorem jZ{lo hi:Option oC}(eK:X.K=K)(he:QE X e (aJ K Fa))(hl:QO X lo (qI K aw))(hu:QO X hi (qI K Gh)):QE X (.Subscript e (.Slice lo hi none p2) pos) (aJ K (IX Fa aw Gh)):=by
 subst eK;refine(vA J5 he hl hu).le λσ H Q _⟨B,S,E,Q',⟨τ,hS⟩,re,hF,lk⟩=>⟨B,S,E,_,⟨τ,hS⟩,re,hF,λx E1 v H1 S1 q g1 XJ rx=>?_⟩;obtain⟨τ1,ZG⟩:=g1.pre;refine⟨B,S1,E1,_,⟨τ++τ1,by rw[ZG,hS,MO]⟩,XJ,q,λl E2 H2 S2 q2 g2 YE=>?_⟩;obtain⟨τ2,kg⟩:=g2.pre;refine⟨B,S2,E2,_,⟨τ++τ1++τ2,by rw[kg,ZG,hS,MO,MO,MO]⟩,YE,q2,λh E3 H3 S3 q3 g3 YM=>?_⟩;have xu:=(rx.step g2).step g3;split at q3
 ·rename_i xs e1;obtain⟨a,vs,e2,sq,rs⟩:=YM.vl xu e1;refine⟨a,vs,e2,sq,λp hp=>?_⟩;obtain⟨g,XH⟩:=YM.lst hp (Rl (lo:=l) (hi:=h) rs);exact lk _ _ _ _ _ q3 (((g1.trans g2).trans g3).trans g) XH (by rw[<-YM.len];exact jC)
 ·exact q3.elim
def ownOf(E:En):R->Option (List T)
 |.s j=>match E[j]? with
  |some (oZ (.o _ xs))=>oZ xs
  |_=>none
 |_=>none
theorem RE.ownOf{B:UQ->Prop}(re:RE K B H S E)(h:RR K B H S E r v)(e:L2.ownOf E r=oZ xs):∃j k a vs,r = .s j/\E[j]?=oZ (oZ (.o k xs))/\S[j]?=oZ (oZ (.ref a))/\v = .ref a/\H a=oZ (.lst vs)/\bW K H (Ow B S E) xs vs:=by
 cases r with
 |p _=>cases e
 |s j=>
  cases q:E[j]? with
  |none=>simp only[L2.ownOf,q]at e;cases e
  |some u=>
   cases u with
   |none=>simp only[L2.ownOf,q]at e;cases e
   |some u=>
    cases u with
    |p _=>simp only[L2.ownOf,q]at e;cases e
    |o k ys=>
     simp only[L2.ownOf,q]at e;cases e;obtain⟨a,vs,h1,h2,h3,_⟩:=re.own j k xs q;have h':S[j]?=oZ (oZ v):=h;rw[h']at h1;cases h1;exact⟨j,k,a,vs,rfl,q,h',rfl,h2,h3⟩
def l2(x y:Option (List T))(k:List T->List T->Prop):Prop:=match x,y with
 |some t,oZ u=>k t u
 |_,_=>False
theorem l2.ex{k:List T->List T->Prop}(h:l2 x y k):∃t u,x=oZ t/\y=oZ u/\k t u:=by
 unfold l2 at h;split at h
 ·exact⟨_,_,rfl,rfl,h⟩
 ·exact h.elim
def IJ(Fa Fb:FE):FE:=λE Q=>Fa E λx E1=>Fb E1 λy E2=>l2 (ownOf E2 x) (ownOf E2 y) λxs ys=>xs.length+ys.length<=9000/\Q (.s E2.length) (E2++[oZ (.o false (xs++ys))])
theorem Si(ha:QE X a (aJ K Fa))(hb:QE X b (aJ K Fb)):QE X (.BinOp a .Add b pos) (aJ K (IJ Fa Fb)):=by
 refine(Dp X3 ha hb).le λσ H Q hl h=>two (Fa:=Fa) (Fb:=Fb) h λB S E x y v w H2 Q' hS re rx ry q lk=>?_;obtain⟨xs,ys,e1,e2,hz,q⟩:=l2.ex q;obtain⟨j,k,p,vs,_,_,_,rfl,h2,h3⟩:=re.ownOf rx e1;obtain⟨j',k',p',ir,_,_,_,rfl,qk,h3'⟩:=re.ownOf ry e2;refine⟨p,p',vs,ir,rfl,rfl,h2,qk,by rw[h3.length,h3'.length];exact OA (bU hz),λr hr=>?_⟩;obtain⟨g,XH⟩:=re.lst hr (h3.append h3');exact lk _ _ _ _ _ q g XH (by rw[<-re.len];exact jC)
def Yq(Fr:FA):FE:=λE Q=>Fr E λrs E1=>match rs with
 |[x]=>o1 ((vl E1 x).bind FX) λxs=>Q (.s E1.length) (E1++[oZ (.o false xs)])
 |_=>False
theorem Ob(eK:X.K=K)(hg:Gl X "list")(hm:X.mg "list" = none)(ha:QA X (e::es) (cZ K n Fr))(hs:bJ (e::es)=true:=by rfl):QE X (.Call (.Name "list" p) (e::es) [] pos) (aJ K (Yq Fr)):=by
 subst eK;refine(nQ yS hg hm (by decide +kernel) ha ∅ ∅ hs).le λσ H Q hl h=>args (Fr:=Fr) h λB S E rs vs H2 Q' hS re rr hn q lk=>?_
 match rs,rr,q with
 |[x],⟨v,ws,e1,h1,h2⟩,q=>
  cases h2;subst e1;obtain⟨xs,e2,q⟩:=o1.ex q;obtain⟨t,e3,e2⟩:=RP.mp e2;have rt:=re.vl h1 e3;have:∃p us,v = .ref p/\(jJ X.K H2 p us\/nA X.K H2 p us)/\bW X.K H2 (Ow B S E) xs us:=by
   cases t with
   |tup ys=>cases e2;obtain⟨p,us,e,sq,rs⟩:=rt;exact⟨p,us,e,.inr sq,rs⟩
   |lst ys=>cases e2;obtain⟨p,us,e,sq,rs⟩:=rt;exact⟨p,us,e,.inl sq,rs⟩
   |_=>cases e2
  obtain⟨p,us,rfl,sq,rs⟩:=this;refine⟨p,us,rfl,sq,λr hr=>?_⟩;obtain⟨g,XH⟩:=re.lst hr rs;exact lk _ _ _ _ _ q g XH (by rw[<-re.len];exact jC)
 |[],_,q=>exact q.elim
 |_::_::_,_,q=>exact q.elim
def T4(Fr:FA):FE:=λE Q=>Fr E λrs E1=>match rs with
 |[x]=>(match vl E1 x with
  |some (.lst xs)=>Q (.p (.tup xs)) E1
  |_=>False)
 |_=>False
theorem uD(eK:X.K=K)(hg:Gl X "tuple")(hm:X.mg "tuple" = none)(ha:QA X (e::es) (cZ K n Fr))(hs:bJ (e::es)=true:=by rfl):QE X (.Call (.Name "tuple" p) (e::es) [] pos) (aJ K (T4 Fr)):=by
 subst eK;refine(nQ wB hg hm (by decide +kernel) ha ∅ ∅ hs).le λσ H Q hl h=>args (Fr:=Fr) h λB S E rs vs H2 Q' hS re rr hn q lk=>?_
 match rs,rr,q with
 |[x],⟨v,ws,e1,h1,h2⟩,q=>
  cases h2;subst e1;simp only at q;split at q
  ·rename_i xs e2;obtain⟨p,us,rfl,sq,rs⟩:=re.vl h1 e2;refine⟨p,us,rfl,.inl ⟨sq,λr hr=>?_⟩⟩;obtain⟨g,XH,rp⟩:=re.tup hr rs;exact lk _ _ _ _ _ q g XH rp
  ·exact q.elim
 |[],_,q=>exact q.elim
 |_::_::_,_,q=>exact q.elim
def lC:List T->Option (List Bool)
 |[]=>oZ []
 |.bl b::xs=>(lC xs).map (b::·)
 |_=>none
theorem Fx{O:UQ->Prop}:∀{xs:List T}{vs:List V}{bs:List Bool},bW K H O xs vs->lC xs=oZ bs->vs=bs.map V.bl
 |[],_,_,h,e=>by cases e;exact h
 |.bl b::xs,_,bs,⟨v,r,e1,h1,h2⟩,e=>by
  cases q:lC xs with
  |none=>rw[lC,q]at e;cases e
  |some cs=>
   rw[lC,q]at e;cases e;cases h1;rw[e1,Fx h2 q];rfl
 |.non::_,_,_,_,e=>by cases e
 |.int _::_,_,_,_,e=>by cases e
 |.str _::_,_,_,_,e=>by cases e
 |.tup _::_,_,_,_,e=>by cases e
 |.lst _::_,_,_,_,e=>by cases e
def IH(Fr:FA):FE:=λE Q=>Fr E λrs E1=>match rs with
 |[x]=>(match vl E1 x with
  |some (.lst xs)=>o1 (lC xs) λbs=>Q (.p (.bl (bs.all id))) E1
  |_=>False)
 |_=>False
theorem Sd(eK:X.K=K)(hc:X.calm=true)(hg:Gl X "all")(hm:X.mg "all" = none)(ha:QA X (e::es) (cZ K n Fr))(hs:bJ (e::es)=true:=by rfl):QE X (.Call (.Name "all" p) (e::es) [] pos) (aJ K (IH Fr)):=by
 subst eK;refine(eO (xB hc) hg hm boot_all ha ∅ ∅ hs).le λσ H Q hl h=>args (Fr:=Fr) h λB S E rs vs H2 Q' hS re rr hn q lk=>?_
 match rs,rr,q with
 |[x],⟨v,ws,e1,h1,h2⟩,q=>
  cases h2;subst e1;simp only at q;split at q
  ·rename_i xs e2;obtain⟨p,us,rfl,sq,rs⟩:=re.vl h1 e2;obtain⟨bs,e3,q⟩:=o1.ex q;refine⟨p,bs,rfl,by rw[<-Fx rs e3];exact sq,lk _ _ _ _ _ q .refl re rfl⟩
  ·exact q.elim
 |[],_,q=>exact q.elim
 |_::_::_,_,q=>exact q.elim
def Gj(f:List T->R->En->Option (List T))(Fo:FE)(Fr:FA):FE:=λE Q=>Fo E λo E1=>o1 (ownOf E1 o) λ_=>Fr E1 λrs E2=>match o,rs with
 |.s j,[r]=>(match E2[j]? with
  |some (oZ (.o k xs))=>o1 (f xs r E2) λys=>ys.length<=9000/\Q (.p .non) (E2.set j (oZ (.o k ys)))
  |_=>False)
 |_,_=>False
def HY(xs:List T)(r:R)(E:En):Option (List T):=match r with
 |.p t=>oZ (xs++[t])
 |_=>none
def CS(xs:List T)(r:R)(E:En):Option (List T):=(ownOf E r).map (xs++·)
theorem N1{r:V->List V->Hp->VK->Prop}(eK:X.K=K)(h:aJ K (Gj f Fo Fr) σ H Q)(hr:∀(B:UQ->Prop)(S:St)(E:En)(H2:Hp)(xs ys:List T)(rr:R)(y:V)(p:UQ)(vs:List V)(Q:VK),RE K B H2 S E->RR K B H2 S E rr y->f xs rr E=oZ ys->H2 p=oZ (.lst vs)->bW K H2 (Ow B S E) xs vs->ys.length<=9000->
   (∀ws,bW K H2 (Ow B S E) ys ws->Q .non (upd H2 p (.lst ws)))->r (.ref p) [y] H2 Q):HL X.K "list" r (aJ K Fo) (cZ K n Fr) σ H Q:=by
 subst eK;obtain⟨B,S,E,Q',⟨τ,hS⟩,re,hF,lk⟩:=h;refine⟨B,S,E,_,⟨τ,hS⟩,re,hF,λoo E1 v H1 S1 q g1 XJ rx=>?_⟩;obtain⟨τ1,ZG⟩:=g1.pre;obtain⟨fu,e0,q⟩:=o1.ex q;obtain⟨j,k,p,vs,rfl,hE,hSj,rfl,h2,h3⟩:=XJ.ownOf rx e0;refine⟨.inl ⟨rfl,vs,jJ.of h2⟩,B,S1,E1,_,⟨τ++τ1,by rw[ZG,hS,MO]⟩,XJ,q,λrs E2 us H2 S2 q2 g2 YE rr hn=>?_⟩;have iu:S2[j]?=oZ (oZ (.ref p)):=gL g2.pre hSj
 match rs,rr,q2 with
 |[r'],⟨y,ws,e1,k1,k2⟩,q2=>
  cases k2;subst e1;simp only at q2;split at q2
  ·rename_i k2 xs hE2;obtain⟨ys,e3,hz,q2⟩:=o1.ex q2;obtain⟨p',vs2,z1,z2,z3,_⟩:=YE.own j k2 xs hE2;rw[iu]at z1;cases z1;refine hr B S2 E2 H2 xs ys r' y p vs2 Q YE k1 e3 z2 z3 hz λws hw=>?_;obtain⟨g3,YM⟩:=YE.put hE2 iu hw;exact lk _ _ _ _ _ q2 ((g1.trans g2).trans g3) YM rfl
  ·exact q2.elim
 |[],_,q2=>exact q2.elim
 |_::_::_,_,q2=>exact q2.elim
theorem gZ(eK:X.K=K)(ho:QE X o (aJ K Fo))(ha:QA X [e] (cZ K n Fr))(YF:VR o "append" X.env (VF o X.env)=VF o X.env:=by rfl)(YG:(ap.endLine==pos.line)=true:=by rfl)(hs:bO e=false:=by rfl):
  QE X (.Call (.Attribute o "append" ap) [e] [] pos) (aJ K (Gj HY Fo Fr)):=
 (xY ho ha YF YG hs).le λσ H Q hl h=>N1 eK h λB S E H2 xs ys rr y p vs Q re rx e hp hv hz k=>by
  cases rr with
  |s _=>cases e
  |p t=>
   cases e;refine⟨p,vs,y,rfl,rfl,hp,?_,k _ (hv.append ⟨y,[],rfl,rx,rfl⟩)⟩;rw[hv.length];rw[MP]at hz;exact bU (by simp at hz;lia)
theorem xM(eK:X.K=K)(ho:QE X o (aJ K Fo))(ha:QA X [e] (cZ K n Fr))(YF:VR o "extend" X.env (VF o X.env)=VF o X.env:=by rfl)(YG:(ap.endLine==pos.line)=true:=by rfl)(hs:bO e=false:=by rfl):
  QE X (.Call (.Attribute o "extend" ap) [e] [] pos) (aJ K (Gj CS Fo Fr)):=
 QE.le (t:=HL X.K "list" Lu (aJ K Fo) (cZ K n Fr)) ⟨Uw PySem.F.plainAttrs_list PySem.F.slot_list_extend PySem.F.type_list_extend Om ho.h ha.h YF (by rw[dI hs];rfl) YG (dI hs) (iN rfl)⟩ λσ H Q hl h=>N1 eK h λB S E H2 xs ys rr y p vs Q re rx e hp hv hz k=>by
  unfold CS at e;cases q:ownOf E rr with
  |none=>rw[q]at e;cases e
  |some zs=>
   rw[q]at e;cases e;obtain⟨j,kk,p',ir,_,_,_,rfl,h2,h3⟩:=re.ownOf rx q;refine⟨p,p',vs,ir,rfl,rfl,hp,h2,?_,k _ (hv.append h3)⟩;rw[hv.length,h3.length];rw[MP]at hz;exact OA (bU hz)
end
abbrev iQ(h:oE)(T:UQ)(xs:Array oA):Prop:=h.get? T=oZ { cls:=.type "tuple",data:=.seq xs }
structure ZQ where
 κ:Bool
 a:UQ
 it:UQ
 items:Array oA
structure ZA(z TI TO:UQ)(ps:List ZQ):Prop where
 tz:TI≠z
 oz:TO≠z
 to:TI≠TO
 iz:∀p∈ps,p.it≠z/\p.it≠TI/\p.it≠TO
 az:∀p∈ps,p.a≠z/\p.a≠TO
 ai:∀p∈ps,∀q∈ps,p.a≠q.it
 ii:∀(i j:Nat)(p q:ZQ),ps[i]?=oZ p->ps[j]?=oZ q->p.it=q.it->i=j
section
variable{prog:UU}{w:UY}{A:oD}{E:oA->oB->Prop}{s:oB}
theorem Sm{α β:Type}{M:Model}{body:α->β->Sem (ForInStep β)}{b0:β}(xs:List α):∀(m:Nat)(W:Nat->oB->Prop)(s:oB)(Q:β->oB->Prop),m<=xs.length->
  (∀j x s,j<m->xs[j]?=oZ x->W j s->US M A (body x b0) (λr s'=>r = .yield b0/\W (j+1) s') E s)->W 0 s->(m=xs.length->∀s',W m s'->Q b0 s')->(∀y s',xs[m]?=oZ y->W m s'->US M A (body y b0) (λ_ _=>False) E s')->US M A (forIn xs b0 body) Q E s:=by
 induction xs with
 |nil=>
  intro m W s Q hl hs h0 hq hm;rw[UH];have e:m=0:=Nat.le_zero.mp hl;subst e;exact UR (hq rfl s h0)
 |cons x xs ih=>
  intro m W s Q hl hs h0 hq hm;rw[RB];cases m with
  |zero=>exact UP (cW (hm x s rfl h0) λ_ _ z=>z.elim)
  |succ m=>
   refine UP (cW (hs 0 x s ⋯ rfl h0) λr s' zz=>?_);obtain⟨e,h1⟩:=zz;subst e;exact ih m (λj=>W (j+1)) s' Q (by simpa using hl) (λj z qe hj hz hw=>hs (j+1) z qe ⋯ (by simpa using hz) hw) h1 (λe=>hq (by simp[e])) (λy qe h=>hm y qe (by simpa using h))
def ZW(s:oB)(z TI TO:UQ)(ps:List ZQ)(k j:Nat)(s':oB):Prop:=∃(h:oE)(tk:Nat),s' = { s with heap:=h,toks:=tk }/\IsZip h z TI TO .ellipsis/\
 (∃cur:Array oA,iQ h TO cur/\cur.size=ps.length/\∀(l:Nat)(q:ZQ),l<j->ps[l]?=oZ q->∃x,q.items[k]?=oZ x/\cur[l]?=oZ x)/\
 (∀(l:Nat)(q:ZQ),ps[l]?=oZ q->iZ q.κ h q.it q.a (if l<j then k+1 else k)/\tZ q.κ h q.a q.items)/\
 (∀c o,c≠z->c≠TO->(∀q∈ps,c≠q.it)->s.heap.get? c=oZ o->h.get? c=oZ o)/\h.objs.size=s.heap.objs.size
theorem tZ.at(x:tZ κ h a XD)(e:∀o,h.get? a=oZ o->h'.get? a=oZ o):tZ κ h' a XD:=by
 cases κ
 ·exact Heap.IsList.at x e
 ·exact Heap.IsTuple.at x e
theorem jU{ps:List ZQ}{l:Nat}(h:ps[l]?=oZ q):q∈ps:=MN h
theorem HA{z TI TO:UQ}{ps:List ZQ}{k j:Nat}{q:ZQ}(hA:A.handled=none)(ap:ZA z TI TO ps)(hl:ps.length<=9000)(hq:ps[j]?=oZ q)(hk:k<q.items.size){s':oB}(W:ZW s z TI TO ps k j s'){Q:Option oA->oB->Prop}
  (g:∀x s2,(∃(h:oE)(tk:Nat),s2 = { s with heap:=h,toks:=tk }/\q.items[k]?=oZ x/\IsZip h z TI TO .ellipsis/\
    (∃cur:Array oA,iQ h TO cur/\cur.size=ps.length/\∀(l:Nat)(q:ZQ),l<j->ps[l]?=oZ q->∃x,q.items[k]?=oZ x/\cur[l]?=oZ x)/\
    (∀(l:Nat)(q:ZQ),ps[l]?=oZ q->iZ q.κ h q.it q.a (if l<j+1 then k+1 else k)/\tZ q.κ h q.a q.items)/\
    (∀c o,c≠z->c≠TO->(∀q∈ps,c≠q.it)->s.heap.get? c=oZ o->h.get? c=oZ o)/\h.objs.size=s.heap.objs.size)->Q (oZ x) s2) :
  US (UW prog w) A (Builtin.SmallTypes.nextOf (.ref q.it) >>= λx=>pure (oZ x)) Q E s':=by
 obtain⟨h,tk,rfl,hz,⟨cur,c1,c2,c3⟩,hi,kp,rd⟩:=W;have kn:=jU hq;have D:=Rv (prog:=prog) (w:=w) q.κ hA q.it q.a (ap.ai q kn q kn) q.items;obtain⟨i1,i2⟩:=hi j q hq;rw[oW (Nat.lt_irrefl j)]at i1;refine UP (D.item k _ _ _ hk ⟨i1,i2⟩ λx hb tb px gb sb=>UR (g x _ ⟨hb,tb,rfl,px,?_,⟨cur,?_,c2,c3⟩,λl p hp=>?_,λc o n1 n2 n3 e=>?_,?_⟩))
 ·exact sb.extBut _ _ (Ne.symm (ap.iz q kn).1) hz
 ·exact sb.extBut _ _ (Ne.symm (ap.iz q kn).2.2) c1
 ·by_cases e:l=j
  ·subst e;rw[hq]at hp;cases hp;rw[oV (Nat.lt_succ_self _)];exact gb
  ·obtain⟨a1,a2⟩:=hi l p hp;have ne:p.it≠q.it:=λz=>e (ap.ii l j p q hp hq z);have el:(if l<j+1 then k+1 else k)=(if l<j then k+1 else k):=by
    by_cases c:l<j
    ·rw[oV c,oV ⋯]
    ·rw[oW c,oW ⋯]
   rw[el];exact⟨a1.at λo x=>sb.extBut _ _ ne x,a2.at λo x=>sb.extBut _ _ (ap.ai p (jU hp) q kn) x⟩
 ·exact sb.extBut _ _ (n3 q kn) (kp c o n1 n2 n3 e)
 ·rw[sb.1];exact rd
theorem Mx{z TI TO:UQ}{ps:List ZQ}{k m:Nat}{old:Array oA}{Q:Fin->oB->Prop}(hA:A.handled=none)(ap:ZA z TI TO ps)(YY:ps≠[])(hl:ps.length<=9000)
  (gz:IsZip s.heap z TI TO .none) (gI:iQ s.heap TI (ps.map λp=>NO p.it).toArray) (gO:iQ s.heap TO old) (ho:old.size=ps.length)
  (gi:∀p∈ps,iZ p.κ s.heap p.it p.a k/\tZ p.κ s.heap p.a p.items) (jv:m<=ps.length) (gk:∀(j:Nat)(q:ZQ),j<m->ps[j]?=oZ q->k<q.items.size) (hpk:∀p,ps[m]?=oZ p->p.items.size=k)
  (gq:m=ps.length->∀(xs:List oA)h' tk,xs.length=ps.length->(∀(l:Nat)(q:ZQ),ps[l]?=oZ q->∃x,q.items[k]?=oZ x/\xs[l]?=oZ x)->IsZip h' z TI TO (WX s.heap.objs.size)->(∃cur:Array oA,iQ h' TO cur/\cur.size=ps.length)->
   (∀p∈ps,iZ p.κ h' p.it p.a (k+1))->iQ h' s.heap.objs.size xs.toArray->h'.objs.size=s.heap.objs.size+1->
   (∀c o,c≠z->c≠TO->(∀q∈ps,c≠q.it)->s.heap.get? c=oZ o->h'.get? c=oZ o)->Q (.done (.ret (.ref s.heap.objs.size))) { s with heap:=h',toks:=tk })
  (ge:m<ps.length->∀h' tk e,(∀c o,c≠z->c≠TO->(∀q∈ps,c≠q.it)->s.heap.get? c=oZ o->h'.get? c=oZ o)->(∃o,h'.get? e=oZ o/\o.cls = .type "StopIteration")->E (.ref e) { s with heap:=h',toks:=tk }) :
  US (UW prog w) A (Builtin.«zip.__next__» ⟨[.ref z],[]⟩) Q E s:=by
 show US _ _ (field (.ref z) 2 >>= _) _ _ _;refine UP (VN gz rfl (x:=.bool false) rfl ?_);show US _ _ (field (.ref z) 3 >>= _) _ _ _;refine UP (VN gz rfl (x:=.ref TI) rfl (UP (WE gI rfl ?_)));have hem:((ps.map λp=>NO p.it).toArray).isEmpty=false:=by
  cases ps with
  |nil=>exact absurd rfl YY
  |cons p r=>simp
 simp only[hem,OD,if_false];refine UP ?_;unfold Builtin.SmallTypes.ownedTupleIsFree;refine UP (VN gz rfl (x:=.none) rfl (UR ?_));simp only[if_true];refine UP (WD (UP (VN gz rfl (x:=.ref TO) rfl (UP (WM gz (by simp) λha za sa=>?_)))));have za':IsZip ha z TI TO .ellipsis:=za;refine UP ?_;have W0:ZW s z TI TO ps k 0 { s with heap:=ha }:=by
  refine⟨ha,s.toks,rfl,za',⟨old,sa.extBut _ _ ap.oz gO,ho,λl q h=>absurd h (TV _)⟩,λl q hq=>?_,λc o n1 n2 n3 e=>sa.extBut _ _ n1 e,sa.1⟩;obtain⟨g1,g2⟩:=gi q (jU hq);rw[oW (TV _)];exact⟨g1.at λo e=>sa.extBut _ _ (ap.iz q (jU hq)).1 e,g2.at λo e=>sa.extBut _ _ (ap.az q (jU hq)).1 e⟩
 have atj:∀{j:Nat}{x:oA×Nat},(List.zipIdx (ps.map λp=>NO p.it).toArray.toList)[j]?=oZ x->∃q,ps[j]?=oZ q/\x=(NO q.it,j):=λ{j x}hx=>by
  rw[SD]at hx;simp only[MT,Option.map_map]at hx;cases q:ps[j]? with
  |none=>simp[q]at hx
  |some p=>simp[q]at hx;exact⟨p,rfl,hx.symm⟩
 have ll:(List.zipIdx (ps.map λp=>NO p.it).toArray.toList).length=ps.length:=by simp
 refine Sm _ m (ZW s z TI TO ps k) _ _ (by rw[ll];exact jv) (λj x s' hjm hx hW=>?_) W0 (λem s' hW=>?_) (λy s' hy hW=>?_)
 ·obtain⟨q,hq,rfl⟩:=atj hx;have hj:j<ps.length:=(MK.mp hq).1;refine UP (wpAny_onRaise ?_);show US _ _ (Builtin.SmallTypes.nextOf (.ref q.it) >>= _) _ _ _;refine HA hA ap hl hq (gk j q hjm hq) hW λx s2 zZ=>?_;obtain⟨h,tk,es,px,hz,⟨cur,c1,c2,c3⟩,hi,kp,rd⟩:=zZ;subst es;have xv:h.get? TO=oZ { cls:=.type "tuple",data:=.seq cur }:=c1;refine UP (WE xv rfl (UP (wpAny_updateSeq xv rfl ?_ (by rw[c2];exact OA (bU hl)) (by simp;rw[c2];exact Nat.le_succ_of_le (OA (bU hl))))));refine UP (wpAny_letGo (UR ⟨rfl,?_⟩));have su:PN TO h (h.update TO (RA (·.setIfInBounds j x))):=Heap.SameBut.update ..;have gu:iQ (h.update TO (RA (·.setIfInBounds j x))) TO (cur.setIfInBounds j x):=by
   show(h.update TO (RA (·.setIfInBounds j x))).get? TO=_;rw[QD _ xv rfl];simp[RA]
  refine⟨_,tk,rfl,su.extBut _ _ (Ne.symm ap.oz) hz,⟨_,gu,by simp[c2],λl p ou hp=>?_⟩,λl p hp=>?_,λc o n1 n2 n3 e=>su.extBut _ _ n2 (kp c o n1 n2 n3 e),by rw[su.1];exact rd⟩
  ·by_cases e:l=j
   ·subst e;rw[hq]at hp;cases hp;exact⟨x,px,by rw[Array.getElem?_setIfInBounds_self_of_lt (by rw[c2];exact hj)]⟩
   ·obtain⟨y,y1,y2⟩:=c3 l p ⋯ hp;exact⟨y,y1,by rw[Array.getElem?_setIfInBounds_ne (λz=>e z.symm)];exact y2⟩
  ·obtain⟨a1,a2⟩:=hi l p hp;exact⟨a1.at λo e=>su.extBut _ _ (ap.iz p (jU hp)).2.2 e,a2.at λo e=>su.extBut _ _ (ap.az p (jU hp)).2 e⟩
 ·rw[ll]at em;obtain⟨he,tk,rfl,hz,⟨cur,c1,c2,c3⟩,hi,kp,rd⟩:=hW;have xv:he.get? TO=oZ { cls:=.type "tuple",data:=.seq cur }:=c1;refine UP (WE xv rfl (UP (wpAny_newTuple ?_ (by simp;rw[c2];exact OA (bU hl)))));have zlt:z<he.objs.size:=MX hz;show US _ _ (Builtin.SmallTypes.ownedTupleHandOut (.ref z) (.ref he.objs.size) >>= _) _ _ _;refine UP ?_;unfold Builtin.SmallTypes.ownedTupleHandOut;have zf:IsZip (he.push { cls:=.type "tuple",data:=.seq cur.toList.toArray }) z TI TO .ellipsis:=MM _ hz;refine UP (WM zf (by simp) λhg zg sg=>?_);have zg':IsZip hg z TI TO (WX he.objs.size):=zg;refine WM zg' (by simp) λhh zh sh=>?_;have zh':IsZip hh z TI TO (WX he.objs.size):=zh;have up:∀c o,c≠z->he.get? c=oZ o->hh.get? c=oZ o:=λc o q e=>sh.extBut _ _ q (sg.extBut _ _ q (MM _ e));have gTh:iQ hh he.objs.size cur.toList.toArray:=sh.extBut _ _ (Nat.ne_of_gt zlt) (sg.extBut _ _ (Nat.ne_of_gt zlt) (NA _ rfl));have szz:hh.objs.size=he.objs.size+1:=by rw[sh.1,sg.1,QK]
  rw[rd]at zh' gTh szz;refine UR ?_;show Q (.done (.ret (.ref he.objs.size))) _;rw[rd];refine gq em cur.toList hh tk (by simp[c2]) (λl q hq=>?_) zh' ⟨cur,up _ _ ap.oz c1,c2⟩ (λp hp=>?_) gTh szz λc o n1 n2 n3 e=>up c o n1 (kp c o n1 n2 n3 e)
  ·obtain⟨x,x1,x2⟩:=c3 l q (by rw[em];exact(MK.mp hq).1) hq;exact⟨x,x1,by simpa using x2⟩
  ·obtain⟨l,ou⟩:=OW hp;obtain⟨a1,_⟩:=hi l p ou;rw[em,oV (MK.mp ou).1]at a1;exact a1.at λo e=>up _ _ (ap.iz p hp).1 e
 ·obtain⟨h,tk,rfl,hz,_,hi,kp,rd⟩:=hW;obtain⟨p,hm,rfl⟩:=atj hy;have um:=jU hm;have hpk:=hpk p hm;have D:=Rv (prog:=prog) (w:=w) p.κ hA p.it p.a (ap.ai p um p um) p.items;obtain⟨i1,i2⟩:=hi m p hm;rw[oW (Nat.lt_irrefl m)]at i1;refine UP (wpAny_onRaise ?_);show US _ _ (Builtin.SmallTypes.nextOf (.ref p.it) >>= _) _ _ _;refine UP (D.done _ _ _ (by rw[hpk];exact⟨i1,i2⟩) λhb e sb he=>?_);obtain⟨oe,q1,q2⟩:=he;have sb':Heap.ExtBut p.it h hb:=sb;have zb:IsZip hb z TI TO .ellipsis:=sb' _ _ (Ne.symm (ap.iz p um).1) hz;have hez:e≠z:=λx=>by subst x;rw[zb]at q1;cases q1;simp at q2
  exact WM zb (by simp) λhc _ sc=>ge (MK.mp hm).1 hc tk e (λc o c1 c2 c3 x=>sc.extBut _ _ c1 (sb' _ _ (c3 p um) (kp c o c1 c2 c3 x))) ⟨oe,sc.extBut _ _ hez q1,q2⟩
end
def Bb(κ:Bool)(K:W.Frag)(H:Hp)(a:UQ)(xs:List V):Prop:=match κ with
 |true=>nA K H a xs
 |false=>jJ K H a xs
theorem aS.sqK(I:aS X pins σ H s)(h:Bb κ X.K H a xs):∃XD:List oA,bA xs XD/\tZ κ s.heap a XD.toArray:=by
 cases κ
 ·obtain⟨XD,r,p,_⟩:=I.list h;exact⟨XD,r,p.isList⟩
 ·obtain⟨XD,r,p,_⟩:=I.tuple h;exact⟨XD,r,p⟩
theorem aS.sqK_inj(I:aS X pins σ H s)(h:Bb κ X.K H a xs)(h':Bb κ X.K H a ys):xs=ys:=by
 cases κ
 ·exact I.list_inj h h'
 ·exact I.tuple_inj h h'
theorem aS.notfp(I:aS X pins σ H s)(h:Bb κ X.K H a xs)(f:oQ X pins H b):a≠b:=by
 have kk:∀{o:Obj},X.K.lookup a=oZ o->a≠b:=λ{o}hk z=>by
  have hb:X.base.get? a=oZ o:=I.mod.kin a o hk;subst z;obtain z|z:=f.2.2.2.1
  ·exact I.ok.noex a o hb z
  ·exact absurd (NC (NC (MX hb) I.ok.bsz) z) (Nat.lt_irrefl _)
 have hh:∀{u:HO},Rd H a u->a≠b:=λ{u}r z=>by
  subst z;have:=f.1;obtain r|⟨o,r⟩:=r
  ·rw[this]at r;cases r
  ·rw[this]at r;cases r
 cases κ
 ·obtain h|⟨o,XD,n,hk,_⟩:=h
  ·exact hh h
  ·exact kk hk
 ·obtain h|⟨o,XD,n,hk,_⟩:=h
  ·exact hh h
  ·exact kk hk
theorem IF(I:aS X pins σ H s):∀(ps:List (Bool×UQ))(XD:List UQ),XD.length=ps.length->(∀p∈ps,∃xs,Bb p.1 X.K H p.2 xs)->
  ∃qs:List ZQ,qs.map (λq=>(q.κ,q.a))=ps/\qs.map (·.it)=XD/\∀q∈qs,tZ q.κ s.heap q.a q.items/\∃xs,Bb q.κ X.K H q.a xs/\bA xs q.items.toList
 |[],[],_,_=>⟨[],rfl,rfl,λq h=>absurd h (by simp)⟩
 |[],_::_,e,_=>by simp at e
 |_::_,[],e,_=>by simp at e
 |p::ps,it::XD,e,h=>by
  obtain⟨qs,h1,h2,h3⟩:=IF I ps XD (by simpa using e) λq hq=>h q (by simp[hq]);obtain⟨xs,hx⟩:=h p (by simp);obtain⟨vs,r,sk⟩:=I.sqK hx;refine⟨⟨p.1,p.2,it,vs.toArray⟩::qs,by simp[h1],by simp[h2],λq hq=>?_⟩;obtain rfl|hq:=MJ.mp hq
  ·exact⟨sk,xs,hx,by simpa using r⟩
  ·exact h3 q hq
def HQ(K:W.Frag)(ps:List (Bool×UQ)):It:=
  ⟨λi H=>∀p∈ps,∃xs x,Bb p.1 K H p.2 xs/\xs[i]?=oZ x,
   λi H v H'=>∃(q:UQ)(ys:List V),v = .ref q/\H q=none/\H'=upd H q (.tup ys)/\ys.length=ps.length/\∀(j:Nat)(p:Bool×UQ)(y:V),ps[j]?=oZ p->ys[j]?=oZ y->∀xs,Bb p.1 K H p.2 xs->xs[i]?=oZ y,
   λi H=>(∀p∈ps,∃xs,Bb p.1 K H p.2 xs)/\∃(m:Nat)(p:Bool×UQ),ps[m]?=oZ p/\(∃xs,Bb p.1 K H p.2 xs/\xs.length=i)/\∀(j:Nat)(q:Bool×UQ),j<m->ps[j]?=oZ q->∃xs x,Bb q.1 K H q.2 xs/\xs[i]?=oZ x⟩
def ZT(z TI TO:UQ)(ps:List (Bool×UQ))(XD:List UQ)(i:Nat)(h:oE):Prop:=IsZip h z TI TO .none/\iQ h TI (XD.map NO).toArray/\(∃old:Array oA,iQ h TO old/\old.size=ps.length)/\
 ∀(j:Nat)(p:Bool×UQ)(it:UQ),ps[j]?=oZ p->XD[j]?=oZ it->iZ p.1 h it p.2 i
theorem Py{P:UU}{w:UY}{K:W.Frag}{elts:List oC}{x1}{ZS:Pos}(z TI TO:UQ)(ps:List (Bool×UQ))(XD:List UQ)(hl:XD.length=ps.length)(YY:ps≠[])(hz:ps.length<=9000)(nd:(z::TI::TO::XD).Nodup):
  Bk P w K (.Tuple elts x1 ZS) (HQ K ps) (z::TI::TO::XD) z (ZT z TI TO ps XD):=by
 simp only[QC,MJ,not_or]at nd;obtain⟨⟨n1,n2,n3⟩,⟨n4,n5⟩,n6,n7⟩:=nd;have apart:∀{X:Cx}{pins:List (UQ×Obj)}{σ:St}{H:Hp}{s:oB}{qs:List ZQ},aS X pins σ H s->(∀c∈z::TI::TO::XD,oQ X pins H c)->qs.map (·.it)=XD->(∀q∈qs,∃xs,Bb q.κ X.K H q.a xs)->ZA z TI TO qs:=by
  intro X pins σ H s qs I hf e1 hq;have mi:∀q∈qs,q.it∈XD:=λq hq=>by rw[<-e1];exact SM hq
  refine⟨λe=>n1 e.symm,λe=>n2 e.symm,n4,λp hp=>⟨λe=>n3 (e ▸ mi p hp),λe=>n5 (e ▸ mi p hp),λe=>n6 (e ▸ mi p hp)⟩,λp hp=>?_,λp hp q iw=>?_,λi j p q hi hj e=>?_⟩
  ·obtain⟨xs,hx⟩:=hq p hp;exact⟨I.notfp hx (hf z (by simp)),I.notfp hx (hf TO (by simp))⟩
  ·obtain⟨xs,hx⟩:=hq p hp;exact I.notfp hx (hf q.it (by simp[mi q iw]))
  ·have ij:XD[i]?=oZ p.it:=by rw[<-e1,MT,hi];rfl
   have hj':XD[j]?=oZ q.it:=by rw[<-e1,MT,hj];rfl
   exact(SY (MK.mp ij).1 n7).mp (by rw[ij,hj',e])
 refine⟨by simp,λi h st c hc=>?_,λi h h' st k=>?_,?_,?_,λ_ _ _ _ _ st h=>wpAny_pyIter_zip st.1 h⟩
 ·obtain⟨s1,s2,⟨old,s3,_⟩,s4⟩:=st;simp only[MJ]at hc;obtain rfl|rfl|rfl|hc:=hc
  ·exact⟨_,s1,λv z=>by cases z⟩
  ·exact⟨_,s2,λv z=>by cases z⟩
  ·exact⟨_,s3,λv z=>by cases z⟩
  ·obtain⟨j,hj⟩:=OW hc;have ju:j<ps.length:=by rw[<-hl];exact(MK.mp hj).1
   exact(s4 j _ c (MI ju) hj).obj
 ·obtain⟨s1,s2,⟨old,s3,s3'⟩,s4⟩:=st;exact⟨k z (by simp) _ s1,k TI (by simp) _ s2,⟨old,k TO (by simp) _ s3,s3'⟩,λj p it hp hit=>(s4 j p it hp hit).at λo e=>k it (by simp[MN hit]) o e⟩
 ·intro X hP hw hK hc i pins s σ H E I hf st hg;subst hP hw hK;obtain⟨s1,s2,⟨old,s3,s3'⟩,s4⟩:=st;obtain⟨qs,e1,e2,h3⟩:=IF I ps XD hl λp hp=>let⟨xs,_,h,_⟩:=hg p hp;⟨xs,h⟩;have uo:qs.length=ps.length:=by rw[<-e1,ML]
  have ap:=apart I hf e2 λq hq=>let⟨_,xs,h,_⟩:=h3 q hq;⟨xs,h⟩;have hA:X.A.in1.handled=none:=I.ok.hd hc;have xw:s.TypeIs (.ref z) "zip":=⟨_,s1,rfl⟩;have jc:∀{j:Nat}{q:ZQ},qs[j]?=oZ q->ps[j]?=oZ (q.κ,q.a)/\XD[j]?=oZ q.it:=λ{j q}h=>⟨by rw[<-e1,MT,h];rfl,by rw[<-e2,MT,h];rfl⟩;have gi:∀q∈qs,iZ q.κ s.heap q.it q.a i/\tZ q.κ s.heap q.a q.items:=λq hq=>by
   obtain⟨j,hj⟩:=OW hq;exact⟨s4 j _ _ (jc hj).1 (jc hj).2,(h3 q hq).1⟩
  have gk:∀q∈qs,i<q.items.size:=λq hq=>by
   obtain⟨j,hj⟩:=OW hq;obtain⟨xs,x,q1,q2⟩:=hg _ (MN (jc hj).1);obtain⟨_,ys,r1,r2⟩:=h3 q hq;rw[I.sqK_inj q1 r1]at q2;have:=(MK.mp q2).1;have:=r2.length;simp at this
   lia
  have gI:iQ s.heap TI (qs.map λp=>NO p.it).toArray:=by
   have:(qs.map λp=>NO p.it)=XD.map NO:=by rw[<-e2,MY];rfl
   rw[this];exact s2
  unfold pyNext;refine UP (XA (wpAny_callSpecial?_slot (name:=PZ "__next__") xw F.slot_zip_next (VI F.slot_zip_next xw F.entry_zip_next
   (Mx hA ap (λz=>by rw[z]at uo;exact YY (PR (by simpa using uo.symm))) ⋯ s1 gI s3 ⋯ gi (MQ _) (λ_ q _ h=>gk q (jU h)) (λp h=>by simp at h) (λ_ vs h' tk lv pv zz zo g1 zt sz kp=>⟨_,rfl,UR ?_⟩) (λh=>absurd h (Nat.lt_irrefl _))) (F.args_zip_next_1 _))))
  refine⟨_,rfl,wpAny_letOwnedTupleGo_zip zz λh2 z2 sb=>?_⟩;have hzn:z≠s.heap.objs.size:=NQ (MX s1);have kk:∀c o,c∉z::TI::TO::XD->s.heap.get? c=oZ o->h2.get? c=oZ o:=λc o hc q=>by
   simp only[MJ,not_or]at hc;refine sb.extBut c o hc.1 (kp c o hc.1 hc.2.2.1 (λq' iw e=>hc.2.2.2 ?_) q);rw[e,<-e2];exact SM iw
  -- the items,as they are vT
  obtain⟨ys,hys,ry⟩:∃ys:List V,(ys.length=ps.length/\∀(j:Nat)(p:Bool×UQ)(y:V),ps[j]?=oZ p->ys[j]?=oZ y->∀xs,Bb p.1 X.K H p.2 xs->xs[i]?=oZ y)/\bA ys vs:=by
   have key:∀(n:Nat)(rs:List ZQ)(us:List oA),rs.length=n->us.length=n->(∀q∈rs,∃xs,Bb q.κ X.K H q.a xs/\bA xs q.items.toList)->(∀(l:Nat)(q:ZQ),rs[l]?=oZ q->∃x,q.items[i]?=oZ x/\us[l]?=oZ x)->
     ∃ys:List V,ys.length=n/\bA ys us/\∀(j:Nat)(q:ZQ)(y:V),rs[j]?=oZ q->ys[j]?=oZ y->∀xs,Bb q.κ X.K H q.a xs->xs[i]?=oZ y:=by
    intro n
    induction n with
    |zero=>
     intro rs us h1 h2 _ _;refine⟨[],rfl,?_,λj q y hq=>?_⟩
     ·rw[PR h2];exact .nil
     ·rw[PR h1]at hq;simp at hq
    |succ n ih=>
     intro rs us h1 h2 h4 h5
     match rs,us,h1,h2 with
     |q::rs,u::us,h1,h2=>
      obtain⟨ys,l1,l2,l3⟩:=ih rs us (by simpa using h1) (by simpa using h2) (λq' iw=>h4 q' (by simp[iw])) (λl q' iw=>by have:=h5 (l+1) q' (by simpa using iw);simpa using this);obtain⟨xs,a1,a2⟩:=h4 q (by simp);obtain⟨x,b1,b2⟩:=h5 0 q rfl;simp at b2;subst b2;have qo:q.items.toList[i]?=oZ u:=by simpa using b1
      have hi:i<xs.length:=by rw[a2.length];exact(MK.mp qo).1
      obtain⟨u',c1,c2⟩:=a2.get (MI hi);rw[qo]at c1;cases c1;refine⟨xs[i]::ys,by simp[l1],.cons c2 l2,λj q' y hq hy zs hz'=>?_⟩;cases j with
      |zero=>
       simp at hq hy;subst hq;subst hy;rw[I.sqK_inj hz' a1];exact MI hi
      |succ j=>exact l3 j q' y (by simpa using hq) (by simpa using hy) zs hz'
   obtain⟨ys,l1,l2,l3⟩:=key qs.length qs vs rfl lv (λq hq=>(h3 q hq).2) pv;refine⟨ys,⟨⋯,λj p y hp hy xs hx=>?_⟩,l2⟩;have ju:j<qs.length:=by rw[uo];exact(MK.mp hp).1
   have hq:=MI ju;have:=(jc hq).1;rw[hp]at this;cases this;exact l3 j _ y hq hy xs hx
  have new:dD X.prog X.w (upd H s.heap.objs.size (.tup ys)) h2 s.heap.objs.size (.tup ys):=
   ⟨by rw[hys.1];exact OA (bU hz),vs,ry,⟨_,sb.extBut _ _ (Ne.symm hzn) zt,rfl,_,rfl⟩⟩
  have up:∀{c:UQ}{o:Obj},c≠z->h'.get? c=oZ o->h2.get? c=oZ o:=λhc q=>sb.extBut _ _ hc q;refine⟨.ref s.heap.objs.size,upd H s.heap.objs.size (.tup ys),I.turnedLaid (t':=tk) (ch:=z::TI::TO::XD) kk hf (MQ _) new,rfl,
   ⟨_,ys,rfl,I.hok.fresh (MQ _),rfl,hys.1,hys.2⟩,⟨z2,up (λe=>n1 e.symm) (kp _ _ (λe=>n1 e.symm) n4 (λq hq=>λe=>(ap.iz q hq).2.1 e.symm) s2),?_,λj p it hp hit=>?_⟩,λc hc=>?_⟩
  ·obtain⟨cur,u1,u2⟩:=zo;exact⟨cur,up ap.oz u1,⋯⟩
  ·have ju:j<qs.length:=by rw[uo];exact(MK.mp hp).1
   have hq:=MI ju;have q1:=(jc hq).1;have q2:=(jc hq).2;rw[hp]at q1;cases q1;rw[hit]at q2;cases q2;exact(g1 _ (PC ju)).at λo e=>up (ap.iz _ (PC ju)).1 e
  ·have YX:c<s.heap.objs.size:=by
    simp only[MJ]at hc;obtain rfl|rfl|rfl|hc:=hc
    ·exact MX s1
    ·exact MX s2
    ·exact MX s3
    ·obtain⟨j,hj⟩:=OW hc;have ju:j<ps.length:=by rw[<-hl];exact(MK.mp hj).1
     obtain⟨o,e,_⟩:=(s4 j _ c (MI ju) hj).obj;exact MX e
   rw[aT (NQ YX)];exact(hf c hc).1
 ·intro X hP hw hK hc i pins s σ H E I hf st hg;subst hP hw hK;obtain⟨du,m,pm,hm,⟨xm,hxm,hlm⟩,hb⟩:=hg;obtain⟨s1,s2,⟨old,s3,s3'⟩,s4⟩:=st;obtain⟨qs,e1,e2,h3⟩:=IF I ps XD hl du;have uo:qs.length=ps.length:=by rw[<-e1,ML]
  have ap:=apart I hf e2 λq hq=>let⟨_,xs,h,_⟩:=h3 q hq;⟨xs,h⟩;have hA:X.A.in1.handled=none:=I.ok.hd hc;have xw:s.TypeIs (.ref z) "zip":=⟨_,s1,rfl⟩;have jc:∀{j:Nat}{q:ZQ},qs[j]?=oZ q->ps[j]?=oZ (q.κ,q.a)/\XD[j]?=oZ q.it:=λ{j q}h=>⟨by rw[<-e1,MT,h];rfl,by rw[<-e2,MT,h];rfl⟩;have gi:∀q∈qs,iZ q.κ s.heap q.it q.a i/\tZ q.κ s.heap q.a q.items:=λq hq=>by
   obtain⟨j,hj⟩:=OW hq;exact⟨s4 j _ _ (jc hj).1 (jc hj).2,(h3 q hq).1⟩
  have gI:iQ s.heap TI (qs.map λp=>NO p.it).toArray:=by
   have:(qs.map λp=>NO p.it)=XD.map NO:=by rw[<-e2,MY];rfl
   rw[this];exact s2
  have jv:m<qs.length:=by rw[uo];exact(MK.mp hm).1
  have kn:=MI jv;have um:qs[m].items.size=i:=by
   have q1:=(jc kn).1;rw[hm]at q1;cases q1;obtain⟨_,ys,r1,r2⟩:=h3 _ (PC jv);rw[I.sqK_inj hxm r1]at hlm;have:=r2.length;simp at this
   lia
  have gk:∀(j:Nat)(q:ZQ),j<m->qs[j]?=oZ q->i<q.items.size:=λj q hj hq=>by
   obtain⟨xs,x,q1,q2⟩:=hb j _ hj (jc hq).1;obtain⟨_,ys,r1,r2⟩:=h3 q (jU hq);rw[I.sqK_inj q1 r1]at q2;have:=(MK.mp q2).1;have:=r2.length;simp at this
   lia
  unfold pyNext;refine UP (XA (wpAny_callSpecial?_slot (name:=PZ "__next__") xw F.slot_zip_next (VI F.slot_zip_next xw F.entry_zip_next
   (Mx hA ap (λz=>by rw[z]at jv;cases jv) ⋯ s1 gI s3 ⋯ gi (OA jv) gk (λp h=>by rw[kn]at h;cases h;exact um) (λe=>absurd e (NQ jv)) λ_ h' tk e kp he=>?_) (F.args_zip_next_1 _))))
  obtain⟨o,ho,hco⟩:=he;refine UP (wpAny_isInstance (T:="StopIteration") (b:=true) ⟨o,ho,hco⟩ isSubtype_stop (UR ⟨rfl,?_⟩));refine I.turnedL (t':=tk) (ch:=z::TI::TO::XD) (λc o hc q=>?_) hf;simp only[MJ,not_or]at hc;refine kp c o hc.1 hc.2.2.1 (λq' iw e=>hc.2.2.2 ?_) q;rw[e,<-e2];exact SM iw
def gQ:List T->List T->List T
 |x::xs,y::ys=>.tup [x,y]::gQ xs ys
 |_,_=>[]
theorem rZ:∀xs ys:List T,(gQ xs ys).length=min xs.length ys.length
 |[],_=>by simp[gQ]
 |_::_,[]=>by simp[gQ]
 |_::xs,_::ys=>by simp[gQ,rZ xs ys]
theorem Eu:∀{xs ys:List T}{i:Nat}{t:T},(gQ xs ys)[i]?=oZ t->∃x y,xs[i]?=oZ x/\ys[i]?=oZ y/\t = .tup [x,y]
 |[],_,_,_,h=>by simp[gQ]at h
 |_::_,[],_,_,h=>by simp[gQ]at h
 |x::_,y::_,0,_,h=>by simp[gQ]at h;exact⟨x,y,rfl,rfl,h.symm⟩
 |_::xs,_::ys,i+1,t,h=>by
  obtain⟨x,y,h1,h2,h3⟩:=Eu (xs:=xs) (ys:=ys) (i:=i) (t:=t) (by simpa[gQ]using h);exact⟨x,y,by simpa using h1,by simpa using h2,h3⟩
def BA(κ:Bool)(xs:List T):T:=match κ with
 |true=>.tup xs
 |false=>.lst xs
theorem yA{K:W.Frag}{H:Hp}{O:UQ->Prop}{κ:Bool}{xs:List T}{a:UQ}(h:Rp K H O (BA κ xs) (.ref a)):∃vs,Bb κ K H a vs/\bW K H O xs vs:=by
 cases κ
 ·obtain⟨a',vs,e,h1,h2⟩:=Rp.sqL h;cases e;exact⟨vs,h1,h2⟩
 ·obtain⟨a',vs,e,h1,h2⟩:=Rp.sqT h;cases e;exact⟨vs,h1,h2⟩
theorem Ko{K:W.Frag}{κ:Bool}{a b:UQ}{xs ys:List T}:Fs K (HQ K [(κ,a),(κ,b)]) (gQ xs ys) (λH O=>Rp K H O (BA κ xs) (.ref a)/\Rp K H O (BA κ ys) (.ref b)):=by
 refine⟨λH H' O O' k h=>⟨Rp.step k h.1,Rp.step k h.2⟩,λi H O h hi=>?_,λi H O x H' t h e hO y=>?_,λH O h=>?_⟩
 ·obtain⟨vs,s1,r1⟩:=yA h.1;obtain⟨ws,s2,r2⟩:=yA h.2;rw[rZ]at hi;intro p hp;simp only[MJ,PU,or_false]at hp;obtain rfl|rfl:=hp
  ·exact⟨vs,vs[i]'(by rw[r1.length];lia),s1,MI _⟩
  ·exact⟨ws,ws[i]'(by rw[r2.length];lia),s2,MI _⟩
 ·obtain⟨vs,s1,r1⟩:=yA h.1;obtain⟨ws,s2,r2⟩:=yA h.2;obtain⟨q,us,e1,hq,e2,lu,hu⟩:=y;subst e1;subst e2;obtain⟨t1,t2,g1,g2,rfl⟩:=Eu e;obtain⟨v1,a1,b1⟩:=r1.get g1;obtain⟨v2,a2,b2⟩:=r2.get g2
  match us,lu with
  |[u1,u2],_=>
   have z1:=hu 0 _ u1 rfl rfl vs s1;have z2:=hu 1 _ u2 rfl rfl ws s2;rw[a1]at z1;cases z1;rw[a2]at z2;cases z2;have k:Kp O O H (upd H q (.tup [v1,v2])):=Kp.upd hq;exact⟨k,λb o z=>by rw[aT (aV z hq)];exact z,q,_,rfl,.inl ⟨λz=>hO q z hq,bY⟩,v1,_,rfl,b1.step k,v2,_,rfl,b2.step k,rfl⟩
 ·obtain⟨vs,s1,r1⟩:=yA h.1;obtain⟨ws,s2,r2⟩:=yA h.2;have l1:=r1.length;have l2:=r2.length;refine⟨λp hp=>?_,?_⟩
  ·simp only[MJ,PU,or_false]at hp;obtain rfl|rfl:=hp
   ·exact⟨vs,s1⟩
   ·exact⟨ws,s2⟩
  ·rw[rZ]
   by_cases c:xs.length<=ys.length
   ·exact⟨0,_,rfl,⟨vs,s1,⋯⟩,λj q hj=>absurd hj (TV _)⟩
   ·refine⟨1,_,rfl,⟨ws,s2,⋯⟩,λj q hj hq=>?_⟩;obtain rfl:j=0:=⋯
    cases hq;exact⟨vs,vs[min xs.length ys.length]'⋯,s1,MI _⟩
section
variable{X:Cx}{K:W.Frag}{pos:Pos}{Fr:FA}
def LW(K:W.Frag)(ta:TA):TI:=λσ H R=>ta σ H λvs H1=>∃κ a b xs ys,vs=[.ref a,.ref b]/\Bb κ K H1 a xs/\Bb κ K H1 b ys/\R (HQ K [(κ,a),(κ,b)]) H1
theorem EV{x1}(hg:Gl X "zip")(hm:X.mg "zip" = none)(ha:QA X [l,r] ta)(hs:bO l=false:=by rfl)(gj:bO r=false:=by rfl):
  QI X (.Tuple elts x1 ZS) (.Call (.Name "zip" p) [l,r] [] pos) (LW X.K ta):=⟨by
 intro pins s σ H R I h;refine Call_ (rG I hg hm boot_zip (PyProof.Rows.callWith_type1 (cW (ha.h pos pins s σ H _ I h) λus s1⟨vs,H1,I1,r1,q1⟩=>?_) (dI hs) (iN (by simp only[bJ,gj];rfl))));obtain⟨κ,a,b,xs,ys,rfl,ga,gb,q⟩:=q1;obtain⟨u,v,rfl,ru,rv⟩:=bA.two r1;cases ru;cases rv;obtain⟨ia,ra,qa⟩:=I1.sqK ga;obtain⟨ib,rb,qb⟩:=I1.sqK gb;have fin:∀h',IsZip h' (s1.heap.objs.size+4) (s1.heap.objs.size+2) (s1.heap.objs.size+3) .none->IsPair h' (s1.heap.objs.size+2) (.ref s1.heap.objs.size) (.ref (s1.heap.objs.size+1))->IsPair h' (s1.heap.objs.size+3) .none .none->
   iZ κ h' s1.heap.objs.size a 0->iZ κ h' (s1.heap.objs.size+1) b 0->(∀c o,s1.heap.get? c=oZ o->h'.get? c=oZ o)->
   US (UW X.prog X.w) X.A (pyIter (.ref (s1.heap.objs.size+4))) (HV X pins σ (.Tuple elts x1 ZS) R) X.xe { s1 with heap:=h' }:=λh' z1 z2 z3 z4 z5 kp=>by
  refine wpAny_pyIter_zip z1 ?_;refine⟨s1.heap.objs.size+4,_,_,_,H1,rfl,I1.kept (t':=s1.toks) kp,Py _ (s1.heap.objs.size+2) (s1.heap.objs.size+3) [(κ,a),(κ,b)] [s1.heap.objs.size,s1.heap.objs.size+1] rfl (by simp) (by simp) (LX _),⟨z1,z2,⟨_,z3,rfl⟩,λj pq it hp hit=>?_⟩,λc hc=>?_,q⟩
  ·match j,hp,hit with
   |0,hp,hit=>cases hp;cases hit;exact z4
   |1,hp,hit=>cases hp;cases hit;exact z5
  ·have hle:s1.heap.objs.size<=c:=LO hc;exact I1.fpOk hle (I1.hok.fresh hle)
 cases κ
 ·exact call_zip_2 qa qb λh' z1 z2 z3 z4 z5 _ kp=>fin h' z1 z2 z3 z4 z5 kp
 ·exact Np qa qb λh' z1 z2 z3 z4 z5 kp=>fin h' z1 z2 z3 z4 z5 kp⟩
def DP(Fr:FA):FI:=λE Q=>Fr E λrs E1=>match rs with
 |[x,y]=>(match vl E1 x,vl E1 y with
  |some (.lst xs),oZ (.lst ys)=>Q (gQ xs ys) (qJ E1 x++qJ E1 y) E1
  |some (.tup xs),oZ (.tup ys)=>Q (gQ xs ys) (qJ E1 x++qJ E1 y) E1
  |_,_=>False)
 |_=>False
theorem Kc{x1}(eK:X.K=K)(hg:Gl X "zip")(hm:X.mg "zip" = none)(ha:QA X [l,r] (cZ K n Fr))(hs:bO l=false:=by rfl)(gj:bO r=false:=by rfl):
  QI X (.Tuple elts x1 ZS) (.Call (.Name "zip" p) [l,r] [] pos) (lJ K (DP Fr)):=by
 subst eK;refine(EV hg hm ha hs gj).le λσ H R hn⟨B,S,E,Q',hS,re,hF,lk⟩=>⟨B,S,E,_,hS,re,hF,λrs E1 vs H1 S1 q g XJ rr hn=>?_⟩
 match rs,rr,q with
 |[x,y],⟨v,ws,e1,h1,u,kh,e2,h2,h3⟩,q=>
  cases h3;subst e2;subst e1;have own:∀j∈qJ E1 x++qJ E1 y,∃k xs,E1[j]?=oZ (oZ (U.o k xs)):=λj hj=>by
   obtain h|h:=NB.mp hj
   ·exact tP j h
   ·exact tP j h
  simp only at q;split at q
  ·rename_i xs ys e1 e2;obtain⟨a,vs,e3,sq1,r1⟩:=XJ.vl h1 e1;obtain⟨b,us,e4,rf,r2⟩:=XJ.vl h2 e2;refine⟨false,a,b,vs,us,by rw[e3,e4],sq1,rf,lk _ _ _ _ _ _ _ q g XJ Ko own λO k1 k2=>?_⟩;rw[<-e3,<-e4];exact⟨nG XJ h1 e1 O k1 λj hj=>k2 j (by simp[hj]),nG XJ h2 e2 O k1 λj hj=>k2 j (by simp[hj])⟩
  ·rename_i xs ys e1 e2;obtain⟨a,vs,e3,sq1,r1⟩:=XJ.vl h1 e1;obtain⟨b,us,e4,rf,r2⟩:=XJ.vl h2 e2;refine⟨true,a,b,vs,us,by rw[e3,e4],sq1,rf,lk _ _ _ _ _ _ _ q g XJ Ko own λO k1 k2=>?_⟩;rw[<-e3,<-e4];exact⟨nG XJ h1 e1 O k1 λj hj=>k2 j (by simp[hj]),nG XJ h2 e2 O k1 λj hj=>k2 j (by simp[hj])⟩
  ·exact q.elim
 |[],_,q=>exact q.elim
 |[_],_,q=>exact q.elim
 |_::_::_::_,_,q=>exact q.elim
end
end L2
namespace My
open PySem L2 PyProof.Rows
abbrev oG:List Str:=["one","other"]
abbrev oH:List Str:=["_law_one","_law_other"]
abbrev oI:List Str:=["_law_box_here","_law_wide"]
theorem Cf(x y:Nat):NX y (x%y)=NX x y:=by
 rw[SE x y,Nat.gcd_rec y x,SE]
def sQ(n d:Int):Int:=(if 0<d then n else -n)/((NX n.natAbs d.natAbs:Nat):Int)
def m6(n d:Int):Int:=(if 0<d then d else -d)/((NX n.natAbs d.natAbs:Nat):Int)
theorem Ck{n d:Int}(hd:0<d)(hg:g=NX n.natAbs d.natAbs):(n/(g:Int)).natAbs<=n.natAbs/\1<=d/(g:Int)/\d/(g:Int)<=d/\NX (n/(g:Int)).natAbs (d/(g:Int)).natAbs=1:=by
 have g0:0<g:=by rw[hg];exact QR _ ⋯
 have dn:(g:Int)∣n:=by rw[hg];exact OB.mpr (PF _ _)
 have dd:(g:Int)∣d:=by rw[hg];exact OB.mpr (PJ _ _)
 have en:(n/(g:Int)).natAbs=n.natAbs/g:=by rw[Int.natAbs_ediv_of_dvd dn];simp
 have ed:(d/(g:Int)).natAbs=d.natAbs/g:=by rw[Int.natAbs_ediv_of_dvd dd];simp
 refine⟨by rw[en];exact Nat.div_le_self _ _,?_,?_,?_⟩
 ·obtain⟨k,hk⟩:=dd;have hg':(0:Int)<g:=⋯
  rw[hk,OU _ ⋯];obtain h|h:=Int.lt_or_le 0 k
  ·lia
  ·have:(g:Int)*k<=0:=RT ⋯ h
   lia
 ·exact Int.ediv_le_self _ ⋯
 ·rw[en,ed,Nat.gcd_div (by rw[hg];exact PF _ _) (by rw[hg];exact PJ _ _),<-hg,Nat.div_self g0]
theorem mN{n d:Int}(hd:d≠0):(sQ n d).natAbs<=n.natAbs/\1<=m6 n d/\m6 n d<=d.natAbs/\NX (sQ n d).natAbs (m6 n d).natAbs=1:=by
 unfold sQ m6
 by_cases h:0<d
 ·rw[oV h,oV h];have:=Ck (n:=n) (d:=d) h rfl;refine⟨this.1,this.2.1,?_,this.2.2.2⟩;have:=this.2.2.1
  lia
 ·rw[oW h,oW h];have h':0 < -d:=⋯
  have:=Ck (n:=-n) (d:=-d) h' rfl;simp only[QL]at this;refine⟨this.1,this.2.1,?_,this.2.2.2⟩;have:=this.2.2.1
  lia
abbrev Fr:=Int×Int
structure dJ(p:Fr):Prop where
 d:1<=p.2
 g:NX p.1.natAbs p.2.natAbs=1
def low(n d:Int):Fr:=(sQ n d,m6 n d)
def eM(p q:Fr):Fr:=low (p.1*q.2+q.1*p.2) (p.2*q.2)
def dO(p q:Fr):Fr:=low (p.1*q.2-q.1*p.2) (p.2*q.2)
def eV(p q:Fr):Fr:=low (p.1*q.1) (p.2*q.2)
def uH(p q:Fr):Fr:=low (p.1*q.2) (p.2*q.1)
def zB(p:Fr):Fr:=(-p.1,p.2)
def val(p:Fr):Rat:=(p.1:Rat)/(p.2:Rat)
theorem kK{n d:Int}(hd:d≠0):dJ (low n d):=⟨(mN hd).2.1,(mN hd).2.2.2⟩
theorem Ol{n d:Int}(hd:d≠0):sQ n d*d=n*m6 n d:=by
 have dn:((NX n.natAbs d.natAbs:Nat):Int)∣n:=OB.mpr (PF _ _);have dd:((NX n.natAbs d.natAbs:Nat):Int)∣d:=OB.mpr (PJ _ _);have g0:((NX n.natAbs d.natAbs:Nat):Int)≠0:=by
  have:=QR n.natAbs (show 0<d.natAbs by lia)
  lia
 unfold sQ m6;generalize((NX n.natAbs d.natAbs:Nat):Int)=g at dn dd g0;obtain⟨k,hk⟩:=dn;obtain⟨m,hm⟩:=dd
 by_cases h:0<d
 ·rw[oV h,oV h,hk,hm,OU _ g0,OU _ g0];grind
 ·rw[oW h,oW h,hk,hm,<-Int.mul_neg,<-Int.mul_neg,OU _ g0,OU _ g0];grind
theorem mT{n d:Int}(hd:d≠0):val (low n d)=(n:Rat)/(d:Rat):=by
 have h:=Ol (n:=n) hd;have h1:=(mN (n:=n) hd).2.1;have a1:((m6 n d:Int):Rat)≠0:=by
  have:m6 n d≠0:=⋯
  exact_mod_cast this
 have a2:(d:Rat)≠0:=by exact_mod_cast hd
 have h':((sQ n d:Int):Rat)*(d:Rat)=(n:Rat)*((m6 n d:Int):Rat):=by exact_mod_cast h
 show((sQ n d:Int):Rat)/((m6 n d:Int):Rat)=(n:Rat)/(d:Rat);grind
theorem dJ.ne(h:dJ p):p.2≠0:=by have:=h.d;lia
theorem dJ.neR(h:dJ p):(p.2:Rat)≠0:=by have:=h.ne;exact_mod_cast this
theorem fN(hp:dJ p)(hq:dJ q):p.2*q.2≠0:=QF hp.ne hq.ne
theorem gP(hp:dJ p)(hq:dJ q):val (eM p q)=val p+val q:=by
 have h1:=hp.neR;have h2:=hq.neR;unfold eM;rw[mT (fN hp hq)];unfold val
 push_cast
 grind
theorem dU(hp:dJ p)(hq:dJ q):val (dO p q)=val p-val q:=by
 have h1:=hp.neR;have h2:=hq.neR;unfold dO;rw[mT (fN hp hq)];unfold val
 push_cast
 grind
theorem dS(hp:dJ p)(hq:dJ q):val (eV p q)=val p*val q:=by
 have h1:=hp.neR;have h2:=hq.neR;unfold eV;rw[mT (fN hp hq)];unfold val
 push_cast
 grind
theorem K4(hp:dJ p):val (zB p) = - val p:=by
 have h1:=hp.neR;show((-p.1:Int):Rat)/(p.2:Rat) = - ((p.1:Rat)/(p.2:Rat))
 push_cast
 grind
theorem iF(hp:dJ p)(hq:dJ q):dJ (eM p q):=kK (fN hp hq)
theorem cS(hp:dJ p)(hq:dJ q):dJ (dO p q):=kK (fN hp hq)
theorem bX(hp:dJ p)(hq:dJ q):dJ (eV p q):=kK (fN hp hq)
theorem Zn(hp:dJ p):dJ (zB p):=⟨hp.d,by show NX (-p.1).natAbs p.2.natAbs=1;rw[QL];exact hp.g⟩
theorem dQ(n:Int):dJ (n,1):=⟨by show(1:Int)<=1;decide,by simp⟩
theorem eR(hp:dJ p)(hq:dJ q)(h:val p=val q):p=q:=by
 have h1:=hp.neR;have h2:=hq.neR;have e:p.1*q.2=q.1*p.2:=by
  unfold val at h;have h':(p.1:Rat)*q.2=q.1*p.2:=by grind
  exact_mod_cast h'
 have en:p.1.natAbs*q.2.natAbs=q.1.natAbs*p.2.natAbs:=by rw[<-OK,<-OK,e]
 have d1:p.2.natAbs∣q.2.natAbs:=by
  have:p.2.natAbs∣p.1.natAbs*q.2.natAbs:=by rw[en];exact TJ _ _
  exact Nat.Coprime.dvd_of_dvd_mul_left (show RX p.2.natAbs p.1.natAbs by unfold RX;rw[SE];exact hp.g) this
 have d2:q.2.natAbs∣p.2.natAbs:=by
  have:q.2.natAbs∣q.1.natAbs*p.2.natAbs:=by rw[<-en];exact TJ _ _
  exact Nat.Coprime.dvd_of_dvd_mul_left (show RX q.2.natAbs q.1.natAbs by unfold RX;rw[SE];exact hq.g) this
 have ed:p.2.natAbs=q.2.natAbs:=Nat.dvd_antisymm d1 d2;have ed':p.2=q.2:=by have:=hp.d;have:=hq.d;lia
 have e2:p.1=q.1:=by
  rw[ed']at e;exact Int.eq_of_mul_eq_mul_right hq.ne e
 exact Prod.ext e2 ed'
theorem pY(h:x<2^e)(he:e<=8000):x<2^8000:=NC h (OX ∅ he)
theorem bC{x y:Int}(hx:x.natAbs<2^e)(hy:y.natAbs<2^f):(x*y).natAbs<2^(e+f):=by
 rw[OK,SQ];exact Nat.mul_lt_mul'' hx hy
theorem sX{x y:Int}(hx:x.natAbs<2^e)(hy:y.natAbs<2^e):(x+y).natAbs<2^(e+1):=by
 have:=Int.natAbs_add_le x y;rw[Nat.pow_succ]
 lia
theorem jO{x y:Int}(hx:x.natAbs<2^e)(hy:y.natAbs<2^e):(x-y).natAbs<2^(e+1):=by
 rw[Int.sub_eq_add_neg];exact sX hx (by rw[QL];exact hy)
theorem Ep(hp:dJ p)(hq:dJ q)(h:q.1≠0):val (uH p q)=val p/val q:=by
 have h1:=hp.neR;have h2:=hq.neR;have h3:(q.1:Rat)≠0:=by exact_mod_cast h
 unfold uH;rw[mT (QF hp.ne h)];unfold val
 push_cast
 grind
theorem Cr(hp:dJ p)(h:q.1≠0):dJ (uH p q):=kK (QF hp.ne h)
def sz(p:Fr):Nat:=TH (TK p.1.natAbs) (TK p.2.natAbs)+1
theorem eZ(p:Fr):p.1.natAbs<2^sz p:=NC Nat.lt_log2_self (OX ∅ (Nat.succ_le_succ (Nat.le_max_left _ _)))
theorem bV(p:Fr):p.2.natAbs<2^sz p:=NC Nat.lt_log2_self (OX ∅ (Nat.succ_le_succ (Nat.le_max_right _ _)))
theorem Tt(h:n<2^e)(he:1<=e):TK n+1<=e:=by
 by_cases c:n=0
 ·subst c;have:TK 0=0:=by simp
  lia
 ·exact(UC c).mpr h
theorem mJ(h1:p.1.natAbs<2^e)(h2:p.2.natAbs<2^e)(he:1<=e):sz p<=e:=by
 have a:=Tt h1 he;have b:=Tt h2 he;unfold sz;have:TH (TK p.1.natAbs) (TK p.2.natAbs)<=e-1:=SF.mpr ⟨⋯,⋯⟩
 lia
theorem Wo(p:Fr):1<=sz p:=by unfold sz;lia
theorem rX{n d:Int}(hd:d≠0)(h1:n.natAbs<2^e)(h2:d.natAbs<2^e)(he:1<=e):sz (low n d)<=e:=by
 have lf:=mN (n:=n) hd;refine mJ (NH lf.1 h1) ?_ he;show(m6 n d).natAbs<2^e
 lia
theorem Wn(hp:dJ p)(hq:dJ q):sz (eM p q)<=sz p+sz q+1:=
 rX (fN hp hq) (sX (bC (eZ p) (bV q)) (by rw[Nat.add_comm];exact bC (eZ q) (bV p))) (NC (bC (bV p) (bV q)) (OX ∅ ⋯)) ⋯
theorem Av(hp:dJ p)(hq:dJ q):sz (dO p q)<=sz p+sz q+1:=
 rX (fN hp hq) (jO (bC (eZ p) (bV q)) (by rw[Nat.add_comm];exact bC (eZ q) (bV p))) (NC (bC (bV p) (bV q)) (OX ∅ ⋯)) ⋯
theorem k6(hp:dJ p)(hq:dJ q):sz (eV p q)<=sz p+sz q:=
 rX (fN hp hq) (bC (eZ p) (eZ q)) (bC (bV p) (bV q)) (by have:=Wo p;lia)
theorem Mg(hp:dJ p)(h:q.1≠0):sz (uH p q)<=sz p+sz q:=
 rX (QF hp.ne h) (bC (eZ p) (bV q)) (bC (bV p) (eZ q)) (by have:=Wo p;lia)
theorem mM(W:Nat->En->Prop)(h0:W 0 E)(hs:∀i x rest E,items[i]?=oZ x->W i E->(∀E',W (i+1) E'->fW g F D rest E')->fW g F D (x::rest) E)(hd:∀E,W items.length E->D.nx E):fW g F D items E:=by
 have key:∀n i E,items.length-i=n->i<=items.length->W i E->fW g F D (items.drop i) E:=by
  intro n
  induction n with
  |zero=>
   intro i E e hi h;obtain rfl:i=items.length:=⋯
   rw[PV];exact hd E h
  |succ n ih=>
   intro i E e hi h;have YX:i<items.length:=⋯
   rw[PB YX];exact hs i _ _ E (MI YX) h λE' h'=>ih (i+1) E' ⋯ ⋯ h'
 exact key _ 0 E rfl (OR _) h0
theorem Nr{Q:En->Prop}(W:Nat->En->Prop)(h0:W 0 E)(hs:∀i x rest E,items[i]?=oZ x->W i E->(∀E',W (i+1) E'->gV g Fe rest E' Q)->gV g Fe (x::rest) E Q)(hd:∀E,W items.length E->Q E):gV g Fe items E Q:=by
 have key:∀n i E,items.length-i=n->i<=items.length->W i E->gV g Fe (items.drop i) E Q:=by
  intro n
  induction n with
  |zero=>
   intro i E e hi h;obtain rfl:i=items.length:=⋯
   rw[PV];exact hd E h
  |succ n ih=>
   intro i E e hi h;have YX:i<items.length:=⋯
   rw[PB YX];exact hs i _ _ E (MI YX) h λE' h'=>ih (i+1) E' ⋯ ⋯ h'
 exact key _ 0 E rfl (OR _) h0
def fr(p:Fr):T:=.tup [.int p.1,.int p.2]
def vc(x y:Fr):T:=.tup [fr x,fr y]
theorem pL(p q:Fr):iP (fr p) (fr q)=decide (p=q):=by
 rw[RJ];simp[fr,L2.iP,L2.sO,Prod.ext_iff]
theorem CQ(x y x' y':Fr):iP (vc x y) (vc x' y')=decide (x=x'/\y=y'):=by
 rw[RJ];simp[vc,L2.iP,L2.sO,pL]
def Iw(i j:Int):Prop:=Iy i j\/Xw i j
theorem aO:lK X (VS .Mult) (rI Iw λi j=>.int (i*j)):=by
 intro pins s σ H x y v u Q I rx ry h;obtain⟨i,j,e1,e2,hc,q⟩:=h;obtain hc|hc:=hc
 ·exact A9 pins s σ H x y v u Q I rx ry ⟨i,j,e1,e2,hc,q⟩
 ·exact X5 pins s σ H x y v u Q I rx ry ⟨i,j,e1,e2,hc,q⟩
theorem eN{i j:Int}(h1:i.natAbs<2^e)(h2:j.natAbs<2^e)(he:e<=8000):Iw i j:=.inl ⟨pY h1 he,pY h2 he⟩
theorem wF{i j:Int}(h1:i.natAbs<2^60):Iw i j:=.inr (.inl ⋯)
theorem wG{i j:Int}(h1:j.natAbs<2^60):Iw i j:=.inr (.inr ⋯)
structure Txt(mg:Str->Option oA):Prop where
 n_isinstance:mg "isinstance" = none
 n_abs:mg "abs" = none
 n_divmod:mg "divmod" = none
 n_min:mg "min" = none
 n_max:mg "max" = none
 n_all:mg "all" = none
 n_len:mg "len" = none
 n_int:mg "int" = none
 n_bool:mg "bool" = none
 n_tuple:mg "tuple" = none
 n_list:mg "list" = none
 n_str:mg "str" = none
 n_range:mg "range" = none
 n_enumerate:mg "enumerate" = none
 n_zip:mg "zip" = none
structure tQ(mg:Str->Option oA)(K:W.Frag)(x:Str)(t:L2.T):Prop where
 ex:∃a,mg x=oZ (.ref a)/\∀H O,Rp K H O t (.ref a)
theorem tD{X:Cx}{K:W.Frag}{x:Str}{t:L2.T}{pos:Pos}(hg:Gl X x)(c:tQ X.mg K x t)(hd:(x==("__debug__":Str))=false:=by decide):QE X (.Name x pos) (aJ K (fC t)):=by
 obtain⟨a,h1,h2⟩:=c.ex;exact QE.le (t:=tC (.ref a)) ⟨Li (v:=.ref a) hg h1 rfl hd⟩ λσ H Q hl zZ=>by obtain⟨B,S,E,Q',hS,re,hF,lk⟩:=zZ;exact lk _ _ _ _ _ hF .refl re (h2 _ _)
theorem kF{K:W.Frag}{i j:Int}(h:K.lookup a=oZ ⟨.type "tuple",od,.seq #[.int i t,.int j u] n,sl⟩)(H:Hp)(O:UQ->Prop):Rp K H O (.tup [.int i,.int j]) (.ref a):=
 ⟨a,[.int i,.int j],rfl,.inr ⟨_,_,n,h,rfl,rfl,by show 2<=UT;decide,.cons ⟨t,rfl⟩ (.cons ⟨u,rfl⟩ .nil)⟩,_,_,rfl,rfl,_,_,rfl,rfl,rfl⟩
section
variable{X:Cx}{K:W.Frag}{e:oC}{te:TE}{st:Option oC}{ts:TO}{pos p2:Pos}{Fa:FE}{G:FO}
def Q3(K:W.Frag)(te:TE)(ts:TO):TE:=λσ H Q=>te σ H λx H1=>ts σ H1 λk H2=>k=oZ (-1)/\∃a xs,x = .ref a/\jJ K H2 a xs/\∀p,H2 p=none->Q (.ref p) (upd H2 p (.lst xs.reverse))
theorem C6(he:PE X e te)(hk:PO X st ts)(rh:∀a b,∃ops,WQ (.Slice none none st p2) false a b=operate ops (WI a b)):PE X (.Subscript e (.Slice none none st p2) pos) (Q3 X.K te ts):=by
 intro pins s σ H Q I h;refine Subscript_ (cW (he pins s σ H _ I h) λv s1 zZ=>?_);obtain⟨x,H1,I1,r1,q1⟩:=zZ;refine wpAny_Slice ?_;rw[WZ];refine UR ?_;refine UR ?_;refine cW (hk pins s1 σ H1 _ I1 q1) λvk s2 zZ=>?_;obtain⟨k,H2,I2,pk,q2⟩:=zZ;obtain⟨rfl,a,xs,rfl,hx,q⟩:=q2;have I4:aS X pins σ H2 { s2 with heap:=s2.heap.push { cls:=.type "slice",data:=.fields #[.none,.none,vk] } }:=I2.kept (t':=s2.toks) λb ob q=>MM _ q;cases r1;obtain⟨XD,r,ht,hz⟩:=I4.list hx;have hlen:=r.length;have hg:US (UW X.prog X.w) X.A (WI (.ref a) (.ref s2.heap.objs.size)) (EP X pins σ Q) X.xe { s2 with heap:=s2.heap.push { cls:=.type "slice",data:=.fields #[.none,.none,vk] } }:=by
  refine wpAny_getItem_list_slice ht.isList (Heap.IsSliceOf.new ..) .none .none pk ∅ ?_ (by rw[MZ]<;>lia);rw[W.krv_pick];refine⟨.ref _,_,I4.laid (t':=s2.toks) (o:=.lst xs.reverse) (λb ob q=>MM _ q) (MQ _) ?_,rfl,q _ (I4.hok.fresh (MQ _))⟩;exact⟨by rw[List.length_reverse];exact hz,_,0,r.reverse,NA _ rfl⟩
 obtain⟨ops,ho⟩:=rh (.ref a) (.ref s2.heap.objs.size);exact tail_any (ops:=ops) ht.isList.typeIs slot_list_getitem.lookup hg ho
def IW(Fa:FE)(G:FO):FE:=λE Q=>Fa E λx E1=>G E1 λk E2=>k=oZ (-1)/\match vl E2 x with
 |some (.lst xs)=>Q (.s E2.length) (E2++[↥xs.reverse])
 |_=>False
theorem Yw(eK:X.K=K)(he:QE X e (aJ K Fa))(hk:QO X st (qI K G))(rh:∀a b,∃ops,WQ (.Slice none none st p2) false a b=operate ops (WI a b):=by exactλ_ _=>⟨_,by with_unfolding_all rfl⟩):QE X (.Subscript e (.Slice none none st p2) pos) (aJ K (IW Fa G)):=by
 subst eK;refine QE.le (t:=Q3 X.K (aJ X.K Fa) (qI X.K G)) ⟨C6 he.h hk.h rh⟩ λσ H Q _⟨B,S,E,Q',⟨τ,hS⟩,re,hF,lk⟩=>⟨B,S,E,_,⟨τ,hS⟩,re,hF,λx E1 v H1 S1 q g1 XJ rx=>?_⟩;obtain⟨τ1,ZG⟩:=g1.pre;refine⟨B,S1,E1,_,⟨τ++τ1,by rw[ZG,hS,MO]⟩,XJ,q,λl E2 H2 S2 q2 g2 YE=>?_⟩;have rx2:=rx.step g2;obtain⟨hk1,q2⟩:=q2;refine⟨hk1,?_⟩;split at q2
 ·rename_i xs e1;obtain⟨a,vs,e2,sq,rs⟩:=YE.vl rx2 e1;refine⟨a,vs,e2,sq,λp hp=>?_⟩;obtain⟨g,XH⟩:=YE.lst hp rs.reverse;exact lk _ _ _ _ _ q2 ((g1.trans g2).trans g) XH (by rw[<-YE.len];exact jC)
 ·exact q2.elim
end
end My
namespace L2
open PySem PySem.Spec PyProof.Rows
theorem xJ{X:Cx}{K:W.Frag}{pos:Pos}{I:FI}{g:FG}{Fb:FB}{Fe:FE}{target elt iter c:oC}{scope:WJ}{N':List Str}{cap:List (Nat×Bool)}{t:Nat}(hc:X.calm=true)(S:bH X N' scope t (cap.map (·.1)))(ho:jD cap=true)(fw:(cap.map (·.1)).Nodup)(hi:QI X target iter (lJ K I))(hg:∀C s3 H3 fp,QG (bN X N' scope C s3 H3 fp) target (qH K g))(hb:∀C s3 H3 fp,QT (bN X N' scope C s3 H3 fp) c (d8 K Fb))(he:∀C s3 H3 fp,QE (bN X N' scope C s3 H3 fp) elt (aJ K Fe))(hs:∀x,VA iter X.env x=pure x:=by intro _;rfl):
  QE X (.ListComp elt [⟨target,iter,[c],0⟩] scope pos) (aJ K (y9 t cap I g Fb Fe)):=
 QE.le (t:=n9 t (cap.map (·.1)) (lJ K I) (Ly none K g) (Dx none K Fb) (sM none K Fe)) ⟨Dh hc S hi.h (λC s3 H3 fp=>(hg C s3 H3 fp).gd.h) (λC s3 H3 fp=>(hb C s3 H3 fp).bd.h.one) (λC s3 H3 fp=>(he C s3 H3 fp).ed.h) hs⟩ λσ H Q hl h=>xD (d:=none) (d':=none) S ho fw hl (λ_ _ _ z=>by cases z) ⟨(λ_ z=>by cases z),h⟩
def JK:En->Bool
 |[]=>true
 |some (.o false _)::_=>false
 |_::E=>JK E
section
variable{K:W.Frag}{B:UQ->Prop}{H H':Hp}{S S':St}{E E':En}{σ:St}
def rA(E:En):List R->Option (List T×En)
 |[]=>oZ ([],E)
 |.p t::rs=>(rA E rs).map λz=>(t::z.1,z.2)
 |.s i::rs=>match E[i]? with
  |some (↥xs)=>(rA (E.set i (⇑(.lst xs))) rs).map λz=>(.lst xs::z.1,z.2)
  |some (⇑t)=>(rA E rs).map λz=>(t::z.1,z.2)
  |_=>none
theorem mL:∀{rs:List R}{vs:List V}{E:En}{z:List T×En},RE K B H S E->Qf K B H S E rs vs->rA E rs=oZ z->RE K B H S z.2/\(∀b,Ow B S z.2 b->Ow B S E b)/\bW K H (Ow B S z.2) z.1 vs
 |[],vs,E,z,re,h,e=>by cases e;exact⟨re,λb z=>z,h⟩
 |.p t::rs,_,E,z,re,⟨v,ws,e1,h1,h2⟩,e=>by
  cases q:rA E rs with
  |none=>rw[rA,q]at e;cases e
  |some y=>
   rw[rA,q]at e;cases e;obtain⟨r1,r2,r3⟩:=mL re h2 q;exact⟨r1,r2,v,ws,e1,Rp.step (Kp.less r2) h1,r3⟩
 |.s i::rs,_,E,z,re,⟨v,ws,e1,h1,h2⟩,e=>by
  unfold rA at e;split at e
  ·rename_i xs hE;obtain⟨ref,of⟩:=re.frz hE;cases q:rA (E.set i (⇑(.lst xs))) rs with
   |none=>rw[q]at e;cases e
   |some y=>
    rw[q]at e;cases e;have qk:Qf K B H S (E.set i (⇑(.lst xs))) rs ws:=Qf.step ⟨Kp.less λb z=>(of b z).1,[],by simp⟩ h2;obtain⟨r1,r2,r3⟩:=mL ref qk q;have hi:i<E.length:=(MK.mp hE).1;obtain⟨w,p1,p2⟩:=ref.pure i (.lst xs) (by rw[NR hi]);have h1:S[i]?=oZ (oZ v):=h1;rw[h1]at p1;cases p1;exact⟨r1,λb z=>(of b (r2 b z)).1,v,ws,e1,Rp.step (Kp.less r2) p2,r3⟩
  ·rename_i t hE;cases q:rA E rs with
   |none=>rw[q]at e;cases e
   |some y=>
    rw[q]at e;cases e;obtain⟨r1,r2,r3⟩:=mL re h2 q;obtain⟨w,p1,p2⟩:=re.pure i t hE;have h1:S[i]?=oZ (oZ v):=h1;rw[h1]at p1;cases p1;exact⟨r1,r2,v,ws,e1,Rp.step (Kp.less r2) p2,r3⟩
  ·cases e
end
section
variable{X:Cx}{K:W.Frag}{pos:Pos}{es:List oC}{Fr:FA}
def DC(Fr:FA):FE:=λE Q=>Fr E λrs E1=>o1 (rA E1 rs) λz=>Q (.p (.tup z.1)) z.2
def CY(Fr:FA):FE:=λE Q=>Fr E λrs E1=>o1 (rA E1 rs) λz=>Q (.s z.2.length) (z.2++[↥z.1])
theorem Yx{x1}(h:QA X es (cZ K n Fr))(hz:n<=9000:=by decide):QE X (.Tuple es x1 pos) (aJ K (DC Fr)):=by
 refine(Vp h).le λσ H Q hl h=>args (Fr:=Fr) h λB S E rs vs H2 Q' hS re rr hn q lk=>⟨by rw[hn];exact OA (bU hz),λp hp=>?_⟩;obtain⟨z,e,q⟩:=q.ex;obtain⟨XJ,ow1,rs1⟩:=mL re rr e;obtain⟨g,XH,rp⟩:=XJ.tup hp rs1;exact lk _ _ _ _ _ q (Gr.trans ⟨Kp.less ow1,[],by simp⟩ g) XH rp
theorem Yv(h:QA X es (cZ K n Fr))(hz:n<=9000:=by decide):QE X (.List es pos) (aJ K (CY Fr)):=by
 refine(Hr h).le λσ H Q hl h=>args (Fr:=Fr) h λB S E rs vs H2 Q' hS re rr hn q lk=>⟨by rw[hn];exact OA (bU hz),λp hp=>?_⟩;obtain⟨z,e,q⟩:=q.ex;obtain⟨XJ,ow1,rs1⟩:=mL re rr e;obtain⟨g,XH⟩:=XJ.lst hp rs1;exact lk _ _ _ _ _ q (Gr.trans ⟨Kp.less ow1,[],by simp⟩ g) XH (by rw[<-XJ.len];exact jC)
end
section
variable{X:Cx}{e:oC}{es:List oC}{pos:Pos}{K:W.Frag}{Fr:FA}
theorem Nl(hc:X.calm=true):iH X (.builtin "max") (λxs H Q=>∃a b:Int,xs=[.int a,.int b]/\Q (.int (if a<b then b else a)) H):=by
 intro pins s σ H xs us Q I r h;obtain⟨a,b,rfl,q⟩:=h;obtain⟨u,v,rfl,rx,ry⟩:=bA.two r;obtain⟨t,rfl⟩:=rx;obtain⟨t',rfl⟩:=ry;refine max_two_ints (I.ok.hd hc) λh' tk hk=>?_
 by_cases c:a<b
 ·simp only[oV c]at q⊢;exact⟨.int b,H,I.kept hk,⟨_,rfl⟩,q⟩
 ·simp only[oW c]at q⊢;exact⟨.int a,H,I.kept hk,⟨_,rfl⟩,q⟩
def IT(Fr:FA):FE:=λE Q=>Fr E λrs E1=>match rs with
 |[x,y]=>i2 (vl E1 x) (vl E1 y) λi j=>Q (.p (.int (if i<j then j else i))) E1
 |_=>False
theorem T9(hc:X.calm=true)(hg:Gl X "max")(hm:X.mg "max" = none)(ha:QA X (e::es) (cZ K n Fr))(hs:bJ (e::es)=true:=by rfl):QE X (.Call (.Name "max" p) (e::es) [] pos) (aJ K (IT Fr)):=by
 refine(eO (Nl hc) hg hm boot_max ha ∅ ∅ hs).le λσ H Q hl h=>args (Fr:=Fr) h λB S E rs vs H2 Q' hS re rr hn q lk=>?_
 match rs,rr,q with
 |[x,y],⟨v,ws,e1,h1,u,kh,e2,h2,h3⟩,q=>
  cases h3;subst e2;subst e1;obtain⟨i,j,e3,e4,q⟩:=i2.ex q;exact⟨i,j,by rw[re.int h1 e3,re.int h2 e4],lk _ _ _ _ _ q .refl re rfl⟩
 |[],_,q=>exact q.elim
 |[_],_,q=>exact q.elim
 |_::_::_::_,_,q=>exact q.elim
end
end L2
namespace HT
open PySem PySem.Spec PyProof.Rows
end HT
namespace HT
open PySem PySem.Spec PyProof.Rows
end HT
namespace L2
open PySem PySem.Spec PyProof.Rows
section
variable{X:Cx}{K:W.Frag}{a b e:oC}{te:TE}{st:Option oC}{ts:TO}{pos p2:Pos}{Fa Fb:FE}{G aw Gh:FO}
def KN(Fa:FE)(G:FO):FE:=λE Q=>Fa E λx E1=>G E1 λk E2=>k=oZ (-1)/\match vl E2 x with
 |some (.tup xs)=>Q (.p (.tup xs.reverse)) E2
 |_=>False
def IZ(Fa:FE)(aw Gh:FO):FE:=λE Q=>Fa E λx E1=>aw E1 λlo E2=>Gh E2 λhi E3=>match vl E3 x with
 |some (.tup xs)=>¬(HT.sIx xs.length 0 lo=0/\HT.sIx xs.length xs.length hi=xs.length)/\Q (.p (.tup (i9 xs lo hi))) E3
 |_=>False
theorem Od{lo hi:Option oC}(eK:X.K=K)(he:QE X e (aJ K Fa))(hl:QO X lo (qI K aw))(hu:QO X hi (qI K Gh)):QE X (.Subscript e (.Slice lo hi none p2) pos) (aJ K (IZ Fa aw Gh)):=by
 subst eK;refine(vA AY he hl hu).le λσ H Q _⟨B,S,E,Q',⟨τ,hS⟩,re,hF,lk⟩=>⟨B,S,E,_,⟨τ,hS⟩,re,hF,λx E1 v H1 S1 q g1 XJ rx=>?_⟩;obtain⟨τ1,ZG⟩:=g1.pre;refine⟨B,S1,E1,_,⟨τ++τ1,by rw[ZG,hS,MO]⟩,XJ,q,λl E2 H2 S2 q2 g2 YE=>?_⟩;obtain⟨τ2,kg⟩:=g2.pre;refine⟨B,S2,E2,_,⟨τ++τ1++τ2,by rw[kg,ZG,hS,MO,MO,MO]⟩,YE,q2,λh E3 H3 S3 q3 g3 YM=>?_⟩;have xu:=(rx.step g2).step g3;split at q3
 ·rename_i xs e1;obtain⟨a,vs,e2,sq,rs⟩:=YM.vl xu e1;obtain⟨nw,q3⟩:=q3;refine⟨a,vs,e2,sq,by rw[rs.length];exact nw,λp hp=>?_⟩;obtain⟨g,XH,rp⟩:=YM.tup hp (Rl (lo:=l) (hi:=h) rs);exact lk _ _ _ _ _ q3 (((g1.trans g2).trans g3).trans g) XH rp
 ·exact q3.elim
def CV(Fa Fb:FE):FE:=λE Q=>Fa E λx E1=>Fb E1 λy E2=>match vl E2 x,vl E2 y with
 |some (.tup (t::xs)),oZ (.tup (u::ys))=>xs.length+ys.length<=900/\Q (.p (.tup (t::xs++u::ys))) E2
 |some (.tup (_::xs)),oZ (.tup [])=>xs.length<=900/\Q x E2
 |_,_=>False
theorem Ys(eK:X.K=K)(ha:QE X a (aJ K Fa))(hb:QE X b (aJ K Fb)):QE X (.BinOp a .Add b pos) (aJ K (CV Fa Fb)):=by
 subst eK;refine(Dp A8 ha hb).le λσ H Q hl h=>two (Fa:=Fa) (Fb:=Fb) h λB S E x y v w H2 Q' hS re rx ry q lk=>?_;split at q
 ·rename_i t xs u ys e1 e2;obtain⟨hz,q⟩:=q;obtain⟨p,vs,rfl,sq,rs⟩:=re.vl rx e1;obtain⟨p',ir,rfl,xx,oq⟩:=re.vl ry e2;have l1:=rs.length;have l2:=oq.length;rw[MS]at l1 l2;refine⟨p,p',vs,ir,rfl,rfl,sq,xx,λz=>by rw[z]at l1;simp at l1,OA (bU ⋯),λz=>by rw[z]at l2;simp at l2,λ_ r hr=>?_⟩;obtain⟨g,XH,rp⟩:=re.tup hr (rs.append oq);exact lk _ _ _ _ _ q g XH rp
 ·rename_i t xs e1 e2;obtain⟨hz,q⟩:=q;obtain⟨p,vs,rfl,sq,rs⟩:=re.vl rx e1;obtain⟨p',ir,rfl,xx,oq⟩:=re.vl ry e2;have l1:=rs.length;have l2:=oq.length;rw[MS]at l1;rw[OZ]at l2;exact⟨p,p',vs,ir,rfl,rfl,sq,xx,λz=>by rw[z]at l1;simp at l1,OA (bU ⋯),λ_=>lk _ _ _ _ _ q .refl re rx,λz=>absurd (List.length_eq_zero_iff.mp l2) z⟩
 ·exact q.elim
end
def JY:T->Option Bool
 |.non=>oZ false
 |.bl b=>oZ b
 |.int i=>oZ (i != 0)
 |.lst xs=>oZ (!xs.isEmpty)
 |.tup xs=>oZ (!xs.isEmpty)
 |_=>none
section
variable{X:Cx}{K:W.Frag}{e:oC}{Fa:FE}
def IC(Fa:FE):FB:=λE Q=>Fa E λx E1=>o1 ((vl E1 x).bind JY) λb=>Q b E1
theorem U7(eK:X.K=K)(h:QE X e (aJ K Fa))(he:∀whole,isTrue e X.env whole=(do let v <-whole;standAt e.pos;VV [v] (truthy v)):=by intro _;rfl):QT X e (d8 K (IC Fa)):=by
 subst eK;refine QT.le ⟨Vl h.h he⟩ λσ H Q z=>?_;obtain⟨B,S,E,Q',⟨τ,hS⟩,re,hF,lk⟩:=z;refine⟨B,S,E,_,⟨τ,hS⟩,re,hF,λr E1 v H1 S1 q g XJ rr=>?_⟩;obtain⟨b,e1,q⟩:=o1.ex q;obtain⟨t,e2,e3⟩:=RP.mp e1;have rt:=XJ.vl rr e2;have nl:∀{α β:Type}{xs:List α}{ys:List β},ys.length=xs.length->(!xs.isEmpty) = !ys.isEmpty:=λ{α β xs ys}h=>by
  cases xs<;>cases ys<;>simp at h⊢
 refine⟨b,?_,lk _ _ _ _ q g XJ⟩;cases t with
 |non=>cases e3;have:v = .non:=rt;subst this;rfl
 |bl c=>
  have hv:v = .bl c:=rt;have hb:c=b:=Option.some.inj e3;subst hv;subst hb;rfl
 |int i=>cases e3;have:v = .int i:=rt;subst this;rfl
 |str x=>cases e3
 |tup xs=>
  cases e3;obtain⟨p,vs,rfl,sq,rs⟩:=rt;exact .inr (.inl ⟨vs,sq,nl rs.length⟩)
 |lst xs=>
  cases e3;obtain⟨p,vs,rfl,sq,rs⟩:=rt;exact .inl ⟨vs,sq,nl rs.length⟩
end
theorem Qz:VU "any" = oZ (.builtin "any"):=by decide +kernel
theorem Ni(hc:X.calm=true):iH X (.builtin "any") (λxs H Q=>∃(p:UQ)(bs:List Bool),xs=[.ref p]/\jJ X.K H p (bs.map V.bl)/\Q (.bl (bs.any id)) H):=by
 intro pins s σ H xs us Q I r h;obtain⟨p,bs,rfl,hq,q⟩:=h;obtain⟨u,rfl,rx⟩:=sN r;cases rx;obtain⟨XD,rv,pl,hz⟩:=I.list hq;have YY:p≠s.heap.objs.size:=by
  obtain⟨o,n,ho,_⟩:=pl;exact NQ (MX ho)
 have hl:=rv.length;rw[ML]at hl;have hA:X.A.in1.handled=none:=I.ok.hd hc;refine call_any_walk (wpAny_pyIter_list pl.isList ?_);refine⟨s.heap.objs.size,_,_,_,_,_,(λi=>bs.getD i false),rfl,Walks.list hA s.heap.objs.size p YY XD.toArray,⟨⟨_,NA _ rfl,rfl,rfl⟩,pl.isList.at λo e=>MM _ e⟩,?_,?_⟩
 ·intro i v s' Q' E' hv wa;have jq:XD[i]?=oZ v:=by simpa using hv
  have hi:i<XD.length:=(MK.mp jq).1;have hb:(bs.map V.bl)[i]?=oZ (V.bl bs[i]):=by
   rw[MT,MI ⋯];rfl
  obtain⟨u,hu,ru⟩:=rv.get hb;rw[jq]at hu;cases hu;cases ru;have e:bs.getD i false=bs[i]:=by rw[NG,MI ⋯];rfl
  simp only[e]at wa;exact VJ wa
 ·intro h' tk hk;have e:(OG XD.toArray.size).any (λi=>bs.getD i false)=bs.any id:=by
   rw[MZ,<-hl];clear hl hz rv q hq pl YY;rw[RJ,PX,PX];constructor
   ·rintro⟨i,hi,h⟩;have hi:=OO.mp hi;rw[NG,MI hi]at h;exact⟨_,PC hi,h⟩
   ·rintro⟨b,hb,h⟩;obtain⟨i,hi,rfl⟩:=List.mem_iff_getElem.mp hb;refine⟨i,OO.mpr hi,?_⟩;rw[NG,MI hi];exact h
  rw[e];refine⟨.bl _,H,?_,rfl,q⟩;exact I.kept λb o e=>hk b o (by simp;exact NQ (MX e)) (MM _ e)
section
variable{X:Cx}{K:W.Frag}{pos:Pos}{Fr:FA}{Fa:FE}{e a:oC}{es:List oC}
def II(Fr:FA):FE:=λE Q=>Fr E λrs E1=>match rs with
 |[x]=>(match vl E1 x with
  |some (.lst xs)=>o1 (lC xs) λbs=>Q (.p (.bl (bs.any id))) E1
  |_=>False)
 |_=>False
theorem T7(eK:X.K=K)(hc:X.calm=true)(hg:Gl X "any")(hm:X.mg "any" = none)(ha:QA X (e::es) (cZ K n Fr))(hs:bJ (e::es)=true:=by rfl):QE X (.Call (.Name "any" p) (e::es) [] pos) (aJ K (II Fr)):=by
 subst eK;refine(eO (Ni hc) hg hm Qz ha ∅ ∅ hs).le λσ H Q hl h=>args (Fr:=Fr) h λB S E rs vs H2 Q' hS re rr hn q lk=>?_
 match rs,rr,q with
 |[x],⟨v,ws,e1,h1,h2⟩,q=>
  cases h2;subst e1;simp only at q;split at q
  ·rename_i xs e2;obtain⟨p,us,rfl,sq,rs⟩:=re.vl h1 e2;obtain⟨bs,e3,q⟩:=o1.ex q;refine⟨p,bs,rfl,by rw[<-Fx rs e3];exact sq,lk _ _ _ _ _ q .refl re rfl⟩
  ·exact q.elim
 |[],_,q=>exact q.elim
 |_::_::_,_,q=>exact q.elim
end
structure M2(X:Cx)(o:oC)(m:Str)(apos:Pos)(e f:oC)(YZ:Pos):Prop where
 base:VR o m X.env (VF o X.env)=VF o X.env
 few:((WH YZ (VB [e,f] X.env)).all (λx=>!x.1)&&(backToKw YZ (keywordEach [] X.env)).all (λx=>x.1.isSome)
 &&decide (([e,f]:List oC).length+([]:List Keyword).length+(if([]:List Keyword).isEmpty then 0 else 1)<30))=true
 line:(apos.endLine==YZ.line)=true
 trees:WH YZ (VB [e,f] X.env)=[(false,VF e X.env),(false,VF f X.env)]
def KA(H:Hp)(a:UQ):Prop:=(∃XN,Rd H a (.dK XN))\/∃XN,Rd H a (.dT XN)
theorem V1(I:aS X pins σ H s)(d:KA H a):
  s.TypeIs (.ref a) "dict"/\(∀b,NO a = .ref b->∃ob,s.heap.get? b=oZ ob/\ob.dict=none)/\(a==VO)=false:=by
 obtain⟨XN,e⟩|⟨XN,e⟩:=d
 ·obtain⟨_,hd,vs,_,dd⟩:=CJ I.hok e;refine⟨dd.typeIs,λb q=>?_,hd⟩;cases q;obtain⟨ob,_,_,h1,h2,_⟩:=dd;exact⟨ob,h1,h2.2.1⟩
 ·obtain⟨_,hd,xs,_,dd⟩:=L6 I.hok e;refine⟨dd.typeIs,λb q=>?_,hd⟩;cases q;obtain⟨ob,_,_,h1,h2,_⟩:=dd;exact⟨ob,h1,h2.2.1⟩
def s1(x:Option T)(k:Str->Prop):Prop:=match x with
 |some (.str i)=>k i
 |_=>False
theorem s1.ex{k:Str->Prop}(h:s1 x k):∃i,x=oZ (.str i)/\k i:=by
 unfold s1 at h;split at h
 ·exact⟨_,rfl,h⟩
 ·exact h.elim
def s2(x y:Option T)(k:Str->Str->Prop):Prop:=match x,y with
 |some (.str i),oZ (.str j)=>k i j
 |_,_=>False
theorem s2.ex{k:Str->Str->Prop}(h:s2 x y k):∃i j,x=oZ (.str i)/\y=oZ (.str j)/\k i j:=by
 unfold s2 at h;split at h
 ·exact⟨_,_,rfl,rfl,h⟩
 ·exact h.elim
def si(x y:Option T)(k:Str->Int->Prop):Prop:=match x,y with
 |some (.str i),oZ (.int j)=>k i j
 |_,_=>False
theorem si.ex{k:Str->Int->Prop}(h:si x y k):∃i j,x=oZ (.str i)/\y=oZ (.int j)/\k i j:=by
 unfold si at h;split at h
 ·exact⟨_,_,rfl,rfl,h⟩
 ·exact h.elim
abbrev big:Nat:=1000000
theorem Qy(h:n<=big):n<=UT:=by rw[WW];unfold big at h;lia
theorem RE.str{K:W.Frag}{B:UQ->Prop}{H:Hp}{S:St}{E:En}(re:RE K B H S E){r:R}{v:V}{i:Str}(h:RR K B H S E r v)(e:L2.vl E r=oZ (.str i)):v = .str i:=re.vl h e
section
variable{X:Cx}{K:W.Frag}{pos:Pos}{a b c e o:oC}{es:List oC}{Fa Fb Fc Fo:FE}{Fr:FA}
def IL(Fa Fb:FE):FE:=λE Q=>Fa E λx E1=>Fb E1 λy E2=>s2 (vl E2 x) (vl E2 y) λi j=>Q (.p (.bl (!(Builtin.Str.occurrences j i 0 j.length 1).isEmpty))) E2
def IP(Fa Fb:FE):FE:=λE Q=>Fa E λx E1=>Fb E1 λy E2=>si (vl E2 x) (vl E2 y) λi j=>i.length<=big/\o1 (jY i.cps.toList j) λc=>Q (.p (.str ⟨#[c]⟩)) E2
theorem T8(eK:X.K=K)(ha:QE X a (aJ K Fa))(hb:QE X b (aJ K Fb))(hs:pC b):QE X (.Subscript a b pos) (aJ K (IP Fa Fb)):=by
 subst eK;refine(N8 Tj ha hb hs).le λσ H Q hl h=>two (Fa:=Fa) (Fb:=Fb) h λB S E x y v w H2 Q' hS re rx ry q lk=>?_;obtain⟨i,j,e1,e2,c,q⟩:=q.ex;obtain⟨d,e3,q⟩:=o1.ex q;exact .inr (.inr ⟨i,j,d,re.str rx e1,re.int ry e2,Qy c,e3,lk _ _ _ _ _ q .refl re rfl⟩)
end
open Classical in
noncomputable def hide (Z:UQ->Prop) (H:Hp):Hp:=λb=>if Z b then none else H b
open Classical in
noncomputable def back (Z:UQ->Prop) (H H':Hp):Hp:=λb=>if Z b then H b else H' b
theorem jT{Z:UQ->Prop}(h:Z b):hide Z H b=none:=oV h
theorem bZ{Z:UQ->Prop}(h:¬Z b):hide Z H b=H b:=oW h
theorem j4{Z:UQ->Prop}(h:H b=none):hide Z H b=none:=by unfold hide;split<;>first|rfl|exact h
theorem cP{Z:UQ->Prop}(h:hide Z H b=oZ o):¬Z b/\H b=oZ o:=by
 unfold hide at h;split at h
 ·cases h
 ·rename_i n;exact⟨n,h⟩
theorem i7{Z:UQ->Prop}(h:Z b):back Z H H' b=H b:=oV h
theorem c8{Z:UQ->Prop}(h:¬Z b):back Z H H' b=H' b:=oW h
section
variable{X:Cx}{pins:List (UQ×Obj)}{σ:St}{H H':Hp}{s s':oB}
def Nc:HO->Prop
 |.lst _=>True
 |.dT _=>True
 |.dK _=>True
 |_=>False
theorem Nc.obj(hk:Nc o)(k:dD P w H h a o):∃ob,h.get? a=oZ ob/\(∀v,ob.data≠.cell v):=by
 cases o with
 |lst xs=>obtain⟨_,XD,n,_,e⟩:=k;exact⟨_,e,λv z=>by cases z⟩
 |dT XN=>obtain⟨_,_,xs,_,ob,es,ep,e,_,d,_⟩:=k;exact⟨_,e,λv z=>by rw[d]at z;cases z⟩
 |dK XN=>obtain⟨_,_,xs,_,ob,es,ep,e,_,d,_⟩:=k;exact⟨_,e,λv z=>by rw[d]at z;cases z⟩
 |_=>exact hk.elim
def kL(h:oE)(Z:List UQ):List (UQ×Obj):=Z.filterMap λc=>(h.get? c).map λo=>(c,o)
theorem Hf(m:p∈kL h Z):p.1∈Z/\h.get? p.1=oZ p.2:=by
 obtain⟨c,mc,e⟩:=QY.mp m;cases q:h.get? c with
 |none=>rw[q]at e;cases e
 |some o=>rw[q]at e;cases e;exact⟨mc,q⟩
theorem Oo(m:c∈Z)(e:h.get? c=oZ o):(c,o)∈kL h Z:=QY.mpr ⟨c,m,by rw[e];rfl⟩
theorem aS.frame_none(I:aS X pins σ H s)(h:b∈X.fs):H b=none:=by
 obtain⟨_,o,ho,_⟩:=I.ok.funs.mem h;exact I.base.free b o ho (I.ok.frf b h) λx=>I.ok.exfs b x h
theorem aS.hide(I:aS X pins σ H s)(hZ:∀c∈Z,∃o,H c=oZ o/\Nc o):aS X (pins++kL s.heap Z) σ (L2.hide (·∈Z) H) s:=by
 have nl:∀{b:UQ}{o:HO},H b=oZ o->¬Nc o->¬b∈Z:=λ{b o}h n z=>by
  obtain⟨o',e,k⟩:=hZ b z;rw[h]at e;cases e;exact n k
 refine⟨I.ok,I.os,I.bare,⟨I.base.keep,I.base.slot,λb o q n x=>j4 (I.base.free b o q n x),I.base.there,λb xs q=>?_,λb o u q=>?_,λb ps q=>?_⟩,I.loc,I.cell,j4 I.free,λx c q=>j4 (I.freeC x c q),λp m=>?_,λa o e=>?_,I.len⟩
 ·have:=I.base.tups b xs q;rw[bZ (nl this λz=>z)];exact this
 ·have:=I.base.frzs b o u q;rw[bZ (nl this λz=>z)];exact this
 ·obtain⟨more,this⟩:=I.base.tbls b ps q;exact⟨more,by rw[bZ (nl this λz=>z)];exact this⟩
 ·rw[<-MO]at m;obtain m|m:=NB.mp m
  ·obtain⟨h1,h2,h3⟩:=I.pin p m;exact⟨h1,j4 h2,h3⟩
  ·obtain⟨mz,e⟩:=Hf m;obtain⟨o,eo,k⟩:=hZ p.1 mz;obtain⟨ob,e2,dc⟩:=k.obj (I.hok p.1 o eo);rw[e]at e2;cases e2;refine⟨e,jT mz,λc=>?_,λc=>?_,dc⟩
   ·rw[c,I.free]at eo;cases eo
   ·have hn:=I.frame_none c;rw[hn]at eo;cases eo
 ·obtain⟨n,e⟩:=cP e;exact(I.hok a o e).stay (λ_ _ _ q=>q) (λb q=>by rw[bZ (nl q λz=>z)];exact q) (λb xs q=>by rw[bZ (nl q λz=>z)];exact q)
theorem aS.back(I:aS X pins σ H s)(hZ:∀c∈Z,∃o,H c=oZ o/\Nc o)(I1:aS X (pins++kL s.heap Z) σ' H1 s')(ht:∀b xs,H b=oZ (.tup xs)->H1 b=oZ (.tup xs)):aS X pins σ' (L2.back (·∈Z) H H1) s'/\∀c∈Z,H1 c=none:=by
 have pin:∀c∈Z,∃ob,s.heap.get? c=oZ ob/\s'.heap.get? c=oZ ob/\H1 c=none:=λc m=>by
  obtain⟨o,eo,k⟩:=hZ c m;obtain⟨ob,e,_⟩:=k.obj (I.hok c o eo);obtain⟨h1,h2,_⟩:=I1.pin (c,ob) (by rw[<-MO];exact NB.mpr (.inr (Oo m e)));exact⟨ob,e,h1,h2⟩
 have gone:∀c∈Z,H1 c=none:=λc m=>let⟨_,_,_,h⟩:=pin c m;h;have uq:∀{b:UQ}{o:HO},H1 b=oZ o->¬b∈Z:=λ{b o}h m=>by rw[gone b m]at h;cases h
 refine⟨⟨I1.ok,I1.os,I1.bare,⟨I1.base.keep,I1.base.slot,λb o q n x=>?_,I1.base.there,λb xs q=>?_,λb o u q=>?_,λb ps q=>?_⟩,I1.loc,I1.cell,?_,λx c q=>?_,λp m=>?_,λa o e=>?_,I1.len⟩,gone⟩
 ·by_cases z:b∈Z
  ·rw[i7 z];exact I.base.free b o q n x
  ·rw[c8 z];exact I1.base.free b o q n x
 ·have:=I1.base.tups b xs q;rw[c8 (uq this)];exact this
 ·have:=I1.base.frzs b o u q;rw[c8 (uq this)];exact this
 ·obtain⟨more,this⟩:=I1.base.tbls b ps q;exact⟨more,by rw[c8 (uq this)];exact this⟩
 ·by_cases z:X.env.locals∈Z
  ·rw[i7 z];exact I.free
  ·rw[c8 z];exact I1.free
 ·by_cases z:c∈Z
  ·rw[i7 z];exact I.freeC x c q
  ·rw[c8 z];exact I1.freeC x c q
 ·obtain⟨h1,h2,h3⟩:=I1.pin p (by rw[<-MO];exact NB.mpr (.inl m));refine⟨h1,?_,h3⟩
  by_cases z:p.1∈Z
  ·rw[i7 z];exact(I.pin p m).2.1
  ·rw[c8 z];exact h2
 ·by_cases z:a∈Z
  ·rw[i7 z]at e;obtain⟨o',eo,k⟩:=hZ a z;rw[e]at eo;cases eo;obtain⟨ob,g1,g2,_⟩:=pin a z;have hk:=I.hok a o e;cases o with
   |lst xs=>
    obtain⟨y,XD,n,r,g⟩:=hk;rw[g1]at g;cases g;exact⟨y,XD,n,r,g2⟩
   |dT XN=>
    obtain⟨y,ys,xs,r,ko,es,ep,g,c⟩:=hk;rw[g1]at g;cases g;refine⟨y,ys,xs,Paired.mapP r λp q z=>⟨z.1,?_,z.2.2⟩,ob,es,ep,g2,c⟩;have t1:=ht _ _ z.2.1;rw[c8 (uq t1)];exact t1
   |dK XN=>
    obtain⟨y,ys,xs,r,ko,es,ep,g,c⟩:=hk;rw[g1]at g;cases g;exact⟨y,ys,xs,r,ob,es,ep,g2,c⟩
   |_=>exact k.elim
  ·rw[c8 z]at e;exact(I1.hok a o e).stay (λ_ _ _ q=>q) (λb q=>by rw[c8 (uq q)];exact q) (λb xs q=>by rw[c8 (uq q)];exact q)
def mV.fr(D:mV)(Z:List UQ)(H:Hp):mV where
 nx:=λσ H1=>(∀b xs,H b=oZ (.tup xs)->H1 b=oZ (.tup xs))/\((∀c∈Z,H1 c=none)->D.nx σ (L2.back (·∈Z) H H1))
 rt:=λv H1=>(∀b xs,H b=oZ (.tup xs)->H1 b=oZ (.tup xs))/\((∀c∈Z,H1 c=none)->D.rt v (L2.back (·∈Z) H H1))
 bk:=λσ H1=>(∀b xs,H b=oZ (.tup xs)->H1 b=oZ (.tup xs))/\((∀c∈Z,H1 c=none)->D.bk σ (L2.back (·∈Z) H H1))
 ct:=λσ H1=>(∀b xs,H b=oZ (.tup xs)->H1 b=oZ (.tup xs))/\((∀c∈Z,H1 c=none)->D.ct σ (L2.back (·∈Z) H H1))
def JB(t:TS):TS:=λD σ H=>∃Z:List UQ,(∀c∈Z,∃o,H c=oZ o/\Nc o)/\t (D.fr Z H) σ (L2.hide (·∈Z) H)
theorem SP.back(I:aS X pins σ H s)(hZ:∀c∈Z,∃o,H c=oZ o/\Nc o)(h:SP X (pins++kL s.heap Z) (D.fr Z H) f s'):SP X pins D f s':=by
 cases f with
 |next=>
  obtain⟨σ',H1,I1,ht,q⟩:=h;obtain⟨I2,g⟩:=I.back hZ I1 ht;exact⟨σ',_,I2,q g⟩
 |brk=>
  obtain⟨σ',H1,I1,ht,q⟩:=h;obtain⟨I2,g⟩:=I.back hZ I1 ht;exact⟨σ',_,I2,q g⟩
 |cont=>
  obtain⟨σ',H1,I1,ht,q⟩:=h;obtain⟨I2,g⟩:=I.back hZ I1 ht;exact⟨σ',_,I2,q g⟩
 |ret u=>
  obtain⟨v,σ',H1,I1,rv,ht,q⟩:=h;obtain⟨I2,g⟩:=I.back hZ I1 ht;exact⟨v,σ',_,I2,rv,q g⟩
theorem QS.frame{st:UZ}{t:TS}(h:QS X st t):QS X st (JB t):=⟨λpins s σ H D I zZ=>by obtain⟨Z,hZ,q⟩:=zZ;exact cW (h.h (pins++kL s.heap Z) s σ _ _ (I.hide hZ) q) λf s' z=>SP.back I hZ z⟩
theorem QB.frame{st:List UZ}(h:QB X st t):QB X st (JB t):=⟨λpins s σ H D I zZ=>by obtain⟨Z,hZ,q⟩:=zZ;exact cW (h.h (pins++kL s.heap Z) s σ _ _ (I.hide hZ) q) λf s' z=>SP.back I hZ z⟩
def LM(t:TE):TE:=λσ H Q=>∃Z:List UQ,(∀c∈Z,∃o,H c=oZ o/\Nc o)/\t σ (L2.hide (·∈Z) H) λv H1=>(∀b xs,H b=oZ (.tup xs)->H1 b=oZ (.tup xs))/\((∀c∈Z,H1 c=none)->Q v (L2.back (·∈Z) H H1))
theorem QE.frame(h:QE X e t):QE X e (LM t):=⟨λpins s σ H Q I⟨Z,hZ,q⟩=>cW (h.h (pins++kL s.heap Z) s σ _ _ (I.hide hZ) q) λu s' zZ=>by
  obtain⟨v,H1,I1,rv,ht,q⟩:=zZ;obtain⟨I2,g⟩:=I.back hZ I1 ht;exact⟨v,_,I2,rv,q g⟩⟩
end
def Kn(I:List Nat)(σ' σ:St):Prop:=∀i∈I,σ'[i]?= σ[i]?
theorem Kn.refl:Kn I σ σ:=λ_ _=>rfl
theorem Kn.trans(a:Kn I σ1 σ2)(b:Kn I σ2 σ3):Kn I σ1 σ3:=λi h=>(a i h).trans (b i h)
theorem Kn.set(h:j∉I):Kn I (σ.set j x) σ:=λi m=>ND (show j≠i fromλe=>h (e.symm ▸ m))
def mV.kp(D:mV)(i:List Nat)(σ:St):mV where
 nx:=λσ' H'=>Kn i σ' σ->D.nx σ' H'
 rt:=D.rt
 bk:=λσ' H'=>Kn i σ' σ->D.bk σ' H'
 ct:=λσ' H'=>Kn i σ' σ->D.ct σ' H'
def kA(i:List Nat)(K:W.Frag)(F:FS):TS:=λD σ H=>gU K F (D.kp i σ) σ H
def Dy(i:List Nat)(K:W.Frag)(g:FG):TG:=λv σ H Q=>qH K g v σ H λσ' H'=>Kn i σ' σ->Q σ' H'
def Ar(i:List Nat)(K:W.Frag)(g:Ya):K7:=λv σ H Q=>Dz K g v σ H λσ' H'=>Kn i σ' σ->Q σ' H'
theorem LS.kp{K:W.Frag}{B:UQ->Prop}{H:Hp}{σ σ':St}{E:En}{DT:ET}{D:mV}{i:List Nat}(l:LS K B H σ' E DT (D.kp i σ))(h:Kn i σ' σ):LS K B H σ' E DT (D.kp i σ'):=
 ⟨λa b c d e f k=>l.nx a b c d e f (k.trans h),l.rt,λa b c d e f k=>l.bk a b c d e f (k.trans h),λa b c d e f k=>l.ct a b c d e f (k.trans h)⟩
theorem zF{X:Cx}{K:W.Frag}{st:UZ}{aq:List UZ}{F:FS}{G:FS}{i:List Nat}(h1:QS X st (kA i K F))(h2:QB X aq (kA i K G)):QB X (st::aq) (kA i K (FV F G)):=
 (jN h1 h2).le λD σ H zZ=>by obtain⟨B,E,DT,re,hF,l⟩:=zZ;exact⟨B,E,_,re,hF,⟨λσ' H' E' hG g XH hk=>⟨B,E',DT,XH,gK hG,(l.step g).kp hk⟩,l.rt,l.bk,l.ct⟩⟩
theorem Tn{X:Cx}{K:W.Frag}{st:UZ}{F:FS}{i:List Nat}(h1:QS X st (kA i K F)):QB X [st] (kA i K F):=u9 h1
theorem W3{X:Cx}{K:W.Frag}{Fa:FE}{e:oC}{pos:Pos}{i:List Nat}(h:QE X e (aJ K Fa)):QS X (.Return (oZ e) pos) (kA i K (FU Fa)):=
 (Hu h).le λD σ H hl zZ=>by obtain⟨B,E,DT,re,hF,l⟩:=zZ;exact⟨B,σ,E,_,⟨[],by simp⟩,re,hF,λr E' v H' S' q g XH rr=>l.rt r E' v H' S' q g.kp XH rr⟩
def FL:FS:=λD E=>D.ct E
theorem Kf{X:Cx}{K:W.Frag}{pos:Pos}:QS X (.Continue pos) (gU K FL):=QS.le (t:=O7) ⟨Dl⟩ λD σ H hl zZ=>by obtain⟨B,E,DT,re,hF,l⟩:=zZ;exact l.ct _ _ _ hF (Kp.refl _ _) re
theorem Ku{X:Cx}{K:W.Frag}{Fa:FE}{e:oC}{pos:Pos}{i:List Nat}(he:QE X e (aJ K Fa))(hs:VL e none pos.line X.env=pure false:=by rfl):QS X (.Expr e pos) (kA i K (O0 Fa)):=
 (Lr he hs).le λD σ H hl zZ=>by obtain⟨B,E,DT,re,hF,l⟩:=zZ;exact Fw (P:=λ_ _ E'=>DT.nx E') re hF λr E' v H' S' q g XH rr YE ow=>l.nx _ _ _ q (g.kp.trans (Kp.less ow)) YE Kn.refl
theorem zG{X:Cx}{K:W.Frag}{Fa:FE}{e:oC}{pos:Pos}{i:List Nat}{j:Nat}{x:Str}{pos':Pos}(hN:X.N.Nodup)(hi:X.N[j]?=oZ x)(hx:yK X.env.scope x)(he:QE X e (aJ K Fa))(YY:j∉i)(hs:VL e (oZ (.Name x pos')) pos.line X.env=pure false:=by rfl)(hf:X.fn x=true\/X.env.scope.names.lookup x=oZ .local:=by first|exact .inl rfl|exact .inr rfl|assumption):QS X (.Assign [.Name x pos'] e pos) (kA i K (G9 j Fa)):=
 (vB hN hi hx he hs hf).le λD σ H hl⟨B,E,DT,re,hF,l⟩=>⟨B,σ,E,_,⟨[],by simp⟩,re,hF,λr E' v H' S' q g XH rr=>by
  obtain⟨u,e1,q⟩:=q.ex;rw[<-re.len]at e1 q;obtain⟨r1,ow⟩:=mR (i:=j) XH g.pre rr e1;exact l.nx _ _ _ q (g.kp.trans (Kp.less ow)) r1 (Kn.set YY)⟩
theorem tF{X:Cx}{K:W.Frag}{pos:Pos}{i:List Nat}{j:Nat}{x:Str}(hN:X.N.Nodup)(hi:X.N[j]?=oZ x)(hx:yK X.env.scope x)(YY:j∉i)(hf:X.fn x=true\/X.env.scope.names.lookup x=oZ .local:=by first|exact .inl rfl|exact .inr rfl|assumption):QG X (.Name x pos) (Dy i K (Kr j)):=
 (kO hN hi hx hf).le λv σ H Q hl zZ=>by
  obtain⟨B,τ,E,u,Q',re,rp,hF,l⟩:=zZ;have YX:j<σ.length:=by rw[hl];exact(MK.mp hi).1
  obtain⟨r1,ow⟩:=re.setP (i:=j) rp;rw[List.set_append_left _ _ YX]at r1 ow;exact l _ _ _ hF (Kp.less ow) r1 (by simp) (Kn.set YY)
theorem Ks{X:Cx}{K:W.Frag}{i:List Nat}:Ff X [] (Ar i K DQ):=z7.le λvs σ H Q zZ=>by
 obtain⟨B,τ,E,ts,Q',re,rp,hF,l⟩:=zZ;cases ts with
 |nil=>exact⟨rp,l _ _ _ hF (Kp.refl _ _) re rfl Kn.refl⟩
 |cons _ _=>exact hF.elim
theorem pT{X:Cx}{K:W.Frag}{e:oC}{i:List Nat}{g:FG}{es:List oC}{gs:Ya}(h1:QG X e (Dy i K g))(h2:Ff X es (Ar i K gs))(hs:(VC (e::es) X.env).map (·.2)=WC e X.env::(VC es X.env).map (·.2):=by rfl):Ff X (e::es) (Ar i K (M7 g gs)):=
 (j9 h1 h2 hs).le λvs σ H Q zZ=>by
  obtain⟨B,τ,E,ts,Q',re,rp,hF,l⟩:=zZ;cases ts with
  |nil=>exact hF.elim
  |cons t ts=>
   obtain⟨v,r,e1,h1,h2⟩:=rp;exact⟨v,r,e1,B,τ,E,t,_,re,h1,hF,λσ' H' E' q g XH hl hk=>⟨B,τ,E',ts,Q',XH,h2.step g,q,λσ2 H2 E2 q2 g2 YE nu ur=>l _ _ _ q2 (g.trans g2) YE (nu.trans hl) (ur.trans hk)⟩⟩
theorem Tq{X:Cx}{K:W.Frag}{pos:Pos}{i:List Nat}{k n:Nat}{es:List oC}{gs:Ya}(eK:X.K=K)(hc:X.calm=true)(h:Ff X es (Ar i K gs))(hn:(VC es X.env).length=n:=by rfl)(jy:(VC es X.env).findIdx? (·.1)=none:=by rfl):QG X (.Tuple es k pos) (Dy i K (DR n gs)):=by
 subst eK;refine(Ht hc h hn jy).le λv σ H Q hl zZ=>?_;obtain⟨B,τ,E,t,Q',re,rp,hF,l⟩:=zZ;cases t with
 |tup ts=>
  have cj:cond (Nat.beq ts.length n) (gs ts E Q') False:=hF;cases q:Nat.beq ts.length n with
  |false=>rw[q]at cj;exact cj.elim
  |true=>
   rw[q]at cj;obtain⟨a,vs,rfl,sq,rs⟩:=rp.sqT;exact⟨a,vs,rfl,sq,by rw[rs.length];exact Nat.eq_of_beq_eq_true q,B,τ,E,ts,Q',re,rs,cj,l⟩
 |_=>exact hF.elim
theorem W2{X:Cx}{K:W.Frag}{body:List UZ}{F:FS}{pos:Pos}{i:List Nat}{g:FG}{tg iter:oC}{I:FI}(hp:PassesOwn (UW X.prog X.w) X.A X.env X.xe)(hc:X.calm=true)(hi:QI X tg iter (lJ K I))(hg:QG X tg (Dy i K g))(hb:QB X body (kA i K F))(hs:∀x,VA iter X.env x=pure x:=by intro _;rfl):
  QS X (.For tg iter body [] pos) (kA i K (FN I g F)):=by
 refine(z9 hp hc hi hg hb hs).le λD σ H hl zZ=>?_;obtain⟨B,E,DT,re,hF,l⟩:=zZ;refine⟨B,σ,E,_,⟨[],by simp⟩,re,hF,λJ items us E1 H1 S1 gd q g1 XJ ok _ qp=>?_⟩;obtain⟨E2,e2,q⟩:=q.ex;replace q:=gK q;obtain⟨f1,f2,f3,f4⟩:=zC XJ e2;obtain⟨c1,c2⟩:=f1.cut (E:=E) g1.pre re.len;have gs:Gs B H σ E H1 σ (E2.take E.length):=g1.kp.trans ((Kp.less f2).trans (Kp.less c2));have gd1:gd H1 (Ow B σ (E2.take E.length)):=qp _ (λb z=>f2 b (c2 b z)) λj hj a ha z=>f3 j hj a ha (c2 a z);refine⟨λn m σ' H'=>m=items.length-n/\n<=items.length/\Kn i σ' σ/\∃E',fW g F DT (items.drop n) E'/\Gs B H σ E H' σ' E'/\RE K B H' σ' E'/\gd H' (Ow B σ' E'),⟨_,rfl,OR _,Kn.refl,_,q,gs,c1,gd1⟩,?_⟩;rintro n m σ2 H2 ⟨rfl,ij,ur,E3,q3,g3,YM,dk⟩;obtain YX|hge:=OY n items.length
 ·have hd:items.drop n=items[n]::items.drop (n+1):=PB YX;rw[hd]at q3;refine .inr ⟨ok.go n H2 _ dk YX,λσ' H'=>Kn i σ' σ/\∃E',fW g F DT (items.drop (n+1)) E'/\Gs B H σ E H' σ' E'/\RE K B H' σ' E'/\gd H' (Ow B σ' E'),λσ' H' zZ=>by obtain⟨hk,E',z⟩:=zZ;exact⟨items.length-(n+1),by omega,rfl,YX,hk,E',z⟩,λx H4 y=>?_⟩;obtain⟨k4,s4,rp⟩:=ok.yld n H2 _ x H4 _ dk (MI YX) (λa z=>by obtain⟨vs,e⟩:=YM.ow z;rw[e];intro z;cases z) y;have ig:=YM.kept s4;have ug:=ok.keep _ _ _ _ k4 dk;refine⟨B,[],E3,_,_,by rw[NS];exact ig,by rw[NS];exact rp,q3,λσ5 H5 E5 q5 g5 ao wx hk5=>?_⟩;rw[NS]at g5 ao;rw[NS]at g5;have wy:=ok.keep _ _ _ _ g5 ug;have gg:=(g3.trans k4).trans g5;have l5:=l.step gg;have h5:=hk5.trans ur;refine⟨B,E5,_,ao,gK q5,?_⟩;exact⟨λσ' H' E' z g XH hk=>⟨hk.trans h5,E',z,gg.trans g,XH,ok.keep _ _ _ _ g wy⟩,l5.rt,λσ' H' E' z g XH hk=>l5.nx _ _ _ z g XH (hk.trans h5),λσ' H' E' z g XH hk=>⟨hk.trans h5,E',z,gg.trans g,XH,ok.keep _ _ _ _ g wy⟩⟩
 ·have ei:n=items.length:=by omega
  subst ei;rw[PV]at q3;exact .inl ⟨ok.stop H2 _ dk,l.nx _ _ _ q3 g3 YM ur⟩
section
variable{X:Cx}{K:W.Frag}{pos ap:Pos}{e o:oC}{es:List oC}{Fo:FE}{Fr:FA}{name:Str}{id:String}
def CZ(G:Str->R->En->(R->En->Prop)->Prop)(Fo:FE)(Fr:FA):FE:=λE Q=>Fo E λx E1=>s1 (vl E1 x) λi=>Fr E1 λrs E2=>match rs with
 |[y]=>G i y E2 Q
 |_=>False
theorem U3{G:Str->R->En->(R->En->Prop)->Prop}{r:V->List V->Hp->VK->Prop}(slot:Slot "str" name id)(hty:typeOf (.builtin id)=pure (.type "method_descriptor"))(hm:HE X id r)(k:∀B S E i y w H2 Q' Q,RE K B H2 S E->RR K B H2 S E y w->G i y E Q'->Lk K B H2 S E Q' Q->r (.str i) [w] H2 Q)(ho:QE X o (aJ K Fo))(ha:QA X [e] (cZ K n Fr))(YF:VR o name X.env (VF o X.env)=VF o X.env:=by rfl)(YG:(ap.endLine==pos.line)=true:=by rfl)(hs:bO e=false:=by rfl):
  QE X (.Call (.Attribute o name ap) [e] [] pos) (aJ K (CZ G Fo Fr)):=by
 refine QE.le ⟨Uw PySem.F.plainAttrs_str slot hty hm ho.h ha.h YF (by rw[dI hs];rfl) YG (dI hs) (iN rfl)⟩ λσ H Q hl h=>one (Fa:=Fo) h λB S E x v H2 Q' hS re rx q lk=>?_;obtain⟨i,e1,q⟩:=q.ex;have ev:=re.str rx e1;subst ev;refine⟨rfl,B,S,E,_,hS,re,q,λrs E2 vs H3 S3 q3 g YM rr hn=>?_⟩
 match rs,rr,q3 with
 |[y],⟨w,ws,e2,h1,h2⟩,q3=>
  cases h2;subst e2;exact k B S3 E2 i y w H3 Q' Q YM h1 q3 (lk.step g)
 |[],_,q=>exact q.elim
 |_::_::_,_,q=>exact q.elim
def lE(l:List Str):List T:=l.map T.str
def kZ:List T->Option (List Str)
 |[]=>oZ []
 |.str x::r=>(kZ r).map (x::·)
 |_=>none
theorem yC:∀{xs:List T}{l:List Str},kZ xs=oZ l->xs=lE l
 |[],_,h=>by cases h;rfl
 |.str x::r,l,h=>by
  cases q:kZ r with
  |none=>rw[kZ,q]at h;cases h
  |some m=>
   rw[kZ,q]at h;cases h;rw[yC q];rfl
 |.non::_,_,h=>by cases h
 |.bl _::_,_,h=>by cases h
 |.int _::_,_,h=>by cases h
 |.tup _::_,_,h=>by cases h
 |.lst _::_,_,h=>by cases h
theorem Ea:∀l:List Str,kZ (lE l)=oZ l
 |[]=>rfl
 |x::l=>by show(kZ (lE l)).map (x::·)=_;rw[Ea l];rfl
def L9(i:Str)(y:R)(E:En)(Q:R->En->Prop):Prop:=match vl E y with
 |some (.lst xs)=>o1 (kZ xs) λl=>JoinOk i l=true/\∀z,z=Txt.join i l->Q (.p (.str z)) E
 |_=>False
theorem yD:∀{l:List Str}{us:List oA},bA (l.map V.str) us->∃m:List (Str×Tok),us=strValues m/\m.map (·.1)=l
 |[],us,h=>by cases h;exact⟨[],rfl,rfl⟩
 |x::l,us,h=>by
  cases h with
  |cons h1 h2=>
   obtain⟨t,rfl⟩:=h1;obtain⟨m,rfl,e⟩:=yD h2;exact⟨(x,t)::m,rfl,by rw[MR,e]⟩
theorem Dr{O:UQ->Prop}:∀{l:List Str}{vs:List V},bW K H O (lE l) vs->vs=l.map V.str
 |[],_,h=>h
 |x::l,_,⟨v,r,e,h1,h2⟩=>by
  have h1:v = .str x:=h1;rw[e,h1,Dr h2];rfl
theorem Zl:HE X "str.join" (λx vs H Q=>∃i a l,x = .str i/\vs=[.ref a]/\jJ X.K H a (l.map V.str)/\JoinOk i l=true/\Q (.str (Txt.join i l)) H):=by
 intro pins s σ H x vs v us Q I rx rv h;obtain⟨i,a,l,rfl,rfl,sq,hj,q⟩:=h;obtain⟨t,rfl⟩:=rx;obtain⟨u,rfl,ry⟩:=sN rv;cases ry;obtain⟨XD,r,pl,hz⟩:=I.list sq;obtain⟨m,rfl,e⟩:=yD r;exact SC.join pl.isList e hj λt' k=>⟨.str _,H,I.tok _,⟨_,rfl⟩,q⟩
theorem Yu(eK:X.K=K)(ho:QE X o (aJ K Fo))(ha:QA X [e] (cZ K n Fr))(YF:VR o "join" X.env (VF o X.env)=VF o X.env:=by rfl)(YG:(ap.endLine==pos.line)=true:=by rfl)(hs:bO e=false:=by rfl):QE X (.Call (.Attribute o "join" ap) [e] [] pos) (aJ K (CZ L9 Fo Fr)):=by
 subst eK;refine U3 PySem.F.slot_str_join PySem.F.type_str_join Zl (λB S E i y w H2 Q' Q re rr q lk=>?_) ho ha YF YG hs;unfold L9 at q;split at q
 ·rename_i xs e1;obtain⟨l,e2,c,q⟩:=o1.ex q;rw[yC e2]at e1;obtain⟨a,vs,rfl,sq,rs⟩:=re.vl rr e1;rw[Dr rs]at sq;exact⟨i,a,l,rfl,rfl,sq,c,lk _ _ _ _ _ (q _ rfl) .refl re rfl⟩
 ·exact q.elim
end
section
variable{X:Cx}{K:W.Frag}{pos:Pos}{a b c e o:oC}{es:List oC}{Fa Fb Fc Fo:FE}{Fr:FA}{aw Gh G:FO}
def JT:V->Option Int->Option Int->Hp->VK->Prop:=λx lo hi H Q=>∃z,x = .str z/\z.length<=UT/\Q (.str (RM z lo hi)) H
theorem Lh{o:Option Int}(p:IsPart v o):∃q:Option (Int×Tok),v=partValue q/\q.map (·.1)=o:=by
 cases p with
 |none=>exact⟨none,rfl,rfl⟩
 |int i t=>exact⟨oZ (i,t),rfl,rfl⟩
theorem AX:BY X JT:=by
 intro pins s σ H x v vl vu lo hi sl Q I rx hs pl pu h;obtain⟨z,rfl,hz,q⟩:=h;obtain⟨t,rfl⟩:=rx;obtain⟨l,rfl,el⟩:=Lh pl;obtain⟨u,rfl,eu⟩:=Lh pu;refine⟨"str",_,PySem.F.slot_str_getitem.lookup,typeIs_str _ _ _,wpAny_getItem_str_slice (l:=l) (u:=u) (st:=none) hs rfl ?_⟩;have e:(sliceMade z t l u none)=if((1:Int)==1&&(Builtin.Str.strSliceIndices lo hi 1 z.length).length==z.length)=true then .val (.str z t)else .str ⟨((Builtin.Str.strSliceIndices lo hi 1 z.length).filterMap (z.cps[·]?)).toArray⟩:=by
  subst el;subst eu;rfl
 rw[e];exact post_val_or_str ⟨OH (Txt.slice_le z lo hi) hz,λt' k=>⟨.str _,H,I.tok _,⟨_,rfl⟩,q⟩⟩
def IY(Fa:FE)(aw Gh:FO):FE:=λE Q=>Fa E λx E1=>s1 (vl E1 x) λz=>aw E1 λlo E2=>Gh E2 λhi E3=>z.length<=big/\∀y,y=RM z lo hi->Q (.p (.str y)) E3
theorem Oc{lo hi:Option oC}(he:QE X e (aJ K Fa))(hl:QO X lo (qI K aw))(hu:QO X hi (qI K Gh)):QE X (.Subscript e (.Slice lo hi none p2) pos) (aJ K (IY Fa aw Gh)):=by
 refine(vA AX he hl hu).le λσ H Q _⟨B,S,E,Q',⟨τ,hS⟩,re,hF,lk⟩=>⟨B,S,E,_,⟨τ,hS⟩,re,hF,λx E1 v H1 S1 q g1 XJ rx=>?_⟩;obtain⟨z,ez,q⟩:=s1.ex q;have ev:=XJ.str rx ez;obtain⟨τ1,ZG⟩:=g1.pre;refine⟨B,S1,E1,_,⟨τ++τ1,by rw[ZG,hS,MO]⟩,XJ,q,λl E2 H2 S2 q2 g2 YE=>?_⟩;obtain⟨τ2,kg⟩:=g2.pre;refine⟨B,S2,E2,_,⟨τ++τ1++τ2,by rw[kg,ZG,hS,MO,MO,MO]⟩,YE,q2,λh E3 H3 S3 q3 g3 YM=>?_⟩;exact⟨z,ev,Qy q3.1,lk _ _ _ _ _ (q3.2 _ rfl) ((g1.trans g2).trans g3) YM rfl⟩
def kX(x:Str):List T:=x.cps.toList.map λc=>T.str ⟨#[c]⟩
end
end L2
namespace L2
open PySem PySem.Spec PySem.W PySem.Calls PyProof.Rows PySem.Builtin.ObjectAttr
end L2
namespace L2
open PySem PySem.Spec PySem.W PySem.Calls PyProof.Rows PySem.Builtin.ObjectAttr
end L2
namespace L2
open PySem PySem.Spec PySem.W PySem.Calls PyProof.Rows PySem.Builtin.ObjectAttr
end L2
namespace L2
open PySem PySem.Spec PySem.W PySem.Calls PyProof.Rows PySem.Builtin.ObjectAttr
end L2
namespace L2
open PySem PySem.Spec PySem.W PySem.Calls PyProof.Rows PySem.Builtin.ObjectAttr
variable{cb:Bool}
end L2
namespace L2
open PySem PySem.Spec PySem.W PySem.Calls PyProof.Rows PySem.Builtin.ObjectAttr
end L2
namespace L2
open PySem PySem.Spec PySem.W PySem.Calls PyProof.Rows PySem.Builtin.ObjectAttr
end L2
namespace L2
open PySem PySem.Spec PySem.NumText PyProof.Rows
end L2
namespace L2
open PySem PySem.Spec PySem.NumText PyProof.Rows
structure Fl(mg:Str->Option oA)(x:Str)(i:Int):Prop where
 ex:∃t,mg x=oZ (.int i t)
theorem Cc{X:Cx}{K:W.Frag}{x:Str}{i:Int}{pos:Pos}(hg:Gl X x)(c:Fl X.mg x i)(hd:(x==("__debug__":Str))=false:=by decide):QE X (.Name x pos) (aJ K (fC (.int i))):=by
 obtain⟨t,h⟩:=c.ex;exact Se ⟨Li (v:=.int i) hg h ⟨t,rfl⟩ hd⟩ λ_ _ _=>rfl
theorem RE.setVN{K:W.Frag}{B:UQ->Prop}{H:Hp}{S:St}{E:En}{v:V}(re:RE K B H S E){i:Nat}:RE K B H (S.set i (oZ v)) (E.set i none)/\∀b,Ow B (S.set i (oZ v)) (E.set i none) b->Ow B S E b:=by
 have gE:∀{j:Nat}{u:U},(E.set i none)[j]?=oZ (oZ u)->i≠j/\E[j]?=oZ (oZ u):=λ{j u}h=>by
  by_cases c:i=j
  ·subst c;rw[RD]at h;simp at h
  ·rw[ND c]at h;exact⟨c,h⟩
 refine re.map (by simp[re.len]) (λj t h=>?_) id (λj k xs h=>?_) (λ_ _ _ _ _ _ _ _ h=>h)
 ·obtain⟨v,h1,h2⟩:=re.pure j t (gE h).2;exact⟨v,by rw[ND (gE h).1];exact h1,h2⟩
 ·obtain⟨a,vs,h1,_⟩:=re.own j k xs (gE h).2;exact⟨(gE h).2,a,h1,by rw[ND (gE h).1];exact h1⟩
end L2
namespace L2
open PySem PySem.Spec PySem.W PyProof.Rows
variable{cb cb':Bool}
section
open PySem.Calls
variable{M:Model}{A:oD}{E:oA->oB->Prop}{s:oB}{base:oE}{env:Env}{outer:List Env}{L x:UQ}
end
end L2
namespace L2
open PySem PySem.Spec PySem.W PySem.Calls PyProof.Rows
variable{cb cb':Bool}
def N7(n:Nat)(lo st:Option Int):List Nat:=sliceRange (VM lo none st n).1 (VM lo none st n).2.1 (VM lo none st n).2.2
def d9{α:Type}(xs:List α)(lo st:Option Int):List α:=(N7 xs.length lo st).filterMap (xs[·]?)
theorem bW.pick{K:W.Frag}{H:Hp}{O:UQ->Prop}{xs:List T}{vs:List V}(r:bW K H O xs vs):∀ns:List Nat,bW K H O (ns.filterMap (xs[·]?)) (ns.filterMap (vs[·]?))
 |[]=>rfl
 |n::ns=>by
  have ih:=bW.pick r ns;cases q:xs[n]? with
  |none=>
   have hl:=r.length;have:vs[n]?=none:=by rw[TB]at q⊢;lia
   rw[NM q,NM this];exact ih
  |some t=>
   obtain⟨v,h1,h2⟩:=r.get q;rw[NZ q,NZ h1];exact⟨v,_,rfl,h2,ih⟩
theorem bA.pick(r:bA vs us):∀ns:List Nat,bA (ns.filterMap (vs[·]?)) (ns.filterMap (us[·]?))
 |[]=>.nil
 |n::ns=>by
  have ih:=bA.pick r ns;cases q:vs[n]? with
  |none=>
   have hl:=r.length;have:us[n]?=none:=by rw[TB]at q⊢;lia
   rw[NM q,NM this];exact ih
  |some v=>
   obtain⟨u,h1,h2⟩:=r.get q;rw[NZ q,NZ h1];exact .cons h2 ih
section
variable{X:Cx}{K:W.Frag}{e:oC}{te:TE}{sl st:Option oC}{tl ts:TO}{pos p2:Pos}{Fa:FE}{aw xy:FO}
def Q7(K:W.Frag)(te:TE)(tl ts:TO):TE:=λσ H Q=>te σ H λx H1=>tl σ H1 λlo H2=>ts σ H2 λk H3=>k≠oZ 0/\∃a xs,x = .ref a/\jJ K H3 a xs/\(d9 xs lo k).length<=UT/\∀p,H3 p=none->Q (.ref p) (upd H3 p (.lst (d9 xs lo k)))
theorem C7(he:PE X e te)(hl:PO X sl tl)(hk:PO X st ts)(rh:∀a b,∃ops,WQ (.Slice sl none st p2) false a b=operate ops (WI a b)):PE X (.Subscript e (.Slice sl none st p2) pos) (Q7 X.K te tl ts):=by
 intro pins s σ H Q I h;refine Subscript_ (cW (he pins s σ H _ I h) λv s1 zZ=>?_);obtain⟨x,H1,I1,r1,q1⟩:=zZ;refine wpAny_Slice ?_;refine cW (hl pins s1 σ H1 _ I1 q1) λvlo s2 zZ=>?_;obtain⟨lo,H2,I2,pl,q2⟩:=zZ;rw[WZ];refine UR ?_;refine cW (hk pins s2 σ H2 _ I2 q2) λvk s3 zZ=>?_;obtain⟨k,H3,I3,pk,q3⟩:=zZ;obtain⟨k0,a,xs,rfl,hx,hz0,q⟩:=q3;have I4:aS X pins σ H3 { s3 with heap:=s3.heap.push { cls:=.type "slice",data:=.fields #[vlo,.none,vk] } }:=I3.kept (t':=s3.toks) λb ob q=>MM _ q;cases r1;obtain⟨XD,r,ht,hz⟩:=I4.list hx;have hlen:=r.length;have hg:US (UW X.prog X.w) X.A (WI (.ref a) (.ref s3.heap.objs.size)) (EP X pins σ Q) X.xe { s3 with heap:=s3.heap.push { cls:=.type "slice",data:=.fields #[vlo,.none,vk] } }:=by
  refine wpAny_getItem_list_slice ht.isList (Heap.IsSliceOf.new ..) pl .none pk k0 ?_ (by rw[MZ]<;>lia);have ep:slicePick XD.toArray lo none k=(d9 XD lo k).toArray:=by
   unfold slicePick d9 N7;simp
  rw[ep];have es:d9 XD lo k=(N7 xs.length lo k).filterMap (XD[·]?):=by unfold d9;rw[hlen]
  refine⟨.ref _,_,I4.laid (t':=s3.toks) (o:=.lst (d9 xs lo k)) (λb ob q=>MM _ q) (MQ _) ?_,rfl,q _ (I4.hok.fresh (MQ _))⟩;exact⟨hz0,_,0,by rw[es];exact bA.pick r _,NA _ rfl⟩
 obtain⟨ops,ho⟩:=rh (.ref a) (.ref s3.heap.objs.size);exact tail_any (ops:=ops) ht.isList.typeIs slot_list_getitem.lookup hg ho
def DA(Fa:FE)(aw xy:FO):FE:=λE Q=>Fa E λx E1=>aw E1 λlo E2=>xy E2 λk E3=>k≠oZ 0/\match vl E3 x with
 |some (.lst xs)=>(d9 xs lo k).length<=9000/\Q (.s E3.length) (E3++[↥(d9 xs lo k)])
 |_=>False
theorem Ka(eK:X.K=K)(he:QE X e (aJ K Fa))(hl:QO X sl (qI K aw))(hk:QO X st (qI K xy))(rh:∀a b,∃ops,WQ (.Slice sl none st p2) false a b=operate ops (WI a b):=by exactλ_ _=>⟨_,by with_unfolding_all rfl⟩):QE X (.Subscript e (.Slice sl none st p2) pos) (aJ K (DA Fa aw xy)):=by
 subst eK;refine QE.le (t:=Q7 X.K (aJ X.K Fa) (qI X.K aw) (qI X.K xy)) ⟨C7 he.h hl.h hk.h rh⟩ λσ H Q _⟨B,S,E,Q',⟨τ,hS⟩,re,hF,lk⟩=>⟨B,S,E,_,⟨τ,hS⟩,re,hF,λx E1 v H1 S1 q g1 XJ rx=>?_⟩;obtain⟨τ1,ZG⟩:=g1.pre;refine⟨B,S1,E1,_,⟨τ++τ1,by rw[ZG,hS,MO]⟩,XJ,q,λl E2 H2 S2 q2 g2 YE=>?_⟩;obtain⟨τ2,kg⟩:=g2.pre;refine⟨B,S2,E2,_,⟨τ++τ1++τ2,by rw[kg,ZG,hS,MO,MO,MO]⟩,YE,q2,λk E3 H3 S3 q3 g3 YM=>?_⟩;have xu:=(rx.step g2).step g3;obtain⟨k0,q3⟩:=q3;refine⟨k0,?_⟩;split at q3
 ·rename_i xs e1;obtain⟨hz,q3⟩:=q3;obtain⟨a,vs,e2,sq,rs⟩:=YM.vl xu e1;have el:d9 vs l k=(N7 xs.length l k).filterMap (vs[·]?):=by unfold d9;rw[rs.length]
  have rp:bW X.K H3 (Ow B S3 E3) (d9 xs l k) (d9 vs l k):=by rw[el];exact bW.pick rs _
  refine⟨a,vs,e2,sq,by rw[rp.length];exact OA (bU hz),λp hp=>?_⟩;obtain⟨g,XH⟩:=YM.lst hp rp;exact lk _ _ _ _ _ q3 (((g1.trans g2).trans g3).trans g) XH (by rw[<-YM.len];exact jC)
 ·exact q3.elim
end
end L2
namespace L2
open PySem PySem.Spec PySem.W PySem.Calls PyProof.Rows PySem.SeqAt
section
variable{prog:UU}{w:UY}{KK:Type}[DecidableEq KK]{knd:HeapKind prog w KK}{A:oD}{E:oA->oB->Prop}{s:oB}
theorem Dw{Q:oA->oB->Prop}(hu:knd.room A)(jd:knd.is s.heap k a)(hm:s.heap.DictOfH knd d xs)(h1:∀p,atKey xs k=oZ p->Q p.2 { s with toks:=s.toks+knd.draws k })(h2:atKey xs k=none->∀h',h'.DictOfH knd d (storedH xs k a v)->PN d s.heap h'->Q v { s with heap:=h',toks:=s.toks+knd.draws k })(hsz:xs.length<=UT):
  US (UW prog w) A (dictSetDefault d (.ref a) v) Q E s:=by
 obtain⟨o,es,ep,ho,hc,hd,he,his,hn⟩:=hm;unfold dictSetDefault
 try with_reducible refine VZ ?_
 refine UP (knd.pyHash hu jd ?_);refine UP (wpAny_dictFind_heap (s:={ s with toks:=s.toks+knd.draws k }) hu jd ho hd he his hn ?_ ?_)
 ·intro ZP;have aBH:k∉xs.map (·.1):=not_mem_keys_of_get ZP;refine UP (WD (UP (wpAny_updateDictKeys (hz:=by have e:=size_of_entries he;lia) (s:={ s with toks:=s.toks+knd.draws k }) ho hd (UR (h2 (atKey_none_of_get ZP) _ ⟨_,_,ep+1,QD _ ho (Obj.isFreed_of_dict (Obj.data_mapDictKeys hd _)),
   hc.mapDictKeys _,Obj.data_mapDictKeys hd _,?_,?_,?_⟩ (Heap.SameBut.update ..))))))
  ·rw[storedH_new (atKey_none_of_get ZP)];simp[he,entryOfKey]
  ·rw[storedH_new (atKey_none_of_get ZP)];intro x hx;obtain hx|hx:=NB.mp hx
   ·exact knd.keeps (his x hx) ho hd (Heap.SameBut.update ..)
   ·simp only[MW]at hx;subst hx;exact knd.keeps jd ho hd (Heap.SameBut.update ..)
  ·rw[storedH_new (atKey_none_of_get ZP)];rw[OE,List.nodup_append];refine⟨hn,by simp,?_⟩;intro x hx y hy;simp only[MR,QN,MW]at hy;subst hy;exactλe=>aBH (e ▸ hx)
 ·intro j p hj;refine UP (wpAny_dictEntries (s:={ s with toks:=s.toks+knd.draws k }) ho hd ?_);rw[entry_at he j,hj];exact UP (WD (UR (h1 _ (atKey_of_get hn hj))))
theorem wD(d a:UQ)(hd:(d==VO)=false)(dflt:oA):
  MeetsIn prog w (Builtin.«dict.setdefault» ⟨[.ref d,.ref a,dflt],[]⟩) (λA R s=>knd.room A.in1/\∃k xs,knd.is s.heap k a/\s.heap.DictOfH knd d xs/\xs.length<=UT/\
   (∀p,atKey xs k=oZ p->R (.ok (.ret p.2)) { s with toks:=s.toks+knd.draws k })/\
   (atKey xs k=none->∀h',h'.DictOfH knd d (storedH xs k a dflt)->PN d s.heap h'->R (.ok (.ret dflt)) { s with heap:=h',toks:=s.toks+knd.draws k })):=
 .of_wp λA R s zZ=>by
  obtain⟨hu,k,xs,jd,hm,hz,h1,h2⟩:=zZ;unfold Builtin.«dict.setdefault»;refine UP ?_;unfold Builtin.Dict.keyAndDefault;refine UP (wpAny_notOrdered_dict hm.typeIs ?_);show US _ _ (pure (d,NO a,oZ dflt)) _ _ s;refine UR ?_;show US _ _ (if(d==VO)=true then _ else(dictSetDefault d (.ref a) dflt >>= _)) _ _ s;rw[oW (by rw[hd];exact PL)];exact UP (Dw hu jd hm (λp hp=>UR ⟨p.2,rfl,h1 p hp⟩) (λhn h' ya jr=>UR ⟨dflt,rfl,h2 hn h' ya jr⟩) hz)
end
theorem Rn{X:Cx}{H:Hp}{A:oD}{E:oA->oB->Prop}{XN:List (List Key×V)}{k:List Key}{Q:oA->oB->Prop}(hu:A.units+1<VW)(I:aS X pins σ H s)(e:H a=oZ (.dT XN))(eb:H b=oZ (.tup (k.map kV)))(rv:bM v r)(l:XN.length<UT)(h1:∀y w' s',m7 XN k=oZ y->aS X pins σ H s'->bM y w'->Q w' s')(h2:∀s',m7 XN k=none->aS X pins σ (upd H a (.dT (zY XN k v))) s'->Q r s'):
  US (UW X.prog X.w) A (call (.builtin "dict.setdefault") [.ref a,.ref b,r]) Q E s:=by
 obtain⟨z,hd,xs,rel,dd⟩:=CK I.hok e;have hz:xs.length<=UT:=by rw[<-Paired.length rel];exact z
 have hl:(zY XN k v).length<=UT:=by have:=Cj XN k v;lia
 have rk:=rel.val k;refine call_meetsIn PySem.F.slot_dict_setdefault dd.typeIs PySem.F.entry_dict_setdefault (PySem.F.args_dict_setdefault_3 _ _ _) (wD (knd:=VT (b9 X.prog X.w)) a b hd r) ⟨tupleKind_room_in1 hu,k,xs,To I.hok eb,dd,hz,λp hp=>?_,λhn h' dd' hs=>?_⟩
 ·rw[hp]at rk;cases q:m7 XN k with
  |none=>rw[q]at rk;exact rk.elim
  |some y=>rw[q]at rk;exact h1 y _ _ q (I.tok _) rk
 ·rw[hn]at rk;have q:m7 XN k=none:=by
   cases q:m7 XN k with
   |none=>rfl
   |some y=>rw[q]at rk;exact rk.elim
  refine h2 _ q ?_;obtain⟨q,es,ep,hq,g2,g3,g4,_,g5⟩:=dd';refine Ju I (by rw[e];exact True.intro) hs ⟨q,hq⟩ ⟨hl,hd,_,(rel.put k eb rv).keeps λc ys ec=>?_,q,es,ep,hq,g2,g3,g4,g5⟩;rw[aT (DW ec e (λz=>nomatch z))];exact ec
def GF(td ty tx:TE):TE:=λσ H Q=>td σ H λx H1=>∃a,x = .ref a/\KA H1 a/\ty σ H1 λy H2=>tx σ H2 λz H3=>∃b XN k,y = .ref b/\H3 a=oZ (.dT XN)/\H3 b=oZ (.tup (k.map kV))/\XN.length<UT/\
 (∀u,m7 XN k=oZ u->Q u H3)/\(m7 XN k=none->Q z (upd H3 a (.dT (zY XN k z))))
theorem C5(hu:X.A.units+1<VW)(ho:PE X o td)(he:PE X e ty)(hf:PE X f tx)(m:M2 X o "setdefault" apos e f YZ):PE X (.Call (.Attribute o "setdefault" apos) [e,f] [] YZ) (GF td ty tx):=by
 intro pins s σ H Q I h;refine wpAny_Call_method m.base m.few m.line PySem.F.plainAttrs_dict PySem.F.slot_dict_setdefault PySem.F.type_dict_setdefault (cW (ho pins s σ H _ I h) λu s1 zZ=>?_);obtain⟨x,H1,I1,rx,a,ex,d,q1⟩:=zZ;subst ex;obtain rfl:u=NO a:=rx;obtain⟨t1,t2,_⟩:=V1 I1 d;refine⟨t1,t2,?_⟩;rw[m.trees];refine Calls.callWith_builtin rfl (Calls.evalArgs_plain (Calls.spliced_cons (cW (he pins s1 σ H1 _ I1 q1) λiv s2⟨y,H2,I2,ry,q2⟩=>
  Calls.spliced_cons (cW (hf pins s2 σ H2 _ I2 q2) λfv s3⟨z,H3,I3,rz,b,XN,k,ey,ea,eb,hl,q3,q4⟩=>Calls.spliced_nil ?_))))
 subst ey;obtain rfl:iv=NO b:=ry;exact Rn hu I3 ea eb rz hl (λu w' s4 hv I4 jz=>⟨u,H3,I4,jz,q3 u hv⟩) λs4 hv I4=>⟨z,_,I4,rz,q4 hv⟩
abbrev Gm(a:UQ)(B:UQ->Prop)(H:Hp)(S:St)(E:En)(H':Hp)(S':St)(E':En):Prop:=Kp (λb=>Ow B S E b\/b=a) (λb=>Ow B S' E' b\/b=a) H H'
theorem DI{B:UQ->Prop}(g:Gs B H S E H' S' E'):Gm a B H S E H' S' E':=
 ⟨λb o e n=>g.keep b o e λz=>n (.inl z),λb z=>z.elim (λz=>(g.new b z).imp .inl id) λz=>.inl (.inr z)⟩
theorem V0{B:UQ->Prop}(ha:H a=none)(g:Gs B H S E H1 S1 E1)(g':Gm a B H1 S1 E1 H' S' E'):Gs B H S E H' S' E':=by
 refine⟨λc o e n=>g'.keep c o (g.keep c o e n) λz=>?_,λc z=>?_⟩
 ·obtain z|z:=z
  ·obtain z|z:=g.new c z
   ·exact n z
   ·rw[e]at z;cases z
  ·rw[z,ha]at e;cases e
 ·obtain (z|z)|z:=g'.new c (.inl z)
  ·exact g.new c z
  ·rw[z];exact .inr ha
  ·cases e:H c with
   |none=>exact .inr rfl
   |some o=>
    by_cases n:Ow B S E c
    ·exact .inl n
    ·rw[g.keep c o e n]at z;cases z
theorem QB.leM(h:QB X aq t)(m:∀D σ H,σ.length=X.N.length->t' D σ H->t D σ H):QB X aq t':=⟨λpins s σ H D I z=>h.h pins s σ H D I (m D σ H I.len z)⟩
structure Ex where
 k:List Key
 c:UQ
 o:List T
abbrev MD:=List (List Key×List T)
def md(G:List Ex):MD:=G.map λg=>(g.k,g.o)
def xS(G:List Ex):List (List Key×V):=G.map λg=>(g.k,V.ref g.c)
def cQ(G:List Ex):List UQ:=G.map (·.c)
def L5(b:Bool)(G:List Ex):HO:=if b=true then .dT (xS G)else .dK (G.map λg=>(g.k.headD (Sum.inl 0),V.ref g.c))
theorem Jv(b:Bool)(G:List Ex):Nc (L5 b G):=by cases b<;>trivial
theorem Rr:L5 b G≠.lst xs:=by cases b<;>(intro z;cases z)
structure DG(b:Bool)(K:W.Frag)(i:Nat)(a:UQ)(G:List Ex)(σ:St)(H:Hp):Prop where
 nm:σ[i]?=oZ (oZ (.ref a))
 dc:H a=oZ (L5 b G)
 nd:(cQ G).Nodup
 ls:∀g∈G,∃vs,H g.c=oZ (.lst vs)/\bW K H (λc=>cY H c\/c=a) g.o vs
structure Xo where
 nx:MD->En->Prop
 rt:R->En->Prop:=λ_ _=>False
 bk:MD->En->Prop:=λ_ _=>False
 ct:MD->En->Prop:=λ_ _=>False
abbrev Xp:=Xo->MD->En->Prop
def Xo.at(D:Xo)(M:MD):ET where
 nx:=D.nx M
 rt:=D.rt
 bk:=D.bk M
 ct:=D.ct M
def Xo.of(D:ET):Xo where
 nx:=λ_=>D.nx
 rt:=D.rt
 bk:=λ_=>D.bk
 ct:=λ_=>D.ct
def DU(F:FS):Xp:=λD M E=>F (D.at M) E
abbrev Gd(a:UQ)(B:UQ->Prop)(G:List Ex)(H:Hp)(S:St)(E:En)(G':List Ex)(H':Hp)(S':St)(E':En):Prop:=Kp (λb=>Ow B S E b\/b∈a::cQ G) (λb=>Ow B S' E' b\/b∈a::cQ G') H H'
structure LD(q:Bool)(i:Nat)(a:UQ)(K:W.Frag)(B:UQ->Prop)(G:List Ex)(H:Hp)(σ:St)(E:En)(DT:Xo)(D:mV):Prop where
 nx:∀σ' H' E' G',DT.nx (md G') E'->Gd a B G H σ E G' H' σ' E'->DG q K i a G' σ' H'->RE K B (hide (·∈a::cQ G') H') σ' E'->D.nx σ' H'
 rt:∀r E' v H' S' G',DT.rt r E'->Gd a B G H σ E G' H' S' E'->RE K B H' S' E'->RR K B H' S' E' r v->D.rt v H'
 bk:∀σ' H' E' G',DT.bk (md G') E'->Gd a B G H σ E G' H' σ' E'->DG q K i a G' σ' H'->RE K B (hide (·∈a::cQ G') H') σ' E'->D.bk σ' H'
 ct:∀σ' H' E' G',DT.ct (md G') E'->Gd a B G H σ E G' H' σ' E'->DG q K i a G' σ' H'->RE K B (hide (·∈a::cQ G') H') σ' E'->D.ct σ' H'
def wO(q:Bool)(i:Nat)(K:W.Frag)(F:Xp):TS:=λD σ H=>∃a G B E DT,DG q K i a G σ H/\RE K B (hide (·∈a::cQ G) H) σ E/\F DT (md G) E/\LD q i a K B G H σ E DT D
section
variable{X:Cx}{K:W.Frag}{st:UZ}{aq body:List UZ}{q:Bool}{i:Nat}{a:UQ}{B:UQ->Prop}{G G':List Ex}{H H' H1:Hp}{σ σ' S S':St}{E E':En}{DT:Xo}{D:mV}
theorem LD.step(l:LD q i a K B G H σ E DT D)(g:Gd a B G H σ E G' H' σ' E'):LD q i a K B G' H' σ' E' DT D:=
 ⟨λx b c d e f=>l.nx x b c d e (g.trans f),λx b c d e f h m=>l.rt x b c d e f h (g.trans m),λx b c d e f=>l.bk x b c d e (g.trans f),λx b c d e f=>l.ct x b c d e (g.trans f)⟩
theorem sW(h:c∈cQ G):∃g∈G,g.c=c:=MH.mp h
theorem yM(h:g∈G):g.c∈cQ G:=MH.mpr ⟨g,h,rfl⟩
theorem DG.hid(d:DG q K i a G σ H):∀c∈a::cQ G,∃o,H c=oZ o/\Nc o:=λc m=>by
 obtain e|m:=MJ.mp m
 ·rw[e];exact⟨_,d.dc,Jv _ _⟩
 ·obtain⟨g,mg,rfl⟩:=sW m;obtain⟨vs,h,_⟩:=d.ls g mg;exact⟨_,h,trivial⟩
theorem fV{Z:UQ->Prop}(h:∀c,Z c->H1 c=none):hide Z (back Z H H1)=H1:=by
 funext b
 by_cases z:Z b
 ·rw[jT z,h b z]
 ·rw[bZ z,c8 z]
theorem RE.unhide{Z:UQ->Prop}(re:RE K B (hide Z H) S E):RE K B H S E:=re.kept λ_ _ e=>(cP e).2
theorem Rp.unhide{Z O:UQ->Prop}(h:Rp K (hide Z H) O t v):Rp K H O t v:=h.step ⟨λ_ _ e _=>(cP e).2,λ_ z=>.inl z⟩
theorem RR.unhide{Z:UQ->Prop}(h:RR K B (hide Z H) S E r v):RR K B H S E r v:=by
 cases r with
 |p t=>exact Rp.unhide h
 |s i=>exact h
theorem Gd.hid(g:Gd a B G H σ E G' H' σ' E'):Kp (Ow B σ E) (Ow B σ' E') (hide (·∈a::cQ G) H) (hide (·∈a::cQ G') H'):=by
 refine⟨λb o e n=>?_,λb z=>?_⟩
 ·obtain⟨n2,e⟩:=cP e;have k:=g.keep b o e λz=>z.elim n n2;rw[bZ λz=>?_]
  ·exact k
  obtain (z|z)|z:=g.new b (.inr z)
  ·exact n z
  ·exact n2 z
  ·rw[e]at z;cases z
 ·obtain (z|z)|z:=g.new b (.inl z)
  ·exact .inl z
  ·exact .inr (jT z)
  ·exact .inr (j4 z)
theorem DG.tk(d:DG q K i a G σ H)(re:RE K B (hide (·∈a::cQ G) H) σ E)(g:Gs B (hide (·∈a::cQ G) H) σ E H1 S' E'):∀b xs,H b=oZ (.tup xs)->H1 b=oZ (.tup xs):=λb xs e=>by
 have z:b∉a::cQ G:=λz=>by
  obtain⟨o,eo,k⟩:=d.hid b z;rw[e]at eo;cases eo;exact k
 refine g.keep b _ (by rw[bZ z];exact e) λw=>?_;obtain⟨us,e'⟩:=re.ow w;rw[bZ z,e]at e';cases e'
theorem Kt(keep:∀b o,H b=oZ o->¬(cY H b\/b=a)->H' b=oZ o)(hd:¬cY H a):Kp (λc=>cY H c\/c=a) (λc=>cY H' c\/c=a) H H':=by
 refine⟨keep,λb z=>?_⟩;obtain⟨us,e⟩|e:=z
 ·by_cases w:cY H b\/b=a
  ·exact .inl w
  ·right
   cases hb:H b with
   |none=>rfl
   |some o=>
    have:=keep b o hb w;rw[e]at this;cases this;exact absurd (.inl ⟨us,hb⟩) w
 ·exact .inl (.inr e)
theorem DG.nl(d:DG q K i a G σ H):¬cY H a:=λzZ=>by obtain⟨us,e⟩:=zZ;rw[d.dc]at e;exact Rr (Option.some.inj e)
theorem DG.after(d:DG q K i a G σ H)(re:RE K B (hide (·∈a::cQ G) H) σ E)(g:Gs B (hide (·∈a::cQ G) H) σ E H1 S' E')(gone:∀c∈a::cQ G,H1 c=none):
  Gd a B G H σ E G (back (·∈a::cQ G) H H1) S' E'/\(∀σ',σ'[i]?= σ[i]?->DG q K i a G σ' (back (·∈a::cQ G) H H1)):=by
 have isl:∀{b:UQ},Ow B σ E b->∃us,H b=oZ (.lst us):=λ{b}z=>by
  obtain⟨us,e⟩:=re.ow z;exact⟨us,(cP e).2⟩
 have kp:∀b o,H b=oZ o->¬Ow B σ E b->b∉a::cQ G->H1 b=oZ o:=λb o e n z=>g.keep b o (by rw[bZ z];exact e) n;have keep:∀b o,H b=oZ o->¬(cY H b\/b=a)->back (·∈a::cQ G) H H1 b=oZ o:=λb o e n=>by
  by_cases z:b∈a::cQ G
  ·rw[i7 z];exact e
  ·rw[c8 z];exact kp b o e (λw=>n (.inl (isl w))) z
 refine⟨⟨λb o e n=>?_,λb z=>?_⟩,λσ' hk=>⟨by rw[hk];exact d.nm,by rw[i7 (by simp)];exact d.dc,d.nd,λg' mg=>?_⟩⟩
 ·have z:b∉a::cQ G:=λz=>n (.inr z);rw[c8 z];exact kp b o e (λw=>n (.inl w)) z
 ·obtain z|z:=z
  ·obtain w|w:=g.new b z
   ·exact .inl (.inl w)
   ·by_cases y:b∈a::cQ G
    ·exact .inl (.inr y)
    ·rw[bZ y]at w;exact .inr w
  ·exact .inl (.inr z)
 ·obtain⟨vs,h1,h2⟩:=d.ls g' mg;have z:g'.c∈a::cQ G:=NF _ (yM mg);exact⟨vs,by rw[i7 z];exact h1,h2.step (Kt keep d.nl)⟩
theorem yY(h:QS X st (kA [i] K F)):QS X st (wO q i K (DU F)):=
 h.frame.le λD σ H hl zZ=>by
  obtain⟨a,G,B,E,DT,d,re,hF,l⟩:=zZ;refine⟨a::cQ G,d.hid,B,E,DT.at (md G),re,hF,⟨λσ' H1 E' z g XH hk=>⟨d.tk re g,λgone=>?_⟩,λr E' v H1 S' z g XH rr=>⟨d.tk re g,λgone=>?_⟩,λσ' H1 E' z g XH hk=>⟨d.tk re g,λgone=>?_⟩,λσ' H1 E' z g XH hk=>⟨d.tk re g,λgone=>?_⟩⟩⟩
  ·obtain⟨g1,d1⟩:=d.after re g gone;exact l.nx _ _ _ G z g1 (d1 σ' (hk i (by simp))) (by rw[fV gone];exact XH)
  ·obtain⟨g1,d1⟩:=d.after re g gone;exact l.rt r E' v _ S' G z g1 (RE.unhide (Z:=(·∈a::cQ G)) (by rw[fV gone];exact XH)) (RR.unhide (Z:=(·∈a::cQ G)) (by rw[fV gone];exact rr))
  ·obtain⟨g1,d1⟩:=d.after re g gone;exact l.bk _ _ _ G z g1 (d1 σ' (hk i (by simp))) (by rw[fV gone];exact XH)
  ·obtain⟨g1,d1⟩:=d.after re g gone;exact l.ct _ _ _ G z g1 (d1 σ' (hk i (by simp))) (by rw[fV gone];exact XH)
def FW(F G:Xp):Xp:=λD M E=>F { D with nx:=λM' E'=>sR E' (G D M') } M E
theorem yX{F G:Xp}(h1:QS X st (wO q i K F))(h2:QB X aq (wO q i K G)):QB X (st::aq) (wO q i K (FW F G)):=
 (jN h1 h2).leM λD σ H hl zZ=>by obtain⟨a,Gc,B,E,DT,d,re,hF,l⟩:=zZ;exact⟨a,Gc,B,E,_,d,re,hF,⟨λσ' H' E' G' hG g d' XH=>⟨a,G',B,E',DT,d',XH,gK hG,l.step g⟩,l.rt,l.bk,l.ct⟩⟩
theorem T2(h1:QS X st (wO q i K F)):QB X [st] (wO q i K F):=u9 h1
def LN(t:TG):TG:=λv σ H Q=>∃Z:List UQ,(∀c∈Z,∃o,H c=oZ o/\Nc o)/\t v σ (L2.hide (·∈Z) H) λσ' H1=>(∀b xs,H b=oZ (.tup xs)->H1 b=oZ (.tup xs))/\((∀c∈Z,H1 c=none)->Q σ' (L2.back (·∈Z) H H1))
theorem QG.frame(h:QG X e t):QG X e (LN t):=⟨λpins s σ H v u Q I r⟨Z,hZ,z⟩=>cW (h.h (pins++kL s.heap Z) s σ _ v u _ (I.hide hZ) r z) λ_ s' zZ=>by
  obtain⟨σ',H1,I1,ht,z⟩:=zZ;obtain⟨I2,g⟩:=I.back hZ I1 ht;exact⟨σ',_,I2,z g⟩⟩
def uO(g:FG)(F:Xp)(D:Xo):List T->MD->En->Prop
 |[],M,E=>D.nx M E
 |x::xs,M,E=>g x E λE'=>sR E' (F { D with nx:=uO g F D xs,ct:=uO g F D xs,bk:=D.nx } M)
def La(E:En)(p:Nat)(k:List T->Prop):Prop:=match E[p]? with
 |some (⇑(.lst xs))=>k xs
 |_=>False
theorem La.ex{k:List T->Prop}(h:La E p k):∃xs,E[p]?=oZ (⇑(.lst xs))/\k xs:=by
 unfold La at h;split at h
 ·rename_i xs e;exact⟨xs,e,h⟩
 ·exact h.elim
def FP(p:Nat)(g:FG)(F:Xp):Xp:=λD M E=>La E p λxs=>sR E (uO g F D xs M)
theorem T3(eK:X.K=K)(hp:PassesOwn (UW X.prog X.w) X.A X.env X.xe)(hc:X.calm=true)(hi:X.N[p]?=oZ x)(hv:R7 X.env.scope x)(hg:QG X tg (Dy [i] K g))(hb:QB X body (wO q i K F))(hs:∀y,VA (.Name x px) X.env y=pure y:=by intro _;rfl)(hd:(x==("__debug__":Str))=false:=by decide)(bc:(x==("__classdict__":Str))=false:=by decide):QS X (.For tg (.Name x px) body [] pos) (wO q i K (FP p g F)):=by
 subst eK;refine(z9 hp hc (z8 (qv p hi hv hd bc)) hg.frame hb hs).le λD σ H hl zZ=>?_;obtain⟨a,G,B,E,DT,d,re,hF,l⟩:=zZ;obtain⟨items,eI,hF⟩:=hF.ex;replace hF:=gK hF;obtain⟨v,sv,rv⟩:=re.pure p _ eI;obtain⟨pp,vs,rfl,sq,rs⟩:=rv.sqL;refine⟨.ref pp,sv,pp,rfl,⟨vs,sq.imp (λh=>h.imp (λh=>(cP h).2) λzZ=>by obtain⟨o,h⟩:=zZ;exact⟨o,(cP h).2⟩) id⟩,?_⟩
 let P:List T->St->Hp->Prop:=λXD σ' H'=>∃G' E',uO g F DT XD (md G') E'/\Gd a B G H σ E G' H' σ' E'/\DG q X.K i a G' σ' H'/\RE X.K B (hide (·∈a::cQ G') H') σ' E'/\Rp X.K (hide (·∈a::cQ G') H') (Ow B σ' E') (.lst items) (.ref pp)
 refine⟨λn m σ' H'=>m=items.length-n/\n<=items.length/\P (items.drop n) σ' H',⟨_,rfl,OR _,G,E,hF,Kp.refl _ _,d,re,rv⟩,?_⟩;rintro n m σ2 H2 ⟨rfl,hn,G2,E2,q2,g2,d2,YE,zp⟩;have ok:=Gy (K:=X.K) (p:=pp) (xs:=items);obtain YX|hge:=OY n items.length
 ·have hdr:items.drop n=items[n]::items.drop (n+1):=PB YX;rw[hdr]at q2;refine .inr ⟨ok.go n H2 _ zp.unhide YX,P (items.drop (n+1)),λσ' H' z=>⟨items.length-(n+1),⋯,rfl,YX,z⟩,λy H4 yl=>?_⟩;obtain⟨e4,yl⟩:=yl;subst e4;obtain⟨p',ir,ep,xx,oq⟩:=zp.sqL;cases ep;obtain⟨w,w1,w2⟩:=oq.get (MI YX);rw[yl ir (xx.imp (λh=>h.imp (λh=>(cP h).2) λzZ=>by obtain⟨o,h⟩:=zZ;exact⟨o,(cP h).2⟩) id)]at w1;cases w1;refine⟨_,d2.hid,B,[],E2,items[n],_,by rw[NS];exact YE,by rw[NS];exact w2,q2,λσ5 H5 E5 q5 g5 ao wx hk5=>?_⟩;rw[NS]at g5 ao;rw[NS]at g5;refine⟨d2.tk YE g5,λgone=>?_⟩;obtain⟨g6,d6⟩:=d2.after YE g5 gone;have d7:=d6 σ5 (hk5 i (by simp));have re7:RE X.K B (hide (·∈a::cQ G2) (back (·∈a::cQ G2) H4 H5)) σ5 E5:=by rw[fV gone];exact ao
  have g7:=g2.trans g6;have rp7:Rp X.K (hide (·∈a::cQ G2) (back (·∈a::cQ G2) H4 H5)) (Ow B σ5 E5) (.lst items) (.ref pp):=by rw[fV gone];exact zp.step g5
  have l7:=l.step g7;refine⟨a,G2,B,E5,_,d7,re7,gK q5,?_⟩;exact⟨λσ' H' E' G' z gg d' XH=>⟨G',E',z,g7.trans gg,d',XH,rp7.step (Gd.hid gg)⟩,l7.rt,λσ' H' E' G' z gg d' XH=>l7.nx _ _ _ _ z gg d' XH,λσ' H' E' G' z gg d' XH=>⟨G',E',z,g7.trans gg,d',XH,rp7.step (Gd.hid gg)⟩⟩
 ·have ei:n=items.length:=⋯
  subst ei;rw[PV]at q2;exact .inl ⟨ok.stop H2 _ zp.unhide,l.nx _ _ _ _ q2 g2 d2 YE⟩
theorem Tb(h:H b=none)(hz:Z=[b]):hide (·∈Z) (upd H b o)=H:=by
 subst hz
 funext c
 by_cases z:c=b
 ·subst z;rw[jT (by simp),h]
 ·rw[bZ (by simpa using z),aT z]
def FQ(i:Nat)(F:Xp):FS:=λD E=>sR (E.set i none) (F (Xo.of D) [])
theorem T1(hN:X.N.Nodup)(hi:X.N[i]?=oZ x)(hx:yK X.env.scope x)(XW:QB X aq (wO true i K F))(hs:VL (.Dict [] [] pd) (oZ (.Name x p')) pos.line X.env=pure false:=by rfl)(hf:X.fn x=true\/X.env.scope.names.lookup x=oZ .local:=by first|exact .inl rfl|exact .inr rfl|assumption):QB X (.Assign [.Name x p'] (.Dict [] [] pd) pos::aq) (gU K (FQ i F)):=by
 refine(jN (vB hN hi hx (⟨Uz⟩:QE X (.Dict [] [] pd) Wu) hs hf) XW).leM λD σ H hl zZ=>?_;obtain⟨B,E,DT,re,hF,l⟩:=zZ;intro b hb;replace hF:=gK hF;obtain⟨c4,c5⟩:=re.setVN (i:=i) (v:=.ref b);have li:i<σ.length:=by rw[hl];exact(MK.mp hi).1
 have out:∀{H':Hp}{S':St}{E':En}{G':List Ex},Gd b B [] (upd H b (.dT [])) (σ.set i (oZ (.ref b))) (E.set i none) G' H' S' E'->Gs B H σ E H' S' E':=λ{H' S' E' G'}g=>by
  refine⟨λc o e n=>g.keep c o (by rw[aT (aV e hb)];exact e) λz=>?_,λc z=>?_⟩
  ·obtain z|z:=z
   ·exact n (c5 c z)
   ·have:c=b:=by simpa[cQ]using z
    subst this;rw[hb]at e;cases e
  ·obtain (z|z)|z:=g.new c (.inl z)
   ·exact .inl (c5 c z)
   ·have:c=b:=by simpa[cQ]using z
    subst this;exact .inr hb
   ·by_cases w:c=b
    ·subst w;exact .inr hb
    ·rw[aT w]at z;exact .inr z
 refine⟨b,[],B,E.set i none,_,⟨NR li,bY,SO,λg hg=>absurd hg (by simp)⟩,by rw[Tb (Z:=b::cQ []) hb rfl];exact c4,hF,?_⟩;exact⟨λσ' H' E' G' z g' _ XH=>l.nx _ _ _ z (out g') XH.unhide,λr E' v H' S' G' z g' XH rr=>l.rt _ _ _ _ _ z (out g') XH rr,λσ' H' E' G' z g' _ XH=>l.bk _ _ _ z (out g') XH.unhide,λσ' H' E' G' z g' _ XH=>l.ct _ _ _ z (out g') XH.unhide⟩
end
def getD:MD->List Key->List T
 |[],_=>[]
 |(k',xs)::r,k=>if k'=k then xs else getD r k
def zX:MD->List Key->List T->MD
 |[],k,ys=>[(k,ys)]
 |(k',xs)::r,k,ys=>if k'=k then(k',ys)::r else(k',xs)::zX r k ys
theorem Bq:∀{G:List Ex},m7 (xS G) k=oZ u->∃G1 g G2,G=G1++g::G2/\u = .ref g.c/\getD (md G) k=g.o/\∀ys,zX (md G) k ys=md (G1++⟨g.k,g.c,ys⟩::G2)
 |[],h=>by cases h
 |g::G,h=>by
  by_cases c:g.k=k
  ·have e:=qL (p:=(g.k,V.ref g.c)) (r:=xS G) c;rw[show xS (g::G)=(g.k,V.ref g.c)::xS G from rfl,e]at h;cases h;exact⟨[],g,G,rfl,rfl,by show(if g.k=k then g.o else _)=_;rw[oV c],λys=>by show(if g.k=k then _ else _)=_;rw[oV c];rfl⟩
  ·rw[show xS (g::G)=(g.k,V.ref g.c)::xS G from rfl,qK (p:=(g.k,V.ref g.c)) c]at h;obtain⟨G1,g',G2,e1,e2,e3,e4⟩:=Bq h;exact⟨g::G1,g',G2,by rw[e1];rfl,e2,by show(if g.k=k then _ else getD (md G) k)=_;rw[oW c];exact e3,λys=>by show(if g.k=k then _ else _::zX (md G) k ys)=_;rw[oW c,e4 ys];rfl⟩
theorem Bo:∀{G:List Ex},m7 (xS G) k=none->getD (md G) k=[]/\(∀c ys,zX (md G) k ys=md (G++[⟨k,c,ys⟩]))/\((xS G).any λkv=>decide (kv.1=k))=false
 |[],_=>⟨rfl,λ_ _=>rfl,rfl⟩
 |g::G,h=>by
  by_cases c:g.k=k
  ·rw[show xS (g::G)=(g.k,V.ref g.c)::xS G from rfl,qL (p:=(g.k,V.ref g.c)) c]at h;cases h
  ·rw[show xS (g::G)=(g.k,V.ref g.c)::xS G from rfl,qK (p:=(g.k,V.ref g.c)) c]at h;obtain⟨e1,e2,e3⟩:=Bo h;refine⟨by show(if g.k=k then _ else getD (md G) k)=_;rw[oW c];exact e1,λd ys=>by show(if g.k=k then _ else _::zX (md G) k ys)=_;rw[oW c,e2 d ys];rfl,?_⟩;rw[show xS (g::G)=(g.k,V.ref g.c)::xS G from rfl,UL,e3,oX c];rfl
theorem RE.lend{K:W.Frag}{B:UQ->Prop}{H:Hp}{σ:St}{E:En}{t:Nat}{c:UQ}{Z:UQ->Prop}{ts:List T}{vs:List V}(re:RE K B (hide (λb=>Z b\/b=c) H) σ E)(hc:¬Z c)(h1:H c=oZ (.lst vs))(h2:bW K (hide (λb=>Z b\/b=c) H) (Ow B σ E) ts vs):
  RE K B (hide Z H) (σ.set t (oZ (.ref c))) (E.set t (↥ts))/\∀b,Ow B (σ.set t (oZ (.ref c))) (E.set t (↥ts)) b->Ow B σ E b\/b=c:=by
 have e:upd (hide (λb=>Z b\/b=c) H) c (.lst vs)=hide Z H:=by
  funext b
  by_cases q:b=c
  ·subst q;rw[bY,bZ hc,h1]
  ·rw[aT q]
   by_cases z:Z b
   ·rw[jT (.inl z),jT z]
   ·rw[bZ (λw=>w.elim z q),bZ z]
 obtain⟨g,r⟩:=re.lst (p:=c) (jT (.inr rfl)) h2;rw[e]at r g;have hE:(E++[↥ts])[σ.length]?=oZ (↥ts):=by rw[re.len];simp
 obtain⟨r2,ow⟩:=r.setO (σ:=σ) (i:=t) ⟨_,rfl⟩ (MQ _) hE (v:=.ref c) (by simp);have et:(E++[oZ (U.o false ts)]).take σ.length=E:=by rw[re.len];simp
 rw[et]at r2 ow;refine⟨r2,λb z=>?_⟩;obtain w|⟨j,k,xs,h3,h4⟩:=ow b z
 ·exact .inl (.inl w)
 ·obtain⟨lt,h3⟩|⟨e3,h3⟩:=uK h3
  ·rw[NK (by rw[re.len];exact lt)]at h4;exact .inl (.inr ⟨j,k,xs,h3,h4⟩)
  ·rw[e3,<-re.len]at h4;simp at h4;exact .inr h4.symm
theorem RE.hid1{K:W.Frag}{B:UQ->Prop}{H:Hp}{σ:St}{E:En}{t:Nat}{c:UQ}{ys:List T}(re:RE K B H σ E)(hE:E[t]?=oZ (↥ys))(hS:σ[t]?=oZ (oZ (.ref c))):RE K B (hide (· = c) H) σ (E.set t none)/\(∀b,Ow B σ (E.set t none) b->Ow B σ E b/\b≠c):=by
 have gE:∀{j:Nat}{u:U},(E.set t none)[j]?=oZ (oZ u)->t≠j/\E[j]?=oZ (oZ u):=λ{j u}h=>by
  by_cases q:t=j
  ·subst q
   by_cases d:t<E.length
   ·rw[NR d]at h;cases h
   ·rw[PM (by simpa using d)]at h;cases h
  ·rw[ND q]at h;exact⟨q,h⟩
 obtain⟨a',vs,s1,s2,s3,s4⟩:=re.own t false ys hE;rw[hS]at s1;cases s1;have nB:¬B c:=λz=>by have:=s4.mpr z;cases this
 have oc:Ow B σ E c:=.inr ⟨t,false,ys,hE,hS⟩;have ow:∀b,Ow B σ (E.set t none) b->Ow B σ E b/\b≠c:=λb z=>by
  obtain z|⟨j,k,xs,h1,h2⟩:=z
  ·exact⟨.inl z,λw=>nB (w ▸ z)⟩
  ·obtain⟨n,h1⟩:=gE h1;refine⟨.inr ⟨j,k,xs,h1,h2⟩,λw=>n ?_⟩;subst w;exact re.inj t j false k ys xs _ hE h1 hS h2
 have kp:Kp (Ow B σ E) (Ow B σ (E.set t none)) H (hide (· = c) H):=⟨λb o e n=>by rw[bZ (λw=>n (by rw[show b=c from w];exact oc))];exact e,λb z=>.inl (ow b z).1⟩;refine⟨⟨by simpa using re.len,λj u h=>?_,λj k xs h=>?_,λj m k l xs ys' b h1 h2 h3 h4=>?_,λb z=>?_⟩,ow⟩
 ·obtain⟨v,h1,h2⟩:=re.pure j u (gE h).2;exact⟨v,h1,h2.step kp⟩
 ·obtain⟨n,h'⟩:=gE h;obtain⟨b,ws,h1,h2,h3,h4⟩:=re.own j k xs h';refine⟨b,ws,h1,?_,h3.step kp,h4⟩;rw[bZ (λw=>n (re.inj t j false k ys xs c hE h' hS (by rw[h1,show b=c from w])))];exact h2
 ·exact re.inj j m k l xs ys' b (gE h1).2 (gE h2).2 h3 h4
 ·obtain⟨us,e⟩:=re.bd b z;exact⟨us,by rw[bZ (Z:=(· = c)) (λw=>nB (by rw[<-show b=c from w];exact z))];exact e⟩
theorem RE.vlT{K:W.Frag}{B:UQ->Prop}{H:Hp}{S:St}{E:En}(re:RE K B H S E){r:R}{v:V}{ts:List T}(h:RR K B H S E r v)(e:L2.vl E r=oZ (.tup ts)):Rp K H (Ow B S E) (.tup ts) v:=by
 cases r with
 |p u=>cases e;exact h
 |s i=>
  cases q:E[i]? with
  |none=>simp only[L2.vl,q]at e;cases e
  |some u=>
   cases u with
   |none=>simp only[L2.vl,q]at e;cases e
   |some u=>
    cases u with
    |p u=>
     simp only[L2.vl,q]at e;cases e;obtain⟨w,h1,h2⟩:=re.pure i _ q;have h':S[i]?=oZ (oZ v):=h;rw[h']at h1;cases h1;exact h2
    |o k xs=>simp only[L2.vl,q]at e;cases e
mutual
theorem FK{K:W.Frag}{H:Hp}{O O':UQ->Prop}(hO:∀b,O' b->O b\/∃XN,H b=oZ (L5 true XN)):∀{t:T}{v:V},Rp K H O t v->Rp K H O' t v
 |.non,_,h=>h
 |.bl _,_,h=>h
 |.int _,_,h=>h
 |.str _,_,h=>h
 |.tup xs,v,h=>by
  obtain⟨a,vs,e1,h1,h2⟩:=h;refine⟨a,vs,e1,h1.imp (λ⟨n,h⟩=>⟨λz=>?_,h⟩) id,Ac hO h2⟩;obtain z|⟨XN,q⟩:=hO a z
  ·exact n z
  ·rw[h]at q;cases q
 |.lst xs,v,h=>by
  obtain⟨a,vs,e1,h1,h2⟩:=h;refine⟨a,vs,e1,h1.imp (λ⟨n,h⟩=>⟨λz=>?_,h⟩) id,Ac hO h2⟩;obtain z|⟨XN,q⟩:=hO a z
  ·exact n z
  ·obtain h|⟨o,h⟩:=h
   ·rw[h]at q;cases q
   ·rw[h]at q;cases q
theorem Ac{K:W.Frag}{H:Hp}{O O':UQ->Prop}(hO:∀b,O' b->O b\/∃XN,H b=oZ (L5 true XN)):∀{xs:List T}{vs:List V},bW K H O xs vs->bW K H O' xs vs
 |[],_,h=>h
 |_::_,_,⟨v,r,e,h1,h2⟩=>⟨v,r,e,FK hO h1,Ac hO h2⟩
end
def Qm(K:W.Frag):Prop:=∀a x y z,¬KT K a [V.int x,V.int y,V.int z]
def GS(t:Option T)(k:List Key->Prop):Prop:=match t with
 |some (.tup [.int a,.int b,.int c])=>k [Sum.inl a,Sum.inl b,Sum.inl c]
 |_=>False
theorem GS.ex{k:List Key->Prop}(h:GS t k):∃a b c,t=oZ (.tup [.int a,.int b,.int c])/\k [Sum.inl a,Sum.inl b,Sum.inl c]:=by
 unfold GS at h;split at h
 ·exact⟨_,_,_,rfl,h⟩
 ·exact h.elim
def xX(E:En)(p:Nat)(k:List T->Prop):Prop:=match E[p]? with
 |some (↥xs)=>k xs
 |_=>False
theorem xX.ex{k:List T->Prop}(h:xX E p k):∃xs,E[p]?=oZ (↥xs)/\k xs:=by
 unfold xX at h;split at h
 ·rename_i xs e;exact⟨xs,e,h⟩
 ·exact h.elim
def JW(t:Nat)(Fk:FE)(F:FS):Xp:=λD M E=>Fk E λr E1=>E1=E/\M.length<9000/\GS (vl E r) λk=>sR (E.set t (↥(getD M k)))
 (F { nx:=λE'=>xX E' t λys=>dH ys=true/\D.nx (zX M k ys) (E'.set t none),rt:=λ_ _=>False })
theorem S9{X:Cx}{K:W.Frag}{aq:List UZ}{i:Nat}{t:Nat}{Fk:FE}{F:FS}{x y:Str}{p' p1 ap pl cp pos:Pos}{ek:oC}{j:Nat}(hr:dW j X.A)(eK:X.K=K)(n3:Qm K)(hN:X.N.Nodup)(ht:X.N[t]?=oZ x)(hx:yK X.env.scope x)(hi:X.N[i]?=oZ y)(hv:R7 X.env.scope y)(hti:t≠i)(hk:QE X ek (aJ K Fk))(XW:QB X aq (kA [i,t] K F))(m:M2 X (.Name y p1) "setdefault" ap ek (.List [] pl) cp)(hs:VL (.Call (.Attribute (.Name y p1) "setdefault" ap) [ek,.List [] pl] [] cp) (oZ (.Name x p')) pos.line X.env=pure false:=by rfl)(hf:X.fn x=true\/X.env.scope.names.lookup x=oZ .local:=by first|exact .inl rfl|exact .inr rfl|assumption)(hd:(y==("__debug__":Str))=false:=by decide)(bc:(y==("__classdict__":Str))=false:=by decide):
  QB X (.Assign [.Name x p'] (.Call (.Attribute (.Name y p1) "setdefault" ap) [ek,.List [] pl] [] cp) pos::aq) (wO true i K (JW t Fk F)):=by
 subst eK;refine(jN (vB hN ht hx (⟨C5 (DL hr) (Vc hi hv hd bc) hk.frame.h (Hr Hq).h m⟩:QE X _ _) hs hf) XW.frame).leM λD σ H hl zZ=>?_;obtain⟨a,G,B,E,DT,d,re,hF,l⟩:=zZ;have lt:t<σ.length:=by rw[hl];exact(MK.mp ht).1
 refine⟨.ref a,d.nm,a,rfl,.inr ⟨_,.inl d.dc⟩,_,d.hid,B,σ,E,_,⟨[],by simp⟩,re,hF,λr E1 v H1 S1 z g XJ rr=>⟨d.tk re g.kp,λgone=>⟨OR _,λp hp=>?_⟩⟩⟩;obtain⟨rfl,hM,z⟩:=z;obtain⟨ka,kb,kc,ez,z⟩:=z.ex;replace z:=gK z;obtain rfl:S1=σ:=by
  obtain⟨τ,hτ⟩:=g.pre;have h1:=congrArg RU hτ;rw[MP,XJ.len,re.len]at h1;obtain rfl:τ=[]:=PR ⋯;rw[hτ,NS]
 obtain⟨g1,d1⟩:=d.after re g.kp gone;replace d1:=d1 S1 rfl;have hb2:hide (·∈a::cQ G) (back (·∈a::cQ G) H H1)=H1:=fV gone;obtain⟨kb',vs,rfl,sq,rs⟩:=XJ.vlT rr ez;have eb:H1 kb'=oZ (.tup ([Sum.inl ka,Sum.inl kb,Sum.inl kc].map kV)):=by
  obtain⟨v1,r1,rfl,q1,v2,r2,rfl,q2,v3,r3,rfl,q3,rfl⟩:=rs;cases q1;cases q2;cases q3;obtain sq|sq:=sq
  ·exact sq.2
  ·exact absurd sq (n3 _ _ _ _)
 generalize hH2:back (·∈a::cQ G) H H1=H2 at hp g1 d1 hb2;have n1:∀{b:UQ}{o:HO},H1 b=oZ o->b∉a::cQ G:=λ{b o}h m=>by rw[gone b m]at h;cases h
 have e12:∀{b:UQ}{o:HO},H1 b=oZ o->H2 b=oZ o:=λ{b o}h=>by rw[<-hH2,c8 (n1 h)];exact h
 have np:∀{b:UQ}{o:HO},H2 b=oZ o->b≠p:=λ{b o}h z=>by rw[z,hp]at h;cases h
 have up:∀{b:UQ}{o o':HO},H2 b=oZ o->(upd H2 p o') b=oZ o:=λ{b o o'}h=>by rw[aT (np h)];exact h
 have pZ:p∉a::cQ G:=λm=>by
  obtain⟨o,e,_⟩:=d1.hid p m;rw[hp]at e;cases e
 -- the rest of the block,the list of g lent
 have rest:∀(G1 G2:List Ex)(g0:Ex)(Hx:Hp)(M':List T->MD),Hx a=oZ (L5 true (G1++g0::G2))->(∀b o,H2 b=oZ o->b≠a->Hx b=oZ o)->(cQ (G1++g0::G2)).Nodup->a∉cQ (G1++g0::G2)->
   (∀g'∈G1++g0::G2,∃vs,Hx g'.c=oZ (.lst vs)/\bW X.K Hx (λc=>cY Hx c\/c=a) g'.o vs)->(∀b,b∈cQ (G1++g0::G2)->b∈a::cQ G\/b=p)->(∀ys,M' ys=md (G1++⟨g0.k,g0.c,ys⟩::G2))->
   F { nx:=λE'=>xX E' t λys=>dH ys=true/\DT.nx (M' ys) (E'.set t none),rt:=λ_ _=>False } (E1.set t (↥g0.o))->
   JB (kA [i,t] X.K F) D (S1.set t (oZ (.ref g0.c))) Hx:=λG1 G2 g0 Hx M' xa xk nd na ls sub hM' z=>by
  have ad:∀{g':Ex},g'∈G1++g0::G2->g'.c∈cQ (G1++g0::G2):=λm=>yM m;have mem:∀{b:UQ},b∈cQ (G1++g0::G2)↔b∈cQ (G1++G2)\/b=g0.c:=λ{b}=>by simp[cQ,or_comm,or_left_comm]
  have nc:g0.c∉a::cQ (G1++G2):=λm=>by
   obtain e|m:=MJ.mp m
   ·exact na (by rw[<-e];exact mem.mpr (.inr rfl))
   ·have:(cQ (G1++g0::G2)).Perm (g0.c::cQ (G1++G2)):=by
     show List.Perm ((G1++g0::G2).map (·.c)) (((g0::(G1++G2)).map (·.c)));exact List.Perm.map _ List.perm_middle
    exact(QC.mp (this.nodup_iff.mp nd)).1 m
  have hZ:∀c∈a::cQ (G1++G2),∃o,Hx c=oZ o/\Nc o:=λc m=>by
   obtain e|m:=MJ.mp m
   ·rw[e];exact⟨_,xa,Jv _ _⟩
   ·obtain⟨g',mg,rfl⟩:=sW m;obtain⟨vs,h,_⟩:=ls g' (by rcases NB.mp mg with w|w<;>simp[w]);exact⟨_,h,trivial⟩
  obtain⟨vs0,c1,c2⟩:=ls g0 (by simp)
  -- the environment,with all of it hidden
  have ex:∀b o,H1 b=oZ o->hide (λb=>b∈a::cQ (G1++G2)\/b=g0.c) Hx b=oZ o:=λb o e=>by
   have h2:=e12 e;rw[bZ]
   ·exact xk b o h2 λw=>n1 e (by rw[w];simp)
   ·intro w;have:b∈a::cQ (G1++g0::G2):=by
     obtain w|w:=w
     ·obtain w|w:=MJ.mp w
      ·rw[w];simp
      ·exact NF _ (mem.mpr (.inl w))
     ·exact NF _ (mem.mpr (.inr w))
    obtain w|w:=MJ.mp this
    ·exact n1 e (by rw[w];simp)
    ·obtain w|w:=sub b w
     ·exact n1 e w
     ·exact np h2 w
  have YE:=XJ.kept ex;have isl:∀{b:UQ},Ow B S1 E1 b->cY Hx b/\b∉a::cQ (G1++G2)/\b≠g0.c:=λ{b}w=>by
   obtain⟨us,e⟩:=YE.ow w;obtain⟨n,e⟩:=cP e;exact⟨⟨us,e⟩,λw=>n (.inl w),λw=>n (.inr w)⟩
  have c3:bW X.K (hide (λb=>b∈a::cQ (G1++G2)\/b=g0.c) Hx) (Ow B S1 E1) g0.o vs0:=by
   refine c2.step ⟨λb o e n=>?_,λb w=>.inl (.inl (isl w).1)⟩;rw[bZ];exact e;intro w;obtain w|w:=w
   ·obtain w|w:=MJ.mp w
    ·exact n (.inr w)
    ·obtain⟨g',mg,rfl⟩:=sW w;obtain⟨vs,h,_⟩:=ls g' (by rcases NB.mp mg with w|w<;>simp[w]);exact n (.inl ⟨vs,h⟩)
   ·rw[w]at n;exact n (.inl ⟨vs0,c1⟩)
  obtain⟨YM,zi⟩:=YE.lend (t:=t) nc c1 c3;have aBL:∀{b:UQ}{o:HO},Hx b=oZ o->¬Nc o->b∉a::cQ (G1++G2):=λ{b o}e n m=>by
   obtain⟨o',e',k⟩:=hZ b m;rw[e]at e';cases e';exact n k
  refine⟨_,hZ,B,_,_,YM,z,⟨λσ' H5 E5 w g5 ao hk=>⟨λb xs e=>?_,λpe=>?_⟩,λ_ _ _ _ _ w=>w.elim,λ_ _ _ w=>w.elim,λ_ _ _ w=>w.elim⟩⟩
  ·refine g5.keep b _ (by rw[bZ (aBL e λw=>w)];exact e) λw=>?_;obtain⟨us,e'⟩:=YM.ow w;rw[(cP e').2]at e;cases e
  ·obtain⟨ys,eo,w1,w2⟩:=xX.ex w;have st:σ'[t]?=oZ (oZ (.ref g0.c)):=by rw[hk t (by simp),NR lt]
   have si:σ'[i]?=oZ (oZ (.ref a)):=by rw[hk i (by simp),ND hti];exact d.nm
   obtain⟨a',vs5,s1,s2,s3,s4⟩:=ao.own t false ys eo;rw[st]at s1;cases s1;obtain⟨uh,ow6⟩:=ao.hid1 eo st;have v5:∀{b:UQ}{o:HO},H5 b=oZ o->b∉a::cQ (G1++G2):=λ{b o}h m=>by rw[pe b m]at h;cases h
   have eH:hide (·∈a::cQ (G1++⟨g0.k,g0.c,ys⟩::G2)) (back (·∈a::cQ (G1++G2)) Hx H5)=hide (· = g0.c) H5:=by
    funext b
    have em:b∈a::cQ (G1++⟨g0.k,g0.c,ys⟩::G2)↔b∈a::cQ (G1++G2)\/b=g0.c:=by simp[cQ,or_comm,or_left_comm,or_assoc]
    by_cases w:b=g0.c
    ·rw[jT (em.mpr (.inr w)),jT (Z:=(· = g0.c)) w]
    ·by_cases w':b∈a::cQ (G1++G2)
     ·rw[jT (em.mpr (.inl w')),bZ (Z:=(· = g0.c)) w,pe b w']
     ·rw[bZ (λm=>(em.mp m).elim w' w),bZ (Z:=(· = g0.c)) w,c8 w']
   have aF4:∀{b:UQ},Ow B σ' E5 b->cY H5 b:=λ{b}w=>ao.ow w;have keep:∀b o,Hx b=oZ o->¬(cY Hx b\/b=a)->back (·∈a::cQ (G1++G2)) Hx H5 b=oZ o:=λb o e n=>by
    by_cases m:b∈a::cQ (G1++G2)
    ·rw[i7 m];exact e
    ·rw[c8 m];refine g5.keep b o (by rw[bZ m];exact e) λw=>?_;obtain⟨us,e'⟩:=YM.ow w;exact n (.inl ⟨us,(cP e').2⟩)
   have nla:¬cY Hx a:=λzZ=>by obtain⟨us,e⟩:=zZ;rw[xa]at e;exact Rr (Option.some.inj e)
   have ba:back (·∈a::cQ (G1++G2)) Hx H5 a=Hx a:=i7 (by simp);have dg:DG true X.K i a (G1++⟨g0.k,g0.c,ys⟩::G2) σ' (back (·∈a::cQ (G1++G2)) Hx H5):=by
    refine⟨si,by rw[ba,xa];simp[L5,xS],by have:=nd;simpa[cQ]using this,λg' mg=>?_⟩;have old:∀g'∈G1++G2,∃vs,back (·∈a::cQ (G1++G2)) Hx H5 g'.c=oZ (.lst vs)/\bW X.K (back (·∈a::cQ (G1++G2)) Hx H5) (λc=>cY (back (·∈a::cQ (G1++G2)) Hx H5) c\/c=a) g'.o vs:=λg' mg=>by
     obtain⟨vs,h1,h2⟩:=ls g' (by rcases NB.mp mg with w|w<;>simp[w]);exact⟨vs,by rw[i7 (NF _ (yM mg))];exact h1,h2.step (Kt keep nla)⟩
    obtain m|m:=NB.mp mg
    ·exact old g' (NB.mpr (.inl m))
    ·obtain m|m:=MJ.mp m
     ·subst m;refine⟨vs5,by rw[c8 nc];exact s2,?_⟩;have r1:bW X.K (back (·∈a::cQ (G1++G2)) Hx H5) (Ow B σ' E5) ys vs5:=s3.step ⟨λb o e _=>by rw[c8 (v5 e)];exact e,λ_ w=>.inl w⟩;have r2:bW X.K (back (·∈a::cQ (G1++G2)) Hx H5) (cY (back (·∈a::cQ (G1++G2)) Hx H5)) ys vs5:=bW.noL (λb w=>w) w1 r1;exact Ac (λb w=>w.imp id λw=>by subst w;exact⟨_,by rw[ba];exact xa⟩) r2
     ·exact old g' (NB.mpr (.inr m))
   refine l.nx _ _ _ (G1++⟨g0.k,g0.c,ys⟩::G2) (by rw[<-hM' ys];exact w2) ?_ dg (by rw[eH];exact uh);have em:∀{b:UQ},b∈a::cQ (G1++⟨g0.k,g0.c,ys⟩::G2)↔b∈a::cQ (G1++g0::G2):=λ{b}=>by simp[cQ]
   refine g1.trans ⟨λb o e n=>?_,λb w=>?_⟩
   ·have nz:b∉a::cQ G:=λw=>n (.inr w);have nx:b≠a:=λw=>nz (by rw[w];simp);have ex:=xk b o e nx;have nm2:b∉cQ (G1++g0::G2):=λw=>(sub b w).elim nz (np e);have nm3:b∉a::cQ (G1++G2):=λw=>(MJ.mp w).elim nx λw=>nm2 (mem.mpr (.inl w));rw[c8 nm3];refine g5.keep b o (by rw[bZ nm3];exact ex) λw=>?_;obtain w|w:=zi b w
    ·exact n (.inl w)
    ·exact nm2 (mem.mpr (.inr w))
   ·have pn:∀{b:UQ},b=p->H2 b=none:=λe=>by rw[e];exact hp
    obtain w|w:=w
    ·obtain⟨w,nc6⟩:=ow6 b w;obtain w|w:=g5.new b w
     ·obtain w|w:=zi b w
      ·exact .inl (.inl w)
      ·exact absurd w nc6
     ·by_cases m:b∈a::cQ (G1++G2)
      ·obtain m|m:=MJ.mp m
       ·exact .inl (.inr (by rw[m];simp))
       ·obtain m|m:=sub b (mem.mpr (.inl m))
        ·exact .inl (.inr m)
        ·exact .inr (pn m)
      ·rw[bZ m]at w;cases e:H2 b with
       |none=>exact .inr rfl
       |some o=>
        by_cases m2:b=a
        ·exact .inl (.inr (by rw[m2];simp))
        ·rw[xk b o e m2]at w;cases w
    ·obtain m|m:=MJ.mp (em.mp w)
     ·exact .inl (.inr (by rw[m];simp))
     ·obtain m|m:=sub b m
      ·exact .inl (.inr m)
      ·exact .inr (pn m)
 have zq:a∉cQ G:=λm=>by
  obtain⟨g',mg,e⟩:=sW m;obtain⟨vs,h,_⟩:=d1.ls g' mg;rw[e]at h;exact d1.nl ⟨vs,h⟩
 refine⟨kb',xS G,[Sum.inl ka,Sum.inl kb,Sum.inl kc],rfl,up d1.dc,up (e12 eb),by rw[WW];simp only[xS,md,ML]at hM⊢;lia,λu hu=>?_,λhn=>?_⟩
 ·obtain⟨G1,g0,G2,eG,rfl,e3,e4⟩:=Bq hu;rw[e3]at z;rw[eG]at zq;refine rest G1 G2 g0 _ _ (by rw[<-eG];exact up d1.dc) (λb o e _=>up e) (by rw[<-eG];exact d1.nd) zq (λg' mg=>?_) (λb m=>.inl (NF _ (by rw[eG];exact m))) e4 z;obtain⟨vs,h1,h2⟩:=d1.ls g' (by rw[eG];exact mg);exact⟨vs,up h1,h2.step (Kt (λb o e _=>up e) d1.nl)⟩
 ·obtain⟨e1,e2,e3⟩:=Bo hn;rw[e1]at z;have ap:a≠p:=np d1.dc;have xk:∀b o,H2 b=oZ o->b≠a->(upd (upd H2 p (.lst [])) a (.dT (zY (xS G) [Sum.inl ka,Sum.inl kb,Sum.inl kc] (.ref p)))) b=oZ o:=λb o e n=>by rw[aT n];exact up e
  refine rest G [] ⟨[Sum.inl ka,Sum.inl kb,Sum.inl kc],p,[]⟩ _ _ ?_ xk ?_ ?_ (λg' mg=>?_) (λb m=>?_) (e2 p) z
  ·rw[bY];unfold zY;rw[oW (by rw[e3];decide)];simp[L5,xS]
  ·have h1:=d1.nd;have h2:p∉cQ G:=λm=>pZ (NF _ m);show(List.map (·.c) (G++[_])).Nodup;rw[OE,List.nodup_append];exact⟨h1,by simp,λx hx y hy w=>by simp at hy;rw[w,hy]at hx;exact h2 hx⟩
  ·intro m;simp only[cQ,OE,MR,QN,NB,MW]at m;obtain m|m:=m
   ·exact zq m
   ·exact ap m
  ·obtain m|m:=NB.mp mg
   ·obtain⟨vs,h1,h2⟩:=d1.ls g' m;have ne:g'.c≠a:=λw=>zq (by rw[<-w];exact yM m);exact⟨vs,xk _ _ h1 ne,h2.step (Kt (λb o e n=>xk b o e λw=>n (.inr w)) d1.nl)⟩
   ·simp at m;subst m;exact⟨[],by rw[aT (λw=>ap w.symm),bY],rfl⟩
  ·simp only[cQ,OE,MR,QN,NB,MW]at m;exact m.imp (λm=>NF _ m) id
def Yb(x:Str):It:=
 ⟨λi _=>i<x.cps.size,λi H v H'=>∃p c,v = .ref p/\H p=none/\H'=upd H p (.tup [.int (i:Int),.str ⟨#[c]⟩])/\x.cps[i]?=oZ c,λi _=>i=x.cps.size⟩
theorem Io{P:UU}{w:UY}{K:W.Frag}{elts:List oC}{x1}{ZS:Pos}(x:Str)(t:Tok)(ty:String)(e it:UQ)(YY:e≠it)
  (D:∀(A:oD),A.handled=none->Draws P w A it [it] x.cps.size (λi v=>∃c u,x.cps[i]?=oZ c/\v = .str ⟨#[c]⟩ u) (λi h=>h.IsStrIter it ty x t i)) :
  Bk P w K (.Tuple elts x1 ZS) (Yb x) [e,it] e (λi h=>(∃old,IsEnum h e it (i:Nat) old)/\h.IsStrIter it ty x t i) where
 mem:=by simp
 obj:=λi h st b hb=>by
  obtain⟨⟨old,he⟩,⟨o,ho,hc,hd⟩⟩:=st;obtain rfl|hb:=MJ.mp hb
  ·exact⟨_,he,λv z=>by cases z⟩
  ·rw[MW.mp hb];exact⟨o,ho,λv z=>by rw[hd]at z;cases z⟩
 keep:=λi h h' st k=>⟨let⟨old,he⟩:=st.1;⟨old,k e (by simp) _ he⟩,let⟨o,ho,r⟩:=st.2;⟨o,k it (by simp) o ho,r⟩⟩
 item:=by
  intro X hP hw hK hc i pins s σ H E I hf st hg;subst hP hw hK;have hg:i<x.cps.size:=hg;obtain⟨⟨old,he⟩,hit⟩:=st;refine wpAny_pyNext_enum_itemD (D X.A.in1 (I.ok.hd hc)) he hit hg YY (by simp[YY]) λx' h1 tk hP ho rl ht hsz hk=>⟨_,rfl,?_⟩;obtain⟨c,u,hcx,ex⟩:=hP;subst ex;refine wpAny_letOwnedTupleGo_enum ho λh2 he2 gj=>?_;have hen:e≠s.heap.objs.size:=NQ (MX he);have kk:∀b o,b∉[e,it]->s.heap.get? b=oZ o->h2.get? b=oZ o:=λb o hb q=>by
   have b1:b≠e:=λz=>hb (by simp[z]);have b2:b≠it:=λz=>hb (by simp[z]);exact gj.extBut b o b1 (hk b o b1 b2 q)
  have nw:dD X.prog X.w (upd H s.heap.objs.size (.tup [.int (i:Int),.str ⟨#[c]⟩])) h2 s.heap.objs.size (.tup [.int (i:Int),.str ⟨#[c]⟩]):=
   ⟨by show 2<=UT;decide,[.int i tk,.str ⟨#[c]⟩ u],.cons ⟨_,rfl⟩ (.cons ⟨_,rfl⟩ .nil),⟨_,gj.extBut _ _ (Ne.symm hen) ht,rfl,_,rfl⟩⟩
  refine⟨.ref s.heap.objs.size,upd H s.heap.objs.size (.tup [.int (i:Int),.str ⟨#[c]⟩]),I.turnedLaid (t':=tk+1) (ch:=[e,it]) kk hf (MQ _) nw,rfl,
   ⟨_,c,rfl,I.hok.fresh (MQ _),rfl,hcx⟩,⟨⟨_,by simpa using he2⟩,rl.extBut gj.extBut (Ne.symm YY)⟩,λb hb=>?_⟩
  have YX:b<s.heap.objs.size:=by
   obtain rfl|hb:=MJ.mp hb
   ·exact MX he
   ·rw[MW.mp hb];obtain⟨o,ak,_⟩:=hit;exact MX ak
  rw[aT (NQ YX)];exact(hf b hb).1
 done:=by
  intro X hP hw hK hc i pins s σ H E I hf st hg;subst hP hw hK;have hg:i=x.cps.size:=hg;subst hg;obtain⟨⟨old,he⟩,hit⟩:=st;refine wpAny_pyNext_enum_endD (D X.A.in1 (I.ok.hd hc)) he hit λh1 eb=>⟨rfl,?_⟩;exact I.turnedL (t':=s.toks) (ch:=[e,it]) (λb o hb q=>eb b o (λz=>hb (by simp[z])) q) hf
 self:=λ_ _ _ _ _ st h=>let⟨old,he⟩:=st.1;wpAny_pyIter_enum he h
section
variable{X:Cx}{a:oC}{pos:Pos}{K:W.Frag}{Fr:FA}
def Td(ta:TA):TI:=λσ H R=>ta σ H λvs H1=>∃x,vs=[.str x]/\R (Yb x) H1
theorem Ve{x1}(hg:Gl X "enumerate")(hm:X.mg "enumerate" = none)(ha:PA X [a] ta)(hs:VB [a] X.env=[(false,VF a X.env)]:=by rfl):
  PI X (.Tuple elts x1 ZS) (.Call (.Name "enumerate" p) [a] [] pos) (Td ta):=by
 intro pins s σ H R I h;refine Call_ (rG I hg hm boot_enumerate (PyProof.Rows.callWith_type1 (cW (ha pos pins s σ H _ I h) λus s1⟨vs,H1,I1,r1,q1⟩=>?_) hs rfl));obtain⟨x,rfl,q⟩:=q1;obtain⟨u,rfl,ru⟩:=bA.one r1;obtain⟨t,rfl⟩:=ru;refine call_enumerate_str λh' he hit hsz hk=>?_;refine wpAny_pyIter_enum he ?_;have D:∀(A:oD),A.handled=none->Draws X.prog X.w A s1.heap.objs.size [s1.heap.objs.size] x.cps.size (λi v=>∃c u,x.cps[i]?=oZ c/\v = .str ⟨#[c]⟩ u) (λi h=>h.IsStrIter s1.heap.objs.size (strIterType x) x t i):=λA hA=>by
  unfold strIterType
  split
  ·exact Draws.strAscii hA _ x t
  ·exact Draws.strWide hA _ x t
 refine⟨s1.heap.objs.size+1,[s1.heap.objs.size+1,s1.heap.objs.size],_,_,H1,rfl,I1.kept (t':=s1.toks) hk,Io x t (strIterType x) _ _ (Nat.succ_ne_self _) D,⟨⟨_,he⟩,hit⟩,λb hb=>?_,q⟩;have hle:s1.heap.objs.size<=b:=by
  obtain rfl|hb:=MJ.mp hb
  ·exact Nat.le_succ _
  ·rw[MW.mp hb];exact MQ _
 exact I1.fpOk hle (I1.hok.fresh hle)
theorem Zf:Fs K (Yb x) ((kX x).zipIdx.map λq=>T.tup [.int (q.2:Int),q.1]) (λ_ _=>True):=by
 refine⟨λ_ _ _ _ _ h=>h,λi H O _ hi=>by show i<x.cps.size;simpa[kX]using hi,λi H O v H' t _ e hO y=>?_,λH O _=>by simp[Yb,kX]⟩;obtain⟨pp,c,e1,hp,e2,hc⟩:=y;subst e1;subst e2;rw[MT]at e;have hi:i<x.cps.size:=(Array.getElem?_eq_some_iff.mp hc).1;have hx:(kX x)[i]?=oZ (T.str ⟨#[c]⟩):=by
  unfold kX;rw[MT,UI,hc];rfl
 rw[SD,hx]at e;cases e;have k:Kp O O H (upd H pp (.tup [.int (i:Int),.str ⟨#[c]⟩])):=Kp.upd hp;refine⟨k,λb o z=>by rw[aT (aV z hp)];exact z,pp,_,rfl,.inl ⟨λz=>hO pp z hp,bY⟩,_,_,rfl,?_,_,[],rfl,rfl,rfl⟩;simp[Rp]
def LR(Fr:FA):FI:=λE Q=>Fr E λrs E1=>match rs with
 |[r]=>s1 (vl E1 r) λx=>Q ((kX x).zipIdx.map λq=>T.tup [.int (q.2:Int),q.1]) [] E1
 |_=>False
theorem Sk{x1}(hg:Gl X "enumerate")(hm:X.mg "enumerate" = none)(ha:QA X [a] (cZ K n Fr))(hs:bO a=false:=by rfl):QI X (.Tuple elts x1 ZS) (.Call (.Name "enumerate" p) [a] [] pos) (lJ K (LR Fr)):=by
 refine QI.le (t:=Td (cZ K n Fr)) ⟨Ve hg hm ha.h (dI hs)⟩ λσ H R hn⟨B,S,E,Q',hS,re,hF,lk⟩=>⟨B,S,E,_,hS,re,hF,λrs E1 vs H1 S1 q g XJ rr hn=>?_⟩
 match rs,rr,q with
 |[r],⟨v,ws,e1,h1,h2⟩,q=>
  cases h2;subst e1;obtain⟨x,e1,q⟩:=s1.ex q;exact⟨x,by rw[XJ.str h1 e1],lk _ _ _ _ _ _ _ q g XJ Zf (λj hj=>absurd hj (by simp)) λ_ _ _=>trivial⟩
 |[],_,q=>exact q.elim
 |_::_::_,_,q=>exact q.elim
end
def zN:List Int->Int
 |[]=>0
 |n::ns=>ns.foldl (λa b=>if b<a then b else a) n
def zK:List Int->Int
 |[]=>0
 |n::ns=>ns.foldl (λa b=>if a<b then b else a) n
theorem uG:∀(ns:List Int)(n:Int),(ns.foldl (λa b=>if b<a then b else a) n=n\/ns.foldl (λa b=>if b<a then b else a) n∈ns)/\ns.foldl (λa b=>if b<a then b else a) n<=n/\∀z∈ns,ns.foldl (λa b=>if b<a then b else a) n<=z
 |[],n=>⟨.inl rfl,Int.le_refl _,λz h=>absurd h (by simp)⟩
 |m::ns,n=>by
  obtain⟨h1,h2,h3⟩:=uG ns (if m<n then m else n);rw[List.foldl_cons];generalize ns.foldl (λa b=>if b<a then b else a) (if m<n then m else n)=r at h1 h2 h3
  by_cases c:m<n
  ·rw[oV c]at h1 h2;refine⟨.inr ?_,⋯,λz hz=>?_⟩
   ·rcases h1 with h1|h1<;>simp[h1]
   ·obtain rfl|hz:=MJ.mp hz
    ·exact h2
    ·exact h3 z hz
  ·rw[oW c]at h1 h2;refine⟨h1.imp id λh=>by simp[h],h2,λz hz=>?_⟩;obtain rfl|hz:=MJ.mp hz
   ·lia
   ·exact h3 z hz
theorem uF:∀(ns:List Int)(n:Int),(ns.foldl (λa b=>if a<b then b else a) n=n\/ns.foldl (λa b=>if a<b then b else a) n∈ns)/\n<=ns.foldl (λa b=>if a<b then b else a) n/\∀z∈ns,z<=ns.foldl (λa b=>if a<b then b else a) n
 |[],n=>⟨.inl rfl,Int.le_refl _,λz h=>absurd h (by simp)⟩
 |m::ns,n=>by
  obtain⟨h1,h2,h3⟩:=uF ns (if n<m then m else n);rw[List.foldl_cons];generalize ns.foldl (λa b=>if a<b then b else a) (if n<m then m else n)=r at h1 h2 h3
  by_cases c:n<m
  ·rw[oV c]at h1 h2;refine⟨.inr ?_,⋯,λz hz=>?_⟩
   ·rcases h1 with h1|h1<;>simp[h1]
   ·obtain rfl|hz:=MJ.mp hz
    ·exact h2
    ·exact h3 z hz
  ·rw[oW c]at h1 h2;refine⟨h1.imp id λh=>by simp[h],h2,λz hz=>?_⟩;obtain rfl|hz:=MJ.mp hz
   ·lia
   ·exact h3 z hz
theorem Zk{ns:List Int}{M:Int}(h:M∈ns)(k:∀z∈ns,M<=z):M=zN ns:=by
 cases ns with
 |nil=>simp at h
 |cons n ns=>
  obtain⟨h1,h2,h3⟩:=uG ns n;show M=ns.foldl _ n;generalize ns.foldl (λa b=>if b<a then b else a) n=r at h1 h2 h3;have a1:r<=M:=by
   obtain rfl|h:=MJ.mp h
   ·exact h2
   ·exact h3 M h
  have a2:M<=r:=k r (by rcases h1 with h1|h1<;>simp[h1])
  lia
theorem Zj{ns:List Int}{M:Int}(h:M∈ns)(k:∀z∈ns,z<=M):M=zK ns:=by
 cases ns with
 |nil=>simp at h
 |cons n ns=>
  obtain⟨h1,h2,h3⟩:=uF ns n;show M=ns.foldl _ n;generalize ns.foldl (λa b=>if a<b then b else a) n=r at h1 h2 h3;have a1:M<=r:=by
   obtain rfl|h:=MJ.mp h
   ·exact h2
   ·exact h3 M h
  have a2:r<=M:=k r (by rcases h1 with h1|h1<;>simp[h1])
  lia
theorem oO:∀{ns:List Int}{us:List oA},bA (ns.map V.int) us->∃xs:Array (Int×Tok),us.toArray=intItems xs/\ns=xs.toList.map (·.1)
 |[],us,h=>by cases h;exact⟨#[],by simp[intItems],rfl⟩
 |n::ns,us,h=>by
  cases h with
  |cons h1 h2=>
   obtain⟨t,rfl⟩:=h1;obtain⟨xs,e1,e2⟩:=oO h2;refine⟨((n,t)::xs.toList).toArray,?_,by simp[e2]⟩;have wb:=congrArg UO e1;simp[intItems]at wb;simp[intItems,wb]
section
variable{X:Cx}{e:oC}{es:List oC}{pos:Pos}{K:W.Frag}{Fr:FA}
theorem Nm(hc:X.calm=true):iH X (.builtin "min") (λxs H Q=>∃(a:UQ)(ns:List Int),xs=[.ref a]/\jJ X.K H a (ns.map V.int)/\0<ns.length/\Q (.int (zN ns)) H):=by
 intro pins s σ H xs us Q I r h;obtain⟨a,ns,rfl,sq,hn,q⟩:=h;obtain⟨u,rfl,rx⟩:=bA.one r;cases rx;obtain⟨XD,rv,ht,hz⟩:=I.list sq;obtain⟨xs,e1,e2⟩:=oO rv;have hl:=ht.isList;rw[e1]at hl;have hsz:0<xs.size:=by rw[e2]at hn;simpa using hn
 refine min_intList (I.ok.hd hc) hl hsz λv h' tk hv hk=>?_;obtain⟨t,rfl⟩:=intItems_at hv;obtain⟨h1,h2⟩:=argBest_lt (numAt xs) (xs.size-1);have:numAt xs (argBest (λi j=>decide (numAt xs i<numAt xs j)) (xs.size-1))=zN ns:=by
  refine Zk ?_ λz hz=>?_
  ·rw[numAt_eq,<-e2];have:argBest (λi j=>decide (numAt xs i<numAt xs j)) (xs.size-1)<ns.length:=by rw[e2];simp;lia
   rw[NG,MI this];exact PC _
  ·obtain⟨j,hj,rfl⟩:=List.getElem_of_mem hz;have:=h2 j (by rw[e2]at hj;simp at hj;lia);rw[numAt_eq xs j,<-e2,NG,MI hj]at this;exact this
 rw[this];exact⟨.int _,H,I.kept hk,⟨_,rfl⟩,q⟩
theorem Nk(hc:X.calm=true):iH X (.builtin "max") (λxs H Q=>∃(a:UQ)(ns:List Int),xs=[.ref a]/\jJ X.K H a (ns.map V.int)/\0<ns.length/\Q (.int (zK ns)) H):=by
 intro pins s σ H xs us Q I r h;obtain⟨a,ns,rfl,sq,hn,q⟩:=h;obtain⟨u,rfl,rx⟩:=bA.one r;cases rx;obtain⟨XD,rv,ht,hz⟩:=I.list sq;obtain⟨xs,e1,e2⟩:=oO rv;have hl:=ht.isList;rw[e1]at hl;have hsz:0<xs.size:=by rw[e2]at hn;simpa using hn
 refine max_intList (I.ok.hd hc) hl hsz λv h' tk hv hk=>?_;obtain⟨t,rfl⟩:=intItems_at hv;obtain⟨h1,h2⟩:=argBest_gt (numAt xs) (xs.size-1);have:numAt xs (argBest (λi j=>decide (numAt xs i>numAt xs j)) (xs.size-1))=zK ns:=by
  refine Zj ?_ λz hz=>?_
  ·rw[numAt_eq,<-e2];have:argBest (λi j=>decide (numAt xs i>numAt xs j)) (xs.size-1)<ns.length:=by rw[e2,ML,QX];lia
   rw[NG,MI this];exact PC _
  ·obtain⟨j,hj,rfl⟩:=List.getElem_of_mem hz;have:=h2 j (by rw[e2]at hj;simp at hj;lia);rw[numAt_eq xs j,<-e2,NG,MI hj]at this;exact this
 rw[this];exact⟨.int _,H,I.kept hk,⟨_,rfl⟩,q⟩
def JC(t:Option T)(k:List Int->Prop):Prop:=∃ns:List Int,t=oZ (.lst (ns.map T.int))/\0<ns.length/\k ns
theorem vD{O:UQ->Prop}:∀{ns:List Int}{vs:List V},bW K H O (ns.map T.int) vs->vs=ns.map V.int
 |[],_,h=>h
 |n::ns,_,⟨v,r,e,h1,h2⟩=>by
  subst e;have h1:v=V.int n:=h1;rw[h1,vD h2];rfl
def KI(f:List Int->Int)(Fr:FA):FE:=λE Q=>Fr E λrs E1=>match rs with
 |[x]=>JC (vl E1 x) λns=>Q (.p (.int (f ns))) E1
 |_=>False
theorem Jz(eK:X.K=K)(hc:X.calm=true)(hg:Gl X "min")(hm:X.mg "min" = none)(ha:QA X (e::es) (cZ K n Fr))(hs:bJ (e::es)=true:=by rfl):QE X (.Call (.Name "min" p) (e::es) [] pos) (aJ K (KI zN Fr)):=by
 subst eK;refine(eO (Nm hc) hg hm boot_min ha ∅ ∅ hs).le λσ H Q hl h=>args (Fr:=Fr) h λB S E rs vs H2 Q' hS re rr hn q lk=>?_
 match rs,rr,q with
 |[x],⟨v,ws,e1,h1,h3⟩,q=>
  cases h3;subst e1;obtain⟨ns,e3,h0,q⟩:=q;obtain⟨a,vs,e4,sq,rs⟩:=re.vl h1 e3;rw[vD rs]at sq;exact⟨a,ns,by rw[e4],sq,h0,lk _ _ _ _ _ q .refl re rfl⟩
 |[],_,q=>exact q.elim
 |_::_::_,_,q=>exact q.elim
theorem Jy(eK:X.K=K)(hc:X.calm=true)(hg:Gl X "max")(hm:X.mg "max" = none)(ha:QA X (e::es) (cZ K n Fr))(hs:bJ (e::es)=true:=by rfl):QE X (.Call (.Name "max" p) (e::es) [] pos) (aJ K (KI zK Fr)):=by
 subst eK;refine(eO (Nk hc) hg hm boot_max ha ∅ ∅ hs).le λσ H Q hl h=>args (Fr:=Fr) h λB S E rs vs H2 Q' hS re rr hn q lk=>?_
 match rs,rr,q with
 |[x],⟨v,ws,e1,h1,h3⟩,q=>
  cases h3;subst e1;obtain⟨ns,e3,h0,q⟩:=q;obtain⟨a,vs,e4,sq,rs⟩:=re.vl h1 e3;rw[vD rs]at sq;exact⟨a,ns,by rw[e4],sq,h0,lk _ _ _ _ _ q .refl re rfl⟩
 |[],_,q=>exact q.elim
 |_::_::_,_,q=>exact q.elim
end
section
variable{X:Cx}{K:W.Frag}{Fa:FE}{tg:oC}
def DN(K:W.Frag)(tl:TE):TI:=λσ H R=>tl σ H λx H1=>∃a,x = .ref a/\((∃xs,jJ K H1 a xs)/\R (HC K a) H1\/(∃xs,nA K H1 a xs)/\R (HD K a) H1)
theorem Y8(hl:PE X l tl):PI X tg l (DN X.K tl):=by
 intro pins s σ H R I h;refine cW (hl pins s σ H _ I h) λv s1 zZ=>?_;obtain⟨x,H1,I1,r1,q1⟩:=zZ;obtain⟨a,e,q⟩:=q1;subst e;cases r1;obtain⟨⟨xs,hq⟩,q⟩|⟨⟨xs,hq⟩,q⟩:=q
 ·obtain⟨XD,rv,p,hz⟩:=I1.list hq;refine wpAny_pyIter_list p.isList ?_;refine⟨s1.heap.objs.size,[s1.heap.objs.size],_,_,H1,rfl,I1.kept (t':=s1.toks) λb o e=>MM _ e,yH a _,⟨_,NA _ rfl,rfl,rfl⟩,λb hb=>?_,q⟩;have e:b=s1.heap.objs.size:=by simpa using hb
  subst e;exact I1.fpOk (MQ _) (I1.hok.fresh (MQ _))
 ·obtain⟨XD,rv,p,hz⟩:=I1.tuple hq;refine WK (show s1.heap.IsTuple a XD.toArray from p) ?_;refine⟨s1.heap.objs.size,[s1.heap.objs.size],_,_,H1,rfl,I1.kept (t':=s1.toks) λb o e=>MM _ e,vU a _,⟨_,NA _ rfl,rfl,rfl⟩,λb hb=>?_,q⟩;have e:b=s1.heap.objs.size:=by simpa using hb
  subst e;exact I1.fpOk (MQ _) (I1.hok.fresh (MQ _))
def LV(Fa:FE):FI:=λE Q=>Fa E λr E1=>match vl E1 r with
 |some (.lst xs)=>qJ E1 r=[]/\Q xs [] E1
 |some (.tup xs)=>qJ E1 r=[]/\Q xs [] E1
 |_=>False
theorem Sl(eK:X.K=K)(hl:QE X l (aJ K Fa)):QI X tg l (lJ K (LV Fa)):=by
 subst eK;refine QI.le (t:=DN X.K (aJ X.K Fa)) ⟨Y8 hl.h⟩ λσ H R hn⟨B,S,E,Q',hS,re,hF,lk⟩=>⟨B,S,E,_,hS,re,hF,λr E1 v H1 S1 q g XJ rr=>?_⟩;split at q
 ·rename_i xs e1;obtain⟨a,vs,e2,sq,rs⟩:=XJ.vl rr e1;exact⟨a,e2,.inl ⟨⟨vs,sq⟩,lk _ _ _ _ _ _ _ q.2 g XJ Gy (λj hj=>absurd hj (by simp)) λO h1 h2=>by rw[<-e2];exact nG XJ rr e1 O h1 λj hj=>absurd hj (by rw[q.1];simp)⟩⟩
 ·rename_i xs e1;obtain⟨a,vs,e2,sq,rs⟩:=XJ.vl rr e1;exact⟨a,e2,.inr ⟨⟨vs,sq⟩,lk _ _ _ _ _ _ _ q.2 g XJ Ti (λj hj=>absurd hj (by simp)) λO h1 h2=>by rw[<-e2];exact nG XJ rr e1 O h1 λj hj=>absurd hj (by rw[q.1];simp)⟩⟩
 ·exact q.elim
end
theorem U6{X:Cx}{K:W.Frag}{Fa:FE}{Fb:FE}{a:oC}{b:oC}{pos:Pos}(ha:QE X a (aJ K Fa))(hb:QE X b (aJ K Fb))(hm:VE .In b=false:=by rfl):QT X (.Compare a [.In] [b] pos) (d8 K (wA (IL Fa Fb))):=by
 refine zD Pc ha hb hm λσ H Q h=>two h λB S E x y v w H2 Q' hS re rx ry q lk=>?_;obtain⟨i,j,e1,e2,q⟩:=q.ex;exact⟨i,j,re.str rx e1,re.str ry e2,lk _ _ _ _ _ q .refl re rfl⟩
section
variable{X:Cx}{K:W.Frag}{pos:Pos}{o e:oC}{Fo:FE}{Fr:FA}
def CT(Fo:FE)(Fr:FA):FE:=λE Q=>Fo E λo E1=>o1 (ownOf E1 o) λ_=>Fr E1 λrs E2=>match o with
 |.s j=>o1 (rA E2 rs) λz=>match z.1,z.2[j]? with
  |[t],oZ (oZ (.o k xs))=>xs.length<9000/\Q (.p .non) (z.2.set j (oZ (.o k (xs++[t]))))
  |_,_=>False
 |_=>False
theorem nO(eK:X.K=K)(ho:QE X o (aJ K Fo))(ha:QA X [e] (cZ K n Fr))(YF:VR o "append" X.env (VF o X.env)=VF o X.env:=by rfl)(YG:(ap.endLine==pos.line)=true:=by rfl)(hs:bO e=false:=by rfl):
  QE X (.Call (.Attribute o "append" ap) [e] [] pos) (aJ K (CT Fo Fr)):=by
 subst eK;refine(xY ho ha YF YG hs).le λσ H Q hl h=>?_;obtain⟨B,S,E,Q',⟨τ,hS⟩,re,hF,lk⟩:=h;refine⟨B,S,E,_,⟨τ,hS⟩,re,hF,λoo E1 v H1 S1 q g1 XJ rx=>?_⟩;obtain⟨τ1,ZG⟩:=g1.pre;obtain⟨fu,e0,q⟩:=o1.ex q;obtain⟨j,k,p,vs,rfl,hE,hSj,rfl,h2,h3⟩:=XJ.ownOf rx e0;refine⟨.inl ⟨rfl,vs,jJ.of h2⟩,B,S1,E1,_,⟨τ++τ1,by rw[ZG,hS,MO]⟩,XJ,q,λrs E2 us H2 S2 q2 g2 YE rr hn=>?_⟩;have iu:S2[j]?=oZ (oZ (.ref p)):=gL g2.pre hSj;simp only at q2;obtain⟨z,e3,q2⟩:=o1.ex q2;obtain⟨YM,ow,rp⟩:=mL YE rr e3;obtain⟨ts,E3⟩:=z;simp only at q2 YM ow rp;split at q2
 ·rename_i t k2 xs hE3;obtain⟨hz,q2⟩:=q2;obtain⟨p',vs2,z1,z2,z3,_⟩:=YM.own j k2 xs hE3;rw[iu]at z1;cases z1;obtain⟨y,ws,rfl,r1,r2⟩:=rp;cases r2;refine⟨p,vs2,y,rfl,rfl,z2,?_,?_⟩
  ·rw[z3.length];exact bU ⋯
  ·have rp1:bW X.K H2 (Ow B S2 E3) [t] [y]:=⟨y,[],rfl,r1,rfl⟩;obtain⟨g3,ig⟩:=YM.put hE3 iu (z3.append rp1);exact lk _ _ _ _ _ q2 ((g1.trans g2).trans (Gr.trans ⟨Kp.less ow,[],by simp⟩ g3)) ig rfl
 ·exact q2.elim
end
theorem iG(a:sc.kind = .function:=by rfl)(b:sc.isCoroutine=false:=by rfl)(c:sc.isGenerator=false:=by rfl)(d:N.Nodup:=by decide +kernel)(e:N.take P.length=P:=by rfl)(f:∀x∈P,sc.names.lookup x=oZ .local\/sc.names.lookup x=oZ .cell:=by decide +kernel)(g:∀y∈sc.names,y.2≠.free:=by decide +kernel):aK N P sc:=⟨a,b,c,d,e,f,g⟩
theorem f1{X:Cx}{K:W.Frag}{Fa:FE}{e:oC}(a:QE X e (aJ K Fa))(h:bO e=false:=by rfl):QA X [e] (cZ K (0+1) (lP Fa Qp)):=fc a lV h
theorem f2{X:Cx}{K:W.Frag}{Fa:FE}{Fb:FE}{e:oC}{e':oC}(a:QE X e (aJ K Fa))(b:QE X e' (aJ K Fb))(h:bO e=false:=by rfl)(h':bO e'=false:=by rfl):QA X [e,e'] (cZ K (0+1+1) (lP Fa (lP Fb Qp))):=fc a (f1 b h') h
theorem f3{X:Cx}{K:W.Frag}{Fa:FE}{Fb:FE}{Fc:FE}{e:oC}{e':oC}{e1:oC}(a:QE X e (aJ K Fa))(b:QE X e' (aJ K Fb))(c:QE X e1 (aJ K Fc))(h:bO e=false:=by rfl)(h':bO e'=false:=by rfl)(h1:bO e1=false:=by rfl):QA X [e,e',e1] (cZ K (0+1+1+1) (lP Fa (lP Fb (lP Fc Qp)))):=fc a (f2 b c h' h1) h
theorem f4{X:Cx}{K:W.Frag}{Fa:FE}{Fb:FE}{Fc:FE}{Fd:FE}{e:oC}{e':oC}{e1:oC}{e2:oC}(a:QE X e (aJ K Fa))(b:QE X e' (aJ K Fb))(c:QE X e1 (aJ K Fc))(d:QE X e2 (aJ K Fd))(h:bO e=false:=by rfl)(h':bO e'=false:=by rfl)(h1:bO e1=false:=by rfl)(h2:bO e2=false:=by rfl):QA X [e,e',e1,e2] (cZ K (0+1+1+1+1) (lP Fa (lP Fb (lP Fc (lP Fd Qp))))):=fc a (f3 b c d h' h1 h2) h
theorem fX{X:Cx}{K:W.Frag}{pos:Pos}{Fa:FE}{Fb:FE}{e:oC}{e':oC}(a:QE X e (aJ K Fa))(b:QE X e' (aJ K Fb))(eK:X.K=K:=by rfl)(hs:pC e':=by exactλ_ _=>rfl):QE X (.Subscript e e' pos) (aJ K (IM Fa Fb)):=L8 eK a b hs
theorem fQ{X:Cx}{K:W.Frag}{pos:Pos}(i:Nat){x:Str}{n:Int}{j p p'}(hN:X.N[i]?=oZ x:=by rfl)(hv:R7 X.env.scope x:=by first|exact ON rfl|exact QP (ON rfl)|exact QP (QP rfl))(hd:(x==("__debug__":Str))=false:=by decide)(bc:(x==("__classdict__":Str))=false:=by decide)(eK:X.K=K:=by rfl):QE X (.Subscript (.Name x p) (.Constant (.int n) j p') pos) (aJ K (IM (T5 i) (fC (.int n)))):=L8 eK (fv i hN hv hd bc) aA λ_ _=>rfl
theorem fK{X:Cx}{K:W.Frag}{pos:Pos}{e:oC}{es:List oC}{n k j:Nat}{x:Str}{ps:List Str}{S:iO}{Fr:FA}{p:Pos}(F:Fn X.prog X.w X.K X.mg X.base k x ps (aQ K S))(ha:QA X (e::es) (cZ K n Fr))(hr:dW j X.A:=by assumption)(hk:k<=j:=by decide)(hg:Gl X x:=by rfl)(ZR:(x==("__debug__":Str))=false:=by decide)(hs:bJ (e::es)=true:=by rfl):QE X (.Call (.Name x p) (e::es) [] pos) (aJ K (Sa S Fr)):=Yr F hr hk hg ha ZR hs
theorem fB{X:Cx}{K:W.Frag}{pos:Pos}{e:oC}{es:List oC}{n k j:Nat}{x:Str}{ps:List Str}{S:iO}{Fr:FA}{p:Pos}(F:Fn X.prog X.w X.K X.mg X.base k x ps (aQ K S))(ha:QA X (e::es) (cZ K n Fr))(hr:dW j X.A:=by assumption)(hk:k<=j:=by decide)(hg:Gl X x:=by rfl)(ZR:(x==("__debug__":Str))=false:=by decide)(hs:bJ (e::es)=true:=by rfl):QE X (.Call (.Name x p) (e::es) [] pos) (aJ K (Sb S Fr)):=Sf F hr hk hg ha ZR hs
theorem fS{X:Cx}{K:W.Frag}{pos:Pos}{Fa:FE}{e:oC}(i:Nat){x:Str}{pos':Pos}(hN:X.N.Nodup)(he:QE X e (aJ K Fa))(hi:X.N[i]?=oZ x:=by rfl)(hx:yK X.env.scope x:=by first|exact .inl rfl|exact .inr rfl)(hs:VL e (oZ (.Name x pos')) pos.line X.env=pure false:=by rfl)(hf:X.fn x=true\/X.env.scope.names.lookup x=oZ .local:=by first|exact .inl rfl|exact .inr rfl):QS X (.Assign [.Name x pos'] e pos) (gU K (G9 i Fa)):=U5 hN hi hx he hs hf
theorem fG{X:Cx}{K:W.Frag}{pos:Pos}(i:Nat){x:Str}(hN:X.N.Nodup)(hi:X.N[i]?=oZ x:=by rfl)(hx:yK X.env.scope x:=by first|exact .inl rfl|exact .inr rfl)(hf:X.fn x=true\/X.env.scope.names.lookup x=oZ .local:=by first|exact .inl rfl|exact .inr rfl):QG X (.Name x pos) (qH K (Kr i)):=Kb hN hi hx hf
theorem fH{X:Cx}{K:W.Frag}{pos:Pos}(i:Nat){x:Str}{N':List Str}{scope C s3 H3 fp}(hN:N'.Nodup:=by decide +kernel)(hi:N'[i]?=oZ x:=by rfl)(hx:yK (bN X N' scope C s3 H3 fp).env.scope x:=by first|exact .inl rfl|exact .inr rfl)(hf:(bN X N' scope C s3 H3 fp).fn x=true\/(bN X N' scope C s3 H3 fp).env.scope.names.lookup x=oZ .local:=by first|exact .inl rfl|exact .inr rfl):QG (bN X N' scope C s3 H3 fp) (.Name x pos) (qH K (Kr i)):=Kb hN hi hx hf
theorem fP{X:Cx}{K:W.Frag}{pos:Pos}{Fa:FE}{Fb:FE}{e:oC}{e':oC}{op:CmpOp}{g:Int->Int->Bool}(ho:lK X (VG op) (Pm λi j=>.bl (g i j)))(ha:QE X e (aJ K Fa))(hb:QE X e' (aJ K Fb))(hm:VE op e'=false:=by exact cH _):QT X (.Compare e [op] [e'] pos) (d8 K (wA (IK g Fa Fb))):=DF ho ha hb hm
theorem dY.okU{P:UU}{w:UY}{K:W.Frag}{mg:Str->Option oA}{base:oE}{x qual:Str}{st:UZ}{f:UQ}{fd:VH}{N ps:List Str}{k:Nat}{S:iO}{F:FS}(Fn:dY K x qual st f fd)(Sc:aK N ps (aC st))
  (hb:∀{YH:oA}{A:oD}{outer:List Env}{s:oB}{H:Hp}{E:XK},dW k (A.deeper (WL qual (aC st) s.heap.objs.size f YH))->QB (yV eT P w K mg base N qual (aC st) f YH A outer s H E).nox (dF st) (gU K F))
  (hF:∀as Q,S as Q->F (endT as Q) (qU as++NW (N.length-as.length) none)) (len:∀as Q,S as Q->as.length=ps.length:=by intro as Q h;(repeat obtain⟨_,h⟩:=h);all_goals (subst as;rfl)):(~~~bE) eT (k+1) f fd ps (aQ K S):=Fn.okT Sc len (λ_ _ _ _ _ _ h=>hb h) hF
section
variable{prog:UU}{w:UY}{K:Type}[DecidableEq K](knd:HeapKind prog w K)
def vW(h:oE)(k:K×K)(a:UQ):Prop:=∃o n b c,h.get? a=oZ o/\o.cls = .type "tuple"/\o.data = .seq #[.ref b,.ref c] n/\knd.is h k.1 b/\knd.is h k.2 c
variable{knd}
theorem vW.inj(hx:vW knd h x a)(hy:vW knd h y a):x=y:=by
 obtain⟨o,n,b,c,e,_,d,p,q⟩:=hx;obtain⟨o',n',b',c',e',_,d',p',q'⟩:=hy;rw[e]at e';cases e';rw[d]at d';cases d';exact Prod.ext (knd.inj p p') (knd.inj q q')
theorem vW.keeps{es ep}(x:vW knd h k a)(ho:h.get? d=oZ o)(hd:o.data = .dict es ep)(hs:PN d h h'):vW knd h' k a:=by
 obtain⟨o',n,b,c,e,k1,k2,p,q⟩:=x;refine⟨o',n,b,c,(hs.2 a λz=>?_).trans e,k1,k2,knd.keeps p ho hd hs,knd.keeps q ho hd hs⟩;subst z;rw[e]at ho;cases ho;rw[k2]at hd;cases hd
theorem vW.ty{s:oB}(x:vW knd s.heap k a):s.TypeIs (.ref a) "tuple":=by
 obtain⟨o,n,b,c,e,k1,_⟩:=x;exact⟨o,e,k1⟩
variable{A:oD}{E:oA->oB->Prop}{s:oB}
theorem vW.hash{Q:Int->oB->Prop}(hu:A.units<VW)(hr:knd.room A.in1)(x:vW knd s.heap k a)(h:Q (reduceHash (Builtin.Tuple.tupleHashOf [knd.hash k.1,knd.hash k.2])) { s with toks:=s.toks+(knd.draws k.1+knd.draws k.2+1) }):
  US (UW prog w) A (pyHash (.ref a)) Q E s:=by
 have hT:=x.ty;obtain⟨o,n,b,c,ho,_,hd,p,q⟩:=x;unfold pyHash;unfold pyHashByItsType;refine UP (wpAny_cRoomFor_or (.inr hu) ?_);refine UP (wpAny_specialOf hT F.slot_tuple_hash.lookup ?_);show US _ _ (if(oZ (Value.builtin "tuple.__hash__")==oZ PK)=true then _ else _) Q E s;rw[oW ∅];refine UP (wpAny_specialOf hT F.slot_tuple_hash.lookup ?_);refine UP (wpAny_callSpecialIfBoundUnlessNone?_slot hT F.slot_tuple_hash (VI F.slot_tuple_hash hT F.entry_tuple_hash ?_ (F.args_tuple_hash_1 _)));show US _ _ (Builtin.Tuple.tupleItemsOf (.ref a) >>= _) _ _ s;refine UP (wpAny_tupleItemsOf ho hd ?_);refine UP ?_;rw[<-Array.forIn_toList];show US _ _ (forIn [NO b,NO c] _ _) _ _ _;rw[RB];refine UP (UP (knd.pyHash hr p (UR ?_)));show US _ _ (forIn [NO c] _ _) _ _ _;rw[RB];refine UP (UP (knd.pyHash hr (show knd.is _ k.2 c from q) (UR ?_)));show US _ _ (forIn [] _ _) _ _ _;rw[UH];refine UR ?_;show US _ _ (retInt (Builtin.Tuple.tupleHashOf [knd.hash k.1,knd.hash k.2])) _ _ _;refine wpAny_ret_mkInt ?_;generalize Builtin.Tuple.tupleHashOf [knd.hash k.1,knd.hash k.2]=z at *;show US _ _ (if(decide (-(2:Int)^63<=z)&&decide (z<2^63))=true then _ else _) Q E _;have e:∀y,{ s with toks:=y } = ({ s with toks:=y }:oB):=λ_=>rfl;unfold reduceHash at h
 by_cases hz:(decide (-(2:Int)^63<=z)&&decide (z<2^63))=true
 ·rw[oV hz];rw[oV hz]at h;refine UR ?_
  simpa[Nat.add_assoc]using h
 ·rw[oW hz];rw[oW hz]at h;refine UP (WD (UR ?_))
  simpa[Nat.add_assoc]using h
theorem vW.eqBody{P:Fin->oB->Prop}(hr:knd.room A)(hx:vW knd s.heap x a)(hy:vW knd s.heap y b)(h:P (.done (.ret (.bool (decide (x=y))))) s):
  US (UW prog w) A (Builtin.«tuple.__eq__» ⟨[.ref a,.ref b],[]⟩) P E s:=by
 have hTb:=hy.ty;obtain⟨o,n,b1,c1,ho,_,hd,p,q⟩:=hx;obtain⟨o',n',b2,c2,ak,_,vf,p',q'⟩:=hy;show US _ _ (isInstance (.ref b) (.type "tuple") >>= _) _ _ s;refine UP (wpAny_isInstance hTb isSubtype_tuple_tuple ?_);simp only[RG,OD,if_false];refine UP (wpAny_tupleItemsOf ho hd ?_);refine UP (wpAny_tupleItemsOf ak vf ?_);refine UP ?_;show US _ _ (forIn [(NO b1,NO b2),(NO c1,NO c2)] _ _) _ _ _;rw[RB];refine UP (UP (knd.eqBool hr p p' ?_))
 by_cases e1:x.1=y.1
 ·rw[oY e1];simp only[RG,OD,if_false];refine UR ?_;show US _ _ (forIn [(NO c1,NO c2)] _ _) _ _ _;rw[RB];refine UP (UP (knd.eqBool hr q q' ?_))
  by_cases e2:x.2=y.2
  ·rw[oY e2];simp only[RG,OD,if_false];refine UR ?_;show US _ _ (forIn [] _ _) _ _ _;rw[UH];refine UR (UR ?_);rw[oY (Prod.ext e1 e2)]at h;exact h
  ·rw[oX e2];simp only[UJ,if_true];rw[oX λz=>e2 (by rw[z])]at h;exact UP (UR (UR (UR (UR h))))
 ·rw[oX e1];simp only[UJ,if_true];rw[oX λz=>e1 (by rw[z])]at h;exact UP (UR (UR (UR (UR h))))
theorem vW.eq{Q:Bool->oB->Prop}(hu:A.units<VW)(hr:knd.room A.in1)(hx:vW knd s.heap x a)(hy:vW knd s.heap y b)(h:Q (decide (x=y)) s):
  US (UW prog w) A (eqBool (.ref a) (.ref b)) Q E s:=by
 unfold eqBool;refine VZ ?_
 by_cases xt:(NO a==NO b)=true
 ·rw[oV xt];have e:a=b:=by have:=eq_of_beq xt;injection this
  subst e;obtain rfl:=hx.inj hy;exact UP (WD (UR (by simpa using h)))
 ·rw[oW xt];exact UP (wpAny_richCompare_same_room (op:=.Eq) hx.ty hy.ty F.slot_tuple_eq
   (VI F.slot_tuple_eq hx.ty F.entry_tuple_eq (vW.eqBody hr hx hy ⟨_,rfl,(λe=>nomatch e),VJ h⟩) (F.args_tuple_eq_2 _ _)) hu)
theorem yG{vs:List oA}{o:Obj}{Q:Bool->oB->Prop}(ho:s.heap.get? a=oZ o)(hc:o.cls = .type "tuple")(hd:o.data = .seq vs.toArray m)(hv:∀v∈vs,∀(E:oA->oB->Prop)(R:Bool->oB->Prop),R true s->US (UW prog w) A (eqIsQuiet n v) R E s)(h:Q true s):
  US (UW prog w) A (eqIsQuiet (n+1) (.ref a)) Q E s:=by
 have hT:s.TypeIs (.ref a) "tuple":=⟨o,ho,hc⟩;unfold eqIsQuiet;refine UP (wpAny_specialOf hT F.slot_tuple_eq.lookup ?_);show US _ _ (isInstance (.ref a) (.type "tuple") >>= _) _ _ s;refine UP (wpAny_isInstance hT isSubtype_tuple_tuple ?_);simp only[RG,OD,if_false];refine UP (WE ho hd ?_);refine UP ?_;show US _ _ (forIn vs.toArray _ _) _ _ s;rw[<-Array.forIn_toList];refine wpAny_forIn_list _ (λrest r s'=>r.1=none/\s'=s/\∀v∈rest,v∈vs) _ ?_ ?_ _ _ ⟨rfl,rfl,λv m=>by simpa using m⟩
 ·rintro v rest r s' ⟨hr,rfl,du⟩;refine UP (hv v (du v OV) _ _ ?_);simp only[RG,OD,if_false];exact UR ⟨rfl,rfl,λu zu=>du u (NF _ zu)⟩
 ·rintro⟨r1,r2⟩ s' ⟨hr,rfl,_⟩;simp only at hr;subst hr;exact UR h
end
abbrev K2:=List Key×List Key
section
variable{P:UU}{w:UY}
def Z1(P:UU)(w:UY):HeapKind P w K2 where
 is:=vW (VT (b9 P w))
 hash:=λk=>reduceHash (Builtin.Tuple.tupleHashOf [(VT (b9 P w)).hash k.1,(VT (b9 P w)).hash k.2])
 draws:=λk=>(VT (b9 P w)).draws k.1+(VT (b9 P w)).draws k.2+1
 room:=λA=>A.units<VW/\(VT (b9 P w)).room A.in1
 inj:=vW.inj
 keeps:=vW.keeps
 pyHash:=λhr x h=>vW.hash hr.1 hr.2 x h
 eqBool:=λhr x y h=>vW.eq hr.1 hr.2 x y h
 quiet:=λ{A E s k a Q}x h=>by
  obtain⟨o,n,b,c,ho,hc,hd,p,q⟩:=x;have inner:∀{l:List Key}{b:UQ},(VT (b9 P w)).is s.heap l b->∀(E:oA->oB->Prop)(R:Bool->oB->Prop),R true s->US (UW P w) A (eqIsQuiet 7 (.ref b)) R E s:=λ{l b}x E R r=>by
   obtain⟨ob,items,m,h1,h2,h3,h4⟩:=x;exact yG (vs:=items.toList) h1 h2 (by simpa using h3) (λv hv E' R' r'=>by rw[eqIsQuiet_byValue 6 (h4.byValue v hv)];exact UR r') r
  refine yG (vs:=[.ref b,.ref c]) ho hc hd (λv hv E' R' r'=>?_) h;obtain e|hv:=MJ.mp hv
  ·subst e;exact inner p E' R' r'
  ·rw[MW.mp hv];exact inner q E' R' r'
theorem Dk{A:oD}(hu:A.units+2<VW):(Z1 P w).room A.in1:=⟨by show A.units+1<VW;lia,hu⟩
end
def Dc(a:UQ)(o:Obj):HO:=.ext λh=>h.get? a=oZ o
def Qd(K:W.Frag)(H:Hp)(k:K2)(b:UQ):Prop:=∃c d,nA K H b [.ref c,.ref d]/\nA K H c (k.1.map kV)/\nA K H d (k.2.map kV)
structure Ey(P:UU)(w:UY)(K:W.Frag)(H:Hp)(a:UQ)(o:Obj)(f:K2->Int)(n:Nat):Prop where
 get:H a=oZ (Dc a o)
 nm:(a==VO)=false
 ex:∃(es:Array DictEntry)(ep:Nat)(xs:List (K2×UQ×oA)),o.ExactDict/\o.data = .dict es ep/\es.toList=xs.map (entryOfKey (Z1 P w))/\(xs.map (·.1)).Nodup/\xs.length=n/\(∀x∈xs,Qd K H x.1 x.2.1)/\
  ∀k,match atKey xs k with
   |none=>f k=0
   |some p=>∃t,p.2 = .int (f k) t
theorem Tp(I:aS X pins σ H s)(h:nA X.K H b (l.map kV)):(VT (b9 X.prog X.w)).is s.heap l b:=by
 obtain⟨XD,r,⟨o,h1,h2,n,h3⟩,_⟩:=I.tuple h;exact⟨o,XD.toArray,n,h1,h2,h3,by simpa using rE r⟩
theorem Qd.is(I:aS X pins σ H s)(x:Qd X.K H k b):(Z1 X.prog X.w).is s.heap k b:=by
 obtain⟨c,d,h,h1,h2⟩:=x;obtain⟨XD,r,⟨o,g1,g2,n,g3⟩,_⟩:=I.tuple h;obtain⟨u,v,rfl,ru,rv⟩:=bA.two r;cases ru;cases rv;exact⟨o,n,c,d,g1,g2,g3,Tp I h1,Tp I h2⟩
theorem xE(I:aS X pins σ H s)(h:H a=oZ (Dc a o)):s.heap.get? a=oZ o:=(I.hok a _ h).1
theorem L4{X:Cx}{h:oE}(e:h.get? a=oZ o):dD X.prog X.w H' h a (Dc a o):=⟨e,⟨o,e⟩,λ_ _ p q=>q o p⟩
theorem Gw{k:K2}:(atKey (storedH xs k b v) k').map (·.2)=if k'=k then oZ v else(atKey xs k').map (·.2):=by
 have one:∀{ys:List (K2×UQ×oA)}(x:K2×UQ×oA),atKey (x::ys) k'=if x.1=k' then oZ x.2 else atKey ys k':=λ{ys}x=>by
  unfold atKey;rw[RK]
  by_cases c:x.1=k'
  ·simp[c]
  ·simp[c]
 have any:∀ys:List (K2×UQ×oA),(∀p∈ys,p.1≠k)->atKey ys k=none:=λys h=>by
  unfold atKey;rw[List.find?_eq_none.mpr λx hx=>by simpa using h x hx];rfl
 have mem:∀ys:List (K2×UQ×oA),atKey ys k=none->∀p∈ys,p.1≠k:=λys h p hp e=>by
  unfold atKey at h;have:=List.find?_eq_none.mp (Option.map_eq_none_iff.mp h) p hp;simp[e]at this
 unfold storedH
 by_cases c:(atKey xs k).isSome=true
 ·rw[oV c];have:∀ys:List (K2×UQ×oA),(atKey (ys.map (putAt k v)) k').map (·.2)=(atKey ys k').map λp=>if k'=k then v else p.2:=λys=>by
   induction ys with
   |nil=>rfl
   |cons x ys ih=>
    rw[MR,one,one];have e:(putAt k v x).1=x.1:=by unfold putAt;split<;>rfl
    rw[e]
    by_cases d:x.1=k'
    ·rw[oV d,oV d];unfold putAt
     by_cases d':x.1=k
     ·rw[oV d'];simp[<-d,d']
     ·rw[oW d'];simp[<-d,d']
    ·rw[oW d,oW d];exact ih
  rw[this]
  by_cases d:k'=k
  ·subst d;cases q:atKey xs k' with
   |none=>rw[q]at c;cases c
   |some p=>simp
  ·simp[d]
 ·rw[oW c];have c':atKey xs k=none:=by simpa using c
  have YY:=mem xs c';have:∀ys:List (K2×UQ×oA),(∀p∈ys,p.1≠k)->(atKey (ys++[(k,b,v)]) k').map (·.2)=if k'=k then oZ v else(atKey ys k').map (·.2):=λys=>by
   induction ys with
   |nil=>
    intro _;rw[OP,one]
    by_cases d:k'=k
    ·rw[oV d.symm,oV d];rfl
    ·rw[oW λz=>d z.symm,oW d]
   |cons x ys ih=>
    intro hm;rw[List.cons_append,one,one]
    by_cases d:x.1=k'
    ·have:k'≠k:=λz=>hm x OV (d.trans z);rw[oV d,oV d,oW this]
    ·rw[oW d,oW d];exact ih λp hp=>hm p (NF _ hp)
  exact this xs YY
theorem Gz{xs:List (K2×UQ×oA)}:(storedH xs k b v).length<=xs.length+1:=by
 unfold storedH;split<;>simp
theorem CC{X:Cx}{f:K2->Int}{A:oD}{E:oA->oB->Prop}{Q:oA->oB->Prop}(hu:A.units+2<VW)(I:aS X pins σ H s)(c:Ey X.prog X.w X.K H a o f n)(kb:Qd X.K H k b)(h:∀t s',aS X pins σ H s'->Q (.int (f k) t) s'):
  US (UW X.prog X.w) A (call (.builtin "dict.get") [.ref a,.ref b,.int 0 t0]) Q E s:=by
 obtain⟨es,ep,xs,e1,e2,e3,e4,e5,e6,e7⟩:=c.ex;have dd:s.heap.DictOfH (Z1 X.prog X.w) a xs:=⟨o,es,ep,xE I c.get,e1,e2,e3,λx hx=>(e6 x hx).is I,e4⟩;refine call_meetsIn PySem.F.slot_dict_get dd.typeIs PySem.F.entry_dict_get (PySem.F.args_dict_get_3 _ _ _) (meetsH_dict_get_default (Z1 X.prog X.w) a b c.nm (.int 0 t0)) ⟨Dk hu,k,xs,kb.is I,dd,?_⟩;have:=e7 k;cases q:atKey xs k with
 |none=>
  rw[q]at this;have z:f k=0:=this;show Q (.int 0 t0) _;rw[<-z];exact h t0 _ (I.tok _)
 |some p=>
  rw[q]at this;obtain⟨t,e⟩:=(show ∃t,p.2 = .int (f k) t from this);show Q (oZ p.2|>.getD _) _;rw[e];exact h t _ (I.tok _)
theorem Qd.keep{H:Hp}{b:UQ}{k:K2}{K:W.Frag}{H':Hp}(x:Qd K H k b)(h:∀b xs,nA K H b xs->nA K H' b xs):Qd K H' k b:=by
 obtain⟨c,d,h1,h2,h3⟩:=x;exact⟨c,d,h _ _ h1,h _ _ h2,h _ _ h3⟩
theorem Wm{H:Hp}{a:UQ}{o:Obj}{K:W.Frag}{o':Obj}(e:H a=oZ (Dc a o)):∀b xs,nA K H b xs->nA K (upd H a (Dc a o')) b xs:=λb xs h=>by
 have go:∀u,H b=oZ u->(∀φ,u≠.ext φ)->(upd H a (Dc a o')) b=oZ u:=λu h n=>by
  rw[aT (λz=>by subst z;rw[e]at h;cases h;exact n _ rfl)];exact h
 obtain (h|⟨q,h⟩)|h:=h
 ·exact .inl (.inl (go _ h λ_ z=>nomatch z))
 ·exact .inl (.inr ⟨q,go _ h λ_ z=>nomatch z⟩)
 ·exact .inr h
theorem CD{X:Cx}{k:K2}{f:K2->Int}{A:oD}{E:oA->oB->Prop}{Q:Unit->oB->Prop}{m:Int}(hu:A.units+2<VW)(hn:n<UT)(I:aS X pins σ H s)(c:Ey X.prog X.w X.K H a o f n)(kb:Qd X.K H k b)(h:∀o' n' s',n'<=n+1->Ey X.prog X.w X.K (upd H a (Dc a o')) a o' (λj=>if j=k then m else f j) n'->aS X pins σ (upd H a (Dc a o')) s'->Q () s'):
  US (UW X.prog X.w) A (setItem (.ref a) (.ref b) (.int m t)) Q E s:=by
 obtain⟨es,ep,xs,e1,e2,e3,e4,e5,e6,e7⟩:=c.ex;have dd:s.heap.DictOfH (Z1 X.prog X.w) a xs:=⟨o,es,ep,xE I c.get,e1,e2,e3,λx hx=>(e6 x hx).is I,e4⟩;refine wpAny_setItem_heap (hsz:=by lia) (Dk hu) (kb.is I) dd λh' dd' hs=>?_;obtain⟨o',ck,vh,g1,g2,g3,g4,_,g5⟩:=dd';refine h o' _ _ (by rw[<-e5];exact Gz) ⟨bY,c.nm,ck,vh,_,g2,g3,g4,g5,rfl,λx hx=>?_,λj=>?_⟩ (Ju I (by rw[c.get];exact True.intro) hs ⟨o',g1⟩ (L4 g1))
 ·obtain⟨y,hy,q1,q2⟩|⟨q1,q2⟩:=mem_storedH hx
  ·rw[q1,q2];exact(e6 y hy).keep (Wm c.get)
  ·rw[q1,q2];exact kb.keep (Wm c.get)
 ·have r:=Gw (xs:=xs) (k:=k) (k':=j) (b:=b) (v:=.int m t);have:=e7 j
  by_cases d:j=k
  ·rw[oV d]at r;cases q:atKey (storedH xs k b (.int m t)) j with
   |none=>rw[q]at r;cases r
   |some p=>rw[q]at r;exact⟨t,by rw[oV d];exact Option.some.inj r⟩
  ·rw[oW d]at r;simp only[oW d];cases q:atKey (storedH xs k b (.int m t)) j with
   |none=>
    rw[q]at r;cases q2:atKey xs j with
    |none=>rw[q2]at this;exact this
    |some p=>rw[q2]at r;cases r
   |some p=>
    rw[q]at r;cases q2:atKey xs j with
    |none=>rw[q2]at r;cases r
    |some p2=>
     rw[q2]at r this;have e:p.2=p2.2:=Option.some.inj r;obtain⟨t',z⟩:=(show ∃t,p2.2 = .int (f j) t from this);exact⟨t',by rw[e];exact z⟩
theorem Iu(hd:(d==VO)=false):
  MeetsIn prog w (Builtin.«dict.values» ⟨[.ref d],[]⟩) (λ_ R s=>s.TypeIs (.ref d) "dict"/\R (.ok (.ret (.ref s.heap.objs.size))) { s with heap:=s.heap.push { cls:=.type "dict_values",data:=.fields #[.ref d] } }):=
 .of_wp λA R s zZ=>by
  obtain⟨hm,h⟩:=zZ;refine UP ?_;unfold Builtin.Dict.noArgs;refine UP (wpAny_notOrdered_dict hm ?_);show US _ _ (pure d) _ _ s;refine UR ?_;show US _ _ (Builtin.Dict.showsAll d >>= _) _ _ s;unfold Builtin.Dict.showsAll;rw[oW (by simp[hd])];exact UP (UR (UP (VD (UR ⟨_,rfl,h⟩))))
theorem Qa{prog:UU}{w:UY}{A:oD}{E:oA->oB->Prop}{s:oB}{d:UQ}{o:Obj}{es:Array DictEntry}{ep:Nat}{v:UQ}{Q:oA->oB->Prop}(hv:s.heap.IsValuesView v d)(ho:s.heap.get? d=oZ o)(yb:o.data = .dict es ep)(hQ:Q (.ref s.heap.objs.size) { s with heap:=s.heap.push { cls:=.type "dict_valueiterator",data:=.fields #[.ref d,.int 0 0,.int es.size 0,.int ep 0] } }):
  US (UW prog w) A (pyIter (.ref v)) Q E s:=by
 obtain⟨ov,yc,hcv,hdv⟩:=id hv;refine wpAny_pyIter_slot hv.typeIs F.slot_dict_values_iter (VI F.slot_dict_values_iter hv.typeIs F.entry_dict_values_iter ?_ (F.args_dict_values_iter_1 _));unfold Builtin.«dict_values.__iter__»;refine UP (UR (UP ?_));unfold Builtin.Dict_items.dictOf;refine UP (VN yc hdv (x:=.ref d) rfl (UR (UP ?_)));unfold Builtin.Dict_items.newIterator;refine UP (wpAny_dictEntries ho yb (UP (wpAny_dictEpoch ho yb ?_)));simp only[show Builtin.Dict_items.ownsTuple "dict_valueiterator" = false by decide,OD,if_false];refine VD (UR ⟨_,rfl,"dict_valueiterator",_,⟨_,NA _ rfl,rfl⟩,F.slot_dict_valueiterator_next.lookup,?_⟩)
 simpa[WX]using hQ
theorem Pz{prog:UU}{w:UY}{A:oD}{E:oA->oB->Prop}{s:oB}{d:UQ}{it:UQ}{o:Obj}{es:Array DictEntry}{ep:Nat}{i:Nat}{Q:Option oA->oB->Prop}(hit:s.heap.IsValIter it d i es.size ep)(yd:s.heap.get? d=oZ o)(il:o.data = .dict es ep)(hi:i<es.size)(hQ:∀h',h'.IsValIter it d (i+1) es.size ep->PN it s.heap h'->Q (oZ es[i].val) { s with heap:=h' }):
  US (UW prog w) A (pyNext (.ref it)) Q E s:=by
 obtain⟨u,hu,hc,hd⟩:=id hit;unfold pyNext;refine UP (XA (wpAny_callSpecial?_slot (name:=PZ "__next__") hit.typeIs F.slot_dict_valueiterator_next
  (VI F.slot_dict_valueiterator_next hit.typeIs F.entry_dict_valueiterator_next ?_ (F.args_dict_valueiterator_next_1 _))))
 refine UP (UR (UP (UP ?_)))
 first|refine UP (wpAny_typeNameOfWhole_valiter hit.typeIs (UR ?_))|refine UP (wpAny_typeNameOf_valiter hit.typeIs (UR ?_))
 refine UP (wpAny_fieldsOf hu hd ?_);simp only[show Builtin.Dict_items.ownsTuple "dict_valueiterator" = false by decide,OD,if_false];show US _ _ (if(NO d==PK)=true then _ else _) _ _ s;rw[oW (show ¬((NO d==PK)=true)from PL)];refine UP (UR (UP (wpAny_dictEntries yd il ?_)));rw[oW (by simp)];refine UP (UR (UP (wpAny_dictEpoch yd il ?_)));rw[oW (by simp)];refine UR ?_;simp only[show ¬((i:Int)<0)from by lia,if_false,PH,TC hi];refine UP ?_
 first|refine UP (wpAny_typeNameOfWhole_valiter hit.typeIs (UR ?_))|refine UP (wpAny_typeNameOf_valiter hit.typeIs (UR ?_))
 refine UP (wpAny_isOneOf_valiter hit.typeIs ?_);show US _ _ (setField (.ref it) 1 (WX ((i:Int)+1)) >>= _) _ _ s;refine UP (WV hu hd (by simp) ?_);generalize hh':s.heap.update it (Obj.mapFields (·.setIfInBounds 1 (WX ((i:Int)+1))))=h';have gy:h'.IsValIter it d (i+1) es.size ep:=by
  rw[<-hh'];exact⟨_,QD _ hu (Obj.isFreed_of_fields (RL hd _)),(Obj.cls_mapFields ..).trans hc,by rw[RL hd];simp[WX]⟩
 have sb:PN it s.heap h':=by rw[<-hh'];exact Heap.SameBut.update ..
 refine UP (VZ (UP (wpAny_isOneOf_valiter (s:={ s with heap:=h' }) gy.typeIs ?_)));refine UP (wpAny_isOneOf_valiter (s:={ s with heap:=h' }) gy.typeIs ?_);show US _ _ (pure es[i].val) _ _ _;exact UR (UR ⟨_,rfl,UR (hQ _ gy sb)⟩)
theorem Xi{A:oD}{E:oA->oB->Prop}{s:oB}{o:Obj}{es:Array DictEntry}{Q:Option oA->oB->Prop}(hh:A.handled=none)(hit:s.heap.IsValIter it d i es.size ep)(yd:s.heap.get? d=oZ o)(il:o.data = .dict es ep)(hi:es.size<=i)(hQ:∀h',Heap.ExtBut it s.heap h'->Q none { s with heap:=h' }):US (UW prog w) A (pyNext (.ref it)) Q E s:=by
 obtain⟨u,hu,hc,hd⟩:=id hit;unfold pyNext;refine UP (XA (wpAny_callSpecial?_slot (name:=PZ "__next__") hit.typeIs F.slot_dict_valueiterator_next
  (VI F.slot_dict_valueiterator_next hit.typeIs F.entry_dict_valueiterator_next ?_ (F.args_dict_valueiterator_next_1 _))))
 refine UP (UR (UP (UP ?_)))
 first|refine UP (wpAny_typeNameOfWhole_valiter hit.typeIs (UR ?_))|refine UP (wpAny_typeNameOf_valiter hit.typeIs (UR ?_))
 refine UP (wpAny_fieldsOf hu hd ?_);simp only[show Builtin.Dict_items.ownsTuple "dict_valueiterator" = false by decide,OD,if_false];show US _ _ (if(NO d==PK)=true then _ else _) _ _ s;rw[oW (show ¬((NO d==PK)=true)from PL)];refine UP (UR (UP (wpAny_dictEntries yd il ?_)));rw[oW (by simp)];refine UP (UR (UP (wpAny_dictEpoch yd il ?_)));rw[oW (by simp)];refine UR ?_;simp only[show ¬((i:Int)<0)from by lia,if_false,PH,Array.getElem?_eq_none hi];refine UP ?_
 first|refine UP (wpAny_typeNameOfWhole_valiter hit.typeIs (UR ?_))|refine UP (wpAny_typeNameOf_valiter hit.typeIs (UR ?_))
 show US _ _ (setField (.ref it) 0 .none >>= _) _ _ s;refine UP (WV hu hd (by simp) ?_);show US _ _ (newExc (.type "StopIteration") [] >>= _) _ _ _;refine UP ?_;simp only[newExc,newTuple];refine UP (VD ?_ (by size_fits));refine UP (m:=firstArgMember _ _) (wpAny_of_eq (a:=PK) (by first|rfl|(simp only[firstArgMember];rfl)) ?_);refine VD ?_ (by size_fits);simp only[raiseNew];refine UP (wpAny_handled ?_);rw[show A.in1.handled=none from hh];refine UP (UR (wpAny_throw ?_));refine UP (wpAny_isInstance (T:="StopIteration") (b:=true) ⟨_,NA _ rfl,rfl⟩ isSubtype_stop ?_);exact UR (hQ _ (((Heap.SameBut.update ..).extBut.push _).push _))
def KC(a:UQ)(o:Obj)(ms:List Int):It:=
 ⟨λi H=>H a=oZ (Dc a o)/\i<ms.length,λi H x H'=>H'=H/\∃m,ms[i]?=oZ m/\x = .int m,λi H=>H a=oZ (Dc a o)/\ms.length<=i⟩
theorem Px{P:UU}{w:UY}{K:W.Frag}{tg:oC}(a it:UQ)(o:Obj){es:Array DictEntry}{ep:Nat}{ms:List Int}(hd:o.data = .dict es ep)(hl:es.size=ms.length)(hv:∀(i:Nat)(h:i<es.size),∃m t,ms[i]?=oZ m/\es[i].val = .int m t):
  Bk P w K tg (KC a o ms) [it] it (λi h=>h.IsValIter it a i es.size ep) where
 mem:=by simp
 obj:=λi h st b hb=>by
  have e:b=it:=by simpa using hb
  subst e;obtain⟨o,e,c,d⟩:=st;exact⟨o,e,λv z=>by rw[d]at z;cases z⟩
 keep:=λi h h' st k=>st.at λo e=>k it (by simp) o e
 item:=by
  intro X hP hw hK hc i pins s σ H E I hf st hg;subst hP hw hK;obtain⟨ga,gi⟩:=hg;obtain⟨m,t,h1,h2⟩:=hv i ⋯;obtain⟨f0,f1,f2,f3,f4,f5⟩:=hf it (by simp);refine Pz st (xE I ga) hd ⋯ λh' gc sb=>?_;have I1:aS X pins σ H { s with heap:=h' }:=I.turned (t':=s.toks) (λb o hb e=>(sb.2 b hb).trans e) f0 f1 f3 f4 f5;obtain⟨u,e,c,d⟩:=id gc;exact⟨_,rfl,Kl (s:={ s with heap:=h' }) e c d ∅ ⟨.int m,H,I1,⟨t,h2⟩,⟨rfl,m,h1,rfl⟩,gc,λb hb=>(hf b hb).1⟩⟩
 done:=by
  intro X hP hw hK hc i pins s σ H E I hf st hg;subst hP hw hK;obtain⟨ga,gi⟩:=hg;obtain⟨f0,f1,f2,f3,f4,f5⟩:=hf it (by simp);exact Xi (I.ok.hd hc) st (xE I ga) hd ⋯ λh' eb=>⟨rfl,I.turned (t':=s.toks) (λb o hb e=>eb b o hb e) f0 f1 f3 f4 f5⟩
 self:=λ_ _ _ _ _ st h=>wpAny_pyIter_valiter st h
section
variable{X:Cx}{o e f:oC}{pos ap:Pos}{tg:oC}{td ty tx:TE}
def M4(X:Cx)(td:TE):TI:=λσ H R=>td σ H λx H1=>∃a o f n,x = .ref a/\Ey X.prog X.w X.K H1 a o f n/\∀ms:List Int,((∀m∈ms,m=0)↔∀k,f k=0)->ms.length=n->R (KC a o ms) H1
theorem D3(ho:PE X o td)(YF:VR o "values" X.env (VF o X.env)=VF o X.env:=by rfl)(YG:(ap.endLine==pos.line)=true:=by rfl):PI X tg (.Call (.Attribute o "values" ap) [] [] pos) (M4 X td):=by
 intro pins s σ H R I h;refine wpAny_Call_method0_late YF YG (cW (ho pins s σ H _ I h) λv s1 zZ=>?_);obtain⟨x,H1,I1,r1,a,ob,f,n,ex,c,q⟩:=zZ;subst ex;obtain rfl:v=NO a:=r1;have gt:=xE I1 c.get;obtain⟨es,ep,xs,e1,e2,e3,e4,e5,e6,e7⟩:=c.ex;have ty:s1.TypeIs (.ref a) "dict":=⟨ob,gt,e1.1⟩;refine⟨"dict","dict.values",PySem.F.plainAttrs_dict,PySem.F.slot_dict_values,PySem.F.type_dict_values,ty,λb e=>by cases e;exact⟨ob,gt,e1.2.1⟩,Calls.callWith_builtin rfl (PySem.evalArgs_none (call_meetsIn PySem.F.slot_dict_values ty PySem.F.entry_dict_values (PySem.F.args_dict_values_1 _) (Iu c.nm) ⟨ty,?_⟩))⟩;have k1:∀b u,s1.heap.get? b=oZ u->(s1.heap.push { cls:=.type "dict_values",data:=.fields #[.ref a] }).get? b=oZ u:=λb u e=>MM _ e;refine Qa (s:={ s1 with heap:=s1.heap.push { cls:=.type "dict_values",data:=.fields #[.ref a] } }) ⟨_,NA _ rfl,rfl,rfl⟩ (k1 _ _ gt) e2 ?_;have sz:es.size=xs.length:=by have:=congrArg RU e3;simpa using this
 have at_:∀(i:Nat)(hi:i<xs.length),atKey xs xs[i].1=oZ xs[i].2:=λi hi=>atKey_of_get e4 (i:=i) (by rw[MI hi]);have val:∀(i:Nat)(h:i<es.size),∃m t,(xs.map λx=>f x.1)[i]?=oZ m/\es[i].val = .int m t:=λi hi=>by
  have ij:i<xs.length:=⋯
  have:=e7 xs[i].1;rw[at_ i ij]at this;obtain⟨t,z⟩:=(show ∃t,xs[i].2.2 = .int (f xs[i].1) t from this);refine⟨_,t,by rw[MT,MI ij];rfl,?_⟩;have:es[i]?=(xs[i]?).map (entryOfKey (Z1 X.prog X.w)):=by rw[<-UI,e3,MT]
  rw[TC hi,MI ij]at this;rw[Option.some.inj this,<-z];rfl
 have k2:∀b u,s1.heap.get? b=oZ u->((s1.heap.push { cls:=.type "dict_values",data:=.fields #[.ref a] }).push { cls:=.type "dict_valueiterator",data:=.fields #[.ref a,.int 0 0,.int es.size 0,.int ep 0] }).get? b=oZ u:=λb u e=>MM _ (k1 b u e);refine⟨(s1.heap.push { cls:=.type "dict_values",data:=.fields #[.ref a] }).objs.size,[(s1.heap.push { cls:=.type "dict_values",data:=.fields #[.ref a] }).objs.size],_,_,H1,rfl,I1.kept (t':=s1.toks) k2,Px a _ ob e2 (by simpa using sz) val,⟨_,NA _ rfl,rfl,rfl⟩,λb hb=>?_,q _ ⟨λh k=>?_,λh m hm=>?_⟩ (by simpa using e5)⟩
 ·have e:b=(s1.heap.push { cls:=.type "dict_values",data:=.fields #[.ref a] }).objs.size:=by simpa using hb
  subst e;have le:s1.heap.objs.size<=(s1.heap.push { cls:=.type "dict_values",data:=.fields #[.ref a] }).objs.size:=by rw[QK];lia
  exact I1.fpOk le (I1.hok.fresh le)
 ·have:=e7 k;cases z:atKey xs k with
  |none=>rw[z]at this;exact this
  |some p=>
   unfold atKey at z;obtain⟨x,z1,z2⟩:=Option.map_eq_some_iff.mp z;have:x.1=k:=by simpa using List.find?_some z1
   rw[<-this];exact h _ (MH.mpr ⟨x,List.mem_of_find?_eq_some z1,rfl⟩)
 ·obtain⟨x,_,rfl⟩:=MH.mp hm;exact h _
end
section
variable{X:Cx}{o e f:oC}{apos YZ pos:Pos}{td ty tx:TE}
def O6(X:Cx)(td ty tx:TE):TE:=λσ H Q=>td σ H λx H1=>∃a ob g n,x = .ref a/\Ey X.prog X.w X.K H1 a ob g n/\ty σ H1 λy H2=>tx σ H2 λz H3=>∃b k,y = .ref b/\z = .int 0/\Ey X.prog X.w X.K H3 a ob g n/\Qd X.K H3 k b/\Q (.int (g k)) H3
theorem C2(hu:X.A.units+2<VW)(ho:PE X o td)(he:PE X e ty)(hf:PE X f tx)(m:M2 X o "get" apos e f YZ):PE X (.Call (.Attribute o "get" apos) [e,f] [] YZ) (O6 X td ty tx):=by
 intro pins s σ H Q I h;refine wpAny_Call_method m.base m.few m.line PySem.F.plainAttrs_dict PySem.F.slot_dict_get PySem.F.type_dict_get (cW (ho pins s σ H _ I h) λu s1 zZ=>?_);obtain⟨x,H1,I1,rx,a,ob,g,n,ex,c,q1⟩:=zZ;subst ex;obtain rfl:u=NO a:=rx;have gt:=xE I1 c.get;obtain⟨es,ep,xs,e1,_⟩:=c.ex;refine⟨⟨ob,gt,e1.1⟩,λb q=>by cases q;exact⟨ob,gt,e1.2.1⟩,?_⟩;rw[m.trees];refine Calls.callWith_builtin rfl (Calls.evalArgs_plain (Calls.spliced_cons (cW (he pins s1 σ H1 _ I1 q1) λiv s2⟨y,H2,I2,ry,q2⟩=>
  Calls.spliced_cons (cW (hf pins s2 σ H2 _ I2 q2) λfv s3⟨z,H3,I3,rz,b,k,ey,ez,c3,kb,q3⟩=>Calls.spliced_nil ?_))))
 subst ey ez;obtain rfl:iv=NO b:=ry;obtain⟨t0,rfl⟩:=rz;exact CC hu I3 c3 kb λt s4 I4=>⟨.int (g k),H3,I4,⟨t,rfl⟩,q3⟩
def FH(X:Cx):V->V->V->Hp->(Hp->Prop)->Prop:=λo i v H Q=>∃a b ob g n k m,o = .ref a/\i = .ref b/\v = .int m/\Ey X.prog X.w X.K H a ob g n/\Qd X.K H k b/\n<UT/\
 ∀o' n',n'<=n+1->Ey X.prog X.w X.K (upd H a (Dc a o')) a o' (λj=>if j=k then m else g j) n'->Q (upd H a (Dc a o'))
theorem J4(hu:X.A.units+2<VW):Yc X (FH X):=by
 intro pins s σ H o i v ov iv u Q I ro ri rv ⟨a,b,ob,g,n,k,m,eo,ei,ev,c,kb,hn,q⟩;subst eo ei ev;cases ro;cases ri;obtain⟨t,rfl⟩:=rv;exact CD hu hn I c kb λo' n' s' h1 h2 h3=>⟨_,h3,q o' n' h1 h2⟩
end
def Eb(X:Cx)(i j:Nat)(d:Int):TS:=λD σ H=>∃a b ob g n k,σ[i]?=oZ (oZ (.ref a))/\σ[j]?=oZ (oZ (.ref b))/\Ey X.prog X.w X.K H a ob g n/\Qd X.K H k b/\n<UT/\
 ∀o' n',n'<=n+1->Ey X.prog X.w X.K (upd H a (Dc a o')) a o' (λq=>if q=k then g k+d else g q) n'->D.nx σ (upd H a (Dc a o'))
section
variable{X:Cx}{K:W.Frag}{i j:Nat}{op:Operator}{g:Int->Int->Int}{d:Int}
theorem Xe{A:oD}(hr:dW k A):A.units+2<VW:=by have:=hr.un;lia
theorem Lq{c1 c2}(hr:dW k X.A)(ho:lK X (VS op) (Pm λi j=>.int (g i j)))(hg:∀z,g z 1=z+d)(y1:QE X (.Name y p1) (rY i))(x1:QE X (.Name x p2) (rY j))(y2:QE X (.Name y p4) (rY i))(x2:QE X (.Name x p6) (rY j))(m:M2 X (.Name y p4) "get" p5 (.Name x p6) (.Constant (.int 0) c1 p7) p8)(ha:∀v,WC (.Subscript (.Name y p1) (.Name x p2) p3) X.env v=(do
   let ov <-VV [v] (VF (.Name y p1) X.env)
   let iv <-VV [v,ov] (VF (.Name x p2) X.env)
   standAt p3
   VV [v,ov,iv] (setItem ov iv v)
   release [v,ov,iv] []):=by intro _;rfl)(hs:VP [.Subscript (.Name y p1) (.Name x p2) p3] (.BinOp (.Call (.Attribute (.Name y p4) "get" p5) [.Name x p6,.Constant (.int 0) c1 p7] [] p8) op (.Constant (.int 1) c2 p9) jw) pos.line X.env=pure false:=by rfl)(hw:VQ [.Subscript (.Name y p1) (.Name x p2) p3] (.BinOp (.Call (.Attribute (.Name y p4) "get" p5) [.Name x p6,.Constant (.int 0) c1 p7] [] p8) op (.Constant (.int 1) c2 p9) jw) X.env=pure none:=by rfl)(h1:(VC [.Subscript (.Name y p1) (.Name x p2) p3] X.env).map (·.2)=[WC (.Subscript (.Name y p1) (.Name x p2) p3) X.env]:=by rfl):
  QS X (.Assign [.Subscript (.Name y p1) (.Name x p2) p3] (.BinOp (.Call (.Attribute (.Name y p4) "get" p5) [.Name x p6,.Constant (.int 0) c1 p7] [] p8) op (.Constant (.int 1) c2 p9) jw) pos) (Eb X i j d):=
 (Vr (Dp ho (⟨C2 (Xe hr) y2.h x2.h z6.h m⟩:QE X _ (O6 X (rY i) (rY j) (tC (.int 0)))) z6) (Vq y1 x1 (J4 (Xe hr)) ha) hs hw h1).le λD σ H hl⟨a,b,ob,f,n,k,e1,e2,c,kb,hn,q⟩=>
  ⟨.ref a,e1,a,ob,f,n,rfl,c,.ref b,e2,b,k,rfl,rfl,c,kb,f k,1,rfl,rfl,.ref a,e1,.ref b,e2,a,b,ob,f,n,k,g (f k) 1,rfl,rfl,rfl,c,kb,hn,λo' n' h1 h2=>q o' n' h1 (by rw[hg]at h2;exact h2)⟩
abbrev Qe:=(Int×Int)×(Int×Int)
def qA(p:Qe):T:=.tup [.tup [.int p.1.1,.int p.1.2],.tup [.int p.2.1,.int p.2.2]]
def tG(p:Qe):K2:=([.inl p.1.1,.inl p.1.2],[.inl p.2.1,.inl p.2.2])
def cN(ps:List (Qe×Qe))(k:K2):Int:=(ps.map λx=>(if tG x.1=k then 1 else 0)-(if tG x.2=k then 1 else 0)).sum
def KQ(x:Qe×Qe)(t:T):Prop:=∃u v,t = .tup [u,v,qA x.1,qA x.2]
variable{B:UQ->Prop}{H H':Hp}{S S' σ:St}{E E':En}{a b:UQ}{ob:Obj}
theorem Ll{O:UQ->Prop}(h:Rp K H O (qA p) v):∃b,v = .ref b/\Qd K H (tG p) b:=by
 obtain⟨b,vs,e,s1,r⟩:=h.sqT;obtain⟨x,r1,e1,h1,y,r2,e2,h2,h3⟩:=r;cases h3;subst e2;subst e1;obtain⟨c,us,e3,s2,q⟩:=h1.sqT;obtain⟨_,_,z1,rfl,_,_,z2,rfl,z3⟩:=q;cases z3;subst z2;subst z1;subst e3;obtain⟨d,us,e4,s3,q⟩:=h2.sqT;obtain⟨_,_,z1,rfl,_,_,z2,rfl,z3⟩:=q;cases z3;subst z2;subst z1;subst e4;exact⟨b,e,c,d,s1,s2,s3⟩
mutual
theorem Rp.dc{O:UQ->Prop}(k:∀b o,H b=oZ o->(∀φ,o≠.ext φ)->H' b=oZ o):∀{t:T}{v:V},Rp K H O t v->Rp K H' O t v
 |.non,_,h=>h
 |.bl _,_,h=>h
 |.int _,_,h=>h
 |.str _,_,h=>h
 |.tup xs,v,h=>by
  obtain⟨a,vs,e,h1,h2⟩:=h;exact⟨a,vs,e,h1.imp (λh=>⟨h.1,k _ _ h.2 λ_ z=>nomatch z⟩) id,bW.dc k h2⟩
 |.lst xs,v,h=>by
  obtain⟨a,vs,e,h1,h2⟩:=h;exact⟨a,vs,e,h1.imp (λh=>⟨h.1,h.2.imp (λz=>k _ _ z λ_ q=>nomatch q) λzZ=>by obtain⟨o,z⟩:=zZ;exact⟨o,k _ _ z λ_ q=>nomatch q⟩⟩) id,bW.dc k h2⟩
theorem bW.dc{O:UQ->Prop}(k:∀b o,H b=oZ o->(∀φ,o≠.ext φ)->H' b=oZ o):∀{xs:List T}{vs:List V},bW K H O xs vs->bW K H' O xs vs
 |[],_,h=>h
 |_::_,_,⟨v,r,e,h1,h2⟩=>⟨v,r,e,Rp.dc k h1,bW.dc k h2⟩
end
mutual
theorem Rp.thin{O O':UQ->Prop}(k:∀b u,H b=oZ u->(∀φ,u≠.ext φ)->¬O b->¬O' b):∀{t:T}{v:V},Rp K H O t v->Rp K H O' t v
 |.non,_,h=>h
 |.bl _,_,h=>h
 |.int _,_,h=>h
 |.str _,_,h=>h
 |.tup xs,v,h=>by
  obtain⟨a,vs,e,h1,h2⟩:=h;exact⟨a,vs,e,h1.imp (λh=>⟨k _ _ h.2 (λ_ z=>by cases z) h.1,h.2⟩) id,bW.thin k h2⟩
 |.lst xs,v,h=>by
  obtain⟨a,vs,e,h1,h2⟩:=h;exact⟨a,vs,e,h1.imp (λh=>⟨h.2.elim (λz=>k _ _ z (λ_ q=>by cases q) h.1) λzZ=>by obtain⟨_,z⟩:=zZ;exact k _ _ z (λ_ q=>by cases q) h.1,h.2⟩) id,bW.thin k h2⟩
theorem bW.thin{O O':UQ->Prop}(k:∀b u,H b=oZ u->(∀φ,u≠.ext φ)->¬O b->¬O' b):∀{xs:List T}{vs:List V},bW K H O xs vs->bW K H O' xs vs
 |[],_,h=>h
 |_::_,_,⟨v,r,e,h1,h2⟩=>⟨v,r,e,Rp.thin k h1,bW.thin k h2⟩
end
theorem RE.dc(re:RE K B H S E)(k:∀b o,H b=oZ o->(∀φ,o≠.ext φ)->H' b=oZ o):RE K B H' S E:=by
 refine⟨re.len,λi t h=>?_,λi l xs h=>?_,re.inj,λb z=>?_⟩
 ·obtain⟨v,h1,h2⟩:=re.pure i t h;exact⟨v,h1,h2.dc k⟩
 ·obtain⟨a,vs,h1,h2,h3,h4⟩:=re.own i l xs h;exact⟨a,vs,h1,k _ _ h2 λ_ q=>(nomatch q),h3.dc k,h4⟩
 ·obtain⟨vs,e⟩:=re.bd b z;exact⟨vs,k _ _ e λ_ q=>nomatch q⟩
theorem Xf(h:H a=oZ (Dc a ob)):∀b o,H b=oZ o->(∀φ,o≠.ext φ)->(upd H a (Dc a o')) b=oZ o:=λb o e n=>by
 rw[aT (λz=>n _ (by rw[z,h]at e;cases e;rfl))];exact e
end
def Wt(X:Cx):TE:=λ_ H Q=>∀p o,H p=none->Ey X.prog X.w X.K (upd H p (Dc p o)) p o (λ_=>0) 0->Q (.ref p) (upd H p (Dc p o))
section
variable{X:Cx}{pos:Pos}
theorem Uy:PE X (.Dict [] [] pos) (Wt X):=λpins s σ H Q I h=>
 wpAny_Dict_empty ⟨.ref s.heap.objs.size,_,I.laid (a:=s.heap.objs.size) (o:=Dc s.heap.objs.size { cls:=.type "dict",data:=.dict #[] }) (t':=s.toks) (λ_ _ q=>MM _ q) (MQ _) (L4 (NA _ rfl)),rfl,
  h _ _ (I.hok.fresh (MQ _)) ⟨bY,beq_eq_false_iff_ne.mpr (Ne.symm (NQ I.big)),#[],0,[],⟨rfl,rfl,rfl⟩,rfl,rfl,SO,rfl,λx hx=>(by cases hx),λ_=>rfl⟩⟩
def O3(X:Cx)(i:Nat):TE:=λσ H Q=>∃a o f n,σ[i]?=oZ (oZ (.ref a))/\Ey X.prog X.w X.K H a o f n/\n<UT/\∀(b:Bool)H',(b=true↔∀k,f k=0)->(∀c u,H c=oZ u->H' c=oZ u)->Q (.bl b) H'
theorem F3{k i:Nat}{d:oC}{x:Str}{scope:WJ}{pa px pz pc pd pv p2 pcm:Pos}{c1}(hc:X.calm=true)(hr:∀C s3 H3 fp,dW k (bN X [x] scope C s3 H3 fp).A)(hg:Gl X "all")(hm:X.mg "all" = none)(ho:QE X d (rY i))
  (S:bH X [x] scope 1 []) (ht:∀C s3 H3 fp,QG (bN X [x] scope C s3 H3 fp) (.Name x px) (jB 0)) (hv:∀C s3 H3 fp,QE (bN X [x] scope C s3 H3 fp) (.Name x pz) (rY 0))
  (YF:VR d "values" X.env (VF d X.env)=VF d X.env:=by rfl) (YG:(pd.endLine==pv.line)=true:=by rfl) (hs:∀y,VA (.Call (.Attribute d "values" pd) [] [] pv) X.env y=pure y:=by intro _;rfl) (hmk:VE .Eq (.Constant (.int 0) c1 pc)=false:=by rfl) (hn:bJ [.ListComp (.Compare (.Name x pz) [.Eq] [.Constant (.int 0) c1 pc] p2) [⟨.Name x px,.Call (.Attribute d "values" pd) [] [] pv,[],0⟩] scope pcm]=true:=by rfl) :
  QE X (.Call (.Name "all" pa) [.ListComp (.Compare (.Name x pz) [.Eq] [.Constant (.int 0) c1 pc] p2) [⟨.Name x px,.Call (.Attribute d "values" pd) [] [] pv,[],0⟩] scope pcm] [] pos) (O3 X i):=by
 refine(eO (xB hc) hg hm boot_all (qc (Lp hc S (⟨D3 ho.h YF YG⟩:QI X _ _ (M4 X (rY i))) ht (λC s3 H3 fp=>Lo (show lK (bN X [x] scope C s3 H3 fp) (VG .Eq) (AQ X.K false)from Us (hr C s3 H3 fp)) (hv C s3 H3 fp) z6 hmk) hs) Hq rfl) ∅ ∅ hn).le λσ H Q hl h=>?_;obtain⟨a,ob,f,n,e1,c,hn,q⟩:=h;refine⟨.ref a,e1,a,ob,f,n,rfl,c,λms hms hlen D hD=>?_⟩;have fin:∀bs:List Bool,bs=ms.map (λm=>decide (m=0))->BD σ (upd H D (.lst (bs.map V.bl))) (λxs H1=>∃(p:UQ)(bs:List Bool),V.ref D::xs=[.ref p]/\jJ X.K H1 p (bs.map V.bl)/\Q (.bl (bs.all id)) H1):=λbs e=>by
  refine⟨D,bs,rfl,jJ.of bY,q _ _ ?_ λc u e=>by rw[aT (aV e hD)];exact e⟩;rw[<-hms,e];simp
 have hb:∀i',((ms.take i').map λm=>decide (m=0)).map V.bl=(ms.take i').map λm=>V.bl (decide (m=0)):=λi'=>by rw[MY];rfl
 have ga:∀ys,(upd H D (.lst ys)) a=oZ (Dc a ob):=λys=>by rw[aT (aV c.get hD)];exact c.get
 refine⟨λi' m σ' H'=>m=ms.length-i'/\i'<=ms.length/\σ'.length=1/\H'=upd H D (.lst (((ms.take i').map λm=>decide (m=0)).map V.bl)),⟨_,rfl,OR _,rfl,rfl⟩,?_⟩;rintro i' m σ' H' ⟨rfl,hi,hσ,rfl⟩;obtain lt|ge:=OY i' ms.length
 ·refine .inr ⟨⟨ga _,lt⟩,?_⟩;rintro x H2 ⟨rfl,m,hm,rfl⟩;refine⟨.int m,NR ⋯,.int m,.int 0,rfl,rfl,by simp[dT],?_⟩;refine⟨_,bY,by rw[ML,ML,OC];lia,ms.length-(i'+1),⋯,rfl,lt,by simpa using hσ,?_⟩;rw[K3]
  congr 2
  have:ms.take (i'+1)=ms.take i'++[m]:=by rw[List.take_add_one,hm];rfl
  rw[this,OE,OE];rfl
 ·refine .inl ⟨⟨ga _,ge⟩,?_⟩;rw[PY ge];exact fin _ rfl
end
def G8(it:Nat):FS:=λD E=>∃(rows:List T)(ps:List (Qe×Qe)),E[it]?=oZ (⇑(.lst rows))/\Paired KQ ps rows/\2*rows.length<UT/\∀(b:Bool)E',(b=true↔∀k,cN ps k=0)->D.rt (.p (.bl b)) E'
theorem uV{α β:Type}{R:α->β->Prop}:∀{xs:List α}{ys:List β}{i:Nat}{y:β},Paired R xs ys->ys[i]?=oZ y->∃x,xs[i]?=oZ x/\R x y
 |_,_,_,_,.nil,e=>by simp at e
 |_,_,0,_,.cons r _,e=>by simp at e;subst e;exact⟨_,rfl,r⟩
 |_,_,i+1,y,.cons _ t,e=>by
  obtain⟨u,h1,h2⟩:=uV (i:=i) (y:=y) t (by simpa using e);exact⟨u,by simpa using h1,h2⟩
theorem Yg:cN (ps++[x]) k=cN ps k+((if tG x.1=k then 1 else 0)-(if tG x.2=k then 1 else 0)):=by
 simp[cN]
theorem M8{B:UQ->Prop}:Kp (λb=>Ow B S E b\/b=a) (λb=>Ow B S E b\/b=a) H (upd H a o):=⟨λb u e n=>by rw[aT (λz=>n (.inr z))];exact e,λb z=>.inl z⟩
theorem Tu{X:Cx}{K:W.Frag}{D:mV}{it ic jn ja jb je:Nat}{H:Hp}{σ:St}{B:UQ->Prop}{E:En}{rows:List T}{ps:List (Qe×Qe)}{a:UQ}{ob:Obj}(eK:X.K=K)(YY:jn≠ic/\ja≠ic/\jb≠ic/\je≠ic)(hd:jb≠je/\jb<σ.length/\je<σ.length)(re:RE K B H σ E)(e0:E[it]?=oZ (⇑(.lst rows)))(hp:Paired KQ ps rows)(hz:2*rows.length<UT)(sa:σ[ic]?=oZ (oZ (.ref a)))(c:Ey X.prog X.w X.K H a ob (λ_=>0) 0)(k:∀σ' H' E' ko n',n'<UT->RE K B H' σ' E'->Gm a B H σ E H' σ' E'->σ'[ic]?=oZ (oZ (.ref a))->Ey X.prog X.w X.K H' a ko (cN ps) n'->D.nx σ' H'):
  BC (Te X.K (rY it)) (U8 X.K 4 (nE (jB jn) (nE (jB ja) (nE (jB jb) (nE (jB je) Yz))))) (BE (Eb X ic jb 1) (Eb X ic je (-1))) D σ H:=by
 subst eK;obtain⟨v,s1,rp⟩:=re.pure it _ e0;obtain⟨p,vs,e1,h1,rs⟩:=id rp;subst e1;have hl:ps.length=rows.length:=Paired.length hp;have rp':Rp X.K H (λb=>Ow B σ E b\/b=a) (.lst rows) (.ref p):=rp.thin λb u e n z w=>w.elim z λw=>n _ (by rw[w,c.get]at e;cases e;rfl);refine⟨.ref p,s1,p,rfl,let⟨a',ir,e',sq,_⟩:=rp.sqL;⟨ir,by cases e';exact sq⟩,?_⟩;refine⟨λi m σ' H'=>m=rows.length-i/\i<=rows.length/\∃E' ko n',n'<=2*i/\RE X.K B H' σ' E'/\Gm a B H σ E H' σ' E'/\σ'[ic]?=oZ (oZ (.ref a))/\σ'.length=σ.length/\Ey X.prog X.w X.K H' a ko (cN (ps.take i)) n',⟨_,rfl,OR _,E,ob,0,MQ _,re,Kp.refl _ _,sa,rfl,c⟩,?_⟩;rintro i m σ2 H2 ⟨rfl,hi,E2,ob2,n2,hn2,YE,g2,sa2,l2,c2⟩;obtain⟨p',us,ep,rf,rs2⟩:=(rp'.step g2).sqL;cases ep;obtain lt|ge:=OY i rows.length
 ·refine .inr ⟨⟨us,us[i]'(by rw[rs2.length];exact lt),rf,MI _⟩,λσ' H'=>∃E' ko n',n'<=2*(i+1)/\RE X.K B H' σ' E'/\Gm a B H σ E H' σ' E'/\σ'[ic]?=oZ (oZ (.ref a))/\σ'.length=σ.length/\Ey X.prog X.w X.K H' a ko (cN (ps.take (i+1))) n',λσ' H' z=>⟨rows.length-(i+1),⋯,rfl,lt,z⟩,?_⟩;rintro x H3 ⟨rfl,hx⟩;obtain⟨v',q1,q2⟩:=rs2.get (MI lt);rw[hx us rf]at q1;cases q1;obtain⟨pq,hpq,u,w,et⟩:=uV hp (MI lt);rw[et]at q2;have q2':=Rp.step (Kp.less λb z=>.inl z:Kp (λb=>Ow B σ2 E2 b\/b=a) (Ow B σ2 E2) H3 H3) q2;obtain⟨t4,ws,e4,sq4,r4⟩:=q2'.sqT;obtain⟨x1,_,e5,y1,x2,_,e6,y2,x3,_,e7,y3,x4,_,e8,y4,e9⟩:=r4;cases e9;subst e8;subst e7;subst e6;subst e5;refine⟨t4,_,e4,sq4,rfl,x1,_,rfl,x2,_,rfl,x3,_,rfl,x4,_,rfl,rfl,?_⟩;obtain⟨r1,o1⟩:=YE.setP (i:=jn) y1;obtain⟨r2,o2⟩:=r1.setP (i:=ja) (y2.step (Kp.less o1));obtain⟨r3,o3⟩:=r2.setP (i:=jb) ((y3.step (Kp.less o1)).step (Kp.less o2));obtain⟨r4,o4⟩:=r3.setP (i:=je) (((y4.step (Kp.less o1)).step (Kp.less o2)).step (Kp.less o3));generalize hS:(((σ2.set jn (oZ x1)).set ja (oZ x2)).set jb (oZ x3)).set je (oZ x4)=S at *;generalize hE:(((E2.set jn (⇑u)).set ja (⇑w)).set jb (⇑(qA pq.1))).set je (⇑(qA pq.2))=F at *;have sb:S[jb]?=oZ (oZ x3):=by rw[<-hS,ND (Ne.symm hd.1)];exact NR (by simp;lia)
  have se:S[je]?=oZ (oZ x4):=by rw[<-hS];exact NR (by simp;lia)
  have sc:S[ic]?=oZ (oZ (.ref a)):=by rw[<-hS,ND YY.2.2.2,ND YY.2.2.1,ND YY.2.1,ND YY.1];exact sa2
  have sl:S.length=σ.length:=by rw[<-hS];simpa using l2
  have gF:Gm a B H σ E H3 S F:=g2.trans (DI (Kp.less λb z=>o1 b (o2 b (o3 b (o4 b z)))));obtain⟨b3,z3,k3⟩:=Ll y3;obtain⟨b4,z4,k4⟩:=Ll y4;subst z3 z4;refine⟨a,b3,ob2,_,n2,tG pq.1,sc,sb,c2,k3,⋯,λwg n3 h3 c3=>?_⟩;have k4':=k4.keep (Wm (o':=wg) c2.get);refine⟨a,b4,wg,_,n3,tG pq.2,sc,se,c3,k4',⋯,λob4 n4 h4 c4=>?_⟩;refine⟨F,ob4,n4,⋯,(r4.dc (Xf c2.get)).dc (Xf c3.get),(gF.trans M8).trans M8,sc,sl,?_⟩;have:ps.take (i+1)=ps.take i++[pq]:=by rw[List.take_add_one,hpq];rfl
  rw[this];have fe:(λq=>if q=tG pq.2 then(if tG pq.2=tG pq.1 then cN (ps.take i) (tG pq.1)+1 else cN (ps.take i) (tG pq.2)) + -1 else(if q=tG pq.1 then cN (ps.take i) (tG pq.1)+1 else cN (ps.take i) q))=cN (ps.take i++[pq]):=by
   funext q
   rw[Yg]
   by_cases h1:q=tG pq.2
   ·subst h1
    by_cases h2:tG pq.2=tG pq.1
    ·simp[h2];lia
    ·simp[h2,Ne.symm h2];try lia
   ·by_cases h2:q=tG pq.1
    ·subst h2;simp[h1,Ne.symm h1]
    ·simp[h1,h2,Ne.symm h1,Ne.symm h2]
  rw[<-fe];exact c4
 ·have ei:i=rows.length:=⋯
  subst ei;refine .inl ⟨⟨us,rf,by rw[rs2.length];exact MQ _⟩,k σ2 H2 E2 ob2 n2 ⋯ YE g2 sa2 ?_⟩;rw[<-hl,List.take_length]at c2;exact c2
theorem Pj{X:Cx}{K:W.Frag}{it ic jn ja jb je:Nat}{y xb xe:Str}{x1}{e vT:oC}{es:List oC}{rl gf:UZ}{p1 p2 p3 q5 q7 rr:Pos}(eK:X.K=K)(hc:X.calm=true)(hN:X.N.Nodup)(iy:X.N[ic]?=oZ y)(ly:yK X.env.scope y)(inb:X.N[jb]?=oZ xb)(ine:X.N[je]?=oZ xe)(YY:jn≠ic/\ja≠ic/\jb≠ic/\je≠ic)(fo:jb≠je/\it≠ic)(hpo:PassesOwn (UW X.prog X.w) X.A X.env X.xe)(vt:QE X vT (rY it))(g0:Ff X es (nE (jB jn) (nE (jB ja) (nE (jB jb) (nE (jB je) Yz)))))(B1:QS X rl (Eb X ic jb 1))(B2:QS X gf (Eb X ic je (-1)))(Z:QE X e (O3 X ic))(f1:X.fn y=true\/X.env.scope.names.lookup y=oZ .local:=by first|exact .inl rfl|exact .inr rfl)(s1:VL (.Dict [] [] p2) (oZ (.Name y p1)) p3.line X.env=pure false:=by rfl)(g1:(VC es X.env).length=4:=by rfl)(g2:(VC es X.env).findIdx? (·.1)=none:=by rfl)(s2:∀x,VA vT X.env x=pure x:=by intro _;rfl):
  QB X [.Assign [.Name y p1] (.Dict [] [] p2) p3,.For (.Tuple es x1 q5) vT [rl,gf] [] q7,.Return (oZ e) rr] (gU K (G8 it)):=by
 subst eK;refine(jN (vB hN iy ly (⟨Uy⟩:QE X (.Dict [] [] p2) (Wt X)) s1 f1) (jN (z9 hpo hc (z8 vt) (Ht hc g0 g1 g2) (jN B1 (u9 B2)) s2) (u9 (Hu Z)))).leM λD σ H hl zZ=>?_;obtain⟨B,E,DT,re,hF,l⟩:=zZ;obtain⟨rows,ps,e0,hp,hz,q⟩:=hF;intro a o ha c;have c3:RE X.K B (upd H a (Dc a o)) σ E:=re.kept λd o e=>by rw[aT (aV e ha)];exact e
 obtain⟨c4,c5⟩:=c3.setVN (i:=ic) (v:=.ref a);have gg:Gs B H σ E (upd H a (Dc a o)) (σ.set ic (oZ (.ref a))) (E.set ic none):=(Kp.upd ha).trans (Kp.less c5);have lt:∀{i:Nat}{x:Str},X.N[i]?=oZ x->i<(σ.set ic (oZ (.ref a))).length:=λh=>by rw[SA,hl];exact(MK.mp h).1
 refine Tu rfl YY ⟨fo.1,lt inb,lt ine⟩ c4 (by rw[ND (Ne.symm fo.2)];exact e0) hp hz (NR (by have:=lt iy;simpa using this)) c λσ' H' E' ko n' hn XH g sa c'=>?_;refine⟨a,ko,_,n',sa,c',hn,λb H2 hb k2=>?_⟩;exact l.rt _ E' _ H2 σ' (q b E' hb) (V0 ha gg (g.trans ⟨λb o e _=>k2 b o e,λb z=>.inl z⟩)) (XH.kept k2) rfl
end L2
namespace My
open PySem L2 PyProof.Rows
def top(i:Nat):UZ:=PySem.Challenge.pw_sidecut_k28_rims_go_round.main.body.getD i (.Pass ⟨0,0,0,0⟩)
section
variable{P:UU}{w:UY}{K:W.Frag}{mg:Str->Option oA}{base:oE}
structure Bx(xs:List T)(n:Int):Prop where
 ex:∃A B c:Int,xs=[.int A,.int B,.int c]/\0<=A/\0<=B/\B<2147483647/\0<=c/\c<=n
theorem Bx.mono{n m:Int}(b:Bx xs n)(h:n<=m):Bx xs m:=let⟨A,B,c,h1,h2,h3,h4,h5,h6⟩:=b;⟨A,B,c,h1,h2,h3,h4,h5,⋯⟩
def Q8:iO:=λas Q=>∃(xs:List T)(m n:Int),as=[.b xs,.v (.int m)]/\Bx xs n/\n<=1000000/\1<=m/\m<2^200/\∀r ys,0<=r->r<m->Bx ys (n+1)->Q (.v (.int r)) ys
abbrev o9(P w K mg base):=(~~~Fn) 1 "_law_take" ["_law_box_here","_law_many"] (aQ K Q8)
abbrev Ih:UZ:=top 45
theorem Ao:aK ["_law_box_here","_law_many","_law_once","_law_found"] ["_law_box_here","_law_many"] (aC Ih):=iG
theorem Zy(F:dY K "_law_take" "_law_take" Ih f fd)(TX:Txt mg):(~~~bE) eT 1 f fd ["_law_box_here","_law_many"] (aQ K Q8):=by
 refine F.okU Ao (λhr=>(aB (eS (fP uU (fQ 0) aA) (aB (iV (Oa rfl TX.n_divmod (f2 (fQ 0) (fv 1))) (bS (n:=2) rfl rfl (aE (Gk (fv 0) aA) (aE (fG 3 Ao.nd) bG)))) (aG (aN (fv 3)))) c9) (aB (iV (aY b8 (fQ 0) aA) (Gk (fv 0) aA)) (aB (fS 2 Ao.nd (aL kM (aL Ut (aY b8 (fQ 0) (aL aO aA (fQ 0))) aA) aA)) (aG (aN (aL kM (aL dA (aL kM (aY b8 (aL aO (fv 2) aA) (aL aO (aL aO (fQ 0) (fQ 0)) aA)) aA) aA) (fv 1)))))))) ?_;rintro as Q ⟨xs,m,n,rfl,⟨A,B,c,rfl,hA,hB,hB2,hc,hcn⟩,hn,h1,h2,k⟩;show if decide (0<A)=true then _ else _
 by_cases hA0:0<A
 ·rw[oY hA0,oV rfl];refine⟨⟨⋯,h2⟩,⟨rfl,k _ _ (TY _ ⋯) (SU _ ⋯) ⟨_,_,_,rfl,Int.ediv_nonneg hA ⋯,hB,hB2,hc,⋯⟩⟩⟩
 ·rw[oX hA0,oW ∅];have p5:R3 (B+39373*(c+1)) 5:=⟨∅,∅,⋯⟩;have d64:r8 (((B+39373*(c+1))^(5:Int).toNat%2147483647*48271+(c+1)*(c+1)*7919)%2147483629) 64:=⟨∅,NC (show(64:Int).natAbs<2^7 by decide) (OX ∅ ∅)⟩;refine⟨wF ∅,p5,(by show(0:Int)<2147483647;decide),?_⟩;refine⟨wG ∅,wF ⋯,wG ∅,?_⟩;refine⟨(by show(0:Int)<2147483629;decide),d64,(by show(0:Int)<m;lia),⟨rfl,?_⟩⟩;exact k _ _ (TY _ ⋯) (SU _ ⋯) ⟨_,_,_,rfl,hA,hB,hB2,⋯,⋯⟩
def bB(ns:List Int):List T:=ns.map T.int
theorem Tg{ns:List Int}{k:Int}(h0:0<=k)(h1:k<(ns.length:Int)):∃z,jY (bB ns) k=oZ (.int z):=by
 have hk:k.toNat<ns.length:=⋯
 refine⟨ns[k.toNat],?_⟩;have e3:k=((k.toNat:Nat):Int):=⋯
 have z:=yO (xs:=bB ns) (j:=k.toNat) (v:=T.int ns[k.toNat]) (by rw[bB,MT,MI hk];rfl);rw[<-e3]at z;exact z
def Wq:iO:=λas Q=>∃(ns:List Int)(k:Int),as=[.v (.lst (bB ns)),.v (.int k)]/\0<=k/\k<=1000/\∀xs,Bx xs 0->dH xs=true->Q (.l xs) []
def J7:iO:=λas Q=>∃(n d:Int),as=[.v (.int n),.v (.int d)]/\d≠0/\d.natAbs<2^8000/\Q (.v (fr (low n d))) []
theorem pI{i:Int}{n d:Int}(hd:d≠0)(hb:d.natAbs<2^8000):r8 i ((NX n.natAbs d.natAbs:Nat):Int):=by
 have h1:0<NX n.natAbs d.natAbs:=QR _ ⋯;have h2:NX n.natAbs d.natAbs<=d.natAbs:=Nat.gcd_le_right _ ⋯;exact⟨⋯,NH ⋯ hb⟩
theorem pM(i:Int)(n:Nat):i.fdiv (n:Int)=i/(n:Int):=QH _ ⋯
def Mk:iO:=λas Q=>∃(n d:Int),as=[.v (.int n),.v (.int d)]/\Q (.v (.int ((NX n.natAbs d.natAbs:Nat):Int))) []
abbrev dP(P w K mg base):=(~~~Fn) 1 "common_divisor" oG (aQ K Mk)
abbrev hV:UZ:=top 1
theorem gN:aK oG oG (aC hV):=iG
theorem pU(F:dY K "common_divisor" "common_divisor" hV f fd)(TX:Txt mg):(~~~bE) eT 1 f fd oG (aQ K Mk):=by
 refine F.okU gN (λhr=>(aB (kI (i:=0) (j:=1) rfl gN.nd rfl rfl ∅ rfl rfl (f2 (qW rfl TX.n_abs (f1 (fv 0))) (qW rfl TX.n_abs (f1 (fv 1)))) rfl) (aB (uI PassesOwn.never (sH rfl hr (fv 1) aA (cH _)) (aG (kI (i:=0) (j:=1) rfl gN.nd rfl rfl ∅ rfl rfl (f2 (fv 1) (aL kM (fv 0) (fv 1))) rfl))) (aG (aN (fv 0)))))) ?_;rintro as Q ⟨n,d,rfl,q⟩;refine⟨λm E=>∃x y:Nat,E=[↑x,↑y]/\m=y/\NX x y=NX n.natAbs d.natAbs,⟨_,_,_,rfl,rfl,rfl⟩,?_⟩;rintro m E ⟨x,y,rfl,rfl,hg⟩;refine⟨OR _,?_⟩;show if(!((m:Int)==0))=true then _ else _
 by_cases hy:m=0
 ·subst hy;rw[oW ∅];rw[Nat.gcd_zero_right]at hg;subst hg;exact⟨rfl,q⟩
 ·rw[oV (by simpa using hy)];exact⟨(by show(0:Int)<(m:Int);lia),x%m,RO _ ⋯,m,x%m,rfl,rfl,by rw[Cf];exact hg⟩
abbrev fT(P w K mg base):=(~~~Fn) 2 "fraction" ["n","d"] (aQ K J7)
abbrev nT:UZ:=top 2
theorem mG:aK ["n","d","divisor"] ["n","d"] (aC nT):=iG
theorem Cu(F:dY K "fraction" "fraction" nT f fd)(TX:Txt mg)(XE: ~~~dP):(~~~bE) eT 2 f fd ["n","d"] (aQ K J7):=by
 refine F.okU mG (λhr=>(aB (Of (sH rfl hr (fv 1) aA (cH _))) (aB (fS 2 mG.nd (fK XE (f2 (fv 0) (fv 1)))) (aB (eS (fP gW (fv 1) aA) (aG (fS 2 mG.nd (qX (fv 2)))) c9) (aG (aN (aH (f2 (aL dA (fv 0) (fv 2)) (aL dA (fv 1) (fv 2)))))))))) ?_;rintro as Q ⟨n,d,rfl,hd,hb,q⟩;have vf:(!(d==0))=true:=by simpa using hd
 refine⟨OR _,vf,n,d,rfl,?_⟩;have dn:((NX n.natAbs d.natAbs:Nat):Int)∣n:=OB.mpr (PF _ _);have dd:((NX n.natAbs d.natAbs:Nat):Int)∣d:=OB.mpr (PJ _ _);have g0:((NX n.natAbs d.natAbs:Nat):Int)≠0:=(pI (i:=0) (n:=n) hd hb).1;have zB:∀{g m:Int},g≠0->g∣m->m.fdiv (-g)=(-m)/g:=λ{g m}h0 hm=>by
  obtain⟨k,rfl⟩:=hm;have e1:g*k=(-g)*(-k):=by grind
  have e2:-(g*k)=g*(-k):=by grind
  rw[e2,OU _ h0,e1,TL _ ⋯]
 show if decide (d<0)=true then _ else _
 by_cases h:d<0
 ·rw[oY h,oV rfl];have cz:∀i:Int,r8 i (-((NX n.natAbs d.natAbs:Nat):Int)):=λi=>⟨⋯,by rw[QL];exact(pI (i:=i) (n:=n) hd hb).2⟩;refine⟨cz _,cz _,rfl,?_⟩;unfold low sQ m6 at q;rw[oW ⋯,oW ⋯,<-zB g0 dn,<-zB g0 dd]at q;exact q
 ·rw[oX h,oW ∅];refine⟨pI hd hb,pI hd hb,rfl,?_⟩;unfold low sQ m6 at q;rw[oV ⋯,oV ⋯,<-pM,<-pM]at q;exact q
theorem pl(h:x<2^e)(k:e<=f):x<2^f:=NC h (OX ∅ k)
def sT(op:Fr->Fr->Fr):iO:=λas Q=>∃x y:Fr,as=[.v (fr x),.v (fr y)]/\dJ x/\dJ y/\sz x+sz y<=7900/\Q (.v (fr (op x y))) []
abbrev tS(P w K mg base):=(~~~Fn) 3 "added" oG (aQ K (sT eM))
abbrev Ad:UZ:=top 3
theorem Wa:aK oG oG (aC Ad):=iG
theorem Uj(F:dY K "added" "added" Ad f fd)(TX:Txt mg)(XF: ~~~fT):(~~~bE) eT 3 f fd oG (aQ K (sT eM)):=by
 refine F.okU Wa (λhr=>(aG (aN (fK XF (f2 (aY b8 (aL aO (fQ 0) (fQ 1)) (aL aO (fQ 1) (fQ 0))) (aL aO (fQ 0) (fQ 1))))))) ?_;rintro as Q ⟨x,y,rfl,hx,hy,hs,q⟩;have hd:(x.2*y.2).natAbs<2^8000:=pY (bC (bV x) (bV y)) ⋯;exact⟨eN (e:=7900) (pl (eZ x) ⋯) (pl (bV y) ⋯) ∅,eN (e:=7900) (pl (eZ y) ⋯) (pl (bV x) ⋯) ∅,eN (e:=7900) (pl (bV x) ⋯) (pl (bV y) ⋯) ∅,_,_,rfl,fN hx hy,hd,rfl,q⟩
abbrev pA(P w K mg base):=(~~~Fn) 3 "taken" oG (aQ K (sT dO))
abbrev Aj:UZ:=top 4
theorem Wf:aK oG oG (aC Aj):=iG
theorem Uq(F:dY K "taken" "taken" Aj f fd)(TX:Txt mg)(XF: ~~~fT):(~~~bE) eT 3 f fd oG (aQ K (sT dO)):=by
 refine F.okU Wf (λhr=>(aG (aN (fK XF (f2 (aY iW (aL aO (fQ 0) (fQ 1)) (aL aO (fQ 1) (fQ 0))) (aL aO (fQ 0) (fQ 1))))))) ?_;rintro as Q ⟨x,y,rfl,hx,hy,hs,q⟩;have hd:(x.2*y.2).natAbs<2^8000:=pY (bC (bV x) (bV y)) ⋯;exact⟨eN (e:=7900) (pl (eZ x) ⋯) (pl (bV y) ⋯) ∅,eN (e:=7900) (pl (eZ y) ⋯) (pl (bV x) ⋯) ∅,eN (e:=7900) (pl (bV x) ⋯) (pl (bV y) ⋯) ∅,_,_,rfl,fN hx hy,hd,rfl,q⟩
abbrev pB(P w K mg base):=(~~~Fn) 3 "times" oG (aQ K (sT eV))
abbrev Ak:UZ:=top 5
theorem Wg:aK oG oG (aC Ak):=iG
theorem Ur(F:dY K "times" "times" Ak f fd)(TX:Txt mg)(XF: ~~~fT):(~~~bE) eT 3 f fd oG (aQ K (sT eV)):=by
 refine F.okU Wg (λhr=>(aG (aN (fK XF (f2 (aL aO (fQ 0) (fQ 1)) (aL aO (fQ 0) (fQ 1))))))) ?_;rintro as Q ⟨x,y,rfl,hx,hy,hs,q⟩;have hd:(x.2*y.2).natAbs<2^8000:=pY (bC (bV x) (bV y)) ⋯;exact⟨eN (e:=7900) (pl (eZ x) ⋯) (pl (eZ y) ⋯) ∅,eN (e:=7900) (pl (bV x) ⋯) (pl (bV y) ⋯) ∅,_,_,rfl,fN hx hy,hd,rfl,q⟩
def nN(x y x' y':Fr):Fr:=eM (eV x x') (eV y y')
def gY(x y x' y':Fr):Fr:=dO (eV x y') (eV y x')
structure Nv(a b:Fr)(e:Nat):Prop where
 x:dJ a
 y:dJ b
 sx:sz a<=e
 sy:sz b<=e
def BR(op:Fr->Fr->Fr->Fr->Fr):iO:=λas Q=>∃(x y x' y':Fr)(e f:Nat),as=[.v (vc x y),.v (vc x' y')]/\Nv x y e/\Nv x' y' f/\e+f<=3900/\Q (.v (fr (op x y x' y'))) []
theorem jL(h:Nat.ble a b=true):a<=b:=Nat.le_of_ble_eq_true h
theorem Nv.up{x y:Fr}{e f:Nat}(h:Nv x y e)(k:e<=f):Nv x y f:=⟨h.x,h.y,OH h.sx k,OH h.sy k⟩
theorem k7(n:Int):val (n,1)=(n:Rat):=by
 show(n:Rat)/((1:Int):Rat)=n
 push_cast
 grind
theorem jP:val (1,1)=1:=by rw[k7];rfl
theorem fA:val (0,1)=0:=by rw[k7];rfl
def P9:iO:=λas Q=>∃x y:Fr,as=[.v (fr x),.v (fr y)]/\dJ x/\dJ y/\y.1≠0/\sz x+sz y<=7900/\Q (.v (fr (uH x y))) []
abbrev Jc(P w K mg base):=(~~~Fn) 3 "over" oG (aQ K P9)
abbrev Ie:UZ:=top 6
theorem J2:aK oG oG (aC Ie):=iG
theorem Zw(F:dY K "over" "over" Ie f fd)(TX:Txt mg)(XF: ~~~fT):(~~~bE) eT 3 f fd oG (aQ K P9):=by
 refine F.okU J2 (λhr=>(aG (aN (fK XF (f2 (aL aO (fQ 0) (fQ 1)) (aL aO (fQ 0) (fQ 1))))))) ?_;rintro as Q ⟨x,y,rfl,hx,hy,h0,hs,q⟩;have hd:(x.2*y.1).natAbs<2^8000:=pY (bC (bV x) (eZ y)) ⋯;exact⟨eN (e:=7900) (pl (eZ x) ⋯) (pl (bV y) ⋯) ∅,eN (e:=7900) (pl (bV x) ⋯) (pl (eZ y) ⋯) ∅,_,_,rfl,QF hx.ne h0,hd,rfl,q⟩
theorem Xh(h:dJ p):val p*(p.2:Rat)=(p.1:Rat):=by have:=h.neR;unfold val;grind
theorem CI(h:dJ p):(0:Rat)<(p.2:Rat):=by have:=h.d;exact_mod_cast (show(0:Int)<p.2 by lia)
theorem vV(h:dJ p):0<=val p↔0<=p.1:=by
 have e:=Xh h;have d:=CI h;constructor
 ·intro k;have:=Rat.mul_nonneg k (Rat.le_of_lt d);rw[e]at this
  exact_mod_cast this
 ·intro k;have k':(0:Rat)<=(p.1:Rat):=by exact_mod_cast k
  rcases Rat.le_total (a:=0) (b:=val p)with c|c
  ·exact c
  ·by_cases z:val p=0
   ·grind
   ·have:=Rat.mul_pos (a:=-val p) (b:=p.2) (by grind) d;grind
theorem BK(h:dJ p):val p<=0↔p.1<=0:=by
 have:=vV (Zn h);rw[K4 h]at this;have e:(zB p).1 = -p.1:=rfl;rw[e]at this;constructor
 ·intro k;have:=this.1 (by grind);lia
 ·intro k;have:=this.2 ⋯;grind
theorem Az(h:dJ p):val p<0↔p.1<0:=by
 have:=vV h;constructor
 ·intro k;exact Int.not_le.mp λc=>by have:=this.2 c;grind
 ·intro k;exact Rat.not_le.mp λc=>by have:=this.1 c;lia
theorem Ir(h:dJ p):0<val p↔0<p.1:=by
 have:=BK h;constructor
 ·intro k;exact Int.not_le.mp λc=>by have:=this.2 c;grind
 ·intro k;exact Rat.not_le.mp λc=>by have:=this.1 c;lia
theorem Ab{lo:Int}(h:(rL lo n)[i]?=oZ t):i<n/\t = .int (lo+(i:Int)):=by
 unfold rL at h;rw[MT]at h;obtain c|c:=OY i n
 ·rw[SK c]at h;cases h;exact⟨c,rfl⟩
 ·rw[PM (by simpa using c)]at h;cases h
theorem bF{z k:Rat}(hk:0<k)(h:0<z*k):0<z:=by
 rcases Rat.le_total (a:=z) (b:=0)with c|c
 ·have:=Rat.mul_nonneg (a:=-z) (b:=k) (by grind) (Rat.le_of_lt hk);grind
 ·by_cases e:z=0
  ·rw[e]at h;grind
  ·grind
theorem dM{z k:Rat}(hk:0<k)(h:0<=z*k):0<=z:=by
 rcases Rat.le_total (a:=z) (b:=0)with c|c
 ·by_cases e:z=0
  ·grind
  ·have:=Rat.mul_pos (a:=-z) (b:=k) (by grind) hk;grind
 ·exact c
abbrev Qk(P w K mg base):=(~~~Fn) 1 "_law_box" ["_law_script","_law_k"] (aQ K Wq)
abbrev Vx:UZ:=top 44
theorem Ii:aK ["_law_script","_law_k","_law_cell"] ["_law_script","_law_k"] (aC Vx):=iG
theorem X0(F:dY K "_law_box" "_law_box" Vx f fd)(TX:Txt mg):(~~~bE) eT 1 f fd ["_law_script","_law_k"] (aQ K Wq):=by
 refine F.okU Ii (λhr=>(aB (fS 2 Ii.nd aA) (aB (eS (fP gW (fv 1) (jS rfl rfl TX.n_len (f1 (fv 0)))) (aG (fS 2 Ii.nd (fX (fv 0) (fv 1)))) c9) (aG (aN (eU (f3 (aL aO (qW rfl TX.n_abs (f1 (fv 2))) (Yt rfl TX.n_int (f1 (xK N5 (qW rfl TX.n_abs (f1 (fv 2))) (aL Ut aA aA) (cH _))))) (aL kM (aY b8 (fv 2) (aL aO (aL aO aA (fv 1)) (fv 1))) aA) aA))))))) ?_;rintro as Q ⟨ns,k,rfl,h0,h1,q⟩;have jw:R3 10 18:=⟨∅,∅,∅⟩;have bx:∀z:Int,Bx [.int ((z.natAbs:Int)*(if decide ((10:Int)^(18:Int).toNat<=(z.natAbs:Int))=true then 1 else 0)),.int ((z+7919*k*k)%2147483647),.int 0] 0:=λz=>
  ⟨_,_,_,rfl,Int.mul_nonneg ⋯ (by split<;>decide),TY _ ∅,SU _ ∅,∅,∅⟩
 have k2:(7919*k).natAbs<2^60:=⋯
 have one:∀z:Int,(if decide ((10:Int)^(18:Int).toNat<=(z.natAbs:Int))=true then(1:Int)else 0).natAbs<2^60:=λz=>by split<;>decide
 have pm:(λ(_ j:Int)=>0<j) 0 2147483647:=by show(0:Int)<2147483647;decide
 show if decide (k<((bB ns).length:Int))=true then _ else _
 by_cases hk:k<((bB ns).length:Int)
 ·rw[oY hk,oV rfl];obtain⟨z,hz⟩:=Tg (ns:=ns) h0 (by simpa[bB]using hk);show o1 (jY (bB ns) k) _;rw[hz];exact⟨jw,wG (one z),wF ∅,wF k2,pm,⟨rfl,q _ (bx z) rfl⟩⟩
 ·rw[oX hk,oW ∅];exact⟨jw,wG (one 0),wF ∅,wF k2,pm,⟨rfl,q _ (bx 0) rfl⟩⟩
theorem Yi(ns:List Int)(m:Nat):i9 (bB ns) none (oZ (m:Int))=bB (ns.take m):=by
 unfold i9 bB;rw[HT.sIx_none,HT.sIx_nat,UK,Nat.sub_zero,UN];obtain h|h:=Nat.le_total m (ns.map T.int).length
 ·rw[SG h]
 ·rw[Nat.min_eq_right h,PY (MQ _),PY h]
theorem Rj{lo hi:Option Int}(h:y∈i9 xs lo hi):y∈xs:=List.mem_of_mem_drop (OJ h)
theorem Ri(xs:List T)(m k:Nat):(i9 xs (oZ (m:Int)) (oZ (k:Int))).length<=xs.length-m:=by
 unfold i9;rw[HT.sIx_nat,HT.sIx_nat,OC,QM];omega
theorem Yl{xs:List T}{i:Nat}(h:(xs.zipIdx.map λq=>T.tup [.int (q.2:Int),q.1])[i]?=oZ x):∃y,xs[i]?=oZ y/\x = .tup [.int (i:Int),y]:=by
 rw[MT]at h;cases q:xs.zipIdx[i]? with
 |none=>rw[q]at h;cases h
 |some z=>
  rw[q]at h;cases h;obtain⟨q1,q2⟩:=MK.mp q;rw[List.getElem_zipIdx]at q2;subst q2;exact⟨_,MI (by simpa using q1),by simp⟩
theorem Cp:∀ns:List Int,dH (bB ns)=true
 |[]=>rfl
 |_::ns=>by simp[bB,dH,noL];exact Cp ns
def Ml:iO:=λas Q=>∃(ns:List Int)(m:Nat),as=[.v (.lst (bB ns)),.v (.int (m:Int))]/\ns.length<=63/\2<=m/\m<=63/\∀cs:List Int,cs.length<=m->Q (.l (bB cs)) []
abbrev wR(P w K mg base):=(~~~Fn) 1 "_law_folded" ["_law_script","_law_many"] (aQ K Ml)
abbrev vG:UZ:=top 46
theorem mS:aK ["_law_script","_law_many","_law_cells","_law_k","_law_cell"] ["_law_script","_law_many"] (aC vG):=iG
theorem Ou(F:dY K "_law_folded" "_law_folded" vG f fd)(TX:Txt mg):(~~~bE) eT 1 f fd ["_law_script","_law_many"] (aQ K Ml):=by
 refine F.okU mS (λhr=>(aB (fS 2 mS.nd (Ob rfl rfl TX.n_list (f1 (jZ rfl (fv 0) kH (fF (fv 1)))))) (aB (gJ PassesOwn.never rfl (zA rfl rfl TX.n_enumerate (f1 (jZ rfl (fv 0) (fF (fv 1)) (fF aA)))) (bS (n:=2) rfl rfl (aE (fG 3 mS.nd) (aE (fG 4 mS.nd) bG))) (aG (iV (aY b8 (fX (fv 2) (aL kM (fv 3) (fv 1))) (aL aO (fv 4) (aY b8 (fv 3) aA))) (Gk (fv 2) (aL kM (fv 3) (fv 1)))))) (aG (aN (fv 2)))))) ?_;rintro as Q ⟨ns,m,rfl,hl,hm2,hm,q⟩;refine mM (λi E=>∃(cs:List Int)(v3 v4:Option U),E=[⇑(.lst (bB ns)),↑(m:Int),↥(bB cs),v3,v4]/\cs.length=(ns.take m).length)
  ⟨ns.take m,none,none,by rw[<-Yi],rfl⟩ ?_ ?_
 ·rintro i x rest E hi ⟨cs,v3,v4,rfl,hc⟩ K;obtain⟨y,hy,rfl⟩:=Yl hi;obtain⟨z,rfl⟩:∃z,y=T.int z:=by
   obtain⟨z,_,e⟩:=MH.mp (Rj (MN hy));exact⟨z,e.symm⟩
  have aGM:i<ns.length-m:=by
   have h1:=(MK.mp hy).1;have h2:=Ri (bB ns) m 63;simp[bB]at h2;exact NC h1 h2
  have hcl:cs.length=m:=by rw[hc,OC];lia
  have em:((i:Int)%(m:Int))=((i%m:Nat):Int):=rfl;have hj:i%m<cs.length:=by rw[hcl];exact RO _ ⋯
  have uv:jY (bB cs) ((i:Int)%(m:Int))=oZ (T.int cs[i%m]):=by
   rw[em];exact yO (by rw[bB,MT,MI hj];rfl)
  have hix:Fg (bB cs).length ((i:Int)%(m:Int))=oZ (i%m):=by
   rw[em];unfold Fg;rw[oV ⋯,oV (by simp[bB];lia),PH]
  have hmp:(λ(_ j:Int)=>0<j) (i:Int) (m:Int):=by show(0:Int)<(m:Int);lia
  refine⟨hmp,?_⟩;show o1 (jY (bB cs) ((i:Int)%(m:Int))) _;rw[uv];refine⟨wG ⋯,hmp,?_⟩;show o1 (Fg (bB cs).length ((i:Int)%(m:Int))) _;rw[hix];have e:bB (cs.set (i%m) (cs[i%m]+z*((i:Int)+2)))=(bB cs).set (i%m) (.int (cs[i%m]+z*((i:Int)+2))):=by rw[bB,bB,List.map_set]
  exact K _ ⟨cs.set (i%m) (cs[i%m]+z*((i:Int)+2)),↑(i:Int),↑z,by rw[e];rfl,by rw[SA];exact hc⟩
 ·rintro E ⟨cs,v3,v4,rfl,hc⟩;have hcm:cs.length<=m:=by rw[hc,OC];lia
  exact⟨Cp _,q cs hcm⟩
def eJ(x y:Fr):Int:=if x.1*y.2<y.1*x.2 then -1 else if y.1*x.2<x.1*y.2 then 1 else 0
def yF:iO:=λas Q=>∃x y:Fr,as=[.v (fr x),.v (fr y)]/\sz x+sz y<=7900/\Q (.v (.int (eJ x y))) []
abbrev iJ(P w K mg base):=(~~~Fn) 1 "compared" oG (aQ K yF)
abbrev nS:UZ:=top 7
theorem mF:aK ["one","other","first","second"] oG (aC nS):=iG
theorem Ct(F:dY K "compared" "compared" nS f fd)(TX:Txt mg):(~~~bE) eT 1 f fd oG (aQ K yF):=by
 refine F.okU mF (λhr=>(aB (fS 2 mF.nd (aL aO (fQ 0) (fQ 1))) (aB (fS 3 mF.nd (aL aO (fQ 1) (fQ 0))) (aB (eS (fP gW (fv 2) (fv 3)) (aG (aN (qX aA))) c9) (aB (eS (fP uU (fv 2) (fv 3)) (aG (aN aA)) c9) (aG (aN aA))))))) ?_;rintro as Q ⟨x,y,rfl,hs,q⟩;refine⟨eN (e:=7900) (pl (eZ x) ⋯) (pl (bV y) ⋯) ∅,eN (e:=7900) (pl (eZ y) ⋯) (pl (bV x) ⋯) ∅,?_⟩;unfold eJ at q;show if decide (x.1*y.2<y.1*x.2)=true then _ else _
 by_cases h:x.1*y.2<y.1*x.2
 ·rw[oY h,oV rfl];rw[oV h]at q;exact⟨rfl,q⟩
 ·rw[oX h,oW ∅];rw[oW h]at q;show if decide (y.1*x.2<x.1*y.2)=true then _ else _
  by_cases k:y.1*x.2<x.1*y.2
  ·rw[oY k,oV rfl];rw[oV k]at q;exact⟨rfl,q⟩
  ·rw[oX k,oW ∅];rw[oW k]at q;exact⟨rfl,q⟩
def tN:iO:=λas Q=>∃(x y b:Fr)(e:Nat),as=[.v (vc x y),.v (fr b)]/\Nv x y e/\dJ b/\e+sz b<=7900/\Q (.v (vc (eV x b) (eV y b))) []
abbrev wW(P w K mg base):=(~~~Fn) 4 "scaled" ["vector","by"] (aQ K tN)
abbrev vL:UZ:=top 11
theorem Po:aK ["vector","by"] ["vector","by"] (aC vL):=iG
theorem Pa(F:dY K "scaled" "scaled" vL f fd)(TX:Txt mg)(XZ: ~~~pB):(~~~bE) eT 4 f fd ["vector","by"] (aQ K tN):=by
 refine F.okU Po (λhr=>(aG (aN (aH (f2 (fK XZ (f2 (fQ 0) (fv 1))) (fK XZ (f2 (fQ 0) (fv 1)))))))) ?_;rintro as Q ⟨x,y,b,e,rfl,h,hb,hs,q⟩;have:=h.sx;have:=h.sy;exact⟨_,_,rfl,h.x,hb,⋯,_,_,rfl,h.y,hb,⋯,rfl,q⟩
def Mq:iO:=λas Q=>∃(x y p q:Fr)(e f:Nat),as=[.v (vc x y),.v (vc p q)]/\Nv x y e/\Nv p q f/\e+f<=7000/\Q (.v (vc (eM x p) (eM y q))) []
abbrev Jd(P w K mg base):=(~~~Fn) 4 "plus" oG (aQ K Mq)
abbrev Ig:UZ:=top 9
theorem J3:aK oG oG (aC Ig):=iG
theorem Zx(F:dY K "plus" "plus" Ig f fd)(TX:Txt mg)(YR: ~~~tS):(~~~bE) eT 4 f fd oG (aQ K Mq):=by
 refine F.okU J3 (λhr=>(aG (aN (aH (f2 (fK YR (f2 (fQ 0) (fQ 1))) (fK YR (f2 (fQ 0) (fQ 1)))))))) ?_;rintro as Q ⟨x,y,p,q,e,f,rfl,h,k,hs,z⟩;have:=h.sx;have:=h.sy;have:=k.sx;have:=k.sy;exact⟨_,_,rfl,h.x,k.x,⋯,_,_,rfl,h.y,k.y,⋯,rfl,z⟩
def Aw:iO:=λas Q=>∃(x y p q:Fr)(e f:Nat),as=[.v (vc x y),.v (vc p q)]/\Nv x y e/\Nv p q f/\e+f<=7000/\Q (.v (vc (dO x p) (dO y q))) []
abbrev Bi(P w K mg base):=(~~~Fn) 4 "minus" oG (aQ K Aw)
abbrev Ah:UZ:=top 10
theorem Wd:aK oG oG (aC Ah):=iG
theorem Uo(F:dY K "minus" "minus" Ah f fd)(TX:Txt mg)(YA: ~~~pA):(~~~bE) eT 4 f fd oG (aQ K Aw):=by
 refine F.okU Wd (λhr=>(aG (aN (aH (f2 (fK YA (f2 (fQ 0) (fQ 1))) (fK YA (f2 (fQ 0) (fQ 1)))))))) ?_;rintro as Q ⟨x,y,p,q,e,f,rfl,h,k,hs,z⟩;have:=h.sx;have:=h.sy;have:=k.sx;have:=k.sy;exact⟨_,_,rfl,h.x,k.x,⋯,_,_,rfl,h.y,k.y,⋯,rfl,z⟩
abbrev Bh(P w K mg base):=(~~~Fn) 4 "cross" oG (aQ K (BR gY))
abbrev Ae:UZ:=top 12
theorem Wb:aK oG oG (aC Ae):=iG
theorem Uk(F:dY K "cross" "cross" Ae f fd)(TX:Txt mg)(XZ: ~~~pB)(YA: ~~~pA):(~~~bE) eT 4 f fd oG (aQ K (BR gY)):=by
 refine F.okU Wb (λhr=>(aG (aN (fK YA (f2 (fK XZ (f2 (fQ 0) (fQ 1))) (fK XZ (f2 (fQ 0) (fQ 1)))))))) ?_;rintro as Q ⟨x,y,x',y',e,f,rfl,h,k,he,q⟩;have:=h.sx;have:=h.sy;have:=k.sx;have:=k.sy;have n1:=bX h.x k.y;have n2:=bX h.y k.x;have s1:=k6 h.x k.y;have s2:=k6 h.y k.x;exact⟨_,_,rfl,h.x,k.y,⋯,_,_,rfl,h.y,k.x,⋯,_,_,rfl,n1,n2,⋯,rfl,q⟩
abbrev Pt:=Fr×Fr
def pt(p:Pt):T:=vc p.1 p.2
abbrev I3:=Int×Int×Int
def t3(s:I3):T:=.tup [.int s.1,.int s.2.1,.int s.2.2]
abbrev I4:=Int×Int×Int×Int
def t4(b:I4):T:=.tup [.int b.1,.int b.2.1,.int b.2.2.1,.int b.2.2.2]
structure B3(e:Nat)(s:I3):Prop where
 a:s.1.natAbs<2^e
 b:s.2.1.natAbs<2^e
 c:s.2.2.natAbs<2^e
theorem B3.up(h:B3 e s)(k:e<=f):B3 f s:=⟨pl h.a k,pl h.b k,pl h.c k⟩
def g8(a b:Int):Int:=((NX a.natAbs b.natAbs:Nat):Int)
def aF(p:Pt):I3:=(p.1.1*(p.2.2.fdiv (g8 p.1.2 p.2.2)),p.2.1*(p.1.2.fdiv (g8 p.1.2 p.2.2)),p.1.2.fdiv (g8 p.1.2 p.2.2)*p.2.2)
def lW(s t:I3):I3:=(s.2.1*t.2.2-s.2.2*t.2.1,s.2.2*t.1-s.1*t.2.2,s.1*t.2.1-s.2.1*t.1)
def g3(l:I3):Int:=g8 (g8 l.1 l.2.1) l.2.2
def cO(l:I3):I3:=(l.1.fdiv (g3 l),l.2.1.fdiv (g3 l),l.2.2.fdiv (g3 l))
def dX(l s:I3):Int:=l.1*s.1+l.2.1*s.2.1+l.2.2*s.2.2
theorem gH(i:Int)(n:Nat):(i.fdiv (n:Int)).natAbs<=i.natAbs:=by
 rw[pM];exact Int.natAbs_ediv_le_natAbs i n
theorem Sv{a b:Int}(h:b≠0):0<g8 a b:=by
 unfold g8;have:=QR a.natAbs (show 0<b.natAbs by lia)
 lia
structure Pb(p:Pt):Prop where
 v:Nv p.1 p.2 20
theorem kY(h:Pb p):B3 40 (aF p):=by
 have d1:=gH p.2.2 (NX p.1.2.natAbs p.2.2.natAbs);have d2:=gH p.1.2 (NX p.1.2.natAbs p.2.2.natAbs);have x1:=pl (eZ p.1) h.v.sx;have x2:=pl (bV p.1) h.v.sx;have y1:=pl (eZ p.2) h.v.sy;have y2:=pl (bV p.2) h.v.sy;exact⟨bC (e:=20) (f:=20) x1 (NH d1 y2),bC (e:=20) (f:=20) y1 (NH d2 x2),bC (e:=20) (f:=20) (NH d2 x2) y2⟩
theorem Pb.g(h:Pb p):Nv p.1 p.2 800:=⟨h.v.x,h.v.y,by have:=h.v.sx;lia,by have:=h.v.sy;lia⟩
theorem AZ(h:Nv p.1 p.2 800):B3 1600 (aF p):=by
 have d1:=gH p.2.2 (NX p.1.2.natAbs p.2.2.natAbs);have d2:=gH p.1.2 (NX p.1.2.natAbs p.2.2.natAbs);have x1:=pl (eZ p.1) h.sx;have x2:=pl (bV p.1) h.sx;have y1:=pl (eZ p.2) h.sy;have y2:=pl (bV p.2) h.sy;exact⟨bC (e:=800) (f:=800) x1 (NH d1 y2),bC (e:=800) (f:=800) y1 (NH d2 x2),bC (e:=800) (f:=800) (NH d2 x2) y2⟩
def Q6:iO:=λas Q=>∃p:Pt,as=[.v (pt p)]/\Nv p.1 p.2 800/\Q (.v (t3 (aF p))) []
abbrev i5(P w K mg base):=(~~~Fn) 2 "spot_of" ["point"] (aQ K Q6)
abbrev rR:UZ:=top 17
theorem iC:aK ["point","divisor","x","low","y","other"] ["point"] (aC rR):=iG
theorem Hl(F:dY K "spot_of" "spot_of" rR f fd)(TX:Txt mg)(XE: ~~~dP):(~~~bE) eT 2 f fd ["point"] (aQ K Q6):=by
 refine F.okU iC (λhr=>(aB (iV (fv 0) (bS (n:=2) rfl rfl (aE (bS (n:=2) rfl rfl (aE (fG 2 iC.nd) (aE (fG 3 iC.nd) bG))) (aE (bS (n:=2) rfl rfl (aE (fG 4 iC.nd) (aE (fG 5 iC.nd) bG))) bG)))) (aB (fS 1 iC.nd (fK XE (f2 (fv 3) (fv 5)))) (aG (aN (aH (f3 (aL aO (fv 2) (aL dA (fv 5) (fv 1))) (aL aO (fv 4) (aL dA (fv 3) (fv 1))) (aL aO (aL dA (fv 3) (fv 1)) (fv 5))))))))) ?_;rintro as Q ⟨p,rfl,h,q⟩;have x1:=pl (eZ p.1) h.sx;have x2:=pl (bV p.1) h.sx;have y1:=pl (eZ p.2) h.sy;have y2:=pl (bV p.2) h.sy;have d1:=gH p.2.2 (NX p.1.2.natAbs p.2.2.natAbs);have d2:=gH p.1.2 (NX p.1.2.natAbs p.2.2.natAbs);have cz:∀i,r8 i ((NX p.1.2.natAbs p.2.2.natAbs:Nat):Int):=λi=>pI (n:=p.1.2) (d:=p.2.2) (by have:=h.y.d;lia) (pY y2 ∅);refine⟨_,_,rfl,?_⟩;exact⟨cz _,eN (e:=800) x1 (NH d1 y2) ∅,cz _,eN (e:=800) y1 (NH d2 x2) ∅,cz _,eN (e:=800) (NH d2 x2) y2 ∅,rfl,q⟩
def P4:iO:=λas Q=>∃s t:I3,as=[.v (t3 s),.v (t3 t)]/\B3 3000 s/\B3 3000 t/\Q (.v (t3 (lW s t))) []
abbrev iR(P w K mg base):=(~~~Fn) 1 "line_through" ["begin","end"] (aQ K P4)
abbrev jE:UZ:=top 18
theorem cG:aK ["begin","end","x","y","w","to_x","to_y","to_w"] ["begin","end"] (aC jE):=iG
theorem sS(F:dY K "line_through" "line_through" jE f fd)(TX:Txt mg):(~~~bE) eT 1 f fd ["begin","end"] (aQ K P4):=by
 refine F.okU cG (λhr=>(aB (iV (aH (f2 (fv 0) (fv 1))) (bS (n:=2) rfl rfl (aE (bS (n:=3) rfl rfl (aE (fG 2 cG.nd) (aE (fG 3 cG.nd) (aE (fG 4 cG.nd) bG)))) (aE (bS (n:=3) rfl rfl (aE (fG 5 cG.nd) (aE (fG 6 cG.nd) (aE (fG 7 cG.nd) bG)))) bG)))) (aG (aN (aH (f3 (aY iW (aL aO (fv 3) (fv 7)) (aL aO (fv 4) (fv 6))) (aY iW (aL aO (fv 4) (fv 5)) (aL aO (fv 2) (fv 7))) (aY iW (aL aO (fv 2) (fv 6)) (aL aO (fv 3) (fv 5))))))))) ?_;rintro as Q ⟨s,t,rfl,h,k,q⟩;exact⟨eN h.b k.c ∅,eN h.c k.b ∅,eN h.c k.a ∅,eN h.a k.c ∅,eN h.a k.b ∅,eN h.b k.a ∅,rfl,q⟩
theorem Ha(h:B3 e s)(k:B3 e t):B3 (e+e+1) (lW s t):=
 ⟨jO (bC h.b k.c) (bC h.c k.b),jO (bC h.c k.a) (bC h.a k.c),jO (bC h.a k.b) (bC h.b k.a)⟩
theorem N0(h:B3 e l):B3 e (cO l):=⟨NH (gH _ _) h.a,NH (gH _ _) h.b,NH (gH _ _) h.c⟩
def P5:iO:=λas Q=>∃l:I3,as=[.v (t3 l)]/\B3 7000 l/\g3 l≠0/\Q (.v (t3 (cO l))) []
theorem Su{a b:Int}(h:a.natAbs<2^e)(k:b.natAbs<2^e):(g8 a b).natAbs<2^e:=by
 unfold g8;rw[SV];obtain z|z:=SS a.natAbs
 ·rw[z,Nat.gcd_zero_left];exact k
 ·exact NH (Nat.gcd_le_left _ z) h
abbrev fM(P w K mg base):=(~~~Fn) 2 "in_lowest_terms" ["line"] (aQ K P5)
abbrev gM:UZ:=top 19
theorem cL:aK ["line","divisor","a","b","c"] ["line"] (aC gM):=iG
theorem nP(F:dY K "in_lowest_terms" "in_lowest_terms" gM f fd)(TX:Txt mg)(XE: ~~~dP):(~~~bE) eT 2 f fd ["line"] (aQ K P5):=by
 refine F.okU cL (λhr=>(aB (iV (fv 0) (bS (n:=3) rfl rfl (aE (fG 2 cL.nd) (aE (fG 3 cL.nd) (aE (fG 4 cL.nd) bG))))) (aB (fS 1 cL.nd (fK XE (f2 (fK XE (f2 (fv 2) (fv 3))) (fv 4)))) (aG (aN (aH (f3 (aL dA (fv 2) (fv 1)) (aL dA (fv 3) (fv 1)) (aL dA (fv 4) (fv 1))))))))) ?_;rintro as Q ⟨l,rfl,h,h0,q⟩;have cz:∀i,r8 i (g3 l):=λi=>⟨h0,pY (Su (Su h.a h.b) h.c) ∅⟩;refine⟨_,_,rfl,_,_,rfl,?_⟩;exact⟨cz _,cz _,cz _,rfl,q⟩
def P8:iO:=λas Q=>∃l s:I3,as=[.v (t3 l),.v (t3 s)]/\B3 3000 l/\B3 3000 s/\Q (.v (.int (dX l s))) []
abbrev lN(P w K mg base):=(~~~Fn) 1 "off_line" ["line","spot"] (aQ K P8)
abbrev nW:UZ:=top 20
theorem Du:aK ["line","spot"] ["line","spot"] (aC nW):=iG
theorem Cz(F:dY K "off_line" "off_line" nW f fd)(TX:Txt mg):(~~~bE) eT 1 f fd ["line","spot"] (aQ K P8):=by
 refine F.okU Du (λhr=>(aG (aN (aY b8 (aY b8 (aL aO (fQ 0) (fQ 1)) (aL aO (fQ 0) (fQ 1))) (aL aO (fQ 0) (fQ 1)))))) ?_;rintro as Q ⟨l,s,rfl,h,k,q⟩;exact⟨eN h.a k.a ∅,eN h.b k.b ∅,eN h.c k.c ∅,rfl,q⟩
theorem Ui(h:B3 e l)(k:B3 f s):(dX l s).natAbs<2^(e+f+2):=
 sX (sX (bC h.a k.a) (bC h.b k.b)) (pl (bC h.c k.c) ⋯)
theorem cD{α β:Type}{f h:α->L2.T}(mk:β->List L2.T->En){Q:En->Prop}:∀(xs:List α)(b:β)(acc:List L2.T),acc.length+xs.length<=9000->
  (∀x∈xs,∀b acc rest,acc.length<9000->(∀b',gV g Fe rest (mk b' (acc++[h x])) Q)->gV g Fe (f x::rest) (mk b acc) Q)->(∀b,Q (mk b (acc++xs.map h)))->gV g Fe (xs.map f) (mk b acc) Q
 |[],b,acc,_,_,hd=>by have:=hd b;rw[QN,NS]at this;exact this
 |x::xs,b,acc,hn,hs,hd=>by
  rw[MS]at hn;refine hs x (by simp) b acc _ ⋯ λb'=>?_;refine cD mk xs b' (acc++[h x]) (by rw[MP,OM];lia) (λy hy=>hs y (by simp[hy])) λb2=>?_;have:=hd b2;rw[MO];exact this
theorem qS{α β:Type}{f h:α->L2.T}(p:α->Bool)(mk:β->List L2.T->En){Q:En->Prop}:∀(xs:List α)(b:β)(acc:List L2.T),acc.length+xs.length<=9000->
  (∀x∈xs,∀b acc rest,acc.length<9000->(∀b',iS g Fb Fe rest (mk b' (if p x=true then acc++[h x]else acc)) Q)->iS g Fb Fe (f x::rest) (mk b acc) Q)->(∀b,Q (mk b (acc++(xs.filter p).map h)))->iS g Fb Fe (xs.map f) (mk b acc) Q
 |[],b,acc,_,_,hd=>by have:=hd b;rw[List.filter_nil,QN,NS]at this;exact this
 |x::xs,b,acc,hn,hs,hd=>by
  rw[MS]at hn;refine hs x (by simp) b acc _ ⋯ λb'=>?_;refine qS p mk xs b' _ (by split<;>(try rw[MP,OM])<;>lia) (λy hy=>hs y (by simp[hy])) λb2=>?_;have:=hd b2
  by_cases c:p x=true
  ·rw[oV c,MO];rw[NT c]at this;exact this
  ·rw[oW c];rw[NU c]at this;exact this
theorem eY{α σ:Type}{D:ET}{f:α->L2.T}(mk:σ->En)(R:List α->σ->Prop)(hs:∀x xs s rest,R (x::xs) s->(∀s',R xs s'->fW g F D rest (mk s'))->fW g F D (f x::rest) (mk s))(hd:∀s,R [] s->D.nx (mk s)):∀xs s,R xs s->fW g F D (xs.map f) (mk s)
 |[],s,h=>hd s h
 |x::xs,s,h=>hs x xs s _ h λs' h'=>eY mk R hs hd xs s' h'
theorem aZ{α:Type}{f:α->L2.T}(h:∀x,noL (f x)=true):∀xs:List α,dH (xs.map f)=true
 |[]=>rfl
 |x::xs=>by rw[MR,dH,h x,aZ h xs];rfl
def Qi(ss:List I3):List Int:=ss.map λs=>(s.1*65536).fdiv s.2.2
def Qj(ss:List I3):List Int:=ss.map λs=>(s.2.1*65536).fdiv s.2.2
def t9(ss:List I3):I4:=(zN (Qi ss),zN (Qj ss),zK (Qi ss),zK (Qj ss))
def O5:iO:=λas Q=>∃(t:L2.T)(ss:List I3),as=[.v t]/\(t = .lst (ss.map t3)\/t = .tup (ss.map t3))/\0<ss.length/\ss.length<=8000/\(∀s∈ss,B3 3000 s/\s.2.2≠0)/\Q (.v (t4 (t9 ss))) []
abbrev qP(P w K mg base):=(~~~Fn) 1 "box_of" ["spots"] (aQ K O5)
abbrev vF:UZ:=top 21
theorem rS:aK ["spots","across","up"] ["spots"] (aC vF):=iG
theorem Ot(F:dY K "box_of" "box_of" vF f fd)(TX:Txt mg)(bg:Fl mg "GRID" 65536):(~~~bE) eT 1 f fd ["spots"] (aQ K O5):=by
 refine F.okU rS (λhr=>(aB (pP (i:=1) (N':=["spot"]) (t:=1) (cap:=[]) rS.nd rfl (ON rfl) rfl rfl (bH.of rfl) rfl ∅ (Sl rfl (fv 0)) (λ_ _ _ _=>(fH 0)) (λ_ _ _ _=>(aL dA (aL aO (fQ 0) (Cc rfl bg)) (fQ 0)))) (aB (pP (i:=2) (N':=["spot"]) (t:=1) (cap:=[]) rS.nd rfl (ON rfl) rfl rfl (bH.of rfl) rfl ∅ (Sl rfl (fv 0)) (λ_ _ _ _=>(fH 0)) (λ_ _ _ _=>(aL dA (aL aO (fQ 0) (Cc rfl bg)) (fQ 0)))) (aG (aN (aH (f4 (Jz rfl rfl rfl TX.n_min (f1 (fv 1))) (Jz rfl rfl rfl TX.n_min (f1 (fv 2))) (Jy rfl rfl rfl TX.n_max (f1 (fv 1))) (Jy rfl rfl rfl TX.n_max (f1 (fv 2)))))))))) ?_;rintro as Q ⟨t,ss,rfl,ht,h0,hl,hs,q⟩;have cz:∀s∈ss,∀i,r8 i s.2.2:=λs m i=>⟨(hs s m).2,pY (hs s m).1.c ∅⟩;have e1:(ss.map λs=>L2.T.int ((s.1*65536).fdiv s.2.2))=(Qi ss).map L2.T.int:=by rw[Qi,MY];rfl
 have e2:(ss.map λs=>L2.T.int ((s.2.1*65536).fdiv s.2.2))=(Qj ss).map L2.T.int:=by rw[Qj,MY];rfl
 have l1:0<(Qi ss).length:=by rw[Qi,ML];exact h0
 have l2:0<(Qj ss).length:=by rw[Qj,ML];exact h0
 obtain rfl|rfl:=ht
 all_goals
  refine⟨rfl,rfl,cD (f:=t3) (h:=λs=>.int ((s.1*65536).fdiv s.2.2)) (λ(w:Option U)acc=>[w,↥acc]) ss none [] (by simp;lia) (λs m w acc rest ha K=>⟨wG ∅,cz s m _,ha,K _⟩) λw=>?_⟩;refine⟨aZ (λ_=>rfl) _,rfl,rfl,cD (f:=t3) (h:=λs=>.int ((s.2.1*65536).fdiv s.2.2)) (λ(w:Option U)acc=>[w,↥acc]) ss none [] (by simp;lia) (λs m w acc rest ha K=>⟨wG ∅,cz s m _,ha,K _⟩) λw=>?_⟩;refine⟨aZ (λ_=>rfl) _,?_⟩;rw[OP,OP,e1,e2];exact⟨_,rfl,l1,_,rfl,l2,_,rfl,l1,_,rfl,l2,rfl,q⟩
def nL(a b:I4):Bool:=decide (a.2.2.1<b.1)||decide (b.2.2.1<a.1)||decide (a.2.2.2<b.2.1)||decide (b.2.2.2<a.2.1)
def Mh:iO:=λas Q=>∃a b:I4,as=[.v (t4 a),.v (t4 b)]/\Q (.v (.bl (nL a b))) []
abbrev oR(P w K mg base):=(~~~Fn) 1 "are_apart" oG (aQ K Mh)
abbrev lZ:UZ:=top 22
theorem Al:aK oG oG (aC lZ):=iG
theorem zQ(F:dY K "are_apart" "are_apart" lZ f fd)(TX:Txt mg):(~~~bE) eT 1 f fd oG (aQ K Mh):=by
 refine F.okU Al (λhr=>(aG (aN (Sj (xK gW (fQ 0) (fQ 1) (cH _)) (Sj (xK gW (fQ 1) (fQ 0) (cH _)) (Sj (xK gW (fQ 0) (fQ 1) (cH _)) (U2 (xK gW (fQ 1) (fQ 0) (cH _))))))))) ?_;rintro as Q ⟨a,b,rfl,q⟩;unfold nL at q;show if decide (a.2.2.1<b.1)=true then _ else _
 by_cases c1:a.2.2.1<b.1
 ·rw[oY c1]at q⊢;rw[oV rfl];exact⟨rfl,q⟩
 rw[oX c1]at q⊢;rw[oW ∅];show if decide (b.2.2.1<a.1)=true then _ else _
 by_cases c2:b.2.2.1<a.1
 ·rw[oY c2]at q⊢;rw[oV rfl];exact⟨rfl,q⟩
 rw[oX c2]at q⊢;rw[oW ∅];show if decide (a.2.2.2<b.2.1)=true then _ else _
 by_cases c3:a.2.2.2<b.2.1
 ·rw[oY c3]at q⊢;rw[oV rfl];exact⟨rfl,q⟩
 rw[oX c3]at q⊢;rw[oW ∅];exact⟨rfl,q⟩
theorem L3(xs:List L2.T):i9 xs (oZ 1) none=xs.tail:=by
 unfold i9;have e:HT.sIx xs.length 0 (oZ (1:Int))=min 1 xs.length:=HT.sIx_nat _ _ 1;rw[HT.sIx_none,e];cases xs with
 |nil=>rfl
 |cons x xs=>
  rw[SG (by simp),List.drop_succ_cons,UK,List.tail_cons];exact PY (by simp)
theorem Jt(xs:List L2.T):i9 xs none (oZ 1)=xs.take 1:=by
 unfold i9;have e:HT.sIx xs.length xs.length (oZ (1:Int))=min 1 xs.length:=HT.sIx_nat _ _ 1;rw[HT.sIx_none,e,UK,Nat.sub_zero];cases xs with
 |nil=>rfl
 |cons x xs=>rw[SG (by simp)]
theorem zip_map{α β:Type}(f:α->L2.T)(g:β->L2.T):∀(xs:List α)(ys:List β),gQ (xs.map f) (ys.map g)=(xs.zip ys).map λp=>L2.T.tup [f p.1,g p.2]
 |[],ys=>by simp[gQ]
 |x::xs,[]=>by simp[gQ]
 |x::xs,y::ys=>by
  show L2.T.tup [f x,g y]::gQ (xs.map f) (ys.map g)=_;rw[zip_map f g xs ys];rfl
structure jH where
 w:Str
 n:Int
 o:List Pt
 m:Str
def gR(b:jH):L2.T:=.tup [.str b.w,.int b.n,.tup (b.o.map pt),.str b.m]
def qC{α:Type}(xs:List α):List α:=xs.tail++xs.take 1
def cV(o:List Pt):List I3:=((o.map aF).zip (qC (o.map aF))).map λp=>lW p.1 p.2
def Wv:iO:=λas Q=>∃b:jH,as=[.v (gR b)]/\b.o.length<=8000/\(∀p∈b.o,Pb p)/\Q (.l ((cV b.o).map t3)) []
abbrev jQ(P w K mg base):=(~~~Fn) 3 "edge_lines" ["block"] (aQ K Wv)
abbrev kR:UZ:=top 23
theorem nH:aK ["block","spots"] ["block"] (aC kR):=iG
theorem wJ(F:dY K "edge_lines" "edge_lines" kR f fd)(TX:Txt mg)(XO: ~~~i5)(XR: ~~~iR):(~~~bE) eT 3 f fd ["block"] (aQ K Wv):=by
 refine F.okU nH (λhr=>(aB (pP (i:=1) (N':=["corner"]) (t:=1) (cap:=[]) nH.nd rfl (ON rfl) rfl rfl (bH.of rfl) rfl ∅ (qZ rfl (fQ 0)) (λ_ _ _ _=>(fH 0)) (λ_ _ _ _=>(fK XO (f1 (fv 0))))) (aG (aN (fD (N':=["begin","end"]) (t:=2) (cap:=[]) rfl (bH.of rfl) rfl ∅ (Kc rfl rfl TX.n_zip (f2 (fv 1) (Si (jZ rfl (fv 1) (fF aA) kH) (jZ rfl (fv 1) kH (fF aA))))) (λ_ _ _ _=>(bS (n:=2) rfl rfl (aE (fH 0) (aE (fH 1) bG)))) (λ_ _ _ _=>(fK XR (f2 (fv 0) (fv 1))))))))) ?_;rintro as Q ⟨b,rfl,hl,hb,q⟩;refine⟨rfl,cD (f:=pt) (h:=λp=>t3 (aF p)) (λ(w:Option U)acc=>[w,↥acc]) b.o none [] (by simp;lia) (λp m w acc rest ha K=>?_) λw=>?_⟩
 ·exact⟨p,rfl,(hb p m).g,ha,K _⟩
 refine⟨aZ (λ_=>rfl) _,?_⟩;rw[OP,show(b.o.map λp=>t3 (aF p))=(b.o.map aF).map t3 by rw[MY];rfl];have hs:∀s∈b.o.map aF,B3 3000 s:=λs m=>by
  obtain⟨p,mp,rfl⟩:=MH.mp m;exact(kY (hb p mp)).up ∅
 have hle:(b.o.map aF).length<=8000:=by rw[ML];exact hl
 unfold cV at q;generalize b.o.map aF=ss at hs hle q;refine(?_:sR [⇑(gR b),↥(ss.map t3)] _);have e1:i9 (ss.map t3) (oZ 1) none++i9 (ss.map t3) none (oZ 1)=(qC ss).map t3:=by rw[L3,Jt,qC,OE,List.map_tail,UN]
 refine⟨?_,?_⟩
 ·show(i9 (ss.map t3) (oZ 1) none).length+(i9 (ss.map t3) none (oZ 1)).length<=9000;rw[L3,Jt,QU,OC,ML];lia
 ·refine⟨rfl,?_⟩;show gV _ _ (gQ (ss.map t3) (i9 (ss.map t3) (oZ 1) none++i9 (ss.map t3) none (oZ 1))) _ _;rw[e1,zip_map];have hz:∀p∈ss.zip (qC ss),B3 3000 p.1/\B3 3000 p.2:=λp m=>by
   obtain⟨m1,m2⟩:=PQ (a:=p.1) (b:=p.2) m;refine⟨hs _ m1,hs _ ?_⟩;obtain m2|m2:=NB.mp m2
   ·exact SH m2
   ·exact OJ m2
  refine cD (f:=λp:I3×I3=>.tup [t3 p.1,t3 p.2]) (h:=λp=>t3 (lW p.1 p.2)) (λ(w:Option U×Option U)acc=>[w.1,w.2,↥acc]) _ (none,none) [] (by simp;lia) (λp m w acc rest ha K=>?_) λw=>?_
  ·exact⟨p.1,p.2,rfl,(hz p m).1,(hz p m).2,ha,K (_,_)⟩
  ·refine⟨aZ (λ_=>rfl) _,aZ (λ_=>rfl) _,?_⟩;rw[MY]at q;exact q
structure Sh where
 b:I4
 ls:List I3
def Be(s:Sh):L2.T:=.tup [t4 s.b,.tup (s.ls.map t3)]
theorem He(s:Sh):noL (Be s)=true:=by
 have:=aZ (f:=t3) (λ_=>rfl) s.ls;simp[Be,t4,noL,dH,this]
theorem Ua(b:jH):noL (gR b)=true:=by
 have:=aZ (f:=pt) (λ_=>rfl) b.o;simp[gR,noL,dH,this]
def a9(b:jH):Sh:=⟨t9 (b.o.map aF),(cV b.o).map cO⟩
structure Fh(b:jH):Prop where
 len:b.o.length<=8000
 pos:0<b.o.length
 pb:∀p∈b.o,Pb p
 ne:∀l∈cV b.o,g3 l≠0
theorem yZ(h:∀p∈o,Pb p):∀l∈cV o,B3 81 l:=λl m=>by
 obtain⟨p,mp,rfl⟩:=MH.mp m;obtain⟨m1,m2⟩:=PQ (a:=p.1) (b:=p.2) mp;have hs:∀s∈o.map aF,B3 40 s:=λs m=>by
  obtain⟨p,mp,rfl⟩:=MH.mp m;exact kY (h p mp)
 refine Ha (hs _ m1) (hs _ ?_);obtain m2|m2:=NB.mp m2
 ·exact SH m2
 ·exact OJ m2
theorem Au(h:Pb p):(aF p).2.2≠0:=by
 have hx:=h.v.x.d;have hy:=h.v.y.d;show p.1.2.fdiv (g8 p.1.2 p.2.2)*p.2.2≠0;refine QF ?_ ⋯;unfold g8;rw[pM];have dn:((NX p.1.2.natAbs p.2.2.natAbs:Nat):Int)∣p.1.2:=OB.mpr (PF _ _);intro z;have:=Int.ediv_mul_cancel dn;rw[z,Int.zero_mul]at this
 lia
def Wx:iO:=λas Q=>∃b:jH,as=[.v (gR b)]/\Fh b/\Q (.v (Be (a9 b))) []
abbrev sE(P w K mg base):=(~~~Fn) 4 "shape_of" ["block"] (aQ K Wx)
abbrev nY:UZ:=top 24
theorem sL:aK ["block","lines"] ["block"] (aC nY):=iG
theorem De(F:dY K "shape_of" "shape_of" nY f fd)(TX:Txt mg)(XS: ~~~jQ)(XM: ~~~fM)(YQ: ~~~qP)(XO: ~~~i5):(~~~bE) eT 4 f fd ["block"] (aQ K Wx):=by
 refine F.okU sL (λhr=>(aB (pP (i:=1) (N':=["line"]) (t:=1) (cap:=[]) sL.nd rfl (ON rfl) rfl rfl (bH.of rfl) rfl ∅ (dG rfl (fK XS (f1 (fv 0)))) (λ_ _ _ _=>(fH 0)) (λ_ _ _ _=>(fK XM (f1 (fv 0))))) (aG (aN (aH (f2 (fK YQ (f1 (fD (N':=["corner"]) (t:=1) (cap:=[]) rfl (bH.of rfl) rfl ∅ (qZ rfl (fQ 0)) (λ_ _ _ _=>(fH 0)) (λ_ _ _ _=>(fK XO (f1 (fv 0))))))) (uD rfl rfl TX.n_tuple (f1 (fv 1))))))))) ?_;rintro as Q ⟨b,rfl,h,q⟩;refine⟨b,rfl,h.len,h.pb,rfl,?_⟩;have hle:(cV b.o).length<=8000:=by
  have:=h.len;simp only[cV,ML,SI];lia
 refine cD (f:=t3) (h:=λl=>t3 (cO l)) (λ(w:Option U)acc=>[w,↥acc]) _ none [] (by simp;lia) (λl m w acc rest ha K=>?_) λw=>?_
 ·exact⟨l,rfl,(yZ h.pb l m).up ∅,h.ne l m,ha,K _⟩
 refine⟨aZ (λ_=>rfl) _,?_⟩;refine⟨rfl,cD (f:=pt) (h:=λp=>t3 (aF p)) (λ(w:Option U)acc=>[w,↥acc]) b.o none [] (by have:=h.len;simp;lia) (λp m w acc rest ha K=>?_) λw=>?_⟩
 ·exact⟨p,rfl,(h.pb p m).g,ha,K _⟩
 refine⟨aZ (λ_=>rfl) _,?_⟩;refine⟨_,b.o.map aF,rfl,.inl (by rw[MY];rfl),by rw[ML];exact h.pos,by rw[ML];exact h.len,λs m=>?_,?_⟩
 ·obtain⟨p,mp,rfl⟩:=MH.mp m;exact⟨(kY (h.pb p mp)).up ∅,Au (h.pb p mp)⟩
 ·have e:([]++(cV b.o).map λl=>t3 (cO l))=(((cV b.o).map cO).map t3):=by rw[MY];rfl
  rw[e];exact⟨He (a9 b),q⟩
def Mr:iO:=λas Q=>∃bs:List jH,as=[.v (.lst (bs.map gR))]/\bs.length<=8000/\(∀b∈bs,Fh b)/\Q (.l ((bs.map a9).map Be)) []
abbrev o8(P w K mg base):=(~~~Fn) 5 "shapes_of" ["laid"] (aQ K Mr)
abbrev mE:UZ:=top 25
theorem An:aK ["laid"] ["laid"] (aC mE):=iG
theorem zV(F:dY K "shapes_of" "shapes_of" mE f fd)(TX:Txt mg)(ZK: ~~~sE):(~~~bE) eT 5 f fd ["laid"] (aQ K Mr):=by
 refine F.okU An (λhr=>(aG (aN (fD (N':=["block"]) (t:=1) (cap:=[]) rfl (bH.of rfl) rfl ∅ (dG rfl (fv 0)) (λ_ _ _ _=>(fH 0)) (λ_ _ _ _=>(fK ZK (f1 (fv 0)))))))) ?_;rintro as Q ⟨bs,rfl,hl,h,q⟩;refine⟨rfl,cD (f:=gR) (h:=λb=>Be (a9 b)) (λ(w:Option U)acc=>[w,↥acc]) bs none [] (by simp;lia) (λb m w acc rest ha K=>?_) λw=>?_⟩
 ·exact⟨b,rfl,h b m,ha,K _⟩
 ·rw[MY]at q;exact⟨aZ (λ_=>He _) _,aZ (λ_=>He _) _,q⟩
structure Sg where
 b:I4
 p:I3
 q:I3
 l:I3
def FY(s:Sg):L2.T:=.tup [t4 s.b,.tup [t3 s.p,t3 s.q],t3 s.l]
def eQ(p q:Pt):Sg:=⟨t9 [aF p,aF q],aF p,aF q,cO (lW (aF p) (aF q))⟩
def GQ:iO:=λas Q=>∃p q:Pt,as=[.v (pt p),.v (pt q)]/\Pb p/\Pb q/\g3 (lW (aF p) (aF q))≠0/\Q (.v (FY (eQ p q))) []
abbrev m9(P w K mg base):=(~~~Fn) 3 "segment_of" ["begin","end"] (aQ K GQ)
abbrev kT:UZ:=top 26
theorem nI:aK ["begin","end","spots"] ["begin","end"] (aC kT):=iG
theorem wL(F:dY K "segment_of" "segment_of" kT f fd)(TX:Txt mg)(XO: ~~~i5)(YQ: ~~~qP)(XM: ~~~fM)(XR: ~~~iR):(~~~bE) eT 3 f fd ["begin","end"] (aQ K GQ):=by
 refine F.okU nI (λhr=>(aB (fS 2 nI.nd (aH (f2 (fK XO (f1 (fv 0))) (fK XO (f1 (fv 1)))))) (aG (aN (aH (f3 (fK YQ (f1 (fv 2))) (fv 2) (fK XM (f1 (fK XR (f2 (fQ 2) (fQ 2))))))))))) ?_;rintro as Q ⟨p,q,rfl,hp,hq,h0,z⟩;have bp:=(kY hp).up (show 40<=3000 by decide);have bq:=(kY hq).up (show 40<=3000 by decide);refine⟨p,rfl,hp.g,q,rfl,hq.g,_,[aF p,aF q],rfl,.inr rfl,(show 0<2 by decide),(show 2<=8000 by decide),λs m=>?_,_,_,rfl,bp,bq,_,rfl,(Ha bp bq).up ∅,h0,rfl,z⟩;obtain rfl|m:=MJ.mp m
 ·exact⟨bp,Au hp⟩
 ·have e:s=aF q:=by simpa using m
  subst e;exact⟨bq,Au hq⟩
def aX(x y:Fr):Fr:=if eJ x y<0 then y else x
def aI(x y:Fr):Fr:=if eJ x y<0 then x else y
def J8(op:Fr->Fr->Fr):iO:=λas Q=>∃x y:Fr,as=[.v (fr x),.v (fr y)]/\sz x+sz y<=7900/\Q (.v (fr (op x y))) []
abbrev tT(P w K mg base):=(~~~Fn) 2 "later" oG (aQ K (J8 aX))
abbrev Af:UZ:=top 28
theorem Wc:aK oG oG (aC Af):=iG
theorem Ul(F:dY K "later" "later" Af f fd)(TX:Txt mg)(XI: ~~~iJ):(~~~bE) eT 2 f fd oG (aQ K (J8 aX)):=by
 refine F.okU Wc (λhr=>(aG (aN (pO (fP gW (fK XI (f2 (fv 0) (fv 1))) aA) (fv 1) (fv 0))))) ?_;rintro as Q ⟨x,y,rfl,hs,q⟩;refine⟨x,y,rfl,hs,?_⟩;unfold aX at q;show if decide (eJ x y<0)=true then _ else _
 by_cases c:eJ x y<0
 ·rw[oY c,oV rfl];rw[oV c]at q;exact⟨rfl,q⟩
 ·rw[oX c,oW ∅];rw[oW c]at q;exact⟨rfl,q⟩
abbrev nK(P w K mg base):=(~~~Fn) 2 "earlier" oG (aQ K (J8 aI))
abbrev rM:UZ:=top 29
theorem Ij:aK oG oG (aC rM):=iG
theorem Hg(F:dY K "earlier" "earlier" rM f fd)(TX:Txt mg)(XI: ~~~iJ):(~~~bE) eT 2 f fd oG (aQ K (J8 aI)):=by
 refine F.okU Ij (λhr=>(aG (aN (pO (fP gW (fK XI (f2 (fv 0) (fv 1))) aA) (fv 0) (fv 1))))) ?_;rintro as Q ⟨x,y,rfl,hs,q⟩;refine⟨x,y,rfl,hs,?_⟩;unfold aI at q;show if decide (eJ x y<0)=true then _ else _
 by_cases c:eJ x y<0
 ·rw[oY c,oV rfl];rw[oV c]at q;exact⟨rfl,q⟩
 ·rw[oX c,oW ∅];rw[oW c]at q;exact⟨rfl,q⟩
structure F2(p:Fr):Prop where
 s:sz p<=300
 d:1<=p.2
theorem F2.later(h:F2 x)(k:F2 y):F2 (aX x y):=by unfold aX;split<;>assumption
theorem F2.earlier(h:F2 x)(k:F2 y):F2 (aI x y):=by unfold aI;split<;>assumption
theorem F2.of{n d:Int}(h:n.natAbs<2^300)(k:d.natAbs<2^300)(hd:1<=d):F2 (n,d):=⟨mJ (p:=(n,d)) h k ∅,hd⟩
theorem F2.c(h:F2 x)(k:F2 y):sz x+sz y<=7900:=by have:=h.s;have:=k.s;lia
theorem Na:F2 (0,1):=F2.of ∅ ∅ ∅
theorem Nb:F2 (1,1):=F2.of ∅ ∅ ∅
def DK:Nat->Str
 |0=>"in"
 |1=>"left"
 |_=>"right"
def lX(b e own:I3):List I3->Fr->Fr->Nat->Option (Fr×Fr×Nat)
 |[],lo,hi,h=>oZ (lo,hi,h)
 |l::ls,lo,hi,h=>
  if dX l b*e.2.2<=0/\dX l e*b.2.2<=0 then
   if dX l b*e.2.2<0\/dX l e*b.2.2<0 then none else lX b e own ls lo hi (if l=own then 1 else 2)
  else if dX l b*e.2.2<0 then lX b e own ls (aX lo (-(dX l b*e.2.2),dX l e*b.2.2-dX l b*e.2.2)) hi h
  else if dX l e*b.2.2<0 then lX b e own ls lo (aI hi (dX l b*e.2.2,dX l b*e.2.2-dX l e*b.2.2)) h
  else lX b e own ls lo hi h
def xW:Option (Fr×Fr×Nat)->Option (Fr×Fr×Nat)
 |none=>none
 |some r=>if eJ r.1 r.2.1<0 then oZ r else none
def aW(s:Sh)(g:Sg):Option (Fr×Fr×Nat):=if nL s.b g.b=true then none else xW (lX g.p g.q g.l s.ls (0,1) (1,1) 0)
def HJ:Option (Fr×Fr×Nat)->L2.T
 |none=>.non
 |some r=>.tup [fr r.1,fr r.2.1,.str (DK r.2.2)]
def yL(r:Option (Fr×Fr×Nat)):Prop:=∀x,r=oZ x->F2 x.1/\F2 x.2.1
theorem B9(hl:B3 81 l)(hb:B3 40 b)(he:B3 40 e):(dX l b*e.2.2).natAbs<2^163:=bC (Ui hl hb) he.c
theorem Lf(hb:B3 40 b)(he:B3 40 e):∀(ls:List I3)(lo hi:Fr)(h:Nat),(∀l∈ls,B3 81 l)->F2 lo->F2 hi->yL (lX b e own ls lo hi h)
 |[],lo,hi,h,_,f1,f2=>λx e=>by cases e;exact⟨f1,f2⟩
 |l::ls,lo,hi,h,hl,f1,f2=>by
  have k1:=B9 (hl l (by simp)) hb he;have k2:=B9 (hl l (by simp)) he hb;have rest:=λlo hi h f1 f2=>Lf hb he ls lo hi h (λl m=>hl l (by simp[m])) f1 f2 (own:=own);unfold lX
  split
  ·split
   ·intro x e;cases e
   ·exact rest _ _ _ f1 f2
  ·split
   ·exact rest _ _ _ (f1.later (F2.of (by rw[QL];exact pl k1 ∅) (pl (jO k2 k1) ∅) ⋯)) f2
   ·split
    ·exact rest _ _ _ f1 (f2.earlier (F2.of (pl k1 ∅) (pl (jO k1 k2) ∅) ⋯))
    ·exact rest _ _ _ f1 f2
theorem Lg(hs:∀l∈s.ls,B3 81 l)(hp:B3 40 g.p)(hq:B3 40 g.q):yL (aW s g):=by
 unfold aW
 split
 ·intro x e;cases e
 ·have:=Lf (own:=g.l) hp hq s.ls (0,1) (1,1) 0 hs Na Nb;intro x e;cases q:lX g.p g.q g.l s.ls (0,1) (1,1) 0 with
  |none=>rw[q]at e;cases e
  |some r=>
   rw[q]at e;unfold xW at e;simp only at e;split at e
   ·cases e;exact this _ q
   ·cases e
theorem CP(a b:I3):iP (t3 a) (t3 b)=decide (a=b):=by
 rw[RJ];simp[t3,L2.iP,L2.sO,Prod.ext_iff]
def Ee:iO:=λas Q=>∃(s:Sh)(g:Sg),as=[.v (Be s),.v (FY g)]/\(∀l∈s.ls,B3 81 l)/\B3 40 g.p/\B3 40 g.q/\B3 3000 g.l/\Q (.v (HJ (aW s g))) []
abbrev tW(P w K mg base):=(~~~Fn) 3 "overlap" ["shape","segment"] (aQ K Ee)
abbrev rO:UZ:=top 27
theorem cM:aK ["shape","segment","line","box","own","low","high","hand","begin","end","first","last"] ["shape","segment"] (aC rO):=iG
theorem Hi(F:dY K "overlap" "overlap" rO f fd)(TX:Txt mg)(ZC: ~~~oR)(XX: ~~~lN)(ZH: ~~~tT)(YJ: ~~~nK)(XI: ~~~iJ)(af:tQ mg K "NOUGHT" (.tup [.int 0,.int 1]))(jf:tQ mg K "ONE" (.tup [.int 1,.int 1])):(~~~bE) eT 3 f fd ["shape","segment"] (aQ K Ee):=by
 refine F.okU cM (λhr=>(aB (iV (fv 1) (bS (n:=3) rfl rfl (aE (fG 3 cM.nd) (aE (bS (n:=2) rfl rfl (aE (fG 8 cM.nd) (aE (fG 9 cM.nd) bG))) (aE (fG 4 cM.nd) bG))))) (aB (eS (Gp (fK ZC (f2 (fQ 0) (fv 3)))) (aG (aN qY)) c9) (aB (Kg (i:=5) (j:=6) (k:=7) rfl cM.nd rfl rfl rfl ∅ ∅ ∅ rfl rfl rfl (f3 (tD rfl af) (tD rfl jf) iU) rfl) (aB (gJ PassesOwn.never rfl (qZ rfl (fQ 0)) (fG 2 cM.nd) (aB (kI (i:=10) (j:=11) rfl cM.nd rfl rfl ∅ rfl rfl (f2 (aL aO (fK XX (f2 (fv 2) (fv 8))) (fQ 9)) (aL aO (fK XX (f2 (fv 2) (fv 9))) (fQ 8))) rfl) (aG (eS (Gq (Sr (fP N6 (fv 10) aA) (Kh (fP N6 (fv 11) aA)))) (aB (eS (Gq (Ce (fP gW (fv 10) aA) (uJ (fP gW (fv 11) aA)))) (aG (aN qY)) c9) (aG (fS 7 cM.nd (pO (Cd rfl hr (fv 2) (fv 4) (cH _)) iU iU)))) (aG (eS (fP gW (fv 10) aA) (aG (fS 5 cM.nd (fK ZH (f2 (fv 5) (aH (f2 (qX (fv 10)) (aY iW (fv 11) (fv 10)))))))) (aG (eS (fP gW (fv 11) aA) (aG (fS 6 cM.nd (fK YJ (f2 (fv 6) (aH (f2 (fv 10) (aY iW (fv 10) (fv 11)))))))) c9)))))))) (aG (aN (pO (fP gW (fK XI (f2 (fv 5) (fv 6))) aA) (aH (f3 (fv 5) (fv 6) (fv 7))) qY)))))))) ?_;rintro as Q ⟨s,g,rfl,hs,hp,hq,hl,q⟩;refine⟨_,_,rfl,?_⟩;unfold aW at q;show if nL s.b g.b=true then _ else _
 by_cases c:nL s.b g.b=true
 ·rw[oV c];rw[oV c]at q;exact⟨rfl,q⟩
 rw[oW c];rw[oW c]at q;refine eY (f:=t3) (λs':Fr×Fr×Nat×Option U×Option U×Option U=>[⇑(Be s),⇑(FY g),s'.2.2.2.1,⇑(t4 g.b),⇑(t3 g.l),⇑(fr s'.1),⇑(fr s'.2.1),⇑(.str (DK s'.2.2.1)),⇑(t3 g.p),⇑(t3 g.q),s'.2.2.2.2.1,s'.2.2.2.2.2])
  (λls s'=>(∀l∈ls,B3 81 l)/\F2 s'.1/\F2 s'.2.1/\Q (.v (HJ (xW (lX g.p g.q g.l ls s'.1 s'.2.1 s'.2.2.1)))) []) ?_ ?_ s.ls ((0,1),(1,1),0,none,none,none) ⟨hs,Na,Nb,q⟩
 ·rintro l ls ⟨lo,hi,h,v2,v10,v11⟩ rest ⟨uw,f1,f2,z⟩ K;have ou:=(uw l (by simp)).up (show 81<=3000 by decide);have hp':=hp.up (show 40<=3000 by decide);have iw:=hq.up (show 40<=3000 by decide);have k1:=B9 (uw l (by simp)) hp hq;have k2:=B9 (uw l (by simp)) hq hp;have XW:∀m∈ls,B3 81 m:=λm hm=>uw m (by simp[hm]);refine⟨l,g.p,rfl,ou,hp',eN (e:=123) (Ui (uw l (by simp)) hp) (pl hq.c ∅) ∅,l,g.q,rfl,ou,iw,eN (e:=123) (Ui (uw l (by simp)) hq) (pl hp.c ∅) ∅,?_⟩;simp only[lX]at z;generalize ef:dX l g.p*g.q.2.2=a at z k1 k2⊢;generalize eg:dX l g.q*g.p.2.2=b at z k1 k2⊢;have fa:1<=b-a->F2 (-a,b-a):=F2.of (by rw[QL];exact pl k1 ∅) (pl (jO k2 k1) ∅);have fb:1<=a-b->F2 (a,a-b):=F2.of (pl k1 ∅) (pl (jO k1 k2) ∅);show if decide (a<=0)=true then _ else _
  by_cases c1:a<=0
  ·rw[oY c1,oV rfl];show if decide (b<=0)=true then _ else _
   by_cases c2:b<=0
   ·rw[oY c2,oV rfl];rw[oV ⟨c1,c2⟩]at z;show if decide (a<0)=true then _ else _
    by_cases c3:a<0
    ·rw[oY c3,oV rfl,oV rfl];rw[oV (.inl c3)]at z;exact⟨rfl,z⟩
    ·rw[oX c3,oW ∅];show if decide (b<0)=true then _ else _
     by_cases c4:b<0
     ·rw[oY c4,oV rfl];rw[oV (.inr c4)]at z;exact⟨rfl,z⟩
     ·rw[oX c4,oW ∅];rw[oW (λw=>w.elim c3 c4)]at z;refine⟨jL rfl,?_⟩;show if iP (t3 l) (t3 g.l)=true then _ else _;rw[CP]
      by_cases c5:l=g.l
      ·rw[oY c5,oV rfl];rw[oV c5]at z;exact K (lo,hi,1,⇑(t3 l),↑a,↑b) ⟨XW,f1,f2,z⟩
      ·rw[oX c5,oW ∅];rw[oW c5]at z;exact K (lo,hi,2,⇑(t3 l),↑a,↑b) ⟨XW,f1,f2,z⟩
   ·rw[oX c2,oW ∅];rw[oW (λw=>c2 w.2)]at z;show if decide (a<0)=true then _ else _
    by_cases c3:a<0
    ·rw[oY c3,oV rfl];rw[oV c3]at z;exact⟨_,_,rfl,f1.c (fa ⋯),K (_,hi,h,_,_,_) ⟨XW,f1.later (fa ⋯),f2,z⟩⟩
    ·rw[oX c3,oW ∅];rw[oW c3]at z;show if decide (b<0)=true then _ else _;rw[oX ⋯,oW ∅];rw[oW ⋯]at z;exact K (lo,hi,h,_,_,_) ⟨XW,f1,f2,z⟩
  ·rw[oX c1,oW ∅,oW ∅];rw[oW (λw=>c1 w.1),oW ⋯]at z;show if decide (a<0)=true then _ else _;rw[oX ⋯,oW ∅];show if decide (b<0)=true then _ else _
   by_cases c3:b<0
   ·rw[oY c3,oV rfl];rw[oV c3]at z;exact⟨_,_,rfl,f2.c (fb ⋯),K (lo,_,h,_,_,_) ⟨XW,f1,f2.earlier (fb ⋯),z⟩⟩
   ·rw[oX c3,oW ∅];rw[oW c3]at z;exact K (lo,hi,h,_,_,_) ⟨XW,f1,f2,z⟩
 ·rintro⟨lo,hi,h,v2,v10,v11⟩ ⟨_,f1,f2,z⟩;refine⟨lo,hi,rfl,f1.c f2,?_⟩;simp only[lX,xW]at z;show if decide (eJ lo hi<0)=true then _ else _
  by_cases c:eJ lo hi<0
  ·rw[oY c,oV rfl];rw[oV c]at z;exact⟨rfl,z⟩
  ·rw[oX c,oW ∅];rw[oW c]at z;exact⟨rfl,z⟩
abbrev kD:=Fr×Fr×Bool
def LQ:Bool->L2.T
 |false=>.non
 |true=>.bl true
def nR(r:kD):L2.T:=.tup [fr r.1,fr r.2.1,LQ r.2.2]
def uY(lo hi:Fr)(r:kD):List kD:=
 if r.2.2=true then[r]else if 0<=eJ (aX r.1 lo) (aI r.2.1 hi)then[r]else
  (if eJ r.1 (aX r.1 lo)<0 then[(r.1,aX r.1 lo,false)]else[])++[(aX r.1 lo,aI r.2.1 hi,true)]++(if eJ (aI r.2.1 hi) r.2.1<0 then[(aI r.2.1 hi,r.2.1,false)]else[])
def bK(rows:List kD)(lo hi:Fr):List kD:=rows.flatMap (uY lo hi)
def i6(rows:List kD):Prop:=∀r∈rows,F2 r.1/\F2 r.2.1
theorem E9{lo hi:Fr}{r:kD}(h:F2 r.1/\F2 r.2.1)(hl:F2 lo)(hh:F2 hi):i6 (uY lo hi r):=by
 have f1:=h.1.later hl;have f2:=h.2.earlier hh;unfold uY;intro x m;split at m
 ·have e:x=r:=by simpa using m
  subst e;exact h
 ·split at m
  ·have e:x=r:=by simpa using m
   subst e;exact h
  ·obtain m|m:=NB.mp m
   ·obtain m|m:=NB.mp m
    ·split at m
     ·have e:=MW.mp m;subst e;exact⟨h.1,f1⟩
     ·simp at m
    ·have e:=MW.mp m;subst e;exact⟨f1,f2⟩
   ·split at m
    ·have e:=MW.mp m;subst e;exact⟨f2,h.2⟩
    ·simp at m
theorem fY{rows:List kD}{lo hi:Fr}(h:i6 rows)(hl:F2 lo)(hh:F2 hi):i6 (bK rows lo hi):=λx m=>by
 obtain⟨r,mr,m⟩:=NV.mp m;exact E9 (h r mr) hl hh x m
theorem j7:∀(a b:List L2.T),dH (a++b)=(dH a&&dH b)
 |[],b=>rfl
 |x::a,b=>by rw[List.cons_append,dH,dH,j7 a b,Bool.and_assoc]
theorem W8(r:kD):noL (nR r)=true:=by
 obtain⟨a,b,c⟩:=r;cases c<;>rfl
def Mp:iO:=λas Q=>∃(rows:List kD)(lo hi:Fr),as=[.v (.lst (rows.map nR)),.v (fr lo),.v (fr hi),.v (.bl true)]/\rows.length<=300/\i6 rows/\F2 lo/\F2 hi/\Q (.l ((bK rows lo hi).map nR)) []
abbrev wV(P w K mg base):=(~~~Fn) 3 "parted" ["rows","low","high","name"] (aQ K Mp)
abbrev vK:UZ:=top 30
theorem iY:aK ["rows","low","high","name","found","begin","end","given","first","last"] ["rows","low","high","name"] (aC vK):=iG
theorem Oz(F:dY K "parted" "parted" vK f fd)(TX:Txt mg)(ZH: ~~~tT)(YJ: ~~~nK)(XI: ~~~iJ):(~~~bE) eT 3 f fd ["rows","low","high","name"] (aQ K Mp):=by
 refine F.okU iY (λhr=>(aB (fS 4 iY.nd (eU lV)) (aB (gJ PassesOwn.never rfl (dG rfl (fv 0)) (bS (n:=3) rfl rfl (aE (fG 5 iY.nd) (aE (fG 6 iY.nd) (aE (fG 7 iY.nd) bG)))) (aB (kI (i:=8) (j:=9) rfl iY.nd rfl rfl ∅ rfl rfl (f2 (fK ZH (f2 (fv 5) (fv 1))) (fK YJ (f2 (fv 6) (fv 2)))) rfl) (aB (eS (Gq (Ce (Yy (fv 7) (cH _)) (uJ (fP N5 (fK XI (f2 (fv 8) (fv 9))) aA)))) (aB (iD (gZ rfl (fv 4) (f1 (aH (f3 (fv 5) (fv 6) (fv 7)))))) (aG Kf)) c9) (aB (eS (fP gW (fK XI (f2 (fv 5) (fv 8))) aA) (aG (iD (gZ rfl (fv 4) (f1 (aH (f3 (fv 5) (fv 8) qY)))))) c9) (aB (iD (gZ rfl (fv 4) (f1 (aH (f3 (fv 8) (fv 9) (fv 3)))))) (aG (eS (fP gW (fK XI (f2 (fv 9) (fv 6))) aA) (aG (iD (gZ rfl (fv 4) (f1 (aH (f3 (fv 9) (fv 6) qY)))))) c9))))))) (aG (aN (fv 4)))))) ?_;rintro as Q ⟨rows,lo,hi,rfl,hl,hr,h1,h2,q⟩;refine eY (f:=nR) (λs':List L2.T×Option U×Option U×Option U×Option U×Option U=>[⇑(.lst (rows.map nR)),⇑(fr lo),⇑(fr hi),⇑(.bl true),↥s'.1,s'.2.1,s'.2.2.1,s'.2.2.2.1,s'.2.2.2.2.1,s'.2.2.2.2.2])
  (λrs s'=>i6 rs/\s'.1.length+3*rs.length<=8000/\dH s'.1=true/\Q (.l (s'.1++(bK rs lo hi).map nR)) []) ?_ ?_ rows ([],none,none,none,none,none) ⟨hr,by simp;lia,rfl,q⟩
 ·rintro r rs ⟨acc,v5,v6,v7,v8,v9⟩ rest ⟨hrs,hn,ZP,z⟩ K;have rm:=hrs r (by simp);have XW:i6 rs:=λx m=>hrs x (by simp[m]);have f1:=rm.1.later h1;have f2:=rm.2.earlier h2;simp only[MS]at hn;replace z:Q (.l (acc++(uY lo hi r++bK rs lo hi).map nR)) []:=z;rw[OE]at z;unfold uY at z;refine⟨_,_,rfl,rm.1.c h1,_,_,rfl,rm.2.c h2,?_⟩;generalize ea:aX r.1 lo=a at z f1⊢;generalize eb:aI r.2.1 hi=b at z f2⊢;obtain⟨rb,re,rg⟩:=r;simp only at z f1 f2 rm ea eb hn;have ux:∀(L:List L2.T)(x:kD),dH L=true->dH (L++[nR x])=true:=λL x h=>by rw[j7,h,dH,W8];rfl
  have l1:∀(x:L2.T),(acc++[x]).length<=9000:=λx=>by rw[MP,OM];lia
  cases rg with
  |true=>
   rw[oV rfl]at z;exact⟨l1 _,K (acc++[nR (rb,re,true)],⇑(fr rb),⇑(fr re),⇑(.bl true),⇑(fr a),⇑(fr b)) ⟨XW,by simp;lia,ux _ _ ZP,by rw[MO];exact z⟩⟩
  |false=>
   rw[oW ∅]at z;refine⟨_,_,rfl,f1.c f2,?_⟩;show if decide (0<=eJ a b)=true then _ else _
   by_cases c:0<=eJ a b
   ·rw[oY c,oV rfl];rw[oV c]at z;exact⟨l1 _,K (acc++[nR (rb,re,false)],⇑(fr rb),⇑(fr re),⇑(.non),⇑(fr a),⇑(fr b)) ⟨XW,by simp;lia,ux _ _ ZP,by rw[MO];exact z⟩⟩
   rw[oX c,oW ∅];rw[oW c]at z;refine⟨_,_,rfl,rm.1.c f1,?_⟩;show if decide (eJ rb a<0)=true then _ else _
   -- the tail,whatever was put in ahead
   have tail:∀(L:List L2.T),L.length<=acc.length+1->dH L=true->Q (.l (L++([(a,b,true)]++(if eJ b re<0 then[(b,re,false)]else[])).map nR++(bK rs lo hi).map nR)) []->(L++[nR (a,b,true)]).length<=9000/\sz b+sz re<=7900/\
     (if eJ b re<0 then((L++[nR (a,b,true)])++[nR (b,re,false)]).length<=9000/\dH ((L++[nR (a,b,true)])++[nR (b,re,false)])=true/\((L++[nR (a,b,true)])++[nR (b,re,false)]).length+3*rs.length<=8000/\Q (.l (((L++[nR (a,b,true)])++[nR (b,re,false)])++(bK rs lo hi).map nR)) []
      else dH (L++[nR (a,b,true)])=true/\(L++[nR (a,b,true)]).length+3*rs.length<=8000/\Q (.l ((L++[nR (a,b,true)])++(bK rs lo hi).map nR)) []):=λL hL hN w=>by
    refine⟨by rw[MP,OM];lia,f2.c rm.2,?_⟩
    by_cases c3:eJ b re<0
    ·rw[oV c3];rw[oV c3]at w;simp only[MP,OM];refine⟨⋯,ux _ _ (ux _ _ hN),⋯,?_⟩
     simpa using w
    ·rw[oW c3];rw[oW c3]at w;simp only[MP,OM];exact⟨ux _ _ hN,⋯,by simpa using w⟩
   by_cases c2:eJ rb a<0
   ·rw[oY c2,oV rfl];rw[oV c2]at z;obtain⟨t1,t2,bh⟩:=tail (acc++[nR (rb,a,false)]) (by simp) (ux _ _ ZP) (by simpa using z);refine⟨l1 _,t1,_,_,rfl,t2,?_⟩;show if decide (eJ b re<0)=true then _ else _
    by_cases c3:eJ b re<0
    ·rw[oY c3,oV rfl];rw[oV c3]at bh;exact⟨bh.1,K (_,⇑(fr rb),⇑(fr re),⇑(.non),⇑(fr a),⇑(fr b)) ⟨XW,bh.2.2.1,bh.2.1,bh.2.2.2⟩⟩
    ·rw[oX c3,oW ∅];rw[oW c3]at bh;exact K (_,⇑(fr rb),⇑(fr re),⇑(.non),⇑(fr a),⇑(fr b)) ⟨XW,bh.2.1,bh.1,bh.2.2⟩
   ·rw[oX c2,oW ∅];rw[oW c2]at z;obtain⟨t1,t2,bh⟩:=tail acc (by simp) ZP (by simpa using z);refine⟨t1,_,_,rfl,t2,?_⟩;show if decide (eJ b re<0)=true then _ else _
    by_cases c3:eJ b re<0
    ·rw[oY c3,oV rfl];rw[oV c3]at bh;exact⟨bh.1,K (_,⇑(fr rb),⇑(fr re),⇑(.non),⇑(fr a),⇑(fr b)) ⟨XW,bh.2.2.1,bh.2.1,bh.2.2.2⟩⟩
    ·rw[oX c3,oW ∅];rw[oW c3]at bh;exact K (_,⇑(fr rb),⇑(fr re),⇑(.non),⇑(fr a),⇑(fr b)) ⟨XW,bh.2.1,bh.1,bh.2.2⟩
 ·rintro⟨acc,v5,v6,v7,v8,v9⟩ ⟨_,_,ZP,z⟩;refine⟨ZP,?_⟩;have e:acc++(bK [] lo hi).map nR=acc:=by simp[bK]
  rw[e]at z;exact z
end
abbrev Q2:=Rat×Rat
abbrev Eg:=Q2×Q2
def aU(u v:Q2):Rat:=u.1*v.2-u.2*v.1
def aP(u v:Q2):Rat:=u.1*v.1+u.2*v.2
def aR(p q:Q2):Q2:=(p.1-q.1,p.2-q.2)
def aM(e:Eg):Q2:=aR e.2 e.1
def fE(e:Eg)(x:Q2):Rat:=aU (aM e) (aR x e.1)
def dE(p q:Q2)(t:Rat):Q2:=(p.1+(q.1-p.1)*t,p.2+(q.2-p.2)*t)
theorem lU(e:Eg)(p q:Q2)(t:Rat):fE e (dE p q t)=fE e p+(fE e q-fE e p)*t:=by
 unfold fE aU aM aR dE;grind
def Bg(es:List Eg)(x:Q2):Prop:=∀e∈es,0<=fE e x
structure LC(e:Eg)(x:Q2):Prop where
 z:fE e x=0
 a:0<=aP (aM e) (aR x e.1)
 b:0<=aP (aM e) (aR e.2 x)
structure Cx(es:List Eg):Prop where
 inn:∀e∈es,∀g∈es,0<=fE e g.1
 thick:∀e∈es,∃g∈es,0<fE e g.1
 ne:∀e∈es,0<aP (aM e) (aM e)
 nx:∀e∈es,∃g∈es,g.1=e.2/\(0<aU (aM e) (aM g)\/(aU (aM e) (aM g)=0/\0<aP (aM e) (aM g)/\∃h∈es,h.1=g.2/\0<aU (aM g) (aM h)))
 pv:∀e∈es,∃g∈es,g.2=e.1/\(0<aU (aM g) (aM e)\/(aU (aM g) (aM e)=0/\0<aP (aM g) (aM e)/\∃h∈es,h.2=g.1/\0<aU (aM h) (aM g)))
theorem rK{a b:Rat}(h:0<b):0<a*b↔0<a:=⟨bF h,λk=>Rat.mul_pos k h⟩
theorem Ts{a b:Rat}(h:0<b):0<=a*b↔0<=a:=⟨dM h,λk=>Rat.mul_nonneg k (Rat.le_of_lt h)⟩
theorem Zm{a b:Rat}(h:a<0)(k:0<b):a*b<0:=by
 have:=Rat.mul_pos (a:=-a) (b:=b) (by grind) k;grind
theorem par(hu:0<aP u u)(h:aU u d=0):d.1*aP u u=aP u d*u.1/\d.2*aP u u=aP u d*u.2:=by
 unfold aU at h;unfold aP;constructor
 ·have:u.2*(u.1*d.2-u.2*d.1)=0:=by rw[h];grind
  grind
 ·have:u.1*(u.1*d.2-u.2*d.1)=0:=by rw[h];grind
  grind
theorem jK(hu:0<aP u u)(h:aU u d=0):aU w d*aP u u=aP u d*aU w u:=by
 obtain⟨a,b⟩:=par hu h;unfold aU;grind
theorem Gf(hu:0<aP u u)(h:aU u d=0):aP w d*aP u u=aP u d*aP w u:=by
 obtain⟨a,b⟩:=par hu h;unfold aP at a b⊢;grind
theorem Qx(hu:0<aP u u)(h:aU u d=0)(k:0<aP u d)(t:0<aU u w):aU w d<0:=by
 have e:=jK (w:=w) hu h;have s:aU w u = - aU u w:=by unfold aU;grind
 rw[s]at e;have m:=Rat.mul_pos k t;have:0 < -(aU w d)*aP u u:=by grind
 have:=bF hu this;grind
theorem Qw(hu:0<aP u u)(h:aU u d=0)(k:aP u d<0)(t:0<aU w u):aU w d<0:=by
 have e:=jK (w:=w) hu h;have m:=Zm k t;have:0 < -(aU w d)*aP u u:=by grind
 have:=bF hu this;grind
theorem Vz(hu:0<aP (aM e) (aM e))(c:aU (aM e) (aM g)=0)(d:0<aP (aM e) (aM g))(z:fE e g.1=0):∃r:Rat,0<r/\∀y,fE g y=r*fE e y:=by
 obtain⟨a,b⟩:=par hu c;have n0:aP (aM e) (aM e)≠0:=by grind
 refine⟨aP (aM e) (aM g)/aP (aM e) (aM e),by rw[Rat.div_def];exact Rat.mul_pos d (Rat.inv_pos.mpr hu),λy=>?_⟩;have k1:fE e y-fE e g.1=aU (aM e) (aR y g.1):=by unfold fE aU aR;grind
 rw[z]at k1;have k2:fE g y*aP (aM e) (aM e)=aP (aM e) (aM g)*aU (aM e) (aR y g.1):=by unfold fE aU;grind
 rw[<-k1]at k2;grind
theorem Cx.on(h:Cx es)(he:e∈es)(h0:fE e x=0)(hx:Bg es x):∃g∈es,LC g x/\∃r:Rat,0<r/\∀y,fE g y=r*fE e y:=by
 have ne:=h.ne e he;have z2:aU (aM e) (aR x e.2)=0:=by rw[<-h0];unfold fE aU aM aR;grind
 by_cases hb:0<=aP (aM e) (aR e.2 x)
 ·by_cases ha:0<=aP (aM e) (aR x e.1)
  ·exact⟨e,he,⟨h0,ha,hb⟩,1,∅,λy=>by grind⟩
  ·obtain⟨g,hg,eg,c⟩:=h.pv e he;have ka:aP (aM e) (aR x e.1)<0:=by grind
   have fg:fE g x=aU (aM g) (aR x e.1):=by rw[<-eg];unfold fE aU aM aR;grind
   obtain c|⟨c,d,k,hk,ek,t⟩:=c
   ·have:=Qw ne (show aU (aM e) (aR x e.1)=0 from h0) ka c;have:=hx g hg;grind
   ·have c':aU (aM e) (aM g)=0:=by unfold aU at c⊢;grind
    have d':0<aP (aM e) (aM g):=by unfold aP at d⊢;grind
    have zg:fE e g.1=0:=by
     have:fE e g.1 = - aU (aM e) (aM g):=by unfold fE aU aM aR;rw[eg];grind
     rw[this,c'];rfl
    obtain⟨r,r0,hr⟩:=Vz ne c' d' zg;have ng:=h.ne g hg;have zx:fE g x=0:=by rw[hr,h0];grind
    have e1:=Gf (u:=aM e) (d:=aM g) (w:=aR e.1 x) ne c';have kb:0<aP (aM g) (aR g.2 x):=by
     have s1:aP (aM g) (aR g.2 x)=aP (aR e.1 x) (aM g):=by rw[eg];unfold aP;grind
     have s2:aP (aR e.1 x) (aM e) = -aP (aM e) (aR x e.1):=by unfold aP aR;grind
     rw[s2]at e1;have:=Rat.mul_pos d' (show 0 < -aP (aM e) (aR x e.1) by grind);rw[s1];exact bF ne (by grind)
    refine⟨g,hg,⟨zx,?_,Rat.le_of_lt kb⟩,r,r0,hr⟩
    by_cases hc:0<=aP (aM g) (aR x g.1)
    ·exact hc
    ·have kk:=Qw ng (show aU (aM g) (aR x g.1)=0 from zx) (by grind) t;have fk:fE k x=aU (aM k) (aR x g.1):=by rw[<-ek];unfold fE aU aM aR;grind
     have:=hx k hk;grind
 ·obtain⟨g,hg,eg,c⟩:=h.nx e he;have kb:0<aP (aM e) (aR x e.2):=by
   have:aP (aM e) (aR x e.2) = - aP (aM e) (aR e.2 x):=by unfold aP aR;grind
   grind
  have fg:fE g x=aU (aM g) (aR x e.2):=by rw[<-eg];rfl
  obtain c|⟨c,d,k,hk,ek,t⟩:=c
  ·have:=Qx ne z2 kb c;have:=hx g hg;grind
  ·have zg:fE e g.1=0:=by
    rw[eg];unfold fE aU aM aR;grind
   obtain⟨r,r0,hr⟩:=Vz ne c d zg;have ng:=h.ne g hg;have zx:fE g x=0:=by rw[hr,h0];grind
   have e1:=Gf (u:=aM e) (d:=aM g) (w:=aR x e.2) ne c;have ka:0<aP (aM g) (aR x g.1):=by
    have s1:aP (aM g) (aR x g.1)=aP (aR x e.2) (aM g):=by rw[eg];unfold aP;grind
    have s2:aP (aR x e.2) (aM e)=aP (aM e) (aR x e.2):=by unfold aP;grind
    rw[s2]at e1;have:=Rat.mul_pos d kb;rw[s1];exact bF ne (by grind)
   refine⟨g,hg,⟨zx,Rat.le_of_lt ka,?_⟩,r,r0,hr⟩
   by_cases hc:0<=aP (aM g) (aR g.2 x)
   ·exact hc
   ·have z3:aU (aM g) (aR x g.2)=0:=by rw[<-zx];unfold fE aU aM aR;grind
    have k3:0<aP (aM g) (aR x g.2):=by
     have:aP (aM g) (aR x g.2) = - aP (aM g) (aR g.2 x):=by unfold aP aR;grind
     grind
    have kk:=Qx ng z3 k3 t;have fk:fE k x=aU (aM k) (aR x g.2):=by rw[<-ek];rfl
    have:=hx k hk;grind
theorem zM{α:Type}(f:α->Rat):∀(xs:List α),xs≠[]->∃x∈xs,∀y∈xs,f y<=f x
 |[],h=>absurd rfl h
 |[x],_=>⟨x,by simp,λy m=>by rw[MW]at m;rw[m];grind⟩
 |x::z::r,_=>by
  obtain⟨m,hm,k⟩:=zM f (z::r) (by simp)
  by_cases c:f x<=f m
  ·exact⟨m,by simp[hm],λy hy=>by
    obtain rfl|hy:=MJ.mp hy
    ·exact c
    ·exact k y hy⟩
  ·exact⟨x,by simp,λy hy=>by
    obtain rfl|hy:=MJ.mp hy
    ·grind
    ·have:=k y hy;grind⟩
theorem Cx.far(h:Cx es)(n0:es≠[])(w:Q2):∃e∈es,∃g∈es,e.2=g.1/\0<aU (aM e) (aM g)/\∀k∈es,aP w k.1<=aP w g.1:=by
 obtain⟨g,hg,mx⟩:=zM (λe:Eg=>aP w e.1) es n0;obtain⟨e,he,eg,c⟩:=h.pv g hg;obtain c|⟨c,d,k,hk,ek,t⟩:=c
 ·exact⟨e,he,g,hg,eg,c,mx⟩
 ·refine⟨k,hk,e,he,ek,t,λy hy=>?_⟩;obtain⟨n,hn,en,_⟩:=h.nx g hg;have a2:aP w n.1<=aP w g.1:=mx n hn;rw[en]at a2;have c':aU (aM e) (aM g)=0:=c;have e1:=Gf (u:=aM e) (d:=aM g) (w:=w) (h.ne e he) c';have b1:aP w (aM e)=aP w g.1-aP w e.1:=by rw[<-eg];unfold aP aM aR;grind
  have b2:aP w (aM g)=aP w g.2-aP w g.1:=by unfold aP aM aR;grind
  have b3:aP w (aM e)<=0:=by
   refine Rat.not_lt.mp λq=>?_;have:=Rat.mul_pos d q;rw[<-e1]at this;have:=bF (h.ne e he) this;grind
  have:aP w y.1<=aP w g.1:=mx y hy;grind
theorem Cx.box(h:Cx es)(n0:es≠[])(w:Q2)(hx:Bg es x):∃g∈es,aP w x<=aP w g.1:=by
 obtain⟨e,he,g,hg,eg,t,mx⟩:=h.far n0 w;refine⟨g,hg,?_⟩;have f1:=hx e he;have f2:=hx g hg;obtain⟨n,hn,en,_⟩:=h.nx g hg;have a1:=mx e he;have a2:=mx n hn;rw[en]at a2;have k1:fE e x=aU (aM e) (aR x g.1):=by rw[<-eg];unfold fE aU aM aR;grind
 have k2:fE g x=aU (aM g) (aR x g.1):=rfl;rw[k1]at f1;rw[k2]at f2;have id1:(aP w x-aP w g.1)*aU (aM e) (aM g) = -((aP w g.1-aP w e.1)*aU (aM g) (aR x g.1))+(aP w g.2-aP w g.1)*aU (aM e) (aR x g.1):=by
  rw[show g.1=e.2 from eg.symm];unfold aP aU aM aR;grind
 have m1:=Rat.mul_nonneg (show 0<=aP w g.1-aP w e.1 by grind) f2;have m2:=Rat.mul_nonneg (show 0<=aP w g.1-aP w g.2 by grind) f1;refine Rat.not_lt.mp λq=>?_;have:=Rat.mul_pos (show 0<aP w x-aP w g.1 by grind) t;grind
theorem Cx.orient(h:Cx es)(he:e∈es)(hg:g∈es)(e1:fE e p=0)(e2:fE e q=0)(g1:fE g p=0)(g2:fE g q=0)(hp:0<aP (aR q p) (aR q p))(k:0<aP (aM e) (aR q p)):0<aP (aM g) (aR q p):=by
 have key:∀e:Eg,fE e p=0->fE e q=0->∀y,fE e y*aP (aR q p) (aR q p)=aP (aM e) (aR q p)*aU (aR q p) (aR y p):=λe z1 z2 y=>by
  have c:aU (aR q p) (aM e)=0:=by
   have:aU (aR q p) (aM e)=fE e p-fE e q:=by unfold fE aU aM aR;grind
   rw[this,z1,z2];grind
  obtain⟨a,b⟩:=par hp c;have s:fE e y=fE e y-fE e p:=by rw[z1];grind
  have s2:fE e y-fE e p=aU (aM e) (aR y p):=by unfold fE aU aR;grind
  rw[s,s2];have s3:aP (aR q p) (aM e)=aP (aM e) (aR q p):=by unfold aP;grind
  rw[s3]at a b;unfold aU at *;grind
 obtain⟨y,hy,fy⟩:=h.thick e he;obtain⟨y',hy',fy'⟩:=h.thick g hg;have a1:=key e e1 e2 y.1;have b1:=key g g1 g2 y.1;have b2:=key g g1 g2 y'.1;have i1:=h.inn g hg y hy;have m1:=Rat.mul_pos fy hp;rw[a1]at m1;have c0:0<aU (aR q p) (aR y.1 p):=by
  refine bF k ?_;grind
 have m2:=Rat.mul_nonneg i1 (Rat.le_of_lt hp);rw[b1]at m2;have d0:=dM c0 m2;have m3:=Rat.mul_pos fy' hp;rw[b2]at m3
 by_cases z:aP (aM g) (aR q p)=0
 ·rw[z]at m3;grind
 ·grind
theorem dR{p:Fr}(h:1<=p.2):(0:Rat)<(p.2:Rat):=by exact_mod_cast (show(0:Int)<p.2 by lia)
theorem vd(h:1<=p.2):val p*(p.2:Rat)=(p.1:Rat):=by have:=dR h;unfold val;grind
theorem ME{t:Rat}(h:1<=p.2):val p<=t↔(p.1:Rat)<=t*(p.2:Rat):=by
 have d:=dR h;have e:=vd h;have:0<=(t-val p)*(p.2:Rat)↔0<=t-val p:=Ts d;grind
theorem MC{t:Rat}(h:1<=p.2):t<=val p↔t*(p.2:Rat)<=(p.1:Rat):=by
 have d:=dR h;have e:=vd h;have:0<=(val p-t)*(p.2:Rat)↔0<=val p-t:=Ts d;grind
theorem gX(hx:1<=x.2)(hy:1<=y.2):eJ x y<0↔val x<val y:=by
 have d1:=dR hx;have d2:=dR hy;have e1:=vd hx;have e2:=vd hy;have k:val x<val y↔x.1*y.2<y.1*x.2:=by
  have m:=Rat.mul_pos d1 d2;have i1:(val y-val x)*((x.2:Rat)*(y.2:Rat))=(y.1:Rat)*x.2-(x.1:Rat)*y.2:=by grind
  have i2:=rK (a:=val y-val x) m;rw[i1]at i2;have i3:(x.1:Rat)*y.2<(y.1:Rat)*x.2↔x.1*y.2<y.1*x.2:=by norm_cast
  rw[<-i3];grind
 rw[k];unfold eJ
 split
 ·simp[*]
 ·split<;>simp[*]
theorem Ci(x y:Fr):aX x y=x\/aX x y=y:=by unfold aX;split<;>simp
theorem Gg(x y:Fr):aI x y=x\/aI x y=y:=by unfold aI;split<;>simp
theorem Kv(hx:1<=x.2)(hy:1<=y.2):1<=(aX x y).2:=by unfold aX;split<;>assumption
theorem xF(hx:1<=x.2)(hy:1<=y.2):1<=(aI x y).2:=by unfold aI;split<;>assumption
theorem uM{t:Rat}(hx:1<=x.2)(hy:1<=y.2):val (aX x y)<=t↔val x<=t/\val y<=t:=by
 have c:=gX hx hy;unfold aX
 split<;>grind
theorem uB{t:Rat}(hx:1<=x.2)(hy:1<=y.2):t<=val (aI x y)↔t<=val x/\t<=val y:=by
 have c:=gX hx hy;unfold aI
 split<;>grind
def Bd(a b:Int)(t:Rat):Rat:=(a:Rat)+((b:Rat)-(a:Rat))*t
theorem JM{a b:Int}{t1 t2:Rat}(h1:a<=0)(h2:b<=0)(h:a<0\/b<0)(k0:0<=t1)(k:t1<t2)(k1:t2<=1)(z1:0<=Bd a b t1)(z2:0<=Bd a b t2):False:=by
 have q1:(a:Rat)<=0:=by exact_mod_cast h1
 have q2:(b:Rat)<=0:=by exact_mod_cast h2
 unfold Bd at z1 z2;have e2:=Rat.mul_nonneg (show 0<=-(b:Rat) by grind) k0;have e3:=Rat.mul_nonneg (show 0<=-(a:Rat) by grind) (show 0<=1-t2 by grind);obtain h|h:=h
 ·have q:(a:Rat)<0:=by exact_mod_cast h
  have:=Rat.mul_pos (show 0 < -(a:Rat) by grind) (show 0<1-t1 by grind);grind
 ·have q:(b:Rat)<0:=by exact_mod_cast h
  have:=Rat.mul_pos (show 0 < -(b:Rat) by grind) (show 0<t2 by grind);grind
theorem JN{a b:Int}{t:Rat}(h:a<0)(k:0<b):0<=Bd a b t↔val (-a,b-a)<=t:=by
 rw[ME (show(1:Int)<=b-a by lia)];unfold Bd
 push_cast
 grind
theorem JO{a b:Int}{t:Rat}(h:0<a)(k:b<0):0<=Bd a b t↔t<=val (a,a-b):=by
 rw[MC (show(1:Int)<=a-b by lia)];unfold Bd
 push_cast
 grind
theorem JP{a b:Int}{t:Rat}(h:0<=a)(k:0<=b)(t0:0<=t)(t1:t<=1):0<=Bd a b t:=by
 have q1:(0:Rat)<=a:=by exact_mod_cast h
 have q2:(0:Rat)<=b:=by exact_mod_cast k
 have e1:=Rat.mul_nonneg q1 (show 0<=1-t by grind);have e2:=Rat.mul_nonneg q2 t0;unfold Bd;grind
theorem JL{a b:Int}{t:Rat}(h:a=0)(k:b=0):Bd a b t=0:=by subst h;subst k;unfold Bd;push_cast;grind
theorem EL{a b:Int}(h:a<0)(k:0<b):Bd a b (val (-a,b-a))=0:=by
 have:=vd (p:=(-a,b-a)) (show(1:Int)<=b-a by lia);simp only at this
 push_cast at this
 unfold Bd;grind
theorem EM{a b:Int}(h:0<a)(k:b<0):Bd a b (val (a,a-b))=0:=by
 have:=vd (p:=(a,a-b)) (show(1:Int)<=a-b by lia);simp only at this
 push_cast at this
 unfold Bd;grind
def lA(b e l:I3):Int:=dX l b*e.2.2
def lB(b e l:I3):Int:=dX l e*b.2.2
def lF(b e l:I3)(t:Rat):Rat:=Bd (lA b e l) (lB b e l) t
structure LF(b e own:I3)(ls:List I3)(lo hi:Fr)(h:Nat)(r:Fr×Fr×Nat):Prop where
 d1:1<=r.1.2
 d2:1<=r.2.1.2
 s:∀t,0<=t->t<=1->((val lo<=t/\t<=val hi/\∀l∈ls,0<=lF b e l t)↔(val r.1<=t/\t<=val r.2.1))
 lo:r.1=lo\/(val lo<val r.1/\∃l∈ls,lA b e l<0/\0<lB b e l/\lF b e l (val r.1)=0)
 hi:r.2.1=hi\/(val r.2.1<=val hi/\∃l∈ls,0<lA b e l/\lB b e l<0/\lF b e l (val r.2.1)=0)
 h:(r.2.2=h/\∀l∈ls,¬(lA b e l=0/\lB b e l=0))\/∃l∈ls,lA b e l=0/\lB b e l=0/\r.2.2=if l=own then 1 else 2
theorem mP:∀(ls:List I3)(lo hi:Fr)(h:Nat)(r:Fr×Fr×Nat),lX b e own ls lo hi h=oZ r->1<=lo.2->1<=hi.2->LF b e own ls lo hi h r
 |[],lo,hi,h,r,e1,d1,d2=>by cases e1;exact⟨d1,d2,λt _ _=>by simp,.inl rfl,.inl rfl,.inl ⟨rfl,by simp⟩⟩
 |l::ls,lo,hi,h,r,e1,d1,d2=>by
  unfold lX at e1;simp only[<-show lA b e l=dX l b*e.2.2 from rfl,<-show lB b e l=dX l e*b.2.2 from rfl]at e1;split at e1
  ·split at e1
   ·cases e1
   ·rename_i c1 c2;obtain⟨o1,o2,o3,o4,o5,o6⟩:=mP ls _ _ _ r e1 d1 d2;have za:lA b e l=0:=⋯
    have zb:lB b e l=0:=⋯
    refine⟨o1,o2,λt t0 t1=>?_,o4.imp id λzZ=>by obtain⟨q,m,hm,k⟩:=zZ;exact⟨q,m,by simp[hm],k⟩,o5.imp id λzZ=>by obtain⟨q,m,hm,k⟩:=zZ;exact⟨q,m,by simp[hm],k⟩,?_⟩
    ·rw[<-o3 t t0 t1];have:0<=lF b e l t:=by unfold lF;rw[JL za zb];grind
     simp[this]
    ·obtain⟨k1,k2⟩|⟨m,hm,k⟩:=o6
     ·exact .inr ⟨l,by simp,za,zb,k1⟩
     ·exact .inr ⟨m,by simp[hm],k⟩
  ·split at e1
   ·rename_i c1 c2;have hb:0<lB b e l:=⋯
    have dn:1<=(-lA b e l,lB b e l-lA b e l).2:=by show 1<=lB b e l-lA b e l;lia
    obtain⟨o1,o2,o3,o4,o5,o6⟩:=mP ls _ _ _ r e1 (Kv d1 dn) d2;have f3:=λt=>JN (t:=t) c2 hb;refine⟨o1,o2,λt t0 t1=>?_,?_,o5.imp id λzZ=>by obtain⟨q,m,hm,k⟩:=zZ;exact⟨q,m,by simp[hm],k⟩,?_⟩
    ·rw[<-o3 t t0 t1,uM d1 dn,<-f3 t];simp only[MJ,forall_eq_or_imp];unfold lF;grind
    ·obtain o4|⟨q,m,hm,k⟩:=o4
     ·rcases Ci lo (-lA b e l,lB b e l-lA b e l)with q|q
      ·rw[q]at o4;exact .inl o4
      ·by_cases c:val lo<val (-lA b e l,lB b e l-lA b e l)
       ·rw[o4,q];exact .inr ⟨c,l,by simp,c2,hb,EL c2 hb⟩
       ·have n:=mt (gX d1 dn).mp c;unfold aX at o4;rw[oW n]at o4;exact .inl o4
     ·have:=(uM d1 dn (t:=val r.1)).mp (Rat.le_of_lt q);have w:val lo<=val (aX lo (-lA b e l,lB b e l-lA b e l)):=((uM d1 dn).mp (Rat.le_refl)).1;exact .inr ⟨by grind,m,by simp[hm],k⟩
    ·obtain⟨k1,k2⟩|⟨m,hm,k⟩:=o6
     ·refine .inl ⟨k1,λm hm=>?_⟩;obtain rfl|hm:=MJ.mp hm
      ·lia
      ·exact k2 m hm
     ·exact .inr ⟨m,by simp[hm],k⟩
   ·split at e1
    ·rename_i c1 c2 c3;have ha:0<lA b e l:=⋯
     have dn:1<=(lA b e l,lA b e l-lB b e l).2:=by show 1<=lA b e l-lB b e l;lia
     obtain⟨o1,o2,o3,o4,o5,o6⟩:=mP ls _ _ _ r e1 d1 (xF d2 dn);have f4:=λt=>JO (t:=t) ha c3;refine⟨o1,o2,λt t0 t1=>?_,o4.imp id λzZ=>by obtain⟨q,m,hm,k⟩:=zZ;exact⟨q,m,by simp[hm],k⟩,?_,?_⟩
     ·rw[<-o3 t t0 t1,uB d2 dn,<-f4 t];simp only[MJ,forall_eq_or_imp];unfold lF;grind
     ·obtain o5|⟨q,m,hm,k⟩:=o5
      ·by_cases n:eJ hi (lA b e l,lA b e l-lB b e l)<0
       ·unfold aI at o5;rw[oV n]at o5;exact .inl o5
       ·unfold aI at o5;rw[oW n]at o5;have n':=mt (gX d2 dn).mpr n;rw[o5];exact .inr ⟨by grind,l,by simp,ha,c3,EM ha c3⟩
      ·have w:val (aI hi (lA b e l,lA b e l-lB b e l))<=val hi:=((uB d2 dn).mp (Rat.le_refl)).1;exact .inr ⟨by grind,m,by simp[hm],k⟩
     ·obtain⟨k1,k2⟩|⟨m,hm,k⟩:=o6
      ·refine .inl ⟨k1,λm hm=>?_⟩;obtain rfl|hm:=MJ.mp hm
       ·lia
       ·exact k2 m hm
      ·exact .inr ⟨m,by simp[hm],k⟩
    ·rename_i c1 c2 c3;obtain⟨o1,o2,o3,o4,o5,o6⟩:=mP ls _ _ _ r e1 d1 d2;refine⟨o1,o2,λt t0 t1=>?_,o4.imp id λzZ=>by obtain⟨q,m,hm,k⟩:=zZ;exact⟨q,m,by simp[hm],k⟩,o5.imp id λzZ=>by obtain⟨q,m,hm,k⟩:=zZ;exact⟨q,m,by simp[hm],k⟩,?_⟩
     ·rw[<-o3 t t0 t1];have:0<=lF b e l t:=JP ⋯ ⋯ t0 t1;simp[this]
     ·obtain⟨k1,k2⟩|⟨m,hm,k⟩:=o6
      ·refine .inl ⟨k1,λm hm=>?_⟩;obtain rfl|hm:=MJ.mp hm
       ·lia
       ·exact k2 m hm
      ·exact .inr ⟨m,by simp[hm],k⟩
theorem pX:∀(ls:List I3)(lo hi:Fr)(h:Nat),lX b e own ls lo hi h=none->∀t1 t2:Rat,0<=t1->t1<t2->t2<=1->(∀l∈ls,0<=lF b e l t1)->(∀l∈ls,0<=lF b e l t2)->False
 |[],lo,hi,h,e1=>by cases e1
 |l::ls,lo,hi,h,e1=>by
  intro t1 t2 k0 k k1 z1 z2;have r1:=λm hm=>z1 m (NF l hm);have r2:=λm hm=>z2 m (NF l hm);have y1:=z1 l (by simp);have y2:=z2 l (by simp);unfold lX at e1;simp only[<-show lA b e l=dX l b*e.2.2 from rfl,<-show lB b e l=dX l e*b.2.2 from rfl]at e1;split at e1
  ·rename_i c1;split at e1
   ·rename_i c2;exact JM c1.1 c1.2 c2 k0 k k1 y1 y2
   ·exact pX ls _ _ _ e1 t1 t2 k0 k k1 r1 r2
  ·split at e1
   ·exact pX ls _ _ _ e1 t1 t2 k0 k k1 r1 r2
   ·split at e1
    ·exact pX ls _ _ _ e1 t1 t2 k0 k k1 r1 r2
    ·exact pX ls _ _ _ e1 t1 t2 k0 k k1 r1 r2
def eD(rows:List kD):List (Fr×Fr):=(rows.filter λr=>!r.2.2).map λr=>(r.1,r.2.1)
def Ch:Rat->Bool->List kD->Prop
 |_,_,[]=>True
 |x,pn,r::rs=>x=val r.1/\val r.1<val r.2.1/\¬(pn=true/\r.2.2=false)/\Ch (val r.2.1) (!r.2.2) rs
theorem Ch.weak{x:Rat}(h:Ch x true rs):Ch x b rs:=by
 cases rs with
 |nil=>trivial
 |cons r rs=>
  obtain⟨h1,h2,h3,h4⟩:=h;exact⟨h1,h2,λz=>h3 ⟨rfl,z.2⟩,h4⟩
def Bc(p:Prop)[Decidable p]:Nat:=if p then 1 else 0
theorem Tf{p q:Prop}[Decidable p][Decidable q](h:p->q):Bc p<=Bc q:=by
 unfold Bc
 by_cases c:p
 ·rw[oV c,oV (h c)];lia
 ·rw[oW c];lia
theorem M6{p:Prop}[Decidable p](h:p):Bc p=1:=oV h
theorem M5{p:Prop}[Decidable p](h:¬p):Bc p=0:=oW h
def wH(rs:List kD):Nat:=(rs.filter λr=>!r.2.2).length
theorem j6(r:kD)(rs:List kD):wH (r::rs)=(if r.2.2=true then 0 else 1)+wH rs:=by
 unfold wH;cases h:r.2.2 with
 |true=>rw[NU (by rw[h];decide)];simp
 |false=>rw[NT (by rw[h];decide),MS];simp;lia
theorem tJ(a b:List kD):wH (a++b)=wH a+wH b:=by unfold wH;rw[RN,MP]
theorem Kw(hx:1<=x.2)(hy:1<=y.2):(val x<val y/\aX x y=y)\/(val y<=val x/\aX x y=x):=by
 have c:=gX hx hy;unfold aX
 by_cases d:eJ x y<0
 ·exact .inl ⟨c.mp d,oV d⟩
 ·exact .inr ⟨Rat.not_lt.mp (mt c.mpr d),oW d⟩
theorem xG(hx:1<=x.2)(hy:1<=y.2):(val x<val y/\aI x y=x)\/(val y<=val x/\aI x y=y):=by
 have c:=gX hx hy;unfold aI
 by_cases d:eJ x y<0
 ·exact .inl ⟨c.mp d,oV d⟩
 ·exact .inr ⟨Rat.not_lt.mp (mt c.mpr d),oW d⟩
theorem Rc(hx:1<=x.2)(hy:1<=y.2):0<=eJ x y↔val y<=val x:=by
 have c:=gX hx hy;constructor
 ·intro h;exact Rat.not_lt.mp (mt c.mpr ⋯)
 ·intro h;have:=mt c.mp (Rat.not_lt.mpr h);lia
theorem Dm{lo hi:Fr}{r:kD}(h1:1<=r.1.2)(h2:1<=r.2.1.2)(hl:1<=lo.2)(hh:1<=hi.2):
  ((r.2.2=true\/val (aI r.2.1 hi)<=val (aX r.1 lo))/\uY lo hi r=[r])\/
  (r.2.2=false/\val (aX r.1 lo)<val (aI r.2.1 hi)/\uY lo hi r=(if val r.1<val (aX r.1 lo)then[(r.1,aX r.1 lo,false)]else[])++[(aX r.1 lo,aI r.2.1 hi,true)]++(if val (aI r.2.1 hi)<val r.2.1 then[(aI r.2.1 hi,r.2.1,false)]else[])):=by
 have d1:=Kv h1 hl;have d2:=xF h2 hh;unfold uY
 by_cases c:r.2.2=true
 ·exact .inl ⟨.inl c,oV c⟩
 ·rw[oW c]
  by_cases d:0<=eJ (aX r.1 lo) (aI r.2.1 hi)
  ·exact .inl ⟨.inr ((Rc d1 d2).mp d),oV d⟩
  ·rw[oW d];refine .inr ⟨by simpa using c,Rat.not_le.mp (mt (Rc d1 d2).mpr d),?_⟩
   congr 1
   ·congr 1
    by_cases e:eJ r.1 (aX r.1 lo)<0
    ·rw[oV e,oV ((gX h1 d1).mp e)]
    ·rw[oW e,oW (mt (gX h1 d1).mpr e)]
   ·by_cases e:eJ (aI r.2.1 hi) r.2.1<0
    ·rw[oV e,oV ((gX d2 h2).mp e)]
    ·rw[oW e,oW (mt (gX d2 h2).mpr e)]
theorem pJ{lo hi:Fr}(hl:1<=lo.2)(hh:1<=hi.2):∀{rows:List kD}{x:Rat}{pn:Bool},i6 rows->Ch x pn rows->Ch x pn (bK rows lo hi)/\(bK rows lo hi).length<=rows.length+Bc (x<val lo)+Bc (x<val hi)/\wH (bK rows lo hi)<=wH rows+Bc (x<val lo)
 |[],x,pn,_,_=>by simp[bK,Ch,wH]
 |r::rows,x,pn,ok,ch=>by
  obtain⟨o1,o2⟩:=ok r (by simp);have rest:=λ{x pn}=>pJ hl hh (rows:=rows) (x:=x) (pn:=pn) λy m=>ok y (by simp[m]);obtain⟨c1,c2,c3,c4⟩:=ch;obtain⟨i1,i2,i3⟩:=rest c4;have e:bK (r::rows) lo hi=uY lo hi r++bK rows lo hi:=by unfold bK;rw[OS]
  rw[e];have aDQ:Bc (val r.2.1<val lo)<=Bc (x<val lo):=Tf λz=>by grind
  have aDR:Bc (val r.2.1<val hi)<=Bc (x<val hi):=Tf λz=>by grind
  obtain⟨_,q⟩|⟨q0,q1,q⟩:=Dm o1.d o2.d hl hh
  ·rw[q];refine⟨⟨c1,c2,c3,i1⟩,?_,?_⟩
   ·simp only[List.singleton_append,MS];lia
   ·rw[List.singleton_append,j6,j6];lia
  ·have l1:=Kw o1.d hl;have l2:=xG o2.d hh;rw[q];rw[q0]at i1 c3;have b1:val r.1<=val (aX r.1 lo):=by rcases l1 with⟨_,z⟩|⟨_,z⟩<;>rw[z]<;>grind
   have b2:val (aI r.2.1 hi)<=val r.2.1:=by rcases l2 with⟨_,z⟩|⟨_,z⟩<;>rw[z]<;>grind
   have pn0:pn=false:=by
    cases pn with
    |false=>rfl
    |true=>exact absurd ⟨rfl,rfl⟩ c3
   have hA:val r.1<val (aX r.1 lo)->Bc (x<val lo)=1/\Bc (val r.2.1<val lo)=0:=λz=>by
    obtain⟨w,w'⟩|⟨w,w'⟩:=l1
    ·rw[w']at q1;exact⟨M6 (by grind),M5 (by grind)⟩
    ·rw[w']at z;grind
   have hB:val (aI r.2.1 hi)<val r.2.1->Bc (x<val hi)=1/\Bc (val r.2.1<val hi)=0:=λz=>by
    obtain⟨w,w'⟩|⟨w,w'⟩:=l2
    ·rw[w']at z;grind
    ·rw[w']at q1;exact⟨M6 (by grind),M5 (by grind)⟩
   by_cases cA:val r.1<val (aX r.1 lo)
   ·rw[oV cA];obtain⟨a1,a2⟩:=hA cA
    by_cases cB:val (aI r.2.1 hi)<val r.2.1
    ·rw[oV cB];obtain⟨qo,zd⟩:=hB cB;refine⟨⟨c1,cA,c3,rfl,q1,λz=>(show(true:Bool)≠false by decide) z.2,rfl,cB,λz=>(show(false:Bool)≠true by decide) z.1,i1⟩,?_,?_⟩
     ·simp only[MP,MS,OZ];lia
     ·rw[tJ,j6,q0];have:wH ([(r.1,aX r.1 lo,false)]++[(aX r.1 lo,aI r.2.1 hi,true)]++[(aI r.2.1 hi,r.2.1,false)])=2:=rfl;rw[this];simp only[OD,if_false];lia
    ·rw[oW cB];have eB:val (aI r.2.1 hi)=val r.2.1:=by grind
     refine⟨⟨c1,cA,c3,rfl,q1,λz=>(show(true:Bool)≠false by decide) z.2,by rw[eB];exact i1.weak⟩,?_,?_⟩
     ·simp only[MP,MS,OZ];lia
     ·rw[tJ,j6,q0];have:wH ([(r.1,aX r.1 lo,false)]++[(aX r.1 lo,aI r.2.1 hi,true)]++[])=1:=rfl;rw[this];simp only[OD,if_false];lia
   ·rw[oW cA];have eA:val r.1=val (aX r.1 lo):=by grind
    by_cases cB:val (aI r.2.1 hi)<val r.2.1
    ·rw[oV cB];obtain⟨qo,zd⟩:=hB cB;refine⟨⟨by rw[c1];exact eA,q1,λz=>(show(true:Bool)≠false by decide) z.2,rfl,cB,λz=>(show(false:Bool)≠true by decide) z.1,i1⟩,?_,?_⟩
     ·simp only[MP,MS,OZ];lia
     ·rw[tJ,j6,q0];have:wH ([]++[(aX r.1 lo,aI r.2.1 hi,true)]++[(aI r.2.1 hi,r.2.1,false)])=1:=rfl;rw[this];simp only[OD,if_false];lia
    ·rw[oW cB];have eB:val (aI r.2.1 hi)=val r.2.1:=by grind
     refine⟨⟨by rw[c1];exact eA,q1,λz=>(show(true:Bool)≠false by decide) z.2,by rw[eB];exact i1.weak⟩,?_,?_⟩
     ·simp only[MP,MS,OZ];lia
     ·rw[tJ,j6,q0];have:wH ([]++[(aX r.1 lo,aI r.2.1 hi,true)]++[])=0:=rfl;rw[this];simp only[OD,if_false];lia
theorem xQ(p:Prop)[Decidable p]:Bc p<=1:=by unfold Bc;split<;>lia
def Nn(rows:List kD)(t:Rat):Prop:=∃r∈rows,r.2.2=false/\val r.1<t/\t<val r.2.1
theorem Ld{lo hi:Fr}(hl:1<=lo.2)(hh:1<=hi.2)(ok:i6 rows){t:Rat}(t1:t≠val lo)(t2:t≠val hi):Nn (bK rows lo hi) t↔Nn rows t/\¬(val lo<t/\t<val hi):=by
 have one:∀r∈rows,(∃z∈uY lo hi r,z.2.2=false/\val z.1<t/\t<val z.2.1)↔(r.2.2=false/\val r.1<t/\t<val r.2.1)/\¬(val lo<t/\t<val hi):=λr m=>by
  obtain⟨o1,o2⟩:=ok r m;have l1:=Kw o1.d hl;have l2:=xG o2.d hh;obtain⟨q0,q⟩|⟨q0,q1,q⟩:=Dm o1.d o2.d hl hh
  ·rw[q];constructor
   ·rintro⟨z,mz,k⟩;rw[MW]at mz;subst mz;refine⟨k,λw=>?_⟩;obtain q0|q0:=q0
    ·rw[q0]at k;exact absurd k.1 ∅
    ·rcases l1 with⟨_,e1⟩|⟨_,e1⟩<;>rcases l2 with⟨_,e2⟩|⟨_,e2⟩<;>rw[e1,e2]at q0<;>grind
   ·rintro⟨k,_⟩;exact⟨r,by simp,k⟩
  ·rw[q];have b1:val r.1<=val (aX r.1 lo)/\val lo<=val (aX r.1 lo)/\(val (aX r.1 lo)=val r.1\/val (aX r.1 lo)=val lo):=by rcases l1 with⟨_,z⟩|⟨_,z⟩<;>rw[z]<;>grind
   have b2:val (aI r.2.1 hi)<=val r.2.1/\val (aI r.2.1 hi)<=val hi/\(val (aI r.2.1 hi)=val r.2.1\/val (aI r.2.1 hi)=val hi):=by rcases l2 with⟨_,z⟩|⟨_,z⟩<;>rw[z]<;>grind
   constructor
   ·rintro⟨z,mz,k⟩;refine⟨⟨q0,?_⟩,?_⟩
    ·obtain mz|mz:=NB.mp mz
     ·obtain mz|mz:=NB.mp mz
      ·split at mz
       ·rw[MW]at mz;subst mz;simp only at k;grind
       ·simp at mz
      ·rw[MW]at mz;subst mz;exact absurd k.1 (show(true:Bool)≠false by decide)
     ·split at mz
      ·rw[MW]at mz;subst mz;simp only at k;grind
      ·simp at mz
    ·obtain mz|mz:=NB.mp mz
     ·obtain mz|mz:=NB.mp mz
      ·split at mz
       ·rw[MW]at mz;subst mz;simp only at k;grind
       ·simp at mz
      ·rw[MW]at mz;subst mz;exact absurd k.1 (show(true:Bool)≠false by decide)
     ·split at mz
      ·rw[MW]at mz;subst mz;simp only at k;grind
      ·simp at mz
   ·rintro⟨⟨_,k1,k2⟩,k3⟩
    by_cases c:t<val lo
    ·refine⟨(r.1,aX r.1 lo,false),?_,rfl,k1,by simp only;grind⟩;rw[oV (show val r.1<val (aX r.1 lo) by grind)];simp
    ·have w1:val lo<t:=by grind
     have w2:val hi<t:=by
      have:=mt (λz=>(⟨w1,z⟩:val lo<t/\t<val hi)) k3;grind
     have w3:val (aI r.2.1 hi)<t:=by grind
     refine⟨(aI r.2.1 hi,r.2.1,false),?_,rfl,w3,k2⟩;rw[oV (show val (aI r.2.1 hi)<val r.2.1 by grind)];simp
 unfold Nn bK;constructor
 ·rintro⟨z,mz,k⟩;obtain⟨r,mr,mz⟩:=NV.mp mz;obtain⟨a,b⟩:=(one r mr).mp ⟨z,mz,k⟩;exact⟨⟨r,mr,a⟩,b⟩
 ·rintro⟨⟨r,mr,k⟩,w⟩;obtain⟨z,mz,k'⟩:=(one r mr).mpr ⟨k,w⟩;exact⟨z,NV.mpr ⟨r,mr,mz⟩,k'⟩
def Xs:Rat->Bool->List (Fr×Fr)->Prop
 |_,_,[]=>True
 |x,st,a::as=>(x<=val a.1/\(st=true->x<val a.1))/\val a.1<val a.2/\Xs (val a.2) true as
theorem Xs.le{x y:Rat}{b b':Bool}{A:List (Fr×Fr)}(h:Xs y b A)(k:x<y):Xs x b' A:=by
 cases A with
 |nil=>trivial
 |cons a as=>exact⟨⟨by have:=h.1.1;grind,λ_=>by have:=h.1.1;grind⟩,h.2.1,h.2.2⟩
theorem Wh:∀{rows:List kD}{x:Rat}{pn:Bool},Ch x pn rows->Xs x pn (eD rows)
 |[],_,_,_=>trivial
 |r::rows,x,pn,⟨c1,c2,c3,c4⟩=>by
  have ih:=Wh c4;unfold eD at ih⊢;cases h:r.2.2 with
  |true=>
   rw[NU (by rw[h];decide)];exact ih.le (by grind)
  |false=>
   rw[NT (by rw[h];decide),MR];rw[h]at ih c3;refine⟨⟨by show x<=val r.1;grind,λz=>absurd ⟨z,rfl⟩ c3⟩,c2,ih⟩
theorem Xs.all{x:Rat}:∀{A:List (Fr×Fr)},Xs x b A->∀a∈A,x<=val a.1/\(b=true->x<val a.1)/\val a.1<val a.2:=by
 intro A
 induction A generalizing x b with
 |nil=>intro _ a m;simp at m
 |cons c A ih=>
  rintro⟨h1,h2,h3⟩ a m;obtain rfl|m:=MJ.mp m
  ·exact⟨h1.1,h1.2,h2⟩
  ·have:=ih h3 a m;have:=h1.1;exact⟨by grind,λ_=>by grind,by grind⟩
theorem Ro:∀(F:List Rat){l h:Rat},l<h->∃t,l<t/\t<h/\t∉F
 |[],l,h,k=>⟨(l+h)*(1/2),by grind,by grind,by simp⟩
 |f::F,l,h,k=>by
  by_cases c:l<f/\f<h
  ·obtain⟨t,a,b,n⟩:=Ro F c.1;exact⟨t,a,by grind,λm=>by
    obtain e|m:=MJ.mp m
    ·grind
    ·exact n m⟩
  ·obtain⟨t,a,b,n⟩:=Ro F k;exact⟨t,a,b,λm=>by
    obtain e|m:=MJ.mp m
    ·rw[e]at a b;exact c ⟨a,b⟩
    ·exact n m⟩
def inA(A:List (Fr×Fr))(t:Rat):Prop:=∃a∈A,val a.1<t/\t<val a.2
section
variable{P:UU}{w:UY}{K:W.Frag}{mg:Str->Option oA}{base:oE}
def kN(p q:Pt)(f:Fr):Pt:=(eM p.1 (eV (dO q.1 p.1) f),eM p.2 (eV (dO q.2 p.2) f))
theorem uR(h:Nv x y e)(k:Nv p q f):Nv (dO x p) (dO y q) (e+f+1):=by
 have:=h.sx;have:=h.sy;have:=k.sx;have:=k.sy;have s1:=Av h.x k.x;have s2:=Av h.y k.y;exact⟨cS h.x k.x,cS h.y k.y,⋯,⋯⟩
theorem W9(h:Nv x y e)(hb:dJ b):Nv (eV x b) (eV y b) (e+sz b):=by
 have:=h.sx;have:=h.sy;have s1:=k6 h.x hb;have s2:=k6 h.y hb;exact⟨bX h.x hb,bX h.y hb,⋯,⋯⟩
def Ef:iO:=λas Q=>∃(p q:Pt)(f:Fr),as=[.v (pt p),.v (pt q),.v (fr f)]/\Pb p/\Pb q/\dJ f/\sz f<=300/\Q (.v (pt (kN p q f))) []
abbrev sC(P w K mg base):=(~~~Fn) 5 "point_at" ["begin","end","part"] (aQ K Ef)
abbrev nX:UZ:=top 31
theorem Dv:aK ["begin","end","part"] ["begin","end","part"] (aC nX):=iG
theorem Dd(F:dY K "point_at" "point_at" nX f fd)(TX:Txt mg)(cn: ~~~Jd)(ag: ~~~wW)(bo: ~~~Bi):(~~~bE) eT 5 f fd ["begin","end","part"] (aQ K Ef):=by
 refine F.okU Dv (λhr=>(aG (aN (fK cn (f2 (fv 0) (fK ag (f2 (fK bo (f2 (fv 1) (fv 0))) (fv 2)))))))) ?_;rintro as Q ⟨p,q,f,rfl,hp,hq,hf,hs,z⟩;have n1:=uR hq.v hp.v;exact⟨_,_,_,_,_,_,rfl,hq.v,hp.v,∅,_,_,_,_,rfl,n1,hf,⋯,_,_,_,_,_,_,rfl,hp.v,W9 n1 hf,⋯,rfl,z⟩
def O9:iO:=λas Q=>∃(b:jH)(k:Nat)(p q:Pt),as=[.v (gR b),.v (.int (k:Int))]/\b.o.length<=8000/\b.o[k]?=oZ p/\b.o[(k+1)%b.o.length]?=oZ q/\Q (.v (.tup [pt p,pt q])) []
theorem kE{α:Type}{f:α->L2.T}{xs:List α}{k:Nat}{x:α}(h:xs[k]?=oZ x):jY (xs.map f) (k:Int)=oZ (f x):=yO (by rw[MT,h];rfl)
abbrev oS(P w K mg base):=(~~~Fn) 1 "edge_ends" ["block","edge"] (aQ K O9)
abbrev l9:UZ:=top 34
theorem qD:aK ["block","edge","outline"] ["block","edge"] (aC l9):=iG
theorem zS(F:dY K "edge_ends" "edge_ends" l9 f fd)(TX:Txt mg):(~~~bE) eT 1 f fd ["block","edge"] (aQ K O9):=by
 refine F.okU qD (λhr=>(aB (fS 2 qD.nd (fQ 0)) (aG (aN (aH (f2 (fX (fv 2) (fv 1)) (fX (fv 2) (aL kM (aY b8 (fv 1) aA) (jS rfl rfl TX.n_len (f1 (fv 2))))))))))) ?_;rintro as Q ⟨b,k,p,q,rfl,hl,h1,h2,z⟩;have hk:k<b.o.length:=(MK.mp h1).1;show o1 (jY (b.o.map pt) (k:Int)) _;rw[kE h1];have e:(((k:Int)+1)%((b.o.map pt).length:Int))=(((k+1)%b.o.length:Nat):Int):=by rw[ML];push_cast;rfl
 refine⟨(show(0:Int)<((b.o.map pt).length:Int) by rw[ML];lia),?_⟩;show o1 (jY (b.o.map pt) (((k:Int)+1)%((b.o.map pt).length:Int))) _;rw[e,kE h2];exact⟨rfl,z⟩
def cJ(p q x:Pt):Fr:=if p.1=q.1 then uH (dO x.2 p.2) (dO q.2 p.2)else uH (dO x.1 p.1) (dO q.1 p.1)
theorem rV(hx:dJ x)(hy:dJ y)(h:y≠x):(dO x y).1≠0:=λz=>by
 have v:=dU hx hy;have e:val (dO x y)=0:=by
  show((dO x y).1:Rat)/((dO x y).2:Rat)=0;rw[z,Rat.div_def];simp
 rw[e]at v;exact h (eR hy hx (by grind))
theorem jM(hp:Pb p)(hq:Pb q)(hx:Pb x)(ne:p≠q):dJ (cJ p q x)/\sz (cJ p q x)<=82/\F2 (cJ p q x):=by
 have n1:=uR hx.v hp.v;have n2:=uR hq.v hp.v;have a1:=n1.sx;have a2:=n1.sy;have a3:=n2.sx;have a4:=n2.sy;have key:dJ (cJ p q x)/\sz (cJ p q x)<=82:=by
  unfold cJ
  by_cases c:p.1=q.1
  ·rw[oV c];have d:p.2≠q.2:=λw=>ne (Prod.ext c w);have z:=rV hq.v.y hp.v.y d;have s:=Mg n1.y z;exact⟨Cr n1.y z,⋯⟩
  ·rw[oW c];have z:=rV hq.v.x hp.v.x c;have s:=Mg n1.x z;exact⟨Cr n1.x z,⋯⟩
 exact⟨key.1,key.2,⟨⋯,key.1.d⟩⟩
def Mo:iO:=λas Q=>∃(p q x:Pt),as=[.v (.tup [pt p,pt q]),.v (pt x)]/\Pb p/\Pb q/\Pb x/\p≠q/\Q (.v (fr (cJ p q x))) []
abbrev tX(P w K mg base):=(~~~Fn) 4 "part_at" ["ends","point"] (aQ K Mo)
abbrev rP:UZ:=top 35
theorem kU:aK ["ends","point","way","begin","end"] ["ends","point"] (aC rP):=iG
theorem Hj(F:dY K "part_at" "part_at" rP f fd)(TX:Txt mg)(cq: ~~~Jc)(YA: ~~~pA):(~~~bE) eT 4 f fd ["ends","point"] (aQ K Mo):=by
 refine F.okU kU (λhr=>(aB (iV (fv 0) (bS (n:=2) rfl rfl (aE (fG 3 kU.nd) (aE (fG 4 kU.nd) bG)))) (aB (fS 2 kU.nd (pO (sH rfl hr (fQ 3) (fQ 4) (cH _)) aA aA)) (aG (aN (fK cq (f2 (fK YA (f2 (fX (fv 1) (fv 2)) (fX (fv 3) (fv 2)))) (fK YA (f2 (fX (fv 4) (fv 2)) (fX (fv 3) (fv 2))))))))))) ?_;rintro as Q ⟨p,q,x,rfl,hp,hq,hx,ne,z⟩;have n1:=uR hx.v hp.v;have n2:=uR hq.v hp.v;have a1:=n1.sx;have a2:=n1.sy;have a3:=n2.sx;have a4:=n2.sy;have b1:=hp.v.sx;have b2:=hp.v.sy;have b3:=hq.v.sx;have b4:=hq.v.sy;have b5:=hx.v.sx;have b6:=hx.v.sy;refine⟨jL rfl,?_⟩;show if(!(iP (fr p.1) (fr q.1)))=true then _ else _;rw[pL];unfold cJ at z
 by_cases c:p.1=q.1
 ·rw[oY c,oW ∅];rw[oV c]at z;have d:p.2≠q.2:=λw=>ne (Prod.ext c w);have y0:=rV hq.v.y hp.v.y d;exact⟨_,_,rfl,hx.v.y,hp.v.y,⋯,_,_,rfl,hq.v.y,hp.v.y,⋯,_,_,rfl,n1.y,n2.y,y0,⋯,rfl,z⟩
 ·rw[oX c,oV ∅];rw[oW c]at z;have x0:=rV hq.v.x hp.v.x c;exact⟨_,_,rfl,hx.v.x,hp.v.x,⋯,_,_,rfl,hq.v.x,hp.v.x,⋯,_,_,rfl,n1.x,n2.x,x0,⋯,rfl,z⟩
abbrev Ov:=Option (Fr×Fr×Nat)
def dN:List Ov->List kD->Option (List kD)
 |[],rows=>oZ rows
 |none::os,rows=>dN os rows
 |some r::os,rows=>if r.2.2=1 then dN os rows else if r.1=(0,1)/\r.2.1=(1,1)then none else dN os (bK rows r.1 r.2.1)
def mK:List (Fr×Fr)->List kD->List kD
 |[],rows=>rows
 |t::ts,rows=>mK ts (bK rows t.1 t.2)
def pE(os:List Ov)(ts:List (Fr×Fr))(rows:List kD):List (Fr×Fr):=match dN os rows with
 |none=>[]
 |some rs=>eD (mK ts rs)
def lI:List kD:=[((0,1),(1,1),false)]
abbrev Pr:=Pt×Pt
def tM(x:Pr):L2.T:=.tup [pt x.1,pt x.2]
def tO(p q:Pt)(tw:List Pr):List (Fr×Fr):=tw.map λx=>(cJ p q x.1,cJ p q x.2)
def dZ(shs:List Sh)(p q:Pt)(tw:List Pr):List (Fr×Fr):=pE (shs.map λs=>aW s (eQ p q)) (tO p q tw) lI
def U4(x:Fr×Fr):L2.T:=.tup [fr x.1,fr x.2]
theorem Ym(h:Nat):iP (.str (DK h)) (.str "left")=decide (h=1):=by
 match h with
 |0=>decide
 |1=>decide
 |n+2=>
  have:iP (.str (DK (n+2))) (.str "left")=false:=by show iP (.str "right") (.str "left")=false;decide
  rw[this,oX ⋯]
structure mW(s:Sh):Prop where
 b:∀l∈s.ls,B3 81 l
structure tR(p q:Pt):Prop where
 hp:Pb p
 hq:Pb q
 ne:p≠q
 l:g3 (lW (aF p) (aF q))≠0
def O4:iO:=λas Q=>∃(shs:List Sh)(p q:Pt)(tw:List Pr),as=[.v (.lst (shs.map Be)),.v (.tup [pt p,pt q]),.v (.lst (tw.map tM))]/\(∀s∈shs,mW s)/\tR p q/\(∀x∈tw,Pb x.1/\Pb x.2)/\shs.length+tw.length<=100/\Q (.l ((dZ shs p q tw).map U4)) []
theorem Lv(h:tR p q):B3 40 (eQ p q).p/\B3 40 (eQ p q).q/\B3 3000 (eQ p q).l:=⟨kY h.hp,kY h.hq,(N0 (Ha (kY h.hp) (kY h.hq))).up ∅⟩
abbrev m8(P w K mg base):=(~~~Fn) 5 "bare_parts" ["shapes","ends","twins"] (aQ K O4)
abbrev kQ:UZ:=top 36
theorem cC:aK ["shapes","ends","twins","segment","rows","shape","laid","begin","end"] ["shapes","ends","twins"] (aC kQ):=iG
theorem wI(F:dY K "bare_parts" "bare_parts" kQ f fd)(TX:Txt mg)(YS: ~~~m9)(ZU: ~~~tW)(ZO: ~~~wV)(ZI: ~~~tX)(aa:tQ mg K "WHOLE" (.tup [.tup [.int 0,.int 1],.tup [.int 1,.int 1]])):(~~~bE) eT 5 f fd ["shapes","ends","twins"] (aQ K O4):=by
 refine F.okU cC (λhr=>(aB (fS 3 cC.nd (fK YS (f2 (fQ 1) (fQ 1)))) (aB (fS 4 cC.nd (eU (f1 (Ys rfl (tD rfl aa) (aH (f1 qY)))))) (aB (gJ PassesOwn.never rfl (dG rfl (fv 0)) (fG 5 cC.nd) (aB (fS 6 cC.nd (fK ZU (f2 (fv 5) (fv 3)))) (aB (eS (Gq (Ce (Sn (fv 6) (cH _)) (uJ (Cd rfl hr (fQ 6) iU (cH _))))) (aG Kf) c9) (aB (eS (Cd rfl hr (Od rfl (fv 6) kH (fF aA)) (tD rfl aa) (cH _)) (aG (aN (eU lV))) c9) (aG (fS 4 cC.nd (fK ZO (f4 (fv 4) (fQ 6) (fQ 6) pN)))))))) (aB (gJ PassesOwn.never rfl (dG rfl (fv 2)) (bS (n:=2) rfl rfl (aE (fG 7 cC.nd) (aE (fG 8 cC.nd) bG))) (aG (fS 4 cC.nd (fK ZO (f4 (fv 4) (fK ZI (f2 (fv 1) (fv 7))) (fK ZI (f2 (fv 1) (fv 8))) pN))))) (aG (aN (xJ (N':=["low","high","name"]) (t:=3) (cap:=[]) rfl (bH.of rfl) rfl ∅ (dG rfl (fv 4)) (λ_ _ _ _=>(bS (n:=3) rfl rfl (aE (fH 0) (aE (fH 1) (aE (fH 2) bG))))) (λ_ _ _ _=>(Sn (fv 2) (cH _))) (λ_ _ _ _=>(aH (f2 (fv 0) (fv 1)))))))))))) ?_;rintro as Q ⟨shs,p,q,tw,rfl,qg,en,ax,hn,z⟩;refine⟨p,q,rfl,en.hp,en.hq,en.l,?_⟩;obtain⟨g1,g2,ye⟩:=Lv en;unfold dZ at z;generalize eQ p q=sg at z g1 g2 ye⊢;refine⟨∅,?_⟩;refine eY (f:=Be) (λs':List kD×Option U×Option U=>[⇑(.lst (shs.map Be)),⇑(.tup [pt p,pt q]),⇑(.lst (tw.map tM)),⇑(FY sg),↥(s'.1.map nR),s'.2.1,s'.2.2,none,none])
  (λss s'=>(∀s∈ss,mW s)/\i6 s'.1/\Ch 0 false s'.1/\s'.1.length+2*(ss.length+tw.length)<=300/\Q (.l ((pE (ss.map λs=>aW s sg) (tO p q tw) s'.1).map U4)) []) ?_ ?_ shs (lI,none,none) ⟨qg,?_,⟨by rw[fA],by rw[fA,jP];grind,λz=>absurd z.1 ∅,trivial⟩,by show 1+2*(shs.length+tw.length)<=300;lia,z⟩
 ·rintro s ss ⟨rs,v5,v6⟩ rest ⟨hss,hr,hc,hl,z⟩ K;have hs1:=hss s (by simp);have XW:∀s∈ss,mW s:=λx m=>hss x (by simp[m]);refine⟨s,sg,rfl,hs1.b,g1,g2,ye,?_⟩;have ok:=Lg hs1.b g1 g2;replace z:Q (.l ((pE (aW s sg::ss.map λs=>aW s sg) (tO p q tw) rs).map U4)) []:=z;simp only[MS]at hl;have nu:rs.length+2*(ss.length+tw.length)<=300:=⋯
  have hle:rs.length<=300:=⋯
  generalize aW s sg=r at z ok⊢;cases r with
  |none=>
   exact K (rs,⇑(Be s),⇑(.non)) ⟨XW,hr,hc,nu,z⟩
  |some r=>
   obtain⟨lo,hi,h⟩:=r;obtain⟨f1,f2⟩:=ok _ rfl;simp only at f1 f2;refine⟨jL rfl,?_⟩;show if iP (.str (DK h)) (.str "left")=true then _ else _;rw[Ym];simp only[pE,dN]at z
   by_cases c:h=1
   ·rw[oY c,oV rfl];rw[oV c]at z;exact K (rs,⇑(Be s),⇑(HJ (oZ (lo,hi,h)))) ⟨XW,hr,hc,nu,z⟩
   ·rw[oX c,oW ∅];rw[oW c]at z;refine⟨(show ¬(HT.sIx 3 0 none=0/\HT.sIx 3 3 (oZ 2)=3) by decide),jL rfl,?_⟩;show if iP (vc lo hi) (vc (0,1) (1,1))=true then _ else _;rw[CQ]
    by_cases c2:lo=(0,1)/\hi=(1,1)
    ·rw[oY c2,oV rfl];rw[oV c2]at z;exact⟨rfl,z⟩
    ·rw[oX c2,oW ∅];rw[oW c2]at z;have cp:=pJ (rows:=rs) f1.d f2.d hr hc;have i1:=xQ (0<val lo);have i2:=xQ (0<val hi);refine⟨rs,lo,hi,rfl,hle,hr,f1,f2,K (bK rs lo hi,⇑(Be s),⇑(HJ (oZ (lo,hi,h)))) ⟨XW,fY hr f1 f2,cp.1,by simp only;lia,z⟩⟩
 ·rintro⟨rs,v5,v6⟩ ⟨_,hr,hc,hl,z⟩;simp only[QN,pE,dN,OZ,TM]at z hl;refine eY (f:=tM) (λs':List kD×Option U×Option U=>[⇑(.lst (shs.map Be)),⇑(.tup [pt p,pt q]),⇑(.lst (tw.map tM)),⇑(FY sg),↥(s'.1.map nR),v5,v6,s'.2.1,s'.2.2])
   (λts s'=>(∀x∈ts,Pb x.1/\Pb x.2)/\i6 s'.1/\Ch 0 false s'.1/\s'.1.length+2*ts.length<=300/\Q (.l ((eD (mK (tO p q ts) s'.1)).map U4)) []) ?_ ?_ tw (rs,none,none) ⟨ax,hr,hc,hl,z⟩
  ·rintro x ts ⟨rs,v7,v8⟩ rest ⟨hts,hr,hc,hl,z⟩ K;have hx:=hts x (by simp);simp only[MS]at hl;have hle:rs.length<=300:=⋯
   have a1:=jM en.hp en.hq hx.1 en.ne;have a2:=jM en.hp en.hq hx.2 en.ne;have cp:=pJ (rows:=rs) a1.2.2.d a2.2.2.d hr hc;have i1:=xQ (0<val (cJ p q x.1));have i2:=xQ (0<val (cJ p q x.2));exact⟨p,q,x.1,rfl,en.hp,en.hq,hx.1,en.ne,p,q,x.2,rfl,en.hp,en.hq,hx.2,en.ne,rs,_,_,rfl,hle,hr,a1.2.2,a2.2.2,K (bK rs (cJ p q x.1) (cJ p q x.2),⇑(pt x.1),⇑(pt x.2)) ⟨λy m=>hts y (by simp[m]),fY hr a1.2.2 a2.2.2,cp.1,by simp only;lia,z⟩⟩
  ·rintro⟨rs,v7,v8⟩ ⟨_,hr,hc,hl,z⟩;simp only[OZ]at hl;replace z:Q (.l ((eD rs).map U4)) []:=z;refine⟨rfl,qS (f:=nR) (h:=λr=>U4 (r.1,r.2.1)) (λr=>!r.2.2) (λ(w:Option U×Option U×Option U)acc=>[w.1,w.2.1,w.2.2,↥acc]) rs (none,none,none) [] (by simp;lia) (λr m w acc rest ha K=>?_) λw=>?_⟩
   ·obtain⟨a,b,g⟩:=r;cases g with
    |true=>exact K (⇑(fr a),⇑(fr b),⇑(.bl true))
    |false=>exact⟨ha,K (⇑(fr a),⇑(fr b),⇑(.non))⟩
   ·rw[eD,MY]at z;exact⟨aZ (λ_=>rfl) _,aZ (λ_=>rfl) _,z⟩
 ·intro r m;have e:r=((0,1),(1,1),false):=by simpa[lI]using m
  subst e;exact⟨Na,Nb⟩
abbrev wX:=Nat×Nat×Pt×Pt
def oP(r:wX):L2.T:=.tup [.int (r.1:Int),.int (r.2.1:Int),pt r.2.2.1,pt r.2.2.2]
structure EI where
 n:Nat
 k:Nat
 p:Pt
 q:Pt
 l:I3
def Hd(e:EI):L2.T:=.tup [.int (e.n:Int),.int (e.k:Int)]
abbrev AD:=List (I3×List Pr)
def dC:AD->I3->List Pr
 |[],_=>[]
 |(k,xs)::r,l=>if k=l then xs else dC r l
def jV:AD->I3->List Pr->AD
 |[],l,ys=>[(l,ys)]
 |(k,xs)::r,l,ys=>if k=l then(k,ys)::r else(k,xs)::jV r l ys
def cK(e:EI)(ps:List (Fr×Fr)):List wX:=ps.map λx=>(e.n,e.k,kN e.p e.q (low x.1.1 x.1.2),kN e.p e.q (low x.2.1 x.2.2))
def mX(shs:List Sh):List EI->AD->List wX
 |[],_=>[]
 |e::es,M=>cK e (dZ shs e.p e.q (dC M e.l))++mX shs es (jV M e.l (dC M e.l++[(e.p,e.q)]))
theorem pR(l k:I3)(ys:List Pr):∀M:AD,dC (jV M l ys) k=if l=k then ys else dC M k
 |[]=>rfl
 |(a,xs)::r=>by
  unfold jV
  by_cases c:a=l
  ·rw[oV c];unfold dC;subst c
   by_cases d:a=k
   ·rw[oV d,oV d]
   ·rw[oW d,oW d,oW d]
  ·rw[oW c];unfold dC;rw[pR l k ys r]
   by_cases d:a=k
   ·rw[oV d,oV d,oW (λz=>c (by rw[d,z]))]
   ·rw[oW d,oW d]
def ky(l:I3):List Key:=[Sum.inl l.1,Sum.inl l.2.1,Sum.inl l.2.2]
theorem zH:ky a=ky b↔a=b:=by
 obtain⟨a1,a2,a3⟩:=a;obtain⟨b1,b2,b3⟩:=b;simp[ky]
def Nd(M:AD):MD:=M.map λx=>(ky x.1,x.2.map tM)
theorem BF{k:List Key->Prop}(h:k (ky l)):GS (oZ (t3 l)) k:=h
theorem Kj(l:I3):∀M:AD,getD (Nd M) (ky l)=(dC M l).map tM
 |[]=>rfl
 |(k,xs)::r=>by
  show(if ky k=ky l then xs.map tM else getD (Nd r) (ky l))=(if k=l then xs else dC r l).map tM
  by_cases c:k=l
  ·rw[oV (zH.mpr c),oV c]
  ·rw[oW (λz=>c (zH.mp z)),oW c,Kj l r]
theorem Ln(l:I3)(ys:List Pr):∀M:AD,zX (Nd M) (ky l) (ys.map tM)=Nd (jV M l ys)
 |[]=>rfl
 |(k,xs)::r=>by
  show(if ky k=ky l then(ky k,ys.map tM)::Nd r else(ky k,xs.map tM)::zX (Nd r) (ky l) (ys.map tM))=Nd (if k=l then(k,ys)::r else(k,xs)::jV r l ys)
  by_cases c:k=l
  ·rw[oV (zH.mpr c),oV c];rfl
  ·rw[oW (λz=>c (zH.mp z)),oW c,Ln l ys r];rfl
theorem Dn(l:I3)(ys:List Pr):∀M:AD,(jV M l ys).length<=M.length+1
 |[]=>by simp[jV]
 |(k,xs)::r=>by
  have:=Dn l ys r;unfold jV
  split<;>simp<;>lia
theorem xT{α σ:Type}{D:Xo}{f:α->L2.T}(mk:σ->En)(mm:σ->MD)(R:List α->σ->Prop)(hs:∀x xs s rest,R (x::xs) s->(∀s',R xs s'->uO g F D rest (mm s') (mk s'))->uO g F D (f x::rest) (mm s) (mk s))(hd:∀s,R [] s->D.nx (mm s) (mk s)):∀xs s,R xs s->uO g F D (xs.map f) (mm s) (mk s)
 |[],s,h=>hd s h
 |x::xs,s,h=>hs x xs s _ h λs' h'=>xT mk mm R hs hd xs s' h'
structure Xy(bs:List jH)(e:EI):Prop where
 ex:∃b,bs[e.n]?=oZ b/\b.o[e.k]?=oZ e.p/\b.o[(e.k+1)%b.o.length]?=oZ e.q/\(a9 b).ls[e.k]?=oZ e.l
 en:tR e.p e.q
def Mz(M:AD):Prop:=∀x∈M,∀y∈x.2,Pb y.1/\Pb y.2
theorem Ki(h:Mz M)(l:I3):∀y∈dC M l,Pb y.1/\Pb y.2:=by
 induction M with
 |nil=>intro y m;simp[dC]at m
 |cons x M ih=>
  obtain⟨k,xs⟩:=x;intro y m;unfold dC at m;split at m
  ·exact h (k,xs) (by simp) y m
  ·exact ih (λz mz=>h z (by simp[mz])) y m
theorem Lm(h:Mz M)(l:I3)(hy:∀y∈ys,Pb y.1/\Pb y.2):Mz (jV M l ys):=by
 induction M with
 |nil=>
  intro x m;have e:x=(l,ys):=by simpa[jV]using m
  subst e;exact hy
 |cons x M ih=>
  obtain⟨k,xs⟩:=x;intro z m;unfold jV at m;split at m
  ·obtain e|m:=MJ.mp m
   ·subst e;exact hy
   ·exact h z (by simp[m])
  ·obtain e|m:=MJ.mp m
   ·subst e;exact h (k,xs) (by simp)
   ·exact ih (λz mz=>h z (by simp[mz])) z m
theorem AU(h:i6 rows):∀x∈eD rows,F2 x.1/\F2 x.2:=λx m=>by
 obtain⟨r,mr,rfl⟩:=MH.mp m;exact h r (NI.mp mr).1
theorem R1:∀{ts:List (Fr×Fr)}{rows:List kD},(∀t∈ts,F2 t.1/\F2 t.2)->i6 rows->i6 (mK ts rows)
 |[],_,_,h=>h
 |t::ts,rows,ht,h=>R1 (ts:=ts) (rows:=bK rows t.1 t.2) (λx m=>ht x (by simp[m])) (fY h (ht t (by simp)).1 (ht t (by simp)).2)
theorem Jj:∀{os:List Ov}{rows rs:List kD},(∀o∈os,yL o)->i6 rows->dN os rows=oZ rs->i6 rs
 |[],rows,rs,_,h,e=>by cases e;exact h
 |none::os,rows,rs,ho,h,e=>Jj (os:=os) (λo m=>ho o (by simp[m])) h e
 |some r::os,rows,rs,ho,h,e=>by
  unfold dN at e;have hr:=ho (oZ r) (by simp) r rfl;split at e
  ·exact Jj (os:=os) (λo m=>ho o (by simp[m])) h e
  ·split at e
   ·cases e
   ·exact Jj (os:=os) (λo m=>ho o (by simp[m])) (fY h hr.1 hr.2) e
theorem pG(hs:∀s∈shs,mW s)(en:tR p q)(ax:∀x∈tw,Pb x.1/\Pb x.2):∀x∈dZ shs p q tw,F2 x.1/\F2 x.2:=by
 obtain⟨g1,g2,ye⟩:=Lv en;unfold dZ pE;intro x m;split at m
 ·simp at m
 ·rename_i rs e;refine AU (R1 (λt mt=>?_) (Jj (λo mo=>?_) (λr mr=>?_) e)) x m
  ·obtain⟨y,my,rfl⟩:=MH.mp mt;exact⟨(jM en.hp en.hq (ax y my).1 en.ne).2.2,(jM en.hp en.hq (ax y my).2 en.ne).2.2⟩
  ·obtain⟨s,ms,rfl⟩:=MH.mp mo;exact Lg (hs s ms).b g1 g2
  ·have e:r=((0,1),(1,1),false):=by simpa[lI]using mr
   subst e;exact⟨Na,Nb⟩
theorem F2.low(h:F2 p):dJ (low p.1 p.2)/\sz (low p.1 p.2)<=300:=by
 have d:p.2≠0:=by have:=h.d;lia
 exact⟨kK d,rX d (pl (eZ p) h.s) (pl (bV p) h.s) ∅⟩
theorem jF(h:Fh b):mW (a9 b):=⟨λl m=>by
 obtain⟨x,mx,rfl⟩:=MH.mp m;exact N0 (yZ h.pb x mx)⟩
theorem W7(r:wX):noL (oP r)=true:=rfl
def Mi:iO:=λas Q=>∃(bs:List jH)(es:List EI),as=[.v (.lst (bs.map gR)),.v (.lst (es.map Hd))]/\bs.length<=8000/\(∀b∈bs,Fh b)/\es.length<=8000/\(∀e∈es,Xy bs e)/\bs.length+es.length<=100/\(mX (bs.map a9) es []).length<=8000/\Q (.l ((mX (bs.map a9) es []).map oP)) []
abbrev kC(P w K mg base):=(~~~Fn) 6 "bounds_of" ["blocks","edges"] (aQ K Mi)
abbrev l8:UZ:=top 37
theorem bP:aK ["blocks","edges","shapes","by_line","rows","number","edge","ends","twins","low","high","begin","end"] ["blocks","edges"] (aC l8):=iG
theorem zR(F:dY K "bounds_of" "bounds_of" l8 f fd)(TX:Txt mg)(ZD: ~~~o8)(ZE: ~~~oS)(YT: ~~~m8)(YU: ~~~sC)(XF: ~~~fT)(jg:Qm K):(~~~bE) eT 6 f fd ["blocks","edges"] (aQ K Mi):=by
 refine F.okU bP (λhr=>(aB (fS 2 bP.nd (fK ZD (f1 (fv 0)))) (T1 (i:=3) bP.nd rfl (ON rfl) (yX (yY (zG (j:=4) bP.nd rfl (ON rfl) (eU lV) ∅)) (yX (T3 (p:=1) rfl PassesOwn.never rfl rfl (by first|exact ON rfl|exact QP (ON rfl)|exact QP (QP rfl)) (Tq (n:=2) rfl rfl (pT (tF (j:=5) bP.nd rfl (ON rfl) ∅) (pT (tF (j:=6) bP.nd rfl (ON rfl) ∅) Ks))) (yX (yY (zG (j:=7) bP.nd rfl (ON rfl) (fK ZE (f2 (fX (fv 0) (fv 5)) (fv 6))) ∅)) (S9 (t:=8) hr rfl jg bP.nd rfl (ON rfl) rfl (by first|exact ON rfl|exact QP (ON rfl)|exact QP (QP rfl)) ∅ (fX (fX (fX (fv 2) (fv 5)) aA) (fv 6)) (zF (W2 PassesOwn.never rfl (dG rfl (fK YT (f3 (fv 2) (fv 7) (fv 8)))) (Tq (n:=2) rfl rfl (pT (tF (j:=9) bP.nd rfl (ON rfl) ∅) (pT (tF (j:=10) bP.nd rfl (ON rfl) ∅) Ks))) (zF (zG (j:=11) bP.nd rfl (ON rfl) (fK YU (f3 (fQ 7) (fQ 7) (fK XF (f2 (fQ 9) (fQ 9))))) ∅) (zF (zG (j:=12) bP.nd rfl (ON rfl) (fK YU (f3 (fQ 7) (fQ 7) (fK XF (f2 (fQ 10) (fQ 10))))) ∅) (Tn (Ku (gZ rfl (fv 4) (f1 (aH (f4 (fv 5) (fv 6) (fv 11) (fv 12)))))))))) (Tn (Ku (gZ rfl (fv 8) (f1 (fv 7)))))) ⟨rfl,rfl,rfl,rfl⟩))) (T2 (yY (W3 (fv 4))))))))) ?_;rintro as Q ⟨bs,es,rfl,hl,hb,hle,he,hok,hlen,z⟩;have qi:(bs.map a9).length+es.length<=100:=by rw[ML];exact hok
 refine⟨bs,rfl,hl,hb,?_⟩;have qg:∀s∈bs.map a9,mW s:=λs m=>by
  obtain⟨b,mb,rfl⟩:=MH.mp m;exact jF (hb b mb)
 have uv:∀e,Xy bs e->∃(b:jH)(s:Sh),bs[e.n]?=oZ b/\b.o[e.k]?=oZ e.p/\b.o[(e.k+1)%b.o.length]?=oZ e.q/\(bs.map a9)[e.n]?=oZ s/\s.ls[e.k]?=oZ e.l/\b.o.length<=8000:=λe h=>by
  obtain⟨b,h1,h2,h3,h4⟩:=h.ex;exact⟨b,a9 b,h1,h2,h3,by rw[MT,h1];rfl,h4,(hb b (MN h1)).len⟩
 generalize bs.map a9=shs at qi hlen z qg uv⊢;refine xT (f:=Hd) (λs':List L2.T×AD×Option U×Option U×Option U×Option U×Option U×Option U×Option U=>[⇑(.lst (bs.map gR)),⇑(.lst (es.map Hd)),↥(shs.map Be),none,↥s'.1,s'.2.2.1,s'.2.2.2.1,s'.2.2.2.2.1,none,s'.2.2.2.2.2.1,s'.2.2.2.2.2.2.1,s'.2.2.2.2.2.2.2.1,s'.2.2.2.2.2.2.2.2]) (λs'=>Nd s'.2.1)
  (λck s'=>(∀e∈ck,Xy bs e)/\Mz s'.2.1/\s'.2.1.length+ck.length<=8000/\(∀l,(dC s'.2.1 l).length+ck.length<=es.length)/\s'.1.length+(mX shs ck s'.2.1).length<=8000/\dH s'.1=true/\Q (.l (s'.1++(mX shs ck s'.2.1).map oP)) []) ?_ ?_ es ([],[],none,none,none,none,none,none,none) ⟨he,λx m=>absurd m (by simp),by simp;lia,λl=>by simp[dC],by simp;lia,rfl,z⟩
 ·rintro e ck ⟨acc,M,v5,v6,v7,v9,v10,v11,ZZ⟩ rest ⟨qm,hM,jv,hok,hlen,ZP,z⟩ K;have hE:=qm e (by simp);obtain⟨b,s,h1,h2,h3,h4,h5,h6⟩:=uv e hE;simp only[MS]at jv;have hkl:=hok e.l;simp only[MS]at hkl;simp only[mX]at hlen z;show o1 (jY (bs.map gR) (e.n:Int)) _;rw[kE h1];refine⟨b,e.k,e.p,e.q,rfl,h6,h2,h3,?_⟩;show o1 (jY (shs.map Be) (e.n:Int)) _;rw[kE h4];show o1 (jY (s.ls.map t3) (e.k:Int)) _;rw[kE h5];refine⟨rfl,(show(Nd M).length<9000 by rw[Nd,ML];lia),?_⟩;have ax:=Ki hM e.l;have hfr:=pG qg hE.en ax;refine BF (l:=e.l) ?_;refine(?_:sR [⇑(.lst (bs.map gR)),⇑(.lst (es.map Hd)),↥(shs.map Be),none,↥acc,↑(e.n:Int),↑(e.k:Int),⇑(tM (e.p,e.q)),↥(getD (Nd M) (ky e.l)),v9,v10,v11,ZZ] _);rw[Kj];have hps:(dZ shs e.p e.q (dC M e.l)).length<=8000:=by
   have:(cK e (dZ shs e.p e.q (dC M e.l))).length=(dZ shs e.p e.q (dC M e.l)).length:=by rw[cK,ML]
   rw[MP,this]at hlen
   lia
  refine⟨shs,e.p,e.q,dC M e.l,rfl,qg,hE.en,ax,⋯,?_⟩;refine eY (f:=U4) (λs':List L2.T×Option U×Option U×Option U×Option U=>[⇑(.lst (bs.map gR)),⇑(.lst (es.map Hd)),↥(shs.map Be),none,↥s'.1,↑(e.n:Int),↑(e.k:Int),⇑(tM (e.p,e.q)),↥((dC M e.l).map tM),s'.2.1,s'.2.2.1,s'.2.2.2.1,s'.2.2.2.2])
   (λps s'=>(∀x∈ps,F2 x.1/\F2 x.2)/\dH s'.1=true/\s'.1.length+ps.length+(mX shs ck (jV M e.l (dC M e.l++[(e.p,e.q)]))).length<=8000/\Q (.l (s'.1++(cK e ps).map oP++(mX shs ck (jV M e.l (dC M e.l++[(e.p,e.q)]))).map oP)) []) ?_ ?_ _ (acc,v9,v10,v11,ZZ) ⟨hfr,ZP,?_,?_⟩
  ·rintro x ps ⟨acc,v9,v10,v11,ZZ⟩ rest ⟨hf,ZP,hlen,z⟩ K;obtain⟨f1,f2⟩:=hf x (by simp);have d1:x.1.2≠0:=by have:=f1.d;lia
   have d2:x.2.2≠0:=by have:=f2.d;lia
   simp only[MS]at hlen;refine⟨x.1.1,x.1.2,rfl,d1,pY (bV x.1) (by have:=f1.s;lia),e.p,e.q,_,rfl,hE.en.hp,hE.en.hq,f1.low.1,f1.low.2,?_⟩;refine⟨x.2.1,x.2.2,rfl,d2,pY (bV x.2) (by have:=f2.s;lia),e.p,e.q,_,rfl,hE.en.hp,hE.en.hq,f2.low.1,f2.low.2,?_⟩;refine⟨by rw[MP];simp;lia,K (acc++[oP (e.n,e.k,kN e.p e.q (low x.1.1 x.1.2),kN e.p e.q (low x.2.1 x.2.2))],⇑(fr x.1),⇑(fr x.2),_,_) ⟨λy m=>hf y (by simp[m]),by rw[j7,ZP];rfl,by simp;lia,?_⟩⟩;have:acc++(cK e (x::ps)).map oP=(acc++[oP (e.n,e.k,kN e.p e.q (low x.1.1 x.1.2),kN e.p e.q (low x.2.1 x.2.2))])++(cK e ps).map oP:=by simp[cK]
   rw[<-this];exact z
  ·rintro⟨acc,v9,v10,v11,ZZ⟩ ⟨_,ZP,hlen,z⟩;have e0:acc++(cK e []).map oP=acc:=by simp[cK]
   rw[e0]at z;have hgl:(dC M e.l).length<=100:=⋯
   refine⟨by rw[MP,ML];simp;lia,?_,?_⟩
   ·rw[j7,aZ (λ_=>rfl)];rfl
   ·have e1:(dC M e.l).map tM++[tM (e.p,e.q)]=(dC M e.l++[(e.p,e.q)]).map tM:=by simp
    have e2:zX (Nd M) (ky e.l) ((dC M e.l).map tM++[tM (e.p,e.q)])=Nd (jV M e.l (dC M e.l++[(e.p,e.q)])):=by rw[e1,Ln]
    have hM':Mz (jV M e.l (dC M e.l++[(e.p,e.q)])):=Lm hM e.l λy m=>by
     obtain m|m:=NB.mp m
     ·exact ax y m
     ·have ey:y=(e.p,e.q):=by simpa using m
      subst ey;exact⟨hE.en.hp,hE.en.hq⟩
    have ou:=Dn e.l (dC M e.l++[(e.p,e.q)]) M;have ur:∀l,(dC (jV M e.l (dC M e.l++[(e.p,e.q)])) l).length+ck.length<=es.length:=λl=>by
     rw[pR];have:=hok l;simp only[MS]at this
     by_cases c:e.l=l
     ·rw[oV c,MP,OM];lia
     ·rw[oW c];lia
    have fin:=K (acc,jV M e.l (dC M e.l++[(e.p,e.q)]),↑(e.n:Int),↑(e.k:Int),⇑(tM (e.p,e.q)),v9,v10,v11,ZZ) ⟨λy m=>qm y (by simp[m]),hM',by show(jV M e.l (dC M e.l++[(e.p,e.q)])).length+_<=8000;lia,ur,by simp only[OZ]at hlen;show acc.length+_<=8000;lia,ZP,z⟩;simp only at fin;rw[<-e2]at fin;exact fin
  ·rw[MP,show(cK e (dZ shs e.p e.q (dC M e.l))).length=(dZ shs e.p e.q (dC M e.l)).length by rw[cK,ML]]at hlen;show acc.length+_+_<=8000
   lia
  ·rw[OE,<-MO]at z;exact z
 ·rintro⟨acc,M,v5,v6,v7,v9,v10,v11,ZZ⟩ ⟨_,_,_,_,_,ZP,z⟩;have e:acc++(mX shs [] M).map oP=acc:=by simp[mX]
  rw[e]at z;exact⟨ZP,z⟩
def BP:Pt:=((0,1),(0,1))
def Gi(n:Nat)(b:jH)(k:Nat):EI:=⟨n,k,b.o.getD k BP,b.o.getD ((k+1)%b.o.length) BP,(a9 b).ls.getD k (0,0,0)⟩
def Zc(marks:Str)(c:Nat):Bool:=!(Builtin.Str.occurrences marks ⟨#[c]⟩ 0 marks.length 1).isEmpty
def Lc(m:Str)(k:Nat):Nat:=m.cps.toList.getD k 0
def Nx(marks:Str)(n:Nat)(b:jH):List EI:=((OG b.o.length).filter λk=>Zc marks (Lc b.m k)).map (Gi n b)
def bQ(bs:List jH)(marks:Str):List EI:=bs.zipIdx.flatMap λx=>Nx marks x.2 x.1
def bL(bs:List jH)(marks:Str):List wX:=mX (bs.map a9) (bQ bs marks) []
structure Qo(bs:List jH)(marks:Str):Prop where
 len:bs.length<=10
 bk:∀b∈bs,Fh b
 six:∀b∈bs,b.o.length<=6/\b.m.cps.size=b.o.length
 en:∀e∈bQ bs marks,tR e.p e.q
 rows:(bL bs marks).length<=8000
theorem Nw(h:0<o.length):(cV o).length=o.length:=by
 simp only[cV,qC,ML,SI,MP,QU,OC]
 lia
theorem j3{α:Type}{xs:List α}{k:Nat}{d:α}(h:k<xs.length):xs[k]?=oZ (xs.getD k d):=by
 rw[NG,MI h];rfl
theorem pD(m:e∈bQ bs marks):∃b,bs[e.n]?=oZ b/\e.k<b.o.length/\Zc marks (Lc b.m e.k)=true/\e=Gi e.n b e.k:=by
 obtain⟨x,mx,m⟩:=NV.mp m;obtain⟨k,mk,rfl⟩:=MH.mp m;obtain⟨h1,h2⟩:=NI.mp mk;exact⟨x.1,NL.mp mx,OO.mp h1,h2,rfl⟩
theorem L7(h:Qo bs marks):∀e∈bQ bs marks,Xy bs e:=λe m=>by
 refine⟨?_,h.en e m⟩;obtain⟨b,hx,hk,_,ee⟩:=pD m;have hb:=h.bk b (MN hx);rw[ee];refine⟨b,hx,j3 hk,j3 (RO _ hb.pos),j3 ?_⟩;show e.k<((cV b.o).map cO).length;rw[ML,Nw hb.pos];exact hk
theorem Kd{α β:Type}{f:α->List β}:∀{xs:List α},(∀x∈xs,(f x).length<=m)->(xs.flatMap f).length<=m*xs.length
 |[],_=>by simp
 |x::xs,h=>by
  have h1:=h x (by simp);have h2:=Kd (xs:=xs) λy m=>h y (by simp[m]);rw[OS,MP,MS,Nat.mul_succ];lia
theorem y8:(Nx marks n b).length<=b.o.length:=by
 unfold Nx;rw[ML];have:=List.length_filter_le (λk=>Zc marks (Lc b.m k)) (OG b.o.length);rw[List.length_range]at this;exact this
theorem t5(h:∀b∈bs,b.o.length<=6):(bQ bs marks).length<=6*bs.length:=by
 have:=Kd (f:=λx:jH×Nat=>Nx marks x.2 x.1) (m:=6) (xs:=bs.zipIdx) λx m=>OH y8 (h x.1 (MN (NL.mp m)));rw[List.length_zipIdx]at this;exact this
theorem CN(m:Str):((kX m).zipIdx.map λq=>L2.T.tup [.int (q.2:Int),q.1])=(OG m.cps.size).map λ(k:Nat)=>L2.T.tup [.int (k:Int),.str ⟨#[Lc m k]⟩]:=by
 refine List.ext_getElem? λi=>?_;unfold kX Lc;rw[MT,MT,SD,MT]
 by_cases c:i<m.cps.size
 ·have c':i<m.cps.toList.length:=by simpa using c
  rw[SK c,MI c'];simp only[Option.map_some,TM];rw[NG,MI c'];rfl
 ·have c':m.cps.toList.length<=i:=by simpa using c
  rw[PM c',PM (by simpa using c)];rfl
theorem Xm{α:Type}(f:α->L2.T)(xs:List α):((xs.map f).zipIdx.map λq=>L2.T.tup [.int (q.2:Int),q.1])=xs.zipIdx.map λq=>L2.T.tup [.int (q.2:Int),f q.1]:=by
 rw[List.zipIdx_map,MY];rfl
def Q5:iO:=λas Q=>∃(bs:List jH)(marks:Str),as=[.v (.lst (bs.map gR)),.v (.str marks)]/\Qo bs marks/\Q (.l ((bL bs marks).map oP)) []
abbrev Ql(P w K mg base):=(~~~Fn) 7 "rim" ["blocks","marks"] (aQ K Q5)
abbrev Vy:UZ:=top 38
theorem Am:aK ["blocks","marks","edges","number","block"] ["blocks","marks"] (aC Vy):=iG
theorem X2(F:dY K "rim" "rim" Vy f fd)(TX:Txt mg)(XY: ~~~kC):(~~~bE) eT 7 f fd ["blocks","marks"] (aQ K Q5):=by
 refine F.okU Am (λhr=>(aB (fS 2 Am.nd (eU lV)) (aB (gJ PassesOwn.never rfl (zA rfl rfl TX.n_enumerate (f1 (fv 0))) (bS (n:=2) rfl rfl (aE (fG 3 Am.nd) (aE (fG 4 Am.nd) bG))) (aG (iD (xM rfl (fv 2) (f1 (xJ (N':=["edge","mark","number","marks"]) (t:=2) (cap:=[(3,false),(1,false)]) rfl (bH.of rfl) rfl ∅ (Sk rfl TX.n_enumerate (f1 (fQ 4))) (λ_ _ _ _=>(bS (n:=2) rfl rfl (aE (fH 0) (aE (fH 1) bG)))) (λ_ _ _ _=>(U6 (fv 1) (fv 3))) (λ_ _ _ _=>(aH (f2 (fv 2) (fv 0)))))))))) (aG (aN (fK XY (f2 (fv 0) (fv 2)))))))) ?_;rintro as Q ⟨bs,marks,rfl,h,z⟩;show fW _ _ _ ((bs.map gR).zipIdx.map λq=>L2.T.tup [.int (q.2:Int),q.1]) _;rw[Xm];refine eY (f:=λq:jH×Nat=>L2.T.tup [.int (q.2:Int),gR q.1]) (λs':List L2.T×Option U×Option U=>[⇑(.lst (bs.map gR)),⇑(.str marks),↥s'.1,s'.2.1,s'.2.2])
  (λxs s'=>(∀x∈xs,x.1∈bs)/\s'.1.length+6*xs.length<=8000/\dH s'.1=true/\s'.1++(xs.flatMap λx=>Nx marks x.2 x.1).map Hd=(bQ bs marks).map Hd) ?_ ?_ bs.zipIdx ([],none,none) ⟨λx m=>MN (NL.mp m),by have:=h.len;simp;lia,rfl,rfl⟩
 ·rintro x xs ⟨acc,v3,v4⟩ rest ⟨hx,hl,ZP,e⟩ K;obtain⟨b,n⟩:=x;obtain⟨f1,f2⟩:=h.six b (hx (b,n) (by simp));simp only[MS]at hl;refine⟨rfl,?_⟩;show iS _ _ _ ((kX b.m).zipIdx.map λq=>L2.T.tup [.int (q.2:Int),q.1]) _ _;rw[CN,f2];refine qS (f:=λk:Nat=>L2.T.tup [.int (k:Int),.str ⟨#[Lc b.m k]⟩]) (h:=λk:Nat=>L2.T.tup [.int (n:Int),.int (k:Int)]) (λk=>Zc marks (Lc b.m k)) (λ(w:Option U×Option U)acc=>[w.1,w.2,↑(n:Int),⇑(.str marks),↥acc]) _ (none,none) [] (by simp;lia) (λk m w acc rest ha K=>?_) λw=>?_
  ·have kk:=K (↑(k:Int),⇑(.str ⟨#[Lc b.m k]⟩));show if Zc marks (Lc b.m k)=true then _ else _
   by_cases c:Zc marks (Lc b.m k)=true
   ·rw[oV c];rw[oV c]at kk;exact⟨ha,kk⟩
   ·rw[oW c];rw[oW c]at kk;exact kk
  ·have en:([]++((OG b.o.length).filter λk=>Zc marks (Lc b.m k)).map λk:Nat=>L2.T.tup [.int (n:Int),.int (k:Int)])=(Nx marks n b).map Hd:=by
    rw[OP];unfold Nx;rw[MY];rfl
   rw[en];have el:=y8 (marks:=marks) (n:=n) (b:=b);refine⟨aZ (λ_=>rfl) _,?_,?_⟩
   ·show(acc++_).length<=9000;rw[MP,ML];lia
   ·refine K (acc++(Nx marks n b).map Hd,↑(n:Int),⇑(gR b)) ⟨λy m=>hx y (by simp[m]),by simp only[MP,ML];lia,by rw[j7,ZP,aZ (λ_=>rfl)];rfl,?_⟩;rw[OS,OE]at e;rw[MO];exact e
 ·rintro⟨acc,v3,v4⟩ ⟨_,hl,ZP,e⟩;have e0:acc=(bQ bs marks).map Hd:=by simpa using e
  subst e0;have:=t5 (marks:=marks) λb m=>(h.six b m).1;have:=h.len;refine⟨bs,bQ bs marks,rfl,⋯,h.bk,⋯,L7 h,⋯,h.rows,?_⟩;exact⟨aZ W7 _,z⟩
theorem t7(hs:∀s∈shs,mW s)(en:tR p q)(ax:∀x∈tw,Pb x.1/\Pb x.2):(dZ shs p q tw).length<=1+shs.length+tw.length/\Xs 0 false (dZ shs p q tw):=by
 obtain⟨g1,g2,ye⟩:=Lv en;have r0:i6 lI:=λr m=>by
  have e:r=((0,1),(1,1),false):=by simpa[lI]using m
  subst e;exact⟨Na,Nb⟩
 have c0:Ch 0 false lI:=⟨by rw[fA],by rw[fA,jP];grind,λz=>absurd z.1 ∅,trivial⟩;have go:∀(os:List Ov)(rows rs:List kD),(∀o∈os,yL o)->i6 rows->Ch 0 false rows->dN os rows=oZ rs->i6 rs/\Ch 0 false rs/\wH rs<=wH rows+os.length:=λos=>by
  induction os with
  |nil=>intro rows rs _ h1 h2 e;cases e;exact⟨h1,h2,by simp⟩
  |cons o os ih=>
   intro rows rs ho h1 h2 e;have ak:∀o∈os,yL o:=λx m=>ho x (by simp[m]);cases o with
   |none=>
    obtain⟨a,b,c⟩:=ih rows rs ak h1 h2 e;exact⟨a,b,by simp only[MS];lia⟩
   |some r=>
    unfold dN at e;obtain⟨f1,f2⟩:=ho (oZ r) (by simp) r rfl;split at e
    ·obtain⟨a,b,c⟩:=ih rows rs ak h1 h2 e;exact⟨a,b,by simp only[MS];lia⟩
    ·split at e
     ·cases e
     ·have cp:=pJ f1.d f2.d h1 h2;obtain⟨a,b,c⟩:=ih _ rs ak (fY h1 f1 f2) cp.1 e;have:=xQ (0<val r.1);exact⟨a,b,by simp only[MS];lia⟩
 have tg:∀(ts:List (Fr×Fr))(rows:List kD),(∀t∈ts,F2 t.1/\F2 t.2)->i6 rows->Ch 0 false rows->Ch 0 false (mK ts rows)/\wH (mK ts rows)<=wH rows+ts.length:=λts=>by
  induction ts with
  |nil=>intro rows _ _ h2;exact⟨h2,by simp[mK]⟩
  |cons t ts ih=>
   intro rows ht h1 h2;obtain⟨f1,f2⟩:=ht t (by simp);have cp:=pJ f1.d f2.d h1 h2;obtain⟨a,b⟩:=ih _ (λx m=>ht x (by simp[m])) (fY h1 f1 f2) cp.1;have:=xQ (0<val t.1);exact⟨a,by simp only[MS];unfold mK;lia⟩
 have yc:∀o∈shs.map (λs=>aW s (eQ p q)),yL o:=λo m=>by
  obtain⟨s,ms,rfl⟩:=MH.mp m;exact Lg (hs s ms).b g1 g2
 have htp:∀t∈tO p q tw,F2 t.1/\F2 t.2:=λt m=>by
  obtain⟨y,my,rfl⟩:=MH.mp m;exact⟨(jM en.hp en.hq (ax y my).1 en.ne).2.2,(jM en.hp en.hq (ax y my).2 en.ne).2.2⟩
 unfold dZ pE;cases g:dN (shs.map λs=>aW s (eQ p q)) lI with
 |none=>exact⟨by simp,trivial⟩
 |some rs=>
  obtain⟨a,b,c⟩:=go _ _ _ yc r0 c0 g;obtain⟨d,e⟩:=tg (tO p q tw) rs htp a b;refine⟨?_,Wh d⟩;have eb:(eD (mK (tO p q tw) rs)).length=wH (mK (tO p q tw) rs):=by unfold eD wH;rw[ML]
  show(eD (mK (tO p q tw) rs)).length<=_;have n0:wH lI=1:=rfl;have l1:(tO p q tw).length=tw.length:=by unfold tO;rw[ML]
  rw[ML]at c
  lia
theorem Qu(hs:∀s∈shs,mW s):∀(es:List EI)(M:AD)(m:Nat),(∀e∈es,tR e.p e.q)->Mz M->(∀l,(dC M l).length<=m)->2*(mX shs es M).length<=es.length*(2*(1+shs.length+m)+es.length)
 |[],M,m,_,_,_=>by simp[mX]
 |e::es,M,m,he,hM,hm=>by
  have en:=he e (by simp);have ax:=Ki hM e.l;have h1:=(t7 hs en ax).1;have hg:=hm e.l;have ih:=Qu hs es (jV M e.l (dC M e.l++[(e.p,e.q)])) (m+1) (λx mx=>he x (by simp[mx])) (Lm hM e.l λy my=>by
   obtain my|my:=NB.mp my
   ·exact ax y my
   ·rw[MW]at my;rw[my];exact⟨en.hp,en.hq⟩) (λl=>by
   rw[pR]
   by_cases c:e.l=l
   ·rw[oV c,MP,OM];lia
   ·rw[oW c];have:=hm l;lia)
  unfold mX;rw[MP,MS,show(cK e (dZ shs e.p e.q (dC M e.l))).length=(dZ shs e.p e.q (dC M e.l)).length by rw[cK,ML]];generalize es.length=n at *;have e1:n*(2*(1+shs.length+(m+1))+n)=n*(2*(1+shs.length+m))+(2*n+n*n):=by grind
  have e2:(n+1)*(2*(1+shs.length+m)+(n+1))=n*(2*(1+shs.length+m))+2*(1+shs.length+m)+(n*n+2*n+1):=by grind
  lia
theorem n8{x:Rat}(h:x≠0):0<x*x:=by
 by_cases c:0<x
 ·exact Rat.mul_pos c c
 ·have:=Rat.mul_pos (a:=-x) (b:=-x) (by grind) (by grind);grind
theorem O2(x:Rat):0<=x*x:=by
 by_cases c:x=0
 ·rw[c];grind
 ·exact Rat.le_of_lt (n8 c)
theorem N4{A:Rat}(h:0<A):0<A.num:=by
 have h1:0<=A.num:=Rat.num_nonneg.mpr (Rat.le_of_lt h);have h2:A.num≠0:=λz=>by have:=Rat.num_eq_zero.mp z;grind
 lia
theorem Le(A:Rat):A*(A.den:Rat)=(A.num:Rat):=by
 have e:=Rat.num_divInt_den A;rw[Rat.divInt_eq_div]at e;have n:((A.den:Int):Rat)≠0:=by have:=A.den_pos;exact_mod_cast (show A.den≠0 by lia)
 have n':(A.den:Rat)=((A.den:Int):Rat):=by push_cast;rfl
 rw[n'];grind
def vq(p:Pt):Q2:=(val p.1,val p.2)
structure lG(p:Pt):Prop where
 w:1<=(aF p).2.2
 x:((aF p).1:Rat)=val p.1*((aF p).2.2:Rat)
 y:((aF p).2.1:Rat)=val p.2*((aF p).2.2:Rat)
theorem spt(hx:dJ p.1)(hy:dJ p.2):lG p:=by
 have dx:=hx.d;have dy:=hy.d;have g0:0<g8 p.1.2 p.2.2:=Sv ⋯;have d1:g8 p.1.2 p.2.2∣p.1.2:=OB.mpr (PF _ _);have d2:g8 p.1.2 p.2.2∣p.2.2:=OB.mpr (PJ _ _);have e1:p.1.2.fdiv (g8 p.1.2 p.2.2)=p.1.2/g8 p.1.2 p.2.2:=pM _ _;have e2:p.2.2.fdiv (g8 p.1.2 p.2.2)=p.2.2/g8 p.1.2 p.2.2:=pM _ _;obtain⟨a,ha⟩:=d1;obtain⟨b,hb⟩:=d2;have f1:p.1.2.fdiv (g8 p.1.2 p.2.2)=a:=by rw[e1];exact SW ⋯ ha
 have f2:p.2.2.fdiv (g8 p.1.2 p.2.2)=b:=by rw[e2];exact SW ⋯ hb
 have es:aF p=(p.1.1*b,p.2.1*a,a*p.2.2):=by unfold aF;rw[f1,f2]
 have ap:0<a:=by
  obtain h|h:=Int.lt_or_le 0 a
  ·exact h
  ·have:=RT (Int.le_of_lt g0) h
   lia
 have c:a*p.2.2=p.1.2*b:=by
  have t1:a*p.2.2=a*(g8 p.1.2 p.2.2*b):=by rw[<-hb]
  have t2:p.1.2*b=g8 p.1.2 p.2.2*a*b:=by rw[<-ha]
  rw[t1,t2];grind
 have c':(a:Rat)*(p.2.2:Rat)=(p.1.2:Rat)*(b:Rat):=by exact_mod_cast c
 have v1:=Xh hx;have v2:=Xh hy;refine⟨?_,?_,?_⟩
 ·rw[es];show 1<=a*p.2.2;have:=SR ap (show 0<p.2.2 by lia)
  lia
 ·rw[es];show((p.1.1*b:Int):Rat)=val p.1*((a*p.2.2:Int):Rat)
  push_cast
  rw[c'];grind
 ·rw[es];show((p.2.1*a:Int):Rat)=val p.2*((a*p.2.2:Int):Rat)
  push_cast
  grind
theorem lG.p{p:Pt}(h:lG p):(0:Rat)<((aF p).2.2:Rat):=by have:=h.w;exact_mod_cast (show(0:Int)<(aF p).2.2 by lia)
def fJ(c d:Pt):I3:=lW (aF c) (aF d)
theorem uS(hc:lG c)(hd:lG d)(hx:lG x):((dX (fJ c d) (aF x):Int):Rat)=((aF c).2.2:Rat)*((aF d).2.2:Rat)*((aF x).2.2:Rat)*fE (vq c,vq d) (vq x):=by
 unfold dX fJ lW fE aU aM aR vq
 push_cast
 rw[hc.x,hc.y,hd.x,hd.y,hx.x,hx.y];grind
theorem rB(h:g3 l≠0):0<g3 l:=by
 have:0<=g3 l:=by unfold g3 g8;lia
 lia
theorem Ss(l:I3):g3 l∣l.1/\g3 l∣l.2.1/\g3 l∣l.2.2:=by
 have d1:g8 l.1 l.2.1∣l.1:=OB.mpr (PF _ _);have d2:g8 l.1 l.2.1∣l.2.1:=OB.mpr (PJ _ _);have d3:g3 l∣g8 l.1 l.2.1:=OB.mpr (PF _ _);have d4:g3 l∣l.2.2:=OB.mpr (PJ _ _);exact⟨Int.dvd_trans d3 d1,Int.dvd_trans d3 d2,d4⟩
theorem mO(h:g3 l≠0):l.1=g3 l*(cO l).1/\l.2.1=g3 l*(cO l).2.1/\l.2.2=g3 l*(cO l).2.2:=by
 obtain⟨d1,d2,d3⟩:=Ss l;have k:∀i,g3 l∣i->i=g3 l*i.fdiv (g3 l):=λi di=>by
  have:i.fdiv (g3 l)=i/g3 l:=pM _ _;rw[this];exact(Int.mul_ediv_cancel' di).symm
 exact⟨k _ d1,k _ d2,k _ d3⟩
theorem Gu(n:Nat)(l:I3):g3 ((n:Int)*l.1,(n:Int)*l.2.1,(n:Int)*l.2.2)=(n:Int)*g3 l:=by
 unfold g3 g8;simp only[OK,SV,Nat.gcd_mul_left]
 push_cast;rfl
theorem Ky(h:g3 l≠0):g3 (cO l)=1:=by
 obtain⟨e1,e2,e3⟩:=mO h;have p:=rB h;obtain⟨n,hn⟩:∃n:Nat,g3 l=(n:Int):=⟨(g3 l).toNat,⋯⟩;have k:=Gu n (cO l);rw[<-hn,<-e1,<-e2,<-e3]at k;have k':g3 l*g3 (cO l)=g3 l*1:=by rw[Int.mul_one];exact k.symm
 exact TF h k'
theorem Tv{m n:Int}(hl:g3 l≠0)(ho:g3 o≠0)(hm:0<m)(hn:0<n)(e1:n*l.1=m*o.1)(e2:n*l.2.1=m*o.2.1)(e3:n*l.2.2=m*o.2.2):cO l=cO o:=by
 obtain⟨a1,a2,a3⟩:=mO hl;obtain⟨b1,b2,b3⟩:=mO ho;have pl:=rB hl;have po:=rB ho;have ol:=Ky hl;have oo:=Ky ho;generalize cO l=A at *;generalize cO o=B at *;rw[a1,b1,<-RH,<-RH]at e1;rw[a2,b2,<-RH,<-RH]at e2;rw[a3,b3,<-RH,<-RH]at e3;have p1:=SR hn pl;have p2:=SR hm po;generalize n*g3 l=α at *;generalize m*g3 o=β at *;obtain⟨x,hx⟩:∃n:Nat,α=(n:Int):=⟨α.toNat,⋯⟩;obtain⟨y,hy⟩:∃n:Nat,β=(n:Int):=⟨β.toNat,⋯⟩;have k1:=Gu x A;have k2:=Gu y B;rw[<-hx,ol,e1,e2,e3]at k1;rw[<-hy,oo,k1]at k2;have:α=β:=⋯
 subst this;have c:∀{u v:Int},α*u=α*v->u=v:=λh=>TF ⋯ h;exact Prod.ext (c e1) (Prod.ext (c e2) (c e3))
theorem Cg(hc:lG c)(hd:lG d)(hp:lG p)(hq:lG q)(h:g3 (fJ c d)≠0):∃k:Rat,0<k/\(lA (aF p) (aF q) (cO (fJ c d)):Rat)=k*fE (vq c,vq d) (vq p)/\(lB (aF p) (aF q) (cO (fJ c d)):Rat)=k*fE (vq c,vq d) (vq q):=by
 obtain⟨e1,e2,e3⟩:=mO h;have gp:=rB h;have gp':(0:Rat)<(g3 (fJ c d):Rat):=by exact_mod_cast gp
 have k:∀x:I3,dX (fJ c d) x=g3 (fJ c d)*dX (cO (fJ c d)) x:=λx=>by unfold dX;grind
 have ox:=uS hc hd hp;have oy:=uS hc hd hq;rw[k]at ox oy
 push_cast at ox oy
 have wc:=hc.p;have wd:=hd.p;have wp:=hp.p;have wq:=hq.p;have m1:=Rat.mul_pos (Rat.mul_pos wc wd) (Rat.mul_pos wp wq);refine⟨((aF c).2.2:Rat)*((aF d).2.2:Rat)*(((aF p).2.2:Rat)*((aF q).2.2:Rat))/(g3 (fJ c d):Rat),by rw[Rat.div_def];exact Rat.mul_pos m1 (Rat.inv_pos.mpr gp'),?_,?_⟩
 ·unfold lA;push_cast;grind
 ·unfold lB;push_cast;grind
theorem M9(hc:lG c)(hd:lG d)(hp:lG p)(hq:lG q)(h:g3 (fJ c d)≠0):∃k:Rat,0<k/\∀t,lF (aF p) (aF q) (cO (fJ c d)) t=fE (vq c,vq d) (dE (vq p) (vq q) t)*k:=by
 obtain⟨k,k0,h1,h2⟩:=Cg hc hd hp hq h;refine⟨k,k0,λt=>?_⟩;rw[lU];unfold lF Bd;rw[h1,h2];grind
theorem zJ(hc:lG c)(hd:lG d)(hp:lG p)(hq:lG q)(h:g3 (fJ c d)≠0)(h':g3 (fJ p q)≠0)(ne:0<aP (aM (vq c,vq d)) (aM (vq c,vq d)))(z1:fE (vq c,vq d) (vq p)=0)(z2:fE (vq c,vq d) (vq q)=0):
  cO (fJ c d)=cO (fJ p q)↔0<aP (aM (vq c,vq d)) (aR (vq q) (vq p)):=by
 have comp:∀{c d:Pt},lG c->lG d->((fJ c d).1:Rat) = -(((aF c).2.2:Rat)*((aF d).2.2:Rat)*(aM (vq c,vq d)).2)/\((fJ c d).2.1:Rat)=((aF c).2.2:Rat)*((aF d).2.2:Rat)*(aM (vq c,vq d)).1/\((fJ c d).2.2:Rat)=((aF c).2.2:Rat)*((aF d).2.2:Rat)*aU (vq c) (vq d):=λ{c d}hc hd=>by
  unfold fJ lW aM aR aU vq
  push_cast
  rw[hc.x,hc.y,hd.x,hd.y];exact⟨by grind,by grind,by grind⟩
 obtain⟨a1,a2,a3⟩:=comp hc hd;obtain⟨b1,b2,b3⟩:=comp hp hq;have wc:=hc.p;have wd:=hd.p;have wp:=hp.p;have wq:=hq.p;have m1:=Rat.mul_pos wc wd;have m2:=Rat.mul_pos wp wq;have vE:aR (vq q) (vq p)=aM (vq p,vq q):=rfl;rw[vE];constructor
 ·intro e;obtain⟨l1,l2,_⟩:=mO h;obtain⟨o1,o2,_⟩:=mO h';rw[<-e]at o1 o2;have g1:(0:Rat)<(g3 (fJ c d):Rat):=by exact_mod_cast rB h
  have g2:(0:Rat)<(g3 (fJ p q):Rat):=by exact_mod_cast rB h'
  have l1':((fJ c d).1:Rat)=(g3 (fJ c d):Rat)*((cO (fJ c d)).1:Rat):=by exact_mod_cast l1
  have l2':((fJ c d).2.1:Rat)=(g3 (fJ c d):Rat)*((cO (fJ c d)).2.1:Rat):=by exact_mod_cast l2
  have o1':((fJ p q).1:Rat)=(g3 (fJ p q):Rat)*((cO (fJ c d)).1:Rat):=by exact_mod_cast o1
  have o2':((fJ p q).2.1:Rat)=(g3 (fJ p q):Rat)*((cO (fJ c d)).2.1:Rat):=by exact_mod_cast o2
  generalize((cO (fJ c d)).1:Rat)=M at *;generalize((cO (fJ c d)).2.1:Rat)=N at *;generalize(g3 (fJ c d):Rat)=g at *;generalize(g3 (fJ p q):Rat)=g' at *;generalize((aF c).2.2:Rat)*((aF d).2.2:Rat)=s at *;generalize((aF p).2.2:Rat)*((aF q).2.2:Rat)=s' at *;generalize aM (vq c,vq d)=u at *;generalize aM (vq p,vq q)=v at *;have i1:aP u v*(s*s'*g)=aP u u*(s*s*g'):=by
   unfold aP;grind
  refine bF (Rat.mul_pos (Rat.mul_pos m1 m2) g1) ?_;rw[i1];exact Rat.mul_pos ne (Rat.mul_pos (Rat.mul_pos m1 m1) g2)
 ·intro dp
  -- the line is so many times the other
  have vne:0<aP (aM (vq p,vq q)) (aM (vq p,vq q)):=by
   unfold aP;have s1:=O2 (aM (vq p,vq q)).1;have s2:=O2 (aM (vq p,vq q)).2
   by_cases y1:(aM (vq p,vq q)).1=0
   ·by_cases y2:(aM (vq p,vq q)).2=0
    ·unfold aP at dp;rw[y1,y2]at dp;grind
    ·have:=n8 y2;grind
   ·have:=n8 y1;grind
  have cz:aU (aM (vq p,vq q)) (aM (vq c,vq d))=0:=by
   have:aU (aM (vq p,vq q)) (aM (vq c,vq d))=fE (vq c,vq d) (vq p)-fE (vq c,vq d) (vq q):=by unfold fE aU aM aR;grind
   rw[this,z1,z2];grind
  obtain⟨p1,p2⟩:=par vne cz;have c3:aU (vq c) (vq d)*aP (aM (vq p,vq q)) (aM (vq p,vq q))=aP (aM (vq p,vq q)) (aM (vq c,vq d))*aU (vq p) (vq q):=by
   have t1:aU (vq c) (vq d)=aU (vq p) (aM (vq c,vq d)):=by
    have:aU (vq c) (vq d)-aU (vq p) (aM (vq c,vq d))=fE (vq c,vq d) (vq p):=by unfold fE aU aM aR;grind
    rw[z1]at this;grind
   have t2:aU (vq p) (vq q)=aU (vq p) (aM (vq p,vq q)):=by unfold aU aM aR;grind
   rw[t1,t2];unfold aU;grind
  have dp':0<aP (aM (vq p,vq q)) (aM (vq c,vq d)):=by unfold aP at dp⊢;grind
  generalize hr:aP (aM (vq p,vq q)) (aM (vq c,vq d))=r at *;generalize hv:aP (aM (vq p,vq q)) (aM (vq p,vq q))=v at *
  -- n*L=m*O over numbers
  have key:∀(A B:Rat),0<A->0<B->∃m n:Int,0<m/\0<n/\(n:Rat)*A=(m:Rat)*B:=λA B hA hB=>by
   refine⟨A.num*B.den,B.num*A.den,SR (N4 hA) (by have:=B.den_pos;lia),SR (N4 hB) (by have:=A.den_pos;lia),?_⟩;have eA:=Le A;have eB:=Le B
   push_cast
   rw[<-eA,<-eB];grind
  obtain⟨m,n,m0,n0,e⟩:=key (r*(((aF c).2.2:Rat)*((aF d).2.2:Rat))) (v*(((aF p).2.2:Rat)*((aF q).2.2:Rat))) (Rat.mul_pos dp' m1) (Rat.mul_pos vne m2);have vn0:v≠0:=by grind
  have fin:∀{x y:Int},(n:Rat)*(x:Rat)*v=(m:Rat)*(y:Rat)*v->n*x=m*y:=λ{x y}h=>by
   have:(n:Rat)*(x:Rat)=(m:Rat)*(y:Rat):=by grind
   exact_mod_cast this
  refine Tv h h' m0 n0 (fin ?_) (fin ?_) (fin ?_)
  ·rw[a1,b1];grind
  ·rw[a2,b2];grind
  ·rw[a3,b3];grind
end
def zr(o:List Pt):List (Pt×Pt):=o.zip (qC o)
def d5(o:List Pt):List Eg:=(zr o).map λx=>(vq x.1,vq x.2)
theorem Dq{α β:Type}(f:α->β)(xs:List α):qC (xs.map f)=(qC xs).map f:=by unfold qC;rw[OE,List.map_tail,UN]
theorem qT(o:List Pt):cV o=(zr o).map λx=>fJ x.1 x.2:=by
 unfold cV zr;rw[Dq,List.zip_map,MY];rfl
theorem k8(h:x∈zr o):x.1∈o/\x.2∈o:=by
 obtain⟨m1,m2⟩:=PQ (a:=x.1) (b:=x.2) h;refine⟨m1,?_⟩;obtain m2|m2:=NB.mp m2
 ·exact SH m2
 ·exact OJ m2
structure GB(o:List Pt):Prop where
 sp:∀p∈o,lG p
 cx:Cx (d5 o)
 ne:o≠[]
theorem GZ(h:o≠[]):zr o≠[]:=by
 cases o with
 |nil=>exact absurd rfl h
 |cons p o=>cases o<;>simp[zr,qC]
theorem GB.es(h:GB o):d5 o≠[]:=by
 have:=GZ h.ne;unfold d5
 simpa using this
theorem Zi(hc:lG c)(hd:lG d):((fJ c d).1:Rat) = -(((aF c).2.2:Rat)*((aF d).2.2:Rat)*(aM (vq c,vq d)).2)/\((fJ c d).2.1:Rat)=((aF c).2.2:Rat)*((aF d).2.2:Rat)*(aM (vq c,vq d)).1:=by
 unfold fJ lW aM aR vq
 push_cast
 rw[hc.x,hc.y,hd.x,hd.y];exact⟨by grind,by grind⟩
theorem pQ(hc:lG c)(hd:lG d)(h:0<aP (aM (vq c,vq d)) (aM (vq c,vq d))):g3 (fJ c d)≠0:=λz=>by
 obtain⟨d1,d2,_⟩:=Ss (fJ c d);rw[z]at d1 d2;have z1:=Int.zero_dvd.mp d1;have z2:=Int.zero_dvd.mp d2;obtain⟨c1,c2⟩:=Zi hc hd;rw[z1]at c1;rw[z2]at c2;have m:=Rat.mul_pos hc.p hd.p;have n0:((aF c).2.2:Rat)*((aF d).2.2:Rat)≠0:=by grind
 have e1:(aM (vq c,vq d)).2=0:=by
  have:((aF c).2.2:Rat)*((aF d).2.2:Rat)*(aM (vq c,vq d)).2=0:=by push_cast at c1;grind
  exact(Rat.mul_eq_zero.mp this).resolve_left n0
 have e2:(aM (vq c,vq d)).1=0:=by
  have:((aF c).2.2:Rat)*((aF d).2.2:Rat)*(aM (vq c,vq d)).1=0:=by push_cast at c2;grind
  exact(Rat.mul_eq_zero.mp this).resolve_left n0
 unfold aP at h;rw[e1,e2]at h;grind
theorem tH{ns:List Int}{x:Int}(h:x∈ns):x<=zK ns:=by
 cases ns with
 |nil=>simp at h
 |cons n ns=>
  obtain⟨_,h2,h3⟩:=L2.uF ns n;obtain rfl|h:=MJ.mp h
  ·exact h2
  ·exact h3 x h
theorem tI{ns:List Int}{x:Int}(h:x∈ns):zN ns<=x:=by
 cases ns with
 |nil=>simp at h
 |cons n ns=>
  obtain⟨_,h2,h3⟩:=L2.uG ns n;obtain rfl|h:=MJ.mp h
  ·exact h2
  ·exact h3 x h
theorem DJ{N a w a' w':Int}{x y:Rat}(hN:0<N)(hw:1<=w)(yf:1<=w')(ha:(a:Rat)=x*(w:Rat))(ha':(a':Rat)=y*(w':Rat))(h:(a*N).fdiv w<(a'*N).fdiv w'):x<y:=by
 rw[QH _ ⋯,QH _ ⋯]at h;have h1:a*N<(a*N/w+1)*w:=Int.lt_ediv_add_one_mul_self _ ⋯;have h2:a'*N/w'*w'<=a'*N:=Int.ediv_mul_le _ ⋯;generalize a*N/w=F at h h1;generalize a'*N/w'=G at h h2;have p1:(0:Rat)<(w:Rat):=by exact_mod_cast (show(0:Int)<w by lia)
 have p2:(0:Rat)<(w':Rat):=by exact_mod_cast (show(0:Int)<w' by lia)
 have q1:(a:Rat)*(N:Rat)<((F:Rat)+1)*(w:Rat):=by exact_mod_cast h1
 have q2:(G:Rat)*(w':Rat)<=(a':Rat)*(N:Rat):=by exact_mod_cast h2
 have q3:(F:Rat)+1<=(G:Rat):=by exact_mod_cast (show F+1<=G by lia)
 rw[ha]at q1;rw[ha']at q2;have r1:0<((F:Rat)+1-x*(N:Rat))*(w:Rat):=by grind
 have r2:0<=(y*(N:Rat)-(G:Rat))*(w':Rat):=by grind
 have s1:=bF p1 r1;have s2:=dM p2 r2;have n0:(0:Rat)<(N:Rat):=by exact_mod_cast hN
 have:0<(y-x)*(N:Rat):=by grind
 have:=bF n0 this;grind
theorem Za{a w a' w':Int}{x y:Rat}(hw:1<=w)(yf:1<=w')(ha:(a:Rat)=x*(w:Rat))(ha':(a':Rat)=y*(w':Rat))(h:(a*65536).fdiv w<(a'*65536).fdiv w'):x<y:=DJ (N:=65536) ∅ hw yf ha ha' h
theorem Jh{a b c t:Rat}(h:c<a)(k:c<b)(t0:0<=t)(t1:t<=1):c<a+(b-a)*t:=by
 rcases Rat.le_total (a:=a) (b:=b)with q|q
 ·have:=Rat.mul_nonneg (show 0<=b-a by grind) t0;grind
 ·have:=Rat.mul_nonneg (show 0<=a-b by grind) (show 0<=1-t by grind);grind
theorem Qt{a b c t:Rat}(h:a<c)(k:b<c)(t0:0<=t)(t1:t<=1):a+(b-a)*t<c:=by
 have:=Jh (a:=-a) (b:=-b) (c:=-c) (t:=t) (by grind) (by grind) t0 t1;grind
theorem Nf(hb:GB b.o)(hp:lG p)(hq:lG q)(h:nL (a9 b).b (eQ p q).b=true){t:Rat}(t0:0<=t)(t1:t<=1)(k:Bg (d5 b.o) (dE (vq p) (vq q) t)):False:=by
 have box:=λw=>hb.cx.box hb.es w k;have zv:∀g∈d5 b.o,∃c∈b.o,g.1=vq c:=λg m=>by
  obtain⟨x,mx,rfl⟩:=MH.mp m;exact⟨x.1,(k8 mx).1,rfl⟩
 have bx:∀c∈b.o,(t9 (b.o.map aF)).1<=((aF c).1*65536).fdiv (aF c).2.2/\((aF c).1*65536).fdiv (aF c).2.2<=(t9 (b.o.map aF)).2.2.1/\(t9 (b.o.map aF)).2.1<=((aF c).2.1*65536).fdiv (aF c).2.2/\((aF c).2.1*65536).fdiv (aF c).2.2<=(t9 (b.o.map aF)).2.2.2:=λc m=>by
  have mx:((aF c).1*65536).fdiv (aF c).2.2∈Qi (b.o.map aF):=by unfold Qi;rw[MY];exact MH.mpr ⟨c,m,rfl⟩
  have my:((aF c).2.1*65536).fdiv (aF c).2.2∈Qj (b.o.map aF):=by unfold Qj;rw[MY];exact MH.mpr ⟨c,m,rfl⟩
  exact⟨tI mx,tH mx,tI my,tH my⟩
 have sx:∀r,(r=p\/r=q)->((aF r).1*65536).fdiv (aF r).2.2∈Qi [aF p,aF q]:=λr hr=>by
  unfold Qi;rcases hr with rfl|rfl<;>simp
 have sy:∀r,(r=p\/r=q)->((aF r).2.1*65536).fdiv (aF r).2.2∈Qj [aF p,aF q]:=λr hr=>by
  unfold Qj;rcases hr with rfl|rfl<;>simp
 have pf:∀r,(r=p\/r=q)->lG r:=λr hr=>by rcases hr with rfl|rfl<;>assumption
 unfold nL at h;simp only[TZ,decide_eq_true_eq]at h;have h':(t9 (b.o.map aF)).2.2.1<zN (Qi [aF p,aF q])\/zK (Qi [aF p,aF q])<(t9 (b.o.map aF)).1\/(t9 (b.o.map aF)).2.2.2<zN (Qj [aF p,aF q])\/zK (Qj [aF p,aF q])<(t9 (b.o.map aF)).2.1:=by
  obtain ((h|h)|h)|h:=h
  ·exact .inl h
  ·exact .inr (.inl h)
  ·exact .inr (.inr (.inl h))
  ·exact .inr (.inr (.inr h))
 obtain h|h|h|h:=h'
 ·obtain⟨g,mg,le⟩:=box (1,0);obtain⟨c,mc,ec⟩:=zv g mg;rw[ec]at le;have hc:=hb.sp c mc;have lt:∀r,(r=p\/r=q)->val c.1<val r.1:=λr hr=>Za hc.w (pf r hr).w hc.x (pf r hr).x (by have:=(bx c mc).2.1;have:=tI (sx r hr);omega);have:=Jh (lt p (.inl rfl)) (lt q (.inr rfl)) t0 t1;unfold aP dE vq at le;grind
 ·obtain⟨g,mg,le⟩:=box (-1,0);obtain⟨c,mc,ec⟩:=zv g mg;rw[ec]at le;have hc:=hb.sp c mc;have lt:∀r,(r=p\/r=q)->val r.1<val c.1:=λr hr=>Za (pf r hr).w hc.w (pf r hr).x hc.x (by have:=(bx c mc).1;have:=tH (sx r hr);omega);have:=Qt (lt p (.inl rfl)) (lt q (.inr rfl)) t0 t1;unfold aP dE vq at le;grind
 ·obtain⟨g,mg,le⟩:=box (0,1);obtain⟨c,mc,ec⟩:=zv g mg;rw[ec]at le;have hc:=hb.sp c mc;have lt:∀r,(r=p\/r=q)->val c.2<val r.2:=λr hr=>Za hc.w (pf r hr).w hc.y (pf r hr).y (by have:=(bx c mc).2.2.2;have:=tI (sy r hr);omega);have:=Jh (lt p (.inl rfl)) (lt q (.inr rfl)) t0 t1;unfold aP dE vq at le;grind
 ·obtain⟨g,mg,le⟩:=box (0,-1);obtain⟨c,mc,ec⟩:=zv g mg;rw[ec]at le;have hc:=hb.sp c mc;have lt:∀r,(r=p\/r=q)->val r.2<val c.2:=λr hr=>Za (pf r hr).w hc.w (pf r hr).y hc.y (by have:=(bx c mc).2.2.1;have:=tH (sy r hr);omega);have:=Qt (lt p (.inl rfl)) (lt q (.inr rfl)) t0 t1;unfold aP dE vq at le;grind
structure HU(es:List Eg)(p q:Q2)(r:Fr×Fr×Nat):Prop where
 d1:1<=r.1.2
 d2:1<=r.2.1.2
 lt:val r.1<val r.2.1
 l0:0<=val r.1
 h1:val r.2.1<=1
 s:∀t,0<=t->t<=1->(Bg es (dE p q t)↔val r.1<=t/\t<=val r.2.1)
 lo:r.1=(0,1)\/(0<val r.1/\∃e∈es,fE e p<0/\0<fE e q/\fE e (dE p q (val r.1))=0)
 hi:r.2.1=(1,1)\/(val r.2.1<1/\∃e∈es,0<fE e p/\fE e q<0/\fE e (dE p q (val r.2.1))=0)
 h:(r.2.2=0/\∀e∈es,¬(fE e p=0/\fE e q=0))\/((∃e∈es,fE e p=0/\fE e q=0)/\(r.2.2=1\/r.2.2=2)/\∀e∈es,fE e p=0->fE e q=0->(r.2.2=1↔0<aP (aM e) (aR q p)))
theorem Kz(b:jH):(a9 b).ls=(zr b.o).map λx=>cO (fJ x.1 x.2):=by
 show(cV b.o).map cO=_;rw[qT,MY];rfl
theorem Uu(hb:GB b.o)(hp:lG p)(hq:lG q)(t:Rat):(∀l∈(a9 b).ls,0<=lF (aF p) (aF q) l t)↔Bg (d5 b.o) (dE (vq p) (vq q) t):=by
 rw[Kz];unfold Bg d5;constructor
 ·intro h e m;obtain⟨x,mx,rfl⟩:=MH.mp m;obtain⟨m1,m2⟩:=k8 mx;obtain⟨k,k0,hk⟩:=M9 (hb.sp _ m1) (hb.sp _ m2) hp hq (pQ (hb.sp _ m1) (hb.sp _ m2) (hb.cx.ne _ (MH.mpr ⟨x,mx,rfl⟩)));have:=h _ (MH.mpr ⟨x,mx,rfl⟩);rw[hk]at this;exact dM k0 this
 ·intro h l m;obtain⟨x,mx,rfl⟩:=MH.mp m;obtain⟨m1,m2⟩:=k8 mx;obtain⟨k,k0,hk⟩:=M9 (hb.sp _ m1) (hb.sp _ m2) hp hq (pQ (hb.sp _ m1) (hb.sp _ m2) (hb.cx.ne _ (MH.mpr ⟨x,mx,rfl⟩)));rw[hk];exact Rat.mul_nonneg (h _ (MH.mpr ⟨x,mx,rfl⟩)) (Rat.le_of_lt k0)
theorem Pd(hb:GB b.o)(hp:lG p)(hq:lG q)(h:aW (a9 b) (eQ p q)=none){t1 t2:Rat}(k0:0<=t1)(k:t1<t2)(k1:t2<=1)(i1:Bg (d5 b.o) (dE (vq p) (vq q) t1))(i2:Bg (d5 b.o) (dE (vq p) (vq q) t2)):False:=by
 unfold aW at h;split at h
 ·rename_i c;exact Nf hb hp hq c k0 (by grind) i1
 ·have j1:=(Uu hb hp hq t1).mpr i1;have j2:=(Uu hb hp hq t2).mpr i2;cases g:lX (eQ p q).p (eQ p q).q (eQ p q).l (a9 b).ls (0,1) (1,1) 0 with
  |none=>exact pX _ _ _ _ g t1 t2 k0 k k1 j1 j2
  |some r=>
   rw[g]at h;have o:=mP _ _ _ _ r g ∅ ∅;unfold xW at h;simp only at h;split at h
   ·cases h
   ·rename_i c;have c':=mt (gX o.d1 o.d2).mpr c;have a1:=(o.s t1 k0 (by grind)).mp ⟨by rw[fA];exact k0,by rw[jP];grind,j1⟩;have a2:=(o.s t2 (by grind) k1).mp ⟨by rw[fA];grind,by rw[jP];exact k1,j2⟩;grind
theorem mQ(hb:GB b.o)(hp:lG p)(hq:lG q)(ne:0<aP (aR (vq q) (vq p)) (aR (vq q) (vq p)))(h:aW (a9 b) (eQ p q)=oZ r):HU (d5 b.o) (vq p) (vq q) r:=by
 unfold aW at h;split at h
 ·cases h
 cases g:lX (eQ p q).p (eQ p q).q (eQ p q).l (a9 b).ls (0,1) (1,1) 0 with
 |none=>rw[g]at h;cases h
 |some r'=>
  rw[g]at h;have o:=mP _ _ _ _ r' g ∅ ∅;unfold xW at h;simp only at h;split at h
  ·rename_i c;cases h;have lt:=(gX o.d1 o.d2).mp c;have hpq:g3 (fJ p q)≠0:=pQ hp hq ne
   -- a line and XD kq
   have kq:∀l∈(a9 b).ls,∃x∈zr b.o,l=cO (fJ x.1 x.2)/\(vq x.1,vq x.2)∈d5 b.o/\lG x.1/\lG x.2/\g3 (fJ x.1 x.2)≠0/\∃k:Rat,0<k/\(lA (aF p) (aF q) l:Rat)=k*fE (vq x.1,vq x.2) (vq p)/\(lB (aF p) (aF q) l:Rat)=k*fE (vq x.1,vq x.2) (vq q):=λl m=>by
    rw[Kz]at m;obtain⟨x,mx,rfl⟩:=MH.mp m;obtain⟨m1,m2⟩:=k8 mx;have me:(vq x.1,vq x.2)∈d5 b.o:=MH.mpr ⟨x,mx,rfl⟩;have gn:=pQ (hb.sp _ m1) (hb.sp _ m2) (hb.cx.ne _ me);exact⟨x,mx,rfl,me,hb.sp _ m1,hb.sp _ m2,gn,Cg (hb.sp _ m1) (hb.sp _ m2) hp hq gn⟩
   have l0:0<=val r.1:=by
    obtain e|⟨e,_⟩:=o.lo
    ·rw[e,fA];grind
    ·rw[fA]at e;grind
   have h1:val r.2.1<=1:=by
    obtain e|⟨e,_⟩:=o.hi
    ·rw[e,jP];grind
    ·rw[jP]at e;grind
   have sgn:∀{k f:Rat}{i:Int},0<k->(i:Rat)=k*f->(i<0↔f<0)/\(0<i↔0<f)/\(i=0↔f=0):=λ{k f i}k0 e=>by
    have p1:=rK (a:=f) k0;have p2:=rK (a:=-f) k0;have i1:(0:Rat)<(i:Rat)↔0<i:=by norm_cast
    have i2:(i:Rat)<0↔i<0:=by norm_cast
    have c1:0<i↔0<f:=by rw[<-i1,e];grind
    have c2:i<0↔f<0:=by rw[<-i2,e];grind
    refine⟨c2,c1,?_⟩;constructor
    ·intro z;have:=mt c1.mpr ⋯;have:=mt c2.mpr ⋯;grind
    ·intro z;have:=mt c1.mp (by grind);have:=mt c2.mp (by grind)
     lia
   have zro:∀{k:Rat}{x:Pt×Pt}{l:I3}{t:Rat},0<k->(lA (aF p) (aF q) l:Rat)=k*fE (vq x.1,vq x.2) (vq p)->(lB (aF p) (aF q) l:Rat)=k*fE (vq x.1,vq x.2) (vq q)->lF (aF p) (aF q) l t=0->fE (vq x.1,vq x.2) (dE (vq p) (vq q) t)=0:=λ{k x l t}k0 a1 a2 z=>by
    unfold lF Bd at z;rw[a1,a2]at z;rw[lU];have:k*(fE (vq x.1,vq x.2) (vq p)+(fE (vq x.1,vq x.2) (vq q)-fE (vq x.1,vq x.2) (vq p))*t)=0:=by grind
    exact(Rat.mul_eq_zero.mp this).resolve_left (by grind)
   refine⟨o.d1,o.d2,lt,l0,h1,λt t0 t1=>?_,?_,?_,?_⟩
   ·rw[<-Uu hb hp hq t,<-o.s t t0 t1,fA,jP];exact⟨λz=>⟨t0,t1,z⟩,λz=>z.2.2⟩
   ·obtain e|⟨e,l,ml,z1,z2,z3⟩:=o.lo
    ·exact .inl e
    ·rw[fA]at e;obtain⟨x,_,_,me,_,_,_,k,k0,a1,a2⟩:=kq l ml;exact .inr ⟨e,_,me,(sgn k0 a1).1.mp z1,(sgn k0 a2).2.1.mp z2,zro k0 a1 a2 z3⟩
   ·obtain e|⟨e,l,ml,z1,z2,z3⟩:=o.hi
    ·exact .inl e
    ·rw[jP]at e;obtain⟨x,_,_,me,_,_,_,k,k0,a1,a2⟩:=kq l ml;have s1:=(sgn k0 a1).2.1.mp z1;have s2:=(sgn k0 a2).1.mp z2;have s3:=zro k0 a1 a2 z3;refine .inr ⟨?_,_,me,s1,s2,s3⟩;rw[lU]at s3
     by_cases c:val r.2.1=1
     ·rw[c]at s3;grind
     ·grind
   ·obtain⟨e,hz⟩|⟨l,ml,z1,z2,e⟩:=o.h
    ·refine .inl ⟨e,λg mg zz=>?_⟩;obtain⟨x,mx,rfl⟩:=MH.mp mg;have ml:cO (fJ x.1 x.2)∈(a9 b).ls:=by rw[Kz];exact MH.mpr ⟨x,mx,rfl⟩
     obtain⟨m1,m2⟩:=k8 mx;obtain⟨k,k0,a1,a2⟩:=Cg (hb.sp _ m1) (hb.sp _ m2) hp hq (pQ (hb.sp _ m1) (hb.sp _ m2) (hb.cx.ne _ mg));exact hz _ ml ⟨(sgn k0 a1).2.2.mpr zz.1,(sgn k0 a2).2.2.mpr zz.2⟩
    ·obtain⟨x,mx,el,me,sc,sd,gn,k,k0,a1,a2⟩:=kq l ml;have f1:=(sgn k0 a1).2.2.mp z1;have f2:=(sgn k0 a2).2.2.mp z2;have le:=zJ sc sd hp hq gn hpq (hb.cx.ne _ me) f1 f2;rw[el]at e;have e':r.2.2=if cO (fJ x.1 x.2)=cO (fJ p q)then 1 else 2:=e;refine .inr ⟨⟨_,me,f1,f2⟩,by rw[e'];split<;>simp,λg mg g1 g2=>?_⟩;have or1:=hb.cx.orient me mg f1 f2 g1 g2 ne;have or2:=hb.cx.orient mg me g1 g2 f1 f2 ne;rw[e']
     split
     ·rename_i c;exact⟨λ_=>or1 (le.mp c),λ_=>rfl⟩
     ·rename_i c;exact⟨λz=>absurd z ∅,λz=>absurd (le.mpr (or2 z)) c⟩
  ·cases h
structure NP(p:Pt):Prop where
 x:dJ p.1
 y:dJ p.2
theorem NP.spt(h:NP p):lG p:=My.spt h.x h.y
section
variable{P:UU}{w:UY}{K:W.Frag}{mg:Str->Option oA}{base:oE}
abbrev lM(P w K mg base):=(~~~Fn) 1 "_law_frac" ["_law_n","_law_d"] (aQ K J7)
abbrev Ag:UZ:=top 47
theorem qG:aK ["_law_n","_law_d","_law_one","_law_other"] ["_law_n","_law_d"] (aC Ag):=iG
theorem Um(F:dY K "_law_frac" "_law_frac" Ag f fd)(TX:Txt mg):(~~~bE) eT 1 f fd ["_law_n","_law_d"] (aQ K J7):=by
 refine F.okU qG (λhr=>(aB (kI (i:=2) (j:=3) rfl qG.nd rfl rfl ∅ rfl rfl (f2 (qW rfl TX.n_abs (f1 (fv 0))) (qW rfl TX.n_abs (f1 (fv 1)))) rfl) (aB (uI PassesOwn.never (fP uU (fv 3) aA) (aG (kI (i:=2) (j:=3) rfl qG.nd rfl rfl ∅ rfl rfl (f2 (fv 3) (aL kM (fv 2) (fv 3))) rfl))) (aB (fS 2 qG.nd (aL aO (fv 2) (pO (fP uU (fv 1) aA) aA (qX aA)))) (aG (aN (aH (f2 (aL dA (fv 0) (fv 2)) (aL dA (fv 1) (fv 2)))))))))) ?_;rintro as Q ⟨n,d,rfl,hd,hb,q⟩;refine⟨λm E=>∃(x y:Nat),E=[↑n,↑d,↑x,↑y]/\m=y/\NX x y=NX n.natAbs d.natAbs,⟨_,_,_,rfl,rfl,rfl⟩,?_⟩;rintro m E ⟨x,y,rfl,rfl,hg⟩;show if decide ((0:Int)<(m:Int))=true then _ else _
 by_cases hy:(0:Int)<(m:Int)
 ·rw[oY hy,oV rfl];exact⟨hy,x%m,RO _ ⋯,m,x%m,rfl,rfl,by rw[Cf];exact hg⟩
 ·rw[oX hy,oW ∅];obtain rfl:m=0:=⋯
  rw[Nat.gcd_zero_right]at hg;subst hg;have dn:((NX n.natAbs d.natAbs:Nat):Int)∣n:=OB.mpr (PF _ _);have dd:((NX n.natAbs d.natAbs:Nat):Int)∣d:=OB.mpr (PJ _ _);have g0:((NX n.natAbs d.natAbs:Nat):Int)≠0:=(pI (i:=0) (n:=n) hd hb).1;have zB:∀{g m:Int},g≠0->g∣m->m.fdiv (-g)=(-m)/g:=λ{g m}h0 hm=>by
   obtain⟨k,rfl⟩:=hm;have e1:g*k=(-g)*(-k):=by grind
   have e2:-(g*k)=g*(-k):=by grind
   rw[e2,OU _ h0,e1,TL _ ⋯]
  show if decide (0<d)=true then _ else _
  by_cases h:0<d
  ·rw[oY h,oV rfl];have e1:((NX n.natAbs d.natAbs:Nat):Int)*1=((NX n.natAbs d.natAbs:Nat):Int):=Int.mul_one _;refine⟨wG ∅,?_⟩;rw[e1];refine⟨pI hd hb,pI hd hb,rfl,?_⟩;unfold low sQ m6 at q;rw[oV h,oV h,<-pM,<-pM]at q;exact q
  ·rw[oX h,oW ∅];have e1:((NX n.natAbs d.natAbs:Nat):Int) * -1 = -((NX n.natAbs d.natAbs:Nat):Int):=⋯
   refine⟨wG ∅,?_⟩;rw[e1];have cz:∀i:Int,r8 i (-((NX n.natAbs d.natAbs:Nat):Int)):=λi=>⟨⋯,by rw[QL];exact(pI (i:=i) (n:=n) hd hb).2⟩;refine⟨cz _,cz _,rfl,?_⟩;unfold low sQ m6 at q;rw[oW h,oW h,<-zB g0 dn,<-zB g0 dd]at q;exact q
abbrev o7(P w K mg base):=(~~~Fn) 2 "_law_sum" oH (aQ K (sT eM))
abbrev Ic:UZ:=top 48
theorem J1:aK oH oH (aC Ic):=iG
theorem Zv(F:dY K "_law_sum" "_law_sum" Ic f fd)(TX:Txt mg)(XT: ~~~lM):(~~~bE) eT 2 f fd oH (aQ K (sT eM)):=by
 refine F.okU J1 (λhr=>(aG (aN (fK XT (f2 (aY b8 (aL aO (fQ 0) (fQ 1)) (aL aO (fQ 1) (fQ 0))) (aL aO (fQ 0) (fQ 1))))))) ?_;rintro as Q ⟨x,y,rfl,hx,hy,hs,q⟩;have hd:(x.2*y.2).natAbs<2^8000:=pY (bC (bV x) (bV y)) ⋯;exact⟨eN (e:=7900) (pl (eZ x) ⋯) (pl (bV y) ⋯) ∅,eN (e:=7900) (pl (eZ y) ⋯) (pl (bV x) ⋯) ∅,eN (e:=7900) (pl (bV x) ⋯) (pl (bV y) ⋯) ∅,_,_,rfl,fN hx hy,hd,rfl,q⟩
abbrev tV(P w K mg base):=(~~~Fn) 2 "_law_less" oH (aQ K (sT dO))
abbrev Ai:UZ:=top 50
theorem We:aK oH oH (aC Ai):=iG
theorem Up(F:dY K "_law_less" "_law_less" Ai f fd)(TX:Txt mg)(XT: ~~~lM):(~~~bE) eT 2 f fd oH (aQ K (sT dO)):=by
 refine F.okU We (λhr=>(aG (aN (fK XT (f2 (aY iW (aL aO (fQ 0) (fQ 1)) (aL aO (fQ 1) (fQ 0))) (aL aO (fQ 0) (fQ 1))))))) ?_;rintro as Q ⟨x,y,rfl,hx,hy,hs,q⟩;have hd:(x.2*y.2).natAbs<2^8000:=pY (bC (bV x) (bV y)) ⋯;exact⟨eN (e:=7900) (pl (eZ x) ⋯) (pl (bV y) ⋯) ∅,eN (e:=7900) (pl (eZ y) ⋯) (pl (bV x) ⋯) ∅,eN (e:=7900) (pl (bV x) ⋯) (pl (bV y) ⋯) ∅,_,_,rfl,fN hx hy,hd,rfl,q⟩
abbrev iK(P w K mg base):=(~~~Fn) 2 "_law_product" oH (aQ K (sT eV))
abbrev nU:UZ:=top 49
theorem Ds:aK oH oH (aC nU):=iG
theorem Cw(F:dY K "_law_product" "_law_product" nU f fd)(TX:Txt mg)(XT: ~~~lM):(~~~bE) eT 2 f fd oH (aQ K (sT eV)):=by
 refine F.okU Ds (λhr=>(aG (aN (fK XT (f2 (aL aO (fQ 0) (fQ 1)) (aL aO (fQ 0) (fQ 1))))))) ?_;rintro as Q ⟨x,y,rfl,hx,hy,hs,q⟩;have hd:(x.2*y.2).natAbs<2^8000:=pY (bC (bV x) (bV y)) ⋯;exact⟨eN (e:=7900) (pl (eZ x) ⋯) (pl (eZ y) ⋯) ∅,eN (e:=7900) (pl (bV x) ⋯) (pl (bV y) ⋯) ∅,_,_,rfl,fN hx hy,hd,rfl,q⟩
abbrev sU(P w K mg base):=(~~~Fn) 3 "_law_add" oH (aQ K Mq)
abbrev Hy:UZ:=top 51
theorem H0:aK oH oH (aC Hy):=iG
theorem Zr(F:dY K "_law_add" "_law_add" Hy f fd)(TX:Txt mg)(YC: ~~~o7):(~~~bE) eT 3 f fd oH (aQ K Mq):=by
 refine F.okU H0 (λhr=>(aG (aN (aH (f2 (fK YC (f2 (fQ 0) (fQ 1))) (fK YC (f2 (fQ 0) (fQ 1)))))))) ?_;rintro as Q ⟨x,y,p,q,e,f,rfl,h,k,hs,z⟩;have:=h.sx;have:=h.sy;have:=k.sx;have:=k.sy;exact⟨_,_,rfl,h.x,k.x,⋯,_,_,rfl,h.y,k.y,⋯,rfl,z⟩
abbrev sV(P w K mg base):=(~~~Fn) 3 "_law_sub" oH (aQ K Aw)
abbrev Ib:UZ:=top 52
theorem J0:aK oH oH (aC Ib):=iG
theorem Zu(F:dY K "_law_sub" "_law_sub" Ib f fd)(TX:Txt mg)(YV: ~~~tV):(~~~bE) eT 3 f fd oH (aQ K Aw):=by
 refine F.okU J0 (λhr=>(aG (aN (aH (f2 (fK YV (f2 (fQ 0) (fQ 1))) (fK YV (f2 (fQ 0) (fQ 1)))))))) ?_;rintro as Q ⟨x,y,p,q,e,f,rfl,h,k,hs,z⟩;have:=h.sx;have:=h.sy;have:=k.sx;have:=k.sy;exact⟨_,_,rfl,h.x,k.x,⋯,_,_,rfl,h.y,k.y,⋯,rfl,z⟩
abbrev jR(P w K mg base):=(~~~Fn) 3 "_law_scaled_by" ["_law_vector","_law_share"] (aQ K tN)
abbrev kS:UZ:=top 53
theorem wN:aK ["_law_vector","_law_share"] ["_law_vector","_law_share"] (aC kS):=iG
theorem wK(F:dY K "_law_scaled_by" "_law_scaled_by" kS f fd)(TX:Txt mg)(XG: ~~~iK):(~~~bE) eT 3 f fd ["_law_vector","_law_share"] (aQ K tN):=by
 refine F.okU wN (λhr=>(aG (aN (aH (f2 (fK XG (f2 (fQ 0) (fv 1))) (fK XG (f2 (fQ 0) (fv 1)))))))) ?_;rintro as Q ⟨x,y,b,e,rfl,h,hb,hs,q⟩;have:=h.sx;have:=h.sy;exact⟨_,_,rfl,h.x,hb,⋯,_,_,rfl,h.y,hb,⋯,rfl,q⟩
abbrev qQ(P w K mg base):=(~~~Fn) 3 "_law_cross" oH (aQ K (BR gY))
abbrev vI:UZ:=top 54
theorem Pn:aK oH oH (aC vI):=iG
theorem Ox(F:dY K "_law_cross" "_law_cross" vI f fd)(TX:Txt mg)(YV: ~~~tV)(XG: ~~~iK):(~~~bE) eT 3 f fd oH (aQ K (BR gY)):=by
 refine F.okU Pn (λhr=>(aG (aN (fK YV (f2 (fK XG (f2 (fQ 0) (fQ 1))) (fK XG (f2 (fQ 0) (fQ 1)))))))) ?_;rintro as Q ⟨x,y,x',y',e,f,rfl,h,k,he,q⟩;have:=h.sx;have:=h.sy;have:=k.sx;have:=k.sy;have n1:=bX h.x k.y;have n2:=bX h.y k.x;have s1:=k6 h.x k.y;have s2:=k6 h.y k.x;exact⟨_,_,rfl,h.x,k.y,⋯,_,_,rfl,h.y,k.x,⋯,_,_,rfl,n1,n2,⋯,rfl,q⟩
abbrev yJ(P w K mg base):=(~~~Fn) 3 "_law_dot" oH (aQ K (BR nN))
abbrev Hz:UZ:=top 55
theorem I0:aK oH oH (aC Hz):=iG
theorem Zs(F:dY K "_law_dot" "_law_dot" Hz f fd)(TX:Txt mg)(YC: ~~~o7)(XG: ~~~iK):(~~~bE) eT 3 f fd oH (aQ K (BR nN)):=by
 refine F.okU I0 (λhr=>(aG (aN (fK YC (f2 (fK XG (f2 (fQ 0) (fQ 1))) (fK XG (f2 (fQ 0) (fQ 1)))))))) ?_;rintro as Q ⟨x,y,x',y',e,f,rfl,h,k,he,q⟩;have:=h.sx;have:=h.sy;have:=k.sx;have:=k.sy;have n1:=bX h.x k.x;have n2:=bX h.y k.y;have s1:=k6 h.x k.x;have s2:=k6 h.y k.y;exact⟨_,_,rfl,h.x,k.x,⋯,_,_,rfl,h.y,k.y,⋯,_,_,rfl,n1,n2,⋯,rfl,q⟩
def hf(n:Int):Fr:=low n 2
theorem lH(n:Int):dJ (hf n):=kK ∅
theorem rD(n:Int):val (hf n)=(n:Rat)*(1/2):=by
 unfold hf;rw[mT ∅]
 push_cast
 grind
theorem Sz{n:Int}(h:n.natAbs<2^e)(he:2<=e):sz (hf n)<=e:=rX ∅ h (NC (show(2:Int).natAbs<2^2 by decide) (OX ∅ he)) ⋯
theorem Sw(n a:Int):eM (hf n) (a,1)=hf (n+2*a):=by
 refine eR (iF (lH n) (dQ a)) (lH _) ?_;rw[gP (lH n) (dQ a),rD,rD,k7]
 push_cast
 grind
def Ms:iO:=λas Q=>∃(xs:List L2.T)(w n:Int),as=[.b xs,.v (.int w)]/\Bx xs n/\n<=900000/\1<=w/\w<=10/\∀X Y ys,-(2*w)<=X->X<2*w->-(2*w)<=Y->Y<2*w->Bx ys (n+2)->Q (.v (pt (hf X,hf Y))) ys
abbrev sA(P w K mg base):=(~~~Fn) 2 "_law_spot_at" oI (aQ K Ms)
abbrev nV:UZ:=top 57
theorem Dt:aK oI oI (aC nV):=iG
theorem Cy(F:dY K "_law_spot_at" "_law_spot_at" nV f fd)(TX:Txt mg)(XQ: ~~~o9)(XT: ~~~lM):(~~~bE) eT 2 f fd oI (aQ K Ms):=by
 refine F.okU Dt (λhr=>(aG (aN (aH (f2 (fK XT (f2 (aY iW (fB XQ (f2 (fv 0) (aL aO aA (fv 1)))) (aL aO aA (fv 1))) aA)) (fK XT (f2 (aY iW (fB XQ (f2 (fv 0) (aL aO aA (fv 1)))) (aL aO aA (fv 1))) aA))))))) ?_;rintro as Q ⟨xs,w,n,rfl,bx,hn,w1,w2,q⟩;obtain⟨A0,B0,c0,rfl,_⟩:=id bx;refine⟨wF ∅,_,4*w,n,rfl,bx,⋯,⋯,⋯,λr1 y1 a1 a2 b1=>?_⟩;obtain⟨A1,B1,c1,rfl,_⟩:=id b1;refine⟨wF ∅,_,_,rfl,∅,∅,?_⟩;refine⟨wF ∅,_,4*w,n+1,rfl,b1,⋯,⋯,⋯,λr2 y2 a3 a4 b2=>?_⟩;obtain⟨A2,B2,c2,rfl,_⟩:=id b2;refine⟨wF ∅,_,_,rfl,∅,∅,?_⟩;exact⟨rfl,q (r1-2*w) (r2-2*w) _ ⋯ ⋯ ⋯ ⋯ (b2.mono ⋯)⟩
def gC(x y:Int):Nat->List (Int×Int)
 |0=>[(0,0),(x,0),(x,y),(0,y)]
 |1=>[(0,0),(x,1),(x+1,y+2),(1,y+1)]
 |2=>[(0,0),(x,0),(0,y)]
 |3=>[(0,0),(x,0),(x+1,0),(x+1,y),(0,y)]
 |_=>[(1,0),(x+1,0),(x+2,1),(x+2,y+1),(x+1,y+2),(0,1)]
def fR(X Y:Int)(cs:List (Int×Int)):List Pt:=cs.map λc=>(hf (X+2*c.1),hf (Y+2*c.2))
structure HS(m:Str)(n:Nat):Prop where
 len:m.cps.size=n
 all:∀c∈m.cps.toList,c∈("lrbe-":Str).cps.toList
structure LB(M:Int)(b:jH):Prop where
 ex:∃(w:Nat)(x y X Y:Int),w<5/\1<=x/\x<=6/\1<=y/\y<=6/\X.natAbs<=M/\Y.natAbs<=M/\b.o=fR X Y (gC x y w)
 m:HS b.m b.o.length
 w:(b.w.length<=9000/\∀c∈b.w.cps.toList,c<16^8)/\b.n.natAbs<=100
theorem Lx{x y:Int}(hx:1<=x)(vi:x<=6)(hy:1<=y)(hy':y<=6)(w:Nat):∀c∈gC x y w,0<=c.1/\c.1<=8/\0<=c.2/\c.2<=8:=by
 intro c m
 match w with
 |0|1|2|3|_+4=>
  simp only[gC,MJ,PU,or_false,Prod.ext_iff]at m
  lia
theorem Aq(x y:Int)(w:Nat):3<=(gC x y w).length/\(gC x y w).length<=6:=by
 match w with
 |0|1|2|3|_+4=>simp only[gC,MS,OZ];lia
def AE(c:Int×Int):L2.T:=.tup [.int c.1,.int c.2]
def JJ(x y:Int):List L2.T:=[L2.T.lst ((gC x y 0).map AE),.lst ((gC x y 1).map AE),.lst ((gC x y 2).map AE),.lst ((gC x y 3).map AE),.lst ((gC x y 4).map AE)]
theorem DV{r:Int}(h:0<=r)(k:r<5):∃c∈("lrbe-":Str).cps.toList,jY ("lrbe-":Str).cps.toList r=oZ c:=by
 have:r=0\/r=1\/r=2\/r=3\/r=4:=⋯
 obtain rfl|rfl|rfl|rfl|rfl:=this
 ·exact⟨_,∅,rfl⟩
 ·exact⟨_,∅,rfl⟩
 ·exact⟨_,∅,rfl⟩
 ·exact⟨_,∅,rfl⟩
 ·exact⟨_,∅,rfl⟩
theorem xV{X Y:Int}(h:X.natAbs<2^15)(k:Y.natAbs<2^15):Nv (hf X) (hf Y) 15:=⟨lH _,lH _,Sz h ∅,Sz k ∅⟩
theorem Uh{a b:Int}(h:a.natAbs<2^15)(k:b.natAbs<2^15):Nv (a,1) (b,1) 15:=⟨dQ _,dQ _,mJ h (show(1:Int).natAbs<2^15 by decide) ∅,mJ k (show(1:Int).natAbs<2^15 by decide) ∅⟩
def wM(cs:List Nat):List Str:=cs.map λc=>⟨#[c]⟩
theorem W5:∀cs:List Nat,cs.length=6->JoinOk (PZ "") (wM cs)=true/\∃m:Str,Txt.join (PZ "") (wM cs)=m/\m.length<=big/\∀n:Nat,3<=n->n<=6->(RM m none (oZ (n:Int))).cps.toList=cs.take n
 |[a,b,c,d,e,f],_=>by
  refine⟨rfl,⟨#[a,b,c,d,e,f]⟩,rfl,(show 6<=big by decide),λn h1 h2=>?_⟩;have:n=3\/n=4\/n=5\/n=6:=⋯
  obtain rfl|rfl|rfl|rfl:=this
  ·rfl
  ·rfl
  ·rfl
  ·rfl
def Mm:iO:=λas Q=>∃(xs:List L2.T)(n:Int),as=[.b xs,.v (.int 3)]/\Bx xs n/\n<=800000/\∀b ys,LB 6 b->Bx ys (n+13)->Q (.v (gR b)) ys
abbrev wU(P w K mg base):=(~~~Fn) 4 "_law_shape" oI (aQ K Mm)
abbrev vJ:UZ:=top 58
theorem iB:aK ["_law_box_here","_law_wide","_law_some","_law_spots","_law_way","_law_x","_law_y","_law_at","_law_marks","_law_word","_law_number"] oI (aC vJ):=iG
theorem Oy(F:dY K "_law_shape" "_law_shape" vJ f fd)(TX:Txt mg)(XQ: ~~~o9)(ZL: ~~~sA)(YW: ~~~sU):(~~~bE) eT 4 f fd oI (aQ K Mm):=by
 refine F.okU iB (λhr=>(aB (Kg (i:=4) (j:=5) (k:=6) rfl iB.nd rfl rfl rfl ∅ ∅ ∅ rfl rfl rfl (f3 (fB XQ (f2 (fv 0) aA)) (aY b8 aA (fB XQ (f2 (fv 0) aA))) (aY b8 aA (fB XQ (f2 (fv 0) aA)))) rfl) (aB (iV (aH (f2 (fB ZL (f2 (fv 0) (fv 1))) (Yu rfl iU (f1 (fD (N':=["_law_k","_law_box_here"]) (t:=1) (cap:=[(0,true)]) rfl (bH.of rfl) rfl ∅ (j0 rfl TX.n_range (f1 aA)) (λ_ _ _ _=>(fH 0)) (λ_ _ _ _=>(T8 rfl iU (fB XQ (f2 (fv 1) aA)) (λ_ _=>rfl)))))))) (bS (n:=2) rfl rfl (aE (fG 7 iB.nd) (aE (fG 8 iB.nd) bG)))) (aB (fS 2 iB.nd (Yv (f2 (eU (f4 (aH (f2 aA aA)) (aH (f2 (fv 5) aA)) (aH (f2 (fv 5) (fv 6))) (aH (f2 aA (fv 6))))) (eU (f4 (aH (f2 aA aA)) (aH (f2 (fv 5) aA)) (aH (f2 (aY b8 (fv 5) aA) (aY b8 (fv 6) aA))) (aH (f2 aA (aY b8 (fv 6) aA)))))))) (aB (iD (nO rfl (fv 2) (f1 (eU (f3 (aH (f2 aA aA)) (aH (f2 (fv 5) aA)) (aH (f2 aA (fv 6)))))))) (aB (iD (nO rfl (fv 2) (f1 (eU (fc (aH (f2 aA aA)) (f4 (aH (f2 (fv 5) aA)) (aH (f2 (aY b8 (fv 5) aA) aA)) (aH (f2 (aY b8 (fv 5) aA) (fv 6))) (aH (f2 aA (fv 6))))))))) (aB (iD (nO rfl (fv 2) (f1 (eU (fc (aH (f2 aA aA)) (fc (aH (f2 (aY b8 (fv 5) aA) aA)) (f4 (aH (f2 (aY b8 (fv 5) aA) aA)) (aH (f2 (aY b8 (fv 5) aA) (aY b8 (fv 6) aA))) (aH (f2 (aY b8 (fv 5) aA) (aY b8 (fv 6) aA))) (aH (f2 aA aA))))))))) (aB (fS 3 iB.nd (uD rfl rfl TX.n_tuple (f1 (fD (N':=["_law_a","_law_b","_law_at"]) (t:=2) (cap:=[(7,false)]) rfl (bH.of rfl) rfl ∅ (dG rfl (fX (fv 2) (fv 4))) (λ_ _ _ _=>(bS (n:=2) rfl rfl (aE (fH 0) (aE (fH 1) bG)))) (λ_ _ _ _=>(fK YW (f2 (fv 2) (aH (f2 (aH (f2 (fv 0) aA)) (aH (f2 (fv 1) aA))))))))))) (aB (kI (i:=9) (j:=10) rfl iB.nd rfl rfl ∅ rfl rfl (f2 (fX (eU (f4 iU iU iU iU)) (fB XQ (f2 (fv 0) aA))) (fB XQ (f2 (fv 0) aA))) rfl) (aG (aN (aH (f4 (fv 9) (fv 10) (fv 3) (Oc (fv 8) kH (fF (jS rfl rfl TX.n_len (f1 (fv 3)))))))))))))))))) ?_;rintro as Q ⟨xs,n,rfl,bx,hn,q⟩;obtain⟨A0,B0,c0,rfl,_⟩:=id bx;refine⟨_,5,n,rfl,bx,⋯,∅,∅,λr1 y1 a1 a2 b1=>?_⟩;obtain⟨A1,B1,c1,rfl,_⟩:=id b1;refine⟨_,6,n+1,rfl,b1,⋯,∅,∅,λr2 y2 a3 a4 b2=>?_⟩;obtain⟨A2,B2,c2,rfl,_⟩:=id b2;refine⟨_,6,n+1+1,rfl,b2,⋯,∅,∅,λr3 y3 a5 a6 b3=>?_⟩;obtain⟨A3,uy,c3,rfl,_⟩:=id b3;refine⟨_,3,n+1+1+1,rfl,b3,⋯,∅,∅,λX Y y4 x1 x2 x3 x4 b4=>?_⟩;obtain⟨A4,B4,c4,rfl,_⟩:=id b4;obtain⟨w,hw,rfl⟩:∃w:Nat,w<5/\r1=(w:Int):=⟨r1.toNat,⋯,⋯⟩;refine⟨∅,rfl,?_⟩;show gV _ _ (rL 0 6) _ _;refine Nr (λi E=>∃(w0:Option U)(ys:List L2.T)(cs:List Nat),E=[w0,oZ (.o true ys),↥(lE (wM cs))]/\Bx ys (n+5+i)/\cs.length=i/\∀c∈cs,c∈("lrbe-":Str).cps.toList) ⟨none,_,[],rfl,b4.mono (by simp;lia),rfl,λc m=>absurd m (by simp)⟩ ?_ ?_
 ·rintro i t rest E hi ⟨w0,ys,cs,rfl,bi,hc,hm⟩ KK;obtain⟨uk,rfl⟩:=Ab hi;obtain⟨A5,B5,c5,rfl,_⟩:=id bi;refine⟨_,5,_,rfl,bi,⋯,∅,∅,λr y5 u1 u2 b5=>?_⟩;obtain⟨A6,B6,c6,rfl,_⟩:=id b5;obtain⟨c,mc,ay⟩:=DV u1 u2;refine⟨(show 5<=big by decide),?_⟩;show o1 (jY ("lrbe-":Str).cps.toList r) _;rw[ay];refine⟨(show(lE (wM cs)).length<9000 by simp[lE,wM];lia),KK _ ⟨↑(0+(i:Int)),[.int A6,.int B6,.int c6],cs++[c],?_,b5.mono (by push_cast;lia),by simp[hc],λz mz=>?_⟩⟩
  ·show[_,_,oZ (U.o false (lE (wM cs)++[L2.T.str ⟨#[c]⟩]))]=_;rw[show lE (wM cs)++[L2.T.str ⟨#[c]⟩]=lE (wM (cs++[c])) by simp[lE,wM]]
  ·obtain mz|mz:=NB.mp mz
   ·exact hm z mz
   ·rw[MW]at mz;rw[mz];exact mc
 ·rintro E ⟨w0,ys,cs,rfl,bi,hc,hm⟩;have hc6:cs.length=6:=by rw[hc];rfl
  obtain⟨A5,B5,c5,rfl,_⟩:=id bi;obtain⟨jo,ms,ej,lj,sl⟩:=W5 cs hc6;refine⟨aZ (λ_=>rfl) _,?_⟩;show o1 (kZ (lE (wM cs))) _;rw[Ea];refine⟨jo,λz ez=>?_⟩;rw[ej]at ez;subst ez;refine⟨(show 2<9000 by decide),(show 3<9000 by decide),(show 4<9000 by decide),?_⟩;have uv:jY (JJ (1+r2) (1+r3)) (w:Int)=oZ (L2.T.lst ((gC (1+r2) (1+r3) w).map AE)):=by
   match w,hw with
   |0,_|1,_|2,_|3,_|4,_=>rfl
  show o1 (jY (JJ (1+r2) (1+r3)) (w:Int)) _;rw[uv];have bs:=Lx (x:=1+r2) (y:=1+r3) ⋯ ⋯ ⋯ ⋯ w;have ls:=Aq (1+r2) (1+r3) w;refine⟨rfl,cD (f:=AE) (h:=λc=>pt (hf (X+2*c.1),hf (Y+2*c.2))) (λ(v:Option U×Option U)acc=>[v.1,v.2,⇑(pt (hf X,hf Y)),↥acc]) (gC (1+r2) (1+r3) w) (none,none) [] (by simp;lia) (λc m v acc rest ha K=>?_) λv=>?_⟩
  ·have:=bs c m;refine⟨hf X,hf Y,(c.1,1),(c.2,1),15,15,rfl,xV ⋯ ⋯,Uh ⋯ ⋯,∅,?_⟩;rw[Sw,Sw];exact⟨ha,K (↑c.1,↑c.2)⟩
  ·refine⟨aZ (λ_=>rfl) _,?_⟩;have eo:([]++(gC (1+r2) (1+r3) w).map λc=>pt (hf (X+2*c.1),hf (Y+2*c.2)))=(fR X Y (gC (1+r2) (1+r3) w)).map pt:=by rw[OP,fR,MY];rfl
   rw[eo];have lo:(fR X Y (gC (1+r2) (1+r3) w)).length=(gC (1+r2) (1+r3) w).length:=by rw[fR,ML]
   have hb:∀(s:Str)(k:Int),((s.length<=9000/\∀c∈s.cps.toList,c<16^8)/\k.natAbs<=100)->LB 6 ⟨s,k,fR X Y (gC (1+r2) (1+r3) w),RM z none (oZ ((gC (1+r2) (1+r3) w).length:Int))⟩:=λs k hs=>by
    refine⟨⟨w,1+r2,1+r3,X,Y,hw,⋯,⋯,⋯,⋯,⋯,⋯,rfl⟩,⟨?_,?_⟩,hs⟩
    ·show(RM z none (oZ ((gC (1+r2) (1+r3) w).length:Int))).cps.size=(fR X Y (gC (1+r2) (1+r3) w)).length;rw[lo,<-QX,sl _ ls.1 ls.2,OC,hc6]
     lia
    ·show ∀c∈(RM z none (oZ ((gC (1+r2) (1+r3) w).length:Int))).cps.toList,_;rw[sl _ ls.1 ls.2];exactλc m=>hm c (OJ m)
   generalize fR X Y (gC (1+r2) (1+r3) w)=O at *;refine(?_:sR [oZ (.o true [.int A5,.int B5,.int c5]),↑3,↥(JJ (1+r2) (1+r3)),⇑(.tup (O.map pt)),↑(w:Int),↑(1+r2),↑(1+r3),⇑(pt (hf X,hf Y)),⇑(.str z),none,none] _);refine⟨_,4,_,rfl,bi,⋯,∅,∅,λr6 y6 u1 u2 b6=>?_⟩;obtain⟨A6,B6,c6,rfl,_⟩:=id b6;obtain⟨s,hs,hsl⟩:∃s:Str,jY [L2.T.str "strip",.str "fan",.str "cap",.str "sector"] r6=oZ (L2.T.str s)/\(s.length<=9000/\∀c∈s.cps.toList,c<16^8):=by
    have:r6=0\/r6=1\/r6=2\/r6=3:=⋯
    obtain rfl|rfl|rfl|rfl:=this
    ·exact⟨_,rfl,∅⟩
    ·exact⟨_,rfl,∅⟩
    ·exact⟨_,rfl,∅⟩
    ·exact⟨_,rfl,∅⟩
   show o1 (jY [L2.T.str "strip",.str "fan",.str "cap",.str "sector"] r6) _;rw[hs];refine⟨_,4,_,rfl,b6,⋯,∅,∅,λr7 y7 u3 u4 b7=>?_⟩;obtain⟨A7,B7,c7,rfl,_⟩:=id b7;refine⟨lj,λy ey=>?_⟩;have el:((O.map pt).length:Int)=((gC (1+r2) (1+r3) w).length:Int):=by rw[ML,lo]
   have ey':y=RM z none (oZ ((O.map pt).length:Int)):=ey;rw[el]at ey';subst ey';exact⟨Ua ⟨s,r7,O,RM z none (oZ ((gC (1+r2) (1+r3) w).length:Int))⟩,q _ _ (hb s r7 ⟨hsl,⋯⟩) (b7.mono ⋯)⟩
theorem Ye{α:Type}{f:α->L2.T}{xs:List α}(h:j<xs.length):∃x,xs[(j+xs.length-1)%xs.length]?=oZ x/\jY (xs.map f) ((j:Int)-1)=oZ (f x):=by
 have hk:(j+xs.length-1)%xs.length<xs.length:=RO _ ⋯;refine⟨_,MI hk,?_⟩;unfold jY;have e:Fg (xs.map f).length ((j:Int)-1)=oZ ((j+xs.length-1)%xs.length):=by
  unfold Fg;rw[ML];cases j with
  |zero=>
   rw[oW ⋯,oV ⋯]
   congr 1
   rw[show 0+xs.length-1=xs.length-1 by lia,RZ ⋯]
   lia
  |succ j=>
   rw[oV ⋯,oV ⋯]
   congr 1
   rw[show j+1+xs.length-1=j+xs.length by lia,Nat.add_mod_right,RZ ⋯]
   lia
 rw[e];simp[MI hk]
theorem Sy{p q d:Int}(h:p-q=2*d):dO (hf p) (hf q)=(d,1):=by
 refine eR (cS (lH p) (lH q)) (dQ d) ?_;have:(p:Rat)-(q:Rat)=2*(d:Rat):=by exact_mod_cast h
 rw[dU (lH p) (lH q),rD,rD,k7];grind
theorem Km(p q:Int):eM (hf p) (hf q)=hf (p+q):=by
 refine eR (iF (lH p) (lH q)) (lH _) ?_;rw[gP (lH p) (lH q),rD,rD,rD]
 push_cast
 grind
theorem Sx(d s:Int):eV (d,1) (hf s)=hf (s*d):=by
 refine eR (bX (dQ d) (lH s)) (lH _) ?_;rw[dS (dQ d) (lH s),rD,rD,k7]
 push_cast
 grind
theorem LB.mono{M N:Int}(h:LB M b)(k:M<=N):LB N b:=by
 obtain⟨⟨w,x,y,X,Y,h1,h2,h3,h4,h5,h6,h7,h8⟩,hm,hw⟩:=h;exact⟨⟨w,x,y,X,Y,h1,h2,h3,h4,h5,⋯,⋯,h8⟩,hm,hw⟩
theorem Wl{X Y:Int}{zs:List (Int×Int)}{j:Nat}(h:(fR X Y zs)[j]?=oZ p):∃c∈zs,p=(hf (X+2*c.1),hf (Y+2*c.2)):=by
 obtain⟨c,m,e⟩:=MH.mp (MN h);exact⟨c,m,e.symm⟩
theorem yW{α:Type}{f:α->L2.T}(h:∀x,L2.dT (f x)<=n):∀xs:List α,L2.Yj (xs.map f)<=n
 |[]=>OR _
 |x::xs=>by rw[MR,L2.Yj];exact SF.mpr ⟨h x,yW h xs⟩
theorem CH(b:jH):L2.dT (gR b)<=5:=by
 have h:=yW (f:=pt) (n:=2) (λ_=>jL rfl) b.o;unfold gR;simp only[L2.dT,L2.Yj];have:TH 0 (TH 0 (TH (L2.Yj (b.o.map pt)+1) (TH 0 0)))<=4:=SF.mpr ⟨⋯,SF.mpr ⟨⋯,SF.mpr ⟨⋯,SF.mpr ⟨⋯,⋯⟩⟩⟩⟩
 lia
theorem MA{r:Int}(h:0<=r)(k:r<4):∃s:Int,0<=s/\s<=4/\jY [L2.T.tup [.int 0,.int 1],.tup [.int 1,.int 1],.tup [.int 1,.int 2],.tup [.int 2,.int 1]] r=oZ (fr (hf s)):=by
 have:r=0\/r=1\/r=2\/r=3:=⋯
 obtain rfl|rfl|rfl|rfl:=this
 ·exact⟨0,∅,∅,rfl⟩
 ·exact⟨2,∅,∅,rfl⟩
 ·exact⟨1,∅,∅,rfl⟩
 ·exact⟨4,∅,∅,rfl⟩
def GJ:iO:=λas Q=>∃(xs:List L2.T)(M n:Int),as=[.b xs,.v (.int M)]/\Bx xs n/\n<=700000/\1<=M/\M<=10/\∀(bs:List jH)(ys:List L2.T),1<=bs.length->(bs.length:Int)<=M->(∀b∈bs,LB 400 b)->Bx ys (n+300)->Q (.l (bs.map gR)) ys
abbrev Jb(P w K mg base):=(~~~Fn) 5 "_law_lot" ["_law_box_here","_law_most"] (aQ K GJ)
abbrev Ia:UZ:=top 59
theorem fL:aK ["_law_box_here","_law_most","_law_found","_law_k","_law_way","_law_block","_law_at","_law_share","_law_step","_law_word","_law_number","_law_spots","_law_marks"] ["_law_box_here","_law_most"] (aC Ia):=iG
theorem Zt(F:dY K "_law_lot" "_law_lot" Ia f fd)(TX:Txt mg)(XQ: ~~~o9)(ah: ~~~wU)(YW: ~~~sU)(XU: ~~~jR)(YB: ~~~sV):(~~~bE) eT 5 f fd ["_law_box_here","_law_most"] (aQ K GJ):=by
 refine F.okU fL (λhr=>(aB (fS 2 fL.nd (eU lV)) (aB (gJ PassesOwn.never rfl (j0 rfl TX.n_range (f1 (aY b8 aA (fB XQ (f2 (fv 0) (fv 1)))))) (fG 3 fL.nd) (aB (kI (i:=4) (j:=5) rfl fL.nd rfl rfl ∅ rfl rfl (f2 (fB XQ (f2 (fv 0) aA)) (fB ah (f2 (fv 0) aA))) rfl) (aB (eS (Gq (Sr (fP gW (fv 4) aA) (Kh (sH rfl hr (fv 2) (eU lV) (cH _))))) (aB (iV (fX (fv 2) (fB XQ (f2 (fv 0) (jS rfl rfl TX.n_len (f1 (fv 2)))))) (bS (n:=4) rfl rfl (aE (fG 9 fL.nd) (aE (fG 10 fL.nd) (aE (fG 11 fL.nd) (aE (fG 12 fL.nd) bG)))))) (aB (fS 6 fL.nd (fB XQ (f2 (fv 0) (jS rfl rfl TX.n_len (f1 (fv 11)))))) (aB (fS 7 fL.nd (fX (eU (f4 (aH (f2 aA aA)) (aH (f2 aA aA)) (aH (f2 aA aA)) (aH (f2 aA aA)))) (fB XQ (f2 (fv 0) aA)))) (aB (fS 8 fL.nd (fK XU (f2 (fK YB (f2 (fX (fv 11) (fv 6)) (fX (fv 11) (aY iW (fv 6) aA)))) (fv 7)))) (aG (fS 5 fL.nd (aH (f4 (fv 9) (fv 10) (uD rfl rfl TX.n_tuple (f1 (fD (N':=["_law_spot","_law_step"]) (t:=1) (cap:=[(8,false)]) rfl (bH.of rfl) rfl ∅ (qZ rfl (fv 11)) (λ_ _ _ _=>(fH 0)) (λ_ _ _ _=>(fK YW (f2 (fv 0) (fv 1))))))) (fv 12))))))))) c9) (aG (iD (gZ rfl (fv 2) (f1 (fv 5)))))))) (aG (aN (fv 2)))))) ?_;rintro as Q ⟨xs,M,n,rfl,bx,hn,m1,m2,q⟩;obtain⟨A0,B0,c0,rfl,_⟩:=id bx;refine⟨_,M,n,rfl,bx,⋯,m1,⋯,λr1 y1 a1 a2 b1=>?_⟩;obtain⟨A1,B1,c1,rfl,_⟩:=id b1;obtain⟨m,hm,em⟩:∃m:Nat,(m:Int)<=M/\1+r1=(m:Int):=⟨(1+r1).toNat,⋯,⋯⟩;refine⟨⟨by show -(2^62:Int)<=1+r1;lia,by show 1+r1<2^62;lia⟩,?_⟩;show sR _ (fW _ _ _ (rL 0 (1+r1).toNat));rw[em,PH];refine mM (λi E=>∃(ys:List L2.T)(bs:List jH)(v3 v4 v5 v6 v7 v8 v9 v10 v11 ZZ:Option U),E=[oZ (.o true ys),↑M,↥(bs.map gR),v3,v4,v5,v6,v7,v8,v9,v10,v11,ZZ]/\Bx ys (n+1+20*i)/\bs.length=i/\∀b∈bs,LB (6+32*i) b) ⟨_,[],_,_,_,_,_,_,_,_,_,_,rfl,b1.mono (by simp),rfl,λb m=>absurd m (by simp)⟩ ?_ ?_
 ·rintro i t rest E hi ⟨ys,bs,v3,v4,v5,v6,v7,v8,v9,v10,v11,ZZ,rfl,bi,hl,hb⟩ KK;obtain⟨uk,rfl⟩:=Ab hi;obtain⟨A2,B2,c2,rfl,_⟩:=id bi;refine⟨_,5,_,rfl,bi,⋯,∅,∅,λr2 y2 a3 a4 b2=>?_⟩;obtain⟨A3,uy,c3,rfl,_⟩:=id b2;refine⟨_,_,rfl,b2,⋯,λb y3 lb b3=>?_⟩;obtain⟨A4,B4,c4,rfl,_⟩:=id b3;have lb1:LB (6+32*((i+1:Nat):Int)) b:=lb.mono ⋯;have hb1:∀b∈bs,LB (6+32*((i+1:Nat):Int)) b:=λb m=>(hb b m).mono (by push_cast;lia);have snoc:∀b,LB (6+32*((i+1:Nat):Int)) b->∀b'∈bs++[b],LB (6+32*((i+1:Nat):Int)) b':=λb l b' m=>by
   obtain m|m:=NB.mp m
   ·exact hb1 b' m
   ·rw[MW]at m;rw[m];exact l
  have app:∀b,bs.map gR++[gR b]=(bs++[b]).map gR:=λb=>by rw[OE];rfl
  have ln:∀b,(bs.map gR++[gR b]).length<=9000:=λb=>by rw[MP,ML,hl];simp;lia
  show if decide (r2<2)=true then _ else _
  by_cases c:r2<2
  ·rw[oY c,oV rfl];have dm:L2.dT (.lst (bs.map gR))<=60:=by
    have:=yW CH bs;simp only[L2.dT];lia
   refine⟨dm,?_⟩
   by_cases e0:bs=[]
   ·subst e0;refine⟨ln b,?_⟩;exact KK [oZ (.o true [.int A4,.int B4,.int c4]),↑M,↥([b].map gR),↑(0+(i:Int)),↑r2,⇑(gR b),v6,v7,v8,v9,v10,v11,ZZ] ⟨_,[b],_,_,_,_,_,_,_,_,_,_,rfl,b3.mono (by push_cast;lia),by simp at hl⊢;lia,snoc b lb1⟩
   ·have ee:iP (.lst (bs.map gR)) (.lst [])=false:=by
     cases bs with
     |nil=>exact absurd rfl e0
     |cons x r=>rfl
    have el:(0:Nat)<bs.length:=List.length_pos_iff.mpr e0;show if(!(iP (.lst (bs.map gR)) (.lst [])))=true then _ else _;rw[ee,oV ∅];refine⟨_,((bs.map gR).length:Int),_,rfl,b3,⋯,by rw[ML];lia,by rw[ML,hl];lia,λr5 y5 u1 u2 b5=>?_⟩;obtain⟨A5,B5,c5,rfl,_⟩:=id b5;rw[ML]at u2;obtain⟨k,hk,rfl⟩:∃k:Nat,k<bs.length/\r5=(k:Int):=⟨r5.toNat,⋯,⋯⟩;show o1 (jY (bs.map gR) (k:Int)) _;rw[kE (MI hk)];have lk:=hb _ (PC hk);generalize bs[k]=g at lk;obtain⟨⟨w,x,y,X,Y,h1,h2,h3,h4,h5,h6,h7,h8⟩,ya,yf⟩:=lk;obtain⟨gw,gn,go,gm⟩:=g;simp only at h8 ya yf;subst h8;have hz:=Lx h2 h3 h4 h5 w;have lz:=Aq x y w;have lz':(fR X Y (gC x y w)).length=(gC x y w).length:=by rw[fR,ML]
    generalize hzs:gC x y w=zs at *;refine⟨_,(((fR X Y zs).map pt).length:Int),_,rfl,b5,⋯,by rw[ML];lia,by rw[ML];lia,λr6 y6 u3 u4 b6=>?_⟩;obtain⟨A6,B6,c6,rfl,_⟩:=id b6;rw[ML]at u4;obtain⟨j,hj,rfl⟩:∃j:Nat,j<(fR X Y zs).length/\r6=(j:Int):=⟨r6.toNat,⋯,⋯⟩;refine⟨_,4,_,rfl,b6,⋯,∅,∅,λr7 y7 u5 u6 b7=>?_⟩;obtain⟨A7,B7,c7,rfl,_⟩:=id b7;obtain⟨s,s0,s4,hs⟩:=MA u5 u6;show o1 (jY [L2.T.tup [.int 0,.int 1],.tup [.int 1,.int 1],.tup [.int 1,.int 2],.tup [.int 2,.int 1]] r7) _;rw[hs];refine(?_:sR [oZ (.o true [.int A7,.int B7,.int c7]),↑M,↥(bs.map gR),↑(0+(i:Int)),↑r2,⇑(gR b),↑(j:Int),⇑(fr (hf s)),v8,⇑(.str gw),↑gn,⇑(.tup ((fR X Y zs).map pt)),⇑(.str gm)] _);obtain⟨p1,hp1⟩:∃p,(fR X Y zs)[j]?=oZ p:=⟨_,MI hj⟩;obtain⟨p2,hp2,at2⟩:=Ye (f:=pt) hj;show o1 (jY ((fR X Y zs).map pt) (j:Int)) _;rw[kE hp1];show o1 (jY ((fR X Y zs).map pt) ((j:Int)-1)) _;rw[at2];obtain⟨z1,mz1,rfl⟩:=Wl hp1;obtain⟨z2,mz2,rfl⟩:=Wl hp2;have q1:=hz z1 mz1;have q2:=hz z2 mz2;have hX:X.natAbs<=400:=⋯
    have hY:Y.natAbs<=400:=⋯
    refine⟨_,_,_,_,15,15,rfl,xV ⋯ ⋯,xV ⋯ ⋯,∅,?_⟩;rw[Sy (d:=z1.1-z2.1) ⋯,Sy (d:=z1.2-z2.2) ⋯];refine⟨_,_,_,15,rfl,Uh ⋯ ⋯,lH s,by have:=Sz (n:=s) (e:=5) ⋯ ∅;lia,?_⟩;rw[Sx,Sx];have e1:(s*(z1.1-z2.1)).natAbs<=32:=by
     rw[OK];exact OH (OL (show s.natAbs<=4 by lia) (show(z1.1-z2.1).natAbs<=8 by lia)) ∅
    have e2:(s*(z1.2-z2.2)).natAbs<=32:=by
     rw[OK];exact OH (OL (show s.natAbs<=4 by lia) (show(z1.2-z2.2).natAbs<=8 by lia)) ∅
    generalize s*(z1.1-z2.1)=dx at *;generalize s*(z1.2-z2.2)=dy at *;refine⟨rfl,?_⟩;show gV _ _ ((fR X Y zs).map pt) _ _;have mv:LB (6+32*((i+1:Nat):Int)) ⟨gw,gn,fR (X+dx) (Y+dy) zs,gm⟩:=⟨⟨w,x,y,X+dx,Y+dy,h1,h2,h3,h4,h5,by push_cast;lia,by push_cast;lia,by rw[hzs]⟩,⟨by rw[ya.len,fR,fR,ML,ML],ya.all⟩,yf⟩;rw[show(fR X Y zs).map pt=zs.map (λc=>pt (hf (X+2*c.1),hf (Y+2*c.2))) by rw[fR,MY];rfl];refine cD (f:=λc=>pt (hf (X+2*c.1),hf (Y+2*c.2))) (h:=λc=>pt (hf (X+dx+2*c.1),hf (Y+dy+2*c.2))) (λ(v:Option U)acc=>[v,⇑(pt (hf dx,hf dy)),↥acc]) zs none [] (by simp;lia) (λc m v acc rest ha K=>?_) λv=>?_
    ·have:=hz c m;refine⟨_,_,_,_,15,15,rfl,xV ⋯ ⋯,xV ⋯ ⋯,∅,?_⟩;rw[Km,Km,show X+2*c.1+dx=X+dx+2*c.1 by lia,show Y+2*c.2+dy=Y+dy+2*c.2 by lia];exact⟨ha,K (⇑(pt (hf (X+2*c.1),hf (Y+2*c.2))))⟩
    ·refine⟨aZ (λ_=>rfl) _,?_⟩;have eo:([]++zs.map λc=>pt (hf (X+dx+2*c.1),hf (Y+dy+2*c.2)))=(fR (X+dx) (Y+dy) zs).map pt:=by rw[OP,fR,MY];rfl
     rw[eo];refine⟨ln ⟨gw,gn,fR (X+dx) (Y+dy) zs,gm⟩,?_⟩;have:=KK [oZ (.o true [.int A7,.int B7,.int c7]),↑M,↥((bs++[(⟨gw,gn,fR (X+dx) (Y+dy) zs,gm⟩:jH)]).map gR),↑(0+(i:Int)),↑r2,⇑(gR ⟨gw,gn,fR (X+dx) (Y+dy) zs,gm⟩),↑(j:Int),⇑(fr (hf s)),⇑(pt (hf dx,hf dy)),⇑(.str gw),↑gn,⇑(.tup (zs.map λc=>pt (hf (X+2*c.1),hf (Y+2*c.2)))),⇑(.str gm)] ⟨_,_,_,_,_,_,_,_,_,_,_,_,rfl,b7.mono (by push_cast;lia),by simp[hl],snoc _ mv⟩;rw[<-app]at this;exact this
  ·rw[oX c,oW ∅];refine⟨ln b,?_⟩;have:=KK [oZ (.o true [.int A4,.int B4,.int c4]),↑M,↥((bs++[b]).map gR),↑(0+(i:Int)),↑r2,⇑(gR b),v6,v7,v8,v9,v10,v11,ZZ] ⟨_,bs++[b],_,_,_,_,_,_,_,_,_,_,rfl,b3.mono (by push_cast;lia),by simp[hl],snoc b lb1⟩;rw[<-app]at this;exact this
 ·rintro E ⟨ys,bs,v3,v4,v5,v6,v7,v8,v9,v10,v11,ZZ,rfl,bi,hl,hb⟩;have ou:bs.length=m:=by rw[hl];simp[rL]
  obtain⟨A2,B2,c2,rfl,_⟩:=id bi;exact⟨aZ Ua _,q bs _ ⋯ ⋯ (λb mb=>(hb b mb).mono ⋯) (bi.mono ⋯)⟩
end
theorem Pb.np(h:Pb p):NP p:=⟨h.v.x,h.v.y⟩
theorem qM(ha:NP a)(hb:NP b)(h:a≠b):0<aP (aR (vq b) (vq a)) (aR (vq b) (vq a)):=by
 unfold aP;have s1:=O2 (aR (vq b) (vq a)).1;have s2:=O2 (aR (vq b) (vq a)).2
 by_cases y1:(aR (vq b) (vq a)).1=0
 ·by_cases y2:(aR (vq b) (vq a)).2=0
  ·have e1:val b.1-val a.1=0:=y1;have e2:val b.2-val a.2=0:=y2;exact absurd (Prod.ext (eR ha.x hb.x (by grind)) (eR ha.y hb.y (by grind))) h
  ·have:=n8 y2;grind
 ·have:=n8 y1;grind
theorem Yd{α:Type}{f:α->L2.T}{xs:List α}{x:α}(hk:k<xs.length)(h:xs[(k+1)%xs.length]?=oZ x):jY (xs.map f) ((k:Int)-((xs.map f).length:Int)+1)=oZ (f x):=by
 unfold jY;have e:Fg (xs.map f).length ((k:Int)-((xs.map f).length:Int)+1)=oZ ((k+1)%xs.length):=by
  unfold Fg;rw[ML]
  by_cases c:k+1<xs.length
  ·rw[oW ⋯,oV ⋯,RZ c]
   congr 1
   lia
  ·have e:k+1=xs.length:=⋯
   rw[oV ⋯,oV ⋯,e,Nat.mod_self]
   congr 1
   lia
 rw[e];simp[h]
theorem Iv:(zr o).length=o.length:=by
 unfold zr qC;rw[SI,MP,QU,OC]
 lia
theorem Ew(hk:k<o.length):∃p q,o[k]?=oZ p/\o[(k+1)%o.length]?=oZ q/\(zr o)[k]?=oZ (p,q):=by
 have hz:k<(zr o).length:=by rw[Iv];exact hk
 have hm:(k+1)%o.length<o.length:=RO _ (by omega);refine⟨o[k],o[(k+1)%o.length],MI hk,MI hm,?_⟩;unfold zr;rw[List.getElem?_zip_eq_some];refine⟨MI hk,?_⟩;unfold qC
 by_cases c:k+1<o.length
 ·rw[NK (by rw[QU];omega),List.getElem?_tail,MI c]
  congr 2
  exact(RZ c).symm
 ·have e:k+1=o.length:=by omega
  rw[OF (by rw[QU];omega),QU,show k-(o.length-1)=0 by omega];have e0:(k+1)%o.length=0:=by rw[e,Nat.mod_self]
  rw[<-MI hm,e0];cases o with
  |nil=>simp at hk
  |cons p o=>rfl
theorem KG:∀(fs:List (Rat×Rat))(B:Rat),0<B->(∀f∈fs,0<f.1\/(f.1=0/\f.2=0))->∃d,0<d/\d<=B/\∀f∈fs,0<=f.1+f.2*d/\0<=f.1-f.2*d
 |[],B,hB,_=>⟨B,hB,by grind,λf m=>absurd m (by simp)⟩
 |f::fs,B,hB,h=>by
  obtain⟨d,d0,dB,hd⟩:=KG fs B hB λg m=>h g (by simp[m]);have small:∀{u:Rat×Rat}{d':Rat},0<=u.1+u.2*d/\0<=u.1-u.2*d->0<d'->d'<=d->0<=u.1+u.2*d'/\0<=u.1-u.2*d':=λ{u d'}k p0 pd=>by
   rcases Rat.le_total (a:=0) (b:=u.2)with c|c
   ·have m1:=Rat.mul_nonneg c (show 0<=d-d' by grind);have m2:=Rat.mul_nonneg c (Rat.le_of_lt p0);exact⟨by grind,by grind⟩
   ·have m1:=Rat.mul_nonneg (show 0<=-u.2 by grind) (show 0<=d-d' by grind);have m2:=Rat.mul_nonneg (show 0<=-u.2 by grind) (Rat.le_of_lt p0);exact⟨by grind,by grind⟩
  obtain p|⟨z1,z2⟩:=h f (by simp)
  ·-- so small that it fits
   have ex:∃d',0<d'/\d'<=d/\0<=f.1+f.2*d'/\0<=f.1-f.2*d':=by
    have key:∀s:Rat,0<=s->∃d',0<d'/\d'<=d/\s*d'<=f.1:=λs hs=>by
     by_cases c:s*d<=f.1
     ·exact⟨d,d0,by grind,c⟩
     ·have s0:0<s:=by
       by_cases z:s=0
       ·rw[z]at c;grind
       ·grind
      have i0:=Rat.inv_pos.mpr s0;have e1:s*(f.1*s⁻¹)=f.1:=by grind
      refine⟨f.1*s⁻¹,Rat.mul_pos p i0,?_,by rw[e1];grind⟩;refine Rat.not_lt.mp λq=>?_;have:=Rat.mul_pos s0 (show 0<f.1*s⁻¹-d by grind);grind
    rcases Rat.le_total (a:=0) (b:=f.2)with c|c
    ·obtain⟨d',a1,a2,a3⟩:=key f.2 c;have:=Rat.mul_nonneg c (Rat.le_of_lt a1);exact⟨d',a1,a2,by grind,by grind⟩
    ·obtain⟨d',a1,a2,a3⟩:=key (-f.2) (by grind);have:=Rat.mul_nonneg (show 0<=-f.2 by grind) (Rat.le_of_lt a1);exact⟨d',a1,a2,by grind,by grind⟩
   obtain⟨d',a1,a2,a3⟩:=ex;refine⟨d',a1,by grind,λg m=>?_⟩;obtain rfl|m:=MJ.mp m
   ·exact a3
   ·exact small (hd g m) a1 a2
  ·refine⟨d,d0,dB,λg m=>?_⟩;obtain rfl|m:=MJ.mp m
   ·rw[z1,z2];exact⟨by grind,by grind⟩
   ·exact hd g m
theorem uQ(ha:NP a)(hb:NP b)(hf:dJ f):NP (kN a b f)/\vq (kN a b f)=dE (vq a) (vq b) (val f):=by
 refine⟨⟨iF ha.x (bX (cS hb.x ha.x) hf),iF ha.y (bX (cS hb.y ha.y) hf)⟩,?_⟩;unfold vq kN dE;simp only;rw[gP ha.x (bX (cS hb.x ha.x) hf),dS (cS hb.x ha.x) hf,dU hb.x ha.x,gP ha.y (bX (cS hb.y ha.y) hf),dS (cS hb.y ha.y) hf,dU hb.y ha.y]
abbrev Z2:=Int×Int
abbrev Ez:=Z2×Z2
def Xt(u v:Z2):Int:=u.1*v.2-u.2*v.1
def CM(u v:Z2):Int:=u.1*v.1+u.2*v.2
def HK(p q:Z2):Z2:=(p.1-q.1,p.2-q.2)
def vz(e:Ez):Z2:=HK e.2 e.1
def fz(e:Ez)(x:Z2):Int:=Xt (vz e) (HK x e.1)
def HN(cs:List Z2):List Ez:=cs.zip (qC cs)
def HI(es:List Ez):Bool:=
 (es.all λe=>es.all λg=>decide (0<=fz e g.1))&&((es.all λe=>es.any λg=>decide (0<fz e g.1))&&((es.all λe=>decide (0<CM (vz e) (vz e))) &&
 ((es.all λe=>es.any λg=>decide (g.1=e.2)&&(decide (0<Xt (vz e) (vz g))||(decide (Xt (vz e) (vz g)=0)&&(decide (0<CM (vz e) (vz g))&&es.any λh=>decide (h.1=g.2)&&decide (0<Xt (vz g) (vz h)))))) &&
 (es.all λe=>es.any λg=>decide (g.2=e.1)&&(decide (0<Xt (vz g) (vz e))||(decide (Xt (vz g) (vz e)=0)&&(decide (0<CM (vz g) (vz e))&&es.any λh=>decide (h.2=g.1)&&decide (0<Xt (vz h) (vz g)))))))))
theorem Zp:((OG 5).all λw=>(OG 6).all λx=>(OG 6).all λy=>HI (HN (gC ((x:Int)+1) ((y:Int)+1) w)))=true:=by decide +kernel
theorem Zq{x y:Int}(hx:1<=x)(vi:x<=6)(hy:1<=y)(hy':y<=6)(hw:w<5):HI (HN (gC x y w))=true:=by
 have h:=Zp;rw[OQ]at h;have h1:=h w (OO.mpr hw);rw[OQ]at h1;have h2:=h1 (x-1).toNat (OO.mpr ⋯);rw[OQ]at h2;have h3:=h2 (y-1).toNat (OO.mpr ⋯);rw[show(((x-1).toNat:Nat):Int)+1=x by lia,show(((y-1).toNat:Nat):Int)+1=y by lia]at h3;exact h3
def pq(X Y:Int)(c:Z2):Q2:=(((X:Rat)+2*(c.1:Rat))*(1/2),((Y:Rat)+2*(c.2:Rat))*(1/2))
def Bz(X Y:Int)(e:Ez):Eg:=(pq X Y e.1,pq X Y e.2)
theorem Xj(X Y:Int)(c:Z2):vq (hf (X+2*c.1),hf (Y+2*c.2))=pq X Y c:=by
 unfold vq pq;rw[rD,rD]
 push_cast
 rfl
theorem Yn(X Y:Int)(cs:List Z2):d5 (fR X Y cs)=(HN cs).map (Bz X Y):=by
 unfold d5 zr HN fR;rw[Dq,List.zip_map,MY];refine OI λe _=>?_;show(vq _,vq _)=Bz X Y e;unfold Bz;rw[<-Xj,<-Xj];rfl
theorem Em(X Y:Int)(e:Ez):aM (Bz X Y e)=(((vz e).1:Rat),((vz e).2:Rat)):=by
 unfold aM Bz aR pq vz HK
 push_cast
 exact Prod.ext (by simp only;grind) (by simp only;grind)
theorem CG{X Y:Int}(h:HI es=true):Cx (es.map (Bz X Y)):=by
 have cc:∀e g:Ez,aU (aM (Bz X Y e)) (aM (Bz X Y g))=((Xt (vz e) (vz g):Int):Rat):=λe g=>by
  rw[Em,Em];unfold aU Xt;push_cast;rfl
 have dd:∀e g:Ez,aP (aM (Bz X Y e)) (aM (Bz X Y g))=((CM (vz e) (vz g):Int):Rat):=λe g=>by
  rw[Em,Em];unfold aP CM;push_cast;rfl
 have ff:∀e g:Ez,fE (Bz X Y e) (Bz X Y g).1=((fz e g.1:Int):Rat):=λe g=>by
  unfold fE fz aU Xt;rw[Em];unfold aR Bz pq HK
  push_cast
  grind
 have le:∀{i:Int},0<=i->(0:Rat)<=(i:Rat):=λh=>by exact_mod_cast h
 have lt:∀{i:Int},0<i->(0:Rat)<(i:Rat):=λh=>by exact_mod_cast h
 unfold HI at h;simp only[NY]at h;obtain⟨h1,h2,h3,h4,h5⟩:=h;rw[OQ]at h1 h2 h3 h4 h5;refine⟨λe0 kx g0 mg0=>?_,λe0 kx=>?_,λe0 kx=>?_,λe0 kx=>?_,λe0 kx=>?_⟩
 ·obtain⟨e,me,rfl⟩:=MH.mp kx;obtain⟨g,mg,rfl⟩:=MH.mp mg0;rw[ff];have:=h1 e me;rw[OQ]at this;exact le (by simpa using this g mg)
 ·obtain⟨e,me,rfl⟩:=MH.mp kx;have:=h2 e me;rw[PX]at this;obtain⟨g,mg,k⟩:=this;exact⟨_,MH.mpr ⟨g,mg,rfl⟩,by rw[ff];exact lt (by simpa using k)⟩
 ·obtain⟨e,me,rfl⟩:=MH.mp kx;rw[dd];exact lt (by simpa using h3 e me)
 ·obtain⟨e,me,rfl⟩:=MH.mp kx;have:=h4 e me;rw[PX]at this;obtain⟨g,mg,k⟩:=this;simp only[NY,TZ,decide_eq_true_eq]at k;obtain⟨k1,k2⟩:=k;refine⟨_,MH.mpr ⟨g,mg,rfl⟩,by unfold Bz;rw[k1],?_⟩;obtain k2|⟨k2,k3,k4⟩:=k2
  ·exact .inl (by rw[cc];exact lt k2)
  ·rw[PX]at k4;obtain⟨f,mf,k5⟩:=k4;simp only[NY,decide_eq_true_eq]at k5;refine .inr ⟨by rw[cc,k2];rfl,by rw[dd];exact lt k3,_,MH.mpr ⟨f,mf,rfl⟩,by unfold Bz;rw[k5.1],by rw[cc];exact lt k5.2⟩
 ·obtain⟨e,me,rfl⟩:=MH.mp kx;have:=h5 e me;rw[PX]at this;obtain⟨g,mg,k⟩:=this;simp only[NY,TZ,decide_eq_true_eq]at k;obtain⟨k1,k2⟩:=k;refine⟨_,MH.mpr ⟨g,mg,rfl⟩,by unfold Bz;rw[k1],?_⟩;obtain k2|⟨k2,k3,k4⟩:=k2
  ·exact .inl (by rw[cc];exact lt k2)
  ·rw[PX]at k4;obtain⟨f,mf,k5⟩:=k4;simp only[NY,decide_eq_true_eq]at k5;refine .inr ⟨by rw[cc,k2];rfl,by rw[dd];exact lt k3,_,MH.mpr ⟨f,mf,rfl⟩,by unfold Bz;rw[k5.1],by rw[cc];exact lt k5.2⟩
theorem LB.pb(h:LB 400 b):∀p∈b.o,Pb p:=λp m=>by
 obtain⟨w,x,y,X,Y,h1,h2,h3,h4,h5,h6,h7,h8⟩:=h.ex;rw[h8]at m;obtain⟨c,mc,rfl⟩:=MH.mp m;have:=Lx h2 h3 h4 h5 w c mc;exact⟨(xV (by omega) (by omega)).up ∅⟩
theorem LB.len{M:Int}(h:LB M b):3<=b.o.length/\b.o.length<=6:=by
 obtain⟨w,x,y,X,Y,h1,h2,h3,h4,h5,h6,h7,h8⟩:=h.ex;rw[h8,fR,ML];exact Aq x y w
theorem LB.gb(h:LB 400 b):GB b.o:=by
 refine⟨λp m=>(h.pb p m).np.spt,?_,λz=>by have:=h.len;rw[z]at this;simp at this⟩;obtain⟨w,x,y,X,Y,h1,h2,h3,h4,h5,h6,h7,h8⟩:=h.ex;rw[h8,Yn];exact CG (Zq h2 h3 h4 h5 h1)
theorem LB.ok(h:LB 400 b):Fh b:=by
 refine⟨by have:=h.len;lia,by have:=h.len;lia,h.pb,λl m=>?_⟩;rw[qT]at m;obtain⟨x,mx,rfl⟩:=MH.mp m;obtain⟨m1,m2⟩:=k8 mx;exact pQ (h.gb.sp _ m1) (h.gb.sp _ m2) (h.gb.cx.ne _ (MH.mpr ⟨x,mx,rfl⟩))
theorem xH(hp:Pb p)(hq:Pb q)(ne:p≠q):tR p q:=⟨hp,hq,ne,pQ hp.np.spt hq.np.spt (qM hp.np hq.np ne)⟩
theorem pW(ha:NP a)(hb:NP b)(hx:NP x)(ne:a≠b)(z:fE (vq a,vq b) (vq x)=0):vq x=dE (vq a) (vq b) (val (cJ a b x)):=by
 have d0:=qM ha hb ne;have c:aU (aR (vq b) (vq a)) (aR (vq x) (vq a))=0:=z;obtain⟨p1,p2⟩:=par d0 c;have n0:aP (aR (vq b) (vq a)) (aR (vq b) (vq a))≠0:=by grind
 generalize hs:aP (aR (vq b) (vq a)) (aR (vq x) (vq a))/aP (aR (vq b) (vq a)) (aR (vq b) (vq a))=s;have e1:val x.1-val a.1=s*(val b.1-val a.1):=by
  have:(val x.1-val a.1)*aP (aR (vq b) (vq a)) (aR (vq b) (vq a))=aP (aR (vq b) (vq a)) (aR (vq x) (vq a))*(val b.1-val a.1):=p1;grind
 have e2:val x.2-val a.2=s*(val b.2-val a.2):=by
  have:(val x.2-val a.2)*aP (aR (vq b) (vq a)) (aR (vq b) (vq a))=aP (aR (vq b) (vq a)) (aR (vq x) (vq a))*(val b.2-val a.2):=p2;grind
 have ev:val (cJ a b x)=s:=by
  unfold cJ
  by_cases q:a.1=b.1
  ·rw[oV q];have q2:a.2≠b.2:=λw=>ne (Prod.ext q w);have y0:=rV hb.y ha.y q2;have n2:=cS hb.y ha.y;rw[Ep (cS hx.y ha.y) n2 y0,dU hx.y ha.y,dU hb.y ha.y,e2];have:val b.2-val a.2≠0:=λw=>q2 (eR ha.y hb.y (by grind));grind
  ·rw[oW q];have x0:=rV hb.x ha.x q;have n2:=cS hb.x ha.x;rw[Ep (cS hx.x ha.x) n2 x0,dU hx.x ha.x,dU hb.x ha.x,e1];have:val b.1-val a.1≠0:=λw=>q (eR ha.x hb.x (by grind));grind
 rw[ev];unfold vq dE;exact Prod.ext (by simp only;grind) (by simp only;grind)
theorem S4(h:0<aP (aR q p) (aR q p)){s t:Rat}(e:dE p q s=dE p q t):s=t:=by
 have e1:p.1+(q.1-p.1)*s=p.1+(q.1-p.1)*t:=congrArg Prod.fst e;have e2:p.2+(q.2-p.2)*s=p.2+(q.2-p.2)*t:=congrArg Prod.snd e;have k1:(q.1-p.1)*(s-t)=0:=by grind
 have k2:(q.2-p.2)*(s-t)=0:=by grind
 obtain z1|z1:=Rat.mul_eq_zero.mp k1
 ·obtain z2|z2:=Rat.mul_eq_zero.mp k2
  ·unfold aP aR at h;rw[z1,z2]at h;grind
  ·grind
 ·grind
theorem Jo(h:0<aP (aR d c) (aR d c))(z1:fE (c,d) p=0)(z2:fE (c,d) q=0):fE (p,q) c=0/\fE (p,q) d=0/\aU (aR q p) (aR d c)=0:=by
 have c0:aU (aR d c) (aR q p)=0:=by
  have:aU (aR d c) (aR q p)=fE (c,d) q-fE (c,d) p:=by unfold fE aU aM aR;grind
  rw[this,z1,z2];grind
 have k1:=jK (w:=aR c p) h c0;have k2:=jK (w:=aR d p) h c0;have n0:aP (aR d c) (aR d c)≠0:=by grind
 have e1:aU (aR c p) (aR d c)=fE (c,d) p:=by unfold fE aU aM aR;grind
 have e2:aU (aR d p) (aR d c)=fE (c,d) p:=by unfold fE aU aM aR;grind
 rw[e1,z1]at k1;rw[e2,z1]at k2;have f1:fE (p,q) c = - aU (aR c p) (aR q p):=by unfold fE aU aM aR;grind
 have f2:fE (p,q) d = - aU (aR d p) (aR q p):=by unfold fE aU aM aR;grind
 have y1:aU (aR c p) (aR q p)=0:=by
  have:aU (aR c p) (aR q p)*aP (aR d c) (aR d c)=0:=by grind
  exact(Rat.mul_eq_zero.mp this).resolve_right n0
 have y2:aU (aR d p) (aR q p)=0:=by
  have:aU (aR d p) (aR q p)*aP (aR d c) (aR d c)=0:=by grind
  exact(Rat.mul_eq_zero.mp this).resolve_right n0
 refine⟨by rw[f1,y1];grind,by rw[f2,y2];grind,?_⟩;unfold aU at c0⊢;grind
theorem uN(hc:Pb c)(hd:Pb d)(hp:Pb p)(hq:Pb q)(n1:c≠d)(n2:p≠q):cO (fJ c d)=cO (fJ p q)↔fE (vq c,vq d) (vq p)=0/\fE (vq c,vq d) (vq q)=0/\0<aP (aM (vq c,vq d)) (aR (vq q) (vq p)):=by
 have d1:=qM hc.np hd.np n1;have d2:=qM hp.np hq.np n2;have g1:=pQ hc.np.spt hd.np.spt d1;have g2:=pQ hp.np.spt hq.np.spt d2;constructor
 ·intro e;obtain⟨k,k0,a1,a2⟩:=Cg hc.np.spt hd.np.spt hp.np.spt hq.np.spt g1;obtain⟨k',k0',b1,b2⟩:=Cg hp.np.spt hq.np.spt hp.np.spt hq.np.spt g2;rw[e,b1]at a1;rw[e,b2]at a2;have y1:fE (vq p,vq q) (vq p)=0:=by unfold fE aU aM aR;grind
  have y2:fE (vq p,vq q) (vq q)=0:=by unfold fE aU aM aR;grind
  rw[y1]at a1;rw[y2]at a2;have z1:fE (vq c,vq d) (vq p)=0:=by
   have:k*fE (vq c,vq d) (vq p)=0:=by grind
   exact(Rat.mul_eq_zero.mp this).resolve_left (by grind)
  have z2:fE (vq c,vq d) (vq q)=0:=by
   have:k*fE (vq c,vq d) (vq q)=0:=by grind
   exact(Rat.mul_eq_zero.mp this).resolve_left (by grind)
  exact⟨z1,z2,(zJ hc.np.spt hd.np.spt hp.np.spt hq.np.spt g1 g2 d1 z1 z2).mp e⟩
 ·rintro⟨z1,z2,z3⟩;exact(zJ hc.np.spt hd.np.spt hp.np.spt hq.np.spt g1 g2 d1 z1 z2).mpr z3
section
variable{P:UU}{w:UY}{K:W.Frag}{mg:Str->Option oA}{base:oE}
def vZ(os:List Ov)(t:Rat):Prop:=∃r,oZ r∈os/\r.2.2≠1/\val r.1<t/\t<val r.2.1
def R4(ts:List (Fr×Fr))(t:Rat):Prop:=∃x∈ts,val x.1<t/\t<val x.2
def lT(os:List Ov):List Rat:=os.flatMap λo=>match o with
 |none=>[]
 |some r=>[val r.1,val r.2.1]
def pK(ts:List (Fr×Fr)):List Rat:=ts.flatMap λx=>[val x.1,val x.2]
theorem Ny{os:List Ov}{r:Fr×Fr×Nat}(m:oZ r∈os):val r.1∈lT os/\val r.2.1∈lT os:=
 ⟨NV.mpr ⟨oZ r,m,by simp⟩,NV.mpr ⟨oZ r,m,by simp⟩⟩
theorem Nz(m:x∈ts):val x.1∈pK ts/\val x.2∈pK ts:=
 ⟨NV.mpr ⟨x,m,by simp⟩,NV.mpr ⟨x,m,by simp⟩⟩
theorem Kk{t:Rat}:∀(os:List Ov)(rows:List kD),(∀o∈os,yL o)->i6 rows->t∉lT os->(∀rs,dN os rows=oZ rs->i6 rs/\(Nn rs t↔Nn rows t/\¬vZ os t))/\(dN os rows=none->∃r,oZ r∈os/\r.2.2≠1/\r.1=(0,1)/\r.2.1=(1,1))
 |[],rows,_,h,_=>⟨λrs e=>by
   cases e;refine⟨h,⟨λz=>⟨z,λzZ=>by obtain⟨r,m,_⟩:=zZ;exact absurd m (by simp)⟩,λz=>z.1⟩⟩,λe=>by cases e⟩
 |none::os,rows,ho,h,hF=>by
  have ih:=Kk os rows (λo m=>ho o (by simp[m])) h (λz=>hF (by unfold lT at z⊢;simp only[OS];exact MV _ z));have cv:vZ (none::os) t↔vZ os t:=by unfold vZ;simp
  refine⟨λrs e=>by rw[cv];exact ih.1 rs e,λe=>?_⟩;obtain⟨r,m,k⟩:=ih.2 e;exact⟨r,by simp[m],k⟩
 |some r::os,rows,ho,h,hF=>by
  have cj:t∉lT os:=λz=>hF (by unfold lT at z⊢;simp only[OS];exact MV _ z);obtain⟨e1,e2⟩:=Ny (os:=oZ r::os) (r:=r) (by simp);obtain⟨f1,f2⟩:=ho (oZ r) (by simp) r rfl;have ak:∀o∈os,yL o:=λo m=>ho o (by simp[m]);unfold dN
  by_cases c:r.2.2=1
  ·rw[oV c];have ih:=Kk os rows ak h cj;have cv:vZ (oZ r::os) t↔vZ os t:=by
    constructor
    ·rintro⟨r',m,k,k'⟩;obtain q|m:=MJ.mp m
     ·cases q;exact absurd c k
     ·exact⟨r',m,k,k'⟩
    ·rintro⟨r',m,k⟩;exact⟨r',by simp[m],k⟩
   refine⟨λrs e=>by rw[cv];exact ih.1 rs e,λe=>?_⟩;obtain⟨r',m,k⟩:=ih.2 e;exact⟨r',by simp[m],k⟩
  ·rw[oW c]
   by_cases d:r.1=(0,1)/\r.2.1=(1,1)
   ·rw[oV d];exact⟨λrs e=>(by cases e),λ_=>⟨r,by simp,c,d⟩⟩
   ·rw[oW d];have ih:=Kk os (bK rows r.1 r.2.1) ak (fY h f1 f2) cj;have nn:=Ld f1.d f2.d h (t:=t) (λz=>hF (z ▸ e1)) (λz=>hF (z ▸ e2));have cv:vZ (oZ r::os) t↔(val r.1<t/\t<val r.2.1)\/vZ os t:=by
     constructor
     ·rintro⟨r',m,k,k'⟩;obtain q|m:=MJ.mp m
      ·cases q;exact .inl k'
      ·exact .inr ⟨r',m,k,k'⟩
     ·rintro (k|⟨r',m,k⟩)
      ·exact⟨r,by simp,c,k⟩
      ·exact⟨r',by simp[m],k⟩
    refine⟨λrs e=>?_,λe=>?_⟩
    ·obtain⟨a,b⟩:=ih.1 rs e;refine⟨a,?_⟩;rw[b,nn,cv];constructor
     ·rintro⟨⟨x,y⟩,z⟩;exact⟨x,λw=>w.elim y z⟩
     ·rintro⟨x,y⟩;exact⟨⟨x,λw=>y (.inl w)⟩,λw=>y (.inr w)⟩
    ·obtain⟨r',m,k⟩:=ih.2 e;exact⟨r',by simp[m],k⟩
theorem R0{t:Rat}:∀(ts:List (Fr×Fr))(rows:List kD),(∀x∈ts,F2 x.1/\F2 x.2)->i6 rows->t∉pK ts->(Nn (mK ts rows) t↔Nn rows t/\¬R4 ts t)
 |[],rows,_,_,_=>⟨λz=>⟨z,λzZ=>by obtain⟨x,m,_⟩:=zZ;exact absurd m (by simp)⟩,λz=>z.1⟩
 |x::ts,rows,ht,h,hF=>by
  obtain⟨f1,f2⟩:=ht x (by simp);obtain⟨e1,e2⟩:=Nz (ts:=x::ts) (x:=x) (by simp);have nn:=Ld f1.d f2.d h (t:=t) (λz=>hF (z ▸ e1)) (λz=>hF (z ▸ e2));have ih:=R0 ts (bK rows x.1 x.2) (λy m=>ht y (by simp[m])) (fY h f1 f2) (λz=>hF (by unfold pK at z⊢;simp only[OS];exact MV _ z));unfold mK;rw[ih,nn];constructor
  ·rintro⟨⟨a,b⟩,c⟩;refine⟨a,λzZ=>?_⟩;obtain⟨y,m,k⟩:=zZ;obtain rfl|m:=MJ.mp m
   ·exact b k
   ·exact c ⟨y,m,k⟩
  ·rintro⟨a,b⟩;exact⟨⟨a,λk=>b ⟨x,by simp,k⟩⟩,λzZ=>by obtain⟨y,m,k⟩:=zZ;exact b ⟨y,by simp[m],k⟩⟩
theorem t6(hs:∀s∈shs,mW s)(en:tR p q)(ax:∀x∈tw,Pb x.1/\Pb x.2){t:Rat}(h1:t∉lT (shs.map λs=>aW s (eQ p q)))(h2:t∉pK (tO p q tw)):
  inA (dZ shs p q tw) t↔(0<t/\t<1)/\¬vZ (shs.map λs=>aW s (eQ p q)) t/\¬R4 (tO p q tw) t:=by
 obtain⟨g1,g2,ye⟩:=Lv en;have r0:i6 lI:=λr m=>by
  have e:r=((0,1),(1,1),false):=by simpa[lI]using m
  subst e;exact⟨Na,Nb⟩
 have n0:Nn lI t↔0<t/\t<1:=by
  unfold Nn lI;constructor
  ·rintro⟨r,m,_,a,b⟩;rw[MW]at m;subst m;simp only at a b;rw[fA]at a;rw[jP]at b;exact⟨a,b⟩
  ·rintro⟨a,b⟩;exact⟨_,MW.mpr rfl,rfl,by simp only;rw[fA];exact a,by simp only;rw[jP];exact b⟩
 have yc:∀o∈shs.map (λs=>aW s (eQ p q)),yL o:=λo m=>by
  obtain⟨s,ms,rfl⟩:=MH.mp m;exact Lg (hs s ms).b g1 g2
 have htp:∀t∈tO p q tw,F2 t.1/\F2 t.2:=λt m=>by
  obtain⟨y,my,rfl⟩:=MH.mp m;exact⟨(jM en.hp en.hq (ax y my).1 en.ne).2.2,(jM en.hp en.hq (ax y my).2 en.ne).2.2⟩
 obtain⟨ga,gb⟩:=Kk _ lI yc r0 h1;unfold dZ pE;cases g:dN (shs.map λs=>aW s (eQ p q)) lI with
 |none=>
  obtain⟨r,m,k,k1,k2⟩:=gb g;constructor
  ·rintro⟨a,m,_⟩;simp at m
  ·rintro⟨⟨a,b⟩,c,_⟩;exact absurd ⟨r,m,k,by rw[k1,fA];exact a,by rw[k2,jP];exact b⟩ c
 |some rs=>
  obtain⟨ro,nn⟩:=ga rs g;have tn:=R0 (tO p q tw) rs htp ro h2;have ie:inA (eD (mK (tO p q tw) rs)) t↔Nn (mK (tO p q tw) rs) t:=by
   unfold inA eD Nn;constructor
   ·rintro⟨a,m,k⟩;obtain⟨r,mr,rfl⟩:=MH.mp m;obtain⟨m1,m2⟩:=NI.mp mr;exact⟨r,m1,by simpa using m2,k⟩
   ·rintro⟨r,m,f,k⟩;exact⟨(r.1,r.2.1),MH.mpr ⟨r,NI.mpr ⟨m,by rw[f];rfl⟩,rfl⟩,k⟩
  show inA (eD (mK (tO p q tw) rs)) t↔_;rw[ie,tn,nn,n0];constructor
  ·rintro⟨⟨a,b⟩,c⟩;exact⟨a,b,c⟩
  ·rintro⟨a,b,c⟩;exact⟨⟨a,b⟩,c⟩
where
 mrgGo (x:Fr×Fr):List (Fr×Fr)->List (Fr×Fr)
  |[]=>[x]
  |y::r=>if x.2=y.1 then mrgGo (x.1,y.2) r else x::mrgGo y r
end
def Iq(es:List EI)(l:I3):List Pr:=(es.filter λe=>decide (e.l=l)).map λe=>(e.p,e.q)
theorem Ji:∀(es pre:List EI)(M:AD),(∀l,dC M l=Iq pre l)->mX shs es M=(es.zipIdx).flatMap λx=>cK x.1 (dZ shs x.1.p x.1.q (Iq (pre++es.take x.2) x.1.l))
 |[],pre,M,_=>rfl
 |e::es,pre,M,hM=>by
  unfold mX;have ih:=Ji (shs:=shs) es (pre++[e]) (jV M e.l (dC M e.l++[(e.p,e.q)])) (λl=>by
   rw[pR,hM,hM];unfold Iq;rw[RN,OE]
   by_cases c:e.l=l
   ·rw[oV c,NT (by simpa using c)];rw[c];rfl
   ·rw[oW c,NU (by simpa using c)];simp)
  rw[ih,List.zipIdx_cons,OS,hM]
  congr 1
  ·simp
  ·rw[show es.zipIdx (0+1)=es.zipIdx.map λx=>(x.1,x.2+1) by rw[TM];exact List.zipIdx_succ,List.flatMap_map]
   congr 1
   funext x
   simp[MO]
theorem Yk(h:(zr g.o)[i]?=oZ (p,q)):(Gi n g i).p=p/\(Gi n g i).q=q/\(Gi n g i).l=cO (fJ p q):=by
 have hi:i<g.o.length:=by rw[<-Iv];exact(MK.mp h).1
 obtain⟨p',q',h1,h2,h3⟩:=Ew hi;rw[h]at h3;cases h3;refine⟨?_,?_,?_⟩
 ·show g.o.getD i BP=p;rw[NG,h1];rfl
 ·show g.o.getD ((i+1)%g.o.length) BP=q;rw[NG,h2];rfl
 ·show(a9 g).ls.getD i (0,0,0)=_;rw[Kz,NG,MT,h];rfl
def bR(o d:Q2)(y:Rat):Q2:=(o.1+d.1*y,o.2+d.2*y)
def sl(d:Q2)(e:Eg):Rat:=aU (aM e) d
def ht(d p:Q2):Rat:=aU p d
theorem nD(e:Eg)(o d:Q2)(y:Rat):fE e (bR o d y)=fE e o+sl d e*y:=by unfold fE sl aU aM aR bR;grind
theorem GA(d:Q2)(e:Eg):sl d e=ht d e.2-ht d e.1:=by unfold sl ht aU aM aR;grind
theorem xO(o d:Q2)(y:Rat):ht d (bR o d y)=ht d o:=by unfold ht aU bR;grind
theorem Tc(d p q:Q2)(t:Rat):ht d (dE p q t)=ht d p+(ht d q-ht d p)*t:=by unfold ht aU dE;grind
def Ow'(B:List (List Eg))(e:Eg)(x:Q2):Prop:=∃es∈B,e∈es/\Bg es x
structure Gn(B:List (List Eg))(o d:Q2):Prop where
 n:∀e∈B.flatten,0<aP (aM e) (aM e)
 v:∀e∈B.flatten,ht d e.1≠ht d o/\ht d e.2≠ht d o
 c:∀e g y,Ow' B e (bR o d y)->Ow' B g (bR o d y)->fE e (bR o d y)=0->fE g (bR o d y)=0->aU (aM e) (aM g)=0
theorem Ow'.m(h:Ow' B e x):e∈B.flatten:=by obtain⟨es,m,me,_⟩:=h;exact QV.mpr ⟨es,m,me⟩
theorem Gn.s(h:Gn B o d)(me:e∈B.flatten){y:Rat}(z:fE e (bR o d y)=0):sl d e≠0:=λs=>by
 have n:=h.n e me;rw[nD,s]at z;have z0:aU (aM e) (aR o e.1)=0:=(show fE e o=0 by grind);have k:=jK (w:=d) n z0;have s':aU d (aM e)=0:=by unfold sl aU at s;unfold aU;grind
 rw[s']at k;have:aU d (aR o e.1)=0:=by
  have k':aU d (aR o e.1)*aP (aM e) (aM e)=0:=by rw[k];grind
  obtain q|q:=Rat.mul_eq_zero.mp k'
  ·exact q
  ·grind
 refine(h.v e me).1 ?_;unfold ht aU aR at *;grind
def vY(b:Bool)(s:Rat):Prop:=if b=true then 0<s else s<0
theorem Lw(hu:0<aP u u)(c:aU u v=0)(k:0<aP u v)(h:vY b (aU u d)):vY b (aU v d):=by
 have e:=jK (w:=d) hu c;have e':aU v d*aP u u=aP u v*aU u d:=by unfold aU at *;grind
 cases b with
 |true=>
  have h:0<aU u d:=h;exact show 0<aU v d from bF hu (by rw[e'];exact Rat.mul_pos k h)
 |false=>
  have h:aU u d<0:=h;have:=Rat.mul_pos k (show 0 < -aU u d by grind);have:0 < -aU v d:=bF hu (by grind);exact show aU v d<0 by grind
theorem Ap{s:Rat}(h:vY b s):¬vY (!b) s:=by
 cases b with
 |true=>have h:0<s:=h;exactλz=>by have z:s<0:=z;grind
 |false=>have h:s<0:=h;exactλz=>by have z:0<s:=z;grind
theorem Wk {s : Rat} (h : s ≠ 0) (b : Bool) : vY b s \/ vY (!b) s := by
  cases b with
  | true => by_cases c : 0 < s
            . exact .inl c
            . exact .inr (show s < 0 by grind)
  | false => by_cases c : 0 < s
             . exact .inr c
             . exact .inl (show s < 0 by grind)
theorem jX{s:Rat}(h:vY b s):s≠0:=λz=>by
 rw[z]at h;cases b with
 |true=>have h:(0:Rat)<0:=h;grind
 |false=>have h:(0:Rat)<0:=h;grind
theorem Gn.zz(h:Gn B o d){y:Rat}(me:Ow' B e (bR o d y))(mg:Ow' B g (bR o d y))(ze:fE e (bR o d y)=0)(zg:fE g (bR o d y)=0):fE e g.1=0/\fE e g.2=0:=by
 have c:=h.c e g y me mg ze zg;have n:=h.n g mg.m;have c':aU (aM g) (aM e)=0:=by unfold aU at *;grind
 have key:∀p,aU (aM g) (aR p (bR o d y))=0->fE e p=0:=λp k=>by
  have q:=jK (w:=aM e) n k;have:fE e p-fE e (bR o d y)=aU (aM e) (aR p (bR o d y)):=by unfold fE aU aR;grind
  rw[ze]at this;rw[c]at q;have q':aU (aM e) (aR p (bR o d y))*aP (aM g) (aM g)=0:=by rw[q];grind
  rcases Rat.mul_eq_zero.mp q' with w|w<;>grind
 refine⟨key _ ?_,key _ ?_⟩
 ·have:aU (aM g) (aR g.1 (bR o d y)) = -fE g (bR o d y):=by unfold fE aU aR;grind
  rw[this,zg];grind
 ·have:aU (aM g) (aR g.2 (bR o d y)) = -fE g (bR o d y):=by unfold fE aU aM aR;grind
  rw[this,zg];grind
def tE(o d:Q2)(e:Eg):Rat:=(ht d o-ht d e.1)/sl d e
theorem tL{h:Rat}(s:sl d e≠0)(z:fE e (bR o d h)=0):bR o d h=dE e.1 e.2 (tE o d e):=by
 have n:0<aP (aM e) (aM e):=by
  have a:=O2 (aM e).1;have b:=O2 (aM e).2;unfold aP
  by_cases c:(aM e).1=0
  ·by_cases c2:(aM e).2=0
   ·exfalso;apply s;unfold sl aU;rw[c,c2];grind
   ·have:=n8 c2;grind
  ·have:=n8 c;grind
 obtain⟨p1,p2⟩:=par n (show aU (aM e) (aR (bR o d h) e.1)=0 from z);have n0:aP (aM e) (aM e)≠0:=by grind
 have hs:ht d o-ht d e.1=aU (aR (bR o d h) e.1) d:=by rw[<-xO o d h];unfold ht aU aR;grind
 have hk:aU (aR (bR o d h) e.1) d*aP (aM e) (aM e)=aP (aM e) (aR (bR o d h) e.1)*sl d e:=by
  unfold sl aU;grind
 have ht':tE o d e*aP (aM e) (aM e)=aP (aM e) (aR (bR o d h) e.1):=by
  unfold tE;rw[hs,Rat.div_def];grind
 generalize tE o d e=t at *;rw[<-ht']at p1 p2;have q1:(aR (bR o d h) e.1).1=t*(aM e).1:=by grind
 have q2:(aR (bR o d h) e.1).2=t*(aM e).2:=by grind
 unfold aR aM aR at q1 q2;unfold dE;exact Prod.ext (by simp only at *;grind) (by simp only at *;grind)
theorem O1{f s h y:Rat}(hy:h<y)(nz:∀z,h<z->z<=y->f+s*z≠0):0<f+s*y↔0<f+s*h\/(f+s*h=0/\0<s):=by
 have root:s≠0->f+s*(-f/s)=0:=λq=>by rw[Rat.div_def];grind
 have mono:∀z w:Rat,0<s->z<w->s*z<s*w:=λz w p q=>by have:=Rat.mul_pos p (show 0<w-z by grind);grind
 have rn:∀z w:Rat,s<0->z<w->s*w<s*z:=λz w p q=>by have:=Rat.mul_pos (show 0 < -s by grind) (show 0<w-z by grind);grind
 by_cases s0:s=0
 ·subst s0;simp only[Rat.zero_mul]at *;constructor
  ·intro q;left;grind
  ·rintro (q|⟨_,q⟩)<;>grind
 ·by_cases sp:0<s
  ·constructor
   ·intro q
    by_cases a:0<f+s*h
    ·exact .inl a
    ·by_cases b:f+s*h=0
     ·exact .inr ⟨b,sp⟩
     ·exfalso;have r:=root s0;have r1:h < -f/s:=Rat.not_le.mp λw=>by
       by_cases w':-f/s=h
       ·rw[w']at r;grind
       ·have:=mono _ _ sp (show -f/s<h by grind);grind
      have r2:-f/s<=y:=Rat.not_lt.mp λw=>by have:=mono _ _ sp w;grind
      exact nz _ r1 r2 r
   ·rintro (q|⟨q,_⟩)
    ·have:=mono _ _ sp hy;grind
    ·have:=mono _ _ sp hy;grind
  ·have sn:s<0:=by grind
   constructor
   ·intro q;have:=rn _ _ sn hy
    left;grind
   ·rintro (q|⟨_,q⟩)
    ·refine Rat.not_le.mp λw=>?_;have r:=root s0;have r1:h < -f/s:=Rat.not_le.mp λw'=>by
      by_cases w'':-f/s=h
      ·rw[w'']at r;grind
      ·have:=rn _ _ sn (show -f/s<h by grind);grind
     have r2:-f/s<=y:=Rat.not_lt.mp λw'=>by have:=rn _ _ sn w';grind
     exact nz _ r1 r2 r
    ·grind
theorem FZ{f s h y:Rat}(hy:y<h)(nz:∀z,y<=z->z<h->f+s*z≠0):0<f+s*y↔0<f+s*h\/(f+s*h=0/\s<0):=by
 have k:=O1 (f:=f) (s:=-s) (h:=-h) (y:=-y) (by grind) (λz a b=>by have:=nz (-z) (by grind) (by grind);grind);have e1:f + -s * -y=f+s*y:=by grind
 have e2:f + -s * -h=f+s*h:=by grind
 rw[e1,e2]at k;rw[k];have:(0 < -s)↔s<0:=⟨λq=>by grind,λq=>by grind⟩;rw[this]
def Wi(es:List Eg)(x:Q2):Prop:=∀e∈es,0<fE e x
def Ej(es:List Eg)(x d:Q2)(b:Bool):Prop:=Bg es x/\∃e∈es,fE e x=0/\vY b (sl d e)
theorem Gn.same(h:Gn B o d)(pg:es∈B)(cx:Cx es){y:Rat}(ib:Bg es (bR o d y))(me:e∈es)(mg:g∈es)(ze:fE e (bR o d y)=0)(zg:fE g (bR o d y)=0)(s:vY b (sl d e)):vY b (sl d g):=by
 have c:=h.c e g y ⟨es,pg,me,ib⟩ ⟨es,pg,mg,ib⟩ ze zg;have n:=h.n e (QV.mpr ⟨es,pg,me⟩);have q:=cx.orient (p:=bR o d y) (q:=((bR o d y).1+(aM e).1,(bR o d y).2+(aM e).2)) me mg ze (by rw[<-ze];unfold fE aU aR;grind) zg (by
  have:fE g ((bR o d y).1+(aM e).1,(bR o d y).2+(aM e).2)=fE g (bR o d y)-aU (aM e) (aM g):=by unfold fE aU aR;grind
  rw[this,zg,c];grind) (by
  have:aP (aR ((bR o d y).1+(aM e).1,(bR o d y).2+(aM e).2) (bR o d y)) (aR ((bR o d y).1+(aM e).1,(bR o d y).2+(aM e).2) (bR o d y))=aP (aM e) (aM e):=by unfold aP aR;grind
  rw[this];exact n) (by
  have:aP (aM e) (aR ((bR o d y).1+(aM e).1,(bR o d y).2+(aM e).2) (bR o d y))=aP (aM e) (aM e):=by unfold aP aR;grind
  rw[this];exact n)
 refine Lw n c ?_ s;have:aP (aM g) (aR ((bR o d y).1+(aM e).1,(bR o d y).2+(aM e).2) (bR o d y))=aP (aM e) (aM g):=by unfold aP aR;grind
 rw[this]at q;exact q
theorem Mw(h:Gn B o d)(pg:es∈B)(cx:Cx es){y z:Rat}(st:∀e∈es,0<fE e (bR o d z)↔0<fE e (bR o d y)\/(fE e (bR o d y)=0/\vY b (sl d e))):Wi es (bR o d z)↔Wi es (bR o d y)\/Ej es (bR o d y) d b:=by
 constructor
 ·intro w
  by_cases c:Wi es (bR o d y)
  ·exact .inl c
  ·right
   refine⟨λe me=>?_,?_⟩
   ·rcases(st e me).mp (w e me)with q|⟨q,_⟩<;>grind
   ·have:∃e∈es,¬0<fE e (bR o d y):=by
     refine Classical.byContradiction λk=>c λe me=>Classical.byContradiction λq=>k ⟨e,me,q⟩
    obtain⟨e,me,ne⟩:=this;rcases(st e me).mp (w e me)with q|q
    ·exact absurd q ne
    ·exact⟨e,me,q⟩
 ·rintro (w|⟨w,e,me,z0,s⟩)
  ·exactλg mg=>(st g mg).mpr (.inl (w g mg))
  ·intro g mg;refine(st g mg).mpr ?_
   by_cases c:fE g (bR o d y)=0
   ·exact .inr ⟨c,h.same pg cx w me mg z0 c s⟩
   ·have:=w g mg
    left;grind
structure Cv(o d:Q2)(y:Rat)(b:Bool)(e:Eg):Prop where
 s:vY b (sl d e)
 z:fE e (bR o d y)=0
 t0:0<tE o d e
 t1:tE o d e<1
theorem Mv(h:Gn B o d)(pg:es∈B)(cx:Cx es){y:Rat}:Ej es (bR o d y) d b↔∃e∈es,Cv o d y b e:=by
 constructor
 ·rintro⟨ib,e,me,z,s⟩;obtain⟨g,mg,on,r,r0,hr⟩:=cx.on me z ib;have sg:sl d g=r*sl d e:=by
   have a:=hr (bR o d (y+1));have a':=hr (bR o d y);rw[nD,nD]at a a';grind
  have s':vY b (sl d g):=by
   rw[sg];cases b with
   |true=>exact show 0<r*sl d e from Rat.mul_pos r0 s
   |false=>
    have s:sl d e<0:=s;have:=Rat.mul_pos r0 (show 0 < -sl d e by grind);exact show r*sl d e<0 by grind
  have p:=tL (jX s') on.z;have n:=h.n g (QV.mpr ⟨es,pg,mg⟩);obtain⟨v1,v2⟩:=h.v g (QV.mpr ⟨es,pg,mg⟩);have a:=on.a;have c:=on.b;rw[p]at a c;have ea:aP (aM g) (aR (dE g.1 g.2 (tE o d g)) g.1)=tE o d g*aP (aM g) (aM g):=by unfold aP aM aR dE;grind
  have ec:aP (aM g) (aR g.2 (dE g.1 g.2 (tE o d g)))=(1-tE o d g)*aP (aM g) (aM g):=by unfold aP aM aR dE;grind
  rw[ea]at a;rw[ec]at c;have a':=dM n a;have c':=dM n c;have hp:ht d o=ht d g.1+(ht d g.2-ht d g.1)*tE o d g:=by rw[<-xO o d y,p,Tc]
  refine⟨g,mg,s',on.z,?_,?_⟩
  ·refine Rat.not_le.mp λq=>v1 ?_;have:tE o d g=0:=by grind
   rw[this]at hp;grind
  ·refine Rat.not_le.mp λq=>v2 ?_;have:tE o d g=1:=by grind
   rw[this]at hp;grind
 ·rintro⟨e,me,k⟩;refine⟨λg mg=>?_,e,me,k.z,k.s⟩;have p:=tL (jX k.s) k.z;rw[p,lU];obtain⟨f,mf,ef,_⟩:=cx.nx e me;have i1:=cx.inn g mg e me;have i2:=cx.inn g mg f mf;rw[ef]at i2;have t0:=k.t0;have t1:=k.t1;have m1:=Rat.mul_nonneg i1 (show 0<=1-tE o d e by grind);have m2:=Rat.mul_nonneg i2 (show 0<=tE o d e by grind);grind
section
variable{P:UU}{w:UY}{K:W.Frag}{mg:Str->Option oA}{base:oE}
structure qO(bs:List jH):Prop where
 gb:∀b∈bs,GB b.o
 pb:∀b∈bs,∀p∈b.o,Pb p
 ok:∀b∈bs,Fh b
def vX(bs:List jH):List (List Eg):=bs.map λb=>d5 b.o
abbrev gT(bs:List jH):List Eg:=(vX bs).flatten
theorem eF(mb:b∈bs):d5 b.o∈vX bs:=MH.mpr ⟨b,mb,rfl⟩
theorem lQ(mb:b∈bs)(me:e∈d5 b.o):e∈gT bs:=QV.mpr ⟨_,eF mb,me⟩
theorem sY(me:e∈gT bs):∃b∈bs,e∈d5 b.o:=by
 obtain⟨es,m,me⟩:=QV.mp me;obtain⟨b,mb,rfl⟩:=MH.mp m;exact⟨b,mb,me⟩
theorem qO.ed(h:qO bs)(mb:b∈bs)(mx:x∈zr b.o):Pb x.1/\Pb x.2/\x.1≠x.2:=by
 obtain⟨m1,m2⟩:=k8 mx;refine⟨h.pb b mb _ m1,h.pb b mb _ m2,λe=>?_⟩;have:=(h.gb b mb).cx.ne _ (MH.mpr ⟨x,mx,rfl⟩);rw[e]at this;unfold aP aM aR at this;grind
theorem Uv(gb:GB g.o)(hp:NP p)(hq:NP q)(ne:p≠q){m:Rat}(m0:0<m)(m1:m<1)(col:∀e∈d5 g.o,fE e (dE (vq p) (vq q) m)=0->fE e (vq p)=0/\fE e (vq q)=0)(ib:Bg (d5 g.o) (dE (vq p) (vq q) m)):∃r,aW (a9 g) (eQ p q)=oZ r/\HU (d5 g.o) (vq p) (vq q) r/\val r.1<m/\m<val r.2.1:=by
 have fs:∀f∈(d5 g.o).map (λe=>(fE e (dE (vq p) (vq q) m),fE e (vq q)-fE e (vq p))),0<f.1\/(f.1=0/\f.2=0):=λf mf=>by
  obtain⟨e,me,rfl⟩:=MH.mp mf;have:=ib e me
  by_cases z:fE e (dE (vq p) (vq q) m)=0
  ·obtain⟨w1,w2⟩:=col e me z;exact .inr ⟨z,by simp only;grind⟩
  ·exact .inl (by simp only;grind)
 obtain⟨ε,e0,eB,he⟩:=KG _ (if m<=1-m then m else 1-m) (by split<;>grind) fs;have e1:ε<=m/\ε<=1-m:=by
  by_cases c:m<=1-m
  ·rw[oV c]at eB;exact⟨eB,by grind⟩
  ·rw[oW c]at eB;exact⟨by grind,eB⟩
 have i1:Bg (d5 g.o) (dE (vq p) (vq q) (m-ε)):=λe me=>by
  have:=(he _ (MH.mpr ⟨e,me,rfl⟩)).2;simp only at this;rw[lU]at this⊢;grind
 have i2:Bg (d5 g.o) (dE (vq p) (vq q) (m+ε)):=λe me=>by
  have:=(he _ (MH.mpr ⟨e,me,rfl⟩)).1;simp only at this;rw[lU]at this⊢;grind
 cases k:aW (a9 g) (eQ p q)with
 |none=>exact(Pd gb hp.spt hq.spt k (t1:=m-ε) (t2:=m+ε) (by grind) (by grind) (by grind) i1 i2).elim
 |some r=>
  have o:=mQ gb hp.spt hq.spt (qM hp hq ne) k;have s1:=(o.s (m-ε) (by grind) (by grind)).mp i1;have s2:=(o.s (m+ε) (by grind) (by grind)).mp i2;exact⟨r,rfl,o,by grind,by grind⟩
theorem CL(hu:0<aP u u)(c:aU u v=0)(s:vY b (aU u d)):0<aP u v↔vY b (aU v d):=by
 refine⟨λk=>Lw hu c k s,λk=>?_⟩;have e:=jK (w:=d) hu c;have e':aU v d*aP u u=aP u v*aU u d:=by unfold aU at *;grind
 cases b with
 |true=>
  have s:0<aU u d:=s;have k:0<aU v d:=k;exact bF s (by rw[<-e'];exact Rat.mul_pos k hu)
 |false=>
  have s:aU u d<0:=s;have k:aU v d<0:=k;have:=Rat.mul_pos (show 0 < -aU v d by grind) hu;exact bF (show 0 < -aU u d by grind) (by grind)
structure Me(bs:List jH)(o d:Q2)(y:Rat)(b:Bool)(p q:Pt):Prop where
 H:qO bs
 G:Gn (vX bs) o d
 me:(vq p,vq q)∈gT bs
 hp:Pb p
 hq:Pb q
 ne:p≠q
 s:vY b (sl d (vq p,vq q))
 z:fE (vq p,vq q) (bR o d y)=0
section
variable{bs:List jH}{o d:Q2}{y:Rat}{b:Bool}{p q:Pt}
theorem Me.at'(h:Me bs o d y b p q):bR o d y=dE (vq p) (vq q) (tE o d (vq p,vq q)):=tL (jX h.s) h.z
theorem Me.d'(h:Me bs o d y b p q):0<aP (aR (vq q) (vq p)) (aR (vq q) (vq p)):=qM h.hp.np h.hq.np h.ne
theorem Me.cv(h:Me bs o d y b p q)(t0:0<tE o d (vq p,vq q))(t1:tE o d (vq p,vq q)<1):Cv o d y b (vq p,vq q):=⟨h.s,h.z,t0,t1⟩
theorem Cv.ow(H:qO bs)(G:Gn (vX bs) o d)(me:e∈gT bs)(k:Cv o d y b e):Ow' (vX bs) e (bR o d y):=by
 obtain⟨g,mg,me⟩:=sY me;exact⟨_,eF mg,me,((Mv G (eF mg) (H.gb g mg).cx).mpr ⟨e,me,k⟩).1⟩
theorem Me.ow(h:Me bs o d y b p q)(t0:0<tE o d (vq p,vq q))(t1:tE o d (vq p,vq q)<1):Ow' (vX bs) (vq p,vq q) (bR o d y):=(h.cv t0 t1).ow h.H h.G h.me
theorem Me.col(h:Me bs o d y b p q)(ow:Ow' (vX bs) (vq p,vq q) (bR o d y))(m:Ow' (vX bs) e (bR o d y))(z:fE e (bR o d y)=0):fE e (vq p)=0/\fE e (vq q)=0:=h.G.zz m ow z h.z
theorem Me.sg(h:Me bs o d y b p q)(z1:fE e (vq p)=0)(z2:fE e (vq q)=0):0<aP (aM e) (aR (vq q) (vq p))↔vY b (sl d e):=by
 have c:aU (aM (vq p,vq q)) (aM e)=0:=by
  have:aU (aM (vq p,vq q)) (aM e)=fE e (vq p)-fE e (vq q):=by unfold fE aU aM aR;grind
  rw[this,z1,z2];grind
 have:=CL (u:=aM (vq p,vq q)) (v:=aM e) (d:=d) h.d' c h.s;have e':aP (aM e) (aR (vq q) (vq p))=aP (aM (vq p,vq q)) (aM e):=by unfold aP aM;grind
 rw[e'];exact this
theorem Me.n0(h:Me bs o d y b p q):tE o d (vq p,vq q)≠0/\tE o d (vq p,vq q)≠1:=by
 obtain⟨v1,v2⟩:=h.G.v _ h.me;have hp:ht d o=ht d (vq p)+(ht d (vq q)-ht d (vq p))*tE o d (vq p,vq q):=by rw[<-xO o d y,h.at',Tc]
 exact⟨λz=>v1 (by rw[z]at hp;simp only;grind),λz=>v2 (by rw[z]at hp;simp only;grind)⟩
theorem Me.covO(h:Me bs o d y b p q)(t0:0<tE o d (vq p,vq q))(t1:tE o d (vq p,vq q)<1):vZ ((bs.map a9).map λs=>aW s (eQ p q)) (tE o d (vq p,vq q))↔(∃g∈bs,Wi (d5 g.o) (bR o d y))\/∃g∈bs,Ej (d5 g.o) (bR o d y) d (!b):=by
 have P:=h.at';have ow:=h.ow t0 t1;constructor
 ·rintro⟨r,m,r1,r2,r3⟩;rw[MY]at m;obtain⟨g,mg,k⟩:=MH.mp m;have ov:=mQ (h.H.gb g mg) h.hp.np.spt h.hq.np.spt h.d' (show aW (a9 g) (eQ p q)=oZ r from k);have ib:Bg (d5 g.o) (bR o d y):=by rw[P];exact(ov.s _ (Rat.le_of_lt t0) (Rat.le_of_lt t1)).mpr ⟨Rat.le_of_lt r2,Rat.le_of_lt r3⟩
  obtain⟨_,no⟩|⟨⟨e,me,z1,z2⟩,r12,or⟩:=ov.h
  ·refine .inl ⟨g,mg,λe me=>?_⟩;have i:=ib e me;have nz:fE e (bR o d y)≠0:=λz=>no e me (h.col ow ⟨_,eF mg,me,ib⟩ z);grind
  ·have z:fE e (bR o d y)=0:=by rw[P,lU,z1,z2];grind
   refine .inr ⟨g,mg,ib,e,me,z,?_⟩;obtain q|q:=Wk (h.G.s (lQ mg me) z) b
   ·have:=(or e me z1 z2).mpr ((h.sg z1 z2).mpr q);exact absurd this r1
   ·exact q
 ·have fin:∀g∈bs,Bg (d5 g.o) (bR o d y)->∃r,aW (a9 g) (eQ p q)=oZ r/\HU (d5 g.o) (vq p) (vq q) r/\val r.1<tE o d (vq p,vq q)/\tE o d (vq p,vq q)<val r.2.1:=λg mg ib=>
   Uv (h.H.gb g mg) h.hp.np h.hq.np h.ne t0 t1 (λe me z=>h.col ow ⟨_,eF mg,me,ib⟩ (by rw[P];exact z)) (by rw[<-P];exact ib)
  rintro (⟨g,mg,wi⟩|⟨g,mg,ib,e,me,z,s⟩)
  ·obtain⟨r,k,ov,r2,r3⟩:=fin g mg λe me=>Rat.le_of_lt (wi e me);refine⟨r,by rw[MY];exact MH.mpr ⟨g,mg,k⟩,λr1=>?_,r2,r3⟩;obtain⟨q,_⟩|⟨⟨e,me,z1,z2⟩,_,_⟩:=ov.h
   ·lia
   ·have:=wi e me;rw[P,lU,z1,z2]at this;grind
  ·obtain⟨r,k,ov,r2,r3⟩:=fin g mg ib;refine⟨r,by rw[MY];exact MH.mpr ⟨g,mg,k⟩,λr1=>?_,r2,r3⟩;obtain⟨z1,z2⟩:=h.col ow ⟨_,eF mg,me,ib⟩ z;obtain⟨q,_⟩|⟨_,_,or⟩:=ov.h
   ·lia
   ·exact Ap ((h.sg z1 z2).mp ((or e me z1 z2).mp r1)) s
theorem Me.endO(h:Me bs o d y b p q):tE o d (vq p,vq q)∉lT ((bs.map a9).map λs=>aW s (eQ p q)):=λw=>by
 have P:=h.at';obtain⟨t0,t1⟩:=h.n0;obtain⟨x,mx,w⟩:=NV.mp w;rw[MY]at mx;obtain⟨g,mg,k⟩:=MH.mp mx;cases x with
 |none=>simp at w
 |some r=>
  have ov:=mQ (h.H.gb g mg) h.hp.np.spt h.hq.np.spt h.d' (show aW (a9 g) (eQ p q)=oZ r from k);simp only[MJ,PU,or_false]at w;have l0:=ov.l0;have l1:=ov.h1;have lt:=ov.lt;have zw:0<tE o d (vq p,vq q)/\tE o d (vq p,vq q)<1:=by rcases w with w|w<;>grind
  have ow:=h.ow zw.1 zw.2;have ib:Bg (d5 g.o) (bR o d y):=by
   rw[P];exact(ov.s _ (Rat.le_of_lt zw.1) (Rat.le_of_lt zw.2)).mpr (by rcases w with w|w<;>rw[w]<;>exact⟨by grind,by grind⟩)
  obtain w|w:=w
  ·obtain e|⟨_,e,me,z1,z2,z3⟩:=ov.lo
   ·rw[e,fA]at w;exact t0 w
   ·rw[<-w,<-P]at z3;have:=h.col ow ⟨_,eF mg,me,ib⟩ z3;grind
  ·obtain e|⟨_,e,me,z1,z2,z3⟩:=ov.hi
   ·rw[e,jP]at w;exact t1 w
   ·rw[<-w,<-P]at z3;have:=h.col ow ⟨_,eF mg,me,ib⟩ z3;grind
structure Xx(bs:List jH)(e:EI):Prop where
 me:(vq e.p,vq e.q)∈gT bs
 hp:Pb e.p
 hq:Pb e.q
 ne:e.p≠e.q
 l:e.l=cO (fJ e.p e.q)
theorem Me.tw(h:Me bs o d y b p q)(k:Xx bs e)(hl:e.l=cO (fJ p q)):∃s1 s2:Rat,s1<s2/\val (cJ p q e.p)=s1/\val (cJ p q e.q)=s2/\vq e.p=dE (vq p) (vq q) s1/\vq e.q=dE (vq p) (vq q) s2/\fE (vq e.p,vq e.q) (bR o d y)=0/\vY b (sl d (vq e.p,vq e.q))/\tE o d (vq p,vq q)=s1+(s2-s1)*tE o d (vq e.p,vq e.q):=by
 rw[k.l]at hl;obtain⟨z1,z2,z3⟩:=(uN k.hp k.hq h.hp h.hq k.ne h.ne).mp hl;obtain⟨y1,y2,_⟩:=Jo (qM k.hp.np k.hq.np k.ne) z1 z2;have s1:=pW h.hp.np h.hq.np k.hp.np h.ne y1;have s2:=pW h.hp.np h.hq.np k.hq.np h.ne y2;have zz:fE (vq e.p,vq e.q) (bR o d y)=0:=by rw[h.at',lU,z1,z2];grind
 have sg:=(h.sg z1 z2).mp z3;have hd:=h.d';generalize val (cJ p q e.p)=a at *;generalize val (cJ p q e.q)=c at *;refine⟨a,c,?_,rfl,rfl,s1,s2,zz,sg,?_⟩
 ·have ev:aP (aM (vq e.p,vq e.q)) (aR (vq q) (vq p))=(c-a)*aP (aR (vq q) (vq p)) (aR (vq q) (vq p)):=by
   unfold aM;simp only;rw[s1,s2];unfold aP aR dE;grind
  rw[ev]at z3;have:=bF hd z3;grind
 ·have P:=h.at';have P2:=tL (jX sg) zz;simp only at P2;rw[P,s1,s2]at P2;refine S4 hd (P2.trans ?_);rw[<-s1,<-s2];generalize tE o d (vq e.p,vq e.q)=u;rw[s1,s2];unfold dE;exact Prod.ext (by simp only;grind) (by simp only;grind)
theorem Me.covT(h:Me bs o d y b p q)(t0:0<tE o d (vq p,vq q))(t1:tE o d (vq p,vq q)<1)(YI:∀e∈pre,Xx bs e):R4 (tO p q (Iq pre (cO (fJ p q)))) (tE o d (vq p,vq q))↔∃e∈pre,Cv o d y b (vq e.p,vq e.q):=by
 constructor
 ·rintro⟨x,mx,k1,k2⟩;obtain⟨w,mw,rfl⟩:=MH.mp mx;obtain⟨e,me,rfl⟩:=MH.mp mw;obtain⟨me,hl⟩:=NI.mp me;obtain⟨s1,s2,lt,v1,v2,_,_,zz,sg,ht⟩:=h.tw (YI e me) (by simpa using hl);simp only at k1 k2;rw[v1,ht]at k1;rw[v2,ht]at k2;have p0:0<s2-s1:=by grind
  refine⟨e,me,sg,zz,?_,?_⟩
  ·exact bF p0 (by grind)
  ·have:0<1-tE o d (vq e.p,vq e.q):=bF p0 (by grind);grind
 ·rintro⟨e,me,k⟩;have ke:=YI e me;obtain⟨z1,z2⟩:=h.col (h.ow t0 t1) (k.ow h.H h.G ke.me) k.z;have z3:=(h.sg z1 z2).mpr k.s;have hl:=(uN ke.hp ke.hq h.hp h.hq ke.ne h.ne).mpr ⟨z1,z2,z3⟩;obtain⟨s1,s2,lt,v1,v2,_,_,zz,sg,ht⟩:=h.tw ke (by rw[ke.l];exact hl);have p0:0<s2-s1:=by grind
  have m1:=Rat.mul_pos k.t0 p0;have m2:=Rat.mul_pos (show 0<1-tE o d (vq e.p,vq e.q) by have:=k.t1;grind) p0;exact⟨_,MH.mpr ⟨(e.p,e.q),MH.mpr ⟨e,NI.mpr ⟨me,by rw[decide_eq_true_eq,ke.l];exact hl⟩,rfl⟩,rfl⟩,by simp only;rw[v1,ht];grind,by simp only;rw[v2,ht];grind⟩
theorem Me.endT(h:Me bs o d y b p q)(YI:∀e∈pre,Xx bs e):tE o d (vq p,vq q)∉pK (tO p q (Iq pre (cO (fJ p q)))):=λw=>by
 obtain⟨x,mx,w⟩:=NV.mp w;obtain⟨u,mu,rfl⟩:=MH.mp mx;obtain⟨e,me,rfl⟩:=MH.mp mu;obtain⟨me,hl⟩:=NI.mp me;obtain⟨s1,s2,lt,v1,v2,e1,e2,zz,sg,ht'⟩:=h.tw (YI e me) (by simpa using hl);obtain⟨w1,w2⟩:=h.G.v _ (YI e me).me;simp only[MJ,PU,or_false]at w;obtain w|w:=w
 ·rw[v1]at w;refine w1 ?_;rw[<-xO o d y,h.at',w,<-e1]
 ·rw[v2]at w;refine w2 ?_;rw[<-xO o d y,h.at',w,<-e2]
theorem Me.inA(h:Me bs o d y b p q)(YI:∀e∈pre,Xx bs e):inA (dZ (bs.map a9) p q (Iq pre (cO (fJ p q)))) (tE o d (vq p,vq q))↔Cv o d y b (vq p,vq q)/\¬((∃g∈bs,Wi (d5 g.o) (bR o d y))\/∃g∈bs,Ej (d5 g.o) (bR o d y) d (!b))/\¬∃e∈pre,Cv o d y b (vq e.p,vq e.q):=by
 have ZJ:∀s∈bs.map a9,mW s:=λs m=>by
  obtain⟨g,mg,rfl⟩:=MH.mp m;exact jF (h.H.ok g mg)
 have twok:∀x∈Iq pre (cO (fJ p q)),Pb x.1/\Pb x.2:=λx m=>by
  obtain⟨e,me,rfl⟩:=MH.mp m;have:=YI e (NI.mp me).1;exact⟨this.hp,this.hq⟩
 rw[t6 ZJ (xH h.hp h.hq h.ne) twok h.endO (h.endT YI)]
 by_cases c:0<tE o d (vq p,vq q)/\tE o d (vq p,vq q)<1
 ·rw[h.covO c.1 c.2,h.covT c.1 c.2 YI];constructor
  ·rintro⟨_,w⟩;exact⟨⟨h.s,h.z,c.1,c.2⟩,w⟩
  ·rintro⟨_,w⟩;exact⟨c,w⟩
 ·constructor
  ·rintro⟨w,_⟩;exact absurd w c
  ·rintro⟨w,_⟩;exact absurd ⟨w.t0,w.t1⟩ c
end
noncomputable def iI (p:Prop):Int:=@ite Int p (Classical.propDecidable p) 1 0
theorem DM{p:Prop}(h:p):iI p=1:=oV h
theorem xP{p:Prop}(h:¬p):iI p=0:=oW h
theorem kJ{p q:Prop}(h:p↔q):iI p=iI q:=by rw[propext h]
def qN(c:Rat)(d:Q2)(r:wX):Int:=if ht d (vq r.2.2.1)<c/\c<ht d (vq r.2.2.2)then 1 else if ht d (vq r.2.2.2)<c/\c<ht d (vq r.2.2.1)then -1 else 0
def Fz(A:List (Fr×Fr))(t:Rat):Int:=(A.map λa=>if val a.1<t/\t<val a.2 then(1:Int)else 0).sum
theorem ID{A:List (Fr×Fr)}{t:Rat}(h:¬inA A t):Fz A t=0:=by
 induction A with
 |nil=>rfl
 |cons a A ih=>
  unfold Fz;rw[MR,NN,oW (λz=>h ⟨a,by simp,z⟩)];have:=ih λzZ=>by obtain⟨b,mb,k⟩:=zZ;exact h ⟨b,by simp[mb],k⟩
  unfold Fz at this;rw[this];rfl
theorem IE{A:List (Fr×Fr)}{t x:Rat}{b:Bool}(s:Xs x b A):Fz A t=iI (inA A t):=by
 induction A generalizing x b with
 |nil=>exact(xP (p:=inA [] t) (by rintro⟨a,m,_⟩;simp at m)).symm
 |cons a A ih=>
  by_cases c:val a.1<t/\t<val a.2
  ·rw[DM ⟨a,by simp,c⟩];have z:=ID (A:=A) (t:=t) λzZ=>by
    obtain⟨u,mu,k⟩:=zZ;have:=(s.2.2.all u mu).1;grind
   unfold Fz at z⊢;rw[MR,NN,oV c,z];rfl
  ·have z:=ih s.2.2;rw[kJ (q:=inA A t) ⟨λzZ=>by
    obtain⟨u,mu,k⟩:=zZ;obtain rfl|mu:=MJ.mp mu
    ·exact absurd k c
    ·exact⟨u,mu,k⟩,λzZ=>by obtain⟨u,mu,k⟩:=zZ;exact⟨u,by simp[mu],k⟩⟩,<-z]
   unfold Fz;rw[MR,NN,oW c];lia
theorem uP(h:F2 f):dJ (low f.1 f.2)/\val (low f.1 f.2)=val f:=by
 have d:f.2≠0:=by have:=h.d;lia
 exact⟨kK d,by rw[mT d];rfl⟩
theorem AR{e:EI}{A:List (Fr×Fr)}(hp:NP e.p)(hq:NP e.q)(hA:∀a∈A,F2 a.1/\F2 a.2){x:Rat}{b':Bool}(sp:Xs x b' A):
  ((sl d (vq e.p,vq e.q)=0\/∃b,vY b (sl d (vq e.p,vq e.q)))/\(sl d (vq e.p,vq e.q)=0->((cK e A).map (qN (ht d o) d)).sum=0)/\∀b,vY b (sl d (vq e.p,vq e.q))->((cK e A).map (qN (ht d o) d)).sum=(if b=true then 1 else -1)*iI (inA A (tE o d (vq e.p,vq e.q)))):=by
 have lt:∀a∈A,val a.1<val a.2:=λa m=>(sp.all a m).2.2;have one:∀a∈A,vq (kN e.p e.q (low a.1.1 a.1.2))=dE (vq e.p) (vq e.q) (val a.1)/\vq (kN e.p e.q (low a.2.1 a.2.2))=dE (vq e.p) (vq e.q) (val a.2):=λa m=>by
  obtain⟨n1,v1⟩:=uP (hA a m).1;obtain⟨n2,v2⟩:=uP (hA a m).2;exact⟨by rw[(uQ hp hq n1).2,v1],by rw[(uQ hp hq n2).2,v2]⟩
 have es:(cK e A).map (qN (ht d o) d)=A.map λa=>qN (ht d o) d (e.n,e.k,kN e.p e.q (low a.1.1 a.1.2),kN e.p e.q (low a.2.1 a.2.2)):=by
  unfold cK;rw[MY];rfl
 have hs:∀s,ht d (dE (vq e.p) (vq e.q) s)=ht d (vq e.p)+sl d (vq e.p,vq e.q)*s:=λs=>by rw[Tc,GA]
 have each:∀a∈A,qN (ht d o) d (e.n,e.k,kN e.p e.q (low a.1.1 a.1.2),kN e.p e.q (low a.2.1 a.2.2))=if ht d (vq e.p)+sl d (vq e.p,vq e.q)*val a.1<ht d o/\ht d o<ht d (vq e.p)+sl d (vq e.p,vq e.q)*val a.2 then 1 else if ht d (vq e.p)+sl d (vq e.p,vq e.q)*val a.2<ht d o/\ht d o<ht d (vq e.p)+sl d (vq e.p,vq e.q)*val a.1 then -1 else 0:=λa m=>by
  obtain⟨o1,o2⟩:=one a m;unfold qN;simp only;rw[o1,o2,hs,hs]
 rw[es,OI each];clear es each one hs;generalize hS:sl d (vq e.p,vq e.q)=S;have htE:S≠0->ht d o=ht d (vq e.p)+S*tE o d (vq e.p,vq e.q):=λn=>by
  unfold tE;rw[hS,Rat.div_def];simp only;grind
 generalize tE o d (vq e.p,vq e.q)=t at *;generalize ht d (vq e.p)=h0 at *;generalize ht d o=c at *;refine⟨?_,λz=>?_,λb hb=>?_⟩
 ·by_cases z:S=0
  ·exact .inl z
  ·exact .inr (by rcases Wk z true with q|q<;>exact⟨_,q⟩)
 ·subst z;have:∀a∈A,(if h0+0*val a.1<c/\c<h0+0*val a.2 then(1:Int)else if h0+0*val a.2<c/\c<h0+0*val a.1 then -1 else 0)=0:=λa _=>by
   rw[oW (by grind),oW (by grind)]
  rw[OI this];clear this lt sp hA
  induction A with
  |nil=>rfl
  |cons a A ih=>rw[MR,NN,ih];rfl
 ·rw[<-IE sp,htE (jX hb)];unfold Fz;have key:∀a∈A,(if h0+S*val a.1<h0+S*t/\h0+S*t<h0+S*val a.2 then(1:Int)else if h0+S*val a.2<h0+S*t/\h0+S*t<h0+S*val a.1 then -1 else 0)=(if b=true then 1 else -1)*(if val a.1<t/\t<val a.2 then(1:Int)else 0):=λa m=>by
   have l:=lt a m;have mul:∀u v:Rat,(0<S->(S*u<S*v↔u<v))/\(S<0->(S*u<S*v↔v<u)):=λu v=>by
    refine⟨λp=>?_,λp=>?_⟩
    ·have:=rK (a:=v-u) p;grind
    ·have:=rK (a:=u-v) (show 0 < -S by grind);grind
   cases b with
   |true=>
    have p:0<S:=hb;have m1:=(mul (val a.1) t).1 p;have m2:=(mul t (val a.2)).1 p;have m3:=(mul (val a.2) t).1 p;have m4:=(mul t (val a.1)).1 p
    by_cases q:val a.1<t/\t<val a.2
    ·rw[oV q,oV (by grind)];rfl
    ·rw[oW q,oW (by grind),oW (by grind)];rfl
   |false=>
    have p:S<0:=hb;have m1:=(mul (val a.1) t).2 p;have m2:=(mul t (val a.2)).2 p;have m3:=(mul (val a.2) t).2 p;have m4:=(mul t (val a.1)).2 p
    by_cases q:val a.1<t/\t<val a.2
    ·rw[oV q,oW (by grind),oV (by grind)];rfl
    ·rw[oW q,oW (by grind),oW (by grind)];rfl
  rw[OI key];clear key lt sp hA
  induction A with
  |nil=>simp
  |cons a A ih=>rw[MR,NN,ih,MR,NN,Int.mul_add]
theorem xN{α:Type}(P:α->Prop):∀(L pre:List α),(L.zipIdx.map λx=>iI (P x.1/\¬∃e∈pre++L.take x.2,P e)).sum=iI ((∃e∈L,P e)/\¬∃e∈pre,P e)
 |[],pre=>(xP (p:=(∃e∈[],P e)/\¬∃e∈pre,P e) (by rintro⟨⟨e,m,_⟩,_⟩;simp at m)).symm
 |a::L,pre=>by
  have ih:=xN P L (pre++[a]);rw[List.zipIdx_cons,MR,NN,show L.zipIdx (0+1)=L.zipIdx.map λx=>(x.1,x.2+1) by rw[TM];exact List.zipIdx_succ,MY];have e1:((λx:α×Nat=>iI (P x.1/\¬∃e∈pre++(a::L).take x.2,P e))∘λx:α×Nat=>(x.1,x.2+1))=λx:α×Nat=>iI (P x.1/\¬∃e∈pre++[a]++L.take x.2,P e):=by
   funext x
   show iI (P x.1/\¬∃e∈pre++(a::L).take (x.2+1),P e)=_;rw[List.take_succ_cons,MO];rfl
  rw[e1,ih];simp only[List.take_zero,NS]
  by_cases q:∃e∈pre,P e
  ·rw[xP (λz=>z.2 q),xP (λz=>z.2 (by obtain⟨e,m,k⟩:=q;exact⟨e,by simp[m],k⟩)),xP (λz=>z.2 q)];rfl
  ·by_cases w:P a
   ·rw[DM ⟨w,q⟩,xP (λz=>z.2 ⟨a,by simp,w⟩),DM ⟨⟨a,by simp,w⟩,q⟩];rfl
   ·rw[xP (λz=>w z.1)];rw[kJ (q:=(∃e∈a::L,P e)/\¬∃e∈pre,P e)]
    ·lia
    ·constructor
     ·rintro⟨⟨e,m,k⟩,_⟩;exact⟨⟨e,by simp[m],k⟩,q⟩
     ·rintro⟨⟨e,m,k⟩,_⟩;refine⟨?_,?_⟩
      ·obtain rfl|m:=MJ.mp m
       ·exact absurd k w
       ·exact⟨e,m,k⟩
      ·rintro⟨u,mu,ku⟩;obtain mu|mu:=NB.mp mu
       ·exact q ⟨u,mu,ku⟩
       ·rw[MW]at mu;subst mu;exact w ku
theorem Md{α:Type}(f g:α->Int):∀L:List α,(L.map λx=>f x+g x).sum=(L.map f).sum+(L.map g).sum
 |[]=>rfl
 |x::L=>by rw[MR,NN,Md f g L,MR,NN,MR,NN];lia
theorem Mf{α:Type}(f g:α->Int):∀L:List α,(L.map λx=>f x-g x).sum=(L.map f).sum-(L.map g).sum
 |[]=>rfl
 |x::L=>by rw[MR,NN,Mf f g L,MR,NN,MR,NN];lia
theorem vS{α:Type}{f:α->Int}:∀{L:List α},(∀x∈L,f x=0)->(L.map f).sum=0
 |[],_=>rfl
 |x::L,h=>by rw[MR,NN,h x (by simp),vS λy m=>h y (by simp[m])];rfl
theorem vR{α β:Type}(f:β->Int)(g:α->List β):∀L:List α,((L.flatMap g).map f).sum=(L.map λx=>((g x).map f).sum).sum
 |[]=>rfl
 |x::L=>by rw[OS,OE,List.sum_append,vR f g L,MR,NN]
def yE(o d:Q2)(e:Eg):Rat:=-fE e o/sl d e
theorem BM(s:sl d e≠0):fE e (bR o d (yE o d e))=0:=by rw[nD];unfold yE;rw[Rat.div_def];grind
theorem Et{y:Rat}(s:sl d e≠0)(z:fE e (bR o d y)=0):y=yE o d e:=by rw[nD]at z;unfold yE;rw[Rat.div_def];grind
def mU(bs:List jH)(marks:Str):Prop:=∀b∈bs,∀k,k<b.o.length->Zc marks (Lc b.m k)=true
def fZ(e:EI):Eg:=(vq e.p,vq e.q)
theorem eC(H:qO bs):∀e∈bQ bs marks,Xx bs e:=λe m=>by
 obtain⟨b,hb,hk,hm,ee⟩:=pD m;obtain⟨p,q,h1,h2,h3⟩:=Ew hk;obtain⟨l1,l2,l3⟩:=Yk (n:=e.n) h3;rw[<-ee]at l1 l2 l3;have mb:=MN hb;have mx:=MN h3;obtain⟨p1,p2,pn⟩:=H.ed mb mx;refine⟨?_,by rw[l1];exact p1,by rw[l2];exact p2,by rw[l1,l2];exact pn,by rw[l1,l2];exact l3⟩;rw[l1,l2];exact lQ mb (MH.mpr ⟨(p,q),mx,rfl⟩)
theorem Qr(M:mU bs marks)(mb:b∈bs)(me:e∈d5 b.o):∃x∈bQ bs marks,fZ x=e:=by
 obtain⟨⟨p,q⟩,mx,rfl⟩:=MH.mp me;obtain⟨i,hi⟩:=OW mx;obtain⟨n,hn⟩:=OW mb;have hk:i<b.o.length:=by rw[<-Iv];exact(MK.mp hi).1
 obtain⟨l1,l2,_⟩:=Yk (n:=n) hi;refine⟨Gi n b i,NV.mpr ⟨(b,n),NL.mpr hn,MH.mpr ⟨i,NI.mpr ⟨OO.mpr hk,M b mb i hk⟩,rfl⟩⟩,?_⟩;unfold fZ;rw[l1,l2]
def Vw(bs:List jH)(marks:Str)(x:EI×Nat):List wX:=cK x.1 (dZ (bs.map a9) x.1.p x.1.q (Iq ((bQ bs marks).take x.2) x.1.l))
theorem lY(bs:List jH)(marks:Str):bL bs marks=(bQ bs marks).zipIdx.flatMap (Vw bs marks):=by
 unfold bL;rw[Ji (bQ bs marks) [] [] (λl=>rfl)];rfl
noncomputable def cX (bs:List jH) (marks:Str) (o d:Q2) (x:EI×Nat):Int:=((Vw bs marks x).map (qN (ht d o) d)).sum
theorem Ra(H:qO bs)(G:Gn (vX bs) o d)(mx:x∈(bQ bs marks).zipIdx):(sl d (fZ x.1)=0\/∃b,vY b (sl d (fZ x.1)))/\(sl d (fZ x.1)=0->cX bs marks o d x=0)/\∀b,vY b (sl d (fZ x.1))->cX bs marks o d x=(if b=true then 1 else -1)*iI (Cv o d (yE o d (fZ x.1)) b (fZ x.1)/\¬((∃g∈bs,Wi (d5 g.o) (bR o d (yE o d (fZ x.1))))\/∃g∈bs,Ej (d5 g.o) (bR o d (yE o d (fZ x.1))) d (!b))/\¬∃e∈(bQ bs marks).take x.2,Cv o d (yE o d (fZ x.1)) b (fZ e)):=by
 have he:=NL.mp mx;have k:=eC H x.1 (MN he);have YI:∀e∈(bQ bs marks).take x.2,Xx bs e:=λe m=>eC H e (OJ m);have ZJ:∀s∈bs.map a9,mW s:=λs m=>by
  obtain⟨g,mg,rfl⟩:=MH.mp m;exact jF (H.ok g mg)
 have twok:∀w∈Iq ((bQ bs marks).take x.2) x.1.l,Pb w.1/\Pb w.2:=λw m=>by
  obtain⟨e,me,rfl⟩:=MH.mp m;have:=YI e (NI.mp me).1;exact⟨this.hp,this.hq⟩
 have en:=xH k.hp k.hq k.ne;obtain⟨r0,r1,r2⟩:=AR (e:=x.1) (o:=o) (d:=d) k.hp.np k.hq.np (pG ZJ en twok) (t7 ZJ en twok).2;refine⟨r0,r1,λb hb=>?_⟩;rw[show cX bs marks o d x=_ from r2 b hb]
 congr 1
 have me:Me bs o d (yE o d (fZ x.1)) b x.1.p x.1.q:=⟨H,G,k.me,k.hp,k.hq,k.ne,hb,BM (jX hb)⟩;have q:=me.inA YI;rw[<-k.l]at q;exact kJ q
theorem HZ(H:qO bs)(G:Gn (vX bs) o d)(M:mU bs marks)(h:Rat):((bQ bs marks).zipIdx.map λx=>if yE o d (fZ x.1)=h then cX bs marks o d x else 0).sum=iI ((∃g∈bs,Wi (d5 g.o) (bR o d h))\/∃g∈bs,Ej (d5 g.o) (bR o d h) d true)-iI ((∃g∈bs,Wi (d5 g.o) (bR o d h))\/∃g∈bs,Ej (d5 g.o) (bR o d h) d false):=by
 have sub:∀g∈bs,∀e∈d5 g.o,e∈gT bs:=λg mg e me=>lQ mg me;have up:∀b,(∃g∈bs,Ej (d5 g.o) (bR o d h) d b)↔∃e∈bQ bs marks,Cv o d h b (fZ e):=λb=>by
  constructor
  ·rintro⟨g,mg,u⟩;obtain⟨e,me,k⟩:=(Mv G (eF mg) (H.gb g mg).cx).mp u;obtain⟨x,mx,rfl⟩:=Qr M mg me;exact⟨x,mx,k⟩
  ·rintro⟨e,me,k⟩;obtain⟨g,hg,hk,_,ee⟩:=pD me;obtain⟨p,q,_,_,h3⟩:=Ew hk;obtain⟨l1,l2,_⟩:=Yk (n:=e.n) h3;rw[<-ee]at l1 l2;have mg:=MN hg;refine⟨g,mg,(Mv G (eF mg) (H.gb g mg).cx).mpr ⟨fZ e,?_,k⟩⟩;unfold fZ;rw[l1,l2];exact MH.mpr ⟨(p,q),MN h3,rfl⟩
 generalize hI:(∃g∈bs,Wi (d5 g.o) (bR o d h))=I;generalize hT:(∃g∈bs,Ej (d5 g.o) (bR o d h) d true)=T;generalize hF:(∃g∈bs,Ej (d5 g.o) (bR o d h) d false)=F;have each:∀x∈(bQ bs marks).zipIdx,(if yE o d (fZ x.1)=h then cX bs marks o d x else 0)=iI (Cv o d h true (fZ x.1)/\¬(I\/F)/\¬∃e∈(bQ bs marks).take x.2,Cv o d h true (fZ e))-iI (Cv o d h false (fZ x.1)/\¬(I\/T)/\¬∃e∈(bQ bs marks).take x.2,Cv o d h false (fZ e)):=λx mx=>by
  obtain⟨r0,r1,r2⟩:=Ra H G mx
  by_cases c:yE o d (fZ x.1)=h
  ·rw[oV c];obtain z|⟨b,hb⟩:=r0
   ·rw[r1 z,xP (λk=>jX k.1.s z),xP (λk=>jX k.1.s z)];rfl
   ·rw[r2 b hb,c];cases b with
    |true=>
     rw[xP (p:=Cv o d h false (fZ x.1)/\_) (λk=>Ap hb k.1.s)];simp only[RG];rw[hI,hF];simp
    |false=>
     rw[xP (p:=Cv o d h true (fZ x.1)/\_) (λk=>Ap hb k.1.s)];simp only[UJ];rw[hI,hT];simp
  ·rw[oW c,xP (λk=>c (Et (jX k.1.s) k.1.z).symm),xP (λk=>c (Et (jX k.1.s) k.1.z).symm)];rfl
 rw[OI each,Mf];have half:∀(b:Bool)(N:Prop),((bQ bs marks).zipIdx.map λx=>iI (Cv o d h b (fZ x.1)/\¬N/\¬∃e∈(bQ bs marks).take x.2,Cv o d h b (fZ e))).sum=iI ((∃g∈bs,Ej (d5 g.o) (bR o d h) d b)/\¬N):=λb N=>by
  rw[kJ (and_congr_left' (up b))]
  by_cases n:N
  ·rw[xP (λk=>k.2 n)];exact vS λx _=>xP λk=>k.2.1 n
  ·have f:=xN (λe=>Cv o d h b (fZ e)) (bQ bs marks) [];rw[kJ (q:=(∃e∈bQ bs marks,Cv o d h b (fZ e))/\¬N) ⟨λk=>⟨k.1,n⟩,λk=>⟨k.1,by rintro⟨e,m,_⟩;simp at m⟩⟩]at f;rw[<-f]
   congr 1
   refine OI λx _=>kJ ⟨λk=>⟨k.1,k.2.2⟩,λk=>⟨k.1,n,k.2⟩⟩
 rw[half true,half false,hT,hF]
 by_cases cI:I<;>by_cases cT:T<;>by_cases cF:F<;>simp[iI,cI,cT,cF]
theorem KH(cx:Cx es)(n0:es≠[])(d0:0<aP d d)(w:Wi es x):∃e∈es,sl d e<0:=by
 refine Classical.byContradiction λk=>?_;have k':∀e∈es,0<=sl d e:=λe me=>Rat.not_lt.mp λq=>k ⟨e,me,q⟩;obtain⟨m,hm,mx⟩:=zM (λe:Eg=>aP d e.1) es n0;have K0:0<=((aP d m.1-aP d x)*(aP d m.1-aP d x)+1)/aP d d:=by
  have:=O2 (aP d m.1-aP d x);rw[Rat.div_def];exact Rat.mul_nonneg (by grind) (Rat.le_of_lt (Rat.inv_pos.mpr d0))
 have K1:((aP d m.1-aP d x)*(aP d m.1-aP d x)+1)/aP d d*aP d d=(aP d m.1-aP d x)*(aP d m.1-aP d x)+1:=by rw[Rat.div_def];grind
 generalize((aP d m.1-aP d x)*(aP d m.1-aP d x)+1)/aP d d=K at *;obtain⟨g,hg,le⟩:=cx.box n0 d (x:=bR x d K) λe me=>by
  rw[nD];have:=Rat.mul_nonneg (k' e me) K0;have:=w e me;grind
 have l2:=mx g hg;have e1:aP d (bR x d K)=aP d x+K*aP d d:=by unfold aP bR;grind
 rw[e1,K1]at le;have:=O2 (aP d m.1-aP d x-1/2);have l2:aP d g.1<=aP d m.1:=l2;grind
theorem U9:∀(L:List Rat)(h:Rat),∃y,h<y/\∀z∈L,z<=h\/y<z
 |[],h=>⟨h+1,by grind,λz m=>absurd m (by simp)⟩
 |a::L,h=>by
  obtain⟨y,y0,hy⟩:=U9 L h
  by_cases c:a<=h
  ·exact⟨y,y0,λz m=>by
    obtain rfl|m:=MJ.mp m
    ·exact .inl c
    ·exact hy z m⟩
  ·refine⟨if y<(h+a)/2 then y else(h+a)/2,by split<;>grind,λz m=>?_⟩;have e:(if y<(h+a)/2 then y else(h+a)/2)<=y/\(if y<(h+a)/2 then y else(h+a)/2)<a:=by split<;>grind
   obtain rfl|m:=MJ.mp m
   ·exact .inr e.2
   ·obtain q|q:=hy z m
    ·exact .inl q
    ·exact .inr (by grind)
theorem Tw:∀L:List Rat,∃y,∀z∈L,y<z
 |[]=>⟨0,λz m=>absurd m (by simp)⟩
 |a::L=>by
  obtain⟨y,hy⟩:=Tw L;refine⟨if y<a then y-1 else a-1,λz m=>?_⟩;have e:(if y<a then y-1 else a-1)<a/\(if y<a then y-1 else a-1)<y:=by split<;>grind
  obtain rfl|m:=MJ.mp m
  ·exact e.1
  ·have:=hy z m;grind
theorem Oe{L:List Rat}{a b h:Rat}(ab:a<b)(m:h∈L)(ha:a<h)(hb:h<b):(L.filter λz=>decide (b<z)).length<(L.filter λz=>decide (a<z)).length:=by
 induction L with
 |nil=>simp at m
 |cons z L ih=>
  have le:∀L:List Rat,(L.filter λz=>decide (b<z)).length<=(L.filter λz=>decide (a<z)).length:=λL=>by
   induction L with
   |nil=>simp
   |cons z L ih=>
    by_cases c:b<z
    ·rw[NT (by simpa using c),NT (by simp;grind)];simp;exact ih
    ·rw[NU (by simpa using c)]
     by_cases c2:a<z
     ·rw[NT (by simpa using c2)];simp;lia
     ·rw[NU (by simpa using c2)];exact ih
  obtain rfl|m:=MJ.mp m
  ·rw[NU (by simp;grind),NT (by simpa using ha)];have:=le L;simp;lia
  ·have ih:=ih m
   by_cases c:b<z
   ·rw[NT (by simpa using c),NT (by simp;grind)];simp;exact ih
   ·rw[NU (by simpa using c)]
    by_cases c2:a<z
    ·rw[NT (by simpa using c2)];simp;lia
    ·rw[NU (by simpa using c2)];exact ih
theorem Js(H:qO bs)(G:Gn (vX bs) o d)(M:mU bs marks)(d0:0<aP d d):∀(n:Nat)(y0:Rat),(((gT bs).map (yE o d)).filter λz=>decide (y0<z)).length<=n->(∀e∈gT bs,fE e (bR o d y0)≠0)->
  ((bQ bs marks).zipIdx.map λx=>if y0<yE o d (fZ x.1)then cX bs marks o d x else 0).sum = - iI (∃g∈bs,Wi (d5 g.o) (bR o d y0)):=by
 have sub:∀g∈bs,∀e∈d5 g.o,e∈gT bs:=λg mg e me=>lQ mg me;have inL:∀x∈(bQ bs marks).zipIdx,yE o d (fZ x.1)∈(gT bs).map (yE o d):=λx mx=>MH.mpr ⟨fZ x.1,(eC H x.1 (MN (NL.mp mx))).me,rfl⟩;have zL:∀e∈gT bs,∀z,fE e (bR o d z)=0->z∈(gT bs).map (yE o d):=λe me z k=>by
  rw[Et (G.s me k) k];exact MH.mpr ⟨e,me,rfl⟩
 intro n
 induction n with
 |zero=>
  intro y0 hn gen;have none:∀z∈(gT bs).map (yE o d),¬y0<z:=λz m q=>by
   have:z∈((gT bs).map (yE o d)).filter λz=>decide (y0<z):=NI.mpr ⟨m,by simpa using q⟩;have:=UD this
   lia
  rw[xP]
  ·exact vS λx mx=>oW (none _ (inL x mx))
  ·rintro⟨g,mg,w⟩;obtain⟨e,me,s⟩:=KH (H.gb g mg).cx (H.gb g mg).es d0 w;have p:=w e me;have z:=BM (o:=o) (show sl d e≠0 by grind);refine none _ (MH.mpr ⟨e,sub g mg e me,rfl⟩) ?_;rw[nD]at p z;generalize yE o d e=y at *;have:0<(y-y0) * -sl d e:=by grind
   have:=bF (show 0 < -sl d e by grind) this;grind
 |succ n ih=>
  intro y0 hn gen
  by_cases c:∃z∈(gT bs).map (yE o d),y0<z
  ·-- the next place
   obtain⟨h,mh,hh,mn⟩:∃h∈(gT bs).map (yE o d),y0<h/\∀z∈(gT bs).map (yE o d),y0<z->h<=z:=by
    obtain⟨z,mz,hz⟩:=c;have ne:((gT bs).map (yE o d)).filter (λz=>decide (y0<z))≠[]:=λq=>by
     have:z∈((gT bs).map (yE o d)).filter λz=>decide (y0<z):=NI.mpr ⟨mz,by simpa using hz⟩;rw[q]at this;simp at this
    obtain⟨h,mh,mx⟩:=zM (λz:Rat=>-z) _ ne;obtain⟨m1,m2⟩:=NI.mp mh;exact⟨h,m1,by simpa using m2,λw mw hw=>by have:=mx w (NI.mpr ⟨mw,by simpa using hw⟩);grind⟩
   obtain⟨y1,hy1,g1⟩:=U9 ((gT bs).map (yE o d)) h;have yg:∀e∈gT bs,∀z,h<z->z<=y1->fE e (bR o d z)≠0:=λe me z a b k=>by
    rcases g1 z (zL e me z k)with q|q<;>grind
   have aBS:∀e∈gT bs,∀z,y0<=z->z<h->fE e (bR o d z)≠0:=λe me z a b k=>by
    by_cases q:y0=z
    ·exact gen e me (q ▸ k)
    ·have:=mn z (zL e me z k) (by grind);grind
   have i1:=ih y1 (by have:=Oe (show y0<y1 by grind) mh hh hy1;lia) (λe me=>yg e me y1 hy1 (by grind));have spl:((bQ bs marks).zipIdx.map λx=>if y0<yE o d (fZ x.1)then cX bs marks o d x else 0).sum=((bQ bs marks).zipIdx.map λx=>if yE o d (fZ x.1)=h then cX bs marks o d x else 0).sum+((bQ bs marks).zipIdx.map λx=>if y1<yE o d (fZ x.1)then cX bs marks o d x else 0).sum:=by
    rw[<-Md]
    congr 1
    refine OI λx mx=>?_;have ml:=inL x mx;generalize yE o d (fZ x.1)=z at ml
    by_cases q:z=h
    ·rw[oV (by grind),oV q,oW (by grind)];lia
    ·by_cases q2:y0<z
     ·have:=mn z ml q2;have:y1<z:=by rcases g1 z ml with w|w<;>grind
      rw[oV q2,oW q,oV this];lia
     ·rw[oW q2,oW q,oW (by grind)];rfl
   rw[spl,i1,HZ H G M h];have u1:(∃g∈bs,Wi (d5 g.o) (bR o d y1))↔(∃g∈bs,Wi (d5 g.o) (bR o d h))\/∃g∈bs,Ej (d5 g.o) (bR o d h) d true:=by
    have k:∀g∈bs,_:=λg mg=>Mw G (eF mg) (H.gb g mg).cx (y:=h) (z:=y1) (b:=true) λe me=>by
     have nz:=λz a b=>yg e (sub g mg e me) z a b;simp only[nD]at nz⊢;exact O1 hy1 nz
    constructor
    ·rintro⟨g,mg,w⟩;rcases(k g mg).mp w with q|q
     ·exact .inl ⟨g,mg,q⟩
     ·exact .inr ⟨g,mg,q⟩
    ·rintro (⟨g,mg,w⟩|⟨g,mg,w⟩)
     ·exact⟨g,mg,(k g mg).mpr (.inl w)⟩
     ·exact⟨g,mg,(k g mg).mpr (.inr w)⟩
   have u0:(∃g∈bs,Wi (d5 g.o) (bR o d y0))↔(∃g∈bs,Wi (d5 g.o) (bR o d h))\/∃g∈bs,Ej (d5 g.o) (bR o d h) d false:=by
    have k:∀g∈bs,_:=λg mg=>Mw G (eF mg) (H.gb g mg).cx (y:=h) (z:=y0) (b:=false) λe me=>by
     have nz:=λz a b=>aBS e (sub g mg e me) z a b;simp only[nD]at nz⊢;exact FZ hh nz
    constructor
    ·rintro⟨g,mg,w⟩;rcases(k g mg).mp w with q|q
     ·exact .inl ⟨g,mg,q⟩
     ·exact .inr ⟨g,mg,q⟩
    ·rintro (⟨g,mg,w⟩|⟨g,mg,w⟩)
     ·exact⟨g,mg,(k g mg).mpr (.inl w)⟩
     ·exact⟨g,mg,(k g mg).mpr (.inr w)⟩
   rw[kJ u1,kJ u0]
   lia
  ·refine ih y0 ?_ gen;have:((gT bs).map (yE o d)).filter (λz=>decide (y0<z))=[]:=List.filter_eq_nil_iff.mpr λz m q=>c ⟨z,m,by simpa using q⟩;rw[this];simp
theorem Rg(H:qO bs)(G:Gn (vX bs) o d)(M:mU bs marks)(d0:0<aP d d):((bL bs marks).map (qN (ht d o) d)).sum=0:=by
 rw[lY,vR];obtain⟨y0,hy⟩:=Tw ((gT bs).map (yE o d));have gen:∀e∈gT bs,fE e (bR o d y0)≠0:=λe me k=>by
  have:=hy _ (MH.mpr ⟨e,me,rfl⟩);rw[<-Et (G.s me k) k]at this;grind
 have j:=Js H G M d0 _ y0 (MQ _) gen;rw[xP]at j
 ·have e:((bQ bs marks).zipIdx.map λx=>((Vw bs marks x).map (qN (ht d o) d)).sum)=(bQ bs marks).zipIdx.map λx=>if y0<yE o d (fZ x.1)then cX bs marks o d x else 0:=OI λx mx=>by
   rw[oV (hy _ (MH.mpr ⟨fZ x.1,(eC H x.1 (MN (NL.mp mx))).me,rfl⟩))];rfl
  rw[e,j];rfl
 ·rintro⟨g,mg,w⟩;obtain⟨e,me,s⟩:=KH (H.gb g mg).cx (H.gb g mg).es (d:=(-d.1,-d.2)) (by unfold aP at *;grind) w;have s':0<sl d e:=by unfold sl aU at *;grind
  have p:=w e me;have z:=BM (o:=o) (show sl d e≠0 by grind);have l:=hy _ (MH.mpr ⟨e,lQ mg me,rfl⟩);rw[nD]at p z;generalize yE o d e=y at *;have:=Rat.mul_pos (show 0<y-y0 by grind) s';grind
end
theorem Gv(hn:∀e∈B.flatten,0<aP (aM e) (aM e))(d w:Q2)(hw:ht d w=1):∃F:List Rat,∀c,c∉F->Gn B (c*w.1,c*w.2) d/\ht d (c*w.1,c*w.2)=c:=by
 refine⟨B.flatten.map (λe=>ht d e.1)++B.flatten.map (λe=>ht d e.2)++B.flatten.flatMap (λe=>B.flatten.map λg=>(aU (aM e) e.1*aU (aM g) d-aU (aM g) g.1*aU (aM e) d)/aU (aM e) (aM g)),λc hc=>?_⟩;have ay:ht d (c*w.1,c*w.2)=c:=by
  have:ht d (c*w.1,c*w.2)=c*ht d w:=by unfold ht aU;grind
  rw[this,hw];grind
 refine⟨⟨hn,λe me=>⟨λq=>hc ?_,λq=>hc ?_⟩,λe g y oe og z1 z2=>?_⟩,ay⟩
 ·rw[ay]at q;exact NJ _ (NJ _ (MH.mpr ⟨e,me,q⟩))
 ·rw[ay]at q;exact NJ _ (MV _ (MH.mpr ⟨e,me,q⟩))
 ·refine Classical.byContradiction λk=>hc (MV _ (NV.mpr ⟨e,oe.m,MH.mpr ⟨g,og.m,?_⟩⟩));have hp:=xO (c*w.1,c*w.2) d y;rw[ay]at hp;generalize bR (c*w.1,c*w.2) d y=P at *;have a1:aU (aM e) P=aU (aM e) e.1:=by unfold fE aU aR at z1;unfold aU;grind
  have a2:aU (aM g) P=aU (aM g) g.1:=by unfold fE aU aR at z2;unfold aU;grind
  have id1:aU P d*aU (aM e) (aM g)=aU (aM e) P*aU (aM g) d-aU (aM g) P*aU (aM e) d:=by unfold aU;grind
  rw[<-a1,<-a2,<-id1,<-hp];show aU P d*_/_=aU P d;rw[Rat.div_def];grind
def cE:List Rat->Rat
 |[]=>0
 |x::xs=>x+cE xs
def Cm(c:Rat)(L:List Rat):Nat:=(L.filter λz=>decide (z<c)).length
theorem j5(c z:Rat)(L:List Rat):Cm c (z::L)=(if z<c then 1 else 0)+Cm c L:=by
 unfold Cm
 by_cases q:z<c
 ·rw[NT (by simpa using q),oV q,MS];lia
 ·rw[NU (by simpa using q),oW q];lia
theorem rJ{x c1 c2:Rat}(h1:c1<x)(h2:x<c2):∀L:List Rat,(∀z∈L,z=x\/z<c1\/c2<z)->Cm c2 L=Cm c1 L+L.count x
 |[],_=>rfl
 |z::L,h=>by
  have ih:=rJ h1 h2 L λw m=>h w (by simp[m]);rw[j5,j5,UA];obtain q|q|q:=h z (by simp)
  ·subst q;rw[oV h2,oW (by grind),oV (by simp)];lia
  ·rw[oV (by grind),oV q,oW (by simp;grind)];lia
  ·rw[oW (by grind),oW (by grind),oW (by simp;grind)];lia
theorem Ng(L:List Rat)(h:Rat):∃y,y<h/\∀z∈L,h<=z\/z<y:=by
 obtain⟨y,y0,hy⟩:=U9 (L.map λz=>-z) (-h);refine⟨-y,by grind,λz m=>?_⟩;obtain q|q:=hy (-z) (MH.mpr ⟨z,m,rfl⟩)
 ·exact .inl (by grind)
 ·exact .inr (by grind)
theorem uW{P Q F:List Rat}(h:∀c,c∉F->Cm c P=Cm c Q):P.Perm Q:=by
 rw[SN];intro x;obtain⟨c2,g2,h2⟩:=U9 (P++Q++F) x;obtain⟨c1,g1,h1⟩:=Ng (P++Q++F) x;have sep:∀z∈P++Q++F,z=x\/z<c1\/c2<z:=λz m=>by
  obtain q|q:=h2 z m
  ·obtain w|w:=h1 z m
   ·exact .inl (by grind)
   ·exact .inr (.inl w)
  ·exact .inr (.inr q)
 have nF:∀c,(c=c1\/c=c2)->c∉F:=λc hc m=>by
  rcases sep c (MV _ m)with q|q|q<;>rcases hc with w|w<;>grind
 have a:=rJ g1 g2 P λz m=>sep z (NJ _ (NJ _ m));have b:=rJ g1 g2 Q λz m=>sep z (NJ _ (MV _ m));have e1:=h c1 (nF c1 (.inl rfl));have e2:=h c2 (nF c2 (.inr rfl))
 lia
theorem L0{α:Type}{f g:α->Rat}{c:Rat}:∀{R:List α},(∀r∈R,f r≠c/\g r≠c)->(R.map λr=>if f r<c/\c<g r then(1:Int)else if g r<c/\c<f r then -1 else 0).sum=(Cm c (R.map f):Int)-(Cm c (R.map g):Int)
 |[],_=>rfl
 |r::R,h=>by
  have ih:=L0 (R:=R) λx m=>h x (by simp[m]);obtain⟨n1,n2⟩:=h r (by simp);rw[MR,NN,ih,MR,MR,j5,j5]
  by_cases a:f r<c
  ·by_cases b:g r<c
   ·rw[oW (by grind),oW (by grind),oV a,oV b];push_cast;lia
   ·rw[oV (by grind),oV a,oW b];push_cast;lia
  ·by_cases b:g r<c
   ·rw[oW (by grind),oV (by grind),oW a,oV b];push_cast;lia
   ·rw[oW (by grind),oW (by grind),oW a,oW b];push_cast;lia
theorem G3(H:qO bs)(M:mU bs marks)(d0:0<aP d d):((bL bs marks).map λr=>ht d (vq r.2.2.1)).Perm ((bL bs marks).map λr=>ht d (vq r.2.2.2)):=by
 have hn:∀e∈gT bs,0<aP (aM e) (aM e):=λe me=>by
  obtain⟨b,mb,me⟩:=sY me;exact(H.gb b mb).cx.ne e me
 obtain⟨F,hF⟩:=Gv hn d (d.2/aP d d,-d.1/aP d d) (by
  show d.2/aP d d*d.2 - -d.1/aP d d*d.1=1;have:aP d d=d.1*d.1+d.2*d.2:=rfl;rw[Rat.div_def,Rat.div_def];have n0:aP d d≠0:=by grind
  grind)
 refine uW (F:=F++(bL bs marks).map (λr=>ht d (vq r.2.2.1))++(bL bs marks).map λr=>ht d (vq r.2.2.2)) λc hc=>?_;obtain⟨G,ay⟩:=hF c λm=>hc (NJ _ (NJ _ m));have z:=Rg (marks:=marks) H G M d0;rw[ay]at z;have:=L0 (f:=λr:wX=>ht d (vq r.2.2.1)) (g:=λr:wX=>ht d (vq r.2.2.2)) (c:=c) (R:=bL bs marks) λr m=>⟨λq=>hc (NJ _ (MV _ (MH.mpr ⟨r,m,q⟩))),λq=>hc (MV _ (MH.mpr ⟨r,m,q⟩))⟩;have e:((bL bs marks).map (qN c d)).sum=_:=this
 lia
section
variable{P:UU}{w:UY}{K:W.Frag}{mg:Str->Option oA}{base:oE}
def fU{α:Type}:List α->List α
 |[]=>[]
 |[x]=>[x]
 |x::_::r=>x::fU r
def j8{α:Type}:List α->List α
 |[]=>[]
 |[_]=>[]
 |_::y::r=>y::j8 r
theorem Vg(n:Nat):N7 n none (oZ 2)=(OG ((n+1)/2)).map (2 * ·):=by
 have e:VM none none (oZ 2) n=(0,(n:Int),2):=rfl;unfold N7;rw[e];unfold sliceRange;simp only;have c:(if(2:Int)>0 then(if(0:Int)<(n:Int)then((n:Int)-0+2-1)/2 else 0)else(if(0:Int)>(n:Int)then(0-(n:Int)-2-1)/(-2)else 0)).toNat=(n+1)/2:=by
  rw[oV ∅]
  split<;>lia
 rw[c];refine OI λk _=>?_
 lia
theorem D4(n:Nat):N7 n (oZ 1) (oZ 2)=(OG (n/2)).map (2 * · + 1):=by
 have e:VM (oZ 1) none (oZ 2) n=(max 0 (min 1 (n:Int)),(n:Int),2):=rfl;unfold N7;rw[e];unfold sliceRange;simp only;have c:(if(2:Int)>0 then(if max 0 (min 1 (n:Int))<(n:Int)then((n:Int)-max 0 (min 1 (n:Int))+2-1)/2 else 0)else(if max 0 (min 1 (n:Int))>(n:Int)then(max 0 (min 1 (n:Int))-(n:Int)-2-1)/(-2)else 0)).toNat=n/2:=by
  rw[oV ∅]
  split<;>lia
 rw[c];refine OI λk m=>?_;have:=OO.mp m
 lia
theorem uC{α:Type}:∀xs:List α,((OG ((xs.length+1)/2)).map (2 * ·)).filterMap (xs[·]?)=fU xs
 |[]=>by simp[fU]
 |[x]=>by simp[fU]
 |x::y::r=>by
  have ih:=uC r;have e:((x::y::r).length+1)/2=(r.length+1)/2+1:=by simp;lia
  rw[e,RW,MR,NZ (b:=x) (by rfl),fU,<-ih,MY,QZ,QZ]
  congr 1
theorem zP{α:Type}:∀xs:List α,((OG (xs.length/2)).map (2 * · + 1)).filterMap (xs[·]?)=j8 xs
 |[]=>by simp[j8]
 |[x]=>by simp[j8]
 |x::y::r=>by
  have ih:=zP r;have e:(x::y::r).length/2=r.length/2+1:=by simp;lia
  rw[e,RW,MR,NZ (b:=y) (by rfl),j8,<-ih,MY,QZ,QZ]
  congr 1
theorem Il{α:Type}(xs:List α):d9 xs none (oZ 2)=fU xs:=by
 unfold d9;rw[Vg];exact uC xs
theorem Pq{α:Type}(xs:List α):d9 xs (oZ 1) (oZ 2)=j8 xs:=by
 unfold d9;rw[D4];exact zP xs
theorem xI{α β:Type}(f:α->β):∀xs:List α,fU (xs.map f)=(fU xs).map f
 |[]=>rfl
 |[x]=>rfl
 |x::y::r=>by show f x::fU (r.map f)=_;rw[xI f r];rfl
theorem Cs{α β:Type}(f:α->β):∀xs:List α,j8 (xs.map f)=(j8 xs).map f
 |[]=>rfl
 |[x]=>rfl
 |x::y::r=>by show f y::j8 (r.map f)=_;rw[Cs f r];rfl
theorem Rk(xs:List L2.T)(m:Nat):i9 xs (oZ (m:Int)) none=xs.drop m:=by
 unfold i9;rw[HT.sIx_none,HT.sIx_nat];obtain h|h:=Nat.le_total m xs.length
 ·rw[SG h];exact PY (by simp)
 ·rw[Nat.min_eq_right h,PV,List.drop_eq_nil_of_le h];simp
structure MU(U:Nat)(f:Fr)(m:Int):Prop where
 n:dJ f
 e:val f*(U:Rat)=(m:Rat)
theorem MU.sz{U:Nat}{m:Int}(h:MU U f m)(u0:0<U){e:Nat}(hu:U<2^e)(hm:m.natAbs<2^e)(he:1<=e):My.sz f<=e:=by
 have d1:=h.n.d;have n0:(f.2:Rat)≠0:=by exact_mod_cast (show f.2≠0 by lia)
 have e1:f.1*(U:Int)=m*f.2:=by
  have:=h.e;unfold val at this;have k:(f.1:Rat)*(U:Rat)=(m:Rat)*(f.2:Rat):=by rw[<-this,Rat.div_def];grind
  exact_mod_cast k
 have e2:f.1.natAbs*U=m.natAbs*f.2.natAbs:=by
  have:=congrArg Int.natAbs e1;rw[OK,OK,SV]at this;exact this
 have dv:f.2.natAbs∣U:=by
  have c:RX f.2.natAbs f.1.natAbs:=by unfold RX;rw[SE];exact h.n.g
  exact c.dvd_of_dvd_mul_left ⟨m.natAbs,by rw[e2];exact Nat.mul_comm _ _⟩
 obtain⟨c,hc⟩:=dv;have f0:0<f.2.natAbs:=⋯
 have c0:0<c:=by
  obtain z|z:=SS c
  ·rw[z]at hc;lia
  ·exact z
 have e3:f.1.natAbs*c=m.natAbs:=by
  rw[hc,<-Nat.mul_assoc,Nat.mul_comm f.1.natAbs,Nat.mul_assoc,Nat.mul_comm m.natAbs]at e2;exact Nat.eq_of_mul_eq_mul_left f0 e2
 refine mJ ?_ ?_ he
 ·exact NH (by rw[<-e3];exact TU _ c0) hm
 ·exact NH (by rw[hc];exact TU _ c0) hu
theorem MU.add{U:Nat}{m n:Int}(h:MU U f m)(k:MU U g n):MU U (eM f g) (m+n):=⟨iF h.n k.n,by rw[gP h.n k.n];push_cast;have:=h.e;have:=k.e;grind⟩
def bI(xs:List (Fr×Int)):List (Fr×Int):=((fU xs).zip (j8 xs)).map λp=>(eM p.1.1 p.2.1,p.1.2+p.2.2)
def vQ:List (Fr×Int)->Int
 |[]=>0
 |x::xs=>x.2+vQ xs
def rW:List (Fr×Int)->Nat
 |[]=>0
 |x::xs=>x.2.natAbs+rW xs
def BN(U:Nat)(xs:List (Fr×Int)):Prop:=∀x∈xs,MU U x.1 x.2
theorem sI{U:Nat}:∀xs:List (Fr×Int),BN U xs->BN U (bI xs)/\(bI xs).length=xs.length/2/\vQ (bI xs++xs.drop ((bI xs).length*2))=vQ xs/\rW (bI xs++xs.drop ((bI xs).length*2))<=rW xs/\BN U (xs.drop ((bI xs).length*2))
 |[],h=>⟨λf m=>absurd m (by simp[bI,fU,j8]),rfl,rfl,MQ _,λf m=>absurd m (by simp)⟩
 |[x],h=>⟨λf m=>absurd m (by simp[bI,fU,j8]),by simp[bI,fU,j8],rfl,MQ _,h⟩
 |x::y::r,h=>by
  obtain⟨h1,h2,h3,h4,h5⟩:=sI r λf m=>h f (by simp[m]);have hx:=h x (by simp);have hy:=h y (by simp);have e:bI (x::y::r)=(eM x.1 y.1,x.2+y.2)::bI r:=rfl;have ed:(x::y::r).drop ((bI (x::y::r)).length*2)=r.drop ((bI r).length*2):=by
   rw[e,MS,show((bI r).length+1)*2=(bI r).length*2+1+1 by lia];rfl
  rw[ed,e];refine⟨λf m=>?_,by simp[h2];lia,?_,?_,h5⟩
  ·obtain rfl|m:=MJ.mp m
   ·exact hx.add hy
   ·exact h1 f m
  ·show x.2+y.2+vQ (bI r++_)=x.2+(y.2+vQ r);rw[h3];lia
  ·show(x.2+y.2).natAbs+rW (bI r++_)<=x.2.natAbs+(y.2.natAbs+rW r)
   lia
theorem Jg:∀{xs:List (Fr×Int)}{x:Fr×Int},x∈xs->x.2.natAbs<=rW xs
 |y::xs,x,m=>by
  show x.2.natAbs<=y.2.natAbs+rW xs;obtain rfl|m:=MJ.mp m
  ·lia
  ·have:=Jg m;lia
theorem Mt:∀{xs:List (Fr×Int)}{p:(Fr×Int)×(Fr×Int)},p∈(fU xs).zip (j8 xs)->p.1∈xs/\p.2∈xs
 |[],p,m=>by simp[fU,j8]at m
 |[x],p,m=>by simp[fU,j8]at m
 |x::y::r,p,m=>by
  rcases MJ.mp (show p∈(x,y)::(fU r).zip (j8 r)from m)with rfl|m
  ·exact⟨by simp,by simp⟩
  ·obtain⟨h2,h3⟩:=Mt m;exact⟨by simp[h2],by simp[h3]⟩
def fx(x:Fr×Int):L2.T:=fr x.1
def Xa:iO:=λas Q=>∃(xs:List (Fr×Int))(N:Nat),as=[.v (.lst (xs.map fx))]/\xs.length<=8000/\BN N xs/\0<N/\N<2^3700/\rW xs<2^3700/\∀t,MU N t (vQ xs)->sz t<=3700->Q (.v (fr t)) []
abbrev sF(P w K mg base):=(~~~Fn) 4 "total_of" ["sizes"] (aQ K Xa)
abbrev nZ:UZ:=top 39
theorem mH:aK ["sizes","pairs"] ["sizes"] (aC nZ):=iG
theorem Df(F:dY K "total_of" "total_of" nZ f fd)(TX:Txt mg)(YR: ~~~tS):(~~~bE) eT 4 f fd ["sizes"] (aQ K Xa):=by
 refine F.okU mH (λhr=>(aB (uI PassesOwn.never (fP uU (jS rfl rfl TX.n_len (f1 (fv 0))) aA) (aB (pP (i:=1) (N':=oG) (t:=2) (cap:=[]) mH.nd rfl (ON rfl) rfl rfl (bH.of rfl) rfl ∅ (Kc rfl rfl TX.n_zip (f2 (Ka rfl (fv 0) kH (fF aA)) (Ka rfl (fv 0) (fF aA) (fF aA)))) (λ_ _ _ _=>(bS (n:=2) rfl rfl (aE (fH 0) (aE (fH 1) bG)))) (λ_ _ _ _=>(fK YR (f2 (fv 0) (fv 1))))) (aG (fS 0 mH.nd (Si (fv 1) (jZ rfl (fv 0) (fF (aL aO (jS rfl rfl TX.n_len (f1 (fv 1))) aA)) kH)))))) (aG (aN (pO (U7 rfl (fv 0)) (fQ 0) (aH (f2 aA aA))))))) ?_;rintro as Q ⟨xs,N,rfl,hl,hn,u0,hN,hs,z⟩;refine⟨λm E=>∃(gs:List (Fr×Int))(u:U)(v:Option U),E=[oZ u,v]/\(u = .p (.lst (gs.map fx))\/u = .o false (gs.map fx))/\m=gs.length/\gs.length<=8000/\BN N gs/\rW gs<2^3700/\vQ gs=vQ xs,⟨_,xs,_,_,rfl,.inl rfl,rfl,hl,hn,hs,rfl⟩,?_⟩;rintro m E ⟨gs,u,v,rfl,hu,rfl,hl,hn,hs,hv⟩;have rl:d9 (gs.map fx) none (oZ 2)=(fU gs).map fx:=by rw[Il,xI]
 have gf:d9 (gs.map fx) (oZ 1) (oZ 2)=(j8 gs).map fx:=by rw[Pq,Cs]
 obtain⟨p1,p2,p3,p4,p5⟩:=sI gs hn;have le1:∀gs:List (Fr×Int),(fU gs).length<=gs.length/\(j8 gs).length<=gs.length:=λgs=>by
  have h1:=congrArg RU (uC gs);have h2:=congrArg RU (zP gs);have a1:=TN (gs[·]?) ((OG ((gs.length+1)/2)).map (2 * ·));have a2:=TN (gs[·]?) ((OG (gs.length/2)).map (2 * · + 1));rw[ML,List.length_range]at a1 a2
  lia
 obtain⟨l1,l2⟩:=le1 gs;have sf:∀x∈gs,sz x.1<=3700:=λx m=>(hn x m).sz u0 hN (NH (Jg m) hs) ∅;have jr:rW (bI gs++gs.drop ((bI gs).length*2))<2^3700:=NH p4 hs;obtain rfl|rfl:=hu
 all_goals
  show if decide ((1:Int)<((gs.map fx).length:Int))=true then _ else _
  by_cases c:(1:Int)<((gs.map fx).length:Int)
  ·rw[oY c,oV rfl];rw[ML]at c;refine⟨(show(oZ (2:Int))≠oZ 0 by decide),?_,(show(oZ (2:Int))≠oZ 0 by decide),?_,rfl,?_⟩
   ·show(d9 (gs.map fx) none (oZ 2)).length<=9000;rw[rl,ML];lia
   ·show(d9 (gs.map fx) (oZ 1) (oZ 2)).length<=9000;rw[gf,ML];lia
   ·show gV _ _ (gQ (d9 (gs.map fx) none (oZ 2)) (d9 (gs.map fx) (oZ 1) (oZ 2))) _ _;rw[rl,gf,zip_map];refine cD (f:=λp:(Fr×Int)×(Fr×Int)=>.tup [fx p.1,fx p.2]) (h:=λp=>fr (eM p.1.1 p.2.1)) (λ(w:Option U×Option U)acc=>[w.1,w.2,↥acc]) _ (none,none) [] (by simp;lia) (λp m w acc rest ha K=>?_) λw=>?_
    ·obtain⟨s2,s3⟩:=Mt m;have k2:=sf _ s2;have k3:=sf _ s3;exact⟨p.1.1,p.2.1,rfl,(hn _ s2).n,(hn _ s3).n,⋯,ha,K (⇑(fx p.1),⇑(fx p.2))⟩
    ·refine⟨aZ (λ_=>rfl) _,?_⟩;rw[OP,show(((fU gs).zip (j8 gs)).map λp=>fr (eM p.1.1 p.2.1))=(bI gs).map fx by rw[bI,MY];rfl];have ec:i9 (gs.map fx) (oZ ((((bI gs).map fx).length:Int)*2)) none=(gs.drop ((bI gs).length*2)).map fx:=by
      rw[ML,show(((bI gs).length:Int)*2)=(((bI gs).length*2:Nat):Int) by push_cast;rfl,Rk,List.map_drop]
     refine⟨wG ∅,?_,?_⟩
     ·show((bI gs).map fx).length+(i9 (gs.map fx) (oZ ((((bI gs).map fx).length:Int)*2)) none).length<=9000;rw[ec,ML,ML,QM];lia
     ·refine⟨(bI gs++gs.drop ((bI gs).length*2)).length,by rw[MP,QM];lia,bI gs++gs.drop ((bI gs).length*2),.o false ((bI gs++gs.drop ((bI gs).length*2)).map fx),↥((bI gs).map fx),?_,.inr rfl,rfl,by rw[MP,QM];lia,λf m=>(NB.mp m).elim (p1 f) (p5 f),jr,by rw[p3,hv]⟩;rw[OE,<-ec];rfl
  ·rw[oX c,oW ∅];rw[ML]at c
   match gs,hn,hv,sf,c with
   |[],hn,hv,sf,c=>
    refine⟨rfl,z (0,1) ⟨⟨∅,∅⟩,?_⟩ ?_⟩
    ·rw[<-hv];show val (0,1)*_=((0:Int):Rat);rw[fA];grind
    ·exact OH (mJ (e:=1) (p:=(0,1)) ∅ ∅ ∅) ∅
   |[g],hn,hv,sf,c=>
    refine⟨rfl,z g.1 ?_ (sf g (by simp))⟩;rw[<-hv];have:vQ [g]=g.2:=by show g.2+0=g.2;lia
    rw[this];exact hn g (by simp)
   |_::_::_,hn,hv,sf,c=>simp at c;lia
def uX(r:wX):Pr:=(r.2.2.1,r.2.2.2)
def BO(x:Pr):Fr:=gY x.1.1 x.1.2 x.2.1 x.2.2
def Bj(N B:Nat)(p:Pt):Prop:=∃m n:Int,MU N p.1 m/\MU N p.2 n/\m.natAbs<=B/\n.natAbs<=B
theorem MU.mul{U V:Nat}{m n:Int}(h:MU U f m)(k:MU V g n):MU (U*V) (eV f g) (m*n):=⟨bX h.n k.n,by
 rw[dS h.n k.n];push_cast;have:=h.e;have:=k.e;rw[<-h.e,<-k.e];grind⟩
theorem MU.sub{U:Nat}{m n:Int}(h:MU U f m)(k:MU U g n):MU U (dO f g) (m-n):=⟨cS h.n k.n,by rw[dU h.n k.n];push_cast;have:=h.e;have:=k.e;grind⟩
theorem Bj.np(h:Bj N B p):NP p:=let⟨_,_,a,b,_⟩:=h;⟨a.n,b.n⟩
theorem Bj.nv(h:Bj N B p)(u0:0<N)(hN:N<2^e)(hB:B<2^e)(he:1<=e):Nv p.1 p.2 e:=by
 obtain⟨m,n,a,b,c,d⟩:=h;exact⟨a.n,b.n,a.sz u0 hN ⋯ he,b.sz u0 hN ⋯ he⟩
theorem L1(ha:Bj N B x.1)(hb:Bj N B x.2):∃m:Int,MU (N*N) (BO x) m/\m.natAbs<=2*(B*B):=by
 obtain⟨m,n,a,b,c,d⟩:=ha;obtain⟨m',n',a',b',c',d'⟩:=hb;refine⟨_,(a.mul b').sub (b.mul a'),?_⟩;have k1:(m*n').natAbs<=B*B:=by rw[OK];exact OL c d'
 have k2:(n*m').natAbs<=B*B:=by rw[OK];exact OL d c'
 omega
theorem Gb(ha:NP x.1)(hb:NP x.2):val (BO x)=aU (vq x.1) (vq x.2):=by
 unfold BO gY aU vq;rw[dU (bX ha.x hb.y) (bX ha.y hb.x),dS ha.x hb.y,dS ha.y hb.x]
def Qg(x:Pr):Rat:=aU (vq x.1) (vq x.2)
theorem Tx:∀{xs:List Pr},(∀x∈xs,Bj N B x.1/\Bj N B x.2)->∃ys:List (Fr×Int),ys.map Prod.fst=xs.map BO/\BN (N*N) ys/\rW ys<=xs.length*(2*(B*B))/\(0<N->(vQ ys:Rat)=cE (xs.map Qg)*((N*N:Nat):Rat))
 |[],_=>⟨[],rfl,λx m=>absurd m (by simp),OR _,λ_=>by show((0:Int):Rat)=0*_;grind⟩
 |x::xs,h=>by
  obtain⟨ys,h1,h2,h3,h4⟩:=Tx (xs:=xs) λy m=>h y (by simp[m]);obtain⟨hx1,hx2⟩:=h x (by simp);obtain⟨m,hm,hb⟩:=L1 hx1 hx2;refine⟨(BO x,m)::ys,by rw[MR,MR,h1],λy my=>?_,?_,λn0=>?_⟩
  ·obtain rfl|my:=MJ.mp my
   ·exact hm
   ·exact h2 y my
  ·show m.natAbs+rW ys<=(xs.length+1)*(2*(B*B));rw[Nat.succ_mul];lia
  ·show((m+vQ ys:Int):Rat)=(Qg x+cE (xs.map Qg))*_;have e:=hm.e;rw[Gb hx1.np hx2.np]at e
   push_cast
   have h4:=h4 n0
   push_cast at h4 e
   rw[h4,<-e];unfold Qg;grind
theorem Tz:dJ (1,2):=⟨∅,∅⟩
theorem Dj:(2^1840*2^1840<2^3700/\8000*(2*(2^1840*2^1840))<2^3700:Prop):=by decide +kernel
def Wz:iO:=λas Q=>∃(xs:List Pr)(N B:Nat),as=[.v (.lst (xs.map tM))]/\xs.length<=8000/\(∀x∈xs,Bj N B x.1/\Bj N B x.2)/\0<N/\N<2^1840/\B<2^1840/\∀t,dJ t->val t=cE (xs.map Qg)*(1/2)->sz t<=3800->Q (.v (fr t)) []
abbrev lO(P w K mg base):=(~~~Fn) 5 "size_within" ["bounds"] (aQ K Wz)
abbrev jW:UZ:=top 40
theorem vM:aK ["bounds"] ["bounds"] (aC jW):=iG
theorem uT(F:dY K "size_within" "size_within" jW f fd)(TX:Txt mg)(XZ: ~~~pB)(ZM: ~~~sF)(br: ~~~Bh):(~~~bE) eT 5 f fd ["bounds"] (aQ K Wz):=by
 refine F.okU vM (λhr=>(aG (aN (fK XZ (f2 (fK ZM (f1 (fD (N':=["begin","end"]) (t:=2) (cap:=[]) rfl (bH.of rfl) rfl ∅ (dG rfl (fv 0)) (λ_ _ _ _=>(bS (n:=2) rfl rfl (aE (fH 0) (aE (fH 1) bG)))) (λ_ _ _ _=>(fK br (f2 (fv 0) (fv 1))))))) (aH (f2 aA aA))))))) ?_;rintro as Q ⟨xs,N,B,rfl,hl,hx,n0,hN,hB,z⟩;refine⟨rfl,cD (f:=tM) (h:=λx=>fr (BO x)) (λ(w:Option U×Option U)acc=>[w.1,w.2,↥acc]) xs (none,none) [] (by simp;lia) (λx m w acc rest ha K=>?_) λw=>?_⟩
 ·exact⟨_,_,_,_,1840,1840,rfl,(hx x m).1.nv n0 hN hB ∅,(hx x m).2.nv n0 hN hB ∅,∅,ha,K (⇑(pt x.1),⇑(pt x.2))⟩
 ·refine⟨aZ (λ_=>rfl) _,?_⟩;obtain⟨ys,y1,y2,y3,y4⟩:=Tx hx;have el:ys.length=xs.length:=by have:=congrArg RU y1;simpa using this
  have nn:0<N*N:=UE n0 n0;have b1:N*N<2^3700:=NH (OL (OA hN) (OA hN)) Dj.1;have b2:rW ys<2^3700:=NH (OH y3 (OL hl (OL (MQ _) (OL (OA hB) (OA hB))))) Dj.2;refine⟨ys,N*N,?_,⋯,y2,nn,b1,b2,λt mt st=>?_⟩
  ·have:ys.map fx=(ys.map Prod.fst).map fr:=by rw[MY];rfl
   rw[this,y1,MY];rfl
  ·have s12:sz (1,2)<=2:=mJ ∅ ∅ ∅;have sm:=k6 mt.n Tz;refine⟨t,(1,2),rfl,mt.n,Tz,⋯,rfl,z _ (bX mt.n Tz) ?_ ⋯⟩;rw[dS mt.n Tz];have:val (1,2)=1/2:=by show((1:Int):Rat)/((2:Int):Rat)=1/2;push_cast;rfl
   rw[this]
   congr 1
   have e:=mt.e;rw[y4 n0]at e;have nz:((N*N:Nat):Rat)≠0:=by exact_mod_cast (show N*N≠0 by lia)
   grind
def Es(o:List Pt)(p:Pt):Bool:=(cV o).all λl=>decide (0<dX l (aF p))
theorem sZ:∀bs:List Bool,lC (bs.map L2.T.bl)=oZ bs
 |[]=>rfl
 |b::bs=>by show(lC (bs.map L2.T.bl)).map (b::·)=_;rw[sZ bs];rfl
def P0:iO:=λas Q=>∃(b:jH)(p:Pt),as=[.v (gR b),.v (pt p)]/\b.o.length<=8000/\(∀p∈b.o,Pb p)/\Nv p.1 p.2 800/\Q (.v (.bl (Es b.o p))) []
abbrev oT(P w K mg base):=(~~~Fn) 4 "is_within" ["block","point"] (aQ K P0)
abbrev mB:UZ:=top 42
theorem qF:aK ["block","point","spot"] ["block","point"] (aC mB):=iG
theorem zT(F:dY K "is_within" "is_within" mB f fd)(TX:Txt mg)(XO: ~~~i5)(XS: ~~~jQ)(XX: ~~~lN):(~~~bE) eT 4 f fd ["block","point"] (aQ K P0):=by
 refine F.okU qF (λhr=>(aB (fS 2 qF.nd (fK XO (f1 (fv 1)))) (aG (aN (Sd rfl rfl rfl TX.n_all (f1 (fD (N':=["line","spot"]) (t:=1) (cap:=[(2,false)]) rfl (bH.of rfl) rfl ∅ (dG rfl (fK XS (f1 (fv 0)))) (λ_ _ _ _=>(fH 0)) (λ_ _ _ _=>(xK uU (fK XX (f2 (fv 0) (fv 1))) aA (cH _)))))))))) ?_;rintro as Q ⟨b,p,rfl,hl,hb,hp,q⟩;refine⟨p,rfl,hp,b,rfl,hl,hb,rfl,?_⟩;have le:(cV b.o).length<=8000:=by simp only[cV,qC,ML,SI];lia
 refine cD (f:=t3) (h:=λl=>.bl (decide (0<dX l (aF p)))) (λ(v:Option U)acc=>[v,⇑(t3 (aF p)),↥acc]) (cV b.o) none [] (by simp;lia) (λl m v acc rest ha K=>?_) λv=>?_
 ·exact⟨l,aF p,rfl,(yZ hb l m).up ∅,(AZ hp).up ∅,ha,K _⟩
 ·refine⟨aZ (λ_=>rfl) _,?_⟩;have e:((cV b.o).map λl=>L2.T.bl (decide (0<dX l (aF p))))=((cV b.o).map λl=>decide (0<dX l (aF p))).map L2.T.bl:=by rw[MY];rfl
  rw[OP,e];show o1 (lC _) _;rw[sZ];refine⟨rfl,?_⟩;unfold Es at q;rw[List.all_map];exact q
def Jf(N B:Nat)(rs:List wX):Prop:=∀r∈rs,Bj N B r.2.2.1/\Bj N B r.2.2.2
def Wy:iO:=λas Q=>∃(bs:List jH)(marks:Str)(N B:Nat),as=[.v (.lst (bs.map gR))]/\Qo bs marks/\mU bs marks/\Jf N B (bL bs marks)/\0<N/\N<2^1840/\B<2^1840/\∀t,dJ t->val t=cE ((bL bs marks).map λr=>Qg (uX r))*(1/2)->sz t<=3800->Q (.v (fr t)) []
abbrev tY(P w K mg base):=(~~~Fn) 7 "size_of" ["blocks"] (aQ K Wy)
abbrev rQ:UZ:=top 41
theorem kW:aK ["blocks","edges","number","block"] ["blocks"] (aC rQ):=iG
theorem Hk(F:dY K "size_of" "size_of" rQ f fd)(TX:Txt mg)(XY: ~~~kC)(YO: ~~~lO):(~~~bE) eT 7 f fd ["blocks"] (aQ K Wy):=by
 refine F.okU kW (λhr=>(aB (fS 1 kW.nd (eU lV)) (aB (gJ PassesOwn.never rfl (zA rfl rfl TX.n_enumerate (f1 (fv 0))) (bS (n:=2) rfl rfl (aE (fG 2 kW.nd) (aE (fG 3 kW.nd) bG))) (aG (iD (xM rfl (fv 1) (f1 (fD (N':=["edge","number"]) (t:=1) (cap:=[(2,false)]) rfl (bH.of rfl) rfl ∅ (j0 rfl TX.n_range (f1 (jS rfl rfl TX.n_len (f1 (fQ 3))))) (λ_ _ _ _=>(fH 0)) (λ_ _ _ _=>(aH (f2 (fv 1) (fv 0)))))))))) (aG (aN (fK YO (f1 (fD (N':=["number","edge","begin","end"]) (t:=4) (cap:=[]) rfl (bH.of rfl) rfl ∅ (dG rfl (fK XY (f2 (fv 0) (fv 1)))) (λ_ _ _ _=>(bS (n:=4) rfl rfl (aE (fH 0) (aE (fH 1) (aE (fH 2) (aE (fH 3) bG)))))) (λ_ _ _ _=>(aH (f2 (fv 2) (fv 3)))))))))))) ?_;rintro as Q ⟨bs,marks,N,B,rfl,h,M,hU,n0,hN,hB,z⟩;show fW _ _ _ ((bs.map gR).zipIdx.map λq=>L2.T.tup [.int (q.2:Int),q.1]) _;rw[Xm];refine eY (f:=λq:jH×Nat=>L2.T.tup [.int (q.2:Int),gR q.1]) (λs':List L2.T×Option U×Option U=>[⇑(.lst (bs.map gR)),↥s'.1,s'.2.1,s'.2.2])
  (λxs s'=>(∀x∈xs,x.1∈bs)/\s'.1.length+6*xs.length<=8000/\dH s'.1=true/\s'.1++(xs.flatMap λx=>Nx marks x.2 x.1).map Hd=(bQ bs marks).map Hd) ?_ ?_ bs.zipIdx ([],none,none) ⟨λx m=>MN (NL.mp m),by have:=h.len;simp;lia,rfl,rfl⟩
 ·rintro x xs ⟨acc,v3,v4⟩ rest ⟨hx,hl,ZP,e⟩ K;obtain⟨b,n⟩:=x;have mb:=hx (b,n) (by simp);obtain⟨f1,f2⟩:=h.six b mb;simp only[MS]at hl;have ee:Nx marks n b=(OG b.o.length).map (Gi n b):=by
   unfold Nx;rw[List.filter_eq_self.mpr λk mk=>M b mb k (OO.mp mk)]
  refine⟨?_,rfl,?_⟩
  ·show -(2^62)<=(((b.o.map pt).length:Nat):Int)/\(((b.o.map pt).length:Nat):Int)<2^62;rw[ML];lia
  ·show gV _ _ (rL 0 (((b.o.map pt).length:Nat):Int).toNat) _ _;rw[PH,ML];refine cD (f:=λi:Nat=>L2.T.int ((0:Int)+(i:Int))) (h:=λi:Nat=>L2.T.tup [.int (n:Int),.int ((0:Int)+(i:Int))]) (λ(w:Option U)acc=>[w,↑(n:Int),↥acc]) (OG b.o.length) none [] (by simp;lia) (λx m w acc rest ha K=>⟨ha,K _⟩) λw=>?_;have en:([]++(OG b.o.length).map λi:Nat=>L2.T.tup [.int (n:Int),.int ((0:Int)+(i:Int))])=(Nx marks n b).map Hd:=by
    rw[OP,ee,MY];refine OI λi _=>?_;show _=L2.T.tup [.int (n:Int),.int (i:Int)];rw[Int.zero_add]
   rw[en];have el:=y8 (marks:=marks) (n:=n) (b:=b);refine⟨aZ (λ_=>rfl) _,?_,?_⟩
   ·show(acc++_).length<=9000;rw[MP,ML];lia
   ·refine K (acc++(Nx marks n b).map Hd,↑(n:Int),⇑(gR b)) ⟨λy m=>hx y (by simp[m]),by simp only[MP,ML];lia,by rw[j7,ZP,aZ (λ_=>rfl)];rfl,?_⟩;rw[OS,OE]at e;rw[MO];exact e
 ·rintro⟨acc,v3,v4⟩ ⟨_,hl,ZP,e⟩;have e0:acc=(bQ bs marks).map Hd:=by simpa using e
  subst e0;have l1:=t5 (marks:=marks) λb m=>(h.six b m).1;have l2:=h.len;have l3:=h.rows;refine⟨bs,bQ bs marks,rfl,⋯,h.bk,⋯,L7 h,⋯,h.rows,?_⟩;refine⟨rfl,cD (f:=oP) (h:=λr=>tM (uX r)) (λ(w:Option U×Option U×Option U×Option U)acc=>[w.1,w.2.1,w.2.2.1,w.2.2.2,↥acc]) (bL bs marks) (none,none,none,none) [] (by simp;lia) (λr m w acc rest ha K=>?_) λw=>?_⟩
  ·exact⟨ha,K (↑(r.1:Int),↑(r.2.1:Int),⇑(pt r.2.2.1),⇑(pt r.2.2.2))⟩
  ·refine⟨aZ (λ_=>rfl) _,?_⟩;refine⟨(bL bs marks).map uX,N,B,by rw[MY];rfl,by rw[ML];lia,λx m=>?_,n0,hN,hB,λt nt vt st=>⟨rfl,z t nt ?_ st⟩⟩
   ·obtain⟨r,mr,rfl⟩:=MH.mp m;exact hU r mr
   ·rw[MY]at vt;exact vt
def HH:Nat->Nat
 |0=>1
 |n+1=>(n+1)*HH n
theorem Jx:∀n,0<HH n
 |0=>∅
 |n+1=>UE ⋯ (Jx n)
theorem Jw:∀(n d:Nat),0<d->d<=n->d∣HH n
 |0,d,h,k=>⋯
 |n+1,d,h,k=>by
  by_cases c:d=n+1
  ·subst c;exact Nat.dvd_mul_right _ _
  ·exact Nat.dvd_trans (Jw n d h ⋯) (TJ _ _)
def U0:Nat:=2*HH 128
theorem qR:0<U0:=UE ∅ (Jx 128)
theorem wY:U0<2^720:=by decide +kernel
def Xr(N:Nat)(x:Q2):Prop:=∃m n:Int,x.1*(N:Rat)=(m:Rat)/\x.2*(N:Rat)=(n:Rat)
theorem LB.ints(h:LB 400 b)(mp:p∈b.o):∃X Y c1 c2:Int,val p.1*2=((X+2*c1:Int):Rat)/\val p.2*2=((Y+2*c2:Int):Rat)/\0<=c1/\c1<=8/\0<=c2/\c2<=8/\X.natAbs<=400/\Y.natAbs<=400/\∀q∈b.o,∃e1 e2:Int,val q.1*2=((X+2*e1:Int):Rat)/\val q.2*2=((Y+2*e2:Int):Rat)/\0<=e1/\e1<=8/\0<=e2/\e2<=8:=by
 obtain⟨w,x,y,X,Y,h1,h2,h3,h4,h5,h6,h7,h8⟩:=h.ex;have all:∀q∈b.o,∃e1 e2:Int,val q.1*2=((X+2*e1:Int):Rat)/\val q.2*2=((Y+2*e2:Int):Rat)/\0<=e1/\e1<=8/\0<=e2/\e2<=8:=λq mq=>by
  rw[h8]at mq;obtain⟨c,mc,rfl⟩:=MH.mp mq;have:=Lx h2 h3 h4 h5 w c mc;refine⟨c.1,c.2,?_,?_,this.1,this.2.1,this.2.2.1,this.2.2.2⟩
  ·show val (hf (X+2*c.1))*2=_;rw[rD];grind
  ·show val (hf (Y+2*c.2))*2=_;rw[rD];grind
 obtain⟨e1,e2,a,b',c,d,e,f⟩:=all p mp;exact⟨X,Y,e1,e2,a,b',c,d,e,f,⋯,⋯,all⟩
structure HB(p q:Q2)(P1 P2 d1 d2:Int):Prop where
 x:p.1*2=(P1:Rat)
 y:p.2*2=(P2:Rat)
 dx:q.1-p.1=(d1:Rat)
 dy:q.2-p.2=(d2:Rat)
 b1:d1.natAbs<=8
 b2:d2.natAbs<=8
 b3:P1.natAbs<=420
 b4:P2.natAbs<=420
theorem LB.egi(h:LB 400 b)(mx:x∈zr b.o):∃P1 P2 d1 d2,HB (vq x.1) (vq x.2) P1 P2 d1 d2:=by
 obtain⟨m1,m2⟩:=k8 mx;obtain⟨X,Y,c1,c2,a1,a2,a3,a4,a5,a6,a7,a8,all⟩:=h.ints m1;obtain⟨e1,e2,b1,b2,b3,b4,b5,b6⟩:=all _ m2;refine⟨X+2*c1,Y+2*c2,e1-c1,e2-c2,a1,a2,?_,?_,⋯,⋯,⋯,⋯⟩
 ·show val x.2.1-val x.1.1=_
  push_cast at a1 b1⊢;grind
 ·show val x.2.2-val x.1.2=_
  push_cast at a2 b2⊢;grind
theorem K8{x:Q2}{D:Nat}(d0:0<D)(d1:D<=128){m n:Int}(h1:x.1*(2*(D:Rat))=(m:Rat))(h2:x.2*(2*(D:Rat))=(n:Rat)):Xr U0 x:=by
 obtain⟨c,hc⟩:=Jw 128 D d0 d1;have e:(U0:Rat)=2*(D:Rat)*(c:Rat):=by unfold U0;rw[hc];push_cast;grind
 refine⟨m*c,n*c,?_,?_⟩
 ·rw[e];push_cast;rw[<-h1];grind
 ·rw[e];push_cast;rw[<-h2];grind
theorem Yh{P1 P2 d1 d2 A1 A2 e1 e2:Int}(h:HB p q P1 P2 d1 d2)(k:HB a b A1 A2 e1 e2){t:Rat}(n1:fE (a,b) p≠fE (a,b) q)(z:fE (a,b) (dE p q t)=0):Xr U0 (dE p q t):=by
 have f2:fE (a,b) p*2=((e1*(P2-A2)-e2*(P1-A1):Int):Rat):=by
  have:fE (a,b) p=(b.1-a.1)*(p.2-a.2)-(b.2-a.2)*(p.1-a.1):=rfl;rw[this,k.dx,k.dy];have:=h.x;have:=h.y;have:=k.x;have:=k.y
  push_cast
  grind
 have fd:fE (a,b) q-fE (a,b) p=((e1*d2-e2*d1:Int):Rat):=by
  have:fE (a,b) q-fE (a,b) p=(b.1-a.1)*(q.2-p.2)-(b.2-a.2)*(q.1-p.1):=by unfold fE aU aM aR;grind
  rw[this,k.dx,k.dy,h.dx,h.dy]
  push_cast;rfl
 rw[lU,fd]at z;have D0:e1*d2-e2*d1≠0:=λw=>by
  rw[w]at fd;exact n1 (by push_cast at fd;grind)
 have DB:(e1*d2-e2*d1).natAbs<=128:=by
  have k1:(e1*d2).natAbs<=8*8:=by rw[OK];exact OL k.b1 h.b2
  have k2:(e2*d1).natAbs<=8*8:=by rw[OK];exact OL k.b2 h.b1
  lia
 generalize e1*d2-e2*d1=D at *;generalize e1*(P2-A2)-e2*(P1-A1)=F at *;have key:(D:Rat)*t*2 = -(F:Rat):=by grind
 have hx:=h.x;have hy:=h.y;have hdx:=h.dx;have hdy:=h.dy;obtain⟨s,hs,sD⟩:∃s:Int,(s=1\/s = -1)/\((D.natAbs:Int))=s*D:=by
  by_cases c:0<=D
  ·exact⟨1,.inl rfl,⋯⟩
  ·exact⟨-1,.inr rfl,⋯⟩
 have sD':((D.natAbs:Nat):Rat)=(s:Rat)*(D:Rat):=by exact_mod_cast sD
 refine K8 (D:=D.natAbs) ⋯ DB (m:=s*(P1*D-d1*F)) (n:=s*(P2*D-d2*F)) ?_ ?_
 ·show(p.1+(q.1-p.1)*t)*(2*_)=_;rw[sD',hdx];push_cast;rw[<-hx];grind
 ·show(p.2+(q.2-p.2)*t)*(2*_)=_;rw[sD',hdy];push_cast;rw[<-hy];grind
theorem rC{m n:Int}(h1:x.1*2=(m:Rat))(h2:x.2*2=(n:Rat)):Xr U0 x:=K8 (D:=1) ∅ ∅ (m:=m) (n:=n) (by push_cast;grind) (by push_cast;grind)
def R6(P:Fr->Prop)(rows:List kD):Prop:=∀r∈rows,P r.1/\P r.2.1
theorem Dg{P:Fr->Prop}{rows:List kD}{lo hi:Fr}(h:R6 P rows)(hl:P lo)(hh:P hi):R6 P (bK rows lo hi):=λz mz=>by
 obtain⟨r,mr,mz⟩:=NV.mp mz;obtain⟨h1,h2⟩:=h r mr;have a:P (aX r.1 lo):=by rcases Ci r.1 lo with e|e<;>rw[e]<;>assumption
 have b:P (aI r.2.1 hi):=by rcases Gg r.2.1 hi with e|e<;>rw[e]<;>assumption
 unfold uY at mz;split at mz
 ·rw[MW]at mz;subst mz;exact⟨h1,h2⟩
 ·split at mz
  ·rw[MW]at mz;subst mz;exact⟨h1,h2⟩
  ·obtain mz|mz:=NB.mp mz
   ·obtain mz|mz:=NB.mp mz
    ·split at mz
     ·rw[MW]at mz;subst mz;exact⟨h1,a⟩
     ·simp at mz
    ·rw[MW]at mz;subst mz;exact⟨a,b⟩
   ·split at mz
    ·rw[MW]at mz;subst mz;exact⟨b,h2⟩
    ·simp at mz
theorem pF{P:Fr->Prop}:∀(os:List Ov)(rows rs:List kD),(∀r,oZ r∈os->P r.1/\P r.2.1)->R6 P rows->dN os rows=oZ rs->R6 P rs
 |[],rows,rs,_,h,e=>by cases e;exact h
 |none::os,rows,rs,ho,h,e=>pF os rows rs (λr m=>ho r (by simp[m])) h e
 |some r::os,rows,rs,ho,h,e=>by
  unfold dN at e;obtain⟨a,b⟩:=ho r (by simp);split at e
  ·exact pF os rows rs (λr m=>ho r (by simp[m])) h e
  ·split at e
   ·cases e
   ·exact pF os _ rs (λr m=>ho r (by simp[m])) (Dg h a b) e
theorem Xd{P:Fr->Prop}:∀(ts:List (Fr×Fr))(rows:List kD),(∀x∈ts,P x.1/\P x.2)->R6 P rows->R6 P (mK ts rows)
 |[],rows,_,h=>h
 |t::ts,rows,ht,h=>Xd ts _ (λx m=>ht x (by simp[m])) (Dg h (ht t (by simp)).1 (ht t (by simp)).2)
theorem S5{P:Fr->Prop}(p0:P (0,1))(p1:P (1,1))(ho:∀r,oZ r∈(shs.map λs=>aW s (eQ p q))->P r.1/\P r.2.1)(ht:∀x∈tO p q tw,P x.1/\P x.2):∀x∈dZ shs p q tw,P x.1/\P x.2:=by
 have r0:R6 P lI:=λr m=>by
  have e:r=((0,1),(1,1),false):=by simpa[lI]using m
  subst e;exact⟨p0,p1⟩
 unfold dZ pE;cases g:dN (shs.map λs=>aW s (eQ p q)) lI with
 |none=>intro x m;simp at m
 |some rs=>
  intro x m;obtain⟨r,mr,rfl⟩:=MH.mp m;exact Xd _ _ ht (pF _ _ _ ho r0 g) r (NI.mp mr).1
theorem yP(hs:∀s∈shs,mW s)(en:tR p q)(ax:∀x∈tw,Pb x.1/\Pb x.2):∀x∈dZ shs p q tw,0<=val x.1/\val x.1<val x.2/\val x.2<=1:=λx m=>by
 obtain⟨_,sp⟩:=t7 hs en ax;obtain⟨s1,_,s2⟩:=sp.all x m;refine⟨s1,s2,Rat.not_lt.mp λq1=>?_⟩;obtain⟨t,a,k,n⟩:=Ro (lT (shs.map λs=>aW s (eQ p q))++pK (tO p q tw)) (l:=if val x.1<1 then 1 else val x.1) (h:=val x.2) (by split<;>grind);have a':val x.1<t/\1<=t:=by split at a<;>grind
 have:=(t6 hs en ax (λz=>n (NJ _ z)) (λz=>n (MV _ z))).mp ⟨x,m,a'.1,k⟩;grind
theorem rF(hb:∀b∈bs,LB 400 b):qO bs:=⟨λb m=>(hb b m).gb,λb m=>(hb b m).pb,λb m=>(hb b m).ok⟩
theorem Rx(hb:∀b∈bs,LB 400 b)(m:e∈bQ bs marks):∃P1 P2 d1 d2,HB (vq e.p) (vq e.q) P1 P2 d1 d2:=by
 obtain⟨b,oh,hk,_,ee⟩:=pD m;obtain⟨p,q,h1,h2,h3⟩:=Ew hk;obtain⟨l1,l2,_⟩:=Yk (n:=e.n) h3;rw[<-ee]at l1 l2;rw[l1,l2];exact(hb b (MN oh)).egi (MN h3)
theorem Qq{v:Rat}{m:Int}{N B:Nat}(h:v*(N:Rat)=(m:Rat))(h1:-(B:Rat)<v)(h2:v<(B:Rat)):m.natAbs<=B*N:=by
 have n0:(0:Rat)<=(N:Rat):=by exact_mod_cast OR N
 have a1:=Rat.mul_nonneg (show 0<=(B:Rat)-v by grind) n0;have a2:=Rat.mul_nonneg (show 0<=v+(B:Rat) by grind) n0;have c1:(m:Rat)<=((B*N:Nat):Rat):=by push_cast;grind
 have c2:((-((B*N:Nat):Int):Int):Rat)<=(m:Rat):=by push_cast;grind
 have d1:m<=((B*N:Nat):Int):=by exact_mod_cast c1
 have d2:-((B*N:Nat):Int)<=m:=by exact_mod_cast c2
 lia
theorem Hw(hb:∀b∈bs,LB 400 b)(marks:Str):Jf U0 (220*U0) (bL bs marks):=λr mr=>by
 have H:=rF hb;rw[lY]at mr;obtain⟨x,mx,mr⟩:=NV.mp mr;have me:=MN (NL.mp mx);have k:=eC H x.1 me;obtain⟨P1,P2,d1,d2,eg⟩:=Rx hb me;unfold Vw cK at mr;obtain⟨a,ma,rfl⟩:=MH.mp mr;have YI:∀e∈(bQ bs marks).take x.2,Xx bs e:=λe m=>eC H e (OJ m);have ZJ:∀s∈bs.map a9,mW s:=λs m=>by
  obtain⟨g,mg,rfl⟩:=MH.mp m;exact jF (H.ok g mg)
 have twok:∀w∈Iq ((bQ bs marks).take x.2) x.1.l,Pb w.1/\Pb w.2:=λw m=>by
  obtain⟨e,me,rfl⟩:=MH.mp m;have:=YI e (NI.mp me).1;exact⟨this.hp,this.hq⟩
 have en:=xH k.hp k.hq k.ne;obtain⟨f1,f2⟩:=pG ZJ en twok a ma;obtain⟨a0,a1,a2⟩:=yP ZJ en twok a ma;have d0:=qM k.hp.np k.hq.np k.ne;have ends:=S5 (P:=λt=>Xr U0 (dE (vq x.1.p) (vq x.1.q) (val t))) (shs:=bs.map a9) (p:=x.1.p) (q:=x.1.q) (tw:=Iq ((bQ bs marks).take x.2) x.1.l) (by
   rw[fA];refine rC (m:=P1) (n:=P2) ?_ ?_
   ·show(_+_*0)*2=_;rw[<-eg.x];grind
   ·show(_+_*0)*2=_;rw[<-eg.y];grind) (by
   rw[jP];refine rC (m:=P1+2*d1) (n:=P2+2*d2) ?_ ?_
   ·show(_+_*1)*2=_;push_cast;rw[<-eg.x,<-eg.dx];grind
   ·show(_+_*1)*2=_;push_cast;rw[<-eg.y,<-eg.dy];grind) (λr m=>by
   rw[MY]at m;obtain⟨g,mg,e⟩:=MH.mp m;have ov:=mQ (H.gb g mg) k.hp.np.spt k.hq.np.spt d0 (show aW (a9 g) (eQ x.1.p x.1.q)=oZ r from e);have one:∀u∈d5 g.o,∀t,fE u (vq x.1.p)≠fE u (vq x.1.q)->fE u (dE (vq x.1.p) (vq x.1.q) t)=0->Xr U0 (dE (vq x.1.p) (vq x.1.q) t):=λu mu t ne z=>by
    obtain⟨y,my,rfl⟩:=MH.mp mu;obtain⟨A1,A2,e1,e2,ey⟩:=(hb g mg).egi my;exact Yh eg ey ne z
   refine⟨?_,?_⟩
   ·obtain q|⟨_,u,mu,z1,z2,z3⟩:=ov.lo
    ·show Xr U0 (dE _ _ (val r.1));rw[q,fA];refine rC (m:=P1) (n:=P2) ?_ ?_
     ·show(_+_*0)*2=_;rw[<-eg.x];grind
     ·show(_+_*0)*2=_;rw[<-eg.y];grind
    ·exact one u mu _ (by grind) z3
   ·obtain q|⟨_,u,mu,z1,z2,z3⟩:=ov.hi
    ·show Xr U0 (dE _ _ (val r.2.1));rw[q,jP];refine rC (m:=P1+2*d1) (n:=P2+2*d2) ?_ ?_
     ·show(_+_*1)*2=_;push_cast;rw[<-eg.x,<-eg.dx];grind
     ·show(_+_*1)*2=_;push_cast;rw[<-eg.y,<-eg.dy];grind
    ·exact one u mu _ (by grind) z3) (λw mw=>by
   obtain⟨y,my,rfl⟩:=MH.mp mw;obtain⟨u,mu,rfl⟩:=MH.mp my;obtain⟨mu,hl⟩:=NI.mp mu;have mu':=OJ mu;have ku:=YI u mu;obtain⟨A1,A2,e1,e2,eu⟩:=Rx hb mu';have hl:u.l=x.1.l:=by simpa using hl
   rw[ku.l,k.l]at hl;obtain⟨z1,z2,_⟩:=(uN ku.hp ku.hq k.hp k.hq ku.ne k.ne).mp hl;obtain⟨y1,y2,_⟩:=Jo (qM ku.hp.np ku.hq.np ku.ne) z1 z2;have s1:=pW k.hp.np k.hq.np ku.hp.np k.ne y1;have s2:=pW k.hp.np k.hq.np ku.hq.np k.ne y2;refine⟨?_,?_⟩
   ·show Xr U0 (dE _ _ (val (cJ x.1.p x.1.q u.p)));rw[<-s1];exact rC eu.x eu.y
   ·show Xr U0 (dE _ _ (val (cJ x.1.p x.1.q u.q)));rw[<-s2];exact rC (m:=A1+2*e1) (n:=A2+2*e2) (by push_cast;rw[<-eu.x,<-eu.dx];grind) (by push_cast;rw[<-eu.y,<-eu.dy];grind)) a ma
 have fin:∀t:Fr,F2 t->0<=val t->val t<=1->Xr U0 (dE (vq x.1.p) (vq x.1.q) (val t))->Bj U0 (220*U0) (kN x.1.p x.1.q (low t.1 t.2)):=λt ft t0 t1 zZ=>by
  obtain⟨m,n,e1,e2⟩:=zZ;obtain⟨n1,v1⟩:=uP ft;obtain⟨np,vv⟩:=uQ k.hp.np k.hq.np n1;rw[v1]at vv;have w1:val (kN x.1.p x.1.q (low t.1 t.2)).1=(dE (vq x.1.p) (vq x.1.q) (val t)).1:=congrArg Prod.fst vv;have w2:val (kN x.1.p x.1.q (low t.1 t.2)).2=(dE (vq x.1.p) (vq x.1.q) (val t)).2:=congrArg Prod.snd vv;have bd:∀(p q:Rat)(P d:Int),p*2=(P:Rat)->q-p=(d:Rat)->P.natAbs<=420->d.natAbs<=8->-((220:Nat):Rat)<p+(q-p)*val t/\p+(q-p)*val t<((220:Nat):Rat):=λp q P d e1 e2 b1 b2=>by
   have c1:(P:Rat)<=((420:Int):Rat):=by exact_mod_cast (show P<=420 by lia)
   have c2:((-420:Int):Rat)<=(P:Rat):=by exact_mod_cast (show -420<=P by lia)
   have c3:(d:Rat)<=((8:Int):Rat):=by exact_mod_cast (show d<=8 by lia)
   have c4:((-8:Int):Rat)<=(d:Rat):=by exact_mod_cast (show -8<=d by lia)
   push_cast at *
   exact⟨Jh (by grind) (by grind) t0 t1,Qt (by grind) (by grind) t0 t1⟩
  have b1:=bd _ _ _ _ eg.x eg.dx eg.b3 eg.b1;have b2:=bd _ _ _ _ eg.y eg.dy eg.b4 eg.b2;exact⟨m,n,⟨np.x,by rw[w1];exact e1⟩,⟨np.y,by rw[w2];exact e2⟩,Qq e1 b1.1 b1.2,Qq e2 b2.1 b2.2⟩
 exact⟨fin _ f1 a0 (by grind) ends.1,fin _ f2 (by grind) a2 ends.2⟩
theorem Lb(c:Rat)(P Q:List Rat):Cm c (P++Q)=Cm c P+Cm c Q:=by unfold Cm;rw[RN,MP]
theorem xZ{α:Type}(f g:α->Rat):∀L:List α,cE (L.map λx=>f x+g x)=cE (L.map f)+cE (L.map g)
 |[]=>by show(0:Rat)=0+0;grind
 |x::L=>by show f x+g x+cE _=f x+cE _+(g x+cE _);rw[xZ f g L];grind
theorem x6{α:Type}(f:α->Rat)(c:Rat):∀L:List α,cE (L.map λx=>c*f x)=c*cE (L.map f)
 |[]=>by show(0:Rat)=c*0;grind
 |x::L=>by show c*f x+cE _=c*(f x+cE _);rw[x6 f c L];grind
theorem hJ{α:Type}{f g:α->Rat}{L:List α}(h:∀x∈L,f x=g x):cE (L.map f)=cE (L.map g):=by rw[OI h]
theorem G6(H:qO bs)(mx:x∈(bQ bs marks).zipIdx)(mr:r∈Vw bs marks x):∃s1 s2:Rat,0<=s1/\s1<s2/\s2<=1/\vq r.2.2.1=dE (vq x.1.p) (vq x.1.q) s1/\vq r.2.2.2=dE (vq x.1.p) (vq x.1.q) s2:=by
 have k:=eC H x.1 (MN (NL.mp mx));unfold Vw cK at mr;obtain⟨a,ma,rfl⟩:=MH.mp mr;have YI:∀e∈(bQ bs marks).take x.2,Xx bs e:=λe m=>eC H e (OJ m);have ZJ:∀s∈bs.map a9,mW s:=λs m=>by
  obtain⟨g,mg,rfl⟩:=MH.mp m;exact jF (H.ok g mg)
 have twok:∀w∈Iq ((bQ bs marks).take x.2) x.1.l,Pb w.1/\Pb w.2:=λw m=>by
  obtain⟨e,me,rfl⟩:=MH.mp m;have:=YI e (NI.mp me).1;exact⟨this.hp,this.hq⟩
 have en:=xH k.hp k.hq k.ne;obtain⟨f1,f2⟩:=pG ZJ en twok a ma;obtain⟨a0,a1,a2⟩:=yP ZJ en twok a ma;obtain⟨n1,v1⟩:=uP f1;obtain⟨n2,v2⟩:=uP f2;exact⟨val a.1,val a.2,a0,a1,a2,by rw[(uQ k.hp.np k.hq.np n1).2,v1],by rw[(uQ k.hp.np k.hq.np n2).2,v2]⟩
theorem K9(H:qO bs)(G:Gn (vX bs) o d)(mx:x∈(bQ bs marks).zipIdx):cX bs marks o d x=1\/cX bs marks o d x=0\/cX bs marks o d x = -1:=by
 obtain⟨r0,r1,r2⟩:=Ra H G mx;obtain z|⟨b,hb⟩:=r0
 ·exact .inr (.inl (r1 z))
 ·rw[r2 b hb];generalize(Cv o d (yE o d (fZ x.1)) b (fZ x.1)/\_)=p
  by_cases c:p
  ·rw[DM c];cases b<;>simp
  ·rw[xP c];simp
theorem Z0{L:List (Int×Rat)}(h:∀p∈L,p.1=1\/p.1=0\/p.1 = -1):cE (L.map λp=>(p.1:Rat)*p.2)=cE (L.filterMap λp=>if p.1=1 then oZ p.2 else none)-cE (L.filterMap λp=>if p.1 = -1 then oZ p.2 else none)/\
  (L.map λp=>p.1).sum=((L.filterMap λp=>if p.1=1 then oZ p.2 else none).length:Int)-((L.filterMap λp=>if p.1 = -1 then oZ p.2 else none).length:Int)/\
  ∀y:Rat,(∀p∈L,p.2≠y)->(L.map λp=>if y<p.2 then p.1 else 0).sum=(L.map λp=>p.1).sum-((Cm y (L.filterMap λp=>if p.1=1 then oZ p.2 else none):Int)-(Cm y (L.filterMap λp=>if p.1 = -1 then oZ p.2 else none):Int)):=by
 induction L with
 |nil=>exact⟨by show(0:Rat)=0-0;grind,rfl,λy _=>rfl⟩
 |cons p L ih=>
  obtain⟨i1,i2,i3⟩:=ih λq m=>h q (by simp[m]);have i3':∀y:Rat,(∀q∈p::L,q.2≠y)->_:=λy k=>i3 y λq m=>k q (by simp[m]);obtain e|e|e:=h p (by simp)
  ·refine⟨?_,?_,λy k=>?_⟩
   ·rw[NZ (b:=p.2) (by rw[oV e]),NM (by rw[oW ⋯])];show(p.1:Rat)*p.2+cE _=p.2+cE _-cE _;rw[i1,e];push_cast;grind
   ·rw[NZ (b:=p.2) (by rw[oV e]),NM (by rw[oW ⋯]),MR,NN,i2,MS,e];push_cast;lia
   ·have j:=i3' y k;have ky:=k p (by simp);rw[NZ (b:=p.2) (by rw[oV e]),NM (by rw[oW ⋯]),MR,NN,j,MR,NN,j5,e]
    by_cases c:y<p.2
    ·rw[oV c,oW (by grind)];push_cast;lia
    ·rw[oW c,oV (by grind)];push_cast;lia
  ·refine⟨?_,?_,λy k=>?_⟩
   ·rw[NM (by rw[oW ⋯]),NM (by rw[oW ⋯])];show(p.1:Rat)*p.2+cE _=cE _-cE _;rw[i1,e];push_cast;grind
   ·rw[NM (by rw[oW ⋯]),NM (by rw[oW ⋯]),MR,NN,i2,e];lia
   ·have j:=i3' y k;rw[NM (by rw[oW ⋯]),NM (by rw[oW ⋯]),MR,NN,j,MR,NN,e]
    split<;>lia
  ·refine⟨?_,?_,λy k=>?_⟩
   ·rw[NM (by rw[oW ⋯]),NZ (b:=p.2) (by rw[oV e])];show(p.1:Rat)*p.2+cE _=cE _-(p.2+cE _);rw[i1,e];push_cast;grind
   ·rw[NM (by rw[oW ⋯]),NZ (b:=p.2) (by rw[oV e]),MR,NN,i2,MS,e];push_cast;lia
   ·have j:=i3' y k;have ky:=k p (by simp);rw[NM (by rw[oW ⋯]),NZ (b:=p.2) (by rw[oV e]),MR,NN,j,MR,NN,j5,e]
    by_cases c:y<p.2
    ·rw[oV c,oW (by grind)];push_cast;lia
    ·rw[oW c,oV (by grind)];push_cast;lia
end
def lD(S:List Rat)(f:Rat->Rat->Rat):Rat:=cE ((S.zip S.tail).map λx=>f x.1 x.2)
theorem Ik(a b:Rat)(S:List Rat)(f:Rat->Rat->Rat):lD (a::b::S) f=f a b+lD (b::S) f:=rfl
theorem vN{G:Rat->Rat}:∀{S:List Rat}{u v:Rat},S.Pairwise (· < ·)->u∈S->v∈S->u<=v->lD S (λa b=>if u<=a/\b<=v then G b-G a else 0)=G v-G u
 |[],u,v,_,hu,_,_=>by simp at hu
 |[a],u,v,_,hu,hv,_=>by
  rw[MW]at hu hv;rw[hu,hv];show(0:Rat)=_;grind
 |a::b::S,u,v,hs,hu,hv,le=>by
  obtain⟨p1,p2⟩:=RC.mp hs;obtain⟨q1,_⟩:=RC.mp p2;have ab:=p1 b (by simp);rw[Ik];obtain rfl|zu:=MJ.mp hu
  ·obtain rfl|jq:=MJ.mp hv
   ·have z:lD (b::S) (λa' b'=>if v<=a'/\b'<=v then G b'-G a' else 0)=0:=by
     have:∀x∈(b::S).zip (b::S).tail,(if v<=x.1/\x.2<=v then G x.2-G x.1 else 0)=(λ_=>(0:Rat)) x:=λx m=>by
      obtain⟨_,m2⟩:=PQ (a:=x.1) (b:=x.2) m;have:=p1 x.2 (NF _ m2);rw[oW (by grind)]
     unfold lD;rw[hJ this];generalize(b::S).zip (b::S).tail=Z
     induction Z with
     |nil=>rfl
     |cons x Z ih=>show 0+cE _=0;rw[ih];grind
    rw[z,oW (by grind)];grind
   ·have bv:b<=v:=by
     obtain rfl|w:=MJ.mp jq
     ·grind
     ·have:=q1 v w;grind
    have ih:=vN (G:=G) (u:=b) (v:=v) p2 (by simp) jq bv;have e:lD (b::S) (λa' b'=>if u<=a'/\b'<=v then G b'-G a' else 0)=lD (b::S) (λa' b'=>if b<=a'/\b'<=v then G b'-G a' else 0):=by
     unfold lD;refine hJ λx m=>?_;obtain⟨m1,_⟩:=PQ (a:=x.1) (b:=x.2) m;have h1:b<=x.1:=by
      obtain w|w:=MJ.mp m1
      ·rw[w];grind
      ·have:=q1 x.1 w;grind
     simp only
     by_cases c:x.2<=v
     ·rw[oV ⟨by grind,c⟩,oV ⟨h1,c⟩]
     ·rw[oW (λz=>c z.2),oW (λz=>c z.2)]
    rw[e,ih,oV (by grind)];grind
  ·have ub:b<=u:=by
    obtain rfl|w:=MJ.mp zu
    ·grind
    ·have:=q1 u w;grind
   have jq:v∈b::S:=by
    obtain rfl|w:=MJ.mp hv
    ·grind
    ·exact w
   have ih:=vN (G:=G) p2 zu jq le;rw[ih,oW (by grind)];grind
theorem x8{α β:Type}(f:α->β->Rat)(A:List α):∀B:List β,cE (A.map λa=>cE (B.map (f a)))=cE (B.map λb=>cE (A.map λa=>f a b))
 |[]=>by
  show cE (A.map λ_=>(0:Rat))=0
  induction A with
  |nil=>rfl
  |cons a A ih=>show 0+cE _=0;rw[ih];grind
 |b::B=>by
  show cE (A.map λa=>f a b+cE (B.map (f a)))=cE (A.map λa=>f a b)+cE (B.map λb=>cE (A.map λa=>f a b));rw[xZ,x8 f A B]
theorem x9:∀L:List Rat,∃S:List Rat,S.Pairwise (· < ·)/\∀z,z∈S↔z∈L
 |[]=>⟨[],List.Pairwise.nil,λz=>Iff.rfl⟩
 |a::L=>by
  obtain⟨S,hs,hm⟩:=x9 L
  by_cases c:a∈L
  ·refine⟨S,hs,λz=>?_⟩;rw[hm,MJ];exact⟨λq=>.inr q,λq=>q.elim (λw=>w ▸ c) id⟩
  ·refine⟨S.filter (λz=>decide (z<a))++a::S.filter (λz=>decide (a<z)),?_,λz=>?_⟩
   ·rw[List.pairwise_append];refine⟨hs.filter _,RC.mpr ⟨λz m=>by simpa using(NI.mp m).2,hs.filter _⟩,λx mx y my=>?_⟩;have h1:x<a:=by simpa using(NI.mp mx).2
    obtain rfl|my:=MJ.mp my
    ·exact h1
    ·have h2:a<y:=by simpa using(NI.mp my).2
     grind
   ·rw[NB,MJ,NI,NI,MJ,hm,decide_eq_true_eq,decide_eq_true_eq];constructor
    ·rintro (⟨q,_⟩|q|⟨q,_⟩)
     ·exact .inr q
     ·exact .inl q
     ·exact .inr q
    ·rintro (q|q)
     ·exact .inr (.inl q)
     ·by_cases k:z<a
      ·exact .inl ⟨q,k⟩
      ·have:z≠a:=λw=>c (w ▸ q);exact .inr (.inr ⟨q,by grind⟩)
theorem Zd(L:List Q2):∃d:Q2,0<aP d d/\∀p∈L,∀q∈L,ht d p=ht d q->p=q:=by
 obtain⟨k,k0,hk⟩:=U9 (L.flatMap λp=>L.map λq=>(p.1-q.1)/(p.2-q.2)) 0;have kk:=Rat.mul_pos k0 k0;refine⟨(k,1),by unfold aP;grind,λp mp q mq e=>?_⟩;have e':p.1-q.1=k*(p.2-q.2):=by unfold ht aU at e;grind
 by_cases c:p.2-q.2=0
 ·rw[c]at e';exact Prod.ext (by grind) (by grind)
 ·have er:(p.1-q.1)/(p.2-q.2)=k:=by rw[e',Rat.div_def];grind
  have:=hk _ (NV.mpr ⟨p,mp,MH.mpr ⟨q,mq,rfl⟩⟩);grind
theorem Di{α β:Type}[DecidableEq α][DecidableEq β]{f:α->β}{A B:List α}(h:(A.map f).Perm (B.map f))(inj:∀p∈A++B,∀q∈A++B,f p=f q->p=q):A.Perm B:=by
 rw[SN];intro x
 by_cases m:x∈A++B
 ·have e:∀C:List α,(∀c∈C,c∈A++B)->C.count x=(C.map f).count (f x):=by
   intro C
   induction C with
   |nil=>intro _;rfl
   |cons c C ih=>
    intro hc;rw[MR,UA,UA,ih λz mz=>hc z (by simp[mz])]
    by_cases q:c=x
    ·subst q;simp
    ·have:f c≠f x:=λz=>q (inj c (hc c (by simp)) x m z);simp[q,this]
  rw[e A λc mc=>NJ _ mc,e B λc mc=>MV _ mc,h.count_eq]
 ·rw[SJ λz=>m (NJ _ z),SJ λz=>m (MV _ z)]
theorem G4(H:qO bs)(M:mU bs marks):((bL bs marks).map λr=>vq r.2.2.1).Perm ((bL bs marks).map λr=>vq r.2.2.2):=by
 obtain⟨d,d0,inj⟩:=Zd (((bL bs marks).map λr=>vq r.2.2.1)++((bL bs marks).map λr=>vq r.2.2.2));refine Di (f:=ht d) ?_ inj;have:=G3 H M d0;rw[MY,MY];exact this
section
variable{P:UU}{w:UY}{K:W.Frag}{mg:Str->Option oA}{base:oE}
section
variable{bs bu:List jH}{marks YK:Str}{o d:Q2}
noncomputable def Bf (bs:List jH) (marks:Str) (o d:Q2):List (Int×Rat):=(bQ bs marks).zipIdx.map λx=>(cX bs marks o d x,yE o d (fZ x.1))
noncomputable def Ho (s:Int) (L:List (Int×Rat)):List Rat:=L.filterMap λp=>if p.1=s then oZ p.2 else none
theorem Vh{s:Int}{L:List (Int×Rat)}{y:Rat}:y∈Ho s L↔(s,y)∈L:=by
 unfold Ho;rw[QY];constructor
 ·rintro⟨p,mp,e⟩;split at e
  ·rename_i q;cases e;rw[<-q];exact mp
  ·cases e
 ·intro m;exact⟨_,m,by simp⟩
theorem Lj(H:qO bs)(G:Gn (vX bs) o d)(M:mU bs marks)(d0:0<aP d d):∃F:List Rat,∀y,y∉F->(Cm y (Ho 1 (Bf bs marks o d)):Int)-(Cm y (Ho (-1) (Bf bs marks o d)):Int)=iI (∃g∈bs,Wi (d5 g.o) (bR o d y)):=by
 have pm:∀p∈Bf bs marks o d,p.1=1\/p.1=0\/p.1 = -1:=λp m=>by
  obtain⟨x,mx,rfl⟩:=MH.mp m;exact K9 H G mx
 obtain⟨_,q2,q3⟩:=Z0 pm;have s0:((Bf bs marks o d).map λp=>p.1).sum=0:=by
  have:=Rg H G M d0;rw[lY,vR]at this;unfold Bf;rw[MY];exact this
 rw[s0]at q3;refine⟨(gT bs).map (yE o d),λy hy=>?_⟩;have gen:∀e∈gT bs,fE e (bR o d y)≠0:=λe me k=>hy (by rw[Et (G.s me k) k];exact MH.mpr ⟨e,me,rfl⟩);have j:=Js H G M d0 _ y (MQ _) gen;have z:=q3 y λp m e=>by
  obtain⟨x,mx,rfl⟩:=MH.mp m;exact hy (by rw[<-e];exact MH.mpr ⟨fZ x.1,(eC H x.1 (MN (NL.mp mx))).me,rfl⟩)
 unfold Bf at z;rw[MY]at z;have e2:((bQ bs marks).zipIdx.map λx=>if y<yE o d (fZ x.1)then cX bs marks o d x else 0).sum=_:=z;unfold Ho Bf
 lia
theorem Rm(H:qO bs)(G:Gn (vX bs) o d){s:Int}{y:Rat}(m:(s,y)∈Bf bs marks o d)(b:Bool)(hs:s=if b=true then 1 else -1):(∃g∈bs,Ej (d5 g.o) (bR o d y) d b)/\¬∃g∈bs,Ej (d5 g.o) (bR o d y) d (!b):=by
 obtain⟨x,mx,e⟩:=MH.mp m;obtain⟨c1,c2,c3⟩:=Ra H G mx;cases e;have ne:cX bs marks o d x≠0:=by rw[hs];cases b<;>decide
 obtain c1|⟨b',c1⟩:=c1
 ·exact absurd (c2 c1) ne
 have e:=c3 b' c1;have bb:b'=b:=by
  by_cases q:Cv o d (yE o d (fZ x.1)) b' (fZ x.1)/\¬((∃g∈bs,Wi (d5 g.o) (bR o d (yE o d (fZ x.1))))\/∃g∈bs,Ej (d5 g.o) (bR o d (yE o d (fZ x.1))) d (!b'))/\¬∃e∈(bQ bs marks).take x.2,Cv o d (yE o d (fZ x.1)) b' (fZ e)
  ·rw[DM q,hs]at e;cases b<;>cases b'<;>first|rfl|(simp at e)
  ·rw[xP q]at e;exact absurd (by simpa using e) ne
 subst bb;have q:Cv o d (yE o d (fZ x.1)) b' (fZ x.1)/\¬((∃g∈bs,Wi (d5 g.o) (bR o d (yE o d (fZ x.1))))\/∃g∈bs,Ej (d5 g.o) (bR o d (yE o d (fZ x.1))) d (!b'))/\¬∃e∈(bQ bs marks).take x.2,Cv o d (yE o d (fZ x.1)) b' (fZ e):=Classical.byContradiction λk=>ne (by rw[e,xP k];simp);obtain⟨g,mg,me⟩:=sY (eC H x.1 (MN (NL.mp mx))).me;exact⟨⟨g,mg,(Mv G (eF mg) (H.gb g mg).cx).mpr ⟨_,me,q.1⟩⟩,λz=>q.2.1 (.inr z)⟩
theorem Xg(H:qO bs)(G:Gn (vX bs) o d)(M:mU bs marks)(H':qO bu)(G':Gn (vX bu) o d)(M':mU bu YK)(d0:0<aP d d)(h:∀x,(∃g∈bs,Wi (d5 g.o) x)↔∃g∈bu,Wi (d5 g.o) x):(Ho 1 (Bf bs marks o d)).Perm (Ho 1 (Bf bu YK o d)):=by
 obtain⟨F,k⟩:=Lj H G M d0;obtain⟨F',k'⟩:=Lj H' G' M' d0;have p:=uW (P:=Ho 1 (Bf bs marks o d)++Ho (-1) (Bf bu YK o d)) (Q:=Ho 1 (Bf bu YK o d)++Ho (-1) (Bf bs marks o d)) (F:=F++F') λy hy=>by
  have a:=k y λm=>hy (NJ _ m);have b:=k' y λm=>hy (MV _ m);rw[kJ (h (bR o d y))]at a;rw[Lb,Lb];lia
 have dj:∀{bs:List jH}{marks:Str},qO bs->Gn (vX bs) o d->∀y,(Ho 1 (Bf bs marks o d)).count y=0\/(Ho (-1) (Bf bs marks o d)).count y=0:=λH G y=>by
  refine Classical.byContradiction λz=>?_;have m1:=Vh.mp (List.count_pos_iff.mp (Nat.pos_of_ne_zero λq=>z (.inl q)));have m2:=Vh.mp (List.count_pos_iff.mp (Nat.pos_of_ne_zero λq=>z (.inr q)));exact(Rm H G m1 true rfl).2 (Rm H G m2 false rfl).1
 rw[SN]at p⊢;intro y;have e:=p y;rw[List.count_append,List.count_append]at e;rcases dj (marks:=marks) H G y with a|a<;>rcases dj (marks:=YK) H' G' y with b|b<;>lia
end
def Xv(c:Rat)(d:Q2)(R:List wX):Nat:=(R.filter λr=>decide (qN c d r=1)).length
theorem EA{α:Type}{f:α->Int}:∀{L:List α},(∀x∈L,f x=0\/f x=1)->(((L.filter λx=>decide (f x=1)).length:Nat):Int)=(L.map f).sum
 |[],_=>rfl
 |x::L,h=>by
  have ih:=EA (L:=L) λy m=>h y (by simp[m]);rw[MR,NN,<-ih];obtain q|q:=h x (by simp)
  ·rw[NU (by simp[q]),q];lia
  ·rw[NT (by simp[q]),q,MS];push_cast;lia
theorem Uc{α:Type}{f:α->Int}:∀{L:List α},(∀x∈L,f x=0\/f x = -1)->(L.filter λx=>decide (f x=1)).length=0/\(L.map f).sum<=0
 |[],_=>⟨rfl,Int.le_refl 0⟩
 |x::L,h=>by
  obtain⟨i1,i2⟩:=Uc (L:=L) λy m=>h y (by simp[m]);rw[MR,NN];obtain q|q:=h x (by simp)
  ·rw[NU (by simp[q]),q];exact⟨i1,⋯⟩
  ·rw[NU (by simp[q]),q];exact⟨i1,⋯⟩
theorem Vv(H:qO bs)(mx:x∈(bQ bs marks).zipIdx)(mr:r∈Vw bs marks x){c:Rat}:(0<sl d (fZ x.1)->qN c d r=0\/qN c d r=1)/\(¬0<sl d (fZ x.1)->qN c d r=0\/qN c d r = -1):=by
 obtain⟨s1,s2,_,s12,_,e1,e2⟩:=G6 H mx mr;have hd:ht d (vq r.2.2.2)-ht d (vq r.2.2.1)=(s2-s1)*sl d (fZ x.1):=by
  rw[e1,e2];unfold ht sl fZ aU aM aR dE;grind
 unfold qN;refine⟨λq=>?_,λq=>?_⟩
 ·have:=Rat.mul_pos (show 0<s2-s1 by grind) q
  by_cases a:ht d (vq r.2.2.1)<c/\c<ht d (vq r.2.2.2)
  ·rw[oV a];exact .inr rfl
  ·rw[oW a,oW (by grind)];exact .inl rfl
 ·have:0<=(s2-s1) * -sl d (fZ x.1):=Rat.mul_nonneg (by grind) (by grind);rw[oW (by grind)]
  by_cases a:ht d (vq r.2.2.2)<c/\c<ht d (vq r.2.2.1)
  ·rw[oV a];exact .inr rfl
  ·rw[oW a];exact .inl rfl
theorem Ek(H:qO bs)(G:Gn (vX bs) o d):Xv (ht d o) d (bL bs marks)=(Ho 1 (Bf bs marks o d)).length:=by
 have one:∀x∈(bQ bs marks).zipIdx,((Vw bs marks x).filter λr=>decide (qN (ht d o) d r=1)).length=if cX bs marks o d x=1 then 1 else 0:=λx mx=>by
  have pm:=K9 H G mx
  by_cases q:0<sl d (fZ x.1)
  ·have:=EA (f:=qN (ht d o) d) λr mr=>(Vv (d:=d) H mx mr).1 q;have e:cX bs marks o d x=_:=this.symm;obtain w|w|w:=pm
   ·rw[oV w];lia
   ·rw[oW ⋯];lia
   ·lia
  ·obtain⟨a,b⟩:=Uc (f:=qN (ht d o) d) λr mr=>(Vv (d:=d) H mx mr).2 q;have b':cX bs marks o d x<=0:=b;rw[a,oW ⋯]
 unfold Xv Bf Ho;rw[lY];generalize(bQ bs marks).zipIdx=L at *
 induction L with
 |nil=>rfl
 |cons x L ih=>
  rw[OS,RN,MP,one x (by simp),ih λy m=>one y (by simp[m]),MR,RI]
  by_cases q:cX bs marks o d x=1
  ·simp[q];lia
  ·simp[q]
theorem J9(H:qO bs)(G:Gn (vX bs) o d)(M:mU bs marks)(H':qO bu)(G':Gn (vX bu) o d)(M':mU bu YK)(d0:0<aP d d)(h:∀x,(∃g∈bs,Wi (d5 g.o) x)↔∃g∈bu,Wi (d5 g.o) x):Xv (ht d o) d (bL bs marks)=Xv (ht d o) d (bL bu YK):=by
 rw[Ek H G,Ek H' G',(Xg H G M H' G' M' d0 h).length_eq]
end
def Qh(d:Q2)(R:List wX):Rat:=cE (R.map λr=>if ht d (vq r.2.2.1)<ht d (vq r.2.2.2)then ht d (vq r.2.2.2)-ht d (vq r.2.2.1)else 0)
theorem Mb{S:List Rat}(hs:S.Pairwise (· < ·)):∀x∈S.zip S.tail,x.1<x.2/\x.1∈S/\x.2∈S/\∀z∈S,z<=x.1\/x.2<=z:=by
 induction S with
 |nil=>intro x m;simp at m
 |cons a S ih=>
  intro x m;cases S with
  |nil=>simp at m
  |cons c S=>
   obtain⟨p1,p2⟩:=RC.mp hs;obtain⟨q1,_⟩:=RC.mp p2;rcases MJ.mp (show x∈(a,c)::(c::S).zip S from m)with rfl|m'
   ·refine⟨p1 c (by simp),by simp,by simp,λz mz=>?_⟩;obtain rfl|mz:=MJ.mp mz
    ·exact .inl (by grind)
    ·right
     obtain rfl|mz:=MJ.mp mz
     ·grind
     ·have:=q1 z mz;grind
   ·obtain⟨i1,i2,i3,i4⟩:=ih p2 x m';refine⟨i1,by simp at i2⊢;grind,by simp at i3⊢;grind,λz mz=>?_⟩;obtain rfl|mz:=MJ.mp mz
    ·have:=p1 x.1 i2;exact .inl (by grind)
    ·exact i4 z mz
theorem Mu(c:Rat)(d:Q2):∀R:List wX,((Xv c d R:Nat):Rat)=cE (R.map λr=>if qN c d r=1 then(1:Rat)else 0)
 |[]=>rfl
 |r::R=>by
  have ih:=Mu c d R;rw[MR,cE,<-ih];unfold Xv
  by_cases q:qN c d r=1
  ·rw[NT (by simp[q]),oV q,MS];push_cast;grind
  ·rw[NU (by simp[q]),oW q];grind
theorem Jr{c:Rat}:qN c d r=1↔ht d (vq r.2.2.1)<c/\c<ht d (vq r.2.2.2):=by
 unfold qN
 by_cases a:ht d (vq r.2.2.1)<c/\c<ht d (vq r.2.2.2)
 ·rw[oV a];exact⟨λ_=>a,λ_=>rfl⟩
 ·rw[oW a];refine⟨λz=>?_,λz=>absurd z a⟩;split at z
  ·exact absurd z ∅
  ·exact absurd z ∅
def Iz(d:Q2)(S:List Rat)(R:List wX):Prop:=∀r∈R,ht d (vq r.2.2.1)∈S/\ht d (vq r.2.2.2)∈S
theorem N9{α:Type}:∀L:List α,cE (L.map λ_=>(0:Rat))=0
 |[]=>rfl
 |_::L=>by rw[MR,cE,N9 L];grind
theorem El{R:List wX}{S:List Rat}(hs:S.Pairwise (· < ·))(he:Iz d S R):Qh d R=lD S λa b=>(b-a)*((Xv ((a+b)/2) d R:Nat):Rat):=by
 have one:∀r∈R,(if ht d (vq r.2.2.1)<ht d (vq r.2.2.2)then ht d (vq r.2.2.2)-ht d (vq r.2.2.1)else 0)=cE ((S.zip S.tail).map λx=>(x.2-x.1)*if qN ((x.1+x.2)/2) d r=1 then(1:Rat)else 0):=λr m=>by
  obtain⟨m1,m2⟩:=he r m
  by_cases q:ht d (vq r.2.2.1)<ht d (vq r.2.2.2)
  ·rw[oV q,<-vN (G:=λz=>z) hs m1 m2 (by grind)];unfold lD;refine hJ λx mx=>?_;obtain⟨x1,_,_,x4⟩:=Mb hs x mx;have y1:=x4 _ m1;have y2:=x4 _ m2;have e:(qN ((x.1+x.2)/2) d r=1)↔(ht d (vq r.2.2.1)<=x.1/\x.2<=ht d (vq r.2.2.2)):=by rw[Jr];grind
   simp only
   by_cases w:ht d (vq r.2.2.1)<=x.1/\x.2<=ht d (vq r.2.2.2)
   ·rw[oV w,oV (e.mpr w)];grind
   ·rw[oW w,oW λz=>w (e.mp z)];grind
  ·rw[oW q];refine(N9 (S.zip S.tail)).symm.trans (hJ λx mx=>?_);have:¬qN ((x.1+x.2)/2) d r=1:=λz=>by have:=Jr.mp z;grind
   rw[oW this];grind
 unfold Qh;rw[hJ one,x8];unfold lD;refine hJ λx m=>?_;simp only;rw[Mu,<-x6]
theorem GU(H:qO bs)(M:mU bs marks)(H':qO bu)(M':mU bu YK)(d0:0<aP d d)(h:∀x,(∃g∈bs,Wi (d5 g.o) x)↔∃g∈bu,Wi (d5 g.o) x):Qh d (bL bs marks)=Qh d (bL bu YK):=by
 have hn:∀{bs:List jH},qO bs->∀e∈(vX bs).flatten,0<aP (aM e) (aM e):=λ{bs}H e me=>by
  obtain⟨b,mb,me⟩:=sY (bs:=bs) me;exact(H.gb b mb).cx.ne e me
 have hw:ht d (d.2/aP d d,-d.1/aP d d)=1:=by
  show d.2/aP d d*d.2 - -d.1/aP d d*d.1=1;have:aP d d=d.1*d.1+d.2*d.2:=rfl;rw[Rat.div_def,Rat.div_def];have n:aP d d≠0:=by grind
  grind
 obtain⟨F,hF⟩:=Gv (hn H) d _ hw;obtain⟨F',cj⟩:=Gv (hn H') d _ hw;obtain⟨S,hs,hS⟩:=x9 (((bL bs marks)++(bL bu YK)).flatMap λr=>[ht d (vq r.2.2.1),ht d (vq r.2.2.2)]);have he:Iz d S (bL bs marks):=λr m=>⟨(hS _).mpr (NV.mpr ⟨r,NJ _ m,by simp⟩),(hS _).mpr (NV.mpr ⟨r,NJ _ m,by simp⟩)⟩;have qm:Iz d S (bL bu YK):=λr m=>⟨(hS _).mpr (NV.mpr ⟨r,MV _ m,by simp⟩),(hS _).mpr (NV.mpr ⟨r,MV _ m,by simp⟩)⟩;rw[El hs he,El hs qm];unfold lD;refine hJ λx mx=>?_;obtain⟨x1,_,_,x4⟩:=Mb hs x mx;obtain⟨c,c0,hc⟩:=U9 (F++F'++[x.2]) x.1;have c2:c<x.2:=by
  obtain q|q:=hc x.2 (by simp)
  ·grind
  ·exact q
 have nF:c∉F:=λm=>by rcases hc c (by simp[m])with q|q<;>grind
 have nF':c∉F':=λm=>by rcases hc c (by simp[m])with q|q<;>grind
 have same:∀{R:List wX},Iz d S R->Xv ((x.1+x.2)/2) d R=Xv c d R:=λ{R}he=>by
  unfold Xv
  congr 1
  refine List.filter_congr λr m=>?_;have y1:=x4 _ (he r m).1;have y2:=x4 _ (he r m).2;have e:(qN ((x.1+x.2)/2) d r=1)↔(qN c d r=1):=by rw[Jr,Jr];grind
  exact decide_eq_decide.mpr e
 obtain⟨g1,g2⟩:=hF c nF;obtain⟨g3,_⟩:=cj c nF';have:=J9 H g1 M H' g3 M' d0 h;rw[g2]at this;simp only;rw[same he,same qm,this]
section
variable{P:UU}{w:UY}{K:W.Frag}{mg:Str->Option oA}{base:oE}
theorem G5(H:qO bs)(mx:x∈(bQ bs marks).zipIdx)(mr:r∈Vw bs marks x):∃s1 s2:Rat,0<=s1/\s1<s2/\s2<=1/\vq r.2.2.1=dE (vq x.1.p) (vq x.1.q) s1/\vq r.2.2.2=dE (vq x.1.p) (vq x.1.q) s2/\∀m,s1<m->m<s2->¬∃g∈bs,Wi (d5 g.o) (dE (vq x.1.p) (vq x.1.q) m):=by
 have k:=eC H x.1 (MN (NL.mp mx));unfold Vw cK at mr;obtain⟨a,ma,rfl⟩:=MH.mp mr;have YI:∀e∈(bQ bs marks).take x.2,Xx bs e:=λe m=>eC H e (OJ m);have ZJ:∀s∈bs.map a9,mW s:=λs m=>by
  obtain⟨g,mg,rfl⟩:=MH.mp m;exact jF (H.ok g mg)
 have twok:∀w∈Iq ((bQ bs marks).take x.2) x.1.l,Pb w.1/\Pb w.2:=λw m=>by
  obtain⟨e,me,rfl⟩:=MH.mp m;have:=YI e (NI.mp me).1;exact⟨this.hp,this.hq⟩
 have en:=xH k.hp k.hq k.ne;obtain⟨f1,f2⟩:=pG ZJ en twok a ma;obtain⟨a0,a1,a2⟩:=yP ZJ en twok a ma;obtain⟨n1,v1⟩:=uP f1;obtain⟨n2,v2⟩:=uP f2;refine⟨val a.1,val a.2,a0,a1,a2,by rw[(uQ k.hp.np k.hq.np n1).2,v1],by rw[(uQ k.hp.np k.hq.np n2).2,v2],λm m1 m2=>?_⟩;rintro⟨g,mg,wi⟩;obtain⟨r,kr,ov,r2,r3⟩:=Uv (H.gb g mg) k.hp.np k.hq.np k.ne (m:=m) (by grind) (by grind) (λe me z=>absurd z (by have:=wi e me;grind)) (λe me=>Rat.le_of_lt (wi e me));have hand:r.2.2≠1:=λr1=>by
  obtain⟨q,_⟩|⟨⟨e,me,z1,z2⟩,_,_⟩:=ov.h
  ·lia
  ·have:=wi e me;rw[lU,z1,z2]at this;grind
 obtain⟨t,t0,ht⟩:=U9 (lT ((bs.map a9).map λs=>aW s (eQ x.1.p x.1.q))++pK (tO x.1.p x.1.q (Iq ((bQ bs marks).take x.2) x.1.l))++[val a.2,val r.2.1]) m;have t1:t<val a.2:=by
  obtain q|q:=ht (val a.2) (by simp)
  ·grind
  ·exact q
 have t2:t<val r.2.1:=by
  obtain q|q:=ht (val r.2.1) (by simp)
  ·grind
  ·exact q
 have h1:t∉lT ((bs.map a9).map λs=>aW s (eQ x.1.p x.1.q)):=λz=>by
  rcases ht t (NJ _ (NJ _ z))with q|q<;>grind
 have h2:t∉pK (tO x.1.p x.1.q (Iq ((bQ bs marks).take x.2) x.1.l)):=λz=>by
  rcases ht t (NJ _ (MV _ z))with q|q<;>grind
 refine((t6 ZJ en twok h1 h2).mp ⟨a,ma,by grind,t1⟩).2.1 ⟨r,?_,hand,by grind,t2⟩;rw[MY];exact MH.mpr ⟨g,mg,kr⟩
def M0:Str:="lrbe-"
theorem zI(hb:∀b∈bs,LB 400 b):mU bs M0:=λb mb k hk=>by
 have hm:=(hb b mb).m;have hk':k<b.m.cps.toList.length:=by have:=hm.len;simpa using(show k<b.m.cps.size by lia)
 have e:Lc b.m k=b.m.cps.toList[k]:=by unfold Lc;rw[NG,MI hk'];rfl
 have m1:=hm.all _ (PC hk');rw[<-e]at m1;have key:∀c∈("lrbe-":Str).cps.toList,Zc M0 c=true:=by decide +kernel
 exact key _ m1
theorem Zh(hl:bs.length<=10)(hb:∀b∈bs,LB 400 b)(marks:Str):Qo bs marks:=by
 have ZJ:∀s∈bs.map a9,mW s:=λs m=>by
  obtain⟨g,mg,rfl⟩:=MH.mp m;exact jF (hb g mg).ok
 have en:∀e∈bQ bs marks,tR e.p e.q:=λe m=>by
  have k:=eC (rF hb) e m;exact xH k.hp k.hq k.ne
 have l1:=Qu ZJ (bQ bs marks) [] 0 en (λ_ m=>absurd m (by simp)) (λ_=>MQ _);have l2:=t5 (marks:=marks) λb m=>(hb b m).len.2;have l3:(bL bs marks).length<=8000:=by
  unfold bL;rw[ML]at l1;have:(bQ bs marks).length*(2*(1+bs.length+0)+(bQ bs marks).length)<=60*82:=OL ⋯ ⋯
  lia
 exact⟨⋯,λb m=>(hb b m).ok,λb m=>⟨(hb b m).len.2,(hb b m).m.len⟩,en,l3⟩
theorem CO(p q:Pt):iP (pt p) (pt q)=decide (p=q):=by
 show(iP (fr p.1) (fr q.1)&&(iP (fr p.2) (fr q.2)&&true))=decide (p=q);rw[pL,pL,UM]
 by_cases c:p=q
 ·subst c;simp
 ·rw[oX c]
  by_cases d:p.1=q.1
  ·have:p.2≠q.2:=λz=>c (Prod.ext d z);simp[this]
  ·simp[d]
theorem BL(hp:NP p)(hq:NP q)(h:vq p=vq q):p=q:=by
 have e1:val p.1=val q.1:=congrArg Prod.fst h;have e2:val p.2=val q.2:=congrArg Prod.snd h;exact Prod.ext (eR hp.x hq.x e1) (eR hp.y hq.y e2)
theorem Jm:∀{ps:List (Qe×Qe)}{k:K2},cN ps k=(((ps.map λx=>tG x.1).countP λy=>decide (y=k):Nat):Int)-(((ps.map λx=>tG x.2).countP λy=>decide (y=k):Nat):Int)
 |[],k=>rfl
 |x::ps,k=>by
  have ih:=Jm (ps:=ps) (k:=k);unfold cN at ih⊢;rw[MR,NN,ih,MR,MR,List.countP_cons,List.countP_cons];simp only[decide_eq_true_eq]
  by_cases a:tG x.1=k
  ·rw[oV a,oV a]
   by_cases b:tG x.2=k
   ·rw[oV b,oV b];push_cast;lia
   ·rw[oW b,oW b];push_cast;lia
  ·rw[oW a,oW a]
   by_cases b:tG x.2=k
   ·rw[oV b,oV b];push_cast;lia
   ·rw[oW b,oW b];push_cast;lia
def Mj:iO:=λas Q=>∃R:List wX,as=[.v (.lst (R.map oP))]/\R.length<=8000/\(R.map λr=>r.2.2.1).Perm (R.map λr=>r.2.2.2)/\Q (.v (.bl true)) []
abbrev tU(P w K mg base):=(~~~Fn) 1 "_law_closes" ["_law_told"] (aQ K Mj)
abbrev rN:UZ:=top 61
theorem iA:aK ["_law_told","_law_counts","_law_number","_law_at","_law_begin","_law_end"] ["_law_told"] (aC rN):=iG
theorem Hh(F:dY K "_law_closes" "_law_closes" rN f fd)(TX:Txt mg):(~~~bE) eT 1 f fd ["_law_told"] (aQ K Mj):=by
 refine F.okU iA (λhr=>(Pj (it:=0) (ic:=1) (jn:=2) (ja:=3) (jb:=4) (je:=5) rfl rfl iA.nd rfl (ON rfl) rfl rfl ∅ ∅ PassesOwn.never (qv 0) (j9 (kO (i:=2) iA.nd rfl (ON rfl)) (j9 (kO (i:=3) iA.nd rfl (ON rfl)) (j9 (kO (i:=4) iA.nd rfl (ON rfl)) (j9 (kO (i:=5) iA.nd rfl (ON rfl)) z7)))) (Lq (i:=1) (j:=4) hr b8 (λ_=>rfl) (qv 1) (qv 4) (qv 1) (qv 4) ⟨rfl,rfl,rfl,rfl⟩) (Lq (i:=1) (j:=5) hr iW (λ_=>rfl) (qv 1) (qv 5) (qv 1) (qv 5) ⟨rfl,rfl,rfl,rfl⟩) (F3 (i:=1) rfl (λ_ _ _ _=>hr) rfl TX.n_all (qv 1) (bH.of rfl) (λ_ _ _ _=>(kO (i:=0) (show List.Nodup (["_law_count"]:List Str) by decide +kernel) rfl (ON rfl) (QP rfl))) (λ_ _ _ _=>qv 0)))) ?_;rintro as Q ⟨R,rfl,hl,hp,q⟩;refine⟨R.map oP,R.map λr=>(r.2.2.1,r.2.2.2),rfl,?_,?_,λb E' hb=>?_⟩
 ·clear hl hp q
  induction R with
  |nil=>exact .nil
  |cons r R ih=>exact .cons ⟨_,_,rfl⟩ ih
 ·rw[ML,WW];lia
 ·have:b=true:=hb.mpr λk=>by
   rw[Jm,MY,MY];have:=(hp.map tG).countP_eq λy=>decide (y=k);rw[MY,MY]at this;exact Int.sub_eq_zero.mpr (congrArg Int.ofNat this)
  subst this;exact⟨rfl,q⟩
def mZ(v:Pt):Q2:=(-(val v.2),val v.1)
def GG:iO:=λas Q=>∃(R:List wX)(v:Pt),as=[.v (.lst (R.map oP)),.v (pt v)]/\R.length<=8000/\Jf U0 (220*U0) R/\v.1.2=1/\v.2.2=1/\v.1.1.natAbs<=3/\v.2.1.natAbs<=3/\∀t,dJ t->val t=Qh (mZ v) R->Q (.v (fr t)) []
theorem T6(h1:v.1.2=1)(h2:v.2.2=1)(h3:v.1.1.natAbs<=3)(h4:v.2.1.natAbs<=3)(hp:Bj U0 (220*U0) p)(hq:Bj U0 (220*U0) q):
  ∃m:Int,MU U0 (nN v.1 v.2 (dO q.1 p.1) (dO q.2 p.2)) m/\m.natAbs<=2640*U0/\val (nN v.1 v.2 (dO q.1 p.1) (dO q.2 p.2))=ht (mZ v) (vq q)-ht (mZ v) (vq p)/\Nv v.1 v.2 3/\Nv (dO q.1 p.1) (dO q.2 p.2) 730:=by
 obtain⟨⟨a,c⟩,⟨b,d⟩⟩:=v;obtain rfl:c=1:=h1;obtain rfl:d=1:=h2;obtain⟨m,n,a1,a2,a3,a4⟩:=hp;obtain⟨m',n',b1,b2,b3,b4⟩:=hq;have s1:=b1.sub a1;have s2:=b2.sub a2;have one:∀a:Int,MU 1 (a,1) a:=λa=>⟨dQ a,by rw[k7];push_cast;grind⟩;have t1:=(one a).mul s1;have t2:=(one b).mul s2;rw[Nat.one_mul]at t1 t2;have tt:=t1.add t2;have u:=qR;have ul:=wY;have h3:a.natAbs<=3:=h3;have h4:b.natAbs<=3:=h4;have k1:(a*(m'-m)).natAbs<=3*(440*U0):=by rw[OK];exact OL h3 ⋯
 have k2:(b*(n'-n)).natAbs<=3*(440*U0):=by rw[OK];exact OL h4 ⋯
 have jw:(2:Nat)^730=2^10*2^720:=by rw[<-SQ]
 refine⟨_,tt,⋯,?_,⟨dQ _,dQ _,mJ (show a.natAbs<2^3 by lia) (show(1:Int).natAbs<2^3 by decide) ∅,mJ (show b.natAbs<2^3 by lia) (show(1:Int).natAbs<2^3 by decide) ∅⟩,⟨s1.n,s2.n,s1.sz u ⋯ ⋯ ∅,s2.sz u ⋯ ⋯ ∅⟩⟩;unfold nN;rw[gP t1.n t2.n,dS (dQ a) s1.n,dS (dQ b) s2.n,dU b1.n a1.n,dU b2.n a2.n];unfold mZ ht aU vq;simp only;grind
abbrev oU(P w K mg base):=(~~~Fn) 4 "_law_how_long" ["_law_told","_law_vector"] (aQ K GG)
abbrev mD:UZ:=top 62
theorem cU:aK ["_law_told","_law_vector","_law_total","_law_number","_law_at","_law_begin","_law_end","_law_far"] ["_law_told","_law_vector"] (aC mD):=iG
theorem zU(F:dY K "_law_how_long" "_law_how_long" mD f fd)(TX:Txt mg)(ZV: ~~~yJ)(YB: ~~~sV)(YC: ~~~o7):(~~~bE) eT 4 f fd ["_law_told","_law_vector"] (aQ K GG):=by
 refine F.okU cU (λhr=>(aB (fS 2 cU.nd (aH (f2 aA aA))) (aB (gJ PassesOwn.never rfl (dG rfl (fv 0)) (bS (n:=4) rfl rfl (aE (fG 3 cU.nd) (aE (fG 4 cU.nd) (aE (fG 5 cU.nd) (aE (fG 6 cU.nd) bG))))) (aB (fS 7 cU.nd (fK ZV (f2 (fv 1) (fK YB (f2 (fv 6) (fv 5)))))) (aG (fS 2 cU.nd (pO (fP uU (fQ 7) aA) (fK YC (f2 (fv 2) (fv 7))) (fv 2)))))) (aG (aN (fv 2)))))) ?_;rintro as Q ⟨R,v,rfl,hl,hU,h1,h2,h3,h4,z⟩;have u:=qR;have ul:=wY;have p40:(2:Nat)^760=2^40*2^720:=by rw[<-SQ]
 show fW _ _ _ (R.map oP) _;refine eY (f:=oP) (λs:Fr×Int×Option U×Option U×Option U×Option U×Option U=>[⇑(.lst (R.map oP)),⇑(pt v),⇑(fr s.1),s.2.2.1,s.2.2.2.1,s.2.2.2.2.1,s.2.2.2.2.2.1,s.2.2.2.2.2.2])
  (λxs s=>MU U0 s.1 s.2.1/\s.2.1.natAbs+xs.length*(2640*U0)<=8000*(2640*U0)/\(∀r∈xs,r∈R)/\∀t,dJ t->val t=val s.1+Qh (mZ v) xs->Q (.v (fr t)) []) ?_ ?_ R ((0,1),0,none,none,none,none,none) ⟨⟨dQ 0,by rw[fA];push_cast;grind⟩,by have:=Nat.mul_le_mul_right (2640*U0) hl;simpa using this,λr m=>m,λt nt vt=>z t nt (by rw[vt,fA];grind)⟩
 ·rintro r xs ⟨ar,m,v3,v4,v5,v6,v7⟩ rest ⟨hm,hb,hr,zz⟩ K;have hm:MU U0 ar m:=hm;obtain⟨hp,hq⟩:=hU r (hr r (by simp));obtain⟨k,f1,f2,f3,f4,f5⟩:=T6 h1 h2 h3 h4 hp hq;have nb:=hp.nv u (e:=730) ⋯ ⋯ ∅;have ne:=hq.nv u (e:=730) ⋯ ⋯ ∅;rw[MS,Nat.succ_mul]at hb;simp only at hb;refine⟨_,_,_,_,730,730,rfl,ne,nb,∅,_,_,_,_,3,730,rfl,f4,f5,∅,?_⟩;have cons:Qh (mZ v) (r::xs)=(if ht (mZ v) (vq r.2.2.1)<ht (mZ v) (vq r.2.2.2)then ht (mZ v) (vq r.2.2.2)-ht (mZ v) (vq r.2.2.1)else 0)+Qh (mZ v) xs:=rfl;rw[cons]at zz;generalize hf:nN v.1 v.2 (dO r.2.2.2.1 r.2.2.1.1) (dO r.2.2.2.2 r.2.2.1.2)=far at f1 f3⊢;show if decide (0<far.1)=true then _ else _
  by_cases c:0<far.1
  ·rw[oY c,oV rfl];have c':=(Ir f1.n).mpr c;have s1:=hm.sz u (e:=760) ⋯ ⋯ ∅;have s2:=f1.sz u (e:=760) ⋯ ⋯ ∅;refine⟨ar,far,rfl,hm.n,f1.n,⋯,K (eM ar far,m+k,↑(r.1:Int),↑(r.2.1:Int),⇑(pt r.2.2.1),⇑(pt r.2.2.2),⇑(fr far)) ⟨hm.add f1,by simp only;lia,λx mx=>hr x (by simp[mx]),λt nt vt=>zz t nt ?_⟩⟩;rw[vt,gP hm.n f1.n,f3,oV (by grind)];grind
  ·rw[oX c,oW ∅];have c':¬0<val far:=λw=>c ((Ir f1.n).mp w);refine K (ar,m,↑(r.1:Int),↑(r.2.1:Int),⇑(pt r.2.2.1),⇑(pt r.2.2.2),⇑(fr far)) ⟨hm,by simp only;lia,λx mx=>hr x (by simp[mx]),λt nt vt=>zz t nt ?_⟩;rw[vt,oW (by grind)];grind
 ·rintro⟨ar,m,v3,v4,v5,v6,v7⟩ ⟨hm,hb,hr,zz⟩;have hm:MU U0 ar m:=hm;refine⟨rfl,zz ar hm.n ?_⟩;show val ar=val ar+0;grind
end
theorem Xk(ho:∀p∈o,NP p)(hx:NP x):Es o x=true↔Wi (d5 o) (vq x):=by
 unfold Es Wi d5;rw[qT,OQ];have one:∀e∈zr o,(0<dX (fJ e.1 e.2) (aF x))↔0<fE (vq e.1,vq e.2) (vq x):=λe me=>by
  obtain⟨m1,m2⟩:=k8 me;have hc:=(ho _ m1).spt;have hd:=(ho _ m2).spt;have o:=uS hc hd hx.spt;have w:=Rat.mul_pos (Rat.mul_pos hc.p hd.p) hx.spt.p;have e':((dX (fJ e.1 e.2) (aF x):Int):Rat)=fE (vq e.1,vq e.2) (vq x)*(((aF e.1).2.2:Rat)*((aF e.2).2.2:Rat)*((aF x).2.2:Rat)):=by rw[o];grind
  have i2:(0:Rat)<((dX (fJ e.1 e.2) (aF x):Int):Rat)↔0<dX (fJ e.1 e.2) (aF x):=by norm_cast
  rw[<-i2,e',rK w]
 constructor
 ·intro h e me;obtain⟨y,my,rfl⟩:=MH.mp me;have:=h _ (MH.mpr ⟨y,my,rfl⟩);rw[decide_eq_true_eq]at this;exact(one y my).mp this
 ·intro h l ml;obtain⟨y,my,rfl⟩:=MH.mp ml;rw[decide_eq_true_eq];exact(one y my).mpr (h _ (MH.mpr ⟨y,my,rfl⟩))
theorem Nv.np(h:Nv p.1 p.2 e):NP p:=⟨h.x,h.y⟩
def iX(p q:Pt):Pt:=(dO p.1 q.1,dO p.2 q.2)
theorem vP(hp:Nv p.1 p.2 e)(hq:Nv q.1 q.2 f):Nv (iX p q).1 (iX p q).2 (e+f+1)/\vq (iX p q)=aR (vq p) (vq q):=by
 have a:=Av hp.x hq.x;have b:=Av hp.y hq.y;have:=hp.sx;have:=hp.sy;have:=hq.sx;have:=hq.sy;refine⟨⟨cS hp.x hq.x,cS hp.y hq.y,by show sz (dO p.1 q.1)<=_;lia,by show sz (dO p.2 q.2)<=_;lia⟩,?_⟩;unfold vq iX aR;simp only;rw[dU hp.x hq.x,dU hp.y hq.y]
theorem Ge(hp:NP p)(hq:NP q):dJ (nN p.1 p.2 q.1 q.2)/\val (nN p.1 p.2 q.1 q.2)=(vq p).1*(vq q).1+(vq p).2*(vq q).2:=by
 have n1:=bX hp.x hq.x;have n2:=bX hp.y hq.y;refine⟨iF n1 n2,?_⟩;unfold nN vq;rw[gP n1 n2,dS hp.x hq.x,dS hp.y hq.y]
theorem Rh(hp:NP p)(hq:NP q):dJ (gY p.1 p.2 q.1 q.2)/\val (gY p.1 p.2 q.1 q.2)=aU (vq p) (vq q):=
 ⟨cS (bX hp.x hq.y) (bX hp.y hq.x),Gb (x:=(p,q)) hp hq⟩
theorem DX(n:dJ f)(h:val f=0):f.1=0:=by
 have a:=Ir n;have b:=Az n;rw[h]at a b;have a':¬0<f.1:=λz=>absurd (a.mpr z) (by grind);have b':¬f.1<0:=λz=>absurd (b.mpr z) (by grind)
 lia
theorem Im(hb:∀b∈bs,LB 400 b)(mr:r∈bL bs M0):∃(g:jH)(p q:Pt)(s1 s2:Rat),bs[r.1]?=oZ g/\r.2.1<g.o.length/\g.o[r.2.1]?=oZ p/\g.o[(r.2.1+1)%g.o.length]?=oZ q/\
  0<aP (aR (vq q) (vq p)) (aR (vq q) (vq p))/\0<=s1/\s1<s2/\s2<=1/\vq r.2.2.1=dE (vq p) (vq q) s1/\vq r.2.2.2=dE (vq p) (vq q) s2/\∀m,s1<m->m<s2->¬∃g∈bs,Wi (d5 g.o) (dE (vq p) (vq q) m):=by
 have H:=rF hb;rw[lY]at mr;obtain⟨x,mx,mr⟩:=NV.mp mr;obtain⟨s1,s2,h1,h2,h3,h4,h5,h6⟩:=G5 H mx mr;obtain⟨b,e1,e2,_,e3⟩:=pD (MN (NL.mp mx));unfold Vw cK at mr;obtain⟨a,ma,rfl⟩:=MH.mp mr;have hp:x.1.p=b.o.getD x.1.k BP:=by rw[e3];rfl
 have hq:x.1.q=b.o.getD ((x.1.k+1)%b.o.length) BP:=by rw[e3];rfl
 have gp:b.o[x.1.k]?=oZ x.1.p:=by rw[hp];exact j3 e2
 have gq:b.o[(x.1.k+1)%b.o.length]?=oZ x.1.q:=by rw[hq];exact j3 (RO _ ⋯)
 obtain⟨p',q',z1,z2,z3⟩:=Ew e2;rw[gp]at z1;cases z1;rw[gq]at z2;cases z2;have d0:=(H.gb b (MN e1)).cx.ne (vq x.1.p,vq x.1.q) (MH.mpr ⟨_,MN z3,rfl⟩);exact⟨b,x.1.p,x.1.q,s1,s2,e1,e2,gp,gq,d0,h1,h2,h3,h4,h5,h6⟩
section
variable{P:UU}{w:UY}{K:W.Frag}{mg:Str->Option oA}{base:oE}
def Eh:iO:=λas Q=>∃(bs:List jH)(r:wX),as=[.v (.lst (bs.map gR)),.v (oP r)]/\bs.length<=10/\(∀b∈bs,LB 400 b)/\r∈bL bs M0/\Q (.v (.bl true)) []
theorem W6{s1 s2:Rat}(hb:Bj U0 (220*U0) b)(he:Bj U0 (220*U0) e)(vb:vq b=dE (vq p) (vq q) s1)(ve:vq e=dE (vq p) (vq q) s2):Nv (eV (eM b.1 e.1) (1,2)) (eV (eM b.2 e.2) (1,2)) 800/\vq ((eV (eM b.1 e.1) (1,2),eV (eM b.2 e.2) (1,2)):Pt)=dE (vq p) (vq q) ((s1+s2)/2):=by
 obtain⟨m,n,a1,a2,a3,a4⟩:=hb;obtain⟨m',n',b1,b2,b3,b4⟩:=he;have half:MU 2 (1,2) 1:=⟨Tz,by show((1:Int):Rat)/((2:Int):Rat)*((2:Nat):Rat)=((1:Int):Rat);push_cast;grind⟩;have s1':=(a1.add b1).mul half;have s2':=(a2.add b2).mul half;have u:=qR;have ul:=wY;have jw:(2:Nat)^740=2^20*2^720:=by rw[<-SQ]
 have z1:=s1'.sz ⋯ (e:=740) ⋯ ⋯ ∅;have z2:=s2'.sz ⋯ (e:=740) ⋯ ⋯ ∅;refine⟨⟨s1'.n,s2'.n,⋯,⋯⟩,?_⟩;have e1:val b.1=(dE (vq p) (vq q) s1).1:=congrArg Prod.fst vb;have e2:val b.2=(dE (vq p) (vq q) s1).2:=congrArg Prod.snd vb;have e3:val e.1=(dE (vq p) (vq q) s2).1:=congrArg Prod.fst ve;have e4:val e.2=(dE (vq p) (vq q) s2).2:=congrArg Prod.snd ve;have ZZ:val (1,2)=1/2:=by show((1:Int):Rat)/((2:Int):Rat)=1/2;push_cast;rfl
 refine Prod.ext ?_ ?_
 ·show val (eV (eM b.1 e.1) (1,2))=_;rw[dS (iF a1.n b1.n) Tz,gP a1.n b1.n,e1,e3,ZZ];unfold dE;simp only;grind
 ·show val (eV (eM b.2 e.2) (1,2))=_;rw[dS (iF a2.n b2.n) Tz,gP a2.n b2.n,e2,e4,ZZ];unfold dE;simp only;grind
theorem R8{p q:Pt}(hp:Nv p.1 p.2 730)(hq:Nv q.1 q.2 730):Nv (eM p.1 q.1) (eM p.2 q.2) 1461:=by
 have a:=Wn hp.x hq.x;have b:=Wn hp.y hq.y;have:=hp.sx;have:=hp.sy;have:=hq.sx;have:=hq.sy;exact⟨iF hp.x hq.x,iF hp.y hq.y,⋯,⋯⟩
theorem CB{s1 s2:Rat}(d0:0<aP (aR q p) (aR q p))(h:s1<s2):dE p q s1≠dE p q s2:=λw=>by
 have w1:p.1+(q.1-p.1)*s1=p.1+(q.1-p.1)*s2:=congrArg Prod.fst w;have w2:p.2+(q.2-p.2)*s1=p.2+(q.2-p.2)*s2:=congrArg Prod.snd w;have k:=Rat.mul_pos d0 (show 0<s2-s1 by grind);have e:aP (aR q p) (aR q p)*(s2-s1)=(q.1-p.1)*((q.1-p.1)*(s2-s1))+(q.2-p.2)*((q.2-p.2)*(s2-s1)):=by unfold aP aR;grind
 rw[e,show(q.1-p.1)*(s2-s1)=0 by grind,show(q.2-p.2)*(s2-s1)=0 by grind]at k;grind
abbrev jI(P w K mg base):=(~~~Fn) 5 "_law_stretch_right" ["_law_some","_law_row"] (aQ K Eh)
abbrev h9:UZ:=top 60
theorem bD:aK ["_law_some","_law_row","_law_spots","_law_along","_law_by","_law_midst","_law_number","_law_at","_law_begin","_law_end","_law_a","_law_b"] ["_law_some","_law_row"] (aC h9):=iG
theorem pV(F:dY K "_law_stretch_right" "_law_stretch_right" h9 f fd)(TX:Txt mg)(YB: ~~~sV)(YL: ~~~qQ)(ZV: ~~~yJ)(YW: ~~~sU)(XU: ~~~jR)(ZF: ~~~oT)(yh:mg "any" = none):(~~~bE) eT 5 f fd ["_law_some","_law_row"] (aQ K Eh):=by
 refine F.okU bD (λhr=>(aB (iV (fv 1) (bS (n:=4) rfl rfl (aE (fG 6 bD.nd) (aE (fG 7 bD.nd) (aE (fG 8 bD.nd) (aE (fG 9 bD.nd) bG)))))) (aB (fS 2 bD.nd (fX (fX (fv 0) (fv 6)) aA)) (aB (kI (i:=10) (j:=11) rfl bD.nd rfl rfl ∅ rfl rfl (f2 (fX (fv 2) (fv 7)) (fX (fv 2) (aY b8 (aY iW (fv 7) (jS rfl rfl TX.n_len (f1 (fv 2)))) aA))) rfl) (aB (fS 3 bD.nd (fK YB (f2 (fv 11) (fv 10)))) (aB (eS (Gq (Ce (Cd rfl hr (fv 8) (fv 9) (cH _)) (uJ (sH rfl hr (fX (fK YL (f2 (fv 3) (fK YB (f2 (fv 8) (fv 10))))) aA) aA (cH _))))) (aG (aN pN)) c9) (aB (eS (sH rfl hr (fX (fK YL (f2 (fv 3) (fK YB (f2 (fv 9) (fv 10))))) aA) aA (cH _)) (aG (aN pN)) c9) (aB (gJ PassesOwn.never rfl (qZ rfl (aH (f3 (fK YB (f2 (fv 9) (fv 8))) (fK YB (f2 (fv 8) (fv 10))) (fK YB (f2 (fv 11) (fv 9)))))) (fG 4 bD.nd) (aG (eS (fP gW (fX (fK ZV (f2 (fv 3) (fv 4))) aA) aA) (aG (aN pN)) c9))) (aB (fS 5 bD.nd (fK XU (f2 (fK YW (f2 (fv 8) (fv 9))) (aH (f2 aA aA))))) (aG (aN (U1 (T7 rfl rfl rfl yh (f1 (fD (N':=["_law_block","_law_midst"]) (t:=1) (cap:=[(5,false)]) rfl (bH.of rfl) rfl ∅ (dG rfl (fv 0)) (λ_ _ _ _=>(fH 0)) (λ_ _ _ _=>(fK ZF (f2 (fv 0) (fv 1))))))))))))))))))) ?_;rintro as Q ⟨bs,r,rfl,hl,hb,mr,z⟩;obtain⟨g,p,q,s1,s2,eg,hk,ep,eq,d0,h1,h2,h3,vb,ve,free⟩:=Im hb mr;obtain⟨ub,ue⟩:=Hw hb M0 r mr;obtain⟨n,k,b,e⟩:=r;simp only at eg hk ep eq vb ve ub ue;have u:=qR;have ul:=wY;have jw:(2:Nat)^730=2^10*2^720:=by rw[<-SQ]
 have nb:Nv b.1 b.2 730:=ub.nv u (e:=730) ⋯ ⋯ ∅;have ne:Nv e.1 e.2 730:=ue.nv u (e:=730) ⋯ ⋯ ∅;have lg:=hb g (MN eg);have np:=(lg.pb p (MN ep)).v;have nq:=(lg.pb q (MN eq)).v;obtain⟨al,va⟩:=vP nq np;obtain⟨sb,vsb⟩:=vP nb np;obtain⟨se,vse⟩:=vP ne np;obtain⟨d1,vd1⟩:=vP ne nb;obtain⟨d3,vd3⟩:=vP nq ne;obtain⟨c1,vc1⟩:=Rh (p:=iX q p) (q:=iX b p) al.np sb.np;obtain⟨c2,vc2⟩:=Rh (p:=iX q p) (q:=iX e p) al.np se.np;obtain⟨t1,vt1⟩:=Ge (p:=iX q p) (q:=iX e b) al.np d1.np;obtain⟨t2,vt2⟩:=Ge (p:=iX q p) (q:=iX b p) al.np sb.np;obtain⟨t3,vt3⟩:=Ge (p:=iX q p) (q:=iX q e) al.np d3.np;have D0:0<=aP (aR (vq q) (vq p)) (aR (vq q) (vq p)):=Rat.le_of_lt d0;have fo:b≠e:=λw=>CB d0 h2 (by rw[<-vb,<-ve,w]);have z1:=DX c1 (by rw[vc1,va,vsb,vb];unfold aU aR dE;simp only;grind);have z2:=DX c2 (by rw[vc2,va,vse,ve];unfold aU aR dE;simp only;grind);have g1:¬(nN (iX q p).1 (iX q p).2 (iX e b).1 (iX e b).2).1<0:=λw=>by
  have:=(Az t1).mpr w;rw[vt1,va,vd1,ve,vb]at this;have k:=Rat.mul_nonneg D0 (show 0<=s2-s1 by grind);unfold aP aR at k;unfold aR dE at this;simp only at this k;grind
 have g2:¬(nN (iX q p).1 (iX q p).2 (iX b p).1 (iX b p).2).1<0:=λw=>by
  have:=(Az t2).mpr w;rw[vt2,va,vsb,vb]at this;have k:=Rat.mul_nonneg D0 h1;unfold aP aR at k;unfold aR dE at this;simp only at this k;grind
 have g3:¬(nN (iX q p).1 (iX q p).2 (iX q e).1 (iX q e).2).1<0:=λw=>by
  have:=(Az t3).mpr w;rw[vt3,va,vd3,ve]at this;have k:=Rat.mul_nonneg D0 (show 0<=1-s2 by grind);unfold aP aR at k;unfold aR dE at this;simp only at this k;grind
 obtain⟨nm,vm⟩:=W6 ub ue vb ve;show o1 (jY (bs.map gR) (n:Int)) _;rw[kE eg];show o1 (jY (g.o.map pt) (k:Int)) _;rw[kE ep];show o1 (jY (g.o.map pt) ((k:Int)-((g.o.map pt).length:Int)+1)) _;rw[Yd hk eq];refine⟨_,_,_,_,20,20,rfl,nq,np,∅,?_⟩;refine⟨jL rfl,?_⟩;show if(iP (pt b) (pt e))=true then _ else _;rw[CO,oX fo,oW ∅];refine⟨_,_,_,_,730,20,rfl,nb,np,∅,_,_,_,_,41,751,rfl,al,sb,∅,?_⟩;refine⟨jL rfl,?_⟩;show if(!(iP (.int (gY (iX q p).1 (iX q p).2 (iX b p).1 (iX b p).2).1) (.int 0)))=true then _ else _;rw[z1,oW ∅];refine⟨_,_,_,_,730,20,rfl,ne,np,∅,_,_,_,_,41,751,rfl,al,se,∅,?_⟩;refine⟨jL rfl,?_⟩;show if(!(iP (.int (gY (iX q p).1 (iX q p).2 (iX e p).1 (iX e p).2).1) (.int 0)))=true then _ else _;rw[z2,oW ∅];refine⟨_,_,_,_,730,730,rfl,ne,nb,∅,_,_,_,_,730,20,rfl,nb,np,∅,_,_,_,_,20,730,rfl,nq,ne,∅,?_⟩;refine⟨_,_,_,_,41,1461,rfl,al,d1,∅,?_⟩;show if decide ((nN (iX q p).1 (iX q p).2 (iX e b).1 (iX e b).2).1<0)=true then _ else _;rw[oX g1,oW ∅];refine⟨_,_,_,_,41,751,rfl,al,sb,∅,?_⟩;show if decide ((nN (iX q p).1 (iX q p).2 (iX b p).1 (iX b p).2).1<0)=true then _ else _;rw[oX g2,oW ∅];refine⟨_,_,_,_,41,751,rfl,al,d3,∅,?_⟩;show if decide ((nN (iX q p).1 (iX q p).2 (iX q e).1 (iX q e).2).1<0)=true then _ else _;rw[oX g3,oW ∅];refine⟨_,_,_,_,730,730,rfl,nb,ne,∅,?_⟩;refine⟨_,_,(1,2),1461,rfl,R8 nb ne,Tz,by have:sz (1,2)<=2:=mJ ∅ ∅ ∅;lia,?_⟩;obtain⟨md,hmd⟩:∃md:Pt,md=(eV (eM b.1 e.1) (1,2),eV (eM b.2 e.2) (1,2)):=⟨_,rfl⟩;refine(?_:sR [⇑(.lst (bs.map gR)),⇑(oP (n,k,b,e)),⇑(.tup (g.o.map pt)),⇑(pt (iX q p)),⇑(pt (iX q e)),⇑(pt (eV (eM b.1 e.1) (1,2),eV (eM b.2 e.2) (1,2))),↑(n:Int),↑(k:Int),⇑(pt b),⇑(pt e),⇑(pt p),⇑(pt q)] _);have nm:Nv md.1 md.2 800:=by rw[hmd];exact nm
 rw[<-hmd]at vm⊢;refine⟨rfl,?_⟩;show gV _ _ (bs.map gR) _ _;refine cD (f:=gR) (h:=λb=>.bl (Es b.o md)) (λ(v:Option U)acc=>[v,⇑(pt md),↥acc]) bs none [] (by simp;lia) (λb m v acc rest ha K=>?_) λv=>?_
 ·exact⟨b,md,rfl,OH (hb b m).len.2 ∅,(hb b m).pb,nm,ha,K _⟩
 ·refine⟨aZ (λ_=>rfl) _,?_⟩;have e:(bs.map λb=>L2.T.bl (Es b.o md))=(bs.map λb=>Es b.o md).map L2.T.bl:=by rw[MY];rfl
  rw[OP,e];show o1 (lC _) _;rw[sZ];have:((bs.map λb=>Es b.o md).any id)=false:=by
   rw[List.any_map,List.any_eq_false];intro x mx w;refine free ((s1+s2)/2) (by grind) (by grind) ⟨x,mx,?_⟩;rw[<-vm];exact(Xk (λp m=>((hb x mx).pb p m).np) nm.np).mp w
  have z':Q (.v (.bl (!false))) []:=z;rw[<-this]at z';exact⟨rfl,z'⟩
end
theorem Ma(hl:bs.length<=10)(hb:∀b∈bs,LB 400 b):Qo bs M0/\mU bs M0/\Jf U0 (220*U0) (bL bs M0)/\0<U0/\U0<2^1840/\220*U0<2^1840:=by
 have ul:=wY;have u0:=qR;have e:220*2^720<2^1840:=by decide +kernel
 exact⟨Zh hl hb M0,zI hb,Hw hb M0,u0,⋯,⋯⟩
theorem Vm(hb:∀b∈bs,LB 400 b):((bL bs M0).map λr=>r.2.2.1).Perm ((bL bs M0).map λr=>r.2.2.2):=by
 have hU:=Hw hb M0;refine Di (f:=vq) ?_ λp mp q mq e=>?_
 ·rw[MY,MY];exact G4 (rF hb) (zI hb)
 ·have np:∀p∈((bL bs M0).map λr=>r.2.2.1)++((bL bs M0).map λr=>r.2.2.2),NP p:=λp m=>by
   obtain m|m:=NB.mp m
   ·obtain⟨r,mr,rfl⟩:=MH.mp m;exact(hU r mr).1.np
   ·obtain⟨r,mr,rfl⟩:=MH.mp m;exact(hU r mr).2.np
  exact BL (np p mp) (np q mq) e
theorem BJ(hb:∀b∈bs,LB 400 b)(d0:0<aP d d):Qh d (bL bs M0)=Qh d (bL bs.reverse M0):=by
 have oh:∀b∈bs.reverse,LB 400 b:=λb m=>hb b (TQ.mp m);refine GU (rF hb) (zI hb) (rF oh) (zI oh) d0 λx=>?_;simp only[TQ]
def CU:Nat:=2*(220*U0*(220*U0))
theorem BS:U0*U0<2^1500/\8000*CU<2^1500:=by
 have ul:=OA wY;have h:U0*U0<=2^720*2^720:=OL ul ul;have e:CU=96800*(U0*U0):=by unfold CU;grind
 have p:8000*(96800*(2^720*2^720))<2^1500:=by decide +kernel
 have p2:2^720*2^720<2^1500:=by decide +kernel
 rw[e]
 lia
def Qb:List Pt:=[((1,1),(0,1)),((0,1),(1,1)),((-1,1),(0,1)),((3,1),(2,1))]
theorem K5:∀v∈Qb,v.1.2=1/\v.2.2=1/\v.1.1.natAbs<=3/\v.2.1.natAbs<=3/\(v.1.1≠0\/v.2.1≠0):=∅
theorem BB(b:Int):0<=b*b:=by
 obtain z|z:=Int.le_total 0 b
 ·exact Int.mul_nonneg z z
 ·exact Int.mul_nonneg_of_nonpos_of_nonpos z z
theorem GC{b:Int}(h:b≠0):0<b*b:=by
 have:=BB b;have:=QF h h;omega
theorem Zb{Fa Fb:FE}{κ:L2.R->En->Prop}(R:L2.R->Prop)(ha:c=true->∀κ',(∀u,R u->κ' u E)->Fa E κ')(hb:c=false->∀κ',(∀u,R u->κ' u E)->Fb E κ')(hk:∀u,R u->κ u E):if c=true then Fa E κ else Fb E κ:=by
 cases c with
 |true=>exact ha rfl κ hk
 |false=>exact hb rfl κ hk
theorem Ru(h1:v.1.2=1)(h2:v.2.2=1)(h:v.1.1≠0\/v.2.1≠0):0<aP (mZ v) (mZ v):=by
 obtain⟨⟨a,c⟩,⟨b,d⟩⟩:=v;obtain rfl:c=1:=h1;obtain rfl:d=1:=h2;unfold mZ aP;simp only[k7];have e:-(b:Rat) * -(b:Rat)+(a:Rat)*(a:Rat)=((b*b+a*a:Int):Rat):=by push_cast;grind
 rw[e];have:0<b*b+a*a:=by
  obtain h|h:=h
  ·have:=BB b;have h:a≠0:=h;have:=GC h
   lia
  ·have:=BB a;have h:b≠0:=h;have:=GC h
   lia
 exact_mod_cast this
def GI:iO:=λas Q=>∃ns:List Int,as=[.v (.lst (bB ns))]/\ns.length<=63/\Q (.v (.bl true)) []
abbrev vH:UZ:=top 63
theorem fO:aK ["_law_script","_law_cells","_law_k","_law_box_here","_law_turn","_law_told","_law_other","_law_vector","_law_some","_law_total","_law_number","_law_at","_law_begin","_law_end"] ["_law_script"] (aC vH):=iG
theorem X1{P:UU}{w:UY}{K:W.Frag}{mg:Str->Option oA}{base:oE}{f:UQ}{fd:VH}(F:dY K "law" "law" vH f fd)(TX:Txt mg)(aj: ~~~wR)(jh: ~~~Qk)(XQ: ~~~o9)(cu: ~~~Jb)(dr: ~~~Ql)(ZX: ~~~tU)(YD: ~~~jI)(YC: ~~~o7)(YL: ~~~qQ)(XG: ~~~iK)(ZY: ~~~tY)(YN: ~~~oU):(~~~bE) eT 8 f fd ["_law_script"] (aQ K GI):=by
 refine F.okU fO (λhr=>(aB (fS 1 fO.nd (fK aj (f2 (fv 0) aA))) (aB (gJ PassesOwn.never rfl (j0 rfl TX.n_range (f1 (T9 rfl rfl TX.n_max (f2 aA (jS rfl rfl TX.n_len (f1 (fv 1))))))) (fG 2 fO.nd) (aB (fS 3 fO.nd (fK jh (f2 (fv 1) (fv 2)))) (aG (gJ PassesOwn.never rfl (j0 rfl TX.n_range (f1 aA)) (fG 4 fO.nd) (aB (iV (Yx (f2 (fB cu (f2 (fv 3) (pO (Cd rfl hr (fB XQ (f2 (fv 3) aA)) aA (cH _)) aA aA))) (aH (f2 aA aA)))) (bS (n:=2) rfl rfl (aE (fG 8 fO.nd) (aE (fG 9 fO.nd) bG)))) (aB (fS 5 fO.nd (fK dr (f2 (fv 8) iU))) (aB (eS (Gq (Ce (So (Gp (fK ZX (f1 (fv 5))))) (uJ (So (Gp (Sd rfl rfl rfl TX.n_all (f1 (fD (N':=["_law_row","_law_some"]) (t:=1) (cap:=[(8,false)]) rfl (bH.of rfl) rfl ∅ (dG rfl (fv 5)) (λ_ _ _ _=>(fH 0)) (λ_ _ _ _=>(fK YD (f2 (fv 1) (fv 0)))))))))))) (aG (aN pN)) c9) (aB (gJ PassesOwn.never rfl (dG rfl (fv 5)) (bS (n:=4) rfl rfl (aE (fG 10 fO.nd) (aE (fG 11 fO.nd) (aE (fG 12 fO.nd) (aE (fG 13 fO.nd) bG))))) (aG (fS 9 fO.nd (fK YC (f2 (fv 9) (fK YL (f2 (fv 12) (fv 13)))))))) (aB (eS (sH rfl hr (fK XG (f2 (fv 9) (aH (f2 aA aA)))) (fK ZY (f1 (fv 8))) (cH _)) (aG (aN pN)) c9) (aB (fS 6 fO.nd (fK dr (f2 (Yw rfl (fv 8) (fF (qX aA))) iU))) (aG (gJ PassesOwn.never rfl (qZ rfl (aH (f4 (aH (f2 (aH (f2 aA aA)) (aH (f2 aA aA)))) (aH (f2 (aH (f2 aA aA)) (aH (f2 aA aA)))) (aH (f2 (aH (f2 (qX aA) aA)) (aH (f2 aA aA)))) (aH (f2 (aH (f2 aA aA)) (aH (f2 aA aA))))))) (fG 7 fO.nd) (aG (eS (sH rfl hr (fK YN (f2 (fv 5) (fv 7))) (fK YN (f2 (fv 6) (fv 7))) (cH _)) (aG (aN pN)) c9)))))))))))))) (aG (aN pN))))) ?_;rintro as Q ⟨ns,rfl,hl,q⟩;refine⟨ns,3,rfl,hl,∅,∅,λcs l6=>?_⟩;have lc:((bB cs).length:Int)=cs.length:=by simp[bB]
 obtain⟨m,hm⟩:∃m:Int,m=(if(2:Int)<((bB cs).length:Int)then((bB cs).length:Int)else 2):=⟨_,rfl⟩;have m5:m<=3/\0<=m:=by rw[hm];split<;>lia
 refine⟨⟨by show -(2^62:Int)<=(if(2:Int)<((bB cs).length:Int)then((bB cs).length:Int)else 2);rw[<-hm];lia,by show(if(2:Int)<((bB cs).length:Int)then((bB cs).length:Int)else 2)<2^62;rw[<-hm];lia⟩,?_⟩;show sR _ (fW _ _ _ (rL 0 (if(2:Int)<((bB cs).length:Int)then((bB cs).length:Int)else 2).toNat));rw[<-hm];refine mM (λi E=>∃v2 v3 v4 v5 v6 v7 v8 v9 v10 v11 ZZ jx:Option U,E=[⇑(.lst (bB ns)),↥(bB cs),v2,v3,v4,v5,v6,v7,v8,v9,v10,v11,ZZ,jx]) ⟨_,_,_,_,_,_,_,_,_,_,_,_,rfl⟩ ?_ ?_
 ·rintro i t rest E hi ⟨v2,v3,v4,v5,v6,v7,v8,v9,v10,v11,ZZ,jx,rfl⟩ KK;obtain⟨uk,rfl⟩:=Ab hi;refine⟨cs,_,rfl,⋯,⋯,λxs bx nl=>?_⟩;obtain⟨A0,B0,c0,rfl,_⟩:=id bx;refine⟨∅,?_⟩;show sR _ (fW _ _ _ (rL 0 2));refine mM (λj E=>∃(ys:List L2.T)(v4 v5 v6 v7 v8 v9 v10 v11 ZZ jx:Option U),E=[⇑(.lst (bB ns)),↥(bB cs),↑(0+(i:Int)),↥ys,v4,v5,v6,v7,v8,v9,v10,v11,ZZ,jx]/\Bx ys (400*j)) ⟨_,_,_,_,_,_,_,_,_,_,_,rfl,bx.mono (by simp)⟩ ?_ ?_
  ·rintro j t aED E hj ⟨ys,v4,v5,v6,v7,v8,v9,v10,v11,ZZ,jx,rfl,bj⟩ KJ;obtain⟨hjn,rfl⟩:=Ab hj;obtain⟨A1,B1,c1,rfl,_⟩:=id bj;refine⟨_,8,_,rfl,bj,⋯,∅,∅,λr1 y1 a1 a2 b1=>?_⟩;obtain⟨A2,B2,c2,rfl,_⟩:=id b1;refine⟨jL rfl,?_⟩;refine Zb (λu=>∃M:Int,u = .p (.int M)/\1<=M/\M<=10) (λ_ κ' h=>h _ ⟨10,rfl,∅,∅⟩) (λ_ κ' h=>h _ ⟨5,rfl,∅,∅⟩) ?_;rintro u ⟨M,rfl,w1,w2⟩;refine⟨_,M,_,rfl,b1,⋯,w1,w2,λbs y2 l1 l2 hb b2=>?_⟩;obtain⟨A3,uy,c3,rfl,_⟩:=id b2;have sr:bs.length<=10:=⋯
   have oh:∀b∈bs.reverse,LB 400 b:=λb m=>hb b (TQ.mp m);obtain⟨g1,g2,g3,g4,g5,g6⟩:=Ma sr hb;obtain⟨k1,k2,k3,_,_,_⟩:=Ma (bs:=bs.reverse) (by rw[List.length_reverse];exact sr) oh;have pm:=Vm hb;have hR:=g1.rows;have zy:=k1.rows;have lR:((bL bs M0).map oP).length<=9000:=by rw[ML];lia
   refine⟨bs,M0,rfl,g1,?_⟩;refine(?_:sR [⇑(.lst (bB ns)),↥(bB cs),↑(0+(i:Int)),↥[.int A3,.int uy,.int c3],↑(0+(j:Int)),↥((bL bs M0).map oP),v6,v7,⇑(.lst (bs.map gR)),⇑(fr (0,1)),v10,v11,ZZ,jx] _);refine⟨bL bs M0,rfl,hR,pm,?_⟩;refine⟨rfl,?_⟩;show gV _ _ ((bL bs M0).map oP) _ _;refine cD (f:=oP) (h:=λ_=>.bl true) (λ(v:Option U)acc=>[v,⇑(.lst (bs.map gR)),↥acc]) (bL bs M0) none [] (by simp;lia) (λr mr v acc rest ha K=>?_) λv=>?_
   ·exact⟨bs,r,rfl,sr,hb,mr,ha,K _⟩
   refine⟨aZ (λ_=>rfl) _,?_⟩;have ea:((bL bs M0).map λ_=>L2.T.bl true)=((bL bs M0).map λ_=>true).map L2.T.bl:=by rw[MY];rfl
   rw[OP,ea];show o1 (lC _) _;rw[sZ];have al:((bL bs M0).map λ_=>true).all id=true:=by simp
   show if(!(((bL bs M0).map λ_=>true).all id))=true then _ else _;rw[al,oW ∅];have u:=qR;have uu:0<U0*U0:=UE u u;obtain⟨cl1,cl2⟩:=BS;refine(?_:sR [⇑(.lst (bB ns)),↥(bB cs),↑(0+(i:Int)),↥[.int A3,.int uy,.int c3],↑(0+(j:Int)),⇑(.lst ((bL bs M0).map oP)),v6,v7,⇑(.lst (bs.map gR)),⇑(fr (0,1)),v10,v11,ZZ,jx] _);refine eY (f:=oP) (λs:Fr×Int×Option U×Option U×Option U×Option U=>[⇑(.lst (bB ns)),↥(bB cs),↑(0+(i:Int)),↥[.int A3,.int uy,.int c3],↑(0+(j:Int)),⇑(.lst ((bL bs M0).map oP)),v6,v7,⇑(.lst (bs.map gR)),⇑(fr s.1),s.2.2.1,s.2.2.2.1,s.2.2.2.2.1,s.2.2.2.2.2])
    (λX s=>MU (U0*U0) s.1 s.2.1/\s.2.1.natAbs+X.length*CU<=8000*CU/\(∀r∈X,r∈bL bs M0)/\val s.1+cE (X.map λr=>Qg (uX r))=cE ((bL bs M0).map λr=>Qg (uX r))) ?_ ?_ (bL bs M0) ((0,1),0,v10,v11,ZZ,jx) ⟨⟨dQ 0,by rw[fA];push_cast;grind⟩,by have:=Nat.mul_le_mul_right CU hR;simpa using this,λr m=>m,by rw[fA];grind⟩
   ·rintro r X ⟨ar,k,x10,x11,x12,x13⟩ aEI ⟨hm,hbd,hr,hv⟩ K;have hm:MU (U0*U0) ar k:=hm;obtain⟨hp,hq⟩:=g3 r (hr r (by simp));have nb:=hp.nv g4 g5 g6 ∅;have ne:=hq.nv g4 g5 g6 ∅;obtain⟨k',f1,f2⟩:=L1 (x:=uX r) hp hq;have f1:MU (U0*U0) (gY r.2.2.1.1 r.2.2.1.2 r.2.2.2.1 r.2.2.2.2) k':=f1;have f2:k'.natAbs<=CU:=f2;have fv:val (gY r.2.2.1.1 r.2.2.1.2 r.2.2.2.1 r.2.2.2.2)=Qg (uX r):=Gb (x:=uX r) hp.np hq.np;have e1:cE ((r::X).map λr=>Qg (uX r))=Qg (uX r)+cE (X.map λr=>Qg (uX r)):=rfl;rw[e1]at hv;simp only at hv;rw[MS,Nat.succ_mul]at hbd;simp only at hbd;refine⟨_,_,_,_,1840,1840,rfl,nb,ne,∅,?_⟩;generalize gY r.2.2.1.1 r.2.2.1.2 r.2.2.2.1 r.2.2.2.2=far at f1 fv⊢;have s1:=hm.sz uu (e:=1500) ⋯ ⋯ ∅;have s2:=f1.sz uu (e:=1500) ⋯ ⋯ ∅;exact⟨ar,far,rfl,hm.n,f1.n,⋯,K (eM ar far,k+k',↑(r.1:Int),↑(r.2.1:Int),⇑(pt r.2.2.1),⇑(pt r.2.2.2)) ⟨hm.add f1,by simp only;lia,λx mx=>hr x (by simp[mx]),by simp only;rw[gP hm.n f1.n,fv,<-hv];grind⟩⟩
   ·rintro⟨ar,k,x10,x11,x12,x13⟩ ⟨hm,hbd,hr,hv⟩;have hm:MU (U0*U0) ar k:=hm;have hv:val ar+0=_:=hv;have s1:=hm.sz uu (e:=1500) ⋯ (by simp only at hbd;lia) ∅;have s12:sz (1,2)<=2:=mJ ∅ ∅ ∅;refine⟨ar,(1,2),rfl,hm.n,Tz,⋯,?_⟩;refine⟨bs,M0,U0,220*U0,rfl,g1,g2,g3,g4,g5,g6,λt nt vt _=>?_⟩;have et:t=eV ar (1,2):=eR nt (bX hm.n Tz) (by
     rw[vt,dS hm.n Tz,<-hv];have:val (1,2)=1/2:=by show((1:Int):Rat)/((2:Int):Rat)=1/2;push_cast;rfl
     rw[this];grind)
    subst et;refine⟨jL rfl,?_⟩;show if(!(iP (fr (eV ar (1,2))) (fr (eV ar (1,2)))))=true then _ else _;rw[pL,oY rfl,oW ∅];refine⟨rfl,bs.reverse,M0,(show[A.v (.lst (bs.map gR).reverse),A.v (.str M0)]=_ by rw[List.map_reverse]),k1,?_⟩;refine(?_:sR [⇑(.lst (bB ns)),↥(bB cs),↑(0+(i:Int)),↥[.int A3,.int uy,.int c3],↑(0+(j:Int)),⇑(.lst ((bL bs M0).map oP)),↥((bL bs.reverse M0).map oP),v7,⇑(.lst (bs.map gR)),⇑(fr ar),x10,x11,x12,x13] _);have ev:∀{v:Pt}{t t':Fr},v∈Qb->dJ t->val t=Qh (mZ v) (bL bs M0)->dJ t'->val t'=Qh (mZ v) (bL bs.reverse M0)->t'=t:=λ{v t t'}mv nt vt eh fh=>by
     obtain⟨e1,e2,_,_,e5⟩:=K5 v mv;exact eR eh nt (by rw[vt,fh,BJ hb (Ru e1 e2 e5)])
    refine⟨bL bs M0,((1,1),(0,1)),rfl,hR,g3,rfl,rfl,∅,∅,λt nt vt=>⟨bL bs.reverse M0,((1,1),(0,1)),rfl,zy,k3,rfl,rfl,∅,∅,λt' eh fh=>?_⟩⟩;obtain rfl:=ev (by simp[Qb]) nt vt eh fh;refine⟨jL rfl,?_⟩;show if(!(iP (fr t') (fr t')))=true then _ else _;rw[pL,oY rfl,oW ∅];clear nt vt eh fh;refine⟨bL bs M0,((0,1),(1,1)),rfl,hR,g3,rfl,rfl,∅,∅,λt nt vt=>⟨bL bs.reverse M0,((0,1),(1,1)),rfl,zy,k3,rfl,rfl,∅,∅,λt' eh fh=>?_⟩⟩;obtain rfl:=ev (by simp[Qb]) nt vt eh fh;refine⟨jL rfl,?_⟩;show if(!(iP (fr t') (fr t')))=true then _ else _;rw[pL,oY rfl,oW ∅];clear nt vt eh fh;refine⟨bL bs M0,((-1,1),(0,1)),rfl,hR,g3,rfl,rfl,∅,∅,λt nt vt=>⟨bL bs.reverse M0,((-1,1),(0,1)),rfl,zy,k3,rfl,rfl,∅,∅,λt' eh fh=>?_⟩⟩;obtain rfl:=ev (by simp[Qb]) nt vt eh fh;refine⟨jL rfl,?_⟩;show if(!(iP (fr t') (fr t')))=true then _ else _;rw[pL,oY rfl,oW ∅];clear nt vt eh fh;refine⟨bL bs M0,((3,1),(2,1)),rfl,hR,g3,rfl,rfl,∅,∅,λt nt vt=>⟨bL bs.reverse M0,((3,1),(2,1)),rfl,zy,k3,rfl,rfl,∅,∅,λt' eh fh=>?_⟩⟩;obtain rfl:=ev (by simp[Qb]) nt vt eh fh;refine⟨jL rfl,?_⟩;show if(!(iP (fr t') (fr t')))=true then _ else _;rw[pL,oY rfl,oW ∅];clear nt vt eh fh;exact KJ _ ⟨_,_,_,_,_,_,_,_,_,_,_,rfl,b2.mono (by push_cast;lia)⟩
  ·rintro E ⟨ys,v4,v5,v6,v7,v8,v9,v10,v11,ZZ,jx,rfl,bj⟩;exact KK _ ⟨_,_,_,_,_,_,_,_,_,_,_,_,rfl⟩
 ·rintro E ⟨v2,v3,v4,v5,v6,v7,v8,v9,v10,v11,ZZ,jx,rfl⟩;exact⟨rfl,q⟩
theorem JF{α:Type}{us:List α}(h:us.length=1):∃a0,us=[a0]:=by
 cases us with
 |nil=>simp at h
 |cons a0 us=>
 replace h:us.length=0:=by simpa using h
 cases us with
 |nil=>exact⟨a0,rfl⟩
 |cons a us=>simp at h
theorem JG{α:Type}{us:List α}(h:us.length=2):∃a0 a1,us=[a0,a1]:=by
 cases us with
 |nil=>simp at h
 |cons a0 us=>
 replace h:us.length=1:=by simpa using h
 cases us with
 |nil=>simp at h
 |cons a1 us=>
 replace h:us.length=0:=by simpa using h
 cases us with
 |nil=>exact⟨a0,a1,rfl⟩
 |cons a us=>simp at h
theorem JH{α:Type}{us:List α}(h:us.length=3):∃a0 a1 a2,us=[a0,a1,a2]:=by
 cases us with
 |nil=>simp at h
 |cons a0 us=>
 replace h:us.length=2:=by simpa using h
 cases us with
 |nil=>simp at h
 |cons a1 us=>
 replace h:us.length=1:=by simpa using h
 cases us with
 |nil=>simp at h
 |cons a2 us=>
 replace h:us.length=0:=by simpa using h
 cases us with
 |nil=>exact⟨a0,a1,a2,rfl⟩
 |cons a us=>simp at h
theorem JI{α:Type}{us:List α}(h:us.length=4):∃a0 a1 a2 a3,us=[a0,a1,a2,a3]:=by
 cases us with
 |nil=>simp at h
 |cons a0 us=>
 replace h:us.length=3:=by simpa using h
 cases us with
 |nil=>simp at h
 |cons a1 us=>
 replace h:us.length=2:=by simpa using h
 cases us with
 |nil=>simp at h
 |cons a2 us=>
 replace h:us.length=1:=by simpa using h
 cases us with
 |nil=>simp at h
 |cons a3 us=>
 replace h:us.length=0:=by simpa using h
 cases us with
 |nil=>exact⟨a0,a1,a2,a3,rfl⟩
 |cons a us=>simp at h
def zO(o:Obj):Bool:=match o.data with
 |.seq XD _=>match XD.toList with
  |[.int _ _,_,_]=>false
  |_=>true
 |_=>true
def tK(K:W.Frag):Bool:=K.all λx=>zO x.2
theorem Ub{K:W.Frag}(h:tK K=true):Qm K:=by
 rintro a x y z ⟨o,XD,n,hl,_,hd,_,hv⟩;have key:∀K:W.Frag,K.lookup a=oZ o->tK K=true->zO o=true:=λK=>by
  induction K with
  |nil=>intro h;cases h
  |cons x K ih=>
   intro h1 h2;rw[tK,List.all_cons,NY]at h2;rw[PD]at h1;split at h1
   ·cases h1;exact h2.1
   ·exact ih h1 h2.2
 have k:=key K hl h;obtain⟨XD⟩:=XD;cases hv with
 |cons h1 hv=>cases hv with
  |cons h2 hv=>cases hv with
   |cons h3 hv=>cases hv;obtain⟨t,rfl⟩:=h1;rw[zO,hd]at k;cases k
theorem Rf{K:W.Frag}{od oe of:Option UQ}{i j i' j':Int}{n m l:Nat}{sl sk sj:Array (Option oA)}(h:K.lookup a=oZ ⟨.type "tuple",od,.seq #[.ref b,.ref c] n,sl⟩)(hb:K.lookup b=oZ ⟨.type "tuple",oe,.seq #[.int i t,.int j u] m,sk⟩)(hc:K.lookup c=oZ ⟨.type "tuple",of,.seq #[.int i' t',.int j' u'] l,sj⟩)(H:Hp)(O:UQ->Prop):Rp K H O (.tup [.tup [.int i,.int j],.tup [.int i',.int j']]) (.ref a):=
 ⟨a,[.ref b,.ref c],rfl,.inr ⟨_,_,n,h,rfl,rfl,by show 2<=UT;decide,.cons rfl (.cons rfl .nil)⟩,_,_,rfl,kF hb H O,_,_,rfl,kF hc H O,rfl⟩
def Mc(K:W.Frag):Sp:=λvs H Q _=>∃(a:UQ)(ns:List Int),vs=[.ref a]/\jJ K H a (ns.map V.int)/\ns.length<=63/\∀H',Q (.bl true) H'
theorem W4{K:W.Frag}(vs:List V)(H:Hp)(Q:VK)(E:XK)(h:Mc K vs H Q E):aQ K GI vs H Q E:=by
 obtain⟨a,ns,rfl,hs,hl,q⟩:=h;have no:∀b,¬Ow (λa=>(none:Option UQ)=oZ a) [oZ (V.ref a)] [⇑(.lst (bB ns))] b:=λb z=>by
  obtain z|⟨i,k,xs,h1,_⟩:=z
  ·cases z
  ·match i,h1 with
   |0,h1=>simp at h1
   |_+1,h1=>simp at h1
 have ii:∀ns:List Int,bW K H (Ow (λa=>(none:Option UQ)=oZ a) [oZ (V.ref a)] [⇑(.lst (bB ns))]) (bB ns) (ns.map V.int):=λns=>by
  have key:∀(O:UQ->Prop)(ms:List Int),bW K H O (bB ms) (ms.map V.int):=λO ms=>by
   induction ms with
   |nil=>rfl
   |cons m ms ih=>exact⟨_,_,rfl,rfl,ih⟩
  exact key _ ns
 refine⟨[.v (.lst (bB ns))],λr _=>r = .v (.bl true),none,⟨rfl,λi t h=>?_,λi k xs h=>?_,λi j k l xs ys b h=>?_,λb z=>by cases z⟩,λ_=>rfl,⟨ns,rfl,hl,rfl⟩,λr xs v H' e _ _ rr=>?_⟩
 ·match i,h with
  |0,h=>
   simp[qU]at h;subst h;exact⟨_,rfl,a,_,rfl,hs.imp (λh=>⟨no a,h⟩) id,ii ns⟩
  |_+1,h=>simp[qU]at h
 ·match i,h with
  |0,h=>simp[qU]at h
  |_+1,h=>simp[qU]at h
 ·match i,h with
  |0,h=>simp[qU]at h
  |_+1,h=>simp[qU]at h
 ·subst e;cases rr;exact q H'
def Fc(K:W.Frag)(nm:Str)(st:UZ)(f:UQ):Prop:=∃(oc:oA)(od:Option UQ)(kV dc pm:oA)(an:Option UQ)(cd ct:oA)(sl:Array (Option oA)),
 W.nsIn K UX nm=oZ (oZ (.ref f))/\K.lookup f=oZ ⟨oc,od,.func (W.fnOf nm nm (gG st) (dF st) (aC st) .none kV dc pm an cd ct),sl⟩/\W.codeIn K cd nm=true/\W.keepIn K (.ref f)=true
theorem fc{K:W.Frag}{nm:Str}{st:UZ}{f:UQ}{oc:oA}{od:Option UQ}{kV dc pm:oA}{an:Option UQ}{cd ct:oA}{sl:Array (Option oA)}(a:W.nsIn K UX nm=oZ (oZ (.ref f)))(l:K.lookup f=oZ ⟨oc,od,.func (W.fnOf nm nm (gG st) (dF st) (aC st) .none kV dc pm an cd ct),sl⟩)(c:W.codeIn K cd nm=true)(k:W.keepIn K (.ref f)=true):Fc K nm st f:=⟨_,_,_,_,_,_,_,_,_,a,l,c,k⟩
theorem gm{P:UU}{w:UY}{K:W.Frag}{h base:oE}{mg:Str->Option oA}{nm:Str}{st:UZ}{f:UQ}{CX:Fj}{k:Nat}{ps:List Str}{sp:Sp}(X:K.In h)(G:h.Ns UX mg)(p:Fc K nm st f)(ok:∀{fd:VH},dY K nm nm st f fd->bE P w K mg base CX k f fd ps sp)
  (bd:∀{fd:VH},dY K nm nm st f fd->k9 K fd ps []):∃f fd,bE P w K mg base CX k f fd ps sp/\mg nm=oZ (.ref f)/\W.keepIn K (.ref f)=true/\k9 K fd ps []:=by
 obtain⟨_,_,_,_,_,_,_,_,_,a,l,c,k⟩:=p;have F:=Sq (st:=st) l c k;exact⟨f,_,ok F,W.mg_of X G a,k,bd F⟩
theorem Xu{P:UU}{w:UY}{K:W.Frag}{h base:oE}{mg:Str->Option oA}{nm:Str}{st:UZ}{f:UQ}{CX:Fj}{k:Nat}{ps:List Str}{sp:Sp}(X:K.In h)(G:h.Ns UX mg)(p:Fc K nm st f)(ok:∀{fd:VH},dY K nm nm st f fd->bE P w K mg base CX k f fd ps sp)(hl:ps.length=1:=by rfl)
  (hb:∀(kV doc pm:oA)(an:Option UQ)(YH ct a0:oA),bindArgs (W.fnOf nm nm (gG st) (dF st) (aC st) .none kV doc pm an YH ct) ⟨[a0],[]⟩=pure (ps.zip [a0]):=by intros;rfl):∃f fd,bE P w K mg base CX k f fd ps sp/\mg nm=oZ (.ref f)/\W.keepIn K (.ref f)=true/\k9 K fd ps []:=
 gm X G p ok λF=>F.binds λkV doc pm an YH ct us e=>by obtain⟨a0,rfl⟩:=JF (e.trans hl);exact hb ..
theorem kB{P:UU}{w:UY}{K:W.Frag}{h base:oE}{mg:Str->Option oA}{nm:Str}{st:UZ}{f:UQ}{CX:Fj}{k:Nat}{ps:List Str}{sp:Sp}(X:K.In h)(G:h.Ns UX mg)(p:Fc K nm st f)(ok:∀{fd:VH},dY K nm nm st f fd->bE P w K mg base CX k f fd ps sp)(hl:ps.length=2:=by rfl)
  (hb:∀(kV doc pm:oA)(an:Option UQ)(YH ct a0 a1:oA),bindArgs (W.fnOf nm nm (gG st) (dF st) (aC st) .none kV doc pm an YH ct) ⟨[a0,a1],[]⟩=pure (ps.zip [a0,a1]):=by intros;rfl):∃f fd,bE P w K mg base CX k f fd ps sp/\mg nm=oZ (.ref f)/\W.keepIn K (.ref f)=true/\k9 K fd ps []:=
 gm X G p ok λF=>F.binds λkV doc pm an YH ct us e=>by obtain⟨a0,a1,rfl⟩:=JG (e.trans hl);exact hb ..
theorem KO{P:UU}{w:UY}{K:W.Frag}{h base:oE}{mg:Str->Option oA}{nm:Str}{st:UZ}{f:UQ}{CX:Fj}{k:Nat}{ps:List Str}{sp:Sp}(X:K.In h)(G:h.Ns UX mg)(p:Fc K nm st f)(ok:∀{fd:VH},dY K nm nm st f fd->bE P w K mg base CX k f fd ps sp)(hl:ps.length=3:=by rfl)
  (hb:∀(kV doc pm:oA)(an:Option UQ)(YH ct a0 a1 a2:oA),bindArgs (W.fnOf nm nm (gG st) (dF st) (aC st) .none kV doc pm an YH ct) ⟨[a0,a1,a2],[]⟩=pure (ps.zip [a0,a1,a2]):=by intros;rfl):∃f fd,bE P w K mg base CX k f fd ps sp/\mg nm=oZ (.ref f)/\W.keepIn K (.ref f)=true/\k9 K fd ps []:=
 gm X G p ok λF=>F.binds λkV doc pm an YH ct us e=>by obtain⟨a0,a1,a2,rfl⟩:=JH (e.trans hl);exact hb ..
theorem LP{P:UU}{w:UY}{K:W.Frag}{h base:oE}{mg:Str->Option oA}{nm:Str}{st:UZ}{f:UQ}{CX:Fj}{k:Nat}{ps:List Str}{sp:Sp}(X:K.In h)(G:h.Ns UX mg)(p:Fc K nm st f)(ok:∀{fd:VH},dY K nm nm st f fd->bE P w K mg base CX k f fd ps sp)(hl:ps.length=4:=by rfl)
  (hb:∀(kV doc pm:oA)(an:Option UQ)(YH ct a0 a1 a2 a3:oA),bindArgs (W.fnOf nm nm (gG st) (dF st) (aC st) .none kV doc pm an YH ct) ⟨[a0,a1,a2,a3],[]⟩=pure (ps.zip [a0,a1,a2,a3]):=by intros;rfl):∃f fd,bE P w K mg base CX k f fd ps sp/\mg nm=oZ (.ref f)/\W.keepIn K (.ref f)=true/\k9 K fd ps []:=
 gm X G p ok λF=>F.binds λkV doc pm an YH ct us e=>by obtain⟨a0,a1,a2,a3,rfl⟩:=JI (e.trans hl);exact hb ..
theorem R9{P:UU}{w:UY}{K:W.Frag}{h:oE}{mg:Str->Option oA}{fa f0 f1 f2 f3 f4 f5 f6 f7 f8 f9 f10 f11 f12 f13 f14 f15 f16 f17 f18 f19 f20 f21 f22 f23 f24 f25 f26 f27 f28 f29 f30 f31 f32 f33 f34 f35 f36 f37 f38 f39 f40 f41 f42 f43 f44 f45 f46 f47 f48 f49 f50 f51 f52 f53:UQ}(X:K.In h)(G:h.Ns UX mg)(hfa:mg "law" = oZ (.ref fa))
  (p0:Fc K "_law_take" Ih f0)
  (p1:Fc K "common_divisor" hV f1)
  (p2:Fc K "fraction" nT f2)
  (p3:Fc K "added" Ad f3)
  (p4:Fc K "taken" Aj f4)
  (p5:Fc K "times" Ak f5)
  (p6:Fc K "over" Ie f6)
  (p7:Fc K "_law_box" Vx f7)
  (p8:Fc K "_law_folded" vG f8)
  (p9:Fc K "compared" nS f9)
  (jw:Fc K "scaled" vL f10)
  (p11:Fc K "plus" Ig f11)
  (p12:Fc K "minus" Ah f12)
  (p13:Fc K "cross" Ae f13)
  (p14:Fc K "spot_of" rR f14)
  (p15:Fc K "line_through" jE f15)
  (p16:Fc K "in_lowest_terms" gM f16)
  (p17:Fc K "off_line" nW f17)
  (p18:Fc K "box_of" vF f18)
  (p19:Fc K "are_apart" lZ f19)
  (p20:Fc K "edge_lines" kR f20)
  (p21:Fc K "shape_of" nY f21)
  (p22:Fc K "shapes_of" mE f22)
  (p23:Fc K "segment_of" kT f23)
  (p24:Fc K "later" Af f24)
  (p25:Fc K "earlier" rM f25)
  (p26:Fc K "overlap" rO f26)
  (p27:Fc K "parted" vK f27)
  (p28:Fc K "point_at" nX f28)
  (p29:Fc K "edge_ends" l9 f29)
  (p30:Fc K "part_at" rP f30)
  (p31:Fc K "bare_parts" kQ f31)
  (p32:Fc K "bounds_of" l8 f32)
  (p33:Fc K "rim" Vy f33)
  (p34:Fc K "_law_frac" Ag f34)
  (p35:Fc K "_law_sum" Ic f35)
  (p36:Fc K "_law_less" Ai f36)
  (p37:Fc K "_law_product" nU f37)
  (p38:Fc K "_law_add" Hy f38)
  (p39:Fc K "_law_sub" Ib f39)
  (p40:Fc K "_law_scaled_by" kS f40)
  (p41:Fc K "_law_cross" vI f41)
  (p42:Fc K "_law_dot" Hz f42)
  (p43:Fc K "_law_spot_at" nV f43)
  (p44:Fc K "_law_shape" vJ f44)
  (p45:Fc K "_law_lot" Ia f45)
  (p46:Fc K "total_of" nZ f46)
  (p47:Fc K "size_within" jW f47)
  (p48:Fc K "is_within" mB f48)
  (p49:Fc K "size_of" rQ f49)
  (p50:Fc K "_law_closes" rN f50)
  (p51:Fc K "_law_how_long" mD f51)
  (p52:Fc K "_law_stretch_right" h9 f52)
  (p53:Fc K "law" vH f53)
  {kz:Tok} (tf:W.nsIn K UX "GRID" = oZ (oZ (.int 65536 kz)))
  {cf:UQ} {cw:Option UQ} {fi fj:Tok} {fm:Nat} {cy:Array (Option oA)} (ji:W.nsIn K UX "NOUGHT" = oZ (oZ (.ref cf))) (jj:K.lookup cf=oZ ⟨.type "tuple",cw,.seq #[.int 0 fi,.int 1 fj] fm,cy⟩)
  {ph:UQ} {la:Option UQ} {tj tq:Tok} {tu:Nat} {lh:Array (Option oA)} (yi:W.nsIn K UX "ONE" = oZ (oZ (.ref ph))) (yj:K.lookup ph=oZ ⟨.type "tuple",la,.seq #[.int 1 tj,.int 1 tq] tu,lh⟩)
  (jg:tK K=true)
  {C_W D_W E_W:UQ} {o_W aBU aBV:Option UQ} {aBW aBX aBY aBZ:Tok} {n_W aB0 aB1:Nat} {s_W aB2 aB3:Array (Option oA)} (q_W:W.nsIn K UX "WHOLE" = oZ (oZ (.ref C_W))) (r_W:K.lookup C_W=oZ ⟨.type "tuple",o_W,.seq #[.ref D_W,.ref E_W] n_W,s_W⟩) (aB4:K.lookup D_W=oZ ⟨.type "tuple",aBU,.seq #[.int 0 aBW,.int 1 aBX] aB0,aB2⟩) (aB5:K.lookup E_W=oZ ⟨.type "tuple",aBV,.seq #[.int 1 aBY,.int 1 aBZ] aB1,aB3⟩)
  (bt:W.nsIn K UX "isinstance" = oZ none) (yk:W.nsIn K UX "abs" = oZ none) (jl:W.nsIn K UX "divmod" = oZ none) (ym:W.nsIn K UX "min" = oZ none) (yn:W.nsIn K UX "max" = oZ none) (yo:W.nsIn K UX "all" = oZ none) (yp:W.nsIn K UX "len" = oZ none) (yq:W.nsIn K UX "int" = oZ none) (tv:W.nsIn K UX "bool" = oZ none) (lp:W.nsIn K UX "tuple" = oZ none) (ua:W.nsIn K UX "list" = oZ none) (yr:W.nsIn K UX "str" = oZ none) (lq:W.nsIn K UX "range" = oZ none) (cg:W.nsIn K UX "enumerate" = oZ none) (yt:W.nsIn K UX "zip" = oZ none) (yu:W.nsIn K UX "any" = oZ none) :
  ∃fd:VH,(∀(s:oB)(v:oA),BindsTo s fd ⟨[v],[]⟩ [("_law_script",v)])/\∀base:oE,K.In base->base.Ns UX mg->bE P w K mg base eT 8 fa fd ["_law_script"] (Mc K):=by
 obtain⟨oc,od,kV,dc,pm,an,cd,ct,sl,a53,l53,c53,k53⟩:=p53;have e:=hfa.symm.trans (W.mg_of X G a53);cases e;have T:Txt mg:=⟨W.mg_none_of X G bt,W.mg_none_of X G yk,W.mg_none_of X G jl,W.mg_none_of X G ym,W.mg_none_of X G yn,W.mg_none_of X G yo,W.mg_none_of X G yp,W.mg_none_of X G yq,W.mg_none_of X G tv,W.mg_none_of X G lp,W.mg_none_of X G ua,W.mg_none_of X G yr,W.mg_none_of X G lq,W.mg_none_of X G cg,W.mg_none_of X G yt⟩;have bg:Fl mg "GRID" 65536:=⟨_,W.mg_of X G tf⟩;have aa:tQ mg K "WHOLE" (.tup [.tup [.int 0,.int 1],.tup [.int 1,.int 1]]):=⟨_,W.mg_of X G q_W,Rf r_W aB4 aB5⟩;have af:tQ mg K "NOUGHT" (.tup [.int 0,.int 1]):=⟨_,W.mg_of X G ji,kF jj⟩;have jf:tQ mg K "ONE" (.tup [.int 1,.int 1]):=⟨_,W.mg_of X G yi,kF yj⟩;have F53:=Sq (st:=vH) l53 c53 k53;refine⟨W.fnOf "law" "law" (gG vH) (dF vH) (aC vH) .none kV dc pm an cd ct,λs v=>.of_eq rfl,λbase _ _=>?_⟩;have XQ: ~~~o9:=⟨kB X G p0 (Zy · T )⟩;have XE: ~~~dP:=⟨kB X G p1 (pU · T )⟩;have XF: ~~~fT:=⟨kB X G p2 (Cu · T XE)⟩;have YR: ~~~tS:=⟨kB X G p3 (Uj · T XF)⟩;have YA: ~~~pA:=⟨kB X G p4 (Uq · T XF)⟩;have XZ: ~~~pB:=⟨kB X G p5 (Ur · T XF)⟩;have cq: ~~~Jc:=⟨kB X G p6 (Zw · T XF)⟩;have jh: ~~~Qk:=⟨kB X G p7 (X0 · T )⟩;have aj: ~~~wR:=⟨kB X G p8 (Ou · T )⟩;have XI: ~~~iJ:=⟨kB X G p9 (Ct · T )⟩;have ag: ~~~wW:=⟨kB X G jw (Pa · T XZ)⟩;have cn: ~~~Jd:=⟨kB X G p11 (Zx · T YR)⟩;have bo: ~~~Bi:=⟨kB X G p12 (Uo · T YA)⟩;have br: ~~~Bh:=⟨kB X G p13 (Uk · T XZ YA)⟩;have XO: ~~~i5:=⟨Xu X G p14 (Hl · T XE)⟩;have XR: ~~~iR:=⟨kB X G p15 (sS · T )⟩;have XM: ~~~fM:=⟨Xu X G p16 (nP · T XE)⟩;have XX: ~~~lN:=⟨kB X G p17 (Cz · T )⟩;have YQ: ~~~qP:=⟨Xu X G p18 (Ot · T bg)⟩;have ZC: ~~~oR:=⟨kB X G p19 (zQ · T )⟩;have XS: ~~~jQ:=⟨Xu X G p20 (wJ · T XO XR)⟩;have ZK: ~~~sE:=⟨Xu X G p21 (De · T XS XM YQ XO)⟩;have ZD: ~~~o8:=⟨Xu X G p22 (zV · T ZK)⟩;have YS: ~~~m9:=⟨kB X G p23 (wL · T XO YQ XM XR)⟩;have ZH: ~~~tT:=⟨kB X G p24 (Ul · T XI)⟩;have YJ: ~~~nK:=⟨kB X G p25 (Hg · T XI)⟩;have ZU: ~~~tW:=⟨kB X G p26 (Hi · T ZC XX ZH YJ XI af jf)⟩;have ZO: ~~~wV:=⟨LP X G p27 (Oz · T ZH YJ XI)⟩;have YU: ~~~sC:=⟨KO X G p28 (Dd · T cn ag bo)⟩;have ZE: ~~~oS:=⟨kB X G p29 (zS · T )⟩;have ZI: ~~~tX:=⟨kB X G p30 (Hj · T cq YA)⟩;have YT: ~~~m8:=⟨KO X G p31 (wI · T YS ZU ZO ZI aa)⟩;have XY: ~~~kC:=⟨kB X G p32 (zR · T ZD ZE YT YU XF (Ub jg))⟩;have dr: ~~~Ql:=⟨kB X G p33 (X2 · T XY)⟩;have XT: ~~~lM:=⟨kB X G p34 (Um · T )⟩;have YC: ~~~o7:=⟨kB X G p35 (Zv · T XT)⟩;have YV: ~~~tV:=⟨kB X G p36 (Up · T XT)⟩;have XG: ~~~iK:=⟨kB X G p37 (Cw · T XT)⟩;have YW: ~~~sU:=⟨kB X G p38 (Zr · T YC)⟩;have YB: ~~~sV:=⟨kB X G p39 (Zu · T YV)⟩;have XU: ~~~jR:=⟨kB X G p40 (wK · T XG)⟩;have YL: ~~~qQ:=⟨kB X G p41 (Ox · T YV XG)⟩;have ZV: ~~~yJ:=⟨kB X G p42 (Zs · T YC XG)⟩;have ZL: ~~~sA:=⟨kB X G p43 (Cy · T XQ XT)⟩;have ah: ~~~wU:=⟨kB X G p44 (Oy · T XQ ZL YW)⟩;have cu: ~~~Jb:=⟨kB X G p45 (Zt · T XQ ah YW XU YB)⟩;have ZM: ~~~sF:=⟨Xu X G p46 (Df · T YR)⟩;have YO: ~~~lO:=⟨Xu X G p47 (uT · T XZ ZM br)⟩;have ZF: ~~~oT:=⟨kB X G p48 (zT · T XO XS XX)⟩;have ZY: ~~~tY:=⟨Xu X G p49 (Hk · T XY YO)⟩;have ZX: ~~~tU:=⟨Xu X G p50 (Hh · T )⟩;have YN: ~~~oU:=⟨kB X G p51 (zU · T ZV YB YC)⟩;have YD: ~~~jI:=⟨kB X G p52 (pV · T YB YL ZV YW XU ZF (W.mg_none_of X G yu))⟩;exact(X1 F53 T aj jh XQ cu dr ZX YD YC YL XG ZY YN).imp W4
theorem JZ{l:W.OpenLaw}{XP:(Str->Option oA)->oE->Prop}{YP:UY->oE->Prop}{d:DefRec}{K:Params->W.Frag}(hn:l.most=oZ 63)(vx:d.params.defaults=[])(hY:∀(w:UY)(h:oE),YP w h->(K w.params).In h)(F:∀(w:UY)(mg:Str->Option oA)(fa:UQ)(h:oE),(K w.params).In h->h.Ns UX mg->mg d.name=oZ (.ref fa)->
   ∃fd:VH,(∀(s:oB)(u:oA),BindsTo s fd ⟨[u],[]⟩ [("_law_script",u)])/\∀base:oE,(K w.params).In base->base.Ns UX mg->bE l.prog w (K w.params) mg base eT 8 fa fd ["_law_script"] (Mc (K w.params))):
  W.WalkO q loose XP YP l.row.toRowW d [] (λf vs=>PySem.call f vs):=
 L2.K6 (n:=63) (k:=8) (x:="_law_script") (CX:=λ_=>eT) (sp:=λw=>Mc (K w.params)) hn ∅ vx ⟨rfl,∅,∅,rfl⟩ hY F (λ_ _ a ns hl _ hS=>⟨a,ns,rfl,hS,hl,λ_=>rfl⟩) λ_ _ _ _ _ z=>z
end My
namespace PySem.W.Fast
def tw13191976690706301189:=0
def tw15161672869370376491:=0
def tw8656273713192487078:=0
def tw16869091074436129697:=0
def tw2978284303285701126:=0
def tw7058803967523520086:=0
def tw244030444312606179:=0
def tw15960689402971146473:=0
def tw18088485019802997923:=0
def tw10235528156991635656:=0
def tw1429880651316576107:=0
def tw17031910387688826278:=0
def tw10500796901078314400:=0
def tw14394474136011227876:=0
def tw17526679657980410827:=0
def tw3268138782108810582:=0
def tw95034705487753491:=0
def tw6320705060709402249:=0
def tw16717511457600044077:=0
def tw18371749334290681922:=0
def tw13102623055738082232:=0
def tw9293387413209273680:=0
def tw7256472327081467337:=0
def tw8462239315635811063:=0
def tw15890223144306247591:=0
def tw18247331151937690722:=0
def tw8761094305501139894:=0
def tw8889318975662390304:=0
def tw9710306641566048377:=0
def tw5188384158531205557:=0
def tw2596536525894500258:=0
def tw14762934689796538901:=0
def tw9236974125731550897:=0
def tw5352112330164155537:=0
def tw936870537210702952:=0
def tw7518657059870256630:=0
def tw6781496802393042439:=0
def tw18206319509007798242:=0
def tw11054491304747928561:=0
def tw16850796112396171605:=0
def tw3304670960100452126:=0
def tw3886022208320050681:=0
def tw16576498533808620357:=0
def tw17128371574152931999:=0
def tw1402564739838464301:=0
def tw12562165390084941362:=0
def tw2105328379373463898:=0
def tw3274807543272975778:=0
def tw11052599112545558804:=0
def tw8128341525909804731:=0
def tw17594297982965167559:=0
def tw13754065113094350044:=0
def tw17831749468468331473:=0
def tw16916200534788202616:=0
def tw1918042672704546239:=0
def tw15160322109481959682:=0
def tw2829449574269544489:=0
def tw4435685362296500746:=0
def tw6649888623534810089:=0
def tw11356168581277743932:=0
def tw17431765905152944182:=0
def tw4985265492819426868:=0
def tw13032697181171510593:=0
def tw4933111482590772253:=0
def tw13589629295813052592:=0
def tw7127681081053516575:=0
def tw16519791316421133110:=0
def tw16199085934768901451:=0
def tw17639034834729047617:=0
def tw592934301097333491:=0
def tw11932057787181159264:=0
def tw11300296786568633325:=0
def tw6717130496634229203:=0
def tw8342841024543883912:=0
def tw16579285986906817211:=0
def tw4015663217203317814:=0
def tw18182436176629128695:=0
def tw4382422023170594560:=0
def tw5587017227654245755:=0
def tw1567302266434487289:=0
def tw9468428485306598494:=0
def tw2062966480617830752:=0
def tw7734504507116962178:=0
def tw6500479416002119767:=0
def tw15910229868667723566:=0
def tw17641663549525407849:=0
def tw8131101818501175988:=0
def tw7302408364981056583:=0
def tw6855710611903729044:=0
def tw17881192981883378342:=0
def tw2548837341265251062:=0
def tw14918905481005001899:=0
def tw5776097509970386582:=0
def tw9777699822568294296:=0
def tw18331557536941875454:=0
def tw6887474639011267521:=0
def tw9254800954104407255:=0
def tw11413918092864799835:=0
def tw8021869573406452931:=0
def tw59691877850868958:=0
def tw9650134482103472498:=0
def tw472286353858609869:=0
def tw11021498481737589999:=0
def tw3498438087556121976:=0
def tw15761838627713868274:=0
def tw10102278782206214349:=0
def tw9915351238747797779:=0
def tw116703140613458110:=0
def tw16510040923697451286:=0
def tw18307846831306264895:=0
def tw13159482808175583223:=0
end PySem.W.Fast
open PySem PySem.W PyProof.Rows
set_option maxRecDepth 100000 in
set_option maxHeartbeats 0 in
theorem PySem.Challenge.cw_sidecut_k28_rims_go_round_holds : PySem.Challenge.rw_sidecut_k28_rims_go_round.Holds := by
 w_on; o_law; k_head; (case hw => w_witness2)
 k_fill
 refine My.JZ (l := PySem.Challenge.rw_sidecut_k28_rims_go_round) rfl rfl (λw h Y => PySem.W.kIn_of Y) ?F
 case F =>
  intro w mg fa h KX G hmg
  refine' My.R9 KX G hmg ..
  any_goals exact My.fc rfl rfl rfl rfl
  any_goals k_is
  any_goals kernel_rfl
#print axioms PySem.Challenge.cw_sidecut_k28_rims_go_round_holds
