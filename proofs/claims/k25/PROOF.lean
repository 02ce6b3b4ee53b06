import PyProof.Rows.All
import Wide.All
import OpenK.AllK
import Wide.FinOn
import Lean
import PyProof.EqAt
import PyProof.EqKinds
import PyProof.TupleCall
import PyProof.NeKinds
import PyProof.ExcInit
import PyProof.Rows.SortStr
import PyProof.Rows.SortWalk
import PyProof.Rows.RuleB_bool
import PyProof.Rows.SortShellK
import KE.KIntText
import KE.KIsAll
import PyProof.AttrMissHeap
import PyProof.CompUse
import PyProof.Rows.CountFlat
import PySem.Challenge.RW_sidecut_k25_rims_told
set_option Elab.async false
set_option linter.all false
set_option maxRecDepth 100000
set_option maxHeartbeats 4000000
open List renaming mem_cons -> KR, getElem?_eq_getElem -> KS, getElem?_eq_some_iff -> KU, length_map -> KW, mem_map -> KY, mem_of_getElem? -> KZ, length_append -> LC, getD_eq_getElem?_getD -> LH, append_assoc -> LI, length_cons -> LJ, getElem?_map -> LK, mem_singleton -> LM, size_toArray -> LN, mem_append -> LP, mem_cons_of_mem -> LQ, mem_append_right -> LU, mem_zipIdx_iff_getElem? -> LV, getElem?_append_left -> LW, replicate -> LY, append_nil -> LZ, length_take -> MA, getElem?_set_ne -> MB, length_singleton -> ME, mem_filter -> MH, map_append -> MI, map_map -> MK, mem_flatMap -> ML, map_cons -> MO, Nodup -> MQ, getElem?_set_self -> MR, getElem?_append_right -> MS, flatMap_cons -> MT, mem_range -> MU, range -> MV, all_eq_true -> MW, nil_append -> MZ, getElem?_zipIdx -> NA, getElem?_of_mem -> NB, take_of_length_le -> NC, pairwise_cons -> ND, length_nil -> NF, filter_cons_of_pos -> NG, foldl_cons -> NH, drop_eq_getElem_cons -> NI, getElem?_take_of_lt -> NK, filter_cons_of_neg -> NM, getElem_mem -> NN, mem_cons_self -> NR, lookup_cons -> NS, any_eq_true -> NU, length_tail -> NV, mem_of_mem_take -> NW, of_mem_zip -> NY, getElem?_eq_none -> OD, mem_of_mem_tail -> OE, eq_nil_of_length_eq_zero -> OF, not_mem_nil -> OG, nodup_cons -> OH, length_replicate -> OI, length_filter_le -> OK, getElem?_take_eq_none -> ON, mem_append_left -> OP, map_nil -> OS, drop_length -> OT, getElem?_set -> PC, length_drop -> PK, getElem?_range -> PR, mem_filterMap -> PV, length_zipIdx -> PY, getElem?_take -> PZ, foldl_nil -> QF, set_comm -> QJ, any_cons -> QK, map_take -> QL, flatMap_def -> QN, forIn_cons -> QR, find?_cons -> QU, filterMap_cons -> QX, mem_map_of_mem -> QY, flatMap_append -> QZ, map_congr_left -> RA, drop_zero -> RB, filter_append -> RH, getElem?_zip_eq_some -> RL, cons_append -> RP, flatMap_map -> RT, getElem?_replicate -> RU, length_set -> RX, length_zip -> RZ, zipIdx_map -> SA, filter_eq_nil_iff -> SF, nodup_nil -> SI, map_tail -> SM
open Or renaming inl -> LA, inr -> MM
open Nat renaming le_refl -> LF, lt_of_lt_of_le -> LO, ne_of_lt -> MC, lt_of_le_of_lt -> MF, le_trans -> MG, zero_le -> MJ, gcd -> MN, le_of_lt -> MY, pow_le_pow_right -> NO, gcd_dvd_left -> NT, gcd_dvd_right -> NX, lt_or_ge -> NZ, mod_eq_of_lt -> OB, le_max_right -> OU, gcd_pos_of_pos_right -> OV, max -> OX, le_max_left -> OZ, max_le -> PL, mod_lt -> PM, not_lt_zero -> PU, min_eq_left -> QV, mul_le_mul -> RC, log2_lt -> RD, gcd_comm -> RM, log2 -> RN, zero_add -> RQ, mod_self -> RS, Coprime -> SE
open PySem.Heap renaming get?_push_of_some -> LG, lt_size -> LL, get?_push_size -> LR, get?_update_self -> OJ, SameBut -> OR, size_push -> QD, get?_update_other -> SD
open Bool renaming and_eq_true -> LX, eq_iff_iff -> NQ, false_eq_true -> OC, or_eq_true -> OL, not_eq_true' -> OO, false_ne_true -> OY, false_and -> PF, true_and -> QM, and_false -> SG, and_true -> SK
open Int renaming ofNat_dvd_left -> MP, toNat_natCast -> NJ, mul_ediv_cancel_left -> NL, fdiv_eq_ediv_of_nonneg -> OM, natAbs_neg -> OQ, mul_ne_zero -> PB, natAbs_mul -> PJ, mul_assoc -> PQ, mul_nonpos_of_nonneg_of_nonpos -> QH, mul_pos -> RF, emod_lt_of_pos -> RG, ediv_eq_of_eq_mul_right -> RI, fmod_eq_emod_of_nonneg -> RJ, eq_of_mul_eq_mul_left -> RK, mul_fdiv_cancel_left -> RO, emod_nonneg -> RY
open PySem.Value renaming ref -> MX, none -> QC, bool -> SJ
open PySem.Obj renaming mapSeq -> OA
open Array renaming length_toList -> OW, getElem?_setIfInBounds_self_of_lt -> PN, getElem?_setIfInBounds_ne -> QP, getElem?_toList -> SH, toList -> SN
open PySem.Str renaming length_append -> PD, ofString -> PH
open PySem.Txt renaming slice -> PX
open Option renaming bind_eq_some_iff -> RW
open PyProof.Rows renaming assignInOrder_cons -> UD, AllBare -> UU, envOfC -> UZ, assignInOrder_nil -> VF
open PySem renaming Addr -> SO, wpAny_bind -> SQ, FuncData -> SR, Program -> SS, wpAny -> SU, wpAny_pure -> SV, World -> SW, sizeLine -> SX, mainGlobals -> SY, Stmt -> TB, model -> TC, bootBuiltins -> TF, foldedSetIterable -> TH, starEach -> TJ, behindInMarks -> TK, eval -> TL, assignEach -> TM, wpAny_field -> TN, compareOp -> TQ, Scope -> TR, wpAny_newObj_type -> TU, attributeBase -> TV, wpAny_truthy_bool -> TY, swapsWith -> TZ, binaryOp -> UA, swapsWithSole -> UB, swappedStores -> UC, wpAny_passesOwn -> UE, sysModules -> UG, wpAny_seqItems -> UH, backTo -> UI, wpAny_mono -> UJ, wpAny_setField_rec -> UK, holding -> UL, bindName -> UM, wpAny_rule -> UN, wpAny_call_entry -> UO, assign -> UP, wpAny_holding -> UQ, sliceBounds -> UR, wpAny_pyIter_tuple -> US, wpAny_Call_Name_kw -> UT, wpAny_bindName -> UW, cLine -> UX, IsZip -> UY, assignInOrder -> VA, wpAny_standAt -> VB, wpAny_execs_nil -> VC, letOwnedTupleGo -> VD, tupleKind -> VE, callerA -> VG, sizeLine_eq -> VH
namespace L2
open PySem PySem.Spec PyProof.Rows
abbrev Key:=Sum Int Str
def wB:Key->Value->Bool
 | .inl k,v=>Value.isInt k v
 | .inr x,v=>Value.isStrOf x v
def IC (w:SW):Key->Int
 | .inl k=>hashInt k
 | .inr x=>hashStr w x
theorem cZ:∀{k:Key} {v:Value},wB k v=true->(∃i t,k=Sum.inl i/\v=Value.int i t)\/(∃x t,k=Sum.inr x/\v=Value.str x t)
 | .inl i,v,h=>by
  obtain ⟨t,e⟩:=Value.isInt_shape (k:=i) (v:=v) h;exact .inl ⟨i,t,rfl,e⟩
 | .inr x,v,h=>by
  obtain ⟨t,e⟩:=Value.isStrOf_shape (x:=x) (v:=v) h;exact .inr ⟨x,t,rfl,e⟩
theorem Pd (i:Int) (t:Tok):wB (.inl i) (.int i t)=true:=by simp [wB,Value.isInt]
theorem Nh (x:Str) (t:Tok):wB (.inr x) (.str x t)=true:=by simp [wB,Value.isStrOf]
theorem W8 (a b:Int):decide ((Sum.inl a:Key)=Sum.inl b)=(a==b):=by
 by_cases e:a=b
 ·subst e;simp
 ·have h:¬(Sum.inl a:Key)=Sum.inl b:=λq=>e (Sum.inl.inj q);rw [decide_eq_false h];exact (beq_eq_false_iff_ne.mpr e).symm
theorem N7 (a b:Str):decide ((Sum.inr a:Key)=Sum.inr b)=decide (a=b):=by
 by_cases e:a=b
 ·subst e;simp
 ·have h:¬(Sum.inr a:Key)=Sum.inr b:=λq=>e (Sum.inr.inj q);rw [decide_eq_false h,decide_eq_false e]
theorem N5 (a:Int) (b:Str):decide ((Sum.inl a:Key)=Sum.inr b)=false:=decide_eq_false (λq=>nomatch q)
theorem R1 (a:Str) (b:Int):decide ((Sum.inr a:Key)=Sum.inl b)=false:=decide_eq_false (λq=>nomatch q)
def fJ (prog:SS) (w:SW):PySem.KeyKind prog w Key where
 is:=wB
 hash:=IC w
 inj:=λv a b ha hb=>by
  rcases cZ ha with ⟨i,t,rfl,rfl⟩ | ⟨x,t,rfl,rfl⟩
  ·rcases cZ hb with ⟨j,u,rfl,e⟩ | ⟨y,u,rfl,e⟩
   ·injection e with e1 _;rw [e1]
   ·exact nomatch e
  ·rcases cZ hb with ⟨j,u,rfl,e⟩ | ⟨y,u,rfl,e⟩
   ·exact nomatch e
   ·injection e with e1 _;rw [e1]
 byValue:=λk v h=>by
  rcases cZ h with ⟨i,t,rfl,rfl⟩ | ⟨x,t,rfl,rfl⟩<;>rfl
 pyHash:=λhv h=>by
  rcases cZ hv with ⟨i,t,rfl,rfl⟩ | ⟨x,t,rfl,rfl⟩
  ·exact wpAny_pyHash_int h
  ·exact wpAny_pyHash_str h
 eqBool:=λhu hv h=>by
  rcases cZ hu with ⟨i,t,rfl,rfl⟩ | ⟨x,t,rfl,rfl⟩
  ·rcases cZ hv with ⟨j,u,rfl,rfl⟩ | ⟨y,u,rfl,rfl⟩
   ·rw [W8] at h;exact wpAny_eqBool_int h
   ·rw [N5] at h;exact SeqAt.EqAt.int_str i t y u _ _ _ _ h
  ·rcases cZ hv with ⟨j,u,rfl,rfl⟩ | ⟨y,u,rfl,rfl⟩
   ·rw [R1] at h;exact SeqAt.EqAt.str_int x t j u _ _ _ _ h
   ·rw [N7] at h;exact wpAny_eqBool_str h
 «strs»:=λk x t v h=>by
  rcases cZ h with ⟨i,u,rfl,e⟩ | ⟨y,u,rfl,e⟩
  ·exact nomatch e
  ·injection e with e1 _;subst e1;cases v<;>rfl
theorem Ax (prog:SS) (w:SW) (i:Int) (t:Tok):(fJ prog w).is (.inl i) (.int i t)=true:=Pd i t
theorem Eb (prog:SS) (w:SW) (x:Str) (t:Tok):(fJ prog w).is (.inr x) (.str x t)=true:=Nh x t
inductive V where
 | non | bl (b:Bool) | int (i:Int) | str (x:Str) | byt (b:Array UInt8) | flt (b:UInt64) | ref (a:SO) | ty (n:String)
 deriving DecidableEq
def bH:V->Value->Prop
 | .non,u=>u=QC
 | .bl b,u=>u=SJ b
 | .int i,u=>∃t,u=Value.int i t
 | .str x,u=>∃t,u=Value.str x t
 | .byt b,u=>∃t,u=Value.bytes b t
 | .flt b,u=>∃t,u=Value.float b t
 | .ref a,u=>u=MX a
 | .ty n,u=>u=Value.type n
abbrev bE:List V->List Value->Prop:=Paired bH
theorem bE.length {xs:List V} {us:List Value} (r:bE xs us):xs.length=us.length:=Paired.length r
theorem bE.get:∀{xs:List V} {us:List Value} {i:Nat} {x:V},bE xs us->xs[i]? = some x->∃u,us[i]? = some u/\bH x u
 | _,_,_,_,.nil,e=>by simp at e
 | _,_,0,_,.cons r _,e=>by simp at e;subst e;exact ⟨_,rfl,r⟩
 | _,_,i+1,x,.cons _ t,e=>by
  obtain ⟨u,h1,h2⟩:=bE.get (i:=i) (x:=x) t (by simpa using e);exact ⟨u,by simpa using h1,h2⟩
theorem bE.set {x:V} {u:Value} (r:bH x u):∀{xs:List V} {us:List Value} (i:Nat),bE xs us->bE (xs.set i x) (us.set i u)
 | _,_,_,.nil=>.nil
 | _,_,0,.cons _ t=>.cons r t
 | _,_,i+1,.cons q t=>.cons q (bE.set r i t)
theorem bE.append:∀{xs ys:List V} {us ws:List Value},bE xs us->bE ys ws->bE (xs++ys) (us++ws)
 | _,_,_,_,.nil,s=>s
 | _,_,_,_,.cons r t,s=>.cons r (bE.append t s)
theorem bE.take:∀{xs:List V} {us:List Value} (n:Nat),bE xs us->bE (xs.take n) (us.take n)
 | _,_,0,_=>.nil
 | _,_,_+1,.nil=>.nil
 | _,_,n+1,.cons r t=>.cons r (bE.take n t)
theorem bE.drop:∀{xs:List V} {us:List Value} (n:Nat),bE xs us->bE (xs.drop n) (us.drop n)
 | _,_,0,r=>r
 | _,_,_+1,.nil=>.nil
 | _,_,n+1,.cons _ t=>bE.drop n t
def Ra:Option V->Option Value->Prop
 | some v,some u=>bH v u
 | none,none=>True
 | _,_=>False
def KV {κ:Type}:List (κ×V)->List (κ×Value)->Prop:=Paired λ(p:κ×V) (q:κ×Value)=>p.1=q.1/\bH p.2 q.2
def kV:Key->V
 | .inl i=>.int i
 | .inr x=>.str x
inductive HO where
 | lst (xs:List V)
 | tup (xs:List V)
 | dK (VV:List (Key×V)) | dT (VV:List (List Key×V))
 | set (S:Int->Bool) (n:Nat)
 | ins (C dx:SO) (fs:List (Str×V))
 | own (x:SO)
 | xd (fs:List (Str×V))
 | met (f x:SO)
 | rng (lo hi:Int)
 | frz (o:Obj) (u:HO)
 | tbl (ps:Array Value)
 | ext (φ:Heap->Prop)
abbrev Hp:=SO->Option HO
def upd (H:Hp) (a:SO) (o:HO):Hp:=λb=>if b=a then some o else H b
theorem c8 {H:Hp} {a:SO} {o:HO}:upd H a o a=some o:=by unfold upd;rw [if_pos rfl]
theorem a8 {H:Hp} {a b:SO} {o:HO} (h:b≠a):upd H a o b=H b:=by unfold upd;rw [if_neg h]
theorem FC {H:Hp} {a b:SO} {o u:HO} (h:H a=some o) (h':H b=some u) (d:o≠u):a≠b:=by
 intro e;subst e;rw [h] at h';exact d (Option.some.inj h')
theorem a9 {H:Hp} {a b:SO} {o:HO} (h:H a=some o) (h':H b=none):a≠b:=by
 intro e;subst e;rw [h] at h';cases h'
section
variable (P:SS) (w:SW)
def dU (H:Hp) (h:Heap) (a:SO):HO->Prop
 | .lst xs=>xs.length<=SX/\∃(VI:List Value) (n:Nat),bE xs VI/\h.get? a=some { cls:=.type "list",data:=.seq VI.toArray n }
 | .tup xs=>xs.length<=SX/\∃VI:List Value,bE xs VI/\IsTup h a VI.toArray
 | .dK VV=>VV.length<=SX/\(a==UG)=false/\∃vs,KV VV vs/\h.DictOf (fJ P w) a vs
 | .dT VV=>VV.length<=SX/\(a==UG)=false/\∃xs:List (List Key×SO×Value),
   Paired (λ(p:List Key×V) (q:List Key×SO×Value)=>p.1=q.1/\H q.2.1=some (.tup (p.1.map kV))/\bH p.2 q.2.2) VV xs/\
   ∃o es ep,h.get? a=some o/\o.ExactDict/\o.data = .dict es ep/\es.toList=xs.map (entryOfKey (VE (fJ P w)))/\(xs.map (·.1)).Nodup
 | .set S n=>h.SetOf (intKind P w) a S n
 | .ins C dx fs=>H dx=some (.own a)/\fs.length<=1000/\dx≠a/\h.get? a=some (W.instObj C dx)/\
   ∃mA,h.Ns1 dx mA/\(∀f,Ra (fs.lookup f) (mA f))/\PySem.Within mA (fs.map (·.1))
 | .own _=>∃o,h.get? a=some o
 | .xd fs=>∃mA,h.Ns1 a mA/\∀f,Ra (fs.lookup f) (mA f)
 | .rng lo hi=>∃t u v,h.get? a=some { cls:=.type "range",data:=.fields #[.int lo t,.int hi u,.int 1 v] }
 | .frz o u=>h.get? a=some o/\dU H h a u
 | .tbl ps=>h.get? a=some { cls:=.none,data:=.fields ps }
 | .met f x=>h.get? a=some (W.methodObj (.ref f) (.ref x))
 | .ext φ=>φ h/\(∃o,h.get? a=some o)/\∀h1 h2:Heap,φ h1->(∀o,h1.get? a=some o->h2.get? a=some o)->φ h2
def nM (H:Hp) (h:Heap):Prop:=∀a o,H a=some o->dU P w H h a o
end
section
variable {P:SS} {w:SW} {H H':Hp} {h h':Heap} {a:SO} {o:HO}
theorem dU.lt (x:dU P w H h a o):a<h.objs.size:=by
 cases o with
 | lst xs=>obtain ⟨_,_,_,_,e⟩:=x;exact LL e
 | tup xs=>obtain ⟨_,_,_,p⟩:=x;exact p.lt
 | dK VV=>obtain ⟨_,_,_,_,o,_,_,e,_⟩:=x;exact LL e
 | dT VV=>obtain ⟨_,_,_,_,o,_,_,e,_⟩:=x;exact LL e
 | set S n=>obtain ⟨o,_,_,_,e,_⟩:=x;exact LL e
 | ins C dx fs=>obtain ⟨_,_,_,e,_⟩:=x;exact LL e
 | own y=>obtain ⟨_,e⟩:=x;exact LL e
 | xd fs=>obtain ⟨_,⟨_,_,_,e,_⟩,_⟩:=x;exact LL e
 | rng lo hi=>obtain ⟨_,_,_,e⟩:=x;exact LL e
 | frz ob u=>obtain ⟨e,_⟩:=x;exact LL e
 | tbl ps=>exact LL (show h.get? a=some _ from x)
 | met f y=>exact LL (show h.get? a=some _ from x)
 | ext φ=>obtain ⟨_,⟨_,e⟩,_⟩:=x;exact LL e
theorem Paired.mapP {α β:Type} {F G:α->β->Prop}:∀{l₁:List α} {l₂:List β},Paired F l₁ l₂->(∀a b,F a b->G a b)->Paired G l₁ l₂
 | _,_,.nil,_=>.nil
 | _,_,.cons r t,f=>.cons (f _ _ r) (Paired.mapP t f)
theorem dU.stay (x:dU P w H h a o) (k:∀b u,(b=a\/H b=some (.own a))->h.get? b=some u->h'.get? b=some u)
  (ho:∀b,H b=some (.own a)->H' b=some (.own a)) (ht:∀b xs,H b=some (.tup xs)->H' b=some (.tup xs)):dU P w H' h' a o:=by
 induction o with
 | lst xs=>obtain ⟨z,VI,n,r,e⟩:=x;exact ⟨z,VI,n,r,k _ _ (.inl rfl) e⟩
 | tup xs=>obtain ⟨z,VI,r,ob,e,c⟩:=x;exact ⟨z,VI,r,ob,k _ _ (.inl rfl) e,c⟩
 | dK VV=>obtain ⟨z,y,vs,r,ob,es,ep,e,c⟩:=x;exact ⟨z,y,vs,r,ob,es,ep,k _ _ (.inl rfl) e,c⟩
 | dT VV=>
  obtain ⟨z,y,xs,r,ob,es,ep,e,c⟩:=x;exact ⟨z,y,xs,Paired.mapP r λp q z=>⟨z.1,ht _ _ z.2.1,z.2.2⟩,ob,es,ep,k _ _ (.inl rfl) e,c⟩
 | set S n=>obtain ⟨ob,es,ep,t,e,c⟩:=x;exact ⟨ob,es,ep,t,k _ _ (.inl rfl) e,c⟩
 | ins C dx fs=>
  obtain ⟨d,z,ne,e,mA,⟨od,es,ep,e2,c⟩,r⟩:=x;exact ⟨ho _ d,z,ne,k _ _ (.inl rfl) e,mA,⟨od,es,ep,k _ _ (.inr d) e2,c⟩,r⟩
 | own y=>obtain ⟨ob,e⟩:=x;exact ⟨ob,k _ _ (.inl rfl) e⟩
 | xd fs=>obtain ⟨mA,⟨od,es,ep,e,c⟩,r⟩:=x;exact ⟨mA,⟨od,es,ep,k _ _ (.inl rfl) e,c⟩,r⟩
 | rng lo hi=>obtain ⟨t,u,v,e⟩:=x;exact ⟨t,u,v,k _ _ (.inl rfl) e⟩
 | frz ob u ih=>obtain ⟨e,q⟩:=x;exact ⟨k _ _ (.inl rfl) e,ih q⟩
 | tbl ps=>
  have e:h.get? a=some { cls:=.none,data:=.fields ps }:=x;show h'.get? a=some { cls:=.none,data:=.fields ps };exact k a _ (.inl rfl) e
 | met f y=>
  have e:h.get? a=some (W.methodObj (.ref f) (.ref y)):=x;show h'.get? a=some (W.methodObj (.ref f) (.ref y));exact k a _ (.inl rfl) e
 | ext φ=>obtain ⟨p,⟨o,e⟩,st⟩:=x;exact ⟨st _ _ p λo q=>k _ _ (.inl rfl) q,⟨o,k _ _ (.inl rfl) e⟩,st⟩
theorem nM.lt (x:nM P w H h) (e:H a=some o):a<h.objs.size:=(x a o e).lt
theorem nM.fresh (x:nM P w H h) (e:h.objs.size<=a):H a=none:=by
 cases q:H a with
 | none=>rfl
 | some u=>exact absurd (LO (x.lt q) e) (Nat.lt_irrefl _)
theorem nM.kept (x:nM P w H h) (k:∀b u,h.get? b=some u->h'.get? b=some u):nM P w H h':=λa o e=>
 (x a o e).stay (λb u _ q=>k b u q) (λ_ q=>q) λ_ _ q=>q
theorem nM.laid (x:nM P w H h) (k:∀b u,h.get? b=some u->h'.get? b=some u) (hp:h.objs.size<=a) (new:dU P w (upd H a o) h' a o):nM P w (upd H a o) h':=λb u e=>by
 have hn:=x.fresh hp
 by_cases hb:b=a
 ·subst hb;rw [c8] at e;cases e;exact new
 ·rw [a8 hb] at e;exact (x b u e).stay (λc v _ q=>k c v q) (λc q=>by rw [a8 (a9 q hn)];exact q) λc xs q=>by rw [a8 (a9 q hn)];exact q
end
def Rd (H:Hp) (a:SO) (u:HO):Prop:=H a=some u\/∃o,H a=some (.frz o u)
theorem Rd.ok {P:SS} {w:SW} {H:Hp} {h:Heap} {a:SO} {u:HO} (r:Rd H a u) (x:nM P w H h):dU P w H h a u:=by
 rcases r with r | ⟨o,r⟩
 ·exact x a u r
 ·obtain ⟨_,q⟩:=x a _ r;exact q
def CY:Option HO->Prop
 | some (.lst _)=>True
 | some (.dK _)=>True
 | some (.dT _)=>True
 | some (.set _ _)=>True
 | some (.ins _ _ _)=>True
 | some (.ext _)=>True
 | _=>False
section
variable {P:SS} {w:SW} {H:Hp} {h h':Heap} {x e:SO} {o':HO}
theorem nM.write (ok:nM P w H h) (mu:CY (H x)) (he:e=x\/H e=some (.own x)) (k:∀b u,b≠e->h.get? b=some u->h'.get? b=some u) (nu:∃u,h'.get? e=some u)
  (new:dU P w (upd H x o') h' x o'):nM P w (upd H x o') h':=λb u q=>by
 have qe:∀c y,H c=some (.own y)->c≠x:=λc y r z=>by subst z;rw [r] at mu;exact mu
 have wo:∀c xs,H c=some (.tup xs)->c≠x:=λc xs r z=>by subst z;rw [r] at mu;exact mu
 by_cases hb:b=x
 ·subst hb;rw [c8] at q;cases q;exact new
 ·rw [a8 hb] at q
  by_cases jz:b=e
  ·have q':H b=some (.own x):=by
    rcases he with z | z
    ·exact absurd (jz.trans z) hb
    ·rw [jz];exact z
   rw [q] at q';cases q';obtain ⟨v,hv⟩:=nu;exact ⟨v,by rw [jz];exact hv⟩
  ·refine (ok b u q).stay (λc v hc r=>k c v ?_ r) (λc r=>by rw [a8 (qe c b r)];exact r) λc xs r=>by rw [a8 (wo c xs r)];exact r
   rcases hc with rfl | hc
   ·exact jz
   ·rintro rfl;rcases he with z | z
    ·exact qe c b hc z
    ·rw [hc] at z;cases z;exact hb rfl
end
structure Un (fs ex:List SO) (H H':Hp) (h h':Heap):Prop where
 keep:∀b o,h.get? b=some o->H b=none->b∉fs->b∉ex->h'.get? b=some o
 slot:∀b o,h.get? b=some o->H b=none->b∈fs->b∉ex->∃sl,h'.get? b=some { o with slots:=sl }
 free:∀b o,h.get? b=some o->H b=none->b∉ex->H' b=none
 there:∀b o,h.get? b=some o->b∉ex->∃o',h'.get? b=some o'
 tups:∀b xs,H b=some (.tup xs)->H' b=some (.tup xs)
 frzs:∀b o u,H b=some (.frz o u)->H' b=some (.frz o u)
 tbls:∀b ps,H b=some (.tbl ps)->∃more,H' b=some (.tbl (ps++more))
section
variable {fs fs' ex ex':List SO} {H H1 H2:Hp} {h h1 h2 h':Heap} {a x e:SO} {o:HO}
theorem Un.any (u:Un fs ex H H1 h h1) {b:SO} {ob:Obj} (q:h.get? b=some ob) (n:H b=none) (hx:b∉ex):∃sl,h1.get? b=some { ob with slots:=sl }:=by
 by_cases hb:b∈fs
 ·exact u.slot b ob q n hb hx
 ·exact ⟨ob.slots,u.keep b ob q n hb hx⟩
theorem Un.kept (k:∀b u,h.get? b=some u->h'.get? b=some u):Un fs ex H H h h':=
 ⟨λb ob q _ _ _=>k b ob q,λb ob q _ _ _=>⟨ob.slots,k b ob q⟩,λ_ _ _ n _=>n,λb ob q _=>⟨ob,k b ob q⟩,λ_ _ q=>q,λ_ _ _ q=>q,λ_ ps q=>⟨#[],by rw [q];simp⟩⟩
theorem Un.refl:Un fs ex H H h h:=Un.kept λ_ _ q=>q
theorem Un.laid (k:∀b u,h.get? b=some u->h'.get? b=some u) (hp:h.objs.size<=a) (hn:H a=none):Un fs ex H (upd H a o) h h' where
 keep:=λb u q _ _ _=>k b u q
 slot:=λb u q _ _ _=>⟨u.slots,k b u q⟩
 free:=λb u q n _=>by rw [a8 (MC (LO (LL q) hp))];exact n
 there:=λb u q _=>⟨u,k b u q⟩
 tups:=λb xs q=>by rw [a8 (a9 q hn)];exact q
 frzs:=λb u xs q=>by rw [a8 (a9 q hn)];exact q
 tbls:=λb ps q=>⟨#[],by rw [a8 (a9 q hn),q];simp⟩
theorem Un.write (mu:CY (H x)) (he:e=x\/H e=some (.own x)) (k:∀b u,b≠e->h.get? b=some u->h'.get? b=some u) (nu:∃u,h'.get? e=some u):Un fs ex H (upd H x o) h h':=by
 have hx:∀b,H b=none->b≠x:=λb n z=>by subst z;rw [n] at mu;exact mu
 have hb:∀b,H b=none->b≠e:=λb n z=>by
  subst z;rcases he with r | r
  ·exact hx b n r
  ·rw [n] at r;cases r
 have hm:∀b u,H b=some u->¬CY (some u)->b≠x:=λb u q nm z=>by subst z;rw [q] at mu;exact nm mu
 refine ⟨λb u q n _ _=>k b u (hb b n) q,λb u q n _ _=>⟨u.slots,k b u (hb b n) q⟩,λb u q n _=>by rw [a8 (hx b n)];exact n,λb u q _=>?_,
  λb xs q=>by rw [a8 (hm b _ q λz=>z)];exact q,λb u xs q=>by rw [a8 (hm b _ q λz=>z)];exact q,λb ps q=>⟨#[],by rw [a8 (hm b _ q λz=>z),q];simp⟩⟩
 by_cases jz:b=e
 ·subst jz;exact nu
 ·exact ⟨u,k b u jz q⟩
end
def FZ (h:Heap) (H:Hp):List SO:=(MV h.objs.size).filter λa=>(H a).isSome
def zO (h:Heap) (H:Hp):Heap:=W.hideAll h (FZ h H)
theorem Nj (h:Heap) (H:Hp):(zO h H).objs.size=h.objs.size:=W.hideAll_size _ _
theorem Pp {h:Heap} {H:Hp} {b:SO} {o:Obj} (e:h.get? b=some o) (n:H b=none):(zO h H).get? b=some o:=
 W.hideAll_get _ e λhm=>by
  have q:(H b).isSome=true:=(MH.mp hm).2;rw [n] at q;simp at q
theorem Zs {h:Heap} {H:Hp} {b:SO} {o:Obj} (e:(zO h H).get? b=some o):h.get? b=some o/\H b=none:=by
 have e':h.get? b=some o:=W.of_hideAll (FZ h H) e;refine ⟨e',?_⟩;cases q:H b with
 | none=>rfl
 | some x=>
  have hm:b∈FZ h H:=MH.mpr ⟨MU.mpr (LL e'),by simp [q]⟩;have z:(zO h H).get? b=none:=W.hideAll_none (FZ h H) hm;rw [z] at e;cases e
structure Mod (K:W.Frag) (mg:Str->Option Value) (base:Heap):Prop where
 kin:K.In base
 glob:base.Ns SY mg
 blt:∃mb,base.Ns builtinsNs mb/\∀x:Str,x≠"__name__"->mb x=TF x
 nolimit:base.NoLimit
structure Cx where
 prog:SS
 w:SW
 K:W.Frag
 mg:Str->Option Value
 base:Heap
 A:Around
 N:List Str
 s₀:Shared
 H₀:Hp
 env:Env
 outer:List Env
 stack:List Env
 ex:List SO
 fn:Str->Bool
 calm:Bool
 pn:List (SO×Obj)
 xe:Value->Shared->Prop
def Lo (l:List Env):List SO:=l.filterMap (·.frame)
abbrev Cx.fs (X:Cx):List SO:=Lo X.outer
def AG (sc:TR) (x:Str):Prop:=sc.names.lookup x=some .local\/sc.names.lookup x=some .cell\/sc.names.lookup x=some .free
def Ef (sc:TR) (x:Str):Prop:=sc.names.lookup x=some .local\/sc.names.lookup x=some .cell
def GS (env:Env) (h:Heap) (m:Str->Option Value) (x:Str) (u:Value):Prop:=
 (env.kindOf x=some .local/\m x=some u)\/((env.kindOf x=some .cell\/env.kindOf x=some .free)/\∃c,env.cells.lookup x=some c/\h.IsCell c (some u))
structure Cx.Ok (X:Cx):Prop where
 mod:Mod X.K X.mg X.base
 kind:X.env.scope.kind = .function
 glob:X.env.globals=SY
 blt:X.env.builtins=builtinsNs
 above:X.s₀.heap.objs.size<=X.env.locals
 inj:∀x y c,X.env.cells.lookup x=some c->X.env.cells.lookup y=some c->x=y
 has:∀x,(X.env.kindOf x=some .cell\/X.env.kindOf x=some .free)->∃c,X.env.cells.lookup x=some c
 cab:∀x c,X.fn x=true->X.env.cells.lookup x=some c->X.s₀.heap.objs.size<=c
 hd:X.calm=true->X.A.handled=none
 frames:X.A.frames=some X.stack
 stk:X.stack=X.outer\/(X.stack=X.env::X.outer/\X.env.frame=some X.env.locals)
 exf:∀b∈X.ex,b≠X.env.locals/\∀x c,X.env.cells.lookup x=some c->c≠b
 bs:∀b o,X.base.get? b=some o->X.s₀.heap.get? b=some o/\X.H₀ b=none
 bsz:X.base.objs.size<=X.s₀.heap.objs.size
 noex:∀b o,X.base.get? b=some o->b∉X.ex
 exfs:∀b∈X.ex,b∉X.fs
 funs:X.s₀.heap.FunFrames X.base X.outer
 frf:∀b∈X.fs,X.H₀ b=none
structure aY (X:Cx) (pins:List (SO×Obj)) (σ:List (Option V)) (H:Hp) (s:Shared):Prop where
 ok:X.Ok
 os:s.os=X.s₀.os
 bare:UU s.gens
 base:Un X.fs X.ex X.H₀ H X.s₀.heap s.heap
 loc:∃m,s.heap.Ns X.env.locals m/\∀(i:Nat) (x:Str) (v:V),X.N[i]? = some x->σ[i]? = some (some v)->AG X.env.scope x->∃u,bH v u/\GS X.env s.heap m x u
 cell:∀x c,X.env.cells.lookup x=some c->∃v,s.heap.IsCell c v
 free:H X.env.locals=none
 freeC:∀x c,X.env.cells.lookup x=some c->H c=none
 pin:∀p∈X.pn++pins,s.heap.get? p.1=some p.2/\H p.1=none/\p.1≠X.env.locals/\p.1∉X.fs/\∀v,p.2.data≠.cell v
 hok:nM X.prog X.w H s.heap
 len:σ.length=X.N.length
section
variable {X:Cx} {pins:List (SO×Obj)} {σ:List (Option V)} {H H':Hp} {s:Shared} {h':Heap}
theorem Cx.Ok.nofr (ok:X.Ok) {b:SO} {o:Obj} (e:X.base.get? b=some o):b∉X.fs:=λhb=>by
 have:=(ok.funs.mem hb).1;rw [e] at this;cases this
theorem aY.bs (I:aY X pins σ H s):∀b o,X.base.get? b=some o->s.heap.get? b=some o/\H b=none:=λb o e=>
 ⟨I.base.keep b o (I.ok.bs b o e).1 (I.ok.bs b o e).2 (I.ok.nofr e) (I.ok.noex b o e),I.base.free b o (I.ok.bs b o e).1 (I.ok.bs b o e).2 (I.ok.noex b o e)⟩
theorem aY.bk (I:aY X pins σ H s):∀b o,X.base.get? b=some o->s.heap.get? b=some o:=λb o e=>(I.bs b o e).1
theorem aY.mod (I:aY X pins σ H s):Mod X.K X.mg X.base:=I.ok.mod
theorem aY.kIn (I:aY X pins σ H s):X.K.In s.heap:=I.ok.mod.kin.keeps I.bk
theorem aY.lt (I:aY X pins σ H s):X.env.locals<s.heap.objs.size:=let ⟨_,hn,_⟩:=I.loc;hn.lt
theorem aY.sz (I:aY X pins σ H s):X.s₀.heap.objs.size<=s.heap.objs.size:=MG I.ok.above (MY I.lt)
theorem aY.nofs (I:aY X pins σ H s) {a:SO} (h:s.heap.objs.size<=a):a∉X.fs:=λhb=>by
 obtain ⟨_,o,ho,_⟩:=I.ok.funs.mem hb;exact absurd (LO (LL ho) (MG I.sz h)) (Nat.lt_irrefl _)
theorem aY.cne (I:aY X pins σ H s):∀x c,X.env.cells.lookup x=some c->c≠X.env.locals:=λx c e z=>by
 obtain ⟨v,o,ho,hd⟩:=I.cell x c e;obtain ⟨m,⟨o',es,ep,YX,fo,_⟩,_⟩:=I.loc;rw [z,YX] at ho;cases ho;rw [fo] at hd;cases hd
theorem aY.funs (I:aY X pins σ H s):s.heap.FunFrames X.base X.outer:=by
 have all:∀(l:List Env),(∀b∈Lo l,b∈X.fs)->X.s₀.heap.FunFrames X.base l->s.heap.FunFrames X.base l:=by
  intro l
  induction l with
  | nil=>intro _ _;trivial
  | cons env r ih=>
   intro hs hl;obtain ⟨hk,⟨L,o,hf,hn,ho,hd⟩,hr⟩:=hl;have hL:L∈X.fs:=hs L (by unfold Lo;rw [QX,hf];exact NR);obtain ⟨sl,e⟩:=I.base.slot L o ho (I.ok.frf L hL) hL λz=>I.ok.exfs L z hL;exact ⟨hk,⟨L,_,hf,hn,e,hd⟩,ih (λb hb=>hs b (by unfold Lo;rw [QX,hf];exact LQ _ hb)) hr⟩
 exact all X.outer (λ_ hb=>hb) I.ok.funs
theorem aY.stack (I:aY X pins σ H s):s.heap.FunFrames X.base X.stack:=by
 rcases I.ok.stk with e | ⟨e,hf⟩
 ·rw [e];exact I.funs
 ·rw [e];obtain ⟨m,hn,_⟩:=I.loc;refine .cons (by rw [I.ok.kind];decide) hf hn ?_ I.funs;exact Heap.get?_none_of_le (MG I.ok.bsz I.ok.above)
theorem aY.stkSub (I:aY X pins σ H s):∀b∈Lo X.stack,b∈X.env.locals::X.fs:=λb hb=>by
 rcases I.ok.stk with e | ⟨e,hf⟩
 ·rw [e] at hb;exact LQ _ hb
 ·rw [e] at hb;unfold Lo at hb;rw [QX,hf] at hb;exact hb
theorem aY.stkFree (I:aY X pins σ H s):∀b∈Lo X.stack,H b=none:=λb hb=>by
 rcases KR.mp (I.stkSub b hb) with e | hb
 ·rw [e];exact I.free
 ·obtain ⟨_,o,ho,_⟩:=I.ok.funs.mem hb;exact I.base.free b o ho (I.ok.frf b hb) λz=>I.ok.exfs b z hb
theorem aY.step {g':Array GenState} {t':Nat} {d':Drawn} {ch:List SO} (I:aY X pins σ H s)
  (dw:∀b∈ch,(b∈X.ex\/X.s₀.heap.objs.size<=b)/\b≠X.env.locals/\(∀x c,X.env.cells.lookup x=some c->c≠b)/\∀p∈X.pn++pins,p.1≠b)
  (keep:∀b o,b≠X.env.locals->b∉X.fs->b∉ch->s.heap.get? b=some o->H b=none->h'.get? b=some o)
  (slot:∀b o,b≠X.env.locals->b∈X.fs->b∉ch->s.heap.get? b=some o->H b=none->∃sl,h'.get? b=some { o with slots:=sl }) (free:∀b o,b∉ch->s.heap.get? b=some o->H b=none->H' b=none)
  (there:∀b o,b∉ch->s.heap.get? b=some o->∃o',h'.get? b=some o')
  (tups:∀b xs,H b=some (.tup xs)->H' b=some (.tup xs)) (frzs:∀b o u,H b=some (.frz o u)->H' b=some (.frz o u)) (tbls:∀b ps,H b=some (.tbl ps)->∃more,H' b=some (.tbl (ps++more)))
  (ns:∀m,s.heap.Ns X.env.locals m->h'.Ns X.env.locals m) (hok:nM X.prog X.w H' h') (hg:UU g') :
  aY X pins σ H' { s with heap:=h',gens:=g',drawn:=d',toks:=t' }:=by
 have neL:∀b o,X.s₀.heap.get? b=some o->b≠X.env.locals:=λb o e=>MC (LO (LL e) I.ok.above);have iy:∀b o,X.s₀.heap.get? b=some o->b∉X.ex->b∉ch:=λb o e hx hb=>by
  rcases (dw b hb).1 with z | z
  ·exact hx z
  ·exact absurd (LO (LL e) z) (Nat.lt_irrefl _)
 have cellK:∀x c,X.env.cells.lookup x=some c->∀v,s.heap.IsCell c v->h'.IsCell c v:=λx c e v ⟨o,ho,hd⟩=>by
  have qf:c∉ch:=λz=>(dw c z).2.2.1 x c e rfl
  by_cases hc:c∈X.fs
  ·obtain ⟨sl,q⟩:=slot c o (I.cne x c e) hc qf ho (I.freeC x c e);exact ⟨_,q,hd⟩
  ·exact ⟨o,keep c o (I.cne x c e) hc qf ho (I.freeC x c e),hd⟩
 refine ⟨I.ok,I.os,hg,⟨λb o e n hb hx=>?_,λb o e n hb hx=>?_,λb o e n hx=>?_,λb o e hx=>?_,λb xs e=>tups b xs (I.base.tups b xs e),λb o xs e=>frzs b o xs (I.base.frzs b o xs e),λb ps e=>?_⟩,?_,λx c e=>?_,?_,λx c e=>?_,λp hp=>?_,hok,I.len⟩
 ·exact keep b o (neL b o e) hb (iy b o e hx) (I.base.keep b o e n hb hx) (I.base.free b o e n hx)
 ·obtain ⟨sl,e1⟩:=I.base.slot b o e n hb hx;obtain ⟨sl',e2⟩:=slot b _ (neL b o e) hb (iy b o e hx) e1 (I.base.free b o e n hx);exact ⟨sl',e2⟩
 ·obtain ⟨o',e1⟩:=I.base.there b o e hx;exact free b o' (iy b o e hx) e1 (I.base.free b o e n hx)
 ·obtain ⟨o',e1⟩:=I.base.there b o e hx;exact there b o' (iy b o e hx) e1
 ·obtain ⟨m1,e1⟩:=I.base.tbls b ps e;obtain ⟨m2,e2⟩:=tbls b _ e1;exact ⟨m1++m2,by rw [e2,Array.append_assoc]⟩
 ·obtain ⟨m,hn,hl⟩:=I.loc;refine ⟨m,ns m hn,λi x v e1 e2 e3=>?_⟩;obtain ⟨u,r,l⟩:=hl i x v e1 e2 e3;refine ⟨u,r,?_⟩;rcases l with l | ⟨k,c,e,z⟩
  ·exact .inl l
  ·exact .inr ⟨k,c,e,cellK x c e _ z⟩
 ·obtain ⟨v,z⟩:=I.cell x c e;exact ⟨v,cellK x c e v z⟩
 ·obtain ⟨m,⟨o,_,_,ho,_⟩,_⟩:=I.loc;exact free _ o (λz=>(dw _ z).2.1 rfl) ho I.free
 ·obtain ⟨v,o,ho,hd⟩:=I.cell x c e;exact free c o (λz=>(dw c z).2.2.1 x c e rfl) ho (I.freeC x c e)
 ·obtain ⟨e,n,ne,nf,d⟩:=I.pin p hp;have qf:p.1∉ch:=λz=>(dw p.1 z).2.2.2 p hp rfl;exact ⟨keep p.1 p.2 ne nf qf e n,free p.1 p.2 qf e n,ne,nf,d⟩
theorem aY.un {t':Nat} (I:aY X pins σ H s) (u:Un X.fs [] H H' s.heap h') (hok:nM X.prog X.w H' h'):aY X pins σ H' { s with heap:=h',toks:=t' }:=by
 obtain ⟨m,⟨o,es,ep,ho,r⟩,_⟩:=id I.loc;obtain ⟨sl,hL⟩:=u.any ho I.free (by simp);exact I.step (g':=s.gens) (d':=s.drawn) (ch:=[]) (λ_ z=>nomatch z) (λb o _ hb _ e n=>u.keep b o e n hb (by simp)) (λb o _ hb _ e n=>u.slot b o e n hb (by simp)) (λb o _ e n=>u.free b o e n (by simp)) (λb o _ e=>u.there b o e (by simp)) u.tups u.frzs u.tbls (λm' hm=>by
  obtain ⟨o',av,wt,YX,r'⟩:=hm;rw [ho] at YX;cases YX;exact ⟨_,av,wt,hL,r'⟩) hok I.bare
theorem aY.call {g':Array GenState} {t':Nat} {d':Drawn} {ch:List SO} (I:aY X pins σ H s) (u:Un (Lo X.stack) ch H H' s.heap h') (hok:nM X.prog X.w H' h') (hg:UU g')
  (dw:∀b∈ch,(b∈X.ex\/X.s₀.heap.objs.size<=b)/\b≠X.env.locals/\(∀x c,X.env.cells.lookup x=some c->c≠b)/\∀p∈X.pn++pins,p.1≠b) :
  aY X pins σ H' { s with heap:=h',gens:=g',drawn:=d',toks:=t' }:=by
 obtain ⟨m,⟨o,es,ep,ho,r⟩,_⟩:=id I.loc;obtain ⟨sl,hL⟩:=u.any ho I.free λz=>(dw _ z).2.1 rfl;exact I.step (ch:=ch) dw (λb o hL hb hc e n=>u.keep b o e n (λz=>(KR.mp (I.stkSub b z)).elim hL hb) hc) (λb o _ _ hc e n=>u.any e n hc) (λb o hc e n=>u.free b o e n hc) (λb o hc e=>u.there b o e hc) u.tups u.frzs u.tbls (λm' hm=>by
  obtain ⟨o',av,wt,YX,r'⟩:=hm;rw [ho] at YX;cases YX;exact ⟨_,av,wt,hL,r'⟩) hok hg
theorem aY.turned {t':Nat} {it:SO} (I:aY X pins σ H s) (k:∀b o,b≠it->s.heap.get? b=some o->h'.get? b=some o) (hn:H it=none) (hL:it≠X.env.locals)
  (h1:it∈X.ex\/X.s₀.heap.objs.size<=it) (h2:∀x c,X.env.cells.lookup x=some c->c≠it) (h3:∀p∈X.pn++pins,p.1≠it):aY X pins σ H { s with heap:=h',toks:=t' }:=by
 have ja:∀b u,H b=some u->b≠it:=λb u e z=>by rw [z,hn] at e;cases e
 refine I.step (g':=s.gens) (d':=s.drawn) (ch:=[it]) (λb hb=>?_) (λb o _ _ hc e _=>k b o (λz=>hc (by simp [z])) e) (λb o _ _ hc e _=>⟨o.slots,k b o (λz=>hc (by simp [z])) e⟩) (λ_ _ _ _ n=>n)
  (λb o hc e=>⟨o,k b o (λz=>hc (by simp [z])) e⟩) (λ_ _ e=>e) (λ_ _ _ e=>e) (λb ps e=>⟨#[],by rw [e];simp⟩) (λm hm=>?_) (λb u e=>?_) I.bare
 ·have e:b=it:=by simpa using hb
  subst e;exact ⟨h1,hL,h2,h3⟩
 ·obtain ⟨o,es,ep,ho,r⟩:=hm;exact ⟨o,es,ep,k _ o (Ne.symm hL) ho,r⟩
 ·refine (I.hok b u e).stay (λc v hc q=>k c v ?_ q) (λ_ q=>q) λ_ _ q=>q;rcases hc with z | z
  ·rw [z];exact ja b u e
  ·exact ja c _ z
theorem aY.tok (I:aY X pins σ H s) (t:Nat):aY X pins σ H { s with toks:=t }:=I.un (h':=s.heap) (t':=t) Un.refl I.hok
theorem aY.kept {t':Nat} (I:aY X pins σ H s) (k:∀b u,s.heap.get? b=some u->h'.get? b=some u):aY X pins σ H { s with heap:=h',toks:=t' }:=I.un (Un.kept k) (I.hok.kept k)
theorem aY.laid {a:SO} {o:HO} {t':Nat} (I:aY X pins σ H s) (k:∀b u,s.heap.get? b=some u->h'.get? b=some u) (hp:s.heap.objs.size<=a) (new:dU X.prog X.w (upd H a o) h' a o) :
  aY X pins σ (upd H a o) { s with heap:=h',toks:=t' }:=I.un (Un.laid k hp (I.hok.fresh hp)) (I.hok.laid k hp new)
theorem aY.write {x e:SO} {o:HO} {t':Nat} (I:aY X pins σ H s) (mu:CY (H x)) (he:e=x\/H e=some (.own x)) (k:∀b u,b≠e->s.heap.get? b=some u->h'.get? b=some u) (nu:∃u,h'.get? e=some u)
  (new:dU X.prog X.w (upd H x o) h' x o):aY X pins σ (upd H x o) { s with heap:=h',toks:=t' }:=I.un (Un.write mu he k nu) (I.hok.write mu he k nu new)
theorem aY.pins_of {jc:List (SO×Obj)} (I:aY X pins σ H s) (h:∀p∈jc,s.heap.get? p.1=some p.2/\H p.1=none/\p.1≠X.env.locals/\p.1∉X.fs/\∀v,p.2.data≠.cell v):aY X jc σ H s:=
 ⟨I.ok,I.os,I.bare,I.base,I.loc,I.cell,I.free,I.freeC,λp hp=>(LP.mp hp).elim (λz=>I.pin p (OP _ z)) (h p),I.hok,I.len⟩
theorem Bk {N:List Str} (hN:N.Nodup) {i j:Nat} {x:Str} (a:N[i]? = some x) (b:N[j]? = some x):i=j:=by
 obtain ⟨h1,e1⟩:=KU.mp a;obtain ⟨h2,e2⟩:=KU.mp b;exact (List.getElem_inj hN).mp (e1.trans e2.symm)
theorem wK {M:Model} {A:Around} {E:Value->Shared->Prop} {i:Nat} {x:Str} {v:V} {u:Value} {Q:Unit->Shared->Prop} (I:aY X pins σ H s) (hN:X.N.Nodup) (hi:X.N[i]? = some x) (hx:Ef X.env.scope x) (r:bH v u)
  (h:∀s',aY X pins (σ.set i (some v)) H s'->(∃a,OR a s.heap s'.heap/\(a=X.env.locals\/X.env.cells.lookup x=some a))->Q () s') (hf:X.fn x=true\/X.env.scope.names.lookup x=some .local:=by first | exact .inl rfl | exact .inr rfl | assumption):SU M A (storeName X.env x u) Q E s:=by
 obtain ⟨m,hn,hl⟩:=id I.loc;have wu:(X.env.scope.kind==.class||(X.env.scope.kind==.module&&X.env.locals != X.env.globals))=false:=by rw [I.ok.kind];rfl
 have hiσ:i<σ.length:=by rw [I.len];exact (KU.mp hi).1
 have cne:=I.cne;have tracked:∀{a:SO} {h':Heap},(∃o,s.heap.get? a=some o/\H a=none)->OR a s.heap h'->nM X.prog X.w H h':=λ{a h'} ha hs b ob e=>by
  obtain ⟨_,_,jd⟩:=ha;refine (I.hok b ob e).stay (λc w' hc q=>(hs.2 c ?_).trans q) (λ_ q=>q) λ_ _ q=>q;rintro rfl;rcases hc with rfl | hc
  ·rw [jd] at e;cases e
  ·rw [jd] at hc;cases hc
 rcases hx with hk | hk
 ·refine wpAny_storeName_local hk hn (λh' fe hs=>?_) wu;obtain ⟨oL,_,_,hoL,_⟩:=id hn;refine h _ ⟨I.ok,I.os,I.bare,⟨λb o e n hb hx=>?_,λb o e n hb hx=>?_,I.base.free,λb o e hx=>?_,I.base.tups,I.base.frzs,I.base.tbls⟩,⟨_,fe,λj y v' e1 e2 e3=>?_⟩,λy c e=>?_,I.free,I.freeC,λp hp=>?_,tracked ⟨oL,hoL,I.free⟩ hs,by simpa using I.len⟩ ⟨_,hs,.inl rfl⟩
  ·exact (hs.2 b (MC (LO (LL e) I.ok.above))).trans (I.base.keep b o e n hb hx)
  ·obtain ⟨sl,e1⟩:=I.base.slot b o e n hb hx;exact ⟨sl,(hs.2 b (MC (LO (LL e) I.ok.above))).trans e1⟩
  ·obtain ⟨o',e1⟩:=I.base.there b o e hx;exact ⟨o',(hs.2 b (MC (LO (LL e) I.ok.above))).trans e1⟩
  ·by_cases hj:j=i
   ·subst hj;rw [hi] at e1;cases e1;rw [MR hiσ] at e2;cases e2;exact ⟨u,r,.inl ⟨hk,by simp⟩⟩
   ·rw [MB (Ne.symm hj)] at e2;obtain ⟨u',r',q⟩:=hl j y v' e1 e2 e3;refine ⟨u',r',?_⟩;rcases q with ⟨k,e⟩ | ⟨k,c,e,z⟩
    ·refine .inl ⟨k,?_⟩;have:y≠x:=λe=>hj (Bk hN e1 (e ▸ hi));simp [this,e]
    ·exact .inr ⟨k,c,e,z.sameBut hs (cne y c e)⟩
  ·obtain ⟨w',z⟩:=I.cell y c e;exact ⟨w',z.sameBut hs (cne y c e)⟩
  ·obtain ⟨e,n,ne,nf,d⟩:=I.pin p hp;exact ⟨(hs.2 p.1 ne).trans e,n,ne,nf,d⟩
 ·have kd:X.fn x=true:=by
   rcases hf with z | z
   ·exact z
   ·rw [z] at hk;cases hk
  obtain ⟨c,hc⟩:=I.ok.has x (.inl hk);obtain ⟨w',z⟩:=I.cell x c hc;refine wpAny_storeName_cell I.ok.kind hk hc z (λh' bh hs=>?_);obtain ⟨oc,hoc,wx⟩:=id z;refine h { s with heap:=h' } ⟨I.ok,I.os,I.bare,⟨λb o e n hb hx=>?_,λb o e n hb hx=>?_,I.base.free,λb o e hx=>?_,I.base.tups,I.base.frzs,I.base.tbls⟩,⟨m,hn.sameBut hs (Ne.symm (cne x c hc)),λj y v' e1 e2 e3=>?_⟩,λy c' e=>?_,I.free,I.freeC,λp hp=>?_,tracked ⟨oc,hoc,I.freeC x c hc⟩ hs,by simpa using I.len⟩ ⟨c,hs,.inr hc⟩
  ·exact (hs.2 b (MC (LO (LL e) (I.ok.cab x c kd hc)))).trans (I.base.keep b o e n hb hx)
  ·obtain ⟨sl,e1⟩:=I.base.slot b o e n hb hx;exact ⟨sl,(hs.2 b (MC (LO (LL e) (I.ok.cab x c kd hc)))).trans e1⟩
  ·obtain ⟨o',e1⟩:=I.base.there b o e hx;exact ⟨o',(hs.2 b (MC (LO (LL e) (I.ok.cab x c kd hc)))).trans e1⟩
  ·by_cases hj:j=i
   ·subst hj;rw [hi] at e1;cases e1;rw [MR hiσ] at e2;cases e2;exact ⟨u,r,.inr ⟨.inl hk,c,hc,bh⟩⟩
   ·rw [MB (Ne.symm hj)] at e2;obtain ⟨u',r',q⟩:=hl j y v' e1 e2 e3;refine ⟨u',r',?_⟩;rcases q with q | ⟨k,c',e,z'⟩
    ·exact .inl q
    ·refine .inr ⟨k,c',e,z'.sameBut hs ?_⟩;rintro rfl;exact hj (Bk hN e1 (I.ok.inj _ _ _ e hc ▸ hi))
  ·by_cases hcc:c'=c
   ·subst hcc;exact ⟨_,bh⟩
   ·obtain ⟨w2,z2⟩:=I.cell y c' e;exact ⟨w2,z2.sameBut hs hcc⟩
  ·obtain ⟨e,n,ne,nf,d⟩:=I.pin p hp;refine ⟨(hs.2 p.1 ?_).trans e,n,ne,nf,d⟩;intro q;rw [q,hoc] at e;have q':oc=p.2:=Option.some.inj e;exact d w' (by rw [<-q'];exact wx)
theorem jB {M:Model} {A:Around} {E:Value->Shared->Prop} {i:Nat} {x:Str} {v:V} {u:Value} {Q:Unit->Shared->Prop} (I:aY X pins σ H s) (hN:X.N.Nodup) (hi:X.N[i]? = some x) (hx:Ef X.env.scope x) (r:bH v u)
  (h:∀s',aY X pins (σ.set i (some v)) H s'->Q () s') (hf:X.fn x=true\/X.env.scope.names.lookup x=some .local:=by first | exact .inl rfl | exact .inr rfl | assumption):SU M A (storeName X.env x u) Q E s:=
 wK I hN hi hx r (λs' I' _=>h s' I') hf
theorem aY.call' {s':Shared} {ch:List SO} (I:aY X pins σ H s) (ho:s'.os=s.os) (u:Un (Lo X.stack) ch H H' s.heap s'.heap) (hok:nM X.prog X.w H' s'.heap) (hg:UU s'.gens)
  (dw:∀b∈ch,(b∈X.ex\/X.s₀.heap.objs.size<=b)/\b≠X.env.locals/\(∀x c,X.env.cells.lookup x=some c->c≠b)/\∀p∈X.pn++pins,p.1≠b):aY X pins σ H' s':=by
 obtain ⟨h',g',d',t',o'⟩:=s';have e:o'=s.os:=ho;subst e;exact I.call (g':=g') (t':=t') (d':=d') u hok hg dw
end
abbrev XK:=Value->Option SO->Hp->Prop
abbrev St:=List (Option V)
abbrev VK:=V->Hp->Prop
abbrev TE:=St->Hp->VK->Prop
abbrev TT:=St->Hp->(Bool->Hp->Prop)->Prop
abbrev TA:=St->Hp->(List V->Hp->Prop)->Prop
structure mF where
 nx:St->Hp->Prop
 rt:VK
 bk:St->Hp->Prop:=λ_ _=>False
 ct:St->Hp->Prop:=λ_ _=>False
abbrev TS:=mF->St->Hp->Prop
def EP (X:Cx) (pins:List (SO×Obj)) (σ:St) (Q:VK) (u:Value) (s':Shared):Prop:=∃v H',aY X pins σ H' s'/\bH v u/\Q v H'
def TP (X:Cx) (pins:List (SO×Obj)) (σ:St) (Q:Bool->Hp->Prop) (b:Bool) (s':Shared):Prop:=∃H',aY X pins σ H' s'/\Q b H'
def AP (X:Cx) (pins:List (SO×Obj)) (σ:St) (Q:List V->Hp->Prop) (us:List Value) (s':Shared):Prop:=∃vs H',aY X pins σ H' s'/\bE vs us/\Q vs H'
def SP (X:Cx) (pins:List (SO×Obj)) (D:mF) (f:Flow) (s':Shared):Prop:=
 match f with
 | .next=>∃σ' H',aY X pins σ' H' s'/\D.nx σ' H'
 | .brk=>∃σ' H',aY X pins σ' H' s'/\D.bk σ' H'
 | .cont=>∃σ' H',aY X pins σ' H' s'/\D.ct σ' H'
 | .ret u=>∃v σ' H',aY X pins σ' H' s'/\bH v u/\D.rt v H'
def PE (X:Cx) (e:Expr) (t:TE):Prop:=
 ∀(pins:List (SO×Obj)) (s:Shared) (σ:St) (H:Hp) (Q:VK),aY X pins σ H s->t σ H Q->SU (TC X.prog X.w) X.A (TL e X.env) (EP X pins σ Q) X.xe s
def PT (X:Cx) (e:Expr) (t:TT):Prop:=
 ∀(pins:List (SO×Obj)) (s:Shared) (σ:St) (H:Hp) (Q:Bool->Hp->Prop),aY X pins σ H s->t σ H Q->SU (TC X.prog X.w) X.A (isTrue e X.env (TL e X.env)) (TP X pins σ Q) X.xe s
def PW (X:Cx) (e:Expr) (t:TT):Prop:=
 ∀(whole:Sem Value) (pins:List (SO×Obj)) (s:Shared) (σ:St) (H:Hp) (Q:Bool->Hp->Prop),aY X pins σ H s->t σ H Q->SU (TC X.prog X.w) X.A (isTrue e X.env whole) (TP X pins σ Q) X.xe s
theorem PW.pt {X:Cx} {e:Expr} {t:TT} (h:PW X e t):PT X e t:=h _
def PA (X:Cx) (es:List Expr) (t:TA):Prop:=
 ∀(pos:Pos) (pins:List (SO×Obj)) (s:Shared) (σ:St) (H:Hp) (Q:List V->Hp->Prop),aY X pins σ H s->t σ H Q->SU (TC X.prog X.w) X.A (spliced (UI pos (TJ es X.env))) (AP X pins σ Q) X.xe s
def PS (X:Cx) (st:TB) (t:TS):Prop:=
 ∀(pins:List (SO×Obj)) (s:Shared) (σ:St) (H:Hp) (D:mF),aY X pins σ H s->t D σ H->SU (TC X.prog X.w) X.A (exec st X.env) (SP X pins D) X.xe s
def Ki (X:Cx) (st:List TB) (t:TS):Prop:=
 ∀(pins:List (SO×Obj)) (s:Shared) (σ:St) (H:Hp) (D:mF),aY X pins σ H s->t D σ H->SU (TC X.prog X.w) X.A (execs st X.env) (SP X pins D) X.xe s
theorem dM {α:Type} {t:Sem α} {Q Q':α->Shared->Prop} {M:Model} {A:Around} {E:Value->Shared->Prop} {s:Shared} (h:SU M A t Q E s) (hQ:∀a s,Q a s->Q' a s):SU M A t Q' E s:=UJ h hQ λ_ _ x=>x
section
variable {X:Cx}
def BJ (i:Nat):TE:=λσ H Q=>∃v,σ[i]? = some (some v)/\Q v H
def tC (v:V):TE:=λ_ H Q=>Q v H
theorem Uq {i:Nat} {x:Str} {pos:Pos} (hN:X.N[i]? = some x) (hv:AG X.env.scope x) (hd:(x==("__debug__":Str))=false:=by decide) (ZH:(x==("__classdict__":Str))=false:=by decide):PE X (.Name x pos) (BJ i):=by
 intro pins s σ H Q I h;obtain ⟨v,e,h⟩:=h;obtain ⟨m,hn,hl⟩:=I.loc;obtain ⟨u,r,l⟩:=hl i x v hN e hv;have fin:EP X pins σ Q u s:=⟨v,H,I,r,h⟩;rcases l with ⟨hk,hm⟩ | ⟨hk,c,hc,af⟩
 ·exact wpAny_Name (wpAny_loadName_local I.ok.kind hk hn hm fin) hd
 ·rcases hk with hk | hk
  ·exact wpAny_Name (wpAny_loadName_cell I.ok.kind hk hc af fin) hd
  ·exact wpAny_Name (wpAny_loadName_free I.ok.kind hk hc af fin ZH) hd
theorem Y8 {i j pos}:PE X (.Constant (.int i) j pos) (tC (.int i)):=λ_ _ _ H _ I h=>wpAny_Constant_int ⟨.int i,H,I.tok _,⟨_,rfl⟩,h⟩
theorem BK {b j pos}:PE X (.Constant (.bool b) j pos) (tC (.bl b)):=λ_ _ _ H _ I h=>Constant_bool ⟨.bl b,H,I,rfl,h⟩
theorem R8 {j pos}:PE X (.Constant .none j pos) (tC .non):=λ_ _ _ H _ I h=>Constant_none ⟨.non,H,I,rfl,h⟩
theorem S7 {x j pos}:PE X (.Constant (.str x) j pos) (tC (.str x)):=λ_ _ _ H _ I h=>Calls.Constant_str ⟨.str x,H,I.tok _,⟨_,rfl⟩,h⟩
def Gl (X:Cx) (x:Str):Prop:=X.env.kindOf x=some .globalImplicit
theorem Ku {E:Value->Shared->Prop} {pins:List (SO×Obj)} {s:Shared} {σ:St} {H:Hp} {x:Str} {u:Value} {pos:Pos} {Q:Value->Shared->Prop} (I:aY X pins σ H s) (hg:Gl X x) (hm:X.mg x=some u) (h:Q u s)
  (hd:(x==("__debug__":Str))=false:=by decide):SU (TC X.prog X.w) X.A (TL (.Name x pos) X.env) Q E s:=
 Calls.Name_function_global I.ok.kind hg (Calls.loadGlobal_global (by rw [I.ok.glob];exact I.mod.glob.keeps I.bk) hm h) hd
theorem lW {E:Value->Shared->Prop} {pins:List (SO×Obj)} {s:Shared} {σ:St} {H:Hp} {x:Str} {u:Value} {pos:Pos} {Q:Value->Shared->Prop} (I:aY X pins σ H s) (hg:Gl X x) (hm:X.mg x=none) (hv:TF x=some u) (h:Q u s)
  (hn:x≠"__name__":=by decide) (hd:(x==("__debug__":Str))=false:=by decide):SU (TC X.prog X.w) X.A (TL (.Name x pos) X.env) Q E s:=by
 obtain ⟨mb,h1,h2⟩:=I.mod.blt;exact Calls.Name_function_global I.ok.kind hg (Calls.loadGlobal_builtin (by rw [I.ok.glob];exact I.mod.glob.keeps I.bk) hm (by rw [I.ok.blt];exact h1.keeps I.bk) ((h2 x hn).trans hv) h) hd
theorem Lw {x:Str} {v:V} {u:Value} {pos:Pos} (hg:Gl X x) (hm:X.mg x=some u) (r:bH v u) (hd:(x==("__debug__":Str))=false:=by decide):PE X (.Name x pos) (tC v):=
 λ_ _ _ H _ I h=>Ku I hg hm ⟨v,H,I,r,h⟩ hd
theorem yI {x:Str} {v:V} {u:Value} {pos:Pos} (hg:Gl X x) (hm:X.mg x=none) (hv:TF x=some u) (r:bH v u) (hn:x≠"__name__":=by decide) (hd:(x==("__debug__":Str))=false:=by decide):PE X (.Name x pos) (tC v):=
 λ_ _ _ H _ I h=>lW I hg hm hv ⟨v,H,I,r,h⟩ hn hd
variable {a b:Expr} {ta tb:TE} {pos:Pos}
def tB (t:TE):TT:=λσ H Q=>t σ H λx H1=>∃c,x = .bl c/\Q c H1
theorem X1 {e:Expr} {t:TE} (h:PE X e t) (he:∀whole,isTrue e X.env whole=(do let v <-whole;standAt e.pos;UL [v] (truthy v)):=by intro _;rfl):PT X e (tB t):=by
 intro pins s σ H Q I hw;refine isTrue_plain (dM (h pins s σ H _ I hw) λv s1 ⟨x,H1,I1,r1,q1⟩=>?_) (he _);obtain ⟨d,rfl,q⟩:=q1;cases r1;exact TY ⟨H1,I1,q⟩
variable {tA fq:TT} {rest:List Expr}
def DL (t u:TT):TT:=λσ H Q=>t σ H λc H1=>if c=true then u σ H1 Q else Q false H1
def JA (t u:TT):TT:=λσ H Q=>t σ H λc H1=>if c=true then Q true H1 else u σ H1 Q
def AU (t:TT):TT:=λσ H Q=>t σ H λc H1=>Q (!c) H1
theorem Xz (ha:PT X a tA):PW X (.BoolOp .And [a] pos) tA:=by
 intro wh pins s σ H Q I h;refine isTrue_and (dM (ha pins s σ H Q I h) λc s1 e=>?_);cases c with
 | true=>exact isTrue_and_nil e
 | false=>exact e
theorem O9 (ha:PT X a tA):PW X (.BoolOp .Or [a] pos) tA:=by
 intro wh pins s σ H Q I h;refine isTrue_or (dM (ha pins s σ H Q I h) λc s1 e=>?_);cases c with
 | false=>exact isTrue_or_nil e
 | true=>exact e
theorem S4 (ha:PT X a tA) (hb:PW X (.BoolOp .And (b::rest) pos) fq):PW X (.BoolOp .And (a::b::rest) pos) (DL tA fq):=by
 intro wh pins s σ H Q I h;refine isTrue_and (dM (ha pins s σ H _ I h) λc s1 ⟨H1,I1,q1⟩=>?_);cases c with
 | true=>exact hb wh pins s1 σ H1 Q I1 q1
 | false=>exact ⟨H1,I1,q1⟩
theorem BU (ha:PT X a tA) (hb:PW X (.BoolOp .Or (b::rest) pos) fq):PW X (.BoolOp .Or (a::b::rest) pos) (JA tA fq):=by
 intro wh pins s σ H Q I h;refine isTrue_or (dM (ha pins s σ H _ I h) λc s1 ⟨H1,I1,q1⟩=>?_);cases c with
 | true=>exact ⟨H1,I1,q1⟩
 | false=>exact hb wh pins s1 σ H1 Q I1 q1
theorem AA (ha:PT X a tA):PT X (.UnaryOp .Not a pos) (AU tA):=by
 intro pins s σ H Q I h;exact isTrue_not (ha pins s σ H (λc H1=>Q (!c) H1) I h)
def D8 (ta tb:TE):TE:=λσ H Q=>ta σ H λx H1=>∃c,x = .bl c/\if c=true then tb σ H1 Q else Q (.bl false) H1
def BD (ta tb:TE):TE:=λσ H Q=>ta σ H λx H1=>∃c,x = .bl c/\if c=true then Q (.bl true) H1 else tb σ H1 Q
def F8 (ta:TE):TE:=λσ H Q=>ta σ H λx H1=>∃c,x = .bl c/\Q (.bl (!c)) H1
theorem Y0 {op} {t:TE} (h:PE X a t):PE X (.BoolOp op [a] pos) t:=λpins s σ H Q I hw=>BoolOp_one (h pins s σ H Q I hw)
theorem X7 (ha:PE X a ta) (hb:PE X (.BoolOp .And (b::rest) pos) tb):PE X (.BoolOp .And (a::b::rest) pos) (D8 ta tb):=by
 intro pins s σ H Q I h;refine BoolOp_and (dM (ha pins s σ H _ I h) λv s1 ⟨x,H1,I1,r1,q1⟩=>?_);obtain ⟨c,rfl,q1⟩:=q1;cases r1;refine TY ?_;cases c with
 | true=>exact hb pins s1 σ H1 Q I1 q1
 | false=>exact ⟨.bl false,H1,I1,rfl,q1⟩
theorem CI (ha:PE X a ta) (hb:PE X (.BoolOp .Or (b::rest) pos) tb):PE X (.BoolOp .Or (a::b::rest) pos) (BD ta tb):=by
 intro pins s σ H Q I h;refine BoolOp_or (dM (ha pins s σ H _ I h) λv s1 ⟨x,H1,I1,r1,q1⟩=>?_);obtain ⟨c,rfl,q1⟩:=q1;cases r1;refine TY ?_;cases c with
 | false=>exact hb pins s1 σ H1 Q I1 q1
 | true=>exact ⟨.bl true,H1,I1,rfl,q1⟩
theorem S8 (ha:PE X a ta):PE X (.UnaryOp .Not a pos) (F8 ta):=by
 intro pins s σ H Q I h;refine UnaryOp_ (dM (ha pins s σ H _ I h) λv s1 ⟨x,H1,I1,r1,q1⟩=>?_);obtain ⟨c,rfl,q1⟩:=q1;cases r1;exact not_of (TY ⟨.bl (!c),H1,I1,rfl,q1⟩)
def JC (t:TT) (ta tb:TE):TE:=λσ H Q=>t σ H λc H1=>if c=true then ta σ H1 Q else tb σ H1 Q
theorem Qt {c:Expr} (hc:PT X c tA) (ha:PE X a ta) (hb:PE X b tb):PE X (.IfExp c a b pos) (JC tA ta tb):=by
 intro pins s σ H Q I h;refine wpAny_IfExp (dM (hc pins s σ H _ I h) λd s1 ⟨H1,I1,q1⟩=>?_);cases d with
 | true=>exact ha pins s1 σ H1 Q I1 q1
 | false=>exact hb pins s1 σ H1 Q I1 q1
end
def j4 (K:W.Frag) (H:Hp) (a:SO) (xs:List V):Prop:=
 Rd H a (.lst xs)\/
  ∃(o:Obj) (VI:Array Value) (n:Nat),K.lookup a=some o/\o.cls = .type "list"/\o.dict=none/\o.data = .seq VI n/\VI.size<=SX/\bE xs VI.toList
def rX (K:W.Frag) (H:Hp) (a:SO) (xs:List V):Prop:=
 Rd H a (.tup xs)\/
  ∃(o:Obj) (VI:Array Value) (n:Nat),K.lookup a=some o/\o.cls = .type "tuple"/\o.data = .seq VI n/\VI.size<=SX/\bE xs VI.toList
def HU:Value->Option V
 | .none=>some .non
 | .bool b=>some (.bl b)
 | .int i _=>some (.int i)
 | .str x _=>some (.str x)
 | .bytes b _=>some (.byt b)
 | .float b _=>some (.flt b)
 | .ref a=>some (.ref a)
 | .type n=>some (.ty n)
 | _=>none
theorem bH.abs {x:V} {u:Value} (r:bH x u):HU u=some x:=by
 cases x with
 | non=>cases r;rfl
 | bl _=>cases r;rfl
 | int _=>obtain ⟨t,rfl⟩:=r;rfl
 | str _=>obtain ⟨t,rfl⟩:=r;rfl
 | byt _=>obtain ⟨t,rfl⟩:=r;rfl
 | flt _=>obtain ⟨t,rfl⟩:=r;rfl
 | ref _=>cases r;rfl
 | ty _=>cases r;rfl
theorem bH.inj {x y:V} {u:Value} (r:bH x u) (q:bH y u):x=y:=Option.some.inj (r.abs.symm.trans q.abs)
theorem bE.inj:∀{xs ys:List V} {us:List Value},bE xs us->bE ys us->xs=ys
 | _,_,_,.nil,.nil=>rfl
 | _,_,_,.cons r t,.cons r' t'=>by rw [r.inj r',bE.inj t t']
section
variable {X:Cx} {pins:List (SO×Obj)} {σ:St} {H:Hp} {s:Shared} {a:SO} {xs ys:List V}
theorem j4.of {K:W.Frag} (h:H a=some (.lst xs)):j4 K H a xs:=.inl (.inl h)
theorem aY.list (I:aY X pins σ H s) (h:j4 X.K H a xs):∃VI:List Value,bE xs VI/\PlainL s.heap a VI.toArray/\xs.length<=SX:=by
 rcases h with h | ⟨o,VI,n,hk,hc,hd,hs,hz,r⟩
 ·obtain ⟨z,VI,n,r,e⟩:=h.ok I.hok;exact ⟨VI,r,⟨_,n,e,rfl,rfl,rfl⟩,z⟩
 ·refine ⟨VI.toList,r,⟨o,n,I.kIn a o hk,hc,hd,by simpa using hs⟩,?_⟩;have e:=r.length;simp only [OW] at e;omega
theorem aY.tuple (I:aY X pins σ H s) (h:rX X.K H a xs):∃VI:List Value,bE xs VI/\IsTup s.heap a VI.toArray/\xs.length<=SX:=by
 rcases h with h | ⟨o,VI,n,hk,hc,hs,hz,r⟩
 ·obtain ⟨z,VI,r,p⟩:=h.ok I.hok;exact ⟨VI,r,p,z⟩
 ·refine ⟨VI.toList,r,⟨o,I.kIn a o hk,hc,n,by simpa using hs⟩,?_⟩;have e:=r.length;simp only [OW] at e;omega
theorem aY.list_inj (I:aY X pins σ H s) (h:j4 X.K H a xs) (h':j4 X.K H a ys):xs=ys:=by
 obtain ⟨VI,r,⟨o,n,e,_,_,d⟩,_⟩:=I.list h;obtain ⟨its',r',⟨o',n',e',_,_,d'⟩,_⟩:=I.list h';rw [e] at e';cases e';rw [d] at d';injection d' with d1 _;have:VI=its':=by simpa using congrArg SN d1
 subst this;exact r.inj r'
theorem aY.tuple_inj (I:aY X pins σ H s) (h:rX X.K H a xs) (h':rX X.K H a ys):xs=ys:=by
 obtain ⟨VI,r,⟨o,e,_,n,d⟩,_⟩:=I.tuple h;obtain ⟨its',r',⟨o',e',_,n',d'⟩,_⟩:=I.tuple h';rw [e] at e';cases e';rw [d] at d';injection d' with d1 _;have:VI=its':=by simpa using congrArg SN d1
 subst this;exact r.inj r'
end
abbrev Cx.wish (X:Cx) (E:Value->Shared->Prop):Cx:={ X with xe:=E }
abbrev Cx.nox (X:Cx):Cx:=X.wish λ_ _=>False
theorem Cx.Ok.wish {X:Cx} (ok:X.Ok) (E:Value->Shared->Prop):(X.wish E).Ok:=
 ⟨ok.mod,ok.kind,ok.glob,ok.blt,ok.above,ok.inj,ok.has,ok.cab,ok.hd,ok.frames,ok.stk,ok.exf,ok.bs,ok.bsz,ok.noex,ok.exfs,ok.funs,ok.frf⟩
theorem Cx.Ok.unwish {X:Cx} {E:Value->Shared->Prop} (ok:(X.wish E).Ok):X.Ok:=
 ⟨ok.mod,ok.kind,ok.glob,ok.blt,ok.above,ok.inj,ok.has,ok.cab,ok.hd,ok.frames,ok.stk,ok.exf,ok.bs,ok.bsz,ok.noex,ok.exfs,ok.funs,ok.frf⟩
section
variable {X:Cx} {pins:List (SO×Obj)} {σ:St} {H:Hp} {s:Shared} {E:Value->Shared->Prop}
theorem aY.wish (I:aY X pins σ H s) (E:Value->Shared->Prop):aY (X.wish E) pins σ H s:=⟨I.ok.wish E,I.os,I.bare,I.base,I.loc,I.cell,I.free,I.freeC,I.pin,I.hok,I.len⟩
theorem aY.unwish (I:aY (X.wish E) pins σ H s):aY X pins σ H s:=⟨I.ok.unwish,I.os,I.bare,I.base,I.loc,I.cell,I.free,I.freeC,I.pin,I.hok,I.len⟩
theorem SP.unwish {D:mF} {f:Flow} {s':Shared} (h:SP (X.wish E) pins D f s'):SP X pins D f s':=by
 cases f with
 | next=>obtain ⟨σ',H',I,q⟩:=h;exact ⟨σ',H',I.unwish,q⟩
 | brk=>obtain ⟨σ',H',I,q⟩:=h;exact ⟨σ',H',I.unwish,q⟩
 | cont=>obtain ⟨σ',H',I,q⟩:=h;exact ⟨σ',H',I.unwish,q⟩
 | ret u=>obtain ⟨v,σ',H',I,r,q⟩:=h;exact ⟨v,σ',H',I.unwish,r,q⟩
theorem Ki.nox {st:List TB} {t:TS} (h:Ki X.nox st t):Ki X st t:=λpins s σ H D I hw=>
 UJ (h pins s σ H D (I.wish _) hw) (λ_ _ q=>q.unwish) λ_ _ z=>False.elim z
end
section
variable {X:Cx} {st:TB} {rest:List TB} {t u:TS} {e:Expr} {te:TE} {pos:Pos}
def L6:TS:=λD σ H=>D.nx σ H
def FK (t u:TS):TS:=λD σ H=>t { D with nx:=u D } σ H
theorem Yb:Ki X [] L6:=λ_ _ σ H _ I h=>VC ⟨σ,H,I,h⟩
theorem Th (h1:PS X st t) (h2:Ki X rest u):Ki X (st::rest) (FK t u):=by
 intro pins s σ H D I h;refine wpAny_execs_cons (dM (h1 pins s σ H { D with nx:=u D } I h) λf s1 q=>?_);cases f with
 | next=>
  obtain ⟨σ',H',I',q⟩:=q;exact h2 pins s1 σ' H' D I' q
 | ret v=>exact q
 | brk=>exact q
 | cont=>exact q
theorem Wi (h1:PS X st t):Ki X [st] t:=by
 intro pins s σ H D I h;refine wpAny_execs_cons (dM (h1 pins s σ H D I h) λf s1 q=>?_);cases f with
 | next=>exact VC q
 | ret v=>exact q
 | brk=>exact q
 | cont=>exact q
def J9:TS:=λD σ H=>D.ct σ H
theorem Bm:PS X (.Continue pos) J9:=λ_ _ σ H _ I h=>wpAny_Continue ⟨σ,H,I,h⟩
theorem aY.quiet {pins:List (SO×Obj)} {σ:St} {H:Hp} {s:Shared} (I:aY X pins σ H s):interactive X.env=false:=by simp [interactive,I.ok.kind]
def G8 (te:TE):TS:=λD σ H=>te σ H λ_ H1=>D.nx σ H1
theorem Zj (he:PE X e te) (hs:TZ e none pos.line X.env=pure false:=by rfl):PS X (.Expr e pos) (G8 te):=by
 intro pins s σ H D I h;exact wpAny_Expr_any (dM (he pins s σ H _ I h) λv s1 ⟨x,H1,I1,r1,q1⟩=>⟨σ,H1,I1,q1⟩) I.quiet hs
def BE (te:TE):TS:=λD σ H=>te σ H D.rt
theorem Y6 (he:PE X e te):PS X (.Return (some e) pos) (BE te):=by
 intro pins s σ H D I h;exact wpAny_Return_some (dM (he pins s σ H _ I h) λv s1 ⟨x,H1,I1,r1,q1⟩=>⟨x,σ,H1,I1,r1,q1⟩)
def CL (c:TT) (t u:TS):TS:=λD σ H=>c σ H λb H1=>if b=true then t D σ H1 else u D σ H1
theorem AR {c:Expr} {a b:List TB} {tc:TT} (hc:PT X c tc) (ha:Ki X a t) (hb:Ki X b u):PS X (.If c a b pos) (CL tc t u):=by
 intro pins s σ H D I h;refine wpAny_If (dM (hc pins s σ H _ I h) λd s1 ⟨H1,I1,q1⟩=>?_);cases d with
 | true=>exact ha pins s1 σ H1 D I1 q1
 | false=>exact hb pins s1 σ H1 D I1 q1
end
abbrev TG:=V->St->Hp->(St->Hp->Prop)->Prop
abbrev Pl:=List V->St->Hp->(St->Hp->Prop)->Prop
def PG (X:Cx) (target:Expr) (t:TG):Prop:=
 ∀(pins:List (SO×Obj)) (s:Shared) (σ:St) (H:Hp) (v:V) (u:Value) (Q:St->Hp->Prop),aY X pins σ H s->bH v u->t v σ H Q->
  SU (TC X.prog X.w) X.A (UP target X.env u) (λ_ s'=>∃σ' H',aY X pins σ' H' s'/\Q σ' H') X.xe s
def CW (X:Cx) (ts:List Expr) (t:Pl):Prop:=
 ∀(pins:List (SO×Obj)) (s:Shared) (σ:St) (H:Hp) (vs:List V) (us:List Value) (Q:St->Hp->Prop),aY X pins σ H s->bE vs us->t vs σ H Q->
  SU (TC X.prog X.w) X.A (VA ((TM ts X.env).map (·.2)) us) (λ_ s'=>∃σ' H',aY X pins σ' H' s'/\Q σ' H') X.xe s
abbrev Wl:=V->V->V->Hp->(Hp->Prop)->Prop
def V0 (X:Cx) (t:Wl):Prop:=
 ∀(pins:List (SO×Obj)) (s:Shared) (σ:St) (H:Hp) (o i v:V) (ov iv u:Value) (Q:Hp->Prop),aY X pins σ H s->bH o ov->bH i iv->bH v u->t o i v H Q->
  SU (TC X.prog X.w) X.A (setItem ov iv u) (λ_ s'=>∃H',aY X pins σ H' s'/\Q H') X.xe s
section
variable {X:Cx} {pos:Pos}
def tO (i:Nat):TG:=λv σ H Q=>Q (σ.set i (some v)) H
theorem Zc {i:Nat} {x:Str} (hN:X.N.Nodup) (hi:X.N[i]? = some x) (hx:Ef X.env.scope x) (hf:X.fn x=true\/X.env.scope.names.lookup x=some .local:=by first | exact .inl rfl | exact .inr rfl | assumption):PG X (.Name x pos) (tO i):=by
 intro pins s σ H v u Q I r h;exact wpAny_assign_Name (jB I hN hi hx r (λs' I'=>⟨_,H,I',h⟩) hf)
def CN:Pl:=λvs σ H Q=>vs=[]/\Q σ H
def J6 (t:TG) (u:Pl):Pl:=λvs σ H Q=>∃v r,vs=v::r/\t v σ H λσ' H'=>u r σ' H' Q
theorem B9:CW X [] CN:=by
 intro pins s σ H vs us Q I r h;obtain ⟨e,h⟩:=h;subst e;cases r;exact VF ⟨σ,H,I,h⟩
theorem Tq {e:Expr} {es:List Expr} {t:TG} {u:Pl} (h1:PG X e t) (h2:CW X es u)
  (hs:(TM (e::es) X.env).map (·.2)=UP e X.env::(TM es X.env).map (·.2):=by rfl):CW X (e::es) (J6 t u):=by
 intro pins s σ H vs us Q I r h;obtain ⟨v,vr,e1,h⟩:=h;subst e1;cases r with
 | cons r rr=>
  rw [hs];refine UD (dM (h1 pins s σ H _ _ _ I r h) λ_ s1 ⟨σ1,H1,I1,q1⟩=>?_);exact h2 pins s1 σ1 H1 _ _ Q I1 rr q1
def FH (K:W.Frag) (n:Nat) (t:Pl):TG:=λv σ H Q=>∃a xs,v = .ref a/\rX K H a xs/\xs.length=n/\t xs σ H Q
theorem T3 {es:List Expr} {k:Nat} {t:Pl} {n:Nat} (hc:X.calm=true) (h:CW X es t)
  (hn:(TM es X.env).length=n:=by rfl) (ft:(TM es X.env).findIdx? (·.1)=none:=by rfl):PG X (.Tuple es k pos) (FH X.K n t):=by
 intro pins s σ H v u Q I r hw;obtain ⟨a,xs,e1,hq,hl,hw⟩:=hw;subst e1;cases r;obtain ⟨VI,rv,ht,hz⟩:=I.tuple hq;refine assign_Tuple_tuple (I.ok.hd hc) ht (by simp [hn,<-hl,rv.length]) ft λh' hx=>?_;have I1:aY X pins σ H { s with heap:=h' }:=I.kept (t':=s.toks) λb o e=>hx b o (MC (LL e)) e;exact h pins _ σ H xs _ Q I1 (by simpa using rv) hw
def DQ (to ti:TE) (t:Wl):TG:=λv σ H Q=>to σ H λo H1=>ti σ H1 λi H2=>t o i v H2 λH3=>Q σ H3
theorem N4 {o i:Expr} {to ti:TE} {t:Wl} (ho:PE X o to) (hi:PE X i ti) (hs:V0 X t)
  (ha:∀v,UP (.Subscript o i pos) X.env v=(do
   let ov <-UL [v] (TL o X.env)
   let iv <-UL [v,ov] (TL i X.env)
   standAt pos
   UL [v,ov,iv] (setItem ov iv v)
   release [v,ov,iv] []):=by intro _;rfl):PG X (.Subscript o i pos) (DQ to ti t):=by
 intro pins s σ H v u Q I r h;rw [ha];refine SQ (UQ (dM (ho pins s σ H _ I h) λov s1 ⟨x,H1,I1,r1,q1⟩=>?_));refine SQ (UQ (dM (hi pins s1 σ H1 _ I1 q1) λiv s2 ⟨y,H2,I2,r2,q2⟩=>?_));refine SQ (VB (SQ (UQ (dM (hs pins s2 σ H2 x y v ov iv u _ I2 r1 r2 r q2) λ_ s3 ⟨H3,I3,q3⟩=>?_))));exact wpAny_release ⟨σ,H3,I3,q3⟩
def Fl (te:TE) (g:TG):TS:=λD σ H=>te σ H λx H1=>g x σ H1 D.nx
theorem U2 {tg e:Expr} {te:TE} {g:TG} (he:PE X e te) (hg:PG X tg g) (hs:UB [tg] e pos.line X.env=pure false:=by rfl) (hw:UC [tg] e X.env=pure none:=by rfl)
  (h1:(TM [tg] X.env).map (·.2)=[UP tg X.env]:=by rfl):PS X (.Assign [tg] e pos) (Fl te g):=by
 intro pins s σ H D I h;refine wpAny_Assign_stores (dM (he pins s σ H _ I h) λv s1 ⟨x,H1,I1,r1,q1⟩=>?_) hs hw;rw [h1];exact dM (hg pins s1 σ H1 x v _ I1 r1 q1) λ_ s2 q=>q
theorem AB {i:Nat} {x:Str} {e:Expr} {te:TE} {pos':Pos} (hN:X.N.Nodup) (hi:X.N[i]? = some x) (hx:Ef X.env.scope x) (he:PE X e te) (hs:TZ e (some (.Name x pos')) pos.line X.env=pure false:=by rfl) (hf:X.fn x=true\/X.env.scope.names.lookup x=some .local:=by first | exact .inl rfl | exact .inr rfl | assumption) :
  PS X (.Assign [.Name x pos'] e pos) (Fl te (tO i)):=by
 intro pins s σ H D I h;refine wpAny_Assign_Name (dM (he pins s σ H _ I h) λv s1 ⟨y,H1,I1,r1,q1⟩=>?_) hs;exact jB I1 hN hi hx r1 (λs2 I2=>⟨_,H1,I2,q1⟩) hf
def BC (i j:Nat) (ta:TA):TS:=λD σ H=>ta σ H λvs H1=>∃v w,vs=[v,w]/\D.nx ((σ.set i (some v)).set j (some w)) H1
theorem N8 {i j:Nat} {x y:Str} {a b:Expr} {ta:TA} {px py pt:Pos} {kt k2 pt2} (hc:X.calm=true) (hN:X.N.Nodup) (hi:X.N[i]? = some x) (hj:X.N[j]? = some y) (bj:i≠j)
  (hx:X.env.scope.names.lookup x=some .local) (hy:X.env.scope.names.lookup y=some .local) (ha:PA X [a,b] ta)
  (hw:UC [.Tuple [.Name x px,.Name y py] kt pt] (.Tuple [a,b] k2 pt2) X.env=pure (some [x,y]))
  (hs:UB [.Tuple [.Name x px,.Name y py] kt pt] (.Tuple [a,b] k2 pt2) pos.line X.env=pure false:=by rfl) :
  PS X (.Assign [.Tuple [.Name x px,.Name y py] kt pt] (.Tuple [a,b] k2 pt2) pos) (BC i j ta):=by
 intro pins s σ H D I h;rw [exec_Assign_arm];refine SQ (VB ?_);rw [hs];refine SQ (SV ?_);rw [if_neg (by decide)];refine SQ (Tuple_ (dM (ha _ pins s σ H _ I h) λus s1 ⟨vs,H1,I1,r1,q1⟩=>?_));obtain ⟨v,w,e1,q1⟩:=q1;subst e1;obtain ⟨u1,u2,rfl,rv,br⟩:∃u1 u2,us=[u1,u2]/\bH v u1/\bH w u2:=by
  cases r1 with
  | cons p q=>
   cases q with
   | cons p' q'=>
    cases q';exact ⟨_,_,rfl,p,p'⟩
 refine TU ?_ (by show 2<=SX;decide);have I2:aY X pins σ H1 { s1 with heap:=s1.heap.push { cls:=.type "tuple",data:=.seq [u1,u2].toArray } }:=I1.kept (t':=s1.toks) λb o e=>LG _ e;rw [hw];refine SQ (SV ?_);show SU (TC X.prog X.w) X.A (do rule "assign.swapped-stores";let items <-unpackItems (.ref s1.heap.objs.size) 2 none;VA [λv=>UM X.env y v,λv=>UM X.env x v] items.reverse;pure Flow.next) _ _ _;refine SQ (UN (SQ (unpackItems_tuple (items:=#[u1,u2]) (I.ok.hd hc) (IsTup.new s1.heap _) λh' nv=>?_)));have I3:=I2.kept (h':=h') (t':=s1.toks) λb o e=>nv b o (MC (LL e)) e;show SU _ _ (VA [λv=>UM X.env y v,λv=>UM X.env x v] [u2,u1] >>= λ_=>pure Flow.next) _ _ _;refine SQ (UD (UW (jB I3 hN hj (.inl hy) br (λs2 I4=>?_) (.inr hy))));refine UD (UW (jB I4 hN hi (.inl hx) rv (λs3 I5=>VF (SV ?_)) (.inr hx)));rw [QJ _ _ (Ne.symm bj)] at I5;exact ⟨_,H1,I5,q1⟩
end
section
variable {X:Cx} {pos:Pos}
def Qf (c:TT) (tb:TS):TS:=λD σ H=>∃W:Nat->St->Hp->Prop,(∃m,W m σ H)/\∀m σ H,W m σ H->
 c σ H λb H1=>if b=true then ∃N:St->Hp->Prop,(∀σ' H',N σ' H'->∃m',m'<m/\W m' σ' H')/\tb { D with nx:=N,ct:=N,bk:=D.nx } σ H1 else D.nx σ H1
theorem Se {c:Expr} {body:List TB} {tc:TT} {tb:TS} (hp:PassesOwn (TC X.prog X.w) X.A X.env X.xe) (hc:PT X c tc) (hb:Ki X body tb):PS X (.While c body [] pos) (Qf tc tb):=by
 intro pins s σ H D I h;obtain ⟨W,⟨m0,w0⟩,turn⟩:=h;refine wpAny_While (codeAny_whileLoop (λn s'=>∃σ' H',aY X pins σ' H' s'/\W n σ' H') ?_ m0 ⟨σ,H,I,w0⟩);rintro n s1 ⟨σ1,H1,I1,w1⟩;refine UE hp (dM (hc pins s1 σ1 H1 _ I1 (turn n σ1 H1 w1)) λb s2 ⟨H2,I2,q2⟩=>?_);cases b with
 | true=>
  obtain ⟨N,hN,q2⟩:=q2;rw [if_pos rfl];refine UE hp (dM (hb pins s2 σ1 H2 _ I2 q2) λf s3 q3=>?_);cases f with
  | next=>
   obtain ⟨σ3,H3,I3,n3⟩:=q3;obtain ⟨m',hm,w3⟩:=hN σ3 H3 n3;exact ⟨m',hm,σ3,H3,I3,w3⟩
  | cont=>
   obtain ⟨σ3,H3,I3,n3⟩:=q3;obtain ⟨m',hm,w3⟩:=hN σ3 H3 n3;exact ⟨m',hm,σ3,H3,I3,w3⟩
  | brk=>exact q3
  | ret v=>exact q3
 | false=>
  rw [if_neg OY];exact VC ⟨σ1,H2,I2,q2⟩
end
structure It where
 go:Nat->Hp->Prop
 yld:Nat->Hp->V->Hp->Prop
 stop:Nat->Hp->Prop
def pE (X:Cx) (pins:List (SO×Obj)) (H:Hp) (b:SO):Prop:=
 H b=none/\b≠X.env.locals/\b∉X.fs/\(b∈X.ex\/X.s₀.heap.objs.size<=b)/\(∀x c,X.env.cells.lookup x=some c->c≠b)/\∀p∈X.pn++pins,p.1≠b
theorem aY.fpOk {X:Cx} {pins:List (SO×Obj)} {σ:St} {H H':Hp} {s:Shared} {b:SO} (I:aY X pins σ H s) (hb:s.heap.objs.size<=b) (hn:H' b=none):pE X pins H' b:=by
 refine ⟨hn,Nat.ne_of_gt (LO I.lt hb),I.nofs hb,.inr (MG I.sz hb),λx c e z=>?_,λp hp z=>?_⟩
 ·obtain ⟨v,q⟩:=I.cell x c e;exact absurd (LO q.lt (by rw [z];exact hb)) (Nat.lt_irrefl _)
 ·exact absurd (LO (LL (I.pin p hp).1) (by rw [z];exact hb)) (Nat.lt_irrefl _)
structure Ge (P:SS) (w:SW) (K:W.Frag) (tg:Expr) (J:It) (fp:List SO) (it:SO) (tn:Nat->Heap->Prop):Prop where
 mem:it∈fp
 obj:∀i h,tn i h->∀b∈fp,∃o,h.get? b=some o/\∀v,o.data≠.cell v
 keep:∀i h h',tn i h->(∀b∈fp,∀o,h.get? b=some o->h'.get? b=some o)->tn i h'
 item:∀(X:Cx),X.prog=P->X.w=w->X.K=K->X.calm=true->∀(i:Nat) (pins:List (SO×Obj)) (s:Shared) (σ:St) (H:Hp) (E:Value->Shared->Prop),aY X pins σ H s->(∀b∈fp,pE X pins H b)->tn i s.heap->J.go i H->
  SU (TC P w) X.A (pyNext (.ref it)) (λr s1=>∃u,r=some u/\
   SU (TC P w) X.A (VD tg (.ref it) u) (λ_ s2=>∃x H',aY X pins σ H' s2/\bH x u/\J.yld i H x H'/\tn (i+1) s2.heap/\∀b∈fp,H' b=none) E s1) E s
 done:∀(X:Cx),X.prog=P->X.w=w->X.K=K->X.calm=true->∀(i:Nat) (pins:List (SO×Obj)) (s:Shared) (σ:St) (H:Hp) (E:Value->Shared->Prop),aY X pins σ H s->(∀b∈fp,pE X pins H b)->tn i s.heap->J.stop i H->
  SU (TC P w) X.A (pyNext (.ref it)) (λr s1=>r=none/\aY X pins σ H s1) E s
 self:∀(A:Around) (i:Nat) (s:Shared) (Q:Value->Shared->Prop) (E:Value->Shared->Prop),tn i s.heap->Q (.ref it) s->SU (TC P w) A (pyIter (.ref it)) Q E s
abbrev TI:=St->Hp->(It->Hp->Prop)->Prop
def GG (X:Cx) (pins:List (SO×Obj)) (σ:St) (tg:Expr) (R:It->Hp->Prop) (wy:Value) (s2:Shared):Prop:=
 ∃(it:SO) (fp:List SO) (tn:Nat->Heap->Prop) (J:It) (H':Hp),wy = .ref it/\aY X pins σ H' s2/\Ge X.prog X.w X.K tg J fp it tn/\tn 0 s2.heap/\(∀b∈fp,pE X pins H' b)/\R J H'
def PI (X:Cx) (tg iter:Expr) (wi:TI):Prop:=
 ∀(pins:List (SO×Obj)) (s:Shared) (σ:St) (H:Hp) (R:It->Hp->Prop),aY X pins σ H s->wi σ H R->
  SU (TC X.prog X.w) X.A (TL iter X.env) (λv s1=>SU (TC X.prog X.w) X.A (pyIter v) (GG X pins σ tg R) X.xe s1) X.xe s
theorem Tp {M:Model} {A:Around} {E:Value->Shared->Prop} {s:Shared} {tg:Expr} {it:SO} {u:Value} {o:Obj} {n:String} {vs:Array Value} {Q:Unit->Shared->Prop} (ho:s.heap.get? it=some o) (hc:o.cls = .type n) (hd:o.data = .fields vs)
    (hn:["enumerate","zip","dict_itemiterator","dict_reverseitemiterator","odict_iterator","itertools.zip_longest","itertools.pairwise"].contains n=false) (hQ:Q () s):SU M A (VD tg (.ref it) u) Q E s:=by
  unfold VD;cases tg<;>first
    | exact SV hQ
    | (cases u<;>first
        | exact SV hQ
        | (refine SQ (wpAny_load ho ?_)
           rw [hc,hd];show SU M A (if (["enumerate","zip","dict_itemiterator","dict_reverseitemiterator","odict_iterator","itertools.zip_longest","itertools.pairwise"].contains n&&vs[0]?==some (rawInt _))=true then _ else _) Q E s;rw [if_neg (by intro h;rw [hn,PF] at h;cases h)];exact SV hQ))
def FU (K:W.Frag) (a:SO):It:=
 ⟨λi H=>∃xs x,j4 K H a xs/\xs[i]? = some x,λi H x H'=>H'=H/\∀xs,j4 K H a xs->xs[i]? = some x,λi H=>∃xs,j4 K H a xs/\xs.length<=i⟩
def GC (K:W.Frag) (a:SO):It:=
 ⟨λi H=>∃xs x,rX K H a xs/\xs[i]? = some x,λi H x H'=>H'=H/\∀xs,rX K H a xs->xs[i]? = some x,λi H=>∃xs,rX K H a xs/\xs.length<=i⟩
def CS (lo:Int) (n:Nat):It:=⟨λi _=>i<n,λi H x H'=>H'=H/\x = .int (lo+i),λi _=>n<=i⟩
theorem wN {P:SS} {w:SW} {K:W.Frag} {tg:Expr} (a it:SO):Ge P w K tg (FU K a) [it] it (λi h=>h.IsListIter it a i) where
 mem:=by simp
 obj:=λi h st b hb=>by
  have e:b=it:=by simpa using hb
  subst e;obtain ⟨o,e,c,d⟩:=st;exact ⟨o,e,λv z=>by rw [d] at z;cases z⟩
 keep:=λi h h' st k=>st.at λo e=>k it (by simp) o e
 item:=by
  intro X hP hw hK hc i pins s σ H E I hf st hg;subst hP hw hK;obtain ⟨xs,x,hq,hx⟩:=hg;obtain ⟨VI,rv,p,hz⟩:=I.list hq;obtain ⟨u,hu,ru⟩:=rv.get hx;obtain ⟨f0,f1,f2,f3,f4,f5⟩:=hf it (by simp);refine wpAny_pyNext_list_item st p.isList (x:=u) (by simpa using hu) λh' je sb=>?_;have I1:aY X pins σ H { s with heap:=h' }:=I.turned (t':=s.toks) (λb o hb e=>(sb.2 b hb).trans e) f0 f1 f3 f4 f5;obtain ⟨o,e,c,d⟩:=id je;exact ⟨u,rfl,Tp (s:={ s with heap:=h' }) e c d (by decide) ⟨x,H,I1,ru,⟨rfl,λys hy=>by rw [I.list_inj hy hq];exact hx⟩,je,λb hb=>(hf b hb).1⟩⟩
 done:=by
  intro X hP hw hK hc i pins s σ H E I hf st hg;subst hP hw hK;obtain ⟨xs,hq,hx⟩:=hg;obtain ⟨VI,rv,p,hz⟩:=I.list hq;obtain ⟨f0,f1,f2,f3,f4,f5⟩:=hf it (by simp);have hl:=rv.length;exact wpAny_pyNext_list_end (I.ok.hd hc) st p.isList (by simp;omega) λh' eb=>⟨rfl,I.turned (t':=s.toks) (λb o hb e=>eb b o hb e) f0 f1 f3 f4 f5⟩
 self:=λ_ _ _ _ _ st h=>wpAny_pyIter_listiter st h
theorem sS {P:SS} {w:SW} {K:W.Frag} {tg:Expr} (a it:SO):Ge P w K tg (GC K a) [it] it (λi h=>h.IsTupleIter it a i) where
 mem:=by simp
 obj:=λi h st b hb=>by
  have e:b=it:=by simpa using hb
  subst e;obtain ⟨o,e,c,d⟩:=st;exact ⟨o,e,λv z=>by rw [d] at z;cases z⟩
 keep:=λi h h' st k=>st.at λo e=>k it (by simp) o e
 item:=by
  intro X hP hw hK hc i pins s σ H E I hf st hg;subst hP hw hK;obtain ⟨xs,x,hq,hx⟩:=hg;obtain ⟨VI,rv,p,hz⟩:=I.tuple hq;obtain ⟨u,hu,ru⟩:=rv.get hx;obtain ⟨f0,f1,f2,f3,f4,f5⟩:=hf it (by simp);refine wpAny_pyNext_tuple_item st (show s.heap.IsTuple a VI.toArray from p) (x:=u) (by simpa using hu) λh' je sb=>?_;have I1:aY X pins σ H { s with heap:=h' }:=I.turned (t':=s.toks) (λb o hb e=>(sb.2 b hb).trans e) f0 f1 f3 f4 f5;obtain ⟨o,e,c,d⟩:=id je;exact ⟨u,rfl,Tp (s:={ s with heap:=h' }) e c d (by decide) ⟨x,H,I1,ru,⟨rfl,λys hy=>by rw [I.tuple_inj hy hq];exact hx⟩,je,λb hb=>(hf b hb).1⟩⟩
 done:=by
  intro X hP hw hK hc i pins s σ H E I hf st hg;subst hP hw hK;obtain ⟨xs,hq,hx⟩:=hg;obtain ⟨VI,rv,p,hz⟩:=I.tuple hq;obtain ⟨f0,f1,f2,f3,f4,f5⟩:=hf it (by simp);have hl:=rv.length;exact wpAny_pyNext_tuple_end (I.ok.hd hc) st (show s.heap.IsTuple a VI.toArray from p) (by simp;omega) λh' eb=>⟨rfl,I.turned (t':=s.toks) (λb o hb e=>eb b o hb e) f0 f1 f3 f4 f5⟩
 self:=λ_ _ _ _ _ st h=>wpAny_pyIter_tupleiter st h
theorem Ha {P:SS} {w:SW} {K:W.Frag} {tg:Expr} (it:SO) (lo:Int) (n:Nat):Ge P w K tg (CS lo n) [it] it (λi h=>IsRangeIter h it (lo+(i:Nat)*1) ((n:Int)-(i:Nat)) 1) where
 mem:=by simp
 obj:=λi h st b hb=>by
  have e:b=it:=by simpa using hb
  subst e;exact ⟨_,st,λv z=>by
   have z':Data.fields _=Data.cell v:=z;cases z'⟩
 keep:=λi h h' st k=>k it (by simp) _ st
 item:=by
  intro X hP hw hK hc i pins s σ H E I hf st hg;subst hP hw hK;obtain ⟨f0,f1,f2,f3,f4,f5⟩:=hf it (by simp);have W:=Walks.range (prog:=X.prog) (w:=X.w) (I.ok.hd hc) it lo 1 n;refine W.item i s _ _ hg st λv h' tk hv je kk=>?_;obtain ⟨t,rfl⟩:=hv;have I1:aY X pins σ H { s with heap:=h',toks:=tk }:=I.turned (λb o hb e=>kk b o (by simpa using hb) e) f0 f1 f3 f4 f5;refine ⟨_,rfl,Tp (s:={ s with heap:=h',toks:=tk }) (n:="range_iterator") je rfl rfl (by decide) ⟨.int (lo+i),H,I1,⟨t,?_⟩,⟨rfl,rfl⟩,je,λb hb=>(hf b hb).1⟩⟩;rw [Int.mul_one]
 done:=by
  intro X hP hw hK hc i pins s σ H E I hf st hg;subst hP hw hK;obtain ⟨f0,f1,f2,f3,f4,f5⟩:=hf it (by simp);exact wpAny_pyNext_range_end (I.ok.hd hc) st (by have:n<=i:=hg;omega) λh' eb=>⟨rfl,I.turned (t':=s.toks) (λb o hb e=>eb b o hb e) f0 f1 f3 f4 f5⟩
 self:=λ_ _ _ _ _ st h=>wpAny_pyIter_rangeiter st h
section
variable {X:Cx} {tg:Expr}
def J7 (K:W.Frag) (tl:TE):TI:=λσ H R=>tl σ H λx H1=>∃a,x = .ref a/\(∃xs,j4 K H1 a xs)/\R (FU K a) H1
def DS (K:W.Frag) (tl:TE):TI:=λσ H R=>tl σ H λx H1=>∃a,x = .ref a/\(∃xs,rX K H1 a xs)/\R (GC K a) H1
theorem Wy {l:Expr} {tl:TE} (hl:PE X l tl):PI X tg l (J7 X.K tl):=by
 intro pins s σ H R I h;refine dM (hl pins s σ H _ I h) λv s1 ⟨x,H1,I1,r1,q1⟩=>?_;obtain ⟨a,e,⟨xs,hq⟩,q⟩:=q1;subst e;cases r1;obtain ⟨VI,rv,p,hz⟩:=I1.list hq;refine wpAny_pyIter_list p.isList ?_;refine ⟨s1.heap.objs.size,[s1.heap.objs.size],_,_,H1,rfl,I1.kept (t':=s1.toks) λb o e=>LG _ e,wN a _,⟨_,LR _ rfl,rfl,rfl⟩,λb hb=>?_,q⟩;have e:b=s1.heap.objs.size:=by simpa using hb
 subst e;exact I1.fpOk (LF _) (I1.hok.fresh (LF _))
theorem T9 {l:Expr} {tl:TE} (hl:PE X l tl):PI X tg l (DS X.K tl):=by
 intro pins s σ H R I h;refine dM (hl pins s σ H _ I h) λv s1 ⟨x,H1,I1,r1,q1⟩=>?_;obtain ⟨a,e,⟨xs,hq⟩,q⟩:=q1;subst e;cases r1;obtain ⟨VI,rv,p,hz⟩:=I1.tuple hq;refine US (show s1.heap.IsTuple a VI.toArray from p) ?_;refine ⟨s1.heap.objs.size,[s1.heap.objs.size],_,_,H1,rfl,I1.kept (t':=s1.toks) λb o e=>LG _ e,sS a _,⟨_,LR _ rfl,rfl,rfl⟩,λb hb=>?_,q⟩;have e:b=s1.heap.objs.size:=by simpa using hb
 subst e;exact I1.fpOk (LF _) (I1.hok.fresh (LF _))
theorem Uk {pins:List (SO×Obj)} {σ:St} {H:Hp} {s:Shared} {R:It->Hp->Prop} {E:Value->Shared->Prop} {lo hi:Int} {t u v:Tok} {tk:Nat} (I:aY X pins σ H s) (h1:-(2^62)<=lo) (h2:lo<2^62) (h3:-(2^62)<=hi) (h4:hi<2^62)
  (q:R (CS lo (hi-lo).toNat) H):SU (TC X.prog X.w) X.A (pyIter (.ref s.heap.objs.size)) (GG X pins σ tg R) E { s with heap:=s.heap.push { cls:=.type "range",data:=.fields #[.int lo t,.int hi u,.int 1 v] },toks:=tk }:=by
 refine wpAny_pyIter_range (IsRange.new ..) (small_one h1 h2 h3 h4) ?_;have I1:aY X pins σ H { s with heap:=s.heap.push { cls:=.type "range",data:=.fields #[.int lo t,.int hi u,.int 1 v] },toks:=tk }:=I.kept λb o e=>LG _ e;refine ⟨(s.heap.push { cls:=.type "range",data:=.fields #[.int lo t,.int hi u,.int 1 v] }).objs.size,[(s.heap.push { cls:=.type "range",data:=.fields #[.int lo t,.int hi u,.int 1 v] }).objs.size],_,_,H,rfl,
  I1.kept (t':=tk) λb o e=>LG _ e,Ha _ lo (hi-lo).toNat,?_,λb hb=>?_,q⟩
 ·have e1:lo+((0:Nat):Int)*1=lo:=by simp
  have e2:(((hi-lo).toNat:Nat):Int)-((0:Nat):Int)=Builtin.Range.rangeSize lo hi 1:=by rw [rangeSize_one];split<;>omega
  show IsRangeIter _ _ (lo+((0:Nat):Int)*1) ((((hi-lo).toNat:Nat):Int)-((0:Nat):Int)) 1;rw [e1,e2];exact LR _ rfl
 ·have e:b=(s.heap.push { cls:=.type "range",data:=.fields #[.int lo t,.int hi u,.int 1 v] }).objs.size:=by simpa using hb
  subst e;exact I1.fpOk (LF _) (I1.hok.fresh (LF _))
def E9 (ta:TA):TI:=λσ H R=>ta σ H λvs H1=>∃j:Int,vs=[.int j]/\-(2^62)<=j/\j<2^62/\R (CS 0 j.toNat) H1
theorem Oa {a:Expr} {ta:TA} {p pos:Pos} (hg:Gl X "range") (hm:X.mg "range" = none) (ha:PA X [a] ta) (hs:TJ [a] X.env=[(false,TL a X.env)]:=by rfl):PI X tg (.Call (.Name "range" p) [a] [] pos) (E9 ta):=by
 intro pins s σ H R I h;refine Call_ (lW I hg hm boot_range (PyProof.Rows.callWith_type1 (dM (ha pos pins s σ H _ I h) λus s1 ⟨vs,H1,I1,r1,q1⟩=>?_) hs rfl));obtain ⟨j,e,q1,q2,q⟩:=q1;subst e;cases r1 with
 | cons r rr=>
  cases rr;obtain ⟨t,rfl⟩:=r;exact call_range_1 (Uk I1 (by omega) (by omega) q1 q2 (by simpa using q))
def EN (wi:TI) (g:TG) (tb:TS):TS:=λD σ H=>wi σ H λJ H1=>∃W:Nat->Nat->St->Hp->Prop,(∃m,W 0 m σ H1)/\∀i m σ H,W i m σ H->
 (J.stop i H/\D.nx σ H)\/(J.go i H/\∃N:St->Hp->Prop,(∀σ' H',N σ' H'->∃m',m'<m/\W (i+1) m' σ' H')/\∀x H',J.yld i H x H'->g x σ H' λσ2 H2=>tb { D with nx:=N,ct:=N,bk:=D.nx } σ2 H2)
def zR (fp:List SO) (h:Heap):List (SO×Obj):=fp.filterMap λb=>(h.get? b).map λo=>(b,o)
theorem gW {fp:List SO} {h:Heap} {b:SO} {o:Obj} (hb:b∈fp) (e:h.get? b=some o):(b,o)∈zR fp h:=PV.mpr ⟨b,hb,by rw [e];rfl⟩
theorem Mo {fp:List SO} {h:Heap} {p:SO×Obj} (hp:p∈zR fp h):p.1∈fp/\h.get? p.1=some p.2:=by
 obtain ⟨b,hb,e⟩:=PV.mp hp;cases q:h.get? b with
 | none=>rw [q] at e;cases e
 | some o=>
  rw [q] at e;have e':(b,o)=p:=Option.some.inj e;subst e';exact ⟨hb,q⟩
theorem aY.pinned {pins:List (SO×Obj)} {σ:St} {H:Hp} {s:Shared} {fp:List SO} (I:aY X pins σ H s) (hf:∀b∈fp,pE X pins H b) (ho:∀b∈fp,∃o,s.heap.get? b=some o/\∀v,o.data≠.cell v):aY X (pins++zR fp s.heap) σ H s:=
 I.pins_of λp hp=>(LP.mp hp).elim (λz=>I.pin p (LU _ z)) λz=>by
  obtain ⟨hb,e⟩:=Mo z;obtain ⟨f0,f1,f2,_⟩:=hf p.1 hb;obtain ⟨o,e',d⟩:=ho p.1 hb;rw [e] at e';cases e';exact ⟨e,f0,f1,f2,d⟩
theorem aY.unpinned {pins pl:List (SO×Obj)} {σ:St} {H:Hp} {s:Shared} (I:aY X (pins++pl) σ H s):aY X pins σ H s:=I.pins_of λp hp=>I.pin p (LU _ (OP _ hp))
theorem W3 {iter:Expr} {body:List TB} {wi:TI} {g:TG} {tb:TS} {pos:Pos} (hp:PassesOwn (TC X.prog X.w) X.A X.env X.xe) (hc:X.calm=true) (hi:PI X tg iter wi) (hg:PG X tg g) (hb:Ki X body tb)
  (hs:∀x,TH iter X.env x=pure x:=by intro _;rfl):PS X (.For tg iter body [] pos) (EN wi g tb):=by
 intro pins s σ H D I h;refine wpAny_For (dM (hi pins s σ H _ I h) λv s1 h1=>dM h1 λwy s2 h2=>?_) hs;obtain ⟨it,fp,tn,J,H2,e,I2,T,qg,f2,W,⟨m0,w0⟩,turn⟩:=h2;subst e
 -- what stays true of the iterator's objects through the loop
 have ZR:∀{H':Hp},(∀b∈fp,H' b=none)->∀b∈fp,pE X pins H' b:=λhn b hb=>⟨hn b hb,(f2 b hb).2⟩;refine codeAny_forLoop_any (λn s'=>∃i σ' H',aY X pins σ' H' s'/\tn i s'.heap/\(∀b∈fp,H' b=none)/\W i n σ' H') ?_ m0 ⟨0,σ,H2,I2,qg,λb hb=>(f2 b hb).1,w0⟩;rintro n s3 ⟨i,σ3,H3,I3,st3,fr3,w3⟩;rcases turn i n σ3 H3 w3 with ⟨stop,qn⟩ | ⟨go,N,hN,step⟩
 ·refine UE hp (dM (T.done X rfl rfl rfl hc i pins s3 σ3 H3 X.xe I3 (ZR fr3) st3 stop) λr s4 ⟨hr,I4⟩=>?_);subst hr;exact VC ⟨σ3,H3,I4,qn⟩
 ·refine UE hp (dM (T.item X rfl rfl rfl hc i pins s3 σ3 H3 X.xe I3 (ZR fr3) st3 go) λr s4 ⟨u,hr,h4⟩=>?_);subst hr;refine UE hp (dM h4 λ_ s5 ⟨x,H5,I5,r5,y5,oh,va⟩=>?_);have I5':=I5.pinned (ZR va) (T.obj _ _ oh);refine UE hp (dM (hg _ s5 σ3 H5 x u _ I5' r5 (step x H5 y5)) λ_ s6 ⟨σ6,H6,I6,q6⟩=>?_);refine UE hp (dM (hb _ s6 σ6 H6 _ I6 q6) λf s7 q7=>?_);have again:∀{σ7:St} {H7:Hp},aY X (pins++zR fp s5.heap) σ7 H7 s7->N σ7 H7->∃m,m<n/\∃i σ' H',aY X pins σ' H' s7/\tn i s7.heap/\(∀b∈fp,H' b=none)/\W i m σ' H':=λ{σ7 H7} I7 n7=>by
   obtain ⟨m',hm,w7⟩:=hN σ7 H7 n7;refine ⟨m',hm,i+1,σ7,H7,I7.unpinned,T.keep _ _ _ oh λb hb o e=>(I7.pin (b,o) (LU _ (LU _ (gW hb e)))).1,λb hb=>?_,w7⟩;obtain ⟨o,e,d⟩:=T.obj _ _ oh b hb;exact (I7.pin (b,o) (LU _ (LU _ (gW hb e)))).2.1
  cases f with
  | next=>obtain ⟨σ7,H7,I7,n7⟩:=q7;exact again I7 n7
  | cont=>obtain ⟨σ7,H7,I7,n7⟩:=q7;exact again I7 n7
  | brk=>obtain ⟨σ7,H7,I7,q7⟩:=q7;exact ⟨σ7,H7,I7.unpinned,q7⟩
  | ret v=>obtain ⟨x7,σ7,H7,I7,r7,q7⟩:=q7;exact ⟨x7,σ7,H7,I7.unpinned,r7,q7⟩
end
abbrev R2:=V->V->Hp->VK->Prop
def mB (X:Cx) (f:Value->Value->Sem Value) (r:R2):Prop:=
 ∀(pins:List (SO×Obj)) (s:Shared) (σ:St) (H:Hp) (x y:V) (v u:Value) (Q:VK),aY X pins σ H s->bH x v->bH y u->r x y H Q->
  SU (TC X.prog X.w) X.A (f v u) (EP X pins σ Q) X.xe s
def GA (X:Cx) (f:Value->Sem Value) (r:V->Hp->VK->Prop):Prop:=
 ∀(pins:List (SO×Obj)) (s:Shared) (σ:St) (H:Hp) (x:V) (v:Value) (Q:VK),aY X pins σ H s->bH x v->r x H Q->
  SU (TC X.prog X.w) X.A (f v) (EP X pins σ Q) X.xe s
def gM (X:Cx) (f:Value) (r:List V->Hp->VK->Prop):Prop:=
 ∀(pins:List (SO×Obj)) (s:Shared) (σ:St) (H:Hp) (xs:List V) (us:List Value) (Q:VK),aY X pins σ H s->bE xs us->r xs H Q->
  SU (TC X.prog X.w) X.A (call f us) (EP X pins σ Q) X.xe s
def Rv (r:R2) (ta tb:TE):TE:=λσ H Q=>ta σ H λx H1=>tb σ H1 λy H2=>r x y H2 Q
def JJ (r:V->Hp->VK->Prop) (ta:TE):TE:=λσ H Q=>ta σ H λx H1=>r x H1 Q
def rI (C:Int->Int->Prop) (g:Int->Int->V):R2:=λx y H Q=>∃i j,x = .int i/\y = .int j/\C i j/\Q (g i j) H
def Vw (g:Int->Int->V):R2:=λx y H Q=>∃i j,x = .int i/\y = .int j/\Q (g i j) H
def rU (g:Int->V):V->Hp->VK->Prop:=λx H Q=>∃i,x = .int i/\Q (g i) H
section
variable {X:Cx} {a b c:Expr} {ta tb tc:TE} {pos:Pos}
theorem V2 (ha:PE X a ta) (hb:PE X b tb) {pins:List (SO×Obj)} {s:Shared} {σ:St} {H:Hp} {R:V->V->Hp->Prop} (I:aY X pins σ H s)
  (h:ta σ H λx H1=>tb σ H1 λy H2=>R x y H2) {Q:Value->Shared->Prop} {f:Value->Value->Sem Value}
  (hf:∀v u s2 x y H2,aY X pins σ H2 s2->bH x v->bH y u->R x y H2->SU (TC X.prog X.w) X.A (f v u) Q X.xe s2) :
  SU (TC X.prog X.w) X.A (TL a X.env) (λv s₁=>SU (TC X.prog X.w) X.A (TL b X.env) (λu s₂=>SU (TC X.prog X.w) X.A (f v u) Q X.xe s₂) X.xe s₁) X.xe s:=by
 refine dM (ha pins s σ H _ I h) λv s1 ⟨x,H1,I1,r1,q1⟩=>?_;refine dM (hb pins s1 σ H1 _ I1 q1) λu s2 ⟨y,H2,I2,r2,q2⟩=>?_;exact hf v u s2 x y H2 I2 r1 r2 q2
theorem BO {op:Operator} {r:R2} (ho:mB X (UA op) r) (ha:PE X a ta) (hb:PE X b tb):PE X (.BinOp a op b pos) (Rv r ta tb):=by
 intro pins s σ H Q I h;exact wpAny_BinOp (V2 ha hb I h λv u s2 x y H2 I2 rx ry q=>ho pins s2 σ H2 x y v u Q I2 rx ry q)
theorem BF {op:UnaryOp} {r:V->Hp->VK->Prop} (ho:GA X (unaryOp op) r) (ha:PE X a ta):PE X (.UnaryOp op a pos) (JJ r ta):=by
 intro pins s σ H Q I h;exact UnaryOp_ (dM (ha pins s σ H _ I h) λv s1 ⟨x,H1,I1,r1,q1⟩=>ho pins s1 σ H1 x v Q I1 r1 q1)
theorem DM {f:Value->Value->Sem Value} {C:Int->Int->Prop} {g:Int->Int->Int}
  (rule:∀(i j:Int) (t u:Tok) (s:Shared) (Q:Value->Shared->Prop) (E:Value->Shared->Prop),C i j->Q (.int (g i j) s.toks) { s with toks:=s.toks+1 }->SU (TC X.prog X.w) X.A (f (.int i t) (.int j u)) Q E s) :
  mB X f (rI C λi j=>.int (g i j)):=by
 intro pins s σ H x y v u Q I rx ry h;obtain ⟨i,j,rfl,rfl,hc,q⟩:=h;obtain ⟨t,rfl⟩:=rx;obtain ⟨t',rfl⟩:=ry;exact rule i j t t' s _ _ hc ⟨.int (g i j),H,I.tok _,⟨_,rfl⟩,q⟩
theorem BQ {f:Value->Value->Sem Value} {g:Int->Int->Int}
  (rule:∀(i j:Int) (t u:Tok) (s:Shared) (Q:Value->Shared->Prop) (E:Value->Shared->Prop),Q (.int (g i j) s.toks) { s with toks:=s.toks+1 }->SU (TC X.prog X.w) X.A (f (.int i t) (.int j u)) Q E s) :
  mB X f (Vw λi j=>.int (g i j)):=by
 intro pins s σ H x y v u Q I rx ry h;obtain ⟨i,j,rfl,rfl,q⟩:=h;obtain ⟨t,rfl⟩:=rx;obtain ⟨t',rfl⟩:=ry;exact rule i j t t' s _ _ ⟨.int (g i j),H,I.tok _,⟨_,rfl⟩,q⟩
theorem Yp {f:Value->Value->Sem Value} {g:Int->Int->Bool}
  (rule:∀(i j:Int) (t u:Tok) (s:Shared) (Q:Value->Shared->Prop) (E:Value->Shared->Prop),Q (.bool (g i j)) s->SU (TC X.prog X.w) X.A (f (.int i t) (.int j u)) Q E s) :
  mB X f (Vw λi j=>.bl (g i j)):=by
 intro pins s σ H x y v u Q I rx ry h;obtain ⟨i,j,rfl,rfl,q⟩:=h;obtain ⟨t,rfl⟩:=rx;obtain ⟨t',rfl⟩:=ry;exact rule i j t t' s _ _ ⟨.bl (g i j),H,I,rfl,q⟩
def Z0 (i j:Int):Prop:=0<=j/\j<=1000000/\i.natAbs<2^64
def Yl (i j:Int):Prop:=(-(2^64)<i/\i<2^64)\/(-(2^64)<j/\j<2^64)
theorem Yl.ok {i j:Int} (h:Yl i j):IntMulOk i j:=by
 rcases h with ⟨h1,h2⟩ | ⟨h1,h2⟩
 ·exact .of_left (intBits_le_64 h1 h2)
 ·exact .of_right (intBits_le_64 h1 h2)
theorem bZ:mB X (UA .Add) (Vw λi j=>.int (i+j)):=BQ λ_ _ _ _ _ _ _ q=>add_int q
theorem gK:mB X (UA .Sub) (Vw λi j=>.int (i-j)):=BQ λ_ _ _ _ _ _ _ q=>sub_int q
theorem V1:mB X (UA .Mult) (rI Yl λi j=>.int (i*j)):=DM λ_ _ _ _ _ _ _ hc q=>mul_int q hc.ok
theorem kW:mB X (UA .Mod) (rI (λ_ j=>0<j) λi j=>.int (i%j)):=DM λi j _ _ _ _ _ hc q=>by
 have h1:(0:Int)<j:=hc;exact mod_int' (by omega) (by rw [RJ i (by omega)];exact q)
theorem Rb:mB X (UA .Pow) (rI Z0 λi j=>.int (i^j.toNat)):=DM λ_ _ _ _ _ _ _ hc q=>pow_int_small hc.1 hc.2.1 hc.2.2 q
theorem JT {f:Value->Sem Value} {g:Int->Int}
  (rule:∀(i:Int) (t:Tok) (s:Shared) (Q:Value->Shared->Prop) (E:Value->Shared->Prop),Q (.int (g i) s.toks) { s with toks:=s.toks+1 }->SU (TC X.prog X.w) X.A (f (.int i t)) Q E s) :
  GA X f (rU λi=>.int (g i)):=by
 intro pins s σ H x v Q I rx h;obtain ⟨i,rfl,q⟩:=h;obtain ⟨t,rfl⟩:=rx;exact rule i t s _ _ ⟨.int (g i),H,I.tok _,⟨_,rfl⟩,q⟩
theorem Z7:GA X (unaryOp .USub) (rU λi=>.int (-i)):=JT λ_ _ _ _ _ q=>neg_int q
end
section
variable {X:Cx} {a b c:Expr} {ta tb tc:TE} {pos:Pos}
theorem uD {pins:List (SO×Obj)} {σ:St} {H:Hp} {s:Shared} {Q:VK} {k k':Bool} (I:aY X pins σ H s) (q:Q (.bl k) H) (e:k=k'):EP X pins σ Q (.bool k') s:=by
 subst e;exact ⟨.bl k,H,I,rfl,q⟩
theorem fW:mB X (TQ .Lt) (Vw λi j=>.bl (decide (i<j))):=Yp λ_ _ _ _ _ _ _ q=>lt_int q
theorem Ux:mB X (TQ .LtE) (Vw λi j=>.bl (decide (i<=j))):=Yp λ_ _ _ _ _ _ _ q=>le_int q
theorem wO:mB X (TQ .Gt) (Vw λi j=>.bl (decide (j<i))):=Yp λ_ _ _ _ _ _ _ q=>gt_int q
theorem Bf:mB X (TQ .GtE) (Vw λi j=>.bl (decide (j<=i))):=Yp λ_ _ _ _ _ _ _ q=>ge_int q
theorem Om:mB X (TQ .In) (λx y H Q=>∃i j,x = .str i/\y = .str j/\Q (.bl (!(Builtin.Str.occurrences j i 0 j.length 1).isEmpty)) H):=by
 intro pins s σ H x y v u Q I rx ry h;obtain ⟨i,j,rfl,rfl,q⟩:=h;obtain ⟨t,rfl⟩:=rx;obtain ⟨t',rfl⟩:=ry;exact in_str (uD I q rfl)
theorem Q5:mB X (TQ .Is) (λx y H Q=>y = .non/\Q (.bl (decide (x = .non))) H):=by
 intro pins s σ H x y v u Q I rx ry h;obtain ⟨rfl,q⟩:=h;cases ry;refine is_none_gen (uD I q ?_);cases x<;>first
  | (cases rx;rfl)
  | (obtain ⟨t,rfl⟩:=rx;rfl)
theorem C7:mB X (TQ .IsNot) (λx y H Q=>y = .non/\Q (.bl (!decide (x = .non))) H):=by
 intro pins s σ H x y v u Q I rx ry h;obtain ⟨rfl,q⟩:=h;cases ry;refine isnot_none_gen (uD I q ?_);cases x<;>first
  | (cases rx;rfl)
  | (obtain ⟨t,rfl⟩:=rx;rfl)
theorem aR (b:Expr) {op:CmpOp} (h:op≠.In:=by decide) (h2:op≠.NotIn:=by decide):TK op b=false:=by
 have e1:(op==CmpOp.In)=false:=by cases op<;>first | rfl | exact absurd rfl h
 have e2:(op==CmpOp.NotIn)=false:=by cases op<;>first | rfl | exact absurd rfl h2
 cases b<;>simp [TK,e1,e2]
theorem Xo {op:CmpOp} {r:R2} (ho:mB X (TQ op) r) (ha:PE X a ta) (hb:PE X b tb) (hm:TK op b=false):PE X (.Compare a [op] [b] pos) (Rv r ta tb):=by
 intro pins s σ H Q I h;exact wpAny_Compare1 (V2 ha hb I h λv u s2 x y H2 I2 rx ry q=>ho pins s2 σ H2 x y v u Q I2 rx ry q) hm
def G5 (t:TE):TT:=λσ H Q=>t σ H λx H'=>∃k,x = .bl k/\Q k H'
theorem Zv {op:CmpOp} {r:R2} (ho:mB X (TQ op) r) (ha:PE X a ta) (hb:PE X b tb) (hm:TK op b=false):PT X (.Compare a [op] [b] pos) (G5 (Rv r ta tb)):=by
 intro pins s σ H Q I h;refine wpAny_isTrue_Compare1 (dM (ha pins s σ H _ I h) λv s1 ⟨x,H1,I1,r1,q1⟩=>dM (hb pins s1 σ H1 _ I1 q1) λu s2 ⟨y,H2,I2,r2,q2⟩=>
  dM (ho pins s2 σ H2 x y v u _ I2 r1 r2 q2) λc s3 ⟨z,H3,I3,r3,k,e,q3⟩=>?_) hm
 subst e;cases r3;exact TY ⟨H3,I3,q3⟩
theorem uH:(SX:Nat)<2^63:=by rw [VH];decide
theorem oZ {x:V} {us:List Value} (r:bE [x] us):∃u,us=[u]/\bH x u:=by
 cases r with
 | cons r1 r2=>cases r2;exact ⟨_,rfl,r1⟩
end
structure dW (k:Nat) (A:Around):Prop where
 hd:A.handled=none
 dp:A.depth+3*k+5<recursionLimit
 un:A.units+16*k+200<UX
 gd:A.guards=some []
theorem dW.mono {j k:Nat} {A:Around} (r:dW k A) (h:j<=k):dW j A:=⟨r.hd,by have:=r.dp;omega,by have:=r.un;omega,r.gd⟩
theorem dW.deeper {k:Nat} {A:Around} (r:dW (k+1) A) (env:Env):dW k (A.deeper env):=
 ⟨r.hd,by have:=r.dp;show A.depth+1+3*k+5<_;omega,by have:=r.un;show A.units+3+16*k+200<_;omega,r.gd⟩
theorem dW.depth {k:Nat} {A:Around} (r:dW k A):A.depth<recursionLimit:=by have:=r.dp;omega
theorem dW.units {k:Nat} {A:Around} (r:dW k A):A.units+64<UX:=by have:=r.un;omega
def W6:TA:=λ_ H Q=>Q [] H
def Dl (ta:TE) (tr:TA):TA:=λσ H Q=>ta σ H λx H1=>tr σ H1 λxs H2=>Q (x::xs) H2
section
variable {X:Cx} {e:Expr} {es:List Expr} {te:TE} {t:TA} {pos:Pos}
theorem Ur:PA X [] W6:=λ_ _ _ _ H Q I h=>Calls.spliced_nil ⟨[],H,I,.nil,h⟩
theorem Yc (ha:PE X e te) (hr:PA X es t) (hs:TJ (e::es) X.env=(false,TL e X.env)::TJ es X.env:=by rfl):PA X (e::es) (Dl te t):=by
 intro pos pins s σ H Q I h;rw [hs];show SU _ _ (spliced ((false,TL e X.env)::UI pos (TJ es X.env))) _ _ s;refine Calls.spliced_cons (dM (ha pins s σ H _ I h) λu s1 ⟨x,H1,I1,r1,q1⟩=>?_);exact dM (hr pos pins s1 σ H1 _ I1 q1) λus s2 ⟨xs,H2,I2,r2,q2⟩=>⟨x::xs,H2,I2,.cons r1 r2,q2⟩
def BY (t:TA):TE:=λσ H Q=>t σ H λxs H1=>xs.length<=SX/\∀p,H1 p=none->Q (.ref p) (upd H1 p (.tup xs))
def DH (t:TA):TE:=λσ H Q=>t σ H λxs H1=>xs.length<=SX/\∀p,H1 p=none->Q (.ref p) (upd H1 p (.lst xs))
theorem M3 {x1} (h:PA X es t):PE X (.Tuple es x1 pos) (BY t):=by
 intro pins s σ H Q I hq;refine wpAny_Tuple_spliced (dM (h pos pins s σ H _ I hq) λus s1 ⟨xs,H1,I1,r,z,q⟩=>⟨by rw [<-r.length];exact z,?_⟩);have hf:H1 s1.heap.objs.size=none:=I1.hok.fresh (LF _);refine ⟨.ref s1.heap.objs.size,upd H1 s1.heap.objs.size (.tup xs),I1.laid (t':=s1.toks) (λb u e=>LG _ e) (LF _) ?_,rfl,q _ hf⟩;exact ⟨z,us,r,⟨_,LR _ rfl,rfl,_,rfl⟩⟩
theorem O1 (h:PA X es t):PE X (.List es pos) (DH t):=by
 intro pins s σ H Q I hq;refine wpAny_List_spliced (dM (h pos pins s σ H _ I hq) λus s1 ⟨xs,H1,I1,r,z,q⟩=>⟨by rw [<-r.length];exact z,?_⟩);have hf:H1 s1.heap.objs.size=none:=I1.hok.fresh (LF _);refine ⟨.ref s1.heap.objs.size,upd H1 s1.heap.objs.size (.lst xs),I1.laid (t':=s1.toks) (λb u e=>LG _ e) (LF _) ?_,rfl,q _ hf⟩;exact ⟨z,us,0,r,LR _ rfl⟩
end
abbrev Sp:=List V->Hp->VK->XK->Prop
abbrev Eh:=List Env->Hp->Shared->XK->Value->Shared->Prop
structure A8 (P:SS) (w:SW) (K:W.Frag) (mg:Str->Option Value) (base:Heap) (A:Around) (outer:List Env) (s:Shared) (H:Hp):Prop where
 frames:A.frames=some outer
 mod:Mod K mg base
 bs:∀b o,base.get? b=some o->s.heap.get? b=some o/\H b=none
 bsz:base.objs.size<=s.heap.objs.size
 funs:s.heap.FunFrames base outer
 frf:∀b∈Lo outer,H b=none
 hok:nM P w H s.heap
 bare:UU s.gens
def CE (outer:List Env) (P:SS) (w:SW) (H:Hp) (s:Shared) (Q:VK) (u:Value) (s':Shared):Prop:=
 ∃v H',s'.os=s.os/\UU s'.gens/\Un (Lo outer) [] H H' s.heap s'.heap/\nM P w H' s'.heap/\bH v u/\Q v H'
def CR (CX:Eh) (outer:List Env) (P:SS) (w:SW) (H:Hp) (s:Shared) (Q:VK) (E:XK) (r:Result) (s':Shared):Prop:=
 match r with
 | .ok (.ret u)=>CE outer P w H s Q u s'
 | .ok _=>False
 | .error e=>CX outer H s E e s'
structure bF (P:SS) (w:SW) (K:W.Frag) (mg:Str->Option Value) (base:Heap) (CX:Eh) (k:Nat) (f:SO) (fd:SR) (ps:List Str) (sp:Sp):Prop where
 len:∀vs H Q E,sp vs H Q E->vs.length=ps.length
 run:∀(A:Around) (outer:List Env) (s:Shared) (H:Hp) (args:Args) (us:List Value) (vs:List V) (Q:VK) (E:XK),dW k A->A8 P w K mg base A outer s H->BindsTo s fd args (ps.zip us)->bE vs us->sp vs H Q E->
  codeAny (TC P w) A (.call (.ref f) args) (CR CX outer P w H s Q E) s
theorem bF.imp {P:SS} {w:SW} {K:W.Frag} {mg:Str->Option Value} {base:Heap} {CX:Eh} {k:Nat} {f:SO} {fd:SR} {ps:List Str} {sp sp':Sp} (F:bF P w K mg base CX k f fd ps sp)
  (h:∀vs H Q E,sp' vs H Q E->sp vs H Q E):bF P w K mg base CX k f fd ps sp':=
 ⟨λvs H Q E q=>F.len vs H Q E (h _ _ _ _ q),λA outer s H args us vs Q E hr he hb hv hs=>F.run A outer s H args us vs Q E hr he hb hv (h _ _ _ _ hs)⟩
section
variable {X:Cx} {pins:List (SO×Obj)} {σ:St} {H:Hp} {s s':Shared}
theorem aY.env0 (I:aY X pins σ H s):A8 X.prog X.w X.K X.mg X.base X.A X.stack s H:=
 ⟨I.ok.frames,I.ok.mod,I.bs,MG I.ok.bsz I.sz,I.stack,I.stkFree,I.hok,I.bare⟩
theorem aY.after {Q:VK} {u:Value} (I:aY X pins σ H s) (h:CE X.stack X.prog X.w H s Q u s'):EP X pins σ Q u s':=by
 obtain ⟨v,H',os,bare,un,hok,r,q⟩:=h;obtain ⟨hh,g,d,t,os'⟩:=s';obtain rfl:os'=s.os:=os;exact ⟨v,H',I.call (h':=hh) (g':=g) (d':=d) (t':=t) (ch:=[]) un hok bare (λb z=>absurd z (by simp)),r,q⟩
end
def Dd (sp:Sp) (jf:List V) (E:XK) (t:TA):TE:=λσ H Q=>t σ H λvs H1=>sp (vs++jf) H1 Q E
def j9 (K:W.Frag) (fd:SR) (ps:List Str) (ds:List Value):Prop:=
 ∀(s:Shared) (us:List Value),K.In s.heap->(us++ds).length=ps.length->BindsTo s fd ⟨us,[]⟩ (ps.zip (us++ds))
theorem j9.all {K:W.Frag} {fd:SR} {ps:List Str} (h:∀us:List Value,us.length=ps.length->bindArgs fd ⟨us,[]⟩=pure (ps.zip us)):j9 K fd ps []:=λs us _ hl=>by
 rw [LZ] at hl ⊢;exact .of_eq (h us hl)
def Gm (CX:Eh) (X:Cx) (E:XK):Prop:=∀(pins:List (SO×Obj)) (σ:St) (H:Hp) (s:Shared) (e:Value) (s':Shared),aY X pins σ H s->CX X.stack H s E e s'->X.xe e s'
section
variable {X:Cx} {CX:Eh} {k:Nat} {f C:SO} {fd:SR} {ps:List Str} {sp:Sp} {jf:List V} {ds:List Value} {E:XK} {x m:Str} {p pos apos:Pos} {e o:Expr} {es:List Expr} {ta:TE} {t:TA}
theorem M5 {pins:List (SO×Obj)} {σ:St} {H:Hp} {s:Shared} {Q:VK} {us:List Value} {vs:List V} (F:bF X.prog X.w X.K X.mg X.base CX k f fd ps sp) (hr:dW k X.A) (hb:j9 X.K fd ps ds) (hd:bE jf ds) (hx:Gm CX X E)
  (I:aY X pins σ H s) (r:bE vs us) (h:sp (vs++jf) H Q E):SU (TC X.prog X.w) X.A (call (.ref f) us) (EP X pins σ Q) X.xe s:=by
 have r2:bE (vs++jf) (us++ds):=r.append hd;have hl:(us++ds).length=ps.length:=by rw [<-r2.length];exact F.len _ _ _ _ h
 refine wpAny_call (codeAny_mono (F.run X.A X.stack s H ⟨us,[]⟩ (us++ds) (vs++jf) Q E hr I.env0 (hb s us I.kIn hl) r2 h) λr s' hq=>?_);cases r with
 | error e=>exact hx pins σ H s e s' I hq
 | ok fl=>
  cases fl with
  | ret u=>exact I.after hq
  | next=>exact False.elim hq
  | brk=>exact False.elim hq
  | cont=>exact False.elim hq
theorem Ya (F:bF X.prog X.w X.K X.mg X.base CX k f fd ps sp) (hr:dW k X.A) (hg:Gl X x) (hm:X.mg x=some (.ref f)) (hk:W.keepIn X.K (.ref f)=true) (hb:j9 X.K fd ps ds) (hd:bE jf ds) (hx:Gm CX X E)
  (ha:PA X (e::es) t) (YK:(x==("__debug__":Str))=false:=by decide) (he:TJ (e::es) X.env=(false,TL e X.env)::TJ es X.env:=by rfl) (jg:(UI pos (TJ es X.env)).any (·.1)=false:=by rfl) :
  PE X (.Call (.Name x p) (e::es) [] pos) (Dd sp jf E t):=by
 intro pins s σ H Q I h;refine UT (Ku I hg hm ?_ YK);refine PySem.W.callWith_K (h₀:=X.base) I.ok.mod.kin hk (dM (ha pos pins s σ H _ I h) λus s1 ⟨vs,H1,I1,r,q⟩=>⟨I1.kIn,?_⟩) he jg;exact M5 F hr hb hd hx I1 r q
end
structure aL (N P:List Str) (sc:TR):Prop where
 kind:sc.kind = .function
 co:sc.isCoroutine=false
 gen:sc.isGenerator=false
 nd:N.Nodup
 pre:N.take P.length=P
 par:∀x∈P,sc.names.lookup x=some .local\/sc.names.lookup x=some .cell
 nofree:∀y∈sc.names,y.2≠.free
theorem xE {kindOf:Str->Option NameKind} {x:Str}:∀{binds:List (Str×Value)} {m:Str->Option Value},(∀v,(x,v)∉binds)->bindL kindOf binds m x=m x
 | [],_,_=>rfl
 | (n,v)::r,m,h=>by
  unfold bindL;rw [xE λw hw=>h w (LQ _ hw)]
  split
  ·have:x≠n:=by rintro rfl;exact h v NR
   simp [this]
  ·rfl
theorem xI {kindOf:Str->Option NameKind} {x:Str}:∀{binds:List (Str×Value)} {m:Str->Option Value},(∀v,(x,v)∉binds)->bindC kindOf binds m x=m x
 | [],_,_=>rfl
 | (n,v)::r,m,h=>by
  unfold bindC;rw [xI λw hw=>h w (LQ _ hw)]
  split
  ·rfl
  ·have:x≠n:=by rintro rfl;exact h v NR
   simp [this]
theorem vX {kindOf:Str->Option NameKind} {x:Str} {v:Value}:∀{P:List Str} {vs:List Value} {i:Nat} {m:Str->Option Value},P.Nodup->P[i]? = some x->vs[i]? = some v->kindOf x=some .local->
  bindL kindOf (P.zip vs) m x=some v
 | [],_,_,_,_,h,_,_=>by simp at h
 | _::_,[],_,_,_,_,h,_=>by simp at h
 | p::P,w::vs,0,m,nd,h1,h2,hk=>by
  simp at h1 h2;subst h1;subst h2;show bindL kindOf ((p,w)::P.zip vs) m p=_;unfold bindL;rw [xE λv hv=>(OH.mp nd).1 (NY hv).1,if_pos hk];simp
 | p::P,w::vs,i+1,m,nd,h1,h2,hk=>by
  show bindL kindOf ((p,w)::P.zip vs) m x=_;unfold bindL;exact vX (i:=i) (OH.mp nd).2 (by simpa using h1) (by simpa using h2) hk
theorem vV {kindOf:Str->Option NameKind} {x:Str} {v:Value}:∀{P:List Str} {vs:List Value} {i:Nat} {m:Str->Option Value},P.Nodup->P[i]? = some x->vs[i]? = some v->kindOf x≠some .local->
  bindC kindOf (P.zip vs) m x=some v
 | [],_,_,_,_,h,_,_=>by simp at h
 | _::_,[],_,_,_,_,h,_=>by simp at h
 | p::P,w::vs,0,m,nd,h1,h2,hk=>by
  simp at h1 h2;subst h1;subst h2;show bindC kindOf ((p,w)::P.zip vs) m p=_;unfold bindC;rw [xI λv hv=>(OH.mp nd).1 (NY hv).1,if_neg hk];simp
 | p::P,w::vs,i+1,m,nd,h1,h2,hk=>by
  show bindC kindOf ((p,w)::P.zip vs) m x=_;unfold bindC;exact vV (i:=i) (OH.mp nd).2 (by simpa using h1) (by simpa using h2) hk
def lN (N:List Str) (vs:List V):St:=vs.map some++LY (N.length-vs.length) none
def Cn (CX:Eh) (P:SS) (w:SW) (K:W.Frag) (mg:Str->Option Value) (base:Heap) (N:List Str) (qual:Str) (scope:TR) (f:SO) (cd:Value) (A:Around) (outer:List Env) (s:Shared) (H:Hp) (E:XK):Cx where
 prog:=P
 w:=w
 K:=K
 mg:=mg
 base:=base
 A:=A.deeper (UZ qual scope s.heap.objs.size f cd)
 N:=N
 s₀:=s
 H₀:=H
 env:=UZ qual scope s.heap.objs.size f cd
 outer:=outer
 stack:=UZ qual scope s.heap.objs.size f cd::outer
 ex:=[]
 calm:=true
 fn:=λ_=>true
 pn:=[]
 xe:=λe s'=>SU (TC P w) (A.deeper (UZ qual scope s.heap.objs.size f cd)) (leaving (UZ qual scope s.heap.objs.size f cd) e) (λ_ fu=>CX outer H s E e fu) (λe' fu=>CX outer H s E e' fu) s'
theorem Ec {sc:TR} {n:Nat} {x:Str} (h:sc.names.lookup x=some .cell):∃c,(cellsFrom n sc.names []).lookup x=some c:=by
 have q:=W.cellsFrom_some sc.names n [] (.inl h);exact Option.isSome_iff_exists.mp q
theorem Nc {CX:Eh} {P:SS} {w:SW} {K:W.Frag} {mg:Str->Option Value} {base:Heap} {N ps:List Str} {qual:Str} {scope:TR} {f:SO} {cd:Value} {A:Around} {outer:List Env} {s s1:Shared} {H:Hp} {E:XK} {us:List Value} {vs:List V}
  (S:aL N ps scope) (hd:A.handled=none) (e0:A8 P w K mg base A outer s H) (hl:vs.length=ps.length) (r:bE vs us)
  (x:InCallC s s.heap.objs.size (bindL (UZ qual scope s.heap.objs.size f cd).kindOf (ps.zip us) λ_=>none) (cellsFrom (s.heap.objs.size+1) scope.names []) (bindC (UZ qual scope s.heap.objs.size f cd).kindOf (ps.zip us) λ_=>none) s1) :
  aY (Cn CX P w K mg base N qual scope f cd A outer s H E) [] (lN N vs) H s1:=by
 have jg:ps.length<=N.length:=by have:=congrArg List.length S.pre;rw [MA] at this;omega
 obtain ⟨h1,tk,rfl,hk⟩:=x.done;have qh:∀b:SO,b∉(Cn CX P w K mg base N qual scope f cd A outer s H E).ex:=λb z=>absurd (show b∈([]:List SO) from z) (by simp);refine ⟨⟨e0.mod,S.kind,rfl,rfl,LF _,λy z c h1 h2=>?_,λy hy=>?_,λy c _ h=>?_,λ_=>hd,Around.frames_deeper e0.frames,.inr ⟨rfl,rfl⟩,λb z=>absurd z (qh b),e0.bs,e0.bsz,λb _ _=>qh b,λb z=>absurd z (qh b),e0.funs,e0.frf⟩,
  rfl,e0.bare,Un.kept hk,⟨_,x.toInCall.ns,λi y v h1 h2 h3=>?_⟩,λy c h=>⟨_,x.cell y c h⟩,e0.hok.fresh (LF _),λy c h=>?_,λp hp=>absurd (show p∈([]:List (SO×Obj)) from hp) (by simp),e0.hok.kept hk,?_⟩
 ·exact name_of_addr x.apart (PySem.mem_of_lookup h1) (PySem.mem_of_lookup h2)
 ·have hy:scope.names.lookup y=some .cell\/scope.names.lookup y=some .free:=hy;rcases hy with hy | hy
  ·exact Ec hy
  ·exact absurd rfl (S.nofree _ (PySem.mem_of_lookup hy))
 ·exact MY (x.above y c (PySem.mem_of_lookup h))
 ·have hi:i<vs.length:=by
   unfold lN at h2
   by_cases hi:i<vs.length
   ·exact hi
   ·rw [MS (by simpa using hi)] at h2;rw [RU] at h2;split at h2<;>cases h2
  have ha:vs[i]? = some v:=by
   unfold lN at h2;rw [LW (by simpa using hi),LK] at h2;cases e:vs[i]? with
   | none=>rw [e] at h2;cases h2
   | some a=>rw [e] at h2;cases h2;rfl
  obtain ⟨u,hu,rv⟩:=r.get ha;have hp:ps[i]? = some y:=by
   rw [<-S.pre,NK (by omega)];exact h1
  have ndP:ps.Nodup:=by rw [<-S.pre];exact S.nd.sublist (List.take_sublist _ _)
  refine ⟨u,rv,?_⟩;rcases S.par y (KZ hp) with k | k
  ·exact .inl ⟨k,vX ndP hp hu k⟩
  ·obtain ⟨c,e⟩:=Ec (n:=s.heap.objs.size+1) k;refine .inr ⟨.inl k,c,e,?_⟩;have q:=x.cell y c e;rw [vV ndP hp hu (by show scope.names.lookup y≠_;rw [k];decide)] at q;exact q
 ·exact e0.hok.fresh (MY (x.above y c (PySem.mem_of_lookup h)))
 ·unfold lN;show _=N.length;rw [LC,KW,OI];omega
theorem CA {CX:Eh} {P:SS} {w:SW} {K:W.Frag} {mg:Str->Option Value} {base:Heap} {k:Nat} {f:SO} {name qual:Str} {params:Arguments} {body:List TB} {scope:TR} {dV kV doc pm VS ct oc:Value} {an od:Option SO}
  {jh:Array (Option Value)} {N ps:List Str} {sp:Sp} (lk:K.lookup f=some ⟨oc,od,.func (W.fnOf name qual params body scope dV kV doc pm an VS ct),jh⟩) (ZH:W.codeIn K VS qual=true) (S:aL N ps scope)
  (len:∀vs H Q E,sp vs H Q E->vs.length=ps.length)
  (ZI:∀(A:Around) (outer:List Env) (s:Shared) (H:Hp) (vs:List V) (Q:VK) (E:XK),dW k (A.deeper (UZ qual scope s.heap.objs.size f VS))->sp vs H Q E->
   ∃t,Ki (Cn CX P w K mg base N qual scope f VS A outer s H E) body t/\t { nx:=λ_ H'=>Q .non H',rt:=Q } (lN N vs) H) :
  bF P w K mg base CX (k+1) f (W.fnOf name qual params body scope dV kV doc pm an VS ct) ps sp:=by
 refine ⟨len,λA outer s H args us vs Q E hr e0 hb r ji=>?_⟩;have hl:=len _ _ _ _ ji;have KX:K.In s.heap:=e0.mod.kin.keeps λb o e=>(e0.bs b o e).1;have lim:s.heap.NoLimit:=e0.mod.nolimit.keeps λb o e=>(e0.bs b o e).1;have qk:∀y∈ps.zip us,scope.names.lookup y.1=some .local\/(scope.names.lookup y.1=some .cell/\((cellsFrom (s.heap.objs.size+1) scope.names []).lookup y.1).isSome=true):=λ⟨n,v⟩ hy=>by
  rcases S.par n (NY hy).1 with q | q
  ·exact .inl q
  ·exact .inr ⟨q,W.cellsFrom_some _ _ _ (.inl q)⟩
 refine codeAny_call_function hr.depth (KX _ _ lk) rfl S.co S.gen rfl (W.codeRec_of KX ZH) (hb _ _ _ _ ?_);refine wpAny_newFunctionEnv_cells S.kind qk λenv he s1 x=>?_;subst he;refine ⟨lim.keeps x.toInCall.keep,codeAny_func ?_⟩;obtain ⟨t,ht,hq⟩:=ZI A outer s H vs Q E (hr.deeper _) ji;have I:aY (Cn CX P w K mg base N qual scope f VS A outer s H E) [] (lN N vs) H s1:=Nc S hr.hd e0 hl r x;refine UJ (ht [] s1 (lN N vs) H _ I hq) (λfl s' hs=>?_) λe s' hs=>hs;have fin:∀{σ':St} {H':Hp} {v:V} {u:Value},aY (Cn CX P w K mg base N qual scope f VS A outer s H E) [] σ' H' s'->bH v u->Q v H'->CE outer P w H s Q u s':=
  λ{σ' H' v u} J rv q=>⟨v,H',J.os,J.bare,J.base,J.hok,rv,q⟩
 cases fl with
 | ret u=>
  obtain ⟨v,σ',H',J,rv,q⟩:=hs;exact fin J rv q
 | next=>
  obtain ⟨σ',H',J,q⟩:=hs;exact fin (v:=V.non) (u:=QC) J rfl q
 | brk=>
  obtain ⟨_,_,_,q⟩:=hs;exact False.elim q
 | cont=>
  obtain ⟨_,_,_,q⟩:=hs;exact False.elim q
section
variable {X:Cx} {x:Str} {p pos:Pos} {e:Expr} {es:List Expr} {t:TA} {id T:String} {r:List V->Hp->VK->Prop}
def AI (r:List V->Hp->VK->Prop) (t:TA):TE:=λσ H Q=>t σ H λvs H1=>r vs H1 Q
theorem Uw (hc:gM X (.builtin id) r) (hg:Gl X x) (hm:X.mg x=none) (hv:TF x=some (.builtin id)) (ha:PA X (e::es) t) (hn:x≠"__name__":=by decide) (YK:(x==("__debug__":Str))=false:=by decide)
  (he:TJ (e::es) X.env=(false,TL e X.env)::TJ es X.env:=by rfl) (jg:(UI pos (TJ es X.env)).any (·.1)=false:=by rfl):PE X (.Call (.Name x p) (e::es) [] pos) (AI r t):=by
 intro pins s σ H Q I h;refine UT (lW I hg hm hv ?_ hn YK);exact PyProof.Rows.callWith_builtin1 (dM (ha pos pins s σ H _ I h) λus s1 ⟨vs,H1,I1,r1,q1⟩=>hc pins s1 σ H1 vs us Q I1 r1 q1) he jg
theorem Ms (hc:gM X (.type T) r) (hg:Gl X x) (hm:X.mg x=none) (hv:TF x=some (.type T)) (ha:PA X (e::es) t) (hn:x≠"__name__":=by decide) (YK:(x==("__debug__":Str))=false:=by decide)
  (he:TJ (e::es) X.env=(false,TL e X.env)::TJ es X.env:=by rfl) (jg:(UI pos (TJ es X.env)).any (·.1)=false:=by rfl):PE X (.Call (.Name x p) (e::es) [] pos) (AI r t):=by
 intro pins s σ H Q I h;refine UT (lW I hg hm hv ?_ hn YK);exact PyProof.Rows.callWith_type1 (dM (ha pos pins s σ H _ I h) λus s1 ⟨vs,H1,I1,r1,q1⟩=>hc pins s1 σ H1 vs us Q I1 r1 q1) he jg
end
end L2
namespace HT
open PySem PyProof.Rows
section
open PySem.SeqAt
open PySem.AutoSeq1 (wpAny_loadPart')
open PySem.MeetsSeq PySem.MeetsSeq2 PySem.MeetsSeq3
end
section
variable {prog:SS} {w:SW} {A:Around} {E:Value->Shared->Prop} {s:Shared}
theorem cat_tup {t b:SO} {vs ws:List Value} {Q:Value->Shared->Prop} (ht:IsTup s.heap t vs.toArray) (hb:IsTup s.heap b ws.toArray) (hv:vs≠[])
  (h1:ws=[]->Q (.ref t) s) (h2:ws≠[]->Q (.ref s.heap.objs.size) { s with heap:=s.heap.push { cls:=.type "tuple",data:=.seq (vs++ws).toArray } })
  (aw:vs.length+ws.length<=SX):SU (TC prog w) A (UA .Add (.ref t) (.ref b)) Q E s:=by
 obtain ⟨⟨cls,dd,data,sl⟩,ho,hc,n,hd⟩:=id ht;obtain ⟨⟨aCW,dd2,data2,sl2⟩,vb,hc2,n2,hd2⟩:=id hb;simp only at hc hd hc2 hd2;subst hc hd hc2 hd2;have e:vs.toArray++ws.toArray=(vs++ws).toArray:=by simp
 by_cases hw:ws=[]
 ·exact concat_meets ⟨_,ho,rfl⟩ ⟨_,vb,rfl⟩ noFill_tuple_add seq_tuple_add PySem.F.slot_tuple_add PySem.F.entry_tuple_add (PySem.F.args_tuple_add_2 _ _)
   (tuple_addW1 t b vs.toArray ws.toArray n n2 dd dd2 sl sl2 (by simpa using hv) (by simp [hw])) ⟨ho,vb,h1 hw⟩
 ·refine concat_meets ⟨_,ho,rfl⟩ ⟨_,vb,rfl⟩ noFill_tuple_add seq_tuple_add PySem.F.slot_tuple_add PySem.F.entry_tuple_add (PySem.F.args_tuple_add_2 _ _)
   (tuple_addW2 t b vs.toArray ws.toArray n n2 dd dd2 sl sl2 (by simpa using hv) (by simpa using hw) (by rw [LN,LN];exact aw)) ⟨ho,vb,?_⟩
  rw [e];exact h2 hw
def sIx (n d:Nat):Option Int->Nat
 | none=>d
 | some v=>if v<0 then (v+(n:Int)).toNat else min v.toNat n
theorem sIx_none (n d:Nat):sIx n d none=d:=rfl
theorem sIx_nat (n d k:Nat):sIx n d (some (k:Int))=min k n:=by
 show (if (k:Int)<0 then ((k:Int)+(n:Int)).toNat else min (k:Int).toNat n)=min k n;rw [if_neg (by omega),NJ]
theorem W9 (n d:Nat) (hd:d<=n) (o:Option Int):sIx n d o<=n:=by
 cases o with
 | none=>exact hd
 | some v=>
  show (if v<0 then (v+(n:Int)).toNat else min v.toNat n)<=n
  by_cases hv:v<0
  ·rw [if_pos hv];omega
  ·rw [if_neg hv];exact Nat.min_le_right _ _
theorem Jd (v:Int) (n d:Nat):(if v<0 then max (v+(n:Int)) 0 else min v (n:Int))=((sIx n d (some v):Nat):Int):=by
 show (if v<0 then max (v+(n:Int)) 0 else min v (n:Int))=(((if v<0 then (v+(n:Int)).toNat else min v.toNat n):Nat):Int)
 by_cases hv:v<0
 ·simp only [if_pos hv];omega
 ·simp only [if_neg hv];omega
theorem Gq (lo hi:Option Int) (n:Nat):Builtin.Slice.sliceAdjust lo hi 1 (n:Int)=(((sIx n 0 lo:Nat):Int),((sIx n n hi:Nat):Int)):=by
 have h1:¬((1:Int)<0):=by omega
 unfold Builtin.Slice.sliceAdjust;simp only [h1,if_false];refine Prod.ext ?_ ?_
 ·cases lo with
  | none=>rfl
  | some v=>exact Jd v n 0
 ·cases hi with
  | none=>rfl
  | some v=>exact Jd v n n
theorem Gf (i j:Nat):Builtin.Slice.slicePlaces (i:Int) (j:Int) 1=j-i:=by
 unfold Builtin.Slice.slicePlaces;have h1:(1:Int)>0:=by omega
 simp only [h1,if_true,Int.ediv_one]
 split<;>omega
theorem uC {v:Value} {o:Option Int} {Q:Option Int->Shared->Prop} (p:IsPart v o) (h:Q o s):SU (TC prog w) A (Builtin.Slice.slicePartIndex v) Q E s:=by
 cases p with
 | none=>exact slicePart_none h
 | int i t=>exact slicePart_int h
theorem pN {sl:SO} {vl vu:Value} {lo hi:Option Int} {n:Nat} {Q:Int×Int×Nat->Shared->Prop} (hs:s.heap.IsSliceOf sl vl vu .none) (pl:IsPart vl lo) (pu:IsPart vu hi)
  (h:Q (((sIx n 0 lo:Nat):Int),1,sIx n n hi-sIx n 0 lo) s):SU (TC prog w) A (Builtin.Slice.sliceApplied (.ref sl) (pure (n:Int))) Q E s:=by
 obtain ⟨os,qm,hcs,vf⟩:=id hs;unfold Builtin.Slice.sliceApplied Builtin.Slice.sliceFields;refine SQ (SQ (TN qm vf (x:=vl) rfl (SQ (TN qm vf (x:=vu) rfl (SQ (TN qm vf (x:=.none) rfl (SV ?_)))))));refine SQ (slicePart_none ?_);show SU _ _ (if ((1:Int)==0)=true then _ else _) _ _ s;rw [if_neg (by decide)];refine SQ (uC pl (SQ (uC pu (SQ (SV ?_)))));show SU _ _ (match Builtin.Slice.sliceAdjust lo hi 1 (n:Int) with | (lo,hi)=>pure (lo,(1:Int),Builtin.Slice.slicePlaces lo hi 1)) _ _ s;rw [Gq lo hi n];show SU _ _ (pure (((sIx n 0 lo:Nat):Int),(1:Int),Builtin.Slice.slicePlaces ((sIx n 0 lo:Nat):Int) ((sIx n n hi:Nat):Int) 1)) _ _ s;rw [Gf];exact SV h
theorem Ul (xs:Array Value) (i k:Nat):((MV k).filterMap λ(m:Nat)=>xs[((i:Int)+(m:Int)*1).toNat]?).toArray=((xs.toList.drop i).take k).toArray:=by
 have e:(λ(m:Nat)=>xs[((i:Int)+(m:Int)*1).toNat]?)=λm=>xs[i+m]?:=by
  funext m
  have:((i:Int)+(m:Int)*1).toNat=i+m:=by omega
  rw [this]
 rw [e];have:=pick_run xs i k;rw [List.filterMap_map] at this;have e2:((λx=>xs[x]?)∘λx=>i+x)=λm=>xs[i+m]?:=rfl;rw [e2] at this;rw [this]
theorem getItem_tuple_cut {t sl:SO} {items:Array Value} {vl vu:Value} {lo hi:Option Int} {Q:Value->Shared->Prop} (ht:IsTup s.heap t items) (hs:s.heap.IsSliceOf sl vl vu .none) (pl:IsPart vl lo) (pu:IsPart vu hi)
  (hw:¬(sIx items.size 0 lo=0/\sIx items.size items.size hi=items.size))
  (h:Q (.ref s.heap.objs.size) { s with heap:=s.heap.push { cls:=.type "tuple",data:=.seq ((items.toList.drop (sIx items.size 0 lo)).take (sIx items.size items.size hi-sIx items.size 0 lo)).toArray } })
  (aw:items.size<=SX):SU (TC prog w) A (getItem (.ref t) (.ref sl)) Q E s:=by
 have ag:sizeOk (.seq ((items.toList.drop (sIx items.size 0 lo)).take (sIx items.size items.size hi-sIx items.size 0 lo)).toArray):=by
  show ((items.toList.drop (sIx items.size 0 lo)).take (sIx items.size items.size hi-sIx items.size 0 lo)).toArray.size<=SX;rw [LN,MA,PK,OW];omega
 have hj:sIx items.size items.size hi<=items.size:=W9 _ _ (LF _) hi;obtain ⟨os,qm,hcs,vf⟩:=id hs;have hTs:s.TypeIs (.ref sl) "slice":=⟨os,qm,hcs⟩;unfold getItem
 try with_reducible refine UQ ?_
 first | refine SQ (SV ?_) | skip
 refine SQ (wpAny_sequenceKey ht.typeIs (by decide) ?_);refine SQ (wpAny_callSpecial?_slot (name:=PH "__getitem__") ht.typeIs PyProof.Rows.slot_tuple_getitem
  (UO PyProof.Rows.slot_tuple_getitem ht.typeIs entry_tuple_getitem ?_ (args_tuple_getitem _ _)))
 show SU _ _ (Builtin.Tuple.tupleItemsOf (.ref t) >>= _) _ _ s;refine SQ (tupleItemsOf_ ht ?_);refine SQ (wpAny_typeOf hTs ?_);rw [if_pos (by decide)];refine SQ (pN hs pl pu ?_);have YF:¬((((sIx items.size 0 lo:Nat):Int)==0&&(1:Int)==1&&(sIx items.size items.size hi-sIx items.size 0 lo)==items.size)=true):=by
  intro q;rw [LX,LX] at q;have q1:((sIx items.size 0 lo:Nat):Int)=0:=eq_of_beq q.1.1;have q2:sIx items.size items.size hi-sIx items.size 0 lo=items.size:=eq_of_beq q.2;exact hw ⟨by omega,by omega⟩
 show SU _ _ (if (((sIx items.size 0 lo:Nat):Int)==0&&(1:Int)==1&&(sIx items.size items.size hi-sIx items.size 0 lo)==items.size)=true then _ else _) _ _ s;rw [if_neg YF,Ul]
 first
  | exact SQ (m:=Builtin.Tuple.tupleExact _) (TU (SV ⟨_,rfl,SV h⟩) ag)
  | exact SQ (m:=Builtin.Tuple.tupleExact _) (TU (SQ (SV (SV ⟨_,rfl,SV h⟩))) ag)
  | exact SQ (SQ (m:=Builtin.Tuple.tupleExact _) (TU (SV (SV ⟨_,rfl,SV h⟩)) ag))
  | exact SQ (SQ (m:=Builtin.Tuple.tupleExact _) (TU (SV ⟨_,rfl,SV h⟩) ag))
end
end HT
namespace L2
open PySem PySem.Spec PyProof.Rows
abbrev TO:=St->Hp->(Option Int->Hp->Prop)->Prop
def PO (X:Cx) (e:Option Expr) (t:TO):Prop:=
 ∀(pins:List (SO×Obj)) (s:Shared) (σ:St) (H:Hp) (Q:Option Int->Hp->Prop),aY X pins σ H s->t σ H Q->
  SU (TC X.prog X.w) X.A (evalPart e X.env) (λu s'=>∃o H',aY X pins σ H' s'/\IsPart u o/\Q o H') X.xe s
def Ie:TO:=λ_ H Q=>Q none H
def J3 (t:TE):TO:=λσ H Q=>t σ H λx H1=>∃i,x = .int i/\Q (some i) H1
section
variable {X:Cx} {e:Expr} {te:TE} {lo hi:Option Expr} {tl th:TO} {pos p2:Pos}
theorem Xt:PO X none Ie:=by
 intro pins s σ H Q I h;rw [evalPart_none];exact SV ⟨none,H,I,.none,h⟩
theorem D3 (h:PE X e te):PO X (some e) (J3 te):=by
 intro pins s σ H Q I hw;rw [evalPart_some];refine dM (h pins s σ H _ I hw) λu s1 ⟨x,H1,I1,r1,q1⟩=>?_;obtain ⟨i,rfl,q⟩:=q1;obtain ⟨t,rfl⟩:=r1;exact ⟨some i,H1,I1,.int i t,q⟩
def CM (X:Cx) (r:V->Option Int->Option Int->Hp->VK->Prop):Prop:=
 ∀(pins:List (SO×Obj)) (s:Shared) (σ:St) (H:Hp) (x:V) (v vl vu:Value) (lo hi:Option Int) (sl:SO) (Q:VK),aY X pins σ H s->bH x v->s.heap.IsSliceOf sl vl vu .none->IsPart vl lo->IsPart vu hi->r x lo hi H Q->
  ∃T id,typeLookup (.type T) "__getitem__" = pure (some (.builtin id))/\s.TypeIs v T/\SU (TC X.prog X.w) X.A (getItem v (.ref sl)) (EP X pins σ Q) X.xe s
def JH (r:V->Option Int->Option Int->Hp->VK->Prop) (te:TE) (tl th:TO):TE:=λσ H Q=>te σ H λx H1=>tl σ H1 λl H2=>th σ H2 λu H3=>r x l u H3 Q
theorem Sy {r:V->Option Int->Option Int->Hp->VK->Prop} (hr:CM X r) (he:PE X e te) (hl:PO X lo tl) (hu:PO X hi th):PE X (.Subscript e (.Slice lo hi none p2) pos) (JH r te tl th):=by
 intro pins s σ H Q I h;refine Subscript_ (dM (he pins s σ H _ I h) λv s1 ⟨x,H1,I1,r1,q1⟩=>?_);refine wpAny_Slice (dM (hl pins s1 σ H1 _ I1 q1) λvl s2 ⟨l,H2,I2,pl,q2⟩=>dM (hu pins s2 σ H2 _ I2 q2) λvu s3 ⟨u,H3,I3,pu,q3⟩=>?_);rw [evalPart_none];refine SV ?_;have I4:aY X pins σ H3 { s3 with heap:=s3.heap.push { cls:=.type "slice",data:=.fields #[vl,vu,.none] } }:=I3.kept (t':=s3.toks) λb ob q=>LG _ q;obtain ⟨T,id,hT,ht,hg⟩:=hr pins { s3 with heap:=s3.heap.push { cls:=.type "slice",data:=.fields #[vl,vu,.none] } } σ H3 x v vl vu l u s3.heap.objs.size Q I4 r1 (Heap.IsSliceOf.new ..) pl pu q3;show SU (TC X.prog X.w) X.A (subscriptTail e (.Slice lo hi none p2) v (.ref s3.heap.objs.size)) (EP X pins σ Q) X.xe { s3 with heap:=s3.heap.push { cls:=.type "slice",data:=.fields #[vl,vu,.none] } };exact tail_any (ops:=[.ref s3.heap.objs.size,v]) ht hT hg (by with_unfolding_all rfl)
def Ds (xs:List V) (lo hi:Option Int):List V:=(xs.drop (HT.sIx xs.length 0 lo)).take (HT.sIx xs.length xs.length hi-HT.sIx xs.length 0 lo)
theorem rE (xs:List V) (lo hi:Option Int):(Ds xs lo hi).length<=xs.length:=by
 unfold Ds;rw [MA,PK];omega
def GV (K:W.Frag):V->Option Int->Option Int->Hp->VK->Prop:=λx lo hi H Q=>∃a xs,x = .ref a/\rX K H a xs/\
 ¬(HT.sIx xs.length 0 lo=0/\HT.sIx xs.length xs.length hi=xs.length)/\∀p,H p=none->Q (.ref p) (upd H p (.tup (Ds xs lo hi)))
theorem W2:CM X (GV X.K):=by
 intro pins s σ H x v vl vu lo hi sl Q I rx hs pl pu h;obtain ⟨a,xs,rfl,hx,hw,q⟩:=h;cases rx;obtain ⟨VI,r,ht,hz⟩:=I.tuple hx;have hlen:VI.toArray.size=xs.length:=by rw [LN];exact r.length.symm
 refine ⟨"tuple",_,PyProof.Rows.slot_tuple_getitem.lookup,ht.typeIs,?_⟩;refine HT.getItem_tuple_cut ht hs pl pu (by rw [hlen];exact hw) ?_ (by rw [hlen];exact hz);rw [hlen];refine ⟨.ref s.heap.objs.size,_,I.laid (t':=s.toks) (o:=.tup (Ds xs lo hi)) (λb ob q=>LG _ q) (LF _) ?_,rfl,q _ (I.hok.fresh (LF _))⟩;exact ⟨MG (rE xs lo hi) hz,_,(r.drop (HT.sIx xs.length 0 lo)).take (HT.sIx xs.length xs.length hi-HT.sIx xs.length 0 lo),IsTup.new _ _⟩
def BL (K:W.Frag):R2:=λx y H Q=>∃a b xs ys,x = .ref a/\y = .ref b/\rX K H a xs/\rX K H b ys/\xs≠[]/\xs.length+ys.length<=SX/\
 (ys=[]->Q (.ref a) H)/\(ys≠[]->∀p,H p=none->Q (.ref p) (upd H p (.tup (xs++ys))))
theorem bE.nil_iff {xs:List V} {us:List Value} (r:bE xs us):us=[]↔xs=[]:=by
 cases r with
 | nil=>simp
 | cons _ _=>simp
theorem Xg:mB X (UA .Add) (BL X.K):=by
 intro pins s σ H x y v u Q I rx ry h;obtain ⟨a,b,xs,ys,rfl,rfl,ha,hb,hx,hz,q1,q2⟩:=h;cases rx;cases ry;obtain ⟨VI,r1,p1,_⟩:=I.tuple ha;obtain ⟨ZJ,r2,p2,_⟩:=I.tuple hb;refine HT.cat_tup p1 p2 (λz=>hx (r1.nil_iff.mp z)) (λz=>⟨.ref a,H,I,rfl,q1 (r2.nil_iff.mp z)⟩) (λz=>?_) (by rw [<-r1.length,<-r2.length];exact hz);refine ⟨.ref s.heap.objs.size,_,I.laid (t':=s.toks) (o:=.tup (xs++ys)) (λb ob q=>LG _ q) (LF _) ?_,rfl,q2 (λw=>z (r2.nil_iff.mpr w)) _ (I.hok.fresh (LF _))⟩;exact ⟨by rw [LC];exact hz,_,r1.append r2,IsTup.new _ _⟩
end
def Ah (n:Nat) (i:Int):Option Nat:=if 0<=i then (if i<n then some i.toNat else none) else if -(n:Int)<=i then some (i+n).toNat else none
def gN {α:Type} (xs:List α) (i:Int):Option α:=(Ah xs.length i).bind λj=>xs[j]?
theorem Jq {n:Nat} {i:Int} {j:Nat} (h:Ah n i=some j):seqIndex? i n=some j/\j<n/\-(n:Int)<=i/\i<n:=by
 unfold Ah at h
 by_cases h0:0<=i
 ·rw [if_pos h0] at h
  by_cases h1:i<n
  ·rw [if_pos h1] at h;have e:i.toNat=j:=Option.some.inj h;exact ⟨by rw [seqIndex_of h0 h1,e],by omega,by omega,h1⟩
  ·rw [if_neg h1] at h;cases h
 ·rw [if_neg h0] at h
  by_cases h1:-(n:Int)<=i
  ·rw [if_pos h1] at h;have e:(i+n).toNat=j:=Option.some.inj h;exact ⟨by rw [seqIndex_neg (by omega) h1,e],by omega,h1,by omega⟩
  ·rw [if_neg h1] at h;cases h
theorem Aa {α:Type} {xs:List α} {i:Int} {v:α} (h:gN xs i=some v):∃j,seqIndex? i xs.length=some j/\xs[j]? = some v/\j<xs.length/\-(xs.length:Int)<=i/\i<xs.length:=by
 unfold gN at h;cases e:Ah xs.length i with
 | none=>rw [e] at h;cases h
 | some j=>
  rw [e] at h;obtain ⟨h1,h2,h3,h4⟩:=Jq e;exact ⟨j,h1,h,h2,h3,h4⟩
theorem r8 {α:Type} {xs:List α} {j:Nat} {v:α} (h:xs[j]? = some v):gN xs (j:Int)=some v:=by
 have hj:j<xs.length:=(KU.mp h).1;have e:Ah xs.length (j:Int)=some j:=by
  unfold Ah;rw [if_pos (by omega),if_pos (by omega)];simp
 unfold gN;rw [e];exact h
def sJ (b:Expr):Prop:=∀o i,subscripted b false o i=operate [o,i] (getItem o i)
def We (X:Cx) (r:R2):Prop:=
 ∀(value slice:Expr) (pins:List (SO×Obj)) (s:Shared) (σ:St) (H:Hp) (x y:V) (v u:Value) (Q:VK),aY X pins σ H s->bH x v->bH y u->r x y H Q->
  subscripted slice false v u=operate [v,u] (getItem v u)->SU (TC X.prog X.w) X.A (subscriptTail value slice v u) (EP X pins σ Q) X.xe s
def CB (X:Cx) (id:String) (r:V->List V->Hp->VK->Prop):Prop:=
 ∀(pins:List (SO×Obj)) (s:Shared) (σ:St) (H:Hp) (x:V) (xs:List V) (v:Value) (us:List Value) (Q:VK),aY X pins σ H s->bH x v->bE xs us->r x xs H Q->
  SU (TC X.prog X.w) X.A (call (.builtin id) (v::us)) (EP X pins σ Q) X.xe s
section
variable {X:Cx} {a b:Expr} {ta tb:TE} {pos:Pos}
theorem We.or {r r':R2} (h:We X r) (h':We X r'):We X (λx y H Q=>r x y H Q\/r' x y H Q):=by
 intro value slice pins s σ H x y v u Q I rx ry q hs;rcases q with q | q
 ·exact h value slice pins s σ H x y v u Q I rx ry q hs
 ·exact h' value slice pins s σ H x y v u Q I rx ry q hs
theorem EM {r:R2} (hr:We X r) (ha:PE X a ta) (hb:PE X b tb) (hs:sJ b):PE X (.Subscript a b pos) (Rv r ta tb):=by
 intro pins s σ H Q I h;exact Subscript_ (V2 ha hb I h λv u s2 x y H2 I2 rx ry q=>hr a b pins s2 σ H2 x y v u Q I2 rx ry q (hs _ _))
def ES (K:W.Frag):R2:=λx y H Q=>∃p xs i v,x = .ref p/\y = .int i/\j4 K H p xs/\gN xs i=some v/\Q v H
def AK (K:W.Frag):R2:=λx y H Q=>∃p xs i v,x = .ref p/\y = .int i/\rX K H p xs/\gN xs i=some v/\Q v H
def ER:R2:=λx y H Q=>∃z i c,x = .str z/\y = .int i/\z.length<=SX/\gN z.cps.toList i=some c/\Q (.str ⟨#[c]⟩) H
theorem Zl:We X (ES X.K):=by
 intro value slice pins s σ H x y v u Q I rx ry h hs;obtain ⟨p,xs,i,z,rfl,rfl,hq,he,q⟩:=h;cases rx;obtain ⟨t,rfl⟩:=ry;obtain ⟨VI,r,pl,hz⟩:=I.list hq;obtain ⟨j,h1,h2,h3,h4,h5⟩:=Aa he;obtain ⟨w,ew,br⟩:=r.get h2;have hl:=r.length;have hn:=uH;have fin:EP X pins σ Q w s:=⟨z,H,I,br,q⟩
 by_cases h0:0<=i
 ·have hj:i.toNat=j:=by
   rw [seqIndex_of h0 h5] at h1;exact Option.some.inj h1
  exact item_listR pl.isList h0 (by omega) (by rw [hj];simpa using ew) fin hs
 ·have hj:(i+(VI.toArray.size:Int)).toNat=j:=by
   rw [seqIndex_neg (by omega) h4] at h1;rw [LN,<-hl];exact Option.some.inj h1
  exact subscriptTail_builtinR (x:=w) pl.isList.typeIs slot_list_getitem.lookup
   (wpAny_getItem_list_neg (Q:=λr s'=>r=w/\EP X pins σ Q r s') pl.isList (by omega) (by rw [LN]<;>omega) (by omega) (by rw [hj];simpa using ew) ⟨rfl,fin⟩) hs
theorem O3:We X (AK X.K):=by
 intro value slice pins s σ H x y v u Q I rx ry h hs;obtain ⟨p,xs,i,z,rfl,rfl,hq,he,q⟩:=h;cases rx;obtain ⟨t,rfl⟩:=ry;obtain ⟨VI,r,pl,hz⟩:=I.tuple hq;obtain ⟨j,h1,h2,h3,h4,h5⟩:=Aa he;obtain ⟨w,ew,br⟩:=r.get h2;have hl:=r.length;have hn:=uH;have fin:EP X pins σ Q w s:=⟨z,H,I,br,q⟩;exact subscriptTail_builtinR (x:=w) pl.typeIs slot_tuple_getitem.lookup
  (getItem_tuple (j:=j) (Q:=λr s'=>r=w/\EP X pins σ Q r s') pl (by omega) (by omega) (by rw [LN,<-hl];exact h1) (by simpa using ew) ⟨rfl,fin⟩) hs
theorem R4:We X ER:=by
 intro value slice pins s σ H x y v u Q I rx ry h hs;obtain ⟨z,i,c,rfl,rfl,hz,he,q⟩:=h;obtain ⟨t,rfl⟩:=rx;obtain ⟨t',rfl⟩:=ry;obtain ⟨j,h1,h2,h3,h4,h5⟩:=Aa he;have hl:z.cps.toList.length=z.length:=by simp [Str.length]
 rw [hl] at h1 h4 h5;have hn:=uH;exact tail_any (typeIs_str s z t) slot_str_getitem.lookup (getItem_str (c:=c) (by
  have e1:decide (i < -(2^63:Int))=false:=decide_eq_false (by omega);have e2:decide (i>=2^63)=false:=decide_eq_false (by omega);rw [e1,e2,Bool.or_false]) (by rw [h1];simpa using h2) ⟨.str ⟨#[c]⟩,H,I.tok _,⟨_,rfl⟩,q⟩) hs
def KO (K:W.Frag):R2:=λx y H Q=>ES K x y H Q\/AK K x y H Q\/ER x y H Q
theorem So:We X (KO X.K):=Zl.or (O3.or R4)
theorem Ew (VI:List Value) (n j:Nat) (u:Value):OA (·.setIfInBounds j u) { cls:=.type "list",data:=.seq VI.toArray n } = { cls:=.type "list",data:=.seq (VI.set j u).toArray n }:=by
 simp [OA]
theorem aY.lst {pins:List (SO×Obj)} {σ:St} {H:Hp} {s:Shared} {p:SO} {xs:List V} (I:aY X pins σ H s) (h:H p=some (.lst xs)) :
  ∃(VI:List Value) (n:Nat),bE xs VI/\s.heap.get? p=some { cls:=.type "list",data:=.seq VI.toArray n }/\xs.length<=SX:=by
 obtain ⟨z,VI,n,r,e⟩:=I.hok p _ h;exact ⟨VI,n,r,e,z⟩
theorem aY.lstUpd {pins:List (SO×Obj)} {σ:St} {H:Hp} {s:Shared} {p:SO} {xs ys:List V} {VI its':List Value} {n n':Nat} {f:Obj->Obj} (I:aY X pins σ H s) (h:H p=some (.lst xs))
  (ho:s.heap.get? p=some { cls:=.type "list",data:=.seq VI.toArray n }) (hf:f { cls:=.type "list",data:=.seq VI.toArray n } = { cls:=.type "list",data:=.seq its'.toArray n' }) (r:bE ys its') (hz:ys.length<=SX) (t:Nat) :
  aY X pins σ (upd H p (.lst ys)) { s with heap:=s.heap.update p f,toks:=t }:=by
 have e:(s.heap.update p f).get? p=some { cls:=.type "list",data:=.seq its'.toArray n' }:=by
  rw [OJ f ho (by rw [hf]<;>rfl),hf]
 refine I.write (x:=p) (e:=p) (by rw [h];trivial) (.inl rfl) (λb u hb q=>(SD _ _ (Ne.symm hb)).trans q) ⟨_,e⟩ ?_;exact ⟨hz,its',n',r,e⟩
def BH:V->V->V->Hp->(Hp->Prop)->Prop:=λo i v H Q=>∃p xs k j,o = .ref p/\i = .int k/\H p=some (.lst xs)/\Ah xs.length k=some j/\Q (upd H p (.lst (xs.set j v)))
theorem To:V0 X BH:=by
 intro pins s σ H o i v ov iv u Q I ro ri rv h;obtain ⟨p,xs,k,j,rfl,rfl,hp,hj,q⟩:=h;cases ro;obtain ⟨t,rfl⟩:=ri;obtain ⟨VI,n,r,ho,hz⟩:=I.lst hp;obtain ⟨h1,h2,h3,h4⟩:=Jq hj;have hl:=r.length;have hn:=uH;have I':aY X pins σ (upd H p (.lst (xs.set j v))) { s with heap:=s.heap.update p (OA (·.setIfInBounds j u)) }:=
  I.lstUpd hp ho (Ew VI n j u) (r.set rv j) (by rw [RX];exact hz) s.toks
 by_cases h0:0<=k
 ·have hk:k.toNat=j:=by
   rw [seqIndex_of h0 h4] at h1;exact Option.some.inj h1
  exact W.ki_setAt ho h0 (by omega) (by rw [LN,<-hl];exact h4) (by rw [hk];exact ⟨_,I',q⟩)
 ·have hk:(k+(VI.toArray.size:Int)).toNat=j:=by
   rw [seqIndex_neg (by omega) h3] at h1;rw [LN,<-hl];exact Option.some.inj h1
  exact W.ki_setBack ho (by omega) (by rw [LN,<-hl];exact h3) (by omega) (by rw [hk];exact ⟨_,I',q⟩)
theorem yF (lo hi:Option Int) (n:Nat):(UR lo hi none n).1=((HT.sIx n 0 lo:Nat):Int)/\(UR lo hi none n).2.1=((HT.sIx n n hi:Nat):Int)/\(UR lo hi none n).2.2=1:=by
 refine ⟨?_,?_,rfl⟩
 ·cases lo with
  | none=>simp [UR,HT.sIx]
  | some i=>
   simp only [UR,HT.sIx,Option.getD_none,show (1:Int)>0 by decide,if_true]
   by_cases h:i<0
   ·simp only [h,if_true]<;>omega
   ·simp only [h,if_false]<;>omega
 ·cases hi with
  | none=>simp [UR,HT.sIx]
  | some i=>
   simp only [UR,HT.sIx,Option.getD_none,show (1:Int)>0 by decide,if_true]
   by_cases h:i<0
   ·simp only [h,if_true]<;>omega
   ·simp only [h,if_false]<;>omega
theorem vF (VI:List Value) (lo hi:Option Int):slicePick VI.toArray lo hi none=((VI.drop (HT.sIx VI.length 0 lo)).take (HT.sIx VI.length VI.length hi-HT.sIx VI.length 0 lo)).toArray:=by
 obtain ⟨h1,h2,h3⟩:=yF lo hi VI.toArray.size;unfold slicePick;rw [h1,h2,h3];simp only [sliceRange_one,pick_run,LN]<;>rfl
def HG (K:W.Frag):V->Option Int->Option Int->Hp->VK->Prop:=λx lo hi H Q=>∃a xs,x = .ref a/\j4 K H a xs/\∀p,H p=none->Q (.ref p) (upd H p (.lst (Ds xs lo hi)))
theorem Xw:CM X (HG X.K):=by
 intro pins s σ H x v vl vu lo hi sl Q I rx hs pl pu h;obtain ⟨a,xs,rfl,hx,q⟩:=h;cases rx;obtain ⟨VI,r,ht,hz⟩:=I.list hx;have hlen:=r.length;refine ⟨"list",_,slot_list_getitem.lookup,ht.isList.typeIs,?_⟩;refine wpAny_getItem_list_slice ht.isList hs pl pu .none (by simp) ?_ (by rw [LN]<;>omega);rw [vF,<-hlen];refine ⟨.ref s.heap.objs.size,_,I.laid (t':=s.toks) (o:=.lst (Ds xs lo hi)) (λb ob q=>LG _ q) (LF _) ?_,rfl,q _ (I.hok.fresh (LF _))⟩;exact ⟨MG (rE xs lo hi) hz,_,0,(r.drop (HT.sIx xs.length 0 lo)).take (HT.sIx xs.length xs.length hi-HT.sIx xs.length 0 lo),LR _ rfl⟩
theorem yZ:gM X (.builtin "len") (λxs H Q=>∃p ys,xs=[.ref p]/\(j4 X.K H p ys\/rX X.K H p ys)/\Q (.int ys.length) H):=by
 intro pins s σ H xs us Q I r h;obtain ⟨p,ys,rfl,hq,q⟩:=h;obtain ⟨u,rfl,rx⟩:=oZ r;cases rx;have hn:=uH;rcases hq with hq | hq
 ·obtain ⟨VI,r',pl,hz⟩:=I.list hq;have hlen:=r'.length;exact Calls.call_len_list pl.isList (by simp only [LN]<;>omega) ⟨.int ys.length,H,I.tok _,⟨s.toks+1,by rw [LN,hlen]⟩,q⟩
 ·obtain ⟨VI,r',pl,hz⟩:=I.tuple hq;have hlen:=r'.length;exact len_tuple pl (by simp only [LN]<;>omega) ⟨.int ys.length,H,I.tok _,⟨s.toks+1,by rw [LN,hlen]⟩,q⟩
theorem xN:gM X (.type "list") (λxs H Q=>∃p ys,xs=[.ref p]/\(j4 X.K H p ys\/rX X.K H p ys)/\∀l,H l=none->Q (.ref l) (upd H l (.lst ys))):=by
 intro pins s σ H xs us Q I r h;obtain ⟨p,ys,rfl,hq,q⟩:=h;obtain ⟨u,rfl,rx⟩:=oZ r;cases rx;have fin:∀(VI:List Value),bE ys VI->ys.length<=SX->∀(h':Heap) (c':Nat),(∀b o',s.heap.get? b=some o'->h'.get? b=some o')->
   h'.get? s.heap.objs.size=some { cls:=.type "list",dict:=none,data:=.seq VI.toArray c',slots:=#[] }->EP X pins σ Q (.ref s.heap.objs.size) { s with heap:=h' }:=λVI r' hz h' c' kp e=>
  ⟨.ref s.heap.objs.size,_,I.laid (t':=s.toks) kp (LF _) (show dU X.prog X.w _ h' _ (.lst ys) from ⟨hz,VI,c',r',e⟩),rfl,q _ (I.hok.fresh (LF _))⟩
 rcases hq with hq | hq
 ·obtain ⟨VI,r',pl,hz⟩:=I.list hq;have hlen:=r'.length;obtain ⟨o,ho,hc,n,hd⟩:=pl.isList;exact call_list_seq p (.inl rfl) ho hc hd (λh' c' kp e=>fin VI r' hz h' c' kp e) (by simp only [LN]<;>omega)
 ·obtain ⟨VI,r',pl,hz⟩:=I.tuple hq;have hlen:=r'.length;obtain ⟨o,ho,hc,n,hd⟩:=pl;exact call_list_seq p (.inr rfl) ho hc hd (λh' c' kp e=>fin VI r' hz h' c' kp e) (by simp only [LN]<;>omega)
theorem vI:gM X (.type "tuple") (λxs H Q=>∃p ys,xs=[.ref p]/\((j4 X.K H p ys/\∀l,H l=none->Q (.ref l) (upd H l (.tup ys)))\/(rX X.K H p ys/\Q (.ref p) H))):=by
 intro pins s σ H xs us Q I r h;obtain ⟨p,ys,rfl,h⟩:=h;obtain ⟨u,rfl,rx⟩:=oZ r;cases rx;rcases h with ⟨hq,q⟩ | ⟨hq,q⟩
 ·obtain ⟨VI,r',pl,hz⟩:=I.list hq;have hlen:=r'.length;refine call_tuple_list pl.isList (λh' kp=>?_) (by simp only [LN]<;>omega);have I1:aY X pins σ H { s with heap:=h' }:=I.kept (t':=s.toks) kp;have I2:aY X pins σ (upd H h'.objs.size (.tup ys)) { s with heap:=h'.push { cls:=.type "tuple",data:=.seq VI.toArray } }:=
   I1.laid (t':=s.toks) (λb o e=>LG _ e) (LF _) (show dU X.prog X.w _ _ _ (.tup ys) from ⟨hz,VI,r',IsTup.new _ _⟩)
  exact ⟨.ref h'.objs.size,_,I2,rfl,q _ (I1.hok.fresh (LF _))⟩
 ·obtain ⟨VI,r',pl,hz⟩:=I.tuple hq;exact call_tuple_same pl ⟨.ref p,H,I,rfl,q⟩
def HF (K:W.Frag) (T:String) (x:V) (H:Hp):Prop:=match x with
 | .str _=>T = "str"
 | .int _=>T = "int"
 | .ref p=>(T = "list"/\∃xs,j4 K H p xs)\/(T = "tuple"/\∃o,K.lookup p=some o/\o.cls = .type "tuple"/\o.dict=none)\/
   (T = "dict"/\((∃VV,H p=some (.dK VV))\/∃VV,H p=some (.dT VV)))\/(T = "set"/\∃S n,H p=some (.set S n))
 | _=>False
theorem Qg {pins:List (SO×Obj)} {σ:St} {H:Hp} {s:Shared} {T:String} {x:V} {v:Value} (I:aY X pins σ H s) (r:bH x v) (ty:HF X.K T x H) :
  s.TypeIs v T/\∀a,v = .ref a->∃ob,s.heap.get? a=some ob/\ob.dict=none:=by
 cases x with
 | str z=>
  obtain ⟨t,rfl⟩:=r;cases (show T = "str" from ty);exact ⟨typeIs_str s z t,λ_ e=>nomatch e⟩
 | int i=>
  obtain ⟨t,rfl⟩:=r;cases (show T = "int" from ty);exact ⟨typeIs_int s i t,λ_ e=>nomatch e⟩
 | ref p=>
  cases r;rcases ty with ⟨rfl,xs,hq⟩ | ⟨rfl,o,hk,hc,hd⟩ | ⟨rfl,hk⟩ | ⟨rfl,S,n,hk⟩
  ·obtain ⟨VI,_,pl,_⟩:=I.list hq;refine ⟨pl.isList.typeIs,λa e=>?_⟩;cases e;obtain ⟨o,n,e,c,hd,_⟩:=pl;exact ⟨o,e,hd⟩
  ·refine ⟨⟨o,I.kIn p o hk,hc⟩,λa e=>?_⟩;cases e;exact ⟨o,I.kIn _ o hk,hd⟩
  ·have z:∃o,s.heap.get? p=some o/\o.ExactDict:=by
    rcases hk with ⟨VV,hk⟩ | ⟨VV,hk⟩
    ·obtain ⟨_,_,_,_,o,_,_,e,ex,_⟩:=I.hok p _ hk;exact ⟨o,e,ex⟩
    ·obtain ⟨_,_,_,_,o,_,_,e,ex,_⟩:=I.hok p _ hk;exact ⟨o,e,ex⟩
   obtain ⟨o,e,ex⟩:=z;refine ⟨⟨o,e,ex.1⟩,λa e2=>?_⟩;cases e2;exact ⟨o,e,ex.2.1⟩
  ·obtain ⟨o,_,_,_,e,ex,_⟩:=I.hok p _ hk;refine ⟨⟨o,e,ex.1⟩,λa e2=>?_⟩;cases e2;exact ⟨o,e,ex.2.1⟩
 | _=>exact False.elim ty
def CO (K:W.Frag) (T:String) (r:V->List V->Hp->VK->Prop) (to:TE):TE:=λσ H Q=>to σ H λx H1=>HF K T x H1/\r x [] H1 Q
def EL (K:W.Frag) (T:String) (r:V->List V->Hp->VK->Prop) (to:TE) (t:TA):TE:=λσ H Q=>to σ H λx H1=>HF K T x H1/\t σ H1 λxs H2=>r x xs H2 Q
variable {o e:Expr} {es:List Expr} {to:TE} {t:TA} {name:Str} {apos XM:Pos} {T id:String} {r:V->List V->Hp->VK->Prop}
theorem R5 (pa:PlainAttrs T) (slot:Slot T name id) (qo:typeOf (.builtin id)=pure (.type "method_descriptor")) (hm:CB X id r) (ho:PE X o to)
  (WN:TV o name X.env (TL o X.env)=TL o X.env:=by rfl) (WO:(apos.endLine==XM.line)=true:=by rfl):PE X (.Call (.Attribute o name apos) [] [] XM) (CO X.K T r to):=by
 intro pins s σ H Q I h;refine wpAny_Call_method0_late WN WO (dM (ho pins s σ H _ I h) λv s1 ⟨x,H1,I1,r1,ty,q1⟩=>?_);obtain ⟨h1,h2⟩:=Qg I1 r1 ty;exact ⟨T,id,pa,slot,qo,h1,h2,Calls.callWith_builtin rfl (PySem.evalArgs_none (hm pins s1 σ H1 x [] v [] Q I1 r1 .nil q1))⟩
theorem Jv (pa:PlainAttrs T) (slot:Slot T name id) (qo:typeOf (.builtin id)=pure (.type "method_descriptor")) (hm:CB X id r) (ho:PE X o to) (ha:PA X (e::es) t)
  (WN:TV o name X.env (TL o X.env)=TL o X.env:=by rfl)
  (wz:((UI XM (TJ (e::es) X.env)).all (λx=>!x.1)&&(backToKw XM (keywordEach [] X.env)).all (λx=>x.1.isSome)
  &&decide ((e::es).length+([]:List Keyword).length+(if ([]:List Keyword).isEmpty then 0 else 1)<30))=true:=by rfl)
  (WO:(apos.endLine==XM.line)=true:=by rfl) (hs:TJ (e::es) X.env=(false,TL e X.env)::TJ es X.env:=by rfl) (ke:(UI XM (TJ es X.env)).any (·.1)=false:=by rfl) :
  PE X (.Call (.Attribute o name apos) (e::es) [] XM) (EL X.K T r to t):=by
 intro pins s σ H Q I h;refine wpAny_Call_method_late WN wz WO rfl (dM (ho pins s σ H _ I h) λv s1 ⟨x,H1,I1,r1,ty,q1⟩=>?_);obtain ⟨h1,h2⟩:=Qg I1 r1 ty;refine ⟨T,id,pa,slot,qo,h1,h2,?_⟩;have hA:=ha XM pins s1 σ H1 _ I1 q1;rw [hs] at hA ⊢;refine Calls.callWith_builtin (by show (false||(UI XM (TJ es X.env)).any (·.1))=false;rw [ke]<;>rfl) (Calls.evalArgs_plain ?_);exact dM hA λus s2 ⟨vs,H2,I2,r2,q2⟩=>hm pins s2 σ H2 x vs v us Q I2 r1 r2 q2
/- xs.append(e),list.index on a module's tuple .. are CB facts of 06m -/
end
def FT (X:Cx) (id:String) (r:V->List V->Hp->VK->Prop):Prop:=
 ∀(pins:List (SO×Obj)) (s:Shared) (σ:St) (H:Hp) (x:V) (xs:List V) (v:Value) (us:List Value) (Q:VK),aY X pins σ H s->bH x v->bE xs us->r x xs H Q->
  SU (TC X.prog X.w) X.A (call (.builtin id) (v::us)) (EP X pins σ Q) X.xe s
theorem bE.one:∀{x:V} {us:List Value},bE [x] us->∃u,us=[u]/\bH x u
 | _,_,.cons r .nil=>⟨_,rfl,r⟩
theorem bE.two:∀{x y:V} {us:List Value},bE [x,y] us->∃u v,us=[u,v]/\bH x u/\bH y v
 | _,_,_,.cons r (.cons q .nil)=>⟨_,_,rfl,r,q⟩
theorem bE.zero:∀{us:List Value},bE [] us->us=[]
 | _,.nil=>rfl
theorem bE.dropLast {xs:List V} {us:List Value} (h:bE xs us):bE xs.dropLast us.dropLast:=by
 induction h with
 | nil=>exact .nil
 | cons r t ih=>
  cases t with
  | nil=>exact .nil
  | cons q t'=>exact .cons r ih
theorem Fz {α:Type} (l:List α):l.eraseIdx (l.length-1)=l.dropLast:=by
 induction l with
 | nil=>rfl
 | cons a r ih=>
  cases r with
  | nil=>rfl
  | cons b r=>
   have e:(a::b::r).length-1=((b::r).length-1)+1:=by
    have h1:(a::b::r).length=r.length+2:=rfl;have h2:(b::r).length=r.length+1:=rfl;omega
   rw [e,List.eraseIdx_cons_succ,ih]
   all_goals rfl
section
variable {X:Cx} {pins:List (SO×Obj)} {σ:St} {H:Hp} {s:Shared} {l b:SO} {xs ys zs:List V}
theorem aY.lset {VI its':List Value} {n:Nat} {f:Array Value->Array Value} {t':Nat} (I:aY X pins σ H s) (hH:H l=some (.lst xs))
  (e:s.heap.get? l=some { cls:=.type "list",data:=.seq VI.toArray n }) (hf:f VI.toArray=its'.toArray) (hv:bE ys its') (hz:ys.length<=SX) :
  aY X pins σ (upd H l (.lst ys)) { s with heap:=s.heap.update l (OA f),toks:=t' }:=by
 have q:=PySem.IsL.update e f;rw [hf] at q;refine I.write (x:=l) (e:=l) (by rw [hH];exact trivial) (.inl rfl) (λb' u hb hu=>(SD s.heap (OA f) (Ne.symm hb)).trans hu) ⟨_,q⟩ ?_;exact ⟨hz,its',_,hv,q⟩
theorem aY.lnew {VI:List Value} {t':Nat} (I:aY X pins σ H s) (hv:bE ys VI) (hz:ys.length<=SX) :
  aY X pins σ (upd H s.heap.objs.size (.lst ys)) { s with heap:=s.heap.push { cls:=.type "list",data:=.seq VI.toArray },toks:=t' }:=
 I.laid (λ_ _ q=>LG _ q) (LF _) ⟨hz,VI,0,hv,LR _ rfl⟩
theorem aY.fresh (I:aY X pins σ H s):H s.heap.objs.size=none:=I.hok.fresh (LF _)
theorem aY.lstM (I:aY X pins σ H s) (hH:H l=some (.lst xs)):xs.length<=SX/\∃(VI:List Value) (n:Nat),bE xs VI/\xs.length=VI.length/\s.heap.get? l=some { cls:=.type "list",data:=.seq VI.toArray n }:=by
 obtain ⟨z,VI,n,r,e⟩:=I.hok l _ hH;exact ⟨z,VI,n,r,r.length,e⟩
theorem Tg {n:Nat} (h:n<=SX):Builtin.List.listTooLong n=false:=by
 unfold Builtin.List.listTooLong;exact decide_eq_false (by omega)
end
section
variable {X:Cx}
def Ih:V->List V->Hp->VK->Prop:=λx vs H Q=>∃l xs y,x = .ref l/\vs=[y]/\H l=some (.lst xs)/\xs.length<SX/\Q .non (upd H l (.lst (xs++[y])))
theorem xB:FT X "list.append" Ih:=by
 intro pins s σ H x vs v us Q I rx rv h;obtain ⟨l,xs,y,rfl,rfl,hH,hz,q⟩:=h;cases rx;obtain ⟨u,rfl,ru⟩:=rv.one;obtain ⟨z,VI,n,r,hl,e⟩:=I.lstM hH;refine call_meets F.slot_list_append ⟨_,e,rfl⟩ F.entry_list_append (F.args_list_append_2 _ _) (PySem.list_append l VI.toArray n u (by rw [LN];omega)) ⟨e,?_⟩;refine ⟨.non,_,I.lset (its':=VI++[u]) hH e (by simp) (r.append (.cons ru .nil)) ?_,rfl,q⟩;rw [LC,ME];omega
def Lu:V->List V->Hp->VK->Prop:=λx vs H Q=>∃l b xs zs,x = .ref l/\vs=[.ref b]/\H l=some (.lst xs)/\H b=some (.lst zs)/\xs.length+zs.length<=SX/\Q .non (upd H l (.lst (xs++zs)))
theorem Nm:FT X "list.extend" Lu:=by
 intro pins s σ H x vs v us Q I rx rv h;obtain ⟨l,b,xs,zs,rfl,rfl,hH,hB,hz,q⟩:=h;cases rx;obtain ⟨u,rfl,ru⟩:=rv.one;cases ru;obtain ⟨z,VI,n,r,hl,e⟩:=I.lstM hH;obtain ⟨z2,ZJ,n2,r2,jj,e2⟩:=I.lstM hB;have aw:VI.toArray.size+ZJ.toArray.size<=SX:=by rw [LN,LN];omega
 have qp:¬(!VI.toArray.isEmpty&&Builtin.List.listTooLong (VI.toArray.size+ZJ.toArray.size))=true:=by
  rw [Tg aw,SG];exact OY
 refine call_meets F.slot_list_extend ⟨_,e,rfl⟩ F.entry_list_extend (F.args_list_extend_2 _ _)
  (AutoSeq1.list_extend_list_list_0 l VI.toArray n b ZJ.toArray n2 qp (by rw [LN];omega) (by omega)) ⟨e,e2,?_⟩
 refine ⟨.non,_,I.lset (its':=VI++ZJ) hH e (by simp) (r.append r2) ?_,rfl,q⟩;rw [LC];omega
def EO:V->List V->Hp->VK->Prop:=λx vs H Q=>∃l xs y,x = .ref l/\vs=[]/\H l=some (.lst xs)/\xs[xs.length-1]? = some y/\Q y (upd H l (.lst xs.dropLast))
theorem Z8:FT X "list.pop" EO:=by
 intro pins s σ H x vs v us Q I rx rv h;obtain ⟨l,xs,y,rfl,rfl,hH,hy,q⟩:=h;cases rx;have xb:=rv.zero;subst xb;obtain ⟨z,VI,n,r,hl,e⟩:=I.lstM hH;obtain ⟨u,hu,ru⟩:=r.get hy;have qq:VI.toArray[VI.toArray.size-1]? = some u:=by
  show VI.toArray[VI.length-1]? = some u;rw [<-SH,<-hl];exact hu
 refine call_meets F.slot_list_pop ⟨_,e,rfl⟩ F.entry_list_pop (F.args_list_pop_1 _) (MeetsSeq.list_pop_last l VI.toArray n u qq (by rw [LN];omega)) ⟨e,?_⟩;refine ⟨y,_,I.lset (its':=VI.dropLast) hH e ?_ r.dropLast ?_,ru,q⟩
 ·show VI.toArray.eraseIdxIfInBounds (VI.toArray.size-1)=VI.dropLast.toArray;rw [LN,List.eraseIdxIfInBounds_toArray,Fz]
 ·rw [List.length_dropLast];omega
def HB:R2:=λx y H Q=>∃l b xs zs,x = .ref l/\y = .ref b/\H l=some (.lst xs)/\H b=some (.lst zs)/\xs.length+zs.length<=SX/\∀p,H p=none->Q (.ref p) (upd H p (.lst (xs++zs)))
theorem M8:mB X (UA .Add) HB:=by
 intro pins s σ H x y v u Q I rx ry h;obtain ⟨l,b,xs,zs,rfl,rfl,hH,hB,hz,q⟩:=h;cases rx;cases ry;obtain ⟨z,VI,n,r,hl,e⟩:=I.lstM hH;obtain ⟨z2,ZJ,n2,r2,jj,e2⟩:=I.lstM hB;refine PySem.P.add_list e e2 ?_ (by rw [LN,LN];omega);have ea:VI.toArray++ZJ.toArray=(VI++ZJ).toArray:=by simp
 rw [ea];exact ⟨.ref _,_,I.lnew (t':=s.toks) (r.append r2) (by rw [LC];omega),rfl,q _ I.fresh⟩
end
section
variable {prog:SS} {w:SW} {A:Around} {E:Value->Shared->Prop} {s:Shared}
set_option maxRecDepth 100000 in
end
end L2
namespace Att
open PySem PySem.W PySem.Calls PyProof.Rows
theorem rT {P:Params} {h:Heap}:∀(ns:List Int) (vs:List Value),WellAll P h vs (ns.map WData.int)->IntsAre vs ns:=by
 intro ns
 induction ns with
 | nil=>
  intro vs w;rw [OS] at w;cases w;exact .nil
 | cons n ns ih=>
  intro vs w;rw [MO] at w;cases w with
  | cons a b=>
   cases a;exact .cons _ _ (ih _ b)
theorem Oq {l:OpenLaw} {n:Nat} (hn:l.most=some n) {P:Params} {h:Heap} {args:List WData} {vals:List Value}
  (fw:l.row.toRowW.claim.pre args=true) (xc:WellAll P h vals args) :
  ∃a vs ns,vals=[MX a]/\args=[WData.list (ns.map WData.int)]/\h.get? a=some { cls:=.type "list",data:=.seq vs.toArray }/\IntsAre vs ns/\ns.length<=n:=by
 have kh:WShape.hasAll [] args [.list .int]=true:=(pre_splitW fw).1;have hc:l.pre.holds [] { args:=args } = true:=(pre_splitW fw).2;obtain ⟨d,r,rfl,h1,h2⟩:=hasAllW_cons kh;obtain rfl:=hasAllW_nil h2;obtain ⟨xs,rfl,h3⟩:=hasW_list h1;obtain ⟨ns,rfl⟩:=items_int h3;have hlen:ns.length<=n:=by
  unfold OpenLaw.pre at hc;have h4:(WTm.not (.lt (.lit (.int (n:Int))) (.len (.arg 0)))).holds [] { args:=[.list (ns.map .int)] } = true:=by
   have h4:=(holds_andW hc).1;rw [hn] at h4;exact h4
  have h5:=condW_of h4 (w_not (w_lt w_lit (w_len_list (w_arg rfl))));rw [KW] at h5;refine Nat.le_of_not_lt λq=>?_;have q':(n:Int)<((ns.length:Nat):Int):=by omega
  first
   | (rw [decide_eq_true q'] at h5;exact absurd h5 (by decide))
   | (simp at h5;omega)
 cases xc with
 | cons w1 w2=>
  cases w2;cases w1 with
  | list ho ki=>exact ⟨_,_,ns,rfl,rfl,ho,rT ns _ ki,hlen⟩
theorem Od (l:OpenLaw) (args:List WData):l.row.toRowW.claim.post args (.bool true) args=true:=
 postW_of (r:=l.row.toRowW) (X:=(true==true))
  (show WShape.has [] (.bool true) .bool=true by first | rfl | decide | simp [WShape.has,WShape.arms,WShape.armsAll])
  (show (WTm.eq .res (.lit (.bool true))).value [] { args:=args,res:=some (.bool true),after:=args } = some (.bool (true==true)) from w_eq_bool (w_res rfl) w_lit) rfl
theorem attach_call {l:OpenLaw} {n:Nat} {q:SS} {loose:List Str} {XP:(Str->Option Value)->Heap->Prop} {YP:SW->Heap->Prop} {d:DefRec}
  (hn:l.most=some n) (qr:d.params.defaults=[])
  (call:∀(w:SW) (s₀ s₁:Shared) (mg mb:Str->Option Value) (fa:SO) (o:Obj) (pm cd doc:Value) (a:SO) (vs:List Value) (ns:List Int),
   Ground q loose [] XP w s₀ mg mb s₁.heap->YP w s₁.heap->
   s₁.heap.get? fa=some o->o.data = .func (docDef d.name d.params d.body d.scope pm cd doc)->s₁.heap.CodeRec cd d.name->mg d.name=some (.ref fa)->
   s₁.heap.get? a=some { cls:=.type "list",data:=.seq vs.toArray }->IntsAre vs ns->ns.length<=n->s₁.gens = #[]->
   codeAny (TC l.prog w) VG (.call (.ref fa) ⟨[.ref a],[]⟩) (λr s'=>r = .ok (.ret (.bool true))/\OldK s₁.heap s'.heap/\s'.os=s₁.os/\UU s'.gens) s₁) :
  WalkO q loose XP YP l.row.toRowW d [] (λf vs=>PySem.call f vs):=by
 intro w s₀ s₁ mg mb G Y fa o pm cd doc dV kV ho hd ZH hD hmg hg args vals as fw aCY hrd xc hlo;obtain rfl:dV = .none:=Dflts.none hD qr;obtain rfl:kV = .none:=Dflts.noKw hD;obtain ⟨a,vs,ns,rfl,rfl,km,hints,hlen⟩:=Oq hn fw xc;refine enter_call (codeAny_mono (call w s₀ s₁ mg mb fa o pm cd doc a vs ns G Y ho (fd_plain hd) ZH hmg km hints hlen hg) λr s' hq=>?_);obtain ⟨rfl,h2,h3,h4⟩:=hq;exact ⟨.inl ⟨.bool true,.bool true,[],rfl,λ_=>rfl,.bool true,Od l _,λ_=>⟨List.Pairwise.nil,λ_ hm=>(nomatch hm)⟩⟩,h2,h3,h4⟩
end Att
namespace L2
open PySem PySem.Spec PyProof.Rows
theorem wJ:∀{vs:List Value} {ns:List Int},IntsAre vs ns->bE (ns.map V.int) vs
 | _,_,.nil=>.nil
 | _,_,.cons n t h=>.cons ⟨t,rfl⟩ (wJ h)
def T7 (H:Hp):Prop:=∀b,H b=none\/∃o xs,H b=some (.frz o (.lst xs))
theorem Va {P:SS} {w:SW} {K:W.Frag} {mg mb:Str->Option Value} {CX:Eh} {k:Nat} {fa a:SO} {fd:SR} {x:Str} {sp:Sp} {s₁:Shared} {vs:List Value} {ns:List Int}
  (KX:K.In s₁.heap) (bt:s₁.heap.Ns SY mg) (hb:s₁.heap.Ns builtinsNs mb) (hbb:∀x:Str,x≠"__name__"->mb x=TF x) (xf:s₁.heap.NoLimit) (hg:s₁.gens = #[])
  (ha:s₁.heap.get? a=some { cls:=.type "list",data:=.seq vs.toArray }) (hi:IntsAre vs ns) (hl:ns.length<=SX) (hr:dW k VG)
  (F:∀base:Heap,K.In base->base.Ns SY mg->bF P w K mg base CX k fa fd [x] sp) (qt:∀(s:Shared) (u:Value),BindsTo s fd ⟨[u],[]⟩ [(x,u)])
  (ji:∀H:Hp,T7 H->j4 K H a (ns.map V.int)->sp [.ref a] H (λv _=>v = .bl true) λ_ _ _=>False)
  (xg:∀H e s',CX [] H s₁ (λ_ _ _=>False) e s'->False) :
  codeAny (TC P w) VG (.call (.ref fa) ⟨[.ref a],[]⟩) (λr s'=>r = .ok (.ret (.bool true))/\OldK s₁.heap s'.heap/\s'.os=s₁.os/\UU s'.gens) s₁:=by
 have rv:=wJ hi;have xh:=hi.length
 -- from an abstract heap in which nothing but the script may be tracked
 have core:∀H:Hp,T7 H->j4 K H a (ns.map V.int)->nM P w H s₁.heap->(∀b,H b≠none->b=a)->(H a≠none->K.lookup a=none)->
   codeAny (TC P w) VG (.call (.ref fa) ⟨[.ref a],[]⟩) (λr s'=>r = .ok (.ret (.bool true))/\OldK s₁.heap s'.heap/\s'.os=s₁.os/\UU s'.gens) s₁:=by
  intro H hO hS hok hA hK;have ah:∀{b:SO} {o:Obj},s₁.heap.get? b=some o->H b=none->(zO s₁.heap H).get? b=some o:=λe n=>Pp e n;have qh:∀{b:SO} {o:Obj} {es:Array DictEntry} {ep:Nat},s₁.heap.get? b=some o->o.data = .dict es ep->H b=none:=λ{b o es ep} e d=>by
   cases q:H b with
   | none=>rfl
   | some u=>
    have e':b=a:=hA b (by rw [q];simp);subst e';rw [ha] at e;cases e;have d':Data.seq vs.toArray _=Data.dict es ep:=d;cases d'
  have vg:∀{b:SO} {m:Str->Option Value},s₁.heap.Ns b m->(zO s₁.heap H).Ns b m:=λ{b m} ⟨o,es,ep,e,d,r⟩=>⟨o,es,ep,ah e (qh e d),d,r⟩;have hKb:K.In (zO s₁.heap H):=λb o e=>ah (KX b o e) (by
   cases q:H b with
   | none=>rfl
   | some u=>
    have e':b=a:=hA b (by rw [q];simp);subst e';rw [hK (by rw [q];simp)] at e;cases e)
  have hM:Mod K mg (zO s₁.heap H):=⟨hKb,vg bt,⟨mb,vg hb,hbb⟩,let ⟨mc,h1,h2⟩:=xf;⟨mc,vg h1,h2⟩⟩;have e0:A8 P w K mg (zO s₁.heap H) VG [] s₁ H:=⟨rfl,hM,λb o e=>Zs e,Nat.le_of_eq (Nj _ _),trivial,λb hb=>absurd (show b∈([]:List SO) from hb) (by simp),hok,.of_eq hg⟩;refine codeAny_mono ((F _ hKb (vg bt)).run VG [] s₁ H ⟨[.ref a],[]⟩ [.ref a] [.ref a] _ _ hr e0 (qt s₁ (.ref a)) (.cons rfl .nil) (ji H hO hS)) λr s' h=>?_;cases r with
  | error e=>exact (xg H e s' h).elim
  | ok fl=>
   cases fl with
   | next=>exact False.elim h
   | brk=>exact False.elim h
   | cont=>exact False.elim h
   | ret u=>
    obtain ⟨v,H',os,bare,un,kn,r',q⟩:=h;have q':v = .bl true:=q;subst q';obtain rfl:u=SJ true:=r';refine ⟨rfl,OldK.of_keep λb o e=>?_,os,bare⟩;cases q:H b with
    | none=>exact un.keep b o e q (by intro z;exact absurd (show b∈([]:List SO) from z) (by simp)) (by simp)
    | some u=>
     rcases hO b with z | ⟨ob,xs,z⟩
     ·rw [q] at z;cases z
     ·have z2:=un.frzs b ob _ z;obtain ⟨e1,_⟩:=hok b _ z;obtain ⟨e2,_⟩:=kn b _ z2;rw [e] at e1;cases e1;exact e2
 cases hk:K.lookup a with
 | some o=>
  -- the script is one of the module's own objects
  have e:=KX a o hk;rw [ha] at e;cases e;refine core (λ_=>none) (λ_=>.inl rfl) (.inr ⟨_,vs.toArray,_,hk,rfl,rfl,rfl,by rw [LN,xh];exact hl,by simpa using rv⟩) (λb u z=>by have z':(none:Option HO)=some u:=z;cases z') (λb z=>absurd rfl z) λz=>absurd rfl z
 | none=>
  refine core (λb=>if b=a then some (.frz { cls:=.type "list",data:=.seq vs.toArray } (.lst (ns.map V.int))) else none) (λb=>?_) (.inl (.inr ⟨{ cls:=.type "list",data:=.seq vs.toArray },if_pos rfl⟩)) (λb u z=>?_) (λb z=>?_) λ_=>hk
  ·by_cases hb:b=a
   ·exact .inr ⟨_,_,if_pos hb⟩
   ·exact .inl (if_neg hb)
  ·by_cases hb:b=a
   ·have z':=(if_pos hb).symm.trans z;cases z';subst hb;exact ⟨ha,by rw [KW];exact hl,vs,_,rv,ha⟩
   ·have z':=(if_neg hb).symm.trans z;cases z'
  ·by_cases hb:b=a
   ·exact hb
   ·exact absurd (if_neg hb) z
theorem Wo {l:W.OpenLaw} {n k:Nat} {q:SS} {loose:List Str} {XP:(Str->Option Value)->Heap->Prop} {YP:SW->Heap->Prop} {d:DefRec} {K:Params->W.Frag} {CX:SW->Eh} {sp:SW->Sp} {x:Str}
  (hn:l.most=some n) (hn2:n<=SX) (qr:d.params.defaults=[]) (hr:dW k VG)
  (hY:∀(w:SW) (h:Heap),YP w h->(K w.params).In h)
  (F:∀(w:SW) (mg:Str->Option Value) (fa:SO) (h:Heap),(K w.params).In h->h.Ns SY mg->mg d.name=some (.ref fa)->
   ∃fd:SR,(∀(s:Shared) (u:Value),BindsTo s fd ⟨[u],[]⟩ [(x,u)])/\
    ∀base:Heap,(K w.params).In base->base.Ns SY mg->bF l.prog w (K w.params) mg base (CX w) k fa fd [x] (sp w))
  (ji:∀(w:SW) (H:Hp) (a:SO) (ns:List Int),ns.length<=n->T7 H->j4 (K w.params) H a (ns.map V.int)->sp w [.ref a] H (λv _=>v = .bl true) λ_ _ _=>False)
  (xg:∀(w:SW) (H:Hp) (s:Shared) (e:Value) (s':Shared),CX w [] H s (λ_ _ _=>False) e s'->False) :
  W.WalkO q loose XP YP l.row.toRowW d [] (λf vs=>PySem.call f vs):=by
 refine Att.attach_call hn qr λw s₀ s₁ mg mb fa o pm cd doc a vs ns G Y ho hd ZH hmg km hints hlen hg=>?_;have KX:=hY w _ Y;obtain ⟨fd,hb,hF⟩:=F w mg fa _ KX G.T.g hmg;exact Va KX G.T.g G.T.b G.T.builtins G.T.nolimit hg km hints (MG hlen hn2) hr hF hb (λH hO hS=>ji w H a ns hlen hO hS) λH e s'=>xg w H s₁ e s'
end L2
/- THE LAST THEOREM (shape;LID,My.* are yours):
   My.Adr: a structure of the addresses that your layer names (classes,functions);My.Txt K t: a structure (Prop) of the equations over K;
   My.txt_mk:{K} {implicit addresses ..} (e1:nsIn K SY "law" = some (some (.ref f))) (e2:K.lookup f=some ⟨oc,od,.func (fnOf "law" "law" params body scope dV kV doc pm an VS ct),sl⟩) (e3:codeIn K VS "law" = true) .. : ∃t,My.Txt K t
set_option maxRecDepth 100000 in
set_option maxHeartbeats 0 in
(the tactic k_is has no namespace: write k_is) -/
namespace L2
open PySem PySem.Spec PyProof.Rows
def gF (s:TB):Arguments:=match s with
 | .FunctionDef _ a _ _ _ _ _ _ _ _=>a
 | _=>{ posonlyargs:=[],args:=[],vararg:=none,kwonlyargs:=[],kw_defaults:=[],kwarg:=none,defaults:=[] }
def dZ (s:TB):List TB:=match s with
 | .FunctionDef _ _ b _ _ _ _ _ _ _=>b
 | _=>[]
def aG (s:TB):TR:=match s with
 | .FunctionDef _ _ _ _ _ _ sc _ _ _=>sc
 | _=>{ kind:=.function,names:=[],isGenerator:=false,isCoroutine:=false }
abbrev e9:Eh:=λ_ _ _ _ _ _=>False
abbrev E0:XK:=λ_ _ _=>False
theorem DF {X:Cx}:Gm e9 X E0:=λ_ _ _ _ _ _ _ h=>h.elim
structure eM (K:W.Frag) (x qual:Str) (st:TB) (f:SO) (fd:SR):Prop where
 ex:∃(oc:Value) (od:Option SO) (kV doc pm:Value) (an:Option SO) (VS ct:Value) (jh:Array (Option Value)),
  fd=W.fnOf x qual (gF st) (dZ st) (aG st) .none kV doc pm an VS ct/\K.lookup f=some ⟨oc,od,.func fd,jh⟩/\W.codeIn K VS qual=true
 kp:W.keepIn K (.ref f)=true
section
variable {P:SS} {w:SW} {K:W.Frag} {mg:Str->Option Value} {base:Heap}
theorem eM.ok {x qual:Str} {st:TB} {f:SO} {fd:SR} {N ps:List Str} {k:Nat} {sp:Sp} (F:eM K x qual st f fd) (S:aL N ps (aG st)) (len:∀vs H Q E,sp vs H Q E->vs.length=ps.length)
  (ZI:∀(VS:Value) (A:Around) (outer:List Env) (s:Shared) (H:Hp) (vs:List V) (Q:VK) (E:XK),dW k (A.deeper (UZ qual (aG st) s.heap.objs.size f VS))->sp vs H Q E->
   ∃t,Ki (Cn e9 P w K mg base N qual (aG st) f VS A outer s H E).nox (dZ st) t/\t { nx:=λ_ H'=>Q .non H',rt:=Q } (lN N vs) H):bF P w K mg base e9 (k+1) f fd ps sp:=by
 obtain ⟨oc,od,kV,doc,pm,an,VS,ct,jh,rfl,lk,ZH⟩:=F.ex;refine CA lk ZH S len λA outer s H vs Q E hr ji=>?_;obtain ⟨t,h,q⟩:=ZI VS A outer s H vs Q E hr ji;exact ⟨t,h.nox,q⟩
theorem eM.binds {x qual:Str} {st:TB} {f:SO} {fd:SR} {ps:List Str} (F:eM K x qual st f fd)
  (h:∀(kV doc pm:Value) (an:Option SO) (VS ct:Value) (us:List Value),us.length=ps.length->bindArgs (W.fnOf x qual (gF st) (dZ st) (aG st) .none kV doc pm an VS ct) ⟨us,[]⟩=pure (ps.zip us)):j9 K fd ps []:=by
 obtain ⟨oc,od,kV,doc,pm,an,VS,ct,jh,rfl,lk,ZH⟩:=F.ex;exact .all (h kV doc pm an VS ct)
theorem Ex {x qual:Str} {st:TB} {f:SO} {oc:Value} {od an:Option SO} {jh:Array (Option Value)} {kV doc pm VS ct:Value} (l:K.lookup f=some ⟨oc,od,.func (W.fnOf x qual (gF st) (dZ st) (aG st) .none kV doc pm an VS ct),jh⟩)
  (c:W.codeIn K VS qual=true) (k:W.keepIn K (.ref f)=true):eM K x qual st f (W.fnOf x qual (gF st) (dZ st) (aG st) .none kV doc pm an VS ct):=⟨⟨oc,od,kV,doc,pm,an,VS,ct,jh,rfl,l,c⟩,k⟩
end
theorem DN {A:Around} {k:Nat} (hr:dW k A):A.units+1<UX:=MF (Nat.add_le_add_left (by decide:1<=64) _) hr.units
theorem bU {n:Nat} (h:n<=1000):n<SX:=MF h (by decide)
end L2
namespace L2
open PySem PySem.Spec PyProof.Rows
section
variable {X:Cx}
theorem Ml:gM X (.builtin "abs") (λxs H Q=>∃i:Int,xs=[.int i]/\Q (.int (i.natAbs:Int)) H):=by
 intro pins s σ H xs us Q I r h;obtain ⟨i,rfl,q⟩:=h;obtain ⟨u,rfl,rx⟩:=oZ r;obtain ⟨t,rfl⟩:=rx;have e:(if i<0 then -i else i)=(i.natAbs:Int):=by split<;>omega
 exact call_abs_int λu tk=>⟨.int (i.natAbs:Int),H,I.tok _,⟨u,by rw [e]⟩,q⟩
theorem Mx:gM X (.type "int") (λxs H Q=>∃b:Bool,xs=[.bl b]/\Q (.int (if b then 1 else 0)) H):=by
 intro pins s σ H xs us Q I r h;obtain ⟨b,rfl,q⟩:=h;obtain ⟨u,rfl,rx⟩:=oZ r;cases rx;exact PySem.call_int_bool ⟨.int _,H,I.tok _,⟨_,rfl⟩,q⟩
inductive Kd (K:W.Frag) (H:Hp):V->String->Prop
 | non:Kd K H .non "NoneType"
 | bl (b):Kd K H (.bl b) "bool"
 | int (i):Kd K H (.int i) "int"
 | str (x):Kd K H (.str x) "str"
 | tup {a xs}:rX K H a xs->Kd K H (.ref a) "tuple"
 | lst {a xs}:j4 K H a xs->Kd K H (.ref a) "list"
def rS (k T:String):Bool:=k==T||(k=="bool"&&T=="int")
def Xv:List String:=["int","bool","tuple","list","str"]
theorem Tx:gM X (.builtin "isinstance") (λxs H Q=>∃x k T,xs=[x,.ty T]/\Kd X.K H x k/\T∈Xv/\Q (.bl (rS k T)) H):=by
 intro pins s σ H xs us Q I r h;obtain ⟨x,k,T,rfl,hk,hT,q⟩:=h;obtain ⟨u,v,rfl,rx,ry⟩:=bE.two r;cases ry;have f0:∀b t,Q (.bl b) H->EP X pins σ Q (.bool b) { s with toks:=t }:=λb t q=>⟨.bl b,H,I.tok _,rfl,q⟩;have f1:∀b,Q (.bl b) H->EP X pins σ Q (.bool b) s:=λb q=>⟨.bl b,H,I,rfl,q⟩;simp only [Xv,KR,OG,or_false] at hT;cases hk with
 | non=>
  cases rx;rcases hT with rfl | rfl | rfl | rfl | rfl
  ·exact IsiPair.NoneType_int (f0 _ _ q)
  ·exact IsiPair.NoneType_bool (f0 _ _ q)
  ·exact IsiPair.NoneType_tuple (f0 _ _ q)
  ·exact IsiPair.NoneType_list (f0 _ _ q)
  ·exact IsiPair.NoneType_str (f0 _ _ q)
 | bl b=>
  cases rx;rcases hT with rfl | rfl | rfl | rfl | rfl
  ·exact IsiPair.bool_int (f1 _ q)
  ·exact IsiPair.bool_bool (f1 _ q)
  ·exact IsiPair.bool_tuple (f0 _ _ q)
  ·exact IsiPair.bool_list (f0 _ _ q)
  ·exact IsiPair.bool_str (f0 _ _ q)
 | int i=>
  obtain ⟨t,rfl⟩:=rx;rcases hT with rfl | rfl | rfl | rfl | rfl
  ·exact IsiPair.int_int (f1 _ q)
  ·exact IsiPair.int_bool (f0 _ _ q)
  ·exact IsiPair.int_tuple (f0 _ _ q)
  ·exact IsiPair.int_list (f0 _ _ q)
  ·exact IsiPair.int_str (f0 _ _ q)
 | str z=>
  obtain ⟨t,rfl⟩:=rx;rcases hT with rfl | rfl | rfl | rfl | rfl
  ·exact IsiPair.str_int (f0 _ _ q)
  ·exact IsiPair.str_bool (f0 _ _ q)
  ·exact IsiPair.str_tuple (f0 _ _ q)
  ·exact IsiPair.str_list (f0 _ _ q)
  ·exact IsiPair.str_str (f1 _ q)
 | tup hq=>
  cases rx;obtain ⟨VI,rv,⟨o,ho,hc,_⟩,_⟩:=I.tuple hq;rcases hT with rfl | rfl | rfl | rfl | rfl
  ·exact IsiPair.tuple_int ho hc (f0 _ _ q)
  ·exact IsiPair.tuple_bool ho hc (f0 _ _ q)
  ·exact IsiPair.tuple_tuple ho hc (f1 _ q)
  ·exact IsiPair.tuple_list ho hc (f0 _ _ q)
  ·exact IsiPair.tuple_str ho hc (f0 _ _ q)
 | lst hq=>
  cases rx;obtain ⟨VI,rv,⟨o,n,ho,hc,_⟩,_⟩:=I.list hq;rcases hT with rfl | rfl | rfl | rfl | rfl
  ·exact IsiPair.list_int ho hc (f0 _ _ q)
  ·exact IsiPair.list_bool ho hc (f0 _ _ q)
  ·exact IsiPair.list_tuple ho hc (f0 _ _ q)
  ·exact IsiPair.list_list ho hc (f1 _ q)
  ·exact IsiPair.list_str ho hc (f0 _ _ q)
theorem Mj (hc:X.calm=true):gM X (.builtin "all") (λxs H Q=>∃(p:SO) (bs:List Bool),xs=[.ref p]/\j4 X.K H p (bs.map V.bl)/\Q (.bl (bs.all id)) H):=by
 intro pins s σ H xs us Q I r h;obtain ⟨p,bs,rfl,hq,q⟩:=h;obtain ⟨u,rfl,rx⟩:=oZ r;cases rx;obtain ⟨VI,rv,pl,hz⟩:=I.list hq;have YC:p≠s.heap.objs.size:=by
  obtain ⟨o,n,ho,_⟩:=pl;exact MC (LL ho)
 have hl:=rv.length;rw [KW] at hl;have hA:X.A.in1.handled=none:=I.ok.hd hc;refine call_all_walk (wpAny_pyIter_list pl.isList ?_);refine ⟨s.heap.objs.size,_,_,_,_,_,(λi=>bs.getD i true),rfl,Walks.list hA s.heap.objs.size p YC VI.toArray,⟨⟨_,LR _ rfl,rfl,rfl⟩,pl.isList.at λo e=>LG _ e⟩,?_,?_⟩
 ·intro i v s' Q' E' hv qu;have qw:VI[i]? = some v:=by simpa using hv
  have hi:i<VI.length:=(KU.mp qw).1;have hb:(bs.map V.bl)[i]? = some (V.bl bs[i]):=by
   rw [LK,KS (by omega)];rfl
  obtain ⟨u,hu,ru⟩:=rv.get hb;rw [qw] at hu;cases hu;cases ru;have e:bs.getD i true=bs[i]:=by rw [LH,KS (by omega)];rfl
  simp only [e] at qu;exact TY qu
 ·intro h' tk hk;have e:(MV VI.toArray.size).all (λi=>bs.getD i true)=bs.all id:=by
   rw [LN,<-hl];clear hl hz rv q hq pl YC;rw [NQ,MW,MW];constructor
   ·intro h b hb;obtain ⟨i,hi,rfl⟩:=List.mem_iff_getElem.mp hb;have:=h i (MU.mpr hi);rw [LH,KS hi] at this;exact this
   ·intro h i hi;have hi:=MU.mp hi;rw [LH,KS hi];exact h _ (NN hi)
  rw [e];refine ⟨.bl _,H,?_,rfl,q⟩;exact I.kept λb o e=>hk b o (by simp;exact MC (LL e)) (LG _ e)
end
section
variable {X:Cx} {pins:List (SO×Obj)} {σ:St} {H:Hp} {s:Shared} {h':Heap}
theorem aY.turnedLaid {t':Nat} {ch:List SO} {a:SO} {o:HO} (I:aY X pins σ H s) (k:∀b u,b∉ch->s.heap.get? b=some u->h'.get? b=some u) (hf:∀b∈ch,pE X pins H b) (hp:s.heap.objs.size<=a)
  (new:dU X.prog X.w (upd H a o) h' a o):aY X pins σ (upd H a o) { s with heap:=h',toks:=t' }:=by
 have hn:=I.hok.fresh hp;have ja:∀b u,H b=some u->b∉ch:=λb u e z=>by rw [(hf b z).1] at e;cases e
 refine I.step (g':=s.gens) (d':=s.drawn) (ch:=ch) (λb hb=>⟨(hf b hb).2.2.2.1,(hf b hb).2.1,(hf b hb).2.2.2.2.1,(hf b hb).2.2.2.2.2⟩) (λb u _ _ hc e _=>k b u hc e) (λb u _ _ hc e _=>⟨u.slots,k b u hc e⟩)
  (λb u hc e n=>by rw [a8 (MC (LO (LL e) hp))];exact n) (λb u hc e=>⟨u,k b u hc e⟩) (λb xs e=>by rw [a8 (a9 e hn)];exact e) (λb u xs e=>by rw [a8 (a9 e hn)];exact e)
  (λb ps e=>⟨#[],by rw [a8 (a9 e hn),e];simp⟩) (λm hm=>?_) (λb u e=>?_) I.bare
 ·obtain ⟨ob,es,ep,ho,r⟩:=hm;exact ⟨ob,es,ep,k _ ob (λz=>(hf _ z).2.1 rfl) ho,r⟩
 ·by_cases hb:b=a
  ·subst hb;rw [c8] at e;cases e;exact new
  ·rw [a8 hb] at e;refine (I.hok b u e).stay (λc v hc q=>k c v ?_ q) (λc q=>by rw [a8 (a9 q hn)];exact q) λc xs q=>by rw [a8 (a9 q hn)];exact q
   rcases hc with z | z
   ·rw [z];exact ja b u e
   ·exact ja c _ z
theorem aY.turnedL {t':Nat} {ch:List SO} (I:aY X pins σ H s) (k:∀b u,b∉ch->s.heap.get? b=some u->h'.get? b=some u) (hf:∀b∈ch,pE X pins H b):aY X pins σ H { s with heap:=h',toks:=t' }:=by
 have ja:∀b u,H b=some u->b∉ch:=λb u e z=>by rw [(hf b z).1] at e;cases e
 refine I.step (g':=s.gens) (d':=s.drawn) (ch:=ch) (λb hb=>⟨(hf b hb).2.2.2.1,(hf b hb).2.1,(hf b hb).2.2.2.2.1,(hf b hb).2.2.2.2.2⟩) (λb u _ _ hc e _=>k b u hc e) (λb u _ _ hc e _=>⟨u.slots,k b u hc e⟩)
  (λb u hc e n=>n) (λb u hc e=>⟨u,k b u hc e⟩) (λb xs e=>e) (λb u xs e=>e) (λb ps e=>⟨#[],by rw [e];simp⟩) (λm hm=>?_) (λb u e=>?_) I.bare
 ·obtain ⟨ob,es,ep,ho,r⟩:=hm;exact ⟨ob,es,ep,k _ ob (λz=>(hf _ z).2.1 rfl) ho,r⟩
 ·refine (I.hok b u e).stay (λc v hc q=>k c v ?_ q) (λc q=>q) λc xs q=>q;rcases hc with z | z
  ·rw [z];exact ja b u e
  ·exact ja c _ z
end
def GU (K:W.Frag) (a:SO):It:=
 ⟨λi H=>∃xs x,j4 K H a xs/\xs[i]? = some x,λi H x H'=>∃p y,x = .ref p/\H p=none/\H'=upd H p (.tup [.int (i:Int),y])/\∀xs,j4 K H a xs->xs[i]? = some y,λi H=>∃xs,j4 K H a xs/\xs.length<=i⟩
theorem Oi {P:SS} {w:SW} {K:W.Frag} {elts:List Expr} {x1} {WZ:Pos} (a e it:SO) (YC:e≠it) :
  Ge P w K (.Tuple elts x1 WZ) (GU K a) [e,it] e (λi h=>(∃old,IsEnum h e it (i:Nat) old)/\h.IsListIter it a i) where
 mem:=by simp
 obj:=λi h st b hb=>by
  obtain ⟨⟨old,he⟩,⟨o,ho,hc,hd⟩⟩:=st;rcases KR.mp hb with rfl | hb
  ·exact ⟨_,he,λv z=>by cases z⟩
  ·rw [LM.mp hb];exact ⟨o,ho,λv z=>by rw [hd] at z;cases z⟩
 keep:=λi h h' st k=>⟨let ⟨old,he⟩:=st.1;⟨old,k e (by simp) _ he⟩,st.2.at λo x=>k it (by simp) o x⟩
 item:=by
  intro X hP hw hK hc i pins s σ H E I hf st hg;subst hP hw hK;obtain ⟨xs,x,hq,hx⟩:=hg;obtain ⟨VI,rv,p,hz⟩:=I.list hq;obtain ⟨u,hu,ru⟩:=rv.get hx;obtain ⟨⟨old,he⟩,hit⟩:=st;refine wpAny_pyNext_enum_item he hit p.isList (x:=u) (by simpa using hu) YC λh1 ho xi ht aw hk=>⟨_,rfl,?_⟩;refine wpAny_letOwnedTupleGo_enum ho λh2 xl aj=>?_;have xo:e≠s.heap.objs.size:=MC (LL he);have kk:∀b o,b∉[e,it]->s.heap.get? b=some o->h2.get? b=some o:=λb o hb q=>by
   have vh:b≠e:=λz=>hb (by simp [z]);have fx:b≠it:=λz=>hb (by simp [z]);exact aj.extBut b o vh (hk b o vh fx q)
  have new:dU X.prog X.w (upd H s.heap.objs.size (.tup [.int (i:Int),x])) h2 s.heap.objs.size (.tup [.int (i:Int),x]):=
   ⟨by show 2<=SX;decide,[.int i s.toks,u],.cons ⟨_,rfl⟩ (.cons ru .nil),⟨_,aj.extBut _ _ (Ne.symm xo) ht,rfl,_,rfl⟩⟩
  refine ⟨.ref s.heap.objs.size,upd H s.heap.objs.size (.tup [.int (i:Int),x]),I.turnedLaid (t':=s.toks+1) (ch:=[e,it]) kk hf (LF _) new,rfl,
   ⟨_,x,rfl,I.hok.fresh (LF _),rfl,λys hy=>by rw [I.list_inj hy hq];exact hx⟩,⟨⟨_,by simpa using xl⟩,xi.extBut aj.extBut (Ne.symm YC)⟩,λb hb=>?_⟩
  have XB:b<s.heap.objs.size:=by
   rcases KR.mp hb with rfl | hb
   ·exact LL he
   ·rw [LM.mp hb];obtain ⟨o,YX,_⟩:=hit;exact LL YX
  rw [a8 (MC XB)];exact (hf b hb).1
 done:=by
  intro X hP hw hK hc i pins s σ H E I hf st hg;subst hP hw hK;obtain ⟨xs,hq,hx⟩:=hg;obtain ⟨VI,rv,p,hz⟩:=I.list hq;have hl:=rv.length;obtain ⟨⟨old,he⟩,hit⟩:=st;refine wpAny_pyNext_enum_end (I.ok.hd hc) he hit p.isList (by simp;omega) λh1 eb=>⟨rfl,?_⟩;exact I.turnedL (t':=s.toks) (ch:=[e,it]) (λb o hb q=>eb b o (λz=>hb (by simp [z])) q) hf
 self:=λ_ _ _ _ _ st h=>let ⟨old,he⟩:=st.1;wpAny_pyIter_enum he h
section
variable {X:Cx}
def E7 (K:W.Frag) (ta:TA):TI:=λσ H R=>ta σ H λvs H1=>∃a,vs=[.ref a]/\(∃xs,j4 K H1 a xs)/\R (GU K a) H1
theorem Ym {a:Expr} {ta:TA} {p pos WZ:Pos} {elts:List Expr} {x1} (hg:Gl X "enumerate") (hm:X.mg "enumerate" = none) (ha:PA X [a] ta) (hs:TJ [a] X.env=[(false,TL a X.env)]:=by rfl) :
  PI X (.Tuple elts x1 WZ) (.Call (.Name "enumerate" p) [a] [] pos) (E7 X.K ta):=by
 intro pins s σ H R I h;refine Call_ (lW I hg hm boot_enumerate (PyProof.Rows.callWith_type1 (dM (ha pos pins s σ H _ I h) λus s1 ⟨vs,H1,I1,r1,q1⟩=>?_) hs rfl));obtain ⟨l,rfl,⟨xs,hq⟩,q⟩:=q1;obtain ⟨u,rfl,ru⟩:=bE.one r1;cases ru;obtain ⟨VI,rv,pl,hz⟩:=I1.list hq;refine call_enumerate_list pl.isList λh' he hit aw hk=>?_;refine wpAny_pyIter_enum he ?_;refine ⟨s1.heap.objs.size+1,[s1.heap.objs.size+1,s1.heap.objs.size],_,_,H1,rfl,I1.kept (t':=s1.toks) hk,Oi l _ _ (Nat.succ_ne_self _),⟨⟨_,he⟩,hit⟩,λb hb=>?_,q⟩;have hle:s1.heap.objs.size<=b:=by
  rcases KR.mp hb with rfl | hb
  ·exact Nat.le_succ _
  ·rw [LM.mp hb];exact LF _
 exact I1.fpOk hle (I1.hok.fresh hle)
end
theorem mV {prog:SS} {w:SW} {A:Around} {R:Result->Shared->Prop} {s:Shared} {elt target iter:Expr} {ifs:List Expr} {scope:TR} {pos:Pos} {it acc:Value} {env:Env} (I:Nat->Shared->Prop)
  (turn:∀n s,I n s->SU (TC prog w) A (pyNext it) (λr s₁=>match r with
   | none=>R (.ok .next) s₁
   | some v=>SU (TC prog w) A (VD target it v) (λ_ s₂=>SU (TC prog w) A (UP target env v) (λ_ s₃=>SU (TC prog w) A (forIn ifs true λc r=>if r=true then do let ok <-isTrue c env (TL c env);pure (ForInStep.yield ok) else pure (ForInStep.yield r)) (λok s₃'=>if ok=true then SU (TC prog w) A (TL elt env) (λx s₄=>
     SU (TC prog w) A (call (.builtin "list.append") [acc,x]) (λ_ s₅=>∃m,m<n/\I m s₅) (λ_ _=>False) s₄) (λ_ _=>False) s₃' else ∃m,m<n/\I m s₃') (λ_ _=>False) s₃) (λ_ _=>False) s₂) (λ_ _=>False) s₁) (λ_ _=>False) s)
  (n:Nat) (h:I n s):codeAny (TC prog w) A (.compLoop (.ListComp elt [⟨target,iter,ifs,0⟩] scope pos) 0 it acc env) R s:=by
 refine codeAny_loop rfl I (λn s hI=>?_) n h;show SU _ A ((compTurn (.ListComp elt [⟨target,iter,ifs,0⟩] scope pos) 0 it acc env).onRaise (λx=>do noteFrame x env;theTreesLotGoes x)) _ _ s;refine wpAny_noted ?_;rw [compTurn_list];refine SQ (VB (SQ (UJ (turn n s hI) (λr s₁ h₁=>?_) λ_ _ h'=>h'.elim)));cases r with
 | none=>exact SV h₁
 | some v=>
  refine SQ (UJ h₁ (λ_ s₂ h₂=>SQ (UJ h₂ (λ_ s₃ h₃=>SQ (UJ h₃ (λok s₃' h₃'=>?_) λ_ _ h'=>h'.elim)) λ_ _ h'=>h'.elim)) λ_ _ h'=>h'.elim);cases ok with
  | false=>exact SV ⟨rfl,h₃'⟩
  | true=>
   exact SQ (SQ (UJ h₃' (λx s₄ h₄=>SQ (UJ h₄ (λ_ s₅ h₅=>SV (SV ⟨rfl,h₅⟩)) λ_ _ h'=>h'.elim)) λ_ _ h'=>h'.elim))
def Ei (env:Env):List (Str×NameKind)->List (Str×SO)->List (Str×SO)
 | [],cs=>cs
 | (n,k)::r,cs=>Ei env r (if k==.free then (match env.cells.lookup n with | some c=>(n,c)::cs | none=>cs) else cs)
def zL (scope:TR) (env:Env):List (Str×SO):=Ei env scope.names []
theorem zZ (env:Env):∀(ns:List (Str×NameKind)) (cs:List (Str×SO)),(∀y∈ns,y.2 = .free->∃c,env.cells.lookup y.1=some c)->
  (forIn ns cs (λx r=>do
   if x.2==.free then
    let a <-cellOf env x.1
    pure (ForInStep.yield ((x.1,a)::r))
   else pure (ForInStep.yield r)):Sem (List (Str×SO)))=pure (Ei env ns cs)
 | [],cs,_=>rfl
 | (n,k)::r,cs,h=>by
  rw [QR]
  by_cases hk:k = .free
  ·subst hk;obtain ⟨c,hc⟩:=h (n,.free) NR rfl;have bh:env.cells.lookup n=some c:=hc;have e:cellOf env n=pure c:=by unfold cellOf;rw [bh]
   simp only [beq_self_eq_true,if_true,e,pure_bind,Ei,bh];exact zZ env r _ λy hy=>h y (LQ _ hy)
  ·have hb:(k==NameKind.free)=false:=by simpa using hk
   simp only [hb,OC,if_false,pure_bind,Ei];exact zZ env r _ λy hy=>h y (LQ _ hy)
theorem vD {scope:TR} {env:Env} (h:∀y∈scope.names,y.2 = .free->∃c,env.cells.lookup y.1=some c):closureFor scope env=pure (zL scope env):=by
 have e:=zZ env scope.names [] h;unfold zL;rw [<-e];unfold closureFor;simp only [bind_pure]
theorem Bw (env:Env):∀(ns:List (Str×NameKind)) (cs:List (Str×SO)) (x:Str) (c:SO),(∀x c,cs.lookup x=some c->env.cells.lookup x=some c)->(Ei env ns cs).lookup x=some c->env.cells.lookup x=some c
 | [],_,x,c,h,e=>h x c e
 | (n,k)::r,cs,x,c,h,e=>by
  refine Bw env r _ x c (λy d hd=>?_) e
  by_cases hk:(k==NameKind.free)=true
  ·rw [if_pos hk] at hd;cases q:env.cells.lookup n with
   | none=>rw [q] at hd;exact h y d hd
   | some a=>
    rw [q] at hd;simp only [NS] at hd;cases b:y==n with
    | true=>rw [b] at hd;cases hd;rw [eq_of_beq b];exact q
    | false=>rw [b] at hd;exact h y d hd
  ·rw [if_neg hk] at hd;exact h y d hd
theorem Dz {scope:TR} {env:Env} {x:Str} {c:SO} (e:(zL scope env).lookup x=some c):env.cells.lookup x=some c:=Bw env _ _ x c (λ_ _ h=>by simp at h) e
theorem Bd (env:Env):∀(ns:List (Str×NameKind)) (cs:List (Str×SO)) (x:Str) (c:SO),(cs.lookup x=some c\/(x,NameKind.free)∈ns)->env.cells.lookup x=some c->(Ei env ns cs).lookup x=some c
 | [],_,x,c,h,_=>h.elim (λz=>z) (λz=>by simp at z)
 | (n,k)::r,cs,x,c,h,e=>by
  refine Bd env r _ x c ?_ e;rcases h with h | h
  ·refine .inl ?_
   split
   ·cases q:env.cells.lookup n with
    | none=>exact h
    | some a=>
     simp only [NS];cases b:x==n with
     | true=>rw [<-eq_of_beq b,e] at q;exact q.symm
     | false=>exact h
   ·exact h
  ·rcases KR.mp h with z | z
   ·injection z with z1 z2;subst z1 z2;refine .inl ?_;simp only [beq_self_eq_true,if_true,e,NS]
   ·exact .inr z
theorem Dm {scope:TR} {env:Env} {x:Str} {c:SO} (h:(x,NameKind.free)∈scope.names) (e:env.cells.lookup x=some c):(zL scope env).lookup x=some c:=Bd env _ _ x c (.inr h) e
theorem pD {env:Env}:∀{names:List (Str×NameKind)} {x:Str},(∀y∈names,y.2≠.cell)->
    ((names.map λ(n,k)=>if (k==NameKind.free&&env.scope.kind==.function&&env.kindOf n==some .cell) then (n,NameKind.cell) else (n,k)).lookup x=some .cell\/
     (names.map λ(n,k)=>if (k==NameKind.free&&env.scope.kind==.function&&env.kindOf n==some .cell) then (n,NameKind.cell) else (n,k)).lookup x=some .free)->(x,NameKind.free)∈names
  | [],_,_,h=>by simp at h
  | (n,k)::r,x,hc,h=>by
    have ih:=@pD env r x λy hy=>hc y (LQ _ hy);have hk:k≠.cell:=hc (n,k) NR;simp only [MO] at h
    by_cases q:(k==NameKind.free&&env.scope.kind==.function&&env.kindOf n==some .cell)=true
    . rw [if_pos q] at h
      simp only [NS] at h;cases b:x==n with
      | true=>
        have:k = .free:=by simp only [LX] at q;exact eq_of_beq q.1.1
        subst this;rw [eq_of_beq b];exact NR
      | false=>rw [b] at h;exact LQ _ (ih h)
    . rw [if_neg q] at h
      simp only [NS] at h;cases b:x==n with
      | true=>
        rw [b] at h;rcases h with h | h
        . exact absurd (Option.some.inj h) hk
        . have:k = .free:=Option.some.inj h
          subst this;rw [eq_of_beq b];exact NR
      | false=>rw [b] at h;exact LQ _ (ih h)
theorem qW {env:Env}:∀{names:List (Str×NameKind)} {x:Str},names.lookup x=some .free->
    ((names.map λ(n,k)=>if (k==NameKind.free&&env.scope.kind==.function&&env.kindOf n==some .cell) then (n,NameKind.cell) else (n,k)).lookup x=some .cell\/
     (names.map λ(n,k)=>if (k==NameKind.free&&env.scope.kind==.function&&env.kindOf n==some .cell) then (n,NameKind.cell) else (n,k)).lookup x=some .free)
  | [],_,h=>by simp at h
  | (n,k)::r,x,h=>by
    have ih:=@qW env r x;simp only [MO];simp only [NS] at h
    by_cases q:(k==NameKind.free&&env.scope.kind==.function&&env.kindOf n==some .cell)=true
    . rw [if_pos q]
      simp only [NS];cases b:x==n with
      | true=>exact .inl rfl
      | false=>rw [b] at h;exact ih h
    . rw [if_neg q]
      simp only [NS];cases b:x==n with
      | true=>rw [b] at h;exact .inr h
      | false=>rw [b] at h;exact ih h
def b8 (X:Cx) (N':List Str) (scope:TR) (C:SO) (s3:Shared) (H3:Hp) (fp:List SO):Cx:=
 { X with N:=N',s₀:=s3,H₀:=H3,env:=compEnvC scope (zL scope X.env) C X.env,outer:=X.stack,stack:=X.stack,ex:=fp,fn:=λ_=>false,pn:=[],xe:=λ_ _=>False }
def jC (t:Nat) (cap:List Nat) (σ:St):St:=LY t none++cap.map λk=>(σ[k]?).join
def BX (J:It) (D:SO) (g:TG) (te:TE) (Q:VK) (σ:St) (H:Hp):Prop:=∃W:Nat->Nat->St->Hp->Prop,(∃m,W 0 m σ H)/\∀i m σ' H',W i m σ' H'->
 (J.stop i H'/\Q (.ref D) H')\/(J.go i H'/\∀x H2,J.yld i H' x H2->g x σ' H2 λσ3 H3=>te σ3 H3 λy H4=>∃ys,H4 D=some (.lst ys)/\ys.length<SX/\∃m',m'<m/\W (i+1) m' σ3 (upd H4 D (.lst (ys++[y]))))
def Im (t:Nat) (cap:List Nat) (wi:TI) (g:TG) (te:TE):TE:=λσ H Q=>wi σ H λJ H1=>∀D,H1 D=none->BX J D g te Q (jC t cap σ) (upd H1 D (.lst []))
def V3 (J:It) (D:SO) (g:TG) (tb:TT) (te:TE) (Q:VK) (σ:St) (H:Hp):Prop:=∃W:Nat->Nat->St->Hp->Prop,(∃m,W 0 m σ H)/\∀i m σ' H',W i m σ' H'->
 (J.stop i H'/\Q (.ref D) H')\/(J.go i H'/\∀x H2,J.yld i H' x H2->g x σ' H2 λσ3 H3=>tb σ3 H3 λok H3'=>if ok=true then te σ3 H3' λy H4=>∃ys,H4 D=some (.lst ys)/\ys.length<SX/\∃m',m'<m/\W (i+1) m' σ3 (upd H4 D (.lst (ys++[y]))) else ∃m',m'<m/\W (i+1) m' σ3 H3')
def qP (t:Nat) (cap:List Nat) (wi:TI) (g:TG) (tb:TT) (te:TE):TE:=λσ H Q=>wi σ H λJ H1=>∀D,H1 D=none->V3 J D g tb te Q (jC t cap σ) (upd H1 D (.lst []))
def DY (X:Cx) (ifs:List Expr) (t:TT):Prop:=
 ∀(pins:List (SO×Obj)) (s:Shared) (σ:St) (H:Hp) (Q:Bool->Hp->Prop),aY X pins σ H s->t σ H Q->SU (TC X.prog X.w) X.A (forIn ifs true λc r=>if r=true then do let ok <-isTrue c X.env (TL c X.env);pure (ForInStep.yield ok) else pure (ForInStep.yield r)) (TP X pins σ Q) X.xe s
theorem PT.one {X:Cx} {c:Expr} {t:TT} (h:PT X c t):DY X [c] t:=λ_ _ _ _ _ I z=>wpAny_tests_one (h _ _ _ _ _ I z)
structure bP (X:Cx) (N':List Str) (scope:TR) (t:Nat) (cap:List Nat):Prop where
 kind:scope.kind = .function
 cell:∀y∈scope.names,y.2≠.cell
 names:∀y∈scope.names,y.2 = .local->scope.names.lookup y.1=some .local
 free:∀y∈scope.names,y.2 = .free->(X.env.kindOf y.1=some .cell\/X.env.kindOf y.1=some .free)
 len:N'.length=t+cap.length
 caps:∀(j k:Nat),cap[j]? = some k->∃x,N'[t+j]? = some x/\X.N[k]? = some x/\scope.names.lookup x=some .free
section
variable {X:Cx}
theorem Eo {pins:List (SO×Obj)} {σ:St} {H3:Hp} {s3:Shared} {N':List Str} {scope:TR} {t:Nat} {cap:List Nat} {fp:List SO} {h₁:Heap} {tk:Nat} (S:bP X N' scope t cap) (I3:aY X pins σ H3 s3)
  (hf:∀b∈fp,pE X pins H3 b) (hob:∀b∈fp,∃o,s3.heap.get? b=some o) (bt:h₁.Ns s3.heap.objs.size λ_=>none) (k:∀b o,s3.heap.get? b=some o->h₁.get? b=some o) :
  aY (b8 X N' scope s3.heap.objs.size s3 H3 fp) [] (jC t cap σ) H3 { s3 with heap:=h₁,toks:=tk }:=by
 have YA:∀{x:Str} {c:SO},(zL scope X.env).lookup x=some c->X.env.cells.lookup x=some c:=λe=>Dz e;have ak:∀{c:SO} {v:Option Value},s3.heap.IsCell c v->h₁.IsCell c v:=λ⟨o,e,d⟩=>⟨o,k _ _ e,d⟩;have jl:∀{x:Str},scope.names.lookup x=some .free->(x,NameKind.free)∈scope.names:=λe=>PySem.mem_of_lookup e;refine ⟨⟨I3.mod,S.kind,I3.ok.glob,I3.ok.blt,LF _,?_,?_,?_,I3.ok.hd,I3.ok.frames,.inl rfl,?_,I3.bs,MG I3.ok.bsz I3.sz,?_,?_,I3.stack,I3.stkFree⟩,
  rfl,I3.bare,Un.kept k,⟨_,bt,?_⟩,?_,?_,?_,?_,I3.hok.kept k,?_⟩
 ·intro x y c h1 h2;exact I3.ok.inj x y c (YA h1) (YA h2)
 ·intro x hx;have hm:(x,NameKind.free)∈scope.names:=pD S.cell hx;obtain ⟨c,hc⟩:=I3.ok.has x (S.free _ hm rfl);exact ⟨c,Dm hm hc⟩
 ·intro x c h;cases h
 ·intro b hb;obtain ⟨o,ho⟩:=hob b hb;exact ⟨MC (LL ho),λx c e=>(hf b hb).2.2.2.2.1 x c (YA e)⟩
 ·intro b o e hb;rcases (hf b hb).2.2.2.1 with z | z
  ·exact I3.ok.noex b o e z
  ·exact absurd (LO (LO (LL e) I3.ok.bsz) z) (Nat.lt_irrefl _)
 ·intro b hb hz;rcases KR.mp (I3.stkSub b hz) with z | z
  ·exact (hf b hb).2.1 z
  ·exact (hf b hb).2.2.1 z
 ·intro i x v e1 e2 e3;have ht:t<=i:=by
   rcases NZ i t with q | q
   ·unfold jC at e2;rw [LW (by simpa using q),RU] at e2;split at e2<;>cases e2
   ·exact q
  obtain ⟨j,rfl⟩:∃j,i=t+j:=⟨i-t,by omega⟩;unfold jC at e2;rw [MS (by simp),OI,Nat.add_sub_cancel_left,LK] at e2;cases q:cap[j]? with
  | none=>rw [q] at e2;cases e2
  | some m=>
   rw [q] at e2;have vi:(σ[m]?).join=some v:=Option.some.inj e2;have xp:σ[m]? = some (some v):=by
    cases z:σ[m]? with
    | none=>rw [z] at vi;cases vi
    | some w=>rw [z] at vi;have:w=some v:=vi;rw [this]
   obtain ⟨x',c1,c2,c3⟩:=S.caps j m q;have ex:x'=x:=by
    have qx:N'[t+j]? = some x:=e1;rw [c1] at qx;exact Option.some.inj qx
   subst ex;have hk:=S.free _ (jl c3) rfl;obtain ⟨mm,hn,hl⟩:=I3.loc;obtain ⟨u,r,L⟩:=hl m x' v c2 xp (by rcases hk with z | z;exact .inr (.inl z);exact .inr (.inr z));refine ⟨u,r,?_⟩;rcases L with ⟨z,_⟩ | ⟨_,c,hc,af⟩
   ·rcases hk with y | y<;>(have y':X.env.kindOf x'=_:=y;rw [z] at y';cases y')
   ·exact .inr ⟨qW c3,c,Dm (jl c3) hc,ak af⟩
 ·intro x c e;obtain ⟨v,z⟩:=I3.cell x c (YA e);exact ⟨v,ak z⟩
 ·exact I3.hok.fresh (LF _)
 ·intro x c e;exact I3.freeC x c (YA e)
 ·intro p hp;exact absurd (show p∈([]:List (SO×Obj)) from hp) (by simp)
 ·show (jC t cap σ).length=N'.length;unfold jC;rw [S.len,LC,OI,KW]
theorem wH {target elt iter:Expr} {ifs:List Expr} {scope:TR} {pos:Pos} {N':List Str} {cap:List Nat} {t:Nat} {wi:TI} {g:TG} {tb:TT} {te:TE} {use:Option (Value->Sem Unit)} {QQ:Value->Shared->Prop} {pins:List (SO×Obj)} {s:Shared} {σ:St} {H:Hp} {Q:VK} (hc:X.calm=true) (S:bP X N' scope t cap) (hi:PI X target iter wi)
  (hg:∀C s3 H3 fp,PG (b8 X N' scope C s3 H3 fp) target g) (hb:∀C s3 H3 fp,DY (b8 X N' scope C s3 H3 fp) ifs tb) (he:∀C s3 H3 fp,PE (b8 X N' scope C s3 H3 fp) elt te) (hs:∀x,TH iter X.env x=pure x) (I:aY X pins σ H s) (h:qP t cap wi g tb te σ H Q)
  (fin:∀(s3 s6:Shared) (H3 H5:Hp) (fp:List SO) (D:SO) (m:Str->Option Value),aY X pins σ H3 s3->(∀b∈fp,(b∈X.ex\/X.s₀.heap.objs.size<=b)/\b≠X.env.locals/\(∀x c,X.env.cells.lookup x=some c->c≠b)/\∀p∈X.pn++pins,p.1≠b)->s6.heap.Ns s3.heap.objs.size m->Un (Lo X.stack) fp H3 H5 s3.heap s6.heap->nM X.prog X.w H5 s6.heap->H5 s3.heap.objs.size=none->s6.os=s3.os->UU s6.gens->Q (.ref D) H5->compPost (TC X.prog X.w) X.A X.xe use QQ (.ref D) s3.heap.objs.size (.ok .next) s6) :
  SU (TC X.prog X.w) X.A (comprehension (.ListComp elt [⟨target,iter,ifs,0⟩] scope pos) scope X.env (firstIterPos [⟨target,iter,ifs,0⟩] pos) (newList []) (firstAsync [⟨target,iter,ifs,0⟩]) (firstIter [⟨target,iter,ifs,0⟩] X.env) use) QQ X.xe s:=by
 refine wpAny_comprehension_free (cl:=zL scope X.env) rfl hs (vD λy hy hf=>I.ok.has y.1 (S.free y hy hf)) S.kind S.names (dM (hi pins s σ H _ I h) λv s1 h1=>dM h1 λwy s2 h2=>?_);obtain ⟨it,fp,tn,J,H2,e,I2,T,qg,f2,h2⟩:=h2;subst e;refine TU (wpAny_newFunctionEnv S.cell (by intro y hy;simp at hy) (λh₁ bt₁ hsb₁=>?_) S.kind)
 dsimp only at bt₁ hsb₁ ⊢
 obtain ⟨s3,qy⟩:∃s3:Shared,s3 = { s2 with heap:=s2.heap.push { cls:=.type "list",dict:=none,data:=.seq ([]:List Value).toArray } }:=⟨_,rfl⟩;have hD:H2 s2.heap.objs.size=none:=I2.hok.fresh (LF _);have I3:aY X pins σ (upd H2 s2.heap.objs.size (.lst [])) s3:=by
  rw [qy];exact I2.laid (t':=s2.toks) (λb u e=>LG _ e) (LF _) ⟨MJ _,[],0,.nil,LR _ rfl⟩
 have qz:∀b o,s2.heap.get? b=some o->s3.heap.get? b=some o:=λb o e=>by rw [qy];exact LG _ e
 have hC:(s2.heap.push { cls:=.type "list",dict:=none,data:=.seq ([]:List Value).toArray }).objs.size=s3.heap.objs.size:=by rw [qy]
 have f3:∀b∈fp,pE X pins (upd H2 s2.heap.objs.size (.lst [])) b:=λb hb=>by
  obtain ⟨o,ho,_⟩:=T.obj _ _ qg b hb;refine ⟨?_,(f2 b hb).2⟩;rw [a8 (MC (LL ho))];exact (f2 b hb).1
 have ob3:∀b∈fp,∃o,s3.heap.get? b=some o:=λb hb=>by
  obtain ⟨o,ho,_⟩:=T.obj _ _ qg b hb;exact ⟨o,qz b o ho⟩
 have k1:∀b o,s3.heap.get? b=some o->h₁.get? b=some o:=λb o e=>by
  refine hsb₁.extBut b o ?_ ?_
  ·rw [hC];exact MC (LL e)
  ·rw [qy] at e;exact LG _ e
 have bt:h₁.Ns s3.heap.objs.size λ_=>none:=by
  rw [<-hC];exact bt₁
 have I4:=Eo (tk:=s2.toks+([]:List (Str×Value)).length) S I3 f3 ob3 bt k1;have st4:tn 0 h₁:=T.keep _ _ _ qg λb hb o e=>k1 b o (qz b o e);obtain ⟨W,⟨m0,w0⟩,turn⟩:=h2 _ hD
 -- the block's context
 obtain ⟨X',YL⟩:∃X':Cx,X'=b8 X N' scope s3.heap.objs.size s3 (upd H2 s2.heap.objs.size (.lst [])) fp:=⟨_,rfl⟩;have YY:PG X' target g:=by rw [YL];exact hg _ _ _ _
 have vj:PE X' elt te:=by rw [YL];exact he _ _ _ _
 have hb':DY X' ifs tb:=by rw [YL];exact hb _ _ _ _
 have ZR:∀{H':Hp},(∀b∈fp,H' b=none)->∀b∈fp,pE X' [] H' b:=λhn b hb=>by
  obtain ⟨o,ho⟩:=ob3 b hb;rw [YL];refine ⟨hn b hb,MC (LL ho),?_,.inl hb,λx c e=>(f3 b hb).2.2.2.2.1 x c (Dz e),λp hp=>absurd (show p∈([]:List (SO×Obj)) from hp) (by simp)⟩;intro hz;rcases KR.mp (I3.stkSub b hz) with z | z
  ·exact (f3 b hb).2.1 z
  ·exact (f3 b hb).2.2.1 z
 have jm:X'.calm=true:=by rw [YL];exact hc
 have loop:codeAny (TC X.prog X.w) X.A (.compLoop (.ListComp elt [⟨target,iter,ifs,0⟩] scope pos) 0 (.ref it) (.ref s2.heap.objs.size) (compEnvC scope (zL scope X.env) s3.heap.objs.size X.env))
   (compPost (TC X.prog X.w) X.A X.xe use QQ (.ref s2.heap.objs.size) s3.heap.objs.size) { s3 with heap:=h₁,toks:=s2.toks+([]:List (Str×Value)).length }:=by
  refine mV (λn s'=>∃i σ' H',aY X' [] σ' H' s'/\tn i s'.heap/\(∀b∈fp,H' b=none)/\W i n σ' H') ?_ m0 ⟨0,jC t cap σ,_,by rw [YL];exact I4,st4,λb hb=>(f3 b hb).1,w0⟩;rintro n s5 ⟨i,σ5,H5,I5,oh,va,w5⟩;rcases turn i n σ5 H5 w5 with ⟨stop,qn⟩ | ⟨go,step⟩
  ·have q:=T.done X' (by rw [YL];rfl) (by rw [YL];rfl) (by rw [YL];rfl) jm i [] s5 σ5 H5 (λ_ _=>False) I5 (ZR va) oh stop;have eA:X'.A=X.A:=by rw [YL];rfl
   rw [eA] at q;refine dM q λr s6 ⟨hr,I6⟩=>?_;subst hr;obtain ⟨m,hn,_⟩:=I6.loc;have fe:s6.heap.Ns s3.heap.objs.size m:=by rw [YL] at hn;exact hn
   have bu:Un (Lo X.stack) fp (upd H2 s2.heap.objs.size (.lst [])) H5 s3.heap s6.heap:=by have:=I6.base;rw [YL] at this;exact this
   have bw:nM X.prog X.w H5 s6.heap:=by have:=I6.hok;rw [YL] at this;exact this
   have YZ:H5 s3.heap.objs.size=none:=by have:=I6.free;rw [YL] at this;exact this
   have rf:s6.os=s3.os:=by have:=I6.os;rw [YL] at this;exact this
   exact fin _ _ _ _ _ _ _ I3 (λb hb=>⟨(f3 b hb).2.2.2.1,(f3 b hb).2.1,(f3 b hb).2.2.2.2.1,(f3 b hb).2.2.2.2.2⟩) fe bu bw YZ rf I6.bare qn
  ·have q:=T.item X' (by rw [YL];rfl) (by rw [YL];rfl) (by rw [YL];rfl) jm i [] s5 σ5 H5 (λ_ _=>False) I5 (ZR va) oh go;have eA:X'.A=X.A:=by rw [YL];rfl
   have eP:X'.prog=X.prog:=by rw [YL];rfl
   have eW:X'.w=X.w:=by rw [YL];rfl
   have eE:X'.env=compEnvC scope (zL scope X.env) s3.heap.objs.size X.env:=by rw [YL];rfl
   have eX:X'.xe=λ_ _=>False:=by rw [YL];rfl
   rw [eA] at q;refine dM q λr s6 ⟨u,hr,h6⟩=>?_;subst hr;refine dM h6 λ_ s7 ⟨x,H7,I7,r7,y7,rh,fr7⟩=>?_;have I7':=I7.pinned (ZR fr7) (T.obj _ _ rh);have q8:=YY _ s7 σ5 H7 x u _ I7' r7 (step x H7 y7);rw [eA,eP,eW,eE,eX] at q8;refine dM q8 λ_ s8 ⟨σ8,H8,I8,w8⟩=>?_;have q8b:=hb' _ s8 σ8 H8 _ I8 w8;rw [eA,eP,eW,eE,eX] at q8b;refine dM q8b λok s8 ⟨H8,I8,w8⟩=>?_;cases ok with
   | false=>
    obtain ⟨m',hm,w9⟩:=w8;refine ⟨m',hm,i+1,σ8,_,I8.unpinned,T.keep _ _ _ rh λb hb o e=>(I8.pin (b,o) (LU _ (LU _ (gW hb e)))).1,λb hb=>?_,w9⟩;obtain ⟨o,e,d⟩:=T.obj _ _ rh b hb;exact (I8.pin (b,o) (LU _ (LU _ (gW hb e)))).2.1
   | true=>
    have q9:=vj _ s8 σ8 H8 _ I8 w8;rw [eA,eP,eW,eE,eX] at q9;refine dM q9 λy s9 ⟨v9,H9,I9,r9,ys,hD9,XB,m',hm,w9⟩=>?_;have q10:=xB (X:=X') _ s9 σ8 H9 (.ref s2.heap.objs.size) [v9] (.ref s2.heap.objs.size) [y] (λ_ H10=>H10=upd H9 s2.heap.objs.size (.lst (ys++[v9]))) I9 rfl (.cons r9 .nil) ⟨_,ys,v9,rfl,rfl,hD9,XB,rfl⟩;rw [eA,eP,eW,eX] at q10;refine dM q10 λ_ s10 ⟨v10,H10,xq,r10,e10⟩=>?_;subst e10;refine ⟨m',hm,i+1,σ8,_,xq.unpinned,T.keep _ _ _ rh λb hb o e=>(xq.pin (b,o) (LU _ (LU _ (gW hb e)))).1,λb hb=>?_,w9⟩;obtain ⟨o,e,d⟩:=T.obj _ _ rh b hb;exact (xq.pin (b,o) (LU _ (LU _ (gW hb e)))).2.1
 have es:({ s2 with heap:=h₁,toks:=s2.toks+([]:List (Str×Value)).length }:Shared) = { s3 with heap:=h₁,toks:=s2.toks+([]:List (Str×Value)).length }:=by rw [qy]
 rw [es,hC];exact codeAny_compStart_list loop (T.self _ 0 _ _ _ st4 loop)
theorem Cm {target elt iter:Expr} {ifs:List Expr} {scope:TR} {pos:Pos} {N':List Str} {cap:List Nat} {t:Nat} {wi:TI} {g:TG} {tb:TT} {te:TE} (hc:X.calm=true) (S:bP X N' scope t cap) (hi:PI X target iter wi)
  (hg:∀C s3 H3 fp,PG (b8 X N' scope C s3 H3 fp) target g) (hb:∀C s3 H3 fp,DY (b8 X N' scope C s3 H3 fp) ifs tb) (he:∀C s3 H3 fp,PE (b8 X N' scope C s3 H3 fp) elt te) (hs:∀x,TH iter X.env x=pure x:=by intro _;rfl) :
  PE X (.ListComp elt [⟨target,iter,ifs,0⟩] scope pos) (qP t cap wi g tb te):=by
 intro pins s σ H Q I h;rw [eval_ListComp];refine wH hc S hi hg hb he hs I h λs3 s6 H3 H5 fp D m I3 f3 fe bu bw YZ rf ba qn=>⟨m,fe,λh' jn=>?_⟩;have kp:∀b o,b≠s3.heap.objs.size->s6.heap.get? b=some o->h'.get? b=some o:=λb o hb e=>jn.extBut b o hb e;have iy:∀{b:SO} {o:Obj},s3.heap.get? b=some o->b≠s3.heap.objs.size:=λe=>MC (LL e);have un7:Un (Lo X.stack) fp (H3) H5 s3.heap h':=
  ⟨λb o e n1 n2 n3=>kp b o (iy e) (bu.keep b o e n1 n2 n3),λb o e n1 n2 n3=>by obtain ⟨sl,z⟩:=bu.slot b o e n1 n2 n3;exact ⟨sl,kp b _ (iy e) z⟩,bu.free,
   λb o e n3=>by obtain ⟨o',z⟩:=bu.there b o e n3;exact ⟨o',kp b _ (iy e) z⟩,bu.tups,bu.frzs,bu.tbls⟩
 have xr:nM X.prog X.w H5 h':=λb ob e=>by
  refine (bw b ob e).stay (λc w' bh q=>kp c w' ?_ q) (λ_ q=>q) λ_ _ q=>q;rintro rfl;rcases bh with rfl | bh
  ·rw [YZ] at e;cases e
  ·rw [YZ] at bh;cases bh
 exact ⟨.ref D,H5,I3.call' (s':={ s6 with heap:=h' }) (ch:=fp) rf un7 xr ba f3,rfl,qn⟩
theorem D2 {target elt iter:Expr} {scope:TR} {pos:Pos} {N':List Str} {cap:List Nat} {t:Nat} {wi:TI} {g:TG} {te:TE} (hc:X.calm=true) (S:bP X N' scope t cap) (hi:PI X target iter wi)
  (hg:∀C s3 H3 fp,PG (b8 X N' scope C s3 H3 fp) target g) (he:∀C s3 H3 fp,PE (b8 X N' scope C s3 H3 fp) elt te) (hs:∀x,TH iter X.env x=pure x:=by intro _;rfl) :
  PE X (.ListComp elt [⟨target,iter,[],0⟩] scope pos) (Im t cap wi g te):=λpins s σ H Q I h=>Cm (tb:=λ_ H Q=>Q true H) hc S hi hg (λ_ _ _ _ _ _ _ _ _ I z=>wpAny_tests_nil ⟨_,I,z⟩) he hs pins s σ H Q I h
end
section
variable {X:Cx} {pos:Pos}
def K0 (i j k:Nat) (ta:TA):TS:=λD σ H=>ta σ H λvs H1=>∃v w z,vs=[v,w,z]/\D.nx (((σ.set i (some v)).set j (some w)).set k (some z)) H1
theorem Wj {i j k:Nat} {x y z:Str} {a b c:Expr} {ta:TA} {px py pz pt:Pos} {kt k2 pt2} (hc:X.calm=true) (hN:X.N.Nodup) (hi:X.N[i]? = some x) (hj:X.N[j]? = some y) (hk:X.N[k]? = some z) (bj:i≠j) (rm:i≠k) (YV:j≠k)
  (hx:X.env.scope.names.lookup x=some .local) (hy:X.env.scope.names.lookup y=some .local) (hz:X.env.scope.names.lookup z=some .local) (ha:PA X [a,b,c] ta)
  (hw:UC [.Tuple [.Name x px,.Name y py,.Name z pz] kt pt] (.Tuple [a,b,c] k2 pt2) X.env=pure (some [x,y,z]))
  (hs:UB [.Tuple [.Name x px,.Name y py,.Name z pz] kt pt] (.Tuple [a,b,c] k2 pt2) pos.line X.env=pure false:=by rfl) :
  PS X (.Assign [.Tuple [.Name x px,.Name y py,.Name z pz] kt pt] (.Tuple [a,b,c] k2 pt2) pos) (K0 i j k ta):=by
 intro pins s σ H D I h;rw [exec_Assign_arm];refine SQ (VB ?_);rw [hs];refine SQ (SV ?_);rw [if_neg (by decide)];refine SQ (Tuple_ (dM (ha _ pins s σ H _ I h) λus s1 ⟨vs,H1,I1,r1,q1⟩=>?_));obtain ⟨v,w,zz,e1,q1⟩:=q1;subst e1;obtain ⟨u1,u2,u3,rfl,rv,br,rz⟩:∃u1 u2 u3,us=[u1,u2,u3]/\bH v u1/\bH w u2/\bH zz u3:=by
  cases r1 with
  | cons p q=>
   cases q with
   | cons p' q'=>
    cases q' with
    | cons p'' q''=>
     cases q'';exact ⟨_,_,_,rfl,p,p',p''⟩
 refine TU ?_ (by show 3<=SX;decide);have I2:aY X pins σ H1 { s1 with heap:=s1.heap.push { cls:=.type "tuple",data:=.seq [u1,u2,u3].toArray } }:=I1.kept (t':=s1.toks) λb o e=>LG _ e;rw [hw];refine SQ (SV ?_);show SU (TC X.prog X.w) X.A (do rule "assign.swapped-stores";let items <-unpackItems (.ref s1.heap.objs.size) 3 none;VA [λv=>UM X.env z v,λv=>UM X.env y v,λv=>UM X.env x v] items.reverse;pure Flow.next) _ _ _;refine SQ (UN (SQ (unpackItems_tuple (items:=#[u1,u2,u3]) (I.ok.hd hc) (IsTup.new s1.heap _) λh' nv=>?_)));have I3:=I2.kept (h':=h') (t':=s1.toks) λb o e=>nv b o (MC (LL e)) e;show SU _ _ (VA [λv=>UM X.env z v,λv=>UM X.env y v,λv=>UM X.env x v] [u3,u2,u1] >>= λ_=>pure Flow.next) _ _ _;refine SQ (UD (UW (jB I3 hN hk (.inl hz) rz (λs2 I4=>?_) (.inr hz))));refine UD (UW (jB I4 hN hj (.inl hy) br (λs3 I5=>?_) (.inr hy)));refine UD (UW (jB I5 hN hi (.inl hx) rv (λs4 I6=>VF (SV ?_)) (.inr hx)));rw [QJ _ _ (Ne.symm bj),QJ _ _ (Ne.symm rm),QJ _ _ (Ne.symm YV)] at I6;exact ⟨_,H1,I6,q1⟩
structure Fn (P:SS) (w:SW) (K:W.Frag) (mg:Str->Option Value) (base:Heap) (k:Nat) (x:Str) (ps:List Str) (sp:Sp):Prop where
 ex:∃f fd,bF P w K mg base e9 k f fd ps sp/\mg x=some (.ref f)/\W.keepIn K (.ref f)=true/\j9 K fd ps []
theorem AV {k j:Nat} {x:Str} {ps:List Str} {sp:Sp} {e:Expr} {es:List Expr} {t:TA} {p:Pos} (F:Fn X.prog X.w X.K X.mg X.base k x ps sp) (hr:dW j X.A) (hk:k<=j) (hg:Gl X x) (ha:PA X (e::es) t) (YK:(x==("__debug__":Str))=false:=by decide)
  (he:TJ (e::es) X.env=(false,TL e X.env)::TJ es X.env:=by rfl) (jg:(UI pos (TJ es X.env)).any (·.1)=false:=by rfl):PE X (.Call (.Name x p) (e::es) [] pos) (Dd sp [] E0 t):=by
 obtain ⟨f,fd,F,hm,hkp,hb⟩:=F.ex;exact Ya F (hr.mono hk) hg hm hkp hb .nil DF ha YK he jg
end
def cC:Expr->Bool
 | .Starred _ _=>true
 | _=>false
theorem cG {e:Expr} {es:List Expr} {env:Env} (h:cC e=false):TJ (e::es) env=(false,TL e env)::TJ es env:=by
 cases e<;>first | rfl | (simp [cC] at h)
def bM:List Expr->Bool
 | []=>true
 | e::es=>!cC e&&bM es
theorem fB {pos:Pos} {env:Env}:∀{es:List Expr},bM es=true->(UI pos (TJ es env)).any (·.1)=false
 | [],_=>rfl
 | e::es,h=>by
  have h1:cC e=false:=by simp only [bM,LX,OO] at h;exact h.1
  have h2:bM es=true:=by simp only [bM,LX] at h;exact h.2
  have ih:=fB (pos:=pos) (env:=env) h2;rw [cG h1];simp only [UI,MO,QK,Bool.false_or] at ih ⊢;exact ih
section
variable {X:Cx} {pos:Pos} {e:Expr} {es:List Expr} {te:TE} {t:TA}
theorem pc (ha:PE X e te) (hr:PA X es t) (hs:cC e=false:=by rfl):PA X (e::es) (Dl te t):=Yc ha hr (cG hs)
theorem V6 {k j:Nat} {x:Str} {ps:List Str} {sp:Sp} {p:Pos} (F:Fn X.prog X.w X.K X.mg X.base k x ps sp) (hr:dW j X.A) (hk:k<=j) (hg:Gl X x) (ha:PA X (e::es) t) (YK:(x==("__debug__":Str))=false:=by decide)
  (hs:bM (e::es)=true:=by rfl):PE X (.Call (.Name x p) (e::es) [] pos) (Dd sp [] E0 t):=
 AV F hr hk hg ha YK (cG (by simp only [bM,LX,OO] at hs;exact hs.1)) (fB (by simp only [bM,LX] at hs;exact hs.2))
theorem Oz {x:Str} {p:Pos} {id:String} {r:List V->Hp->VK->Prop} (hc:gM X (.builtin id) r) (hg:Gl X x) (hm:X.mg x=none) (hv:TF x=some (.builtin id)) (ha:PA X (e::es) t) (hn:x≠"__name__":=by decide) (YK:(x==("__debug__":Str))=false:=by decide)
  (hs:bM (e::es)=true:=by rfl):PE X (.Call (.Name x p) (e::es) [] pos) (AI r t):=
 Uw hc hg hm hv ha hn YK (cG (by simp only [bM,LX,OO] at hs;exact hs.1)) (fB (by simp only [bM,LX] at hs;exact hs.2))
theorem Hm {x:Str} {p:Pos} {T:String} {r:List V->Hp->VK->Prop} (hc:gM X (.type T) r) (hg:Gl X x) (hm:X.mg x=none) (hv:TF x=some (.type T)) (ha:PA X (e::es) t) (hn:x≠"__name__":=by decide) (YK:(x==("__debug__":Str))=false:=by decide)
  (hs:bM (e::es)=true:=by rfl):PE X (.Call (.Name x p) (e::es) [] pos) (AI r t):=
 Ms hc hg hm hv ha hn YK (cG (by simp only [bM,LX,OO] at hs;exact hs.1)) (fB (by simp only [bM,LX] at hs;exact hs.2))
end
structure QE (X:Cx) (e:Expr) (t:TE):Prop where
 h:PE X e t
structure QT (X:Cx) (e:Expr) (t:TT):Prop where
 h:PT X e t
structure QW (X:Cx) (e:Expr) (t:TT):Prop where
 h:PW X e t
structure QA (X:Cx) (es:List Expr) (t:TA):Prop where
 h:PA X es t
structure QS (X:Cx) (st:TB) (t:TS):Prop where
 h:PS X st t
structure QB (X:Cx) (st:List TB) (t:TS):Prop where
 h:Ki X st t
structure QG (X:Cx) (e:Expr) (t:TG):Prop where
 h:PG X e t
structure Eu (X:Cx) (es:List Expr) (t:Pl):Prop where
 h:CW X es t
structure QI (X:Cx) (tg e:Expr) (t:TI):Prop where
 h:PI X tg e t
structure QO (X:Cx) (e:Option Expr) (t:TO):Prop where
 h:PO X e t
def Kc (sc scope:TR) (N N':List Str) (t:Nat) (cap:List Nat):Bool:=
 decide (scope.kind = .function)&&scope.names.all (λy=>decide (y.2≠.cell))&&scope.names.all (λy=>decide (y.2 = .local->scope.names.lookup y.1=some .local)) &&
 scope.names.all (λy=>decide (y.2 = .free->(sc.names.lookup y.1=some .cell\/sc.names.lookup y.1=some .free)))&&decide (N'.length=t+cap.length) &&
 (MV cap.length).all (λj=>match cap[j]?,N'[t+j]? with | some k,some x=>decide (N[k]? = some x/\scope.names.lookup x=some .free) | _,_=>false)
theorem bP.of {X:Cx} {N':List Str} {scope:TR} {t:Nat} {cap:List Nat} (h:Kc X.env.scope scope X.N N' t cap=true):bP X N' scope t cap:=by
 simp only [Kc,LX,MW,decide_eq_true_eq] at h;obtain ⟨⟨⟨⟨⟨h1,h2⟩,h3⟩,h4⟩,h5⟩,h6⟩:=h;refine ⟨h1,h2,h3,h4,h5,λj k e=>?_⟩;have hj:j<cap.length:=(KU.mp e).1;have h:=h6 j (MU.mpr hj);rw [e] at h;cases q:N'[t+j]? with
 | none=>rw [q] at h;cases h
 | some x=>
  rw [q] at h;have h':=of_decide_eq_true h;exact ⟨x,rfl,h'.1,h'.2⟩
section
variable {X:Cx} {pos:Pos} {a b c e l o i value:Expr} {es:List Expr} {ta tb te to ti tl:TE} {tc tA fq:TT} {t u vk:TS} {tr:TA} {g:TG} {gs:Pl} {wi:TI} {st:TB} {YM body b1 b2:List TB} {rest:List Expr}
theorem Y2:QB X [] L6:=⟨Yb⟩
theorem pB (h1:QS X st t) (h2:QB X YM u):QB X (st::YM) (FK t u):=⟨Th h1.h h2.h⟩
theorem Hb (h1:QS X st t):QB X [st] t:=⟨Wi h1.h⟩
theorem Tc (h:QE X e te):QS X (.Return (some e) pos) (BE te):=⟨Y6 h.h⟩
theorem EU (hc:QT X c tc) (ha:QB X b1 t) (hb:QB X b2 u):QS X (.If c b1 b2 pos) (CL tc t u):=⟨AR hc.h ha.h hb.h⟩
theorem Vr (hp:PassesOwn (TC X.prog X.w) X.A X.env X.xe) (hc:QT X c tc) (hb:QB X body vk):QS X (.While c body [] pos) (Qf tc vk):=⟨Se hp hc.h hb.h⟩
theorem Fu {tg iter:Expr} (hp:PassesOwn (TC X.prog X.w) X.A X.env X.xe) (hc:X.calm=true) (hi:QI X tg iter wi) (hg:QG X tg g) (hb:QB X body vk) (hs:∀x,TH iter X.env x=pure x:=by intro _;rfl) :
  QS X (.For tg iter body [] pos) (EN wi g vk):=⟨W3 hp hc hi.h hg.h hb.h hs⟩
theorem Jj (he:QE X e te) (hs:TZ e none pos.line X.env=pure false:=by rfl):QS X (.Expr e pos) (G8 te):=⟨Zj he.h hs⟩
theorem yE {i:Nat} {x:Str} {pos':Pos} (hN:X.N.Nodup) (hi:X.N[i]? = some x) (hx:Ef X.env.scope x) (he:QE X e te) (hs:TZ e (some (.Name x pos')) pos.line X.env=pure false:=by rfl)
  (hf:X.fn x=true\/X.env.scope.names.lookup x=some .local:=by first | exact .inl rfl | exact .inr rfl | assumption):QS X (.Assign [.Name x pos'] e pos) (Fl te (tO i)):=⟨AB hN hi hx he.h hs hf⟩
theorem T6 {tg:Expr} (he:QE X e te) (hg:QG X tg g) (hs:UB [tg] e pos.line X.env=pure false:=by rfl) (hw:UC [tg] e X.env=pure none:=by rfl)
  (h1:(TM [tg] X.env).map (·.2)=[UP tg X.env]:=by rfl):QS X (.Assign [tg] e pos) (Fl te g):=⟨U2 he.h hg.h hs hw h1⟩
theorem P8 {i j:Nat} {x y:Str} {px py pt:Pos} {kt k2 pt2} (hc:X.calm=true) (hN:X.N.Nodup) (hi:X.N[i]? = some x) (hj:X.N[j]? = some y) (bj:i≠j)
  (hx:X.env.scope.names.lookup x=some .local) (hy:X.env.scope.names.lookup y=some .local) (ha:QA X [a,b] tr)
  (hw:UC [.Tuple [.Name x px,.Name y py] kt pt] (.Tuple [a,b] k2 pt2) X.env=pure (some [x,y]))
  (hs:UB [.Tuple [.Name x px,.Name y py] kt pt] (.Tuple [a,b] k2 pt2) pos.line X.env=pure false:=by rfl) :
  QS X (.Assign [.Tuple [.Name x px,.Name y py] kt pt] (.Tuple [a,b] k2 pt2) pos) (BC i j tr):=⟨N8 hc hN hi hj bj hx hy ha.h hw hs⟩
theorem Zp {i j k:Nat} {x y z:Str} {px py pz pt:Pos} {kt k2 pt2} (hc:X.calm=true) (hN:X.N.Nodup) (hi:X.N[i]? = some x) (hj:X.N[j]? = some y) (hk:X.N[k]? = some z) (bj:i≠j) (rm:i≠k) (YV:j≠k)
  (hx:X.env.scope.names.lookup x=some .local) (hy:X.env.scope.names.lookup y=some .local) (hz:X.env.scope.names.lookup z=some .local) (ha:QA X [a,b,c] tr)
  (hw:UC [.Tuple [.Name x px,.Name y py,.Name z pz] kt pt] (.Tuple [a,b,c] k2 pt2) X.env=pure (some [x,y,z]))
  (hs:UB [.Tuple [.Name x px,.Name y py,.Name z pz] kt pt] (.Tuple [a,b,c] k2 pt2) pos.line X.env=pure false:=by rfl) :
  QS X (.Assign [.Tuple [.Name x px,.Name y py,.Name z pz] kt pt] (.Tuple [a,b,c] k2 pt2) pos) (K0 i j k tr):=⟨Wj hc hN hi hj hk bj rm YV hx hy hz ha.h hw hs⟩
theorem Lr {i:Nat} {x:Str} (hN:X.N.Nodup) (hi:X.N[i]? = some x) (hx:Ef X.env.scope x) (hf:X.fn x=true\/X.env.scope.names.lookup x=some .local:=by first | exact .inl rfl | exact .inr rfl | assumption):QG X (.Name x pos) (tO i):=⟨Zc hN hi hx hf⟩
theorem Iy:Eu X [] CN:=⟨B9⟩
theorem Bn (h1:QG X e g) (h2:Eu X es gs) (hs:(TM (e::es) X.env).map (·.2)=UP e X.env::(TM es X.env).map (·.2):=by rfl):Eu X (e::es) (J6 g gs):=⟨Tq h1.h h2.h hs⟩
theorem Ry {k n:Nat} (hc:X.calm=true) (h:Eu X es gs) (hn:(TM es X.env).length=n:=by rfl) (ft:(TM es X.env).findIdx? (·.1)=none:=by rfl):QG X (.Tuple es k pos) (FH X.K n gs):=⟨T3 hc h.h hn ft⟩
theorem R7 {ts:Wl} (ho:QE X o to) (hi:QE X i ti) (hs:V0 X ts)
  (ha:∀v,UP (.Subscript o i pos) X.env v=(do
   let ov <-UL [v] (TL o X.env)
   let iv <-UL [v,ov] (TL i X.env)
   standAt pos
   UL [v,ov,iv] (setItem ov iv v)
   release [v,ov,iv] []):=by intro _;rfl):QG X (.Subscript o i pos) (DQ to ti ts):=⟨N4 ho.h hi.h hs ha⟩
theorem Oh {tg:Expr} {p:Pos} (hg:Gl X "range") (hm:X.mg "range" = none) (ha:QA X [a] tr) (hs:cC a=false:=by rfl):QI X tg (.Call (.Name "range" p) [a] [] pos) (E9 tr):=⟨Oa hg hm ha.h (cG hs)⟩
theorem Xn {p WZ:Pos} {elts:List Expr} {x1} (hg:Gl X "enumerate") (hm:X.mg "enumerate" = none) (ha:QA X [a] tr) (hs:cC a=false:=by rfl):QI X (.Tuple elts x1 WZ) (.Call (.Name "enumerate" p) [a] [] pos) (E7 X.K tr):=⟨Ym hg hm ha.h (cG hs)⟩
theorem Js {tg:Expr} (hl:QE X l tl):QI X tg l (J7 X.K tl):=⟨Wy hl.h⟩
theorem Y3 {tg:Expr} (hl:QE X l tl):QI X tg l (DS X.K tl):=⟨T9 hl.h⟩
theorem Hg:QA X [] W6:=⟨Ur⟩
theorem qc (ha:QE X e te) (hr:QA X es tr) (hs:cC e=false:=by rfl):QA X (e::es) (Dl te tr):=⟨pc ha.h hr.h hs⟩
theorem T5 {i j pos}:QE X (.Constant (.int i) j pos) (tC (.int i)):=⟨Y8⟩
theorem FP {b j pos}:QE X (.Constant (.bool b) j pos) (tC (.bl b)):=⟨BK⟩
theorem Ep {j pos}:QE X (.Constant .none j pos) (tC .non):=⟨R8⟩
theorem Q6 {x j pos}:QE X (.Constant (.str x) j pos) (tC (.str x)):=⟨S7⟩
theorem D1 {x:Str} {v:V} {u:Value} (hg:Gl X x) (hm:X.mg x=none) (hv:TF x=some u) (r:bH v u) (hn:x≠"__name__":=by decide) (hd:(x==("__debug__":Str))=false:=by decide):QE X (.Name x pos) (tC v):=⟨yI hg hm hv r hn hd⟩
theorem qv (i:Nat) {x:Str} (hN:X.N[i]? = some x:=by rfl) (hv:AG X.env.scope x:=by first | exact LA rfl | exact MM (LA rfl) | exact MM (MM rfl)) (hd:(x==("__debug__":Str))=false:=by decide)
  (ZH:(x==("__classdict__":Str))=false:=by decide):QE X (.Name x pos) (BJ i):=⟨Uq hN hv hd ZH⟩
theorem Hz {op:Operator} {r:R2} (ho:mB X (UA op) r) (ha:QE X a ta) (hb:QE X b tb):QE X (.BinOp a op b pos) (Rv r ta tb):=⟨BO ho ha.h hb.h⟩
theorem CK {op:UnaryOp} {r:V->Hp->VK->Prop} (ho:GA X (unaryOp op) r) (ha:QE X a ta):QE X (.UnaryOp op a pos) (JJ r ta):=⟨BF ho ha.h⟩
theorem T8 (ha:QE X a ta):QE X (.UnaryOp .Not a pos) (F8 ta):=⟨S8 ha.h⟩
theorem yB {op:CmpOp} {r:R2} (ho:mB X (TQ op) r) (ha:QE X a ta) (hb:QE X b tb) (hm:TK op b=false):QE X (.Compare a [op] [b] pos) (Rv r ta tb):=⟨Xo ho ha.h hb.h hm⟩
theorem U9 (ha:QE X a ta) (hb:QE X (.BoolOp .And (b::rest) pos) tb):QE X (.BoolOp .And (a::b::rest) pos) (D8 ta tb):=⟨X7 ha.h hb.h⟩
theorem EE (ha:QE X a ta) (hb:QE X (.BoolOp .Or (b::rest) pos) tb):QE X (.BoolOp .Or (a::b::rest) pos) (BD ta tb):=⟨CI ha.h hb.h⟩
theorem O4 {op} (h:QE X a ta):QE X (.BoolOp op [a] pos) ta:=⟨Y0 h.h⟩
theorem Te (hc:QT X c tA) (ha:QE X a ta) (hb:QE X b tb):QE X (.IfExp c a b pos) (JC tA ta tb):=⟨Qt hc.h ha.h hb.h⟩
theorem Z6 {x1} (h:QA X es tr):QE X (.Tuple es x1 pos) (BY tr):=⟨M3 h.h⟩
theorem Fd (h:QA X es tr):QE X (.List es pos) (DH tr):=⟨O1 h.h⟩
theorem J8 {r:R2} (hr:We X r) (ha:QE X a ta) (hb:QE X b tb) (hs:sJ b):QE X (.Subscript a b pos) (Rv r ta tb):=⟨EM hr ha.h hb.h hs⟩
theorem C3:QO X none Ie:=⟨Xt⟩
theorem Ze (h:QE X e te):QO X (some e) (J3 te):=⟨D3 h.h⟩
theorem uS {r:V->Option Int->Option Int->Hp->VK->Prop} {lo hi:Option Expr} {tlo thi:TO} {p2:Pos} (hr:CM X r) (he:QE X e te) (hl:QO X lo tlo) (hu:QO X hi thi):QE X (.Subscript e (.Slice lo hi none p2) pos) (JH r te tlo thi):=⟨Sy hr he.h hl.h hu.h⟩
theorem Qr {k j:Nat} {x:Str} {ps:List Str} {sp:Sp} {p:Pos} (F:Fn X.prog X.w X.K X.mg X.base k x ps sp) (hr:dW j X.A) (hk:k<=j) (hg:Gl X x) (ha:QA X (e::es) tr) (YK:(x==("__debug__":Str))=false:=by decide)
  (hs:bM (e::es)=true:=by rfl):QE X (.Call (.Name x p) (e::es) [] pos) (Dd sp [] E0 tr):=⟨V6 F hr hk hg ha.h YK hs⟩
theorem eU {x:Str} {p:Pos} {id:String} {r:List V->Hp->VK->Prop} (hc:gM X (.builtin id) r) (hg:Gl X x) (hm:X.mg x=none) (hv:TF x=some (.builtin id)) (ha:QA X (e::es) tr) (hn:x≠"__name__":=by decide) (YK:(x==("__debug__":Str))=false:=by decide)
  (hs:bM (e::es)=true:=by rfl):QE X (.Call (.Name x p) (e::es) [] pos) (AI r tr):=⟨Oz hc hg hm hv ha.h hn YK hs⟩
theorem kI {x:Str} {p:Pos} {T:String} {r:List V->Hp->VK->Prop} (hc:gM X (.type T) r) (hg:Gl X x) (hm:X.mg x=none) (hv:TF x=some (.type T)) (ha:QA X (e::es) tr) (hn:x≠"__name__":=by decide) (YK:(x==("__debug__":Str))=false:=by decide)
  (hs:bM (e::es)=true:=by rfl):QE X (.Call (.Name x p) (e::es) [] pos) (AI r tr):=⟨Hm hc hg hm hv ha.h hn YK hs⟩
theorem Yv {target elt iter:Expr} {scope:TR} {N':List Str} {cap:List Nat} {t:Nat} (hc:X.calm=true) (S:bP X N' scope t cap) (hi:QI X target iter wi)
  (hg:∀C s3 H3 fp,QG (b8 X N' scope C s3 H3 fp) target g) (he:∀C s3 H3 fp,QE (b8 X N' scope C s3 H3 fp) elt te) (hs:∀x,TH iter X.env x=pure x:=by intro _;rfl) :
  QE X (.ListComp elt [⟨target,iter,[],0⟩] scope pos) (Im t cap wi g te):=⟨D2 hc S hi.h (λC s3 H3 fp=>(hg C s3 H3 fp).h) (λC s3 H3 fp=>(he C s3 H3 fp).h) hs⟩
theorem zU {op:CmpOp} {r:R2} (ho:mB X (TQ op) r) (ha:QE X a ta) (hb:QE X b tb) (hm:TK op b=false):QT X (.Compare a [op] [b] pos) (G5 (Rv r ta tb)):=⟨Zv ho ha.h hb.h hm⟩
theorem V5 (ha:QT X a tA):QT X (.UnaryOp .Not a pos) (AU tA):=⟨AA ha.h⟩
theorem X4 (h:QE X e te) (he:∀whole,isTrue e X.env whole=(do let v <-whole;standAt e.pos;UL [v] (truthy v)):=by intro _;rfl):QT X e (tB te):=⟨X1 h.h he⟩
theorem Yz (ha:QT X a tA):QW X (.BoolOp .And [a] pos) tA:=⟨Xz ha.h⟩
theorem O2 (ha:QT X a tA):QW X (.BoolOp .Or [a] pos) tA:=⟨O9 ha.h⟩
theorem M1 (ha:QT X a tA) (hb:QW X (.BoolOp .And (b::rest) pos) fq):QW X (.BoolOp .And (a::b::rest) pos) (DL tA fq):=⟨S4 ha.h hb.h⟩
theorem CT (ha:QT X a tA) (hb:QW X (.BoolOp .Or (b::rest) pos) fq):QW X (.BoolOp .Or (a::b::rest) pos) (JA tA fq):=⟨BU ha.h hb.h⟩
theorem IP (h:QW X e tA):QT X e tA:=⟨h.h.pt⟩
end
section
variable {P:SS} {w:SW} {K:W.Frag} {mg:Str->Option Value} {base:Heap}
theorem eM.okQ {x qual:Str} {st:TB} {f:SO} {fd:SR} {N ps:List Str} {k:Nat} {sp:Sp} (F:eM K x qual st f fd) (S:aL N ps (aG st)) (len:∀vs H Q E,sp vs H Q E->vs.length=ps.length)
  (ZI:∀(VS:Value) (A:Around) (outer:List Env) (s:Shared) (H:Hp) (vs:List V) (Q:VK) (E:XK),dW k (A.deeper (UZ qual (aG st) s.heap.objs.size f VS))->sp vs H Q E->
   ∃t,QB (Cn e9 P w K mg base N qual (aG st) f VS A outer s H E).nox (dZ st) t/\t { nx:=λ_ H'=>Q .non H',rt:=Q } (lN N vs) H):bF P w K mg base e9 (k+1) f fd ps sp:=
 F.ok S len λVS A outer s H vs Q E hr h=>let ⟨t,h1,h2⟩:=ZI VS A outer s H vs Q E hr h;⟨t,h1.h,h2⟩
end
section
variable {prog:SS} {w:SW} {A:Around} {E:Value->Shared->Prop} {s:Shared}
theorem y9 {it t:SO} {k:Nat} {items:Array Value} {x:Value} {Q:Value->Shared->Prop} (gi:s.heap.IsTupleIter it t k) (gt:s.heap.IsTuple t items) (gx:items[k]? = some x)
  (gq:∀h',h'.IsTupleIter it t (k+1)->OR it s.heap h'->Q x { s with heap:=h' }):SU (TC prog w) A (Builtin.SmallTypes.nextOf (.ref it)) Q E s:=by
 obtain ⟨ob,eo,ec,ed⟩:=id gi;obtain ⟨ot,et,_,nt,xt⟩:=gt;unfold Builtin.SmallTypes.nextOf;refine SQ (wpAny_callSpecial?_slot (name:=PH "__next__") gi.typeIs F.slot_tuple_iterator_next (UO F.slot_tuple_iterator_next gi.typeIs F.entry_tuple_iterator_next ?_ (F.args_tuple_iterator_next_1 _)));show SU _ _ (field (.ref it) 0 >>= _) _ _ _;refine SQ (TN eo ed (x:=.ref t) rfl ?_);show SU _ _ (if (MX t==QC)=true then _ else _) _ _ _;rw [if_neg (λhq:(MX t==QC)=true=>OY hq)];show SU _ _ (field (.ref it) 1 >>= _) _ _ _;refine SQ (TN eo ed (x:=.int k 0) rfl ?_);show SU _ _ (seqItems? (.ref t) >>= _) _ _ _;refine SQ (UH et xt ?_);simp only [NJ,gx];refine SQ (wpAny_setField eo ed (by simp) (SV ⟨x,rfl,SV (gq _ ?_ (Heap.SameBut.update ..))⟩));exact ⟨_,OJ _ eo (Obj.isFreed_of_fields (Obj.data_mapFields ed _)),(Obj.cls_mapFields ..).trans ec,by rw [Obj.data_mapFields ed];simp [rawInt]⟩
theorem Bs {it t:SO} {k:Nat} {items:Array Value} {Q:Value->Shared->Prop} (gh:A.handled=none) (gi:s.heap.IsTupleIter it t k) (gt:s.heap.IsTuple t items) (gx:items[k]? = none)
  (ge:∀h' e,Heap.ExtBut it s.heap h'->(∃o,h'.get? e=some o/\o.cls = .type "StopIteration")->E (.ref e) { s with heap:=h' }):SU (TC prog w) A (Builtin.SmallTypes.nextOf (.ref it)) Q E s:=by
 obtain ⟨ob,eo,ec,ed⟩:=id gi;obtain ⟨ot,et,_,nt,xt⟩:=gt;unfold Builtin.SmallTypes.nextOf;refine SQ (wpAny_callSpecial?_slot (name:=PH "__next__") gi.typeIs F.slot_tuple_iterator_next (UO F.slot_tuple_iterator_next gi.typeIs F.entry_tuple_iterator_next ?_ (F.args_tuple_iterator_next_1 _)));show SU _ _ (field (.ref it) 0 >>= _) _ _ _;refine SQ (TN eo ed (x:=.ref t) rfl ?_);show SU _ _ (if (MX t==QC)=true then _ else _) _ _ _;rw [if_neg (λhq:(MX t==QC)=true=>OY hq)];show SU _ _ (field (.ref it) 1 >>= _) _ _ _;refine SQ (TN eo ed (x:=.int k 0) rfl ?_);show SU _ _ (seqItems? (.ref t) >>= _) _ _ _;refine SQ (UH et xt ?_);simp only [NJ,gx];refine SQ (UN (SQ (wpAny_setField eo ed (by simp) ?_)));show SU _ _ (newExc (.type "StopIteration") [] >>= _) _ _ _;refine SQ ?_;simp only [newExc,newTuple];refine SQ (TU ?_ (by size_fits));refine SQ (m:=firstArgMember _ _) (wpAny_of_eq (a:=QC) (by first | rfl | (simp only [firstArgMember];rfl)) (TU ?_ (by size_fits)));simp only [raiseNew];refine SQ (wpAny_handled ?_)
 first | rw [show A.in1.handled=none from gh] | rw [gh]
 refine SQ (SV (wpAny_throw ?_));exact ge _ _ (((Heap.SameBut.update ..).extBut.push _).push _) ⟨_,LR _ rfl,rfl⟩
theorem Nq (gh:A.handled=none) (it t:SO) (YC:t≠it) (items:Array Value) :
  Draws prog w A it [it,t] items.size (λi v=>items[i]? = some v) (λi h=>h.IsTupleIter it t i/\h.IsTuple t items) where
 live:=λ_ _ st=>let ⟨o,ho,_⟩:=st.1;⟨o,ho⟩
 frame:=λ_ _ _ st hk=>⟨st.1.at λo e=>hk it (by simp) o e,st.2.at λo e=>hk t (by simp) o e⟩
 item:=λi s Q E hi st hQ=>y9 st.1 st.2 (x:=items[i]) (by simp [hi]) λh' xu jn=>hQ _ h' s.toks (by simp [hi]) ⟨xu,st.2.extBut jn.extBut YC⟩ jn
 done:=λs Q E st hE=>Bs gh st.1 st.2 (by simp) hE
end
def iI (κ:Bool) (h:Heap) (it a:SO) (i:Nat):Prop:=match κ with | true=>h.IsTupleIter it a i | false=>h.IsListIter it a i
def rN (κ:Bool) (h:Heap) (a:SO) (items:Array Value):Prop:=match κ with | true=>h.IsTuple a items | false=>h.IsList a items
theorem iI.at {κ:Bool} {h h':Heap} {it a:SO} {i:Nat} (x:iI κ h it a i) (e:∀o,h.get? it=some o->h'.get? it=some o):iI κ h' it a i:=by
 cases κ
 ·exact Heap.IsListIter.at x e
 ·exact Heap.IsTupleIter.at x e
theorem iI.obj {κ:Bool} {h:Heap} {it a:SO} {i:Nat} (x:iI κ h it a i):∃o,h.get? it=some o/\∀v,o.data≠.cell v:=by
 cases κ
 ·obtain ⟨o,e,c,d⟩:=x;exact ⟨o,e,λv z=>by rw [d] at z;cases z⟩
 ·obtain ⟨o,e,c,d⟩:=x;exact ⟨o,e,λv z=>by rw [d] at z;cases z⟩
theorem Tj {prog:SS} {w:SW} {A:Around} (κ:Bool) (hh:A.handled=none) (it a:SO) (YC:a≠it) (items:Array Value) :
  Draws prog w A it [it,a] items.size (λi v=>items[i]? = some v) (λi h=>iI κ h it a i/\rN κ h a items):=by
 cases κ
 ·exact Draws.list hh it a YC items
 ·exact Nq hh it a YC items
abbrev DI (h:Heap) (a:SO):Heap:=h.push { cls:=.type "tuple_iterator",data:=.fields #[.ref a,.int 0 0] }
abbrev FF (h:Heap) (a b:SO):Heap:=(DI h a).push { cls:=.type "tuple_iterator",data:=.fields #[.ref b,.int 0 0] }
abbrev EH (h:Heap) (a b:SO):Heap:=(FF h a b).push { cls:=.type "tuple",data:=.seq #[.ref h.objs.size,.ref (DI h a).objs.size] }
abbrev AJ (h:Heap) (a b:SO):Heap:=(EH h a b).push { cls:=.type "tuple",data:=.seq #[.none,.none] }
abbrev Vt (h:Heap) (a b:SO):Heap:=(AJ h a b).push { cls:=.type "zip",data:=.fields #[.none,.bool false,.bool false,.ref (FF h a b).objs.size,.ref (EH h a b).objs.size] }
theorem Pn (a b:SO) (xs ys:Array Value) :
  Meets (Builtin.«zip.__new__» ⟨[.type "zip",.ref a,.ref b],[]⟩) (λ_ R s=>s.heap.IsTuple a xs/\s.heap.IsTuple b ys/\R (.ok (.ret (.ref (AJ s.heap a b).objs.size))) { s with heap:=Vt s.heap a b }):=
 .of_wp λprog w A R s h=>by
  obtain ⟨hp,g,d,tk,os⟩:=s;obtain ⟨ga,gb,h⟩:=h;have aC9:=sub_zip;have gA:Heap.IsTuple (Shared.heap ⟨hp,g,d,tk,os⟩) a xs:=ga;have gB:Heap.IsTuple (Shared.heap ⟨hp.push { cls:=.type "tuple_iterator",data:=.fields #[.ref a,.int 0 0] },g,d,tk,os⟩) b ys:=Heap.IsTuple.push gb _
  wp_walk using US gA,US gB
  exact ⟨_,rfl,h⟩
theorem Oc {prog:SS} {w:SW} {A:Around} {E:Value->Shared->Prop} {s:Shared} {a b:SO} {xs ys:Array Value} {Q:Value->Shared->Prop} (ga:s.heap.IsTuple a xs) (gb:s.heap.IsTuple b ys)
  (g:∀h',UY h' (s.heap.objs.size+4) (s.heap.objs.size+2) (s.heap.objs.size+3) .none->IsPair h' (s.heap.objs.size+2) (.ref s.heap.objs.size) (.ref (s.heap.objs.size+1))->IsPair h' (s.heap.objs.size+3) .none .none->
   h'.IsTupleIter s.heap.objs.size a 0->h'.IsTupleIter (s.heap.objs.size+1) b 0->(∀c o,s.heap.get? c=some o->h'.get? c=some o)->Q (.ref (s.heap.objs.size+4)) { s with heap:=h' }) :
  SU (TC prog w) A (call (.type "zip") [.ref a,.ref b]) Q E s:=by
 refine callType_new F.called_zip (by decide) (F.typeCall_zip_2 _ _) (F.newCall_zip_2 _ _) (λobj=>F.args_object_init_3 obj _ _) F.entry_zip_new (Pn a b xs ys) ⟨ga,gb,?_⟩;have y1:(DI s.heap a).objs.size=s.heap.objs.size+1:=QD ..;have y2:(FF s.heap a b).objs.size=s.heap.objs.size+2:=by rw [QD,y1]
 have y3:(EH s.heap a b).objs.size=s.heap.objs.size+3:=by rw [QD,y2]
 have y4:(AJ s.heap a b).objs.size=s.heap.objs.size+4:=by rw [QD,y3]
 have p4:∀{c:SO} {o:Obj},(AJ s.heap a b).get? c=some o->(Vt s.heap a b).get? c=some o:=λe=>LG _ e;have p3:∀{c:SO} {o:Obj},(EH s.heap a b).get? c=some o->(Vt s.heap a b).get? c=some o:=λe=>p4 (LG _ e);have p2:∀{c:SO} {o:Obj},(FF s.heap a b).get? c=some o->(Vt s.heap a b).get? c=some o:=λe=>p3 (LG _ e);have p1:∀{c:SO} {o:Obj},(DI s.heap a).get? c=some o->(Vt s.heap a b).get? c=some o:=λe=>p2 (LG _ e);have p0:∀{c:SO} {o:Obj},s.heap.get? c=some o->(Vt s.heap a b).get? c=some o:=λe=>p1 (LG _ e);have x5:(Vt s.heap a b).get? (AJ s.heap a b).objs.size=some _:=LR _ rfl;have x4:(Vt s.heap a b).get? (EH s.heap a b).objs.size=some _:=p4 (LR _ rfl);have x3:(Vt s.heap a b).get? (FF s.heap a b).objs.size=some _:=p3 (LR _ rfl);have x2:(Vt s.heap a b).get? (DI s.heap a).objs.size=some _:=p2 (LR _ rfl);have x1:(Vt s.heap a b).get? s.heap.objs.size=some _:=p1 (LR _ rfl);show _/\_;rw [y2,y3,y4] at x5;rw [y1,y2] at x3;rw [y3] at x4;rw [y1] at x2;rw [y4];exact ⟨⟨_,x5,rfl⟩,g _ x5 x3 x4 ⟨_,x1,rfl,rfl⟩ ⟨_,x2,rfl,rfl⟩ λc o e=>p0 e⟩
theorem KC (n:Nat):[n+4,n+2,n+3,n,n+1].Nodup:=by
 simp only [OH,KR,OG,or_false,not_or,SI,and_true,not_false_eq_true];omega
theorem KG {n c:Nat} (h:c∈[n+4,n+2,n+3,n,n+1]):n<=c:=by
 simp only [KR,OG,or_false] at h;omega
section
variable {X:Cx} {pos:Pos} {a b e:Expr} {ta tb te:TE} {tc:TT}
def Xf (c:TT):TS:=λD σ H=>c σ H λb H1=>b=true/\D.nx σ H1
theorem Mk {c:Expr} {m:Option Expr} (hc:QT X c tc):QS X (.Assert c m pos) (Xf tc):=⟨by
 intro pins s σ H D I h;exact wpAny_Assert_holds (dM (hc.h pins s σ H _ I h) λb s1 ⟨H1,I1,q1⟩=>⟨q1.1,σ,H1,I1,q1.2⟩)⟩
def BG (K:W.Frag) (te:TE) (T1 T2:String):TE:=λσ H Q=>te σ H λx H1=>∃k,Kd K H1 x k/\T1∈Xv/\T2∈Xv/\∀p,H1 p=none->Q (.bl (rS k T1||rS k T2)) (upd H1 p (.tup [.ty T1,.ty T2]))
theorem tV {H:Hp} {pins:List (SO×Obj)} {σ:St} {s:Shared} {x:V} {u:Value} {k T:String} (I:aY X pins σ H s) (r:bH x u) (hk:Kd X.K H x k) (hT:T∈Xv):s.TypeIs u k/\Answers (λs=>s.TypeIs u k) u (.type T) (rS k T):=by
 simp only [Xv,KR,OG,or_false] at hT;cases hk with
 | non=>
  cases r;refine ⟨rfl,?_⟩;rcases hT with rfl | rfl | rfl | rfl | rfl
  ·exact Answers.of_false_none (by decide +kernel) F.isi_meta_int F.sub_NoneType_int
  ·exact Answers.of_false_none (by decide +kernel) F.isi_meta_bool F.sub_NoneType_bool
  ·exact Answers.of_false_none (by decide +kernel) F.isi_meta_tuple F.sub_NoneType_tuple
  ·exact Answers.of_false_none (by decide +kernel) F.isi_meta_list F.sub_NoneType_list
  ·exact Answers.of_false_none (by decide +kernel) F.isi_meta_str F.sub_NoneType_str
 | bl b=>
  cases r;refine ⟨rfl,?_⟩;rcases hT with rfl | rfl | rfl | rfl | rfl
  ·exact Answers.of_true F.isi_meta_int F.sub_bool_int
  ·exact Answers.of_true F.isi_meta_bool F.sub_bool_bool
  ·exact Answers.of_false_bool (by decide +kernel) F.isi_meta_tuple F.sub_bool_tuple
  ·exact Answers.of_false_bool (by decide +kernel) F.isi_meta_list F.sub_bool_list
  ·exact Answers.of_false_bool (by decide +kernel) F.isi_meta_str F.sub_bool_str
 | int i=>
  obtain ⟨t,rfl⟩:=r;refine ⟨rfl,?_⟩;rcases hT with rfl | rfl | rfl | rfl | rfl
  ·exact Answers.of_true F.isi_meta_int F.sub_int_int
  ·exact Answers.of_false_int (by decide +kernel) F.isi_meta_bool F.sub_int_bool
  ·exact Answers.of_false_int (by decide +kernel) F.isi_meta_tuple F.sub_int_tuple
  ·exact Answers.of_false_int (by decide +kernel) F.isi_meta_list F.sub_int_list
  ·exact Answers.of_false_int (by decide +kernel) F.isi_meta_str F.sub_int_str
 | str z=>
  obtain ⟨t,rfl⟩:=r;refine ⟨rfl,?_⟩;rcases hT with rfl | rfl | rfl | rfl | rfl
  ·exact Answers.of_false_str (by decide +kernel) F.isi_meta_int F.sub_str_int
  ·exact Answers.of_false_str (by decide +kernel) F.isi_meta_bool F.sub_str_bool
  ·exact Answers.of_false_str (by decide +kernel) F.isi_meta_tuple F.sub_str_tuple
  ·exact Answers.of_false_str (by decide +kernel) F.isi_meta_list F.sub_str_list
  ·exact Answers.of_true F.isi_meta_str F.sub_str_str
 | tup hq=>
  cases r;obtain ⟨VI,rv,⟨o,ho,hc,_⟩,_⟩:=I.tuple hq;refine ⟨⟨o,ho,hc⟩,?_⟩;rcases hT with rfl | rfl | rfl | rfl | rfl
  ·exact Answers.of_false_tuple (by decide +kernel) F.isi_meta_int F.sub_tuple_int
  ·exact Answers.of_false_tuple (by decide +kernel) F.isi_meta_bool F.sub_tuple_bool
  ·exact Answers.of_true F.isi_meta_tuple F.sub_tuple_tuple
  ·exact Answers.of_false_tuple (by decide +kernel) F.isi_meta_list F.sub_tuple_list
  ·exact Answers.of_false_tuple (by decide +kernel) F.isi_meta_str F.sub_tuple_str
 | lst hq=>
  cases r;obtain ⟨VI,rv,⟨o,n,ho,hc,_⟩,_⟩:=I.list hq;refine ⟨⟨o,ho,hc⟩,?_⟩;rcases hT with rfl | rfl | rfl | rfl | rfl
  ·exact Answers.of_false_list (by decide +kernel) F.isi_meta_int F.sub_list_int
  ·exact Answers.of_false_list (by decide +kernel) F.isi_meta_bool F.sub_list_bool
  ·exact Answers.of_false_list (by decide +kernel) F.isi_meta_tuple F.sub_list_tuple
  ·exact Answers.of_true F.isi_meta_list F.sub_list_list
  ·exact Answers.of_false_list (by decide +kernel) F.isi_meta_str F.sub_list_str
theorem Xu {x1 x2:Str} {T1 T2:String} {p p1 p2 p3:Pos} {k:Nat} (hg:Gl X "isinstance") (hm:X.mg "isinstance" = none) (he:QE X e te) (h1:Gl X x1) (m1:X.mg x1=none) (b1:TF x1=some (.type T1)) (h2:Gl X x2) (m2:X.mg x2=none) (b2:TF x2=some (.type T2))
  (hs:cC e=false:=by rfl) (n1:x1≠"__name__":=by decide) (d1:(x1==("__debug__":Str))=false:=by decide) (n2:x2≠"__name__":=by decide) (d2:(x2==("__debug__":Str))=false:=by decide) :
  QE X (.Call (.Name "isinstance" p) [e,.Tuple [.Name x1 p1,.Name x2 p2] k p3] [] pos) (BG X.K te T1 T2):=⟨by
 intro pins s σ H Q I h;refine UT (lW I hg hm boot_isinstance ?_);refine PyProof.Rows.callWith_builtin1 ?_ (cG hs) (fB rfl);rw [cG hs];show SU _ _ (spliced ((false,TL e X.env)::UI pos (TJ [.Tuple [.Name x1 p1,.Name x2 p2] k p3] X.env))) _ _ s;refine Calls.spliced_cons (dM (he.h pins s σ H _ I h) λu s1 ⟨x,H1,I1,r1,kk,hk,t1,t2,q⟩=>?_);rw [cG (e:=.Tuple [.Name x1 p1,.Name x2 p2] k p3) rfl];show SU _ _ (spliced ((false,TL (.Tuple [.Name x1 p1,.Name x2 p2] k p3) X.env)::UI pos (TJ [] X.env))) _ _ s1;have both:PA X [.Name x1 p1,.Name x2 p2] (Dl (tC (.ty T1)) (Dl (tC (.ty T2)) W6)):=pc (yI (v:=.ty T1) h1 m1 b1 rfl n1 d1) (pc (yI (v:=.ty T2) h2 m2 b2 rfl n2 d2) Ur);refine Calls.spliced_cons (wpAny_Tuple_spliced (dM (both p3 pins s1 σ H1 (λvs H2=>vs=[.ty T1,.ty T2]/\H2=H1) I1 ⟨rfl,rfl⟩) λus s2 ⟨vs,H2,I2,r2,ev,eh⟩=>?_));subst ev eh;obtain ⟨v1,v2,rfl,w1,w2⟩:=bE.two r2;cases w1;cases w2;refine ⟨by show 2<=SX;decide,?_⟩;refine Calls.spliced_nil ?_;have hf:H2 s2.heap.objs.size=none:=I2.hok.fresh (LF _);have I3:aY X pins σ (upd H2 s2.heap.objs.size (.tup [.ty T1,.ty T2])) { s2 with heap:=s2.heap.push { cls:=.type "tuple",data:=.seq [Value.type T1,Value.type T2].toArray } }:=
  I2.laid (t':=s2.toks) (λb u e=>LG _ e) (LF _) ⟨by show 2<=SX;decide,[.type T1,.type T2],.cons rfl (.cons rfl .nil),⟨_,LR _ rfl,rfl,_,rfl⟩⟩
 have hk3:Kd X.K (upd H2 s2.heap.objs.size (.tup [.ty T1,.ty T2])) x kk:=by
  have up:∀b o,H2 b=some o->upd H2 s2.heap.objs.size (.tup [.ty T1,.ty T2]) b=some o:=λb o e=>by rw [a8 (a9 e hf)];exact e
  cases hk with
  | non=>exact .non
  | bl b=>exact .bl b
  | int i=>exact .int i
  | str z=>exact .str z
  | tup hq=>
   rcases hq with (hq | ⟨o,hq⟩) | hq
   ·exact .tup (.inl (.inl (up _ _ hq)))
   ·exact .tup (.inl (.inr ⟨o,up _ _ hq⟩))
   ·exact .tup (.inr hq)
  | lst hq=>
   rcases hq with (hq | ⟨o,hq⟩) | hq
   ·exact .lst (.inl (.inl (up _ _ hq)))
   ·exact .lst (.inl (.inr ⟨o,up _ _ hq⟩))
   ·exact .lst (.inr hq)
 obtain ⟨g0,g1⟩:=tV I3 r1 hk3 t1;obtain ⟨_,g2⟩:=tV I3 r1 hk3 t2;refine IsiPair.tupleOf (cs:=[.type T1,.type T2]) (vs:=[rS kk T1,rS kk T2]) ⟨g1,g2,trivial⟩ g0 (LR _ rfl) λtk=>?_;refine ⟨.bl (rS kk T1||rS kk T2),_,I3.tok _,?_,q _ hf⟩;show SJ ([rS kk T1,rS kk T2].any id)=SJ (rS kk T1||rS kk T2);simp⟩
end
section
variable {X:Cx} {K:W.Frag} {pos:Pos}
def Ib (i j:Int):Prop:=i.natAbs<2^8000/\j.natAbs<2^8000
theorem Li {a:Int} (h:a.natAbs<2^8000):Builtin.Int.intBits a<=8001:=by
 unfold Builtin.Int.intBits
 split
 ·omega
 ·rename_i h0;have YC:a.natAbs≠0:=by
   intro z;apply h0
   first | exact Int.natAbs_eq_zero.mp z | simp [Int.natAbs_eq_zero.mp z] | omega
  have:=(RD YC).mpr h;omega
theorem Ib.ok {i j:Int} (h:Ib i j):IntMulOk i j:=by
 have h1:=Li h.1;have h2:=Li h.2;unfold IntMulOk;have:Builtin.Int.intTooBig (Builtin.Int.intBits i+Builtin.Int.intBits j)=false:=by
  unfold Builtin.Int.intTooBig;simp only [decide_eq_false_iff_not];have:(16002:Int)<=bitsLine:=by decide
  omega
 rw [this];simp
theorem Zg:mB X (UA .Mult) (rI Ib λi j=>.int (i*j)):=DM λ_ _ _ _ _ _ _ hc q=>mul_int q hc.ok
end
section
variable {X:Cx}
def qY (i j:Int):Prop:=j≠0/\j.natAbs<2^8000
theorem dH:mB X (UA .FloorDiv) (rI qY λi j=>.int (i.fdiv j)):=DM λi j _ _ _ _ _ hc q=>by
 obtain ⟨h0,h1⟩:=hc;have hl:j.natAbs.log2<9000:=by
  have:=(RD (show j.natAbs≠0 by omega)).mpr h1;omega
 exact floordiv_int h0 q (.inl (PyProof.noPylong_of_log2 hl))
end
section
variable {X:Cx} {pos:Pos} {o e:Expr} {to:TE} {tr:TA}
theorem wF {ap:Pos} (ho:QE X o to) (ha:QA X [e] tr) (WN:TV o "append" X.env (TL o X.env)=TL o X.env:=by rfl) (WO:(ap.endLine==pos.line)=true:=by rfl) (hs:cC e=false:=by rfl) :
  QE X (.Call (.Attribute o "append" ap) [e] [] pos) (EL X.K "list" Ih to tr):=
 ⟨Jv PySem.F.plainAttrs_list PySem.F.slot_list_append PySem.F.type_list_append xB ho.h ha.h WN (by rw [cG hs];rfl) WO (cG hs) (fB rfl)⟩
end
section
variable {X:Cx}
theorem zQ:gM X (.builtin "divmod") (λxs H Q=>∃a b:Int,xs=[.int a,.int b]/\0<b/\b<2^200/\∀p,H p=none->Q (.ref p) (upd H p (.tup [.int (a/b),.int (a%b)]))):=by
 intro pins s σ H xs us Q I r h;obtain ⟨a,b,rfl,h0,h1,q⟩:=h;obtain ⟨u,v,rfl,rx,ry⟩:=bE.two r;obtain ⟨t,rfl⟩:=rx;obtain ⟨t',rfl⟩:=ry;have e1:a.fdiv b=a/b:=OM _ (by omega);have e2:a.fmod b=a%b:=RJ _ (by omega);have hl:b.natAbs.log2<9000:=by
  have hb:b.natAbs<2^200:=by omega
  have:=(RD (show b.natAbs≠0 by omega)).mpr hb;omega
 refine divmod_int (by omega) ?_ (.inl (PyProof.noPylong_of_log2 hl));refine ⟨.ref s.heap.objs.size,_,I.laid (o:=.tup [.int (a/b),.int (a%b)]) (t':=s.toks+1+1) (λb u e=>LG _ e) (LF _) ?_,rfl,q _ (I.hok.fresh (LF _))⟩;refine ⟨by show 2<=SX;decide,[.int (a.fdiv b) s.toks,.int (a.fmod b) (s.toks+1)],.cons ⟨_,by rw [e1]⟩ (.cons ⟨_,by rw [e2]⟩ .nil),⟨_,LR _ rfl,rfl,_,rfl⟩⟩
end
section
variable {κ:Type} [DecidableEq κ]
def mY (VV:List (κ×V)) (k:κ):Option V:=(VV.find? λkv=>decide (kv.1=k)).map (·.2)
def yX (VV:List (κ×V)) (k:κ) (v:V):List (κ×V):=
 if (VV.any λkv=>decide (kv.1=k))=true then VV.map (λkv=>if kv.1=k then (kv.1,v) else kv) else VV++[(k,v)]
theorem o7 {p:κ×V} {r:List (κ×V)} {k:κ} (e:p.1=k):mY (p::r) k=some p.2:=by simp [mY,QU,e]
theorem oR {p:κ×V} {r:List (κ×V)} {k:κ} (e:¬p.1=k):mY (p::r) k=mY r k:=by simp [mY,QU,e]
theorem Dg (k:κ):∀VV:List (κ×V),(VV.any λkv=>decide (kv.1=k))=(mY VV k).isSome
 | []=>rfl
 | p::r=>by
  rw [QK]
  by_cases e:p.1=k
  ·simp only [o7 e,decide_eq_true e,Bool.true_or,Option.isSome_some]
  ·rw [oR e,decide_eq_false e,Bool.false_or];exact Dg k r
theorem Ay (VV:List (κ×V)) (k:κ) (v:V):(yX VV k v).length<=VV.length+1:=by
 unfold yX
 split
 ·rw [KW];omega
 ·rw [LC,LJ,NF];omega
theorem Ra.isSome_eq {o:Option V} {u:Option Value} (r:Ra o u):o.isSome=u.isSome:=by
 cases o with
 | none=>cases u with
  | none=>rfl
  | some _=>exact (show False from r).elim
 | some _=>cases u with
  | none=>exact (show False from r).elim
  | some _=>rfl
end
theorem EK {P:SS} {w:SW} {k:Key} {u:Value} (r:bH (kV k) u):(fJ P w).is k u=true:=by
 cases k with
 | inl i=>obtain ⟨t,e⟩:=(show ∃t,u=Value.int i t from r);subst e;exact Ax P w i t
 | inr x=>obtain ⟨t,e⟩:=(show ∃t,u=Value.str x t from r);subst e;exact Eb P w x t
theorem xA {P:SS} {w:SW}:∀{ks:List Key} {us:List Value},bE (ks.map kV) us->ItemsAre (fJ P w) ks us
 | [],_,r=>by rw [OS] at r;cases r;exact .nil
 | k::ks,_,r=>by
  rw [MO] at r;cases r with
  | cons h t=>exact .cons (EK h) (xA t)
abbrev Kb (H:Hp):List (List Key×V)->List (List Key×SO×Value)->Prop:=Paired λp q=>p.1=q.1/\H q.2.1=some (.tup (p.1.map kV))/\bH p.2 q.2.2
theorem Kb.val {H:Hp} {VV:List (List Key×V)} {xs:List (List Key×SO×Value)} (r:Kb H VV xs) (k:List Key):Ra (mY VV k) ((atKey xs k).map (·.2)):=by
 induction r with
 | nil=>exact True.intro
 | @cons p q ps qs h t ih=>
  obtain ⟨h1,_,h2⟩:=h
  by_cases e:p.1=k
  ·have e':q.1=k:=h1.symm.trans e;have b:atKey (q::qs) k=some q.2:=by simp [atKey,QU,e']
   rw [o7 e,b];exact h2
  ·have e':¬q.1=k:=λz=>e (h1.trans z);have b:atKey (q::qs) k=atKey qs k:=by simp [atKey,QU,e']
   rw [oR e,b];exact ih
theorem Kb.repl {H:Hp} {VV:List (List Key×V)} {xs:List (List Key×SO×Value)} (r:Kb H VV xs) (k:List Key) {y:V} {u:Value} (ry:bH y u) :
  Kb H (VV.map λkv=>if kv.1=k then (kv.1,y) else kv) (xs.map (putAt k u)):=by
 induction r with
 | nil=>exact .nil
 | @cons p q ps qs h t ih=>
  rw [MO,MO];refine .cons ?_ ih;obtain ⟨h1,h2,h3⟩:=h;unfold putAt
  by_cases e:p.1=k
  ·rw [if_pos e,if_pos (h1.symm.trans e)];exact ⟨h1,h2,ry⟩
  ·rw [if_neg e,if_neg (λz=>e (h1.trans z))];exact ⟨h1,h2,h3⟩
theorem Kb.put {H:Hp} {VV:List (List Key×V)} {xs:List (List Key×SO×Value)} (r:Kb H VV xs) (k:List Key) {b:SO} {y:V} {u:Value} (hb:H b=some (.tup (k.map kV))) (ry:bH y u) :
  Kb H (yX VV k y) (storedH xs k b u):=by
 have e:(VV.any λkv=>decide (kv.1=k))=(atKey xs k).isSome:=by
  rw [Dg,(r.val k).isSome_eq,Option.isSome_map]
 unfold yX storedH;rw [e]
 by_cases q:(atKey xs k).isSome=true
 ·rw [if_pos q,if_pos q];exact r.repl k ry
 ·rw [if_neg q,if_neg q];exact Paired.snoc r ⟨rfl,hb,ry⟩
theorem Kb.keeps {H H':Hp} {VV:List (List Key×V)} {xs:List (List Key×SO×Value)} (r:Kb H VV xs) (ht:∀b ys,H b=some (.tup ys)->H' b=some (.tup ys)):Kb H' VV xs:=
 Paired.mapP r λ_ _ z=>⟨z.1,ht _ _ z.2.1,z.2.2⟩
section
variable {P:SS} {w:SW} {H:Hp} {h:Heap} {a:SO}
theorem Rx {u:HO} (ok:nM P w H h) (e:Rd H a u):dU P w H h a u:=e.ok ok
theorem AN {VV:List (Key×V)} (ok:nM P w H h) (e:Rd H a (.dK VV)):VV.length<=SX/\(a==UG)=false/\∃vs,KV VV vs/\h.DictOf (fJ P w) a vs:=
 show dU P w H h a (.dK VV) from Rx ok e
theorem Uo {ks:List Key} (ok:nM P w H h) (e:H a=some (.tup (ks.map kV))):(VE (fJ P w)).is h ks a:=by
 obtain ⟨_,VI,r,o,h1,h2,n,h3⟩:=(show dU P w H h a (.tup (ks.map kV)) from ok a _ e);exact ⟨o,VI.toArray,n,h1,h2,h3,by simpa using xA r⟩
theorem D6 {VV:List (List Key×V)} (ok:nM P w H h) (e:Rd H a (.dT VV)):VV.length<=SX/\(a==UG)=false/\
  ∃xs,Kb H VV xs/\h.DictOfH (VE (fJ P w)) a xs:=by
 obtain ⟨z,y,xs,r,o,es,ep,h1,h2,h3,h4,h5⟩:=(show dU P w H h a (.dT VV) from Rx ok e);refine ⟨z,y,xs,r,o,es,ep,h1,h2,h3,h4,λx hx=>?_,h5⟩;have all:∀{l:List (List Key×V)} {m:List (List Key×SO×Value)},Kb H l m->∀x∈m,(VE (fJ P w)).is h x.1 x.2.1:=by
  intro l m q
  induction q with
  | nil=>intro x hx;exact nomatch hx
  | @cons p q ps qs hq t ih=>
   intro x hx;rcases KR.mp hx with e | hx
   ·subst e;exact Uo ok (by rw [<-hq.1];exact hq.2.1)
   ·exact ih x hx
 exact all r x hx
theorem BN {VV:List (List Key×V)} (ok:nM P w H h) (e:H a=some (.dT VV)):VV.length<=SX/\(a==UG)=false/\
  ∃xs,Kb H VV xs/\h.DictOfH (VE (fJ P w)) a xs:=D6 ok (.inl e)
end
section
variable {X:Cx} {pins:List (SO×Obj)} {σ:St} {H:Hp} {s:Shared} {a:SO} {y v:V} {u r:Value} {o:Option V} {A:Around} {E:Value->Shared->Prop}
theorem aY.big (I:aY X pins σ H s):UG<s.heap.objs.size:=by
 have h:SY<s.heap.objs.size:=(I.mod.glob.keeps I.bk).lt;exact Nat.lt_trans (by decide) h
theorem Zx {h':Heap} {t':Nat} {ob:HO} (I:aY X pins σ H s) (mu:CY (H a)) (hs:OR a s.heap h') (he:∃q,h'.get? a=some q) (new:dU X.prog X.w (upd H a ob) h' a ob) :
  aY X pins σ (upd H a ob) { s with heap:=h',toks:=t' }:=
 I.write (x:=a) (e:=a) mu (.inl rfl) (λb q hb z=>(hs.2 b hb).trans z) he new
end
theorem Uh {P:SS} {w:SW} {H:Hp} (h:Heap) (hb:UG<h.objs.size):dU P w H (h.push { cls:=.type "dict",data:=.dict #[] }) h.objs.size (.dT []):=
 ⟨MJ _,beq_eq_false_iff_ne.mpr (Ne.symm (MC hb)),[],.nil,_,#[],0,LR _ rfl,⟨rfl,rfl,rfl⟩,rfl,rfl,SI⟩
def Ub:TE:=λ_ H Q=>∀p,H p=none->Q (.ref p) (upd H p (.dT []))
section
variable {X:Cx} {pos:Pos}
theorem Tz:PE X (.Dict [] [] pos) Ub:=λpins s σ H Q I h=>
 wpAny_Dict_empty ⟨.ref s.heap.objs.size,_,I.laid (a:=s.heap.objs.size) (o:=.dT []) (t':=s.toks) (λ_ _ q=>LG _ q) (LF _) (Uh s.heap I.big),rfl,h _ (I.hok.fresh (LF _))⟩
end
inductive T where
 | non | bl (b:Bool) | int (i:Int) | str (x:Str) | tup (xs:List T) | lst (xs:List T)
inductive U where
 | p (t:T) | o (k:Bool) (xs:List T)
abbrev En:=List (Option U)
inductive R where
 | p (t:T) | s (i:Nat)
def KT (K:W.Frag) (a:SO) (xs:List V):Prop:=∃(o:Obj) (VI:Array Value) (n:Nat),K.lookup a=some o/\o.cls = .type "tuple"/\o.data = .seq VI n/\VI.size<=SX/\bE xs VI.toList
def KL (K:W.Frag) (a:SO) (xs:List V):Prop:=∃(o:Obj) (VI:Array Value) (n:Nat),K.lookup a=some o/\o.cls = .type "list"/\o.dict=none/\o.data = .seq VI n/\VI.size<=SX/\bE xs VI.toList
mutual
def Rp (K:W.Frag) (H:Hp) (O:SO->Prop):T->V->Prop
 | .non,v=>v = .non
 | .bl b,v=>v = .bl b
 | .int i,v=>v = .int i
 | .str x,v=>v = .str x
 | .tup xs,v=>∃a vs,v = .ref a/\((¬O a/\H a=some (.tup vs))\/KT K a vs)/\cS K H O xs vs
 | .lst xs,v=>∃a vs,v = .ref a/\((¬O a/\Rd H a (.lst vs))\/KL K a vs)/\cS K H O xs vs
def cS (K:W.Frag) (H:Hp) (O:SO->Prop):List T->List V->Prop
 | [],vs=>vs=[]
 | x::xs,vs=>∃v r,vs=v::r/\Rp K H O x v/\cS K H O xs r
end
structure Kp (O O':SO->Prop) (H H':Hp):Prop where
 keep:∀b o,H b=some o->¬O b->H' b=some o
 new:∀b,O' b->O b\/H b=none
theorem Kp.tup {H H':Hp} {a:SO} {u:HO} {O O':SO->Prop} (k:Kp O O' H H') (h:¬O a/\H a=some u):¬O' a/\H' a=some u:=by
 obtain ⟨n,h⟩:=h;refine ⟨λz=>?_,k.keep _ _ h n⟩;rcases k.new a z with z | z
 ·exact n z
 ·rw [h] at z;cases z
theorem Rd.step {H H':Hp} {a:SO} {u:HO} {O O':SO->Prop} (k:Kp O O' H H') (h:¬O a/\Rd H a u):¬O' a/\Rd H' a u:=by
 obtain ⟨n,h⟩:=h;rcases h with h | ⟨o,h⟩
 ·refine ⟨λz=>?_,.inl (k.keep _ _ h n)⟩;rcases k.new a z with z | z
  ·exact n z
  ·rw [h] at z;cases z
 ·refine ⟨λz=>?_,.inr ⟨o,k.keep _ _ h n⟩⟩;rcases k.new a z with z | z
  ·exact n z
  ·rw [h] at z;cases z
section
variable {K:W.Frag} {H H':Hp} {O O':SO->Prop}
mutual
theorem Rp.step (k:Kp O O' H H'):∀{t:T} {v:V},Rp K H O t v->Rp K H' O' t v
 | .non,_,h=>h
 | .bl _,_,h=>h
 | .int _,_,h=>h
 | .str _,_,h=>h
 | .tup xs,v,h=>by
  obtain ⟨a,vs,e,h1,h2⟩:=h;exact ⟨a,vs,e,h1.imp (Kp.tup k) id,cS.step k h2⟩
 | .lst xs,v,h=>by
  obtain ⟨a,vs,e,h1,h2⟩:=h;exact ⟨a,vs,e,h1.imp (Rd.step k) id,cS.step k h2⟩
theorem cS.step (k:Kp O O' H H'):∀{xs:List T} {vs:List V},cS K H O xs vs->cS K H' O' xs vs
 | [],_,h=>h
 | x::xs,vs,h=>by
  obtain ⟨v,r,e,h1,h2⟩:=h;exact ⟨v,r,e,Rp.step k h1,cS.step k h2⟩
end
theorem Kp.refl (O:SO->Prop) (H:Hp):Kp O O H H:=⟨λ_ _ h _=>h,λ_ h=>.inl h⟩
theorem Kp.less (h:∀b,O' b->O b):Kp O O' H H:=⟨λ_ _ h _=>h,λ_ z=>.inl (h _ z)⟩
theorem Kp.trans {O'':SO->Prop} {H'':Hp} (a:Kp O O' H H') (b:Kp O' O'' H' H''):Kp O O'' H H'':=by
 refine ⟨λc o h n=>b.keep c o (a.keep c o h n) λz=>?_,λc h=>?_⟩
 ·rcases a.new c z with z | z
  ·exact n z
  ·rw [h] at z;cases z
 ·rcases b.new c h with z | z
  ·exact a.new c z
  ·by_cases n:O c
   ·exact .inl n
   ·right
    cases q:H c with
    | none=>rfl
    | some o=>rw [a.keep c o q n] at z;cases z
theorem Kp.upd {a:SO} {o:HO} (h:H a=none):Kp O O H (upd H a o):=⟨λb u e _=>by rw [a8 (a9 e h)];exact e,λ_ z=>.inl z⟩
theorem cS.length:∀{xs:List T} {vs:List V},cS K H O xs vs->vs.length=xs.length
 | [],_,h=>by cases h;rfl
 | _::_,_,h=>by
  obtain ⟨v,r,e,_,h2⟩:=h;rw [e,LJ,LJ,cS.length h2]
theorem cS.get:∀{xs:List T} {vs:List V} {i:Nat} {x:T},cS K H O xs vs->xs[i]? = some x->∃v,vs[i]? = some v/\Rp K H O x v
 | [],_,_,_,_,e=>by simp at e
 | _::_,_,0,_,⟨v,r,e,h1,_⟩,q=>by simp at q;subst q;subst e;exact ⟨v,rfl,h1⟩
 | _::_,_,i+1,x,⟨v,r,e,_,h2⟩,q=>by
  obtain ⟨w,q1,q2⟩:=cS.get (i:=i) (x:=x) h2 (by simpa using q);subst e;exact ⟨w,by simpa using q1,q2⟩
theorem cS.append:∀{xs ys:List T} {vs ws:List V},cS K H O xs vs->cS K H O ys ws->cS K H O (xs++ys) (vs++ws)
 | [],_,_,_,h,k=>by cases h;exact k
 | _::_,_,_,_,⟨v,r,e,h1,h2⟩,k=>by subst e;exact ⟨v,_,rfl,h1,cS.append h2 k⟩
theorem cS.set {x:T} {v:V} (h:Rp K H O x v):∀{xs:List T} {vs:List V} (i:Nat),cS K H O xs vs->cS K H O (xs.set i x) (vs.set i v)
 | [],_,_,k=>by cases k;exact rfl
 | _::_,_,0,⟨u,r,e,h1,h2⟩=>by subst e;exact ⟨v,_,rfl,h,h2⟩
 | _::_,_,i+1,⟨u,r,e,h1,h2⟩=>by subst e;exact ⟨u,_,rfl,h1,cS.set h i h2⟩
theorem cS.take:∀{xs:List T} {vs:List V} (n:Nat),cS K H O xs vs->cS K H O (xs.take n) (vs.take n)
 | _,_,0,_=>by simp [cS]
 | [],_,_+1,h=>by cases h;exact rfl
 | _::_,_,n+1,⟨v,r,e,h1,h2⟩=>by subst e;exact ⟨v,_,rfl,h1,cS.take n h2⟩
theorem cS.drop:∀{xs:List T} {vs:List V} (n:Nat),cS K H O xs vs->cS K H O (xs.drop n) (vs.drop n)
 | _,_,0,h=>h
 | [],_,_+1,h=>by cases h;exact rfl
 | _::_,_,n+1,⟨v,r,e,h1,h2⟩=>by subst e;exact cS.drop n h2
theorem Rp.sqT {xs:List T} {v:V} (h:Rp K H O (.tup xs) v):∃a vs,v = .ref a/\rX K H a vs/\cS K H O xs vs:=by
 obtain ⟨a,vs,e,h1,h2⟩:=h;exact ⟨a,vs,e,h1.imp (λh=>.inl h.2) id,h2⟩
theorem Rp.sqL {xs:List T} {v:V} (h:Rp K H O (.lst xs) v):∃a vs,v = .ref a/\j4 K H a vs/\cS K H O xs vs:=by
 obtain ⟨a,vs,e,h1,h2⟩:=h;exact ⟨a,vs,e,h1.imp And.right id,h2⟩
end
def Ow (B:SO->Prop) (S:St) (E:En) (a:SO):Prop:=B a\/∃(i:Nat) (k:Bool) (xs:List T),E[i]? = some (some (.o k xs))/\S[i]? = some (some (.ref a))
structure RE (K:W.Frag) (B:SO->Prop) (H:Hp) (S:St) (E:En):Prop where
 len:S.length=E.length
 pure:∀(i:Nat) (t:T),E[i]? = some (some (.p t))->∃v,S[i]? = some (some v)/\Rp K H (Ow B S E) t v
 own:∀(i:Nat) (k:Bool) (xs:List T),E[i]? = some (some (.o k xs))->∃a vs,S[i]? = some (some (.ref a))/\H a=some (.lst vs)/\cS K H (Ow B S E) xs vs/\(k=true↔B a)
 inj:∀(i j:Nat) (k l:Bool) (xs ys:List T) (a:SO),E[i]? = some (some (.o k xs))->E[j]? = some (some (.o l ys))->S[i]? = some (some (.ref a))->S[j]? = some (some (.ref a))->i=j
 bd:∀a,B a->∃vs,H a=some (.lst vs)
section
variable {K:W.Frag} {B:SO->Prop} {H H':Hp} {S S':St} {E E':En}
theorem RE.ow (r:RE K B H S E) {a:SO} (h:Ow B S E a):∃vs,H a=some (.lst vs):=by
 rcases h with h | ⟨i,k,xs,h1,h2⟩
 ·exact r.bd a h
 obtain ⟨a',vs,h3,h4,_⟩:=r.own i k xs h1;rw [h2] at h3;cases h3;exact ⟨vs,h4⟩
theorem RE.nn (r:RE K B H S E) {a:SO} (h:H a=none):¬Ow B S E a:=λz=>by
 obtain ⟨ws,e⟩:=r.ow z;rw [h] at e;cases e
theorem RE.step (r:RE K B H S E) (k:∀b o,H b=some o->¬Ow B S E b->H' b=some o) (hl:E'.length=E.length)
  (hp:∀(i:Nat) (t:T),E'[i]? = some (some (.p t))->E[i]? = some (some (.p t)))
  (ho:∀(i:Nat) (k:Bool) (ko:List T),E'[i]? = some (some (.o k ko))->∃xs,E[i]? = some (some (.o k xs))/\∀a,S[i]? = some (some (.ref a))->∃vs,H' a=some (.lst vs)/\cS K H' (Ow B S E) ko vs) (hb:∀a,B a->∃vs,H' a=some (.lst vs)):RE K B H' S E':=by
 have ow:∀b,Ow B S E' b->Ow B S E b:=λb z=>by
  rcases z with z | ⟨i,k,xs,h1,h2⟩
  ·exact .inl z
  obtain ⟨ys,h3,_⟩:=ho i k xs h1;exact .inr ⟨i,k,ys,h3,h2⟩
 have kp:Kp (Ow B S E) (Ow B S E') H H':=⟨k,λb z=>.inl (ow b z)⟩;refine ⟨by rw [hl];exact r.len,λi t h=>?_,λi k xs h=>?_,λi j k l xs ys a h1 h2 h3 h4=>?_,hb⟩
 ·obtain ⟨v,h1,h2⟩:=r.pure i t (hp i t h);exact ⟨v,h1,h2.step kp⟩
 ·obtain ⟨ys,h1,h2⟩:=ho i k xs h;obtain ⟨a,vs,h3,_,_,h6⟩:=r.own i k ys h1;obtain ⟨ws,h7,h8⟩:=h2 a h3;exact ⟨a,ws,h3,h7,h8.step (Kp.less ow),h6⟩
 ·obtain ⟨_,q1,_⟩:=ho i k xs h1;obtain ⟨_,q2,_⟩:=ho j l ys h2;exact r.inj i j k l _ _ a q1 q2 h3 h4
theorem RE.kept (r:RE K B H S E) (k:∀b o,H b=some o->H' b=some o):RE K B H' S E:=
 r.step (λb o h _=>k b o h) rfl (λ_ _ h=>h) (λi l xs h=>⟨xs,h,λa ha=>by
  obtain ⟨a',vs,h1,h2,h3,_⟩:=r.own i l xs h;rw [ha] at h1;cases h1;exact ⟨vs,k _ _ h2,h3.step ⟨λb o e _=>k b o e,λb z=>.inl z⟩⟩⟩) (λa h=>let ⟨vs,q⟩:=r.bd a h;⟨vs,k _ _ q⟩)
theorem RE.take (r:RE K B H S E) (n:Nat):RE K B H (S.take n) (E.take n):=by
 have gE:∀{i:Nat} {x:Option U},(E.take n)[i]? = some x->E[i]? = some x/\i<n:=λ{i x} h=>by
  by_cases c:i<n
  ·rw [NK c] at h;exact ⟨h,c⟩
  ·rw [ON (by omega)] at h;cases h
 have gS:∀{i:Nat} {x:Option V},i<n->S[i]? = some x->(S.take n)[i]? = some x:=λ{i x} c h=>by rw [NK c];exact h
 have ZC:∀{i:Nat} {x:Option V},(S.take n)[i]? = some x->S[i]? = some x:=λ{i x} h=>by
  by_cases c:i<n
  ·rw [NK c] at h;exact h
  ·rw [ON (by omega)] at h;cases h
 have ow:∀b,Ow B (S.take n) (E.take n) b->Ow B S E b:=λb z=>z.imp id λ⟨i,k,xs,h1,h2⟩=>⟨i,k,xs,(gE h1).1,ZC h2⟩;refine ⟨by rw [MA,MA,r.len],λi t h=>?_,λi k xs h=>?_,λi j k l xs ys a h1 h2 h3 h4=>?_,r.bd⟩
 ·obtain ⟨v,h1,h2⟩:=r.pure i t (gE h).1;exact ⟨v,gS (gE h).2 h1,h2.step (Kp.less ow)⟩
 ·obtain ⟨a,vs,h1,h2,h3,h4⟩:=r.own i k xs (gE h).1;exact ⟨a,vs,gS (gE h).2 h1,h2,h3.step (Kp.less ow),h4⟩
 ·exact r.inj i j k l xs ys a (gE h1).1 (gE h2).1 (ZC h3) (ZC h4)
end
end L2
namespace L2
open PySem PySem.Spec PyProof.Rows
def RR (K:W.Frag) (B:SO->Prop) (H:Hp) (S:St) (E:En):R->V->Prop
 | .p t,v=>Rp K H (Ow B S E) t v
 | .s i,v=>S[i]? = some (some v)
def Ph (K:W.Frag) (B:SO->Prop) (H:Hp) (S:St) (E:En):List R->List V->Prop
 | [],vs=>vs=[]
 | r::rs,vs=>∃v ws,vs=v::ws/\RR K B H S E r v/\Ph K B H S E rs ws
structure Gr (B:SO->Prop) (H:Hp) (S:St) (E:En) (H':Hp) (S':St) (E':En):Prop where
 kp:Kp (Ow B S E) (Ow B S' E') H H'
 pre:∃τ,S'=S++τ
theorem Gr.refl {B:SO->Prop} {H:Hp} {S:St} {E:En}:Gr B H S E H S E:=⟨Kp.refl _ _,[],by simp⟩
theorem Gr.trans {B:SO->Prop} {H H1 H2:Hp} {S S1 S2:St} {E E1 E2:En} (a:Gr B H S E H1 S1 E1) (b:Gr B H1 S1 E1 H2 S2 E2):Gr B H S E H2 S2 E2:=by
 obtain ⟨t,e⟩:=a.pre;obtain ⟨u,f⟩:=b.pre;exact ⟨a.kp.trans b.kp,t++u,by rw [f,e,LI]⟩
theorem fH {S S':St} (h:∃τ,S'=S++τ) {i:Nat} {x:Option V} (e:S[i]? = some x):S'[i]? = some x:=by
 obtain ⟨t,rfl⟩:=h;rw [LW (KU.mp e).1];exact e
section
variable {K:W.Frag} {B:SO->Prop} {H H':Hp} {S S':St} {E E':En} {σ:St}
theorem RR.step (g:Gr B H S E H' S' E') {r:R} {v:V} (h:RR K B H S E r v):RR K B H' S' E' r v:=by
 cases r with
 | p t=>exact Rp.step g.kp h
 | s i=>exact fH g.pre h
theorem Ph.step (g:Gr B H S E H' S' E'):∀{rs:List R} {vs:List V},Ph K B H S E rs vs->Ph K B H' S' E' rs vs
 | [],_,h=>h
 | _::_,_,⟨v,ws,e,h1,h2⟩=>⟨v,ws,e,h1.step g,Ph.step g h2⟩
def Lk (K:W.Frag) (B:SO->Prop) (H:Hp) (S:St) (E:En) (Q':R->En->Prop) (Q:VK):Prop:=∀r E' v H' S',Q' r E'->Gr B H S E H' S' E'->RE K B H' S' E'->RR K B H' S' E' r v->Q v H'
def KA (K:W.Frag) (n:Nat) (B:SO->Prop) (H:Hp) (S:St) (E:En) (Q':List R->En->Prop) (Q:List V->Hp->Prop):Prop:=∀rs E' vs H' S',Q' rs E'->Gr B H S E H' S' E'->RE K B H' S' E'->Ph K B H' S' E' rs vs->vs.length=n->Q vs H'
theorem Lk.step {Q':R->En->Prop} {Q:VK} (l:Lk K B H S E Q' Q) (g:Gr B H S E H' S' E'):Lk K B H' S' E' Q' Q:=λr E2 v H2 S2 q g2=>l r E2 v H2 S2 q (g.trans g2)
end
abbrev FE:=En->(R->En->Prop)->Prop
abbrev FA:=En->(List R->En->Prop)->Prop
abbrev FB:=En->(Bool->En->Prop)->Prop
def aM (K:W.Frag) (F:FE):TE:=λσ H Q=>∃B S E Q',(∃τ,S=σ++τ)/\RE K B H S E/\F E Q'/\Lk K B H S E Q' Q
def dS (K:W.Frag) (n:Nat) (F:FA):TA:=λσ H Q=>∃B S E Q',(∃τ,S=σ++τ)/\RE K B H S E/\F E Q'/\KA K n B H S E Q' Q
def eJ (K:W.Frag) (F:FB):TT:=λσ H Q=>∃B S E Q',(∃τ,S=σ++τ)/\RE K B H S E/\F E Q'/\∀b E' H' S',Q' b E'->Gr B H S E H' S' E'->RE K B H' S' E'->Q b H'
section
variable {X:Cx} {e:Expr} {es:List Expr}
theorem QE.le {t t':TE} (h:QE X e t) (m:∀σ H Q,σ.length=X.N.length->t' σ H Q->t σ H Q):QE X e t':=⟨λpins s σ H Q I z=>h.h pins s σ H Q I (m σ H Q I.len z)⟩
theorem QA.le {t t':TA} (h:QA X es t) (m:∀σ H Q,t' σ H Q->t σ H Q):QA X es t':=⟨λpos pins s σ H Q I z=>h.h pos pins s σ H Q I (m σ H Q z)⟩
theorem QT.le {t t':TT} (h:QT X e t) (m:∀σ H Q,t' σ H Q->t σ H Q):QT X e t':=⟨λpins s σ H Q I z=>h.h pins s σ H Q I (m σ H Q z)⟩
theorem QW.le {t t':TT} (h:QW X e t) (m:∀σ H Q,t' σ H Q->t σ H Q):QW X e t':=⟨λwh pins s σ H Q I z=>h.h wh pins s σ H Q I (m σ H Q z)⟩
end
def vl (E:En):R->Option T
 | .p t=>some t
 | .s i=>match E[i]? with
  | some (some (.o _ xs))=>some (.lst xs)
  | some (some (.p t))=>some t
  | _=>none
def Rt (K:W.Frag) (H:Hp) (O:SO->Prop):T->V->Prop
 | .tup xs,v=>∃a vs,v = .ref a/\rX K H a vs/\cS K H O xs vs
 | .lst xs,v=>∃a vs,v = .ref a/\j4 K H a vs/\cS K H O xs vs
 | t,v=>Rp K H O t v
theorem Rp.rt {K:W.Frag} {H:Hp} {O:SO->Prop} {t:T} {v:V} (h:Rp K H O t v):Rt K H O t v:=by
 cases t with
 | tup xs=>exact h.sqT
 | lst xs=>exact h.sqL
 | non=>exact h
 | bl _=>exact h
 | int _=>exact h
 | str _=>exact h
section
variable {K:W.Frag} {B:SO->Prop} {H H':Hp} {S S':St} {E E':En} {σ:St}
theorem RE.vl (re:RE K B H S E) {r:R} {v:V} {t:T} (h:RR K B H S E r v) (e:vl E r=some t):Rt K H (Ow B S E) t v:=by
 cases r with
 | p u=>cases e;exact Rp.rt h
 | s i=>
  cases q:E[i]? with
  | none=>simp only [L2.vl,q] at e;cases e
  | some u=>
   cases u with
   | none=>simp only [L2.vl,q] at e;cases e
   | some u=>
    cases u with
    | p u=>
     simp only [L2.vl,q] at e;cases e;obtain ⟨w,h1,h2⟩:=re.pure i _ q;have h':S[i]? = some (some v):=h;rw [h'] at h1;cases h1;exact h2.rt
    | o k xs=>
     simp only [L2.vl,q] at e;cases e;obtain ⟨a,vs,h1,h2,h3,_⟩:=re.own i k xs q;have h':S[i]? = some (some v):=h;rw [h'] at h1;cases h1;exact ⟨a,vs,rfl,j4.of h2,h3⟩
theorem RE.int (re:RE K B H S E) {r:R} {v:V} {i:Int} (h:RR K B H S E r v) (e:L2.vl E r=some (.int i)):v = .int i:=re.vl h e
theorem RE.bl (re:RE K B H S E) {r:R} {v:V} {b:Bool} (h:RR K B H S E r v) (e:L2.vl E r=some (.bl b)):v = .bl b:=re.vl h e
theorem RE.tup (re:RE K B H S E) {p:SO} {ts:List T} {vs:List V} (hp:H p=none) (h:cS K H (Ow B S E) ts vs) :
  Gr B H S E (upd H p (.tup vs)) S E/\RE K B (upd H p (.tup vs)) S E/\Rp K (upd H p (.tup vs)) (Ow B S E) (.tup ts) (.ref p):=by
 have k:Kp (Ow B S E) (Ow B S E) H (upd H p (.tup vs)):=Kp.upd hp;exact ⟨⟨k,[],by simp⟩,re.kept λb o e=>by rw [a8 (a9 e hp)];exact e,p,vs,rfl,.inl ⟨re.nn hp,c8⟩,h.step k⟩
theorem tT {α:Type} {xs:List α} {x:α} {i:Nat} {y:α} (h:(xs++[x])[i]? = some y):(i<xs.length/\xs[i]? = some y)\/(i=xs.length/\y=x):=by
 rcases NZ i xs.length with c | c
 ·rw [LW c] at h;exact .inl ⟨c,h⟩
 ·rw [MS c] at h;have:i-xs.length=0:=by
   rcases Nat.eq_zero_or_pos (i-xs.length) with z | z
   ·exact z
   ·rw [OD (by simp;omega)] at h;cases h
  rw [this] at h;simp at h;exact .inr ⟨by omega,h.symm⟩
theorem lU {α:Type} {xs:List α} {x:α}:(xs++[x])[xs.length]? = some x:=by simp
theorem RE.lst (re:RE K B H S E) {p:SO} {ts:List T} {vs:List V} (hp:H p=none) (h:cS K H (Ow B S E) ts vs) :
  Gr B H S E (upd H p (.lst vs)) (S++[some (.ref p)]) (E++[some (.o false ts)])/\RE K B (upd H p (.lst vs)) (S++[some (.ref p)]) (E++[some (.o false ts)]):=by
 have gE:∀{i:Nat} {u:U},(E++[some (.o false ts)])[i]? = some (some u)->(E[i]? = some (some u)/\i<E.length)\/(i=E.length/\u = .o false ts):=λ{i u} h=>by
  rcases tT h with ⟨c,h⟩ | ⟨c,h⟩
  ·exact .inl ⟨h,c⟩
  ·exact .inr ⟨c,Option.some.inj h⟩
 have gS:∀{i:Nat} {x:Option V},S[i]? = some x->(S++[some (.ref p)])[i]? = some x:=λ{i x} h=>fH ⟨_,rfl⟩ h;have ZC:∀{i:Nat} {x:Option V},i<E.length->(S++[some (.ref p)])[i]? = some x->S[i]? = some x:=λ{i x} c h=>by
  rw [LW (by rw [re.len];exact c)] at h;exact h
 have lS:(S++[some (.ref p)])[E.length]? = some (some (.ref p)):=by rw [<-re.len];simp
 have ow:∀b,Ow B (S++[some (.ref p)]) (E++[some (.o false ts)]) b->Ow B S E b\/H b=none:=λb z=>by
  rcases z with z | ⟨i,k,xs,h1,h2⟩
  ·exact .inl (.inl z)
  rcases gE h1 with ⟨h1,c⟩ | ⟨c,h1⟩
  ·exact .inl (.inr ⟨i,k,xs,h1,ZC c h2⟩)
  ·subst c;rw [lS] at h2;cases h2;exact .inr hp
 have k:Kp (Ow B S E) (Ow B (S++[some (.ref p)]) (E++[some (.o false ts)])) H (upd H p (.lst vs)):=⟨λb o e _=>by rw [a8 (a9 e hp)];exact e,ow⟩;refine ⟨⟨k,_,rfl⟩,⟨by simp [re.len],λi t h=>?_,λi l xs h=>?_,λi j l m xs ys a h1 h2 h3 h4=>?_,λa h=>?_⟩⟩
 ·rcases gE h with ⟨h,c⟩ | ⟨c,h⟩
  ·obtain ⟨v,h1,h2⟩:=re.pure i t h;exact ⟨v,gS h1,h2.step k⟩
  ·cases h
 ·rcases gE h with ⟨h,c⟩ | ⟨c,h⟩
  ·obtain ⟨a,ws,h1,h2,h3,h4⟩:=re.own i l xs h;exact ⟨a,ws,gS h1,by rw [a8 (a9 h2 hp)];exact h2,h3.step k,h4⟩
  ·cases h;subst c;refine ⟨p,vs,lS,c8,?_,⟨λz=>absurd z (by decide),λz=>absurd (.inl z) (re.nn hp)⟩⟩;exact cS.step k (by assumption)
 ·rcases gE h1 with ⟨h1,c1⟩ | ⟨c1,h1⟩
  ·rcases gE h2 with ⟨h2,c2⟩ | ⟨c2,h2⟩
   ·exact re.inj i j l m xs ys a h1 h2 (ZC c1 h3) (ZC c2 h4)
   ·subst c2;rw [lS] at h4;cases h4;exact absurd (.inr ⟨i,l,xs,h1,ZC c1 h3⟩) (re.nn hp)
  ·rcases gE h2 with ⟨h2,c2⟩ | ⟨c2,h2⟩
   ·subst c1;rw [lS] at h3;cases h3;exact absurd (.inr ⟨j,m,ys,h2,ZC c2 h4⟩) (re.nn hp)
   ·rw [c1,c2]
 ·obtain ⟨us,q⟩:=re.bd a h;exact ⟨us,by rw [a8 (a9 q hp)];exact q⟩
end
section
variable {X:Cx} {K:W.Frag} {pos:Pos} {a b c e:Expr} {es rest:List Expr} {Fa Fb Fc:FE} {Fr:FA} {Fp Fq:FB}
def Yg (i:Nat):FE:=λE Q=>match E[i]? with
 | some (some (.p t))=>Q (.p t) E
 | some (some (.o _ _))=>Q (.s i) E
 | _=>False
def fC (t:T):FE:=λE Q=>Q (.p t) E
theorem fv (i:Nat) {x:Str} (hN:X.N[i]? = some x:=by rfl) (hv:AG X.env.scope x:=by first | exact LA rfl | exact MM (LA rfl) | exact MM (MM rfl)) (hd:(x==("__debug__":Str))=false:=by decide)
  (ZH:(x==("__classdict__":Str))=false:=by decide):QE X (.Name x pos) (aM K (Yg i)):=by
 refine (qv i hN hv hd ZH).le λσ H Q hl ⟨B,S,E,Q',hS,re,hF,lk⟩=>?_;have hi:i<σ.length:=by rw [hl];exact (KU.mp hN).1
 obtain ⟨τ,rfl⟩:=hS;have back:∀{v},(σ++τ)[i]? = some (some v)->σ[i]? = some (some v):=λh=>by rw [LW hi] at h;exact h
 unfold Yg at hF;split at hF
 ·rename_i t q;obtain ⟨v,h1,h2⟩:=re.pure i t q;exact ⟨v,back h1,lk _ _ _ _ _ hF .refl re h2⟩
 ·rename_i k xs q;obtain ⟨p,vs,h1,_⟩:=re.own i k xs q;exact ⟨_,back h1,lk _ _ _ _ _ hF .refl re h1⟩
 ·exact hF.elim
theorem Py {v:V} {t:T} (h:QE X e (tC v)) (hv:∀K H O,Rp K H O t v):QE X e (aM K (fC t)):=h.le λσ H Q hl ⟨B,S,E,Q',hS,re,hF,lk⟩=>lk _ _ _ _ _ hF .refl re (hv _ _ _)
theorem aB {i j pos}:QE X (.Constant (.int i) j pos) (aM K (fC (.int i))):=Py T5 λ_ _ _=>rfl
theorem xC {b j pos}:QE X (.Constant (.bool b) j pos) (aM K (fC (.bl b))):=Py FP λ_ _ _=>rfl
theorem l9 {j pos}:QE X (.Constant .none j pos) (aM K (fC .non)):=Py Ep λ_ _ _=>rfl
theorem cD {x j pos}:QE X (.Constant (.str x) j pos) (aM K (fC (.str x))):=Py Q6 λ_ _ _=>rfl
theorem two {G:R->R->En->(R->En->Prop)->Prop} {σ:St} {H:Hp} {Q:VK} (h:aM K (λE Q=>Fa E λx E1=>Fb E1 λy E2=>G x y E2 Q) σ H Q) {P:V->V->Hp->Prop}
  (k:∀B S E x y v w H2 Q',(∃τ,S=σ++τ)->RE K B H2 S E->RR K B H2 S E x v->RR K B H2 S E y w->G x y E Q'->Lk K B H2 S E Q' Q->P v w H2):aM K Fa σ H λv H1=>aM K Fb σ H1 λw H2=>P v w H2:=by
 obtain ⟨B,S,E,Q',⟨τ,hS⟩,re,hF,lk⟩:=h;refine ⟨B,S,E,_,⟨τ,hS⟩,re,hF,λr E1 v H1 S1 q g VQ rr=>?_⟩;obtain ⟨τ1,XX⟩:=g.pre;refine ⟨B,S1,E1,_,⟨τ++τ1,by rw [XX,hS,LI]⟩,VQ,q,λr2 E2 w H2 S2 q2 g2 WT se=>?_⟩;obtain ⟨τ2,kq⟩:=g2.pre;exact k B S2 E2 r r2 v w H2 Q' ⟨τ++τ1++τ2,by rw [kq,XX,hS,LI,LI,LI]⟩ WT (rr.step g2) se q2 (lk.step (g.trans g2))
theorem one {G:R->En->(R->En->Prop)->Prop} {σ:St} {H:Hp} {Q:VK} (h:aM K (λE Q=>Fa E λx E1=>G x E1 Q) σ H Q) {P:V->Hp->Prop}
  (k:∀B S E x v H2 Q',(∃τ,S=σ++τ)->RE K B H2 S E->RR K B H2 S E x v->G x E Q'->Lk K B H2 S E Q' Q->P v H2):aM K Fa σ H λv H1=>P v H1:=by
 obtain ⟨B,S,E,Q',⟨τ,hS⟩,re,hF,lk⟩:=h;refine ⟨B,S,E,_,⟨τ,hS⟩,re,hF,λr E1 v H1 S1 q g VQ rr=>?_⟩;obtain ⟨τ1,XX⟩:=g.pre;exact k B S1 E1 r v H1 Q' ⟨τ++τ1,by rw [XX,hS,LI]⟩ VQ rr q (lk.step g)
def i2 (x y:Option T) (k:Int->Int->Prop):Prop:=match x,y with
 | some (.int i),some (.int j)=>k i j
 | _,_=>False
theorem i2.ex {x y:Option T} {k:Int->Int->Prop} (h:i2 x y k):∃i j,x=some (.int i)/\y=some (.int j)/\k i j:=by
 unfold i2 at h;split at h
 ·exact ⟨_,_,rfl,rfl,h⟩
 ·exact h.elim
def fI (C:Int->Int->Prop) (g:Int->Int->Int) (Fa Fb:FE):FE:=λE Q=>Fa E λx E1=>Fb E1 λy E2=>i2 (vl E2 x) (vl E2 y) λi j=>C i j/\Q (.p (.int (g i j))) E2
def JR (g:Int->Int->Int) (Fa Fb:FE):FE:=λE Q=>Fa E λx E1=>Fb E1 λy E2=>i2 (vl E2 x) (vl E2 y) λi j=>Q (.p (.int (g i j))) E2
def IX (g:Int->Int->Bool) (Fa Fb:FE):FE:=λE Q=>Fa E λx E1=>Fb E1 λy E2=>i2 (vl E2 x) (vl E2 y) λi j=>Q (.p (.bl (g i j))) E2
theorem aN {op:Operator} {C:Int->Int->Prop} {g:Int->Int->Int} (ho:mB X (UA op) (rI C λi j=>.int (g i j))) (ha:QE X a (aM K Fa)) (hb:QE X b (aM K Fb)):QE X (.BinOp a op b pos) (aM K (fI C g Fa Fb)):=by
 refine (Hz ho ha hb).le λσ H Q hl h=>two h λB S E x y v w H2 Q' hS re rx ry q lk=>?_;obtain ⟨i,j,e1,e2,c,q⟩:=q.ex;exact ⟨i,j,re.int rx e1,re.int ry e2,c,lk _ _ _ _ _ q .refl re rfl⟩
theorem aZ {op:Operator} {g:Int->Int->Int} (ho:mB X (UA op) (Vw λi j=>.int (g i j))) (ha:QE X a (aM K Fa)) (hb:QE X b (aM K Fb)):QE X (.BinOp a op b pos) (aM K (JR g Fa Fb)):=by
 refine (Hz ho ha hb).le λσ H Q hl h=>two h λB S E x y v w H2 Q' hS re rx ry q lk=>?_;obtain ⟨i,j,e1,e2,q⟩:=q.ex;exact ⟨i,j,re.int rx e1,re.int ry e2,lk _ _ _ _ _ q .refl re rfl⟩
theorem Cf {op:CmpOp} {g:Int->Int->Bool} (ho:mB X (TQ op) (Vw λi j=>.bl (g i j))) (ha:QE X a (aM K Fa)) (hb:QE X b (aM K Fb)) (hm:TK op b=false):QE X (.Compare a [op] [b] pos) (aM K (IX g Fa Fb)):=by
 refine (yB ho ha hb hm).le λσ H Q hl h=>two h λB S E x y v w H2 Q' hS re rx ry q lk=>?_;obtain ⟨i,j,e1,e2,q⟩:=q.ex;exact ⟨i,j,re.int rx e1,re.int ry e2,lk _ _ _ _ _ q .refl re rfl⟩
def i1 (x:Option T) (k:Int->Prop):Prop:=match x with
 | some (.int i)=>k i
 | _=>False
theorem i1.ex {x:Option T} {k:Int->Prop} (h:i1 x k):∃i,x=some (.int i)/\k i:=by
 unfold i1 at h;split at h
 ·exact ⟨_,rfl,h⟩
 ·exact h.elim
def b1 (x:Option T) (k:Bool->Prop):Prop:=match x with
 | some (.bl i)=>k i
 | _=>False
theorem b1.ex {x:Option T} {k:Bool->Prop} (h:b1 x k):∃i,x=some (.bl i)/\k i:=by
 unfold b1 at h;split at h
 ·exact ⟨_,rfl,h⟩
 ·exact h.elim
def II (Fa:FE):FE:=λE Q=>Fa E λx E1=>i1 (vl E1 x) λi=>Q (.p (.int (-i))) E1
theorem qA (ha:QE X a (aM K Fa)):QE X (.UnaryOp .USub a pos) (aM K (II Fa)):=by
 refine (CK Z7 ha).le λσ H Q hl h=>one (Fa:=Fa) h λB S E x v H2 Q' hS re rx q lk=>?_;obtain ⟨i,e1,q⟩:=q.ex;exact ⟨i,re.int rx e1,lk _ _ _ _ _ q .refl re rfl⟩
def GW (Fa:FE):FE:=λE Q=>Fa E λx E1=>b1 (vl E1 x) λi=>Q (.p (.bl (!i))) E1
theorem Y5 (ha:QE X a (aM K Fa)):QE X (.UnaryOp .Not a pos) (aM K (GW Fa)):=by
 refine (T8 ha).le λσ H Q hl h=>one (Fa:=Fa) h λB S E x v H2 Q' hS re rx q lk=>?_;obtain ⟨i,e1,q⟩:=q.ex;exact ⟨i,re.bl rx e1,lk _ _ _ _ _ q .refl re rfl⟩
theorem Sd {G:Bool->En->(Bool->En->Prop)->Prop} {σ:St} {H:Hp} {Q:Bool->Hp->Prop} (h:eJ K (λE Q=>Fp E λx E1=>G x E1 Q) σ H Q) {P:Bool->Hp->Prop}
  (k:∀B S E x H2 Q',(∃τ,S=σ++τ)->RE K B H2 S E->G x E Q'->(∀b E' H' S',Q' b E'->Gr B H2 S E H' S' E'->RE K B H' S' E'->Q b H')->P x H2):eJ K Fp σ H P:=by
 obtain ⟨B,S,E,Q',⟨τ,hS⟩,re,hF,lk⟩:=h;refine ⟨B,S,E,_,⟨τ,hS⟩,re,hF,λr E1 H1 S1 q g VQ=>?_⟩;obtain ⟨τ1,XX⟩:=g.pre;exact k B S1 E1 r H1 Q' ⟨τ++τ1,by rw [XX,hS,LI]⟩ VQ q λb E2 H2 S2 q2 g2 WT=>lk b E2 H2 S2 q2 (g.trans g2) WT
def vG (Fa:FE):FB:=λE Q=>Fa E λx E1=>b1 (vl E1 x) λi=>Q i E1
def IA (Fp:FB):FB:=λE Q=>Fp E λx E1=>Q (!x) E1
def HL (Fp Fq:FB):FB:=λE Q=>Fp E λx E1=>if x=true then Fq E1 Q else Q false E1
def JV (Fp Fq:FB):FB:=λE Q=>Fp E λx E1=>if x=true then Q true E1 else Fq E1 Q
theorem Ye {σ:St} {H:Hp} {Q:Bool->Hp->Prop} (h:eJ K (vG Fa) σ H Q):aM K Fa σ H λv H1=>∃c,v = .bl c/\Q c H1:=by
 obtain ⟨B,S,E,Q',⟨τ,hS⟩,re,hF,lk⟩:=h;refine ⟨B,S,E,_,⟨τ,hS⟩,re,hF,λr E1 v H1 S1 q g VQ rr=>?_⟩;obtain ⟨i,e1,q⟩:=q.ex;exact ⟨i,VQ.bl rr e1,lk _ _ _ _ q g VQ⟩
theorem qR (h:QE X e (aM K Fa)) (he:∀whole,isTrue e X.env whole=(do let v <-whole;standAt e.pos;UL [v] (truthy v)):=by intro _;rfl):QT X e (eJ K (vG Fa)):=(X4 h he).le λσ H Q z=>Ye z
theorem Qb (ha:QT X a (eJ K Fp)):QT X (.UnaryOp .Not a pos) (eJ K (IA Fp)):=(V5 ha).le λσ H Q h=>Sd (Fp:=Fp) h λB S E x H2 Q' hS re q lk=>lk _ _ _ _ q .refl re
theorem jS (ha:QT X a (eJ K Fp)):QW X (.BoolOp .And [a] pos) (eJ K Fp):=Yz ha
theorem nO (ha:QT X a (eJ K Fp)):QW X (.BoolOp .Or [a] pos) (eJ K Fp):=O2 ha
theorem jY (ha:QT X a (eJ K Fp)) (hb:QW X (.BoolOp .And (b::rest) pos) (eJ K Fq)):QW X (.BoolOp .And (a::b::rest) pos) (eJ K (HL Fp Fq)):=by
 refine (M1 ha hb).le λσ H Q h=>Sd (Fp:=Fp) h λB S E x H2 Q' hS re q lk=>?_;cases x
 ·exact lk _ _ _ _ q .refl re
 ·exact ⟨B,S,E,Q',hS,re,q,lk⟩
theorem uR (ha:QT X a (eJ K Fp)) (hb:QW X (.BoolOp .Or (b::rest) pos) (eJ K Fq)):QW X (.BoolOp .Or (a::b::rest) pos) (eJ K (JV Fp Fq)):=by
 refine (CT ha hb).le λσ H Q h=>Sd (Fp:=Fp) h λB S E x H2 Q' hS re q lk=>?_;cases x
 ·exact ⟨B,S,E,Q',hS,re,q,lk⟩
 ·exact lk _ _ _ _ q .refl re
theorem nP (h:QW X e (eJ K Fp)):QT X e (eJ K Fp):=IP h
def GH (Fa Fb:FE):FE:=λE Q=>Fa E λx E1=>b1 (vl E1 x) λi=>if i=true then Fb E1 Q else Q (.p (.bl false)) E1
def JM (Fa Fb:FE):FE:=λE Q=>Fa E λx E1=>b1 (vl E1 x) λi=>if i=true then Q (.p (.bl true)) E1 else Fb E1 Q
theorem tU (ha:QE X a (aM K Fa)) (hb:QE X (.BoolOp .And (b::rest) pos) (aM K Fb)):QE X (.BoolOp .And (a::b::rest) pos) (aM K (GH Fa Fb)):=by
 refine (U9 ha hb).le λσ H Q hl h=>one (Fa:=Fa) h λB S E x v H2 Q' hS re rx q lk=>?_;obtain ⟨i,e1,q⟩:=q.ex;refine ⟨i,re.bl rx e1,?_⟩;cases i
 ·exact lk _ _ _ _ _ q .refl re rfl
 ·exact ⟨B,S,E,Q',hS,re,q,lk⟩
theorem Rg (ha:QE X a (aM K Fa)) (hb:QE X (.BoolOp .Or (b::rest) pos) (aM K Fb)):QE X (.BoolOp .Or (a::b::rest) pos) (aM K (JM Fa Fb)):=by
 refine (EE ha hb).le λσ H Q hl h=>one (Fa:=Fa) h λB S E x v H2 Q' hS re rx q lk=>?_;obtain ⟨i,e1,q⟩:=q.ex;refine ⟨i,re.bl rx e1,?_⟩;cases i
 ·exact ⟨B,S,E,Q',hS,re,q,lk⟩
 ·exact lk _ _ _ _ _ q .refl re rfl
theorem uF {op} (h:QE X a (aM K Fa)):QE X (.BoolOp op [a] pos) (aM K Fa):=O4 h
def KQ (Fp:FB) (Fa Fb:FE):FE:=λE Q=>Fp E λx E1=>if x=true then Fa E1 Q else Fb E1 Q
theorem nE (hc:QT X c (eJ K Fp)) (ha:QE X a (aM K Fa)) (hb:QE X b (aM K Fb)):QE X (.IfExp c a b pos) (aM K (KQ Fp Fa Fb)):=by
 refine (Te hc ha hb).le λσ H Q hl ⟨B,S,E,Q',⟨τ,hS⟩,re,hF,lk⟩=>?_;refine ⟨B,S,E,_,⟨τ,hS⟩,re,hF,λr E1 H1 S1 q g VQ=>?_⟩;obtain ⟨τ1,XX⟩:=g.pre;have hp:∃t,S1=σ++t:=⟨τ++τ1,by rw [XX,hS,LI]⟩;cases r
 ·exact ⟨B,S1,E1,Q',hp,VQ,q,lk.step g⟩
 ·exact ⟨B,S1,E1,Q',hp,VQ,q,lk.step g⟩
def BP:FA:=λE Q=>Q [] E
def Td (Fa:FE) (Fr:FA):FA:=λE Q=>Fa E λr E1=>Fr E1 λrs E2=>Q (r::rs) E2
theorem aA:QA X [] (dS K 0 BP):=Hg.le λσ H Q ⟨B,S,E,Q',hS,re,hF,lk⟩=>lk _ _ _ _ _ hF .refl re rfl rfl
theorem fc {n:Nat} (ha:QE X e (aM K Fa)) (hr:QA X es (dS K n Fr)) (hs:cC e=false:=by rfl):QA X (e::es) (dS K (n+1) (Td Fa Fr)):=by
 refine (qc ha hr hs).le λσ H Q ⟨B,S,E,Q',⟨τ,hS⟩,re,hF,lk⟩=>?_;refine ⟨B,S,E,_,⟨τ,hS⟩,re,hF,λr E1 v H1 S1 q g VQ rr=>?_⟩;obtain ⟨τ1,XX⟩:=g.pre;exact ⟨B,S1,E1,_,⟨τ++τ1,by rw [XX,hS,LI]⟩,VQ,q,λrs E2 vs H2 S2 q2 g2 WT se hn=>lk _ _ _ _ _ q2 (g.trans g2) WT ⟨v,vs,rfl,rr.step g2,se⟩ (by rw [LJ,hn])⟩
theorem args {n:Nat} {G:List R->En->(R->En->Prop)->Prop} {σ:St} {H:Hp} {Q:VK} (h:aM K (λE Q=>Fr E λrs E1=>G rs E1 Q) σ H Q) {P:List V->Hp->Prop}
  (k:∀B S E rs vs H2 Q',(∃τ,S=σ++τ)->RE K B H2 S E->Ph K B H2 S E rs vs->vs.length=n->G rs E Q'->Lk K B H2 S E Q' Q->P vs H2):dS K n Fr σ H P:=by
 obtain ⟨B,S,E,Q',⟨τ,hS⟩,re,hF,lk⟩:=h;refine ⟨B,S,E,_,⟨τ,hS⟩,re,hF,λr E1 v H1 S1 q g VQ rr hn=>?_⟩;obtain ⟨τ1,XX⟩:=g.pre;exact k B S1 E1 r v H1 Q' ⟨τ++τ1,by rw [XX,hS,LI]⟩ VQ rr hn q (lk.step g)
def sT:List R->Option (List T)
 | []=>some []
 | .p t::rs=>(sT rs).map (t::·)
 | _=>none
theorem uU {B:SO->Prop} {H:Hp} {S:St} {E:En}:∀{rs:List R} {vs:List V} {ts:List T},Ph K B H S E rs vs->sT rs=some ts->cS K H (Ow B S E) ts vs
 | [],_,_,h,e=>by cases e;exact h
 | .p t::rs,_,ts,⟨v,ws,e1,h1,h2⟩,e=>by
  cases q:sT rs with
  | none=>rw [sT,q] at e;cases e
  | some us=>
   rw [sT,q] at e;cases e;exact ⟨v,ws,e1,h1,uU h2 q⟩
 | .s _::_,_,_,_,e=>by cases e
def o1 {α:Type} (x:Option α) (k:α->Prop):Prop:=match x with
 | some y=>k y
 | none=>False
theorem o1.ex {α:Type} {x:Option α} {k:α->Prop} (h:o1 x k):∃y,x=some y/\k y:=by
 cases x with
 | none=>exact h.elim
 | some y=>exact ⟨y,rfl,h⟩
def HM (Fr:FA):FE:=λE Q=>Fr E λrs E1=>o1 (sT rs) λts=>Q (.p (.tup ts)) E1
def IB (Fr:FA):FE:=λE Q=>Fr E λrs E1=>o1 (sT rs) λts=>Q (.s E1.length) (E1++[some (.o false ts)])
theorem aO {x1} {n:Nat} (h:QA X es (dS K n Fr)) (hz:n<=1000:=by decide):QE X (.Tuple es x1 pos) (aM K (HM Fr)):=by
 refine (Z6 h).le λσ H Q hl h=>args (Fr:=Fr) h λB S E rs vs H2 Q' hS re rr hn q lk=>⟨by rw [hn];exact MY (bU hz),λp hp=>?_⟩;obtain ⟨ts,e,q⟩:=q.ex;obtain ⟨g,VN,rp⟩:=re.tup hp (uU rr e);exact lk _ _ _ _ _ q g VN rp
theorem bN {n:Nat} (h:QA X es (dS K n Fr)) (hz:n<=1000:=by decide):QE X (.List es pos) (aM K (IB Fr)):=by
 refine (Fd h).le λσ H Q hl h=>args (Fr:=Fr) h λB S E rs vs H2 Q' hS re rr hn q lk=>⟨by rw [hn];exact MY (bU hz),λp hp=>?_⟩;obtain ⟨ts,e,q⟩:=q.ex;obtain ⟨g,VN⟩:=re.lst hp (uU rr e);exact lk _ _ _ _ _ q g VN (by rw [<-re.len];exact lU)
def EX:T->Option (List T)
 | .tup xs=>some xs
 | .lst xs=>some xs
 | _=>none
def IW (x y:Option T) (k:T->Prop):Prop:=match x,y with
 | some (.tup xs),some (.int i)=>o1 (gN xs i) k
 | some (.lst xs),some (.int i)=>o1 (gN xs i) k
 | _,_=>False
theorem Vn {H:Hp} {O:SO->Prop} {xs:List T} {vs:List V} {i:Int} {t:T} (h:cS K H O xs vs) (e:gN xs i=some t):∃v,gN vs i=some v/\Rp K H O t v:=by
 unfold gN at e ⊢;rw [h.length];cases q:Ah xs.length i with
 | none=>rw [q] at e;cases e
 | some j=>rw [q] at e;exact h.get e
def JU (Fa Fb:FE):FE:=λE Q=>Fa E λx E1=>Fb E1 λy E2=>IW (vl E2 x) (vl E2 y) λt=>Q (.p t) E2
theorem aF (eK:X.K=K) (ha:QE X a (aM K Fa)) (hb:QE X b (aM K Fb)) (hs:sJ b):QE X (.Subscript a b pos) (aM K (JU Fa Fb)):=by
 subst eK;refine (J8 So ha hb hs).le λσ H Q hl h=>two (Fa:=Fa) (Fb:=Fb) h λB S E x y v w H2 Q' hS re rx ry q lk=>?_;unfold IW at q;split at q
 ·rename_i xs i e1 e2;obtain ⟨t,e3,q⟩:=q.ex;obtain ⟨p,vs,rfl,sq,rs⟩:=re.vl rx e1;obtain ⟨u,h1,h2⟩:=Vn rs e3;exact .inr (.inl ⟨p,vs,i,u,rfl,re.int ry e2,sq,h1,lk _ _ _ _ _ q .refl re h2⟩)
 ·rename_i xs i e1 e2;obtain ⟨t,e3,q⟩:=q.ex;obtain ⟨p,vs,rfl,sq,rs⟩:=re.vl rx e1;obtain ⟨u,h1,h2⟩:=Vn rs e3;exact .inl ⟨p,vs,i,u,rfl,re.int ry e2,sq,h1,lk _ _ _ _ _ q .refl re h2⟩
 ·exact q.elim
def GN (Fr:FA):FE:=λE Q=>Fr E λrs E1=>match rs with
 | [x]=>o1 ((vl E1 x).bind EX) λxs=>Q (.p (.int xs.length)) E1
 | _=>False
theorem fT {n:Nat} {p:Pos} (eK:X.K=K) (hg:Gl X "len") (hm:X.mg "len" = none) (ha:QA X (e::es) (dS K n Fr)) (hs:bM (e::es)=true:=by rfl):QE X (.Call (.Name "len" p) (e::es) [] pos) (aM K (GN Fr)):=by
 subst eK;refine (eU yZ hg hm PySem.boot_len ha (by decide) (by decide) hs).le λσ H Q hl h=>args (Fr:=Fr) h λB S E rs vs H2 Q' hS re rr hn q lk=>?_
 match rs,rr,q with
 | [x],⟨v,ws,e1,h1,h2⟩,q=>
  cases h2;subst e1;obtain ⟨xs,e2,q⟩:=o1.ex q;obtain ⟨t,e3,e2⟩:=RW.mp e2;have rt:=re.vl h1 e3;cases t with
  | tup ys=>
   cases e2;obtain ⟨p,us,rfl,sq,rs⟩:=rt;exact ⟨p,us,rfl,.inr sq,by rw [rs.length];exact lk _ _ _ _ _ q .refl re rfl⟩
  | lst ys=>
   cases e2;obtain ⟨p,us,rfl,sq,rs⟩:=rt;exact ⟨p,us,rfl,.inl sq,by rw [rs.length];exact lk _ _ _ _ _ q .refl re rfl⟩
  | _=>cases e2
 | [],_,q=>exact q.elim
 | _::_::_,_,q=>exact q.elim
def IF (Fr:FA):FE:=λE Q=>Fr E λrs E1=>match rs with
 | [x]=>i1 (vl E1 x) λi=>Q (.p (.int (i.natAbs:Int))) E1
 | _=>False
theorem qG {n:Nat} {p:Pos} (hg:Gl X "abs") (hm:X.mg "abs" = none) (ha:QA X (e::es) (dS K n Fr)) (hs:bM (e::es)=true:=by rfl):QE X (.Call (.Name "abs" p) (e::es) [] pos) (aM K (IF Fr)):=by
 refine (eU Ml hg hm boot_abs ha (by decide) (by decide) hs).le λσ H Q hl h=>args (Fr:=Fr) h λB S E rs vs H2 Q' hS re rr hn q lk=>?_
 match rs,rr,q with
 | [x],⟨v,ws,e1,h1,h2⟩,q=>
  cases h2;subst e1;obtain ⟨i,e2,q⟩:=i1.ex q;exact ⟨i,by rw [re.int h1 e2],lk _ _ _ _ _ q .refl re rfl⟩
 | [],_,q=>exact q.elim
 | _::_::_,_,q=>exact q.elim
def FN (Fr:FA):FE:=λE Q=>Fr E λrs E1=>match rs with
 | [x]=>b1 (vl E1 x) λi=>Q (.p (.int (if i then 1 else 0))) E1
 | _=>False
theorem Wr {n:Nat} {p:Pos} (hg:Gl X "int") (hm:X.mg "int" = none) (ha:QA X (e::es) (dS K n Fr)) (hs:bM (e::es)=true:=by rfl):QE X (.Call (.Name "int" p) (e::es) [] pos) (aM K (FN Fr)):=by
 refine (kI Mx hg hm (by decide +kernel) ha (by decide) (by decide) hs).le λσ H Q hl h=>args (Fr:=Fr) h λB S E rs vs H2 Q' hS re rr hn q lk=>?_
 match rs,rr,q with
 | [x],⟨v,ws,e1,h1,h2⟩,q=>
  cases h2;subst e1;obtain ⟨i,e2,q⟩:=b1.ex q;exact ⟨i,by rw [re.bl h1 e2],lk _ _ _ _ _ q .refl re rfl⟩
 | [],_,q=>exact q.elim
 | _::_::_,_,q=>exact q.elim
def Zr (Fr:FA):FE:=λE Q=>Fr E λrs E1=>match rs with
 | [x,y]=>i2 (vl E1 x) (vl E1 y) λi j=>(0<j/\j<2^200)/\Q (.p (.tup [.int (i/j),.int (i%j)])) E1
 | _=>False
theorem Ny {n:Nat} {p:Pos} (hg:Gl X "divmod") (hm:X.mg "divmod" = none) (ha:QA X (e::es) (dS K n Fr)) (hs:bM (e::es)=true:=by rfl):QE X (.Call (.Name "divmod" p) (e::es) [] pos) (aM K (Zr Fr)):=by
 refine (eU zQ hg hm boot_divmod ha (by decide) (by decide) hs).le λσ H Q hl h=>args (Fr:=Fr) h λB S E rs vs H2 Q' hS re rr hn q lk=>?_
 match rs,rr,q with
 | [x,y],⟨v,ws,e1,h1,w,fh,e2,h2,h3⟩,q=>
  cases h3;subst e2;subst e1;obtain ⟨i,j,e3,e4,⟨c1,c2⟩,q⟩:=i2.ex q;refine ⟨i,j,by rw [re.int h1 e3,re.int h2 e4],c1,c2,λp hp=>?_⟩;obtain ⟨g,VN,rp⟩:=re.tup (ts:=[.int (i/j),.int (i%j)]) (vs:=[.int (i/j),.int (i%j)]) hp ⟨_,_,rfl,rfl,_,_,rfl,rfl,rfl⟩;exact lk _ _ _ _ _ q g VN rp
 | [],_,q=>exact q.elim
 | [_],_,q=>exact q.elim
 | _::_::_::_,_,q=>exact q.elim
end
end L2
namespace L2
open PySem PySem.Spec PyProof.Rows
structure ET where
 nx:En->Prop
 rt:R->En->Prop
 bk:En->Prop:=λ_=>False
 ct:En->Prop:=λ_=>False
abbrev FS:=ET->En->Prop
abbrev Gs (B:SO->Prop) (H:Hp) (S:St) (E:En) (H':Hp) (S':St) (E':En):Prop:=Kp (Ow B S E) (Ow B S' E') H H'
structure LS (K:W.Frag) (B:SO->Prop) (H:Hp) (σ:St) (E:En) (DT:ET) (D:mF):Prop where
 nx:∀σ' H' E',DT.nx E'->Gs B H σ E H' σ' E'->RE K B H' σ' E'->D.nx σ' H'
 rt:∀r E' v H' S',DT.rt r E'->Gs B H σ E H' S' E'->RE K B H' S' E'->RR K B H' S' E' r v->D.rt v H'
 bk:∀σ' H' E',DT.bk E'->Gs B H σ E H' σ' E'->RE K B H' σ' E'->D.bk σ' H'
 ct:∀σ' H' E',DT.ct E'->Gs B H σ E H' σ' E'->RE K B H' σ' E'->D.ct σ' H'
theorem LS.step {K:W.Frag} {B:SO->Prop} {H H':Hp} {σ σ':St} {E E':En} {DT:ET} {D:mF} (l:LS K B H σ E DT D) (g:Gs B H σ E H' σ' E'):LS K B H' σ' E' DT D:=
 ⟨λa b c d e=>l.nx a b c d (g.trans e),λa b c d e f h=>l.rt a b c d e f (g.trans h),λa b c d e=>l.bk a b c d (g.trans e),λa b c d e=>l.ct a b c d (g.trans e)⟩
def iA (K:W.Frag) (F:FS):TS:=λD σ H=>∃B E DT,RE K B H σ E/\F DT E/\LS K B H σ E DT D
section
variable {X:Cx} {st:TB} {YM:List TB}
theorem QS.le {t t':TS} (h:QS X st t) (m:∀D σ H,σ.length=X.N.length->t' D σ H->t D σ H):QS X st t':=⟨λpins s σ H D I z=>h.h pins s σ H D I (m D σ H I.len z)⟩
theorem QB.le {t t':TS} (h:QB X YM t) (m:∀D σ H,t' D σ H->t D σ H):QB X YM t':=⟨λpins s σ H D I z=>h.h pins s σ H D I (m D σ H z)⟩
theorem QG.le {e:Expr} {t t':TG} (h:QG X e t) (m:∀v σ H Q,σ.length=X.N.length->t' v σ H Q->t v σ H Q):QG X e t':=⟨λpins s σ H v u Q I r z=>h.h pins s σ H v u Q I r (m v σ H Q I.len z)⟩
theorem Eu.le {es:List Expr} {t t':Pl} (h:Eu X es t) (m:∀v σ H Q,t' v σ H Q->t v σ H Q):Eu X es t':=⟨λpins s σ H v u Q I r z=>h.h pins s σ H v u Q I r (m v σ H Q z)⟩
theorem QI.le {tg e:Expr} {t t':TI} (h:QI X tg e t) (m:∀σ H Q,σ.length=X.N.length->t' σ H Q->t σ H Q):QI X tg e t':=⟨λpins s σ H R I z=>h.h pins s σ H R I (m σ H R I.len z)⟩
end
section
variable {K:W.Frag} {B:SO->Prop} {H H':Hp} {S S':St} {E E':En} {σ:St}
theorem RE.map (re:RE K B H S E) (hl:S'.length=E'.length) (hp:∀(i:Nat) (t:T),E'[i]? = some (some (.p t))->∃v,S'[i]? = some (some v)/\Rp K H (Ow B S E) t v)
  (f:Nat->Nat) (ho:∀(i:Nat) (k:Bool) (xs:List T),E'[i]? = some (some (.o k xs))->E[f i]? = some (some (.o k xs))/\∃a,S[f i]? = some (some (.ref a))/\S'[i]? = some (some (.ref a)))
  (hf:∀(i j:Nat) (k l:Bool) (xs ys:List T),E'[i]? = some (some (.o k xs))->E'[j]? = some (some (.o l ys))->f i=f j->i=j):RE K B H S' E'/\∀b,Ow B S' E' b->Ow B S E b:=by
 have ow:∀b,Ow B S' E' b->Ow B S E b:=λb z=>by
  rcases z with z | ⟨i,k,xs,h1,h2⟩
  ·exact .inl z
  obtain ⟨h3,a,h4,h5⟩:=ho i k xs h1;rw [h2] at h5;cases h5;exact .inr ⟨f i,k,xs,h3,h4⟩
 refine ⟨⟨hl,λi t h=>?_,λi k xs h=>?_,λi j k l xs ys a h1 h2 h3 h4=>?_,re.bd⟩,ow⟩
 ·obtain ⟨v,h1,h2⟩:=hp i t h;exact ⟨v,h1,h2.step (Kp.less ow)⟩
 ·obtain ⟨h3,a,h4,h5⟩:=ho i k xs h;obtain ⟨a',vs,q1,q2,q3,q4⟩:=re.own _ k xs h3;rw [h4] at q1;cases q1;exact ⟨a,vs,h5,q2,q3.step (Kp.less ow),q4⟩
 ·obtain ⟨p1,a1,p2,p3⟩:=ho i k xs h1;obtain ⟨r1,a2,r2,r3⟩:=ho j l ys h2;rw [h3] at p3;cases p3;rw [h4] at r3;cases r3;exact hf i j k l xs ys h1 h2 (re.inj _ _ k l xs ys _ p1 r1 p2 r2)
theorem RE.cut (re:RE K B H' S' E') (hS:∃τ,S'=σ++τ) (hl:σ.length=E.length):RE K B H' σ (E'.take E.length)/\∀b,Ow B σ (E'.take E.length) b->Ow B S' E' b:=by
 obtain ⟨τ,rfl⟩:=hS;have e:(σ++τ).take E.length=σ:=by rw [<-hl];simp
 have:=re.take E.length;rw [e] at this;refine ⟨this,λb z=>?_⟩;rcases z with z | ⟨i,k,xs,h1,h2⟩
 ·exact .inl z
 have hi:i<E.length:=by
  rcases NZ i E.length with c | c
  ·exact c
  ·rw [ON (by omega)] at h1;cases h1
 exact .inr ⟨i,k,xs,by rw [NK hi] at h1;exact h1,fH ⟨τ,rfl⟩ h2⟩
theorem RE.setP (re:RE K B H S E) {i:Nat} {t:T} {v:V} (h:Rp K H (Ow B S E) t v):RE K B H (S.set i (some v)) (E.set i (some (.p t)))/\∀b,Ow B (S.set i (some v)) (E.set i (some (.p t))) b->Ow B S E b:=by
 refine re.map (by simp [re.len]) (λj u hj=>?_) id (λj k xs hj=>?_) (λ_ _ _ _ _ _ _ _ h=>h)
 ·rw [PC] at hj
  by_cases c:i=j
  ·subst c;rw [if_pos rfl] at hj;split at hj
   ·cases hj;rename_i hi;exact ⟨v,by rw [MR (by rw [re.len];exact hi)],h⟩
   ·cases hj
  ·rw [if_neg c] at hj;obtain ⟨w,h1,h2⟩:=re.pure j u hj;exact ⟨w,by rw [MB c];exact h1,h2⟩
 ·rw [PC] at hj
  by_cases c:i=j
  ·subst c;rw [if_pos rfl] at hj;split at hj<;>cases hj
  ·rw [if_neg c] at hj;obtain ⟨a,vs,h1,_⟩:=re.own j k xs hj;exact ⟨hj,a,h1,by rw [MB c];exact h1⟩
theorem RE.setO (re:RE K B H S E) (hS:∃τ,S=σ++τ) {i j:Nat} {k:Bool} {xs:List T} (hj:σ.length<=j) (hE:E[j]? = some (some (.o k xs))) {v:V} (hv:S[j]? = some (some v)) :
  RE K B H (σ.set i (some v)) ((E.take σ.length).set i (some (.o k xs)))/\∀b,Ow B (σ.set i (some v)) ((E.take σ.length).set i (some (.o k xs))) b->Ow B S E b:=by
 obtain ⟨τ,rfl⟩:=hS;have hle:σ.length<=E.length:=by rw [<-re.len];simp
 have gt:∀{m:Nat} {x:Option U},(E.take σ.length)[m]? = some x->E[m]? = some x/\m<σ.length:=λ{m x} h=>by
  by_cases c:m<σ.length
  ·rw [NK c] at h;exact ⟨h,c⟩
  ·rw [ON (by omega)] at h;cases h
 refine re.map (by simp;omega) (λm u hm=>?_) (λm=>if m=i then j else m) (λm l ys hm=>?_) (λm n l l' ys zs h1 h2 h=>?_)
 ·rw [PC] at hm
  by_cases c:i=m
  ·subst c;rw [if_pos rfl] at hm;split at hm<;>cases hm
  ·rw [if_neg c] at hm;obtain ⟨hm,lt⟩:=gt hm;obtain ⟨w,h1,h2⟩:=re.pure m u hm;rw [LW lt] at h1;exact ⟨w,by rw [MB c];exact h1,h2⟩
 ·rw [PC] at hm
  by_cases c:i=m
  ·subst c;rw [if_pos rfl] at hm;split at hm
   ·cases hm;rename_i hi;obtain ⟨a,vs,h1,_⟩:=re.own j k xs hE;rw [hv] at h1;cases h1;rw [if_pos rfl];refine ⟨hE,a,hv,?_⟩;rw [MR (by rw [MA] at hi;omega)]
   ·cases hm
  ·rw [if_neg c] at hm;obtain ⟨hm,lt⟩:=gt hm;obtain ⟨a,vs,h1,_⟩:=re.own m l ys hm;rw [if_neg (λz=>c z.symm)];refine ⟨hm,a,h1,?_⟩;rw [LW lt] at h1;rw [MB c];exact h1
 ·have lt:∀{m:Nat} {l:Bool} {ys:List T},((E.take σ.length).set i (some (.o k xs)))[m]? = some (some (.o l ys))->m≠i->m<σ.length:=λ{m l ys} h1 c=>by
   rw [MB (λz=>c z.symm)] at h1;exact (gt h1).2
  by_cases c1:m=i
  ·by_cases c2:n=i
   ·rw [c1,c2]
   ·simp only [if_pos c1,if_neg c2] at h;have:=lt h2 c2;omega
  ·by_cases c2:n=i
   ·simp only [if_neg c1,if_pos c2] at h;have:=lt h1 c1;omega
   ·simp only [if_neg c1,if_neg c2] at h;exact h
theorem RE.frz (re:RE K B H S E) {i:Nat} {xs:List T} (h:E[i]? = some (some (.o false xs))):RE K B H S (E.set i (some (.p (.lst xs))))/\∀b,Ow B S (E.set i (some (.p (.lst xs)))) b->Ow B S E b/\S[i]?≠some (some (.ref b)):=by
 have hi:i<E.length:=(KU.mp h).1;obtain ⟨a,vs,h1,h2,h3,h4⟩:=re.own i false xs h;have get:∀{j:Nat} {u:U},(E.set i (some (.p (.lst xs))))[j]? = some (some u)->(j=i/\u = .p (.lst xs))\/(j≠i/\E[j]? = some (some u)):=λ{j u} hj=>by
  by_cases c:j=i
  ·subst c;rw [MR hi] at hj;cases hj;exact .inl ⟨rfl,rfl⟩
  ·rw [MB (λz=>c z.symm)] at hj;exact .inr ⟨c,hj⟩
 have ow:∀b,Ow B S (E.set i (some (.p (.lst xs)))) b->Ow B S E b/\S[i]?≠some (some (.ref b)):=λb z=>by
  rcases z with z | ⟨j,k,ys,q1,q2⟩
  ·refine ⟨.inl z,λw=>?_⟩;rw [h1] at w;cases w;exact absurd (h4.mpr z) (by decide)
  rcases get q1 with ⟨_,z⟩ | ⟨c,q1⟩
  ·cases z
  ·exact ⟨.inr ⟨j,k,ys,q1,q2⟩,λz=>c (re.inj j i k false ys xs b q1 h q2 z)⟩
 have kl:Kp (Ow B S E) (Ow B S (E.set i (some (.p (.lst xs))))) H H:=Kp.less λb z=>(ow b z).1;refine ⟨⟨by simp [re.len],λj t hj=>?_,λj k ys hj=>?_,λj m k l ys zs b q1 q2 q3 q4=>?_,re.bd⟩,ow⟩
 ·rcases get hj with ⟨c,z⟩ | ⟨c,hj⟩
  ·cases z;subst c;exact ⟨_,h1,a,vs,rfl,.inl ⟨λz=>(ow a z).2 h1,.inl h2⟩,h3.step kl⟩
  ·obtain ⟨w,q1,q2⟩:=re.pure j t hj;exact ⟨w,q1,q2.step kl⟩
 ·rcases get hj with ⟨_,z⟩ | ⟨c,hj⟩
  ·cases z
  ·obtain ⟨b,ws,q1,q2,q3,q4⟩:=re.own j k ys hj;exact ⟨b,ws,q1,q2,q3.step kl,q4⟩
 ·rcases get q1 with ⟨_,z⟩ | ⟨_,q1⟩
  ·cases z
  rcases get q2 with ⟨_,z⟩ | ⟨_,q2⟩
  ·cases z
  exact re.inj j m k l ys zs b q1 q2 q3 q4
theorem RE.put (re:RE K B H S E) {i:Nat} {k:Bool} {xs ys:List T} {a:SO} {ws:List V} (h:E[i]? = some (some (.o k xs))) (hS:S[i]? = some (some (.ref a))) (hw:cS K H (Ow B S E) ys ws) :
  Gr B H S E (upd H a (.lst ws)) S (E.set i (some (.o k ys)))/\RE K B (upd H a (.lst ws)) S (E.set i (some (.o k ys))):=by
 have hi:i<E.length:=(KU.mp h).1;have get:∀{j:Nat} {u:U},(E.set i (some (.o k ys)))[j]? = some (some u)->(j=i/\u = .o k ys)\/(j≠i/\E[j]? = some (some u)):=λ{j u} hj=>by
  by_cases c:j=i
  ·subst c;rw [MR hi] at hj;cases hj;exact .inl ⟨rfl,rfl⟩
  ·rw [MB (λz=>c z.symm)] at hj;exact .inr ⟨c,hj⟩
 have ow:∀b,Ow B S (E.set i (some (.o k ys))) b->Ow B S E b:=λb z=>by
  rcases z with z | ⟨j,l,zs,q1,q2⟩
  ·exact .inl z
  rcases get q1 with ⟨c,z⟩ | ⟨c,q1⟩
  ·subst c;exact .inr ⟨j,k,xs,h,q2⟩
  ·exact .inr ⟨j,l,zs,q1,q2⟩
 have oa:Ow B S E a:=.inr ⟨i,k,xs,h,hS⟩;have kk:∀b o,H b=some o->¬Ow B S E b->(upd H a (.lst ws)) b=some o:=λb o e n=>by rw [a8 (λz=>n (by rw [z];exact oa))];exact e
 have kp:Kp (Ow B S E) (Ow B S E) H (upd H a (.lst ws)):=⟨kk,λb z=>.inl z⟩;refine ⟨⟨⟨kk,λb z=>.inl (ow b z)⟩,[],by simp⟩,re.step kk (by simp) (λj t hj=>?_) (λj l zs hj=>?_) (λb hb=>?_)⟩
 ·rcases get hj with ⟨_,z⟩ | ⟨_,hj⟩
  ·cases z
  ·exact hj
 ·rcases get hj with ⟨c,z⟩ | ⟨c,hj⟩
  ·cases z;subst c;refine ⟨xs,h,λb hb=>?_⟩;rw [hS] at hb;cases hb;exact ⟨ws,c8,hw.step kp⟩
  ·refine ⟨zs,hj,λb hb=>?_⟩;obtain ⟨b',us,q1,q2,q3,_⟩:=re.own j l zs hj;rw [hb] at q1;cases q1;have nb:b≠a:=λz=>c (re.inj j i l k zs xs a hj h (by rw [<-z];exact hb) hS);exact ⟨us,by rw [a8 nb];exact q2,q3.step kp⟩
 ·by_cases c:b=a
  ·subst c;exact ⟨ws,c8⟩
  ·rw [a8 c];exact re.bd b hb
end
section
variable {X:Cx} {K:W.Frag} {pos:Pos} {a b c e o i:Expr} {es rest:List Expr} {Fa Fb Fc Fe Fo Fi:FE} {Fr:FA} {Fp Fq:FB} {F G:FS} {st:TB} {YM body jq sf:List TB}
def oC:En->(En->Prop)->Prop
 | [],k=>k []
 | x::r,k=>oC r λr'=>k (x::r')
theorem gH:∀{E:En} {k:En->Prop},oC E k->k E
 | [],_,h=>h
 | x::r,k,h=>gH (E:=r) (k:=λr'=>k (x::r')) h
def EC:FS:=λD E=>D.nx E
def EJ (F G:FS):FS:=λD E=>F { D with nx:=λE'=>oC E' (G D) } E
theorem bY:QB X [] (iA K EC):=Y2.le λD σ H ⟨B,E,DT,re,hF,l⟩=>l.nx _ _ _ hF (Kp.refl _ _) re
theorem aE (h1:QS X st (iA K F)) (h2:QB X YM (iA K G)):QB X (st::YM) (iA K (EJ F G)):=
 (pB h1 h2).le λD σ H ⟨B,E,DT,re,hF,l⟩=>⟨B,E,_,re,hF,⟨λσ' H' E' hG g VN=>⟨B,E',DT,VN,gH hG,l.step g⟩,l.rt,l.bk,l.ct⟩⟩
theorem aH (h1:QS X st (iA K F)):QB X [st] (iA K F):=Hb h1
def CG (Fa:FE):FS:=λD E=>Fa E D.rt
theorem aQ (h:QE X e (aM K Fa)):QS X (.Return (some e) pos) (iA K (CG Fa)):=
 (Tc h).le λD σ H hl ⟨B,E,DT,re,hF,l⟩=>⟨B,σ,E,_,⟨[],by simp⟩,re,hF,λr E' v H' S' q g VN rr=>l.rt r E' v H' S' q g.kp VN rr⟩
theorem Hd {D:Bool->Hp->Prop} {B:SO->Prop} {σ:St} {H:Hp} {E:En} {P:Bool->En->Prop} (re:RE K B H σ E) (hF:Fp E λb E'=>P b (E'.take E.length)) (k:∀b H' E',P b E'->Gs B H σ E H' σ E'->RE K B H' σ E'->D b H'):eJ K Fp σ H D:=
 ⟨B,σ,E,_,⟨[],by simp⟩,re,hF,λb E' H' S' q g VN=>by
  obtain ⟨r,ow⟩:=VN.cut (E:=E) g.pre re.len;exact k b H' _ q (g.kp.trans (Kp.less ow)) r⟩
theorem Hi {P:R->En->En->Prop} {Q:VK} {B:SO->Prop} {σ:St} {H:Hp} {E:En} (re:RE K B H σ E) (hF:Fa E λr E'=>P r E' (E'.take E.length))
  (k:∀r E' v H' S',P r E' (E'.take E.length)->Gr B H σ E H' S' E'->RE K B H' S' E'->RR K B H' S' E' r v->RE K B H' σ (E'.take E.length)->(∀b,Ow B σ (E'.take E.length) b->Ow B S' E' b)->Q v H'):aM K Fa σ H Q:=
 ⟨B,σ,E,_,⟨[],by simp⟩,re,hF,λr E' v H' S' q g VN rr=>by
  obtain ⟨r2,ow⟩:=VN.cut (E:=E) g.pre re.len;exact k r E' v H' S' q g VN rr r2 ow⟩
def JK (Fp:FB) (F G:FS):FS:=λD E=>Fp E λb E'=>if b=true then oC (E'.take E.length) (F D) else oC (E'.take E.length) (G D)
theorem cU (hc:QT X c (eJ K Fp)) (ha:QB X jq (iA K F)) (hb:QB X sf (iA K G)):QS X (.If c jq sf pos) (iA K (JK Fp F G)):=
 (EU hc ha hb).le λD σ H hl ⟨B,E,DT,re,hF,l⟩=>Hd (P:=λb E'=>if b=true then oC E' (F DT) else oC E' (G DT)) re hF λb H' E' q g VN=>by
  cases b
  ·exact ⟨B,E',DT,VN,gH q,l.step g⟩
  ·exact ⟨B,E',DT,VN,gH q,l.step g⟩
def L4 (Fa:FE):FS:=λD E=>Fa E λ_ E'=>D.nx (E'.take E.length)
theorem d8 (he:QE X e (aM K Fa)) (hs:TZ e none pos.line X.env=pure false:=by rfl):QS X (.Expr e pos) (iA K (L4 Fa)):=
 (Jj he hs).le λD σ H hl ⟨B,E,DT,re,hF,l⟩=>Hi (P:=λ_ _ E'=>DT.nx E') re hF λr E' v H' S' q g VN rr WT ow=>l.nx _ _ _ q (g.kp.trans (Kp.less ow)) WT
def Xq (Fp:FB):FS:=λD E=>Fp E λb E'=>b=true/\D.nx (E'.take E.length)
theorem Nr {m:Option Expr} (hc:QT X c (eJ K Fp)):QS X (.Assert c m pos) (iA K (Xq Fp)):=
 (Mk hc).le λD σ H hl ⟨B,E,DT,re,hF,l⟩=>Hd (P:=λb E'=>b=true/\DT.nx E') re hF λb H' E' q g VN=>⟨q.1,l.nx _ _ _ q.2 g VN⟩
def yT (n:Nat) (E:En):R->Option U
 | .p t=>some (.p t)
 | .s j=>match E[j]? with
  | some (some (.p t))=>some (.p t)
  | some (some (.o k xs))=>if n<=j then some (.o k xs) else none
  | _=>none
theorem kH {B:SO->Prop} {σ S:St} {H:Hp} {E:En} {r:R} {v:V} {u:U} {i:Nat} (re:RE K B H S E) (hS:∃τ,S=σ++τ) (rr:RR K B H S E r v) (h:yT σ.length E r=some u) :
  RE K B H (σ.set i (some v)) ((E.take σ.length).set i (some u))/\∀b,Ow B (σ.set i (some v)) ((E.take σ.length).set i (some u)) b->Ow B S E b:=by
 have tf:∀{t:T},Rp K H (Ow B S E) t v->RE K B H (σ.set i (some v)) ((E.take σ.length).set i (some (.p t)))/\∀b,Ow B (σ.set i (some v)) ((E.take σ.length).set i (some (.p t))) b->Ow B S E b:=λ{t} hp=>by
  obtain ⟨τ,rfl⟩:=hS;have WT:=re.take σ.length;rw [show (σ++τ).take σ.length=σ by simp] at WT;have ow:∀b,Ow B σ (E.take σ.length) b->Ow B (σ++τ) E b:=λb z=>by
   rcases z with z | ⟨j,k,xs,h1,h2⟩
   ·exact .inl z
   have hj:j<σ.length:=(KU.mp h2).1;exact .inr ⟨j,k,xs,by rw [NK hj] at h1;exact h1,fH ⟨τ,rfl⟩ h2⟩
  obtain ⟨q1,q2⟩:=WT.setP (i:=i) (hp.step (Kp.less ow));exact ⟨q1,λb z=>ow b (q2 b z)⟩
 cases r with
 | p t=>cases h;exact tf rr
 | s j=>
  cases q:E[j]? with
  | none=>simp only [yT,q] at h;cases h
  | some w=>
   cases w with
   | none=>simp only [yT,q] at h;cases h
   | some w=>
    cases w with
    | p t=>
     simp only [yT,q] at h;cases h;obtain ⟨v',h1,h2⟩:=re.pure j t q;have fi:S[j]? = some (some v):=rr;rw [fi] at h1;cases h1;exact tf h2
    | o k xs=>
     simp only [yT,q] at h;split at h
     ·cases h;rename_i c;exact re.setO hS c q rr
     ·cases h
def Wv (i:Nat) (Fa:FE):FS:=λD E=>Fa E λr E'=>o1 (yT E.length E' r) λu=>D.nx ((E'.take E.length).set i (some u))
theorem aX {i:Nat} {x:Str} {pos':Pos} (hN:X.N.Nodup) (hi:X.N[i]? = some x) (hx:Ef X.env.scope x) (he:QE X e (aM K Fa)) (hs:TZ e (some (.Name x pos')) pos.line X.env=pure false:=by rfl)
  (hf:X.fn x=true\/X.env.scope.names.lookup x=some .local:=by first | exact .inl rfl | exact .inr rfl | assumption):QS X (.Assign [.Name x pos'] e pos) (iA K (Wv i Fa)):=
 (yE hN hi hx he hs hf).le λD σ H hl ⟨B,E,DT,re,hF,l⟩=>⟨B,σ,E,_,⟨[],by simp⟩,re,hF,λr E' v H' S' q g VN rr=>by
  obtain ⟨u,e1,q⟩:=q.ex;rw [<-re.len] at e1 q;obtain ⟨r1,ow⟩:=kH (i:=i) VN g.pre rr e1;exact l.nx _ _ _ q (g.kp.trans (Kp.less ow)) r1⟩
end
end L2
namespace L2
open PySem PySem.Spec PyProof.Rows
abbrev FG:=T->En->(En->Prop)->Prop
abbrev Wh:=List T->En->(En->Prop)->Prop
def pR (K:W.Frag) (G:FG):TG:=λv σ H Q=>∃B τ E t Q',RE K B H (σ++τ) E/\Rp K H (Ow B (σ++τ) E) t v/\G t E Q'/\∀σ' H' E',Q' E'->Gs B H (σ++τ) E H' (σ'++τ) E'->RE K B H' (σ'++τ) E'->σ'.length=σ.length->Q σ' H'
def Dt (K:W.Frag) (G:Wh):Pl:=λvs σ H Q=>∃B τ E ts Q',RE K B H (σ++τ) E/\cS K H (Ow B (σ++τ) E) ts vs/\G ts E Q'/\∀σ' H' E',Q' E'->Gs B H (σ++τ) E H' (σ'++τ) E'->RE K B H' (σ'++τ) E'->σ'.length=σ.length->Q σ' H'
def Jf (i:Nat):FG:=λt E Q=>Q (E.set i (some (.p t)))
def N3:Wh:=λts E Q=>match ts with
 | []=>Q E
 | _=>False
def Jg (g:FG) (gs:Wh):Wh:=λts E Q=>match ts with
 | t::r=>g t E λE'=>gs r E' Q
 | []=>False
def M4 (n:Nat) (gs:Wh):FG:=λt E Q=>match t with
 | .tup ts=>cond (Nat.beq ts.length n) (gs ts E Q) False
 | _=>False
def GO (Fo Fi:FE):FG:=λt E Q=>Fo E λr E1=>Fi E1 λz E2=>match r with
 | .s j=>match E2[j]? with
  | some (some (.o k xs))=>i1 (vl E2 z) λm=>o1 (Ah xs.length m) λl=>Q ((E2.set j (some (.o k (xs.set l t)))).take E.length)
  | _=>False
 | _=>False
section
variable {X:Cx} {K:W.Frag} {pos:Pos} {a b c e o i:Expr} {es rest:List Expr} {Fa Fb Fc Fe Fo Fi:FE} {Fr:FA} {Fp Fq:FB} {F G:FS} {st:TB} {YM body:List TB} {g:FG} {gs:Wh}
theorem aI {i:Nat} {x:Str} (hN:X.N.Nodup) (hi:X.N[i]? = some x) (hx:Ef X.env.scope x) (hf:X.fn x=true\/X.env.scope.names.lookup x=some .local:=by first | exact .inl rfl | exact .inr rfl | assumption):QG X (.Name x pos) (pR K (Jf i)):=
 (Lr hN hi hx hf).le λv σ H Q hl ⟨B,τ,E,t,Q',re,rp,hF,l⟩=>by
  have XB:i<σ.length:=by rw [hl];exact (KU.mp hi).1
  obtain ⟨r1,ow⟩:=re.setP (i:=i) rp;rw [List.set_append_left _ _ XB] at r1 ow;exact l _ _ _ hF (Kp.less ow) r1 (by simp)
theorem bK:Eu X [] (Dt K N3):=Iy.le λvs σ H Q ⟨B,τ,E,ts,Q',re,rp,hF,l⟩=>by
 cases ts with
 | nil=>exact ⟨rp,l _ _ _ hF (Kp.refl _ _) re rfl⟩
 | cons _ _=>exact hF.elim
theorem aJ (h1:QG X e (pR K g)) (h2:Eu X es (Dt K gs)) (hs:(TM (e::es) X.env).map (·.2)=UP e X.env::(TM es X.env).map (·.2):=by rfl):Eu X (e::es) (Dt K (Jg g gs)):=
 (Bn h1 h2 hs).le λvs σ H Q ⟨B,τ,E,ts,Q',re,rp,hF,l⟩=>by
  cases ts with
  | nil=>exact hF.elim
  | cons t ts=>
   obtain ⟨v,r,e1,h1,h2⟩:=rp;exact ⟨v,r,e1,B,τ,E,t,_,re,h1,hF,λσ' H' E' q g VN hl=>⟨B,τ,E',ts,Q',VN,h2.step g,q,λσ2 H2 E2 q2 g2 WT jj=>l _ _ _ q2 (g.trans g2) WT (jj.trans hl)⟩⟩
theorem bV {k n:Nat} (eK:X.K=K) (hc:X.calm=true) (h:Eu X es (Dt K gs)) (hn:(TM es X.env).length=n:=by rfl) (ft:(TM es X.env).findIdx? (·.1)=none:=by rfl):QG X (.Tuple es k pos) (pR K (M4 n gs)):=by
 subst eK;refine (Ry hc h hn ft).le λv σ H Q hl ⟨B,τ,E,t,Q',re,rp,hF,l⟩=>?_;cases t with
 | tup ts=>
  have ao:cond (Nat.beq ts.length n) (gs ts E Q') False:=hF;cases q:Nat.beq ts.length n with
  | false=>rw [q] at ao;exact ao.elim
  | true=>
   rw [q] at ao;obtain ⟨p,vs,e1,sq,rs⟩:=rp.sqT;exact ⟨p,vs,e1,sq,by rw [rs.length];exact Nat.eq_of_beq_eq_true q,B,τ,E,ts,Q',re,rs,ao,l⟩
 | _=>exact hF.elim
theorem Gg (ho:QE X o (aM K Fo)) (hi:QE X i (aM K Fi))
  (ha:∀v,UP (.Subscript o i pos) X.env v=(do
   let ov <-UL [v] (TL o X.env)
   let iv <-UL [v,ov] (TL i X.env)
   standAt pos
   UL [v,ov,iv] (setItem ov iv v)
   release [v,ov,iv] []):=by intro _;rfl):QG X (.Subscript o i pos) (pR K (GO Fo Fi)):=by
 refine (R7 ho hi To ha).le λv σ H Q hl ⟨B,τ,E,t,Q',re,rp,hF,l⟩=>?_;refine ⟨B,σ++τ,E,_,⟨τ,rfl⟩,re,hF,λr E1 w H1 S1 q g1 VQ rr=>?_⟩;obtain ⟨τ1,XX⟩:=g1.pre;refine ⟨B,S1,E1,_,⟨τ++τ1,by rw [XX,LI]⟩,VQ,q,λz E2 y H2 S2 q2 g2 WT se=>?_⟩;have xv:=g1.trans g2;cases r with
 | p _=>exact q2.elim
 | s j=>
  have rj:S2[j]? = some (some w):=fH g2.pre rr;cases hE:E2[j]? with
  | none=>simp only [hE] at q2
  | some u=>
   cases u with
   | none=>simp only [hE] at q2
   | some u=>
    cases u with
    | p _=>simp only [hE] at q2
    | o k xs=>
     simp only [hE] at q2;obtain ⟨m,e1,q2⟩:=q2.ex;obtain ⟨n,e2,q2⟩:=q2.ex;obtain ⟨p,vs,h1,h2,h3,h4⟩:=WT.own j k xs hE;rw [rj] at h1;cases h1;refine ⟨p,vs,m,n,rfl,WT.int se e1,h2,by rw [h3.length];exact e2,?_⟩;obtain ⟨g3,WW⟩:=WT.put (ys:=xs.set n t) (ws:=vs.set n v) hE rj (h3.set (rp.step xv.kp) n);obtain ⟨cf,ow⟩:=WW.cut (E:=E) (xv.trans g3).pre re.len;exact l _ _ _ q2 ((xv.trans g3).kp.trans (Kp.less ow)) cf rfl
def IM (Fa:FE) (g:FG):FS:=λD E=>Fa E λr E'=>match r with
 | .p t=>g t (E'.take E.length) D.nx
 | .s _=>False
theorem iY {tg:Expr} (he:QE X e (aM K Fa)) (hg:QG X tg (pR K g)) (hs:UB [tg] e pos.line X.env=pure false:=by rfl) (hw:UC [tg] e X.env=pure none:=by rfl)
  (h1:(TM [tg] X.env).map (·.2)=[UP tg X.env]:=by rfl):QS X (.Assign [tg] e pos) (iA K (IM Fa g)):=
 (T6 he hg hs hw h1).le λD σ H hl ⟨B,E,DT,re,hF,l⟩=>Hi (P:=λr _ E'=>match r with | .p t=>g t E' DT.nx | .s _=>False) re hF λr E' v H' S' q g' VN rr WT ow=>by
  cases r with
  | s _=>exact q.elim
  | p t=>exact ⟨B,[],_,t,_,by rw [LZ];exact WT,by rw [LZ];exact Rp.step (Kp.less ow) rr,q,λσ2 H2 E2 q2 g2 WW _=>by rw [LZ] at g2 WW;rw [LZ] at g2;exact l.nx _ _ _ q2 ((g'.kp.trans (Kp.less ow)).trans g2) WW⟩
def IT (i j:Nat) (Fr:FA):FS:=λD E=>Fr E λrs E'=>match rs with
 | [.p t,r]=>o1 (yT E.length E' r) λu=>D.nx (((E'.take E.length).set j (some u)).set i (some (.p t)))
 | [r,.p t]=>o1 (yT E.length E' r) λu=>D.nx (((E'.take E.length).set i (some u)).set j (some (.p t)))
 | _=>False
theorem gY {n i j:Nat} {x y:Str} {px py pt:Pos} {kt k2 pt2} (hc:X.calm=true) (hN:X.N.Nodup) (hi:X.N[i]? = some x) (hj:X.N[j]? = some y) (bj:i≠j)
  (hx:X.env.scope.names.lookup x=some .local) (hy:X.env.scope.names.lookup y=some .local) (ha:QA X [a,b] (dS K n Fr))
  (hw:UC [.Tuple [.Name x px,.Name y py] kt pt] (.Tuple [a,b] k2 pt2) X.env=pure (some [x,y]))
  (hs:UB [.Tuple [.Name x px,.Name y py] kt pt] (.Tuple [a,b] k2 pt2) pos.line X.env=pure false:=by rfl) :
  QS X (.Assign [.Tuple [.Name x px,.Name y py] kt pt] (.Tuple [a,b] k2 pt2) pos) (iA K (IT i j Fr)):=by
 refine (P8 hc hN hi hj bj hx hy ha hw hs).le λD σ H hl ⟨B,E,DT,re,hF,l⟩=>⟨B,σ,E,_,⟨[],by simp⟩,re,hF,λrs E' vs H' S' q g VN rr hn=>?_⟩;split at q
 ·rename_i t r;obtain ⟨v,ws,e1,h1,w,fh,e2,h2,h3⟩:=rr;cases h3;subst e2;subst e1;obtain ⟨u,e3,q⟩:=q.ex;rw [<-re.len] at e3 q;obtain ⟨r1,ow⟩:=kH (i:=j) VN g.pre h2 e3;obtain ⟨r2,oi⟩:=r1.setP (i:=i) (Rp.step (Kp.less ow) h1);refine ⟨v,w,rfl,?_⟩;rw [QJ _ _ bj];exact l.nx _ _ _ q (g.kp.trans (Kp.less λb z=>ow b (oi b z))) r2
 ·rename_i r t _;obtain ⟨v,ws,e1,h1,w,fh,e2,h2,h3⟩:=rr;cases h3;subst e2;subst e1;obtain ⟨u,e3,q⟩:=q.ex;rw [<-re.len] at e3 q;obtain ⟨r1,ow⟩:=kH (i:=i) VN g.pre h1 e3;obtain ⟨r2,oi⟩:=r1.setP (i:=j) (Rp.step (Kp.less ow) h2);exact ⟨v,w,rfl,l.nx _ _ _ q (g.kp.trans (Kp.less λb z=>ow b (oi b z))) r2⟩
 ·exact q.elim
def AX (i j k:Nat) (Fr:FA):FS:=λD E=>Fr E λrs E'=>match rs with
 | [r,.p t,.p w]=>o1 (yT E.length E' r) λu=>D.nx ((((E'.take E.length).set i (some u)).set j (some (.p t))).set k (some (.p w)))
 | _=>False
theorem Km {n i j k:Nat} {x y z:Str} {px py pz pt:Pos} {kt k2 pt2} (hc:X.calm=true) (hN:X.N.Nodup) (hi:X.N[i]? = some x) (hj:X.N[j]? = some y) (hk:X.N[k]? = some z) (bj:i≠j) (rm:i≠k) (YV:j≠k)
  (hx:X.env.scope.names.lookup x=some .local) (hy:X.env.scope.names.lookup y=some .local) (hz:X.env.scope.names.lookup z=some .local) (ha:QA X [a,b,c] (dS K n Fr))
  (hw:UC [.Tuple [.Name x px,.Name y py,.Name z pz] kt pt] (.Tuple [a,b,c] k2 pt2) X.env=pure (some [x,y,z]))
  (hs:UB [.Tuple [.Name x px,.Name y py,.Name z pz] kt pt] (.Tuple [a,b,c] k2 pt2) pos.line X.env=pure false:=by rfl) :
  QS X (.Assign [.Tuple [.Name x px,.Name y py,.Name z pz] kt pt] (.Tuple [a,b,c] k2 pt2) pos) (iA K (AX i j k Fr)):=by
 refine (Zp hc hN hi hj hk bj rm YV hx hy hz ha hw hs).le λD σ H hl ⟨B,E,DT,re,hF,l⟩=>⟨B,σ,E,_,⟨[],by simp⟩,re,hF,λrs E' vs H' S' q g VN rr hn=>?_⟩;split at q
 ·rename_i r t w;obtain ⟨v1,ws1,e1,h1,v2,ws2,e2,h2,v3,ws3,e3,h3,h4⟩:=rr;cases h4;subst e3;subst e2;subst e1;obtain ⟨u,e4,q⟩:=q.ex;rw [<-re.len] at e4 q;obtain ⟨r1,ow⟩:=kH (i:=i) VN g.pre h1 e4;obtain ⟨r2,oi⟩:=r1.setP (i:=j) (Rp.step (Kp.less ow) h2);obtain ⟨r3,vn⟩:=r2.setP (i:=k) (Rp.step (Kp.less λb z=>ow b (oi b z)) h3);exact ⟨v1,v2,v3,rfl,l.nx _ _ _ q (g.kp.trans (Kp.less λb z=>ow b (oi b (vn b z)))) r3⟩
 ·exact q.elim
def Z5 (Fp:FB) (F:FS):FS:=λD E=>∃W:Nat->En->Prop,(∃m,W m E)/\∀m E,W m E->Fp E λb E'=>if b=true then F { D with nx:=λE2=>∃m',m'<m/\W m' E2,ct:=λE2=>∃m',m'<m/\W m' E2,bk:=D.nx } (E'.take E.length) else D.nx (E'.take E.length)
theorem Df (hp:PassesOwn (TC X.prog X.w) X.A X.env X.xe) (hc:QT X c (eJ K Fp)) (hb:QB X body (iA K F)):QS X (.While c body [] pos) (iA K (Z5 Fp F)):=by
 refine (Vr hp hc hb).le λD σ H hl ⟨B,E,DT,re,⟨W,⟨m0,w0⟩,hF⟩,l⟩=>?_;refine ⟨λm σ' H'=>∃E',W m E'/\Gs B H σ E H' σ' E'/\RE K B H' σ' E',⟨m0,E,w0,Kp.refl _ _,re⟩,?_⟩;rintro m σ1 H1 ⟨E1,w1,g1,VQ⟩;refine Hd (P:=λb E'=>if b=true then F { DT with nx:=λE2=>∃m',m'<m/\W m' E2,ct:=λE2=>∃m',m'<m/\W m' E2,bk:=DT.nx } E' else DT.nx E') VQ (hF m E1 w1) λb H2 E2 q g2 WT=>?_;cases b
 ·exact l.nx _ _ _ q (g1.trans g2) WT
 ·refine ⟨λσ' H'=>∃m',m'<m/\∃E',W m' E'/\Gs B H σ E H' σ' E'/\RE K B H' σ' E',λσ' H' z=>z,B,E2,_,WT,q,?_⟩;have l2:=l.step (g1.trans g2);exact ⟨λσ' H' E' ⟨m',hm,w⟩ g VN=>⟨m',hm,E',w,(g1.trans g2).trans g,VN⟩,l2.rt,λσ' H' E' z g VN=>l2.nx _ _ _ z g VN,λσ' H' E' ⟨m',hm,w⟩ g VN=>⟨m',hm,E',w,(g1.trans g2).trans g,VN⟩⟩
structure Ey (K:W.Frag) (J:It) (items:List T) (gd:Hp->(SO->Prop)->Prop):Prop where
 keep:∀H H' O O',Kp O O' H H'->gd H O->gd H' O'
 go:∀i H O,gd H O->i<items.length->J.go i H
 yld:∀i H O x H' t,gd H O->items[i]? = some t->(∀a,O a->H a≠none)->J.yld i H x H'->Kp O O H H'/\(∀b o,H b=some o->H' b=some o)/\Rp K H' O t x
 stop:∀H O,gd H O->J.stop items.length H
abbrev FI:=En->(List T->List Nat->En->Prop)->Prop
def lZ (K:W.Frag) (F:FI):TI:=λσ H R=>∃B S E Q',(∃τ,S=σ++τ)/\RE K B H S E/\F E Q'/\∀J items us E' H' S' gd,Q' items us E'->Gr B H S E H' S' E'->RE K B H' S' E'->Ey K J items gd->(∀j∈us,∃k xs,E'[j]? = some (some (U.o k xs)))->
 (∀O:SO->Prop,(∀b,O b->Ow B S' E' b)->(∀j∈us,∀a,S'[j]? = some (some (.ref a))->¬O a)->gd H' O)->R J H'
def frzs:List Nat->En->Option En
 | [],E=>some E
 | j::us,E=>match E[j]? with
  | some (some (.o false xs))=>frzs us (E.set j (some (.p (.lst xs))))
  | _=>none
theorem yR {B:SO->Prop} {H:Hp} {S:St}:∀{us:List Nat} {E E':En},RE K B H S E->frzs us E=some E'->RE K B H S E'/\(∀b,Ow B S E' b->Ow B S E b)/\(∀j∈us,∀a,S[j]? = some (some (.ref a))->¬Ow B S E' a)/\E'.length=E.length
 | [],E,E',re,h=>by cases h;exact ⟨re,λb z=>z,λj hj=>absurd hj (by simp),rfl⟩
 | j::us,E,E',re,h=>by
  cases q:E[j]? with
  | none=>simp only [frzs,q] at h;cases h
  | some u=>
   cases u with
   | none=>simp only [frzs,q] at h;cases h
   | some u=>
    cases u with
    | p t=>simp only [frzs,q] at h;cases h
    | o k xs=>
     cases k
     ·simp only [frzs,q] at h;obtain ⟨s1,s2⟩:=re.frz q;obtain ⟨r1,r2,r3,r4⟩:=yR s1 h;refine ⟨r1,λb z=>(s2 b (r2 b z)).1,λm hm a ha z=>?_,by rw [r4];simp⟩;rcases KR.mp hm with rfl | hm
      ·exact (s2 a (r2 a z)).2 ha
      ·exact r3 m hm a ha z
     ·simp only [frzs,q] at h;cases h
def dG (g:FG) (F:FS) (D:ET):List T->En->Prop
 | [],E=>D.nx E
 | x::xs,E=>g x E λE'=>oC E' (F { D with nx:=dG g F D xs,ct:=dG g F D xs,bk:=D.nx })
def EY (I:FI) (g:FG) (F:FS):FS:=λD E=>I E λitems us E'=>o1 (frzs us E') λE2=>oC (E2.take E.length) (dG g F D items)
theorem dY {tg iter:Expr} {I:FI} (hp:PassesOwn (TC X.prog X.w) X.A X.env X.xe) (hc:X.calm=true) (hi:QI X tg iter (lZ K I)) (hg:QG X tg (pR K g)) (hb:QB X body (iA K F)) (hs:∀x,TH iter X.env x=pure x:=by intro _;rfl) :
  QS X (.For tg iter body [] pos) (iA K (EY I g F)):=by
 refine (Fu hp hc hi hg hb hs).le λD σ H hl ⟨B,E,DT,re,hF,l⟩=>?_;refine ⟨B,σ,E,_,⟨[],by simp⟩,re,hF,λJ items us E1 H1 S1 gd q g1 VQ ok _ kr=>?_⟩;obtain ⟨E2,e2,q⟩:=q.ex;replace q:=gH q;obtain ⟨f1,f2,f3,f4⟩:=yR VQ e2;obtain ⟨c1,c2⟩:=f1.cut (E:=E) g1.pre re.len;have gs:Gs B H σ E H1 σ (E2.take E.length):=g1.kp.trans ((Kp.less f2).trans (Kp.less c2));have xw:gd H1 (Ow B σ (E2.take E.length)):=kr _ (λb z=>f2 b (c2 b z)) λj hj a ha z=>f3 j hj a ha (c2 a z);refine ⟨λi m σ' H'=>m=items.length-i/\i<=items.length/\∃E',dG g F DT (items.drop i) E'/\Gs B H σ E H' σ' E'/\RE K B H' σ' E'/\gd H' (Ow B σ' E'),⟨_,rfl,MJ _,_,q,gs,c1,xw⟩,?_⟩;rintro i m σ2 H2 ⟨rfl,gc,E3,q3,g3,WW,aq⟩;rcases NZ i items.length with XB | xx
 ·have hd:items.drop i=items[i]::items.drop (i+1):=NI XB;rw [hd] at q3;refine .inr ⟨ok.go i H2 _ aq XB,λσ' H'=>∃E',dG g F DT (items.drop (i+1)) E'/\Gs B H σ E H' σ' E'/\RE K B H' σ' E'/\gd H' (Ow B σ' E'),λσ' H' ⟨E',z⟩=>⟨items.length-(i+1),by omega,rfl,XB,E',z⟩,λx H4 y=>?_⟩;obtain ⟨k4,s4,rp⟩:=ok.yld i H2 _ x H4 _ aq (KS XB) (λa z=>by obtain ⟨vs,e⟩:=WW.ow z;rw [e];intro z;cases z) y;have cf:=WW.kept s4;have oj:=ok.keep _ _ _ _ k4 aq;refine ⟨B,[],E3,_,_,by rw [LZ];exact cf,by rw [LZ];exact rp,q3,λσ5 H5 E5 q5 g5 YW ku=>?_⟩;rw [LZ] at g5 YW;rw [LZ] at g5;have tj:=ok.keep _ _ _ _ g5 oj;have gg:=(g3.trans k4).trans g5;have l5:=l.step gg;refine ⟨B,E5,_,YW,gH q5,?_⟩;exact ⟨λσ' H' E' z g VN=>⟨E',z,gg.trans g,VN,ok.keep _ _ _ _ g tj⟩,l5.rt,λσ' H' E' z g VN=>l5.nx _ _ _ z g VN,λσ' H' E' z g VN=>⟨E',z,gg.trans g,VN,ok.keep _ _ _ _ g tj⟩⟩
 ·have ei:i=items.length:=by omega
  subst ei;rw [OT] at q3;exact .inl ⟨ok.stop H2 _ aq,l.nx _ _ _ q3 g3 WW⟩
def pF (E:En):R->List Nat
 | .p _=>[]
 | .s j=>match E[j]? with
  | some (some (.o _ _))=>[j]
  | _=>[]
theorem sA {E:En} {r:R}:∀j∈pF E r,∃k xs,E[j]? = some (some (U.o k xs)):=λj hj=>by
 cases r with
 | p _=>simp [pF] at hj
 | s m=>
  cases q:E[m]? with
  | none=>simp [pF,q] at hj
  | some u=>
   cases u with
   | none=>simp [pF,q] at hj
   | some u=>
    cases u with
    | p _=>simp [pF,q] at hj
    | o k xs=>simp [pF,q] at hj;subst hj;exact ⟨k,xs,q⟩
theorem nD {B:SO->Prop} {H:Hp} {S:St} {E:En} {r:R} {v:V} {t:T} (re:RE K B H S E) (rr:RR K B H S E r v) (e:vl E r=some t) (O:SO->Prop) (hO:∀b,O b->Ow B S E b) (hu:∀j∈pF E r,∀a,S[j]? = some (some (.ref a))->¬O a):Rp K H O t v:=by
 cases r with
 | p u=>cases e;exact Rp.step (Kp.less hO) rr
 | s j=>
  have fi:S[j]? = some (some v):=rr;cases q:E[j]? with
  | none=>simp only [vl,q] at e;cases e
  | some u=>
   cases u with
   | none=>simp only [vl,q] at e;cases e
   | some u=>
    cases u with
    | p u=>
     simp only [vl,q] at e;cases e;obtain ⟨w,h1,h2⟩:=re.pure j _ q;rw [fi] at h1;cases h1;exact h2.step (Kp.less hO)
    | o k xs=>
     simp only [vl,q] at e;cases e;obtain ⟨a,vs,h1,h2,h3,_⟩:=re.own j k xs q;rw [fi] at h1;cases h1;exact ⟨a,vs,rfl,.inl ⟨hu j (by simp [pF,q]) a fi,.inl h2⟩,h3.step (Kp.less hO)⟩
theorem Fx {p:SO} {xs:List T}:Ey K (FU K p) xs (λH O=>Rp K H O (.lst xs) (.ref p)):=by
 refine ⟨λH H' O O' k h=>Rp.step k h,λi H O h hi=>?_,λi H O x H' t h e _ y=>?_,λH O h=>?_⟩
 ·obtain ⟨a,vs,e,sq,rs⟩:=h.sqL;cases e;exact ⟨vs,vs[i]'(by rw [rs.length];exact hi),sq,KS _⟩
 ·obtain ⟨e1,y⟩:=y;subst e1;obtain ⟨a,vs,e2,sq,rs⟩:=h.sqL;cases e2;obtain ⟨v,h1,h2⟩:=rs.get e;rw [y vs sq] at h1;cases h1;exact ⟨Kp.refl _ _,λ_ _ z=>z,h2⟩
 ·obtain ⟨a,vs,e,sq,rs⟩:=h.sqL;cases e;exact ⟨vs,sq,by rw [rs.length];exact LF _⟩
theorem Qs {p:SO} {xs:List T}:Ey K (GC K p) xs (λH O=>Rp K H O (.tup xs) (.ref p)):=by
 refine ⟨λH H' O O' k h=>Rp.step k h,λi H O h hi=>?_,λi H O x H' t h e _ y=>?_,λH O h=>?_⟩
 ·obtain ⟨a,vs,e,sq,rs⟩:=h.sqT;cases e;exact ⟨vs,vs[i]'(by rw [rs.length];exact hi),sq,KS _⟩
 ·obtain ⟨e1,y⟩:=y;subst e1;obtain ⟨a,vs,e2,sq,rs⟩:=h.sqT;cases e2;obtain ⟨v,h1,h2⟩:=rs.get e;rw [y vs sq] at h1;cases h1;exact ⟨Kp.refl _ _,λ_ _ z=>z,h2⟩
 ·obtain ⟨a,vs,e,sq,rs⟩:=h.sqT;cases e;exact ⟨vs,sq,by rw [rs.length];exact LF _⟩
def kP (lo:Int) (n:Nat):List T:=(MV n).map λ(i:Nat)=>T.int (lo+(i:Int))
theorem Z9 {lo:Int} {n:Nat}:Ey K (CS lo n) (kP lo n) (λ_ _=>True):=by
 refine ⟨λ_ _ _ _ _ h=>h,λi H O _ hi=>by show i<n;simpa [kP] using hi,λi H O x H' t _ e _ y=>?_,λH O _=>by simp [CS,kP]⟩;obtain ⟨e1,y⟩:=y;subst e1;subst y;unfold kP at e;rw [LK] at e;have hi:i<n:=by
  rcases NZ i n with c | c
  ·exact c
  ·rw [OD (by simpa using c)] at e;cases e
 rw [PR hi] at e;cases e;exact ⟨Kp.refl _ _,λ_ _ z=>z,rfl⟩
theorem V4 {p:SO} {xs:List T}:Ey K (GU K p) (xs.zipIdx.map λq=>T.tup [.int (q.2:Int),q.1]) (λH O=>Rp K H O (.lst xs) (.ref p)):=by
 refine ⟨λH H' O O' k h=>Rp.step k h,λi H O h hi=>?_,λi H O x H' t h e hO y=>?_,λH O h=>?_⟩
 ·obtain ⟨a,vs,e,sq,rs⟩:=h.sqL;cases e;have gc:i<xs.length:=by simpa using hi
  exact ⟨vs,vs[i]'(by rw [rs.length];exact gc),sq,KS _⟩
 ·obtain ⟨pp,w,e1,hp,e2,y⟩:=y;subst e1;subst e2;obtain ⟨a,vs,e3,sq,rs⟩:=h.sqL;cases e3;rw [LK] at e;cases q:xs.zipIdx[i]? with
  | none=>rw [q] at e;cases e
  | some z=>
   rw [q] at e;cases e;obtain ⟨q1,q2⟩:=KU.mp q;have q1':i<xs.length:=by simpa using q1
   rw [List.getElem_zipIdx] at q2;subst q2;obtain ⟨v,h1,h2⟩:=rs.get (KS q1');rw [y vs sq] at h1;cases h1;have k:Kp O O H (upd H pp (.tup [.int (i:Int),w])):=Kp.upd hp;refine ⟨k,λb o z=>by rw [a8 (a9 z hp)];exact z,pp,_,rfl,.inl ⟨λz=>hO pp z hp,c8⟩,_,_,rfl,?_,w,[],rfl,h2.step k,rfl⟩;simp [Rp]
 ·obtain ⟨a,vs,e,sq,rs⟩:=h.sqL;cases e;exact ⟨vs,sq,by simp [rs.length]⟩
def iL (Fa:FE):FI:=λE Q=>Fa E λr E1=>match vl E1 r with
 | some (.lst xs)=>Q xs (pF E1 r) E1
 | _=>False
def iT (Fa:FE):FI:=λE Q=>Fa E λr E1=>match vl E1 r with
 | some (.tup xs)=>Q xs [] E1
 | _=>False
theorem d9 {tg l:Expr} (eK:X.K=K) (hl:QE X l (aM K Fa)):QI X tg l (lZ K (iL Fa)):=by
 subst eK;refine (Js hl).le λσ H R hn ⟨B,S,E,Q',hS,re,hF,lk⟩=>⟨B,S,E,_,hS,re,hF,λr E1 v H1 S1 q g VQ rr=>?_⟩;split at q
 ·rename_i xs e1;obtain ⟨a,vs,e2,sq,rs⟩:=VQ.vl rr e1;exact ⟨a,e2,⟨vs,sq⟩,lk _ _ _ _ _ _ _ q g VQ Fx sA λO h1 h2=>by rw [<-e2];exact nD VQ rr e1 O h1 h2⟩
 ·exact q.elim
theorem zB {tg l:Expr} (eK:X.K=K) (hl:QE X l (aM K Fa)):QI X tg l (lZ K (iT Fa)):=by
 subst eK;refine (Y3 hl).le λσ H R hn ⟨B,S,E,Q',hS,re,hF,lk⟩=>⟨B,S,E,_,hS,re,hF,λr E1 v H1 S1 q g VQ rr=>?_⟩;split at q
 ·rename_i xs e1;obtain ⟨a,vs,e2,sq,rs⟩:=VQ.vl rr e1;refine ⟨a,e2,⟨vs,sq⟩,lk _ _ _ _ _ _ _ q g VQ Qs (λj hj=>absurd hj (by simp)) λO h1 h2=>?_⟩;rw [<-e2];refine nD VQ rr e1 O h1 λj hj=>?_;cases r with
  | p _=>simp [pF] at hj
  | s m=>
   cases q2:E1[m]? with
   | none=>simp only [vl,q2] at e1;cases e1
   | some u=>
    cases u with
    | none=>simp only [vl,q2] at e1;cases e1
    | some u=>
     cases u with
     | p u=>simp [pF,q2] at hj
     | o k ys=>simp only [vl,q2] at e1;cases e1
 ·exact q.elim
def JZ (Fr:FA):FI:=λE Q=>Fr E λrs E1=>match rs with
 | [x]=>i1 (vl E1 x) λj=>(-(2^62)<=j/\j<2^62)/\Q (kP 0 j.toNat) [] E1
 | _=>False
theorem gU {n:Nat} {tg:Expr} {p:Pos} (hg:Gl X "range") (hm:X.mg "range" = none) (ha:QA X [a] (dS K n Fr)) (hs:cC a=false:=by rfl):QI X tg (.Call (.Name "range" p) [a] [] pos) (lZ K (JZ Fr)):=by
 refine (Oh hg hm ha hs).le λσ H R hn ⟨B,S,E,Q',hS,re,hF,lk⟩=>⟨B,S,E,_,hS,re,hF,λrs E1 vs H1 S1 q g VQ rr hn=>?_⟩
 match rs,rr,q with
 | [x],⟨v,ws,e1,h1,h2⟩,q=>
  cases h2;subst e1;obtain ⟨j,e2,c,q⟩:=i1.ex q;exact ⟨j,by rw [VQ.int h1 e2],c.1,c.2,lk _ _ _ _ _ _ _ q g VQ Z9 (λj hj=>absurd hj (by simp)) λ_ _ _=>trivial⟩
 | [],_,q=>exact q.elim
 | _::_::_,_,q=>exact q.elim
def iE (Fr:FA):FI:=λE Q=>Fr E λrs E1=>match rs with
 | [r]=>(match vl E1 r with
  | some (.lst xs)=>Q (xs.zipIdx.map λq=>T.tup [.int (q.2:Int),q.1]) (pF E1 r) E1
  | _=>False)
 | _=>False
theorem mK {n:Nat} {p WZ:Pos} {elts:List Expr} {x1} (eK:X.K=K) (hg:Gl X "enumerate") (hm:X.mg "enumerate" = none) (ha:QA X [a] (dS K n Fr)) (hs:cC a=false:=by rfl):QI X (.Tuple elts x1 WZ) (.Call (.Name "enumerate" p) [a] [] pos) (lZ K (iE Fr)):=by
 subst eK;refine (Xn hg hm ha hs).le λσ H R hn ⟨B,S,E,Q',hS,re,hF,lk⟩=>⟨B,S,E,_,hS,re,hF,λrs E1 vs H1 S1 q g VQ rr hn=>?_⟩
 match rs,rr,q with
 | [r],⟨v,ws,e1,h1,h2⟩,q=>
  cases h2;subst e1;simp only at q;split at q
  ·rename_i xs e1;obtain ⟨a,vs,e2,sq,rs⟩:=VQ.vl h1 e1;exact ⟨a,by rw [e2],⟨vs,sq⟩,lk _ _ _ _ _ _ _ q g VQ V4 sA λO k1 k2=>by rw [<-e2];exact nD VQ h1 e1 O k1 k2⟩
  ·exact q.elim
 | [],_,q=>exact q.elim
 | _::_::_,_,q=>exact q.elim
end
end L2
namespace L2
open PySem PySem.Spec PyProof.Rows
mutual
def noL:T->Bool
 | .lst _=>false
 | .tup xs=>dN xs
 | _=>true
def dN:List T->Bool
 | []=>true
 | x::xs=>noL x&&dN xs
end
def dF (H:Hp) (a:SO):Prop:=∃ws,H a=some (.lst ws)
section
variable {K:W.Frag} {H:Hp} {O O':SO->Prop}
mutual
theorem Rp.noL (hO:∀a,O' a->dF H a):∀{t:T} {v:V},L2.noL t=true->Rp K H O t v->Rp K H O' t v
 | .non,_,_,h=>h
 | .bl _,_,_,h=>h
 | .int _,_,_,h=>h
 | .str _,_,_,h=>h
 | .lst _,_,e,_=>by simp [L2.noL] at e
 | .tup xs,v,e,h=>by
  obtain ⟨a,vs,e1,h1,h2⟩:=h;refine ⟨a,vs,e1,h1.imp (λ⟨_,h⟩=>⟨λz=>?_,h⟩) id,cS.noL hO (by simpa [L2.noL] using e) h2⟩;obtain ⟨ws,q⟩:=hO a z;rw [h] at q;cases q
theorem cS.noL (hO:∀a,O' a->dF H a):∀{xs:List T} {vs:List V},dN xs=true->cS K H O xs vs->cS K H O' xs vs
 | [],_,_,h=>h
 | x::xs,vs,e,h=>by
  obtain ⟨v,r,e1,h1,h2⟩:=h;have e':L2.noL x=true/\dN xs=true:=by simpa [dN] using e
  exact ⟨v,r,e1,Rp.noL hO e'.1 h1,cS.noL hO e'.2 h2⟩
end
end
section
variable {K:W.Frag} {B:SO->Prop} {H H':Hp} {S S':St} {E E':En} {σ:St}
theorem RE.push (re:RE K B H' S E) {a:SO} {ts:List T} {vs:List V} (ha:H' a=some (.lst vs)) (hn:¬Ow B S E a) (hb:¬B a)
  (hp:∀(i:Nat) (t:T),E[i]? = some (some (.p t))->∃v,S[i]? = some (some v)/\Rp K H' (λb=>Ow B S E b\/b=a) t v)
  (ho:∀(i:Nat) (k:Bool) (xs:List T),E[i]? = some (some (.o k xs))->∃b ws,S[i]? = some (some (.ref b))/\H' b=some (.lst ws)/\cS K H' (λb=>Ow B S E b\/b=a) xs ws)
  (h:cS K H' (λb=>Ow B S E b\/b=a) ts vs) :
  RE K B H' (S++[some (.ref a)]) (E++[some (.o false ts)])/\∀b,Ow B (S++[some (.ref a)]) (E++[some (.o false ts)]) b->Ow B S E b\/b=a:=by
 have gE:∀{i:Nat} {u:U},(E++[some (.o false ts)])[i]? = some (some u)->(E[i]? = some (some u)/\i<E.length)\/(i=E.length/\u = .o false ts):=λ{i u} h=>by
  rcases tT h with ⟨c,h⟩ | ⟨c,h⟩
  ·exact .inl ⟨h,c⟩
  ·exact .inr ⟨c,Option.some.inj h⟩
 have gS:∀{i:Nat} {x:Option V},S[i]? = some x->(S++[some (.ref a)])[i]? = some x:=λ{i x} h=>fH ⟨_,rfl⟩ h;have ZC:∀{i:Nat} {x:Option V},i<E.length->(S++[some (.ref a)])[i]? = some x->S[i]? = some x:=λ{i x} c h=>by
  rw [LW (by rw [re.len];exact c)] at h;exact h
 have lS:(S++[some (.ref a)])[E.length]? = some (some (.ref a)):=by rw [<-re.len];simp
 have ow:∀b,Ow B (S++[some (.ref a)]) (E++[some (.o false ts)]) b->Ow B S E b\/b=a:=λb z=>by
  rcases z with z | ⟨i,k,xs,h1,h2⟩
  ·exact .inl (.inl z)
  rcases gE h1 with ⟨h1,c⟩ | ⟨c,h1⟩
  ·exact .inl (.inr ⟨i,k,xs,h1,ZC c h2⟩)
  ·subst c;rw [lS] at h2;cases h2;exact .inr rfl
 have kl:Kp (λb=>Ow B S E b\/b=a) (Ow B (S++[some (.ref a)]) (E++[some (.o false ts)])) H' H':=Kp.less ow;refine ⟨⟨by simp [re.len],λi t h=>?_,λi l xs h=>?_,λi j l m xs ys b h1 h2 h3 h4=>?_,re.bd⟩,ow⟩
 ·rcases gE h with ⟨h,c⟩ | ⟨c,h⟩
  ·obtain ⟨v,h1,h2⟩:=hp i t h;exact ⟨v,gS h1,h2.step kl⟩
  ·cases h
 ·rcases gE h with ⟨h,c⟩ | ⟨c,h⟩
  ·obtain ⟨b,ws,h1,h2,h3⟩:=ho i l xs h;obtain ⟨b',_,q1,_,_,q4⟩:=re.own i l xs h;rw [h1] at q1;cases q1;exact ⟨b,ws,gS h1,h2,h3.step kl,q4⟩
  ·cases h;subst c;exact ⟨a,vs,lS,ha,cS.step kl (by assumption),⟨λz=>absurd z (by decide),λz=>absurd z hb⟩⟩
 ·rcases gE h1 with ⟨h1,c1⟩ | ⟨c1,h1⟩
  ·rcases gE h2 with ⟨h2,c2⟩ | ⟨c2,h2⟩
   ·exact re.inj i j l m xs ys b h1 h2 (ZC c1 h3) (ZC c2 h4)
   ·subst c2;rw [lS] at h4;cases h4;exact absurd (.inr ⟨i,l,xs,h1,ZC c1 h3⟩) hn
  ·rcases gE h2 with ⟨h2,c2⟩ | ⟨c2,h2⟩
   ·subst c1;rw [lS] at h3;cases h3;exact absurd (.inr ⟨j,m,ys,h2,ZC c2 h4⟩) hn
   ·rw [c1,c2]
theorem RE.pad (re:RE K B H S E) (n:Nat):RE K B H (S++LY n none) (E++LY n none)/\(∀b,Ow B (S++LY n none) (E++LY n none) b->Ow B S E b):=by
 have gE:∀{i:Nat} {u:U},(E++LY n none)[i]? = some (some u)->E[i]? = some (some u)/\i<E.length:=λ{i u} h=>by
  rcases NZ i E.length with c | c
  ·rw [LW c] at h;exact ⟨h,c⟩
  ·rw [MS c] at h;have:=KZ h;rw [List.mem_replicate] at this;cases this.2
 have gS:∀{i:Nat} {x:Option V},S[i]? = some x->(S++LY n none)[i]? = some x:=λ{i x} h=>fH ⟨_,rfl⟩ h;have ZC:∀{i:Nat} {x:Option V},i<E.length->(S++LY n none)[i]? = some x->S[i]? = some x:=λ{i x} c h=>by
  rw [LW (by rw [re.len];exact c)] at h;exact h
 have ow:∀b,Ow B (S++LY n none) (E++LY n none) b->Ow B S E b:=λb z=>z.imp id λ⟨i,k,xs,h1,h2⟩=>⟨i,k,xs,(gE h1).1,ZC (gE h1).2 h2⟩;have kl:Kp (Ow B S E) (Ow B (S++LY n none) (E++LY n none)) H H:=Kp.less ow;refine ⟨⟨by simp [re.len],λi t h=>?_,λi l xs h=>?_,λi j l m xs ys b h1 h2 h3 h4=>?_,re.bd⟩,ow⟩
 ·obtain ⟨v,h1,h2⟩:=re.pure i t (gE h).1;exact ⟨v,gS h1,h2.step kl⟩
 ·obtain ⟨b,ws,h1,h2,h3,h4⟩:=re.own i l xs (gE h).1;exact ⟨b,ws,gS h1,h2,h3.step kl,h4⟩
 ·exact re.inj i j l m xs ys b (gE h1).1 (gE h2).1 (ZC (gE h1).2 h3) (ZC (gE h2).2 h4)
end
inductive A where
 | v (t:T) | b (xs:List T)
inductive RV where
 | v (t:T) | l (xs:List T)
abbrev iC:=List A->(RV->List T->Prop)->Prop
def qZ:List A->En
 | []=>[]
 | .v t::r=>some (.p t)::qZ r
 | .b xs::r=>some (.o true xs)::qZ r
theorem kU:∀{as:List A},(qZ as).length=as.length
 | []=>rfl
 | .v t::r=>by simp [qZ,kU (as:=r)]
 | .b t::r=>by simp [qZ,kU (as:=r)]
def Bo:List A->Option Nat
 | []=>none
 | .b _::_=>some 0
 | .v _::r=>(Bo r).map (· + 1)
def GK (K:W.Frag) (H H':Hp):RV->V->Prop
 | .v t,v=>Rp K H' (dF H) t v
 | .l xs,v=>∃a ws,v = .ref a/\H a=none/\H' a=some (.lst ws)/\cS K H' (λb=>dF H b\/b=a) xs ws
def aU (K:W.Frag) (S:iC):Sp:=λvs H Q _=>∃(as:List A) (Q':RV->List T->Prop) (bx:Option SO),RE K (λa=>bx=some a) H (vs.map some) (qZ as)/\(Bo as=none->bx=none)/\S as Q'/\
 ∀r xs v H',Q' r xs->(∀b o,H b=some o->bx≠some b->H' b=some o)->(∀a,bx=some a->∃ws,H' a=some (.lst ws)/\cS K H' (dF H') xs ws)->GK K H H' r v->Q v H'
def Md (as:List A) (E:En):Option (List T):=match Bo as with
 | none=>some []
 | some j=>match E[j]? with
  | some (some (.o true xs))=>if dN xs=true then some xs else none
  | _=>none
def HZ (as:List A) (Q:RV->List T->Prop):ET where
 nx:=λE=>o1 (Md as E) λxs=>Q (.v .non) xs
 rt:=λr E=>o1 (Md as E) λxs=>match r with
  | .p t=>noL t=true/\Q (.v t) xs
  | .s i=>match E[i]? with
   | some (some (.o false ys))=>dN ys=true/\Q (.l ys) xs
   | some (some (.p t))=>noL t=true/\Q (.v t) xs
   | _=>False
theorem Sj:∀{as:List A} {j:Nat} {k:Bool} {xs:List T},(qZ as)[j]? = some (some (.o k xs))->k=true
 | [],j,_,_,h=>by simp [qZ] at h
 | .b _::_,0,_,_,h=>by simp [qZ] at h;exact h.1
 | .v _::_,0,_,_,h=>by simp [qZ] at h
 | .b _::r,j+1,_,_,h=>Sj (as:=r) (j:=j) (by simpa [qZ] using h)
 | .v _::r,j+1,_,_,h=>Sj (as:=r) (j:=j) (by simpa [qZ] using h)
section
variable {P:SS} {w:SW} {K:W.Frag} {mg:Str->Option Value} {base:Heap}
theorem eM.okT {x qual:Str} {st:TB} {f:SO} {fd:SR} {N ps:List Str} {k:Nat} {S:iC} {F:FS} (Fn:eM K x qual st f fd) (Sc:aL N ps (aG st)) (len:∀as Q,S as Q->as.length=ps.length)
  (hb:∀(VS:Value) (A:Around) (outer:List Env) (s:Shared) (H:Hp) (E:XK),dW k (A.deeper (UZ qual (aG st) s.heap.objs.size f VS))->QB (Cn e9 P w K mg base N qual (aG st) f VS A outer s H E).nox (dZ st) (iA K F))
  (hF:∀as Q,S as Q->F (HZ as Q) (qZ as++LY (N.length-as.length) none)):bF P w K mg base e9 (k+1) f fd ps (aU K S):=by
 refine Fn.okQ Sc (λvs H Q E ⟨as,Q',bx,re,hbn,hS,l⟩=>?_) (λVS A outer s H vs Q E hr ⟨as,Q',bx,re,hbn,hS,l⟩=>?_)
 ·have:=re.len;rw [KW,kU] at this;rw [this];exact len as Q' hS
 have hl:vs.length=as.length:=by have:=re.len;rwa [KW,kU] at this
 refine ⟨_,hb VS A outer s H E hr,?_⟩;obtain ⟨re0,jr⟩:=re.pad (N.length-as.length);have ft:lN N vs=vs.map some++LY (N.length-as.length) none:=by unfold lN;rw [hl]
 rw [ft]
 -- the box's address
 have tm:∀b,Ow (λa=>bx=some a) (vs.map some) (qZ as) b->bx=some b:=λb z=>by
  rcases z with z | ⟨i,kk,xs,h1,h2⟩
  ·exact z
  obtain ⟨a,ws,q1,_,_,q4⟩:=re.own i kk xs h1;rw [h2] at q1;cases q1;exact q4.mp (Sj h1)
 have fr:∀{H':Hp} {S':St} {E':En},Gs (λa=>bx=some a) H (vs.map some++LY (N.length-as.length) none) (qZ as++LY (N.length-as.length) none) H' S' E'->∀b o,H b=some o->bx≠some b->H' b=some o:=λg b o h n=>g.keep b o h λz=>n (tm b (jr b z));have fin:∀{r:RV} {xs:List T} {v:V} {H':Hp} {S':St} {E':En},Md as E'=some xs->Q' r xs->Gs (λa=>bx=some a) H (vs.map some++LY (N.length-as.length) none) (qZ as++LY (N.length-as.length) none) H' S' E'->RE K (λa=>bx=some a) H' S' E'->
   ((∀a,dF H a->dF H' a)->GK K H H' r v)->Q v H':=λ{r xs v H' S' E'} e q g VN hr=>by
  have cg:∀a,bx=some a->∃ws,H' a=some (.lst ws)/\cS K H' (dF H') xs ws:=λa ha=>by
   unfold Md at e;cases qb:Bo as with
   | none=>
    rw [qb] at e;cases e;rw [hbn qb] at ha;cases ha
   | some j=>
    rw [qb] at e;simp only at e;split at e
    ·rename_i ys hE;split at e
     ·cases e;rename_i xy;obtain ⟨b,ws,h1,h2,h3,h4⟩:=VN.own j true xs hE;have:bx=some b:=h4.mp rfl;rw [ha] at this;cases this;exact ⟨ws,h2,cS.noL (λ_ z=>z) xy h3⟩
     ·cases e
    ·cases e
  refine l r xs v H' q (fr g) cg (hr λa ⟨ws,ha⟩=>?_)
  by_cases c:bx=some a
  ·obtain ⟨fh,h,_⟩:=cg a c;exact ⟨fh,h⟩
  ·exact ⟨ws,fr g a _ ha c⟩
 refine ⟨_,_,_,re0,hF as Q' hS,⟨λσ' H' E' q g VN=>?_,λr E' v H' S' q g VN rr=>?_,λ_ _ _ z=>z.elim,λ_ _ _ z=>z.elim⟩⟩
 ·obtain ⟨xs,e,q⟩:=q.ex;exact fin e q g VN λ_=>rfl
 ·obtain ⟨xs,e,q⟩:=q.ex;cases r with
  | p t=>exact fin e q.2 g VN λh=>Rp.noL h q.1 rr
  | s i=>
   simp only at q;split at q
   ·rename_i ys hE;refine fin e q.2 g VN λh=>?_;obtain ⟨b,ws,h1,h2,h3,h4⟩:=VN.own i false ys hE;have fi:S'[i]? = some (some v):=rr;rw [fi] at h1;cases h1;refine ⟨b,ws,rfl,?_,h2,cS.noL (λa z=>?_) q.1 h3⟩
    ·rcases g.new b (.inr ⟨i,false,ys,hE,fi⟩) with z | z
     ·have:=h4.mpr (tm b (jr b z));cases this
     ·exact z
    ·rcases z with z | z
     ·exact h a z
     ·exact ⟨ws,by rw [z];exact h2⟩
   ·rename_i t hE;obtain ⟨w,h1,h2⟩:=VN.pure i t hE;have fi:S'[i]? = some (some v):=rr;rw [fi] at h1;cases h1;exact fin e q.2 g VN λh=>Rp.noL h q.1 h2
   ·exact q.elim
end
def D4 (E:En):List R->Option (List T)
 | []=>some []
 | r::rs=>match vl E r,D4 E rs with
  | some t,some ts=>some (t::ts)
  | _,_=>none
def Xh (E:En) (Q:R->En->Prop):RV->Prop
 | .v t=>Q (.p t) E
 | .l xs=>Q (.s E.length) (E++[some (.o false xs)])
def Pz (S:iC) (Fr:FA):FE:=λE Q=>Fr E λrs E1=>o1 (D4 E1 rs) λts=>S (ts.map A.v) λr _=>Xh E1 Q r
def R9 (S:iC) (Fr:FA):FE:=λE Q=>Fr E λrs E1=>match rs with
 | .s j::rs=>(match E1[j]? with
  | some (some (.o k xs))=>cond (rs.all λr=>!(pF E1 r).contains j) (o1 (D4 E1 rs) λts=>S (.b xs::ts.map A.v) λr ys=>Xh (E1.set j (some (.o k ys))) Q r) False
  | _=>False)
 | _=>False
section
variable {K:W.Frag} {B:SO->Prop} {H H':Hp} {S S':St} {E E':En} {σ:St}
theorem He (re:RE K B H S E):∀{rs:List R} {vs:List V} {ts:List T},Ph K B H S E rs vs->D4 E rs=some ts->∀(O:SO->Prop),(∀b,O b->Ow B S E b)->(∀r∈rs,∀j∈pF E r,∀a,S[j]? = some (some (.ref a))->¬O a)->cS K H O ts vs
 | [],_,_,h,e,_,_,_=>by cases e;exact h
 | r::rs,_,ts,⟨v,ws,e1,h1,h2⟩,e,O,hO,hu=>by
  cases q1:vl E r with
  | none=>simp only [D4,q1] at e;cases e
  | some t=>
   cases q2:D4 E rs with
   | none=>simp only [D4,q1,q2] at e;cases e
   | some us=>
    simp only [D4,q1,q2] at e;cases e;exact ⟨v,ws,e1,nD re h1 q1 O hO (hu r (by simp)),He re h2 q2 O hO λr' hr=>hu r' (by simp [hr])⟩
theorem Rj:∀{ts:List T},qZ (ts.map A.v)=ts.map λt=>some (U.p t)
 | []=>rfl
 | t::ts=>by simp [qZ,Rj (ts:=ts)]
theorem zI (re:RE K B H S E) (VN:RE K B H' S E') (hk:∀b o,H b=some o->¬Ow B S E b->H' b=some o) (hw:∀b,Ow B S E' b->Ow B S E b)
  (hE:∀(i:Nat) (k:Bool) (xs:List T),E'[i]? = some (some (.o k xs))->(E[i]? = some (some (.o k xs))/\∀a,S[i]? = some (some (.ref a))->H' a=H a)\/∀a ws,S[i]? = some (some (.ref a))->H' a=some (.lst ws)->cS K H' (dF H') xs ws)
  (hP:∀(i:Nat) (t:T),E'[i]? = some (some (.p t))->E[i]? = some (some (.p t)))
  {r:RV} {v:V} (rv:GK K H H' r v) {Q:R->En->Prop} (q:Xh E' Q r) {Qv:VK} (lk:Lk K B H S E Q Qv):Qv v H':=by
 have kp:Kp (Ow B S E) (Ow B S E') H H':=⟨hk,λb z=>.inl (hw b z)⟩;cases r with
 | v t=>exact lk _ _ _ _ _ q ⟨kp,[],by simp⟩ VN (Rp.step (Kp.less λb z=>re.ow (hw b z)) rv)
 | l xs=>
  obtain ⟨a,ws,rfl,h1,h2,h3⟩:=rv;have nOw:¬Ow B S E' a:=λz=>re.nn h1 (hw a z);have nB:¬B a:=λz=>re.nn h1 (.inl z);have kp2:Kp (Ow B S E) (λb=>Ow B S E' b\/b=a) H H':=⟨hk,λb z=>by
   rcases z with z | z
   ·exact .inl (hw b z)
   ·exact .inr (by rw [z];exact h1)⟩
  obtain ⟨r1,r2⟩:=VN.push h2 nOw nB (λi t h=>by
    obtain ⟨w,q1,q2⟩:=re.pure i t (hP i t h);exact ⟨w,q1,q2.step kp2⟩) (λi k ys h=>by
    obtain ⟨b,us,q1,q2,q3,_⟩:=VN.own i k ys h;refine ⟨b,us,q1,q2,?_⟩;rcases hE i k ys h with ⟨z,zz⟩ | z
    ·obtain ⟨b',ZS,p1,p2,p3,_⟩:=re.own i k ys z;rw [q1] at p1;cases p1;have e:=zz b q1;rw [q2,p2] at e;cases e;exact p3.step kp2
    ·exact (z b us q1 q2).step (Kp.less λc hc=>by
      rcases hc with hc | hc
      ·exact VN.ow hc
      ·exact ⟨ws,by rw [hc];exact h2⟩)) (h3.step (Kp.less λb z=>by
    rcases z with z | z
    ·exact .inl (re.ow (hw b z))
    ·exact .inr z))
  refine lk _ _ _ _ _ q ⟨⟨hk,λb z=>?_⟩,[some (.ref a)],rfl⟩ r1 ?_
  ·rcases r2 b z with z | z
   ·exact .inl (hw b z)
   ·exact .inr (by rw [z];exact h1)
  ·show (S++[some (V.ref a)])[E'.length]? = _;rw [<-VN.len];simp
end
section
variable {X:Cx} {K:W.Frag} {pos:Pos} {e:Expr} {es:List Expr} {Fr:FA}
theorem Sm {n:Nat} {S:iC} {σ:St} {H:Hp} {Q:VK} (h:aM K (Pz S Fr) σ H Q):Dd (aU K S) [] E0 (dS K n Fr) σ H Q:=by
 refine args (Fr:=Fr) h λB S' E rs vs H2 Q' hS re rr hn q lk=>?_;obtain ⟨ts,e1,q⟩:=q.ex;rw [LZ];have rp:=He re rr e1 (λ_=>False) (λ_ z=>z.elim) (λ_ _ _ _ _ _ z=>z);have no:∀b,¬Ow (λa=>(none:Option SO)=some a) (vs.map some) (ts.map λt=>some (U.p t)) b:=λb z=>by
  rcases z with z | ⟨i,k,xs,h1,_⟩
  ·cases z
  rw [LK] at h1;cases q:ts[i]? with
  | none=>rw [q] at h1;cases h1
  | some t=>rw [q] at h1;cases h1
 refine ⟨ts.map A.v,_,none,?_,λ_=>rfl,q,λr xs v H' q2 fr _ rv=>?_⟩
 ·rw [Rj];refine ⟨by simp [rp.length],λi t h=>?_,λi k xs h=>?_,λi j k l xs ys a h _ _ _=>?_,λa z=>by cases z⟩
  ·rw [LK] at h;cases q:ts[i]? with
   | none=>rw [q] at h;cases h
   | some u=>
    rw [q] at h;cases h;obtain ⟨v,h1,h2⟩:=rp.get q;exact ⟨v,by rw [LK,h1];rfl,h2.step (Kp.less λb z=>no b z)⟩
  ·rw [LK] at h;cases q:ts[i]? with
   | none=>rw [q] at h;cases h
   | some t=>rw [q] at h;cases h
  ·rw [LK] at h;cases q:ts[i]? with
   | none=>rw [q] at h;cases h
   | some t=>rw [q] at h;cases h
 ·have same:∀b o,H2 b=some o->H' b=some o:=λb o z=>fr b o z (by intro z;cases z);exact zI re (re.kept same) (λb o z _=>same b o z) (λb z=>z) (λi k xs h=>.inl ⟨h,λa ha=>by
   obtain ⟨a',ws,h1,h2,_⟩:=re.own i k xs h;rw [ha] at h1;cases h1;rw [h2];exact same _ _ h2⟩) (λi t h=>h) rv q2 lk
theorem aC {n k j:Nat} {x:Str} {ps:List Str} {S:iC} {p:Pos} (F:Fn X.prog X.w X.K X.mg X.base k x ps (aU K S)) (hr:dW j X.A) (hk:k<=j) (hg:Gl X x) (ha:QA X (e::es) (dS K n Fr)) (YK:(x==("__debug__":Str))=false:=by decide)
  (hs:bM (e::es)=true:=by rfl):QE X (.Call (.Name x p) (e::es) [] pos) (aM K (Pz S Fr)):=(Qr F hr hk hg ha YK hs).le λ_ _ _ _ h=>Sm h
theorem cI {n k j:Nat} {x:Str} {ps:List Str} {S:iC} {p:Pos} (F:Fn X.prog X.w X.K X.mg X.base k x ps (aU K S)) (hr:dW j X.A) (hk:k<=j) (hg:Gl X x) (ha:QA X (e::es) (dS K n Fr)) (YK:(x==("__debug__":Str))=false:=by decide)
  (hs:bM (e::es)=true:=by rfl):QE X (.Call (.Name x p) (e::es) [] pos) (aM K (R9 S Fr)):=by
 refine (Qr F hr hk hg ha YK hs).le λσ H Q hl h=>args (Fr:=Fr) h λB S' E rs vs H2 Q' hS re rr hn q lk=>?_;rw [LZ];split at q
 ·rename_i jb jt;split at q
  ·rename_i kb xs hE;cases qc:(jt.all λr=>!(pF E r).contains jb) with
   | false=>rw [qc] at q;exact q.elim
   | true=>
    rw [qc] at q;obtain ⟨ts,e1,q⟩:=o1.ex q;obtain ⟨v0,ws,e2,h0,h2⟩:=rr;subst e2;have kx:S'[jb]? = some (some v0):=h0;obtain ⟨a0,us,k1,k2,k3,k4⟩:=re.own jb kb xs hE;rw [kx] at k1;cases k1;have jr:Ow B S' E a0:=.inr ⟨jb,kb,xs,hE,kx⟩;have rp:=He re h2 e1 (λb=>b=a0) (λb z=>by rw [z];exact jr) (λr hr m hm a hma z=>by
     subst z;have c:=MW.mp qc r hr;have:m=jb:=by
      cases r with
      | p _=>simp [pF] at hm
      | s l=>
       cases ql:E[l]? with
       | none=>simp [pF,ql] at hm
       | some u=>
        cases u with
        | none=>simp [pF,ql] at hm
        | some u=>
         cases u with
         | p _=>simp [pF,ql] at hm
         | o kk zs=>
          simp [pF,ql] at hm;subst hm;exact re.inj _ _ kk kb zs xs a ql hE hma kx
     subst this;have hc:(pF E r).contains m=true:=by simpa using hm
     rw [hc] at c;cases c)
    have get:∀{i:Nat} {u:U},(some (U.o true xs)::ts.map λt=>some (U.p t))[i]? = some (some u)->(i=0/\u = .o true xs)\/∃m t,i=m+1/\ts[m]? = some t/\u = .p t:=λ{i u} h=>by
     cases i with
     | zero=>simp at h;exact .inl ⟨rfl,h.symm⟩
     | succ m=>
      rw [List.getElem?_cons_succ,LK] at h;cases q:ts[m]? with
      | none=>rw [q] at h;cases h
      | some t=>rw [q] at h;cases h;exact .inr ⟨m,t,rfl,q,rfl⟩
    have ow:∀b,Ow (λa=>some a0=some a) ((V.ref a0::ws).map some) (some (U.o true xs)::ts.map λt=>some (U.p t)) b->b=a0:=λb z=>by
     rcases z with z | ⟨i,k,ys,h1,h3⟩
     ·cases z;rfl
     rcases get h1 with ⟨c,z⟩ | ⟨m,t,_,_,z⟩
     ·subst c;simp at h3;exact h3.symm
     ·cases z
    have nb:Bo (A.b xs::ts.map A.v)≠none:=by intro z;cases z
    refine ⟨A.b xs::ts.map A.v,_,some a0,?_,λz=>absurd z nb,q,λr ys v H' q2 fr bxk rv=>?_⟩
    ·have ee:qZ (A.b xs::ts.map A.v)=some (U.o true xs)::ts.map λt=>some (U.p t):=by simp [qZ,Rj]
     rw [ee];refine ⟨by simp [rp.length],λi t h=>?_,λi k zs h=>?_,λi j k l zs ys a h1 h3 _ _=>?_,λa z=>by cases z;exact ⟨us,k2⟩⟩
     ·rcases get h with ⟨_,z⟩ | ⟨m,t',e,q3,z⟩
      ·cases z
      ·cases z;subst e;obtain ⟨v,h1,h2⟩:=rp.get q3;exact ⟨v,by simp [h1],h2.step (Kp.less λb z=>ow b z)⟩
     ·rcases get h with ⟨c,z⟩ | ⟨m,t',e,q3,z⟩
      ·cases z;subst c;exact ⟨a0,us,by simp,k2,k3.step (Kp.less λb z=>by rw [ow b z];exact jr),⟨λ_=>rfl,λ_=>rfl⟩⟩
      ·cases z
     ·rcases get h1 with ⟨c,z⟩ | ⟨m,t',e,q3,z⟩
      ·rcases get h3 with ⟨c',z'⟩ | ⟨m,t',e,q3,z'⟩
       ·rw [c,c']
       ·cases z'
      ·cases z
    ·obtain ⟨fh,b1,b2⟩:=bxk a0 rfl;have hk:∀b o,H2 b=some o->¬Ow B S' E b->H' b=some o:=λb o z n=>fr b o z (by intro c;cases c;exact n jr);have tq:∀b,Ow B S' E b->dF H' b:=λb z=>by
      by_cases c:b=a0
      ·subst c;exact ⟨fh,b1⟩
      ·obtain ⟨ZS,e⟩:=re.ow z;exact ⟨ZS,fr b _ e (by intro z;cases z;exact c rfl)⟩
     have YN:∀{i:Nat} {u:U},(E.set jb (some (.o kb ys)))[i]? = some (some u)->(i=jb/\u = .o kb ys)\/(i≠jb/\E[i]? = some (some u)):=λ{i u} h=>by
      by_cases c:i=jb
      ·subst c;rw [MR (KU.mp hE).1] at h;cases h;exact .inl ⟨rfl,rfl⟩
      ·rw [MB (λz=>c z.symm)] at h;exact .inr ⟨c,h⟩
     have kp:Kp (Ow B S' E) (Ow B S' E) H2 H':=⟨hk,λb z=>.inl z⟩;have ya:∀b,Ow B S' (E.set jb (some (.o kb ys))) b->Ow B S' E b:=λb z=>by
      rcases z with z | ⟨i,k,zs,z1,z2⟩
      ·exact .inl z
      rcases YN z1 with ⟨c,z⟩ | ⟨c,z⟩
      ·subst c;exact .inr ⟨_,kb,xs,hE,z2⟩
      ·exact .inr ⟨i,k,zs,z,z2⟩
     have VN:RE K B H' S' (E.set jb (some (.o kb ys))):=by
      refine re.step hk (by simp) (λi t h=>?_) (λi k zs h=>?_) (λa z=>?_)
      ·rcases YN h with ⟨_,z⟩ | ⟨_,z⟩
       ·cases z
       ·exact z
      ·rcases YN h with ⟨c,z⟩ | ⟨c,z⟩
       ·cases z;subst c;refine ⟨xs,hE,λa ha=>?_⟩;rw [kx] at ha;cases ha;exact ⟨fh,b1,b2.step (Kp.less tq)⟩
       ·refine ⟨zs,z,λa ha=>?_⟩;obtain ⟨a',ZS,p1,p2,p3,_⟩:=re.own i k zs z;rw [ha] at p1;cases p1;have na:a≠a0:=λw=>c (re.inj i jb k kb zs xs a0 z hE (by rw [<-w];exact ha) kx);exact ⟨ZS,fr a _ p2 (by intro w;cases w;exact na rfl),p3.step kp⟩
      ·exact tq a (.inl z)
     refine zI re VN hk ya (λi k zs h=>?_) (λi t h=>?_) rv q2 lk
     ·rcases YN h with ⟨c,z⟩ | ⟨c,z⟩
      ·cases z
       right
       intro a us2 ha hu;subst c;rw [kx] at ha;cases ha;rw [b1] at hu;cases hu;exact b2
      ·left
       refine ⟨z,λa ha=>?_⟩;obtain ⟨a',ZS,p1,p2,p3,_⟩:=re.own i k zs z;rw [ha] at p1;cases p1;have na:a≠a0:=λw=>c (re.inj i jb k kb zs xs a0 z hE (by rw [<-w];exact ha) kx);rw [p2];exact fr a _ p2 (by intro w;cases w;exact na rfl)
     ·rcases YN h with ⟨_,z⟩ | ⟨_,z⟩
      ·cases z
      ·exact z
  ·exact q.elim
 ·exact q.elim
end
end L2
namespace L2
open PySem PySem.Spec PyProof.Rows
def Mz (bk:Bool):Option (Option U)->Option U
 | some (some (.p t))=>some (.p t)
 | some (some (.o _ xs))=>if bk=true then some (.o true xs) else some (.p (.lst xs))
 | _=>none
def oE (t:Nat) (cap:List (Nat×Bool)) (E:En):En:=LY t none++cap.map λk=>Mz k.2 E[k.1]?
def oN:List (Nat×Bool)->Option (Nat×Nat)
 | []=>none
 | (k,true)::_=>some (0,k)
 | (_,false)::r=>(oN r).map λx=>(x.1+1,x.2)
def jZ (cap:List (Nat×Bool)):Bool:=Nat.ble (cap.filter (·.2)).length 1
def Be (t:Nat) (cap:List (Nat×Bool)) (fj E:En):Option En:=match oN cap with
 | none=>some E
 | some (j,k)=>match E[k]?,fj[t+j]? with
  | some (some (.o b _)),some (some (.o true ys))=>if dN ys=true then some (E.set k (some (.o b ys))) else none
  | some (some (.p _)),_=>some E
  | _,_=>none
def iH (g:FG) (Fe:FE):List T->En->(En->Prop)->Prop
 | [],E,Q=>Q E
 | x::xs,E,Q=>g x E λE2=>Fe E2 λr E3=>match r with
  | .p t=>(match E3[E.length-1]? with
   | some (some (.o false acc))=>acc.length<1000/\iH g Fe xs ((E3.set (E.length-1) (some (.o false (acc++[t])))).take E.length) Q
   | _=>False)
  | .s _=>False
def Aw (t:Nat) (cap:List (Nat×Bool)) (I:FI) (g:FG) (Fe:FE):FE:=λE Q=>I E λitems us E1=>cap.all (λk=>!(k.2&&us.contains k.1))=true/\
 iH g Fe items (oE t cap E1++[some (.o false [])]) λfj=>match fj[t+cap.length]? with
  | some (some (.o false zs))=>dN zs=true/\o1 (Be t cap fj E1) λE2=>Q (.s E2.length) (E2++[some (.o false zs)])
  | _=>False
section
variable {K:W.Frag} {B:SO->Prop} {H H':Hp} {S S':St} {E E':En} {σ:St}
theorem Bg {t:Nat} {cap:List (Nat×Bool)} {i:Nat} {u:U} (h:(oE t cap E)[i]? = some (some u)):∃j k b,i=t+j/\cap[j]? = some (k,b)/\Mz b E[k]? = some u:=by
 unfold oE at h;rcases NZ i t with c | c
 ·rw [LW (by simpa using c)] at h;have:=KZ h;rw [List.mem_replicate] at this;cases this.2
 ·rw [MS (by simpa using c),OI,LK] at h;cases q:cap[i-t]? with
  | none=>rw [q] at h;cases h
  | some x=>
   rw [q] at h;exact ⟨i-t,x.1,x.2,by omega,q,by simpa using h⟩
theorem Bq {t:Nat} {cap:List (Nat×Bool)} {j k:Nat} {b:Bool} (h:cap[j]? = some (k,b)):(jC t (cap.map (·.1)) σ)[t+j]? = some ((σ[k]?).join):=by
 unfold jC;rw [MS (by simp)];simp [h]
theorem tS:∀{cap:List (Nat×Bool)} {j k:Nat},oN cap=some (j,k)->cap[j]? = some (k,true)
 | (k,true)::r,_,_,h=>by cases h;rfl
 | (m,false)::r,j,k,h=>by
  cases q:oN r with
  | none=>rw [oN,q] at h;cases h
  | some x=>
   rw [oN,q] at h;cases h
   simpa using tS (j:=x.1) (k:=x.2) q
theorem fL:∀{cap:List (Nat×Bool)} {j k:Nat},jZ cap=true->cap[j]? = some (k,true)->oN cap=some (j,k)
 | [],j,k,_,h=>by simp at h
 | (m,true)::r,0,k,_,h=>by simp at h;subst h;rfl
 | (m,true)::r,j+1,k,ho,h=>by
  have h':r[j]? = some (k,true):=by simpa using h
  have:(k,true)∈r.filter (·.2):=MH.mpr ⟨KZ h',rfl⟩;have hl:0<(r.filter (·.2)).length:=List.length_pos_of_mem this;unfold jZ at ho;rw [NG (by rfl)] at ho;have:=Nat.le_of_ble_eq_true ho;simp only [LJ] at this;omega
 | (m,false)::r,0,k,_,h=>by simp at h
 | (m,false)::r,j+1,k,ho,h=>by
  have h':r[j]? = some (k,true):=by simpa using h
  have YX:jZ r=true:=by
   unfold jZ at ho ⊢;rw [NM (by simp)] at ho;exact ho
  rw [oN,fL YX h'];rfl
end
def JY (i:Nat) (VV:List (Key×V)) (σ:St) (H:Hp):Prop:=∃p,σ[i]? = some (some (.ref p))/\H p=some (.dK VV)
abbrev DD:=Option (Nat×List (Key×V))
def nJ (d:DD) (σ:St) (H:Hp):Prop:=∀x,d=some x->JY x.1 x.2 σ H
theorem nJ.same {d:DD} {σ:St} {H H':Hp} (h:nJ d σ H) (k:∀b o,H b=some o->H' b=some o):nJ d σ H':=λx e=>let ⟨p,h1,h2⟩:=h x e;⟨p,h1,k _ _ h2⟩
theorem nJ.kp {d:DD} {K:W.Frag} {B O:SO->Prop} {S σ:St} {E:En} {H H':Hp} (h:nJ d σ H) (re:RE K B H S E) (k:Kp (Ow B S E) O H H'):nJ d σ H':=λx e=>
 let ⟨p,h1,h2⟩:=h x e;⟨p,h1,k.keep _ _ h2 λz=>by obtain ⟨vs,e⟩:=re.ow z;rw [h2] at e;cases e⟩
def sV (d:DD) (K:W.Frag) (F:FE):TE:=λσ H Q=>nJ d σ H/\aM K F σ H Q
def Am (d:DD) (K:W.Frag) (g:FG):TG:=λv σ H Q=>nJ d σ H/\pR K g v σ H λσ' H'=>nJ d σ' H'->Q σ' H'
section
variable {X:Cx} {K:W.Frag} {pos:Pos} {Fe:FE} {g:FG} {I:FI}
theorem QG.gd {e:Expr} (h:QG X e (pR K g)):QG X e (Am none K g):=h.le λv σ H Q _ ⟨_,B,τ,E,t,Q',re,rp,hF,l⟩=>⟨B,τ,E,t,Q',re,rp,hF,λσ' H' E' a b c d=>l σ' H' E' a b c d λ_ z=>by cases z⟩
theorem QE.ed {e:Expr} (h:QE X e (aM K Fe)):QE X e (sV none K Fe):=h.le λ_ _ _ _ z=>z.2
end
def Ke (d:DD) (K:W.Frag) (F:FB):TT:=λσ H Q=>nJ d σ H/\eJ K F σ H Q
section
variable {X:Cx} {K:W.Frag} {pos:Pos} {Fb:FB} {Fe:FE} {g:FG} {I:FI}
def fM (g:FG) (Fb:FB) (Fe:FE):List T->En->(En->Prop)->Prop
 | [],E,Q=>Q E
 | x::xs,E,Q=>g x E λE2=>Fb E2 λb E2'=>if b=true then Fe E2' λr E3=>match r with
  | .p t=>(match E3[E.length-1]? with
   | some (some (.o false acc))=>acc.length<1000/\fM g Fb Fe xs ((E3.set (E.length-1) (some (.o false (acc++[t])))).take E.length) Q
   | _=>False)
  | .s _=>False
  else fM g Fb Fe xs (E2'.take E.length) Q
def tY (t:Nat) (cap:List (Nat×Bool)) (I:FI) (g:FG) (Fb:FB) (Fe:FE):FE:=λE Q=>I E λitems us E1=>cap.all (λk=>!(k.2&&us.contains k.1))=true/\
 fM g Fb Fe items (oE t cap E1++[some (.o false [])]) λfj=>match fj[t+cap.length]? with
  | some (some (.o false zs))=>dN zs=true/\o1 (Be t cap fj E1) λE2=>Q (.s E2.length) (E2++[some (.o false zs)])
  | _=>False
theorem qJ {d d':DD} {scope:TR} {N':List Str} {cap:List (Nat×Bool)} {t:Nat} (S:bP X N' scope t (cap.map (·.1))) (ho:jZ cap=true) (cj:(cap.map (·.1)).Nodup) {σ:St} {H:Hp} {Q:VK} (hl:σ.length=X.N.length) (yb:∀H,nJ d σ H->nJ d' (jC t (cap.map (·.1)) σ) H)
  (h:sV d K (tY t cap I g Fb Fe) σ H Q):qP t (cap.map (·.1)) (lZ K I) (Am d' K g) (Ke d' K Fb) (sV d' K Fe) σ H Q:=by
 obtain ⟨dt,B,S0,E,Q',hS,re,hF,lk⟩:=h;refine ⟨B,S0,E,_,hS,re,hF,λJ items us E1 H1 S1 gd q g1 VQ kz la kr D hD=>?_⟩;obtain ⟨xb,q⟩:=q;obtain ⟨τ0,hS0⟩:=hS;obtain ⟨τ1,XX⟩:=g1.pre;have tu:∃τ,S1=σ++τ:=⟨τ0++τ1,by rw [XX,hS0,LI]⟩;have atσ:∀{j k:Nat} {b:Bool} {v:V},cap[j]? = some (k,b)->S1[k]? = some (some v)->σ[k]? = some (some v):=λ{j k b v} hj hv=>by
  obtain ⟨x,_,hx,_⟩:=S.caps j k (by rw [LK,hj];rfl);have hk:k<σ.length:=by rw [hl];exact (KU.mp hx).1
  obtain ⟨τ,rfl⟩:=tu;rw [LW hk] at hv;exact hv
 have atC:∀{j k:Nat} {b:Bool} {v:V},cap[j]? = some (k,b)->S1[k]? = some (some v)->(jC t (cap.map (·.1)) σ)[t+j]? = some (some v):=λ{j k b v} hj hv=>by rw [Bq hj,atσ hj hv];rfl
 have tv:∀{j k:Nat} {b:Bool} {v:V},cap[j]? = some (k,b)->(jC t (cap.map (·.1)) σ)[t+j]? = some (some v)->S1[k]? = some (some v):=λ{j k b v} hj hv=>by
  rw [Bq hj] at hv;have:σ[k]? = some (some v):=by
   cases z:σ[k]? with
   | none=>rw [z] at hv;cases hv
   | some y=>rw [z] at hv;simpa using hv
  exact fH tu this
 obtain ⟨bx,cg⟩:∃bx:Option SO,∀a:SO,bx=some a↔∃(j k:Nat) (kk:Bool) (xs:List T),cap[j]? = some (k,true)/\E1[k]? = some (some (.o kk xs))/\S1[k]? = some (some (.ref a)):=by
  by_cases hex:∃(a:SO) (j k:Nat) (kk:Bool) (xs:List T),cap[j]? = some (k,true)/\E1[k]? = some (some (.o kk xs))/\S1[k]? = some (some (.ref a))
  ·obtain ⟨a,j,k,kk,xs,h1,h2,h3⟩:=hex;refine ⟨some a,λa'=>⟨λz=>(by cases z;exact ⟨j,k,kk,xs,h1,h2,h3⟩),λ⟨j',k',vt,ko,p1,p2,p3⟩=>?_⟩⟩;have e1:=fL ho h1;have e2:=fL ho p1;rw [e1] at e2;cases e2;rw [h3] at p3;cases p3;rfl
  ·exact ⟨none,λa=>⟨λz=>(by cases z),λz=>absurd ⟨a,z⟩ hex⟩⟩
 have gf:∀a,bx=some a->Ow B S1 E1 a:=λa z=>by
  obtain ⟨j,k,kk,xs,_,h2,h3⟩:=(cg a).mp z;exact .inr ⟨k,kk,xs,h2,h3⟩
 -- an own list of the block is the box
 have gj:∀{i:Nat} {k:Bool} {xs:List T},(oE t cap E1)[i]? = some (some (.o k xs))->∃j m kk,i=t+j/\cap[j]? = some (m,true)/\E1[m]? = some (some (.o kk xs))/\k=true:=λ{i k xs} h=>by
  obtain ⟨j,m,c,e1,e2,e3⟩:=Bg h;refine ⟨j,m,?_⟩;cases qE:E1[m]? with
  | none=>rw [qE] at e3;cases e3
  | some u=>
   cases u with
   | none=>rw [qE] at e3;cases e3
   | some u=>
    cases u with
    | p _=>rw [qE] at e3;cases e3
    | o kk ys=>
     rw [qE] at e3;cases c
     ·simp [Mz] at e3
     ·simp [Mz] at e3;obtain ⟨e4,e5⟩:=e3;exact ⟨kk,e1,e2,by rw [e5],e4⟩
 have ck:∀b,Ow (λa=>bx=some a) (jC t (cap.map (·.1)) σ) (oE t cap E1) b->bx=some b:=λb z=>by
  rcases z with z | ⟨i,k,xs,h1,h2⟩
  ·exact z
  obtain ⟨j,m,kk,e1,e2,e3,_⟩:=gj h1;subst e1;exact (cg b).mpr ⟨j,m,kk,xs,e2,e3,tv e2 h2⟩
 have kl:Kp (Ow B S1 E1) (Ow (λa=>bx=some a) (jC t (cap.map (·.1)) σ) (oE t cap E1)) H1 H1:=Kp.less λb z=>gf b (ck b z);have ua:RE K (λa=>bx=some a) H1 (jC t (cap.map (·.1)) σ) (oE t cap E1):=by
  refine ⟨by simp [jC,oE],λi u h=>?_,λi k xs h=>?_,λi j k l xs ys a h1 h2 h3 h4=>?_,λa z=>VQ.ow (gf a z)⟩
  ·obtain ⟨j,m,c,e1,e2,e3⟩:=Bg h;subst e1;cases qE:E1[m]? with
   | none=>rw [qE] at e3;cases e3
   | some w=>
    cases w with
    | none=>rw [qE] at e3;cases e3
    | some w=>
     cases w with
     | p w=>
      rw [qE] at e3;cases e3;obtain ⟨v,h1,h2⟩:=VQ.pure m _ qE;exact ⟨v,atC e2 h1,h2.step kl⟩
     | o kk ys=>
      rw [qE] at e3;cases c
      ·simp [Mz] at e3;subst e3;obtain ⟨a,vs,h1,h2,h3,h4⟩:=VQ.own m kk ys qE;refine ⟨_,atC e2 h1,a,vs,rfl,.inl ⟨λz=>?_,.inl h2⟩,h3.step kl⟩;obtain ⟨j',k',vt,ko,p1,p2,p3⟩:=(cg a).mp (ck a z);have e4:=VQ.inj m k' kk vt ys ko a qE p2 h1 p3;subst e4;have lt1:j<(cap.map (·.1)).length:=by rw [KW];exact (KU.mp e2).1
       have lt2:j'<(cap.map (·.1)).length:=by rw [KW];exact (KU.mp p1).1
       have:j=j':=(List.getElem?_inj lt1 cj).mp (by rw [LK,LK,e2,p1];rfl);subst this;rw [e2] at p1;cases p1
      ·simp [Mz] at e3
  ·obtain ⟨j,m,kk,e1,e2,e3,e4⟩:=gj h;subst e1;subst e4;obtain ⟨a,vs,h1,h2,h3,h4⟩:=VQ.own m kk _ e3;exact ⟨a,vs,atC e2 h1,h2,h3.step kl,⟨λ_=>(cg a).mpr ⟨j,m,kk,_,e2,e3,h1⟩,λ_=>rfl⟩⟩
  ·obtain ⟨j1,m1,k1,e1,e2,_,_⟩:=gj h1;obtain ⟨j2,m2,k2,e3,e4,_,_⟩:=gj h2;have z1:=fL ho e2;have z2:=fL ho e4;rw [z1] at z2;cases z2;rw [e1,e3]
 -- the accumulator gets a place
 obtain ⟨gD,reD⟩:=ua.lst (ts:=[]) (vs:=[]) hD rfl;have gd0:gd (upd H1 D (.lst [])) (Ow (λa=>bx=some a) (jC t (cap.map (·.1)) σ++[some (.ref D)]) (oE t cap E1++[some (.o false [])])):=by
  refine kz.keep _ _ _ _ gD.kp (kr _ (λb z=>gf b (ck b z)) λj hj a ha z=>?_);obtain ⟨j',k',vt,ko,p1,p2,p3⟩:=(cg a).mp (ck a z);obtain ⟨kj,xj,qj⟩:=la j hj;have ej:=VQ.inj j k' kj vt xj ko a qj p2 ha p3;subst ej;have:=MW.mp xb (j,true) (KZ p1);simp [hj] at this
 have hn:(jC t (cap.map (·.1)) σ).length=t+cap.length:=by simp [jC]
 have hnE:(oE t cap E1++[some (U.o false [])]).length=t+cap.length+1:=by simp [oE];omega
 -- the turns
 refine ⟨λi m σ' H'=>m=items.length-i/\i<=items.length/\∃E',fM g Fb Fe (items.drop i) E' (λfj=>match fj[t+cap.length]? with
   | some (some (.o false zs))=>dN zs=true/\o1 (Be t cap fj E1) λE2=>Q' (.s E2.length) (E2++[some (.o false zs)])
   | _=>False)/\σ'.length=t+cap.length/\E'.length=t+cap.length+1/\RE K (λa=>bx=some a) H' (σ'++[some (.ref D)]) E'/\
   Gs (λa=>bx=some a) (upd H1 D (.lst [])) (jC t (cap.map (·.1)) σ++[some (.ref D)]) (oE t cap E1++[some (.o false [])]) H' (σ'++[some (.ref D)]) E'/\gd H' (Ow (λa=>bx=some a) (σ'++[some (.ref D)]) E')/\nJ d' σ' H',
  ⟨_,rfl,MJ _,_,q,hn,hnE,reD,Kp.refl _ _,gd0,(yb _ (dt.kp re g1.kp)).kp ua gD.kp⟩,?_⟩
 rintro i m σ2 H2 ⟨rfl,gc,E3,q3,yc,yd,WW,g3,aq,ye⟩;rcases NZ i items.length with XB | xx
 ·have hd:items.drop i=items[i]::items.drop (i+1):=NI XB;rw [hd] at q3;refine .inr ⟨kz.go i H2 _ aq XB,λx H4 y=>?_⟩;obtain ⟨k4,s4,rp⟩:=kz.yld i H2 _ x H4 _ aq (KS XB) (λa z=>by obtain ⟨vs,e⟩:=WW.ow z;rw [e];intro z;cases z) y;have cf:=WW.kept s4;have oj:=kz.keep _ _ _ _ k4 aq;refine ⟨ye.same s4,_,[some (.ref D)],E3,_,_,cf,rp,q3,λσ5 H5 E5 q5 g5 YW ku vv=>?_⟩;have hE5:E5.length=t+cap.length+1:=by rw [<-YW.len];simp [ku,yc]
  refine ⟨vv,_,σ5++[some (.ref D)],E5,_,⟨_,rfl⟩,YW,q5,λok vw H5' S5' vx lh lq=>?_⟩;have ll:E5.length<=vw.length:=by
   obtain ⟨τ6,e6⟩:=lh.pre;rw [<-YW.len,<-lq.len,e6];simp
  cases ok with
  | false=>
   have vx:fM g Fb Fe (items.drop (i+1)) (vw.take E3.length) _:=vx;obtain ⟨ub,uc⟩:=lq.cut (E:=E5) (σ:=σ5++[some (.ref D)]) lh.pre YW.len;have eE:E5.length=E3.length:=by omega
   rw [eE] at ub uc;have gg:Gs (λa=>bx=some a) H4 (σ2++[some (.ref D)]) E3 H5' (σ5++[some (.ref D)]) (vw.take E3.length):=(g5.trans lh.kp).trans (Kp.less uc);refine ⟨items.length-(i+1),by omega,rfl,XB,_,vx,by omega,?_,ub,(g3.trans k4).trans gg,kz.keep _ _ _ _ gg oj,vv.kp YW lh.kp⟩;rw [MA];omega
  | true=>
   obtain ⟨τ5,hτ5⟩:=lh.pre;refine ⟨vv.kp YW lh.kp,_,S5',vw,_,⟨some (.ref D)::τ5,by rw [hτ5];simp⟩,lq,vx,λr E6 v H6 S6 q6 g6 om rr6=>?_⟩;have g6:=lh.trans g6;cases r with
   | s _=>exact q6.elim
   | p u=>
    simp only at q6;have uf:E3.length-1=t+cap.length:=by omega
    rw [uf] at q6;split at q6
    ·rename_i acc ZK;obtain ⟨hlen,q6⟩:=q6;obtain ⟨a6,ws,p1,p2,p3,p4⟩:=om.own _ _ _ ZK;have hS6:S6[t+cap.length]? = some (some (.ref D)):=fH g6.pre (by rw [MS (by omega)];simp [ku,yc]);rw [hS6] at p1;cases p1;obtain ⟨g7,yf⟩:=om.put (ys:=acc++[u]) (ws:=ws++[v]) ZK hS6 (p3.append ⟨v,[],rfl,rr6,rfl⟩);obtain ⟨ub,uc⟩:=yf.cut (E:=E5) (σ:=σ5++[some (.ref D)]) (g6.trans g7).pre YW.len;have eE:E5.length=E3.length:=by omega
     rw [eE] at ub uc;have gg:Gs (λa=>bx=some a) H4 (σ2++[some (.ref D)]) E3 (upd H6 D (.lst (ws++[v]))) (σ5++[some (.ref D)]) ((E6.set (t+cap.length) (some (.o false (acc++[u])))).take E3.length):=(g5.trans (g6.trans g7).kp).trans (Kp.less uc);refine ⟨ws,p2,by rw [p3.length];exact bU (MY hlen),items.length-(i+1),by omega,rfl,XB,_,q6,by omega,?_,ub,(g3.trans k4).trans gg,kz.keep _ _ _ _ gg oj,(vv.kp YW g6.kp).kp om g7.kp⟩;rw [MA,RX];have:E5.length<=E6.length:=by
      obtain ⟨τ6,e6⟩:=g6.pre;rw [<-YW.len,<-om.len,e6];simp
     omega
    ·exact q6.elim
 ·have ei:i=items.length:=by omega
  subst ei;rw [OT] at q3;refine .inl ⟨kz.stop H2 _ aq,?_⟩;have gr:(match E3[t+cap.length]? with
   | some (some (.o false zs))=>dN zs=true/\o1 (Be t cap E3 E1) λE2=>Q' (.s E2.length) (E2++[some (.o false zs)])
   | _=>False):=q3
  split at gr
  ·rename_i zs yg;obtain ⟨xy,gr⟩:=gr;obtain ⟨E2,e2,gr⟩:=gr.ex;obtain ⟨aD,ws,p1,p2,p3,p4⟩:=WW.own _ _ _ yg;have hSD:(σ2++[some (V.ref D)])[t+cap.length]? = some (some (.ref D)):=by rw [MS (by omega)];simp [yc]
   rw [hSD] at p1;cases p1
   -- what is kept of the heap around
   have jr:∀b,Ow (λa=>bx=some a) (jC t (cap.map (·.1)) σ++[some (.ref D)]) (oE t cap E1++[some (.o false [])]) b->bx=some b\/b=D:=λb z=>by
    rcases gD.kp.new b z with z | z
    ·exact .inl (ck b z)
    ·rcases reD.ow (by assumption) with ⟨ZS,hu⟩
     by_cases c:b=D
     ·exact .inr c
     ·rw [a8 c,z] at hu;cases hu
   have kept:∀b o,H1 b=some o->bx≠some b->H2 b=some o:=λb o e n=>by
    refine g3.keep b o (by rw [a8 (a9 e hD)];exact e) λz=>?_;rcases jr b z with z | z
    ·exact n z
    ·exact a9 e hD z
   have hk:∀b o,H1 b=some o->¬Ow B S1 E1 b->H2 b=some o:=λb o e n=>kept b o e λz=>n (gf b z);have lk1:=lk.step g1
   -- the names around
   have fin:∀{E2:En},RE K B H2 S1 E2->(∀b,Ow B S1 E2 b->Ow B S1 E1 b)->
     (∀(i:Nat) (k:Bool) (xs:List T),E2[i]? = some (some (.o k xs))->(E1[i]? = some (some (.o k xs))/\∀a,S1[i]? = some (some (.ref a))->H2 a=H1 a)\/∀a ws,S1[i]? = some (some (.ref a))->H2 a=some (.lst ws)->cS K H2 (dF H2) xs ws)->
     (∀(i:Nat) (u:T),E2[i]? = some (some (.p u))->E1[i]? = some (some (.p u)))->Q' (.s E2.length) (E2++[some (.o false zs)])->Q (.ref D) H2:=λ{E2} VN hw hE hP q=>by
    refine zI VQ VN hk hw hE hP (r:=.l zs) ⟨D,ws,rfl,hD,p2,cS.noL (λa z=>?_) xy p3⟩ q lk1;rcases z with ⟨ZS,z⟩ | z
    ·by_cases c:bx=some a
     ·exact WW.ow (.inl c)
     ·exact ⟨ZS,kept a _ z c⟩
    ·exact ⟨ws,by rw [z];exact p2⟩
   unfold Be at e2;cases qb:oN cap with
   | none=>
    rw [qb] at e2;cases e2;have nb:∀b,bx≠some b:=λb z=>by
     obtain ⟨j,k,kk,xs,h1,_⟩:=(cg b).mp z;rw [fL ho h1] at qb;cases qb
    have same:∀b o,H1 b=some o->H2 b=some o:=λb o e=>kept b o e (nb b);exact fin (VQ.kept same) (λb z=>z) (λi k xs h=>.inl ⟨h,λa ha=>by
     obtain ⟨a',ZS,h1,h2,_⟩:=VQ.own i k xs h;rw [ha] at h1;cases h1;rw [h2];exact same _ _ h2⟩) (λi u h=>h) gr
   | some jk=>
    obtain ⟨j,k⟩:=jk;rw [qb] at e2;have hj:=tS qb;simp only at e2;split at e2
    ·rename_i kb ju ys jv hEi;split at e2
     ·cases e2;rename_i hny;obtain ⟨a0,us0,h1,h2,h3,h4⟩:=VQ.own k kb ju jv;have lr:bx=some a0:=(cg a0).mpr ⟨j,k,kb,ju,hj,jv,h1⟩;obtain ⟨a',yh,r1,r2,r3,r4⟩:=WW.own _ true ys hEi;have:bx=some a':=r4.mp rfl;rw [lr] at this;cases this;have tq:∀b,Ow B S1 E1 b->dF H2 b:=λb z=>by
       by_cases c:bx=some b
       ·rw [lr] at c;cases c;exact ⟨yh,r2⟩
       ·obtain ⟨ZS,e⟩:=VQ.ow z;exact ⟨ZS,kept b _ e c⟩
      have cont:cS K H2 (dF H2) ys yh:=cS.noL (λ_ z=>z) hny r3;have YN:∀{i:Nat} {u:U},(E1.set k (some (.o kb ys)))[i]? = some (some u)->(i=k/\u = .o kb ys)\/(i≠k/\E1[i]? = some (some u)):=λ{i u} h=>by
       by_cases c:i=k
       ·subst c;rw [MR (KU.mp jv).1] at h;cases h;exact .inl ⟨rfl,rfl⟩
       ·rw [MB (λz=>c z.symm)] at h;exact .inr ⟨c,h⟩
      have nk:∀{i:Nat} {l:Bool} {fm:List T} {a:SO},i≠k->E1[i]? = some (some (.o l fm))->S1[i]? = some (some (.ref a))->bx≠some a:=λ{i l fm a} c z ha w=>by
       rw [lr] at w;cases w;exact c (VQ.inj i k l kb fm ju _ z jv ha h1)
      have ya:∀b,Ow B S1 (E1.set k (some (.o kb ys))) b->Ow B S1 E1 b:=λb z=>by
       rcases z with z | ⟨i,l,fm,z1,z2⟩
       ·exact .inl z
       rcases YN z1 with ⟨c,z⟩ | ⟨c,z⟩
       ·subst c;exact .inr ⟨_,kb,ju,jv,z2⟩
       ·exact .inr ⟨i,l,fm,z,z2⟩
      have kp:Kp (Ow B S1 E1) (Ow B S1 E1) H1 H2:=⟨hk,λb z=>.inl z⟩;refine fin (VQ.step hk (by simp) (λi u h=>?_) (λi l fm h=>?_) (λa z=>tq a (.inl z))) ya (λi l fm h=>?_) (λi u h=>?_) gr
      ·rcases YN h with ⟨_,z⟩ | ⟨_,z⟩
       ·cases z
       ·exact z
      ·rcases YN h with ⟨c,z⟩ | ⟨c,z⟩
       ·cases z;subst c;refine ⟨ju,jv,λa ha=>?_⟩;rw [h1] at ha;cases ha;exact ⟨yh,r2,cont.step (Kp.less tq)⟩
       ·refine ⟨fm,z,λa ha=>?_⟩;obtain ⟨a',ZS,ug,vy,p3',_⟩:=VQ.own i l fm z;rw [ha] at ug;cases ug;exact ⟨ZS,kept a _ vy (nk c z ha),p3'.step kp⟩
      ·rcases YN h with ⟨c,z⟩ | ⟨c,z⟩
       ·cases z;subst c
        right
        intro a us2 ha hu;rw [h1] at ha;cases ha;rw [r2] at hu;cases hu;exact cont
       ·left
        refine ⟨z,λa ha=>?_⟩;obtain ⟨a',ZS,ug,vy,p3',_⟩:=VQ.own i l fm z;rw [ha] at ug;cases ug;rw [vy];exact kept a _ vy (nk c z ha)
      ·rcases YN h with ⟨_,z⟩ | ⟨_,z⟩
       ·cases z
       ·exact z
     ·cases e2
    ·rename_i tp jv;cases e2;have nb:∀b,bx≠some b:=λb z=>by
      obtain ⟨j',k',kk,xs,h1,h2,_⟩:=(cg b).mp z;rw [fL ho h1] at qb;cases qb;rw [jv] at h2;cases h2
     have same:∀b o,H1 b=some o->H2 b=some o:=λb o e=>kept b o e (nb b);exact fin (VQ.kept same) (λb z=>z) (λi k xs h=>.inl ⟨h,λa ha=>by
      obtain ⟨a',ZS,h1,h2,_⟩:=VQ.own i k xs h;rw [ha] at h1;cases h1;rw [h2];exact same _ _ h2⟩) (λi u h=>h) gr
    ·cases e2
  ·exact gr.elim
def bT:FB:=λE Q=>Q true E
theorem Ic (g:FG) (Fe:FE):∀xs,fM g bT Fe xs=iH g Fe xs
 | []=>rfl
 | x::xs=>by
  funext E Q
  simp only [fM,iH,bT,if_true,Ic g Fe xs]
theorem Al {d d':DD} {scope:TR} {N':List Str} {cap:List (Nat×Bool)} {t:Nat} (S:bP X N' scope t (cap.map (·.1))) (ho:jZ cap=true) (cj:(cap.map (·.1)).Nodup) {σ:St} {H:Hp} {Q:VK} (hl:σ.length=X.N.length) (yb:∀H,nJ d σ H->nJ d' (jC t (cap.map (·.1)) σ) H)
  (h:sV d K (Aw t cap I g Fe) σ H Q):Im t (cap.map (·.1)) (lZ K I) (Am d' K g) (sV d' K Fe) σ H Q:=by
 have e:tY t cap I g bT Fe=Aw t cap I g Fe:=by unfold tY Aw;simp only [Ic]
 rw [<-e] at h;obtain ⟨B,S0,E,Q',hS,re,hF,lk⟩:=qJ S ho cj hl yb h;refine ⟨B,S0,E,Q',hS,re,hF,λJ items us E1 H1 S1 gd q g1 VQ ok la kr D hD=>?_⟩;obtain ⟨W,w0,tn⟩:=lk J items us E1 H1 S1 gd q g1 VQ ok la kr D hD;refine ⟨W,w0,λi m σ' H' z=>(tn i m σ' H' z).imp id λ⟨go,st⟩=>⟨go,λx H2 y=>?_⟩⟩;obtain ⟨dt,B',τ,E',u,Q2,VN,rp,ao,l⟩:=st x H2 y;refine ⟨dt,B',τ,E',u,Q2,VN,rp,ao,λσ3 H3 E3 a b c e ye=>?_⟩;obtain ⟨_,B3,S3,E4,Q4,_,cf,z,k⟩:=l σ3 H3 E3 a b c e ye;exact k true E4 H3 S3 z .refl cf
theorem QT.bd {c:Expr} (h:QT X c (eJ K Fb)):QT X c (Ke none K Fb):=h.le λ_ _ _ z=>z.2
theorem jJ {target elt iter:Expr} {scope:TR} {N':List Str} {cap:List (Nat×Bool)} {t:Nat} (hc:X.calm=true) (S:bP X N' scope t (cap.map (·.1))) (ho:jZ cap=true) (cj:(cap.map (·.1)).Nodup) (hi:QI X target iter (lZ K I))
  (hg:∀C s3 H3 fp,QG (b8 X N' scope C s3 H3 fp) target (pR K g)) (he:∀C s3 H3 fp,QE (b8 X N' scope C s3 H3 fp) elt (aM K Fe)) (hs:∀x,TH iter X.env x=pure x:=by intro _;rfl) :
  QE X (.ListComp elt [⟨target,iter,[],0⟩] scope pos) (aM K (Aw t cap I g Fe)):=
 (Yv hc S hi (λC s H f=>(hg C s H f).gd) (λC s H f=>(he C s H f).ed) hs).le λσ H Q hl h=>Al (d:=none) (d':=none) S ho cj hl (λ_ _ _ z=>by cases z) ⟨(λ_ z=>by cases z),h⟩
end
end L2
namespace L2
open PySem PySem.Spec PyProof.Rows
section
variable {X:Cx}
theorem Aq {target elt iter:Expr} {ifs:List Expr} {scope:TR} {pos pos' YO:Pos} {N':List Str} {cap:List Nat} {t ix:Nat} {xn:Str} {wi:TI} {g:TG} {tb:TT} {te:TE} (yi:X.N.Nodup) (ZL:X.N[ix]? = some xn) (yj:Ef X.env.scope xn) (kd:X.fn xn=true\/X.env.scope.names.lookup xn=some .local)
  (ly:TZ (.ListComp elt [⟨target,iter,ifs,0⟩] scope pos) (some (.Name xn pos')) YO.line X.env=pure true) (hc:X.calm=true) (S:bP X N' scope t cap) (hi:PI X target iter wi)
  (hg:∀C s3 H3 fp,PG (b8 X N' scope C s3 H3 fp) target g) (hb:∀C s3 H3 fp,DY (b8 X N' scope C s3 H3 fp) ifs tb) (he:∀C s3 H3 fp,PE (b8 X N' scope C s3 H3 fp) elt te) (hs:∀x,TH iter X.env x=pure x:=by intro _;rfl) :
  PS X (.Assign [.Name xn pos'] (.ListComp elt [⟨target,iter,ifs,0⟩] scope pos) YO) (Fl (qP t cap wi g tb te) (tO ix)):=by
 intro pins s σ H DD I h;rw [exec_Assign_Name_used _ _ _ _ ly];refine SQ (VB (SQ ?_));unfold evalThenUse;refine SQ ?_;obtain ⟨QQ,hQQ⟩:∃QQ:Value->Shared->Prop,QQ=λ_ s'=>∃σ' H',aY X pins σ' H' s'/\DD.nx σ' H':=⟨_,rfl⟩;refine dM (Q:=QQ) ?_ (λ_ s' h'=>SV (SV (by rw [hQQ] at h';exact h')));refine wH (use:=some (UP (.Name xn pos') X.env)) hc S hi hg hb he hs I h λs3 s6 H3 H5 fp D m I3 f3 fe bu bw YZ rf ba qn=>?_;have I7:aY X pins σ H5 s6:=I3.call' (ch:=fp) rf bu bw ba f3;have fC:pE X pins H5 s3.heap.objs.size:=I3.fpOk (LF _) YZ;refine wpAny_assign_Name (wK I7 yi ZL yj (v:=.ref D) rfl (λs8 I8 ⟨a,sa,ha⟩=>?_) kd);have nC:s3.heap.objs.size≠a:=by
  rcases ha with rfl | ha
  ·exact fC.2.1
  ·exact λz=>fC.2.2.2.2.1 _ _ ha z.symm
 obtain ⟨mC,hnC⟩:∃m',s8.heap.Ns s3.heap.objs.size m':=⟨m,fe.at λo e=>sa.extBut _ _ nC e⟩;refine ⟨mC,hnC,λh' jn=>?_⟩;rw [hQQ];refine ⟨_,H5,I8.turnedL (t':=s8.toks) (ch:=[s3.heap.objs.size]) (λb u hb e=>jn.extBut _ _ (by simpa using hb) e) (λb hb=>by rw [LM.mp hb];exact fC),qn⟩
theorem B8 {target elt iter:Expr} {scope:TR} {pos pos' YO:Pos} {N':List Str} {cap:List Nat} {t ix:Nat} {xn:Str} {wi:TI} {g:TG} {te:TE} (yi:X.N.Nodup) (ZL:X.N[ix]? = some xn) (yj:Ef X.env.scope xn) (kd:X.fn xn=true\/X.env.scope.names.lookup xn=some .local)
  (ly:TZ (.ListComp elt [⟨target,iter,[],0⟩] scope pos) (some (.Name xn pos')) YO.line X.env=pure true) (hc:X.calm=true) (S:bP X N' scope t cap) (hi:PI X target iter wi)
  (hg:∀C s3 H3 fp,PG (b8 X N' scope C s3 H3 fp) target g) (he:∀C s3 H3 fp,PE (b8 X N' scope C s3 H3 fp) elt te) (hs:∀x,TH iter X.env x=pure x:=by intro _;rfl) :
  PS X (.Assign [.Name xn pos'] (.ListComp elt [⟨target,iter,[],0⟩] scope pos) YO) (Fl (Im t cap wi g te) (tO ix)):=
 λpins s σ H DD I h=>Aq (tb:=λ_ H Q=>Q true H) yi ZL yj kd ly hc S hi hg (λ_ _ _ _ _ _ _ _ _ I z=>wpAny_tests_nil ⟨_,I,z⟩) he hs pins s σ H DD I h
end
section
variable {X:Cx} {K:W.Frag} {Fe:FE} {g:FG} {I:FI}
theorem rW {target elt iter:Expr} {scope:TR} {pos pos' YO:Pos} {N':List Str} {cap:List (Nat×Bool)} {t i:Nat} {x:Str} (hN:X.N.Nodup) (hi:X.N[i]? = some x) (hx:Ef X.env.scope x)
  (ly:TZ (.ListComp elt [⟨target,iter,[],0⟩] scope pos) (some (.Name x pos')) YO.line X.env=pure true) (hc:X.calm=true) (S:bP X N' scope t (cap.map (·.1))) (ho:jZ cap=true) (cj:(cap.map (·.1)).Nodup) (hit:QI X target iter (lZ K I))
  (hg:∀C s3 H3 fp,QG (b8 X N' scope C s3 H3 fp) target (pR K g)) (he:∀C s3 H3 fp,QE (b8 X N' scope C s3 H3 fp) elt (aM K Fe)) (hs:∀x,TH iter X.env x=pure x:=by intro _;rfl)
  (hf:X.fn x=true\/X.env.scope.names.lookup x=some .local:=by first | exact .inl rfl | exact .inr rfl | assumption) :
  QS X (.Assign [.Name x pos'] (.ListComp elt [⟨target,iter,[],0⟩] scope pos) YO) (iA K (Wv i (Aw t cap I g Fe))):=
 QS.le ⟨B8 hN hi hx hf ly hc S hit.h (λC s3 H3 fp=>(hg C s3 H3 fp).gd.h) (λC s3 H3 fp=>(he C s3 H3 fp).ed.h) hs⟩ λD σ H hl ⟨B,E,DT,re,hF,l⟩=>Al (d:=none) (d':=none) S ho cj hl (λ_ _ _ z=>by cases z) ⟨(λ_ z=>by cases z),B,σ,E,_,⟨[],by simp⟩,re,hF,λr E' v H' S' q g VN rr=>by
  obtain ⟨u,e1,q⟩:=q.ex;rw [<-re.len] at e1 q;obtain ⟨r1,ow⟩:=kH (i:=i) VN g.pre rr e1;exact l.nx _ _ _ q (g.kp.trans (Kp.less ow)) r1⟩
end
end L2
namespace L2
open PySem PySem.Spec PyProof.Rows
mutual
def eD:T->T->Bool
 | .non,.non=>true
 | .bl a,.bl b=>a==b
 | .int a,.int b=>a==b
 | .bl a,.int b=>(if a then 1 else 0)==b
 | .int a,.bl b=>a==(if b then 1 else 0)
 | .str a,.str b=>a==b
 | .tup xs,.tup ys=>qK xs ys
 | .lst xs,.lst ys=>qK xs ys
 | _,_=>false
def qK:List T->List T->Bool
 | [],[]=>true
 | x::xs,y::ys=>eD x y&&qK xs ys
 | _,_=>false
end
mutual
def dT:T->Nat
 | .tup xs=>qF xs+1
 | .lst xs=>qF xs+1
 | _=>0
def qF:List T->Nat
 | []=>0
 | x::xs=>OX (dT x) (qF xs)
end
mutual
theorem hV:∀x:T,eD x x=true
 | .non=>rfl
 | .bl a=>by simp [eD]
 | .int a=>by simp [eD]
 | .str a=>by simp [eD]
 | .tup xs=>by rw [eD];exact qQ xs
 | .lst xs=>by rw [eD];exact qQ xs
theorem qQ:∀xs:List T,qK xs xs=true
 | []=>rfl
 | x::xs=>by rw [qK,hV x,qQ xs];rfl
end
theorem jF:∀xs ys:List T,qK xs ys=((MV (min xs.length ys.length)).all (λj=>eD (xs.getD j .non) (ys.getD j .non))&&xs.length==ys.length)
 | [],[]=>rfl
 | [],_::_=>by simp [qK]
 | _::_,[]=>by simp [qK]
 | x::xs,y::ys=>by
  rw [qK,jF xs ys];simp only [LJ,Nat.succ_min_succ,List.range_succ_eq_map,List.all_cons,List.all_map];simp [Function.comp_def,Bool.and_assoc]
theorem nV:∀{xs:List T} {x:T},x∈xs->dT x<=qF xs
 | y::xs,x,h=>by
  rw [qF];rcases KR.mp h with rfl | h
  ·exact OZ _ _
  ·exact MG (nV h) (OU _ _)
mutual
def Rq (K:W.Frag) (H:Hp):T->V->Prop
 | .non,v=>v = .non
 | .bl b,v=>v = .bl b
 | .int i,v=>v = .int i
 | .str x,v=>v = .str x
 | .tup xs,v=>∃a vs,v = .ref a/\rX K H a vs/\uY K H xs vs
 | .lst xs,v=>∃a vs,v = .ref a/\j4 K H a vs/\uY K H xs vs
def uY (K:W.Frag) (H:Hp):List T->List V->Prop
 | [],vs=>vs=[]
 | x::xs,vs=>∃v r,vs=v::r/\Rq K H x v/\uY K H xs r
end
section
variable {K:W.Frag} {H:Hp} {O:SO->Prop}
mutual
theorem Rp.rq:∀{t:T} {v:V},Rp K H O t v->Rq K H t v
 | .non,_,h=>h
 | .bl _,_,h=>h
 | .int _,_,h=>h
 | .str _,_,h=>h
 | .tup xs,v,h=>by
  obtain ⟨a,vs,e,h1,h2⟩:=h;exact ⟨a,vs,e,h1.imp (λh=>.inl h.2) id,cS.rq h2⟩
 | .lst xs,v,h=>by
  obtain ⟨a,vs,e,h1,h2⟩:=h;exact ⟨a,vs,e,h1.imp And.right id,cS.rq h2⟩
theorem cS.rq:∀{xs:List T} {vs:List V},cS K H O xs vs->uY K H xs vs
 | [],_,h=>h
 | x::xs,vs,h=>by
  obtain ⟨v,r,e,h1,h2⟩:=h;exact ⟨v,r,e,Rp.rq h1,cS.rq h2⟩
end
theorem Rt.rq {t:T} {v:V} (h:Rt K H O t v):Rq K H t v:=by
 cases t with
 | tup xs=>obtain ⟨a,vs,e,h1,h2⟩:=h;exact ⟨a,vs,e,h1,h2.rq⟩
 | lst xs=>obtain ⟨a,vs,e,h1,h2⟩:=h;exact ⟨a,vs,e,h1,h2.rq⟩
 | non=>exact h
 | bl _=>exact h
 | int _=>exact h
 | str _=>exact h
theorem uY.length:∀{xs:List T} {vs:List V},uY K H xs vs->vs.length=xs.length
 | [],_,h=>by cases h;rfl
 | _::_,_,⟨v,r,e,_,h2⟩=>by rw [e,LJ,LJ,uY.length h2]
theorem uY.get:∀{xs:List T} {vs:List V} {i:Nat} {x:T},uY K H xs vs->xs[i]? = some x->∃v,vs[i]? = some v/\Rq K H x v
 | [],_,_,_,_,e=>by simp at e
 | _::_,_,0,_,⟨v,r,e,h1,_⟩,q=>by simp at q;subst q;subst e;exact ⟨v,rfl,h1⟩
 | _::_,_,i+1,x,⟨v,r,e,_,h2⟩,q=>by
  obtain ⟨w,q1,q2⟩:=uY.get (i:=i) (x:=x) h2 (by simpa using q);subst e;exact ⟨w,by simpa using q1,q2⟩
end
section
variable {X:Cx} {pins:List (SO×Obj)} {σ:St} {H:Hp} {s:Shared}
theorem aY.nolt (I:aY X pins σ H s) {a:SO} {vs ws:List V} (h1:j4 X.K H a vs) (h2:rX X.K H a ws):False:=by
 obtain ⟨_,_,p1,_⟩:=I.list h1;obtain ⟨_,_,p2,_⟩:=I.tuple h2;exact SeqAt.ne_of_list_tuple p1.isList p2 rfl
mutual
theorem Rq.inj (I:aY X pins σ H s):∀{x y:T} {v:V},Rq X.K H x v->Rq X.K H y v->x=y
 | .non,.non,_,_,_=>rfl
 | .bl a,.bl b,_,h,k=>by cases h;cases k;rfl
 | .int a,.int b,_,h,k=>by cases h;cases k;rfl
 | .str a,.str b,_,h,k=>by cases h;cases k;rfl
 | .tup xs,.tup ys,v,⟨a,vs,e,h1,h2⟩,⟨b,ws,f,k1,k2⟩=>by
  rw [e] at f;cases f;rw [I.tuple_inj h1 k1] at h2;rw [uY.inj I h2 k2]
 | .lst xs,.lst ys,v,⟨a,vs,e,h1,h2⟩,⟨b,ws,f,k1,k2⟩=>by
  rw [e] at f;cases f;rw [I.list_inj h1 k1] at h2;rw [uY.inj I h2 k2]
 | .tup xs,.lst ys,v,⟨a,vs,e,h1,h2⟩,⟨b,ws,f,k1,k2⟩=>by rw [e] at f;cases f;exact (I.nolt k1 h1).elim
 | .lst xs,.tup ys,v,⟨a,vs,e,h1,h2⟩,⟨b,ws,f,k1,k2⟩=>by rw [e] at f;cases f;exact (I.nolt h1 k1).elim
 | .non,.bl _,_,h,k=>by cases h;cases k
 | .non,.int _,_,h,k=>by cases h;cases k
 | .non,.str _,_,h,k=>by cases h;cases k
 | .non,.tup _,_,h,⟨_,_,k,_⟩=>by cases h;cases k
 | .non,.lst _,_,h,⟨_,_,k,_⟩=>by cases h;cases k
 | .bl _,.non,_,h,k=>by cases h;cases k
 | .bl _,.int _,_,h,k=>by cases h;cases k
 | .bl _,.str _,_,h,k=>by cases h;cases k
 | .bl _,.tup _,_,h,⟨_,_,k,_⟩=>by cases h;cases k
 | .bl _,.lst _,_,h,⟨_,_,k,_⟩=>by cases h;cases k
 | .int _,.non,_,h,k=>by cases h;cases k
 | .int _,.bl _,_,h,k=>by cases h;cases k
 | .int _,.str _,_,h,k=>by cases h;cases k
 | .int _,.tup _,_,h,⟨_,_,k,_⟩=>by cases h;cases k
 | .int _,.lst _,_,h,⟨_,_,k,_⟩=>by cases h;cases k
 | .str _,.non,_,h,k=>by cases h;cases k
 | .str _,.bl _,_,h,k=>by cases h;cases k
 | .str _,.int _,_,h,k=>by cases h;cases k
 | .str _,.tup _,_,h,⟨_,_,k,_⟩=>by cases h;cases k
 | .str _,.lst _,_,h,⟨_,_,k,_⟩=>by cases h;cases k
 | .tup _,.non,_,⟨_,_,h,_⟩,k=>by cases h;cases k
 | .tup _,.bl _,_,⟨_,_,h,_⟩,k=>by cases h;cases k
 | .tup _,.int _,_,⟨_,_,h,_⟩,k=>by cases h;cases k
 | .tup _,.str _,_,⟨_,_,h,_⟩,k=>by cases h;cases k
 | .lst _,.non,_,⟨_,_,h,_⟩,k=>by cases h;cases k
 | .lst _,.bl _,_,⟨_,_,h,_⟩,k=>by cases h;cases k
 | .lst _,.int _,_,⟨_,_,h,_⟩,k=>by cases h;cases k
 | .lst _,.str _,_,⟨_,_,h,_⟩,k=>by cases h;cases k
theorem uY.inj (I:aY X pins σ H s):∀{xs ys:List T} {vs:List V},uY X.K H xs vs->uY X.K H ys vs->xs=ys
 | [],[],_,_,_=>rfl
 | [],_::_,_,h,⟨_,_,k,_⟩=>by cases h;cases k
 | _::_,[],_,⟨_,_,h,_⟩,k=>by cases k;cases h
 | x::xs,y::ys,_,⟨v,r,e,h1,h2⟩,⟨w,r',f,k1,k2⟩=>by
  rw [e] at f;cases f;rw [Rq.inj I h1 k1,uY.inj I h2 k2]
end
theorem Hh {A:Around} {u v:Value} {k:Bool} (h:SeqAt.RcAt A s u v k) (hk:u=v->k=true) (hf:∀b t,u≠.float b t):SeqAt.EqAt A s u v k:=λprog w E Q hq=>by
 unfold eqBool;refine UQ ?_;refine wpAny_ite_split (λhab=>?_) (λ_=>?_)
 ·rw [hk (eq_of_beq hab)] at hq;exact SQ (UN (SV hq))
 ·cases u with
  | float b t=>exact absurd rfl (hf b t)
  | _=>exact SQ (h prog w E _ (TY hq))
theorem Ju {x y:V} {u:Value} (h:bH x u) (k:bH y u):x=y:=h.inj k
theorem oU (A:Around) {xs ys:List T} {vs ws:List V} {VI js:List Value} (rx:bE vs VI) (ry:bE ws js) (hx:uY X.K H xs vs) (hy:uY X.K H ys ws)
  (ih:∀(j:Nat) (x y:T) (v w:V) (u u':Value),xs[j]? = some x->ys[j]? = some y->Rq X.K H x v->Rq X.K H y w->bH v u->bH w u'->SeqAt.EqAt A s u u' (eD x y)) :
  ∀j (h1:j<VI.toArray.size) (h2:j<js.toArray.size),SeqAt.EqAt A s VI.toArray[j] js.toArray[j] (eD (xs.getD j .non) (ys.getD j .non)):=λj h1 h2=>by
 have l1:=rx.length;have l2:=ry.length;have l3:=hx.length;have l4:=hy.length;have vh:j<VI.length:=by simpa using h1
 have fx:j<js.length:=by simpa using h2
 have e1:xs[j]? = some xs[j]:=KS (by omega);have e2:ys[j]? = some ys[j]:=KS (by omega);obtain ⟨v,q1,q2⟩:=hx.get e1;obtain ⟨w,q3,q4⟩:=hy.get e2;obtain ⟨u1,z1,r1⟩:=rx.get q1;obtain ⟨v1,z2,r2⟩:=ry.get q3;have y1:VI.toArray[j]=u1:=by
  rw [KS vh] at z1
  simpa using Option.some.inj z1
 have y2:js.toArray[j]=v1:=by
  rw [KS fx] at z2
  simpa using Option.some.inj z2
 rw [y1,y2];have g1:xs.getD j .non=xs[j]:=by simp [List.getD,e1]
 have g2:ys.getD j .non=ys[j]:=by simp [List.getD,e2]
 rw [g1,g2];exact ih j _ _ v w u1 v1 e1 e2 q2 q4 r1 r2
theorem Co (I:aY X pins σ H s) {A:Around} (hu:A.units<UX):∀{x y:T} {v w:V} {u u':Value},(∀xs ys,¬(x = .tup xs/\y = .tup ys))->(∀xs ys,¬(x = .lst xs/\y = .lst ys))->Rq X.K H x v->Rq X.K H y w->bH v u->bH w u'->SeqAt.RcAt A s u u' ((eD x y)):=by
 intro x y v w u u' nt nl hx hy rx ry;cases x with
 | non=>
  cases y with
  | non=>
   cases hx;cases rx;cases hy;cases ry;exact SeqAt.RcAt.none_none
  | bl ay=>
   cases hx;cases rx;cases hy;cases ry;exact SeqAt.RcAt.none_bool _
  | int ay=>
   cases hx;cases rx;cases hy;obtain ⟨VT,rfl⟩:=ry;exact SeqAt.RcAt.none_int _ VT
  | str ay=>
   cases hx;cases rx;cases hy;obtain ⟨VT,rfl⟩:=ry;exact SeqAt.RcAt.none_str _ VT
  | tup ay=>
   cases hx;cases rx;obtain ⟨XC,WQ,WB,WC,_⟩:=hy;subst WB;cases ry;obtain ⟨WD,_,WE,_⟩:=I.tuple WC;exact SeqAt.RcAt.none_tuple WE hu
  | lst ay=>
   cases hx;cases rx;obtain ⟨XC,WQ,WB,WC,_⟩:=hy;subst WB;cases ry;obtain ⟨WD,_,WE,_⟩:=I.list WC;exact SeqAt.RcAt.none_list WE.isList hu
 | bl ax=>
  cases y with
  | non=>
   cases hx;cases rx;cases hy;cases ry;exact SeqAt.RcAt.bool_none _
  | bl ay=>
   cases hx;cases rx;cases hy;cases ry;exact SeqAt.RcAt.bool_bool _ _
  | int ay=>
   cases hx;cases rx;cases hy;obtain ⟨VT,rfl⟩:=ry;exact SeqAt.RcAt.bool_int _ _ VT
  | str ay=>
   cases hx;cases rx;cases hy;obtain ⟨VT,rfl⟩:=ry;exact SeqAt.RcAt.bool_str _ _ VT
  | tup ay=>
   cases hx;cases rx;obtain ⟨XC,WQ,WB,WC,_⟩:=hy;subst WB;cases ry;obtain ⟨WD,_,WE,_⟩:=I.tuple WC;exact SeqAt.RcAt.bool_tuple _ WE hu
  | lst ay=>
   cases hx;cases rx;obtain ⟨XC,WQ,WB,WC,_⟩:=hy;subst WB;cases ry;obtain ⟨WD,_,WE,_⟩:=I.list WC;exact SeqAt.RcAt.bool_list _ WE.isList hu
 | int ax=>
  cases y with
  | non=>
   cases hx;obtain ⟨VU,rfl⟩:=rx;cases hy;cases ry;exact SeqAt.RcAt.int_none _ VU
  | bl ay=>
   cases hx;obtain ⟨VU,rfl⟩:=rx;cases hy;cases ry;exact SeqAt.RcAt.int_bool _ VU _
  | int ay=>
   cases hx;obtain ⟨VU,rfl⟩:=rx;cases hy;obtain ⟨VT,rfl⟩:=ry;exact SeqAt.RcAt.int_int _ VU _ VT
  | str ay=>
   cases hx;obtain ⟨VU,rfl⟩:=rx;cases hy;obtain ⟨VT,rfl⟩:=ry;exact SeqAt.RcAt.int_str _ VU _ VT
  | tup ay=>
   cases hx;obtain ⟨VU,rfl⟩:=rx;obtain ⟨XC,WQ,WB,WC,_⟩:=hy;subst WB;cases ry;obtain ⟨WD,_,WE,_⟩:=I.tuple WC;exact SeqAt.RcAt.int_tuple _ VU WE hu
  | lst ay=>
   cases hx;obtain ⟨VU,rfl⟩:=rx;obtain ⟨XC,WQ,WB,WC,_⟩:=hy;subst WB;cases ry;obtain ⟨WD,_,WE,_⟩:=I.list WC;exact SeqAt.RcAt.int_list _ VU WE.isList hu
 | str ax=>
  cases y with
  | non=>
   cases hx;obtain ⟨VU,rfl⟩:=rx;cases hy;cases ry;exact SeqAt.RcAt.str_none _ VU
  | bl ay=>
   cases hx;obtain ⟨VU,rfl⟩:=rx;cases hy;cases ry;exact SeqAt.RcAt.str_bool _ VU _
  | int ay=>
   cases hx;obtain ⟨VU,rfl⟩:=rx;cases hy;obtain ⟨VT,rfl⟩:=ry;exact SeqAt.RcAt.str_int _ VU _ VT
  | str ay=>
   cases hx;obtain ⟨VU,rfl⟩:=rx;cases hy;obtain ⟨VT,rfl⟩:=ry;exact SeqAt.RcAt.str_str _ VU _ VT
  | tup ay=>
   cases hx;obtain ⟨VU,rfl⟩:=rx;obtain ⟨XC,WQ,WB,WC,_⟩:=hy;subst WB;cases ry;obtain ⟨WD,_,WE,_⟩:=I.tuple WC;exact SeqAt.RcAt.str_tuple _ VU WE hu
  | lst ay=>
   cases hx;obtain ⟨VU,rfl⟩:=rx;obtain ⟨XC,WQ,WB,WC,_⟩:=hy;subst WB;cases ry;obtain ⟨WD,_,WE,_⟩:=I.list WC;exact SeqAt.RcAt.str_list _ VU WE.isList hu
 | tup ax=>
  cases y with
  | non=>
   obtain ⟨XD,WR,WG,WH,_⟩:=hx;subst WG;cases rx;obtain ⟨WI,_,WJ,_⟩:=I.tuple WH;cases hy;cases ry;exact SeqAt.RcAt.tuple_none WJ hu
  | bl ay=>
   obtain ⟨XD,WR,WG,WH,_⟩:=hx;subst WG;cases rx;obtain ⟨WI,_,WJ,_⟩:=I.tuple WH;cases hy;cases ry;exact SeqAt.RcAt.tuple_bool _ WJ hu
  | int ay=>
   obtain ⟨XD,WR,WG,WH,_⟩:=hx;subst WG;cases rx;obtain ⟨WI,_,WJ,_⟩:=I.tuple WH;cases hy;obtain ⟨VT,rfl⟩:=ry;exact SeqAt.RcAt.tuple_int _ VT WJ hu
  | str ay=>
   obtain ⟨XD,WR,WG,WH,_⟩:=hx;subst WG;cases rx;obtain ⟨WI,_,WJ,_⟩:=I.tuple WH;cases hy;obtain ⟨VT,rfl⟩:=ry;exact SeqAt.RcAt.tuple_str _ VT WJ hu
  | tup ay=>
   exact absurd ⟨rfl,rfl⟩ (nt ax ay)
  | lst ay=>
   obtain ⟨XD,WR,WG,WH,_⟩:=hx;subst WG;cases rx;obtain ⟨WI,_,WJ,_⟩:=I.tuple WH;obtain ⟨XC,WQ,WB,WC,_⟩:=hy;subst WB;cases ry;obtain ⟨WD,_,WE,_⟩:=I.list WC;exact SeqAt.RcAt.tuple_list WJ WE.isList hu
 | lst ax=>
  cases y with
  | non=>
   obtain ⟨XD,WR,WG,WH,_⟩:=hx;subst WG;cases rx;obtain ⟨WI,_,WJ,_⟩:=I.list WH;cases hy;cases ry;exact SeqAt.RcAt.list_none WJ.isList hu
  | bl ay=>
   obtain ⟨XD,WR,WG,WH,_⟩:=hx;subst WG;cases rx;obtain ⟨WI,_,WJ,_⟩:=I.list WH;cases hy;cases ry;exact SeqAt.RcAt.list_bool _ WJ.isList hu
  | int ay=>
   obtain ⟨XD,WR,WG,WH,_⟩:=hx;subst WG;cases rx;obtain ⟨WI,_,WJ,_⟩:=I.list WH;cases hy;obtain ⟨VT,rfl⟩:=ry;exact SeqAt.RcAt.list_int _ VT WJ.isList hu
  | str ay=>
   obtain ⟨XD,WR,WG,WH,_⟩:=hx;subst WG;cases rx;obtain ⟨WI,_,WJ,_⟩:=I.list WH;cases hy;obtain ⟨VT,rfl⟩:=ry;exact SeqAt.RcAt.list_str _ VT WJ.isList hu
  | tup ay=>
   obtain ⟨XD,WR,WG,WH,_⟩:=hx;subst WG;cases rx;obtain ⟨WI,_,WJ,_⟩:=I.list WH;obtain ⟨XC,WQ,WB,WC,_⟩:=hy;subst WB;cases ry;obtain ⟨WD,_,WE,_⟩:=I.tuple WC;exact SeqAt.RcAt.list_tuple WJ.isList WE hu
  | lst ay=>
   exact absurd ⟨rfl,rfl⟩ (nl ax ay)
theorem Mv (I:aY X pins σ H s) {A:Around} (hu:A.units<UX):∀{x y:T} {v w:V} {u u':Value},(∀xs ys,¬(x = .tup xs/\y = .tup ys))->(∀xs ys,¬(x = .lst xs/\y = .lst ys))->Rq X.K H x v->Rq X.K H y w->bH v u->bH w u'->SeqAt.RcNeAt A s u u' (!(eD x y)):=by
 intro x y v w u u' nt nl hx hy rx ry;cases x with
 | non=>
  cases y with
  | non=>
   cases hx;cases rx;cases hy;cases ry;exact SeqAt.RcNeAt.none_none
  | bl ay=>
   cases hx;cases rx;cases hy;cases ry;exact SeqAt.RcNeAt.none_bool _
  | int ay=>
   cases hx;cases rx;cases hy;obtain ⟨VT,rfl⟩:=ry;exact SeqAt.RcNeAt.none_int _ VT
  | str ay=>
   cases hx;cases rx;cases hy;obtain ⟨VT,rfl⟩:=ry;exact SeqAt.RcNeAt.none_str _ VT
  | tup ay=>
   cases hx;cases rx;obtain ⟨XC,WQ,WB,WC,_⟩:=hy;subst WB;cases ry;obtain ⟨WD,_,WE,_⟩:=I.tuple WC;exact SeqAt.RcNeAt.none_tuple WE hu
  | lst ay=>
   cases hx;cases rx;obtain ⟨XC,WQ,WB,WC,_⟩:=hy;subst WB;cases ry;obtain ⟨WD,_,WE,_⟩:=I.list WC;exact SeqAt.RcNeAt.none_list WE.isList hu
 | bl ax=>
  cases y with
  | non=>
   cases hx;cases rx;cases hy;cases ry;exact SeqAt.RcNeAt.bool_none _
  | bl ay=>
   cases hx;cases rx;cases hy;cases ry;exact SeqAt.RcNeAt.bool_bool _ _
  | int ay=>
   cases hx;cases rx;cases hy;obtain ⟨VT,rfl⟩:=ry;exact SeqAt.RcNeAt.bool_int _ _ VT
  | str ay=>
   cases hx;cases rx;cases hy;obtain ⟨VT,rfl⟩:=ry;exact SeqAt.RcNeAt.bool_str _ _ VT
  | tup ay=>
   cases hx;cases rx;obtain ⟨XC,WQ,WB,WC,_⟩:=hy;subst WB;cases ry;obtain ⟨WD,_,WE,_⟩:=I.tuple WC;exact SeqAt.RcNeAt.bool_tuple _ WE hu
  | lst ay=>
   cases hx;cases rx;obtain ⟨XC,WQ,WB,WC,_⟩:=hy;subst WB;cases ry;obtain ⟨WD,_,WE,_⟩:=I.list WC;exact SeqAt.RcNeAt.bool_list _ WE.isList hu
 | int ax=>
  cases y with
  | non=>
   cases hx;obtain ⟨VU,rfl⟩:=rx;cases hy;cases ry;exact SeqAt.RcNeAt.int_none _ VU
  | bl ay=>
   cases hx;obtain ⟨VU,rfl⟩:=rx;cases hy;cases ry;exact SeqAt.RcNeAt.int_bool _ VU _
  | int ay=>
   cases hx;obtain ⟨VU,rfl⟩:=rx;cases hy;obtain ⟨VT,rfl⟩:=ry;exact SeqAt.RcNeAt.int_int _ VU _ VT
  | str ay=>
   cases hx;obtain ⟨VU,rfl⟩:=rx;cases hy;obtain ⟨VT,rfl⟩:=ry;exact SeqAt.RcNeAt.int_str _ VU _ VT
  | tup ay=>
   cases hx;obtain ⟨VU,rfl⟩:=rx;obtain ⟨XC,WQ,WB,WC,_⟩:=hy;subst WB;cases ry;obtain ⟨WD,_,WE,_⟩:=I.tuple WC;exact SeqAt.RcNeAt.int_tuple _ VU WE hu
  | lst ay=>
   cases hx;obtain ⟨VU,rfl⟩:=rx;obtain ⟨XC,WQ,WB,WC,_⟩:=hy;subst WB;cases ry;obtain ⟨WD,_,WE,_⟩:=I.list WC;exact SeqAt.RcNeAt.int_list _ VU WE.isList hu
 | str ax=>
  cases y with
  | non=>
   cases hx;obtain ⟨VU,rfl⟩:=rx;cases hy;cases ry;exact SeqAt.RcNeAt.str_none _ VU
  | bl ay=>
   cases hx;obtain ⟨VU,rfl⟩:=rx;cases hy;cases ry;exact SeqAt.RcNeAt.str_bool _ VU _
  | int ay=>
   cases hx;obtain ⟨VU,rfl⟩:=rx;cases hy;obtain ⟨VT,rfl⟩:=ry;exact SeqAt.RcNeAt.str_int _ VU _ VT
  | str ay=>
   cases hx;obtain ⟨VU,rfl⟩:=rx;cases hy;obtain ⟨VT,rfl⟩:=ry;exact SeqAt.RcNeAt.str_str _ VU _ VT
  | tup ay=>
   cases hx;obtain ⟨VU,rfl⟩:=rx;obtain ⟨XC,WQ,WB,WC,_⟩:=hy;subst WB;cases ry;obtain ⟨WD,_,WE,_⟩:=I.tuple WC;exact SeqAt.RcNeAt.str_tuple _ VU WE hu
  | lst ay=>
   cases hx;obtain ⟨VU,rfl⟩:=rx;obtain ⟨XC,WQ,WB,WC,_⟩:=hy;subst WB;cases ry;obtain ⟨WD,_,WE,_⟩:=I.list WC;exact SeqAt.RcNeAt.str_list _ VU WE.isList hu
 | tup ax=>
  cases y with
  | non=>
   obtain ⟨XD,WR,WG,WH,_⟩:=hx;subst WG;cases rx;obtain ⟨WI,_,WJ,_⟩:=I.tuple WH;cases hy;cases ry;exact SeqAt.RcNeAt.tuple_none WJ hu
  | bl ay=>
   obtain ⟨XD,WR,WG,WH,_⟩:=hx;subst WG;cases rx;obtain ⟨WI,_,WJ,_⟩:=I.tuple WH;cases hy;cases ry;exact SeqAt.RcNeAt.tuple_bool _ WJ hu
  | int ay=>
   obtain ⟨XD,WR,WG,WH,_⟩:=hx;subst WG;cases rx;obtain ⟨WI,_,WJ,_⟩:=I.tuple WH;cases hy;obtain ⟨VT,rfl⟩:=ry;exact SeqAt.RcNeAt.tuple_int _ VT WJ hu
  | str ay=>
   obtain ⟨XD,WR,WG,WH,_⟩:=hx;subst WG;cases rx;obtain ⟨WI,_,WJ,_⟩:=I.tuple WH;cases hy;obtain ⟨VT,rfl⟩:=ry;exact SeqAt.RcNeAt.tuple_str _ VT WJ hu
  | tup ay=>
   exact absurd ⟨rfl,rfl⟩ (nt ax ay)
  | lst ay=>
   obtain ⟨XD,WR,WG,WH,_⟩:=hx;subst WG;cases rx;obtain ⟨WI,_,WJ,_⟩:=I.tuple WH;obtain ⟨XC,WQ,WB,WC,_⟩:=hy;subst WB;cases ry;obtain ⟨WD,_,WE,_⟩:=I.list WC;exact SeqAt.RcNeAt.tuple_list WJ WE.isList hu
 | lst ax=>
  cases y with
  | non=>
   obtain ⟨XD,WR,WG,WH,_⟩:=hx;subst WG;cases rx;obtain ⟨WI,_,WJ,_⟩:=I.list WH;cases hy;cases ry;exact SeqAt.RcNeAt.list_none WJ.isList hu
  | bl ay=>
   obtain ⟨XD,WR,WG,WH,_⟩:=hx;subst WG;cases rx;obtain ⟨WI,_,WJ,_⟩:=I.list WH;cases hy;cases ry;exact SeqAt.RcNeAt.list_bool _ WJ.isList hu
  | int ay=>
   obtain ⟨XD,WR,WG,WH,_⟩:=hx;subst WG;cases rx;obtain ⟨WI,_,WJ,_⟩:=I.list WH;cases hy;obtain ⟨VT,rfl⟩:=ry;exact SeqAt.RcNeAt.list_int _ VT WJ.isList hu
  | str ay=>
   obtain ⟨XD,WR,WG,WH,_⟩:=hx;subst WG;cases rx;obtain ⟨WI,_,WJ,_⟩:=I.list WH;cases hy;obtain ⟨VT,rfl⟩:=ry;exact SeqAt.RcNeAt.list_str _ VT WJ.isList hu
  | tup ay=>
   obtain ⟨XD,WR,WG,WH,_⟩:=hx;subst WG;cases rx;obtain ⟨WI,_,WJ,_⟩:=I.list WH;obtain ⟨XC,WQ,WB,WC,_⟩:=hy;subst WB;cases ry;obtain ⟨WD,_,WE,_⟩:=I.tuple WC;exact SeqAt.RcNeAt.list_tuple WJ.isList WE hu
  | lst ay=>
   exact absurd ⟨rfl,rfl⟩ (nl ax ay)
theorem Vj {K:W.Frag} {x:T} {v:V} {u:Value} (h:Rq K H x v) (r:bH v u):∀b t,u≠.float b t:=λb t e=>by
 subst e;cases x with
 | tup _=>obtain ⟨_,_,e,_⟩:=h;subst e;cases r
 | lst _=>obtain ⟨_,_,e,_⟩:=h;subst e;cases r
 | non=>cases h;cases r
 | bl _=>cases h;cases r
 | int _=>cases h;obtain ⟨_,r⟩:=r;cases r
 | str _=>cases h;obtain ⟨_,r⟩:=r;cases r
theorem zE (I:aY X pins σ H s):∀(n:Nat) (A:Around) (x y:T) (v w:V) (u u':Value),dT x<=n->Rq X.K H x v->Rq X.K H y w->bH v u->bH w u'->A.units+n<UX->SeqAt.RcAt A s u u' (eD x y)/\SeqAt.EqAt A s u u' (eD x y):=by
 have fin:∀{A:Around} {x y:T} {v w:V} {u u':Value},Rq X.K H x v->Rq X.K H y w->bH v u->bH w u'->SeqAt.RcAt A s u u' (eD x y)->SeqAt.RcAt A s u u' (eD x y)/\SeqAt.EqAt A s u u' (eD x y):=λ{A x y v w u u'} hx hy rx ry h=>⟨h,Hh h (λe=>by
   subst e;rw [Rq.inj I hx (by rw [Ju rx ry];exact hy)];exact hV y) (Vj hx rx)⟩
 intro n
 induction n with
 | zero=>
  intro A x y v w u u' hd hx hy rx ry hu;refine fin hx hy rx ry (Co I (by omega) (λxs ys z=>?_) (λxs ys z=>?_) hx hy rx ry)
  ·rw [z.1] at hd;simp [dT] at hd
  ·rw [z.1] at hd;simp [dT] at hd
 | succ n ih=>
  intro A x y v w u u' hd hx hy rx ry hu;refine fin hx hy rx ry ?_
  by_cases c1:∃xs ys,x = .tup xs/\y = .tup ys
  ·obtain ⟨xs,ys,rfl,rfl⟩:=c1;obtain ⟨a,vs,rfl,q1,h1⟩:=hx;obtain ⟨b,ws,rfl,q2,h2⟩:=hy;cases rx;cases ry;obtain ⟨VI,r1,p1,_⟩:=I.tuple q1;obtain ⟨js,r2,p2,_⟩:=I.tuple q2;have:=SeqAt.RcAt.tuples p1 p2 (A:=A) (by omega) (oU A.in1 r1 r2 h1 h2 λj x y v w u u' e1 e2 k1 k2 k3 k4=>(ih A.in1 x y v w u u' (by
    have:=nV (KZ e1);simp only [dT] at hd;omega) k1 k2 k3 k4 (by show A.units+1+n<UX;omega)).2)
   rw [eD,jF];have l1:=r1.length;have l2:=r2.length;have l3:=h1.length;have l4:=h2.length;have s1:VI.toArray.size=xs.length:=by simp;omega
   have s2:js.toArray.size=ys.length:=by simp;omega
   rw [s1,s2] at this;exact this
  ·by_cases c2:∃xs ys,x = .lst xs/\y = .lst ys
   ·obtain ⟨xs,ys,rfl,rfl⟩:=c2;obtain ⟨a,vs,rfl,q1,h1⟩:=hx;obtain ⟨b,ws,rfl,q2,h2⟩:=hy;cases rx;cases ry;obtain ⟨VI,r1,p1,_⟩:=I.list q1;obtain ⟨js,r2,p2,_⟩:=I.list q2;have l1:=r1.length;have l2:=r2.length;have l3:=h1.length;have l4:=h2.length;have s1:VI.toArray.size=xs.length:=by simp;omega
    have s2:js.toArray.size=ys.length:=by simp;omega
    rw [eD,jF]
    by_cases hl:xs.length=ys.length
    ·have:=SeqAt.RcAt.lists p1.isList p2.isList (A:=A) (by rw [s1,s2];exact hl) (by omega) (oU A.in1 r1 r2 h1 h2 λj x y v w u u' e1 e2 k1 k2 k3 k4=>(ih A.in1 x y v w u u' (by
      have:=nV (KZ e1);simp only [dT] at hd;omega) k1 k2 k3 k4 (by show A.units+1+n<UX;omega)).2)
     rw [s1] at this;rw [<-hl,Nat.min_self,beq_self_eq_true,SK];exact this
    ·have:=SeqAt.RcAt.lists_lengths p1.isList p2.isList (A:=A) (by rw [s1,s2];simpa using hl) (by omega);rw [show (xs.length==ys.length)=false by simpa using hl,SG];exact this
   ·exact Co I (by omega) (λxs ys z=>c1 ⟨xs,ys,z⟩) (λxs ys z=>c2 ⟨xs,ys,z⟩) hx hy rx ry
theorem Zd (I:aY X pins σ H s) {A:Around} {x y:T} {v w:V} {u u':Value} (n:Nat) (hd:dT x<=n) (hx:Rq X.K H x v) (hy:Rq X.K H y w) (rx:bH v u) (ry:bH w u') (hu:A.units+n<UX):SeqAt.RcNeAt A s u u' (!(eD x y)):=by
 by_cases c1:∃xs ys,x = .tup xs/\y = .tup ys
 ·obtain ⟨xs,ys,rfl,rfl⟩:=c1;obtain ⟨a,vs,rfl,q1,h1⟩:=hx;obtain ⟨b,ws,rfl,q2,h2⟩:=hy;cases rx;cases ry;obtain ⟨VI,r1,p1,_⟩:=I.tuple q1;obtain ⟨js,r2,p2,_⟩:=I.tuple q2;have:=SeqAt.RcNeAt.tuples p1 p2 (A:=A) (by omega) (oU A.in1 r1 r2 h1 h2 λj x y v w u u' e1 e2 k1 k2 k3 k4=>(zE I (n-1) A.in1 x y v w u u' (by
   have:=nV (KZ e1);simp only [dT] at hd;omega) k1 k2 k3 k4 (by show A.units+1+(n-1)<UX;simp only [dT] at hd;omega)).2)
  rw [eD,jF];have l1:=r1.length;have l2:=r2.length;have l3:=h1.length;have l4:=h2.length;have s1:VI.toArray.size=xs.length:=by simp;omega
  have s2:js.toArray.size=ys.length:=by simp;omega
  rw [s1,s2] at this;exact this
 ·by_cases c2:∃xs ys,x = .lst xs/\y = .lst ys
  ·obtain ⟨xs,ys,rfl,rfl⟩:=c2;obtain ⟨a,vs,rfl,q1,h1⟩:=hx;obtain ⟨b,ws,rfl,q2,h2⟩:=hy;cases rx;cases ry;obtain ⟨VI,r1,p1,_⟩:=I.list q1;obtain ⟨js,r2,p2,_⟩:=I.list q2;have l1:=r1.length;have l2:=r2.length;have l3:=h1.length;have l4:=h2.length;have s1:VI.toArray.size=xs.length:=by simp;omega
   have s2:js.toArray.size=ys.length:=by simp;omega
   rw [eD,jF]
   by_cases hl:xs.length=ys.length
   ·have:=SeqAt.RcNeAt.lists p1.isList p2.isList (A:=A) (by rw [s1,s2];exact hl) (by omega) (oU A.in1 r1 r2 h1 h2 λj x y v w u u' e1 e2 k1 k2 k3 k4=>(zE I (n-1) A.in1 x y v w u u' (by
     have:=nV (KZ e1);simp only [dT] at hd;omega) k1 k2 k3 k4 (by show A.units+1+(n-1)<UX;simp only [dT] at hd;omega)).2)
    rw [s1] at this;rw [<-hl,Nat.min_self,beq_self_eq_true,SK];exact this
   ·have:=SeqAt.RcNeAt.lists_lengths p1.isList p2.isList (A:=A) (by rw [s1,s2];simpa using hl) (by omega);rw [show (xs.length==ys.length)=false by simpa using hl,SG];exact this
  ·exact Mv I (by omega) (λxs ys z=>c1 ⟨xs,ys,z⟩) (λxs ys z=>c2 ⟨xs,ys,z⟩) hx hy rx ry
end
section
variable {X:Cx} {K:W.Frag} {pos:Pos} {a b c e o:Expr} {es:List Expr} {Fa Fb Fo:FE} {Fr:FA}
def ED (K:W.Frag) (ng:Bool):R2:=λx y H Q=>∃t u,Rq K H t x/\Rq K H u y/\dT t<=60/\Q (.bl (if ng then !(eD t u) else eD t u)) H
theorem Rl {k:Nat} (hr:dW k X.A):mB X (TQ .Eq) (ED X.K false):=by
 intro pins s σ H x y v u Q I rx ry h;obtain ⟨t,w,h1,h2,hd,q⟩:=h;exact (zE I 60 X.A t w x y v u hd h1 h2 rx ry (by have:=hr.units;omega)).1 X.prog X.w X.xe _ (uD I q rfl)
theorem Z1 {k:Nat} (hr:dW k X.A):mB X (TQ .NotEq) (ED X.K true):=by
 intro pins s σ H x y v u Q I rx ry h;obtain ⟨t,w,h1,h2,hd,q⟩:=h;exact Zd I 60 hd h1 h2 rx ry (by have:=hr.units;omega) X.prog X.w X.xe _ (uD I q rfl)
def t2 (x y:Option T) (k:T->T->Prop):Prop:=match x,y with
 | some t,some u=>k t u
 | _,_=>False
theorem t2.ex {x y:Option T} {k:T->T->Prop} (h:t2 x y k):∃t u,x=some t/\y=some u/\k t u:=by
 unfold t2 at h;split at h
 ·exact ⟨_,_,rfl,rfl,h⟩
 ·exact h.elim
def IV (Fa Fb:FE):FE:=λE Q=>Fa E λx E1=>Fb E1 λy E2=>t2 (vl E2 x) (vl E2 y) λt u=>dT t<=60/\Q (.p (.bl (eD t u))) E2
def KJ (Fa Fb:FE):FE:=λE Q=>Fa E λx E1=>Fb E1 λy E2=>t2 (vl E2 x) (vl E2 y) λt u=>dT t<=60/\Q (.p (.bl (!(eD t u)))) E2
theorem Dq {k:Nat} (eK:X.K=K) (hr:dW k X.A) (ha:QE X a (aM K Fa)) (hb:QE X b (aM K Fb)) (hm:TK .Eq b=false):QE X (.Compare a [.Eq] [b] pos) (aM K (IV Fa Fb)):=by
 subst eK;refine (yB (Rl hr) ha hb hm).le λσ H Q hl h=>two (Fa:=Fa) (Fb:=Fb) h λB S E x y v w H2 Q' hS re rx ry q lk=>?_;obtain ⟨t,u,e1,e2,hd,q⟩:=q.ex;exact ⟨t,u,(re.vl rx e1).rq,(re.vl ry e2).rq,hd,lk _ _ _ _ _ q .refl re rfl⟩
end
end L2
namespace L2
open PySem PySem.Spec PyProof.Rows
section
variable {X:Cx} {K:W.Frag} {pos:Pos} {a b c e o:Expr} {es:List Expr} {Fa Fb Fc Fo:FE} {Fr:FA}
theorem tZ {op:CmpOp} {r:R2} {F:FE} (ho:mB X (TQ op) r) (ha:QE X a (aM K Fa)) (hb:QE X b (aM K Fb)) (hm:TK op b=false) (k:∀σ H Q,aM K F σ H Q->Rv r (aM K Fa) (aM K Fb) σ H Q):QT X (.Compare a [op] [b] pos) (eJ K (vG F)):=
 (zU ho ha hb hm).le λσ H Q z=>k _ _ _ (Ye z)
theorem cX {op:CmpOp} {g:Int->Int->Bool} (ho:mB X (TQ op) (Vw λi j=>.bl (g i j))) (ha:QE X a (aM K Fa)) (hb:QE X b (aM K Fb)) (hm:TK op b=false):QT X (.Compare a [op] [b] pos) (eJ K (vG (IX g Fa Fb))):=
 tZ ho ha hb hm λσ H Q h=>two (Fa:=Fa) (Fb:=Fb) h λB S E x y v w H2 Q' hS re rx ry q lk=>by
  obtain ⟨i,j,e1,e2,q⟩:=i2.ex q;exact ⟨i,j,re.int rx e1,re.int ry e2,lk _ _ _ _ _ q .refl re rfl⟩
theorem qX {k:Nat} (eK:X.K=K) (hr:dW k X.A) (ha:QE X a (aM K Fa)) (hb:QE X b (aM K Fb)) (hm:TK .Eq b=false):QT X (.Compare a [.Eq] [b] pos) (eJ K (vG (IV Fa Fb))):=by
 subst eK;refine tZ (Rl hr) ha hb hm λσ H Q h=>two (Fa:=Fa) (Fb:=Fb) h λB S E x y v w H2 Q' hS re rx ry q lk=>?_;obtain ⟨t,u,e1,e2,hd,q⟩:=t2.ex q;exact ⟨t,u,(re.vl rx e1).rq,(re.vl ry e2).rq,hd,lk _ _ _ _ _ q .refl re rfl⟩
theorem i6 {k:Nat} (eK:X.K=K) (hr:dW k X.A) (ha:QE X a (aM K Fa)) (hb:QE X b (aM K Fb)) (hm:TK .NotEq b=false):QT X (.Compare a [.NotEq] [b] pos) (eJ K (vG (KJ Fa Fb))):=by
 subst eK;refine tZ (Z1 hr) ha hb hm λσ H Q h=>two (Fa:=Fa) (Fb:=Fb) h λB S E x y v w H2 Q' hS re rx ry q lk=>?_;obtain ⟨t,u,e1,e2,hd,q⟩:=t2.ex q;exact ⟨t,u,(re.vl rx e1).rq,(re.vl ry e2).rq,hd,lk _ _ _ _ _ q .refl re rfl⟩
def Po:T->Bool
 | .non=>true
 | _=>false
theorem F0 {H:Hp} {t:T} {v:V} (h:Rq K H t v):decide (v = .non)=Po t:=by
 cases t with
 | non=>cases h;rfl
 | bl _=>cases h;rfl
 | int _=>cases h;rfl
 | str _=>cases h;rfl
 | tup _=>obtain ⟨_,_,e,_⟩:=h;subst e;rfl
 | lst _=>obtain ⟨_,_,e,_⟩:=h;subst e;rfl
def Ww (ng:Bool) (Fa:FE):FE:=λE Q=>Fa E λx E1=>o1 (vl E1 x) λt=>Q (.p (.bl (if ng then !(Po t) else Po t))) E1
theorem Zq {σ:St} {H:Hp} {Q:VK} (h:aM K (Ww false Fa) σ H Q):Rv (λx y H Q=>y = .non/\Q (.bl (decide (x = .non))) H) (aM K Fa) (tC .non) σ H Q:=
 one (Fa:=Fa) h λB S E x v H2 Q' hS re rx q lk=>by
  obtain ⟨t,e1,q⟩:=o1.ex q;exact ⟨rfl,by rw [F0 (re.vl rx e1).rq];exact lk _ _ _ _ _ q .refl re rfl⟩
theorem Rm {σ:St} {H:Hp} {Q:VK} (h:aM K (Ww true Fa) σ H Q):Rv (λx y H Q=>y = .non/\Q (.bl (!decide (x = .non))) H) (aM K Fa) (tC .non) σ H Q:=
 one (Fa:=Fa) h λB S E x v H2 Q' hS re rx q lk=>by
  obtain ⟨t,e1,q⟩:=o1.ex q;exact ⟨rfl,by rw [F0 (re.vl rx e1).rq];exact lk _ _ _ _ _ q .refl re rfl⟩
theorem Er {j p2} (ha:QE X a (aM K Fa)) (hm:TK .Is (.Constant .none j p2)=false):QT X (.Compare a [.Is] [.Constant .none j p2] pos) (eJ K (vG (Ww false Fa))):=(zU Q5 ha Ep hm).le λ_ _ _ h=>Zq (Ye h)
theorem Yd {j p2} (ha:QE X a (aM K Fa)) (hm:TK .IsNot (.Constant .none j p2)=false):QT X (.Compare a [.IsNot] [.Constant .none j p2] pos) (eJ K (vG (Ww true Fa))):=(zU C7 ha Ep hm).le λ_ _ _ h=>Rm (Ye h)
def Ir:T->String
 | .non=>"NoneType"
 | .bl _=>"bool"
 | .int _=>"int"
 | .str _=>"str"
 | .tup _=>"tuple"
 | .lst _=>"list"
theorem DV {H:Hp} {t:T} {v:V} (h:Rq K H t v):Kd K H v (Ir t):=by
 cases t with
 | non=>cases h;exact .non
 | bl _=>cases h;exact .bl _
 | int _=>cases h;exact .int _
 | str _=>cases h;exact .str _
 | tup _=>obtain ⟨_,_,e,h,_⟩:=h;subst e;exact .tup h
 | lst _=>obtain ⟨_,_,e,h,_⟩:=h;subst e;exact .lst h
def JF:T->Bool
 | .lst _=>true
 | _=>false
def IY:T->Bool
 | .tup _=>true
 | _=>false
def JE:T->Bool
 | .str _=>true
 | _=>false
def JG:T->Bool
 | .bl _=>true
 | _=>false
def JD:T->Bool
 | .int _=>true
 | .bl _=>true
 | _=>false
theorem Ff:∀t,JF t=rS (Ir t) "list":=by intro t;cases t<;>simp [JF,rS,Ir]
theorem yD:∀t,IY t=rS (Ir t) "tuple":=by intro t;cases t<;>simp [IY,rS,Ir]
theorem Ve:∀t,JE t=rS (Ir t) "str":=by intro t;cases t<;>simp [JE,rS,Ir]
theorem Hl:∀t,JG t=rS (Ir t) "bool":=by intro t;cases t<;>simp [JG,rS,Ir]
theorem BI:∀t,JD t=rS (Ir t) "int":=by intro t;cases t<;>simp [JD,rS,Ir]
def GQ (f:T->Bool) (Fa:FE):FE:=λE Q=>Fa E λx E1=>o1 (vl E1 x) λt=>Q (.p (.bl (f t))) E1
def BR (f g:T->Bool) (Fa:FE):FE:=λE Q=>Fa E λx E1=>o1 (vl E1 x) λt=>Q (.p (.bl (f t||g t))) E1
theorem iV {x:Str} {T1:String} {f:T->Bool} {p p1:Pos} (kf:∀t,f t=rS (Ir t) T1) (eK:X.K=K) (hg:Gl X "isinstance") (hm:X.mg "isinstance" = none) (ha:QE X a (aM K Fa)) (h1:Gl X x) (m1:X.mg x=none) (b1:TF x=some (.type T1)) (hT:T1∈Xv) (n1:x≠"__name__":=by decide) (d1:(x==("__debug__":Str))=false:=by decide) (hs:cC a=false:=by rfl) (bt:bM [a,.Name x p1]=true:=by rfl) :
  QE X (.Call (.Name "isinstance" p) [a,.Name x p1] [] pos) (aM K (GQ f Fa)):=by
 subst eK;refine (eU Tx hg hm boot_isinstance (qc ha (qc (D1 (v:=.ty T1) h1 m1 b1 rfl n1 d1) Hg) hs) (by decide) (by decide) bt).le λσ H Q hl h=>one (Fa:=Fa) h λB S E x v H2 Q' hS re rx q lk=>?_;obtain ⟨t,e1,q⟩:=o1.ex q;rw [kf] at q;exact ⟨v,_,T1,rfl,DV (re.vl rx e1).rq,hT,lk _ _ _ _ _ q .refl re rfl⟩
theorem Yw {x1 x2:Str} {T1 T2:String} {f g:T->Bool} {p p1 p2 p3:Pos} {k:Nat} (kf:∀t,f t=rS (Ir t) T1) (kg:∀t,g t=rS (Ir t) T2) (eK:X.K=K) (hg:Gl X "isinstance") (hm:X.mg "isinstance" = none) (he:QE X e (aM K Fa)) (h1:Gl X x1) (m1:X.mg x1=none) (b1:TF x1=some (.type T1)) (h2:Gl X x2) (m2:X.mg x2=none) (b2:TF x2=some (.type T2))
  (hT1:T1∈Xv) (hT2:T2∈Xv) (hs:cC e=false:=by rfl) (n1:x1≠"__name__":=by decide) (d1:(x1==("__debug__":Str))=false:=by decide) (n2:x2≠"__name__":=by decide) (d2:(x2==("__debug__":Str))=false:=by decide) :
  QE X (.Call (.Name "isinstance" p) [e,.Tuple [.Name x1 p1,.Name x2 p2] k p3] [] pos) (aM K (BR f g Fa)):=by
 subst eK;refine (Xu hg hm he h1 m1 b1 h2 m2 b2 hs n1 d1 n2 d2).le λσ H Q hl h=>one (Fa:=Fa) h λB S E x v H2 Q' hS re rx q lk=>?_;obtain ⟨t,e1,q⟩:=o1.ex q;rw [kf,kg] at q;refine ⟨_,DV (re.vl rx e1).rq,hT1,hT2,λp hp=>?_⟩;have s:∀b o,H2 b=some o->(upd H2 p (.tup [.ty T1,.ty T2])) b=some o:=λb o e=>by rw [a8 (a9 e hp)];exact e
 exact lk _ _ _ _ _ q ⟨Kp.upd hp,[],by simp⟩ (re.kept s) rfl
def iN (xs:List T) (lo hi:Option Int):List T:=(xs.drop (HT.sIx xs.length 0 lo)).take (HT.sIx xs.length xs.length hi-HT.sIx xs.length 0 lo)
theorem Us {H:Hp} {O:SO->Prop} {xs:List T} {vs:List V} {lo hi:Option Int} (h:cS K H O xs vs):cS K H O (iN xs lo hi) (Ds vs lo hi):=by
 unfold iN Ds;rw [h.length];exact (h.drop _).take _
abbrev FO:=En->(Option Int->En->Prop)->Prop
def Dh (K:W.Frag) (F:FO):TO:=λσ H Q=>∃B S E Q',(∃τ,S=σ++τ)/\RE K B H S E/\F E Q'/\∀b E' H' S',Q' b E'->Gr B H S E H' S' E'->RE K B H' S' E'->Q b H'
theorem QO.le {e:Option Expr} {t t':TO} (h:QO X e t) (m:∀σ H Q,t' σ H Q->t σ H Q):QO X e t':=⟨λpins s σ H Q I z=>h.h pins s σ H Q I (m σ H Q z)⟩
def AQ:FO:=λE Q=>Q none E
def EF (Fa:FE):FO:=λE Q=>Fa E λx E1=>i1 (vl E1 x) λi=>Q (some i) E1
theorem gJ:QO X none (Dh K AQ):=C3.le λσ H Q ⟨B,S,E,Q',hS,re,hF,lk⟩=>lk _ _ _ _ hF .refl re
theorem eQ (h:QE X e (aM K Fa)):QO X (some e) (Dh K (EF Fa)):=(Ze h).le λσ H Q ⟨B,S,E,Q',hS,re,hF,lk⟩=>⟨B,S,E,_,hS,re,hF,λr E1 v H1 S1 q g VQ rr=>by
 obtain ⟨i,e1,q⟩:=i1.ex q;exact ⟨i,VQ.int rr e1,lk _ _ _ _ q g VQ⟩⟩
variable {ar Gh:FO}
def GL (Fa:FE) (ar Gh:FO):FE:=λE Q=>Fa E λx E1=>ar E1 λlo E2=>Gh E2 λhi E3=>match vl E3 x with
 | some (.lst xs)=>Q (.s E3.length) (E3++[some (.o false (iN xs lo hi))])
 | _=>False
theorem iU {lo hi:Option Expr} {p2:Pos} (eK:X.K=K) (he:QE X e (aM K Fa)) (hl:QO X lo (Dh K ar)) (hu:QO X hi (Dh K Gh)):QE X (.Subscript e (.Slice lo hi none p2) pos) (aM K (GL Fa ar Gh)):=by
 subst eK;refine (uS Xw he hl hu).le λσ H Q _ ⟨B,S,E,Q',⟨τ,hS⟩,re,hF,lk⟩=>⟨B,S,E,_,⟨τ,hS⟩,re,hF,λx E1 v H1 S1 q g1 VQ rx=>?_⟩;obtain ⟨τ1,XX⟩:=g1.pre;refine ⟨B,S1,E1,_,⟨τ++τ1,by rw [XX,hS,LI]⟩,VQ,q,λl E2 H2 S2 q2 g2 WT=>?_⟩;obtain ⟨τ2,kq⟩:=g2.pre;refine ⟨B,S2,E2,_,⟨τ++τ1++τ2,by rw [kq,XX,hS,LI,LI,LI]⟩,WT,q2,λh E3 H3 S3 q3 g3 WW=>?_⟩;have yk:=(rx.step g2).step g3;split at q3
 ·rename_i xs e1;obtain ⟨a,vs,e2,sq,rs⟩:=WW.vl yk e1;refine ⟨a,vs,e2,sq,λp hp=>?_⟩;obtain ⟨g,VN⟩:=WW.lst hp (Us (lo:=l) (hi:=h) rs);exact lk _ _ _ _ _ q3 (((g1.trans g2).trans g3).trans g) VN (by rw [<-WW.len];exact lU)
 ·exact q3.elim
def ownOf (E:En):R->Option (List T)
 | .s j=>match E[j]? with
  | some (some (.o _ xs))=>some xs
  | _=>none
 | _=>none
theorem RE.ownOf {B:SO->Prop} {H:Hp} {S:St} {E:En} (re:RE K B H S E) {r:R} {v:V} {xs:List T} (h:RR K B H S E r v) (e:L2.ownOf E r=some xs):∃j k a vs,r = .s j/\E[j]? = some (some (.o k xs))/\S[j]? = some (some (.ref a))/\v = .ref a/\H a=some (.lst vs)/\cS K H (Ow B S E) xs vs:=by
 cases r with
 | p _=>cases e
 | s j=>
  cases q:E[j]? with
  | none=>simp only [L2.ownOf,q] at e;cases e
  | some u=>
   cases u with
   | none=>simp only [L2.ownOf,q] at e;cases e
   | some u=>
    cases u with
    | p _=>simp only [L2.ownOf,q] at e;cases e
    | o k ys=>
     simp only [L2.ownOf,q] at e;cases e;obtain ⟨a,vs,h1,h2,h3,_⟩:=re.own j k xs q;have h':S[j]? = some (some v):=h;rw [h'] at h1;cases h1;exact ⟨j,k,a,vs,rfl,q,h',rfl,h2,h3⟩
def l2 (x y:Option (List T)) (k:List T->List T->Prop):Prop:=match x,y with
 | some t,some u=>k t u
 | _,_=>False
theorem l2.ex {x y:Option (List T)} {k:List T->List T->Prop} (h:l2 x y k):∃t u,x=some t/\y=some u/\k t u:=by
 unfold l2 at h;split at h
 ·exact ⟨_,_,rfl,rfl,h⟩
 ·exact h.elim
def IG (Fa Fb:FE):FE:=λE Q=>Fa E λx E1=>Fb E1 λy E2=>l2 (ownOf E2 x) (ownOf E2 y) λxs ys=>xs.length+ys.length<=1000/\Q (.s E2.length) (E2++[some (.o false (xs++ys))])
theorem Et (ha:QE X a (aM K Fa)) (hb:QE X b (aM K Fb)):QE X (.BinOp a .Add b pos) (aM K (IG Fa Fb)):=by
 refine (Hz M8 ha hb).le λσ H Q hl h=>two (Fa:=Fa) (Fb:=Fb) h λB S E x y v w H2 Q' hS re rx ry q lk=>?_;obtain ⟨xs,ys,e1,e2,hz,q⟩:=l2.ex q;obtain ⟨j,k,p,vs,_,_,_,rfl,h2,h3⟩:=re.ownOf rx e1;obtain ⟨j',k',p',gv,_,_,_,rfl,fx,h3'⟩:=re.ownOf ry e2;refine ⟨p,p',vs,gv,rfl,rfl,h2,fx,by rw [h3.length,h3'.length];exact MY (bU hz),λr hr=>?_⟩;obtain ⟨g,VN⟩:=re.lst hr (h3.append h3');exact lk _ _ _ _ _ q g VN (by rw [<-re.len];exact lU)
def Xi (Fr:FA):FE:=λE Q=>Fr E λrs E1=>match rs with
 | [x]=>o1 ((vl E1 x).bind EX) λxs=>Q (.s E1.length) (E1++[some (.o false xs)])
 | _=>False
theorem Nx {n:Nat} {p:Pos} (eK:X.K=K) (hg:Gl X "list") (hm:X.mg "list" = none) (ha:QA X (e::es) (dS K n Fr)) (hs:bM (e::es)=true:=by rfl):QE X (.Call (.Name "list" p) (e::es) [] pos) (aM K (Xi Fr)):=by
 subst eK;refine (kI xN hg hm (by decide +kernel) ha (by decide) (by decide) hs).le λσ H Q hl h=>args (Fr:=Fr) h λB S E rs vs H2 Q' hS re rr hn q lk=>?_
 match rs,rr,q with
 | [x],⟨v,ws,e1,h1,h2⟩,q=>
  cases h2;subst e1;obtain ⟨xs,e2,q⟩:=o1.ex q;obtain ⟨t,e3,e2⟩:=RW.mp e2;have rt:=re.vl h1 e3;have:∃p us,v = .ref p/\(j4 X.K H2 p us\/rX X.K H2 p us)/\cS X.K H2 (Ow B S E) xs us:=by
   cases t with
   | tup ys=>cases e2;obtain ⟨p,us,e,sq,rs⟩:=rt;exact ⟨p,us,e,.inr sq,rs⟩
   | lst ys=>cases e2;obtain ⟨p,us,e,sq,rs⟩:=rt;exact ⟨p,us,e,.inl sq,rs⟩
   | _=>cases e2
  obtain ⟨p,us,rfl,sq,rs⟩:=this;refine ⟨p,us,rfl,sq,λr hr=>?_⟩;obtain ⟨g,VN⟩:=re.lst hr rs;exact lk _ _ _ _ _ q g VN (by rw [<-re.len];exact lU)
 | [],_,q=>exact q.elim
 | _::_::_,_,q=>exact q.elim
def U5 (Fr:FA):FE:=λE Q=>Fr E λrs E1=>match rs with
 | [x]=>(match vl E1 x with
  | some (.lst xs)=>Q (.p (.tup xs)) E1
  | _=>False)
 | _=>False
theorem uO {n:Nat} {p:Pos} (eK:X.K=K) (hg:Gl X "tuple") (hm:X.mg "tuple" = none) (ha:QA X (e::es) (dS K n Fr)) (hs:bM (e::es)=true:=by rfl):QE X (.Call (.Name "tuple" p) (e::es) [] pos) (aM K (U5 Fr)):=by
 subst eK;refine (kI vI hg hm (by decide +kernel) ha (by decide) (by decide) hs).le λσ H Q hl h=>args (Fr:=Fr) h λB S E rs vs H2 Q' hS re rr hn q lk=>?_
 match rs,rr,q with
 | [x],⟨v,ws,e1,h1,h2⟩,q=>
  cases h2;subst e1;simp only at q;split at q
  ·rename_i xs e2;obtain ⟨p,us,rfl,sq,rs⟩:=re.vl h1 e2;refine ⟨p,us,rfl,.inl ⟨sq,λr hr=>?_⟩⟩;obtain ⟨g,VN,rp⟩:=re.tup hr rs;exact lk _ _ _ _ _ q g VN rp
  ·exact q.elim
 | [],_,q=>exact q.elim
 | _::_::_,_,q=>exact q.elim
def jN:List T->Option (List Bool)
 | []=>some []
 | .bl b::xs=>(jN xs).map (b::·)
 | _=>none
theorem Fh {H:Hp} {O:SO->Prop}:∀{xs:List T} {vs:List V} {bs:List Bool},cS K H O xs vs->jN xs=some bs->vs=bs.map V.bl
 | [],_,_,h,e=>by cases e;exact h
 | .bl b::xs,_,bs,⟨v,r,e1,h1,h2⟩,e=>by
  cases q:jN xs with
  | none=>rw [jN,q] at e;cases e
  | some cs=>
   rw [jN,q] at e;cases e;cases h1;rw [e1,Fh h2 q];rfl
 | .non::_,_,_,_,e=>by cases e
 | .int _::_,_,_,_,e=>by cases e
 | .str _::_,_,_,_,e=>by cases e
 | .tup _::_,_,_,_,e=>by cases e
 | .lst _::_,_,_,_,e=>by cases e
def HV (Fr:FA):FE:=λE Q=>Fr E λrs E1=>match rs with
 | [x]=>(match vl E1 x with
  | some (.lst xs)=>o1 (jN xs) λbs=>Q (.p (.bl (bs.all id))) E1
  | _=>False)
 | _=>False
theorem U7 {n:Nat} {p:Pos} (eK:X.K=K) (hc:X.calm=true) (hg:Gl X "all") (hm:X.mg "all" = none) (ha:QA X (e::es) (dS K n Fr)) (hs:bM (e::es)=true:=by rfl):QE X (.Call (.Name "all" p) (e::es) [] pos) (aM K (HV Fr)):=by
 subst eK;refine (eU (Mj hc) hg hm boot_all ha (by decide) (by decide) hs).le λσ H Q hl h=>args (Fr:=Fr) h λB S E rs vs H2 Q' hS re rr hn q lk=>?_
 match rs,rr,q with
 | [x],⟨v,ws,e1,h1,h2⟩,q=>
  cases h2;subst e1;simp only at q;split at q
  ·rename_i xs e2;obtain ⟨p,us,rfl,sq,rs⟩:=re.vl h1 e2;obtain ⟨bs,e3,q⟩:=o1.ex q;refine ⟨p,bs,rfl,by rw [<-Fh rs e3];exact sq,lk _ _ _ _ _ q .refl re rfl⟩
  ·exact q.elim
 | [],_,q=>exact q.elim
 | _::_::_,_,q=>exact q.elim
def Fj (f:List T->R->En->Option (List T)) (Fo:FE) (Fr:FA):FE:=λE Q=>Fo E λo E1=>o1 (ownOf E1 o) λ_=>Fr E1 λrs E2=>match o,rs with
 | .s j,[r]=>(match E2[j]? with
  | some (some (.o k xs))=>o1 (f xs r E2) λys=>ys.length<=1000/\Q (.p .non) (E2.set j (some (.o k ys)))
  | _=>False)
 | _,_=>False
def GX (xs:List T) (r:R) (E:En):Option (List T):=match r with
 | .p t=>some (xs++[t])
 | _=>none
def DP (xs:List T) (r:R) (E:En):Option (List T):=(ownOf E r).map (xs++·)
theorem D5 {f:List T->R->En->Option (List T)} {r:V->List V->Hp->VK->Prop} {n:Nat} {σ:St} {H:Hp} {Q:VK} (eK:X.K=K) (h:aM K (Fj f Fo Fr) σ H Q)
  (hr:∀(B:SO->Prop) (S:St) (E:En) (H2:Hp) (xs ys:List T) (rr:R) (y:V) (p:SO) (vs:List V) (Q:VK),RE K B H2 S E->RR K B H2 S E rr y->f xs rr E=some ys->H2 p=some (.lst vs)->cS K H2 (Ow B S E) xs vs->ys.length<=1000->
   (∀ws,cS K H2 (Ow B S E) ys ws->Q .non (upd H2 p (.lst ws)))->r (.ref p) [y] H2 Q):EL X.K "list" r (aM K Fo) (dS K n Fr) σ H Q:=by
 subst eK;obtain ⟨B,S,E,Q',⟨τ,hS⟩,re,hF,lk⟩:=h;refine ⟨B,S,E,_,⟨τ,hS⟩,re,hF,λoo E1 v H1 S1 q g1 VQ rx=>?_⟩;obtain ⟨τ1,XX⟩:=g1.pre;obtain ⟨ju,e0,q⟩:=o1.ex q;obtain ⟨j,k,p,vs,rfl,hE,uh,rfl,h2,h3⟩:=VQ.ownOf rx e0;refine ⟨.inl ⟨rfl,vs,j4.of h2⟩,B,S1,E1,_,⟨τ++τ1,by rw [XX,hS,LI]⟩,VQ,q,λrs E2 us H2 S2 q2 g2 WT rr hn=>?_⟩;have ZM:S2[j]? = some (some (.ref p)):=fH g2.pre uh
 match rs,rr,q2 with
 | [r'],⟨y,ws,e1,k1,k2⟩,q2=>
  cases k2;subst e1;simp only at q2;split at q2
  ·rename_i k2 xs ui;obtain ⟨ys,e3,hz,q2⟩:=o1.ex q2;obtain ⟨p',mh,z1,z2,z3,_⟩:=WT.own j k2 xs ui;rw [ZM] at z1;cases z1;refine hr B S2 E2 H2 xs ys r' y p mh Q WT k1 e3 z2 z3 hz λws hw=>?_;obtain ⟨g3,WW⟩:=WT.put ui ZM hw;exact lk _ _ _ _ _ q2 ((g1.trans g2).trans g3) WW rfl
  ·exact q2.elim
 | [],_,q2=>exact q2.elim
 | _::_::_,_,q2=>exact q2.elim
theorem dX {n:Nat} {ap:Pos} (eK:X.K=K) (ho:QE X o (aM K Fo)) (ha:QA X [e] (dS K n Fr)) (WN:TV o "append" X.env (TL o X.env)=TL o X.env:=by rfl) (WO:(ap.endLine==pos.line)=true:=by rfl) (hs:cC e=false:=by rfl) :
  QE X (.Call (.Attribute o "append" ap) [e] [] pos) (aM K (Fj GX Fo Fr)):=
 (wF ho ha WN WO hs).le λσ H Q hl h=>D5 eK h λB S E H2 xs ys rr y p vs Q re rx e hp hv hz k=>by
  cases rr with
  | s _=>cases e
  | p t=>
   cases e;refine ⟨p,vs,y,rfl,rfl,hp,?_,k _ (hv.append ⟨y,[],rfl,rx,rfl⟩)⟩;rw [hv.length];rw [LC] at hz;exact bU (by simp at hz;omega)
theorem wC {n:Nat} {ap:Pos} (eK:X.K=K) (ho:QE X o (aM K Fo)) (ha:QA X [e] (dS K n Fr)) (WN:TV o "extend" X.env (TL o X.env)=TL o X.env:=by rfl) (WO:(ap.endLine==pos.line)=true:=by rfl) (hs:cC e=false:=by rfl) :
  QE X (.Call (.Attribute o "extend" ap) [e] [] pos) (aM K (Fj DP Fo Fr)):=
 QE.le (t:=EL X.K "list" Lu (aM K Fo) (dS K n Fr)) ⟨Jv PySem.F.plainAttrs_list PySem.F.slot_list_extend PySem.F.type_list_extend Nm ho.h ha.h WN (by rw [cG hs];rfl) WO (cG hs) (fB rfl)⟩ λσ H Q hl h=>D5 eK h λB S E H2 xs ys rr y p vs Q re rx e hp hv hz k=>by
  unfold DP at e;cases q:ownOf E rr with
  | none=>rw [q] at e;cases e
  | some zs=>
   rw [q] at e;cases e;obtain ⟨j,kk,p',gv,_,_,_,rfl,h2,h3⟩:=re.ownOf rx q;refine ⟨p,p',vs,gv,rfl,rfl,hp,h2,?_,k _ (hv.append h3)⟩;rw [hv.length,h3.length];rw [LC] at hz;exact MY (bU hz)
end
end L2
namespace L2
open PySem PySem.Spec PyProof.Rows
abbrev fQ (h:Heap) (T:SO) (xs:Array Value):Prop:=h.get? T=some { cls:=.type "tuple",data:=.seq xs }
end L2
namespace L2
open PySem PySem.Spec PyProof.Rows
structure ZQ where
 κ:Bool
 a:SO
 it:SO
 items:Array Value
structure ZA (z TI TO:SO) (ps:List ZQ):Prop where
 tz:TI≠z
 oz:TO≠z
 to:TI≠TO
 iz:∀p∈ps,p.it≠z/\p.it≠TI/\p.it≠TO
 az:∀p∈ps,p.a≠z/\p.a≠TO
 ai:∀p∈ps,∀q∈ps,p.a≠q.it
 ii:∀(i j:Nat) (p q:ZQ),ps[i]? = some p->ps[j]? = some q->p.it=q.it->i=j
section
variable {prog:SS} {w:SW} {A:Around} {E:Value->Shared->Prop} {s:Shared}
theorem Bu {α β:Type} {M:Model} {body:α->β->Sem (ForInStep β)} {b0:β}:∀(xs:List α) (W:Nat->Shared->Prop) (s:Shared) (Q:β->Shared->Prop),
  (∀j x s,xs[j]? = some x->W j s->SU M A (body x b0) (λr s'=>r = .yield b0/\W (j+1) s') E s)->W 0 s->(∀s',W xs.length s'->Q b0 s')->SU M A (forIn xs b0 body) Q E s
 | [],W,s,Q,_,h0,hq=>by
  rw [List.forIn_nil];exact SV (hq s h0)
 | x::xs,W,s,Q,hs,h0,hq=>by
  rw [QR];refine SQ (dM (hs 0 x s rfl h0) λr s' ⟨e,h1⟩=>?_);subst e;exact Bu xs (λj=>W (j+1)) s' Q (λj y fu hy hw=>hs (j+1) y fu (by simpa using hy) hw) h1 (λfu h=>hq fu (by simpa using h))
theorem rF {α β:Type} {M:Model} {body:α->β->Sem (ForInStep β)} {b0:β}:∀(m:Nat) (xs:List α) (W:Nat->Shared->Prop) (s:Shared) (Q:β->Shared->Prop) (y:α),xs[m]? = some y->
  (∀j x s,j<m->xs[j]? = some x->W j s->SU M A (body x b0) (λr s'=>r = .yield b0/\W (j+1) s') E s)->W 0 s->(∀s',W m s'->SU M A (body y b0) (λ_ _=>False) E s')->SU M A (forIn xs b0 body) Q E s
 | m,[],W,s,Q,y,hy,_,_,_=>by simp at hy
 | 0,x::xs,W,s,Q,y,hy,hs,h0,hm=>by
  rw [QR];simp at hy;subst hy;exact SQ (dM (hm s h0) λ_ _ z=>z.elim)
 | m+1,x::xs,W,s,Q,y,hy,hs,h0,hm=>by
  rw [QR];refine SQ (dM (hs 0 x s (by omega) rfl h0) λr s' ⟨e,h1⟩=>?_);subst e;exact rF m xs (λj=>W (j+1)) s' Q y (by simpa using hy) (λj z fu hj hz hw=>hs (j+1) z fu (by omega) (by simpa using hz) hw) h1 hm
def ZW (s:Shared) (z TI TO:SO) (ps:List ZQ) (k j:Nat) (s':Shared):Prop:=∃(h:Heap) (tk:Nat),s' = { s with heap:=h,toks:=tk }/\UY h z TI TO .ellipsis/\
 (∃cur:Array Value,fQ h TO cur/\cur.size=ps.length/\∀(l:Nat) (q:ZQ),l<j->ps[l]? = some q->∃x,q.items[k]? = some x/\cur[l]? = some x)/\
 (∀(l:Nat) (q:ZQ),ps[l]? = some q->iI q.κ h q.it q.a (if l<j then k+1 else k)/\rN q.κ h q.a q.items)/\
 (∀c o,c≠z->c≠TO->(∀q∈ps,c≠q.it)->s.heap.get? c=some o->h.get? c=some o)/\h.objs.size=s.heap.objs.size
theorem rN.at {κ:Bool} {h h':Heap} {a:SO} {VI:Array Value} (x:rN κ h a VI) (e:∀o,h.get? a=some o->h'.get? a=some o):rN κ h' a VI:=by
 cases κ
 ·exact Heap.IsList.at x e
 ·exact Heap.IsTuple.at x e
theorem fO {ps:List ZQ} {l:Nat} {q:ZQ} (h:ps[l]? = some q):q∈ps:=KZ h
theorem G7 {z TI TO:SO} {ps:List ZQ} {k j:Nat} {q:ZQ} (hA:A.handled=none) (ap:ZA z TI TO ps) (hl:ps.length<=1000) (hq:ps[j]? = some q) (hk:k<q.items.size) {s':Shared} (W:ZW s z TI TO ps k j s') {Q:Option Value->Shared->Prop}
  (g:∀x s2,(∃(h:Heap) (tk:Nat),s2 = { s with heap:=h,toks:=tk }/\q.items[k]? = some x/\UY h z TI TO .ellipsis/\
    (∃cur:Array Value,fQ h TO cur/\cur.size=ps.length/\∀(l:Nat) (q:ZQ),l<j->ps[l]? = some q->∃x,q.items[k]? = some x/\cur[l]? = some x)/\
    (∀(l:Nat) (q:ZQ),ps[l]? = some q->iI q.κ h q.it q.a (if l<j+1 then k+1 else k)/\rN q.κ h q.a q.items)/\
    (∀c o,c≠z->c≠TO->(∀q∈ps,c≠q.it)->s.heap.get? c=some o->h.get? c=some o)/\h.objs.size=s.heap.objs.size)->Q (some x) s2) :
  SU (TC prog w) A (Builtin.SmallTypes.nextOf (.ref q.it) >>= λx=>pure (some x)) Q E s':=by
 obtain ⟨h,tk,rfl,hz,⟨cur,c1,c2,c3⟩,hi,kp,gy⟩:=W;have ic:=fO hq;have D:=Tj (prog:=prog) (w:=w) q.κ hA q.it q.a (ap.ai q ic q ic) q.items;obtain ⟨i1,i2⟩:=hi j q hq;rw [if_neg (Nat.lt_irrefl j)] at i1;refine SQ (D.item k _ _ _ hk ⟨i1,i2⟩ λx hb tb px gb sb=>SV (g x _ ⟨hb,tb,rfl,px,?_,⟨cur,?_,c2,c3⟩,λl p hp=>?_,λc o n1 n2 n3 e=>?_,?_⟩))
 ·exact sb.extBut _ _ (Ne.symm (ap.iz q ic).1) hz
 ·exact sb.extBut _ _ (Ne.symm (ap.iz q ic).2.2) c1
 ·by_cases e:l=j
  ·subst e;rw [hq] at hp;cases hp;rw [if_pos (Nat.lt_succ_self _)];exact gb
  ·obtain ⟨a1,a2⟩:=hi l p hp;have ne:p.it≠q.it:=λz=>e (ap.ii l j p q hp hq z);have el:(if l<j+1 then k+1 else k)=(if l<j then k+1 else k):=by
    by_cases c:l<j
    ·rw [if_pos c,if_pos (by omega)]
    ·rw [if_neg c,if_neg (by omega)]
   rw [el];exact ⟨a1.at λo x=>sb.extBut _ _ ne x,a2.at λo x=>sb.extBut _ _ (ap.ai p (fO hp) q ic) x⟩
 ·exact sb.extBut _ _ (n3 q ic) (kp c o n1 n2 n3 e)
 ·rw [sb.1];exact gy
theorem Nk {z TI TO:SO} {ps:List ZQ} {k:Nat} {old:Array Value} {Q:Value->Shared->Prop} (hA:A.handled=none) (ap:ZA z TI TO ps) (YC:ps≠[]) (hl:ps.length<=1000)
  (gz:UY s.heap z TI TO .none) (gI:fQ s.heap TI (ps.map λp=>MX p.it).toArray) (gO:fQ s.heap TO old) (ho:old.size=ps.length)
  (gi:∀p∈ps,iI p.κ s.heap p.it p.a k/\rN p.κ s.heap p.a p.items) (gk:∀p∈ps,k<p.items.size)
  (gq:∀(xs:List Value) h' tk,xs.length=ps.length->(∀(l:Nat) (q:ZQ),ps[l]? = some q->∃x,q.items[k]? = some x/\xs[l]? = some x)->UY h' z TI TO (rawInt s.heap.objs.size)->(∃cur:Array Value,fQ h' TO cur/\cur.size=ps.length)->
   (∀p∈ps,iI p.κ h' p.it p.a (k+1))->fQ h' s.heap.objs.size xs.toArray->h'.objs.size=s.heap.objs.size+1->
   (∀c o,c≠z->c≠TO->(∀q∈ps,c≠q.it)->s.heap.get? c=some o->h'.get? c=some o)->Q (.ref s.heap.objs.size) { s with heap:=h',toks:=tk }) :
  SU (TC prog w) A (Builtin.«zip.__next__» ⟨[.ref z],[]⟩) (λfin s'=>∃v,fin = .done (.ret v)/\Q v s') E s:=by
 show SU _ _ (field (.ref z) 2 >>= _) _ _ _;refine SQ (TN gz rfl (x:=.bool false) rfl ?_);show SU _ _ (field (.ref z) 3 >>= _) _ _ _;refine SQ (TN gz rfl (x:=.ref TI) rfl (SQ (UH gI rfl ?_)));have ym:((ps.map λp=>MX p.it).toArray).isEmpty=false:=by
  cases ps with
  | nil=>exact absurd rfl YC
  | cons p r=>simp
 simp only [ym,OC,if_false];refine SQ ?_;unfold Builtin.SmallTypes.ownedTupleIsFree;refine SQ (TN gz rfl (x:=.none) rfl (SV ?_));simp only [if_true];refine SQ (UN (SQ (TN gz rfl (x:=.ref TO) rfl (SQ (UK gz (by simp) λha za sa=>?_)))));have yn:UY ha z TI TO .ellipsis:=za;refine SQ ?_;have W0:ZW s z TI TO ps k 0 { s with heap:=ha }:=by
  refine ⟨ha,s.toks,rfl,yn,⟨old,sa.extBut _ _ ap.oz gO,ho,λl q h=>absurd h (PU _)⟩,λl q hq=>?_,λc o n1 n2 n3 e=>sa.extBut _ _ n1 e,sa.1⟩;obtain ⟨g1,g2⟩:=gi q (fO hq);rw [if_neg (PU _)];exact ⟨g1.at λo e=>sa.extBut _ _ (ap.iz q (fO hq)).1 e,g2.at λo e=>sa.extBut _ _ (ap.az q (fO hq)).1 e⟩
 refine Bu _ (ZW s z TI TO ps k) _ _ (λj x s' hx hW=>?_) W0 (λs' hW=>?_)
 ·have hxq:∃q,ps[j]? = some q/\x=(MX q.it,j):=by
   rw [NA] at hx;simp only [LK,Option.map_map] at hx;cases q:ps[j]? with
   | none=>simp [q] at hx
   | some p=>simp [q] at hx;exact ⟨p,rfl,hx.symm⟩
  obtain ⟨q,hq,rfl⟩:=hxq;have hj:j<ps.length:=(KU.mp hq).1;refine SQ (wpAny_onRaise ?_);show SU _ _ (Builtin.SmallTypes.nextOf (.ref q.it) >>= _) _ _ _;refine G7 hA ap hl hq (gk q (fO hq)) hW λx s2 ⟨h,tk,es,px,hz,⟨cur,c1,c2,c3⟩,hi,kp,gy⟩=>?_;subst es;have ig:h.get? TO=some { cls:=.type "tuple",data:=.seq cur }:=c1;refine SQ (UH ig rfl (SQ (wpAny_updateSeq ig rfl ?_ (by rw [c2];exact MY (bU hl)) (by simp;rw [c2];exact Nat.le_succ_of_le (MY (bU hl))))));refine SQ (wpAny_letGo (SV ⟨rfl,?_⟩));have su:OR TO h (h.update TO (OA (·.setIfInBounds j x))):=Heap.SameBut.update ..;have gu:fQ (h.update TO (OA (·.setIfInBounds j x))) TO (cur.setIfInBounds j x):=by
   show (h.update TO (OA (·.setIfInBounds j x))).get? TO=_;rw [OJ _ ig rfl];simp [OA]
  refine ⟨_,tk,rfl,su.extBut _ _ (Ne.symm ap.oz) hz,⟨_,gu,by simp [c2],λl p ik hp=>?_⟩,λl p hp=>?_,λc o n1 n2 n3 e=>su.extBut _ _ n2 (kp c o n1 n2 n3 e),by rw [su.1];exact gy⟩
  ·by_cases e:l=j
   ·subst e;rw [hq] at hp;cases hp;exact ⟨x,px,by rw [PN (by rw [c2];exact hj)]⟩
   ·obtain ⟨y,y1,y2⟩:=c3 l p (by omega) hp;exact ⟨y,y1,by rw [QP (λz=>e z.symm)];exact y2⟩
  ·obtain ⟨a1,a2⟩:=hi l p hp;exact ⟨a1.at λo e=>su.extBut _ _ (ap.iz p (fO hp)).2.2 e,a2.at λo e=>su.extBut _ _ (ap.az p (fO hp)).2 e⟩
 ·obtain ⟨he,tk,rfl,hz,⟨cur,c1,c2,c3⟩,hi,kp,gy⟩:=hW;have ll:(List.zipIdx (ps.map λp=>MX p.it).toArray.toList).length=ps.length:=by simp
  have ig:he.get? TO=some { cls:=.type "tuple",data:=.seq cur }:=c1;refine SQ (UH ig rfl (SQ (wpAny_newTuple ?_ (by simp;rw [c2];exact MY (bU hl)))));have zlt:z<he.objs.size:=LL hz;show SU _ _ (Builtin.SmallTypes.ownedTupleHandOut (.ref z) (.ref he.objs.size) >>= _) _ _ _;refine SQ ?_;unfold Builtin.SmallTypes.ownedTupleHandOut;have zf:UY (he.push { cls:=.type "tuple",data:=.seq cur.toList.toArray }) z TI TO .ellipsis:=LG _ hz;refine SQ (UK zf (by simp) λhg zg sg=>?_);have zg':UY hg z TI TO (rawInt he.objs.size):=zg;refine UK zg' (by simp) λhh zh sh=>?_;have zh':UY hh z TI TO (rawInt he.objs.size):=zh;have up:∀c o,c≠z->he.get? c=some o->hh.get? c=some o:=λc o q e=>sh.extBut _ _ q (sg.extBut _ _ q (LG _ e));have gTh:fQ hh he.objs.size cur.toList.toArray:=sh.extBut _ _ (Nat.ne_of_gt zlt) (sg.extBut _ _ (Nat.ne_of_gt zlt) (LR _ rfl));have szz:hh.objs.size=he.objs.size+1:=by rw [sh.1,sg.1,QD]
  rw [gy] at zh' gTh szz;refine SV ⟨_,rfl,?_⟩;show Q (.ref he.objs.size) _;rw [gy];refine gq cur.toList hh tk (by simp [c2]) (λl q hq=>?_) zh' ⟨cur,up _ _ ap.oz c1,c2⟩ (λp hp=>?_) gTh szz λc o n1 n2 n3 e=>up c o n1 (kp c o n1 n2 n3 e)
  ·obtain ⟨x,x1,x2⟩:=c3 l q (by rw [ll];exact (KU.mp hq).1) hq;exact ⟨x,x1,by simpa using x2⟩
  ·obtain ⟨l,ik⟩:=NB hp;obtain ⟨a1,_⟩:=hi l p ik;rw [ll,if_pos (KU.mp ik).1] at a1;exact a1.at λo e=>up _ _ (ap.iz p hp).1 e
theorem Mq {z TI TO:SO} {ps:List ZQ} {k m:Nat} {p:ZQ} {old:Array Value} {Q:Fin->Shared->Prop} (hA:A.handled=none) (ap:ZA z TI TO ps) (hl:ps.length<=1000)
  (gz:UY s.heap z TI TO .none) (gI:fQ s.heap TI (ps.map λp=>MX p.it).toArray) (gO:fQ s.heap TO old) (ho:old.size=ps.length)
  (gi:∀p∈ps,iI p.κ s.heap p.it p.a k/\rN p.κ s.heap p.a p.items) (hm:ps[m]? = some p) (hpk:p.items.size=k) (gk:∀(j:Nat) (q:ZQ),j<m->ps[j]? = some q->k<q.items.size)
  (ge:∀h' tk e,(∀c o,c≠z->c≠TO->(∀q∈ps,c≠q.it)->s.heap.get? c=some o->h'.get? c=some o)->(∃o,h'.get? e=some o/\o.cls = .type "StopIteration")->E (.ref e) { s with heap:=h',toks:=tk }) :
  SU (TC prog w) A (Builtin.«zip.__next__» ⟨[.ref z],[]⟩) Q E s:=by
 show SU _ _ (field (.ref z) 2 >>= _) _ _ _;refine SQ (TN gz rfl (x:=.bool false) rfl ?_);show SU _ _ (field (.ref z) 3 >>= _) _ _ _;refine SQ (TN gz rfl (x:=.ref TI) rfl (SQ (UH gI rfl ?_)));have ym:((ps.map λp=>MX p.it).toArray).isEmpty=false:=by
  cases ps with
  | nil=>simp at hm
  | cons p r=>simp
 simp only [ym,OC,if_false];refine SQ ?_;unfold Builtin.SmallTypes.ownedTupleIsFree;refine SQ (TN gz rfl (x:=.none) rfl (SV ?_));simp only [if_true];refine SQ (UN (SQ (TN gz rfl (x:=.ref TO) rfl (SQ (UK gz (by simp) λha za sa=>?_)))));have yn:UY ha z TI TO .ellipsis:=za;refine SQ ?_;have W0:ZW s z TI TO ps k 0 { s with heap:=ha }:=by
  refine ⟨ha,s.toks,rfl,yn,⟨old,sa.extBut _ _ ap.oz gO,ho,λl q h=>absurd h (PU _)⟩,λl q hq=>?_,λc o n1 n2 n3 e=>sa.extBut _ _ n1 e,sa.1⟩;obtain ⟨g1,g2⟩:=gi q (fO hq);rw [if_neg (PU _)];exact ⟨g1.at λo e=>sa.extBut _ _ (ap.iz q (fO hq)).1 e,g2.at λo e=>sa.extBut _ _ (ap.az q (fO hq)).1 e⟩
 have atj:∀{j:Nat} {x:Value×Nat},(List.zipIdx (ps.map λp=>MX p.it).toArray.toList)[j]? = some x->∃q,ps[j]? = some q/\x=(MX q.it,j):=λ{j x} hx=>by
  rw [NA] at hx;simp only [LK,Option.map_map] at hx;cases q:ps[j]? with
  | none=>simp [q] at hx
  | some p=>simp [q] at hx;exact ⟨p,rfl,hx.symm⟩
 refine rF m _ (ZW s z TI TO ps k) _ _ (MX p.it,m) (by rw [NA];simp [hm]) (λj x s' hjm hx hW=>?_) W0 (λs' hW=>?_)
 ·obtain ⟨q,hq,rfl⟩:=atj hx;have hj:j<ps.length:=(KU.mp hq).1;refine SQ (wpAny_onRaise ?_);show SU _ _ (Builtin.SmallTypes.nextOf (.ref q.it) >>= _) _ _ _;refine G7 hA ap hl hq (gk j q hjm hq) hW λx s2 ⟨h,tk,es,px,hz,⟨cur,c1,c2,c3⟩,hi,kp,gy⟩=>?_;subst es;have ig:h.get? TO=some { cls:=.type "tuple",data:=.seq cur }:=c1;refine SQ (UH ig rfl (SQ (wpAny_updateSeq ig rfl ?_ (by rw [c2];exact MY (bU hl)) (by simp;rw [c2];exact Nat.le_succ_of_le (MY (bU hl))))));refine SQ (wpAny_letGo (SV ⟨rfl,?_⟩));have su:OR TO h (h.update TO (OA (·.setIfInBounds j x))):=Heap.SameBut.update ..;have gu:fQ (h.update TO (OA (·.setIfInBounds j x))) TO (cur.setIfInBounds j x):=by
   show (h.update TO (OA (·.setIfInBounds j x))).get? TO=_;rw [OJ _ ig rfl];simp [OA]
  refine ⟨_,tk,rfl,su.extBut _ _ (Ne.symm ap.oz) hz,⟨_,gu,by simp [c2],λl p ik hp=>?_⟩,λl p hp=>?_,λc o n1 n2 n3 e=>su.extBut _ _ n2 (kp c o n1 n2 n3 e),by rw [su.1];exact gy⟩
  ·by_cases e:l=j
   ·subst e;rw [hq] at hp;cases hp;exact ⟨x,px,by rw [PN (by rw [c2];exact hj)]⟩
   ·obtain ⟨y,y1,y2⟩:=c3 l p (by omega) hp;exact ⟨y,y1,by rw [QP (λz=>e z.symm)];exact y2⟩
  ·obtain ⟨a1,a2⟩:=hi l p hp;exact ⟨a1.at λo e=>su.extBut _ _ (ap.iz p (fO hp)).2.2 e,a2.at λo e=>su.extBut _ _ (ap.az p (fO hp)).2 e⟩
 ·obtain ⟨h,tk,rfl,hz,_,hi,kp,gy⟩:=hW;have pe:=fO hm;have D:=Tj (prog:=prog) (w:=w) p.κ hA p.it p.a (ap.ai p pe p pe) p.items;obtain ⟨i1,i2⟩:=hi m p hm;rw [if_neg (Nat.lt_irrefl m)] at i1;refine SQ (wpAny_onRaise ?_);show SU _ _ (Builtin.SmallTypes.nextOf (.ref p.it) >>= _) _ _ _;refine SQ (D.done _ _ _ (by rw [hpk];exact ⟨i1,i2⟩) λhb e sb he=>?_);obtain ⟨oe,q1,q2⟩:=he;have sb':Heap.ExtBut p.it h hb:=sb;have zb:UY hb z TI TO .ellipsis:=sb' _ _ (Ne.symm (ap.iz p pe).1) hz;have hez:e≠z:=λx=>by subst x;rw [zb] at q1;cases q1;simp at q2
  exact UK zb (by simp) λhc _ sc=>ge hc tk e (λc o c1 c2 c3 x=>sc.extBut _ _ c1 (sb' _ _ (c3 p pe) (kp c o c1 c2 c3 x))) ⟨oe,sc.extBut _ _ hez q1,q2⟩
end
def Ag (κ:Bool) (K:W.Frag) (H:Hp) (a:SO) (xs:List V):Prop:=match κ with
 | true=>rX K H a xs
 | false=>j4 K H a xs
section
variable {X:Cx} {pins:List (SO×Obj)} {σ:St} {H:Hp} {s:Shared}
theorem aY.sqK (I:aY X pins σ H s) {κ:Bool} {a:SO} {xs:List V} (h:Ag κ X.K H a xs):∃VI:List Value,bE xs VI/\rN κ s.heap a VI.toArray:=by
 cases κ
 ·obtain ⟨VI,r,p,_⟩:=I.list h;exact ⟨VI,r,p.isList⟩
 ·obtain ⟨VI,r,p,_⟩:=I.tuple h;exact ⟨VI,r,p⟩
theorem aY.sqK_inj (I:aY X pins σ H s) {κ:Bool} {a:SO} {xs ys:List V} (h:Ag κ X.K H a xs) (h':Ag κ X.K H a ys):xs=ys:=by
 cases κ
 ·exact I.list_inj h h'
 ·exact I.tuple_inj h h'
theorem aY.notfp (I:aY X pins σ H s) {κ:Bool} {a b:SO} {xs:List V} (h:Ag κ X.K H a xs) (f:pE X pins H b):a≠b:=by
 have kk:∀{o:Obj},X.K.lookup a=some o->a≠b:=λ{o} hk z=>by
  have hb:X.base.get? a=some o:=I.mod.kin a o hk;subst z;rcases f.2.2.2.1 with z | z
  ·exact I.ok.noex a o hb z
  ·exact absurd (LO (LO (LL hb) I.ok.bsz) z) (Nat.lt_irrefl _)
 have hh:∀{u:HO},Rd H a u->a≠b:=λ{u} r z=>by
  subst z;have:=f.1;rcases r with r | ⟨o,r⟩
  ·rw [this] at r;cases r
  ·rw [this] at r;cases r
 cases κ
 ·rcases h with h | ⟨o,VI,n,hk,_⟩
  ·exact hh h
  ·exact kk hk
 ·rcases h with h | ⟨o,VI,n,hk,_⟩
  ·exact hh h
  ·exact kk hk
theorem IK (I:aY X pins σ H s):∀(ps:List (Bool×SO)) (VI:List SO),VI.length=ps.length->(∀p∈ps,∃xs,Ag p.1 X.K H p.2 xs)->
  ∃qs:List ZQ,qs.map (λq=>(q.κ,q.a))=ps/\qs.map (·.it)=VI/\∀q∈qs,rN q.κ s.heap q.a q.items/\∃xs,Ag q.κ X.K H q.a xs/\bE xs q.items.toList
 | [],[],_,_=>⟨[],rfl,rfl,λq h=>absurd h (by simp)⟩
 | [],_::_,e,_=>by simp at e
 | _::_,[],e,_=>by simp at e
 | p::ps,it::VI,e,h=>by
  obtain ⟨qs,h1,h2,h3⟩:=IK I ps VI (by simpa using e) λq hq=>h q (by simp [hq]);obtain ⟨xs,hx⟩:=h p (by simp);obtain ⟨vs,r,sk⟩:=I.sqK hx;refine ⟨⟨p.1,p.2,it,vs.toArray⟩::qs,by simp [h1],by simp [h2],λq hq=>?_⟩;rcases KR.mp hq with rfl | hq
  ·exact ⟨sk,xs,hx,by simpa using r⟩
  ·exact h3 q hq
end
def HW (K:W.Frag) (ps:List (Bool×SO)):It:=
  ⟨λi H=>∀p∈ps,∃xs x,Ag p.1 K H p.2 xs/\xs[i]? = some x,
   λi H v H'=>∃(q:SO) (ys:List V),v = .ref q/\H q=none/\H'=upd H q (.tup ys)/\ys.length=ps.length/\∀(j:Nat) (p:Bool×SO) (y:V),ps[j]? = some p->ys[j]? = some y->∀xs,Ag p.1 K H p.2 xs->xs[i]? = some y,
   λi H=>(∀p∈ps,∃xs,Ag p.1 K H p.2 xs)/\∃(m:Nat) (p:Bool×SO),ps[m]? = some p/\(∃xs,Ag p.1 K H p.2 xs/\xs.length=i)/\∀(j:Nat) (q:Bool×SO),j<m->ps[j]? = some q->∃xs x,Ag q.1 K H q.2 xs/\xs[i]? = some x⟩
def ZT (z TI TO:SO) (ps:List (Bool×SO)) (VI:List SO) (i:Nat) (h:Heap):Prop:=UY h z TI TO .none/\fQ h TI (VI.map MX).toArray/\(∃old:Array Value,fQ h TO old/\old.size=ps.length)/\
 ∀(j:Nat) (p:Bool×SO) (it:SO),ps[j]? = some p->VI[j]? = some it->iI p.1 h it p.2 i
theorem Na {P:SS} {w:SW} {K:W.Frag} {elts:List Expr} {x1} {WZ:Pos} (z TI TO:SO) (ps:List (Bool×SO)) (VI:List SO) (hl:VI.length=ps.length) (YC:ps≠[]) (hz:ps.length<=1000) (nd:(z::TI::TO::VI).Nodup) :
  Ge P w K (.Tuple elts x1 WZ) (HW K ps) (z::TI::TO::VI) z (ZT z TI TO ps VI):=by
 simp only [OH,KR,not_or] at nd;obtain ⟨⟨n1,n2,n3⟩,⟨n4,n5⟩,n6,n7⟩:=nd;have apart:∀{X:Cx} {pins:List (SO×Obj)} {σ:St} {H:Hp} {s:Shared} {qs:List ZQ},aY X pins σ H s->(∀c∈z::TI::TO::VI,pE X pins H c)->qs.map (·.it)=VI->(∀q∈qs,∃xs,Ag q.κ X.K H q.a xs)->ZA z TI TO qs:=by
  intro X pins σ H s qs I hf e1 hq;have mi:∀q∈qs,q.it∈VI:=λq hq=>by rw [<-e1];exact QY hq
  refine ⟨λe=>n1 e.symm,λe=>n2 e.symm,n4,λp hp=>⟨λe=>n3 (e ▸ mi p hp),λe=>n5 (e ▸ mi p hp),λe=>n6 (e ▸ mi p hp)⟩,λp hp=>?_,λp hp q cn=>?_,λi j p q hi hj e=>?_⟩
  ·obtain ⟨xs,hx⟩:=hq p hp;exact ⟨I.notfp hx (hf z (by simp)),I.notfp hx (hf TO (by simp))⟩
  ·obtain ⟨xs,hx⟩:=hq p hp;exact I.notfp hx (hf q.it (by simp [mi q cn]))
  ·have gc:VI[i]? = some p.it:=by rw [<-e1,LK,hi];rfl
   have hj':VI[j]? = some q.it:=by rw [<-e1,LK,hj];rfl
   exact (List.getElem?_inj (KU.mp gc).1 n7).mp (by rw [gc,hj',e])
 refine ⟨by simp,λi h st c hc=>?_,λi h h' st k=>?_,?_,?_,λ_ _ _ _ _ st h=>wpAny_pyIter_zip st.1 h⟩
 ·obtain ⟨s1,s2,⟨old,s3,_⟩,s4⟩:=st;simp only [KR] at hc;rcases hc with rfl | rfl | rfl | hc
  ·exact ⟨_,s1,λv z=>by cases z⟩
  ·exact ⟨_,s2,λv z=>by cases z⟩
  ·exact ⟨_,s3,λv z=>by cases z⟩
  ·obtain ⟨j,hj⟩:=NB hc;have ip:j<ps.length:=by rw [<-hl];exact (KU.mp hj).1
   exact (s4 j _ c (KS ip) hj).obj
 ·obtain ⟨s1,s2,⟨old,s3,yo⟩,s4⟩:=st;exact ⟨k z (by simp) _ s1,k TI (by simp) _ s2,⟨old,k TO (by simp) _ s3,yo⟩,λj p it hp hit=>(s4 j p it hp hit).at λo e=>k it (by simp [KZ hit]) o e⟩
 ·intro X hP hw hK hc i pins s σ H E I hf st hg;subst hP hw hK;obtain ⟨s1,s2,⟨old,s3,yo⟩,s4⟩:=st;obtain ⟨qs,e1,e2,h3⟩:=IK I ps VI hl λp hp=>let ⟨xs,_,h,_⟩:=hg p hp;⟨xs,h⟩;have pf:qs.length=ps.length:=by rw [<-e1,KW]
  have ap:=apart I hf e2 λq hq=>let ⟨_,xs,h,_⟩:=h3 q hq;⟨xs,h⟩;have hA:X.A.in1.handled=none:=I.ok.hd hc;have uj:s.TypeIs (.ref z) "zip":=⟨_,s1,rfl⟩;have cq:∀{j:Nat} {q:ZQ},qs[j]? = some q->ps[j]? = some (q.κ,q.a)/\VI[j]? = some q.it:=λ{j q} h=>⟨by rw [<-e1,LK,h];rfl,by rw [<-e2,LK,h];rfl⟩;have gi:∀q∈qs,iI q.κ s.heap q.it q.a i/\rN q.κ s.heap q.a q.items:=λq hq=>by
   obtain ⟨j,hj⟩:=NB hq;exact ⟨s4 j _ _ (cq hj).1 (cq hj).2,(h3 q hq).1⟩
  have gk:∀q∈qs,i<q.items.size:=λq hq=>by
   obtain ⟨j,hj⟩:=NB hq;obtain ⟨xs,x,q1,q2⟩:=hg _ (KZ (cq hj).1);obtain ⟨_,ys,r1,r2⟩:=h3 q hq;rw [I.sqK_inj q1 r1] at q2;have:=(KU.mp q2).1;have:=r2.length;simp at this;omega
  have gI:fQ s.heap TI (qs.map λp=>MX p.it).toArray:=by
   have:(qs.map λp=>MX p.it)=VI.map MX:=by rw [<-e2,MK];rfl
   rw [this];exact s2
  unfold pyNext;refine SQ (wpAny_attempt (wpAny_callSpecial?_slot (name:=PH "__next__") uj F.slot_zip_next (UO F.slot_zip_next uj F.entry_zip_next
   (Nk hA ap (λz=>by rw [z] at pf;exact YC (OF (by simpa using pf.symm))) (by omega) s1 gI s3 (by omega) gi gk λvs h' tk lv pv zz zo g1 zt sz kp=>SV ?_) (F.args_zip_next_1 _))))
  refine ⟨_,rfl,wpAny_letOwnedTupleGo_zip zz λh2 z2 sb=>?_⟩;have hzn:z≠s.heap.objs.size:=MC (LL s1);have kk:∀c o,c∉z::TI::TO::VI->s.heap.get? c=some o->h2.get? c=some o:=λc o hc q=>by
   simp only [KR,not_or] at hc;refine sb.extBut c o hc.1 (kp c o hc.1 hc.2.2.1 (λq' cn e=>hc.2.2.2 ?_) q);rw [e,<-e2];exact QY cn
  -- the items,as they are Xh
  obtain ⟨ys,yp,ry⟩:∃ys:List V,(ys.length=ps.length/\∀(j:Nat) (p:Bool×SO) (y:V),ps[j]? = some p->ys[j]? = some y->∀xs,Ag p.1 X.K H p.2 xs->xs[i]? = some y)/\bE ys vs:=by
   have key:∀(n:Nat) (rs:List ZQ) (us:List Value),rs.length=n->us.length=n->(∀q∈rs,∃xs,Ag q.κ X.K H q.a xs/\bE xs q.items.toList)->(∀(l:Nat) (q:ZQ),rs[l]? = some q->∃x,q.items[i]? = some x/\us[l]? = some x)->
     ∃ys:List V,ys.length=n/\bE ys us/\∀(j:Nat) (q:ZQ) (y:V),rs[j]? = some q->ys[j]? = some y->∀xs,Ag q.κ X.K H q.a xs->xs[i]? = some y:=by
    intro n
    induction n with
    | zero=>
     intro rs us h1 h2 _ _;refine ⟨[],rfl,?_,λj q y hq=>?_⟩
     ·rw [OF h2];exact .nil
     ·rw [OF h1] at hq;simp at hq
    | succ n ih=>
     intro rs us h1 h2 h4 h5
     match rs,us,h1,h2 with
     | q::rs,u::us,h1,h2=>
      obtain ⟨ys,l1,l2,l3⟩:=ih rs us (by simpa using h1) (by simpa using h2) (λq' cn=>h4 q' (by simp [cn])) (λl q' cn=>by have:=h5 (l+1) q' (by simpa using cn);simpa using this);obtain ⟨xs,a1,a2⟩:=h4 q (by simp);obtain ⟨x,b1,b2⟩:=h5 0 q rfl;simp at b2;subst b2;have jq:q.items.toList[i]? = some u:=by simpa using b1
      have hi:i<xs.length:=by rw [a2.length];exact (KU.mp jq).1
      obtain ⟨u',c1,c2⟩:=a2.get (KS hi);rw [jq] at c1;cases c1;refine ⟨xs[i]::ys,by simp [l1],.cons c2 l2,λj q' y hq hy zs mj=>?_⟩;cases j with
      | zero=>
       simp at hq hy;subst hq;subst hy;rw [I.sqK_inj mj a1];exact KS hi
      | succ j=>exact l3 j q' y (by simpa using hq) (by simpa using hy) zs mj
   obtain ⟨ys,l1,l2,l3⟩:=key qs.length qs vs rfl lv (λq hq=>(h3 q hq).2) pv;refine ⟨ys,⟨by omega,λj p y hp hy xs hx=>?_⟩,l2⟩;have ip:j<qs.length:=by rw [pf];exact (KU.mp hp).1
   have hq:=KS ip;have:=(cq hq).1;rw [hp] at this;cases this;exact l3 j _ y hq hy xs hx
  have new:dU X.prog X.w (upd H s.heap.objs.size (.tup ys)) h2 s.heap.objs.size (.tup ys):=
   ⟨by rw [yp.1];exact MY (bU hz),vs,ry,⟨_,sb.extBut _ _ (Ne.symm hzn) zt,rfl,_,rfl⟩⟩
  have up:∀{c:SO} {o:Obj},c≠z->h'.get? c=some o->h2.get? c=some o:=λhc q=>sb.extBut _ _ hc q;refine ⟨.ref s.heap.objs.size,upd H s.heap.objs.size (.tup ys),I.turnedLaid (t':=tk) (ch:=z::TI::TO::VI) kk hf (LF _) new,rfl,
   ⟨_,ys,rfl,I.hok.fresh (LF _),rfl,yp.1,yp.2⟩,⟨z2,up (λe=>n1 e.symm) (kp _ _ (λe=>n1 e.symm) n4 (λq hq=>λe=>(ap.iz q hq).2.1 e.symm) s2),?_,λj p it hp hit=>?_⟩,λc hc=>?_⟩
  ·obtain ⟨cur,u1,u2⟩:=zo;exact ⟨cur,up ap.oz u1,by omega⟩
  ·have ip:j<qs.length:=by rw [pf];exact (KU.mp hp).1
   have hq:=KS ip;have q1:=(cq hq).1;have q2:=(cq hq).2;rw [hp] at q1;cases q1;rw [hit] at q2;cases q2;exact (g1 _ (NN ip)).at λo e=>up (ap.iz _ (NN ip)).1 e
  ·have XB:c<s.heap.objs.size:=by
    simp only [KR] at hc;rcases hc with rfl | rfl | rfl | hc
    ·exact LL s1
    ·exact LL s2
    ·exact LL s3
    ·obtain ⟨j,hj⟩:=NB hc;have ip:j<ps.length:=by rw [<-hl];exact (KU.mp hj).1
     obtain ⟨o,e,_⟩:=(s4 j _ c (KS ip) hj).obj;exact LL e
   rw [a8 (MC XB)];exact (hf c hc).1
 ·intro X hP hw hK hc i pins s σ H E I hf st hg;subst hP hw hK;obtain ⟨ki,m,pm,hm,⟨xm,hxm,hlm⟩,hb⟩:=hg;obtain ⟨s1,s2,⟨old,s3,yo⟩,s4⟩:=st;obtain ⟨qs,e1,e2,h3⟩:=IK I ps VI hl ki;have pf:qs.length=ps.length:=by rw [<-e1,KW]
  have ap:=apart I hf e2 λq hq=>let ⟨_,xs,h,_⟩:=h3 q hq;⟨xs,h⟩;have hA:X.A.in1.handled=none:=I.ok.hd hc;have uj:s.TypeIs (.ref z) "zip":=⟨_,s1,rfl⟩;have cq:∀{j:Nat} {q:ZQ},qs[j]? = some q->ps[j]? = some (q.κ,q.a)/\VI[j]? = some q.it:=λ{j q} h=>⟨by rw [<-e1,LK,h];rfl,by rw [<-e2,LK,h];rfl⟩;have gi:∀q∈qs,iI q.κ s.heap q.it q.a i/\rN q.κ s.heap q.a q.items:=λq hq=>by
   obtain ⟨j,hj⟩:=NB hq;exact ⟨s4 j _ _ (cq hj).1 (cq hj).2,(h3 q hq).1⟩
  have gI:fQ s.heap TI (qs.map λp=>MX p.it).toArray:=by
   have:(qs.map λp=>MX p.it)=VI.map MX:=by rw [<-e2,MK];rfl
   rw [this];exact s2
  have wa:m<qs.length:=by rw [pf];exact (KU.mp hm).1
  have ic:=KS wa;have pe:qs[m].items.size=i:=by
   have q1:=(cq ic).1;rw [hm] at q1;cases q1;obtain ⟨_,ys,r1,r2⟩:=h3 _ (NN wa);rw [I.sqK_inj hxm r1] at hlm;have:=r2.length;simp at this;omega
  have gk:∀(j:Nat) (q:ZQ),j<m->qs[j]? = some q->i<q.items.size:=λj q hj hq=>by
   obtain ⟨xs,x,q1,q2⟩:=hb j _ hj (cq hq).1;obtain ⟨_,ys,r1,r2⟩:=h3 q (fO hq);rw [I.sqK_inj q1 r1] at q2;have:=(KU.mp q2).1;have:=r2.length;simp at this;omega
  unfold pyNext;refine SQ (wpAny_attempt (wpAny_callSpecial?_slot (name:=PH "__next__") uj F.slot_zip_next (UO F.slot_zip_next uj F.entry_zip_next
   (Mq hA ap (by omega) s1 gI s3 (by omega) gi ic pe gk λh' tk e kp he=>?_) (F.args_zip_next_1 _))))
  obtain ⟨o,ho,hco⟩:=he;refine SQ (wpAny_isInstance (T:="StopIteration") (b:=true) ⟨o,ho,hco⟩ isSubtype_stop (SV ⟨rfl,?_⟩));refine I.turnedL (t':=tk) (ch:=z::TI::TO::VI) (λc o hc q=>?_) hf;simp only [KR,not_or] at hc;refine kp c o hc.1 hc.2.2.1 (λq' cn e=>hc.2.2.2 ?_) q;rw [e,<-e2];exact QY cn
def eY:List T->List T->List T
 | x::xs,y::ys=>.tup [x,y]::eY xs ys
 | _,_=>[]
theorem mQ:∀xs ys:List T,(eY xs ys).length=min xs.length ys.length
 | [],_=>by simp [eY]
 | _::_,[]=>by simp [eY]
 | _::xs,_::ys=>by simp [eY,mQ xs ys]
theorem uJ:∀{xs ys:List T} {i:Nat} {t:T},(eY xs ys)[i]? = some t->∃x y,xs[i]? = some x/\ys[i]? = some y/\t = .tup [x,y]
 | [],_,_,_,h=>by simp [eY] at h
 | _::_,[],_,_,h=>by simp [eY] at h
 | x::_,y::_,0,_,h=>by simp [eY] at h;exact ⟨x,y,rfl,rfl,h.symm⟩
 | _::xs,_::ys,i+1,t,h=>by
  obtain ⟨x,y,h1,h2,h3⟩:=uJ (xs:=xs) (ys:=ys) (i:=i) (t:=t) (by simpa [eY] using h);exact ⟨x,y,by simpa using h1,by simpa using h2,h3⟩
def W5 (κ:Bool) (xs:List T):T:=match κ with
 | true=>.tup xs
 | false=>.lst xs
theorem wI {K:W.Frag} {H:Hp} {O:SO->Prop} {κ:Bool} {xs:List T} {a:SO} (h:Rp K H O (W5 κ xs) (.ref a)):∃vs,Ag κ K H a vs/\cS K H O xs vs:=by
 cases κ
 ·obtain ⟨a',vs,e,h1,h2⟩:=Rp.sqL h;cases e;exact ⟨vs,h1,h2⟩
 ·obtain ⟨a',vs,e,h1,h2⟩:=Rp.sqT h;cases e;exact ⟨vs,h1,h2⟩
theorem Iu {K:W.Frag} {κ:Bool} {a b:SO} {xs ys:List T}:Ey K (HW K [(κ,a),(κ,b)]) (eY xs ys) (λH O=>Rp K H O (W5 κ xs) (.ref a)/\Rp K H O (W5 κ ys) (.ref b)):=by
 refine ⟨λH H' O O' k h=>⟨Rp.step k h.1,Rp.step k h.2⟩,λi H O h hi=>?_,λi H O x H' t h e hO y=>?_,λH O h=>?_⟩
 ·obtain ⟨vs,s1,r1⟩:=wI h.1;obtain ⟨ws,s2,r2⟩:=wI h.2;rw [mQ] at hi;intro p hp;simp only [KR,OG,or_false] at hp;rcases hp with rfl | rfl
  ·exact ⟨vs,vs[i]'(by rw [r1.length];omega),s1,KS _⟩
  ·exact ⟨ws,ws[i]'(by rw [r2.length];omega),s2,KS _⟩
 ·obtain ⟨vs,s1,r1⟩:=wI h.1;obtain ⟨ws,s2,r2⟩:=wI h.2;obtain ⟨q,us,e1,hq,e2,lu,hu⟩:=y;subst e1;subst e2;obtain ⟨t1,t2,g1,g2,rfl⟩:=uJ e;obtain ⟨v1,a1,b1⟩:=r1.get g1;obtain ⟨v2,a2,b2⟩:=r2.get g2
  match us,lu with
  | [u1,u2],_=>
   have z1:=hu 0 _ u1 rfl rfl vs s1;have z2:=hu 1 _ u2 rfl rfl ws s2;rw [a1] at z1;cases z1;rw [a2] at z2;cases z2;have k:Kp O O H (upd H q (.tup [v1,v2])):=Kp.upd hq;exact ⟨k,λb o z=>by rw [a8 (a9 z hq)];exact z,q,_,rfl,.inl ⟨λz=>hO q z hq,c8⟩,v1,_,rfl,b1.step k,v2,_,rfl,b2.step k,rfl⟩
 ·obtain ⟨vs,s1,r1⟩:=wI h.1;obtain ⟨ws,s2,r2⟩:=wI h.2;have l1:=r1.length;have l2:=r2.length;refine ⟨λp hp=>?_,?_⟩
  ·simp only [KR,OG,or_false] at hp;rcases hp with rfl | rfl
   ·exact ⟨vs,s1⟩
   ·exact ⟨ws,s2⟩
  ·rw [mQ]
   by_cases c:xs.length<=ys.length
   ·exact ⟨0,_,rfl,⟨vs,s1,by omega⟩,λj q hj=>absurd hj (PU _)⟩
   ·refine ⟨1,_,rfl,⟨ws,s2,by omega⟩,λj q hj hq=>?_⟩;obtain rfl:j=0:=by omega
    cases hq;exact ⟨vs,vs[min xs.length ys.length]'(by omega),s1,KS _⟩
section
variable {X:Cx} {K:W.Frag} {pos:Pos} {Fr:FA}
def JW (K:W.Frag) (ta:TA):TI:=λσ H R=>ta σ H λvs H1=>∃κ a b xs ys,vs=[.ref a,.ref b]/\Ag κ K H1 a xs/\Ag κ K H1 b ys/\R (HW K [(κ,a),(κ,b)]) H1
theorem DZ {l r:Expr} {ta:TA} {p WZ:Pos} {elts:List Expr} {x1} (hg:Gl X "zip") (hm:X.mg "zip" = none) (ha:QA X [l,r] ta) (hs:cC l=false:=by rfl) (aj:cC r=false:=by rfl) :
  QI X (.Tuple elts x1 WZ) (.Call (.Name "zip" p) [l,r] [] pos) (JW X.K ta):=⟨by
 intro pins s σ H R I h;refine Call_ (lW I hg hm boot_zip (PyProof.Rows.callWith_type1 (dM (ha.h pos pins s σ H _ I h) λus s1 ⟨vs,H1,I1,r1,q1⟩=>?_) (cG hs) (fB (by simp only [bM,aj];rfl))));obtain ⟨κ,a,b,xs,ys,rfl,ga,gb,q⟩:=q1;obtain ⟨u,v,rfl,ru,rv⟩:=bE.two r1;cases ru;cases rv;obtain ⟨ia,ra,qa⟩:=I1.sqK ga;obtain ⟨ib,rb,qb⟩:=I1.sqK gb;have fin:∀h',UY h' (s1.heap.objs.size+4) (s1.heap.objs.size+2) (s1.heap.objs.size+3) .none->IsPair h' (s1.heap.objs.size+2) (.ref s1.heap.objs.size) (.ref (s1.heap.objs.size+1))->IsPair h' (s1.heap.objs.size+3) .none .none->
   iI κ h' s1.heap.objs.size a 0->iI κ h' (s1.heap.objs.size+1) b 0->(∀c o,s1.heap.get? c=some o->h'.get? c=some o)->
   SU (TC X.prog X.w) X.A (pyIter (.ref (s1.heap.objs.size+4))) (GG X pins σ (.Tuple elts x1 WZ) R) X.xe { s1 with heap:=h' }:=λh' z1 z2 z3 z4 z5 kp=>by
  refine wpAny_pyIter_zip z1 ?_;refine ⟨s1.heap.objs.size+4,_,_,_,H1,rfl,I1.kept (t':=s1.toks) kp,Na _ (s1.heap.objs.size+2) (s1.heap.objs.size+3) [(κ,a),(κ,b)] [s1.heap.objs.size,s1.heap.objs.size+1] rfl (by simp) (by simp) (KC _),⟨z1,z2,⟨_,z3,rfl⟩,λj pq it hp hit=>?_⟩,λc hc=>?_,q⟩
  ·match j,hp,hit with
   | 0,hp,hit=>cases hp;cases hit;exact z4
   | 1,hp,hit=>cases hp;cases hit;exact z5
  ·have hle:s1.heap.objs.size<=c:=KG hc;exact I1.fpOk hle (I1.hok.fresh hle)
 cases κ
 ·exact call_zip_2 qa qb λh' z1 z2 z3 z4 z5 _ kp=>fin h' z1 z2 z3 z4 z5 kp
 ·exact Oc qa qb λh' z1 z2 z3 z4 z5 kp=>fin h' z1 z2 z3 z4 z5 kp⟩
def BB (Fr:FA):FI:=λE Q=>Fr E λrs E1=>match rs with
 | [x,y]=>(match vl E1 x,vl E1 y with
  | some (.lst xs),some (.lst ys)=>Q (eY xs ys) (pF E1 x++pF E1 y) E1
  | some (.tup xs),some (.tup ys)=>Q (eY xs ys) (pF E1 x++pF E1 y) E1
  | _,_=>False)
 | _=>False
theorem zV {n:Nat} {l r:Expr} {p WZ:Pos} {elts:List Expr} {x1} (eK:X.K=K) (hg:Gl X "zip") (hm:X.mg "zip" = none) (ha:QA X [l,r] (dS K n Fr)) (hs:cC l=false:=by rfl) (aj:cC r=false:=by rfl) :
  QI X (.Tuple elts x1 WZ) (.Call (.Name "zip" p) [l,r] [] pos) (lZ K (BB Fr)):=by
 subst eK;refine (DZ hg hm ha hs aj).le λσ H R hn ⟨B,S,E,Q',hS,re,hF,lk⟩=>⟨B,S,E,_,hS,re,hF,λrs E1 vs H1 S1 q g VQ rr hn=>?_⟩
 match rs,rr,q with
 | [x,y],⟨v,ws,e1,h1,u,fh,e2,h2,h3⟩,q=>
  cases h3;subst e2;subst e1;have own:∀j∈pF E1 x++pF E1 y,∃k xs,E1[j]? = some (some (U.o k xs)):=λj hj=>by
   rcases LP.mp hj with h | h
   ·exact sA j h
   ·exact sA j h
  simp only at q;split at q
  ·rename_i xs ys e1 e2;obtain ⟨a,vs,e3,yq,r1⟩:=VQ.vl h1 e1;obtain ⟨b,us,e4,yr,r2⟩:=VQ.vl h2 e2;refine ⟨false,a,b,vs,us,by rw [e3,e4],yq,yr,lk _ _ _ _ _ _ _ q g VQ Iu own λO k1 k2=>?_⟩;rw [<-e3,<-e4];exact ⟨nD VQ h1 e1 O k1 λj hj=>k2 j (by simp [hj]),nD VQ h2 e2 O k1 λj hj=>k2 j (by simp [hj])⟩
  ·rename_i xs ys e1 e2;obtain ⟨a,vs,e3,yq,r1⟩:=VQ.vl h1 e1;obtain ⟨b,us,e4,yr,r2⟩:=VQ.vl h2 e2;refine ⟨true,a,b,vs,us,by rw [e3,e4],yq,yr,lk _ _ _ _ _ _ _ q g VQ Iu own λO k1 k2=>?_⟩;rw [<-e3,<-e4];exact ⟨nD VQ h1 e1 O k1 λj hj=>k2 j (by simp [hj]),nD VQ h2 e2 O k1 λj hj=>k2 j (by simp [hj])⟩
  ·exact q.elim
 | [],_,q=>exact q.elim
 | [_],_,q=>exact q.elim
 | _::_::_::_,_,q=>exact q.elim
end
end L2
namespace My
open PySem L2 PyProof.Rows
theorem Dx (x y:Nat):MN y (x%y)=MN x y:=by
 rw [RM x y,Nat.gcd_rec y x,RM]
def rL (n d:Int):Int:=(if 0<d then n else -n)/((MN n.natAbs d.natAbs:Nat):Int)
def mZ (n d:Int):Int:=(if 0<d then d else -d)/((MN n.natAbs d.natAbs:Nat):Int)
theorem Ed {n d:Int} {g:Nat} (hd:0<d) (hg:g=MN n.natAbs d.natAbs):(n/(g:Int)).natAbs<=n.natAbs/\1<=d/(g:Int)/\d/(g:Int)<=d/\MN (n/(g:Int)).natAbs (d/(g:Int)).natAbs=1:=by
 have g0:0<g:=by rw [hg];exact OV _ (by omega)
 have dn:(g:Int)∣n:=by rw [hg];exact MP.mpr (NT _ _)
 have dd:(g:Int)∣d:=by rw [hg];exact MP.mpr (NX _ _)
 have en:(n/(g:Int)).natAbs=n.natAbs/g:=by rw [Int.natAbs_ediv_of_dvd dn];simp
 have ed:(d/(g:Int)).natAbs=d.natAbs/g:=by rw [Int.natAbs_ediv_of_dvd dd];simp
 refine ⟨by rw [en];exact Nat.div_le_self _ _,?_,?_,?_⟩
 ·obtain ⟨k,hk⟩:=dd;have YY:(0:Int)<g:=by omega
  rw [hk,NL _ (by omega)];rcases Int.lt_or_le 0 k with h | h
  ·omega
  ·have:(g:Int)*k<=0:=QH (by omega) h;omega
 ·exact Int.ediv_le_self _ (by omega)
 ·rw [en,ed,Nat.gcd_div (by rw [hg];exact NT _ _) (by rw [hg];exact NX _ _),<-hg,Nat.div_self g0]
theorem mR {n d:Int} (hd:d≠0):(rL n d).natAbs<=n.natAbs/\1<=mZ n d/\mZ n d<=d.natAbs/\MN (rL n d).natAbs (mZ n d).natAbs=1:=by
 unfold rL mZ
 by_cases h:0<d
 ·rw [if_pos h,if_pos h];have:=Ed (n:=n) (d:=d) h rfl;refine ⟨this.1,this.2.1,?_,this.2.2.2⟩;have:=this.2.2.1;omega
 ·rw [if_neg h,if_neg h];have h':0 < -d:=by omega
  have:=Ed (n:=-n) (d:=-d) h' rfl;simp only [OQ] at this;refine ⟨this.1,this.2.1,?_,this.2.2.2⟩;have:=this.2.2.1;omega
abbrev Fr:=Int×Int
structure cF (p:Fr):Prop where
 d:1<=p.2
 g:MN p.1.natAbs p.2.natAbs=1
def low (n d:Int):Fr:=(rL n d,mZ n d)
def lK (p q:Fr):Fr:=low (p.1*q.2+q.1*p.2) (p.2*q.2)
def bO (p q:Fr):Fr:=low (p.1*q.2-q.1*p.2) (p.2*q.2)
def jV (p q:Fr):Fr:=low (p.1*q.1) (p.2*q.2)
def tJ (p q:Fr):Fr:=low (p.1*q.2) (p.2*q.1)
def yK (p:Fr):Fr:=(-p.1,p.2)
def val (p:Fr):Rat:=(p.1:Rat)/(p.2:Rat)
theorem fF {n d:Int} (hd:d≠0):cF (low n d):=⟨(mR hd).2.1,(mR hd).2.2.2⟩
theorem Mw {n d:Int} (hd:d≠0):rL n d*d=n*mZ n d:=by
 have dn:((MN n.natAbs d.natAbs:Nat):Int)∣n:=MP.mpr (NT _ _);have dd:((MN n.natAbs d.natAbs:Nat):Int)∣d:=MP.mpr (NX _ _);have g0:((MN n.natAbs d.natAbs:Nat):Int)≠0:=by
  have:=OV n.natAbs (show 0<d.natAbs by omega);omega
 unfold rL mZ;generalize ((MN n.natAbs d.natAbs:Nat):Int)=g at dn dd g0;obtain ⟨k,hk⟩:=dn;obtain ⟨m,hm⟩:=dd
 by_cases h:0<d
 ·rw [if_pos h,if_pos h,hk,hm,NL _ g0,NL _ g0];grind
 ·rw [if_neg h,if_neg h,hk,hm,<-Int.mul_neg,<-Int.mul_neg,NL _ g0,NL _ g0];grind
theorem jK {n d:Int} (hd:d≠0):val (low n d)=(n:Rat)/(d:Rat):=by
 have h:=Mw (n:=n) hd;have h1:=(mR (n:=n) hd).2.1;have a1:((mZ n d:Int):Rat)≠0:=by
  have:mZ n d≠0:=by omega
  exact_mod_cast this
 have a2:(d:Rat)≠0:=by exact_mod_cast hd
 have h':((rL n d:Int):Rat)*(d:Rat)=(n:Rat)*((mZ n d:Int):Rat):=by exact_mod_cast h
 show ((rL n d:Int):Rat)/((mZ n d:Int):Rat)=(n:Rat)/(d:Rat);grind
theorem cF.ne {p:Fr} (h:cF p):p.2≠0:=by have:=h.d;omega
theorem cF.neR {p:Fr} (h:cF p):(p.2:Rat)≠0:=by have:=h.ne;exact_mod_cast this
theorem fP {p q:Fr} (hp:cF p) (hq:cF q):p.2*q.2≠0:=PB hp.ne hq.ne
theorem mU {p q:Fr} (hp:cF p) (hq:cF q):val (lK p q)=val p+val q:=by
 have h1:=hp.neR;have h2:=hq.neR;unfold lK;rw [jK (fP hp hq)];unfold val
 push_cast
 grind
theorem d5 {p q:Fr} (hp:cF p) (hq:cF q):val (bO p q)=val p-val q:=by
 have h1:=hp.neR;have h2:=hq.neR;unfold bO;rw [jK (fP hp hq)];unfold val
 push_cast
 grind
theorem iJ {p q:Fr} (hp:cF p) (hq:cF q):val (jV p q)=val p*val q:=by
 have h1:=hp.neR;have h2:=hq.neR;unfold jV;rw [jK (fP hp hq)];unfold val
 push_cast
 grind
theorem Zz {p:Fr} (hp:cF p):val (yK p) = - val p:=by
 have h1:=hp.neR;show ((-p.1:Int):Rat)/(p.2:Rat) = - ((p.1:Rat)/(p.2:Rat))
 push_cast
 grind
theorem gL {p q:Fr} (hp:cF p) (hq:cF q):cF (lK p q):=fF (fP hp hq)
theorem cJ {p q:Fr} (hp:cF p) (hq:cF q):cF (bO p q):=fF (fP hp hq)
theorem bG {p q:Fr} (hp:cF p) (hq:cF q):cF (jV p q):=fF (fP hp hq)
theorem Wm {p:Fr} (hp:cF p):cF (yK p):=⟨hp.d,by show MN (-p.1).natAbs p.2.natAbs=1;rw [OQ];exact hp.g⟩
theorem c9 (n:Int):cF (n,1):=⟨by show (1:Int)<=1;decide,by simp⟩
theorem eN {p q:Fr} (hp:cF p) (hq:cF q) (h:val p=val q):p=q:=by
 have h1:=hp.neR;have h2:=hq.neR;have e:p.1*q.2=q.1*p.2:=by
  unfold val at h;have h':(p.1:Rat)*q.2=q.1*p.2:=by grind
  exact_mod_cast h'
 have en:p.1.natAbs*q.2.natAbs=q.1.natAbs*p.2.natAbs:=by rw [<-PJ,<-PJ,e]
 have d1:p.2.natAbs∣q.2.natAbs:=by
  have:p.2.natAbs∣p.1.natAbs*q.2.natAbs:=by rw [en];exact Nat.dvd_mul_left _ _
  exact Nat.Coprime.dvd_of_dvd_mul_left (show SE p.2.natAbs p.1.natAbs by unfold SE;rw [RM];exact hp.g) this
 have d2:q.2.natAbs∣p.2.natAbs:=by
  have:q.2.natAbs∣q.1.natAbs*p.2.natAbs:=by rw [<-en];exact Nat.dvd_mul_left _ _
  exact Nat.Coprime.dvd_of_dvd_mul_left (show SE q.2.natAbs q.1.natAbs by unfold SE;rw [RM];exact hq.g) this
 have ed:p.2.natAbs=q.2.natAbs:=Nat.dvd_antisymm d1 d2;have ed':p.2=q.2:=by have:=hp.d;have:=hq.d;omega
 have e2:p.1=q.1:=by
  rw [ed'] at e;exact Int.eq_of_mul_eq_mul_right hq.ne e
 exact Prod.ext e2 ed'
theorem nG {x e:Nat} (h:x<2^e) (he:e<=8000):x<2^8000:=LO h (NO (by decide) he)
theorem bJ {x y:Int} {e f:Nat} (hx:x.natAbs<2^e) (hy:y.natAbs<2^f):(x*y).natAbs<2^(e+f):=by
 rw [PJ,Nat.pow_add];exact Nat.mul_lt_mul'' hx hy
theorem sE {x y:Int} {e:Nat} (hx:x.natAbs<2^e) (hy:y.natAbs<2^e):(x+y).natAbs<2^(e+1):=by
 have:=Int.natAbs_add_le x y;rw [Nat.pow_succ];omega
theorem jO {x y:Int} {e:Nat} (hx:x.natAbs<2^e) (hy:y.natAbs<2^e):(x-y).natAbs<2^(e+1):=by
 rw [Int.sub_eq_add_neg];exact sE hx (by rw [OQ];exact hy)
theorem Ea {p q:Fr} (hp:cF p) (hq:cF q) (h:q.1≠0):val (tJ p q)=val p/val q:=by
 have h1:=hp.neR;have h2:=hq.neR;have h3:(q.1:Rat)≠0:=by exact_mod_cast h
 unfold tJ;rw [jK (PB hp.ne h)];unfold val
 push_cast
 grind
theorem Bj {p q:Fr} (hp:cF p) (h:q.1≠0):cF (tJ p q):=fF (PB hp.ne h)
def sz (p:Fr):Nat:=OX (RN p.1.natAbs) (RN p.2.natAbs)+1
theorem e8 (p:Fr):p.1.natAbs<2^sz p:=LO Nat.lt_log2_self (NO (by decide) (Nat.succ_le_succ (OZ _ _)))
theorem bX (p:Fr):p.2.natAbs<2^sz p:=LO Nat.lt_log2_self (NO (by decide) (Nat.succ_le_succ (OU _ _)))
theorem Rf {n e:Nat} (h:n<2^e) (he:1<=e):RN n+1<=e:=by
 by_cases c:n=0
 ·subst c;have:RN 0=0:=by simp
  omega
 ·exact (RD c).mpr h
theorem qT {p:Fr} {e:Nat} (h1:p.1.natAbs<2^e) (h2:p.2.natAbs<2^e) (he:1<=e):sz p<=e:=by
 have a:=Rf h1 he;have b:=Rf h2 he;unfold sz;have:OX (RN p.1.natAbs) (RN p.2.natAbs)<=e-1:=PL.mpr ⟨by omega,by omega⟩;omega
theorem Hf (p:Fr):1<=sz p:=by unfold sz;omega
theorem nW {n d:Int} {e:Nat} (hd:d≠0) (h1:n.natAbs<2^e) (h2:d.natAbs<2^e) (he:1<=e):sz (low n d)<=e:=by
 have lf:=mR (n:=n) hd;refine qT (MF lf.1 h1) ?_ he;show (mZ n d).natAbs<2^e;omega
theorem yS {p q:Fr} (hp:cF p) (hq:cF q):sz (lK p q)<=sz p+sz q+1:=
 nW (fP hp hq) (sE (bJ (e8 p) (bX q)) (by rw [Nat.add_comm];exact bJ (e8 q) (bX p))) (LO (bJ (bX p) (bX q)) (NO (by decide) (by omega))) (by omega)
theorem Ft {p q:Fr} (hp:cF p) (hq:cF q):sz (bO p q)<=sz p+sz q+1:=
 nW (fP hp hq) (jO (bJ (e8 p) (bX q)) (by rw [Nat.add_comm];exact bJ (e8 q) (bX p))) (LO (bJ (bX p) (bX q)) (NO (by decide) (by omega))) (by omega)
theorem iD {p q:Fr} (hp:cF p) (hq:cF q):sz (jV p q)<=sz p+sz q:=
 nW (fP hp hq) (bJ (e8 p) (e8 q)) (bJ (bX p) (bX q)) (by have:=Hf p;omega)
theorem Ls {p q:Fr} (hp:cF p) (h:q.1≠0):sz (tJ p q)<=sz p+sz q:=
 nW (PB hp.ne h) (bJ (e8 p) (bX q)) (bJ (bX p) (e8 q)) (by have:=Hf p;omega)
theorem iS {g:FG} {F:FS} {D:ET} {items:List T} {E:En} (W:Nat->En->Prop) (h0:W 0 E)
  (hs:∀i x rest E,items[i]? = some x->W i E->(∀E',W (i+1) E'->dG g F D rest E')->dG g F D (x::rest) E) (hd:∀E,W items.length E->D.nx E):dG g F D items E:=by
 have key:∀n i E,items.length-i=n->i<=items.length->W i E->dG g F D (items.drop i) E:=by
  intro n
  induction n with
  | zero=>
   intro i E e hi h;obtain rfl:i=items.length:=by omega
   rw [OT];exact hd E h
  | succ n ih=>
   intro i E e hi h;have XB:i<items.length:=by omega
   rw [NI XB];exact hs i _ _ E (KS XB) h λE' h'=>ih (i+1) E' (by omega) (by omega) h'
 exact key _ 0 E rfl (MJ _) h0
theorem xD {g:FG} {Fe:FE} {items:List T} {E:En} {Q:En->Prop} (W:Nat->En->Prop) (h0:W 0 E)
  (hs:∀i x rest E,items[i]? = some x->W i E->(∀E',W (i+1) E'->iH g Fe rest E' Q)->iH g Fe (x::rest) E Q) (hd:∀E,W items.length E->Q E):iH g Fe items E Q:=by
 have key:∀n i E,items.length-i=n->i<=items.length->W i E->iH g Fe (items.drop i) E Q:=by
  intro n
  induction n with
  | zero=>
   intro i E e hi h;obtain rfl:i=items.length:=by omega
   rw [OT];exact hd E h
  | succ n ih=>
   intro i E e hi h;have XB:i<items.length:=by omega
   rw [NI XB];exact hs i _ _ E (KS XB) h λE' h'=>ih (i+1) E' (by omega) (by omega) h'
 exact key _ 0 E rfl (MJ _) h0
mutual
def wT:L2.T->Nat
 | .tup xs=>OX xs.length (Pg xs)
 | .lst xs=>OX xs.length (Pg xs)
 | _=>0
def Pg:List L2.T->Nat
 | []=>0
 | x::xs=>OX (wT x) (Pg xs)
end
theorem Tv:∀{xs:List L2.T} {x:L2.T},x∈xs->wT x<=Pg xs
 | y::xs,x,h=>by
  rw [Pg];rcases KR.mp h with rfl | h
  ·exact OZ _ _
  ·exact MG (Tv h) (OU _ _)
def fr (p:Fr):T:=.tup [.int p.1,.int p.2]
def vc (x y:Fr):T:=.tup [fr x,fr y]
theorem Sf (p q:Fr):eD (fr p) (fr q)=decide (p=q):=by
 rw [NQ];simp [fr,L2.eD,L2.qK,Prod.ext_iff]
theorem G4 (x y x' y':Fr):eD (vc x y) (vc x' y')=decide (x=x'/\y=y'):=by
 rw [NQ];simp [vc,L2.eD,L2.qK,Sf]
def Jn (i j:Int):Prop:=Ib i j\/Yl i j
theorem aT {X:Cx}:mB X (UA .Mult) (rI Jn λi j=>.int (i*j)):=by
 intro pins s σ H x y v u Q I rx ry h;obtain ⟨i,j,e1,e2,hc,q⟩:=h;rcases hc with hc | hc
 ·exact Zg pins s σ H x y v u Q I rx ry ⟨i,j,e1,e2,hc,q⟩
 ·exact V1 pins s σ H x y v u Q I rx ry ⟨i,j,e1,e2,hc,q⟩
theorem eV {i j:Int} {e:Nat} (h1:i.natAbs<2^e) (h2:j.natAbs<2^e) (he:e<=8000):Jn i j:=.inl ⟨nG h1 he,nG h2 he⟩
theorem vP {i j:Int} (h1:i.natAbs<2^60):Jn i j:=.inr (.inl (by omega))
theorem yM {i j:Int} (h1:j.natAbs<2^60):Jn i j:=.inr (.inr (by omega))
theorem U0:TF "int" = some (.type "int"):=by decide +kernel
theorem xM:TF "bool" = some (.type "bool"):=by decide +kernel
theorem sY:TF "tuple" = some (.type "tuple"):=by decide +kernel
theorem xO:TF "list" = some (.type "list"):=by decide +kernel
theorem Fw:TF "str" = some (.type "str"):=by decide +kernel
structure Txt (mg:Str->Option Value):Prop where
 n_isinstance:mg "isinstance" = none
 n_abs:mg "abs" = none
 n_divmod:mg "divmod" = none
 n_min:mg "min" = none
 n_max:mg "max" = none
 n_all:mg "all" = none
 n_len:mg "len" = none
 n_int:mg "int" = none
 n_bool:mg "bool" = none
 n_tuple:mg "tuple" = none
 n_list:mg "list" = none
 n_str:mg "str" = none
 n_range:mg "range" = none
 n_enumerate:mg "enumerate" = none
 n_zip:mg "zip" = none
structure uW (mg:Str->Option Value) (K:W.Frag) (x:Str) (t:L2.T):Prop where
 ex:∃a,mg x=some (.ref a)/\∀H O,Rp K H O t (.ref a)
theorem sN {X:Cx} {K:W.Frag} {x:Str} {t:L2.T} {pos:Pos} (hg:Gl X x) (c:uW X.mg K x t) (hd:(x==("__debug__":Str))=false:=by decide):QE X (.Name x pos) (aM K (fC t)):=by
 obtain ⟨a,h1,h2⟩:=c.ex;exact QE.le (t:=tC (.ref a)) ⟨Lw (v:=.ref a) hg h1 rfl hd⟩ λσ H Q hl ⟨B,S,E,Q',hS,re,hF,lk⟩=>lk _ _ _ _ _ hF .refl re (h2 _ _)
theorem kM {K:W.Frag} {a:SO} {od:Option SO} {i j:Int} {t u:Tok} {n:Nat} {sl:Array (Option Value)} (h:K.lookup a=some ⟨.type "tuple",od,.seq #[.int i t,.int j u] n,sl⟩) (H:Hp) (O:SO->Prop):Rp K H O (.tup [.int i,.int j]) (.ref a):=
 ⟨a,[.int i,.int j],rfl,.inr ⟨_,_,n,h,rfl,rfl,by show 2<=SX;decide,.cons ⟨t,rfl⟩ (.cons ⟨u,rfl⟩ .nil)⟩,_,_,rfl,rfl,_,_,rfl,rfl,rfl⟩
end My
namespace My
open PySem L2 PyProof.Rows
end My
namespace L2
open PySem PySem.Spec PyProof.Rows
section
variable {X:Cx} {K:W.Frag} {pos:Pos} {I:FI} {g:FG} {Fb:FB} {Fe:FE}
theorem mL {target elt iter c:Expr} {scope:TR} {N':List Str} {cap:List (Nat×Bool)} {t:Nat} (hc:X.calm=true) (S:bP X N' scope t (cap.map (·.1))) (ho:jZ cap=true) (cj:(cap.map (·.1)).Nodup) (hi:QI X target iter (lZ K I))
  (hg:∀C s3 H3 fp,QG (b8 X N' scope C s3 H3 fp) target (pR K g)) (hb:∀C s3 H3 fp,QT (b8 X N' scope C s3 H3 fp) c (eJ K Fb)) (he:∀C s3 H3 fp,QE (b8 X N' scope C s3 H3 fp) elt (aM K Fe)) (hs:∀x,TH iter X.env x=pure x:=by intro _;rfl) :
  QE X (.ListComp elt [⟨target,iter,[c],0⟩] scope pos) (aM K (tY t cap I g Fb Fe)):=
 QE.le (t:=qP t (cap.map (·.1)) (lZ K I) (Am none K g) (Ke none K Fb) (sV none K Fe)) ⟨Cm hc S hi.h (λC s3 H3 fp=>(hg C s3 H3 fp).gd.h) (λC s3 H3 fp=>(hb C s3 H3 fp).bd.h.one) (λC s3 H3 fp=>(he C s3 H3 fp).ed.h) hs⟩ λσ H Q hl h=>qJ (d:=none) (d':=none) S ho cj hl (λ_ _ _ z=>by cases z) ⟨(λ_ z=>by cases z),h⟩
end
end L2
namespace L2
open PySem PySem.Spec PyProof.Rows
def Gw (t:T) (xs:List T):Bool:=xs.any λy=>eD y t
section
variable {X:Cx} {K:W.Frag} {pos:Pos} {a b e o:Expr} {Fa Fb Fo:FE} {Fr:FA}
theorem J1 {H:Hp} {t:T} {e:Value->Bool} (he:∀(y:T) (w:V) (z:Value),Rq K H y w->bH w z->e z=eD y t):∀{xs:List T} {vs:List V} {VI:List Value},uY K H xs vs->bE vs VI->VI.any e=Gw t xs/\∀z∈VI,∃y∈xs,∃w,Rq K H y w/\bH w z
 | [],_,_,h,r=>by cases h;cases r;exact ⟨rfl,λz hz=>by cases hz⟩
 | y::xs,_,_,h,r=>by
  obtain ⟨v,ws,rfl,h1,h2⟩:=h;cases r with
  | cons r1 r2=>
   obtain ⟨q1,q2⟩:=J1 he h2 r2;refine ⟨?_,λz hz=>?_⟩
   ·rw [QK,q1,he _ _ _ h1 r1];rfl
   ·rcases KR.mp hz with rfl | hz
    ·exact ⟨y,NR ..,v,h1,r1⟩
    ·obtain ⟨y',h3,h4⟩:=q2 z hz;exact ⟨y',LQ _ h3,h4⟩
def HY (K:W.Frag) (ng:Bool):R2:=λx y H Q=>∃t xs p vs,Rq K H t x/\y = .ref p/\j4 K H p vs/\uY K H xs vs/\qF xs<=50/\Q (.bl (if ng then !(Gw t xs) else Gw t xs)) H
theorem Iw {k:Nat} (hr:dW k X.A) {pins:List (SO×Obj)} {s:Shared} {σ:St} {H:Hp} (I:aY X pins σ H s) {x:V} {v:Value} {t:T} {xs:List T} {vs:List V} {VI:List Value} (ht:Rq X.K H t x) (rx:bH x v) (uk:uY X.K H xs vs) (r:bE vs VI) (hd:qF xs<=50) :
  ∃e:Value->Bool,VI.any e=Gw t xs/\∀z∈VI,SeqAt.EqAt X.A.in1 s z v (e z):=by
 obtain ⟨e,he⟩:∃e:Value->Bool,∀(y:T) (w:V) (z:Value),Rq X.K H y w->bH w z->e z=eD y t:=by
  refine ⟨λz=>@dite _ (∃y w,Rq X.K H y w/\bH w z) (Classical.propDecidable _) (λh=>eD (Classical.choose h) t) (λ_=>false),λy w z h1 h2=>?_⟩;have hex:∃y w,Rq X.K H y w/\bH w z:=⟨y,w,h1,h2⟩;show @dite _ (∃y w,Rq X.K H y w/\bH w z) (Classical.propDecidable _) (λh=>eD (Classical.choose h) t) (λ_=>false)=_;rw [dif_pos hex];obtain ⟨w',h3,h4⟩:=Classical.choose_spec hex;have:=Ju h2 h4;subst this;rw [Rq.inj I h3 h1]
 obtain ⟨q1,q2⟩:=J1 he uk r;refine ⟨e,q1,λz hz=>?_⟩;obtain ⟨y,hy,w,h1,h2⟩:=q2 z hz;rw [he _ _ _ h1 h2];have:=nV hy;exact (zE I 50 X.A.in1 y t w x z v (by omega) h1 ht h2 rx (by have:=hr.units;show X.A.units+1+50<UX;omega)).2
theorem Zu {k:Nat} (hr:dW k X.A):mB X (TQ .NotIn) (HY X.K true):=by
 intro pins s σ H x y v u Q I rx ry h;obtain ⟨t,xs,p,vs,ht,rfl,hq,uk,hd,q⟩:=h;cases ry;obtain ⟨VI,r,pl,hz⟩:=I.list hq;obtain ⟨e,q1,q2⟩:=Iw hr I ht rx uk r hd;refine SeqAt.notIn_listAt e pl.isList (λw hw=>q2 w (by simpa using hw)) ⟨.bl _,H,I,rfl,?_⟩;rw [show VI.toArray.any e=VI.any e by simp,q1];exact q
def JS (ng:Bool) (Fa Fb:FE):FE:=λE Q=>Fa E λx E1=>Fb E1 λy E2=>t2 (vl E2 x) (vl E2 y) λt u=>match u with
 | .lst xs=>qF xs<=50/\Q (.p (.bl (if ng then !(Gw t xs) else Gw t xs))) E2
 | _=>False
theorem X9 {k:Nat} (eK:X.K=K) (hr:dW k X.A) (ha:QE X a (aM K Fa)) (hb:QE X b (aM K Fb)) (hm:TK .NotIn b=false):QT X (.Compare a [.NotIn] [b] pos) (eJ K (vG (JS true Fa Fb))):=by
 subst eK;refine tZ (Zu hr) ha hb hm λσ H Q h=>two (Fa:=Fa) (Fb:=Fb) h λB S E x y v w H2 Q' hS re rx ry q lk=>?_;obtain ⟨t,u,e1,e2,q⟩:=t2.ex q;split at q
 ·rename_i xs;obtain ⟨p,vs,e3,sq,rs⟩:=re.vl ry e2;exact ⟨t,xs,p,vs,(re.vl rx e1).rq,e3,sq,rs.rq,q.1,lk _ _ _ _ _ q.2 .refl re rfl⟩
 ·exact q.elim
def Lm:V->List V->Hp->VK->Prop:=λx vs H Q=>∃(l:SO) (xs:List V) (k:Int) (i:Nat) (y:V),x = .ref l/\vs=[.int k,y]/\k=(i:Int)/\H l=some (.lst xs)/\i<=xs.length/\xs.length<SX/\i<1000000/\Q .non (upd H l (.lst (xs.take i++y::xs.drop i)))
theorem Nl:FT X "list.insert" Lm:=by
 intro pins s σ H x vs v us Q I rx rv h;obtain ⟨l,xs,k,i,y,rfl,rfl,hk,hH,hi,hz,hi6,q⟩:=h;cases rx;obtain ⟨u,w,rfl,ru,br⟩:=bE.two rv;obtain ⟨t,rfl⟩:=ru;obtain ⟨z,VI,n,r,hl,e⟩:=I.lstM hH;have hlen:=r.length;have hf:Builtin.List.listFitsIndex k=true:=by
  rw [hk];unfold Builtin.List.listFitsIndex;simp;omega
 have hc:¬(!Builtin.List.listFitsIndex k)=true:=by rw [hf];decide
 have um:VI.toArray.size<=SX:=by rw [LN,<-hlen];exact MY hz
 have yt:=I.lset (t':=s.toks) (its':=VI.take i++w::VI.drop i) (ys:=xs.take i++y::xs.drop i) (f:=λys=>(ys.extract 0 (if k<0 then (k+(ys.size:Int)).toNat else min k.toNat ys.size)).push w++ys.extract (if k<0 then (k+(ys.size:Int)).toNat else min k.toNat ys.size)) hH e (by
  have e1:(if k<0 then (k+(VI.toArray.size:Int)).toNat else min k.toNat VI.toArray.size)=i:=by
   rw [hk,if_neg (by omega),NJ,LN];omega
  show (VI.toArray.extract 0 (if k<0 then (k+(VI.toArray.size:Int)).toNat else min k.toNat VI.toArray.size)).push w++VI.toArray.extract (if k<0 then (k+(VI.toArray.size:Int)).toNat else min k.toNat VI.toArray.size)=_;rw [e1];exact W.kl_ins_eq VI i w) ((r.take i).append (.cons br (r.drop i))) (by
  have el:(xs.take i++y::xs.drop i).length=xs.length+1:=by
   rw [LC,LJ,MA,PK];omega
  rw [el];exact hz)
 obtain ⟨arr,yu⟩:∃arr:Array Value,arr=VI.toArray:=⟨_,rfl⟩;rw [<-yu] at um e;have M:=PySem.AutoSeq1.list_insert_list_int_val_1 l arr n k t w hc um;refine call_meets PySem.F.slot_list_insert ⟨_,e,rfl⟩ PySem.F.entry_list_insert (PySem.F.args_list_insert_3 _ _ _) M ⟨e,?_⟩;exact ⟨.non,_,yt,rfl,q⟩
def U6:List R->Option (Int×T)
 | [a,b]=>(match a,b with
  | .p (.int i),.p t=>some (i,t)
  | _,_=>none)
 | _=>none
theorem C9 {rs:List R} {i:Int} {t:T} (h:U6 rs=some (i,t)):rs=[.p (.int i),.p t]:=by
 match rs,h with
 | [a,b],h=>
  unfold U6 at h;simp only at h;split at h
  ·cases h;rfl
  ·cases h
def GP (Fo:FE) (Fr:FA):FE:=λE Q=>Fo E λo E1=>o1 (ownOf E1 o) λ_=>Fr E1 λrs E2=>match o with
 | .s j=>(match E2[j]? with
  | some (some (.o k xs))=>o1 (U6 rs) λit=>0<=it.1/\it.1<=(xs.length:Int)/\xs.length<1000/\Q (.p .non) (E2.set j (some (.o k (xs.take it.1.toNat++it.2::xs.drop it.1.toNat))))
  | _=>False)
 | _=>False
theorem Mm {n:Nat} {e1 e2:Expr} {ap:Pos} (eK:X.K=K) (ho:QE X o (aM K Fo)) (ha:QA X [e1,e2] (dS K n Fr)) (WN:TV o "insert" X.env (TL o X.env)=TL o X.env:=by rfl) (WO:(ap.endLine==pos.line)=true:=by rfl) (hs:cC e1=false:=by rfl) (aj:cC e2=false:=by rfl) :
  QE X (.Call (.Attribute o "insert" ap) [e1,e2] [] pos) (aM K (GP Fo Fr)):=
 QE.le (t:=EL X.K "list" Lm (aM K Fo) (dS K n Fr)) ⟨Jv PySem.F.plainAttrs_list PySem.F.slot_list_insert PySem.F.type_list_insert Nl ho.h ha.h WN (by rw [cG hs,cG aj];rfl) WO (cG hs) (fB (by simp [bM,aj]))⟩ λσ H Q hl h=>by
  subst eK;obtain ⟨B,S,E,Q',⟨τ,hS⟩,re,hF,lk⟩:=h;refine ⟨B,S,E,_,⟨τ,hS⟩,re,hF,λoo E1 v H1 S1 q g1 VQ rx=>?_⟩;obtain ⟨τ1,XX⟩:=g1.pre;obtain ⟨ju,e0,q⟩:=o1.ex q;obtain ⟨j,k,p,vs,rfl,hE,uh,rfl,h2,h3⟩:=VQ.ownOf rx e0;refine ⟨.inl ⟨rfl,vs,j4.of h2⟩,B,S1,E1,_,⟨τ++τ1,by rw [XX,hS,LI]⟩,VQ,q,λrs E2 us H2 S2 q2 g2 WT rr hn=>?_⟩;have ZM:S2[j]? = some (some (.ref p)):=fH g2.pre uh;simp only at q2;split at q2
  ·rename_i k2' xs ui;obtain ⟨⟨i,t⟩,ea,i0,il,hz,q3⟩:=o1.ex q2;obtain rfl:=C9 ea;obtain ⟨y,ws,rfl,k1,z,fh,rfl,k2,rfl⟩:=rr;have i0:0<=i:=i0;have il:i<=(xs.length:Int):=il;obtain ⟨p',mh,z1,z2,z3,_⟩:=WT.own j k2' xs ui;rw [ZM] at z1;cases z1;have vl:=z3.length;obtain ⟨g3,WW⟩:=WT.put (ys:=xs.take i.toNat++t::xs.drop i.toNat) (ws:=mh.take i.toNat++z::mh.drop i.toNat) ui ZM ((z3.take _).append ⟨z,_,rfl,k2,z3.drop _⟩);cases k1;exact ⟨p,mh,i,i.toNat,z,rfl,rfl,by omega,z2,by omega,by rw [vl];exact bU (MY hz),by omega,lk _ _ _ _ _ q3 ((g1.trans g2).trans g3) WW rfl⟩
  ·exact q2.elim
end
end L2
namespace L2
open PySem PySem.Spec PyProof.Rows
def GY:En->Bool
 | []=>true
 | some (.o false _)::_=>false
 | _::E=>GY E
section
variable {K:W.Frag} {B:SO->Prop} {H H':Hp} {S S':St} {E E':En} {σ:St}
def rM (E:En):List R->Option (List T×En)
 | []=>some ([],E)
 | .p t::rs=>(rM E rs).map λz=>(t::z.1,z.2)
 | .s i::rs=>match E[i]? with
  | some (some (.o false xs))=>(rM (E.set i (some (.p (.lst xs)))) rs).map λz=>(.lst xs::z.1,z.2)
  | some (some (.p t))=>(rM E rs).map λz=>(t::z.1,z.2)
  | _=>none
theorem oV:∀{rs:List R} {vs:List V} {E:En} {z:List T×En},RE K B H S E->Ph K B H S E rs vs->rM E rs=some z->RE K B H S z.2/\(∀b,Ow B S z.2 b->Ow B S E b)/\cS K H (Ow B S z.2) z.1 vs
 | [],vs,E,z,re,h,e=>by cases e;exact ⟨re,λb z=>z,h⟩
 | .p t::rs,_,E,z,re,⟨v,ws,e1,h1,h2⟩,e=>by
  cases q:rM E rs with
  | none=>rw [rM,q] at e;cases e
  | some y=>
   rw [rM,q] at e;cases e;obtain ⟨r1,r2,r3⟩:=oV re h2 q;exact ⟨r1,r2,v,ws,e1,Rp.step (Kp.less r2) h1,r3⟩
 | .s i::rs,_,E,z,re,⟨v,ws,e1,h1,h2⟩,e=>by
  unfold rM at e;split at e
  ·rename_i xs hE;obtain ⟨ref,of⟩:=re.frz hE;cases q:rM (E.set i (some (.p (.lst xs)))) rs with
   | none=>rw [q] at e;cases e
   | some y=>
    rw [q] at e;cases e;have fx:Ph K B H S (E.set i (some (.p (.lst xs)))) rs ws:=Ph.step ⟨Kp.less λb z=>(of b z).1,[],by simp⟩ h2;obtain ⟨r1,r2,r3⟩:=oV ref fx q;have hi:i<E.length:=(KU.mp hE).1;obtain ⟨w,p1,p2⟩:=ref.pure i (.lst xs) (by rw [MR hi]);have h1:S[i]? = some (some v):=h1;rw [h1] at p1;cases p1;exact ⟨r1,λb z=>(of b (r2 b z)).1,v,ws,e1,Rp.step (Kp.less r2) p2,r3⟩
  ·rename_i t hE;cases q:rM E rs with
   | none=>rw [q] at e;cases e
   | some y=>
    rw [q] at e;cases e;obtain ⟨r1,r2,r3⟩:=oV re h2 q;obtain ⟨w,p1,p2⟩:=re.pure i t hE;have h1:S[i]? = some (some v):=h1;rw [h1] at p1;cases p1;exact ⟨r1,r2,v,ws,e1,Rp.step (Kp.less r2) p2,r3⟩
  ·cases e
end
section
variable {X:Cx} {K:W.Frag} {pos:Pos} {es:List Expr} {Fr:FA}
def AO (Fr:FA):FE:=λE Q=>Fr E λrs E1=>o1 (rM E1 rs) λz=>Q (.s z.2.length) (z.2++[some (.o false z.1)])
theorem Xa {n:Nat} (h:QA X es (dS K n Fr)) (hz:n<=1000:=by decide):QE X (.List es pos) (aM K (AO Fr)):=by
 refine (Fd h).le λσ H Q hl h=>args (Fr:=Fr) h λB S E rs vs H2 Q' hS re rr hn q lk=>⟨by rw [hn];exact MY (bU hz),λp hp=>?_⟩;obtain ⟨z,e,q⟩:=q.ex;obtain ⟨VQ,ow1,rs1⟩:=oV re rr e;obtain ⟨g,VN⟩:=VQ.lst hp rs1;exact lk _ _ _ _ _ q (Gr.trans ⟨Kp.less ow1,[],by simp⟩ g) VN (by rw [<-VQ.len];exact lU)
end
end L2
namespace L2
open PySem PySem.Spec PyProof.Rows
end L2
namespace L2
open PySem PySem.Spec PyProof.Rows
end L2
namespace L2
open PySem PySem.Spec PyProof.Rows
end L2
namespace L2
open PySem PySem.Spec PyProof.Rows
end L2
namespace L2
open PySem PySem.Spec PyProof.Rows
section
variable {X:Cx} {e:Expr} {es:List Expr} {pos:Pos} {K:W.Frag} {Fr:FA}
theorem Pa (hc:X.calm=true):gM X (.builtin "max") (λxs H Q=>∃a b:Int,xs=[.int a,.int b]/\Q (.int (if a<b then b else a)) H):=by
 intro pins s σ H xs us Q I r h;obtain ⟨a,b,rfl,q⟩:=h;obtain ⟨u,v,rfl,rx,ry⟩:=bE.two r;obtain ⟨t,rfl⟩:=rx;obtain ⟨t',rfl⟩:=ry;refine max_two_ints (I.ok.hd hc) λh' tk hk=>?_
 by_cases c:a<b
 ·simp only [if_pos c] at q ⊢;exact ⟨.int b,H,I.kept hk,⟨_,rfl⟩,q⟩
 ·simp only [if_neg c] at q ⊢;exact ⟨.int a,H,I.kept hk,⟨_,rfl⟩,q⟩
def HS (Fr:FA):FE:=λE Q=>Fr E λrs E1=>match rs with
 | [x,y]=>i2 (vl E1 x) (vl E1 y) λi j=>Q (.p (.int (if i<j then j else i))) E1
 | _=>False
theorem Q0 {n:Nat} {p:Pos} (hc:X.calm=true) (hg:Gl X "max") (hm:X.mg "max" = none) (ha:QA X (e::es) (dS K n Fr)) (hs:bM (e::es)=true:=by rfl):QE X (.Call (.Name "max" p) (e::es) [] pos) (aM K (HS Fr)):=by
 refine (eU (Pa hc) hg hm boot_max ha (by decide) (by decide) hs).le λσ H Q hl h=>args (Fr:=Fr) h λB S E rs vs H2 Q' hS re rr hn q lk=>?_
 match rs,rr,q with
 | [x,y],⟨v,ws,e1,h1,u,fh,e2,h2,h3⟩,q=>
  cases h3;subst e2;subst e1;obtain ⟨i,j,e3,e4,q⟩:=i2.ex q;exact ⟨i,j,by rw [re.int h1 e3,re.int h2 e4],lk _ _ _ _ _ q .refl re rfl⟩
 | [],_,q=>exact q.elim
 | [_],_,q=>exact q.elim
 | _::_::_::_,_,q=>exact q.elim
end
end L2
namespace HT
open PySem PySem.Spec PyProof.Rows
end HT
namespace HT
open PySem PySem.Spec PyProof.Rows
end HT
namespace L2
open PySem PySem.Spec PyProof.Rows
section
variable {X:Cx} {K:W.Frag} {a b e:Expr} {te:TE} {st:Option Expr} {ts:TO} {pos p2:Pos} {Fa Fb:FE} {G ar Gh:FO}
def JB (Fa:FE) (G:FO):FE:=λE Q=>Fa E λx E1=>G E1 λk E2=>k=some (-1)/\match vl E2 x with
 | some (.tup xs)=>Q (.p (.tup xs.reverse)) E2
 | _=>False
def GI (Fa:FE) (ar Gh:FO):FE:=λE Q=>Fa E λx E1=>ar E1 λlo E2=>Gh E2 λhi E3=>match vl E3 x with
 | some (.tup xs)=>¬(HT.sIx xs.length 0 lo=0/\HT.sIx xs.length xs.length hi=xs.length)/\Q (.p (.tup (iN xs lo hi))) E3
 | _=>False
theorem kD {lo hi:Option Expr} (eK:X.K=K) (he:QE X e (aM K Fa)) (hl:QO X lo (Dh K ar)) (hu:QO X hi (Dh K Gh)):QE X (.Subscript e (.Slice lo hi none p2) pos) (aM K (GI Fa ar Gh)):=by
 subst eK;refine (uS W2 he hl hu).le λσ H Q _ ⟨B,S,E,Q',⟨τ,hS⟩,re,hF,lk⟩=>⟨B,S,E,_,⟨τ,hS⟩,re,hF,λx E1 v H1 S1 q g1 VQ rx=>?_⟩;obtain ⟨τ1,XX⟩:=g1.pre;refine ⟨B,S1,E1,_,⟨τ++τ1,by rw [XX,hS,LI]⟩,VQ,q,λl E2 H2 S2 q2 g2 WT=>?_⟩;obtain ⟨τ2,kq⟩:=g2.pre;refine ⟨B,S2,E2,_,⟨τ++τ1++τ2,by rw [kq,XX,hS,LI,LI,LI]⟩,WT,q2,λh E3 H3 S3 q3 g3 WW=>?_⟩;have yk:=(rx.step g2).step g3;split at q3
 ·rename_i xs e1;obtain ⟨a,vs,e2,sq,rs⟩:=WW.vl yk e1;obtain ⟨nw,q3⟩:=q3;refine ⟨a,vs,e2,sq,by rw [rs.length];exact nw,λp hp=>?_⟩;obtain ⟨g,VN,rp⟩:=WW.tup hp (Us (lo:=l) (hi:=h) rs);exact lk _ _ _ _ _ q3 (((g1.trans g2).trans g3).trans g) VN rp
 ·exact q3.elim
def CV (Fa Fb:FE):FE:=λE Q=>Fa E λx E1=>Fb E1 λy E2=>match vl E2 x,vl E2 y with
 | some (.tup (t::xs)),some (.tup (u::ys))=>xs.length+ys.length<=900/\Q (.p (.tup (t::xs++u::ys))) E2
 | some (.tup (_::xs)),some (.tup [])=>xs.length<=900/\Q x E2
 | _,_=>False
theorem Lb (eK:X.K=K) (ha:QE X a (aM K Fa)) (hb:QE X b (aM K Fb)):QE X (.BinOp a .Add b pos) (aM K (CV Fa Fb)):=by
 subst eK;refine (Hz Xg ha hb).le λσ H Q hl h=>two (Fa:=Fa) (Fb:=Fb) h λB S E x y v w H2 Q' hS re rx ry q lk=>?_;split at q
 ·rename_i t xs u ys e1 e2;obtain ⟨hz,q⟩:=q;obtain ⟨p,vs,rfl,sq,rs⟩:=re.vl rx e1;obtain ⟨p',gv,rfl,uo,jt⟩:=re.vl ry e2;have l1:=rs.length;have l2:=jt.length;rw [LJ] at l1 l2;refine ⟨p,p',vs,gv,rfl,rfl,sq,uo,λz=>by rw [z] at l1;simp at l1,MY (bU (by omega)),λz=>by rw [z] at l2;simp at l2,λ_ r hr=>?_⟩;obtain ⟨g,VN,rp⟩:=re.tup hr (rs.append jt);exact lk _ _ _ _ _ q g VN rp
 ·rename_i t xs e1 e2;obtain ⟨hz,q⟩:=q;obtain ⟨p,vs,rfl,sq,rs⟩:=re.vl rx e1;obtain ⟨p',gv,rfl,uo,jt⟩:=re.vl ry e2;have l1:=rs.length;have l2:=jt.length;rw [LJ] at l1;rw [NF] at l2;exact ⟨p,p',vs,gv,rfl,rfl,sq,uo,λz=>by rw [z] at l1;simp at l1,MY (bU (by omega)),λ_=>lk _ _ _ _ _ q .refl re rx,λz=>absurd (List.length_eq_zero_iff.mp l2) z⟩
 ·exact q.elim
end
end L2
namespace L2
open PySem PySem.Spec PyProof.Rows
end L2
namespace L2
open PySem PySem.Spec PyProof.Rows
mutual
def jT:T->PyData
 | .non=>.none
 | .bl b=>.bool b
 | .int i=>.int i
 | .str x=>.str x
 | .tup xs=>.tuple (eF xs)
 | .lst xs=>.list (eF xs)
def eF:List T->List PyData
 | []=>[]
 | x::xs=>jT x::eF xs
end
mutual
def kF:T->Bool
 | .int i=>decide (i.natAbs.log2<1920)
 | .tup xs=>tI xs
 | .lst xs=>tI xs
 | _=>true
def tI:List T->Bool
 | []=>true
 | x::xs=>kF x&&tI xs
end
mutual
def lenB:T->Nat
 | .non=>4
 | .bl _=>5
 | .int _=>1921
 | .str x=>(reprText x).length
 | .tup xs=>mG xs+3
 | .lst xs=>mG xs+3
def mG:List T->Nat
 | []=>0
 | x::xs=>lenB x+2+mG xs
end
mutual
theorem I0:∀{t:T},kF t=true->(jT t).showable=true
 | .non,_=>rfl
 | .bl _,_=>rfl
 | .int i,h=>h
 | .str _,_=>rfl
 | .tup xs,h=>pQ (xs:=xs) h
 | .lst xs,h=>pQ (xs:=xs) h
theorem pQ:∀{xs:List T},tI xs=true->PyData.showableAll (eF xs)=true
 | [],_=>rfl
 | x::xs,h=>by
  have h':kF x=true/\tI xs=true:=by simpa [tI] using h
  show ((jT x).showable&&PyData.showableAll (eF xs))=true;rw [I0 h'.1,pQ h'.2];rfl
end
mutual
theorem K9:∀t:T,(jT t).hasDict=false
 | .non=>rfl
 | .bl _=>rfl
 | .int _=>rfl
 | .str _=>rfl
 | .tup xs=>Hw xs
 | .lst xs=>Hw xs
theorem Hw:∀xs:List T,PyData.hasDictAll (eF xs)=false
 | []=>rfl
 | x::xs=>by
  show ((jT x).hasDict||PyData.hasDictAll (eF xs))=false;rw [K9 x,Hw xs];rfl
end
mutual
theorem Ql:∀t:T,(jT t).depth<=dT t
 | .non=>LF _
 | .bl _=>LF _
 | .int _=>LF _
 | .str _=>LF _
 | .tup xs=>by have:=zK xs;simp only [jT,PyData.depth,dT];omega
 | .lst xs=>by have:=zK xs;simp only [jT,PyData.depth,dT];omega
theorem zK:∀xs:List T,PyData.depthAll (eF xs)<=qF xs
 | []=>LF _
 | x::xs=>by
  have h1:=Ql x;have h2:=zK xs;simp only [eF,PyData.depthAll,qF];exact PL.mpr ⟨MG h1 (OZ _ _),MG h2 (OU _ _)⟩
end
end L2
namespace L2
open PySem PySem.Spec PyProof.Rows
end L2
namespace L2
open PySem PySem.Spec PyProof.Rows
end L2
namespace L2
open PySem PySem.Spec PyProof.Rows
end L2
namespace L2
open PySem PySem.Spec PyProof.Rows
end L2
namespace L2
open PySem PySem.Spec PyProof.Rows
end L2
namespace L2
open PySem PySem.Spec PyProof.Rows
end L2
namespace L2
open PySem PySem.Spec PyProof.Rows
end L2
namespace L2
open PySem PySem.Spec PyProof.Rows
theorem Ud:TF "any" = some (.builtin "any"):=by decide +kernel
section
variable {X:Cx}
theorem Ni (hc:X.calm=true):gM X (.builtin "any") (λxs H Q=>∃(p:SO) (bs:List Bool),xs=[.ref p]/\j4 X.K H p (bs.map V.bl)/\Q (.bl (bs.any id)) H):=by
 intro pins s σ H xs us Q I r h;obtain ⟨p,bs,rfl,hq,q⟩:=h;obtain ⟨u,rfl,rx⟩:=oZ r;cases rx;obtain ⟨VI,rv,pl,hz⟩:=I.list hq;have YC:p≠s.heap.objs.size:=by
  obtain ⟨o,n,ho,_⟩:=pl;exact MC (LL ho)
 have hl:=rv.length;rw [KW] at hl;have hA:X.A.in1.handled=none:=I.ok.hd hc;refine call_any_walk (wpAny_pyIter_list pl.isList ?_);refine ⟨s.heap.objs.size,_,_,_,_,_,(λi=>bs.getD i false),rfl,Walks.list hA s.heap.objs.size p YC VI.toArray,⟨⟨_,LR _ rfl,rfl,rfl⟩,pl.isList.at λo e=>LG _ e⟩,?_,?_⟩
 ·intro i v s' Q' E' hv qu;have qw:VI[i]? = some v:=by simpa using hv
  have hi:i<VI.length:=(KU.mp qw).1;have hb:(bs.map V.bl)[i]? = some (V.bl bs[i]):=by
   rw [LK,KS (by omega)];rfl
  obtain ⟨u,hu,ru⟩:=rv.get hb;rw [qw] at hu;cases hu;cases ru;have e:bs.getD i false=bs[i]:=by rw [LH,KS (by omega)];rfl
  simp only [e] at qu;exact TY qu
 ·intro h' tk hk;have e:(MV VI.toArray.size).any (λi=>bs.getD i false)=bs.any id:=by
   rw [LN,<-hl];clear hl hz rv q hq pl YC;rw [NQ,NU,NU];constructor
   ·rintro ⟨i,hi,h⟩;have hi:=MU.mp hi;rw [LH,KS hi] at h;exact ⟨_,NN hi,h⟩
   ·rintro ⟨b,hb,h⟩;obtain ⟨i,hi,rfl⟩:=List.mem_iff_getElem.mp hb;refine ⟨i,MU.mpr hi,?_⟩;rw [LH,KS hi];exact h
  rw [e];refine ⟨.bl _,H,?_,rfl,q⟩;exact I.kept λb o e=>hk b o (by simp;exact MC (LL e)) (LG _ e)
end
section
variable {X:Cx} {K:W.Frag} {pos:Pos} {Fr:FA} {Fa:FE} {e a:Expr} {es:List Expr}
def IH (Fr:FA):FE:=λE Q=>Fr E λrs E1=>match rs with
 | [x]=>(match vl E1 x with
  | some (.lst xs)=>o1 (jN xs) λbs=>Q (.p (.bl (bs.any id))) E1
  | _=>False)
 | _=>False
theorem Q8 {n:Nat} {p:Pos} (eK:X.K=K) (hc:X.calm=true) (hg:Gl X "any") (hm:X.mg "any" = none) (ha:QA X (e::es) (dS K n Fr)) (hs:bM (e::es)=true:=by rfl):QE X (.Call (.Name "any" p) (e::es) [] pos) (aM K (IH Fr)):=by
 subst eK;refine (eU (Ni hc) hg hm Ud ha (by decide) (by decide) hs).le λσ H Q hl h=>args (Fr:=Fr) h λB S E rs vs H2 Q' hS re rr hn q lk=>?_
 match rs,rr,q with
 | [x],⟨v,ws,e1,h1,h2⟩,q=>
  cases h2;subst e1;simp only at q;split at q
  ·rename_i xs e2;obtain ⟨p,us,rfl,sq,rs⟩:=re.vl h1 e2;obtain ⟨bs,e3,q⟩:=o1.ex q;refine ⟨p,bs,rfl,by rw [<-Fh rs e3];exact sq,lk _ _ _ _ _ q .refl re rfl⟩
  ·exact q.elim
 | [],_,q=>exact q.elim
 | _::_::_,_,q=>exact q.elim
end
end L2
namespace L2
open PySem PySem.Spec PyProof.Rows
structure M2 (X:Cx) (o:Expr) (m:Str) (apos:Pos) (e f:Expr) (XM:Pos):Prop where
 base:TV o m X.env (TL o X.env)=TL o X.env
 few:((UI XM (TJ [e,f] X.env)).all (λx=>!x.1)&&(backToKw XM (keywordEach [] X.env)).all (λx=>x.1.isSome)
 &&decide (([e,f]:List Expr).length+([]:List Keyword).length+(if ([]:List Keyword).isEmpty then 0 else 1)<30))=true
 line:(apos.endLine==XM.line)=true
 trees:UI XM (TJ [e,f] X.env)=[(false,TL e X.env),(false,TL f X.env)]
def JI (H:Hp) (a:SO):Prop:=(∃VV,Rd H a (.dK VV))\/∃VV,Rd H a (.dT VV)
theorem N9 {X:Cx} {pins:List (SO×Obj)} {σ:St} {H:Hp} {s:Shared} {a:SO} (I:aY X pins σ H s) (d:JI H a) :
  s.TypeIs (.ref a) "dict"/\(∀b,MX a = .ref b->∃ob,s.heap.get? b=some ob/\ob.dict=none)/\(a==UG)=false:=by
 rcases d with ⟨VV,e⟩ | ⟨VV,e⟩
 ·obtain ⟨_,hd,vs,_,dd⟩:=AN I.hok e;refine ⟨dd.typeIs,λb q=>?_,hd⟩;cases q;obtain ⟨ob,_,_,h1,h2,_⟩:=dd;exact ⟨ob,h1,h2.2.1⟩
 ·obtain ⟨_,hd,xs,_,dd⟩:=D6 I.hok e;refine ⟨dd.typeIs,λb q=>?_,hd⟩;cases q;obtain ⟨ob,_,_,h1,h2,_⟩:=dd;exact ⟨ob,h1,h2.2.1⟩
end L2
namespace L2
open PySem PySem.Spec PyProof.Rows
end L2
namespace L2
open PySem PySem.Spec PyProof.Rows
end L2
namespace L2
open PySem PySem.Spec PyProof.Rows
section
variable {X:Cx} {K:W.Frag} {Fe:FE} {Fb:FB} {g:FG} {I:FI}
theorem As {target elt iter c:Expr} {scope:TR} {pos pos' YO:Pos} {N':List Str} {cap:List (Nat×Bool)} {t i:Nat} {x:Str} (hN:X.N.Nodup) (hi:X.N[i]? = some x) (hx:Ef X.env.scope x)
  (ly:TZ (.ListComp elt [⟨target,iter,[c],0⟩] scope pos) (some (.Name x pos')) YO.line X.env=pure true) (hc:X.calm=true) (S:bP X N' scope t (cap.map (·.1))) (ho:jZ cap=true) (cj:(cap.map (·.1)).Nodup) (hit:QI X target iter (lZ K I))
  (hg:∀C s3 H3 fp,QG (b8 X N' scope C s3 H3 fp) target (pR K g)) (hb:∀C s3 H3 fp,QT (b8 X N' scope C s3 H3 fp) c (eJ K Fb)) (he:∀C s3 H3 fp,QE (b8 X N' scope C s3 H3 fp) elt (aM K Fe)) (hs:∀x,TH iter X.env x=pure x:=by intro _;rfl)
  (hf:X.fn x=true\/X.env.scope.names.lookup x=some .local:=by first | exact .inl rfl | exact .inr rfl | assumption) :
  QS X (.Assign [.Name x pos'] (.ListComp elt [⟨target,iter,[c],0⟩] scope pos) YO) (iA K (Wv i (tY t cap I g Fb Fe))):=
 QS.le (t:=Fl (qP t (cap.map λx:Nat×Bool=>x.1) (lZ K I) (Am none K g) (Ke none K Fb) (sV none K Fe)) (tO i)) ⟨Aq hN hi hx hf ly hc S hit.h (λC s3 H3 fp=>(hg C s3 H3 fp).gd.h) (λC s3 H3 fp=>(hb C s3 H3 fp).bd.h.one) (λC s3 H3 fp=>(he C s3 H3 fp).ed.h) hs⟩ λD σ H hl ⟨B,E,DT,re,hF,l⟩=>qJ (d:=none) (d':=none) S ho cj hl (λ_ _ _ z=>by cases z) ⟨(λ_ z=>by cases z),B,σ,E,_,⟨[],by simp⟩,re,hF,λr E' v H' S' q g VN rr=>by
  obtain ⟨u,e1,q⟩:=q.ex;rw [<-re.len] at e1 q;obtain ⟨r1,ow⟩:=kH (i:=i) VN g.pre rr e1;exact l.nx _ _ _ q (g.kp.trans (Kp.less ow)) r1⟩
end
end L2
namespace L2
open PySem PySem.Spec PyProof.Rows
end L2
namespace L2
open PySem PySem.Spec PyProof.Rows
def s1 (x:Option T) (k:Str->Prop):Prop:=match x with
 | some (.str i)=>k i
 | _=>False
theorem s1.ex {x:Option T} {k:Str->Prop} (h:s1 x k):∃i,x=some (.str i)/\k i:=by
 unfold s1 at h;split at h
 ·exact ⟨_,rfl,h⟩
 ·exact h.elim
def s2 (x y:Option T) (k:Str->Str->Prop):Prop:=match x,y with
 | some (.str i),some (.str j)=>k i j
 | _,_=>False
theorem s2.ex {x y:Option T} {k:Str->Str->Prop} (h:s2 x y k):∃i j,x=some (.str i)/\y=some (.str j)/\k i j:=by
 unfold s2 at h;split at h
 ·exact ⟨_,_,rfl,rfl,h⟩
 ·exact h.elim
def si (x y:Option T) (k:Str->Int->Prop):Prop:=match x,y with
 | some (.str i),some (.int j)=>k i j
 | _,_=>False
theorem si.ex {x y:Option T} {k:Str->Int->Prop} (h:si x y k):∃i j,x=some (.str i)/\y=some (.int j)/\k i j:=by
 unfold si at h;split at h
 ·exact ⟨_,_,rfl,rfl,h⟩
 ·exact h.elim
abbrev big:Nat:=1000000
theorem Vc {n:Nat} (h:n<=big):n<=SX:=by rw [VH];unfold big at h;omega
section
variable {K:W.Frag} {B:SO->Prop} {H:Hp} {S:St} {E:En}
theorem RE.str (re:RE K B H S E) {r:R} {v:V} {i:Str} (h:RR K B H S E r v) (e:L2.vl E r=some (.str i)):v = .str i:=re.vl h e
end
section
variable {X:Cx} {K:W.Frag} {pos:Pos} {a b c e o:Expr} {es:List Expr} {Fa Fb Fc Fo:FE} {Fr:FA}
def ID (Fa Fb:FE):FE:=λE Q=>Fa E λx E1=>Fb E1 λy E2=>s2 (vl E2 x) (vl E2 y) λi j=>Q (.p (.bl (!(Builtin.Str.occurrences j i 0 j.length 1).isEmpty))) E2
def IL (Fa Fb:FE):FE:=λE Q=>Fa E λx E1=>Fb E1 λy E2=>si (vl E2 x) (vl E2 y) λi j=>i.length<=big/\o1 (gN i.cps.toList j) λc=>Q (.p (.str ⟨#[c]⟩)) E2
theorem Gi (eK:X.K=K) (ha:QE X a (aM K Fa)) (hb:QE X b (aM K Fb)) (hs:sJ b):QE X (.Subscript a b pos) (aM K (IL Fa Fb)):=by
 subst eK;refine (J8 So ha hb hs).le λσ H Q hl h=>two (Fa:=Fa) (Fb:=Fb) h λB S E x y v w H2 Q' hS re rx ry q lk=>?_;obtain ⟨i,j,e1,e2,c,q⟩:=q.ex;obtain ⟨d,e3,q⟩:=o1.ex q;exact .inr (.inr ⟨i,j,d,re.str rx e1,re.int ry e2,Vc c,e3,lk _ _ _ _ _ q .refl re rfl⟩)
end
end L2
namespace L2
open PySem PySem.Spec PyProof.Rows
open Classical in
noncomputable def hide (Z:SO->Prop) (H:Hp):Hp:=λb=>if Z b then none else H b
open Classical in
noncomputable def back (Z:SO->Prop) (H H':Hp):Hp:=λb=>if Z b then H b else H' b
section
variable {Z:SO->Prop} {H H':Hp} {b:SO} {o:HO}
theorem jW (h:Z b):hide Z H b=none:=if_pos h
theorem b9 (h:¬Z b):hide Z H b=H b:=if_neg h
theorem j6 (h:H b=none):hide Z H b=none:=by unfold hide;split<;>first | rfl | exact h
theorem cV (h:hide Z H b=some o):¬Z b/\H b=some o:=by
 unfold hide at h;split at h
 ·cases h
 ·rename_i n;exact ⟨n,h⟩
theorem jD (h:Z b):back Z H H' b=H b:=if_pos h
theorem dI (h:¬Z b):back Z H H' b=H' b:=if_neg h
end
end L2
namespace L2
open PySem PySem.Spec PyProof.Rows
section
variable {X:Cx} {pins:List (SO×Obj)} {σ:St} {H H':Hp} {s s':Shared}
def Oo:HO->Prop
 | .lst _=>True
 | .dT _=>True
 | .dK _=>True
 | _=>False
theorem Oo.obj {P:SS} {w:SW} {h:Heap} {a:SO} {o:HO} (hk:Oo o) (k:dU P w H h a o):∃ob,h.get? a=some ob/\(∀v,ob.data≠.cell v):=by
 cases o with
 | lst xs=>obtain ⟨_,VI,n,_,e⟩:=k;exact ⟨_,e,λv z=>by cases z⟩
 | dT VV=>obtain ⟨_,_,xs,_,ob,es,ep,e,_,d,_⟩:=k;exact ⟨_,e,λv z=>by rw [d] at z;cases z⟩
 | dK VV=>obtain ⟨_,_,xs,_,ob,es,ep,e,_,d,_⟩:=k;exact ⟨_,e,λv z=>by rw [d] at z;cases z⟩
 | _=>exact hk.elim
def kZ (h:Heap) (Z:List SO):List (SO×Obj):=Z.filterMap λc=>(h.get? c).map λo=>(c,o)
theorem Ho {h:Heap} {Z:List SO} {p:SO×Obj} (m:p∈kZ h Z):p.1∈Z/\h.get? p.1=some p.2:=by
 obtain ⟨c,mc,e⟩:=PV.mp m;cases q:h.get? c with
 | none=>rw [q] at e;cases e
 | some o=>rw [q] at e;cases e;exact ⟨mc,q⟩
theorem Mi {h:Heap} {Z:List SO} {c:SO} {o:Obj} (m:c∈Z) (e:h.get? c=some o):(c,o)∈kZ h Z:=PV.mpr ⟨c,m,by rw [e];rfl⟩
theorem aY.frame_none (I:aY X pins σ H s) {b:SO} (h:b∈X.fs):H b=none:=by
 obtain ⟨_,o,ho,_⟩:=I.ok.funs.mem h;exact I.base.free b o ho (I.ok.frf b h) λx=>I.ok.exfs b x h
theorem aY.hide (I:aY X pins σ H s) {Z:List SO} (hZ:∀c∈Z,∃o,H c=some o/\Oo o):aY X (pins++kZ s.heap Z) σ (L2.hide (·∈Z) H) s:=by
 have nl:∀{b:SO} {o:HO},H b=some o->¬Oo o->¬b∈Z:=λ{b o} h n z=>by
  obtain ⟨o',e,k⟩:=hZ b z;rw [h] at e;cases e;exact n k
 refine ⟨I.ok,I.os,I.bare,⟨I.base.keep,I.base.slot,λb o q n x=>j6 (I.base.free b o q n x),I.base.there,λb xs q=>?_,λb o u q=>?_,λb ps q=>?_⟩,I.loc,I.cell,j6 I.free,λx c q=>j6 (I.freeC x c q),λp m=>?_,λa o e=>?_,I.len⟩
 ·have:=I.base.tups b xs q;rw [b9 (nl this λz=>z)];exact this
 ·have:=I.base.frzs b o u q;rw [b9 (nl this λz=>z)];exact this
 ·obtain ⟨more,this⟩:=I.base.tbls b ps q;exact ⟨more,by rw [b9 (nl this λz=>z)];exact this⟩
 ·rw [<-LI] at m;rcases LP.mp m with m | m
  ·obtain ⟨h1,h2,h3⟩:=I.pin p m;exact ⟨h1,j6 h2,h3⟩
  ·obtain ⟨mz,e⟩:=Ho m;obtain ⟨o,eo,k⟩:=hZ p.1 mz;obtain ⟨ob,e2,dc⟩:=k.obj (I.hok p.1 o eo);rw [e] at e2;cases e2;refine ⟨e,jW mz,λc=>?_,λc=>?_,dc⟩
   ·rw [c,I.free] at eo;cases eo
   ·have hn:=I.frame_none c;rw [hn] at eo;cases eo
 ·obtain ⟨n,e⟩:=cV e;exact (I.hok a o e).stay (λ_ _ _ q=>q) (λb q=>by rw [b9 (nl q λz=>z)];exact q) (λb xs q=>by rw [b9 (nl q λz=>z)];exact q)
theorem aY.back (I:aY X pins σ H s) {Z:List SO} (hZ:∀c∈Z,∃o,H c=some o/\Oo o) {σ':St} {H1:Hp} (I1:aY X (pins++kZ s.heap Z) σ' H1 s') (ht:∀b xs,H b=some (.tup xs)->H1 b=some (.tup xs)):aY X pins σ' (L2.back (·∈Z) H H1) s'/\∀c∈Z,H1 c=none:=by
 have pin:∀c∈Z,∃ob,s.heap.get? c=some ob/\s'.heap.get? c=some ob/\H1 c=none:=λc m=>by
  obtain ⟨o,eo,k⟩:=hZ c m;obtain ⟨ob,e,_⟩:=k.obj (I.hok c o eo);obtain ⟨h1,h2,_⟩:=I1.pin (c,ob) (by rw [<-LI];exact LP.mpr (.inr (Mi m e)));exact ⟨ob,e,h1,h2⟩
 have gone:∀c∈Z,H1 c=none:=λc m=>let ⟨_,_,_,h⟩:=pin c m;h;have pg:∀{b:SO} {o:HO},H1 b=some o->¬b∈Z:=λ{b o} h m=>by rw [gone b m] at h;cases h
 refine ⟨⟨I1.ok,I1.os,I1.bare,⟨I1.base.keep,I1.base.slot,λb o q n x=>?_,I1.base.there,λb xs q=>?_,λb o u q=>?_,λb ps q=>?_⟩,I1.loc,I1.cell,?_,λx c q=>?_,λp m=>?_,λa o e=>?_,I1.len⟩,gone⟩
 ·by_cases z:b∈Z
  ·rw [jD z];exact I.base.free b o q n x
  ·rw [dI z];exact I1.base.free b o q n x
 ·have:=I1.base.tups b xs q;rw [dI (pg this)];exact this
 ·have:=I1.base.frzs b o u q;rw [dI (pg this)];exact this
 ·obtain ⟨more,this⟩:=I1.base.tbls b ps q;exact ⟨more,by rw [dI (pg this)];exact this⟩
 ·by_cases z:X.env.locals∈Z
  ·rw [jD z];exact I.free
  ·rw [dI z];exact I1.free
 ·by_cases z:c∈Z
  ·rw [jD z];exact I.freeC x c q
  ·rw [dI z];exact I1.freeC x c q
 ·obtain ⟨h1,h2,h3⟩:=I1.pin p (by rw [<-LI];exact LP.mpr (.inl m));refine ⟨h1,?_,h3⟩
  by_cases z:p.1∈Z
  ·rw [jD z];exact (I.pin p m).2.1
  ·rw [dI z];exact h2
 ·by_cases z:a∈Z
  ·rw [jD z] at e;obtain ⟨o',eo,k⟩:=hZ a z;rw [e] at eo;cases eo;obtain ⟨ob,g1,g2,_⟩:=pin a z;have hk:=I.hok a o e;cases o with
   | lst xs=>
    obtain ⟨y,VI,n,r,g⟩:=hk;rw [g1] at g;cases g;exact ⟨y,VI,n,r,g2⟩
   | dT VV=>
    obtain ⟨y,ys,xs,r,ob',es,ep,g,c⟩:=hk;rw [g1] at g;cases g;refine ⟨y,ys,xs,Paired.mapP r λp q z=>⟨z.1,?_,z.2.2⟩,ob,es,ep,g2,c⟩;have t1:=ht _ _ z.2.1;rw [dI (pg t1)];exact t1
   | dK VV=>
    obtain ⟨y,ys,xs,r,ob',es,ep,g,c⟩:=hk;rw [g1] at g;cases g;exact ⟨y,ys,xs,r,ob,es,ep,g2,c⟩
   | _=>exact k.elim
  ·rw [dI z] at e;exact (I1.hok a o e).stay (λ_ _ _ q=>q) (λb q=>by rw [dI (pg q)];exact q) (λb xs q=>by rw [dI (pg q)];exact q)
def mF.fr (D:mF) (Z:List SO) (H:Hp):mF where
 nx:=λσ H1=>(∀b xs,H b=some (.tup xs)->H1 b=some (.tup xs))/\((∀c∈Z,H1 c=none)->D.nx σ (L2.back (·∈Z) H H1))
 rt:=λv H1=>(∀b xs,H b=some (.tup xs)->H1 b=some (.tup xs))/\((∀c∈Z,H1 c=none)->D.rt v (L2.back (·∈Z) H H1))
 bk:=λσ H1=>(∀b xs,H b=some (.tup xs)->H1 b=some (.tup xs))/\((∀c∈Z,H1 c=none)->D.bk σ (L2.back (·∈Z) H H1))
 ct:=λσ H1=>(∀b xs,H b=some (.tup xs)->H1 b=some (.tup xs))/\((∀c∈Z,H1 c=none)->D.ct σ (L2.back (·∈Z) H H1))
def IJ (t:TS):TS:=λD σ H=>∃Z:List SO,(∀c∈Z,∃o,H c=some o/\Oo o)/\t (D.fr Z H) σ (L2.hide (·∈Z) H)
theorem SP.back (I:aY X pins σ H s) {Z:List SO} (hZ:∀c∈Z,∃o,H c=some o/\Oo o) {D:mF} {f:Flow} (h:SP X (pins++kZ s.heap Z) (D.fr Z H) f s'):SP X pins D f s':=by
 cases f with
 | next=>
  obtain ⟨σ',H1,I1,ht,q⟩:=h;obtain ⟨I2,g⟩:=I.back hZ I1 ht;exact ⟨σ',_,I2,q g⟩
 | brk=>
  obtain ⟨σ',H1,I1,ht,q⟩:=h;obtain ⟨I2,g⟩:=I.back hZ I1 ht;exact ⟨σ',_,I2,q g⟩
 | cont=>
  obtain ⟨σ',H1,I1,ht,q⟩:=h;obtain ⟨I2,g⟩:=I.back hZ I1 ht;exact ⟨σ',_,I2,q g⟩
 | ret u=>
  obtain ⟨v,σ',H1,I1,rv,ht,q⟩:=h;obtain ⟨I2,g⟩:=I.back hZ I1 ht;exact ⟨v,σ',_,I2,rv,q g⟩
theorem QS.frame {st:TB} {t:TS} (h:QS X st t):QS X st (IJ t):=⟨λpins s σ H D I ⟨Z,hZ,q⟩=>dM (h.h (pins++kZ s.heap Z) s σ _ _ (I.hide hZ) q) λf s' z=>SP.back I hZ z⟩
theorem QB.frame {st:List TB} {t:TS} (h:QB X st t):QB X st (IJ t):=⟨λpins s σ H D I ⟨Z,hZ,q⟩=>dM (h.h (pins++kZ s.heap Z) s σ _ _ (I.hide hZ) q) λf s' z=>SP.back I hZ z⟩
def KD (t:TE):TE:=λσ H Q=>∃Z:List SO,(∀c∈Z,∃o,H c=some o/\Oo o)/\t σ (L2.hide (·∈Z) H) λv H1=>(∀b xs,H b=some (.tup xs)->H1 b=some (.tup xs))/\((∀c∈Z,H1 c=none)->Q v (L2.back (·∈Z) H H1))
theorem QE.frame {e:Expr} {t:TE} (h:QE X e t):QE X e (KD t):=⟨λpins s σ H Q I ⟨Z,hZ,q⟩=>dM (h.h (pins++kZ s.heap Z) s σ _ _ (I.hide hZ) q) λu s' ⟨v,H1,I1,rv,ht,q⟩=>by
  obtain ⟨I2,g⟩:=I.back hZ I1 ht;exact ⟨v,_,I2,rv,q g⟩⟩
end
end L2
namespace L2
open PySem PySem.Spec PyProof.Rows
def Kn (I:List Nat) (σ' σ:St):Prop:=∀i∈I,σ'[i]? = σ[i]?
theorem Kn.refl {I:List Nat} {σ:St}:Kn I σ σ:=λ_ _=>rfl
theorem Kn.trans {I:List Nat} {σ1 σ2 σ3:St} (a:Kn I σ1 σ2) (b:Kn I σ2 σ3):Kn I σ1 σ3:=λi h=>(a i h).trans (b i h)
theorem Kn.set {I:List Nat} {σ:St} {j:Nat} {x:Option V} (h:j∉I):Kn I (σ.set j x) σ:=λi m=>MB (show j≠i from λe=>h (e.symm ▸ m))
def mF.kp (D:mF) (i:List Nat) (σ:St):mF where
 nx:=λσ' H'=>Kn i σ' σ->D.nx σ' H'
 rt:=D.rt
 bk:=λσ' H'=>Kn i σ' σ->D.bk σ' H'
 ct:=λσ' H'=>Kn i σ' σ->D.ct σ' H'
def j7 (i:List Nat) (K:W.Frag) (F:FS):TS:=λD σ H=>iA K F (D.kp i σ) σ H
def Ci (i:List Nat) (K:W.Frag) (g:FG):TG:=λv σ H Q=>pR K g v σ H λσ' H'=>Kn i σ' σ->Q σ' H'
def y8 (i:List Nat) (K:W.Frag) (g:Wh):Pl:=λv σ H Q=>Dt K g v σ H λσ' H'=>Kn i σ' σ->Q σ' H'
theorem LS.kp {K:W.Frag} {B:SO->Prop} {H:Hp} {σ σ':St} {E:En} {DT:ET} {D:mF} {i:List Nat} (l:LS K B H σ' E DT (D.kp i σ)) (h:Kn i σ' σ):LS K B H σ' E DT (D.kp i σ'):=
 ⟨λa b c d e f k=>l.nx a b c d e f (k.trans h),l.rt,λa b c d e f k=>l.bk a b c d e f (k.trans h),λa b c d e f k=>l.ct a b c d e f (k.trans h)⟩
section
variable {X:Cx} {K:W.Frag} {st:TB} {YM jq sf body:List TB} {F G:FS} {Fa:FE} {Fp:FB} {e c:Expr} {pos:Pos} {i:List Nat} {g:FG}
theorem xZ (h1:QS X st (j7 i K F)) (h2:QB X YM (j7 i K G)):QB X (st::YM) (j7 i K (EJ F G)):=
 (pB h1 h2).le λD σ H ⟨B,E,DT,re,hF,l⟩=>⟨B,E,_,re,hF,⟨λσ' H' E' hG g VN hk=>⟨B,E',DT,VN,gH hG,(l.step g).kp hk⟩,l.rt,l.bk,l.ct⟩⟩
theorem Vh (h1:QS X st (j7 i K F)):QB X [st] (j7 i K F):=Hb h1
theorem W4 (h:QE X e (aM K Fa)):QS X (.Return (some e) pos) (j7 i K (CG Fa)):=
 (Tc h).le λD σ H hl ⟨B,E,DT,re,hF,l⟩=>⟨B,σ,E,_,⟨[],by simp⟩,re,hF,λr E' v H' S' q g VN rr=>l.rt r E' v H' S' q g.kp VN rr⟩
def AS:FS:=λD E=>D.ct E
theorem Ko:QS X (.Continue pos) (iA K AS):=QS.le (t:=J9) ⟨Bm⟩ λD σ H hl ⟨B,E,DT,re,hF,l⟩=>l.ct _ _ _ hF (Kp.refl _ _) re
theorem Jp (he:QE X e (aM K Fa)) (hs:TZ e none pos.line X.env=pure false:=by rfl):QS X (.Expr e pos) (j7 i K (L4 Fa)):=
 (Jj he hs).le λD σ H hl ⟨B,E,DT,re,hF,l⟩=>Hi (P:=λ_ _ E'=>DT.nx E') re hF λr E' v H' S' q g VN rr WT ow=>l.nx _ _ _ q (g.kp.trans (Kp.less ow)) WT Kn.refl
theorem z6 {j:Nat} {x:Str} {pos':Pos} (hN:X.N.Nodup) (hi:X.N[j]? = some x) (hx:Ef X.env.scope x) (he:QE X e (aM K Fa)) (YC:j∉i) (hs:TZ e (some (.Name x pos')) pos.line X.env=pure false:=by rfl)
  (hf:X.fn x=true\/X.env.scope.names.lookup x=some .local:=by first | exact .inl rfl | exact .inr rfl | assumption):QS X (.Assign [.Name x pos'] e pos) (j7 i K (Wv j Fa)):=
 (yE hN hi hx he hs hf).le λD σ H hl ⟨B,E,DT,re,hF,l⟩=>⟨B,σ,E,_,⟨[],by simp⟩,re,hF,λr E' v H' S' q g VN rr=>by
  obtain ⟨u,e1,q⟩:=q.ex;rw [<-re.len] at e1 q;obtain ⟨r1,ow⟩:=kH (i:=j) VN g.pre rr e1;exact l.nx _ _ _ q (g.kp.trans (Kp.less ow)) r1 (Kn.set YC)⟩
theorem rV {j:Nat} {x:Str} (hN:X.N.Nodup) (hi:X.N[j]? = some x) (hx:Ef X.env.scope x) (YC:j∉i) (hf:X.fn x=true\/X.env.scope.names.lookup x=some .local:=by first | exact .inl rfl | exact .inr rfl | assumption):QG X (.Name x pos) (Ci i K (Jf j)):=
 (Lr hN hi hx hf).le λv σ H Q hl ⟨B,τ,E,u,Q',re,rp,hF,l⟩=>by
  have XB:j<σ.length:=by rw [hl];exact (KU.mp hi).1
  obtain ⟨r1,ow⟩:=re.setP (i:=j) rp;rw [List.set_append_left _ _ XB] at r1 ow;exact l _ _ _ hF (Kp.less ow) r1 (by simp) (Kn.set YC)
theorem Je:Eu X [] (y8 i K N3):=Iy.le λvs σ H Q ⟨B,τ,E,ts,Q',re,rp,hF,l⟩=>by
 cases ts with
 | nil=>exact ⟨rp,l _ _ _ hF (Kp.refl _ _) re rfl Kn.refl⟩
 | cons _ _=>exact hF.elim
theorem pM {es:List Expr} {gs:Wh} (h1:QG X e (Ci i K g)) (h2:Eu X es (y8 i K gs)) (hs:(TM (e::es) X.env).map (·.2)=UP e X.env::(TM es X.env).map (·.2):=by rfl):Eu X (e::es) (y8 i K (Jg g gs)):=
 (Bn h1 h2 hs).le λvs σ H Q ⟨B,τ,E,ts,Q',re,rp,hF,l⟩=>by
  cases ts with
  | nil=>exact hF.elim
  | cons t ts=>
   obtain ⟨v,r,e1,h1,h2⟩:=rp;exact ⟨v,r,e1,B,τ,E,t,_,re,h1,hF,λσ' H' E' q g VN hl hk=>⟨B,τ,E',ts,Q',VN,h2.step g,q,λσ2 H2 E2 q2 g2 WT jj ph=>l _ _ _ q2 (g.trans g2) WT (jj.trans hl) (ph.trans hk)⟩⟩
theorem Ru {k n:Nat} {es:List Expr} {gs:Wh} (eK:X.K=K) (hc:X.calm=true) (h:Eu X es (y8 i K gs)) (hn:(TM es X.env).length=n:=by rfl) (ft:(TM es X.env).findIdx? (·.1)=none:=by rfl):QG X (.Tuple es k pos) (Ci i K (M4 n gs)):=by
 subst eK;refine (Ry hc h hn ft).le λv σ H Q hl ⟨B,τ,E,t,Q',re,rp,hF,l⟩=>?_;cases t with
 | tup ts=>
  have ao:cond (Nat.beq ts.length n) (gs ts E Q') False:=hF;cases q:Nat.beq ts.length n with
  | false=>rw [q] at ao;exact ao.elim
  | true=>
   rw [q] at ao;obtain ⟨a,vs,rfl,sq,rs⟩:=rp.sqT;exact ⟨a,vs,rfl,sq,by rw [rs.length];exact Nat.eq_of_beq_eq_true q,B,τ,E,ts,Q',re,rs,ao,l⟩
 | _=>exact hF.elim
theorem X6 {tg iter:Expr} {I:FI} (hp:PassesOwn (TC X.prog X.w) X.A X.env X.xe) (hc:X.calm=true) (hi:QI X tg iter (lZ K I)) (hg:QG X tg (Ci i K g)) (hb:QB X body (j7 i K F)) (hs:∀x,TH iter X.env x=pure x:=by intro _;rfl) :
  QS X (.For tg iter body [] pos) (j7 i K (EY I g F)):=by
 refine (Fu hp hc hi hg hb hs).le λD σ H hl ⟨B,E,DT,re,hF,l⟩=>?_;refine ⟨B,σ,E,_,⟨[],by simp⟩,re,hF,λJ items us E1 H1 S1 gd q g1 VQ ok _ kr=>?_⟩;obtain ⟨E2,e2,q⟩:=q.ex;replace q:=gH q;obtain ⟨f1,f2,f3,f4⟩:=yR VQ e2;obtain ⟨c1,c2⟩:=f1.cut (E:=E) g1.pre re.len;have gs:Gs B H σ E H1 σ (E2.take E.length):=g1.kp.trans ((Kp.less f2).trans (Kp.less c2));have xw:gd H1 (Ow B σ (E2.take E.length)):=kr _ (λb z=>f2 b (c2 b z)) λj hj a ha z=>f3 j hj a ha (c2 a z);refine ⟨λn m σ' H'=>m=items.length-n/\n<=items.length/\Kn i σ' σ/\∃E',dG g F DT (items.drop n) E'/\Gs B H σ E H' σ' E'/\RE K B H' σ' E'/\gd H' (Ow B σ' E'),⟨_,rfl,MJ _,Kn.refl,_,q,gs,c1,xw⟩,?_⟩;rintro n m σ2 H2 ⟨rfl,gc,ph,E3,q3,g3,WW,aq⟩;rcases NZ n items.length with XB | xx
 ·have hd:items.drop n=items[n]::items.drop (n+1):=NI XB;rw [hd] at q3;refine .inr ⟨ok.go n H2 _ aq XB,λσ' H'=>Kn i σ' σ/\∃E',dG g F DT (items.drop (n+1)) E'/\Gs B H σ E H' σ' E'/\RE K B H' σ' E'/\gd H' (Ow B σ' E'),λσ' H' ⟨hk,E',z⟩=>⟨items.length-(n+1),by omega,rfl,XB,hk,E',z⟩,λx H4 y=>?_⟩;obtain ⟨k4,s4,rp⟩:=ok.yld n H2 _ x H4 _ aq (KS XB) (λa z=>by obtain ⟨vs,e⟩:=WW.ow z;rw [e];intro z;cases z) y;have cf:=WW.kept s4;have oj:=ok.keep _ _ _ _ k4 aq;refine ⟨B,[],E3,_,_,by rw [LZ];exact cf,by rw [LZ];exact rp,q3,λσ5 H5 E5 q5 g5 YW ku yv=>?_⟩;rw [LZ] at g5 YW;rw [LZ] at g5;have tj:=ok.keep _ _ _ _ g5 oj;have gg:=(g3.trans k4).trans g5;have l5:=l.step gg;have h5:=yv.trans ph;refine ⟨B,E5,_,YW,gH q5,?_⟩;exact ⟨λσ' H' E' z g VN hk=>⟨hk.trans h5,E',z,gg.trans g,VN,ok.keep _ _ _ _ g tj⟩,l5.rt,λσ' H' E' z g VN hk=>l5.nx _ _ _ z g VN (hk.trans h5),λσ' H' E' z g VN hk=>⟨hk.trans h5,E',z,gg.trans g,VN,ok.keep _ _ _ _ g tj⟩⟩
 ·have ei:n=items.length:=by omega
  subst ei;rw [OT] at q3;exact .inl ⟨ok.stop H2 _ aq,l.nx _ _ _ q3 g3 WW ph⟩
end
end L2
namespace L2
open PySem PySem.Spec PyProof.Rows
section
variable {X:Cx} {K:W.Frag} {pos ap:Pos} {e o:Expr} {es:List Expr} {Fo:FE} {Fr:FA} {name:Str} {id:String}
def EA (G:Str->R->En->(R->En->Prop)->Prop) (Fo:FE) (Fr:FA):FE:=λE Q=>Fo E λx E1=>s1 (vl E1 x) λi=>Fr E1 λrs E2=>match rs with
 | [y]=>G i y E2 Q
 | _=>False
theorem Z3 {n:Nat} {G:Str->R->En->(R->En->Prop)->Prop} {r:V->List V->Hp->VK->Prop} (slot:Slot "str" name id) (qo:typeOf (.builtin id)=pure (.type "method_descriptor")) (hm:CB X id r)
  (k:∀B S E i y w H2 Q' Q,RE K B H2 S E->RR K B H2 S E y w->G i y E Q'->Lk K B H2 S E Q' Q->r (.str i) [w] H2 Q)
  (ho:QE X o (aM K Fo)) (ha:QA X [e] (dS K n Fr)) (WN:TV o name X.env (TL o X.env)=TL o X.env:=by rfl) (WO:(ap.endLine==pos.line)=true:=by rfl) (hs:cC e=false:=by rfl) :
  QE X (.Call (.Attribute o name ap) [e] [] pos) (aM K (EA G Fo Fr)):=by
 refine QE.le ⟨Jv PySem.F.plainAttrs_str slot qo hm ho.h ha.h WN (by rw [cG hs];rfl) WO (cG hs) (fB rfl)⟩ λσ H Q hl h=>one (Fa:=Fo) h λB S E x v H2 Q' hS re rx q lk=>?_;obtain ⟨i,e1,q⟩:=q.ex;have ev:=re.str rx e1;subst ev;refine ⟨rfl,B,S,E,_,hS,re,q,λrs E2 vs H3 S3 q3 g WW rr hn=>?_⟩
 match rs,rr,q3 with
 | [y],⟨w,ws,e2,h1,h2⟩,q3=>
  cases h2;subst e2;exact k B S3 E2 i y w H3 Q' Q WW h1 q3 (lk.step g)
 | [],_,q=>exact q.elim
 | _::_::_,_,q=>exact q.elim
def lH (l:List Str):List T:=l.map T.str
def kK:List T->Option (List Str)
 | []=>some []
 | .str x::r=>(kK r).map (x::·)
 | _=>none
theorem vY:∀{xs:List T} {l:List Str},kK xs=some l->xs=lH l
 | [],_,h=>by cases h;rfl
 | .str x::r,l,h=>by
  cases q:kK r with
  | none=>rw [kK,q] at h;cases h
  | some m=>
   rw [kK,q] at h;cases h;rw [vY q];rfl
 | .non::_,_,h=>by cases h
 | .bl _::_,_,h=>by cases h
 | .int _::_,_,h=>by cases h
 | .tup _::_,_,h=>by cases h
 | .lst _::_,_,h=>by cases h
theorem Cv:∀l:List Str,kK (lH l)=some l
 | []=>rfl
 | x::l=>by show (kK (lH l)).map (x::·)=_;rw [Cv l];rfl
def J0 (i:Str) (y:R) (E:En) (Q:R->En->Prop):Prop:=match vl E y with
 | some (.lst xs)=>o1 (kK xs) λl=>JoinOk i l=true/\∀z,z=Txt.join i l->Q (.p (.str z)) E
 | _=>False
theorem vT:∀{l:List Str} {us:List Value},bE (l.map V.str) us->∃m:List (Str×Tok),us=strValues m/\m.map (·.1)=l
 | [],us,h=>by cases h;exact ⟨[],rfl,rfl⟩
 | x::l,us,h=>by
  cases h with
  | cons h1 h2=>
   obtain ⟨t,rfl⟩:=h1;obtain ⟨m,rfl,e⟩:=vT h2;exact ⟨(x,t)::m,rfl,by rw [MO,e]⟩
theorem Ao {H:Hp} {O:SO->Prop}:∀{l:List Str} {vs:List V},cS K H O (lH l) vs->vs=l.map V.str
 | [],_,h=>h
 | x::l,_,⟨v,r,e,h1,h2⟩=>by
  have h1:v = .str x:=h1;rw [e,h1,Ao h2];rfl
theorem Yo:CB X "str.join" (λx vs H Q=>∃i a l,x = .str i/\vs=[.ref a]/\j4 X.K H a (l.map V.str)/\JoinOk i l=true/\Q (.str (Txt.join i l)) H):=by
 intro pins s σ H x vs v us Q I rx rv h;obtain ⟨i,a,l,rfl,rfl,sq,hj,q⟩:=h;obtain ⟨t,rfl⟩:=rx;obtain ⟨u,rfl,ry⟩:=oZ rv;cases ry;obtain ⟨VI,r,pl,hz⟩:=I.list sq;obtain ⟨m,rfl,e⟩:=vT r;exact SC.join pl.isList e hj λt' k=>⟨.str _,H,I.tok _,⟨_,rfl⟩,q⟩
theorem Yq {n:Nat} (eK:X.K=K) (ho:QE X o (aM K Fo)) (ha:QA X [e] (dS K n Fr)) (WN:TV o "join" X.env (TL o X.env)=TL o X.env:=by rfl) (WO:(ap.endLine==pos.line)=true:=by rfl) (hs:cC e=false:=by rfl):QE X (.Call (.Attribute o "join" ap) [e] [] pos) (aM K (EA J0 Fo Fr)):=by
 subst eK;refine Z3 PySem.F.slot_str_join PySem.F.type_str_join Yo (λB S E i y w H2 Q' Q re rr q lk=>?_) ho ha WN WO hs;unfold J0 at q;split at q
 ·rename_i xs e1;obtain ⟨l,e2,c,q⟩:=o1.ex q;rw [vY e2] at e1;obtain ⟨a,vs,rfl,sq,rs⟩:=re.vl rr e1;rw [Ao rs] at sq;exact ⟨i,a,l,rfl,rfl,sq,c,lk _ _ _ _ _ (q _ rfl) .refl re rfl⟩
 ·exact q.elim
end
end L2
namespace L2
open PySem PySem.Spec PyProof.Rows
section
variable {X:Cx} {K:W.Frag} {pos:Pos} {a b c e o:Expr} {es:List Expr} {Fa Fb Fc Fo:FE} {Fr:FA} {ar Gh G:FO}
def HC:V->Option Int->Option Int->Hp->VK->Prop:=λx lo hi H Q=>∃z,x = .str z/\z.length<=SX/\Q (.str (PX z lo hi)) H
theorem Ks {v:Value} {o:Option Int} (p:IsPart v o):∃q:Option (Int×Tok),v=partValue q/\q.map (·.1)=o:=by
 cases p with
 | none=>exact ⟨none,rfl,rfl⟩
 | int i t=>exact ⟨some (i,t),rfl,rfl⟩
theorem X3:CM X HC:=by
 intro pins s σ H x v vl vu lo hi sl Q I rx hs pl pu h;obtain ⟨z,rfl,hz,q⟩:=h;obtain ⟨t,rfl⟩:=rx;obtain ⟨l,rfl,el⟩:=Ks pl;obtain ⟨u,rfl,eu⟩:=Ks pu;refine ⟨"str",_,PySem.F.slot_str_getitem.lookup,typeIs_str _ _ _,wpAny_getItem_str_slice (l:=l) (u:=u) (st:=none) hs rfl ?_⟩;have e:(sliceMade z t l u none)=if ((1:Int)==1&&(Builtin.Str.strSliceIndices lo hi 1 z.length).length==z.length)=true then .val (.str z t) else .str ⟨((Builtin.Str.strSliceIndices lo hi 1 z.length).filterMap (z.cps[·]?)).toArray⟩:=by
  subst el;subst eu;rfl
 rw [e];exact post_val_or_str ⟨MG (Txt.slice_le z lo hi) hz,λt' k=>⟨.str _,H,I.tok _,⟨_,rfl⟩,q⟩⟩
def HE (Fa:FE) (ar Gh:FO):FE:=λE Q=>Fa E λx E1=>s1 (vl E1 x) λz=>ar E1 λlo E2=>Gh E2 λhi E3=>z.length<=big/\∀y,y=PX z lo hi->Q (.p (.str y)) E3
theorem Mp {lo hi:Option Expr} {p2:Pos} (he:QE X e (aM K Fa)) (hl:QO X lo (Dh K ar)) (hu:QO X hi (Dh K Gh)):QE X (.Subscript e (.Slice lo hi none p2) pos) (aM K (HE Fa ar Gh)):=by
 refine (uS X3 he hl hu).le λσ H Q _ ⟨B,S,E,Q',⟨τ,hS⟩,re,hF,lk⟩=>⟨B,S,E,_,⟨τ,hS⟩,re,hF,λx E1 v H1 S1 q g1 VQ rx=>?_⟩;obtain ⟨z,ez,q⟩:=s1.ex q;have ev:=VQ.str rx ez;obtain ⟨τ1,XX⟩:=g1.pre;refine ⟨B,S1,E1,_,⟨τ++τ1,by rw [XX,hS,LI]⟩,VQ,q,λl E2 H2 S2 q2 g2 WT=>?_⟩;obtain ⟨τ2,kq⟩:=g2.pre;refine ⟨B,S2,E2,_,⟨τ++τ1++τ2,by rw [kq,XX,hS,LI,LI,LI]⟩,WT,q2,λh E3 H3 S3 q3 g3 WW=>?_⟩;exact ⟨z,ev,Vc q3.1,lk _ _ _ _ _ (q3.2 _ rfl) ((g1.trans g2).trans g3) WW rfl⟩
def kQ (x:Str):List T:=x.cps.toList.map λc=>T.str ⟨#[c]⟩
end
end L2
namespace L2
open PySem PySem.Spec PySem.W PySem.Calls PyProof.Rows PySem.Builtin.ObjectAttr
end L2
namespace L2
open PySem PySem.Spec PySem.W PySem.Calls PyProof.Rows PySem.Builtin.ObjectAttr
end L2
namespace L2
open PySem PySem.Spec PySem.W PySem.Calls PyProof.Rows PySem.Builtin.ObjectAttr
end L2
namespace L2
open PySem PySem.Spec PySem.W PySem.Calls PyProof.Rows PySem.Builtin.ObjectAttr
end L2
namespace L2
open PySem PySem.Spec PySem.W PySem.Calls PyProof.Rows PySem.Builtin.ObjectAttr
variable {cb:Bool}
end L2
namespace L2
open PySem PySem.Spec PySem.W PySem.Calls PyProof.Rows PySem.Builtin.ObjectAttr
end L2
namespace L2
open PySem PySem.Spec PySem.W PySem.Calls PyProof.Rows PySem.Builtin.ObjectAttr
end L2
namespace L2
open PySem PySem.Spec PySem.NumText PyProof.Rows
end L2
namespace L2
open PySem PySem.Spec PySem.NumText PyProof.Rows
structure Ej (mg:Str->Option Value) (x:Str) (i:Int):Prop where
 ex:∃t,mg x=some (.int i t)
theorem Ca {X:Cx} {K:W.Frag} {x:Str} {i:Int} {pos:Pos} (hg:Gl X x) (c:Ej X.mg x i) (hd:(x==("__debug__":Str))=false:=by decide):QE X (.Name x pos) (aM K (fC (.int i))):=by
 obtain ⟨t,h⟩:=c.ex;exact Py ⟨Lw (v:=.int i) hg h ⟨t,rfl⟩ hd⟩ λ_ _ _=>rfl
end L2
namespace L2
open PySem PySem.Spec PyProof.Rows
section
variable {X:Cx} {K:W.Frag} {pos:Pos} {o e:Expr} {Fo:FE} {Fr:FA}
theorem RE.setVN {B:SO->Prop} {H:Hp} {S:St} {E:En} {v:V} (re:RE K B H S E) {i:Nat}:RE K B H (S.set i (some v)) (E.set i none)/\∀b,Ow B (S.set i (some v)) (E.set i none) b->Ow B S E b:=by
 have gE:∀{j:Nat} {u:U},(E.set i none)[j]? = some (some u)->i≠j/\E[j]? = some (some u):=λ{j u} h=>by
  by_cases c:i=j
  ·subst c;rw [PC] at h;simp at h
  ·rw [MB c] at h;exact ⟨c,h⟩
 refine re.map (by simp [re.len]) (λj t h=>?_) id (λj k xs h=>?_) (λ_ _ _ _ _ _ _ _ h=>h)
 ·obtain ⟨v,h1,h2⟩:=re.pure j t (gE h).2;exact ⟨v,by rw [MB (gE h).1];exact h1,h2⟩
 ·obtain ⟨a,vs,h1,_⟩:=re.own j k xs (gE h).2;exact ⟨(gE h).2,a,h1,by rw [MB (gE h).1];exact h1⟩
end
end L2
namespace L2
open PySem PySem.Spec PyProof.Rows
end L2
namespace L2
open PySem PySem.Spec PySem.W PyProof.Rows
variable {cb cb':Bool}
section
open PySem.Calls
variable {M:Model} {A:Around} {E:Value->Shared->Prop} {s:Shared} {base:Heap} {env:Env} {outer:List Env} {L x:SO}
end
end L2
namespace L2
open PySem PySem.Spec PySem.W PySem.Calls PyProof.Rows
variable {cb cb':Bool}
end L2
namespace L2
open PySem PySem.Spec PyProof.Rows
end L2
namespace L2
open PySem PySem.Spec PyProof.Rows
section
variable {X:Cx} {K:W.Frag} {pos:Pos} {a b e o:Expr} {Fa Fb Fo:FE} {Fr:FA}
def HD (K:W.Frag) (ng:Bool):R2:=λx y H Q=>∃t xs p vs,Rq K H t x/\y = .ref p/\rX K H p vs/\uY K H xs vs/\qF xs<=50/\Q (.bl (if ng then !(Gw t xs) else Gw t xs)) H
theorem V9 {k:Nat} (hr:dW k X.A):mB X (TQ .In) (HD X.K false):=by
 intro pins s σ H x y v u Q I rx ry h;obtain ⟨t,xs,p,vs,ht,rfl,hq,uk,hd,q⟩:=h;cases ry;obtain ⟨VI,r,pl,hz⟩:=I.tuple hq;obtain ⟨e,q1,q2⟩:=Iw hr I ht rx uk r hd;refine SeqAt.in_tupleAt e pl (λw hw=>q2 w (by simpa using hw)) ⟨.bl _,H,I,rfl,?_⟩;rw [show VI.toArray.any e=VI.any e by simp,q1];exact q
def GR (ng:Bool) (Fa Fb:FE):FE:=λE Q=>Fa E λx E1=>Fb E1 λy E2=>t2 (vl E2 x) (vl E2 y) λt u=>match u with
 | .tup xs=>qF xs<=50/\Q (.p (.bl (if ng then !(Gw t xs) else Gw t xs))) E2
 | _=>False
end
end L2
namespace L2
open PySem PySem.Spec PySem.W PySem.Calls PyProof.Rows PySem.SeqAt
end L2
namespace L2
open PySem PySem.Spec PyProof.Rows
section
variable {prog:SS} {w:SW} {KK:Type} [DecidableEq KK] {knd:HeapKind prog w KK} {A:Around} {E:Value->Shared->Prop} {s:Shared}
theorem Bc {d a:SO} {xs:List (KK×SO×Value)} {k:KK} {v:Value} {Q:Value->Shared->Prop} (hu:knd.room A) (cw:knd.is s.heap k a) (hm:s.heap.DictOfH knd d xs)
  (h1:∀p,atKey xs k=some p->Q p.2 { s with toks:=s.toks+knd.draws k })
  (h2:atKey xs k=none->∀h',h'.DictOfH knd d (storedH xs k a v)->OR d s.heap h'->Q v { s with heap:=h',toks:=s.toks+knd.draws k })
  (aw:xs.length<=SX) :
  SU (TC prog w) A (dictSetDefault d (.ref a) v) Q E s:=by
 obtain ⟨o,es,ep,ho,hc,hd,he,his,hn⟩:=hm;unfold dictSetDefault
 try with_reducible refine UQ ?_
 refine SQ (knd.pyHash hu cw ?_);refine SQ (wpAny_dictFind_heap (s:={ s with toks:=s.toks+knd.draws k }) hu cw ho hd he his hn ?_ ?_)
 ·intro YF;have yw:k∉xs.map (·.1):=not_mem_keys_of_get YF;refine SQ (UN (SQ (wpAny_updateDictKeys (hz:=by have e:=size_of_entries he;omega) (s:={ s with toks:=s.toks+knd.draws k }) ho hd (SV (h2 (atKey_none_of_get YF) _ ⟨_,_,ep+1,OJ _ ho (Obj.isFreed_of_dict (Obj.data_mapDictKeys hd _)),
   hc.mapDictKeys _,Obj.data_mapDictKeys hd _,?_,?_,?_⟩ (Heap.SameBut.update ..))))))
  ·rw [storedH_new (atKey_none_of_get YF)];simp [he,entryOfKey]
  ·rw [storedH_new (atKey_none_of_get YF)];intro x hx;rcases LP.mp hx with hx | hx
   ·exact knd.keeps (his x hx) ho hd (Heap.SameBut.update ..)
   ·simp only [LM] at hx;subst hx;exact knd.keeps cw ho hd (Heap.SameBut.update ..)
  ·rw [storedH_new (atKey_none_of_get YF)];rw [MI,List.nodup_append];refine ⟨hn,by simp,?_⟩;intro x hx y hy;simp only [MO,OS,LM] at hy;subst hy;exact λe=>yw (e ▸ hx)
 ·intro j p hj;refine SQ (wpAny_dictEntries (s:={ s with toks:=s.toks+knd.draws k }) ho hd ?_);rw [entry_at he j,hj];exact SQ (UN (SV (h1 _ (atKey_of_get hn hj))))
theorem vQ (d a:SO) (hd:(d==UG)=false) (dflt:Value) :
  MeetsIn prog w (Builtin.«dict.setdefault» ⟨[.ref d,.ref a,dflt],[]⟩) (λA R s=>knd.room A.in1/\∃k xs,knd.is s.heap k a/\s.heap.DictOfH knd d xs/\xs.length<=SX/\
   (∀p,atKey xs k=some p->R (.ok (.ret p.2)) { s with toks:=s.toks+knd.draws k })/\
   (atKey xs k=none->∀h',h'.DictOfH knd d (storedH xs k a dflt)->OR d s.heap h'->R (.ok (.ret dflt)) { s with heap:=h',toks:=s.toks+knd.draws k })):=
 .of_wp λA R s ⟨hu,k,xs,cw,hm,hz,h1,h2⟩=>by
  unfold Builtin.«dict.setdefault»;refine SQ ?_;unfold Builtin.Dict.keyAndDefault;refine SQ (wpAny_notOrdered_dict hm.typeIs ?_);show SU _ _ (pure (d,MX a,some dflt)) _ _ s;refine SV ?_;show SU _ _ (if (d==UG)=true then _ else (dictSetDefault d (.ref a) dflt >>= _)) _ _ s;rw [if_neg (by rw [hd];exact OY)];exact SQ (Bc hu cw hm (λp hp=>SV ⟨p.2,rfl,h1 p hp⟩) (λhn h' iq jn=>SV ⟨dflt,rfl,h2 hn h' iq jn⟩) hz)
end
section
variable {X:Cx} {pins:List (SO×Obj)} {σ:St} {H:Hp} {s:Shared} {a b:SO} {v:V} {r:Value} {A:Around} {E:Value->Shared->Prop} {VV:List (List Key×V)} {k:List Key}
theorem Uc {Q:Value->Shared->Prop} (hu:A.units+1<UX) (I:aY X pins σ H s) (e:H a=some (.dT VV)) (eb:H b=some (.tup (k.map kV))) (rv:bH v r) (l:VV.length<SX)
  (h1:∀y w' s',mY VV k=some y->aY X pins σ H s'->bH y w'->Q w' s') (h2:∀s',mY VV k=none->aY X pins σ (upd H a (.dT (yX VV k v))) s'->Q r s') :
  SU (TC X.prog X.w) A (call (.builtin "dict.setdefault") [.ref a,.ref b,r]) Q E s:=by
 obtain ⟨z,hd,xs,rel,dd⟩:=BN I.hok e;have hz:xs.length<=SX:=by rw [<-Paired.length rel];exact z
 have hl:(yX VV k v).length<=SX:=by have:=Ay VV k v;omega
 have rk:=rel.val k;refine call_meetsIn PySem.F.slot_dict_setdefault dd.typeIs PySem.F.entry_dict_setdefault (PySem.F.args_dict_setdefault_3 _ _ _) (vQ (knd:=VE (fJ X.prog X.w)) a b hd r) ⟨tupleKind_room_in1 hu,k,xs,Uo I.hok eb,dd,hz,λp hp=>?_,λhn h' dd' hs=>?_⟩
 ·rw [hp] at rk;cases q:mY VV k with
  | none=>rw [q] at rk;exact rk.elim
  | some y=>rw [q] at rk;exact h1 y _ _ q (I.tok _) rk
 ·rw [hn] at rk;have q:mY VV k=none:=by
   cases q:mY VV k with
   | none=>rfl
   | some y=>rw [q] at rk;exact rk.elim
  refine h2 _ q ?_;obtain ⟨q,es,ep,hq,g2,g3,g4,_,g5⟩:=dd';refine Zx I (by rw [e];exact True.intro) hs ⟨q,hq⟩ ⟨hl,hd,_,(rel.put k eb rv).keeps λc ys ec=>?_,q,es,ep,hq,g2,g3,g4,g5⟩;rw [a8 (FC ec e (λz=>nomatch z))];exact ec
end
def BZ (td ty tx:TE):TE:=λσ H Q=>td σ H λx H1=>∃a,x = .ref a/\JI H1 a/\ty σ H1 λy H2=>tx σ H2 λz H3=>∃b VV k,y = .ref b/\H3 a=some (.dT VV)/\H3 b=some (.tup (k.map kV))/\VV.length<SX/\
 (∀u,mY VV k=some u->Q u H3)/\(mY VV k=none->Q z (upd H3 a (.dT (yX VV k z))))
section
variable {X:Cx} {o e f:Expr} {apos XM:Pos} {td ty tx:TE}
theorem Zo (hu:X.A.units+1<UX) (ho:PE X o td) (he:PE X e ty) (hf:PE X f tx) (m:M2 X o "setdefault" apos e f XM):PE X (.Call (.Attribute o "setdefault" apos) [e,f] [] XM) (BZ td ty tx):=by
 intro pins s σ H Q I h;refine wpAny_Call_method m.base m.few m.line PySem.F.plainAttrs_dict PySem.F.slot_dict_setdefault PySem.F.type_dict_setdefault (dM (ho pins s σ H _ I h) λu s1 ⟨x,H1,I1,rx,a,ex,d,q1⟩=>?_);subst ex;obtain rfl:u=MX a:=rx;obtain ⟨t1,t2,_⟩:=N9 I1 d;refine ⟨t1,t2,?_⟩;rw [m.trees];refine Calls.callWith_builtin rfl (Calls.evalArgs_plain (Calls.spliced_cons (dM (he pins s1 σ H1 _ I1 q1) λiv s2 ⟨y,H2,I2,ry,q2⟩=>
  Calls.spliced_cons (dM (hf pins s2 σ H2 _ I2 q2) λfv s3 ⟨z,H3,I3,rz,b,VV,k,ey,ea,eb,hl,q3,q4⟩=>Calls.spliced_nil ?_))))
 subst ey;obtain rfl:iv=MX b:=ry;exact Uc hu I3 ea eb rz hl (λu w' s4 hv I4 br=>⟨u,H3,I4,br,q3 u hv⟩) λs4 hv I4=>⟨z,_,I4,rz,q4 hv⟩
end
section
variable {X:Cx} {K:W.Frag} {YM b1:List TB} {pos:Pos} {i:Nat}
theorem QB.leM {t t':TS} (h:QB X YM t) (m:∀D σ H,σ.length=X.N.length->t' D σ H->t D σ H):QB X YM t':=⟨λpins s σ H D I z=>h.h pins s σ H D I (m D σ H I.len z)⟩
end
end L2
namespace L2
open PySem PySem.Spec PyProof.Rows
structure Ae where
 k:List Key
 c:SO
 o:List T
abbrev MD:=List (List Key×List T)
def md (G:List Ae):MD:=G.map λg=>(g.k,g.o)
def xH (G:List Ae):List (List Key×V):=G.map λg=>(g.k,V.ref g.c)
def cY (G:List Ae):List SO:=G.map (·.c)
def K5 (b:Bool) (G:List Ae):HO:=if b=true then .dT (xH G) else .dK (G.map λg=>(g.k.headD (Sum.inl 0),V.ref g.c))
theorem Jr (b:Bool) (G:List Ae):Oo (K5 b G):=by cases b<;>trivial
theorem Ua {b:Bool} {G:List Ae} {xs:List V}:K5 b G≠.lst xs:=by cases b<;>(intro z;cases z)
structure DG (b:Bool) (K:W.Frag) (i:Nat) (a:SO) (G:List Ae) (σ:St) (H:Hp):Prop where
 nm:σ[i]? = some (some (.ref a))
 dc:H a=some (K5 b G)
 nd:(cY G).Nodup
 ls:∀g∈G,∃vs,H g.c=some (.lst vs)/\cS K H (λc=>dF H c\/c=a) g.o vs
structure Wb where
 nx:MD->En->Prop
 rt:R->En->Prop:=λ_ _=>False
 bk:MD->En->Prop:=λ_ _=>False
 ct:MD->En->Prop:=λ_ _=>False
abbrev Jx:=Wb->MD->En->Prop
def Wb.at (D:Wb) (M:MD):ET where
 nx:=D.nx M
 rt:=D.rt
 bk:=D.bk M
 ct:=D.ct M
def Wb.of (D:ET):Wb where
 nx:=λ_=>D.nx
 rt:=D.rt
 bk:=λ_=>D.bk
 ct:=λ_=>D.ct
def DE (F:FS):Jx:=λD M E=>F (D.at M) E
abbrev Gd (a:SO) (B:SO->Prop) (G:List Ae) (H:Hp) (S:St) (E:En) (G':List Ae) (H':Hp) (S':St) (E':En):Prop:=Kp (λb=>Ow B S E b\/b∈a::cY G) (λb=>Ow B S' E' b\/b∈a::cY G') H H'
structure LD (q:Bool) (i:Nat) (a:SO) (K:W.Frag) (B:SO->Prop) (G:List Ae) (H:Hp) (σ:St) (E:En) (DT:Wb) (D:mF):Prop where
 nx:∀σ' H' E' G',DT.nx (md G') E'->Gd a B G H σ E G' H' σ' E'->DG q K i a G' σ' H'->RE K B (hide (·∈a::cY G') H') σ' E'->D.nx σ' H'
 rt:∀r E' v H' S' G',DT.rt r E'->Gd a B G H σ E G' H' S' E'->RE K B H' S' E'->RR K B H' S' E' r v->D.rt v H'
 bk:∀σ' H' E' G',DT.bk (md G') E'->Gd a B G H σ E G' H' σ' E'->DG q K i a G' σ' H'->RE K B (hide (·∈a::cY G') H') σ' E'->D.bk σ' H'
 ct:∀σ' H' E' G',DT.ct (md G') E'->Gd a B G H σ E G' H' σ' E'->DG q K i a G' σ' H'->RE K B (hide (·∈a::cY G') H') σ' E'->D.ct σ' H'
def vC (q:Bool) (i:Nat) (K:W.Frag) (F:Jx):TS:=λD σ H=>∃a G B E DT,DG q K i a G σ H/\RE K B (hide (·∈a::cY G) H) σ E/\F DT (md G) E/\LD q i a K B G H σ E DT D
section
variable {X:Cx} {K:W.Frag} {st:TB} {YM body:List TB} {q:Bool} {i:Nat} {a:SO} {B:SO->Prop} {G G':List Ae} {H H' H1:Hp} {σ σ' S S':St} {E E':En} {DT:Wb} {D:mF}
theorem LD.step (l:LD q i a K B G H σ E DT D) (g:Gd a B G H σ E G' H' σ' E'):LD q i a K B G' H' σ' E' DT D:=
 ⟨λx b c d e f=>l.nx x b c d e (g.trans f),λx b c d e f h m=>l.rt x b c d e f h (g.trans m),λx b c d e f=>l.bk x b c d e (g.trans f),λx b c d e f=>l.ct x b c d e (g.trans f)⟩
theorem sH {c:SO} (h:c∈cY G):∃g∈G,g.c=c:=KY.mp h
theorem zY {g:Ae} (h:g∈G):g.c∈cY G:=KY.mpr ⟨g,h,rfl⟩
theorem DG.hid (d:DG q K i a G σ H):∀c∈a::cY G,∃o,H c=some o/\Oo o:=λc m=>by
 rcases KR.mp m with e | m
 ·rw [e];exact ⟨_,d.dc,Jr _ _⟩
 ·obtain ⟨g,mg,rfl⟩:=sH m;obtain ⟨vs,h,_⟩:=d.ls g mg;exact ⟨_,h,trivial⟩
theorem fY {Z:SO->Prop} (h:∀c,Z c->H1 c=none):hide Z (back Z H H1)=H1:=by
 funext b
 by_cases z:Z b
 ·rw [jW z,h b z]
 ·rw [b9 z,dI z]
theorem RE.unhide {Z:SO->Prop} (re:RE K B (hide Z H) S E):RE K B H S E:=re.kept λ_ _ e=>(cV e).2
theorem Rp.unhide {Z O:SO->Prop} {t:T} {v:V} (h:Rp K (hide Z H) O t v):Rp K H O t v:=h.step ⟨λ_ _ e _=>(cV e).2,λ_ z=>.inl z⟩
theorem RR.unhide {Z:SO->Prop} {r:R} {v:V} (h:RR K B (hide Z H) S E r v):RR K B H S E r v:=by
 cases r with
 | p t=>exact Rp.unhide h
 | s i=>exact h
theorem Gd.hid (g:Gd a B G H σ E G' H' σ' E'):Kp (Ow B σ E) (Ow B σ' E') (hide (·∈a::cY G) H) (hide (·∈a::cY G') H'):=by
 refine ⟨λb o e n=>?_,λb z=>?_⟩
 ·obtain ⟨n2,e⟩:=cV e;have k:=g.keep b o e λz=>z.elim n n2;rw [b9 λz=>?_]
  ·exact k
  rcases g.new b (.inr z) with (z | z) | z
  ·exact n z
  ·exact n2 z
  ·rw [e] at z;cases z
 ·rcases g.new b (.inl z) with (z | z) | z
  ·exact .inl z
  ·exact .inr (jW z)
  ·exact .inr (j6 z)
theorem DG.tk (d:DG q K i a G σ H) (re:RE K B (hide (·∈a::cY G) H) σ E) (g:Gs B (hide (·∈a::cY G) H) σ E H1 S' E'):∀b xs,H b=some (.tup xs)->H1 b=some (.tup xs):=λb xs e=>by
 have z:b∉a::cY G:=λz=>by
  obtain ⟨o,eo,k⟩:=d.hid b z;rw [e] at eo;cases eo;exact k
 refine g.keep b _ (by rw [b9 z];exact e) λw=>?_;obtain ⟨us,e'⟩:=re.ow w;rw [b9 z,e] at e';cases e'
theorem Jh (keep:∀b o,H b=some o->¬(dF H b\/b=a)->H' b=some o) (hd:¬dF H a):Kp (λc=>dF H c\/c=a) (λc=>dF H' c\/c=a) H H':=by
 refine ⟨keep,λb z=>?_⟩;rcases z with ⟨us,e⟩ | e
 ·by_cases w:dF H b\/b=a
  ·exact .inl w
  ·right
   cases hb:H b with
   | none=>rfl
   | some o=>
    have:=keep b o hb w;rw [e] at this;cases this;exact absurd (.inl ⟨us,hb⟩) w
 ·exact .inl (.inr e)
theorem DG.nl (d:DG q K i a G σ H):¬dF H a:=λ⟨us,e⟩=>by rw [d.dc] at e;exact Ua (Option.some.inj e)
theorem DG.after (d:DG q K i a G σ H) (re:RE K B (hide (·∈a::cY G) H) σ E) (g:Gs B (hide (·∈a::cY G) H) σ E H1 S' E') (gone:∀c∈a::cY G,H1 c=none) :
  Gd a B G H σ E G (back (·∈a::cY G) H H1) S' E'/\(∀σ',σ'[i]? = σ[i]?->DG q K i a G σ' (back (·∈a::cY G) H H1)):=by
 have yx:∀{b:SO},Ow B σ E b->∃us,H b=some (.lst us):=λ{b} z=>by
  obtain ⟨us,e⟩:=re.ow z;exact ⟨us,(cV e).2⟩
 have kp:∀b o,H b=some o->¬Ow B σ E b->b∉a::cY G->H1 b=some o:=λb o e n z=>g.keep b o (by rw [b9 z];exact e) n;have keep:∀b o,H b=some o->¬(dF H b\/b=a)->back (·∈a::cY G) H H1 b=some o:=λb o e n=>by
  by_cases z:b∈a::cY G
  ·rw [jD z];exact e
  ·rw [dI z];exact kp b o e (λw=>n (.inl (yx w))) z
 refine ⟨⟨λb o e n=>?_,λb z=>?_⟩,λσ' hk=>⟨by rw [hk];exact d.nm,by rw [jD (by simp)];exact d.dc,d.nd,λg' mg=>?_⟩⟩
 ·have z:b∉a::cY G:=λz=>n (.inr z);rw [dI z];exact kp b o e (λw=>n (.inl w)) z
 ·rcases z with z | z
  ·rcases g.new b z with w | w
   ·exact .inl (.inl w)
   ·by_cases y:b∈a::cY G
    ·exact .inl (.inr y)
    ·rw [b9 y] at w;exact .inr w
  ·exact .inl (.inr z)
 ·obtain ⟨vs,h1,h2⟩:=d.ls g' mg;have z:g'.c∈a::cY G:=LQ _ (zY mg);exact ⟨vs,by rw [jD z];exact h1,h2.step (Jh keep d.nl)⟩
theorem zH {F:FS} (h:QS X st (j7 [i] K F)):QS X st (vC q i K (DE F)):=
 h.frame.le λD σ H hl ⟨a,G,B,E,DT,d,re,hF,l⟩=>by
  refine ⟨a::cY G,d.hid,B,E,DT.at (md G),re,hF,⟨λσ' H1 E' z g VN hk=>⟨d.tk re g,λgone=>?_⟩,λr E' v H1 S' z g VN rr=>⟨d.tk re g,λgone=>?_⟩,λσ' H1 E' z g VN hk=>⟨d.tk re g,λgone=>?_⟩,λσ' H1 E' z g VN hk=>⟨d.tk re g,λgone=>?_⟩⟩⟩
  ·obtain ⟨g1,d1⟩:=d.after re g gone;exact l.nx _ _ _ G z g1 (d1 σ' (hk i (by simp))) (by rw [fY gone];exact VN)
  ·obtain ⟨g1,d1⟩:=d.after re g gone;exact l.rt r E' v _ S' G z g1 (RE.unhide (Z:=(·∈a::cY G)) (by rw [fY gone];exact VN)) (RR.unhide (Z:=(·∈a::cY G)) (by rw [fY gone];exact rr))
  ·obtain ⟨g1,d1⟩:=d.after re g gone;exact l.bk _ _ _ G z g1 (d1 σ' (hk i (by simp))) (by rw [fY gone];exact VN)
  ·obtain ⟨g1,d1⟩:=d.after re g gone;exact l.ct _ _ _ G z g1 (d1 σ' (hk i (by simp))) (by rw [fY gone];exact VN)
def CH (F G:Jx):Jx:=λD M E=>F { D with nx:=λM' E'=>oC E' (G D M') } M E
theorem zX {F G:Jx} (h1:QS X st (vC q i K F)) (h2:QB X YM (vC q i K G)):QB X (st::YM) (vC q i K (CH F G)):=
 (pB h1 h2).leM λD σ H hl ⟨a,Gc,B,E,DT,d,re,hF,l⟩=>⟨a,Gc,B,E,_,d,re,hF,⟨λσ' H' E' G' hG g d' VN=>⟨a,G',B,E',DT,d',VN,gH hG,l.step g⟩,l.rt,l.bk,l.ct⟩⟩
theorem Y4 {F:Jx} (h1:QS X st (vC q i K F)):QB X [st] (vC q i K F):=Hb h1
def JN (t:TG):TG:=λv σ H Q=>∃Z:List SO,(∀c∈Z,∃o,H c=some o/\Oo o)/\t v σ (L2.hide (·∈Z) H) λσ' H1=>(∀b xs,H b=some (.tup xs)->H1 b=some (.tup xs))/\((∀c∈Z,H1 c=none)->Q σ' (L2.back (·∈Z) H H1))
theorem QG.frame {e:Expr} {t:TG} (h:QG X e t):QG X e (JN t):=⟨λpins s σ H v u Q I r ⟨Z,hZ,z⟩=>dM (h.h (pins++kZ s.heap Z) s σ _ v u _ (I.hide hZ) r z) λ_ s' ⟨σ',H1,I1,ht,z⟩=>by
  obtain ⟨I2,g⟩:=I.back hZ I1 ht;exact ⟨σ',_,I2,z g⟩⟩
def tD (g:FG) (F:Jx) (D:Wb):List T->MD->En->Prop
 | [],M,E=>D.nx M E
 | x::xs,M,E=>g x E λE'=>oC E' (F { D with nx:=tD g F D xs,ct:=tD g F D xs,bk:=D.nx } M)
def Kz (E:En) (p:Nat) (k:List T->Prop):Prop:=match E[p]? with
 | some (some (.p (.lst xs)))=>k xs
 | _=>False
theorem Kz.ex {E:En} {p:Nat} {k:List T->Prop} (h:Kz E p k):∃xs,E[p]? = some (some (.p (.lst xs)))/\k xs:=by
 unfold Kz at h;split at h
 ·rename_i xs e;exact ⟨xs,e,h⟩
 ·exact h.elim
def DB (p:Nat) (g:FG) (F:Jx):Jx:=λD M E=>Kz E p λxs=>oC E (tD g F D xs M)
theorem Q1 {p:Nat} {tg:Expr} {x:Str} {px pos:Pos} {g:FG} {F:Jx} (eK:X.K=K) (hp:PassesOwn (TC X.prog X.w) X.A X.env X.xe) (hc:X.calm=true) (hi:X.N[p]? = some x) (hv:AG X.env.scope x) (hg:QG X tg (Ci [i] K g)) (hb:QB X body (vC q i K F)) (hs:∀y,TH (.Name x px) X.env y=pure y:=by intro _;rfl)
  (hd:(x==("__debug__":Str))=false:=by decide) (ZH:(x==("__classdict__":Str))=false:=by decide):QS X (.For tg (.Name x px) body [] pos) (vC q i K (DB p g F)):=by
 subst eK;refine (Fu hp hc (Js (qv p hi hv hd ZH)) hg.frame hb hs).le λD σ H hl ⟨a,G,B,E,DT,d,re,hF,l⟩=>?_;obtain ⟨items,eI,hF⟩:=hF.ex;replace hF:=gH hF;obtain ⟨v,sv,rv⟩:=re.pure p _ eI;obtain ⟨pp,vs,rfl,sq,rs⟩:=rv.sqL;refine ⟨.ref pp,sv,pp,rfl,⟨vs,sq.imp (λh=>h.imp (λh=>(cV h).2) λ⟨o,h⟩=>⟨o,(cV h).2⟩) id⟩,?_⟩
 let P:List T->St->Hp->Prop:=λVI σ' H'=>∃G' E',tD g F DT VI (md G') E'/\Gd a B G H σ E G' H' σ' E'/\DG q X.K i a G' σ' H'/\RE X.K B (hide (·∈a::cY G') H') σ' E'/\Rp X.K (hide (·∈a::cY G') H') (Ow B σ' E') (.lst items) (.ref pp)
 refine ⟨λn m σ' H'=>m=items.length-n/\n<=items.length/\P (items.drop n) σ' H',⟨_,rfl,MJ _,G,E,hF,Kp.refl _ _,d,re,rv⟩,?_⟩;rintro n m σ2 H2 ⟨rfl,hn,G2,E2,q2,g2,d2,WT,wb⟩;have ok:=Fx (K:=X.K) (p:=pp) (xs:=items);rcases NZ n items.length with XB | xx
 ·have hdr:items.drop n=items[n]::items.drop (n+1):=NI XB;rw [hdr] at q2;refine .inr ⟨ok.go n H2 _ wb.unhide XB,P (items.drop (n+1)),λσ' H' z=>⟨items.length-(n+1),by omega,rfl,XB,z⟩,λy H4 yl=>?_⟩;obtain ⟨e4,yl⟩:=yl;subst e4;obtain ⟨p',gv,ep,uo,jt⟩:=wb.sqL;cases ep;obtain ⟨w,w1,w2⟩:=jt.get (KS XB);rw [yl gv (uo.imp (λh=>h.imp (λh=>(cV h).2) λ⟨o,h⟩=>⟨o,(cV h).2⟩) id)] at w1;cases w1;refine ⟨_,d2.hid,B,[],E2,items[n],_,by rw [LZ];exact WT,by rw [LZ];exact w2,q2,λσ5 H5 E5 q5 g5 YW ku yv=>?_⟩;rw [LZ] at g5 YW;rw [LZ] at g5;refine ⟨d2.tk WT g5,λgone=>?_⟩;obtain ⟨g6,d6⟩:=d2.after WT g5 gone;have d7:=d6 σ5 (yv i (by simp));have yf:RE X.K B (hide (·∈a::cY G2) (back (·∈a::cY G2) H4 H5)) σ5 E5:=by rw [fY gone];exact YW
  have g7:=g2.trans g6;have rp7:Rp X.K (hide (·∈a::cY G2) (back (·∈a::cY G2) H4 H5)) (Ow B σ5 E5) (.lst items) (.ref pp):=by rw [fY gone];exact wb.step g5
  have l7:=l.step g7;refine ⟨a,G2,B,E5,_,d7,yf,gH q5,?_⟩;exact ⟨λσ' H' E' G' z gg d' VN=>⟨G',E',z,g7.trans gg,d',VN,rp7.step (Gd.hid gg)⟩,l7.rt,λσ' H' E' G' z gg d' VN=>l7.nx _ _ _ _ z gg d' VN,λσ' H' E' G' z gg d' VN=>⟨G',E',z,g7.trans gg,d',VN,rp7.step (Gd.hid gg)⟩⟩
 ·have ei:n=items.length:=by omega
  subst ei;rw [OT] at q2;exact .inl ⟨ok.stop H2 _ wb.unhide,l.nx _ _ _ _ q2 g2 d2 WT⟩
theorem Vq {b:SO} {o:HO} {Z:List SO} (h:H b=none) (hz:Z=[b]):hide (·∈Z) (upd H b o)=H:=by
 subst hz
 funext c
 by_cases z:c=b
 ·subst z;rw [jW (by simp),h]
 ·rw [b9 (by simpa using z),a8 z]
def DK (i:Nat) (F:Jx):FS:=λD E=>oC (E.set i none) (F (Wb.of D) [])
theorem O7 {F:Jx} {x:Str} {p' pd pos:Pos} (hN:X.N.Nodup) (hi:X.N[i]? = some x) (hx:Ef X.env.scope x) (VY:QB X YM (vC true i K F)) (hs:TZ (.Dict [] [] pd) (some (.Name x p')) pos.line X.env=pure false:=by rfl)
  (hf:X.fn x=true\/X.env.scope.names.lookup x=some .local:=by first | exact .inl rfl | exact .inr rfl | assumption):QB X (.Assign [.Name x p'] (.Dict [] [] pd) pos::YM) (iA K (DK i F)):=by
 refine (pB (yE hN hi hx (⟨Tz⟩:QE X (.Dict [] [] pd) Ub) hs hf) VY).leM λD σ H hl ⟨B,E,DT,re,hF,l⟩=>?_;intro b hb;replace hF:=gH hF;obtain ⟨c4,c5⟩:=re.setVN (i:=i) (v:=.ref b);have li:i<σ.length:=by rw [hl];exact (KU.mp hi).1
 have out:∀{H':Hp} {S':St} {E':En} {G':List Ae},Gd b B [] (upd H b (.dT [])) (σ.set i (some (.ref b))) (E.set i none) G' H' S' E'->Gs B H σ E H' S' E':=λ{H' S' E' G'} g=>by
  refine ⟨λc o e n=>g.keep c o (by rw [a8 (a9 e hb)];exact e) λz=>?_,λc z=>?_⟩
  ·rcases z with z | z
   ·exact n (c5 c z)
   ·have:c=b:=by simpa [cY] using z
    subst this;rw [hb] at e;cases e
  ·rcases g.new c (.inl z) with (z | z) | z
   ·exact .inl (c5 c z)
   ·have:c=b:=by simpa [cY] using z
    subst this;exact .inr hb
   ·by_cases w:c=b
    ·subst w;exact .inr hb
    ·rw [a8 w] at z;exact .inr z
 refine ⟨b,[],B,E.set i none,_,⟨MR li,c8,SI,λg hg=>absurd hg (by simp)⟩,by rw [Vq (Z:=b::cY []) hb rfl];exact c4,hF,?_⟩;exact ⟨λσ' H' E' G' z g' _ VN=>l.nx _ _ _ z (out g') VN.unhide,λr E' v H' S' G' z g' VN rr=>l.rt _ _ _ _ _ z (out g') VN rr,λσ' H' E' G' z g' _ VN=>l.bk _ _ _ z (out g') VN.unhide,λσ' H' E' G' z g' _ VN=>l.ct _ _ _ z (out g') VN.unhide⟩
end
end L2
namespace L2
open PySem PySem.Spec PyProof.Rows
def getD:MD->List Key->List T
 | [],_=>[]
 | (k',xs)::r,k=>if k'=k then xs else getD r k
def zS:MD->List Key->List T->MD
 | [],k,ys=>[(k,ys)]
 | (k',xs)::r,k,ys=>if k'=k then (k',ys)::r else (k',xs)::zS r k ys
theorem Ba {k:List Key} {u:V}:∀{G:List Ae},mY (xH G) k=some u->∃G1 g G2,G=G1++g::G2/\u = .ref g.c/\getD (md G) k=g.o/\∀ys,zS (md G) k ys=md (G1++⟨g.k,g.c,ys⟩::G2)
 | [],h=>by cases h
 | g::G,h=>by
  by_cases c:g.k=k
  ·have e:=o7 (p:=(g.k,V.ref g.c)) (r:=xH G) c;rw [show xH (g::G)=(g.k,V.ref g.c)::xH G from rfl,e] at h;cases h;exact ⟨[],g,G,rfl,rfl,by show (if g.k=k then g.o else _)=_;rw [if_pos c],λys=>by show (if g.k=k then _ else _)=_;rw [if_pos c];rfl⟩
  ·rw [show xH (g::G)=(g.k,V.ref g.c)::xH G from rfl,oR (p:=(g.k,V.ref g.c)) c] at h;obtain ⟨G1,g',G2,e1,e2,e3,e4⟩:=Ba h;exact ⟨g::G1,g',G2,by rw [e1];rfl,e2,by show (if g.k=k then _ else getD (md G) k)=_;rw [if_neg c];exact e3,λys=>by show (if g.k=k then _ else _::zS (md G) k ys)=_;rw [if_neg c,e4 ys];rfl⟩
theorem Dy {k:List Key}:∀{G:List Ae},mY (xH G) k=none->getD (md G) k=[]/\(∀c ys,zS (md G) k ys=md (G++[⟨k,c,ys⟩]))/\((xH G).any λkv=>decide (kv.1=k))=false
 | [],_=>⟨rfl,λ_ _=>rfl,rfl⟩
 | g::G,h=>by
  by_cases c:g.k=k
  ·rw [show xH (g::G)=(g.k,V.ref g.c)::xH G from rfl,o7 (p:=(g.k,V.ref g.c)) c] at h;cases h
  ·rw [show xH (g::G)=(g.k,V.ref g.c)::xH G from rfl,oR (p:=(g.k,V.ref g.c)) c] at h;obtain ⟨e1,e2,e3⟩:=Dy h;refine ⟨by show (if g.k=k then _ else getD (md G) k)=_;rw [if_neg c];exact e1,λd ys=>by show (if g.k=k then _ else _::zS (md G) k ys)=_;rw [if_neg c,e2 d ys];rfl,?_⟩;rw [show xH (g::G)=(g.k,V.ref g.c)::xH G from rfl,QK,e3,decide_eq_false c];rfl
section
variable {K:W.Frag} {B:SO->Prop} {H H' H1:Hp} {σ σ' S S':St} {E E':En} {t:Nat} {c:SO}
theorem RE.lend {Z:SO->Prop} {ts:List T} {vs:List V} (re:RE K B (hide (λb=>Z b\/b=c) H) σ E) (hc:¬Z c) (h1:H c=some (.lst vs)) (h2:cS K (hide (λb=>Z b\/b=c) H) (Ow B σ E) ts vs) :
  RE K B (hide Z H) (σ.set t (some (.ref c))) (E.set t (some (.o false ts)))/\∀b,Ow B (σ.set t (some (.ref c))) (E.set t (some (.o false ts))) b->Ow B σ E b\/b=c:=by
 have e:upd (hide (λb=>Z b\/b=c) H) c (.lst vs)=hide Z H:=by
  funext b
  by_cases q:b=c
  ·subst q;rw [c8,b9 hc,h1]
  ·rw [a8 q]
   by_cases z:Z b
   ·rw [jW (.inl z),jW z]
   ·rw [b9 (λw=>w.elim z q),b9 z]
 obtain ⟨g,r⟩:=re.lst (p:=c) (jW (.inr rfl)) h2;rw [e] at r g;have hE:(E++[some (.o false ts)])[σ.length]? = some (some (.o false ts)):=by rw [re.len];simp
 obtain ⟨r2,ow⟩:=r.setO (σ:=σ) (i:=t) ⟨_,rfl⟩ (LF _) hE (v:=.ref c) (by simp);have et:(E++[some (U.o false ts)]).take σ.length=E:=by rw [re.len];simp
 rw [et] at r2 ow;refine ⟨r2,λb z=>?_⟩;rcases ow b z with w | ⟨j,k,xs,h3,h4⟩
 ·exact .inl (.inl w)
 ·rcases tT h3 with ⟨lt,h3⟩ | ⟨e3,h3⟩
  ·rw [LW (by rw [re.len];exact lt)] at h4;exact .inl (.inr ⟨j,k,xs,h3,h4⟩)
  ·rw [e3,<-re.len] at h4;simp at h4;exact .inr h4.symm
theorem RE.hid1 {ys:List T} (re:RE K B H σ E) (hE:E[t]? = some (some (.o false ys))) (hS:σ[t]? = some (some (.ref c))):RE K B (hide (· = c) H) σ (E.set t none)/\(∀b,Ow B σ (E.set t none) b->Ow B σ E b/\b≠c):=by
 have gE:∀{j:Nat} {u:U},(E.set t none)[j]? = some (some u)->t≠j/\E[j]? = some (some u):=λ{j u} h=>by
  by_cases q:t=j
  ·subst q
   by_cases d:t<E.length
   ·rw [MR d] at h;cases h
   ·rw [OD (by simpa using d)] at h;cases h
  ·rw [MB q] at h;exact ⟨q,h⟩
 obtain ⟨a',vs,s1,s2,s3,s4⟩:=re.own t false ys hE;rw [hS] at s1;cases s1;have nB:¬B c:=λz=>by have:=s4.mpr z;cases this
 have oc:Ow B σ E c:=.inr ⟨t,false,ys,hE,hS⟩;have ow:∀b,Ow B σ (E.set t none) b->Ow B σ E b/\b≠c:=λb z=>by
  rcases z with z | ⟨j,k,xs,h1,h2⟩
  ·exact ⟨.inl z,λw=>nB (w ▸ z)⟩
  ·obtain ⟨n,h1⟩:=gE h1;refine ⟨.inr ⟨j,k,xs,h1,h2⟩,λw=>n ?_⟩;subst w;exact re.inj t j false k ys xs _ hE h1 hS h2
 have kp:Kp (Ow B σ E) (Ow B σ (E.set t none)) H (hide (· = c) H):=⟨λb o e n=>by rw [b9 (λw=>n (by rw [show b=c from w];exact oc))];exact e,λb z=>.inl (ow b z).1⟩;refine ⟨⟨by simpa using re.len,λj u h=>?_,λj k xs h=>?_,λj m k l xs ys' b h1 h2 h3 h4=>?_,λb z=>?_⟩,ow⟩
 ·obtain ⟨v,h1,h2⟩:=re.pure j u (gE h).2;exact ⟨v,h1,h2.step kp⟩
 ·obtain ⟨n,h'⟩:=gE h;obtain ⟨b,ws,h1,h2,h3,h4⟩:=re.own j k xs h';refine ⟨b,ws,h1,?_,h3.step kp,h4⟩;rw [b9 (λw=>n (re.inj t j false k ys xs c hE h' hS (by rw [h1,show b=c from w])))];exact h2
 ·exact re.inj j m k l xs ys' b (gE h1).2 (gE h2).2 h3 h4
 ·obtain ⟨us,e⟩:=re.bd b z;exact ⟨us,by rw [b9 (Z:=(· = c)) (λw=>nB (by rw [<-show b=c from w];exact z))];exact e⟩
end
theorem RE.vlT {K:W.Frag} {B:SO->Prop} {H:Hp} {S:St} {E:En} (re:RE K B H S E) {r:R} {v:V} {ts:List T} (h:RR K B H S E r v) (e:L2.vl E r=some (.tup ts)):Rp K H (Ow B S E) (.tup ts) v:=by
 cases r with
 | p u=>cases e;exact h
 | s i=>
  cases q:E[i]? with
  | none=>simp only [L2.vl,q] at e;cases e
  | some u=>
   cases u with
   | none=>simp only [L2.vl,q] at e;cases e
   | some u=>
    cases u with
    | p u=>
     simp only [L2.vl,q] at e;cases e;obtain ⟨w,h1,h2⟩:=re.pure i _ q;have h':S[i]? = some (some v):=h;rw [h'] at h1;cases h1;exact h2
    | o k xs=>simp only [L2.vl,q] at e;cases e
mutual
theorem DO {K:W.Frag} {H:Hp} {O O':SO->Prop} (hO:∀b,O' b->O b\/∃VV,H b=some (K5 true VV)):∀{t:T} {v:V},Rp K H O t v->Rp K H O' t v
 | .non,_,h=>h
 | .bl _,_,h=>h
 | .int _,_,h=>h
 | .str _,_,h=>h
 | .tup xs,v,h=>by
  obtain ⟨a,vs,e1,h1,h2⟩:=h;refine ⟨a,vs,e1,h1.imp (λ⟨n,h⟩=>⟨λz=>?_,h⟩) id,xU hO h2⟩;rcases hO a z with z | ⟨VV,q⟩
  ·exact n z
  ·rw [h] at q;cases q
 | .lst xs,v,h=>by
  obtain ⟨a,vs,e1,h1,h2⟩:=h;refine ⟨a,vs,e1,h1.imp (λ⟨n,h⟩=>⟨λz=>?_,h⟩) id,xU hO h2⟩;rcases hO a z with z | ⟨VV,q⟩
  ·exact n z
  ·rcases h with h | ⟨o,h⟩
   ·rw [h] at q;cases q
   ·rw [h] at q;cases q
theorem xU {K:W.Frag} {H:Hp} {O O':SO->Prop} (hO:∀b,O' b->O b\/∃VV,H b=some (K5 true VV)):∀{xs:List T} {vs:List V},cS K H O xs vs->cS K H O' xs vs
 | [],_,h=>h
 | _::_,_,⟨v,r,e,h1,h2⟩=>⟨v,r,e,DO hO h1,xU hO h2⟩
end
def Pm (K:W.Frag):Prop:=∀a x y z,¬KT K a [V.int x,V.int y,V.int z]
def CQ (t:Option T) (k:List Key->Prop):Prop:=match t with
 | some (.tup [.int a,.int b,.int c])=>k [Sum.inl a,Sum.inl b,Sum.inl c]
 | _=>False
theorem CQ.ex {t:Option T} {k:List Key->Prop} (h:CQ t k):∃a b c,t=some (.tup [.int a,.int b,.int c])/\k [Sum.inl a,Sum.inl b,Sum.inl c]:=by
 unfold CQ at h;split at h
 ·exact ⟨_,_,_,rfl,h⟩
 ·exact h.elim
def wL (E:En) (p:Nat) (k:List T->Prop):Prop:=match E[p]? with
 | some (some (.o false xs))=>k xs
 | _=>False
theorem wL.ex {E:En} {p:Nat} {k:List T->Prop} (h:wL E p k):∃xs,E[p]? = some (some (.o false xs))/\k xs:=by
 unfold wL at h;split at h
 ·rename_i xs e;exact ⟨xs,e,h⟩
 ·exact h.elim
def HH (t:Nat) (Fk:FE) (F:FS):Jx:=λD M E=>Fk E λr E1=>E1=E/\M.length<1000/\CQ (vl E r) λk=>oC (E.set t (some (.o false (getD M k))))
 (F { nx:=λE'=>wL E' t λys=>dN ys=true/\D.nx (zS M k ys) (E'.set t none),rt:=λ_ _=>False })
section
variable {X:Cx} {K:W.Frag} {YM:List TB} {i t:Nat}
theorem P7 {Fk:FE} {F:FS} {x y:Str} {p' p1 ap pl cp pos:Pos} {ek:Expr} {j:Nat} (hr:dW j X.A) (eK:X.K=K) (n3:Pm K) (hN:X.N.Nodup) (ht:X.N[t]? = some x) (hx:Ef X.env.scope x) (hi:X.N[i]? = some y) (hv:AG X.env.scope y) (hti:t≠i) (hk:QE X ek (aM K Fk)) (VY:QB X YM (j7 [i,t] K F))
  (m:M2 X (.Name y p1) "setdefault" ap ek (.List [] pl) cp) (hs:TZ (.Call (.Attribute (.Name y p1) "setdefault" ap) [ek,.List [] pl] [] cp) (some (.Name x p')) pos.line X.env=pure false:=by rfl)
  (hf:X.fn x=true\/X.env.scope.names.lookup x=some .local:=by first | exact .inl rfl | exact .inr rfl | assumption) (hd:(y==("__debug__":Str))=false:=by decide) (ZH:(y==("__classdict__":Str))=false:=by decide) :
  QB X (.Assign [.Name x p'] (.Call (.Attribute (.Name y p1) "setdefault" ap) [ek,.List [] pl] [] cp) pos::YM) (vC true i K (HH t Fk F)):=by
 subst eK;refine (pB (yE hN ht hx (⟨Zo (DN hr) (Uq hi hv hd ZH) hk.frame.h (Fd Hg).h m⟩:QE X _ _) hs hf) VY.frame).leM λD σ H hl ⟨a,G,B,E,DT,d,re,hF,l⟩=>?_;have lt:t<σ.length:=by rw [hl];exact (KU.mp ht).1
 refine ⟨.ref a,d.nm,a,rfl,.inr ⟨_,.inl d.dc⟩,_,d.hid,B,σ,E,_,⟨[],by simp⟩,re,hF,λr E1 v H1 S1 z g VQ rr=>⟨d.tk re g.kp,λgone=>⟨MJ _,λp hp=>?_⟩⟩⟩;obtain ⟨rfl,hM,z⟩:=z;obtain ⟨ka,kb,kc,ez,z⟩:=z.ex;replace z:=gH z;obtain rfl:S1=σ:=by
  obtain ⟨τ,hτ⟩:=g.pre;have h1:=congrArg List.length hτ;rw [LC,VQ.len,re.len] at h1;obtain rfl:τ=[]:=OF (by omega);rw [hτ,LZ]
 obtain ⟨g1,d1⟩:=d.after re g.kp gone;replace d1:=d1 S1 rfl;have hb2:hide (·∈a::cY G) (back (·∈a::cY G) H H1)=H1:=fY gone;obtain ⟨kb',vs,rfl,sq,rs⟩:=VQ.vlT rr ez;have eb:H1 kb'=some (.tup ([Sum.inl ka,Sum.inl kb,Sum.inl kc].map kV)):=by
  obtain ⟨v1,r1,rfl,q1,v2,r2,rfl,q2,v3,r3,rfl,q3,rfl⟩:=rs;cases q1;cases q2;cases q3;rcases sq with sq | sq
  ·exact sq.2
  ·exact absurd sq (n3 _ _ _ _)
 generalize hH2:back (·∈a::cY G) H H1=H2 at hp g1 d1 hb2;have n1:∀{b:SO} {o:HO},H1 b=some o->b∉a::cY G:=λ{b o} h m=>by rw [gone b m] at h;cases h
 have e12:∀{b:SO} {o:HO},H1 b=some o->H2 b=some o:=λ{b o} h=>by rw [<-hH2,dI (n1 h)];exact h
 have np:∀{b:SO} {o:HO},H2 b=some o->b≠p:=λ{b o} h z=>by rw [z,hp] at h;cases h
 have up:∀{b:SO} {o o':HO},H2 b=some o->(upd H2 p o') b=some o:=λ{b o o'} h=>by rw [a8 (np h)];exact h
 have pZ:p∉a::cY G:=λm=>by
  obtain ⟨o,e,_⟩:=d1.hid p m;rw [hp] at e;cases e
 -- the rest of the block,the list of g lent
 have rest:∀(G1 G2:List Ae) (g0:Ae) (Hx:Hp) (M':List T->MD),Hx a=some (K5 true (G1++g0::G2))->(∀b o,H2 b=some o->b≠a->Hx b=some o)->(cY (G1++g0::G2)).Nodup->a∉cY (G1++g0::G2)->
   (∀g'∈G1++g0::G2,∃vs,Hx g'.c=some (.lst vs)/\cS X.K Hx (λc=>dF Hx c\/c=a) g'.o vs)->(∀b,b∈cY (G1++g0::G2)->b∈a::cY G\/b=p)->(∀ys,M' ys=md (G1++⟨g0.k,g0.c,ys⟩::G2))->
   F { nx:=λE'=>wL E' t λys=>dN ys=true/\DT.nx (M' ys) (E'.set t none),rt:=λ_ _=>False } (E1.set t (some (.o false g0.o)))->
   IJ (j7 [i,t] X.K F) D (S1.set t (some (.ref g0.c))) Hx:=λG1 G2 g0 Hx M' xa xk nd na ls sub yy z=>by
  have ad:∀{g':Ae},g'∈G1++g0::G2->g'.c∈cY (G1++g0::G2):=λm=>zY m;have mem:∀{b:SO},b∈cY (G1++g0::G2)↔b∈cY (G1++G2)\/b=g0.c:=λ{b}=>by simp [cY,or_comm,or_left_comm]
  have nc:g0.c∉a::cY (G1++G2):=λm=>by
   rcases KR.mp m with e | m
   ·exact na (by rw [<-e];exact mem.mpr (.inr rfl))
   ·have:(cY (G1++g0::G2)).Perm (g0.c::cY (G1++G2)):=by
     show List.Perm ((G1++g0::G2).map (·.c)) (((g0::(G1++G2)).map (·.c)));exact List.Perm.map _ List.perm_middle
    exact (OH.mp (this.nodup_iff.mp nd)).1 m
  have hZ:∀c∈a::cY (G1++G2),∃o,Hx c=some o/\Oo o:=λc m=>by
   rcases KR.mp m with e | m
   ·rw [e];exact ⟨_,xa,Jr _ _⟩
   ·obtain ⟨g',mg,rfl⟩:=sH m;obtain ⟨vs,h,_⟩:=ls g' (by rcases LP.mp mg with w | w<;>simp [w]);exact ⟨_,h,trivial⟩
  obtain ⟨vs0,c1,c2⟩:=ls g0 (by simp)
  -- the environment,with all of it hidden
  have ex:∀b o,H1 b=some o->hide (λb=>b∈a::cY (G1++G2)\/b=g0.c) Hx b=some o:=λb o e=>by
   have h2:=e12 e;rw [b9]
   ·exact xk b o h2 λw=>n1 e (by rw [w];simp)
   ·intro w;have:b∈a::cY (G1++g0::G2):=by
     rcases w with w | w
     ·rcases KR.mp w with w | w
      ·rw [w];simp
      ·exact LQ _ (mem.mpr (.inl w))
     ·exact LQ _ (mem.mpr (.inr w))
    rcases KR.mp this with w | w
    ·exact n1 e (by rw [w];simp)
    ·rcases sub b w with w | w
     ·exact n1 e w
     ·exact np h2 w
  have WT:=VQ.kept ex;have yx:∀{b:SO},Ow B S1 E1 b->dF Hx b/\b∉a::cY (G1++G2)/\b≠g0.c:=λ{b} w=>by
   obtain ⟨us,e⟩:=WT.ow w;obtain ⟨n,e⟩:=cV e;exact ⟨⟨us,e⟩,λw=>n (.inl w),λw=>n (.inr w)⟩
  have c3:cS X.K (hide (λb=>b∈a::cY (G1++G2)\/b=g0.c) Hx) (Ow B S1 E1) g0.o vs0:=by
   refine c2.step ⟨λb o e n=>?_,λb w=>.inl (.inl (yx w).1)⟩;rw [b9];exact e;intro w;rcases w with w | w
   ·rcases KR.mp w with w | w
    ·exact n (.inr w)
    ·obtain ⟨g',mg,rfl⟩:=sH w;obtain ⟨vs,h,_⟩:=ls g' (by rcases LP.mp mg with w | w<;>simp [w]);exact n (.inl ⟨vs,h⟩)
   ·rw [w] at n;exact n (.inl ⟨vs0,c1⟩)
  obtain ⟨WW,vn⟩:=WT.lend (t:=t) nc c1 c3;have yz:∀{b:SO} {o:HO},Hx b=some o->¬Oo o->b∉a::cY (G1++G2):=λ{b o} e n m=>by
   obtain ⟨o',e',k⟩:=hZ b m;rw [e] at e';cases e';exact n k
  refine ⟨_,hZ,B,_,_,WW,z,⟨λσ' H5 E5 w g5 YW hk=>⟨λb xs e=>?_,λjw=>?_⟩,λ_ _ _ _ _ w=>w.elim,λ_ _ _ w=>w.elim,λ_ _ _ w=>w.elim⟩⟩
  ·refine g5.keep b _ (by rw [b9 (yz e λw=>w)];exact e) λw=>?_;obtain ⟨us,e'⟩:=WW.ow w;rw [(cV e').2] at e;cases e
  ·obtain ⟨ys,eo,w1,w2⟩:=wL.ex w;have st:σ'[t]? = some (some (.ref g0.c)):=by rw [hk t (by simp),MR lt]
   have si:σ'[i]? = some (some (.ref a)):=by rw [hk i (by simp),MB hti];exact d.nm
   obtain ⟨a',zc,s1,s2,s3,s4⟩:=YW.own t false ys eo;rw [st] at s1;cases s1;obtain ⟨om,ow6⟩:=YW.hid1 eo st;have v5:∀{b:SO} {o:HO},H5 b=some o->b∉a::cY (G1++G2):=λ{b o} h m=>by rw [jw b m] at h;cases h
   have eH:hide (·∈a::cY (G1++⟨g0.k,g0.c,ys⟩::G2)) (back (·∈a::cY (G1++G2)) Hx H5)=hide (· = g0.c) H5:=by
    funext b
    have em:b∈a::cY (G1++⟨g0.k,g0.c,ys⟩::G2)↔b∈a::cY (G1++G2)\/b=g0.c:=by simp [cY,or_comm,or_left_comm,or_assoc]
    by_cases w:b=g0.c
    ·rw [jW (em.mpr (.inr w)),jW (Z:=(· = g0.c)) w]
    ·by_cases w':b∈a::cY (G1++G2)
     ·rw [jW (em.mpr (.inl w')),b9 (Z:=(· = g0.c)) w,jw b w']
     ·rw [b9 (λm=>(em.mp m).elim w' w),b9 (Z:=(· = g0.c)) w,dI w']
   have aEI:∀{b:SO},Ow B σ' E5 b->dF H5 b:=λ{b} w=>YW.ow w;have keep:∀b o,Hx b=some o->¬(dF Hx b\/b=a)->back (·∈a::cY (G1++G2)) Hx H5 b=some o:=λb o e n=>by
    by_cases m:b∈a::cY (G1++G2)
    ·rw [jD m];exact e
    ·rw [dI m];refine g5.keep b o (by rw [b9 m];exact e) λw=>?_;obtain ⟨us,e'⟩:=WW.ow w;exact n (.inl ⟨us,(cV e').2⟩)
   have nla:¬dF Hx a:=λ⟨us,e⟩=>by rw [xa] at e;exact Ua (Option.some.inj e)
   have ba:back (·∈a::cY (G1++G2)) Hx H5 a=Hx a:=jD (by simp);have dg:DG true X.K i a (G1++⟨g0.k,g0.c,ys⟩::G2) σ' (back (·∈a::cY (G1++G2)) Hx H5):=by
    refine ⟨si,by rw [ba,xa];simp [K5,xH],by have:=nd;simpa [cY] using this,λg' mg=>?_⟩;have old:∀g'∈G1++G2,∃vs,back (·∈a::cY (G1++G2)) Hx H5 g'.c=some (.lst vs)/\cS X.K (back (·∈a::cY (G1++G2)) Hx H5) (λc=>dF (back (·∈a::cY (G1++G2)) Hx H5) c\/c=a) g'.o vs:=λg' mg=>by
     obtain ⟨vs,h1,h2⟩:=ls g' (by rcases LP.mp mg with w | w<;>simp [w]);exact ⟨vs,by rw [jD (LQ _ (zY mg))];exact h1,h2.step (Jh keep nla)⟩
    rcases LP.mp mg with m | m
    ·exact old g' (LP.mpr (.inl m))
    ·rcases KR.mp m with m | m
     ·subst m;refine ⟨zc,by rw [dI nc];exact s2,?_⟩;have r1:cS X.K (back (·∈a::cY (G1++G2)) Hx H5) (Ow B σ' E5) ys zc:=s3.step ⟨λb o e _=>by rw [dI (v5 e)];exact e,λ_ w=>.inl w⟩;have r2:cS X.K (back (·∈a::cY (G1++G2)) Hx H5) (dF (back (·∈a::cY (G1++G2)) Hx H5)) ys zc:=cS.noL (λb w=>w) w1 r1;exact xU (λb w=>w.imp id λw=>by subst w;exact ⟨_,by rw [ba];exact xa⟩) r2
     ·exact old g' (LP.mpr (.inr m))
   refine l.nx _ _ _ (G1++⟨g0.k,g0.c,ys⟩::G2) (by rw [<-yy ys];exact w2) ?_ dg (by rw [eH];exact om);have em:∀{b:SO},b∈a::cY (G1++⟨g0.k,g0.c,ys⟩::G2)↔b∈a::cY (G1++g0::G2):=λ{b}=>by simp [cY]
   refine g1.trans ⟨λb o e n=>?_,λb w=>?_⟩
   ·have nz:b∉a::cY G:=λw=>n (.inr w);have nx:b≠a:=λw=>nz (by rw [w];simp);have ex:=xk b o e nx;have nm2:b∉cY (G1++g0::G2):=λw=>(sub b w).elim nz (np e);have nm3:b∉a::cY (G1++G2):=λw=>(KR.mp w).elim nx λw=>nm2 (mem.mpr (.inl w));rw [dI nm3];refine g5.keep b o (by rw [b9 nm3];exact ex) λw=>?_;rcases vn b w with w | w
    ·exact n (.inl w)
    ·exact nm2 (mem.mpr (.inr w))
   ·have pn:∀{b:SO},b=p->H2 b=none:=λe=>by rw [e];exact hp
    rcases w with w | w
    ·obtain ⟨w,nc6⟩:=ow6 b w;rcases g5.new b w with w | w
     ·rcases vn b w with w | w
      ·exact .inl (.inl w)
      ·exact absurd w nc6
     ·by_cases m:b∈a::cY (G1++G2)
      ·rcases KR.mp m with m | m
       ·exact .inl (.inr (by rw [m];simp))
       ·rcases sub b (mem.mpr (.inl m)) with m | m
        ·exact .inl (.inr m)
        ·exact .inr (pn m)
      ·rw [b9 m] at w;cases e:H2 b with
       | none=>exact .inr rfl
       | some o=>
        by_cases m2:b=a
        ·exact .inl (.inr (by rw [m2];simp))
        ·rw [xk b o e m2] at w;cases w
    ·rcases KR.mp (em.mp w) with m | m
     ·exact .inl (.inr (by rw [m];simp))
     ·rcases sub b m with m | m
      ·exact .inl (.inr m)
      ·exact .inr (pn m)
 have we:a∉cY G:=λm=>by
  obtain ⟨g',mg,e⟩:=sH m;obtain ⟨vs,h,_⟩:=d1.ls g' mg;rw [e] at h;exact d1.nl ⟨vs,h⟩
 refine ⟨kb',xH G,[Sum.inl ka,Sum.inl kb,Sum.inl kc],rfl,up d1.dc,up (e12 eb),by rw [VH];simp only [xH,md,KW] at hM ⊢;omega,λu hu=>?_,λhn=>?_⟩
 ·obtain ⟨G1,g0,G2,eG,rfl,e3,e4⟩:=Ba hu;rw [e3] at z;rw [eG] at we;refine rest G1 G2 g0 _ _ (by rw [<-eG];exact up d1.dc) (λb o e _=>up e) (by rw [<-eG];exact d1.nd) we (λg' mg=>?_) (λb m=>.inl (LQ _ (by rw [eG];exact m))) e4 z;obtain ⟨vs,h1,h2⟩:=d1.ls g' (by rw [eG];exact mg);exact ⟨vs,up h1,h2.step (Jh (λb o e _=>up e) d1.nl)⟩
 ·obtain ⟨e1,e2,e3⟩:=Dy hn;rw [e1] at z;have ap:a≠p:=np d1.dc;have xk:∀b o,H2 b=some o->b≠a->(upd (upd H2 p (.lst [])) a (.dT (yX (xH G) [Sum.inl ka,Sum.inl kb,Sum.inl kc] (.ref p)))) b=some o:=λb o e n=>by rw [a8 n];exact up e
  refine rest G [] ⟨[Sum.inl ka,Sum.inl kb,Sum.inl kc],p,[]⟩ _ _ ?_ xk ?_ ?_ (λg' mg=>?_) (λb m=>?_) (e2 p) z
  ·rw [c8];unfold yX;rw [if_neg (by rw [e3];decide)];simp [K5,xH]
  ·have h1:=d1.nd;have h2:p∉cY G:=λm=>pZ (LQ _ m);show (List.map (·.c) (G++[_])).Nodup;rw [MI,List.nodup_append];exact ⟨h1,by simp,λx hx y hy w=>by simp at hy;rw [w,hy] at hx;exact h2 hx⟩
  ·intro m;simp only [cY,MI,MO,OS,LP,LM] at m;rcases m with m | m
   ·exact we m
   ·exact ap m
  ·rcases LP.mp mg with m | m
   ·obtain ⟨vs,h1,h2⟩:=d1.ls g' m;have ne:g'.c≠a:=λw=>we (by rw [<-w];exact zY m);exact ⟨vs,xk _ _ h1 ne,h2.step (Jh (λb o e n=>xk b o e λw=>n (.inr w)) d1.nl)⟩
   ·simp at m;subst m;exact ⟨[],by rw [a8 (λw=>ap w.symm),c8],rfl⟩
  ·simp only [cY,MI,MO,OS,LP,LM] at m;exact m.imp (λm=>LQ _ m) id
end
end L2
namespace L2
open PySem PySem.Spec PyProof.Rows
end L2
namespace L2
open PySem PySem.Spec PyProof.Rows
end L2
namespace L2
open PySem PySem.Spec PyProof.Rows
def C8 (x:Str):It:=
 ⟨λi _=>i<x.cps.size,λi H v H'=>∃p c,v = .ref p/\H p=none/\H'=upd H p (.tup [.int (i:Int),.str ⟨#[c]⟩])/\x.cps[i]? = some c,λi _=>i=x.cps.size⟩
theorem Em {P:SS} {w:SW} {K:W.Frag} {elts:List Expr} {x1} {WZ:Pos} (x:Str) (t:Tok) (ty:String) (e it:SO) (YC:e≠it)
  (D:∀(A:Around),A.handled=none->Draws P w A it [it] x.cps.size (λi v=>∃c u,x.cps[i]? = some c/\v = .str ⟨#[c]⟩ u) (λi h=>h.IsStrIter it ty x t i)) :
  Ge P w K (.Tuple elts x1 WZ) (C8 x) [e,it] e (λi h=>(∃old,IsEnum h e it (i:Nat) old)/\h.IsStrIter it ty x t i) where
 mem:=by simp
 obj:=λi h st b hb=>by
  obtain ⟨⟨old,he⟩,⟨o,ho,hc,hd⟩⟩:=st;rcases KR.mp hb with rfl | hb
  ·exact ⟨_,he,λv z=>by cases z⟩
  ·rw [LM.mp hb];exact ⟨o,ho,λv z=>by rw [hd] at z;cases z⟩
 keep:=λi h h' st k=>⟨let ⟨old,he⟩:=st.1;⟨old,k e (by simp) _ he⟩,let ⟨o,ho,r⟩:=st.2;⟨o,k it (by simp) o ho,r⟩⟩
 item:=by
  intro X hP hw hK hc i pins s σ H E I hf st hg;subst hP hw hK;have hg:i<x.cps.size:=hg;obtain ⟨⟨old,he⟩,hit⟩:=st;refine wpAny_pyNext_enum_itemD (D X.A.in1 (I.ok.hd hc)) he hit hg YC (by simp [YC]) λx' h1 tk hP ho st1 ht aw hk=>⟨_,rfl,?_⟩;obtain ⟨c,u,hcx,ex⟩:=hP;subst ex;refine wpAny_letOwnedTupleGo_enum ho λh2 xl aj=>?_;have xo:e≠s.heap.objs.size:=MC (LL he);have kk:∀b o,b∉[e,it]->s.heap.get? b=some o->h2.get? b=some o:=λb o hb q=>by
   have b1:b≠e:=λz=>hb (by simp [z]);have b2:b≠it:=λz=>hb (by simp [z]);exact aj.extBut b o b1 (hk b o b1 b2 q)
  have nw:dU X.prog X.w (upd H s.heap.objs.size (.tup [.int (i:Int),.str ⟨#[c]⟩])) h2 s.heap.objs.size (.tup [.int (i:Int),.str ⟨#[c]⟩]):=
   ⟨by show 2<=SX;decide,[.int i tk,.str ⟨#[c]⟩ u],.cons ⟨_,rfl⟩ (.cons ⟨_,rfl⟩ .nil),⟨_,aj.extBut _ _ (Ne.symm xo) ht,rfl,_,rfl⟩⟩
  refine ⟨.ref s.heap.objs.size,upd H s.heap.objs.size (.tup [.int (i:Int),.str ⟨#[c]⟩]),I.turnedLaid (t':=tk+1) (ch:=[e,it]) kk hf (LF _) nw,rfl,
   ⟨_,c,rfl,I.hok.fresh (LF _),rfl,hcx⟩,⟨⟨_,by simpa using xl⟩,st1.extBut aj.extBut (Ne.symm YC)⟩,λb hb=>?_⟩
  have XB:b<s.heap.objs.size:=by
   rcases KR.mp hb with rfl | hb
   ·exact LL he
   ·rw [LM.mp hb];obtain ⟨o,YX,_⟩:=hit;exact LL YX
  rw [a8 (MC XB)];exact (hf b hb).1
 done:=by
  intro X hP hw hK hc i pins s σ H E I hf st hg;subst hP hw hK;have hg:i=x.cps.size:=hg;subst hg;obtain ⟨⟨old,he⟩,hit⟩:=st;refine wpAny_pyNext_enum_endD (D X.A.in1 (I.ok.hd hc)) he hit λh1 eb=>⟨rfl,?_⟩;exact I.turnedL (t':=s.toks) (ch:=[e,it]) (λb o hb q=>eb b o (λz=>hb (by simp [z])) q) hf
 self:=λ_ _ _ _ _ st h=>let ⟨old,he⟩:=st.1;wpAny_pyIter_enum he h
section
variable {X:Cx} {a:Expr} {pos:Pos} {K:W.Frag} {Fr:FA}
def Tr (ta:TA):TI:=λσ H R=>ta σ H λvs H1=>∃x,vs=[.str x]/\R (C8 x) H1
theorem Ut {ta:TA} {p WZ:Pos} {elts:List Expr} {x1} (hg:Gl X "enumerate") (hm:X.mg "enumerate" = none) (ha:PA X [a] ta) (hs:TJ [a] X.env=[(false,TL a X.env)]:=by rfl) :
  PI X (.Tuple elts x1 WZ) (.Call (.Name "enumerate" p) [a] [] pos) (Tr ta):=by
 intro pins s σ H R I h;refine Call_ (lW I hg hm boot_enumerate (PyProof.Rows.callWith_type1 (dM (ha pos pins s σ H _ I h) λus s1 ⟨vs,H1,I1,r1,q1⟩=>?_) hs rfl));obtain ⟨x,rfl,q⟩:=q1;obtain ⟨u,rfl,ru⟩:=bE.one r1;obtain ⟨t,rfl⟩:=ru;refine call_enumerate_str λh' he hit aw hk=>?_;refine wpAny_pyIter_enum he ?_;have D:∀(A:Around),A.handled=none->Draws X.prog X.w A s1.heap.objs.size [s1.heap.objs.size] x.cps.size (λi v=>∃c u,x.cps[i]? = some c/\v = .str ⟨#[c]⟩ u) (λi h=>h.IsStrIter s1.heap.objs.size (strIterType x) x t i):=λA hA=>by
  unfold strIterType
  split
  ·exact Draws.strAscii hA _ x t
  ·exact Draws.strWide hA _ x t
 refine ⟨s1.heap.objs.size+1,[s1.heap.objs.size+1,s1.heap.objs.size],_,_,H1,rfl,I1.kept (t':=s1.toks) hk,Em x t (strIterType x) _ _ (Nat.succ_ne_self _) D,⟨⟨_,he⟩,hit⟩,λb hb=>?_,q⟩;have hle:s1.heap.objs.size<=b:=by
  rcases KR.mp hb with rfl | hb
  ·exact Nat.le_succ _
  ·rw [LM.mp hb];exact LF _
 exact I1.fpOk hle (I1.hok.fresh hle)
theorem Wx {x:Str}:Ey K (C8 x) ((kQ x).zipIdx.map λq=>T.tup [.int (q.2:Int),q.1]) (λ_ _=>True):=by
 refine ⟨λ_ _ _ _ _ h=>h,λi H O _ hi=>by show i<x.cps.size;simpa [kQ] using hi,λi H O v H' t _ e hO y=>?_,λH O _=>by simp [C8,kQ]⟩;obtain ⟨pp,c,e1,hp,e2,hc⟩:=y;subst e1;subst e2;rw [LK] at e;have hi:i<x.cps.size:=(Array.getElem?_eq_some_iff.mp hc).1;have hx:(kQ x)[i]? = some (T.str ⟨#[c]⟩):=by
  unfold kQ;rw [LK,SH,hc];rfl
 rw [NA,hx] at e;cases e;have k:Kp O O H (upd H pp (.tup [.int (i:Int),.str ⟨#[c]⟩])):=Kp.upd hp;refine ⟨k,λb o z=>by rw [a8 (a9 z hp)];exact z,pp,_,rfl,.inl ⟨λz=>hO pp z hp,c8⟩,_,_,rfl,?_,_,[],rfl,rfl,rfl⟩;simp [Rp]
def KI (Fr:FA):FI:=λE Q=>Fr E λrs E1=>match rs with
 | [r]=>s1 (vl E1 r) λx=>Q ((kQ x).zipIdx.map λq=>T.tup [.int (q.2:Int),q.1]) [] E1
 | _=>False
theorem Qd {n:Nat} {p WZ:Pos} {elts:List Expr} {x1} (hg:Gl X "enumerate") (hm:X.mg "enumerate" = none) (ha:QA X [a] (dS K n Fr)) (hs:cC a=false:=by rfl):QI X (.Tuple elts x1 WZ) (.Call (.Name "enumerate" p) [a] [] pos) (lZ K (KI Fr)):=by
 refine QI.le (t:=Tr (dS K n Fr)) ⟨Ut hg hm ha.h (cG hs)⟩ λσ H R hn ⟨B,S,E,Q',hS,re,hF,lk⟩=>⟨B,S,E,_,hS,re,hF,λrs E1 vs H1 S1 q g VQ rr hn=>?_⟩
 match rs,rr,q with
 | [r],⟨v,ws,e1,h1,h2⟩,q=>
  cases h2;subst e1;obtain ⟨x,e1,q⟩:=s1.ex q;exact ⟨x,by rw [VQ.str h1 e1],lk _ _ _ _ _ _ _ q g VQ Wx (λj hj=>absurd hj (by simp)) λ_ _ _=>trivial⟩
 | [],_,q=>exact q.elim
 | _::_::_,_,q=>exact q.elim
end
end L2
namespace L2
open PySem PySem.Spec PyProof.Rows
def iM:List Int->Int
 | []=>0
 | n::ns=>ns.foldl (λa b=>if b<a then b else a) n
def Ab:List Int->Int
 | []=>0
 | n::ns=>ns.foldl (λa b=>if a<b then b else a) n
theorem oX:∀(ns:List Int) (n:Int),(ns.foldl (λa b=>if b<a then b else a) n=n\/ns.foldl (λa b=>if b<a then b else a) n∈ns)/\ns.foldl (λa b=>if b<a then b else a) n<=n/\∀z∈ns,ns.foldl (λa b=>if b<a then b else a) n<=z
 | [],n=>⟨.inl rfl,Int.le_refl _,λz h=>absurd h (by simp)⟩
 | m::ns,n=>by
  obtain ⟨h1,h2,h3⟩:=oX ns (if m<n then m else n);rw [NH];generalize ns.foldl (λa b=>if b<a then b else a) (if m<n then m else n)=r at h1 h2 h3
  by_cases c:m<n
  ·rw [if_pos c] at h1 h2;refine ⟨.inr ?_,by omega,λz hz=>?_⟩
   ·rcases h1 with h1 | h1<;>simp [h1]
   ·rcases KR.mp hz with rfl | hz
    ·exact h2
    ·exact h3 z hz
  ·rw [if_neg c] at h1 h2;refine ⟨h1.imp id λh=>by simp [h],h2,λz hz=>?_⟩;rcases KR.mp hz with rfl | hz
   ·omega
   ·exact h3 z hz
theorem tL:∀(ns:List Int) (n:Int),(ns.foldl (λa b=>if a<b then b else a) n=n\/ns.foldl (λa b=>if a<b then b else a) n∈ns)/\n<=ns.foldl (λa b=>if a<b then b else a) n/\∀z∈ns,z<=ns.foldl (λa b=>if a<b then b else a) n
 | [],n=>⟨.inl rfl,Int.le_refl _,λz h=>absurd h (by simp)⟩
 | m::ns,n=>by
  obtain ⟨h1,h2,h3⟩:=tL ns (if n<m then m else n);rw [NH];generalize ns.foldl (λa b=>if a<b then b else a) (if n<m then m else n)=r at h1 h2 h3
  by_cases c:n<m
  ·rw [if_pos c] at h1 h2;refine ⟨.inr ?_,by omega,λz hz=>?_⟩
   ·rcases h1 with h1 | h1<;>simp [h1]
   ·rcases KR.mp hz with rfl | hz
    ·exact h2
    ·exact h3 z hz
  ·rw [if_neg c] at h1 h2;refine ⟨h1.imp id λh=>by simp [h],h2,λz hz=>?_⟩;rcases KR.mp hz with rfl | hz
   ·omega
   ·exact h3 z hz
theorem Xl {ns:List Int} {M:Int} (h:M∈ns) (k:∀z∈ns,M<=z):M=iM ns:=by
 cases ns with
 | nil=>simp at h
 | cons n ns=>
  obtain ⟨h1,h2,h3⟩:=oX ns n;show M=ns.foldl _ n;generalize ns.foldl (λa b=>if b<a then b else a) n=r at h1 h2 h3;have a1:r<=M:=by
   rcases KR.mp h with rfl | h
   ·exact h2
   ·exact h3 M h
  have a2:M<=r:=k r (by rcases h1 with h1 | h1<;>simp [h1]);omega
theorem Yy {ns:List Int} {M:Int} (h:M∈ns) (k:∀z∈ns,z<=M):M=Ab ns:=by
 cases ns with
 | nil=>simp at h
 | cons n ns=>
  obtain ⟨h1,h2,h3⟩:=tL ns n;show M=ns.foldl _ n;generalize ns.foldl (λa b=>if a<b then b else a) n=r at h1 h2 h3;have a1:M<=r:=by
   rcases KR.mp h with rfl | h
   ·exact h2
   ·exact h3 M h
  have a2:r<=M:=k r (by rcases h1 with h1 | h1<;>simp [h1]);omega
theorem n8:∀{ns:List Int} {us:List Value},bE (ns.map V.int) us->∃xs:Array (Int×Tok),us.toArray=intItems xs/\ns=xs.toList.map (·.1)
 | [],us,h=>by cases h;exact ⟨#[],by simp [intItems],rfl⟩
 | n::ns,us,h=>by
  cases h with
  | cons h1 h2=>
   obtain ⟨t,rfl⟩:=h1;obtain ⟨xs,e1,e2⟩:=n8 h2;refine ⟨((n,t)::xs.toList).toArray,?_,by simp [e2]⟩;have qx:=congrArg SN e1;simp [intItems] at qx;simp [intItems,qx]
section
variable {X:Cx} {e:Expr} {es:List Expr} {pos:Pos} {K:W.Frag} {Fr:FA}
theorem Np (hc:X.calm=true):gM X (.builtin "min") (λxs H Q=>∃(a:SO) (ns:List Int),xs=[.ref a]/\j4 X.K H a (ns.map V.int)/\0<ns.length/\Q (.int (iM ns)) H):=by
 intro pins s σ H xs us Q I r h;obtain ⟨a,ns,rfl,sq,hn,q⟩:=h;obtain ⟨u,rfl,rx⟩:=bE.one r;cases rx;obtain ⟨VI,rv,ht,hz⟩:=I.list sq;obtain ⟨xs,e1,e2⟩:=n8 rv;have hl:=ht.isList;rw [e1] at hl;have aw:0<xs.size:=by rw [e2] at hn;simpa using hn
 refine min_intList (I.ok.hd hc) hl aw λv h' tk hv hk=>?_;obtain ⟨t,rfl⟩:=intItems_at hv;obtain ⟨h1,h2⟩:=argBest_lt (numAt xs) (xs.size-1);have:numAt xs (argBest (λi j=>decide (numAt xs i<numAt xs j)) (xs.size-1))=iM ns:=by
  refine Xl ?_ λz hz=>?_
  ·rw [numAt_eq,<-e2];have:argBest (λi j=>decide (numAt xs i<numAt xs j)) (xs.size-1)<ns.length:=by rw [e2];simp;omega
   rw [LH,KS this];exact NN _
  ·obtain ⟨j,hj,rfl⟩:=List.getElem_of_mem hz;have:=h2 j (by rw [e2] at hj;simp at hj;omega);rw [numAt_eq xs j,<-e2,LH,KS hj] at this;exact this
 rw [this];exact ⟨.int _,H,I.kept hk,⟨_,rfl⟩,q⟩
theorem Ng (hc:X.calm=true):gM X (.builtin "max") (λxs H Q=>∃(a:SO) (ns:List Int),xs=[.ref a]/\j4 X.K H a (ns.map V.int)/\0<ns.length/\Q (.int (Ab ns)) H):=by
 intro pins s σ H xs us Q I r h;obtain ⟨a,ns,rfl,sq,hn,q⟩:=h;obtain ⟨u,rfl,rx⟩:=bE.one r;cases rx;obtain ⟨VI,rv,ht,hz⟩:=I.list sq;obtain ⟨xs,e1,e2⟩:=n8 rv;have hl:=ht.isList;rw [e1] at hl;have aw:0<xs.size:=by rw [e2] at hn;simpa using hn
 refine max_intList (I.ok.hd hc) hl aw λv h' tk hv hk=>?_;obtain ⟨t,rfl⟩:=intItems_at hv;obtain ⟨h1,h2⟩:=argBest_gt (numAt xs) (xs.size-1);have:numAt xs (argBest (λi j=>decide (numAt xs i>numAt xs j)) (xs.size-1))=Ab ns:=by
  refine Yy ?_ λz hz=>?_
  ·rw [numAt_eq,<-e2];have:argBest (λi j=>decide (numAt xs i>numAt xs j)) (xs.size-1)<ns.length:=by rw [e2,KW,OW];omega
   rw [LH,KS this];exact NN _
  ·obtain ⟨j,hj,rfl⟩:=List.getElem_of_mem hz;have:=h2 j (by rw [e2] at hj;simp at hj;omega);rw [numAt_eq xs j,<-e2,LH,KS hj] at this;exact this
 rw [this];exact ⟨.int _,H,I.kept hk,⟨_,rfl⟩,q⟩
def IQ (t:Option T) (k:List Int->Prop):Prop:=∃ns:List Int,t=some (.lst (ns.map T.int))/\0<ns.length/\k ns
theorem uK {H:Hp} {O:SO->Prop}:∀{ns:List Int} {vs:List V},cS K H O (ns.map T.int) vs->vs=ns.map V.int
 | [],_,h=>h
 | n::ns,_,⟨v,r,e,h1,h2⟩=>by
  subst e;have h1:v=V.int n:=h1;rw [h1,uK h2];rfl
def IU (f:List Int->Int) (Fr:FA):FE:=λE Q=>Fr E λrs E1=>match rs with
 | [x]=>IQ (vl E1 x) λns=>Q (.p (.int (f ns))) E1
 | _=>False
theorem sM {n:Nat} {p:Pos} (eK:X.K=K) (hc:X.calm=true) (hg:Gl X "min") (hm:X.mg "min" = none) (ha:QA X (e::es) (dS K n Fr)) (hs:bM (e::es)=true:=by rfl):QE X (.Call (.Name "min" p) (e::es) [] pos) (aM K (IU iM Fr)):=by
 subst eK;refine (eU (Np hc) hg hm boot_min ha (by decide) (by decide) hs).le λσ H Q hl h=>args (Fr:=Fr) h λB S E rs vs H2 Q' hS re rr hn q lk=>?_
 match rs,rr,q with
 | [x],⟨v,ws,e1,h1,h3⟩,q=>
  cases h3;subst e1;obtain ⟨ns,e3,h0,q⟩:=q;obtain ⟨a,vs,e4,sq,rs⟩:=re.vl h1 e3;rw [uK rs] at sq;exact ⟨a,ns,by rw [e4],sq,h0,lk _ _ _ _ _ q .refl re rfl⟩
 | [],_,q=>exact q.elim
 | _::_::_,_,q=>exact q.elim
theorem Ja {n:Nat} {p:Pos} (eK:X.K=K) (hc:X.calm=true) (hg:Gl X "max") (hm:X.mg "max" = none) (ha:QA X (e::es) (dS K n Fr)) (hs:bM (e::es)=true:=by rfl):QE X (.Call (.Name "max" p) (e::es) [] pos) (aM K (IU Ab Fr)):=by
 subst eK;refine (eU (Ng hc) hg hm boot_max ha (by decide) (by decide) hs).le λσ H Q hl h=>args (Fr:=Fr) h λB S E rs vs H2 Q' hS re rr hn q lk=>?_
 match rs,rr,q with
 | [x],⟨v,ws,e1,h1,h3⟩,q=>
  cases h3;subst e1;obtain ⟨ns,e3,h0,q⟩:=q;obtain ⟨a,vs,e4,sq,rs⟩:=re.vl h1 e3;rw [uK rs] at sq;exact ⟨a,ns,by rw [e4],sq,h0,lk _ _ _ _ _ q .refl re rfl⟩
 | [],_,q=>exact q.elim
 | _::_::_,_,q=>exact q.elim
end
end L2
namespace L2
open PySem PySem.Spec PyProof.Rows
section
variable {X:Cx} {K:W.Frag} {Fa:FE} {tg:Expr}
def CJ (K:W.Frag) (tl:TE):TI:=λσ H R=>tl σ H λx H1=>∃a,x = .ref a/\((∃xs,j4 K H1 a xs)/\R (FU K a) H1\/(∃xs,rX K H1 a xs)/\R (GC K a) H1)
theorem R3 {l:Expr} {tl:TE} (hl:PE X l tl):PI X tg l (CJ X.K tl):=by
 intro pins s σ H R I h;refine dM (hl pins s σ H _ I h) λv s1 ⟨x,H1,I1,r1,q1⟩=>?_;obtain ⟨a,e,q⟩:=q1;subst e;cases r1;rcases q with ⟨⟨xs,hq⟩,q⟩ | ⟨⟨xs,hq⟩,q⟩
 ·obtain ⟨VI,rv,p,hz⟩:=I1.list hq;refine wpAny_pyIter_list p.isList ?_;refine ⟨s1.heap.objs.size,[s1.heap.objs.size],_,_,H1,rfl,I1.kept (t':=s1.toks) λb o e=>LG _ e,wN a _,⟨_,LR _ rfl,rfl,rfl⟩,λb hb=>?_,q⟩;have e:b=s1.heap.objs.size:=by simpa using hb
  subst e;exact I1.fpOk (LF _) (I1.hok.fresh (LF _))
 ·obtain ⟨VI,rv,p,hz⟩:=I1.tuple hq;refine US (show s1.heap.IsTuple a VI.toArray from p) ?_;refine ⟨s1.heap.objs.size,[s1.heap.objs.size],_,_,H1,rfl,I1.kept (t':=s1.toks) λb o e=>LG _ e,sS a _,⟨_,LR _ rfl,rfl,rfl⟩,λb hb=>?_,q⟩;have e:b=s1.heap.objs.size:=by simpa using hb
  subst e;exact I1.fpOk (LF _) (I1.hok.fresh (LF _))
def JL (Fa:FE):FI:=λE Q=>Fa E λr E1=>match vl E1 r with
 | some (.lst xs)=>pF E1 r=[]/\Q xs [] E1
 | some (.tup xs)=>pF E1 r=[]/\Q xs [] E1
 | _=>False
theorem Vb {l:Expr} (eK:X.K=K) (hl:QE X l (aM K Fa)):QI X tg l (lZ K (JL Fa)):=by
 subst eK;refine QI.le (t:=CJ X.K (aM X.K Fa)) ⟨R3 hl.h⟩ λσ H R hn ⟨B,S,E,Q',hS,re,hF,lk⟩=>⟨B,S,E,_,hS,re,hF,λr E1 v H1 S1 q g VQ rr=>?_⟩;split at q
 ·rename_i xs e1;obtain ⟨a,vs,e2,sq,rs⟩:=VQ.vl rr e1;exact ⟨a,e2,.inl ⟨⟨vs,sq⟩,lk _ _ _ _ _ _ _ q.2 g VQ Fx (λj hj=>absurd hj (by simp)) λO h1 h2=>by rw [<-e2];exact nD VQ rr e1 O h1 λj hj=>absurd hj (by rw [q.1];simp)⟩⟩
 ·rename_i xs e1;obtain ⟨a,vs,e2,sq,rs⟩:=VQ.vl rr e1;exact ⟨a,e2,.inr ⟨⟨vs,sq⟩,lk _ _ _ _ _ _ _ q.2 g VQ Qs (λj hj=>absurd hj (by simp)) λO h1 h2=>by rw [<-e2];exact nD VQ rr e1 O h1 λj hj=>absurd hj (by rw [q.1];simp)⟩⟩
 ·exact q.elim
end
section
variable {X:Cx} {K:W.Frag} {Fa Fb:FE} {a b:Expr} {pos:Pos}
theorem Ek (ha:QE X a (aM K Fa)) (hb:QE X b (aM K Fb)) (hm:TK .In b=false:=by rfl):QT X (.Compare a [.In] [b] pos) (eJ K (vG (ID Fa Fb))):=by
 refine tZ Om ha hb hm λσ H Q h=>two h λB S E x y v w H2 Q' hS re rx ry q lk=>?_;obtain ⟨i,j,e1,e2,q⟩:=q.ex;exact ⟨i,j,re.str rx e1,re.str ry e2,lk _ _ _ _ _ q .refl re rfl⟩
end
end L2
namespace L2
open PySem PySem.Spec PyProof.Rows
section
variable {X:Cx} {K:W.Frag} {pos:Pos} {o e:Expr} {Fo:FE} {Fr:FA}
def DC (Fo:FE) (Fr:FA):FE:=λE Q=>Fo E λo E1=>o1 (ownOf E1 o) λ_=>Fr E1 λrs E2=>match o with
 | .s j=>o1 (rM E2 rs) λz=>match z.1,z.2[j]? with
  | [t],some (some (.o k xs))=>xs.length<1000/\Q (.p .non) (z.2.set j (some (.o k (xs++[t]))))
  | _,_=>False
 | _=>False
theorem nL {n:Nat} {ap:Pos} (eK:X.K=K) (ho:QE X o (aM K Fo)) (ha:QA X [e] (dS K n Fr)) (WN:TV o "append" X.env (TL o X.env)=TL o X.env:=by rfl) (WO:(ap.endLine==pos.line)=true:=by rfl) (hs:cC e=false:=by rfl) :
  QE X (.Call (.Attribute o "append" ap) [e] [] pos) (aM K (DC Fo Fr)):=by
 subst eK;refine (wF ho ha WN WO hs).le λσ H Q hl h=>?_;obtain ⟨B,S,E,Q',⟨τ,hS⟩,re,hF,lk⟩:=h;refine ⟨B,S,E,_,⟨τ,hS⟩,re,hF,λoo E1 v H1 S1 q g1 VQ rx=>?_⟩;obtain ⟨τ1,XX⟩:=g1.pre;obtain ⟨ju,e0,q⟩:=o1.ex q;obtain ⟨j,k,p,vs,rfl,hE,uh,rfl,h2,h3⟩:=VQ.ownOf rx e0;refine ⟨.inl ⟨rfl,vs,j4.of h2⟩,B,S1,E1,_,⟨τ++τ1,by rw [XX,hS,LI]⟩,VQ,q,λrs E2 us H2 S2 q2 g2 WT rr hn=>?_⟩;have ZM:S2[j]? = some (some (.ref p)):=fH g2.pre uh;simp only at q2;obtain ⟨z,e3,q2⟩:=o1.ex q2;obtain ⟨WW,ow,rp⟩:=oV WT rr e3;obtain ⟨ts,E3⟩:=z;simp only at q2 WW ow rp;split at q2
 ·rename_i t k2 xs yd;obtain ⟨hz,q2⟩:=q2;obtain ⟨p',mh,z1,z2,z3,_⟩:=WW.own j k2 xs yd;rw [ZM] at z1;cases z1;obtain ⟨y,ws,rfl,r1,r2⟩:=rp;cases r2;refine ⟨p,mh,y,rfl,rfl,z2,?_,?_⟩
  ·rw [z3.length];exact bU (by omega)
  ·have rp1:cS X.K H2 (Ow B S2 E3) [t] [y]:=⟨y,[],rfl,r1,rfl⟩;obtain ⟨g3,cf⟩:=WW.put yd ZM (z3.append rp1);exact lk _ _ _ _ _ q2 ((g1.trans g2).trans (Gr.trans ⟨Kp.less ow,[],by simp⟩ g3)) cf rfl
 ·exact q2.elim
end
end L2
namespace L2
open PySem PySem.Spec PyProof.Rows
section
variable {X:Cx} {K:W.Frag} {pos:Pos} {o:Expr} {Fo:FE}
def CZ (Fo:FE):FE:=λE Q=>Fo E λo E1=>match o with
 | .s j=>(match E1[j]? with
  | some (some (.o k xs))=>o1 (xs[xs.length-1]?) λt=>Q (.p t) (E1.set j (some (.o k xs.dropLast)))
  | _=>False)
 | _=>False
theorem Wq {ap:Pos} (eK:X.K=K) (ho:QE X o (aM K Fo)) (WN:TV o "pop" X.env (TL o X.env)=TL o X.env:=by rfl) (WO:(ap.endLine==pos.line)=true:=by rfl) :
  QE X (.Call (.Attribute o "pop" ap) [] [] pos) (aM K (CZ Fo)):=
 QE.le (t:=CO X.K "list" EO (aM K Fo)) ⟨R5 PySem.F.plainAttrs_list PySem.F.slot_list_pop PySem.F.type_list_pop Z8 ho.h WN WO⟩ λσ H Q hl h=>by
  subst eK;refine one (Fa:=Fo) h λB S E x v H2 Q' hS re rx q lk=>?_;split at q
  ·rename_i j;split at q
   ·rename_i k xs hE;have rx':S[j]? = some (some v):=rx;obtain ⟨p,vs,z1,z2,z3,_⟩:=re.own j k xs hE;rw [rx'] at z1;cases z1;obtain ⟨t,ht,q⟩:=o1.ex q;have vl:=z3.length;obtain ⟨w,hw,rp⟩:=z3.get ht;obtain ⟨g3,WW⟩:=re.put (ys:=xs.dropLast) (ws:=vs.dropLast) hE rx' (by rw [List.dropLast_eq_take,List.dropLast_eq_take,vl];exact z3.take _);exact ⟨.inl ⟨rfl,vs,j4.of z2⟩,p,vs,w,rfl,rfl,z2,by rw [vl];exact hw,lk _ _ _ _ _ q g3 WW (rp.step g3.kp)⟩
   ·exact q.elim
  ·exact q.elim
end
end L2
namespace L2
open PySem PySem.Spec PyProof.Rows
theorem rH:∀(ts:List Str) (k:Nat) (acc:Str),(textFrom k acc ts).length<=acc.length+piled ts
 | [],k,acc=>LF _
 | t::ts,k,acc=>by
  have h:=rH ts (k+1) (acc++(if k>0 then ", " else "":String)++t);have l:((if k>0 then ", " else "":String):Str).length<=2:=by split<;>decide
  rw [PD,PD] at h;rw [piled_cons];show (textFrom (k+1) (acc++(if k>0 then ", " else "":String)++t) ts).length<=_;omega
mutual
theorem Ly:∀{t:T},kF t=true->(jT t).shown.length<=lenB t
 | .non,_=>by decide
 | .bl b,_=>by cases b<;>decide
 | .int i,h=>by
  have h':i.natAbs.log2<1920:=of_decide_eq_true h;exact int_text_len_1921 h'
 | .str x,_=>LF _
 | .lst xs,k=>by
  have q:=tP (xs:=xs) k;show (textFrom 0 "[" (PyData.shownAll (eF xs))++("]":Str)).length<=mG xs+3;have e1:(("[":String):Str).length=1:=rfl;have e3:(("]":String):Str).length=1:=rfl;have:=rH (PyData.shownAll (eF xs)) 0 "[";rw [PD,e3];omega
 | .tup xs,k=>by
  have q:=tP (xs:=xs) k;show (tupleText (PyData.shownAll (eF xs))).length<=mG xs+3;unfold tupleText;have e1:(("(":String):Str).length=1:=rfl;have e2:((",)":String):Str).length=2:=rfl;have e3:((")":String):Str).length=1:=rfl;have l2:(((if (PyData.shownAll (eF xs)).length==1 then ",)" else ")":String)):Str).length<=2:=by
   split
   ·rw [e2];exact LF _
   ·rw [e3];decide
  rw [PD,PD,e1]
  by_cases c:PyData.shownAll (eF xs)=[]
  ·rw [c];have:(Str.join ", " ([]:List Str)).length=0:=rfl;rw [c] at l2;omega
  ·have:=join_length_add _ c;omega
theorem tP:∀{xs:List T},tI xs=true->piled (PyData.shownAll (eF xs))<=mG xs
 | [],_=>LF _
 | x::xs,k=>by
  have k':kF x=true/\tI xs=true:=by simpa [tI] using k
  have q1:=Ly k'.1;have q2:=tP k'.2;show piled ((jT x).shown::PyData.shownAll (eF xs))<=lenB x+2+mG xs;rw [piled_cons];omega
end
section
variable {X:Cx} {pins:List (SO×Obj)} {σ:St} {H:Hp} {s:Shared} {O:SO->Prop}
mutual
theorem Nw (I:aY X pins σ H s):∀{t:T} {v:V} {u:Value},Rp X.K H O t v->bH v u->∃as,Reads s.heap u (jT t) as
 | .non,v,u,h,r=>by
  have h:v = .non:=h;subst h;cases r;exact ⟨_,.none⟩
 | .bl b,v,u,h,r=>by
  have h:v = .bl b:=h;subst h;cases r;exact ⟨_,.bool b⟩
 | .int i,v,u,h,r=>by
  have h:v = .int i:=h;subst h;obtain ⟨t,rfl⟩:=r;exact ⟨_,.int i t⟩
 | .str x,v,u,h,r=>by
  have h:v = .str x:=h;subst h;obtain ⟨t,rfl⟩:=r;exact ⟨_,.str x t⟩
 | .lst xs,v,u,h,r=>by
  obtain ⟨a,vs,rfl,sq,rs⟩:=h.sqL;cases r;obtain ⟨VI,rv,⟨o,n,ho,hc,hd,_⟩,hz⟩:=I.list sq;obtain ⟨as,ra⟩:=i7 I (xs:=xs) rs rv;exact ⟨_,.list ho (by assumption) (by assumption) (by simpa using ra)⟩
 | .tup xs,v,u,h,r=>by
  obtain ⟨a,vs,rfl,sq,rs⟩:=h.sqT;cases r;obtain ⟨VI,rv,⟨o,ho,hc,n,hd⟩,hz⟩:=I.tuple sq;obtain ⟨as,ra⟩:=i7 I (xs:=xs) rs rv;exact ⟨_,.tuple ho hc hd (by simpa using ra)⟩
theorem i7 (I:aY X pins σ H s):∀{xs:List T} {vs:List V} {us:List Value},cS X.K H O xs vs->bE vs us->∃as,ReadsAll s.heap us (eF xs) as
 | [],vs,us,h,r=>by
  have h:vs=[]:=h;subst h;cases r;exact ⟨_,.nil⟩
 | x::xs,vs,us,h,r=>by
  obtain ⟨v,ws,rfl,h1,h2⟩:=h;cases r with
  | cons r1 r2=>
   obtain ⟨as,q1⟩:=Nw I h1 r1;obtain ⟨bs,q2⟩:=i7 I h2 r2;exact ⟨_,.cons q1 q2⟩
end
end
theorem Mu {X:Cx} {pins:List (SO×Obj)} {σ:St} {H:Hp} {s:Shared} {O:SO->Prop} (I:aY X pins σ H s):∀{t:T} {v:V} {u:Value},Rt X.K H O t v->bH v u->∃as,Reads s.heap u (jT t) as
 | .non,v,u,h,r=>by
  have h:v = .non:=h;subst h;cases r;exact ⟨_,.none⟩
 | .bl b,v,u,h,r=>by
  have h:v = .bl b:=h;subst h;cases r;exact ⟨_,.bool b⟩
 | .int i,v,u,h,r=>by
  have h:v = .int i:=h;subst h;obtain ⟨t,rfl⟩:=r;exact ⟨_,.int i t⟩
 | .str x,v,u,h,r=>by
  have h:v = .str x:=h;subst h;obtain ⟨t,rfl⟩:=r;exact ⟨_,.str x t⟩
 | .lst xs,v,u,⟨a,vs,e,sq,rs⟩,r=>by
  subst e;cases r;obtain ⟨VI,rv,⟨o,n,ho,hc,hd,_⟩,hz⟩:=I.list sq;obtain ⟨as,ra⟩:=i7 I (xs:=xs) rs rv;exact ⟨_,.list ho (by assumption) (by assumption) (by simpa using ra)⟩
 | .tup xs,v,u,⟨a,vs,e,sq,rs⟩,r=>by
  subst e;cases r;obtain ⟨VI,rv,⟨o,ho,hc,n,hd⟩,hz⟩:=I.tuple sq;obtain ⟨as,ra⟩:=i7 I (xs:=xs) rs rv;exact ⟨_,.tuple ho hc hd (by simpa using ra)⟩
def S9:T->Str
 | .str z=>z
 | t=>(jT t).shown
section
variable {X:Cx} {K:W.Frag} {a b e:Expr} {es:List Expr} {pos:Pos} {Fr:FA} {Fa Fb:FE}
theorem Ob {k:Nat} (hr:dW k X.A):gM X (.type "str") (λxs H Q=>∃(v:V) (t:T) (O:SO->Prop),xs=[v]/\Rt X.K H O t v/\kF t=true/\dT t<=40/\lenB t<=10000000/\Q (.str (S9 t)) H):=by
 intro pins s σ H xs us Q I r h;obtain ⟨v,t,O,rfl,rp,h2,h3,h4,q⟩:=h;obtain ⟨u,rfl,rx⟩:=oZ r;have ref:∀a,u = .ref a->S9 t=(jT t).shown->SU (TC X.prog X.w) X.A (call (.type "str") [u]) (EP X pins σ Q) X.xe s:=λa ea es=>by
  obtain ⟨as,rd⟩:=Mu I rp rx;subst ea;refine str_of_reads rd (I0 h2) (λh=>by rw [K9 t] at h;cases h) hr.gd ?_ (λ_ _ e=>e) (λh' u tk hk=>⟨.str _,H,I.kept hk,⟨u,rfl⟩,by rw [<-es];exact q⟩) ?_
  ·have:=hr.un;have:=Ql t;omega
  ·have:=Ly h2;rw [VH];omega
 cases t with
 | str z=>
  have h:v = .str z:=rp;subst h;obtain ⟨t,rfl⟩:=rx;exact PySem.P.str_of_str ⟨.str z,H,I,⟨t,rfl⟩,q⟩
 | non=>
  have h:v = .non:=rp;subst h;cases rx;exact PySem.P.str_of_none ⟨.str _,H,I.kept (h':=s.heap) (λ_ _ e=>e),⟨_,rfl⟩,q⟩
 | bl b=>
  have h:v = .bl b:=rp;subst h;cases rx;exact PySem.P.str_of_bool ⟨.str _,H,I.kept (h':=s.heap) (λ_ _ e=>e),⟨_,rfl⟩,by cases b<;>exact q⟩
 | int i=>
  have h:v = .int i:=rp;subst h;obtain ⟨t,rfl⟩:=rx;exact PySem.P.str_of_int (of_decide_eq_true h2) ⟨.str _,H,I.kept (h':=s.heap) (λ_ _ e=>e),⟨_,rfl⟩,q⟩
 | tup ts=>
  obtain ⟨a,vs,rfl,sq,rs⟩:=rp;cases rx;exact ref a rfl rfl
 | lst ts=>
  obtain ⟨a,vs,rfl,sq,rs⟩:=rp;cases rx;exact ref a rfl rfl
def BW (Fr:FA):FE:=λE Q=>Fr E λrs E1=>match rs with
 | [x]=>o1 (vl E1 x) λt=>kF t=true/\dT t<=40/\lenB t<=10000000/\∀z,z=S9 t->Q (.p (.str z)) E1
 | _=>False
theorem Ip {k n:Nat} {p:Pos} (eK:X.K=K) (hr:dW k X.A) (hg:Gl X "str") (hm:X.mg "str" = none) (ha:QA X (e::es) (dS K n Fr)) (hs:bM (e::es)=true:=by rfl):QE X (.Call (.Name "str" p) (e::es) [] pos) (aM K (BW Fr)):=by
 subst eK;refine (kI (Ob hr) hg hm (by decide +kernel) ha (by decide) (by decide) hs).le λσ H Q hl h=>args (Fr:=Fr) h λB S E rs vs H2 Q' hS re rr hn q lk=>?_
 match rs,rr,q with
 | [x],⟨v,ws,e1,h1,h2⟩,q=>
  cases h2;subst e1;obtain ⟨t,e2,q2,q3,q4,q⟩:=o1.ex q;exact ⟨_,t,_,rfl,re.vl h1 e2,q2,q3,q4,lk _ _ _ _ _ (q _ rfl) .refl re rfl⟩
 | [],_,q=>exact q.elim
 | _::_::_,_,q=>exact q.elim
theorem R0 {k:Nat} (eK:X.K=K) (hr:dW k X.A) (ha:QE X a (aM K Fa)) (hb:QE X b (aM K Fb)) (hm:TK .In b=false):QE X (.Compare a [.In] [b] pos) (aM K (GR false Fa Fb)):=by
 subst eK;refine (yB (V9 hr) ha hb hm).le λσ H Q hl h=>two (Fa:=Fa) (Fb:=Fb) h λB S E x y v w H2 Q' hS re rx ry q lk=>?_;obtain ⟨t,u,e1,e2,q⟩:=t2.ex q;split at q
 ·rename_i xs;obtain ⟨p,vs,e3,sq,rs⟩:=re.vl ry e2;exact ⟨t,xs,p,vs,(re.vl rx e1).rq,e3,sq,rs.rq,q.1,lk _ _ _ _ _ q.2 .refl re rfl⟩
 ·exact q.elim
end
end L2
namespace L2
open PySem PySem.Spec PyProof.Rows
theorem hU {N P:List Str} {sc:TR} (a:sc.kind = .function:=by rfl) (b:sc.isCoroutine=false:=by rfl) (c:sc.isGenerator=false:=by rfl) (d:N.Nodup:=by decide +kernel) (e:N.take P.length=P:=by rfl) (f:∀x∈P,sc.names.lookup x=some .local\/sc.names.lookup x=some .cell:=by decide +kernel) (g:∀y∈sc.names,y.2≠.free:=by decide +kernel):aL N P sc:=⟨a,b,c,d,e,f,g⟩
end L2
namespace My
open PySem L2 PyProof.Rows
def top (i:Nat):TB:=PySem.Challenge.pw_sidecut_k25_rims_told.main.body.getD i (.Pass ⟨0,0,0,0⟩)
section
variable {P:SS} {w:SW} {K:W.Frag} {mg:Str->Option Value} {base:Heap}
structure Bx (xs:List T) (n:Int):Prop where
 ex:∃A B c:Int,xs=[.int A,.int B,.int c]/\0<=A/\0<=B/\B<2147483647/\0<=c/\c<=n
theorem Bx.mono {xs:List T} {n m:Int} (b:Bx xs n) (h:n<=m):Bx xs m:=let ⟨A,B,c,h1,h2,h3,h4,h5,h6⟩:=b;⟨A,B,c,h1,h2,h3,h4,h5,by omega⟩
def J2:iC:=λas Q=>∃(xs:List T) (m n:Int),as=[.b xs,.v (.int m)]/\Bx xs n/\n<=1000000/\1<=m/\m<2^200/\∀r ys,0<=r->r<m->Bx ys (n+1)->Q (.v (.int r)) ys
abbrev oW (P w K mg base):=Fn P w K mg base 1 "_law_take" ["_law_box_here","_law_many"] (aU K J2)
abbrev Hj:TB:=top 40
theorem z9:aL ["_law_box_here","_law_many","_law_once","_law_found"] ["_law_box_here","_law_many"] (aG Hj):=hU
theorem C2 {f:SO} {fd:SR} (F:eM K "_law_take" "_law_take" Hj f fd) (TX:Txt mg)    : bF P w K mg base e9 1 f fd ["_law_box_here","_law_many"] (aU K J2):=by
 refine F.okT z9 ?len (λVS A outer s H E hr=>(aE (cU (cX wO (aF rfl (fv 0) aB (λ_ _=>rfl)) aB (aR _)) (aE (iY (Ny rfl TX.n_divmod (fc (aF rfl (fv 0) aB (λ_ _=>rfl)) (fc (fv 1) aA))) (bV (n:=2) rfl rfl (aJ (Gg (fv 0) aB) (aJ (aI (i:=3) z9.nd rfl (LA rfl)) bK))))
 (aH (aQ (fv 3)))) bY)
 (aE (iY (aZ bZ (aF rfl (fv 0) aB (λ_ _=>rfl)) aB) (Gg (fv 0) aB))
 (aE (aX (i:=2) z9.nd rfl (LA rfl) (aN kW (aN Rb (aZ bZ (aF rfl (fv 0) aB (λ_ _=>rfl)) (aN aT aB (aF rfl (fv 0) aB (λ_ _=>rfl)))) aB) aB))
 (aH (aQ (aN kW (aN dH (aN kW (aZ bZ (aN aT (fv 2) aB) (aN aT (aN aT (aF rfl (fv 0) aB (λ_ _=>rfl)) (aF rfl (fv 0) aB (λ_ _=>rfl))) aB)) aB) aB) (fv 1)))))))) ?rd
 case len=>rintro as Q ⟨xs,m,n,rfl,_⟩;rfl
 case rd=>
  rintro as Q ⟨xs,m,n,rfl,⟨A,B,c,rfl,hA,hB,hB2,hc,hcn⟩,hn,h1,h2,k⟩;show if decide (0<A)=true then _ else _
  by_cases hA0:0<A
  ·rw [decide_eq_true hA0,if_pos rfl];refine ⟨⟨by omega,h2⟩,⟨rfl,k _ _ (RY _ (by omega)) (RG _ (by omega)) ⟨_,_,_,rfl,Int.ediv_nonneg hA (by omega),hB,hB2,hc,by omega⟩⟩⟩
  ·rw [decide_eq_false hA0,if_neg (by decide)];have p5:Z0 (B+39373*(c+1)) 5:=⟨by decide,by decide,by omega⟩;have d64:qY (((B+39373*(c+1))^(5:Int).toNat%2147483647*48271+(c+1)*(c+1)*7919)%2147483629) 64:=⟨by decide,LO (show (64:Int).natAbs<2^7 by decide) (NO (by decide) (by decide))⟩;refine ⟨vP (by decide),p5,(by show (0:Int)<2147483647;decide),?_⟩;refine ⟨yM (by decide),vP (by omega),yM (by decide),?_⟩;refine ⟨(by show (0:Int)<2147483629;decide),d64,(by show (0:Int)<m;omega),⟨rfl,?_⟩⟩;exact k _ _ (RY _ (by omega)) (RG _ (by omega)) ⟨_,_,_,rfl,hA,hB,hB2,by omega,by omega⟩
def bI (ns:List Int):List T:=ns.map T.int
theorem Tu {ns:List Int} {k:Int} (h0:0<=k) (h1:k<(ns.length:Int)):∃z,gN (bI ns) k=some (.int z):=by
 have hk:k.toNat<ns.length:=by omega
 refine ⟨ns[k.toNat],?_⟩;have e3:k=((k.toNat:Nat):Int):=by omega
 have z:=r8 (xs:=bI ns) (j:=k.toNat) (v:=T.int ns[k.toNat]) (by rw [bI,LK,KS hk];rfl);rw [<-e3] at z;exact z
def Qu:iC:=λas Q=>∃(ns:List Int) (k:Int),as=[.v (.lst (bI ns)),.v (.int k)]/\0<=k/\k<=1000/\∀xs,Bx xs 0->dN xs=true->Q (.l xs) []
def Wn:iC:=λas Q=>∃(n d:Int),as=[.v (.int n),.v (.int d)]/\d≠0/\d.natAbs<2^8000/\Q (.v (fr (low n d))) []
theorem pL {i:Int} {n d:Int} (hd:d≠0) (hb:d.natAbs<2^8000):qY i ((MN n.natAbs d.natAbs:Nat):Int):=by
 have h1:0<MN n.natAbs d.natAbs:=OV _ (by omega);have h2:MN n.natAbs d.natAbs<=d.natAbs:=Nat.gcd_le_right _ (by omega);exact ⟨by omega,MF (by omega) hb⟩
theorem pK (i:Int) (n:Nat):i.fdiv (n:Int)=i/(n:Int):=OM _ (by omega)
def Jz:iC:=λas Q=>∃(n d:Int),as=[.v (.int n),.v (.int d)]/\Q (.v (.int ((MN n.natAbs d.natAbs:Nat):Int))) []
abbrev eC (P w K mg base):=Fn P w K mg base 1 "common_divisor" ["one","other"] (aU K Jz)
abbrev gX:TB:=top 1
theorem gC:aL ["one","other"] ["one","other"] (aG gX):=hU
theorem pH {f:SO} {fd:SR} (F:eM K "common_divisor" "common_divisor" gX f fd) (TX:Txt mg)    : bF P w K mg base e9 1 f fd ["one","other"] (aU K Jz):=by
 refine F.okT gC ?len (λVS A outer s H E hr=>(aE (gY (i:=0) (j:=1) rfl gC.nd rfl rfl (by decide) rfl rfl (fc (qG rfl TX.n_abs (fc (fv 0) aA)) (fc (qG rfl TX.n_abs (fc (fv 1) aA)) aA)) rfl)
 (aE (Df PassesOwn.never (i6 rfl hr (fv 1) aB (aR _)) (aH (gY (i:=0) (j:=1) rfl gC.nd rfl rfl (by decide) rfl rfl (fc (fv 1) (fc (aN kW (fv 0) (fv 1)) aA)) rfl)))
 (aH (aQ (fv 0)))))) ?rd
 case len=>rintro as Q ⟨n,d,rfl,_⟩;rfl
 case rd=>
  rintro as Q ⟨n,d,rfl,q⟩;refine ⟨λm E=>∃x y:Nat,E=[some (.p (.int x)),some (.p (.int y))]/\m=y/\MN x y=MN n.natAbs d.natAbs,⟨_,_,_,rfl,rfl,rfl⟩,?_⟩;rintro m E ⟨x,y,rfl,rfl,hg⟩;refine ⟨MJ _,?_⟩;show if (!((m:Int)==0))=true then _ else _
  by_cases hy:m=0
  ·subst hy;rw [if_neg (by decide)];rw [Nat.gcd_zero_right] at hg;subst hg;exact ⟨rfl,q⟩
  ·rw [if_pos (by simpa using hy)];exact ⟨(by show (0:Int)<(m:Int);omega),x%m,PM _ (by omega),m,x%m,rfl,rfl,by rw [Dx];exact hg⟩
abbrev fX (P w K mg base):=Fn P w K mg base 2 "fraction" ["n","d"] (aU K Wn)
abbrev oB:TB:=top 2
theorem lT:aL ["n","d","divisor"] ["n","d"] (aG oB):=hU
theorem Ct {f:SO} {fd:SR} (F:eM K "fraction" "fraction" oB f fd) (TX:Txt mg) (VJ:eC P w K mg base)   : bF P w K mg base e9 2 f fd ["n","d"] (aU K Wn):=by
 refine F.okT lT ?len (λVS A outer s H E hr=>(aE (Nr (i6 rfl hr (fv 1) aB (aR _)))
 (aE (aX (i:=2) lT.nd rfl (LA rfl) (aC VJ hr (by omega) rfl (fc (fv 0) (fc (fv 1) aA))))
 (aE (cU (cX fW (fv 1) aB (aR _)) (aH (aX (i:=2) lT.nd rfl (LA rfl) (qA (fv 2)))) bY)
 (aH (aQ (aO (fc (aN dH (fv 0) (fv 2)) (fc (aN dH (fv 1) (fv 2)) aA))))))))) ?rd
 case len=>rintro as Q ⟨n,d,rfl,_⟩;rfl
 case rd=>
  rintro as Q ⟨n,d,rfl,hd,hb,q⟩;have fo:(!(d==0))=true:=by simpa using hd
  refine ⟨MJ _,fo,n,d,rfl,?_⟩;have dn:((MN n.natAbs d.natAbs:Nat):Int)∣n:=MP.mpr (NT _ _);have dd:((MN n.natAbs d.natAbs:Nat):Int)∣d:=MP.mpr (NX _ _);have g0:((MN n.natAbs d.natAbs:Nat):Int)≠0:=(pL (i:=0) (n:=n) hd hb).1;have yK:∀{g m:Int},g≠0->g∣m->m.fdiv (-g)=(-m)/g:=λ{g m} h0 hm=>by
   obtain ⟨k,rfl⟩:=hm;have e1:g*k=(-g)*(-k):=by grind
   have e2:-(g*k)=g*(-k):=by grind
   rw [e2,NL _ h0,e1,RO _ (by omega)]
  show if decide (d<0)=true then _ else _
  by_cases h:d<0
  ·rw [decide_eq_true h,if_pos rfl];have cz:∀i:Int,qY i (-((MN n.natAbs d.natAbs:Nat):Int)):=λi=>⟨by omega,by rw [OQ];exact (pL (i:=i) (n:=n) hd hb).2⟩;refine ⟨cz _,cz _,rfl,?_⟩;unfold low rL mZ at q;rw [if_neg (by omega),if_neg (by omega),<-yK g0 dn,<-yK g0 dd] at q;exact q
  ·rw [decide_eq_false h,if_neg (by decide)];refine ⟨pL hd hb,pL hd hb,rfl,?_⟩;unfold low rL mZ at q;rw [if_pos (by omega),if_pos (by omega),<-pK,<-pK] at q;exact q
end
end My
namespace My
open PySem L2 PyProof.Rows
section
variable {P:SS} {w:SW} {K:W.Frag} {mg:Str->Option Value} {base:Heap}
theorem pl {x e f:Nat} (h:x<2^e) (k:e<=f):x<2^f:=LO h (NO (by decide) k)
def rR (op:Fr->Fr->Fr):iC:=λas Q=>∃x y:Fr,as=[.v (fr x),.v (fr y)]/\cF x/\cF y/\sz x+sz y<=7900/\Q (.v (fr (op x y))) []
abbrev Az (P w K mg base):=Fn P w K mg base 3 "added" ["one","other"] (aU K (rR lK))
abbrev yL:TB:=top 3
theorem Vk:aL ["one","other"] ["one","other"] (aG yL):=hU
theorem Vl {f:SO} {fd:SR} (F:eM K "added" "added" yL f fd) (TX:Txt mg) (VM:fX P w K mg base)   : bF P w K mg base e9 3 f fd ["one","other"] (aU K (rR lK)):=by
 refine F.okT Vk ?len (λVS A outer s H E hr=>(aH (aQ (aC VM hr (by omega) rfl (fc (aZ bZ (aN aT (aF rfl (fv 0) aB (λ_ _=>rfl)) (aF rfl (fv 1) aB (λ_ _=>rfl))) (aN aT (aF rfl (fv 1) aB (λ_ _=>rfl)) (aF rfl (fv 0) aB (λ_ _=>rfl)))) (fc (aN aT (aF rfl (fv 0) aB (λ_ _=>rfl)) (aF rfl (fv 1) aB (λ_ _=>rfl))) aA)))))) ?rd
 case len=>rintro as Q ⟨x,y,rfl,_⟩;rfl
 case rd=>
  rintro as Q ⟨x,y,rfl,hx,hy,hs,q⟩;have hd:(x.2*y.2).natAbs<2^8000:=nG (bJ (bX x) (bX y)) (by omega);exact ⟨eV (e:=7900) (pl (e8 x) (by omega)) (pl (bX y) (by omega)) (by decide),eV (e:=7900) (pl (e8 y) (by omega)) (pl (bX x) (by omega)) (by decide),eV (e:=7900) (pl (bX x) (by omega)) (pl (bX y) (by omega)) (by decide),_,_,rfl,fP hx hy,hd,rfl,q⟩
abbrev uE (P w K mg base):=Fn P w K mg base 3 "taken" ["one","other"] (aU K (rR bO))
abbrev zG:TB:=top 4
theorem Ts:aL ["one","other"] ["one","other"] (aG zG):=hU
theorem Qk {f:SO} {fd:SR} (F:eM K "taken" "taken" zG f fd) (TX:Txt mg) (VM:fX P w K mg base)   : bF P w K mg base e9 3 f fd ["one","other"] (aU K (rR bO)):=by
 refine F.okT Ts ?len (λVS A outer s H E hr=>(aH (aQ (aC VM hr (by omega) rfl (fc (aZ gK (aN aT (aF rfl (fv 0) aB (λ_ _=>rfl)) (aF rfl (fv 1) aB (λ_ _=>rfl))) (aN aT (aF rfl (fv 1) aB (λ_ _=>rfl)) (aF rfl (fv 0) aB (λ_ _=>rfl)))) (fc (aN aT (aF rfl (fv 0) aB (λ_ _=>rfl)) (aF rfl (fv 1) aB (λ_ _=>rfl))) aA)))))) ?rd
 case len=>rintro as Q ⟨x,y,rfl,_⟩;rfl
 case rd=>
  rintro as Q ⟨x,y,rfl,hx,hy,hs,q⟩;have hd:(x.2*y.2).natAbs<2^8000:=nG (bJ (bX x) (bX y)) (by omega);exact ⟨eV (e:=7900) (pl (e8 x) (by omega)) (pl (bX y) (by omega)) (by decide),eV (e:=7900) (pl (e8 y) (by omega)) (pl (bX x) (by omega)) (by decide),eV (e:=7900) (pl (bX x) (by omega)) (pl (bX y) (by omega)) (by decide),_,_,rfl,fP hx hy,hd,rfl,q⟩
abbrev Cb (P w K mg base):=Fn P w K mg base 3 "times" ["one","other"] (aU K (rR jV))
abbrev z7:TB:=top 5
theorem Tw:aL ["one","other"] ["one","other"] (aG z7):=hU
theorem Qm {f:SO} {fd:SR} (F:eM K "times" "times" z7 f fd) (TX:Txt mg) (VM:fX P w K mg base)   : bF P w K mg base e9 3 f fd ["one","other"] (aU K (rR jV)):=by
 refine F.okT Tw ?len (λVS A outer s H E hr=>(aH (aQ (aC VM hr (by omega) rfl (fc (aN aT (aF rfl (fv 0) aB (λ_ _=>rfl)) (aF rfl (fv 1) aB (λ_ _=>rfl))) (fc (aN aT (aF rfl (fv 0) aB (λ_ _=>rfl)) (aF rfl (fv 1) aB (λ_ _=>rfl))) aA)))))) ?rd
 case len=>rintro as Q ⟨x,y,rfl,_⟩;rfl
 case rd=>
  rintro as Q ⟨x,y,rfl,hx,hy,hs,q⟩;have hd:(x.2*y.2).natAbs<2^8000:=nG (bJ (bX x) (bX y)) (by omega);exact ⟨eV (e:=7900) (pl (e8 x) (by omega)) (pl (e8 y) (by omega)) (by decide),eV (e:=7900) (pl (bX x) (by omega)) (pl (bX y) (by omega)) (by decide),_,_,rfl,fP hx hy,hd,rfl,q⟩
def vK (x y x' y':Fr):Fr:=lK (jV x x') (jV y y')
def fZ (x y x' y':Fr):Fr:=bO (jV x y') (jV y x')
structure Nv (a b:Fr) (e:Nat):Prop where
 x:cF a
 y:cF b
 sx:sz a<=e
 sy:sz b<=e
def FQ (op:Fr->Fr->Fr->Fr->Fr):iC:=λas Q=>∃(x y x' y':Fr) (e f:Nat),as=[.v (vc x y),.v (vc x' y')]/\Nv x y e/\Nv x' y' f/\e+f<=3900/\Q (.v (fr (op x y x' y'))) []
theorem eZ {a b:Nat} (h:Nat.ble a b=true):a<=b:=Nat.le_of_ble_eq_true h
theorem Za {x y c s:Fr} {e f:Nat} (h:Nv x y e) (k:Nv c s f):cF (vK x y c s):=gL (bG h.x k.x) (bG h.y k.y)
theorem Mg {x y c s:Fr} {e f:Nat} (h:Nv x y e) (k:Nv c s f):cF (fZ x y c s):=cJ (bG h.x k.y) (bG h.y k.x)
theorem Nv.up {x y:Fr} {e f:Nat} (h:Nv x y e) (k:e<=f):Nv x y f:=⟨h.x,h.y,MG h.sx k,MG h.sy k⟩
theorem oH (n:Int):val (n,1)=(n:Rat):=by
 show (n:Rat)/((1:Int):Rat)=n
 push_cast
 grind
theorem iZ:val (1,1)=1:=by rw [oH];rfl
theorem iX:val (0,1)=0:=by rw [oH];rfl
def K6:iC:=λas Q=>∃x y:Fr,as=[.v (fr x),.v (fr y)]/\cF x/\cF y/\y.1≠0/\sz x+sz y<=7900/\Q (.v (fr (tJ x y))) []
abbrev Le (P w K mg base):=Fn P w K mg base 3 "over" ["one","other"] (aU K K6)
abbrev Gk:TB:=top 6
theorem Wu:aL ["one","other"] ["one","other"] (aG Gk):=hU
theorem Ws {f:SO} {fd:SR} (F:eM K "over" "over" Gk f fd) (TX:Txt mg) (VM:fX P w K mg base)   : bF P w K mg base e9 3 f fd ["one","other"] (aU K K6):=by
 refine F.okT Wu ?len (λVS A outer s H E hr=>(aH (aQ (aC VM hr (by omega) rfl (fc (aN aT (aF rfl (fv 0) aB (λ_ _=>rfl)) (aF rfl (fv 1) aB (λ_ _=>rfl))) (fc (aN aT (aF rfl (fv 0) aB (λ_ _=>rfl)) (aF rfl (fv 1) aB (λ_ _=>rfl))) aA)))))) ?rd
 case len=>rintro as Q ⟨x,y,rfl,_⟩;rfl
 case rd=>
  rintro as Q ⟨x,y,rfl,hx,hy,h0,hs,q⟩;have hd:(x.2*y.1).natAbs<2^8000:=nG (bJ (bX x) (e8 y)) (by omega);exact ⟨eV (e:=7900) (pl (e8 x) (by omega)) (pl (bX y) (by omega)) (by decide),eV (e:=7900) (pl (bX x) (by omega)) (pl (e8 y) (by omega)) (by decide),_,_,rfl,PB hx.ne h0,hd,rfl,q⟩
theorem Qi {p:Fr} (h:cF p):val p*(p.2:Rat)=(p.1:Rat):=by have:=h.neR;unfold val;grind
theorem AL {p:Fr} (h:cF p):(0:Rat)<(p.2:Rat):=by have:=h.d;exact_mod_cast (show (0:Int)<p.2 by omega)
theorem jE {p:Fr} (h:cF p):0<=val p↔0<=p.1:=by
 have e:=Qi h;have d:=AL h;constructor
 ·intro k;have:=Rat.mul_nonneg k (Rat.le_of_lt d);rw [e] at this
  exact_mod_cast this
 ·intro k;have k':(0:Rat)<=(p.1:Rat):=by exact_mod_cast k
  rcases Rat.le_total (a:=0) (b:=val p) with c | c
  ·exact c
  ·by_cases z:val p=0
   ·grind
   ·have:=Rat.mul_pos (a:=-val p) (b:=p.2) (by grind) d;grind
theorem Uu {p:Fr} (h:cF p):val p<=0↔p.1<=0:=by
 have:=jE (Wm h);rw [Zz h] at this;have e:(yK p).1 = -p.1:=rfl;rw [e] at this;constructor
 ·intro k;have:=this.1 (by grind);omega
 ·intro k;have:=this.2 (by omega);grind
theorem xY {p:Fr} (h:cF p):val p<0↔p.1<0:=by
 have:=jE h;constructor
 ·intro k;exact Int.not_le.mp λc=>by have:=this.2 c;grind
 ·intro k;exact Rat.not_le.mp λc=>by have:=this.1 c;omega
theorem uP {p:Fr} (h:cF p):0<val p↔0<p.1:=by
 have:=Uu h;constructor
 ·intro k;exact Int.not_le.mp λc=>by have:=this.2 c;grind
 ·intro k;exact Rat.not_le.mp λc=>by have:=this.1 c;omega
theorem pP {lo:Int} {n i:Nat} {t:L2.T} (h:(kP lo n)[i]? = some t):i<n/\t = .int (lo+(i:Int)):=by
 unfold kP at h;rw [LK] at h;rcases NZ i n with c | c
 ·rw [PR c] at h;cases h;exact ⟨c,rfl⟩
 ·rw [OD (by simpa using c)] at h;cases h
theorem dE {z k:Rat} (hk:0<k) (h:0<z*k):0<z:=by
 rcases Rat.le_total (a:=z) (b:=0) with c | c
 ·have:=Rat.mul_nonneg (a:=-z) (b:=k) (by grind) (Rat.le_of_lt hk);grind
 ·by_cases e:z=0
  ·rw [e] at h;grind
  ·grind
theorem bL {z k:Rat} (hk:0<k) (h:0<=z*k):0<=z:=by
 rcases Rat.le_total (a:=z) (b:=0) with c | c
 ·by_cases e:z=0
  ·grind
  ·have:=Rat.mul_pos (a:=-z) (b:=k) (by grind) hk;grind
 ·exact c
end
end My
namespace My
open PySem L2 PyProof.Rows
section
variable {P:SS} {w:SW} {K:W.Frag} {mg:Str->Option Value} {base:Heap}
abbrev Ta (P w K mg base):=Fn P w K mg base 1 "_law_box" ["_law_script","_law_k"] (aU K Qu)
abbrev Pw:TB:=top 39
theorem Hu:aL ["_law_script","_law_k","_law_cell"] ["_law_script","_law_k"] (aG Pw):=hU
theorem U4 {f:SO} {fd:SR} (F:eM K "_law_box" "_law_box" Pw f fd) (TX:Txt mg)    : bF P w K mg base e9 1 f fd ["_law_script","_law_k"] (aU K Qu):=by
 refine F.okT Hu ?len (λVS A outer s H E hr=>(aE (aX (i:=2) Hu.nd rfl (LA rfl) aB)
 (aE (cU (cX fW (fv 1) (fT rfl rfl TX.n_len (fc (fv 0) aA)) (aR _)) (aH (aX (i:=2) Hu.nd rfl (LA rfl) (aF rfl (fv 0) (fv 1) (λ_ _=>rfl)))) bY)
 (aH (aQ (bN (fc (aN aT (qG rfl TX.n_abs (fc (fv 2) aA)) (Wr rfl TX.n_int (fc (Cf Bf (qG rfl TX.n_abs (fc (fv 2) aA)) (aN Rb aB aB) (aR _)) aA))) (fc (aN kW (aZ bZ (fv 2) (aN aT (aN aT aB (fv 1)) (fv 1))) aB) (fc aB aA))))))))) ?rd
 case len=>rintro as Q ⟨ns,k,rfl,_⟩;rfl
 case rd=>
  rintro as Q ⟨ns,k,rfl,h0,h1,q⟩;have p10:Z0 10 18:=⟨by decide,by decide,by decide⟩;have bx:∀z:Int,Bx [.int ((z.natAbs:Int)*(if decide ((10:Int)^(18:Int).toNat<=(z.natAbs:Int))=true then 1 else 0)),.int ((z+7919*k*k)%2147483647),.int 0] 0:=λz=>
   ⟨_,_,_,rfl,Int.mul_nonneg (by omega) (by split<;>decide),RY _ (by decide),RG _ (by decide),by decide,by decide⟩
  have k2:(7919*k).natAbs<2^60:=by omega
  have one:∀z:Int,(if decide ((10:Int)^(18:Int).toNat<=(z.natAbs:Int))=true then (1:Int) else 0).natAbs<2^60:=λz=>by split<;>decide
  have pm:(λ(_ j:Int)=>0<j) 0 2147483647:=by show (0:Int)<2147483647;decide
  show if decide (k<((bI ns).length:Int))=true then _ else _
  by_cases hk:k<((bI ns).length:Int)
  ·rw [decide_eq_true hk,if_pos rfl];obtain ⟨z,hz⟩:=Tu (ns:=ns) h0 (by simpa [bI] using hk);show o1 (gN (bI ns) k) _;rw [hz];exact ⟨p10,yM (one z),vP (by decide),vP k2,pm,⟨rfl,q _ (bx z) rfl⟩⟩
  ·rw [decide_eq_false hk,if_neg (by decide)];exact ⟨p10,yM (one 0),vP (by decide),vP k2,pm,⟨rfl,q _ (bx 0) rfl⟩⟩
theorem Yu (ns:List Int) (m:Nat):iN (bI ns) none (some (m:Int))=bI (ns.take m):=by
 unfold iN bI;rw [HT.sIx_none,HT.sIx_nat,RB,Nat.sub_zero,QL];rcases Nat.le_total m (ns.map T.int).length with h | h
 ·rw [QV h]
 ·rw [Nat.min_eq_right h,NC (LF _),NC h]
theorem Ug {xs:List T} {lo hi:Option Int} {y:T} (h:y∈iN xs lo hi):y∈xs:=List.mem_of_mem_drop (NW h)
theorem Vf (xs:List T) (m k:Nat):(iN xs (some (m:Int)) (some (k:Int))).length<=xs.length-m:=by
 unfold iN;rw [HT.sIx_nat,HT.sIx_nat,MA,PK];omega
theorem Yr {xs:List T} {i:Nat} {x:T} (h:(xs.zipIdx.map λq=>T.tup [.int (q.2:Int),q.1])[i]? = some x):∃y,xs[i]? = some y/\x = .tup [.int (i:Int),y]:=by
 rw [LK] at h;cases q:xs.zipIdx[i]? with
 | none=>rw [q] at h;cases h
 | some z=>
  rw [q] at h;cases h;obtain ⟨q1,q2⟩:=KU.mp q;rw [List.getElem_zipIdx] at q2;subst q2;exact ⟨_,KS (by simpa using q1),by simp⟩
end
end My
namespace My
open PySem L2 PyProof.Rows
section
variable {P:SS} {w:SW} {K:W.Frag} {mg:Str->Option Value} {base:Heap}
theorem Cc:∀ns:List Int,dN (bI ns)=true
 | []=>rfl
 | _::ns=>by simp [bI,dN,noL];exact Cc ns
def Lh:iC:=λas Q=>∃(ns:List Int) (m:Nat),as=[.v (.lst (bI ns)),.v (.int (m:Int))]/\ns.length<=63/\2<=m/\m<=63/\∀cs:List Int,cs.length<=m->Q (.l (bI cs)) []
abbrev xG (P w K mg base):=Fn P w K mg base 1 "_law_folded" ["_law_script","_law_many"] (aU K Lh)
abbrev tQ:TB:=top 41
theorem mN:aL ["_law_script","_law_many","_law_cells","_law_k","_law_cell"] ["_law_script","_law_many"] (aG tQ):=hU
theorem Nf {f:SO} {fd:SR} (F:eM K "_law_folded" "_law_folded" tQ f fd) (TX:Txt mg)    : bF P w K mg base e9 1 f fd ["_law_script","_law_many"] (aU K Lh):=by
 refine F.okT mN ?len (λVS A outer s H E hr=>(aE (aX (i:=2) mN.nd rfl (LA rfl) (Nx rfl rfl TX.n_list (fc (iU rfl (fv 0) gJ (eQ (fv 1))) aA)))
 (aE (dY PassesOwn.never rfl (mK rfl rfl TX.n_enumerate (fc (iU rfl (fv 0) (eQ (fv 1)) (eQ aB)) aA)) (bV (n:=2) rfl rfl (aJ (aI (i:=3) mN.nd rfl (LA rfl)) (aJ (aI (i:=4) mN.nd rfl (LA rfl)) bK)))
  (aH (iY (aZ bZ (aF rfl (fv 2) (aN kW (fv 3) (fv 1)) (λ_ _=>rfl)) (aN aT (fv 4) (aZ bZ (fv 3) aB))) (Gg (fv 2) (aN kW (fv 3) (fv 1))))))
 (aH (aQ (fv 2)))))) ?rd
 case len=>rintro as Q ⟨ns,m,rfl,_⟩;rfl
 case rd=>
  rintro as Q ⟨ns,m,rfl,hl,hm2,hm,q⟩;refine iS (λi E=>∃(cs:List Int) (v3 v4:Option U),E=[some (.p (.lst (bI ns))),some (.p (.int (m:Int))),some (.o false (bI cs)),v3,v4]/\cs.length=(ns.take m).length)
   ⟨ns.take m,none,none,by rw [<-Yu],rfl⟩ ?_ ?_
  ·rintro i x rest E hi ⟨cs,v3,v4,rfl,hc⟩ K;obtain ⟨y,hy,rfl⟩:=Yr hi;obtain ⟨z,rfl⟩:∃z,y=T.int z:=by
    obtain ⟨z,_,e⟩:=KY.mp (Ug (KZ hy));exact ⟨z,e.symm⟩
   have aEQ:i<ns.length-m:=by
    have h1:=(KU.mp hy).1;have h2:=Vf (bI ns) m 63;simp [bI] at h2;exact LO h1 h2
   have hcl:cs.length=m:=by rw [hc,MA];omega
   have em:((i:Int)%(m:Int))=((i%m:Nat):Int):=rfl;have hj:i%m<cs.length:=by rw [hcl];exact PM _ (by omega)
   have cy:gN (bI cs) ((i:Int)%(m:Int))=some (T.int cs[i%m]):=by
    rw [em];exact r8 (by rw [bI,LK,KS hj];rfl)
   have hix:Ah (bI cs).length ((i:Int)%(m:Int))=some (i%m):=by
    rw [em];unfold Ah;rw [if_pos (by omega),if_pos (by simp [bI];omega),NJ]
   have hmp:(λ(_ j:Int)=>0<j) (i:Int) (m:Int):=by show (0:Int)<(m:Int);omega
   refine ⟨hmp,?_⟩;show o1 (gN (bI cs) ((i:Int)%(m:Int))) _;rw [cy];refine ⟨yM (by omega),hmp,?_⟩;show o1 (Ah (bI cs).length ((i:Int)%(m:Int))) _;rw [hix];have e:bI (cs.set (i%m) (cs[i%m]+z*((i:Int)+2)))=(bI cs).set (i%m) (.int (cs[i%m]+z*((i:Int)+2))):=by rw [bI,bI,List.map_set]
   exact K _ ⟨cs.set (i%m) (cs[i%m]+z*((i:Int)+2)),some (.p (.int (i:Int))),some (.p (.int z)),by rw [e];rfl,by rw [RX];exact hc⟩
  ·rintro E ⟨cs,v3,v4,rfl,hc⟩;have hcm:cs.length<=m:=by rw [hc,MA];omega
   exact ⟨Cc _,q cs hcm⟩
end
end My
namespace My
open PySem L2 PyProof.Rows
section
variable {P:SS} {w:SW} {K:W.Frag} {mg:Str->Option Value} {base:Heap}
def eS (x y:Fr):Int:=if x.1*y.2<y.1*x.2 then -1 else if y.1*x.2<x.1*y.2 then 1 else 0
def wZ:iC:=λas Q=>∃x y:Fr,as=[.v (fr x),.v (fr y)]/\sz x+sz y<=7900/\Q (.v (.int (eS x y))) []
abbrev h9 (P w K mg base):=Fn P w K mg base 1 "compared" ["one","other"] (aU K wZ)
abbrev nY:TB:=top 7
theorem mJ:aL ["one","other","first","second"] ["one","other"] (aG nY):=hU
theorem Bi {f:SO} {fd:SR} (F:eM K "compared" "compared" nY f fd) (TX:Txt mg)    : bF P w K mg base e9 1 f fd ["one","other"] (aU K wZ):=by
 refine F.okT mJ ?len (λVS A outer s H E hr=>(aE (aX (i:=2) mJ.nd rfl (LA rfl) (aN aT (aF rfl (fv 0) aB (λ_ _=>rfl)) (aF rfl (fv 1) aB (λ_ _=>rfl))))
 (aE (aX (i:=3) mJ.nd rfl (LA rfl) (aN aT (aF rfl (fv 1) aB (λ_ _=>rfl)) (aF rfl (fv 0) aB (λ_ _=>rfl))))
 (aE (cU (cX fW (fv 2) (fv 3) (aR _)) (aH (aQ (qA aB))) bY)
 (aE (cU (cX wO (fv 2) (fv 3) (aR _)) (aH (aQ aB)) bY)
 (aH (aQ aB))))))) ?rd
 case len=>rintro as Q ⟨x,y,rfl,_⟩;rfl
 case rd=>
  rintro as Q ⟨x,y,rfl,hs,q⟩;refine ⟨eV (e:=7900) (pl (e8 x) (by omega)) (pl (bX y) (by omega)) (by decide),eV (e:=7900) (pl (e8 y) (by omega)) (pl (bX x) (by omega)) (by decide),?_⟩;unfold eS at q;show if decide (x.1*y.2<y.1*x.2)=true then _ else _
  by_cases h:x.1*y.2<y.1*x.2
  ·rw [decide_eq_true h,if_pos rfl];rw [if_pos h] at q;exact ⟨rfl,q⟩
  ·rw [decide_eq_false h,if_neg (by decide)];rw [if_neg h] at q;show if decide (y.1*x.2<x.1*y.2)=true then _ else _
   by_cases k:y.1*x.2<x.1*y.2
   ·rw [decide_eq_true k,if_pos rfl];rw [if_pos k] at q;exact ⟨rfl,q⟩
   ·rw [decide_eq_false k,if_neg (by decide)];rw [if_neg k] at q;exact ⟨rfl,q⟩
def sF:iC:=λas Q=>∃(x y b:Fr) (e:Nat),as=[.v (vc x y),.v (fr b)]/\Nv x y e/\cF b/\e+sz b<=7900/\Q (.v (vc (jV x b) (jV y b))) []
abbrev xF (P w K mg base):=Fn P w K mg base 4 "scaled" ["vector","by"] (aU K sF)
abbrev tN:TB:=top 11
theorem Nt:aL ["vector","by"] ["vector","by"] (aG tN):=hU
theorem Oy {f:SO} {fd:SR} (F:eM K "scaled" "scaled" tN f fd) (TX:Txt mg) (YG:Cb P w K mg base)   : bF P w K mg base e9 4 f fd ["vector","by"] (aU K sF):=by
 refine F.okT Nt ?len (λVS A outer s H E hr=>(aH (aQ (aO (fc (aC YG hr (by omega) rfl (fc (aF rfl (fv 0) aB (λ_ _=>rfl)) (fc (fv 1) aA))) (fc (aC YG hr (by omega) rfl (fc (aF rfl (fv 0) aB (λ_ _=>rfl)) (fc (fv 1) aA))) aA)))))) ?rd
 case len=>rintro as Q ⟨x,y,b,e,rfl,_⟩;rfl
 case rd=>
  rintro as Q ⟨x,y,b,e,rfl,h,hb,hs,q⟩;have:=h.sx;have:=h.sy;exact ⟨_,_,rfl,h.x,hb,by omega,_,_,rfl,h.y,hb,by omega,rfl,q⟩
def Ka:iC:=λas Q=>∃(x y p q:Fr) (e f:Nat),as=[.v (vc x y),.v (vc p q)]/\Nv x y e/\Nv p q f/\e+f<=7000/\Q (.v (vc (lK x p) (lK y q))) []
abbrev Iv (P w K mg base):=Fn P w K mg base 4 "plus" ["one","other"] (aU K Ka)
abbrev Gx:TB:=top 9
theorem Zy:aL ["one","other"] ["one","other"] (aG Gx):=hU
theorem Zf {f:SO} {fd:SR} (F:eM K "plus" "plus" Gx f fd) (TX:Txt mg) (YH:Az P w K mg base)   : bF P w K mg base e9 4 f fd ["one","other"] (aU K Ka):=by
 refine F.okT Zy ?len (λVS A outer s H E hr=>(aH (aQ (aO (fc (aC YH hr (by omega) rfl (fc (aF rfl (fv 0) aB (λ_ _=>rfl)) (fc (aF rfl (fv 1) aB (λ_ _=>rfl)) aA))) (fc (aC YH hr (by omega) rfl (fc (aF rfl (fv 0) aB (λ_ _=>rfl)) (fc (aF rfl (fv 1) aB (λ_ _=>rfl)) aA))) aA)))))) ?rd
 case len=>rintro as Q ⟨x,y,p,q,e,f,rfl,_⟩;rfl
 case rd=>
  rintro as Q ⟨x,y,p,q,e,f,rfl,h,k,hs,z⟩;have:=h.sx;have:=h.sy;have:=k.sx;have:=k.sy;exact ⟨_,_,rfl,h.x,k.x,by omega,_,_,rfl,h.y,k.y,by omega,rfl,z⟩
def zP:iC:=λas Q=>∃(x y p q:Fr) (e f:Nat),as=[.v (vc x y),.v (vc p q)]/\Nv x y e/\Nv p q f/\e+f<=7000/\Q (.v (vc (bO x p) (bO y q))) []
abbrev Bv (P w K mg base):=Fn P w K mg base 4 "minus" ["one","other"] (aU K zP)
abbrev zD:TB:=top 10
theorem Ti:aL ["one","other"] ["one","other"] (aG zD):=hU
theorem Sx {f:SO} {fd:SR} (F:eM K "minus" "minus" zD f fd) (TX:Txt mg) (WV:uE P w K mg base)   : bF P w K mg base e9 4 f fd ["one","other"] (aU K zP):=by
 refine F.okT Ti ?len (λVS A outer s H E hr=>(aH (aQ (aO (fc (aC WV hr (by omega) rfl (fc (aF rfl (fv 0) aB (λ_ _=>rfl)) (fc (aF rfl (fv 1) aB (λ_ _=>rfl)) aA))) (fc (aC WV hr (by omega) rfl (fc (aF rfl (fv 0) aB (λ_ _=>rfl)) (fc (aF rfl (fv 1) aB (λ_ _=>rfl)) aA))) aA)))))) ?rd
 case len=>rintro as Q ⟨x,y,p,q,e,f,rfl,_⟩;rfl
 case rd=>
  rintro as Q ⟨x,y,p,q,e,f,rfl,h,k,hs,z⟩;have:=h.sx;have:=h.sy;have:=k.sx;have:=k.sy;exact ⟨_,_,rfl,h.x,k.x,by omega,_,_,rfl,h.y,k.y,by omega,rfl,z⟩
abbrev Pt:=Fr×Fr
def pt (p:Pt):T:=vc p.1 p.2
abbrev I3:=Int×Int×Int
def t3 (s:I3):T:=.tup [.int s.1,.int s.2.1,.int s.2.2]
abbrev I4:=Int×Int×Int×Int
def t4 (b:I4):T:=.tup [.int b.1,.int b.2.1,.int b.2.2.1,.int b.2.2.2]
structure B3 (e:Nat) (s:I3):Prop where
 a:s.1.natAbs<2^e
 b:s.2.1.natAbs<2^e
 c:s.2.2.natAbs<2^e
theorem B3.up {e f:Nat} {s:I3} (h:B3 e s) (k:e<=f):B3 f s:=⟨pl h.a k,pl h.b k,pl h.c k⟩
def g9 (a b:Int):Int:=((MN a.natAbs b.natAbs:Nat):Int)
def aK (p:Pt):I3:=(p.1.1*(p.2.2.fdiv (g9 p.1.2 p.2.2)),p.2.1*(p.1.2.fdiv (g9 p.1.2 p.2.2)),p.1.2.fdiv (g9 p.1.2 p.2.2)*p.2.2)
def mD (s t:I3):I3:=(s.2.1*t.2.2-s.2.2*t.2.1,s.2.2*t.1-s.1*t.2.2,s.1*t.2.1-s.2.1*t.1)
def g3 (l:I3):Int:=g9 (g9 l.1 l.2.1) l.2.2
def cO (l:I3):I3:=(l.1.fdiv (g3 l),l.2.1.fdiv (g3 l),l.2.2.fdiv (g3 l))
def gQ (l s:I3):Int:=l.1*s.1+l.2.1*s.2.1+l.2.2*s.2.2
theorem i9 (i:Int) (n:Nat):(i.fdiv (n:Int)).natAbs<=i.natAbs:=by
 rw [pK];exact Int.natAbs_ediv_le_natAbs i n
theorem Qh {a b:Int} (h:b≠0):0<g9 a b:=by
 unfold g9;have:=OV a.natAbs (show 0<b.natAbs by omega);omega
structure Pb (p:Pt):Prop where
 v:Nv p.1 p.2 20
theorem kL {p:Pt} (h:Pb p):B3 40 (aK p):=by
 have d1:=i9 p.2.2 (MN p.1.2.natAbs p.2.2.natAbs);have d2:=i9 p.1.2 (MN p.1.2.natAbs p.2.2.natAbs);have x1:=pl (e8 p.1) h.v.sx;have x2:=pl (bX p.1) h.v.sx;have y1:=pl (e8 p.2) h.v.sy;have y2:=pl (bX p.2) h.v.sy;exact ⟨bJ (e:=20) (f:=20) x1 (MF d1 y2),bJ (e:=20) (f:=20) y1 (MF d2 x2),bJ (e:=20) (f:=20) (MF d2 x2) y2⟩
def L1:iC:=λas Q=>∃p:Pt,as=[.v (pt p)]/\Pb p/\Q (.v (t3 (aK p))) []
abbrev kY (P w K mg base):=Fn P w K mg base 2 "spot_of" ["point"] (aU K L1)
abbrev qI:TB:=top 16
theorem g8:aL ["point","divisor","x","low","y","other"] ["point"] (aG qI):=hU
theorem Hq {f:SO} {fd:SR} (F:eM K "spot_of" "spot_of" qI f fd) (TX:Txt mg) (VJ:eC P w K mg base)   : bF P w K mg base e9 2 f fd ["point"] (aU K L1):=by
 refine F.okT g8 ?len (λVS A outer s H E hr=>(aE (iY (fv 0) (bV (n:=2) rfl rfl (aJ (bV (n:=2) rfl rfl (aJ (aI (i:=2) g8.nd rfl (LA rfl)) (aJ (aI (i:=3) g8.nd rfl (LA rfl)) bK))) (aJ (bV (n:=2) rfl rfl (aJ (aI (i:=4) g8.nd rfl (LA rfl)) (aJ (aI (i:=5) g8.nd rfl (LA rfl)) bK))) bK))))
 (aE (aX (i:=1) g8.nd rfl (LA rfl) (aC VJ hr (by omega) rfl (fc (fv 3) (fc (fv 5) aA))))
 (aH (aQ (aO (fc (aN aT (fv 2) (aN dH (fv 5) (fv 1))) (fc (aN aT (fv 4) (aN dH (fv 3) (fv 1))) (fc (aN aT (aN dH (fv 3) (fv 1)) (fv 5)) aA))))))))) ?rd
 case len=>rintro as Q ⟨p,rfl,_⟩;rfl
 case rd=>
  rintro as Q ⟨p,rfl,h,q⟩;have x1:=pl (e8 p.1) h.v.sx;have x2:=pl (bX p.1) h.v.sx;have y1:=pl (e8 p.2) h.v.sy;have y2:=pl (bX p.2) h.v.sy;have d1:=i9 p.2.2 (MN p.1.2.natAbs p.2.2.natAbs);have d2:=i9 p.1.2 (MN p.1.2.natAbs p.2.2.natAbs);have cz:∀i,qY i ((MN p.1.2.natAbs p.2.2.natAbs:Nat):Int):=λi=>pL (n:=p.1.2) (d:=p.2.2) (by have:=h.v.y.d;omega) (nG y2 (by decide));refine ⟨_,_,rfl,?_⟩;exact ⟨cz _,eV (e:=20) x1 (MF d1 y2) (by decide),cz _,eV (e:=20) y1 (MF d2 x2) (by decide),cz _,eV (e:=20) (MF d2 x2) y2 (by decide),rfl,q⟩
def E8:iC:=λas Q=>∃s t:I3,as=[.v (t3 s),.v (t3 t)]/\B3 3000 s/\B3 3000 t/\Q (.v (t3 (mD s t))) []
abbrev iF (P w K mg base):=Fn P w K mg base 1 "line_through" ["begin","end"] (aU K E8)
abbrev iW:TB:=top 17
theorem cN:aL ["begin","end","x","y","w","to_x","to_y","to_w"] ["begin","end"] (aG iW):=hU
theorem rQ {f:SO} {fd:SR} (F:eM K "line_through" "line_through" iW f fd) (TX:Txt mg)    : bF P w K mg base e9 1 f fd ["begin","end"] (aU K E8):=by
 refine F.okT cN ?len (λVS A outer s H E hr=>(aE (iY (aO (fc (fv 0) (fc (fv 1) aA))) (bV (n:=2) rfl rfl (aJ (bV (n:=3) rfl rfl (aJ (aI (i:=2) cN.nd rfl (LA rfl)) (aJ (aI (i:=3) cN.nd rfl (LA rfl)) (aJ (aI (i:=4) cN.nd rfl (LA rfl)) bK)))) (aJ (bV (n:=3) rfl rfl (aJ (aI (i:=5) cN.nd rfl (LA rfl)) (aJ (aI (i:=6) cN.nd rfl (LA rfl)) (aJ (aI (i:=7) cN.nd rfl (LA rfl)) bK)))) bK))))
 (aH (aQ (aO (fc (aZ gK (aN aT (fv 3) (fv 7)) (aN aT (fv 4) (fv 6))) (fc (aZ gK (aN aT (fv 4) (fv 5)) (aN aT (fv 2) (fv 7))) (fc (aZ gK (aN aT (fv 2) (fv 6)) (aN aT (fv 3) (fv 5))) aA)))))))) ?rd
 case len=>rintro as Q ⟨s,t,rfl,_⟩;rfl
 case rd=>
  rintro as Q ⟨s,t,rfl,h,k,q⟩;exact ⟨eV h.b k.c (by decide),eV h.c k.b (by decide),eV h.c k.a (by decide),eV h.a k.c (by decide),eV h.a k.b (by decide),eV h.b k.a (by decide),rfl,q⟩
theorem Ht {s t:I3} {e:Nat} (h:B3 e s) (k:B3 e t):B3 (e+e+1) (mD s t):=
 ⟨jO (bJ h.b k.c) (bJ h.c k.b),jO (bJ h.c k.a) (bJ h.a k.c),jO (bJ h.a k.b) (bJ h.b k.a)⟩
theorem G3 {l:I3} {e:Nat} (h:B3 e l):B3 e (cO l):=⟨MF (i9 _ _) h.a,MF (i9 _ _) h.b,MF (i9 _ _) h.c⟩
def D9:iC:=λas Q=>∃l:I3,as=[.v (t3 l)]/\B3 7000 l/\g3 l≠0/\Q (.v (t3 (cO l))) []
theorem Vv {a b:Int} {e:Nat} (h:a.natAbs<2^e) (k:b.natAbs<2^e):(g9 a b).natAbs<2^e:=by
 unfold g9;rw [Int.natAbs_natCast];rcases Nat.eq_zero_or_pos a.natAbs with z | z
 ·rw [z,Nat.gcd_zero_left];exact k
 ·exact MF (Nat.gcd_le_left _ z) h
abbrev fR (P w K mg base):=Fn P w K mg base 2 "in_lowest_terms" ["line"] (aU K D9)
abbrev gG:TB:=top 18
theorem cT:aL ["line","divisor","a","b","c"] ["line"] (aG gG):=hU
theorem nT {f:SO} {fd:SR} (F:eM K "in_lowest_terms" "in_lowest_terms" gG f fd) (TX:Txt mg) (VJ:eC P w K mg base)   : bF P w K mg base e9 2 f fd ["line"] (aU K D9):=by
 refine F.okT cT ?len (λVS A outer s H E hr=>(aE (iY (fv 0) (bV (n:=3) rfl rfl (aJ (aI (i:=2) cT.nd rfl (LA rfl)) (aJ (aI (i:=3) cT.nd rfl (LA rfl)) (aJ (aI (i:=4) cT.nd rfl (LA rfl)) bK)))))
 (aE (aX (i:=1) cT.nd rfl (LA rfl) (aC VJ hr (by omega) rfl (fc (aC VJ hr (by omega) rfl (fc (fv 2) (fc (fv 3) aA))) (fc (fv 4) aA))))
 (aH (aQ (aO (fc (aN dH (fv 2) (fv 1)) (fc (aN dH (fv 3) (fv 1)) (fc (aN dH (fv 4) (fv 1)) aA))))))))) ?rd
 case len=>rintro as Q ⟨l,rfl,_⟩;rfl
 case rd=>
  rintro as Q ⟨l,rfl,h,h0,q⟩;have cz:∀i,qY i (g3 l):=λi=>⟨h0,nG (Vv (Vv h.a h.b) h.c) (by decide)⟩;refine ⟨_,_,rfl,_,_,rfl,?_⟩;exact ⟨cz _,cz _,cz _,rfl,q⟩
def L3:iC:=λas Q=>∃l s:I3,as=[.v (t3 l),.v (t3 s)]/\B3 3000 l/\B3 3000 s/\Q (.v (.int (gQ l s))) []
abbrev qV (P w K mg base):=Fn P w K mg base 1 "off_line" ["line","spot"] (aU K L3)
abbrev nU:TB:=top 19
theorem Dv:aL ["line","spot"] ["line","spot"] (aG nU):=hU
theorem Cr {f:SO} {fd:SR} (F:eM K "off_line" "off_line" nU f fd) (TX:Txt mg)    : bF P w K mg base e9 1 f fd ["line","spot"] (aU K L3):=by
 refine F.okT Dv ?len (λVS A outer s H E hr=>(aH (aQ (aZ bZ (aZ bZ (aN aT (aF rfl (fv 0) aB (λ_ _=>rfl)) (aF rfl (fv 1) aB (λ_ _=>rfl))) (aN aT (aF rfl (fv 0) aB (λ_ _=>rfl)) (aF rfl (fv 1) aB (λ_ _=>rfl)))) (aN aT (aF rfl (fv 0) aB (λ_ _=>rfl)) (aF rfl (fv 1) aB (λ_ _=>rfl))))))) ?rd
 case len=>rintro as Q ⟨l,s,rfl,_⟩;rfl
 case rd=>
  rintro as Q ⟨l,s,rfl,h,k,q⟩;exact ⟨eV h.a k.a (by decide),eV h.b k.b (by decide),eV h.c k.c (by decide),rfl,q⟩
theorem Qo {l s:I3} {e f:Nat} (h:B3 e l) (k:B3 f s):(gQ l s).natAbs<2^(e+f+2):=
 sE (sE (bJ h.a k.a) (bJ h.b k.b)) (pl (bJ h.c k.c) (by omega))
end
end My
namespace My
open PySem L2 PyProof.Rows
section
variable {P:SS} {w:SW} {K:W.Frag} {mg:Str->Option Value} {base:Heap}
theorem eL {α β:Type} {g:FG} {Fe:FE} {f h:α->L2.T} (mk:β->List L2.T->En) {Q:En->Prop}:∀(xs:List α) (b:β) (acc:List L2.T),acc.length+xs.length<=1000->
  (∀x∈xs,∀b acc rest,acc.length<1000->(∀b',iH g Fe rest (mk b' (acc++[h x])) Q)->iH g Fe (f x::rest) (mk b acc) Q)->(∀b,Q (mk b (acc++xs.map h)))->iH g Fe (xs.map f) (mk b acc) Q
 | [],b,acc,_,_,hd=>by have:=hd b;rw [OS,LZ] at this;exact this
 | x::xs,b,acc,hn,hs,hd=>by
  rw [LJ] at hn;refine hs x (by simp) b acc _ (by omega) λb'=>?_;refine eL mk xs b' (acc++[h x]) (by rw [LC,ME];omega) (λy hy=>hs y (by simp [hy])) λb2=>?_;have:=hd b2;rw [LI];exact this
theorem gZ {α β:Type} {g:FG} {Fb:FB} {Fe:FE} {f h:α->L2.T} (p:α->Bool) (mk:β->List L2.T->En) {Q:En->Prop}:∀(xs:List α) (b:β) (acc:List L2.T),acc.length+xs.length<=1000->
  (∀x∈xs,∀b acc rest,acc.length<1000->(∀b',fM g Fb Fe rest (mk b' (if p x=true then acc++[h x] else acc)) Q)->fM g Fb Fe (f x::rest) (mk b acc) Q)->(∀b,Q (mk b (acc++(xs.filter p).map h)))->fM g Fb Fe (xs.map f) (mk b acc) Q
 | [],b,acc,_,_,hd=>by have:=hd b;rw [List.filter_nil,OS,LZ] at this;exact this
 | x::xs,b,acc,hn,hs,hd=>by
  rw [LJ] at hn;refine hs x (by simp) b acc _ (by omega) λb'=>?_;refine gZ p mk xs b' _ (by split<;>(try rw [LC,ME])<;>omega) (λy hy=>hs y (by simp [hy])) λb2=>?_;have:=hd b2
  by_cases c:p x=true
  ·rw [if_pos c,LI];rw [NG c] at this;exact this
  ·rw [if_neg c];rw [NM c] at this;exact this
theorem cW {α σ:Type} {g:FG} {F:FS} {D:ET} {f:α->L2.T} (mk:σ->En) (R:List α->σ->Prop) (hs:∀x xs s rest,R (x::xs) s->(∀s',R xs s'->dG g F D rest (mk s'))->dG g F D (f x::rest) (mk s)) (hd:∀s,R [] s->D.nx (mk s)):∀xs s,R xs s->dG g F D (xs.map f) (mk s)
 | [],s,h=>hd s h
 | x::xs,s,h=>hs x xs s _ h λs' h'=>cW mk R hs hd xs s' h'
theorem bA {α:Type} {f:α->L2.T} (h:∀x,noL (f x)=true):∀xs:List α,dN (xs.map f)=true
 | []=>rfl
 | x::xs=>by rw [MO,dN,h x,bA h xs];rfl
def Pf (ss:List I3):List Int:=ss.map λs=>(s.1*65536).fdiv s.2.2
def Pj (ss:List I3):List Int:=ss.map λs=>(s.2.1*65536).fdiv s.2.2
def t9 (ss:List I3):I4:=(iM (Pf ss),iM (Pj ss),Ab (Pf ss),Ab (Pj ss))
def L9:iC:=λas Q=>∃(t:L2.T) (ss:List I3),as=[.v t]/\(t = .lst (ss.map t3)\/t = .tup (ss.map t3))/\0<ss.length/\ss.length<=900/\(∀s∈ss,B3 3000 s/\s.2.2≠0)/\Q (.v (t4 (t9 ss))) []
abbrev pX (P w K mg base):=Fn P w K mg base 1 "box_of" ["spots"] (aU K L9)
abbrev uV:TB:=top 20
theorem pW:aL ["spots","across","up"] ["spots"] (aG uV):=hU
theorem Mr {f:SO} {fd:SR} (F:eM K "box_of" "box_of" uV f fd) (TX:Txt mg)  (ZD:Ej mg "GRID" 65536)  : bF P w K mg base e9 1 f fd ["spots"] (aU K L9):=by
 refine F.okT pW ?len (λVS A outer s H E hr=>(aE (rW (i:=1) (N':=["spot"]) (t:=1) (cap:=[]) pW.nd rfl (LA rfl) rfl rfl (bP.of rfl) rfl (by decide) (Vb rfl (fv 0)) (λ_ _ _ _=>(aI (i:=0) (show MQ (["spot"]:List Str) by decide +kernel) rfl (LA rfl) (MM rfl))) (λ_ _ _ _=>(aN dH (aN aT (aF rfl (fv 0) aB (λ_ _=>rfl)) (Ca rfl ZD)) (aF rfl (fv 0) aB (λ_ _=>rfl)))))
 (aE (rW (i:=2) (N':=["spot"]) (t:=1) (cap:=[]) pW.nd rfl (LA rfl) rfl rfl (bP.of rfl) rfl (by decide) (Vb rfl (fv 0)) (λ_ _ _ _=>(aI (i:=0) (show MQ (["spot"]:List Str) by decide +kernel) rfl (LA rfl) (MM rfl))) (λ_ _ _ _=>(aN dH (aN aT (aF rfl (fv 0) aB (λ_ _=>rfl)) (Ca rfl ZD)) (aF rfl (fv 0) aB (λ_ _=>rfl)))))
 (aH (aQ (aO (fc (sM rfl rfl rfl TX.n_min (fc (fv 1) aA)) (fc (sM rfl rfl rfl TX.n_min (fc (fv 2) aA)) (fc (Ja rfl rfl rfl TX.n_max (fc (fv 1) aA)) (fc (Ja rfl rfl rfl TX.n_max (fc (fv 2) aA)) aA)))))))))) ?rd
 case len=>rintro as Q ⟨t,ss,rfl,_⟩;rfl
 case rd=>
  rintro as Q ⟨t,ss,rfl,ht,h0,hl,hs,q⟩;have cz:∀s∈ss,∀i,qY i s.2.2:=λs m i=>⟨(hs s m).2,nG (hs s m).1.c (by decide)⟩;have e1:(ss.map λs=>L2.T.int ((s.1*65536).fdiv s.2.2))=(Pf ss).map L2.T.int:=by rw [Pf,MK];rfl
  have e2:(ss.map λs=>L2.T.int ((s.2.1*65536).fdiv s.2.2))=(Pj ss).map L2.T.int:=by rw [Pj,MK];rfl
  have l1:0<(Pf ss).length:=by rw [Pf,KW];exact h0
  have l2:0<(Pj ss).length:=by rw [Pj,KW];exact h0
  rcases ht with rfl | rfl
  all_goals
   refine ⟨rfl,rfl,eL (f:=t3) (h:=λs=>.int ((s.1*65536).fdiv s.2.2)) (λ(w:Option U) acc=>[w,some (.o false acc)]) ss none [] (by simp;omega) (λs m w acc rest ha K=>⟨yM (by decide),cz s m _,ha,K _⟩) λw=>?_⟩;refine ⟨bA (λ_=>rfl) _,rfl,rfl,eL (f:=t3) (h:=λs=>.int ((s.2.1*65536).fdiv s.2.2)) (λ(w:Option U) acc=>[w,some (.o false acc)]) ss none [] (by simp;omega) (λs m w acc rest ha K=>⟨yM (by decide),cz s m _,ha,K _⟩) λw=>?_⟩;refine ⟨bA (λ_=>rfl) _,?_⟩;rw [MZ,MZ,e1,e2];exact ⟨_,rfl,l1,_,rfl,l2,_,rfl,l1,_,rfl,l2,rfl,q⟩
def nH (a b:I4):Bool:=decide (a.2.2.1<b.1)||decide (b.2.2.1<a.1)||decide (a.2.2.2<b.2.1)||decide (b.2.2.2<a.2.1)
def Mb:iC:=λas Q=>∃a b:I4,as=[.v (t4 a),.v (t4 b)]/\Q (.v (.bl (nH a b))) []
abbrev oF (P w K mg base):=Fn P w K mg base 1 "are_apart" ["one","other"] (aU K Mb)
abbrev lX:TB:=top 21
theorem zN:aL ["one","other"] ["one","other"] (aG lX):=hU
theorem x6 {f:SO} {fd:SR} (F:eM K "are_apart" "are_apart" lX f fd) (TX:Txt mg)    : bF P w K mg base e9 1 f fd ["one","other"] (aU K Mb):=by
 refine F.okT zN ?len (λVS A outer s H E hr=>(aH (aQ (Rg (Cf fW (aF rfl (fv 0) aB (λ_ _=>rfl)) (aF rfl (fv 1) aB (λ_ _=>rfl)) (aR _)) (Rg (Cf fW (aF rfl (fv 1) aB (λ_ _=>rfl)) (aF rfl (fv 0) aB (λ_ _=>rfl)) (aR _)) (Rg (Cf fW (aF rfl (fv 0) aB (λ_ _=>rfl)) (aF rfl (fv 1) aB (λ_ _=>rfl)) (aR _)) (uF (Cf fW (aF rfl (fv 1) aB (λ_ _=>rfl)) (aF rfl (fv 0) aB (λ_ _=>rfl)) (aR _))))))))) ?rd
 case len=>rintro as Q ⟨a,b,rfl,_⟩;rfl
 case rd=>
  rintro as Q ⟨a,b,rfl,q⟩;unfold nH at q;show if decide (a.2.2.1<b.1)=true then _ else _
  by_cases c1:a.2.2.1<b.1
  ·rw [decide_eq_true c1] at q ⊢;rw [if_pos rfl];exact ⟨rfl,q⟩
  rw [decide_eq_false c1] at q ⊢;rw [if_neg (by decide)];show if decide (b.2.2.1<a.1)=true then _ else _
  by_cases c2:b.2.2.1<a.1
  ·rw [decide_eq_true c2] at q ⊢;rw [if_pos rfl];exact ⟨rfl,q⟩
  rw [decide_eq_false c2] at q ⊢;rw [if_neg (by decide)];show if decide (a.2.2.2<b.2.1)=true then _ else _
  by_cases c3:a.2.2.2<b.2.1
  ·rw [decide_eq_true c3] at q ⊢;rw [if_pos rfl];exact ⟨rfl,q⟩
  rw [decide_eq_false c3] at q ⊢;rw [if_neg (by decide)];exact ⟨rfl,q⟩
theorem Rc (xs:List L2.T):iN xs (some 1) none=xs.tail:=by
 unfold iN;have e:HT.sIx xs.length 0 (some (1:Int))=min 1 xs.length:=HT.sIx_nat _ _ 1;rw [HT.sIx_none,e];cases xs with
 | nil=>rfl
 | cons x xs=>
  rw [QV (by simp),List.drop_succ_cons,RB,List.tail_cons];exact NC (by simp)
theorem Jb (xs:List L2.T):iN xs none (some 1)=xs.take 1:=by
 unfold iN;have e:HT.sIx xs.length xs.length (some (1:Int))=min 1 xs.length:=HT.sIx_nat _ _ 1;rw [HT.sIx_none,e,RB,Nat.sub_zero];cases xs with
 | nil=>rfl
 | cons x xs=>rw [QV (by simp)]
theorem zip_map {α β:Type} (f:α->L2.T) (g:β->L2.T):∀(xs:List α) (ys:List β),eY (xs.map f) (ys.map g)=(xs.zip ys).map λp=>L2.T.tup [f p.1,g p.2]
 | [],ys=>by simp [eY]
 | x::xs,[]=>by simp [eY]
 | x::xs,y::ys=>by
  show L2.T.tup [f x,g y]::eY (xs.map f) (ys.map g)=_;rw [zip_map f g xs ys];rfl
structure bW where
 w:Str
 n:Int
 o:List Pt
 m:Str
def dJ (b:bW):L2.T:=.tup [.str b.w,.int b.n,.tup (b.o.map pt),.str b.m]
def o8 {α:Type} (xs:List α):List α:=xs.tail++xs.take 1
def fN (o:List Pt):List I3:=((o.map aK).zip (o8 (o.map aK))).map λp=>mD p.1 p.2
def Qa:iC:=λas Q=>∃b:bW,as=[.v (dJ b)]/\b.o.length<=900/\(∀p∈b.o,Pb p)/\Q (.l ((fN b.o).map t3)) []
abbrev m7 (P w K mg base):=Fn P w K mg base 3 "edge_lines" ["block"] (aU K Qa)
abbrev kR:TB:=top 22
theorem m6:aL ["block","spots"] ["block"] (aG kR):=hU
theorem vH {f:SO} {fd:SR} (F:eM K "edge_lines" "edge_lines" kR f fd) (TX:Txt mg) (WK:kY P w K mg base) (WA:iF P w K mg base)   : bF P w K mg base e9 3 f fd ["block"] (aU K Qa):=by
 refine F.okT m6 ?len (λVS A outer s H E hr=>(aE (rW (i:=1) (N':=["corner"]) (t:=1) (cap:=[]) m6.nd rfl (LA rfl) rfl rfl (bP.of rfl) rfl (by decide) (zB rfl (aF rfl (fv 0) aB (λ_ _=>rfl))) (λ_ _ _ _=>(aI (i:=0) (show MQ (["corner"]:List Str) by decide +kernel) rfl (LA rfl) (MM rfl))) (λ_ _ _ _=>(aC WK hr (by omega) rfl (fc (fv 0) aA))))
 (aH (aQ (jJ (N':=["begin","end"]) (t:=2) (cap:=[]) rfl (bP.of rfl) rfl (by decide) (zV rfl rfl TX.n_zip (fc (fv 1) (fc (Et (iU rfl (fv 1) (eQ aB) gJ) (iU rfl (fv 1) gJ (eQ aB))) aA))) (λ_ _ _ _=>(bV (n:=2) rfl rfl (aJ (aI (i:=0) (show MQ (["begin","end"]:List Str) by decide +kernel) rfl (LA rfl) (MM rfl)) (aJ (aI (i:=1) (show MQ (["begin","end"]:List Str) by decide +kernel) rfl (LA rfl) (MM rfl)) bK)))) (λ_ _ _ _=>(aC WA hr (by omega) rfl (fc (fv 0) (fc (fv 1) aA))))))))) ?rd
 case len=>rintro as Q ⟨b,rfl,_⟩;rfl
 case rd=>
  rintro as Q ⟨b,rfl,hl,hb,q⟩;refine ⟨rfl,eL (f:=pt) (h:=λp=>t3 (aK p)) (λ(w:Option U) acc=>[w,some (.o false acc)]) b.o none [] (by simp;omega) (λp m w acc rest ha K=>?_) λw=>?_⟩
  ·exact ⟨p,rfl,hb p m,ha,K _⟩
  refine ⟨bA (λ_=>rfl) _,?_⟩;rw [MZ,show (b.o.map λp=>t3 (aK p))=(b.o.map aK).map t3 by rw [MK];rfl];have hs:∀s∈b.o.map aK,B3 3000 s:=λs m=>by
   obtain ⟨p,mp,rfl⟩:=KY.mp m;exact (kL (hb p mp)).up (by decide)
  have hle:(b.o.map aK).length<=900:=by rw [KW];exact hl
  unfold fN at q;generalize b.o.map aK=ss at hs hle q;refine (?_:oC [some (.p (dJ b)),some (.o false (ss.map t3))] _);have e1:iN (ss.map t3) (some 1) none++iN (ss.map t3) none (some 1)=(o8 ss).map t3:=by rw [Rc,Jb,o8,MI,SM,QL]
  refine ⟨?_,?_⟩
  ·show (iN (ss.map t3) (some 1) none).length+(iN (ss.map t3) none (some 1)).length<=1000;rw [Rc,Jb,NV,MA,KW];omega
  ·refine ⟨rfl,?_⟩;show iH _ _ (eY (ss.map t3) (iN (ss.map t3) (some 1) none++iN (ss.map t3) none (some 1))) _ _;rw [e1,zip_map];have hz:∀p∈ss.zip (o8 ss),B3 3000 p.1/\B3 3000 p.2:=λp m=>by
    obtain ⟨m1,m2⟩:=NY (a:=p.1) (b:=p.2) m;refine ⟨hs _ m1,hs _ ?_⟩;rcases LP.mp m2 with m2 | m2
    ·exact OE m2
    ·exact NW m2
   refine eL (f:=λp:I3×I3=>.tup [t3 p.1,t3 p.2]) (h:=λp=>t3 (mD p.1 p.2)) (λ(w:Option U×Option U) acc=>[w.1,w.2,some (.o false acc)]) _ (none,none) [] (by simp;omega) (λp m w acc rest ha K=>?_) λw=>?_
   ·exact ⟨p.1,p.2,rfl,(hz p m).1,(hz p m).2,ha,K (_,_)⟩
   ·refine ⟨bA (λ_=>rfl) _,bA (λ_=>rfl) _,?_⟩;rw [MK] at q;exact q
structure Sh where
 b:I4
 ls:List I3
def kF (s:Sh):L2.T:=.tup [t4 s.b,.tup (s.ls.map t3)]
theorem Fv (s:Sh):noL (kF s)=true:=by
 have:=bA (f:=t3) (λ_=>rfl) s.ls;simp [kF,t4,noL,dN,this]
theorem Uv (b:bW):noL (dJ b)=true:=by
 have:=bA (f:=pt) (λ_=>rfl) b.o;simp [dJ,noL,dN,this]
def bD (b:bW):Sh:=⟨t9 (b.o.map aK),(fN b.o).map cO⟩
structure Oj (b:bW):Prop where
 len:b.o.length<=900
 pos:0<b.o.length
 pb:∀p∈b.o,Pb p
 ne:∀l∈fN b.o,g3 l≠0
theorem Mc {o:List Pt} (h:∀p∈o,Pb p):∀l∈fN o,B3 81 l:=λl m=>by
 obtain ⟨p,mp,rfl⟩:=KY.mp m;obtain ⟨m1,m2⟩:=NY (a:=p.1) (b:=p.2) mp;have hs:∀s∈o.map aK,B3 40 s:=λs m=>by
  obtain ⟨p,mp,rfl⟩:=KY.mp m;exact kL (h p mp)
 refine Ht (hs _ m1) (hs _ ?_);rcases LP.mp m2 with m2 | m2
 ·exact OE m2
 ·exact NW m2
theorem z8 {p:Pt} (h:Pb p):(aK p).2.2≠0:=by
 have hx:=h.v.x.d;have hy:=h.v.y.d;show p.1.2.fdiv (g9 p.1.2 p.2.2)*p.2.2≠0;refine PB ?_ (by omega);unfold g9;rw [pK];have dn:((MN p.1.2.natAbs p.2.2.natAbs:Nat):Int)∣p.1.2:=MP.mpr (NT _ _);intro z;have:=Int.ediv_mul_cancel dn;rw [z,Int.zero_mul] at this;omega
def Rh:iC:=λas Q=>∃b:bW,as=[.v (dJ b)]/\Oj b/\Q (.v (kF (bD b))) []
abbrev rD (P w K mg base):=Fn P w K mg base 4 "shape_of" ["block"] (aU K Rh)
abbrev nZ:TB:=top 23
theorem rC:aL ["block","lines"] ["block"] (aG nZ):=hU
theorem De {f:SO} {fd:SR} (F:eM K "shape_of" "shape_of" nZ f fd) (TX:Txt mg) (XE:m7 P w K mg base) (VR:fR P w K mg base) (XA:pX P w K mg base) (WK:kY P w K mg base)   : bF P w K mg base e9 4 f fd ["block"] (aU K Rh):=by
 refine F.okT rC ?len (λVS A outer s H E hr=>(aE (rW (i:=1) (N':=["line"]) (t:=1) (cap:=[]) rC.nd rfl (LA rfl) rfl rfl (bP.of rfl) rfl (by decide) (d9 rfl (aC XE hr (by omega) rfl (fc (fv 0) aA))) (λ_ _ _ _=>(aI (i:=0) (show MQ (["line"]:List Str) by decide +kernel) rfl (LA rfl) (MM rfl))) (λ_ _ _ _=>(aC VR hr (by omega) rfl (fc (fv 0) aA))))
 (aH (aQ (aO (fc (aC XA hr (by omega) rfl (fc (jJ (N':=["corner"]) (t:=1) (cap:=[]) rfl (bP.of rfl) rfl (by decide) (zB rfl (aF rfl (fv 0) aB (λ_ _=>rfl))) (λ_ _ _ _=>(aI (i:=0) (show MQ (["corner"]:List Str) by decide +kernel) rfl (LA rfl) (MM rfl))) (λ_ _ _ _=>(aC WK hr (by omega) rfl (fc (fv 0) aA)))) aA)) (fc (uO rfl rfl TX.n_tuple (fc (fv 1) aA)) aA))))))) ?rd
 case len=>rintro as Q ⟨b,rfl,_⟩;rfl
 case rd=>
  rintro as Q ⟨b,rfl,h,q⟩;refine ⟨b,rfl,h.len,h.pb,rfl,?_⟩;have hle:(fN b.o).length<=900:=by
   have:=h.len;simp only [fN,KW,RZ];omega
  refine eL (f:=t3) (h:=λl=>t3 (cO l)) (λ(w:Option U) acc=>[w,some (.o false acc)]) _ none [] (by simp;omega) (λl m w acc rest ha K=>?_) λw=>?_
  ·exact ⟨l,rfl,(Mc h.pb l m).up (by decide),h.ne l m,ha,K _⟩
  refine ⟨bA (λ_=>rfl) _,?_⟩;refine ⟨rfl,eL (f:=pt) (h:=λp=>t3 (aK p)) (λ(w:Option U) acc=>[w,some (.o false acc)]) b.o none [] (by have:=h.len;simp;omega) (λp m w acc rest ha K=>?_) λw=>?_⟩
  ·exact ⟨p,rfl,h.pb p m,ha,K _⟩
  refine ⟨bA (λ_=>rfl) _,?_⟩;refine ⟨_,b.o.map aK,rfl,.inl (by rw [MK];rfl),by rw [KW];exact h.pos,by rw [KW];exact h.len,λs m=>?_,?_⟩
  ·obtain ⟨p,mp,rfl⟩:=KY.mp m;exact ⟨(kL (h.pb p mp)).up (by decide),z8 (h.pb p mp)⟩
  ·have e:([]++(fN b.o).map λl=>t3 (cO l))=(((fN b.o).map cO).map t3):=by rw [MK];rfl
   rw [e];exact ⟨Fv (bD b),q⟩
def Ma:iC:=λas Q=>∃bs:List bW,as=[.v (.lst (bs.map dJ))]/\bs.length<=900/\(∀b∈bs,Oj b)/\Q (.l ((bs.map bD).map kF)) []
abbrev oK (P w K mg base):=Fn P w K mg base 5 "shapes_of" ["laid"] (aU K Ma)
abbrev l8:TB:=top 24
theorem yU:aL ["laid"] ["laid"] (aG l8):=hU
theorem yV {f:SO} {fd:SR} (F:eM K "shapes_of" "shapes_of" l8 f fd) (TX:Txt mg) (XY:rD P w K mg base)   : bF P w K mg base e9 5 f fd ["laid"] (aU K Ma):=by
 refine F.okT yU ?len (λVS A outer s H E hr=>(aH (aQ (jJ (N':=["block"]) (t:=1) (cap:=[]) rfl (bP.of rfl) rfl (by decide) (d9 rfl (fv 0)) (λ_ _ _ _=>(aI (i:=0) (show MQ (["block"]:List Str) by decide +kernel) rfl (LA rfl) (MM rfl))) (λ_ _ _ _=>(aC XY hr (by omega) rfl (fc (fv 0) aA))))))) ?rd
 case len=>rintro as Q ⟨bs,rfl,_⟩;rfl
 case rd=>
  rintro as Q ⟨bs,rfl,hl,h,q⟩;refine ⟨rfl,eL (f:=dJ) (h:=λb=>kF (bD b)) (λ(w:Option U) acc=>[w,some (.o false acc)]) bs none [] (by simp;omega) (λb m w acc rest ha K=>?_) λw=>?_⟩
  ·exact ⟨b,rfl,h b m,ha,K _⟩
  ·rw [MK] at q;exact ⟨bA (λ_=>Fv _) _,bA (λ_=>Fv _) _,q⟩
structure Sg where
 b:I4
 p:I3
 q:I3
 l:I3
def AY (s:Sg):L2.T:=.tup [t4 s.b,.tup [t3 s.p,t3 s.q],t3 s.l]
def eR (p q:Pt):Sg:=⟨t9 [aK p,aK q],aK p,aK q,cO (mD (aK p) (aK q))⟩
def DA:iC:=λas Q=>∃p q:Pt,as=[.v (pt p),.v (pt q)]/\Pb p/\Pb q/\g3 (mD (aK p) (aK q))≠0/\Q (.v (AY (eR p q))) []
abbrev nF (P w K mg base):=Fn P w K mg base 3 "segment_of" ["begin","end"] (aU K DA)
abbrev kS:TB:=top 25
theorem m8:aL ["begin","end","spots"] ["begin","end"] (aG kS):=hU
theorem vO {f:SO} {fd:SR} (F:eM K "segment_of" "segment_of" kS f fd) (TX:Txt mg) (WK:kY P w K mg base) (XA:pX P w K mg base) (VR:fR P w K mg base) (WA:iF P w K mg base)   : bF P w K mg base e9 3 f fd ["begin","end"] (aU K DA):=by
 refine F.okT m8 ?len (λVS A outer s H E hr=>(aE (aX (i:=2) m8.nd rfl (LA rfl) (aO (fc (aC WK hr (by omega) rfl (fc (fv 0) aA)) (fc (aC WK hr (by omega) rfl (fc (fv 1) aA)) aA))))
 (aH (aQ (aO (fc (aC XA hr (by omega) rfl (fc (fv 2) aA)) (fc (fv 2) (fc (aC VR hr (by omega) rfl (fc (aC WA hr (by omega) rfl (fc (aF rfl (fv 2) aB (λ_ _=>rfl)) (fc (aF rfl (fv 2) aB (λ_ _=>rfl)) aA))) aA)) aA)))))))) ?rd
 case len=>rintro as Q ⟨p,q,rfl,_⟩;rfl
 case rd=>
  rintro as Q ⟨p,q,rfl,hp,hq,h0,z⟩;have bp:=(kL hp).up (show 40<=3000 by decide);have bq:=(kL hq).up (show 40<=3000 by decide);refine ⟨p,rfl,hp,q,rfl,hq,_,[aK p,aK q],rfl,.inr rfl,(show 0<2 by decide),(show 2<=900 by decide),λs m=>?_,_,_,rfl,bp,bq,_,rfl,(Ht bp bq).up (by decide),h0,rfl,z⟩;rcases KR.mp m with rfl | m
  ·exact ⟨bp,z8 hp⟩
  ·have e:s=aK q:=by simpa using m
   subst e;exact ⟨bq,z8 hq⟩
end
end My
namespace My
open PySem L2 PyProof.Rows
section
variable {P:SS} {w:SW} {K:W.Frag} {mg:Str->Option Value} {base:Heap}
def bB (x y:Fr):Fr:=if eS x y<0 then y else x
def aP (x y:Fr):Fr:=if eS x y<0 then x else y
def C6 (op:Fr->Fr->Fr):iC:=λas Q=>∃x y:Fr,as=[.v (fr x),.v (fr y)]/\sz x+sz y<=7900/\Q (.v (fr (op x y))) []
abbrev t7 (P w K mg base):=Fn P w K mg base 2 "later" ["one","other"] (aU K (C6 bB))
abbrev yY:TB:=top 27
theorem Wa:aL ["one","other"] ["one","other"] (aG yY):=hU
theorem Vs {f:SO} {fd:SR} (F:eM K "later" "later" yY f fd) (TX:Txt mg) (VO:h9 P w K mg base)   : bF P w K mg base e9 2 f fd ["one","other"] (aU K (C6 bB)):=by
 refine F.okT Wa ?len (λVS A outer s H E hr=>(aH (aQ (nE (cX fW (aC VO hr (by omega) rfl (fc (fv 0) (fc (fv 1) aA))) aB (aR _)) (fv 1) (fv 0))))) ?rd
 case len=>rintro as Q ⟨x,y,rfl,_⟩;rfl
 case rd=>
  rintro as Q ⟨x,y,rfl,hs,q⟩;refine ⟨x,y,rfl,hs,?_⟩;unfold bB at q;show if decide (eS x y<0)=true then _ else _
  by_cases c:eS x y<0
  ·rw [decide_eq_true c,if_pos rfl];rw [if_pos c] at q;exact ⟨rfl,q⟩
  ·rw [decide_eq_false c,if_neg (by decide)];rw [if_neg c] at q;exact ⟨rfl,q⟩
abbrev nK (P w K mg base):=Fn P w K mg base 2 "earlier" ["one","other"] (aU K (C6 aP))
abbrev pT:TB:=top 28
theorem Gv:aL ["one","other"] ["one","other"] (aG pT):=hU
theorem Gu {f:SO} {fd:SR} (F:eM K "earlier" "earlier" pT f fd) (TX:Txt mg) (VO:h9 P w K mg base)   : bF P w K mg base e9 2 f fd ["one","other"] (aU K (C6 aP)):=by
 refine F.okT Gv ?len (λVS A outer s H E hr=>(aH (aQ (nE (cX fW (aC VO hr (by omega) rfl (fc (fv 0) (fc (fv 1) aA))) aB (aR _)) (fv 0) (fv 1))))) ?rd
 case len=>rintro as Q ⟨x,y,rfl,_⟩;rfl
 case rd=>
  rintro as Q ⟨x,y,rfl,hs,q⟩;refine ⟨x,y,rfl,hs,?_⟩;unfold aP at q;show if decide (eS x y<0)=true then _ else _
  by_cases c:eS x y<0
  ·rw [decide_eq_true c,if_pos rfl];rw [if_pos c] at q;exact ⟨rfl,q⟩
  ·rw [decide_eq_false c,if_neg (by decide)];rw [if_neg c] at q;exact ⟨rfl,q⟩
structure F2 (p:Fr):Prop where
 s:sz p<=300
 d:1<=p.2
theorem F2.later {x y:Fr} (h:F2 x) (k:F2 y):F2 (bB x y):=by unfold bB;split<;>assumption
theorem F2.earlier {x y:Fr} (h:F2 x) (k:F2 y):F2 (aP x y):=by unfold aP;split<;>assumption
theorem F2.of {n d:Int} (h:n.natAbs<2^300) (k:d.natAbs<2^300) (hd:1<=d):F2 (n,d):=⟨qT (p:=(n,d)) h k (by decide),hd⟩
theorem F2.c {x y:Fr} (h:F2 x) (k:F2 y):sz x+sz y<=7900:=by have:=h.s;have:=k.s;omega
theorem Pe:F2 (0,1):=F2.of (by decide) (by decide) (by decide)
theorem Mn:F2 (1,1):=F2.of (by decide) (by decide) (by decide)
def EV:Nat->Str
 | 0=>"in"
 | 1=>"left"
 | _=>"right"
def lO (b e own:I3):List I3->Fr->Fr->Nat->Option (Fr×Fr×Nat)
 | [],lo,hi,h=>some (lo,hi,h)
 | l::ls,lo,hi,h=>
  if gQ l b*e.2.2<=0/\gQ l e*b.2.2<=0 then
   if gQ l b*e.2.2<0\/gQ l e*b.2.2<0 then none else lO b e own ls lo hi (if l=own then 1 else 2)
  else if gQ l b*e.2.2<0 then lO b e own ls (bB lo (-(gQ l b*e.2.2),gQ l e*b.2.2-gQ l b*e.2.2)) hi h
  else if gQ l e*b.2.2<0 then lO b e own ls lo (aP hi (gQ l b*e.2.2,gQ l b*e.2.2-gQ l e*b.2.2)) h
  else lO b e own ls lo hi h
def wQ:Option (Fr×Fr×Nat)->Option (Fr×Fr×Nat)
 | none=>none
 | some r=>if eS r.1 r.2.1<0 then some r else none
def a7 (s:Sh) (g:Sg):Option (Fr×Fr×Nat):=if nH s.b g.b=true then none else wQ (lO g.p g.q g.l s.ls (0,1) (1,1) 0)
def GD:Option (Fr×Fr×Nat)->L2.T
 | none=>.non
 | some r=>.tup [fr r.1,fr r.2.1,.str (EV r.2.2)]
def zW (r:Option (Fr×Fr×Nat)):Prop:=∀x,r=some x->F2 x.1/\F2 x.2.1
theorem Wf {l b e:I3} (hl:B3 81 l) (hb:B3 40 b) (he:B3 40 e):(gQ l b*e.2.2).natAbs<2^163:=bJ (Qo hl hb) he.c
theorem Ig {b e own:I3} (hb:B3 40 b) (he:B3 40 e):∀(ls:List I3) (lo hi:Fr) (h:Nat),(∀l∈ls,B3 81 l)->F2 lo->F2 hi->zW (lO b e own ls lo hi h)
 | [],lo,hi,h,_,f1,f2=>λx e=>by cases e;exact ⟨f1,f2⟩
 | l::ls,lo,hi,h,hl,f1,f2=>by
  have k1:=Wf (hl l (by simp)) hb he;have k2:=Wf (hl l (by simp)) he hb;have rest:=λlo hi h f1 f2=>Ig hb he ls lo hi h (λl m=>hl l (by simp [m])) f1 f2 (own:=own);unfold lO
  split
  ·split
   ·intro x e;cases e
   ·exact rest _ _ _ f1 f2
  ·split
   ·exact rest _ _ _ (f1.later (F2.of (by rw [OQ];exact pl k1 (by decide)) (pl (jO k2 k1) (by decide)) (by omega))) f2
   ·split
    ·exact rest _ _ _ f1 (f2.earlier (F2.of (pl k1 (by decide)) (pl (jO k1 k2) (by decide)) (by omega)))
    ·exact rest _ _ _ f1 f2
theorem Jw {s:Sh} {g:Sg} (hs:∀l∈s.ls,B3 81 l) (hp:B3 40 g.p) (hq:B3 40 g.q):zW (a7 s g):=by
 unfold a7
 split
 ·intro x e;cases e
 ·have:=Ig (own:=g.l) hp hq s.ls (0,1) (1,1) 0 hs Pe Mn;intro x e;cases q:lO g.p g.q g.l s.ls (0,1) (1,1) 0 with
  | none=>rw [q] at e;cases e
  | some r=>
   rw [q] at e;unfold wQ at e;simp only at e;split at e
   ·cases e;exact this _ q
   ·cases e
theorem CC (a b:I3):eD (t3 a) (t3 b)=decide (a=b):=by
 rw [NQ];simp [t3,L2.eD,L2.qK,Prod.ext_iff]
def Au:iC:=λas Q=>∃(s:Sh) (g:Sg),as=[.v (kF s),.v (AY g)]/\(∀l∈s.ls,B3 81 l)/\B3 40 g.p/\B3 40 g.q/\B3 3000 g.l/\Q (.v (GD (a7 s g))) []
abbrev sP (P w K mg base):=Fn P w K mg base 3 "overlap" ["shape","segment"] (aU K Au)
abbrev qD:TB:=top 26
theorem cR:aL ["shape","segment","line","box","own","low","high","hand","begin","end","first","last"] ["shape","segment"] (aG qD):=hU
theorem Hc {f:SO} {fd:SR} (F:eM K "overlap" "overlap" qD f fd) (TX:Txt mg) (XN:oF P w K mg base) (XF:qV P w K mg base) (XT:t7 P w K mg base) (WU:nK P w K mg base) (VO:h9 P w K mg base) (YQ:uW mg K "NOUGHT" (.tup [.int 0,.int 1])) (da:uW mg K "ONE" (.tup [.int 1,.int 1]))  : bF P w K mg base e9 3 f fd ["shape","segment"] (aU K Au):=by
 refine F.okT cR ?len (λVS A outer s H E hr=>(aE (iY (fv 1) (bV (n:=3) rfl rfl (aJ (aI (i:=3) cR.nd rfl (LA rfl)) (aJ (bV (n:=2) rfl rfl (aJ (aI (i:=8) cR.nd rfl (LA rfl)) (aJ (aI (i:=9) cR.nd rfl (LA rfl)) bK))) (aJ (aI (i:=4) cR.nd rfl (LA rfl)) bK)))))
 (aE (cU (qR (aC XN hr (by omega) rfl (fc (aF rfl (fv 0) aB (λ_ _=>rfl)) (fc (fv 3) aA)))) (aH (aQ l9)) bY)
 (aE (Km (i:=5) (j:=6) (k:=7) rfl cR.nd rfl rfl rfl (by decide) (by decide) (by decide) rfl rfl rfl (fc (sN rfl YQ) (fc (sN rfl da) (fc cD aA))) rfl)
 (aE (dY PassesOwn.never rfl (zB rfl (aF rfl (fv 0) aB (λ_ _=>rfl))) (aI (i:=2) cR.nd rfl (LA rfl))
  (aE (gY (i:=10) (j:=11) rfl cR.nd rfl rfl (by decide) rfl rfl (fc (aN aT (aC XF hr (by omega) rfl (fc (fv 2) (fc (fv 8) aA))) (aF rfl (fv 9) aB (λ_ _=>rfl))) (fc (aN aT (aC XF hr (by omega) rfl (fc (fv 2) (fc (fv 9) aA))) (aF rfl (fv 8) aB (λ_ _=>rfl))) aA)) rfl)
 (aH (cU (nP (jY (cX Ux (fv 10) aB (aR _)) (jS (cX Ux (fv 11) aB (aR _))))) (aE (cU (nP (uR (cX fW (fv 10) aB (aR _)) (nO (cX fW (fv 11) aB (aR _))))) (aH (aQ l9)) bY)
 (aH (aX (i:=7) cR.nd rfl (LA rfl) (nE (qX rfl hr (fv 2) (fv 4) (aR _)) cD cD)))) (aH (cU (cX fW (fv 10) aB (aR _)) (aH (aX (i:=5) cR.nd rfl (LA rfl) (aC XT hr (by omega) rfl (fc (fv 5) (fc (aO (fc (qA (fv 10)) (fc (aZ gK (fv 11) (fv 10)) aA))) aA))))) (aH (cU (cX fW (fv 11) aB (aR _)) (aH (aX (i:=6) cR.nd rfl (LA rfl) (aC WU hr (by omega) rfl (fc (fv 6) (fc (aO (fc (fv 10) (fc (aZ gK (fv 10) (fv 11)) aA))) aA))))) bY))))))))
 (aH (aQ (nE (cX fW (aC VO hr (by omega) rfl (fc (fv 5) (fc (fv 6) aA))) aB (aR _)) (aO (fc (fv 5) (fc (fv 6) (fc (fv 7) aA)))) l9)))))))) ?rd
 case len=>rintro as Q ⟨s,g,rfl,_⟩;rfl
 case rd=>
  rintro as Q ⟨s,g,rfl,hs,hp,hq,hl,q⟩;refine ⟨_,_,rfl,?_⟩;unfold a7 at q;show if nH s.b g.b=true then _ else _
  by_cases c:nH s.b g.b=true
  ·rw [if_pos c];rw [if_pos c] at q;exact ⟨rfl,q⟩
  rw [if_neg c];rw [if_neg c] at q;refine cW (f:=t3) (λs':Fr×Fr×Nat×Option U×Option U×Option U=>[some (.p (kF s)),some (.p (AY g)),s'.2.2.2.1,some (.p (t4 g.b)),some (.p (t3 g.l)),some (.p (fr s'.1)),some (.p (fr s'.2.1)),some (.p (.str (EV s'.2.2.1))),some (.p (t3 g.p)),some (.p (t3 g.q)),s'.2.2.2.2.1,s'.2.2.2.2.2])
   (λls s'=>(∀l∈ls,B3 81 l)/\F2 s'.1/\F2 s'.2.1/\Q (.v (GD (wQ (lO g.p g.q g.l ls s'.1 s'.2.1 s'.2.2.1)))) []) ?_ ?_ s.ls ((0,1),(1,1),0,none,none,none) ⟨hs,Pe,Mn,q⟩
  ·rintro l ls ⟨lo,hi,h,v2,v10,v11⟩ rest ⟨pj,f1,f2,z⟩ K;have ik:=(pj l (by simp)).up (show 81<=3000 by decide);have hp':=hp.up (show 40<=3000 by decide);have cn:=hq.up (show 40<=3000 by decide);have k1:=Wf (pj l (by simp)) hp hq;have k2:=Wf (pj l (by simp)) hq hp;have VY:∀m∈ls,B3 81 m:=λm hm=>pj m (by simp [hm]);refine ⟨l,g.p,rfl,ik,hp',eV (e:=123) (Qo (pj l (by simp)) hp) (pl hq.c (by decide)) (by decide),l,g.q,rfl,ik,cn,eV (e:=123) (Qo (pj l (by simp)) hq) (pl hp.c (by decide)) (by decide),?_⟩;simp only [lO] at z;generalize ef:gQ l g.p*g.q.2.2=a at z k1 k2 ⊢;generalize eg:gQ l g.q*g.p.2.2=b at z k1 k2 ⊢;have fa:1<=b-a->F2 (-a,b-a):=F2.of (by rw [OQ];exact pl k1 (by decide)) (pl (jO k2 k1) (by decide));have fb:1<=a-b->F2 (a,a-b):=F2.of (pl k1 (by decide)) (pl (jO k1 k2) (by decide));show if decide (a<=0)=true then _ else _
   by_cases c1:a<=0
   ·rw [decide_eq_true c1,if_pos rfl];show if decide (b<=0)=true then _ else _
    by_cases c2:b<=0
    ·rw [decide_eq_true c2,if_pos rfl];rw [if_pos ⟨c1,c2⟩] at z;show if decide (a<0)=true then _ else _
     by_cases c3:a<0
     ·rw [decide_eq_true c3,if_pos rfl,if_pos rfl];rw [if_pos (.inl c3)] at z;exact ⟨rfl,z⟩
     ·rw [decide_eq_false c3,if_neg (by decide)];show if decide (b<0)=true then _ else _
      by_cases c4:b<0
      ·rw [decide_eq_true c4,if_pos rfl];rw [if_pos (.inr c4)] at z;exact ⟨rfl,z⟩
      ·rw [decide_eq_false c4,if_neg (by decide)];rw [if_neg (λw=>w.elim c3 c4)] at z;refine ⟨eZ rfl,?_⟩;show if eD (t3 l) (t3 g.l)=true then _ else _;rw [CC]
       by_cases c5:l=g.l
       ·rw [decide_eq_true c5,if_pos rfl];rw [if_pos c5] at z;exact K (lo,hi,1,some (.p (t3 l)),some (.p (.int a)),some (.p (.int b))) ⟨VY,f1,f2,z⟩
       ·rw [decide_eq_false c5,if_neg (by decide)];rw [if_neg c5] at z;exact K (lo,hi,2,some (.p (t3 l)),some (.p (.int a)),some (.p (.int b))) ⟨VY,f1,f2,z⟩
    ·rw [decide_eq_false c2,if_neg (by decide)];rw [if_neg (λw=>c2 w.2)] at z;show if decide (a<0)=true then _ else _
     by_cases c3:a<0
     ·rw [decide_eq_true c3,if_pos rfl];rw [if_pos c3] at z;exact ⟨_,_,rfl,f1.c (fa (by omega)),K (_,hi,h,_,_,_) ⟨VY,f1.later (fa (by omega)),f2,z⟩⟩
     ·rw [decide_eq_false c3,if_neg (by decide)];rw [if_neg c3] at z;show if decide (b<0)=true then _ else _;rw [decide_eq_false (by omega),if_neg (by decide)];rw [if_neg (by omega)] at z;exact K (lo,hi,h,_,_,_) ⟨VY,f1,f2,z⟩
   ·rw [decide_eq_false c1,if_neg (by decide),if_neg (by decide)];rw [if_neg (λw=>c1 w.1),if_neg (by omega)] at z;show if decide (a<0)=true then _ else _;rw [decide_eq_false (by omega),if_neg (by decide)];show if decide (b<0)=true then _ else _
    by_cases c3:b<0
    ·rw [decide_eq_true c3,if_pos rfl];rw [if_pos c3] at z;exact ⟨_,_,rfl,f2.c (fb (by omega)),K (lo,_,h,_,_,_) ⟨VY,f1,f2.earlier (fb (by omega)),z⟩⟩
    ·rw [decide_eq_false c3,if_neg (by decide)];rw [if_neg c3] at z;exact K (lo,hi,h,_,_,_) ⟨VY,f1,f2,z⟩
  ·rintro ⟨lo,hi,h,v2,v10,v11⟩ ⟨_,f1,f2,z⟩;refine ⟨lo,hi,rfl,f1.c f2,?_⟩;simp only [lO,wQ] at z;show if decide (eS lo hi<0)=true then _ else _
   by_cases c:eS lo hi<0
   ·rw [decide_eq_true c,if_pos rfl];rw [if_pos c] at z;exact ⟨rfl,z⟩
   ·rw [decide_eq_false c,if_neg (by decide)];rw [if_neg c] at z;exact ⟨rfl,z⟩
end
end My
namespace My
open PySem L2 PyProof.Rows
section
variable {P:SS} {w:SW} {K:W.Frag} {mg:Str->Option Value} {base:Heap}
abbrev lG:=Fr×Fr×Bool
def JX:Bool->L2.T
 | false=>.non
 | true=>.bl true
def nI (r:lG):L2.T:=.tup [fr r.1,fr r.2.1,JX r.2.2]
def u9 (lo hi:Fr) (r:lG):List lG:=
 if r.2.2=true then [r] else if 0<=eS (bB r.1 lo) (aP r.2.1 hi) then [r] else
  (if eS r.1 (bB r.1 lo)<0 then [(r.1,bB r.1 lo,false)] else [])++[(bB r.1 lo,aP r.2.1 hi,true)]++(if eS (aP r.2.1 hi) r.2.1<0 then [(aP r.2.1 hi,r.2.1,false)] else [])
def bS (rows:List lG) (lo hi:Fr):List lG:=rows.flatMap (u9 lo hi)
def i8 (rows:List lG):Prop:=∀r∈rows,F2 r.1/\F2 r.2.1
theorem Zb {lo hi:Fr} {r:lG} (h:F2 r.1/\F2 r.2.1) (hl:F2 lo) (hh:F2 hi):i8 (u9 lo hi r):=by
 have f1:=h.1.later hl;have f2:=h.2.earlier hh;unfold u9;intro x m;split at m
 ·have e:x=r:=by simpa using m
  subst e;exact h
 ·split at m
  ·have e:x=r:=by simpa using m
   subst e;exact h
  ·rcases LP.mp m with m | m
   ·rcases LP.mp m with m | m
    ·split at m
     ·have e:=LM.mp m;subst e;exact ⟨h.1,f1⟩
     ·simp at m
    ·have e:=LM.mp m;subst e;exact ⟨f1,f2⟩
   ·split at m
    ·have e:=LM.mp m;subst e;exact ⟨f2,h.2⟩
    ·simp at m
theorem fU {rows:List lG} {lo hi:Fr} (h:i8 rows) (hl:F2 lo) (hh:F2 hi):i8 (bS rows lo hi):=λx m=>by
 obtain ⟨r,mr,m⟩:=ML.mp m;exact Zb (h r mr) hl hh x m
theorem lP:∀(a b:List L2.T),dN (a++b)=(dN a&&dN b)
 | [],b=>rfl
 | x::a,b=>by rw [RP,dN,dN,lP a b,Bool.and_assoc]
theorem O6 (r:lG):noL (nI r)=true:=by
 obtain ⟨a,b,c⟩:=r;cases c<;>rfl
def Ln:iC:=λas Q=>∃(rows:List lG) (lo hi:Fr),as=[.v (.lst (rows.map nI)),.v (fr lo),.v (fr hi),.v (.bl true)]/\rows.length<=300/\i8 rows/\F2 lo/\F2 hi/\Q (.l ((bS rows lo hi).map nI)) []
abbrev wA (P w K mg base):=Fn P w K mg base 3 "parted" ["rows","low","high","name"] (aU K Ln)
abbrev tK:TB:=top 29
theorem iQ:aL ["rows","low","high","name","found","begin","end","given","first","last"] ["rows","low","high","name"] (aG tK):=hU
theorem Ol {f:SO} {fd:SR} (F:eM K "parted" "parted" tK f fd) (TX:Txt mg) (XT:t7 P w K mg base) (WU:nK P w K mg base) (VO:h9 P w K mg base)   : bF P w K mg base e9 3 f fd ["rows","low","high","name"] (aU K Ln):=by
 refine F.okT iQ ?len (λVS A outer s H E hr=>(aE (aX (i:=4) iQ.nd rfl (LA rfl) (bN aA))
 (aE (dY PassesOwn.never rfl (d9 rfl (fv 0)) (bV (n:=3) rfl rfl (aJ (aI (i:=5) iQ.nd rfl (LA rfl)) (aJ (aI (i:=6) iQ.nd rfl (LA rfl)) (aJ (aI (i:=7) iQ.nd rfl (LA rfl)) bK))))
  (aE (gY (i:=8) (j:=9) rfl iQ.nd rfl rfl (by decide) rfl rfl (fc (aC XT hr (by omega) rfl (fc (fv 5) (fc (fv 1) aA))) (fc (aC WU hr (by omega) rfl (fc (fv 6) (fc (fv 2) aA))) aA)) rfl)
 (aE (cU (nP (uR (Yd (fv 7) (aR _)) (nO (cX Bf (aC VO hr (by omega) rfl (fc (fv 8) (fc (fv 9) aA))) aB (aR _))))) (aE (d8 (dX rfl (fv 4) (fc (aO (fc (fv 5) (fc (fv 6) (fc (fv 7) aA)))) aA)))
 (aH Ko)) bY)
 (aE (cU (cX fW (aC VO hr (by omega) rfl (fc (fv 5) (fc (fv 8) aA))) aB (aR _)) (aH (d8 (dX rfl (fv 4) (fc (aO (fc (fv 5) (fc (fv 8) (fc l9 aA)))) aA)))) bY)
 (aE (d8 (dX rfl (fv 4) (fc (aO (fc (fv 8) (fc (fv 9) (fc (fv 3) aA)))) aA)))
 (aH (cU (cX fW (aC VO hr (by omega) rfl (fc (fv 9) (fc (fv 6) aA))) aB (aR _)) (aH (d8 (dX rfl (fv 4) (fc (aO (fc (fv 9) (fc (fv 6) (fc l9 aA)))) aA)))) bY)))))))
 (aH (aQ (fv 4)))))) ?rd
 case len=>rintro as Q ⟨rows,lo,hi,rfl,_⟩;rfl
 case rd=>
  rintro as Q ⟨rows,lo,hi,rfl,hl,hr,h1,h2,q⟩;refine cW (f:=nI) (λs':List L2.T×Option U×Option U×Option U×Option U×Option U=>[some (.p (.lst (rows.map nI))),some (.p (fr lo)),some (.p (fr hi)),some (.p (.bl true)),some (.o false s'.1),s'.2.1,s'.2.2.1,s'.2.2.2.1,s'.2.2.2.2.1,s'.2.2.2.2.2])
   (λrs s'=>i8 rs/\s'.1.length+3*rs.length<=900/\dN s'.1=true/\Q (.l (s'.1++(bS rs lo hi).map nI)) []) ?_ ?_ rows ([],none,none,none,none,none) ⟨hr,by simp;omega,rfl,q⟩
  ·rintro r rs ⟨acc,v5,v6,v7,v8,v9⟩ rest ⟨hrs,hn,YF,z⟩ K;have mn:=hrs r (by simp);have VY:i8 rs:=λx m=>hrs x (by simp [m]);have f1:=mn.1.later h1;have f2:=mn.2.earlier h2;simp only [LJ] at hn;replace z:Q (.l (acc++(u9 lo hi r++bS rs lo hi).map nI)) []:=z;rw [MI] at z;unfold u9 at z;refine ⟨_,_,rfl,mn.1.c h1,_,_,rfl,mn.2.c h2,?_⟩;generalize ea:bB r.1 lo=a at z f1 ⊢;generalize eb:aP r.2.1 hi=b at z f2 ⊢;obtain ⟨rb,re,rg⟩:=r;simp only at z f1 f2 mn ea eb hn;have pk:∀(L:List L2.T) (x:lG),dN L=true->dN (L++[nI x])=true:=λL x h=>by rw [lP,h,dN,O6];rfl
   have l1:∀(x:L2.T),(acc++[x]).length<=1000:=λx=>by rw [LC,ME];omega
   cases rg with
   | true=>
    rw [if_pos rfl] at z;exact ⟨l1 _,K (acc++[nI (rb,re,true)],some (.p (fr rb)),some (.p (fr re)),some (.p (.bl true)),some (.p (fr a)),some (.p (fr b))) ⟨VY,by simp;omega,pk _ _ YF,by rw [LI];exact z⟩⟩
   | false=>
    rw [if_neg (by decide)] at z;refine ⟨_,_,rfl,f1.c f2,?_⟩;show if decide (0<=eS a b)=true then _ else _
    by_cases c:0<=eS a b
    ·rw [decide_eq_true c,if_pos rfl];rw [if_pos c] at z;exact ⟨l1 _,K (acc++[nI (rb,re,false)],some (.p (fr rb)),some (.p (fr re)),some (.p .non),some (.p (fr a)),some (.p (fr b))) ⟨VY,by simp;omega,pk _ _ YF,by rw [LI];exact z⟩⟩
    rw [decide_eq_false c,if_neg (by decide)];rw [if_neg c] at z;refine ⟨_,_,rfl,mn.1.c f1,?_⟩;show if decide (eS rb a<0)=true then _ else _
    -- the tail,whatever was put in ahead
    have tail:∀(L:List L2.T),L.length<=acc.length+1->dN L=true->Q (.l (L++([(a,b,true)]++(if eS b re<0 then [(b,re,false)] else [])).map nI++(bS rs lo hi).map nI)) []->(L++[nI (a,b,true)]).length<=1000/\sz b+sz re<=7900/\
      (if eS b re<0 then ((L++[nI (a,b,true)])++[nI (b,re,false)]).length<=1000/\dN ((L++[nI (a,b,true)])++[nI (b,re,false)])=true/\((L++[nI (a,b,true)])++[nI (b,re,false)]).length+3*rs.length<=900/\Q (.l (((L++[nI (a,b,true)])++[nI (b,re,false)])++(bS rs lo hi).map nI)) []
       else dN (L++[nI (a,b,true)])=true/\(L++[nI (a,b,true)]).length+3*rs.length<=900/\Q (.l ((L++[nI (a,b,true)])++(bS rs lo hi).map nI)) []):=λL hL hN w=>by
     refine ⟨by rw [LC,ME];omega,f2.c mn.2,?_⟩
     by_cases c3:eS b re<0
     ·rw [if_pos c3];rw [if_pos c3] at w;simp only [LC,ME];refine ⟨by omega,pk _ _ (pk _ _ hN),by omega,?_⟩
      simpa using w
     ·rw [if_neg c3];rw [if_neg c3] at w;simp only [LC,ME];exact ⟨pk _ _ hN,by omega,by simpa using w⟩
    by_cases c2:eS rb a<0
    ·rw [decide_eq_true c2,if_pos rfl];rw [if_pos c2] at z;obtain ⟨t1,t2,ZE⟩:=tail (acc++[nI (rb,a,false)]) (by simp) (pk _ _ YF) (by simpa using z);refine ⟨l1 _,t1,_,_,rfl,t2,?_⟩;show if decide (eS b re<0)=true then _ else _
     by_cases c3:eS b re<0
     ·rw [decide_eq_true c3,if_pos rfl];rw [if_pos c3] at ZE;exact ⟨ZE.1,K (_,some (.p (fr rb)),some (.p (fr re)),some (.p .non),some (.p (fr a)),some (.p (fr b))) ⟨VY,ZE.2.2.1,ZE.2.1,ZE.2.2.2⟩⟩
     ·rw [decide_eq_false c3,if_neg (by decide)];rw [if_neg c3] at ZE;exact K (_,some (.p (fr rb)),some (.p (fr re)),some (.p .non),some (.p (fr a)),some (.p (fr b))) ⟨VY,ZE.2.1,ZE.1,ZE.2.2⟩
    ·rw [decide_eq_false c2,if_neg (by decide)];rw [if_neg c2] at z;obtain ⟨t1,t2,ZE⟩:=tail acc (by simp) YF (by simpa using z);refine ⟨t1,_,_,rfl,t2,?_⟩;show if decide (eS b re<0)=true then _ else _
     by_cases c3:eS b re<0
     ·rw [decide_eq_true c3,if_pos rfl];rw [if_pos c3] at ZE;exact ⟨ZE.1,K (_,some (.p (fr rb)),some (.p (fr re)),some (.p .non),some (.p (fr a)),some (.p (fr b))) ⟨VY,ZE.2.2.1,ZE.2.1,ZE.2.2.2⟩⟩
     ·rw [decide_eq_false c3,if_neg (by decide)];rw [if_neg c3] at ZE;exact K (_,some (.p (fr rb)),some (.p (fr re)),some (.p .non),some (.p (fr a)),some (.p (fr b))) ⟨VY,ZE.2.1,ZE.1,ZE.2.2⟩
  ·rintro ⟨acc,v5,v6,v7,v8,v9⟩ ⟨_,_,YF,z⟩;refine ⟨YF,?_⟩;have e:acc++(bS [] lo hi).map nI=acc:=by simp [bS]
   rw [e] at z;exact z
end
end My
namespace My
open PySem L2 PyProof.Rows
section
variable {P:SS} {w:SW} {K:W.Frag} {mg:Str->Option Value} {base:Heap}
abbrev Q2:=Rat×Rat
abbrev Eg:=Q2×Q2
def bQ (u v:Q2):Rat:=u.1*v.2-u.2*v.1
def aW (u v:Q2):Rat:=u.1*v.1+u.2*v.2
def aS (p q:Q2):Q2:=(p.1-q.1,p.2-q.2)
def aV (e:Eg):Q2:=aS e.2 e.1
def fE (e:Eg) (x:Q2):Rat:=bQ (aV e) (aS x e.1)
def gR (p q:Q2) (t:Rat):Q2:=(p.1+(q.1-p.1)*t,p.2+(q.2-p.2)*t)
theorem kE (e:Eg) (p q:Q2) (t:Rat):fE e (gR p q t)=fE e p+(fE e q-fE e p)*t:=by
 unfold fE bQ aV aS gR;grind
def Af (es:List Eg) (x:Q2):Prop:=∀e∈es,0<=fE e x
structure AH (e:Eg) (x:Q2):Prop where
 z:fE e x=0
 a:0<=aW (aV e) (aS x e.1)
 b:0<=aW (aV e) (aS e.2 x)
structure Cx (es:List Eg):Prop where
 inn:∀e∈es,∀g∈es,0<=fE e g.1
 thick:∀e∈es,∃g∈es,0<fE e g.1
 ne:∀e∈es,0<aW (aV e) (aV e)
 nx:∀e∈es,∃g∈es,g.1=e.2/\(0<bQ (aV e) (aV g)\/(bQ (aV e) (aV g)=0/\0<aW (aV e) (aV g)/\∃h∈es,h.1=g.2/\0<bQ (aV g) (aV h)))
 pv:∀e∈es,∃g∈es,g.2=e.1/\(0<bQ (aV g) (aV e)\/(bQ (aV g) (aV e)=0/\0<aW (aV g) (aV e)/\∃h∈es,h.2=g.1/\0<bQ (aV h) (aV g)))
theorem tE {a b:Rat} (h:0<b):0<a*b↔0<a:=⟨dE h,λk=>Rat.mul_pos k h⟩
theorem xX {a b:Rat} (h:0<b):0<=a*b↔0<=a:=⟨bL h,λk=>Rat.mul_nonneg k (Rat.le_of_lt h)⟩
theorem Xj {a b:Rat} (h:a<0) (k:0<b):a*b<0:=by
 have:=Rat.mul_pos (a:=-a) (b:=b) (by grind) k;grind
theorem par {u d:Q2} (hu:0<aW u u) (h:bQ u d=0):d.1*aW u u=aW u d*u.1/\d.2*aW u u=aW u d*u.2:=by
 unfold bQ at h;unfold aW;constructor
 ·have:u.2*(u.1*d.2-u.2*d.1)=0:=by rw [h];grind
  grind
 ·have:u.1*(u.1*d.2-u.2*d.1)=0:=by rw [h];grind
  grind
theorem sL {u d w:Q2} (hu:0<aW u u) (h:bQ u d=0):bQ w d*aW u u=aW u d*bQ w u:=by
 obtain ⟨a,b⟩:=par hu h;unfold bQ;grind
theorem yG {u d w:Q2} (hu:0<aW u u) (h:bQ u d=0):aW w d*aW u u=aW u d*aW w u:=by
 obtain ⟨a,b⟩:=par hu h;unfold aW at a b ⊢;grind
theorem Sa {u w d:Q2} (hu:0<aW u u) (h:bQ u d=0) (k:0<aW u d) (t:0<bQ u w):bQ w d<0:=by
 have e:=sL (w:=w) hu h;have s:bQ w u = - bQ u w:=by unfold bQ;grind
 rw [s] at e;have m:=Rat.mul_pos k t;have:0 < -(bQ w d)*aW u u:=by grind
 have:=dE hu this;grind
theorem Rk {u w d:Q2} (hu:0<aW u u) (h:bQ u d=0) (k:aW u d<0) (t:0<bQ w u):bQ w d<0:=by
 have e:=sL (w:=w) hu h;have m:=Xj k t;have:0 < -(bQ w d)*aW u u:=by grind
 have:=dE hu this;grind
theorem Qn {e g:Eg} (hu:0<aW (aV e) (aV e)) (c:bQ (aV e) (aV g)=0) (d:0<aW (aV e) (aV g)) (z:fE e g.1=0):∃r:Rat,0<r/\∀y,fE g y=r*fE e y:=by
 obtain ⟨a,b⟩:=par hu c;have n0:aW (aV e) (aV e)≠0:=by grind
 refine ⟨aW (aV e) (aV g)/aW (aV e) (aV e),by rw [Rat.div_def];exact Rat.mul_pos d (Rat.inv_pos.mpr hu),λy=>?_⟩;have k1:fE e y-fE e g.1=bQ (aV e) (aS y g.1):=by unfold fE bQ aS;grind
 rw [z] at k1;have k2:fE g y*aW (aV e) (aV e)=aW (aV e) (aV g)*bQ (aV e) (aS y g.1):=by unfold fE bQ;grind
 rw [<-k1] at k2;grind
theorem Cx.on {es:List Eg} (h:Cx es) {e:Eg} {x:Q2} (he:e∈es) (h0:fE e x=0) (hx:Af es x):∃g∈es,AH g x/\∃r:Rat,0<r/\∀y,fE g y=r*fE e y:=by
 have ne:=h.ne e he;have z2:bQ (aV e) (aS x e.2)=0:=by rw [<-h0];unfold fE bQ aV aS;grind
 by_cases hb:0<=aW (aV e) (aS e.2 x)
 ·by_cases ha:0<=aW (aV e) (aS x e.1)
  ·exact ⟨e,he,⟨h0,ha,hb⟩,1,by decide,λy=>by grind⟩
  ·obtain ⟨g,hg,eg,c⟩:=h.pv e he;have ka:aW (aV e) (aS x e.1)<0:=by grind
   have fg:fE g x=bQ (aV g) (aS x e.1):=by rw [<-eg];unfold fE bQ aV aS;grind
   rcases c with c | ⟨c,d,k,hk,ek,t⟩
   ·have:=Rk ne (show bQ (aV e) (aS x e.1)=0 from h0) ka c;have:=hx g hg;grind
   ·have c':bQ (aV e) (aV g)=0:=by unfold bQ at c ⊢;grind
    have d':0<aW (aV e) (aV g):=by unfold aW at d ⊢;grind
    have zg:fE e g.1=0:=by
     have:fE e g.1 = - bQ (aV e) (aV g):=by unfold fE bQ aV aS;rw [eg];grind
     rw [this,c'];rfl
    obtain ⟨r,r0,hr⟩:=Qn ne c' d' zg;have ng:=h.ne g hg;have zx:fE g x=0:=by rw [hr,h0];grind
    have e1:=yG (u:=aV e) (d:=aV g) (w:=aS e.1 x) ne c';have kb:0<aW (aV g) (aS g.2 x):=by
     have s1:aW (aV g) (aS g.2 x)=aW (aS e.1 x) (aV g):=by rw [eg];unfold aW;grind
     have s2:aW (aS e.1 x) (aV e) = -aW (aV e) (aS x e.1):=by unfold aW aS;grind
     rw [s2] at e1;have:=Rat.mul_pos d' (show 0 < -aW (aV e) (aS x e.1) by grind);rw [s1];exact dE ne (by grind)
    refine ⟨g,hg,⟨zx,?_,Rat.le_of_lt kb⟩,r,r0,hr⟩
    by_cases hc:0<=aW (aV g) (aS x g.1)
    ·exact hc
    ·have kk:=Rk ng (show bQ (aV g) (aS x g.1)=0 from zx) (by grind) t;have fk:fE k x=bQ (aV k) (aS x g.1):=by rw [<-ek];unfold fE bQ aV aS;grind
     have:=hx k hk;grind
 ·obtain ⟨g,hg,eg,c⟩:=h.nx e he;have kb:0<aW (aV e) (aS x e.2):=by
   have:aW (aV e) (aS x e.2) = - aW (aV e) (aS e.2 x):=by unfold aW aS;grind
   grind
  have fg:fE g x=bQ (aV g) (aS x e.2):=by rw [<-eg];rfl
  rcases c with c | ⟨c,d,k,hk,ek,t⟩
  ·have:=Sa ne z2 kb c;have:=hx g hg;grind
  ·have zg:fE e g.1=0:=by
    rw [eg];unfold fE bQ aV aS;grind
   obtain ⟨r,r0,hr⟩:=Qn ne c d zg;have ng:=h.ne g hg;have zx:fE g x=0:=by rw [hr,h0];grind
   have e1:=yG (u:=aV e) (d:=aV g) (w:=aS x e.2) ne c;have ka:0<aW (aV g) (aS x g.1):=by
    have s1:aW (aV g) (aS x g.1)=aW (aS x e.2) (aV g):=by rw [eg];unfold aW;grind
    have s2:aW (aS x e.2) (aV e)=aW (aV e) (aS x e.2):=by unfold aW;grind
    rw [s2] at e1;have:=Rat.mul_pos d kb;rw [s1];exact dE ne (by grind)
   refine ⟨g,hg,⟨zx,Rat.le_of_lt ka,?_⟩,r,r0,hr⟩
   by_cases hc:0<=aW (aV g) (aS g.2 x)
   ·exact hc
   ·have z3:bQ (aV g) (aS x g.2)=0:=by rw [<-zx];unfold fE bQ aV aS;grind
    have k3:0<aW (aV g) (aS x g.2):=by
     have:aW (aV g) (aS x g.2) = - aW (aV g) (aS g.2 x):=by unfold aW aS;grind
     grind
    have kk:=Sa ng z3 k3 t;have fk:fE k x=bQ (aV k) (aS x g.2):=by rw [<-ek];rfl
    have:=hx k hk;grind
theorem Sv {α:Type} (f:α->Rat):∀(xs:List α),xs≠[]->∃x∈xs,∀y∈xs,f y<=f x
 | [],h=>absurd rfl h
 | [x],_=>⟨x,by simp,λy m=>by rw [LM] at m;rw [m];grind⟩
 | x::z::r,_=>by
  obtain ⟨m,hm,k⟩:=Sv f (z::r) (by simp)
  by_cases c:f x<=f m
  ·exact ⟨m,by simp [hm],λy hy=>by
    rcases KR.mp hy with rfl | hy
    ·exact c
    ·exact k y hy⟩
  ·exact ⟨x,by simp,λy hy=>by
    rcases KR.mp hy with rfl | hy
    ·grind
    ·have:=k y hy;grind⟩
theorem Cx.far {es:List Eg} (h:Cx es) (n0:es≠[]) (w:Q2):∃e∈es,∃g∈es,e.2=g.1/\0<bQ (aV e) (aV g)/\∀k∈es,aW w k.1<=aW w g.1:=by
 obtain ⟨g,hg,mx⟩:=Sv (λe:Eg=>aW w e.1) es n0;obtain ⟨e,he,eg,c⟩:=h.pv g hg;rcases c with c | ⟨c,d,k,hk,ek,t⟩
 ·exact ⟨e,he,g,hg,eg,c,mx⟩
 ·refine ⟨k,hk,e,he,ek,t,λy hy=>?_⟩;obtain ⟨n,hn,en,_⟩:=h.nx g hg;have a2:aW w n.1<=aW w g.1:=mx n hn;rw [en] at a2;have c':bQ (aV e) (aV g)=0:=c;have e1:=yG (u:=aV e) (d:=aV g) (w:=w) (h.ne e he) c';have b1:aW w (aV e)=aW w g.1-aW w e.1:=by rw [<-eg];unfold aW aV aS;grind
  have b2:aW w (aV g)=aW w g.2-aW w g.1:=by unfold aW aV aS;grind
  have b3:aW w (aV e)<=0:=by
   refine Rat.not_lt.mp λq=>?_;have:=Rat.mul_pos d q;rw [<-e1] at this;have:=dE (h.ne e he) this;grind
  have:aW w y.1<=aW w g.1:=mx y hy;grind
theorem Cx.box {es:List Eg} (h:Cx es) (n0:es≠[]) (w:Q2) {x:Q2} (hx:Af es x):∃g∈es,aW w x<=aW w g.1:=by
 obtain ⟨e,he,g,hg,eg,t,mx⟩:=h.far n0 w;refine ⟨g,hg,?_⟩;have f1:=hx e he;have f2:=hx g hg;obtain ⟨n,hn,en,_⟩:=h.nx g hg;have a1:=mx e he;have a2:=mx n hn;rw [en] at a2;have k1:fE e x=bQ (aV e) (aS x g.1):=by rw [<-eg];unfold fE bQ aV aS;grind
 have k2:fE g x=bQ (aV g) (aS x g.1):=rfl;rw [k1] at f1;rw [k2] at f2;have id1:(aW w x-aW w g.1)*bQ (aV e) (aV g) = -((aW w g.1-aW w e.1)*bQ (aV g) (aS x g.1))+(aW w g.2-aW w g.1)*bQ (aV e) (aS x g.1):=by
  rw [show g.1=e.2 from eg.symm];unfold aW bQ aV aS;grind
 have m1:=Rat.mul_nonneg (show 0<=aW w g.1-aW w e.1 by grind) f2;have m2:=Rat.mul_nonneg (show 0<=aW w g.1-aW w g.2 by grind) f1;refine Rat.not_lt.mp λq=>?_;have:=Rat.mul_pos (show 0<aW w x-aW w g.1 by grind) t;grind
theorem Cx.orient {es:List Eg} (h:Cx es) {p q:Q2} {e g:Eg} (he:e∈es) (hg:g∈es) (e1:fE e p=0) (e2:fE e q=0) (g1:fE g p=0) (g2:fE g q=0) (hp:0<aW (aS q p) (aS q p)) (k:0<aW (aV e) (aS q p)):0<aW (aV g) (aS q p):=by
 have key:∀e:Eg,fE e p=0->fE e q=0->∀y,fE e y*aW (aS q p) (aS q p)=aW (aV e) (aS q p)*bQ (aS q p) (aS y p):=λe z1 z2 y=>by
  have c:bQ (aS q p) (aV e)=0:=by
   have:bQ (aS q p) (aV e)=fE e p-fE e q:=by unfold fE bQ aV aS;grind
   rw [this,z1,z2];grind
  obtain ⟨a,b⟩:=par hp c;have s:fE e y=fE e y-fE e p:=by rw [z1];grind
  have s2:fE e y-fE e p=bQ (aV e) (aS y p):=by unfold fE bQ aS;grind
  rw [s,s2];have s3:aW (aS q p) (aV e)=aW (aV e) (aS q p):=by unfold aW;grind
  rw [s3] at a b;unfold bQ at *;grind
 obtain ⟨y,hy,fy⟩:=h.thick e he;obtain ⟨y',qq,fy'⟩:=h.thick g hg;have a1:=key e e1 e2 y.1;have b1:=key g g1 g2 y.1;have b2:=key g g1 g2 y'.1;have i1:=h.inn g hg y hy;have m1:=Rat.mul_pos fy hp;rw [a1] at m1;have c0:0<bQ (aS q p) (aS y.1 p):=by
  refine dE k ?_;grind
 have m2:=Rat.mul_nonneg i1 (Rat.le_of_lt hp);rw [b1] at m2;have d0:=bL c0 m2;have m3:=Rat.mul_pos fy' hp;rw [b2] at m3
 by_cases z:aW (aV g) (aS q p)=0
 ·rw [z] at m3;grind
 ·grind
end
end My
namespace My
open PySem L2 PyProof.Rows
section
variable {P:SS} {w:SW} {K:W.Frag} {mg:Str->Option Value} {base:Heap}
theorem dR {p:Fr} (h:1<=p.2):(0:Rat)<(p.2:Rat):=by exact_mod_cast (show (0:Int)<p.2 by omega)
theorem vd {p:Fr} (h:1<=p.2):val p*(p.2:Rat)=(p.1:Rat):=by have:=dR h;unfold val;grind
theorem JP {p:Fr} {t:Rat} (h:1<=p.2):val p<=t↔(p.1:Rat)<=t*(p.2:Rat):=by
 have d:=dR h;have e:=vd h;have:0<=(t-val p)*(p.2:Rat)↔0<=t-val p:=xX d;grind
theorem JO {p:Fr} {t:Rat} (h:1<=p.2):t<=val p↔t*(p.2:Rat)<=(p.1:Rat):=by
 have d:=dR h;have e:=vd h;have:0<=(val p-t)*(p.2:Rat)↔0<=val p-t:=xX d;grind
theorem gV {x y:Fr} (hx:1<=x.2) (hy:1<=y.2):eS x y<0↔val x<val y:=by
 have d1:=dR hx;have d2:=dR hy;have e1:=vd hx;have e2:=vd hy;have k:val x<val y↔x.1*y.2<y.1*x.2:=by
  have m:=Rat.mul_pos d1 d2;have i1:(val y-val x)*((x.2:Rat)*(y.2:Rat))=(y.1:Rat)*x.2-(x.1:Rat)*y.2:=by grind
  have i2:=tE (a:=val y-val x) m;rw [i1] at i2;have i3:(x.1:Rat)*y.2<(y.1:Rat)*x.2↔x.1*y.2<y.1*x.2:=by norm_cast
  rw [<-i3];grind
 rw [k];unfold eS
 split
 ·simp [*]
 ·split<;>simp [*]
theorem Um (x y:Fr):bB x y=x\/bB x y=y:=by unfold bB;split<;>simp
theorem Kh {x y:Fr} (hx:1<=x.2) (hy:1<=y.2):1<=(bB x y).2:=by unfold bB;split<;>assumption
theorem wY {x y:Fr} (hx:1<=x.2) (hy:1<=y.2):1<=(aP x y).2:=by unfold aP;split<;>assumption
theorem uM {x y:Fr} {t:Rat} (hx:1<=x.2) (hy:1<=y.2):val (bB x y)<=t↔val x<=t/\val y<=t:=by
 have c:=gV hx hy;unfold bB
 split<;>grind
theorem tH {x y:Fr} {t:Rat} (hx:1<=x.2) (hy:1<=y.2):t<=val (aP x y)↔t<=val x/\t<=val y:=by
 have c:=gV hx hy;unfold aP
 split<;>grind
def Ad (a b:Int) (t:Rat):Rat:=(a:Rat)+((b:Rat)-(a:Rat))*t
theorem HI {a b:Int} {t1 t2:Rat} (h1:a<=0) (h2:b<=0) (h:a<0\/b<0) (k0:0<=t1) (k:t1<t2) (k1:t2<=1) (z1:0<=Ad a b t1) (z2:0<=Ad a b t2):False:=by
 have q1:(a:Rat)<=0:=by exact_mod_cast h1
 have q2:(b:Rat)<=0:=by exact_mod_cast h2
 unfold Ad at z1 z2;have e2:=Rat.mul_nonneg (show 0<=-(b:Rat) by grind) k0;have e3:=Rat.mul_nonneg (show 0<=-(a:Rat) by grind) (show 0<=1-t2 by grind);rcases h with h | h
 ·have q:(a:Rat)<0:=by exact_mod_cast h
  have:=Rat.mul_pos (show 0 < -(a:Rat) by grind) (show 0<1-t1 by grind);grind
 ·have q:(b:Rat)<0:=by exact_mod_cast h
  have:=Rat.mul_pos (show 0 < -(b:Rat) by grind) (show 0<t2 by grind);grind
theorem GZ {a b:Int} {t:Rat} (h:a<0) (k:0<b):0<=Ad a b t↔val (-a,b-a)<=t:=by
 rw [JP (show (1:Int)<=b-a by omega)];unfold Ad
 push_cast
 grind
theorem HR {a b:Int} {t:Rat} (h:0<a) (k:b<0):0<=Ad a b t↔t<=val (a,a-b):=by
 rw [JO (show (1:Int)<=a-b by omega)];unfold Ad
 push_cast
 grind
theorem HK {a b:Int} {t:Rat} (h:0<=a) (k:0<=b) (t0:0<=t) (t1:t<=1):0<=Ad a b t:=by
 have q1:(0:Rat)<=a:=by exact_mod_cast h
 have q2:(0:Rat)<=b:=by exact_mod_cast k
 have e1:=Rat.mul_nonneg q1 (show 0<=1-t by grind);have e2:=Rat.mul_nonneg q2 t0;unfold Ad;grind
theorem IE {a b:Int} {t:Rat} (h:a=0) (k:b=0):Ad a b t=0:=by subst h;subst k;unfold Ad;push_cast;grind
theorem BV {a b:Int} (h:a<0) (k:0<b):Ad a b (val (-a,b-a))=0:=by
 have:=vd (p:=(-a,b-a)) (show (1:Int)<=b-a by omega);simp only at this
 push_cast at this
 unfold Ad;grind
theorem CP {a b:Int} (h:0<a) (k:b<0):Ad a b (val (a,a-b))=0:=by
 have:=vd (p:=(a,a-b)) (show (1:Int)<=a-b by omega);simp only at this
 push_cast at this
 unfold Ad;grind
def lA (b e l:I3):Int:=gQ l b*e.2.2
def lB (b e l:I3):Int:=gQ l e*b.2.2
def lF (b e l:I3) (t:Rat):Rat:=Ad (lA b e l) (lB b e l) t
structure KN (b e own:I3) (ls:List I3) (lo hi:Fr) (h:Nat) (r:Fr×Fr×Nat):Prop where
 d1:1<=r.1.2
 d2:1<=r.2.1.2
 s:∀t,0<=t->t<=1->((val lo<=t/\t<=val hi/\∀l∈ls,0<=lF b e l t)↔(val r.1<=t/\t<=val r.2.1))
 lo:r.1=lo\/(val lo<val r.1/\∃l∈ls,lA b e l<0/\0<lB b e l/\lF b e l (val r.1)=0)
 hi:r.2.1=hi\/(val r.2.1<=val hi/\∃l∈ls,0<lA b e l/\lB b e l<0/\lF b e l (val r.2.1)=0)
 h:(r.2.2=h/\∀l∈ls,¬(lA b e l=0/\lB b e l=0))\/∃l∈ls,lA b e l=0/\lB b e l=0/\r.2.2=if l=own then 1 else 2
theorem mS {b e own:I3}:∀(ls:List I3) (lo hi:Fr) (h:Nat) (r:Fr×Fr×Nat),lO b e own ls lo hi h=some r->1<=lo.2->1<=hi.2->KN b e own ls lo hi h r
 | [],lo,hi,h,r,e1,d1,d2=>by cases e1;exact ⟨d1,d2,λt _ _=>by simp,.inl rfl,.inl rfl,.inl ⟨rfl,by simp⟩⟩
 | l::ls,lo,hi,h,r,e1,d1,d2=>by
  unfold lO at e1;simp only [<-show lA b e l=gQ l b*e.2.2 from rfl,<-show lB b e l=gQ l e*b.2.2 from rfl] at e1;split at e1
  ·split at e1
   ·cases e1
   ·rename_i c1 c2;obtain ⟨o1,o2,o3,o4,o5,o6⟩:=mS ls _ _ _ r e1 d1 d2;have za:lA b e l=0:=by omega
    have zb:lB b e l=0:=by omega
    refine ⟨o1,o2,λt t0 t1=>?_,o4.imp id λ⟨q,m,hm,k⟩=>⟨q,m,by simp [hm],k⟩,o5.imp id λ⟨q,m,hm,k⟩=>⟨q,m,by simp [hm],k⟩,?_⟩
    ·rw [<-o3 t t0 t1];have:0<=lF b e l t:=by unfold lF;rw [IE za zb];grind
     simp [this]
    ·rcases o6 with ⟨k1,k2⟩ | ⟨m,hm,k⟩
     ·exact .inr ⟨l,by simp,za,zb,k1⟩
     ·exact .inr ⟨m,by simp [hm],k⟩
  ·split at e1
   ·rename_i c1 c2;have hb:0<lB b e l:=by omega
    have dn:1<=(-lA b e l,lB b e l-lA b e l).2:=by show 1<=lB b e l-lA b e l;omega
    obtain ⟨o1,o2,o3,o4,o5,o6⟩:=mS ls _ _ _ r e1 (Kh d1 dn) d2;have f3:=λt=>GZ (t:=t) c2 hb;refine ⟨o1,o2,λt t0 t1=>?_,?_,o5.imp id λ⟨q,m,hm,k⟩=>⟨q,m,by simp [hm],k⟩,?_⟩
    ·rw [<-o3 t t0 t1,uM d1 dn,<-f3 t];simp only [KR,forall_eq_or_imp];unfold lF;grind
    ·rcases o4 with o4 | ⟨q,m,hm,k⟩
     ·rcases Um lo (-lA b e l,lB b e l-lA b e l) with q | q
      ·rw [q] at o4;exact .inl o4
      ·by_cases c:val lo<val (-lA b e l,lB b e l-lA b e l)
       ·rw [o4,q];exact .inr ⟨c,l,by simp,c2,hb,BV c2 hb⟩
       ·have n:=mt (gV d1 dn).mp c;unfold bB at o4;rw [if_neg n] at o4;exact .inl o4
     ·have:=(uM d1 dn (t:=val r.1)).mp (Rat.le_of_lt q);have w:val lo<=val (bB lo (-lA b e l,lB b e l-lA b e l)):=((uM d1 dn).mp (Rat.le_refl)).1;exact .inr ⟨by grind,m,by simp [hm],k⟩
    ·rcases o6 with ⟨k1,k2⟩ | ⟨m,hm,k⟩
     ·refine .inl ⟨k1,λm hm=>?_⟩;rcases KR.mp hm with rfl | hm
      ·omega
      ·exact k2 m hm
     ·exact .inr ⟨m,by simp [hm],k⟩
   ·split at e1
    ·rename_i c1 c2 c3;have ha:0<lA b e l:=by omega
     have dn:1<=(lA b e l,lA b e l-lB b e l).2:=by show 1<=lA b e l-lB b e l;omega
     obtain ⟨o1,o2,o3,o4,o5,o6⟩:=mS ls _ _ _ r e1 d1 (wY d2 dn);have f4:=λt=>HR (t:=t) ha c3;refine ⟨o1,o2,λt t0 t1=>?_,o4.imp id λ⟨q,m,hm,k⟩=>⟨q,m,by simp [hm],k⟩,?_,?_⟩
     ·rw [<-o3 t t0 t1,tH d2 dn,<-f4 t];simp only [KR,forall_eq_or_imp];unfold lF;grind
     ·rcases o5 with o5 | ⟨q,m,hm,k⟩
      ·by_cases n:eS hi (lA b e l,lA b e l-lB b e l)<0
       ·unfold aP at o5;rw [if_pos n] at o5;exact .inl o5
       ·unfold aP at o5;rw [if_neg n] at o5;have n':=mt (gV d2 dn).mpr n;rw [o5];exact .inr ⟨by grind,l,by simp,ha,c3,CP ha c3⟩
      ·have w:val (aP hi (lA b e l,lA b e l-lB b e l))<=val hi:=((tH d2 dn).mp (Rat.le_refl)).1;exact .inr ⟨by grind,m,by simp [hm],k⟩
     ·rcases o6 with ⟨k1,k2⟩ | ⟨m,hm,k⟩
      ·refine .inl ⟨k1,λm hm=>?_⟩;rcases KR.mp hm with rfl | hm
       ·omega
       ·exact k2 m hm
      ·exact .inr ⟨m,by simp [hm],k⟩
    ·rename_i c1 c2 c3;obtain ⟨o1,o2,o3,o4,o5,o6⟩:=mS ls _ _ _ r e1 d1 d2;refine ⟨o1,o2,λt t0 t1=>?_,o4.imp id λ⟨q,m,hm,k⟩=>⟨q,m,by simp [hm],k⟩,o5.imp id λ⟨q,m,hm,k⟩=>⟨q,m,by simp [hm],k⟩,?_⟩
     ·rw [<-o3 t t0 t1];have:0<=lF b e l t:=HK (by omega) (by omega) t0 t1;simp [this]
     ·rcases o6 with ⟨k1,k2⟩ | ⟨m,hm,k⟩
      ·refine .inl ⟨k1,λm hm=>?_⟩;rcases KR.mp hm with rfl | hm
       ·omega
       ·exact k2 m hm
      ·exact .inr ⟨m,by simp [hm],k⟩
theorem oG {b e own:I3}:∀(ls:List I3) (lo hi:Fr) (h:Nat),lO b e own ls lo hi h=none->∀t1 t2:Rat,0<=t1->t1<t2->t2<=1->(∀l∈ls,0<=lF b e l t1)->(∀l∈ls,0<=lF b e l t2)->False
 | [],lo,hi,h,e1=>by cases e1
 | l::ls,lo,hi,h,e1=>by
  intro t1 t2 k0 k k1 z1 z2;have r1:=λm hm=>z1 m (LQ l hm);have r2:=λm hm=>z2 m (LQ l hm);have y1:=z1 l (by simp);have y2:=z2 l (by simp);unfold lO at e1;simp only [<-show lA b e l=gQ l b*e.2.2 from rfl,<-show lB b e l=gQ l e*b.2.2 from rfl] at e1;split at e1
  ·rename_i c1;split at e1
   ·rename_i c2;exact HI c1.1 c1.2 c2 k0 k k1 y1 y2
   ·exact oG ls _ _ _ e1 t1 t2 k0 k k1 r1 r2
  ·split at e1
   ·exact oG ls _ _ _ e1 t1 t2 k0 k k1 r1 r2
   ·split at e1
    ·exact oG ls _ _ _ e1 t1 t2 k0 k k1 r1 r2
    ·exact oG ls _ _ _ e1 t1 t2 k0 k k1 r1 r2
end
end My
namespace My
open PySem L2 PyProof.Rows
section
variable {P:SS} {w:SW} {K:W.Frag} {mg:Str->Option Value} {base:Heap}
def eO (rows:List lG):List (Fr×Fr):=(rows.filter λr=>!r.2.2).map λr=>(r.1,r.2.1)
def Ch:Rat->Bool->List lG->Prop
 | _,_,[]=>True
 | x,pn,r::rs=>x=val r.1/\val r.1<val r.2.1/\¬(pn=true/\r.2.2=false)/\Ch (val r.2.1) (!r.2.2) rs
theorem Ch.weak {x:Rat} {b:Bool} {rs:List lG} (h:Ch x true rs):Ch x b rs:=by
 cases rs with
 | nil=>trivial
 | cons r rs=>
  obtain ⟨h1,h2,h3,h4⟩:=h;exact ⟨h1,h2,λz=>h3 ⟨rfl,z.2⟩,h4⟩
def Ak (p:Prop) [Decidable p]:Nat:=if p then 1 else 0
theorem Qz {p q:Prop} [Decidable p] [Decidable q] (h:p->q):Ak p<=Ak q:=by
 unfold Ak
 by_cases c:p
 ·rw [if_pos c,if_pos (h c)];omega
 ·rw [if_neg c];omega
theorem L5 {p:Prop} [Decidable p] (h:p):Ak p=1:=if_pos h
theorem K4 {p:Prop} [Decidable p] (h:¬p):Ak p=0:=if_neg h
def vL (rs:List lG):Nat:=(rs.filter λr=>!r.2.2).length
theorem j5 (r:lG) (rs:List lG):vL (r::rs)=(if r.2.2=true then 0 else 1)+vL rs:=by
 unfold vL;cases h:r.2.2 with
 | true=>rw [NM (by rw [h];decide)];simp
 | false=>rw [NG (by rw [h];decide),LJ];simp;omega
theorem sC (a b:List lG):vL (a++b)=vL a+vL b:=by unfold vL;rw [RH,LC]
theorem Ld {x y:Fr} (hx:1<=x.2) (hy:1<=y.2):(val x<val y/\bB x y=y)\/(val y<=val x/\bB x y=x):=by
 have c:=gV hx hy;unfold bB
 by_cases d:eS x y<0
 ·exact .inl ⟨c.mp d,if_pos d⟩
 ·exact .inr ⟨Rat.not_lt.mp (mt c.mpr d),if_neg d⟩
theorem vW {x y:Fr} (hx:1<=x.2) (hy:1<=y.2):(val x<val y/\aP x y=x)\/(val y<=val x/\aP x y=y):=by
 have c:=gV hx hy;unfold aP
 by_cases d:eS x y<0
 ·exact .inl ⟨c.mp d,if_pos d⟩
 ·exact .inr ⟨Rat.not_lt.mp (mt c.mpr d),if_neg d⟩
theorem Vg {x y:Fr} (hx:1<=x.2) (hy:1<=y.2):0<=eS x y↔val y<=val x:=by
 have c:=gV hx hy;constructor
 ·intro h;exact Rat.not_lt.mp (mt c.mpr (by omega))
 ·intro h;have:=mt c.mp (Rat.not_lt.mpr h);omega
theorem Ce {lo hi:Fr} {r:lG} (h1:1<=r.1.2) (h2:1<=r.2.1.2) (hl:1<=lo.2) (hh:1<=hi.2) :
  ((r.2.2=true\/val (aP r.2.1 hi)<=val (bB r.1 lo))/\u9 lo hi r=[r])\/
  (r.2.2=false/\val (bB r.1 lo)<val (aP r.2.1 hi)/\u9 lo hi r=(if val r.1<val (bB r.1 lo) then [(r.1,bB r.1 lo,false)] else [])++[(bB r.1 lo,aP r.2.1 hi,true)]++(if val (aP r.2.1 hi)<val r.2.1 then [(aP r.2.1 hi,r.2.1,false)] else [])):=by
 have d1:=Kh h1 hl;have d2:=wY h2 hh;unfold u9
 by_cases c:r.2.2=true
 ·exact .inl ⟨.inl c,if_pos c⟩
 ·rw [if_neg c]
  by_cases d:0<=eS (bB r.1 lo) (aP r.2.1 hi)
  ·exact .inl ⟨.inr ((Vg d1 d2).mp d),if_pos d⟩
  ·rw [if_neg d];refine .inr ⟨by simpa using c,Rat.not_le.mp (mt (Vg d1 d2).mpr d),?_⟩
   congr 1
   ·congr 1
    by_cases e:eS r.1 (bB r.1 lo)<0
    ·rw [if_pos e,if_pos ((gV h1 d1).mp e)]
    ·rw [if_neg e,if_neg (mt (gV h1 d1).mpr e)]
   ·by_cases e:eS (aP r.2.1 hi) r.2.1<0
    ·rw [if_pos e,if_pos ((gV d2 h2).mp e)]
    ·rw [if_neg e,if_neg (mt (gV d2 h2).mpr e)]
theorem pG {lo hi:Fr} (hl:1<=lo.2) (hh:1<=hi.2):∀{rows:List lG} {x:Rat} {pn:Bool},i8 rows->Ch x pn rows->Ch x pn (bS rows lo hi)/\(bS rows lo hi).length<=rows.length+Ak (x<val lo)+Ak (x<val hi)/\vL (bS rows lo hi)<=vL rows+Ak (x<val lo)
 | [],x,pn,_,_=>by simp [bS,Ch,vL]
 | r::rows,x,pn,ok,ch=>by
  obtain ⟨o1,o2⟩:=ok r (by simp);have rest:=λ{x pn}=>pG hl hh (rows:=rows) (x:=x) (pn:=pn) λy m=>ok y (by simp [m]);obtain ⟨c1,c2,c3,c4⟩:=ch;obtain ⟨i1,i2,i3⟩:=rest c4;have e:bS (r::rows) lo hi=u9 lo hi r++bS rows lo hi:=by unfold bS;rw [MT]
  rw [e];have aB0:Ak (val r.2.1<val lo)<=Ak (x<val lo):=Qz λz=>by grind
  have aB1:Ak (val r.2.1<val hi)<=Ak (x<val hi):=Qz λz=>by grind
  rcases Ce o1.d o2.d hl hh with ⟨_,q⟩ | ⟨q0,q1,q⟩
  ·rw [q];refine ⟨⟨c1,c2,c3,i1⟩,?_,?_⟩
   ·simp only [List.singleton_append,LJ];omega
   ·rw [List.singleton_append,j5,j5];omega
  ·have l1:=Ld o1.d hl;have l2:=vW o2.d hh;rw [q];rw [q0] at i1 c3;have b1:val r.1<=val (bB r.1 lo):=by rcases l1 with ⟨_,z⟩ | ⟨_,z⟩<;>rw [z]<;>grind
   have b2:val (aP r.2.1 hi)<=val r.2.1:=by rcases l2 with ⟨_,z⟩ | ⟨_,z⟩<;>rw [z]<;>grind
   have pn0:pn=false:=by
    cases pn with
    | false=>rfl
    | true=>exact absurd ⟨rfl,rfl⟩ c3
   have hA:val r.1<val (bB r.1 lo)->Ak (x<val lo)=1/\Ak (val r.2.1<val lo)=0:=λz=>by
    rcases l1 with ⟨w,w'⟩ | ⟨w,w'⟩
    ·rw [w'] at q1;exact ⟨L5 (by grind),K4 (by grind)⟩
    ·rw [w'] at z;grind
   have hB:val (aP r.2.1 hi)<val r.2.1->Ak (x<val hi)=1/\Ak (val r.2.1<val hi)=0:=λz=>by
    rcases l2 with ⟨w,w'⟩ | ⟨w,w'⟩
    ·rw [w'] at z;grind
    ·rw [w'] at q1;exact ⟨L5 (by grind),K4 (by grind)⟩
   by_cases cA:val r.1<val (bB r.1 lo)
   ·rw [if_pos cA];obtain ⟨a1,a2⟩:=hA cA
    by_cases cB:val (aP r.2.1 hi)<val r.2.1
    ·rw [if_pos cB];obtain ⟨jq,sf⟩:=hB cB;refine ⟨⟨c1,cA,c3,rfl,q1,λz=>(show (true:Bool)≠false by decide) z.2,rfl,cB,λz=>(show (false:Bool)≠true by decide) z.1,i1⟩,?_,?_⟩
     ·simp only [LC,LJ,NF];omega
     ·rw [sC,j5,q0];have:vL ([(r.1,bB r.1 lo,false)]++[(bB r.1 lo,aP r.2.1 hi,true)]++[(aP r.2.1 hi,r.2.1,false)])=2:=rfl;rw [this];simp only [OC,if_false];omega
    ·rw [if_neg cB];have eB:val (aP r.2.1 hi)=val r.2.1:=by grind
     refine ⟨⟨c1,cA,c3,rfl,q1,λz=>(show (true:Bool)≠false by decide) z.2,by rw [eB];exact i1.weak⟩,?_,?_⟩
     ·simp only [LC,LJ,NF];omega
     ·rw [sC,j5,q0];have:vL ([(r.1,bB r.1 lo,false)]++[(bB r.1 lo,aP r.2.1 hi,true)]++[])=1:=rfl;rw [this];simp only [OC,if_false];omega
   ·rw [if_neg cA];have eA:val r.1=val (bB r.1 lo):=by grind
    by_cases cB:val (aP r.2.1 hi)<val r.2.1
    ·rw [if_pos cB];obtain ⟨jq,sf⟩:=hB cB;refine ⟨⟨by rw [c1];exact eA,q1,λz=>(show (true:Bool)≠false by decide) z.2,rfl,cB,λz=>(show (false:Bool)≠true by decide) z.1,i1⟩,?_,?_⟩
     ·simp only [LC,LJ,NF];omega
     ·rw [sC,j5,q0];have:vL ([]++[(bB r.1 lo,aP r.2.1 hi,true)]++[(aP r.2.1 hi,r.2.1,false)])=1:=rfl;rw [this];simp only [OC,if_false];omega
    ·rw [if_neg cB];have eB:val (aP r.2.1 hi)=val r.2.1:=by grind
     refine ⟨⟨by rw [c1];exact eA,q1,λz=>(show (true:Bool)≠false by decide) z.2,by rw [eB];exact i1.weak⟩,?_,?_⟩
     ·simp only [LC,LJ,NF];omega
     ·rw [sC,j5,q0];have:vL ([]++[(bB r.1 lo,aP r.2.1 hi,true)]++[])=0:=rfl;rw [this];simp only [OC,if_false];omega
theorem wW (p:Prop) [Decidable p]:Ak p<=1:=by unfold Ak;split<;>omega
def Nn (rows:List lG) (t:Rat):Prop:=∃r∈rows,r.2.2=false/\val r.1<t/\t<val r.2.1
theorem Kw {lo hi:Fr} (hl:1<=lo.2) (hh:1<=hi.2) {rows:List lG} (ok:i8 rows) {t:Rat} (t1:t≠val lo) (t2:t≠val hi):Nn (bS rows lo hi) t↔Nn rows t/\¬(val lo<t/\t<val hi):=by
 have one:∀r∈rows,(∃z∈u9 lo hi r,z.2.2=false/\val z.1<t/\t<val z.2.1)↔(r.2.2=false/\val r.1<t/\t<val r.2.1)/\¬(val lo<t/\t<val hi):=λr m=>by
  obtain ⟨o1,o2⟩:=ok r m;have l1:=Ld o1.d hl;have l2:=vW o2.d hh;rcases Ce o1.d o2.d hl hh with ⟨q0,q⟩ | ⟨q0,q1,q⟩
  ·rw [q];constructor
   ·rintro ⟨z,mz,k⟩;rw [LM] at mz;subst mz;refine ⟨k,λw=>?_⟩;rcases q0 with q0 | q0
    ·rw [q0] at k;exact absurd k.1 (by decide)
    ·rcases l1 with ⟨_,e1⟩ | ⟨_,e1⟩<;>rcases l2 with ⟨_,e2⟩ | ⟨_,e2⟩<;>rw [e1,e2] at q0<;>grind
   ·rintro ⟨k,_⟩;exact ⟨r,by simp,k⟩
  ·rw [q];have b1:val r.1<=val (bB r.1 lo)/\val lo<=val (bB r.1 lo)/\(val (bB r.1 lo)=val r.1\/val (bB r.1 lo)=val lo):=by rcases l1 with ⟨_,z⟩ | ⟨_,z⟩<;>rw [z]<;>grind
   have b2:val (aP r.2.1 hi)<=val r.2.1/\val (aP r.2.1 hi)<=val hi/\(val (aP r.2.1 hi)=val r.2.1\/val (aP r.2.1 hi)=val hi):=by rcases l2 with ⟨_,z⟩ | ⟨_,z⟩<;>rw [z]<;>grind
   constructor
   ·rintro ⟨z,mz,k⟩;refine ⟨⟨q0,?_⟩,?_⟩
    ·rcases LP.mp mz with mz | mz
     ·rcases LP.mp mz with mz | mz
      ·split at mz
       ·rw [LM] at mz;subst mz;simp only at k;grind
       ·simp at mz
      ·rw [LM] at mz;subst mz;exact absurd k.1 (show (true:Bool)≠false by decide)
     ·split at mz
      ·rw [LM] at mz;subst mz;simp only at k;grind
      ·simp at mz
    ·rcases LP.mp mz with mz | mz
     ·rcases LP.mp mz with mz | mz
      ·split at mz
       ·rw [LM] at mz;subst mz;simp only at k;grind
       ·simp at mz
      ·rw [LM] at mz;subst mz;exact absurd k.1 (show (true:Bool)≠false by decide)
     ·split at mz
      ·rw [LM] at mz;subst mz;simp only at k;grind
      ·simp at mz
   ·rintro ⟨⟨_,k1,k2⟩,k3⟩
    by_cases c:t<val lo
    ·refine ⟨(r.1,bB r.1 lo,false),?_,rfl,k1,by simp only;grind⟩;rw [if_pos (show val r.1<val (bB r.1 lo) by grind)];simp
    ·have w1:val lo<t:=by grind
     have w2:val hi<t:=by
      have:=mt (λz=>(⟨w1,z⟩:val lo<t/\t<val hi)) k3;grind
     have w3:val (aP r.2.1 hi)<t:=by grind
     refine ⟨(aP r.2.1 hi,r.2.1,false),?_,rfl,w3,k2⟩;rw [if_pos (show val (aP r.2.1 hi)<val r.2.1 by grind)];simp
 unfold Nn bS;constructor
 ·rintro ⟨z,mz,k⟩;obtain ⟨r,mr,mz⟩:=ML.mp mz;obtain ⟨a,b⟩:=(one r mr).mp ⟨z,mz,k⟩;exact ⟨⟨r,mr,a⟩,b⟩
 ·rintro ⟨⟨r,mr,k⟩,w⟩;obtain ⟨z,mz,k'⟩:=(one r mr).mpr ⟨k,w⟩;exact ⟨z,ML.mpr ⟨r,mr,mz⟩,k'⟩
def Dj:Rat->Bool->List (Fr×Fr)->Prop
 | _,_,[]=>True
 | x,st,a::as=>(x<=val a.1/\(st=true->x<val a.1))/\val a.1<val a.2/\Dj (val a.2) true as
theorem Dj.le {x y:Rat} {b b':Bool} {A:List (Fr×Fr)} (h:Dj y b A) (k:x<y):Dj x b' A:=by
 cases A with
 | nil=>trivial
 | cons a as=>exact ⟨⟨by have:=h.1.1;grind,λ_=>by have:=h.1.1;grind⟩,h.2.1,h.2.2⟩
theorem Uj:∀{rows:List lG} {x:Rat} {pn:Bool},Ch x pn rows->Dj x pn (eO rows)
 | [],_,_,_=>trivial
 | r::rows,x,pn,⟨c1,c2,c3,c4⟩=>by
  have ih:=Uj c4;unfold eO at ih ⊢;cases h:r.2.2 with
  | true=>
   rw [NM (by rw [h];decide)];exact ih.le (by grind)
  | false=>
   rw [NG (by rw [h];decide),MO];rw [h] at ih c3;refine ⟨⟨by show x<=val r.1;grind,λz=>absurd ⟨z,rfl⟩ c3⟩,c2,ih⟩
theorem Dj.all {x:Rat} {b:Bool}:∀{A:List (Fr×Fr)},Dj x b A->∀a∈A,x<=val a.1/\(b=true->x<val a.1)/\val a.1<val a.2:=by
 intro A
 induction A generalizing x b with
 | nil=>intro _ a m;simp at m
 | cons c A ih=>
  rintro ⟨h1,h2,h3⟩ a m;rcases KR.mp m with rfl | m
  ·exact ⟨h1.1,h1.2,h2⟩
  ·have:=ih h3 a m;have:=h1.1;exact ⟨by grind,λ_=>by grind,by grind⟩
theorem wM:∀(F:List Rat) {l h:Rat},l<h->∃t,l<t/\t<h/\t∉F
 | [],l,h,k=>⟨(l+h)*(1/2),by grind,by grind,by simp⟩
 | f::F,l,h,k=>by
  by_cases c:l<f/\f<h
  ·obtain ⟨t,a,b,n⟩:=wM F c.1;exact ⟨t,a,by grind,λm=>by
    rcases KR.mp m with e | m
    ·grind
    ·exact n m⟩
  ·obtain ⟨t,a,b,n⟩:=wM F k;exact ⟨t,a,b,λm=>by
    rcases KR.mp m with e | m
    ·rw [e] at a b;exact c ⟨a,b⟩
    ·exact n m⟩
def Aj (A:List (Fr×Fr)) (t:Rat):Prop:=∃a∈A,val a.1<t/\t<val a.2
def vp (a:Fr×Fr):Rat×Rat:=(val a.1,val a.2)
theorem Zn {x:Rat} {A:List (Fr×Fr)} (h:Dj x true A):∃n,x<n/\∀a∈A,n<=val a.1:=by
 cases A with
 | nil=>exact ⟨x+1,by grind,λa m=>absurd m (by simp)⟩
 | cons c A=>
  refine ⟨val c.1,h.1.2 rfl,λa m=>?_⟩;rcases KR.mp m with rfl | m
  ·grind
  ·have:=(h.2.2.all a m).1;have:=h.2.1;grind
theorem Cz (F:List Rat):∀{A B:List (Fr×Fr)} {x y:Rat} {b b':Bool},Dj x b A->Dj y b' B->(∀t,t∉F->(Aj A t↔Aj B t))->A.map vp=B.map vp
 | [],[],_,_,_,_,_,_,_=>rfl
 | [],c::B,_,_,_,_,_,hB,h=>by
  obtain ⟨t,a,k,n⟩:=wM F hB.2.1;obtain ⟨z,m,_⟩:=(h t n).mpr ⟨c,by simp,a,k⟩;simp at m
 | a::A,[],_,_,_,_,hA,_,h=>by
  obtain ⟨t,k1,k2,n⟩:=wM F hA.2.1;obtain ⟨z,m,_⟩:=(h t n).mp ⟨a,by simp,k1,k2⟩;simp at m
 | a::A,c::B,x,y,b,b',hA,hB,h=>by
  have key:∀{a c:Fr×Fr} {A B:List (Fr×Fr)},val a.1<val a.2->Dj (val a.2) true A->val c.1<val c.2->Dj (val c.2) true B->(∀t,t∉F->(Aj (a::A) t->Aj (c::B) t))->val c.1<=val a.1:=λ{a c A B} a1 a2 c1 c2 h=>by
   refine Rat.not_lt.mp λz=>?_;obtain ⟨t,k1,k2,n⟩:=wM F (l:=val a.1) (h:=if val a.2<val c.1 then val a.2 else val c.1) (by split<;>grind);have k3:t<val a.2/\t<val c.1:=by split at k2<;>grind
   obtain ⟨w,mw,w1,w2⟩:=h t n ⟨a,by simp,k1,k3.1⟩;rcases KR.mp mw with rfl | mw
   ·grind
   ·have:=(c2.all w mw).1;grind
  have e1:val a.1=val c.1:=by
   have p:=key hA.2.1 hA.2.2 hB.2.1 hB.2.2 λt n=>(h t n).mp;have q:=key hB.2.1 hB.2.2 hA.2.1 hA.2.2 λt n=>(h t n).mpr;grind
  have uq:∀{a c:Fr×Fr} {A B:List (Fr×Fr)},val a.1=val c.1->val a.1<val a.2->Dj (val a.2) true A->val c.1<val c.2->Dj (val c.2) true B->(∀t,t∉F->(Aj (c::B) t->Aj (a::A) t))->val c.2<=val a.2:=λ{a c A B} e a1 a2 c1 c2 h=>by
   refine Rat.not_lt.mp λz=>?_;obtain ⟨nx,n1,n2⟩:=Zn a2;obtain ⟨t,k1,k2,n⟩:=wM F (l:=val a.2) (h:=if val c.2<nx then val c.2 else nx) (by split<;>grind);have k3:t<val c.2/\t<nx:=by split at k2<;>grind
   obtain ⟨w,mw,w1,w2⟩:=h t n ⟨c,by simp,by grind,k3.1⟩;rcases KR.mp mw with rfl | mw
   ·grind
   ·have:=n2 w mw;grind
  have e2:val a.2=val c.2:=by
   have p:=uq e1 hA.2.1 hA.2.2 hB.2.1 hB.2.2 λt n=>(h t n).mpr;have q:=uq e1.symm hB.2.1 hB.2.2 hA.2.1 hA.2.2 λt n=>(h t n).mp;grind
  have tail:∀t,t∉F->(Aj A t↔Aj B t):=λt n=>by
   have k:=h t n;constructor
   ·rintro ⟨w,mw,w1,w2⟩;have:=(hA.2.2.all w mw).1;obtain ⟨u,mu,u1,u2⟩:=k.mp ⟨w,by simp [mw],w1,w2⟩;rcases KR.mp mu with rfl | mu
    ·grind
    ·exact ⟨u,mu,u1,u2⟩
   ·rintro ⟨w,mw,w1,w2⟩;have:=(hB.2.2.all w mw).1;obtain ⟨u,mu,u1,u2⟩:=k.mpr ⟨w,by simp [mw],w1,w2⟩;rcases KR.mp mu with rfl | mu
    ·grind
    ·exact ⟨u,mu,u1,u2⟩
  rw [MO,MO,Cz F hA.2.2 hB.2.2 tail];unfold vp;rw [e1,e2]
end
end My
namespace My
open PySem L2 PyProof.Rows
section
variable {P:SS} {w:SW} {K:W.Frag} {mg:Str->Option Value} {base:Heap}
def dD (p q:Pt) (f:Fr):Pt:=(lK p.1 (jV (bO q.1 p.1) f),lK p.2 (jV (bO q.2 p.2) f))
theorem dC {x y p q:Fr} {e f:Nat} (h:Nv x y e) (k:Nv p q f):Nv (bO x p) (bO y q) (e+f+1):=by
 have:=h.sx;have:=h.sy;have:=k.sx;have:=k.sy;have s1:=Ft h.x k.x;have s2:=Ft h.y k.y;exact ⟨cJ h.x k.x,cJ h.y k.y,by omega,by omega⟩
theorem Gb {x y b:Fr} {e:Nat} (h:Nv x y e) (hb:cF b):Nv (jV x b) (jV y b) (e+sz b):=by
 have:=h.sx;have:=h.sy;have s1:=iD h.x hb;have s2:=iD h.y hb;exact ⟨bG h.x hb,bG h.y hb,by omega,by omega⟩
theorem Q3 {x y p q:Fr} {e f:Nat} (h:Nv x y e) (k:Nv p q f):Nv (lK x p) (lK y q) (e+f+1):=by
 have:=h.sx;have:=h.sy;have:=k.sx;have:=k.sy;have s1:=yS h.x k.x;have s2:=yS h.y k.y;exact ⟨gL h.x k.x,gL h.y k.y,by omega,by omega⟩
def Bz:iC:=λas Q=>∃(p q:Pt) (f:Fr),as=[.v (pt p),.v (pt q),.v (fr f)]/\Pb p/\Pb q/\cF f/\sz f<=300/\Q (.v (pt (dD p q f))) []
abbrev rB (P w K mg base):=Fn P w K mg base 5 "point_at" ["begin","end","part"] (aU K Bz)
abbrev nX:TB:=top 30
theorem Ap:aL ["begin","end","part"] ["begin","end","part"] (aG nX):=hU
theorem Du {f:SO} {fd:SR} (F:eM K "point_at" "point_at" nX f fd) (TX:Txt mg) (ZU:Iv P w K mg base) (YR:xF P w K mg base) (ZF:Bv P w K mg base)   : bF P w K mg base e9 5 f fd ["begin","end","part"] (aU K Bz):=by
 refine F.okT Ap ?len (λVS A outer s H E hr=>(aH (aQ (aC ZU hr (by omega) rfl (fc (fv 0) (fc (aC YR hr (by omega) rfl (fc (aC ZF hr (by omega) rfl (fc (fv 1) (fc (fv 0) aA))) (fc (fv 2) aA))) aA)))))) ?rd
 case len=>rintro as Q ⟨p,q,f,rfl,_⟩;rfl
 case rd=>
  rintro as Q ⟨p,q,f,rfl,hp,hq,hf,hs,z⟩;have n1:=dC hq.v hp.v;exact ⟨_,_,_,_,_,_,rfl,hq.v,hp.v,by decide,_,_,_,_,rfl,n1,hf,by omega,_,_,_,_,_,_,rfl,hp.v,Gb n1 hf,by omega,rfl,z⟩
def K7:iC:=λas Q=>∃(b:bW) (k:Nat) (p q:Pt),as=[.v (dJ b),.v (.int (k:Int))]/\b.o.length<=900/\b.o[k]? = some p/\b.o[(k+1)%b.o.length]? = some q/\Q (.v (.tup [pt p,pt q])) []
theorem hR {α:Type} {f:α->L2.T} {xs:List α} {k:Nat} {x:α} (h:xs[k]? = some x):gN (xs.map f) (k:Int)=some (f x):=r8 (by rw [LK,h];rfl)
abbrev oT (P w K mg base):=Fn P w K mg base 1 "edge_ends" ["block","edge"] (aU K K7)
abbrev mH:TB:=top 33
theorem oS:aL ["block","edge","outline"] ["block","edge"] (aG mH):=hU
theorem xT {f:SO} {fd:SR} (F:eM K "edge_ends" "edge_ends" mH f fd) (TX:Txt mg)    : bF P w K mg base e9 1 f fd ["block","edge"] (aU K K7):=by
 refine F.okT oS ?len (λVS A outer s H E hr=>(aE (aX (i:=2) oS.nd rfl (LA rfl) (aF rfl (fv 0) aB (λ_ _=>rfl)))
 (aH (aQ (aO (fc (aF rfl (fv 2) (fv 1) (λ_ _=>rfl)) (fc (aF rfl (fv 2) (aN kW (aZ bZ (fv 1) aB) (fT rfl rfl TX.n_len (fc (fv 2) aA))) (λ_ _=>rfl)) aA))))))) ?rd
 case len=>rintro as Q ⟨b,k,p,q,rfl,_⟩;rfl
 case rd=>
  rintro as Q ⟨b,k,p,q,rfl,hl,h1,h2,z⟩;have hk:k<b.o.length:=(KU.mp h1).1;show o1 (gN (b.o.map pt) (k:Int)) _;rw [hR h1];have e:(((k:Int)+1)%((b.o.map pt).length:Int))=(((k+1)%b.o.length:Nat):Int):=by rw [KW];push_cast;rfl
  refine ⟨(show (0:Int)<((b.o.map pt).length:Int) by rw [KW];omega),?_⟩;show o1 (gN (b.o.map pt) (((k:Int)+1)%((b.o.map pt).length:Int))) _;rw [e,hR h2];exact ⟨rfl,z⟩
def bC (p q x:Pt):Fr:=if p.1=q.1 then tJ (bO x.2 p.2) (bO q.2 p.2) else tJ (bO x.1 p.1) (bO q.1 p.1)
theorem qL {x y:Fr} (hx:cF x) (hy:cF y) (h:y≠x):(bO x y).1≠0:=λz=>by
 have v:=d5 hx hy;have e:val (bO x y)=0:=by
  show ((bO x y).1:Rat)/((bO x y).2:Rat)=0;rw [z,Rat.div_def];simp
 rw [e] at v;exact h (eN hy hx (by grind))
theorem jL {p q x:Pt} (hp:Pb p) (hq:Pb q) (hx:Pb x) (ne:p≠q):cF (bC p q x)/\sz (bC p q x)<=82/\F2 (bC p q x):=by
 have n1:=dC hx.v hp.v;have n2:=dC hq.v hp.v;have a1:=n1.sx;have a2:=n1.sy;have a3:=n2.sx;have a4:=n2.sy;have key:cF (bC p q x)/\sz (bC p q x)<=82:=by
  unfold bC
  by_cases c:p.1=q.1
  ·rw [if_pos c];have d:p.2≠q.2:=λw=>ne (Prod.ext c w);have z:=qL hq.v.y hp.v.y d;have s:=Ls n1.y z;exact ⟨Bj n1.y z,by omega⟩
  ·rw [if_neg c];have z:=qL hq.v.x hp.v.x c;have s:=Ls n1.x z;exact ⟨Bj n1.x z,by omega⟩
 exact ⟨key.1,key.2,⟨by omega,key.1.d⟩⟩
def Jk:iC:=λas Q=>∃(p q x:Pt),as=[.v (.tup [pt p,pt q]),.v (pt x)]/\Pb p/\Pb q/\Pb x/\p≠q/\Q (.v (fr (bC p q x))) []
abbrev uA (P w K mg base):=Fn P w K mg base 4 "part_at" ["ends","point"] (aU K Jk)
abbrev qC:TB:=top 34
theorem kN:aL ["ends","point","way","begin","end"] ["ends","point"] (aG qC):=hU
theorem Fm {f:SO} {fd:SR} (F:eM K "part_at" "part_at" qC f fd) (TX:Txt mg) (ZV:Le P w K mg base) (WV:uE P w K mg base)   : bF P w K mg base e9 4 f fd ["ends","point"] (aU K Jk):=by
 refine F.okT kN ?len (λVS A outer s H E hr=>(aE (iY (fv 0) (bV (n:=2) rfl rfl (aJ (aI (i:=3) kN.nd rfl (LA rfl)) (aJ (aI (i:=4) kN.nd rfl (LA rfl)) bK))))
 (aE (aX (i:=2) kN.nd rfl (LA rfl) (nE (i6 rfl hr (aF rfl (fv 3) aB (λ_ _=>rfl)) (aF rfl (fv 4) aB (λ_ _=>rfl)) (aR _)) aB aB))
 (aH (aQ (aC ZV hr (by omega) rfl (fc (aC WV hr (by omega) rfl (fc (aF rfl (fv 1) (fv 2) (λ_ _=>rfl)) (fc (aF rfl (fv 3) (fv 2) (λ_ _=>rfl)) aA))) (fc (aC WV hr (by omega) rfl (fc (aF rfl (fv 4) (fv 2) (λ_ _=>rfl)) (fc (aF rfl (fv 3) (fv 2) (λ_ _=>rfl)) aA))) aA)))))))) ?rd
 case len=>rintro as Q ⟨p,q,x,rfl,_⟩;rfl
 case rd=>
  rintro as Q ⟨p,q,x,rfl,hp,hq,hx,ne,z⟩;have n1:=dC hx.v hp.v;have n2:=dC hq.v hp.v;have a1:=n1.sx;have a2:=n1.sy;have a3:=n2.sx;have a4:=n2.sy;have b1:=hp.v.sx;have b2:=hp.v.sy;have b3:=hq.v.sx;have b4:=hq.v.sy;have b5:=hx.v.sx;have b6:=hx.v.sy;refine ⟨eZ rfl,?_⟩;show if (!(eD (fr p.1) (fr q.1)))=true then _ else _;rw [Sf];unfold bC at z
  by_cases c:p.1=q.1
  ·rw [decide_eq_true c,if_neg (by decide)];rw [if_pos c] at z;have d:p.2≠q.2:=λw=>ne (Prod.ext c w);have y0:=qL hq.v.y hp.v.y d;exact ⟨_,_,rfl,hx.v.y,hp.v.y,by omega,_,_,rfl,hq.v.y,hp.v.y,by omega,_,_,rfl,n1.y,n2.y,y0,by omega,rfl,z⟩
  ·rw [decide_eq_false c,if_pos (by decide)];rw [if_neg c] at z;have x0:=qL hq.v.x hp.v.x c;exact ⟨_,_,rfl,hx.v.x,hp.v.x,by omega,_,_,rfl,hq.v.x,hp.v.x,by omega,_,_,rfl,n1.x,n2.x,x0,by omega,rfl,z⟩
abbrev Ov:=Option (Fr×Fr×Nat)
def fK:List Ov->List lG->Option (List lG)
 | [],rows=>some rows
 | none::os,rows=>fK os rows
 | some r::os,rows=>if r.2.2=1 then fK os rows else if r.1=(0,1)/\r.2.1=(1,1) then none else fK os (bS rows r.1 r.2.1)
def mW:List (Fr×Fr)->List lG->List lG
 | [],rows=>rows
 | t::ts,rows=>mW ts (bS rows t.1 t.2)
def qU (os:List Ov) (ts:List (Fr×Fr)) (rows:List lG):List (Fr×Fr):=match fK os rows with
 | none=>[]
 | some rs=>eO (mW ts rs)
def n9:List lG:=[((0,1),(1,1),false)]
abbrev Pr:=Pt×Pt
def vB (x:Pr):L2.T:=.tup [pt x.1,pt x.2]
def rA (p q:Pt) (tw:List Pr):List (Fr×Fr):=tw.map λx=>(bC p q x.1,bC p q x.2)
def fD (shs:List Sh) (p q:Pt) (tw:List Pr):List (Fr×Fr):=qU (shs.map λs=>a7 s (eR p q)) (rA p q tw) n9
def U1 (x:Fr×Fr):L2.T:=.tup [fr x.1,fr x.2]
theorem Yh (h:Nat):eD (.str (EV h)) (.str "left")=decide (h=1):=by
 match h with
 | 0=>decide
 | 1=>decide
 | n+2=>
  have:eD (.str (EV (n+2))) (.str "left")=false:=by show eD (.str "right") (.str "left")=false;decide
  rw [this,decide_eq_false (by omega)]
structure rP (s:Sh):Prop where
 b:∀l∈s.ls,B3 81 l
structure vM (p q:Pt):Prop where
 hp:Pb p
 hq:Pb q
 ne:p≠q
 l:g3 (mD (aK p) (aK q))≠0
def G0:iC:=λas Q=>∃(shs:List Sh) (p q:Pt) (tw:List Pr),as=[.v (.lst (shs.map kF)),.v (.tup [pt p,pt q]),.v (.lst (tw.map vB))]/\(∀s∈shs,rP s)/\vM p q/\(∀x∈tw,Pb x.1/\Pb x.2)/\shs.length+tw.length<=100/\Q (.l ((fD shs p q tw).map U1)) []
theorem La {p q:Pt} (h:vM p q):B3 40 (eR p q).p/\B3 40 (eR p q).q/\B3 3000 (eR p q).l:=⟨kL h.hp,kL h.hq,(G3 (Ht (kL h.hp) (kL h.hq))).up (by decide)⟩
abbrev m4 (P w K mg base):=Fn P w K mg base 5 "bare_parts" ["shapes","ends","twins"] (aU K G0)
abbrev kO:TB:=top 35
theorem cH:aL ["shapes","ends","twins","segment","rows","shape","laid","begin","end"] ["shapes","ends","twins"] (aG kO):=hU
theorem vJ {f:SO} {fd:SR} (F:eM K "bare_parts" "bare_parts" kO f fd) (TX:Txt mg) (XG:nF P w K mg base) (YD:sP P w K mg base) (YB:wA P w K mg base) (XU:uA P w K mg base) (YI:uW mg K "WHOLE" (.tup [.tup [.int 0,.int 1],.tup [.int 1,.int 1]]))  : bF P w K mg base e9 5 f fd ["shapes","ends","twins"] (aU K G0):=by
 refine F.okT cH ?len (λVS A outer s H E hr=>(aE (aX (i:=3) cH.nd rfl (LA rfl) (aC XG hr (by omega) rfl (fc (aF rfl (fv 1) aB (λ_ _=>rfl)) (fc (aF rfl (fv 1) aB (λ_ _=>rfl)) aA))))
 (aE (aX (i:=4) cH.nd rfl (LA rfl) (bN (fc (Lb rfl (sN rfl YI) (aO (fc l9 aA))) aA)))
 (aE (dY PassesOwn.never rfl (d9 rfl (fv 0)) (aI (i:=5) cH.nd rfl (LA rfl))
  (aE (aX (i:=6) cH.nd rfl (LA rfl) (aC YD hr (by omega) rfl (fc (fv 5) (fc (fv 3) aA))))
 (aE (cU (nP (uR (Er (fv 6) (aR _)) (nO (qX rfl hr (aF rfl (fv 6) aB (λ_ _=>rfl)) cD (aR _))))) (aH Ko) bY)
 (aE (cU (qX rfl hr (kD rfl (fv 6) gJ (eQ aB)) (sN rfl YI) (aR _)) (aH (aQ (bN aA))) bY)
 (aH (aX (i:=4) cH.nd rfl (LA rfl) (aC YB hr (by omega) rfl (fc (fv 4) (fc (aF rfl (fv 6) aB (λ_ _=>rfl)) (fc (aF rfl (fv 6) aB (λ_ _=>rfl)) (fc xC aA)))))))))))
 (aE (dY PassesOwn.never rfl (d9 rfl (fv 2)) (bV (n:=2) rfl rfl (aJ (aI (i:=7) cH.nd rfl (LA rfl)) (aJ (aI (i:=8) cH.nd rfl (LA rfl)) bK)))
  (aH (aX (i:=4) cH.nd rfl (LA rfl) (aC YB hr (by omega) rfl (fc (fv 4) (fc (aC XU hr (by omega) rfl (fc (fv 1) (fc (fv 7) aA))) (fc (aC XU hr (by omega) rfl (fc (fv 1) (fc (fv 8) aA))) (fc xC aA))))))))
 (aH (aQ (mL (N':=["low","high","name"]) (t:=3) (cap:=[]) rfl (bP.of rfl) rfl (by decide) (d9 rfl (fv 4)) (λ_ _ _ _=>(bV (n:=3) rfl rfl (aJ (aI (i:=0) (show MQ (["low","high","name"]:List Str) by decide +kernel) rfl (LA rfl) (MM rfl)) (aJ (aI (i:=1) (show MQ (["low","high","name"]:List Str) by decide +kernel) rfl (LA rfl) (MM rfl)) (aJ (aI (i:=2) (show MQ (["low","high","name"]:List Str) by decide +kernel) rfl (LA rfl) (MM rfl)) bK))))) (λ_ _ _ _=>(Er (fv 2) (aR _))) (λ_ _ _ _=>(aO (fc (fv 0) (fc (fv 1) aA)))))))))))) ?rd
 case len=>rintro as Q ⟨shs,p,q,tw,rfl,_⟩;rfl
 case rd=>
  rintro as Q ⟨shs,p,q,tw,rfl,kh,en,YJ,hn,z⟩;refine ⟨p,q,rfl,en.hp,en.hq,en.l,?_⟩;obtain ⟨g1,g2,ur⟩:=La en;unfold fD at z;generalize eR p q=sg at z g1 g2 ur ⊢;refine ⟨by decide,?_⟩;refine cW (f:=kF) (λs':List lG×Option U×Option U=>[some (.p (.lst (shs.map kF))),some (.p (.tup [pt p,pt q])),some (.p (.lst (tw.map vB))),some (.p (AY sg)),some (.o false (s'.1.map nI)),s'.2.1,s'.2.2,none,none])
   (λss s'=>(∀s∈ss,rP s)/\i8 s'.1/\Ch 0 false s'.1/\s'.1.length+2*(ss.length+tw.length)<=300/\Q (.l ((qU (ss.map λs=>a7 s sg) (rA p q tw) s'.1).map U1)) []) ?_ ?_ shs (n9,none,none) ⟨kh,?_,⟨by rw [iX],by rw [iX,iZ];grind,λz=>absurd z.1 (by decide),trivial⟩,by show 1+2*(shs.length+tw.length)<=300;omega,z⟩
  ·rintro s ss ⟨rs,v5,v6⟩ rest ⟨hss,hr,hc,hl,z⟩ K;have um:=hss s (by simp);have VY:∀s∈ss,rP s:=λx m=>hss x (by simp [m]);refine ⟨s,sg,rfl,um.b,g1,g2,ur,?_⟩;have ok:=Jw um.b g1 g2;replace z:Q (.l ((qU (a7 s sg::ss.map λs=>a7 s sg) (rA p q tw) rs).map U1)) []:=z;simp only [LJ] at hl;have jj:rs.length+2*(ss.length+tw.length)<=300:=by omega
   have hle:rs.length<=300:=by omega
   generalize a7 s sg=r at z ok ⊢;cases r with
   | none=>
    exact K (rs,some (.p (kF s)),some (.p .non)) ⟨VY,hr,hc,jj,z⟩
   | some r=>
    obtain ⟨lo,hi,h⟩:=r;obtain ⟨f1,f2⟩:=ok _ rfl;simp only at f1 f2;refine ⟨eZ rfl,?_⟩;show if eD (.str (EV h)) (.str "left")=true then _ else _;rw [Yh];simp only [qU,fK] at z
    by_cases c:h=1
    ·rw [decide_eq_true c,if_pos rfl];rw [if_pos c] at z;exact K (rs,some (.p (kF s)),some (.p (GD (some (lo,hi,h))))) ⟨VY,hr,hc,jj,z⟩
    ·rw [decide_eq_false c,if_neg (by decide)];rw [if_neg c] at z;refine ⟨(show ¬(HT.sIx 3 0 none=0/\HT.sIx 3 3 (some 2)=3) by decide),eZ rfl,?_⟩;show if eD (vc lo hi) (vc (0,1) (1,1))=true then _ else _;rw [G4]
     by_cases c2:lo=(0,1)/\hi=(1,1)
     ·rw [decide_eq_true c2,if_pos rfl];rw [if_pos c2] at z;exact ⟨rfl,z⟩
     ·rw [decide_eq_false c2,if_neg (by decide)];rw [if_neg c2] at z;have cp:=pG (rows:=rs) f1.d f2.d hr hc;have i1:=wW (0<val lo);have i2:=wW (0<val hi);refine ⟨rs,lo,hi,rfl,hle,hr,f1,f2,K (bS rs lo hi,some (.p (kF s)),some (.p (GD (some (lo,hi,h))))) ⟨VY,fU hr f1 f2,cp.1,by simp only;omega,z⟩⟩
  ·rintro ⟨rs,v5,v6⟩ ⟨_,hr,hc,hl,z⟩;simp only [OS,qU,fK,NF,RQ] at z hl;refine cW (f:=vB) (λs':List lG×Option U×Option U=>[some (.p (.lst (shs.map kF))),some (.p (.tup [pt p,pt q])),some (.p (.lst (tw.map vB))),some (.p (AY sg)),some (.o false (s'.1.map nI)),v5,v6,s'.2.1,s'.2.2])
    (λts s'=>(∀x∈ts,Pb x.1/\Pb x.2)/\i8 s'.1/\Ch 0 false s'.1/\s'.1.length+2*ts.length<=300/\Q (.l ((eO (mW (rA p q ts) s'.1)).map U1)) []) ?_ ?_ tw (rs,none,none) ⟨YJ,hr,hc,hl,z⟩
   ·rintro x ts ⟨rs,v7,v8⟩ rest ⟨hts,hr,hc,hl,z⟩ K;have hx:=hts x (by simp);simp only [LJ] at hl;have hle:rs.length<=300:=by omega
    have a1:=jL en.hp en.hq hx.1 en.ne;have a2:=jL en.hp en.hq hx.2 en.ne;have cp:=pG (rows:=rs) a1.2.2.d a2.2.2.d hr hc;have i1:=wW (0<val (bC p q x.1));have i2:=wW (0<val (bC p q x.2));exact ⟨p,q,x.1,rfl,en.hp,en.hq,hx.1,en.ne,p,q,x.2,rfl,en.hp,en.hq,hx.2,en.ne,rs,_,_,rfl,hle,hr,a1.2.2,a2.2.2,K (bS rs (bC p q x.1) (bC p q x.2),some (.p (pt x.1)),some (.p (pt x.2))) ⟨λy m=>hts y (by simp [m]),fU hr a1.2.2 a2.2.2,cp.1,by simp only;omega,z⟩⟩
   ·rintro ⟨rs,v7,v8⟩ ⟨_,hr,hc,hl,z⟩;simp only [NF] at hl;replace z:Q (.l ((eO rs).map U1)) []:=z;refine ⟨rfl,gZ (f:=nI) (h:=λr=>U1 (r.1,r.2.1)) (λr=>!r.2.2) (λ(w:Option U×Option U×Option U) acc=>[w.1,w.2.1,w.2.2,some (.o false acc)]) rs (none,none,none) [] (by simp;omega) (λr m w acc rest ha K=>?_) λw=>?_⟩
    ·obtain ⟨a,b,g⟩:=r;cases g with
     | true=>exact K (some (.p (fr a)),some (.p (fr b)),some (.p (.bl true)))
     | false=>exact ⟨ha,K (some (.p (fr a)),some (.p (fr b)),some (.p .non))⟩
    ·rw [eO,MK] at z;exact ⟨bA (λ_=>rfl) _,bA (λ_=>rfl) _,z⟩
  ·intro r m;have e:r=((0,1),(1,1),false):=by simpa [n9] using m
   subst e;exact ⟨Pe,Mn⟩
end
end My
namespace My
open PySem L2 PyProof.Rows
section
variable {P:SS} {w:SW} {K:W.Frag} {mg:Str->Option Value} {base:Heap}
abbrev lV:=Nat×Nat×Pt×Pt
def jU (r:lV):L2.T:=.tup [.int (r.1:Int),.int (r.2.1:Int),pt r.2.2.1,pt r.2.2.2]
structure EI where
 n:Nat
 k:Nat
 p:Pt
 q:Pt
 l:I3
def Wc (e:EI):L2.T:=.tup [.int (e.n:Int),.int (e.k:Int)]
abbrev AD:=List (I3×List Pr)
def dO:AD->I3->List Pr
 | [],_=>[]
 | (k,xs)::r,l=>if k=l then xs else dO r l
def j0:AD->I3->List Pr->AD
 | [],l,ys=>[(l,ys)]
 | (k,xs)::r,l,ys=>if k=l then (k,ys)::r else (k,xs)::j0 r l ys
def dQ (e:EI) (ps:List (Fr×Fr)):List lV:=ps.map λx=>(e.n,e.k,dD e.p e.q (low x.1.1 x.1.2),dD e.p e.q (low x.2.1 x.2.2))
def mX (shs:List Sh):List EI->AD->List lV
 | [],_=>[]
 | e::es,M=>dQ e (fD shs e.p e.q (dO M e.l))++mX shs es (j0 M e.l (dO M e.l++[(e.p,e.q)]))
theorem oY (l k:I3) (ys:List Pr):∀M:AD,dO (j0 M l ys) k=if l=k then ys else dO M k
 | []=>rfl
 | (a,xs)::r=>by
  unfold j0
  by_cases c:a=l
  ·rw [if_pos c];unfold dO;subst c
   by_cases d:a=k
   ·rw [if_pos d,if_pos d]
   ·rw [if_neg d,if_neg d,if_neg d]
  ·rw [if_neg c];unfold dO;rw [oY l k ys r]
   by_cases d:a=k
   ·rw [if_pos d,if_pos d,if_neg (λz=>c (by rw [d,z]))]
   ·rw [if_neg d,if_neg d]
def ky (l:I3):List Key:=[Sum.inl l.1,Sum.inl l.2.1,Sum.inl l.2.2]
theorem zA {a b:I3}:ky a=ky b↔a=b:=by
 obtain ⟨a1,a2,a3⟩:=a;obtain ⟨b1,b2,b3⟩:=b;simp [ky]
def Nd (M:AD):MD:=M.map λx=>(ky x.1,x.2.map vB)
theorem M6 {l:I3} {k:List Key->Prop} (h:k (ky l)):CQ (some (t3 l)) k:=h
theorem Kq (l:I3):∀M:AD,getD (Nd M) (ky l)=(dO M l).map vB
 | []=>rfl
 | (k,xs)::r=>by
  show (if ky k=ky l then xs.map vB else getD (Nd r) (ky l))=(if k=l then xs else dO r l).map vB
  by_cases c:k=l
  ·rw [if_pos (zA.mpr c),if_pos c]
  ·rw [if_neg (λz=>c (zA.mp z)),if_neg c,Kq l r]
theorem Iq (l:I3) (ys:List Pr):∀M:AD,zS (Nd M) (ky l) (ys.map vB)=Nd (j0 M l ys)
 | []=>rfl
 | (k,xs)::r=>by
  show (if ky k=ky l then (ky k,ys.map vB)::Nd r else (ky k,xs.map vB)::zS (Nd r) (ky l) (ys.map vB))=Nd (if k=l then (k,ys)::r else (k,xs)::j0 r l ys)
  by_cases c:k=l
  ·rw [if_pos (zA.mpr c),if_pos c];rfl
  ·rw [if_neg (λz=>c (zA.mp z)),if_neg c,Iq l ys r];rfl
theorem Dc (l:I3) (ys:List Pr):∀M:AD,(j0 M l ys).length<=M.length+1
 | []=>by simp [j0]
 | (k,xs)::r=>by
  have:=Dc l ys r;unfold j0
  split<;>simp<;>omega
theorem wX {α σ:Type} {g:FG} {F:Jx} {D:Wb} {f:α->L2.T} (mk:σ->En) (mm:σ->MD) (R:List α->σ->Prop) (hs:∀x xs s rest,R (x::xs) s->(∀s',R xs s'->tD g F D rest (mm s') (mk s'))->tD g F D (f x::rest) (mm s) (mk s)) (hd:∀s,R [] s->D.nx (mm s) (mk s)):∀xs s,R xs s->tD g F D (xs.map f) (mm s) (mk s)
 | [],s,h=>hd s h
 | x::xs,s,h=>hs x xs s _ h λs' h'=>wX mk mm R hs hd xs s' h'
structure Zm (bs:List bW) (e:EI):Prop where
 ex:∃b,bs[e.n]? = some b/\b.o[e.k]? = some e.p/\b.o[(e.k+1)%b.o.length]? = some e.q/\(bD b).ls[e.k]? = some e.l
 en:vM e.p e.q
def Pc (M:AD):Prop:=∀x∈M,∀y∈x.2,Pb y.1/\Pb y.2
theorem Kf {M:AD} (h:Pc M) (l:I3):∀y∈dO M l,Pb y.1/\Pb y.2:=by
 induction M with
 | nil=>intro y m;simp [dO] at m
 | cons x M ih=>
  obtain ⟨k,xs⟩:=x;intro y m;unfold dO at m;split at m
  ·exact h (k,xs) (by simp) y m
  ·exact ih (λz mz=>h z (by simp [mz])) y m
theorem Lz {M:AD} (h:Pc M) (l:I3) {ys:List Pr} (hy:∀y∈ys,Pb y.1/\Pb y.2):Pc (j0 M l ys):=by
 induction M with
 | nil=>
  intro x m;have e:x=(l,ys):=by simpa [j0] using m
  subst e;exact hy
 | cons x M ih=>
  obtain ⟨k,xs⟩:=x;intro z m;unfold j0 at m;split at m
  ·rcases KR.mp m with e | m
   ·subst e;exact hy
   ·exact h z (by simp [m])
  ·rcases KR.mp m with e | m
   ·subst e;exact h (k,xs) (by simp)
   ·exact ih (λz mz=>h z (by simp [mz])) z m
theorem Q7 {rows:List lG} (h:i8 rows):∀x∈eO rows,F2 x.1/\F2 x.2:=λx m=>by
 obtain ⟨r,mr,rfl⟩:=KY.mp m;exact h r (MH.mp mr).1
theorem H0:∀{ts:List (Fr×Fr)} {rows:List lG},(∀t∈ts,F2 t.1/\F2 t.2)->i8 rows->i8 (mW ts rows)
 | [],_,_,h=>h
 | t::ts,rows,ht,h=>H0 (ts:=ts) (rows:=bS rows t.1 t.2) (λx m=>ht x (by simp [m])) (fU h (ht t (by simp)).1 (ht t (by simp)).2)
theorem Mf:∀{os:List Ov} {rows rs:List lG},(∀o∈os,zW o)->i8 rows->fK os rows=some rs->i8 rs
 | [],rows,rs,_,h,e=>by cases e;exact h
 | none::os,rows,rs,ho,h,e=>Mf (os:=os) (λo m=>ho o (by simp [m])) h e
 | some r::os,rows,rs,ho,h,e=>by
  unfold fK at e;have hr:=ho (some r) (by simp) r rfl;split at e
  ·exact Mf (os:=os) (λo m=>ho o (by simp [m])) h e
  ·split at e
   ·cases e
   ·exact Mf (os:=os) (λo m=>ho o (by simp [m])) (fU h hr.1 hr.2) e
theorem Io {shs:List Sh} {p q:Pt} {tw:List Pr} (hs:∀s∈shs,rP s) (en:vM p q) (YJ:∀x∈tw,Pb x.1/\Pb x.2):∀x∈fD shs p q tw,F2 x.1/\F2 x.2:=by
 obtain ⟨g1,g2,ur⟩:=La en;unfold fD qU;intro x m;split at m
 ·simp at m
 ·rename_i rs e;refine Q7 (H0 (λt mt=>?_) (Mf (λo mo=>?_) (λr mr=>?_) e)) x m
  ·obtain ⟨y,my,rfl⟩:=KY.mp mt;exact ⟨(jL en.hp en.hq (YJ y my).1 en.ne).2.2,(jL en.hp en.hq (YJ y my).2 en.ne).2.2⟩
  ·obtain ⟨s,ms,rfl⟩:=KY.mp mo;exact Jw (hs s ms).b g1 g2
  ·have e:r=((0,1),(1,1),false):=by simpa [n9] using mr
   subst e;exact ⟨Pe,Mn⟩
theorem F2.low {p:Fr} (h:F2 p):cF (low p.1 p.2)/\sz (low p.1 p.2)<=300:=by
 have d:p.2≠0:=by have:=h.d;omega
 exact ⟨fF d,nW d (pl (e8 p) h.s) (pl (bX p) h.s) (by decide)⟩
theorem oI {b:bW} (h:Oj b):rP (bD b):=⟨λl m=>by
 obtain ⟨x,mx,rfl⟩:=KY.mp m;exact G3 (Mc h.pb x mx)⟩
theorem Pu (r:lV):noL (jU r)=true:=rfl
def Lf:iC:=λas Q=>∃(bs:List bW) (es:List EI),as=[.v (.lst (bs.map dJ)),.v (.lst (es.map Wc))]/\bs.length<=900/\(∀b∈bs,Oj b)/\es.length<=900/\(∀e∈es,Zm bs e)/\bs.length+es.length<=100/\(mX (bs.map bD) es []).length<=900/\Q (.l ((mX (bs.map bD) es []).map jU)) []
abbrev oO (P w K mg base):=Fn P w K mg base 6 "bounds_of" ["blocks","edges"] (aU K Lf)
abbrev lR:TB:=top 36
theorem bR:aL ["blocks","edges","shapes","by_line","rows","number","edge","ends","twins","low","high","begin","end"] ["blocks","edges"] (aG lR):=hU
theorem xW {f:SO} {fd:SR} (F:eM K "bounds_of" "bounds_of" lR f fd) (TX:Txt mg) (XO:oK P w K mg base) (XQ:oT P w K mg base) (XH:m4 P w K mg base) (XI:rB P w K mg base) (VM:fX P w K mg base)  (n_tri:Pm K):bF P w K mg base e9 6 f fd ["blocks","edges"] (aU K Lf):=by
 refine F.okT bR ?len (λVS A outer s H E hr=>(aE (aX (i:=2) bR.nd rfl (LA rfl) (aC XO hr (by omega) rfl (fc (fv 0) aA)))
 (O7 (i:=3) bR.nd rfl (LA rfl) (zX (zH (z6 (j:=4) bR.nd rfl (LA rfl) (bN aA) (by decide)))
 (zX (Q1 (p:=1) rfl PassesOwn.never rfl rfl (by first | exact LA rfl | exact MM (LA rfl) | exact MM (MM rfl)) (Ru (n:=2) rfl rfl (pM (rV (j:=5) bR.nd rfl (LA rfl) (by decide)) (pM (rV (j:=6) bR.nd rfl (LA rfl) (by decide)) Je)))
  (zX (zH (z6 (j:=7) bR.nd rfl (LA rfl) (aC XQ hr (by omega) rfl (fc (aF rfl (fv 0) (fv 5) (λ_ _=>rfl)) (fc (fv 6) aA))) (by decide)))
 (P7 (t:=8) hr rfl n_tri bR.nd rfl (LA rfl) rfl (by first | exact LA rfl | exact MM (LA rfl) | exact MM (MM rfl)) (by decide) (aF rfl (aF rfl (aF rfl (fv 2) (fv 5) (λ_ _=>rfl)) aB (λ_ _=>rfl)) (fv 6) (λ_ _=>rfl)) (xZ (X6 PassesOwn.never rfl (d9 rfl (aC XH hr (by omega) rfl (fc (fv 2) (fc (fv 7) (fc (fv 8) aA))))) (Ru (n:=2) rfl rfl (pM (rV (j:=9) bR.nd rfl (LA rfl) (by decide)) (pM (rV (j:=10) bR.nd rfl (LA rfl) (by decide)) Je)))
  (xZ (z6 (j:=11) bR.nd rfl (LA rfl) (aC XI hr (by omega) rfl (fc (aF rfl (fv 7) aB (λ_ _=>rfl)) (fc (aF rfl (fv 7) aB (λ_ _=>rfl)) (fc (aC VM hr (by omega) rfl (fc (aF rfl (fv 9) aB (λ_ _=>rfl)) (fc (aF rfl (fv 9) aB (λ_ _=>rfl)) aA))) aA)))) (by decide))
 (xZ (z6 (j:=12) bR.nd rfl (LA rfl) (aC XI hr (by omega) rfl (fc (aF rfl (fv 7) aB (λ_ _=>rfl)) (fc (aF rfl (fv 7) aB (λ_ _=>rfl)) (fc (aC VM hr (by omega) rfl (fc (aF rfl (fv 10) aB (λ_ _=>rfl)) (fc (aF rfl (fv 10) aB (λ_ _=>rfl)) aA))) aA)))) (by decide))
 (Vh (Jp (dX rfl (fv 4) (fc (aO (fc (fv 5) (fc (fv 6) (fc (fv 11) (fc (fv 12) aA))))) aA)))))))
 (Vh (Jp (dX rfl (fv 8) (fc (fv 7) aA))))) ⟨rfl,rfl,rfl,rfl⟩)))
 (Y4 (zH (W4 (fv 4))))))))) ?rd
 case len=>rintro as Q ⟨bs,es,rfl,_⟩;rfl
 case rd=>
  rintro as Q ⟨bs,es,rfl,hl,hb,hle,he,hok,hlen,z⟩;have kn:(bs.map bD).length+es.length<=100:=by rw [KW];exact hok
  refine ⟨bs,rfl,hl,hb,?_⟩;have kh:∀s∈bs.map bD,rP s:=λs m=>by
   obtain ⟨b,mb,rfl⟩:=KY.mp m;exact oI (hb b mb)
  have cy:∀e,Zm bs e->∃(b:bW) (s:Sh),bs[e.n]? = some b/\b.o[e.k]? = some e.p/\b.o[(e.k+1)%b.o.length]? = some e.q/\(bs.map bD)[e.n]? = some s/\s.ls[e.k]? = some e.l/\b.o.length<=900:=λe h=>by
   obtain ⟨b,h1,h2,h3,h4⟩:=h.ex;exact ⟨b,bD b,h1,h2,h3,by rw [LK,h1];rfl,h4,(hb b (KZ h1)).len⟩
  generalize bs.map bD=shs at kn hlen z kh cy ⊢;refine wX (f:=Wc) (λs':List L2.T×AD×Option U×Option U×Option U×Option U×Option U×Option U×Option U=>[some (.p (.lst (bs.map dJ))),some (.p (.lst (es.map Wc))),some (.o false (shs.map kF)),none,some (.o false s'.1),s'.2.2.1,s'.2.2.2.1,s'.2.2.2.2.1,none,s'.2.2.2.2.2.1,s'.2.2.2.2.2.2.1,s'.2.2.2.2.2.2.2.1,s'.2.2.2.2.2.2.2.2]) (λs'=>Nd s'.2.1)
   (λav s'=>(∀e∈av,Zm bs e)/\Pc s'.2.1/\s'.2.1.length+av.length<=900/\(∀l,(dO s'.2.1 l).length+av.length<=es.length)/\s'.1.length+(mX shs av s'.2.1).length<=900/\dN s'.1=true/\Q (.l (s'.1++(mX shs av s'.2.1).map jU)) []) ?_ ?_ es ([],[],none,none,none,none,none,none,none) ⟨he,λx m=>absurd m (by simp),by simp;omega,λl=>by simp [dO],by simp;omega,rfl,z⟩
  ·rintro e av ⟨acc,M,v5,v6,v7,v9,v10,v11,bo⟩ rest ⟨vj,hM,wa,hok,hlen,YF,z⟩ K;have hE:=vj e (by simp);obtain ⟨b,s,h1,h2,h3,h4,h5,h6⟩:=cy e hE;simp only [LJ] at wa;have hkl:=hok e.l;simp only [LJ] at hkl;simp only [mX] at hlen z;show o1 (gN (bs.map dJ) (e.n:Int)) _;rw [hR h1];refine ⟨b,e.k,e.p,e.q,rfl,h6,h2,h3,?_⟩;show o1 (gN (shs.map kF) (e.n:Int)) _;rw [hR h4];show o1 (gN (s.ls.map t3) (e.k:Int)) _;rw [hR h5];refine ⟨rfl,(show (Nd M).length<1000 by rw [Nd,KW];omega),?_⟩;have YJ:=Kf hM e.l;have hfr:=Io kh hE.en YJ;refine M6 (l:=e.l) ?_;refine (?_:oC [some (.p (.lst (bs.map dJ))),some (.p (.lst (es.map Wc))),some (.o false (shs.map kF)),none,some (.o false acc),some (.p (.int (e.n:Int))),some (.p (.int (e.k:Int))),some (.p (vB (e.p,e.q))),some (.o false (getD (Nd M) (ky e.l))),v9,v10,v11,bo] _);rw [Kq];have hps:(fD shs e.p e.q (dO M e.l)).length<=900:=by
    have:(dQ e (fD shs e.p e.q (dO M e.l))).length=(fD shs e.p e.q (dO M e.l)).length:=by rw [dQ,KW]
    rw [LC,this] at hlen;omega
   refine ⟨shs,e.p,e.q,dO M e.l,rfl,kh,hE.en,YJ,by omega,?_⟩;refine cW (f:=U1) (λs':List L2.T×Option U×Option U×Option U×Option U=>[some (.p (.lst (bs.map dJ))),some (.p (.lst (es.map Wc))),some (.o false (shs.map kF)),none,some (.o false s'.1),some (.p (.int (e.n:Int))),some (.p (.int (e.k:Int))),some (.p (vB (e.p,e.q))),some (.o false ((dO M e.l).map vB)),s'.2.1,s'.2.2.1,s'.2.2.2.1,s'.2.2.2.2])
    (λps s'=>(∀x∈ps,F2 x.1/\F2 x.2)/\dN s'.1=true/\s'.1.length+ps.length+(mX shs av (j0 M e.l (dO M e.l++[(e.p,e.q)]))).length<=900/\Q (.l (s'.1++(dQ e ps).map jU++(mX shs av (j0 M e.l (dO M e.l++[(e.p,e.q)]))).map jU)) []) ?_ ?_ _ (acc,v9,v10,v11,bo) ⟨hfr,YF,?_,?_⟩
   ·rintro x ps ⟨acc,v9,v10,v11,bo⟩ rest ⟨hf,YF,hlen,z⟩ K;obtain ⟨f1,f2⟩:=hf x (by simp);have d1:x.1.2≠0:=by have:=f1.d;omega
    have d2:x.2.2≠0:=by have:=f2.d;omega
    simp only [LJ] at hlen;refine ⟨x.1.1,x.1.2,rfl,d1,nG (bX x.1) (by have:=f1.s;omega),e.p,e.q,_,rfl,hE.en.hp,hE.en.hq,f1.low.1,f1.low.2,?_⟩;refine ⟨x.2.1,x.2.2,rfl,d2,nG (bX x.2) (by have:=f2.s;omega),e.p,e.q,_,rfl,hE.en.hp,hE.en.hq,f2.low.1,f2.low.2,?_⟩;refine ⟨by rw [LC];simp;omega,K (acc++[jU (e.n,e.k,dD e.p e.q (low x.1.1 x.1.2),dD e.p e.q (low x.2.1 x.2.2))],some (.p (fr x.1)),some (.p (fr x.2)),_,_) ⟨λy m=>hf y (by simp [m]),by rw [lP,YF];rfl,by simp;omega,?_⟩⟩;have:acc++(dQ e (x::ps)).map jU=(acc++[jU (e.n,e.k,dD e.p e.q (low x.1.1 x.1.2),dD e.p e.q (low x.2.1 x.2.2))])++(dQ e ps).map jU:=by simp [dQ]
    rw [<-this];exact z
   ·rintro ⟨acc,v9,v10,v11,bo⟩ ⟨_,YF,hlen,z⟩;have e0:acc++(dQ e []).map jU=acc:=by simp [dQ]
    rw [e0] at z;have hgl:(dO M e.l).length<=100:=by omega
    refine ⟨by rw [LC,KW];simp;omega,?_,?_⟩
    ·rw [lP,bA (λ_=>rfl)];rfl
    ·have e1:(dO M e.l).map vB++[vB (e.p,e.q)]=(dO M e.l++[(e.p,e.q)]).map vB:=by simp
     have e2:zS (Nd M) (ky e.l) ((dO M e.l).map vB++[vB (e.p,e.q)])=Nd (j0 M e.l (dO M e.l++[(e.p,e.q)])):=by rw [e1,Iq]
     have yy:Pc (j0 M e.l (dO M e.l++[(e.p,e.q)])):=Lz hM e.l λy m=>by
      rcases LP.mp m with m | m
      ·exact YJ y m
      ·have ey:y=(e.p,e.q):=by simpa using m
       subst ey;exact ⟨hE.en.hp,hE.en.hq⟩
     have ik:=Dc e.l (dO M e.l++[(e.p,e.q)]) M;have ph:∀l,(dO (j0 M e.l (dO M e.l++[(e.p,e.q)])) l).length+av.length<=es.length:=λl=>by
      rw [oY];have:=hok l;simp only [LJ] at this
      by_cases c:e.l=l
      ·rw [if_pos c,LC,ME];omega
      ·rw [if_neg c];omega
     have fin:=K (acc,j0 M e.l (dO M e.l++[(e.p,e.q)]),some (.p (.int (e.n:Int))),some (.p (.int (e.k:Int))),some (.p (vB (e.p,e.q))),v9,v10,v11,bo) ⟨λy m=>vj y (by simp [m]),yy,by show (j0 M e.l (dO M e.l++[(e.p,e.q)])).length+_<=900;omega,ph,by simp only [NF] at hlen;show acc.length+_<=900;omega,YF,z⟩;simp only at fin;rw [<-e2] at fin;exact fin
   ·rw [LC,show (dQ e (fD shs e.p e.q (dO M e.l))).length=(fD shs e.p e.q (dO M e.l)).length by rw [dQ,KW]] at hlen;show acc.length+_+_<=900;omega
   ·rw [MI,<-LI] at z;exact z
  ·rintro ⟨acc,M,v5,v6,v7,v9,v10,v11,bo⟩ ⟨_,_,_,_,_,YF,z⟩;have e:acc++(mX shs [] M).map jU=acc:=by simp [mX]
   rw [e] at z;exact ⟨YF,z⟩
end
end My
namespace My
open PySem L2 PyProof.Rows
section
variable {P:SS} {w:SW} {K:W.Frag} {mg:Str->Option Value} {base:Heap}
def AE:Pt:=((0,1),(0,1))
def xK (n:Nat) (b:bW) (k:Nat):EI:=⟨n,k,b.o.getD k AE,b.o.getD ((k+1)%b.o.length) AE,(bD b).ls.getD k (0,0,0)⟩
def uZ (marks:Str) (c:Nat):Bool:=!(Builtin.Str.occurrences marks ⟨#[c]⟩ 0 marks.length 1).isEmpty
def rG (m:Str) (k:Nat):Nat:=m.cps.toList.getD k 0
def Wd (marks:Str) (n:Nat) (b:bW):List EI:=((MV b.o.length).filter λk=>uZ marks (rG b.m k)).map (xK n b)
def gP (bs:List bW) (marks:Str):List EI:=bs.zipIdx.flatMap λx=>Wd marks x.2 x.1
def t6 (bs:List bW) (marks:Str):List lV:=mX (bs.map bD) (gP bs marks) []
structure Xx (bs:List bW) (marks:Str):Prop where
 len:bs.length<=10
 bk:∀b∈bs,Oj b
 six:∀b∈bs,b.o.length<=6/\b.m.cps.size=b.o.length
 en:∀e∈gP bs marks,vM e.p e.q
 rows:(t6 bs marks).length<=900
theorem Nz {o:List Pt} (h:0<o.length):(fN o).length=o.length:=by
 simp only [fN,o8,KW,RZ,LC,NV,MA];omega
theorem qO {α:Type} {xs:List α} {k:Nat} {d:α} (h:k<xs.length):xs[k]? = some (xs.getD k d):=by
 rw [LH,KS h];rfl
theorem sO {bs:List bW} {marks:Str} {e:EI} (m:e∈gP bs marks):∃b,bs[e.n]? = some b/\e.k<b.o.length/\uZ marks (rG b.m e.k)=true/\e=xK e.n b e.k:=by
 obtain ⟨x,mx,m⟩:=ML.mp m;obtain ⟨k,mk,rfl⟩:=KY.mp m;obtain ⟨h1,h2⟩:=MH.mp mk;exact ⟨x.1,LV.mp mx,MU.mp h1,h2,rfl⟩
theorem FL {bs:List bW} {marks:Str} (h:Xx bs marks):∀e∈gP bs marks,Zm bs e:=λe m=>by
 refine ⟨?_,h.en e m⟩;obtain ⟨b,hx,hk,_,ee⟩:=sO m;have hb:=h.bk b (KZ hx);rw [ee];refine ⟨b,hx,qO hk,qO (PM _ hb.pos),qO ?_⟩;show e.k<((fN b.o).map cO).length;rw [KW,Nz hb.pos];exact hk
theorem Jm {α β:Type} {f:α->List β} {m:Nat}:∀{xs:List α},(∀x∈xs,(f x).length<=m)->(xs.flatMap f).length<=m*xs.length
 | [],_=>by simp
 | x::xs,h=>by
  have h1:=h x (by simp);have h2:=Jm (xs:=xs) λy m=>h y (by simp [m]);rw [MT,LC,LJ,Nat.mul_succ];omega
theorem Kx {marks:Str} {n:Nat} {b:bW}:(Wd marks n b).length<=b.o.length:=by
 unfold Wd;rw [KW];have:=OK (λk=>uZ marks (rG b.m k)) (MV b.o.length);rw [List.length_range] at this;exact this
theorem Bl {bs:List bW} {marks:Str} (h:∀b∈bs,b.o.length<=6):(gP bs marks).length<=6*bs.length:=by
 have:=Jm (f:=λx:bW×Nat=>Wd marks x.2 x.1) (m:=6) (xs:=bs.zipIdx) λx m=>MG Kx (h x.1 (KZ (LV.mp m)));rw [PY] at this;exact this
theorem EB (m:Str):((kQ m).zipIdx.map λq=>L2.T.tup [.int (q.2:Int),q.1])=(MV m.cps.size).map λ(k:Nat)=>L2.T.tup [.int (k:Int),.str ⟨#[rG m k]⟩]:=by
 refine List.ext_getElem? λi=>?_;unfold kQ rG;rw [LK,LK,NA,LK]
 by_cases c:i<m.cps.size
 ·have c':i<m.cps.toList.length:=by simpa using c
  rw [PR c,KS c'];simp only [Option.map_some,RQ];rw [LH,KS c'];rfl
 ·have c':m.cps.toList.length<=i:=by simpa using c
  rw [OD c',OD (by simpa using c)];rfl
theorem El {α:Type} (f:α->L2.T) (xs:List α):((xs.map f).zipIdx.map λq=>L2.T.tup [.int (q.2:Int),q.1])=xs.zipIdx.map λq=>L2.T.tup [.int (q.2:Int),f q.1]:=by
 rw [SA,MK];rfl
def K8:iC:=λas Q=>∃(bs:List bW) (marks:Str),as=[.v (.lst (bs.map dJ)),.v (.str marks)]/\Xx bs marks/\Q (.l ((t6 bs marks).map jU)) []
abbrev Sb (P w K mg base):=Fn P w K mg base 7 "rim" ["blocks","marks"] (aU K K8)
abbrev Vo:TB:=top 37
theorem xR:aL ["blocks","marks","edges","number","block"] ["blocks","marks"] (aG Vo):=hU
theorem O8 {f:SO} {fd:SR} (F:eM K "rim" "rim" Vo f fd) (TX:Txt mg) (XR:oO P w K mg base)   : bF P w K mg base e9 7 f fd ["blocks","marks"] (aU K K8):=by
 refine F.okT xR ?len (λVS A outer s H E hr=>(aE (aX (i:=2) xR.nd rfl (LA rfl) (bN aA))
 (aE (dY PassesOwn.never rfl (mK rfl rfl TX.n_enumerate (fc (fv 0) aA)) (bV (n:=2) rfl rfl (aJ (aI (i:=3) xR.nd rfl (MM rfl)) (aJ (aI (i:=4) xR.nd rfl (LA rfl)) bK)))
  (aH (d8 (wC rfl (fv 2) (fc (mL (N':=["edge","mark","number","marks"]) (t:=2) (cap:=[(3,false),(1,false)]) rfl (bP.of rfl) rfl (by decide) (Qd rfl TX.n_enumerate (fc (aF rfl (fv 4) aB (λ_ _=>rfl)) aA)) (λ_ _ _ _=>(bV (n:=2) rfl rfl (aJ (aI (i:=0) (show MQ (["edge","mark","number","marks"]:List Str) by decide +kernel) rfl (LA rfl) (MM rfl)) (aJ (aI (i:=1) (show MQ (["edge","mark","number","marks"]:List Str) by decide +kernel) rfl (LA rfl) (MM rfl)) bK)))) (λ_ _ _ _=>(Ek (fv 1) (fv 3))) (λ_ _ _ _=>(aO (fc (fv 2) (fc (fv 0) aA))))) aA)))))
 (aH (aQ (aC XR hr (by omega) rfl (fc (fv 0) (fc (fv 2) aA)))))))) ?rd
 case len=>rintro as Q ⟨bs,marks,rfl,_⟩;rfl
 case rd=>
  rintro as Q ⟨bs,marks,rfl,h,z⟩;show dG _ _ _ ((bs.map dJ).zipIdx.map λq=>L2.T.tup [.int (q.2:Int),q.1]) _;rw [El];refine cW (f:=λq:bW×Nat=>L2.T.tup [.int (q.2:Int),dJ q.1]) (λs':List L2.T×Option U×Option U=>[some (.p (.lst (bs.map dJ))),some (.p (.str marks)),some (.o false s'.1),s'.2.1,s'.2.2])
   (λxs s'=>(∀x∈xs,x.1∈bs)/\s'.1.length+6*xs.length<=900/\dN s'.1=true/\s'.1++(xs.flatMap λx=>Wd marks x.2 x.1).map Wc=(gP bs marks).map Wc) ?_ ?_ bs.zipIdx ([],none,none) ⟨λx m=>KZ (LV.mp m),by have:=h.len;simp;omega,rfl,rfl⟩
  ·rintro x xs ⟨acc,v3,v4⟩ rest ⟨hx,hl,YF,e⟩ K;obtain ⟨b,n⟩:=x;obtain ⟨f1,f2⟩:=h.six b (hx (b,n) (by simp));simp only [LJ] at hl;refine ⟨rfl,?_⟩;show fM _ _ _ ((kQ b.m).zipIdx.map λq=>L2.T.tup [.int (q.2:Int),q.1]) _ _;rw [EB,f2];refine gZ (f:=λk:Nat=>L2.T.tup [.int (k:Int),.str ⟨#[rG b.m k]⟩]) (h:=λk:Nat=>L2.T.tup [.int (n:Int),.int (k:Int)]) (λk=>uZ marks (rG b.m k)) (λ(w:Option U×Option U) acc=>[w.1,w.2,some (.p (.int (n:Int))),some (.p (.str marks)),some (.o false acc)]) _ (none,none) [] (by simp;omega) (λk m w acc rest ha K=>?_) λw=>?_
   ·have kk:=K (some (.p (.int (k:Int))),some (.p (.str ⟨#[rG b.m k]⟩)));show if uZ marks (rG b.m k)=true then _ else _
    by_cases c:uZ marks (rG b.m k)=true
    ·rw [if_pos c];rw [if_pos c] at kk;exact ⟨ha,kk⟩
    ·rw [if_neg c];rw [if_neg c] at kk;exact kk
   ·have en:([]++((MV b.o.length).filter λk=>uZ marks (rG b.m k)).map λk:Nat=>L2.T.tup [.int (n:Int),.int (k:Int)])=(Wd marks n b).map Wc:=by
     rw [MZ];unfold Wd;rw [MK];rfl
    rw [en];have el:=Kx (marks:=marks) (n:=n) (b:=b);refine ⟨bA (λ_=>rfl) _,?_,?_⟩
    ·show (acc++_).length<=1000;rw [LC,KW];omega
    ·refine K (acc++(Wd marks n b).map Wc,some (.p (.int (n:Int))),some (.p (dJ b))) ⟨λy m=>hx y (by simp [m]),by simp only [LC,KW];omega,by rw [lP,YF,bA (λ_=>rfl)];rfl,?_⟩;rw [MT,MI] at e;rw [LI];exact e
  ·rintro ⟨acc,v3,v4⟩ ⟨_,hl,YF,e⟩;have e0:acc=(gP bs marks).map Wc:=by simpa using e
   subst e0;have:=Bl (marks:=marks) λb m=>(h.six b m).1;have:=h.len;refine ⟨bs,gP bs marks,rfl,by omega,h.bk,by omega,FL h,by omega,h.rows,?_⟩;exact ⟨bA Pu _,z⟩
theorem Cw {shs:List Sh} {p q:Pt} {tw:List Pr} (hs:∀s∈shs,rP s) (en:vM p q) (YJ:∀x∈tw,Pb x.1/\Pb x.2):(fD shs p q tw).length<=1+shs.length+tw.length/\Dj 0 false (fD shs p q tw):=by
 obtain ⟨g1,g2,ur⟩:=La en;have r0:i8 n9:=λr m=>by
  have e:r=((0,1),(1,1),false):=by simpa [n9] using m
  subst e;exact ⟨Pe,Mn⟩
 have c0:Ch 0 false n9:=⟨by rw [iX],by rw [iX,iZ];grind,λz=>absurd z.1 (by decide),trivial⟩;have go:∀(os:List Ov) (rows rs:List lG),(∀o∈os,zW o)->i8 rows->Ch 0 false rows->fK os rows=some rs->i8 rs/\Ch 0 false rs/\vL rs<=vL rows+os.length:=λos=>by
  induction os with
  | nil=>intro rows rs _ h1 h2 e;cases e;exact ⟨h1,h2,by simp⟩
  | cons o os ih=>
   intro rows rs ho h1 h2 e;have YX:∀o∈os,zW o:=λx m=>ho x (by simp [m]);cases o with
   | none=>
    obtain ⟨a,b,c⟩:=ih rows rs YX h1 h2 e;exact ⟨a,b,by simp only [LJ];omega⟩
   | some r=>
    unfold fK at e;obtain ⟨f1,f2⟩:=ho (some r) (by simp) r rfl;split at e
    ·obtain ⟨a,b,c⟩:=ih rows rs YX h1 h2 e;exact ⟨a,b,by simp only [LJ];omega⟩
    ·split at e
     ·cases e
     ·have cp:=pG f1.d f2.d h1 h2;obtain ⟨a,b,c⟩:=ih _ rs YX (fU h1 f1 f2) cp.1 e;have:=wW (0<val r.1);exact ⟨a,b,by simp only [LJ];omega⟩
 have tg:∀(ts:List (Fr×Fr)) (rows:List lG),(∀t∈ts,F2 t.1/\F2 t.2)->i8 rows->Ch 0 false rows->Ch 0 false (mW ts rows)/\vL (mW ts rows)<=vL rows+ts.length:=λts=>by
  induction ts with
  | nil=>intro rows _ _ h2;exact ⟨h2,by simp [mW]⟩
  | cons t ts ih=>
   intro rows ht h1 h2;obtain ⟨f1,f2⟩:=ht t (by simp);have cp:=pG f1.d f2.d h1 h2;obtain ⟨a,b⟩:=ih _ (λx m=>ht x (by simp [m])) (fU h1 f1 f2) cp.1;have:=wW (0<val t.1);exact ⟨a,by simp only [LJ];unfold mW;omega⟩
 have zd:∀o∈shs.map (λs=>a7 s (eR p q)),zW o:=λo m=>by
  obtain ⟨s,ms,rfl⟩:=KY.mp m;exact Jw (hs s ms).b g1 g2
 have ze:∀t∈rA p q tw,F2 t.1/\F2 t.2:=λt m=>by
  obtain ⟨y,my,rfl⟩:=KY.mp m;exact ⟨(jL en.hp en.hq (YJ y my).1 en.ne).2.2,(jL en.hp en.hq (YJ y my).2 en.ne).2.2⟩
 unfold fD qU;cases g:fK (shs.map λs=>a7 s (eR p q)) n9 with
 | none=>exact ⟨by simp,trivial⟩
 | some rs=>
  obtain ⟨a,b,c⟩:=go _ _ _ zd r0 c0 g;obtain ⟨d,e⟩:=tg (rA p q tw) rs ze a b;refine ⟨?_,Uj d⟩;have eb:(eO (mW (rA p q tw) rs)).length=vL (mW (rA p q tw) rs):=by unfold eO vL;rw [KW]
  show (eO (mW (rA p q tw) rs)).length<=_;have n0:vL n9=1:=rfl;have l1:(rA p q tw).length=tw.length:=by unfold rA;rw [KW]
  rw [KW] at c;omega
theorem Pq {shs:List Sh} (hs:∀s∈shs,rP s):∀(es:List EI) (M:AD) (m:Nat),(∀e∈es,vM e.p e.q)->Pc M->(∀l,(dO M l).length<=m)->2*(mX shs es M).length<=es.length*(2*(1+shs.length+m)+es.length)
 | [],M,m,_,_,_=>by simp [mX]
 | e::es,M,m,he,hM,hm=>by
  have en:=he e (by simp);have YJ:=Kf hM e.l;have h1:=(Cw hs en YJ).1;have hg:=hm e.l;have ih:=Pq hs es (j0 M e.l (dO M e.l++[(e.p,e.q)])) (m+1) (λx mx=>he x (by simp [mx])) (Lz hM e.l λy my=>by
   rcases LP.mp my with my | my
   ·exact YJ y my
   ·rw [LM] at my;rw [my];exact ⟨en.hp,en.hq⟩) (λl=>by
   rw [oY]
   by_cases c:e.l=l
   ·rw [if_pos c,LC,ME];omega
   ·rw [if_neg c];have:=hm l;omega)
  unfold mX;rw [LC,LJ,show (dQ e (fD shs e.p e.q (dO M e.l))).length=(fD shs e.p e.q (dO M e.l)).length by rw [dQ,KW]];generalize es.length=n at *;have e1:n*(2*(1+shs.length+(m+1))+n)=n*(2*(1+shs.length+m))+(2*n+n*n):=by grind
  have e2:(n+1)*(2*(1+shs.length+m)+(n+1))=n*(2*(1+shs.length+m))+2*(1+shs.length+m)+(n*n+2*n+1):=by grind
  omega
end
end My
namespace My
open PySem L2 PyProof.Rows
section
variable {P:SS} {w:SW} {K:W.Frag} {mg:Str->Option Value} {base:Heap}
theorem uG {x:Rat} (h:x≠0):0<x*x:=by
 by_cases c:0<x
 ·exact Rat.mul_pos c c
 ·have:=Rat.mul_pos (a:=-x) (b:=-x) (by grind) (by grind);grind
theorem FY (x:Rat):0<=x*x:=by
 by_cases c:x=0
 ·rw [c];grind
 ·exact Rat.le_of_lt (uG c)
theorem J4 {A:Rat} (h:0<A):0<A.num:=by
 have h1:0<=A.num:=Rat.num_nonneg.mpr (Rat.le_of_lt h);have h2:A.num≠0:=λz=>by have:=Rat.num_eq_zero.mp z;grind
 omega
theorem yO (A:Rat):A*(A.den:Rat)=(A.num:Rat):=by
 have e:=Rat.num_divInt_den A;rw [Rat.divInt_eq_div] at e;have n:((A.den:Int):Rat)≠0:=by have:=A.den_pos;exact_mod_cast (show A.den≠0 by omega)
 have n':(A.den:Rat)=((A.den:Int):Rat):=by push_cast;rfl
 rw [n'];grind
def vq (p:Pt):Q2:=(val p.1,val p.2)
structure lJ (p:Pt):Prop where
 w:1<=(aK p).2.2
 x:((aK p).1:Rat)=val p.1*((aK p).2.2:Rat)
 y:((aK p).2.1:Rat)=val p.2*((aK p).2.2:Rat)
theorem spt {p:Pt} (hx:cF p.1) (hy:cF p.2):lJ p:=by
 have dx:=hx.d;have dy:=hy.d;have g0:0<g9 p.1.2 p.2.2:=Qh (by omega);have d1:g9 p.1.2 p.2.2∣p.1.2:=MP.mpr (NT _ _);have d2:g9 p.1.2 p.2.2∣p.2.2:=MP.mpr (NX _ _);have e1:p.1.2.fdiv (g9 p.1.2 p.2.2)=p.1.2/g9 p.1.2 p.2.2:=pK _ _;have e2:p.2.2.fdiv (g9 p.1.2 p.2.2)=p.2.2/g9 p.1.2 p.2.2:=pK _ _;obtain ⟨a,ha⟩:=d1;obtain ⟨b,hb⟩:=d2;have f1:p.1.2.fdiv (g9 p.1.2 p.2.2)=a:=by rw [e1];exact RI (by omega) ha
 have f2:p.2.2.fdiv (g9 p.1.2 p.2.2)=b:=by rw [e2];exact RI (by omega) hb
 have es:aK p=(p.1.1*b,p.2.1*a,a*p.2.2):=by unfold aK;rw [f1,f2]
 have ap:0<a:=by
  rcases Int.lt_or_le 0 a with h | h
  ·exact h
  ·have:=QH (Int.le_of_lt g0) h;omega
 have c:a*p.2.2=p.1.2*b:=by
  have t1:a*p.2.2=a*(g9 p.1.2 p.2.2*b):=by rw [<-hb]
  have t2:p.1.2*b=g9 p.1.2 p.2.2*a*b:=by rw [<-ha]
  rw [t1,t2];grind
 have c':(a:Rat)*(p.2.2:Rat)=(p.1.2:Rat)*(b:Rat):=by exact_mod_cast c
 have v1:=Qi hx;have v2:=Qi hy;refine ⟨?_,?_,?_⟩
 ·rw [es];show 1<=a*p.2.2;have:=RF ap (show 0<p.2.2 by omega);omega
 ·rw [es];show ((p.1.1*b:Int):Rat)=val p.1*((a*p.2.2:Int):Rat)
  push_cast
  rw [c'];grind
 ·rw [es];show ((p.2.1*a:Int):Rat)=val p.2*((a*p.2.2:Int):Rat)
  push_cast
  grind
theorem lJ.p {p:Pt} (h:lJ p):(0:Rat)<((aK p).2.2:Rat):=by have:=h.w;exact_mod_cast (show (0:Int)<(aK p).2.2 by omega)
def fA (c d:Pt):I3:=mD (aK c) (aK d)
theorem Bh {c d x:Pt} (hc:lJ c) (hd:lJ d) (hx:lJ x):((gQ (fA c d) (aK x):Int):Rat)=((aK c).2.2:Rat)*((aK d).2.2:Rat)*((aK x).2.2:Rat)*fE (vq c,vq d) (vq x):=by
 unfold gQ fA mD fE bQ aV aS vq
 push_cast
 rw [hc.x,hc.y,hd.x,hd.y,hx.x,hx.y];grind
theorem pS {l:I3} (h:g3 l≠0):0<g3 l:=by
 have:0<=g3 l:=by unfold g3 g9;omega
 omega
theorem Px (l:I3):g3 l∣l.1/\g3 l∣l.2.1/\g3 l∣l.2.2:=by
 have d1:g9 l.1 l.2.1∣l.1:=MP.mpr (NT _ _);have d2:g9 l.1 l.2.1∣l.2.1:=MP.mpr (NX _ _);have d3:g3 l∣g9 l.1 l.2.1:=MP.mpr (NT _ _);have d4:g3 l∣l.2.2:=MP.mpr (NX _ _);exact ⟨Int.dvd_trans d3 d1,Int.dvd_trans d3 d2,d4⟩
theorem mM {l:I3} (h:g3 l≠0):l.1=g3 l*(cO l).1/\l.2.1=g3 l*(cO l).2.1/\l.2.2=g3 l*(cO l).2.2:=by
 obtain ⟨d1,d2,d3⟩:=Px l;have k:∀i,g3 l∣i->i=g3 l*i.fdiv (g3 l):=λi di=>by
  have:i.fdiv (g3 l)=i/g3 l:=pK _ _;rw [this];exact (Int.mul_ediv_cancel' di).symm
 exact ⟨k _ d1,k _ d2,k _ d3⟩
theorem Hy (n:Nat) (l:I3):g3 ((n:Int)*l.1,(n:Int)*l.2.1,(n:Int)*l.2.2)=(n:Int)*g3 l:=by
 unfold g3 g9;simp only [PJ,Int.natAbs_natCast,Nat.gcd_mul_left]
 push_cast;rfl
theorem Ky {l:I3} (h:g3 l≠0):g3 (cO l)=1:=by
 obtain ⟨e1,e2,e3⟩:=mM h;have p:=pS h;obtain ⟨n,hn⟩:∃n:Nat,g3 l=(n:Int):=⟨(g3 l).toNat,by omega⟩;have k:=Hy n (cO l);rw [<-hn,<-e1,<-e2,<-e3] at k;have k':g3 l*g3 (cO l)=g3 l*1:=by rw [Int.mul_one];exact k.symm
 exact RK h k'
theorem Su {l o:I3} {m n:Int} (hl:g3 l≠0) (ho:g3 o≠0) (hm:0<m) (hn:0<n) (e1:n*l.1=m*o.1) (e2:n*l.2.1=m*o.2.1) (e3:n*l.2.2=m*o.2.2):cO l=cO o:=by
 obtain ⟨a1,a2,a3⟩:=mM hl;obtain ⟨b1,b2,b3⟩:=mM ho;have pl:=pS hl;have po:=pS ho;have ol:=Ky hl;have oo:=Ky ho;generalize cO l=A at *;generalize cO o=B at *;rw [a1,b1,<-PQ,<-PQ] at e1;rw [a2,b2,<-PQ,<-PQ] at e2;rw [a3,b3,<-PQ,<-PQ] at e3;have p1:=RF hn pl;have p2:=RF hm po;generalize n*g3 l=α at *;generalize m*g3 o=β at *;obtain ⟨x,hx⟩:∃n:Nat,α=(n:Int):=⟨α.toNat,by omega⟩;obtain ⟨y,hy⟩:∃n:Nat,β=(n:Int):=⟨β.toNat,by omega⟩;have k1:=Hy x A;have k2:=Hy y B;rw [<-hx,ol,e1,e2,e3] at k1;rw [<-hy,oo,k1] at k2;have:α=β:=by omega
 subst this;have c:∀{u v:Int},α*u=α*v->u=v:=λh=>RK (by omega) h;exact Prod.ext (c e1) (Prod.ext (c e2) (c e3))
theorem Cj {c d p q:Pt} (hc:lJ c) (hd:lJ d) (hp:lJ p) (hq:lJ q) (h:g3 (fA c d)≠0):∃k:Rat,0<k/\(lA (aK p) (aK q) (cO (fA c d)):Rat)=k*fE (vq c,vq d) (vq p)/\(lB (aK p) (aK q) (cO (fA c d)):Rat)=k*fE (vq c,vq d) (vq q):=by
 obtain ⟨e1,e2,e3⟩:=mM h;have gp:=pS h;have gp':(0:Rat)<(g3 (fA c d):Rat):=by exact_mod_cast gp
 have k:∀x:I3,gQ (fA c d) x=g3 (fA c d)*gQ (cO (fA c d)) x:=λx=>by unfold gQ;grind
 have ox:=Bh hc hd hp;have oy:=Bh hc hd hq;rw [k] at ox oy
 push_cast at ox oy
 have wc:=hc.p;have wd:=hd.p;have wp:=hp.p;have wq:=hq.p;have m1:=Rat.mul_pos (Rat.mul_pos wc wd) (Rat.mul_pos wp wq);refine ⟨((aK c).2.2:Rat)*((aK d).2.2:Rat)*(((aK p).2.2:Rat)*((aK q).2.2:Rat))/(g3 (fA c d):Rat),by rw [Rat.div_def];exact Rat.mul_pos m1 (Rat.inv_pos.mpr gp'),?_,?_⟩
 ·unfold lA;push_cast;grind
 ·unfold lB;push_cast;grind
theorem F4 {c d p q:Pt} (hc:lJ c) (hd:lJ d) (hp:lJ p) (hq:lJ q) (h:g3 (fA c d)≠0):∃k:Rat,0<k/\∀t,lF (aK p) (aK q) (cO (fA c d)) t=fE (vq c,vq d) (gR (vq p) (vq q) t)*k:=by
 obtain ⟨k,k0,h1,h2⟩:=Cj hc hd hp hq h;refine ⟨k,k0,λt=>?_⟩;rw [kE];unfold lF Ad;rw [h1,h2];grind
theorem yN {c d p q:Pt} (hc:lJ c) (hd:lJ d) (hp:lJ p) (hq:lJ q) (h:g3 (fA c d)≠0) (h':g3 (fA p q)≠0) (ne:0<aW (aV (vq c,vq d)) (aV (vq c,vq d))) (z1:fE (vq c,vq d) (vq p)=0) (z2:fE (vq c,vq d) (vq q)=0) :
  cO (fA c d)=cO (fA p q)↔0<aW (aV (vq c,vq d)) (aS (vq q) (vq p)):=by
 have comp:∀{c d:Pt},lJ c->lJ d->((fA c d).1:Rat) = -(((aK c).2.2:Rat)*((aK d).2.2:Rat)*(aV (vq c,vq d)).2)/\((fA c d).2.1:Rat)=((aK c).2.2:Rat)*((aK d).2.2:Rat)*(aV (vq c,vq d)).1/\((fA c d).2.2:Rat)=((aK c).2.2:Rat)*((aK d).2.2:Rat)*bQ (vq c) (vq d):=λ{c d} hc hd=>by
  unfold fA mD aV aS bQ vq
  push_cast
  rw [hc.x,hc.y,hd.x,hd.y];exact ⟨by grind,by grind,by grind⟩
 obtain ⟨a1,a2,a3⟩:=comp hc hd;obtain ⟨b1,b2,b3⟩:=comp hp hq;have wc:=hc.p;have wd:=hd.p;have wp:=hp.p;have wq:=hq.p;have m1:=Rat.mul_pos wc wd;have m2:=Rat.mul_pos wp wq;have vE:aS (vq q) (vq p)=aV (vq p,vq q):=rfl;rw [vE];constructor
 ·intro e;obtain ⟨l1,l2,_⟩:=mM h;obtain ⟨o1,o2,_⟩:=mM h';rw [<-e] at o1 o2;have g1:(0:Rat)<(g3 (fA c d):Rat):=by exact_mod_cast pS h
  have g2:(0:Rat)<(g3 (fA p q):Rat):=by exact_mod_cast pS h'
  have l1':((fA c d).1:Rat)=(g3 (fA c d):Rat)*((cO (fA c d)).1:Rat):=by exact_mod_cast l1
  have l2':((fA c d).2.1:Rat)=(g3 (fA c d):Rat)*((cO (fA c d)).2.1:Rat):=by exact_mod_cast l2
  have o1':((fA p q).1:Rat)=(g3 (fA p q):Rat)*((cO (fA c d)).1:Rat):=by exact_mod_cast o1
  have o2':((fA p q).2.1:Rat)=(g3 (fA p q):Rat)*((cO (fA c d)).2.1:Rat):=by exact_mod_cast o2
  generalize ((cO (fA c d)).1:Rat)=M at *;generalize ((cO (fA c d)).2.1:Rat)=N at *;generalize (g3 (fA c d):Rat)=g at *;generalize (g3 (fA p q):Rat)=g' at *;generalize ((aK c).2.2:Rat)*((aK d).2.2:Rat)=s at *;generalize ((aK p).2.2:Rat)*((aK q).2.2:Rat)=s' at *;generalize aV (vq c,vq d)=u at *;generalize aV (vq p,vq q)=v at *;have i1:aW u v*(s*s'*g)=aW u u*(s*s*g'):=by
   unfold aW;grind
  refine dE (Rat.mul_pos (Rat.mul_pos m1 m2) g1) ?_;rw [i1];exact Rat.mul_pos ne (Rat.mul_pos (Rat.mul_pos m1 m1) g2)
 ·intro dp
  -- the line is so many times the other
  have vne:0<aW (aV (vq p,vq q)) (aV (vq p,vq q)):=by
   unfold aW;have s1:=FY (aV (vq p,vq q)).1;have s2:=FY (aV (vq p,vq q)).2
   by_cases y1:(aV (vq p,vq q)).1=0
   ·by_cases y2:(aV (vq p,vq q)).2=0
    ·unfold aW at dp;rw [y1,y2] at dp;grind
    ·have:=uG y2;grind
   ·have:=uG y1;grind
  have cz:bQ (aV (vq p,vq q)) (aV (vq c,vq d))=0:=by
   have:bQ (aV (vq p,vq q)) (aV (vq c,vq d))=fE (vq c,vq d) (vq p)-fE (vq c,vq d) (vq q):=by unfold fE bQ aV aS;grind
   rw [this,z1,z2];grind
  obtain ⟨p1,p2⟩:=par vne cz;have c3:bQ (vq c) (vq d)*aW (aV (vq p,vq q)) (aV (vq p,vq q))=aW (aV (vq p,vq q)) (aV (vq c,vq d))*bQ (vq p) (vq q):=by
   have t1:bQ (vq c) (vq d)=bQ (vq p) (aV (vq c,vq d)):=by
    have:bQ (vq c) (vq d)-bQ (vq p) (aV (vq c,vq d))=fE (vq c,vq d) (vq p):=by unfold fE bQ aV aS;grind
    rw [z1] at this;grind
   have t2:bQ (vq p) (vq q)=bQ (vq p) (aV (vq p,vq q)):=by unfold bQ aV aS;grind
   rw [t1,t2];unfold bQ;grind
  have dp':0<aW (aV (vq p,vq q)) (aV (vq c,vq d)):=by unfold aW at dp ⊢;grind
  generalize hr:aW (aV (vq p,vq q)) (aV (vq c,vq d))=r at *;generalize hv:aW (aV (vq p,vq q)) (aV (vq p,vq q))=v at *
  -- n*L=m*O over numbers
  have key:∀(A B:Rat),0<A->0<B->∃m n:Int,0<m/\0<n/\(n:Rat)*A=(m:Rat)*B:=λA B hA hB=>by
   refine ⟨A.num*B.den,B.num*A.den,RF (J4 hA) (by have:=B.den_pos;omega),RF (J4 hB) (by have:=A.den_pos;omega),?_⟩;have eA:=yO A;have eB:=yO B
   push_cast
   rw [<-eA,<-eB];grind
  obtain ⟨m,n,m0,n0,e⟩:=key (r*(((aK c).2.2:Rat)*((aK d).2.2:Rat))) (v*(((aK p).2.2:Rat)*((aK q).2.2:Rat))) (Rat.mul_pos dp' m1) (Rat.mul_pos vne m2);have vn0:v≠0:=by grind
  have fin:∀{x y:Int},(n:Rat)*(x:Rat)*v=(m:Rat)*(y:Rat)*v->n*x=m*y:=λ{x y} h=>by
   have:(n:Rat)*(x:Rat)=(m:Rat)*(y:Rat):=by grind
   exact_mod_cast this
  refine Su h h' m0 n0 (fin ?_) (fin ?_) (fin ?_)
  ·rw [a1,b1];grind
  ·rw [a2,b2];grind
  ·rw [a3,b3];grind
end
end My
namespace My
open PySem L2 PyProof.Rows
section
variable {P:SS} {w:SW} {K:W.Frag} {mg:Str->Option Value} {base:Heap}
def zr (o:List Pt):List (Pt×Pt):=o.zip (o8 o)
def jG (o:List Pt):List Eg:=(zr o).map λx=>(vq x.1,vq x.2)
theorem Bb {α β:Type} (f:α->β) (xs:List α):o8 (xs.map f)=(o8 xs).map f:=by unfold o8;rw [MI,SM,QL]
theorem xJ (o:List Pt):fN o=(zr o).map λx=>fA x.1 x.2:=by
 unfold fN zr;rw [Bb,List.zip_map,MK];rfl
theorem dA {o:List Pt} {x:Pt×Pt} (h:x∈zr o):x.1∈o/\x.2∈o:=by
 obtain ⟨m1,m2⟩:=NY (a:=x.1) (b:=x.2) h;refine ⟨m1,?_⟩;rcases LP.mp m2 with m2 | m2
 ·exact OE m2
 ·exact NW m2
structure GB (o:List Pt):Prop where
 sp:∀p∈o,lJ p
 cx:Cx (jG o)
 ne:o≠[]
theorem Uy {o:List Pt} (h:o≠[]):zr o≠[]:=by
 cases o with
 | nil=>exact absurd rfl h
 | cons p o=>cases o<;>simp [zr,o8]
theorem GB.es {o:List Pt} (h:GB o):jG o≠[]:=by
 have:=Uy h.ne;unfold jG
 simpa using this
theorem Yt {c d:Pt} (hc:lJ c) (hd:lJ d):((fA c d).1:Rat) = -(((aK c).2.2:Rat)*((aK d).2.2:Rat)*(aV (vq c,vq d)).2)/\((fA c d).2.1:Rat)=((aK c).2.2:Rat)*((aK d).2.2:Rat)*(aV (vq c,vq d)).1:=by
 unfold fA mD aV aS vq
 push_cast
 rw [hc.x,hc.y,hd.x,hd.y];exact ⟨by grind,by grind⟩
theorem oJ {c d:Pt} (hc:lJ c) (hd:lJ d) (h:0<aW (aV (vq c,vq d)) (aV (vq c,vq d))):g3 (fA c d)≠0:=λz=>by
 obtain ⟨d1,d2,_⟩:=Px (fA c d);rw [z] at d1 d2;have z1:=Int.zero_dvd.mp d1;have z2:=Int.zero_dvd.mp d2;obtain ⟨c1,c2⟩:=Yt hc hd;rw [z1] at c1;rw [z2] at c2;have m:=Rat.mul_pos hc.p hd.p;have n0:((aK c).2.2:Rat)*((aK d).2.2:Rat)≠0:=by grind
 have e1:(aV (vq c,vq d)).2=0:=by
  have:((aK c).2.2:Rat)*((aK d).2.2:Rat)*(aV (vq c,vq d)).2=0:=by push_cast at c1;grind
  exact (Rat.mul_eq_zero.mp this).resolve_left n0
 have e2:(aV (vq c,vq d)).1=0:=by
  have:((aK c).2.2:Rat)*((aK d).2.2:Rat)*(aV (vq c,vq d)).1=0:=by push_cast at c2;grind
  exact (Rat.mul_eq_zero.mp this).resolve_left n0
 unfold aW at h;rw [e1,e2] at h;grind
theorem sG {ns:List Int} {x:Int} (h:x∈ns):x<=Ab ns:=by
 cases ns with
 | nil=>simp at h
 | cons n ns=>
  obtain ⟨_,h2,h3⟩:=L2.tL ns n;rcases KR.mp h with rfl | h
  ·exact h2
  ·exact h3 x h
theorem mT {ns:List Int} {x:Int} (h:x∈ns):iM ns<=x:=by
 cases ns with
 | nil=>simp at h
 | cons n ns=>
  obtain ⟨_,h2,h3⟩:=L2.oX ns n;rcases KR.mp h with rfl | h
  ·exact h2
  ·exact h3 x h
theorem FJ {N a w a' w':Int} {x y:Rat} (hN:0<N) (hw:1<=w) (df:1<=w') (ha:(a:Rat)=x*(w:Rat)) (zi:(a':Rat)=y*(w':Rat)) (h:(a*N).fdiv w<(a'*N).fdiv w'):x<y:=by
 rw [OM _ (by omega),OM _ (by omega)] at h;have h1:a*N<(a*N/w+1)*w:=Int.lt_ediv_add_one_mul_self _ (by omega);have h2:a'*N/w'*w'<=a'*N:=Int.ediv_mul_le _ (by omega);generalize a*N/w=F at h h1;generalize a'*N/w'=G at h h2;have p1:(0:Rat)<(w:Rat):=by exact_mod_cast (show (0:Int)<w by omega)
 have p2:(0:Rat)<(w':Rat):=by exact_mod_cast (show (0:Int)<w' by omega)
 have q1:(a:Rat)*(N:Rat)<((F:Rat)+1)*(w:Rat):=by exact_mod_cast h1
 have q2:(G:Rat)*(w':Rat)<=(a':Rat)*(N:Rat):=by exact_mod_cast h2
 have q3:(F:Rat)+1<=(G:Rat):=by exact_mod_cast (show F+1<=G by omega)
 rw [ha] at q1;rw [zi] at q2;have r1:0<((F:Rat)+1-x*(N:Rat))*(w:Rat):=by grind
 have r2:0<=(y*(N:Rat)-(G:Rat))*(w':Rat):=by grind
 have s1:=dE p1 r1;have s2:=bL p2 r2;have n0:(0:Rat)<(N:Rat):=by exact_mod_cast hN
 have:0<(y-x)*(N:Rat):=by grind
 have:=dE n0 this;grind
theorem Yf {a w a' w':Int} {x y:Rat} (hw:1<=w) (df:1<=w') (ha:(a:Rat)=x*(w:Rat)) (zi:(a':Rat)=y*(w':Rat)) (h:(a*65536).fdiv w<(a'*65536).fdiv w'):x<y:=FJ (N:=65536) (by decide) hw df ha zi h
theorem Si {a b c t:Rat} (h:c<a) (k:c<b) (t0:0<=t) (t1:t<=1):c<a+(b-a)*t:=by
 rcases Rat.le_total (a:=a) (b:=b) with q | q
 ·have:=Rat.mul_nonneg (show 0<=b-a by grind) t0;grind
 ·have:=Rat.mul_nonneg (show 0<=a-b by grind) (show 0<=1-t by grind);grind
theorem G6 {a b c t:Rat} (h:a<c) (k:b<c) (t0:0<=t) (t1:t<=1):a+(b-a)*t<c:=by
 have:=Si (a:=-a) (b:=-b) (c:=-c) (t:=t) (by grind) (by grind) t0 t1;grind
theorem Mt {b:bW} (hb:GB b.o) {p q:Pt} (hp:lJ p) (hq:lJ q) (h:nH (bD b).b (eR p q).b=true) {t:Rat} (t0:0<=t) (t1:t<=1) (k:Af (jG b.o) (gR (vq p) (vq q) t)):False:=by
 have box:=λw=>hb.cx.box hb.es w k;have wg:∀g∈jG b.o,∃c∈b.o,g.1=vq c:=λg m=>by
  obtain ⟨x,mx,rfl⟩:=KY.mp m;exact ⟨x.1,(dA mx).1,rfl⟩
 have bx:∀c∈b.o,(t9 (b.o.map aK)).1<=((aK c).1*65536).fdiv (aK c).2.2/\((aK c).1*65536).fdiv (aK c).2.2<=(t9 (b.o.map aK)).2.2.1/\(t9 (b.o.map aK)).2.1<=((aK c).2.1*65536).fdiv (aK c).2.2/\((aK c).2.1*65536).fdiv (aK c).2.2<=(t9 (b.o.map aK)).2.2.2:=λc m=>by
  have mx:((aK c).1*65536).fdiv (aK c).2.2∈Pf (b.o.map aK):=by unfold Pf;rw [MK];exact KY.mpr ⟨c,m,rfl⟩
  have my:((aK c).2.1*65536).fdiv (aK c).2.2∈Pj (b.o.map aK):=by unfold Pj;rw [MK];exact KY.mpr ⟨c,m,rfl⟩
  exact ⟨mT mx,sG mx,mT my,sG my⟩
 have sx:∀r,(r=p\/r=q)->((aK r).1*65536).fdiv (aK r).2.2∈Pf [aK p,aK q]:=λr hr=>by
  unfold Pf;rcases hr with rfl | rfl<;>simp
 have sy:∀r,(r=p\/r=q)->((aK r).2.1*65536).fdiv (aK r).2.2∈Pj [aK p,aK q]:=λr hr=>by
  unfold Pj;rcases hr with rfl | rfl<;>simp
 have jx:∀r,(r=p\/r=q)->lJ r:=λr hr=>by rcases hr with rfl | rfl<;>assumption
 unfold nH at h;simp only [OL,decide_eq_true_eq] at h;have h':(t9 (b.o.map aK)).2.2.1<iM (Pf [aK p,aK q])\/Ab (Pf [aK p,aK q])<(t9 (b.o.map aK)).1\/(t9 (b.o.map aK)).2.2.2<iM (Pj [aK p,aK q])\/Ab (Pj [aK p,aK q])<(t9 (b.o.map aK)).2.1:=by
  rcases h with ((h | h) | h) | h
  ·exact .inl h
  ·exact .inr (.inl h)
  ·exact .inr (.inr (.inl h))
  ·exact .inr (.inr (.inr h))
 rcases h' with h | h | h | h
 ·obtain ⟨g,mg,le⟩:=box (1,0);obtain ⟨c,mc,ec⟩:=wg g mg;rw [ec] at le;have hc:=hb.sp c mc;have lt:∀r,(r=p\/r=q)->val c.1<val r.1:=λr hr=>Yf hc.w (jx r hr).w hc.x (jx r hr).x (by have:=(bx c mc).2.1;have:=mT (sx r hr);omega);have:=Si (lt p (.inl rfl)) (lt q (.inr rfl)) t0 t1;unfold aW gR vq at le;grind
 ·obtain ⟨g,mg,le⟩:=box (-1,0);obtain ⟨c,mc,ec⟩:=wg g mg;rw [ec] at le;have hc:=hb.sp c mc;have lt:∀r,(r=p\/r=q)->val r.1<val c.1:=λr hr=>Yf (jx r hr).w hc.w (jx r hr).x hc.x (by have:=(bx c mc).1;have:=sG (sx r hr);omega);have:=G6 (lt p (.inl rfl)) (lt q (.inr rfl)) t0 t1;unfold aW gR vq at le;grind
 ·obtain ⟨g,mg,le⟩:=box (0,1);obtain ⟨c,mc,ec⟩:=wg g mg;rw [ec] at le;have hc:=hb.sp c mc;have lt:∀r,(r=p\/r=q)->val c.2<val r.2:=λr hr=>Yf hc.w (jx r hr).w hc.y (jx r hr).y (by have:=(bx c mc).2.2.2;have:=mT (sy r hr);omega);have:=Si (lt p (.inl rfl)) (lt q (.inr rfl)) t0 t1;unfold aW gR vq at le;grind
 ·obtain ⟨g,mg,le⟩:=box (0,-1);obtain ⟨c,mc,ec⟩:=wg g mg;rw [ec] at le;have hc:=hb.sp c mc;have lt:∀r,(r=p\/r=q)->val r.2<val c.2:=λr hr=>Yf (jx r hr).w hc.w (jx r hr).y hc.y (by have:=(bx c mc).2.2.1;have:=sG (sy r hr);omega);have:=G6 (lt p (.inl rfl)) (lt q (.inr rfl)) t0 t1;unfold aW gR vq at le;grind
structure FX (es:List Eg) (p q:Q2) (r:Fr×Fr×Nat):Prop where
 d1:1<=r.1.2
 d2:1<=r.2.1.2
 lt:val r.1<val r.2.1
 l0:0<=val r.1
 h1:val r.2.1<=1
 s:∀t,0<=t->t<=1->(Af es (gR p q t)↔val r.1<=t/\t<=val r.2.1)
 lo:r.1=(0,1)\/(0<val r.1/\∃e∈es,fE e p<0/\0<fE e q/\fE e (gR p q (val r.1))=0)
 hi:r.2.1=(1,1)\/(val r.2.1<1/\∃e∈es,0<fE e p/\fE e q<0/\fE e (gR p q (val r.2.1))=0)
 h:(r.2.2=0/\∀e∈es,¬(fE e p=0/\fE e q=0))\/((∃e∈es,fE e p=0/\fE e q=0)/\(r.2.2=1\/r.2.2=2)/\∀e∈es,fE e p=0->fE e q=0->(r.2.2=1↔0<aW (aV e) (aS q p)))
theorem Kl (b:bW):(bD b).ls=(zr b.o).map λx=>cO (fA x.1 x.2):=by
 show (fN b.o).map cO=_;rw [xJ,MK];rfl
theorem Tf {b:bW} (hb:GB b.o) {p q:Pt} (hp:lJ p) (hq:lJ q) (t:Rat):(∀l∈(bD b).ls,0<=lF (aK p) (aK q) l t)↔Af (jG b.o) (gR (vq p) (vq q) t):=by
 rw [Kl];unfold Af jG;constructor
 ·intro h e m;obtain ⟨x,mx,rfl⟩:=KY.mp m;obtain ⟨m1,m2⟩:=dA mx;obtain ⟨k,k0,hk⟩:=F4 (hb.sp _ m1) (hb.sp _ m2) hp hq (oJ (hb.sp _ m1) (hb.sp _ m2) (hb.cx.ne _ (KY.mpr ⟨x,mx,rfl⟩)));have:=h _ (KY.mpr ⟨x,mx,rfl⟩);rw [hk] at this;exact bL k0 this
 ·intro h l m;obtain ⟨x,mx,rfl⟩:=KY.mp m;obtain ⟨m1,m2⟩:=dA mx;obtain ⟨k,k0,hk⟩:=F4 (hb.sp _ m1) (hb.sp _ m2) hp hq (oJ (hb.sp _ m1) (hb.sp _ m2) (hb.cx.ne _ (KY.mpr ⟨x,mx,rfl⟩)));rw [hk];exact Rat.mul_nonneg (h _ (KY.mpr ⟨x,mx,rfl⟩)) (Rat.le_of_lt k0)
theorem Nb {b:bW} (hb:GB b.o) {p q:Pt} (hp:lJ p) (hq:lJ q) (h:a7 (bD b) (eR p q)=none) {t1 t2:Rat} (k0:0<=t1) (k:t1<t2) (k1:t2<=1) (i1:Af (jG b.o) (gR (vq p) (vq q) t1)) (i2:Af (jG b.o) (gR (vq p) (vq q) t2)):False:=by
 unfold a7 at h;split at h
 ·rename_i c;exact Mt hb hp hq c k0 (by grind) i1
 ·have j1:=(Tf hb hp hq t1).mpr i1;have j2:=(Tf hb hp hq t2).mpr i2;cases g:lO (eR p q).p (eR p q).q (eR p q).l (bD b).ls (0,1) (1,1) 0 with
  | none=>exact oG _ _ _ _ g t1 t2 k0 k k1 j1 j2
  | some r=>
   rw [g] at h;have o:=mS _ _ _ _ r g (by decide) (by decide);unfold wQ at h;simp only at h;split at h
   ·cases h
   ·rename_i c;have c':=mt (gV o.d1 o.d2).mpr c;have a1:=(o.s t1 k0 (by grind)).mp ⟨by rw [iX];exact k0,by rw [iZ];grind,j1⟩;have a2:=(o.s t2 (by grind) k1).mp ⟨by rw [iX];grind,by rw [iZ];exact k1,j2⟩;grind
theorem mO {b:bW} (hb:GB b.o) {p q:Pt} (hp:lJ p) (hq:lJ q) (ne:0<aW (aS (vq q) (vq p)) (aS (vq q) (vq p))) {r:Fr×Fr×Nat} (h:a7 (bD b) (eR p q)=some r):FX (jG b.o) (vq p) (vq q) r:=by
 unfold a7 at h;split at h
 ·cases h
 cases g:lO (eR p q).p (eR p q).q (eR p q).l (bD b).ls (0,1) (1,1) 0 with
 | none=>rw [g] at h;cases h
 | some r'=>
  rw [g] at h;have o:=mS _ _ _ _ r' g (by decide) (by decide);unfold wQ at h;simp only at h;split at h
  ·rename_i c;cases h;have lt:=(gV o.d1 o.d2).mp c;have hpq:g3 (fA p q)≠0:=oJ hp hq ne
   -- a line and VI dh
   have dh:∀l∈(bD b).ls,∃x∈zr b.o,l=cO (fA x.1 x.2)/\(vq x.1,vq x.2)∈jG b.o/\lJ x.1/\lJ x.2/\g3 (fA x.1 x.2)≠0/\∃k:Rat,0<k/\(lA (aK p) (aK q) l:Rat)=k*fE (vq x.1,vq x.2) (vq p)/\(lB (aK p) (aK q) l:Rat)=k*fE (vq x.1,vq x.2) (vq q):=λl m=>by
    rw [Kl] at m;obtain ⟨x,mx,rfl⟩:=KY.mp m;obtain ⟨m1,m2⟩:=dA mx;have me:(vq x.1,vq x.2)∈jG b.o:=KY.mpr ⟨x,mx,rfl⟩;have gn:=oJ (hb.sp _ m1) (hb.sp _ m2) (hb.cx.ne _ me);exact ⟨x,mx,rfl,me,hb.sp _ m1,hb.sp _ m2,gn,Cj (hb.sp _ m1) (hb.sp _ m2) hp hq gn⟩
   have l0:0<=val r.1:=by
    rcases o.lo with e | ⟨e,_⟩
    ·rw [e,iX];grind
    ·rw [iX] at e;grind
   have h1:val r.2.1<=1:=by
    rcases o.hi with e | ⟨e,_⟩
    ·rw [e,iZ];grind
    ·rw [iZ] at e;grind
   have sgn:∀{k f:Rat} {i:Int},0<k->(i:Rat)=k*f->(i<0↔f<0)/\(0<i↔0<f)/\(i=0↔f=0):=λ{k f i} k0 e=>by
    have p1:=tE (a:=f) k0;have p2:=tE (a:=-f) k0;have i1:(0:Rat)<(i:Rat)↔0<i:=by norm_cast
    have i2:(i:Rat)<0↔i<0:=by norm_cast
    have c1:0<i↔0<f:=by rw [<-i1,e];grind
    have c2:i<0↔f<0:=by rw [<-i2,e];grind
    refine ⟨c2,c1,?_⟩;constructor
    ·intro z;have:=mt c1.mpr (by omega);have:=mt c2.mpr (by omega);grind
    ·intro z;have:=mt c1.mp (by grind);have:=mt c2.mp (by grind);omega
   have zro:∀{k:Rat} {x:Pt×Pt} {l:I3} {t:Rat},0<k->(lA (aK p) (aK q) l:Rat)=k*fE (vq x.1,vq x.2) (vq p)->(lB (aK p) (aK q) l:Rat)=k*fE (vq x.1,vq x.2) (vq q)->lF (aK p) (aK q) l t=0->fE (vq x.1,vq x.2) (gR (vq p) (vq q) t)=0:=λ{k x l t} k0 a1 a2 z=>by
    unfold lF Ad at z;rw [a1,a2] at z;rw [kE];have:k*(fE (vq x.1,vq x.2) (vq p)+(fE (vq x.1,vq x.2) (vq q)-fE (vq x.1,vq x.2) (vq p))*t)=0:=by grind
    exact (Rat.mul_eq_zero.mp this).resolve_left (by grind)
   refine ⟨o.d1,o.d2,lt,l0,h1,λt t0 t1=>?_,?_,?_,?_⟩
   ·rw [<-Tf hb hp hq t,<-o.s t t0 t1,iX,iZ];exact ⟨λz=>⟨t0,t1,z⟩,λz=>z.2.2⟩
   ·rcases o.lo with e | ⟨e,l,ml,z1,z2,z3⟩
    ·exact .inl e
    ·rw [iX] at e;obtain ⟨x,_,_,me,_,_,_,k,k0,a1,a2⟩:=dh l ml;exact .inr ⟨e,_,me,(sgn k0 a1).1.mp z1,(sgn k0 a2).2.1.mp z2,zro k0 a1 a2 z3⟩
   ·rcases o.hi with e | ⟨e,l,ml,z1,z2,z3⟩
    ·exact .inl e
    ·rw [iZ] at e;obtain ⟨x,_,_,me,_,_,_,k,k0,a1,a2⟩:=dh l ml;have s1:=(sgn k0 a1).2.1.mp z1;have s2:=(sgn k0 a2).1.mp z2;have s3:=zro k0 a1 a2 z3;refine .inr ⟨?_,_,me,s1,s2,s3⟩;rw [kE] at s3
     by_cases c:val r.2.1=1
     ·rw [c] at s3;grind
     ·grind
   ·rcases o.h with ⟨e,hz⟩ | ⟨l,ml,z1,z2,e⟩
    ·refine .inl ⟨e,λg mg zz=>?_⟩;obtain ⟨x,mx,rfl⟩:=KY.mp mg;have ml:cO (fA x.1 x.2)∈(bD b).ls:=by rw [Kl];exact KY.mpr ⟨x,mx,rfl⟩
     obtain ⟨m1,m2⟩:=dA mx;obtain ⟨k,k0,a1,a2⟩:=Cj (hb.sp _ m1) (hb.sp _ m2) hp hq (oJ (hb.sp _ m1) (hb.sp _ m2) (hb.cx.ne _ mg));exact hz _ ml ⟨(sgn k0 a1).2.2.mpr zz.1,(sgn k0 a2).2.2.mpr zz.2⟩
    ·obtain ⟨x,mx,el,me,sc,sd,gn,k,k0,a1,a2⟩:=dh l ml;have f1:=(sgn k0 a1).2.2.mp z1;have f2:=(sgn k0 a2).2.2.mp z2;have le:=yN sc sd hp hq gn hpq (hb.cx.ne _ me) f1 f2;rw [el] at e;have e':r.2.2=if cO (fA x.1 x.2)=cO (fA p q) then 1 else 2:=e;refine .inr ⟨⟨_,me,f1,f2⟩,by rw [e'];split<;>simp,λg mg g1 g2=>?_⟩;have or1:=hb.cx.orient me mg f1 f2 g1 g2 ne;have or2:=hb.cx.orient mg me g1 g2 f1 f2 ne;rw [e']
     split
     ·rename_i c;exact ⟨λ_=>or1 (le.mp c),λ_=>rfl⟩
     ·rename_i c;exact ⟨λz=>absurd z (by decide),λz=>absurd (le.mpr (or2 z)) c⟩
  ·cases h
end
end My
namespace My
open PySem L2 PyProof.Rows
section
variable {P:SS} {w:SW} {K:W.Frag} {mg:Str->Option Value} {base:Heap}
def Qe (fs:List Fr):Prop:=∀f∈fs,cF f
structure NP (p:Pt):Prop where
 x:cF p.1
 y:cF p.2
theorem NP.spt {p:Pt} (h:NP p):lJ p:=My.spt h.x h.y
def yQ (f s:Fr):Bool:=decide ((bO f s).1<0)
theorem P0 {f s:Fr} (hf:cF f) (hs:cF s):yQ f s=true↔val f<val s:=by
 unfold yQ;rw [decide_eq_true_eq,<-xY (cJ hf hs),d5 hf hs];grind
def lL (found:List Fr) (s:Fr):List Fr:=if s∈found then found else found.take (found.filter (yQ · s)).length++s::found.drop (found.filter (yQ · s)).length
def yP (s:Fr):List Fr->List Fr
 | []=>[s]
 | x::xs=>if val x<val s then x::yP s xs else s::x::xs
def Pk (xs:List Fr):Prop:=xs.Pairwise λa b=>val a<val b
theorem yA {s:Fr} (hs:cF s):∀{xs:List Fr},Qe xs->Pk xs->xs.take (xs.filter (yQ · s)).length++s::xs.drop (xs.filter (yQ · s)).length=yP s xs
 | [],_,_=>rfl
 | x::xs,hn,hp=>by
  have hx:=hn x (by simp);have fe:Qe xs:=λf m=>hn f (by simp [m]);obtain ⟨p1,p2⟩:=ND.mp hp
  by_cases c:val x<val s
  ·have e:(x::xs).filter (yQ · s)=x::xs.filter (yQ · s):=NG ((P0 hx hs).mpr c);rw [e,LJ,List.take_succ_cons,List.drop_succ_cons,RP,yA hs fe p2,yP,if_pos c]
  ·have e:(x::xs).filter (yQ · s)=[]:=by
    rw [SF];intro y m z;rcases KR.mp m with rfl | m
    ·exact c ((P0 hx hs).mp z)
    ·have:=(P0 (fe y m) hs).mp z;have:=p1 y m;grind
   rw [e,yP,if_neg c];rfl
theorem pJ {s y:Fr}:∀{xs:List Fr},y∈yP s xs↔y=s\/y∈xs
 | []=>by simp [yP]
 | x::xs=>by
  unfold yP
  split
  ·rw [KR,pJ,KR];grind
  ·simp [KR]
theorem By {s:Fr}:∀{xs:List Fr},Pk xs->(∀x∈xs,val x≠val s)->Pk (yP s xs)
 | [],_,_=>List.pairwise_singleton _ _
 | x::xs,h,hn=>by
  obtain ⟨p1,p2⟩:=ND.mp h;unfold yP
  split
  ·rename_i c;refine ND.mpr ⟨λy m=>?_,By p2 λy m=>hn y (by simp [m])⟩;rcases pJ.mp m with rfl | m
   ·exact c
   ·exact p1 y m
  ·rename_i c;have:=hn x (by simp);refine ND.mpr ⟨λy m=>?_,h⟩;rcases KR.mp m with rfl | m
   ·grind
   ·have:=p1 y m;grind
theorem tW {s:Fr} {xs:List Fr} (hs:cF s) (hn:Qe xs) (h:Pk xs):Qe (lL xs s)/\Pk (lL xs s)/\(∀y,y∈lL xs s↔y=s\/y∈xs)/\(lL xs s).length<=xs.length+1:=by
 unfold lL
 split
 ·rename_i m;exact ⟨hn,h,λy=>⟨.inr,λk=>k.elim (λe=>by rw [e];exact m) id⟩,by omega⟩
 ·rename_i m;refine ⟨?_,?_,?_,?_⟩
  ·rw [yA hs hn h];intro y k;rcases pJ.mp k with rfl | k
   ·exact hs
   ·exact hn y k
  ·rw [yA hs hn h];exact By h λx mx e=>m (by rw [<-eN (hn x mx) hs e];exact mx)
  ·rw [yA hs hn h];exact λy=>pJ
  ·simp only [LC,LJ,MA,PK];omega
def oM (s:Fr):Bool:=decide (0<s.1)&&decide ((bO s (1,1)).1<0)
def Bp (VP:List Fr):List Fr:=((0,1)::(1,1)::VP.filter oM).foldl lL []
theorem Cp:∀(ss xs:List Fr),Qe ss->Qe xs->Pk xs->Qe (ss.foldl lL xs)/\Pk (ss.foldl lL xs)/\(∀y,y∈ss.foldl lL xs↔y∈ss\/y∈xs)/\(ss.foldl lL xs).length<=xs.length+ss.length
 | [],xs,_,hn,h=>⟨hn,h,λy=>by simp,by simp⟩
 | s::ss,xs,hs,hn,h=>by
  obtain ⟨a,b,c,d⟩:=tW (hs s (by simp)) hn h;obtain ⟨a',b',c',d'⟩:=Cp ss (lL xs s) (λf m=>hs f (by simp [m])) a b;refine ⟨a',b',λy=>?_,by rw [NH,LJ];omega⟩;rw [NH,c',c,KR];grind
theorem F9 {s:Fr} (h:cF s):oM s=true↔0<val s/\val s<1:=by
 unfold oM;rw [LX,decide_eq_true_eq,decide_eq_true_eq,<-uP h,<-xY (cJ h (c9 1)),d5 h (c9 1),iZ];grind
structure Qy (VP C:List Fr):Prop where
 n:Qe C
 s:Pk C
 z:(0,1)∈C
 o:(1,1)∈C
 b:∀c∈C,0<=val c/\val c<=1
 m:∀c∈VP,0<val c->val c<1->c∈C
 k:∀c∈C,c=(0,1)\/c=(1,1)\/c∈VP
 l:C.length<=VP.length+2
theorem xP {VP:List Fr} (h:Qe VP):Qy VP (Bp VP):=by
 have hn:Qe ((0,1)::(1,1)::VP.filter oM):=λf m=>by
  rcases KR.mp m with rfl | m
  ·exact c9 0
  ·rcases KR.mp m with rfl | m
   ·exact c9 1
   ·exact h f (MH.mp m).1
 obtain ⟨a,b,c,d⟩:=Cp _ [] hn (λf m=>absurd m (by simp)) List.Pairwise.nil;have mem:∀y,y∈Bp VP↔y=(0,1)\/y=(1,1)\/(y∈VP/\oM y=true):=λy=>by
  unfold Bp;rw [c];simp [MH]
 refine ⟨a,b,(mem _).mpr (.inl rfl),(mem _).mpr (.inr (.inl rfl)),λy m=>?_,λy m k1 k2=>?_,λy m=>?_,?_⟩
 ·rcases (mem y).mp m with rfl | rfl | ⟨m,k⟩
  ·rw [iX];exact ⟨by grind,by grind⟩
  ·rw [iZ];exact ⟨by grind,by grind⟩
  ·have:=(F9 (h y m)).mp k;exact ⟨by grind,by grind⟩
 ·exact (mem y).mpr (.inr (.inr ⟨m,(F9 (h y m)).mpr ⟨k1,k2⟩⟩))
 ·rcases (mem y).mp m with e | e | ⟨m,k⟩
  ·exact .inl e
  ·exact .inr (.inl e)
  ·exact .inr (.inr m)
 ·have:=OK oM VP;unfold Bp;simp only [LJ,NF] at d;omega
theorem sQ:∀{C:List Fr} {c d:Fr},Pk C->(c,d)∈C.zip C.tail->val c<val d/\c∈C/\d∈C/\∀x∈C,val x<=val c\/val d<=val x
 | [],c,d,_,m=>by simp at m
 | [x],c,d,_,m=>by simp at m
 | x::y::r,c,d,h,m=>by
  obtain ⟨p1,p2⟩:=ND.mp h;obtain ⟨q1,q2⟩:=ND.mp p2;rcases KR.mp (show (c,d)∈(x,y)::(y::r).zip (y::r).tail from m) with e | m
  ·cases e;refine ⟨p1 y (by simp),by simp,by simp,λz hz=>?_⟩;rcases KR.mp hz with rfl | hz
   ·exact .inl (by grind)
   ·rcases KR.mp hz with rfl | hz
    ·exact .inr (by grind)
    ·have:=q1 z hz;exact .inr (by grind)
  ·obtain ⟨a,b1,b2,k⟩:=sQ p2 m;refine ⟨a,by simp [b1],by simp [b2],λz hz=>?_⟩;rcases KR.mp hz with rfl | hz
   ·have:=p1 c b1;exact .inl (by grind)
   ·exact k z hz
end
end My
namespace My
open PySem L2 PyProof.Rows
section
variable {P:SS} {w:SW} {K:W.Frag} {mg:Str->Option Value} {base:Heap}
def cP (p q:Pt):Pt:=(bO p.1 q.1,bO p.2 q.2)
def jI (u v:Pt):Fr:=fZ u.1 u.2 v.1 v.2
def lM (u v:Pt):Fr:=vK u.1 u.2 v.1 v.2
def Ai (x y:Fr):Fr:=jV x (low y.2 y.1)
theorem cE {p q:Pt} (h:NP p) (k:NP q):NP (cP p q):=⟨cJ h.x k.x,cJ h.y k.y⟩
theorem cL {p q:Pt} (h:NP p) (k:NP q):vq (cP p q)=aS (vq p) (vq q):=by
 unfold vq cP aS;rw [d5 h.x k.x,d5 h.y k.y]
theorem hJ {u v:Pt} (h:NP u) (k:NP v):cF (jI u v):=cJ (bG h.x k.y) (bG h.y k.x)
theorem k9 {u v:Pt} (h:NP u) (k:NP v):cF (lM u v):=gL (bG h.x k.x) (bG h.y k.y)
theorem vU {u v:Pt} (h:NP u) (k:NP v):val (jI u v)=bQ (vq u) (vq v):=by
 unfold jI fZ bQ vq;rw [d5 (bG h.x k.y) (bG h.y k.x),iJ h.x k.y,iJ h.y k.x]
theorem u0 {u v:Pt} (h:NP u) (k:NP v):val (lM u v)=aW (vq u) (vq v):=by
 unfold lM vK aW vq;rw [mU (bG h.x k.x) (bG h.y k.y),iJ h.x k.x,iJ h.y k.y]
theorem pC {p:Fr} (h:cF p):p.1=0↔val p=0:=by
 have a:=xY h;have b:=uP h;constructor
 ·intro z;have:=mt a.mp (by omega);have:=mt b.mp (by omega);grind
 ·intro z;have:=mt a.mpr (by grind);have:=mt b.mpr (by grind);omega
theorem Dn {x y:Fr} (h:cF x) (z:y.1≠0):cF (Ai x y):=bG h (fF z)
theorem X8 {x y:Fr} (h:cF x) (k:cF y) (z:y.1≠0):val (Ai x y)*val y=val x:=by
 unfold Ai;rw [iJ h (fF z),jK z];have d:=k.neR;have n:(y.1:Rat)≠0:=by exact_mod_cast z
 unfold val;grind
def jH (a b c d:Pt):List Fr:=
 if (jI (cP b a) (cP d c)).1≠0 then
  if 0<=(Ai (jI (cP c a) (cP b a)) (jI (cP b a) (cP d c))).1/\(bO (Ai (jI (cP c a) (cP b a)) (jI (cP b a) (cP d c))) (1,1)).1<=0 then [Ai (jI (cP c a) (cP d c)) (jI (cP b a) (cP d c))] else []
 else if (jI (cP b a) (cP c a)).1≠0 then []
 else [Ai (lM (cP b a) (cP c a)) (lM (cP b a) (cP b a)),Ai (lM (cP b a) (cP d a)) (lM (cP b a) (cP b a))]
theorem Xb {a b c d:Pt} (ha:NP a) (hb:NP b) (hc:NP c) (hd:NP d) (ne:0<aW (aS (vq b) (vq a)) (aS (vq b) (vq a))):Qe (jH a b c d):=by
 have n1:=cE hb ha;have n2:=cE hd hc;have n3:=cE hc ha;have n4:=cE hd ha;intro f m;unfold jH at m;split at m
 ·rename_i z;split at m
  ·rw [LM] at m;rw [m];exact Dn (hJ n3 n2) z
  ·simp at m
 ·split at m
  ·simp at m
  ·have z:(lM (cP b a) (cP b a)).1≠0:=λz=>by
    have:=(pC (k9 n1 n1)).mp z;rw [u0 n1 n1,cL hb ha] at this;grind
   rcases KR.mp m with rfl | m
   ·exact Dn (k9 n1 n3) z
   ·rw [LM] at m;rw [m];exact Dn (k9 n1 n4) z
theorem zM (a b c d:Pt):(jH a b c d).length<=2:=by
 unfold jH
 split
 ·split<;>simp
 ·split<;>simp
theorem Y1 {a b c d:Pt} (ha:NP a) (hb:NP b) (hc:NP c) (hd:NP d) {t:Rat} (o:AH (vq c,vq d) (gR (vq a) (vq b) t)) (ne:0<aW (aV (vq c,vq d)) (aV (vq c,vq d))) (nz:fE (vq c,vq d) (vq a)≠fE (vq c,vq d) (vq b)):∃s∈jH a b c d,val s=t:=by
 have n1:=cE hb ha;have n2:=cE hd hc;have n3:=cE hc ha;have B:=vU n1 n2;rw [cL hb ha,cL hd hc] at B;have S:=vU n3 n2;rw [cL hc ha,cL hd hc] at S;have R:=vU n3 n1;rw [cL hc ha,cL hb ha] at R;have bz:(jI (cP b a) (cP d c)).1≠0:=λz=>by
  have:=(pC (hJ n1 n2)).mp z;rw [B] at this;apply nz;have e:bQ (aS (vq b) (vq a)) (aS (vq d) (vq c))=fE (vq c,vq d) (vq a)-fE (vq c,vq d) (vq b):=by unfold fE bQ aV aS;grind
  rw [e] at this;grind
 have bz':bQ (aS (vq b) (vq a)) (aS (vq d) (vq c))≠0:=λz=>bz ((pC (hJ n1 n2)).mpr (by rw [B];exact z));have vS:=X8 (hJ n3 n2) (hJ n1 n2) bz;have vR:=X8 (hJ n3 n1) (hJ n1 n2) bz;rw [B,S] at vS;rw [B,R] at vR;have nR:=Dn (hJ n3 n1) bz;unfold jH;rw [if_pos bz];generalize Ai (jI (cP c a) (cP d c)) (jI (cP b a) (cP d c))=s at *;generalize Ai (jI (cP c a) (cP b a)) (jI (cP b a) (cP d c))=r at *;have oz:=o.z;have oa:=o.a;have ob:=o.b
 -- the share
 have es:val s=t:=by
  have e1:bQ (aS (vq c) (vq a)) (aS (vq d) (vq c))=t*bQ (aS (vq b) (vq a)) (aS (vq d) (vq c)):=by
   have:fE (vq c,vq d) (gR (vq a) (vq b) t)=bQ (aS (vq c) (vq a)) (aS (vq d) (vq c))-t*bQ (aS (vq b) (vq a)) (aS (vq d) (vq c)):=by unfold fE bQ aV aS gR;grind
   rw [oz] at this;grind
  rw [e1] at vS;have:(val s-t)*bQ (aS (vq b) (vq a)) (aS (vq d) (vq c))=0:=by grind
  have:=(Rat.mul_eq_zero.mp this).resolve_right bz';grind
 -- how far lC the dh
 have er:val r*aW (aV (vq c,vq d)) (aV (vq c,vq d))=aW (aV (vq c,vq d)) (aS (gR (vq a) (vq b) t) (vq c)):=by
  obtain ⟨q1,q2⟩:=par ne (show bQ (aV (vq c,vq d)) (aS (gR (vq a) (vq b) t) (vq c))=0 from oz);generalize hW:aW (aV (vq c,vq d)) (aV (vq c,vq d))=W at *;generalize hD:aW (aV (vq c,vq d)) (aS (gR (vq a) (vq b) t) (vq c))=D at *;have x1:((vq a).1+((vq b).1-(vq a).1)*t-(vq c).1)*W=D*((vq d).1-(vq c).1):=q1;have x2:((vq a).2+((vq b).2-(vq a).2)*t-(vq c).2)*W=D*((vq d).2-(vq c).2):=q2;have e2:bQ (aS (vq c) (vq a)) (aS (vq b) (vq a))*W=D*bQ (aS (vq b) (vq a)) (aS (vq d) (vq c)):=by
   unfold bQ aS;simp only;grind
  have:(val r*W-D)*bQ (aS (vq b) (vq a)) (aS (vq d) (vq c))=0:=by grind
  have:=(Rat.mul_eq_zero.mp this).resolve_right bz';grind
 have r0:0<=val r:=by
  refine bL ne ?_;rw [er];exact oa
 have r1:val r<=1:=by
  have:0<=(1-val r)*aW (aV (vq c,vq d)) (aV (vq c,vq d)):=by
   have:(1-val r)*aW (aV (vq c,vq d)) (aV (vq c,vq d))=aW (aV (vq c,vq d)) (aS (vq d) (gR (vq a) (vq b) t)):=by
    have:aW (aV (vq c,vq d)) (aS (vq d) (gR (vq a) (vq b) t))=aW (aV (vq c,vq d)) (aV (vq c,vq d))-aW (aV (vq c,vq d)) (aS (gR (vq a) (vq b) t) (vq c)):=by unfold aW aV aS;grind
    rw [this,<-er];grind
   rw [this];exact ob
  have:=bL ne this;grind
 rw [if_pos ⟨(jE nR).mp r0,(Uu (cJ nR (c9 1))).mp (by rw [d5 nR (c9 1),iZ];grind)⟩];exact ⟨s,by simp,es⟩
def X5:Pt:=((0,1),(0,1))
def ej (o:List Pt):List (Pt×Pt):=(MV o.length).map λj=>(o.getD ((j+o.length-1)%o.length) X5,o.getD j X5)
theorem N6 {o:List Pt} {x:Pt×Pt} (h:x∈zr o):∃k,k<o.length/\o[k]? = some x.1/\o[(k+1)%o.length]? = some x.2:=by
 obtain ⟨k,hk⟩:=NB h;unfold zr at hk;rw [RL] at hk;obtain ⟨h1,h2⟩:=hk;have hl:k<o.length:=(KU.mp h1).1;refine ⟨k,hl,h1,?_⟩;unfold o8 at h2
 by_cases c:k+1<o.length
 ·rw [OB c];rw [LW (by rw [NV];omega),List.getElem?_tail] at h2;exact h2
 ·have e:k+1=o.length:=by omega
  rw [e,RS];rw [MS (by rw [NV];omega),NV,show k-(o.length-1)=0 by omega] at h2;cases o with
  | nil=>simp at hl
  | cons p o=>simpa using h2
theorem D7 {o:List Pt} {x:Pt×Pt} (h:x∈zr o):x∈ej o:=by
 obtain ⟨k,hl,h1,h2⟩:=N6 h;refine KY.mpr ⟨(k+1)%o.length,MU.mpr (PM _ (by omega)),?_⟩;have e:((k+1)%o.length+o.length-1)%o.length=k:=by
  by_cases c:k+1<o.length
  ·rw [OB c,show k+1+o.length-1=k+o.length by omega,Nat.add_mod_right,OB hl]
  ·have e:k+1=o.length:=by omega
   rw [e,RS,show 0+o.length-1=k by omega,OB hl]
 rw [e];refine Prod.ext ?_ ?_
 ·show o.getD k X5=x.1;rw [LH,h1];rfl
 ·show o.getD ((k+1)%o.length) X5=x.2;rw [LH,h2];rfl
theorem Y7 {o:List Pt} {x:Pt×Pt} (h:x∈ej o):x.1∈o/\x.2∈o:=by
 obtain ⟨j,hj,rfl⟩:=KY.mp h;have hj:=MU.mp hj;have k:∀i,i<o.length->o.getD i X5∈o:=λi hi=>by
  rw [LH,KS hi];exact NN hi
 exact ⟨k _ (PM _ (by omega)),k _ hj⟩
def Ac (a b:Pt) (o:List Pt):List Fr:=(ej o).flatMap λx=>jH a b x.1 x.2
def Hv (x:Pt) (e:Pt×Pt):Int:=(jI (cP e.2 e.1) (cP x e.1)).1
def iG (o:List Pt) (x:Pt):List Int:=(zr o).map (Hv x)
theorem M7 {x:Pt} {e:Pt×Pt} (hx:NP x) (h1:NP e.1) (h2:NP e.2):(Hv x e<0↔fE (vq e.1,vq e.2) (vq x)<0)/\(0<Hv x e↔0<fE (vq e.1,vq e.2) (vq x))/\(Hv x e=0↔fE (vq e.1,vq e.2) (vq x)=0):=by
 have n1:=cE h2 h1;have n2:=cE hx h1;have v:val (jI (cP e.2 e.1) (cP x e.1))=fE (vq e.1,vq e.2) (vq x):=by rw [vU n1 n2,cL h2 h1,cL hx h1];rfl
 unfold Hv;rw [<-v,xY (hJ n1 n2),uP (hJ n1 n2),pC (hJ n1 n2)];exact ⟨Iff.rfl,Iff.rfl,Iff.rfl⟩
def D0 (x:Pt) (e:Pt×Pt):Bool:=decide (Hv x e=0)&&(decide (0<=(lM (cP e.2 e.1) (cP x e.1)).1)&&decide (0<=(lM (cP e.2 e.1) (cP e.2 x)).1))
theorem Zk {x:Pt} {e:Pt×Pt} (hx:NP x) (h1:NP e.1) (h2:NP e.2):D0 x e=true↔AH (vq e.1,vq e.2) (vq x):=by
 have n1:=cE h2 h1;have n2:=cE hx h1;have n3:=cE h2 hx;unfold D0;rw [LX,LX,decide_eq_true_eq,decide_eq_true_eq,decide_eq_true_eq,(M7 hx h1 h2).2.2,<-jE (k9 n1 n2),<-jE (k9 n1 n3),u0 n1 n2,u0 n1 n3,cL h2 h1,cL hx h1,cL h2 hx];exact ⟨λ⟨a,b,c⟩=>⟨a,b,c⟩,λ⟨a,b,c⟩=>⟨a,b,c⟩⟩
def sR (a b x:Pt):List (Pt×Pt)->Nat->Nat×Nat
 | [],_=>(0,0)
 | e::r,i=>if D0 x e=true then (if 0<(lM (cP e.2 e.1) (cP b a)).1 then 2 else 3,i) else sR a b x r (i+1)
def cM (o:List Pt) (a b x:Pt):Nat×Nat:=if iM (iG o x)≠0 then (if iM (iG o x)<0 then 0 else 1,0) else sR a b x (zr o) 0
theorem Br {ns:List Int} (h:ns≠[]):iM ns∈ns:=by
 cases ns with
 | nil=>exact absurd rfl h
 | cons n ns=>
  obtain ⟨h1,_,_⟩:=L2.oX ns n;show ns.foldl _ n∈_;rcases h1 with h1 | h1
  ·rw [h1];simp
  ·exact LQ _ h1
theorem qS {a b x:Pt}:∀(es:List (Pt×Pt)) (i:Nat),(∃e∈es,D0 x e=true)->∃(k:Nat) (e:Pt×Pt),es[k]? = some e/\e∈es/\D0 x e=true/\(∀j<k,∀e',es[j]? = some e'->D0 x e'=false)/\sR a b x es i=(if 0<(lM (cP e.2 e.1) (cP b a)).1 then 2 else 3,i+k)
 | [],i,⟨e,m,_⟩=>by simp at m
 | e::es,i,⟨e',m,h⟩=>by
  unfold sR
  by_cases c:D0 x e=true
  ·rw [if_pos c];exact ⟨0,e,rfl,by simp,c,λj hj=>by omega,by simp⟩
  ·rw [if_neg c];rcases KR.mp m with rfl | m
   ·exact absurd h c
   ·obtain ⟨k,g,h1,h2,h3,h4,h5⟩:=qS es (i+1) ⟨e',m,h⟩;refine ⟨k+1,g,by simpa using h1,by simp [h2],h3,λj hj g' YY=>?_,by rw [h5];congr 1;omega⟩;cases j with
    | zero=>simp at YY;rw [<-YY];simpa using c
    | succ j=>exact h4 j (by omega) g' (by simpa using YY)
structure P6 (o:List Pt) (a b x:Pt) (c:Nat):Prop where
 one:c=1↔∀e∈jG o,0<fE e (vq x)
 two:c=2->Af (jG o) (vq x)/\∃e∈jG o,AH e (vq x)/\0<aW (aV e) (aS (vq b) (vq a))
 three:c=3->Af (jG o) (vq x)/\∃e∈jG o,AH e (vq x)/\¬0<aW (aV e) (aS (vq b) (vq a))
 some:Af (jG o) (vq x)->(∃e∈jG o,fE e (vq x)=0)->c=2\/c=3
theorem Cs {o:List Pt} {a b x:Pt} (hb:GB o) (no:∀p∈o,NP p) (ha:NP a) (hb':NP b) (hx:NP x):P6 o a b x (cM o a b x).1:=by
 have sv:∀e∈zr o,_:=λe m=>M7 hx (no _ (dA m).1) (no _ (dA m).2);have mi:iM (iG o x)∈iG o x:=Br (by unfold iG;simpa using Uy hb.ne);have le:∀e∈zr o,iM (iG o x)<=Hv x e:=λe m=>mT (KY.mpr ⟨e,m,rfl⟩);obtain ⟨e0,m0,q0⟩:=KY.mp mi;unfold cM
 by_cases c:iM (iG o x)≠0
 ·rw [if_pos c]
  by_cases d:iM (iG o x)<0
  ·rw [if_pos d];have bad:fE (vq e0.1,vq e0.2) (vq x)<0:=(sv e0 m0).1.mp (by omega);have me:(vq e0.1,vq e0.2)∈jG o:=KY.mpr ⟨e0,m0,rfl⟩;refine ⟨⟨λz=>absurd z (by decide),λz=>?_⟩,λz=>absurd z (by decide),λz=>absurd z (by decide),λz=>?_⟩
   ·have:=z _ me;grind
   ·have:=z _ me;grind
  ·rw [if_neg d];have all:∀e∈jG o,0<fE e (vq x):=λe m=>by
    obtain ⟨y,my,rfl⟩:=KY.mp m;exact (sv y my).2.1.mp (by have:=le y my;omega)
   refine ⟨⟨λ_=>all,λ_=>rfl⟩,λz=>absurd z (by decide),λz=>absurd z (by decide),λ_ ⟨e,m,z⟩=>?_⟩;have:=all e m;grind
 ·rw [if_neg c];have all:Af (jG o) (vq x):=λe m=>by
   obtain ⟨y,my,rfl⟩:=KY.mp m;have h1:=le y my;have:=mt (sv y my).1.mpr (by omega);grind
  have me:(vq e0.1,vq e0.2)∈jG o:=KY.mpr ⟨e0,m0,rfl⟩;have z0:fE (vq e0.1,vq e0.2) (vq x)=0:=(sv e0 m0).2.2.mp (by omega);obtain ⟨g,mg,og,_⟩:=hb.cx.on me z0 all;obtain ⟨y,my,rfl⟩:=KY.mp mg;have oy:=(Zk hx (no _ (dA my).1) (no _ (dA my).2)).mpr og;obtain ⟨k,e,_,h2,h3,_,h5⟩:=qS (a:=a) (b:=b) (zr o) 0 ⟨y,my,oy⟩;rw [h5];have n1:=no _ (dA h2).1;have n2:=no _ (dA h2).2;have oe:=(Zk hx n1 n2).mp h3;have me2:(vq e.1,vq e.2)∈jG o:=KY.mpr ⟨e,h2,rfl⟩;have dv:0<(lM (cP e.2 e.1) (cP b a)).1↔0<aW (aV (vq e.1,vq e.2)) (aS (vq b) (vq a)):=by
   rw [<-uP (k9 (cE n2 n1) (cE hb' ha)),u0 (cE n2 n1) (cE hb' ha),cL n2 n1,cL hb' ha];rfl
  have one:¬∀e∈jG o,0<fE e (vq x):=λz=>by have:=z _ me;grind
  by_cases d:0<(lM (cP e.2 e.1) (cP b a)).1
  ·rw [if_pos d];show P6 o a b x 2;exact ⟨⟨λz=>absurd z (by decide),λz=>absurd z one⟩,λ_=>⟨all,_,me2,oe,dv.mp d⟩,λz=>absurd z (by decide),λ_ _=>.inl rfl⟩
  ·rw [if_neg d];show P6 o a b x 3;exact ⟨⟨λz=>absurd z (by decide),λz=>absurd z one⟩,λz=>absurd z (by decide),λ_=>⟨all,_,me2,oe,λz=>d (dv.mpr z)⟩,λ_ _=>.inr rfl⟩
end
end My
namespace My
open PySem L2 PyProof.Rows
section
variable {P:SS} {w:SW} {K:W.Frag} {mg:Str->Option Value} {base:Heap}
abbrev j8 (P w K mg base):=Fn P w K mg base 1 "_law_frac" ["_law_n","_law_d"] (aU K Wn)
abbrev yW:TB:=top 42
theorem oQ:aL ["_law_n","_law_d","_law_one","_law_other"] ["_law_n","_law_d"] (aG yW):=hU
theorem Ue {f:SO} {fd:SR} (F:eM K "_law_frac" "_law_frac" yW f fd) (TX:Txt mg)    : bF P w K mg base e9 1 f fd ["_law_n","_law_d"] (aU K Wn):=by
 refine F.okT oQ ?len (λVS A outer s H E hr=>(aE (gY (i:=2) (j:=3) rfl oQ.nd rfl rfl (by decide) rfl rfl (fc (qG rfl TX.n_abs (fc (fv 0) aA)) (fc (qG rfl TX.n_abs (fc (fv 1) aA)) aA)) rfl)
 (aE (Df PassesOwn.never (cX wO (fv 3) aB (aR _)) (aH (gY (i:=2) (j:=3) rfl oQ.nd rfl rfl (by decide) rfl rfl (fc (fv 3) (fc (aN kW (fv 2) (fv 3)) aA)) rfl)))
 (aE (aX (i:=2) oQ.nd rfl (LA rfl) (aN aT (fv 2) (nE (cX wO (fv 1) aB (aR _)) aB (qA aB))))
 (aH (aQ (aO (fc (aN dH (fv 0) (fv 2)) (fc (aN dH (fv 1) (fv 2)) aA))))))))) ?rd
 case len=>rintro as Q ⟨n,d,rfl,_⟩;rfl
 case rd=>
  rintro as Q ⟨n,d,rfl,hd,hb,q⟩;refine ⟨λm E=>∃(x y:Nat),E=[some (.p (.int n)),some (.p (.int d)),some (.p (.int x)),some (.p (.int y))]/\m=y/\MN x y=MN n.natAbs d.natAbs,⟨_,_,_,rfl,rfl,rfl⟩,?_⟩;rintro m E ⟨x,y,rfl,rfl,hg⟩;show if decide ((0:Int)<(m:Int))=true then _ else _
  by_cases hy:(0:Int)<(m:Int)
  ·rw [decide_eq_true hy,if_pos rfl];exact ⟨hy,x%m,PM _ (by omega),m,x%m,rfl,rfl,by rw [Dx];exact hg⟩
  ·rw [decide_eq_false hy,if_neg (by decide)];obtain rfl:m=0:=by omega
   rw [Nat.gcd_zero_right] at hg;subst hg;have dn:((MN n.natAbs d.natAbs:Nat):Int)∣n:=MP.mpr (NT _ _);have dd:((MN n.natAbs d.natAbs:Nat):Int)∣d:=MP.mpr (NX _ _);have g0:((MN n.natAbs d.natAbs:Nat):Int)≠0:=(pL (i:=0) (n:=n) hd hb).1;have yK:∀{g m:Int},g≠0->g∣m->m.fdiv (-g)=(-m)/g:=λ{g m} h0 hm=>by
    obtain ⟨k,rfl⟩:=hm;have e1:g*k=(-g)*(-k):=by grind
    have e2:-(g*k)=g*(-k):=by grind
    rw [e2,NL _ h0,e1,RO _ (by omega)]
   show if decide (0<d)=true then _ else _
   by_cases h:0<d
   ·rw [decide_eq_true h,if_pos rfl];have e1:((MN n.natAbs d.natAbs:Nat):Int)*1=((MN n.natAbs d.natAbs:Nat):Int):=Int.mul_one _;refine ⟨yM (by decide),?_⟩;rw [e1];refine ⟨pL hd hb,pL hd hb,rfl,?_⟩;unfold low rL mZ at q;rw [if_pos h,if_pos h,<-pK,<-pK] at q;exact q
   ·rw [decide_eq_false h,if_neg (by decide)];have e1:((MN n.natAbs d.natAbs:Nat):Int) * -1 = -((MN n.natAbs d.natAbs:Nat):Int):=by omega
    refine ⟨yM (by decide),?_⟩;rw [e1];have cz:∀i:Int,qY i (-((MN n.natAbs d.natAbs:Nat):Int)):=λi=>⟨by omega,by rw [OQ];exact (pL (i:=i) (n:=n) hd hb).2⟩;refine ⟨cz _,cz _,rfl,?_⟩;unfold low rL mZ at q;rw [if_neg h,if_neg h,<-yK g0 dn,<-yK g0 dd] at q;exact q
abbrev sD (P w K mg base):=Fn P w K mg base 2 "_law_sum" ["_law_one","_law_other"] (aU K (rR lK))
abbrev Fy:TB:=top 43
theorem Zi:aL ["_law_one","_law_other"] ["_law_one","_law_other"] (aG Fy):=hU
theorem Yx {f:SO} {fd:SR} (F:eM K "_law_sum" "_law_sum" Fy f fd) (TX:Txt mg) (VZ:j8 P w K mg base)   : bF P w K mg base e9 2 f fd ["_law_one","_law_other"] (aU K (rR lK)):=by
 refine F.okT Zi ?len (λVS A outer s H E hr=>(aH (aQ (aC VZ hr (by omega) rfl (fc (aZ bZ (aN aT (aF rfl (fv 0) aB (λ_ _=>rfl)) (aF rfl (fv 1) aB (λ_ _=>rfl))) (aN aT (aF rfl (fv 1) aB (λ_ _=>rfl)) (aF rfl (fv 0) aB (λ_ _=>rfl)))) (fc (aN aT (aF rfl (fv 0) aB (λ_ _=>rfl)) (aF rfl (fv 1) aB (λ_ _=>rfl))) aA)))))) ?rd
 case len=>rintro as Q ⟨x,y,rfl,_⟩;rfl
 case rd=>
  rintro as Q ⟨x,y,rfl,hx,hy,hs,q⟩;have hd:(x.2*y.2).natAbs<2^8000:=nG (bJ (bX x) (bX y)) (by omega);exact ⟨eV (e:=7900) (pl (e8 x) (by omega)) (pl (bX y) (by omega)) (by decide),eV (e:=7900) (pl (e8 y) (by omega)) (pl (bX x) (by omega)) (by decide),eV (e:=7900) (pl (bX x) (by omega)) (pl (bX y) (by omega)) (by decide),_,_,rfl,fP hx hy,hd,rfl,q⟩
abbrev lY (P w K mg base):=Fn P w K mg base 2 "_law_less" ["_law_one","_law_other"] (aU K (rR bO))
abbrev zT:TB:=top 45
theorem Sq:aL ["_law_one","_law_other"] ["_law_one","_law_other"] (aG zT):=hU
theorem Vi {f:SO} {fd:SR} (F:eM K "_law_less" "_law_less" zT f fd) (TX:Txt mg) (VZ:j8 P w K mg base)   : bF P w K mg base e9 2 f fd ["_law_one","_law_other"] (aU K (rR bO)):=by
 refine F.okT Sq ?len (λVS A outer s H E hr=>(aH (aQ (aC VZ hr (by omega) rfl (fc (aZ gK (aN aT (aF rfl (fv 0) aB (λ_ _=>rfl)) (aF rfl (fv 1) aB (λ_ _=>rfl))) (aN aT (aF rfl (fv 1) aB (λ_ _=>rfl)) (aF rfl (fv 0) aB (λ_ _=>rfl)))) (fc (aN aT (aF rfl (fv 0) aB (λ_ _=>rfl)) (aF rfl (fv 1) aB (λ_ _=>rfl))) aA)))))) ?rd
 case len=>rintro as Q ⟨x,y,rfl,_⟩;rfl
 case rd=>
  rintro as Q ⟨x,y,rfl,hx,hy,hs,q⟩;have hd:(x.2*y.2).natAbs<2^8000:=nG (bJ (bX x) (bX y)) (by omega);exact ⟨eV (e:=7900) (pl (e8 x) (by omega)) (pl (bX y) (by omega)) (by decide),eV (e:=7900) (pl (e8 y) (by omega)) (pl (bX x) (by omega)) (by decide),eV (e:=7900) (pl (bX x) (by omega)) (pl (bX y) (by omega)) (by decide),_,_,rfl,fP hx hy,hd,rfl,q⟩
abbrev fV (P w K mg base):=Fn P w K mg base 2 "_law_product" ["_law_one","_law_other"] (aU K (rR jV))
abbrev nQ:TB:=top 44
theorem Cd:aL ["_law_one","_law_other"] ["_law_one","_law_other"] (aG nQ):=hU
theorem Bt {f:SO} {fd:SR} (F:eM K "_law_product" "_law_product" nQ f fd) (TX:Txt mg) (VZ:j8 P w K mg base)   : bF P w K mg base e9 2 f fd ["_law_one","_law_other"] (aU K (rR jV)):=by
 refine F.okT Cd ?len (λVS A outer s H E hr=>(aH (aQ (aC VZ hr (by omega) rfl (fc (aN aT (aF rfl (fv 0) aB (λ_ _=>rfl)) (aF rfl (fv 1) aB (λ_ _=>rfl))) (fc (aN aT (aF rfl (fv 0) aB (λ_ _=>rfl)) (aF rfl (fv 1) aB (λ_ _=>rfl))) aA)))))) ?rd
 case len=>rintro as Q ⟨x,y,rfl,_⟩;rfl
 case rd=>
  rintro as Q ⟨x,y,rfl,hx,hy,hs,q⟩;have hd:(x.2*y.2).natAbs<2^8000:=nG (bJ (bX x) (bX y)) (by omega);exact ⟨eV (e:=7900) (pl (e8 x) (by omega)) (pl (e8 y) (by omega)) (by decide),eV (e:=7900) (pl (bX x) (by omega)) (pl (bX y) (by omega)) (by decide),_,_,rfl,fP hx hy,hd,rfl,q⟩
abbrev rY (P w K mg base):=Fn P w K mg base 3 "_law_add" ["_law_one","_law_other"] (aU K Ka)
abbrev Hn:TB:=top 46
theorem Zw:aL ["_law_one","_law_other"] ["_law_one","_law_other"] (aG Hn):=hU
theorem Wz {f:SO} {fd:SR} (F:eM K "_law_add" "_law_add" Hn f fd) (TX:Txt mg) (WX:sD P w K mg base)   : bF P w K mg base e9 3 f fd ["_law_one","_law_other"] (aU K Ka):=by
 refine F.okT Zw ?len (λVS A outer s H E hr=>(aH (aQ (aO (fc (aC WX hr (by omega) rfl (fc (aF rfl (fv 0) aB (λ_ _=>rfl)) (fc (aF rfl (fv 1) aB (λ_ _=>rfl)) aA))) (fc (aC WX hr (by omega) rfl (fc (aF rfl (fv 0) aB (λ_ _=>rfl)) (fc (aF rfl (fv 1) aB (λ_ _=>rfl)) aA))) aA)))))) ?rd
 case len=>rintro as Q ⟨x,y,p,q,e,f,rfl,_⟩;rfl
 case rd=>
  rintro as Q ⟨x,y,p,q,e,f,rfl,h,k,hs,z⟩;have:=h.sx;have:=h.sy;have:=k.sx;have:=k.sy;exact ⟨_,_,rfl,h.x,k.x,by omega,_,_,rfl,h.y,k.y,by omega,rfl,z⟩
abbrev mP (P w K mg base):=Fn P w K mg base 3 "_law_sub" ["_law_one","_law_other"] (aU K zP)
abbrev Ga:TB:=top 47
theorem A9:aL ["_law_one","_law_other"] ["_law_one","_law_other"] (aG Ga):=hU
theorem Wt {f:SO} {fd:SR} (F:eM K "_law_sub" "_law_sub" Ga f fd) (TX:Txt mg) (WL:lY P w K mg base)   : bF P w K mg base e9 3 f fd ["_law_one","_law_other"] (aU K zP):=by
 refine F.okT A9 ?len (λVS A outer s H E hr=>(aH (aQ (aO (fc (aC WL hr (by omega) rfl (fc (aF rfl (fv 0) aB (λ_ _=>rfl)) (fc (aF rfl (fv 1) aB (λ_ _=>rfl)) aA))) (fc (aC WL hr (by omega) rfl (fc (aF rfl (fv 0) aB (λ_ _=>rfl)) (fc (aF rfl (fv 1) aB (λ_ _=>rfl)) aA))) aA)))))) ?rd
 case len=>rintro as Q ⟨x,y,p,q,e,f,rfl,_⟩;rfl
 case rd=>
  rintro as Q ⟨x,y,p,q,e,f,rfl,h,k,hs,z⟩;have:=h.sx;have:=h.sy;have:=k.sx;have:=k.sy;exact ⟨_,_,rfl,h.x,k.x,by omega,_,_,rfl,h.y,k.y,by omega,rfl,z⟩
abbrev jX (P w K mg base):=Fn P w K mg base 3 "_law_scaled_by" ["_law_vector","_law_share"] (aU K sF)
abbrev kT:TB:=top 48
theorem u7:aL ["_law_vector","_law_share"] ["_law_vector","_law_share"] (aG kT):=hU
theorem vN {f:SO} {fd:SR} (F:eM K "_law_scaled_by" "_law_scaled_by" kT f fd) (TX:Txt mg) (VL:fV P w K mg base)   : bF P w K mg base e9 3 f fd ["_law_vector","_law_share"] (aU K sF):=by
 refine F.okT u7 ?len (λVS A outer s H E hr=>(aH (aQ (aO (fc (aC VL hr (by omega) rfl (fc (aF rfl (fv 0) aB (λ_ _=>rfl)) (fc (fv 1) aA))) (fc (aC VL hr (by omega) rfl (fc (aF rfl (fv 0) aB (λ_ _=>rfl)) (fc (fv 1) aA))) aA)))))) ?rd
 case len=>rintro as Q ⟨x,y,b,e,rfl,_⟩;rfl
 case rd=>
  rintro as Q ⟨x,y,b,e,rfl,h,hb,hs,q⟩;have:=h.sx;have:=h.sy;exact ⟨_,_,rfl,h.x,hb,by omega,_,_,rfl,h.y,hb,by omega,rfl,q⟩
abbrev pV (P w K mg base):=Fn P w K mg base 3 "_law_cross" ["_law_one","_law_other"] (aU K (FQ fZ))
abbrev uX:TB:=top 49
theorem Ou:aL ["_law_one","_law_other"] ["_law_one","_law_other"] (aG uX):=hU
theorem Ot {f:SO} {fd:SR} (F:eM K "_law_cross" "_law_cross" uX f fd) (TX:Txt mg) (WL:lY P w K mg base) (VL:fV P w K mg base)   : bF P w K mg base e9 3 f fd ["_law_one","_law_other"] (aU K (FQ fZ)):=by
 refine F.okT Ou ?len (λVS A outer s H E hr=>(aH (aQ (aC WL hr (by omega) rfl (fc (aC VL hr (by omega) rfl (fc (aF rfl (fv 0) aB (λ_ _=>rfl)) (fc (aF rfl (fv 1) aB (λ_ _=>rfl)) aA))) (fc (aC VL hr (by omega) rfl (fc (aF rfl (fv 0) aB (λ_ _=>rfl)) (fc (aF rfl (fv 1) aB (λ_ _=>rfl)) aA))) aA)))))) ?rd
 case len=>rintro as Q ⟨x,y,x',y',e,f,rfl,_⟩;rfl
 case rd=>
  rintro as Q ⟨x,y,x',y',e,f,rfl,h,k,he,q⟩;have:=h.sx;have:=h.sy;have:=k.sx;have:=k.sy;have n1:=bG h.x k.y;have n2:=bG h.y k.x;have s1:=iD h.x k.y;have s2:=iD h.y k.x;exact ⟨_,_,rfl,h.x,k.y,by omega,_,_,rfl,h.y,k.x,by omega,_,_,rfl,n1,n2,by omega,rfl,q⟩
abbrev zJ (P w K mg base):=Fn P w K mg base 3 "_law_dot" ["_law_one","_law_other"] (aU K (FQ vK))
abbrev Gj:TB:=top 50
theorem Xr:aL ["_law_one","_law_other"] ["_law_one","_law_other"] (aG Gj):=hU
theorem Ys {f:SO} {fd:SR} (F:eM K "_law_dot" "_law_dot" Gj f fd) (TX:Txt mg) (WX:sD P w K mg base) (VL:fV P w K mg base)   : bF P w K mg base e9 3 f fd ["_law_one","_law_other"] (aU K (FQ vK)):=by
 refine F.okT Xr ?len (λVS A outer s H E hr=>(aH (aQ (aC WX hr (by omega) rfl (fc (aC VL hr (by omega) rfl (fc (aF rfl (fv 0) aB (λ_ _=>rfl)) (fc (aF rfl (fv 1) aB (λ_ _=>rfl)) aA))) (fc (aC VL hr (by omega) rfl (fc (aF rfl (fv 0) aB (λ_ _=>rfl)) (fc (aF rfl (fv 1) aB (λ_ _=>rfl)) aA))) aA)))))) ?rd
 case len=>rintro as Q ⟨x,y,x',y',e,f,rfl,_⟩;rfl
 case rd=>
  rintro as Q ⟨x,y,x',y',e,f,rfl,h,k,he,q⟩;have:=h.sx;have:=h.sy;have:=k.sx;have:=k.sy;have n1:=bG h.x k.x;have n2:=bG h.y k.y;have s1:=iD h.x k.x;have s2:=iD h.y k.y;exact ⟨_,_,rfl,h.x,k.x,by omega,_,_,rfl,h.y,k.y,by omega,_,_,rfl,n1,n2,by omega,rfl,q⟩
end
end My
namespace My
open PySem L2 PyProof.Rows
section
variable {P:SS} {w:SW} {K:W.Frag} {mg:Str->Option Value} {base:Heap}
def hf (n:Int):Fr:=low n 2
theorem lI (n:Int):cF (hf n):=fF (by decide)
theorem t5 (n:Int):val (hf n)=(n:Rat)*(1/2):=by
 unfold hf;rw [jK (by decide)]
 push_cast
 grind
theorem Sw {n:Int} {e:Nat} (h:n.natAbs<2^e) (he:2<=e):sz (hf n)<=e:=nW (by decide) h (LO (show (2:Int).natAbs<2^2 by decide) (NO (by decide) he)) (by omega)
theorem Vu (n a:Int):lK (hf n) (a,1)=hf (n+2*a):=by
 refine eN (gL (lI n) (c9 a)) (lI _) ?_;rw [mU (lI n) (c9 a),t5,t5,oH]
 push_cast
 grind
def Ik:iC:=λas Q=>∃(xs:List L2.T) (w n:Int),as=[.b xs,.v (.int w)]/\Bx xs n/\n<=900000/\1<=w/\w<=10/\∀X Y ys,-(2*w)<=X->X<2*w->-(2*w)<=Y->Y<2*w->Bx ys (n+2)->Q (.v (pt (hf X,hf Y))) ys
abbrev rJ (P w K mg base):=Fn P w K mg base 2 "_law_spot_at" ["_law_box_here","_law_wide"] (aU K Ik)
abbrev nN:TB:=top 52
theorem Dk:aL ["_law_box_here","_law_wide"] ["_law_box_here","_law_wide"] (aG nN):=hU
theorem Cy {f:SO} {fd:SR} (F:eM K "_law_spot_at" "_law_spot_at" nN f fd) (TX:Txt mg) (VW:oW P w K mg base) (VZ:j8 P w K mg base)   : bF P w K mg base e9 2 f fd ["_law_box_here","_law_wide"] (aU K Ik):=by
 refine F.okT Dk ?len (λVS A outer s H E hr=>(aH (aQ (aO (fc (aC VZ hr (by omega) rfl (fc (aZ gK (cI VW hr (by omega) rfl (fc (fv 0) (fc (aN aT aB (fv 1)) aA))) (aN aT aB (fv 1))) (fc aB aA))) (fc (aC VZ hr (by omega) rfl (fc (aZ gK (cI VW hr (by omega) rfl (fc (fv 0) (fc (aN aT aB (fv 1)) aA))) (aN aT aB (fv 1))) (fc aB aA))) aA)))))) ?rd
 case len=>rintro as Q ⟨xs,w,n,rfl,_⟩;rfl
 case rd=>
  rintro as Q ⟨xs,w,n,rfl,bx,hn,w1,w2,q⟩;obtain ⟨A0,B0,c0,rfl,_⟩:=id bx;refine ⟨vP (by decide),_,4*w,n,rfl,bx,by omega,by omega,by omega,λr1 y1 a1 a2 b1=>?_⟩;obtain ⟨A1,B1,c1,rfl,_⟩:=id b1;refine ⟨vP (by decide),_,_,rfl,by decide,by decide,?_⟩;refine ⟨vP (by decide),_,4*w,n+1,rfl,b1,by omega,by omega,by omega,λr2 y2 a3 a4 b2=>?_⟩;obtain ⟨A2,B2,c2,rfl,_⟩:=id b2;refine ⟨vP (by decide),_,_,rfl,by decide,by decide,?_⟩;exact ⟨rfl,q (r1-2*w) (r2-2*w) _ (by omega) (by omega) (by omega) (by omega) (b2.mono (by omega))⟩
def e7 (x y:Int):Nat->List (Int×Int)
 | 0=>[(0,0),(x,0),(x,y),(0,y)]
 | 1=>[(0,0),(x,1),(x+1,y+2),(1,y+1)]
 | 2=>[(0,0),(x,0),(0,y)]
 | 3=>[(0,0),(x,0),(x+1,0),(x+1,y),(0,y)]
 | _=>[(1,0),(x+1,0),(x+2,1),(x+2,y+1),(x+1,y+2),(0,1)]
def fS (X Y:Int) (cs:List (Int×Int)):List Pt:=cs.map λc=>(hf (X+2*c.1),hf (Y+2*c.2))
structure HP (m:Str) (n:Nat):Prop where
 len:m.cps.size=n
 all:∀c∈m.cps.toList,c∈("lrbe-":Str).cps.toList
structure LB (M:Int) (b:bW):Prop where
 ex:∃(w:Nat) (x y X Y:Int),w<5/\1<=x/\x<=6/\1<=y/\y<=6/\X.natAbs<=M/\Y.natAbs<=M/\b.o=fS X Y (e7 x y w)
 m:HP b.m b.o.length
 w:(b.w.length<=1000/\∀c∈b.w.cps.toList,c<16^8)/\b.n.natAbs<=100
theorem Rz {x y:Int} (hx:1<=x) (nv:x<=6) (hy:1<=y) (qq:y<=6) (w:Nat):∀c∈e7 x y w,0<=c.1/\c.1<=8/\0<=c.2/\c.2<=8:=by
 intro c m
 match w with
 | 0 | 1 | 2 | 3 | _+4=>
  simp only [e7,KR,OG,or_false,Prod.ext_iff] at m;omega
theorem xS (x y:Int) (w:Nat):3<=(e7 x y w).length/\(e7 x y w).length<=6:=by
 match w with
 | 0 | 1 | 2 | 3 | _+4=>simp only [e7,LJ,NF];omega
def V7 (c:Int×Int):L2.T:=.tup [.int c.1,.int c.2]
def HX (x y:Int):List L2.T:=[L2.T.lst ((e7 x y 0).map V7),.lst ((e7 x y 1).map V7),.lst ((e7 x y 2).map V7),.lst ((e7 x y 3).map V7),.lst ((e7 x y 4).map V7)]
theorem BM {r:Int} (h:0<=r) (k:r<5):∃c∈("lrbe-":Str).cps.toList,gN ("lrbe-":Str).cps.toList r=some c:=by
 have:r=0\/r=1\/r=2\/r=3\/r=4:=by omega
 rcases this with rfl | rfl | rfl | rfl | rfl
 ·exact ⟨_,by decide,rfl⟩
 ·exact ⟨_,by decide,rfl⟩
 ·exact ⟨_,by decide,rfl⟩
 ·exact ⟨_,by decide,rfl⟩
 ·exact ⟨_,by decide,rfl⟩
theorem w6 {X Y:Int} (h:X.natAbs<2^15) (k:Y.natAbs<2^15):Nv (hf X) (hf Y) 15:=⟨lI _,lI _,Sw h (by decide),Sw k (by decide)⟩
theorem Uz {a b:Int} (h:a.natAbs<2^15) (k:b.natAbs<2^15):Nv (a,1) (b,1) 15:=⟨c9 _,c9 _,qT h (show (1:Int).natAbs<2^15 by decide) (by decide),qT k (show (1:Int).natAbs<2^15 by decide) (by decide)⟩
def vA (cs:List Nat):List Str:=cs.map λc=>⟨#[c]⟩
theorem Y9:∀cs:List Nat,cs.length=6->JoinOk (PH "") (vA cs)=true/\∃m:Str,Txt.join (PH "") (vA cs)=m/\m.length<=big/\∀n:Nat,3<=n->n<=6->(PX m none (some (n:Int))).cps.toList=cs.take n
 | [a,b,c,d,e,f],_=>by
  refine ⟨rfl,⟨#[a,b,c,d,e,f]⟩,rfl,(show 6<=big by decide),λn h1 h2=>?_⟩;have:n=3\/n=4\/n=5\/n=6:=by omega
  rcases this with rfl | rfl | rfl | rfl
  ·rfl
  ·rfl
  ·rfl
  ·rfl
def Me:iC:=λas Q=>∃(xs:List L2.T) (n:Int),as=[.b xs,.v (.int 3)]/\Bx xs n/\n<=800000/\∀b ys,LB 6 b->Bx ys (n+13)->Q (.v (dJ b)) ys
abbrev wU (P w K mg base):=Fn P w K mg base 4 "_law_shape" ["_law_box_here","_law_wide"] (aU K Me)
abbrev sU:TB:=top 53
theorem gT:aL ["_law_box_here","_law_wide","_law_some","_law_spots","_law_way","_law_x","_law_y","_law_at","_law_marks","_law_word","_law_number"] ["_law_box_here","_law_wide"] (aG sU):=hU
theorem Of {f:SO} {fd:SR} (F:eM K "_law_shape" "_law_shape" sU f fd) (TX:Txt mg) (VW:oW P w K mg base) (XZ:rJ P w K mg base) (XJ:rY P w K mg base)   : bF P w K mg base e9 4 f fd ["_law_box_here","_law_wide"] (aU K Me):=by
 refine F.okT gT ?len (λVS A outer s H E hr=>(aE (Km (i:=4) (j:=5) (k:=6) rfl gT.nd rfl rfl rfl (by decide) (by decide) (by decide) rfl rfl rfl (fc (cI VW hr (by omega) rfl (fc (fv 0) (fc aB aA))) (fc (aZ bZ aB (cI VW hr (by omega) rfl (fc (fv 0) (fc aB aA)))) (fc (aZ bZ aB (cI VW hr (by omega) rfl (fc (fv 0) (fc aB aA)))) aA))) rfl)
 (aE (iY (aO (fc (cI XZ hr (by omega) rfl (fc (fv 0) (fc (fv 1) aA))) (fc (Yq rfl cD (fc (jJ (N':=["_law_k","_law_box_here"]) (t:=1) (cap:=[(0,true)]) rfl (bP.of rfl) rfl (by decide) (gU rfl TX.n_range (fc aB aA)) (λ_ _ _ _=>(aI (i:=0) (show MQ (["_law_k","_law_box_here"]:List Str) by decide +kernel) rfl (LA rfl) (MM rfl))) (λ_ _ _ _=>(Gi rfl cD (cI VW hr (by omega) rfl (fc (fv 1) (fc aB aA))) (λ_ _=>rfl)))) aA)) aA))) (bV (n:=2) rfl rfl (aJ (aI (i:=7) gT.nd rfl (MM rfl)) (aJ (aI (i:=8) gT.nd rfl (LA rfl)) bK))))
 (aE (aX (i:=2) gT.nd rfl (LA rfl) (Xa (fc (bN (fc (aO (fc aB (fc aB aA))) (fc (aO (fc (fv 5) (fc aB aA))) (fc (aO (fc (fv 5) (fc (fv 6) aA))) (fc (aO (fc aB (fc (fv 6) aA))) aA))))) (fc (bN (fc (aO (fc aB (fc aB aA))) (fc (aO (fc (fv 5) (fc aB aA))) (fc (aO (fc (aZ bZ (fv 5) aB) (fc (aZ bZ (fv 6) aB) aA))) (fc (aO (fc aB (fc (aZ bZ (fv 6) aB) aA))) aA))))) aA))))
 (aE (d8 (nL rfl (fv 2) (fc (bN (fc (aO (fc aB (fc aB aA))) (fc (aO (fc (fv 5) (fc aB aA))) (fc (aO (fc aB (fc (fv 6) aA))) aA)))) aA)))
 (aE (d8 (nL rfl (fv 2) (fc (bN (fc (aO (fc aB (fc aB aA))) (fc (aO (fc (fv 5) (fc aB aA))) (fc (aO (fc (aZ bZ (fv 5) aB) (fc aB aA))) (fc (aO (fc (aZ bZ (fv 5) aB) (fc (fv 6) aA))) (fc (aO (fc aB (fc (fv 6) aA))) aA)))))) aA)))
 (aE (d8 (nL rfl (fv 2) (fc (bN (fc (aO (fc aB (fc aB aA))) (fc (aO (fc (aZ bZ (fv 5) aB) (fc aB aA))) (fc (aO (fc (aZ bZ (fv 5) aB) (fc aB aA))) (fc (aO (fc (aZ bZ (fv 5) aB) (fc (aZ bZ (fv 6) aB) aA))) (fc (aO (fc (aZ bZ (fv 5) aB) (fc (aZ bZ (fv 6) aB) aA))) (fc (aO (fc aB (fc aB aA))) aA))))))) aA)))
 (aE (aX (i:=3) gT.nd rfl (LA rfl) (uO rfl rfl TX.n_tuple (fc (jJ (N':=["_law_a","_law_b","_law_at"]) (t:=2) (cap:=[(7,false)]) rfl (bP.of rfl) rfl (by decide) (d9 rfl (aF rfl (fv 2) (fv 4) (λ_ _=>rfl))) (λ_ _ _ _=>(bV (n:=2) rfl rfl (aJ (aI (i:=0) (show MQ (["_law_a","_law_b","_law_at"]:List Str) by decide +kernel) rfl (LA rfl) (MM rfl)) (aJ (aI (i:=1) (show MQ (["_law_a","_law_b","_law_at"]:List Str) by decide +kernel) rfl (LA rfl) (MM rfl)) bK)))) (λ_ _ _ _=>(aC XJ hr (by omega) rfl (fc (fv 2) (fc (aO (fc (aO (fc (fv 0) (fc aB aA))) (fc (aO (fc (fv 1) (fc aB aA))) aA))) aA))))) aA)))
 (aE (gY (i:=9) (j:=10) rfl gT.nd rfl rfl (by decide) rfl rfl (fc (aF rfl (bN (fc cD (fc cD (fc cD (fc cD aA))))) (cI VW hr (by omega) rfl (fc (fv 0) (fc aB aA))) (λ_ _=>rfl)) (fc (cI VW hr (by omega) rfl (fc (fv 0) (fc aB aA))) aA)) rfl)
 (aH (aQ (aO (fc (fv 9) (fc (fv 10) (fc (fv 3) (fc (Mp (fv 8) gJ (eQ (fT rfl rfl TX.n_len (fc (fv 3) aA)))) aA)))))))))))))))) ?rd
 case len=>rintro as Q ⟨xs,n,rfl,_⟩;rfl
 case rd=>
  rintro as Q ⟨xs,n,rfl,bx,hn,q⟩;obtain ⟨A0,B0,c0,rfl,_⟩:=id bx;refine ⟨_,5,n,rfl,bx,by omega,by decide,by decide,λr1 y1 a1 a2 b1=>?_⟩;obtain ⟨A1,B1,c1,rfl,_⟩:=id b1;refine ⟨_,6,n+1,rfl,b1,by omega,by decide,by decide,λr2 y2 a3 a4 b2=>?_⟩;obtain ⟨A2,B2,c2,rfl,_⟩:=id b2;refine ⟨_,6,n+1+1,rfl,b2,by omega,by decide,by decide,λr3 y3 a5 a6 b3=>?_⟩;obtain ⟨A3,B3',c3,rfl,_⟩:=id b3;refine ⟨_,3,n+1+1+1,rfl,b3,by omega,by decide,by decide,λX Y y4 x1 x2 x3 x4 b4=>?_⟩;obtain ⟨A4,B4,c4,rfl,_⟩:=id b4;obtain ⟨w,hw,rfl⟩:∃w:Nat,w<5/\r1=(w:Int):=⟨r1.toNat,by omega,by omega⟩;refine ⟨by decide,rfl,?_⟩;show iH _ _ (kP 0 6) _ _;refine xD (λi E=>∃(w0:Option U) (ys:List L2.T) (cs:List Nat),E=[w0,some (.o true ys),some (.o false (lH (vA cs)))]/\Bx ys (n+5+i)/\cs.length=i/\∀c∈cs,c∈("lrbe-":Str).cps.toList) ⟨none,_,[],rfl,b4.mono (by simp;omega),rfl,λc m=>absurd m (by simp)⟩ ?_ ?_
  ·rintro i t rest E hi ⟨w0,ys,cs,rfl,bi,hc,hm⟩ KK;obtain ⟨ZL,rfl⟩:=pP hi;obtain ⟨A5,B5,c5,rfl,_⟩:=id bi;refine ⟨_,5,_,rfl,bi,by omega,by decide,by decide,λr y5 u1 u2 b5=>?_⟩;obtain ⟨A6,B6,c6,rfl,_⟩:=id b5;obtain ⟨c,mc,bh⟩:=BM u1 u2;refine ⟨(show 5<=big by decide),?_⟩;show o1 (gN ("lrbe-":Str).cps.toList r) _;rw [bh];refine ⟨(show (lH (vA cs)).length<1000 by simp [lH,vA];omega),KK _ ⟨some (.p (.int (0+(i:Int)))),[.int A6,.int B6,.int c6],cs++[c],?_,b5.mono (by push_cast;omega),by simp [hc],λz mz=>?_⟩⟩
   ·show [_,_,some (U.o false (lH (vA cs)++[L2.T.str ⟨#[c]⟩]))]=_;rw [show lH (vA cs)++[L2.T.str ⟨#[c]⟩]=lH (vA (cs++[c])) by simp [lH,vA]]
   ·rcases LP.mp mz with mz | mz
    ·exact hm z mz
    ·rw [LM] at mz;rw [mz];exact mc
  ·rintro E ⟨w0,ys,cs,rfl,bi,hc,hm⟩;have hc6:cs.length=6:=by rw [hc];rfl
   obtain ⟨A5,B5,c5,rfl,_⟩:=id bi;obtain ⟨jo,ms,ej,lj,sl⟩:=Y9 cs hc6;refine ⟨bA (λ_=>rfl) _,?_⟩;show o1 (kK (lH (vA cs))) _;rw [Cv];refine ⟨jo,λz ez=>?_⟩;rw [ej] at ez;subst ez;refine ⟨(show 2<1000 by decide),(show 3<1000 by decide),(show 4<1000 by decide),?_⟩;have cy:gN (HX (1+r2) (1+r3)) (w:Int)=some (L2.T.lst ((e7 (1+r2) (1+r3) w).map V7)):=by
    match w,hw with
    | 0,_ | 1,_ | 2,_ | 3,_ | 4,_=>rfl
   show o1 (gN (HX (1+r2) (1+r3)) (w:Int)) _;rw [cy];have bs:=Rz (x:=1+r2) (y:=1+r3) (by omega) (by omega) (by omega) (by omega) w;have ls:=xS (1+r2) (1+r3) w;refine ⟨rfl,eL (f:=V7) (h:=λc=>pt (hf (X+2*c.1),hf (Y+2*c.2))) (λ(v:Option U×Option U) acc=>[v.1,v.2,some (.p (pt (hf X,hf Y))),some (.o false acc)]) (e7 (1+r2) (1+r3) w) (none,none) [] (by simp;omega) (λc m v acc rest ha K=>?_) λv=>?_⟩
   ·have:=bs c m;refine ⟨hf X,hf Y,(c.1,1),(c.2,1),15,15,rfl,w6 (by omega) (by omega),Uz (by omega) (by omega),by decide,?_⟩;rw [Vu,Vu];exact ⟨ha,K (some (.p (.int c.1)),some (.p (.int c.2)))⟩
   ·refine ⟨bA (λ_=>rfl) _,?_⟩;have eo:([]++(e7 (1+r2) (1+r3) w).map λc=>pt (hf (X+2*c.1),hf (Y+2*c.2)))=(fS X Y (e7 (1+r2) (1+r3) w)).map pt:=by rw [MZ,fS,MK];rfl
    rw [eo];have lo:(fS X Y (e7 (1+r2) (1+r3) w)).length=(e7 (1+r2) (1+r3) w).length:=by rw [fS,KW]
    have hb:∀(s:Str) (k:Int),((s.length<=1000/\∀c∈s.cps.toList,c<16^8)/\k.natAbs<=100)->LB 6 ⟨s,k,fS X Y (e7 (1+r2) (1+r3) w),PX z none (some ((e7 (1+r2) (1+r3) w).length:Int))⟩:=λs k hs=>by
     refine ⟨⟨w,1+r2,1+r3,X,Y,hw,by omega,by omega,by omega,by omega,by omega,by omega,rfl⟩,⟨?_,?_⟩,hs⟩
     ·show (PX z none (some ((e7 (1+r2) (1+r3) w).length:Int))).cps.size=(fS X Y (e7 (1+r2) (1+r3) w)).length;rw [lo,<-OW,sl _ ls.1 ls.2,MA,hc6];omega
     ·show ∀c∈(PX z none (some ((e7 (1+r2) (1+r3) w).length:Int))).cps.toList,_;rw [sl _ ls.1 ls.2];exact λc m=>hm c (NW m)
    generalize fS X Y (e7 (1+r2) (1+r3) w)=O at *;refine (?_:oC [some (.o true [.int A5,.int B5,.int c5]),some (.p (.int 3)),some (.o false (HX (1+r2) (1+r3))),some (.p (.tup (O.map pt))),some (.p (.int (w:Int))),some (.p (.int (1+r2))),some (.p (.int (1+r3))),some (.p (pt (hf X,hf Y))),some (.p (.str z)),none,none] _);refine ⟨_,4,_,rfl,bi,by omega,by decide,by decide,λr6 y6 u1 u2 b6=>?_⟩;obtain ⟨A6,B6,c6,rfl,_⟩:=id b6;obtain ⟨s,hs,hsl⟩:∃s:Str,gN [L2.T.str "strip",.str "fan",.str "cap",.str "sector"] r6=some (L2.T.str s)/\(s.length<=1000/\∀c∈s.cps.toList,c<16^8):=by
     have:r6=0\/r6=1\/r6=2\/r6=3:=by omega
     rcases this with rfl | rfl | rfl | rfl
     ·exact ⟨_,rfl,by decide⟩
     ·exact ⟨_,rfl,by decide⟩
     ·exact ⟨_,rfl,by decide⟩
     ·exact ⟨_,rfl,by decide⟩
    show o1 (gN [L2.T.str "strip",.str "fan",.str "cap",.str "sector"] r6) _;rw [hs];refine ⟨_,4,_,rfl,b6,by omega,by decide,by decide,λr7 y7 u3 u4 b7=>?_⟩;obtain ⟨A7,B7,c7,rfl,_⟩:=id b7;refine ⟨lj,λy ey=>?_⟩;have el:((O.map pt).length:Int)=((e7 (1+r2) (1+r3) w).length:Int):=by rw [KW,lo]
    have ey':y=PX z none (some ((O.map pt).length:Int)):=ey;rw [el] at ey';subst ey';exact ⟨Uv ⟨s,r7,O,PX z none (some ((e7 (1+r2) (1+r3) w).length:Int))⟩,q _ _ (hb s r7 ⟨hsl,by omega⟩) (b7.mono (by omega))⟩
end
end My
namespace My
open PySem L2 PyProof.Rows
section
variable {P:SS} {w:SW} {K:W.Frag} {mg:Str->Option Value} {base:Heap}
theorem Lg {α:Type} {f:α->L2.T} {xs:List α} {j:Nat} (h:j<xs.length):∃x,xs[(j+xs.length-1)%xs.length]? = some x/\gN (xs.map f) ((j:Int)-1)=some (f x):=by
 have hk:(j+xs.length-1)%xs.length<xs.length:=PM _ (by omega);refine ⟨_,KS hk,?_⟩;unfold gN;have e:Ah (xs.map f).length ((j:Int)-1)=some ((j+xs.length-1)%xs.length):=by
  unfold Ah;rw [KW];cases j with
  | zero=>
   rw [if_neg (by omega),if_pos (by omega)]
   congr 1
   rw [show 0+xs.length-1=xs.length-1 by omega,OB (by omega)];omega
  | succ j=>
   rw [if_pos (by omega),if_pos (by omega)]
   congr 1
   rw [show j+1+xs.length-1=j+xs.length by omega,Nat.add_mod_right,OB (by omega)];omega
 rw [e];simp [KS hk]
theorem Vp {p q d:Int} (h:p-q=2*d):bO (hf p) (hf q)=(d,1):=by
 refine eN (cJ (lI p) (lI q)) (c9 d) ?_;have:(p:Rat)-(q:Rat)=2*(d:Rat):=by exact_mod_cast h
 rw [d5 (lI p) (lI q),t5,t5,oH];grind
theorem Kg (p q:Int):lK (hf p) (hf q)=hf (p+q):=by
 refine eN (gL (lI p) (lI q)) (lI _) ?_;rw [mU (lI p) (lI q),t5,t5,t5]
 push_cast
 grind
theorem Tb (d s:Int):jV (d,1) (hf s)=hf (s*d):=by
 refine eN (bG (c9 d) (lI s)) (lI _) ?_;rw [iJ (c9 d) (lI s),t5,t5,oH]
 push_cast
 grind
theorem LB.mono {M N:Int} {b:bW} (h:LB M b) (k:M<=N):LB N b:=by
 obtain ⟨⟨w,x,y,X,Y,h1,h2,h3,h4,h5,h6,h7,h8⟩,hm,hw⟩:=h;exact ⟨⟨w,x,y,X,Y,h1,h2,h3,h4,h5,by omega,by omega,h8⟩,hm,hw⟩
theorem Sr {X Y:Int} {zs:List (Int×Int)} {j:Nat} {p:Pt} (h:(fS X Y zs)[j]? = some p):∃c∈zs,p=(hf (X+2*c.1),hf (Y+2*c.2)):=by
 obtain ⟨c,m,e⟩:=KY.mp (KZ h);exact ⟨c,m,e.symm⟩
theorem jQ {α:Type} {f:α->L2.T} {n:Nat} (h:∀x,L2.dT (f x)<=n):∀xs:List α,L2.qF (xs.map f)<=n
 | []=>MJ _
 | x::xs=>by rw [MO,L2.qF];exact PL.mpr ⟨h x,jQ h xs⟩
theorem F3 (b:bW):L2.dT (dJ b)<=5:=by
 have h:=jQ (f:=pt) (n:=2) (λ_=>eZ rfl) b.o;unfold dJ;simp only [L2.dT,L2.qF];have:OX 0 (OX 0 (OX (L2.qF (b.o.map pt)+1) (OX 0 0)))<=4:=PL.mpr ⟨by omega,PL.mpr ⟨by omega,PL.mpr ⟨by omega,PL.mpr ⟨by omega,by omega⟩⟩⟩⟩;omega
theorem KH {r:Int} (h:0<=r) (k:r<4):∃s:Int,0<=s/\s<=4/\gN [L2.T.tup [.int 0,.int 1],.tup [.int 1,.int 1],.tup [.int 1,.int 2],.tup [.int 2,.int 1]] r=some (fr (hf s)):=by
 have:r=0\/r=1\/r=2\/r=3:=by omega
 rcases this with rfl | rfl | rfl | rfl
 ·exact ⟨0,by decide,by decide,rfl⟩
 ·exact ⟨2,by decide,by decide,rfl⟩
 ·exact ⟨1,by decide,by decide,rfl⟩
 ·exact ⟨4,by decide,by decide,rfl⟩
def DW:iC:=λas Q=>∃(xs:List L2.T) (M n:Int),as=[.b xs,.v (.int M)]/\Bx xs n/\n<=700000/\1<=M/\M<=10/\∀(bs:List bW) (ys:List L2.T),1<=bs.length->(bs.length:Int)<=M->(∀b∈bs,LB 400 b)->Bx ys (n+300)->Q (.l (bs.map dJ)) ys
abbrev Ll (P w K mg base):=Fn P w K mg base 5 "_law_lot" ["_law_box_here","_law_most"] (aU K DW)
abbrev Fg:TB:=top 54
theorem fG:aL ["_law_box_here","_law_most","_law_found","_law_k","_law_way","_law_block","_law_at","_law_share","_law_step","_law_word","_law_number","_law_spots","_law_marks"] ["_law_box_here","_law_most"] (aG Fg):=hU
theorem C5 {f:SO} {fd:SR} (F:eM K "_law_lot" "_law_lot" Fg f fd) (TX:Txt mg) (VW:oW P w K mg base) (YS:wU P w K mg base) (XJ:rY P w K mg base) (WM:jX P w K mg base) (VX:mP P w K mg base)   : bF P w K mg base e9 5 f fd ["_law_box_here","_law_most"] (aU K DW):=by
 refine F.okT fG ?len (λVS A outer s H E hr=>(aE (aX (i:=2) fG.nd rfl (LA rfl) (bN aA))
 (aE (dY PassesOwn.never rfl (gU rfl TX.n_range (fc (aZ bZ aB (cI VW hr (by omega) rfl (fc (fv 0) (fc (fv 1) aA)))) aA)) (aI (i:=3) fG.nd rfl (LA rfl))
  (aE (gY (i:=4) (j:=5) rfl fG.nd rfl rfl (by decide) rfl rfl (fc (cI VW hr (by omega) rfl (fc (fv 0) (fc aB aA))) (fc (cI YS hr (by omega) rfl (fc (fv 0) (fc aB aA))) aA)) rfl)
 (aE (cU (nP (jY (cX fW (fv 4) aB (aR _)) (jS (i6 rfl hr (fv 2) (bN aA) (aR _))))) (aE (iY (aF rfl (fv 2) (cI VW hr (by omega) rfl (fc (fv 0) (fc (fT rfl rfl TX.n_len (fc (fv 2) aA)) aA))) (λ_ _=>rfl)) (bV (n:=4) rfl rfl (aJ (aI (i:=9) fG.nd rfl (LA rfl)) (aJ (aI (i:=10) fG.nd rfl (LA rfl)) (aJ (aI (i:=11) fG.nd rfl (LA rfl)) (aJ (aI (i:=12) fG.nd rfl (LA rfl)) bK))))))
 (aE (aX (i:=6) fG.nd rfl (LA rfl) (cI VW hr (by omega) rfl (fc (fv 0) (fc (fT rfl rfl TX.n_len (fc (fv 11) aA)) aA))))
 (aE (aX (i:=7) fG.nd rfl (LA rfl) (aF rfl (bN (fc (aO (fc aB (fc aB aA))) (fc (aO (fc aB (fc aB aA))) (fc (aO (fc aB (fc aB aA))) (fc (aO (fc aB (fc aB aA))) aA))))) (cI VW hr (by omega) rfl (fc (fv 0) (fc aB aA))) (λ_ _=>rfl)))
 (aE (aX (i:=8) fG.nd rfl (MM rfl) (aC WM hr (by omega) rfl (fc (aC VX hr (by omega) rfl (fc (aF rfl (fv 11) (fv 6) (λ_ _=>rfl)) (fc (aF rfl (fv 11) (aZ gK (fv 6) aB) (λ_ _=>rfl)) aA))) (fc (fv 7) aA))))
 (aH (aX (i:=5) fG.nd rfl (LA rfl) (aO (fc (fv 9) (fc (fv 10) (fc (uO rfl rfl TX.n_tuple (fc (jJ (N':=["_law_spot","_law_step"]) (t:=1) (cap:=[(8,false)]) rfl (bP.of rfl) rfl (by decide) (zB rfl (fv 11)) (λ_ _ _ _=>(aI (i:=0) (show MQ (["_law_spot","_law_step"]:List Str) by decide +kernel) rfl (LA rfl) (MM rfl))) (λ_ _ _ _=>(aC XJ hr (by omega) rfl (fc (fv 0) (fc (fv 1) aA))))) aA)) (fc (fv 12) aA))))))))))) bY)
 (aH (d8 (dX rfl (fv 2) (fc (fv 5) aA)))))))
 (aH (aQ (fv 2)))))) ?rd
 case len=>rintro as Q ⟨xs,M,n,rfl,_⟩;rfl
 case rd=>
  rintro as Q ⟨xs,M,n,rfl,bx,hn,m1,m2,q⟩;obtain ⟨A0,B0,c0,rfl,_⟩:=id bx;refine ⟨_,M,n,rfl,bx,by omega,m1,by omega,λr1 y1 a1 a2 b1=>?_⟩;obtain ⟨A1,B1,c1,rfl,_⟩:=id b1;obtain ⟨m,hm,em⟩:∃m:Nat,(m:Int)<=M/\1+r1=(m:Int):=⟨(1+r1).toNat,by omega,by omega⟩;refine ⟨⟨by show -(2^62:Int)<=1+r1;omega,by show 1+r1<2^62;omega⟩,?_⟩;show oC _ (dG _ _ _ (kP 0 (1+r1).toNat));rw [em,NJ];refine iS (λi E=>∃(ys:List L2.T) (bs:List bW) (v3 v4 v5 v6 v7 v8 v9 v10 v11 bo:Option U),E=[some (.o true ys),some (.p (.int M)),some (.o false (bs.map dJ)),v3,v4,v5,v6,v7,v8,v9,v10,v11,bo]/\Bx ys (n+1+20*i)/\bs.length=i/\∀b∈bs,LB (6+32*i) b) ⟨_,[],_,_,_,_,_,_,_,_,_,_,rfl,b1.mono (by simp),rfl,λb m=>absurd m (by simp)⟩ ?_ ?_
  ·rintro i t rest E hi ⟨ys,bs,v3,v4,v5,v6,v7,v8,v9,v10,v11,bo,rfl,bi,hl,hb⟩ KK;obtain ⟨ZL,rfl⟩:=pP hi;obtain ⟨A2,B2,c2,rfl,_⟩:=id bi;refine ⟨_,5,_,rfl,bi,by omega,by decide,by decide,λr2 y2 a3 a4 b2=>?_⟩;obtain ⟨A3,B3',c3,rfl,_⟩:=id b2;refine ⟨_,_,rfl,b2,by omega,λb y3 lb b3=>?_⟩;obtain ⟨A4,B4,c4,rfl,_⟩:=id b3;have lb1:LB (6+32*((i+1:Nat):Int)) b:=lb.mono (by omega);have hb1:∀b∈bs,LB (6+32*((i+1:Nat):Int)) b:=λb m=>(hb b m).mono (by push_cast;omega);have snoc:∀b,LB (6+32*((i+1:Nat):Int)) b->∀b'∈bs++[b],LB (6+32*((i+1:Nat):Int)) b':=λb l b' m=>by
    rcases LP.mp m with m | m
    ·exact hb1 b' m
    ·rw [LM] at m;rw [m];exact l
   have app:∀b,bs.map dJ++[dJ b]=(bs++[b]).map dJ:=λb=>by rw [MI];rfl
   have ln:∀b,(bs.map dJ++[dJ b]).length<=1000:=λb=>by rw [LC,KW,hl];simp;omega
   show if decide (r2<2)=true then _ else _
   by_cases c:r2<2
   ·rw [decide_eq_true c,if_pos rfl];have dm:L2.dT (.lst (bs.map dJ))<=60:=by
     have:=jQ F3 bs;simp only [L2.dT];omega
    refine ⟨dm,?_⟩
    by_cases e0:bs=[]
    ·subst e0;refine ⟨ln b,?_⟩;exact KK [some (.o true [.int A4,.int B4,.int c4]),some (.p (.int M)),some (.o false ([b].map dJ)),some (.p (.int (0+(i:Int)))),some (.p (.int r2)),some (.p (dJ b)),v6,v7,v8,v9,v10,v11,bo] ⟨_,[b],_,_,_,_,_,_,_,_,_,_,rfl,b3.mono (by push_cast;omega),by simp at hl ⊢;omega,snoc b lb1⟩
    ·have ee:eD (.lst (bs.map dJ)) (.lst [])=false:=by
      cases bs with
      | nil=>exact absurd rfl e0
      | cons x r=>rfl
     have el:(0:Nat)<bs.length:=List.length_pos_iff.mpr e0;show if (!(eD (.lst (bs.map dJ)) (.lst [])))=true then _ else _;rw [ee,if_pos (by decide)];refine ⟨_,((bs.map dJ).length:Int),_,rfl,b3,by omega,by rw [KW];omega,by rw [KW,hl];omega,λr5 y5 u1 u2 b5=>?_⟩;obtain ⟨A5,B5,c5,rfl,_⟩:=id b5;rw [KW] at u2;obtain ⟨k,hk,rfl⟩:∃k:Nat,k<bs.length/\r5=(k:Int):=⟨r5.toNat,by omega,by omega⟩;show o1 (gN (bs.map dJ) (k:Int)) _;rw [hR (KS hk)];have lk:=hb _ (NN hk);generalize bs[k]=g at lk;obtain ⟨⟨w,x,y,X,Y,h1,h2,h3,h4,h5,h6,h7,h8⟩,iq,df⟩:=lk;obtain ⟨gw,gn,go,gm⟩:=g;simp only at h8 iq df;subst h8;have hz:=Rz h2 h3 h4 h5 w;have lz:=xS x y w;have lz':(fS X Y (e7 x y w)).length=(e7 x y w).length:=by rw [fS,KW]
     generalize yg:e7 x y w=zs at *;refine ⟨_,(((fS X Y zs).map pt).length:Int),_,rfl,b5,by omega,by rw [KW];omega,by rw [KW];omega,λr6 y6 u3 u4 b6=>?_⟩;obtain ⟨A6,B6,c6,rfl,_⟩:=id b6;rw [KW] at u4;obtain ⟨j,hj,rfl⟩:∃j:Nat,j<(fS X Y zs).length/\r6=(j:Int):=⟨r6.toNat,by omega,by omega⟩;refine ⟨_,4,_,rfl,b6,by omega,by decide,by decide,λr7 y7 u5 u6 b7=>?_⟩;obtain ⟨A7,B7,c7,rfl,_⟩:=id b7;obtain ⟨s,s0,s4,hs⟩:=KH u5 u6;show o1 (gN [L2.T.tup [.int 0,.int 1],.tup [.int 1,.int 1],.tup [.int 1,.int 2],.tup [.int 2,.int 1]] r7) _;rw [hs];refine (?_:oC [some (.o true [.int A7,.int B7,.int c7]),some (.p (.int M)),some (.o false (bs.map dJ)),some (.p (.int (0+(i:Int)))),some (.p (.int r2)),some (.p (dJ b)),some (.p (.int (j:Int))),some (.p (fr (hf s))),v8,some (.p (.str gw)),some (.p (.int gn)),some (.p (.tup ((fS X Y zs).map pt))),some (.p (.str gm))] _);obtain ⟨p1,hp1⟩:∃p,(fS X Y zs)[j]? = some p:=⟨_,KS hj⟩;obtain ⟨p2,hp2,at2⟩:=Lg (f:=pt) hj;show o1 (gN ((fS X Y zs).map pt) (j:Int)) _;rw [hR hp1];show o1 (gN ((fS X Y zs).map pt) ((j:Int)-1)) _;rw [at2];obtain ⟨z1,mz1,rfl⟩:=Sr hp1;obtain ⟨z2,mz2,rfl⟩:=Sr hp2;have q1:=hz z1 mz1;have q2:=hz z2 mz2;have hX:X.natAbs<=400:=by omega
     have hY:Y.natAbs<=400:=by omega
     refine ⟨_,_,_,_,15,15,rfl,w6 (by omega) (by omega),w6 (by omega) (by omega),by decide,?_⟩;rw [Vp (d:=z1.1-z2.1) (by omega),Vp (d:=z1.2-z2.2) (by omega)];refine ⟨_,_,_,15,rfl,Uz (by omega) (by omega),lI s,by have:=Sw (n:=s) (e:=5) (by omega) (by decide);omega,?_⟩;rw [Tb,Tb];have e1:(s*(z1.1-z2.1)).natAbs<=32:=by
      rw [PJ];exact MG (RC (show s.natAbs<=4 by omega) (show (z1.1-z2.1).natAbs<=8 by omega)) (by decide)
     have e2:(s*(z1.2-z2.2)).natAbs<=32:=by
      rw [PJ];exact MG (RC (show s.natAbs<=4 by omega) (show (z1.2-z2.2).natAbs<=8 by omega)) (by decide)
     generalize s*(z1.1-z2.1)=dx at *;generalize s*(z1.2-z2.2)=dy at *;refine ⟨rfl,?_⟩;show iH _ _ ((fS X Y zs).map pt) _ _;have mv:LB (6+32*((i+1:Nat):Int)) ⟨gw,gn,fS (X+dx) (Y+dy) zs,gm⟩:=⟨⟨w,x,y,X+dx,Y+dy,h1,h2,h3,h4,h5,by push_cast;omega,by push_cast;omega,by rw [yg]⟩,⟨by rw [iq.len,fS,fS,KW,KW],iq.all⟩,df⟩;rw [show (fS X Y zs).map pt=zs.map (λc=>pt (hf (X+2*c.1),hf (Y+2*c.2))) by rw [fS,MK];rfl];refine eL (f:=λc=>pt (hf (X+2*c.1),hf (Y+2*c.2))) (h:=λc=>pt (hf (X+dx+2*c.1),hf (Y+dy+2*c.2))) (λ(v:Option U) acc=>[v,some (.p (pt (hf dx,hf dy))),some (.o false acc)]) zs none [] (by simp;omega) (λc m v acc rest ha K=>?_) λv=>?_
     ·have:=hz c m;refine ⟨_,_,_,_,15,15,rfl,w6 (by omega) (by omega),w6 (by omega) (by omega),by decide,?_⟩;rw [Kg,Kg,show X+2*c.1+dx=X+dx+2*c.1 by omega,show Y+2*c.2+dy=Y+dy+2*c.2 by omega];exact ⟨ha,K (some (.p (pt (hf (X+2*c.1),hf (Y+2*c.2)))))⟩
     ·refine ⟨bA (λ_=>rfl) _,?_⟩;have eo:([]++zs.map λc=>pt (hf (X+dx+2*c.1),hf (Y+dy+2*c.2)))=(fS (X+dx) (Y+dy) zs).map pt:=by rw [MZ,fS,MK];rfl
      rw [eo];refine ⟨ln ⟨gw,gn,fS (X+dx) (Y+dy) zs,gm⟩,?_⟩;have:=KK [some (.o true [.int A7,.int B7,.int c7]),some (.p (.int M)),some (.o false ((bs++[(⟨gw,gn,fS (X+dx) (Y+dy) zs,gm⟩:bW)]).map dJ)),some (.p (.int (0+(i:Int)))),some (.p (.int r2)),some (.p (dJ ⟨gw,gn,fS (X+dx) (Y+dy) zs,gm⟩)),some (.p (.int (j:Int))),some (.p (fr (hf s))),some (.p (pt (hf dx,hf dy))),some (.p (.str gw)),some (.p (.int gn)),some (.p (.tup (zs.map λc=>pt (hf (X+2*c.1),hf (Y+2*c.2))))),some (.p (.str gm))] ⟨_,_,_,_,_,_,_,_,_,_,_,_,rfl,b7.mono (by push_cast;omega),by simp [hl],snoc _ mv⟩;rw [<-app] at this;exact this
   ·rw [decide_eq_false c,if_neg (by decide)];refine ⟨ln b,?_⟩;have:=KK [some (.o true [.int A4,.int B4,.int c4]),some (.p (.int M)),some (.o false ((bs++[b]).map dJ)),some (.p (.int (0+(i:Int)))),some (.p (.int r2)),some (.p (dJ b)),v6,v7,v8,v9,v10,v11,bo] ⟨_,bs++[b],_,_,_,_,_,_,_,_,_,_,rfl,b3.mono (by push_cast;omega),by simp [hl],snoc b lb1⟩;rw [<-app] at this;exact this
  ·rintro E ⟨ys,bs,v3,v4,v5,v6,v7,v8,v9,v10,v11,bo,rfl,bi,hl,hb⟩;have ik:bs.length=m:=by rw [hl];simp [kP]
   obtain ⟨A2,B2,c2,rfl,_⟩:=id bi;exact ⟨bA Uv _,q bs _ (by omega) (by omega) (λb mb=>(hb b mb).mono (by omega)) (bi.mono (by omega))⟩
end
end My
namespace My
open PySem L2 PyProof.Rows
section
variable {P:SS} {w:SW} {K:W.Frag} {mg:Str->Option Value} {base:Heap}
def Qp:iC:=λas Q=>∃x y:Fr,as=[.v (fr x),.v (fr y)]/\cF x/\cF y/\y.1≠0/\sz x+sz y<=7900/\Q (.v (fr (Ai x y))) []
theorem Jl {y:Fr} (z:y.1≠0):sz (low y.2 y.1)<=sz y:=nW z (bX y) (e8 y) (Hf y)
abbrev Cq (P w K mg base):=Fn P w K mg base 3 "_law_over" ["_law_one","_law_other"] (aU K Qp)
abbrev zF:TB:=top 57
theorem Rw:aL ["_law_one","_law_other"] ["_law_one","_law_other"] (aG zF):=hU
theorem Ro {f:SO} {fd:SR} (F:eM K "_law_over" "_law_over" zF f fd) (TX:Txt mg) (VL:fV P w K mg base) (VZ:j8 P w K mg base)   : bF P w K mg base e9 3 f fd ["_law_one","_law_other"] (aU K Qp):=by
 refine F.okT Rw ?len (λVS A outer s H E hr=>(aH (aQ (aC VL hr (by omega) rfl (fc (fv 0) (fc (aC VZ hr (by omega) rfl (fc (aF rfl (fv 1) aB (λ_ _=>rfl)) (fc (aF rfl (fv 1) aB (λ_ _=>rfl)) aA))) aA)))))) ?rd
 case len=>rintro as Q ⟨x,y,rfl,_⟩;rfl
 case rd=>
  rintro as Q ⟨x,y,rfl,hx,hy,hz,hs,q⟩;have:=Jl hz;exact ⟨y.2,y.1,rfl,hz,nG (e8 y) (by omega),x,low y.2 y.1,rfl,hx,fF hz,by omega,rfl,q⟩
theorem Lq {x y:Fr} (h:cF x) (z:y.1≠0):sz (Ai x y)<=sz x+sz y:=by
 have:=iD h (fF (n:=y.2) z);have:=Jl z;unfold Ai;omega
theorem Pb.np {p:Pt} (h:Pb p):NP p:=⟨h.v.x,h.v.y⟩
def DR:iC:=λas Q=>∃(a b:Pt) (f:Fr),as=[.v (pt a),.v (pt b),.v (fr f)]/\Pb a/\Pb b/\cF f/\sz f<=1000/\Q (.v (pt (dD a b f))) []
abbrev Sz (P w K mg base):=Fn P w K mg base 4 "_law_on" ["_law_a","_law_b","_law_share"] (aU K DR)
abbrev Sk:TB:=top 61
theorem N1:aL ["_law_a","_law_b","_law_share"] ["_law_a","_law_b","_law_share"] (aG Sk):=hU
theorem X2 {f:SO} {fd:SR} (F:eM K "_law_on" "_law_on" Sk f fd) (TX:Txt mg) (XJ:rY P w K mg base) (WM:jX P w K mg base) (VX:mP P w K mg base)   : bF P w K mg base e9 4 f fd ["_law_a","_law_b","_law_share"] (aU K DR):=by
 refine F.okT N1 ?len (λVS A outer s H E hr=>(aH (aQ (aC XJ hr (by omega) rfl (fc (fv 0) (fc (aC WM hr (by omega) rfl (fc (aC VX hr (by omega) rfl (fc (fv 1) (fc (fv 0) aA))) (fc (fv 2) aA))) aA)))))) ?rd
 case len=>rintro as Q ⟨p,q,f,rfl,_⟩;rfl
 case rd=>
  rintro as Q ⟨p,q,f,rfl,hp,hq,hf,hs,z⟩;have n1:=dC hq.v hp.v;exact ⟨_,_,_,_,_,_,rfl,hq.v,hp.v,by decide,_,_,_,_,rfl,n1,hf,by omega,_,_,_,_,_,_,rfl,hp.v,Gb n1 hf,by omega,rfl,z⟩
theorem uB {x y x' y':Fr} {e f:Nat} (h:Nv x y e) (k:Nv x' y' f):cF (fZ x y x' y')/\sz (fZ x y x' y')<=2*(e+f)+1:=by
 have:=h.sx;have:=h.sy;have:=k.sx;have:=k.sy;have s1:=iD h.x k.y;have s2:=iD h.y k.x;have s3:=Ft (bG h.x k.y) (bG h.y k.x);exact ⟨Mg h k,by unfold fZ;omega⟩
theorem pU {x y x' y':Fr} {e f:Nat} (h:Nv x y e) (k:Nv x' y' f):cF (vK x y x' y')/\sz (vK x y x' y')<=2*(e+f)+1:=by
 have:=h.sx;have:=h.sy;have:=k.sx;have:=k.sy;have s1:=iD h.x k.x;have s2:=iD h.y k.y;have s3:=yS (bG h.x k.x) (bG h.y k.y);exact ⟨Za h k,by unfold vK;omega⟩
theorem Jy (n:Int):eD (.int n) (.int 0)=decide (n=0):=by
 rw [NQ];simp [L2.eD]
def AM:iC:=λas Q=>∃a b c d:Pt,as=[.v (pt a),.v (pt b),.v (pt c),.v (pt d)]/\Pb a/\Pb b/\Pb c/\Pb d/\a≠b/\Q (.l ((jH a b c d).map fr)) []
theorem jM {a b:Pt} (ha:NP a) (hb:NP b) (h:a≠b):0<aW (aS (vq b) (vq a)) (aS (vq b) (vq a)):=by
 unfold aW;have s1:=FY (aS (vq b) (vq a)).1;have s2:=FY (aS (vq b) (vq a)).2
 by_cases y1:(aS (vq b) (vq a)).1=0
 ·by_cases y2:(aS (vq b) (vq a)).2=0
  ·have e1:val b.1-val a.1=0:=y1;have e2:val b.2-val a.2=0:=y2;exact absurd (Prod.ext (eN ha.x hb.x (by grind)) (eN ha.y hb.y (by grind))) h
  ·have:=uG y2;grind
 ·have:=uG y1;grind
abbrev Il (P w K mg base):=Fn P w K mg base 4 "_law_met" ["_law_a","_law_b","_law_c","_law_d"] (aU K AM)
abbrev Gy:TB:=top 56
theorem kX:aL ["_law_a","_law_b","_law_c","_law_d","_law_whole","_law_behind","_law_along","_law_other","_law_bottom","_law_ahead","_law_share","_law_back"] ["_law_a","_law_b","_law_c","_law_d"] (aG Gy):=hU
theorem Yk {f:SO} {fd:SR} (F:eM K "_law_met" "_law_met" Gy f fd) (TX:Txt mg) (VX:mP P w K mg base) (WS:pV P w K mg base) (XW:Cq P w K mg base) (WL:lY P w K mg base) (WY:zJ P w K mg base)   : bF P w K mg base e9 4 f fd ["_law_a","_law_b","_law_c","_law_d"] (aU K AM):=by
 refine F.okT kX ?len (λVS A outer s H E hr=>(aE (gY (i:=6) (j:=7) rfl kX.nd rfl rfl (by decide) rfl rfl (fc (aC VX hr (by omega) rfl (fc (fv 1) (fc (fv 0) aA))) (fc (aC VX hr (by omega) rfl (fc (fv 3) (fc (fv 2) aA))) aA)) rfl)
 (aE (gY (i:=8) (j:=9) rfl kX.nd rfl rfl (by decide) rfl rfl (fc (aC WS hr (by omega) rfl (fc (fv 6) (fc (fv 7) aA))) (fc (aC VX hr (by omega) rfl (fc (fv 2) (fc (fv 0) aA))) aA)) rfl)
 (aE (cU (i6 rfl hr (aF rfl (fv 8) aB (λ_ _=>rfl)) aB (aR _)) (aE (aX (i:=10) kX.nd rfl (LA rfl) (aC XW hr (by omega) rfl (fc (aC WS hr (by omega) rfl (fc (fv 9) (fc (fv 7) aA))) (fc (fv 8) aA))))
 (aE (aX (i:=11) kX.nd rfl (LA rfl) (aC XW hr (by omega) rfl (fc (aC WS hr (by omega) rfl (fc (fv 9) (fc (fv 6) aA))) (fc (fv 8) aA))))
 (aH (aQ (nE (nP (jY (cX Bf (aF rfl (fv 11) aB (λ_ _=>rfl)) aB (aR _)) (jS (cX Ux (aF rfl (aC WL hr (by omega) rfl (fc (fv 11) (fc (aO (fc aB (fc aB aA))) aA))) aB (λ_ _=>rfl)) aB (aR _))))) (bN (fc (fv 10) aA)) (bN aA)))))) bY)
 (aE (cU (i6 rfl hr (aF rfl (aC WS hr (by omega) rfl (fc (fv 6) (fc (fv 9) aA))) aB (λ_ _=>rfl)) aB (aR _)) (aH (aQ (bN aA))) bY)
 (aE (aX (i:=4) kX.nd rfl (LA rfl) (aC WY hr (by omega) rfl (fc (fv 6) (fc (fv 6) aA))))
 (aE (aX (i:=5) kX.nd rfl (LA rfl) (aC VX hr (by omega) rfl (fc (fv 3) (fc (fv 0) aA))))
 (aH (aQ (bN (fc (aC XW hr (by omega) rfl (fc (aC WY hr (by omega) rfl (fc (fv 6) (fc (fv 9) aA))) (fc (fv 4) aA))) (fc (aC XW hr (by omega) rfl (fc (aC WY hr (by omega) rfl (fc (fv 6) (fc (fv 5) aA))) (fc (fv 4) aA))) aA)))))))))))) ?rd
 case len=>rintro as Q ⟨a,b,c,d,rfl,_⟩;rfl
 case rd=>
  rintro as Q ⟨a,b,c,d,rfl,ha,hb,hc,hd,ne,q⟩;have n1:=dC hb.v ha.v;have n2:=dC hd.v hc.v;have n3:=dC hc.v ha.v;have n4:=dC hd.v ha.v;have k1:=uB n1 n2;have k2:=uB n3 n2;have k3:=uB n3 n1;have k5:=pU n1 n1;have k6:=pU n1 n3;have k7:=pU n1 n4;refine ⟨_,_,_,_,_,_,rfl,hb.v,ha.v,by decide,_,_,_,_,_,_,rfl,hd.v,hc.v,by decide,?_⟩;refine ⟨_,_,_,_,_,_,rfl,n1,n2,by decide,_,_,_,_,_,_,rfl,hc.v,ha.v,by decide,?_⟩;unfold jH jI lM cP at q;simp only at q;refine ⟨eZ rfl,?_⟩;show if (!(eD (.int (fZ (bO b.1 a.1) (bO b.2 a.2) (bO d.1 c.1) (bO d.2 c.2)).1) (.int 0)))=true then _ else _;rw [Jy]
  by_cases c1:(fZ (bO b.1 a.1) (bO b.2 a.2) (bO d.1 c.1) (bO d.2 c.2)).1=0
  ·rw [decide_eq_true c1,if_neg (by decide)];rw [if_neg (by rw [c1];simp)] at q;refine ⟨_,_,_,_,_,_,rfl,n1,n3,by decide,eZ rfl,?_⟩;show if (!(eD (.int (fZ (bO b.1 a.1) (bO b.2 a.2) (bO c.1 a.1) (bO c.2 a.2)).1) (.int 0)))=true then _ else _;rw [Jy]
   by_cases c2:(fZ (bO b.1 a.1) (bO b.2 a.2) (bO c.1 a.1) (bO c.2 a.2)).1=0
   ·rw [decide_eq_true c2,if_neg (by decide)];rw [if_neg (by rw [c2];simp)] at q;have z:(vK (bO b.1 a.1) (bO b.2 a.2) (bO b.1 a.1) (bO b.2 a.2)).1≠0:=λz=>by
     have m1:=cE hb.np ha.np;have:=(pC (k9 m1 m1)).mp z;rw [u0 m1 m1,cL hb.np ha.np] at this;have:=jM ha.np hb.np ne;grind
    refine ⟨_,_,_,_,_,_,rfl,n1,n1,by decide,_,_,_,_,_,_,rfl,hd.v,ha.v,by decide,?_⟩;exact ⟨_,_,_,_,_,_,rfl,n1,n3,by decide,_,_,rfl,k6.1,k5.1,z,by omega,_,_,_,_,_,_,rfl,n1,n4,by decide,_,_,rfl,k7.1,k5.1,z,by omega,rfl,q⟩
   ·rw [decide_eq_false c2,if_pos (by decide)];rw [if_pos c2] at q;exact ⟨rfl,q⟩
  ·rw [decide_eq_false c1,if_pos (by decide)];rw [if_pos c1] at q;refine ⟨_,_,_,_,_,_,rfl,n3,n2,by decide,_,_,rfl,k2.1,k1.1,c1,by omega,?_⟩;refine ⟨_,_,_,_,_,_,rfl,n3,n1,by decide,_,_,rfl,k3.1,k1.1,c1,by omega,?_⟩;have nr:=Dn k3.1 c1;have sr:=Lq k3.1 c1;generalize Ai (fZ (bO c.1 a.1) (bO c.2 a.2) (bO b.1 a.1) (bO b.2 a.2)) (fZ (bO b.1 a.1) (bO b.2 a.2) (bO d.1 c.1) (bO d.2 c.2))=r at *;show if decide (0<=r.1)=true then _ else _
   by_cases c2:0<=r.1
   ·rw [decide_eq_true c2,if_pos rfl];refine ⟨_,(1,1),rfl,nr,c9 1,by have:=qT (p:=((1,1):Fr)) (e:=2) (by decide) (by decide) (by decide);omega,?_⟩;show if decide ((bO r (1,1)).1<=0)=true then _ else _
    by_cases c3:(bO r (1,1)).1<=0
    ·rw [decide_eq_true c3,if_pos rfl];rw [if_pos ⟨c2,c3⟩] at q;exact ⟨rfl,q⟩
    ·rw [decide_eq_false c3,if_neg (by decide)];rw [if_neg (λz=>c3 z.2)] at q;exact ⟨rfl,q⟩
   ·rw [decide_eq_false c2,if_neg (by decide)];rw [if_neg (λz=>c2 z.1)] at q;exact ⟨rfl,q⟩
theorem M0 {a b c d:Pt} (ha:Pb a) (hb:Pb b) (hc:Pb c) (hd:Pb d) (ne:a≠b):∀f∈jH a b c d,sz f<=400:=by
 have n1:=dC hb.v ha.v;have n2:=dC hd.v hc.v;have n3:=dC hc.v ha.v;have n4:=dC hd.v ha.v;have k1:=uB n1 n2;have k2:=uB n3 n2;have k5:=pU n1 n1;have k6:=pU n1 n3;have k7:=pU n1 n4;intro f m;unfold jH jI lM cP at m;simp only at m;split at m
 ·rename_i z;split at m
  ·rw [LM] at m;have:=Lq k2.1 z;rw [m];omega
  ·simp at m
 ·split at m
  ·simp at m
  ·have z:(vK (bO b.1 a.1) (bO b.2 a.2) (bO b.1 a.1) (bO b.2 a.2)).1≠0:=λz=>by
    have m1:=cE hb.np ha.np;have:=(pC (k9 m1 m1)).mp z;rw [u0 m1 m1,cL hb.np ha.np] at this;have:=jM ha.np hb.np ne;grind
   rcases KR.mp m with rfl | m
   ·have:=Lq k6.1 z;omega
   ·rw [LM] at m;have:=Lq k7.1 z;rw [m];omega
theorem zC {α:Type} {f:α->L2.T} {xs:List α} {k:Nat} {x:α} (hk:k<xs.length) (h:xs[(k+1)%xs.length]? = some x):gN (xs.map f) ((k:Int)-((xs.map f).length:Int)+1)=some (f x):=by
 unfold gN;have e:Ah (xs.map f).length ((k:Int)-((xs.map f).length:Int)+1)=some ((k+1)%xs.length):=by
  unfold Ah;rw [KW]
  by_cases c:k+1<xs.length
  ·rw [if_neg (by omega),if_pos (by omega),OB c]
   congr 1
   omega
  ·have e:k+1=xs.length:=by omega
   rw [if_pos (by omega),if_pos (by omega),e,RS]
   congr 1
   omega
 rw [e];simp [h]
theorem sZ {o:List Pt}:(zr o).length=o.length:=by
 unfold zr o8;rw [RZ,LC,NV,MA];omega
theorem uT {o:List Pt} {k:Nat} (hk:k<o.length):∃p q,o[k]? = some p/\o[(k+1)%o.length]? = some q/\(zr o)[k]? = some (p,q):=by
 have hz:k<(zr o).length:=by rw [sZ];exact hk
 have hm:(k+1)%o.length<o.length:=PM _ (by omega);refine ⟨o[k],o[(k+1)%o.length],KS hk,KS hm,?_⟩;unfold zr;rw [RL];refine ⟨KS hk,?_⟩;unfold o8
 by_cases c:k+1<o.length
 ·rw [LW (by rw [NV];omega),List.getElem?_tail,KS c]
  congr 2
  exact (OB c).symm
 ·have e:k+1=o.length:=by omega
  rw [MS (by rw [NV];omega),NV,show k-(o.length-1)=0 by omega];have e0:(k+1)%o.length=0:=by rw [e,RS]
  rw [<-KS hm,e0];cases o with
  | nil=>simp at hk
  | cons p o=>rfl
theorem qM {α:Type} {xs:List α} {i:Nat} {x:α} (h:xs[i]? = some x):xs.take i++[x]=xs.take (i+1):=by
 rw [List.take_succ,h];rfl
def Qw:iC:=λas Q=>∃(b:bW) (x:Pt),as=[.v (dJ b),.v (pt x)]/\b.o.length<=100/\(∀p∈b.o,Pb p)/\Nv x.1 x.2 1000/\Q (.l ((iG b.o x).map L2.T.int)) []
abbrev o9 (P w K mg base):=Fn P w K mg base 4 "_law_signs_of" ["_law_block","_law_point"] (aU K Qw)
abbrev mE:TB:=top 55
theorem iO:aL ["_law_block","_law_point","_law_k","_law_found","_law_spots","_law_along"] ["_law_block","_law_point"] (aG mE):=hU
theorem xV {f:SO} {fd:SR} (F:eM K "_law_signs_of" "_law_signs_of" mE f fd) (TX:Txt mg) (VX:mP P w K mg base) (WS:pV P w K mg base)   : bF P w K mg base e9 4 f fd ["_law_block","_law_point"] (aU K Qw):=by
 refine F.okT iO ?len (λVS A outer s H E hr=>(aE (gY (i:=3) (j:=4) rfl iO.nd rfl rfl (by decide) rfl rfl (fc (bN aA) (fc (aF rfl (fv 0) aB (λ_ _=>rfl)) aA)) rfl)
 (aE (dY PassesOwn.never rfl (gU rfl TX.n_range (fc (fT rfl rfl TX.n_len (fc (fv 4) aA)) aA)) (aI (i:=2) iO.nd rfl (LA rfl))
  (aE (aX (i:=5) iO.nd rfl (LA rfl) (aC VX hr (by omega) rfl (fc (aF rfl (fv 4) (aZ bZ (aZ gK (fv 2) (fT rfl rfl TX.n_len (fc (fv 4) aA))) aB) (λ_ _=>rfl)) (fc (aF rfl (fv 4) (fv 2) (λ_ _=>rfl)) aA))))
 (aH (d8 (dX rfl (fv 3) (fc (aF rfl (aC WS hr (by omega) rfl (fc (fv 5) (fc (aC VX hr (by omega) rfl (fc (fv 1) (fc (aF rfl (fv 4) (fv 2) (λ_ _=>rfl)) aA))) aA))) aB (λ_ _=>rfl)) aA))))))
 (aH (aQ (fv 3)))))) ?rd
 case len=>rintro as Q ⟨b,x,rfl,_⟩;rfl
 case rd=>
  rintro as Q ⟨b,x,rfl,hl,hb,hx,q⟩;have el:(((b.o.map pt).length:Nat):Int)=(b.o.length:Int):=by rw [KW]
  refine ⟨?_,?_⟩
  ·show -(2^62)<=(((b.o.map pt).length:Nat):Int)/\(((b.o.map pt).length:Nat):Int)<2^62;rw [el];omega
  ·show oC _ (dG _ _ _ (kP 0 (((b.o.map pt).length:Nat):Int).toNat));rw [NJ,KW];refine iS (λi E=>∃v2 v5:Option U,E=[some (.p (dJ b)),some (.p (pt x)),v2,some (.o false ((((zr b.o).take i).map (Hv x)).map L2.T.int)),some (.p (.tup (b.o.map pt))),v5]) ⟨_,_,rfl⟩ ?_ ?_
   ·rintro i t rest E hi ⟨v2,v5,rfl⟩ KK;obtain ⟨ZL,rfl⟩:=pP hi;obtain ⟨p,r,h1,h2,h3⟩:=uT ZL;have hp:=hb p (KZ h1);have nh:=hb r (KZ h2);have n1:=dC nh.v hp.v;have n2:=dC hx hp.v;have e0:(0:Int)+(i:Int)=(i:Int):=by omega
    show o1 (gN (b.o.map pt) ((0:Int)+(i:Int)-((b.o.map pt).length:Int)+1)) _;rw [e0,zC ZL h2];show o1 (gN (b.o.map pt) (i:Int)) _;rw [hR h1];refine ⟨_,_,_,_,_,_,rfl,nh.v,hp.v,by decide,?_⟩;show o1 (gN (b.o.map pt) (i:Int)) _;rw [hR h1];refine ⟨_,_,_,_,_,_,rfl,hx,hp.v,by decide,_,_,_,_,_,_,rfl,n1,n2,by decide,?_,?_⟩
    ·show ((((zr b.o).take i).map (Hv x)).map L2.T.int++_).length<=1000;simp only [LC,KW,MA,ME];omega
    ·have:=KK [some (.p (dJ b)),some (.p (pt x)),some (.p (.int (i:Int))),some (.o false ((((zr b.o).take (i+1)).map (Hv x)).map L2.T.int)),some (.p (.tup (b.o.map pt))),some (.p (pt (cP r p)))] ⟨_,_,rfl⟩;rw [<-qM h3,MI,MI] at this;exact this
   ·rintro E ⟨v2,v5,rfl⟩;have e:(zr b.o).take (kP 0 b.o.length).length=zr b.o:=NC (by rw [sZ];simp [kP]);rw [e];exact ⟨bA (λ_=>rfl) _,q⟩
end
end My
namespace My
open PySem L2 PyProof.Rows
section
variable {P:SS} {w:SW} {K:W.Frag} {mg:Str->Option Value} {base:Heap}
theorem J5 (s:Fr):∀xs:List Fr,Gw (fr s) (xs.map fr)=decide (s∈xs)
 | []=>by simp [Gw]
 | x::xs=>by
  have ih:=J5 s xs;unfold Gw at ih ⊢;rw [MO,QK,ih,Sf,NQ];simp only [OL,decide_eq_true_eq,KR];constructor
  ·rintro (h | h)
   ·exact .inl h.symm
   ·exact .inr h
  ·rintro (h | h)
   ·exact .inl h.symm
   ·exact .inr h
theorem Sl {α:Type} (f:α->L2.T) (xs:List α):((xs.map f).zipIdx.map λq=>L2.T.tup [.int (q.2:Int),q.1])=xs.zipIdx.map λq=>L2.T.tup [.int (q.2:Int),f q.1]:=by
 rw [SA,MK];rfl
theorem Z4:sz ((1,1):Fr)<=2:=qT (by decide) (by decide) (by decide)
theorem CU:sz ((0,1):Fr)<=2:=qT (by decide) (by decide) (by decide)
def Lv:iC:=λas Q=>∃VP:List Fr,as=[.v (.lst (VP.map fr))]/\VP.length<=500/\(∀f∈VP,cF f/\sz f<=400)/\Q (.l ((Bp VP).map fr)) []
abbrev uQ (P w K mg base):=Fn P w K mg base 4 "_law_rising" ["_law_shares"] (aU K Lv)
abbrev pY:TB:=top 58
theorem k8:aL ["_law_shares","_law_found","_law_share","_law_at"] ["_law_shares"] (aG pY):=hU
theorem Fs {f:SO} {fd:SR} (F:eM K "_law_rising" "_law_rising" pY f fd) (TX:Txt mg) (WL:lY P w K mg base)   : bF P w K mg base e9 4 f fd ["_law_shares"] (aU K Lv):=by
 refine F.okT k8 ?len (λVS A outer s H E hr=>(aE (aX (i:=1) k8.nd rfl (LA rfl) (bN aA))
 (aE (dY PassesOwn.never rfl (d9 rfl (Et (bN (fc (aO (fc aB (fc aB aA))) (fc (aO (fc aB (fc aB aA))) aA))) (mL (N':=["_law_share"]) (t:=1) (cap:=[]) rfl (bP.of rfl) rfl (by decide) (d9 rfl (fv 0)) (λ_ _ _ _=>(aI (i:=0) (show MQ (["_law_share"]:List Str) by decide +kernel) rfl (LA rfl) (MM rfl))) (λ_ _ _ _=>(nP (jY (cX wO (aF rfl (fv 0) aB (λ_ _=>rfl)) aB (aR _)) (jS (cX fW (aF rfl (aC WL hr (by omega) rfl (fc (fv 0) (fc (aO (fc aB (fc aB aA))) aA))) aB (λ_ _=>rfl)) aB (aR _)))))) (λ_ _ _ _=>(fv 0))))) (aI (i:=2) k8.nd rfl (MM rfl))
  (aH (cU (X9 rfl hr (fv 2) (fv 1) rfl) (aE (aX (i:=3) k8.nd rfl (LA rfl) (fT rfl rfl TX.n_len (fc (mL (N':=["_law_one","_law_share"]) (t:=1) (cap:=[(2,false)]) rfl (bP.of rfl) rfl (by decide) (d9 rfl (fv 1)) (λ_ _ _ _=>(aI (i:=0) (show MQ (["_law_one","_law_share"]:List Str) by decide +kernel) rfl (LA rfl) (MM rfl))) (λ_ _ _ _=>(cX fW (aF rfl (aC WL hr (by omega) rfl (fc (fv 0) (fc (fv 1) aA))) aB (λ_ _=>rfl)) aB (aR _))) (λ_ _ _ _=>(fv 0))) aA)))
 (aH (d8 (Mm rfl (fv 1) (fc (fv 3) (fc (fv 2) aA)))))) bY)))
 (aH (aQ (fv 1)))))) ?rd
 case len=>rintro as Q ⟨VP,rfl,_⟩;rfl
 case rd=>
  rintro as Q ⟨VP,rfl,hl,hs,q⟩;refine ⟨rfl,?_⟩;show fM _ _ _ (VP.map fr) _ _;refine gZ (f:=fr) (h:=fr) oM (λ(v:Option U) acc=>[v,some (.o false acc)]) VP none [] (by simp;omega) (λs m v acc rest ha K=>?_) λv=>?_
  ·obtain ⟨h1,h2⟩:=hs s m;have kk:=K (some (.p (fr s)));unfold oM at kk;show if decide (0<s.1)=true then _ else _
   by_cases c1:0<s.1
   ·rw [decide_eq_true c1,if_pos rfl];rw [decide_eq_true c1,QM] at kk;refine ⟨_,(1,1),rfl,h1,c9 1,by have:=Z4;omega,?_⟩;show if decide ((bO s (1,1)).1<0)=true then _ else _
    by_cases c2:(bO s (1,1)).1<0
    ·rw [decide_eq_true c2,if_pos rfl];rw [decide_eq_true c2,if_pos rfl] at kk;exact ⟨ha,kk⟩
    ·rw [decide_eq_false c2,if_neg (by decide)];rw [decide_eq_false c2,if_neg (by decide)] at kk;exact kk
   ·rw [decide_eq_false c1,if_neg (by decide)];rw [decide_eq_false c1,PF,if_neg (by decide)] at kk;exact kk
  ·refine ⟨bA (λ_=>rfl) _,?_⟩;have lf:=OK oM VP;refine ⟨?_,?_⟩
   ·show ([L2.T.tup [.int 0,.int 1],.tup [.int 1,.int 1]]:List L2.T).length+([]++(VP.filter oM).map fr).length<=1000;rw [MZ,KW];simp;omega
   ·have hfs:∀f∈(0,1)::(1,1)::VP.filter oM,cF f/\sz f<=400:=λf m=>by
     rcases KR.mp m with rfl | m
     ·exact ⟨c9 0,by have:=CU;omega⟩
     ·rcases KR.mp m with rfl | m
      ·exact ⟨c9 1,by have:=Z4;omega⟩
      ·exact hs f (MH.mp m).1
    have hll:((0,1)::(1,1)::VP.filter oM).length<=502:=by simp only [LJ];omega
    show oC _ (dG _ _ _ (((0,1)::(1,1)::VP.filter oM).map fr));unfold Bp at q;generalize (((0,1)::(1,1)::VP.filter oM):List Fr)=L at q hfs hll ⊢;refine cW (f:=fr) (λs':List Fr×Option U×Option U=>[some (.p (.lst (VP.map fr))),some (.o false (s'.1.map fr)),s'.2.1,s'.2.2])
     (λL' s'=>(∀f∈L',cF f/\sz f<=400)/\(∀f∈s'.1,cF f/\sz f<=400)/\Pk s'.1/\s'.1.length+L'.length<=502/\Q (.l ((L'.foldl lL s'.1).map fr)) []) ?_ ?_ L ([],none,none) ⟨hfs,λf m=>absurd m (by simp),List.Pairwise.nil,by simp only [NF];omega,q⟩
    ·rintro s L' ⟨acc,v2,v3⟩ rest ⟨h1,h2,h3,h4,z⟩ K;obtain ⟨s1,s2⟩:=h1 s (by simp);have VY:∀f∈L',cF f/\sz f<=400:=λf m=>h1 f (by simp [m]);simp only [LJ] at h4;obtain ⟨i1,i2,i3,i4⟩:=tW (xs:=acc) s1 (λf m=>(h2 f m).1) h3;have dd:L2.qF (acc.map fr)<=50:=MG (jQ (n:=1) (λ_=>eZ rfl) acc) (by decide);rw [NH] at z;refine ⟨dd,?_⟩;show if (!(Gw (fr s) (acc.map fr)))=true then _ else _;rw [J5]
     by_cases c:s∈acc
     ·rw [decide_eq_true c,if_neg (by decide)];have e:lL acc s=acc:=by unfold lL;rw [if_pos c]
      rw [e] at z;exact K (acc,some (.p (fr s)),v3) ⟨VY,h2,h3,by simp only;omega,z⟩
     ·rw [decide_eq_false c,if_pos (by decide)];refine ⟨rfl,?_⟩;show fM _ _ _ (acc.map fr) _ _;refine gZ (f:=fr) (h:=fr) (yQ · s) (λ(v:Option U) a'=>[v,some (.p (fr s)),some (.o false a')]) acc none [] (by simp;omega) (λx m v a' au ha K'=>?_) λv=>?_
      ·obtain ⟨x1,x2⟩:=h2 x m;have kk:=K' (some (.p (fr x)));unfold yQ at kk;refine ⟨_,_,rfl,x1,s1,by omega,?_⟩;show if decide ((bO x s).1<0)=true then _ else _
       by_cases c2:(bO x s).1<0
       ·rw [decide_eq_true c2,if_pos rfl];rw [decide_eq_true c2,if_pos rfl] at kk;exact ⟨ha,kk⟩
       ·rw [decide_eq_false c2,if_neg (by decide)];rw [decide_eq_false c2,if_neg (by decide)] at kk;exact kk
      ·refine ⟨bA (λ_=>rfl) _,?_⟩;have le:=OK (yQ · s) acc;have ec:(([]++(acc.filter (yQ · s)).map fr).length:Int)=((acc.filter (yQ · s)).length:Int):=by rw [MZ,KW]
       refine (?_:0<=(([]++(acc.filter (yQ · s)).map fr).length:Int)/\(([]++(acc.filter (yQ · s)).map fr).length:Int)<=((acc.map fr).length:Int)/\(acc.map fr).length<1000/\_);refine ⟨by omega,by rw [ec,KW];omega,by rw [KW];omega,?_⟩;have ei:(acc.map fr).take (([]++(acc.filter (yQ · s)).map fr).length:Int).toNat++fr s::(acc.map fr).drop (([]++(acc.filter (yQ · s)).map fr).length:Int).toNat=(lL acc s).map fr:=by
        rw [ec,NJ];unfold lL;rw [if_neg c,MI,MO,QL,List.map_drop]
       have fin:=K (lL acc s,some (.p (fr s)),some (.p (.int (([]++(acc.filter (yQ · s)).map fr).length:Int)))) ⟨VY,λf m=>by
        rcases (i3 f).mp m with rfl | m
        ·exact ⟨s1,s2⟩
        ·exact h2 f m,i2,by simp only;omega,z⟩
       simp only at fin;rw [<-ei] at fin;exact fin
    ·rintro ⟨acc,v2,v3⟩ ⟨_,_,_,_,z⟩;exact ⟨bA (λ_=>rfl) _,z⟩
def eT (k:Int) (a b:Pt) (xs:List (bW×Nat)):List Fr:=xs.flatMap λx=>if (x.2:Int)=k then [] else Ac a b x.1.o
def cQ (bs:List bW) (k:Int) (a b:Pt):List Fr:=Bp (eT k a b bs.zipIdx)
def L0:iC:=λas Q=>∃(bs:List bW) (k:Int) (a b:Pt),as=[.v (.lst (bs.map dJ)),.v (.int k),.v (pt a),.v (pt b)]/\bs.length<=20/\(∀x∈bs,x.o.length<=6/\∀p∈x.o,Pb p)/\Pb a/\Pb b/\a≠b/\Q (.l ((cQ bs k a b).map fr)) []
theorem sX {α β:Type} {f:α->List β} {m:Nat}:∀{xs:List α},(∀x∈xs,(f x).length<=m)->(xs.flatMap f).length<=m*xs.length
 | [],_=>by simp
 | x::xs,h=>by
  have h1:=h x (by simp);have h2:=sX (xs:=xs) λy m=>h y (by simp [m]);rw [MT,LC,LJ,Nat.mul_succ];omega
theorem Es (o:List Pt):(ej o).length=o.length:=by unfold ej;simp
theorem Xd {a b:Pt} {o:List Pt} (h:o.length<=6):(Ac a b o).length<=12:=by
 have:=sX (f:=λx:Pt×Pt=>jH a b x.1 x.2) (m:=2) (xs:=ej o) λx _=>zM a b x.1 x.2;rw [Es] at this;unfold Ac;omega
theorem pQ {a b:Pt} {o:List Pt} (ha:Pb a) (hb:Pb b) (ne:a≠b) (ho:∀p∈o,Pb p):∀f∈Ac a b o,cF f/\sz f<=400:=λf m=>by
 obtain ⟨x,mx,m⟩:=ML.mp m;obtain ⟨m1,m2⟩:=Y7 mx;exact ⟨Xb ha.np hb.np (ho _ m1).np (ho _ m2).np (jM ha.np hb.np ne) f m,M0 ha hb (ho _ m1) (ho _ m2) ne f m⟩
theorem EZ (i k:Int):eD (.int i) (.int k)=decide (i=k):=by
 rw [NQ];simp [L2.eD]
abbrev Av (P w K mg base):=Fn P w K mg base 5 "_law_cuts" ["_law_some","_law_k","_law_a","_law_b"] (aU K L0)
abbrev yH:TB:=top 59
theorem kA:aL ["_law_some","_law_k","_law_a","_law_b","_law_shares","_law_other","_law_block","_law_spots","_law_j"] ["_law_some","_law_k","_law_a","_law_b"] (aG yH):=hU
theorem Vd {f:SO} {fd:SR} (F:eM K "_law_cuts" "_law_cuts" yH f fd) (TX:Txt mg) (ZX:Il P w K mg base) (YE:uQ P w K mg base)   : bF P w K mg base e9 5 f fd ["_law_some","_law_k","_law_a","_law_b"] (aU K L0):=by
 refine F.okT kA ?len (λVS A outer s H E hr=>(aE (aX (i:=4) kA.nd rfl (LA rfl) (bN aA))
 (aE (dY PassesOwn.never rfl (mK rfl rfl TX.n_enumerate (fc (fv 0) aA)) (bV (n:=2) rfl rfl (aJ (aI (i:=5) kA.nd rfl (LA rfl)) (aJ (aI (i:=6) kA.nd rfl (LA rfl)) bK)))
  (aH (cU (i6 rfl hr (fv 5) (fv 1) (aR _)) (aE (aX (i:=7) kA.nd rfl (LA rfl) (aF rfl (fv 6) aB (λ_ _=>rfl)))
 (aH (dY PassesOwn.never rfl (gU rfl TX.n_range (fc (fT rfl rfl TX.n_len (fc (fv 7) aA)) aA)) (aI (i:=8) kA.nd rfl (LA rfl))
  (aH (d8 (wC rfl (fv 4) (fc (aC ZX hr (by omega) rfl (fc (fv 2) (fc (fv 3) (fc (aF rfl (fv 7) (aZ gK (fv 8) aB) (λ_ _=>rfl)) (fc (aF rfl (fv 7) (fv 8) (λ_ _=>rfl)) aA))))) aA))))))) bY)))
 (aH (aQ (aC YE hr (by omega) rfl (fc (fv 4) aA))))))) ?rd
 case len=>rintro as Q ⟨bs,k,a,b,rfl,_⟩;rfl
 case rd=>
  rintro as Q ⟨bs,k,a,b,rfl,hl,hb,ha,hb',ne,q⟩;show dG _ _ _ ((bs.map dJ).zipIdx.map λq=>L2.T.tup [.int (q.2:Int),q.1]) _;rw [Sl];unfold cQ at q;refine cW (f:=λq:bW×Nat=>L2.T.tup [.int (q.2:Int),dJ q.1]) (λs':List Fr×Option U×Option U×Option U×Option U=>[some (.p (.lst (bs.map dJ))),some (.p (.int k)),some (.p (pt a)),some (.p (pt b)),some (.o false (s'.1.map fr)),s'.2.1,s'.2.2.1,s'.2.2.2.1,s'.2.2.2.2])
   (λxs s'=>(∀x∈xs,x.1∈bs)/\s'.1.length+12*xs.length<=500/\(∀f∈s'.1,cF f/\sz f<=400)/\Q (.l ((Bp (s'.1++eT k a b xs)).map fr)) []) ?_ ?_ bs.zipIdx ([],none,none,none,none) ⟨λx m=>KZ (LV.mp m),by simp;omega,λf m=>absurd m (by simp),q⟩
  ·rintro x xs ⟨acc,v5,v6,v7,v8⟩ rest ⟨hx,hn,hf,z⟩ K;obtain ⟨g,n⟩:=x;have hg:=hb g (hx (g,n) (by simp));have VY:∀x∈xs,x.1∈bs:=λy m=>hx y (by simp [m]);simp only [LJ] at hn;refine ⟨eZ rfl,?_⟩;show if (!(eD (.int (n:Int)) (.int k)))=true then _ else _;rw [EZ]
   by_cases c:(n:Int)=k
   ·rw [decide_eq_true c,if_neg (by decide)];have e:eT k a b ((g,n)::xs)=eT k a b xs:=by unfold eT;rw [MT,if_pos c,MZ]
    rw [e] at z;exact K (acc,some (.p (.int (n:Int))),some (.p (dJ g)),v7,v8) ⟨VY,by simp only;omega,hf,z⟩
   ·rw [decide_eq_false c,if_pos (by decide)];have e:eT k a b ((g,n)::xs)=Ac a b g.o++eT k a b xs:=by unfold eT;rw [MT,if_neg c]
    rw [e,<-LI] at z;have sl:=Xd (a:=a) (b:=b) hg.1;have so:=pQ ha hb' ne hg.2;have el:(((g.o.map pt).length:Nat):Int)=(g.o.length:Int):=by rw [KW]
    refine ⟨?_,?_⟩
    ·show -(2^62)<=(((g.o.map pt).length:Nat):Int)/\(((g.o.map pt).length:Nat):Int)<2^62;rw [el];omega
    ·show oC _ (dG _ _ _ (kP 0 (((g.o.map pt).length:Nat):Int).toNat));rw [NJ,KW];refine iS (λi E=>∃v8:Option U,E=[some (.p (.lst (bs.map dJ))),some (.p (.int k)),some (.p (pt a)),some (.p (pt b)),some (.o false ((acc++((ej g.o).take i).flatMap λx=>jH a b x.1 x.2).map fr)),some (.p (.int (n:Int))),some (.p (dJ g)),some (.p (.tup (g.o.map pt))),v8]) ⟨_,by rw [List.take_zero,List.flatMap_nil,LZ]⟩ ?_ ?_
     ·rintro i t au E hi ⟨v8,rfl⟩ KK;obtain ⟨ZL,rfl⟩:=pP hi;obtain ⟨p,hp,ap⟩:=Lg (f:=pt) ZL;have hq:g.o[i]? = some g.o[i]:=KS ZL;have h3:(ej g.o)[i]? = some (p,g.o[i]):=by
       unfold ej;rw [LK,PR ZL];show some _=some _
       congr 1
       refine Prod.ext ?_ ?_
       ·show g.o.getD _ X5=p;rw [LH,hp];rfl
       ·show g.o.getD i X5=g.o[i];rw [LH,hq];rfl
      have e0:(0:Int)+(i:Int)=(i:Int):=by omega
      show o1 (gN (g.o.map pt) ((0:Int)+(i:Int)-1)) _;rw [e0,ap];show o1 (gN (g.o.map pt) (i:Int)) _;rw [hR hq];refine ⟨a,b,p,g.o[i],rfl,ha,hb',hg.2 _ (KZ hp),hg.2 _ (NN ZL),ne,?_,?_⟩
      ·show ((acc++((ej g.o).take i).flatMap λx=>jH a b x.1 x.2).map fr++(jH a b p g.o[i]).map fr).length<=1000;have:=sX (f:=λx:Pt×Pt=>jH a b x.1 x.2) (m:=2) (xs:=(ej g.o).take i) λx _=>zM a b x.1 x.2;have:=zM a b p g.o[i];have:=hg.1;simp only [LC,KW,MA,Es] at *;omega
      ·have:=KK [some (.p (.lst (bs.map dJ))),some (.p (.int k)),some (.p (pt a)),some (.p (pt b)),some (.o false ((acc++((ej g.o).take (i+1)).flatMap λx=>jH a b x.1 x.2).map fr)),some (.p (.int (n:Int))),some (.p (dJ g)),some (.p (.tup (g.o.map pt))),some (.p (.int (i:Int)))] ⟨_,rfl⟩;rw [<-qM h3,QZ,<-LI,MI,show ([(p,g.o[i])].flatMap λx=>jH a b x.1 x.2)=jH a b p g.o[i] by simp] at this;exact this
     ·rintro E ⟨v8,rfl⟩;have e:(ej g.o).take (kP 0 g.o.length).length=ej g.o:=NC (by rw [Es];simp [kP]);rw [e];exact K (acc++Ac a b g.o,some (.p (.int (n:Int))),some (.p (dJ g)),some (.p (.tup (g.o.map pt))),v8) ⟨VY,by simp only [LC];omega,λf m=>(LP.mp m).elim (hf f) (so f),z⟩
  ·rintro ⟨acc,v5,v6,v7,v8⟩ ⟨_,hn,hf,z⟩;rw [show eT k a b []=[] from rfl,LZ] at z;simp only [NF] at hn;exact ⟨acc,rfl,by omega,hf,bA (λ_=>rfl) _,z⟩
end
end My
namespace My
open PySem L2 PyProof.Rows
section
variable {P:SS} {w:SW} {K:W.Frag} {mg:Str->Option Value} {base:Heap}
def Wg:Nat->L2.T
 | 0=>.non
 | 1=>.str "over"
 | 2=>.str "beside"
 | _=>.str "beyond"
def x8 (m:Str) (k:Nat):Str:=⟨#[m.cps.toList.getD k 0]⟩
def AF (m:Str) (r:Nat×Nat):L2.T:=.tup [Wg r.1,.str (if r.1<=1 then "" else x8 m r.2)]
theorem L8 {m:Str} {k:Nat} (h:k<m.cps.size):gN m.cps.toList (k:Int)=some (m.cps.toList.getD k 0):=by
 refine r8 ?_;have h':k<m.cps.toList.length:=by simpa using h
 rw [LH,KS h'];rfl
def Ss:iC:=λas Q=>∃(g:bW) (a b x:Pt),as=[.v (dJ g),.v (pt a),.v (pt b),.v (pt x)]/\0<g.o.length/\g.o.length<=100/\g.m.cps.size=g.o.length/\(∀p∈g.o,Pb p)/\Pb a/\Pb b/\Nv x.1 x.2 1000/\Q (.v (AF g.m (cM g.o a b x))) []
abbrev wG (P w K mg base):=Fn P w K mg base 5 "_law_there" ["_law_block","_law_a","_law_b","_law_point"] (aU K Ss)
abbrev t8:TB:=top 60
theorem iR:aL ["_law_block","_law_a","_law_b","_law_point","_law_sides","_law_spots","_law_at","_law_side","_law_other","_law_along","_law_ahead"] ["_law_block","_law_a","_law_b","_law_point"] (aG t8):=hU
theorem Mh {f:SO} {fd:SR} (F:eM K "_law_there" "_law_there" t8 f fd) (TX:Txt mg) (XS:o9 P w K mg base) (VX:mP P w K mg base) (WY:zJ P w K mg base)   : bF P w K mg base e9 5 f fd ["_law_block","_law_a","_law_b","_law_point"] (aU K Ss):=by
 refine F.okT iR ?len (λVS A outer s H E hr=>(aE (gY (i:=4) (j:=5) rfl iR.nd rfl rfl (by decide) rfl rfl (fc (aC XS hr (by omega) rfl (fc (fv 0) (fc (fv 3) aA))) (fc (aF rfl (fv 0) aB (λ_ _=>rfl)) aA)) rfl)
 (aE (cU (i6 rfl hr (sM rfl rfl rfl TX.n_min (fc (fv 4) aA)) aB (aR _)) (aH (aQ (aO (fc (nE (cX fW (sM rfl rfl rfl TX.n_min (fc (fv 4) aA)) aB (aR _)) l9 cD) (fc cD aA))))) bY)
 (aE (dY PassesOwn.never rfl (mK rfl rfl TX.n_enumerate (fc (fv 4) aA)) (bV (n:=2) rfl rfl (aJ (aI (i:=6) iR.nd rfl (LA rfl)) (aJ (aI (i:=7) iR.nd rfl (LA rfl)) bK)))
  (aE (aX (i:=8) iR.nd rfl (LA rfl) (aF rfl (fv 5) (aZ bZ (aZ gK (fv 6) (fT rfl rfl TX.n_len (fc (fv 5) aA))) aB) (λ_ _=>rfl)))
 (aE (gY (i:=9) (j:=10) rfl iR.nd rfl rfl (by decide) rfl rfl (fc (aC VX hr (by omega) rfl (fc (fv 8) (fc (aF rfl (fv 5) (fv 6) (λ_ _=>rfl)) aA))) (fc (aC VX hr (by omega) rfl (fc (fv 3) (fc (aF rfl (fv 5) (fv 6) (λ_ _=>rfl)) aA))) aA)) rfl)
 (aH (cU (nP (jY (qX rfl hr (fv 7) aB (aR _)) (jY (cX Bf (aF rfl (aC WY hr (by omega) rfl (fc (fv 9) (fc (fv 10) aA))) aB (λ_ _=>rfl)) aB (aR _)) (jS (cX Bf (aF rfl (aC WY hr (by omega) rfl (fc (fv 9) (fc (aC VX hr (by omega) rfl (fc (fv 8) (fc (fv 3) aA))) aA))) aB (λ_ _=>rfl)) aB (aR _)))))) (aH (aQ (aO (fc (nE (cX wO (aF rfl (aC WY hr (by omega) rfl (fc (fv 9) (fc (aC VX hr (by omega) rfl (fc (fv 2) (fc (fv 1) aA))) aA))) aB (λ_ _=>rfl)) aB (aR _)) cD cD) (fc (Gi rfl (aF rfl (fv 0) aB (λ_ _=>rfl)) (fv 6) (λ_ _=>rfl)) aA))))) bY)))))
 (aH (aQ (aO (fc l9 (fc cD aA))))))))) ?rd
 case len=>rintro as Q ⟨g,a,b,x,rfl,_⟩;rfl
 case rd=>
  rintro as Q ⟨g,a,b,x,rfl,h0,hl,hm,hg,ha,hb,hx,q⟩;refine ⟨g,x,rfl,hl,hg,hx,?_⟩;have zl:=sZ (o:=g.o);have ln:0<(iG g.o x).length:=by unfold iG;rw [KW];omega
  unfold cM at q;refine ⟨_,rfl,ln,eZ rfl,?_⟩;show if (!(eD (.int (iM (iG g.o x))) (.int 0)))=true then _ else _;rw [Jy]
  by_cases c:iM (iG g.o x)=0
  ·rw [decide_eq_true c,if_neg (by decide)];rw [if_neg (by rw [c];simp)] at q;show oC _ (dG _ _ _ (((iG g.o x).map L2.T.int).zipIdx.map λq=>L2.T.tup [.int (q.2:Int),q.1]));have ez:(((iG g.o x).map L2.T.int).zipIdx.map λq=>L2.T.tup [.int (q.2:Int),q.1])=((zr g.o).zipIdx).map λy:(Pt×Pt)×Nat=>L2.T.tup [.int (y.2:Int),.int (Hv x y.1)]:=by
    rw [Sl];unfold iG;rw [SA,MK];rfl
   rw [ez];have hgo:sR a b x (zr g.o) 0=sR a b x ((zr g.o).zipIdx.map Prod.fst) 0:=by simp
   refine cW (f:=λy:(Pt×Pt)×Nat=>L2.T.tup [.int (y.2:Int),.int (Hv x y.1)]) (λs:Option U×Option U×Option U×Option U×Option U=>[some (.p (dJ g)),some (.p (pt a)),some (.p (pt b)),some (.p (pt x)),some (.p (.lst ((iG g.o x).map L2.T.int))),some (.p (.tup (g.o.map pt))),s.1,s.2.1,s.2.2.1,s.2.2.2.1,s.2.2.2.2])
    (λys _=>∃i,ys=((zr g.o).zipIdx).drop i/\Q (.v (AF g.m (sR a b x (ys.map Prod.fst) i))) []) ?_ ?_ _ (none,none,none,none,none) ⟨0,rfl,by rw [hgo] at q;exact q⟩
   ·rintro y ys ⟨s1,s2,s3,s4,s5⟩ rest ⟨i,ei,z⟩ KK;have hy:((zr g.o).zipIdx)[i]? = some y:=by
     have:=congrArg (·[0]?) ei
     simpa using this.symm
    have ei':ys=((zr g.o).zipIdx).drop (i+1):=by
     have:=congrArg List.tail ei
     simpa using this
    obtain ⟨e,k⟩:=y;have hk:k=i/\(zr g.o)[i]? = some e:=by
     rw [NA] at hy;cases q':(zr g.o)[i]? with
     | none=>rw [q'] at hy;simp at hy
     | some w=>rw [q'] at hy;simp at hy;obtain ⟨h1,h2⟩:=hy;exact ⟨h2.symm,by rw [h1]⟩
    obtain ⟨rfl,he⟩:=hk;have ZL:k<g.o.length:=by rw [<-zl];exact (KU.mp he).1
    obtain ⟨p,r,h1,h2,h3⟩:=uT ZL;rw [h3] at he;cases he;have hp:=hg p (KZ h1);have nh:=hg r (KZ h2);have n1:=dC nh.v hp.v;have n2:=dC hx hp.v;have n3:=dC nh.v hx;have n4:=dC hb.v ha.v;have next:=λz' s=>KK s ⟨k+1,ei',z'⟩;have z':Q (.v (AF g.m (if D0 x (p,r)=true then (if 0<(lM (cP r p) (cP b a)).1 then 2 else 3,k) else sR a b x (ys.map Prod.fst) (k+1)))) []:=z;unfold D0 at z';show o1 (gN (g.o.map pt) ((k:Int)-((g.o.map pt).length:Int)+1)) _;rw [zC ZL h2];show o1 (gN (g.o.map pt) (k:Int)) _;rw [hR h1];refine ⟨_,_,_,_,_,_,rfl,nh.v,hp.v,by decide,?_⟩;show o1 (gN (g.o.map pt) (k:Int)) _;rw [hR h1];refine ⟨_,_,_,_,_,_,rfl,hx,hp.v,by decide,eZ rfl,?_⟩;show if (eD (.int (Hv x (p,r))) (.int 0))=true then _ else _;rw [Jy]
    by_cases c1:Hv x (p,r)=0
    ·rw [decide_eq_true c1,if_pos rfl];rw [decide_eq_true c1,QM] at z';refine ⟨_,_,_,_,_,_,rfl,n1,n2,by decide,?_⟩;show if decide (0<=(lM (cP r p) (cP x p)).1)=true then _ else _
     by_cases c2:0<=(lM (cP r p) (cP x p)).1
     ·rw [decide_eq_true c2,if_pos rfl];rw [decide_eq_true c2,QM] at z';refine ⟨_,_,_,_,_,_,rfl,nh.v,hx,by decide,_,_,_,_,_,_,rfl,n1,n3,by decide,?_⟩;show if decide (0<=(lM (cP r p) (cP r x)).1)=true then _ else _
      by_cases c3:0<=(lM (cP r p) (cP r x)).1
      ·rw [decide_eq_true c3,if_pos rfl];rw [decide_eq_true c3,if_pos rfl] at z';refine ⟨_,_,_,_,_,_,rfl,hb.v,ha.v,by decide,_,_,_,_,_,_,rfl,n1,n4,by decide,?_⟩;show if decide (0<(lM (cP r p) (cP b a)).1)=true then _ else _;have qd:=L8 (m:=g.m) (k:=k) (by omega);have lb:g.m.length<=big:=by
        show g.m.cps.size<=big;rw [hm];exact MG hl (by decide)
       by_cases c4:0<(lM (cP r p) (cP b a)).1
       ·rw [decide_eq_true c4,if_pos rfl];rw [if_pos c4] at z';refine ⟨lb,?_⟩;show o1 (gN g.m.cps.toList (k:Int)) _;rw [qd];exact ⟨rfl,z'⟩
       ·rw [decide_eq_false c4,if_neg (by decide)];rw [if_neg c4] at z';refine ⟨lb,?_⟩;show o1 (gN g.m.cps.toList (k:Int)) _;rw [qd];exact ⟨rfl,z'⟩
      ·rw [decide_eq_false c3,if_neg (by decide)];rw [decide_eq_false c3,if_neg (by decide)] at z';exact next z' (_,_,_,_,_)
     ·rw [decide_eq_false c2,if_neg (by decide)];rw [decide_eq_false c2,PF,if_neg (by decide)] at z';exact next z' (_,_,_,_,_)
    ·rw [decide_eq_false c1,if_neg (by decide)];rw [decide_eq_false c1,PF,if_neg (by decide)] at z';exact next z' (_,_,_,_,_)
   ·rintro s ⟨i,_,z⟩;exact ⟨rfl,z⟩
  ·rw [decide_eq_false c,if_pos (by decide)];rw [if_pos c] at q;refine ⟨_,rfl,ln,?_⟩;show if decide (iM (iG g.o x)<0)=true then _ else _
   by_cases d:iM (iG g.o x)<0
   ·rw [decide_eq_true d,if_pos rfl];rw [if_pos d] at q;exact ⟨rfl,q⟩
   ·rw [decide_eq_false d,if_neg (by decide)];rw [if_neg d] at q;exact ⟨rfl,q⟩
end
end My
namespace My
open PySem L2 PyProof.Rows
section
variable {P:SS} {w:SW} {K:W.Frag} {mg:Str->Option Value} {base:Heap}
theorem IZ:∀(fs:List (Rat×Rat)) (B:Rat),0<B->(∀f∈fs,0<f.1\/(f.1=0/\f.2=0))->∃d,0<d/\d<=B/\∀f∈fs,0<=f.1+f.2*d/\0<=f.1-f.2*d
 | [],B,hB,_=>⟨B,hB,by grind,λf m=>absurd m (by simp)⟩
 | f::fs,B,hB,h=>by
  obtain ⟨d,d0,dB,hd⟩:=IZ fs B hB λg m=>h g (by simp [m]);have small:∀{u:Rat×Rat} {d':Rat},0<=u.1+u.2*d/\0<=u.1-u.2*d->0<d'->d'<=d->0<=u.1+u.2*d'/\0<=u.1-u.2*d':=λ{u d'} k p0 pd=>by
   rcases Rat.le_total (a:=0) (b:=u.2) with c | c
   ·have m1:=Rat.mul_nonneg c (show 0<=d-d' by grind);have m2:=Rat.mul_nonneg c (Rat.le_of_lt p0);exact ⟨by grind,by grind⟩
   ·have m1:=Rat.mul_nonneg (show 0<=-u.2 by grind) (show 0<=d-d' by grind);have m2:=Rat.mul_nonneg (show 0<=-u.2 by grind) (Rat.le_of_lt p0);exact ⟨by grind,by grind⟩
  rcases h f (by simp) with p | ⟨z1,z2⟩
  ·-- so small that it fits
   have ex:∃d',0<d'/\d'<=d/\0<=f.1+f.2*d'/\0<=f.1-f.2*d':=by
    have key:∀s:Rat,0<=s->∃d',0<d'/\d'<=d/\s*d'<=f.1:=λs hs=>by
     by_cases c:s*d<=f.1
     ·exact ⟨d,d0,by grind,c⟩
     ·have s0:0<s:=by
       by_cases z:s=0
       ·rw [z] at c;grind
       ·grind
      have i0:=Rat.inv_pos.mpr s0;have e1:s*(f.1*s⁻¹)=f.1:=by grind
      refine ⟨f.1*s⁻¹,Rat.mul_pos p i0,?_,by rw [e1];grind⟩;refine Rat.not_lt.mp λq=>?_;have:=Rat.mul_pos s0 (show 0<f.1*s⁻¹-d by grind);grind
    rcases Rat.le_total (a:=0) (b:=f.2) with c | c
    ·obtain ⟨d',a1,a2,a3⟩:=key f.2 c;have:=Rat.mul_nonneg c (Rat.le_of_lt a1);exact ⟨d',a1,a2,by grind,by grind⟩
    ·obtain ⟨d',a1,a2,a3⟩:=key (-f.2) (by grind);have:=Rat.mul_nonneg (show 0<=-f.2 by grind) (Rat.le_of_lt a1);exact ⟨d',a1,a2,by grind,by grind⟩
   obtain ⟨d',a1,a2,a3⟩:=ex;refine ⟨d',a1,by grind,λg m=>?_⟩;rcases KR.mp m with rfl | m
   ·exact a3
   ·exact small (hd g m) a1 a2
  ·refine ⟨d,d0,dB,λg m=>?_⟩;rcases KR.mp m with rfl | m
   ·rw [z1,z2];exact ⟨by grind,by grind⟩
   ·exact hd g m
def iK (x:Fr×Fr):Fr:=jV (lK x.1 x.2) (1,2)
theorem EG {x:Fr×Fr} (h1:cF x.1) (h2:cF x.2):cF (iK x)/\val (iK x)=(val x.1+val x.2)*(1/2):=by
 have n12:cF (1,2):=⟨by decide,by decide⟩;have e:val (1,2)=1/2:=by show ((1:Int):Rat)/((2:Int):Rat)=1/2;push_cast;rfl
 refine ⟨bG (gL h1 h2) n12,?_⟩;unfold iK;rw [iJ (gL h1 h2) n12,mU h1 h2,e]
theorem Ck {a b:Pt} {f:Fr} (ha:NP a) (hb:NP b) (hf:cF f):NP (dD a b f)/\vq (dD a b f)=gR (vq a) (vq b) (val f):=by
 refine ⟨⟨gL ha.x (bG (cJ hb.x ha.x) hf),gL ha.y (bG (cJ hb.y ha.y) hf)⟩,?_⟩;unfold vq dD gR;simp only;rw [mU ha.x (bG (cJ hb.x ha.x) hf),iJ (cJ hb.x ha.x) hf,d5 hb.x ha.x,mU ha.y (bG (cJ hb.y ha.y) hf),iJ (cJ hb.y ha.y) hf,d5 hb.y ha.y]
theorem Hk {es:List Eg} {p q:Q2} {r:Fr×Fr×Nat} (o:FX es p q r) {t:Rat} (h1:val r.1<t) (h2:t<val r.2.1) {e:Eg} (me:e∈es) (z:fE e (gR p q t)=0):fE e p=0/\fE e q=0:=by
 have l0:=o.l0;have l1:=o.h1;have a1:=(o.s _ l0 (by grind)).mpr ⟨by grind,Rat.le_of_lt o.lt⟩ e me;have a2:=(o.s _ (by grind) l1).mpr ⟨Rat.le_of_lt o.lt,by grind⟩ e me;rw [kE] at a1 a2 z;generalize fE e p=x at *;generalize fE e q=y at *;have d1:0<=-((y-x)*(t-val r.1)):=by grind
 have d2:0<=(y-x)*(val r.2.1-t):=by grind
 have e1:0<=-(y-x):=bL (k:=t-val r.1) (by grind) (by grind);have e2:0<=y-x:=bL (k:=val r.2.1-t) (by grind) d2;have:y=x:=by grind
 subst this;exact ⟨by grind,by grind⟩
abbrev Z2:=Int×Int
abbrev Ez:=Z2×Z2
def Gp (u v:Z2):Int:=u.1*v.2-u.2*v.1
def Ui (u v:Z2):Int:=u.1*v.1+u.2*v.2
def Vx (p q:Z2):Z2:=(p.1-q.1,p.2-q.2)
def vz (e:Ez):Z2:=Vx e.2 e.1
def fz (e:Ez) (x:Z2):Int:=Gp (vz e) (Vx x e.1)
def N0 (cs:List Z2):List Ez:=cs.zip (o8 cs)
def FR (es:List Ez):Bool:=
 (es.all λe=>es.all λg=>decide (0<=fz e g.1))&&((es.all λe=>es.any λg=>decide (0<fz e g.1))&&((es.all λe=>decide (0<Ui (vz e) (vz e))) &&
 ((es.all λe=>es.any λg=>decide (g.1=e.2)&&(decide (0<Gp (vz e) (vz g))||(decide (Gp (vz e) (vz g)=0)&&(decide (0<Ui (vz e) (vz g))&&es.any λh=>decide (h.1=g.2)&&decide (0<Gp (vz g) (vz h)))))) &&
 (es.all λe=>es.any λg=>decide (g.2=e.1)&&(decide (0<Gp (vz g) (vz e))||(decide (Gp (vz g) (vz e)=0)&&(decide (0<Ui (vz g) (vz e))&&es.any λh=>decide (h.2=g.1)&&decide (0<Gp (vz h) (vz g)))))))))
theorem Xs:((MV 5).all λw=>(MV 6).all λx=>(MV 6).all λy=>FR (N0 (e7 ((x:Int)+1) ((y:Int)+1) w)))=true:=by decide +kernel
theorem C4 {x y:Int} {w:Nat} (hx:1<=x) (nv:x<=6) (hy:1<=y) (qq:y<=6) (hw:w<5):FR (N0 (e7 x y w))=true:=by
 have h:=Xs;rw [MW] at h;have h1:=h w (MU.mpr hw);rw [MW] at h1;have h2:=h1 (x-1).toNat (MU.mpr (by omega));rw [MW] at h2;have h3:=h2 (y-1).toNat (MU.mpr (by omega));rw [show (((x-1).toNat:Nat):Int)+1=x by omega,show (((y-1).toNat:Nat):Int)+1=y by omega] at h3;exact h3
def pq (X Y:Int) (c:Z2):Q2:=(((X:Rat)+2*(c.1:Rat))*(1/2),((Y:Rat)+2*(c.2:Rat))*(1/2))
def oD (X Y:Int) (e:Ez):Eg:=(pq X Y e.1,pq X Y e.2)
theorem Qq (X Y:Int) (c:Z2):vq (hf (X+2*c.1),hf (Y+2*c.2))=pq X Y c:=by
 unfold vq pq;rw [t5,t5]
 push_cast
 rfl
theorem Iz (X Y:Int) (cs:List Z2):jG (fS X Y cs)=(N0 cs).map (oD X Y):=by
 unfold jG zr N0 fS;rw [Bb,List.zip_map,MK];refine RA λe _=>?_;show (vq _,vq _)=oD X Y e;unfold oD;rw [<-Qq,<-Qq];rfl
theorem nA (X Y:Int) (e:Ez):aV (oD X Y e)=(((vz e).1:Rat),((vz e).2:Rat)):=by
 unfold aV oD aS pq vz Vx
 push_cast
 exact Prod.ext (by simp only;grind) (by simp only;grind)
theorem AW {X Y:Int} {es:List Ez} (h:FR es=true):Cx (es.map (oD X Y)):=by
 have cc:∀e g:Ez,bQ (aV (oD X Y e)) (aV (oD X Y g))=((Gp (vz e) (vz g):Int):Rat):=λe g=>by
  rw [nA,nA];unfold bQ Gp;push_cast;rfl
 have dd:∀e g:Ez,aW (aV (oD X Y e)) (aV (oD X Y g))=((Ui (vz e) (vz g):Int):Rat):=λe g=>by
  rw [nA,nA];unfold aW Ui;push_cast;rfl
 have ff:∀e g:Ez,fE (oD X Y e) (oD X Y g).1=((fz e g.1:Int):Rat):=λe g=>by
  unfold fE fz bQ Gp;rw [nA];unfold aS oD pq Vx
  push_cast
  grind
 have le:∀{i:Int},0<=i->(0:Rat)<=(i:Rat):=λh=>by exact_mod_cast h
 have lt:∀{i:Int},0<i->(0:Rat)<(i:Rat):=λh=>by exact_mod_cast h
 unfold FR at h;simp only [LX] at h;obtain ⟨h1,h2,h3,h4,h5⟩:=h;rw [MW] at h1 h2 h3 h4 h5;refine ⟨λe0 dk g0 mg0=>?_,λe0 dk=>?_,λe0 dk=>?_,λe0 dk=>?_,λe0 dk=>?_⟩
 ·obtain ⟨e,me,rfl⟩:=KY.mp dk;obtain ⟨g,mg,rfl⟩:=KY.mp mg0;rw [ff];have:=h1 e me;rw [MW] at this;exact le (by simpa using this g mg)
 ·obtain ⟨e,me,rfl⟩:=KY.mp dk;have:=h2 e me;rw [NU] at this;obtain ⟨g,mg,k⟩:=this;exact ⟨_,KY.mpr ⟨g,mg,rfl⟩,by rw [ff];exact lt (by simpa using k)⟩
 ·obtain ⟨e,me,rfl⟩:=KY.mp dk;rw [dd];exact lt (by simpa using h3 e me)
 ·obtain ⟨e,me,rfl⟩:=KY.mp dk;have:=h4 e me;rw [NU] at this;obtain ⟨g,mg,k⟩:=this;simp only [LX,OL,decide_eq_true_eq] at k;obtain ⟨k1,k2⟩:=k;refine ⟨_,KY.mpr ⟨g,mg,rfl⟩,by unfold oD;rw [k1],?_⟩;rcases k2 with k2 | ⟨k2,k3,k4⟩
  ·exact .inl (by rw [cc];exact lt k2)
  ·rw [NU] at k4;obtain ⟨f,mf,k5⟩:=k4;simp only [LX,decide_eq_true_eq] at k5;refine .inr ⟨by rw [cc,k2];rfl,by rw [dd];exact lt k3,_,KY.mpr ⟨f,mf,rfl⟩,by unfold oD;rw [k5.1],by rw [cc];exact lt k5.2⟩
 ·obtain ⟨e,me,rfl⟩:=KY.mp dk;have:=h5 e me;rw [NU] at this;obtain ⟨g,mg,k⟩:=this;simp only [LX,OL,decide_eq_true_eq] at k;obtain ⟨k1,k2⟩:=k;refine ⟨_,KY.mpr ⟨g,mg,rfl⟩,by unfold oD;rw [k1],?_⟩;rcases k2 with k2 | ⟨k2,k3,k4⟩
  ·exact .inl (by rw [cc];exact lt k2)
  ·rw [NU] at k4;obtain ⟨f,mf,k5⟩:=k4;simp only [LX,decide_eq_true_eq] at k5;refine .inr ⟨by rw [cc,k2];rfl,by rw [dd];exact lt k3,_,KY.mpr ⟨f,mf,rfl⟩,by unfold oD;rw [k5.1],by rw [cc];exact lt k5.2⟩
theorem LB.pb {b:bW} (h:LB 400 b):∀p∈b.o,Pb p:=λp m=>by
 obtain ⟨w,x,y,X,Y,h1,h2,h3,h4,h5,h6,h7,h8⟩:=h.ex;rw [h8] at m;obtain ⟨c,mc,rfl⟩:=KY.mp m;have:=Rz h2 h3 h4 h5 w c mc;exact ⟨(w6 (by omega) (by omega)).up (by decide)⟩
theorem LB.len {M:Int} {b:bW} (h:LB M b):3<=b.o.length/\b.o.length<=6:=by
 obtain ⟨w,x,y,X,Y,h1,h2,h3,h4,h5,h6,h7,h8⟩:=h.ex;rw [h8,fS,KW];exact xS x y w
theorem LB.gb {b:bW} (h:LB 400 b):GB b.o:=by
 refine ⟨λp m=>(h.pb p m).np.spt,?_,λz=>by have:=h.len;rw [z] at this;simp at this⟩;obtain ⟨w,x,y,X,Y,h1,h2,h3,h4,h5,h6,h7,h8⟩:=h.ex;rw [h8,Iz];exact AW (C4 h2 h3 h4 h5 h1)
theorem LB.ok {b:bW} (h:LB 400 b):Oj b:=by
 refine ⟨by have:=h.len;omega,by have:=h.len;omega,h.pb,λl m=>?_⟩;rw [xJ] at m;obtain ⟨x,mx,rfl⟩:=KY.mp m;obtain ⟨m1,m2⟩:=dA mx;exact oJ (h.gb.sp _ m1) (h.gb.sp _ m2) (h.gb.cx.ne _ (KY.mpr ⟨x,mx,rfl⟩))
theorem Tt {p q:Pt} (hp:Pb p) (hq:Pb q) (ne:p≠q):vM p q:=⟨hp,hq,ne,oJ hp.np.spt hq.np.spt (jM hp.np hq.np ne)⟩
end
end My
namespace My
open PySem L2 PyProof.Rows
section
variable {P:SS} {w:SW} {K:W.Frag} {mg:Str->Option Value} {base:Heap}
theorem rK {bs:List bW} {k j:Nat} {g:bW} {a b:Pt} {s:Fr} (hj:bs[j]? = some g) (YV:j≠k) (m:s∈Ac a b g.o):s∈eT (k:Int) a b bs.zipIdx:=
 ML.mpr ⟨(g,j),LV.mpr hj,by rw [if_neg (by simp only;omega)];exact m⟩
theorem jP {bs:List bW} (hb:∀g∈bs,LB 400 g) {k:Int} {a b:Pt} (ha:Pb a) (hb':Pb b) (ne:a≠b):∀f∈eT k a b bs.zipIdx,cF f/\sz f<=400:=λf m=>by
 obtain ⟨x,mx,m⟩:=ML.mp m;split at m
 ·simp at m
 ·exact pQ ha hb' ne (hb x.1 (KZ (LV.mp mx))).pb f m
theorem Cu {bs:List bW} (hb:∀g∈bs,LB 400 g) {k j:Nat} {g:bW} (hj:bs[j]? = some g) (YV:j≠k) {a b:Pt} (ha:Pb a) (hb':Pb b) (ne:a≠b) {e:Eg} (me:e∈jG g.o) {t:Rat} (t0:0<t) (t1:t<1) (z:fE e (gR (vq a) (vq b) t)=0) (nz:¬(fE e (vq a)=0/\fE e (vq b)=0)) (ib:Af (jG g.o) (gR (vq a) (vq b) t)):∃c∈cQ bs k a b,val c=t:=by
 have lg:=hb g (KZ hj);obtain ⟨f,mf,og,r,r0,hr⟩:=lg.gb.cx.on me z ib;obtain ⟨x,mx,rfl⟩:=KY.mp mf;obtain ⟨m1,m2⟩:=dA mx;have nz':fE (vq x.1,vq x.2) (vq a)≠fE (vq x.1,vq x.2) (vq b):=λq=>by
  have oz:=og.z;rw [kE] at oz;have z1:fE (vq x.1,vq x.2) (vq a)=0:=by grind
  have z2:fE (vq x.1,vq x.2) (vq b)=0:=by grind
  rw [hr] at z1 z2;have rn:r≠0:=by grind
  exact nz ⟨(Rat.mul_eq_zero.mp z1).resolve_left rn,(Rat.mul_eq_zero.mp z2).resolve_left rn⟩
 obtain ⟨s,ms,vs⟩:=Y1 ha.np hb'.np (lg.pb _ m1).np (lg.pb _ m2).np og (lg.gb.cx.ne _ mf) nz';have zj:=rK (k:=k) hj YV (ML.mpr ⟨x,D7 mx,ms⟩:s∈Ac a b g.o);exact ⟨s,(xP λf m=>(jP hb ha hb' ne f m).1).m s zj (by rw [vs];exact t0) (by rw [vs];exact t1),vs⟩
theorem iB {a b x:Pt} (ha:NP a) (hb:NP b) (hx:NP x) (ne:a≠b) (z:fE (vq a,vq b) (vq x)=0):vq x=gR (vq a) (vq b) (val (bC a b x)):=by
 have d0:=jM ha hb ne;have c:bQ (aS (vq b) (vq a)) (aS (vq x) (vq a))=0:=z;obtain ⟨p1,p2⟩:=par d0 c;have n0:aW (aS (vq b) (vq a)) (aS (vq b) (vq a))≠0:=by grind
 generalize hs:aW (aS (vq b) (vq a)) (aS (vq x) (vq a))/aW (aS (vq b) (vq a)) (aS (vq b) (vq a))=s;have e1:val x.1-val a.1=s*(val b.1-val a.1):=by
  have:(val x.1-val a.1)*aW (aS (vq b) (vq a)) (aS (vq b) (vq a))=aW (aS (vq b) (vq a)) (aS (vq x) (vq a))*(val b.1-val a.1):=p1;grind
 have e2:val x.2-val a.2=s*(val b.2-val a.2):=by
  have:(val x.2-val a.2)*aW (aS (vq b) (vq a)) (aS (vq b) (vq a))=aW (aS (vq b) (vq a)) (aS (vq x) (vq a))*(val b.2-val a.2):=p2;grind
 have ev:val (bC a b x)=s:=by
  unfold bC
  by_cases q:a.1=b.1
  ·rw [if_pos q];have q2:a.2≠b.2:=λw=>ne (Prod.ext q w);have y0:=qL hb.y ha.y q2;have n2:=cJ hb.y ha.y;rw [Ea (cJ hx.y ha.y) n2 y0,d5 hx.y ha.y,d5 hb.y ha.y,e2];have:val b.2-val a.2≠0:=λw=>q2 (eN ha.y hb.y (by grind));grind
  ·rw [if_neg q];have x0:=qL hb.x ha.x q;have n2:=cJ hb.x ha.x;rw [Ea (cJ hx.x ha.x) n2 x0,d5 hx.x ha.x,d5 hb.x ha.x,e1];have:val b.1-val a.1≠0:=λw=>q (eN ha.x hb.x (by grind));grind
 rw [ev];unfold vq gR;exact Prod.ext (by simp only;grind) (by simp only;grind)
theorem N2 {p q:Q2} (h:0<aW (aS q p) (aS q p)) {s t:Rat} (e:gR p q s=gR p q t):s=t:=by
 have e1:p.1+(q.1-p.1)*s=p.1+(q.1-p.1)*t:=congrArg Prod.fst e;have e2:p.2+(q.2-p.2)*s=p.2+(q.2-p.2)*t:=congrArg Prod.snd e;have k1:(q.1-p.1)*(s-t)=0:=by grind
 have k2:(q.2-p.2)*(s-t)=0:=by grind
 rcases Rat.mul_eq_zero.mp k1 with z1 | z1
 ·rcases Rat.mul_eq_zero.mp k2 with z2 | z2
  ·unfold aW aS at h;rw [z1,z2] at h;grind
  ·grind
 ·grind
theorem uL {bs:List bW} (hb:∀g∈bs,LB 400 g) {k j:Nat} {g:bW} (hj:bs[j]? = some g) (YV:j≠k) {a b:Pt} (ha:Pb a) (hb':Pb b) (ne:a≠b) {x:Pt×Pt} (mx:x∈zr g.o) (z1:fE (vq a,vq b) (vq x.1)=0) (z2:fE (vq a,vq b) (vq x.2)=0) {y:Pt} (hy:y=x.1\/y=x.2) (t0:0<val (bC a b y)) (t1:val (bC a b y)<1):∃c∈cQ bs k a b,val c=val (bC a b y):=by
 have lg:=hb g (KZ hj);obtain ⟨m1,m2⟩:=dA mx;have p1:=lg.pb _ m1;have p2:=lg.pb _ m2;have n1:=cE hb'.np ha.np;have n2:=cE p2.np p1.np;have n3:=cE p1.np ha.np;have n4:=cE p2.np ha.np;have d0:=jM ha.np hb'.np ne;have c1:¬(jI (cP b a) (cP x.2 x.1)).1≠0:=λz=>z ((pC (hJ n1 n2)).mpr (by
  rw [vU n1 n2,cL hb'.np ha.np,cL p2.np p1.np];have:bQ (aS (vq b) (vq a)) (aS (vq x.2) (vq x.1))=fE (vq a,vq b) (vq x.2)-fE (vq a,vq b) (vq x.1):=by unfold fE bQ aV aS;grind
  rw [this,z1,z2];grind))
 have c2:¬(jI (cP b a) (cP x.1 a)).1≠0:=λz=>z ((pC (hJ n1 n3)).mpr (by
  rw [vU n1 n3,cL hb'.np ha.np,cL p1.np ha.np];exact z1))
 have dz:(lM (cP b a) (cP b a)).1≠0:=λz=>by
  have:=(pC (k9 n1 n1)).mp z;rw [u0 n1 n1,cL hb'.np ha.np] at this;grind
 have em:jH a b x.1 x.2=[Ai (lM (cP b a) (cP x.1 a)) (lM (cP b a) (cP b a)),Ai (lM (cP b a) (cP x.2 a)) (lM (cP b a) (cP b a))]:=by
  unfold jH;rw [if_neg c1,if_neg c2]
 have share:∀y:Pt,NP y->fE (vq a,vq b) (vq y)=0->val (Ai (lM (cP b a) (cP y a)) (lM (cP b a) (cP b a)))=val (bC a b y):=λy hy z=>by
  have ny:=cE hy ha.np;have vo:=X8 (k9 n1 ny) (k9 n1 n1) dz;rw [u0 n1 ny,u0 n1 n1,cL hb'.np ha.np,cL hy ha.np,iB ha.np hb'.np hy ne z] at vo;have:aW (aS (vq b) (vq a)) (aS (gR (vq a) (vq b) (val (bC a b y))) (vq a))=val (bC a b y)*aW (aS (vq b) (vq a)) (aS (vq b) (vq a)):=by unfold aW aS gR;grind
  rw [this] at vo;have:(val (Ai (lM (cP b a) (cP y a)) (lM (cP b a) (cP b a)))-val (bC a b y))*aW (aS (vq b) (vq a)) (aS (vq b) (vq a))=0:=by grind
  have:=(Rat.mul_eq_zero.mp this).resolve_right (by grind);grind
 have fin:∀s∈jH a b x.1 x.2,val s=val (bC a b y)->∃c∈cQ bs k a b,val c=val (bC a b y):=λs ms vs=>by
  have zj:=rK (k:=k) hj YV (ML.mpr ⟨x,D7 mx,ms⟩:s∈Ac a b g.o);exact ⟨s,(xP λf m=>(jP hb ha hb' ne f m).1).m s zj (by rw [vs];exact t0) (by rw [vs];exact t1),vs⟩
 rcases hy with rfl | rfl
 ·exact fin _ (by rw [em];simp) (share _ p1.np z1)
 ·exact fin _ (by rw [em];simp) (share _ p2.np z2)
structure Oe (bs:List bW) (k:Nat) (a b:Pt):Prop where
 hb:∀g∈bs,LB 400 g
 ha:Pb a
 hb':Pb b
 ne:a≠b
theorem Oe.d {bs:List bW} {k:Nat} {a b:Pt} (h:Oe bs k a b):0<aW (aS (vq b) (vq a)) (aS (vq b) (vq a)):=jM h.ha.np h.hb'.np h.ne
theorem Oe.ro {bs:List bW} {k:Nat} {a b:Pt} (h:Oe bs k a b):Qy (eT (k:Int) a b bs.zipIdx) (cQ bs k a b):=xP λf m=>(jP h.hb h.ha h.hb' h.ne f m).1
theorem Oe.ov_cut {bs:List bW} {k:Nat} {a b:Pt} (h:Oe bs k a b) {j:Nat} {g:bW} (hj:bs[j]? = some g) (YV:j≠k) {r:Fr×Fr×Nat} (o:FX (jG g.o) (vq a) (vq b) r):(∃c∈cQ bs k a b,val c=val r.1)/\∃c∈cQ bs k a b,val c=val r.2.1:=by
 have l0:=o.l0;have l1:=o.h1;have lt:=o.lt;constructor
 ·rcases o.lo with e | ⟨e,f,mf,z1,z2,z3⟩
  ·exact ⟨(0,1),h.ro.z,by rw [e]⟩
  ·exact Cu h.hb hj YV h.ha h.hb' h.ne mf e (by grind) z3 (λw=>by grind) ((o.s _ l0 (by grind)).mpr ⟨by grind,Rat.le_of_lt lt⟩)
 ·rcases o.hi with e | ⟨e,f,mf,z1,z2,z3⟩
  ·exact ⟨(1,1),h.ro.o,by rw [e]⟩
  ·exact Cu h.hb hj YV h.ha h.hb' h.ne mf (by grind) e z3 (λw=>by grind) ((o.s _ (by grind) l1).mpr ⟨Rat.le_of_lt lt,by grind⟩)
theorem Oe.mid {bs:List bW} {k:Nat} {a b:Pt} (h:Oe bs k a b) {j:Nat} {g:bW} (hj:bs[j]? = some g) (YV:j≠k) {m:Rat} (m0:0<m) (m1:m<1) (nc:∀c∈cQ bs k a b,val c≠m) (ib:Af (jG g.o) (gR (vq a) (vq b) m)):∃r,a7 (bD g) (eR a b)=some r/\FX (jG g.o) (vq a) (vq b) r/\val r.1<m/\m<val r.2.1:=by
 have gb:=(h.hb g (KZ hj)).gb;have fs:∀f∈(jG g.o).map (λe=>(fE e (gR (vq a) (vq b) m),fE e (vq b)-fE e (vq a))),0<f.1\/(f.1=0/\f.2=0):=λf mf=>by
  obtain ⟨e,me,rfl⟩:=KY.mp mf;have:=ib e me
  by_cases z:fE e (gR (vq a) (vq b) m)=0
  ·by_cases w:fE e (vq a)=0/\fE e (vq b)=0
   ·exact .inr ⟨z,by simp only;grind⟩
   ·obtain ⟨c',mc',vc'⟩:=Cu h.hb hj YV h.ha h.hb' h.ne me m0 m1 z w ib;exact absurd vc' (nc c' mc')
  ·exact .inl (by simp only;grind)
 obtain ⟨ε,e0,eB,he⟩:=IZ _ (if m<=1-m then m else 1-m) (by split<;>grind) fs;have e1:ε<=m/\ε<=1-m:=by
  by_cases c:m<=1-m
  ·rw [if_pos c] at eB;exact ⟨eB,by grind⟩
  ·rw [if_neg c] at eB;exact ⟨by grind,eB⟩
 have i1:Af (jG g.o) (gR (vq a) (vq b) (m-ε)):=λe me=>by
  have:=(he _ (KY.mpr ⟨e,me,rfl⟩)).2;simp only at this;rw [kE] at this ⊢;grind
 have i2:Af (jG g.o) (gR (vq a) (vq b) (m+ε)):=λe me=>by
  have:=(he _ (KY.mpr ⟨e,me,rfl⟩)).1;simp only at this;rw [kE] at this ⊢;grind
 cases q:a7 (bD g) (eR a b) with
 | none=>exact (Nb gb h.ha.np.spt h.hb'.np.spt q (t1:=m-ε) (t2:=m+ε) (by grind) (by grind) (by grind) i1 i2).elim
 | some r=>
  have o:=mO gb h.ha.np.spt h.hb'.np.spt h.d q;have s1:=(o.s (m-ε) (by grind) (by grind)).mp i1;have s2:=(o.s (m+ε) (by grind) (by grind)).mp i2;exact ⟨r,rfl,o,by grind,by grind⟩
theorem Oe.word {bs:List bW} {k:Nat} {a b:Pt} (h:Oe bs k a b) {j:Nat} {g:bW} (hj:bs[j]? = some g) (YV:j≠k) {f:Fr} (hf:cF f) (m0:0<val f) (m1:val f<1) (nc:∀c∈cQ bs k a b,val c≠val f) :
  ((cM g.o a b (dD a b f)).1=1\/(cM g.o a b (dD a b f)).1=3↔∃r,a7 (bD g) (eR a b)=some r/\r.2.2≠1/\val r.1<val f/\val f<val r.2.1):=by
 have lg:=h.hb g (KZ hj);obtain ⟨n1,n2⟩:=Ck h.ha.np h.hb'.np hf;have t1:=Cs (a:=a) (b:=b) lg.gb (λp mp=>(lg.pb p mp).np) h.ha.np h.hb'.np n1;constructor
 ·rintro (c | c)
  ·have al:=t1.one.mp c;rw [n2] at al;obtain ⟨r,er,o,u1,u2⟩:=h.mid hj YV m0 m1 nc λe me=>Rat.le_of_lt (al e me);refine ⟨r,er,?_,u1,u2⟩;rcases o.h with ⟨z,_⟩ | ⟨⟨e,me,f1,f2⟩,_,_⟩
   ·omega
   ·have:=al e me;rw [kE,f1,f2] at this;grind
  ·obtain ⟨i2,g2,zk,og2,d2⟩:=t1.three c;rw [n2] at i2 og2;obtain ⟨r,er,o,u1,u2⟩:=h.mid hj YV m0 m1 nc i2;obtain ⟨y1,y2⟩:=Hk o u1 u2 zk og2.z;refine ⟨r,er,?_,u1,u2⟩;rcases o.h with ⟨_,no⟩ | ⟨_,w,or⟩
   ·exact absurd ⟨y1,y2⟩ (no _ zk)
   ·exact λz=>d2 ((or _ zk y1 y2).mp z)
 ·rintro ⟨r,er,h1,u1,u2⟩;have o:=mO lg.gb h.ha.np.spt h.hb'.np.spt h.d er;have l0:=o.l0;have l1:=o.h1;have ib:=(o.s (val f) (by grind) (by grind)).mpr ⟨Rat.le_of_lt u1,Rat.le_of_lt u2⟩;rcases o.h with ⟨z,no⟩ | ⟨⟨e,me,f1,f2⟩,_,or⟩
  ·refine .inl (t1.one.mpr λe me=>?_);rw [n2];have ge:=ib e me
   by_cases zz:fE e (gR (vq a) (vq b) (val f))=0
   ·exact absurd (Hk o u1 u2 me zz) (no e me)
   ·grind
  ·have ex:∃e∈jG g.o,fE e (vq (dD a b f))=0:=⟨e,me,by rw [n2,kE,f1,f2];grind⟩;rcases t1.some (by rw [n2];exact ib) ex with c | c
   ·obtain ⟨_,q,mq,oq,dq⟩:=t1.two c;have gz:=oq.z;rw [n2] at gz;obtain ⟨g1,g2⟩:=Hk o u1 u2 mq gz;exact absurd ((or q mq g1 g2).mpr dq) h1
   ·exact .inr c
end
end My
namespace My
open PySem L2 PyProof.Rows
section
variable {P:SS} {w:SW} {K:W.Frag} {mg:Str->Option Value} {base:Heap}
def GF (es:List Ez):Bool:=es.zipIdx.all λx=>es.zipIdx.all λy=>decide (x.2=y.2)||(!decide (Gp (vz x.1) (vz y.1)=0)||(!decide (fz x.1 y.1.1=0)||(decide (0<=Ui (vz x.1) (Vx y.1.1 x.1.2))||decide (0<=Ui (vz x.1) (Vx x.1.1 y.1.2)))))
theorem Xk:((MV 5).all λw=>(MV 6).all λx=>(MV 6).all λy=>GF (N0 (e7 ((x:Int)+1) ((y:Int)+1) w)))=true:=by decide +kernel
theorem Xp {x y:Int} {w:Nat} (hx:1<=x) (nv:x<=6) (hy:1<=y) (qq:y<=6) (hw:w<5):GF (N0 (e7 x y w))=true:=by
 have h:=Xk;rw [MW] at h;have h1:=h w (MU.mpr hw);rw [MW] at h1;have h2:=h1 (x-1).toNat (MU.mpr (by omega));rw [MW] at h2;have h3:=h2 (y-1).toNat (MU.mpr (by omega));rw [show (((x-1).toNat:Nat):Int)+1=x by omega,show (((y-1).toNat:Nat):Int)+1=y by omega] at h3;exact h3
def DJ (es:List Eg):Prop:=∀(i j:Nat) (x y:Eg),es[i]? = some x->es[j]? = some y->i≠j->bQ (aV x) (aV y)=0->fE x y.1=0->0<=aW (aV x) (aS y.1 x.2)\/0<=aW (aV x) (aS x.1 y.2)
theorem LB.dj {b:bW} (h:LB 400 b):DJ (jG b.o):=by
 obtain ⟨w,u,v,X,Y,h1,h2,h3,h4,h5,h6,h7,h8⟩:=h.ex;rw [h8,Iz];have od:=Xp h2 h3 h4 h5 h1;generalize N0 (e7 u v w)=es at od;intro i j x y hi hj ij c z;rw [LK] at hi hj;cases qi:es[i]? with
 | none=>rw [qi] at hi;cases hi
 | some e=>
  cases qj:es[j]? with
  | none=>rw [qj] at hj;cases hj
  | some g=>
   rw [qi] at hi;rw [qj] at hj;cases hi;cases hj;unfold GF at od;rw [MW] at od;have o1:=od (e,i) (LV.mpr qi);rw [MW] at o1;have o2:=o1 (g,j) (LV.mpr qj);simp only [OL,OO,decide_eq_true_eq,decide_eq_false_iff_not] at o2;have cc:bQ (aV (oD X Y e)) (aV (oD X Y g))=((Gp (vz e) (vz g):Int):Rat):=by rw [nA,nA];unfold bQ Gp;push_cast;rfl
   have ff:fE (oD X Y e) (oD X Y g).1=((fz e g.1:Int):Rat):=by
    unfold fE fz bQ Gp;rw [nA];unfold aS oD pq Vx
    push_cast
    grind
   have d1:aW (aV (oD X Y e)) (aS (oD X Y g).1 (oD X Y e).2)=((Ui (vz e) (Vx g.1 e.2):Int):Rat):=by
    rw [nA];unfold aW Ui aS oD pq Vx;push_cast;grind
   have d2:aW (aV (oD X Y e)) (aS (oD X Y e).1 (oD X Y g).2)=((Ui (vz e) (Vx e.1 g.2):Int):Rat):=by
    rw [nA];unfold aW Ui aS oD pq Vx;push_cast;grind
   rw [cc] at c;rw [ff] at z;have c':Gp (vz e) (vz g)=0:=by exact_mod_cast c
   have z':fz e g.1=0:=by exact_mod_cast z
   rw [d1,d2];rcases o2 with o | o | o | o | o
   ·exact absurd o ij
   ·exact absurd c' o
   ·exact absurd z' o
   ·exact .inl (by exact_mod_cast o)
   ·exact .inr (by exact_mod_cast o)
theorem rZ {c d p q:Q2} (h:0<aW (aS d c) (aS d c)) (z1:fE (c,d) p=0) (z2:fE (c,d) q=0):fE (p,q) c=0/\fE (p,q) d=0/\bQ (aS q p) (aS d c)=0:=by
 have c0:bQ (aS d c) (aS q p)=0:=by
  have:bQ (aS d c) (aS q p)=fE (c,d) q-fE (c,d) p:=by unfold fE bQ aV aS;grind
  rw [this,z1,z2];grind
 have k1:=sL (w:=aS c p) h c0;have k2:=sL (w:=aS d p) h c0;have n0:aW (aS d c) (aS d c)≠0:=by grind
 have e1:bQ (aS c p) (aS d c)=fE (c,d) p:=by unfold fE bQ aV aS;grind
 have e2:bQ (aS d p) (aS d c)=fE (c,d) p:=by unfold fE bQ aV aS;grind
 rw [e1,z1] at k1;rw [e2,z1] at k2;have f1:fE (p,q) c = - bQ (aS c p) (aS q p):=by unfold fE bQ aV aS;grind
 have f2:fE (p,q) d = - bQ (aS d p) (aS q p):=by unfold fE bQ aV aS;grind
 have y1:bQ (aS c p) (aS q p)=0:=by
  have:bQ (aS c p) (aS q p)*aW (aS d c) (aS d c)=0:=by grind
  exact (Rat.mul_eq_zero.mp this).resolve_right n0
 have y2:bQ (aS d p) (aS q p)=0:=by
  have:bQ (aS d p) (aS q p)*aW (aS d c) (aS d c)=0:=by grind
  exact (Rat.mul_eq_zero.mp this).resolve_right n0
 refine ⟨by rw [f1,y1];grind,by rw [f2,y2];grind,?_⟩;unfold bQ at c0 ⊢;grind
theorem sW {c d p q:Pt} (hc:Pb c) (hd:Pb d) (hp:Pb p) (hq:Pb q) (n1:c≠d) (n2:p≠q):cO (fA c d)=cO (fA p q)↔fE (vq c,vq d) (vq p)=0/\fE (vq c,vq d) (vq q)=0/\0<aW (aV (vq c,vq d)) (aS (vq q) (vq p)):=by
 have d1:=jM hc.np hd.np n1;have d2:=jM hp.np hq.np n2;have g1:=oJ hc.np.spt hd.np.spt d1;have g2:=oJ hp.np.spt hq.np.spt d2;constructor
 ·intro e;obtain ⟨k,k0,a1,a2⟩:=Cj hc.np.spt hd.np.spt hp.np.spt hq.np.spt g1;obtain ⟨k',k0',b1,b2⟩:=Cj hp.np.spt hq.np.spt hp.np.spt hq.np.spt g2;rw [e,b1] at a1;rw [e,b2] at a2;have y1:fE (vq p,vq q) (vq p)=0:=by unfold fE bQ aV aS;grind
  have y2:fE (vq p,vq q) (vq q)=0:=by unfold fE bQ aV aS;grind
  rw [y1] at a1;rw [y2] at a2;have z1:fE (vq c,vq d) (vq p)=0:=by
   have:k*fE (vq c,vq d) (vq p)=0:=by grind
   exact (Rat.mul_eq_zero.mp this).resolve_left (by grind)
  have z2:fE (vq c,vq d) (vq q)=0:=by
   have:k*fE (vq c,vq d) (vq q)=0:=by grind
   exact (Rat.mul_eq_zero.mp this).resolve_left (by grind)
  exact ⟨z1,z2,(yN hc.np.spt hd.np.spt hp.np.spt hq.np.spt g1 g2 d1 z1 z2).mp e⟩
 ·rintro ⟨z1,z2,z3⟩;exact (yN hc.np.spt hd.np.spt hp.np.spt hq.np.spt g1 g2 d1 z1 z2).mpr z3
theorem Cg {o:List Pt} {a b x:Pt} (hb:GB o) (no:∀p∈o,NP p) (ha:NP a) (hb':NP b) (hx:NP x) (ib:Af (jG o) (vq x)) (ez:∃e∈jG o,fE e (vq x)=0):∃(k:Nat) (e:Pt×Pt),(zr o)[k]? = some e/\AH (vq e.1,vq e.2) (vq x)/\(cM o a b x).2=k/\((cM o a b x).1=2↔0<aW (aV (vq e.1,vq e.2)) (aS (vq b) (vq a)))/\((cM o a b x).1=2\/(cM o a b x).1=3):=by
 have sv:∀e∈zr o,_:=λe m=>M7 hx (no _ (dA m).1) (no _ (dA m).2);have mi:iM (iG o x)∈iG o x:=Br (by unfold iG;simpa using Uy hb.ne);have le:∀e∈zr o,iM (iG o x)<=Hv x e:=λe m=>mT (KY.mpr ⟨e,m,rfl⟩);obtain ⟨e0,m0,q0⟩:=KY.mp mi;obtain ⟨e1,m1,z1⟩:=ez;obtain ⟨y,my,rfl⟩:=KY.mp m1;have c:¬iM (iG o x)≠0:=λc=>by
  have l1:=le y my;have l2:=(sv y my).2.2.mpr z1;have l3:¬iM (iG o x)<0:=λd=>by
   have:=(sv e0 m0).1.mp (by omega);have:=ib _ (KY.mpr ⟨e0,m0,rfl⟩);grind
  omega
 obtain ⟨g,mg,og,_⟩:=hb.cx.on m1 z1 ib;obtain ⟨u,mu,rfl⟩:=KY.mp mg;have ou:=(Zk hx (no _ (dA mu).1) (no _ (dA mu).2)).mpr og;obtain ⟨k,e,h1,h2,h3,_,h5⟩:=qS (a:=a) (b:=b) (zr o) 0 ⟨u,mu,ou⟩;have n1:=no _ (dA h2).1;have n2:=no _ (dA h2).2;have oe:=(Zk hx n1 n2).mp h3;have dv:0<(lM (cP e.2 e.1) (cP b a)).1↔0<aW (aV (vq e.1,vq e.2)) (aS (vq b) (vq a)):=by
  rw [<-uP (k9 (cE n2 n1) (cE hb' ha)),u0 (cE n2 n1) (cE hb' ha),cL n2 n1,cL hb' ha];rfl
 unfold cM;rw [if_neg c,h5,RQ];refine ⟨k,e,h1,oe,rfl,?_,?_⟩
 ·rw [<-dv]
  by_cases d:0<(lM (cP e.2 e.1) (cP b a)).1
  ·rw [if_pos d];exact ⟨λ_=>d,λ_=>rfl⟩
  ·rw [if_neg d];exact ⟨λz=>absurd z (by show (3:Nat)≠2;decide),λz=>absurd z d⟩
 ·by_cases d:0<(lM (cP e.2 e.1) (cP b a)).1
  ·rw [if_pos d];exact .inl rfl
  ·rw [if_neg d];exact .inr rfl
theorem lC {u v y:Q2} (h:0<aW u u) (c:bQ u v=0) (k:0<aW u v):(0<=aW v y↔0<=aW u y)/\(0<aW v y↔0<aW u y):=by
 have e:=yG (w:=y) h c;have s1:aW y v=aW v y:=by unfold aW;grind
 have s2:aW y u=aW u y:=by unfold aW;grind
 rw [s1,s2] at e;have e':aW v y*aW u u=aW u y*aW u v:=by rw [e];grind
 have a1:=xX (a:=aW v y) h;have a2:=xX (a:=aW u y) k;have a3:=tE (a:=aW v y) h;have a4:=tE (a:=aW u y) k;rw [e'] at a1 a3;exact ⟨a1.symm.trans a2,a3.symm.trans a4⟩
theorem Ii {p q:Q2} (s t:Rat):aW (aS q p) (aS (gR p q t) (gR p q s))=(t-s)*aW (aS q p) (aS q p):=by unfold aW aS gR;grind
end
end My
namespace My
open PySem L2 PyProof.Rows
section
variable {P:SS} {w:SW} {K:W.Frag} {mg:Str->Option Value} {base:Heap}
structure FW (bs:List bW) (k at':Nat) (a b:Pt):Prop where
 c:Oe bs k a b
 ex:∃g,bs[k]? = some g/\(zr g.o)[at']? = some (a,b)
def Dr (bs:List bW) (marks:Str) (k:Nat) (a b:Pt) (f:Fr):Prop:=∃(j:Nat) (g:bW),j<k/\bs[j]? = some g/\(cM g.o a b (dD a b f)).1=2/\uZ marks (rG g.m (cM g.o a b (dD a b f)).2)=true
def O0 (bs:List bW) (marks:Str) (k at':Nat) (x:Pt×Pt):Prop:=∃(j i:Nat) (g:bW),(j<k\/(j=k/\i<at'))/\bs[j]? = some g/\(zr g.o)[i]? = some x/\uZ marks (rG g.m i)=true
def qB (bs:List bW) (marks:Str) (k at':Nat) (a b:Pt) (t:Rat):Prop:=∃x,O0 bs marks k at' x/\cO (fA x.1 x.2)=cO (fA a b)/\val (bC a b x.1)<t/\t<val (bC a b x.2)
def Qx (bs:List bW) (marks:Str) (k:Nat) (a b:Pt) (t:Rat):Prop:=∃(x:Pt×Pt) (j i:Nat) (g:bW),j<k/\bs[j]? = some g/\(zr g.o)[i]? = some x/\uZ marks (rG g.m i)=true/\cO (fA x.1 x.2)=cO (fA a b)/\val (bC a b x.1)<t/\t<val (bC a b x.2)
theorem Ia {o:List Pt} {i:Nat} {x:Pt×Pt} (h:(zr o)[i]? = some x):(jG o)[i]? = some (vq x.1,vq x.2):=by unfold jG;rw [LK,h];rfl
theorem LB.ed {g:bW} (h:LB 400 g) {x:Pt×Pt} (mx:x∈zr g.o):Pb x.1/\Pb x.2/\x.1≠x.2:=by
 obtain ⟨m1,m2⟩:=dA mx;refine ⟨h.pb _ m1,h.pb _ m2,λe=>?_⟩;have:=h.gb.cx.ne _ (KY.mpr ⟨x,mx,rfl⟩);rw [e] at this;unfold aW aV aS at this;grind
theorem tM {bs:List bW} {marks:Str} {k at':Nat} {a b:Pt} (h:FW bs k at' a b) {f:Fr} (hf:cF f) (m0:0<val f) (m1:val f<1) (nc:∀c∈cQ bs k a b,val c≠val f):qB bs marks k at' a b (val f)->Dr bs marks k a b f:=by
 have C:=h.c;have hd:=C.d;obtain ⟨wj,uu⟩:=Ck C.ha.np C.hb'.np hf;rintro ⟨x,⟨j,i,g,hji,hj,hi,hm⟩,hl,p1,p2⟩;have lg:=C.hb g (KZ hj);have mx:=KZ hi;obtain ⟨q1,q2,qn⟩:=lg.ed mx;obtain ⟨z1,z2,z3⟩:=(sW q1 q2 C.ha C.hb' qn C.ne).mp hl;have xd:=jM q1.np q2.np qn;obtain ⟨y1,y2,y3⟩:=rZ xd z1 z2;have s1:=iB C.ha.np C.hb'.np q1.np C.ne y1;have s2:=iB C.ha.np C.hb'.np q2.np C.ne y2;have ud:0<aW (aS (vq b) (vq a)) (aV (vq x.1,vq x.2)):=by
  have:aW (aS (vq b) (vq a)) (aV (vq x.1,vq x.2))=aW (aV (vq x.1,vq x.2)) (aS (vq b) (vq a)):=by unfold aW;grind
  rw [this];exact z3
 rcases hji with YV | ⟨rfl,hia⟩
 ·-- of an earlier block
  have on1:0<aW (aV (vq x.1,vq x.2)) (aS (gR (vq a) (vq b) (val f)) (vq x.1)):=by
   refine (lC hd y3 ud).2.mpr ?_;rw [s1,Ii];exact Rat.mul_pos (by grind) hd
  have on2:0<aW (aV (vq x.1,vq x.2)) (aS (vq x.2) (gR (vq a) (vq b) (val f))):=by
   refine (lC hd y3 ud).2.mpr ?_;rw [s2,Ii];exact Rat.mul_pos (by grind) hd
  have zf:fE (vq x.1,vq x.2) (gR (vq a) (vq b) (val f))=0:=by rw [kE,z1,z2];grind
  have me:(vq x.1,vq x.2)∈jG g.o:=KY.mpr ⟨x,mx,rfl⟩;have ib:Af (jG g.o) (gR (vq a) (vq b) (val f)):=λe he=>by
   have c1:=lg.gb.cx.inn e he _ me;obtain ⟨n,hn,en,_⟩:=lg.gb.cx.nx _ me;have c2:=lg.gb.cx.inn e he n hn;rw [en] at c2;simp only at c1 c2;rw [s1] at c1;rw [s2] at c2;rw [kE] at c1 c2 ⊢;generalize fE e (vq a)=A at *;generalize fE e (vq b)-A=B at *
   -- between the two
   have k1:=Rat.mul_nonneg c1 (show 0<=val (bC a b x.2)-val f by grind);have k2:=Rat.mul_nonneg c2 (show 0<=val f-val (bC a b x.1) by grind);have k3:0<=(A+B*val f)*(val (bC a b x.2)-val (bC a b x.1)):=by grind
   exact bL (by grind) k3
  obtain ⟨i',e,he,oe,zm,h2,h23⟩:=Cg (a:=a) (b:=b) lg.gb (λp mp=>(lg.pb p mp).np) C.ha.np C.hb'.np wj (by rw [uu];exact ib) ⟨_,me,by rw [uu];exact zf⟩;rw [uu] at oe;have me':(vq e.1,vq e.2)∈jG g.o:=KY.mpr ⟨e,KZ he,rfl⟩;obtain ⟨w1,w2⟩:fE (vq e.1,vq e.2) (vq a)=0/\fE (vq e.1,vq e.2) (vq b)=0:=by
   by_cases w:fE (vq e.1,vq e.2) (vq a)=0/\fE (vq e.1,vq e.2) (vq b)=0
   ·exact w
   ·obtain ⟨c,mc,vc⟩:=Cu C.hb hj (show j≠k by omega) C.ha C.hb' C.ne me' m0 m1 oe.z w ib;exact absurd vc (nc c mc)
  have de:=lg.gb.cx.orient me me' z1 z2 w1 w2 hd z3;have ii:i'=i:=by
   by_cases ii:i'=i
   ·exact ii
   ·exfalso;obtain ⟨r1,r2,rn⟩:=lg.ed (KZ he);have ed:=jM r1.np r2.np rn;obtain ⟨t1,t2,t3⟩:=rZ ed w1 w2;have ue:0<aW (aS (vq b) (vq a)) (aV (vq e.1,vq e.2)):=by
     have:aW (aS (vq b) (vq a)) (aV (vq e.1,vq e.2))=aW (aV (vq e.1,vq e.2)) (aS (vq b) (vq a)):=by unfold aW;grind
     rw [this];exact de
    have fxe:fE (vq x.1,vq x.2) (vq e.1)=0:=by
     have s3:=iB C.ha.np C.hb'.np r1.np C.ne t1;rw [s3,kE,z1,z2];grind
    have cxe:bQ (aV (vq x.1,vq x.2)) (aV (vq e.1,vq e.2))=0:=by
     have s3:=iB C.ha.np C.hb'.np r1.np C.ne t1;have s4:=iB C.ha.np C.hb'.np r2.np C.ne t2;have zp:fE (vq x.1,vq x.2) (vq e.2)=0:=by rw [s4,kE,z1,z2];grind
     have:bQ (aV (vq x.1,vq x.2)) (aV (vq e.1,vq e.2))=fE (vq x.1,vq x.2) (vq e.2)-fE (vq x.1,vq x.2) (vq e.1):=by unfold fE bQ aV aS;grind
     rw [this,fxe,zp];grind
    have oa:=(lC hd t3 ue).1.mp oe.a;have ob:=(lC hd t3 ue).1.mp oe.b;replace on1:=(lC hd y3 ud).2.mp on1;replace on2:=(lC hd y3 ud).2.mp on2;rcases lg.dj i i' _ _ (Ia hi) (Ia he) (λz=>ii z.symm) cxe fxe with d | d
    ·have d':=(lC hd y3 ud).1.mp d;have:aW (aS (vq b) (vq a)) (aS (gR (vq a) (vq b) (val f)) (vq e.1))+aW (aS (vq b) (vq a)) (aS (vq e.1) (vq x.2)) = - aW (aS (vq b) (vq a)) (aS (vq x.2) (gR (vq a) (vq b) (val f))):=by unfold aW aS;grind
     simp only at d' oa;grind
    ·have d':=(lC hd y3 ud).1.mp d;have:aW (aS (vq b) (vq a)) (aS (vq x.1) (vq e.2))+aW (aS (vq b) (vq a)) (aS (vq e.2) (gR (vq a) (vq b) (val f))) = - aW (aS (vq b) (vq a)) (aS (gR (vq a) (vq b) (val f)) (vq x.1)):=by unfold aW aS;grind
     simp only at d' ob;grind
  exact ⟨j,g,YV,hj,h2.mpr de,by rw [zm,ii];exact hm⟩
 ·-- of the block itself: not within
  exfalso;obtain ⟨g',YY,cy⟩:=h.ex;rw [hj] at YY;cases YY;have fab:fE (vq a,vq b) (vq x.1)=0:=y1;have cab:bQ (aV (vq a,vq b)) (aV (vq x.1,vq x.2))=0:=y3;rcases lg.dj at' i _ _ (Ia cy) (Ia hi) (by omega) cab fab with d | d
  ·have d':0<=aW (aS (vq b) (vq a)) (aS (vq x.1) (vq b)):=d;rw [s1] at d';have:aW (aS (vq b) (vq a)) (aS (gR (vq a) (vq b) (val (bC a b x.1))) (vq b))=(val (bC a b x.1)-1)*aW (aS (vq b) (vq a)) (aS (vq b) (vq a)):=by unfold aW aS gR;grind
   rw [this] at d';have:=bL hd d';grind
  ·have d':0<=aW (aS (vq b) (vq a)) (aS (vq a) (vq x.2)):=d;rw [s2] at d';have:aW (aS (vq b) (vq a)) (aS (vq a) (gR (vq a) (vq b) (val (bC a b x.2))))=(-val (bC a b x.2))*aW (aS (vq b) (vq a)) (aS (vq b) (vq a)):=by unfold aW aS gR;grind
   rw [this] at d';have:=bL hd d';grind
theorem tR {bs:List bW} {marks:Str} {k:Nat} {a b:Pt} (C:Oe bs k a b) {f:Fr} (hf:cF f) (m0:0<val f) (m1:val f<1) (nc:∀c∈cQ bs k a b,val c≠val f):Dr bs marks k a b f->Qx bs marks k a b (val f):=by
 have hd:=C.d;obtain ⟨wj,uu⟩:=Ck C.ha.np C.hb'.np hf;rintro ⟨j,g,YV,hj,h2,hm⟩;have lg:=C.hb g (KZ hj);have t1:=Cs (a:=a) (b:=b) lg.gb (λp mp=>(lg.pb p mp).np) C.ha.np C.hb'.np wj;obtain ⟨ib,e0,dk,oe0,_⟩:=t1.two h2;obtain ⟨i,x,hi,oe,zm,fx,_⟩:=Cg (a:=a) (b:=b) lg.gb (λp mp=>(lg.pb p mp).np) C.ha.np C.hb'.np wj ib ⟨e0,dk,oe0.z⟩;rw [uu] at oe ib;have de:=fx.mp h2;have mx:=KZ hi;obtain ⟨q1,q2,qn⟩:=lg.ed mx;have me:(vq x.1,vq x.2)∈jG g.o:=KY.mpr ⟨x,mx,rfl⟩;obtain ⟨w1,w2⟩:fE (vq x.1,vq x.2) (vq a)=0/\fE (vq x.1,vq x.2) (vq b)=0:=by
  by_cases w:fE (vq x.1,vq x.2) (vq a)=0/\fE (vq x.1,vq x.2) (vq b)=0
  ·exact w
  ·obtain ⟨c,mc,vc⟩:=Cu C.hb hj (show j≠k by omega) C.ha C.hb' C.ne me m0 m1 oe.z w ib;exact absurd vc (nc c mc)
 have xd:=jM q1.np q2.np qn;obtain ⟨y1,y2,y3⟩:=rZ xd w1 w2;have s1:=iB C.ha.np C.hb'.np q1.np C.ne y1;have s2:=iB C.ha.np C.hb'.np q2.np C.ne y2;have ud:0<aW (aS (vq b) (vq a)) (aV (vq x.1,vq x.2)):=by
  have:aW (aS (vq b) (vq a)) (aV (vq x.1,vq x.2))=aW (aV (vq x.1,vq x.2)) (aS (vq b) (vq a)):=by unfold aW;grind
  rw [this];exact de
 have oa:=(lC hd y3 ud).1.mp oe.a;have ob:=(lC hd y3 ud).1.mp oe.b;simp only at oa ob;rw [s1,Ii] at oa;rw [s2,Ii] at ob;have a1:=bL hd oa;have a2:=bL hd ob;have e1:val (bC a b x.1)≠val f:=λz=>by
  obtain ⟨c,mc,vc⟩:=uL C.hb hj (show j≠k by omega) C.ha C.hb' C.ne mx y1 y2 (.inl rfl) (by rw [z];exact m0) (by rw [z];exact m1);exact nc c mc (by rw [vc,z])
 have e2:val (bC a b x.2)≠val f:=λz=>by
  obtain ⟨c,mc,vc⟩:=uL C.hb hj (show j≠k by omega) C.ha C.hb' C.ne mx y1 y2 (.inr rfl) (by rw [z];exact m0) (by rw [z];exact m1);exact nc c mc (by rw [vc,z])
 exact ⟨x,j,i,g,YV,hj,hi,by rw [<-zm];exact hm,(sW q1 q2 C.ha C.hb' qn C.ne).mpr ⟨w1,w2,de⟩,by grind,by grind⟩
theorem Kr {bs:List bW} {marks:Str} {k at':Nat} {a b:Pt} {t:Rat}:Qx bs marks k a b t->qB bs marks k at' a b t:=λ⟨x,j,i,g,h1,h2,h3,h4,h5,h6⟩=>⟨x,⟨j,i,g,.inl h1,h2,h3,h4⟩,h5,h6⟩
end
end My
namespace My
open PySem L2 PyProof.Rows
section
variable {P:SS} {w:SW} {K:W.Frag} {mg:Str->Option Value} {base:Heap}
def oP (os:List Ov) (t:Rat):Prop:=∃r,some r∈os/\r.2.2≠1/\val r.1<t/\t<val r.2.1
def Dw (ts:List (Fr×Fr)) (t:Rat):Prop:=∃x∈ts,val x.1<t/\t<val x.2
def pA (os:List Ov):List Rat:=os.flatMap λo=>match o with
 | none=>[]
 | some r=>[val r.1,val r.2.1]
def jR (ts:List (Fr×Fr)):List Rat:=ts.flatMap λx=>[val x.1,val x.2]
theorem Og {os:List Ov} {r:Fr×Fr×Nat} (m:some r∈os):val r.1∈pA os/\val r.2.1∈pA os:=
 ⟨ML.mpr ⟨some r,m,by simp⟩,ML.mpr ⟨some r,m,by simp⟩⟩
theorem wR {ts:List (Fr×Fr)} {x:Fr×Fr} (m:x∈ts):val x.1∈jR ts/\val x.2∈jR ts:=
 ⟨ML.mpr ⟨x,m,by simp⟩,ML.mpr ⟨x,m,by simp⟩⟩
theorem Jt {t:Rat}:∀(os:List Ov) (rows:List lG),(∀o∈os,zW o)->i8 rows->t∉pA os->(∀rs,fK os rows=some rs->i8 rs/\(Nn rs t↔Nn rows t/\¬oP os t))/\(fK os rows=none->∃r,some r∈os/\r.2.2≠1/\r.1=(0,1)/\r.2.1=(1,1))
 | [],rows,_,h,_=>⟨λrs e=>by
   cases e;refine ⟨h,⟨λz=>⟨z,λ⟨r,m,_⟩=>absurd m (by simp)⟩,λz=>z.1⟩⟩,λe=>by cases e⟩
 | none::os,rows,ho,h,hF=>by
  have ih:=Jt os rows (λo m=>ho o (by simp [m])) h (λz=>hF (by unfold pA at z ⊢;simp only [MT];exact LU _ z));have cv:oP (none::os) t↔oP os t:=by unfold oP;simp
  refine ⟨λrs e=>by rw [cv];exact ih.1 rs e,λe=>?_⟩;obtain ⟨r,m,k⟩:=ih.2 e;exact ⟨r,by simp [m],k⟩
 | some r::os,rows,ho,h,hF=>by
  have ao:t∉pA os:=λz=>hF (by unfold pA at z ⊢;simp only [MT];exact LU _ z);obtain ⟨e1,e2⟩:=Og (os:=some r::os) (r:=r) (by simp);obtain ⟨f1,f2⟩:=ho (some r) (by simp) r rfl;have YX:∀o∈os,zW o:=λo m=>ho o (by simp [m]);unfold fK
  by_cases c:r.2.2=1
  ·rw [if_pos c];have ih:=Jt os rows YX h ao;have cv:oP (some r::os) t↔oP os t:=by
    constructor
    ·rintro ⟨r',m,k,k'⟩;rcases KR.mp m with q | m
     ·cases q;exact absurd c k
     ·exact ⟨r',m,k,k'⟩
    ·rintro ⟨r',m,k⟩;exact ⟨r',by simp [m],k⟩
   refine ⟨λrs e=>by rw [cv];exact ih.1 rs e,λe=>?_⟩;obtain ⟨r',m,k⟩:=ih.2 e;exact ⟨r',by simp [m],k⟩
  ·rw [if_neg c]
   by_cases d:r.1=(0,1)/\r.2.1=(1,1)
   ·rw [if_pos d];exact ⟨λrs e=>(by cases e),λ_=>⟨r,by simp,c,d⟩⟩
   ·rw [if_neg d];have ih:=Jt os (bS rows r.1 r.2.1) YX (fU h f1 f2) ao;have nn:=Kw f1.d f2.d h (t:=t) (λz=>hF (z ▸ e1)) (λz=>hF (z ▸ e2));have cv:oP (some r::os) t↔(val r.1<t/\t<val r.2.1)\/oP os t:=by
     constructor
     ·rintro ⟨r',m,k,k'⟩;rcases KR.mp m with q | m
      ·cases q;exact .inl k'
      ·exact .inr ⟨r',m,k,k'⟩
     ·rintro (k | ⟨r',m,k⟩)
      ·exact ⟨r,by simp,c,k⟩
      ·exact ⟨r',by simp [m],k⟩
    refine ⟨λrs e=>?_,λe=>?_⟩
    ·obtain ⟨a,b⟩:=ih.1 rs e;refine ⟨a,?_⟩;rw [b,nn,cv];constructor
     ·rintro ⟨⟨x,y⟩,z⟩;exact ⟨x,λw=>w.elim y z⟩
     ·rintro ⟨x,y⟩;exact ⟨⟨x,λw=>y (.inl w)⟩,λw=>y (.inr w)⟩
    ·obtain ⟨r',m,k⟩:=ih.2 e;exact ⟨r',by simp [m],k⟩
theorem G9 {t:Rat}:∀(ts:List (Fr×Fr)) (rows:List lG),(∀x∈ts,F2 x.1/\F2 x.2)->i8 rows->t∉jR ts->(Nn (mW ts rows) t↔Nn rows t/\¬Dw ts t)
 | [],rows,_,_,_=>⟨λz=>⟨z,λ⟨x,m,_⟩=>absurd m (by simp)⟩,λz=>z.1⟩
 | x::ts,rows,ht,h,hF=>by
  obtain ⟨f1,f2⟩:=ht x (by simp);obtain ⟨e1,e2⟩:=wR (ts:=x::ts) (x:=x) (by simp);have nn:=Kw f1.d f2.d h (t:=t) (λz=>hF (z ▸ e1)) (λz=>hF (z ▸ e2));have ih:=G9 ts (bS rows x.1 x.2) (λy m=>ht y (by simp [m])) (fU h f1 f2) (λz=>hF (by unfold jR at z ⊢;simp only [MT];exact LU _ z));unfold mW;rw [ih,nn];constructor
  ·rintro ⟨⟨a,b⟩,c⟩;refine ⟨a,λ⟨y,m,k⟩=>?_⟩;rcases KR.mp m with rfl | m
   ·exact b k
   ·exact c ⟨y,m,k⟩
  ·rintro ⟨a,b⟩;exact ⟨⟨a,λk=>b ⟨x,by simp,k⟩⟩,λ⟨y,m,k⟩=>b ⟨y,by simp [m],k⟩⟩
theorem Rn {shs:List Sh} {p q:Pt} {tw:List Pr} (hs:∀s∈shs,rP s) (en:vM p q) (YJ:∀x∈tw,Pb x.1/\Pb x.2) {t:Rat} (h1:t∉pA (shs.map λs=>a7 s (eR p q))) (h2:t∉jR (rA p q tw)) :
  Aj (fD shs p q tw) t↔(0<t/\t<1)/\¬oP (shs.map λs=>a7 s (eR p q)) t/\¬Dw (rA p q tw) t:=by
 obtain ⟨g1,g2,ur⟩:=La en;have r0:i8 n9:=λr m=>by
  have e:r=((0,1),(1,1),false):=by simpa [n9] using m
  subst e;exact ⟨Pe,Mn⟩
 have n0:Nn n9 t↔0<t/\t<1:=by
  unfold Nn n9;constructor
  ·rintro ⟨r,m,_,a,b⟩;rw [LM] at m;subst m;simp only at a b;rw [iX] at a;rw [iZ] at b;exact ⟨a,b⟩
  ·rintro ⟨a,b⟩;exact ⟨_,LM.mpr rfl,rfl,by simp only;rw [iX];exact a,by simp only;rw [iZ];exact b⟩
 have zd:∀o∈shs.map (λs=>a7 s (eR p q)),zW o:=λo m=>by
  obtain ⟨s,ms,rfl⟩:=KY.mp m;exact Jw (hs s ms).b g1 g2
 have ze:∀t∈rA p q tw,F2 t.1/\F2 t.2:=λt m=>by
  obtain ⟨y,my,rfl⟩:=KY.mp m;exact ⟨(jL en.hp en.hq (YJ y my).1 en.ne).2.2,(jL en.hp en.hq (YJ y my).2 en.ne).2.2⟩
 obtain ⟨ga,gb⟩:=Jt _ n9 zd r0 h1;unfold fD qU;cases g:fK (shs.map λs=>a7 s (eR p q)) n9 with
 | none=>
  obtain ⟨r,m,k,k1,k2⟩:=gb g;constructor
  ·rintro ⟨a,m,_⟩;simp at m
  ·rintro ⟨⟨a,b⟩,c,_⟩;exact absurd ⟨r,m,k,by rw [k1,iX];exact a,by rw [k2,iZ];exact b⟩ c
 | some rs=>
  obtain ⟨ro,nn⟩:=ga rs g;have tn:=G9 (rA p q tw) rs ze ro h2;have ie:Aj (eO (mW (rA p q tw) rs)) t↔Nn (mW (rA p q tw) rs) t:=by
   unfold Aj eO Nn;constructor
   ·rintro ⟨a,m,k⟩;obtain ⟨r,mr,rfl⟩:=KY.mp m;obtain ⟨m1,m2⟩:=MH.mp mr;exact ⟨r,m1,by simpa using m2,k⟩
   ·rintro ⟨r,m,f,k⟩;exact ⟨(r.1,r.2.1),KY.mpr ⟨r,MH.mpr ⟨m,by rw [f];rfl⟩,rfl⟩,k⟩
  show Aj (eO (mW (rA p q tw) rs)) t↔_;rw [ie,tn,nn,n0];constructor
  ·rintro ⟨⟨a,b⟩,c⟩;exact ⟨a,b,c⟩
  ·rintro ⟨a,b,c⟩;exact ⟨⟨a,b⟩,c⟩
def rO:List (Fr×Fr)->List (Fr×Fr)
 | []=>[]
 | x::r=>mrgGo x r
where
 mrgGo (x:Fr×Fr):List (Fr×Fr)->List (Fr×Fr)
  | []=>[x]
  | y::r=>if x.2=y.1 then mrgGo (x.1,y.2) r else x::mrgGo y r
def Wk:Rat->List (Fr×Fr)->Prop
 | _,[]=>True
 | x,a::as=>x<=val a.1/\val a.1<val a.2/\Wk (val a.2) as
def F5 (A:List (Fr×Fr)):Prop:=∀a∈A,cF a.1/\cF a.2
theorem uI:∀(r:List (Fr×Fr)) (x:Fr×Fr) (z:Rat) (st:Bool),(z<=val x.1/\(st=true->z<val x.1))->val x.1<val x.2->Wk (val x.2) r->F5 (x::r)->Dj z st (rO.mrgGo x r)/\F5 (rO.mrgGo x r)/\(∀t,t∉jR (x::r)->(Aj (rO.mrgGo x r) t↔Aj (x::r) t))
 | [],x,z,st,h1,h2,_,hn=>⟨⟨h1,h2,trivial⟩,hn,λt _=>Iff.rfl⟩
 | y::r,x,z,st,h1,h2,⟨w1,w2,w3⟩,hn=>by
  have nx:=hn x (by simp);have ny:=hn y (by simp);unfold rO.mrgGo
  by_cases c:x.2=y.1
  ·rw [if_pos c];have vc:val x.2=val y.1:=by rw [c]
   obtain ⟨a1,a2,a3⟩:=uI r (x.1,y.2) z st h1 (by simp only;grind) w3 (λa m=>by
    rcases KR.mp m with rfl | m
    ·exact ⟨nx.1,ny.2⟩
    ·exact hn a (by simp [m]))
   refine ⟨a1,a2,λt ht=>?_⟩;have hx:=wR (ts:=x::y::r) (x:=x) (by simp);have t1:t≠val x.2:=λq=>ht (q ▸ hx.2);have zq:t∉jR ((x.1,y.2)::r):=λq=>ht (by
    unfold jR at q ⊢;simp only [MT,RP,MZ,KR] at q ⊢;rcases q with q | q | q
    ·exact .inl q
    ·exact .inr (.inr (.inr (.inl q)))
    ·exact .inr (.inr (.inr (.inr q))))
   rw [a3 t zq];unfold Aj;constructor
   ·rintro ⟨u,m,k1,k2⟩;rcases KR.mp m with rfl | m
    ·simp only at k1 k2
     by_cases q:t<val x.2
     ·exact ⟨x,by simp,k1,q⟩
     ·exact ⟨y,by simp,by grind,k2⟩
    ·exact ⟨u,by simp [m],k1,k2⟩
   ·rintro ⟨u,m,k1,k2⟩;rcases KR.mp m with rfl | m
    ·exact ⟨(u.1,y.2),by simp,k1,by simp only;grind⟩
    ·rcases KR.mp m with rfl | m
     ·exact ⟨(x.1,u.2),by simp,by simp only;grind,k2⟩
     ·exact ⟨u,by simp [m],k1,k2⟩
  ·rw [if_neg c];have vc:val x.2≠val y.1:=λq=>c (eN nx.2 ny.1 q);obtain ⟨a1,a2,a3⟩:=uI r y (val x.2) true ⟨w1,λ_=>by grind⟩ w2 w3 (λa m=>hn a (by simp [KR.mp m]));refine ⟨⟨h1,h2,a1⟩,λa m=>?_,λt ht=>?_⟩
   ·rcases KR.mp m with rfl | m
    ·exact nx
    ·exact a2 a m
   ·have zq:t∉jR (y::r):=λq=>ht (by unfold jR at q ⊢;rw [MT];exact LU _ q);have k:=a3 t zq;unfold Aj at k ⊢;constructor
    ·rintro ⟨u,m,q⟩;rcases KR.mp m with rfl | m
     ·exact ⟨u,by simp,q⟩
     ·obtain ⟨u',m',q'⟩:=k.mp ⟨u,m,q⟩;exact ⟨u',LQ _ m',q'⟩
    ·rintro ⟨u,m,q⟩;rcases KR.mp m with rfl | m
     ·exact ⟨u,by simp,q⟩
     ·obtain ⟨u',m',q'⟩:=k.mpr ⟨u,m,q⟩;exact ⟨u',LQ _ m',q'⟩
theorem Jc {A:List (Fr×Fr)} {x:Rat} (h:Wk x A) (hn:F5 A):Dj x false (rO A)/\F5 (rO A)/\∀t,t∉jR A->(Aj (rO A) t↔Aj A t):=by
 cases A with
 | nil=>exact ⟨trivial,hn,λt _=>Iff.rfl⟩
 | cons a A=>exact uI A a x false ⟨h.1,λz=>absurd z (by decide)⟩ h.2.1 h.2.2 hn
theorem Wk.le {x y:Rat} {A:List (Fr×Fr)} (h:Wk y A) (k:x<=y):Wk x A:=by
 cases A with
 | nil=>trivial
 | cons a A=>exact ⟨by have:=h.1;grind,h.2⟩
theorem pO (p:Fr×Fr->Bool):∀{A:List (Fr×Fr)} {x:Rat},Wk x A->Wk x (A.filter p)
 | [],_,_=>trivial
 | a::A,x,⟨h1,h2,h3⟩=>by
  have ih:=pO p h3
  by_cases c:p a=true
  ·rw [NG c];exact ⟨h1,h2,ih⟩
  ·rw [NM c];exact ih.le (by grind)
theorem Hs:∀{C:List Fr} {x:Rat},Pk C->(∀c∈C,x<=val c)->Wk x (C.zip C.tail)
 | [],_,_,_=>trivial
 | [c],_,_,_=>trivial
 | c::d::r,x,h,hx=>by
  obtain ⟨p1,p2⟩:=ND.mp h;obtain ⟨q1,_⟩:=ND.mp p2;refine ⟨hx c (by simp),p1 d (by simp),Hs (C:=d::r) p2 λe m=>?_⟩;rcases KR.mp m with rfl | m
  ·grind
  ·have:=q1 e m;grind
theorem Qj:∀{C:List Fr} {t:Rat},Pk C->(∃c∈C,val c<t)->(∃c∈C,t<val c)->(∀c∈C,val c≠t)->∃x∈C.zip C.tail,val x.1<t/\t<val x.2
 | [],_,_,⟨c,m,_⟩,_,_=>by simp at m
 | [c],t,_,⟨a,ma,ka⟩,⟨b,mb,kb⟩,_=>by
  rw [LM] at ma mb;rw [ma] at ka;rw [mb] at kb;grind
 | c::d::r,t,h,⟨a,ma,ka⟩,⟨b,mb,kb⟩,hn=>by
  obtain ⟨p1,p2⟩:=ND.mp h
  by_cases q:t<val d
  ·by_cases q2:val c<t
   ·exact ⟨(c,d),by simp,q2,q⟩
   ·have:=hn c (by simp);rcases KR.mp ma with e | ma
    ·rw [e] at ka;grind
    ·have:=p1 a ma;grind
  ·have nd:=hn d (by simp);have b':b∈d::r:=by
    rcases KR.mp mb with e | mb
    ·have:=p1 d (by simp);rw [e] at kb;grind
    ·exact mb
   obtain ⟨x,mx,k⟩:=Qj p2 ⟨d,by simp,by grind⟩ ⟨b,b',kb⟩ λe m=>hn e (by simp [KR.mp m]);exact ⟨x,LQ _ mx,k⟩
end
end My
namespace My
open PySem L2 PyProof.Rows
section
variable {P:SS} {w:SW} {K:W.Frag} {mg:Str->Option Value} {base:Heap}
def kC (bs:List bW) (k:Nat) (a b x:Pt):List ((Nat×Nat)×Str):=(bs.zipIdx.filter λy=>!decide ((y.2:Int)=(k:Int))).map λy=>(cM y.1.o a b x,y.1.m)
def jA (marks:Str) (y:(Nat×Nat)×Str):Bool:=decide (y.1.1=2)&&uZ marks (rG y.2 y.1.2)
def m9 (y:(Nat×Nat)×Str):Bool:=decide (y.1.1=1)||decide (y.1.1=3)
def lQ (bs:List bW) (marks:Str) (k:Nat) (a b:Pt) (x:Fr×Fr):Bool:=(((kC bs k a b (dD a b (iK x))).take k).filter (jA marks)).isEmpty&&!(kC bs k a b (dD a b (iK x))).any m9
theorem Ox {bs:List bW} {k:Nat} (hk:k<bs.length) (a b x:Pt):(kC bs k a b x).take k=(bs.zipIdx.take k).map λy=>(cM y.1.o a b x,y.1.m):=by
 unfold kC;have e:bs.zipIdx.filter (λy=>!decide ((y.2:Int)=(k:Int)))=bs.zipIdx.take k++(bs.zipIdx.drop k).filter (λy=>!decide ((y.2:Int)=(k:Int))):=by
  conv=>lhs;rw [<-List.take_append_drop k bs.zipIdx]
  rw [RH]
  congr 1
  refine List.filter_eq_self.mpr λy m=>?_;obtain ⟨i,hi⟩:=NB m;rw [PZ] at hi;split at hi
  ·rename_i c;rw [NA] at hi;cases q:bs[i]? with
   | none=>rw [q] at hi;cases hi
   | some g=>rw [q] at hi;simp at hi;rw [<-hi];simp;omega
  ·cases hi
 rw [e,MI,List.take_append_of_le_length (by rw [KW,MA,PY];omega),NC (by rw [KW,MA];omega)]
theorem Ri {bs:List bW} {marks:Str} {k:Nat} (hk:k<bs.length) {a b:Pt} {x:Fr×Fr}:lQ bs marks k a b x=true↔¬Dr bs marks k a b (iK x)/\¬∃(j:Nat) (g:bW),j≠k/\bs[j]? = some g/\((cM g.o a b (dD a b (iK x))).1=1\/(cM g.o a b (dD a b (iK x))).1=3):=by
 unfold lQ;rw [LX,List.isEmpty_iff,SF,OO,Ox hk];have m1:∀y:bW×Nat,y∈bs.zipIdx.take k↔y.2<k/\bs[y.2]? = some y.1:=λy=>by
  constructor
  ·intro m;obtain ⟨i,hi⟩:=NB m;rw [PZ] at hi;split at hi
   ·rename_i c;rw [NA] at hi;cases q:bs[i]? with
    | none=>rw [q] at hi;cases hi
    | some g=>rw [q] at hi;simp at hi;rw [<-hi];exact ⟨by simp only;omega,q⟩
   ·cases hi
  ·rintro ⟨c,q⟩;refine KZ (i:=y.2) ?_;rw [PZ,if_pos c,NA,q];simp
 constructor
 ·rintro ⟨h1,h2⟩;refine ⟨?_,?_⟩
  ·rintro ⟨j,g,hj,hg,w,v⟩;refine h1 _ (KY.mpr ⟨(g,j),(m1 (g,j)).mpr ⟨hj,hg⟩,rfl⟩) ?_;unfold jA;rw [LX,decide_eq_true_eq];exact ⟨w,v⟩
  ·rintro ⟨j,g,hj,hg,w⟩;rw [Bool.eq_false_iff] at h2;refine h2 (NU.mpr ⟨_,KY.mpr ⟨(g,j),MH.mpr ⟨LV.mpr hg,by simp;omega⟩,rfl⟩,?_⟩);unfold m9;rw [OL,decide_eq_true_eq,decide_eq_true_eq];exact w
 ·rintro ⟨h1,h2⟩;refine ⟨λy m z=>?_,?_⟩
  ·obtain ⟨u,mu,rfl⟩:=KY.mp m;obtain ⟨c,q⟩:=(m1 u).mp mu;unfold jA at z;rw [LX,decide_eq_true_eq] at z;exact h1 ⟨u.2,u.1,c,q,z.1,z.2⟩
  ·rw [Bool.eq_false_iff];intro z;obtain ⟨y,m,z⟩:=NU.mp z;unfold kC at m;obtain ⟨u,mu,rfl⟩:=KY.mp m;obtain ⟨c,q⟩:=MH.mp mu;unfold m9 at z;rw [OL,decide_eq_true_eq,decide_eq_true_eq] at z;exact h2 ⟨u.2,u.1,by simp at q;omega,LV.mp c,z⟩
def BS (t:Rat):Fr:=low t.num t.den
theorem S5 (t:Rat):cF (BS t)/\val (BS t)=t:=by
 have d0:(t.den:Int)≠0:=by have:=t.den_pos;omega
 refine ⟨fF d0,?_⟩;unfold BS;rw [jK d0];have e:=yO t;have n:(t.den:Rat)≠0:=by have:=t.den_pos;exact_mod_cast (show t.den≠0 by omega)
 have:((t.den:Int):Rat)=(t.den:Rat):=by push_cast;rfl
 rw [this];grind
def iP (bs:List bW) (marks:Str) (k:Nat) (a b:Pt):List (Fr×Fr):=((cQ bs k a b).zip (cQ bs k a b).tail).filter (lQ bs marks k a b)
theorem Ar {bs:List bW} {k at':Nat} {a b:Pt} (h:FW bs k at' a b) {g:bW} (hg:bs[k]? = some g) {r:Fr×Fr×Nat} (e:a7 (bD g) (eR a b)=some r):r.2.2=1:=by
 have C:=h.c;have lg:=C.hb g (KZ hg);have o:=mO lg.gb C.ha.np.spt C.hb'.np.spt C.d e;obtain ⟨g',YY,cy⟩:=h.ex;rw [hg] at YY;cases YY;have me:(vq a,vq b)∈jG g.o:=KY.mpr ⟨_,KZ cy,rfl⟩;have z1:fE (vq a,vq b) (vq a)=0:=by unfold fE bQ aV aS;grind
 have z2:fE (vq a,vq b) (vq b)=0:=by unfold fE bQ aV aS;grind
 rcases o.h with ⟨_,no⟩ | ⟨_,_,or⟩
 ·exact absurd ⟨z1,z2⟩ (no _ me)
 ·exact (or _ me z1 z2).mpr C.d
theorem C1 {bs:List bW} {marks:Str} {k at':Nat} {a b:Pt} (h:FW bs k at' a b) {tw:List Pr} (YJ:∀x,x∈tw↔O0 bs marks k at' x/\cO (fA x.1 x.2)=cO (fA a b)) :
  (fD (bs.map bD) a b tw).map vp=(rO (iP bs marks k a b)).map vp:=by
 have C:=h.c;obtain ⟨gk,uv,cy⟩:=h.ex;have hk:k<bs.length:=(KU.mp uv).1;have ro:=C.ro;have en:=Tt C.ha C.hb' C.ne;have bb:∀s∈bs.map bD,rP s:=λs m=>by
  obtain ⟨g,mg,rfl⟩:=KY.mp m;exact oI (C.hb g mg).ok
 have twok:∀x∈tw,Pb x.1/\Pb x.2:=λx m=>by
  obtain ⟨⟨j,i,g,_,hj,hi,_⟩,_⟩:=(YJ x).mp m;obtain ⟨p1,p2,_⟩:=(C.hb g (KZ hj)).ed (KZ hi);exact ⟨p1,p2⟩
 have zu:∀r,some r∈(bs.map bD).map (λs=>a7 s (eR a b))↔∃(j:Nat) (g:bW),bs[j]? = some g/\a7 (bD g) (eR a b)=some r:=λr=>by
  rw [MK,KY];constructor
  ·rintro ⟨g,mg,e⟩;obtain ⟨j,hj⟩:=NB mg;exact ⟨j,g,hj,e⟩
  ·rintro ⟨j,g,hj,e⟩;exact ⟨g,KZ hj,e⟩
 have uw:∀t,Dw (rA a b tw) t↔qB bs marks k at' a b t:=λt=>by
  unfold Dw qB rA;constructor
  ·rintro ⟨y,m,k1,k2⟩;obtain ⟨x,mx,rfl⟩:=KY.mp m;obtain ⟨e1,e2⟩:=(YJ x).mp mx;exact ⟨x,e1,e2,k1,k2⟩
  ·rintro ⟨x,e1,e2,k1,k2⟩;exact ⟨_,KY.mpr ⟨x,(YJ x).mpr ⟨e1,e2⟩,rfl⟩,k1,k2⟩
 -- at a place that is no cut
 have key:∀f:Fr,cF f->0<val f->val f<1->(∀c∈cQ bs k a b,val c≠val f)->((¬oP ((bs.map bD).map λs=>a7 s (eR a b)) (val f)/\¬Dw (rA a b tw) (val f))↔(¬Dr bs marks k a b f/\¬∃(j:Nat) (g:bW),j≠k/\bs[j]? = some g/\((cM g.o a b (dD a b f)).1=1\/(cM g.o a b (dD a b f)).1=3))):=λf hf m0 m1 nc=>by
  have tA:qB bs marks k at' a b (val f)↔Dr bs marks k a b f:=⟨tM h hf m0 m1 nc,λz=>Kr (tR C hf m0 m1 nc z)⟩;have oA:oP ((bs.map bD).map λs=>a7 s (eR a b)) (val f)↔∃(j:Nat) (g:bW),j≠k/\bs[j]? = some g/\((cM g.o a b (dD a b f)).1=1\/(cM g.o a b (dD a b f)).1=3):=by
   constructor
   ·rintro ⟨r,m,r1,r2,r3⟩;obtain ⟨j,g,hj,e⟩:=(zu r).mp m;have jk:j≠k:=λz=>by
     subst z;rw [uv] at hj;cases hj;exact r1 (Ar h uv e)
    exact ⟨j,g,jk,hj,(C.word hj jk hf m0 m1 nc).mpr ⟨r,e,r1,r2,r3⟩⟩
   ·rintro ⟨j,g,jk,hj,w⟩;obtain ⟨r,e,r1,r2,r3⟩:=(C.word hj jk hf m0 m1 nc).mp w;exact ⟨r,(zu r).mpr ⟨j,g,hj,e⟩,r1,r2,r3⟩
  rw [uw,tA,oA];exact And.comm
 -- the same all lC a piece
 have same:∀{c d:Fr} {t m:Rat},(c,d)∈(cQ bs k a b).zip (cQ bs k a b).tail->val c<t->t<val d->val c<m->m<val d->(¬oP ((bs.map bD).map λs=>a7 s (eR a b)) t/\¬Dw (rA a b tw) t)->(¬oP ((bs.map bD).map λs=>a7 s (eR a b)) m/\¬Dw (rA a b tw) m):=λ{c d t m} mz t1 t2 m1 m2 hh=>by
  obtain ⟨_,mc,md,nb⟩:=sQ ro.s mz;have b1:=ro.b c mc;have b2:=ro.b d md;have tr:∀s:Rat,(s<=0\/1<=s\/∃e∈cQ bs k a b,val e=s)->(s<m->s<t)/\(m<s->t<s):=λs hs=>by
   rcases hs with hs | hs | ⟨e,me,ve⟩
   ·exact ⟨λ_=>by grind,λ_=>by grind⟩
   ·exact ⟨λ_=>by grind,λ_=>by grind⟩
   ·have:=nb e me;exact ⟨λ_=>by grind,λ_=>by grind⟩
  refine ⟨λ⟨r,mr,r1,r2,r3⟩=>hh.1 ?_,λz=>hh.2 ?_⟩
  ·obtain ⟨j,g,hj,e⟩:=(zu r).mp mr;have jk:j≠k:=λz=>by
    subst z;rw [uv] at hj;cases hj;exact r1 (Ar h uv e)
   have o:=mO (C.hb g (KZ hj)).gb C.ha.np.spt C.hb'.np.spt C.d e;obtain ⟨⟨c1,mc1,v1⟩,c2,mc2,v2⟩:=C.ov_cut hj jk o;exact ⟨r,mr,r1,(tr _ (.inr (.inr ⟨c1,mc1,v1⟩))).1 r2,(tr _ (.inr (.inr ⟨c2,mc2,v2⟩))).2 r3⟩
  ·rw [uw] at z ⊢;obtain ⟨f1,f2⟩:=S5 m;have ncm:∀e∈cQ bs k a b,val e≠val (BS m):=λe me q=>by
    rw [f2] at q;have:=nb e me;grind
   have z':qB bs marks k at' a b (val (BS m)):=by rw [f2];exact z
   have tl:=tR C f1 (by rw [f2];grind) (by rw [f2];grind) ncm (tM h f1 (by rw [f2];grind) (by rw [f2];grind) ncm z');rw [f2] at tl;refine Kr ?_;obtain ⟨x,j,i,g,jk,hj,hi,hm,hl,s1,s2⟩:=tl;have mx:=KZ hi;obtain ⟨q1,q2,qn⟩:=(C.hb g (KZ hj)).ed mx;obtain ⟨z1,z2,z3⟩:=(sW q1 q2 C.ha C.hb' qn C.ne).mp hl;obtain ⟨y1,y2,_⟩:=rZ (jM q1.np q2.np qn) z1 z2;have ux:∀y,y=x.1\/y=x.2->(val (bC a b y)<=0\/1<=val (bC a b y)\/∃e∈cQ bs k a b,val e=val (bC a b y)):=λy hy=>by
    by_cases u1:val (bC a b y)<=0
    ·exact .inl u1
    ·by_cases u2:1<=val (bC a b y)
     ·exact .inr (.inl u2)
     ·exact .inr (.inr (uL C.hb hj (show j≠k by omega) C.ha C.hb' C.ne mx y1 y2 hy (by grind) (by grind)))
   exact ⟨x,j,i,g,jk,hj,hi,hm,hl,(tr _ (ux x.1 (.inl rfl))).1 s1,(tr _ (ux x.2 (.inr rfl))).2 s2⟩
 -- both are the same intervals
 have wk:=pO (lQ bs marks k a b) (Hs (x:=0) ro.s λc m=>(ro.b c m).1);have zv:∀x∈(cQ bs k a b).zip (cQ bs k a b).tail,x.1∈cQ bs k a b/\x.2∈cQ bs k a b:=λx m=>by
  obtain ⟨m1,m2⟩:=NY (a:=x.1) (b:=x.2) m;exact ⟨m1,OE m2⟩
 have nm:F5 (iP bs marks k a b):=λx m=>by
  obtain ⟨m1,m2⟩:=zv x (MH.mp m).1;exact ⟨ro.n _ m1,ro.n _ m2⟩
 obtain ⟨a1,a2,a3⟩:=Jc (A:=iP bs marks k a b) wk nm;obtain ⟨_,b2⟩:=Cw bb en twok;refine Cz ((cQ bs k a b).map val++pA ((bs.map bD).map λs=>a7 s (eR a b))++jR (rA a b tw)) b2 a1 λt ht=>?_;have t1:∀c∈cQ bs k a b,val c≠t:=λc m z=>ht (OP _ (OP _ (KY.mpr ⟨c,m,z⟩)));have t2:t∉pA ((bs.map bD).map λs=>a7 s (eR a b)):=λz=>ht (OP _ (LU _ z));have t3:t∉jR (rA a b tw):=λz=>ht (LU _ z);have t4:t∉jR (iP bs marks k a b):=λz=>by
  obtain ⟨x,mx,z⟩:=ML.mp z;obtain ⟨m1,m2⟩:=zv x (MH.mp mx).1;rcases KR.mp z with e | z
  ·exact t1 _ m1 e.symm
  ·rw [LM] at z;exact t1 _ m2 z.symm
 rw [Rn bb en twok t2 t3,a3 t t4];have kp:∀x∈(cQ bs k a b).zip (cQ bs k a b).tail,val x.1<val (iK x)/\val (iK x)<val x.2/\(lQ bs marks k a b x=true↔(¬oP ((bs.map bD).map λs=>a7 s (eR a b)) (val (iK x))/\¬Dw (rA a b tw) (val (iK x)))):=λx m=>by
  obtain ⟨c,d⟩:=x;obtain ⟨lt,mc,md,nb⟩:=sQ ro.s m;obtain ⟨n1,vm⟩:=EG (x:=(c,d)) (ro.n c mc) (ro.n d md);simp only at vm;have b1:=ro.b c mc;have b2:=ro.b d md;refine ⟨by rw [vm];simp only;grind,by rw [vm];simp only;grind,?_⟩;rw [Ri hk,key (iK (c,d)) n1 (by rw [vm];grind) (by rw [vm];grind) λe me z=>by
   have:=nb e me;rw [vm] at z;grind]
 constructor
 ·rintro ⟨⟨p0,p1⟩,pc⟩;obtain ⟨x,mx,k1,k2⟩:=Qj ro.s ⟨(0,1),ro.z,by rw [iX];exact p0⟩ ⟨(1,1),ro.o,by rw [iZ];exact p1⟩ t1;obtain ⟨u1,u2,u3⟩:=kp x mx;exact ⟨x,MH.mpr ⟨mx,u3.mpr (same (c:=x.1) (d:=x.2) mx k1 k2 u1 u2 pc)⟩,k1,k2⟩
 ·rintro ⟨x,mx,k1,k2⟩;obtain ⟨mx,zw⟩:=MH.mp mx;obtain ⟨u1,u2,u3⟩:=kp x mx;obtain ⟨m1,m2⟩:=zv x mx;have b1:=ro.b _ m1;have b2:=ro.b _ m2;exact ⟨⟨by grind,by grind⟩,same (c:=x.1) (d:=x.2) mx u1 u2 k1 k2 (u3.mp zw)⟩
end
end My
namespace My
open PySem L2 PyProof.Rows
section
variable {P:SS} {w:SW} {K:W.Frag} {mg:Str->Option Value} {base:Heap}
def pI (k i:Nat) (a b:Pt) (x:Fr×Fr):lV:=(k,i,dD a b x.1,dD a b x.2)
def lD (found:List lV) (row:lV):List lV:=match found.getLast? with
 | none=>found++[row]
 | some l=>if l.1=row.1/\l.2.1=row.2.1/\l.2.2.2=row.2.2.1 then found.dropLast++[(l.1,l.2.1,l.2.2.1,row.2.2.2)] else found++[row]
def eA (g:bW) (i:Nat):Pt:=g.o.getD i AE
def eB (g:bW) (i:Nat):Pt:=g.o.getD ((i+1)%g.o.length) AE
def mI (bs:List bW) (marks:Str) (k:Nat) (g:bW) (found:List lV) (i:Nat):List lV:=if uZ marks (rG g.m i)=true then (iP bs marks k (eA g i) (eB g i)).foldl (λf x=>lD f (pI k i (eA g i) (eB g i) x)) found else found
def kJ (bs:List bW) (marks:Str) (found:List lV) (x:bW×Nat):List lV:=(MV x.1.o.length).foldl (mI bs marks x.2 x.1) found
def Dp (bs:List bW) (marks:Str):List lV:=bs.zipIdx.foldl (kJ bs marks) []
def cont (bs:List bW) (marks:Str) (k:Nat) (g:bW) (i:Nat):List lV:=if uZ marks (rG g.m i)=true then (rO (iP bs marks k (eA g i) (eB g i))).map (pI k i (eA g i) (eB g i)) else []
theorem V8 {a b:Pt} (ha:NP a) (hb:NP b) (ne:a≠b) {f g:Fr} (hf:cF f) (hg:cF g) (e:dD a b f=dD a b g):f=g:=by
 have e1:=(Ck ha hb hf).2;have e2:=(Ck ha hb hg).2;rw [e,e2] at e1;exact eN hf hg (N2 (jM ha hb ne) e1.symm)
theorem wD {found:List lV} {r row:lV}:lD (found++[r]) row=if r.1=row.1/\r.2.1=row.2.1/\r.2.2.2=row.2.2.1 then found++[(r.1,r.2.1,r.2.2.1,row.2.2.2)] else found++[r]++[row]:=by
 unfold lD;rw [List.getLast?_concat];simp only [List.dropLast_concat]
theorem qN {k i:Nat} {a b:Pt} (ha:NP a) (hb:NP b) (ne:a≠b):∀(r:List (Fr×Fr)) (found:List lV) (x:Fr×Fr),F5 (x::r)->r.foldl (λf x=>lD f (pI k i a b x)) (found++[pI k i a b x])=found++(rO.mrgGo x r).map (pI k i a b)
 | [],found,x,_=>rfl
 | y::r,found,x,hn=>by
  have nx:=hn x (by simp);have ny:=hn y (by simp);rw [NH,wD];unfold rO.mrgGo
  by_cases c:x.2=y.1
  ·rw [if_pos ⟨rfl,rfl,by show dD a b x.2=dD a b y.1;rw [c]⟩,if_pos c];exact qN ha hb ne r found (x.1,y.2) (λz m=>by
    rcases KR.mp m with rfl | m
    ·exact ⟨nx.1,ny.2⟩
    ·exact hn z (by simp [m]))
  ·rw [if_neg (λz=>c (V8 ha hb ne nx.2 ny.1 z.2.2)),if_neg c,qN ha hb ne r (found++[pI k i a b x]) y (λz m=>hn z (by simp [KR.mp m])),MO,LI];rfl
theorem Vm {found:List lV} {row:lV} (h:∀r∈found,¬(r.1=row.1/\r.2.1=row.2.1)):lD found row=found++[row]:=by
 unfold lD;cases q:found.getLast? with
 | none=>rfl
 | some l=>
  simp only;rw [if_neg λz=>h l (List.mem_of_getLast? q) ⟨z.1,z.2.1⟩]
theorem yJ {bs:List bW} (hb:∀g∈bs,LB 400 g) {k i:Nat} {g:bW} (hg:bs[k]? = some g) (hi:i<g.o.length):FW bs k i (eA g i) (eB g i):=by
 obtain ⟨p,q,h1,h2,h3⟩:=uT hi;have ea:eA g i=p:=by unfold eA;rw [LH,h1];rfl
 have eb:eB g i=q:=by unfold eB;rw [LH,h2];rfl
 rw [ea,eb];obtain ⟨p1,p2,pn⟩:=(hb g (KZ hg)).ed (KZ h3);exact ⟨⟨hb,p1,p2,pn⟩,g,hg,h3⟩
theorem vZ {bs:List bW} {marks:Str} {k:Nat} {a b:Pt} (h:Oe bs k a b):F5 (iP bs marks k a b):=λx m=>by
 obtain ⟨m1,m2⟩:=NY (a:=x.1) (b:=x.2) (MH.mp m).1;exact ⟨h.ro.n _ m1,h.ro.n _ (OE m2)⟩
theorem Qc {bs:List bW} (hb:∀g∈bs,LB 400 g) {marks:Str} {k i:Nat} {g:bW} (hg:bs[k]? = some g) (hi:i<g.o.length) {found:List lV} (hf:∀r∈found,¬(r.1=k/\r.2.1=i)):mI bs marks k g found i=found++cont bs marks k g i:=by
 have cu:=yJ hb hg hi;have C:=cu.c;have nm:=vZ (marks:=marks) C;unfold mI cont
 by_cases c:uZ marks (rG g.m i)=true
 ·rw [if_pos c,if_pos c];generalize iP bs marks k (eA g i) (eB g i)=ps at nm;cases ps with
  | nil=>simp [rO]
  | cons x r=>
   rw [NH,Vm (by exact hf),qN C.ha.np C.hb'.np C.ne r found x nm];rfl
 ·rw [if_neg c,if_neg c,LZ]
theorem An {bs:List bW} {marks:Str} {k:Nat} {g:bW} {i:Nat}:∀r∈cont bs marks k g i,r.1=k/\r.2.1=i:=λr m=>by
 unfold cont at m;split at m
 ·obtain ⟨x,_,rfl⟩:=KY.mp m;exact ⟨rfl,rfl⟩
 ·simp at m
theorem Nu {bs:List bW} (hb:∀g∈bs,LB 400 g) {marks:Str} {k:Nat} {g:bW} (hg:bs[k]? = some g) {found:List lV} (hf:∀r∈found,r.1<k):kJ bs marks found (g,k)=found++(MV g.o.length).flatMap (cont bs marks k g):=by
 have key:∀n,n<=g.o.length->(MV n).foldl (mI bs marks k g) found=found++(MV n).flatMap (cont bs marks k g):=by
  intro n
  induction n with
  | zero=>intro _;simp
  | succ n ih=>
   intro hn;rw [List.range_succ,List.foldl_append,ih (by omega),QZ,NH,QF,Qc hb hg (by omega),LI]
   ·simp
   ·intro r m ⟨z1,z2⟩;rcases LP.mp m with m | m
    ·have:=hf r m;omega
    ·obtain ⟨i,mi,m⟩:=ML.mp m;have:=(An r m).2;have:=MU.mp mi;omega
 exact key _ (LF _)
theorem Xy {bs:List bW} (hb:∀g∈bs,LB 400 g) (marks:Str):Dp bs marks=bs.zipIdx.flatMap λx=>(MV x.1.o.length).flatMap (cont bs marks x.2 x.1):=by
 have key:∀n,n<=bs.length->(bs.zipIdx.take n).foldl (kJ bs marks) []=(bs.zipIdx.take n).flatMap λx=>(MV x.1.o.length).flatMap (cont bs marks x.2 x.1):=by
  intro n
  induction n with
  | zero=>intro _;simp
  | succ n ih=>
   intro hn;have hg:bs[n]? = some bs[n]:=KS (by omega);have hz:bs.zipIdx[n]? = some (bs[n],n):=by rw [NA,hg];simp
   rw [<-qM hz,List.foldl_append,ih (by omega),QZ,NH,QF,Nu hb hg]
   ·simp
   ·intro r m;obtain ⟨x,mx,m⟩:=ML.mp m;obtain ⟨i,_,m⟩:=ML.mp m;rw [(An r m).1];obtain ⟨j,hj⟩:=NB mx;rw [PZ] at hj;split at hj
    ·rename_i c;rw [NA] at hj;cases q:bs[j]? with
     | none=>rw [q] at hj;cases hj
     | some y=>rw [q] at hj;simp at hj;rw [<-hj];exact c
    ·cases hj
 have:=key bs.length (LF _);rw [NC (by rw [PY];omega)] at this;exact this
def F6 (es:List EI) (l:I3):List Pr:=(es.filter λe=>decide (e.l=l)).map λe=>(e.p,e.q)
theorem Kt {shs:List Sh}:∀(es pre:List EI) (M:AD),(∀l,dO M l=F6 pre l)->mX shs es M=(es.zipIdx).flatMap λx=>dQ x.1 (fD shs x.1.p x.1.q (F6 (pre++es.take x.2) x.1.l))
 | [],pre,M,_=>rfl
 | e::es,pre,M,hM=>by
  unfold mX;have ih:=Kt (shs:=shs) es (pre++[e]) (j0 M e.l (dO M e.l++[(e.p,e.q)])) (λl=>by
   rw [oY,hM,hM];unfold F6;rw [RH,MI]
   by_cases c:e.l=l
   ·rw [if_pos c,NG (by simpa using c)];rw [c];rfl
   ·rw [if_neg c,NM (by simpa using c)];simp)
  rw [ih,List.zipIdx_cons,MT,hM]
  congr 1
  ·simp
  ·rw [show es.zipIdx (0+1)=es.zipIdx.map λx=>(x.1,x.2+1) by rw [RQ];exact List.zipIdx_succ,RT]
   congr 1
   funext x
   simp [LI]
def Lx (e f:EI):Prop:=e.n<f.n\/(e.n=f.n/\e.k<f.k)
theorem P5 {α:Type} (xs:List α):∀n,(xs.zipIdx n).Pairwise λa b=>a.2<b.2:=by
 induction xs with
 | nil=>intro n;exact List.Pairwise.nil
 | cons x xs ih=>
  intro n;rw [List.zipIdx_cons];refine ND.mpr ⟨λy m=>?_,ih _⟩;have:=List.le_snd_of_mem_zipIdx m;show n<y.2;omega
theorem O5 (bs:List bW) (marks:Str):(gP bs marks).Pairwise Lx:=by
 unfold gP;rw [List.pairwise_flatMap];refine ⟨λx _=>?_,(P5 bs 0).imp λ{x y} h e me f mf=>?_⟩
 ·unfold Wd;rw [List.pairwise_map];exact (List.pairwise_lt_range.filter _).imp λh=>.inr ⟨rfl,h⟩
 ·obtain ⟨i,_,rfl⟩:=KY.mp me;obtain ⟨j,_,rfl⟩:=KY.mp mf;exact .inl h
theorem Lp {es:List EI} (h:es.Pairwise Lx) {i:Nat} {e f:EI} (he:es[i]? = some e):f∈es.take i↔f∈es/\Lx f e:=by
 have hi:i<es.length:=(KU.mp he).1;have sp:es=es.take i++e::es.drop (i+1):=by
  conv=>lhs;rw [<-List.take_append_drop i es]
  rw [NI hi,(KU.mp he).2]
 have h':=h;rw [sp,List.pairwise_append] at h';obtain ⟨_,h2,h3⟩:=h';obtain ⟨h4,_⟩:=ND.mp h2;constructor
 ·intro m;exact ⟨NW m,h3 f m e (by simp)⟩
 ·rintro ⟨m,l⟩;rw [sp] at m;rcases LP.mp m with m | m
  ·exact m
  ·rcases KR.mp m with rfl | m
   ·unfold Lx at l;omega
   ·have:=h4 f m;unfold Lx at l this;omega
theorem P4 {g:bW} {n i:Nat} {p q:Pt} (h:(zr g.o)[i]? = some (p,q)):(xK n g i).p=p/\(xK n g i).q=q/\(xK n g i).l=cO (fA p q):=by
 have hi:i<g.o.length:=by rw [<-sZ];exact (KU.mp h).1
 obtain ⟨p',q',h1,h2,h3⟩:=uT hi;rw [h] at h3;cases h3;refine ⟨?_,?_,?_⟩
 ·show g.o.getD i AE=p;rw [LH,h1];rfl
 ·show g.o.getD ((i+1)%g.o.length) AE=q;rw [LH,h2];rfl
 ·show (bD g).ls.getD i (0,0,0)=_;rw [Kl,LH,LK,h];rfl
theorem X0 {k i:Nat} {a b:Pt} {A B:List (Fr×Fr)} (hA:∀x∈A,F2 x.1/\F2 x.2) (hB:F5 B) (e:A.map vp=B.map vp) {l:I3}:dQ ⟨k,i,a,b,l⟩ A=B.map (pI k i a b):=by
 induction A generalizing B with
 | nil=>
  cases B with
  | nil=>rfl
  | cons y B=>simp at e
 | cons x A ih=>
  cases B with
  | nil=>simp at e
  | cons y B=>
   simp only [MO,List.cons.injEq] at e;obtain ⟨e1,e2⟩:=e;have n1:=hB y (by simp);obtain ⟨f1,f2⟩:=hA x (by simp);have lv:∀{u v:Fr},F2 u->cF v->val u=val v->low u.1 u.2=v:=λ{u v} h k q=>by
    have d:u.2≠0:=by have:=h.d;omega
    refine eN (fF d) k ?_;rw [jK d,<-q];rfl
   have ih':=ih (λz m=>hA z (by simp [m])) (λz m=>hB z (by simp [m])) e2;show (k,i,dD a b (low x.1.1 x.1.2),dD a b (low x.2.1 x.2.2))::dQ ⟨k,i,a,b,l⟩ A=_;rw [lv f1 n1.1 (congrArg Prod.fst e1),lv f2 n1.2 (congrArg Prod.snd e1),ih'];rfl
theorem Yj {bs:List bW} (hb:∀g∈bs,LB 400 g) (marks:Str):t6 bs marks=Dp bs marks:=by
 rw [Xy hb];unfold t6;rw [Kt (gP bs marks) [] [] (λl=>rfl)];have pw:=O5 bs marks;have one:∀x∈(gP bs marks).zipIdx,dQ x.1 (fD (bs.map bD) x.1.p x.1.q (F6 ([]++(gP bs marks).take x.2) x.1.l))=match bs[x.1.n]? with
   | none=>[]
   | some g=>cont bs marks x.1.n g x.1.k:=λx m=>by
  obtain ⟨e,i⟩:=x;have he:(gP bs marks)[i]? = some e:=LV.mp m;obtain ⟨g,hg,hk,hm,ee⟩:=sO (KZ he);have cu:=yJ hb hg hk;have C:=cu.c;obtain ⟨p,q,h1,h2,h3⟩:=uT hk;obtain ⟨l1,l2,l3⟩:=P4 (n:=e.n) h3;rw [<-ee] at l1 l2 l3;have ea:eA g e.k=p:=by unfold eA;rw [LH,h1];rfl
  have eb:eB g e.k=q:=by unfold eB;rw [LH,h2];rfl
  rw [ea,eb] at cu C;simp only [MZ];rw [hg];simp only;unfold cont;rw [if_pos hm,ea,eb,l1,l2,l3];have YJ:∀x,x∈F6 ((gP bs marks).take i) (cO (fA p q))↔O0 bs marks e.n e.k x/\cO (fA x.1 x.2)=cO (fA p q):=λx=>by
   unfold F6;constructor
   ·intro mx;obtain ⟨f,mf,rfl⟩:=KY.mp mx;obtain ⟨mf,fl⟩:=MH.mp mf;obtain ⟨mf,lx⟩:=(Lp pw he).mp mf;obtain ⟨g',YY,zw,iq,ef⟩:=sO mf;obtain ⟨p',q',k1,k2,k3⟩:=uT zw;obtain ⟨j1,j2,j3⟩:=P4 (n:=f.n) k3;rw [<-ef] at j1 j2 j3;refine ⟨⟨f.n,f.k,g',lx,YY,by rw [j1,j2];exact k3,iq⟩,?_⟩;simp only;rw [j1,j2,<-j3]
    simpa using fl
   ·rintro ⟨⟨j,i',g',lx,YY,mj,iq⟩,hl⟩;have gc:i'<g'.o.length:=by rw [<-sZ];exact (KU.mp mj).1
    obtain ⟨j1,j2,j3⟩:=P4 (n:=j) (show (zr g'.o)[i']? = some (x.1,x.2) from mj);refine KY.mpr ⟨xK j g' i',MH.mpr ⟨(Lp pw he).mpr ⟨ML.mpr ⟨(g',j),LV.mpr YY,KY.mpr ⟨i',MH.mpr ⟨MU.mpr gc,iq⟩,rfl⟩⟩,lx⟩,?_⟩,?_⟩
    ·rw [decide_eq_true_eq,j3];exact hl
    ·rw [j1,j2]
  have en:=Tt C.ha C.hb' C.ne;have bb:∀s∈bs.map bD,rP s:=λs m=>by
   obtain ⟨g,mg,rfl⟩:=KY.mp m;exact oI (hb g mg).ok
  have twok:∀x∈F6 ((gP bs marks).take i) (cO (fA p q)),Pb x.1/\Pb x.2:=λx m=>by
   obtain ⟨⟨j,i,g,_,hj,hi,_⟩,_⟩:=(YJ x).mp m;obtain ⟨p1,p2,_⟩:=(hb g (KZ hj)).ed (KZ hi);exact ⟨p1,p2⟩
  have wk:=pO (lQ bs marks e.n p q) (Hs (x:=0) C.ro.s λc m=>(C.ro.b c m).1);have:=X0 (k:=e.n) (i:=e.k) (a:=p) (b:=q) (l:=cO (fA p q)) (Io bb en twok) (Jc wk (vZ C)).2.1 (C1 cu YJ);refine Eq.trans ?_ this;unfold dQ;rw [l1,l2]
 have e1:(gP bs marks).zipIdx.flatMap (λx=>dQ x.1 (fD (bs.map bD) x.1.p x.1.q (F6 ([]++(gP bs marks).take x.2) x.1.l)))=(gP bs marks).zipIdx.flatMap (λx=>match bs[x.1.n]? with
   | none=>[]
   | some g=>cont bs marks x.1.n g x.1.k):=by
  rw [QN,QN,RA one]
 rw [e1];have e2:(gP bs marks).zipIdx.flatMap (λx:EI×Nat=>match bs[x.1.n]? with
   | none=>[]
   | some g=>cont bs marks x.1.n g x.1.k)=(gP bs marks).flatMap λe=>match bs[e.n]? with
   | none=>[]
   | some g=>cont bs marks e.n g e.k:=by
  have:(gP bs marks).zipIdx.map Prod.fst=gP bs marks:=by simp
  conv=>rhs;rw [<-this,RT]
 rw [e2];unfold gP;rw [List.flatMap_assoc];rw [QN,QN]
 congr 1
 refine RA λx m=>?_;have hx:bs[x.2]? = some x.1:=LV.mp m;unfold Wd;rw [RT];have:∀L:List Nat,((L.filter λk=>uZ marks (rG x.1.m k)).flatMap λi=>match bs[(xK x.2 x.1 i).n]? with
   | none=>[]
   | some g=>cont bs marks (xK x.2 x.1 i).n g (xK x.2 x.1 i).k)=L.flatMap (cont bs marks x.2 x.1):=λL=>by
  induction L with
  | nil=>rfl
  | cons i L ih=>
   by_cases c:uZ marks (rG x.1.m i)=true
   ·rw [NG (p:=λk=>uZ marks (rG x.1.m k)) c,MT,MT,ih]
    congr 1
    show (match bs[x.2]? with
     | none=>[]
     | some g=>cont bs marks x.2 g i)=_
    rw [hx]
   ·rw [NM (p:=λk=>uZ marks (rG x.1.m k)) c,MT,ih];have:cont bs marks x.2 x.1 i=[]:=by unfold cont;rw [if_neg c]
    rw [this,MZ]
 exact this _
end
end My
namespace My
open PySem L2 PyProof.Rows
section
variable {P:SS} {w:SW} {K:W.Frag} {mg:Str->Option Value} {base:Heap}
def L7 (n:Nat):iC:=λas Q=>∃x:L2.T,as=[.v x,.v x]/\dT x<=n/\dT x<=50/\wT x<900/\Q (.v (.bl true)) []
def tF:Nat->iC
 | 0=>λ_ _=>False
 | n+1=>L7 n
abbrev Zt (P w K mg base):=Fn P w K mg base 7 "_law_same" ["_law_found","_law_due"] (aU K (tF 7))
abbrev uN:TB:=top 63
theorem Yi:aL ["_law_found","_law_due"] ["_law_found","_law_due"] (aG uN):=⟨rfl,rfl,rfl,by decide +kernel,rfl,by decide +kernel,by decide +kernel⟩
theorem Yn:∀{xs:List L2.T} {i:Nat} {t:L2.T},(eY xs xs)[i]? = some t->∃x,xs[i]? = some x/\t = .tup [x,x]:=λh=>by
 obtain ⟨x,y,h1,h2,h3⟩:=uJ h;rw [h1] at h2;cases h2;exact ⟨x,h1,h3⟩
theorem tX:∀n:Nat,jN (LY n (.bl true))=some (LY n true)
 | 0=>rfl
 | n+1=>by rw [List.replicate_succ,jN,tX n];rfl
theorem xQ:∀n:Nat,dN (LY n (.bl true))=true
 | 0=>rfl
 | n+1=>by rw [List.replicate_succ,dN,xQ n];rfl
theorem Tn {f:SO} {fd:SR} {n:Nat} (F:eM K "_law_same" "_law_same" uN f fd) (TX:Txt mg) (g_same:Fn P w K mg base n "_law_same" ["_law_found","_law_due"] (aU K (tF n))):bF P w K mg base e9 (n+1) f fd ["_law_found","_law_due"] (aU K (L7 n)):=by
 refine F.okT Yi ?len (λVS A outer s H E hr=>(aE (cU (qR (Yw Ff yD rfl rfl TX.n_isinstance (fv 1) rfl TX.n_list xO rfl TX.n_tuple sY (by decide) (by decide))) (aE (cU (nP (uR (i6 rfl hr (iV Ff rfl rfl TX.n_isinstance (fv 0) rfl TX.n_list xO (by decide)) (iV Ff rfl rfl TX.n_isinstance (fv 1) rfl TX.n_list xO (by decide)) (aR _)) (nO (i6 rfl hr (iV yD rfl rfl TX.n_isinstance (fv 0) rfl TX.n_tuple sY (by decide)) (iV yD rfl rfl TX.n_isinstance (fv 1) rfl TX.n_tuple sY (by decide)) (aR _))))) (aH (aQ xC)) bY)
 (aH (aQ (tU (Dq rfl hr (fT rfl rfl TX.n_len (fc (fv 0) aA)) (fT rfl rfl TX.n_len (fc (fv 1) aA)) (aR _)) (uF (U7 rfl rfl rfl TX.n_all (fc (jJ (N':=["_law_one","_law_other"]) (t:=2) (cap:=[]) rfl (bP.of rfl) rfl (by decide) (zV rfl rfl TX.n_zip (fc (fv 0) (fc (fv 1) aA))) (λ_ _ _ _=>(bV (n:=2) rfl rfl (aJ (aI (i:=0) (show MQ (["_law_one","_law_other"]:List Str) by decide +kernel) rfl (LA rfl) (MM rfl)) (aJ (aI (i:=1) (show MQ (["_law_one","_law_other"]:List Str) by decide +kernel) rfl (LA rfl) (MM rfl)) bK)))) (λ_ _ _ _=>(aC g_same hr (by omega) rfl (fc (fv 0) (fc (fv 1) aA))))) aA))))))) bY)
 (aE (cU (nP (uR (Er (fv 1) (aR _)) (nO (qR (iV Ve rfl rfl TX.n_isinstance (fv 1) rfl TX.n_str Fw (by decide)))))) (aH (aQ (tU (Dq rfl hr (fv 0) (fv 1) (aR _)) (uF (Dq rfl hr (iV Ve rfl rfl TX.n_isinstance (fv 0) rfl TX.n_str Fw (by decide)) (iV Ve rfl rfl TX.n_isinstance (fv 1) rfl TX.n_str Fw (by decide)) (aR _)))))) bY)
 (aE (cU (qR (iV Hl rfl rfl TX.n_isinstance (fv 1) rfl TX.n_bool xM (by decide))) (aH (aQ (tU (iV Hl rfl rfl TX.n_isinstance (fv 0) rfl TX.n_bool xM (by decide)) (uF (Dq rfl hr (fv 0) (fv 1) (aR _)))))) bY)
 (aH (aQ (tU (iV BI rfl rfl TX.n_isinstance (fv 0) rfl TX.n_int U0 (by decide)) (tU (Y5 (iV Hl rfl rfl TX.n_isinstance (fv 0) rfl TX.n_bool xM (by decide))) (uF (Dq rfl hr (fv 0) (fv 1) (aR _))))))))))) ?rd
 case len=>rintro as Q ⟨x,rfl,_⟩;rfl
 case rd=>
  rintro as Q ⟨x,rfl,hd,hd2,hw,q⟩;have seq:∀(xs:List L2.T) (Q:En->Prop),xs.length<900->Pg xs<900->qF xs+1<=n->qF xs+1<=50->(∀v0 v1,Q [v0,v1,some (.o false (LY xs.length (.bl true)))])->
    iH (M4 2 (Jg (Jf 0) (Jg (Jf 1) N3))) (Pz (tF n) (Td (Yg 0) (Td (Yg 1) BP))) (eY xs xs) [none,none,some (.o false [])] Q:=λxs Q hl hw h1 h2 hQ=>by
   refine xD (λi E=>∃v0 v1,E=[v0,v1,some (.o false (LY i (.bl true)))]/\i<=xs.length) ⟨none,none,rfl,MJ _⟩ ?_ ?_
   ·rintro i t rest E hi ⟨v0,v1,rfl,hil⟩ KK;obtain ⟨x,hx,rfl⟩:=Yn hi;have XB:i<xs.length:=(KU.mp hx).1;have hm:=nV (KZ hx);obtain ⟨m,rfl⟩:∃m,n=m+1:=⟨n-1,by omega⟩;have hm2:=Tv (KZ hx);refine ⟨x,rfl,by omega,by omega,by omega,?_⟩;refine ⟨by rw [OI];omega,KK _ ⟨some (.p x),some (.p x),?_,XB⟩⟩;rw [List.replicate_succ'];rfl
   ·rintro E ⟨v0,v1,rfl,_⟩;rw [mQ,Nat.min_self];exact hQ v0 v1
  have fin:∀k:Nat,(LY k true).all id=true:=λk=>by simp
  cases x with
  | int i=>exact ⟨MJ _,rfl,by rw [hV];exact q⟩
  | bl c=>exact ⟨MJ _,rfl,by rw [hV];exact q⟩
  | non=>exact ⟨MJ _,MJ _,rfl,q⟩
  | str z=>
   refine ⟨MJ _,?_⟩;show if L2.eD (.str z) (.str z)=true then _ else _;rw [hV,if_pos rfl];exact ⟨MJ _,rfl,q⟩
  | tup xs=>
   have e1:L2.eD (.int (xs.length:Int)) (.int (xs.length:Int))=true:=hV _;have fo:qF xs+1<=n/\qF xs+1<=50:=⟨hd,hd2⟩;have df:OX xs.length (Pg xs)<900:=hw;have zy:xs.length<900:=MF (OZ _ _) df;have hw2:Pg xs<900:=MF (OU _ _) df;refine ⟨MJ _,MJ _,MJ _,?_⟩;show if L2.eD (.int (xs.length:Int)) (.int (xs.length:Int))=true then _ else _;rw [e1,if_pos rfl];refine ⟨rfl,seq xs _ zy hw2 fo.1 fo.2 λv0 v1=>⟨xQ _,?_⟩⟩;show o1 (jN (LY xs.length (.bl true))) _;rw [tX];refine ⟨rfl,?_⟩;rw [fin];exact q
  | lst xs=>
   have e1:L2.eD (.int (xs.length:Int)) (.int (xs.length:Int))=true:=hV _;have fo:qF xs+1<=n/\qF xs+1<=50:=⟨hd,hd2⟩;have df:OX xs.length (Pg xs)<900:=hw;have zy:xs.length<900:=MF (OZ _ _) df;have hw2:Pg xs<900:=MF (OU _ _) df;refine ⟨MJ _,MJ _,MJ _,?_⟩;show if L2.eD (.int (xs.length:Int)) (.int (xs.length:Int))=true then _ else _;rw [e1,if_pos rfl];refine ⟨rfl,seq xs _ zy hw2 fo.1 fo.2 λv0 v1=>⟨xQ _,?_⟩⟩;show o1 (jN (LY xs.length (.bl true))) _;rw [tX];refine ⟨rfl,?_⟩;rw [fin];exact q
theorem Kv {f:SO} {fd:SR} (F:eM K "_law_same" "_law_same" uN f fd) (TX:Txt mg) (hm:mg "_law_same" = some (.ref f)) (hk:W.keepIn K (.ref f)=true) (hb:j9 K fd ["_law_found","_law_due"] []) :
  ∀n,bF P w K mg base e9 n f fd ["_law_found","_law_due"] (aU K (tF n))
 | 0=>⟨λ_ _ _ _ ⟨_,_,_,_,_,h,_⟩=>h.elim,λ_ _ _ _ _ _ _ _ _ _ _ _ _ ⟨_,_,_,_,_,h,_⟩=>h.elim⟩
 | n+1=>Tn F TX ⟨⟨f,fd,Kv F TX hm hk hb n,hm,hk,hb⟩⟩
end
end My
namespace My
open PySem L2 PyProof.Rows
section
variable {P:SS} {w:SW} {K:W.Frag} {mg:Str->Option Value} {base:Heap}
theorem Jo (a b x:Pt):∀(es:List (Pt×Pt)) (i:Nat),(sR a b x es i).1<=3
 | [],i=>by simp [sR]
 | e::es,i=>by
  unfold sR
  split
  ·split<;>simp
  ·exact Jo a b x es (i+1)
theorem Up (o:List Pt) (a b x:Pt):(cM o a b x).1<=3:=by
 unfold cM
 split
 ·split<;>simp
 ·exact Jo a b x _ _
theorem DU (n:Nat):L2.dT (Wg n)<=1:=by
 match n with
 | 0 | 1 | 2 | _+3=>exact eZ rfl
theorem W7 (n:Nat):noL (Wg n)=true:=by
 match n with
 | 0 | 1 | 2 | _+3=>rfl
theorem qH (found:List lV) (row:lV):found.length<=(lD found row).length:=by
 unfold lD;cases q:found.getLast? with
 | none=>simp
 | some l=>
  simp only
  split
  ·have:found≠[]:=λz=>by rw [z] at q;simp at q
   have:=List.length_pos_iff.mpr this;simp;omega
  ·simp
theorem kB {α:Type} {F:List lV->α->List lV} (h:∀f x,f.length<=(F f x).length):∀(xs:List α) (f:List lV),f.length<=(xs.foldl F f).length
 | [],f=>LF _
 | x::xs,f=>MG (h f x) (kB h xs (F f x))
theorem wV {bs:List bW} {marks:Str} {k:Nat} {g:bW} (f:List lV) (i:Nat):f.length<=(mI bs marks k g f i).length:=by
 unfold mI
 split
 ·exact kB (λf x=>qH f _) _ f
 ·exact LF _
theorem Gn {bs:List bW} {marks:Str} (f:List lV) (x:bW×Nat):f.length<=(kJ bs marks f x).length:=kB (λf i=>wV f i) _ f
theorem Vz {α:Type} {f:α->L2.T} (xs:List α):eD (.lst (xs.map f)) (.lst [])=xs.isEmpty:=by
 cases xs with
 | nil=>rfl
 | cons x xs=>rfl
theorem DX (k i k' i':Nat):eD (.tup [.int (k:Int),.int (i:Int)]) (.tup [.int (k':Int),.int (i':Int)])=decide (k=k'/\i=i'):=by
 rw [NQ];simp only [L2.eD,L2.qK,SK,LX,beq_iff_eq,decide_eq_true_eq];omega
theorem AZ (p q:Pt):eD (pt p) (pt q)=decide (p=q):=by
 unfold pt;rw [G4,NQ,decide_eq_true_eq,decide_eq_true_eq];exact ⟨λh=>Prod.ext h.1 h.2,λh=>by rw [h];exact ⟨rfl,rfl⟩⟩
theorem Rr {α:Type} {f:α->L2.T} (L:List α) (x:α):gN ((L++[x]).map f) (-1)=some (f x):=by
 rw [MI];have e:Ah (L.map f++[f x]).length (-1)=some (L.map f).length:=by
  unfold Ah;rw [if_neg (by decide),if_pos (by rw [LC,ME];omega),LC,ME]
  congr 1;omega
 unfold gN;rw [show [x].map f=[f x] from rfl,e];simp
theorem U3 {α:Type} {f:α->L2.T} (xs:List α) (m:Nat):iN (xs.map f) none (some (m:Int))=(xs.take m).map f:=by
 unfold iN;rw [HT.sIx_none,HT.sIx_nat,RB,Nat.sub_zero,QL];rcases Nat.le_total m (xs.map f).length with h | h
 ·rw [QV h]
 ·rw [Nat.min_eq_right h,NC (LF _),NC h]
theorem Lc {α:Type} (p:α->Bool):∀xs:List α,jN (xs.map λx=>L2.T.bl (p x))=some (xs.map p)
 | []=>rfl
 | x::xs=>by rw [MO,jN,Lc p xs];rfl
def Xc (y:(Nat×Nat)×Str):L2.T:=AF y.2 y.1
theorem P9 (y:(Nat×Nat)×Str):noL (Xc y)=true:=by
 have:=W7 y.1.1;show dN [Wg y.1.1,_]=true;rw [dN,this];rfl
theorem Q9 (n:Nat) (h:n<=3):eD (Wg n) (.str "beside")=decide (n=2):=by
 have:n=0\/n=1\/n=2\/n=3:=by omega
 rcases this with rfl | rfl | rfl | rfl<;>decide
theorem CF (n:Nat) (h:n<=3):Gw (Wg n) [.str "over",.str "beyond"]=(decide (n=1)||decide (n=3)):=by
 have:n=0\/n=1\/n=2\/n=3:=by omega
 rcases this with rfl | rfl | rfl | rfl<;>decide
theorem CD {bs:List bW} {k:Nat} {a b x:Pt}:∀y∈kC bs k a b x,y.1.1<=3:=λy m=>by
 obtain ⟨u,_,rfl⟩:=KY.mp m;exact Up _ _ _ _
structure HJ where
 k:Option U
 bl:Option U
 i:Option U
 c:Option U
 a:Option U
 b:Option U
 l:Option U
 h:Option U
 p:Option U
 t:Option U
 d:Option U
 r:Option U
def F7:iC:=λas Q=>∃(bs:List bW) (marks:Str),as=[.v (.lst (bs.map dJ)),.v (.str marks)]/\bs.length<=10/\(∀b∈bs,LB 400 b)/\(Dp bs marks).length<900/\Q (.l ((Dp bs marks).map jU)) []
abbrev Lj (P w K mg base):=Fn P w K mg base 6 "_law_rim" ["_law_some","_law_marks"] (aU K F7)
abbrev Hr:TB:=top 62
theorem dP:aL ["_law_some","_law_marks","_law_found","_law_k","_law_block","_law_at","_law_cuts_here","_law_a","_law_b","_law_low","_law_high","_law_point","_law_told","_law_ahead","_law_row"] ["_law_some","_law_marks"] (aG Hr):=hU
theorem Xe {f:SO} {fd:SR} (F:eM K "_law_rim" "_law_rim" Hr f fd) (TX:Txt mg) (ZG:Av P w K mg base) (ZN:Sz P w K mg base) (VL:fV P w K mg base) (WX:sD P w K mg base) (YT:wG P w K mg base)  (uy:mg "any" = none):bF P w K mg base e9 6 f fd ["_law_some","_law_marks"] (aU K F7):=by
 refine F.okT dP ?len (λVS A outer s H E hr=>(aE (aX (i:=2) dP.nd rfl (LA rfl) (bN aA))
 (aE (dY PassesOwn.never rfl (mK rfl rfl TX.n_enumerate (fc (fv 0) aA)) (bV (n:=2) rfl rfl (aJ (aI (i:=3) dP.nd rfl (MM rfl)) (aJ (aI (i:=4) dP.nd rfl (LA rfl)) bK)))
  (aH (dY PassesOwn.never rfl (gU rfl TX.n_range (fc (fT rfl rfl TX.n_len (fc (aF rfl (fv 4) aB (λ_ _=>rfl)) aA)) aA)) (aI (i:=5) dP.nd rfl (LA rfl))
  (aE (iY (aO (fc (aF rfl (aF rfl (fv 4) aB (λ_ _=>rfl)) (fv 5) (λ_ _=>rfl)) (fc (aF rfl (aF rfl (fv 4) aB (λ_ _=>rfl)) (aZ bZ (aZ gK (fv 5) (fT rfl rfl TX.n_len (fc (aF rfl (fv 4) aB (λ_ _=>rfl)) aA))) aB) (λ_ _=>rfl)) aA))) (bV (n:=2) rfl rfl (aJ (aI (i:=7) dP.nd rfl (MM rfl)) (aJ (aI (i:=8) dP.nd rfl (MM rfl)) bK))))
 (aE (aX (i:=6) dP.nd rfl (LA rfl) (nE (Ek (Gi rfl (aF rfl (fv 4) aB (λ_ _=>rfl)) (fv 5) (λ_ _=>rfl)) (fv 1)) (aC ZG hr (by omega) rfl (fc (fv 0) (fc (fv 3) (fc (fv 7) (fc (fv 8) aA))))) (bN aA)))
 (aH (dY PassesOwn.never rfl (zV rfl rfl TX.n_zip (fc (fv 6) (fc (iU rfl (fv 6) (eQ aB) gJ) aA))) (bV (n:=2) rfl rfl (aJ (aI (i:=9) dP.nd rfl (LA rfl)) (aJ (aI (i:=10) dP.nd rfl (LA rfl)) bK)))
  (aE (aX (i:=11) dP.nd rfl (MM rfl) (aC ZN hr (by omega) rfl (fc (fv 7) (fc (fv 8) (fc (aC VL hr (by omega) rfl (fc (aC WX hr (by omega) rfl (fc (fv 9) (fc (fv 10) aA))) (fc (aO (fc aB (fc aB aA))) aA))) aA)))))
 (aE (As (i:=12) (N':=["_law_j","_law_one","_law_a","_law_b","_law_point","_law_k"]) (t:=2) (cap:=[(7,false),(8,false),(11,false),(3,false)]) dP.nd rfl (LA rfl) rfl rfl (bP.of rfl) rfl (by decide) (mK rfl rfl TX.n_enumerate (fc (fv 0) aA)) (λ_ _ _ _=>(bV (n:=2) rfl rfl (aJ (aI (i:=0) (show MQ (["_law_j","_law_one","_law_a","_law_b","_law_point","_law_k"]:List Str) by decide +kernel) rfl (LA rfl) (MM rfl)) (aJ (aI (i:=1) (show MQ (["_law_j","_law_one","_law_a","_law_b","_law_point","_law_k"]:List Str) by decide +kernel) rfl (LA rfl) (MM rfl)) bK)))) (λ_ _ _ _=>(i6 rfl hr (fv 0) (fv 5) (aR _))) (λ_ _ _ _=>(aC YT hr (by omega) rfl (fc (fv 1) (fc (fv 2) (fc (fv 3) (fc (fv 4) aA)))))))
 (aE (As (i:=13) (N':=["_law_word","_law_mark","_law_marks"]) (t:=2) (cap:=[(1,false)]) dP.nd rfl (LA rfl) rfl rfl (bP.of rfl) rfl (by decide) (d9 rfl (iU rfl (fv 12) gJ (eQ (fv 3)))) (λ_ _ _ _=>(bV (n:=2) rfl rfl (aJ (aI (i:=0) (show MQ (["_law_word","_law_mark","_law_marks"]:List Str) by decide +kernel) rfl (LA rfl) (MM rfl)) (aJ (aI (i:=1) (show MQ (["_law_word","_law_mark","_law_marks"]:List Str) by decide +kernel) rfl (LA rfl) (MM rfl)) bK)))) (λ_ _ _ _=>(nP (jY (qX rfl hr (fv 0) cD (aR _)) (jS (Ek (fv 1) (fv 2)))))) (λ_ _ _ _=>(fv 1)))
 (aH (cU (nP (jY (qX rfl hr (fv 13) (bN aA) (aR _)) (jS (Qb (qR (Q8 rfl rfl rfl uy (fc (jJ (N':=["_law_word","_law_mark"]) (t:=2) (cap:=[]) rfl (bP.of rfl) rfl (by decide) (d9 rfl (fv 12)) (λ_ _ _ _=>(bV (n:=2) rfl rfl (aJ (aI (i:=0) (show MQ (["_law_word","_law_mark"]:List Str) by decide +kernel) rfl (LA rfl) (MM rfl)) (aJ (aI (i:=1) (show MQ (["_law_word","_law_mark"]:List Str) by decide +kernel) rfl (LA rfl) (MM rfl)) bK)))) (λ_ _ _ _=>(R0 rfl hr (fv 0) (aO (fc cD (fc cD aA))) rfl))) aA))))))) (aE (aX (i:=14) dP.nd rfl (LA rfl) (aO (fc (fv 3) (fc (fv 5) (fc (aC ZN hr (by omega) rfl (fc (fv 7) (fc (fv 8) (fc (fv 9) aA)))) (fc (aC ZN hr (by omega) rfl (fc (fv 7) (fc (fv 8) (fc (fv 10) aA)))) aA))))))
 (aE (cU (nP (jY (i6 rfl hr (fv 2) (bN aA) (aR _)) (jY (qX rfl hr (kD rfl (aF rfl (fv 2) (qA aB) (λ_ _=>rfl)) gJ (eQ aB)) (kD rfl (fv 14) gJ (eQ aB)) (aR _)) (jS (qX rfl hr (aF rfl (aF rfl (fv 2) (qA aB) (λ_ _=>rfl)) aB (λ_ _=>rfl)) (aF rfl (fv 14) aB (λ_ _=>rfl)) (aR _)))))) (aH (aX (i:=14) dP.nd rfl (LA rfl) (Lb rfl (kD rfl (Wq rfl (fv 2)) gJ (eQ aB)) (kD rfl (fv 14) (eQ aB) gJ)))) bY)
 (aH (d8 (dX rfl (fv 2) (fc (fv 14) aA)))))) bY))))))))))))
 (aH (aQ (fv 2)))))) ?rd
 case len=>rintro as Q ⟨bs,marks,rfl,_⟩;rfl
 case rd=>
  rintro as Q ⟨bs,marks,rfl,hl,hb,hlen,z⟩;show dG _ _ _ ((bs.map dJ).zipIdx.map λq=>L2.T.tup [.int (q.2:Int),q.1]) _;rw [El];refine cW (f:=λq:bW×Nat=>L2.T.tup [.int (q.2:Int),dJ q.1]) (λs:List lV×HJ=>[some (.p (.lst (bs.map dJ))),some (.p (.str marks)),some (.o false (s.1.map jU)),s.2.k,s.2.bl,s.2.i,s.2.c,s.2.a,s.2.b,s.2.l,s.2.h,s.2.p,s.2.t,s.2.d,s.2.r])
   (λxs s=>(∀x∈xs,bs[x.2]? = some x.1)/\xs.foldl (kJ bs marks) s.1=Dp bs marks) ?_ ?_ bs.zipIdx ([],⟨none,none,none,none,none,none,none,none,none,none,none,none⟩) ⟨λx m=>LV.mp m,rfl⟩
  ·rintro x xs ⟨fd,w⟩ rest ⟨hx,e⟩ K;obtain ⟨g,k⟩:=x;have hg:bs[k]? = some g:=hx (g,k) (by simp);have VY:∀x∈xs,bs[x.2]? = some x.1:=λy m=>hx y (by simp [m]);have lg:=hb g (KZ hg);have gl:=lg.len;rw [NH] at e;have lF:(kJ bs marks fd (g,k)).length<900:=by
    have:=kB (λf x=>Gn (bs:=bs) (marks:=marks) f x) xs (kJ bs marks fd (g,k));rw [e] at this;omega
   have KB:=λs'=>K (kJ bs marks fd (g,k),s') ⟨VY,e⟩;generalize hF:kJ bs marks fd (g,k)=F at lF KB;refine ⟨?_,?_⟩
   ·show -(2^62)<=(((g.o.map pt).length:Nat):Int)/\(((g.o.map pt).length:Nat):Int)<2^62;rw [KW];omega
   show oC _ (dG _ _ _ (kP 0 (((g.o.map pt).length:Nat):Int).toNat));rw [NJ,KW];refine cW (f:=λi:Nat=>L2.T.int ((0:Int)+(i:Int))) (λs:List lV×HJ=>[some (.p (.lst (bs.map dJ))),some (.p (.str marks)),some (.o false (s.1.map jU)),some (.p (.int (k:Int))),some (.p (dJ g)),s.2.i,s.2.c,s.2.a,s.2.b,s.2.l,s.2.h,s.2.p,s.2.t,s.2.d,s.2.r])
    (λjs s=>(∀j∈js,j<g.o.length)/\js.foldl (mI bs marks k g) s.1=F) ?_ ?_ (MV g.o.length) (fd,w) ⟨λj m=>MU.mp m,hF⟩
   ·rintro i js ⟨fd,w⟩ uz ⟨hj,e2⟩ K2;have hi:i<g.o.length:=hj i (by simp);have hjs:∀j∈js,j<g.o.length:=λj m=>hj j (by simp [m]);simp only [NH] at e2;have lE:(mI bs marks k g fd i).length<900:=by
     have:=kB (λf x=>wV (bs:=bs) (marks:=marks) (k:=k) (g:=g) f x) js (mI bs marks k g fd i);rw [e2] at this;omega
    have KE:=λs'=>K2 (mI bs marks k g fd i,s') ⟨hjs,e2⟩;have cu:=yJ hb hg hi;have C0:=cu.c;have ha:=C0.ha;have hb':=C0.hb';have ne:=C0.ne;obtain ⟨p,q,h1,h2,h3⟩:=uT hi;have ea:eA g i=p:=by unfold eA;rw [LH,h1];rfl
    have eb:eB g i=q:=by unfold eB;rw [LH,h2];rfl
    have e0:(0:Int)+(i:Int)=(i:Int):=by omega
    show o1 (gN (g.o.map pt) ((0:Int)+(i:Int))) _;rw [e0,hR h1];show o1 (gN (g.o.map pt) ((i:Int)-((g.o.map pt).length:Int)+1)) _;rw [zC hi h2];have qd:=L8 (m:=g.m) (k:=i) (by have:=lg.m.len;omega);have lbm:g.m.length<=big:=by
     show g.m.cps.size<=big;rw [lg.m.len];exact MG gl.2 (by decide)
    refine ⟨lbm,?_⟩;show o1 (gN g.m.cps.toList (i:Int)) _;rw [qd];show if uZ marks (rG g.m i)=true then _ else _;unfold mI at lE KE;rw [ea,eb] at lE KE ne;rw [ea] at ha;rw [eb] at hb'
    by_cases cm:uZ marks (rG g.m i)=true
    ·rw [if_pos cm];rw [if_pos cm] at lE KE;refine ⟨bs,(k:Int),p,q,rfl,by omega,λx m=>⟨(hb x m).len.2,(hb x m).pb⟩,ha,hb',ne,?_⟩;have nS:=jP hb (k:=(k:Int)) ha hb' ne;have ro:Qy (eT (k:Int) p q bs.zipIdx) (cQ bs k p q):=xP λf m=>(nS f m).1;have cz:∀c∈cQ bs k p q,cF c/\sz c<=400:=λc m=>⟨ro.n c m,by
      rcases ro.k c m with rfl | rfl | m
      ·have:=CU;omega
      ·have:=Z4;omega
      ·exact (nS c m).2⟩
     unfold iP at lE KE;generalize cQ bs k p q=C at lE KE cz ⊢;have ez:eY (C.map fr) (iN (C.map fr) (some 1) none)=(C.zip C.tail).map λp=>L2.T.tup [fr p.1,fr p.2]:=by rw [Rc,<-SM,zip_map]
     show oC _ (dG _ _ _ (eY (C.map fr) (iN (C.map fr) (some 1) none)));rw [ez];have hz:∀x∈C.zip C.tail,x.1∈C/\x.2∈C:=λx m=>by
      obtain ⟨m1,m2⟩:=NY (a:=x.1) (b:=x.2) m;exact ⟨m1,OE m2⟩
     generalize C.zip C.tail=Z at lE KE hz ⊢;generalize hF2:(Z.filter (lQ bs marks k p q)).foldl (λf x=>lD f (pI k i p q x)) fd=F2 at lE KE;refine cW (f:=λp:Fr×Fr=>L2.T.tup [fr p.1,fr p.2]) (λs:List lV×HJ=>[some (.p (.lst (bs.map dJ))),some (.p (.str marks)),some (.o false (s.1.map jU)),some (.p (.int (k:Int))),some (.p (dJ g)),some (.p (.int (i:Int))),some (.p (.lst (C.map fr))),some (.p (pt p)),some (.p (pt q)),s.2.l,s.2.h,s.2.p,s.2.t,s.2.d,s.2.r])
      (λZ' s=>(∀x∈Z',x.1∈C/\x.2∈C)/\(Z'.filter (lQ bs marks k p q)).foldl (λf x=>lD f (pI k i p q x)) s.1=F2) ?_ ?_ Z (fd,w) ⟨hz,hF2⟩
     ·rintro x Z' ⟨fd,w⟩ aCK ⟨hx,e3⟩ K3;obtain ⟨m1,m2⟩:=hx x (by simp);obtain ⟨c1,z1⟩:=cz _ m1;obtain ⟨c2,z2⟩:=cz _ m2;have ZY:∀y∈Z',y.1∈C/\y.2∈C:=λy m=>hx y (by simp [m]);have sa:=yS c1 c2;have na:=gL c1 c2;have wm:cF ((1,2):Fr):=⟨by decide,by decide⟩;have s12:sz ((1,2):Fr)<=2:=qT (by decide) (by decide) (by decide);have sm:=iD na wm;refine ⟨_,_,rfl,c1,c2,by omega,_,(1,2),rfl,na,wm,by omega,?_⟩;refine ⟨p,q,iK x,rfl,ha,hb',bG na wm,by unfold iK;omega,?_⟩;have nx:Nv (dD p q (iK x)).1 (dD p q (iK x)).2 1000:=by
       have n1:=dC hb'.v ha.v;have n2:=Gb n1 (bG na wm);exact (Q3 ha.v n2).up (by omega)
      have ek:lQ bs marks k p q x=((((kC bs k p q (dD p q (iK x))).take k).filter (jA marks)).isEmpty&&!(kC bs k p q (dD p q (iK x))).any m9):=rfl;have tl:=CD (bs:=bs) (k:=k) (a:=p) (b:=q) (x:=dD p q (iK x));have tn:(kC bs k p q (dD p q (iK x))).length<=10:=by
       unfold kC;rw [KW];have:=OK (λy:bW×Nat=>!decide ((y.2:Int)=(k:Int))) bs.zipIdx;rw [PY] at this;omega
      have et:([]++(bs.zipIdx.filter λy=>!decide ((y.2:Int)=(k:Int))).map λy=>AF y.1.m (cM y.1.o p q (dD p q (iK x))))=(kC bs k p q (dD p q (iK x))).map Xc:=by
       unfold kC;rw [MZ,MK];rfl
      generalize dD p q (iK x)=X at *;refine ⟨rfl,?_⟩;show fM _ _ _ ((bs.map dJ).zipIdx.map λq=>L2.T.tup [.int (q.2:Int),q.1]) _ _;rw [El];refine gZ (f:=λy:bW×Nat=>L2.T.tup [.int (y.2:Int),dJ y.1]) (h:=λy=>AF y.1.m (cM y.1.o p q X)) (λy=>!decide ((y.2:Int)=(k:Int))) (λ(v:Option U×Option U) acc=>[v.1,v.2,some (.p (pt p)),some (.p (pt q)),some (.p (pt X)),some (.p (.int (k:Int))),some (.o false acc)]) bs.zipIdx (none,none) [] (by simp;omega) (λy m v acc au ZK K'=>?_) λv=>?_
      ·obtain ⟨g',j⟩:=y;have YY:=hb g' (KZ (LV.mp m));have kk:=K' (some (.p (.int (j:Int))),some (.p (dJ g')));simp only at kk;refine ⟨eZ rfl,?_⟩;show if (!(eD (.int (j:Int)) (.int (k:Int))))=true then _ else _;rw [EZ]
       by_cases c:(j:Int)=(k:Int)
       ·rw [decide_eq_true c,if_neg (by decide)];rw [decide_eq_true c,if_neg (by decide)] at kk;exact kk
       ·rw [decide_eq_false c,if_pos (by decide)];rw [decide_eq_false c,if_pos (by decide)] at kk;have ll:=YY.len;exact ⟨g',p,q,X,rfl,by omega,by omega,YY.m.len,YY.pb,ha,hb',nx,ZK,kk⟩
      ·rw [et];generalize kC bs k p q X=T at *;refine ⟨bA P9 _,?_⟩;refine (?_:oC [some (.p (.lst (bs.map dJ))),some (.p (.str marks)),some (.o false (fd.map jU)),some (.p (.int (k:Int))),some (.p (dJ g)),some (.p (.int (i:Int))),some (.p (.lst (C.map fr))),some (.p (pt p)),some (.p (pt q)),some (.p (fr x.1)),some (.p (fr x.2)),some (.p (pt X)),some (.o false (T.map Xc)),w.d,w.r] _);refine ⟨rfl,?_⟩;show fM _ _ _ (iN (T.map Xc) none (some (k:Int))) _ _;rw [U3];refine gZ (f:=Xc) (h:=λy=>.str (if y.1.1<=1 then "" else x8 y.2 y.1.2)) (jA marks) (λ(v:Option U×Option U) acc=>[v.1,v.2,some (.p (.str marks)),some (.o false acc)]) (T.take k) (none,none) [] (by rw [MA];simp;omega) (λy m v acc au ZK K'=>?_) λv=>?_
       ·have y3:=tl y (NW m);obtain ⟨⟨n,at'⟩,mm⟩:=y;have kk:=K' (some (.p (Wg n)),some (.p (.str (if n<=1 then "" else x8 mm at'))));unfold jA at kk;simp only at kk y3;refine ⟨MG (DU n) (by decide),?_⟩;show if (eD (Wg n) (.str "beside"))=true then _ else _;rw [Q9 n y3]
        by_cases c:n=2
        ·subst c;rw [decide_eq_true rfl,if_pos rfl];rw [decide_eq_true rfl,QM] at kk;show if uZ marks (rG mm at')=true then _ else _
         by_cases d:uZ marks (rG mm at')=true
         ·rw [if_pos d];rw [if_pos d] at kk;exact ⟨ZK,kk⟩
         ·rw [if_neg d];rw [if_neg d] at kk;exact kk
        ·rw [decide_eq_false c,if_neg (by decide)];rw [decide_eq_false c,PF,if_neg (show ¬(false=true) by decide)] at kk;exact kk
       ·rw [MZ];refine ⟨bA (λ_=>rfl) _,?_⟩;refine (?_:oC [some (.p (.lst (bs.map dJ))),some (.p (.str marks)),some (.o false (fd.map jU)),some (.p (.int (k:Int))),some (.p (dJ g)),some (.p (.int (i:Int))),some (.p (.lst (C.map fr))),some (.p (pt p)),some (.p (pt q)),some (.p (fr x.1)),some (.p (fr x.2)),some (.p (pt X)),some (.o false (T.map Xc)),some (.o false (((T.take k).filter (jA marks)).map λy=>.str (if y.1.1<=1 then "" else x8 y.2 y.1.2))),w.r] _);have d1:L2.dT (.lst (((T.take k).filter (jA marks)).map λy=>L2.T.str (if y.1.1<=1 then "" else x8 y.2 y.1.2)))<=60:=by
         have:=jQ (f:=λy:(Nat×Nat)×Str=>L2.T.str (if y.1.1<=1 then "" else x8 y.2 y.1.2)) (n:=0) (λ_=>LF _) ((T.take k).filter (jA marks));show L2.qF _+1<=60;omega
        refine ⟨d1,?_⟩;show if (eD (.lst (((T.take k).filter (jA marks)).map λy=>L2.T.str (if y.1.1<=1 then "" else x8 y.2 y.1.2))) (.lst []))=true then _ else _;rw [Vz];generalize (T.take k).filter (jA marks)=A at *;rw [List.filter_cons] at e3;cases cA:A.isEmpty with
        | false=>
         rw [cA,PF] at ek;rw [ek,if_neg (by decide)] at e3;rw [if_neg (by decide)];exact K3 (fd,⟨none,none,none,none,none,none,_,_,_,_,_,_⟩) ⟨ZY,e3⟩
        | true=>
         rw [cA,QM] at ek;rw [if_pos rfl];refine ⟨rfl,?_⟩;show iH _ _ (T.map Xc) _ _;refine eL (f:=Xc) (h:=λy=>.bl (m9 y)) (λ(v:Option U×Option U) acc=>[v.1,v.2,some (.o false acc)]) T (none,none) [] (by simp;omega) (λy m v acc au ZK K'=>?_) λv=>?_
         ·have y3:=tl y m;obtain ⟨⟨n,at'⟩,mm⟩:=y;have kk:=K' (some (.p (Wg n)),some (.p (.str (if n<=1 then "" else x8 mm at'))));unfold m9 at kk;simp only at kk y3;rw [<-CF n y3] at kk;exact ⟨eZ rfl,ZK,kk⟩
         ·rw [MZ];refine ⟨bA (λ_=>rfl) _,?_⟩;show o1 (jN (T.map λy=>L2.T.bl (m9 y))) _;rw [Lc];have ea':(T.map m9).any id=T.any m9:=by rw [List.any_map];rfl
          show if (!((T.map m9).any id))=true then _ else _;rw [ea',<-ek];cases cK:lQ bs marks k p q x with
          | false=>
           rw [if_neg (by decide)];rw [cK,if_neg (by decide)] at e3;exact K3 (fd,⟨none,none,none,none,none,none,_,_,_,_,_,_⟩) ⟨ZY,e3⟩
          | true=>
           rw [if_pos rfl];rw [cK,if_pos rfl,NH] at e3;have lp:=kB (λf x=>qH f (pI k i p q x)) (Z'.filter (lQ bs marks k p q)) (lD fd (pI k i p q x));rw [e3] at lp;have KP:=λs'=>K3 (lD fd (pI k i p q x),s') ⟨ZY,e3⟩;refine ⟨p,q,x.1,rfl,ha,hb',c1,by omega,p,q,x.2,rfl,ha,hb',c2,by omega,?_⟩;have lf:=qH fd (pI k i p q x);unfold pI at KP lf lp;generalize dD p q x.1=P1 at *;generalize dD p q x.2=P2 at *;have d2:L2.dT (.lst (fd.map jU))<=60:=by
            have:=jQ (f:=jU) (n:=3) (λ_=>eZ rfl) fd;show L2.qF _+1<=60;omega
           refine ⟨d2,?_⟩;show if (!(eD (.lst (fd.map jU)) (.lst [])))=true then _ else _;rw [Vz];rcases List.eq_nil_or_concat fd with rfl | ⟨L,l,rfl⟩
           ·rw [if_neg (by decide)];refine ⟨(show ([]:List L2.T).length<1000 by decide),?_⟩;exact KP ⟨none,none,none,none,none,none,_,_,_,_,_,_⟩
           ·rw [List.concat_eq_append] at *;have ie:(L++[l]).isEmpty=false:=by cases L<;>rfl
            rw [ie,if_pos (by decide)];show o1 (gN ((L++[l]).map jU) (-1)) _;rw [Rr];refine ⟨(show ¬(HT.sIx 4 0 none=0/\HT.sIx 4 4 (some 2)=4) by decide),(show ¬(HT.sIx 4 0 none=0/\HT.sIx 4 4 (some 2)=4) by decide),eZ rfl,?_⟩;show if (eD (.tup [.int (l.1:Int),.int (l.2.1:Int)]) (.tup [.int (k:Int),.int (i:Int)]))=true then _ else _;rw [DX];rw [wD] at KP;simp only at KP;replace KP:=λr=>KP ⟨none,none,none,none,none,none,some (.p (fr x.1)),some (.p (fr x.2)),some (.p (pt X)),some (.o false (T.map Xc)),some (.o false (A.map λy=>.str (if y.1.1<=1 then "" else x8 y.2 y.1.2))),r⟩;have al:∀t:L2.T,((L++[l]).map jU++[t]).length<=1000:=λt=>by rw [LC,KW,ME];omega
            by_cases c3:l.1=k/\l.2.1=i
            ·rw [decide_eq_true c3,if_pos rfl];show o1 (gN ((L++[l]).map jU) (-1)) _;rw [Rr];refine ⟨eZ rfl,?_⟩;show if (eD (pt l.2.2.2) (pt P1))=true then _ else _;rw [AZ]
             by_cases c4:l.2.2.2=P1
             ·rw [decide_eq_true c4,if_pos rfl];rw [if_pos ⟨c3.1,c3.2,c4⟩] at KP;have lp0:((L++[l]).map jU)[((L++[l]).map jU).length-1]? = some (jU l):=by simp
              have dl:((L++[l]).map jU).dropLast=L.map jU:=by simp
              show o1 (((L++[l]).map jU)[((L++[l]).map jU).length-1]?) _;rw [lp0];refine ⟨(show ¬(HT.sIx 4 0 none=0/\HT.sIx 4 4 (some 3)=4) by decide),(show ¬(HT.sIx 4 0 (some 3)=0/\HT.sIx 4 4 none=4) by decide),(show 2+0<=900 by decide),?_⟩;have al':∀t:L2.T,(((L++[l]).map jU).dropLast++[t]).length<=1000:=λt=>by
               rw [dl,LC,KW,ME];simp only [LC,ME] at lf lp;omega
              refine ⟨al' _,?_⟩;have:=KP (some (.p (jU (l.1,l.2.1,l.2.2.1,P2))));rw [MI,<-dl] at this;exact this
             ·rw [decide_eq_false c4,if_neg (by decide)];rw [if_neg (λz=>c4 z.2.2)] at KP;refine ⟨al _,?_⟩;have:=KP (some (.p (jU (k,i,P1,P2))));rw [MI] at this;exact this
            ·rw [decide_eq_false c3,if_neg (by decide)];rw [if_neg (λz=>c3 ⟨z.1,z.2.1⟩)] at KP;refine ⟨al _,?_⟩;have:=KP (some (.p (jU (k,i,P1,P2))));rw [MI] at this;exact this
     ·rintro ⟨fd,w⟩ ⟨_,e3⟩;simp only [List.filter_nil,QF] at e3;subst e3;exact KE ⟨none,none,_,_,_,_,_,_,_,_,_,_⟩
    ·rw [if_neg cm];rw [if_neg cm] at KE;exact KE ⟨none,none,_,_,_,_,_,_,_,_,_,_⟩
   ·rintro ⟨fd,w⟩ ⟨_,e2⟩;simp only [QF] at e2;subst e2;exact KB ⟨some (.p (.int (k:Int))),some (.p (dJ g)),w.i,w.c,w.a,w.b,w.l,w.h,w.p,w.t,w.d,w.r⟩
  ·rintro ⟨fd,w⟩ ⟨_,e⟩;simp only [QF] at e;subst e;exact ⟨bA Pu _,z⟩
end
end My
namespace My
open PySem L2 PyProof.Rows
section
variable {P:SS} {w:SW} {K:W.Frag} {mg:Str->Option Value} {base:Heap}
def EW:iC:=λas Q=>∃ns:List Int,as=[.v (.lst (bI ns))]/\ns.length<=63/\Q (.v (.bl true)) []
theorem Ij {α:Type} {f:α->L2.T} {xs:List α} (h:∀x∈xs,L2.kF (f x)=true):L2.tI (xs.map f)=true:=by
 induction xs with
 | nil=>rfl
 | cons x xs ih=>show (L2.kF (f x)&&L2.tI (xs.map f))=true;rw [h x (by simp),ih λy m=>h y (by simp [m])];rfl
theorem Di {α:Type} {f:α->L2.T} {n:Nat} {xs:List α} (h:∀x∈xs,lenB (f x)<=n):mG (xs.map f)<=xs.length*(n+2):=by
 induction xs with
 | nil=>exact MJ _
 | cons x xs ih=>
  have h1:=h x (by simp);have h2:=ih λy m=>h y (by simp [m]);show lenB (f x)+2+mG (xs.map f)<=(xs.length+1)*(n+2);rw [Nat.succ_mul];omega
theorem Gz {i:Int} {e:Nat} (h:i.natAbs<2^e) (k:e<=1000):L2.kF (.int i)=true:=by
 show decide (i.natAbs.log2<1920)=true;rw [decide_eq_true_eq]
 by_cases z:i.natAbs=0
 ·rw [z];decide
 ·exact LO ((RD z).mpr h) (by omega)
theorem F1 {f:Fr} (h:sz f<=1000):L2.kF (fr f)=true:=by
 have s:=And.intro (e8 f) (bX f);show (L2.kF (.int f.1)&&(L2.kF (.int f.2)&&true))=true;rw [Gz s.1 h,Gz s.2 h];rfl
theorem BA {p:Pt} (h:Pb p):L2.kF (pt p)=true:=by
 have h1:=h.v.sx;have h2:=h.v.sy;show (L2.kF (fr p.1)&&(L2.kF (fr p.2)&&true))=true;rw [F1 (by omega),F1 (by omega)];rfl
theorem LB.sh {b:bW} (h:LB 400 b):L2.kF (dJ b)=true:=by
 have e:L2.kF (.tup (b.o.map pt))=true:=Ij λp m=>BA (h.pb p m);show (true&&(L2.kF (.int b.n)&&(L2.kF (.tup (b.o.map pt))&&(true&&true))))=true;rw [e,Gz (e:=10) (by have:=h.w.2;omega) (by decide)];rfl
theorem LB.lenB {b:bW} (h:LB 400 b):lenB (dJ b)<=100000:=by
 have w1:=PySem.StrLaws.reprText_len b.w h.w.1.2;have w2:=PySem.StrLaws.reprText_len b.m λc m=>by
  have:=h.m.all c m;have k:∀c∈("lrbe-":Str).cps.toList,c<16^8:=by decide
  exact k c this
 have w3:=h.w.1.1;have w4:b.m.length=b.o.length:=h.m.len;have l:=h.len;have o:=Di (f:=pt) (n:=7705) (xs:=b.o) λp _=>LF _;show (reprText b.w).length+2+(1921+2+((mG (b.o.map pt)+3)+2+((reprText b.m).length+2+0)))+3<=100000;have:b.o.length*(7705+2)<=6*7707:=RC l.2 (LF _);omega
theorem Kj {bs:List bW} (hb:∀b∈bs,LB 400 b) {marks:Str}:∀e∈gP bs marks,vM e.p e.q:=λe m=>by
 obtain ⟨b,hx,hk,_,ee⟩:=sO m;have cu:=yJ hb hx hk;rw [ee];exact Tt cu.c.ha cu.c.hb' cu.c.ne
theorem Kk {bs:List bW} (hl:bs.length<=5) (hb:∀b∈bs,LB 400 b) (marks:Str):Xx bs marks/\(t6 bs marks).length<900:=by
 have bb:∀s∈bs.map bD,rP s:=λs m=>by
  obtain ⟨g,mg,rfl⟩:=KY.mp m;exact oI (hb g mg).ok
 have l1:=Pq bb (gP bs marks) [] 0 (Kj hb) (λ_ m=>absurd m (by simp)) (λ_=>LF _);have l2:=Bl (marks:=marks) λb m=>(hb b m).len.2;have l3:(t6 bs marks).length<900:=by
  unfold t6;rw [KW] at l1;have:(gP bs marks).length*(2*(1+bs.length+0)+(gP bs marks).length)<=30*42:=RC (by omega) (by omega);omega
 exact ⟨⟨by omega,λb m=>(hb b m).ok,λb m=>⟨(hb b m).len.2,(hb b m).m.len⟩,Kj hb,by omega⟩,l3⟩
theorem Ee (marks:Str):Xx [] marks:=(Kk (bs:=[]) (by decide) (λb m=>absurd m (by simp)) marks).1
theorem Xm (rs:List lV) (h:rs.length<900):wT (.lst (rs.map jU))<900:=by
 have key:∀rs:List lV,Pg (rs.map jU)<=4:=λrs=>by
  induction rs with
  | nil=>exact MJ _
  | cons r rs ih=>exact PL.mpr ⟨eZ rfl,ih⟩
 show OX (rs.map jU).length (Pg (rs.map jU))<900;exact Nat.max_lt.mpr ⟨by rw [KW];exact h,by have:=key rs;omega⟩
theorem Zh (rs:List lV):L2.dT (.lst (rs.map jU))<=5:=by
 have:=jQ (f:=jU) (n:=3) (λ_=>eZ rfl) rs;show L2.qF (rs.map jU)+1<=5;omega
theorem JQ {r:Int} (h:0<=r) (k:r<5):∃s:Str,gN [L2.T.str "lb",.str "rb",.str "l",.str "-e",.str "r"] r=some (.str s):=by
 have:r=0\/r=1\/r=2\/r=3\/r=4:=by omega
 rcases this with rfl | rfl | rfl | rfl | rfl<;>exact ⟨_,rfl⟩
abbrev tG:TB:=top 64
theorem i5:aL ["_law_script","_law_cells","_law_k","_law_box_here","_law_lots","_law_some","_law_written","_law_marks","_law_due","_law_again","_law_told"] ["_law_script"] (aG tG):=hU
theorem R6 {f:SO} {fd:SR} (F:eM K "law" "law" tG f fd) (TX:Txt mg) (YU:xG P w K mg base) (du:Ta P w K mg base) (VW:oW P w K mg base) (ZZ:Ll P w K mg base) (aa:Lj P w K mg base) (ZO:Sb P w K mg base) (g_same:Zt P w K mg base)   : bF P w K mg base e9 8 f fd ["_law_script"] (aU K EW):=by
 refine F.okT i5 ?len (λVS A outer s H E hr=>(aE (cU (nP (uR (i6 rfl hr (aC ZO hr (by omega) rfl (fc (bN aA) (fc cD aA))) (bN aA) (aR _)) (nO (i6 rfl hr (aC ZO hr (by omega) rfl (fc (bN aA) (fc cD aA))) (bN aA) (aR _))))) (aH (aQ xC)) bY)
 (aE (aX (i:=1) i5.nd rfl (LA rfl) (aC YU hr (by omega) rfl (fc (fv 0) (fc aB aA))))
 (aE (dY PassesOwn.never rfl (gU rfl TX.n_range (fc (Q0 rfl rfl TX.n_max (fc aB (fc (fT rfl rfl TX.n_len (fc (fv 1) aA)) aA))) aA)) (aI (i:=2) i5.nd rfl (LA rfl))
  (aE (aX (i:=3) i5.nd rfl (LA rfl) (aC du hr (by omega) rfl (fc (fv 1) (fc (fv 2) aA))))
 (aE (aX (i:=4) i5.nd rfl (LA rfl) (bN (fc cD (fc (aF rfl (bN (fc cD (fc cD (fc cD (fc cD (fc cD aA)))))) (cI VW hr (by omega) rfl (fc (fv 3) (fc aB aA))) (λ_ _=>rfl)) aA))))
 (aE (aX (i:=5) i5.nd rfl (LA rfl) (cI ZZ hr (by omega) rfl (fc (fv 3) (fc aB aA))))
 (aE (aX (i:=6) i5.nd rfl (LA rfl) (Ip rfl hr rfl TX.n_str (fc (fv 5) aA)))
 (aH (dY PassesOwn.never rfl (d9 rfl (Et (fv 4) (bN (fc cD aA)))) (aI (i:=7) i5.nd rfl (LA rfl))
  (aE (aX (i:=8) i5.nd rfl (LA rfl) (aC aa hr (by omega) rfl (fc (fv 5) (fc (fv 7) aA))))
 (aH (dY PassesOwn.never rfl (gU rfl TX.n_range (fc aB aA)) (aI (i:=9) i5.nd rfl (LA rfl))
  (aE (aX (i:=10) i5.nd rfl (LA rfl) (aC ZO hr (by omega) rfl (fc (fv 5) (fc (fv 7) aA))))
 (aE (cU (nP (uR (Qb (qR (aC g_same hr (by omega) rfl (fc (fv 10) (fc (fv 8) aA))))) (nO (i6 rfl hr (Ip rfl hr rfl TX.n_str (fc (fv 5) aA)) (fv 6) (aR _))))) (aH (aQ xC)) bY)
 (aH (d8 (dX rfl (fv 10) (fc aB aA))))))))))))))))
 (aH (aQ xC)))))) ?rd
 case len=>rintro as Q ⟨ns,rfl,_⟩;rfl
 case rd=>
  rintro as Q ⟨ns,rfl,hl,q⟩;refine ⟨[],"lrbe-",rfl,Ee _,?_⟩;refine ⟨eZ rfl,?_⟩;refine ⟨[],"l",rfl,Ee _,?_⟩;refine ⟨eZ rfl,?_⟩;refine ⟨ns,2,rfl,hl,by decide,by decide,λcs l6=>?_⟩;have lc:((bI cs).length:Int)=cs.length:=by simp [bI]
  obtain ⟨m,hm⟩:∃m:Int,m=(if (2:Int)<((bI cs).length:Int) then ((bI cs).length:Int) else 2):=⟨_,rfl⟩;have m5:m<=3/\0<=m:=by rw [hm];split<;>omega
  refine ⟨⟨by show -(2^62:Int)<=(if (2:Int)<((bI cs).length:Int) then ((bI cs).length:Int) else 2);rw [<-hm];omega,by show (if (2:Int)<((bI cs).length:Int) then ((bI cs).length:Int) else 2)<2^62;rw [<-hm];omega⟩,?_⟩;show oC _ (dG _ _ _ (kP 0 (if (2:Int)<((bI cs).length:Int) then ((bI cs).length:Int) else 2).toNat));rw [<-hm];refine iS (λi E=>∃v2 v3 v4 v5 v6 v7 v8 v9 v10:Option U,E=[some (.p (.lst (bI ns))),some (.o false (bI cs)),v2,v3,v4,v5,v6,v7,v8,v9,v10]) ⟨_,_,_,_,_,_,_,_,_,rfl⟩ ?_ ?_
  ·rintro i t rest E hi ⟨v2,v3,v4,v5,v6,v7,v8,v9,v10,rfl⟩ KK;obtain ⟨ZL,rfl⟩:=pP hi;refine ⟨cs,_,rfl,by omega,by omega,λxs bx nl=>?_⟩;obtain ⟨A0,B0,c0,rfl,_⟩:=id bx;refine ⟨_,5,_,rfl,bx,by decide,by decide,by decide,λr y1 a1 a2 b1=>?_⟩;obtain ⟨A1,B1,c1,rfl,_⟩:=id b1;obtain ⟨mk,qd⟩:=JQ a1 a2;show o1 (gN [L2.T.str "lb",.str "rb",.str "l",.str "-e",.str "r"] r) _;rw [qd];refine ⟨_,5,_,rfl,b1,by decide,by decide,by decide,λbs y2 l1 l2 hb b2=>?_⟩;obtain ⟨A2,B2,c2,rfl,_⟩:=id b2;have ku:bs.length<=5:=by omega
   have s1:L2.kF (.lst (bs.map dJ))=true:=Ij λb m=>(hb b m).sh;have s2:L2.dT (.lst (bs.map dJ))<=40:=by
    have:=jQ F3 bs;show L2.qF (bs.map dJ)+1<=40;omega
   have s3:lenB (.lst (bs.map dJ))<=10000000:=by
    have:=Di (f:=dJ) (n:=100000) (xs:=bs) λb m=>(hb b m).lenB;show mG (bs.map dJ)+3<=10000000;omega
   refine ⟨s1,s2,s3,λz hz=>?_⟩;refine ⟨(show 2+1<=1000 by decide),?_⟩;show oC _ (dG _ _ _ ((["lrbe-",mk,""]:List Str).map L2.T.str));refine cW (f:=L2.T.str) (λs:Option U×Option U×Option U×Option U=>[some (.p (.lst (bI ns))),some (.o false (bI cs)),some (.p (.int (0+(i:Int)))),some (.o false [.int A2,.int B2,.int c2]),some (.o false [.str "lrbe-",.str mk]),some (.o false (bs.map dJ)),some (.p (.str z)),s.1,s.2.1,s.2.2.1,s.2.2.2])
    (λ_ _=>True) ?_ ?_ _ (v7,v8,v9,v10) trivial
   ·rintro marks ms ⟨w7,w8,w9,w10⟩ aCL _ K1;obtain ⟨rg,rl⟩:=Kk ku hb marks;have re:=Yj hb marks;refine ⟨bs,marks,rfl,by omega,hb,by rw [<-re];exact rl,?_⟩;rw [<-re];have dr:=Zh (t6 bs marks);have wr:=Xm (t6 bs marks) rl;refine ⟨by decide,?_⟩;show oC _ (dG _ _ _ (kP 0 2));refine iS (λj E=>∃v9 v10:Option U,E=[some (.p (.lst (bI ns))),some (.o false (bI cs)),some (.p (.int (0+(i:Int)))),some (.o false [.int A2,.int B2,.int c2]),some (.o false [.str "lrbe-",.str mk]),some (.o false (bs.map dJ)),some (.p (.str z)),some (.p (.str marks)),some (.o false ((t6 bs marks).map jU)),v9,v10]) ⟨_,_,rfl⟩ ?_ ?_
    ·rintro j t uz E hj ⟨x9,x10,rfl⟩ K2;obtain ⟨hjn,rfl⟩:=pP hj;refine ⟨bs,marks,rfl,rg,?_⟩;refine ⟨_,rfl,MG dr (by decide),MG dr (by decide),wr,?_⟩;refine ⟨s1,s2,s3,λz' mj=>?_⟩;have ez:z'=z:=by rw [mj,hz]
     subst ez;refine ⟨eZ rfl,?_⟩;show if (!(eD (.str z') (.str z')))=true then _ else _;rw [hV,if_neg (by decide)];refine ⟨?_,K2 _ ⟨_,_,rfl⟩⟩;show ((t6 bs marks).map jU++[L2.T.int 0]).length<=1000;rw [LC,KW,ME];omega
    ·rintro E ⟨x9,x10,rfl⟩;exact K1 (_,_,_,_) trivial
   ·rintro ⟨w7,w8,w9,w10⟩ _;exact KK _ ⟨_,_,_,_,_,_,_,_,_,rfl⟩
  ·rintro E ⟨v2,v3,v4,v5,v6,v7,v8,v9,v10,rfl⟩;exact ⟨rfl,q⟩
end
end My
namespace My
open PySem L2 PyProof.Rows
theorem HN {α:Type} {us:List α} (h:us.length=1):∃a0,us=[a0]:=by
 cases us with
 | nil=>simp at h
 | cons a0 us=>
 replace h:us.length=0:=by simpa using h
 cases us with
 | nil=>exact ⟨a0,rfl⟩
 | cons a us=>simp at h
theorem FD {α:Type} {us:List α} (h:us.length=2):∃a0 a1,us=[a0,a1]:=by
 cases us with
 | nil=>simp at h
 | cons a0 us=>
 replace h:us.length=1:=by simpa using h
 cases us with
 | nil=>simp at h
 | cons a1 us=>
 replace h:us.length=0:=by simpa using h
 cases us with
 | nil=>exact ⟨a0,a1,rfl⟩
 | cons a us=>simp at h
theorem GJ {α:Type} {us:List α} (h:us.length=3):∃a0 a1 a2,us=[a0,a1,a2]:=by
 cases us with
 | nil=>simp at h
 | cons a0 us=>
 replace h:us.length=2:=by simpa using h
 cases us with
 | nil=>simp at h
 | cons a1 us=>
 replace h:us.length=1:=by simpa using h
 cases us with
 | nil=>simp at h
 | cons a2 us=>
 replace h:us.length=0:=by simpa using h
 cases us with
 | nil=>exact ⟨a0,a1,a2,rfl⟩
 | cons a us=>simp at h
theorem HA {α:Type} {us:List α} (h:us.length=4):∃a0 a1 a2 a3,us=[a0,a1,a2,a3]:=by
 cases us with
 | nil=>simp at h
 | cons a0 us=>
 replace h:us.length=3:=by simpa using h
 cases us with
 | nil=>simp at h
 | cons a1 us=>
 replace h:us.length=2:=by simpa using h
 cases us with
 | nil=>simp at h
 | cons a2 us=>
 replace h:us.length=1:=by simpa using h
 cases us with
 | nil=>simp at h
 | cons a3 us=>
 replace h:us.length=0:=by simpa using h
 cases us with
 | nil=>exact ⟨a0,a1,a2,a3,rfl⟩
 | cons a us=>simp at h
def yC (o:Obj):Bool:=match o.data with
 | .seq VI _=>match VI.toList with
  | [.int _ _,_,_]=>false
  | _=>true
 | _=>true
def sI (K:W.Frag):Bool:=K.all λx=>yC x.2
theorem Sn {K:W.Frag} (h:sI K=true):Pm K:=by
 rintro a x y z ⟨o,VI,n,hl,_,hd,_,hv⟩;have key:∀K:W.Frag,K.lookup a=some o->sI K=true->yC o=true:=λK=>by
  induction K with
  | nil=>intro h;cases h
  | cons x K ih=>
   intro h1 h2;rw [sI,List.all_cons,LX] at h2;rw [NS] at h1;split at h1
   ·cases h1;exact h2.1
   ·exact ih h1 h2.2
 have k:=key K hl h;obtain ⟨VI⟩:=VI;cases hv with
 | cons h1 hv=>cases hv with
  | cons h2 hv=>cases hv with
   | cons h3 hv=>cases hv;obtain ⟨t,rfl⟩:=h1;rw [yC,hd] at k;cases k
theorem Vy {K:W.Frag} {a b c:SO} {od oe of:Option SO} {i j i' j':Int} {t u t' u':Tok} {n m l:Nat} {sl sk sj:Array (Option Value)} (h:K.lookup a=some ⟨.type "tuple",od,.seq #[.ref b,.ref c] n,sl⟩) (hb:K.lookup b=some ⟨.type "tuple",oe,.seq #[.int i t,.int j u] m,sk⟩) (hc:K.lookup c=some ⟨.type "tuple",of,.seq #[.int i' t',.int j' u'] l,sj⟩) (H:Hp) (O:SO->Prop):Rp K H O (.tup [.tup [.int i,.int j],.tup [.int i',.int j']]) (.ref a):=
 ⟨a,[.ref b,.ref c],rfl,.inr ⟨_,_,n,h,rfl,rfl,by show 2<=SX;decide,.cons rfl (.cons rfl .nil)⟩,_,_,rfl,kM hb H O,_,_,rfl,kM hc H O,rfl⟩
def Ji (K:W.Frag):Sp:=λvs H Q _=>∃(a:SO) (ns:List Int),vs=[.ref a]/\j4 K H a (ns.map V.int)/\ns.length<=63/\∀H',Q (.bl true) H'
theorem U8 {K:W.Frag} (vs:List V) (H:Hp) (Q:VK) (E:XK) (h:Ji K vs H Q E):aU K EW vs H Q E:=by
 obtain ⟨a,ns,rfl,hs,hl,q⟩:=h;have no:∀b,¬Ow (λa=>(none:Option SO)=some a) [some (V.ref a)] [some (.p (.lst (bI ns)))] b:=λb z=>by
  rcases z with z | ⟨i,k,xs,h1,_⟩
  ·cases z
  ·match i,h1 with
   | 0,h1=>simp at h1
   | _+1,h1=>simp at h1
 have ii:∀ns:List Int,cS K H (Ow (λa=>(none:Option SO)=some a) [some (V.ref a)] [some (.p (.lst (bI ns)))]) (bI ns) (ns.map V.int):=λns=>by
  have key:∀(O:SO->Prop) (ms:List Int),cS K H O (bI ms) (ms.map V.int):=λO ms=>by
   induction ms with
   | nil=>rfl
   | cons m ms ih=>exact ⟨_,_,rfl,rfl,ih⟩
  exact key _ ns
 refine ⟨[.v (.lst (bI ns))],λr _=>r = .v (.bl true),none,⟨rfl,λi t h=>?_,λi k xs h=>?_,λi j k l xs ys b h=>?_,λb z=>by cases z⟩,λ_=>rfl,⟨ns,rfl,hl,rfl⟩,λr xs v H' e _ _ rr=>?_⟩
 ·match i,h with
  | 0,h=>
   simp [qZ] at h;subst h;exact ⟨_,rfl,a,_,rfl,hs.imp (λh=>⟨no a,h⟩) id,ii ns⟩
  | _+1,h=>simp [qZ] at h
 ·match i,h with
  | 0,h=>simp [qZ] at h
  | _+1,h=>simp [qZ] at h
 ·match i,h with
  | 0,h=>simp [qZ] at h
  | _+1,h=>simp [qZ] at h
 ·subst e;cases rr;exact q H'
def Fc (K:W.Frag) (nm:Str) (st:TB) (f:SO):Prop:=∃(oc:Value) (od:Option SO) (kV dc pm:Value) (an:Option SO) (cd ct:Value) (sl:Array (Option Value)),
 W.nsIn K SY nm=some (some (.ref f))/\K.lookup f=some ⟨oc,od,.func (W.fnOf nm nm (gF st) (dZ st) (aG st) .none kV dc pm an cd ct),sl⟩/\W.codeIn K cd nm=true/\W.keepIn K (.ref f)=true
theorem fc {K:W.Frag} {nm:Str} {st:TB} {f:SO} {oc:Value} {od:Option SO} {kV dc pm:Value} {an:Option SO} {cd ct:Value} {sl:Array (Option Value)} (a:W.nsIn K SY nm=some (some (.ref f))) (l:K.lookup f=some ⟨oc,od,.func (W.fnOf nm nm (gF st) (dZ st) (aG st) .none kV dc pm an cd ct),sl⟩) (c:W.codeIn K cd nm=true) (k:W.keepIn K (.ref f)=true):Fc K nm st f:=⟨_,_,_,_,_,_,_,_,_,a,l,c,k⟩
theorem gm {P:SS} {w:SW} {K:W.Frag} {h base:Heap} {mg:Str->Option Value} {nm:Str} {st:TB} {f:SO} {CX:Eh} {k:Nat} {ps:List Str} {sp:Sp} (X:K.In h) (G:h.Ns SY mg) (p:Fc K nm st f) (ok:∀{fd:SR},eM K nm nm st f fd->bF P w K mg base CX k f fd ps sp)
  (bd:∀{fd:SR},eM K nm nm st f fd->j9 K fd ps []):∃f fd,bF P w K mg base CX k f fd ps sp/\mg nm=some (.ref f)/\W.keepIn K (.ref f)=true/\j9 K fd ps []:=by
 obtain ⟨_,_,_,_,_,_,_,_,_,a,l,c,k⟩:=p;have F:=Ex (st:=st) l c k;exact ⟨f,_,ok F,W.mg_of X G a,k,bd F⟩
theorem T4 {P:SS} {w:SW} {K:W.Frag} {h base:Heap} {mg:Str->Option Value} {nm:Str} {st:TB} {f:SO} {CX:Eh} {k:Nat} {ps:List Str} {sp:Sp} (X:K.In h) (G:h.Ns SY mg) (p:Fc K nm st f) (ok:∀{fd:SR},eM K nm nm st f fd->bF P w K mg base CX k f fd ps sp) (hl:ps.length=1:=by rfl)
  (hb:∀(kV doc pm:Value) (an:Option SO) (VS ct a0:Value),bindArgs (W.fnOf nm nm (gF st) (dZ st) (aG st) .none kV doc pm an VS ct) ⟨[a0],[]⟩=pure (ps.zip [a0]):=by intros;rfl):∃f fd,bF P w K mg base CX k f fd ps sp/\mg nm=some (.ref f)/\W.keepIn K (.ref f)=true/\j9 K fd ps []:=
 gm X G p ok λF=>F.binds λkV doc pm an VS ct us e=>by obtain ⟨a0,rfl⟩:=HN (e.trans hl);exact hb ..
theorem kG {P:SS} {w:SW} {K:W.Frag} {h base:Heap} {mg:Str->Option Value} {nm:Str} {st:TB} {f:SO} {CX:Eh} {k:Nat} {ps:List Str} {sp:Sp} (X:K.In h) (G:h.Ns SY mg) (p:Fc K nm st f) (ok:∀{fd:SR},eM K nm nm st f fd->bF P w K mg base CX k f fd ps sp) (hl:ps.length=2:=by rfl)
  (hb:∀(kV doc pm:Value) (an:Option SO) (VS ct a0 a1:Value),bindArgs (W.fnOf nm nm (gF st) (dZ st) (aG st) .none kV doc pm an VS ct) ⟨[a0,a1],[]⟩=pure (ps.zip [a0,a1]):=by intros;rfl):∃f fd,bF P w K mg base CX k f fd ps sp/\mg nm=some (.ref f)/\W.keepIn K (.ref f)=true/\j9 K fd ps []:=
 gm X G p ok λF=>F.binds λkV doc pm an VS ct us e=>by obtain ⟨a0,a1,rfl⟩:=FD (e.trans hl);exact hb ..
theorem IS {P:SS} {w:SW} {K:W.Frag} {h base:Heap} {mg:Str->Option Value} {nm:Str} {st:TB} {f:SO} {CX:Eh} {k:Nat} {ps:List Str} {sp:Sp} (X:K.In h) (G:h.Ns SY mg) (p:Fc K nm st f) (ok:∀{fd:SR},eM K nm nm st f fd->bF P w K mg base CX k f fd ps sp) (hl:ps.length=3:=by rfl)
  (hb:∀(kV doc pm:Value) (an:Option SO) (VS ct a0 a1 a2:Value),bindArgs (W.fnOf nm nm (gF st) (dZ st) (aG st) .none kV doc pm an VS ct) ⟨[a0,a1,a2],[]⟩=pure (ps.zip [a0,a1,a2]):=by intros;rfl):∃f fd,bF P w K mg base CX k f fd ps sp/\mg nm=some (.ref f)/\W.keepIn K (.ref f)=true/\j9 K fd ps []:=
 gm X G p ok λF=>F.binds λkV doc pm an VS ct us e=>by obtain ⟨a0,a1,a2,rfl⟩:=GJ (e.trans hl);exact hb ..
theorem FV {P:SS} {w:SW} {K:W.Frag} {h base:Heap} {mg:Str->Option Value} {nm:Str} {st:TB} {f:SO} {CX:Eh} {k:Nat} {ps:List Str} {sp:Sp} (X:K.In h) (G:h.Ns SY mg) (p:Fc K nm st f) (ok:∀{fd:SR},eM K nm nm st f fd->bF P w K mg base CX k f fd ps sp) (hl:ps.length=4:=by rfl)
  (hb:∀(kV doc pm:Value) (an:Option SO) (VS ct a0 a1 a2 a3:Value),bindArgs (W.fnOf nm nm (gF st) (dZ st) (aG st) .none kV doc pm an VS ct) ⟨[a0,a1,a2,a3],[]⟩=pure (ps.zip [a0,a1,a2,a3]):=by intros;rfl):∃f fd,bF P w K mg base CX k f fd ps sp/\mg nm=some (.ref f)/\W.keepIn K (.ref f)=true/\j9 K fd ps []:=
 gm X G p ok λF=>F.binds λkV doc pm an VS ct us e=>by obtain ⟨a0,a1,a2,a3,rfl⟩:=HA (e.trans hl);exact hb ..
theorem M9 {l:W.OpenLaw} {w:SW} {K:W.Frag} {h:Heap} {mg:Str->Option Value} {fa f0 f1 f2 f3 f4 f5 f6 f7 f8 f9 f10 f11 f12 f13 f14 f15 f16 f17 f18 f19 f20 f21 f22 f23 f24 f25 f26 f27 f28 f29 f30 f31 f32 f33 f34 f35 f36 f37 f38 f39 f40 f41 f42 f43 f44 f45 f46 f47 f48 f49 f50 f51 f52 f53 f54:SO} (X:K.In h) (G:h.Ns SY mg) (hfa:mg "law" = some (.ref fa))
  (p0:Fc K "_law_take" Hj f0)
  (p1:Fc K "common_divisor" gX f1)
  (p2:Fc K "fraction" oB f2)
  (p3:Fc K "added" yL f3)
  (p4:Fc K "taken" zG f4)
  (p5:Fc K "times" z7 f5)
  (p6:Fc K "over" Gk f6)
  (p7:Fc K "_law_box" Pw f7)
  (p8:Fc K "_law_folded" tQ f8)
  (p9:Fc K "compared" nY f9)
  (p10:Fc K "scaled" tN f10)
  (p11:Fc K "plus" Gx f11)
  (p12:Fc K "minus" zD f12)
  (p13:Fc K "spot_of" qI f13)
  (p14:Fc K "line_through" iW f14)
  (p15:Fc K "in_lowest_terms" gG f15)
  (p16:Fc K "off_line" nU f16)
  (p17:Fc K "box_of" uV f17)
  (p18:Fc K "are_apart" lX f18)
  (p19:Fc K "edge_lines" kR f19)
  (p20:Fc K "shape_of" nZ f20)
  (p21:Fc K "shapes_of" l8 f21)
  (p22:Fc K "segment_of" kS f22)
  (p23:Fc K "later" yY f23)
  (p24:Fc K "earlier" pT f24)
  (p25:Fc K "overlap" qD f25)
  (p26:Fc K "parted" tK f26)
  (p27:Fc K "point_at" nX f27)
  (p28:Fc K "edge_ends" mH f28)
  (p29:Fc K "part_at" qC f29)
  (p30:Fc K "bare_parts" kO f30)
  (p31:Fc K "bounds_of" lR f31)
  (p32:Fc K "rim" Vo f32)
  (p33:Fc K "_law_frac" yW f33)
  (p34:Fc K "_law_sum" Fy f34)
  (p35:Fc K "_law_less" zT f35)
  (p36:Fc K "_law_product" nQ f36)
  (p37:Fc K "_law_add" Hn f37)
  (p38:Fc K "_law_sub" Ga f38)
  (p39:Fc K "_law_scaled_by" kT f39)
  (p40:Fc K "_law_cross" uX f40)
  (p41:Fc K "_law_dot" Gj f41)
  (p42:Fc K "_law_spot_at" nN f42)
  (p43:Fc K "_law_shape" sU f43)
  (p44:Fc K "_law_lot" Fg f44)
  (p45:Fc K "_law_over" zF f45)
  (p46:Fc K "_law_on" Sk f46)
  (p47:Fc K "_law_met" Gy f47)
  (p48:Fc K "_law_signs_of" mE f48)
  (p49:Fc K "_law_rising" pY f49)
  (p50:Fc K "_law_cuts" yH f50)
  (p51:Fc K "_law_there" t8 f51)
  (p52:Fc K "_law_same" uN f52)
  (p53:Fc K "_law_rim" Hr f53)
  (p54:Fc K "law" tG f54)
  {ir:Tok} (q_GRID:W.nsIn K SY "GRID" = some (some (.int 65536 ir)))
  {ZP:SO} {ab:Option SO} {bc bf:Tok} {bg:Nat} {ae:Array (Option Value)} (q_NOUGHT:W.nsIn K SY "NOUGHT" = some (some (.ref ZP))) (r_NOUGHT:K.lookup ZP=some ⟨.type "tuple",ab,.seq #[.int 0 bc,.int 1 bf] bg,ae⟩)
  {jy:SO} {iu:Option SO} {ni nj:Tok} {nq:Nat} {iw:Array (Option Value)} (q_ONE:W.nsIn K SY "ONE" = some (some (.ref jy))) (r_ONE:K.lookup jy=some ⟨.type "tuple",iu,.seq #[.int 1 ni,.int 1 nj] nq,iw⟩)
  (n_tri:sI K=true)
  {C_W D_W E_W:SO} {o_W aAB aAC:Option SO} {aAD aAE aAF aAG:Tok} {n_W aAH aAI:Nat} {s_W aAJ aAK:Array (Option Value)} (q_W:W.nsIn K SY "WHOLE" = some (some (.ref C_W))) (r_W:K.lookup C_W=some ⟨.type "tuple",o_W,.seq #[.ref D_W,.ref E_W] n_W,s_W⟩) (r_W1:K.lookup D_W=some ⟨.type "tuple",aAB,.seq #[.int 0 aAD,.int 1 aAE] aAH,aAJ⟩) (r_W2:K.lookup E_W=some ⟨.type "tuple",aAC,.seq #[.int 1 aAF,.int 1 aAG] aAI,aAK⟩)
  (z_isinstance:W.nsIn K SY "isinstance" = some none) (z_abs:W.nsIn K SY "abs" = some none) (z_divmod:W.nsIn K SY "divmod" = some none) (z_min:W.nsIn K SY "min" = some none) (z_max:W.nsIn K SY "max" = some none) (z_all:W.nsIn K SY "all" = some none) (z_len:W.nsIn K SY "len" = some none) (z_int:W.nsIn K SY "int" = some none) (z_bool:W.nsIn K SY "bool" = some none) (z_tuple:W.nsIn K SY "tuple" = some none) (z_list:W.nsIn K SY "list" = some none) (z_str:W.nsIn K SY "str" = some none) (z_range:W.nsIn K SY "range" = some none) (z_enumerate:W.nsIn K SY "enumerate" = some none) (z_zip:W.nsIn K SY "zip" = some none) (z_any:W.nsIn K SY "any" = some none) :
  ∃fd:SR,(∀(s:Shared) (v:Value),BindsTo s fd ⟨[v],[]⟩ [("_law_script",v)])/\∀base:Heap,K.In base->base.Ns SY mg->bF l.prog w K mg base e9 8 fa fd ["_law_script"] (Ji K):=by
 obtain ⟨_,_,_,_,_,_,_,_,_,a52,l52,c52,k52⟩:=p52;obtain ⟨oc,od,kV,dc,pm,an,cd,ct,sl,a54,l54,c54,k54⟩:=p54;have e:=hfa.symm.trans (W.mg_of X G a54);cases e;have T:Txt mg:=⟨W.mg_none_of X G z_isinstance,W.mg_none_of X G z_abs,W.mg_none_of X G z_divmod,W.mg_none_of X G z_min,W.mg_none_of X G z_max,W.mg_none_of X G z_all,W.mg_none_of X G z_len,W.mg_none_of X G z_int,W.mg_none_of X G z_bool,W.mg_none_of X G z_tuple,W.mg_none_of X G z_list,W.mg_none_of X G z_str,W.mg_none_of X G z_range,W.mg_none_of X G z_enumerate,W.mg_none_of X G z_zip⟩;have ZD:Ej mg "GRID" 65536:=⟨_,W.mg_of X G q_GRID⟩;have YI:uW mg K "WHOLE" (.tup [.tup [.int 0,.int 1],.tup [.int 1,.int 1]]):=⟨_,W.mg_of X G q_W,Vy r_W r_W1 r_W2⟩;have YQ:uW mg K "NOUGHT" (.tup [.int 0,.int 1]):=⟨_,W.mg_of X G q_NOUGHT,kM r_NOUGHT⟩;have da:uW mg K "ONE" (.tup [.int 1,.int 1]):=⟨_,W.mg_of X G q_ONE,kM r_ONE⟩;have F52:=Ex (st:=uN) l52 c52 k52;have b52:=F52.binds (ps:=["_law_found","_law_due"]) λ_ _ _ _ _ _ us hl=>by obtain ⟨_,_,rfl⟩:=FD hl;rfl
 have F54:=Ex (st:=tG) l54 c54 k54;refine ⟨W.fnOf "law" "law" (gF tG) (dZ tG) (aG tG) .none kV dc pm an cd ct,λs v=>.of_eq rfl,λbase _ _=>?_⟩;have VW:oW l.prog w K mg base:=⟨kG X G p0 (C2 · T )⟩;have VJ:eC l.prog w K mg base:=⟨kG X G p1 (pH · T )⟩;have VM:fX l.prog w K mg base:=⟨kG X G p2 (Ct · T VJ)⟩;have YH:Az l.prog w K mg base:=⟨kG X G p3 (Vl · T VM)⟩;have WV:uE l.prog w K mg base:=⟨kG X G p4 (Qk · T VM)⟩;have YG:Cb l.prog w K mg base:=⟨kG X G p5 (Qm · T VM)⟩;have ZV:Le l.prog w K mg base:=⟨kG X G p6 (Ws · T VM)⟩;have du:Ta l.prog w K mg base:=⟨kG X G p7 (U4 · T )⟩;have YU:xG l.prog w K mg base:=⟨kG X G p8 (Nf · T )⟩;have VO:h9 l.prog w K mg base:=⟨kG X G p9 (Bi · T )⟩;have YR:xF l.prog w K mg base:=⟨kG X G p10 (Oy · T YG)⟩;have ZU:Iv l.prog w K mg base:=⟨kG X G p11 (Zf · T YH)⟩;have ZF:Bv l.prog w K mg base:=⟨kG X G p12 (Sx · T WV)⟩;have WK:kY l.prog w K mg base:=⟨T4 X G p13 (Hq · T VJ)⟩;have WA:iF l.prog w K mg base:=⟨kG X G p14 (rQ · T )⟩;have VR:fR l.prog w K mg base:=⟨T4 X G p15 (nT · T VJ)⟩;have XF:qV l.prog w K mg base:=⟨kG X G p16 (Cr · T )⟩;have XA:pX l.prog w K mg base:=⟨T4 X G p17 (Mr · T ZD)⟩;have XN:oF l.prog w K mg base:=⟨kG X G p18 (x6 · T )⟩;have XE:m7 l.prog w K mg base:=⟨T4 X G p19 (vH · T WK WA)⟩;have XY:rD l.prog w K mg base:=⟨T4 X G p20 (De · T XE VR XA WK)⟩;have XO:oK l.prog w K mg base:=⟨T4 X G p21 (yV · T XY)⟩;have XG:nF l.prog w K mg base:=⟨kG X G p22 (vO · T WK XA VR WA)⟩;have XT:t7 l.prog w K mg base:=⟨kG X G p23 (Vs · T VO)⟩;have WU:nK l.prog w K mg base:=⟨kG X G p24 (Gu · T VO)⟩;have YD:sP l.prog w K mg base:=⟨kG X G p25 (Hc · T XN XF XT WU VO YQ da)⟩;have YB:wA l.prog w K mg base:=⟨FV X G p26 (Ol · T XT WU VO)⟩;have XI:rB l.prog w K mg base:=⟨IS X G p27 (Du · T ZU YR ZF)⟩;have XQ:oT l.prog w K mg base:=⟨kG X G p28 (xT · T )⟩;have XU:uA l.prog w K mg base:=⟨kG X G p29 (Fm · T ZV WV)⟩;have XH:m4 l.prog w K mg base:=⟨IS X G p30 (vJ · T XG YD YB XU YI)⟩;have XR:oO l.prog w K mg base:=⟨kG X G p31 (xW · T XO XQ XH XI VM (Sn n_tri))⟩;have ZO:Sb l.prog w K mg base:=⟨kG X G p32 (O8 · T XR)⟩;have VZ:j8 l.prog w K mg base:=⟨kG X G p33 (Ue · T )⟩;have WX:sD l.prog w K mg base:=⟨kG X G p34 (Yx · T VZ)⟩;have WL:lY l.prog w K mg base:=⟨kG X G p35 (Vi · T VZ)⟩;have VL:fV l.prog w K mg base:=⟨kG X G p36 (Bt · T VZ)⟩;have XJ:rY l.prog w K mg base:=⟨kG X G p37 (Wz · T WX)⟩;have VX:mP l.prog w K mg base:=⟨kG X G p38 (Wt · T WL)⟩;have WM:jX l.prog w K mg base:=⟨kG X G p39 (vN · T VL)⟩;have WS:pV l.prog w K mg base:=⟨kG X G p40 (Ot · T WL VL)⟩;have WY:zJ l.prog w K mg base:=⟨kG X G p41 (Ys · T WX VL)⟩;have XZ:rJ l.prog w K mg base:=⟨kG X G p42 (Cy · T VW VZ)⟩;have YS:wU l.prog w K mg base:=⟨kG X G p43 (Of · T VW XZ XJ)⟩;have ZZ:Ll l.prog w K mg base:=⟨kG X G p44 (C5 · T VW YS XJ WM VX)⟩;have XW:Cq l.prog w K mg base:=⟨kG X G p45 (Ro · T VL VZ)⟩;have ZN:Sz l.prog w K mg base:=⟨IS X G p46 (X2 · T XJ WM VX)⟩;have ZX:Il l.prog w K mg base:=⟨FV X G p47 (Yk · T VX WS XW WL WY)⟩;have XS:o9 l.prog w K mg base:=⟨kG X G p48 (xV · T VX WS)⟩;have YE:uQ l.prog w K mg base:=⟨T4 X G p49 (Fs · T WL)⟩;have ZG:Av l.prog w K mg base:=⟨FV X G p50 (Vd · T ZX YE)⟩;have YT:wG l.prog w K mg base:=⟨FV X G p51 (Mh · T XS VX WY)⟩;have g_same:Fn l.prog w K mg base 7 "_law_same" ["_law_found","_law_due"] (aU K (tF 7)):=⟨⟨_,_,Kv F52 T (W.mg_of X G a52) k52 b52 7,W.mg_of X G a52,k52,b52⟩⟩;have aa:Lj l.prog w K mg base:=⟨kG X G p53 (Xe · T ZG ZN VL WX YT (W.mg_none_of X G z_any))⟩;exact (R6 F54 T YU du VW ZZ aa ZO g_same).imp U8
theorem HQ {l:W.OpenLaw} {q:SS} {loose:List Str} {XP:(Str->Option Value)->Heap->Prop} {YP:SW->Heap->Prop} {d:DefRec} {K:Params->W.Frag} (hn:l.most=some 63) (qr:d.params.defaults=[])
  (hY:∀(w:SW) (h:Heap),YP w h->(K w.params).In h)
  (F:∀(w:SW) (mg:Str->Option Value) (fa:SO) (h:Heap),(K w.params).In h->h.Ns SY mg->mg d.name=some (.ref fa)->
   ∃fd:SR,(∀(s:Shared) (u:Value),BindsTo s fd ⟨[u],[]⟩ [("_law_script",u)])/\∀base:Heap,(K w.params).In base->base.Ns SY mg->bF l.prog w (K w.params) mg base e9 8 fa fd ["_law_script"] (Ji (K w.params))) :
  W.WalkO q loose XP YP l.row.toRowW d [] (λf vs=>PySem.call f vs):=
 L2.Wo (n:=63) (k:=8) (x:="_law_script") (CX:=λ_=>e9) (sp:=λw=>Ji (K w.params)) hn (by decide) qr ⟨rfl,by decide,by decide,rfl⟩ hY F (λ_ _ a ns hl _ hS=>⟨a,ns,rfl,hS,hl,λ_=>rfl⟩) λ_ _ _ _ _ z=>z
end My
namespace PySem.W.Fast
def tw15631912529308493012:=0
def tw13968663283280037491:=0
def tw11705397328836699481:=0
def tw17030358494127841655:=0
def tw15451346907453736054:=0
def tw7141818473581504880:=0
def tw9798516453288131807:=0
def tw14770736391713909933:=0
def tw2980890755819060482:=0
def tw14701615356314622626:=0
def tw6327753388632302250:=0
def tw8783519163477565716:=0
def tw5167483243703153998:=0
def tw10957857807777187643:=0
def tw18085083638128338409:=0
def tw17681896741075708488:=0
def tw7380859976014106901:=0
def tw9257582035013705335:=0
def tw8416621873094890192:=0
def tw15097437355524412487:=0
def tw5232722029463797791:=0
def tw12765831973278055142:=0
def tw592282004773190777:=0
def tw18443421868014702988:=0
def tw6375963268693815298:=0
def tw10891840494347442729:=0
def tw1683650837730392244:=0
def tw4018542543424299815:=0
def tw9313073344552341482:=0
def tw16984478334774333385:=0
def tw7225282483181415740:=0
def tw16538815139996700578:=0
def tw10715305758719492280:=0
def tw8466870195536959234:=0
def tw6617958650487921363:=0
def tw14190083566279788354:=0
def tw17564763796020371065:=0
def tw504144610432211131:=0
def tw2197644756308512958:=0
def tw9996863957527329055:=0
def tw10748549500350837446:=0
def tw15512860094347510804:=0
def tw4353102767287311952:=0
def tw1685852949386527189:=0
def tw17095388548811051008:=0
def tw12019945848402774453:=0
def tw7579194347485992622:=0
def tw9671903013503266712:=0
def tw13067644297346927369:=0
def tw9763902202408959651:=0
def tw15966943880051782411:=0
def tw2986916997481202109:=0
def tw4482710069276583762:=0
def tw5487604868377009430:=0
def tw7721657114580020263:=0
def tw13356312318269035764:=0
def tw16286781900862813226:=0
def tw8003677252847103603:=0
def tw16991883231034711446:=0
def tw9101369423051205774:=0
def tw7121997626466083946:=0
def tw8093672433866792265:=0
def tw17524363148163311215:=0
def tw1412979559208784952:=0
def tw5120188290475083547:=0
def tw3713297669129996222:=0
def tw2251481880109467625:=0
def tw5336595137364941137:=0
def tw9302672269386904194:=0
def tw17927846786138161732:=0
def tw1438652617690809231:=0
def tw15690056965459935125:=0
def tw12202162297633655144:=0
def tw16412601467507641897:=0
def tw7123196744981789775:=0
def tw1860937811585357646:=0
def tw10956250793379287107:=0
def tw11058365478056964868:=0
def tw95872629557099931:=0
def tw15268251496039135034:=0
def tw7521743068079332486:=0
def tw13281634245638407969:=0
def tw2972386301339088913:=0
def tw14860247634133684065:=0
def tw10789141136533329745:=0
def tw17139528980483575459:=0
def tw9689024184461812809:=0
def tw10044638823706944622:=0
def tw11995461483776490319:=0
def tw18269541363000753103:=0
def tw15130024175595267945:=0
def tw7098348972423201293:=0
def tw16202867510964849186:=0
def tw16289931892976005112:=0
def tw2148632153723819092:=0
def tw1541308344713875305:=0
def tw11569319974700330365:=0
def tw12968661747143472053:=0
def tw3240487268098016963:=0
def tw6849856329685007488:=0
def tw13079432464978154660:=0
def tw9975014350201582524:=0
def tw6471281862511379835:=0
def tw11558758111330628513:=0
def tw8393734528375438762:=0
def tw12703696856434917912:=0
def tw18260254329162428904:=0
def tw7338204941017545087:=0
def tw5963857657087321951:=0
def tw9758939214833155941:=0
def tw11661833270245916170:=0
def tw17619577237355617930:=0
def tw8877439053925961868:=0
def tw14931069093552260791:=0
def tw4344640233322000460:=0
end PySem.W.Fast
open PySem PySem.W PyProof.Rows
set_option maxRecDepth 100000 in
set_option maxHeartbeats 0 in
theorem PySem.Challenge.cw_sidecut_k25_rims_told_holds : PySem.Challenge.rw_sidecut_k25_rims_told.Holds := by
 w_on; o_law; k_head; (case hw => w_witness2)
 k_fill
 refine My.HQ (l := PySem.Challenge.rw_sidecut_k25_rims_told) rfl rfl (λw h Y => PySem.W.kIn_of Y) ?F
 case F =>
  intro w mg fa h KX G hmg
  refine' My.M9 KX G hmg ?p0 ?p1 ?p2 ?p3 ?p4 ?p5 ?p6 ?p7 ?p8 ?p9 ?p10 ?p11 ?p12 ?p13 ?p14 ?p15 ?p16 ?p17 ?p18 ?p19 ?p20 ?p21 ?p22 ?p23 ?p24 ?p25 ?p26 ?p27 ?p28 ?p29 ?p30 ?p31 ?p32 ?p33 ?p34 ?p35 ?p36 ?p37 ?p38 ?p39 ?p40 ?p41 ?p42 ?p43 ?p44 ?p45 ?p46 ?p47 ?p48 ?p49 ?p50 ?p51 ?p52 ?p53 ?p54 ?q_NOUGHT ?r_NOUGHT ?q_ONE ?r_ONE ?q_GRID ?n_tri ?q_W ?r_W ?r_W1 ?r_W2 ?z_isinstance ?z_abs ?z_divmod ?z_min ?z_max ?z_all ?z_len ?z_int ?z_bool ?z_tuple ?z_list ?z_str ?z_range ?z_enumerate ?z_zip ?z_any
  any_goals exact My.fc rfl rfl rfl rfl
  (case q_NOUGHT => k_is)
  (case r_NOUGHT => k_is)
  (case q_ONE => k_is)
  (case r_ONE => k_is)
  (case q_GRID => k_is)
  (case n_tri => kernel_rfl)
  (case q_W => k_is)
  (case r_W => k_is)
  (case r_W1 => k_is)
  (case r_W2 => k_is)
  (case z_isinstance => k_is)
  (case z_abs => k_is)
  (case z_divmod => k_is)
  (case z_min => k_is)
  (case z_max => k_is)
  (case z_all => k_is)
  (case z_len => k_is)
  (case z_int => k_is)
  (case z_bool => k_is)
  (case z_tuple => k_is)
  (case z_list => k_is)
  (case z_str => k_is)
  (case z_range => k_is)
  (case z_enumerate => k_is)
  (case z_zip => k_is)
  (case z_any => k_is)
#print axioms PySem.Challenge.cw_sidecut_k25_rims_told_holds
