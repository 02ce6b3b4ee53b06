import PyProof.Rows.All
import Wide.All
import OpenK.AllK
import Wide.FinOn
import Lean
import PyProof.EqAt
import PyProof.EqKinds
import PyProof.TupleCall
import PyProof.NeKinds
import PyProof.ExcInit
import PyProof.Rows.SortStr
import PyProof.Rows.SortWalk
import PyProof.Rows.RuleB_bool
import PyProof.Rows.SortShellK
import KE.KIntText
import KE.KIsAll
import PyProof.AttrMissHeap
import PyProof.CompUse
import PyProof.Rows.CountFlat
import PySem.Challenge.RW_sidecut_k30_moved_and_turned
set_option Elab.async false
set_option linter.all false
set_option maxRecDepth 100000
set_option maxHeartbeats 4000000
open List renaming mem_map -> IP, getElem?_eq_getElem -> IQ, length_map -> IS, getElem?_eq_some_iff -> IT, mem_cons -> IU, length_append -> IY, append_assoc -> IZ, mem_of_getElem? -> JA, mem_singleton -> JB, getElem?_map -> JC, length_cons -> JE, mem_append_right -> JF, map_map -> JG, size_toArray -> JI, mem_append -> JJ, map_cons -> JK, getD_eq_getElem?_getD -> JM, getElem?_set_ne -> JN, getElem?_append_left -> JP, map_congr_left -> JQ, mem_cons_of_mem -> JR, append_nil -> JS, Nodup -> JT, mem_filter -> JV, mem_append_left -> JX, filter_cons_of_pos -> JZ, replicate -> KD, mem_zipIdx_iff_getElem? -> KH, getElem?_set_self -> KO, length_take -> KP, mem_flatMap -> KQ, filter_cons_of_neg -> KR, map_append -> KU, getElem?_append_right -> KY, length_singleton -> KZ, range -> LA, nil_append -> LC, getElem?_take_of_lt -> LF, sum_cons -> LG, mem_of_mem_take -> LH, mem_range -> LI, all_eq_true -> LK, getElem_mem -> LN, getElem?_of_mem -> LO, flatMap_cons -> LP, length_nil -> LQ, drop_eq_getElem_cons -> LR, lookup_cons -> LU, any_eq_true -> LW, filterMap_cons_some -> LX, not_mem_nil -> MB, mem_cons_self -> MC, getElem?_eq_none -> MF, eq_nil_of_length_eq_zero -> MH, drop_length -> MI, take_of_length_le -> MK, nodup_cons -> ML, getElem?_take_eq_none -> MO, getElem?_zipIdx -> MQ, length_drop -> MS, map_nil -> MT, filterMap_cons_none -> MW, length_tail -> MX, set_comm -> MZ, of_mem_zip -> NB, filterMap_map -> NC, getElem?_set -> NG, length_replicate -> NI, length_set -> NM, mem_filterMap -> NQ, range_succ_eq_map -> NY, forIn_cons -> OB, find?_cons -> OC, set_append_left -> OD, mem_of_mem_tail -> OG, length_zip -> OH, filterMap_cons -> OI, getElem?_range -> OJ, mem_map_of_mem -> OK, length -> OL, map_take -> OS, getElem?_eq_none_iff -> OT, flatMap_map -> PD, length_filterMap_le -> PH, getElem?_replicate -> PJ, zipIdx_map -> PN, length_pos_of_mem -> PU, nodup_nil -> PY, drop_zero -> PZ, any_cons -> QC
open Or renaming inl -> IV, inr -> JW
open Nat renaming le_refl -> IW, lt_of_lt_of_le -> JH, lt_of_le_of_lt -> JO, ne_of_lt -> JU, mul_le_mul -> KA, gcd -> KC, le_of_lt -> KN, le_trans -> KS, pow_le_pow_right -> LJ, zero_le -> LM, gcd_dvd_left -> LV, gcd_dvd_right -> LY, lt_or_ge -> LZ, gcd_pos_of_pos_right -> MV, not_lt_zero -> NN, min_eq_left -> NO, max_le -> NU, Coprime -> NZ, gcd_comm -> OE, mod_lt -> OF, log2_lt -> OM, eq_zero_or_pos -> OO, max -> OV, le_max_right -> OW, dvd_mul_left -> OX, log2 -> OY, zero_add -> PB, mod_eq_of_lt -> PC, mul_comm -> PF, le_mul_of_pos_right -> PK, le_max_left -> PL, mul_pos -> PV
open PySem.Heap renaming get?_push_of_some -> IX, lt_size -> JD, get?_push_size -> JL, get?_update_self -> MM, SameBut -> MR, size_push -> NT, get?_update_other -> PR
open Bool renaming and_eq_true -> JY, false_eq_true -> ME, eq_iff_iff -> MG, false_ne_true -> NA, not_eq_true' -> NW, or_eq_true -> PQ, and_false -> PX
open Int renaming natAbs_mul -> KG, ofNat_dvd_left -> KI, mul_ediv_cancel_left -> LL, natAbs_neg -> MJ, fdiv_eq_ediv_of_nonneg -> MN, toNat_natCast -> MP, mul_ne_zero -> ND, natAbs_natCast -> NF, mul_assoc -> NL, mul_nonpos_of_nonneg_of_nonpos -> NX, mul_pos -> ON, emod_lt_of_pos -> OP, ediv_eq_of_eq_mul_right -> OQ, fmod_eq_emod_of_nonneg -> OR, eq_of_mul_eq_mul_left -> OU, mul_fdiv_cancel_left -> OZ, emod_nonneg -> PM
open PySem.Value renaming ref -> KW, none -> NS
open PySem.Obj renaming mapSeq -> MA
open Array renaming length_toList -> MY, getElem?_setIfInBounds_self_of_lt -> NK, getElem?_setIfInBounds_ne -> OA, toList -> QD
open PySem.Str renaming length_append -> NH, ofString -> NJ
open PySem.Txt renaming slice -> NR
open Option renaming bind_eq_some_iff -> NV
open PyProof.Rows renaming assignInOrder_cons -> RP, AllBare -> SH, envOfC -> SK, assignInOrder_nil -> SX
open PySem renaming Addr -> QF, wpAny_bind -> QH, Program -> QJ, FuncData -> QK, wpAny -> QL, World -> QM, wpAny_pure -> QN, sizeLine -> QP, mainGlobals -> QR, Stmt -> QU, model -> QV, foldedSetIterable -> QX, starEach -> QY, assignEach -> QZ, behindInMarks -> RA, eval -> RB, wpAny_field -> RC, wpAny_newObj_type -> RD, Scope -> RF, compareOp -> RG, sliceBounds -> RH, swapsWithSole -> RI, swappedStores -> RJ, bootBuiltins -> RK, binaryOp -> RL, wpAny_truthy_bool -> RM, swapsWith -> RN, sysModules -> RO, wpAny_passesOwn -> RQ, attributeBase -> RS, holding -> RT, wpAny_seqItems -> RU, wpAny_mono -> RW, wpAny_setField_rec -> RX, bindName -> RY, wpAny_rule -> RZ, wpAny_call_entry -> SA, backTo -> SD, assign -> SE, wpAny_holding -> SF, wpAny_pyIter_tuple -> SG, wpAny_bindName -> SI, IsZip -> SJ, assignInOrder -> SM, wpAny_standAt -> SN, cLine -> SO, wpAny_execs_nil -> SQ, letOwnedTupleGo -> SR, getItem -> SS, sizeLine_eq -> SU, tupleKind -> SV, wpAny_Call_Name_kw -> SW, callerA -> SY, subscripted -> TB
namespace L2
open PySem PySem.Spec PyProof.Rows
abbrev Key:=Sum Int Str
def wF:Key->Value->Bool
 | .inl k,v=>Value.isInt k v
 | .inr x,v=>Value.isStrOf x v
def EK (w:QM):Key->Int
 | .inl k=>hashInt k
 | .inr x=>hashStr w x
theorem cW:∀{k:Key} {v:Value},wF k v=true->(∃i t,k=Sum.inl i/\v=Value.int i t)\/(∃x t,k=Sum.inr x/\v=Value.str x t)
 | .inl i,v,h=>by
  obtain ⟨t,e⟩:=Value.isInt_shape (k:=i) (v:=v) h;exact .inl ⟨i,t,rfl,e⟩
 | .inr x,v,h=>by
  obtain ⟨t,e⟩:=Value.isStrOf_shape (x:=x) (v:=v) h;exact .inr ⟨x,t,rfl,e⟩
theorem Lh (i:Int) (t:Tok):wF (.inl i) (.int i t)=true:=by simp [wF,Value.isInt]
theorem Li (x:Str) (t:Tok):wF (.inr x) (.str x t)=true:=by simp [wF,Value.isStrOf]
theorem R0 (a b:Int):decide ((Sum.inl a:Key)=Sum.inl b)=(a==b):=by
 by_cases e:a=b
 ·subst e;simp
 ·have h:¬(Sum.inl a:Key)=Sum.inl b:=λq=>e (Sum.inl.inj q);rw [decide_eq_false h];exact (beq_eq_false_iff_ne.mpr e).symm
theorem U6 (a b:Str):decide ((Sum.inr a:Key)=Sum.inr b)=decide (a=b):=by
 by_cases e:a=b
 ·subst e;simp
 ·have h:¬(Sum.inr a:Key)=Sum.inr b:=λq=>e (Sum.inr.inj q);rw [decide_eq_false h,decide_eq_false e]
theorem O1 (a:Int) (b:Str):decide ((Sum.inl a:Key)=Sum.inr b)=false:=decide_eq_false (λq=>nomatch q)
theorem U3 (a:Str) (b:Int):decide ((Sum.inr a:Key)=Sum.inl b)=false:=decide_eq_false (λq=>nomatch q)
def eV (prog:QJ) (w:QM):PySem.KeyKind prog w Key where
 is:=wF
 hash:=EK w
 inj:=λv a b ha hb=>by
  rcases cW ha with ⟨i,t,rfl,rfl⟩ | ⟨x,t,rfl,rfl⟩
  ·rcases cW hb with ⟨j,u,rfl,e⟩ | ⟨y,u,rfl,e⟩
   ·injection e with e1 _;rw [e1]
   ·exact nomatch e
  ·rcases cW hb with ⟨j,u,rfl,e⟩ | ⟨y,u,rfl,e⟩
   ·exact nomatch e
   ·injection e with e1 _;rw [e1]
 byValue:=λk v h=>by
  rcases cW h with ⟨i,t,rfl,rfl⟩ | ⟨x,t,rfl,rfl⟩<;>rfl
 pyHash:=λhv h=>by
  rcases cW hv with ⟨i,t,rfl,rfl⟩ | ⟨x,t,rfl,rfl⟩
  ·exact wpAny_pyHash_int h
  ·exact wpAny_pyHash_str h
 eqBool:=λhu hv h=>by
  rcases cW hu with ⟨i,t,rfl,rfl⟩ | ⟨x,t,rfl,rfl⟩
  ·rcases cW hv with ⟨j,u,rfl,rfl⟩ | ⟨y,u,rfl,rfl⟩
   ·rw [R0] at h;exact wpAny_eqBool_int h
   ·rw [O1] at h;exact SeqAt.EqAt.int_str i t y u _ _ _ _ h
  ·rcases cW hv with ⟨j,u,rfl,rfl⟩ | ⟨y,u,rfl,rfl⟩
   ·rw [U3] at h;exact SeqAt.EqAt.str_int x t j u _ _ _ _ h
   ·rw [U6] at h;exact wpAny_eqBool_str h
 «strs»:=λk x t v h=>by
  rcases cW h with ⟨i,u,rfl,e⟩ | ⟨y,u,rfl,e⟩
  ·exact nomatch e
  ·injection e with e1 _;subst e1;cases v<;>rfl
theorem Ca (prog:QJ) (w:QM) (i:Int) (t:Tok):(eV prog w).is (.inl i) (.int i t)=true:=Lh i t
theorem z9 (prog:QJ) (w:QM) (x:Str) (t:Tok):(eV prog w).is (.inr x) (.str x t)=true:=Li x t
inductive V where
 | non | bl (b:Bool) | int (i:Int) | str (x:Str) | byt (b:Array UInt8) | flt (b:UInt64) | ref (a:QF) | ty (n:String)
 deriving DecidableEq
def bP:V->Value->Prop
 | .non,u=>u=NS
 | .bl b,u=>u=Value.bool b
 | .int i,u=>∃t,u=Value.int i t
 | .str x,u=>∃t,u=Value.str x t
 | .byt b,u=>∃t,u=Value.bytes b t
 | .flt b,u=>∃t,u=Value.float b t
 | .ref a,u=>u=KW a
 | .ty n,u=>u=Value.type n
abbrev bG:List V->List Value->Prop:=Paired bP
theorem bG.length {xs:List V} {us:List Value} (r:bG xs us):xs.length=us.length:=Paired.length r
theorem bG.get:∀{xs:List V} {us:List Value} {i:Nat} {x:V},bG xs us->xs[i]? = some x->∃u,us[i]? = some u/\bP x u
 | _,_,_,_,.nil,e=>by simp at e
 | _,_,0,_,.cons r _,e=>by simp at e;subst e;exact ⟨_,rfl,r⟩
 | _,_,i+1,x,.cons _ t,e=>by
  obtain ⟨u,h1,h2⟩:=bG.get (i:=i) (x:=x) t (by simpa using e);exact ⟨u,by simpa using h1,h2⟩
theorem bG.set {x:V} {u:Value} (r:bP x u):∀{xs:List V} {us:List Value} (i:Nat),bG xs us->bG (xs.set i x) (us.set i u)
 | _,_,_,.nil=>.nil
 | _,_,0,.cons _ t=>.cons r t
 | _,_,i+1,.cons q t=>.cons q (bG.set r i t)
theorem bG.append:∀{xs ys:List V} {us ws:List Value},bG xs us->bG ys ws->bG (xs++ys) (us++ws)
 | _,_,_,_,.nil,s=>s
 | _,_,_,_,.cons r t,s=>.cons r (bG.append t s)
theorem bG.take:∀{xs:List V} {us:List Value} (n:Nat),bG xs us->bG (xs.take n) (us.take n)
 | _,_,0,_=>.nil
 | _,_,_+1,.nil=>.nil
 | _,_,n+1,.cons r t=>.cons r (bG.take n t)
theorem bG.drop:∀{xs:List V} {us:List Value} (n:Nat),bG xs us->bG (xs.drop n) (us.drop n)
 | _,_,0,r=>r
 | _,_,_+1,.nil=>.nil
 | _,_,n+1,.cons _ t=>bG.drop n t
def Pg:Option V->Option Value->Prop
 | some v,some u=>bP v u
 | none,none=>True
 | _,_=>False
def KV {κ:Type}:List (κ×V)->List (κ×Value)->Prop:=Paired λ(p:κ×V) (q:κ×Value)=>p.1=q.1/\bP p.2 q.2
def kV:Key->V
 | .inl i=>.int i
 | .inr x=>.str x
inductive HO where
 | lst (xs:List V)
 | tup (xs:List V)
 | dK (TN:List (Key×V)) | dT (TN:List (List Key×V))
 | set (S:Int->Bool) (n:Nat)
 | ins (C dx:QF) (fs:List (Str×V))
 | own (x:QF)
 | xd (fs:List (Str×V))
 | met (f x:QF)
 | rng (lo hi:Int)
 | frz (o:Obj) (u:HO)
 | tbl (ps:Array Value)
 | ext (φ:Heap->Prop)
abbrev Hp:=QF->Option HO
def upd (H:Hp) (a:QF) (o:HO):Hp:=λb=>if b=a then some o else H b
theorem cV {H:Hp} {a:QF} {o:HO}:upd H a o a=some o:=by unfold upd;rw [if_pos rfl]
theorem bC {H:Hp} {a b:QF} {o:HO} (h:b≠a):upd H a o b=H b:=by unfold upd;rw [if_neg h]
theorem AG {H:Hp} {a b:QF} {o u:HO} (h:H a=some o) (h':H b=some u) (d:o≠u):a≠b:=by
 intro e;subst e;rw [h] at h';exact d (Option.some.inj h')
theorem bF {H:Hp} {a b:QF} {o:HO} (h:H a=some o) (h':H b=none):a≠b:=by
 intro e;subst e;rw [h] at h';cases h'
section
variable (P:QJ) (w:QM)
def dW (H:Hp) (h:Heap) (a:QF):HO->Prop
 | .lst xs=>xs.length<=QP/\∃(TC:List Value) (n:Nat),bG xs TC/\h.get? a=some { cls:=.type "list",data:=.seq TC.toArray n }
 | .tup xs=>xs.length<=QP/\∃TC:List Value,bG xs TC/\IsTup h a TC.toArray
 | .dK TN=>TN.length<=QP/\(a==RO)=false/\∃vs,KV TN vs/\h.DictOf (eV P w) a vs
 | .dT TN=>TN.length<=QP/\(a==RO)=false/\∃xs:List (List Key×QF×Value),
   Paired (λ(p:List Key×V) (q:List Key×QF×Value)=>p.1=q.1/\H q.2.1=some (.tup (p.1.map kV))/\bP p.2 q.2.2) TN xs/\
   ∃o es ep,h.get? a=some o/\o.ExactDict/\o.data = .dict es ep/\es.toList=xs.map (entryOfKey (SV (eV P w)))/\(xs.map (·.1)).Nodup
 | .set S n=>h.SetOf (intKind P w) a S n
 | .ins C dx fs=>H dx=some (.own a)/\fs.length<=1000/\dx≠a/\h.get? a=some (W.instObj C dx)/\
   ∃mA,h.Ns1 dx mA/\(∀f,Pg (fs.lookup f) (mA f))/\PySem.Within mA (fs.map (·.1))
 | .own _=>∃o,h.get? a=some o
 | .xd fs=>∃mA,h.Ns1 a mA/\∀f,Pg (fs.lookup f) (mA f)
 | .rng lo hi=>∃t u v,h.get? a=some { cls:=.type "range",data:=.fields #[.int lo t,.int hi u,.int 1 v] }
 | .frz o u=>h.get? a=some o/\dW H h a u
 | .tbl ps=>h.get? a=some { cls:=.none,data:=.fields ps }
 | .met f x=>h.get? a=some (W.methodObj (.ref f) (.ref x))
 | .ext φ=>φ h/\(∃o,h.get? a=some o)/\∀h1 h2:Heap,φ h1->(∀o,h1.get? a=some o->h2.get? a=some o)->φ h2
def nX (H:Hp) (h:Heap):Prop:=∀a o,H a=some o->dW P w H h a o
end
section
variable {P:QJ} {w:QM} {H H':Hp} {h h':Heap} {a:QF} {o:HO}
theorem dW.lt (x:dW P w H h a o):a<h.objs.size:=by
 cases o with
 | lst xs=>obtain ⟨_,_,_,_,e⟩:=x;exact JD e
 | tup xs=>obtain ⟨_,_,_,p⟩:=x;exact p.lt
 | dK TN=>obtain ⟨_,_,_,_,o,_,_,e,_⟩:=x;exact JD e
 | dT TN=>obtain ⟨_,_,_,_,o,_,_,e,_⟩:=x;exact JD e
 | set S n=>obtain ⟨o,_,_,_,e,_⟩:=x;exact JD e
 | ins C dx fs=>obtain ⟨_,_,_,e,_⟩:=x;exact JD e
 | own y=>obtain ⟨_,e⟩:=x;exact JD e
 | xd fs=>obtain ⟨_,⟨_,_,_,e,_⟩,_⟩:=x;exact JD e
 | rng lo hi=>obtain ⟨_,_,_,e⟩:=x;exact JD e
 | frz ob u=>obtain ⟨e,_⟩:=x;exact JD e
 | tbl ps=>exact JD (show h.get? a=some _ from x)
 | met f y=>exact JD (show h.get? a=some _ from x)
 | ext φ=>obtain ⟨_,⟨_,e⟩,_⟩:=x;exact JD e
theorem Paired.mapP {α β:Type} {F G:α->β->Prop}:∀{l₁:List α} {l₂:List β},Paired F l₁ l₂->(∀a b,F a b->G a b)->Paired G l₁ l₂
 | _,_,.nil,_=>.nil
 | _,_,.cons r t,f=>.cons (f _ _ r) (Paired.mapP t f)
theorem dW.stay (x:dW P w H h a o) (k:∀b u,(b=a\/H b=some (.own a))->h.get? b=some u->h'.get? b=some u)
  (ho:∀b,H b=some (.own a)->H' b=some (.own a)) (ht:∀b xs,H b=some (.tup xs)->H' b=some (.tup xs)):dW P w H' h' a o:=by
 induction o with
 | lst xs=>obtain ⟨z,TC,n,r,e⟩:=x;exact ⟨z,TC,n,r,k _ _ (.inl rfl) e⟩
 | tup xs=>obtain ⟨z,TC,r,ob,e,c⟩:=x;exact ⟨z,TC,r,ob,k _ _ (.inl rfl) e,c⟩
 | dK TN=>obtain ⟨z,y,vs,r,ob,es,ep,e,c⟩:=x;exact ⟨z,y,vs,r,ob,es,ep,k _ _ (.inl rfl) e,c⟩
 | dT TN=>
  obtain ⟨z,y,xs,r,ob,es,ep,e,c⟩:=x;exact ⟨z,y,xs,Paired.mapP r λp q z=>⟨z.1,ht _ _ z.2.1,z.2.2⟩,ob,es,ep,k _ _ (.inl rfl) e,c⟩
 | set S n=>obtain ⟨ob,es,ep,t,e,c⟩:=x;exact ⟨ob,es,ep,t,k _ _ (.inl rfl) e,c⟩
 | ins C dx fs=>
  obtain ⟨d,z,ne,e,mA,⟨od,es,ep,e2,c⟩,r⟩:=x;exact ⟨ho _ d,z,ne,k _ _ (.inl rfl) e,mA,⟨od,es,ep,k _ _ (.inr d) e2,c⟩,r⟩
 | own y=>obtain ⟨ob,e⟩:=x;exact ⟨ob,k _ _ (.inl rfl) e⟩
 | xd fs=>obtain ⟨mA,⟨od,es,ep,e,c⟩,r⟩:=x;exact ⟨mA,⟨od,es,ep,k _ _ (.inl rfl) e,c⟩,r⟩
 | rng lo hi=>obtain ⟨t,u,v,e⟩:=x;exact ⟨t,u,v,k _ _ (.inl rfl) e⟩
 | frz ob u ih=>obtain ⟨e,q⟩:=x;exact ⟨k _ _ (.inl rfl) e,ih q⟩
 | tbl ps=>
  have e:h.get? a=some { cls:=.none,data:=.fields ps }:=x;show h'.get? a=some { cls:=.none,data:=.fields ps };exact k a _ (.inl rfl) e
 | met f y=>
  have e:h.get? a=some (W.methodObj (.ref f) (.ref y)):=x;show h'.get? a=some (W.methodObj (.ref f) (.ref y));exact k a _ (.inl rfl) e
 | ext φ=>obtain ⟨p,⟨o,e⟩,st⟩:=x;exact ⟨st _ _ p λo q=>k _ _ (.inl rfl) q,⟨o,k _ _ (.inl rfl) e⟩,st⟩
theorem nX.lt (x:nX P w H h) (e:H a=some o):a<h.objs.size:=(x a o e).lt
theorem nX.fresh (x:nX P w H h) (e:h.objs.size<=a):H a=none:=by
 cases q:H a with
 | none=>rfl
 | some u=>exact absurd (JH (x.lt q) e) (Nat.lt_irrefl _)
theorem nX.kept (x:nX P w H h) (k:∀b u,h.get? b=some u->h'.get? b=some u):nX P w H h':=λa o e=>
 (x a o e).stay (λb u _ q=>k b u q) (λ_ q=>q) λ_ _ q=>q
theorem nX.laid (x:nX P w H h) (k:∀b u,h.get? b=some u->h'.get? b=some u) (hp:h.objs.size<=a) (new:dW P w (upd H a o) h' a o):nX P w (upd H a o) h':=λb u e=>by
 have hn:=x.fresh hp
 by_cases hb:b=a
 ·subst hb;rw [cV] at e;cases e;exact new
 ·rw [bC hb] at e;exact (x b u e).stay (λc v _ q=>k c v q) (λc q=>by rw [bC (bF q hn)];exact q) λc xs q=>by rw [bC (bF q hn)];exact q
end
def Rd (H:Hp) (a:QF) (u:HO):Prop:=H a=some u\/∃o,H a=some (.frz o u)
theorem Rd.ok {P:QJ} {w:QM} {H:Hp} {h:Heap} {a:QF} {u:HO} (r:Rd H a u) (x:nX P w H h):dW P w H h a u:=by
 rcases r with r | ⟨o,r⟩
 ·exact x a u r
 ·obtain ⟨_,q⟩:=x a _ r;exact q
def CS:Option HO->Prop
 | some (.lst _)=>True
 | some (.dK _)=>True
 | some (.dT _)=>True
 | some (.set _ _)=>True
 | some (.ins _ _ _)=>True
 | some (.ext _)=>True
 | _=>False
section
variable {P:QJ} {w:QM} {H:Hp} {h h':Heap} {x e:QF} {o':HO}
theorem nX.write (ok:nX P w H h) (mu:CS (H x)) (he:e=x\/H e=some (.own x)) (k:∀b u,b≠e->h.get? b=some u->h'.get? b=some u) (gv:∃u,h'.get? e=some u)
  (new:dW P w (upd H x o') h' x o'):nX P w (upd H x o') h':=λb u q=>by
 have je:∀c y,H c=some (.own y)->c≠x:=λc y r z=>by subst z;rw [r] at mu;exact mu
 have qr:∀c xs,H c=some (.tup xs)->c≠x:=λc xs r z=>by subst z;rw [r] at mu;exact mu
 by_cases hb:b=x
 ·subst hb;rw [cV] at q;cases q;exact new
 ·rw [bC hb] at q
  by_cases cu:b=e
  ·have q':H b=some (.own x):=by
    rcases he with z | z
    ·exact absurd (cu.trans z) hb
    ·rw [cu];exact z
   rw [q] at q';cases q';obtain ⟨v,hv⟩:=gv;exact ⟨v,by rw [cu];exact hv⟩
  ·refine (ok b u q).stay (λc v hc r=>k c v ?_ r) (λc r=>by rw [bC (je c b r)];exact r) λc xs r=>by rw [bC (qr c xs r)];exact r
   rcases hc with rfl | hc
   ·exact cu
   ·rintro rfl;rcases he with z | z
    ·exact je c b hc z
    ·rw [hc] at z;cases z;exact hb rfl
end
structure Un (fs ex:List QF) (H H':Hp) (h h':Heap):Prop where
 keep:∀b o,h.get? b=some o->H b=none->b∉fs->b∉ex->h'.get? b=some o
 slot:∀b o,h.get? b=some o->H b=none->b∈fs->b∉ex->∃sl,h'.get? b=some { o with slots:=sl }
 free:∀b o,h.get? b=some o->H b=none->b∉ex->H' b=none
 there:∀b o,h.get? b=some o->b∉ex->∃o',h'.get? b=some o'
 tups:∀b xs,H b=some (.tup xs)->H' b=some (.tup xs)
 frzs:∀b o u,H b=some (.frz o u)->H' b=some (.frz o u)
 tbls:∀b ps,H b=some (.tbl ps)->∃more,H' b=some (.tbl (ps++more))
section
variable {fs fs' ex ex':List QF} {H H1 H2:Hp} {h h1 h2 h':Heap} {a x e:QF} {o:HO}
theorem Un.any (u:Un fs ex H H1 h h1) {b:QF} {ob:Obj} (q:h.get? b=some ob) (n:H b=none) (hx:b∉ex):∃sl,h1.get? b=some { ob with slots:=sl }:=by
 by_cases hb:b∈fs
 ·exact u.slot b ob q n hb hx
 ·exact ⟨ob.slots,u.keep b ob q n hb hx⟩
theorem Un.kept (k:∀b u,h.get? b=some u->h'.get? b=some u):Un fs ex H H h h':=
 ⟨λb ob q _ _ _=>k b ob q,λb ob q _ _ _=>⟨ob.slots,k b ob q⟩,λ_ _ _ n _=>n,λb ob q _=>⟨ob,k b ob q⟩,λ_ _ q=>q,λ_ _ _ q=>q,λ_ ps q=>⟨#[],by rw [q];simp⟩⟩
theorem Un.refl:Un fs ex H H h h:=Un.kept λ_ _ q=>q
theorem Un.laid (k:∀b u,h.get? b=some u->h'.get? b=some u) (hp:h.objs.size<=a) (hn:H a=none):Un fs ex H (upd H a o) h h' where
 keep:=λb u q _ _ _=>k b u q
 slot:=λb u q _ _ _=>⟨u.slots,k b u q⟩
 free:=λb u q n _=>by rw [bC (JU (JH (JD q) hp))];exact n
 there:=λb u q _=>⟨u,k b u q⟩
 tups:=λb xs q=>by rw [bC (bF q hn)];exact q
 frzs:=λb u xs q=>by rw [bC (bF q hn)];exact q
 tbls:=λb ps q=>⟨#[],by rw [bC (bF q hn),q];simp⟩
theorem Un.write (mu:CS (H x)) (he:e=x\/H e=some (.own x)) (k:∀b u,b≠e->h.get? b=some u->h'.get? b=some u) (gv:∃u,h'.get? e=some u):Un fs ex H (upd H x o) h h':=by
 have hx:∀b,H b=none->b≠x:=λb n z=>by subst z;rw [n] at mu;exact mu
 have hb:∀b,H b=none->b≠e:=λb n z=>by
  subst z;rcases he with r | r
  ·exact hx b n r
  ·rw [n] at r;cases r
 have hm:∀b u,H b=some u->¬CS (some u)->b≠x:=λb u q nm z=>by subst z;rw [q] at mu;exact nm mu
 refine ⟨λb u q n _ _=>k b u (hb b n) q,λb u q n _ _=>⟨u.slots,k b u (hb b n) q⟩,λb u q n _=>by rw [bC (hx b n)];exact n,λb u q _=>?_,
  λb xs q=>by rw [bC (hm b _ q λz=>z)];exact q,λb u xs q=>by rw [bC (hm b _ q λz=>z)];exact q,λb ps q=>⟨#[],by rw [bC (hm b _ q λz=>z),q];simp⟩⟩
 by_cases cu:b=e
 ·subst cu;exact gv
 ·exact ⟨u,k b u cu q⟩
end
def DC (h:Heap) (H:Hp):List QF:=(LA h.objs.size).filter λa=>(H a).isSome
def xP (h:Heap) (H:Hp):Heap:=W.hideAll h (DC h H)
theorem Nb (h:Heap) (H:Hp):(xP h H).objs.size=h.objs.size:=W.hideAll_size _ _
theorem Pn {h:Heap} {H:Hp} {b:QF} {o:Obj} (e:h.get? b=some o) (n:H b=none):(xP h H).get? b=some o:=
 W.hideAll_get _ e λhm=>by
  have q:(H b).isSome=true:=(JV.mp hm).2;rw [n] at q;simp at q
theorem Ze {h:Heap} {H:Hp} {b:QF} {o:Obj} (e:(xP h H).get? b=some o):h.get? b=some o/\H b=none:=by
 have e':h.get? b=some o:=W.of_hideAll (DC h H) e;refine ⟨e',?_⟩;cases q:H b with
 | none=>rfl
 | some x=>
  have hm:b∈DC h H:=JV.mpr ⟨LI.mpr (JD e'),by simp [q]⟩;have z:(xP h H).get? b=none:=W.hideAll_none (DC h H) hm;rw [z] at e;cases e
structure Mod (K:W.Frag) (mg:Str->Option Value) (base:Heap):Prop where
 kin:K.In base
 glob:base.Ns QR mg
 blt:∃mb,base.Ns builtinsNs mb/\∀x:Str,x≠"__name__"->mb x=RK x
 nolimit:base.NoLimit
structure Cx where
 prog:QJ
 w:QM
 K:W.Frag
 mg:Str->Option Value
 base:Heap
 A:Around
 N:List Str
 s₀:Shared
 H₀:Hp
 env:Env
 outer:List Env
 stack:List Env
 ex:List QF
 fn:Str->Bool
 calm:Bool
 pn:List (QF×Obj)
 xe:Value->Shared->Prop
def Jp (l:List Env):List QF:=l.filterMap (·.frame)
abbrev Cx.fs (X:Cx):List QF:=Jp X.outer
def V1 (sc:RF) (x:Str):Prop:=sc.names.lookup x=some .local\/sc.names.lookup x=some .cell\/sc.names.lookup x=some .free
def Eh (sc:RF) (x:Str):Prop:=sc.names.lookup x=some .local\/sc.names.lookup x=some .cell
def GK (env:Env) (h:Heap) (m:Str->Option Value) (x:Str) (u:Value):Prop:=
 (env.kindOf x=some .local/\m x=some u)\/((env.kindOf x=some .cell\/env.kindOf x=some .free)/\∃c,env.cells.lookup x=some c/\h.IsCell c (some u))
structure Cx.Ok (X:Cx):Prop where
 mod:Mod X.K X.mg X.base
 kind:X.env.scope.kind = .function
 glob:X.env.globals=QR
 blt:X.env.builtins=builtinsNs
 above:X.s₀.heap.objs.size<=X.env.locals
 inj:∀x y c,X.env.cells.lookup x=some c->X.env.cells.lookup y=some c->x=y
 has:∀x,(X.env.kindOf x=some .cell\/X.env.kindOf x=some .free)->∃c,X.env.cells.lookup x=some c
 cab:∀x c,X.fn x=true->X.env.cells.lookup x=some c->X.s₀.heap.objs.size<=c
 hd:X.calm=true->X.A.handled=none
 frames:X.A.frames=some X.stack
 stk:X.stack=X.outer\/(X.stack=X.env::X.outer/\X.env.frame=some X.env.locals)
 exf:∀b∈X.ex,b≠X.env.locals/\∀x c,X.env.cells.lookup x=some c->c≠b
 bs:∀b o,X.base.get? b=some o->X.s₀.heap.get? b=some o/\X.H₀ b=none
 bsz:X.base.objs.size<=X.s₀.heap.objs.size
 noex:∀b o,X.base.get? b=some o->b∉X.ex
 exfs:∀b∈X.ex,b∉X.fs
 funs:X.s₀.heap.FunFrames X.base X.outer
 frf:∀b∈X.fs,X.H₀ b=none
structure aY (X:Cx) (pins:List (QF×Obj)) (σ:List (Option V)) (H:Hp) (s:Shared):Prop where
 ok:X.Ok
 os:s.os=X.s₀.os
 bare:SH s.gens
 base:Un X.fs X.ex X.H₀ H X.s₀.heap s.heap
 loc:∃m,s.heap.Ns X.env.locals m/\∀(i:Nat) (x:Str) (v:V),X.N[i]? = some x->σ[i]? = some (some v)->V1 X.env.scope x->∃u,bP v u/\GK X.env s.heap m x u
 cell:∀x c,X.env.cells.lookup x=some c->∃v,s.heap.IsCell c v
 free:H X.env.locals=none
 freeC:∀x c,X.env.cells.lookup x=some c->H c=none
 pin:∀p∈X.pn++pins,s.heap.get? p.1=some p.2/\H p.1=none/\p.1≠X.env.locals/\p.1∉X.fs/\∀v,p.2.data≠.cell v
 hok:nX X.prog X.w H s.heap
 len:σ.length=X.N.length
section
variable {X:Cx} {pins:List (QF×Obj)} {σ:List (Option V)} {H H':Hp} {s:Shared} {h':Heap}
theorem Cx.Ok.nofr (ok:X.Ok) {b:QF} {o:Obj} (e:X.base.get? b=some o):b∉X.fs:=λhb=>by
 have:=(ok.funs.mem hb).1;rw [e] at this;cases this
theorem aY.bs (I:aY X pins σ H s):∀b o,X.base.get? b=some o->s.heap.get? b=some o/\H b=none:=λb o e=>
 ⟨I.base.keep b o (I.ok.bs b o e).1 (I.ok.bs b o e).2 (I.ok.nofr e) (I.ok.noex b o e),I.base.free b o (I.ok.bs b o e).1 (I.ok.bs b o e).2 (I.ok.noex b o e)⟩
theorem aY.bk (I:aY X pins σ H s):∀b o,X.base.get? b=some o->s.heap.get? b=some o:=λb o e=>(I.bs b o e).1
theorem aY.mod (I:aY X pins σ H s):Mod X.K X.mg X.base:=I.ok.mod
theorem aY.kIn (I:aY X pins σ H s):X.K.In s.heap:=I.ok.mod.kin.keeps I.bk
theorem aY.lt (I:aY X pins σ H s):X.env.locals<s.heap.objs.size:=let ⟨_,hn,_⟩:=I.loc;hn.lt
theorem aY.sz (I:aY X pins σ H s):X.s₀.heap.objs.size<=s.heap.objs.size:=KS I.ok.above (KN I.lt)
theorem aY.nofs (I:aY X pins σ H s) {a:QF} (h:s.heap.objs.size<=a):a∉X.fs:=λhb=>by
 obtain ⟨_,o,ho,_⟩:=I.ok.funs.mem hb;exact absurd (JH (JD ho) (KS I.sz h)) (Nat.lt_irrefl _)
theorem aY.cne (I:aY X pins σ H s):∀x c,X.env.cells.lookup x=some c->c≠X.env.locals:=λx c e z=>by
 obtain ⟨v,o,ho,hd⟩:=I.cell x c e;obtain ⟨m,⟨o',es,ep,WZ,qt,_⟩,_⟩:=I.loc;rw [z,WZ] at ho;cases ho;rw [qt] at hd;cases hd
theorem aY.funs (I:aY X pins σ H s):s.heap.FunFrames X.base X.outer:=by
 have all:∀(l:List Env),(∀b∈Jp l,b∈X.fs)->X.s₀.heap.FunFrames X.base l->s.heap.FunFrames X.base l:=by
  intro l
  induction l with
  | nil=>intro _ _;trivial
  | cons env r ih=>
   intro hs hl;obtain ⟨hk,⟨L,o,hf,hn,ho,hd⟩,hr⟩:=hl;have hL:L∈X.fs:=hs L (by unfold Jp;rw [OI,hf];exact MC);obtain ⟨sl,e⟩:=I.base.slot L o ho (I.ok.frf L hL) hL λz=>I.ok.exfs L z hL;exact ⟨hk,⟨L,_,hf,hn,e,hd⟩,ih (λb hb=>hs b (by unfold Jp;rw [OI,hf];exact JR _ hb)) hr⟩
 exact all X.outer (λ_ hb=>hb) I.ok.funs
theorem aY.stack (I:aY X pins σ H s):s.heap.FunFrames X.base X.stack:=by
 rcases I.ok.stk with e | ⟨e,hf⟩
 ·rw [e];exact I.funs
 ·rw [e];obtain ⟨m,hn,_⟩:=I.loc;refine .cons (by rw [I.ok.kind];decide) hf hn ?_ I.funs;exact Heap.get?_none_of_le (KS I.ok.bsz I.ok.above)
theorem aY.stkSub (I:aY X pins σ H s):∀b∈Jp X.stack,b∈X.env.locals::X.fs:=λb hb=>by
 rcases I.ok.stk with e | ⟨e,hf⟩
 ·rw [e] at hb;exact JR _ hb
 ·rw [e] at hb;unfold Jp at hb;rw [OI,hf] at hb;exact hb
theorem aY.stkFree (I:aY X pins σ H s):∀b∈Jp X.stack,H b=none:=λb hb=>by
 rcases IU.mp (I.stkSub b hb) with e | hb
 ·rw [e];exact I.free
 ·obtain ⟨_,o,ho,_⟩:=I.ok.funs.mem hb;exact I.base.free b o ho (I.ok.frf b hb) λz=>I.ok.exfs b z hb
theorem aY.step {g':Array GenState} {t':Nat} {d':Drawn} {ch:List QF} (I:aY X pins σ H s)
  (ZF:∀b∈ch,(b∈X.ex\/X.s₀.heap.objs.size<=b)/\b≠X.env.locals/\(∀x c,X.env.cells.lookup x=some c->c≠b)/\∀p∈X.pn++pins,p.1≠b)
  (keep:∀b o,b≠X.env.locals->b∉X.fs->b∉ch->s.heap.get? b=some o->H b=none->h'.get? b=some o)
  (slot:∀b o,b≠X.env.locals->b∈X.fs->b∉ch->s.heap.get? b=some o->H b=none->∃sl,h'.get? b=some { o with slots:=sl }) (free:∀b o,b∉ch->s.heap.get? b=some o->H b=none->H' b=none)
  (there:∀b o,b∉ch->s.heap.get? b=some o->∃o',h'.get? b=some o')
  (tups:∀b xs,H b=some (.tup xs)->H' b=some (.tup xs)) (frzs:∀b o u,H b=some (.frz o u)->H' b=some (.frz o u)) (tbls:∀b ps,H b=some (.tbl ps)->∃more,H' b=some (.tbl (ps++more)))
  (ns:∀m,s.heap.Ns X.env.locals m->h'.Ns X.env.locals m) (hok:nX X.prog X.w H' h') (hg:SH g') :
  aY X pins σ H' { s with heap:=h',gens:=g',drawn:=d',toks:=t' }:=by
 have xl:∀b o,X.s₀.heap.get? b=some o->b≠X.env.locals:=λb o e=>JU (JH (JD e) I.ok.above);have av:∀b o,X.s₀.heap.get? b=some o->b∉X.ex->b∉ch:=λb o e hx hb=>by
  rcases (ZF b hb).1 with z | z
  ·exact hx z
  ·exact absurd (JH (JD e) z) (Nat.lt_irrefl _)
 have cellK:∀x c,X.env.cells.lookup x=some c->∀v,s.heap.IsCell c v->h'.IsCell c v:=λx c e v ⟨o,ho,hd⟩=>by
  have jf:c∉ch:=λz=>(ZF c z).2.2.1 x c e rfl
  by_cases hc:c∈X.fs
  ·obtain ⟨sl,q⟩:=slot c o (I.cne x c e) hc jf ho (I.freeC x c e);exact ⟨_,q,hd⟩
  ·exact ⟨o,keep c o (I.cne x c e) hc jf ho (I.freeC x c e),hd⟩
 refine ⟨I.ok,I.os,hg,⟨λb o e n hb hx=>?_,λb o e n hb hx=>?_,λb o e n hx=>?_,λb o e hx=>?_,λb xs e=>tups b xs (I.base.tups b xs e),λb o xs e=>frzs b o xs (I.base.frzs b o xs e),λb ps e=>?_⟩,?_,λx c e=>?_,?_,λx c e=>?_,λp hp=>?_,hok,I.len⟩
 ·exact keep b o (xl b o e) hb (av b o e hx) (I.base.keep b o e n hb hx) (I.base.free b o e n hx)
 ·obtain ⟨sl,e1⟩:=I.base.slot b o e n hb hx;obtain ⟨sl',e2⟩:=slot b _ (xl b o e) hb (av b o e hx) e1 (I.base.free b o e n hx);exact ⟨sl',e2⟩
 ·obtain ⟨o',e1⟩:=I.base.there b o e hx;exact free b o' (av b o e hx) e1 (I.base.free b o e n hx)
 ·obtain ⟨o',e1⟩:=I.base.there b o e hx;exact there b o' (av b o e hx) e1
 ·obtain ⟨m1,e1⟩:=I.base.tbls b ps e;obtain ⟨m2,e2⟩:=tbls b _ e1;exact ⟨m1++m2,by rw [e2,Array.append_assoc]⟩
 ·obtain ⟨m,hn,hl⟩:=I.loc;refine ⟨m,ns m hn,λi x v e1 e2 e3=>?_⟩;obtain ⟨u,r,l⟩:=hl i x v e1 e2 e3;refine ⟨u,r,?_⟩;rcases l with l | ⟨k,c,e,z⟩
  ·exact .inl l
  ·exact .inr ⟨k,c,e,cellK x c e _ z⟩
 ·obtain ⟨v,z⟩:=I.cell x c e;exact ⟨v,cellK x c e v z⟩
 ·obtain ⟨m,⟨o,_,_,ho,_⟩,_⟩:=I.loc;exact free _ o (λz=>(ZF _ z).2.1 rfl) ho I.free
 ·obtain ⟨v,o,ho,hd⟩:=I.cell x c e;exact free c o (λz=>(ZF c z).2.2.1 x c e rfl) ho (I.freeC x c e)
 ·obtain ⟨e,n,ne,nf,d⟩:=I.pin p hp;have jf:p.1∉ch:=λz=>(ZF p.1 z).2.2.2 p hp rfl;exact ⟨keep p.1 p.2 ne nf jf e n,free p.1 p.2 jf e n,ne,nf,d⟩
theorem aY.un {t':Nat} (I:aY X pins σ H s) (u:Un X.fs [] H H' s.heap h') (hok:nX X.prog X.w H' h'):aY X pins σ H' { s with heap:=h',toks:=t' }:=by
 obtain ⟨m,⟨o,es,ep,ho,r⟩,_⟩:=id I.loc;obtain ⟨sl,hL⟩:=u.any ho I.free (by simp);exact I.step (g':=s.gens) (d':=s.drawn) (ch:=[]) (λ_ z=>nomatch z) (λb o _ hb _ e n=>u.keep b o e n hb (by simp)) (λb o _ hb _ e n=>u.slot b o e n hb (by simp)) (λb o _ e n=>u.free b o e n (by simp)) (λb o _ e=>u.there b o e (by simp)) u.tups u.frzs u.tbls (λm' hm=>by
  obtain ⟨o',YK,qu,WZ,r'⟩:=hm;rw [ho] at WZ;cases WZ;exact ⟨_,YK,qu,hL,r'⟩) hok I.bare
theorem aY.call {g':Array GenState} {t':Nat} {d':Drawn} {ch:List QF} (I:aY X pins σ H s) (u:Un (Jp X.stack) ch H H' s.heap h') (hok:nX X.prog X.w H' h') (hg:SH g')
  (ZF:∀b∈ch,(b∈X.ex\/X.s₀.heap.objs.size<=b)/\b≠X.env.locals/\(∀x c,X.env.cells.lookup x=some c->c≠b)/\∀p∈X.pn++pins,p.1≠b) :
  aY X pins σ H' { s with heap:=h',gens:=g',drawn:=d',toks:=t' }:=by
 obtain ⟨m,⟨o,es,ep,ho,r⟩,_⟩:=id I.loc;obtain ⟨sl,hL⟩:=u.any ho I.free λz=>(ZF _ z).2.1 rfl;exact I.step (ch:=ch) ZF (λb o hL hb hc e n=>u.keep b o e n (λz=>(IU.mp (I.stkSub b z)).elim hL hb) hc) (λb o _ _ hc e n=>u.any e n hc) (λb o hc e n=>u.free b o e n hc) (λb o hc e=>u.there b o e hc) u.tups u.frzs u.tbls (λm' hm=>by
  obtain ⟨o',YK,qu,WZ,r'⟩:=hm;rw [ho] at WZ;cases WZ;exact ⟨_,YK,qu,hL,r'⟩) hok hg
theorem aY.turned {t':Nat} {it:QF} (I:aY X pins σ H s) (k:∀b o,b≠it->s.heap.get? b=some o->h'.get? b=some o) (hn:H it=none) (hL:it≠X.env.locals)
  (h1:it∈X.ex\/X.s₀.heap.objs.size<=it) (h2:∀x c,X.env.cells.lookup x=some c->c≠it) (h3:∀p∈X.pn++pins,p.1≠it):aY X pins σ H { s with heap:=h',toks:=t' }:=by
 have aw:∀b u,H b=some u->b≠it:=λb u e z=>by rw [z,hn] at e;cases e
 refine I.step (g':=s.gens) (d':=s.drawn) (ch:=[it]) (λb hb=>?_) (λb o _ _ hc e _=>k b o (λz=>hc (by simp [z])) e) (λb o _ _ hc e _=>⟨o.slots,k b o (λz=>hc (by simp [z])) e⟩) (λ_ _ _ _ n=>n)
  (λb o hc e=>⟨o,k b o (λz=>hc (by simp [z])) e⟩) (λ_ _ e=>e) (λ_ _ _ e=>e) (λb ps e=>⟨#[],by rw [e];simp⟩) (λm hm=>?_) (λb u e=>?_) I.bare
 ·have e:b=it:=by simpa using hb
  subst e;exact ⟨h1,hL,h2,h3⟩
 ·obtain ⟨o,es,ep,ho,r⟩:=hm;exact ⟨o,es,ep,k _ o (Ne.symm hL) ho,r⟩
 ·refine (I.hok b u e).stay (λc v hc q=>k c v ?_ q) (λ_ q=>q) λ_ _ q=>q;rcases hc with z | z
  ·rw [z];exact aw b u e
  ·exact aw c _ z
theorem aY.tok (I:aY X pins σ H s) (t:Nat):aY X pins σ H { s with toks:=t }:=I.un (h':=s.heap) (t':=t) Un.refl I.hok
theorem aY.kept {t':Nat} (I:aY X pins σ H s) (k:∀b u,s.heap.get? b=some u->h'.get? b=some u):aY X pins σ H { s with heap:=h',toks:=t' }:=I.un (Un.kept k) (I.hok.kept k)
theorem aY.laid {a:QF} {o:HO} {t':Nat} (I:aY X pins σ H s) (k:∀b u,s.heap.get? b=some u->h'.get? b=some u) (hp:s.heap.objs.size<=a) (new:dW X.prog X.w (upd H a o) h' a o) :
  aY X pins σ (upd H a o) { s with heap:=h',toks:=t' }:=I.un (Un.laid k hp (I.hok.fresh hp)) (I.hok.laid k hp new)
theorem aY.write {x e:QF} {o:HO} {t':Nat} (I:aY X pins σ H s) (mu:CS (H x)) (he:e=x\/H e=some (.own x)) (k:∀b u,b≠e->s.heap.get? b=some u->h'.get? b=some u) (gv:∃u,h'.get? e=some u)
  (new:dW X.prog X.w (upd H x o) h' x o):aY X pins σ (upd H x o) { s with heap:=h',toks:=t' }:=I.un (Un.write mu he k gv) (I.hok.write mu he k gv new)
theorem aY.pins_of {bb:List (QF×Obj)} (I:aY X pins σ H s) (h:∀p∈bb,s.heap.get? p.1=some p.2/\H p.1=none/\p.1≠X.env.locals/\p.1∉X.fs/\∀v,p.2.data≠.cell v):aY X bb σ H s:=
 ⟨I.ok,I.os,I.bare,I.base,I.loc,I.cell,I.free,I.freeC,λp hp=>(JJ.mp hp).elim (λz=>I.pin p (JX _ z)) (h p),I.hok,I.len⟩
theorem Bc {N:List Str} (hN:N.Nodup) {i j:Nat} {x:Str} (a:N[i]? = some x) (b:N[j]? = some x):i=j:=by
 obtain ⟨h1,e1⟩:=IT.mp a;obtain ⟨h2,e2⟩:=IT.mp b;exact (List.getElem_inj hN).mp (e1.trans e2.symm)
theorem wI {M:Model} {A:Around} {E:Value->Shared->Prop} {i:Nat} {x:Str} {v:V} {u:Value} {Q:Unit->Shared->Prop} (I:aY X pins σ H s) (hN:X.N.Nodup) (hi:X.N[i]? = some x) (hx:Eh X.env.scope x) (r:bP v u)
  (h:∀s',aY X pins (σ.set i (some v)) H s'->(∃a,MR a s.heap s'.heap/\(a=X.env.locals\/X.env.cells.lookup x=some a))->Q () s') (hf:X.fn x=true\/X.env.scope.names.lookup x=some .local:=by first | exact .inl rfl | exact .inr rfl | assumption):QL M A (storeName X.env x u) Q E s:=by
 obtain ⟨m,hn,hl⟩:=id I.loc;have qw:(X.env.scope.kind==.class||(X.env.scope.kind==.module&&X.env.locals != X.env.globals))=false:=by rw [I.ok.kind];rfl
 have hiσ:i<σ.length:=by rw [I.len];exact (IT.mp hi).1
 have cne:=I.cne;have tracked:∀{a:QF} {h':Heap},(∃o,s.heap.get? a=some o/\H a=none)->MR a s.heap h'->nX X.prog X.w H h':=λ{a h'} ha hs b ob e=>by
  obtain ⟨_,_,bc⟩:=ha;refine (I.hok b ob e).stay (λc w' hc q=>(hs.2 c ?_).trans q) (λ_ q=>q) λ_ _ q=>q;rintro rfl;rcases hc with rfl | hc
  ·rw [bc] at e;cases e
  ·rw [bc] at hc;cases hc
 rcases hx with hk | hk
 ·refine wpAny_storeName_local hk hn (λh' ZK hs=>?_) qw;obtain ⟨oL,_,_,hoL,_⟩:=id hn;refine h _ ⟨I.ok,I.os,I.bare,⟨λb o e n hb hx=>?_,λb o e n hb hx=>?_,I.base.free,λb o e hx=>?_,I.base.tups,I.base.frzs,I.base.tbls⟩,⟨_,ZK,λj y v' e1 e2 e3=>?_⟩,λy c e=>?_,I.free,I.freeC,λp hp=>?_,tracked ⟨oL,hoL,I.free⟩ hs,by simpa using I.len⟩ ⟨_,hs,.inl rfl⟩
  ·exact (hs.2 b (JU (JH (JD e) I.ok.above))).trans (I.base.keep b o e n hb hx)
  ·obtain ⟨sl,e1⟩:=I.base.slot b o e n hb hx;exact ⟨sl,(hs.2 b (JU (JH (JD e) I.ok.above))).trans e1⟩
  ·obtain ⟨o',e1⟩:=I.base.there b o e hx;exact ⟨o',(hs.2 b (JU (JH (JD e) I.ok.above))).trans e1⟩
  ·by_cases hj:j=i
   ·subst hj;rw [hi] at e1;cases e1;rw [KO hiσ] at e2;cases e2;exact ⟨u,r,.inl ⟨hk,by simp⟩⟩
   ·rw [JN (Ne.symm hj)] at e2;obtain ⟨u',r',q⟩:=hl j y v' e1 e2 e3;refine ⟨u',r',?_⟩;rcases q with ⟨k,e⟩ | ⟨k,c,e,z⟩
    ·refine .inl ⟨k,?_⟩;have:y≠x:=λe=>hj (Bc hN e1 (e ▸ hi));simp [this,e]
    ·exact .inr ⟨k,c,e,z.sameBut hs (cne y c e)⟩
  ·obtain ⟨w',z⟩:=I.cell y c e;exact ⟨w',z.sameBut hs (cne y c e)⟩
  ·obtain ⟨e,n,ne,nf,d⟩:=I.pin p hp;exact ⟨(hs.2 p.1 ne).trans e,n,ne,nf,d⟩
 ·have cw:X.fn x=true:=by
   rcases hf with z | z
   ·exact z
   ·rw [z] at hk;cases hk
  obtain ⟨c,hc⟩:=I.ok.has x (.inl hk);obtain ⟨w',z⟩:=I.cell x c hc;refine wpAny_storeName_cell I.ok.kind hk hc z (λh' XC hs=>?_);obtain ⟨oc,xo,qx⟩:=id z;refine h { s with heap:=h' } ⟨I.ok,I.os,I.bare,⟨λb o e n hb hx=>?_,λb o e n hb hx=>?_,I.base.free,λb o e hx=>?_,I.base.tups,I.base.frzs,I.base.tbls⟩,⟨m,hn.sameBut hs (Ne.symm (cne x c hc)),λj y v' e1 e2 e3=>?_⟩,λy c' e=>?_,I.free,I.freeC,λp hp=>?_,tracked ⟨oc,xo,I.freeC x c hc⟩ hs,by simpa using I.len⟩ ⟨c,hs,.inr hc⟩
  ·exact (hs.2 b (JU (JH (JD e) (I.ok.cab x c cw hc)))).trans (I.base.keep b o e n hb hx)
  ·obtain ⟨sl,e1⟩:=I.base.slot b o e n hb hx;exact ⟨sl,(hs.2 b (JU (JH (JD e) (I.ok.cab x c cw hc)))).trans e1⟩
  ·obtain ⟨o',e1⟩:=I.base.there b o e hx;exact ⟨o',(hs.2 b (JU (JH (JD e) (I.ok.cab x c cw hc)))).trans e1⟩
  ·by_cases hj:j=i
   ·subst hj;rw [hi] at e1;cases e1;rw [KO hiσ] at e2;cases e2;exact ⟨u,r,.inr ⟨.inl hk,c,hc,XC⟩⟩
   ·rw [JN (Ne.symm hj)] at e2;obtain ⟨u',r',q⟩:=hl j y v' e1 e2 e3;refine ⟨u',r',?_⟩;rcases q with q | ⟨k,c',e,z'⟩
    ·exact .inl q
    ·refine .inr ⟨k,c',e,z'.sameBut hs ?_⟩;rintro rfl;exact hj (Bc hN e1 (I.ok.inj _ _ _ e hc ▸ hi))
  ·by_cases xp:c'=c
   ·subst xp;exact ⟨_,XC⟩
   ·obtain ⟨w2,z2⟩:=I.cell y c' e;exact ⟨w2,z2.sameBut hs xp⟩
  ·obtain ⟨e,n,ne,nf,d⟩:=I.pin p hp;refine ⟨(hs.2 p.1 ?_).trans e,n,ne,nf,d⟩;intro q;rw [q,xo] at e;have q':oc=p.2:=Option.some.inj e;exact d w' (by rw [<-q'];exact qx)
theorem i4 {M:Model} {A:Around} {E:Value->Shared->Prop} {i:Nat} {x:Str} {v:V} {u:Value} {Q:Unit->Shared->Prop} (I:aY X pins σ H s) (hN:X.N.Nodup) (hi:X.N[i]? = some x) (hx:Eh X.env.scope x) (r:bP v u)
  (h:∀s',aY X pins (σ.set i (some v)) H s'->Q () s') (hf:X.fn x=true\/X.env.scope.names.lookup x=some .local:=by first | exact .inl rfl | exact .inr rfl | assumption):QL M A (storeName X.env x u) Q E s:=
 wI I hN hi hx r (λs' I' _=>h s' I') hf
theorem aY.call' {s':Shared} {ch:List QF} (I:aY X pins σ H s) (ho:s'.os=s.os) (u:Un (Jp X.stack) ch H H' s.heap s'.heap) (hok:nX X.prog X.w H' s'.heap) (hg:SH s'.gens)
  (ZF:∀b∈ch,(b∈X.ex\/X.s₀.heap.objs.size<=b)/\b≠X.env.locals/\(∀x c,X.env.cells.lookup x=some c->c≠b)/\∀p∈X.pn++pins,p.1≠b):aY X pins σ H' s':=by
 obtain ⟨h',g',d',t',o'⟩:=s';have e:o'=s.os:=ho;subst e;exact I.call (g':=g') (t':=t') (d':=d') u hok hg ZF
end
abbrev XK:=Value->Option QF->Hp->Prop
abbrev St:=List (Option V)
abbrev VK:=V->Hp->Prop
abbrev TE:=St->Hp->VK->Prop
abbrev TT:=St->Hp->(Bool->Hp->Prop)->Prop
abbrev TA:=St->Hp->(List V->Hp->Prop)->Prop
structure lW where
 nx:St->Hp->Prop
 rt:VK
 bk:St->Hp->Prop:=λ_ _=>False
 ct:St->Hp->Prop:=λ_ _=>False
abbrev TS:=lW->St->Hp->Prop
def EP (X:Cx) (pins:List (QF×Obj)) (σ:St) (Q:VK) (u:Value) (s':Shared):Prop:=∃v H',aY X pins σ H' s'/\bP v u/\Q v H'
def TP (X:Cx) (pins:List (QF×Obj)) (σ:St) (Q:Bool->Hp->Prop) (b:Bool) (s':Shared):Prop:=∃H',aY X pins σ H' s'/\Q b H'
def AP (X:Cx) (pins:List (QF×Obj)) (σ:St) (Q:List V->Hp->Prop) (us:List Value) (s':Shared):Prop:=∃vs H',aY X pins σ H' s'/\bG vs us/\Q vs H'
def SP (X:Cx) (pins:List (QF×Obj)) (D:lW) (f:Flow) (s':Shared):Prop:=
 match f with
 | .next=>∃σ' H',aY X pins σ' H' s'/\D.nx σ' H'
 | .brk=>∃σ' H',aY X pins σ' H' s'/\D.bk σ' H'
 | .cont=>∃σ' H',aY X pins σ' H' s'/\D.ct σ' H'
 | .ret u=>∃v σ' H',aY X pins σ' H' s'/\bP v u/\D.rt v H'
def PE (X:Cx) (e:Expr) (t:TE):Prop:=
 ∀(pins:List (QF×Obj)) (s:Shared) (σ:St) (H:Hp) (Q:VK),aY X pins σ H s->t σ H Q->QL (QV X.prog X.w) X.A (RB e X.env) (EP X pins σ Q) X.xe s
def PT (X:Cx) (e:Expr) (t:TT):Prop:=
 ∀(pins:List (QF×Obj)) (s:Shared) (σ:St) (H:Hp) (Q:Bool->Hp->Prop),aY X pins σ H s->t σ H Q->QL (QV X.prog X.w) X.A (isTrue e X.env (RB e X.env)) (TP X pins σ Q) X.xe s
def PW (X:Cx) (e:Expr) (t:TT):Prop:=
 ∀(whole:Sem Value) (pins:List (QF×Obj)) (s:Shared) (σ:St) (H:Hp) (Q:Bool->Hp->Prop),aY X pins σ H s->t σ H Q->QL (QV X.prog X.w) X.A (isTrue e X.env whole) (TP X pins σ Q) X.xe s
theorem PW.pt {X:Cx} {e:Expr} {t:TT} (h:PW X e t):PT X e t:=h _
def PA (X:Cx) (es:List Expr) (t:TA):Prop:=
 ∀(pos:Pos) (pins:List (QF×Obj)) (s:Shared) (σ:St) (H:Hp) (Q:List V->Hp->Prop),aY X pins σ H s->t σ H Q->QL (QV X.prog X.w) X.A (spliced (SD pos (QY es X.env))) (AP X pins σ Q) X.xe s
def PS (X:Cx) (st:QU) (t:TS):Prop:=
 ∀(pins:List (QF×Obj)) (s:Shared) (σ:St) (H:Hp) (D:lW),aY X pins σ H s->t D σ H->QL (QV X.prog X.w) X.A (exec st X.env) (SP X pins D) X.xe s
def Ha (X:Cx) (st:List QU) (t:TS):Prop:=
 ∀(pins:List (QF×Obj)) (s:Shared) (σ:St) (H:Hp) (D:lW),aY X pins σ H s->t D σ H->QL (QV X.prog X.w) X.A (execs st X.env) (SP X pins D) X.xe s
theorem dM {α:Type} {t:Sem α} {Q Q':α->Shared->Prop} {M:Model} {A:Around} {E:Value->Shared->Prop} {s:Shared} (h:QL M A t Q E s) (hQ:∀a s,Q a s->Q' a s):QL M A t Q' E s:=RW h hQ λ_ _ x=>x
section
variable {X:Cx}
def AE (i:Nat):TE:=λσ H Q=>∃v,σ[i]? = some (some v)/\Q v H
def tC (v:V):TE:=λ_ H Q=>Q v H
theorem Oj {i:Nat} {x:Str} {pos:Pos} (hN:X.N[i]? = some x) (hv:V1 X.env.scope x) (hd:(x==("__debug__":Str))=false:=by decide) (XJ:(x==("__classdict__":Str))=false:=by decide):PE X (.Name x pos) (AE i):=by
 intro pins s σ H Q I h;obtain ⟨v,e,h⟩:=h;obtain ⟨m,hn,hl⟩:=I.loc;obtain ⟨u,r,l⟩:=hl i x v hN e hv;have fin:EP X pins σ Q u s:=⟨v,H,I,r,h⟩;rcases l with ⟨hk,hm⟩ | ⟨hk,c,hc,YC⟩
 ·exact wpAny_Name (wpAny_loadName_local I.ok.kind hk hn hm fin) hd
 ·rcases hk with hk | hk
  ·exact wpAny_Name (wpAny_loadName_cell I.ok.kind hk hc YC fin) hd
  ·exact wpAny_Name (wpAny_loadName_free I.ok.kind hk hc YC fin XJ) hd
theorem M9 {i j pos}:PE X (.Constant (.int i) j pos) (tC (.int i)):=λ_ _ _ H _ I h=>wpAny_Constant_int ⟨.int i,H,I.tok _,⟨_,rfl⟩,h⟩
theorem X4 {b j pos}:PE X (.Constant (.bool b) j pos) (tC (.bl b)):=λ_ _ _ H _ I h=>Constant_bool ⟨.bl b,H,I,rfl,h⟩
theorem N7 {j pos}:PE X (.Constant .none j pos) (tC .non):=λ_ _ _ H _ I h=>Constant_none ⟨.non,H,I,rfl,h⟩
theorem T6 {x j pos}:PE X (.Constant (.str x) j pos) (tC (.str x)):=λ_ _ _ H _ I h=>Calls.Constant_str ⟨.str x,H,I.tok _,⟨_,rfl⟩,h⟩
def Gl (X:Cx) (x:Str):Prop:=X.env.kindOf x=some .globalImplicit
theorem Gz {E:Value->Shared->Prop} {pins:List (QF×Obj)} {s:Shared} {σ:St} {H:Hp} {x:Str} {u:Value} {pos:Pos} {Q:Value->Shared->Prop} (I:aY X pins σ H s) (hg:Gl X x) (hm:X.mg x=some u) (h:Q u s)
  (hd:(x==("__debug__":Str))=false:=by decide):QL (QV X.prog X.w) X.A (RB (.Name x pos) X.env) Q E s:=
 Calls.Name_function_global I.ok.kind hg (Calls.loadGlobal_global (by rw [I.ok.glob];exact I.mod.glob.keeps I.bk) hm h) hd
theorem qH {E:Value->Shared->Prop} {pins:List (QF×Obj)} {s:Shared} {σ:St} {H:Hp} {x:Str} {u:Value} {pos:Pos} {Q:Value->Shared->Prop} (I:aY X pins σ H s) (hg:Gl X x) (hm:X.mg x=none) (hv:RK x=some u) (h:Q u s)
  (hn:x≠"__name__":=by decide) (hd:(x==("__debug__":Str))=false:=by decide):QL (QV X.prog X.w) X.A (RB (.Name x pos) X.env) Q E s:=by
 obtain ⟨mb,h1,h2⟩:=I.mod.blt;exact Calls.Name_function_global I.ok.kind hg (Calls.loadGlobal_builtin (by rw [I.ok.glob];exact I.mod.glob.keeps I.bk) hm (by rw [I.ok.blt];exact h1.keeps I.bk) ((h2 x hn).trans hv) h) hd
theorem Ke {x:Str} {v:V} {u:Value} {pos:Pos} (hg:Gl X x) (hm:X.mg x=some u) (r:bP v u) (hd:(x==("__debug__":Str))=false:=by decide):PE X (.Name x pos) (tC v):=
 λ_ _ _ H _ I h=>Gz I hg hm ⟨v,H,I,r,h⟩ hd
variable {a b:Expr} {ta tb:TE} {pos:Pos}
def tB (t:TE):TT:=λσ H Q=>t σ H λx H1=>∃c,x = .bl c/\Q c H1
theorem K3 {e:Expr} {t:TE} (h:PE X e t) (he:∀whole,isTrue e X.env whole=(do let v <-whole;standAt e.pos;RT [v] (truthy v)):=by intro _;rfl):PT X e (tB t):=by
 intro pins s σ H Q I hw;refine isTrue_plain (dM (h pins s σ H _ I hw) λv s1 ⟨x,H1,I1,r1,q1⟩=>?_) (he _);obtain ⟨d,rfl,q⟩:=q1;cases r1;exact RM ⟨H1,I1,q⟩
variable {tA ZL:TT} {rest:List Expr}
def AM (t u:TT):TT:=λσ H Q=>t σ H λc H1=>if c=true then u σ H1 Q else Q false H1
def HG (t u:TT):TT:=λσ H Q=>t σ H λc H1=>if c=true then Q true H1 else u σ H1 Q
def Z5 (t:TT):TT:=λσ H Q=>t σ H λc H1=>Q (!c) H1
theorem Ws (ha:PT X a tA):PW X (.BoolOp .And [a] pos) tA:=by
 intro wh pins s σ H Q I h;refine isTrue_and (dM (ha pins s σ H Q I h) λc s1 e=>?_);cases c with
 | true=>exact isTrue_and_nil e
 | false=>exact e
theorem T1 (ha:PT X a tA):PW X (.BoolOp .Or [a] pos) tA:=by
 intro wh pins s σ H Q I h;refine isTrue_or (dM (ha pins s σ H Q I h) λc s1 e=>?_);cases c with
 | false=>exact isTrue_or_nil e
 | true=>exact e
theorem L1 (ha:PT X a tA) (hb:PW X (.BoolOp .And (b::rest) pos) ZL):PW X (.BoolOp .And (a::b::rest) pos) (AM tA ZL):=by
 intro wh pins s σ H Q I h;refine isTrue_and (dM (ha pins s σ H _ I h) λc s1 ⟨H1,I1,q1⟩=>?_);cases c with
 | true=>exact hb wh pins s1 σ H1 Q I1 q1
 | false=>exact ⟨H1,I1,q1⟩
theorem Y3 (ha:PT X a tA) (hb:PW X (.BoolOp .Or (b::rest) pos) ZL):PW X (.BoolOp .Or (a::b::rest) pos) (HG tA ZL):=by
 intro wh pins s σ H Q I h;refine isTrue_or (dM (ha pins s σ H _ I h) λc s1 ⟨H1,I1,q1⟩=>?_);cases c with
 | true=>exact ⟨H1,I1,q1⟩
 | false=>exact hb wh pins s1 σ H1 Q I1 q1
theorem R5 (ha:PT X a tA):PT X (.UnaryOp .Not a pos) (Z5 tA):=by
 intro pins s σ H Q I h;exact isTrue_not (ha pins s σ H (λc H1=>Q (!c) H1) I h)
def BO (ta tb:TE):TE:=λσ H Q=>ta σ H λx H1=>∃c,x = .bl c/\if c=true then Q (.bl true) H1 else tb σ H1 Q
theorem S4 {op} {t:TE} (h:PE X a t):PE X (.BoolOp op [a] pos) t:=λpins s σ H Q I hw=>BoolOp_one (h pins s σ H Q I hw)
theorem AS (ha:PE X a ta) (hb:PE X (.BoolOp .Or (b::rest) pos) tb):PE X (.BoolOp .Or (a::b::rest) pos) (BO ta tb):=by
 intro pins s σ H Q I h;refine BoolOp_or (dM (ha pins s σ H _ I h) λv s1 ⟨x,H1,I1,r1,q1⟩=>?_);obtain ⟨c,rfl,q1⟩:=q1;cases r1;refine RM ?_;cases c with
 | false=>exact hb pins s1 σ H1 Q I1 q1
 | true=>exact ⟨.bl true,H1,I1,rfl,q1⟩
def GV (t:TT) (ta tb:TE):TE:=λσ H Q=>t σ H λc H1=>if c=true then ta σ H1 Q else tb σ H1 Q
theorem Ot {c:Expr} (hc:PT X c tA) (ha:PE X a ta) (hb:PE X b tb):PE X (.IfExp c a b pos) (GV tA ta tb):=by
 intro pins s σ H Q I h;refine wpAny_IfExp (dM (hc pins s σ H _ I h) λd s1 ⟨H1,I1,q1⟩=>?_);cases d with
 | true=>exact ha pins s1 σ H1 Q I1 q1
 | false=>exact hb pins s1 σ H1 Q I1 q1
end
def j4 (K:W.Frag) (H:Hp) (a:QF) (xs:List V):Prop:=
 Rd H a (.lst xs)\/
  ∃(o:Obj) (TC:Array Value) (n:Nat),K.lookup a=some o/\o.cls = .type "list"/\o.dict=none/\o.data = .seq TC n/\TC.size<=QP/\bG xs TC.toList
def rR (K:W.Frag) (H:Hp) (a:QF) (xs:List V):Prop:=
 Rd H a (.tup xs)\/
  ∃(o:Obj) (TC:Array Value) (n:Nat),K.lookup a=some o/\o.cls = .type "tuple"/\o.data = .seq TC n/\TC.size<=QP/\bG xs TC.toList
def FR:Value->Option V
 | .none=>some .non
 | .bool b=>some (.bl b)
 | .int i _=>some (.int i)
 | .str x _=>some (.str x)
 | .bytes b _=>some (.byt b)
 | .float b _=>some (.flt b)
 | .ref a=>some (.ref a)
 | .type n=>some (.ty n)
 | _=>none
theorem bP.abs {x:V} {u:Value} (r:bP x u):FR u=some x:=by
 cases x with
 | non=>cases r;rfl
 | bl _=>cases r;rfl
 | int _=>obtain ⟨t,rfl⟩:=r;rfl
 | str _=>obtain ⟨t,rfl⟩:=r;rfl
 | byt _=>obtain ⟨t,rfl⟩:=r;rfl
 | flt _=>obtain ⟨t,rfl⟩:=r;rfl
 | ref _=>cases r;rfl
 | ty _=>cases r;rfl
theorem bP.inj {x y:V} {u:Value} (r:bP x u) (q:bP y u):x=y:=Option.some.inj (r.abs.symm.trans q.abs)
theorem bG.inj:∀{xs ys:List V} {us:List Value},bG xs us->bG ys us->xs=ys
 | _,_,_,.nil,.nil=>rfl
 | _,_,_,.cons r t,.cons r' t'=>by rw [r.inj r',bG.inj t t']
section
variable {X:Cx} {pins:List (QF×Obj)} {σ:St} {H:Hp} {s:Shared} {a:QF} {xs ys:List V}
theorem j4.of {K:W.Frag} (h:H a=some (.lst xs)):j4 K H a xs:=.inl (.inl h)
theorem aY.list (I:aY X pins σ H s) (h:j4 X.K H a xs):∃TC:List Value,bG xs TC/\PlainL s.heap a TC.toArray/\xs.length<=QP:=by
 rcases h with h | ⟨o,TC,n,hk,hc,hd,hs,hz,r⟩
 ·obtain ⟨z,TC,n,r,e⟩:=h.ok I.hok;exact ⟨TC,r,⟨_,n,e,rfl,rfl,rfl⟩,z⟩
 ·refine ⟨TC.toList,r,⟨o,n,I.kIn a o hk,hc,hd,by simpa using hs⟩,?_⟩;have e:=r.length;simp only [MY] at e;omega
theorem aY.tuple (I:aY X pins σ H s) (h:rR X.K H a xs):∃TC:List Value,bG xs TC/\IsTup s.heap a TC.toArray/\xs.length<=QP:=by
 rcases h with h | ⟨o,TC,n,hk,hc,hs,hz,r⟩
 ·obtain ⟨z,TC,r,p⟩:=h.ok I.hok;exact ⟨TC,r,p,z⟩
 ·refine ⟨TC.toList,r,⟨o,I.kIn a o hk,hc,n,by simpa using hs⟩,?_⟩;have e:=r.length;simp only [MY] at e;omega
theorem aY.list_inj (I:aY X pins σ H s) (h:j4 X.K H a xs) (h':j4 X.K H a ys):xs=ys:=by
 obtain ⟨TC,r,⟨o,n,e,_,_,d⟩,_⟩:=I.list h;obtain ⟨its',r',⟨o',n',e',_,_,d'⟩,_⟩:=I.list h';rw [e] at e';cases e';rw [d] at d';injection d' with d1 _;have:TC=its':=by simpa using congrArg QD d1
 subst this;exact r.inj r'
theorem aY.tuple_inj (I:aY X pins σ H s) (h:rR X.K H a xs) (h':rR X.K H a ys):xs=ys:=by
 obtain ⟨TC,r,⟨o,e,_,n,d⟩,_⟩:=I.tuple h;obtain ⟨its',r',⟨o',e',_,n',d'⟩,_⟩:=I.tuple h';rw [e] at e';cases e';rw [d] at d';injection d' with d1 _;have:TC=its':=by simpa using congrArg QD d1
 subst this;exact r.inj r'
end
abbrev Cx.wish (X:Cx) (E:Value->Shared->Prop):Cx:={ X with xe:=E }
abbrev Cx.nox (X:Cx):Cx:=X.wish λ_ _=>False
theorem Cx.Ok.wish {X:Cx} (ok:X.Ok) (E:Value->Shared->Prop):(X.wish E).Ok:=
 ⟨ok.mod,ok.kind,ok.glob,ok.blt,ok.above,ok.inj,ok.has,ok.cab,ok.hd,ok.frames,ok.stk,ok.exf,ok.bs,ok.bsz,ok.noex,ok.exfs,ok.funs,ok.frf⟩
theorem Cx.Ok.unwish {X:Cx} {E:Value->Shared->Prop} (ok:(X.wish E).Ok):X.Ok:=
 ⟨ok.mod,ok.kind,ok.glob,ok.blt,ok.above,ok.inj,ok.has,ok.cab,ok.hd,ok.frames,ok.stk,ok.exf,ok.bs,ok.bsz,ok.noex,ok.exfs,ok.funs,ok.frf⟩
section
variable {X:Cx} {pins:List (QF×Obj)} {σ:St} {H:Hp} {s:Shared} {E:Value->Shared->Prop}
theorem aY.wish (I:aY X pins σ H s) (E:Value->Shared->Prop):aY (X.wish E) pins σ H s:=⟨I.ok.wish E,I.os,I.bare,I.base,I.loc,I.cell,I.free,I.freeC,I.pin,I.hok,I.len⟩
theorem aY.unwish (I:aY (X.wish E) pins σ H s):aY X pins σ H s:=⟨I.ok.unwish,I.os,I.bare,I.base,I.loc,I.cell,I.free,I.freeC,I.pin,I.hok,I.len⟩
theorem SP.unwish {D:lW} {f:Flow} {s':Shared} (h:SP (X.wish E) pins D f s'):SP X pins D f s':=by
 cases f with
 | next=>obtain ⟨σ',H',I,q⟩:=h;exact ⟨σ',H',I.unwish,q⟩
 | brk=>obtain ⟨σ',H',I,q⟩:=h;exact ⟨σ',H',I.unwish,q⟩
 | cont=>obtain ⟨σ',H',I,q⟩:=h;exact ⟨σ',H',I.unwish,q⟩
 | ret u=>obtain ⟨v,σ',H',I,r,q⟩:=h;exact ⟨v,σ',H',I.unwish,r,q⟩
theorem Ha.nox {st:List QU} {t:TS} (h:Ha X.nox st t):Ha X st t:=λpins s σ H D I hw=>
 RW (h pins s σ H D (I.wish _) hw) (λ_ _ q=>q.unwish) λ_ _ z=>False.elim z
end
section
variable {X:Cx} {st:QU} {rest:List QU} {t u:TS} {e:Expr} {te:TE} {pos:Pos}
def C9:TS:=λD σ H=>D.nx σ H
def CV (t u:TS):TS:=λD σ H=>t { D with nx:=u D } σ H
theorem Xz:Ha X [] C9:=λ_ _ σ H _ I h=>SQ ⟨σ,H,I,h⟩
theorem Tx (h1:PS X st t) (h2:Ha X rest u):Ha X (st::rest) (CV t u):=by
 intro pins s σ H D I h;refine wpAny_execs_cons (dM (h1 pins s σ H { D with nx:=u D } I h) λf s1 q=>?_);cases f with
 | next=>
  obtain ⟨σ',H',I',q⟩:=q;exact h2 pins s1 σ' H' D I' q
 | ret v=>exact q
 | brk=>exact q
 | cont=>exact q
theorem Xp (h1:PS X st t):Ha X [st] t:=by
 intro pins s σ H D I h;refine wpAny_execs_cons (dM (h1 pins s σ H D I h) λf s1 q=>?_);cases f with
 | next=>exact SQ q
 | ret v=>exact q
 | brk=>exact q
 | cont=>exact q
def Zl:TS:=λD σ H=>D.ct σ H
theorem De:PS X (.Continue pos) Zl:=λ_ _ σ H _ I h=>wpAny_Continue ⟨σ,H,I,h⟩
theorem aY.quiet {pins:List (QF×Obj)} {σ:St} {H:Hp} {s:Shared} (I:aY X pins σ H s):interactive X.env=false:=by simp [interactive,I.ok.kind]
def D1 (te:TE):TS:=λD σ H=>te σ H λ_ H1=>D.nx σ H1
theorem Vv (he:PE X e te) (hs:RN e none pos.line X.env=pure false:=by rfl):PS X (.Expr e pos) (D1 te):=by
 intro pins s σ H D I h;exact wpAny_Expr_any (dM (he pins s σ H _ I h) λv s1 ⟨x,H1,I1,r1,q1⟩=>⟨σ,H1,I1,q1⟩) I.quiet hs
def CN (te:TE):TS:=λD σ H=>te σ H D.rt
theorem P0 (he:PE X e te):PS X (.Return (some e) pos) (CN te):=by
 intro pins s σ H D I h;exact wpAny_Return_some (dM (he pins s σ H _ I h) λv s1 ⟨x,H1,I1,r1,q1⟩=>⟨x,σ,H1,I1,r1,q1⟩)
def BP (c:TT) (t u:TS):TS:=λD σ H=>c σ H λb H1=>if b=true then t D σ H1 else u D σ H1
theorem Z3 {c:Expr} {a b:List QU} {tc:TT} (hc:PT X c tc) (ha:Ha X a t) (hb:Ha X b u):PS X (.If c a b pos) (BP tc t u):=by
 intro pins s σ H D I h;refine wpAny_If (dM (hc pins s σ H _ I h) λd s1 ⟨H1,I1,q1⟩=>?_);cases d with
 | true=>exact ha pins s1 σ H1 D I1 q1
 | false=>exact hb pins s1 σ H1 D I1 q1
end
abbrev TG:=V->St->Hp->(St->Hp->Prop)->Prop
abbrev Nx:=List V->St->Hp->(St->Hp->Prop)->Prop
def PG (X:Cx) (target:Expr) (t:TG):Prop:=
 ∀(pins:List (QF×Obj)) (s:Shared) (σ:St) (H:Hp) (v:V) (u:Value) (Q:St->Hp->Prop),aY X pins σ H s->bP v u->t v σ H Q->
  QL (QV X.prog X.w) X.A (SE target X.env u) (λ_ s'=>∃σ' H',aY X pins σ' H' s'/\Q σ' H') X.xe s
def CJ (X:Cx) (ts:List Expr) (t:Nx):Prop:=
 ∀(pins:List (QF×Obj)) (s:Shared) (σ:St) (H:Hp) (vs:List V) (us:List Value) (Q:St->Hp->Prop),aY X pins σ H s->bG vs us->t vs σ H Q->
  QL (QV X.prog X.w) X.A (SM ((QZ ts X.env).map (·.2)) us) (λ_ s'=>∃σ' H',aY X pins σ' H' s'/\Q σ' H') X.xe s
abbrev Wy:=V->V->V->Hp->(Hp->Prop)->Prop
def J7 (X:Cx) (t:Wy):Prop:=
 ∀(pins:List (QF×Obj)) (s:Shared) (σ:St) (H:Hp) (o i v:V) (ov iv u:Value) (Q:Hp->Prop),aY X pins σ H s->bP o ov->bP i iv->bP v u->t o i v H Q->
  QL (QV X.prog X.w) X.A (setItem ov iv u) (λ_ s'=>∃H',aY X pins σ H' s'/\Q H') X.xe s
section
variable {X:Cx} {pos:Pos}
def wW (i:Nat):TG:=λv σ H Q=>Q (σ.set i (some v)) H
theorem Xl {i:Nat} {x:Str} (hN:X.N.Nodup) (hi:X.N[i]? = some x) (hx:Eh X.env.scope x) (hf:X.fn x=true\/X.env.scope.names.lookup x=some .local:=by first | exact .inl rfl | exact .inr rfl | assumption):PG X (.Name x pos) (wW i):=by
 intro pins s σ H v u Q I r h;exact wpAny_assign_Name (i4 I hN hi hx r (λs' I'=>⟨_,H,I',h⟩) hf)
def BR:Nx:=λvs σ H Q=>vs=[]/\Q σ H
def D6 (t:TG) (u:Nx):Nx:=λvs σ H Q=>∃v r,vs=v::r/\t v σ H λσ' H'=>u r σ' H' Q
theorem Xg:CJ X [] BR:=by
 intro pins s σ H vs us Q I r h;obtain ⟨e,h⟩:=h;subst e;cases r;exact SX ⟨σ,H,I,h⟩
theorem Nz {e:Expr} {es:List Expr} {t:TG} {u:Nx} (h1:PG X e t) (h2:CJ X es u)
  (hs:(QZ (e::es) X.env).map (·.2)=SE e X.env::(QZ es X.env).map (·.2):=by rfl):CJ X (e::es) (D6 t u):=by
 intro pins s σ H vs us Q I r h;obtain ⟨v,vr,e1,h⟩:=h;subst e1;cases r with
 | cons r rr=>
  rw [hs];refine RP (dM (h1 pins s σ H _ _ _ I r h) λ_ s1 ⟨σ1,H1,I1,q1⟩=>?_);exact h2 pins s1 σ1 H1 _ _ Q I1 rr q1
def AQ (K:W.Frag) (n:Nat) (t:Nx):TG:=λv σ H Q=>∃a xs,v = .ref a/\rR K H a xs/\xs.length=n/\t xs σ H Q
theorem L3 {es:List Expr} {k:Nat} {t:Nx} {n:Nat} (hc:X.calm=true) (h:CJ X es t)
  (hn:(QZ es X.env).length=n:=by rfl) (ZM:(QZ es X.env).findIdx? (·.1)=none:=by rfl):PG X (.Tuple es k pos) (AQ X.K n t):=by
 intro pins s σ H v u Q I r hw;obtain ⟨a,xs,e1,hq,hl,hw⟩:=hw;subst e1;cases r;obtain ⟨TC,rv,ht,hz⟩:=I.tuple hq;refine assign_Tuple_tuple (I.ok.hd hc) ht (by simp [hn,<-hl,rv.length]) ZM λh' hx=>?_;have I1:aY X pins σ H { s with heap:=h' }:=I.kept (t':=s.toks) λb o e=>hx b o (JU (JD e)) e;exact h pins _ σ H xs _ Q I1 (by simpa using rv) hw
def X6 (to ti:TE) (t:Wy):TG:=λv σ H Q=>to σ H λo H1=>ti σ H1 λi H2=>t o i v H2 λH3=>Q σ H3
theorem Q8 {o i:Expr} {to ti:TE} {t:Wy} (ho:PE X o to) (hi:PE X i ti) (hs:J7 X t)
  (ha:∀v,SE (.Subscript o i pos) X.env v=(do
   let ov <-RT [v] (RB o X.env)
   let iv <-RT [v,ov] (RB i X.env)
   standAt pos
   RT [v,ov,iv] (setItem ov iv v)
   release [v,ov,iv] []):=by intro _;rfl):PG X (.Subscript o i pos) (X6 to ti t):=by
 intro pins s σ H v u Q I r h;rw [ha];refine QH (SF (dM (ho pins s σ H _ I h) λov s1 ⟨x,H1,I1,r1,q1⟩=>?_));refine QH (SF (dM (hi pins s1 σ H1 _ I1 q1) λiv s2 ⟨y,H2,I2,r2,q2⟩=>?_));refine QH (SN (QH (SF (dM (hs pins s2 σ H2 x y v ov iv u _ I2 r1 r2 r q2) λ_ s3 ⟨H3,I3,q3⟩=>?_))));exact wpAny_release ⟨σ,H3,I3,q3⟩
def Mm (te:TE) (g:TG):TS:=λD σ H=>te σ H λx H1=>g x σ H1 D.nx
theorem U4 {tg e:Expr} {te:TE} {g:TG} (he:PE X e te) (hg:PG X tg g) (hs:RI [tg] e pos.line X.env=pure false:=by rfl) (hw:RJ [tg] e X.env=pure none:=by rfl)
  (h1:(QZ [tg] X.env).map (·.2)=[SE tg X.env]:=by rfl):PS X (.Assign [tg] e pos) (Mm te g):=by
 intro pins s σ H D I h;refine wpAny_Assign_stores (dM (he pins s σ H _ I h) λv s1 ⟨x,H1,I1,r1,q1⟩=>?_) hs hw;rw [h1];exact dM (hg pins s1 σ H1 x v _ I1 r1 q1) λ_ s2 q=>q
theorem K7 {i:Nat} {x:Str} {e:Expr} {te:TE} {pos':Pos} (hN:X.N.Nodup) (hi:X.N[i]? = some x) (hx:Eh X.env.scope x) (he:PE X e te) (hs:RN e (some (.Name x pos')) pos.line X.env=pure false:=by rfl) (hf:X.fn x=true\/X.env.scope.names.lookup x=some .local:=by first | exact .inl rfl | exact .inr rfl | assumption) :
  PS X (.Assign [.Name x pos'] e pos) (Mm te (wW i)):=by
 intro pins s σ H D I h;refine wpAny_Assign_Name (dM (he pins s σ H _ I h) λv s1 ⟨y,H1,I1,r1,q1⟩=>?_) hs;exact i4 I1 hN hi hx r1 (λs2 I2=>⟨_,H1,I2,q1⟩) hf
def W7 (i j:Nat) (ta:TA):TS:=λD σ H=>ta σ H λvs H1=>∃v w,vs=[v,w]/\D.nx ((σ.set i (some v)).set j (some w)) H1
theorem O3 {i j:Nat} {x y:Str} {a b:Expr} {ta:TA} {px py pt:Pos} {kt k2 pt2} (hc:X.calm=true) (hN:X.N.Nodup) (hi:X.N[i]? = some x) (hj:X.N[j]? = some y) (YD:i≠j)
  (hx:X.env.scope.names.lookup x=some .local) (hy:X.env.scope.names.lookup y=some .local) (ha:PA X [a,b] ta)
  (hw:RJ [.Tuple [.Name x px,.Name y py] kt pt] (.Tuple [a,b] k2 pt2) X.env=pure (some [x,y]))
  (hs:RI [.Tuple [.Name x px,.Name y py] kt pt] (.Tuple [a,b] k2 pt2) pos.line X.env=pure false:=by rfl) :
  PS X (.Assign [.Tuple [.Name x px,.Name y py] kt pt] (.Tuple [a,b] k2 pt2) pos) (W7 i j ta):=by
 intro pins s σ H D I h;rw [exec_Assign_arm];refine QH (SN ?_);rw [hs];refine QH (QN ?_);rw [if_neg (by decide)];refine QH (Tuple_ (dM (ha _ pins s σ H _ I h) λus s1 ⟨vs,H1,I1,r1,q1⟩=>?_));obtain ⟨v,w,e1,q1⟩:=q1;subst e1;obtain ⟨u1,u2,rfl,rv,ZN⟩:∃u1 u2,us=[u1,u2]/\bP v u1/\bP w u2:=by
  cases r1 with
  | cons p q=>
   cases q with
   | cons p' q'=>
    cases q';exact ⟨_,_,rfl,p,p'⟩
 refine RD ?_ (by show 2<=QP;decide);have I2:aY X pins σ H1 { s1 with heap:=s1.heap.push { cls:=.type "tuple",data:=.seq [u1,u2].toArray } }:=I1.kept (t':=s1.toks) λb o e=>IX _ e;rw [hw];refine QH (QN ?_);show QL (QV X.prog X.w) X.A (do rule "assign.swapped-stores";let items <-unpackItems (.ref s1.heap.objs.size) 2 none;SM [λv=>RY X.env y v,λv=>RY X.env x v] items.reverse;pure Flow.next) _ _ _;refine QH (RZ (QH (unpackItems_tuple (items:=#[u1,u2]) (I.ok.hd hc) (IsTup.new s1.heap _) λh' cy=>?_)));have I3:=I2.kept (h':=h') (t':=s1.toks) λb o e=>cy b o (JU (JD e)) e;show QL _ _ (SM [λv=>RY X.env y v,λv=>RY X.env x v] [u2,u1] >>= λ_=>pure Flow.next) _ _ _;refine QH (RP (SI (i4 I3 hN hj (.inl hy) ZN (λs2 I4=>?_) (.inr hy))));refine RP (SI (i4 I4 hN hi (.inl hx) rv (λs3 I5=>SX (QN ?_)) (.inr hx)));rw [MZ _ _ (Ne.symm YD)] at I5;exact ⟨_,H1,I5,q1⟩
end
section
variable {X:Cx} {pos:Pos}
def Pu (c:TT) (tb:TS):TS:=λD σ H=>∃W:Nat->St->Hp->Prop,(∃m,W m σ H)/\∀m σ H,W m σ H->
 c σ H λb H1=>if b=true then ∃N:St->Hp->Prop,(∀σ' H',N σ' H'->∃m',m'<m/\W m' σ' H')/\tb { D with nx:=N,ct:=N,bk:=D.nx } σ H1 else D.nx σ H1
theorem Tc {c:Expr} {body:List QU} {tc:TT} {tb:TS} (hp:PassesOwn (QV X.prog X.w) X.A X.env X.xe) (hc:PT X c tc) (hb:Ha X body tb):PS X (.While c body [] pos) (Pu tc tb):=by
 intro pins s σ H D I h;obtain ⟨W,⟨m0,w0⟩,turn⟩:=h;refine wpAny_While (codeAny_whileLoop (λn s'=>∃σ' H',aY X pins σ' H' s'/\W n σ' H') ?_ m0 ⟨σ,H,I,w0⟩);rintro n s1 ⟨σ1,H1,I1,w1⟩;refine RQ hp (dM (hc pins s1 σ1 H1 _ I1 (turn n σ1 H1 w1)) λb s2 ⟨H2,I2,q2⟩=>?_);cases b with
 | true=>
  obtain ⟨N,hN,q2⟩:=q2;rw [if_pos rfl];refine RQ hp (dM (hb pins s2 σ1 H2 _ I2 q2) λf s3 q3=>?_);cases f with
  | next=>
   obtain ⟨σ3,H3,I3,n3⟩:=q3;obtain ⟨m',hm,w3⟩:=hN σ3 H3 n3;exact ⟨m',hm,σ3,H3,I3,w3⟩
  | cont=>
   obtain ⟨σ3,H3,I3,n3⟩:=q3;obtain ⟨m',hm,w3⟩:=hN σ3 H3 n3;exact ⟨m',hm,σ3,H3,I3,w3⟩
  | brk=>exact q3
  | ret v=>exact q3
 | false=>
  rw [if_neg NA];exact SQ ⟨σ1,H2,I2,q2⟩
end
structure It where
 go:Nat->Hp->Prop
 yld:Nat->Hp->V->Hp->Prop
 stop:Nat->Hp->Prop
def oK (X:Cx) (pins:List (QF×Obj)) (H:Hp) (b:QF):Prop:=
 H b=none/\b≠X.env.locals/\b∉X.fs/\(b∈X.ex\/X.s₀.heap.objs.size<=b)/\(∀x c,X.env.cells.lookup x=some c->c≠b)/\∀p∈X.pn++pins,p.1≠b
theorem aY.fpOk {X:Cx} {pins:List (QF×Obj)} {σ:St} {H H':Hp} {s:Shared} {b:QF} (I:aY X pins σ H s) (hb:s.heap.objs.size<=b) (hn:H' b=none):oK X pins H' b:=by
 refine ⟨hn,Nat.ne_of_gt (JH I.lt hb),I.nofs hb,.inr (KS I.sz hb),λx c e z=>?_,λp hp z=>?_⟩
 ·obtain ⟨v,q⟩:=I.cell x c e;exact absurd (JH q.lt (by rw [z];exact hb)) (Nat.lt_irrefl _)
 ·exact absurd (JH (JD (I.pin p hp).1) (by rw [z];exact hb)) (Nat.lt_irrefl _)
structure Er (P:QJ) (w:QM) (K:W.Frag) (tg:Expr) (J:It) (fp:List QF) (it:QF) (tn:Nat->Heap->Prop):Prop where
 mem:it∈fp
 obj:∀i h,tn i h->∀b∈fp,∃o,h.get? b=some o/\∀v,o.data≠.cell v
 keep:∀i h h',tn i h->(∀b∈fp,∀o,h.get? b=some o->h'.get? b=some o)->tn i h'
 item:∀(X:Cx),X.prog=P->X.w=w->X.K=K->X.calm=true->∀(i:Nat) (pins:List (QF×Obj)) (s:Shared) (σ:St) (H:Hp) (E:Value->Shared->Prop),aY X pins σ H s->(∀b∈fp,oK X pins H b)->tn i s.heap->J.go i H->
  QL (QV P w) X.A (pyNext (.ref it)) (λr s1=>∃u,r=some u/\
   QL (QV P w) X.A (SR tg (.ref it) u) (λ_ s2=>∃x H',aY X pins σ H' s2/\bP x u/\J.yld i H x H'/\tn (i+1) s2.heap/\∀b∈fp,H' b=none) E s1) E s
 done:∀(X:Cx),X.prog=P->X.w=w->X.K=K->X.calm=true->∀(i:Nat) (pins:List (QF×Obj)) (s:Shared) (σ:St) (H:Hp) (E:Value->Shared->Prop),aY X pins σ H s->(∀b∈fp,oK X pins H b)->tn i s.heap->J.stop i H->
  QL (QV P w) X.A (pyNext (.ref it)) (λr s1=>r=none/\aY X pins σ H s1) E s
 self:∀(A:Around) (i:Nat) (s:Shared) (Q:Value->Shared->Prop) (E:Value->Shared->Prop),tn i s.heap->Q (.ref it) s->QL (QV P w) A (pyIter (.ref it)) Q E s
abbrev TI:=St->Hp->(It->Hp->Prop)->Prop
def GN (X:Cx) (pins:List (QF×Obj)) (σ:St) (tg:Expr) (R:It->Hp->Prop) (qy:Value) (s2:Shared):Prop:=
 ∃(it:QF) (fp:List QF) (tn:Nat->Heap->Prop) (J:It) (H':Hp),qy = .ref it/\aY X pins σ H' s2/\Er X.prog X.w X.K tg J fp it tn/\tn 0 s2.heap/\(∀b∈fp,oK X pins H' b)/\R J H'
def PI (X:Cx) (tg iter:Expr) (wi:TI):Prop:=
 ∀(pins:List (QF×Obj)) (s:Shared) (σ:St) (H:Hp) (R:It->Hp->Prop),aY X pins σ H s->wi σ H R->
  QL (QV X.prog X.w) X.A (RB iter X.env) (λv s1=>QL (QV X.prog X.w) X.A (pyIter v) (GN X pins σ tg R) X.xe s1) X.xe s
theorem Po {M:Model} {A:Around} {E:Value->Shared->Prop} {s:Shared} {tg:Expr} {it:QF} {u:Value} {o:Obj} {n:String} {vs:Array Value} {Q:Unit->Shared->Prop} (ho:s.heap.get? it=some o) (hc:o.cls = .type n) (hd:o.data = .fields vs)
    (hn:["enumerate","zip","dict_itemiterator","dict_reverseitemiterator","odict_iterator","itertools.zip_longest","itertools.pairwise"].contains n=false) (hQ:Q () s):QL M A (SR tg (.ref it) u) Q E s:=by
  unfold SR;cases tg<;>first
    | exact QN hQ
    | (cases u<;>first
        | exact QN hQ
        | (refine QH (wpAny_load ho ?_)
           rw [hc,hd];show QL M A (if (["enumerate","zip","dict_itemiterator","dict_reverseitemiterator","odict_iterator","itertools.zip_longest","itertools.pairwise"].contains n&&vs[0]?==some (rawInt _))=true then _ else _) Q E s;rw [if_neg (by intro h;rw [hn,Bool.false_and] at h;cases h)];exact QN hQ))
def DR (K:W.Frag) (a:QF):It:=
 ⟨λi H=>∃xs x,j4 K H a xs/\xs[i]? = some x,λi H x H'=>H'=H/\∀xs,j4 K H a xs->xs[i]? = some x,λi H=>∃xs,j4 K H a xs/\xs.length<=i⟩
def DM (K:W.Frag) (a:QF):It:=
 ⟨λi H=>∃xs x,rR K H a xs/\xs[i]? = some x,λi H x H'=>H'=H/\∀xs,rR K H a xs->xs[i]? = some x,λi H=>∃xs,rR K H a xs/\xs.length<=i⟩
def CC (lo:Int) (n:Nat):It:=⟨λi _=>i<n,λi H x H'=>H'=H/\x = .int (lo+i),λi _=>n<=i⟩
theorem wD {P:QJ} {w:QM} {K:W.Frag} {tg:Expr} (a it:QF):Er P w K tg (DR K a) [it] it (λi h=>h.IsListIter it a i) where
 mem:=by simp
 obj:=λi h st b hb=>by
  have e:b=it:=by simpa using hb
  subst e;obtain ⟨o,e,c,d⟩:=st;exact ⟨o,e,λv z=>by rw [d] at z;cases z⟩
 keep:=λi h h' st k=>st.at λo e=>k it (by simp) o e
 item:=by
  intro X hP hw hK hc i pins s σ H E I hf st hg;subst hP hw hK;obtain ⟨xs,x,hq,hx⟩:=hg;obtain ⟨TC,rv,p,hz⟩:=I.list hq;obtain ⟨u,hu,ru⟩:=rv.get hx;obtain ⟨f0,f1,f2,f3,f4,f5⟩:=hf it (by simp);refine wpAny_pyNext_list_item st p.isList (x:=u) (by simpa using hu) λh' ZO sb=>?_;have I1:aY X pins σ H { s with heap:=h' }:=I.turned (t':=s.toks) (λb o hb e=>(sb.2 b hb).trans e) f0 f1 f3 f4 f5;obtain ⟨o,e,c,d⟩:=id ZO;exact ⟨u,rfl,Po (s:={ s with heap:=h' }) e c d (by decide) ⟨x,H,I1,ru,⟨rfl,λys hy=>by rw [I.list_inj hy hq];exact hx⟩,ZO,λb hb=>(hf b hb).1⟩⟩
 done:=by
  intro X hP hw hK hc i pins s σ H E I hf st hg;subst hP hw hK;obtain ⟨xs,hq,hx⟩:=hg;obtain ⟨TC,rv,p,hz⟩:=I.list hq;obtain ⟨f0,f1,f2,f3,f4,f5⟩:=hf it (by simp);have hl:=rv.length;exact wpAny_pyNext_list_end (I.ok.hd hc) st p.isList (by simp;omega) λh' eb=>⟨rfl,I.turned (t':=s.toks) (λb o hb e=>eb b o hb e) f0 f1 f3 f4 f5⟩
 self:=λ_ _ _ _ _ st h=>wpAny_pyIter_listiter st h
theorem sI {P:QJ} {w:QM} {K:W.Frag} {tg:Expr} (a it:QF):Er P w K tg (DM K a) [it] it (λi h=>h.IsTupleIter it a i) where
 mem:=by simp
 obj:=λi h st b hb=>by
  have e:b=it:=by simpa using hb
  subst e;obtain ⟨o,e,c,d⟩:=st;exact ⟨o,e,λv z=>by rw [d] at z;cases z⟩
 keep:=λi h h' st k=>st.at λo e=>k it (by simp) o e
 item:=by
  intro X hP hw hK hc i pins s σ H E I hf st hg;subst hP hw hK;obtain ⟨xs,x,hq,hx⟩:=hg;obtain ⟨TC,rv,p,hz⟩:=I.tuple hq;obtain ⟨u,hu,ru⟩:=rv.get hx;obtain ⟨f0,f1,f2,f3,f4,f5⟩:=hf it (by simp);refine wpAny_pyNext_tuple_item st (show s.heap.IsTuple a TC.toArray from p) (x:=u) (by simpa using hu) λh' ZO sb=>?_;have I1:aY X pins σ H { s with heap:=h' }:=I.turned (t':=s.toks) (λb o hb e=>(sb.2 b hb).trans e) f0 f1 f3 f4 f5;obtain ⟨o,e,c,d⟩:=id ZO;exact ⟨u,rfl,Po (s:={ s with heap:=h' }) e c d (by decide) ⟨x,H,I1,ru,⟨rfl,λys hy=>by rw [I.tuple_inj hy hq];exact hx⟩,ZO,λb hb=>(hf b hb).1⟩⟩
 done:=by
  intro X hP hw hK hc i pins s σ H E I hf st hg;subst hP hw hK;obtain ⟨xs,hq,hx⟩:=hg;obtain ⟨TC,rv,p,hz⟩:=I.tuple hq;obtain ⟨f0,f1,f2,f3,f4,f5⟩:=hf it (by simp);have hl:=rv.length;exact wpAny_pyNext_tuple_end (I.ok.hd hc) st (show s.heap.IsTuple a TC.toArray from p) (by simp;omega) λh' eb=>⟨rfl,I.turned (t':=s.toks) (λb o hb e=>eb b o hb e) f0 f1 f3 f4 f5⟩
 self:=λ_ _ _ _ _ st h=>wpAny_pyIter_tupleiter st h
theorem Fh {P:QJ} {w:QM} {K:W.Frag} {tg:Expr} (it:QF) (lo:Int) (n:Nat):Er P w K tg (CC lo n) [it] it (λi h=>IsRangeIter h it (lo+(i:Nat)*1) ((n:Int)-(i:Nat)) 1) where
 mem:=by simp
 obj:=λi h st b hb=>by
  have e:b=it:=by simpa using hb
  subst e;exact ⟨_,st,λv z=>by
   have z':Data.fields _=Data.cell v:=z;cases z'⟩
 keep:=λi h h' st k=>k it (by simp) _ st
 item:=by
  intro X hP hw hK hc i pins s σ H E I hf st hg;subst hP hw hK;obtain ⟨f0,f1,f2,f3,f4,f5⟩:=hf it (by simp);have W:=Walks.range (prog:=X.prog) (w:=X.w) (I.ok.hd hc) it lo 1 n;refine W.item i s _ _ hg st λv h' tk hv ZO kk=>?_;obtain ⟨t,rfl⟩:=hv;have I1:aY X pins σ H { s with heap:=h',toks:=tk }:=I.turned (λb o hb e=>kk b o (by simpa using hb) e) f0 f1 f3 f4 f5;refine ⟨_,rfl,Po (s:={ s with heap:=h',toks:=tk }) (n:="range_iterator") ZO rfl rfl (by decide) ⟨.int (lo+i),H,I1,⟨t,?_⟩,⟨rfl,rfl⟩,ZO,λb hb=>(hf b hb).1⟩⟩;rw [Int.mul_one]
 done:=by
  intro X hP hw hK hc i pins s σ H E I hf st hg;subst hP hw hK;obtain ⟨f0,f1,f2,f3,f4,f5⟩:=hf it (by simp);exact wpAny_pyNext_range_end (I.ok.hd hc) st (by have:n<=i:=hg;omega) λh' eb=>⟨rfl,I.turned (t':=s.toks) (λb o hb e=>eb b o hb e) f0 f1 f3 f4 f5⟩
 self:=λ_ _ _ _ _ st h=>wpAny_pyIter_rangeiter st h
section
variable {X:Cx} {tg:Expr}
def Zp (K:W.Frag) (tl:TE):TI:=λσ H R=>tl σ H λx H1=>∃a,x = .ref a/\(∃xs,j4 K H1 a xs)/\R (DR K a) H1
def Y5 (K:W.Frag) (tl:TE):TI:=λσ H R=>tl σ H λx H1=>∃a,x = .ref a/\(∃xs,rR K H1 a xs)/\R (DM K a) H1
theorem Wc {l:Expr} {tl:TE} (hl:PE X l tl):PI X tg l (Zp X.K tl):=by
 intro pins s σ H R I h;refine dM (hl pins s σ H _ I h) λv s1 ⟨x,H1,I1,r1,q1⟩=>?_;obtain ⟨a,e,⟨xs,hq⟩,q⟩:=q1;subst e;cases r1;obtain ⟨TC,rv,p,hz⟩:=I1.list hq;refine wpAny_pyIter_list p.isList ?_;refine ⟨s1.heap.objs.size,[s1.heap.objs.size],_,_,H1,rfl,I1.kept (t':=s1.toks) λb o e=>IX _ e,wD a _,⟨_,JL _ rfl,rfl,rfl⟩,λb hb=>?_,q⟩;have e:b=s1.heap.objs.size:=by simpa using hb
 subst e;exact I1.fpOk (IW _) (I1.hok.fresh (IW _))
theorem S7 {l:Expr} {tl:TE} (hl:PE X l tl):PI X tg l (Y5 X.K tl):=by
 intro pins s σ H R I h;refine dM (hl pins s σ H _ I h) λv s1 ⟨x,H1,I1,r1,q1⟩=>?_;obtain ⟨a,e,⟨xs,hq⟩,q⟩:=q1;subst e;cases r1;obtain ⟨TC,rv,p,hz⟩:=I1.tuple hq;refine SG (show s1.heap.IsTuple a TC.toArray from p) ?_;refine ⟨s1.heap.objs.size,[s1.heap.objs.size],_,_,H1,rfl,I1.kept (t':=s1.toks) λb o e=>IX _ e,sI a _,⟨_,JL _ rfl,rfl,rfl⟩,λb hb=>?_,q⟩;have e:b=s1.heap.objs.size:=by simpa using hb
 subst e;exact I1.fpOk (IW _) (I1.hok.fresh (IW _))
theorem Uv {pins:List (QF×Obj)} {σ:St} {H:Hp} {s:Shared} {R:It->Hp->Prop} {E:Value->Shared->Prop} {lo hi:Int} {t u v:Tok} {tk:Nat} (I:aY X pins σ H s) (h1:-(2^62)<=lo) (h2:lo<2^62) (h3:-(2^62)<=hi) (h4:hi<2^62)
  (q:R (CC lo (hi-lo).toNat) H):QL (QV X.prog X.w) X.A (pyIter (.ref s.heap.objs.size)) (GN X pins σ tg R) E { s with heap:=s.heap.push { cls:=.type "range",data:=.fields #[.int lo t,.int hi u,.int 1 v] },toks:=tk }:=by
 refine wpAny_pyIter_range (IsRange.new ..) (small_one h1 h2 h3 h4) ?_;have I1:aY X pins σ H { s with heap:=s.heap.push { cls:=.type "range",data:=.fields #[.int lo t,.int hi u,.int 1 v] },toks:=tk }:=I.kept λb o e=>IX _ e;refine ⟨(s.heap.push { cls:=.type "range",data:=.fields #[.int lo t,.int hi u,.int 1 v] }).objs.size,[(s.heap.push { cls:=.type "range",data:=.fields #[.int lo t,.int hi u,.int 1 v] }).objs.size],_,_,H,rfl,
  I1.kept (t':=tk) λb o e=>IX _ e,Fh _ lo (hi-lo).toNat,?_,λb hb=>?_,q⟩
 ·have e1:lo+((0:Nat):Int)*1=lo:=by simp
  have e2:(((hi-lo).toNat:Nat):Int)-((0:Nat):Int)=Builtin.Range.rangeSize lo hi 1:=by rw [rangeSize_one];split<;>omega
  show IsRangeIter _ _ (lo+((0:Nat):Int)*1) ((((hi-lo).toNat:Nat):Int)-((0:Nat):Int)) 1;rw [e1,e2];exact JL _ rfl
 ·have e:b=(s.heap.push { cls:=.type "range",data:=.fields #[.int lo t,.int hi u,.int 1 v] }).objs.size:=by simpa using hb
  subst e;exact I1.fpOk (IW _) (I1.hok.fresh (IW _))
def F3 (ta:TA):TI:=λσ H R=>ta σ H λvs H1=>∃j:Int,vs=[.int j]/\-(2^62)<=j/\j<2^62/\R (CC 0 j.toNat) H1
theorem Lv {a:Expr} {ta:TA} {p pos:Pos} (hg:Gl X "range") (hm:X.mg "range" = none) (ha:PA X [a] ta) (hs:QY [a] X.env=[(false,RB a X.env)]:=by rfl):PI X tg (.Call (.Name "range" p) [a] [] pos) (F3 ta):=by
 intro pins s σ H R I h;refine Call_ (qH I hg hm boot_range (PyProof.Rows.callWith_type1 (dM (ha pos pins s σ H _ I h) λus s1 ⟨vs,H1,I1,r1,q1⟩=>?_) hs rfl));obtain ⟨j,e,q1,q2,q⟩:=q1;subst e;cases r1 with
 | cons r rr=>
  cases rr;obtain ⟨t,rfl⟩:=r;exact call_range_1 (Uv I1 (by omega) (by omega) q1 q2 (by simpa using q))
def X8 (wi:TI) (g:TG) (tb:TS):TS:=λD σ H=>wi σ H λJ H1=>∃W:Nat->Nat->St->Hp->Prop,(∃m,W 0 m σ H1)/\∀i m σ H,W i m σ H->
 (J.stop i H/\D.nx σ H)\/(J.go i H/\∃N:St->Hp->Prop,(∀σ' H',N σ' H'->∃m',m'<m/\W (i+1) m' σ' H')/\∀x H',J.yld i H x H'->g x σ H' λσ2 H2=>tb { D with nx:=N,ct:=N,bk:=D.nx } σ2 H2)
def yR (fp:List QF) (h:Heap):List (QF×Obj):=fp.filterMap λb=>(h.get? b).map λo=>(b,o)
theorem gX {fp:List QF} {h:Heap} {b:QF} {o:Obj} (hb:b∈fp) (e:h.get? b=some o):(b,o)∈yR fp h:=NQ.mpr ⟨b,hb,by rw [e];rfl⟩
theorem Mq {fp:List QF} {h:Heap} {p:QF×Obj} (hp:p∈yR fp h):p.1∈fp/\h.get? p.1=some p.2:=by
 obtain ⟨b,hb,e⟩:=NQ.mp hp;cases q:h.get? b with
 | none=>rw [q] at e;cases e
 | some o=>
  rw [q] at e;have e':(b,o)=p:=Option.some.inj e;subst e';exact ⟨hb,q⟩
theorem aY.pinned {pins:List (QF×Obj)} {σ:St} {H:Hp} {s:Shared} {fp:List QF} (I:aY X pins σ H s) (hf:∀b∈fp,oK X pins H b) (ho:∀b∈fp,∃o,s.heap.get? b=some o/\∀v,o.data≠.cell v):aY X (pins++yR fp s.heap) σ H s:=
 I.pins_of λp hp=>(JJ.mp hp).elim (λz=>I.pin p (JF _ z)) λz=>by
  obtain ⟨hb,e⟩:=Mq z;obtain ⟨f0,f1,f2,_⟩:=hf p.1 hb;obtain ⟨o,e',d⟩:=ho p.1 hb;rw [e] at e';cases e';exact ⟨e,f0,f1,f2,d⟩
theorem aY.unpinned {pins pl:List (QF×Obj)} {σ:St} {H:Hp} {s:Shared} (I:aY X (pins++pl) σ H s):aY X pins σ H s:=I.pins_of λp hp=>I.pin p (JF _ (JX _ hp))
theorem N5 {iter:Expr} {body:List QU} {wi:TI} {g:TG} {tb:TS} {pos:Pos} (hp:PassesOwn (QV X.prog X.w) X.A X.env X.xe) (hc:X.calm=true) (hi:PI X tg iter wi) (hg:PG X tg g) (hb:Ha X body tb)
  (hs:∀x,QX iter X.env x=pure x:=by intro _;rfl):PS X (.For tg iter body [] pos) (X8 wi g tb):=by
 intro pins s σ H D I h;refine wpAny_For (dM (hi pins s σ H _ I h) λv s1 h1=>dM h1 λqy s2 h2=>?_) hs;obtain ⟨it,fp,tn,J,H2,e,I2,T,bf,f2,W,⟨m0,w0⟩,turn⟩:=h2;subst e
 -- what stays true of the iterator's objects through the loop
 have XR:∀{H':Hp},(∀b∈fp,H' b=none)->∀b∈fp,oK X pins H' b:=λhn b hb=>⟨hn b hb,(f2 b hb).2⟩;refine codeAny_forLoop_any (λn s'=>∃i σ' H',aY X pins σ' H' s'/\tn i s'.heap/\(∀b∈fp,H' b=none)/\W i n σ' H') ?_ m0 ⟨0,σ,H2,I2,bf,λb hb=>(f2 b hb).1,w0⟩;rintro n s3 ⟨i,σ3,H3,I3,xq,xr,w3⟩;rcases turn i n σ3 H3 w3 with ⟨stop,qn⟩ | ⟨go,N,hN,step⟩
 ·refine RQ hp (dM (T.done X rfl rfl rfl hc i pins s3 σ3 H3 X.xe I3 (XR xr) xq stop) λr s4 ⟨hr,I4⟩=>?_);subst hr;exact SQ ⟨σ3,H3,I4,qn⟩
 ·refine RQ hp (dM (T.item X rfl rfl rfl hc i pins s3 σ3 H3 X.xe I3 (XR xr) xq go) λr s4 ⟨u,hr,h4⟩=>?_);subst hr;refine RQ hp (dM h4 λ_ s5 ⟨x,H5,I5,r5,y5,gy,nr⟩=>?_);have I5':=I5.pinned (XR nr) (T.obj _ _ gy);refine RQ hp (dM (hg _ s5 σ3 H5 x u _ I5' r5 (step x H5 y5)) λ_ s6 ⟨σ6,H6,I6,q6⟩=>?_);refine RQ hp (dM (hb _ s6 σ6 H6 _ I6 q6) λf s7 q7=>?_);have again:∀{σ7:St} {H7:Hp},aY X (pins++yR fp s5.heap) σ7 H7 s7->N σ7 H7->∃m,m<n/\∃i σ' H',aY X pins σ' H' s7/\tn i s7.heap/\(∀b∈fp,H' b=none)/\W i m σ' H':=λ{σ7 H7} I7 n7=>by
   obtain ⟨m',hm,w7⟩:=hN σ7 H7 n7;refine ⟨m',hm,i+1,σ7,H7,I7.unpinned,T.keep _ _ _ gy λb hb o e=>(I7.pin (b,o) (JF _ (JF _ (gX hb e)))).1,λb hb=>?_,w7⟩;obtain ⟨o,e,d⟩:=T.obj _ _ gy b hb;exact (I7.pin (b,o) (JF _ (JF _ (gX hb e)))).2.1
  cases f with
  | next=>obtain ⟨σ7,H7,I7,n7⟩:=q7;exact again I7 n7
  | cont=>obtain ⟨σ7,H7,I7,n7⟩:=q7;exact again I7 n7
  | brk=>obtain ⟨σ7,H7,I7,q7⟩:=q7;exact ⟨σ7,H7,I7.unpinned,q7⟩
  | ret v=>obtain ⟨x7,σ7,H7,I7,r7,q7⟩:=q7;exact ⟨x7,σ7,H7,I7.unpinned,r7,q7⟩
end
abbrev R2:=V->V->Hp->VK->Prop
def mU (X:Cx) (f:Value->Value->Sem Value) (r:R2):Prop:=
 ∀(pins:List (QF×Obj)) (s:Shared) (σ:St) (H:Hp) (x y:V) (v u:Value) (Q:VK),aY X pins σ H s->bP x v->bP y u->r x y H Q->
  QL (QV X.prog X.w) X.A (f v u) (EP X pins σ Q) X.xe s
def DN (X:Cx) (f:Value->Sem Value) (r:V->Hp->VK->Prop):Prop:=
 ∀(pins:List (QF×Obj)) (s:Shared) (σ:St) (H:Hp) (x:V) (v:Value) (Q:VK),aY X pins σ H s->bP x v->r x H Q->
  QL (QV X.prog X.w) X.A (f v) (EP X pins σ Q) X.xe s
def gQ (X:Cx) (f:Value) (r:List V->Hp->VK->Prop):Prop:=
 ∀(pins:List (QF×Obj)) (s:Shared) (σ:St) (H:Hp) (xs:List V) (us:List Value) (Q:VK),aY X pins σ H s->bG xs us->r xs H Q->
  QL (QV X.prog X.w) X.A (call f us) (EP X pins σ Q) X.xe s
def DX (X:Cx) (r:V->Hp->(Bool->Hp->Prop)->Prop):Prop:=
 ∀(pins:List (QF×Obj)) (s:Shared) (σ:St) (H:Hp) (x:V) (v:Value) (Q:Bool->Hp->Prop),aY X pins σ H s->bP x v->r x H Q->
  QL (QV X.prog X.w) X.A (truthy v) (TP X pins σ Q) X.xe s
def Ra (r:R2) (ta tb:TE):TE:=λσ H Q=>ta σ H λx H1=>tb σ H1 λy H2=>r x y H2 Q
def HF (r:V->Hp->VK->Prop) (ta:TE):TE:=λσ H Q=>ta σ H λx H1=>r x H1 Q
def rI (C:Int->Int->Prop) (g:Int->Int->V):R2:=λx y H Q=>∃i j,x = .int i/\y = .int j/\C i j/\Q (g i j) H
def Td (g:Int->Int->V):R2:=λx y H Q=>∃i j,x = .int i/\y = .int j/\Q (g i j) H
def rU (g:Int->V):V->Hp->VK->Prop:=λx H Q=>∃i,x = .int i/\Q (g i) H
section
variable {X:Cx} {a b c:Expr} {ta tb tc:TE} {pos:Pos}
theorem P4 (ha:PE X a ta) (hb:PE X b tb) {pins:List (QF×Obj)} {s:Shared} {σ:St} {H:Hp} {R:V->V->Hp->Prop} (I:aY X pins σ H s)
  (h:ta σ H λx H1=>tb σ H1 λy H2=>R x y H2) {Q:Value->Shared->Prop} {f:Value->Value->Sem Value}
  (hf:∀v u s2 x y H2,aY X pins σ H2 s2->bP x v->bP y u->R x y H2->QL (QV X.prog X.w) X.A (f v u) Q X.xe s2) :
  QL (QV X.prog X.w) X.A (RB a X.env) (λv s₁=>QL (QV X.prog X.w) X.A (RB b X.env) (λu s₂=>QL (QV X.prog X.w) X.A (f v u) Q X.xe s₂) X.xe s₁) X.xe s:=by
 refine dM (ha pins s σ H _ I h) λv s1 ⟨x,H1,I1,r1,q1⟩=>?_;refine dM (hb pins s1 σ H1 _ I1 q1) λu s2 ⟨y,H2,I2,r2,q2⟩=>?_;exact hf v u s2 x y H2 I2 r1 r2 q2
theorem CT {op:Operator} {r:R2} (ho:mU X (RL op) r) (ha:PE X a ta) (hb:PE X b tb):PE X (.BinOp a op b pos) (Ra r ta tb):=by
 intro pins s σ H Q I h;exact wpAny_BinOp (P4 ha hb I h λv u s2 x y H2 I2 rx ry q=>ho pins s2 σ H2 x y v u Q I2 rx ry q)
theorem CD {op:UnaryOp} {r:V->Hp->VK->Prop} (ho:DN X (unaryOp op) r) (ha:PE X a ta):PE X (.UnaryOp op a pos) (HF r ta):=by
 intro pins s σ H Q I h;exact UnaryOp_ (dM (ha pins s σ H _ I h) λv s1 ⟨x,H1,I1,r1,q1⟩=>ho pins s1 σ H1 x v Q I1 r1 q1)
theorem CW {f:Value->Value->Sem Value} {C:Int->Int->Prop} {g:Int->Int->Int}
  (rule:∀(i j:Int) (t u:Tok) (s:Shared) (Q:Value->Shared->Prop) (E:Value->Shared->Prop),C i j->Q (.int (g i j) s.toks) { s with toks:=s.toks+1 }->QL (QV X.prog X.w) X.A (f (.int i t) (.int j u)) Q E s) :
  mU X f (rI C λi j=>.int (g i j)):=by
 intro pins s σ H x y v u Q I rx ry h;obtain ⟨i,j,rfl,rfl,hc,q⟩:=h;obtain ⟨t,rfl⟩:=rx;obtain ⟨t',rfl⟩:=ry;exact rule i j t t' s _ _ hc ⟨.int (g i j),H,I.tok _,⟨_,rfl⟩,q⟩
theorem CY {f:Value->Value->Sem Value} {g:Int->Int->Int}
  (rule:∀(i j:Int) (t u:Tok) (s:Shared) (Q:Value->Shared->Prop) (E:Value->Shared->Prop),Q (.int (g i j) s.toks) { s with toks:=s.toks+1 }->QL (QV X.prog X.w) X.A (f (.int i t) (.int j u)) Q E s) :
  mU X f (Td λi j=>.int (g i j)):=by
 intro pins s σ H x y v u Q I rx ry h;obtain ⟨i,j,rfl,rfl,q⟩:=h;obtain ⟨t,rfl⟩:=rx;obtain ⟨t',rfl⟩:=ry;exact rule i j t t' s _ _ ⟨.int (g i j),H,I.tok _,⟨_,rfl⟩,q⟩
theorem Xv {f:Value->Value->Sem Value} {g:Int->Int->Bool}
  (rule:∀(i j:Int) (t u:Tok) (s:Shared) (Q:Value->Shared->Prop) (E:Value->Shared->Prop),Q (.bool (g i j)) s->QL (QV X.prog X.w) X.A (f (.int i t) (.int j u)) Q E s) :
  mU X f (Td λi j=>.bl (g i j)):=by
 intro pins s σ H x y v u Q I rx ry h;obtain ⟨i,j,rfl,rfl,q⟩:=h;obtain ⟨t,rfl⟩:=rx;obtain ⟨t',rfl⟩:=ry;exact rule i j t t' s _ _ ⟨.bl (g i j),H,I,rfl,q⟩
def M6 (i j:Int):Prop:=0<=j/\j<=1000000/\i.natAbs<2^64
def Wh (i j:Int):Prop:=(-(2^64)<i/\i<2^64)\/(-(2^64)<j/\j<2^64)
theorem Wh.ok {i j:Int} (h:Wh i j):IntMulOk i j:=by
 rcases h with ⟨h1,h2⟩ | ⟨h1,h2⟩
 ·exact .of_left (intBits_le_64 h1 h2)
 ·exact .of_right (intBits_le_64 h1 h2)
theorem b9:mU X (RL .Add) (Td λi j=>.int (i+j)):=CY λ_ _ _ _ _ _ _ q=>add_int q
theorem iJ:mU X (RL .Sub) (Td λi j=>.int (i-j)):=CY λ_ _ _ _ _ _ _ q=>sub_int q
theorem M4:mU X (RL .Mult) (rI Wh λi j=>.int (i*j)):=CW λ_ _ _ _ _ _ _ hc q=>mul_int q hc.ok
theorem jE:mU X (RL .Mod) (rI (λ_ j=>0<j) λi j=>.int (i%j)):=CW λi j _ _ _ _ _ hc q=>by
 have h1:(0:Int)<j:=hc;exact mod_int' (by omega) (by rw [OR i (by omega)];exact q)
theorem Ro:mU X (RL .Pow) (rI M6 λi j=>.int (i^j.toNat)):=CW λ_ _ _ _ _ _ _ hc q=>pow_int_small hc.1 hc.2.1 hc.2.2 q
theorem IE {f:Value->Sem Value} {g:Int->Int}
  (rule:∀(i:Int) (t:Tok) (s:Shared) (Q:Value->Shared->Prop) (E:Value->Shared->Prop),Q (.int (g i) s.toks) { s with toks:=s.toks+1 }->QL (QV X.prog X.w) X.A (f (.int i t)) Q E s) :
  DN X f (rU λi=>.int (g i)):=by
 intro pins s σ H x v Q I rx h;obtain ⟨i,rfl,q⟩:=h;obtain ⟨t,rfl⟩:=rx;exact rule i t s _ _ ⟨.int (g i),H,I.tok _,⟨_,rfl⟩,q⟩
theorem P6:DN X (unaryOp .USub) (rU λi=>.int (-i)):=IE λ_ _ _ _ _ q=>neg_int q
end
section
variable {X:Cx} {a b c:Expr} {ta tb tc:TE} {pos:Pos}
theorem tR {pins:List (QF×Obj)} {σ:St} {H:Hp} {s:Shared} {Q:VK} {k k':Bool} (I:aY X pins σ H s) (q:Q (.bl k) H) (e:k=k'):EP X pins σ Q (.bool k') s:=by
 subst e;exact ⟨.bl k,H,I,rfl,q⟩
theorem iF:mU X (RG .Lt) (Td λi j=>.bl (decide (i<j))):=Xv λ_ _ _ _ _ _ _ q=>lt_int q
theorem F9:mU X (RG .LtE) (Td λi j=>.bl (decide (i<=j))):=Xv λ_ _ _ _ _ _ _ q=>le_int q
theorem Cb:mU X (RG .Gt) (Td λi j=>.bl (decide (j<i))):=Xv λ_ _ _ _ _ _ _ q=>gt_int q
theorem Oi:mU X (RG .GtE) (Td λi j=>.bl (decide (j<=i))):=Xv λ_ _ _ _ _ _ _ q=>ge_int q
theorem Md:mU X (RG .In) (λx y H Q=>∃i j,x = .str i/\y = .str j/\Q (.bl (!(Builtin.Str.occurrences j i 0 j.length 1).isEmpty)) H):=by
 intro pins s σ H x y v u Q I rx ry h;obtain ⟨i,j,rfl,rfl,q⟩:=h;obtain ⟨t,rfl⟩:=rx;obtain ⟨t',rfl⟩:=ry;exact in_str (tR I q rfl)
theorem P9:mU X (RG .Is) (λx y H Q=>y = .non/\Q (.bl (decide (x = .non))) H):=by
 intro pins s σ H x y v u Q I rx ry h;obtain ⟨rfl,q⟩:=h;cases ry;refine is_none_gen (tR I q ?_);cases x<;>first
  | (cases rx;rfl)
  | (obtain ⟨t,rfl⟩:=rx;rfl)
theorem Yd:mU X (RG .IsNot) (λx y H Q=>y = .non/\Q (.bl (!decide (x = .non))) H):=by
 intro pins s σ H x y v u Q I rx ry h;obtain ⟨rfl,q⟩:=h;cases ry;refine isnot_none_gen (tR I q ?_);cases x<;>first
  | (cases rx;rfl)
  | (obtain ⟨t,rfl⟩:=rx;rfl)
theorem bE (b:Expr) {op:CmpOp} (h:op≠.In:=by decide) (h2:op≠.NotIn:=by decide):RA op b=false:=by
 have e1:(op==CmpOp.In)=false:=by cases op<;>first | rfl | exact absurd rfl h
 have e2:(op==CmpOp.NotIn)=false:=by cases op<;>first | rfl | exact absurd rfl h2
 cases b<;>simp [RA,e1,e2]
theorem Vs {op:CmpOp} {r:R2} (ho:mU X (RG op) r) (ha:PE X a ta) (hb:PE X b tb) (hm:RA op b=false):PE X (.Compare a [op] [b] pos) (Ra r ta tb):=by
 intro pins s σ H Q I h;exact wpAny_Compare1 (P4 ha hb I h λv u s2 x y H2 I2 rx ry q=>ho pins s2 σ H2 x y v u Q I2 rx ry q) hm
def C4 (t:TE):TT:=λσ H Q=>t σ H λx H'=>∃k,x = .bl k/\Q k H'
theorem Yc {op:CmpOp} {r:R2} (ho:mU X (RG op) r) (ha:PE X a ta) (hb:PE X b tb) (hm:RA op b=false):PT X (.Compare a [op] [b] pos) (C4 (Ra r ta tb)):=by
 intro pins s σ H Q I h;refine wpAny_isTrue_Compare1 (dM (ha pins s σ H _ I h) λv s1 ⟨x,H1,I1,r1,q1⟩=>dM (hb pins s1 σ H1 _ I1 q1) λu s2 ⟨y,H2,I2,r2,q2⟩=>
  dM (ho pins s2 σ H2 x y v u _ I2 r1 r2 q2) λc s3 ⟨z,H3,I3,r3,k,e,q3⟩=>?_) hm
 subst e;cases r3;exact RM ⟨H3,I3,q3⟩
def CA (K:W.Frag) (x:V) (H:Hp) (k:Bool):Prop:=
 match x with
 | .non=>k=false
 | .bl b=>k=b
 | .int i=>k=(i != 0)
 | .str y=>y.length<=QP/\k=((y.length:Int) != 0)
 | .byt y=>y.size<=QP/\k=((y.size:Int) != 0)
 | .ref p=>(∃xs,j4 K H p xs/\k = !xs.isEmpty)\/(∃xs,rR K H p xs/\k = !xs.isEmpty)\/∃TN,H p=some (.dK TN)/\k = !TN.isEmpty
 | _=>False
theorem Ff {κ:Type} {TN:List (κ×V)} {vs:List (κ×Value)} (r:KV TN vs):(!vs.isEmpty) = !TN.isEmpty:=by
 cases r<;>rfl
theorem uM {xs:List V} {TC:List Value} (r:bG xs TC):(!TC.toArray.isEmpty) = !xs.isEmpty:=by
 cases r<;>simp
theorem pM:(QP:Nat)<2^63:=by rw [SU];decide
theorem M5:DX X (λx H Q=>∃k,CA X.K x H k/\Q k H):=by
 intro pins s σ H x v Q I rx h;obtain ⟨k,e,q⟩:=h;have hl:=pM;have hs:QP=16777216:=SU;cases x with
 | non=>
  cases rx;have e':k=false:=e;subst e';exact truthy_none ⟨H,I,q⟩
 | bl b=>
  cases rx;have e':k=b:=e;subst e';exact RM ⟨H,I,q⟩
 | int i=>
  obtain ⟨t,rfl⟩:=rx;have e':k=(i != 0):=e;subst e';exact PySem.P.truthy_int ⟨H,I,q⟩
 | str y=>
  obtain ⟨t,rfl⟩:=rx;obtain ⟨hy,e'⟩:y.length<=QP/\k=((y.length:Int) != 0):=e;subst e';exact PySem.P.truthy_str (by omega) ⟨H,I.tok _,q⟩
 | byt y=>
  obtain ⟨t,rfl⟩:=rx;obtain ⟨hy,e'⟩:y.size<=QP/\k=((y.size:Int) != 0):=e;subst e';exact W.truthy_bytes (by omega) ⟨H,I.tok _,q⟩
 | ref p=>
  cases rx;have e':(∃xs,j4 X.K H p xs/\k = !xs.isEmpty)\/(∃xs,rR X.K H p xs/\k = !xs.isEmpty)\/∃TN,H p=some (.dK TN)/\k = !TN.isEmpty:=e;rcases e' with ⟨xs,hx,e'⟩ | ⟨xs,hx,e'⟩ | ⟨TN,hx,e'⟩
  ·subst e';obtain ⟨TC,r,pl,hz⟩:=I.list hx;have hlen:=r.length;exact wpAny_truthy_list pl.isList (by simp only [JI];omega) ⟨H,I.tok _,by rw [uM r];exact q⟩
  ·subst e';obtain ⟨TC,r,pl,hz⟩:=I.tuple hx;have hlen:=r.length;exact truthy_tuple pl (by simp only [JI];omega) ⟨H,I.tok _,by rw [uM r];exact q⟩
  ·subst e';obtain ⟨hz,hS,vs,r,m⟩:TN.length<=QP/\(p==RO)=false/\∃vs,KV TN vs/\s.heap.DictOf (eV X.prog X.w) p vs:=I.hok p _ hx;have hlen:TN.length=vs.length:=Paired.length r;exact wpAny_truthy_dict hS m (by omega) ⟨H,I.tok _,by rw [Ff r];exact q⟩
 | _=>exact (show False from e).elim
theorem Qp (ha:PE X a ta) (he:∀whole,isTrue a X.env whole=(do let v <-whole;standAt a.pos;RT [v] (truthy v))) :
  PT X a (λσ H Q=>ta σ H λx H'=>∃k,CA X.K x H' k/\Q k H'):=by
 intro pins s σ H Q I h;exact isTrue_plain (dM (ha pins s σ H _ I h) λv s1 ⟨x,H1,I1,r1,q1⟩=>M5 pins s1 σ H1 x v Q I1 r1 q1) (he _)
theorem oR {x:V} {us:List Value} (r:bG [x] us):∃u,us=[u]/\bP x u:=by
 cases r with
 | cons r1 r2=>cases r2;exact ⟨_,rfl,r1⟩
end
structure fD (k:Nat) (A:Around):Prop where
 hd:A.handled=none
 dp:A.depth+3*k+5<recursionLimit
 un:A.units+16*k+200<SO
 gd:A.guards=some []
theorem fD.mono {j k:Nat} {A:Around} (r:fD k A) (h:j<=k):fD j A:=⟨r.hd,by have:=r.dp;omega,by have:=r.un;omega,r.gd⟩
theorem fD.deeper {k:Nat} {A:Around} (r:fD (k+1) A) (env:Env):fD k (A.deeper env):=
 ⟨r.hd,by have:=r.dp;show A.depth+1+3*k+5<_;omega,by have:=r.un;show A.units+3+16*k+200<_;omega,r.gd⟩
theorem fD.depth {k:Nat} {A:Around} (r:fD k A):A.depth<recursionLimit:=by have:=r.dp;omega
theorem fD.units {k:Nat} {A:Around} (r:fD k A):A.units+64<SO:=by have:=r.un;omega
def Y6:TA:=λ_ H Q=>Q [] H
def Pq (ta:TE) (tr:TA):TA:=λσ H Q=>ta σ H λx H1=>tr σ H1 λxs H2=>Q (x::xs) H2
section
variable {X:Cx} {e:Expr} {es:List Expr} {te:TE} {t:TA} {pos:Pos}
theorem N8:PA X [] Y6:=λ_ _ _ _ H Q I h=>Calls.spliced_nil ⟨[],H,I,.nil,h⟩
theorem Xe (ha:PE X e te) (hr:PA X es t) (hs:QY (e::es) X.env=(false,RB e X.env)::QY es X.env:=by rfl):PA X (e::es) (Pq te t):=by
 intro pos pins s σ H Q I h;rw [hs];show QL _ _ (spliced ((false,RB e X.env)::SD pos (QY es X.env))) _ _ s;refine Calls.spliced_cons (dM (ha pins s σ H _ I h) λu s1 ⟨x,H1,I1,r1,q1⟩=>?_);exact dM (hr pos pins s1 σ H1 _ I1 q1) λus s2 ⟨xs,H2,I2,r2,q2⟩=>⟨x::xs,H2,I2,.cons r1 r2,q2⟩
def V6 (t:TA):TE:=λσ H Q=>t σ H λxs H1=>xs.length<=QP/\∀p,H1 p=none->Q (.ref p) (upd H1 p (.tup xs))
def Y4 (t:TA):TE:=λσ H Q=>t σ H λxs H1=>xs.length<=QP/\∀p,H1 p=none->Q (.ref p) (upd H1 p (.lst xs))
theorem M8 {x1} (h:PA X es t):PE X (.Tuple es x1 pos) (V6 t):=by
 intro pins s σ H Q I hq;refine wpAny_Tuple_spliced (dM (h pos pins s σ H _ I hq) λus s1 ⟨xs,H1,I1,r,z,q⟩=>⟨by rw [<-r.length];exact z,?_⟩);have hf:H1 s1.heap.objs.size=none:=I1.hok.fresh (IW _);refine ⟨.ref s1.heap.objs.size,upd H1 s1.heap.objs.size (.tup xs),I1.laid (t':=s1.toks) (λb u e=>IX _ e) (IW _) ?_,rfl,q _ hf⟩;exact ⟨z,us,r,⟨_,JL _ rfl,rfl,_,rfl⟩⟩
theorem J6 (h:PA X es t):PE X (.List es pos) (Y4 t):=by
 intro pins s σ H Q I hq;refine wpAny_List_spliced (dM (h pos pins s σ H _ I hq) λus s1 ⟨xs,H1,I1,r,z,q⟩=>⟨by rw [<-r.length];exact z,?_⟩);have hf:H1 s1.heap.objs.size=none:=I1.hok.fresh (IW _);refine ⟨.ref s1.heap.objs.size,upd H1 s1.heap.objs.size (.lst xs),I1.laid (t':=s1.toks) (λb u e=>IX _ e) (IW _) ?_,rfl,q _ hf⟩;exact ⟨z,us,0,r,JL _ rfl⟩
end
abbrev Sp:=List V->Hp->VK->XK->Prop
abbrev Az:=List Env->Hp->Shared->XK->Value->Shared->Prop
structure We (P:QJ) (w:QM) (K:W.Frag) (mg:Str->Option Value) (base:Heap) (A:Around) (outer:List Env) (s:Shared) (H:Hp):Prop where
 frames:A.frames=some outer
 mod:Mod K mg base
 bs:∀b o,base.get? b=some o->s.heap.get? b=some o/\H b=none
 bsz:base.objs.size<=s.heap.objs.size
 funs:s.heap.FunFrames base outer
 frf:∀b∈Jp outer,H b=none
 hok:nX P w H s.heap
 bare:SH s.gens
def CE (outer:List Env) (P:QJ) (w:QM) (H:Hp) (s:Shared) (Q:VK) (u:Value) (s':Shared):Prop:=
 ∃v H',s'.os=s.os/\SH s'.gens/\Un (Jp outer) [] H H' s.heap s'.heap/\nX P w H' s'.heap/\bP v u/\Q v H'
def CR (CX:Az) (outer:List Env) (P:QJ) (w:QM) (H:Hp) (s:Shared) (Q:VK) (E:XK) (r:Result) (s':Shared):Prop:=
 match r with
 | .ok (.ret u)=>CE outer P w H s Q u s'
 | .ok _=>False
 | .error e=>CX outer H s E e s'
structure bJ (P:QJ) (w:QM) (K:W.Frag) (mg:Str->Option Value) (base:Heap) (CX:Az) (k:Nat) (f:QF) (fd:QK) (ps:List Str) (sp:Sp):Prop where
 len:∀vs H Q E,sp vs H Q E->vs.length=ps.length
 run:∀(A:Around) (outer:List Env) (s:Shared) (H:Hp) (args:Args) (us:List Value) (vs:List V) (Q:VK) (E:XK),fD k A->We P w K mg base A outer s H->BindsTo s fd args (ps.zip us)->bG vs us->sp vs H Q E->
  codeAny (QV P w) A (.call (.ref f) args) (CR CX outer P w H s Q E) s
theorem bJ.imp {P:QJ} {w:QM} {K:W.Frag} {mg:Str->Option Value} {base:Heap} {CX:Az} {k:Nat} {f:QF} {fd:QK} {ps:List Str} {sp xt:Sp} (F:bJ P w K mg base CX k f fd ps sp)
  (h:∀vs H Q E,xt vs H Q E->sp vs H Q E):bJ P w K mg base CX k f fd ps xt:=
 ⟨λvs H Q E q=>F.len vs H Q E (h _ _ _ _ q),λA outer s H args us vs Q E hr he hb hv hs=>F.run A outer s H args us vs Q E hr he hb hv (h _ _ _ _ hs)⟩
section
variable {X:Cx} {pins:List (QF×Obj)} {σ:St} {H:Hp} {s s':Shared}
theorem aY.env0 (I:aY X pins σ H s):We X.prog X.w X.K X.mg X.base X.A X.stack s H:=
 ⟨I.ok.frames,I.ok.mod,I.bs,KS I.ok.bsz I.sz,I.stack,I.stkFree,I.hok,I.bare⟩
theorem aY.after {Q:VK} {u:Value} (I:aY X pins σ H s) (h:CE X.stack X.prog X.w H s Q u s'):EP X pins σ Q u s':=by
 obtain ⟨v,H',os,bare,un,hok,r,q⟩:=h;obtain ⟨hh,g,d,t,os'⟩:=s';obtain rfl:os'=s.os:=os;exact ⟨v,H',I.call (h':=hh) (g':=g) (d':=d) (t':=t) (ch:=[]) un hok bare (λb z=>absurd z (by simp)),r,q⟩
end
def Cr (sp:Sp) (bg:List V) (E:XK) (t:TA):TE:=λσ H Q=>t σ H λvs H1=>sp (vs++bg) H1 Q E
def kH (K:W.Frag) (fd:QK) (ps:List Str) (ds:List Value):Prop:=
 ∀(s:Shared) (us:List Value),K.In s.heap->(us++ds).length=ps.length->BindsTo s fd ⟨us,[]⟩ (ps.zip (us++ds))
theorem kH.all {K:W.Frag} {fd:QK} {ps:List Str} (h:∀us:List Value,us.length=ps.length->bindArgs fd ⟨us,[]⟩=pure (ps.zip us)):kH K fd ps []:=λs us _ hl=>by
 rw [JS] at hl ⊢;exact .of_eq (h us hl)
def Dn (CX:Az) (X:Cx) (E:XK):Prop:=∀(pins:List (QF×Obj)) (σ:St) (H:Hp) (s:Shared) (e:Value) (s':Shared),aY X pins σ H s->CX X.stack H s E e s'->X.xe e s'
section
variable {X:Cx} {CX:Az} {k:Nat} {f C:QF} {fd:QK} {ps:List Str} {sp:Sp} {bg:List V} {ds:List Value} {E:XK} {x m:Str} {p pos apos:Pos} {e o:Expr} {es:List Expr} {ta:TE} {t:TA}
theorem N6 {pins:List (QF×Obj)} {σ:St} {H:Hp} {s:Shared} {Q:VK} {us:List Value} {vs:List V} (F:bJ X.prog X.w X.K X.mg X.base CX k f fd ps sp) (hr:fD k X.A) (hb:kH X.K fd ps ds) (hd:bG bg ds) (hx:Dn CX X E)
  (I:aY X pins σ H s) (r:bG vs us) (h:sp (vs++bg) H Q E):QL (QV X.prog X.w) X.A (call (.ref f) us) (EP X pins σ Q) X.xe s:=by
 have r2:bG (vs++bg) (us++ds):=r.append hd;have hl:(us++ds).length=ps.length:=by rw [<-r2.length];exact F.len _ _ _ _ h
 refine wpAny_call (codeAny_mono (F.run X.A X.stack s H ⟨us,[]⟩ (us++ds) (vs++bg) Q E hr I.env0 (hb s us I.kIn hl) r2 h) λr s' hq=>?_);cases r with
 | error e=>exact hx pins σ H s e s' I hq
 | ok fl=>
  cases fl with
  | ret u=>exact I.after hq
  | next=>exact False.elim hq
  | brk=>exact False.elim hq
  | cont=>exact False.elim hq
theorem Wv (F:bJ X.prog X.w X.K X.mg X.base CX k f fd ps sp) (hr:fD k X.A) (hg:Gl X x) (hm:X.mg x=some (.ref f)) (hk:W.keepIn X.K (.ref f)=true) (hb:kH X.K fd ps ds) (hd:bG bg ds) (hx:Dn CX X E)
  (ha:PA X (e::es) t) (WM:(x==("__debug__":Str))=false:=by decide) (he:QY (e::es) X.env=(false,RB e X.env)::QY es X.env:=by rfl) (bh:(SD pos (QY es X.env)).any (·.1)=false:=by rfl) :
  PE X (.Call (.Name x p) (e::es) [] pos) (Cr sp bg E t):=by
 intro pins s σ H Q I h;refine SW (Gz I hg hm ?_ WM);refine PySem.W.callWith_K (h₀:=X.base) I.ok.mod.kin hk (dM (ha pos pins s σ H _ I h) λus s1 ⟨vs,H1,I1,r,q⟩=>⟨I1.kIn,?_⟩) he bh;exact N6 F hr hb hd hx I1 r q
end
structure aO (N P:List Str) (sc:RF):Prop where
 kind:sc.kind = .function
 co:sc.isCoroutine=false
 gen:sc.isGenerator=false
 nd:N.Nodup
 pre:N.take P.length=P
 par:∀x∈P,sc.names.lookup x=some .local\/sc.names.lookup x=some .cell
 nofree:∀y∈sc.names,y.2≠.free
theorem wR {kindOf:Str->Option NameKind} {x:Str}:∀{binds:List (Str×Value)} {m:Str->Option Value},(∀v,(x,v)∉binds)->bindL kindOf binds m x=m x
 | [],_,_=>rfl
 | (n,v)::r,m,h=>by
  unfold bindL;rw [wR λw hw=>h w (JR _ hw)]
  split
  ·have:x≠n:=by rintro rfl;exact h v MC
   simp [this]
  ·rfl
theorem wZ {kindOf:Str->Option NameKind} {x:Str}:∀{binds:List (Str×Value)} {m:Str->Option Value},(∀v,(x,v)∉binds)->bindC kindOf binds m x=m x
 | [],_,_=>rfl
 | (n,v)::r,m,h=>by
  unfold bindC;rw [wZ λw hw=>h w (JR _ hw)]
  split
  ·rfl
  ·have:x≠n:=by rintro rfl;exact h v MC
   simp [this]
theorem vT {kindOf:Str->Option NameKind} {x:Str} {v:Value}:∀{P:List Str} {vs:List Value} {i:Nat} {m:Str->Option Value},P.Nodup->P[i]? = some x->vs[i]? = some v->kindOf x=some .local->
  bindL kindOf (P.zip vs) m x=some v
 | [],_,_,_,_,h,_,_=>by simp at h
 | _::_,[],_,_,_,_,h,_=>by simp at h
 | p::P,w::vs,0,m,nd,h1,h2,hk=>by
  simp at h1 h2;subst h1;subst h2;show bindL kindOf ((p,w)::P.zip vs) m p=_;unfold bindL;rw [wR λv hv=>(ML.mp nd).1 (NB hv).1,if_pos hk];simp
 | p::P,w::vs,i+1,m,nd,h1,h2,hk=>by
  show bindL kindOf ((p,w)::P.zip vs) m x=_;unfold bindL;exact vT (i:=i) (ML.mp nd).2 (by simpa using h1) (by simpa using h2) hk
theorem wO {kindOf:Str->Option NameKind} {x:Str} {v:Value}:∀{P:List Str} {vs:List Value} {i:Nat} {m:Str->Option Value},P.Nodup->P[i]? = some x->vs[i]? = some v->kindOf x≠some .local->
  bindC kindOf (P.zip vs) m x=some v
 | [],_,_,_,_,h,_,_=>by simp at h
 | _::_,[],_,_,_,_,h,_=>by simp at h
 | p::P,w::vs,0,m,nd,h1,h2,hk=>by
  simp at h1 h2;subst h1;subst h2;show bindC kindOf ((p,w)::P.zip vs) m p=_;unfold bindC;rw [wZ λv hv=>(ML.mp nd).1 (NB hv).1,if_neg hk];simp
 | p::P,w::vs,i+1,m,nd,h1,h2,hk=>by
  show bindC kindOf ((p,w)::P.zip vs) m x=_;unfold bindC;exact wO (i:=i) (ML.mp nd).2 (by simpa using h1) (by simpa using h2) hk
def mD (N:List Str) (vs:List V):St:=vs.map some++KD (N.length-vs.length) none
def Ar (CX:Az) (P:QJ) (w:QM) (K:W.Frag) (mg:Str->Option Value) (base:Heap) (N:List Str) (qual:Str) (scope:RF) (f:QF) (cd:Value) (A:Around) (outer:List Env) (s:Shared) (H:Hp) (E:XK):Cx where
 prog:=P
 w:=w
 K:=K
 mg:=mg
 base:=base
 A:=A.deeper (SK qual scope s.heap.objs.size f cd)
 N:=N
 s₀:=s
 H₀:=H
 env:=SK qual scope s.heap.objs.size f cd
 outer:=outer
 stack:=SK qual scope s.heap.objs.size f cd::outer
 ex:=[]
 calm:=true
 fn:=λ_=>true
 pn:=[]
 xe:=λe s'=>QL (QV P w) (A.deeper (SK qual scope s.heap.objs.size f cd)) (leaving (SK qual scope s.heap.objs.size f cd) e) (λ_ ZP=>CX outer H s E e ZP) (λe' ZP=>CX outer H s E e' ZP) s'
theorem Ba {sc:RF} {n:Nat} {x:Str} (h:sc.names.lookup x=some .cell):∃c,(cellsFrom n sc.names []).lookup x=some c:=by
 have q:=W.cellsFrom_some sc.names n [] (.inl h);exact Option.isSome_iff_exists.mp q
theorem Mj {CX:Az} {P:QJ} {w:QM} {K:W.Frag} {mg:Str->Option Value} {base:Heap} {N ps:List Str} {qual:Str} {scope:RF} {f:QF} {cd:Value} {A:Around} {outer:List Env} {s s1:Shared} {H:Hp} {E:XK} {us:List Value} {vs:List V}
  (S:aO N ps scope) (hd:A.handled=none) (e0:We P w K mg base A outer s H) (hl:vs.length=ps.length) (r:bG vs us)
  (x:InCallC s s.heap.objs.size (bindL (SK qual scope s.heap.objs.size f cd).kindOf (ps.zip us) λ_=>none) (cellsFrom (s.heap.objs.size+1) scope.names []) (bindC (SK qual scope s.heap.objs.size f cd).kindOf (ps.zip us) λ_=>none) s1) :
  aY (Ar CX P w K mg base N qual scope f cd A outer s H E) [] (mD N vs) H s1:=by
 have bh:ps.length<=N.length:=by have:=congrArg OL S.pre;rw [KP] at this;omega
 obtain ⟨h1,tk,rfl,hk⟩:=x.done;have jg:∀b:QF,b∉(Ar CX P w K mg base N qual scope f cd A outer s H E).ex:=λb z=>absurd (show b∈([]:List QF) from z) (by simp);refine ⟨⟨e0.mod,S.kind,rfl,rfl,IW _,λy z c h1 h2=>?_,λy hy=>?_,λy c _ h=>?_,λ_=>hd,Around.frames_deeper e0.frames,.inr ⟨rfl,rfl⟩,λb z=>absurd z (jg b),e0.bs,e0.bsz,λb _ _=>jg b,λb z=>absurd z (jg b),e0.funs,e0.frf⟩,
  rfl,e0.bare,Un.kept hk,⟨_,x.toInCall.ns,λi y v h1 h2 h3=>?_⟩,λy c h=>⟨_,x.cell y c h⟩,e0.hok.fresh (IW _),λy c h=>?_,λp hp=>absurd (show p∈([]:List (QF×Obj)) from hp) (by simp),e0.hok.kept hk,?_⟩
 ·exact name_of_addr x.apart (PySem.mem_of_lookup h1) (PySem.mem_of_lookup h2)
 ·have hy:scope.names.lookup y=some .cell\/scope.names.lookup y=some .free:=hy;rcases hy with hy | hy
  ·exact Ba hy
  ·exact absurd rfl (S.nofree _ (PySem.mem_of_lookup hy))
 ·exact KN (x.above y c (PySem.mem_of_lookup h))
 ·have hi:i<vs.length:=by
   unfold mD at h2
   by_cases hi:i<vs.length
   ·exact hi
   ·rw [KY (by simpa using hi)] at h2;rw [PJ] at h2;split at h2<;>cases h2
  have ha:vs[i]? = some v:=by
   unfold mD at h2;rw [JP (by simpa using hi),JC] at h2;cases e:vs[i]? with
   | none=>rw [e] at h2;cases h2
   | some a=>rw [e] at h2;cases h2;rfl
  obtain ⟨u,hu,rv⟩:=r.get ha;have hp:ps[i]? = some y:=by
   rw [<-S.pre,LF (by omega)];exact h1
  have xu:ps.Nodup:=by rw [<-S.pre];exact S.nd.sublist (List.take_sublist _ _)
  refine ⟨u,rv,?_⟩;rcases S.par y (JA hp) with k | k
  ·exact .inl ⟨k,vT xu hp hu k⟩
  ·obtain ⟨c,e⟩:=Ba (n:=s.heap.objs.size+1) k;refine .inr ⟨.inl k,c,e,?_⟩;have q:=x.cell y c e;rw [wO xu hp hu (by show scope.names.lookup y≠_;rw [k];decide)] at q;exact q
 ·exact e0.hok.fresh (KN (x.above y c (PySem.mem_of_lookup h)))
 ·unfold mD;show _=N.length;rw [IY,IS,NI];omega
theorem BW {CX:Az} {P:QJ} {w:QM} {K:W.Frag} {mg:Str->Option Value} {base:Heap} {k:Nat} {f:QF} {name qual:Str} {params:Arguments} {body:List QU} {scope:RF} {dV kV doc pm TQ ct oc:Value} {an od:Option QF}
  {bo:Array (Option Value)} {N ps:List Str} {sp:Sp} (lk:K.lookup f=some ⟨oc,od,.func (W.fnOf name qual params body scope dV kV doc pm an TQ ct),bo⟩) (XJ:W.codeIn K TQ qual=true) (S:aO N ps scope)
  (len:∀vs H Q E,sp vs H Q E->vs.length=ps.length)
  (XM:∀(A:Around) (outer:List Env) (s:Shared) (H:Hp) (vs:List V) (Q:VK) (E:XK),fD k (A.deeper (SK qual scope s.heap.objs.size f TQ))->sp vs H Q E->
   ∃t,Ha (Ar CX P w K mg base N qual scope f TQ A outer s H E) body t/\t { nx:=λ_ H'=>Q .non H',rt:=Q } (mD N vs) H) :
  bJ P w K mg base CX (k+1) f (W.fnOf name qual params body scope dV kV doc pm an TQ ct) ps sp:=by
 refine ⟨len,λA outer s H args us vs Q E hr e0 hb r XS=>?_⟩;have hl:=len _ _ _ _ XS;have KX:K.In s.heap:=e0.mod.kin.keeps λb o e=>(e0.bs b o e).1;have lim:s.heap.NoLimit:=e0.mod.nolimit.keeps λb o e=>(e0.bs b o e).1;have jh:∀y∈ps.zip us,scope.names.lookup y.1=some .local\/(scope.names.lookup y.1=some .cell/\((cellsFrom (s.heap.objs.size+1) scope.names []).lookup y.1).isSome=true):=λ⟨n,v⟩ hy=>by
  rcases S.par n (NB hy).1 with q | q
  ·exact .inl q
  ·exact .inr ⟨q,W.cellsFrom_some _ _ _ (.inl q)⟩
 refine codeAny_call_function hr.depth (KX _ _ lk) rfl S.co S.gen rfl (W.codeRec_of KX XJ) (hb _ _ _ _ ?_);refine wpAny_newFunctionEnv_cells S.kind jh λenv he s1 x=>?_;subst he;refine ⟨lim.keeps x.toInCall.keep,codeAny_func ?_⟩;obtain ⟨t,ht,hq⟩:=XM A outer s H vs Q E (hr.deeper _) XS;have I:aY (Ar CX P w K mg base N qual scope f TQ A outer s H E) [] (mD N vs) H s1:=Mj S hr.hd e0 hl r x;refine RW (ht [] s1 (mD N vs) H _ I hq) (λfl s' hs=>?_) λe s' hs=>hs;have fin:∀{σ':St} {H':Hp} {v:V} {u:Value},aY (Ar CX P w K mg base N qual scope f TQ A outer s H E) [] σ' H' s'->bP v u->Q v H'->CE outer P w H s Q u s':=
  λ{σ' H' v u} J rv q=>⟨v,H',J.os,J.bare,J.base,J.hok,rv,q⟩
 cases fl with
 | ret u=>
  obtain ⟨v,σ',H',J,rv,q⟩:=hs;exact fin J rv q
 | next=>
  obtain ⟨σ',H',J,q⟩:=hs;exact fin (v:=V.non) (u:=NS) J rfl q
 | brk=>
  obtain ⟨_,_,_,q⟩:=hs;exact False.elim q
 | cont=>
  obtain ⟨_,_,_,q⟩:=hs;exact False.elim q
section
variable {X:Cx} {x:Str} {p pos:Pos} {e:Expr} {es:List Expr} {t:TA} {id T:String} {r:List V->Hp->VK->Prop}
def V4 (r:List V->Hp->VK->Prop) (t:TA):TE:=λσ H Q=>t σ H λvs H1=>r vs H1 Q
theorem Rh (hc:gQ X (.builtin id) r) (hg:Gl X x) (hm:X.mg x=none) (hv:RK x=some (.builtin id)) (ha:PA X (e::es) t) (hn:x≠"__name__":=by decide) (WM:(x==("__debug__":Str))=false:=by decide)
  (he:QY (e::es) X.env=(false,RB e X.env)::QY es X.env:=by rfl) (bh:(SD pos (QY es X.env)).any (·.1)=false:=by rfl):PE X (.Call (.Name x p) (e::es) [] pos) (V4 r t):=by
 intro pins s σ H Q I h;refine SW (qH I hg hm hv ?_ hn WM);exact PyProof.Rows.callWith_builtin1 (dM (ha pos pins s σ H _ I h) λus s1 ⟨vs,H1,I1,r1,q1⟩=>hc pins s1 σ H1 vs us Q I1 r1 q1) he bh
theorem Ni (hc:gQ X (.type T) r) (hg:Gl X x) (hm:X.mg x=none) (hv:RK x=some (.type T)) (ha:PA X (e::es) t) (hn:x≠"__name__":=by decide) (WM:(x==("__debug__":Str))=false:=by decide)
  (he:QY (e::es) X.env=(false,RB e X.env)::QY es X.env:=by rfl) (bh:(SD pos (QY es X.env)).any (·.1)=false:=by rfl):PE X (.Call (.Name x p) (e::es) [] pos) (V4 r t):=by
 intro pins s σ H Q I h;refine SW (qH I hg hm hv ?_ hn WM);exact PyProof.Rows.callWith_type1 (dM (ha pos pins s σ H _ I h) λus s1 ⟨vs,H1,I1,r1,q1⟩=>hc pins s1 σ H1 vs us Q I1 r1 q1) he bh
end
end L2
namespace HT
open PySem PyProof.Rows
section
open PySem.SeqAt
open PySem.AutoSeq1 (wpAny_loadPart')
open PySem.MeetsSeq PySem.MeetsSeq2 PySem.MeetsSeq3
end
section
variable {prog:QJ} {w:QM} {A:Around} {E:Value->Shared->Prop} {s:Shared}
theorem cat_tup {t b:QF} {vs ws:List Value} {Q:Value->Shared->Prop} (ht:IsTup s.heap t vs.toArray) (hb:IsTup s.heap b ws.toArray) (hv:vs≠[])
  (h1:ws=[]->Q (.ref t) s) (h2:ws≠[]->Q (.ref s.heap.objs.size) { s with heap:=s.heap.push { cls:=.type "tuple",data:=.seq (vs++ws).toArray } })
  (YL:vs.length+ws.length<=QP):QL (QV prog w) A (RL .Add (.ref t) (.ref b)) Q E s:=by
 obtain ⟨⟨cls,dd,data,sl⟩,ho,hc,n,hd⟩:=id ht;obtain ⟨⟨aBB,xv,data2,xw⟩,nu,xx,n2,hd2⟩:=id hb;simp only at hc hd xx hd2;subst hc hd xx hd2;have e:vs.toArray++ws.toArray=(vs++ws).toArray:=by simp
 by_cases hw:ws=[]
 ·exact concat_meets ⟨_,ho,rfl⟩ ⟨_,nu,rfl⟩ noFill_tuple_add seq_tuple_add PySem.F.slot_tuple_add PySem.F.entry_tuple_add (PySem.F.args_tuple_add_2 _ _)
   (tuple_addW1 t b vs.toArray ws.toArray n n2 dd xv sl xw (by simpa using hv) (by simp [hw])) ⟨ho,nu,h1 hw⟩
 ·refine concat_meets ⟨_,ho,rfl⟩ ⟨_,nu,rfl⟩ noFill_tuple_add seq_tuple_add PySem.F.slot_tuple_add PySem.F.entry_tuple_add (PySem.F.args_tuple_add_2 _ _)
   (tuple_addW2 t b vs.toArray ws.toArray n n2 dd xv sl xw (by simpa using hv) (by simpa using hw) (by rw [JI,JI];exact YL)) ⟨ho,nu,?_⟩
  rw [e];exact h2 hw
def sIx (n d:Nat):Option Int->Nat
 | none=>d
 | some v=>if v<0 then (v+(n:Int)).toNat else min v.toNat n
theorem sIx_none (n d:Nat):sIx n d none=d:=rfl
theorem sIx_nat (n d k:Nat):sIx n d (some (k:Int))=min k n:=by
 show (if (k:Int)<0 then ((k:Int)+(n:Int)).toNat else min (k:Int).toNat n)=min k n;rw [if_neg (by omega),MP]
theorem P5 (n d:Nat) (hd:d<=n) (o:Option Int):sIx n d o<=n:=by
 cases o with
 | none=>exact hd
 | some v=>
  show (if v<0 then (v+(n:Int)).toNat else min v.toNat n)<=n
  by_cases hv:v<0
  ·rw [if_pos hv];omega
  ·rw [if_neg hv];exact Nat.min_le_right _ _
theorem Hg (v:Int) (n d:Nat):(if v<0 then max (v+(n:Int)) 0 else min v (n:Int))=((sIx n d (some v):Nat):Int):=by
 show (if v<0 then max (v+(n:Int)) 0 else min v (n:Int))=(((if v<0 then (v+(n:Int)).toNat else min v.toNat n):Nat):Int)
 by_cases hv:v<0
 ·simp only [if_pos hv];omega
 ·simp only [if_neg hv];omega
theorem Et (lo hi:Option Int) (n:Nat):Builtin.Slice.sliceAdjust lo hi 1 (n:Int)=(((sIx n 0 lo:Nat):Int),((sIx n n hi:Nat):Int)):=by
 have h1:¬((1:Int)<0):=by omega
 unfold Builtin.Slice.sliceAdjust;simp only [h1,if_false];refine Prod.ext ?_ ?_
 ·cases lo with
  | none=>rfl
  | some v=>exact Hg v n 0
 ·cases hi with
  | none=>rfl
  | some v=>exact Hg v n n
theorem Fm (i j:Nat):Builtin.Slice.slicePlaces (i:Int) (j:Int) 1=j-i:=by
 unfold Builtin.Slice.slicePlaces;have h1:(1:Int)>0:=by omega
 simp only [h1,if_true,Int.ediv_one]
 split<;>omega
theorem uI {v:Value} {o:Option Int} {Q:Option Int->Shared->Prop} (p:IsPart v o) (h:Q o s):QL (QV prog w) A (Builtin.Slice.slicePartIndex v) Q E s:=by
 cases p with
 | none=>exact slicePart_none h
 | int i t=>exact slicePart_int h
theorem qL {sl:QF} {vl vu:Value} {lo hi:Option Int} {n:Nat} {Q:Int×Int×Nat->Shared->Prop} (hs:s.heap.IsSliceOf sl vl vu .none) (pl:IsPart vl lo) (pu:IsPart vu hi)
  (h:Q (((sIx n 0 lo:Nat):Int),1,sIx n n hi-sIx n 0 lo) s):QL (QV prog w) A (Builtin.Slice.sliceApplied (.ref sl) (pure (n:Int))) Q E s:=by
 obtain ⟨os,ji,xy,og⟩:=id hs;unfold Builtin.Slice.sliceApplied Builtin.Slice.sliceFields;refine QH (QH (RC ji og (x:=vl) rfl (QH (RC ji og (x:=vu) rfl (QH (RC ji og (x:=.none) rfl (QN ?_)))))));refine QH (slicePart_none ?_);show QL _ _ (if ((1:Int)==0)=true then _ else _) _ _ s;rw [if_neg (by decide)];refine QH (uI pl (QH (uI pu (QH (QN ?_)))));show QL _ _ (match Builtin.Slice.sliceAdjust lo hi 1 (n:Int) with | (lo,hi)=>pure (lo,(1:Int),Builtin.Slice.slicePlaces lo hi 1)) _ _ s;rw [Et lo hi n];show QL _ _ (pure (((sIx n 0 lo:Nat):Int),(1:Int),Builtin.Slice.slicePlaces ((sIx n 0 lo:Nat):Int) ((sIx n n hi:Nat):Int) 1)) _ _ s;rw [Fm];exact QN h
theorem Tq (xs:Array Value) (i k:Nat):((LA k).filterMap λ(m:Nat)=>xs[((i:Int)+(m:Int)*1).toNat]?).toArray=((xs.toList.drop i).take k).toArray:=by
 have e:(λ(m:Nat)=>xs[((i:Int)+(m:Int)*1).toNat]?)=λm=>xs[i+m]?:=by
  funext m
  have:((i:Int)+(m:Int)*1).toNat=i+m:=by omega
  rw [this]
 rw [e];have:=pick_run xs i k;rw [NC] at this;have e2:((λx=>xs[x]?)∘λx=>i+x)=λm=>xs[i+m]?:=rfl;rw [e2] at this;rw [this]
theorem getItem_tuple_cut {t sl:QF} {items:Array Value} {vl vu:Value} {lo hi:Option Int} {Q:Value->Shared->Prop} (ht:IsTup s.heap t items) (hs:s.heap.IsSliceOf sl vl vu .none) (pl:IsPart vl lo) (pu:IsPart vu hi)
  (hw:¬(sIx items.size 0 lo=0/\sIx items.size items.size hi=items.size))
  (h:Q (.ref s.heap.objs.size) { s with heap:=s.heap.push { cls:=.type "tuple",data:=.seq ((items.toList.drop (sIx items.size 0 lo)).take (sIx items.size items.size hi-sIx items.size 0 lo)).toArray } })
  (YL:items.size<=QP):QL (QV prog w) A (SS (.ref t) (.ref sl)) Q E s:=by
 have YE:sizeOk (.seq ((items.toList.drop (sIx items.size 0 lo)).take (sIx items.size items.size hi-sIx items.size 0 lo)).toArray):=by
  show ((items.toList.drop (sIx items.size 0 lo)).take (sIx items.size items.size hi-sIx items.size 0 lo)).toArray.size<=QP;rw [JI,KP,MS,MY];omega
 have hj:sIx items.size items.size hi<=items.size:=P5 _ _ (IW _) hi;obtain ⟨os,ji,xy,og⟩:=id hs;have hTs:s.TypeIs (.ref sl) "slice":=⟨os,ji,xy⟩;unfold SS
 try with_reducible refine SF ?_
 first | refine QH (QN ?_) | skip
 refine QH (wpAny_sequenceKey ht.typeIs (by decide) ?_);refine QH (wpAny_callSpecial?_slot (name:=NJ "__getitem__") ht.typeIs PyProof.Rows.slot_tuple_getitem
  (SA PyProof.Rows.slot_tuple_getitem ht.typeIs entry_tuple_getitem ?_ (args_tuple_getitem _ _)))
 show QL _ _ (Builtin.Tuple.tupleItemsOf (.ref t) >>= _) _ _ s;refine QH (tupleItemsOf_ ht ?_);refine QH (wpAny_typeOf hTs ?_);rw [if_pos (by decide)];refine QH (qL hs pl pu ?_);have WE:¬((((sIx items.size 0 lo:Nat):Int)==0&&(1:Int)==1&&(sIx items.size items.size hi-sIx items.size 0 lo)==items.size)=true):=by
  intro q;rw [JY,JY] at q;have q1:((sIx items.size 0 lo:Nat):Int)=0:=eq_of_beq q.1.1;have q2:sIx items.size items.size hi-sIx items.size 0 lo=items.size:=eq_of_beq q.2;exact hw ⟨by omega,by omega⟩
 show QL _ _ (if (((sIx items.size 0 lo:Nat):Int)==0&&(1:Int)==1&&(sIx items.size items.size hi-sIx items.size 0 lo)==items.size)=true then _ else _) _ _ s;rw [if_neg WE,Tq]
 first
  | exact QH (m:=Builtin.Tuple.tupleExact _) (RD (QN ⟨_,rfl,QN h⟩) YE)
  | exact QH (m:=Builtin.Tuple.tupleExact _) (RD (QH (QN (QN ⟨_,rfl,QN h⟩))) YE)
  | exact QH (QH (m:=Builtin.Tuple.tupleExact _) (RD (QN (QN ⟨_,rfl,QN h⟩)) YE))
  | exact QH (QH (m:=Builtin.Tuple.tupleExact _) (RD (QN ⟨_,rfl,QN h⟩) YE))
end
end HT
namespace L2
open PySem PySem.Spec PyProof.Rows
abbrev TO:=St->Hp->(Option Int->Hp->Prop)->Prop
def PO (X:Cx) (e:Option Expr) (t:TO):Prop:=
 ∀(pins:List (QF×Obj)) (s:Shared) (σ:St) (H:Hp) (Q:Option Int->Hp->Prop),aY X pins σ H s->t σ H Q->
  QL (QV X.prog X.w) X.A (evalPart e X.env) (λu s'=>∃o H',aY X pins σ H' s'/\IsPart u o/\Q o H') X.xe s
def Hq:TO:=λ_ H Q=>Q none H
def E8 (t:TE):TO:=λσ H Q=>t σ H λx H1=>∃i,x = .int i/\Q (some i) H1
section
variable {X:Cx} {e:Expr} {te:TE} {lo hi:Option Expr} {tl th:TO} {pos p2:Pos}
theorem Wq:PO X none Hq:=by
 intro pins s σ H Q I h;rw [evalPart_none];exact QN ⟨none,H,I,.none,h⟩
theorem Xm (h:PE X e te):PO X (some e) (E8 te):=by
 intro pins s σ H Q I hw;rw [evalPart_some];refine dM (h pins s σ H _ I hw) λu s1 ⟨x,H1,I1,r1,q1⟩=>?_;obtain ⟨i,rfl,q⟩:=q1;obtain ⟨t,rfl⟩:=r1;exact ⟨some i,H1,I1,.int i t,q⟩
def V7 (X:Cx) (r:V->Option Int->Option Int->Hp->VK->Prop):Prop:=
 ∀(pins:List (QF×Obj)) (s:Shared) (σ:St) (H:Hp) (x:V) (v vl vu:Value) (lo hi:Option Int) (sl:QF) (Q:VK),aY X pins σ H s->bP x v->s.heap.IsSliceOf sl vl vu .none->IsPart vl lo->IsPart vu hi->r x lo hi H Q->
  ∃T id,typeLookup (.type T) "__getitem__" = pure (some (.builtin id))/\s.TypeIs v T/\QL (QV X.prog X.w) X.A (SS v (.ref sl)) (EP X pins σ Q) X.xe s
def GW (r:V->Option Int->Option Int->Hp->VK->Prop) (te:TE) (tl th:TO):TE:=λσ H Q=>te σ H λx H1=>tl σ H1 λl H2=>th σ H2 λu H3=>r x l u H3 Q
theorem Qs {r:V->Option Int->Option Int->Hp->VK->Prop} (hr:V7 X r) (he:PE X e te) (hl:PO X lo tl) (hu:PO X hi th):PE X (.Subscript e (.Slice lo hi none p2) pos) (GW r te tl th):=by
 intro pins s σ H Q I h;refine Subscript_ (dM (he pins s σ H _ I h) λv s1 ⟨x,H1,I1,r1,q1⟩=>?_);refine wpAny_Slice (dM (hl pins s1 σ H1 _ I1 q1) λvl s2 ⟨l,H2,I2,pl,q2⟩=>dM (hu pins s2 σ H2 _ I2 q2) λvu s3 ⟨u,H3,I3,pu,q3⟩=>?_);rw [evalPart_none];refine QN ?_;have I4:aY X pins σ H3 { s3 with heap:=s3.heap.push { cls:=.type "slice",data:=.fields #[vl,vu,.none] } }:=I3.kept (t':=s3.toks) λb ob q=>IX _ q;obtain ⟨T,id,hT,ht,hg⟩:=hr pins { s3 with heap:=s3.heap.push { cls:=.type "slice",data:=.fields #[vl,vu,.none] } } σ H3 x v vl vu l u s3.heap.objs.size Q I4 r1 (Heap.IsSliceOf.new ..) pl pu q3;show QL (QV X.prog X.w) X.A (subscriptTail e (.Slice lo hi none p2) v (.ref s3.heap.objs.size)) (EP X pins σ Q) X.xe { s3 with heap:=s3.heap.push { cls:=.type "slice",data:=.fields #[vl,vu,.none] } };exact tail_any (ops:=[.ref s3.heap.objs.size,v]) ht hT hg (by with_unfolding_all rfl)
def Cz (xs:List V) (lo hi:Option Int):List V:=(xs.drop (HT.sIx xs.length 0 lo)).take (HT.sIx xs.length xs.length hi-HT.sIx xs.length 0 lo)
theorem qX (xs:List V) (lo hi:Option Int):(Cz xs lo hi).length<=xs.length:=by
 unfold Cz;rw [KP,MS];omega
def EJ (K:W.Frag):V->Option Int->Option Int->Hp->VK->Prop:=λx lo hi H Q=>∃a xs,x = .ref a/\rR K H a xs/\
 ¬(HT.sIx xs.length 0 lo=0/\HT.sIx xs.length xs.length hi=xs.length)/\∀p,H p=none->Q (.ref p) (upd H p (.tup (Cz xs lo hi)))
theorem R8:V7 X (EJ X.K):=by
 intro pins s σ H x v vl vu lo hi sl Q I rx hs pl pu h;obtain ⟨a,xs,rfl,hx,hw,q⟩:=h;cases rx;obtain ⟨TC,r,ht,hz⟩:=I.tuple hx;have hlen:TC.toArray.size=xs.length:=by rw [JI];exact r.length.symm
 refine ⟨"tuple",_,PyProof.Rows.slot_tuple_getitem.lookup,ht.typeIs,?_⟩;refine HT.getItem_tuple_cut ht hs pl pu (by rw [hlen];exact hw) ?_ (by rw [hlen];exact hz);rw [hlen];refine ⟨.ref s.heap.objs.size,_,I.laid (t':=s.toks) (o:=.tup (Cz xs lo hi)) (λb ob q=>IX _ q) (IW _) ?_,rfl,q _ (I.hok.fresh (IW _))⟩;exact ⟨KS (qX xs lo hi) hz,_,(r.drop (HT.sIx xs.length 0 lo)).take (HT.sIx xs.length xs.length hi-HT.sIx xs.length 0 lo),IsTup.new _ _⟩
def AO (K:W.Frag):R2:=λx y H Q=>∃a b xs ys,x = .ref a/\y = .ref b/\rR K H a xs/\rR K H b ys/\xs≠[]/\xs.length+ys.length<=QP/\
 (ys=[]->Q (.ref a) H)/\(ys≠[]->∀p,H p=none->Q (.ref p) (upd H p (.tup (xs++ys))))
theorem bG.nil_iff {xs:List V} {us:List Value} (r:bG xs us):us=[]↔xs=[]:=by
 cases r with
 | nil=>simp
 | cons _ _=>simp
theorem Vz:mU X (RL .Add) (AO X.K):=by
 intro pins s σ H x y v u Q I rx ry h;obtain ⟨a,b,xs,ys,rfl,rfl,ha,hb,hx,hz,q1,q2⟩:=h;cases rx;cases ry;obtain ⟨TC,r1,p1,_⟩:=I.tuple ha;obtain ⟨XN,r2,p2,_⟩:=I.tuple hb;refine HT.cat_tup p1 p2 (λz=>hx (r1.nil_iff.mp z)) (λz=>⟨.ref a,H,I,rfl,q1 (r2.nil_iff.mp z)⟩) (λz=>?_) (by rw [<-r1.length,<-r2.length];exact hz);refine ⟨.ref s.heap.objs.size,_,I.laid (t':=s.toks) (o:=.tup (xs++ys)) (λb ob q=>IX _ q) (IW _) ?_,rfl,q2 (λw=>z (r2.nil_iff.mpr w)) _ (I.hok.fresh (IW _))⟩;exact ⟨by rw [IY];exact hz,_,r1.append r2,IsTup.new _ _⟩
end
def Iw (n:Nat) (i:Int):Option Nat:=if 0<=i then (if i<n then some i.toNat else none) else if -(n:Int)<=i then some (i+n).toNat else none
def lE {α:Type} (xs:List α) (i:Int):Option α:=(Iw xs.length i).bind λj=>xs[j]?
theorem Jx {n:Nat} {i:Int} {j:Nat} (h:Iw n i=some j):seqIndex? i n=some j/\j<n/\-(n:Int)<=i/\i<n:=by
 unfold Iw at h
 by_cases h0:0<=i
 ·rw [if_pos h0] at h
  by_cases h1:i<n
  ·rw [if_pos h1] at h;have e:i.toNat=j:=Option.some.inj h;exact ⟨by rw [seqIndex_of h0 h1,e],by omega,by omega,h1⟩
  ·rw [if_neg h1] at h;cases h
 ·rw [if_neg h0] at h
  by_cases h1:-(n:Int)<=i
  ·rw [if_pos h1] at h;have e:(i+n).toNat=j:=Option.some.inj h;exact ⟨by rw [seqIndex_neg (by omega) h1,e],by omega,h1,by omega⟩
  ·rw [if_neg h1] at h;cases h
theorem xK {α:Type} {xs:List α} {i:Int} {v:α} (h:lE xs i=some v):∃j,seqIndex? i xs.length=some j/\xs[j]? = some v/\j<xs.length/\-(xs.length:Int)<=i/\i<xs.length:=by
 unfold lE at h;cases e:Iw xs.length i with
 | none=>rw [e] at h;cases h
 | some j=>
  rw [e] at h;obtain ⟨h1,h2,h3,h4⟩:=Jx e;exact ⟨j,h1,h,h2,h3,h4⟩
theorem xG {α:Type} {xs:List α} {j:Nat} {v:α} (h:xs[j]? = some v):lE xs (j:Int)=some v:=by
 have hj:j<xs.length:=(IT.mp h).1;have e:Iw xs.length (j:Int)=some j:=by
  unfold Iw;rw [if_pos (by omega),if_pos (by omega)];simp
 unfold lE;rw [e];exact h
def rS (b:Expr):Prop:=∀o i,TB b false o i=operate [o,i] (SS o i)
def Ve (X:Cx) (r:R2):Prop:=
 ∀(value slice:Expr) (pins:List (QF×Obj)) (s:Shared) (σ:St) (H:Hp) (x y:V) (v u:Value) (Q:VK),aY X pins σ H s->bP x v->bP y u->r x y H Q->
  TB slice false v u=operate [v,u] (SS v u)->QL (QV X.prog X.w) X.A (subscriptTail value slice v u) (EP X pins σ Q) X.xe s
def DE (X:Cx) (id:String) (r:V->List V->Hp->VK->Prop):Prop:=
 ∀(pins:List (QF×Obj)) (s:Shared) (σ:St) (H:Hp) (x:V) (xs:List V) (v:Value) (us:List Value) (Q:VK),aY X pins σ H s->bP x v->bG xs us->r x xs H Q->
  QL (QV X.prog X.w) X.A (call (.builtin id) (v::us)) (EP X pins σ Q) X.xe s
section
variable {X:Cx} {a b:Expr} {ta tb:TE} {pos:Pos}
theorem Ve.or {r r':R2} (h:Ve X r) (h':Ve X r'):Ve X (λx y H Q=>r x y H Q\/r' x y H Q):=by
 intro value slice pins s σ H x y v u Q I rx ry q hs;rcases q with q | q
 ·exact h value slice pins s σ H x y v u Q I rx ry q hs
 ·exact h' value slice pins s σ H x y v u Q I rx ry q hs
theorem Y8 {r:R2} (hr:Ve X r) (ha:PE X a ta) (hb:PE X b tb) (hs:rS b):PE X (.Subscript a b pos) (Ra r ta tb):=by
 intro pins s σ H Q I h;exact Subscript_ (P4 ha hb I h λv u s2 x y H2 I2 rx ry q=>hr a b pins s2 σ H2 x y v u Q I2 rx ry q (hs _ _))
def AR (K:W.Frag):R2:=λx y H Q=>∃p xs i v,x = .ref p/\y = .int i/\j4 K H p xs/\lE xs i=some v/\Q v H
def CK (K:W.Frag):R2:=λx y H Q=>∃p xs i v,x = .ref p/\y = .int i/\rR K H p xs/\lE xs i=some v/\Q v H
def Z8:R2:=λx y H Q=>∃z i c,x = .str z/\y = .int i/\z.length<=QP/\lE z.cps.toList i=some c/\Q (.str ⟨#[c]⟩) H
theorem Yf:Ve X (AR X.K):=by
 intro value slice pins s σ H x y v u Q I rx ry h hs;obtain ⟨p,xs,i,z,rfl,rfl,hq,he,q⟩:=h;cases rx;obtain ⟨t,rfl⟩:=ry;obtain ⟨TC,r,pl,hz⟩:=I.list hq;obtain ⟨j,h1,h2,h3,h4,h5⟩:=xK he;obtain ⟨w,ew,ZN⟩:=r.get h2;have hl:=r.length;have hn:=pM;have fin:EP X pins σ Q w s:=⟨z,H,I,ZN,q⟩
 by_cases h0:0<=i
 ·have hj:i.toNat=j:=by
   rw [seqIndex_of h0 h5] at h1;exact Option.some.inj h1
  exact item_listR pl.isList h0 (by omega) (by rw [hj];simpa using ew) fin hs
 ·have hj:(i+(TC.toArray.size:Int)).toNat=j:=by
   rw [seqIndex_neg (by omega) h4] at h1;rw [JI,<-hl];exact Option.some.inj h1
  exact subscriptTail_builtinR (x:=w) pl.isList.typeIs slot_list_getitem.lookup
   (wpAny_getItem_list_neg (Q:=λr s'=>r=w/\EP X pins σ Q r s') pl.isList (by omega) (by rw [JI]<;>omega) (by omega) (by rw [hj];simpa using ew) ⟨rfl,fin⟩) hs
theorem P7:Ve X (CK X.K):=by
 intro value slice pins s σ H x y v u Q I rx ry h hs;obtain ⟨p,xs,i,z,rfl,rfl,hq,he,q⟩:=h;cases rx;obtain ⟨t,rfl⟩:=ry;obtain ⟨TC,r,pl,hz⟩:=I.tuple hq;obtain ⟨j,h1,h2,h3,h4,h5⟩:=xK he;obtain ⟨w,ew,ZN⟩:=r.get h2;have hl:=r.length;have hn:=pM;have fin:EP X pins σ Q w s:=⟨z,H,I,ZN,q⟩;exact subscriptTail_builtinR (x:=w) pl.typeIs slot_tuple_getitem.lookup
  (getItem_tuple (j:=j) (Q:=λr s'=>r=w/\EP X pins σ Q r s') pl (by omega) (by omega) (by rw [JI,<-hl];exact h1) (by simpa using ew) ⟨rfl,fin⟩) hs
theorem T9:Ve X Z8:=by
 intro value slice pins s σ H x y v u Q I rx ry h hs;obtain ⟨z,i,c,rfl,rfl,hz,he,q⟩:=h;obtain ⟨t,rfl⟩:=rx;obtain ⟨t',rfl⟩:=ry;obtain ⟨j,h1,h2,h3,h4,h5⟩:=xK he;have hl:z.cps.toList.length=z.length:=by simp [Str.length]
 rw [hl] at h1 h4 h5;have hn:=pM;exact tail_any (typeIs_str s z t) slot_str_getitem.lookup (getItem_str (c:=c) (by
  have e1:decide (i < -(2^63:Int))=false:=decide_eq_false (by omega);have e2:decide (i>=2^63)=false:=decide_eq_false (by omega);rw [e1,e2,Bool.or_false]) (by rw [h1];simpa using h2) ⟨.str ⟨#[c]⟩,H,I.tok _,⟨_,rfl⟩,q⟩) hs
def HX (K:W.Frag):R2:=λx y H Q=>AR K x y H Q\/CK K x y H Q\/Z8 x y H Q
theorem Qr:Ve X (HX X.K):=Yf.or (P7.or T9)
theorem El (TC:List Value) (n j:Nat) (u:Value):MA (·.setIfInBounds j u) { cls:=.type "list",data:=.seq TC.toArray n } = { cls:=.type "list",data:=.seq (TC.set j u).toArray n }:=by
 simp [MA]
theorem aY.lst {pins:List (QF×Obj)} {σ:St} {H:Hp} {s:Shared} {p:QF} {xs:List V} (I:aY X pins σ H s) (h:H p=some (.lst xs)) :
  ∃(TC:List Value) (n:Nat),bG xs TC/\s.heap.get? p=some { cls:=.type "list",data:=.seq TC.toArray n }/\xs.length<=QP:=by
 obtain ⟨z,TC,n,r,e⟩:=I.hok p _ h;exact ⟨TC,n,r,e,z⟩
theorem aY.lstUpd {pins:List (QF×Obj)} {σ:St} {H:Hp} {s:Shared} {p:QF} {xs ys:List V} {TC its':List Value} {n n':Nat} {f:Obj->Obj} (I:aY X pins σ H s) (h:H p=some (.lst xs))
  (ho:s.heap.get? p=some { cls:=.type "list",data:=.seq TC.toArray n }) (hf:f { cls:=.type "list",data:=.seq TC.toArray n } = { cls:=.type "list",data:=.seq its'.toArray n' }) (r:bG ys its') (hz:ys.length<=QP) (t:Nat) :
  aY X pins σ (upd H p (.lst ys)) { s with heap:=s.heap.update p f,toks:=t }:=by
 have e:(s.heap.update p f).get? p=some { cls:=.type "list",data:=.seq its'.toArray n' }:=by
  rw [MM f ho (by rw [hf]<;>rfl),hf]
 refine I.write (x:=p) (e:=p) (by rw [h];trivial) (.inl rfl) (λb u hb q=>(PR _ _ (Ne.symm hb)).trans q) ⟨_,e⟩ ?_;exact ⟨hz,its',n',r,e⟩
def X3:V->V->V->Hp->(Hp->Prop)->Prop:=λo i v H Q=>∃p xs k j,o = .ref p/\i = .int k/\H p=some (.lst xs)/\Iw xs.length k=some j/\Q (upd H p (.lst (xs.set j v)))
theorem Sr:J7 X X3:=by
 intro pins s σ H o i v ov iv u Q I ro ri rv h;obtain ⟨p,xs,k,j,rfl,rfl,hp,hj,q⟩:=h;cases ro;obtain ⟨t,rfl⟩:=ri;obtain ⟨TC,n,r,ho,hz⟩:=I.lst hp;obtain ⟨h1,h2,h3,h4⟩:=Jx hj;have hl:=r.length;have hn:=pM;have I':aY X pins σ (upd H p (.lst (xs.set j v))) { s with heap:=s.heap.update p (MA (·.setIfInBounds j u)) }:=
  I.lstUpd hp ho (El TC n j u) (r.set rv j) (by rw [NM];exact hz) s.toks
 by_cases h0:0<=k
 ·have hk:k.toNat=j:=by
   rw [seqIndex_of h0 h4] at h1;exact Option.some.inj h1
  exact W.ki_setAt ho h0 (by omega) (by rw [JI,<-hl];exact h4) (by rw [hk];exact ⟨_,I',q⟩)
 ·have hk:(k+(TC.toArray.size:Int)).toNat=j:=by
   rw [seqIndex_neg (by omega) h3] at h1;rw [JI,<-hl];exact Option.some.inj h1
  exact W.ki_setBack ho (by omega) (by rw [JI,<-hl];exact h3) (by omega) (by rw [hk];exact ⟨_,I',q⟩)
theorem zO (lo hi:Option Int) (n:Nat):(RH lo hi none n).1=((HT.sIx n 0 lo:Nat):Int)/\(RH lo hi none n).2.1=((HT.sIx n n hi:Nat):Int)/\(RH lo hi none n).2.2=1:=by
 refine ⟨?_,?_,rfl⟩
 ·cases lo with
  | none=>simp [RH,HT.sIx]
  | some i=>
   simp only [RH,HT.sIx,Option.getD_none,show (1:Int)>0 by decide,if_true]
   by_cases h:i<0
   ·simp only [h,if_true]<;>omega
   ·simp only [h,if_false]<;>omega
 ·cases hi with
  | none=>simp [RH,HT.sIx]
  | some i=>
   simp only [RH,HT.sIx,Option.getD_none,show (1:Int)>0 by decide,if_true]
   by_cases h:i<0
   ·simp only [h,if_true]<;>omega
   ·simp only [h,if_false]<;>omega
theorem vA (TC:List Value) (lo hi:Option Int):slicePick TC.toArray lo hi none=((TC.drop (HT.sIx TC.length 0 lo)).take (HT.sIx TC.length TC.length hi-HT.sIx TC.length 0 lo)).toArray:=by
 obtain ⟨h1,h2,h3⟩:=zO lo hi TC.toArray.size;unfold slicePick;rw [h1,h2,h3];simp only [sliceRange_one,pick_run,JI]<;>rfl
def EE (K:W.Frag):V->Option Int->Option Int->Hp->VK->Prop:=λx lo hi H Q=>∃a xs,x = .ref a/\j4 K H a xs/\∀p,H p=none->Q (.ref p) (upd H p (.lst (Cz xs lo hi)))
theorem Ww:V7 X (EE X.K):=by
 intro pins s σ H x v vl vu lo hi sl Q I rx hs pl pu h;obtain ⟨a,xs,rfl,hx,q⟩:=h;cases rx;obtain ⟨TC,r,ht,hz⟩:=I.list hx;have hlen:=r.length;refine ⟨"list",_,slot_list_getitem.lookup,ht.isList.typeIs,?_⟩;refine wpAny_getItem_list_slice ht.isList hs pl pu .none (by simp) ?_ (by rw [JI]<;>omega);rw [vA,<-hlen];refine ⟨.ref s.heap.objs.size,_,I.laid (t':=s.toks) (o:=.lst (Cz xs lo hi)) (λb ob q=>IX _ q) (IW _) ?_,rfl,q _ (I.hok.fresh (IW _))⟩;exact ⟨KS (qX xs lo hi) hz,_,0,(r.drop (HT.sIx xs.length 0 lo)).take (HT.sIx xs.length xs.length hi-HT.sIx xs.length 0 lo),JL _ rfl⟩
theorem xV:gQ X (.builtin "len") (λxs H Q=>∃p ys,xs=[.ref p]/\(j4 X.K H p ys\/rR X.K H p ys)/\Q (.int ys.length) H):=by
 intro pins s σ H xs us Q I r h;obtain ⟨p,ys,rfl,hq,q⟩:=h;obtain ⟨u,rfl,rx⟩:=oR r;cases rx;have hn:=pM;rcases hq with hq | hq
 ·obtain ⟨TC,r',pl,hz⟩:=I.list hq;have hlen:=r'.length;exact Calls.call_len_list pl.isList (by simp only [JI]<;>omega) ⟨.int ys.length,H,I.tok _,⟨s.toks+1,by rw [JI,hlen]⟩,q⟩
 ·obtain ⟨TC,r',pl,hz⟩:=I.tuple hq;have hlen:=r'.length;exact len_tuple pl (by simp only [JI]<;>omega) ⟨.int ys.length,H,I.tok _,⟨s.toks+1,by rw [JI,hlen]⟩,q⟩
theorem zD:gQ X (.type "list") (λxs H Q=>∃p ys,xs=[.ref p]/\(j4 X.K H p ys\/rR X.K H p ys)/\∀l,H l=none->Q (.ref l) (upd H l (.lst ys))):=by
 intro pins s σ H xs us Q I r h;obtain ⟨p,ys,rfl,hq,q⟩:=h;obtain ⟨u,rfl,rx⟩:=oR r;cases rx;have fin:∀(TC:List Value),bG ys TC->ys.length<=QP->∀(h':Heap) (c':Nat),(∀b o',s.heap.get? b=some o'->h'.get? b=some o')->
   h'.get? s.heap.objs.size=some { cls:=.type "list",dict:=none,data:=.seq TC.toArray c',slots:=#[] }->EP X pins σ Q (.ref s.heap.objs.size) { s with heap:=h' }:=λTC r' hz h' c' kp e=>
  ⟨.ref s.heap.objs.size,_,I.laid (t':=s.toks) kp (IW _) (show dW X.prog X.w _ h' _ (.lst ys) from ⟨hz,TC,c',r',e⟩),rfl,q _ (I.hok.fresh (IW _))⟩
 rcases hq with hq | hq
 ·obtain ⟨TC,r',pl,hz⟩:=I.list hq;have hlen:=r'.length;obtain ⟨o,ho,hc,n,hd⟩:=pl.isList;exact call_list_seq p (.inl rfl) ho hc hd (λh' c' kp e=>fin TC r' hz h' c' kp e) (by simp only [JI]<;>omega)
 ·obtain ⟨TC,r',pl,hz⟩:=I.tuple hq;have hlen:=r'.length;obtain ⟨o,ho,hc,n,hd⟩:=pl;exact call_list_seq p (.inr rfl) ho hc hd (λh' c' kp e=>fin TC r' hz h' c' kp e) (by simp only [JI]<;>omega)
theorem u9:gQ X (.type "tuple") (λxs H Q=>∃p ys,xs=[.ref p]/\((j4 X.K H p ys/\∀l,H l=none->Q (.ref l) (upd H l (.tup ys)))\/(rR X.K H p ys/\Q (.ref p) H))):=by
 intro pins s σ H xs us Q I r h;obtain ⟨p,ys,rfl,h⟩:=h;obtain ⟨u,rfl,rx⟩:=oR r;cases rx;rcases h with ⟨hq,q⟩ | ⟨hq,q⟩
 ·obtain ⟨TC,r',pl,hz⟩:=I.list hq;have hlen:=r'.length;refine call_tuple_list pl.isList (λh' kp=>?_) (by simp only [JI]<;>omega);have I1:aY X pins σ H { s with heap:=h' }:=I.kept (t':=s.toks) kp;have I2:aY X pins σ (upd H h'.objs.size (.tup ys)) { s with heap:=h'.push { cls:=.type "tuple",data:=.seq TC.toArray } }:=
   I1.laid (t':=s.toks) (λb o e=>IX _ e) (IW _) (show dW X.prog X.w _ _ _ (.tup ys) from ⟨hz,TC,r',IsTup.new _ _⟩)
  exact ⟨.ref h'.objs.size,_,I2,rfl,q _ (I1.hok.fresh (IW _))⟩
 ·obtain ⟨TC,r',pl,hz⟩:=I.tuple hq;exact call_tuple_same pl ⟨.ref p,H,I,rfl,q⟩
def HD (K:W.Frag) (T:String) (x:V) (H:Hp):Prop:=match x with
 | .str _=>T = "str"
 | .int _=>T = "int"
 | .ref p=>(T = "list"/\∃xs,j4 K H p xs)\/(T = "tuple"/\∃o,K.lookup p=some o/\o.cls = .type "tuple"/\o.dict=none)\/
   (T = "dict"/\((∃TN,H p=some (.dK TN))\/∃TN,H p=some (.dT TN)))\/(T = "set"/\∃S n,H p=some (.set S n))
 | _=>False
theorem U8 {pins:List (QF×Obj)} {σ:St} {H:Hp} {s:Shared} {T:String} {x:V} {v:Value} (I:aY X pins σ H s) (r:bP x v) (ty:HD X.K T x H) :
  s.TypeIs v T/\∀a,v = .ref a->∃ob,s.heap.get? a=some ob/\ob.dict=none:=by
 cases x with
 | str z=>
  obtain ⟨t,rfl⟩:=r;cases (show T = "str" from ty);exact ⟨typeIs_str s z t,λ_ e=>nomatch e⟩
 | int i=>
  obtain ⟨t,rfl⟩:=r;cases (show T = "int" from ty);exact ⟨typeIs_int s i t,λ_ e=>nomatch e⟩
 | ref p=>
  cases r;rcases ty with ⟨rfl,xs,hq⟩ | ⟨rfl,o,hk,hc,hd⟩ | ⟨rfl,hk⟩ | ⟨rfl,S,n,hk⟩
  ·obtain ⟨TC,_,pl,_⟩:=I.list hq;refine ⟨pl.isList.typeIs,λa e=>?_⟩;cases e;obtain ⟨o,n,e,c,hd,_⟩:=pl;exact ⟨o,e,hd⟩
  ·refine ⟨⟨o,I.kIn p o hk,hc⟩,λa e=>?_⟩;cases e;exact ⟨o,I.kIn _ o hk,hd⟩
  ·have z:∃o,s.heap.get? p=some o/\o.ExactDict:=by
    rcases hk with ⟨TN,hk⟩ | ⟨TN,hk⟩
    ·obtain ⟨_,_,_,_,o,_,_,e,ex,_⟩:=I.hok p _ hk;exact ⟨o,e,ex⟩
    ·obtain ⟨_,_,_,_,o,_,_,e,ex,_⟩:=I.hok p _ hk;exact ⟨o,e,ex⟩
   obtain ⟨o,e,ex⟩:=z;refine ⟨⟨o,e,ex.1⟩,λa e2=>?_⟩;cases e2;exact ⟨o,e,ex.2.1⟩
  ·obtain ⟨o,_,_,_,e,ex,_⟩:=I.hok p _ hk;refine ⟨⟨o,e,ex.1⟩,λa e2=>?_⟩;cases e2;exact ⟨o,e,ex.2.1⟩
 | _=>exact False.elim ty
def DP (K:W.Frag) (T:String) (r:V->List V->Hp->VK->Prop) (to:TE) (t:TA):TE:=λσ H Q=>to σ H λx H1=>HD K T x H1/\t σ H1 λxs H2=>r x xs H2 Q
variable {o e:Expr} {es:List Expr} {to:TE} {t:TA} {name:Str} {apos VX:Pos} {T id:String} {r:V->List V->Hp->VK->Prop}
theorem Tb (pa:PlainAttrs T) (slot:Slot T name id) (qz:typeOf (.builtin id)=pure (.type "method_descriptor")) (hm:DE X id r) (ho:PE X o to) (ha:PA X (e::es) t)
  (VD:RS o name X.env (RB o X.env)=RB o X.env:=by rfl)
  (rf:((SD VX (QY (e::es) X.env)).all (λx=>!x.1)&&(backToKw VX (keywordEach [] X.env)).all (λx=>x.1.isSome)
  &&decide ((e::es).length+([]:List Keyword).length+(if ([]:List Keyword).isEmpty then 0 else 1)<30))=true:=by rfl)
  (VE:(apos.endLine==VX.line)=true:=by rfl) (hs:QY (e::es) X.env=(false,RB e X.env)::QY es X.env:=by rfl) (da:(SD VX (QY es X.env)).any (·.1)=false:=by rfl) :
  PE X (.Call (.Attribute o name apos) (e::es) [] VX) (DP X.K T r to t):=by
 intro pins s σ H Q I h;refine wpAny_Call_method_late VD rf VE rfl (dM (ho pins s σ H _ I h) λv s1 ⟨x,H1,I1,r1,ty,q1⟩=>?_);obtain ⟨h1,h2⟩:=U8 I1 r1 ty;refine ⟨T,id,pa,slot,qz,h1,h2,?_⟩;have hA:=ha VX pins s1 σ H1 _ I1 q1;rw [hs] at hA ⊢;refine Calls.callWith_builtin (by show (false||(SD VX (QY es X.env)).any (·.1))=false;rw [da]<;>rfl) (Calls.evalArgs_plain ?_);exact dM hA λus s2 ⟨vs,H2,I2,r2,q2⟩=>hm pins s2 σ H2 x vs v us Q I2 r1 r2 q2
/- xs.append(e),list.index on a module's tuple .. are DE facts of 06m -/
end
def HE (X:Cx) (id:String) (r:V->List V->Hp->VK->Prop):Prop:=
 ∀(pins:List (QF×Obj)) (s:Shared) (σ:St) (H:Hp) (x:V) (xs:List V) (v:Value) (us:List Value) (Q:VK),aY X pins σ H s->bP x v->bG xs us->r x xs H Q->
  QL (QV X.prog X.w) X.A (call (.builtin id) (v::us)) (EP X pins σ Q) X.xe s
theorem bG.one:∀{x:V} {us:List Value},bG [x] us->∃u,us=[u]/\bP x u
 | _,_,.cons r .nil=>⟨_,rfl,r⟩
theorem bG.two:∀{x y:V} {us:List Value},bG [x,y] us->∃u v,us=[u,v]/\bP x u/\bP y v
 | _,_,_,.cons r (.cons q .nil)=>⟨_,_,rfl,r,q⟩
section
variable {X:Cx} {pins:List (QF×Obj)} {σ:St} {H:Hp} {s:Shared} {l b:QF} {xs ys zs:List V}
theorem aY.lset {TC its':List Value} {n:Nat} {f:Array Value->Array Value} {t':Nat} (I:aY X pins σ H s) (hH:H l=some (.lst xs))
  (e:s.heap.get? l=some { cls:=.type "list",data:=.seq TC.toArray n }) (hf:f TC.toArray=its'.toArray) (hv:bG ys its') (hz:ys.length<=QP) :
  aY X pins σ (upd H l (.lst ys)) { s with heap:=s.heap.update l (MA f),toks:=t' }:=by
 have q:=PySem.IsL.update e f;rw [hf] at q;refine I.write (x:=l) (e:=l) (by rw [hH];exact trivial) (.inl rfl) (λb' u hb hu=>(PR s.heap (MA f) (Ne.symm hb)).trans hu) ⟨_,q⟩ ?_;exact ⟨hz,its',_,hv,q⟩
theorem aY.lnew {TC:List Value} {t':Nat} (I:aY X pins σ H s) (hv:bG ys TC) (hz:ys.length<=QP) :
  aY X pins σ (upd H s.heap.objs.size (.lst ys)) { s with heap:=s.heap.push { cls:=.type "list",data:=.seq TC.toArray },toks:=t' }:=
 I.laid (λ_ _ q=>IX _ q) (IW _) ⟨hz,TC,0,hv,JL _ rfl⟩
theorem aY.fresh (I:aY X pins σ H s):H s.heap.objs.size=none:=I.hok.fresh (IW _)
theorem aY.lstM (I:aY X pins σ H s) (hH:H l=some (.lst xs)):xs.length<=QP/\∃(TC:List Value) (n:Nat),bG xs TC/\xs.length=TC.length/\s.heap.get? l=some { cls:=.type "list",data:=.seq TC.toArray n }:=by
 obtain ⟨z,TC,n,r,e⟩:=I.hok l _ hH;exact ⟨z,TC,n,r,r.length,e⟩
theorem Tv {n:Nat} (h:n<=QP):Builtin.List.listTooLong n=false:=by
 unfold Builtin.List.listTooLong;exact decide_eq_false (by omega)
end
section
variable {X:Cx}
def Iq:V->List V->Hp->VK->Prop:=λx vs H Q=>∃l xs y,x = .ref l/\vs=[y]/\H l=some (.lst xs)/\xs.length<QP/\Q .non (upd H l (.lst (xs++[y])))
theorem vN:HE X "list.append" Iq:=by
 intro pins s σ H x vs v us Q I rx rv h;obtain ⟨l,xs,y,rfl,rfl,hH,hz,q⟩:=h;cases rx;obtain ⟨u,rfl,ru⟩:=rv.one;obtain ⟨z,TC,n,r,hl,e⟩:=I.lstM hH;refine call_meets F.slot_list_append ⟨_,e,rfl⟩ F.entry_list_append (F.args_list_append_2 _ _) (PySem.list_append l TC.toArray n u (by rw [JI];omega)) ⟨e,?_⟩;refine ⟨.non,_,I.lset (its':=TC++[u]) hH e (by simp) (r.append (.cons ru .nil)) ?_,rfl,q⟩;rw [IY,KZ];omega
def Jg:V->List V->Hp->VK->Prop:=λx vs H Q=>∃l b xs zs,x = .ref l/\vs=[.ref b]/\H l=some (.lst xs)/\H b=some (.lst zs)/\xs.length+zs.length<=QP/\Q .non (upd H l (.lst (xs++zs)))
theorem Lj:HE X "list.extend" Jg:=by
 intro pins s σ H x vs v us Q I rx rv h;obtain ⟨l,b,xs,zs,rfl,rfl,hH,hB,hz,q⟩:=h;cases rx;obtain ⟨u,rfl,ru⟩:=rv.one;cases ru;obtain ⟨z,TC,n,r,hl,e⟩:=I.lstM hH;obtain ⟨z2,XN,n2,r2,br,e2⟩:=I.lstM hB;have YL:TC.toArray.size+XN.toArray.size<=QP:=by rw [JI,JI];omega
 have jj:¬(!TC.toArray.isEmpty&&Builtin.List.listTooLong (TC.toArray.size+XN.toArray.size))=true:=by
  rw [Tv YL,PX];exact NA
 refine call_meets F.slot_list_extend ⟨_,e,rfl⟩ F.entry_list_extend (F.args_list_extend_2 _ _)
  (AutoSeq1.list_extend_list_list_0 l TC.toArray n b XN.toArray n2 jj (by rw [JI];omega) (by omega)) ⟨e,e2,?_⟩
 refine ⟨.non,_,I.lset (its':=TC++XN) hH e (by simp) (r.append r2) ?_,rfl,q⟩;rw [IY];omega
def EG:R2:=λx y H Q=>∃l b xs zs,x = .ref l/\y = .ref b/\H l=some (.lst xs)/\H b=some (.lst zs)/\xs.length+zs.length<=QP/\∀p,H p=none->Q (.ref p) (upd H p (.lst (xs++zs)))
theorem Q5:mU X (RL .Add) EG:=by
 intro pins s σ H x y v u Q I rx ry h;obtain ⟨l,b,xs,zs,rfl,rfl,hH,hB,hz,q⟩:=h;cases rx;cases ry;obtain ⟨z,TC,n,r,hl,e⟩:=I.lstM hH;obtain ⟨z2,XN,n2,r2,br,e2⟩:=I.lstM hB;refine PySem.P.add_list e e2 ?_ (by rw [JI,JI];omega);have ea:TC.toArray++XN.toArray=(TC++XN).toArray:=by simp
 rw [ea];exact ⟨.ref _,_,I.lnew (t':=s.toks) (r.append r2) (by rw [IY];omega),rfl,q _ I.fresh⟩
end
section
variable {prog:QJ} {w:QM} {A:Around} {E:Value->Shared->Prop} {s:Shared}
set_option maxRecDepth 100000 in
end
end L2
namespace Att
open PySem PySem.W PySem.Calls PyProof.Rows
theorem rL {P:Params} {h:Heap}:∀(ns:List Int) (vs:List Value),WellAll P h vs (ns.map WData.int)->IntsAre vs ns:=by
 intro ns
 induction ns with
 | nil=>
  intro vs w;rw [MT] at w;cases w;exact .nil
 | cons n ns ih=>
  intro vs w;rw [JK] at w;cases w with
  | cons a b=>
   cases a;exact .cons _ _ (ih _ b)
theorem Np {l:OpenLaw} {n:Nat} (hn:l.most=some n) {P:Params} {h:Heap} {args:List WData} {vals:List Value}
  (VF:l.row.toRowW.claim.pre args=true) (rh:WellAll P h vals args) :
  ∃a vs ns,vals=[KW a]/\args=[WData.list (ns.map WData.int)]/\h.get? a=some { cls:=.type "list",data:=.seq vs.toArray }/\IntsAre vs ns/\ns.length<=n:=by
 have de:WShape.hasAll [] args [.list .int]=true:=(pre_splitW VF).1;have hc:l.pre.holds [] { args:=args } = true:=(pre_splitW VF).2;obtain ⟨d,r,rfl,h1,h2⟩:=hasAllW_cons de;obtain rfl:=hasAllW_nil h2;obtain ⟨xs,rfl,h3⟩:=hasW_list h1;obtain ⟨ns,rfl⟩:=items_int h3;have hlen:ns.length<=n:=by
  unfold OpenLaw.pre at hc;have h4:(WTm.not (.lt (.lit (.int (n:Int))) (.len (.arg 0)))).holds [] { args:=[.list (ns.map .int)] } = true:=by
   have h4:=(holds_andW hc).1;rw [hn] at h4;exact h4
  have h5:=condW_of h4 (w_not (w_lt w_lit (w_len_list (w_arg rfl))));rw [IS] at h5;refine Nat.le_of_not_lt λq=>?_;have q':(n:Int)<((ns.length:Nat):Int):=by omega
  first
   | (rw [decide_eq_true q'] at h5;exact absurd h5 (by decide))
   | (simp at h5;omega)
 cases rh with
 | cons w1 w2=>
  cases w2;cases w1 with
  | list ho df=>exact ⟨_,_,ns,rfl,rfl,ho,rL ns _ df,hlen⟩
theorem Nh (l:OpenLaw) (args:List WData):l.row.toRowW.claim.post args (.bool true) args=true:=
 postW_of (r:=l.row.toRowW) (X:=(true==true))
  (show WShape.has [] (.bool true) .bool=true by first | rfl | decide | simp [WShape.has,WShape.arms,WShape.armsAll])
  (show (WTm.eq .res (.lit (.bool true))).value [] { args:=args,res:=some (.bool true),after:=args } = some (.bool (true==true)) from w_eq_bool (w_res rfl) w_lit) rfl
theorem attach_call {l:OpenLaw} {n:Nat} {q:QJ} {loose:List Str} {XP:(Str->Option Value)->Heap->Prop} {YP:QM->Heap->Prop} {d:DefRec}
  (hn:l.most=some n) (jl:d.params.defaults=[])
  (call:∀(w:QM) (s₀ s₁:Shared) (mg mb:Str->Option Value) (fa:QF) (o:Obj) (pm cd doc:Value) (a:QF) (vs:List Value) (ns:List Int),
   Ground q loose [] XP w s₀ mg mb s₁.heap->YP w s₁.heap->
   s₁.heap.get? fa=some o->o.data = .func (docDef d.name d.params d.body d.scope pm cd doc)->s₁.heap.CodeRec cd d.name->mg d.name=some (.ref fa)->
   s₁.heap.get? a=some { cls:=.type "list",data:=.seq vs.toArray }->IntsAre vs ns->ns.length<=n->s₁.gens = #[]->
   codeAny (QV l.prog w) SY (.call (.ref fa) ⟨[.ref a],[]⟩) (λr s'=>r = .ok (.ret (.bool true))/\OldK s₁.heap s'.heap/\s'.os=s₁.os/\SH s'.gens) s₁) :
  WalkO q loose XP YP l.row.toRowW d [] (λf vs=>PySem.call f vs):=by
 intro w s₀ s₁ mg mb G Y fa o pm cd doc dV kV ho hd XJ hD hmg hg args vals as VF aBD hrd rh hlo;obtain rfl:dV = .none:=Dflts.none hD jl;obtain rfl:kV = .none:=Dflts.noKw hD;obtain ⟨a,vs,ns,rfl,rfl,dh,hints,hlen⟩:=Np hn VF rh;refine enter_call (codeAny_mono (call w s₀ s₁ mg mb fa o pm cd doc a vs ns G Y ho (fd_plain hd) XJ hmg dh hints hlen hg) λr s' hq=>?_);obtain ⟨rfl,h2,h3,h4⟩:=hq;exact ⟨.inl ⟨.bool true,.bool true,[],rfl,λ_=>rfl,.bool true,Nh l _,λ_=>⟨List.Pairwise.nil,λ_ hm=>(nomatch hm)⟩⟩,h2,h3,h4⟩
end Att
namespace L2
open PySem PySem.Spec PyProof.Rows
theorem wN:∀{vs:List Value} {ns:List Int},IntsAre vs ns->bG (ns.map V.int) vs
 | _,_,.nil=>.nil
 | _,_,.cons n t h=>.cons ⟨t,rfl⟩ (wN h)
def M1 (H:Hp):Prop:=∀b,H b=none\/∃o xs,H b=some (.frz o (.lst xs))
theorem Tf {P:QJ} {w:QM} {K:W.Frag} {mg mb:Str->Option Value} {CX:Az} {k:Nat} {fa a:QF} {fd:QK} {x:Str} {sp:Sp} {s₁:Shared} {vs:List Value} {ns:List Int}
  (KX:K.In s₁.heap) (ZR:s₁.heap.Ns QR mg) (hb:s₁.heap.Ns builtinsNs mb) (hbb:∀x:Str,x≠"__name__"->mb x=RK x) (rm:s₁.heap.NoLimit) (hg:s₁.gens = #[])
  (ha:s₁.heap.get? a=some { cls:=.type "list",data:=.seq vs.toArray }) (hi:IntsAre vs ns) (hl:ns.length<=QP) (hr:fD k SY)
  (F:∀base:Heap,K.In base->base.Ns QR mg->bJ P w K mg base CX k fa fd [x] sp) (jm:∀(s:Shared) (u:Value),BindsTo s fd ⟨[u],[]⟩ [(x,u)])
  (XS:∀H:Hp,M1 H->j4 K H a (ns.map V.int)->sp [.ref a] H (λv _=>v = .bl true) λ_ _ _=>False)
  (rn:∀H e s',CX [] H s₁ (λ_ _ _=>False) e s'->False) :
  codeAny (QV P w) SY (.call (.ref fa) ⟨[.ref a],[]⟩) (λr s'=>r = .ok (.ret (.bool true))/\OldK s₁.heap s'.heap/\s'.os=s₁.os/\SH s'.gens) s₁:=by
 have rv:=wN hi;have se:=hi.length
 -- from an abstract heap in which nothing but the script may be tracked
 have core:∀H:Hp,M1 H->j4 K H a (ns.map V.int)->nX P w H s₁.heap->(∀b,H b≠none->b=a)->(H a≠none->K.lookup a=none)->
   codeAny (QV P w) SY (.call (.ref fa) ⟨[.ref a],[]⟩) (λr s'=>r = .ok (.ret (.bool true))/\OldK s₁.heap s'.heap/\s'.os=s₁.os/\SH s'.gens) s₁:=by
  intro H hO hS hok hA hK;have YF:∀{b:QF} {o:Obj},s₁.heap.get? b=some o->H b=none->(xP s₁.heap H).get? b=some o:=λe n=>Pn e n;have jg:∀{b:QF} {o:Obj} {es:Array DictEntry} {ep:Nat},s₁.heap.get? b=some o->o.data = .dict es ep->H b=none:=λ{b o es ep} e d=>by
   cases q:H b with
   | none=>rfl
   | some u=>
    have e':b=a:=hA b (by rw [q];simp);subst e';rw [ha] at e;cases e;have d':Data.seq vs.toArray _=Data.dict es ep:=d;cases d'
  have oh:∀{b:QF} {m:Str->Option Value},s₁.heap.Ns b m->(xP s₁.heap H).Ns b m:=λ{b m} ⟨o,es,ep,e,d,r⟩=>⟨o,es,ep,YF e (jg e d),d,r⟩;have ya:K.In (xP s₁.heap H):=λb o e=>YF (KX b o e) (by
   cases q:H b with
   | none=>rfl
   | some u=>
    have e':b=a:=hA b (by rw [q];simp);subst e';rw [hK (by rw [q];simp)] at e;cases e)
  have hM:Mod K mg (xP s₁.heap H):=⟨ya,oh ZR,⟨mb,oh hb,hbb⟩,let ⟨mc,h1,h2⟩:=rm;⟨mc,oh h1,h2⟩⟩;have e0:We P w K mg (xP s₁.heap H) SY [] s₁ H:=⟨rfl,hM,λb o e=>Ze e,Nat.le_of_eq (Nb _ _),trivial,λb hb=>absurd (show b∈([]:List QF) from hb) (by simp),hok,.of_eq hg⟩;refine codeAny_mono ((F _ ya (oh ZR)).run SY [] s₁ H ⟨[.ref a],[]⟩ [.ref a] [.ref a] _ _ hr e0 (jm s₁ (.ref a)) (.cons rfl .nil) (XS H hO hS)) λr s' h=>?_;cases r with
  | error e=>exact (rn H e s' h).elim
  | ok fl=>
   cases fl with
   | next=>exact False.elim h
   | brk=>exact False.elim h
   | cont=>exact False.elim h
   | ret u=>
    obtain ⟨v,H',os,bare,un,dj,r',q⟩:=h;have q':v = .bl true:=q;subst q';obtain rfl:u=Value.bool true:=r';refine ⟨rfl,OldK.of_keep λb o e=>?_,os,bare⟩;cases q:H b with
    | none=>exact un.keep b o e q (by intro z;exact absurd (show b∈([]:List QF) from z) (by simp)) (by simp)
    | some u=>
     rcases hO b with z | ⟨ob,xs,z⟩
     ·rw [q] at z;cases z
     ·have z2:=un.frzs b ob _ z;obtain ⟨e1,_⟩:=hok b _ z;obtain ⟨e2,_⟩:=dj b _ z2;rw [e] at e1;cases e1;exact e2
 cases hk:K.lookup a with
 | some o=>
  -- the script is one of the module's own objects
  have e:=KX a o hk;rw [ha] at e;cases e;refine core (λ_=>none) (λ_=>.inl rfl) (.inr ⟨_,vs.toArray,_,hk,rfl,rfl,rfl,by rw [JI,se];exact hl,by simpa using rv⟩) (λb u z=>by have z':(none:Option HO)=some u:=z;cases z') (λb z=>absurd rfl z) λz=>absurd rfl z
 | none=>
  refine core (λb=>if b=a then some (.frz { cls:=.type "list",data:=.seq vs.toArray } (.lst (ns.map V.int))) else none) (λb=>?_) (.inl (.inr ⟨{ cls:=.type "list",data:=.seq vs.toArray },if_pos rfl⟩)) (λb u z=>?_) (λb z=>?_) λ_=>hk
  ·by_cases hb:b=a
   ·exact .inr ⟨_,_,if_pos hb⟩
   ·exact .inl (if_neg hb)
  ·by_cases hb:b=a
   ·have z':=(if_pos hb).symm.trans z;cases z';subst hb;exact ⟨ha,by rw [IS];exact hl,vs,_,rv,ha⟩
   ·have z':=(if_neg hb).symm.trans z;cases z'
  ·by_cases hb:b=a
   ·exact hb
   ·exact absurd (if_neg hb) z
theorem Yk {l:W.OpenLaw} {n k:Nat} {q:QJ} {loose:List Str} {XP:(Str->Option Value)->Heap->Prop} {YP:QM->Heap->Prop} {d:DefRec} {K:Params->W.Frag} {CX:QM->Az} {sp:QM->Sp} {x:Str}
  (hn:l.most=some n) (hn2:n<=QP) (jl:d.params.defaults=[]) (hr:fD k SY)
  (hY:∀(w:QM) (h:Heap),YP w h->(K w.params).In h)
  (F:∀(w:QM) (mg:Str->Option Value) (fa:QF) (h:Heap),(K w.params).In h->h.Ns QR mg->mg d.name=some (.ref fa)->
   ∃fd:QK,(∀(s:Shared) (u:Value),BindsTo s fd ⟨[u],[]⟩ [(x,u)])/\
    ∀base:Heap,(K w.params).In base->base.Ns QR mg->bJ l.prog w (K w.params) mg base (CX w) k fa fd [x] (sp w))
  (XS:∀(w:QM) (H:Hp) (a:QF) (ns:List Int),ns.length<=n->M1 H->j4 (K w.params) H a (ns.map V.int)->sp w [.ref a] H (λv _=>v = .bl true) λ_ _ _=>False)
  (rn:∀(w:QM) (H:Hp) (s:Shared) (e:Value) (s':Shared),CX w [] H s (λ_ _ _=>False) e s'->False) :
  W.WalkO q loose XP YP l.row.toRowW d [] (λf vs=>PySem.call f vs):=by
 refine Att.attach_call hn jl λw s₀ s₁ mg mb fa o pm cd doc a vs ns G Y ho hd XJ hmg dh hints hlen hg=>?_;have KX:=hY w _ Y;obtain ⟨fd,hb,hF⟩:=F w mg fa _ KX G.T.g hmg;exact Tf KX G.T.g G.T.b G.T.builtins G.T.nolimit hg dh hints (KS hlen hn2) hr hF hb (λH hO hS=>XS w H a ns hlen hO hS) λH e s'=>rn w H s₁ e s'
end L2
/- THE LAST THEOREM (shape;LID,My.* are yours):
   My.Adr: a structure of the addresses that your layer names (classes,functions);My.Txt K t: a structure (Prop) of the equations over K;
   My.txt_mk:{K} {implicit addresses ..} (e1:nsIn K QR "law" = some (some (.ref f))) (e2:K.lookup f=some ⟨oc,od,.func (fnOf "law" "law" params body scope dV kV doc pm an TQ ct),sl⟩) (e3:codeIn K TQ "law" = true) .. : ∃t,My.Txt K t
set_option maxRecDepth 100000 in
set_option maxHeartbeats 0 in
(the tactic k_is has no namespace: write k_is) -/
namespace L2
open PySem PySem.Spec PyProof.Rows
def fK (s:QU):Arguments:=match s with
 | .FunctionDef _ a _ _ _ _ _ _ _ _=>a
 | _=>{ posonlyargs:=[],args:=[],vararg:=none,kwonlyargs:=[],kw_defaults:=[],kwarg:=none,defaults:=[] }
def dO (s:QU):List QU:=match s with
 | .FunctionDef _ _ b _ _ _ _ _ _ _=>b
 | _=>[]
def aF (s:QU):RF:=match s with
 | .FunctionDef _ _ _ _ _ _ sc _ _ _=>sc
 | _=>{ kind:=.function,names:=[],isGenerator:=false,isCoroutine:=false }
abbrev fF:Az:=λ_ _ _ _ _ _=>False
abbrev E0:XK:=λ_ _ _=>False
theorem BU {X:Cx}:Dn fF X E0:=λ_ _ _ _ _ _ _ h=>h.elim
structure eT (K:W.Frag) (x qual:Str) (st:QU) (f:QF) (fd:QK):Prop where
 ex:∃(oc:Value) (od:Option QF) (kV doc pm:Value) (an:Option QF) (TQ ct:Value) (bo:Array (Option Value)),
  fd=W.fnOf x qual (fK st) (dO st) (aF st) .none kV doc pm an TQ ct/\K.lookup f=some ⟨oc,od,.func fd,bo⟩/\W.codeIn K TQ qual=true
 kp:W.keepIn K (.ref f)=true
section
variable {P:QJ} {w:QM} {K:W.Frag} {mg:Str->Option Value} {base:Heap}
theorem eT.ok {x qual:Str} {st:QU} {f:QF} {fd:QK} {N ps:List Str} {k:Nat} {sp:Sp} (F:eT K x qual st f fd) (S:aO N ps (aF st)) (len:∀vs H Q E,sp vs H Q E->vs.length=ps.length)
  (XM:∀(TQ:Value) (A:Around) (outer:List Env) (s:Shared) (H:Hp) (vs:List V) (Q:VK) (E:XK),fD k (A.deeper (SK qual (aF st) s.heap.objs.size f TQ))->sp vs H Q E->
   ∃t,Ha (Ar fF P w K mg base N qual (aF st) f TQ A outer s H E).nox (dO st) t/\t { nx:=λ_ H'=>Q .non H',rt:=Q } (mD N vs) H):bJ P w K mg base fF (k+1) f fd ps sp:=by
 obtain ⟨oc,od,kV,doc,pm,an,TQ,ct,bo,rfl,lk,XJ⟩:=F.ex;refine BW lk XJ S len λA outer s H vs Q E hr XS=>?_;obtain ⟨t,h,q⟩:=XM TQ A outer s H vs Q E hr XS;exact ⟨t,h.nox,q⟩
theorem eT.binds {x qual:Str} {st:QU} {f:QF} {fd:QK} {ps:List Str} (F:eT K x qual st f fd)
  (h:∀(kV doc pm:Value) (an:Option QF) (TQ ct:Value) (us:List Value),us.length=ps.length->bindArgs (W.fnOf x qual (fK st) (dO st) (aF st) .none kV doc pm an TQ ct) ⟨us,[]⟩=pure (ps.zip us)):kH K fd ps []:=by
 obtain ⟨oc,od,kV,doc,pm,an,TQ,ct,bo,rfl,lk,XJ⟩:=F.ex;exact .all (h kV doc pm an TQ ct)
theorem Py {x qual:Str} {st:QU} {f:QF} {oc:Value} {od an:Option QF} {bo:Array (Option Value)} {kV doc pm TQ ct:Value} (l:K.lookup f=some ⟨oc,od,.func (W.fnOf x qual (fK st) (dO st) (aF st) .none kV doc pm an TQ ct),bo⟩)
  (c:W.codeIn K TQ qual=true) (k:W.keepIn K (.ref f)=true):eT K x qual st f (W.fnOf x qual (fK st) (dO st) (aF st) .none kV doc pm an TQ ct):=⟨⟨oc,od,kV,doc,pm,an,TQ,ct,bo,rfl,l,c⟩,k⟩
end
theorem AJ {A:Around} {k:Nat} (hr:fD k A):A.units+1<SO:=JO (Nat.add_le_add_left (by decide:1<=64) _) hr.units
theorem bY {n:Nat} (h:n<=1000):n<QP:=JO h (by decide)
end L2
namespace L2
open PySem PySem.Spec PyProof.Rows
section
variable {X:Cx}
theorem Lb:gQ X (.builtin "abs") (λxs H Q=>∃i:Int,xs=[.int i]/\Q (.int (i.natAbs:Int)) H):=by
 intro pins s σ H xs us Q I r h;obtain ⟨i,rfl,q⟩:=h;obtain ⟨u,rfl,rx⟩:=oR r;obtain ⟨t,rfl⟩:=rx;have e:(if i<0 then -i else i)=(i.natAbs:Int):=by split<;>omega
 exact call_abs_int λu tk=>⟨.int (i.natAbs:Int),H,I.tok _,⟨u,by rw [e]⟩,q⟩
theorem Ms:gQ X (.type "int") (λxs H Q=>∃b:Bool,xs=[.bl b]/\Q (.int (if b then 1 else 0)) H):=by
 intro pins s σ H xs us Q I r h;obtain ⟨b,rfl,q⟩:=h;obtain ⟨u,rfl,rx⟩:=oR r;cases rx;exact PySem.call_int_bool ⟨.int _,H,I.tok _,⟨_,rfl⟩,q⟩
theorem Lw (hc:X.calm=true):gQ X (.builtin "all") (λxs H Q=>∃(p:QF) (bs:List Bool),xs=[.ref p]/\j4 X.K H p (bs.map V.bl)/\Q (.bl (bs.all id)) H):=by
 intro pins s σ H xs us Q I r h;obtain ⟨p,bs,rfl,hq,q⟩:=h;obtain ⟨u,rfl,rx⟩:=oR r;cases rx;obtain ⟨TC,rv,pl,hz⟩:=I.list hq;have WG:p≠s.heap.objs.size:=by
  obtain ⟨o,n,ho,_⟩:=pl;exact JU (JD ho)
 have hl:=rv.length;rw [IS] at hl;have hA:X.A.in1.handled=none:=I.ok.hd hc;refine call_all_walk (wpAny_pyIter_list pl.isList ?_);refine ⟨s.heap.objs.size,_,_,_,_,_,(λi=>bs.getD i true),rfl,Walks.list hA s.heap.objs.size p WG TC.toArray,⟨⟨_,JL _ rfl,rfl,rfl⟩,pl.isList.at λo e=>IX _ e⟩,?_,?_⟩
 ·intro i v s' Q' E' hv jn;have jq:TC[i]? = some v:=by simpa using hv
  have hi:i<TC.length:=(IT.mp jq).1;have hb:(bs.map V.bl)[i]? = some (V.bl bs[i]):=by
   rw [JC,IQ (by omega)];rfl
  obtain ⟨u,hu,ru⟩:=rv.get hb;rw [jq] at hu;cases hu;cases ru;have e:bs.getD i true=bs[i]:=by rw [JM,IQ (by omega)];rfl
  simp only [e] at jn;exact RM jn
 ·intro h' tk hk;have e:(LA TC.toArray.size).all (λi=>bs.getD i true)=bs.all id:=by
   rw [JI,<-hl];clear hl hz rv q hq pl WG;rw [MG,LK,LK];constructor
   ·intro h b hb;obtain ⟨i,hi,rfl⟩:=List.mem_iff_getElem.mp hb;have:=h i (LI.mpr hi);rw [JM,IQ hi] at this;exact this
   ·intro h i hi;have hi:=LI.mp hi;rw [JM,IQ hi];exact h _ (LN hi)
  rw [e];refine ⟨.bl _,H,?_,rfl,q⟩;exact I.kept λb o e=>hk b o (by simp;exact JU (JD e)) (IX _ e)
end
section
variable {X:Cx} {pins:List (QF×Obj)} {σ:St} {H:Hp} {s:Shared} {h':Heap}
theorem aY.turnedLaid {t':Nat} {ch:List QF} {a:QF} {o:HO} (I:aY X pins σ H s) (k:∀b u,b∉ch->s.heap.get? b=some u->h'.get? b=some u) (hf:∀b∈ch,oK X pins H b) (hp:s.heap.objs.size<=a)
  (new:dW X.prog X.w (upd H a o) h' a o):aY X pins σ (upd H a o) { s with heap:=h',toks:=t' }:=by
 have hn:=I.hok.fresh hp;have aw:∀b u,H b=some u->b∉ch:=λb u e z=>by rw [(hf b z).1] at e;cases e
 refine I.step (g':=s.gens) (d':=s.drawn) (ch:=ch) (λb hb=>⟨(hf b hb).2.2.2.1,(hf b hb).2.1,(hf b hb).2.2.2.2.1,(hf b hb).2.2.2.2.2⟩) (λb u _ _ hc e _=>k b u hc e) (λb u _ _ hc e _=>⟨u.slots,k b u hc e⟩)
  (λb u hc e n=>by rw [bC (JU (JH (JD e) hp))];exact n) (λb u hc e=>⟨u,k b u hc e⟩) (λb xs e=>by rw [bC (bF e hn)];exact e) (λb u xs e=>by rw [bC (bF e hn)];exact e)
  (λb ps e=>⟨#[],by rw [bC (bF e hn),e];simp⟩) (λm hm=>?_) (λb u e=>?_) I.bare
 ·obtain ⟨ob,es,ep,ho,r⟩:=hm;exact ⟨ob,es,ep,k _ ob (λz=>(hf _ z).2.1 rfl) ho,r⟩
 ·by_cases hb:b=a
  ·subst hb;rw [cV] at e;cases e;exact new
  ·rw [bC hb] at e;refine (I.hok b u e).stay (λc v hc q=>k c v ?_ q) (λc q=>by rw [bC (bF q hn)];exact q) λc xs q=>by rw [bC (bF q hn)];exact q
   rcases hc with z | z
   ·rw [z];exact aw b u e
   ·exact aw c _ z
theorem aY.turnedL {t':Nat} {ch:List QF} (I:aY X pins σ H s) (k:∀b u,b∉ch->s.heap.get? b=some u->h'.get? b=some u) (hf:∀b∈ch,oK X pins H b):aY X pins σ H { s with heap:=h',toks:=t' }:=by
 have aw:∀b u,H b=some u->b∉ch:=λb u e z=>by rw [(hf b z).1] at e;cases e
 refine I.step (g':=s.gens) (d':=s.drawn) (ch:=ch) (λb hb=>⟨(hf b hb).2.2.2.1,(hf b hb).2.1,(hf b hb).2.2.2.2.1,(hf b hb).2.2.2.2.2⟩) (λb u _ _ hc e _=>k b u hc e) (λb u _ _ hc e _=>⟨u.slots,k b u hc e⟩)
  (λb u hc e n=>n) (λb u hc e=>⟨u,k b u hc e⟩) (λb xs e=>e) (λb u xs e=>e) (λb ps e=>⟨#[],by rw [e];simp⟩) (λm hm=>?_) (λb u e=>?_) I.bare
 ·obtain ⟨ob,es,ep,ho,r⟩:=hm;exact ⟨ob,es,ep,k _ ob (λz=>(hf _ z).2.1 rfl) ho,r⟩
 ·refine (I.hok b u e).stay (λc v hc q=>k c v ?_ q) (λc q=>q) λc xs q=>q;rcases hc with z | z
  ·rw [z];exact aw b u e
  ·exact aw c _ z
end
def GF (K:W.Frag) (a:QF):It:=
 ⟨λi H=>∃xs x,j4 K H a xs/\xs[i]? = some x,λi H x H'=>∃p y,x = .ref p/\H p=none/\H'=upd H p (.tup [.int (i:Int),y])/\∀xs,j4 K H a xs->xs[i]? = some y,λi H=>∃xs,j4 K H a xs/\xs.length<=i⟩
theorem Nk {P:QJ} {w:QM} {K:W.Frag} {elts:List Expr} {x1} {VG:Pos} (a e it:QF) (WG:e≠it) :
  Er P w K (.Tuple elts x1 VG) (GF K a) [e,it] e (λi h=>(∃old,IsEnum h e it (i:Nat) old)/\h.IsListIter it a i) where
 mem:=by simp
 obj:=λi h st b hb=>by
  obtain ⟨⟨old,he⟩,⟨o,ho,hc,hd⟩⟩:=st;rcases IU.mp hb with rfl | hb
  ·exact ⟨_,he,λv z=>by cases z⟩
  ·rw [JB.mp hb];exact ⟨o,ho,λv z=>by rw [hd] at z;cases z⟩
 keep:=λi h h' st k=>⟨let ⟨old,he⟩:=st.1;⟨old,k e (by simp) _ he⟩,st.2.at λo x=>k it (by simp) o x⟩
 item:=by
  intro X hP hw hK hc i pins s σ H E I hf st hg;subst hP hw hK;obtain ⟨xs,x,hq,hx⟩:=hg;obtain ⟨TC,rv,p,hz⟩:=I.list hq;obtain ⟨u,hu,ru⟩:=rv.get hx;obtain ⟨⟨old,he⟩,hit⟩:=st;refine wpAny_pyNext_enum_item he hit p.isList (x:=u) (by simpa using hu) WG λh1 ho sf ht YL hk=>⟨_,rfl,?_⟩;refine wpAny_letOwnedTupleGo_enum ho λh2 sr YR=>?_;have tf:e≠s.heap.objs.size:=JU (JD he);have kk:∀b o,b∉[e,it]->s.heap.get? b=some o->h2.get? b=some o:=λb o hb q=>by
   have oi:b≠e:=λz=>hb (by simp [z]);have dk:b≠it:=λz=>hb (by simp [z]);exact YR.extBut b o oi (hk b o oi dk q)
  have new:dW X.prog X.w (upd H s.heap.objs.size (.tup [.int (i:Int),x])) h2 s.heap.objs.size (.tup [.int (i:Int),x]):=
   ⟨by show 2<=QP;decide,[.int i s.toks,u],.cons ⟨_,rfl⟩ (.cons ru .nil),⟨_,YR.extBut _ _ (Ne.symm tf) ht,rfl,_,rfl⟩⟩
  refine ⟨.ref s.heap.objs.size,upd H s.heap.objs.size (.tup [.int (i:Int),x]),I.turnedLaid (t':=s.toks+1) (ch:=[e,it]) kk hf (IW _) new,rfl,
   ⟨_,x,rfl,I.hok.fresh (IW _),rfl,λys hy=>by rw [I.list_inj hy hq];exact hx⟩,⟨⟨_,by simpa using sr⟩,sf.extBut YR.extBut (Ne.symm WG)⟩,λb hb=>?_⟩
  have VP:b<s.heap.objs.size:=by
   rcases IU.mp hb with rfl | hb
   ·exact JD he
   ·rw [JB.mp hb];obtain ⟨o,WZ,_⟩:=hit;exact JD WZ
  rw [bC (JU VP)];exact (hf b hb).1
 done:=by
  intro X hP hw hK hc i pins s σ H E I hf st hg;subst hP hw hK;obtain ⟨xs,hq,hx⟩:=hg;obtain ⟨TC,rv,p,hz⟩:=I.list hq;have hl:=rv.length;obtain ⟨⟨old,he⟩,hit⟩:=st;refine wpAny_pyNext_enum_end (I.ok.hd hc) he hit p.isList (by simp;omega) λh1 eb=>⟨rfl,?_⟩;exact I.turnedL (t':=s.toks) (ch:=[e,it]) (λb o hb q=>eb b o (λz=>hb (by simp [z])) q) hf
 self:=λ_ _ _ _ _ st h=>let ⟨old,he⟩:=st.1;wpAny_pyIter_enum he h
section
variable {X:Cx}
def F5 (K:W.Frag) (ta:TA):TI:=λσ H R=>ta σ H λvs H1=>∃a,vs=[.ref a]/\(∃xs,j4 K H1 a xs)/\R (GF K a) H1
theorem Yb {a:Expr} {ta:TA} {p pos VG:Pos} {elts:List Expr} {x1} (hg:Gl X "enumerate") (hm:X.mg "enumerate" = none) (ha:PA X [a] ta) (hs:QY [a] X.env=[(false,RB a X.env)]:=by rfl) :
  PI X (.Tuple elts x1 VG) (.Call (.Name "enumerate" p) [a] [] pos) (F5 X.K ta):=by
 intro pins s σ H R I h;refine Call_ (qH I hg hm boot_enumerate (PyProof.Rows.callWith_type1 (dM (ha pos pins s σ H _ I h) λus s1 ⟨vs,H1,I1,r1,q1⟩=>?_) hs rfl));obtain ⟨l,rfl,⟨xs,hq⟩,q⟩:=q1;obtain ⟨u,rfl,ru⟩:=bG.one r1;cases ru;obtain ⟨TC,rv,pl,hz⟩:=I1.list hq;refine call_enumerate_list pl.isList λh' he hit YL hk=>?_;refine wpAny_pyIter_enum he ?_;refine ⟨s1.heap.objs.size+1,[s1.heap.objs.size+1,s1.heap.objs.size],_,_,H1,rfl,I1.kept (t':=s1.toks) hk,Nk l _ _ (Nat.succ_ne_self _),⟨⟨_,he⟩,hit⟩,λb hb=>?_,q⟩;have hle:s1.heap.objs.size<=b:=by
  rcases IU.mp hb with rfl | hb
  ·exact Nat.le_succ _
  ·rw [JB.mp hb];exact IW _
 exact I1.fpOk hle (I1.hok.fresh hle)
end
theorem mS {prog:QJ} {w:QM} {A:Around} {R:Result->Shared->Prop} {s:Shared} {elt target iter:Expr} {ifs:List Expr} {scope:RF} {pos:Pos} {it acc:Value} {env:Env} (I:Nat->Shared->Prop)
  (turn:∀n s,I n s->QL (QV prog w) A (pyNext it) (λr s₁=>match r with
   | none=>R (.ok .next) s₁
   | some v=>QL (QV prog w) A (SR target it v) (λ_ s₂=>QL (QV prog w) A (SE target env v) (λ_ s₃=>QL (QV prog w) A (forIn ifs true λc r=>if r=true then do let ok <-isTrue c env (RB c env);pure (ForInStep.yield ok) else pure (ForInStep.yield r)) (λok s₃'=>if ok=true then QL (QV prog w) A (RB elt env) (λx s₄=>
     QL (QV prog w) A (call (.builtin "list.append") [acc,x]) (λ_ s₅=>∃m,m<n/\I m s₅) (λ_ _=>False) s₄) (λ_ _=>False) s₃' else ∃m,m<n/\I m s₃') (λ_ _=>False) s₃) (λ_ _=>False) s₂) (λ_ _=>False) s₁) (λ_ _=>False) s)
  (n:Nat) (h:I n s):codeAny (QV prog w) A (.compLoop (.ListComp elt [⟨target,iter,ifs,0⟩] scope pos) 0 it acc env) R s:=by
 refine codeAny_loop rfl I (λn s hI=>?_) n h;show QL _ A ((compTurn (.ListComp elt [⟨target,iter,ifs,0⟩] scope pos) 0 it acc env).onRaise (λx=>do noteFrame x env;theTreesLotGoes x)) _ _ s;refine wpAny_noted ?_;rw [compTurn_list];refine QH (SN (QH (RW (turn n s hI) (λr s₁ h₁=>?_) λ_ _ h'=>h'.elim)));cases r with
 | none=>exact QN h₁
 | some v=>
  refine QH (RW h₁ (λ_ s₂ h₂=>QH (RW h₂ (λ_ s₃ h₃=>QH (RW h₃ (λok s₃' h₃'=>?_) λ_ _ h'=>h'.elim)) λ_ _ h'=>h'.elim)) λ_ _ h'=>h'.elim);cases ok with
  | false=>exact QN ⟨rfl,h₃'⟩
  | true=>
   exact QH (QH (RW h₃' (λx s₄ h₄=>QH (RW h₄ (λ_ s₅ h₅=>QN (QN ⟨rfl,h₅⟩)) λ_ _ h'=>h'.elim)) λ_ _ h'=>h'.elim))
def Ej (env:Env):List (Str×NameKind)->List (Str×QF)->List (Str×QF)
 | [],cs=>cs
 | (n,k)::r,cs=>Ej env r (if k==.free then (match env.cells.lookup n with | some c=>(n,c)::cs | none=>cs) else cs)
def yZ (scope:RF) (env:Env):List (Str×QF):=Ej env scope.names []
theorem yL (env:Env):∀(ns:List (Str×NameKind)) (cs:List (Str×QF)),(∀y∈ns,y.2 = .free->∃c,env.cells.lookup y.1=some c)->
  (forIn ns cs (λx r=>do
   if x.2==.free then
    let a <-cellOf env x.1
    pure (ForInStep.yield ((x.1,a)::r))
   else pure (ForInStep.yield r)):Sem (List (Str×QF)))=pure (Ej env ns cs)
 | [],cs,_=>rfl
 | (n,k)::r,cs,h=>by
  rw [OB]
  by_cases hk:k = .free
  ·subst hk;obtain ⟨c,hc⟩:=h (n,.free) MC rfl;have XC:env.cells.lookup n=some c:=hc;have e:cellOf env n=pure c:=by unfold cellOf;rw [XC]
   simp only [beq_self_eq_true,if_true,e,pure_bind,Ej,XC];exact yL env r _ λy hy=>h y (JR _ hy)
  ·have hb:(k==NameKind.free)=false:=by simpa using hk
   simp only [hb,ME,if_false,pure_bind,Ej];exact yL env r _ λy hy=>h y (JR _ hy)
theorem vB {scope:RF} {env:Env} (h:∀y∈scope.names,y.2 = .free->∃c,env.cells.lookup y.1=some c):closureFor scope env=pure (yZ scope env):=by
 have e:=yL env scope.names [] h;unfold yZ;rw [<-e];unfold closureFor;simp only [bind_pure]
theorem Cy (env:Env):∀(ns:List (Str×NameKind)) (cs:List (Str×QF)) (x:Str) (c:QF),(∀x c,cs.lookup x=some c->env.cells.lookup x=some c)->(Ej env ns cs).lookup x=some c->env.cells.lookup x=some c
 | [],_,x,c,h,e=>h x c e
 | (n,k)::r,cs,x,c,h,e=>by
  refine Cy env r _ x c (λy d hd=>?_) e
  by_cases hk:(k==NameKind.free)=true
  ·rw [if_pos hk] at hd;cases q:env.cells.lookup n with
   | none=>rw [q] at hd;exact h y d hd
   | some a=>
    rw [q] at hd;simp only [LU] at hd;cases b:y==n with
    | true=>rw [b] at hd;cases hd;rw [eq_of_beq b];exact q
    | false=>rw [b] at hd;exact h y d hd
  ·rw [if_neg hk] at hd;exact h y d hd
theorem Cf {scope:RF} {env:Env} {x:Str} {c:QF} (e:(yZ scope env).lookup x=some c):env.cells.lookup x=some c:=Cy env _ _ x c (λ_ _ h=>by simp at h) e
theorem Cm (env:Env):∀(ns:List (Str×NameKind)) (cs:List (Str×QF)) (x:Str) (c:QF),(cs.lookup x=some c\/(x,NameKind.free)∈ns)->env.cells.lookup x=some c->(Ej env ns cs).lookup x=some c
 | [],_,x,c,h,_=>h.elim (λz=>z) (λz=>by simp at z)
 | (n,k)::r,cs,x,c,h,e=>by
  refine Cm env r _ x c ?_ e;rcases h with h | h
  ·refine .inl ?_
   split
   ·cases q:env.cells.lookup n with
    | none=>exact h
    | some a=>
     simp only [LU];cases b:x==n with
     | true=>rw [<-eq_of_beq b,e] at q;exact q.symm
     | false=>exact h
   ·exact h
  ·rcases IU.mp h with z | z
   ·injection z with z1 z2;subst z1 z2;refine .inl ?_;simp only [beq_self_eq_true,if_true,e,LU]
   ·exact .inr z
theorem Ce {scope:RF} {env:Env} {x:Str} {c:QF} (h:(x,NameKind.free)∈scope.names) (e:env.cells.lookup x=some c):(yZ scope env).lookup x=some c:=Cm env _ _ x c (.inr h) e
theorem oG {env:Env}:∀{names:List (Str×NameKind)} {x:Str},(∀y∈names,y.2≠.cell)->
    ((names.map λ(n,k)=>if (k==NameKind.free&&env.scope.kind==.function&&env.kindOf n==some .cell) then (n,NameKind.cell) else (n,k)).lookup x=some .cell\/
     (names.map λ(n,k)=>if (k==NameKind.free&&env.scope.kind==.function&&env.kindOf n==some .cell) then (n,NameKind.cell) else (n,k)).lookup x=some .free)->(x,NameKind.free)∈names
  | [],_,_,h=>by simp at h
  | (n,k)::r,x,hc,h=>by
    have ih:=@oG env r x λy hy=>hc y (JR _ hy);have hk:k≠.cell:=hc (n,k) MC;simp only [JK] at h
    by_cases q:(k==NameKind.free&&env.scope.kind==.function&&env.kindOf n==some .cell)=true
    . rw [if_pos q] at h
      simp only [LU] at h;cases b:x==n with
      | true=>
        have:k = .free:=by simp only [JY] at q;exact eq_of_beq q.1.1
        subst this;rw [eq_of_beq b];exact MC
      | false=>rw [b] at h;exact JR _ (ih h)
    . rw [if_neg q] at h
      simp only [LU] at h;cases b:x==n with
      | true=>
        rw [b] at h;rcases h with h | h
        . exact absurd (Option.some.inj h) hk
        . have:k = .free:=Option.some.inj h
          subst this;rw [eq_of_beq b];exact MC
      | false=>rw [b] at h;exact JR _ (ih h)
theorem qY {env:Env}:∀{names:List (Str×NameKind)} {x:Str},names.lookup x=some .free->
    ((names.map λ(n,k)=>if (k==NameKind.free&&env.scope.kind==.function&&env.kindOf n==some .cell) then (n,NameKind.cell) else (n,k)).lookup x=some .cell\/
     (names.map λ(n,k)=>if (k==NameKind.free&&env.scope.kind==.function&&env.kindOf n==some .cell) then (n,NameKind.cell) else (n,k)).lookup x=some .free)
  | [],_,h=>by simp at h
  | (n,k)::r,x,h=>by
    have ih:=@qY env r x;simp only [JK];simp only [LU] at h
    by_cases q:(k==NameKind.free&&env.scope.kind==.function&&env.kindOf n==some .cell)=true
    . rw [if_pos q]
      simp only [LU];cases b:x==n with
      | true=>exact .inl rfl
      | false=>rw [b] at h;exact ih h
    . rw [if_neg q]
      simp only [LU];cases b:x==n with
      | true=>rw [b] at h;exact .inr h
      | false=>rw [b] at h;exact ih h
def cO (X:Cx) (N':List Str) (scope:RF) (C:QF) (s3:Shared) (H3:Hp) (fp:List QF):Cx:=
 { X with N:=N',s₀:=s3,H₀:=H3,env:=compEnvC scope (yZ scope X.env) C X.env,outer:=X.stack,stack:=X.stack,ex:=fp,fn:=λ_=>false,pn:=[],xe:=λ_ _=>False }
def jC (t:Nat) (cap:List Nat) (σ:St):St:=KD t none++cap.map λk=>(σ[k]?).join
def W3 (J:It) (D:QF) (g:TG) (te:TE) (Q:VK) (σ:St) (H:Hp):Prop:=∃W:Nat->Nat->St->Hp->Prop,(∃m,W 0 m σ H)/\∀i m σ' H',W i m σ' H'->
 (J.stop i H'/\Q (.ref D) H')\/(J.go i H'/\∀x H2,J.yld i H' x H2->g x σ' H2 λσ3 H3=>te σ3 H3 λy H4=>∃ys,H4 D=some (.lst ys)/\ys.length<QP/\∃m',m'<m/\W (i+1) m' σ3 (upd H4 D (.lst (ys++[y]))))
def Ja (t:Nat) (cap:List Nat) (wi:TI) (g:TG) (te:TE):TE:=λσ H Q=>wi σ H λJ H1=>∀D,H1 D=none->W3 J D g te Q (jC t cap σ) (upd H1 D (.lst []))
def K9 (J:It) (D:QF) (g:TG) (tb:TT) (te:TE) (Q:VK) (σ:St) (H:Hp):Prop:=∃W:Nat->Nat->St->Hp->Prop,(∃m,W 0 m σ H)/\∀i m σ' H',W i m σ' H'->
 (J.stop i H'/\Q (.ref D) H')\/(J.go i H'/\∀x H2,J.yld i H' x H2->g x σ' H2 λσ3 H3=>tb σ3 H3 λok yb=>if ok=true then te σ3 yb λy H4=>∃ys,H4 D=some (.lst ys)/\ys.length<QP/\∃m',m'<m/\W (i+1) m' σ3 (upd H4 D (.lst (ys++[y]))) else ∃m',m'<m/\W (i+1) m' σ3 yb)
def uL (t:Nat) (cap:List Nat) (wi:TI) (g:TG) (tb:TT) (te:TE):TE:=λσ H Q=>wi σ H λJ H1=>∀D,H1 D=none->K9 J D g tb te Q (jC t cap σ) (upd H1 D (.lst []))
def BL (X:Cx) (ifs:List Expr) (t:TT):Prop:=
 ∀(pins:List (QF×Obj)) (s:Shared) (σ:St) (H:Hp) (Q:Bool->Hp->Prop),aY X pins σ H s->t σ H Q->QL (QV X.prog X.w) X.A (forIn ifs true λc r=>if r=true then do let ok <-isTrue c X.env (RB c X.env);pure (ForInStep.yield ok) else pure (ForInStep.yield r)) (TP X pins σ Q) X.xe s
theorem PT.one {X:Cx} {c:Expr} {t:TT} (h:PT X c t):BL X [c] t:=λ_ _ _ _ _ I z=>wpAny_tests_one (h _ _ _ _ _ I z)
structure bK (X:Cx) (N':List Str) (scope:RF) (t:Nat) (cap:List Nat):Prop where
 kind:scope.kind = .function
 cell:∀y∈scope.names,y.2≠.cell
 names:∀y∈scope.names,y.2 = .local->scope.names.lookup y.1=some .local
 free:∀y∈scope.names,y.2 = .free->(X.env.kindOf y.1=some .cell\/X.env.kindOf y.1=some .free)
 len:N'.length=t+cap.length
 caps:∀(j k:Nat),cap[j]? = some k->∃x,N'[t+j]? = some x/\X.N[k]? = some x/\scope.names.lookup x=some .free
section
variable {X:Cx}
theorem Gk {pins:List (QF×Obj)} {σ:St} {H3:Hp} {s3:Shared} {N':List Str} {scope:RF} {t:Nat} {cap:List Nat} {fp:List QF} {h₁:Heap} {tk:Nat} (S:bK X N' scope t cap) (I3:aY X pins σ H3 s3)
  (hf:∀b∈fp,oK X pins H3 b) (hob:∀b∈fp,∃o,s3.heap.get? b=some o) (ZR:h₁.Ns s3.heap.objs.size λ_=>none) (k:∀b o,s3.heap.get? b=some o->h₁.get? b=some o) :
  aY (cO X N' scope s3.heap.objs.size s3 H3 fp) [] (jC t cap σ) H3 { s3 with heap:=h₁,toks:=tk }:=by
 have WC:∀{x:Str} {c:QF},(yZ scope X.env).lookup x=some c->X.env.cells.lookup x=some c:=λe=>Cf e;have YG:∀{c:QF} {v:Option Value},s3.heap.IsCell c v->h₁.IsCell c v:=λ⟨o,e,d⟩=>⟨o,k _ _ e,d⟩;have bt:∀{x:Str},scope.names.lookup x=some .free->(x,NameKind.free)∈scope.names:=λe=>PySem.mem_of_lookup e;refine ⟨⟨I3.mod,S.kind,I3.ok.glob,I3.ok.blt,IW _,?_,?_,?_,I3.ok.hd,I3.ok.frames,.inl rfl,?_,I3.bs,KS I3.ok.bsz I3.sz,?_,?_,I3.stack,I3.stkFree⟩,
  rfl,I3.bare,Un.kept k,⟨_,ZR,?_⟩,?_,?_,?_,?_,I3.hok.kept k,?_⟩
 ·intro x y c h1 h2;exact I3.ok.inj x y c (WC h1) (WC h2)
 ·intro x hx;have hm:(x,NameKind.free)∈scope.names:=oG S.cell hx;obtain ⟨c,hc⟩:=I3.ok.has x (S.free _ hm rfl);exact ⟨c,Ce hm hc⟩
 ·intro x c h;cases h
 ·intro b hb;obtain ⟨o,ho⟩:=hob b hb;exact ⟨JU (JD ho),λx c e=>(hf b hb).2.2.2.2.1 x c (WC e)⟩
 ·intro b o e hb;rcases (hf b hb).2.2.2.1 with z | z
  ·exact I3.ok.noex b o e z
  ·exact absurd (JH (JH (JD e) I3.ok.bsz) z) (Nat.lt_irrefl _)
 ·intro b hb hz;rcases IU.mp (I3.stkSub b hz) with z | z
  ·exact (hf b hb).2.1 z
  ·exact (hf b hb).2.2.1 z
 ·intro i x v e1 e2 e3;have ht:t<=i:=by
   rcases LZ i t with q | q
   ·unfold jC at e2;rw [JP (by simpa using q),PJ] at e2;split at e2<;>cases e2
   ·exact q
  obtain ⟨j,rfl⟩:∃j,i=t+j:=⟨i-t,by omega⟩;unfold jC at e2;rw [KY (by simp),NI,Nat.add_sub_cancel_left,JC] at e2;cases q:cap[j]? with
  | none=>rw [q] at e2;cases e2
  | some m=>
   rw [q] at e2;have oj:(σ[m]?).join=some v:=Option.some.inj e2;have tj:σ[m]? = some (some v):=by
    cases z:σ[m]? with
    | none=>rw [z] at oj;cases oj
    | some w=>rw [z] at oj;have:w=some v:=oj;rw [this]
   obtain ⟨x',c1,c2,c3⟩:=S.caps j m q;have ex:x'=x:=by
    have jr:N'[t+j]? = some x:=e1;rw [c1] at jr;exact Option.some.inj jr
   subst ex;have hk:=S.free _ (bt c3) rfl;obtain ⟨mm,hn,hl⟩:=I3.loc;obtain ⟨u,r,L⟩:=hl m x' v c2 tj (by rcases hk with z | z;exact .inr (.inl z);exact .inr (.inr z));refine ⟨u,r,?_⟩;rcases L with ⟨z,_⟩ | ⟨_,c,hc,YC⟩
   ·rcases hk with y | y<;>(have y':X.env.kindOf x'=_:=y;rw [z] at y';cases y')
   ·exact .inr ⟨qY c3,c,Ce (bt c3) hc,YG YC⟩
 ·intro x c e;obtain ⟨v,z⟩:=I3.cell x c (WC e);exact ⟨v,YG z⟩
 ·exact I3.hok.fresh (IW _)
 ·intro x c e;exact I3.freeC x c (WC e)
 ·intro p hp;exact absurd (show p∈([]:List (QF×Obj)) from hp) (by simp)
 ·show (jC t cap σ).length=N'.length;unfold jC;rw [S.len,IY,NI,IS]
theorem wL {target elt iter:Expr} {ifs:List Expr} {scope:RF} {pos:Pos} {N':List Str} {cap:List Nat} {t:Nat} {wi:TI} {g:TG} {tb:TT} {te:TE} {use:Option (Value->Sem Unit)} {QQ:Value->Shared->Prop} {pins:List (QF×Obj)} {s:Shared} {σ:St} {H:Hp} {Q:VK} (hc:X.calm=true) (S:bK X N' scope t cap) (hi:PI X target iter wi)
  (hg:∀C s3 H3 fp,PG (cO X N' scope C s3 H3 fp) target g) (hb:∀C s3 H3 fp,BL (cO X N' scope C s3 H3 fp) ifs tb) (he:∀C s3 H3 fp,PE (cO X N' scope C s3 H3 fp) elt te) (hs:∀x,QX iter X.env x=pure x) (I:aY X pins σ H s) (h:uL t cap wi g tb te σ H Q)
  (fin:∀(s3 s6:Shared) (H3 H5:Hp) (fp:List QF) (D:QF) (m:Str->Option Value),aY X pins σ H3 s3->(∀b∈fp,(b∈X.ex\/X.s₀.heap.objs.size<=b)/\b≠X.env.locals/\(∀x c,X.env.cells.lookup x=some c->c≠b)/\∀p∈X.pn++pins,p.1≠b)->s6.heap.Ns s3.heap.objs.size m->Un (Jp X.stack) fp H3 H5 s3.heap s6.heap->nX X.prog X.w H5 s6.heap->H5 s3.heap.objs.size=none->s6.os=s3.os->SH s6.gens->Q (.ref D) H5->compPost (QV X.prog X.w) X.A X.xe use QQ (.ref D) s3.heap.objs.size (.ok .next) s6) :
  QL (QV X.prog X.w) X.A (comprehension (.ListComp elt [⟨target,iter,ifs,0⟩] scope pos) scope X.env (firstIterPos [⟨target,iter,ifs,0⟩] pos) (newList []) (firstAsync [⟨target,iter,ifs,0⟩]) (firstIter [⟨target,iter,ifs,0⟩] X.env) use) QQ X.xe s:=by
 refine wpAny_comprehension_free (cl:=yZ scope X.env) rfl hs (vB λy hy hf=>I.ok.has y.1 (S.free y hy hf)) S.kind S.names (dM (hi pins s σ H _ I h) λv s1 h1=>dM h1 λqy s2 h2=>?_);obtain ⟨it,fp,tn,J,H2,e,I2,T,bf,f2,h2⟩:=h2;subst e;refine RD (wpAny_newFunctionEnv S.cell (by intro y hy;simp at hy) (λh₁ ZR₁ yc₁=>?_) S.kind)
 dsimp only at ZR₁ yc₁ ⊢
 obtain ⟨s3,jt⟩:∃s3:Shared,s3 = { s2 with heap:=s2.heap.push { cls:=.type "list",dict:=none,data:=.seq ([]:List Value).toArray } }:=⟨_,rfl⟩;have hD:H2 s2.heap.objs.size=none:=I2.hok.fresh (IW _);have I3:aY X pins σ (upd H2 s2.heap.objs.size (.lst [])) s3:=by
  rw [jt];exact I2.laid (t':=s2.toks) (λb u e=>IX _ e) (IW _) ⟨LM _,[],0,.nil,JL _ rfl⟩
 have ju:∀b o,s2.heap.get? b=some o->s3.heap.get? b=some o:=λb o e=>by rw [jt];exact IX _ e
 have hC:(s2.heap.push { cls:=.type "list",dict:=none,data:=.seq ([]:List Value).toArray }).objs.size=s3.heap.objs.size:=by rw [jt]
 have f3:∀b∈fp,oK X pins (upd H2 s2.heap.objs.size (.lst [])) b:=λb hb=>by
  obtain ⟨o,ho,_⟩:=T.obj _ _ bf b hb;refine ⟨?_,(f2 b hb).2⟩;rw [bC (JU (JD ho))];exact (f2 b hb).1
 have yd:∀b∈fp,∃o,s3.heap.get? b=some o:=λb hb=>by
  obtain ⟨o,ho,_⟩:=T.obj _ _ bf b hb;exact ⟨o,ju b o ho⟩
 have k1:∀b o,s3.heap.get? b=some o->h₁.get? b=some o:=λb o e=>by
  refine yc₁.extBut b o ?_ ?_
  ·rw [hC];exact JU (JD e)
  ·rw [jt] at e;exact IX _ e
 have ZR:h₁.Ns s3.heap.objs.size λ_=>none:=by
  rw [<-hC];exact ZR₁
 have I4:=Gk (tk:=s2.toks+([]:List (Str×Value)).length) S I3 f3 yd ZR k1;have ye:tn 0 h₁:=T.keep _ _ _ bf λb hb o e=>k1 b o (ju b o e);obtain ⟨W,⟨m0,w0⟩,turn⟩:=h2 _ hD
 -- the block's context
 obtain ⟨X',WN⟩:∃X':Cx,X'=cO X N' scope s3.heap.objs.size s3 (upd H2 s2.heap.objs.size (.lst [])) fp:=⟨_,rfl⟩;have yf:PG X' target g:=by rw [WN];exact hg _ _ _ _
 have om:PE X' elt te:=by rw [WN];exact he _ _ _ _
 have tm:BL X' ifs tb:=by rw [WN];exact hb _ _ _ _
 have XR:∀{H':Hp},(∀b∈fp,H' b=none)->∀b∈fp,oK X' [] H' b:=λhn b hb=>by
  obtain ⟨o,ho⟩:=yd b hb;rw [WN];refine ⟨hn b hb,JU (JD ho),?_,.inl hb,λx c e=>(f3 b hb).2.2.2.2.1 x c (Cf e),λp hp=>absurd (show p∈([]:List (QF×Obj)) from hp) (by simp)⟩;intro hz;rcases IU.mp (I3.stkSub b hz) with z | z
  ·exact (f3 b hb).2.1 z
  ·exact (f3 b hb).2.2.1 z
 have bu:X'.calm=true:=by rw [WN];exact hc
 have loop:codeAny (QV X.prog X.w) X.A (.compLoop (.ListComp elt [⟨target,iter,ifs,0⟩] scope pos) 0 (.ref it) (.ref s2.heap.objs.size) (compEnvC scope (yZ scope X.env) s3.heap.objs.size X.env))
   (compPost (QV X.prog X.w) X.A X.xe use QQ (.ref s2.heap.objs.size) s3.heap.objs.size) { s3 with heap:=h₁,toks:=s2.toks+([]:List (Str×Value)).length }:=by
  refine mS (λn s'=>∃i σ' H',aY X' [] σ' H' s'/\tn i s'.heap/\(∀b∈fp,H' b=none)/\W i n σ' H') ?_ m0 ⟨0,jC t cap σ,_,by rw [WN];exact I4,ye,λb hb=>(f3 b hb).1,w0⟩;rintro n s5 ⟨i,σ5,H5,I5,gy,nr,w5⟩;rcases turn i n σ5 H5 w5 with ⟨stop,qn⟩ | ⟨go,step⟩
  ·have q:=T.done X' (by rw [WN];rfl) (by rw [WN];rfl) (by rw [WN];rfl) bu i [] s5 σ5 H5 (λ_ _=>False) I5 (XR nr) gy stop;have eA:X'.A=X.A:=by rw [WN];rfl
   rw [eA] at q;refine dM q λr s6 ⟨hr,I6⟩=>?_;subst hr;obtain ⟨m,hn,_⟩:=I6.loc;have ZK:s6.heap.Ns s3.heap.objs.size m:=by rw [WN] at hn;exact hn
   have YS:Un (Jp X.stack) fp (upd H2 s2.heap.objs.size (.lst [])) H5 s3.heap s6.heap:=by have:=I6.base;rw [WN] at this;exact this
   have YT:nX X.prog X.w H5 s6.heap:=by have:=I6.hok;rw [WN] at this;exact this
   have XA:H5 s3.heap.objs.size=none:=by have:=I6.free;rw [WN] at this;exact this
   have jv:s6.os=s3.os:=by have:=I6.os;rw [WN] at this;exact this
   exact fin _ _ _ _ _ _ _ I3 (λb hb=>⟨(f3 b hb).2.2.2.1,(f3 b hb).2.1,(f3 b hb).2.2.2.2.1,(f3 b hb).2.2.2.2.2⟩) ZK YS YT XA jv I6.bare qn
  ·have q:=T.item X' (by rw [WN];rfl) (by rw [WN];rfl) (by rw [WN];rfl) bu i [] s5 σ5 H5 (λ_ _=>False) I5 (XR nr) gy go;have eA:X'.A=X.A:=by rw [WN];rfl
   have eP:X'.prog=X.prog:=by rw [WN];rfl
   have eW:X'.w=X.w:=by rw [WN];rfl
   have eE:X'.env=compEnvC scope (yZ scope X.env) s3.heap.objs.size X.env:=by rw [WN];rfl
   have eX:X'.xe=λ_ _=>False:=by rw [WN];rfl
   rw [eA] at q;refine dM q λr s6 ⟨u,hr,h6⟩=>?_;subst hr;refine dM h6 λ_ s7 ⟨x,H7,I7,r7,y7,jw,fr7⟩=>?_;have I7':=I7.pinned (XR fr7) (T.obj _ _ jw);have q8:=yf _ s7 σ5 H7 x u _ I7' r7 (step x H7 y7);rw [eA,eP,eW,eE,eX] at q8;refine dM q8 λ_ s8 ⟨σ8,H8,I8,w8⟩=>?_;have yg:=tm _ s8 σ8 H8 _ I8 w8;rw [eA,eP,eW,eE,eX] at yg;refine dM yg λok s8 ⟨H8,I8,w8⟩=>?_;cases ok with
   | false=>
    obtain ⟨m',hm,w9⟩:=w8;refine ⟨m',hm,i+1,σ8,_,I8.unpinned,T.keep _ _ _ jw λb hb o e=>(I8.pin (b,o) (JF _ (JF _ (gX hb e)))).1,λb hb=>?_,w9⟩;obtain ⟨o,e,d⟩:=T.obj _ _ jw b hb;exact (I8.pin (b,o) (JF _ (JF _ (gX hb e)))).2.1
   | true=>
    have q9:=om _ s8 σ8 H8 _ I8 w8;rw [eA,eP,eW,eE,eX] at q9;refine dM q9 λy s9 ⟨v9,H9,I9,r9,ys,hD9,VP,m',hm,w9⟩=>?_;have yh:=vN (X:=X') _ s9 σ8 H9 (.ref s2.heap.objs.size) [v9] (.ref s2.heap.objs.size) [y] (λ_ yi=>yi=upd H9 s2.heap.objs.size (.lst (ys++[v9]))) I9 rfl (.cons r9 .nil) ⟨_,ys,v9,rfl,rfl,hD9,VP,rfl⟩;rw [eA,eP,eW,eX] at yh;refine dM yh λ_ s10 ⟨v10,yi,tq,r10,e10⟩=>?_;subst e10;refine ⟨m',hm,i+1,σ8,_,tq.unpinned,T.keep _ _ _ jw λb hb o e=>(tq.pin (b,o) (JF _ (JF _ (gX hb e)))).1,λb hb=>?_,w9⟩;obtain ⟨o,e,d⟩:=T.obj _ _ jw b hb;exact (tq.pin (b,o) (JF _ (JF _ (gX hb e)))).2.1
 have es:({ s2 with heap:=h₁,toks:=s2.toks+([]:List (Str×Value)).length }:Shared) = { s3 with heap:=h₁,toks:=s2.toks+([]:List (Str×Value)).length }:=by rw [jt]
 rw [es,hC];exact codeAny_compStart_list loop (T.self _ 0 _ _ _ ye loop)
theorem Bk {target elt iter:Expr} {ifs:List Expr} {scope:RF} {pos:Pos} {N':List Str} {cap:List Nat} {t:Nat} {wi:TI} {g:TG} {tb:TT} {te:TE} (hc:X.calm=true) (S:bK X N' scope t cap) (hi:PI X target iter wi)
  (hg:∀C s3 H3 fp,PG (cO X N' scope C s3 H3 fp) target g) (hb:∀C s3 H3 fp,BL (cO X N' scope C s3 H3 fp) ifs tb) (he:∀C s3 H3 fp,PE (cO X N' scope C s3 H3 fp) elt te) (hs:∀x,QX iter X.env x=pure x:=by intro _;rfl) :
  PE X (.ListComp elt [⟨target,iter,ifs,0⟩] scope pos) (uL t cap wi g tb te):=by
 intro pins s σ H Q I h;rw [eval_ListComp];refine wL hc S hi hg hb he hs I h λs3 s6 H3 H5 fp D m I3 f3 ZK YS YT XA jv ba qn=>⟨m,ZK,λh' ZG=>?_⟩;have kp:∀b o,b≠s3.heap.objs.size->s6.heap.get? b=some o->h'.get? b=some o:=λb o hb e=>ZG.extBut b o hb e;have av:∀{b:QF} {o:Obj},s3.heap.get? b=some o->b≠s3.heap.objs.size:=λe=>JU (JD e);have un7:Un (Jp X.stack) fp (H3) H5 s3.heap h':=
  ⟨λb o e n1 n2 n3=>kp b o (av e) (YS.keep b o e n1 n2 n3),λb o e n1 n2 n3=>by obtain ⟨sl,z⟩:=YS.slot b o e n1 n2 n3;exact ⟨sl,kp b _ (av e) z⟩,YS.free,
   λb o e n3=>by obtain ⟨o',z⟩:=YS.there b o e n3;exact ⟨o',kp b _ (av e) z⟩,YS.tups,YS.frzs,YS.tbls⟩
 have tu:nX X.prog X.w H5 h':=λb ob e=>by
  refine (YT b ob e).stay (λc w' XC q=>kp c w' ?_ q) (λ_ q=>q) λ_ _ q=>q;rintro rfl;rcases XC with rfl | XC
  ·rw [XA] at e;cases e
  ·rw [XA] at XC;cases XC
 exact ⟨.ref D,H5,I3.call' (s':={ s6 with heap:=h' }) (ch:=fp) jv un7 tu ba f3,rfl,qn⟩
theorem Xd {target elt iter:Expr} {scope:RF} {pos:Pos} {N':List Str} {cap:List Nat} {t:Nat} {wi:TI} {g:TG} {te:TE} (hc:X.calm=true) (S:bK X N' scope t cap) (hi:PI X target iter wi)
  (hg:∀C s3 H3 fp,PG (cO X N' scope C s3 H3 fp) target g) (he:∀C s3 H3 fp,PE (cO X N' scope C s3 H3 fp) elt te) (hs:∀x,QX iter X.env x=pure x:=by intro _;rfl) :
  PE X (.ListComp elt [⟨target,iter,[],0⟩] scope pos) (Ja t cap wi g te):=λpins s σ H Q I h=>Bk (tb:=λ_ H Q=>Q true H) hc S hi hg (λ_ _ _ _ _ _ _ _ _ I z=>wpAny_tests_nil ⟨_,I,z⟩) he hs pins s σ H Q I h
end
section
variable {X:Cx} {pos:Pos}
def C1 (i j k:Nat) (ta:TA):TS:=λD σ H=>ta σ H λvs H1=>∃v w z,vs=[v,w,z]/\D.nx (((σ.set i (some v)).set j (some w)).set k (some z)) H1
theorem Vq {i j k:Nat} {x y z:Str} {a b c:Expr} {ta:TA} {px py pz pt:Pos} {kt k2 pt2} (hc:X.calm=true) (hN:X.N.Nodup) (hi:X.N[i]? = some x) (hj:X.N[j]? = some y) (hk:X.N[k]? = some z) (YD:i≠j) (bw:i≠k) (bz:j≠k)
  (hx:X.env.scope.names.lookup x=some .local) (hy:X.env.scope.names.lookup y=some .local) (hz:X.env.scope.names.lookup z=some .local) (ha:PA X [a,b,c] ta)
  (hw:RJ [.Tuple [.Name x px,.Name y py,.Name z pz] kt pt] (.Tuple [a,b,c] k2 pt2) X.env=pure (some [x,y,z]))
  (hs:RI [.Tuple [.Name x px,.Name y py,.Name z pz] kt pt] (.Tuple [a,b,c] k2 pt2) pos.line X.env=pure false:=by rfl) :
  PS X (.Assign [.Tuple [.Name x px,.Name y py,.Name z pz] kt pt] (.Tuple [a,b,c] k2 pt2) pos) (C1 i j k ta):=by
 intro pins s σ H D I h;rw [exec_Assign_arm];refine QH (SN ?_);rw [hs];refine QH (QN ?_);rw [if_neg (by decide)];refine QH (Tuple_ (dM (ha _ pins s σ H _ I h) λus s1 ⟨vs,H1,I1,r1,q1⟩=>?_));obtain ⟨v,w,zz,e1,q1⟩:=q1;subst e1;obtain ⟨u1,u2,u3,rfl,rv,ZN,rz⟩:∃u1 u2 u3,us=[u1,u2,u3]/\bP v u1/\bP w u2/\bP zz u3:=by
  cases r1 with
  | cons p q=>
   cases q with
   | cons p' q'=>
    cases q' with
    | cons p'' q''=>
     cases q'';exact ⟨_,_,_,rfl,p,p',p''⟩
 refine RD ?_ (by show 3<=QP;decide);have I2:aY X pins σ H1 { s1 with heap:=s1.heap.push { cls:=.type "tuple",data:=.seq [u1,u2,u3].toArray } }:=I1.kept (t':=s1.toks) λb o e=>IX _ e;rw [hw];refine QH (QN ?_);show QL (QV X.prog X.w) X.A (do rule "assign.swapped-stores";let items <-unpackItems (.ref s1.heap.objs.size) 3 none;SM [λv=>RY X.env z v,λv=>RY X.env y v,λv=>RY X.env x v] items.reverse;pure Flow.next) _ _ _;refine QH (RZ (QH (unpackItems_tuple (items:=#[u1,u2,u3]) (I.ok.hd hc) (IsTup.new s1.heap _) λh' cy=>?_)));have I3:=I2.kept (h':=h') (t':=s1.toks) λb o e=>cy b o (JU (JD e)) e;show QL _ _ (SM [λv=>RY X.env z v,λv=>RY X.env y v,λv=>RY X.env x v] [u3,u2,u1] >>= λ_=>pure Flow.next) _ _ _;refine QH (RP (SI (i4 I3 hN hk (.inl hz) rz (λs2 I4=>?_) (.inr hz))));refine RP (SI (i4 I4 hN hj (.inl hy) ZN (λs3 I5=>?_) (.inr hy)));refine RP (SI (i4 I5 hN hi (.inl hx) rv (λs4 I6=>SX (QN ?_)) (.inr hx)));rw [MZ _ _ (Ne.symm YD),MZ _ _ (Ne.symm bw),MZ _ _ (Ne.symm bz)] at I6;exact ⟨_,H1,I6,q1⟩
structure Fn (P:QJ) (w:QM) (K:W.Frag) (mg:Str->Option Value) (base:Heap) (k:Nat) (x:Str) (ps:List Str) (sp:Sp):Prop where
 ex:∃f fd,bJ P w K mg base fF k f fd ps sp/\mg x=some (.ref f)/\W.keepIn K (.ref f)=true/\kH K fd ps []
theorem CI {k j:Nat} {x:Str} {ps:List Str} {sp:Sp} {e:Expr} {es:List Expr} {t:TA} {p:Pos} (F:Fn X.prog X.w X.K X.mg X.base k x ps sp) (hr:fD j X.A) (hk:k<=j) (hg:Gl X x) (ha:PA X (e::es) t) (WM:(x==("__debug__":Str))=false:=by decide)
  (he:QY (e::es) X.env=(false,RB e X.env)::QY es X.env:=by rfl) (bh:(SD pos (QY es X.env)).any (·.1)=false:=by rfl):PE X (.Call (.Name x p) (e::es) [] pos) (Cr sp [] E0 t):=by
 obtain ⟨f,fd,F,hm,hkp,hb⟩:=F.ex;exact Wv F (hr.mono hk) hg hm hkp hb .nil BU ha WM he bh
end
def cS:Expr->Bool
 | .Starred _ _=>true
 | _=>false
theorem dP {e:Expr} {es:List Expr} {env:Env} (h:cS e=false):QY (e::es) env=(false,RB e env)::QY es env:=by
 cases e<;>first | rfl | (simp [cS] at h)
def bV:List Expr->Bool
 | []=>true
 | e::es=>!cS e&&bV es
theorem iB {pos:Pos} {env:Env}:∀{es:List Expr},bV es=true->(SD pos (QY es env)).any (·.1)=false
 | [],_=>rfl
 | e::es,h=>by
  have h1:cS e=false:=by simp only [bV,JY,NW] at h;exact h.1
  have h2:bV es=true:=by simp only [bV,JY] at h;exact h.2
  have ih:=iB (pos:=pos) (env:=env) h2;rw [dP h1];simp only [SD,JK,QC,Bool.false_or] at ih ⊢;exact ih
section
variable {X:Cx} {pos:Pos} {e:Expr} {es:List Expr} {te:TE} {t:TA}
theorem pc (ha:PE X e te) (hr:PA X es t) (hs:cS e=false:=by rfl):PA X (e::es) (Pq te t):=Xe ha hr (dP hs)
theorem R6 {k j:Nat} {x:Str} {ps:List Str} {sp:Sp} {p:Pos} (F:Fn X.prog X.w X.K X.mg X.base k x ps sp) (hr:fD j X.A) (hk:k<=j) (hg:Gl X x) (ha:PA X (e::es) t) (WM:(x==("__debug__":Str))=false:=by decide)
  (hs:bV (e::es)=true:=by rfl):PE X (.Call (.Name x p) (e::es) [] pos) (Cr sp [] E0 t):=
 CI F hr hk hg ha WM (dP (by simp only [bV,JY,NW] at hs;exact hs.1)) (iB (by simp only [bV,JY] at hs;exact hs.2))
theorem Nf {x:Str} {p:Pos} {id:String} {r:List V->Hp->VK->Prop} (hc:gQ X (.builtin id) r) (hg:Gl X x) (hm:X.mg x=none) (hv:RK x=some (.builtin id)) (ha:PA X (e::es) t) (hn:x≠"__name__":=by decide) (WM:(x==("__debug__":Str))=false:=by decide)
  (hs:bV (e::es)=true:=by rfl):PE X (.Call (.Name x p) (e::es) [] pos) (V4 r t):=
 Rh hc hg hm hv ha hn WM (dP (by simp only [bV,JY,NW] at hs;exact hs.1)) (iB (by simp only [bV,JY] at hs;exact hs.2))
theorem Ga {x:Str} {p:Pos} {T:String} {r:List V->Hp->VK->Prop} (hc:gQ X (.type T) r) (hg:Gl X x) (hm:X.mg x=none) (hv:RK x=some (.type T)) (ha:PA X (e::es) t) (hn:x≠"__name__":=by decide) (WM:(x==("__debug__":Str))=false:=by decide)
  (hs:bV (e::es)=true:=by rfl):PE X (.Call (.Name x p) (e::es) [] pos) (V4 r t):=
 Ni hc hg hm hv ha hn WM (dP (by simp only [bV,JY,NW] at hs;exact hs.1)) (iB (by simp only [bV,JY] at hs;exact hs.2))
end
structure QE (X:Cx) (e:Expr) (t:TE):Prop where
 h:PE X e t
structure QT (X:Cx) (e:Expr) (t:TT):Prop where
 h:PT X e t
structure QW (X:Cx) (e:Expr) (t:TT):Prop where
 h:PW X e t
structure QA (X:Cx) (es:List Expr) (t:TA):Prop where
 h:PA X es t
structure QS (X:Cx) (st:QU) (t:TS):Prop where
 h:PS X st t
structure QB (X:Cx) (st:List QU) (t:TS):Prop where
 h:Ha X st t
structure QG (X:Cx) (e:Expr) (t:TG):Prop where
 h:PG X e t
structure Fx (X:Cx) (es:List Expr) (t:Nx):Prop where
 h:CJ X es t
structure QI (X:Cx) (tg e:Expr) (t:TI):Prop where
 h:PI X tg e t
structure QO (X:Cx) (e:Option Expr) (t:TO):Prop where
 h:PO X e t
def Ia (sc scope:RF) (N N':List Str) (t:Nat) (cap:List Nat):Bool:=
 decide (scope.kind = .function)&&scope.names.all (λy=>decide (y.2≠.cell))&&scope.names.all (λy=>decide (y.2 = .local->scope.names.lookup y.1=some .local)) &&
 scope.names.all (λy=>decide (y.2 = .free->(sc.names.lookup y.1=some .cell\/sc.names.lookup y.1=some .free)))&&decide (N'.length=t+cap.length) &&
 (LA cap.length).all (λj=>match cap[j]?,N'[t+j]? with | some k,some x=>decide (N[k]? = some x/\scope.names.lookup x=some .free) | _,_=>false)
theorem bK.of {X:Cx} {N':List Str} {scope:RF} {t:Nat} {cap:List Nat} (h:Ia X.env.scope scope X.N N' t cap=true):bK X N' scope t cap:=by
 simp only [Ia,JY,LK,decide_eq_true_eq] at h;obtain ⟨⟨⟨⟨⟨h1,h2⟩,h3⟩,h4⟩,h5⟩,h6⟩:=h;refine ⟨h1,h2,h3,h4,h5,λj k e=>?_⟩;have hj:j<cap.length:=(IT.mp e).1;have h:=h6 j (LI.mpr hj);rw [e] at h;cases q:N'[t+j]? with
 | none=>rw [q] at h;cases h
 | some x=>
  rw [q] at h;have h':=of_decide_eq_true h;exact ⟨x,rfl,h'.1,h'.2⟩
section
variable {X:Cx} {pos:Pos} {a b c e l o i value:Expr} {es:List Expr} {ta tb te to ti tl:TE} {tc tA ZL:TT} {t u oq:TS} {tr:TA} {g:TG} {gs:Nx} {wi:TI} {st:QU} {WO body b1 b2:List QU} {rest:List Expr}
theorem H0:QB X [] C9:=⟨Xz⟩
theorem oX (h1:QS X st t) (h2:QB X WO u):QB X (st::WO) (CV t u):=⟨Tx h1.h h2.h⟩
theorem Ee (h1:QS X st t):QB X [st] t:=⟨Xp h1.h⟩
theorem Uy (h:QE X e te):QS X (.Return (some e) pos) (CN te):=⟨P0 h.h⟩
theorem CG (hc:QT X c tc) (ha:QB X b1 t) (hb:QB X b2 u):QS X (.If c b1 b2 pos) (BP tc t u):=⟨Z3 hc.h ha.h hb.h⟩
theorem Rk (hp:PassesOwn (QV X.prog X.w) X.A X.env X.xe) (hc:QT X c tc) (hb:QB X body oq):QS X (.While c body [] pos) (Pu tc oq):=⟨Tc hp hc.h hb.h⟩
theorem Ek {tg iter:Expr} (hp:PassesOwn (QV X.prog X.w) X.A X.env X.xe) (hc:X.calm=true) (hi:QI X tg iter wi) (hg:QG X tg g) (hb:QB X body oq) (hs:∀x,QX iter X.env x=pure x:=by intro _;rfl) :
  QS X (.For tg iter body [] pos) (X8 wi g oq):=⟨N5 hp hc hi.h hg.h hb.h hs⟩
theorem Ki (he:QE X e te) (hs:RN e none pos.line X.env=pure false:=by rfl):QS X (.Expr e pos) (D1 te):=⟨Vv he.h hs⟩
theorem xI {i:Nat} {x:Str} {pos':Pos} (hN:X.N.Nodup) (hi:X.N[i]? = some x) (hx:Eh X.env.scope x) (he:QE X e te) (hs:RN e (some (.Name x pos')) pos.line X.env=pure false:=by rfl)
  (hf:X.fn x=true\/X.env.scope.names.lookup x=some .local:=by first | exact .inl rfl | exact .inr rfl | assumption):QS X (.Assign [.Name x pos'] e pos) (Mm te (wW i)):=⟨K7 hN hi hx he.h hs hf⟩
theorem Q1 {tg:Expr} (he:QE X e te) (hg:QG X tg g) (hs:RI [tg] e pos.line X.env=pure false:=by rfl) (hw:RJ [tg] e X.env=pure none:=by rfl)
  (h1:(QZ [tg] X.env).map (·.2)=[SE tg X.env]:=by rfl):QS X (.Assign [tg] e pos) (Mm te g):=⟨U4 he.h hg.h hs hw h1⟩
theorem U1 {i j:Nat} {x y:Str} {px py pt:Pos} {kt k2 pt2} (hc:X.calm=true) (hN:X.N.Nodup) (hi:X.N[i]? = some x) (hj:X.N[j]? = some y) (YD:i≠j)
  (hx:X.env.scope.names.lookup x=some .local) (hy:X.env.scope.names.lookup y=some .local) (ha:QA X [a,b] tr)
  (hw:RJ [.Tuple [.Name x px,.Name y py] kt pt] (.Tuple [a,b] k2 pt2) X.env=pure (some [x,y]))
  (hs:RI [.Tuple [.Name x px,.Name y py] kt pt] (.Tuple [a,b] k2 pt2) pos.line X.env=pure false:=by rfl) :
  QS X (.Assign [.Tuple [.Name x px,.Name y py] kt pt] (.Tuple [a,b] k2 pt2) pos) (W7 i j tr):=⟨O3 hc hN hi hj YD hx hy ha.h hw hs⟩
theorem Ht {i j k:Nat} {x y z:Str} {px py pz pt:Pos} {kt k2 pt2} (hc:X.calm=true) (hN:X.N.Nodup) (hi:X.N[i]? = some x) (hj:X.N[j]? = some y) (hk:X.N[k]? = some z) (YD:i≠j) (bw:i≠k) (bz:j≠k)
  (hx:X.env.scope.names.lookup x=some .local) (hy:X.env.scope.names.lookup y=some .local) (hz:X.env.scope.names.lookup z=some .local) (ha:QA X [a,b,c] tr)
  (hw:RJ [.Tuple [.Name x px,.Name y py,.Name z pz] kt pt] (.Tuple [a,b,c] k2 pt2) X.env=pure (some [x,y,z]))
  (hs:RI [.Tuple [.Name x px,.Name y py,.Name z pz] kt pt] (.Tuple [a,b,c] k2 pt2) pos.line X.env=pure false:=by rfl) :
  QS X (.Assign [.Tuple [.Name x px,.Name y py,.Name z pz] kt pt] (.Tuple [a,b,c] k2 pt2) pos) (C1 i j k tr):=⟨Vq hc hN hi hj hk YD bw bz hx hy hz ha.h hw hs⟩
theorem Kv {i:Nat} {x:Str} (hN:X.N.Nodup) (hi:X.N[i]? = some x) (hx:Eh X.env.scope x) (hf:X.fn x=true\/X.env.scope.names.lookup x=some .local:=by first | exact .inl rfl | exact .inr rfl | assumption):QG X (.Name x pos) (wW i):=⟨Xl hN hi hx hf⟩
theorem Hk:Fx X [] BR:=⟨Xg⟩
theorem Bs (h1:QG X e g) (h2:Fx X es gs) (hs:(QZ (e::es) X.env).map (·.2)=SE e X.env::(QZ es X.env).map (·.2):=by rfl):Fx X (e::es) (D6 g gs):=⟨Nz h1.h h2.h hs⟩
theorem Uu {k n:Nat} (hc:X.calm=true) (h:Fx X es gs) (hn:(QZ es X.env).length=n:=by rfl) (ZM:(QZ es X.env).findIdx? (·.1)=none:=by rfl):QG X (.Tuple es k pos) (AQ X.K n gs):=⟨L3 hc h.h hn ZM⟩
theorem U2 {ts:Wy} (ho:QE X o to) (hi:QE X i ti) (hs:J7 X ts)
  (ha:∀v,SE (.Subscript o i pos) X.env v=(do
   let ov <-RT [v] (RB o X.env)
   let iv <-RT [v,ov] (RB i X.env)
   standAt pos
   RT [v,ov,iv] (setItem ov iv v)
   release [v,ov,iv] []):=by intro _;rfl):QG X (.Subscript o i pos) (X6 to ti ts):=⟨Q8 ho.h hi.h hs ha⟩
theorem Lz {tg:Expr} {p:Pos} (hg:Gl X "range") (hm:X.mg "range" = none) (ha:QA X [a] tr) (hs:cS a=false:=by rfl):QI X tg (.Call (.Name "range" p) [a] [] pos) (F3 tr):=⟨Lv hg hm ha.h (dP hs)⟩
theorem Vx {p VG:Pos} {elts:List Expr} {x1} (hg:Gl X "enumerate") (hm:X.mg "enumerate" = none) (ha:QA X [a] tr) (hs:cS a=false:=by rfl):QI X (.Tuple elts x1 VG) (.Call (.Name "enumerate" p) [a] [] pos) (F5 X.K tr):=⟨Yb hg hm ha.h (dP hs)⟩
theorem Ib {tg:Expr} (hl:QE X l tl):QI X tg l (Zp X.K tl):=⟨Wc hl.h⟩
theorem J2 {tg:Expr} (hl:QE X l tl):QI X tg l (Y5 X.K tl):=⟨S7 hl.h⟩
theorem Ql:QA X [] Y6:=⟨N8⟩
theorem qc (ha:QE X e te) (hr:QA X es tr) (hs:cS e=false:=by rfl):QA X (e::es) (Pq te tr):=⟨pc ha.h hr.h hs⟩
theorem J5 {i j pos}:QE X (.Constant (.int i) j pos) (tC (.int i)):=⟨M9⟩
theorem Z9 {b j pos}:QE X (.Constant (.bool b) j pos) (tC (.bl b)):=⟨X4⟩
theorem Ei {j pos}:QE X (.Constant .none j pos) (tC .non):=⟨N7⟩
theorem U9 {x j pos}:QE X (.Constant (.str x) j pos) (tC (.str x)):=⟨T6⟩
theorem qv (i:Nat) {x:Str} (hN:X.N[i]? = some x:=by rfl) (hv:V1 X.env.scope x:=by first | exact IV rfl | exact JW (IV rfl) | exact JW (JW rfl)) (hd:(x==("__debug__":Str))=false:=by decide)
  (XJ:(x==("__classdict__":Str))=false:=by decide):QE X (.Name x pos) (AE i):=⟨Oj hN hv hd XJ⟩
theorem Jj {op:Operator} {r:R2} (ho:mU X (RL op) r) (ha:QE X a ta) (hb:QE X b tb):QE X (.BinOp a op b pos) (Ra r ta tb):=⟨CT ho ha.h hb.h⟩
theorem X5 {op:UnaryOp} {r:V->Hp->VK->Prop} (ho:DN X (unaryOp op) r) (ha:QE X a ta):QE X (.UnaryOp op a pos) (HF r ta):=⟨CD ho ha.h⟩
theorem Vr {op:CmpOp} {r:R2} (ho:mU X (RG op) r) (ha:QE X a ta) (hb:QE X b tb) (hm:RA op b=false):QE X (.Compare a [op] [b] pos) (Ra r ta tb):=⟨Vs ho ha.h hb.h hm⟩
theorem W6 (ha:QE X a ta) (hb:QE X (.BoolOp .Or (b::rest) pos) tb):QE X (.BoolOp .Or (a::b::rest) pos) (BO ta tb):=⟨AS ha.h hb.h⟩
theorem O6 {op} (h:QE X a ta):QE X (.BoolOp op [a] pos) ta:=⟨S4 h.h⟩
theorem Pz (hc:QT X c tA) (ha:QE X a ta) (hb:QE X b tb):QE X (.IfExp c a b pos) (GV tA ta tb):=⟨Ot hc.h ha.h hb.h⟩
theorem Q6 {x1} (h:QA X es tr):QE X (.Tuple es x1 pos) (V6 tr):=⟨M8 h.h⟩
theorem Ec (h:QA X es tr):QE X (.List es pos) (Y4 tr):=⟨J6 h.h⟩
theorem Zz {r:R2} (hr:Ve X r) (ha:QE X a ta) (hb:QE X b tb) (hs:rS b):QE X (.Subscript a b pos) (Ra r ta tb):=⟨Y8 hr ha.h hb.h hs⟩
theorem Yw:QO X none Hq:=⟨Wq⟩
theorem Yn (h:QE X e te):QO X (some e) (E8 te):=⟨Xm h.h⟩
theorem sQ {r:V->Option Int->Option Int->Hp->VK->Prop} {lo hi:Option Expr} {yj yk:TO} {p2:Pos} (hr:V7 X r) (he:QE X e te) (hl:QO X lo yj) (hu:QO X hi yk):QE X (.Subscript e (.Slice lo hi none p2) pos) (GW r te yj yk):=⟨Qs hr he.h hl.h hu.h⟩
theorem Va {k j:Nat} {x:Str} {ps:List Str} {sp:Sp} {p:Pos} (F:Fn X.prog X.w X.K X.mg X.base k x ps sp) (hr:fD j X.A) (hk:k<=j) (hg:Gl X x) (ha:QA X (e::es) tr) (WM:(x==("__debug__":Str))=false:=by decide)
  (hs:bV (e::es)=true:=by rfl):QE X (.Call (.Name x p) (e::es) [] pos) (Cr sp [] E0 tr):=⟨R6 F hr hk hg ha.h WM hs⟩
theorem fS {x:Str} {p:Pos} {id:String} {r:List V->Hp->VK->Prop} (hc:gQ X (.builtin id) r) (hg:Gl X x) (hm:X.mg x=none) (hv:RK x=some (.builtin id)) (ha:QA X (e::es) tr) (hn:x≠"__name__":=by decide) (WM:(x==("__debug__":Str))=false:=by decide)
  (hs:bV (e::es)=true:=by rfl):QE X (.Call (.Name x p) (e::es) [] pos) (V4 r tr):=⟨Nf hc hg hm hv ha.h hn WM hs⟩
theorem kQ {x:Str} {p:Pos} {T:String} {r:List V->Hp->VK->Prop} (hc:gQ X (.type T) r) (hg:Gl X x) (hm:X.mg x=none) (hv:RK x=some (.type T)) (ha:QA X (e::es) tr) (hn:x≠"__name__":=by decide) (WM:(x==("__debug__":Str))=false:=by decide)
  (hs:bV (e::es)=true:=by rfl):QE X (.Call (.Name x p) (e::es) [] pos) (V4 r tr):=⟨Ga hc hg hm hv ha.h hn WM hs⟩
theorem Xk {target elt iter:Expr} {scope:RF} {N':List Str} {cap:List Nat} {t:Nat} (hc:X.calm=true) (S:bK X N' scope t cap) (hi:QI X target iter wi)
  (hg:∀C s3 H3 fp,QG (cO X N' scope C s3 H3 fp) target g) (he:∀C s3 H3 fp,QE (cO X N' scope C s3 H3 fp) elt te) (hs:∀x,QX iter X.env x=pure x:=by intro _;rfl) :
  QE X (.ListComp elt [⟨target,iter,[],0⟩] scope pos) (Ja t cap wi g te):=⟨Xd hc S hi.h (λC s3 H3 fp=>(hg C s3 H3 fp).h) (λC s3 H3 fp=>(he C s3 H3 fp).h) hs⟩
theorem xF {op:CmpOp} {r:R2} (ho:mU X (RG op) r) (ha:QE X a ta) (hb:QE X b tb) (hm:RA op b=false):QT X (.Compare a [op] [b] pos) (C4 (Ra r ta tb)):=⟨Yc ho ha.h hb.h hm⟩
theorem N1 (ha:QT X a tA):QT X (.UnaryOp .Not a pos) (Z5 tA):=⟨R5 ha.h⟩
theorem N4 (h:QE X e te) (he:∀whole,isTrue e X.env whole=(do let v <-whole;standAt e.pos;RT [v] (truthy v)):=by intro _;rfl):QT X e (tB te):=⟨K3 h.h he⟩
theorem Wk (ha:QT X a tA):QW X (.BoolOp .And [a] pos) tA:=⟨Ws ha.h⟩
theorem K8 (ha:QT X a tA):QW X (.BoolOp .Or [a] pos) tA:=⟨T1 ha.h⟩
theorem P8 (ha:QT X a tA) (hb:QW X (.BoolOp .And (b::rest) pos) ZL):QW X (.BoolOp .And (a::b::rest) pos) (AM tA ZL):=⟨L1 ha.h hb.h⟩
theorem CF (ha:QT X a tA) (hb:QW X (.BoolOp .Or (b::rest) pos) ZL):QW X (.BoolOp .Or (a::b::rest) pos) (HG tA ZL):=⟨Y3 ha.h hb.h⟩
theorem DS (h:QW X e tA):QT X e tA:=⟨h.h.pt⟩
end
section
variable {P:QJ} {w:QM} {K:W.Frag} {mg:Str->Option Value} {base:Heap}
theorem eT.okQ {x qual:Str} {st:QU} {f:QF} {fd:QK} {N ps:List Str} {k:Nat} {sp:Sp} (F:eT K x qual st f fd) (S:aO N ps (aF st)) (len:∀vs H Q E,sp vs H Q E->vs.length=ps.length)
  (XM:∀(TQ:Value) (A:Around) (outer:List Env) (s:Shared) (H:Hp) (vs:List V) (Q:VK) (E:XK),fD k (A.deeper (SK qual (aF st) s.heap.objs.size f TQ))->sp vs H Q E->
   ∃t,QB (Ar fF P w K mg base N qual (aF st) f TQ A outer s H E).nox (dO st) t/\t { nx:=λ_ H'=>Q .non H',rt:=Q } (mD N vs) H):bJ P w K mg base fF (k+1) f fd ps sp:=
 F.ok S len λTQ A outer s H vs Q E hr h=>let ⟨t,h1,h2⟩:=XM TQ A outer s H vs Q E hr h;⟨t,h1.h,h2⟩
end
section
variable {prog:QJ} {w:QM} {A:Around} {E:Value->Shared->Prop} {s:Shared}
theorem yP {it t:QF} {k:Nat} {items:Array Value} {x:Value} {Q:Value->Shared->Prop} (gi:s.heap.IsTupleIter it t k) (gt:s.heap.IsTuple t items) (gx:items[k]? = some x)
  (gq:∀h',h'.IsTupleIter it t (k+1)->MR it s.heap h'->Q x { s with heap:=h' }):QL (QV prog w) A (Builtin.SmallTypes.nextOf (.ref it)) Q E s:=by
 obtain ⟨ob,eo,ec,ed⟩:=id gi;obtain ⟨ot,et,_,nt,tv⟩:=gt;unfold Builtin.SmallTypes.nextOf;refine QH (wpAny_callSpecial?_slot (name:=NJ "__next__") gi.typeIs F.slot_tuple_iterator_next (SA F.slot_tuple_iterator_next gi.typeIs F.entry_tuple_iterator_next ?_ (F.args_tuple_iterator_next_1 _)));show QL _ _ (field (.ref it) 0 >>= _) _ _ _;refine QH (RC eo ed (x:=.ref t) rfl ?_);show QL _ _ (if (KW t==NS)=true then _ else _) _ _ _;rw [if_neg (λhq:(KW t==NS)=true=>NA hq)];show QL _ _ (field (.ref it) 1 >>= _) _ _ _;refine QH (RC eo ed (x:=.int k 0) rfl ?_);show QL _ _ (seqItems? (.ref t) >>= _) _ _ _;refine QH (RU et tv ?_);simp only [MP,gx];refine QH (wpAny_setField eo ed (by simp) (QN ⟨x,rfl,QN (gq _ ?_ (Heap.SameBut.update ..))⟩));exact ⟨_,MM _ eo (Obj.isFreed_of_fields (Obj.data_mapFields ed _)),(Obj.cls_mapFields ..).trans ec,by rw [Obj.data_mapFields ed];simp [rawInt]⟩
theorem By {it t:QF} {k:Nat} {items:Array Value} {Q:Value->Shared->Prop} (gh:A.handled=none) (gi:s.heap.IsTupleIter it t k) (gt:s.heap.IsTuple t items) (gx:items[k]? = none)
  (ge:∀h' e,Heap.ExtBut it s.heap h'->(∃o,h'.get? e=some o/\o.cls = .type "StopIteration")->E (.ref e) { s with heap:=h' }):QL (QV prog w) A (Builtin.SmallTypes.nextOf (.ref it)) Q E s:=by
 obtain ⟨ob,eo,ec,ed⟩:=id gi;obtain ⟨ot,et,_,nt,tv⟩:=gt;unfold Builtin.SmallTypes.nextOf;refine QH (wpAny_callSpecial?_slot (name:=NJ "__next__") gi.typeIs F.slot_tuple_iterator_next (SA F.slot_tuple_iterator_next gi.typeIs F.entry_tuple_iterator_next ?_ (F.args_tuple_iterator_next_1 _)));show QL _ _ (field (.ref it) 0 >>= _) _ _ _;refine QH (RC eo ed (x:=.ref t) rfl ?_);show QL _ _ (if (KW t==NS)=true then _ else _) _ _ _;rw [if_neg (λhq:(KW t==NS)=true=>NA hq)];show QL _ _ (field (.ref it) 1 >>= _) _ _ _;refine QH (RC eo ed (x:=.int k 0) rfl ?_);show QL _ _ (seqItems? (.ref t) >>= _) _ _ _;refine QH (RU et tv ?_);simp only [MP,gx];refine QH (RZ (QH (wpAny_setField eo ed (by simp) ?_)));show QL _ _ (newExc (.type "StopIteration") [] >>= _) _ _ _;refine QH ?_;simp only [newExc,newTuple];refine QH (RD ?_ (by size_fits));refine QH (m:=firstArgMember _ _) (wpAny_of_eq (a:=NS) (by first | rfl | (simp only [firstArgMember];rfl)) (RD ?_ (by size_fits)));simp only [raiseNew];refine QH (wpAny_handled ?_)
 first | rw [show A.in1.handled=none from gh] | rw [gh]
 refine QH (QN (wpAny_throw ?_));exact ge _ _ (((Heap.SameBut.update ..).extBut.push _).push _) ⟨_,JL _ rfl,rfl⟩
theorem Nd (gh:A.handled=none) (it t:QF) (WG:t≠it) (items:Array Value) :
  Draws prog w A it [it,t] items.size (λi v=>items[i]? = some v) (λi h=>h.IsTupleIter it t i/\h.IsTuple t items) where
 live:=λ_ _ st=>let ⟨o,ho,_⟩:=st.1;⟨o,ho⟩
 frame:=λ_ _ _ st hk=>⟨st.1.at λo e=>hk it (by simp) o e,st.2.at λo e=>hk t (by simp) o e⟩
 item:=λi s Q E hi st hQ=>yP st.1 st.2 (x:=items[i]) (by simp [hi]) λh' ua ZG=>hQ _ h' s.toks (by simp [hi]) ⟨ua,st.2.extBut ZG.extBut WG⟩ ZG
 done:=λs Q E st hE=>By gh st.1 st.2 (by simp) hE
end
def iS (κ:Bool) (h:Heap) (it a:QF) (i:Nat):Prop:=match κ with | true=>h.IsTupleIter it a i | false=>h.IsListIter it a i
def rO (κ:Bool) (h:Heap) (a:QF) (items:Array Value):Prop:=match κ with | true=>h.IsTuple a items | false=>h.IsList a items
theorem iS.at {κ:Bool} {h h':Heap} {it a:QF} {i:Nat} (x:iS κ h it a i) (e:∀o,h.get? it=some o->h'.get? it=some o):iS κ h' it a i:=by
 cases κ
 ·exact Heap.IsListIter.at x e
 ·exact Heap.IsTupleIter.at x e
theorem iS.obj {κ:Bool} {h:Heap} {it a:QF} {i:Nat} (x:iS κ h it a i):∃o,h.get? it=some o/\∀v,o.data≠.cell v:=by
 cases κ
 ·obtain ⟨o,e,c,d⟩:=x;exact ⟨o,e,λv z=>by rw [d] at z;cases z⟩
 ·obtain ⟨o,e,c,d⟩:=x;exact ⟨o,e,λv z=>by rw [d] at z;cases z⟩
theorem Ux {prog:QJ} {w:QM} {A:Around} (κ:Bool) (hh:A.handled=none) (it a:QF) (WG:a≠it) (items:Array Value) :
  Draws prog w A it [it,a] items.size (λi v=>items[i]? = some v) (λi h=>iS κ h it a i/\rO κ h a items):=by
 cases κ
 ·exact Draws.list hh it a WG items
 ·exact Nd hh it a WG items
abbrev Y0 (h:Heap) (a:QF):Heap:=h.push { cls:=.type "tuple_iterator",data:=.fields #[.ref a,.int 0 0] }
abbrev AV (h:Heap) (a b:QF):Heap:=(Y0 h a).push { cls:=.type "tuple_iterator",data:=.fields #[.ref b,.int 0 0] }
abbrev X0 (h:Heap) (a b:QF):Heap:=(AV h a b).push { cls:=.type "tuple",data:=.seq #[.ref h.objs.size,.ref (Y0 h a).objs.size] }
abbrev W2 (h:Heap) (a b:QF):Heap:=(X0 h a b).push { cls:=.type "tuple",data:=.seq #[.none,.none] }
abbrev Ug (h:Heap) (a b:QF):Heap:=(W2 h a b).push { cls:=.type "zip",data:=.fields #[.none,.bool false,.bool false,.ref (AV h a b).objs.size,.ref (X0 h a b).objs.size] }
theorem Uq (a b:QF) (xs ys:Array Value) :
  Meets (Builtin.«zip.__new__» ⟨[.type "zip",.ref a,.ref b],[]⟩) (λ_ R s=>s.heap.IsTuple a xs/\s.heap.IsTuple b ys/\R (.ok (.ret (.ref (W2 s.heap a b).objs.size))) { s with heap:=Ug s.heap a b }):=
 .of_wp λprog w A R s h=>by
  obtain ⟨hp,g,d,tk,os⟩:=s;obtain ⟨ga,gb,h⟩:=h;have aBO:=sub_zip;have gA:Heap.IsTuple (Shared.heap ⟨hp,g,d,tk,os⟩) a xs:=ga;have gB:Heap.IsTuple (Shared.heap ⟨hp.push { cls:=.type "tuple_iterator",data:=.fields #[.ref a,.int 0 0] },g,d,tk,os⟩) b ys:=Heap.IsTuple.push gb _
  wp_walk using SG gA,SG gB
  exact ⟨_,rfl,h⟩
theorem Ld {prog:QJ} {w:QM} {A:Around} {E:Value->Shared->Prop} {s:Shared} {a b:QF} {xs ys:Array Value} {Q:Value->Shared->Prop} (ga:s.heap.IsTuple a xs) (gb:s.heap.IsTuple b ys)
  (g:∀h',SJ h' (s.heap.objs.size+4) (s.heap.objs.size+2) (s.heap.objs.size+3) .none->IsPair h' (s.heap.objs.size+2) (.ref s.heap.objs.size) (.ref (s.heap.objs.size+1))->IsPair h' (s.heap.objs.size+3) .none .none->
   h'.IsTupleIter s.heap.objs.size a 0->h'.IsTupleIter (s.heap.objs.size+1) b 0->(∀c o,s.heap.get? c=some o->h'.get? c=some o)->Q (.ref (s.heap.objs.size+4)) { s with heap:=h' }) :
  QL (QV prog w) A (call (.type "zip") [.ref a,.ref b]) Q E s:=by
 refine callType_new F.called_zip (by decide) (F.typeCall_zip_2 _ _) (F.newCall_zip_2 _ _) (λobj=>F.args_object_init_3 obj _ _) F.entry_zip_new (Uq a b xs ys) ⟨ga,gb,?_⟩;have y1:(Y0 s.heap a).objs.size=s.heap.objs.size+1:=NT ..;have y2:(AV s.heap a b).objs.size=s.heap.objs.size+2:=by rw [NT,y1]
 have y3:(X0 s.heap a b).objs.size=s.heap.objs.size+3:=by rw [NT,y2]
 have y4:(W2 s.heap a b).objs.size=s.heap.objs.size+4:=by rw [NT,y3]
 have p4:∀{c:QF} {o:Obj},(W2 s.heap a b).get? c=some o->(Ug s.heap a b).get? c=some o:=λe=>IX _ e;have p3:∀{c:QF} {o:Obj},(X0 s.heap a b).get? c=some o->(Ug s.heap a b).get? c=some o:=λe=>p4 (IX _ e);have p2:∀{c:QF} {o:Obj},(AV s.heap a b).get? c=some o->(Ug s.heap a b).get? c=some o:=λe=>p3 (IX _ e);have p1:∀{c:QF} {o:Obj},(Y0 s.heap a).get? c=some o->(Ug s.heap a b).get? c=some o:=λe=>p2 (IX _ e);have p0:∀{c:QF} {o:Obj},s.heap.get? c=some o->(Ug s.heap a b).get? c=some o:=λe=>p1 (IX _ e);have x5:(Ug s.heap a b).get? (W2 s.heap a b).objs.size=some _:=JL _ rfl;have x4:(Ug s.heap a b).get? (X0 s.heap a b).objs.size=some _:=p4 (JL _ rfl);have x3:(Ug s.heap a b).get? (AV s.heap a b).objs.size=some _:=p3 (JL _ rfl);have x2:(Ug s.heap a b).get? (Y0 s.heap a).objs.size=some _:=p2 (JL _ rfl);have x1:(Ug s.heap a b).get? s.heap.objs.size=some _:=p1 (JL _ rfl);show _/\_;rw [y2,y3,y4] at x5;rw [y1,y2] at x3;rw [y3] at x4;rw [y1] at x2;rw [y4];exact ⟨⟨_,x5,rfl⟩,g _ x5 x3 x4 ⟨_,x1,rfl,rfl⟩ ⟨_,x2,rfl,rfl⟩ λc o e=>p0 e⟩
theorem HZ (n:Nat):[n+4,n+2,n+3,n,n+1].Nodup:=by
 simp only [ML,IU,MB,or_false,not_or,PY,and_true,not_false_eq_true];omega
theorem HP {n c:Nat} (h:c∈[n+4,n+2,n+3,n,n+1]):n<=c:=by
 simp only [IU,MB,or_false] at h;omega
section
variable {X:Cx} {pos:Pos} {a b e:Expr} {ta tb te:TE} {tc:TT}
def Wa (c:TT):TS:=λD σ H=>c σ H λb H1=>b=true/\D.nx σ H1
theorem Mo {c:Expr} {m:Option Expr} (hc:QT X c tc):QS X (.Assert c m pos) (Wa tc):=⟨by
 intro pins s σ H D I h;exact wpAny_Assert_holds (dM (hc.h pins s σ H _ I h) λb s1 ⟨H1,I1,q1⟩=>⟨q1.1,σ,H1,I1,q1.2⟩)⟩
end
section
variable {X:Cx} {K:W.Frag} {pos:Pos}
def Kc (i j:Int):Prop:=i.natAbs<2^8000/\j.natAbs<2^8000
theorem Gw {a:Int} (h:a.natAbs<2^8000):Builtin.Int.intBits a<=8001:=by
 unfold Builtin.Int.intBits
 split
 ·omega
 ·rename_i h0;have WG:a.natAbs≠0:=by
   intro z;apply h0
   first | exact Int.natAbs_eq_zero.mp z | simp [Int.natAbs_eq_zero.mp z] | omega
  have:=(OM WG).mpr h;omega
theorem Kc.ok {i j:Int} (h:Kc i j):IntMulOk i j:=by
 have h1:=Gw h.1;have h2:=Gw h.2;unfold IntMulOk;have:Builtin.Int.intTooBig (Builtin.Int.intBits i+Builtin.Int.intBits j)=false:=by
  unfold Builtin.Int.intTooBig;simp only [decide_eq_false_iff_not];have:(16002:Int)<=bitsLine:=by decide
  omega
 rw [this];simp
theorem Vk:mU X (RL .Mult) (rI Kc λi j=>.int (i*j)):=CW λ_ _ _ _ _ _ _ hc q=>mul_int q hc.ok
end
section
variable {X:Cx}
def oF (i j:Int):Prop:=j≠0/\j.natAbs<2^8000
theorem cZ:mU X (RL .FloorDiv) (rI oF λi j=>.int (i.fdiv j)):=CW λi j _ _ _ _ _ hc q=>by
 obtain ⟨h0,h1⟩:=hc;have hl:j.natAbs.log2<9000:=by
  have:=(OM (show j.natAbs≠0 by omega)).mpr h1;omega
 exact floordiv_int h0 q (.inl (PyProof.noPylong_of_log2 hl))
end
section
variable {X:Cx} {pos:Pos} {o e:Expr} {to:TE} {tr:TA}
theorem wK {ap:Pos} (ho:QE X o to) (ha:QA X [e] tr) (VD:RS o "append" X.env (RB o X.env)=RB o X.env:=by rfl) (VE:(ap.endLine==pos.line)=true:=by rfl) (hs:cS e=false:=by rfl) :
  QE X (.Call (.Attribute o "append" ap) [e] [] pos) (DP X.K "list" Iq to tr):=
 ⟨Tb PySem.F.plainAttrs_list PySem.F.slot_list_append PySem.F.type_list_append vN ho.h ha.h VD (by rw [dP hs];rfl) VE (dP hs) (iB rfl)⟩
end
section
variable {X:Cx}
theorem zR:gQ X (.builtin "divmod") (λxs H Q=>∃a b:Int,xs=[.int a,.int b]/\0<b/\b<2^200/\∀p,H p=none->Q (.ref p) (upd H p (.tup [.int (a/b),.int (a%b)]))):=by
 intro pins s σ H xs us Q I r h;obtain ⟨a,b,rfl,h0,h1,q⟩:=h;obtain ⟨u,v,rfl,rx,ry⟩:=bG.two r;obtain ⟨t,rfl⟩:=rx;obtain ⟨t',rfl⟩:=ry;have e1:a.fdiv b=a/b:=MN _ (by omega);have e2:a.fmod b=a%b:=OR _ (by omega);have hl:b.natAbs.log2<9000:=by
  have hb:b.natAbs<2^200:=by omega
  have:=(OM (show b.natAbs≠0 by omega)).mpr hb;omega
 refine divmod_int (by omega) ?_ (.inl (PyProof.noPylong_of_log2 hl));refine ⟨.ref s.heap.objs.size,_,I.laid (o:=.tup [.int (a/b),.int (a%b)]) (t':=s.toks+1+1) (λb u e=>IX _ e) (IW _) ?_,rfl,q _ (I.hok.fresh (IW _))⟩;refine ⟨by show 2<=QP;decide,[.int (a.fdiv b) s.toks,.int (a.fmod b) (s.toks+1)],.cons ⟨_,by rw [e1]⟩ (.cons ⟨_,by rw [e2]⟩ .nil),⟨_,JL _ rfl,rfl,_,rfl⟩⟩
end
section
variable {κ:Type} [DecidableEq κ]
def mT (TN:List (κ×V)) (k:κ):Option V:=(TN.find? λkv=>decide (kv.1=k)).map (·.2)
def pB (TN:List (κ×V)) (k:κ) (v:V):List (κ×V):=
 if (TN.any λkv=>decide (kv.1=k))=true then TN.map (λkv=>if kv.1=k then (kv.1,v) else kv) else TN++[(k,v)]
theorem pD {p:κ×V} {r:List (κ×V)} {k:κ} (e:p.1=k):mT (p::r) k=some p.2:=by simp [mT,OC,e]
theorem oI {p:κ×V} {r:List (κ×V)} {k:κ} (e:¬p.1=k):mT (p::r) k=mT r k:=by simp [mT,OC,e]
theorem Ci (k:κ):∀TN:List (κ×V),(TN.any λkv=>decide (kv.1=k))=(mT TN k).isSome
 | []=>rfl
 | p::r=>by
  rw [QC]
  by_cases e:p.1=k
  ·simp only [pD e,decide_eq_true e,Bool.true_or,Option.isSome_some]
  ·rw [oI e,decide_eq_false e,Bool.false_or];exact Ci k r
theorem Ad (TN:List (κ×V)) (k:κ) (v:V):(pB TN k v).length<=TN.length+1:=by
 unfold pB
 split
 ·rw [IS];omega
 ·rw [IY,JE,LQ];omega
theorem Pg.isSome_eq {o:Option V} {u:Option Value} (r:Pg o u):o.isSome=u.isSome:=by
 cases o with
 | none=>cases u with
  | none=>rfl
  | some _=>exact (show False from r).elim
 | some _=>cases u with
  | none=>exact (show False from r).elim
  | some _=>rfl
end
theorem Y9 {P:QJ} {w:QM} {k:Key} {u:Value} (r:bP (kV k) u):(eV P w).is k u=true:=by
 cases k with
 | inl i=>obtain ⟨t,e⟩:=(show ∃t,u=Value.int i t from r);subst e;exact Ca P w i t
 | inr x=>obtain ⟨t,e⟩:=(show ∃t,u=Value.str x t from r);subst e;exact z9 P w x t
theorem wG {P:QJ} {w:QM}:∀{ks:List Key} {us:List Value},bG (ks.map kV) us->ItemsAre (eV P w) ks us
 | [],_,r=>by rw [MT] at r;cases r;exact .nil
 | k::ks,_,r=>by
  rw [JK] at r;cases r with
  | cons h t=>exact .cons (Y9 h) (wG t)
abbrev Iv (H:Hp):List (List Key×V)->List (List Key×QF×Value)->Prop:=Paired λp q=>p.1=q.1/\H q.2.1=some (.tup (p.1.map kV))/\bP p.2 q.2.2
theorem Iv.val {H:Hp} {TN:List (List Key×V)} {xs:List (List Key×QF×Value)} (r:Iv H TN xs) (k:List Key):Pg (mT TN k) ((atKey xs k).map (·.2)):=by
 induction r with
 | nil=>exact True.intro
 | @cons p q ps qs h t ih=>
  obtain ⟨h1,_,h2⟩:=h
  by_cases e:p.1=k
  ·have e':q.1=k:=h1.symm.trans e;have b:atKey (q::qs) k=some q.2:=by simp [atKey,OC,e']
   rw [pD e,b];exact h2
  ·have e':¬q.1=k:=λz=>e (h1.trans z);have b:atKey (q::qs) k=atKey qs k:=by simp [atKey,OC,e']
   rw [oI e,b];exact ih
theorem Iv.repl {H:Hp} {TN:List (List Key×V)} {xs:List (List Key×QF×Value)} (r:Iv H TN xs) (k:List Key) {y:V} {u:Value} (ry:bP y u) :
  Iv H (TN.map λkv=>if kv.1=k then (kv.1,y) else kv) (xs.map (putAt k u)):=by
 induction r with
 | nil=>exact .nil
 | @cons p q ps qs h t ih=>
  rw [JK,JK];refine .cons ?_ ih;obtain ⟨h1,h2,h3⟩:=h;unfold putAt
  by_cases e:p.1=k
  ·rw [if_pos e,if_pos (h1.symm.trans e)];exact ⟨h1,h2,ry⟩
  ·rw [if_neg e,if_neg (λz=>e (h1.trans z))];exact ⟨h1,h2,h3⟩
theorem Iv.put {H:Hp} {TN:List (List Key×V)} {xs:List (List Key×QF×Value)} (r:Iv H TN xs) (k:List Key) {b:QF} {y:V} {u:Value} (hb:H b=some (.tup (k.map kV))) (ry:bP y u) :
  Iv H (pB TN k y) (storedH xs k b u):=by
 have e:(TN.any λkv=>decide (kv.1=k))=(atKey xs k).isSome:=by
  rw [Ci,(r.val k).isSome_eq,Option.isSome_map]
 unfold pB storedH;rw [e]
 by_cases q:(atKey xs k).isSome=true
 ·rw [if_pos q,if_pos q];exact r.repl k ry
 ·rw [if_neg q,if_neg q];exact Paired.snoc r ⟨rfl,hb,ry⟩
theorem Iv.keeps {H H':Hp} {TN:List (List Key×V)} {xs:List (List Key×QF×Value)} (r:Iv H TN xs) (ht:∀b ys,H b=some (.tup ys)->H' b=some (.tup ys)):Iv H' TN xs:=
 Paired.mapP r λ_ _ z=>⟨z.1,ht _ _ z.2.1,z.2.2⟩
section
variable {P:QJ} {w:QM} {H:Hp} {h:Heap} {a:QF}
theorem Ss {u:HO} (ok:nX P w H h) (e:Rd H a u):dW P w H h a u:=e.ok ok
theorem CO {TN:List (Key×V)} (ok:nX P w H h) (e:Rd H a (.dK TN)):TN.length<=QP/\(a==RO)=false/\∃vs,KV TN vs/\h.DictOf (eV P w) a vs:=
 show dW P w H h a (.dK TN) from Ss ok e
theorem To {ks:List Key} (ok:nX P w H h) (e:H a=some (.tup (ks.map kV))):(SV (eV P w)).is h ks a:=by
 obtain ⟨_,TC,r,o,h1,h2,n,h3⟩:=(show dW P w H h a (.tup (ks.map kV)) from ok a _ e);exact ⟨o,TC.toArray,n,h1,h2,h3,by simpa using wG r⟩
theorem F6 {TN:List (List Key×V)} (ok:nX P w H h) (e:Rd H a (.dT TN)):TN.length<=QP/\(a==RO)=false/\
  ∃xs,Iv H TN xs/\h.DictOfH (SV (eV P w)) a xs:=by
 obtain ⟨z,y,xs,r,o,es,ep,h1,h2,h3,h4,h5⟩:=(show dW P w H h a (.dT TN) from Ss ok e);refine ⟨z,y,xs,r,o,es,ep,h1,h2,h3,h4,λx hx=>?_,h5⟩;have all:∀{l:List (List Key×V)} {m:List (List Key×QF×Value)},Iv H l m->∀x∈m,(SV (eV P w)).is h x.1 x.2.1:=by
  intro l m q
  induction q with
  | nil=>intro x hx;exact nomatch hx
  | @cons p q ps qs hq t ih=>
   intro x hx;rcases IU.mp hx with e | hx
   ·subst e;exact To ok (by rw [<-hq.1];exact hq.2.1)
   ·exact ih x hx
 exact all r x hx
theorem AL {TN:List (List Key×V)} (ok:nX P w H h) (e:H a=some (.dT TN)):TN.length<=QP/\(a==RO)=false/\
  ∃xs,Iv H TN xs/\h.DictOfH (SV (eV P w)) a xs:=F6 ok (.inl e)
end
section
variable {X:Cx} {pins:List (QF×Obj)} {σ:St} {H:Hp} {s:Shared} {a:QF} {y v:V} {u r:Value} {o:Option V} {A:Around} {E:Value->Shared->Prop}
theorem aY.big (I:aY X pins σ H s):RO<s.heap.objs.size:=by
 have h:QR<s.heap.objs.size:=(I.mod.glob.keeps I.bk).lt;exact Nat.lt_trans (by decide) h
theorem Zb {h':Heap} {t':Nat} {ob:HO} (I:aY X pins σ H s) (mu:CS (H a)) (hs:MR a s.heap h') (he:∃q,h'.get? a=some q) (new:dW X.prog X.w (upd H a ob) h' a ob) :
  aY X pins σ (upd H a ob) { s with heap:=h',toks:=t' }:=
 I.write (x:=a) (e:=a) mu (.inl rfl) (λb q hb z=>(hs.2 b hb).trans z) he new
end
theorem Qo {P:QJ} {w:QM} {H:Hp} (h:Heap) (hb:RO<h.objs.size):dW P w H (h.push { cls:=.type "dict",data:=.dict #[] }) h.objs.size (.dT []):=
 ⟨LM _,beq_eq_false_iff_ne.mpr (Ne.symm (JU hb)),[],.nil,_,#[],0,JL _ rfl,⟨rfl,rfl,rfl⟩,rfl,rfl,PY⟩
def Px:TE:=λ_ H Q=>∀p,H p=none->Q (.ref p) (upd H p (.dT []))
section
variable {X:Cx} {pos:Pos}
theorem Pp:PE X (.Dict [] [] pos) Px:=λpins s σ H Q I h=>
 wpAny_Dict_empty ⟨.ref s.heap.objs.size,_,I.laid (a:=s.heap.objs.size) (o:=.dT []) (t':=s.toks) (λ_ _ q=>IX _ q) (IW _) (Qo s.heap I.big),rfl,h _ (I.hok.fresh (IW _))⟩
end
inductive T where
 | non | bl (b:Bool) | int (i:Int) | str (x:Str) | tup (xs:List T) | lst (xs:List T)
inductive U where
 | p (t:T) | o (k:Bool) (xs:List T)
abbrev En:=List (Option U)
inductive R where
 | p (t:T) | s (i:Nat)
def KT (K:W.Frag) (a:QF) (xs:List V):Prop:=∃(o:Obj) (TC:Array Value) (n:Nat),K.lookup a=some o/\o.cls = .type "tuple"/\o.data = .seq TC n/\TC.size<=QP/\bG xs TC.toList
def KL (K:W.Frag) (a:QF) (xs:List V):Prop:=∃(o:Obj) (TC:Array Value) (n:Nat),K.lookup a=some o/\o.cls = .type "list"/\o.dict=none/\o.data = .seq TC n/\TC.size<=QP/\bG xs TC.toList
mutual
def Rp (K:W.Frag) (H:Hp) (O:QF->Prop):T->V->Prop
 | .non,v=>v = .non
 | .bl b,v=>v = .bl b
 | .int i,v=>v = .int i
 | .str x,v=>v = .str x
 | .tup xs,v=>∃a vs,v = .ref a/\((¬O a/\H a=some (.tup vs))\/KT K a vs)/\cN K H O xs vs
 | .lst xs,v=>∃a vs,v = .ref a/\((¬O a/\Rd H a (.lst vs))\/KL K a vs)/\cN K H O xs vs
def cN (K:W.Frag) (H:Hp) (O:QF->Prop):List T->List V->Prop
 | [],vs=>vs=[]
 | x::xs,vs=>∃v r,vs=v::r/\Rp K H O x v/\cN K H O xs r
end
structure Kp (O O':QF->Prop) (H H':Hp):Prop where
 keep:∀b o,H b=some o->¬O b->H' b=some o
 new:∀b,O' b->O b\/H b=none
theorem Kp.tup {H H':Hp} {a:QF} {u:HO} {O O':QF->Prop} (k:Kp O O' H H') (h:¬O a/\H a=some u):¬O' a/\H' a=some u:=by
 obtain ⟨n,h⟩:=h;refine ⟨λz=>?_,k.keep _ _ h n⟩;rcases k.new a z with z | z
 ·exact n z
 ·rw [h] at z;cases z
theorem Rd.step {H H':Hp} {a:QF} {u:HO} {O O':QF->Prop} (k:Kp O O' H H') (h:¬O a/\Rd H a u):¬O' a/\Rd H' a u:=by
 obtain ⟨n,h⟩:=h;rcases h with h | ⟨o,h⟩
 ·refine ⟨λz=>?_,.inl (k.keep _ _ h n)⟩;rcases k.new a z with z | z
  ·exact n z
  ·rw [h] at z;cases z
 ·refine ⟨λz=>?_,.inr ⟨o,k.keep _ _ h n⟩⟩;rcases k.new a z with z | z
  ·exact n z
  ·rw [h] at z;cases z
section
variable {K:W.Frag} {H H':Hp} {O O':QF->Prop}
mutual
theorem Rp.step (k:Kp O O' H H'):∀{t:T} {v:V},Rp K H O t v->Rp K H' O' t v
 | .non,_,h=>h
 | .bl _,_,h=>h
 | .int _,_,h=>h
 | .str _,_,h=>h
 | .tup xs,v,h=>by
  obtain ⟨a,vs,e,h1,h2⟩:=h;exact ⟨a,vs,e,h1.imp (Kp.tup k) id,cN.step k h2⟩
 | .lst xs,v,h=>by
  obtain ⟨a,vs,e,h1,h2⟩:=h;exact ⟨a,vs,e,h1.imp (Rd.step k) id,cN.step k h2⟩
theorem cN.step (k:Kp O O' H H'):∀{xs:List T} {vs:List V},cN K H O xs vs->cN K H' O' xs vs
 | [],_,h=>h
 | x::xs,vs,h=>by
  obtain ⟨v,r,e,h1,h2⟩:=h;exact ⟨v,r,e,Rp.step k h1,cN.step k h2⟩
end
theorem Kp.refl (O:QF->Prop) (H:Hp):Kp O O H H:=⟨λ_ _ h _=>h,λ_ h=>.inl h⟩
theorem Kp.less (h:∀b,O' b->O b):Kp O O' H H:=⟨λ_ _ h _=>h,λ_ z=>.inl (h _ z)⟩
theorem Kp.trans {ym:QF->Prop} {yn:Hp} (a:Kp O O' H H') (b:Kp O' ym H' yn):Kp O ym H yn:=by
 refine ⟨λc o h n=>b.keep c o (a.keep c o h n) λz=>?_,λc h=>?_⟩
 ·rcases a.new c z with z | z
  ·exact n z
  ·rw [h] at z;cases z
 ·rcases b.new c h with z | z
  ·exact a.new c z
  ·by_cases n:O c
   ·exact .inl n
   ·right
    cases q:H c with
    | none=>rfl
    | some o=>rw [a.keep c o q n] at z;cases z
theorem Kp.upd {a:QF} {o:HO} (h:H a=none):Kp O O H (upd H a o):=⟨λb u e _=>by rw [bC (bF e h)];exact e,λ_ z=>.inl z⟩
theorem cN.length:∀{xs:List T} {vs:List V},cN K H O xs vs->vs.length=xs.length
 | [],_,h=>by cases h;rfl
 | _::_,_,h=>by
  obtain ⟨v,r,e,_,h2⟩:=h;rw [e,JE,JE,cN.length h2]
theorem cN.get:∀{xs:List T} {vs:List V} {i:Nat} {x:T},cN K H O xs vs->xs[i]? = some x->∃v,vs[i]? = some v/\Rp K H O x v
 | [],_,_,_,_,e=>by simp at e
 | _::_,_,0,_,⟨v,r,e,h1,_⟩,q=>by simp at q;subst q;subst e;exact ⟨v,rfl,h1⟩
 | _::_,_,i+1,x,⟨v,r,e,_,h2⟩,q=>by
  obtain ⟨w,q1,q2⟩:=cN.get (i:=i) (x:=x) h2 (by simpa using q);subst e;exact ⟨w,by simpa using q1,q2⟩
theorem cN.append:∀{xs ys:List T} {vs ws:List V},cN K H O xs vs->cN K H O ys ws->cN K H O (xs++ys) (vs++ws)
 | [],_,_,_,h,k=>by cases h;exact k
 | _::_,_,_,_,⟨v,r,e,h1,h2⟩,k=>by subst e;exact ⟨v,_,rfl,h1,cN.append h2 k⟩
theorem cN.set {x:T} {v:V} (h:Rp K H O x v):∀{xs:List T} {vs:List V} (i:Nat),cN K H O xs vs->cN K H O (xs.set i x) (vs.set i v)
 | [],_,_,k=>by cases k;exact rfl
 | _::_,_,0,⟨u,r,e,h1,h2⟩=>by subst e;exact ⟨v,_,rfl,h,h2⟩
 | _::_,_,i+1,⟨u,r,e,h1,h2⟩=>by subst e;exact ⟨u,_,rfl,h1,cN.set h i h2⟩
theorem cN.take:∀{xs:List T} {vs:List V} (n:Nat),cN K H O xs vs->cN K H O (xs.take n) (vs.take n)
 | _,_,0,_=>by simp [cN]
 | [],_,_+1,h=>by cases h;exact rfl
 | _::_,_,n+1,⟨v,r,e,h1,h2⟩=>by subst e;exact ⟨v,_,rfl,h1,cN.take n h2⟩
theorem cN.drop:∀{xs:List T} {vs:List V} (n:Nat),cN K H O xs vs->cN K H O (xs.drop n) (vs.drop n)
 | _,_,0,h=>h
 | [],_,_+1,h=>by cases h;exact rfl
 | _::_,_,n+1,⟨v,r,e,h1,h2⟩=>by subst e;exact cN.drop n h2
theorem Rp.sqT {xs:List T} {v:V} (h:Rp K H O (.tup xs) v):∃a vs,v = .ref a/\rR K H a vs/\cN K H O xs vs:=by
 obtain ⟨a,vs,e,h1,h2⟩:=h;exact ⟨a,vs,e,h1.imp (λh=>.inl h.2) id,h2⟩
theorem Rp.sqL {xs:List T} {v:V} (h:Rp K H O (.lst xs) v):∃a vs,v = .ref a/\j4 K H a vs/\cN K H O xs vs:=by
 obtain ⟨a,vs,e,h1,h2⟩:=h;exact ⟨a,vs,e,h1.imp And.right id,h2⟩
end
def Ow (B:QF->Prop) (S:St) (E:En) (a:QF):Prop:=B a\/∃(i:Nat) (k:Bool) (xs:List T),E[i]? = some (some (.o k xs))/\S[i]? = some (some (.ref a))
structure RE (K:W.Frag) (B:QF->Prop) (H:Hp) (S:St) (E:En):Prop where
 len:S.length=E.length
 pure:∀(i:Nat) (t:T),E[i]? = some (some (.p t))->∃v,S[i]? = some (some v)/\Rp K H (Ow B S E) t v
 own:∀(i:Nat) (k:Bool) (xs:List T),E[i]? = some (some (.o k xs))->∃a vs,S[i]? = some (some (.ref a))/\H a=some (.lst vs)/\cN K H (Ow B S E) xs vs/\(k=true↔B a)
 inj:∀(i j:Nat) (k l:Bool) (xs ys:List T) (a:QF),E[i]? = some (some (.o k xs))->E[j]? = some (some (.o l ys))->S[i]? = some (some (.ref a))->S[j]? = some (some (.ref a))->i=j
 bd:∀a,B a->∃vs,H a=some (.lst vs)
section
variable {K:W.Frag} {B:QF->Prop} {H H':Hp} {S S':St} {E E':En}
theorem RE.ow (r:RE K B H S E) {a:QF} (h:Ow B S E a):∃vs,H a=some (.lst vs):=by
 rcases h with h | ⟨i,k,xs,h1,h2⟩
 ·exact r.bd a h
 obtain ⟨a',vs,h3,h4,_⟩:=r.own i k xs h1;rw [h2] at h3;cases h3;exact ⟨vs,h4⟩
theorem RE.nn (r:RE K B H S E) {a:QF} (h:H a=none):¬Ow B S E a:=λz=>by
 obtain ⟨ws,e⟩:=r.ow z;rw [h] at e;cases e
theorem RE.step (r:RE K B H S E) (k:∀b o,H b=some o->¬Ow B S E b->H' b=some o) (hl:E'.length=E.length)
  (hp:∀(i:Nat) (t:T),E'[i]? = some (some (.p t))->E[i]? = some (some (.p t)))
  (ho:∀(i:Nat) (k:Bool) (dq:List T),E'[i]? = some (some (.o k dq))->∃xs,E[i]? = some (some (.o k xs))/\∀a,S[i]? = some (some (.ref a))->∃vs,H' a=some (.lst vs)/\cN K H' (Ow B S E) dq vs) (hb:∀a,B a->∃vs,H' a=some (.lst vs)):RE K B H' S E':=by
 have ow:∀b,Ow B S E' b->Ow B S E b:=λb z=>by
  rcases z with z | ⟨i,k,xs,h1,h2⟩
  ·exact .inl z
  obtain ⟨ys,h3,_⟩:=ho i k xs h1;exact .inr ⟨i,k,ys,h3,h2⟩
 have kp:Kp (Ow B S E) (Ow B S E') H H':=⟨k,λb z=>.inl (ow b z)⟩;refine ⟨by rw [hl];exact r.len,λi t h=>?_,λi k xs h=>?_,λi j k l xs ys a h1 h2 h3 h4=>?_,hb⟩
 ·obtain ⟨v,h1,h2⟩:=r.pure i t (hp i t h);exact ⟨v,h1,h2.step kp⟩
 ·obtain ⟨ys,h1,h2⟩:=ho i k xs h;obtain ⟨a,vs,h3,_,_,h6⟩:=r.own i k ys h1;obtain ⟨ws,h7,h8⟩:=h2 a h3;exact ⟨a,ws,h3,h7,h8.step (Kp.less ow),h6⟩
 ·obtain ⟨_,q1,_⟩:=ho i k xs h1;obtain ⟨_,q2,_⟩:=ho j l ys h2;exact r.inj i j k l _ _ a q1 q2 h3 h4
theorem RE.kept (r:RE K B H S E) (k:∀b o,H b=some o->H' b=some o):RE K B H' S E:=
 r.step (λb o h _=>k b o h) rfl (λ_ _ h=>h) (λi l xs h=>⟨xs,h,λa ha=>by
  obtain ⟨a',vs,h1,h2,h3,_⟩:=r.own i l xs h;rw [ha] at h1;cases h1;exact ⟨vs,k _ _ h2,h3.step ⟨λb o e _=>k b o e,λb z=>.inl z⟩⟩⟩) (λa h=>let ⟨vs,q⟩:=r.bd a h;⟨vs,k _ _ q⟩)
theorem RE.take (r:RE K B H S E) (n:Nat):RE K B H (S.take n) (E.take n):=by
 have gE:∀{i:Nat} {x:Option U},(E.take n)[i]? = some x->E[i]? = some x/\i<n:=λ{i x} h=>by
  by_cases c:i<n
  ·rw [LF c] at h;exact ⟨h,c⟩
  ·rw [MO (by omega)] at h;cases h
 have gS:∀{i:Nat} {x:Option V},i<n->S[i]? = some x->(S.take n)[i]? = some x:=λ{i x} c h=>by rw [LF c];exact h
 have XD:∀{i:Nat} {x:Option V},(S.take n)[i]? = some x->S[i]? = some x:=λ{i x} h=>by
  by_cases c:i<n
  ·rw [LF c] at h;exact h
  ·rw [MO (by omega)] at h;cases h
 have ow:∀b,Ow B (S.take n) (E.take n) b->Ow B S E b:=λb z=>z.imp id λ⟨i,k,xs,h1,h2⟩=>⟨i,k,xs,(gE h1).1,XD h2⟩;refine ⟨by rw [KP,KP,r.len],λi t h=>?_,λi k xs h=>?_,λi j k l xs ys a h1 h2 h3 h4=>?_,r.bd⟩
 ·obtain ⟨v,h1,h2⟩:=r.pure i t (gE h).1;exact ⟨v,gS (gE h).2 h1,h2.step (Kp.less ow)⟩
 ·obtain ⟨a,vs,h1,h2,h3,h4⟩:=r.own i k xs (gE h).1;exact ⟨a,vs,gS (gE h).2 h1,h2,h3.step (Kp.less ow),h4⟩
 ·exact r.inj i j k l xs ys a (gE h1).1 (gE h2).1 (XD h3) (XD h4)
end
end L2
namespace L2
open PySem PySem.Spec PyProof.Rows
def RR (K:W.Frag) (B:QF->Prop) (H:Hp) (S:St) (E:En):R->V->Prop
 | .p t,v=>Rp K H (Ow B S E) t v
 | .s i,v=>S[i]? = some (some v)
def Nu (K:W.Frag) (B:QF->Prop) (H:Hp) (S:St) (E:En):List R->List V->Prop
 | [],vs=>vs=[]
 | r::rs,vs=>∃v ws,vs=v::ws/\RR K B H S E r v/\Nu K B H S E rs ws
structure Gr (B:QF->Prop) (H:Hp) (S:St) (E:En) (H':Hp) (S':St) (E':En):Prop where
 kp:Kp (Ow B S E) (Ow B S' E') H H'
 pre:∃τ,S'=S++τ
theorem Gr.refl {B:QF->Prop} {H:Hp} {S:St} {E:En}:Gr B H S E H S E:=⟨Kp.refl _ _,[],by simp⟩
theorem Gr.trans {B:QF->Prop} {H H1 H2:Hp} {S S1 S2:St} {E E1 E2:En} (a:Gr B H S E H1 S1 E1) (b:Gr B H1 S1 E1 H2 S2 E2):Gr B H S E H2 S2 E2:=by
 obtain ⟨t,e⟩:=a.pre;obtain ⟨u,f⟩:=b.pre;exact ⟨a.kp.trans b.kp,t++u,by rw [f,e,IZ]⟩
theorem gF {S S':St} (h:∃τ,S'=S++τ) {i:Nat} {x:Option V} (e:S[i]? = some x):S'[i]? = some x:=by
 obtain ⟨t,rfl⟩:=h;rw [JP (IT.mp e).1];exact e
section
variable {K:W.Frag} {B:QF->Prop} {H H':Hp} {S S':St} {E E':En} {σ:St}
theorem RR.step (g:Gr B H S E H' S' E') {r:R} {v:V} (h:RR K B H S E r v):RR K B H' S' E' r v:=by
 cases r with
 | p t=>exact Rp.step g.kp h
 | s i=>exact gF g.pre h
theorem Nu.step (g:Gr B H S E H' S' E'):∀{rs:List R} {vs:List V},Nu K B H S E rs vs->Nu K B H' S' E' rs vs
 | [],_,h=>h
 | _::_,_,⟨v,ws,e,h1,h2⟩=>⟨v,ws,e,h1.step g,Nu.step g h2⟩
def Lk (K:W.Frag) (B:QF->Prop) (H:Hp) (S:St) (E:En) (Q':R->En->Prop) (Q:VK):Prop:=∀r E' v H' S',Q' r E'->Gr B H S E H' S' E'->RE K B H' S' E'->RR K B H' S' E' r v->Q v H'
def HK (K:W.Frag) (n:Nat) (B:QF->Prop) (H:Hp) (S:St) (E:En) (Q':List R->En->Prop) (Q:List V->Hp->Prop):Prop:=∀rs E' vs H' S',Q' rs E'->Gr B H S E H' S' E'->RE K B H' S' E'->Nu K B H' S' E' rs vs->vs.length=n->Q vs H'
theorem Lk.step {Q':R->En->Prop} {Q:VK} (l:Lk K B H S E Q' Q) (g:Gr B H S E H' S' E'):Lk K B H' S' E' Q' Q:=λr E2 v H2 S2 q g2=>l r E2 v H2 S2 q (g.trans g2)
end
abbrev FE:=En->(R->En->Prop)->Prop
abbrev FA:=En->(List R->En->Prop)->Prop
abbrev FB:=En->(Bool->En->Prop)->Prop
def aQ (K:W.Frag) (F:FE):TE:=λσ H Q=>∃B S E Q',(∃τ,S=σ++τ)/\RE K B H S E/\F E Q'/\Lk K B H S E Q' Q
def eC (K:W.Frag) (n:Nat) (F:FA):TA:=λσ H Q=>∃B S E Q',(∃τ,S=σ++τ)/\RE K B H S E/\F E Q'/\HK K n B H S E Q' Q
def eU (K:W.Frag) (F:FB):TT:=λσ H Q=>∃B S E Q',(∃τ,S=σ++τ)/\RE K B H S E/\F E Q'/\∀b E' H' S',Q' b E'->Gr B H S E H' S' E'->RE K B H' S' E'->Q b H'
section
variable {X:Cx} {e:Expr} {es:List Expr}
theorem QE.le {t t':TE} (h:QE X e t) (m:∀σ H Q,σ.length=X.N.length->t' σ H Q->t σ H Q):QE X e t':=⟨λpins s σ H Q I z=>h.h pins s σ H Q I (m σ H Q I.len z)⟩
theorem QA.le {t t':TA} (h:QA X es t) (m:∀σ H Q,t' σ H Q->t σ H Q):QA X es t':=⟨λpos pins s σ H Q I z=>h.h pos pins s σ H Q I (m σ H Q z)⟩
theorem QT.le {t t':TT} (h:QT X e t) (m:∀σ H Q,t' σ H Q->t σ H Q):QT X e t':=⟨λpins s σ H Q I z=>h.h pins s σ H Q I (m σ H Q z)⟩
theorem QW.le {t t':TT} (h:QW X e t) (m:∀σ H Q,t' σ H Q->t σ H Q):QW X e t':=⟨λwh pins s σ H Q I z=>h.h wh pins s σ H Q I (m σ H Q z)⟩
end
def vl (E:En):R->Option T
 | .p t=>some t
 | .s i=>match E[i]? with
  | some (some (.o _ xs))=>some (.lst xs)
  | some (some (.p t))=>some t
  | _=>none
def Rt (K:W.Frag) (H:Hp) (O:QF->Prop):T->V->Prop
 | .tup xs,v=>∃a vs,v = .ref a/\rR K H a vs/\cN K H O xs vs
 | .lst xs,v=>∃a vs,v = .ref a/\j4 K H a vs/\cN K H O xs vs
 | t,v=>Rp K H O t v
theorem Rp.rt {K:W.Frag} {H:Hp} {O:QF->Prop} {t:T} {v:V} (h:Rp K H O t v):Rt K H O t v:=by
 cases t with
 | tup xs=>exact h.sqT
 | lst xs=>exact h.sqL
 | non=>exact h
 | bl _=>exact h
 | int _=>exact h
 | str _=>exact h
section
variable {K:W.Frag} {B:QF->Prop} {H H':Hp} {S S':St} {E E':En} {σ:St}
theorem RE.vl (re:RE K B H S E) {r:R} {v:V} {t:T} (h:RR K B H S E r v) (e:vl E r=some t):Rt K H (Ow B S E) t v:=by
 cases r with
 | p u=>cases e;exact Rp.rt h
 | s i=>
  cases q:E[i]? with
  | none=>simp only [L2.vl,q] at e;cases e
  | some u=>
   cases u with
   | none=>simp only [L2.vl,q] at e;cases e
   | some u=>
    cases u with
    | p u=>
     simp only [L2.vl,q] at e;cases e;obtain ⟨w,h1,h2⟩:=re.pure i _ q;have h':S[i]? = some (some v):=h;rw [h'] at h1;cases h1;exact h2.rt
    | o k xs=>
     simp only [L2.vl,q] at e;cases e;obtain ⟨a,vs,h1,h2,h3,_⟩:=re.own i k xs q;have h':S[i]? = some (some v):=h;rw [h'] at h1;cases h1;exact ⟨a,vs,rfl,j4.of h2,h3⟩
theorem RE.int (re:RE K B H S E) {r:R} {v:V} {i:Int} (h:RR K B H S E r v) (e:L2.vl E r=some (.int i)):v = .int i:=re.vl h e
theorem RE.bl (re:RE K B H S E) {r:R} {v:V} {b:Bool} (h:RR K B H S E r v) (e:L2.vl E r=some (.bl b)):v = .bl b:=re.vl h e
theorem RE.tup (re:RE K B H S E) {p:QF} {ts:List T} {vs:List V} (hp:H p=none) (h:cN K H (Ow B S E) ts vs) :
  Gr B H S E (upd H p (.tup vs)) S E/\RE K B (upd H p (.tup vs)) S E/\Rp K (upd H p (.tup vs)) (Ow B S E) (.tup ts) (.ref p):=by
 have k:Kp (Ow B S E) (Ow B S E) H (upd H p (.tup vs)):=Kp.upd hp;exact ⟨⟨k,[],by simp⟩,re.kept λb o e=>by rw [bC (bF e hp)];exact e,p,vs,rfl,.inl ⟨re.nn hp,cV⟩,h.step k⟩
theorem t9 {α:Type} {xs:List α} {x:α} {i:Nat} {y:α} (h:(xs++[x])[i]? = some y):(i<xs.length/\xs[i]? = some y)\/(i=xs.length/\y=x):=by
 rcases LZ i xs.length with c | c
 ·rw [JP c] at h;exact .inl ⟨c,h⟩
 ·rw [KY c] at h;have:i-xs.length=0:=by
   rcases OO (i-xs.length) with z | z
   ·exact z
   ·rw [MF (by simp;omega)] at h;cases h
  rw [this] at h;simp at h;exact .inr ⟨by omega,h.symm⟩
theorem j9 {α:Type} {xs:List α} {x:α}:(xs++[x])[xs.length]? = some x:=by simp
theorem RE.lst (re:RE K B H S E) {p:QF} {ts:List T} {vs:List V} (hp:H p=none) (h:cN K H (Ow B S E) ts vs) :
  Gr B H S E (upd H p (.lst vs)) (S++[some (.ref p)]) (E++[some (.o false ts)])/\RE K B (upd H p (.lst vs)) (S++[some (.ref p)]) (E++[some (.o false ts)]):=by
 have gE:∀{i:Nat} {u:U},(E++[some (.o false ts)])[i]? = some (some u)->(E[i]? = some (some u)/\i<E.length)\/(i=E.length/\u = .o false ts):=λ{i u} h=>by
  rcases t9 h with ⟨c,h⟩ | ⟨c,h⟩
  ·exact .inl ⟨h,c⟩
  ·exact .inr ⟨c,Option.some.inj h⟩
 have gS:∀{i:Nat} {x:Option V},S[i]? = some x->(S++[some (.ref p)])[i]? = some x:=λ{i x} h=>gF ⟨_,rfl⟩ h;have XD:∀{i:Nat} {x:Option V},i<E.length->(S++[some (.ref p)])[i]? = some x->S[i]? = some x:=λ{i x} c h=>by
  rw [JP (by rw [re.len];exact c)] at h;exact h
 have lS:(S++[some (.ref p)])[E.length]? = some (some (.ref p)):=by rw [<-re.len];simp
 have ow:∀b,Ow B (S++[some (.ref p)]) (E++[some (.o false ts)]) b->Ow B S E b\/H b=none:=λb z=>by
  rcases z with z | ⟨i,k,xs,h1,h2⟩
  ·exact .inl (.inl z)
  rcases gE h1 with ⟨h1,c⟩ | ⟨c,h1⟩
  ·exact .inl (.inr ⟨i,k,xs,h1,XD c h2⟩)
  ·subst c;rw [lS] at h2;cases h2;exact .inr hp
 have k:Kp (Ow B S E) (Ow B (S++[some (.ref p)]) (E++[some (.o false ts)])) H (upd H p (.lst vs)):=⟨λb o e _=>by rw [bC (bF e hp)];exact e,ow⟩;refine ⟨⟨k,_,rfl⟩,⟨by simp [re.len],λi t h=>?_,λi l xs h=>?_,λi j l m xs ys a h1 h2 h3 h4=>?_,λa h=>?_⟩⟩
 ·rcases gE h with ⟨h,c⟩ | ⟨c,h⟩
  ·obtain ⟨v,h1,h2⟩:=re.pure i t h;exact ⟨v,gS h1,h2.step k⟩
  ·cases h
 ·rcases gE h with ⟨h,c⟩ | ⟨c,h⟩
  ·obtain ⟨a,ws,h1,h2,h3,h4⟩:=re.own i l xs h;exact ⟨a,ws,gS h1,by rw [bC (bF h2 hp)];exact h2,h3.step k,h4⟩
  ·cases h;subst c;refine ⟨p,vs,lS,cV,?_,⟨λz=>absurd z (by decide),λz=>absurd (.inl z) (re.nn hp)⟩⟩;exact cN.step k (by assumption)
 ·rcases gE h1 with ⟨h1,c1⟩ | ⟨c1,h1⟩
  ·rcases gE h2 with ⟨h2,c2⟩ | ⟨c2,h2⟩
   ·exact re.inj i j l m xs ys a h1 h2 (XD c1 h3) (XD c2 h4)
   ·subst c2;rw [lS] at h4;cases h4;exact absurd (.inr ⟨i,l,xs,h1,XD c1 h3⟩) (re.nn hp)
  ·rcases gE h2 with ⟨h2,c2⟩ | ⟨c2,h2⟩
   ·subst c1;rw [lS] at h3;cases h3;exact absurd (.inr ⟨j,m,ys,h2,XD c2 h4⟩) (re.nn hp)
   ·rw [c1,c2]
 ·obtain ⟨us,q⟩:=re.bd a h;exact ⟨us,by rw [bC (bF q hp)];exact q⟩
end
section
variable {X:Cx} {K:W.Frag} {pos:Pos} {a b c e:Expr} {es rest:List Expr} {Fa Fb Fc:FE} {Fr:FA} {Fp Fq:FB}
def BS (i:Nat):FE:=λE Q=>match E[i]? with
 | some (some (.p t))=>Q (.p t) E
 | some (some (.o _ _))=>Q (.s i) E
 | _=>False
def fC (t:T):FE:=λE Q=>Q (.p t) E
theorem fv (i:Nat) {x:Str} (hN:X.N[i]? = some x:=by rfl) (hv:V1 X.env.scope x:=by first | exact IV rfl | exact JW (IV rfl) | exact JW (JW rfl)) (hd:(x==("__debug__":Str))=false:=by decide)
  (XJ:(x==("__classdict__":Str))=false:=by decide):QE X (.Name x pos) (aQ K (BS i)):=by
 refine (qv i hN hv hd XJ).le λσ H Q hl ⟨B,S,E,Q',hS,re,hF,lk⟩=>?_;have hi:i<σ.length:=by rw [hl];exact (IT.mp hN).1
 obtain ⟨τ,rfl⟩:=hS;have back:∀{v},(σ++τ)[i]? = some (some v)->σ[i]? = some (some v):=λh=>by rw [JP hi] at h;exact h
 unfold BS at hF;split at hF
 ·rename_i t q;obtain ⟨v,h1,h2⟩:=re.pure i t q;exact ⟨v,back h1,lk _ _ _ _ _ hF .refl re h2⟩
 ·rename_i k xs q;obtain ⟨p,vs,h1,_⟩:=re.own i k xs q;exact ⟨_,back h1,lk _ _ _ _ _ hF .refl re h1⟩
 ·exact hF.elim
theorem Rm {v:V} {t:T} (h:QE X e (tC v)) (hv:∀K H O,Rp K H O t v):QE X e (aQ K (fC t)):=h.le λσ H Q hl ⟨B,S,E,Q',hS,re,hF,lk⟩=>lk _ _ _ _ _ hF .refl re (hv _ _ _)
theorem aB {i j pos}:QE X (.Constant (.int i) j pos) (aQ K (fC (.int i))):=Rm J5 λ_ _ _=>rfl
theorem rE {b j pos}:QE X (.Constant (.bool b) j pos) (aQ K (fC (.bl b))):=Rm Z9 λ_ _ _=>rfl
theorem pU {j pos}:QE X (.Constant .none j pos) (aQ K (fC .non)):=Rm Ei λ_ _ _=>rfl
theorem iH {x j pos}:QE X (.Constant (.str x) j pos) (aQ K (fC (.str x))):=Rm U9 λ_ _ _=>rfl
theorem two {G:R->R->En->(R->En->Prop)->Prop} {σ:St} {H:Hp} {Q:VK} (h:aQ K (λE Q=>Fa E λx E1=>Fb E1 λy E2=>G x y E2 Q) σ H Q) {P:V->V->Hp->Prop}
  (k:∀B S E x y v w H2 Q',(∃τ,S=σ++τ)->RE K B H2 S E->RR K B H2 S E x v->RR K B H2 S E y w->G x y E Q'->Lk K B H2 S E Q' Q->P v w H2):aQ K Fa σ H λv H1=>aQ K Fb σ H1 λw H2=>P v w H2:=by
 obtain ⟨B,S,E,Q',⟨τ,hS⟩,re,hF,lk⟩:=h;refine ⟨B,S,E,_,⟨τ,hS⟩,re,hF,λr E1 v H1 S1 q g TL rr=>?_⟩;obtain ⟨τ1,VW⟩:=g.pre;refine ⟨B,S1,E1,_,⟨τ++τ1,by rw [VW,hS,IZ]⟩,TL,q,λr2 E2 w H2 S2 q2 g2 UY jx=>?_⟩;obtain ⟨τ2,ZS⟩:=g2.pre;exact k B S2 E2 r r2 v w H2 Q' ⟨τ++τ1++τ2,by rw [ZS,VW,hS,IZ,IZ,IZ]⟩ UY (rr.step g2) jx q2 (lk.step (g.trans g2))
theorem one {G:R->En->(R->En->Prop)->Prop} {σ:St} {H:Hp} {Q:VK} (h:aQ K (λE Q=>Fa E λx E1=>G x E1 Q) σ H Q) {P:V->Hp->Prop}
  (k:∀B S E x v H2 Q',(∃τ,S=σ++τ)->RE K B H2 S E->RR K B H2 S E x v->G x E Q'->Lk K B H2 S E Q' Q->P v H2):aQ K Fa σ H λv H1=>P v H1:=by
 obtain ⟨B,S,E,Q',⟨τ,hS⟩,re,hF,lk⟩:=h;refine ⟨B,S,E,_,⟨τ,hS⟩,re,hF,λr E1 v H1 S1 q g TL rr=>?_⟩;obtain ⟨τ1,VW⟩:=g.pre;exact k B S1 E1 r v H1 Q' ⟨τ++τ1,by rw [VW,hS,IZ]⟩ TL rr q (lk.step g)
def i2 (x y:Option T) (k:Int->Int->Prop):Prop:=match x,y with
 | some (.int i),some (.int j)=>k i j
 | _,_=>False
theorem i2.ex {x y:Option T} {k:Int->Int->Prop} (h:i2 x y k):∃i j,x=some (.int i)/\y=some (.int j)/\k i j:=by
 unfold i2 at h;split at h
 ·exact ⟨_,_,rfl,rfl,h⟩
 ·exact h.elim
def fI (C:Int->Int->Prop) (g:Int->Int->Int) (Fa Fb:FE):FE:=λE Q=>Fa E λx E1=>Fb E1 λy E2=>i2 (vl E2 x) (vl E2 y) λi j=>C i j/\Q (.p (.int (g i j))) E2
def IC (g:Int->Int->Int) (Fa Fb:FE):FE:=λE Q=>Fa E λx E1=>Fb E1 λy E2=>i2 (vl E2 x) (vl E2 y) λi j=>Q (.p (.int (g i j))) E2
def GS (g:Int->Int->Bool) (Fa Fb:FE):FE:=λE Q=>Fa E λx E1=>Fb E1 λy E2=>i2 (vl E2 x) (vl E2 y) λi j=>Q (.p (.bl (g i j))) E2
theorem aN {op:Operator} {C:Int->Int->Prop} {g:Int->Int->Int} (ho:mU X (RL op) (rI C λi j=>.int (g i j))) (ha:QE X a (aQ K Fa)) (hb:QE X b (aQ K Fb)):QE X (.BinOp a op b pos) (aQ K (fI C g Fa Fb)):=by
 refine (Jj ho ha hb).le λσ H Q hl h=>two h λB S E x y v w H2 Q' hS re rx ry q lk=>?_;obtain ⟨i,j,e1,e2,c,q⟩:=q.ex;exact ⟨i,j,re.int rx e1,re.int ry e2,c,lk _ _ _ _ _ q .refl re rfl⟩
theorem bA {op:Operator} {g:Int->Int->Int} (ho:mU X (RL op) (Td λi j=>.int (g i j))) (ha:QE X a (aQ K Fa)) (hb:QE X b (aQ K Fb)):QE X (.BinOp a op b pos) (aQ K (IC g Fa Fb)):=by
 refine (Jj ho ha hb).le λσ H Q hl h=>two h λB S E x y v w H2 Q' hS re rx ry q lk=>?_;obtain ⟨i,j,e1,e2,q⟩:=q.ex;exact ⟨i,j,re.int rx e1,re.int ry e2,lk _ _ _ _ _ q .refl re rfl⟩
theorem wV {op:CmpOp} {g:Int->Int->Bool} (ho:mU X (RG op) (Td λi j=>.bl (g i j))) (ha:QE X a (aQ K Fa)) (hb:QE X b (aQ K Fb)) (hm:RA op b=false):QE X (.Compare a [op] [b] pos) (aQ K (GS g Fa Fb)):=by
 refine (Vr ho ha hb hm).le λσ H Q hl h=>two h λB S E x y v w H2 Q' hS re rx ry q lk=>?_;obtain ⟨i,j,e1,e2,q⟩:=q.ex;exact ⟨i,j,re.int rx e1,re.int ry e2,lk _ _ _ _ _ q .refl re rfl⟩
def i1 (x:Option T) (k:Int->Prop):Prop:=match x with
 | some (.int i)=>k i
 | _=>False
theorem i1.ex {x:Option T} {k:Int->Prop} (h:i1 x k):∃i,x=some (.int i)/\k i:=by
 unfold i1 at h;split at h
 ·exact ⟨_,rfl,h⟩
 ·exact h.elim
def b1 (x:Option T) (k:Bool->Prop):Prop:=match x with
 | some (.bl i)=>k i
 | _=>False
theorem b1.ex {x:Option T} {k:Bool->Prop} (h:b1 x k):∃i,x=some (.bl i)/\k i:=by
 unfold b1 at h;split at h
 ·exact ⟨_,rfl,h⟩
 ·exact h.elim
def GL (Fa:FE):FE:=λE Q=>Fa E λx E1=>i1 (vl E1 x) λi=>Q (.p (.int (-i))) E1
theorem sJ (ha:QE X a (aQ K Fa)):QE X (.UnaryOp .USub a pos) (aQ K (GL Fa)):=by
 refine (X5 P6 ha).le λσ H Q hl h=>one (Fa:=Fa) h λB S E x v H2 Q' hS re rx q lk=>?_;obtain ⟨i,e1,q⟩:=q.ex;exact ⟨i,re.int rx e1,lk _ _ _ _ _ q .refl re rfl⟩
theorem Qn {G:Bool->En->(Bool->En->Prop)->Prop} {σ:St} {H:Hp} {Q:Bool->Hp->Prop} (h:eU K (λE Q=>Fp E λx E1=>G x E1 Q) σ H Q) {P:Bool->Hp->Prop}
  (k:∀B S E x H2 Q',(∃τ,S=σ++τ)->RE K B H2 S E->G x E Q'->(∀b E' H' S',Q' b E'->Gr B H2 S E H' S' E'->RE K B H' S' E'->Q b H')->P x H2):eU K Fp σ H P:=by
 obtain ⟨B,S,E,Q',⟨τ,hS⟩,re,hF,lk⟩:=h;refine ⟨B,S,E,_,⟨τ,hS⟩,re,hF,λr E1 H1 S1 q g TL=>?_⟩;obtain ⟨τ1,VW⟩:=g.pre;exact k B S1 E1 r H1 Q' ⟨τ++τ1,by rw [VW,hS,IZ]⟩ TL q λb E2 H2 S2 q2 g2 UY=>lk b E2 H2 S2 q2 (g.trans g2) UY
def yS (Fa:FE):FB:=λE Q=>Fa E λx E1=>b1 (vl E1 x) λi=>Q i E1
def FD (Fp:FB):FB:=λE Q=>Fp E λx E1=>Q (!x) E1
def DY (Fp Fq:FB):FB:=λE Q=>Fp E λx E1=>if x=true then Fq E1 Q else Q false E1
def HI (Fp Fq:FB):FB:=λE Q=>Fp E λx E1=>if x=true then Q true E1 else Fq E1 Q
theorem Xj {σ:St} {H:Hp} {Q:Bool->Hp->Prop} (h:eU K (yS Fa) σ H Q):aQ K Fa σ H λv H1=>∃c,v = .bl c/\Q c H1:=by
 obtain ⟨B,S,E,Q',⟨τ,hS⟩,re,hF,lk⟩:=h;refine ⟨B,S,E,_,⟨τ,hS⟩,re,hF,λr E1 v H1 S1 q g TL rr=>?_⟩;obtain ⟨i,e1,q⟩:=q.ex;exact ⟨i,TL.bl rr e1,lk _ _ _ _ q g TL⟩
theorem Of (h:QE X e (aQ K Fa)) (he:∀whole,isTrue e X.env whole=(do let v <-whole;standAt e.pos;RT [v] (truthy v)):=by intro _;rfl):QT X e (eU K (yS Fa)):=(N4 h he).le λσ H Q z=>Xj z
theorem R4 (ha:QT X a (eU K Fp)):QT X (.UnaryOp .Not a pos) (eU K (FD Fp)):=(N1 ha).le λσ H Q h=>Qn (Fp:=Fp) h λB S E x H2 Q' hS re q lk=>lk _ _ _ _ q .refl re
theorem La (ha:QT X a (eU K Fp)):QW X (.BoolOp .And [a] pos) (eU K Fp):=Wk ha
theorem yF (ha:QT X a (eU K Fp)):QW X (.BoolOp .Or [a] pos) (eU K Fp):=K8 ha
theorem Qj (ha:QT X a (eU K Fp)) (hb:QW X (.BoolOp .And (b::rest) pos) (eU K Fq)):QW X (.BoolOp .And (a::b::rest) pos) (eU K (DY Fp Fq)):=by
 refine (P8 ha hb).le λσ H Q h=>Qn (Fp:=Fp) h λB S E x H2 Q' hS re q lk=>?_;cases x
 ·exact lk _ _ _ _ q .refl re
 ·exact ⟨B,S,E,Q',hS,re,q,lk⟩
theorem Gy (ha:QT X a (eU K Fp)) (hb:QW X (.BoolOp .Or (b::rest) pos) (eU K Fq)):QW X (.BoolOp .Or (a::b::rest) pos) (eU K (HI Fp Fq)):=by
 refine (CF ha hb).le λσ H Q h=>Qn (Fp:=Fp) h λB S E x H2 Q' hS re q lk=>?_;cases x
 ·exact ⟨B,S,E,Q',hS,re,q,lk⟩
 ·exact lk _ _ _ _ q .refl re
theorem Ls (h:QW X e (eU K Fp)):QT X e (eU K Fp):=DS h
def HJ (Fa Fb:FE):FE:=λE Q=>Fa E λx E1=>b1 (vl E1 x) λi=>if i=true then Q (.p (.bl true)) E1 else Fb E1 Q
theorem Pj (ha:QE X a (aQ K Fa)) (hb:QE X (.BoolOp .Or (b::rest) pos) (aQ K Fb)):QE X (.BoolOp .Or (a::b::rest) pos) (aQ K (HJ Fa Fb)):=by
 refine (W6 ha hb).le λσ H Q hl h=>one (Fa:=Fa) h λB S E x v H2 Q' hS re rx q lk=>?_;obtain ⟨i,e1,q⟩:=q.ex;refine ⟨i,re.bl rx e1,?_⟩;cases i
 ·exact ⟨B,S,E,Q',hS,re,q,lk⟩
 ·exact lk _ _ _ _ _ q .refl re rfl
theorem L6 {op} (h:QE X a (aQ K Fa)):QE X (.BoolOp op [a] pos) (aQ K Fa):=O6 h
def IJ (Fp:FB) (Fa Fb:FE):FE:=λE Q=>Fp E λx E1=>if x=true then Fa E1 Q else Fb E1 Q
theorem rA (hc:QT X c (eU K Fp)) (ha:QE X a (aQ K Fa)) (hb:QE X b (aQ K Fb)):QE X (.IfExp c a b pos) (aQ K (IJ Fp Fa Fb)):=by
 refine (Pz hc ha hb).le λσ H Q hl ⟨B,S,E,Q',⟨τ,hS⟩,re,hF,lk⟩=>?_;refine ⟨B,S,E,_,⟨τ,hS⟩,re,hF,λr E1 H1 S1 q g TL=>?_⟩;obtain ⟨τ1,VW⟩:=g.pre;have hp:∃t,S1=σ++t:=⟨τ++τ1,by rw [VW,hS,IZ]⟩;cases r
 ·exact ⟨B,S1,E1,Q',hp,TL,q,lk.step g⟩
 ·exact ⟨B,S1,E1,Q',hp,TL,q,lk.step g⟩
def GI:FA:=λE Q=>Q [] E
def BJ (Fa:FE) (Fr:FA):FA:=λE Q=>Fa E λr E1=>Fr E1 λrs E2=>Q (r::rs) E2
theorem aA:QA X [] (eC K 0 GI):=Ql.le λσ H Q ⟨B,S,E,Q',hS,re,hF,lk⟩=>lk _ _ _ _ _ hF .refl re rfl rfl
theorem fc {n:Nat} (ha:QE X e (aQ K Fa)) (hr:QA X es (eC K n Fr)) (hs:cS e=false:=by rfl):QA X (e::es) (eC K (n+1) (BJ Fa Fr)):=by
 refine (qc ha hr hs).le λσ H Q ⟨B,S,E,Q',⟨τ,hS⟩,re,hF,lk⟩=>?_;refine ⟨B,S,E,_,⟨τ,hS⟩,re,hF,λr E1 v H1 S1 q g TL rr=>?_⟩;obtain ⟨τ1,VW⟩:=g.pre;exact ⟨B,S1,E1,_,⟨τ++τ1,by rw [VW,hS,IZ]⟩,TL,q,λrs E2 vs H2 S2 q2 g2 UY jx hn=>lk _ _ _ _ _ q2 (g.trans g2) UY ⟨v,vs,rfl,rr.step g2,jx⟩ (by rw [JE,hn])⟩
theorem args {n:Nat} {G:List R->En->(R->En->Prop)->Prop} {σ:St} {H:Hp} {Q:VK} (h:aQ K (λE Q=>Fr E λrs E1=>G rs E1 Q) σ H Q) {P:List V->Hp->Prop}
  (k:∀B S E rs vs H2 Q',(∃τ,S=σ++τ)->RE K B H2 S E->Nu K B H2 S E rs vs->vs.length=n->G rs E Q'->Lk K B H2 S E Q' Q->P vs H2):eC K n Fr σ H P:=by
 obtain ⟨B,S,E,Q',⟨τ,hS⟩,re,hF,lk⟩:=h;refine ⟨B,S,E,_,⟨τ,hS⟩,re,hF,λr E1 v H1 S1 q g TL rr hn=>?_⟩;obtain ⟨τ1,VW⟩:=g.pre;exact k B S1 E1 r v H1 Q' ⟨τ++τ1,by rw [VW,hS,IZ]⟩ TL rr hn q (lk.step g)
def uF:List R->Option (List T)
 | []=>some []
 | .p t::rs=>(uF rs).map (t::·)
 | _=>none
theorem uH {B:QF->Prop} {H:Hp} {S:St} {E:En}:∀{rs:List R} {vs:List V} {ts:List T},Nu K B H S E rs vs->uF rs=some ts->cN K H (Ow B S E) ts vs
 | [],_,_,h,e=>by cases e;exact h
 | .p t::rs,_,ts,⟨v,ws,e1,h1,h2⟩,e=>by
  cases q:uF rs with
  | none=>rw [uF,q] at e;cases e
  | some us=>
   rw [uF,q] at e;cases e;exact ⟨v,ws,e1,h1,uH h2 q⟩
 | .s _::_,_,_,_,e=>by cases e
def o1 {α:Type} (x:Option α) (k:α->Prop):Prop:=match x with
 | some y=>k y
 | none=>False
theorem o1.ex {α:Type} {x:Option α} {k:α->Prop} (h:o1 x k):∃y,x=some y/\k y:=by
 cases x with
 | none=>exact h.elim
 | some y=>exact ⟨y,rfl,h⟩
def FF (Fr:FA):FE:=λE Q=>Fr E λrs E1=>o1 (uF rs) λts=>Q (.p (.tup ts)) E1
def EN (Fr:FA):FE:=λE Q=>Fr E λrs E1=>o1 (uF rs) λts=>Q (.s E1.length) (E1++[some (.o false ts)])
theorem aL {x1} {n:Nat} (h:QA X es (eC K n Fr)) (hz:n<=1000:=by decide):QE X (.Tuple es x1 pos) (aQ K (FF Fr)):=by
 refine (Q6 h).le λσ H Q hl h=>args (Fr:=Fr) h λB S E rs vs H2 Q' hS re rr hn q lk=>⟨by rw [hn];exact KN (bY hz),λp hp=>?_⟩;obtain ⟨ts,e,q⟩:=q.ex;obtain ⟨g,TJ,rp⟩:=re.tup hp (uH rr e);exact lk _ _ _ _ _ q g TJ rp
theorem d8 {n:Nat} (h:QA X es (eC K n Fr)) (hz:n<=1000:=by decide):QE X (.List es pos) (aQ K (EN Fr)):=by
 refine (Ec h).le λσ H Q hl h=>args (Fr:=Fr) h λB S E rs vs H2 Q' hS re rr hn q lk=>⟨by rw [hn];exact KN (bY hz),λp hp=>?_⟩;obtain ⟨ts,e,q⟩:=q.ex;obtain ⟨g,TJ⟩:=re.lst hp (uH rr e);exact lk _ _ _ _ _ q g TJ (by rw [<-re.len];exact j9)
def CQ:T->Option (List T)
 | .tup xs=>some xs
 | .lst xs=>some xs
 | _=>none
def GP (x y:Option T) (k:T->Prop):Prop:=match x,y with
 | some (.tup xs),some (.int i)=>o1 (lE xs i) k
 | some (.lst xs),some (.int i)=>o1 (lE xs i) k
 | _,_=>False
theorem Tp {H:Hp} {O:QF->Prop} {xs:List T} {vs:List V} {i:Int} {t:T} (h:cN K H O xs vs) (e:lE xs i=some t):∃v,lE vs i=some v/\Rp K H O t v:=by
 unfold lE at e ⊢;rw [h.length];cases q:Iw xs.length i with
 | none=>rw [q] at e;cases e
 | some j=>rw [q] at e;exact h.get e
def ID (Fa Fb:FE):FE:=λE Q=>Fa E λx E1=>Fb E1 λy E2=>GP (vl E2 x) (vl E2 y) λt=>Q (.p t) E2
theorem aH (eK:X.K=K) (ha:QE X a (aQ K Fa)) (hb:QE X b (aQ K Fb)) (hs:rS b):QE X (.Subscript a b pos) (aQ K (ID Fa Fb)):=by
 subst eK;refine (Zz Qr ha hb hs).le λσ H Q hl h=>two (Fa:=Fa) (Fb:=Fb) h λB S E x y v w H2 Q' hS re rx ry q lk=>?_;unfold GP at q;split at q
 ·rename_i xs i e1 e2;obtain ⟨t,e3,q⟩:=q.ex;obtain ⟨p,vs,rfl,sq,rs⟩:=re.vl rx e1;obtain ⟨u,h1,h2⟩:=Tp rs e3;exact .inr (.inl ⟨p,vs,i,u,rfl,re.int ry e2,sq,h1,lk _ _ _ _ _ q .refl re h2⟩)
 ·rename_i xs i e1 e2;obtain ⟨t,e3,q⟩:=q.ex;obtain ⟨p,vs,rfl,sq,rs⟩:=re.vl rx e1;obtain ⟨u,h1,h2⟩:=Tp rs e3;exact .inl ⟨p,vs,i,u,rfl,re.int ry e2,sq,h1,lk _ _ _ _ _ q .refl re h2⟩
 ·exact q.elim
def EY (Fr:FA):FE:=λE Q=>Fr E λrs E1=>match rs with
 | [x]=>o1 ((vl E1 x).bind CQ) λxs=>Q (.p (.int xs.length)) E1
 | _=>False
theorem kO {n:Nat} {p:Pos} (eK:X.K=K) (hg:Gl X "len") (hm:X.mg "len" = none) (ha:QA X (e::es) (eC K n Fr)) (hs:bV (e::es)=true:=by rfl):QE X (.Call (.Name "len" p) (e::es) [] pos) (aQ K (EY Fr)):=by
 subst eK;refine (fS xV hg hm PySem.boot_len ha (by decide) (by decide) hs).le λσ H Q hl h=>args (Fr:=Fr) h λB S E rs vs H2 Q' hS re rr hn q lk=>?_
 match rs,rr,q with
 | [x],⟨v,ws,e1,h1,h2⟩,q=>
  cases h2;subst e1;obtain ⟨xs,e2,q⟩:=o1.ex q;obtain ⟨t,e3,e2⟩:=NV.mp e2;have rt:=re.vl h1 e3;cases t with
  | tup ys=>
   cases e2;obtain ⟨p,us,rfl,sq,rs⟩:=rt;exact ⟨p,us,rfl,.inr sq,by rw [rs.length];exact lk _ _ _ _ _ q .refl re rfl⟩
  | lst ys=>
   cases e2;obtain ⟨p,us,rfl,sq,rs⟩:=rt;exact ⟨p,us,rfl,.inl sq,by rw [rs.length];exact lk _ _ _ _ _ q .refl re rfl⟩
  | _=>cases e2
 | [],_,q=>exact q.elim
 | _::_::_,_,q=>exact q.elim
def FU (Fr:FA):FE:=λE Q=>Fr E λrs E1=>match rs with
 | [x]=>i1 (vl E1 x) λi=>Q (.p (.int (i.natAbs:Int))) E1
 | _=>False
theorem pQ {n:Nat} {p:Pos} (hg:Gl X "abs") (hm:X.mg "abs" = none) (ha:QA X (e::es) (eC K n Fr)) (hs:bV (e::es)=true:=by rfl):QE X (.Call (.Name "abs" p) (e::es) [] pos) (aQ K (FU Fr)):=by
 refine (fS Lb hg hm boot_abs ha (by decide) (by decide) hs).le λσ H Q hl h=>args (Fr:=Fr) h λB S E rs vs H2 Q' hS re rr hn q lk=>?_
 match rs,rr,q with
 | [x],⟨v,ws,e1,h1,h2⟩,q=>
  cases h2;subst e1;obtain ⟨i,e2,q⟩:=i1.ex q;exact ⟨i,by rw [re.int h1 e2],lk _ _ _ _ _ q .refl re rfl⟩
 | [],_,q=>exact q.elim
 | _::_::_,_,q=>exact q.elim
def Y2 (Fr:FA):FE:=λE Q=>Fr E λrs E1=>match rs with
 | [x]=>b1 (vl E1 x) λi=>Q (.p (.int (if i then 1 else 0))) E1
 | _=>False
theorem Vm {n:Nat} {p:Pos} (hg:Gl X "int") (hm:X.mg "int" = none) (ha:QA X (e::es) (eC K n Fr)) (hs:bV (e::es)=true:=by rfl):QE X (.Call (.Name "int" p) (e::es) [] pos) (aQ K (Y2 Fr)):=by
 refine (kQ Ms hg hm (by decide +kernel) ha (by decide) (by decide) hs).le λσ H Q hl h=>args (Fr:=Fr) h λB S E rs vs H2 Q' hS re rr hn q lk=>?_
 match rs,rr,q with
 | [x],⟨v,ws,e1,h1,h2⟩,q=>
  cases h2;subst e1;obtain ⟨i,e2,q⟩:=b1.ex q;exact ⟨i,by rw [re.bl h1 e2],lk _ _ _ _ _ q .refl re rfl⟩
 | [],_,q=>exact q.elim
 | _::_::_,_,q=>exact q.elim
def Xa (Fr:FA):FE:=λE Q=>Fr E λrs E1=>match rs with
 | [x,y]=>i2 (vl E1 x) (vl E1 y) λi j=>(0<j/\j<2^200)/\Q (.p (.tup [.int (i/j),.int (i%j)])) E1
 | _=>False
theorem Lp {n:Nat} {p:Pos} (hg:Gl X "divmod") (hm:X.mg "divmod" = none) (ha:QA X (e::es) (eC K n Fr)) (hs:bV (e::es)=true:=by rfl):QE X (.Call (.Name "divmod" p) (e::es) [] pos) (aQ K (Xa Fr)):=by
 refine (fS zR hg hm boot_divmod ha (by decide) (by decide) hs).le λσ H Q hl h=>args (Fr:=Fr) h λB S E rs vs H2 Q' hS re rr hn q lk=>?_
 match rs,rr,q with
 | [x,y],⟨v,ws,e1,h1,w,ZU,e2,h2,h3⟩,q=>
  cases h3;subst e2;subst e1;obtain ⟨i,j,e3,e4,⟨c1,c2⟩,q⟩:=i2.ex q;refine ⟨i,j,by rw [re.int h1 e3,re.int h2 e4],c1,c2,λp hp=>?_⟩;obtain ⟨g,TJ,rp⟩:=re.tup (ts:=[.int (i/j),.int (i%j)]) (vs:=[.int (i/j),.int (i%j)]) hp ⟨_,_,rfl,rfl,_,_,rfl,rfl,rfl⟩;exact lk _ _ _ _ _ q g TJ rp
 | [],_,q=>exact q.elim
 | [_],_,q=>exact q.elim
 | _::_::_::_,_,q=>exact q.elim
end
end L2
namespace L2
open PySem PySem.Spec PyProof.Rows
structure ET where
 nx:En->Prop
 rt:R->En->Prop
 bk:En->Prop:=λ_=>False
 ct:En->Prop:=λ_=>False
abbrev FS:=ET->En->Prop
abbrev Gs (B:QF->Prop) (H:Hp) (S:St) (E:En) (H':Hp) (S':St) (E':En):Prop:=Kp (Ow B S E) (Ow B S' E') H H'
structure LS (K:W.Frag) (B:QF->Prop) (H:Hp) (σ:St) (E:En) (DT:ET) (D:lW):Prop where
 nx:∀σ' H' E',DT.nx E'->Gs B H σ E H' σ' E'->RE K B H' σ' E'->D.nx σ' H'
 rt:∀r E' v H' S',DT.rt r E'->Gs B H σ E H' S' E'->RE K B H' S' E'->RR K B H' S' E' r v->D.rt v H'
 bk:∀σ' H' E',DT.bk E'->Gs B H σ E H' σ' E'->RE K B H' σ' E'->D.bk σ' H'
 ct:∀σ' H' E',DT.ct E'->Gs B H σ E H' σ' E'->RE K B H' σ' E'->D.ct σ' H'
theorem LS.step {K:W.Frag} {B:QF->Prop} {H H':Hp} {σ σ':St} {E E':En} {DT:ET} {D:lW} (l:LS K B H σ E DT D) (g:Gs B H σ E H' σ' E'):LS K B H' σ' E' DT D:=
 ⟨λa b c d e=>l.nx a b c d (g.trans e),λa b c d e f h=>l.rt a b c d e f (g.trans h),λa b c d e=>l.bk a b c d (g.trans e),λa b c d e=>l.ct a b c d (g.trans e)⟩
def hJ (K:W.Frag) (F:FS):TS:=λD σ H=>∃B E DT,RE K B H σ E/\F DT E/\LS K B H σ E DT D
section
variable {X:Cx} {st:QU} {WO:List QU}
theorem QS.le {t t':TS} (h:QS X st t) (m:∀D σ H,σ.length=X.N.length->t' D σ H->t D σ H):QS X st t':=⟨λpins s σ H D I z=>h.h pins s σ H D I (m D σ H I.len z)⟩
theorem QB.le {t t':TS} (h:QB X WO t) (m:∀D σ H,t' D σ H->t D σ H):QB X WO t':=⟨λpins s σ H D I z=>h.h pins s σ H D I (m D σ H z)⟩
theorem QG.le {e:Expr} {t t':TG} (h:QG X e t) (m:∀v σ H Q,σ.length=X.N.length->t' v σ H Q->t v σ H Q):QG X e t':=⟨λpins s σ H v u Q I r z=>h.h pins s σ H v u Q I r (m v σ H Q I.len z)⟩
theorem Fx.le {es:List Expr} {t t':Nx} (h:Fx X es t) (m:∀v σ H Q,t' v σ H Q->t v σ H Q):Fx X es t':=⟨λpins s σ H v u Q I r z=>h.h pins s σ H v u Q I r (m v σ H Q z)⟩
theorem QI.le {tg e:Expr} {t t':TI} (h:QI X tg e t) (m:∀σ H Q,σ.length=X.N.length->t' σ H Q->t σ H Q):QI X tg e t':=⟨λpins s σ H R I z=>h.h pins s σ H R I (m σ H R I.len z)⟩
end
section
variable {K:W.Frag} {B:QF->Prop} {H H':Hp} {S S':St} {E E':En} {σ:St}
theorem RE.map (re:RE K B H S E) (hl:S'.length=E'.length) (hp:∀(i:Nat) (t:T),E'[i]? = some (some (.p t))->∃v,S'[i]? = some (some v)/\Rp K H (Ow B S E) t v)
  (f:Nat->Nat) (ho:∀(i:Nat) (k:Bool) (xs:List T),E'[i]? = some (some (.o k xs))->E[f i]? = some (some (.o k xs))/\∃a,S[f i]? = some (some (.ref a))/\S'[i]? = some (some (.ref a)))
  (hf:∀(i j:Nat) (k l:Bool) (xs ys:List T),E'[i]? = some (some (.o k xs))->E'[j]? = some (some (.o l ys))->f i=f j->i=j):RE K B H S' E'/\∀b,Ow B S' E' b->Ow B S E b:=by
 have ow:∀b,Ow B S' E' b->Ow B S E b:=λb z=>by
  rcases z with z | ⟨i,k,xs,h1,h2⟩
  ·exact .inl z
  obtain ⟨h3,a,h4,h5⟩:=ho i k xs h1;rw [h2] at h5;cases h5;exact .inr ⟨f i,k,xs,h3,h4⟩
 refine ⟨⟨hl,λi t h=>?_,λi k xs h=>?_,λi j k l xs ys a h1 h2 h3 h4=>?_,re.bd⟩,ow⟩
 ·obtain ⟨v,h1,h2⟩:=hp i t h;exact ⟨v,h1,h2.step (Kp.less ow)⟩
 ·obtain ⟨h3,a,h4,h5⟩:=ho i k xs h;obtain ⟨a',vs,q1,q2,q3,q4⟩:=re.own _ k xs h3;rw [h4] at q1;cases q1;exact ⟨a,vs,h5,q2,q3.step (Kp.less ow),q4⟩
 ·obtain ⟨p1,a1,p2,p3⟩:=ho i k xs h1;obtain ⟨r1,a2,r2,r3⟩:=ho j l ys h2;rw [h3] at p3;cases p3;rw [h4] at r3;cases r3;exact hf i j k l xs ys h1 h2 (re.inj _ _ k l xs ys _ p1 r1 p2 r2)
theorem RE.cut (re:RE K B H' S' E') (hS:∃τ,S'=σ++τ) (hl:σ.length=E.length):RE K B H' σ (E'.take E.length)/\∀b,Ow B σ (E'.take E.length) b->Ow B S' E' b:=by
 obtain ⟨τ,rfl⟩:=hS;have e:(σ++τ).take E.length=σ:=by rw [<-hl];simp
 have:=re.take E.length;rw [e] at this;refine ⟨this,λb z=>?_⟩;rcases z with z | ⟨i,k,xs,h1,h2⟩
 ·exact .inl z
 have hi:i<E.length:=by
  rcases LZ i E.length with c | c
  ·exact c
  ·rw [MO (by omega)] at h1;cases h1
 exact .inr ⟨i,k,xs,by rw [LF hi] at h1;exact h1,gF ⟨τ,rfl⟩ h2⟩
theorem RE.setP (re:RE K B H S E) {i:Nat} {t:T} {v:V} (h:Rp K H (Ow B S E) t v):RE K B H (S.set i (some v)) (E.set i (some (.p t)))/\∀b,Ow B (S.set i (some v)) (E.set i (some (.p t))) b->Ow B S E b:=by
 refine re.map (by simp [re.len]) (λj u hj=>?_) id (λj k xs hj=>?_) (λ_ _ _ _ _ _ _ _ h=>h)
 ·rw [NG] at hj
  by_cases c:i=j
  ·subst c;rw [if_pos rfl] at hj;split at hj
   ·cases hj;rename_i hi;exact ⟨v,by rw [KO (by rw [re.len];exact hi)],h⟩
   ·cases hj
  ·rw [if_neg c] at hj;obtain ⟨w,h1,h2⟩:=re.pure j u hj;exact ⟨w,by rw [JN c];exact h1,h2⟩
 ·rw [NG] at hj
  by_cases c:i=j
  ·subst c;rw [if_pos rfl] at hj;split at hj<;>cases hj
  ·rw [if_neg c] at hj;obtain ⟨a,vs,h1,_⟩:=re.own j k xs hj;exact ⟨hj,a,h1,by rw [JN c];exact h1⟩
theorem RE.setO (re:RE K B H S E) (hS:∃τ,S=σ++τ) {i j:Nat} {k:Bool} {xs:List T} (hj:σ.length<=j) (hE:E[j]? = some (some (.o k xs))) {v:V} (hv:S[j]? = some (some v)) :
  RE K B H (σ.set i (some v)) ((E.take σ.length).set i (some (.o k xs)))/\∀b,Ow B (σ.set i (some v)) ((E.take σ.length).set i (some (.o k xs))) b->Ow B S E b:=by
 obtain ⟨τ,rfl⟩:=hS;have hle:σ.length<=E.length:=by rw [<-re.len];simp
 have gt:∀{m:Nat} {x:Option U},(E.take σ.length)[m]? = some x->E[m]? = some x/\m<σ.length:=λ{m x} h=>by
  by_cases c:m<σ.length
  ·rw [LF c] at h;exact ⟨h,c⟩
  ·rw [MO (by omega)] at h;cases h
 refine re.map (by simp;omega) (λm u hm=>?_) (λm=>if m=i then j else m) (λm l ys hm=>?_) (λm n l l' ys zs h1 h2 h=>?_)
 ·rw [NG] at hm
  by_cases c:i=m
  ·subst c;rw [if_pos rfl] at hm;split at hm<;>cases hm
  ·rw [if_neg c] at hm;obtain ⟨hm,lt⟩:=gt hm;obtain ⟨w,h1,h2⟩:=re.pure m u hm;rw [JP lt] at h1;exact ⟨w,by rw [JN c];exact h1,h2⟩
 ·rw [NG] at hm
  by_cases c:i=m
  ·subst c;rw [if_pos rfl] at hm;split at hm
   ·cases hm;rename_i hi;obtain ⟨a,vs,h1,_⟩:=re.own j k xs hE;rw [hv] at h1;cases h1;rw [if_pos rfl];refine ⟨hE,a,hv,?_⟩;rw [KO (by rw [KP] at hi;omega)]
   ·cases hm
  ·rw [if_neg c] at hm;obtain ⟨hm,lt⟩:=gt hm;obtain ⟨a,vs,h1,_⟩:=re.own m l ys hm;rw [if_neg (λz=>c z.symm)];refine ⟨hm,a,h1,?_⟩;rw [JP lt] at h1;rw [JN c];exact h1
 ·have lt:∀{m:Nat} {l:Bool} {ys:List T},((E.take σ.length).set i (some (.o k xs)))[m]? = some (some (.o l ys))->m≠i->m<σ.length:=λ{m l ys} h1 c=>by
   rw [JN (λz=>c z.symm)] at h1;exact (gt h1).2
  by_cases c1:m=i
  ·by_cases c2:n=i
   ·rw [c1,c2]
   ·simp only [if_pos c1,if_neg c2] at h;have:=lt h2 c2;omega
  ·by_cases c2:n=i
   ·simp only [if_neg c1,if_pos c2] at h;have:=lt h1 c1;omega
   ·simp only [if_neg c1,if_neg c2] at h;exact h
theorem RE.frz (re:RE K B H S E) {i:Nat} {xs:List T} (h:E[i]? = some (some (.o false xs))):RE K B H S (E.set i (some (.p (.lst xs))))/\∀b,Ow B S (E.set i (some (.p (.lst xs)))) b->Ow B S E b/\S[i]?≠some (some (.ref b)):=by
 have hi:i<E.length:=(IT.mp h).1;obtain ⟨a,vs,h1,h2,h3,h4⟩:=re.own i false xs h;have get:∀{j:Nat} {u:U},(E.set i (some (.p (.lst xs))))[j]? = some (some u)->(j=i/\u = .p (.lst xs))\/(j≠i/\E[j]? = some (some u)):=λ{j u} hj=>by
  by_cases c:j=i
  ·subst c;rw [KO hi] at hj;cases hj;exact .inl ⟨rfl,rfl⟩
  ·rw [JN (λz=>c z.symm)] at hj;exact .inr ⟨c,hj⟩
 have ow:∀b,Ow B S (E.set i (some (.p (.lst xs)))) b->Ow B S E b/\S[i]?≠some (some (.ref b)):=λb z=>by
  rcases z with z | ⟨j,k,ys,q1,q2⟩
  ·refine ⟨.inl z,λw=>?_⟩;rw [h1] at w;cases w;exact absurd (h4.mpr z) (by decide)
  rcases get q1 with ⟨_,z⟩ | ⟨c,q1⟩
  ·cases z
  ·exact ⟨.inr ⟨j,k,ys,q1,q2⟩,λz=>c (re.inj j i k false ys xs b q1 h q2 z)⟩
 have kl:Kp (Ow B S E) (Ow B S (E.set i (some (.p (.lst xs))))) H H:=Kp.less λb z=>(ow b z).1;refine ⟨⟨by simp [re.len],λj t hj=>?_,λj k ys hj=>?_,λj m k l ys zs b q1 q2 q3 q4=>?_,re.bd⟩,ow⟩
 ·rcases get hj with ⟨c,z⟩ | ⟨c,hj⟩
  ·cases z;subst c;exact ⟨_,h1,a,vs,rfl,.inl ⟨λz=>(ow a z).2 h1,.inl h2⟩,h3.step kl⟩
  ·obtain ⟨w,q1,q2⟩:=re.pure j t hj;exact ⟨w,q1,q2.step kl⟩
 ·rcases get hj with ⟨_,z⟩ | ⟨c,hj⟩
  ·cases z
  ·obtain ⟨b,ws,q1,q2,q3,q4⟩:=re.own j k ys hj;exact ⟨b,ws,q1,q2,q3.step kl,q4⟩
 ·rcases get q1 with ⟨_,z⟩ | ⟨_,q1⟩
  ·cases z
  rcases get q2 with ⟨_,z⟩ | ⟨_,q2⟩
  ·cases z
  exact re.inj j m k l ys zs b q1 q2 q3 q4
theorem RE.put (re:RE K B H S E) {i:Nat} {k:Bool} {xs ys:List T} {a:QF} {ws:List V} (h:E[i]? = some (some (.o k xs))) (hS:S[i]? = some (some (.ref a))) (hw:cN K H (Ow B S E) ys ws) :
  Gr B H S E (upd H a (.lst ws)) S (E.set i (some (.o k ys)))/\RE K B (upd H a (.lst ws)) S (E.set i (some (.o k ys))):=by
 have hi:i<E.length:=(IT.mp h).1;have get:∀{j:Nat} {u:U},(E.set i (some (.o k ys)))[j]? = some (some u)->(j=i/\u = .o k ys)\/(j≠i/\E[j]? = some (some u)):=λ{j u} hj=>by
  by_cases c:j=i
  ·subst c;rw [KO hi] at hj;cases hj;exact .inl ⟨rfl,rfl⟩
  ·rw [JN (λz=>c z.symm)] at hj;exact .inr ⟨c,hj⟩
 have ow:∀b,Ow B S (E.set i (some (.o k ys))) b->Ow B S E b:=λb z=>by
  rcases z with z | ⟨j,l,zs,q1,q2⟩
  ·exact .inl z
  rcases get q1 with ⟨c,z⟩ | ⟨c,q1⟩
  ·subst c;exact .inr ⟨j,k,xs,h,q2⟩
  ·exact .inr ⟨j,l,zs,q1,q2⟩
 have oa:Ow B S E a:=.inr ⟨i,k,xs,h,hS⟩;have kk:∀b o,H b=some o->¬Ow B S E b->(upd H a (.lst ws)) b=some o:=λb o e n=>by rw [bC (λz=>n (by rw [z];exact oa))];exact e
 have kp:Kp (Ow B S E) (Ow B S E) H (upd H a (.lst ws)):=⟨kk,λb z=>.inl z⟩;refine ⟨⟨⟨kk,λb z=>.inl (ow b z)⟩,[],by simp⟩,re.step kk (by simp) (λj t hj=>?_) (λj l zs hj=>?_) (λb hb=>?_)⟩
 ·rcases get hj with ⟨_,z⟩ | ⟨_,hj⟩
  ·cases z
  ·exact hj
 ·rcases get hj with ⟨c,z⟩ | ⟨c,hj⟩
  ·cases z;subst c;refine ⟨xs,h,λb hb=>?_⟩;rw [hS] at hb;cases hb;exact ⟨ws,cV,hw.step kp⟩
  ·refine ⟨zs,hj,λb hb=>?_⟩;obtain ⟨b',us,q1,q2,q3,_⟩:=re.own j l zs hj;rw [hb] at q1;cases q1;have nb:b≠a:=λz=>c (re.inj j i l k zs xs a hj h (by rw [<-z];exact hb) hS);exact ⟨us,by rw [bC nb];exact q2,q3.step kp⟩
 ·by_cases c:b=a
  ·subst c;exact ⟨ws,cV⟩
  ·rw [bC c];exact re.bd b hb
end
section
variable {X:Cx} {K:W.Frag} {pos:Pos} {a b c e o i:Expr} {es rest:List Expr} {Fa Fb Fc Fe Fo Fi:FE} {Fr:FA} {Fp Fq:FB} {F G:FS} {st:QU} {WO body cf jy:List QU}
def rC:En->(En->Prop)->Prop
 | [],k=>k []
 | x::r,k=>rC r λr'=>k (x::r')
theorem gC:∀{E:En} {k:En->Prop},rC E k->k E
 | [],_,h=>h
 | x::r,k,h=>gC (E:=r) (k:=λr'=>k (x::r')) h
def CL:FS:=λD E=>D.nx E
def BY (F G:FS):FS:=λD E=>F { D with nx:=λE'=>rC E' (G D) } E
theorem dH:QB X [] (hJ K CL):=H0.le λD σ H ⟨B,E,DT,re,hF,l⟩=>l.nx _ _ _ hF (Kp.refl _ _) re
theorem aE (h1:QS X st (hJ K F)) (h2:QB X WO (hJ K G)):QB X (st::WO) (hJ K (BY F G)):=
 (oX h1 h2).le λD σ H ⟨B,E,DT,re,hF,l⟩=>⟨B,E,_,re,hF,⟨λσ' H' E' hG g TJ=>⟨B,E',DT,TJ,gC hG,l.step g⟩,l.rt,l.bk,l.ct⟩⟩
theorem aK (h1:QS X st (hJ K F)):QB X [st] (hJ K F):=Ee h1
def W9 (Fa:FE):FS:=λD E=>Fa E D.rt
theorem aR (h:QE X e (aQ K Fa)):QS X (.Return (some e) pos) (hJ K (W9 Fa)):=
 (Uy h).le λD σ H hl ⟨B,E,DT,re,hF,l⟩=>⟨B,σ,E,_,⟨[],by simp⟩,re,hF,λr E' v H' S' q g TJ rr=>l.rt r E' v H' S' q g.kp TJ rr⟩
theorem Gb {D:Bool->Hp->Prop} {B:QF->Prop} {σ:St} {H:Hp} {E:En} {P:Bool->En->Prop} (re:RE K B H σ E) (hF:Fp E λb E'=>P b (E'.take E.length)) (k:∀b H' E',P b E'->Gs B H σ E H' σ E'->RE K B H' σ E'->D b H'):eU K Fp σ H D:=
 ⟨B,σ,E,_,⟨[],by simp⟩,re,hF,λb E' H' S' q g TJ=>by
  obtain ⟨r,ow⟩:=TJ.cut (E:=E) g.pre re.len;exact k b H' _ q (g.kp.trans (Kp.less ow)) r⟩
theorem Gg {P:R->En->En->Prop} {Q:VK} {B:QF->Prop} {σ:St} {H:Hp} {E:En} (re:RE K B H σ E) (hF:Fa E λr E'=>P r E' (E'.take E.length))
  (k:∀r E' v H' S',P r E' (E'.take E.length)->Gr B H σ E H' S' E'->RE K B H' S' E'->RR K B H' S' E' r v->RE K B H' σ (E'.take E.length)->(∀b,Ow B σ (E'.take E.length) b->Ow B S' E' b)->Q v H'):aQ K Fa σ H Q:=
 ⟨B,σ,E,_,⟨[],by simp⟩,re,hF,λr E' v H' S' q g TJ rr=>by
  obtain ⟨r2,ow⟩:=TJ.cut (E:=E) g.pre re.len;exact k r E' v H' S' q g TJ rr r2 ow⟩
def HM (Fp:FB) (F G:FS):FS:=λD E=>Fp E λb E'=>if b=true then rC (E'.take E.length) (F D) else rC (E'.take E.length) (G D)
theorem e9 (hc:QT X c (eU K Fp)) (ha:QB X cf (hJ K F)) (hb:QB X jy (hJ K G)):QS X (.If c cf jy pos) (hJ K (HM Fp F G)):=
 (CG hc ha hb).le λD σ H hl ⟨B,E,DT,re,hF,l⟩=>Gb (P:=λb E'=>if b=true then rC E' (F DT) else rC E' (G DT)) re hF λb H' E' q g TJ=>by
  cases b
  ·exact ⟨B,E',DT,TJ,gC q,l.step g⟩
  ·exact ⟨B,E',DT,TJ,gC q,l.step g⟩
def Zq (Fa:FE):FS:=λD E=>Fa E λ_ E'=>D.nx (E'.take E.length)
theorem gG (he:QE X e (aQ K Fa)) (hs:RN e none pos.line X.env=pure false:=by rfl):QS X (.Expr e pos) (hJ K (Zq Fa)):=
 (Ki he hs).le λD σ H hl ⟨B,E,DT,re,hF,l⟩=>Gg (P:=λ_ _ E'=>DT.nx E') re hF λr E' v H' S' q g TJ rr UY ow=>l.nx _ _ _ q (g.kp.trans (Kp.less ow)) UY
def Yj (Fp:FB):FS:=λD E=>Fp E λb E'=>b=true/\D.nx (E'.take E.length)
theorem Nq {m:Option Expr} (hc:QT X c (eU K Fp)):QS X (.Assert c m pos) (hJ K (Yj Fp)):=
 (Mo hc).le λD σ H hl ⟨B,E,DT,re,hF,l⟩=>Gb (P:=λb E'=>b=true/\DT.nx E') re hF λb H' E' q g TJ=>⟨q.1,l.nx _ _ _ q.2 g TJ⟩
def pick (n:Nat) (E:En):R->Option U
 | .p t=>some (.p t)
 | .s j=>match E[j]? with
  | some (some (.p t))=>some (.p t)
  | some (some (.o k xs))=>if n<=j then some (.o k xs) else none
  | _=>none
theorem mO {B:QF->Prop} {σ S:St} {H:Hp} {E:En} {r:R} {v:V} {u:U} {i:Nat} (re:RE K B H S E) (hS:∃τ,S=σ++τ) (rr:RR K B H S E r v) (h:pick σ.length E r=some u) :
  RE K B H (σ.set i (some v)) ((E.take σ.length).set i (some u))/\∀b,Ow B (σ.set i (some v)) ((E.take σ.length).set i (some u)) b->Ow B S E b:=by
 have jz:∀{t:T},Rp K H (Ow B S E) t v->RE K B H (σ.set i (some v)) ((E.take σ.length).set i (some (.p t)))/\∀b,Ow B (σ.set i (some v)) ((E.take σ.length).set i (some (.p t))) b->Ow B S E b:=λ{t} hp=>by
  obtain ⟨τ,rfl⟩:=hS;have UY:=re.take σ.length;rw [show (σ++τ).take σ.length=σ by simp] at UY;have ow:∀b,Ow B σ (E.take σ.length) b->Ow B (σ++τ) E b:=λb z=>by
   rcases z with z | ⟨j,k,xs,h1,h2⟩
   ·exact .inl z
   have hj:j<σ.length:=(IT.mp h2).1;exact .inr ⟨j,k,xs,by rw [LF hj] at h1;exact h1,gF ⟨τ,rfl⟩ h2⟩
  obtain ⟨q1,q2⟩:=UY.setP (i:=i) (hp.step (Kp.less ow));exact ⟨q1,λb z=>ow b (q2 b z)⟩
 cases r with
 | p t=>cases h;exact jz rr
 | s j=>
  cases q:E[j]? with
  | none=>simp only [pick,q] at h;cases h
  | some w=>
   cases w with
   | none=>simp only [pick,q] at h;cases h
   | some w=>
    cases w with
    | p t=>
     simp only [pick,q] at h;cases h;obtain ⟨v',h1,h2⟩:=re.pure j t q;have ZH:S[j]? = some (some v):=rr;rw [ZH] at h1;cases h1;exact jz h2
    | o k xs=>
     simp only [pick,q] at h;split at h
     ·cases h;rename_i c;exact re.setO hS c q rr
     ·cases h
def J3 (i:Nat) (Fa:FE):FS:=λD E=>Fa E λr E'=>o1 (pick E.length E' r) λu=>D.nx ((E'.take E.length).set i (some u))
theorem bD {i:Nat} {x:Str} {pos':Pos} (hN:X.N.Nodup) (hi:X.N[i]? = some x) (hx:Eh X.env.scope x) (he:QE X e (aQ K Fa)) (hs:RN e (some (.Name x pos')) pos.line X.env=pure false:=by rfl)
  (hf:X.fn x=true\/X.env.scope.names.lookup x=some .local:=by first | exact .inl rfl | exact .inr rfl | assumption):QS X (.Assign [.Name x pos'] e pos) (hJ K (J3 i Fa)):=
 (xI hN hi hx he hs hf).le λD σ H hl ⟨B,E,DT,re,hF,l⟩=>⟨B,σ,E,_,⟨[],by simp⟩,re,hF,λr E' v H' S' q g TJ rr=>by
  obtain ⟨u,e1,q⟩:=q.ex;rw [<-re.len] at e1 q;obtain ⟨r1,ow⟩:=mO (i:=i) TJ g.pre rr e1;exact l.nx _ _ _ q (g.kp.trans (Kp.less ow)) r1⟩
end
end L2
namespace L2
open PySem PySem.Spec PyProof.Rows
abbrev FG:=T->En->(En->Prop)->Prop
abbrev Wf:=List T->En->(En->Prop)->Prop
def rQ (K:W.Frag) (G:FG):TG:=λv σ H Q=>∃B τ E t Q',RE K B H (σ++τ) E/\Rp K H (Ow B (σ++τ) E) t v/\G t E Q'/\∀σ' H' E',Q' E'->Gs B H (σ++τ) E H' (σ'++τ) E'->RE K B H' (σ'++τ) E'->σ'.length=σ.length->Q σ' H'
def Bg (K:W.Frag) (G:Wf):Nx:=λvs σ H Q=>∃B τ E ts Q',RE K B H (σ++τ) E/\cN K H (Ow B (σ++τ) E) ts vs/\G ts E Q'/\∀σ' H' E',Q' E'->Gs B H (σ++τ) E H' (σ'++τ) E'->RE K B H' (σ'++τ) E'->σ'.length=σ.length->Q σ' H'
def G3 (i:Nat):FG:=λt E Q=>Q (E.set i (some (.p t)))
def Z7:Wf:=λts E Q=>match ts with
 | []=>Q E
 | _=>False
def Zn (g:FG) (gs:Wf):Wf:=λts E Q=>match ts with
 | t::r=>g t E λE'=>gs r E' Q
 | []=>False
def Z0 (n:Nat) (gs:Wf):FG:=λt E Q=>match t with
 | .tup ts=>cond (Nat.beq ts.length n) (gs ts E Q) False
 | _=>False
def FN (Fo Fi:FE):FG:=λt E Q=>Fo E λr E1=>Fi E1 λz E2=>match r with
 | .s j=>match E2[j]? with
  | some (some (.o k xs))=>i1 (vl E2 z) λm=>o1 (Iw xs.length m) λl=>Q ((E2.set j (some (.o k (xs.set l t)))).take E.length)
  | _=>False
 | _=>False
section
variable {X:Cx} {K:W.Frag} {pos:Pos} {a b c e o i:Expr} {es rest:List Expr} {Fa Fb Fc Fe Fo Fi:FE} {Fr:FA} {Fp Fq:FB} {F G:FS} {st:QU} {WO body:List QU} {g:FG} {gs:Wf}
theorem aI {i:Nat} {x:Str} (hN:X.N.Nodup) (hi:X.N[i]? = some x) (hx:Eh X.env.scope x) (hf:X.fn x=true\/X.env.scope.names.lookup x=some .local:=by first | exact .inl rfl | exact .inr rfl | assumption):QG X (.Name x pos) (rQ K (G3 i)):=
 (Kv hN hi hx hf).le λv σ H Q hl ⟨B,τ,E,t,Q',re,rp,hF,l⟩=>by
  have VP:i<σ.length:=by rw [hl];exact (IT.mp hi).1
  obtain ⟨r1,ow⟩:=re.setP (i:=i) rp;rw [OD _ _ VP] at r1 ow;exact l _ _ _ hF (Kp.less ow) r1 (by simp)
theorem bS:Fx X [] (Bg K Z7):=Hk.le λvs σ H Q ⟨B,τ,E,ts,Q',re,rp,hF,l⟩=>by
 cases ts with
 | nil=>exact ⟨rp,l _ _ _ hF (Kp.refl _ _) re rfl⟩
 | cons _ _=>exact hF.elim
theorem aJ (h1:QG X e (rQ K g)) (h2:Fx X es (Bg K gs)) (hs:(QZ (e::es) X.env).map (·.2)=SE e X.env::(QZ es X.env).map (·.2):=by rfl):Fx X (e::es) (Bg K (Zn g gs)):=
 (Bs h1 h2 hs).le λvs σ H Q ⟨B,τ,E,ts,Q',re,rp,hF,l⟩=>by
  cases ts with
  | nil=>exact hF.elim
  | cons t ts=>
   obtain ⟨v,r,e1,h1,h2⟩:=rp;exact ⟨v,r,e1,B,τ,E,t,_,re,h1,hF,λσ' H' E' q g TJ hl=>⟨B,τ,E',ts,Q',TJ,h2.step g,q,λσ2 H2 E2 q2 g2 UY br=>l _ _ _ q2 (g.trans g2) UY (br.trans hl)⟩⟩
theorem cE {k n:Nat} (eK:X.K=K) (hc:X.calm=true) (h:Fx X es (Bg K gs)) (hn:(QZ es X.env).length=n:=by rfl) (ZM:(QZ es X.env).findIdx? (·.1)=none:=by rfl):QG X (.Tuple es k pos) (rQ K (Z0 n gs)):=by
 subst eK;refine (Uu hc h hn ZM).le λv σ H Q hl ⟨B,τ,E,t,Q',re,rp,hF,l⟩=>?_;cases t with
 | tup ts=>
  have YH:cond (Nat.beq ts.length n) (gs ts E Q') False:=hF;cases q:Nat.beq ts.length n with
  | false=>rw [q] at YH;exact YH.elim
  | true=>
   rw [q] at YH;obtain ⟨p,vs,e1,sq,rs⟩:=rp.sqT;exact ⟨p,vs,e1,sq,by rw [rs.length];exact Nat.eq_of_beq_eq_true q,B,τ,E,ts,Q',re,rs,YH,l⟩
 | _=>exact hF.elim
theorem Dt (ho:QE X o (aQ K Fo)) (hi:QE X i (aQ K Fi))
  (ha:∀v,SE (.Subscript o i pos) X.env v=(do
   let ov <-RT [v] (RB o X.env)
   let iv <-RT [v,ov] (RB i X.env)
   standAt pos
   RT [v,ov,iv] (setItem ov iv v)
   release [v,ov,iv] []):=by intro _;rfl):QG X (.Subscript o i pos) (rQ K (FN Fo Fi)):=by
 refine (U2 ho hi Sr ha).le λv σ H Q hl ⟨B,τ,E,t,Q',re,rp,hF,l⟩=>?_;refine ⟨B,σ++τ,E,_,⟨τ,rfl⟩,re,hF,λr E1 w H1 S1 q g1 TL rr=>?_⟩;obtain ⟨τ1,VW⟩:=g1.pre;refine ⟨B,S1,E1,_,⟨τ++τ1,by rw [VW,IZ]⟩,TL,q,λz E2 y H2 S2 q2 g2 UY jx=>?_⟩;have ub:=g1.trans g2;cases r with
 | p _=>exact q2.elim
 | s j=>
  have rj:S2[j]? = some (some w):=gF g2.pre rr;cases hE:E2[j]? with
  | none=>simp only [hE] at q2
  | some u=>
   cases u with
   | none=>simp only [hE] at q2
   | some u=>
    cases u with
    | p _=>simp only [hE] at q2
    | o k xs=>
     simp only [hE] at q2;obtain ⟨m,e1,q2⟩:=q2.ex;obtain ⟨n,e2,q2⟩:=q2.ex;obtain ⟨p,vs,h1,h2,h3,h4⟩:=UY.own j k xs hE;rw [rj] at h1;cases h1;refine ⟨p,vs,m,n,rfl,UY.int jx e1,h2,by rw [h3.length];exact e2,?_⟩;obtain ⟨g3,UZ⟩:=UY.put (ys:=xs.set n t) (ws:=vs.set n v) hE rj (h3.set (rp.step ub.kp) n);obtain ⟨YU,ow⟩:=UZ.cut (E:=E) (ub.trans g3).pre re.len;exact l _ _ _ q2 ((ub.trans g3).kp.trans (Kp.less ow)) YU rfl
def DZ (Fa:FE) (g:FG):FS:=λD E=>Fa E λr E'=>match r with
 | .p t=>g t (E'.take E.length) D.nx
 | .s _=>False
theorem jR {tg:Expr} (he:QE X e (aQ K Fa)) (hg:QG X tg (rQ K g)) (hs:RI [tg] e pos.line X.env=pure false:=by rfl) (hw:RJ [tg] e X.env=pure none:=by rfl)
  (h1:(QZ [tg] X.env).map (·.2)=[SE tg X.env]:=by rfl):QS X (.Assign [tg] e pos) (hJ K (DZ Fa g)):=
 (Q1 he hg hs hw h1).le λD σ H hl ⟨B,E,DT,re,hF,l⟩=>Gg (P:=λr _ E'=>match r with | .p t=>g t E' DT.nx | .s _=>False) re hF λr E' v H' S' q g' TJ rr UY ow=>by
  cases r with
  | s _=>exact q.elim
  | p t=>exact ⟨B,[],_,t,_,by rw [JS];exact UY,by rw [JS];exact Rp.step (Kp.less ow) rr,q,λσ2 H2 E2 q2 g2 UZ _=>by rw [JS] at g2 UZ;rw [JS] at g2;exact l.nx _ _ _ q2 ((g'.kp.trans (Kp.less ow)).trans g2) UZ⟩
def GO (i j:Nat) (Fr:FA):FS:=λD E=>Fr E λrs E'=>match rs with
 | [.p t,r]=>o1 (pick E.length E' r) λu=>D.nx (((E'.take E.length).set j (some u)).set i (some (.p t)))
 | [r,.p t]=>o1 (pick E.length E' r) λu=>D.nx (((E'.take E.length).set i (some u)).set j (some (.p t)))
 | _=>False
theorem jY {n i j:Nat} {x y:Str} {px py pt:Pos} {kt k2 pt2} (hc:X.calm=true) (hN:X.N.Nodup) (hi:X.N[i]? = some x) (hj:X.N[j]? = some y) (YD:i≠j)
  (hx:X.env.scope.names.lookup x=some .local) (hy:X.env.scope.names.lookup y=some .local) (ha:QA X [a,b] (eC K n Fr))
  (hw:RJ [.Tuple [.Name x px,.Name y py] kt pt] (.Tuple [a,b] k2 pt2) X.env=pure (some [x,y]))
  (hs:RI [.Tuple [.Name x px,.Name y py] kt pt] (.Tuple [a,b] k2 pt2) pos.line X.env=pure false:=by rfl) :
  QS X (.Assign [.Tuple [.Name x px,.Name y py] kt pt] (.Tuple [a,b] k2 pt2) pos) (hJ K (GO i j Fr)):=by
 refine (U1 hc hN hi hj YD hx hy ha hw hs).le λD σ H hl ⟨B,E,DT,re,hF,l⟩=>⟨B,σ,E,_,⟨[],by simp⟩,re,hF,λrs E' vs H' S' q g TJ rr hn=>?_⟩;split at q
 ·rename_i t r;obtain ⟨v,ws,e1,h1,w,ZU,e2,h2,h3⟩:=rr;cases h3;subst e2;subst e1;obtain ⟨u,e3,q⟩:=q.ex;rw [<-re.len] at e3 q;obtain ⟨r1,ow⟩:=mO (i:=j) TJ g.pre h2 e3;obtain ⟨r2,ic⟩:=r1.setP (i:=i) (Rp.step (Kp.less ow) h1);refine ⟨v,w,rfl,?_⟩;rw [MZ _ _ YD];exact l.nx _ _ _ q (g.kp.trans (Kp.less λb z=>ow b (ic b z))) r2
 ·rename_i r t _;obtain ⟨v,ws,e1,h1,w,ZU,e2,h2,h3⟩:=rr;cases h3;subst e2;subst e1;obtain ⟨u,e3,q⟩:=q.ex;rw [<-re.len] at e3 q;obtain ⟨r1,ow⟩:=mO (i:=i) TJ g.pre h1 e3;obtain ⟨r2,ic⟩:=r1.setP (i:=j) (Rp.step (Kp.less ow) h2);exact ⟨v,w,rfl,l.nx _ _ _ q (g.kp.trans (Kp.less λb z=>ow b (ic b z))) r2⟩
 ·exact q.elim
def X9 (i j k:Nat) (Fr:FA):FS:=λD E=>Fr E λrs E'=>match rs with
 | [r,.p t,.p w]=>o1 (pick E.length E' r) λu=>D.nx ((((E'.take E.length).set i (some u)).set j (some (.p t))).set k (some (.p w)))
 | _=>False
theorem Kd {n i j k:Nat} {x y z:Str} {px py pz pt:Pos} {kt k2 pt2} (hc:X.calm=true) (hN:X.N.Nodup) (hi:X.N[i]? = some x) (hj:X.N[j]? = some y) (hk:X.N[k]? = some z) (YD:i≠j) (bw:i≠k) (bz:j≠k)
  (hx:X.env.scope.names.lookup x=some .local) (hy:X.env.scope.names.lookup y=some .local) (hz:X.env.scope.names.lookup z=some .local) (ha:QA X [a,b,c] (eC K n Fr))
  (hw:RJ [.Tuple [.Name x px,.Name y py,.Name z pz] kt pt] (.Tuple [a,b,c] k2 pt2) X.env=pure (some [x,y,z]))
  (hs:RI [.Tuple [.Name x px,.Name y py,.Name z pz] kt pt] (.Tuple [a,b,c] k2 pt2) pos.line X.env=pure false:=by rfl) :
  QS X (.Assign [.Tuple [.Name x px,.Name y py,.Name z pz] kt pt] (.Tuple [a,b,c] k2 pt2) pos) (hJ K (X9 i j k Fr)):=by
 refine (Ht hc hN hi hj hk YD bw bz hx hy hz ha hw hs).le λD σ H hl ⟨B,E,DT,re,hF,l⟩=>⟨B,σ,E,_,⟨[],by simp⟩,re,hF,λrs E' vs H' S' q g TJ rr hn=>?_⟩;split at q
 ·rename_i r t w;obtain ⟨v1,ws1,e1,h1,v2,ws2,e2,h2,v3,ws3,e3,h3,h4⟩:=rr;cases h4;subst e3;subst e2;subst e1;obtain ⟨u,e4,q⟩:=q.ex;rw [<-re.len] at e4 q;obtain ⟨r1,ow⟩:=mO (i:=i) TJ g.pre h1 e4;obtain ⟨r2,ic⟩:=r1.setP (i:=j) (Rp.step (Kp.less ow) h2);obtain ⟨r3,ig⟩:=r2.setP (i:=k) (Rp.step (Kp.less λb z=>ow b (ic b z)) h3);exact ⟨v1,v2,v3,rfl,l.nx _ _ _ q (g.kp.trans (Kp.less λb z=>ow b (ic b (ig b z)))) r3⟩
 ·exact q.elim
def M7 (Fp:FB) (F:FS):FS:=λD E=>∃W:Nat->En->Prop,(∃m,W m E)/\∀m E,W m E->Fp E λb E'=>if b=true then F { D with nx:=λE2=>∃m',m'<m/\W m' E2,ct:=λE2=>∃m',m'<m/\W m' E2,bk:=D.nx } (E'.take E.length) else D.nx (E'.take E.length)
theorem sO (hp:PassesOwn (QV X.prog X.w) X.A X.env X.xe) (hc:QT X c (eU K Fp)) (hb:QB X body (hJ K F)):QS X (.While c body [] pos) (hJ K (M7 Fp F)):=by
 refine (Rk hp hc hb).le λD σ H hl ⟨B,E,DT,re,⟨W,⟨m0,w0⟩,hF⟩,l⟩=>?_;refine ⟨λm σ' H'=>∃E',W m E'/\Gs B H σ E H' σ' E'/\RE K B H' σ' E',⟨m0,E,w0,Kp.refl _ _,re⟩,?_⟩;rintro m σ1 H1 ⟨E1,w1,g1,TL⟩;refine Gb (P:=λb E'=>if b=true then F { DT with nx:=λE2=>∃m',m'<m/\W m' E2,ct:=λE2=>∃m',m'<m/\W m' E2,bk:=DT.nx } E' else DT.nx E') TL (hF m E1 w1) λb H2 E2 q g2 UY=>?_;cases b
 ·exact l.nx _ _ _ q (g1.trans g2) UY
 ·refine ⟨λσ' H'=>∃m',m'<m/\∃E',W m' E'/\Gs B H σ E H' σ' E'/\RE K B H' σ' E',λσ' H' z=>z,B,E2,_,UY,q,?_⟩;have l2:=l.step (g1.trans g2);exact ⟨λσ' H' E' ⟨m',hm,w⟩ g TJ=>⟨m',hm,E',w,(g1.trans g2).trans g,TJ⟩,l2.rt,λσ' H' E' z g TJ=>l2.nx _ _ _ z g TJ,λσ' H' E' ⟨m',hm,w⟩ g TJ=>⟨m',hm,E',w,(g1.trans g2).trans g,TJ⟩⟩
structure Es (K:W.Frag) (J:It) (items:List T) (gd:Hp->(QF->Prop)->Prop):Prop where
 keep:∀H H' O O',Kp O O' H H'->gd H O->gd H' O'
 go:∀i H O,gd H O->i<items.length->J.go i H
 yld:∀i H O x H' t,gd H O->items[i]? = some t->(∀a,O a->H a≠none)->J.yld i H x H'->Kp O O H H'/\(∀b o,H b=some o->H' b=some o)/\Rp K H' O t x
 stop:∀H O,gd H O->J.stop items.length H
abbrev FI:=En->(List T->List Nat->En->Prop)->Prop
def nE (K:W.Frag) (F:FI):TI:=λσ H R=>∃B S E Q',(∃τ,S=σ++τ)/\RE K B H S E/\F E Q'/\∀J items us E' H' S' gd,Q' items us E'->Gr B H S E H' S' E'->RE K B H' S' E'->Es K J items gd->(∀j∈us,∃k xs,E'[j]? = some (some (U.o k xs)))->
 (∀O:QF->Prop,(∀b,O b->Ow B S' E' b)->(∀j∈us,∀a,S'[j]? = some (some (.ref a))->¬O a)->gd H' O)->R J H'
def frzs:List Nat->En->Option En
 | [],E=>some E
 | j::us,E=>match E[j]? with
  | some (some (.o false xs))=>frzs us (E.set j (some (.p (.lst xs))))
  | _=>none
theorem zB {B:QF->Prop} {H:Hp} {S:St}:∀{us:List Nat} {E E':En},RE K B H S E->frzs us E=some E'->RE K B H S E'/\(∀b,Ow B S E' b->Ow B S E b)/\(∀j∈us,∀a,S[j]? = some (some (.ref a))->¬Ow B S E' a)/\E'.length=E.length
 | [],E,E',re,h=>by cases h;exact ⟨re,λb z=>z,λj hj=>absurd hj (by simp),rfl⟩
 | j::us,E,E',re,h=>by
  cases q:E[j]? with
  | none=>simp only [frzs,q] at h;cases h
  | some u=>
   cases u with
   | none=>simp only [frzs,q] at h;cases h
   | some u=>
    cases u with
    | p t=>simp only [frzs,q] at h;cases h
    | o k xs=>
     cases k
     ·simp only [frzs,q] at h;obtain ⟨s1,s2⟩:=re.frz q;obtain ⟨r1,r2,r3,r4⟩:=zB s1 h;refine ⟨r1,λb z=>(s2 b (r2 b z)).1,λm hm a ha z=>?_,by rw [r4];simp⟩;rcases IU.mp hm with rfl | hm
      ·exact (s2 a (r2 a z)).2 ha
      ·exact r3 m hm a ha z
     ·simp only [frzs,q] at h;cases h
def fA (g:FG) (F:FS) (D:ET):List T->En->Prop
 | [],E=>D.nx E
 | x::xs,E=>g x E λE'=>rC E' (F { D with nx:=fA g F D xs,ct:=fA g F D xs,bk:=D.nx })
def W4 (I:FI) (g:FG) (F:FS):FS:=λD E=>I E λitems us E'=>o1 (frzs us E') λE2=>rC (E2.take E.length) (fA g F D items)
theorem gY {tg iter:Expr} {I:FI} (hp:PassesOwn (QV X.prog X.w) X.A X.env X.xe) (hc:X.calm=true) (hi:QI X tg iter (nE K I)) (hg:QG X tg (rQ K g)) (hb:QB X body (hJ K F)) (hs:∀x,QX iter X.env x=pure x:=by intro _;rfl) :
  QS X (.For tg iter body [] pos) (hJ K (W4 I g F)):=by
 refine (Ek hp hc hi hg hb hs).le λD σ H hl ⟨B,E,DT,re,hF,l⟩=>?_;refine ⟨B,σ,E,_,⟨[],by simp⟩,re,hF,λJ items us E1 H1 S1 gd q g1 TL ok _ dr=>?_⟩;obtain ⟨E2,e2,q⟩:=q.ex;replace q:=gC q;obtain ⟨f1,f2,f3,f4⟩:=zB TL e2;obtain ⟨c1,c2⟩:=f1.cut (E:=E) g1.pre re.len;have gs:Gs B H σ E H1 σ (E2.take E.length):=g1.kp.trans ((Kp.less f2).trans (Kp.less c2));have uc:gd H1 (Ow B σ (E2.take E.length)):=dr _ (λb z=>f2 b (c2 b z)) λj hj a ha z=>f3 j hj a ha (c2 a z);refine ⟨λi m σ' H'=>m=items.length-i/\i<=items.length/\∃E',fA g F DT (items.drop i) E'/\Gs B H σ E H' σ' E'/\RE K B H' σ' E'/\gd H' (Ow B σ' E'),⟨_,rfl,LM _,_,q,gs,c1,uc⟩,?_⟩;rintro i m σ2 H2 ⟨rfl,du,E3,q3,g3,UZ,YI⟩;rcases LZ i items.length with VP | ud
 ·have hd:items.drop i=items[i]::items.drop (i+1):=LR VP;rw [hd] at q3;refine .inr ⟨ok.go i H2 _ YI VP,λσ' H'=>∃E',fA g F DT (items.drop (i+1)) E'/\Gs B H σ E H' σ' E'/\RE K B H' σ' E'/\gd H' (Ow B σ' E'),λσ' H' ⟨E',z⟩=>⟨items.length-(i+1),by omega,rfl,VP,E',z⟩,λx H4 y=>?_⟩;obtain ⟨k4,s4,rp⟩:=ok.yld i H2 _ x H4 _ YI (IQ VP) (λa z=>by obtain ⟨vs,e⟩:=UZ.ow z;rw [e];intro z;cases z) y;have YU:=UZ.kept s4;have ij:=ok.keep _ _ _ _ k4 YI;refine ⟨B,[],E3,_,_,by rw [JS];exact YU,by rw [JS];exact rp,q3,λσ5 H5 E5 q5 g5 WX dw=>?_⟩;rw [JS] at g5 WX;rw [JS] at g5;have kd:=ok.keep _ _ _ _ g5 ij;have gg:=(g3.trans k4).trans g5;have l5:=l.step gg;refine ⟨B,E5,_,WX,gC q5,?_⟩;exact ⟨λσ' H' E' z g TJ=>⟨E',z,gg.trans g,TJ,ok.keep _ _ _ _ g kd⟩,l5.rt,λσ' H' E' z g TJ=>l5.nx _ _ _ z g TJ,λσ' H' E' z g TJ=>⟨E',z,gg.trans g,TJ,ok.keep _ _ _ _ g kd⟩⟩
 ·have ei:i=items.length:=by omega
  subst ei;rw [MI] at q3;exact .inl ⟨ok.stop H2 _ YI,l.nx _ _ _ q3 g3 UZ⟩
def oW (E:En):R->List Nat
 | .p _=>[]
 | .s j=>match E[j]? with
  | some (some (.o _ _))=>[j]
  | _=>[]
theorem sE {E:En} {r:R}:∀j∈oW E r,∃k xs,E[j]? = some (some (U.o k xs)):=λj hj=>by
 cases r with
 | p _=>simp [oW] at hj
 | s m=>
  cases q:E[m]? with
  | none=>simp [oW,q] at hj
  | some u=>
   cases u with
   | none=>simp [oW,q] at hj
   | some u=>
    cases u with
    | p _=>simp [oW,q] at hj
    | o k xs=>simp [oW,q] at hj;subst hj;exact ⟨k,xs,q⟩
theorem m6 {B:QF->Prop} {H:Hp} {S:St} {E:En} {r:R} {v:V} {t:T} (re:RE K B H S E) (rr:RR K B H S E r v) (e:vl E r=some t) (O:QF->Prop) (hO:∀b,O b->Ow B S E b) (hu:∀j∈oW E r,∀a,S[j]? = some (some (.ref a))->¬O a):Rp K H O t v:=by
 cases r with
 | p u=>cases e;exact Rp.step (Kp.less hO) rr
 | s j=>
  have ZH:S[j]? = some (some v):=rr;cases q:E[j]? with
  | none=>simp only [vl,q] at e;cases e
  | some u=>
   cases u with
   | none=>simp only [vl,q] at e;cases e
   | some u=>
    cases u with
    | p u=>
     simp only [vl,q] at e;cases e;obtain ⟨w,h1,h2⟩:=re.pure j _ q;rw [ZH] at h1;cases h1;exact h2.step (Kp.less hO)
    | o k xs=>
     simp only [vl,q] at e;cases e;obtain ⟨a,vs,h1,h2,h3,_⟩:=re.own j k xs q;rw [ZH] at h1;cases h1;exact ⟨a,vs,rfl,.inl ⟨hu j (by simp [oW,q]) a ZH,.inl h2⟩,h3.step (Kp.less hO)⟩
theorem Gp {p:QF} {xs:List T}:Es K (DR K p) xs (λH O=>Rp K H O (.lst xs) (.ref p)):=by
 refine ⟨λH H' O O' k h=>Rp.step k h,λi H O h hi=>?_,λi H O x H' t h e _ y=>?_,λH O h=>?_⟩
 ·obtain ⟨a,vs,e,sq,rs⟩:=h.sqL;cases e;exact ⟨vs,vs[i]'(by rw [rs.length];exact hi),sq,IQ _⟩
 ·obtain ⟨e1,y⟩:=y;subst e1;obtain ⟨a,vs,e2,sq,rs⟩:=h.sqL;cases e2;obtain ⟨v,h1,h2⟩:=rs.get e;rw [y vs sq] at h1;cases h1;exact ⟨Kp.refl _ _,λ_ _ z=>z,h2⟩
 ·obtain ⟨a,vs,e,sq,rs⟩:=h.sqL;cases e;exact ⟨vs,sq,by rw [rs.length];exact IW _⟩
theorem Qx {p:QF} {xs:List T}:Es K (DM K p) xs (λH O=>Rp K H O (.tup xs) (.ref p)):=by
 refine ⟨λH H' O O' k h=>Rp.step k h,λi H O h hi=>?_,λi H O x H' t h e _ y=>?_,λH O h=>?_⟩
 ·obtain ⟨a,vs,e,sq,rs⟩:=h.sqT;cases e;exact ⟨vs,vs[i]'(by rw [rs.length];exact hi),sq,IQ _⟩
 ·obtain ⟨e1,y⟩:=y;subst e1;obtain ⟨a,vs,e2,sq,rs⟩:=h.sqT;cases e2;obtain ⟨v,h1,h2⟩:=rs.get e;rw [y vs sq] at h1;cases h1;exact ⟨Kp.refl _ _,λ_ _ z=>z,h2⟩
 ·obtain ⟨a,vs,e,sq,rs⟩:=h.sqT;cases e;exact ⟨vs,sq,by rw [rs.length];exact IW _⟩
def mI (lo:Int) (n:Nat):List T:=(LA n).map λ(i:Nat)=>T.int (lo+(i:Int))
theorem M3 {lo:Int} {n:Nat}:Es K (CC lo n) (mI lo n) (λ_ _=>True):=by
 refine ⟨λ_ _ _ _ _ h=>h,λi H O _ hi=>by show i<n;simpa [mI] using hi,λi H O x H' t _ e _ y=>?_,λH O _=>by simp [CC,mI]⟩;obtain ⟨e1,y⟩:=y;subst e1;subst y;unfold mI at e;rw [JC] at e;have hi:i<n:=by
  rcases LZ i n with c | c
  ·exact c
  ·rw [MF (by simpa using c)] at e;cases e
 rw [OJ hi] at e;cases e;exact ⟨Kp.refl _ _,λ_ _ z=>z,rfl⟩
theorem L5 {p:QF} {xs:List T}:Es K (GF K p) (xs.zipIdx.map λq=>T.tup [.int (q.2:Int),q.1]) (λH O=>Rp K H O (.lst xs) (.ref p)):=by
 refine ⟨λH H' O O' k h=>Rp.step k h,λi H O h hi=>?_,λi H O x H' t h e hO y=>?_,λH O h=>?_⟩
 ·obtain ⟨a,vs,e,sq,rs⟩:=h.sqL;cases e;have du:i<xs.length:=by simpa using hi
  exact ⟨vs,vs[i]'(by rw [rs.length];exact du),sq,IQ _⟩
 ·obtain ⟨pp,w,e1,hp,e2,y⟩:=y;subst e1;subst e2;obtain ⟨a,vs,e3,sq,rs⟩:=h.sqL;cases e3;rw [JC] at e;cases q:xs.zipIdx[i]? with
  | none=>rw [q] at e;cases e
  | some z=>
   rw [q] at e;cases e;obtain ⟨q1,q2⟩:=IT.mp q;have q1':i<xs.length:=by simpa using q1
   rw [List.getElem_zipIdx] at q2;subst q2;obtain ⟨v,h1,h2⟩:=rs.get (IQ q1');rw [y vs sq] at h1;cases h1;have k:Kp O O H (upd H pp (.tup [.int (i:Int),w])):=Kp.upd hp;refine ⟨k,λb o z=>by rw [bC (bF z hp)];exact z,pp,_,rfl,.inl ⟨λz=>hO pp z hp,cV⟩,_,_,rfl,?_,w,[],rfl,h2.step k,rfl⟩;simp [Rp]
 ·obtain ⟨a,vs,e,sq,rs⟩:=h.sqL;cases e;exact ⟨vs,sq,by simp [rs.length]⟩
def iL (Fa:FE):FI:=λE Q=>Fa E λr E1=>match vl E1 r with
 | some (.lst xs)=>Q xs (oW E1 r) E1
 | _=>False
def iT (Fa:FE):FI:=λE Q=>Fa E λr E1=>match vl E1 r with
 | some (.tup xs)=>Q xs [] E1
 | _=>False
theorem dF {tg l:Expr} (eK:X.K=K) (hl:QE X l (aQ K Fa)):QI X tg l (nE K (iL Fa)):=by
 subst eK;refine (Ib hl).le λσ H R hn ⟨B,S,E,Q',hS,re,hF,lk⟩=>⟨B,S,E,_,hS,re,hF,λr E1 v H1 S1 q g TL rr=>?_⟩;split at q
 ·rename_i xs e1;obtain ⟨a,vs,e2,sq,rs⟩:=TL.vl rr e1;exact ⟨a,e2,⟨vs,sq⟩,lk _ _ _ _ _ _ _ q g TL Gp sE λO h1 h2=>by rw [<-e2];exact m6 TL rr e1 O h1 h2⟩
 ·exact q.elim
theorem qI {tg l:Expr} (eK:X.K=K) (hl:QE X l (aQ K Fa)):QI X tg l (nE K (iT Fa)):=by
 subst eK;refine (J2 hl).le λσ H R hn ⟨B,S,E,Q',hS,re,hF,lk⟩=>⟨B,S,E,_,hS,re,hF,λr E1 v H1 S1 q g TL rr=>?_⟩;split at q
 ·rename_i xs e1;obtain ⟨a,vs,e2,sq,rs⟩:=TL.vl rr e1;refine ⟨a,e2,⟨vs,sq⟩,lk _ _ _ _ _ _ _ q g TL Qx (λj hj=>absurd hj (by simp)) λO h1 h2=>?_⟩;rw [<-e2];refine m6 TL rr e1 O h1 λj hj=>?_;cases r with
  | p _=>simp [oW] at hj
  | s m=>
   cases q2:E1[m]? with
   | none=>simp only [vl,q2] at e1;cases e1
   | some u=>
    cases u with
    | none=>simp only [vl,q2] at e1;cases e1
    | some u=>
     cases u with
     | p u=>simp [oW,q2] at hj
     | o k ys=>simp only [vl,q2] at e1;cases e1
 ·exact q.elim
def HL (Fr:FA):FI:=λE Q=>Fr E λrs E1=>match rs with
 | [x]=>i1 (vl E1 x) λj=>(-(2^62)<=j/\j<2^62)/\Q (mI 0 j.toNat) [] E1
 | _=>False
theorem fU {n:Nat} {tg:Expr} {p:Pos} (hg:Gl X "range") (hm:X.mg "range" = none) (ha:QA X [a] (eC K n Fr)) (hs:cS a=false:=by rfl):QI X tg (.Call (.Name "range" p) [a] [] pos) (nE K (HL Fr)):=by
 refine (Lz hg hm ha hs).le λσ H R hn ⟨B,S,E,Q',hS,re,hF,lk⟩=>⟨B,S,E,_,hS,re,hF,λrs E1 vs H1 S1 q g TL rr hn=>?_⟩
 match rs,rr,q with
 | [x],⟨v,ws,e1,h1,h2⟩,q=>
  cases h2;subst e1;obtain ⟨j,e2,c,q⟩:=i1.ex q;exact ⟨j,by rw [TL.int h1 e2],c.1,c.2,lk _ _ _ _ _ _ _ q g TL M3 (λj hj=>absurd hj (by simp)) λ_ _ _=>trivial⟩
 | [],_,q=>exact q.elim
 | _::_::_,_,q=>exact q.elim
def iE (Fr:FA):FI:=λE Q=>Fr E λrs E1=>match rs with
 | [r]=>(match vl E1 r with
  | some (.lst xs)=>Q (xs.zipIdx.map λq=>T.tup [.int (q.2:Int),q.1]) (oW E1 r) E1
  | _=>False)
 | _=>False
theorem zA {n:Nat} {p VG:Pos} {elts:List Expr} {x1} (eK:X.K=K) (hg:Gl X "enumerate") (hm:X.mg "enumerate" = none) (ha:QA X [a] (eC K n Fr)) (hs:cS a=false:=by rfl):QI X (.Tuple elts x1 VG) (.Call (.Name "enumerate" p) [a] [] pos) (nE K (iE Fr)):=by
 subst eK;refine (Vx hg hm ha hs).le λσ H R hn ⟨B,S,E,Q',hS,re,hF,lk⟩=>⟨B,S,E,_,hS,re,hF,λrs E1 vs H1 S1 q g TL rr hn=>?_⟩
 match rs,rr,q with
 | [r],⟨v,ws,e1,h1,h2⟩,q=>
  cases h2;subst e1;simp only at q;split at q
  ·rename_i xs e1;obtain ⟨a,vs,e2,sq,rs⟩:=TL.vl h1 e1;exact ⟨a,by rw [e2],⟨vs,sq⟩,lk _ _ _ _ _ _ _ q g TL L5 sE λO k1 k2=>by rw [<-e2];exact m6 TL h1 e1 O k1 k2⟩
  ·exact q.elim
 | [],_,q=>exact q.elim
 | _::_::_,_,q=>exact q.elim
end
end L2
namespace L2
open PySem PySem.Spec PyProof.Rows
mutual
def noL:T->Bool
 | .lst _=>false
 | .tup xs=>d9 xs
 | _=>true
def d9:List T->Bool
 | []=>true
 | x::xs=>noL x&&d9 xs
end
def dD (H:Hp) (a:QF):Prop:=∃ws,H a=some (.lst ws)
section
variable {K:W.Frag} {H:Hp} {O O':QF->Prop}
mutual
theorem Rp.noL (hO:∀a,O' a->dD H a):∀{t:T} {v:V},L2.noL t=true->Rp K H O t v->Rp K H O' t v
 | .non,_,_,h=>h
 | .bl _,_,_,h=>h
 | .int _,_,_,h=>h
 | .str _,_,_,h=>h
 | .lst _,_,e,_=>by simp [L2.noL] at e
 | .tup xs,v,e,h=>by
  obtain ⟨a,vs,e1,h1,h2⟩:=h;refine ⟨a,vs,e1,h1.imp (λ⟨_,h⟩=>⟨λz=>?_,h⟩) id,cN.noL hO (by simpa [L2.noL] using e) h2⟩;obtain ⟨ws,q⟩:=hO a z;rw [h] at q;cases q
theorem cN.noL (hO:∀a,O' a->dD H a):∀{xs:List T} {vs:List V},d9 xs=true->cN K H O xs vs->cN K H O' xs vs
 | [],_,_,h=>h
 | x::xs,vs,e,h=>by
  obtain ⟨v,r,e1,h1,h2⟩:=h;have e':L2.noL x=true/\d9 xs=true:=by simpa [d9] using e
  exact ⟨v,r,e1,Rp.noL hO e'.1 h1,cN.noL hO e'.2 h2⟩
end
end
section
variable {K:W.Frag} {B:QF->Prop} {H H':Hp} {S S':St} {E E':En} {σ:St}
theorem RE.push (re:RE K B H' S E) {a:QF} {ts:List T} {vs:List V} (ha:H' a=some (.lst vs)) (hn:¬Ow B S E a) (hb:¬B a)
  (hp:∀(i:Nat) (t:T),E[i]? = some (some (.p t))->∃v,S[i]? = some (some v)/\Rp K H' (λb=>Ow B S E b\/b=a) t v)
  (ho:∀(i:Nat) (k:Bool) (xs:List T),E[i]? = some (some (.o k xs))->∃b ws,S[i]? = some (some (.ref b))/\H' b=some (.lst ws)/\cN K H' (λb=>Ow B S E b\/b=a) xs ws)
  (h:cN K H' (λb=>Ow B S E b\/b=a) ts vs) :
  RE K B H' (S++[some (.ref a)]) (E++[some (.o false ts)])/\∀b,Ow B (S++[some (.ref a)]) (E++[some (.o false ts)]) b->Ow B S E b\/b=a:=by
 have gE:∀{i:Nat} {u:U},(E++[some (.o false ts)])[i]? = some (some u)->(E[i]? = some (some u)/\i<E.length)\/(i=E.length/\u = .o false ts):=λ{i u} h=>by
  rcases t9 h with ⟨c,h⟩ | ⟨c,h⟩
  ·exact .inl ⟨h,c⟩
  ·exact .inr ⟨c,Option.some.inj h⟩
 have gS:∀{i:Nat} {x:Option V},S[i]? = some x->(S++[some (.ref a)])[i]? = some x:=λ{i x} h=>gF ⟨_,rfl⟩ h;have XD:∀{i:Nat} {x:Option V},i<E.length->(S++[some (.ref a)])[i]? = some x->S[i]? = some x:=λ{i x} c h=>by
  rw [JP (by rw [re.len];exact c)] at h;exact h
 have lS:(S++[some (.ref a)])[E.length]? = some (some (.ref a)):=by rw [<-re.len];simp
 have ow:∀b,Ow B (S++[some (.ref a)]) (E++[some (.o false ts)]) b->Ow B S E b\/b=a:=λb z=>by
  rcases z with z | ⟨i,k,xs,h1,h2⟩
  ·exact .inl (.inl z)
  rcases gE h1 with ⟨h1,c⟩ | ⟨c,h1⟩
  ·exact .inl (.inr ⟨i,k,xs,h1,XD c h2⟩)
  ·subst c;rw [lS] at h2;cases h2;exact .inr rfl
 have kl:Kp (λb=>Ow B S E b\/b=a) (Ow B (S++[some (.ref a)]) (E++[some (.o false ts)])) H' H':=Kp.less ow;refine ⟨⟨by simp [re.len],λi t h=>?_,λi l xs h=>?_,λi j l m xs ys b h1 h2 h3 h4=>?_,re.bd⟩,ow⟩
 ·rcases gE h with ⟨h,c⟩ | ⟨c,h⟩
  ·obtain ⟨v,h1,h2⟩:=hp i t h;exact ⟨v,gS h1,h2.step kl⟩
  ·cases h
 ·rcases gE h with ⟨h,c⟩ | ⟨c,h⟩
  ·obtain ⟨b,ws,h1,h2,h3⟩:=ho i l xs h;obtain ⟨b',_,q1,_,_,q4⟩:=re.own i l xs h;rw [h1] at q1;cases q1;exact ⟨b,ws,gS h1,h2,h3.step kl,q4⟩
  ·cases h;subst c;exact ⟨a,vs,lS,ha,cN.step kl (by assumption),⟨λz=>absurd z (by decide),λz=>absurd z hb⟩⟩
 ·rcases gE h1 with ⟨h1,c1⟩ | ⟨c1,h1⟩
  ·rcases gE h2 with ⟨h2,c2⟩ | ⟨c2,h2⟩
   ·exact re.inj i j l m xs ys b h1 h2 (XD c1 h3) (XD c2 h4)
   ·subst c2;rw [lS] at h4;cases h4;exact absurd (.inr ⟨i,l,xs,h1,XD c1 h3⟩) hn
  ·rcases gE h2 with ⟨h2,c2⟩ | ⟨c2,h2⟩
   ·subst c1;rw [lS] at h3;cases h3;exact absurd (.inr ⟨j,m,ys,h2,XD c2 h4⟩) hn
   ·rw [c1,c2]
theorem RE.pad (re:RE K B H S E) (n:Nat):RE K B H (S++KD n none) (E++KD n none)/\(∀b,Ow B (S++KD n none) (E++KD n none) b->Ow B S E b):=by
 have gE:∀{i:Nat} {u:U},(E++KD n none)[i]? = some (some u)->E[i]? = some (some u)/\i<E.length:=λ{i u} h=>by
  rcases LZ i E.length with c | c
  ·rw [JP c] at h;exact ⟨h,c⟩
  ·rw [KY c] at h;have:=JA h;rw [List.mem_replicate] at this;cases this.2
 have gS:∀{i:Nat} {x:Option V},S[i]? = some x->(S++KD n none)[i]? = some x:=λ{i x} h=>gF ⟨_,rfl⟩ h;have XD:∀{i:Nat} {x:Option V},i<E.length->(S++KD n none)[i]? = some x->S[i]? = some x:=λ{i x} c h=>by
  rw [JP (by rw [re.len];exact c)] at h;exact h
 have ow:∀b,Ow B (S++KD n none) (E++KD n none) b->Ow B S E b:=λb z=>z.imp id λ⟨i,k,xs,h1,h2⟩=>⟨i,k,xs,(gE h1).1,XD (gE h1).2 h2⟩;have kl:Kp (Ow B S E) (Ow B (S++KD n none) (E++KD n none)) H H:=Kp.less ow;refine ⟨⟨by simp [re.len],λi t h=>?_,λi l xs h=>?_,λi j l m xs ys b h1 h2 h3 h4=>?_,re.bd⟩,ow⟩
 ·obtain ⟨v,h1,h2⟩:=re.pure i t (gE h).1;exact ⟨v,gS h1,h2.step kl⟩
 ·obtain ⟨b,ws,h1,h2,h3,h4⟩:=re.own i l xs (gE h).1;exact ⟨b,ws,gS h1,h2,h3.step kl,h4⟩
 ·exact re.inj i j l m xs ys b (gE h1).1 (gE h2).1 (XD (gE h1).2 h3) (XD (gE h2).2 h4)
end
inductive A where
 | v (t:T) | b (xs:List T)
inductive RV where
 | v (t:T) | l (xs:List T)
abbrev iN:=List A->(RV->List T->Prop)->Prop
def qT:List A->En
 | []=>[]
 | .v t::r=>some (.p t)::qT r
 | .b xs::r=>some (.o true xs)::qT r
theorem kP:∀{as:List A},(qT as).length=as.length
 | []=>rfl
 | .v t::r=>by simp [qT,kP (as:=r)]
 | .b t::r=>by simp [qT,kP (as:=r)]
def Cw:List A->Option Nat
 | []=>none
 | .b _::_=>some 0
 | .v _::r=>(Cw r).map (· + 1)
def FK (K:W.Frag) (H H':Hp):RV->V->Prop
 | .v t,v=>Rp K H' (dD H) t v
 | .l xs,v=>∃a ws,v = .ref a/\H a=none/\H' a=some (.lst ws)/\cN K H' (λb=>dD H b\/b=a) xs ws
def aX (K:W.Frag) (S:iN):Sp:=λvs H Q _=>∃(as:List A) (Q':RV->List T->Prop) (bx:Option QF),RE K (λa=>bx=some a) H (vs.map some) (qT as)/\(Cw as=none->bx=none)/\S as Q'/\
 ∀r xs v H',Q' r xs->(∀b o,H b=some o->bx≠some b->H' b=some o)->(∀a,bx=some a->∃ws,H' a=some (.lst ws)/\cN K H' (dD H') xs ws)->FK K H H' r v->Q v H'
def Jl (as:List A) (E:En):Option (List T):=match Cw as with
 | none=>some []
 | some j=>match E[j]? with
  | some (some (.o true xs))=>if d9 xs=true then some xs else none
  | _=>none
def endT (as:List A) (Q:RV->List T->Prop):ET where
 nx:=λE=>o1 (Jl as E) λxs=>Q (.v .non) xs
 rt:=λr E=>o1 (Jl as E) λxs=>match r with
  | .p t=>noL t=true/\Q (.v t) xs
  | .s i=>match E[i]? with
   | some (some (.o false ys))=>d9 ys=true/\Q (.l ys) xs
   | some (some (.p t))=>noL t=true/\Q (.v t) xs
   | _=>False
theorem Si:∀{as:List A} {j:Nat} {k:Bool} {xs:List T},(qT as)[j]? = some (some (.o k xs))->k=true
 | [],j,_,_,h=>by simp [qT] at h
 | .b _::_,0,_,_,h=>by simp [qT] at h;exact h.1
 | .v _::_,0,_,_,h=>by simp [qT] at h
 | .b _::r,j+1,_,_,h=>Si (as:=r) (j:=j) (by simpa [qT] using h)
 | .v _::r,j+1,_,_,h=>Si (as:=r) (j:=j) (by simpa [qT] using h)
section
variable {P:QJ} {w:QM} {K:W.Frag} {mg:Str->Option Value} {base:Heap}
theorem eT.okT {x qual:Str} {st:QU} {f:QF} {fd:QK} {N ps:List Str} {k:Nat} {S:iN} {F:FS} (Fn:eT K x qual st f fd) (Sc:aO N ps (aF st)) (len:∀as Q,S as Q->as.length=ps.length)
  (hb:∀(TQ:Value) (A:Around) (outer:List Env) (s:Shared) (H:Hp) (E:XK),fD k (A.deeper (SK qual (aF st) s.heap.objs.size f TQ))->QB (Ar fF P w K mg base N qual (aF st) f TQ A outer s H E).nox (dO st) (hJ K F))
  (hF:∀as Q,S as Q->F (endT as Q) (qT as++KD (N.length-as.length) none)):bJ P w K mg base fF (k+1) f fd ps (aX K S):=by
 refine Fn.okQ Sc (λvs H Q E ⟨as,Q',bx,re,yo,hS,l⟩=>?_) (λTQ A outer s H vs Q E hr ⟨as,Q',bx,re,yo,hS,l⟩=>?_)
 ·have:=re.len;rw [IS,kP] at this;rw [this];exact len as Q' hS
 have hl:vs.length=as.length:=by have:=re.len;rwa [IS,kP] at this
 refine ⟨_,hb TQ A outer s H E hr,?_⟩;obtain ⟨re0,cg⟩:=re.pad (N.length-as.length);have ZM:mD N vs=vs.map some++KD (N.length-as.length) none:=by unfold mD;rw [hl]
 rw [ZM]
 -- the box's address
 have kf:∀b,Ow (λa=>bx=some a) (vs.map some) (qT as) b->bx=some b:=λb z=>by
  rcases z with z | ⟨i,kk,xs,h1,h2⟩
  ·exact z
  obtain ⟨a,ws,q1,_,_,q4⟩:=re.own i kk xs h1;rw [h2] at q1;cases q1;exact q4.mp (Si h1)
 have fr:∀{H':Hp} {S':St} {E':En},Gs (λa=>bx=some a) H (vs.map some++KD (N.length-as.length) none) (qT as++KD (N.length-as.length) none) H' S' E'->∀b o,H b=some o->bx≠some b->H' b=some o:=λg b o h n=>g.keep b o h λz=>n (kf b (cg b z));have fin:∀{r:RV} {xs:List T} {v:V} {H':Hp} {S':St} {E':En},Jl as E'=some xs->Q' r xs->Gs (λa=>bx=some a) H (vs.map some++KD (N.length-as.length) none) (qT as++KD (N.length-as.length) none) H' S' E'->RE K (λa=>bx=some a) H' S' E'->
   ((∀a,dD H a->dD H' a)->FK K H H' r v)->Q v H':=λ{r xs v H' S' E'} e q g TJ hr=>by
  have YV:∀a,bx=some a->∃ws,H' a=some (.lst ws)/\cN K H' (dD H') xs ws:=λa ha=>by
   unfold Jl at e;cases qb:Cw as with
   | none=>
    rw [qb] at e;cases e;rw [yo qb] at ha;cases ha
   | some j=>
    rw [qb] at e;simp only at e;split at e
    ·rename_i ys hE;split at e
     ·cases e;rename_i ue;obtain ⟨b,ws,h1,h2,h3,h4⟩:=TJ.own j true xs hE;have:bx=some b:=h4.mp rfl;rw [ha] at this;cases this;exact ⟨ws,h2,cN.noL (λ_ z=>z) ue h3⟩
     ·cases e
    ·cases e
  refine l r xs v H' q (fr g) YV (hr λa ⟨ws,ha⟩=>?_)
  by_cases c:bx=some a
  ·obtain ⟨ZU,h,_⟩:=YV a c;exact ⟨ZU,h⟩
  ·exact ⟨ws,fr g a _ ha c⟩
 refine ⟨_,_,_,re0,hF as Q' hS,⟨λσ' H' E' q g TJ=>?_,λr E' v H' S' q g TJ rr=>?_,λ_ _ _ z=>z.elim,λ_ _ _ z=>z.elim⟩⟩
 ·obtain ⟨xs,e,q⟩:=q.ex;exact fin e q g TJ λ_=>rfl
 ·obtain ⟨xs,e,q⟩:=q.ex;cases r with
  | p t=>exact fin e q.2 g TJ λh=>Rp.noL h q.1 rr
  | s i=>
   simp only at q;split at q
   ·rename_i ys hE;refine fin e q.2 g TJ λh=>?_;obtain ⟨b,ws,h1,h2,h3,h4⟩:=TJ.own i false ys hE;have ZH:S'[i]? = some (some v):=rr;rw [ZH] at h1;cases h1;refine ⟨b,ws,rfl,?_,h2,cN.noL (λa z=>?_) q.1 h3⟩
    ·rcases g.new b (.inr ⟨i,false,ys,hE,ZH⟩) with z | z
     ·have:=h4.mpr (kf b (cg b z));cases this
     ·exact z
    ·rcases z with z | z
     ·exact h a z
     ·exact ⟨ws,by rw [z];exact h2⟩
   ·rename_i t hE;obtain ⟨w,h1,h2⟩:=TJ.pure i t hE;have ZH:S'[i]? = some (some v):=rr;rw [ZH] at h1;cases h1;exact fin e q.2 g TJ λh=>Rp.noL h q.1 h2
   ·exact q.elim
end
def D4 (E:En):List R->Option (List T)
 | []=>some []
 | r::rs=>match vl E r,D4 E rs with
  | some t,some ts=>some (t::ts)
  | _,_=>none
def told (E:En) (Q:R->En->Prop):RV->Prop
 | .v t=>Q (.p t) E
 | .l xs=>Q (.s E.length) (E++[some (.o false xs)])
def Zs (S:iN) (Fr:FA):FE:=λE Q=>Fr E λrs E1=>o1 (D4 E1 rs) λts=>S (ts.map A.v) λr _=>told E1 Q r
def T3 (S:iN) (Fr:FA):FE:=λE Q=>Fr E λrs E1=>match rs with
 | .s j::rs=>(match E1[j]? with
  | some (some (.o k xs))=>cond (rs.all λr=>!(oW E1 r).contains j) (o1 (D4 E1 rs) λts=>S (.b xs::ts.map A.v) λr ys=>told (E1.set j (some (.o k ys))) Q r) False
  | _=>False)
 | _=>False
section
variable {K:W.Frag} {B:QF->Prop} {H H':Hp} {S S':St} {E E':En} {σ:St}
theorem Ew (re:RE K B H S E):∀{rs:List R} {vs:List V} {ts:List T},Nu K B H S E rs vs->D4 E rs=some ts->∀(O:QF->Prop),(∀b,O b->Ow B S E b)->(∀r∈rs,∀j∈oW E r,∀a,S[j]? = some (some (.ref a))->¬O a)->cN K H O ts vs
 | [],_,_,h,e,_,_,_=>by cases e;exact h
 | r::rs,_,ts,⟨v,ws,e1,h1,h2⟩,e,O,hO,hu=>by
  cases q1:vl E r with
  | none=>simp only [D4,q1] at e;cases e
  | some t=>
   cases q2:D4 E rs with
   | none=>simp only [D4,q1,q2] at e;cases e
   | some us=>
    simp only [D4,q1,q2] at e;cases e;exact ⟨v,ws,e1,m6 re h1 q1 O hO (hu r (by simp)),Ew re h2 q2 O hO λr' hr=>hu r' (by simp [hr])⟩
theorem Ol:∀{ts:List T},qT (ts.map A.v)=ts.map λt=>some (U.p t)
 | []=>rfl
 | t::ts=>by simp [qT,Ol (ts:=ts)]
theorem x8 (re:RE K B H S E) (TJ:RE K B H' S E') (hk:∀b o,H b=some o->¬Ow B S E b->H' b=some o) (hw:∀b,Ow B S E' b->Ow B S E b)
  (hE:∀(i:Nat) (k:Bool) (xs:List T),E'[i]? = some (some (.o k xs))->(E[i]? = some (some (.o k xs))/\∀a,S[i]? = some (some (.ref a))->H' a=H a)\/∀a ws,S[i]? = some (some (.ref a))->H' a=some (.lst ws)->cN K H' (dD H') xs ws)
  (hP:∀(i:Nat) (t:T),E'[i]? = some (some (.p t))->E[i]? = some (some (.p t)))
  {r:RV} {v:V} (rv:FK K H H' r v) {Q:R->En->Prop} (q:told E' Q r) {Qv:VK} (lk:Lk K B H S E Q Qv):Qv v H':=by
 have kp:Kp (Ow B S E) (Ow B S E') H H':=⟨hk,λb z=>.inl (hw b z)⟩;cases r with
 | v t=>exact lk _ _ _ _ _ q ⟨kp,[],by simp⟩ TJ (Rp.step (Kp.less λb z=>re.ow (hw b z)) rv)
 | l xs=>
  obtain ⟨a,ws,rfl,h1,h2,h3⟩:=rv;have nOw:¬Ow B S E' a:=λz=>re.nn h1 (hw a z);have nB:¬B a:=λz=>re.nn h1 (.inl z);have yp:Kp (Ow B S E) (λb=>Ow B S E' b\/b=a) H H':=⟨hk,λb z=>by
   rcases z with z | z
   ·exact .inl (hw b z)
   ·exact .inr (by rw [z];exact h1)⟩
  obtain ⟨r1,r2⟩:=TJ.push h2 nOw nB (λi t h=>by
    obtain ⟨w,q1,q2⟩:=re.pure i t (hP i t h);exact ⟨w,q1,q2.step yp⟩) (λi k ys h=>by
    obtain ⟨b,us,q1,q2,q3,_⟩:=TJ.own i k ys h;refine ⟨b,us,q1,q2,?_⟩;rcases hE i k ys h with ⟨z,zz⟩ | z
    ·obtain ⟨b',XT,p1,p2,p3,_⟩:=re.own i k ys z;rw [q1] at p1;cases p1;have e:=zz b q1;rw [q2,p2] at e;cases e;exact p3.step yp
    ·exact (z b us q1 q2).step (Kp.less λc hc=>by
      rcases hc with hc | hc
      ·exact TJ.ow hc
      ·exact ⟨ws,by rw [hc];exact h2⟩)) (h3.step (Kp.less λb z=>by
    rcases z with z | z
    ·exact .inl (re.ow (hw b z))
    ·exact .inr z))
  refine lk _ _ _ _ _ q ⟨⟨hk,λb z=>?_⟩,[some (.ref a)],rfl⟩ r1 ?_
  ·rcases r2 b z with z | z
   ·exact .inl (hw b z)
   ·exact .inr (by rw [z];exact h1)
  ·show (S++[some (V.ref a)])[E'.length]? = _;rw [<-TJ.len];simp
end
section
variable {X:Cx} {K:W.Frag} {pos:Pos} {e:Expr} {es:List Expr} {Fr:FA}
theorem Qm {n:Nat} {S:iN} {σ:St} {H:Hp} {Q:VK} (h:aQ K (Zs S Fr) σ H Q):Cr (aX K S) [] E0 (eC K n Fr) σ H Q:=by
 refine args (Fr:=Fr) h λB S' E rs vs H2 Q' hS re rr hn q lk=>?_;obtain ⟨ts,e1,q⟩:=q.ex;rw [JS];have rp:=Ew re rr e1 (λ_=>False) (λ_ z=>z.elim) (λ_ _ _ _ _ _ z=>z);have no:∀b,¬Ow (λa=>(none:Option QF)=some a) (vs.map some) (ts.map λt=>some (U.p t)) b:=λb z=>by
  rcases z with z | ⟨i,k,xs,h1,_⟩
  ·cases z
  rw [JC] at h1;cases q:ts[i]? with
  | none=>rw [q] at h1;cases h1
  | some t=>rw [q] at h1;cases h1
 refine ⟨ts.map A.v,_,none,?_,λ_=>rfl,q,λr xs v H' q2 fr _ rv=>?_⟩
 ·rw [Ol];refine ⟨by simp [rp.length],λi t h=>?_,λi k xs h=>?_,λi j k l xs ys a h _ _ _=>?_,λa z=>by cases z⟩
  ·rw [JC] at h;cases q:ts[i]? with
   | none=>rw [q] at h;cases h
   | some u=>
    rw [q] at h;cases h;obtain ⟨v,h1,h2⟩:=rp.get q;exact ⟨v,by rw [JC,h1];rfl,h2.step (Kp.less λb z=>no b z)⟩
  ·rw [JC] at h;cases q:ts[i]? with
   | none=>rw [q] at h;cases h
   | some t=>rw [q] at h;cases h
  ·rw [JC] at h;cases q:ts[i]? with
   | none=>rw [q] at h;cases h
   | some t=>rw [q] at h;cases h
 ·have same:∀b o,H2 b=some o->H' b=some o:=λb o z=>fr b o z (by intro z;cases z);exact x8 re (re.kept same) (λb o z _=>same b o z) (λb z=>z) (λi k xs h=>.inl ⟨h,λa ha=>by
   obtain ⟨a',ws,h1,h2,_⟩:=re.own i k xs h;rw [ha] at h1;cases h1;rw [h2];exact same _ _ h2⟩) (λi t h=>h) rv q2 lk
theorem aC {n k j:Nat} {x:Str} {ps:List Str} {S:iN} {p:Pos} (F:Fn X.prog X.w X.K X.mg X.base k x ps (aX K S)) (hr:fD j X.A) (hk:k<=j) (hg:Gl X x) (ha:QA X (e::es) (eC K n Fr)) (WM:(x==("__debug__":Str))=false:=by decide)
  (hs:bV (e::es)=true:=by rfl):QE X (.Call (.Name x p) (e::es) [] pos) (aQ K (Zs S Fr)):=(Va F hr hk hg ha WM hs).le λ_ _ _ _ h=>Qm h
theorem bR {n k j:Nat} {x:Str} {ps:List Str} {S:iN} {p:Pos} (F:Fn X.prog X.w X.K X.mg X.base k x ps (aX K S)) (hr:fD j X.A) (hk:k<=j) (hg:Gl X x) (ha:QA X (e::es) (eC K n Fr)) (WM:(x==("__debug__":Str))=false:=by decide)
  (hs:bV (e::es)=true:=by rfl):QE X (.Call (.Name x p) (e::es) [] pos) (aQ K (T3 S Fr)):=by
 refine (Va F hr hk hg ha WM hs).le λσ H Q hl h=>args (Fr:=Fr) h λB S' E rs vs H2 Q' hS re rr hn q lk=>?_;rw [JS];split at q
 ·rename_i jb cj;split at q
  ·rename_i kb xs hE;cases qc:(cj.all λr=>!(oW E r).contains jb) with
   | false=>rw [qc] at q;exact q.elim
   | true=>
    rw [qc] at q;obtain ⟨ts,e1,q⟩:=o1.ex q;obtain ⟨v0,ws,e2,h0,h2⟩:=rr;subst e2;have dz:S'[jb]? = some (some v0):=h0;obtain ⟨a0,us,k1,k2,k3,k4⟩:=re.own jb kb xs hE;rw [dz] at k1;cases k1;have cg:Ow B S' E a0:=.inr ⟨jb,kb,xs,hE,dz⟩;have rp:=Ew re h2 e1 (λb=>b=a0) (λb z=>by rw [z];exact cg) (λr hr m hm a hma z=>by
     subst z;have c:=LK.mp qc r hr;have:m=jb:=by
      cases r with
      | p _=>simp [oW] at hm
      | s l=>
       cases ql:E[l]? with
       | none=>simp [oW,ql] at hm
       | some u=>
        cases u with
        | none=>simp [oW,ql] at hm
        | some u=>
         cases u with
         | p _=>simp [oW,ql] at hm
         | o kk zs=>
          simp [oW,ql] at hm;subst hm;exact re.inj _ _ kk kb zs xs a ql hE hma dz
     subst this;have hc:(oW E r).contains m=true:=by simpa using hm
     rw [hc] at c;cases c)
    have get:∀{i:Nat} {u:U},(some (U.o true xs)::ts.map λt=>some (U.p t))[i]? = some (some u)->(i=0/\u = .o true xs)\/∃m t,i=m+1/\ts[m]? = some t/\u = .p t:=λ{i u} h=>by
     cases i with
     | zero=>simp at h;exact .inl ⟨rfl,h.symm⟩
     | succ m=>
      rw [List.getElem?_cons_succ,JC] at h;cases q:ts[m]? with
      | none=>rw [q] at h;cases h
      | some t=>rw [q] at h;cases h;exact .inr ⟨m,t,rfl,q,rfl⟩
    have ow:∀b,Ow (λa=>some a0=some a) ((V.ref a0::ws).map some) (some (U.o true xs)::ts.map λt=>some (U.p t)) b->b=a0:=λb z=>by
     rcases z with z | ⟨i,k,ys,h1,h3⟩
     ·cases z;rfl
     rcases get h1 with ⟨c,z⟩ | ⟨m,t,_,_,z⟩
     ·subst c;simp at h3;exact h3.symm
     ·cases z
    have nb:Cw (A.b xs::ts.map A.v)≠none:=by intro z;cases z
    refine ⟨A.b xs::ts.map A.v,_,some a0,?_,λz=>absurd z nb,q,λr ys v H' q2 fr bxk rv=>?_⟩
    ·have ee:qT (A.b xs::ts.map A.v)=some (U.o true xs)::ts.map λt=>some (U.p t):=by simp [qT,Ol]
     rw [ee];refine ⟨by simp [rp.length],λi t h=>?_,λi k zs h=>?_,λi j k l zs ys a h1 h3 _ _=>?_,λa z=>by cases z;exact ⟨us,k2⟩⟩
     ·rcases get h with ⟨_,z⟩ | ⟨m,t',e,q3,z⟩
      ·cases z
      ·cases z;subst e;obtain ⟨v,h1,h2⟩:=rp.get q3;exact ⟨v,by simp [h1],h2.step (Kp.less λb z=>ow b z)⟩
     ·rcases get h with ⟨c,z⟩ | ⟨m,t',e,q3,z⟩
      ·cases z;subst c;exact ⟨a0,us,by simp,k2,k3.step (Kp.less λb z=>by rw [ow b z];exact cg),⟨λ_=>rfl,λ_=>rfl⟩⟩
      ·cases z
     ·rcases get h1 with ⟨c,z⟩ | ⟨m,t',e,q3,z⟩
      ·rcases get h3 with ⟨c',z'⟩ | ⟨m,t',e,q3,z'⟩
       ·rw [c,c']
       ·cases z'
      ·cases z
    ·obtain ⟨ZU,b1,b2⟩:=bxk a0 rfl;have hk:∀b o,H2 b=some o->¬Ow B S' E b->H' b=some o:=λb o z n=>fr b o z (by intro c;cases c;exact n cg);have kg:∀b,Ow B S' E b->dD H' b:=λb z=>by
      by_cases c:b=a0
      ·subst c;exact ⟨ZU,b1⟩
      ·obtain ⟨XT,e⟩:=re.ow z;exact ⟨XT,fr b _ e (by intro z;cases z;exact c rfl)⟩
     have WQ:∀{i:Nat} {u:U},(E.set jb (some (.o kb ys)))[i]? = some (some u)->(i=jb/\u = .o kb ys)\/(i≠jb/\E[i]? = some (some u)):=λ{i u} h=>by
      by_cases c:i=jb
      ·subst c;rw [KO (IT.mp hE).1] at h;cases h;exact .inl ⟨rfl,rfl⟩
      ·rw [JN (λz=>c z.symm)] at h;exact .inr ⟨c,h⟩
     have kp:Kp (Ow B S' E) (Ow B S' E) H2 H':=⟨hk,λb z=>.inl z⟩;have uf:∀b,Ow B S' (E.set jb (some (.o kb ys))) b->Ow B S' E b:=λb z=>by
      rcases z with z | ⟨i,k,zs,z1,z2⟩
      ·exact .inl z
      rcases WQ z1 with ⟨c,z⟩ | ⟨c,z⟩
      ·subst c;exact .inr ⟨_,kb,xs,hE,z2⟩
      ·exact .inr ⟨i,k,zs,z,z2⟩
     have TJ:RE K B H' S' (E.set jb (some (.o kb ys))):=by
      refine re.step hk (by simp) (λi t h=>?_) (λi k zs h=>?_) (λa z=>?_)
      ·rcases WQ h with ⟨_,z⟩ | ⟨_,z⟩
       ·cases z
       ·exact z
      ·rcases WQ h with ⟨c,z⟩ | ⟨c,z⟩
       ·cases z;subst c;refine ⟨xs,hE,λa ha=>?_⟩;rw [dz] at ha;cases ha;exact ⟨ZU,b1,b2.step (Kp.less kg)⟩
       ·refine ⟨zs,z,λa ha=>?_⟩;obtain ⟨a',XT,p1,p2,p3,_⟩:=re.own i k zs z;rw [ha] at p1;cases p1;have na:a≠a0:=λw=>c (re.inj i jb k kb zs xs a0 z hE (by rw [<-w];exact ha) dz);exact ⟨XT,fr a _ p2 (by intro w;cases w;exact na rfl),p3.step kp⟩
      ·exact kg a (.inl z)
     refine x8 re TJ hk uf (λi k zs h=>?_) (λi t h=>?_) rv q2 lk
     ·rcases WQ h with ⟨c,z⟩ | ⟨c,z⟩
      ·cases z
       right
       intro a us2 ha hu;subst c;rw [dz] at ha;cases ha;rw [b1] at hu;cases hu;exact b2
      ·left
       refine ⟨z,λa ha=>?_⟩;obtain ⟨a',XT,p1,p2,p3,_⟩:=re.own i k zs z;rw [ha] at p1;cases p1;have na:a≠a0:=λw=>c (re.inj i jb k kb zs xs a0 z hE (by rw [<-w];exact ha) dz);rw [p2];exact fr a _ p2 (by intro w;cases w;exact na rfl)
     ·rcases WQ h with ⟨_,z⟩ | ⟨_,z⟩
      ·cases z
      ·exact z
  ·exact q.elim
 ·exact q.elim
end
end L2
namespace L2
open PySem PySem.Spec PyProof.Rows
def Lx (bk:Bool):Option (Option U)->Option U
 | some (some (.p t))=>some (.p t)
 | some (some (.o _ xs))=>if bk=true then some (.o true xs) else some (.p (.lst xs))
 | _=>none
def oV (t:Nat) (cap:List (Nat×Bool)) (E:En):En:=KD t none++cap.map λk=>Lx k.2 E[k.1]?
def pI:List (Nat×Bool)->Option (Nat×Nat)
 | []=>none
 | (k,true)::_=>some (0,k)
 | (_,false)::r=>(pI r).map λx=>(x.1+1,x.2)
def kL (cap:List (Nat×Bool)):Bool:=Nat.ble (cap.filter (·.2)).length 1
def z7 (t:Nat) (cap:List (Nat×Bool)) (ZI E:En):Option En:=match pI cap with
 | none=>some E
 | some (j,k)=>match E[k]?,ZI[t+j]? with
  | some (some (.o b _)),some (some (.o true ys))=>if d9 ys=true then some (E.set k (some (.o b ys))) else none
  | some (some (.p _)),_=>some E
  | _,_=>none
def fG (g:FG) (Fe:FE):List T->En->(En->Prop)->Prop
 | [],E,Q=>Q E
 | x::xs,E,Q=>g x E λE2=>Fe E2 λr E3=>match r with
  | .p t=>(match E3[E.length-1]? with
   | some (some (.o false acc))=>acc.length<1000/\fG g Fe xs ((E3.set (E.length-1) (some (.o false (acc++[t])))).take E.length) Q
   | _=>False)
  | .s _=>False
def Bq (t:Nat) (cap:List (Nat×Bool)) (I:FI) (g:FG) (Fe:FE):FE:=λE Q=>I E λitems us E1=>cap.all (λk=>!(k.2&&us.contains k.1))=true/\
 fG g Fe items (oV t cap E1++[some (.o false [])]) λZI=>match ZI[t+cap.length]? with
  | some (some (.o false zs))=>d9 zs=true/\o1 (z7 t cap ZI E1) λE2=>Q (.s E2.length) (E2++[some (.o false zs)])
  | _=>False
section
variable {K:W.Frag} {B:QF->Prop} {H H':Hp} {S S':St} {E E':En} {σ:St}
theorem z6 {t:Nat} {cap:List (Nat×Bool)} {i:Nat} {u:U} (h:(oV t cap E)[i]? = some (some u)):∃j k b,i=t+j/\cap[j]? = some (k,b)/\Lx b E[k]? = some u:=by
 unfold oV at h;rcases LZ i t with c | c
 ·rw [JP (by simpa using c)] at h;have:=JA h;rw [List.mem_replicate] at this;cases this.2
 ·rw [KY (by simpa using c),NI,JC] at h;cases q:cap[i-t]? with
  | none=>rw [q] at h;cases h
  | some x=>
   rw [q] at h;exact ⟨i-t,x.1,x.2,by omega,q,by simpa using h⟩
theorem Cu {t:Nat} {cap:List (Nat×Bool)} {j k:Nat} {b:Bool} (h:cap[j]? = some (k,b)):(jC t (cap.map (·.1)) σ)[t+j]? = some ((σ[k]?).join):=by
 unfold jC;rw [KY (by simp)];simp [h]
theorem sZ:∀{cap:List (Nat×Bool)} {j k:Nat},pI cap=some (j,k)->cap[j]? = some (k,true)
 | (k,true)::r,_,_,h=>by cases h;rfl
 | (m,false)::r,j,k,h=>by
  cases q:pI r with
  | none=>rw [pI,q] at h;cases h
  | some x=>
   rw [pI,q] at h;cases h
   simpa using sZ (j:=x.1) (k:=x.2) q
theorem fP:∀{cap:List (Nat×Bool)} {j k:Nat},kL cap=true->cap[j]? = some (k,true)->pI cap=some (j,k)
 | [],j,k,_,h=>by simp at h
 | (m,true)::r,0,k,_,h=>by simp at h;subst h;rfl
 | (m,true)::r,j+1,k,ho,h=>by
  have h':r[j]? = some (k,true):=by simpa using h
  have:(k,true)∈r.filter (·.2):=JV.mpr ⟨JA h',rfl⟩;have hl:0<(r.filter (·.2)).length:=PU this;unfold kL at ho;rw [JZ (by rfl)] at ho;have:=Nat.le_of_ble_eq_true ho;simp only [JE] at this;omega
 | (m,false)::r,0,k,_,h=>by simp at h
 | (m,false)::r,j+1,k,ho,h=>by
  have h':r[j]? = some (k,true):=by simpa using h
  have WZ:kL r=true:=by
   unfold kL at ho ⊢;rw [KR (by simp)] at ho;exact ho
  rw [pI,fP WZ h'];rfl
end
def IA (i:Nat) (TN:List (Key×V)) (σ:St) (H:Hp):Prop:=∃p,σ[i]? = some (some (.ref p))/\H p=some (.dK TN)
abbrev DD:=Option (Nat×List (Key×V))
def nJ (d:DD) (σ:St) (H:Hp):Prop:=∀x,d=some x->IA x.1 x.2 σ H
theorem nJ.same {d:DD} {σ:St} {H H':Hp} (h:nJ d σ H) (k:∀b o,H b=some o->H' b=some o):nJ d σ H':=λx e=>let ⟨p,h1,h2⟩:=h x e;⟨p,h1,k _ _ h2⟩
theorem nJ.kp {d:DD} {K:W.Frag} {B O:QF->Prop} {S σ:St} {E:En} {H H':Hp} (h:nJ d σ H) (re:RE K B H S E) (k:Kp (Ow B S E) O H H'):nJ d σ H':=λx e=>
 let ⟨p,h1,h2⟩:=h x e;⟨p,h1,k.keep _ _ h2 λz=>by obtain ⟨vs,e⟩:=re.ow z;rw [h2] at e;cases e⟩
def vS (d:DD) (K:W.Frag) (F:FE):TE:=λσ H Q=>nJ d σ H/\aQ K F σ H Q
def Hv (d:DD) (K:W.Frag) (g:FG):TG:=λv σ H Q=>nJ d σ H/\rQ K g v σ H λσ' H'=>nJ d σ' H'->Q σ' H'
section
variable {X:Cx} {K:W.Frag} {pos:Pos} {Fe:FE} {g:FG} {I:FI}
theorem QG.gd {e:Expr} (h:QG X e (rQ K g)):QG X e (Hv none K g):=h.le λv σ H Q _ ⟨_,B,τ,E,t,Q',re,rp,hF,l⟩=>⟨B,τ,E,t,Q',re,rp,hF,λσ' H' E' a b c d=>l σ' H' E' a b c d λ_ z=>by cases z⟩
theorem QE.ed {e:Expr} (h:QE X e (aQ K Fe)):QE X e (vS none K Fe):=h.le λ_ _ _ _ z=>z.2
end
def Sn (d:DD) (K:W.Frag) (F:FB):TT:=λσ H Q=>nJ d σ H/\eU K F σ H Q
section
variable {X:Cx} {K:W.Frag} {pos:Pos} {Fb:FB} {Fe:FE} {g:FG} {I:FI}
def jH (g:FG) (Fb:FB) (Fe:FE):List T->En->(En->Prop)->Prop
 | [],E,Q=>Q E
 | x::xs,E,Q=>g x E λE2=>Fb E2 λb yq=>if b=true then Fe yq λr E3=>match r with
  | .p t=>(match E3[E.length-1]? with
   | some (some (.o false acc))=>acc.length<1000/\jH g Fb Fe xs ((E3.set (E.length-1) (some (.o false (acc++[t])))).take E.length) Q
   | _=>False)
  | .s _=>False
  else jH g Fb Fe xs (yq.take E.length) Q
def zI (t:Nat) (cap:List (Nat×Bool)) (I:FI) (g:FG) (Fb:FB) (Fe:FE):FE:=λE Q=>I E λitems us E1=>cap.all (λk=>!(k.2&&us.contains k.1))=true/\
 jH g Fb Fe items (oV t cap E1++[some (.o false [])]) λZI=>match ZI[t+cap.length]? with
  | some (some (.o false zs))=>d9 zs=true/\o1 (z7 t cap ZI E1) λE2=>Q (.s E2.length) (E2++[some (.o false zs)])
  | _=>False
theorem vW {d d':DD} {scope:RF} {N':List Str} {cap:List (Nat×Bool)} {t:Nat} (S:bK X N' scope t (cap.map (·.1))) (ho:kL cap=true) (ZV:(cap.map (·.1)).Nodup) {σ:St} {H:Hp} {Q:VK} (hl:σ.length=X.N.length) (ug:∀H,nJ d σ H->nJ d' (jC t (cap.map (·.1)) σ) H)
  (h:vS d K (zI t cap I g Fb Fe) σ H Q):uL t (cap.map (·.1)) (nE K I) (Hv d' K g) (Sn d' K Fb) (vS d' K Fe) σ H Q:=by
 obtain ⟨dt,B,S0,E,Q',hS,re,hF,lk⟩:=h;refine ⟨B,S0,E,_,hS,re,hF,λJ items us E1 H1 S1 gd q g1 TL eh fh dr D hD=>?_⟩;obtain ⟨hus,q⟩:=q;obtain ⟨τ0,hS0⟩:=hS;obtain ⟨τ1,VW⟩:=g1.pre;have kh:∃τ,S1=σ++τ:=⟨τ0++τ1,by rw [VW,hS0,IZ]⟩;have atσ:∀{j k:Nat} {b:Bool} {v:V},cap[j]? = some (k,b)->S1[k]? = some (some v)->σ[k]? = some (some v):=λ{j k b v} hj hv=>by
  obtain ⟨x,_,hx,_⟩:=S.caps j k (by rw [JC,hj];rfl);have hk:k<σ.length:=by rw [hl];exact (IT.mp hx).1
  obtain ⟨τ,rfl⟩:=kh;rw [JP hk] at hv;exact hv
 have atC:∀{j k:Nat} {b:Bool} {v:V},cap[j]? = some (k,b)->S1[k]? = some (some v)->(jC t (cap.map (·.1)) σ)[t+j]? = some (some v):=λ{j k b v} hj hv=>by rw [Cu hj,atσ hj hv];rfl
 have ki:∀{j k:Nat} {b:Bool} {v:V},cap[j]? = some (k,b)->(jC t (cap.map (·.1)) σ)[t+j]? = some (some v)->S1[k]? = some (some v):=λ{j k b v} hj hv=>by
  rw [Cu hj] at hv;have:σ[k]? = some (some v):=by
   cases z:σ[k]? with
   | none=>rw [z] at hv;cases hv
   | some y=>rw [z] at hv;simpa using hv
  exact gF kh this
 obtain ⟨bx,YV⟩:∃bx:Option QF,∀a:QF,bx=some a↔∃(j k:Nat) (kk:Bool) (xs:List T),cap[j]? = some (k,true)/\E1[k]? = some (some (.o kk xs))/\S1[k]? = some (some (.ref a)):=by
  by_cases hex:∃(a:QF) (j k:Nat) (kk:Bool) (xs:List T),cap[j]? = some (k,true)/\E1[k]? = some (some (.o kk xs))/\S1[k]? = some (some (.ref a))
  ·obtain ⟨a,j,k,kk,xs,h1,h2,h3⟩:=hex;refine ⟨some a,λa'=>⟨λz=>(by cases z;exact ⟨j,k,kk,xs,h1,h2,h3⟩),λ⟨j',k',ou,dq,p1,p2,p3⟩=>?_⟩⟩;have e1:=fP ho h1;have e2:=fP ho p1;rw [e1] at e2;cases e2;rw [h3] at p3;cases p3;rfl
  ·exact ⟨none,λa=>⟨λz=>(by cases z),λz=>absurd ⟨a,z⟩ hex⟩⟩
 have ZX:∀a,bx=some a->Ow B S1 E1 a:=λa z=>by
  obtain ⟨j,k,kk,xs,_,h2,h3⟩:=(YV a).mp z;exact .inr ⟨k,kk,xs,h2,h3⟩
 -- an own list of the block is the box
 have ZY:∀{i:Nat} {k:Bool} {xs:List T},(oV t cap E1)[i]? = some (some (.o k xs))->∃j m kk,i=t+j/\cap[j]? = some (m,true)/\E1[m]? = some (some (.o kk xs))/\k=true:=λ{i k xs} h=>by
  obtain ⟨j,m,c,e1,e2,e3⟩:=z6 h;refine ⟨j,m,?_⟩;cases qE:E1[m]? with
  | none=>rw [qE] at e3;cases e3
  | some u=>
   cases u with
   | none=>rw [qE] at e3;cases e3
   | some u=>
    cases u with
    | p _=>rw [qE] at e3;cases e3
    | o kk ys=>
     rw [qE] at e3;cases c
     ·simp [Lx] at e3
     ·simp [Lx] at e3;obtain ⟨e4,e5⟩:=e3;exact ⟨kk,e1,e2,by rw [e5],e4⟩
 have YW:∀b,Ow (λa=>bx=some a) (jC t (cap.map (·.1)) σ) (oV t cap E1) b->bx=some b:=λb z=>by
  rcases z with z | ⟨i,k,xs,h1,h2⟩
  ·exact z
  obtain ⟨j,m,kk,e1,e2,e3,_⟩:=ZY h1;subst e1;exact (YV b).mpr ⟨j,m,kk,xs,e2,e3,ki e2 h2⟩
 have kl:Kp (Ow B S1 E1) (Ow (λa=>bx=some a) (jC t (cap.map (·.1)) σ) (oV t cap E1)) H1 H1:=Kp.less λb z=>ZX b (YW b z);have km:RE K (λa=>bx=some a) H1 (jC t (cap.map (·.1)) σ) (oV t cap E1):=by
  refine ⟨by simp [jC,oV],λi u h=>?_,λi k xs h=>?_,λi j k l xs ys a h1 h2 h3 h4=>?_,λa z=>TL.ow (ZX a z)⟩
  ·obtain ⟨j,m,c,e1,e2,e3⟩:=z6 h;subst e1;cases qE:E1[m]? with
   | none=>rw [qE] at e3;cases e3
   | some w=>
    cases w with
    | none=>rw [qE] at e3;cases e3
    | some w=>
     cases w with
     | p w=>
      rw [qE] at e3;cases e3;obtain ⟨v,h1,h2⟩:=TL.pure m _ qE;exact ⟨v,atC e2 h1,h2.step kl⟩
     | o kk ys=>
      rw [qE] at e3;cases c
      ·simp [Lx] at e3;subst e3;obtain ⟨a,vs,h1,h2,h3,h4⟩:=TL.own m kk ys qE;refine ⟨_,atC e2 h1,a,vs,rfl,.inl ⟨λz=>?_,.inl h2⟩,h3.step kl⟩;obtain ⟨j',k',ou,dq,p1,p2,p3⟩:=(YV a).mp (YW a z);have e4:=TL.inj m k' kk ou ys dq a qE p2 h1 p3;subst e4;have lt1:j<(cap.map (·.1)).length:=by rw [IS];exact (IT.mp e2).1
       have lt2:j'<(cap.map (·.1)).length:=by rw [IS];exact (IT.mp p1).1
       have:j=j':=(List.getElem?_inj lt1 ZV).mp (by rw [JC,JC,e2,p1];rfl);subst this;rw [e2] at p1;cases p1
      ·simp [Lx] at e3
  ·obtain ⟨j,m,kk,e1,e2,e3,e4⟩:=ZY h;subst e1;subst e4;obtain ⟨a,vs,h1,h2,h3,h4⟩:=TL.own m kk _ e3;exact ⟨a,vs,atC e2 h1,h2,h3.step kl,⟨λ_=>(YV a).mpr ⟨j,m,kk,_,e2,e3,h1⟩,λ_=>rfl⟩⟩
  ·obtain ⟨j1,m1,k1,e1,e2,_,_⟩:=ZY h1;obtain ⟨j2,m2,k2,e3,e4,_,_⟩:=ZY h2;have z1:=fP ho e2;have z2:=fP ho e4;rw [z1] at z2;cases z2;rw [e1,e3]
 -- the accumulator gets a place
 obtain ⟨gD,yr⟩:=km.lst (ts:=[]) (vs:=[]) hD rfl;have gd0:gd (upd H1 D (.lst [])) (Ow (λa=>bx=some a) (jC t (cap.map (·.1)) σ++[some (.ref D)]) (oV t cap E1++[some (.o false [])])):=by
  refine eh.keep _ _ _ _ gD.kp (dr _ (λb z=>ZX b (YW b z)) λj hj a ha z=>?_);obtain ⟨j',k',ou,dq,p1,p2,p3⟩:=(YV a).mp (YW a z);obtain ⟨kj,xj,qj⟩:=fh j hj;have ej:=TL.inj j k' kj ou xj dq a qj p2 ha p3;subst ej;have:=LK.mp hus (j,true) (JA p1);simp [hj] at this
 have hn:(jC t (cap.map (·.1)) σ).length=t+cap.length:=by simp [jC]
 have hnE:(oV t cap E1++[some (U.o false [])]).length=t+cap.length+1:=by simp [oV];omega
 -- the turns
 refine ⟨λi m σ' H'=>m=items.length-i/\i<=items.length/\∃E',jH g Fb Fe (items.drop i) E' (λZI=>match ZI[t+cap.length]? with
   | some (some (.o false zs))=>d9 zs=true/\o1 (z7 t cap ZI E1) λE2=>Q' (.s E2.length) (E2++[some (.o false zs)])
   | _=>False)/\σ'.length=t+cap.length/\E'.length=t+cap.length+1/\RE K (λa=>bx=some a) H' (σ'++[some (.ref D)]) E'/\
   Gs (λa=>bx=some a) (upd H1 D (.lst [])) (jC t (cap.map (·.1)) σ++[some (.ref D)]) (oV t cap E1++[some (.o false [])]) H' (σ'++[some (.ref D)]) E'/\gd H' (Ow (λa=>bx=some a) (σ'++[some (.ref D)]) E')/\nJ d' σ' H',
  ⟨_,rfl,LM _,_,q,hn,hnE,yr,Kp.refl _ _,gd0,(ug _ (dt.kp re g1.kp)).kp km gD.kp⟩,?_⟩
 rintro i m σ2 H2 ⟨rfl,du,E3,q3,uh,ui,UZ,g3,YI,uj⟩;rcases LZ i items.length with VP | ud
 ·have hd:items.drop i=items[i]::items.drop (i+1):=LR VP;rw [hd] at q3;refine .inr ⟨eh.go i H2 _ YI VP,λx H4 y=>?_⟩;obtain ⟨k4,s4,rp⟩:=eh.yld i H2 _ x H4 _ YI (IQ VP) (λa z=>by obtain ⟨vs,e⟩:=UZ.ow z;rw [e];intro z;cases z) y;have YU:=UZ.kept s4;have ij:=eh.keep _ _ _ _ k4 YI;refine ⟨uj.same s4,_,[some (.ref D)],E3,_,_,YU,rp,q3,λσ5 H5 E5 q5 g5 WX dw pe=>?_⟩;have hE5:E5.length=t+cap.length+1:=by rw [<-WX.len];simp [dw,uh]
  refine ⟨pe,_,σ5++[some (.ref D)],E5,_,⟨_,rfl⟩,WX,q5,λok pg H5' S5' ph fi fj=>?_⟩;have ll:E5.length<=pg.length:=by
   obtain ⟨τ6,e6⟩:=fi.pre;rw [<-WX.len,<-fj.len,e6];simp
  cases ok with
  | false=>
   have ph:jH g Fb Fe (items.drop (i+1)) (pg.take E3.length) _:=ph;obtain ⟨kn,ko⟩:=fj.cut (E:=E5) (σ:=σ5++[some (.ref D)]) fi.pre WX.len;have eE:E5.length=E3.length:=by omega
   rw [eE] at kn ko;have gg:Gs (λa=>bx=some a) H4 (σ2++[some (.ref D)]) E3 H5' (σ5++[some (.ref D)]) (pg.take E3.length):=(g5.trans fi.kp).trans (Kp.less ko);refine ⟨items.length-(i+1),by omega,rfl,VP,_,ph,by omega,?_,kn,(g3.trans k4).trans gg,eh.keep _ _ _ _ gg ij,pe.kp WX fi.kp⟩;rw [KP];omega
  | true=>
   obtain ⟨τ5,hτ5⟩:=fi.pre;refine ⟨pe.kp WX fi.kp,_,S5',pg,_,⟨some (.ref D)::τ5,by rw [hτ5];simp⟩,fj,ph,λr E6 v H6 S6 q6 g6 ik rr6=>?_⟩;have g6:=fi.trans g6;cases r with
   | s _=>exact q6.elim
   | p u=>
    simp only at q6;have kq:E3.length-1=t+cap.length:=by omega
    rw [kq] at q6;split at q6
    ·rename_i acc kr;obtain ⟨hlen,q6⟩:=q6;obtain ⟨a6,ws,p1,p2,p3,p4⟩:=ik.own _ _ _ kr;have yt:S6[t+cap.length]? = some (some (.ref D)):=gF g6.pre (by rw [KY (by omega)];simp [dw,uh]);rw [yt] at p1;cases p1;obtain ⟨g7,uk⟩:=ik.put (ys:=acc++[u]) (ws:=ws++[v]) kr yt (p3.append ⟨v,[],rfl,rr6,rfl⟩);obtain ⟨kn,ko⟩:=uk.cut (E:=E5) (σ:=σ5++[some (.ref D)]) (g6.trans g7).pre WX.len;have eE:E5.length=E3.length:=by omega
     rw [eE] at kn ko;have gg:Gs (λa=>bx=some a) H4 (σ2++[some (.ref D)]) E3 (upd H6 D (.lst (ws++[v]))) (σ5++[some (.ref D)]) ((E6.set (t+cap.length) (some (.o false (acc++[u])))).take E3.length):=(g5.trans (g6.trans g7).kp).trans (Kp.less ko);refine ⟨ws,p2,by rw [p3.length];exact bY (KN hlen),items.length-(i+1),by omega,rfl,VP,_,q6,by omega,?_,kn,(g3.trans k4).trans gg,eh.keep _ _ _ _ gg ij,(pe.kp WX g6.kp).kp ik g7.kp⟩;rw [KP,NM];have:E5.length<=E6.length:=by
      obtain ⟨τ6,e6⟩:=g6.pre;rw [<-WX.len,<-ik.len,e6];simp
     omega
    ·exact q6.elim
 ·have ei:i=items.length:=by omega
  subst ei;rw [MI] at q3;refine .inl ⟨eh.stop H2 _ YI,?_⟩;have ZZ:(match E3[t+cap.length]? with
   | some (some (.o false zs))=>d9 zs=true/\o1 (z7 t cap E3 E1) λE2=>Q' (.s E2.length) (E2++[some (.o false zs)])
   | _=>False):=q3
  split at ZZ
  ·rename_i zs um;obtain ⟨ue,ZZ⟩:=ZZ;obtain ⟨E2,e2,ZZ⟩:=ZZ.ex;obtain ⟨aD,ws,p1,p2,p3,p4⟩:=UZ.own _ _ _ um;have hSD:(σ2++[some (V.ref D)])[t+cap.length]? = some (some (.ref D)):=by rw [KY (by omega)];simp [uh]
   rw [hSD] at p1;cases p1
   -- what is kept of the heap around
   have cg:∀b,Ow (λa=>bx=some a) (jC t (cap.map (·.1)) σ++[some (.ref D)]) (oV t cap E1++[some (.o false [])]) b->bx=some b\/b=D:=λb z=>by
    rcases gD.kp.new b z with z | z
    ·exact .inl (YW b z)
    ·rcases yr.ow (by assumption) with ⟨XT,hu⟩
     by_cases c:b=D
     ·exact .inr c
     ·rw [bC c,z] at hu;cases hu
   have kept:∀b o,H1 b=some o->bx≠some b->H2 b=some o:=λb o e n=>by
    refine g3.keep b o (by rw [bC (bF e hD)];exact e) λz=>?_;rcases cg b z with z | z
    ·exact n z
    ·exact bF e hD z
   have hk:∀b o,H1 b=some o->¬Ow B S1 E1 b->H2 b=some o:=λb o e n=>kept b o e λz=>n (ZX b z);have lk1:=lk.step g1
   -- the names around
   have fin:∀{E2:En},RE K B H2 S1 E2->(∀b,Ow B S1 E2 b->Ow B S1 E1 b)->
     (∀(i:Nat) (k:Bool) (xs:List T),E2[i]? = some (some (.o k xs))->(E1[i]? = some (some (.o k xs))/\∀a,S1[i]? = some (some (.ref a))->H2 a=H1 a)\/∀a ws,S1[i]? = some (some (.ref a))->H2 a=some (.lst ws)->cN K H2 (dD H2) xs ws)->
     (∀(i:Nat) (u:T),E2[i]? = some (some (.p u))->E1[i]? = some (some (.p u)))->Q' (.s E2.length) (E2++[some (.o false zs)])->Q (.ref D) H2:=λ{E2} TJ hw hE hP q=>by
    refine x8 TL TJ hk hw hE hP (r:=.l zs) ⟨D,ws,rfl,hD,p2,cN.noL (λa z=>?_) ue p3⟩ q lk1;rcases z with ⟨XT,z⟩ | z
    ·by_cases c:bx=some a
     ·exact UZ.ow (.inl c)
     ·exact ⟨XT,kept a _ z c⟩
    ·exact ⟨ws,by rw [z];exact p2⟩
   unfold z7 at e2;cases qb:pI cap with
   | none=>
    rw [qb] at e2;cases e2;have nb:∀b,bx≠some b:=λb z=>by
     obtain ⟨j,k,kk,xs,h1,_⟩:=(YV b).mp z;rw [fP ho h1] at qb;cases qb
    have same:∀b o,H1 b=some o->H2 b=some o:=λb o e=>kept b o e (nb b);exact fin (TL.kept same) (λb z=>z) (λi k xs h=>.inl ⟨h,λa ha=>by
     obtain ⟨a',XT,h1,h2,_⟩:=TL.own i k xs h;rw [ha] at h1;cases h1;rw [h2];exact same _ _ h2⟩) (λi u h=>h) ZZ
   | some jk=>
    obtain ⟨j,k⟩:=jk;rw [qb] at e2;have hj:=sZ qb;simp only at e2;split at e2
    ·rename_i kb fm ys ck hEi;split at e2
     ·cases e2;rename_i hny;obtain ⟨a0,us0,h1,h2,h3,h4⟩:=TL.own k kb fm ck;have fo:bx=some a0:=(YV a0).mpr ⟨j,k,kb,fm,hj,ck,h1⟩;obtain ⟨a',uo,r1,r2,r3,r4⟩:=UZ.own _ true ys hEi;have:bx=some a':=r4.mp rfl;rw [fo] at this;cases this;have kg:∀b,Ow B S1 E1 b->dD H2 b:=λb z=>by
       by_cases c:bx=some b
       ·rw [fo] at c;cases c;exact ⟨uo,r2⟩
       ·obtain ⟨XT,e⟩:=TL.ow z;exact ⟨XT,kept b _ e c⟩
      have cont:cN K H2 (dD H2) ys uo:=cN.noL (λ_ z=>z) hny r3;have WQ:∀{i:Nat} {u:U},(E1.set k (some (.o kb ys)))[i]? = some (some u)->(i=k/\u = .o kb ys)\/(i≠k/\E1[i]? = some (some u)):=λ{i u} h=>by
       by_cases c:i=k
       ·subst c;rw [KO (IT.mp ck).1] at h;cases h;exact .inl ⟨rfl,rfl⟩
       ·rw [JN (λz=>c z.symm)] at h;exact .inr ⟨c,h⟩
      have nk:∀{i:Nat} {l:Bool} {ZJ:List T} {a:QF},i≠k->E1[i]? = some (some (.o l ZJ))->S1[i]? = some (some (.ref a))->bx≠some a:=λ{i l ZJ a} c z ha w=>by
       rw [fo] at w;cases w;exact c (TL.inj i k l kb ZJ fm _ z ck ha h1)
      have uf:∀b,Ow B S1 (E1.set k (some (.o kb ys))) b->Ow B S1 E1 b:=λb z=>by
       rcases z with z | ⟨i,l,ZJ,z1,z2⟩
       ·exact .inl z
       rcases WQ z1 with ⟨c,z⟩ | ⟨c,z⟩
       ·subst c;exact .inr ⟨_,kb,fm,ck,z2⟩
       ·exact .inr ⟨i,l,ZJ,z,z2⟩
      have kp:Kp (Ow B S1 E1) (Ow B S1 E1) H1 H2:=⟨hk,λb z=>.inl z⟩;refine fin (TL.step hk (by simp) (λi u h=>?_) (λi l ZJ h=>?_) (λa z=>kg a (.inl z))) uf (λi l ZJ h=>?_) (λi u h=>?_) ZZ
      ·rcases WQ h with ⟨_,z⟩ | ⟨_,z⟩
       ·cases z
       ·exact z
      ·rcases WQ h with ⟨c,z⟩ | ⟨c,z⟩
       ·cases z;subst c;refine ⟨fm,ck,λa ha=>?_⟩;rw [h1] at ha;cases ha;exact ⟨uo,r2,cont.step (Kp.less kg)⟩
       ·refine ⟨ZJ,z,λa ha=>?_⟩;obtain ⟨a',XT,kx,pj,yu,_⟩:=TL.own i l ZJ z;rw [ha] at kx;cases kx;exact ⟨XT,kept a _ pj (nk c z ha),yu.step kp⟩
      ·rcases WQ h with ⟨c,z⟩ | ⟨c,z⟩
       ·cases z;subst c
        right
        intro a us2 ha hu;rw [h1] at ha;cases ha;rw [r2] at hu;cases hu;exact cont
       ·left
        refine ⟨z,λa ha=>?_⟩;obtain ⟨a',XT,kx,pj,yu,_⟩:=TL.own i l ZJ z;rw [ha] at kx;cases kx;rw [pj];exact kept a _ pj (nk c z ha)
      ·rcases WQ h with ⟨_,z⟩ | ⟨_,z⟩
       ·cases z
       ·exact z
     ·cases e2
    ·rename_i tp ck;cases e2;have nb:∀b,bx≠some b:=λb z=>by
      obtain ⟨j',k',kk,xs,h1,h2,_⟩:=(YV b).mp z;rw [fP ho h1] at qb;cases qb;rw [ck] at h2;cases h2
     have same:∀b o,H1 b=some o->H2 b=some o:=λb o e=>kept b o e (nb b);exact fin (TL.kept same) (λb z=>z) (λi k xs h=>.inl ⟨h,λa ha=>by
      obtain ⟨a',XT,h1,h2,_⟩:=TL.own i k xs h;rw [ha] at h1;cases h1;rw [h2];exact same _ _ h2⟩) (λi u h=>h) ZZ
    ·cases e2
  ·exact ZZ.elim
def bT:FB:=λE Q=>Q true E
theorem Jk (g:FG) (Fe:FE):∀xs,jH g bT Fe xs=fG g Fe xs
 | []=>rfl
 | x::xs=>by
  funext E Q
  simp only [jH,fG,bT,if_true,Jk g Fe xs]
theorem Cj {d d':DD} {scope:RF} {N':List Str} {cap:List (Nat×Bool)} {t:Nat} (S:bK X N' scope t (cap.map (·.1))) (ho:kL cap=true) (ZV:(cap.map (·.1)).Nodup) {σ:St} {H:Hp} {Q:VK} (hl:σ.length=X.N.length) (ug:∀H,nJ d σ H->nJ d' (jC t (cap.map (·.1)) σ) H)
  (h:vS d K (Bq t cap I g Fe) σ H Q):Ja t (cap.map (·.1)) (nE K I) (Hv d' K g) (vS d' K Fe) σ H Q:=by
 have e:zI t cap I g bT Fe=Bq t cap I g Fe:=by unfold zI Bq;simp only [Jk]
 rw [<-e] at h;obtain ⟨B,S0,E,Q',hS,re,hF,lk⟩:=vW S ho ZV hl ug h;refine ⟨B,S0,E,Q',hS,re,hF,λJ items us E1 H1 S1 gd q g1 TL ok fh dr D hD=>?_⟩;obtain ⟨W,w0,tn⟩:=lk J items us E1 H1 S1 gd q g1 TL ok fh dr D hD;refine ⟨W,w0,λi m σ' H' z=>(tn i m σ' H' z).imp id λ⟨go,st⟩=>⟨go,λx H2 y=>?_⟩⟩;obtain ⟨dt,B',τ,E',u,Q2,TJ,rp,YH,l⟩:=st x H2 y;refine ⟨dt,B',τ,E',u,Q2,TJ,rp,YH,λσ3 H3 E3 a b c e uj=>?_⟩;obtain ⟨_,B3,S3,E4,Q4,_,YU,z,k⟩:=l σ3 H3 E3 a b c e uj;exact k true E4 H3 S3 z .refl YU
theorem QT.bd {c:Expr} (h:QT X c (eU K Fb)):QT X c (Sn none K Fb):=h.le λ_ _ _ z=>z.2
theorem dG {target elt iter:Expr} {scope:RF} {N':List Str} {cap:List (Nat×Bool)} {t:Nat} (hc:X.calm=true) (S:bK X N' scope t (cap.map (·.1))) (ho:kL cap=true) (ZV:(cap.map (·.1)).Nodup) (hi:QI X target iter (nE K I))
  (hg:∀C s3 H3 fp,QG (cO X N' scope C s3 H3 fp) target (rQ K g)) (he:∀C s3 H3 fp,QE (cO X N' scope C s3 H3 fp) elt (aQ K Fe)) (hs:∀x,QX iter X.env x=pure x:=by intro _;rfl) :
  QE X (.ListComp elt [⟨target,iter,[],0⟩] scope pos) (aQ K (Bq t cap I g Fe)):=
 (Xk hc S hi (λC s H f=>(hg C s H f).gd) (λC s H f=>(he C s H f).ed) hs).le λσ H Q hl h=>Cj (d:=none) (d':=none) S ho ZV hl (λ_ _ _ z=>by cases z) ⟨(λ_ z=>by cases z),h⟩
end
end L2
namespace L2
open PySem PySem.Spec PyProof.Rows
section
variable {X:Cx}
theorem Ri {target elt iter:Expr} {ifs:List Expr} {scope:RF} {pos pos' XO:Pos} {N':List Str} {cap:List Nat} {t ix:Nat} {xn:Str} {wi:TI} {g:TG} {tb:TT} {te:TE} (ur:X.N.Nodup) (il:X.N[ix]? = some xn) (uu:Eh X.env.scope xn) (cw:X.fn xn=true\/X.env.scope.names.lookup xn=some .local)
  (kz:RN (.ListComp elt [⟨target,iter,ifs,0⟩] scope pos) (some (.Name xn pos')) XO.line X.env=pure true) (hc:X.calm=true) (S:bK X N' scope t cap) (hi:PI X target iter wi)
  (hg:∀C s3 H3 fp,PG (cO X N' scope C s3 H3 fp) target g) (hb:∀C s3 H3 fp,BL (cO X N' scope C s3 H3 fp) ifs tb) (he:∀C s3 H3 fp,PE (cO X N' scope C s3 H3 fp) elt te) (hs:∀x,QX iter X.env x=pure x:=by intro _;rfl) :
  PS X (.Assign [.Name xn pos'] (.ListComp elt [⟨target,iter,ifs,0⟩] scope pos) XO) (Mm (uL t cap wi g tb te) (wW ix)):=by
 intro pins s σ H DD I h;rw [exec_Assign_Name_used _ _ _ _ kz];refine QH (SN (QH ?_));unfold evalThenUse;refine QH ?_;obtain ⟨QQ,yv⟩:∃QQ:Value->Shared->Prop,QQ=λ_ s'=>∃σ' H',aY X pins σ' H' s'/\DD.nx σ' H':=⟨_,rfl⟩;refine dM (Q:=QQ) ?_ (λ_ s' h'=>QN (QN (by rw [yv] at h';exact h')));refine wL (use:=some (SE (.Name xn pos') X.env)) hc S hi hg hb he hs I h λs3 s6 H3 H5 fp D m I3 f3 ZK YS YT XA jv ba qn=>?_;have I7:aY X pins σ H5 s6:=I3.call' (ch:=fp) jv YS YT ba f3;have fC:oK X pins H5 s3.heap.objs.size:=I3.fpOk (IW _) XA;refine wpAny_assign_Name (wI I7 ur il uu (v:=.ref D) rfl (λs8 I8 ⟨a,sa,ha⟩=>?_) cw);have nC:s3.heap.objs.size≠a:=by
  rcases ha with rfl | ha
  ·exact fC.2.1
  ·exact λz=>fC.2.2.2.2.1 _ _ ha z.symm
 obtain ⟨mC,hnC⟩:∃m',s8.heap.Ns s3.heap.objs.size m':=⟨m,ZK.at λo e=>sa.extBut _ _ nC e⟩;refine ⟨mC,hnC,λh' ZG=>?_⟩;rw [yv];refine ⟨_,H5,I8.turnedL (t':=s8.toks) (ch:=[s3.heap.objs.size]) (λb u hb e=>ZG.extBut _ _ (by simpa using hb) e) (λb hb=>by rw [JB.mp hb];exact fC),qn⟩
theorem Yq {target elt iter:Expr} {scope:RF} {pos pos' XO:Pos} {N':List Str} {cap:List Nat} {t ix:Nat} {xn:Str} {wi:TI} {g:TG} {te:TE} (ur:X.N.Nodup) (il:X.N[ix]? = some xn) (uu:Eh X.env.scope xn) (cw:X.fn xn=true\/X.env.scope.names.lookup xn=some .local)
  (kz:RN (.ListComp elt [⟨target,iter,[],0⟩] scope pos) (some (.Name xn pos')) XO.line X.env=pure true) (hc:X.calm=true) (S:bK X N' scope t cap) (hi:PI X target iter wi)
  (hg:∀C s3 H3 fp,PG (cO X N' scope C s3 H3 fp) target g) (he:∀C s3 H3 fp,PE (cO X N' scope C s3 H3 fp) elt te) (hs:∀x,QX iter X.env x=pure x:=by intro _;rfl) :
  PS X (.Assign [.Name xn pos'] (.ListComp elt [⟨target,iter,[],0⟩] scope pos) XO) (Mm (Ja t cap wi g te) (wW ix)):=
 λpins s σ H DD I h=>Ri (tb:=λ_ H Q=>Q true H) ur il uu cw kz hc S hi hg (λ_ _ _ _ _ _ _ _ _ I z=>wpAny_tests_nil ⟨_,I,z⟩) he hs pins s σ H DD I h
end
section
variable {X:Cx} {K:W.Frag} {Fe:FE} {g:FG} {I:FI}
theorem mM {target elt iter:Expr} {scope:RF} {pos pos' XO:Pos} {N':List Str} {cap:List (Nat×Bool)} {t i:Nat} {x:Str} (hN:X.N.Nodup) (hi:X.N[i]? = some x) (hx:Eh X.env.scope x)
  (kz:RN (.ListComp elt [⟨target,iter,[],0⟩] scope pos) (some (.Name x pos')) XO.line X.env=pure true) (hc:X.calm=true) (S:bK X N' scope t (cap.map (·.1))) (ho:kL cap=true) (ZV:(cap.map (·.1)).Nodup) (hit:QI X target iter (nE K I))
  (hg:∀C s3 H3 fp,QG (cO X N' scope C s3 H3 fp) target (rQ K g)) (he:∀C s3 H3 fp,QE (cO X N' scope C s3 H3 fp) elt (aQ K Fe)) (hs:∀x,QX iter X.env x=pure x:=by intro _;rfl)
  (hf:X.fn x=true\/X.env.scope.names.lookup x=some .local:=by first | exact .inl rfl | exact .inr rfl | assumption) :
  QS X (.Assign [.Name x pos'] (.ListComp elt [⟨target,iter,[],0⟩] scope pos) XO) (hJ K (J3 i (Bq t cap I g Fe))):=
 QS.le ⟨Yq hN hi hx hf kz hc S hit.h (λC s3 H3 fp=>(hg C s3 H3 fp).gd.h) (λC s3 H3 fp=>(he C s3 H3 fp).ed.h) hs⟩ λD σ H hl ⟨B,E,DT,re,hF,l⟩=>Cj (d:=none) (d':=none) S ho ZV hl (λ_ _ _ z=>by cases z) ⟨(λ_ z=>by cases z),B,σ,E,_,⟨[],by simp⟩,re,hF,λr E' v H' S' q g TJ rr=>by
  obtain ⟨u,e1,q⟩:=q.ex;rw [<-re.len] at e1 q;obtain ⟨r1,ow⟩:=mO (i:=i) TJ g.pre rr e1;exact l.nx _ _ _ q (g.kp.trans (Kp.less ow)) r1⟩
end
end L2
namespace L2
open PySem PySem.Spec PyProof.Rows
mutual
def iG:T->T->Bool
 | .non,.non=>true
 | .bl a,.bl b=>a==b
 | .int a,.int b=>a==b
 | .bl a,.int b=>(if a then 1 else 0)==b
 | .int a,.bl b=>a==(if b then 1 else 0)
 | .str a,.str b=>a==b
 | .tup xs,.tup ys=>rM xs ys
 | .lst xs,.lst ys=>rM xs ys
 | _,_=>false
def rM:List T->List T->Bool
 | [],[]=>true
 | x::xs,y::ys=>iG x y&&rM xs ys
 | _,_=>false
end
mutual
def dT:T->Nat
 | .tup xs=>Jw xs+1
 | .lst xs=>Jw xs+1
 | _=>0
def Jw:List T->Nat
 | []=>0
 | x::xs=>OV (dT x) (Jw xs)
end
mutual
theorem jB:∀x:T,iG x x=true
 | .non=>rfl
 | .bl a=>by simp [iG]
 | .int a=>by simp [iG]
 | .str a=>by simp [iG]
 | .tup xs=>by rw [iG];exact pT xs
 | .lst xs=>by rw [iG];exact pT xs
theorem pT:∀xs:List T,rM xs xs=true
 | []=>rfl
 | x::xs=>by rw [rM,jB x,pT xs];rfl
end
theorem i7:∀xs ys:List T,rM xs ys=((LA (min xs.length ys.length)).all (λj=>iG (xs.getD j .non) (ys.getD j .non))&&xs.length==ys.length)
 | [],[]=>rfl
 | [],_::_=>by simp [rM]
 | _::_,[]=>by simp [rM]
 | x::xs,y::ys=>by
  rw [rM,i7 xs ys];simp only [JE,Nat.succ_min_succ,NY,List.all_cons,List.all_map];simp [Function.comp_def,Bool.and_assoc]
theorem uE:∀{xs:List T} {x:T},x∈xs->dT x<=Jw xs
 | y::xs,x,h=>by
  rw [Jw];rcases IU.mp h with rfl | h
  ·exact PL _ _
  ·exact KS (uE h) (OW _ _)
mutual
def Rq (K:W.Frag) (H:Hp):T->V->Prop
 | .non,v=>v = .non
 | .bl b,v=>v = .bl b
 | .int i,v=>v = .int i
 | .str x,v=>v = .str x
 | .tup xs,v=>∃a vs,v = .ref a/\rR K H a vs/\zU K H xs vs
 | .lst xs,v=>∃a vs,v = .ref a/\j4 K H a vs/\zU K H xs vs
def zU (K:W.Frag) (H:Hp):List T->List V->Prop
 | [],vs=>vs=[]
 | x::xs,vs=>∃v r,vs=v::r/\Rq K H x v/\zU K H xs r
end
section
variable {K:W.Frag} {H:Hp} {O:QF->Prop}
mutual
theorem Rp.rq:∀{t:T} {v:V},Rp K H O t v->Rq K H t v
 | .non,_,h=>h
 | .bl _,_,h=>h
 | .int _,_,h=>h
 | .str _,_,h=>h
 | .tup xs,v,h=>by
  obtain ⟨a,vs,e,h1,h2⟩:=h;exact ⟨a,vs,e,h1.imp (λh=>.inl h.2) id,cN.rq h2⟩
 | .lst xs,v,h=>by
  obtain ⟨a,vs,e,h1,h2⟩:=h;exact ⟨a,vs,e,h1.imp And.right id,cN.rq h2⟩
theorem cN.rq:∀{xs:List T} {vs:List V},cN K H O xs vs->zU K H xs vs
 | [],_,h=>h
 | x::xs,vs,h=>by
  obtain ⟨v,r,e,h1,h2⟩:=h;exact ⟨v,r,e,Rp.rq h1,cN.rq h2⟩
end
theorem Rt.rq {t:T} {v:V} (h:Rt K H O t v):Rq K H t v:=by
 cases t with
 | tup xs=>obtain ⟨a,vs,e,h1,h2⟩:=h;exact ⟨a,vs,e,h1,h2.rq⟩
 | lst xs=>obtain ⟨a,vs,e,h1,h2⟩:=h;exact ⟨a,vs,e,h1,h2.rq⟩
 | non=>exact h
 | bl _=>exact h
 | int _=>exact h
 | str _=>exact h
theorem zU.length:∀{xs:List T} {vs:List V},zU K H xs vs->vs.length=xs.length
 | [],_,h=>by cases h;rfl
 | _::_,_,⟨v,r,e,_,h2⟩=>by rw [e,JE,JE,zU.length h2]
theorem zU.get:∀{xs:List T} {vs:List V} {i:Nat} {x:T},zU K H xs vs->xs[i]? = some x->∃v,vs[i]? = some v/\Rq K H x v
 | [],_,_,_,_,e=>by simp at e
 | _::_,_,0,_,⟨v,r,e,h1,_⟩,q=>by simp at q;subst q;subst e;exact ⟨v,rfl,h1⟩
 | _::_,_,i+1,x,⟨v,r,e,_,h2⟩,q=>by
  obtain ⟨w,q1,q2⟩:=zU.get (i:=i) (x:=x) h2 (by simpa using q);subst e;exact ⟨w,by simpa using q1,q2⟩
end
section
variable {X:Cx} {pins:List (QF×Obj)} {σ:St} {H:Hp} {s:Shared}
theorem aY.nolt (I:aY X pins σ H s) {a:QF} {vs ws:List V} (h1:j4 X.K H a vs) (h2:rR X.K H a ws):False:=by
 obtain ⟨_,_,p1,_⟩:=I.list h1;obtain ⟨_,_,p2,_⟩:=I.tuple h2;exact SeqAt.ne_of_list_tuple p1.isList p2 rfl
mutual
theorem Rq.inj (I:aY X pins σ H s):∀{x y:T} {v:V},Rq X.K H x v->Rq X.K H y v->x=y
 | .non,.non,_,_,_=>rfl
 | .bl a,.bl b,_,h,k=>by cases h;cases k;rfl
 | .int a,.int b,_,h,k=>by cases h;cases k;rfl
 | .str a,.str b,_,h,k=>by cases h;cases k;rfl
 | .tup xs,.tup ys,v,⟨a,vs,e,h1,h2⟩,⟨b,ws,f,k1,k2⟩=>by
  rw [e] at f;cases f;rw [I.tuple_inj h1 k1] at h2;rw [zU.inj I h2 k2]
 | .lst xs,.lst ys,v,⟨a,vs,e,h1,h2⟩,⟨b,ws,f,k1,k2⟩=>by
  rw [e] at f;cases f;rw [I.list_inj h1 k1] at h2;rw [zU.inj I h2 k2]
 | .tup xs,.lst ys,v,⟨a,vs,e,h1,h2⟩,⟨b,ws,f,k1,k2⟩=>by rw [e] at f;cases f;exact (I.nolt k1 h1).elim
 | .lst xs,.tup ys,v,⟨a,vs,e,h1,h2⟩,⟨b,ws,f,k1,k2⟩=>by rw [e] at f;cases f;exact (I.nolt h1 k1).elim
 | .non,.bl _,_,h,k=>by cases h;cases k
 | .non,.int _,_,h,k=>by cases h;cases k
 | .non,.str _,_,h,k=>by cases h;cases k
 | .non,.tup _,_,h,⟨_,_,k,_⟩=>by cases h;cases k
 | .non,.lst _,_,h,⟨_,_,k,_⟩=>by cases h;cases k
 | .bl _,.non,_,h,k=>by cases h;cases k
 | .bl _,.int _,_,h,k=>by cases h;cases k
 | .bl _,.str _,_,h,k=>by cases h;cases k
 | .bl _,.tup _,_,h,⟨_,_,k,_⟩=>by cases h;cases k
 | .bl _,.lst _,_,h,⟨_,_,k,_⟩=>by cases h;cases k
 | .int _,.non,_,h,k=>by cases h;cases k
 | .int _,.bl _,_,h,k=>by cases h;cases k
 | .int _,.str _,_,h,k=>by cases h;cases k
 | .int _,.tup _,_,h,⟨_,_,k,_⟩=>by cases h;cases k
 | .int _,.lst _,_,h,⟨_,_,k,_⟩=>by cases h;cases k
 | .str _,.non,_,h,k=>by cases h;cases k
 | .str _,.bl _,_,h,k=>by cases h;cases k
 | .str _,.int _,_,h,k=>by cases h;cases k
 | .str _,.tup _,_,h,⟨_,_,k,_⟩=>by cases h;cases k
 | .str _,.lst _,_,h,⟨_,_,k,_⟩=>by cases h;cases k
 | .tup _,.non,_,⟨_,_,h,_⟩,k=>by cases h;cases k
 | .tup _,.bl _,_,⟨_,_,h,_⟩,k=>by cases h;cases k
 | .tup _,.int _,_,⟨_,_,h,_⟩,k=>by cases h;cases k
 | .tup _,.str _,_,⟨_,_,h,_⟩,k=>by cases h;cases k
 | .lst _,.non,_,⟨_,_,h,_⟩,k=>by cases h;cases k
 | .lst _,.bl _,_,⟨_,_,h,_⟩,k=>by cases h;cases k
 | .lst _,.int _,_,⟨_,_,h,_⟩,k=>by cases h;cases k
 | .lst _,.str _,_,⟨_,_,h,_⟩,k=>by cases h;cases k
theorem zU.inj (I:aY X pins σ H s):∀{xs ys:List T} {vs:List V},zU X.K H xs vs->zU X.K H ys vs->xs=ys
 | [],[],_,_,_=>rfl
 | [],_::_,_,h,⟨_,_,k,_⟩=>by cases h;cases k
 | _::_,[],_,⟨_,_,h,_⟩,k=>by cases k;cases h
 | x::xs,y::ys,_,⟨v,r,e,h1,h2⟩,⟨w,r',f,k1,k2⟩=>by
  rw [e] at f;cases f;rw [Rq.inj I h1 k1,zU.inj I h2 k2]
end
theorem Dx {A:Around} {u v:Value} {k:Bool} (h:SeqAt.RcAt A s u v k) (hk:u=v->k=true) (hf:∀b t,u≠.float b t):SeqAt.EqAt A s u v k:=λprog w E Q hq=>by
 unfold eqBool;refine SF ?_;refine wpAny_ite_split (λpw=>?_) (λ_=>?_)
 ·rw [hk (eq_of_beq pw)] at hq;exact QH (RZ (QN hq))
 ·cases u with
  | float b t=>exact absurd rfl (hf b t)
  | _=>exact QH (h prog w E _ (RM hq))
theorem Xo {x y:V} {u:Value} (h:bP x u) (k:bP y u):x=y:=h.inj k
theorem pG (A:Around) {xs ys:List T} {vs ws:List V} {TC js:List Value} (rx:bG vs TC) (ry:bG ws js) (hx:zU X.K H xs vs) (hy:zU X.K H ys ws)
  (ih:∀(j:Nat) (x y:T) (v w:V) (u u':Value),xs[j]? = some x->ys[j]? = some y->Rq X.K H x v->Rq X.K H y w->bP v u->bP w u'->SeqAt.EqAt A s u u' (iG x y)) :
  ∀j (h1:j<TC.toArray.size) (h2:j<js.toArray.size),SeqAt.EqAt A s TC.toArray[j] js.toArray[j] (iG (xs.getD j .non) (ys.getD j .non)):=λj h1 h2=>by
 have l1:=rx.length;have l2:=ry.length;have l3:=hx.length;have l4:=hy.length;have oi:j<TC.length:=by simpa using h1
 have dk:j<js.length:=by simpa using h2
 have e1:xs[j]? = some xs[j]:=IQ (by omega);have e2:ys[j]? = some ys[j]:=IQ (by omega);obtain ⟨v,q1,q2⟩:=hx.get e1;obtain ⟨w,q3,q4⟩:=hy.get e2;obtain ⟨u1,z1,r1⟩:=rx.get q1;obtain ⟨v1,z2,r2⟩:=ry.get q3;have y1:TC.toArray[j]=u1:=by
  rw [IQ oi] at z1
  simpa using Option.some.inj z1
 have y2:js.toArray[j]=v1:=by
  rw [IQ dk] at z2
  simpa using Option.some.inj z2
 rw [y1,y2];have g1:xs.getD j .non=xs[j]:=by simp [List.getD,e1]
 have g2:ys.getD j .non=ys[j]:=by simp [List.getD,e2]
 rw [g1,g2];exact ih j _ _ v w u1 v1 e1 e2 q2 q4 r1 r2
theorem Cn (I:aY X pins σ H s) {A:Around} (hu:A.units<SO):∀{x y:T} {v w:V} {u u':Value},(∀xs ys,¬(x = .tup xs/\y = .tup ys))->(∀xs ys,¬(x = .lst xs/\y = .lst ys))->Rq X.K H x v->Rq X.K H y w->bP v u->bP w u'->SeqAt.RcAt A s u u' ((iG x y)):=by
 intro x y v w u u' nt nl hx hy rx ry;cases x with
 | non=>
  cases y with
  | non=>
   cases hx;cases rx;cases hy;cases ry;exact SeqAt.RcAt.none_none
  | bl ay=>
   cases hx;cases rx;cases hy;cases ry;exact SeqAt.RcAt.none_bool _
  | int ay=>
   cases hx;cases rx;cases hy;obtain ⟨TV,rfl⟩:=ry;exact SeqAt.RcAt.none_int _ TV
  | str ay=>
   cases hx;cases rx;cases hy;obtain ⟨TV,rfl⟩:=ry;exact SeqAt.RcAt.none_str _ TV
  | tup ay=>
   cases hx;cases rx;obtain ⟨VI,UQ,UC,UD,_⟩:=hy;subst UC;cases ry;obtain ⟨UE,_,UG,_⟩:=I.tuple UD;exact SeqAt.RcAt.none_tuple UG hu
  | lst ay=>
   cases hx;cases rx;obtain ⟨VI,UQ,UC,UD,_⟩:=hy;subst UC;cases ry;obtain ⟨UE,_,UG,_⟩:=I.list UD;exact SeqAt.RcAt.none_list UG.isList hu
 | bl ax=>
  cases y with
  | non=>
   cases hx;cases rx;cases hy;cases ry;exact SeqAt.RcAt.bool_none _
  | bl ay=>
   cases hx;cases rx;cases hy;cases ry;exact SeqAt.RcAt.bool_bool _ _
  | int ay=>
   cases hx;cases rx;cases hy;obtain ⟨TV,rfl⟩:=ry;exact SeqAt.RcAt.bool_int _ _ TV
  | str ay=>
   cases hx;cases rx;cases hy;obtain ⟨TV,rfl⟩:=ry;exact SeqAt.RcAt.bool_str _ _ TV
  | tup ay=>
   cases hx;cases rx;obtain ⟨VI,UQ,UC,UD,_⟩:=hy;subst UC;cases ry;obtain ⟨UE,_,UG,_⟩:=I.tuple UD;exact SeqAt.RcAt.bool_tuple _ UG hu
  | lst ay=>
   cases hx;cases rx;obtain ⟨VI,UQ,UC,UD,_⟩:=hy;subst UC;cases ry;obtain ⟨UE,_,UG,_⟩:=I.list UD;exact SeqAt.RcAt.bool_list _ UG.isList hu
 | int ax=>
  cases y with
  | non=>
   cases hx;obtain ⟨TY,rfl⟩:=rx;cases hy;cases ry;exact SeqAt.RcAt.int_none _ TY
  | bl ay=>
   cases hx;obtain ⟨TY,rfl⟩:=rx;cases hy;cases ry;exact SeqAt.RcAt.int_bool _ TY _
  | int ay=>
   cases hx;obtain ⟨TY,rfl⟩:=rx;cases hy;obtain ⟨TV,rfl⟩:=ry;exact SeqAt.RcAt.int_int _ TY _ TV
  | str ay=>
   cases hx;obtain ⟨TY,rfl⟩:=rx;cases hy;obtain ⟨TV,rfl⟩:=ry;exact SeqAt.RcAt.int_str _ TY _ TV
  | tup ay=>
   cases hx;obtain ⟨TY,rfl⟩:=rx;obtain ⟨VI,UQ,UC,UD,_⟩:=hy;subst UC;cases ry;obtain ⟨UE,_,UG,_⟩:=I.tuple UD;exact SeqAt.RcAt.int_tuple _ TY UG hu
  | lst ay=>
   cases hx;obtain ⟨TY,rfl⟩:=rx;obtain ⟨VI,UQ,UC,UD,_⟩:=hy;subst UC;cases ry;obtain ⟨UE,_,UG,_⟩:=I.list UD;exact SeqAt.RcAt.int_list _ TY UG.isList hu
 | str ax=>
  cases y with
  | non=>
   cases hx;obtain ⟨TY,rfl⟩:=rx;cases hy;cases ry;exact SeqAt.RcAt.str_none _ TY
  | bl ay=>
   cases hx;obtain ⟨TY,rfl⟩:=rx;cases hy;cases ry;exact SeqAt.RcAt.str_bool _ TY _
  | int ay=>
   cases hx;obtain ⟨TY,rfl⟩:=rx;cases hy;obtain ⟨TV,rfl⟩:=ry;exact SeqAt.RcAt.str_int _ TY _ TV
  | str ay=>
   cases hx;obtain ⟨TY,rfl⟩:=rx;cases hy;obtain ⟨TV,rfl⟩:=ry;exact SeqAt.RcAt.str_str _ TY _ TV
  | tup ay=>
   cases hx;obtain ⟨TY,rfl⟩:=rx;obtain ⟨VI,UQ,UC,UD,_⟩:=hy;subst UC;cases ry;obtain ⟨UE,_,UG,_⟩:=I.tuple UD;exact SeqAt.RcAt.str_tuple _ TY UG hu
  | lst ay=>
   cases hx;obtain ⟨TY,rfl⟩:=rx;obtain ⟨VI,UQ,UC,UD,_⟩:=hy;subst UC;cases ry;obtain ⟨UE,_,UG,_⟩:=I.list UD;exact SeqAt.RcAt.str_list _ TY UG.isList hu
 | tup ax=>
  cases y with
  | non=>
   obtain ⟨VJ,UR,UH,UI,_⟩:=hx;subst UH;cases rx;obtain ⟨UJ,_,UK,_⟩:=I.tuple UI;cases hy;cases ry;exact SeqAt.RcAt.tuple_none UK hu
  | bl ay=>
   obtain ⟨VJ,UR,UH,UI,_⟩:=hx;subst UH;cases rx;obtain ⟨UJ,_,UK,_⟩:=I.tuple UI;cases hy;cases ry;exact SeqAt.RcAt.tuple_bool _ UK hu
  | int ay=>
   obtain ⟨VJ,UR,UH,UI,_⟩:=hx;subst UH;cases rx;obtain ⟨UJ,_,UK,_⟩:=I.tuple UI;cases hy;obtain ⟨TV,rfl⟩:=ry;exact SeqAt.RcAt.tuple_int _ TV UK hu
  | str ay=>
   obtain ⟨VJ,UR,UH,UI,_⟩:=hx;subst UH;cases rx;obtain ⟨UJ,_,UK,_⟩:=I.tuple UI;cases hy;obtain ⟨TV,rfl⟩:=ry;exact SeqAt.RcAt.tuple_str _ TV UK hu
  | tup ay=>
   exact absurd ⟨rfl,rfl⟩ (nt ax ay)
  | lst ay=>
   obtain ⟨VJ,UR,UH,UI,_⟩:=hx;subst UH;cases rx;obtain ⟨UJ,_,UK,_⟩:=I.tuple UI;obtain ⟨VI,UQ,UC,UD,_⟩:=hy;subst UC;cases ry;obtain ⟨UE,_,UG,_⟩:=I.list UD;exact SeqAt.RcAt.tuple_list UK UG.isList hu
 | lst ax=>
  cases y with
  | non=>
   obtain ⟨VJ,UR,UH,UI,_⟩:=hx;subst UH;cases rx;obtain ⟨UJ,_,UK,_⟩:=I.list UI;cases hy;cases ry;exact SeqAt.RcAt.list_none UK.isList hu
  | bl ay=>
   obtain ⟨VJ,UR,UH,UI,_⟩:=hx;subst UH;cases rx;obtain ⟨UJ,_,UK,_⟩:=I.list UI;cases hy;cases ry;exact SeqAt.RcAt.list_bool _ UK.isList hu
  | int ay=>
   obtain ⟨VJ,UR,UH,UI,_⟩:=hx;subst UH;cases rx;obtain ⟨UJ,_,UK,_⟩:=I.list UI;cases hy;obtain ⟨TV,rfl⟩:=ry;exact SeqAt.RcAt.list_int _ TV UK.isList hu
  | str ay=>
   obtain ⟨VJ,UR,UH,UI,_⟩:=hx;subst UH;cases rx;obtain ⟨UJ,_,UK,_⟩:=I.list UI;cases hy;obtain ⟨TV,rfl⟩:=ry;exact SeqAt.RcAt.list_str _ TV UK.isList hu
  | tup ay=>
   obtain ⟨VJ,UR,UH,UI,_⟩:=hx;subst UH;cases rx;obtain ⟨UJ,_,UK,_⟩:=I.list UI;obtain ⟨VI,UQ,UC,UD,_⟩:=hy;subst UC;cases ry;obtain ⟨UE,_,UG,_⟩:=I.tuple UD;exact SeqAt.RcAt.list_tuple UK.isList UG hu
  | lst ay=>
   exact absurd ⟨rfl,rfl⟩ (nl ax ay)
theorem Mn (I:aY X pins σ H s) {A:Around} (hu:A.units<SO):∀{x y:T} {v w:V} {u u':Value},(∀xs ys,¬(x = .tup xs/\y = .tup ys))->(∀xs ys,¬(x = .lst xs/\y = .lst ys))->Rq X.K H x v->Rq X.K H y w->bP v u->bP w u'->SeqAt.RcNeAt A s u u' (!(iG x y)):=by
 intro x y v w u u' nt nl hx hy rx ry;cases x with
 | non=>
  cases y with
  | non=>
   cases hx;cases rx;cases hy;cases ry;exact SeqAt.RcNeAt.none_none
  | bl ay=>
   cases hx;cases rx;cases hy;cases ry;exact SeqAt.RcNeAt.none_bool _
  | int ay=>
   cases hx;cases rx;cases hy;obtain ⟨TV,rfl⟩:=ry;exact SeqAt.RcNeAt.none_int _ TV
  | str ay=>
   cases hx;cases rx;cases hy;obtain ⟨TV,rfl⟩:=ry;exact SeqAt.RcNeAt.none_str _ TV
  | tup ay=>
   cases hx;cases rx;obtain ⟨VI,UQ,UC,UD,_⟩:=hy;subst UC;cases ry;obtain ⟨UE,_,UG,_⟩:=I.tuple UD;exact SeqAt.RcNeAt.none_tuple UG hu
  | lst ay=>
   cases hx;cases rx;obtain ⟨VI,UQ,UC,UD,_⟩:=hy;subst UC;cases ry;obtain ⟨UE,_,UG,_⟩:=I.list UD;exact SeqAt.RcNeAt.none_list UG.isList hu
 | bl ax=>
  cases y with
  | non=>
   cases hx;cases rx;cases hy;cases ry;exact SeqAt.RcNeAt.bool_none _
  | bl ay=>
   cases hx;cases rx;cases hy;cases ry;exact SeqAt.RcNeAt.bool_bool _ _
  | int ay=>
   cases hx;cases rx;cases hy;obtain ⟨TV,rfl⟩:=ry;exact SeqAt.RcNeAt.bool_int _ _ TV
  | str ay=>
   cases hx;cases rx;cases hy;obtain ⟨TV,rfl⟩:=ry;exact SeqAt.RcNeAt.bool_str _ _ TV
  | tup ay=>
   cases hx;cases rx;obtain ⟨VI,UQ,UC,UD,_⟩:=hy;subst UC;cases ry;obtain ⟨UE,_,UG,_⟩:=I.tuple UD;exact SeqAt.RcNeAt.bool_tuple _ UG hu
  | lst ay=>
   cases hx;cases rx;obtain ⟨VI,UQ,UC,UD,_⟩:=hy;subst UC;cases ry;obtain ⟨UE,_,UG,_⟩:=I.list UD;exact SeqAt.RcNeAt.bool_list _ UG.isList hu
 | int ax=>
  cases y with
  | non=>
   cases hx;obtain ⟨TY,rfl⟩:=rx;cases hy;cases ry;exact SeqAt.RcNeAt.int_none _ TY
  | bl ay=>
   cases hx;obtain ⟨TY,rfl⟩:=rx;cases hy;cases ry;exact SeqAt.RcNeAt.int_bool _ TY _
  | int ay=>
   cases hx;obtain ⟨TY,rfl⟩:=rx;cases hy;obtain ⟨TV,rfl⟩:=ry;exact SeqAt.RcNeAt.int_int _ TY _ TV
  | str ay=>
   cases hx;obtain ⟨TY,rfl⟩:=rx;cases hy;obtain ⟨TV,rfl⟩:=ry;exact SeqAt.RcNeAt.int_str _ TY _ TV
  | tup ay=>
   cases hx;obtain ⟨TY,rfl⟩:=rx;obtain ⟨VI,UQ,UC,UD,_⟩:=hy;subst UC;cases ry;obtain ⟨UE,_,UG,_⟩:=I.tuple UD;exact SeqAt.RcNeAt.int_tuple _ TY UG hu
  | lst ay=>
   cases hx;obtain ⟨TY,rfl⟩:=rx;obtain ⟨VI,UQ,UC,UD,_⟩:=hy;subst UC;cases ry;obtain ⟨UE,_,UG,_⟩:=I.list UD;exact SeqAt.RcNeAt.int_list _ TY UG.isList hu
 | str ax=>
  cases y with
  | non=>
   cases hx;obtain ⟨TY,rfl⟩:=rx;cases hy;cases ry;exact SeqAt.RcNeAt.str_none _ TY
  | bl ay=>
   cases hx;obtain ⟨TY,rfl⟩:=rx;cases hy;cases ry;exact SeqAt.RcNeAt.str_bool _ TY _
  | int ay=>
   cases hx;obtain ⟨TY,rfl⟩:=rx;cases hy;obtain ⟨TV,rfl⟩:=ry;exact SeqAt.RcNeAt.str_int _ TY _ TV
  | str ay=>
   cases hx;obtain ⟨TY,rfl⟩:=rx;cases hy;obtain ⟨TV,rfl⟩:=ry;exact SeqAt.RcNeAt.str_str _ TY _ TV
  | tup ay=>
   cases hx;obtain ⟨TY,rfl⟩:=rx;obtain ⟨VI,UQ,UC,UD,_⟩:=hy;subst UC;cases ry;obtain ⟨UE,_,UG,_⟩:=I.tuple UD;exact SeqAt.RcNeAt.str_tuple _ TY UG hu
  | lst ay=>
   cases hx;obtain ⟨TY,rfl⟩:=rx;obtain ⟨VI,UQ,UC,UD,_⟩:=hy;subst UC;cases ry;obtain ⟨UE,_,UG,_⟩:=I.list UD;exact SeqAt.RcNeAt.str_list _ TY UG.isList hu
 | tup ax=>
  cases y with
  | non=>
   obtain ⟨VJ,UR,UH,UI,_⟩:=hx;subst UH;cases rx;obtain ⟨UJ,_,UK,_⟩:=I.tuple UI;cases hy;cases ry;exact SeqAt.RcNeAt.tuple_none UK hu
  | bl ay=>
   obtain ⟨VJ,UR,UH,UI,_⟩:=hx;subst UH;cases rx;obtain ⟨UJ,_,UK,_⟩:=I.tuple UI;cases hy;cases ry;exact SeqAt.RcNeAt.tuple_bool _ UK hu
  | int ay=>
   obtain ⟨VJ,UR,UH,UI,_⟩:=hx;subst UH;cases rx;obtain ⟨UJ,_,UK,_⟩:=I.tuple UI;cases hy;obtain ⟨TV,rfl⟩:=ry;exact SeqAt.RcNeAt.tuple_int _ TV UK hu
  | str ay=>
   obtain ⟨VJ,UR,UH,UI,_⟩:=hx;subst UH;cases rx;obtain ⟨UJ,_,UK,_⟩:=I.tuple UI;cases hy;obtain ⟨TV,rfl⟩:=ry;exact SeqAt.RcNeAt.tuple_str _ TV UK hu
  | tup ay=>
   exact absurd ⟨rfl,rfl⟩ (nt ax ay)
  | lst ay=>
   obtain ⟨VJ,UR,UH,UI,_⟩:=hx;subst UH;cases rx;obtain ⟨UJ,_,UK,_⟩:=I.tuple UI;obtain ⟨VI,UQ,UC,UD,_⟩:=hy;subst UC;cases ry;obtain ⟨UE,_,UG,_⟩:=I.list UD;exact SeqAt.RcNeAt.tuple_list UK UG.isList hu
 | lst ax=>
  cases y with
  | non=>
   obtain ⟨VJ,UR,UH,UI,_⟩:=hx;subst UH;cases rx;obtain ⟨UJ,_,UK,_⟩:=I.list UI;cases hy;cases ry;exact SeqAt.RcNeAt.list_none UK.isList hu
  | bl ay=>
   obtain ⟨VJ,UR,UH,UI,_⟩:=hx;subst UH;cases rx;obtain ⟨UJ,_,UK,_⟩:=I.list UI;cases hy;cases ry;exact SeqAt.RcNeAt.list_bool _ UK.isList hu
  | int ay=>
   obtain ⟨VJ,UR,UH,UI,_⟩:=hx;subst UH;cases rx;obtain ⟨UJ,_,UK,_⟩:=I.list UI;cases hy;obtain ⟨TV,rfl⟩:=ry;exact SeqAt.RcNeAt.list_int _ TV UK.isList hu
  | str ay=>
   obtain ⟨VJ,UR,UH,UI,_⟩:=hx;subst UH;cases rx;obtain ⟨UJ,_,UK,_⟩:=I.list UI;cases hy;obtain ⟨TV,rfl⟩:=ry;exact SeqAt.RcNeAt.list_str _ TV UK.isList hu
  | tup ay=>
   obtain ⟨VJ,UR,UH,UI,_⟩:=hx;subst UH;cases rx;obtain ⟨UJ,_,UK,_⟩:=I.list UI;obtain ⟨VI,UQ,UC,UD,_⟩:=hy;subst UC;cases ry;obtain ⟨UE,_,UG,_⟩:=I.tuple UD;exact SeqAt.RcNeAt.list_tuple UK.isList UG hu
  | lst ay=>
   exact absurd ⟨rfl,rfl⟩ (nl ax ay)
theorem Qh {K:W.Frag} {x:T} {v:V} {u:Value} (h:Rq K H x v) (r:bP v u):∀b t,u≠.float b t:=λb t e=>by
 subst e;cases x with
 | tup _=>obtain ⟨_,_,e,_⟩:=h;subst e;cases r
 | lst _=>obtain ⟨_,_,e,_⟩:=h;subst e;cases r
 | non=>cases h;cases r
 | bl _=>cases h;cases r
 | int _=>cases h;obtain ⟨_,r⟩:=r;cases r
 | str _=>cases h;obtain ⟨_,r⟩:=r;cases r
theorem Dr (I:aY X pins σ H s):∀(n:Nat) (A:Around) (x y:T) (v w:V) (u u':Value),dT x<=n->Rq X.K H x v->Rq X.K H y w->bP v u->bP w u'->A.units+n<SO->SeqAt.RcAt A s u u' (iG x y)/\SeqAt.EqAt A s u u' (iG x y):=by
 have fin:∀{A:Around} {x y:T} {v w:V} {u u':Value},Rq X.K H x v->Rq X.K H y w->bP v u->bP w u'->SeqAt.RcAt A s u u' (iG x y)->SeqAt.RcAt A s u u' (iG x y)/\SeqAt.EqAt A s u u' (iG x y):=λ{A x y v w u u'} hx hy rx ry h=>⟨h,Dx h (λe=>by
   subst e;rw [Rq.inj I hx (by rw [Xo rx ry];exact hy)];exact jB y) (Qh hx rx)⟩
 intro n
 induction n with
 | zero=>
  intro A x y v w u u' hd hx hy rx ry hu;refine fin hx hy rx ry (Cn I (by omega) (λxs ys z=>?_) (λxs ys z=>?_) hx hy rx ry)
  ·rw [z.1] at hd;simp [dT] at hd
  ·rw [z.1] at hd;simp [dT] at hd
 | succ n ih=>
  intro A x y v w u u' hd hx hy rx ry hu;refine fin hx hy rx ry ?_
  by_cases c1:∃xs ys,x = .tup xs/\y = .tup ys
  ·obtain ⟨xs,ys,rfl,rfl⟩:=c1;obtain ⟨a,vs,rfl,q1,h1⟩:=hx;obtain ⟨b,ws,rfl,q2,h2⟩:=hy;cases rx;cases ry;obtain ⟨TC,r1,p1,_⟩:=I.tuple q1;obtain ⟨js,r2,p2,_⟩:=I.tuple q2;have:=SeqAt.RcAt.tuples p1 p2 (A:=A) (by omega) (pG A.in1 r1 r2 h1 h2 λj x y v w u u' e1 e2 k1 k2 k3 k4=>(ih A.in1 x y v w u u' (by
    have:=uE (JA e1);simp only [dT] at hd;omega) k1 k2 k3 k4 (by show A.units+1+n<SO;omega)).2)
   rw [iG,i7];have l1:=r1.length;have l2:=r2.length;have l3:=h1.length;have l4:=h2.length;have s1:TC.toArray.size=xs.length:=by simp;omega
   have s2:js.toArray.size=ys.length:=by simp;omega
   rw [s1,s2] at this;exact this
  ·by_cases c2:∃xs ys,x = .lst xs/\y = .lst ys
   ·obtain ⟨xs,ys,rfl,rfl⟩:=c2;obtain ⟨a,vs,rfl,q1,h1⟩:=hx;obtain ⟨b,ws,rfl,q2,h2⟩:=hy;cases rx;cases ry;obtain ⟨TC,r1,p1,_⟩:=I.list q1;obtain ⟨js,r2,p2,_⟩:=I.list q2;have l1:=r1.length;have l2:=r2.length;have l3:=h1.length;have l4:=h2.length;have s1:TC.toArray.size=xs.length:=by simp;omega
    have s2:js.toArray.size=ys.length:=by simp;omega
    rw [iG,i7]
    by_cases hl:xs.length=ys.length
    ·have:=SeqAt.RcAt.lists p1.isList p2.isList (A:=A) (by rw [s1,s2];exact hl) (by omega) (pG A.in1 r1 r2 h1 h2 λj x y v w u u' e1 e2 k1 k2 k3 k4=>(ih A.in1 x y v w u u' (by
      have:=uE (JA e1);simp only [dT] at hd;omega) k1 k2 k3 k4 (by show A.units+1+n<SO;omega)).2)
     rw [s1] at this;rw [<-hl,Nat.min_self,beq_self_eq_true,Bool.and_true];exact this
    ·have:=SeqAt.RcAt.lists_lengths p1.isList p2.isList (A:=A) (by rw [s1,s2];simpa using hl) (by omega);rw [show (xs.length==ys.length)=false by simpa using hl,PX];exact this
   ·exact Cn I (by omega) (λxs ys z=>c1 ⟨xs,ys,z⟩) (λxs ys z=>c2 ⟨xs,ys,z⟩) hx hy rx ry
theorem Wr (I:aY X pins σ H s) {A:Around} {x y:T} {v w:V} {u u':Value} (n:Nat) (hd:dT x<=n) (hx:Rq X.K H x v) (hy:Rq X.K H y w) (rx:bP v u) (ry:bP w u') (hu:A.units+n<SO):SeqAt.RcNeAt A s u u' (!(iG x y)):=by
 by_cases c1:∃xs ys,x = .tup xs/\y = .tup ys
 ·obtain ⟨xs,ys,rfl,rfl⟩:=c1;obtain ⟨a,vs,rfl,q1,h1⟩:=hx;obtain ⟨b,ws,rfl,q2,h2⟩:=hy;cases rx;cases ry;obtain ⟨TC,r1,p1,_⟩:=I.tuple q1;obtain ⟨js,r2,p2,_⟩:=I.tuple q2;have:=SeqAt.RcNeAt.tuples p1 p2 (A:=A) (by omega) (pG A.in1 r1 r2 h1 h2 λj x y v w u u' e1 e2 k1 k2 k3 k4=>(Dr I (n-1) A.in1 x y v w u u' (by
   have:=uE (JA e1);simp only [dT] at hd;omega) k1 k2 k3 k4 (by show A.units+1+(n-1)<SO;simp only [dT] at hd;omega)).2)
  rw [iG,i7];have l1:=r1.length;have l2:=r2.length;have l3:=h1.length;have l4:=h2.length;have s1:TC.toArray.size=xs.length:=by simp;omega
  have s2:js.toArray.size=ys.length:=by simp;omega
  rw [s1,s2] at this;exact this
 ·by_cases c2:∃xs ys,x = .lst xs/\y = .lst ys
  ·obtain ⟨xs,ys,rfl,rfl⟩:=c2;obtain ⟨a,vs,rfl,q1,h1⟩:=hx;obtain ⟨b,ws,rfl,q2,h2⟩:=hy;cases rx;cases ry;obtain ⟨TC,r1,p1,_⟩:=I.list q1;obtain ⟨js,r2,p2,_⟩:=I.list q2;have l1:=r1.length;have l2:=r2.length;have l3:=h1.length;have l4:=h2.length;have s1:TC.toArray.size=xs.length:=by simp;omega
   have s2:js.toArray.size=ys.length:=by simp;omega
   rw [iG,i7]
   by_cases hl:xs.length=ys.length
   ·have:=SeqAt.RcNeAt.lists p1.isList p2.isList (A:=A) (by rw [s1,s2];exact hl) (by omega) (pG A.in1 r1 r2 h1 h2 λj x y v w u u' e1 e2 k1 k2 k3 k4=>(Dr I (n-1) A.in1 x y v w u u' (by
     have:=uE (JA e1);simp only [dT] at hd;omega) k1 k2 k3 k4 (by show A.units+1+(n-1)<SO;simp only [dT] at hd;omega)).2)
    rw [s1] at this;rw [<-hl,Nat.min_self,beq_self_eq_true,Bool.and_true];exact this
   ·have:=SeqAt.RcNeAt.lists_lengths p1.isList p2.isList (A:=A) (by rw [s1,s2];simpa using hl) (by omega);rw [show (xs.length==ys.length)=false by simpa using hl,PX];exact this
  ·exact Mn I (by omega) (λxs ys z=>c1 ⟨xs,ys,z⟩) (λxs ys z=>c2 ⟨xs,ys,z⟩) hx hy rx ry
end
section
variable {X:Cx} {K:W.Frag} {pos:Pos} {a b c e o:Expr} {es:List Expr} {Fa Fb Fo:FE} {Fr:FA}
def BG (K:W.Frag) (ng:Bool):R2:=λx y H Q=>∃t u,Rq K H t x/\Rq K H u y/\dT t<=60/\Q (.bl (if ng then !(iG t u) else iG t u)) H
theorem R7 {k:Nat} (hr:fD k X.A):mU X (RG .Eq) (BG X.K false):=by
 intro pins s σ H x y v u Q I rx ry h;obtain ⟨t,w,h1,h2,hd,q⟩:=h;exact (Dr I 60 X.A t w x y v u hd h1 h2 rx ry (by have:=hr.units;omega)).1 X.prog X.w X.xe _ (tR I q rfl)
theorem K4 {k:Nat} (hr:fD k X.A):mU X (RG .NotEq) (BG X.K true):=by
 intro pins s σ H x y v u Q I rx ry h;obtain ⟨t,w,h1,h2,hd,q⟩:=h;exact Wr I 60 hd h1 h2 rx ry (by have:=hr.units;omega) X.prog X.w X.xe _ (tR I q rfl)
def t2 (x y:Option T) (k:T->T->Prop):Prop:=match x,y with
 | some t,some u=>k t u
 | _,_=>False
theorem t2.ex {x y:Option T} {k:T->T->Prop} (h:t2 x y k):∃t u,x=some t/\y=some u/\k t u:=by
 unfold t2 at h;split at h
 ·exact ⟨_,_,rfl,rfl,h⟩
 ·exact h.elim
def HY (Fa Fb:FE):FE:=λE Q=>Fa E λx E1=>Fb E1 λy E2=>t2 (vl E2 x) (vl E2 y) λt u=>dT t<=60/\Q (.p (.bl (iG t u))) E2
def IB (Fa Fb:FE):FE:=λE Q=>Fa E λx E1=>Fb E1 λy E2=>t2 (vl E2 x) (vl E2 y) λt u=>dT t<=60/\Q (.p (.bl (!(iG t u)))) E2
end
end L2
namespace L2
open PySem PySem.Spec PyProof.Rows
section
variable {X:Cx} {K:W.Frag} {pos:Pos} {a b c e o:Expr} {es:List Expr} {Fa Fb Fc Fo:FE} {Fr:FA}
theorem x6 {op:CmpOp} {r:R2} {F:FE} (ho:mU X (RG op) r) (ha:QE X a (aQ K Fa)) (hb:QE X b (aQ K Fb)) (hm:RA op b=false) (k:∀σ H Q,aQ K F σ H Q->Ra r (aQ K Fa) (aQ K Fb) σ H Q):QT X (.Compare a [op] [b] pos) (eU K (yS F)):=
 (xF ho ha hb hm).le λσ H Q z=>k _ _ _ (Xj z)
theorem fH {op:CmpOp} {g:Int->Int->Bool} (ho:mU X (RG op) (Td λi j=>.bl (g i j))) (ha:QE X a (aQ K Fa)) (hb:QE X b (aQ K Fb)) (hm:RA op b=false):QT X (.Compare a [op] [b] pos) (eU K (yS (GS g Fa Fb))):=
 x6 ho ha hb hm λσ H Q h=>two (Fa:=Fa) (Fb:=Fb) h λB S E x y v w H2 Q' hS re rx ry q lk=>by
  obtain ⟨i,j,e1,e2,q⟩:=i2.ex q;exact ⟨i,j,re.int rx e1,re.int ry e2,lk _ _ _ _ _ q .refl re rfl⟩
theorem vY {k:Nat} (eK:X.K=K) (hr:fD k X.A) (ha:QE X a (aQ K Fa)) (hb:QE X b (aQ K Fb)) (hm:RA .Eq b=false):QT X (.Compare a [.Eq] [b] pos) (eU K (yS (HY Fa Fb))):=by
 subst eK;refine x6 (R7 hr) ha hb hm λσ H Q h=>two (Fa:=Fa) (Fb:=Fb) h λB S E x y v w H2 Q' hS re rx ry q lk=>?_;obtain ⟨t,u,e1,e2,hd,q⟩:=t2.ex q;exact ⟨t,u,(re.vl rx e1).rq,(re.vl ry e2).rq,hd,lk _ _ _ _ _ q .refl re rfl⟩
theorem rB {k:Nat} (eK:X.K=K) (hr:fD k X.A) (ha:QE X a (aQ K Fa)) (hb:QE X b (aQ K Fb)) (hm:RA .NotEq b=false):QT X (.Compare a [.NotEq] [b] pos) (eU K (yS (IB Fa Fb))):=by
 subst eK;refine x6 (K4 hr) ha hb hm λσ H Q h=>two (Fa:=Fa) (Fb:=Fb) h λB S E x y v w H2 Q' hS re rx ry q lk=>?_;obtain ⟨t,u,e1,e2,hd,q⟩:=t2.ex q;exact ⟨t,u,(re.vl rx e1).rq,(re.vl ry e2).rq,hd,lk _ _ _ _ _ q .refl re rfl⟩
def Tg:T->Bool
 | .non=>true
 | _=>false
theorem C5 {H:Hp} {t:T} {v:V} (h:Rq K H t v):decide (v = .non)=Tg t:=by
 cases t with
 | non=>cases h;rfl
 | bl _=>cases h;rfl
 | int _=>cases h;rfl
 | str _=>cases h;rfl
 | tup _=>obtain ⟨_,_,e,_⟩:=h;subst e;rfl
 | lst _=>obtain ⟨_,_,e,_⟩:=h;subst e;rfl
def Vl (ng:Bool) (Fa:FE):FE:=λE Q=>Fa E λx E1=>o1 (vl E1 x) λt=>Q (.p (.bl (if ng then !(Tg t) else Tg t))) E1
theorem Wl {σ:St} {H:Hp} {Q:VK} (h:aQ K (Vl false Fa) σ H Q):Ra (λx y H Q=>y = .non/\Q (.bl (decide (x = .non))) H) (aQ K Fa) (tC .non) σ H Q:=
 one (Fa:=Fa) h λB S E x v H2 Q' hS re rx q lk=>by
  obtain ⟨t,e1,q⟩:=o1.ex q;exact ⟨rfl,by rw [C5 (re.vl rx e1).rq];exact lk _ _ _ _ _ q .refl re rfl⟩
theorem Rr {σ:St} {H:Hp} {Q:VK} (h:aQ K (Vl true Fa) σ H Q):Ra (λx y H Q=>y = .non/\Q (.bl (!decide (x = .non))) H) (aQ K Fa) (tC .non) σ H Q:=
 one (Fa:=Fa) h λB S E x v H2 Q' hS re rx q lk=>by
  obtain ⟨t,e1,q⟩:=o1.ex q;exact ⟨rfl,by rw [C5 (re.vl rx e1).rq];exact lk _ _ _ _ _ q .refl re rfl⟩
theorem Sl {j p2} (ha:QE X a (aQ K Fa)) (hm:RA .Is (.Constant .none j p2)=false):QT X (.Compare a [.Is] [.Constant .none j p2] pos) (eU K (yS (Vl false Fa))):=(xF P9 ha Ei hm).le λ_ _ _ h=>Wl (Xj h)
theorem Xw {j p2} (ha:QE X a (aQ K Fa)) (hm:RA .IsNot (.Constant .none j p2)=false):QT X (.Compare a [.IsNot] [.Constant .none j p2] pos) (eU K (yS (Vl true Fa))):=(xF Yd ha Ei hm).le λ_ _ _ h=>Rr (Xj h)
def IM:T->Bool
 | .lst _=>true
 | _=>false
def IL:T->Bool
 | .bl _=>true
 | _=>false
def i6 (xs:List T) (lo hi:Option Int):List T:=(xs.drop (HT.sIx xs.length 0 lo)).take (HT.sIx xs.length xs.length hi-HT.sIx xs.length 0 lo)
theorem Qz {H:Hp} {O:QF->Prop} {xs:List T} {vs:List V} {lo hi:Option Int} (h:cN K H O xs vs):cN K H O (i6 xs lo hi) (Cz vs lo hi):=by
 unfold i6 Cz;rw [h.length];exact (h.drop _).take _
abbrev FO:=En->(Option Int->En->Prop)->Prop
def rH (K:W.Frag) (F:FO):TO:=λσ H Q=>∃B S E Q',(∃τ,S=σ++τ)/\RE K B H S E/\F E Q'/\∀b E' H' S',Q' b E'->Gr B H S E H' S' E'->RE K B H' S' E'->Q b H'
theorem QO.le {e:Option Expr} {t t':TO} (h:QO X e t) (m:∀σ H Q,t' σ H Q->t σ H Q):QO X e t':=⟨λpins s σ H Q I z=>h.h pins s σ H Q I (m σ H Q z)⟩
def X1:FO:=λE Q=>Q none E
def CB (Fa:FE):FO:=λE Q=>Fa E λx E1=>i1 (vl E1 x) λi=>Q (some i) E1
theorem iU:QO X none (rH K X1):=Yw.le λσ H Q ⟨B,S,E,Q',hS,re,hF,lk⟩=>lk _ _ _ _ hF .refl re
theorem e7 (h:QE X e (aQ K Fa)):QO X (some e) (rH K (CB Fa)):=(Yn h).le λσ H Q ⟨B,S,E,Q',hS,re,hF,lk⟩=>⟨B,S,E,_,hS,re,hF,λr E1 v H1 S1 q g TL rr=>by
 obtain ⟨i,e1,q⟩:=i1.ex q;exact ⟨i,TL.int rr e1,lk _ _ _ _ q g TL⟩⟩
variable {XB Gh:FO}
def EA (Fa:FE) (XB Gh:FO):FE:=λE Q=>Fa E λx E1=>XB E1 λlo E2=>Gh E2 λhi E3=>match vl E3 x with
 | some (.lst xs)=>Q (.s E3.length) (E3++[some (.o false (i6 xs lo hi))])
 | _=>False
theorem kG {lo hi:Option Expr} {p2:Pos} (eK:X.K=K) (he:QE X e (aQ K Fa)) (hl:QO X lo (rH K XB)) (hu:QO X hi (rH K Gh)):QE X (.Subscript e (.Slice lo hi none p2) pos) (aQ K (EA Fa XB Gh)):=by
 subst eK;refine (sQ Ww he hl hu).le λσ H Q _ ⟨B,S,E,Q',⟨τ,hS⟩,re,hF,lk⟩=>⟨B,S,E,_,⟨τ,hS⟩,re,hF,λx E1 v H1 S1 q g1 TL rx=>?_⟩;obtain ⟨τ1,VW⟩:=g1.pre;refine ⟨B,S1,E1,_,⟨τ++τ1,by rw [VW,hS,IZ]⟩,TL,q,λl E2 H2 S2 q2 g2 UY=>?_⟩;obtain ⟨τ2,ZS⟩:=g2.pre;refine ⟨B,S2,E2,_,⟨τ++τ1++τ2,by rw [ZS,VW,hS,IZ,IZ,IZ]⟩,UY,q2,λh E3 H3 S3 q3 g3 UZ=>?_⟩;have la:=(rx.step g2).step g3;split at q3
 ·rename_i xs e1;obtain ⟨a,vs,e2,sq,rs⟩:=UZ.vl la e1;refine ⟨a,vs,e2,sq,λp hp=>?_⟩;obtain ⟨g,TJ⟩:=UZ.lst hp (Qz (lo:=l) (hi:=h) rs);exact lk _ _ _ _ _ q3 (((g1.trans g2).trans g3).trans g) TJ (by rw [<-UZ.len];exact j9)
 ·exact q3.elim
def ownOf (E:En):R->Option (List T)
 | .s j=>match E[j]? with
  | some (some (.o _ xs))=>some xs
  | _=>none
 | _=>none
theorem RE.ownOf {B:QF->Prop} {H:Hp} {S:St} {E:En} (re:RE K B H S E) {r:R} {v:V} {xs:List T} (h:RR K B H S E r v) (e:L2.ownOf E r=some xs):∃j k a vs,r = .s j/\E[j]? = some (some (.o k xs))/\S[j]? = some (some (.ref a))/\v = .ref a/\H a=some (.lst vs)/\cN K H (Ow B S E) xs vs:=by
 cases r with
 | p _=>cases e
 | s j=>
  cases q:E[j]? with
  | none=>simp only [L2.ownOf,q] at e;cases e
  | some u=>
   cases u with
   | none=>simp only [L2.ownOf,q] at e;cases e
   | some u=>
    cases u with
    | p _=>simp only [L2.ownOf,q] at e;cases e
    | o k ys=>
     simp only [L2.ownOf,q] at e;cases e;obtain ⟨a,vs,h1,h2,h3,_⟩:=re.own j k xs q;have h':S[j]? = some (some v):=h;rw [h'] at h1;cases h1;exact ⟨j,k,a,vs,rfl,q,h',rfl,h2,h3⟩
def l2 (x y:Option (List T)) (k:List T->List T->Prop):Prop:=match x,y with
 | some t,some u=>k t u
 | _,_=>False
theorem l2.ex {x y:Option (List T)} {k:List T->List T->Prop} (h:l2 x y k):∃t u,x=some t/\y=some u/\k t u:=by
 unfold l2 at h;split at h
 ·exact ⟨_,_,rfl,rfl,h⟩
 ·exact h.elim
def ER (Fa Fb:FE):FE:=λE Q=>Fa E λx E1=>Fb E1 λy E2=>l2 (ownOf E2 x) (ownOf E2 y) λxs ys=>xs.length+ys.length<=1000/\Q (.s E2.length) (E2++[some (.o false (xs++ys))])
theorem Ui (ha:QE X a (aQ K Fa)) (hb:QE X b (aQ K Fb)):QE X (.BinOp a .Add b pos) (aQ K (ER Fa Fb)):=by
 refine (Jj Q5 ha hb).le λσ H Q hl h=>two (Fa:=Fa) (Fb:=Fb) h λB S E x y v w H2 Q' hS re rx ry q lk=>?_;obtain ⟨xs,ys,e1,e2,hz,q⟩:=l2.ex q;obtain ⟨j,k,p,vs,_,_,_,rfl,h2,h3⟩:=re.ownOf rx e1;obtain ⟨j',k',p',aa,_,_,_,rfl,dk,qd⟩:=re.ownOf ry e2;refine ⟨p,p',vs,aa,rfl,rfl,h2,dk,by rw [h3.length,qd.length];exact KN (bY hz),λr hr=>?_⟩;obtain ⟨g,TJ⟩:=re.lst hr (h3.append qd);exact lk _ _ _ _ _ q g TJ (by rw [<-re.len];exact j9)
def Xq (Fr:FA):FE:=λE Q=>Fr E λrs E1=>match rs with
 | [x]=>o1 ((vl E1 x).bind CQ) λxs=>Q (.s E1.length) (E1++[some (.o false xs)])
 | _=>False
theorem Mc {n:Nat} {p:Pos} (eK:X.K=K) (hg:Gl X "list") (hm:X.mg "list" = none) (ha:QA X (e::es) (eC K n Fr)) (hs:bV (e::es)=true:=by rfl):QE X (.Call (.Name "list" p) (e::es) [] pos) (aQ K (Xq Fr)):=by
 subst eK;refine (kQ zD hg hm (by decide +kernel) ha (by decide) (by decide) hs).le λσ H Q hl h=>args (Fr:=Fr) h λB S E rs vs H2 Q' hS re rr hn q lk=>?_
 match rs,rr,q with
 | [x],⟨v,ws,e1,h1,h2⟩,q=>
  cases h2;subst e1;obtain ⟨xs,e2,q⟩:=o1.ex q;obtain ⟨t,e3,e2⟩:=NV.mp e2;have rt:=re.vl h1 e3;have:∃p us,v = .ref p/\(j4 X.K H2 p us\/rR X.K H2 p us)/\cN X.K H2 (Ow B S E) xs us:=by
   cases t with
   | tup ys=>cases e2;obtain ⟨p,us,e,sq,rs⟩:=rt;exact ⟨p,us,e,.inr sq,rs⟩
   | lst ys=>cases e2;obtain ⟨p,us,e,sq,rs⟩:=rt;exact ⟨p,us,e,.inl sq,rs⟩
   | _=>cases e2
  obtain ⟨p,us,rfl,sq,rs⟩:=this;refine ⟨p,us,rfl,sq,λr hr=>?_⟩;obtain ⟨g,TJ⟩:=re.lst hr rs;exact lk _ _ _ _ _ q g TJ (by rw [<-re.len];exact j9)
 | [],_,q=>exact q.elim
 | _::_::_,_,q=>exact q.elim
def N9 (Fr:FA):FE:=λE Q=>Fr E λrs E1=>match rs with
 | [x]=>(match vl E1 x with
  | some (.lst xs)=>Q (.p (.tup xs)) E1
  | _=>False)
 | _=>False
theorem mB {n:Nat} {p:Pos} (eK:X.K=K) (hg:Gl X "tuple") (hm:X.mg "tuple" = none) (ha:QA X (e::es) (eC K n Fr)) (hs:bV (e::es)=true:=by rfl):QE X (.Call (.Name "tuple" p) (e::es) [] pos) (aQ K (N9 Fr)):=by
 subst eK;refine (kQ u9 hg hm (by decide +kernel) ha (by decide) (by decide) hs).le λσ H Q hl h=>args (Fr:=Fr) h λB S E rs vs H2 Q' hS re rr hn q lk=>?_
 match rs,rr,q with
 | [x],⟨v,ws,e1,h1,h2⟩,q=>
  cases h2;subst e1;simp only at q;split at q
  ·rename_i xs e2;obtain ⟨p,us,rfl,sq,rs⟩:=re.vl h1 e2;refine ⟨p,us,rfl,.inl ⟨sq,λr hr=>?_⟩⟩;obtain ⟨g,TJ,rp⟩:=re.tup hr rs;exact lk _ _ _ _ _ q g TJ rp
  ·exact q.elim
 | [],_,q=>exact q.elim
 | _::_::_,_,q=>exact q.elim
def lJ:List T->Option (List Bool)
 | []=>some []
 | .bl b::xs=>(lJ xs).map (b::·)
 | _=>none
theorem Dp {H:Hp} {O:QF->Prop}:∀{xs:List T} {vs:List V} {bs:List Bool},cN K H O xs vs->lJ xs=some bs->vs=bs.map V.bl
 | [],_,_,h,e=>by cases e;exact h
 | .bl b::xs,_,bs,⟨v,r,e1,h1,h2⟩,e=>by
  cases q:lJ xs with
  | none=>rw [lJ,q] at e;cases e
  | some cs=>
   rw [lJ,q] at e;cases e;cases h1;rw [e1,Dp h2 q];rfl
 | .non::_,_,_,_,e=>by cases e
 | .int _::_,_,_,_,e=>by cases e
 | .str _::_,_,_,_,e=>by cases e
 | .tup _::_,_,_,_,e=>by cases e
 | .lst _::_,_,_,_,e=>by cases e
def FJ (Fr:FA):FE:=λE Q=>Fr E λrs E1=>match rs with
 | [x]=>(match vl E1 x with
  | some (.lst xs)=>o1 (lJ xs) λbs=>Q (.p (.bl (bs.all id))) E1
  | _=>False)
 | _=>False
theorem N0 {n:Nat} {p:Pos} (eK:X.K=K) (hc:X.calm=true) (hg:Gl X "all") (hm:X.mg "all" = none) (ha:QA X (e::es) (eC K n Fr)) (hs:bV (e::es)=true:=by rfl):QE X (.Call (.Name "all" p) (e::es) [] pos) (aQ K (FJ Fr)):=by
 subst eK;refine (fS (Lw hc) hg hm boot_all ha (by decide) (by decide) hs).le λσ H Q hl h=>args (Fr:=Fr) h λB S E rs vs H2 Q' hS re rr hn q lk=>?_
 match rs,rr,q with
 | [x],⟨v,ws,e1,h1,h2⟩,q=>
  cases h2;subst e1;simp only at q;split at q
  ·rename_i xs e2;obtain ⟨p,us,rfl,sq,rs⟩:=re.vl h1 e2;obtain ⟨bs,e3,q⟩:=o1.ex q;refine ⟨p,bs,rfl,by rw [<-Dp rs e3];exact sq,lk _ _ _ _ _ q .refl re rfl⟩
  ·exact q.elim
 | [],_,q=>exact q.elim
 | _::_::_,_,q=>exact q.elim
def Dk (f:List T->R->En->Option (List T)) (Fo:FE) (Fr:FA):FE:=λE Q=>Fo E λo E1=>o1 (ownOf E1 o) λ_=>Fr E1 λrs E2=>match o,rs with
 | .s j,[r]=>(match E2[j]? with
  | some (some (.o k xs))=>o1 (f xs r E2) λys=>ys.length<=1000/\Q (.p .non) (E2.set j (some (.o k ys)))
  | _=>False)
 | _,_=>False
def ED (xs:List T) (r:R) (E:En):Option (List T):=match r with
 | .p t=>some (xs++[t])
 | _=>none
def V8 (xs:List T) (r:R) (E:En):Option (List T):=(ownOf E r).map (xs++·)
theorem Zt {f:List T->R->En->Option (List T)} {r:V->List V->Hp->VK->Prop} {n:Nat} {σ:St} {H:Hp} {Q:VK} (eK:X.K=K) (h:aQ K (Dk f Fo Fr) σ H Q)
  (hr:∀(B:QF->Prop) (S:St) (E:En) (H2:Hp) (xs ys:List T) (rr:R) (y:V) (p:QF) (vs:List V) (Q:VK),RE K B H2 S E->RR K B H2 S E rr y->f xs rr E=some ys->H2 p=some (.lst vs)->cN K H2 (Ow B S E) xs vs->ys.length<=1000->
   (∀ws,cN K H2 (Ow B S E) ys ws->Q .non (upd H2 p (.lst ws)))->r (.ref p) [y] H2 Q):DP X.K "list" r (aQ K Fo) (eC K n Fr) σ H Q:=by
 subst eK;obtain ⟨B,S,E,Q',⟨τ,hS⟩,re,hF,lk⟩:=h;refine ⟨B,S,E,_,⟨τ,hS⟩,re,hF,λoo E1 v H1 S1 q g1 TL rx=>?_⟩;obtain ⟨τ1,VW⟩:=g1.pre;obtain ⟨fm,e0,q⟩:=o1.ex q;obtain ⟨j,k,p,vs,rfl,hE,uv,rfl,h2,h3⟩:=TL.ownOf rx e0;refine ⟨.inl ⟨rfl,vs,j4.of h2⟩,B,S1,E1,_,⟨τ++τ1,by rw [VW,hS,IZ]⟩,TL,q,λrs E2 us H2 S2 q2 g2 UY rr hn=>?_⟩;have YX:S2[j]? = some (some (.ref p)):=gF g2.pre uv
 match rs,rr,q2 with
 | [r'],⟨y,ws,e1,k1,k2⟩,q2=>
  cases k2;subst e1;simp only at q2;split at q2
  ·rename_i k2 xs yw;obtain ⟨ys,e3,hz,q2⟩:=o1.ex q2;obtain ⟨p',uw,z1,z2,z3,_⟩:=UY.own j k2 xs yw;rw [YX] at z1;cases z1;refine hr B S2 E2 H2 xs ys r' y p uw Q UY k1 e3 z2 z3 hz λws hw=>?_;obtain ⟨g3,UZ⟩:=UY.put yw YX hw;exact lk _ _ _ _ _ q2 ((g1.trans g2).trans g3) UZ rfl
  ·exact q2.elim
 | [],_,q2=>exact q2.elim
 | _::_::_,_,q2=>exact q2.elim
theorem fX {n:Nat} {ap:Pos} (eK:X.K=K) (ho:QE X o (aQ K Fo)) (ha:QA X [e] (eC K n Fr)) (VD:RS o "append" X.env (RB o X.env)=RB o X.env:=by rfl) (VE:(ap.endLine==pos.line)=true:=by rfl) (hs:cS e=false:=by rfl) :
  QE X (.Call (.Attribute o "append" ap) [e] [] pos) (aQ K (Dk ED Fo Fr)):=
 (wK ho ha VD VE hs).le λσ H Q hl h=>Zt eK h λB S E H2 xs ys rr y p vs Q re rx e hp hv hz k=>by
  cases rr with
  | s _=>cases e
  | p t=>
   cases e;refine ⟨p,vs,y,rfl,rfl,hp,?_,k _ (hv.append ⟨y,[],rfl,rx,rfl⟩)⟩;rw [hv.length];rw [IY] at hz;exact bY (by simp at hz;omega)
theorem wQ {n:Nat} {ap:Pos} (eK:X.K=K) (ho:QE X o (aQ K Fo)) (ha:QA X [e] (eC K n Fr)) (VD:RS o "extend" X.env (RB o X.env)=RB o X.env:=by rfl) (VE:(ap.endLine==pos.line)=true:=by rfl) (hs:cS e=false:=by rfl) :
  QE X (.Call (.Attribute o "extend" ap) [e] [] pos) (aQ K (Dk V8 Fo Fr)):=
 QE.le (t:=DP X.K "list" Jg (aQ K Fo) (eC K n Fr)) ⟨Tb PySem.F.plainAttrs_list PySem.F.slot_list_extend PySem.F.type_list_extend Lj ho.h ha.h VD (by rw [dP hs];rfl) VE (dP hs) (iB rfl)⟩ λσ H Q hl h=>Zt eK h λB S E H2 xs ys rr y p vs Q re rx e hp hv hz k=>by
  unfold V8 at e;cases q:ownOf E rr with
  | none=>rw [q] at e;cases e
  | some zs=>
   rw [q] at e;cases e;obtain ⟨j,kk,p',aa,_,_,_,rfl,h2,h3⟩:=re.ownOf rx q;refine ⟨p,p',vs,aa,rfl,rfl,hp,h2,?_,k _ (hv.append h3)⟩;rw [hv.length,h3.length];rw [IY] at hz;exact KN (bY hz)
end
end L2
namespace L2
open PySem PySem.Spec PyProof.Rows
abbrev fM (h:Heap) (T:QF) (xs:Array Value):Prop:=h.get? T=some { cls:=.type "tuple",data:=.seq xs }
end L2
namespace L2
open PySem PySem.Spec PyProof.Rows
structure ZQ where
 κ:Bool
 a:QF
 it:QF
 items:Array Value
structure ZA (z TI TO:QF) (ps:List ZQ):Prop where
 tz:TI≠z
 oz:TO≠z
 to:TI≠TO
 iz:∀p∈ps,p.it≠z/\p.it≠TI/\p.it≠TO
 az:∀p∈ps,p.a≠z/\p.a≠TO
 ai:∀p∈ps,∀q∈ps,p.a≠q.it
 ii:∀(i j:Nat) (p q:ZQ),ps[i]? = some p->ps[j]? = some q->p.it=q.it->i=j
section
variable {prog:QJ} {w:QM} {A:Around} {E:Value->Shared->Prop} {s:Shared}
theorem Bd {α β:Type} {M:Model} {body:α->β->Sem (ForInStep β)} {b0:β}:∀(xs:List α) (W:Nat->Shared->Prop) (s:Shared) (Q:β->Shared->Prop),
  (∀j x s,xs[j]? = some x->W j s->QL M A (body x b0) (λr s'=>r = .yield b0/\W (j+1) s') E s)->W 0 s->(∀s',W xs.length s'->Q b0 s')->QL M A (forIn xs b0 body) Q E s
 | [],W,s,Q,_,h0,hq=>by
  rw [List.forIn_nil];exact QN (hq s h0)
 | x::xs,W,s,Q,hs,h0,hq=>by
  rw [OB];refine QH (dM (hs 0 x s rfl h0) λr s' ⟨e,h1⟩=>?_);subst e;exact Bd xs (λj=>W (j+1)) s' Q (λj y ZP hy hw=>hs (j+1) y ZP (by simpa using hy) hw) h1 (λZP h=>hq ZP (by simpa using h))
theorem qW {α β:Type} {M:Model} {body:α->β->Sem (ForInStep β)} {b0:β}:∀(m:Nat) (xs:List α) (W:Nat->Shared->Prop) (s:Shared) (Q:β->Shared->Prop) (y:α),xs[m]? = some y->
  (∀j x s,j<m->xs[j]? = some x->W j s->QL M A (body x b0) (λr s'=>r = .yield b0/\W (j+1) s') E s)->W 0 s->(∀s',W m s'->QL M A (body y b0) (λ_ _=>False) E s')->QL M A (forIn xs b0 body) Q E s
 | m,[],W,s,Q,y,hy,_,_,_=>by simp at hy
 | 0,x::xs,W,s,Q,y,hy,hs,h0,hm=>by
  rw [OB];simp at hy;subst hy;exact QH (dM (hm s h0) λ_ _ z=>z.elim)
 | m+1,x::xs,W,s,Q,y,hy,hs,h0,hm=>by
  rw [OB];refine QH (dM (hs 0 x s (by omega) rfl h0) λr s' ⟨e,h1⟩=>?_);subst e;exact qW m xs (λj=>W (j+1)) s' Q y (by simpa using hy) (λj z ZP hj hz hw=>hs (j+1) z ZP (by omega) (by simpa using hz) hw) h1 hm
def ZW (s:Shared) (z TI TO:QF) (ps:List ZQ) (k j:Nat) (s':Shared):Prop:=∃(h:Heap) (tk:Nat),s' = { s with heap:=h,toks:=tk }/\SJ h z TI TO .ellipsis/\
 (∃cur:Array Value,fM h TO cur/\cur.size=ps.length/\∀(l:Nat) (q:ZQ),l<j->ps[l]? = some q->∃x,q.items[k]? = some x/\cur[l]? = some x)/\
 (∀(l:Nat) (q:ZQ),ps[l]? = some q->iS q.κ h q.it q.a (if l<j then k+1 else k)/\rO q.κ h q.a q.items)/\
 (∀c o,c≠z->c≠TO->(∀q∈ps,c≠q.it)->s.heap.get? c=some o->h.get? c=some o)/\h.objs.size=s.heap.objs.size
theorem rO.at {κ:Bool} {h h':Heap} {a:QF} {TC:Array Value} (x:rO κ h a TC) (e:∀o,h.get? a=some o->h'.get? a=some o):rO κ h' a TC:=by
 cases κ
 ·exact Heap.IsList.at x e
 ·exact Heap.IsTuple.at x e
theorem fO {ps:List ZQ} {l:Nat} {q:ZQ} (h:ps[l]? = some q):q∈ps:=JA h
theorem F8 {z TI TO:QF} {ps:List ZQ} {k j:Nat} {q:ZQ} (hA:A.handled=none) (ap:ZA z TI TO ps) (hl:ps.length<=1000) (hq:ps[j]? = some q) (hk:k<q.items.size) {s':Shared} (W:ZW s z TI TO ps k j s') {Q:Option Value->Shared->Prop}
  (g:∀x s2,(∃(h:Heap) (tk:Nat),s2 = { s with heap:=h,toks:=tk }/\q.items[k]? = some x/\SJ h z TI TO .ellipsis/\
    (∃cur:Array Value,fM h TO cur/\cur.size=ps.length/\∀(l:Nat) (q:ZQ),l<j->ps[l]? = some q->∃x,q.items[k]? = some x/\cur[l]? = some x)/\
    (∀(l:Nat) (q:ZQ),ps[l]? = some q->iS q.κ h q.it q.a (if l<j+1 then k+1 else k)/\rO q.κ h q.a q.items)/\
    (∀c o,c≠z->c≠TO->(∀q∈ps,c≠q.it)->s.heap.get? c=some o->h.get? c=some o)/\h.objs.size=s.heap.objs.size)->Q (some x) s2) :
  QL (QV prog w) A (Builtin.SmallTypes.nextOf (.ref q.it) >>= λx=>pure (some x)) Q E s':=by
 obtain ⟨h,tk,rfl,hz,⟨cur,c1,c2,c3⟩,hi,kp,ae⟩:=W;have ag:=fO hq;have D:=Ux (prog:=prog) (w:=w) q.κ hA q.it q.a (ap.ai q ag q ag) q.items;obtain ⟨i1,i2⟩:=hi j q hq;rw [if_neg (Nat.lt_irrefl j)] at i1;refine QH (D.item k _ _ _ hk ⟨i1,i2⟩ λx hb tb px gb sb=>QN (g x _ ⟨hb,tb,rfl,px,?_,⟨cur,?_,c2,c3⟩,λl p hp=>?_,λc o n1 n2 n3 e=>?_,?_⟩))
 ·exact sb.extBut _ _ (Ne.symm (ap.iz q ag).1) hz
 ·exact sb.extBut _ _ (Ne.symm (ap.iz q ag).2.2) c1
 ·by_cases e:l=j
  ·subst e;rw [hq] at hp;cases hp;rw [if_pos (Nat.lt_succ_self _)];exact gb
  ·obtain ⟨a1,a2⟩:=hi l p hp;have ne:p.it≠q.it:=λz=>e (ap.ii l j p q hp hq z);have el:(if l<j+1 then k+1 else k)=(if l<j then k+1 else k):=by
    by_cases c:l<j
    ·rw [if_pos c,if_pos (by omega)]
    ·rw [if_neg c,if_neg (by omega)]
   rw [el];exact ⟨a1.at λo x=>sb.extBut _ _ ne x,a2.at λo x=>sb.extBut _ _ (ap.ai p (fO hp) q ag) x⟩
 ·exact sb.extBut _ _ (n3 q ag) (kp c o n1 n2 n3 e)
 ·rw [sb.1];exact ae
theorem Mb {z TI TO:QF} {ps:List ZQ} {k:Nat} {old:Array Value} {Q:Value->Shared->Prop} (hA:A.handled=none) (ap:ZA z TI TO ps) (WG:ps≠[]) (hl:ps.length<=1000)
  (gz:SJ s.heap z TI TO .none) (gI:fM s.heap TI (ps.map λp=>KW p.it).toArray) (gO:fM s.heap TO old) (ho:old.size=ps.length)
  (gi:∀p∈ps,iS p.κ s.heap p.it p.a k/\rO p.κ s.heap p.a p.items) (gk:∀p∈ps,k<p.items.size)
  (gq:∀(xs:List Value) h' tk,xs.length=ps.length->(∀(l:Nat) (q:ZQ),ps[l]? = some q->∃x,q.items[k]? = some x/\xs[l]? = some x)->SJ h' z TI TO (rawInt s.heap.objs.size)->(∃cur:Array Value,fM h' TO cur/\cur.size=ps.length)->
   (∀p∈ps,iS p.κ h' p.it p.a (k+1))->fM h' s.heap.objs.size xs.toArray->h'.objs.size=s.heap.objs.size+1->
   (∀c o,c≠z->c≠TO->(∀q∈ps,c≠q.it)->s.heap.get? c=some o->h'.get? c=some o)->Q (.ref s.heap.objs.size) { s with heap:=h',toks:=tk }) :
  QL (QV prog w) A (Builtin.«zip.__next__» ⟨[.ref z],[]⟩) (λfin s'=>∃v,fin = .done (.ret v)/\Q v s') E s:=by
 show QL _ _ (field (.ref z) 2 >>= _) _ _ _;refine QH (RC gz rfl (x:=.bool false) rfl ?_);show QL _ _ (field (.ref z) 3 >>= _) _ _ _;refine QH (RC gz rfl (x:=.ref TI) rfl (QH (RU gI rfl ?_)));have ux:((ps.map λp=>KW p.it).toArray).isEmpty=false:=by
  cases ps with
  | nil=>exact absurd rfl WG
  | cons p r=>simp
 simp only [ux,ME,if_false];refine QH ?_;unfold Builtin.SmallTypes.ownedTupleIsFree;refine QH (RC gz rfl (x:=.none) rfl (QN ?_));simp only [if_true];refine QH (RZ (QH (RC gz rfl (x:=.ref TO) rfl (QH (RX gz (by simp) λha za sa=>?_)))));have uy:SJ ha z TI TO .ellipsis:=za;refine QH ?_;have W0:ZW s z TI TO ps k 0 { s with heap:=ha }:=by
  refine ⟨ha,s.toks,rfl,uy,⟨old,sa.extBut _ _ ap.oz gO,ho,λl q h=>absurd h (NN _)⟩,λl q hq=>?_,λc o n1 n2 n3 e=>sa.extBut _ _ n1 e,sa.1⟩;obtain ⟨g1,g2⟩:=gi q (fO hq);rw [if_neg (NN _)];exact ⟨g1.at λo e=>sa.extBut _ _ (ap.iz q (fO hq)).1 e,g2.at λo e=>sa.extBut _ _ (ap.az q (fO hq)).1 e⟩
 refine Bd _ (ZW s z TI TO ps k) _ _ (λj x s' hx hW=>?_) W0 (λs' hW=>?_)
 ·have hxq:∃q,ps[j]? = some q/\x=(KW q.it,j):=by
   rw [MQ] at hx;simp only [JC,Option.map_map] at hx;cases q:ps[j]? with
   | none=>simp [q] at hx
   | some p=>simp [q] at hx;exact ⟨p,rfl,hx.symm⟩
  obtain ⟨q,hq,rfl⟩:=hxq;have hj:j<ps.length:=(IT.mp hq).1;refine QH (wpAny_onRaise ?_);show QL _ _ (Builtin.SmallTypes.nextOf (.ref q.it) >>= _) _ _ _;refine F8 hA ap hl hq (gk q (fO hq)) hW λx s2 ⟨h,tk,es,px,hz,⟨cur,c1,c2,c3⟩,hi,kp,ae⟩=>?_;subst es;have ah:h.get? TO=some { cls:=.type "tuple",data:=.seq cur }:=c1;refine QH (RU ah rfl (QH (wpAny_updateSeq ah rfl ?_ (by rw [c2];exact KN (bY hl)) (by simp;rw [c2];exact Nat.le_succ_of_le (KN (bY hl))))));refine QH (wpAny_letGo (QN ⟨rfl,?_⟩));have su:MR TO h (h.update TO (MA (·.setIfInBounds j x))):=Heap.SameBut.update ..;have gu:fM (h.update TO (MA (·.setIfInBounds j x))) TO (cur.setIfInBounds j x):=by
   show (h.update TO (MA (·.setIfInBounds j x))).get? TO=_;rw [MM _ ah rfl];simp [MA]
  refine ⟨_,tk,rfl,su.extBut _ _ (Ne.symm ap.oz) hz,⟨_,gu,by simp [c2],λl p aj hp=>?_⟩,λl p hp=>?_,λc o n1 n2 n3 e=>su.extBut _ _ n2 (kp c o n1 n2 n3 e),by rw [su.1];exact ae⟩
  ·by_cases e:l=j
   ·subst e;rw [hq] at hp;cases hp;exact ⟨x,px,by rw [NK (by rw [c2];exact hj)]⟩
   ·obtain ⟨y,y1,y2⟩:=c3 l p (by omega) hp;exact ⟨y,y1,by rw [OA (λz=>e z.symm)];exact y2⟩
  ·obtain ⟨a1,a2⟩:=hi l p hp;exact ⟨a1.at λo e=>su.extBut _ _ (ap.iz p (fO hp)).2.2 e,a2.at λo e=>su.extBut _ _ (ap.az p (fO hp)).2 e⟩
 ·obtain ⟨he,tk,rfl,hz,⟨cur,c1,c2,c3⟩,hi,kp,ae⟩:=hW;have ll:(List.zipIdx (ps.map λp=>KW p.it).toArray.toList).length=ps.length:=by simp
  have ah:he.get? TO=some { cls:=.type "tuple",data:=.seq cur }:=c1;refine QH (RU ah rfl (QH (wpAny_newTuple ?_ (by simp;rw [c2];exact KN (bY hl)))));have yx:z<he.objs.size:=JD hz;show QL _ _ (Builtin.SmallTypes.ownedTupleHandOut (.ref z) (.ref he.objs.size) >>= _) _ _ _;refine QH ?_;unfold Builtin.SmallTypes.ownedTupleHandOut;have zf:SJ (he.push { cls:=.type "tuple",data:=.seq cur.toList.toArray }) z TI TO .ellipsis:=IX _ hz;refine QH (RX zf (by simp) λhg zg sg=>?_);have zg':SJ hg z TI TO (rawInt he.objs.size):=zg;refine RX zg' (by simp) λhh zh sh=>?_;have yy:SJ hh z TI TO (rawInt he.objs.size):=zh;have up:∀c o,c≠z->he.get? c=some o->hh.get? c=some o:=λc o q e=>sh.extBut _ _ q (sg.extBut _ _ q (IX _ e));have yz:fM hh he.objs.size cur.toList.toArray:=sh.extBut _ _ (Nat.ne_of_gt yx) (sg.extBut _ _ (Nat.ne_of_gt yx) (JL _ rfl));have zc:hh.objs.size=he.objs.size+1:=by rw [sh.1,sg.1,NT]
  rw [ae] at yy yz zc;refine QN ⟨_,rfl,?_⟩;show Q (.ref he.objs.size) _;rw [ae];refine gq cur.toList hh tk (by simp [c2]) (λl q hq=>?_) yy ⟨cur,up _ _ ap.oz c1,c2⟩ (λp hp=>?_) yz zc λc o n1 n2 n3 e=>up c o n1 (kp c o n1 n2 n3 e)
  ·obtain ⟨x,x1,x2⟩:=c3 l q (by rw [ll];exact (IT.mp hq).1) hq;exact ⟨x,x1,by simpa using x2⟩
  ·obtain ⟨l,aj⟩:=LO hp;obtain ⟨a1,_⟩:=hi l p aj;rw [ll,if_pos (IT.mp aj).1] at a1;exact a1.at λo e=>up _ _ (ap.iz p hp).1 e
theorem Lm {z TI TO:QF} {ps:List ZQ} {k m:Nat} {p:ZQ} {old:Array Value} {Q:Fin->Shared->Prop} (hA:A.handled=none) (ap:ZA z TI TO ps) (hl:ps.length<=1000)
  (gz:SJ s.heap z TI TO .none) (gI:fM s.heap TI (ps.map λp=>KW p.it).toArray) (gO:fM s.heap TO old) (ho:old.size=ps.length)
  (gi:∀p∈ps,iS p.κ s.heap p.it p.a k/\rO p.κ s.heap p.a p.items) (hm:ps[m]? = some p) (hpk:p.items.size=k) (gk:∀(j:Nat) (q:ZQ),j<m->ps[j]? = some q->k<q.items.size)
  (ge:∀h' tk e,(∀c o,c≠z->c≠TO->(∀q∈ps,c≠q.it)->s.heap.get? c=some o->h'.get? c=some o)->(∃o,h'.get? e=some o/\o.cls = .type "StopIteration")->E (.ref e) { s with heap:=h',toks:=tk }) :
  QL (QV prog w) A (Builtin.«zip.__next__» ⟨[.ref z],[]⟩) Q E s:=by
 show QL _ _ (field (.ref z) 2 >>= _) _ _ _;refine QH (RC gz rfl (x:=.bool false) rfl ?_);show QL _ _ (field (.ref z) 3 >>= _) _ _ _;refine QH (RC gz rfl (x:=.ref TI) rfl (QH (RU gI rfl ?_)));have ux:((ps.map λp=>KW p.it).toArray).isEmpty=false:=by
  cases ps with
  | nil=>simp at hm
  | cons p r=>simp
 simp only [ux,ME,if_false];refine QH ?_;unfold Builtin.SmallTypes.ownedTupleIsFree;refine QH (RC gz rfl (x:=.none) rfl (QN ?_));simp only [if_true];refine QH (RZ (QH (RC gz rfl (x:=.ref TO) rfl (QH (RX gz (by simp) λha za sa=>?_)))));have uy:SJ ha z TI TO .ellipsis:=za;refine QH ?_;have W0:ZW s z TI TO ps k 0 { s with heap:=ha }:=by
  refine ⟨ha,s.toks,rfl,uy,⟨old,sa.extBut _ _ ap.oz gO,ho,λl q h=>absurd h (NN _)⟩,λl q hq=>?_,λc o n1 n2 n3 e=>sa.extBut _ _ n1 e,sa.1⟩;obtain ⟨g1,g2⟩:=gi q (fO hq);rw [if_neg (NN _)];exact ⟨g1.at λo e=>sa.extBut _ _ (ap.iz q (fO hq)).1 e,g2.at λo e=>sa.extBut _ _ (ap.az q (fO hq)).1 e⟩
 have atj:∀{j:Nat} {x:Value×Nat},(List.zipIdx (ps.map λp=>KW p.it).toArray.toList)[j]? = some x->∃q,ps[j]? = some q/\x=(KW q.it,j):=λ{j x} hx=>by
  rw [MQ] at hx;simp only [JC,Option.map_map] at hx;cases q:ps[j]? with
  | none=>simp [q] at hx
  | some p=>simp [q] at hx;exact ⟨p,rfl,hx.symm⟩
 refine qW m _ (ZW s z TI TO ps k) _ _ (KW p.it,m) (by rw [MQ];simp [hm]) (λj x s' hjm hx hW=>?_) W0 (λs' hW=>?_)
 ·obtain ⟨q,hq,rfl⟩:=atj hx;have hj:j<ps.length:=(IT.mp hq).1;refine QH (wpAny_onRaise ?_);show QL _ _ (Builtin.SmallTypes.nextOf (.ref q.it) >>= _) _ _ _;refine F8 hA ap hl hq (gk j q hjm hq) hW λx s2 ⟨h,tk,es,px,hz,⟨cur,c1,c2,c3⟩,hi,kp,ae⟩=>?_;subst es;have ah:h.get? TO=some { cls:=.type "tuple",data:=.seq cur }:=c1;refine QH (RU ah rfl (QH (wpAny_updateSeq ah rfl ?_ (by rw [c2];exact KN (bY hl)) (by simp;rw [c2];exact Nat.le_succ_of_le (KN (bY hl))))));refine QH (wpAny_letGo (QN ⟨rfl,?_⟩));have su:MR TO h (h.update TO (MA (·.setIfInBounds j x))):=Heap.SameBut.update ..;have gu:fM (h.update TO (MA (·.setIfInBounds j x))) TO (cur.setIfInBounds j x):=by
   show (h.update TO (MA (·.setIfInBounds j x))).get? TO=_;rw [MM _ ah rfl];simp [MA]
  refine ⟨_,tk,rfl,su.extBut _ _ (Ne.symm ap.oz) hz,⟨_,gu,by simp [c2],λl p aj hp=>?_⟩,λl p hp=>?_,λc o n1 n2 n3 e=>su.extBut _ _ n2 (kp c o n1 n2 n3 e),by rw [su.1];exact ae⟩
  ·by_cases e:l=j
   ·subst e;rw [hq] at hp;cases hp;exact ⟨x,px,by rw [NK (by rw [c2];exact hj)]⟩
   ·obtain ⟨y,y1,y2⟩:=c3 l p (by omega) hp;exact ⟨y,y1,by rw [OA (λz=>e z.symm)];exact y2⟩
  ·obtain ⟨a1,a2⟩:=hi l p hp;exact ⟨a1.at λo e=>su.extBut _ _ (ap.iz p (fO hp)).2.2 e,a2.at λo e=>su.extBut _ _ (ap.az p (fO hp)).2 e⟩
 ·obtain ⟨h,tk,rfl,hz,_,hi,kp,ae⟩:=hW;have ip:=fO hm;have D:=Ux (prog:=prog) (w:=w) p.κ hA p.it p.a (ap.ai p ip p ip) p.items;obtain ⟨i1,i2⟩:=hi m p hm;rw [if_neg (Nat.lt_irrefl m)] at i1;refine QH (wpAny_onRaise ?_);show QL _ _ (Builtin.SmallTypes.nextOf (.ref p.it) >>= _) _ _ _;refine QH (D.done _ _ _ (by rw [hpk];exact ⟨i1,i2⟩) λhb e sb he=>?_);obtain ⟨oe,q1,q2⟩:=he;have zd:Heap.ExtBut p.it h hb:=sb;have zb:SJ hb z TI TO .ellipsis:=zd _ _ (Ne.symm (ap.iz p ip).1) hz;have hez:e≠z:=λx=>by subst x;rw [zb] at q1;cases q1;simp at q2
  exact RX zb (by simp) λhc _ sc=>ge hc tk e (λc o c1 c2 c3 x=>sc.extBut _ _ c1 (zd _ _ (c3 p ip) (kp c o c1 c2 c3 x))) ⟨oe,sc.extBut _ _ hez q1,q2⟩
end
def zW (κ:Bool) (K:W.Frag) (H:Hp) (a:QF) (xs:List V):Prop:=match κ with
 | true=>rR K H a xs
 | false=>j4 K H a xs
section
variable {X:Cx} {pins:List (QF×Obj)} {σ:St} {H:Hp} {s:Shared}
theorem aY.sqK (I:aY X pins σ H s) {κ:Bool} {a:QF} {xs:List V} (h:zW κ X.K H a xs):∃TC:List Value,bG xs TC/\rO κ s.heap a TC.toArray:=by
 cases κ
 ·obtain ⟨TC,r,p,_⟩:=I.list h;exact ⟨TC,r,p.isList⟩
 ·obtain ⟨TC,r,p,_⟩:=I.tuple h;exact ⟨TC,r,p⟩
theorem aY.sqK_inj (I:aY X pins σ H s) {κ:Bool} {a:QF} {xs ys:List V} (h:zW κ X.K H a xs) (h':zW κ X.K H a ys):xs=ys:=by
 cases κ
 ·exact I.list_inj h h'
 ·exact I.tuple_inj h h'
theorem aY.notfp (I:aY X pins σ H s) {κ:Bool} {a b:QF} {xs:List V} (h:zW κ X.K H a xs) (f:oK X pins H b):a≠b:=by
 have kk:∀{o:Obj},X.K.lookup a=some o->a≠b:=λ{o} hk z=>by
  have hb:X.base.get? a=some o:=I.mod.kin a o hk;subst z;rcases f.2.2.2.1 with z | z
  ·exact I.ok.noex a o hb z
  ·exact absurd (JH (JH (JD hb) I.ok.bsz) z) (Nat.lt_irrefl _)
 have hh:∀{u:HO},Rd H a u->a≠b:=λ{u} r z=>by
  subst z;have:=f.1;rcases r with r | ⟨o,r⟩
  ·rw [this] at r;cases r
  ·rw [this] at r;cases r
 cases κ
 ·rcases h with h | ⟨o,TC,n,hk,_⟩
  ·exact hh h
  ·exact kk hk
 ·rcases h with h | ⟨o,TC,n,hk,_⟩
  ·exact hh h
  ·exact kk hk
theorem FC (I:aY X pins σ H s):∀(ps:List (Bool×QF)) (TC:List QF),TC.length=ps.length->(∀p∈ps,∃xs,zW p.1 X.K H p.2 xs)->
  ∃qs:List ZQ,qs.map (λq=>(q.κ,q.a))=ps/\qs.map (·.it)=TC/\∀q∈qs,rO q.κ s.heap q.a q.items/\∃xs,zW q.κ X.K H q.a xs/\bG xs q.items.toList
 | [],[],_,_=>⟨[],rfl,rfl,λq h=>absurd h (by simp)⟩
 | [],_::_,e,_=>by simp at e
 | _::_,[],e,_=>by simp at e
 | p::ps,it::TC,e,h=>by
  obtain ⟨qs,h1,h2,h3⟩:=FC I ps TC (by simpa using e) λq hq=>h q (by simp [hq]);obtain ⟨xs,hx⟩:=h p (by simp);obtain ⟨vs,r,sk⟩:=I.sqK hx;refine ⟨⟨p.1,p.2,it,vs.toArray⟩::qs,by simp [h1],by simp [h2],λq hq=>?_⟩;rcases IU.mp hq with rfl | hq
  ·exact ⟨sk,xs,hx,by simpa using r⟩
  ·exact h3 q hq
end
def GD (K:W.Frag) (ps:List (Bool×QF)):It:=
  ⟨λi H=>∀p∈ps,∃xs x,zW p.1 K H p.2 xs/\xs[i]? = some x,
   λi H v H'=>∃(q:QF) (ys:List V),v = .ref q/\H q=none/\H'=upd H q (.tup ys)/\ys.length=ps.length/\∀(j:Nat) (p:Bool×QF) (y:V),ps[j]? = some p->ys[j]? = some y->∀xs,zW p.1 K H p.2 xs->xs[i]? = some y,
   λi H=>(∀p∈ps,∃xs,zW p.1 K H p.2 xs)/\∃(m:Nat) (p:Bool×QF),ps[m]? = some p/\(∃xs,zW p.1 K H p.2 xs/\xs.length=i)/\∀(j:Nat) (q:Bool×QF),j<m->ps[j]? = some q->∃xs x,zW q.1 K H q.2 xs/\xs[i]? = some x⟩
def ZT (z TI TO:QF) (ps:List (Bool×QF)) (TC:List QF) (i:Nat) (h:Heap):Prop:=SJ h z TI TO .none/\fM h TI (TC.map KW).toArray/\(∃old:Array Value,fM h TO old/\old.size=ps.length)/\
 ∀(j:Nat) (p:Bool×QF) (it:QF),ps[j]? = some p->TC[j]? = some it->iS p.1 h it p.2 i
theorem Lc {P:QJ} {w:QM} {K:W.Frag} {elts:List Expr} {x1} {VG:Pos} (z TI TO:QF) (ps:List (Bool×QF)) (TC:List QF) (hl:TC.length=ps.length) (WG:ps≠[]) (hz:ps.length<=1000) (nd:(z::TI::TO::TC).Nodup) :
  Er P w K (.Tuple elts x1 VG) (GD K ps) (z::TI::TO::TC) z (ZT z TI TO ps TC):=by
 simp only [ML,IU,not_or] at nd;obtain ⟨⟨n1,n2,n3⟩,⟨n4,n5⟩,n6,n7⟩:=nd;have apart:∀{X:Cx} {pins:List (QF×Obj)} {σ:St} {H:Hp} {s:Shared} {qs:List ZQ},aY X pins σ H s->(∀c∈z::TI::TO::TC,oK X pins H c)->qs.map (·.it)=TC->(∀q∈qs,∃xs,zW q.κ X.K H q.a xs)->ZA z TI TO qs:=by
  intro X pins σ H s qs I hf e1 hq;have mi:∀q∈qs,q.it∈TC:=λq hq=>by rw [<-e1];exact OK hq
  refine ⟨λe=>n1 e.symm,λe=>n2 e.symm,n4,λp hp=>⟨λe=>n3 (e ▸ mi p hp),λe=>n5 (e ▸ mi p hp),λe=>n6 (e ▸ mi p hp)⟩,λp hp=>?_,λp hp q XU=>?_,λi j p q hi hj e=>?_⟩
  ·obtain ⟨xs,hx⟩:=hq p hp;exact ⟨I.notfp hx (hf z (by simp)),I.notfp hx (hf TO (by simp))⟩
  ·obtain ⟨xs,hx⟩:=hq p hp;exact I.notfp hx (hf q.it (by simp [mi q XU]))
  ·have du:TC[i]? = some p.it:=by rw [<-e1,JC,hi];rfl
   have hj':TC[j]? = some q.it:=by rw [<-e1,JC,hj];rfl
   exact (List.getElem?_inj (IT.mp du).1 n7).mp (by rw [du,hj',e])
 refine ⟨by simp,λi h st c hc=>?_,λi h h' st k=>?_,?_,?_,λ_ _ _ _ _ st h=>wpAny_pyIter_zip st.1 h⟩
 ·obtain ⟨s1,s2,⟨old,s3,_⟩,s4⟩:=st;simp only [IU] at hc;rcases hc with rfl | rfl | rfl | hc
  ·exact ⟨_,s1,λv z=>by cases z⟩
  ·exact ⟨_,s2,λv z=>by cases z⟩
  ·exact ⟨_,s3,λv z=>by cases z⟩
  ·obtain ⟨j,hj⟩:=LO hc;have ak:j<ps.length:=by rw [<-hl];exact (IT.mp hj).1
   exact (s4 j _ c (IQ ak) hj).obj
 ·obtain ⟨s1,s2,⟨old,s3,uz⟩,s4⟩:=st;exact ⟨k z (by simp) _ s1,k TI (by simp) _ s2,⟨old,k TO (by simp) _ s3,uz⟩,λj p it hp hit=>(s4 j p it hp hit).at λo e=>k it (by simp [JA hit]) o e⟩
 ·intro X hP hw hK hc i pins s σ H E I hf st hg;subst hP hw hK;obtain ⟨s1,s2,⟨old,s3,uz⟩,s4⟩:=st;obtain ⟨qs,e1,e2,h3⟩:=FC I ps TC hl λp hp=>let ⟨xs,_,h,_⟩:=hg p hp;⟨xs,h⟩;have iq:qs.length=ps.length:=by rw [<-e1,IS]
  have ap:=apart I hf e2 λq hq=>let ⟨_,xs,h,_⟩:=h3 q hq;⟨xs,h⟩;have hA:X.A.in1.handled=none:=I.ok.hd hc;have lg:s.TypeIs (.ref z) "zip":=⟨_,s1,rfl⟩;have YY:∀{j:Nat} {q:ZQ},qs[j]? = some q->ps[j]? = some (q.κ,q.a)/\TC[j]? = some q.it:=λ{j q} h=>⟨by rw [<-e1,JC,h];rfl,by rw [<-e2,JC,h];rfl⟩;have gi:∀q∈qs,iS q.κ s.heap q.it q.a i/\rO q.κ s.heap q.a q.items:=λq hq=>by
   obtain ⟨j,hj⟩:=LO hq;exact ⟨s4 j _ _ (YY hj).1 (YY hj).2,(h3 q hq).1⟩
  have gk:∀q∈qs,i<q.items.size:=λq hq=>by
   obtain ⟨j,hj⟩:=LO hq;obtain ⟨xs,x,q1,q2⟩:=hg _ (JA (YY hj).1);obtain ⟨_,ys,r1,r2⟩:=h3 q hq;rw [I.sqK_inj q1 r1] at q2;have:=(IT.mp q2).1;have:=r2.length;simp at this;omega
  have gI:fM s.heap TI (qs.map λp=>KW p.it).toArray:=by
   have:(qs.map λp=>KW p.it)=TC.map KW:=by rw [<-e2,JG];rfl
   rw [this];exact s2
  unfold pyNext;refine QH (wpAny_attempt (wpAny_callSpecial?_slot (name:=NJ "__next__") lg F.slot_zip_next (SA F.slot_zip_next lg F.entry_zip_next
   (Mb hA ap (λz=>by rw [z] at iq;exact WG (MH (by simpa using iq.symm))) (by omega) s1 gI s3 (by omega) gi gk λvs h' tk lv pv zz zo g1 zt sz kp=>QN ?_) (F.args_zip_next_1 _))))
  refine ⟨_,rfl,wpAny_letOwnedTupleGo_zip zz λh2 z2 sb=>?_⟩;have hzn:z≠s.heap.objs.size:=JU (JD s1);have kk:∀c o,c∉z::TI::TO::TC->s.heap.get? c=some o->h2.get? c=some o:=λc o hc q=>by
   simp only [IU,not_or] at hc;refine sb.extBut c o hc.1 (kp c o hc.1 hc.2.2.1 (λq' XU e=>hc.2.2.2 ?_) q);rw [e,<-e2];exact OK XU
  -- the items,as they are told
  obtain ⟨ys,va,ry⟩:∃ys:List V,(ys.length=ps.length/\∀(j:Nat) (p:Bool×QF) (y:V),ps[j]? = some p->ys[j]? = some y->∀xs,zW p.1 X.K H p.2 xs->xs[i]? = some y)/\bG ys vs:=by
   have key:∀(n:Nat) (rs:List ZQ) (us:List Value),rs.length=n->us.length=n->(∀q∈rs,∃xs,zW q.κ X.K H q.a xs/\bG xs q.items.toList)->(∀(l:Nat) (q:ZQ),rs[l]? = some q->∃x,q.items[i]? = some x/\us[l]? = some x)->
     ∃ys:List V,ys.length=n/\bG ys us/\∀(j:Nat) (q:ZQ) (y:V),rs[j]? = some q->ys[j]? = some y->∀xs,zW q.κ X.K H q.a xs->xs[i]? = some y:=by
    intro n
    induction n with
    | zero=>
     intro rs us h1 h2 _ _;refine ⟨[],rfl,?_,λj q y hq=>?_⟩
     ·rw [MH h2];exact .nil
     ·rw [MH h1] at hq;simp at hq
    | succ n ih=>
     intro rs us h1 h2 h4 h5
     match rs,us,h1,h2 with
     | q::rs,u::us,h1,h2=>
      obtain ⟨ys,l1,l2,l3⟩:=ih rs us (by simpa using h1) (by simpa using h2) (λq' XU=>h4 q' (by simp [XU])) (λl q' XU=>by have:=h5 (l+1) q' (by simpa using XU);simpa using this);obtain ⟨xs,a1,a2⟩:=h4 q (by simp);obtain ⟨x,b1,b2⟩:=h5 0 q rfl;simp at b2;subst b2;have cf:q.items.toList[i]? = some u:=by simpa using b1
      have hi:i<xs.length:=by rw [a2.length];exact (IT.mp cf).1
      obtain ⟨u',c1,c2⟩:=a2.get (IQ hi);rw [cf] at c1;cases c1;refine ⟨xs[i]::ys,by simp [l1],.cons c2 l2,λj q' y hq hy zs qe=>?_⟩;cases j with
      | zero=>
       simp at hq hy;subst hq;subst hy;rw [I.sqK_inj qe a1];exact IQ hi
      | succ j=>exact l3 j q' y (by simpa using hq) (by simpa using hy) zs qe
   obtain ⟨ys,l1,l2,l3⟩:=key qs.length qs vs rfl lv (λq hq=>(h3 q hq).2) pv;refine ⟨ys,⟨by omega,λj p y hp hy xs hx=>?_⟩,l2⟩;have ak:j<qs.length:=by rw [iq];exact (IT.mp hp).1
   have hq:=IQ ak;have:=(YY hq).1;rw [hp] at this;cases this;exact l3 j _ y hq hy xs hx
  have new:dW X.prog X.w (upd H s.heap.objs.size (.tup ys)) h2 s.heap.objs.size (.tup ys):=
   ⟨by rw [va.1];exact KN (bY hz),vs,ry,⟨_,sb.extBut _ _ (Ne.symm hzn) zt,rfl,_,rfl⟩⟩
  have up:∀{c:QF} {o:Obj},c≠z->h'.get? c=some o->h2.get? c=some o:=λhc q=>sb.extBut _ _ hc q;refine ⟨.ref s.heap.objs.size,upd H s.heap.objs.size (.tup ys),I.turnedLaid (t':=tk) (ch:=z::TI::TO::TC) kk hf (IW _) new,rfl,
   ⟨_,ys,rfl,I.hok.fresh (IW _),rfl,va.1,va.2⟩,⟨z2,up (λe=>n1 e.symm) (kp _ _ (λe=>n1 e.symm) n4 (λq hq=>λe=>(ap.iz q hq).2.1 e.symm) s2),?_,λj p it hp hit=>?_⟩,λc hc=>?_⟩
  ·obtain ⟨cur,u1,u2⟩:=zo;exact ⟨cur,up ap.oz u1,by omega⟩
  ·have ak:j<qs.length:=by rw [iq];exact (IT.mp hp).1
   have hq:=IQ ak;have q1:=(YY hq).1;have q2:=(YY hq).2;rw [hp] at q1;cases q1;rw [hit] at q2;cases q2;exact (g1 _ (LN ak)).at λo e=>up (ap.iz _ (LN ak)).1 e
  ·have VP:c<s.heap.objs.size:=by
    simp only [IU] at hc;rcases hc with rfl | rfl | rfl | hc
    ·exact JD s1
    ·exact JD s2
    ·exact JD s3
    ·obtain ⟨j,hj⟩:=LO hc;have ak:j<ps.length:=by rw [<-hl];exact (IT.mp hj).1
     obtain ⟨o,e,_⟩:=(s4 j _ c (IQ ak) hj).obj;exact JD e
   rw [bC (JU VP)];exact (hf c hc).1
 ·intro X hP hw hK hc i pins s σ H E I hf st hg;subst hP hw hK;obtain ⟨df,m,pm,hm,⟨xm,hxm,hlm⟩,hb⟩:=hg;obtain ⟨s1,s2,⟨old,s3,uz⟩,s4⟩:=st;obtain ⟨qs,e1,e2,h3⟩:=FC I ps TC hl df;have iq:qs.length=ps.length:=by rw [<-e1,IS]
  have ap:=apart I hf e2 λq hq=>let ⟨_,xs,h,_⟩:=h3 q hq;⟨xs,h⟩;have hA:X.A.in1.handled=none:=I.ok.hd hc;have lg:s.TypeIs (.ref z) "zip":=⟨_,s1,rfl⟩;have YY:∀{j:Nat} {q:ZQ},qs[j]? = some q->ps[j]? = some (q.κ,q.a)/\TC[j]? = some q.it:=λ{j q} h=>⟨by rw [<-e1,JC,h];rfl,by rw [<-e2,JC,h];rfl⟩;have gi:∀q∈qs,iS q.κ s.heap q.it q.a i/\rO q.κ s.heap q.a q.items:=λq hq=>by
   obtain ⟨j,hj⟩:=LO hq;exact ⟨s4 j _ _ (YY hj).1 (YY hj).2,(h3 q hq).1⟩
  have gI:fM s.heap TI (qs.map λp=>KW p.it).toArray:=by
   have:(qs.map λp=>KW p.it)=TC.map KW:=by rw [<-e2,JG];rfl
   rw [this];exact s2
  have qf:m<qs.length:=by rw [iq];exact (IT.mp hm).1
  have ag:=IQ qf;have ip:qs[m].items.size=i:=by
   have q1:=(YY ag).1;rw [hm] at q1;cases q1;obtain ⟨_,ys,r1,r2⟩:=h3 _ (LN qf);rw [I.sqK_inj hxm r1] at hlm;have:=r2.length;simp at this;omega
  have gk:∀(j:Nat) (q:ZQ),j<m->qs[j]? = some q->i<q.items.size:=λj q hj hq=>by
   obtain ⟨xs,x,q1,q2⟩:=hb j _ hj (YY hq).1;obtain ⟨_,ys,r1,r2⟩:=h3 q (fO hq);rw [I.sqK_inj q1 r1] at q2;have:=(IT.mp q2).1;have:=r2.length;simp at this;omega
  unfold pyNext;refine QH (wpAny_attempt (wpAny_callSpecial?_slot (name:=NJ "__next__") lg F.slot_zip_next (SA F.slot_zip_next lg F.entry_zip_next
   (Lm hA ap (by omega) s1 gI s3 (by omega) gi ag ip gk λh' tk e kp he=>?_) (F.args_zip_next_1 _))))
  obtain ⟨o,ho,hco⟩:=he;refine QH (wpAny_isInstance (T:="StopIteration") (b:=true) ⟨o,ho,hco⟩ isSubtype_stop (QN ⟨rfl,?_⟩));refine I.turnedL (t':=tk) (ch:=z::TI::TO::TC) (λc o hc q=>?_) hf;simp only [IU,not_or] at hc;refine kp c o hc.1 hc.2.2.1 (λq' XU e=>hc.2.2.2 ?_) q;rw [e,<-e2];exact OK XU
def gM:List T->List T->List T
 | x::xs,y::ys=>.tup [x,y]::gM xs ys
 | _,_=>[]
theorem qK:∀xs ys:List T,(gM xs ys).length=min xs.length ys.length
 | [],_=>by simp [gM]
 | _::_,[]=>by simp [gM]
 | _::xs,_::ys=>by simp [gM,qK xs ys]
theorem Cs:∀{xs ys:List T} {i:Nat} {t:T},(gM xs ys)[i]? = some t->∃x y,xs[i]? = some x/\ys[i]? = some y/\t = .tup [x,y]
 | [],_,_,_,h=>by simp [gM] at h
 | _::_,[],_,_,h=>by simp [gM] at h
 | x::_,y::_,0,_,h=>by simp [gM] at h;exact ⟨x,y,rfl,rfl,h.symm⟩
 | _::xs,_::ys,i+1,t,h=>by
  obtain ⟨x,y,h1,h2,h3⟩:=Cs (xs:=xs) (ys:=ys) (i:=i) (t:=t) (by simpa [gM] using h);exact ⟨x,y,by simpa using h1,by simpa using h2,h3⟩
def K2 (κ:Bool) (xs:List T):T:=match κ with
 | true=>.tup xs
 | false=>.lst xs
theorem wC {K:W.Frag} {H:Hp} {O:QF->Prop} {κ:Bool} {xs:List T} {a:QF} (h:Rp K H O (K2 κ xs) (.ref a)):∃vs,zW κ K H a vs/\cN K H O xs vs:=by
 cases κ
 ·obtain ⟨a',vs,e,h1,h2⟩:=Rp.sqL h;cases e;exact ⟨vs,h1,h2⟩
 ·obtain ⟨a',vs,e,h1,h2⟩:=Rp.sqT h;cases e;exact ⟨vs,h1,h2⟩
theorem Im {K:W.Frag} {κ:Bool} {a b:QF} {xs ys:List T}:Es K (GD K [(κ,a),(κ,b)]) (gM xs ys) (λH O=>Rp K H O (K2 κ xs) (.ref a)/\Rp K H O (K2 κ ys) (.ref b)):=by
 refine ⟨λH H' O O' k h=>⟨Rp.step k h.1,Rp.step k h.2⟩,λi H O h hi=>?_,λi H O x H' t h e hO y=>?_,λH O h=>?_⟩
 ·obtain ⟨vs,s1,r1⟩:=wC h.1;obtain ⟨ws,s2,r2⟩:=wC h.2;rw [qK] at hi;intro p hp;simp only [IU,MB,or_false] at hp;rcases hp with rfl | rfl
  ·exact ⟨vs,vs[i]'(by rw [r1.length];omega),s1,IQ _⟩
  ·exact ⟨ws,ws[i]'(by rw [r2.length];omega),s2,IQ _⟩
 ·obtain ⟨vs,s1,r1⟩:=wC h.1;obtain ⟨ws,s2,r2⟩:=wC h.2;obtain ⟨q,us,e1,hq,e2,lu,hu⟩:=y;subst e1;subst e2;obtain ⟨t1,t2,g1,g2,rfl⟩:=Cs e;obtain ⟨v1,a1,b1⟩:=r1.get g1;obtain ⟨v2,a2,b2⟩:=r2.get g2
  match us,lu with
  | [u1,u2],_=>
   have z1:=hu 0 _ u1 rfl rfl vs s1;have z2:=hu 1 _ u2 rfl rfl ws s2;rw [a1] at z1;cases z1;rw [a2] at z2;cases z2;have k:Kp O O H (upd H q (.tup [v1,v2])):=Kp.upd hq;exact ⟨k,λb o z=>by rw [bC (bF z hq)];exact z,q,_,rfl,.inl ⟨λz=>hO q z hq,cV⟩,v1,_,rfl,b1.step k,v2,_,rfl,b2.step k,rfl⟩
 ·obtain ⟨vs,s1,r1⟩:=wC h.1;obtain ⟨ws,s2,r2⟩:=wC h.2;have l1:=r1.length;have l2:=r2.length;refine ⟨λp hp=>?_,?_⟩
  ·simp only [IU,MB,or_false] at hp;rcases hp with rfl | rfl
   ·exact ⟨vs,s1⟩
   ·exact ⟨ws,s2⟩
  ·rw [qK]
   by_cases c:xs.length<=ys.length
   ·exact ⟨0,_,rfl,⟨vs,s1,by omega⟩,λj q hj=>absurd hj (NN _)⟩
   ·refine ⟨1,_,rfl,⟨ws,s2,by omega⟩,λj q hj hq=>?_⟩;obtain rfl:j=0:=by omega
    cases hq;exact ⟨vs,vs[min xs.length ys.length]'(by omega),s1,IQ _⟩
section
variable {X:Cx} {K:W.Frag} {pos:Pos} {Fr:FA}
def HH (K:W.Frag) (ta:TA):TI:=λσ H R=>ta σ H λvs H1=>∃κ a b xs ys,vs=[.ref a,.ref b]/\zW κ K H1 a xs/\zW κ K H1 b ys/\R (GD K [(κ,a),(κ,b)]) H1
theorem AK {l r:Expr} {ta:TA} {p VG:Pos} {elts:List Expr} {x1} (hg:Gl X "zip") (hm:X.mg "zip" = none) (ha:QA X [l,r] ta) (hs:cS l=false:=by rfl) (YR:cS r=false:=by rfl) :
  QI X (.Tuple elts x1 VG) (.Call (.Name "zip" p) [l,r] [] pos) (HH X.K ta):=⟨by
 intro pins s σ H R I h;refine Call_ (qH I hg hm boot_zip (PyProof.Rows.callWith_type1 (dM (ha.h pos pins s σ H _ I h) λus s1 ⟨vs,H1,I1,r1,q1⟩=>?_) (dP hs) (iB (by simp only [bV,YR];rfl))));obtain ⟨κ,a,b,xs,ys,rfl,ga,gb,q⟩:=q1;obtain ⟨u,v,rfl,ru,rv⟩:=bG.two r1;cases ru;cases rv;obtain ⟨ia,ra,qa⟩:=I1.sqK ga;obtain ⟨ib,rb,qb⟩:=I1.sqK gb;have fin:∀h',SJ h' (s1.heap.objs.size+4) (s1.heap.objs.size+2) (s1.heap.objs.size+3) .none->IsPair h' (s1.heap.objs.size+2) (.ref s1.heap.objs.size) (.ref (s1.heap.objs.size+1))->IsPair h' (s1.heap.objs.size+3) .none .none->
   iS κ h' s1.heap.objs.size a 0->iS κ h' (s1.heap.objs.size+1) b 0->(∀c o,s1.heap.get? c=some o->h'.get? c=some o)->
   QL (QV X.prog X.w) X.A (pyIter (.ref (s1.heap.objs.size+4))) (GN X pins σ (.Tuple elts x1 VG) R) X.xe { s1 with heap:=h' }:=λh' z1 z2 z3 z4 z5 kp=>by
  refine wpAny_pyIter_zip z1 ?_;refine ⟨s1.heap.objs.size+4,_,_,_,H1,rfl,I1.kept (t':=s1.toks) kp,Lc _ (s1.heap.objs.size+2) (s1.heap.objs.size+3) [(κ,a),(κ,b)] [s1.heap.objs.size,s1.heap.objs.size+1] rfl (by simp) (by simp) (HZ _),⟨z1,z2,⟨_,z3,rfl⟩,λj pq it hp hit=>?_⟩,λc hc=>?_,q⟩
  ·match j,hp,hit with
   | 0,hp,hit=>cases hp;cases hit;exact z4
   | 1,hp,hit=>cases hp;cases hit;exact z5
  ·have hle:s1.heap.objs.size<=c:=HP hc;exact I1.fpOk hle (I1.hok.fresh hle)
 cases κ
 ·exact call_zip_2 qa qb λh' z1 z2 z3 z4 z5 _ kp=>fin h' z1 z2 z3 z4 z5 kp
 ·exact Ld qa qb λh' z1 z2 z3 z4 z5 kp=>fin h' z1 z2 z3 z4 z5 kp⟩
def Y1 (Fr:FA):FI:=λE Q=>Fr E λrs E1=>match rs with
 | [x,y]=>(match vl E1 x,vl E1 y with
  | some (.lst xs),some (.lst ys)=>Q (gM xs ys) (oW E1 x++oW E1 y) E1
  | some (.tup xs),some (.tup ys)=>Q (gM xs ys) (oW E1 x++oW E1 y) E1
  | _,_=>False)
 | _=>False
theorem Kf {n:Nat} {l r:Expr} {p VG:Pos} {elts:List Expr} {x1} (eK:X.K=K) (hg:Gl X "zip") (hm:X.mg "zip" = none) (ha:QA X [l,r] (eC K n Fr)) (hs:cS l=false:=by rfl) (YR:cS r=false:=by rfl) :
  QI X (.Tuple elts x1 VG) (.Call (.Name "zip" p) [l,r] [] pos) (nE K (Y1 Fr)):=by
 subst eK;refine (AK hg hm ha hs YR).le λσ H R hn ⟨B,S,E,Q',hS,re,hF,lk⟩=>⟨B,S,E,_,hS,re,hF,λrs E1 vs H1 S1 q g TL rr hn=>?_⟩
 match rs,rr,q with
 | [x,y],⟨v,ws,e1,h1,u,ZU,e2,h2,h3⟩,q=>
  cases h3;subst e2;subst e1;have own:∀j∈oW E1 x++oW E1 y,∃k xs,E1[j]? = some (some (U.o k xs)):=λj hj=>by
   rcases JJ.mp hj with h | h
   ·exact sE j h
   ·exact sE j h
  simp only at q;split at q
  ·rename_i xs ys e1 e2;obtain ⟨a,vs,e3,vb,r1⟩:=TL.vl h1 e1;obtain ⟨b,us,e4,ve,r2⟩:=TL.vl h2 e2;refine ⟨false,a,b,vs,us,by rw [e3,e4],vb,ve,lk _ _ _ _ _ _ _ q g TL Im own λO k1 k2=>?_⟩;rw [<-e3,<-e4];exact ⟨m6 TL h1 e1 O k1 λj hj=>k2 j (by simp [hj]),m6 TL h2 e2 O k1 λj hj=>k2 j (by simp [hj])⟩
  ·rename_i xs ys e1 e2;obtain ⟨a,vs,e3,vb,r1⟩:=TL.vl h1 e1;obtain ⟨b,us,e4,ve,r2⟩:=TL.vl h2 e2;refine ⟨true,a,b,vs,us,by rw [e3,e4],vb,ve,lk _ _ _ _ _ _ _ q g TL Im own λO k1 k2=>?_⟩;rw [<-e3,<-e4];exact ⟨m6 TL h1 e1 O k1 λj hj=>k2 j (by simp [hj]),m6 TL h2 e2 O k1 λj hj=>k2 j (by simp [hj])⟩
  ·exact q.elim
 | [],_,q=>exact q.elim
 | [_],_,q=>exact q.elim
 | _::_::_::_,_,q=>exact q.elim
end
end L2
namespace My
open PySem L2 PyProof.Rows
theorem Bt (x y:Nat):KC y (x%y)=KC x y:=by
 rw [OE x y,Nat.gcd_rec y x,OE]
def rG (n d:Int):Int:=(if 0<d then n else -n)/((KC n.natAbs d.natAbs:Nat):Int)
def lY (n d:Int):Int:=(if 0<d then d else -d)/((KC n.natAbs d.natAbs:Nat):Int)
theorem Bj {n d:Int} {g:Nat} (hd:0<d) (hg:g=KC n.natAbs d.natAbs):(n/(g:Int)).natAbs<=n.natAbs/\1<=d/(g:Int)/\d/(g:Int)<=d/\KC (n/(g:Int)).natAbs (d/(g:Int)).natAbs=1:=by
 have g0:0<g:=by rw [hg];exact MV _ (by omega)
 have dn:(g:Int)∣n:=by rw [hg];exact KI.mpr (LV _ _)
 have dd:(g:Int)∣d:=by rw [hg];exact KI.mpr (LY _ _)
 have en:(n/(g:Int)).natAbs=n.natAbs/g:=by rw [Int.natAbs_ediv_of_dvd dn];simp
 have ed:(d/(g:Int)).natAbs=d.natAbs/g:=by rw [Int.natAbs_ediv_of_dvd dd];simp
 refine ⟨by rw [en];exact Nat.div_le_self _ _,?_,?_,?_⟩
 ·obtain ⟨k,hk⟩:=dd;have yf:(0:Int)<g:=by omega
  rw [hk,LL _ (by omega)];rcases Int.lt_or_le 0 k with h | h
  ·omega
  ·have:(g:Int)*k<=0:=NX (by omega) h;omega
 ·exact Int.ediv_le_self _ (by omega)
 ·rw [en,ed,Nat.gcd_div (by rw [hg];exact LV _ _) (by rw [hg];exact LY _ _),<-hg,Nat.div_self g0]
theorem kE {n d:Int} (hd:d≠0):(rG n d).natAbs<=n.natAbs/\1<=lY n d/\lY n d<=d.natAbs/\KC (rG n d).natAbs (lY n d).natAbs=1:=by
 unfold rG lY
 by_cases h:0<d
 ·rw [if_pos h,if_pos h];have:=Bj (n:=n) (d:=d) h rfl;refine ⟨this.1,this.2.1,?_,this.2.2.2⟩;have:=this.2.2.1;omega
 ·rw [if_neg h,if_neg h];have h':0 < -d:=by omega
  have:=Bj (n:=-n) (d:=-d) h' rfl;simp only [MJ] at this;refine ⟨this.1,this.2.1,?_,this.2.2.2⟩;have:=this.2.2.1;omega
abbrev Fr:=Int×Int
structure dY (p:Fr):Prop where
 d:1<=p.2
 g:KC p.1.natAbs p.2.natAbs=1
def low (n d:Int):Fr:=(rG n d,lY n d)
def hV (p q:Fr):Fr:=low (p.1*q.2+q.1*p.2) (p.2*q.2)
def iQ (p q:Fr):Fr:=low (p.1*q.2-q.1*p.2) (p.2*q.2)
def eO (p q:Fr):Fr:=low (p.1*q.1) (p.2*q.2)
def tM (p q:Fr):Fr:=low (p.1*q.2) (p.2*q.1)
def jJ (p:Fr):Fr:=(-p.1,p.2)
def val (p:Fr):Rat:=(p.1:Rat)/(p.2:Rat)
theorem iV {n d:Int} (hd:d≠0):dY (low n d):=⟨(kE hd).2.1,(kE hd).2.2.2⟩
theorem Ll {n d:Int} (hd:d≠0):rG n d*d=n*lY n d:=by
 have dn:((KC n.natAbs d.natAbs:Nat):Int)∣n:=KI.mpr (LV _ _);have dd:((KC n.natAbs d.natAbs:Nat):Int)∣d:=KI.mpr (LY _ _);have g0:((KC n.natAbs d.natAbs:Nat):Int)≠0:=by
  have:=MV n.natAbs (show 0<d.natAbs by omega);omega
 unfold rG lY;generalize ((KC n.natAbs d.natAbs:Nat):Int)=g at dn dd g0;obtain ⟨k,hk⟩:=dn;obtain ⟨m,hm⟩:=dd
 by_cases h:0<d
 ·rw [if_pos h,if_pos h,hk,hm,LL _ g0,LL _ g0];grind
 ·rw [if_neg h,if_neg h,hk,hm,<-Int.mul_neg,<-Int.mul_neg,LL _ g0,LL _ g0];grind
theorem jM {n d:Int} (hd:d≠0):val (low n d)=(n:Rat)/(d:Rat):=by
 have h:=Ll (n:=n) hd;have h1:=(kE (n:=n) hd).2.1;have a1:((lY n d:Int):Rat)≠0:=by
  have:lY n d≠0:=by omega
  exact_mod_cast this
 have a2:(d:Rat)≠0:=by exact_mod_cast hd
 have h':((rG n d:Int):Rat)*(d:Rat)=(n:Rat)*((lY n d:Int):Rat):=by exact_mod_cast h
 show ((rG n d:Int):Rat)/((lY n d:Int):Rat)=(n:Rat)/(d:Rat);grind
theorem dY.ne {p:Fr} (h:dY p):p.2≠0:=by have:=h.d;omega
theorem dY.neR {p:Fr} (h:dY p):(p.2:Rat)≠0:=by have:=h.ne;exact_mod_cast this
theorem gP {p q:Fr} (hp:dY p) (hq:dY q):p.2*q.2≠0:=ND hp.ne hq.ne
theorem iX {p q:Fr} (hp:dY p) (hq:dY q):val (hV p q)=val p+val q:=by
 have h1:=hp.neR;have h2:=hq.neR;unfold hV;rw [jM (gP hp hq)];unfold val
 push_cast
 grind
theorem g9 {p q:Fr} (hp:dY p) (hq:dY q):val (iQ p q)=val p-val q:=by
 have h1:=hp.neR;have h2:=hq.neR;unfold iQ;rw [jM (gP hp hq)];unfold val
 push_cast
 grind
theorem dQ {p q:Fr} (hp:dY p) (hq:dY q):val (eO p q)=val p*val q:=by
 have h1:=hp.neR;have h2:=hq.neR;unfold eO;rw [jM (gP hp hq)];unfold val
 push_cast
 grind
theorem Jc {p:Fr} (hp:dY p):val (jJ p) = - val p:=by
 have h1:=hp.neR;show ((-p.1:Int):Rat)/(p.2:Rat) = - ((p.1:Rat)/(p.2:Rat))
 push_cast
 grind
theorem iW {p q:Fr} (hp:dY p) (hq:dY q):dY (hV p q):=iV (gP hp hq)
theorem eD {p q:Fr} (hp:dY p) (hq:dY q):dY (iQ p q):=iV (gP hp hq)
theorem bM {p q:Fr} (hp:dY p) (hq:dY q):dY (eO p q):=iV (gP hp hq)
theorem xY {p:Fr} (hp:dY p):dY (jJ p):=⟨hp.d,by show KC (-p.1).natAbs p.2.natAbs=1;rw [MJ];exact hp.g⟩
theorem jN (n:Int):dY (n,1):=⟨by show (1:Int)<=1;decide,by simp⟩
theorem eJ {p q:Fr} (hp:dY p) (hq:dY q) (h:val p=val q):p=q:=by
 have h1:=hp.neR;have h2:=hq.neR;have e:p.1*q.2=q.1*p.2:=by
  unfold val at h;have h':(p.1:Rat)*q.2=q.1*p.2:=by grind
  exact_mod_cast h'
 have en:p.1.natAbs*q.2.natAbs=q.1.natAbs*p.2.natAbs:=by rw [<-KG,<-KG,e]
 have d1:p.2.natAbs∣q.2.natAbs:=by
  have:p.2.natAbs∣p.1.natAbs*q.2.natAbs:=by rw [en];exact OX _ _
  exact Nat.Coprime.dvd_of_dvd_mul_left (show NZ p.2.natAbs p.1.natAbs by unfold NZ;rw [OE];exact hp.g) this
 have d2:q.2.natAbs∣p.2.natAbs:=by
  have:q.2.natAbs∣q.1.natAbs*p.2.natAbs:=by rw [<-en];exact OX _ _
  exact Nat.Coprime.dvd_of_dvd_mul_left (show NZ q.2.natAbs q.1.natAbs by unfold NZ;rw [OE];exact hq.g) this
 have ed:p.2.natAbs=q.2.natAbs:=Nat.dvd_antisymm d1 d2;have zi:p.2=q.2:=by have:=hp.d;have:=hq.d;omega
 have e2:p.1=q.1:=by
  rw [zi] at e;exact Int.eq_of_mul_eq_mul_right hq.ne e
 exact Prod.ext e2 zi
theorem oU {x e:Nat} (h:x<2^e) (he:e<=8000):x<2^8000:=JH h (LJ (by decide) he)
theorem bN {x y:Int} {e f:Nat} (hx:x.natAbs<2^e) (hy:y.natAbs<2^f):(x*y).natAbs<2^(e+f):=by
 rw [KG,Nat.pow_add];exact Nat.mul_lt_mul'' hx hy
theorem xH {x y:Int} {e:Nat} (hx:x.natAbs<2^e) (hy:y.natAbs<2^e):(x+y).natAbs<2^(e+1):=by
 have:=Int.natAbs_add_le x y;rw [Nat.pow_succ];omega
theorem jL {x y:Int} {e:Nat} (hx:x.natAbs<2^e) (hy:y.natAbs<2^e):(x-y).natAbs<2^(e+1):=by
 rw [Int.sub_eq_add_neg];exact xH hx (by rw [MJ];exact hy)
theorem zZ {p q:Fr} (hp:dY p) (hq:dY q) (h:q.1≠0):val (tM p q)=val p/val q:=by
 have h1:=hp.neR;have h2:=hq.neR;have h3:(q.1:Rat)≠0:=by exact_mod_cast h
 unfold tM;rw [jM (ND hp.ne h)];unfold val
 push_cast
 grind
theorem Bv {p q:Fr} (hp:dY p) (h:q.1≠0):dY (tM p q):=iV (ND hp.ne h)
def sz (p:Fr):Nat:=OV (OY p.1.natAbs) (OY p.2.natAbs)+1
theorem gJ (p:Fr):p.1.natAbs<2^sz p:=JH Nat.lt_log2_self (LJ (by decide) (Nat.succ_le_succ (PL _ _)))
theorem cG (p:Fr):p.2.natAbs<2^sz p:=JH Nat.lt_log2_self (LJ (by decide) (Nat.succ_le_succ (OW _ _)))
theorem Rg {n e:Nat} (h:n<2^e) (he:1<=e):OY n+1<=e:=by
 by_cases c:n=0
 ·subst c;have:OY 0=0:=by simp
  omega
 ·exact (OM c).mpr h
theorem oE {p:Fr} {e:Nat} (h1:p.1.natAbs<2^e) (h2:p.2.natAbs<2^e) (he:1<=e):sz p<=e:=by
 have a:=Rg h1 he;have b:=Rg h2 he;unfold sz;have:OV (OY p.1.natAbs) (OY p.2.natAbs)<=e-1:=NU.mpr ⟨by omega,by omega⟩;omega
theorem Tz (p:Fr):1<=sz p:=by unfold sz;omega
theorem sW {n d:Int} {e:Nat} (hd:d≠0) (h1:n.natAbs<2^e) (h2:d.natAbs<2^e) (he:1<=e):sz (low n d)<=e:=by
 have lf:=kE (n:=n) hd;refine oE (JO lf.1 h1) ?_ he;show (lY n d).natAbs<2^e;omega
theorem Rw {p q:Fr} (hp:dY p) (hq:dY q):sz (iQ p q)<=sz p+sz q+1:=
 sW (gP hp hq) (jL (bN (gJ p) (cG q)) (by rw [Nat.add_comm];exact bN (gJ q) (cG p))) (JH (bN (cG p) (cG q)) (LJ (by decide) (by omega))) (by omega)
theorem qA {p q:Fr} (hp:dY p) (hq:dY q):sz (eO p q)<=sz p+sz q:=
 sW (gP hp hq) (bN (gJ p) (gJ q)) (bN (cG p) (cG q)) (by have:=Tz p;omega)
theorem Ky {p q:Fr} (hp:dY p) (h:q.1≠0):sz (tM p q)<=sz p+sz q:=
 sW (ND hp.ne h) (bN (gJ p) (cG q)) (bN (cG p) (gJ q)) (by have:=Tz p;omega)
theorem S5 (p:Fr):sz (jJ p)=sz p:=by unfold sz jJ;simp
theorem iZ {g:FG} {F:FS} {D:ET} {items:List T} {E:En} (W:Nat->En->Prop) (h0:W 0 E)
  (hs:∀i x rest E,items[i]? = some x->W i E->(∀E',W (i+1) E'->fA g F D rest E')->fA g F D (x::rest) E) (hd:∀E,W items.length E->D.nx E):fA g F D items E:=by
 have key:∀n i E,items.length-i=n->i<=items.length->W i E->fA g F D (items.drop i) E:=by
  intro n
  induction n with
  | zero=>
   intro i E e hi h;obtain rfl:i=items.length:=by omega
   rw [MI];exact hd E h
  | succ n ih=>
   intro i E e hi h;have VP:i<items.length:=by omega
   rw [LR VP];exact hs i _ _ E (IQ VP) h λE' h'=>ih (i+1) E' (by omega) (by omega) h'
 exact key _ 0 E rfl (LM _) h0
theorem vI {g:FG} {Fe:FE} {items:List T} {E:En} {Q:En->Prop} (W:Nat->En->Prop) (h0:W 0 E)
  (hs:∀i x rest E,items[i]? = some x->W i E->(∀E',W (i+1) E'->fG g Fe rest E' Q)->fG g Fe (x::rest) E Q) (hd:∀E,W items.length E->Q E):fG g Fe items E Q:=by
 have key:∀n i E,items.length-i=n->i<=items.length->W i E->fG g Fe (items.drop i) E Q:=by
  intro n
  induction n with
  | zero=>
   intro i E e hi h;obtain rfl:i=items.length:=by omega
   rw [MI];exact hd E h
  | succ n ih=>
   intro i E e hi h;have VP:i<items.length:=by omega
   rw [LR VP];exact hs i _ _ E (IQ VP) h λE' h'=>ih (i+1) E' (by omega) (by omega) h'
 exact key _ 0 E rfl (LM _) h0
def fr (p:Fr):T:=.tup [.int p.1,.int p.2]
def vc (x y:Fr):T:=.tup [fr x,fr y]
theorem Zu (p q:Fr):iG (fr p) (fr q)=decide (p=q):=by
 rw [MG];simp [fr,L2.iG,L2.rM,Prod.ext_iff]
theorem X7 (x y x' y':Fr):iG (vc x y) (vc x' y')=decide (x=x'/\y=y'):=by
 rw [MG];simp [vc,L2.iG,L2.rM,Zu]
def Ik (i j:Int):Prop:=Kc i j\/Wh i j
theorem aS {X:Cx}:mU X (RL .Mult) (rI Ik λi j=>.int (i*j)):=by
 intro pins s σ H x y v u Q I rx ry h;obtain ⟨i,j,e1,e2,hc,q⟩:=h;rcases hc with hc | hc
 ·exact Vk pins s σ H x y v u Q I rx ry ⟨i,j,e1,e2,hc,q⟩
 ·exact M4 pins s σ H x y v u Q I rx ry ⟨i,j,e1,e2,hc,q⟩
theorem eZ {i j:Int} {e:Nat} (h1:i.natAbs<2^e) (h2:j.natAbs<2^e) (he:e<=8000):Ik i j:=.inl ⟨oU h1 he,oU h2 he⟩
theorem uZ {i j:Int} (h1:i.natAbs<2^60):Ik i j:=.inr (.inl (by omega))
theorem vC {i j:Int} (h1:j.natAbs<2^60):Ik i j:=.inr (.inr (by omega))
structure Txt (mg:Str->Option Value):Prop where
 n_isinstance:mg "isinstance" = none
 n_abs:mg "abs" = none
 n_divmod:mg "divmod" = none
 n_min:mg "min" = none
 n_max:mg "max" = none
 n_all:mg "all" = none
 n_len:mg "len" = none
 n_int:mg "int" = none
 n_bool:mg "bool" = none
 n_tuple:mg "tuple" = none
 n_list:mg "list" = none
 n_str:mg "str" = none
 n_range:mg "range" = none
 n_enumerate:mg "enumerate" = none
 n_zip:mg "zip" = none
structure tW (mg:Str->Option Value) (K:W.Frag) (x:Str) (t:L2.T):Prop where
 ex:∃a,mg x=some (.ref a)/\∀H O,Rp K H O t (.ref a)
theorem sC {X:Cx} {K:W.Frag} {x:Str} {t:L2.T} {pos:Pos} (hg:Gl X x) (c:tW X.mg K x t) (hd:(x==("__debug__":Str))=false:=by decide):QE X (.Name x pos) (aQ K (fC t)):=by
 obtain ⟨a,h1,h2⟩:=c.ex;exact QE.le (t:=tC (.ref a)) ⟨Ke (v:=.ref a) hg h1 rfl hd⟩ λσ H Q hl ⟨B,S,E,Q',hS,re,hF,lk⟩=>lk _ _ _ _ _ hF .refl re (h2 _ _)
theorem kU {K:W.Frag} {a:QF} {od:Option QF} {i j:Int} {t u:Tok} {n:Nat} {sl:Array (Option Value)} (h:K.lookup a=some ⟨.type "tuple",od,.seq #[.int i t,.int j u] n,sl⟩) (H:Hp) (O:QF->Prop):Rp K H O (.tup [.int i,.int j]) (.ref a):=
 ⟨a,[.int i,.int j],rfl,.inr ⟨_,_,n,h,rfl,rfl,by show 2<=QP;decide,.cons ⟨t,rfl⟩ (.cons ⟨u,rfl⟩ .nil)⟩,_,_,rfl,rfl,_,_,rfl,rfl,rfl⟩
end My
namespace My
open PySem L2 PyProof.Rows
end My
namespace L2
open PySem PySem.Spec PyProof.Rows
section
variable {X:Cx} {K:W.Frag} {pos:Pos} {I:FI} {g:FG} {Fb:FB} {Fe:FE}
theorem vX {target elt iter c:Expr} {scope:RF} {N':List Str} {cap:List (Nat×Bool)} {t:Nat} (hc:X.calm=true) (S:bK X N' scope t (cap.map (·.1))) (ho:kL cap=true) (ZV:(cap.map (·.1)).Nodup) (hi:QI X target iter (nE K I))
  (hg:∀C s3 H3 fp,QG (cO X N' scope C s3 H3 fp) target (rQ K g)) (hb:∀C s3 H3 fp,QT (cO X N' scope C s3 H3 fp) c (eU K Fb)) (he:∀C s3 H3 fp,QE (cO X N' scope C s3 H3 fp) elt (aQ K Fe)) (hs:∀x,QX iter X.env x=pure x:=by intro _;rfl) :
  QE X (.ListComp elt [⟨target,iter,[c],0⟩] scope pos) (aQ K (zI t cap I g Fb Fe)):=
 QE.le (t:=uL t (cap.map (·.1)) (nE K I) (Hv none K g) (Sn none K Fb) (vS none K Fe)) ⟨Bk hc S hi.h (λC s3 H3 fp=>(hg C s3 H3 fp).gd.h) (λC s3 H3 fp=>(hb C s3 H3 fp).bd.h.one) (λC s3 H3 fp=>(he C s3 H3 fp).ed.h) hs⟩ λσ H Q hl h=>vW (d:=none) (d':=none) S ho ZV hl (λ_ _ _ z=>by cases z) ⟨(λ_ z=>by cases z),h⟩
end
end L2
namespace L2
open PySem PySem.Spec PyProof.Rows
end L2
namespace L2
open PySem PySem.Spec PyProof.Rows
def EC:En->Bool
 | []=>true
 | some (.o false _)::_=>false
 | _::E=>EC E
section
variable {K:W.Frag} {B:QF->Prop} {H H':Hp} {S S':St} {E E':En} {σ:St}
def rJ (E:En):List R->Option (List T×En)
 | []=>some ([],E)
 | .p t::rs=>(rJ E rs).map λz=>(t::z.1,z.2)
 | .s i::rs=>match E[i]? with
  | some (some (.o false xs))=>(rJ (E.set i (some (.p (.lst xs)))) rs).map λz=>(.lst xs::z.1,z.2)
  | some (some (.p t))=>(rJ E rs).map λz=>(t::z.1,z.2)
  | _=>none
theorem nZ:∀{rs:List R} {vs:List V} {E:En} {z:List T×En},RE K B H S E->Nu K B H S E rs vs->rJ E rs=some z->RE K B H S z.2/\(∀b,Ow B S z.2 b->Ow B S E b)/\cN K H (Ow B S z.2) z.1 vs
 | [],vs,E,z,re,h,e=>by cases e;exact ⟨re,λb z=>z,h⟩
 | .p t::rs,_,E,z,re,⟨v,ws,e1,h1,h2⟩,e=>by
  cases q:rJ E rs with
  | none=>rw [rJ,q] at e;cases e
  | some y=>
   rw [rJ,q] at e;cases e;obtain ⟨r1,r2,r3⟩:=nZ re h2 q;exact ⟨r1,r2,v,ws,e1,Rp.step (Kp.less r2) h1,r3⟩
 | .s i::rs,_,E,z,re,⟨v,ws,e1,h1,h2⟩,e=>by
  unfold rJ at e;split at e
  ·rename_i xs hE;obtain ⟨ref,of⟩:=re.frz hE;cases q:rJ (E.set i (some (.p (.lst xs)))) rs with
   | none=>rw [q] at e;cases e
   | some y=>
    rw [q] at e;cases e;have dk:Nu K B H S (E.set i (some (.p (.lst xs)))) rs ws:=Nu.step ⟨Kp.less λb z=>(of b z).1,[],by simp⟩ h2;obtain ⟨r1,r2,r3⟩:=nZ ref dk q;have hi:i<E.length:=(IT.mp hE).1;obtain ⟨w,p1,p2⟩:=ref.pure i (.lst xs) (by rw [KO hi]);have h1:S[i]? = some (some v):=h1;rw [h1] at p1;cases p1;exact ⟨r1,λb z=>(of b (r2 b z)).1,v,ws,e1,Rp.step (Kp.less r2) p2,r3⟩
  ·rename_i t hE;cases q:rJ E rs with
   | none=>rw [q] at e;cases e
   | some y=>
    rw [q] at e;cases e;obtain ⟨r1,r2,r3⟩:=nZ re h2 q;obtain ⟨w,p1,p2⟩:=re.pure i t hE;have h1:S[i]? = some (some v):=h1;rw [h1] at p1;cases p1;exact ⟨r1,r2,v,ws,e1,Rp.step (Kp.less r2) p2,r3⟩
  ·cases e
end
section
variable {X:Cx} {K:W.Frag} {pos:Pos} {es:List Expr} {Fr:FA}
def CM (Fr:FA):FE:=λE Q=>Fr E λrs E1=>o1 (rJ E1 rs) λz=>Q (.s z.2.length) (z.2++[some (.o false z.1)])
theorem Vy {n:Nat} (h:QA X es (eC K n Fr)) (hz:n<=1000:=by decide):QE X (.List es pos) (aQ K (CM Fr)):=by
 refine (Ec h).le λσ H Q hl h=>args (Fr:=Fr) h λB S E rs vs H2 Q' hS re rr hn q lk=>⟨by rw [hn];exact KN (bY hz),λp hp=>?_⟩;obtain ⟨z,e,q⟩:=q.ex;obtain ⟨TL,ow1,rs1⟩:=nZ re rr e;obtain ⟨g,TJ⟩:=TL.lst hp rs1;exact lk _ _ _ _ _ q (Gr.trans ⟨Kp.less ow1,[],by simp⟩ g) TJ (by rw [<-TL.len];exact j9)
end
end L2
namespace L2
open PySem PySem.Spec PyProof.Rows
end L2
namespace L2
open PySem PySem.Spec PyProof.Rows
end L2
namespace L2
open PySem PySem.Spec PyProof.Rows
end L2
namespace L2
open PySem PySem.Spec PyProof.Rows
end L2
namespace L2
open PySem PySem.Spec PyProof.Rows
section
variable {X:Cx} {e:Expr} {es:List Expr} {pos:Pos} {K:W.Frag} {Fr:FA}
theorem Mw (hc:X.calm=true):gQ X (.builtin "max") (λxs H Q=>∃a b:Int,xs=[.int a,.int b]/\Q (.int (if a<b then b else a)) H):=by
 intro pins s σ H xs us Q I r h;obtain ⟨a,b,rfl,q⟩:=h;obtain ⟨u,v,rfl,rx,ry⟩:=bG.two r;obtain ⟨t,rfl⟩:=rx;obtain ⟨t',rfl⟩:=ry;refine max_two_ints (I.ok.hd hc) λh' tk hk=>?_
 by_cases c:a<b
 ·simp only [if_pos c] at q ⊢;exact ⟨.int b,H,I.kept hk,⟨_,rfl⟩,q⟩
 ·simp only [if_neg c] at q ⊢;exact ⟨.int a,H,I.kept hk,⟨_,rfl⟩,q⟩
def EM (Fr:FA):FE:=λE Q=>Fr E λrs E1=>match rs with
 | [x,y]=>i2 (vl E1 x) (vl E1 y) λi j=>Q (.p (.int (if i<j then j else i))) E1
 | _=>False
theorem J1 {n:Nat} {p:Pos} (hc:X.calm=true) (hg:Gl X "max") (hm:X.mg "max" = none) (ha:QA X (e::es) (eC K n Fr)) (hs:bV (e::es)=true:=by rfl):QE X (.Call (.Name "max" p) (e::es) [] pos) (aQ K (EM Fr)):=by
 refine (fS (Mw hc) hg hm boot_max ha (by decide) (by decide) hs).le λσ H Q hl h=>args (Fr:=Fr) h λB S E rs vs H2 Q' hS re rr hn q lk=>?_
 match rs,rr,q with
 | [x,y],⟨v,ws,e1,h1,u,ZU,e2,h2,h3⟩,q=>
  cases h3;subst e2;subst e1;obtain ⟨i,j,e3,e4,q⟩:=i2.ex q;exact ⟨i,j,by rw [re.int h1 e3,re.int h2 e4],lk _ _ _ _ _ q .refl re rfl⟩
 | [],_,q=>exact q.elim
 | [_],_,q=>exact q.elim
 | _::_::_::_,_,q=>exact q.elim
end
end L2
namespace HT
open PySem PySem.Spec PyProof.Rows
end HT
namespace HT
open PySem PySem.Spec PyProof.Rows
end HT
namespace L2
open PySem PySem.Spec PyProof.Rows
section
variable {X:Cx} {K:W.Frag} {a b e:Expr} {te:TE} {st:Option Expr} {ts:TO} {pos p2:Pos} {Fa Fb:FE} {G XB Gh:FO}
def HA (Fa:FE) (G:FO):FE:=λE Q=>Fa E λx E1=>G E1 λk E2=>k=some (-1)/\match vl E2 x with
 | some (.tup xs)=>Q (.p (.tup xs.reverse)) E2
 | _=>False
def GA (Fa:FE) (XB Gh:FO):FE:=λE Q=>Fa E λx E1=>XB E1 λlo E2=>Gh E2 λhi E3=>match vl E3 x with
 | some (.tup xs)=>¬(HT.sIx xs.length 0 lo=0/\HT.sIx xs.length xs.length hi=xs.length)/\Q (.p (.tup (i6 xs lo hi))) E3
 | _=>False
theorem qB {lo hi:Option Expr} (eK:X.K=K) (he:QE X e (aQ K Fa)) (hl:QO X lo (rH K XB)) (hu:QO X hi (rH K Gh)):QE X (.Subscript e (.Slice lo hi none p2) pos) (aQ K (GA Fa XB Gh)):=by
 subst eK;refine (sQ R8 he hl hu).le λσ H Q _ ⟨B,S,E,Q',⟨τ,hS⟩,re,hF,lk⟩=>⟨B,S,E,_,⟨τ,hS⟩,re,hF,λx E1 v H1 S1 q g1 TL rx=>?_⟩;obtain ⟨τ1,VW⟩:=g1.pre;refine ⟨B,S1,E1,_,⟨τ++τ1,by rw [VW,hS,IZ]⟩,TL,q,λl E2 H2 S2 q2 g2 UY=>?_⟩;obtain ⟨τ2,ZS⟩:=g2.pre;refine ⟨B,S2,E2,_,⟨τ++τ1++τ2,by rw [ZS,VW,hS,IZ,IZ,IZ]⟩,UY,q2,λh E3 H3 S3 q3 g3 UZ=>?_⟩;have la:=(rx.step g2).step g3;split at q3
 ·rename_i xs e1;obtain ⟨a,vs,e2,sq,rs⟩:=UZ.vl la e1;obtain ⟨nw,q3⟩:=q3;refine ⟨a,vs,e2,sq,by rw [rs.length];exact nw,λp hp=>?_⟩;obtain ⟨g,TJ,rp⟩:=UZ.tup hp (Qz (lo:=l) (hi:=h) rs);exact lk _ _ _ _ _ q3 (((g1.trans g2).trans g3).trans g) TJ rp
 ·exact q3.elim
def Z1 (Fa Fb:FE):FE:=λE Q=>Fa E λx E1=>Fb E1 λy E2=>match vl E2 x,vl E2 y with
 | some (.tup (t::xs)),some (.tup (u::ys))=>xs.length+ys.length<=900/\Q (.p (.tup (t::xs++u::ys))) E2
 | some (.tup (_::xs)),some (.tup [])=>xs.length<=900/\Q x E2
 | _,_=>False
theorem Ip (eK:X.K=K) (ha:QE X a (aQ K Fa)) (hb:QE X b (aQ K Fb)):QE X (.BinOp a .Add b pos) (aQ K (Z1 Fa Fb)):=by
 subst eK;refine (Jj Vz ha hb).le λσ H Q hl h=>two (Fa:=Fa) (Fb:=Fb) h λB S E x y v w H2 Q' hS re rx ry q lk=>?_;split at q
 ·rename_i t xs u ys e1 e2;obtain ⟨hz,q⟩:=q;obtain ⟨p,vs,rfl,sq,rs⟩:=re.vl rx e1;obtain ⟨p',aa,rfl,lh,cj⟩:=re.vl ry e2;have l1:=rs.length;have l2:=cj.length;rw [JE] at l1 l2;refine ⟨p,p',vs,aa,rfl,rfl,sq,lh,λz=>by rw [z] at l1;simp at l1,KN (bY (by omega)),λz=>by rw [z] at l2;simp at l2,λ_ r hr=>?_⟩;obtain ⟨g,TJ,rp⟩:=re.tup hr (rs.append cj);exact lk _ _ _ _ _ q g TJ rp
 ·rename_i t xs e1 e2;obtain ⟨hz,q⟩:=q;obtain ⟨p,vs,rfl,sq,rs⟩:=re.vl rx e1;obtain ⟨p',aa,rfl,lh,cj⟩:=re.vl ry e2;have l1:=rs.length;have l2:=cj.length;rw [JE] at l1;rw [LQ] at l2;exact ⟨p,p',vs,aa,rfl,rfl,sq,lh,λz=>by rw [z] at l1;simp at l1,KN (bY (by omega)),λ_=>lk _ _ _ _ _ q .refl re rx,λz=>absurd (List.length_eq_zero_iff.mp l2) z⟩
 ·exact q.elim
end
end L2
namespace L2
open PySem PySem.Spec PyProof.Rows
def EX:T->Option Bool
 | .non=>some false
 | .bl b=>some b
 | .int i=>some (i != 0)
 | .lst xs=>some (!xs.isEmpty)
 | .tup xs=>some (!xs.isEmpty)
 | _=>none
section
variable {X:Cx} {K:W.Frag} {e:Expr} {Fa:FE}
def DU (Fa:FE):FB:=λE Q=>Fa E λx E1=>o1 ((vl E1 x).bind EX) λb=>Q b E1
theorem L7 (eK:X.K=K) (h:QE X e (aQ K Fa)) (he:∀whole,isTrue e X.env whole=(do let v <-whole;standAt e.pos;RT [v] (truthy v)):=by intro _;rfl):QT X e (eU K (DU Fa)):=by
 subst eK;refine QT.le ⟨Qp h.h he⟩ λσ H Q z=>?_;obtain ⟨B,S,E,Q',⟨τ,hS⟩,re,hF,lk⟩:=z;refine ⟨B,S,E,_,⟨τ,hS⟩,re,hF,λr E1 v H1 S1 q g TL rr=>?_⟩;obtain ⟨b,e1,q⟩:=o1.ex q;obtain ⟨t,e2,e3⟩:=NV.mp e1;have rt:=TL.vl rr e2;have nl:∀{α β:Type} {xs:List α} {ys:List β},ys.length=xs.length->(!xs.isEmpty) = !ys.isEmpty:=λ{α β xs ys} h=>by
  cases xs<;>cases ys<;>simp at h ⊢
 refine ⟨b,?_,lk _ _ _ _ q g TL⟩;cases t with
 | non=>cases e3;have:v = .non:=rt;subst this;rfl
 | bl c=>
  have hv:v = .bl c:=rt;have hb:c=b:=Option.some.inj e3;subst hv;subst hb;rfl
 | int i=>cases e3;have:v = .int i:=rt;subst this;rfl
 | str x=>cases e3
 | tup xs=>
  cases e3;obtain ⟨p,vs,rfl,sq,rs⟩:=rt;exact .inr (.inl ⟨vs,sq,nl rs.length⟩)
 | lst xs=>
  cases e3;obtain ⟨p,vs,rfl,sq,rs⟩:=rt;exact .inl ⟨vs,sq,nl rs.length⟩
end
end L2
namespace L2
open PySem PySem.Spec PyProof.Rows
mutual
def jO:T->PyData
 | .non=>.none
 | .bl b=>.bool b
 | .int i=>.int i
 | .str x=>.str x
 | .tup xs=>.tuple (eN xs)
 | .lst xs=>.list (eN xs)
def eN:List T->List PyData
 | []=>[]
 | x::xs=>jO x::eN xs
end
mutual
def kI:T->Bool
 | .int i=>decide (i.natAbs.log2<1920)
 | .tup xs=>uB xs
 | .lst xs=>uB xs
 | _=>true
def uB:List T->Bool
 | []=>true
 | x::xs=>kI x&&uB xs
end
mutual
def lenB:T->Nat
 | .non=>4
 | .bl _=>5
 | .int _=>1921
 | .str x=>(reprText x).length
 | .tup xs=>l8 xs+3
 | .lst xs=>l8 xs+3
def l8:List T->Nat
 | []=>0
 | x::xs=>lenB x+2+l8 xs
end
mutual
theorem F4:∀{t:T},kI t=true->(jO t).showable=true
 | .non,_=>rfl
 | .bl _,_=>rfl
 | .int i,h=>h
 | .str _,_=>rfl
 | .tup xs,h=>Gf (xs:=xs) h
 | .lst xs,h=>Gf (xs:=xs) h
theorem Gf:∀{xs:List T},uB xs=true->PyData.showableAll (eN xs)=true
 | [],_=>rfl
 | x::xs,h=>by
  have h':kI x=true/\uB xs=true:=by simpa [uB] using h
  show ((jO x).showable&&PyData.showableAll (eN xs))=true;rw [F4 h'.1,Gf h'.2];rfl
end
mutual
theorem Zw:∀t:T,(jO t).hasDict=false
 | .non=>rfl
 | .bl _=>rfl
 | .int _=>rfl
 | .str _=>rfl
 | .tup xs=>Ed xs
 | .lst xs=>Ed xs
theorem Ed:∀xs:List T,PyData.hasDictAll (eN xs)=false
 | []=>rfl
 | x::xs=>by
  show ((jO x).hasDict||PyData.hasDictAll (eN xs))=false;rw [Zw x,Ed xs];rfl
end
mutual
theorem Ue:∀t:T,(jO t).depth<=dT t
 | .non=>IW _
 | .bl _=>IW _
 | .int _=>IW _
 | .str _=>IW _
 | .tup xs=>by have:=zK xs;simp only [jO,PyData.depth,dT];omega
 | .lst xs=>by have:=zK xs;simp only [jO,PyData.depth,dT];omega
theorem zK:∀xs:List T,PyData.depthAll (eN xs)<=Jw xs
 | []=>IW _
 | x::xs=>by
  have h1:=Ue x;have h2:=zK xs;simp only [eN,PyData.depthAll,Jw];exact NU.mpr ⟨KS h1 (PL _ _),KS h2 (OW _ _)⟩
end
end L2
namespace L2
open PySem PySem.Spec PyProof.Rows
end L2
namespace L2
open PySem PySem.Spec PyProof.Rows
end L2
namespace L2
open PySem PySem.Spec PyProof.Rows
end L2
namespace L2
open PySem PySem.Spec PyProof.Rows
section
variable {K:W.Frag} {B:QF->Prop} {H:Hp} {S:St} {E:En} {σ:St}
theorem RE.setO2 (re:RE K B H S E) (hS:∃τ,S=σ++τ) {i j a b:Nat} {k l:Bool} {xs ys:List T} (hj:j<σ.length) (ha:σ.length<=a) (pw:a<b) (h1:E[a]? = some (some (.o k xs))) (h2:E[b]? = some (some (.o l ys))) {v w:V} (hv:S[a]? = some (some v)) (hw:S[b]? = some (some w)) :
  RE K B H ((σ.set j (some w)).set i (some v)) (((E.take σ.length).set j (some (.o l ys))).set i (some (.o k xs)))/\∀c,Ow B ((σ.set j (some w)).set i (some v)) (((E.take σ.length).set j (some (.o l ys))).set i (some (.o k xs))) c->Ow B S E c:=by
 have hb:b<S.length:=(IT.mp hw).1;have lb:(S.take b).length=b:=by rw [KP];omega
 obtain ⟨r1,o1⟩:=re.setO (σ:=S.take b) (i:=j) ⟨S.drop b,(List.take_append_drop b S).symm⟩ (by omega) h2 hw;obtain ⟨τ,rfl⟩:=hS;have eS:((σ++τ).take b).set j (some w)=σ.set j (some w)++τ.take (b-σ.length):=by
  rw [List.take_append,MK (by omega),OD _ _ hj]
 rw [lb] at r1 o1;have e1:((E.take b).set j (some (.o l ys)))[a]? = some (some (.o k xs)):=by
  rw [JN (by omega),LF pw];exact h1
 have e2:(((σ++τ).take b).set j (some w))[a]? = some (some v):=by
  rw [JN (by omega),LF pw];exact hv
 obtain ⟨r2,o2⟩:=r1.setO (σ:=σ.set j (some w)) (i:=i) ⟨_,eS⟩ (by rw [NM];exact ha) e1 e2;have e3:((E.take b).set j (some (.o l ys))).take (σ.set j (some w)).length=(E.take σ.length).set j (some (.o l ys)):=by
  rw [NM,List.take_set,List.take_take,NO (by omega)]
 rw [e3] at r2 o2;exact ⟨r2,λc z=>o1 c (o2 c z)⟩
end
end L2
namespace L2
open PySem PySem.Spec PyProof.Rows
end L2
namespace L2
open PySem PySem.Spec PyProof.Rows
end L2
namespace L2
open PySem PySem.Spec PyProof.Rows
end L2
namespace L2
open PySem PySem.Spec PyProof.Rows
theorem Uw:RK "any" = some (.builtin "any"):=by decide +kernel
section
variable {X:Cx}
theorem Lg (hc:X.calm=true):gQ X (.builtin "any") (λxs H Q=>∃(p:QF) (bs:List Bool),xs=[.ref p]/\j4 X.K H p (bs.map V.bl)/\Q (.bl (bs.any id)) H):=by
 intro pins s σ H xs us Q I r h;obtain ⟨p,bs,rfl,hq,q⟩:=h;obtain ⟨u,rfl,rx⟩:=oR r;cases rx;obtain ⟨TC,rv,pl,hz⟩:=I.list hq;have WG:p≠s.heap.objs.size:=by
  obtain ⟨o,n,ho,_⟩:=pl;exact JU (JD ho)
 have hl:=rv.length;rw [IS] at hl;have hA:X.A.in1.handled=none:=I.ok.hd hc;refine call_any_walk (wpAny_pyIter_list pl.isList ?_);refine ⟨s.heap.objs.size,_,_,_,_,_,(λi=>bs.getD i false),rfl,Walks.list hA s.heap.objs.size p WG TC.toArray,⟨⟨_,JL _ rfl,rfl,rfl⟩,pl.isList.at λo e=>IX _ e⟩,?_,?_⟩
 ·intro i v s' Q' E' hv jn;have jq:TC[i]? = some v:=by simpa using hv
  have hi:i<TC.length:=(IT.mp jq).1;have hb:(bs.map V.bl)[i]? = some (V.bl bs[i]):=by
   rw [JC,IQ (by omega)];rfl
  obtain ⟨u,hu,ru⟩:=rv.get hb;rw [jq] at hu;cases hu;cases ru;have e:bs.getD i false=bs[i]:=by rw [JM,IQ (by omega)];rfl
  simp only [e] at jn;exact RM jn
 ·intro h' tk hk;have e:(LA TC.toArray.size).any (λi=>bs.getD i false)=bs.any id:=by
   rw [JI,<-hl];clear hl hz rv q hq pl WG;rw [MG,LW,LW];constructor
   ·rintro ⟨i,hi,h⟩;have hi:=LI.mp hi;rw [JM,IQ hi] at h;exact ⟨_,LN hi,h⟩
   ·rintro ⟨b,hb,h⟩;obtain ⟨i,hi,rfl⟩:=List.mem_iff_getElem.mp hb;refine ⟨i,LI.mpr hi,?_⟩;rw [JM,IQ hi];exact h
  rw [e];refine ⟨.bl _,H,?_,rfl,q⟩;exact I.kept λb o e=>hk b o (by simp;exact JU (JD e)) (IX _ e)
end
section
variable {X:Cx} {K:W.Frag} {pos:Pos} {Fr:FA} {Fa:FE} {e a:Expr} {es:List Expr}
def EB (Fr:FA):FE:=λE Q=>Fr E λrs E1=>match rs with
 | [x]=>(match vl E1 x with
  | some (.lst xs)=>o1 (lJ xs) λbs=>Q (.p (.bl (bs.any id))) E1
  | _=>False)
 | _=>False
theorem L4 {n:Nat} {p:Pos} (eK:X.K=K) (hc:X.calm=true) (hg:Gl X "any") (hm:X.mg "any" = none) (ha:QA X (e::es) (eC K n Fr)) (hs:bV (e::es)=true:=by rfl):QE X (.Call (.Name "any" p) (e::es) [] pos) (aQ K (EB Fr)):=by
 subst eK;refine (fS (Lg hc) hg hm Uw ha (by decide) (by decide) hs).le λσ H Q hl h=>args (Fr:=Fr) h λB S E rs vs H2 Q' hS re rr hn q lk=>?_
 match rs,rr,q with
 | [x],⟨v,ws,e1,h1,h2⟩,q=>
  cases h2;subst e1;simp only at q;split at q
  ·rename_i xs e2;obtain ⟨p,us,rfl,sq,rs⟩:=re.vl h1 e2;obtain ⟨bs,e3,q⟩:=o1.ex q;refine ⟨p,bs,rfl,by rw [<-Dp rs e3];exact sq,lk _ _ _ _ _ q .refl re rfl⟩
  ·exact q.elim
 | [],_,q=>exact q.elim
 | _::_::_,_,q=>exact q.elim
end
end L2
namespace L2
open PySem PySem.Spec PyProof.Rows
structure M2 (X:Cx) (o:Expr) (m:Str) (apos:Pos) (e f:Expr) (VX:Pos):Prop where
 base:RS o m X.env (RB o X.env)=RB o X.env
 few:((SD VX (QY [e,f] X.env)).all (λx=>!x.1)&&(backToKw VX (keywordEach [] X.env)).all (λx=>x.1.isSome)
 &&decide (([e,f]:List Expr).length+([]:List Keyword).length+(if ([]:List Keyword).isEmpty then 0 else 1)<30))=true
 line:(apos.endLine==VX.line)=true
 trees:SD VX (QY [e,f] X.env)=[(false,RB e X.env),(false,RB f X.env)]
def HC (H:Hp) (a:QF):Prop:=(∃TN,Rd H a (.dK TN))\/∃TN,Rd H a (.dT TN)
theorem Q0 {X:Cx} {pins:List (QF×Obj)} {σ:St} {H:Hp} {s:Shared} {a:QF} (I:aY X pins σ H s) (d:HC H a) :
  s.TypeIs (.ref a) "dict"/\(∀b,KW a = .ref b->∃ob,s.heap.get? b=some ob/\ob.dict=none)/\(a==RO)=false:=by
 rcases d with ⟨TN,e⟩ | ⟨TN,e⟩
 ·obtain ⟨_,hd,vs,_,dd⟩:=CO I.hok e;refine ⟨dd.typeIs,λb q=>?_,hd⟩;cases q;obtain ⟨ob,_,_,h1,h2,_⟩:=dd;exact ⟨ob,h1,h2.2.1⟩
 ·obtain ⟨_,hd,xs,_,dd⟩:=F6 I.hok e;refine ⟨dd.typeIs,λb q=>?_,hd⟩;cases q;obtain ⟨ob,_,_,h1,h2,_⟩:=dd;exact ⟨ob,h1,h2.2.1⟩
end L2
namespace L2
open PySem PySem.Spec PyProof.Rows
end L2
namespace L2
open PySem PySem.Spec PyProof.Rows
end L2
namespace L2
open PySem PySem.Spec PyProof.Rows
end L2
namespace L2
open PySem PySem.Spec PyProof.Rows
end L2
namespace L2
open PySem PySem.Spec PyProof.Rows
def s1 (x:Option T) (k:Str->Prop):Prop:=match x with
 | some (.str i)=>k i
 | _=>False
theorem s1.ex {x:Option T} {k:Str->Prop} (h:s1 x k):∃i,x=some (.str i)/\k i:=by
 unfold s1 at h;split at h
 ·exact ⟨_,rfl,h⟩
 ·exact h.elim
def s2 (x y:Option T) (k:Str->Str->Prop):Prop:=match x,y with
 | some (.str i),some (.str j)=>k i j
 | _,_=>False
theorem s2.ex {x y:Option T} {k:Str->Str->Prop} (h:s2 x y k):∃i j,x=some (.str i)/\y=some (.str j)/\k i j:=by
 unfold s2 at h;split at h
 ·exact ⟨_,_,rfl,rfl,h⟩
 ·exact h.elim
def si (x y:Option T) (k:Str->Int->Prop):Prop:=match x,y with
 | some (.str i),some (.int j)=>k i j
 | _,_=>False
theorem si.ex {x y:Option T} {k:Str->Int->Prop} (h:si x y k):∃i j,x=some (.str i)/\y=some (.int j)/\k i j:=by
 unfold si at h;split at h
 ·exact ⟨_,_,rfl,rfl,h⟩
 ·exact h.elim
abbrev big:Nat:=1000000
theorem Uo {n:Nat} (h:n<=big):n<=QP:=by rw [SU];unfold big at h;omega
section
variable {K:W.Frag} {B:QF->Prop} {H:Hp} {S:St} {E:En}
theorem RE.str (re:RE K B H S E) {r:R} {v:V} {i:Str} (h:RR K B H S E r v) (e:L2.vl E r=some (.str i)):v = .str i:=re.vl h e
end
section
variable {X:Cx} {K:W.Frag} {pos:Pos} {a b c e o:Expr} {es:List Expr} {Fa Fb Fc Fo:FE} {Fr:FA}
def EH (Fa Fb:FE):FE:=λE Q=>Fa E λx E1=>Fb E1 λy E2=>s2 (vl E2 x) (vl E2 y) λi j=>Q (.p (.bl (!(Builtin.Str.occurrences j i 0 j.length 1).isEmpty))) E2
def GH (Fa Fb:FE):FE:=λE Q=>Fa E λx E1=>Fb E1 λy E2=>si (vl E2 x) (vl E2 y) λi j=>i.length<=big/\o1 (lE i.cps.toList j) λc=>Q (.p (.str ⟨#[c]⟩)) E2
theorem J8 (eK:X.K=K) (ha:QE X a (aQ K Fa)) (hb:QE X b (aQ K Fb)) (hs:rS b):QE X (.Subscript a b pos) (aQ K (GH Fa Fb)):=by
 subst eK;refine (Zz Qr ha hb hs).le λσ H Q hl h=>two (Fa:=Fa) (Fb:=Fb) h λB S E x y v w H2 Q' hS re rx ry q lk=>?_;obtain ⟨i,j,e1,e2,c,q⟩:=q.ex;obtain ⟨d,e3,q⟩:=o1.ex q;exact .inr (.inr ⟨i,j,d,re.str rx e1,re.int ry e2,Uo c,e3,lk _ _ _ _ _ q .refl re rfl⟩)
end
end L2
namespace L2
open PySem PySem.Spec PyProof.Rows
open Classical in
noncomputable def hide (Z:QF->Prop) (H:Hp):Hp:=λb=>if Z b then none else H b
open Classical in
noncomputable def back (Z:QF->Prop) (H H':Hp):Hp:=λb=>if Z b then H b else H' b
section
variable {Z:QF->Prop} {H H':Hp} {b:QF} {o:HO}
theorem jU (h:Z b):hide Z H b=none:=if_pos h
theorem bZ (h:¬Z b):hide Z H b=H b:=if_neg h
theorem kB (h:H b=none):hide Z H b=none:=by unfold hide;split<;>first | rfl | exact h
theorem cU (h:hide Z H b=some o):¬Z b/\H b=some o:=by
 unfold hide at h;split at h
 ·cases h
 ·rename_i n;exact ⟨n,h⟩
theorem i9 (h:Z b):back Z H H' b=H b:=if_pos h
theorem dJ (h:¬Z b):back Z H H' b=H' b:=if_neg h
end
end L2
namespace L2
open PySem PySem.Spec PyProof.Rows
section
variable {X:Cx} {pins:List (QF×Obj)} {σ:St} {H H':Hp} {s s':Shared}
def Lq:HO->Prop
 | .lst _=>True
 | .dT _=>True
 | .dK _=>True
 | _=>False
theorem Lq.obj {P:QJ} {w:QM} {h:Heap} {a:QF} {o:HO} (hk:Lq o) (k:dW P w H h a o):∃ob,h.get? a=some ob/\(∀v,ob.data≠.cell v):=by
 cases o with
 | lst xs=>obtain ⟨_,TC,n,_,e⟩:=k;exact ⟨_,e,λv z=>by cases z⟩
 | dT TN=>obtain ⟨_,_,xs,_,ob,es,ep,e,_,d,_⟩:=k;exact ⟨_,e,λv z=>by rw [d] at z;cases z⟩
 | dK TN=>obtain ⟨_,_,xs,_,ob,es,ep,e,_,d,_⟩:=k;exact ⟨_,e,λv z=>by rw [d] at z;cases z⟩
 | _=>exact hk.elim
def kJ (h:Heap) (Z:List QF):List (QF×Obj):=Z.filterMap λc=>(h.get? c).map λo=>(c,o)
theorem Dj {h:Heap} {Z:List QF} {p:QF×Obj} (m:p∈kJ h Z):p.1∈Z/\h.get? p.1=some p.2:=by
 obtain ⟨c,mc,e⟩:=NQ.mp m;cases q:h.get? c with
 | none=>rw [q] at e;cases e
 | some o=>rw [q] at e;cases e;exact ⟨mc,q⟩
theorem Mk {h:Heap} {Z:List QF} {c:QF} {o:Obj} (m:c∈Z) (e:h.get? c=some o):(c,o)∈kJ h Z:=NQ.mpr ⟨c,m,by rw [e];rfl⟩
theorem aY.frame_none (I:aY X pins σ H s) {b:QF} (h:b∈X.fs):H b=none:=by
 obtain ⟨_,o,ho,_⟩:=I.ok.funs.mem h;exact I.base.free b o ho (I.ok.frf b h) λx=>I.ok.exfs b x h
theorem aY.hide (I:aY X pins σ H s) {Z:List QF} (hZ:∀c∈Z,∃o,H c=some o/\Lq o):aY X (pins++kJ s.heap Z) σ (L2.hide (·∈Z) H) s:=by
 have nl:∀{b:QF} {o:HO},H b=some o->¬Lq o->¬b∈Z:=λ{b o} h n z=>by
  obtain ⟨o',e,k⟩:=hZ b z;rw [h] at e;cases e;exact n k
 refine ⟨I.ok,I.os,I.bare,⟨I.base.keep,I.base.slot,λb o q n x=>kB (I.base.free b o q n x),I.base.there,λb xs q=>?_,λb o u q=>?_,λb ps q=>?_⟩,I.loc,I.cell,kB I.free,λx c q=>kB (I.freeC x c q),λp m=>?_,λa o e=>?_,I.len⟩
 ·have:=I.base.tups b xs q;rw [bZ (nl this λz=>z)];exact this
 ·have:=I.base.frzs b o u q;rw [bZ (nl this λz=>z)];exact this
 ·obtain ⟨more,this⟩:=I.base.tbls b ps q;exact ⟨more,by rw [bZ (nl this λz=>z)];exact this⟩
 ·rw [<-IZ] at m;rcases JJ.mp m with m | m
  ·obtain ⟨h1,h2,h3⟩:=I.pin p m;exact ⟨h1,kB h2,h3⟩
  ·obtain ⟨mz,e⟩:=Dj m;obtain ⟨o,eo,k⟩:=hZ p.1 mz;obtain ⟨ob,e2,dc⟩:=k.obj (I.hok p.1 o eo);rw [e] at e2;cases e2;refine ⟨e,jU mz,λc=>?_,λc=>?_,dc⟩
   ·rw [c,I.free] at eo;cases eo
   ·have hn:=I.frame_none c;rw [hn] at eo;cases eo
 ·obtain ⟨n,e⟩:=cU e;exact (I.hok a o e).stay (λ_ _ _ q=>q) (λb q=>by rw [bZ (nl q λz=>z)];exact q) (λb xs q=>by rw [bZ (nl q λz=>z)];exact q)
theorem aY.back (I:aY X pins σ H s) {Z:List QF} (hZ:∀c∈Z,∃o,H c=some o/\Lq o) {σ':St} {H1:Hp} (I1:aY X (pins++kJ s.heap Z) σ' H1 s') (ht:∀b xs,H b=some (.tup xs)->H1 b=some (.tup xs)):aY X pins σ' (L2.back (·∈Z) H H1) s'/\∀c∈Z,H1 c=none:=by
 have pin:∀c∈Z,∃ob,s.heap.get? c=some ob/\s'.heap.get? c=some ob/\H1 c=none:=λc m=>by
  obtain ⟨o,eo,k⟩:=hZ c m;obtain ⟨ob,e,_⟩:=k.obj (I.hok c o eo);obtain ⟨h1,h2,_⟩:=I1.pin (c,ob) (by rw [<-IZ];exact JJ.mpr (.inr (Mk m e)));exact ⟨ob,e,h1,h2⟩
 have gone:∀c∈Z,H1 c=none:=λc m=>let ⟨_,_,_,h⟩:=pin c m;h;have ir:∀{b:QF} {o:HO},H1 b=some o->¬b∈Z:=λ{b o} h m=>by rw [gone b m] at h;cases h
 refine ⟨⟨I1.ok,I1.os,I1.bare,⟨I1.base.keep,I1.base.slot,λb o q n x=>?_,I1.base.there,λb xs q=>?_,λb o u q=>?_,λb ps q=>?_⟩,I1.loc,I1.cell,?_,λx c q=>?_,λp m=>?_,λa o e=>?_,I1.len⟩,gone⟩
 ·by_cases z:b∈Z
  ·rw [i9 z];exact I.base.free b o q n x
  ·rw [dJ z];exact I1.base.free b o q n x
 ·have:=I1.base.tups b xs q;rw [dJ (ir this)];exact this
 ·have:=I1.base.frzs b o u q;rw [dJ (ir this)];exact this
 ·obtain ⟨more,this⟩:=I1.base.tbls b ps q;exact ⟨more,by rw [dJ (ir this)];exact this⟩
 ·by_cases z:X.env.locals∈Z
  ·rw [i9 z];exact I.free
  ·rw [dJ z];exact I1.free
 ·by_cases z:c∈Z
  ·rw [i9 z];exact I.freeC x c q
  ·rw [dJ z];exact I1.freeC x c q
 ·obtain ⟨h1,h2,h3⟩:=I1.pin p (by rw [<-IZ];exact JJ.mpr (.inl m));refine ⟨h1,?_,h3⟩
  by_cases z:p.1∈Z
  ·rw [i9 z];exact (I.pin p m).2.1
  ·rw [dJ z];exact h2
 ·by_cases z:a∈Z
  ·rw [i9 z] at e;obtain ⟨o',eo,k⟩:=hZ a z;rw [e] at eo;cases eo;obtain ⟨ob,g1,g2,_⟩:=pin a z;have hk:=I.hok a o e;cases o with
   | lst xs=>
    obtain ⟨y,TC,n,r,g⟩:=hk;rw [g1] at g;cases g;exact ⟨y,TC,n,r,g2⟩
   | dT TN=>
    obtain ⟨y,ys,xs,r,ob',es,ep,g,c⟩:=hk;rw [g1] at g;cases g;refine ⟨y,ys,xs,Paired.mapP r λp q z=>⟨z.1,?_,z.2.2⟩,ob,es,ep,g2,c⟩;have t1:=ht _ _ z.2.1;rw [dJ (ir t1)];exact t1
   | dK TN=>
    obtain ⟨y,ys,xs,r,ob',es,ep,g,c⟩:=hk;rw [g1] at g;cases g;exact ⟨y,ys,xs,r,ob,es,ep,g2,c⟩
   | _=>exact k.elim
  ·rw [dJ z] at e;exact (I1.hok a o e).stay (λ_ _ _ q=>q) (λb q=>by rw [dJ (ir q)];exact q) (λb xs q=>by rw [dJ (ir q)];exact q)
def lW.fr (D:lW) (Z:List QF) (H:Hp):lW where
 nx:=λσ H1=>(∀b xs,H b=some (.tup xs)->H1 b=some (.tup xs))/\((∀c∈Z,H1 c=none)->D.nx σ (L2.back (·∈Z) H H1))
 rt:=λv H1=>(∀b xs,H b=some (.tup xs)->H1 b=some (.tup xs))/\((∀c∈Z,H1 c=none)->D.rt v (L2.back (·∈Z) H H1))
 bk:=λσ H1=>(∀b xs,H b=some (.tup xs)->H1 b=some (.tup xs))/\((∀c∈Z,H1 c=none)->D.bk σ (L2.back (·∈Z) H H1))
 ct:=λσ H1=>(∀b xs,H b=some (.tup xs)->H1 b=some (.tup xs))/\((∀c∈Z,H1 c=none)->D.ct σ (L2.back (·∈Z) H H1))
def DW (t:TS):TS:=λD σ H=>∃Z:List QF,(∀c∈Z,∃o,H c=some o/\Lq o)/\t (D.fr Z H) σ (L2.hide (·∈Z) H)
theorem SP.back (I:aY X pins σ H s) {Z:List QF} (hZ:∀c∈Z,∃o,H c=some o/\Lq o) {D:lW} {f:Flow} (h:SP X (pins++kJ s.heap Z) (D.fr Z H) f s'):SP X pins D f s':=by
 cases f with
 | next=>
  obtain ⟨σ',H1,I1,ht,q⟩:=h;obtain ⟨I2,g⟩:=I.back hZ I1 ht;exact ⟨σ',_,I2,q g⟩
 | brk=>
  obtain ⟨σ',H1,I1,ht,q⟩:=h;obtain ⟨I2,g⟩:=I.back hZ I1 ht;exact ⟨σ',_,I2,q g⟩
 | cont=>
  obtain ⟨σ',H1,I1,ht,q⟩:=h;obtain ⟨I2,g⟩:=I.back hZ I1 ht;exact ⟨σ',_,I2,q g⟩
 | ret u=>
  obtain ⟨v,σ',H1,I1,rv,ht,q⟩:=h;obtain ⟨I2,g⟩:=I.back hZ I1 ht;exact ⟨v,σ',_,I2,rv,q g⟩
theorem QS.frame {st:QU} {t:TS} (h:QS X st t):QS X st (DW t):=⟨λpins s σ H D I ⟨Z,hZ,q⟩=>dM (h.h (pins++kJ s.heap Z) s σ _ _ (I.hide hZ) q) λf s' z=>SP.back I hZ z⟩
theorem QB.frame {st:List QU} {t:TS} (h:QB X st t):QB X st (DW t):=⟨λpins s σ H D I ⟨Z,hZ,q⟩=>dM (h.h (pins++kJ s.heap Z) s σ _ _ (I.hide hZ) q) λf s' z=>SP.back I hZ z⟩
def IG (t:TE):TE:=λσ H Q=>∃Z:List QF,(∀c∈Z,∃o,H c=some o/\Lq o)/\t σ (L2.hide (·∈Z) H) λv H1=>(∀b xs,H b=some (.tup xs)->H1 b=some (.tup xs))/\((∀c∈Z,H1 c=none)->Q v (L2.back (·∈Z) H H1))
theorem QE.frame {e:Expr} {t:TE} (h:QE X e t):QE X e (IG t):=⟨λpins s σ H Q I ⟨Z,hZ,q⟩=>dM (h.h (pins++kJ s.heap Z) s σ _ _ (I.hide hZ) q) λu s' ⟨v,H1,I1,rv,ht,q⟩=>by
  obtain ⟨I2,g⟩:=I.back hZ I1 ht;exact ⟨v,_,I2,rv,q g⟩⟩
end
end L2
namespace L2
open PySem PySem.Spec PyProof.Rows
def Kn (I:List Nat) (σ' σ:St):Prop:=∀i∈I,σ'[i]? = σ[i]?
theorem Kn.refl {I:List Nat} {σ:St}:Kn I σ σ:=λ_ _=>rfl
theorem Kn.trans {I:List Nat} {σ1 σ2 σ3:St} (a:Kn I σ1 σ2) (b:Kn I σ2 σ3):Kn I σ1 σ3:=λi h=>(a i h).trans (b i h)
theorem Kn.set {I:List Nat} {σ:St} {j:Nat} {x:Option V} (h:j∉I):Kn I (σ.set j x) σ:=λi m=>JN (show j≠i from λe=>h (e.symm ▸ m))
def lW.kp (D:lW) (i:List Nat) (σ:St):lW where
 nx:=λσ' H'=>Kn i σ' σ->D.nx σ' H'
 rt:=D.rt
 bk:=λσ' H'=>Kn i σ' σ->D.bk σ' H'
 ct:=λσ' H'=>Kn i σ' σ->D.ct σ' H'
def kA (i:List Nat) (K:W.Frag) (F:FS):TS:=λD σ H=>hJ K F (D.kp i σ) σ H
def As (i:List Nat) (K:W.Frag) (g:FG):TG:=λv σ H Q=>rQ K g v σ H λσ' H'=>Kn i σ' σ->Q σ' H'
def yN (i:List Nat) (K:W.Frag) (g:Wf):Nx:=λv σ H Q=>Bg K g v σ H λσ' H'=>Kn i σ' σ->Q σ' H'
theorem LS.kp {K:W.Frag} {B:QF->Prop} {H:Hp} {σ σ':St} {E:En} {DT:ET} {D:lW} {i:List Nat} (l:LS K B H σ' E DT (D.kp i σ)) (h:Kn i σ' σ):LS K B H σ' E DT (D.kp i σ'):=
 ⟨λa b c d e f k=>l.nx a b c d e f (k.trans h),l.rt,λa b c d e f k=>l.bk a b c d e f (k.trans h),λa b c d e f k=>l.ct a b c d e f (k.trans h)⟩
section
variable {X:Cx} {K:W.Frag} {st:QU} {WO cf jy body:List QU} {F G:FS} {Fa:FE} {Fp:FB} {e c:Expr} {pos:Pos} {i:List Nat} {g:FG}
theorem yB (h1:QS X st (kA i K F)) (h2:QB X WO (kA i K G)):QB X (st::WO) (kA i K (BY F G)):=
 (oX h1 h2).le λD σ H ⟨B,E,DT,re,hF,l⟩=>⟨B,E,_,re,hF,⟨λσ' H' E' hG g TJ hk=>⟨B,E',DT,TJ,gC hG,(l.step g).kp hk⟩,l.rt,l.bk,l.ct⟩⟩
theorem Rb (h1:QS X st (kA i K F)):QB X [st] (kA i K F):=Ee h1
theorem J0 (h:QE X e (aQ K Fa)):QS X (.Return (some e) pos) (kA i K (W9 Fa)):=
 (Uy h).le λD σ H hl ⟨B,E,DT,re,hF,l⟩=>⟨B,σ,E,_,⟨[],by simp⟩,re,hF,λr E' v H' S' q g TJ rr=>l.rt r E' v H' S' q g.kp TJ rr⟩
def AI:FS:=λD E=>D.ct E
theorem Hh:QS X (.Continue pos) (hJ K AI):=QS.le (t:=Zl) ⟨De⟩ λD σ H hl ⟨B,E,DT,re,hF,l⟩=>l.ct _ _ _ hF (Kp.refl _ _) re
theorem Hy (he:QE X e (aQ K Fa)) (hs:RN e none pos.line X.env=pure false:=by rfl):QS X (.Expr e pos) (kA i K (Zq Fa)):=
 (Ki he hs).le λD σ H hl ⟨B,E,DT,re,hF,l⟩=>Gg (P:=λ_ _ E'=>DT.nx E') re hF λr E' v H' S' q g TJ rr UY ow=>l.nx _ _ _ q (g.kp.trans (Kp.less ow)) UY Kn.refl
theorem xZ {j:Nat} {x:Str} {pos':Pos} (hN:X.N.Nodup) (hi:X.N[j]? = some x) (hx:Eh X.env.scope x) (he:QE X e (aQ K Fa)) (WG:j∉i) (hs:RN e (some (.Name x pos')) pos.line X.env=pure false:=by rfl)
  (hf:X.fn x=true\/X.env.scope.names.lookup x=some .local:=by first | exact .inl rfl | exact .inr rfl | assumption):QS X (.Assign [.Name x pos'] e pos) (kA i K (J3 j Fa)):=
 (xI hN hi hx he hs hf).le λD σ H hl ⟨B,E,DT,re,hF,l⟩=>⟨B,σ,E,_,⟨[],by simp⟩,re,hF,λr E' v H' S' q g TJ rr=>by
  obtain ⟨u,e1,q⟩:=q.ex;rw [<-re.len] at e1 q;obtain ⟨r1,ow⟩:=mO (i:=j) TJ g.pre rr e1;exact l.nx _ _ _ q (g.kp.trans (Kp.less ow)) r1 (Kn.set WG)⟩
theorem sG {j:Nat} {x:Str} (hN:X.N.Nodup) (hi:X.N[j]? = some x) (hx:Eh X.env.scope x) (WG:j∉i) (hf:X.fn x=true\/X.env.scope.names.lookup x=some .local:=by first | exact .inl rfl | exact .inr rfl | assumption):QG X (.Name x pos) (As i K (G3 j)):=
 (Kv hN hi hx hf).le λv σ H Q hl ⟨B,τ,E,u,Q',re,rp,hF,l⟩=>by
  have VP:j<σ.length:=by rw [hl];exact (IT.mp hi).1
  obtain ⟨r1,ow⟩:=re.setP (i:=j) rp;rw [OD _ _ VP] at r1 ow;exact l _ _ _ hF (Kp.less ow) r1 (by simp) (Kn.set WG)
theorem Ji:Fx X [] (yN i K Z7):=Hk.le λvs σ H Q ⟨B,τ,E,ts,Q',re,rp,hF,l⟩=>by
 cases ts with
 | nil=>exact ⟨rp,l _ _ _ hF (Kp.refl _ _) re rfl Kn.refl⟩
 | cons _ _=>exact hF.elim
theorem oA {es:List Expr} {gs:Wf} (h1:QG X e (As i K g)) (h2:Fx X es (yN i K gs)) (hs:(QZ (e::es) X.env).map (·.2)=SE e X.env::(QZ es X.env).map (·.2):=by rfl):Fx X (e::es) (yN i K (Zn g gs)):=
 (Bs h1 h2 hs).le λvs σ H Q ⟨B,τ,E,ts,Q',re,rp,hF,l⟩=>by
  cases ts with
  | nil=>exact hF.elim
  | cons t ts=>
   obtain ⟨v,r,e1,h1,h2⟩:=rp;exact ⟨v,r,e1,B,τ,E,t,_,re,h1,hF,λσ' H' E' q g TJ hl hk=>⟨B,τ,E',ts,Q',TJ,h2.step g,q,λσ2 H2 E2 q2 g2 UY br iu=>l _ _ _ q2 (g.trans g2) UY (br.trans hl) (iu.trans hk)⟩⟩
theorem Vb {k n:Nat} {es:List Expr} {gs:Wf} (eK:X.K=K) (hc:X.calm=true) (h:Fx X es (yN i K gs)) (hn:(QZ es X.env).length=n:=by rfl) (ZM:(QZ es X.env).findIdx? (·.1)=none:=by rfl):QG X (.Tuple es k pos) (As i K (Z0 n gs)):=by
 subst eK;refine (Uu hc h hn ZM).le λv σ H Q hl ⟨B,τ,E,t,Q',re,rp,hF,l⟩=>?_;cases t with
 | tup ts=>
  have YH:cond (Nat.beq ts.length n) (gs ts E Q') False:=hF;cases q:Nat.beq ts.length n with
  | false=>rw [q] at YH;exact YH.elim
  | true=>
   rw [q] at YH;obtain ⟨a,vs,rfl,sq,rs⟩:=rp.sqT;exact ⟨a,vs,rfl,sq,by rw [rs.length];exact Nat.eq_of_beq_eq_true q,B,τ,E,ts,Q',re,rs,YH,l⟩
 | _=>exact hF.elim
theorem G7 {tg iter:Expr} {I:FI} (hp:PassesOwn (QV X.prog X.w) X.A X.env X.xe) (hc:X.calm=true) (hi:QI X tg iter (nE K I)) (hg:QG X tg (As i K g)) (hb:QB X body (kA i K F)) (hs:∀x,QX iter X.env x=pure x:=by intro _;rfl) :
  QS X (.For tg iter body [] pos) (kA i K (W4 I g F)):=by
 refine (Ek hp hc hi hg hb hs).le λD σ H hl ⟨B,E,DT,re,hF,l⟩=>?_;refine ⟨B,σ,E,_,⟨[],by simp⟩,re,hF,λJ items us E1 H1 S1 gd q g1 TL ok _ dr=>?_⟩;obtain ⟨E2,e2,q⟩:=q.ex;replace q:=gC q;obtain ⟨f1,f2,f3,f4⟩:=zB TL e2;obtain ⟨c1,c2⟩:=f1.cut (E:=E) g1.pre re.len;have gs:Gs B H σ E H1 σ (E2.take E.length):=g1.kp.trans ((Kp.less f2).trans (Kp.less c2));have uc:gd H1 (Ow B σ (E2.take E.length)):=dr _ (λb z=>f2 b (c2 b z)) λj hj a ha z=>f3 j hj a ha (c2 a z);refine ⟨λn m σ' H'=>m=items.length-n/\n<=items.length/\Kn i σ' σ/\∃E',fA g F DT (items.drop n) E'/\Gs B H σ E H' σ' E'/\RE K B H' σ' E'/\gd H' (Ow B σ' E'),⟨_,rfl,LM _,Kn.refl,_,q,gs,c1,uc⟩,?_⟩;rintro n m σ2 H2 ⟨rfl,du,iu,E3,q3,g3,UZ,YI⟩;rcases LZ n items.length with VP | ud
 ·have hd:items.drop n=items[n]::items.drop (n+1):=LR VP;rw [hd] at q3;refine .inr ⟨ok.go n H2 _ YI VP,λσ' H'=>Kn i σ' σ/\∃E',fA g F DT (items.drop (n+1)) E'/\Gs B H σ E H' σ' E'/\RE K B H' σ' E'/\gd H' (Ow B σ' E'),λσ' H' ⟨hk,E',z⟩=>⟨items.length-(n+1),by omega,rfl,VP,hk,E',z⟩,λx H4 y=>?_⟩;obtain ⟨k4,s4,rp⟩:=ok.yld n H2 _ x H4 _ YI (IQ VP) (λa z=>by obtain ⟨vs,e⟩:=UZ.ow z;rw [e];intro z;cases z) y;have YU:=UZ.kept s4;have ij:=ok.keep _ _ _ _ k4 YI;refine ⟨B,[],E3,_,_,by rw [JS];exact YU,by rw [JS];exact rp,q3,λσ5 H5 E5 q5 g5 WX dw vf=>?_⟩;rw [JS] at g5 WX;rw [JS] at g5;have kd:=ok.keep _ _ _ _ g5 ij;have gg:=(g3.trans k4).trans g5;have l5:=l.step gg;have h5:=vf.trans iu;refine ⟨B,E5,_,WX,gC q5,?_⟩;exact ⟨λσ' H' E' z g TJ hk=>⟨hk.trans h5,E',z,gg.trans g,TJ,ok.keep _ _ _ _ g kd⟩,l5.rt,λσ' H' E' z g TJ hk=>l5.nx _ _ _ z g TJ (hk.trans h5),λσ' H' E' z g TJ hk=>⟨hk.trans h5,E',z,gg.trans g,TJ,ok.keep _ _ _ _ g kd⟩⟩
 ·have ei:n=items.length:=by omega
  subst ei;rw [MI] at q3;exact .inl ⟨ok.stop H2 _ YI,l.nx _ _ _ q3 g3 UZ iu⟩
end
end L2
namespace L2
open PySem PySem.Spec PyProof.Rows
section
variable {X:Cx} {K:W.Frag} {pos ap:Pos} {e o:Expr} {es:List Expr} {Fo:FE} {Fr:FA} {name:Str} {id:String}
def BE (G:Str->R->En->(R->En->Prop)->Prop) (Fo:FE) (Fr:FA):FE:=λE Q=>Fo E λx E1=>s1 (vl E1 x) λi=>Fr E1 λrs E2=>match rs with
 | [y]=>G i y E2 Q
 | _=>False
theorem I0 {n:Nat} {G:Str->R->En->(R->En->Prop)->Prop} {r:V->List V->Hp->VK->Prop} (slot:Slot "str" name id) (qz:typeOf (.builtin id)=pure (.type "method_descriptor")) (hm:DE X id r)
  (k:∀B S E i y w H2 Q' Q,RE K B H2 S E->RR K B H2 S E y w->G i y E Q'->Lk K B H2 S E Q' Q->r (.str i) [w] H2 Q)
  (ho:QE X o (aQ K Fo)) (ha:QA X [e] (eC K n Fr)) (VD:RS o name X.env (RB o X.env)=RB o X.env:=by rfl) (VE:(ap.endLine==pos.line)=true:=by rfl) (hs:cS e=false:=by rfl) :
  QE X (.Call (.Attribute o name ap) [e] [] pos) (aQ K (BE G Fo Fr)):=by
 refine QE.le ⟨Tb PySem.F.plainAttrs_str slot qz hm ho.h ha.h VD (by rw [dP hs];rfl) VE (dP hs) (iB rfl)⟩ λσ H Q hl h=>one (Fa:=Fo) h λB S E x v H2 Q' hS re rx q lk=>?_;obtain ⟨i,e1,q⟩:=q.ex;have ev:=re.str rx e1;subst ev;refine ⟨rfl,B,S,E,_,hS,re,q,λrs E2 vs H3 S3 q3 g UZ rr hn=>?_⟩
 match rs,rr,q3 with
 | [y],⟨w,ws,e2,h1,h2⟩,q3=>
  cases h2;subst e2;exact k B S3 E2 i y w H3 Q' Q UZ h1 q3 (lk.step g)
 | [],_,q=>exact q.elim
 | _::_::_,_,q=>exact q.elim
def k7 (l:List Str):List T:=l.map T.str
def kZ:List T->Option (List Str)
 | []=>some []
 | .str x::r=>(kZ r).map (x::·)
 | _=>none
theorem vM:∀{xs:List T} {l:List Str},kZ xs=some l->xs=k7 l
 | [],_,h=>by cases h;rfl
 | .str x::r,l,h=>by
  cases q:kZ r with
  | none=>rw [kZ,q] at h;cases h
  | some m=>
   rw [kZ,q] at h;cases h;rw [vM q];rfl
 | .non::_,_,h=>by cases h
 | .bl _::_,_,h=>by cases h
 | .int _::_,_,h=>by cases h
 | .tup _::_,_,h=>by cases h
 | .lst _::_,_,h=>by cases h
theorem Bl:∀l:List Str,kZ (k7 l)=some l
 | []=>rfl
 | x::l=>by show (kZ (k7 l)).map (x::·)=_;rw [Bl l];rfl
def G4 (i:Str) (y:R) (E:En) (Q:R->En->Prop):Prop:=match vl E y with
 | some (.lst xs)=>o1 (kZ xs) λl=>JoinOk i l=true/\∀z,z=Txt.join i l->Q (.p (.str z)) E
 | _=>False
theorem vO:∀{l:List Str} {us:List Value},bG (l.map V.str) us->∃m:List (Str×Tok),us=strValues m/\m.map (·.1)=l
 | [],us,h=>by cases h;exact ⟨[],rfl,rfl⟩
 | x::l,us,h=>by
  cases h with
  | cons h1 h2=>
   obtain ⟨t,rfl⟩:=h1;obtain ⟨m,rfl,e⟩:=vO h2;exact ⟨(x,t)::m,rfl,by rw [JK,e]⟩
theorem Bu {H:Hp} {O:QF->Prop}:∀{l:List Str} {vs:List V},cN K H O (k7 l) vs->vs=l.map V.str
 | [],_,h=>h
 | x::l,_,⟨v,r,e,h1,h2⟩=>by
  have h1:v = .str x:=h1;rw [e,h1,Bu h2];rfl
theorem Ye:DE X "str.join" (λx vs H Q=>∃i a l,x = .str i/\vs=[.ref a]/\j4 X.K H a (l.map V.str)/\JoinOk i l=true/\Q (.str (Txt.join i l)) H):=by
 intro pins s σ H x vs v us Q I rx rv h;obtain ⟨i,a,l,rfl,rfl,sq,hj,q⟩:=h;obtain ⟨t,rfl⟩:=rx;obtain ⟨u,rfl,ry⟩:=oR rv;cases ry;obtain ⟨TC,r,pl,hz⟩:=I.list sq;obtain ⟨m,rfl,e⟩:=vO r;exact SC.join pl.isList e hj λt' k=>⟨.str _,H,I.tok _,⟨_,rfl⟩,q⟩
theorem Vn {n:Nat} (eK:X.K=K) (ho:QE X o (aQ K Fo)) (ha:QA X [e] (eC K n Fr)) (VD:RS o "join" X.env (RB o X.env)=RB o X.env:=by rfl) (VE:(ap.endLine==pos.line)=true:=by rfl) (hs:cS e=false:=by rfl):QE X (.Call (.Attribute o "join" ap) [e] [] pos) (aQ K (BE G4 Fo Fr)):=by
 subst eK;refine I0 PySem.F.slot_str_join PySem.F.type_str_join Ye (λB S E i y w H2 Q' Q re rr q lk=>?_) ho ha VD VE hs;unfold G4 at q;split at q
 ·rename_i xs e1;obtain ⟨l,e2,c,q⟩:=o1.ex q;rw [vM e2] at e1;obtain ⟨a,vs,rfl,sq,rs⟩:=re.vl rr e1;rw [Bu rs] at sq;exact ⟨i,a,l,rfl,rfl,sq,c,lk _ _ _ _ _ (q _ rfl) .refl re rfl⟩
 ·exact q.elim
end
end L2
namespace L2
open PySem PySem.Spec PyProof.Rows
section
variable {X:Cx} {K:W.Frag} {pos:Pos} {a b c e o:Expr} {es:List Expr} {Fa Fb Fc Fo:FE} {Fr:FA} {XB Gh G:FO}
def GJ:V->Option Int->Option Int->Hp->VK->Prop:=λx lo hi H Q=>∃z,x = .str z/\z.length<=QP/\Q (.str (NR z lo hi)) H
theorem Jo {v:Value} {o:Option Int} (p:IsPart v o):∃q:Option (Int×Tok),v=partValue q/\q.map (·.1)=o:=by
 cases p with
 | none=>exact ⟨none,rfl,rfl⟩
 | int i t=>exact ⟨some (i,t),rfl,rfl⟩
theorem L0:V7 X GJ:=by
 intro pins s σ H x v vl vu lo hi sl Q I rx hs pl pu h;obtain ⟨z,rfl,hz,q⟩:=h;obtain ⟨t,rfl⟩:=rx;obtain ⟨l,rfl,el⟩:=Jo pl;obtain ⟨u,rfl,eu⟩:=Jo pu;refine ⟨"str",_,PySem.F.slot_str_getitem.lookup,typeIs_str _ _ _,wpAny_getItem_str_slice (l:=l) (u:=u) (st:=none) hs rfl ?_⟩;have e:(sliceMade z t l u none)=if ((1:Int)==1&&(Builtin.Str.strSliceIndices lo hi 1 z.length).length==z.length)=true then .val (.str z t) else .str ⟨((Builtin.Str.strSliceIndices lo hi 1 z.length).filterMap (z.cps[·]?)).toArray⟩:=by
  subst el;subst eu;rfl
 rw [e];exact post_val_or_str ⟨KS (Txt.slice_le z lo hi) hz,λt' k=>⟨.str _,H,I.tok _,⟨_,rfl⟩,q⟩⟩
def DV (Fa:FE) (XB Gh:FO):FE:=λE Q=>Fa E λx E1=>s1 (vl E1 x) λz=>XB E1 λlo E2=>Gh E2 λhi E3=>z.length<=big/\∀y,y=NR z lo hi->Q (.p (.str y)) E3
theorem Mh {lo hi:Option Expr} {p2:Pos} (he:QE X e (aQ K Fa)) (hl:QO X lo (rH K XB)) (hu:QO X hi (rH K Gh)):QE X (.Subscript e (.Slice lo hi none p2) pos) (aQ K (DV Fa XB Gh)):=by
 refine (sQ L0 he hl hu).le λσ H Q _ ⟨B,S,E,Q',⟨τ,hS⟩,re,hF,lk⟩=>⟨B,S,E,_,⟨τ,hS⟩,re,hF,λx E1 v H1 S1 q g1 TL rx=>?_⟩;obtain ⟨z,ez,q⟩:=s1.ex q;have ev:=TL.str rx ez;obtain ⟨τ1,VW⟩:=g1.pre;refine ⟨B,S1,E1,_,⟨τ++τ1,by rw [VW,hS,IZ]⟩,TL,q,λl E2 H2 S2 q2 g2 UY=>?_⟩;obtain ⟨τ2,ZS⟩:=g2.pre;refine ⟨B,S2,E2,_,⟨τ++τ1++τ2,by rw [ZS,VW,hS,IZ,IZ,IZ]⟩,UY,q2,λh E3 H3 S3 q3 g3 UZ=>?_⟩;exact ⟨z,ev,Uo q3.1,lk _ _ _ _ _ (q3.2 _ rfl) ((g1.trans g2).trans g3) UZ rfl⟩
def kM (x:Str):List T:=x.cps.toList.map λc=>T.str ⟨#[c]⟩
end
end L2
namespace L2
open PySem PySem.Spec PySem.W PySem.Calls PyProof.Rows PySem.Builtin.ObjectAttr
end L2
namespace L2
open PySem PySem.Spec PySem.W PySem.Calls PyProof.Rows PySem.Builtin.ObjectAttr
end L2
namespace L2
open PySem PySem.Spec PySem.W PySem.Calls PyProof.Rows PySem.Builtin.ObjectAttr
end L2
namespace L2
open PySem PySem.Spec PySem.W PySem.Calls PyProof.Rows PySem.Builtin.ObjectAttr
end L2
namespace L2
open PySem PySem.Spec PySem.W PySem.Calls PyProof.Rows PySem.Builtin.ObjectAttr
variable {cb:Bool}
end L2
namespace L2
open PySem PySem.Spec PySem.W PySem.Calls PyProof.Rows PySem.Builtin.ObjectAttr
end L2
namespace L2
open PySem PySem.Spec PySem.W PySem.Calls PyProof.Rows PySem.Builtin.ObjectAttr
end L2
namespace L2
open PySem PySem.Spec PySem.NumText PyProof.Rows
end L2
namespace L2
open PySem PySem.Spec PySem.NumText PyProof.Rows
structure Dz (mg:Str->Option Value) (x:Str) (i:Int):Prop where
 ex:∃t,mg x=some (.int i t)
theorem Ay {X:Cx} {K:W.Frag} {x:Str} {i:Int} {pos:Pos} (hg:Gl X x) (c:Dz X.mg x i) (hd:(x==("__debug__":Str))=false:=by decide):QE X (.Name x pos) (aQ K (fC (.int i))):=by
 obtain ⟨t,h⟩:=c.ex;exact Rm ⟨Ke (v:=.int i) hg h ⟨t,rfl⟩ hd⟩ λ_ _ _=>rfl
end L2
namespace L2
open PySem PySem.Spec PyProof.Rows
section
variable {X:Cx} {K:W.Frag} {pos:Pos} {o e:Expr} {Fo:FE} {Fr:FA}
theorem RE.setVN {B:QF->Prop} {H:Hp} {S:St} {E:En} {v:V} (re:RE K B H S E) {i:Nat}:RE K B H (S.set i (some v)) (E.set i none)/\∀b,Ow B (S.set i (some v)) (E.set i none) b->Ow B S E b:=by
 have gE:∀{j:Nat} {u:U},(E.set i none)[j]? = some (some u)->i≠j/\E[j]? = some (some u):=λ{j u} h=>by
  by_cases c:i=j
  ·subst c;rw [NG] at h;simp at h
  ·rw [JN c] at h;exact ⟨c,h⟩
 refine re.map (by simp [re.len]) (λj t h=>?_) id (λj k xs h=>?_) (λ_ _ _ _ _ _ _ _ h=>h)
 ·obtain ⟨v,h1,h2⟩:=re.pure j t (gE h).2;exact ⟨v,by rw [JN (gE h).1];exact h1,h2⟩
 ·obtain ⟨a,vs,h1,_⟩:=re.own j k xs (gE h).2;exact ⟨(gE h).2,a,h1,by rw [JN (gE h).1];exact h1⟩
end
end L2
namespace L2
open PySem PySem.Spec PyProof.Rows
end L2
namespace L2
open PySem PySem.Spec PySem.W PyProof.Rows
variable {cb cb':Bool}
section
open PySem.Calls
variable {M:Model} {A:Around} {E:Value->Shared->Prop} {s:Shared} {base:Heap} {env:Env} {outer:List Env} {L x:QF}
end
end L2
namespace L2
open PySem PySem.Spec PySem.W PySem.Calls PyProof.Rows
variable {cb cb':Bool}
end L2
namespace L2
open PySem PySem.Spec PyProof.Rows
def Zx (n:Nat) (lo st:Option Int):List Nat:=sliceRange (RH lo none st n).1 (RH lo none st n).2.1 (RH lo none st n).2.2
def eQ {α:Type} (xs:List α) (lo st:Option Int):List α:=(Zx xs.length lo st).filterMap (xs[·]?)
theorem cN.pick {K:W.Frag} {H:Hp} {O:QF->Prop} {xs:List T} {vs:List V} (r:cN K H O xs vs):∀ns:List Nat,cN K H O (ns.filterMap (xs[·]?)) (ns.filterMap (vs[·]?))
 | []=>rfl
 | n::ns=>by
  have ih:=cN.pick r ns;cases q:xs[n]? with
  | none=>
   have hl:=r.length;have:vs[n]? = none:=by rw [OT] at q ⊢;omega
   rw [MW q,MW this];exact ih
  | some t=>
   obtain ⟨v,h1,h2⟩:=r.get q;rw [LX q,LX h1];exact ⟨v,_,rfl,h2,ih⟩
theorem bG.pick {vs:List V} {us:List Value} (r:bG vs us):∀ns:List Nat,bG (ns.filterMap (vs[·]?)) (ns.filterMap (us[·]?))
 | []=>.nil
 | n::ns=>by
  have ih:=bG.pick r ns;cases q:vs[n]? with
  | none=>
   have hl:=r.length;have:us[n]? = none:=by rw [OT] at q ⊢;omega
   rw [MW q,MW this];exact ih
  | some v=>
   obtain ⟨u,h1,h2⟩:=r.get q;rw [LX q,LX h1];exact .cons h2 ih
section
variable {X:Cx} {K:W.Frag} {e:Expr} {te:TE} {sl st:Option Expr} {tl ts:TO} {pos p2:Pos} {Fa:FE} {XB lp:FO}
def Zj (K:W.Frag) (te:TE) (tl ts:TO):TE:=λσ H Q=>te σ H λx H1=>tl σ H1 λlo H2=>ts σ H2 λk H3=>k≠some 0/\∃a xs,x = .ref a/\j4 K H3 a xs/\(eQ xs lo k).length<=QP/\∀p,H3 p=none->Q (.ref p) (upd H3 p (.lst (eQ xs lo k)))
theorem Vi (he:PE X e te) (hl:PO X sl tl) (hk:PO X st ts) (vg:∀a b,∃ops,TB (.Slice sl none st p2) false a b=operate ops (SS a b)):PE X (.Subscript e (.Slice sl none st p2) pos) (Zj X.K te tl ts):=by
 intro pins s σ H Q I h;refine Subscript_ (dM (he pins s σ H _ I h) λv s1 ⟨x,H1,I1,r1,q1⟩=>?_);refine wpAny_Slice ?_;refine dM (hl pins s1 σ H1 _ I1 q1) λzj s2 ⟨lo,H2,I2,pl,q2⟩=>?_;rw [evalPart_none];refine QN ?_;refine dM (hk pins s2 σ H2 _ I2 q2) λvk s3 ⟨k,H3,I3,pk,q3⟩=>?_;obtain ⟨k0,a,xs,rfl,hx,hz0,q⟩:=q3;have I4:aY X pins σ H3 { s3 with heap:=s3.heap.push { cls:=.type "slice",data:=.fields #[zj,.none,vk] } }:=I3.kept (t':=s3.toks) λb ob q=>IX _ q;cases r1;obtain ⟨TC,r,ht,hz⟩:=I4.list hx;have hlen:=r.length;have hg:QL (QV X.prog X.w) X.A (SS (.ref a) (.ref s3.heap.objs.size)) (EP X pins σ Q) X.xe { s3 with heap:=s3.heap.push { cls:=.type "slice",data:=.fields #[zj,.none,vk] } }:=by
  refine wpAny_getItem_list_slice ht.isList (Heap.IsSliceOf.new ..) pl .none pk k0 ?_ (by rw [JI]<;>omega);have ep:slicePick TC.toArray lo none k=(eQ TC lo k).toArray:=by
   unfold slicePick eQ Zx;simp
  rw [ep];have es:eQ TC lo k=(Zx xs.length lo k).filterMap (TC[·]?):=by unfold eQ;rw [hlen]
  refine ⟨.ref _,_,I4.laid (t':=s3.toks) (o:=.lst (eQ xs lo k)) (λb ob q=>IX _ q) (IW _) ?_,rfl,q _ (I4.hok.fresh (IW _))⟩;exact ⟨hz0,_,0,by rw [es];exact bG.pick r _,JL _ rfl⟩
 obtain ⟨ops,ho⟩:=vg (.ref a) (.ref s3.heap.objs.size);exact tail_any (ops:=ops) ht.isList.typeIs slot_list_getitem.lookup hg ho
def CH (Fa:FE) (XB lp:FO):FE:=λE Q=>Fa E λx E1=>XB E1 λlo E2=>lp E2 λk E3=>k≠some 0/\match vl E3 x with
 | some (.lst xs)=>(eQ xs lo k).length<=1000/\Q (.s E3.length) (E3++[some (.o false (eQ xs lo k))])
 | _=>False
theorem Jz (eK:X.K=K) (he:QE X e (aQ K Fa)) (hl:QO X sl (rH K XB)) (hk:QO X st (rH K lp)) (vg:∀a b,∃ops,TB (.Slice sl none st p2) false a b=operate ops (SS a b):=by exact λ_ _=>⟨_,by with_unfolding_all rfl⟩):QE X (.Subscript e (.Slice sl none st p2) pos) (aQ K (CH Fa XB lp)):=by
 subst eK;refine QE.le (t:=Zj X.K (aQ X.K Fa) (rH X.K XB) (rH X.K lp)) ⟨Vi he.h hl.h hk.h vg⟩ λσ H Q _ ⟨B,S,E,Q',⟨τ,hS⟩,re,hF,lk⟩=>⟨B,S,E,_,⟨τ,hS⟩,re,hF,λx E1 v H1 S1 q g1 TL rx=>?_⟩;obtain ⟨τ1,VW⟩:=g1.pre;refine ⟨B,S1,E1,_,⟨τ++τ1,by rw [VW,hS,IZ]⟩,TL,q,λl E2 H2 S2 q2 g2 UY=>?_⟩;obtain ⟨τ2,ZS⟩:=g2.pre;refine ⟨B,S2,E2,_,⟨τ++τ1++τ2,by rw [ZS,VW,hS,IZ,IZ,IZ]⟩,UY,q2,λk E3 H3 S3 q3 g3 UZ=>?_⟩;have la:=(rx.step g2).step g3;obtain ⟨k0,q3⟩:=q3;refine ⟨k0,?_⟩;split at q3
 ·rename_i xs e1;obtain ⟨hz,q3⟩:=q3;obtain ⟨a,vs,e2,sq,rs⟩:=UZ.vl la e1;have el:eQ vs l k=(Zx xs.length l k).filterMap (vs[·]?):=by unfold eQ;rw [rs.length]
  have rp:cN X.K H3 (Ow B S3 E3) (eQ xs l k) (eQ vs l k):=by rw [el];exact cN.pick rs _
  refine ⟨a,vs,e2,sq,by rw [rp.length];exact KN (bY hz),λp hp=>?_⟩;obtain ⟨g,TJ⟩:=UZ.lst hp rp;exact lk _ _ _ _ _ q3 (((g1.trans g2).trans g3).trans g) TJ (by rw [<-UZ.len];exact j9)
 ·exact q3.elim
end
end L2
namespace L2
open PySem PySem.Spec PyProof.Rows
end L2
namespace L2
open PySem PySem.Spec PySem.W PySem.Calls PyProof.Rows PySem.SeqAt
end L2
namespace L2
open PySem PySem.Spec PyProof.Rows
section
variable {prog:QJ} {w:QM} {KK:Type} [DecidableEq KK] {knd:HeapKind prog w KK} {A:Around} {E:Value->Shared->Prop} {s:Shared}
theorem Af {d a:QF} {xs:List (KK×QF×Value)} {k:KK} {v:Value} {Q:Value->Shared->Prop} (hu:knd.room A) (YZ:knd.is s.heap k a) (hm:s.heap.DictOfH knd d xs)
  (h1:∀p,atKey xs k=some p->Q p.2 { s with toks:=s.toks+knd.draws k })
  (h2:atKey xs k=none->∀h',h'.DictOfH knd d (storedH xs k a v)->MR d s.heap h'->Q v { s with heap:=h',toks:=s.toks+knd.draws k })
  (YL:xs.length<=QP) :
  QL (QV prog w) A (dictSetDefault d (.ref a) v) Q E s:=by
 obtain ⟨o,es,ep,ho,hc,hd,he,zk,hn⟩:=hm;unfold dictSetDefault
 try with_reducible refine SF ?_
 refine QH (knd.pyHash hu YZ ?_);refine QH (wpAny_dictFind_heap (s:={ s with toks:=s.toks+knd.draws k }) hu YZ ho hd he zk hn ?_ ?_)
 ·intro WE;have vh:k∉xs.map (·.1):=not_mem_keys_of_get WE;refine QH (RZ (QH (wpAny_updateDictKeys (hz:=by have e:=size_of_entries he;omega) (s:={ s with toks:=s.toks+knd.draws k }) ho hd (QN (h2 (atKey_none_of_get WE) _ ⟨_,_,ep+1,MM _ ho (Obj.isFreed_of_dict (Obj.data_mapDictKeys hd _)),
   hc.mapDictKeys _,Obj.data_mapDictKeys hd _,?_,?_,?_⟩ (Heap.SameBut.update ..))))))
  ·rw [storedH_new (atKey_none_of_get WE)];simp [he,entryOfKey]
  ·rw [storedH_new (atKey_none_of_get WE)];intro x hx;rcases JJ.mp hx with hx | hx
   ·exact knd.keeps (zk x hx) ho hd (Heap.SameBut.update ..)
   ·simp only [JB] at hx;subst hx;exact knd.keeps YZ ho hd (Heap.SameBut.update ..)
  ·rw [storedH_new (atKey_none_of_get WE)];rw [KU,List.nodup_append];refine ⟨hn,by simp,?_⟩;intro x hx y hy;simp only [JK,MT,JB] at hy;subst hy;exact λe=>vh (e ▸ hx)
 ·intro j p hj;refine QH (wpAny_dictEntries (s:={ s with toks:=s.toks+knd.draws k }) ho hd ?_);rw [entry_at he j,hj];exact QH (RZ (QN (h1 _ (atKey_of_get hn hj))))
theorem uY (d a:QF) (hd:(d==RO)=false) (dflt:Value) :
  MeetsIn prog w (Builtin.«dict.setdefault» ⟨[.ref d,.ref a,dflt],[]⟩) (λA R s=>knd.room A.in1/\∃k xs,knd.is s.heap k a/\s.heap.DictOfH knd d xs/\xs.length<=QP/\
   (∀p,atKey xs k=some p->R (.ok (.ret p.2)) { s with toks:=s.toks+knd.draws k })/\
   (atKey xs k=none->∀h',h'.DictOfH knd d (storedH xs k a dflt)->MR d s.heap h'->R (.ok (.ret dflt)) { s with heap:=h',toks:=s.toks+knd.draws k })):=
 .of_wp λA R s ⟨hu,k,xs,YZ,hm,hz,h1,h2⟩=>by
  unfold Builtin.«dict.setdefault»;refine QH ?_;unfold Builtin.Dict.keyAndDefault;refine QH (wpAny_notOrdered_dict hm.typeIs ?_);show QL _ _ (pure (d,KW a,some dflt)) _ _ s;refine QN ?_;show QL _ _ (if (d==RO)=true then _ else (dictSetDefault d (.ref a) dflt >>= _)) _ _ s;rw [if_neg (by rw [hd];exact NA)];exact QH (Af hu YZ hm (λp hp=>QN ⟨p.2,rfl,h1 p hp⟩) (λhn h' lq ZG=>QN ⟨dflt,rfl,h2 hn h' lq ZG⟩) hz)
end
section
variable {X:Cx} {pins:List (QF×Obj)} {σ:St} {H:Hp} {s:Shared} {a b:QF} {v:V} {r:Value} {A:Around} {E:Value->Shared->Prop} {TN:List (List Key×V)} {k:List Key}
theorem Uc {Q:Value->Shared->Prop} (hu:A.units+1<SO) (I:aY X pins σ H s) (e:H a=some (.dT TN)) (eb:H b=some (.tup (k.map kV))) (rv:bP v r) (l:TN.length<QP)
  (h1:∀y w' s',mT TN k=some y->aY X pins σ H s'->bP y w'->Q w' s') (h2:∀s',mT TN k=none->aY X pins σ (upd H a (.dT (pB TN k v))) s'->Q r s') :
  QL (QV X.prog X.w) A (call (.builtin "dict.setdefault") [.ref a,.ref b,r]) Q E s:=by
 obtain ⟨z,hd,xs,rel,dd⟩:=AL I.hok e;have hz:xs.length<=QP:=by rw [<-Paired.length rel];exact z
 have hl:(pB TN k v).length<=QP:=by have:=Ad TN k v;omega
 have rk:=rel.val k;refine call_meetsIn PySem.F.slot_dict_setdefault dd.typeIs PySem.F.entry_dict_setdefault (PySem.F.args_dict_setdefault_3 _ _ _) (uY (knd:=SV (eV X.prog X.w)) a b hd r) ⟨tupleKind_room_in1 hu,k,xs,To I.hok eb,dd,hz,λp hp=>?_,λhn h' dd' hs=>?_⟩
 ·rw [hp] at rk;cases q:mT TN k with
  | none=>rw [q] at rk;exact rk.elim
  | some y=>rw [q] at rk;exact h1 y _ _ q (I.tok _) rk
 ·rw [hn] at rk;have q:mT TN k=none:=by
   cases q:mT TN k with
   | none=>rfl
   | some y=>rw [q] at rk;exact rk.elim
  refine h2 _ q ?_;obtain ⟨q,es,ep,hq,g2,g3,g4,_,g5⟩:=dd';refine Zb I (by rw [e];exact True.intro) hs ⟨q,hq⟩ ⟨hl,hd,_,(rel.put k eb rv).keeps λc ys ec=>?_,q,es,ep,hq,g2,g3,g4,g5⟩;rw [bC (AG ec e (λz=>nomatch z))];exact ec
end
def AH (td ty tx:TE):TE:=λσ H Q=>td σ H λx H1=>∃a,x = .ref a/\HC H1 a/\ty σ H1 λy H2=>tx σ H2 λz H3=>∃b TN k,y = .ref b/\H3 a=some (.dT TN)/\H3 b=some (.tup (k.map kV))/\TN.length<QP/\
 (∀u,mT TN k=some u->Q u H3)/\(mT TN k=none->Q z (upd H3 a (.dT (pB TN k z))))
section
variable {X:Cx} {o e f:Expr} {apos VX:Pos} {td ty tx:TE}
theorem Xh (hu:X.A.units+1<SO) (ho:PE X o td) (he:PE X e ty) (hf:PE X f tx) (m:M2 X o "setdefault" apos e f VX):PE X (.Call (.Attribute o "setdefault" apos) [e,f] [] VX) (AH td ty tx):=by
 intro pins s σ H Q I h;refine wpAny_Call_method m.base m.few m.line PySem.F.plainAttrs_dict PySem.F.slot_dict_setdefault PySem.F.type_dict_setdefault (dM (ho pins s σ H _ I h) λu s1 ⟨x,H1,I1,rx,a,ex,d,q1⟩=>?_);subst ex;obtain rfl:u=KW a:=rx;obtain ⟨t1,t2,_⟩:=Q0 I1 d;refine ⟨t1,t2,?_⟩;rw [m.trees];refine Calls.callWith_builtin rfl (Calls.evalArgs_plain (Calls.spliced_cons (dM (he pins s1 σ H1 _ I1 q1) λiv s2 ⟨y,H2,I2,ry,q2⟩=>
  Calls.spliced_cons (dM (hf pins s2 σ H2 _ I2 q2) λfv s3 ⟨z,H3,I3,rz,b,TN,k,ey,ea,eb,hl,q3,q4⟩=>Calls.spliced_nil ?_))))
 subst ey;obtain rfl:iv=KW b:=ry;exact Uc hu I3 ea eb rz hl (λu w' s4 hv I4 ZN=>⟨u,H3,I4,ZN,q3 u hv⟩) λs4 hv I4=>⟨z,_,I4,rz,q4 hv⟩
end
section
variable {X:Cx} {K:W.Frag} {WO b1:List QU} {pos:Pos} {i:Nat}
theorem QB.leM {t t':TS} (h:QB X WO t) (m:∀D σ H,σ.length=X.N.length->t' D σ H->t D σ H):QB X WO t':=⟨λpins s σ H D I z=>h.h pins s σ H D I (m D σ H I.len z)⟩
end
end L2
namespace L2
open PySem PySem.Spec PyProof.Rows
structure zT where
 k:List Key
 c:QF
 o:List T
abbrev MD:=List (List Key×List T)
def md (G:List zT):MD:=G.map λg=>(g.k,g.o)
def wX (G:List zT):List (List Key×V):=G.map λg=>(g.k,V.ref g.c)
def cY (G:List zT):List QF:=G.map (·.c)
def D7 (b:Bool) (G:List zT):HO:=if b=true then .dT (wX G) else .dK (G.map λg=>(g.k.headD (Sum.inl 0),V.ref g.c))
theorem Gv (b:Bool) (G:List zT):Lq (D7 b G):=by cases b<;>trivial
theorem Sk {b:Bool} {G:List zT} {xs:List V}:D7 b G≠.lst xs:=by cases b<;>(intro z;cases z)
structure DG (b:Bool) (K:W.Frag) (i:Nat) (a:QF) (G:List zT) (σ:St) (H:Hp):Prop where
 nm:σ[i]? = some (some (.ref a))
 dc:H a=some (D7 b G)
 nd:(cY G).Nodup
 ls:∀g∈G,∃vs,H g.c=some (.lst vs)/\cN K H (λc=>dD H c\/c=a) g.o vs
structure Vg where
 nx:MD->En->Prop
 rt:R->En->Prop:=λ_ _=>False
 bk:MD->En->Prop:=λ_ _=>False
 ct:MD->En->Prop:=λ_ _=>False
abbrev Kw:=Vg->MD->En->Prop
def Vg.at (D:Vg) (M:MD):ET where
 nx:=D.nx M
 rt:=D.rt
 bk:=D.bk M
 ct:=D.ct M
def Vg.of (D:ET):Vg where
 nx:=λ_=>D.nx
 rt:=D.rt
 bk:=λ_=>D.bk
 ct:=λ_=>D.ct
def BZ (F:FS):Kw:=λD M E=>F (D.at M) E
abbrev Gd (a:QF) (B:QF->Prop) (G:List zT) (H:Hp) (S:St) (E:En) (G':List zT) (H':Hp) (S':St) (E':En):Prop:=Kp (λb=>Ow B S E b\/b∈a::cY G) (λb=>Ow B S' E' b\/b∈a::cY G') H H'
structure LD (q:Bool) (i:Nat) (a:QF) (K:W.Frag) (B:QF->Prop) (G:List zT) (H:Hp) (σ:St) (E:En) (DT:Vg) (D:lW):Prop where
 nx:∀σ' H' E' G',DT.nx (md G') E'->Gd a B G H σ E G' H' σ' E'->DG q K i a G' σ' H'->RE K B (hide (·∈a::cY G') H') σ' E'->D.nx σ' H'
 rt:∀r E' v H' S' G',DT.rt r E'->Gd a B G H σ E G' H' S' E'->RE K B H' S' E'->RR K B H' S' E' r v->D.rt v H'
 bk:∀σ' H' E' G',DT.bk (md G') E'->Gd a B G H σ E G' H' σ' E'->DG q K i a G' σ' H'->RE K B (hide (·∈a::cY G') H') σ' E'->D.bk σ' H'
 ct:∀σ' H' E' G',DT.ct (md G') E'->Gd a B G H σ E G' H' σ' E'->DG q K i a G' σ' H'->RE K B (hide (·∈a::cY G') H') σ' E'->D.ct σ' H'
def uW (q:Bool) (i:Nat) (K:W.Frag) (F:Kw):TS:=λD σ H=>∃a G B E DT,DG q K i a G σ H/\RE K B (hide (·∈a::cY G) H) σ E/\F DT (md G) E/\LD q i a K B G H σ E DT D
section
variable {X:Cx} {K:W.Frag} {st:QU} {WO body:List QU} {q:Bool} {i:Nat} {a:QF} {B:QF->Prop} {G G':List zT} {H H' H1:Hp} {σ σ' S S':St} {E E':En} {DT:Vg} {D:lW}
theorem LD.step (l:LD q i a K B G H σ E DT D) (g:Gd a B G H σ E G' H' σ' E'):LD q i a K B G' H' σ' E' DT D:=
 ⟨λx b c d e f=>l.nx x b c d e (g.trans f),λx b c d e f h m=>l.rt x b c d e f h (g.trans m),λx b c d e f=>l.bk x b c d e (g.trans f),λx b c d e f=>l.ct x b c d e (g.trans f)⟩
theorem rX {c:QF} (h:c∈cY G):∃g∈G,g.c=c:=IP.mp h
theorem yO {g:zT} (h:g∈G):g.c∈cY G:=IP.mpr ⟨g,h,rfl⟩
theorem DG.hid (d:DG q K i a G σ H):∀c∈a::cY G,∃o,H c=some o/\Lq o:=λc m=>by
 rcases IU.mp m with e | m
 ·rw [e];exact ⟨_,d.dc,Gv _ _⟩
 ·obtain ⟨g,mg,rfl⟩:=rX m;obtain ⟨vs,h,_⟩:=d.ls g mg;exact ⟨_,h,trivial⟩
theorem fW {Z:QF->Prop} (h:∀c,Z c->H1 c=none):hide Z (back Z H H1)=H1:=by
 funext b
 by_cases z:Z b
 ·rw [jU z,h b z]
 ·rw [bZ z,dJ z]
theorem RE.unhide {Z:QF->Prop} (re:RE K B (hide Z H) S E):RE K B H S E:=re.kept λ_ _ e=>(cU e).2
theorem Rp.unhide {Z O:QF->Prop} {t:T} {v:V} (h:Rp K (hide Z H) O t v):Rp K H O t v:=h.step ⟨λ_ _ e _=>(cU e).2,λ_ z=>.inl z⟩
theorem RR.unhide {Z:QF->Prop} {r:R} {v:V} (h:RR K B (hide Z H) S E r v):RR K B H S E r v:=by
 cases r with
 | p t=>exact Rp.unhide h
 | s i=>exact h
theorem Gd.hid (g:Gd a B G H σ E G' H' σ' E'):Kp (Ow B σ E) (Ow B σ' E') (hide (·∈a::cY G) H) (hide (·∈a::cY G') H'):=by
 refine ⟨λb o e n=>?_,λb z=>?_⟩
 ·obtain ⟨n2,e⟩:=cU e;have k:=g.keep b o e λz=>z.elim n n2;rw [bZ λz=>?_]
  ·exact k
  rcases g.new b (.inr z) with (z | z) | z
  ·exact n z
  ·exact n2 z
  ·rw [e] at z;cases z
 ·rcases g.new b (.inl z) with (z | z) | z
  ·exact .inl z
  ·exact .inr (jU z)
  ·exact .inr (kB z)
theorem DG.tk (d:DG q K i a G σ H) (re:RE K B (hide (·∈a::cY G) H) σ E) (g:Gs B (hide (·∈a::cY G) H) σ E H1 S' E'):∀b xs,H b=some (.tup xs)->H1 b=some (.tup xs):=λb xs e=>by
 have z:b∉a::cY G:=λz=>by
  obtain ⟨o,eo,k⟩:=d.hid b z;rw [e] at eo;cases eo;exact k
 refine g.keep b _ (by rw [bZ z];exact e) λw=>?_;obtain ⟨us,e'⟩:=re.ow w;rw [bZ z,e] at e';cases e'
theorem Jn (keep:∀b o,H b=some o->¬(dD H b\/b=a)->H' b=some o) (hd:¬dD H a):Kp (λc=>dD H c\/c=a) (λc=>dD H' c\/c=a) H H':=by
 refine ⟨keep,λb z=>?_⟩;rcases z with ⟨us,e⟩ | e
 ·by_cases w:dD H b\/b=a
  ·exact .inl w
  ·right
   cases hb:H b with
   | none=>rfl
   | some o=>
    have:=keep b o hb w;rw [e] at this;cases this;exact absurd (.inl ⟨us,hb⟩) w
 ·exact .inl (.inr e)
theorem DG.nl (d:DG q K i a G σ H):¬dD H a:=λ⟨us,e⟩=>by rw [d.dc] at e;exact Sk (Option.some.inj e)
theorem DG.after (d:DG q K i a G σ H) (re:RE K B (hide (·∈a::cY G) H) σ E) (g:Gs B (hide (·∈a::cY G) H) σ E H1 S' E') (gone:∀c∈a::cY G,H1 c=none) :
  Gd a B G H σ E G (back (·∈a::cY G) H H1) S' E'/\(∀σ',σ'[i]? = σ[i]?->DG q K i a G σ' (back (·∈a::cY G) H H1)):=by
 have vi:∀{b:QF},Ow B σ E b->∃us,H b=some (.lst us):=λ{b} z=>by
  obtain ⟨us,e⟩:=re.ow z;exact ⟨us,(cU e).2⟩
 have kp:∀b o,H b=some o->¬Ow B σ E b->b∉a::cY G->H1 b=some o:=λb o e n z=>g.keep b o (by rw [bZ z];exact e) n;have keep:∀b o,H b=some o->¬(dD H b\/b=a)->back (·∈a::cY G) H H1 b=some o:=λb o e n=>by
  by_cases z:b∈a::cY G
  ·rw [i9 z];exact e
  ·rw [dJ z];exact kp b o e (λw=>n (.inl (vi w))) z
 refine ⟨⟨λb o e n=>?_,λb z=>?_⟩,λσ' hk=>⟨by rw [hk];exact d.nm,by rw [i9 (by simp)];exact d.dc,d.nd,λg' mg=>?_⟩⟩
 ·have z:b∉a::cY G:=λz=>n (.inr z);rw [dJ z];exact kp b o e (λw=>n (.inl w)) z
 ·rcases z with z | z
  ·rcases g.new b z with w | w
   ·exact .inl (.inl w)
   ·by_cases y:b∈a::cY G
    ·exact .inl (.inr y)
    ·rw [bZ y] at w;exact .inr w
  ·exact .inl (.inr z)
 ·obtain ⟨vs,h1,h2⟩:=d.ls g' mg;have z:g'.c∈a::cY G:=JR _ (yO mg);exact ⟨vs,by rw [i9 z];exact h1,h2.step (Jn keep d.nl)⟩
theorem zH {F:FS} (h:QS X st (kA [i] K F)):QS X st (uW q i K (BZ F)):=
 h.frame.le λD σ H hl ⟨a,G,B,E,DT,d,re,hF,l⟩=>by
  refine ⟨a::cY G,d.hid,B,E,DT.at (md G),re,hF,⟨λσ' H1 E' z g TJ hk=>⟨d.tk re g,λgone=>?_⟩,λr E' v H1 S' z g TJ rr=>⟨d.tk re g,λgone=>?_⟩,λσ' H1 E' z g TJ hk=>⟨d.tk re g,λgone=>?_⟩,λσ' H1 E' z g TJ hk=>⟨d.tk re g,λgone=>?_⟩⟩⟩
  ·obtain ⟨g1,d1⟩:=d.after re g gone;exact l.nx _ _ _ G z g1 (d1 σ' (hk i (by simp))) (by rw [fW gone];exact TJ)
  ·obtain ⟨g1,d1⟩:=d.after re g gone;exact l.rt r E' v _ S' G z g1 (RE.unhide (Z:=(·∈a::cY G)) (by rw [fW gone];exact TJ)) (RR.unhide (Z:=(·∈a::cY G)) (by rw [fW gone];exact rr))
  ·obtain ⟨g1,d1⟩:=d.after re g gone;exact l.bk _ _ _ G z g1 (d1 σ' (hk i (by simp))) (by rw [fW gone];exact TJ)
  ·obtain ⟨g1,d1⟩:=d.after re g gone;exact l.ct _ _ _ G z g1 (d1 σ' (hk i (by simp))) (by rw [fW gone];exact TJ)
def AU (F G:Kw):Kw:=λD M E=>F { D with nx:=λM' E'=>rC E' (G D M') } M E
theorem yY {F G:Kw} (h1:QS X st (uW q i K F)) (h2:QB X WO (uW q i K G)):QB X (st::WO) (uW q i K (AU F G)):=
 (oX h1 h2).leM λD σ H hl ⟨a,Gc,B,E,DT,d,re,hF,l⟩=>⟨a,Gc,B,E,_,d,re,hF,⟨λσ' H' E' G' hG g d' TJ=>⟨a,G',B,E',DT,d',TJ,gC hG,l.step g⟩,l.rt,l.bk,l.ct⟩⟩
theorem V0 {F:Kw} (h1:QS X st (uW q i K F)):QB X [st] (uW q i K F):=Ee h1
def HS (t:TG):TG:=λv σ H Q=>∃Z:List QF,(∀c∈Z,∃o,H c=some o/\Lq o)/\t v σ (L2.hide (·∈Z) H) λσ' H1=>(∀b xs,H b=some (.tup xs)->H1 b=some (.tup xs))/\((∀c∈Z,H1 c=none)->Q σ' (L2.back (·∈Z) H H1))
theorem QG.frame {e:Expr} {t:TG} (h:QG X e t):QG X e (HS t):=⟨λpins s σ H v u Q I r ⟨Z,hZ,z⟩=>dM (h.h (pins++kJ s.heap Z) s σ _ v u _ (I.hide hZ) r z) λ_ s' ⟨σ',H1,I1,ht,z⟩=>by
  obtain ⟨I2,g⟩:=I.back hZ I1 ht;exact ⟨σ',_,I2,z g⟩⟩
def tP (g:FG) (F:Kw) (D:Vg):List T->MD->En->Prop
 | [],M,E=>D.nx M E
 | x::xs,M,E=>g x E λE'=>rC E' (F { D with nx:=tP g F D xs,ct:=tP g F D xs,bk:=D.nx } M)
def Gx (E:En) (p:Nat) (k:List T->Prop):Prop:=match E[p]? with
 | some (some (.p (.lst xs)))=>k xs
 | _=>False
theorem Gx.ex {E:En} {p:Nat} {k:List T->Prop} (h:Gx E p k):∃xs,E[p]? = some (some (.p (.lst xs)))/\k xs:=by
 unfold Gx at h;split at h
 ·rename_i xs e;exact ⟨xs,e,h⟩
 ·exact h.elim
def V5 (p:Nat) (g:FG) (F:Kw):Kw:=λD M E=>Gx E p λxs=>rC E (tP g F D xs M)
theorem T7 {p:Nat} {tg:Expr} {x:Str} {px pos:Pos} {g:FG} {F:Kw} (eK:X.K=K) (hp:PassesOwn (QV X.prog X.w) X.A X.env X.xe) (hc:X.calm=true) (hi:X.N[p]? = some x) (hv:V1 X.env.scope x) (hg:QG X tg (As [i] K g)) (hb:QB X body (uW q i K F)) (hs:∀y,QX (.Name x px) X.env y=pure y:=by intro _;rfl)
  (hd:(x==("__debug__":Str))=false:=by decide) (XJ:(x==("__classdict__":Str))=false:=by decide):QS X (.For tg (.Name x px) body [] pos) (uW q i K (V5 p g F)):=by
 subst eK;refine (Ek hp hc (Ib (qv p hi hv hd XJ)) hg.frame hb hs).le λD σ H hl ⟨a,G,B,E,DT,d,re,hF,l⟩=>?_;obtain ⟨items,eI,hF⟩:=hF.ex;replace hF:=gC hF;obtain ⟨v,sv,rv⟩:=re.pure p _ eI;obtain ⟨pp,vs,rfl,sq,rs⟩:=rv.sqL;refine ⟨.ref pp,sv,pp,rfl,⟨vs,sq.imp (λh=>h.imp (λh=>(cU h).2) λ⟨o,h⟩=>⟨o,(cU h).2⟩) id⟩,?_⟩
 let P:List T->St->Hp->Prop:=λTC σ' H'=>∃G' E',tP g F DT TC (md G') E'/\Gd a B G H σ E G' H' σ' E'/\DG q X.K i a G' σ' H'/\RE X.K B (hide (·∈a::cY G') H') σ' E'/\Rp X.K (hide (·∈a::cY G') H') (Ow B σ' E') (.lst items) (.ref pp)
 refine ⟨λn m σ' H'=>m=items.length-n/\n<=items.length/\P (items.drop n) σ' H',⟨_,rfl,LM _,G,E,hF,Kp.refl _ _,d,re,rv⟩,?_⟩;rintro n m σ2 H2 ⟨rfl,hn,G2,E2,q2,g2,d2,UY,qg⟩;have ok:=Gp (K:=X.K) (p:=pp) (xs:=items);rcases LZ n items.length with VP | ud
 ·have hdr:items.drop n=items[n]::items.drop (n+1):=LR VP;rw [hdr] at q2;refine .inr ⟨ok.go n H2 _ qg.unhide VP,P (items.drop (n+1)),λσ' H' z=>⟨items.length-(n+1),by omega,rfl,VP,z⟩,λy H4 yl=>?_⟩;obtain ⟨e4,yl⟩:=yl;subst e4;obtain ⟨p',aa,ep,lh,cj⟩:=qg.sqL;cases ep;obtain ⟨w,w1,w2⟩:=cj.get (IQ VP);rw [yl aa (lh.imp (λh=>h.imp (λh=>(cU h).2) λ⟨o,h⟩=>⟨o,(cU h).2⟩) id)] at w1;cases w1;refine ⟨_,d2.hid,B,[],E2,items[n],_,by rw [JS];exact UY,by rw [JS];exact w2,q2,λσ5 H5 E5 q5 g5 WX dw vf=>?_⟩;rw [JS] at g5 WX;rw [JS] at g5;refine ⟨d2.tk UY g5,λgone=>?_⟩;obtain ⟨g6,d6⟩:=d2.after UY g5 gone;have d7:=d6 σ5 (vf i (by simp));have uk:RE X.K B (hide (·∈a::cY G2) (back (·∈a::cY G2) H4 H5)) σ5 E5:=by rw [fW gone];exact WX
  have g7:=g2.trans g6;have zl:Rp X.K (hide (·∈a::cY G2) (back (·∈a::cY G2) H4 H5)) (Ow B σ5 E5) (.lst items) (.ref pp):=by rw [fW gone];exact qg.step g5
  have l7:=l.step g7;refine ⟨a,G2,B,E5,_,d7,uk,gC q5,?_⟩;exact ⟨λσ' H' E' G' z gg d' TJ=>⟨G',E',z,g7.trans gg,d',TJ,zl.step (Gd.hid gg)⟩,l7.rt,λσ' H' E' G' z gg d' TJ=>l7.nx _ _ _ _ z gg d' TJ,λσ' H' E' G' z gg d' TJ=>⟨G',E',z,g7.trans gg,d',TJ,zl.step (Gd.hid gg)⟩⟩
 ·have ei:n=items.length:=by omega
  subst ei;rw [MI] at q2;exact .inl ⟨ok.stop H2 _ qg.unhide,l.nx _ _ _ _ q2 g2 d2 UY⟩
theorem Ts {b:QF} {o:HO} {Z:List QF} (h:H b=none) (hz:Z=[b]):hide (·∈Z) (upd H b o)=H:=by
 subst hz
 funext c
 by_cases z:c=b
 ·subst z;rw [jU (by simp),h]
 ·rw [bZ (by simpa using z),bC z]
def BM (i:Nat) (F:Kw):FS:=λD E=>rC (E.set i none) (F (Vg.of D) [])
theorem U7 {F:Kw} {x:Str} {p' pd pos:Pos} (hN:X.N.Nodup) (hi:X.N[i]? = some x) (hx:Eh X.env.scope x) (UN:QB X WO (uW true i K F)) (hs:RN (.Dict [] [] pd) (some (.Name x p')) pos.line X.env=pure false:=by rfl)
  (hf:X.fn x=true\/X.env.scope.names.lookup x=some .local:=by first | exact .inl rfl | exact .inr rfl | assumption):QB X (.Assign [.Name x p'] (.Dict [] [] pd) pos::WO) (hJ K (BM i F)):=by
 refine (oX (xI hN hi hx (⟨Pp⟩:QE X (.Dict [] [] pd) Px) hs hf) UN).leM λD σ H hl ⟨B,E,DT,re,hF,l⟩=>?_;intro b hb;replace hF:=gC hF;obtain ⟨c4,c5⟩:=re.setVN (i:=i) (v:=.ref b);have li:i<σ.length:=by rw [hl];exact (IT.mp hi).1
 have out:∀{H':Hp} {S':St} {E':En} {G':List zT},Gd b B [] (upd H b (.dT [])) (σ.set i (some (.ref b))) (E.set i none) G' H' S' E'->Gs B H σ E H' S' E':=λ{H' S' E' G'} g=>by
  refine ⟨λc o e n=>g.keep c o (by rw [bC (bF e hb)];exact e) λz=>?_,λc z=>?_⟩
  ·rcases z with z | z
   ·exact n (c5 c z)
   ·have:c=b:=by simpa [cY] using z
    subst this;rw [hb] at e;cases e
  ·rcases g.new c (.inl z) with (z | z) | z
   ·exact .inl (c5 c z)
   ·have:c=b:=by simpa [cY] using z
    subst this;exact .inr hb
   ·by_cases w:c=b
    ·subst w;exact .inr hb
    ·rw [bC w] at z;exact .inr z
 refine ⟨b,[],B,E.set i none,_,⟨KO li,cV,PY,λg hg=>absurd hg (by simp)⟩,by rw [Ts (Z:=b::cY []) hb rfl];exact c4,hF,?_⟩;exact ⟨λσ' H' E' G' z g' _ TJ=>l.nx _ _ _ z (out g') TJ.unhide,λr E' v H' S' G' z g' TJ rr=>l.rt _ _ _ _ _ z (out g') TJ rr,λσ' H' E' G' z g' _ TJ=>l.bk _ _ _ z (out g') TJ.unhide,λσ' H' E' G' z g' _ TJ=>l.ct _ _ _ z (out g') TJ.unhide⟩
end
end L2
namespace L2
open PySem PySem.Spec PyProof.Rows
def getD:MD->List Key->List T
 | [],_=>[]
 | (k',xs)::r,k=>if k'=k then xs else getD r k
def xD:MD->List Key->List T->MD
 | [],k,ys=>[(k,ys)]
 | (k',xs)::r,k,ys=>if k'=k then (k',ys)::r else (k',xs)::xD r k ys
theorem Dc {k:List Key} {u:V}:∀{G:List zT},mT (wX G) k=some u->∃G1 g G2,G=G1++g::G2/\u = .ref g.c/\getD (md G) k=g.o/\∀ys,xD (md G) k ys=md (G1++⟨g.k,g.c,ys⟩::G2)
 | [],h=>by cases h
 | g::G,h=>by
  by_cases c:g.k=k
  ·have e:=pD (p:=(g.k,V.ref g.c)) (r:=wX G) c;rw [show wX (g::G)=(g.k,V.ref g.c)::wX G from rfl,e] at h;cases h;exact ⟨[],g,G,rfl,rfl,by show (if g.k=k then g.o else _)=_;rw [if_pos c],λys=>by show (if g.k=k then _ else _)=_;rw [if_pos c];rfl⟩
  ·rw [show wX (g::G)=(g.k,V.ref g.c)::wX G from rfl,oI (p:=(g.k,V.ref g.c)) c] at h;obtain ⟨G1,g',G2,e1,e2,e3,e4⟩:=Dc h;exact ⟨g::G1,g',G2,by rw [e1];rfl,e2,by show (if g.k=k then _ else getD (md G) k)=_;rw [if_neg c];exact e3,λys=>by show (if g.k=k then _ else _::xD (md G) k ys)=_;rw [if_neg c,e4 ys];rfl⟩
theorem Ct {k:List Key}:∀{G:List zT},mT (wX G) k=none->getD (md G) k=[]/\(∀c ys,xD (md G) k ys=md (G++[⟨k,c,ys⟩]))/\((wX G).any λkv=>decide (kv.1=k))=false
 | [],_=>⟨rfl,λ_ _=>rfl,rfl⟩
 | g::G,h=>by
  by_cases c:g.k=k
  ·rw [show wX (g::G)=(g.k,V.ref g.c)::wX G from rfl,pD (p:=(g.k,V.ref g.c)) c] at h;cases h
  ·rw [show wX (g::G)=(g.k,V.ref g.c)::wX G from rfl,oI (p:=(g.k,V.ref g.c)) c] at h;obtain ⟨e1,e2,e3⟩:=Ct h;refine ⟨by show (if g.k=k then _ else getD (md G) k)=_;rw [if_neg c];exact e1,λd ys=>by show (if g.k=k then _ else _::xD (md G) k ys)=_;rw [if_neg c,e2 d ys];rfl,?_⟩;rw [show wX (g::G)=(g.k,V.ref g.c)::wX G from rfl,QC,e3,decide_eq_false c];rfl
section
variable {K:W.Frag} {B:QF->Prop} {H H' H1:Hp} {σ σ' S S':St} {E E':En} {t:Nat} {c:QF}
theorem RE.lend {Z:QF->Prop} {ts:List T} {vs:List V} (re:RE K B (hide (λb=>Z b\/b=c) H) σ E) (hc:¬Z c) (h1:H c=some (.lst vs)) (h2:cN K (hide (λb=>Z b\/b=c) H) (Ow B σ E) ts vs) :
  RE K B (hide Z H) (σ.set t (some (.ref c))) (E.set t (some (.o false ts)))/\∀b,Ow B (σ.set t (some (.ref c))) (E.set t (some (.o false ts))) b->Ow B σ E b\/b=c:=by
 have e:upd (hide (λb=>Z b\/b=c) H) c (.lst vs)=hide Z H:=by
  funext b
  by_cases q:b=c
  ·subst q;rw [cV,bZ hc,h1]
  ·rw [bC q]
   by_cases z:Z b
   ·rw [jU (.inl z),jU z]
   ·rw [bZ (λw=>w.elim z q),bZ z]
 obtain ⟨g,r⟩:=re.lst (p:=c) (jU (.inr rfl)) h2;rw [e] at r g;have hE:(E++[some (.o false ts)])[σ.length]? = some (some (.o false ts)):=by rw [re.len];simp
 obtain ⟨r2,ow⟩:=r.setO (σ:=σ) (i:=t) ⟨_,rfl⟩ (IW _) hE (v:=.ref c) (by simp);have et:(E++[some (U.o false ts)]).take σ.length=E:=by rw [re.len];simp
 rw [et] at r2 ow;refine ⟨r2,λb z=>?_⟩;rcases ow b z with w | ⟨j,k,xs,h3,h4⟩
 ·exact .inl (.inl w)
 ·rcases t9 h3 with ⟨lt,h3⟩ | ⟨e3,h3⟩
  ·rw [JP (by rw [re.len];exact lt)] at h4;exact .inl (.inr ⟨j,k,xs,h3,h4⟩)
  ·rw [e3,<-re.len] at h4;simp at h4;exact .inr h4.symm
theorem RE.hid1 {ys:List T} (re:RE K B H σ E) (hE:E[t]? = some (some (.o false ys))) (hS:σ[t]? = some (some (.ref c))):RE K B (hide (· = c) H) σ (E.set t none)/\(∀b,Ow B σ (E.set t none) b->Ow B σ E b/\b≠c):=by
 have gE:∀{j:Nat} {u:U},(E.set t none)[j]? = some (some u)->t≠j/\E[j]? = some (some u):=λ{j u} h=>by
  by_cases q:t=j
  ·subst q
   by_cases d:t<E.length
   ·rw [KO d] at h;cases h
   ·rw [MF (by simpa using d)] at h;cases h
  ·rw [JN q] at h;exact ⟨q,h⟩
 obtain ⟨a',vs,s1,s2,s3,s4⟩:=re.own t false ys hE;rw [hS] at s1;cases s1;have nB:¬B c:=λz=>by have:=s4.mpr z;cases this
 have oc:Ow B σ E c:=.inr ⟨t,false,ys,hE,hS⟩;have ow:∀b,Ow B σ (E.set t none) b->Ow B σ E b/\b≠c:=λb z=>by
  rcases z with z | ⟨j,k,xs,h1,h2⟩
  ·exact ⟨.inl z,λw=>nB (w ▸ z)⟩
  ·obtain ⟨n,h1⟩:=gE h1;refine ⟨.inr ⟨j,k,xs,h1,h2⟩,λw=>n ?_⟩;subst w;exact re.inj t j false k ys xs _ hE h1 hS h2
 have kp:Kp (Ow B σ E) (Ow B σ (E.set t none)) H (hide (· = c) H):=⟨λb o e n=>by rw [bZ (λw=>n (by rw [show b=c from w];exact oc))];exact e,λb z=>.inl (ow b z).1⟩;refine ⟨⟨by simpa using re.len,λj u h=>?_,λj k xs h=>?_,λj m k l xs ys' b h1 h2 h3 h4=>?_,λb z=>?_⟩,ow⟩
 ·obtain ⟨v,h1,h2⟩:=re.pure j u (gE h).2;exact ⟨v,h1,h2.step kp⟩
 ·obtain ⟨n,h'⟩:=gE h;obtain ⟨b,ws,h1,h2,h3,h4⟩:=re.own j k xs h';refine ⟨b,ws,h1,?_,h3.step kp,h4⟩;rw [bZ (λw=>n (re.inj t j false k ys xs c hE h' hS (by rw [h1,show b=c from w])))];exact h2
 ·exact re.inj j m k l xs ys' b (gE h1).2 (gE h2).2 h3 h4
 ·obtain ⟨us,e⟩:=re.bd b z;exact ⟨us,by rw [bZ (Z:=(· = c)) (λw=>nB (by rw [<-show b=c from w];exact z))];exact e⟩
end
theorem RE.vlT {K:W.Frag} {B:QF->Prop} {H:Hp} {S:St} {E:En} (re:RE K B H S E) {r:R} {v:V} {ts:List T} (h:RR K B H S E r v) (e:L2.vl E r=some (.tup ts)):Rp K H (Ow B S E) (.tup ts) v:=by
 cases r with
 | p u=>cases e;exact h
 | s i=>
  cases q:E[i]? with
  | none=>simp only [L2.vl,q] at e;cases e
  | some u=>
   cases u with
   | none=>simp only [L2.vl,q] at e;cases e
   | some u=>
    cases u with
    | p u=>
     simp only [L2.vl,q] at e;cases e;obtain ⟨w,h1,h2⟩:=re.pure i _ q;have h':S[i]? = some (some v):=h;rw [h'] at h1;cases h1;exact h2
    | o k xs=>simp only [L2.vl,q] at e;cases e
mutual
theorem BK {K:W.Frag} {H:Hp} {O O':QF->Prop} (hO:∀b,O' b->O b\/∃TN,H b=some (D7 true TN)):∀{t:T} {v:V},Rp K H O t v->Rp K H O' t v
 | .non,_,h=>h
 | .bl _,_,h=>h
 | .int _,_,h=>h
 | .str _,_,h=>h
 | .tup xs,v,h=>by
  obtain ⟨a,vs,e1,h1,h2⟩:=h;refine ⟨a,vs,e1,h1.imp (λ⟨n,h⟩=>⟨λz=>?_,h⟩) id,yK hO h2⟩;rcases hO a z with z | ⟨TN,q⟩
  ·exact n z
  ·rw [h] at q;cases q
 | .lst xs,v,h=>by
  obtain ⟨a,vs,e1,h1,h2⟩:=h;refine ⟨a,vs,e1,h1.imp (λ⟨n,h⟩=>⟨λz=>?_,h⟩) id,yK hO h2⟩;rcases hO a z with z | ⟨TN,q⟩
  ·exact n z
  ·rcases h with h | ⟨o,h⟩
   ·rw [h] at q;cases q
   ·rw [h] at q;cases q
theorem yK {K:W.Frag} {H:Hp} {O O':QF->Prop} (hO:∀b,O' b->O b\/∃TN,H b=some (D7 true TN)):∀{xs:List T} {vs:List V},cN K H O xs vs->cN K H O' xs vs
 | [],_,h=>h
 | _::_,_,⟨v,r,e,h1,h2⟩=>⟨v,r,e,BK hO h1,yK hO h2⟩
end
def Oq (K:W.Frag):Prop:=∀a x y z,¬KT K a [V.int x,V.int y,V.int z]
def CP (t:Option T) (k:List Key->Prop):Prop:=match t with
 | some (.tup [.int a,.int b,.int c])=>k [Sum.inl a,Sum.inl b,Sum.inl c]
 | _=>False
theorem CP.ex {t:Option T} {k:List Key->Prop} (h:CP t k):∃a b c,t=some (.tup [.int a,.int b,.int c])/\k [Sum.inl a,Sum.inl b,Sum.inl c]:=by
 unfold CP at h;split at h
 ·exact ⟨_,_,_,rfl,h⟩
 ·exact h.elim
def wH (E:En) (p:Nat) (k:List T->Prop):Prop:=match E[p]? with
 | some (some (.o false xs))=>k xs
 | _=>False
theorem wH.ex {E:En} {p:Nat} {k:List T->Prop} (h:wH E p k):∃xs,E[p]? = some (some (.o false xs))/\k xs:=by
 unfold wH at h;split at h
 ·rename_i xs e;exact ⟨xs,e,h⟩
 ·exact h.elim
def FT (t:Nat) (Fk:FE) (F:FS):Kw:=λD M E=>Fk E λr E1=>E1=E/\M.length<1000/\CP (vl E r) λk=>rC (E.set t (some (.o false (getD M k))))
 (F { nx:=λE'=>wH E' t λys=>d9 ys=true/\D.nx (xD M k ys) (E'.set t none),rt:=λ_ _=>False })
section
variable {X:Cx} {K:W.Frag} {WO:List QU} {i t:Nat}
theorem O7 {Fk:FE} {F:FS} {x y:Str} {p' p1 ap pl cp pos:Pos} {ek:Expr} {j:Nat} (hr:fD j X.A) (eK:X.K=K) (n3:Oq K) (hN:X.N.Nodup) (ht:X.N[t]? = some x) (hx:Eh X.env.scope x) (hi:X.N[i]? = some y) (hv:V1 X.env.scope y) (hti:t≠i) (hk:QE X ek (aQ K Fk)) (UN:QB X WO (kA [i,t] K F))
  (m:M2 X (.Name y p1) "setdefault" ap ek (.List [] pl) cp) (hs:RN (.Call (.Attribute (.Name y p1) "setdefault" ap) [ek,.List [] pl] [] cp) (some (.Name x p')) pos.line X.env=pure false:=by rfl)
  (hf:X.fn x=true\/X.env.scope.names.lookup x=some .local:=by first | exact .inl rfl | exact .inr rfl | assumption) (hd:(y==("__debug__":Str))=false:=by decide) (XJ:(y==("__classdict__":Str))=false:=by decide) :
  QB X (.Assign [.Name x p'] (.Call (.Attribute (.Name y p1) "setdefault" ap) [ek,.List [] pl] [] cp) pos::WO) (uW true i K (FT t Fk F)):=by
 subst eK;refine (oX (xI hN ht hx (⟨Xh (AJ hr) (Oj hi hv hd XJ) hk.frame.h (Ec Ql).h m⟩:QE X _ _) hs hf) UN.frame).leM λD σ H hl ⟨a,G,B,E,DT,d,re,hF,l⟩=>?_;have lt:t<σ.length:=by rw [hl];exact (IT.mp ht).1
 refine ⟨.ref a,d.nm,a,rfl,.inr ⟨_,.inl d.dc⟩,_,d.hid,B,σ,E,_,⟨[],by simp⟩,re,hF,λr E1 v H1 S1 z g TL rr=>⟨d.tk re g.kp,λgone=>⟨LM _,λp hp=>?_⟩⟩⟩;obtain ⟨rfl,hM,z⟩:=z;obtain ⟨ka,kb,kc,ez,z⟩:=z.ex;replace z:=gC z;obtain rfl:S1=σ:=by
  obtain ⟨τ,hτ⟩:=g.pre;have h1:=congrArg OL hτ;rw [IY,TL.len,re.len] at h1;obtain rfl:τ=[]:=MH (by omega);rw [hτ,JS]
 obtain ⟨g1,d1⟩:=d.after re g.kp gone;replace d1:=d1 S1 rfl;have hb2:hide (·∈a::cY G) (back (·∈a::cY G) H H1)=H1:=fW gone;obtain ⟨zm,vs,rfl,sq,rs⟩:=TL.vlT rr ez;have eb:H1 zm=some (.tup ([Sum.inl ka,Sum.inl kb,Sum.inl kc].map kV)):=by
  obtain ⟨v1,r1,rfl,q1,v2,r2,rfl,q2,v3,r3,rfl,q3,rfl⟩:=rs;cases q1;cases q2;cases q3;rcases sq with sq | sq
  ·exact sq.2
  ·exact absurd sq (n3 _ _ _ _)
 generalize hH2:back (·∈a::cY G) H H1=H2 at hp g1 d1 hb2;have n1:∀{b:QF} {o:HO},H1 b=some o->b∉a::cY G:=λ{b o} h m=>by rw [gone b m] at h;cases h
 have zp:∀{b:QF} {o:HO},H1 b=some o->H2 b=some o:=λ{b o} h=>by rw [<-hH2,dJ (n1 h)];exact h
 have np:∀{b:QF} {o:HO},H2 b=some o->b≠p:=λ{b o} h z=>by rw [z,hp] at h;cases h
 have up:∀{b:QF} {o o':HO},H2 b=some o->(upd H2 p o') b=some o:=λ{b o o'} h=>by rw [bC (np h)];exact h
 have pZ:p∉a::cY G:=λm=>by
  obtain ⟨o,e,_⟩:=d1.hid p m;rw [hp] at e;cases e
 -- the rest of the block,the list of g lent
 have rest:∀(G1 G2:List zT) (g0:zT) (Hx:Hp) (M':List T->MD),Hx a=some (D7 true (G1++g0::G2))->(∀b o,H2 b=some o->b≠a->Hx b=some o)->(cY (G1++g0::G2)).Nodup->a∉cY (G1++g0::G2)->
   (∀g'∈G1++g0::G2,∃vs,Hx g'.c=some (.lst vs)/\cN X.K Hx (λc=>dD Hx c\/c=a) g'.o vs)->(∀b,b∈cY (G1++g0::G2)->b∈a::cY G\/b=p)->(∀ys,M' ys=md (G1++⟨g0.k,g0.c,ys⟩::G2))->
   F { nx:=λE'=>wH E' t λys=>d9 ys=true/\DT.nx (M' ys) (E'.set t none),rt:=λ_ _=>False } (E1.set t (some (.o false g0.o)))->
   DW (kA [i,t] X.K F) D (S1.set t (some (.ref g0.c))) Hx:=λG1 G2 g0 Hx M' xa xk nd na ls sub qh z=>by
  have ad:∀{g':zT},g'∈G1++g0::G2->g'.c∈cY (G1++g0::G2):=λm=>yO m;have mem:∀{b:QF},b∈cY (G1++g0::G2)↔b∈cY (G1++G2)\/b=g0.c:=λ{b}=>by simp [cY,or_comm,or_left_comm]
  have nc:g0.c∉a::cY (G1++G2):=λm=>by
   rcases IU.mp m with e | m
   ·exact na (by rw [<-e];exact mem.mpr (.inr rfl))
   ·have:(cY (G1++g0::G2)).Perm (g0.c::cY (G1++G2)):=by
     show List.Perm ((G1++g0::G2).map (·.c)) (((g0::(G1++G2)).map (·.c)));exact List.Perm.map _ List.perm_middle
    exact (ML.mp (this.nodup_iff.mp nd)).1 m
  have hZ:∀c∈a::cY (G1++G2),∃o,Hx c=some o/\Lq o:=λc m=>by
   rcases IU.mp m with e | m
   ·rw [e];exact ⟨_,xa,Gv _ _⟩
   ·obtain ⟨g',mg,rfl⟩:=rX m;obtain ⟨vs,h,_⟩:=ls g' (by rcases JJ.mp mg with w | w<;>simp [w]);exact ⟨_,h,trivial⟩
  obtain ⟨zq,c1,c2⟩:=ls g0 (by simp)
  -- the environment,with all of it hidden
  have ex:∀b o,H1 b=some o->hide (λb=>b∈a::cY (G1++G2)\/b=g0.c) Hx b=some o:=λb o e=>by
   have h2:=zp e;rw [bZ]
   ·exact xk b o h2 λw=>n1 e (by rw [w];simp)
   ·intro w;have:b∈a::cY (G1++g0::G2):=by
     rcases w with w | w
     ·rcases IU.mp w with w | w
      ·rw [w];simp
      ·exact JR _ (mem.mpr (.inl w))
     ·exact JR _ (mem.mpr (.inr w))
    rcases IU.mp this with w | w
    ·exact n1 e (by rw [w];simp)
    ·rcases sub b w with w | w
     ·exact n1 e w
     ·exact np h2 w
  have UY:=TL.kept ex;have vi:∀{b:QF},Ow B S1 E1 b->dD Hx b/\b∉a::cY (G1++G2)/\b≠g0.c:=λ{b} w=>by
   obtain ⟨us,e⟩:=UY.ow w;obtain ⟨n,e⟩:=cU e;exact ⟨⟨us,e⟩,λw=>n (.inl w),λw=>n (.inr w)⟩
  have c3:cN X.K (hide (λb=>b∈a::cY (G1++G2)\/b=g0.c) Hx) (Ow B S1 E1) g0.o zq:=by
   refine c2.step ⟨λb o e n=>?_,λb w=>.inl (.inl (vi w).1)⟩;rw [bZ];exact e;intro w;rcases w with w | w
   ·rcases IU.mp w with w | w
    ·exact n (.inr w)
    ·obtain ⟨g',mg,rfl⟩:=rX w;obtain ⟨vs,h,_⟩:=ls g' (by rcases JJ.mp mg with w | w<;>simp [w]);exact n (.inl ⟨vs,h⟩)
   ·rw [w] at n;exact n (.inl ⟨zq,c1⟩)
  obtain ⟨UZ,ig⟩:=UY.lend (t:=t) nc c1 c3;have vj:∀{b:QF} {o:HO},Hx b=some o->¬Lq o->b∉a::cY (G1++G2):=λ{b o} e n m=>by
   obtain ⟨o',e',k⟩:=hZ b m;rw [e] at e';cases e';exact n k
  refine ⟨_,hZ,B,_,_,UZ,z,⟨λσ' H5 E5 w g5 WX hk=>⟨λb xs e=>?_,λcm=>?_⟩,λ_ _ _ _ _ w=>w.elim,λ_ _ _ w=>w.elim,λ_ _ _ w=>w.elim⟩⟩
  ·refine g5.keep b _ (by rw [bZ (vj e λw=>w)];exact e) λw=>?_;obtain ⟨us,e'⟩:=UZ.ow w;rw [(cU e').2] at e;cases e
  ·obtain ⟨ys,eo,w1,w2⟩:=wH.ex w;have st:σ'[t]? = some (some (.ref g0.c)):=by rw [hk t (by simp),KO lt]
   have si:σ'[i]? = some (some (.ref a)):=by rw [hk i (by simp),JN hti];exact d.nm
   obtain ⟨a',vm,s1,s2,s3,s4⟩:=WX.own t false ys eo;rw [st] at s1;cases s1;obtain ⟨ik,ow6⟩:=WX.hid1 eo st;have v5:∀{b:QF} {o:HO},H5 b=some o->b∉a::cY (G1++G2):=λ{b o} h m=>by rw [cm b m] at h;cases h
   have eH:hide (·∈a::cY (G1++⟨g0.k,g0.c,ys⟩::G2)) (back (·∈a::cY (G1++G2)) Hx H5)=hide (· = g0.c) H5:=by
    funext b
    have em:b∈a::cY (G1++⟨g0.k,g0.c,ys⟩::G2)↔b∈a::cY (G1++G2)\/b=g0.c:=by simp [cY,or_comm,or_left_comm,or_assoc]
    by_cases w:b=g0.c
    ·rw [jU (em.mpr (.inr w)),jU (Z:=(· = g0.c)) w]
    ·by_cases w':b∈a::cY (G1++G2)
     ·rw [jU (em.mpr (.inl w')),bZ (Z:=(· = g0.c)) w,cm b w']
     ·rw [bZ (λm=>(em.mp m).elim w' w),bZ (Z:=(· = g0.c)) w,dJ w']
   have aCY:∀{b:QF},Ow B σ' E5 b->dD H5 b:=λ{b} w=>WX.ow w;have keep:∀b o,Hx b=some o->¬(dD Hx b\/b=a)->back (·∈a::cY (G1++G2)) Hx H5 b=some o:=λb o e n=>by
    by_cases m:b∈a::cY (G1++G2)
    ·rw [i9 m];exact e
    ·rw [dJ m];refine g5.keep b o (by rw [bZ m];exact e) λw=>?_;obtain ⟨us,e'⟩:=UZ.ow w;exact n (.inl ⟨us,(cU e').2⟩)
   have nla:¬dD Hx a:=λ⟨us,e⟩=>by rw [xa] at e;exact Sk (Option.some.inj e)
   have ba:back (·∈a::cY (G1++G2)) Hx H5 a=Hx a:=i9 (by simp);have dg:DG true X.K i a (G1++⟨g0.k,g0.c,ys⟩::G2) σ' (back (·∈a::cY (G1++G2)) Hx H5):=by
    refine ⟨si,by rw [ba,xa];simp [D7,wX],by have:=nd;simpa [cY] using this,λg' mg=>?_⟩;have old:∀g'∈G1++G2,∃vs,back (·∈a::cY (G1++G2)) Hx H5 g'.c=some (.lst vs)/\cN X.K (back (·∈a::cY (G1++G2)) Hx H5) (λc=>dD (back (·∈a::cY (G1++G2)) Hx H5) c\/c=a) g'.o vs:=λg' mg=>by
     obtain ⟨vs,h1,h2⟩:=ls g' (by rcases JJ.mp mg with w | w<;>simp [w]);exact ⟨vs,by rw [i9 (JR _ (yO mg))];exact h1,h2.step (Jn keep nla)⟩
    rcases JJ.mp mg with m | m
    ·exact old g' (JJ.mpr (.inl m))
    ·rcases IU.mp m with m | m
     ·subst m;refine ⟨vm,by rw [dJ nc];exact s2,?_⟩;have r1:cN X.K (back (·∈a::cY (G1++G2)) Hx H5) (Ow B σ' E5) ys vm:=s3.step ⟨λb o e _=>by rw [dJ (v5 e)];exact e,λ_ w=>.inl w⟩;have r2:cN X.K (back (·∈a::cY (G1++G2)) Hx H5) (dD (back (·∈a::cY (G1++G2)) Hx H5)) ys vm:=cN.noL (λb w=>w) w1 r1;exact yK (λb w=>w.imp id λw=>by subst w;exact ⟨_,by rw [ba];exact xa⟩) r2
     ·exact old g' (JJ.mpr (.inr m))
   refine l.nx _ _ _ (G1++⟨g0.k,g0.c,ys⟩::G2) (by rw [<-qh ys];exact w2) ?_ dg (by rw [eH];exact ik);have em:∀{b:QF},b∈a::cY (G1++⟨g0.k,g0.c,ys⟩::G2)↔b∈a::cY (G1++g0::G2):=λ{b}=>by simp [cY]
   refine g1.trans ⟨λb o e n=>?_,λb w=>?_⟩
   ·have nz:b∉a::cY G:=λw=>n (.inr w);have nx:b≠a:=λw=>nz (by rw [w];simp);have ex:=xk b o e nx;have zu:b∉cY (G1++g0::G2):=λw=>(sub b w).elim nz (np e);have zv:b∉a::cY (G1++G2):=λw=>(IU.mp w).elim nx λw=>zu (mem.mpr (.inl w));rw [dJ zv];refine g5.keep b o (by rw [bZ zv];exact ex) λw=>?_;rcases ig b w with w | w
    ·exact n (.inl w)
    ·exact zu (mem.mpr (.inr w))
   ·have pn:∀{b:QF},b=p->H2 b=none:=λe=>by rw [e];exact hp
    rcases w with w | w
    ·obtain ⟨w,nc6⟩:=ow6 b w;rcases g5.new b w with w | w
     ·rcases ig b w with w | w
      ·exact .inl (.inl w)
      ·exact absurd w nc6
     ·by_cases m:b∈a::cY (G1++G2)
      ·rcases IU.mp m with m | m
       ·exact .inl (.inr (by rw [m];simp))
       ·rcases sub b (mem.mpr (.inl m)) with m | m
        ·exact .inl (.inr m)
        ·exact .inr (pn m)
      ·rw [bZ m] at w;cases e:H2 b with
       | none=>exact .inr rfl
       | some o=>
        by_cases m2:b=a
        ·exact .inl (.inr (by rw [m2];simp))
        ·rw [xk b o e m2] at w;cases w
    ·rcases IU.mp (em.mp w) with m | m
     ·exact .inl (.inr (by rw [m];simp))
     ·rcases sub b m with m | m
      ·exact .inl (.inr m)
      ·exact .inr (pn m)
 have qi:a∉cY G:=λm=>by
  obtain ⟨g',mg,e⟩:=rX m;obtain ⟨vs,h,_⟩:=d1.ls g' mg;rw [e] at h;exact d1.nl ⟨vs,h⟩
 refine ⟨zm,wX G,[Sum.inl ka,Sum.inl kb,Sum.inl kc],rfl,up d1.dc,up (zp eb),by rw [SU];simp only [wX,md,IS] at hM ⊢;omega,λu hu=>?_,λhn=>?_⟩
 ·obtain ⟨G1,g0,G2,eG,rfl,e3,e4⟩:=Dc hu;rw [e3] at z;rw [eG] at qi;refine rest G1 G2 g0 _ _ (by rw [<-eG];exact up d1.dc) (λb o e _=>up e) (by rw [<-eG];exact d1.nd) qi (λg' mg=>?_) (λb m=>.inl (JR _ (by rw [eG];exact m))) e4 z;obtain ⟨vs,h1,h2⟩:=d1.ls g' (by rw [eG];exact mg);exact ⟨vs,up h1,h2.step (Jn (λb o e _=>up e) d1.nl)⟩
 ·obtain ⟨e1,e2,e3⟩:=Ct hn;rw [e1] at z;have ap:a≠p:=np d1.dc;have xk:∀b o,H2 b=some o->b≠a->(upd (upd H2 p (.lst [])) a (.dT (pB (wX G) [Sum.inl ka,Sum.inl kb,Sum.inl kc] (.ref p)))) b=some o:=λb o e n=>by rw [bC n];exact up e
  refine rest G [] ⟨[Sum.inl ka,Sum.inl kb,Sum.inl kc],p,[]⟩ _ _ ?_ xk ?_ ?_ (λg' mg=>?_) (λb m=>?_) (e2 p) z
  ·rw [cV];unfold pB;rw [if_neg (by rw [e3];decide)];simp [D7,wX]
  ·have h1:=d1.nd;have h2:p∉cY G:=λm=>pZ (JR _ m);show (List.map (·.c) (G++[_])).Nodup;rw [KU,List.nodup_append];exact ⟨h1,by simp,λx hx y hy w=>by simp at hy;rw [w,hy] at hx;exact h2 hx⟩
  ·intro m;simp only [cY,KU,JK,MT,JJ,JB] at m;rcases m with m | m
   ·exact qi m
   ·exact ap m
  ·rcases JJ.mp mg with m | m
   ·obtain ⟨vs,h1,h2⟩:=d1.ls g' m;have ne:g'.c≠a:=λw=>qi (by rw [<-w];exact yO m);exact ⟨vs,xk _ _ h1 ne,h2.step (Jn (λb o e n=>xk b o e λw=>n (.inr w)) d1.nl)⟩
   ·simp at m;subst m;exact ⟨[],by rw [bC (λw=>ap w.symm),cV],rfl⟩
  ·simp only [cY,KU,JK,MT,JJ,JB] at m;exact m.imp (λm=>JR _ m) id
end
end L2
namespace L2
open PySem PySem.Spec PyProof.Rows
end L2
namespace L2
open PySem PySem.Spec PyProof.Rows
end L2
namespace L2
open PySem PySem.Spec PyProof.Rows
def Ya (x:Str):It:=
 ⟨λi _=>i<x.cps.size,λi H v H'=>∃p c,v = .ref p/\H p=none/\H'=upd H p (.tup [.int (i:Int),.str ⟨#[c]⟩])/\x.cps[i]? = some c,λi _=>i=x.cps.size⟩
theorem Ds {P:QJ} {w:QM} {K:W.Frag} {elts:List Expr} {x1} {VG:Pos} (x:Str) (t:Tok) (ty:String) (e it:QF) (WG:e≠it)
  (D:∀(A:Around),A.handled=none->Draws P w A it [it] x.cps.size (λi v=>∃c u,x.cps[i]? = some c/\v = .str ⟨#[c]⟩ u) (λi h=>h.IsStrIter it ty x t i)) :
  Er P w K (.Tuple elts x1 VG) (Ya x) [e,it] e (λi h=>(∃old,IsEnum h e it (i:Nat) old)/\h.IsStrIter it ty x t i) where
 mem:=by simp
 obj:=λi h st b hb=>by
  obtain ⟨⟨old,he⟩,⟨o,ho,hc,hd⟩⟩:=st;rcases IU.mp hb with rfl | hb
  ·exact ⟨_,he,λv z=>by cases z⟩
  ·rw [JB.mp hb];exact ⟨o,ho,λv z=>by rw [hd] at z;cases z⟩
 keep:=λi h h' st k=>⟨let ⟨old,he⟩:=st.1;⟨old,k e (by simp) _ he⟩,let ⟨o,ho,r⟩:=st.2;⟨o,k it (by simp) o ho,r⟩⟩
 item:=by
  intro X hP hw hK hc i pins s σ H E I hf st hg;subst hP hw hK;have hg:i<x.cps.size:=hg;obtain ⟨⟨old,he⟩,hit⟩:=st;refine wpAny_pyNext_enum_itemD (D X.A.in1 (I.ok.hd hc)) he hit hg WG (by simp [WG]) λx' h1 tk hP ho qk ht YL hk=>⟨_,rfl,?_⟩;obtain ⟨c,u,hcx,ex⟩:=hP;subst ex;refine wpAny_letOwnedTupleGo_enum ho λh2 sr YR=>?_;have tf:e≠s.heap.objs.size:=JU (JD he);have kk:∀b o,b∉[e,it]->s.heap.get? b=some o->h2.get? b=some o:=λb o hb q=>by
   have b1:b≠e:=λz=>hb (by simp [z]);have b2:b≠it:=λz=>hb (by simp [z]);exact YR.extBut b o b1 (hk b o b1 b2 q)
  have nw:dW X.prog X.w (upd H s.heap.objs.size (.tup [.int (i:Int),.str ⟨#[c]⟩])) h2 s.heap.objs.size (.tup [.int (i:Int),.str ⟨#[c]⟩]):=
   ⟨by show 2<=QP;decide,[.int i tk,.str ⟨#[c]⟩ u],.cons ⟨_,rfl⟩ (.cons ⟨_,rfl⟩ .nil),⟨_,YR.extBut _ _ (Ne.symm tf) ht,rfl,_,rfl⟩⟩
  refine ⟨.ref s.heap.objs.size,upd H s.heap.objs.size (.tup [.int (i:Int),.str ⟨#[c]⟩]),I.turnedLaid (t':=tk+1) (ch:=[e,it]) kk hf (IW _) nw,rfl,
   ⟨_,c,rfl,I.hok.fresh (IW _),rfl,hcx⟩,⟨⟨_,by simpa using sr⟩,qk.extBut YR.extBut (Ne.symm WG)⟩,λb hb=>?_⟩
  have VP:b<s.heap.objs.size:=by
   rcases IU.mp hb with rfl | hb
   ·exact JD he
   ·rw [JB.mp hb];obtain ⟨o,WZ,_⟩:=hit;exact JD WZ
  rw [bC (JU VP)];exact (hf b hb).1
 done:=by
  intro X hP hw hK hc i pins s σ H E I hf st hg;subst hP hw hK;have hg:i=x.cps.size:=hg;subst hg;obtain ⟨⟨old,he⟩,hit⟩:=st;refine wpAny_pyNext_enum_endD (D X.A.in1 (I.ok.hd hc)) he hit λh1 eb=>⟨rfl,?_⟩;exact I.turnedL (t':=s.toks) (ch:=[e,it]) (λb o hb q=>eb b o (λz=>hb (by simp [z])) q) hf
 self:=λ_ _ _ _ _ st h=>let ⟨old,he⟩:=st.1;wpAny_pyIter_enum he h
section
variable {X:Cx} {a:Expr} {pos:Pos} {K:W.Frag} {Fr:FA}
def Oc (ta:TA):TI:=λσ H R=>ta σ H λvs H1=>∃x,vs=[.str x]/\R (Ya x) H1
theorem Uk {ta:TA} {p VG:Pos} {elts:List Expr} {x1} (hg:Gl X "enumerate") (hm:X.mg "enumerate" = none) (ha:PA X [a] ta) (hs:QY [a] X.env=[(false,RB a X.env)]:=by rfl) :
  PI X (.Tuple elts x1 VG) (.Call (.Name "enumerate" p) [a] [] pos) (Oc ta):=by
 intro pins s σ H R I h;refine Call_ (qH I hg hm boot_enumerate (PyProof.Rows.callWith_type1 (dM (ha pos pins s σ H _ I h) λus s1 ⟨vs,H1,I1,r1,q1⟩=>?_) hs rfl));obtain ⟨x,rfl,q⟩:=q1;obtain ⟨u,rfl,ru⟩:=bG.one r1;obtain ⟨t,rfl⟩:=ru;refine call_enumerate_str λh' he hit YL hk=>?_;refine wpAny_pyIter_enum he ?_;have D:∀(A:Around),A.handled=none->Draws X.prog X.w A s1.heap.objs.size [s1.heap.objs.size] x.cps.size (λi v=>∃c u,x.cps[i]? = some c/\v = .str ⟨#[c]⟩ u) (λi h=>h.IsStrIter s1.heap.objs.size (strIterType x) x t i):=λA hA=>by
  unfold strIterType
  split
  ·exact Draws.strAscii hA _ x t
  ·exact Draws.strWide hA _ x t
 refine ⟨s1.heap.objs.size+1,[s1.heap.objs.size+1,s1.heap.objs.size],_,_,H1,rfl,I1.kept (t':=s1.toks) hk,Ds x t (strIterType x) _ _ (Nat.succ_ne_self _) D,⟨⟨_,he⟩,hit⟩,λb hb=>?_,q⟩;have hle:s1.heap.objs.size<=b:=by
  rcases IU.mp hb with rfl | hb
  ·exact Nat.le_succ _
  ·rw [JB.mp hb];exact IW _
 exact I1.fpOk hle (I1.hok.fresh hle)
theorem Wt {x:Str}:Es K (Ya x) ((kM x).zipIdx.map λq=>T.tup [.int (q.2:Int),q.1]) (λ_ _=>True):=by
 refine ⟨λ_ _ _ _ _ h=>h,λi H O _ hi=>by show i<x.cps.size;simpa [kM] using hi,λi H O v H' t _ e hO y=>?_,λH O _=>by simp [Ya,kM]⟩;obtain ⟨pp,c,e1,hp,e2,hc⟩:=y;subst e1;subst e2;rw [JC] at e;have hi:i<x.cps.size:=(Array.getElem?_eq_some_iff.mp hc).1;have hx:(kM x)[i]? = some (T.str ⟨#[c]⟩):=by
  unfold kM;rw [JC,Array.getElem?_toList,hc];rfl
 rw [MQ,hx] at e;cases e;have k:Kp O O H (upd H pp (.tup [.int (i:Int),.str ⟨#[c]⟩])):=Kp.upd hp;refine ⟨k,λb o z=>by rw [bC (bF z hp)];exact z,pp,_,rfl,.inl ⟨λz=>hO pp z hp,cV⟩,_,_,rfl,?_,_,[],rfl,rfl,rfl⟩;simp [Rp]
def HN (Fr:FA):FI:=λE Q=>Fr E λrs E1=>match rs with
 | [r]=>s1 (vl E1 r) λx=>Q ((kM x).zipIdx.map λq=>T.tup [.int (q.2:Int),q.1]) [] E1
 | _=>False
theorem Pe {n:Nat} {p VG:Pos} {elts:List Expr} {x1} (hg:Gl X "enumerate") (hm:X.mg "enumerate" = none) (ha:QA X [a] (eC K n Fr)) (hs:cS a=false:=by rfl):QI X (.Tuple elts x1 VG) (.Call (.Name "enumerate" p) [a] [] pos) (nE K (HN Fr)):=by
 refine QI.le (t:=Oc (eC K n Fr)) ⟨Uk hg hm ha.h (dP hs)⟩ λσ H R hn ⟨B,S,E,Q',hS,re,hF,lk⟩=>⟨B,S,E,_,hS,re,hF,λrs E1 vs H1 S1 q g TL rr hn=>?_⟩
 match rs,rr,q with
 | [r],⟨v,ws,e1,h1,h2⟩,q=>
  cases h2;subst e1;obtain ⟨x,e1,q⟩:=s1.ex q;exact ⟨x,by rw [TL.str h1 e1],lk _ _ _ _ _ _ _ q g TL Wt (λj hj=>absurd hj (by simp)) λ_ _ _=>trivial⟩
 | [],_,q=>exact q.elim
 | _::_::_,_,q=>exact q.elim
end
end L2
namespace L2
open PySem PySem.Spec PyProof.Rows
def x9:List Int->Int
 | []=>0
 | n::ns=>ns.foldl (λa b=>if b<a then b else a) n
def zE:List Int->Int
 | []=>0
 | n::ns=>ns.foldl (λa b=>if a<b then b else a) n
theorem sV:∀(ns:List Int) (n:Int),(ns.foldl (λa b=>if b<a then b else a) n=n\/ns.foldl (λa b=>if b<a then b else a) n∈ns)/\ns.foldl (λa b=>if b<a then b else a) n<=n/\∀z∈ns,ns.foldl (λa b=>if b<a then b else a) n<=z
 | [],n=>⟨.inl rfl,Int.le_refl _,λz h=>absurd h (by simp)⟩
 | m::ns,n=>by
  obtain ⟨h1,h2,h3⟩:=sV ns (if m<n then m else n);rw [List.foldl_cons];generalize ns.foldl (λa b=>if b<a then b else a) (if m<n then m else n)=r at h1 h2 h3
  by_cases c:m<n
  ·rw [if_pos c] at h1 h2;refine ⟨.inr ?_,by omega,λz hz=>?_⟩
   ·rcases h1 with h1 | h1<;>simp [h1]
   ·rcases IU.mp hz with rfl | hz
    ·exact h2
    ·exact h3 z hz
  ·rw [if_neg c] at h1 h2;refine ⟨h1.imp id λh=>by simp [h],h2,λz hz=>?_⟩;rcases IU.mp hz with rfl | hz
   ·omega
   ·exact h3 z hz
theorem tQ:∀(ns:List Int) (n:Int),(ns.foldl (λa b=>if a<b then b else a) n=n\/ns.foldl (λa b=>if a<b then b else a) n∈ns)/\n<=ns.foldl (λa b=>if a<b then b else a) n/\∀z∈ns,z<=ns.foldl (λa b=>if a<b then b else a) n
 | [],n=>⟨.inl rfl,Int.le_refl _,λz h=>absurd h (by simp)⟩
 | m::ns,n=>by
  obtain ⟨h1,h2,h3⟩:=tQ ns (if n<m then m else n);rw [List.foldl_cons];generalize ns.foldl (λa b=>if a<b then b else a) (if n<m then m else n)=r at h1 h2 h3
  by_cases c:n<m
  ·rw [if_pos c] at h1 h2;refine ⟨.inr ?_,by omega,λz hz=>?_⟩
   ·rcases h1 with h1 | h1<;>simp [h1]
   ·rcases IU.mp hz with rfl | hz
    ·exact h2
    ·exact h3 z hz
  ·rw [if_neg c] at h1 h2;refine ⟨h1.imp id λh=>by simp [h],h2,λz hz=>?_⟩;rcases IU.mp hz with rfl | hz
   ·omega
   ·exact h3 z hz
theorem Wj {ns:List Int} {M:Int} (h:M∈ns) (k:∀z∈ns,M<=z):M=x9 ns:=by
 cases ns with
 | nil=>simp at h
 | cons n ns=>
  obtain ⟨h1,h2,h3⟩:=sV ns n;show M=ns.foldl _ n;generalize ns.foldl (λa b=>if b<a then b else a) n=r at h1 h2 h3;have a1:r<=M:=by
   rcases IU.mp h with rfl | h
   ·exact h2
   ·exact h3 M h
  have a2:M<=r:=k r (by rcases h1 with h1 | h1<;>simp [h1]);omega
theorem Yy {ns:List Int} {M:Int} (h:M∈ns) (k:∀z∈ns,z<=M):M=zE ns:=by
 cases ns with
 | nil=>simp at h
 | cons n ns=>
  obtain ⟨h1,h2,h3⟩:=tQ ns n;show M=ns.foldl _ n;generalize ns.foldl (λa b=>if a<b then b else a) n=r at h1 h2 h3;have a1:M<=r:=by
   rcases IU.mp h with rfl | h
   ·exact h2
   ·exact h3 M h
  have a2:r<=M:=k r (by rcases h1 with h1 | h1<;>simp [h1]);omega
theorem nH:∀{ns:List Int} {us:List Value},bG (ns.map V.int) us->∃xs:Array (Int×Tok),us.toArray=intItems xs/\ns=xs.toList.map (·.1)
 | [],us,h=>by cases h;exact ⟨#[],by simp [intItems],rfl⟩
 | n::ns,us,h=>by
  cases h with
  | cons h1 h2=>
   obtain ⟨t,rfl⟩:=h1;obtain ⟨xs,e1,e2⟩:=nH h2;refine ⟨((n,t)::xs.toList).toArray,?_,by simp [e2]⟩;have jr:=congrArg QD e1;simp [intItems] at jr;simp [intItems,jr]
section
variable {X:Cx} {e:Expr} {es:List Expr} {pos:Pos} {K:W.Frag} {Fr:FA}
theorem Ly (hc:X.calm=true):gQ X (.builtin "min") (λxs H Q=>∃(a:QF) (ns:List Int),xs=[.ref a]/\j4 X.K H a (ns.map V.int)/\0<ns.length/\Q (.int (x9 ns)) H):=by
 intro pins s σ H xs us Q I r h;obtain ⟨a,ns,rfl,sq,hn,q⟩:=h;obtain ⟨u,rfl,rx⟩:=bG.one r;cases rx;obtain ⟨TC,rv,ht,hz⟩:=I.list sq;obtain ⟨xs,e1,e2⟩:=nH rv;have hl:=ht.isList;rw [e1] at hl;have YL:0<xs.size:=by rw [e2] at hn;simpa using hn
 refine min_intList (I.ok.hd hc) hl YL λv h' tk hv hk=>?_;obtain ⟨t,rfl⟩:=intItems_at hv;obtain ⟨h1,h2⟩:=argBest_lt (numAt xs) (xs.size-1);have:numAt xs (argBest (λi j=>decide (numAt xs i<numAt xs j)) (xs.size-1))=x9 ns:=by
  refine Wj ?_ λz hz=>?_
  ·rw [numAt_eq,<-e2];have:argBest (λi j=>decide (numAt xs i<numAt xs j)) (xs.size-1)<ns.length:=by rw [e2];simp;omega
   rw [JM,IQ this];exact LN _
  ·obtain ⟨j,hj,rfl⟩:=List.getElem_of_mem hz;have:=h2 j (by rw [e2] at hj;simp at hj;omega);rw [numAt_eq xs j,<-e2,JM,IQ hj] at this;exact this
 rw [this];exact ⟨.int _,H,I.kept hk,⟨_,rfl⟩,q⟩
theorem Mt (hc:X.calm=true):gQ X (.builtin "max") (λxs H Q=>∃(a:QF) (ns:List Int),xs=[.ref a]/\j4 X.K H a (ns.map V.int)/\0<ns.length/\Q (.int (zE ns)) H):=by
 intro pins s σ H xs us Q I r h;obtain ⟨a,ns,rfl,sq,hn,q⟩:=h;obtain ⟨u,rfl,rx⟩:=bG.one r;cases rx;obtain ⟨TC,rv,ht,hz⟩:=I.list sq;obtain ⟨xs,e1,e2⟩:=nH rv;have hl:=ht.isList;rw [e1] at hl;have YL:0<xs.size:=by rw [e2] at hn;simpa using hn
 refine max_intList (I.ok.hd hc) hl YL λv h' tk hv hk=>?_;obtain ⟨t,rfl⟩:=intItems_at hv;obtain ⟨h1,h2⟩:=argBest_gt (numAt xs) (xs.size-1);have:numAt xs (argBest (λi j=>decide (numAt xs i>numAt xs j)) (xs.size-1))=zE ns:=by
  refine Yy ?_ λz hz=>?_
  ·rw [numAt_eq,<-e2];have:argBest (λi j=>decide (numAt xs i>numAt xs j)) (xs.size-1)<ns.length:=by rw [e2,IS,MY];omega
   rw [JM,IQ this];exact LN _
  ·obtain ⟨j,hj,rfl⟩:=List.getElem_of_mem hz;have:=h2 j (by rw [e2] at hj;simp at hj;omega);rw [numAt_eq xs j,<-e2,JM,IQ hj] at this;exact this
 rw [this];exact ⟨.int _,H,I.kept hk,⟨_,rfl⟩,q⟩
def FX (t:Option T) (k:List Int->Prop):Prop:=∃ns:List Int,t=some (.lst (ns.map T.int))/\0<ns.length/\k ns
theorem t5 {H:Hp} {O:QF->Prop}:∀{ns:List Int} {vs:List V},cN K H O (ns.map T.int) vs->vs=ns.map V.int
 | [],_,h=>h
 | n::ns,_,⟨v,r,e,h1,h2⟩=>by
  subst e;have h1:v=V.int n:=h1;rw [h1,t5 h2];rfl
def GX (f:List Int->Int) (Fr:FA):FE:=λE Q=>Fr E λrs E1=>match rs with
 | [x]=>FX (vl E1 x) λns=>Q (.p (.int (f ns))) E1
 | _=>False
theorem Ju {n:Nat} {p:Pos} (eK:X.K=K) (hc:X.calm=true) (hg:Gl X "min") (hm:X.mg "min" = none) (ha:QA X (e::es) (eC K n Fr)) (hs:bV (e::es)=true:=by rfl):QE X (.Call (.Name "min" p) (e::es) [] pos) (aQ K (GX x9 Fr)):=by
 subst eK;refine (fS (Ly hc) hg hm boot_min ha (by decide) (by decide) hs).le λσ H Q hl h=>args (Fr:=Fr) h λB S E rs vs H2 Q' hS re rr hn q lk=>?_
 match rs,rr,q with
 | [x],⟨v,ws,e1,h1,h3⟩,q=>
  cases h3;subst e1;obtain ⟨ns,e3,h0,q⟩:=q;obtain ⟨a,vs,e4,sq,rs⟩:=re.vl h1 e3;rw [t5 rs] at sq;exact ⟨a,ns,by rw [e4],sq,h0,lk _ _ _ _ _ q .refl re rfl⟩
 | [],_,q=>exact q.elim
 | _::_::_,_,q=>exact q.elim
theorem Hj {n:Nat} {p:Pos} (eK:X.K=K) (hc:X.calm=true) (hg:Gl X "max") (hm:X.mg "max" = none) (ha:QA X (e::es) (eC K n Fr)) (hs:bV (e::es)=true:=by rfl):QE X (.Call (.Name "max" p) (e::es) [] pos) (aQ K (GX zE Fr)):=by
 subst eK;refine (fS (Mt hc) hg hm boot_max ha (by decide) (by decide) hs).le λσ H Q hl h=>args (Fr:=Fr) h λB S E rs vs H2 Q' hS re rr hn q lk=>?_
 match rs,rr,q with
 | [x],⟨v,ws,e1,h1,h3⟩,q=>
  cases h3;subst e1;obtain ⟨ns,e3,h0,q⟩:=q;obtain ⟨a,vs,e4,sq,rs⟩:=re.vl h1 e3;rw [t5 rs] at sq;exact ⟨a,ns,by rw [e4],sq,h0,lk _ _ _ _ _ q .refl re rfl⟩
 | [],_,q=>exact q.elim
 | _::_::_,_,q=>exact q.elim
end
end L2
namespace L2
open PySem PySem.Spec PyProof.Rows
section
variable {X:Cx} {K:W.Frag} {Fa:FE} {tg:Expr}
def BX (K:W.Frag) (tl:TE):TI:=λσ H R=>tl σ H λx H1=>∃a,x = .ref a/\((∃xs,j4 K H1 a xs)/\R (DR K a) H1\/(∃xs,rR K H1 a xs)/\R (DM K a) H1)
theorem J4 {l:Expr} {tl:TE} (hl:PE X l tl):PI X tg l (BX X.K tl):=by
 intro pins s σ H R I h;refine dM (hl pins s σ H _ I h) λv s1 ⟨x,H1,I1,r1,q1⟩=>?_;obtain ⟨a,e,q⟩:=q1;subst e;cases r1;rcases q with ⟨⟨xs,hq⟩,q⟩ | ⟨⟨xs,hq⟩,q⟩
 ·obtain ⟨TC,rv,p,hz⟩:=I1.list hq;refine wpAny_pyIter_list p.isList ?_;refine ⟨s1.heap.objs.size,[s1.heap.objs.size],_,_,H1,rfl,I1.kept (t':=s1.toks) λb o e=>IX _ e,wD a _,⟨_,JL _ rfl,rfl,rfl⟩,λb hb=>?_,q⟩;have e:b=s1.heap.objs.size:=by simpa using hb
  subst e;exact I1.fpOk (IW _) (I1.hok.fresh (IW _))
 ·obtain ⟨TC,rv,p,hz⟩:=I1.tuple hq;refine SG (show s1.heap.IsTuple a TC.toArray from p) ?_;refine ⟨s1.heap.objs.size,[s1.heap.objs.size],_,_,H1,rfl,I1.kept (t':=s1.toks) λb o e=>IX _ e,sI a _,⟨_,JL _ rfl,rfl,rfl⟩,λb hb=>?_,q⟩;have e:b=s1.heap.objs.size:=by simpa using hb
  subst e;exact I1.fpOk (IW _) (I1.hok.fresh (IW _))
def HV (Fa:FE):FI:=λE Q=>Fa E λr E1=>match vl E1 r with
 | some (.lst xs)=>oW E1 r=[]/\Q xs [] E1
 | some (.tup xs)=>oW E1 r=[]/\Q xs [] E1
 | _=>False
theorem Sq {l:Expr} (eK:X.K=K) (hl:QE X l (aQ K Fa)):QI X tg l (nE K (HV Fa)):=by
 subst eK;refine QI.le (t:=BX X.K (aQ X.K Fa)) ⟨J4 hl.h⟩ λσ H R hn ⟨B,S,E,Q',hS,re,hF,lk⟩=>⟨B,S,E,_,hS,re,hF,λr E1 v H1 S1 q g TL rr=>?_⟩;split at q
 ·rename_i xs e1;obtain ⟨a,vs,e2,sq,rs⟩:=TL.vl rr e1;exact ⟨a,e2,.inl ⟨⟨vs,sq⟩,lk _ _ _ _ _ _ _ q.2 g TL Gp (λj hj=>absurd hj (by simp)) λO h1 h2=>by rw [<-e2];exact m6 TL rr e1 O h1 λj hj=>absurd hj (by rw [q.1];simp)⟩⟩
 ·rename_i xs e1;obtain ⟨a,vs,e2,sq,rs⟩:=TL.vl rr e1;exact ⟨a,e2,.inr ⟨⟨vs,sq⟩,lk _ _ _ _ _ _ _ q.2 g TL Qx (λj hj=>absurd hj (by simp)) λO h1 h2=>by rw [<-e2];exact m6 TL rr e1 O h1 λj hj=>absurd hj (by rw [q.1];simp)⟩⟩
 ·exact q.elim
end
section
variable {X:Cx} {K:W.Frag} {Fa Fb:FE} {a b:Expr} {pos:Pos}
theorem O5 (ha:QE X a (aQ K Fa)) (hb:QE X b (aQ K Fb)) (hm:RA .In b=false:=by rfl):QT X (.Compare a [.In] [b] pos) (eU K (yS (EH Fa Fb))):=by
 refine x6 Md ha hb hm λσ H Q h=>two h λB S E x y v w H2 Q' hS re rx ry q lk=>?_;obtain ⟨i,j,e1,e2,q⟩:=q.ex;exact ⟨i,j,re.str rx e1,re.str ry e2,lk _ _ _ _ _ q .refl re rfl⟩
end
end L2
namespace L2
open PySem PySem.Spec PyProof.Rows
section
variable {X:Cx} {K:W.Frag} {pos:Pos} {o e:Expr} {Fo:FE} {Fr:FA}
def W5 (Fo:FE) (Fr:FA):FE:=λE Q=>Fo E λo E1=>o1 (ownOf E1 o) λ_=>Fr E1 λrs E2=>match o with
 | .s j=>o1 (rJ E2 rs) λz=>match z.1,z.2[j]? with
  | [t],some (some (.o k xs))=>xs.length<1000/\Q (.p .non) (z.2.set j (some (.o k (xs++[t]))))
  | _,_=>False
 | _=>False
theorem nK {n:Nat} {ap:Pos} (eK:X.K=K) (ho:QE X o (aQ K Fo)) (ha:QA X [e] (eC K n Fr)) (VD:RS o "append" X.env (RB o X.env)=RB o X.env:=by rfl) (VE:(ap.endLine==pos.line)=true:=by rfl) (hs:cS e=false:=by rfl) :
  QE X (.Call (.Attribute o "append" ap) [e] [] pos) (aQ K (W5 Fo Fr)):=by
 subst eK;refine (wK ho ha VD VE hs).le λσ H Q hl h=>?_;obtain ⟨B,S,E,Q',⟨τ,hS⟩,re,hF,lk⟩:=h;refine ⟨B,S,E,_,⟨τ,hS⟩,re,hF,λoo E1 v H1 S1 q g1 TL rx=>?_⟩;obtain ⟨τ1,VW⟩:=g1.pre;obtain ⟨fm,e0,q⟩:=o1.ex q;obtain ⟨j,k,p,vs,rfl,hE,uv,rfl,h2,h3⟩:=TL.ownOf rx e0;refine ⟨.inl ⟨rfl,vs,j4.of h2⟩,B,S1,E1,_,⟨τ++τ1,by rw [VW,hS,IZ]⟩,TL,q,λrs E2 us H2 S2 q2 g2 UY rr hn=>?_⟩;have YX:S2[j]? = some (some (.ref p)):=gF g2.pre uv;simp only at q2;obtain ⟨z,e3,q2⟩:=o1.ex q2;obtain ⟨UZ,ow,rp⟩:=nZ UY rr e3;obtain ⟨ts,E3⟩:=z;simp only at q2 UZ ow rp;split at q2
 ·rename_i t k2 xs ui;obtain ⟨hz,q2⟩:=q2;obtain ⟨p',uw,z1,z2,z3,_⟩:=UZ.own j k2 xs ui;rw [YX] at z1;cases z1;obtain ⟨y,ws,rfl,r1,r2⟩:=rp;cases r2;refine ⟨p,uw,y,rfl,rfl,z2,?_,?_⟩
  ·rw [z3.length];exact bY (by omega)
  ·have rp1:cN X.K H2 (Ow B S2 E3) [t] [y]:=⟨y,[],rfl,r1,rfl⟩;obtain ⟨g3,YU⟩:=UZ.put ui YX (z3.append rp1);exact lk _ _ _ _ _ q2 ((g1.trans g2).trans (Gr.trans ⟨Kp.less ow,[],by simp⟩ g3)) YU rfl
 ·exact q2.elim
end
end L2
namespace L2
open PySem PySem.Spec PyProof.Rows
end L2
namespace L2
open PySem PySem.Spec PyProof.Rows
theorem qU:∀(ts:List Str) (k:Nat) (acc:Str),(textFrom k acc ts).length<=acc.length+piled ts
 | [],k,acc=>IW _
 | t::ts,k,acc=>by
  have h:=qU ts (k+1) (acc++(if k>0 then ", " else "":String)++t);have l:((if k>0 then ", " else "":String):Str).length<=2:=by split<;>decide
  rw [NH,NH] at h;rw [piled_cons];show (textFrom (k+1) (acc++(if k>0 then ", " else "":String)++t) ts).length<=_;omega
mutual
theorem Kb:∀{t:T},kI t=true->(jO t).shown.length<=lenB t
 | .non,_=>by decide
 | .bl b,_=>by cases b<;>decide
 | .int i,h=>by
  have h':i.natAbs.log2<1920:=of_decide_eq_true h;exact int_text_len_1921 h'
 | .str x,_=>IW _
 | .lst xs,k=>by
  have q:=tO (xs:=xs) k;show (textFrom 0 "[" (PyData.shownAll (eN xs))++("]":Str)).length<=l8 xs+3;have e1:(("[":String):Str).length=1:=rfl;have e3:(("]":String):Str).length=1:=rfl;have:=qU (PyData.shownAll (eN xs)) 0 "[";rw [NH,e3];omega
 | .tup xs,k=>by
  have q:=tO (xs:=xs) k;show (tupleText (PyData.shownAll (eN xs))).length<=l8 xs+3;unfold tupleText;have e1:(("(":String):Str).length=1:=rfl;have e2:((",)":String):Str).length=2:=rfl;have e3:((")":String):Str).length=1:=rfl;have l2:(((if (PyData.shownAll (eN xs)).length==1 then ",)" else ")":String)):Str).length<=2:=by
   split
   ·rw [e2];exact IW _
   ·rw [e3];decide
  rw [NH,NH,e1]
  by_cases c:PyData.shownAll (eN xs)=[]
  ·rw [c];have:(Str.join ", " ([]:List Str)).length=0:=rfl;rw [c] at l2;omega
  ·have:=join_length_add _ c;omega
theorem tO:∀{xs:List T},uB xs=true->piled (PyData.shownAll (eN xs))<=l8 xs
 | [],_=>IW _
 | x::xs,k=>by
  have k':kI x=true/\uB xs=true:=by simpa [uB] using k
  have q1:=Kb k'.1;have q2:=tO k'.2;show piled ((jO x).shown::PyData.shownAll (eN xs))<=lenB x+2+l8 xs;rw [piled_cons];omega
end
section
variable {X:Cx} {pins:List (QF×Obj)} {σ:St} {H:Hp} {s:Shared} {O:QF->Prop}
mutual
theorem Mz (I:aY X pins σ H s):∀{t:T} {v:V} {u:Value},Rp X.K H O t v->bP v u->∃as,Reads s.heap u (jO t) as
 | .non,v,u,h,r=>by
  have h:v = .non:=h;subst h;cases r;exact ⟨_,.none⟩
 | .bl b,v,u,h,r=>by
  have h:v = .bl b:=h;subst h;cases r;exact ⟨_,.bool b⟩
 | .int i,v,u,h,r=>by
  have h:v = .int i:=h;subst h;obtain ⟨t,rfl⟩:=r;exact ⟨_,.int i t⟩
 | .str x,v,u,h,r=>by
  have h:v = .str x:=h;subst h;obtain ⟨t,rfl⟩:=r;exact ⟨_,.str x t⟩
 | .lst xs,v,u,h,r=>by
  obtain ⟨a,vs,rfl,sq,rs⟩:=h.sqL;cases r;obtain ⟨TC,rv,⟨o,n,ho,hc,hd,_⟩,hz⟩:=I.list sq;obtain ⟨as,ra⟩:=jI I (xs:=xs) rs rv;exact ⟨_,.list ho (by assumption) (by assumption) (by simpa using ra)⟩
 | .tup xs,v,u,h,r=>by
  obtain ⟨a,vs,rfl,sq,rs⟩:=h.sqT;cases r;obtain ⟨TC,rv,⟨o,ho,hc,n,hd⟩,hz⟩:=I.tuple sq;obtain ⟨as,ra⟩:=jI I (xs:=xs) rs rv;exact ⟨_,.tuple ho hc hd (by simpa using ra)⟩
theorem jI (I:aY X pins σ H s):∀{xs:List T} {vs:List V} {us:List Value},cN X.K H O xs vs->bG vs us->∃as,ReadsAll s.heap us (eN xs) as
 | [],vs,us,h,r=>by
  have h:vs=[]:=h;subst h;cases r;exact ⟨_,.nil⟩
 | x::xs,vs,us,h,r=>by
  obtain ⟨v,ws,rfl,h1,h2⟩:=h;cases r with
  | cons r1 r2=>
   obtain ⟨as,q1⟩:=Mz I h1 r1;obtain ⟨bs,q2⟩:=jI I h2 r2;exact ⟨_,.cons q1 q2⟩
end
end
theorem Nc {X:Cx} {pins:List (QF×Obj)} {σ:St} {H:Hp} {s:Shared} {O:QF->Prop} (I:aY X pins σ H s):∀{t:T} {v:V} {u:Value},Rt X.K H O t v->bP v u->∃as,Reads s.heap u (jO t) as
 | .non,v,u,h,r=>by
  have h:v = .non:=h;subst h;cases r;exact ⟨_,.none⟩
 | .bl b,v,u,h,r=>by
  have h:v = .bl b:=h;subst h;cases r;exact ⟨_,.bool b⟩
 | .int i,v,u,h,r=>by
  have h:v = .int i:=h;subst h;obtain ⟨t,rfl⟩:=r;exact ⟨_,.int i t⟩
 | .str x,v,u,h,r=>by
  have h:v = .str x:=h;subst h;obtain ⟨t,rfl⟩:=r;exact ⟨_,.str x t⟩
 | .lst xs,v,u,⟨a,vs,e,sq,rs⟩,r=>by
  subst e;cases r;obtain ⟨TC,rv,⟨o,n,ho,hc,hd,_⟩,hz⟩:=I.list sq;obtain ⟨as,ra⟩:=jI I (xs:=xs) rs rv;exact ⟨_,.list ho (by assumption) (by assumption) (by simpa using ra)⟩
 | .tup xs,v,u,⟨a,vs,e,sq,rs⟩,r=>by
  subst e;cases r;obtain ⟨TC,rv,⟨o,ho,hc,n,hd⟩,hz⟩:=I.tuple sq;obtain ⟨as,ra⟩:=jI I (xs:=xs) rs rv;exact ⟨_,.tuple ho hc hd (by simpa using ra)⟩
def O9:T->Str
 | .str z=>z
 | t=>(jO t).shown
section
variable {X:Cx} {K:W.Frag} {a b e:Expr} {es:List Expr} {pos:Pos} {Fr:FA} {Fa Fb:FE}
theorem Nr {k:Nat} (hr:fD k X.A):gQ X (.type "str") (λxs H Q=>∃(v:V) (t:T) (O:QF->Prop),xs=[v]/\Rt X.K H O t v/\kI t=true/\dT t<=40/\lenB t<=10000000/\Q (.str (O9 t)) H):=by
 intro pins s σ H xs us Q I r h;obtain ⟨v,t,O,rfl,rp,h2,h3,h4,q⟩:=h;obtain ⟨u,rfl,rx⟩:=oR r;have ref:∀a,u = .ref a->O9 t=(jO t).shown->QL (QV X.prog X.w) X.A (call (.type "str") [u]) (EP X pins σ Q) X.xe s:=λa ea es=>by
  obtain ⟨as,rd⟩:=Nc I rp rx;subst ea;refine str_of_reads rd (F4 h2) (λh=>by rw [Zw t] at h;cases h) hr.gd ?_ (λ_ _ e=>e) (λh' u tk hk=>⟨.str _,H,I.kept hk,⟨u,rfl⟩,by rw [<-es];exact q⟩) ?_
  ·have:=hr.un;have:=Ue t;omega
  ·have:=Kb h2;rw [SU];omega
 cases t with
 | str z=>
  have h:v = .str z:=rp;subst h;obtain ⟨t,rfl⟩:=rx;exact PySem.P.str_of_str ⟨.str z,H,I,⟨t,rfl⟩,q⟩
 | non=>
  have h:v = .non:=rp;subst h;cases rx;exact PySem.P.str_of_none ⟨.str _,H,I.kept (h':=s.heap) (λ_ _ e=>e),⟨_,rfl⟩,q⟩
 | bl b=>
  have h:v = .bl b:=rp;subst h;cases rx;exact PySem.P.str_of_bool ⟨.str _,H,I.kept (h':=s.heap) (λ_ _ e=>e),⟨_,rfl⟩,by cases b<;>exact q⟩
 | int i=>
  have h:v = .int i:=rp;subst h;obtain ⟨t,rfl⟩:=rx;exact PySem.P.str_of_int (of_decide_eq_true h2) ⟨.str _,H,I.kept (h':=s.heap) (λ_ _ e=>e),⟨_,rfl⟩,q⟩
 | tup ts=>
  obtain ⟨a,vs,rfl,sq,rs⟩:=rp;cases rx;exact ref a rfl rfl
 | lst ts=>
  obtain ⟨a,vs,rfl,sq,rs⟩:=rp;cases rx;exact ref a rfl rfl
def W8 (Fr:FA):FE:=λE Q=>Fr E λrs E1=>match rs with
 | [x]=>o1 (vl E1 x) λt=>kI t=true/\dT t<=40/\lenB t<=10000000/\∀z,z=O9 t->Q (.p (.str z)) E1
 | _=>False
theorem Gq {k n:Nat} {p:Pos} (eK:X.K=K) (hr:fD k X.A) (hg:Gl X "str") (hm:X.mg "str" = none) (ha:QA X (e::es) (eC K n Fr)) (hs:bV (e::es)=true:=by rfl):QE X (.Call (.Name "str" p) (e::es) [] pos) (aQ K (W8 Fr)):=by
 subst eK;refine (kQ (Nr hr) hg hm (by decide +kernel) ha (by decide) (by decide) hs).le λσ H Q hl h=>args (Fr:=Fr) h λB S E rs vs H2 Q' hS re rr hn q lk=>?_
 match rs,rr,q with
 | [x],⟨v,ws,e1,h1,h2⟩,q=>
  cases h2;subst e1;obtain ⟨t,e2,q2,q3,q4,q⟩:=o1.ex q;exact ⟨_,t,_,rfl,re.vl h1 e2,q2,q3,q4,lk _ _ _ _ _ (q _ rfl) .refl re rfl⟩
 | [],_,q=>exact q.elim
 | _::_::_,_,q=>exact q.elim
end
end L2
namespace L2
open PySem PySem.Spec PyProof.Rows
theorem g8 {N P:List Str} {sc:RF} (a:sc.kind = .function:=by rfl) (b:sc.isCoroutine=false:=by rfl) (c:sc.isGenerator=false:=by rfl) (d:N.Nodup:=by decide +kernel) (e:N.take P.length=P:=by rfl) (f:∀x∈P,sc.names.lookup x=some .local\/sc.names.lookup x=some .cell:=by decide +kernel) (g:∀y∈sc.names,y.2≠.free:=by decide +kernel):aO N P sc:=⟨a,b,c,d,e,f,g⟩
end L2
namespace L2
open PySem PySem.Spec PyProof.Rows
section
variable {X:Cx} {K:W.Frag} {a b c:Expr} {pos:Pos} {Fr:FA}
def U5 (i j k:Nat) (Fr:FA):FS:=λD E=>Fr E λrs E'=>match rs with
 | [.s m,.p t,.s n]=>E.length<=m/\m<n/\(match E'[m]? with
  | some (some (.o false xs))=>(match E'[n]? with
   | some (some (.o false ys))=>D.nx ((((E'.take E.length).set k (some (.o false ys))).set i (some (.o false xs))).set j (some (.p t)))
   | _=>False)
  | _=>False)
 | _=>False
theorem Sv {n i j k:Nat} {x y z:Str} {px py pz pt:Pos} {kt k2 pt2} (hc:X.calm=true) (hN:X.N.Nodup) (hi:X.N[i]? = some x) (hj:X.N[j]? = some y) (hk:X.N[k]? = some z) (YD:i≠j) (bw:i≠k) (bz:j≠k)
  (hx:X.env.scope.names.lookup x=some .local) (hy:X.env.scope.names.lookup y=some .local) (hz:X.env.scope.names.lookup z=some .local) (ha:QA X [a,b,c] (eC K n Fr))
  (hw:RJ [.Tuple [.Name x px,.Name y py,.Name z pz] kt pt] (.Tuple [a,b,c] k2 pt2) X.env=pure (some [x,y,z]))
  (hs:RI [.Tuple [.Name x px,.Name y py,.Name z pz] kt pt] (.Tuple [a,b,c] k2 pt2) pos.line X.env=pure false:=by rfl) :
  QS X (.Assign [.Tuple [.Name x px,.Name y py,.Name z pz] kt pt] (.Tuple [a,b,c] k2 pt2) pos) (hJ K (U5 i j k Fr)):=by
 refine (Ht hc hN hi hj hk YD bw bz hx hy hz ha hw hs).le λD σ H hl h0=>?_;obtain ⟨B,E,DT,re,hF,l⟩:=h0;refine ⟨B,σ,E,_,⟨[],by simp⟩,re,hF,λrs E' vs H' S' q g TJ rr hn=>?_⟩;split at q
 ·rename_i m t n;obtain ⟨v1,ws1,e1,h1,v2,ws2,e2,h2,v3,ws3,e3,h3,h4⟩:=rr;cases h4;subst e3;subst e2;subst e1;obtain ⟨q1,q2,q⟩:=q;split at q
  ·rename_i xs hm;split at q
   ·rename_i ys ZK;rw [<-re.len] at q q1;have vo:k<σ.length:=by rw [hl];exact (IT.mp hk).1
    obtain ⟨r2,ow⟩:=TJ.setO2 (σ:=σ) (i:=i) (j:=k) g.pre vo q1 q2 hm ZK h1 h3;obtain ⟨r3,ig⟩:=r2.setP (i:=j) (Rp.step (Kp.less ow) h2);refine ⟨v1,v2,v3,rfl,?_⟩;have e:((σ.set i (some v1)).set j (some v2)).set k (some v3)=((σ.set k (some v3)).set i (some v1)).set j (some v2):=by
     rw [MZ (some v2) (some v3) bz,MZ (some v1) (some v3) bw]
    rw [e];exact l.nx _ _ _ q (g.kp.trans (Kp.less λb z=>ow b (ig b z))) r3
   ·exact q.elim
  ·exact q.elim
 ·exact q.elim
end
end L2
namespace My
open PySem L2 PyProof.Rows
def top (i:Nat):QU:=PySem.Challenge.pw_sidecut_k30_moved_and_turned.main.body.getD i (.Pass ⟨0,0,0,0⟩)
section
variable {P:QJ} {w:QM} {K:W.Frag} {mg:Str->Option Value} {base:Heap}
structure Bx (xs:List T) (n:Int):Prop where
 ex:∃A B c:Int,xs=[.int A,.int B,.int c]/\0<=A/\0<=B/\B<2147483647/\0<=c/\c<=n
theorem Bx.mono {xs:List T} {n m:Int} (b:Bx xs n) (h:n<=m):Bx xs m:=let ⟨A,B,c,h1,h2,h3,h4,h5,h6⟩:=b;⟨A,B,c,h1,h2,h3,h4,h5,by omega⟩
def Zf:iN:=λas Q=>∃(xs:List T) (m n:Int),as=[.b xs,.v (.int m)]/\Bx xs n/\n<=1000000/\1<=m/\m<2^200/\∀r ys,0<=r->r<m->Bx ys (n+1)->Q (.v (.int r)) ys
abbrev oO (P w K mg base):=Fn P w K mg base 1 "_law_take" ["_law_box_here","_law_many"] (aX K Zf)
abbrev Gm:QU:=top 46
theorem zM:aO ["_law_box_here","_law_many","_law_once","_law_found"] ["_law_box_here","_law_many"] (aF Gm):=g8
theorem Wx {f:QF} {fd:QK} (F:eT K "_law_take" "_law_take" Gm f fd) (TX:Txt mg)    : bJ P w K mg base fF 1 f fd ["_law_box_here","_law_many"] (aX K Zf):=by
 refine F.okT zM ?len (λTQ A outer s H E hr=>(aE (e9 (fH Cb (aH rfl (fv 0) aB (λ_ _=>rfl)) aB (bE _)) (aE (jR (Lp rfl TX.n_divmod (fc (aH rfl (fv 0) aB (λ_ _=>rfl)) (fc (fv 1) aA))) (cE (n:=2) rfl rfl (aJ (Dt (fv 0) aB) (aJ (aI (i:=3) zM.nd rfl (IV rfl)) bS))))
 (aK (aR (fv 3)))) dH)
 (aE (jR (bA b9 (aH rfl (fv 0) aB (λ_ _=>rfl)) aB) (Dt (fv 0) aB))
 (aE (bD (i:=2) zM.nd rfl (IV rfl) (aN jE (aN Ro (bA b9 (aH rfl (fv 0) aB (λ_ _=>rfl)) (aN aS aB (aH rfl (fv 0) aB (λ_ _=>rfl)))) aB) aB))
 (aK (aR (aN jE (aN cZ (aN jE (bA b9 (aN aS (fv 2) aB) (aN aS (aN aS (aH rfl (fv 0) aB (λ_ _=>rfl)) (aH rfl (fv 0) aB (λ_ _=>rfl))) aB)) aB) aB) (fv 1)))))))) ?rd
 case len=>rintro as Q ⟨xs,m,n,rfl,_⟩;rfl
 case rd=>
  rintro as Q ⟨xs,m,n,rfl,⟨A,B,c,rfl,hA,hB,zw,hc,hcn⟩,hn,h1,h2,k⟩;show if decide (0<A)=true then _ else _
  by_cases zy:0<A
  ·rw [decide_eq_true zy,if_pos rfl];refine ⟨⟨by omega,h2⟩,⟨rfl,k _ _ (PM _ (by omega)) (OP _ (by omega)) ⟨_,_,_,rfl,Int.ediv_nonneg hA (by omega),hB,zw,hc,by omega⟩⟩⟩
  ·rw [decide_eq_false zy,if_neg (by decide)];have p5:M6 (B+39373*(c+1)) 5:=⟨by decide,by decide,by omega⟩;have d64:oF (((B+39373*(c+1))^(5:Int).toNat%2147483647*48271+(c+1)*(c+1)*7919)%2147483629) 64:=⟨by decide,JH (show (64:Int).natAbs<2^7 by decide) (LJ (by decide) (by decide))⟩;refine ⟨uZ (by decide),p5,(by show (0:Int)<2147483647;decide),?_⟩;refine ⟨vC (by decide),uZ (by omega),vC (by decide),?_⟩;refine ⟨(by show (0:Int)<2147483629;decide),d64,(by show (0:Int)<m;omega),⟨rfl,?_⟩⟩;exact k _ _ (PM _ (by omega)) (OP _ (by omega)) ⟨_,_,_,rfl,hA,hB,zw,by omega,by omega⟩
def bI (ns:List Int):List T:=ns.map T.int
theorem Se {ns:List Int} {k:Int} (h0:0<=k) (h1:k<(ns.length:Int)):∃z,lE (bI ns) k=some (.int z):=by
 have hk:k.toNat<ns.length:=by omega
 refine ⟨ns[k.toNat],?_⟩;have e3:k=((k.toNat:Nat):Int):=by omega
 have z:=xG (xs:=bI ns) (j:=k.toNat) (v:=T.int ns[k.toNat]) (by rw [bI,JC,IQ hk];rfl);rw [<-e3] at z;exact z
def Qq:iN:=λas Q=>∃(ns:List Int) (k:Int),as=[.v (.lst (bI ns)),.v (.int k)]/\0<=k/\k<=1000/\∀xs,Bx xs 0->d9 xs=true->Q (.l xs) []
def Ys:iN:=λas Q=>∃(n d:Int),as=[.v (.int n),.v (.int d)]/\d≠0/\d.natAbs<2^8000/\Q (.v (fr (low n d))) []
theorem oJ {i:Int} {n d:Int} (hd:d≠0) (hb:d.natAbs<2^8000):oF i ((KC n.natAbs d.natAbs:Nat):Int):=by
 have h1:0<KC n.natAbs d.natAbs:=MV _ (by omega);have h2:KC n.natAbs d.natAbs<=d.natAbs:=Nat.gcd_le_right _ (by omega);exact ⟨by omega,JO (by omega) hb⟩
theorem oS (i:Int) (n:Nat):i.fdiv (n:Int)=i/(n:Int):=MN _ (by omega)
def Iu:iN:=λas Q=>∃(n d:Int),as=[.v (.int n),.v (.int d)]/\Q (.v (.int ((KC n.natAbs d.natAbs:Nat):Int))) []
abbrev eF (P w K mg base):=Fn P w K mg base 1 "common_divisor" ["one","other"] (aX K Iu)
abbrev gU:QU:=top 1
theorem gK:aO ["one","other"] ["one","other"] (aF gU):=g8
theorem o7 {f:QF} {fd:QK} (F:eT K "common_divisor" "common_divisor" gU f fd) (TX:Txt mg)    : bJ P w K mg base fF 1 f fd ["one","other"] (aX K Iu):=by
 refine F.okT gK ?len (λTQ A outer s H E hr=>(aE (jY (i:=0) (j:=1) rfl gK.nd rfl rfl (by decide) rfl rfl (fc (pQ rfl TX.n_abs (fc (fv 0) aA)) (fc (pQ rfl TX.n_abs (fc (fv 1) aA)) aA)) rfl)
 (aE (sO PassesOwn.never (rB rfl hr (fv 1) aB (bE _)) (aK (jY (i:=0) (j:=1) rfl gK.nd rfl rfl (by decide) rfl rfl (fc (fv 1) (fc (aN jE (fv 0) (fv 1)) aA)) rfl)))
 (aK (aR (fv 0)))))) ?rd
 case len=>rintro as Q ⟨n,d,rfl,_⟩;rfl
 case rd=>
  rintro as Q ⟨n,d,rfl,q⟩;refine ⟨λm E=>∃x y:Nat,E=[some (.p (.int x)),some (.p (.int y))]/\m=y/\KC x y=KC n.natAbs d.natAbs,⟨_,_,_,rfl,rfl,rfl⟩,?_⟩;rintro m E ⟨x,y,rfl,rfl,hg⟩;refine ⟨LM _,?_⟩;show if (!((m:Int)==0))=true then _ else _
  by_cases hy:m=0
  ·subst hy;rw [if_neg (by decide)];rw [Nat.gcd_zero_right] at hg;subst hg;exact ⟨rfl,q⟩
  ·rw [if_pos (by simpa using hy)];exact ⟨(by show (0:Int)<(m:Int);omega),x%m,OF _ (by omega),m,x%m,rfl,rfl,by rw [Bt];exact hg⟩
abbrev fR (P w K mg base):=Fn P w K mg base 2 "fraction" ["n","d"] (aX K Ys)
abbrev nN:QU:=top 2
theorem mF:aO ["n","d","divisor"] ["n","d"] (aF nN):=g8
theorem Ae {f:QF} {fd:QK} (F:eT K "fraction" "fraction" nN f fd) (TX:Txt mg) (TF:eF P w K mg base)   : bJ P w K mg base fF 2 f fd ["n","d"] (aX K Ys):=by
 refine F.okT mF ?len (λTQ A outer s H E hr=>(aE (Nq (rB rfl hr (fv 1) aB (bE _)))
 (aE (bD (i:=2) mF.nd rfl (IV rfl) (aC TF hr (by omega) rfl (fc (fv 0) (fc (fv 1) aA))))
 (aE (e9 (fH iF (fv 1) aB (bE _)) (aK (bD (i:=2) mF.nd rfl (IV rfl) (sJ (fv 2)))) dH)
 (aK (aR (aL (fc (aN cZ (fv 0) (fv 2)) (fc (aN cZ (fv 1) (fv 2)) aA))))))))) ?rd
 case len=>rintro as Q ⟨n,d,rfl,_⟩;rfl
 case rd=>
  rintro as Q ⟨n,d,rfl,hd,hb,q⟩;have qt:(!(d==0))=true:=by simpa using hd
  refine ⟨LM _,qt,n,d,rfl,?_⟩;have dn:((KC n.natAbs d.natAbs:Nat):Int)∣n:=KI.mpr (LV _ _);have dd:((KC n.natAbs d.natAbs:Nat):Int)∣d:=KI.mpr (LY _ _);have g0:((KC n.natAbs d.natAbs:Nat):Int)≠0:=(oJ (i:=0) (n:=n) hd hb).1;have jJ:∀{g m:Int},g≠0->g∣m->m.fdiv (-g)=(-m)/g:=λ{g m} h0 hm=>by
   obtain ⟨k,rfl⟩:=hm;have e1:g*k=(-g)*(-k):=by grind
   have e2:-(g*k)=g*(-k):=by grind
   rw [e2,LL _ h0,e1,OZ _ (by omega)]
  show if decide (d<0)=true then _ else _
  by_cases h:d<0
  ·rw [decide_eq_true h,if_pos rfl];have cz:∀i:Int,oF i (-((KC n.natAbs d.natAbs:Nat):Int)):=λi=>⟨by omega,by rw [MJ];exact (oJ (i:=i) (n:=n) hd hb).2⟩;refine ⟨cz _,cz _,rfl,?_⟩;unfold low rG lY at q;rw [if_neg (by omega),if_neg (by omega),<-jJ g0 dn,<-jJ g0 dd] at q;exact q
  ·rw [decide_eq_false h,if_neg (by decide)];refine ⟨oJ hd hb,oJ hd hb,rfl,?_⟩;unfold low rG lY at q;rw [if_pos (by omega),if_pos (by omega),<-oS,<-oS] at q;exact q
end
end My
namespace My
open PySem L2 PyProof.Rows
section
variable {P:QJ} {w:QM} {K:W.Frag} {mg:Str->Option Value} {base:Heap}
theorem pl {x e f:Nat} (h:x<2^e) (k:e<=f):x<2^f:=JH h (LJ (by decide) k)
def rK (op:Fr->Fr->Fr):iN:=λas Q=>∃x y:Fr,as=[.v (fr x),.v (fr y)]/\dY x/\dY y/\sz x+sz y<=7900/\Q (.v (fr (op x y))) []
abbrev tG (P w K mg base):=Fn P w K mg base 3 "added" ["one","other"] (aX K (rK hV))
abbrev xE:QU:=top 3
theorem Qw:aO ["one","other"] ["one","other"] (aF xE):=g8
theorem Sx {f:QF} {fd:QK} (F:eT K "added" "added" xE f fd) (TX:Txt mg) (TH:fR P w K mg base)   : bJ P w K mg base fF 3 f fd ["one","other"] (aX K (rK hV)):=by
 refine F.okT Qw ?len (λTQ A outer s H E hr=>(aK (aR (aC TH hr (by omega) rfl (fc (bA b9 (aN aS (aH rfl (fv 0) aB (λ_ _=>rfl)) (aH rfl (fv 1) aB (λ_ _=>rfl))) (aN aS (aH rfl (fv 1) aB (λ_ _=>rfl)) (aH rfl (fv 0) aB (λ_ _=>rfl)))) (fc (aN aS (aH rfl (fv 0) aB (λ_ _=>rfl)) (aH rfl (fv 1) aB (λ_ _=>rfl))) aA)))))) ?rd
 case len=>rintro as Q ⟨x,y,rfl,_⟩;rfl
 case rd=>
  rintro as Q ⟨x,y,rfl,hx,hy,hs,q⟩;have hd:(x.2*y.2).natAbs<2^8000:=oU (bN (cG x) (cG y)) (by omega);exact ⟨eZ (e:=7900) (pl (gJ x) (by omega)) (pl (cG y) (by omega)) (by decide),eZ (e:=7900) (pl (gJ y) (by omega)) (pl (cG x) (by omega)) (by decide),eZ (e:=7900) (pl (cG x) (by omega)) (pl (cG y) (by omega)) (by decide),_,_,rfl,gP hx hy,hd,rfl,q⟩
abbrev pA (P w K mg base):=Fn P w K mg base 3 "taken" ["one","other"] (aX K (rK iQ))
abbrev xC:QU:=top 4
theorem Og:aO ["one","other"] ["one","other"] (aF xC):=g8
theorem Oe {f:QF} {fd:QK} (F:eT K "taken" "taken" xC f fd) (TX:Txt mg) (TH:fR P w K mg base)   : bJ P w K mg base fF 3 f fd ["one","other"] (aX K (rK iQ)):=by
 refine F.okT Og ?len (λTQ A outer s H E hr=>(aK (aR (aC TH hr (by omega) rfl (fc (bA iJ (aN aS (aH rfl (fv 0) aB (λ_ _=>rfl)) (aH rfl (fv 1) aB (λ_ _=>rfl))) (aN aS (aH rfl (fv 1) aB (λ_ _=>rfl)) (aH rfl (fv 0) aB (λ_ _=>rfl)))) (fc (aN aS (aH rfl (fv 0) aB (λ_ _=>rfl)) (aH rfl (fv 1) aB (λ_ _=>rfl))) aA)))))) ?rd
 case len=>rintro as Q ⟨x,y,rfl,_⟩;rfl
 case rd=>
  rintro as Q ⟨x,y,rfl,hx,hy,hs,q⟩;have hd:(x.2*y.2).natAbs<2^8000:=oU (bN (cG x) (cG y)) (by omega);exact ⟨eZ (e:=7900) (pl (gJ x) (by omega)) (pl (cG y) (by omega)) (by decide),eZ (e:=7900) (pl (gJ y) (by omega)) (pl (cG x) (by omega)) (by decide),eZ (e:=7900) (pl (cG x) (by omega)) (pl (cG y) (by omega)) (by decide),_,_,rfl,gP hx hy,hd,rfl,q⟩
abbrev pC (P w K mg base):=Fn P w K mg base 3 "times" ["one","other"] (aX K (rK eO))
abbrev zC:QU:=top 5
theorem Oy:aO ["one","other"] ["one","other"] (aF zC):=g8
theorem Qf {f:QF} {fd:QK} (F:eT K "times" "times" zC f fd) (TX:Txt mg) (TH:fR P w K mg base)   : bJ P w K mg base fF 3 f fd ["one","other"] (aX K (rK eO)):=by
 refine F.okT Oy ?len (λTQ A outer s H E hr=>(aK (aR (aC TH hr (by omega) rfl (fc (aN aS (aH rfl (fv 0) aB (λ_ _=>rfl)) (aH rfl (fv 1) aB (λ_ _=>rfl))) (fc (aN aS (aH rfl (fv 0) aB (λ_ _=>rfl)) (aH rfl (fv 1) aB (λ_ _=>rfl))) aA)))))) ?rd
 case len=>rintro as Q ⟨x,y,rfl,_⟩;rfl
 case rd=>
  rintro as Q ⟨x,y,rfl,hx,hy,hs,q⟩;have hd:(x.2*y.2).natAbs<2^8000:=oU (bN (cG x) (cG y)) (by omega);exact ⟨eZ (e:=7900) (pl (gJ x) (by omega)) (pl (gJ y) (by omega)) (by decide),eZ (e:=7900) (pl (cG x) (by omega)) (pl (cG y) (by omega)) (by decide),_,_,rfl,gP hx hy,hd,rfl,q⟩
def yH (x y x' y':Fr):Fr:=iQ (eO x y') (eO y x')
structure Nv (a b:Fr) (e:Nat):Prop where
 x:dY a
 y:dY b
 sx:sz a<=e
 sy:sz b<=e
def GZ (op:Fr->Fr->Fr->Fr->Fr):iN:=λas Q=>∃(x y x' y':Fr) (e f:Nat),as=[.v (vc x y),.v (vc x' y')]/\Nv x y e/\Nv x' y' f/\e+f<=3900/\Q (.v (fr (op x y x' y'))) []
def Zi:iN:=λas Q=>∃x y:Fr,as=[.v (vc x y)]/\Q (.v (vc (jJ y) x)) []
theorem iC {a b:Nat} (h:Nat.ble a b=true):a<=b:=Nat.le_of_ble_eq_true h
theorem Nv.up {x y:Fr} {e f:Nat} (h:Nv x y e) (k:e<=f):Nv x y f:=⟨h.x,h.y,KS h.sx k,KS h.sy k⟩
theorem mK (n:Int):val (n,1)=(n:Rat):=by
 show (n:Rat)/((1:Int):Rat)=n
 push_cast
 grind
theorem jQ:val (1,1)=1:=by rw [mK];rfl
theorem iD:val (0,1)=0:=by rw [mK];rfl
def C6:iN:=λas Q=>∃x y:Fr,as=[.v (fr x),.v (fr y)]/\dY x/\dY y/\y.1≠0/\sz x+sz y<=7900/\Q (.v (fr (tM x y))) []
abbrev Ih (P w K mg base):=Fn P w K mg base 3 "over" ["one","other"] (aX K C6)
abbrev Ea:QU:=top 6
theorem Vw:aO ["one","other"] ["one","other"] (aF Ea):=g8
theorem Yu {f:QF} {fd:QK} (F:eT K "over" "over" Ea f fd) (TX:Txt mg) (TH:fR P w K mg base)   : bJ P w K mg base fF 3 f fd ["one","other"] (aX K C6):=by
 refine F.okT Vw ?len (λTQ A outer s H E hr=>(aK (aR (aC TH hr (by omega) rfl (fc (aN aS (aH rfl (fv 0) aB (λ_ _=>rfl)) (aH rfl (fv 1) aB (λ_ _=>rfl))) (fc (aN aS (aH rfl (fv 0) aB (λ_ _=>rfl)) (aH rfl (fv 1) aB (λ_ _=>rfl))) aA)))))) ?rd
 case len=>rintro as Q ⟨x,y,rfl,_⟩;rfl
 case rd=>
  rintro as Q ⟨x,y,rfl,hx,hy,h0,hs,q⟩;have hd:(x.2*y.1).natAbs<2^8000:=oU (bN (cG x) (gJ y)) (by omega);exact ⟨eZ (e:=7900) (pl (gJ x) (by omega)) (pl (cG y) (by omega)) (by decide),eZ (e:=7900) (pl (cG x) (by omega)) (pl (gJ y) (by omega)) (by decide),_,_,rfl,ND hx.ne h0,hd,rfl,q⟩
theorem Qk {p:Fr} (h:dY p):val p*(p.2:Rat)=(p.1:Rat):=by have:=h.neR;unfold val;grind
theorem BH {p:Fr} (h:dY p):(0:Rat)<(p.2:Rat):=by have:=h.d;exact_mod_cast (show (0:Int)<p.2 by omega)
theorem Ef {p:Fr} (h:dY p):0<=val p↔0<=p.1:=by
 have e:=Qk h;have d:=BH h;constructor
 ·intro k;have:=Rat.mul_nonneg k (Rat.le_of_lt d);rw [e] at this
  exact_mod_cast this
 ·intro k;have k':(0:Rat)<=(p.1:Rat):=by exact_mod_cast k
  rcases Rat.le_total (a:=0) (b:=val p) with c | c
  ·exact c
  ·by_cases z:val p=0
   ·grind
   ·have:=Rat.mul_pos (a:=-val p) (b:=p.2) (by grind) d;grind
theorem T4 {p:Fr} (h:dY p):val p<=0↔p.1<=0:=by
 have:=Ef (xY h);rw [Jc h] at this;have e:(jJ p).1 = -p.1:=rfl;rw [e] at this;constructor
 ·intro k;have:=this.1 (by grind);omega
 ·intro k;have:=this.2 (by omega);grind
theorem Rv {p:Fr} (h:dY p):0<val p↔0<p.1:=by
 have:=T4 h;constructor
 ·intro k;exact Int.not_le.mp λc=>by have:=this.2 c;grind
 ·intro k;exact Rat.not_le.mp λc=>by have:=this.1 c;omega
theorem nR {lo:Int} {n i:Nat} {t:L2.T} (h:(mI lo n)[i]? = some t):i<n/\t = .int (lo+(i:Int)):=by
 unfold mI at h;rw [JC] at h;rcases LZ i n with c | c
 ·rw [OJ c] at h;cases h;exact ⟨c,rfl⟩
 ·rw [MF (by simpa using c)] at h;cases h
theorem bH {z k:Rat} (hk:0<k) (h:0<z*k):0<z:=by
 rcases Rat.le_total (a:=z) (b:=0) with c | c
 ·have:=Rat.mul_nonneg (a:=-z) (b:=k) (by grind) (Rat.le_of_lt hk);grind
 ·by_cases e:z=0
  ·rw [e] at h;grind
  ·grind
theorem dC {z k:Rat} (hk:0<k) (h:0<=z*k):0<=z:=by
 rcases Rat.le_total (a:=z) (b:=0) with c | c
 ·by_cases e:z=0
  ·grind
  ·have:=Rat.mul_pos (a:=-z) (b:=k) (by grind) hk;grind
 ·exact c
end
end My
namespace My
open PySem L2 PyProof.Rows
section
variable {P:QJ} {w:QM} {K:W.Frag} {mg:Str->Option Value} {base:Heap}
abbrev Ox (P w K mg base):=Fn P w K mg base 1 "_law_box" ["_law_script","_law_k"] (aX K Qq)
abbrev Qb:QU:=top 45
theorem Eo:aO ["_law_script","_law_k","_law_cell"] ["_law_script","_law_k"] (aF Qb):=g8
theorem G8 {f:QF} {fd:QK} (F:eT K "_law_box" "_law_box" Qb f fd) (TX:Txt mg)    : bJ P w K mg base fF 1 f fd ["_law_script","_law_k"] (aX K Qq):=by
 refine F.okT Eo ?len (λTQ A outer s H E hr=>(aE (bD (i:=2) Eo.nd rfl (IV rfl) aB)
 (aE (e9 (fH iF (fv 1) (kO rfl rfl TX.n_len (fc (fv 0) aA)) (bE _)) (aK (bD (i:=2) Eo.nd rfl (IV rfl) (aH rfl (fv 0) (fv 1) (λ_ _=>rfl)))) dH)
 (aK (aR (d8 (fc (aN aS (pQ rfl TX.n_abs (fc (fv 2) aA)) (Vm rfl TX.n_int (fc (wV Oi (pQ rfl TX.n_abs (fc (fv 2) aA)) (aN Ro aB aB) (bE _)) aA))) (fc (aN jE (bA b9 (fv 2) (aN aS (aN aS aB (fv 1)) (fv 1))) aB) (fc aB aA))))))))) ?rd
 case len=>rintro as Q ⟨ns,k,rfl,_⟩;rfl
 case rd=>
  rintro as Q ⟨ns,k,rfl,h0,h1,q⟩;have p10:M6 10 18:=⟨by decide,by decide,by decide⟩;have bx:∀z:Int,Bx [.int ((z.natAbs:Int)*(if decide ((10:Int)^(18:Int).toNat<=(z.natAbs:Int))=true then 1 else 0)),.int ((z+7919*k*k)%2147483647),.int 0] 0:=λz=>
   ⟨_,_,_,rfl,Int.mul_nonneg (by omega) (by split<;>decide),PM _ (by decide),OP _ (by decide),by decide,by decide⟩
  have k2:(7919*k).natAbs<2^60:=by omega
  have one:∀z:Int,(if decide ((10:Int)^(18:Int).toNat<=(z.natAbs:Int))=true then (1:Int) else 0).natAbs<2^60:=λz=>by split<;>decide
  have pm:(λ(_ j:Int)=>0<j) 0 2147483647:=by show (0:Int)<2147483647;decide
  show if decide (k<((bI ns).length:Int))=true then _ else _
  by_cases hk:k<((bI ns).length:Int)
  ·rw [decide_eq_true hk,if_pos rfl];obtain ⟨z,hz⟩:=Se (ns:=ns) h0 (by simpa [bI] using hk);show o1 (lE (bI ns) k) _;rw [hz];exact ⟨p10,vC (one z),uZ (by decide),uZ k2,pm,⟨rfl,q _ (bx z) rfl⟩⟩
  ·rw [decide_eq_false hk,if_neg (by decide)];exact ⟨p10,vC (one 0),uZ (by decide),uZ k2,pm,⟨rfl,q _ (bx 0) rfl⟩⟩
theorem Wb (ns:List Int) (m:Nat):i6 (bI ns) none (some (m:Int))=bI (ns.take m):=by
 unfold i6 bI;rw [HT.sIx_none,HT.sIx_nat,PZ,Nat.sub_zero,OS];rcases Nat.le_total m (ns.map T.int).length with h | h
 ·rw [NO h]
 ·rw [Nat.min_eq_right h,MK (IW _),MK h]
theorem Tu {xs:List T} {lo hi:Option Int} {y:T} (h:y∈i6 xs lo hi):y∈xs:=List.mem_of_mem_drop (LH h)
theorem Qe (xs:List T) (m k:Nat):(i6 xs (some (m:Int)) (some (k:Int))).length<=xs.length-m:=by
 unfold i6;rw [HT.sIx_nat,HT.sIx_nat,KP,MS];omega
theorem Xx {xs:List T} {i:Nat} {x:T} (h:(xs.zipIdx.map λq=>T.tup [.int (q.2:Int),q.1])[i]? = some x):∃y,xs[i]? = some y/\x = .tup [.int (i:Int),y]:=by
 rw [JC] at h;cases q:xs.zipIdx[i]? with
 | none=>rw [q] at h;cases h
 | some z=>
  rw [q] at h;cases h;obtain ⟨q1,q2⟩:=IT.mp q;rw [List.getElem_zipIdx] at q2;subst q2;exact ⟨_,IQ (by simpa using q1),by simp⟩
end
end My
namespace My
open PySem L2 PyProof.Rows
section
variable {P:QJ} {w:QM} {K:W.Frag} {mg:Str->Option Value} {base:Heap}
theorem Au:∀ns:List Int,d9 (bI ns)=true
 | []=>rfl
 | _::ns=>by simp [bI,d9,noL];exact Au ns
def Kz:iN:=λas Q=>∃(ns:List Int) (m:Nat),as=[.v (.lst (bI ns)),.v (.int (m:Int))]/\ns.length<=63/\2<=m/\m<=63/\∀cs:List Int,cs.length<=m->Q (.l (bI cs)) []
abbrev vG (P w K mg base):=Fn P w K mg base 1 "_law_folded" ["_law_script","_law_many"] (aX K Kz)
abbrev tT:QU:=top 47
theorem mP:aO ["_law_script","_law_many","_law_cells","_law_k","_law_cell"] ["_law_script","_law_many"] (aF tT):=g8
theorem Ng {f:QF} {fd:QK} (F:eT K "_law_folded" "_law_folded" tT f fd) (TX:Txt mg)    : bJ P w K mg base fF 1 f fd ["_law_script","_law_many"] (aX K Kz):=by
 refine F.okT mP ?len (λTQ A outer s H E hr=>(aE (bD (i:=2) mP.nd rfl (IV rfl) (Mc rfl rfl TX.n_list (fc (kG rfl (fv 0) iU (e7 (fv 1))) aA)))
 (aE (gY PassesOwn.never rfl (zA rfl rfl TX.n_enumerate (fc (kG rfl (fv 0) (e7 (fv 1)) (e7 aB)) aA)) (cE (n:=2) rfl rfl (aJ (aI (i:=3) mP.nd rfl (IV rfl)) (aJ (aI (i:=4) mP.nd rfl (IV rfl)) bS)))
  (aK (jR (bA b9 (aH rfl (fv 2) (aN jE (fv 3) (fv 1)) (λ_ _=>rfl)) (aN aS (fv 4) (bA b9 (fv 3) aB))) (Dt (fv 2) (aN jE (fv 3) (fv 1))))))
 (aK (aR (fv 2)))))) ?rd
 case len=>rintro as Q ⟨ns,m,rfl,_⟩;rfl
 case rd=>
  rintro as Q ⟨ns,m,rfl,hl,hm2,hm,q⟩;refine iZ (λi E=>∃(cs:List Int) (v3 v4:Option U),E=[some (.p (.lst (bI ns))),some (.p (.int (m:Int))),some (.o false (bI cs)),v3,v4]/\cs.length=(ns.take m).length)
   ⟨ns.take m,none,none,by rw [<-Wb],rfl⟩ ?_ ?_
  ·rintro i x rest E hi ⟨cs,v3,v4,rfl,hc⟩ K;obtain ⟨y,hy,rfl⟩:=Xx hi;obtain ⟨z,rfl⟩:∃z,y=T.int z:=by
    obtain ⟨z,_,e⟩:=IP.mp (Tu (JA hy));exact ⟨z,e.symm⟩
   have aC4:i<ns.length-m:=by
    have h1:=(IT.mp hy).1;have h2:=Qe (bI ns) m 63;simp [bI] at h2;exact JH h1 h2
   have hcl:cs.length=m:=by rw [hc,KP];omega
   have em:((i:Int)%(m:Int))=((i%m:Nat):Int):=rfl;have hj:i%m<cs.length:=by rw [hcl];exact OF _ (by omega)
   have iw:lE (bI cs) ((i:Int)%(m:Int))=some (T.int cs[i%m]):=by
    rw [em];exact xG (by rw [bI,JC,IQ hj];rfl)
   have hix:Iw (bI cs).length ((i:Int)%(m:Int))=some (i%m):=by
    rw [em];unfold Iw;rw [if_pos (by omega),if_pos (by simp [bI];omega),MP]
   have hmp:(λ(_ j:Int)=>0<j) (i:Int) (m:Int):=by show (0:Int)<(m:Int);omega
   refine ⟨hmp,?_⟩;show o1 (lE (bI cs) ((i:Int)%(m:Int))) _;rw [iw];refine ⟨vC (by omega),hmp,?_⟩;show o1 (Iw (bI cs).length ((i:Int)%(m:Int))) _;rw [hix];have e:bI (cs.set (i%m) (cs[i%m]+z*((i:Int)+2)))=(bI cs).set (i%m) (.int (cs[i%m]+z*((i:Int)+2))):=by rw [bI,bI,List.map_set]
   exact K _ ⟨cs.set (i%m) (cs[i%m]+z*((i:Int)+2)),some (.p (.int (i:Int))),some (.p (.int z)),by rw [e];rfl,by rw [NM];exact hc⟩
  ·rintro E ⟨cs,v3,v4,rfl,hc⟩;have hcm:cs.length<=m:=by rw [hc,KP];omega
   exact ⟨Au _,q cs hcm⟩
end
end My
namespace My
open PySem L2 PyProof.Rows
section
variable {P:QJ} {w:QM} {K:W.Frag} {mg:Str->Option Value} {base:Heap}
def e8 (x y:Fr):Int:=if x.1*y.2<y.1*x.2 then -1 else if y.1*x.2<x.1*y.2 then 1 else 0
def vK:iN:=λas Q=>∃x y:Fr,as=[.v (fr x),.v (fr y)]/\sz x+sz y<=7900/\Q (.v (.int (e8 x y))) []
abbrev h9 (P w K mg base):=Fn P w K mg base 1 "compared" ["one","other"] (aX K vK)
abbrev nS:QU:=top 7
theorem lK:aO ["one","other","first","second"] ["one","other"] (aF nS):=g8
theorem Bi {f:QF} {fd:QK} (F:eT K "compared" "compared" nS f fd) (TX:Txt mg)    : bJ P w K mg base fF 1 f fd ["one","other"] (aX K vK):=by
 refine F.okT lK ?len (λTQ A outer s H E hr=>(aE (bD (i:=2) lK.nd rfl (IV rfl) (aN aS (aH rfl (fv 0) aB (λ_ _=>rfl)) (aH rfl (fv 1) aB (λ_ _=>rfl))))
 (aE (bD (i:=3) lK.nd rfl (IV rfl) (aN aS (aH rfl (fv 1) aB (λ_ _=>rfl)) (aH rfl (fv 0) aB (λ_ _=>rfl))))
 (aE (e9 (fH iF (fv 2) (fv 3) (bE _)) (aK (aR (sJ aB))) dH)
 (aE (e9 (fH Cb (fv 2) (fv 3) (bE _)) (aK (aR aB)) dH)
 (aK (aR aB))))))) ?rd
 case len=>rintro as Q ⟨x,y,rfl,_⟩;rfl
 case rd=>
  rintro as Q ⟨x,y,rfl,hs,q⟩;refine ⟨eZ (e:=7900) (pl (gJ x) (by omega)) (pl (cG y) (by omega)) (by decide),eZ (e:=7900) (pl (gJ y) (by omega)) (pl (cG x) (by omega)) (by decide),?_⟩;unfold e8 at q;show if decide (x.1*y.2<y.1*x.2)=true then _ else _
  by_cases h:x.1*y.2<y.1*x.2
  ·rw [decide_eq_true h,if_pos rfl];rw [if_pos h] at q;exact ⟨rfl,q⟩
  ·rw [decide_eq_false h,if_neg (by decide)];rw [if_neg h] at q;show if decide (y.1*x.2<x.1*y.2)=true then _ else _
   by_cases k:y.1*x.2<x.1*y.2
   ·rw [decide_eq_true k,if_pos rfl];rw [if_pos k] at q;exact ⟨rfl,q⟩
   ·rw [decide_eq_false k,if_neg (by decide)];rw [if_neg k] at q;exact ⟨rfl,q⟩
def rW:iN:=λas Q=>∃(x y b:Fr) (e:Nat),as=[.v (vc x y),.v (fr b)]/\Nv x y e/\dY b/\e+sz b<=7900/\Q (.v (vc (eO x b) (eO y b))) []
abbrev vZ (P w K mg base):=Fn P w K mg base 4 "scaled" ["vector","by"] (aX K rW)
abbrev tK:QU:=top 11
theorem Na:aO ["vector","by"] ["vector","by"] (aF tK):=g8
theorem Nl {f:QF} {fd:QK} (F:eT K "scaled" "scaled" tK f fd) (TX:Txt mg) (US:pC P w K mg base)   : bJ P w K mg base fF 4 f fd ["vector","by"] (aX K rW):=by
 refine F.okT Na ?len (λTQ A outer s H E hr=>(aK (aR (aL (fc (aC US hr (by omega) rfl (fc (aH rfl (fv 0) aB (λ_ _=>rfl)) (fc (fv 1) aA))) (fc (aC US hr (by omega) rfl (fc (aH rfl (fv 0) aB (λ_ _=>rfl)) (fc (fv 1) aA))) aA)))))) ?rd
 case len=>rintro as Q ⟨x,y,b,e,rfl,_⟩;rfl
 case rd=>
  rintro as Q ⟨x,y,b,e,rfl,h,hb,hs,q⟩;have:=h.sx;have:=h.sy;exact ⟨_,_,rfl,h.x,hb,by omega,_,_,rfl,h.y,hb,by omega,rfl,q⟩
def Kh:iN:=λas Q=>∃(x y p q:Fr) (e f:Nat),as=[.v (vc x y),.v (vc p q)]/\Nv x y e/\Nv p q f/\e+f<=7000/\Q (.v (vc (hV x p) (hV y q))) []
abbrev Kg (P w K mg base):=Fn P w K mg base 4 "plus" ["one","other"] (aX K Kh)
abbrev Ge:QU:=top 9
theorem Xs:aO ["one","other"] ["one","other"] (aF Ge):=g8
theorem Vo {f:QF} {fd:QK} (F:eT K "plus" "plus" Ge f fd) (TX:Txt mg) (VL:tG P w K mg base)   : bJ P w K mg base fF 4 f fd ["one","other"] (aX K Kh):=by
 refine F.okT Xs ?len (λTQ A outer s H E hr=>(aK (aR (aL (fc (aC VL hr (by omega) rfl (fc (aH rfl (fv 0) aB (λ_ _=>rfl)) (fc (aH rfl (fv 1) aB (λ_ _=>rfl)) aA))) (fc (aC VL hr (by omega) rfl (fc (aH rfl (fv 0) aB (λ_ _=>rfl)) (fc (aH rfl (fv 1) aB (λ_ _=>rfl)) aA))) aA)))))) ?rd
 case len=>rintro as Q ⟨x,y,p,q,e,f,rfl,_⟩;rfl
 case rd=>
  rintro as Q ⟨x,y,p,q,e,f,rfl,h,k,hs,z⟩;have:=h.sx;have:=h.sy;have:=k.sx;have:=k.sy;exact ⟨_,_,rfl,h.x,k.x,by omega,_,_,rfl,h.y,k.y,by omega,rfl,z⟩
def xT:iN:=λas Q=>∃(x y p q:Fr) (e f:Nat),as=[.v (vc x y),.v (vc p q)]/\Nv x y e/\Nv p q f/\e+f<=7000/\Q (.v (vc (iQ x p) (iQ y q))) []
abbrev Al (P w K mg base):=Fn P w K mg base 4 "minus" ["one","other"] (aX K xT)
abbrev y9:QU:=top 10
theorem Qi:aO ["one","other"] ["one","other"] (aF y9):=g8
theorem Rx {f:QF} {fd:QK} (F:eT K "minus" "minus" y9 f fd) (TX:Txt mg) (UT:pA P w K mg base)   : bJ P w K mg base fF 4 f fd ["one","other"] (aX K xT):=by
 refine F.okT Qi ?len (λTQ A outer s H E hr=>(aK (aR (aL (fc (aC UT hr (by omega) rfl (fc (aH rfl (fv 0) aB (λ_ _=>rfl)) (fc (aH rfl (fv 1) aB (λ_ _=>rfl)) aA))) (fc (aC UT hr (by omega) rfl (fc (aH rfl (fv 0) aB (λ_ _=>rfl)) (fc (aH rfl (fv 1) aB (λ_ _=>rfl)) aA))) aA)))))) ?rd
 case len=>rintro as Q ⟨x,y,p,q,e,f,rfl,_⟩;rfl
 case rd=>
  rintro as Q ⟨x,y,p,q,e,f,rfl,h,k,hs,z⟩;have:=h.sx;have:=h.sy;have:=k.sx;have:=k.sy;exact ⟨_,_,rfl,h.x,k.x,by omega,_,_,rfl,h.y,k.y,by omega,rfl,z⟩
abbrev Br (P w K mg base):=Fn P w K mg base 4 "cross" ["one","other"] (aX K (GZ yH))
abbrev zP:QU:=top 12
theorem Ou:aO ["one","other"] ["one","other"] (aF zP):=g8
theorem Sb {f:QF} {fd:QK} (F:eT K "cross" "cross" zP f fd) (TX:Txt mg) (US:pC P w K mg base) (UT:pA P w K mg base)   : bJ P w K mg base fF 4 f fd ["one","other"] (aX K (GZ yH)):=by
 refine F.okT Ou ?len (λTQ A outer s H E hr=>(aK (aR (aC UT hr (by omega) rfl (fc (aC US hr (by omega) rfl (fc (aH rfl (fv 0) aB (λ_ _=>rfl)) (fc (aH rfl (fv 1) aB (λ_ _=>rfl)) aA))) (fc (aC US hr (by omega) rfl (fc (aH rfl (fv 0) aB (λ_ _=>rfl)) (fc (aH rfl (fv 1) aB (λ_ _=>rfl)) aA))) aA)))))) ?rd
 case len=>rintro as Q ⟨x,y,x',y',e,f,rfl,_⟩;rfl
 case rd=>
  rintro as Q ⟨x,y,x',y',e,f,rfl,h,k,he,q⟩;have:=h.sx;have:=h.sy;have:=k.sx;have:=k.sy;have n1:=bM h.x k.y;have n2:=bM h.y k.x;have s1:=qA h.x k.y;have s2:=qA h.y k.x;exact ⟨_,_,rfl,h.x,k.y,by omega,_,_,rfl,h.y,k.x,by omega,_,_,rfl,n1,n2,by omega,rfl,q⟩
abbrev Pt:=Fr×Fr
def pt (p:Pt):T:=vc p.1 p.2
abbrev I3:=Int×Int×Int
def t3 (s:I3):T:=.tup [.int s.1,.int s.2.1,.int s.2.2]
abbrev I4:=Int×Int×Int×Int
def t4 (b:I4):T:=.tup [.int b.1,.int b.2.1,.int b.2.2.1,.int b.2.2.2]
structure B3 (e:Nat) (s:I3):Prop where
 a:s.1.natAbs<2^e
 b:s.2.1.natAbs<2^e
 c:s.2.2.natAbs<2^e
theorem B3.up {e f:Nat} {s:I3} (h:B3 e s) (k:e<=f):B3 f s:=⟨pl h.a k,pl h.b k,pl h.c k⟩
def gZ (a b:Int):Int:=((KC a.natAbs b.natAbs:Nat):Int)
def aG (p:Pt):I3:=(p.1.1*(p.2.2.fdiv (gZ p.1.2 p.2.2)),p.2.1*(p.1.2.fdiv (gZ p.1.2 p.2.2)),p.1.2.fdiv (gZ p.1.2 p.2.2)*p.2.2)
def lH (s t:I3):I3:=(s.2.1*t.2.2-s.2.2*t.2.1,s.2.2*t.1-s.1*t.2.2,s.1*t.2.1-s.2.1*t.1)
def g3 (l:I3):Int:=gZ (gZ l.1 l.2.1) l.2.2
def cJ (l:I3):I3:=(l.1.fdiv (g3 l),l.2.1.fdiv (g3 l),l.2.2.fdiv (g3 l))
def eM (l s:I3):Int:=l.1*s.1+l.2.1*s.2.1+l.2.2*s.2.2
theorem jD (i:Int) (n:Nat):(i.fdiv (n:Int)).natAbs<=i.natAbs:=by
 rw [oS];exact Int.natAbs_ediv_le_natAbs i n
theorem Qu {a b:Int} (h:b≠0):0<gZ a b:=by
 unfold gZ;have:=MV a.natAbs (show 0<b.natAbs by omega);omega
structure Pb (p:Pt):Prop where
 v:Nv p.1 p.2 20
theorem jV {p:Pt} (h:Pb p):B3 40 (aG p):=by
 have d1:=jD p.2.2 (KC p.1.2.natAbs p.2.2.natAbs);have d2:=jD p.1.2 (KC p.1.2.natAbs p.2.2.natAbs);have x1:=pl (gJ p.1) h.v.sx;have x2:=pl (cG p.1) h.v.sx;have y1:=pl (gJ p.2) h.v.sy;have y2:=pl (cG p.2) h.v.sy;exact ⟨bN (e:=20) (f:=20) x1 (JO d1 y2),bN (e:=20) (f:=20) y1 (JO d2 x2),bN (e:=20) (f:=20) (JO d2 x2) y2⟩
def C8:iN:=λas Q=>∃p:Pt,as=[.v (pt p)]/\Pb p/\Q (.v (t3 (aG p))) []
abbrev i5 (P w K mg base):=Fn P w K mg base 2 "spot_of" ["point"] (aX K C8)
abbrev qG:QU:=top 17
theorem gW:aO ["point","divisor","x","low","y","other"] ["point"] (aF qG):=g8
theorem Em {f:QF} {fd:QK} (F:eT K "spot_of" "spot_of" qG f fd) (TX:Txt mg) (TF:eF P w K mg base)   : bJ P w K mg base fF 2 f fd ["point"] (aX K C8):=by
 refine F.okT gW ?len (λTQ A outer s H E hr=>(aE (jR (fv 0) (cE (n:=2) rfl rfl (aJ (cE (n:=2) rfl rfl (aJ (aI (i:=2) gW.nd rfl (IV rfl)) (aJ (aI (i:=3) gW.nd rfl (IV rfl)) bS))) (aJ (cE (n:=2) rfl rfl (aJ (aI (i:=4) gW.nd rfl (IV rfl)) (aJ (aI (i:=5) gW.nd rfl (IV rfl)) bS))) bS))))
 (aE (bD (i:=1) gW.nd rfl (IV rfl) (aC TF hr (by omega) rfl (fc (fv 3) (fc (fv 5) aA))))
 (aK (aR (aL (fc (aN aS (fv 2) (aN cZ (fv 5) (fv 1))) (fc (aN aS (fv 4) (aN cZ (fv 3) (fv 1))) (fc (aN aS (aN cZ (fv 3) (fv 1)) (fv 5)) aA))))))))) ?rd
 case len=>rintro as Q ⟨p,rfl,_⟩;rfl
 case rd=>
  rintro as Q ⟨p,rfl,h,q⟩;have x1:=pl (gJ p.1) h.v.sx;have x2:=pl (cG p.1) h.v.sx;have y1:=pl (gJ p.2) h.v.sy;have y2:=pl (cG p.2) h.v.sy;have d1:=jD p.2.2 (KC p.1.2.natAbs p.2.2.natAbs);have d2:=jD p.1.2 (KC p.1.2.natAbs p.2.2.natAbs);have cz:∀i,oF i ((KC p.1.2.natAbs p.2.2.natAbs:Nat):Int):=λi=>oJ (n:=p.1.2) (d:=p.2.2) (by have:=h.v.y.d;omega) (oU y2 (by decide));refine ⟨_,_,rfl,?_⟩;exact ⟨cz _,eZ (e:=20) x1 (JO d1 y2) (by decide),cz _,eZ (e:=20) y1 (JO d2 x2) (by decide),cz _,eZ (e:=20) (JO d2 x2) y2 (by decide),rfl,q⟩
def C0:iN:=λas Q=>∃s t:I3,as=[.v (t3 s),.v (t3 t)]/\B3 3000 s/\B3 3000 t/\Q (.v (t3 (lH s t))) []
abbrev iP (P w K mg base):=Fn P w K mg base 1 "line_through" ["begin","end"] (aX K C0)
abbrev i8:QU:=top 18
theorem cK:aO ["begin","end","x","y","w","to_x","to_y","to_w"] ["begin","end"] (aF i8):=g8
theorem rF {f:QF} {fd:QK} (F:eT K "line_through" "line_through" i8 f fd) (TX:Txt mg)    : bJ P w K mg base fF 1 f fd ["begin","end"] (aX K C0):=by
 refine F.okT cK ?len (λTQ A outer s H E hr=>(aE (jR (aL (fc (fv 0) (fc (fv 1) aA))) (cE (n:=2) rfl rfl (aJ (cE (n:=3) rfl rfl (aJ (aI (i:=2) cK.nd rfl (IV rfl)) (aJ (aI (i:=3) cK.nd rfl (IV rfl)) (aJ (aI (i:=4) cK.nd rfl (IV rfl)) bS)))) (aJ (cE (n:=3) rfl rfl (aJ (aI (i:=5) cK.nd rfl (IV rfl)) (aJ (aI (i:=6) cK.nd rfl (IV rfl)) (aJ (aI (i:=7) cK.nd rfl (IV rfl)) bS)))) bS))))
 (aK (aR (aL (fc (bA iJ (aN aS (fv 3) (fv 7)) (aN aS (fv 4) (fv 6))) (fc (bA iJ (aN aS (fv 4) (fv 5)) (aN aS (fv 2) (fv 7))) (fc (bA iJ (aN aS (fv 2) (fv 6)) (aN aS (fv 3) (fv 5))) aA)))))))) ?rd
 case len=>rintro as Q ⟨s,t,rfl,_⟩;rfl
 case rd=>
  rintro as Q ⟨s,t,rfl,h,k,q⟩;exact ⟨eZ h.b k.c (by decide),eZ h.c k.b (by decide),eZ h.c k.a (by decide),eZ h.a k.c (by decide),eZ h.a k.b (by decide),eZ h.b k.a (by decide),rfl,q⟩
theorem Eb {s t:I3} {e:Nat} (h:B3 e s) (k:B3 e t):B3 (e+e+1) (lH s t):=
 ⟨jL (bN h.b k.c) (bN h.c k.b),jL (bN h.c k.a) (bN h.a k.c),jL (bN h.a k.b) (bN h.b k.a)⟩
theorem D5 {l:I3} {e:Nat} (h:B3 e l):B3 e (cJ l):=⟨JO (jD _ _) h.a,JO (jD _ _) h.b,JO (jD _ _) h.c⟩
def Zk:iN:=λas Q=>∃l:I3,as=[.v (t3 l)]/\B3 7000 l/\g3 l≠0/\Q (.v (t3 (cJ l))) []
theorem Ut {a b:Int} {e:Nat} (h:a.natAbs<2^e) (k:b.natAbs<2^e):(gZ a b).natAbs<2^e:=by
 unfold gZ;rw [NF];rcases OO a.natAbs with z | z
 ·rw [z,Nat.gcd_zero_left];exact k
 ·exact JO (Nat.gcd_le_left _ z) h
abbrev fQ (P w K mg base):=Fn P w K mg base 2 "in_lowest_terms" ["line"] (aX K Zk)
abbrev gL:QU:=top 19
theorem cP:aO ["line","divisor","a","b","c"] ["line"] (aF gL):=g8
theorem nI {f:QF} {fd:QK} (F:eT K "in_lowest_terms" "in_lowest_terms" gL f fd) (TX:Txt mg) (TF:eF P w K mg base)   : bJ P w K mg base fF 2 f fd ["line"] (aX K Zk):=by
 refine F.okT cP ?len (λTQ A outer s H E hr=>(aE (jR (fv 0) (cE (n:=3) rfl rfl (aJ (aI (i:=2) cP.nd rfl (IV rfl)) (aJ (aI (i:=3) cP.nd rfl (IV rfl)) (aJ (aI (i:=4) cP.nd rfl (IV rfl)) bS)))))
 (aE (bD (i:=1) cP.nd rfl (IV rfl) (aC TF hr (by omega) rfl (fc (aC TF hr (by omega) rfl (fc (fv 2) (fc (fv 3) aA))) (fc (fv 4) aA))))
 (aK (aR (aL (fc (aN cZ (fv 2) (fv 1)) (fc (aN cZ (fv 3) (fv 1)) (fc (aN cZ (fv 4) (fv 1)) aA))))))))) ?rd
 case len=>rintro as Q ⟨l,rfl,_⟩;rfl
 case rd=>
  rintro as Q ⟨l,rfl,h,h0,q⟩;have cz:∀i,oF i (g3 l):=λi=>⟨h0,oU (Ut (Ut h.a h.b) h.c) (by decide)⟩;refine ⟨_,_,rfl,_,_,rfl,?_⟩;exact ⟨cz _,cz _,cz _,rfl,q⟩
def Zy:iN:=λas Q=>∃l s:I3,as=[.v (t3 l),.v (t3 s)]/\B3 3000 l/\B3 3000 s/\Q (.v (.int (eM l s))) []
abbrev lU (P w K mg base):=Fn P w K mg base 1 "off_line" ["line","spot"] (aX K Zy)
abbrev nT:QU:=top 20
theorem Bz:aO ["line","spot"] ["line","spot"] (aF nT):=g8
theorem zX {f:QF} {fd:QK} (F:eT K "off_line" "off_line" nT f fd) (TX:Txt mg)    : bJ P w K mg base fF 1 f fd ["line","spot"] (aX K Zy):=by
 refine F.okT Bz ?len (λTQ A outer s H E hr=>(aK (aR (bA b9 (bA b9 (aN aS (aH rfl (fv 0) aB (λ_ _=>rfl)) (aH rfl (fv 1) aB (λ_ _=>rfl))) (aN aS (aH rfl (fv 0) aB (λ_ _=>rfl)) (aH rfl (fv 1) aB (λ_ _=>rfl)))) (aN aS (aH rfl (fv 0) aB (λ_ _=>rfl)) (aH rfl (fv 1) aB (λ_ _=>rfl))))))) ?rd
 case len=>rintro as Q ⟨l,s,rfl,_⟩;rfl
 case rd=>
  rintro as Q ⟨l,s,rfl,h,k,q⟩;exact ⟨eZ h.a k.a (by decide),eZ h.b k.b (by decide),eZ h.c k.c (by decide),rfl,q⟩
theorem Sy {l s:I3} {e f:Nat} (h:B3 e l) (k:B3 f s):(eM l s).natAbs<2^(e+f+2):=
 xH (xH (bN h.a k.a) (bN h.b k.b)) (pl (bN h.c k.c) (by omega))
end
end My
namespace My
open PySem L2 PyProof.Rows
section
variable {P:QJ} {w:QM} {K:W.Frag} {mg:Str->Option Value} {base:Heap}
theorem bQ {α β:Type} {g:FG} {Fe:FE} {f h:α->L2.T} (mk:β->List L2.T->En) {Q:En->Prop}:∀(xs:List α) (b:β) (acc:List L2.T),acc.length+xs.length<=1000->
  (∀x∈xs,∀b acc rest,acc.length<1000->(∀b',fG g Fe rest (mk b' (acc++[h x])) Q)->fG g Fe (f x::rest) (mk b acc) Q)->(∀b,Q (mk b (acc++xs.map h)))->fG g Fe (xs.map f) (mk b acc) Q
 | [],b,acc,_,_,hd=>by have:=hd b;rw [MT,JS] at this;exact this
 | x::xs,b,acc,hn,hs,hd=>by
  rw [JE] at hn;refine hs x (by simp) b acc _ (by omega) λb'=>?_;refine bQ mk xs b' (acc++[h x]) (by rw [IY,KZ];omega) (λy hy=>hs y (by simp [hy])) λb2=>?_;have:=hd b2;rw [IZ];exact this
theorem qC {α β:Type} {g:FG} {Fb:FB} {Fe:FE} {f h:α->L2.T} (p:α->Bool) (mk:β->List L2.T->En) {Q:En->Prop}:∀(xs:List α) (b:β) (acc:List L2.T),acc.length+xs.length<=1000->
  (∀x∈xs,∀b acc rest,acc.length<1000->(∀b',jH g Fb Fe rest (mk b' (if p x=true then acc++[h x] else acc)) Q)->jH g Fb Fe (f x::rest) (mk b acc) Q)->(∀b,Q (mk b (acc++(xs.filter p).map h)))->jH g Fb Fe (xs.map f) (mk b acc) Q
 | [],b,acc,_,_,hd=>by have:=hd b;rw [List.filter_nil,MT,JS] at this;exact this
 | x::xs,b,acc,hn,hs,hd=>by
  rw [JE] at hn;refine hs x (by simp) b acc _ (by omega) λb'=>?_;refine qC p mk xs b' _ (by split<;>(try rw [IY,KZ])<;>omega) (λy hy=>hs y (by simp [hy])) λb2=>?_;have:=hd b2
  by_cases c:p x=true
  ·rw [if_pos c,IZ];rw [JZ c] at this;exact this
  ·rw [if_neg c];rw [KR c] at this;exact this
theorem gH {α σ:Type} {g:FG} {F:FS} {D:ET} {f:α->L2.T} (mk:σ->En) (R:List α->σ->Prop) (hs:∀x xs s rest,R (x::xs) s->(∀s',R xs s'->fA g F D rest (mk s'))->fA g F D (f x::rest) (mk s)) (hd:∀s,R [] s->D.nx (mk s)):∀xs s,R xs s->fA g F D (xs.map f) (mk s)
 | [],s,h=>hd s h
 | x::xs,s,h=>hs x xs s _ h λs' h'=>gH mk R hs hd xs s' h'
theorem aZ {α:Type} {f:α->L2.T} (h:∀x,noL (f x)=true):∀xs:List α,d9 (xs.map f)=true
 | []=>rfl
 | x::xs=>by rw [JK,d9,h x,aZ h xs];rfl
def Nt (ss:List I3):List Int:=ss.map λs=>(s.1*65536).fdiv s.2.2
def Nw (ss:List I3):List Int:=ss.map λs=>(s.2.1*65536).fdiv s.2.2
def sX (ss:List I3):I4:=(x9 (Nt ss),x9 (Nw ss),zE (Nt ss),zE (Nw ss))
def F7:iN:=λas Q=>∃(t:L2.T) (ss:List I3),as=[.v t]/\(t = .lst (ss.map t3)\/t = .tup (ss.map t3))/\0<ss.length/\ss.length<=900/\(∀s∈ss,B3 3000 s/\s.2.2≠0)/\Q (.v (t4 (sX ss))) []
abbrev pX (P w K mg base):=Fn P w K mg base 1 "box_of" ["spots"] (aX K F7)
abbrev tH:QU:=top 21
theorem qO:aO ["spots","across","up"] ["spots"] (aF tH):=g8
theorem Lf {f:QF} {fd:QK} (F:eT K "box_of" "box_of" tH f fd) (TX:Txt mg)  (XE:Dz mg "GRID" 65536)  : bJ P w K mg base fF 1 f fd ["spots"] (aX K F7):=by
 refine F.okT qO ?len (λTQ A outer s H E hr=>(aE (mM (i:=1) (N':=["spot"]) (t:=1) (cap:=[]) qO.nd rfl (IV rfl) rfl rfl (bK.of rfl) rfl (by decide) (Sq rfl (fv 0)) (λ_ _ _ _=>(aI (i:=0) (show JT (["spot"]:List Str) by decide +kernel) rfl (IV rfl) (JW rfl))) (λ_ _ _ _=>(aN cZ (aN aS (aH rfl (fv 0) aB (λ_ _=>rfl)) (Ay rfl XE)) (aH rfl (fv 0) aB (λ_ _=>rfl)))))
 (aE (mM (i:=2) (N':=["spot"]) (t:=1) (cap:=[]) qO.nd rfl (IV rfl) rfl rfl (bK.of rfl) rfl (by decide) (Sq rfl (fv 0)) (λ_ _ _ _=>(aI (i:=0) (show JT (["spot"]:List Str) by decide +kernel) rfl (IV rfl) (JW rfl))) (λ_ _ _ _=>(aN cZ (aN aS (aH rfl (fv 0) aB (λ_ _=>rfl)) (Ay rfl XE)) (aH rfl (fv 0) aB (λ_ _=>rfl)))))
 (aK (aR (aL (fc (Ju rfl rfl rfl TX.n_min (fc (fv 1) aA)) (fc (Ju rfl rfl rfl TX.n_min (fc (fv 2) aA)) (fc (Hj rfl rfl rfl TX.n_max (fc (fv 1) aA)) (fc (Hj rfl rfl rfl TX.n_max (fc (fv 2) aA)) aA)))))))))) ?rd
 case len=>rintro as Q ⟨t,ss,rfl,_⟩;rfl
 case rd=>
  rintro as Q ⟨t,ss,rfl,ht,h0,hl,hs,q⟩;have cz:∀s∈ss,∀i,oF i s.2.2:=λs m i=>⟨(hs s m).2,oU (hs s m).1.c (by decide)⟩;have e1:(ss.map λs=>L2.T.int ((s.1*65536).fdiv s.2.2))=(Nt ss).map L2.T.int:=by rw [Nt,JG];rfl
  have e2:(ss.map λs=>L2.T.int ((s.2.1*65536).fdiv s.2.2))=(Nw ss).map L2.T.int:=by rw [Nw,JG];rfl
  have l1:0<(Nt ss).length:=by rw [Nt,IS];exact h0
  have l2:0<(Nw ss).length:=by rw [Nw,IS];exact h0
  rcases ht with rfl | rfl
  all_goals
   refine ⟨rfl,rfl,bQ (f:=t3) (h:=λs=>.int ((s.1*65536).fdiv s.2.2)) (λ(w:Option U) acc=>[w,some (.o false acc)]) ss none [] (by simp;omega) (λs m w acc rest ha K=>⟨vC (by decide),cz s m _,ha,K _⟩) λw=>?_⟩;refine ⟨aZ (λ_=>rfl) _,rfl,rfl,bQ (f:=t3) (h:=λs=>.int ((s.2.1*65536).fdiv s.2.2)) (λ(w:Option U) acc=>[w,some (.o false acc)]) ss none [] (by simp;omega) (λs m w acc rest ha K=>⟨vC (by decide),cz s m _,ha,K _⟩) λw=>?_⟩;refine ⟨aZ (λ_=>rfl) _,?_⟩;rw [LC,LC,e1,e2];exact ⟨_,rfl,l1,_,rfl,l2,_,rfl,l1,_,rfl,l2,rfl,q⟩
def nU (a b:I4):Bool:=decide (a.2.2.1<b.1)||decide (b.2.2.1<a.1)||decide (a.2.2.2<b.2.1)||decide (b.2.2.2<a.2.1)
def Hs:iN:=λas Q=>∃a b:I4,as=[.v (t4 a),.v (t4 b)]/\Q (.v (.bl (nU a b))) []
abbrev oD (P w K mg base):=Fn P w K mg base 1 "are_apart" ["one","other"] (aX K Hs)
abbrev lV:QU:=top 22
theorem xQ:aO ["one","other"] ["one","other"] (aF lV):=g8
theorem yC {f:QF} {fd:QK} (F:eT K "are_apart" "are_apart" lV f fd) (TX:Txt mg)    : bJ P w K mg base fF 1 f fd ["one","other"] (aX K Hs):=by
 refine F.okT xQ ?len (λTQ A outer s H E hr=>(aK (aR (Pj (wV iF (aH rfl (fv 0) aB (λ_ _=>rfl)) (aH rfl (fv 1) aB (λ_ _=>rfl)) (bE _)) (Pj (wV iF (aH rfl (fv 1) aB (λ_ _=>rfl)) (aH rfl (fv 0) aB (λ_ _=>rfl)) (bE _)) (Pj (wV iF (aH rfl (fv 0) aB (λ_ _=>rfl)) (aH rfl (fv 1) aB (λ_ _=>rfl)) (bE _)) (L6 (wV iF (aH rfl (fv 1) aB (λ_ _=>rfl)) (aH rfl (fv 0) aB (λ_ _=>rfl)) (bE _))))))))) ?rd
 case len=>rintro as Q ⟨a,b,rfl,_⟩;rfl
 case rd=>
  rintro as Q ⟨a,b,rfl,q⟩;unfold nU at q;show if decide (a.2.2.1<b.1)=true then _ else _
  by_cases c1:a.2.2.1<b.1
  ·rw [decide_eq_true c1] at q ⊢;rw [if_pos rfl];exact ⟨rfl,q⟩
  rw [decide_eq_false c1] at q ⊢;rw [if_neg (by decide)];show if decide (b.2.2.1<a.1)=true then _ else _
  by_cases c2:b.2.2.1<a.1
  ·rw [decide_eq_true c2] at q ⊢;rw [if_pos rfl];exact ⟨rfl,q⟩
  rw [decide_eq_false c2] at q ⊢;rw [if_neg (by decide)];show if decide (a.2.2.2<b.2.1)=true then _ else _
  by_cases c3:a.2.2.2<b.2.1
  ·rw [decide_eq_true c3] at q ⊢;rw [if_pos rfl];exact ⟨rfl,q⟩
  rw [decide_eq_false c3] at q ⊢;rw [if_neg (by decide)];exact ⟨rfl,q⟩
theorem Zv (xs:List L2.T):i6 xs (some 1) none=xs.tail:=by
 unfold i6;have e:HT.sIx xs.length 0 (some (1:Int))=min 1 xs.length:=HT.sIx_nat _ _ 1;rw [HT.sIx_none,e];cases xs with
 | nil=>rfl
 | cons x xs=>
  rw [NO (by simp),List.drop_succ_cons,PZ,List.tail_cons];exact MK (by simp)
theorem Hc (xs:List L2.T):i6 xs none (some 1)=xs.take 1:=by
 unfold i6;have e:HT.sIx xs.length xs.length (some (1:Int))=min 1 xs.length:=HT.sIx_nat _ _ 1;rw [HT.sIx_none,e,PZ,Nat.sub_zero];cases xs with
 | nil=>rfl
 | cons x xs=>rw [NO (by simp)]
theorem zip_map {α β:Type} (f:α->L2.T) (g:β->L2.T):∀(xs:List α) (ys:List β),gM (xs.map f) (ys.map g)=(xs.zip ys).map λp=>L2.T.tup [f p.1,g p.2]
 | [],ys=>by simp [gM]
 | x::xs,[]=>by simp [gM]
 | x::xs,y::ys=>by
  show L2.T.tup [f x,g y]::gM (xs.map f) (ys.map g)=_;rw [zip_map f g xs ys];rfl
structure cR where
 w:Str
 n:Int
 o:List Pt
 m:Str
def eL (b:cR):L2.T:=.tup [.str b.w,.int b.n,.tup (b.o.map pt),.str b.m]
def oY {α:Type} (xs:List α):List α:=xs.tail++xs.take 1
def dA (o:List Pt):List I3:=((o.map aG).zip (oY (o.map aG))).map λp=>lH p.1 p.2
def Rj:iN:=λas Q=>∃b:cR,as=[.v (eL b)]/\b.o.length<=900/\(∀p∈b.o,Pb p)/\Q (.l ((dA b.o).map t3)) []
abbrev jS (P w K mg base):=Fn P w K mg base 3 "edge_lines" ["block"] (aX K Rj)
abbrev kX:QU:=top 23
theorem mZ:aO ["block","spots"] ["block"] (aF kX):=g8
theorem uX {f:QF} {fd:QK} (F:eT K "edge_lines" "edge_lines" kX f fd) (TX:Txt mg) (TU:i5 P w K mg base) (UB:iP P w K mg base)   : bJ P w K mg base fF 3 f fd ["block"] (aX K Rj):=by
 refine F.okT mZ ?len (λTQ A outer s H E hr=>(aE (mM (i:=1) (N':=["corner"]) (t:=1) (cap:=[]) mZ.nd rfl (IV rfl) rfl rfl (bK.of rfl) rfl (by decide) (qI rfl (aH rfl (fv 0) aB (λ_ _=>rfl))) (λ_ _ _ _=>(aI (i:=0) (show JT (["corner"]:List Str) by decide +kernel) rfl (IV rfl) (JW rfl))) (λ_ _ _ _=>(aC TU hr (by omega) rfl (fc (fv 0) aA))))
 (aK (aR (dG (N':=["begin","end"]) (t:=2) (cap:=[]) rfl (bK.of rfl) rfl (by decide) (Kf rfl rfl TX.n_zip (fc (fv 1) (fc (Ui (kG rfl (fv 1) (e7 aB) iU) (kG rfl (fv 1) iU (e7 aB))) aA))) (λ_ _ _ _=>(cE (n:=2) rfl rfl (aJ (aI (i:=0) (show JT (["begin","end"]:List Str) by decide +kernel) rfl (IV rfl) (JW rfl)) (aJ (aI (i:=1) (show JT (["begin","end"]:List Str) by decide +kernel) rfl (IV rfl) (JW rfl)) bS)))) (λ_ _ _ _=>(aC UB hr (by omega) rfl (fc (fv 0) (fc (fv 1) aA))))))))) ?rd
 case len=>rintro as Q ⟨b,rfl,_⟩;rfl
 case rd=>
  rintro as Q ⟨b,rfl,hl,hb,q⟩;refine ⟨rfl,bQ (f:=pt) (h:=λp=>t3 (aG p)) (λ(w:Option U) acc=>[w,some (.o false acc)]) b.o none [] (by simp;omega) (λp m w acc rest ha K=>?_) λw=>?_⟩
  ·exact ⟨p,rfl,hb p m,ha,K _⟩
  refine ⟨aZ (λ_=>rfl) _,?_⟩;rw [LC,show (b.o.map λp=>t3 (aG p))=(b.o.map aG).map t3 by rw [JG];rfl];have hs:∀s∈b.o.map aG,B3 3000 s:=λs m=>by
   obtain ⟨p,mp,rfl⟩:=IP.mp m;exact (jV (hb p mp)).up (by decide)
  have hle:(b.o.map aG).length<=900:=by rw [IS];exact hl
  unfold dA at q;generalize b.o.map aG=ss at hs hle q;refine (?_:rC [some (.p (eL b)),some (.o false (ss.map t3))] _);have e1:i6 (ss.map t3) (some 1) none++i6 (ss.map t3) none (some 1)=(oY ss).map t3:=by rw [Zv,Hc,oY,KU,List.map_tail,OS]
  refine ⟨?_,?_⟩
  ·show (i6 (ss.map t3) (some 1) none).length+(i6 (ss.map t3) none (some 1)).length<=1000;rw [Zv,Hc,MX,KP,IS];omega
  ·refine ⟨rfl,?_⟩;show fG _ _ (gM (ss.map t3) (i6 (ss.map t3) (some 1) none++i6 (ss.map t3) none (some 1))) _ _;rw [e1,zip_map];have hz:∀p∈ss.zip (oY ss),B3 3000 p.1/\B3 3000 p.2:=λp m=>by
    obtain ⟨m1,m2⟩:=NB (a:=p.1) (b:=p.2) m;refine ⟨hs _ m1,hs _ ?_⟩;rcases JJ.mp m2 with m2 | m2
    ·exact OG m2
    ·exact LH m2
   refine bQ (f:=λp:I3×I3=>.tup [t3 p.1,t3 p.2]) (h:=λp=>t3 (lH p.1 p.2)) (λ(w:Option U×Option U) acc=>[w.1,w.2,some (.o false acc)]) _ (none,none) [] (by simp;omega) (λp m w acc rest ha K=>?_) λw=>?_
   ·exact ⟨p.1,p.2,rfl,(hz p m).1,(hz p m).2,ha,K (_,_)⟩
   ·refine ⟨aZ (λ_=>rfl) _,aZ (λ_=>rfl) _,?_⟩;rw [JG] at q;exact q
structure Sh where
 b:I4
 ls:List I3
def kI (s:Sh):L2.T:=.tup [t4 s.b,.tup (s.ls.map t3)]
theorem Dl (s:Sh):noL (kI s)=true:=by
 have:=aZ (f:=t3) (λ_=>rfl) s.ls;simp [kI,t4,noL,d9,this]
theorem Uj (b:cR):noL (eL b)=true:=by
 have:=aZ (f:=pt) (λ_=>rfl) b.o;simp [eL,noL,d9,this]
def aW (b:cR):Sh:=⟨sX (b.o.map aG),(dA b.o).map cJ⟩
structure Co (b:cR):Prop where
 len:b.o.length<=900
 pos:0<b.o.length
 pb:∀p∈b.o,Pb p
 ne:∀l∈dA b.o,g3 l≠0
theorem xO {o:List Pt} (h:∀p∈o,Pb p):∀l∈dA o,B3 81 l:=λl m=>by
 obtain ⟨p,mp,rfl⟩:=IP.mp m;obtain ⟨m1,m2⟩:=NB (a:=p.1) (b:=p.2) mp;have hs:∀s∈o.map aG,B3 40 s:=λs m=>by
  obtain ⟨p,mp,rfl⟩:=IP.mp m;exact jV (h p mp)
 refine Eb (hs _ m1) (hs _ ?_);rcases JJ.mp m2 with m2 | m2
 ·exact OG m2
 ·exact LH m2
theorem xJ {p:Pt} (h:Pb p):(aG p).2.2≠0:=by
 have hx:=h.v.x.d;have hy:=h.v.y.d;show p.1.2.fdiv (gZ p.1.2 p.2.2)*p.2.2≠0;refine ND ?_ (by omega);unfold gZ;rw [oS];have dn:((KC p.1.2.natAbs p.2.2.natAbs:Nat):Int)∣p.1.2:=KI.mpr (LV _ _);intro z;have:=Int.ediv_mul_cancel dn;rw [z,Int.zero_mul] at this;omega
def Ud:iN:=λas Q=>∃b:cR,as=[.v (eL b)]/\Co b/\Q (.v (kI (aW b))) []
abbrev qS (P w K mg base):=Fn P w K mg base 4 "shape_of" ["block"] (aX K Ud)
abbrev nL:QU:=top 24
theorem qZ:aO ["block","lines"] ["block"] (aF nL):=g8
theorem Am {f:QF} {fd:QK} (F:eT K "shape_of" "shape_of" nL f fd) (TX:Txt mg) (UM:jS P w K mg base) (TR:fQ P w K mg base) (VH:pX P w K mg base) (TU:i5 P w K mg base)   : bJ P w K mg base fF 4 f fd ["block"] (aX K Ud):=by
 refine F.okT qZ ?len (λTQ A outer s H E hr=>(aE (mM (i:=1) (N':=["line"]) (t:=1) (cap:=[]) qZ.nd rfl (IV rfl) rfl rfl (bK.of rfl) rfl (by decide) (dF rfl (aC UM hr (by omega) rfl (fc (fv 0) aA))) (λ_ _ _ _=>(aI (i:=0) (show JT (["line"]:List Str) by decide +kernel) rfl (IV rfl) (JW rfl))) (λ_ _ _ _=>(aC TR hr (by omega) rfl (fc (fv 0) aA))))
 (aK (aR (aL (fc (aC VH hr (by omega) rfl (fc (dG (N':=["corner"]) (t:=1) (cap:=[]) rfl (bK.of rfl) rfl (by decide) (qI rfl (aH rfl (fv 0) aB (λ_ _=>rfl))) (λ_ _ _ _=>(aI (i:=0) (show JT (["corner"]:List Str) by decide +kernel) rfl (IV rfl) (JW rfl))) (λ_ _ _ _=>(aC TU hr (by omega) rfl (fc (fv 0) aA)))) aA)) (fc (mB rfl rfl TX.n_tuple (fc (fv 1) aA)) aA))))))) ?rd
 case len=>rintro as Q ⟨b,rfl,_⟩;rfl
 case rd=>
  rintro as Q ⟨b,rfl,h,q⟩;refine ⟨b,rfl,h.len,h.pb,rfl,?_⟩;have hle:(dA b.o).length<=900:=by
   have:=h.len;simp only [dA,IS,OH];omega
  refine bQ (f:=t3) (h:=λl=>t3 (cJ l)) (λ(w:Option U) acc=>[w,some (.o false acc)]) _ none [] (by simp;omega) (λl m w acc rest ha K=>?_) λw=>?_
  ·exact ⟨l,rfl,(xO h.pb l m).up (by decide),h.ne l m,ha,K _⟩
  refine ⟨aZ (λ_=>rfl) _,?_⟩;refine ⟨rfl,bQ (f:=pt) (h:=λp=>t3 (aG p)) (λ(w:Option U) acc=>[w,some (.o false acc)]) b.o none [] (by have:=h.len;simp;omega) (λp m w acc rest ha K=>?_) λw=>?_⟩
  ·exact ⟨p,rfl,h.pb p m,ha,K _⟩
  refine ⟨aZ (λ_=>rfl) _,?_⟩;refine ⟨_,b.o.map aG,rfl,.inl (by rw [JG];rfl),by rw [IS];exact h.pos,by rw [IS];exact h.len,λs m=>?_,?_⟩
  ·obtain ⟨p,mp,rfl⟩:=IP.mp m;exact ⟨(jV (h.pb p mp)).up (by decide),xJ (h.pb p mp)⟩
  ·have e:([]++(dA b.o).map λl=>t3 (cJ l))=(((dA b.o).map cJ).map t3):=by rw [JG];rfl
   rw [e];exact ⟨Dl (aW b),q⟩
def Jd:iN:=λas Q=>∃bs:List cR,as=[.v (.lst (bs.map eL))]/\bs.length<=900/\(∀b∈bs,Co b)/\Q (.l ((bs.map aW).map kI)) []
abbrev oP (P w K mg base):=Fn P w K mg base 5 "shapes_of" ["laid"] (aX K Jd)
abbrev mG:QU:=top 25
theorem yJ:aO ["laid"] ["laid"] (aF mG):=g8
theorem yD {f:QF} {fd:QK} (F:eT K "shapes_of" "shapes_of" mG f fd) (TX:Txt mg) (VY:qS P w K mg base)   : bJ P w K mg base fF 5 f fd ["laid"] (aX K Jd):=by
 refine F.okT yJ ?len (λTQ A outer s H E hr=>(aK (aR (dG (N':=["block"]) (t:=1) (cap:=[]) rfl (bK.of rfl) rfl (by decide) (dF rfl (fv 0)) (λ_ _ _ _=>(aI (i:=0) (show JT (["block"]:List Str) by decide +kernel) rfl (IV rfl) (JW rfl))) (λ_ _ _ _=>(aC VY hr (by omega) rfl (fc (fv 0) aA))))))) ?rd
 case len=>rintro as Q ⟨bs,rfl,_⟩;rfl
 case rd=>
  rintro as Q ⟨bs,rfl,hl,h,q⟩;refine ⟨rfl,bQ (f:=eL) (h:=λb=>kI (aW b)) (λ(w:Option U) acc=>[w,some (.o false acc)]) bs none [] (by simp;omega) (λb m w acc rest ha K=>?_) λw=>?_⟩
  ·exact ⟨b,rfl,h b m,ha,K _⟩
  ·rw [JG] at q;exact ⟨aZ (λ_=>Dl _) _,aZ (λ_=>Dl _) _,q⟩
structure Sg where
 b:I4
 p:I3
 q:I3
 l:I3
def AA (s:Sg):L2.T:=.tup [t4 s.b,.tup [t3 s.p,t3 s.q],t3 s.l]
def dI (p q:Pt):Sg:=⟨sX [aG p,aG q],aG p,aG q,cJ (lH (aG p) (aG q))⟩
def BD:iN:=λas Q=>∃p q:Pt,as=[.v (pt p),.v (pt q)]/\Pb p/\Pb q/\g3 (lH (aG p) (aG q))≠0/\Q (.v (AA (dI p q))) []
abbrev nA (P w K mg base):=Fn P w K mg base 3 "segment_of" ["begin","end"] (aX K BD)
abbrev kT:QU:=top 26
theorem mX:aO ["begin","end","spots"] ["begin","end"] (aF kT):=g8
theorem uS {f:QF} {fd:QK} (F:eT K "segment_of" "segment_of" kT f fd) (TX:Txt mg) (TU:i5 P w K mg base) (VH:pX P w K mg base) (TR:fQ P w K mg base) (UB:iP P w K mg base)   : bJ P w K mg base fF 3 f fd ["begin","end"] (aX K BD):=by
 refine F.okT mX ?len (λTQ A outer s H E hr=>(aE (bD (i:=2) mX.nd rfl (IV rfl) (aL (fc (aC TU hr (by omega) rfl (fc (fv 0) aA)) (fc (aC TU hr (by omega) rfl (fc (fv 1) aA)) aA))))
 (aK (aR (aL (fc (aC VH hr (by omega) rfl (fc (fv 2) aA)) (fc (fv 2) (fc (aC TR hr (by omega) rfl (fc (aC UB hr (by omega) rfl (fc (aH rfl (fv 2) aB (λ_ _=>rfl)) (fc (aH rfl (fv 2) aB (λ_ _=>rfl)) aA))) aA)) aA)))))))) ?rd
 case len=>rintro as Q ⟨p,q,rfl,_⟩;rfl
 case rd=>
  rintro as Q ⟨p,q,rfl,hp,hq,h0,z⟩;have bp:=(jV hp).up (show 40<=3000 by decide);have bq:=(jV hq).up (show 40<=3000 by decide);refine ⟨p,rfl,hp,q,rfl,hq,_,[aG p,aG q],rfl,.inr rfl,(show 0<2 by decide),(show 2<=900 by decide),λs m=>?_,_,_,rfl,bp,bq,_,rfl,(Eb bp bq).up (by decide),h0,rfl,z⟩;rcases IU.mp m with rfl | m
  ·exact ⟨bp,xJ hp⟩
  ·have e:s=aG q:=by simpa using m
   subst e;exact ⟨bq,xJ hq⟩
end
end My
namespace My
open PySem L2 PyProof.Rows
section
variable {P:QJ} {w:QM} {K:W.Frag} {mg:Str->Option Value} {base:Heap}
def bB (x y:Fr):Fr:=if e8 x y<0 then y else x
def aM (x y:Fr):Fr:=if e8 x y<0 then x else y
def Xu (op:Fr->Fr->Fr):iN:=λas Q=>∃x y:Fr,as=[.v (fr x),.v (fr y)]/\sz x+sz y<=7900/\Q (.v (fr (op x y))) []
abbrev tV (P w K mg base):=Fn P w K mg base 2 "later" ["one","other"] (aX K (Xu bB))
abbrev zQ:QU:=top 28
theorem Ub:aO ["one","other"] ["one","other"] (aF zQ):=g8
theorem Pa {f:QF} {fd:QK} (F:eT K "later" "later" zQ f fd) (TX:Txt mg) (TK:h9 P w K mg base)   : bJ P w K mg base fF 2 f fd ["one","other"] (aX K (Xu bB)):=by
 refine F.okT Ub ?len (λTQ A outer s H E hr=>(aK (aR (rA (fH iF (aC TK hr (by omega) rfl (fc (fv 0) (fc (fv 1) aA))) aB (bE _)) (fv 1) (fv 0))))) ?rd
 case len=>rintro as Q ⟨x,y,rfl,_⟩;rfl
 case rd=>
  rintro as Q ⟨x,y,rfl,hs,q⟩;refine ⟨x,y,rfl,hs,?_⟩;unfold bB at q;show if decide (e8 x y<0)=true then _ else _
  by_cases c:e8 x y<0
  ·rw [decide_eq_true c,if_pos rfl];rw [if_pos c] at q;exact ⟨rfl,q⟩
  ·rw [decide_eq_false c,if_neg (by decide)];rw [if_neg c] at q;exact ⟨rfl,q⟩
abbrev nW (P w K mg base):=Fn P w K mg base 2 "earlier" ["one","other"] (aX K (Xu aM))
abbrev qP:QU:=top 29
theorem Fs:aO ["one","other"] ["one","other"] (aF qP):=g8
theorem Fd {f:QF} {fd:QK} (F:eT K "earlier" "earlier" qP f fd) (TX:Txt mg) (TK:h9 P w K mg base)   : bJ P w K mg base fF 2 f fd ["one","other"] (aX K (Xu aM)):=by
 refine F.okT Fs ?len (λTQ A outer s H E hr=>(aK (aR (rA (fH iF (aC TK hr (by omega) rfl (fc (fv 0) (fc (fv 1) aA))) aB (bE _)) (fv 0) (fv 1))))) ?rd
 case len=>rintro as Q ⟨x,y,rfl,_⟩;rfl
 case rd=>
  rintro as Q ⟨x,y,rfl,hs,q⟩;refine ⟨x,y,rfl,hs,?_⟩;unfold aM at q;show if decide (e8 x y<0)=true then _ else _
  by_cases c:e8 x y<0
  ·rw [decide_eq_true c,if_pos rfl];rw [if_pos c] at q;exact ⟨rfl,q⟩
  ·rw [decide_eq_false c,if_neg (by decide)];rw [if_neg c] at q;exact ⟨rfl,q⟩
structure F2 (p:Fr):Prop where
 s:sz p<=300
 d:1<=p.2
theorem F2.later {x y:Fr} (h:F2 x) (k:F2 y):F2 (bB x y):=by unfold bB;split<;>assumption
theorem F2.earlier {x y:Fr} (h:F2 x) (k:F2 y):F2 (aM x y):=by unfold aM;split<;>assumption
theorem F2.of {n d:Int} (h:n.natAbs<2^300) (k:d.natAbs<2^300) (hd:1<=d):F2 (n,d):=⟨oE (p:=(n,d)) h k (by decide),hd⟩
theorem F2.c {x y:Fr} (h:F2 x) (k:F2 y):sz x+sz y<=7900:=by have:=h.s;have:=k.s;omega
theorem Ml:F2 (0,1):=F2.of (by decide) (by decide) (by decide)
theorem Mp:F2 (1,1):=F2.of (by decide) (by decide) (by decide)
def BB:Nat->Str
 | 0=>"in"
 | 1=>"left"
 | _=>"right"
def lQ (b e own:I3):List I3->Fr->Fr->Nat->Option (Fr×Fr×Nat)
 | [],lo,hi,h=>some (lo,hi,h)
 | l::ls,lo,hi,h=>
  if eM l b*e.2.2<=0/\eM l e*b.2.2<=0 then
   if eM l b*e.2.2<0\/eM l e*b.2.2<0 then none else lQ b e own ls lo hi (if l=own then 1 else 2)
  else if eM l b*e.2.2<0 then lQ b e own ls (bB lo (-(eM l b*e.2.2),eM l e*b.2.2-eM l b*e.2.2)) hi h
  else if eM l e*b.2.2<0 then lQ b e own ls lo (aM hi (eM l b*e.2.2,eM l b*e.2.2-eM l e*b.2.2)) h
  else lQ b e own ls lo hi h
def vL:Option (Fr×Fr×Nat)->Option (Fr×Fr×Nat)
 | none=>none
 | some r=>if e8 r.1 r.2.1<0 then some r else none
def aU (s:Sh) (g:Sg):Option (Fr×Fr×Nat):=if nU s.b g.b=true then none else vL (lQ g.p g.q g.l s.ls (0,1) (1,1) 0)
def DF:Option (Fr×Fr×Nat)->L2.T
 | none=>.non
 | some r=>.tup [fr r.1,fr r.2.1,.str (BB r.2.2)]
def yQ (r:Option (Fr×Fr×Nat)):Prop:=∀x,r=some x->F2 x.1/\F2 x.2.1
theorem Xt {l b e:I3} (hl:B3 81 l) (hb:B3 40 b) (he:B3 40 e):(eM l b*e.2.2).natAbs<2^163:=bN (Sy hl hb) he.c
theorem Ku {b e own:I3} (hb:B3 40 b) (he:B3 40 e):∀(ls:List I3) (lo hi:Fr) (h:Nat),(∀l∈ls,B3 81 l)->F2 lo->F2 hi->yQ (lQ b e own ls lo hi h)
 | [],lo,hi,h,_,f1,f2=>λx e=>by cases e;exact ⟨f1,f2⟩
 | l::ls,lo,hi,h,hl,f1,f2=>by
  have k1:=Xt (hl l (by simp)) hb he;have k2:=Xt (hl l (by simp)) he hb;have rest:=λlo hi h f1 f2=>Ku hb he ls lo hi h (λl m=>hl l (by simp [m])) f1 f2 (own:=own);unfold lQ
  split
  ·split
   ·intro x e;cases e
   ·exact rest _ _ _ f1 f2
  ·split
   ·exact rest _ _ _ (f1.later (F2.of (by rw [MJ];exact pl k1 (by decide)) (pl (jL k2 k1) (by decide)) (by omega))) f2
   ·split
    ·exact rest _ _ _ f1 (f2.earlier (F2.of (pl k1 (by decide)) (pl (jL k1 k2) (by decide)) (by omega)))
    ·exact rest _ _ _ f1 f2
theorem Hz {s:Sh} {g:Sg} (hs:∀l∈s.ls,B3 81 l) (hp:B3 40 g.p) (hq:B3 40 g.q):yQ (aU s g):=by
 unfold aU
 split
 ·intro x e;cases e
 ·have:=Ku (own:=g.l) hp hq s.ls (0,1) (1,1) 0 hs Ml Mp;intro x e;cases q:lQ g.p g.q g.l s.ls (0,1) (1,1) 0 with
  | none=>rw [q] at e;cases e
  | some r=>
   rw [q] at e;unfold vL at e;simp only at e;split at e
   ·cases e;exact this _ q
   ·cases e
theorem AY (a b:I3):iG (t3 a) (t3 b)=decide (a=b):=by
 rw [MG];simp [t3,L2.iG,L2.rM,Prod.ext_iff]
def Ax:iN:=λas Q=>∃(s:Sh) (g:Sg),as=[.v (kI s),.v (AA g)]/\(∀l∈s.ls,B3 81 l)/\B3 40 g.p/\B3 40 g.q/\B3 3000 g.l/\Q (.v (DF (aU s g))) []
abbrev t6 (P w K mg base):=Fn P w K mg base 3 "overlap" ["shape","segment"] (aX K Ax)
abbrev pK:QU:=top 27
theorem cQ:aO ["shape","segment","line","box","own","low","high","hand","begin","end","first","last"] ["shape","segment"] (aF pK):=g8
theorem Ep {f:QF} {fd:QK} (F:eT K "overlap" "overlap" pK f fd) (TX:Txt mg) (VQ:oD P w K mg base) (UO:lU P w K mg base) (VT:tV P w K mg base) (UX:nW P w K mg base) (TK:h9 P w K mg base) (WR:tW mg K "NOUGHT" (.tup [.int 0,.int 1])) (ZC:tW mg K "ONE" (.tup [.int 1,.int 1]))  : bJ P w K mg base fF 3 f fd ["shape","segment"] (aX K Ax):=by
 refine F.okT cQ ?len (λTQ A outer s H E hr=>(aE (jR (fv 1) (cE (n:=3) rfl rfl (aJ (aI (i:=3) cQ.nd rfl (IV rfl)) (aJ (cE (n:=2) rfl rfl (aJ (aI (i:=8) cQ.nd rfl (IV rfl)) (aJ (aI (i:=9) cQ.nd rfl (IV rfl)) bS))) (aJ (aI (i:=4) cQ.nd rfl (IV rfl)) bS)))))
 (aE (e9 (Of (aC VQ hr (by omega) rfl (fc (aH rfl (fv 0) aB (λ_ _=>rfl)) (fc (fv 3) aA)))) (aK (aR pU)) dH)
 (aE (Kd (i:=5) (j:=6) (k:=7) rfl cQ.nd rfl rfl rfl (by decide) (by decide) (by decide) rfl rfl rfl (fc (sC rfl WR) (fc (sC rfl ZC) (fc iH aA))) rfl)
 (aE (gY PassesOwn.never rfl (qI rfl (aH rfl (fv 0) aB (λ_ _=>rfl))) (aI (i:=2) cQ.nd rfl (IV rfl))
  (aE (jY (i:=10) (j:=11) rfl cQ.nd rfl rfl (by decide) rfl rfl (fc (aN aS (aC UO hr (by omega) rfl (fc (fv 2) (fc (fv 8) aA))) (aH rfl (fv 9) aB (λ_ _=>rfl))) (fc (aN aS (aC UO hr (by omega) rfl (fc (fv 2) (fc (fv 9) aA))) (aH rfl (fv 8) aB (λ_ _=>rfl))) aA)) rfl)
 (aK (e9 (Ls (Qj (fH F9 (fv 10) aB (bE _)) (La (fH F9 (fv 11) aB (bE _))))) (aE (e9 (Ls (Gy (fH iF (fv 10) aB (bE _)) (yF (fH iF (fv 11) aB (bE _))))) (aK (aR pU)) dH)
 (aK (bD (i:=7) cQ.nd rfl (IV rfl) (rA (vY rfl hr (fv 2) (fv 4) (bE _)) iH iH)))) (aK (e9 (fH iF (fv 10) aB (bE _)) (aK (bD (i:=5) cQ.nd rfl (IV rfl) (aC VT hr (by omega) rfl (fc (fv 5) (fc (aL (fc (sJ (fv 10)) (fc (bA iJ (fv 11) (fv 10)) aA))) aA))))) (aK (e9 (fH iF (fv 11) aB (bE _)) (aK (bD (i:=6) cQ.nd rfl (IV rfl) (aC UX hr (by omega) rfl (fc (fv 6) (fc (aL (fc (fv 10) (fc (bA iJ (fv 10) (fv 11)) aA))) aA))))) dH))))))))
 (aK (aR (rA (fH iF (aC TK hr (by omega) rfl (fc (fv 5) (fc (fv 6) aA))) aB (bE _)) (aL (fc (fv 5) (fc (fv 6) (fc (fv 7) aA)))) pU)))))))) ?rd
 case len=>rintro as Q ⟨s,g,rfl,_⟩;rfl
 case rd=>
  rintro as Q ⟨s,g,rfl,hs,hp,hq,hl,q⟩;refine ⟨_,_,rfl,?_⟩;unfold aU at q;show if nU s.b g.b=true then _ else _
  by_cases c:nU s.b g.b=true
  ·rw [if_pos c];rw [if_pos c] at q;exact ⟨rfl,q⟩
  rw [if_neg c];rw [if_neg c] at q;refine gH (f:=t3) (λs':Fr×Fr×Nat×Option U×Option U×Option U=>[some (.p (kI s)),some (.p (AA g)),s'.2.2.2.1,some (.p (t4 g.b)),some (.p (t3 g.l)),some (.p (fr s'.1)),some (.p (fr s'.2.1)),some (.p (.str (BB s'.2.2.1))),some (.p (t3 g.p)),some (.p (t3 g.q)),s'.2.2.2.2.1,s'.2.2.2.2.2])
   (λls s'=>(∀l∈ls,B3 81 l)/\F2 s'.1/\F2 s'.2.1/\Q (.v (DF (vL (lQ g.p g.q g.l ls s'.1 s'.2.1 s'.2.2.1)))) []) ?_ ?_ s.ls ((0,1),(1,1),0,none,none,none) ⟨hs,Ml,Mp,q⟩
  ·rintro l ls ⟨lo,hi,h,v2,v10,v11⟩ rest ⟨iy,f1,f2,z⟩ K;have aj:=(iy l (by simp)).up (show 81<=3000 by decide);have lr:=hp.up (show 40<=3000 by decide);have XU:=hq.up (show 40<=3000 by decide);have k1:=Xt (iy l (by simp)) hp hq;have k2:=Xt (iy l (by simp)) hq hp;have UN:∀m∈ls,B3 81 m:=λm hm=>iy m (by simp [hm]);refine ⟨l,g.p,rfl,aj,lr,eZ (e:=123) (Sy (iy l (by simp)) hp) (pl hq.c (by decide)) (by decide),l,g.q,rfl,aj,XU,eZ (e:=123) (Sy (iy l (by simp)) hq) (pl hp.c (by decide)) (by decide),?_⟩;simp only [lQ] at z;generalize ef:eM l g.p*g.q.2.2=a at z k1 k2 ⊢;generalize eg:eM l g.q*g.p.2.2=b at z k1 k2 ⊢;have fa:1<=b-a->F2 (-a,b-a):=F2.of (by rw [MJ];exact pl k1 (by decide)) (pl (jL k2 k1) (by decide));have fb:1<=a-b->F2 (a,a-b):=F2.of (pl k1 (by decide)) (pl (jL k1 k2) (by decide));show if decide (a<=0)=true then _ else _
   by_cases c1:a<=0
   ·rw [decide_eq_true c1,if_pos rfl];show if decide (b<=0)=true then _ else _
    by_cases c2:b<=0
    ·rw [decide_eq_true c2,if_pos rfl];rw [if_pos ⟨c1,c2⟩] at z;show if decide (a<0)=true then _ else _
     by_cases c3:a<0
     ·rw [decide_eq_true c3,if_pos rfl,if_pos rfl];rw [if_pos (.inl c3)] at z;exact ⟨rfl,z⟩
     ·rw [decide_eq_false c3,if_neg (by decide)];show if decide (b<0)=true then _ else _
      by_cases c4:b<0
      ·rw [decide_eq_true c4,if_pos rfl];rw [if_pos (.inr c4)] at z;exact ⟨rfl,z⟩
      ·rw [decide_eq_false c4,if_neg (by decide)];rw [if_neg (λw=>w.elim c3 c4)] at z;refine ⟨iC rfl,?_⟩;show if iG (t3 l) (t3 g.l)=true then _ else _;rw [AY]
       by_cases c5:l=g.l
       ·rw [decide_eq_true c5,if_pos rfl];rw [if_pos c5] at z;exact K (lo,hi,1,some (.p (t3 l)),some (.p (.int a)),some (.p (.int b))) ⟨UN,f1,f2,z⟩
       ·rw [decide_eq_false c5,if_neg (by decide)];rw [if_neg c5] at z;exact K (lo,hi,2,some (.p (t3 l)),some (.p (.int a)),some (.p (.int b))) ⟨UN,f1,f2,z⟩
    ·rw [decide_eq_false c2,if_neg (by decide)];rw [if_neg (λw=>c2 w.2)] at z;show if decide (a<0)=true then _ else _
     by_cases c3:a<0
     ·rw [decide_eq_true c3,if_pos rfl];rw [if_pos c3] at z;exact ⟨_,_,rfl,f1.c (fa (by omega)),K (_,hi,h,_,_,_) ⟨UN,f1.later (fa (by omega)),f2,z⟩⟩
     ·rw [decide_eq_false c3,if_neg (by decide)];rw [if_neg c3] at z;show if decide (b<0)=true then _ else _;rw [decide_eq_false (by omega),if_neg (by decide)];rw [if_neg (by omega)] at z;exact K (lo,hi,h,_,_,_) ⟨UN,f1,f2,z⟩
   ·rw [decide_eq_false c1,if_neg (by decide),if_neg (by decide)];rw [if_neg (λw=>c1 w.1),if_neg (by omega)] at z;show if decide (a<0)=true then _ else _;rw [decide_eq_false (by omega),if_neg (by decide)];show if decide (b<0)=true then _ else _
    by_cases c3:b<0
    ·rw [decide_eq_true c3,if_pos rfl];rw [if_pos c3] at z;exact ⟨_,_,rfl,f2.c (fb (by omega)),K (lo,_,h,_,_,_) ⟨UN,f1,f2.earlier (fb (by omega)),z⟩⟩
    ·rw [decide_eq_false c3,if_neg (by decide)];rw [if_neg c3] at z;exact K (lo,hi,h,_,_,_) ⟨UN,f1,f2,z⟩
  ·rintro ⟨lo,hi,h,v2,v10,v11⟩ ⟨_,f1,f2,z⟩;refine ⟨lo,hi,rfl,f1.c f2,?_⟩;simp only [lQ,vL] at z;show if decide (e8 lo hi<0)=true then _ else _
   by_cases c:e8 lo hi<0
   ·rw [decide_eq_true c,if_pos rfl];rw [if_pos c] at z;exact ⟨rfl,z⟩
   ·rw [decide_eq_false c,if_neg (by decide)];rw [if_neg c] at z;exact ⟨rfl,z⟩
end
end My
namespace My
open PySem L2 PyProof.Rows
section
variable {P:QJ} {w:QM} {K:W.Frag} {mg:Str->Option Value} {base:Heap}
abbrev j3:=Fr×Fr×Bool
def IF:Bool->L2.T
 | false=>.non
 | true=>.bl true
def nP (r:j3):L2.T:=.tup [fr r.1,fr r.2.1,IF r.2.2]
def sH (lo hi:Fr) (r:j3):List j3:=
 if r.2.2=true then [r] else if 0<=e8 (bB r.1 lo) (aM r.2.1 hi) then [r] else
  (if e8 r.1 (bB r.1 lo)<0 then [(r.1,bB r.1 lo,false)] else [])++[(bB r.1 lo,aM r.2.1 hi,true)]++(if e8 (aM r.2.1 hi) r.2.1<0 then [(aM r.2.1 hi,r.2.1,false)] else [])
def bU (rows:List j3) (lo hi:Fr):List j3:=rows.flatMap (sH lo hi)
def jG (rows:List j3):Prop:=∀r∈rows,F2 r.1/\F2 r.2.1
theorem Vt {lo hi:Fr} {r:j3} (h:F2 r.1/\F2 r.2.1) (hl:F2 lo) (hh:F2 hi):jG (sH lo hi r):=by
 have f1:=h.1.later hl;have f2:=h.2.earlier hh;unfold sH;intro x m;split at m
 ·have e:x=r:=by simpa using m
  subst e;exact h
 ·split at m
  ·have e:x=r:=by simpa using m
   subst e;exact h
  ·rcases JJ.mp m with m | m
   ·rcases JJ.mp m with m | m
    ·split at m
     ·have e:=JB.mp m;subst e;exact ⟨h.1,f1⟩
     ·simp at m
    ·have e:=JB.mp m;subst e;exact ⟨f1,f2⟩
   ·split at m
    ·have e:=JB.mp m;subst e;exact ⟨f2,h.2⟩
    ·simp at m
theorem fT {rows:List j3} {lo hi:Fr} (h:jG rows) (hl:F2 lo) (hh:F2 hi):jG (bU rows lo hi):=λx m=>by
 obtain ⟨r,mr,m⟩:=KQ.mp m;exact Vt (h r mr) hl hh x m
theorem j6:∀(a b:List L2.T),d9 (a++b)=(d9 a&&d9 b)
 | [],b=>rfl
 | x::a,b=>by rw [List.cons_append,d9,d9,j6 a b,Bool.and_assoc]
theorem K6 (r:j3):noL (nP r)=true:=by
 obtain ⟨a,b,c⟩:=r;cases c<;>rfl
def Jf:iN:=λas Q=>∃(rows:List j3) (lo hi:Fr),as=[.v (.lst (rows.map nP)),.v (fr lo),.v (fr hi),.v (.bl true)]/\rows.length<=300/\jG rows/\F2 lo/\F2 hi/\Q (.l ((bU rows lo hi).map nP)) []
abbrev vR (P w K mg base):=Fn P w K mg base 3 "parted" ["rows","low","high","name"] (aX K Jf)
abbrev uA:QU:=top 30
theorem iY:aO ["rows","low","high","name","found","begin","end","given","first","last"] ["rows","low","high","name"] (aF uA):=g8
theorem Ln {f:QF} {fd:QK} (F:eT K "parted" "parted" uA f fd) (TX:Txt mg) (VT:tV P w K mg base) (UX:nW P w K mg base) (TK:h9 P w K mg base)   : bJ P w K mg base fF 3 f fd ["rows","low","high","name"] (aX K Jf):=by
 refine F.okT iY ?len (λTQ A outer s H E hr=>(aE (bD (i:=4) iY.nd rfl (IV rfl) (d8 aA))
 (aE (gY PassesOwn.never rfl (dF rfl (fv 0)) (cE (n:=3) rfl rfl (aJ (aI (i:=5) iY.nd rfl (IV rfl)) (aJ (aI (i:=6) iY.nd rfl (IV rfl)) (aJ (aI (i:=7) iY.nd rfl (IV rfl)) bS))))
  (aE (jY (i:=8) (j:=9) rfl iY.nd rfl rfl (by decide) rfl rfl (fc (aC VT hr (by omega) rfl (fc (fv 5) (fc (fv 1) aA))) (fc (aC UX hr (by omega) rfl (fc (fv 6) (fc (fv 2) aA))) aA)) rfl)
 (aE (e9 (Ls (Gy (Xw (fv 7) (bE _)) (yF (fH Oi (aC TK hr (by omega) rfl (fc (fv 8) (fc (fv 9) aA))) aB (bE _))))) (aE (gG (fX rfl (fv 4) (fc (aL (fc (fv 5) (fc (fv 6) (fc (fv 7) aA)))) aA)))
 (aK Hh)) dH)
 (aE (e9 (fH iF (aC TK hr (by omega) rfl (fc (fv 5) (fc (fv 8) aA))) aB (bE _)) (aK (gG (fX rfl (fv 4) (fc (aL (fc (fv 5) (fc (fv 8) (fc pU aA)))) aA)))) dH)
 (aE (gG (fX rfl (fv 4) (fc (aL (fc (fv 8) (fc (fv 9) (fc (fv 3) aA)))) aA)))
 (aK (e9 (fH iF (aC TK hr (by omega) rfl (fc (fv 9) (fc (fv 6) aA))) aB (bE _)) (aK (gG (fX rfl (fv 4) (fc (aL (fc (fv 9) (fc (fv 6) (fc pU aA)))) aA)))) dH)))))))
 (aK (aR (fv 4)))))) ?rd
 case len=>rintro as Q ⟨rows,lo,hi,rfl,_⟩;rfl
 case rd=>
  rintro as Q ⟨rows,lo,hi,rfl,hl,hr,h1,h2,q⟩;refine gH (f:=nP) (λs':List L2.T×Option U×Option U×Option U×Option U×Option U=>[some (.p (.lst (rows.map nP))),some (.p (fr lo)),some (.p (fr hi)),some (.p (.bl true)),some (.o false s'.1),s'.2.1,s'.2.2.1,s'.2.2.2.1,s'.2.2.2.2.1,s'.2.2.2.2.2])
   (λrs s'=>jG rs/\s'.1.length+3*rs.length<=900/\d9 s'.1=true/\Q (.l (s'.1++(bU rs lo hi).map nP)) []) ?_ ?_ rows ([],none,none,none,none,none) ⟨hr,by simp;omega,rfl,q⟩
  ·rintro r rs ⟨acc,v5,v6,v7,v8,v9⟩ rest ⟨hrs,hn,WE,z⟩ K;have fq:=hrs r (by simp);have UN:jG rs:=λx m=>hrs x (by simp [m]);have f1:=fq.1.later h1;have f2:=fq.2.earlier h2;simp only [JE] at hn;replace z:Q (.l (acc++(sH lo hi r++bU rs lo hi).map nP)) []:=z;rw [KU] at z;unfold sH at z;refine ⟨_,_,rfl,fq.1.c h1,_,_,rfl,fq.2.c h2,?_⟩;generalize ea:bB r.1 lo=a at z f1 ⊢;generalize eb:aM r.2.1 hi=b at z f2 ⊢;obtain ⟨rb,re,rg⟩:=r;simp only at z f1 f2 fq ea eb hn;have ja:∀(L:List L2.T) (x:j3),d9 L=true->d9 (L++[nP x])=true:=λL x h=>by rw [j6,h,d9,K6];rfl
   have l1:∀(x:L2.T),(acc++[x]).length<=1000:=λx=>by rw [IY,KZ];omega
   cases rg with
   | true=>
    rw [if_pos rfl] at z;exact ⟨l1 _,K (acc++[nP (rb,re,true)],some (.p (fr rb)),some (.p (fr re)),some (.p (.bl true)),some (.p (fr a)),some (.p (fr b))) ⟨UN,by simp;omega,ja _ _ WE,by rw [IZ];exact z⟩⟩
   | false=>
    rw [if_neg (by decide)] at z;refine ⟨_,_,rfl,f1.c f2,?_⟩;show if decide (0<=e8 a b)=true then _ else _
    by_cases c:0<=e8 a b
    ·rw [decide_eq_true c,if_pos rfl];rw [if_pos c] at z;exact ⟨l1 _,K (acc++[nP (rb,re,false)],some (.p (fr rb)),some (.p (fr re)),some (.p .non),some (.p (fr a)),some (.p (fr b))) ⟨UN,by simp;omega,ja _ _ WE,by rw [IZ];exact z⟩⟩
    rw [decide_eq_false c,if_neg (by decide)];rw [if_neg c] at z;refine ⟨_,_,rfl,fq.1.c f1,?_⟩;show if decide (e8 rb a<0)=true then _ else _
    -- the tail,whatever was put in ahead
    have tail:∀(L:List L2.T),L.length<=acc.length+1->d9 L=true->Q (.l (L++([(a,b,true)]++(if e8 b re<0 then [(b,re,false)] else [])).map nP++(bU rs lo hi).map nP)) []->(L++[nP (a,b,true)]).length<=1000/\sz b+sz re<=7900/\
      (if e8 b re<0 then ((L++[nP (a,b,true)])++[nP (b,re,false)]).length<=1000/\d9 ((L++[nP (a,b,true)])++[nP (b,re,false)])=true/\((L++[nP (a,b,true)])++[nP (b,re,false)]).length+3*rs.length<=900/\Q (.l (((L++[nP (a,b,true)])++[nP (b,re,false)])++(bU rs lo hi).map nP)) []
       else d9 (L++[nP (a,b,true)])=true/\(L++[nP (a,b,true)]).length+3*rs.length<=900/\Q (.l ((L++[nP (a,b,true)])++(bU rs lo hi).map nP)) []):=λL hL hN w=>by
     refine ⟨by rw [IY,KZ];omega,f2.c fq.2,?_⟩
     by_cases c3:e8 b re<0
     ·rw [if_pos c3];rw [if_pos c3] at w;simp only [IY,KZ];refine ⟨by omega,ja _ _ (ja _ _ hN),by omega,?_⟩
      simpa using w
     ·rw [if_neg c3];rw [if_neg c3] at w;simp only [IY,KZ];exact ⟨ja _ _ hN,by omega,by simpa using w⟩
    by_cases c2:e8 rb a<0
    ·rw [decide_eq_true c2,if_pos rfl];rw [if_pos c2] at z;obtain ⟨t1,t2,XF⟩:=tail (acc++[nP (rb,a,false)]) (by simp) (ja _ _ WE) (by simpa using z);refine ⟨l1 _,t1,_,_,rfl,t2,?_⟩;show if decide (e8 b re<0)=true then _ else _
     by_cases c3:e8 b re<0
     ·rw [decide_eq_true c3,if_pos rfl];rw [if_pos c3] at XF;exact ⟨XF.1,K (_,some (.p (fr rb)),some (.p (fr re)),some (.p .non),some (.p (fr a)),some (.p (fr b))) ⟨UN,XF.2.2.1,XF.2.1,XF.2.2.2⟩⟩
     ·rw [decide_eq_false c3,if_neg (by decide)];rw [if_neg c3] at XF;exact K (_,some (.p (fr rb)),some (.p (fr re)),some (.p .non),some (.p (fr a)),some (.p (fr b))) ⟨UN,XF.2.1,XF.1,XF.2.2⟩
    ·rw [decide_eq_false c2,if_neg (by decide)];rw [if_neg c2] at z;obtain ⟨t1,t2,XF⟩:=tail acc (by simp) WE (by simpa using z);refine ⟨t1,_,_,rfl,t2,?_⟩;show if decide (e8 b re<0)=true then _ else _
     by_cases c3:e8 b re<0
     ·rw [decide_eq_true c3,if_pos rfl];rw [if_pos c3] at XF;exact ⟨XF.1,K (_,some (.p (fr rb)),some (.p (fr re)),some (.p .non),some (.p (fr a)),some (.p (fr b))) ⟨UN,XF.2.2.1,XF.2.1,XF.2.2.2⟩⟩
     ·rw [decide_eq_false c3,if_neg (by decide)];rw [if_neg c3] at XF;exact K (_,some (.p (fr rb)),some (.p (fr re)),some (.p .non),some (.p (fr a)),some (.p (fr b))) ⟨UN,XF.2.1,XF.1,XF.2.2⟩
  ·rintro ⟨acc,v5,v6,v7,v8,v9⟩ ⟨_,_,WE,z⟩;refine ⟨WE,?_⟩;have e:acc++(bU [] lo hi).map nP=acc:=by simp [bU]
   rw [e] at z;exact z
end
end My
namespace My
open PySem L2 PyProof.Rows
section
variable {P:QJ} {w:QM} {K:W.Frag} {mg:Str->Option Value} {base:Heap}
abbrev Q2:=Rat×Rat
abbrev Eg:=Q2×Q2
def crs (u v:Q2):Rat:=u.1*v.2-u.2*v.1
def aT (u v:Q2):Rat:=u.1*v.1+u.2*v.2
def aV (p q:Q2):Q2:=(p.1-q.1,p.2-q.2)
def aP (e:Eg):Q2:=aV e.2 e.1
def fE (e:Eg) (x:Q2):Rat:=crs (aP e) (aV x e.1)
def fV (p q:Q2) (t:Rat):Q2:=(p.1+(q.1-p.1)*t,p.2+(q.2-p.2)*t)
theorem m9 (e:Eg) (p q:Q2) (t:Rat):fE e (fV p q t)=fE e p+(fE e q-fE e p)*t:=by
 unfold fE crs aP aV fV;grind
def wJ (es:List Eg) (x:Q2):Prop:=∀e∈es,0<=fE e x
structure HQ (e:Eg) (x:Q2):Prop where
 z:fE e x=0
 a:0<=aT (aP e) (aV x e.1)
 b:0<=aT (aP e) (aV e.2 x)
structure Cx (es:List Eg):Prop where
 inn:∀e∈es,∀g∈es,0<=fE e g.1
 thick:∀e∈es,∃g∈es,0<fE e g.1
 ne:∀e∈es,0<aT (aP e) (aP e)
 nx:∀e∈es,∃g∈es,g.1=e.2/\(0<crs (aP e) (aP g)\/(crs (aP e) (aP g)=0/\0<aT (aP e) (aP g)/\∃h∈es,h.1=g.2/\0<crs (aP g) (aP h)))
 pv:∀e∈es,∃g∈es,g.2=e.1/\(0<crs (aP g) (aP e)\/(crs (aP g) (aP e)=0/\0<aT (aP g) (aP e)/\∃h∈es,h.2=g.1/\0<crs (aP h) (aP g)))
theorem sM {a b:Rat} (h:0<b):0<a*b↔0<a:=⟨bH h,λk=>Rat.mul_pos k h⟩
theorem Fg {a b:Rat} (h:0<b):0<=a*b↔0<=a:=⟨dC h,λk=>Rat.mul_nonneg k (Rat.le_of_lt h)⟩
theorem Wo {a b:Rat} (h:a<0) (k:0<b):a*b<0:=by
 have:=Rat.mul_pos (a:=-a) (b:=b) (by grind) k;grind
theorem par {u d:Q2} (hu:0<aT u u) (h:crs u d=0):d.1*aT u u=aT u d*u.1/\d.2*aT u u=aT u d*u.2:=by
 unfold crs at h;unfold aT;constructor
 ·have:u.2*(u.1*d.2-u.2*d.1)=0:=by rw [h];grind
  grind
 ·have:u.1*(u.1*d.2-u.2*d.1)=0:=by rw [h];grind
  grind
theorem jP {u d w:Q2} (hu:0<aT u u) (h:crs u d=0):crs w d*aT u u=aT u d*crs w u:=by
 obtain ⟨a,b⟩:=par hu h;unfold crs;grind
theorem Fl {u d w:Q2} (hu:0<aT u u) (h:crs u d=0):aT w d*aT u u=aT u d*aT w u:=by
 obtain ⟨a,b⟩:=par hu h;unfold aT at a b ⊢;grind
theorem Up {u w d:Q2} (hu:0<aT u u) (h:crs u d=0) (k:0<aT u d) (t:0<crs u w):crs w d<0:=by
 have e:=jP (w:=w) hu h;have s:crs w u = - crs u w:=by unfold crs;grind
 rw [s] at e;have m:=Rat.mul_pos k t;have:0 < -(crs w d)*aT u u:=by grind
 have:=bH hu this;grind
theorem Sz {u w d:Q2} (hu:0<aT u u) (h:crs u d=0) (k:aT u d<0) (t:0<crs w u):crs w d<0:=by
 have e:=jP (w:=w) hu h;have m:=Wo k t;have:0 < -(crs w d)*aT u u:=by grind
 have:=bH hu this;grind
theorem Oz {e g:Eg} (hu:0<aT (aP e) (aP e)) (c:crs (aP e) (aP g)=0) (d:0<aT (aP e) (aP g)) (z:fE e g.1=0):∃r:Rat,0<r/\∀y,fE g y=r*fE e y:=by
 obtain ⟨a,b⟩:=par hu c;have n0:aT (aP e) (aP e)≠0:=by grind
 refine ⟨aT (aP e) (aP g)/aT (aP e) (aP e),by rw [Rat.div_def];exact Rat.mul_pos d (Rat.inv_pos.mpr hu),λy=>?_⟩;have k1:fE e y-fE e g.1=crs (aP e) (aV y g.1):=by unfold fE crs aV;grind
 rw [z] at k1;have k2:fE g y*aT (aP e) (aP e)=aT (aP e) (aP g)*crs (aP e) (aV y g.1):=by unfold fE crs;grind
 rw [<-k1] at k2;grind
theorem Cx.on {es:List Eg} (h:Cx es) {e:Eg} {x:Q2} (he:e∈es) (h0:fE e x=0) (hx:wJ es x):∃g∈es,HQ g x/\∃r:Rat,0<r/\∀y,fE g y=r*fE e y:=by
 have ne:=h.ne e he;have z2:crs (aP e) (aV x e.2)=0:=by rw [<-h0];unfold fE crs aP aV;grind
 by_cases hb:0<=aT (aP e) (aV e.2 x)
 ·by_cases ha:0<=aT (aP e) (aV x e.1)
  ·exact ⟨e,he,⟨h0,ha,hb⟩,1,by decide,λy=>by grind⟩
  ·obtain ⟨g,hg,eg,c⟩:=h.pv e he;have ka:aT (aP e) (aV x e.1)<0:=by grind
   have fg:fE g x=crs (aP g) (aV x e.1):=by rw [<-eg];unfold fE crs aP aV;grind
   rcases c with c | ⟨c,d,k,hk,ek,t⟩
   ·have:=Sz ne (show crs (aP e) (aV x e.1)=0 from h0) ka c;have:=hx g hg;grind
   ·have c':crs (aP e) (aP g)=0:=by unfold crs at c ⊢;grind
    have d':0<aT (aP e) (aP g):=by unfold aT at d ⊢;grind
    have zg:fE e g.1=0:=by
     have:fE e g.1 = - crs (aP e) (aP g):=by unfold fE crs aP aV;rw [eg];grind
     rw [this,c'];rfl
    obtain ⟨r,r0,hr⟩:=Oz ne c' d' zg;have ng:=h.ne g hg;have zx:fE g x=0:=by rw [hr,h0];grind
    have e1:=Fl (u:=aP e) (d:=aP g) (w:=aV e.1 x) ne c';have kb:0<aT (aP g) (aV g.2 x):=by
     have s1:aT (aP g) (aV g.2 x)=aT (aV e.1 x) (aP g):=by rw [eg];unfold aT;grind
     have s2:aT (aV e.1 x) (aP e) = -aT (aP e) (aV x e.1):=by unfold aT aV;grind
     rw [s2] at e1;have:=Rat.mul_pos d' (show 0 < -aT (aP e) (aV x e.1) by grind);rw [s1];exact bH ne (by grind)
    refine ⟨g,hg,⟨zx,?_,Rat.le_of_lt kb⟩,r,r0,hr⟩
    by_cases hc:0<=aT (aP g) (aV x g.1)
    ·exact hc
    ·have kk:=Sz ng (show crs (aP g) (aV x g.1)=0 from zx) (by grind) t;have fk:fE k x=crs (aP k) (aV x g.1):=by rw [<-ek];unfold fE crs aP aV;grind
     have:=hx k hk;grind
 ·obtain ⟨g,hg,eg,c⟩:=h.nx e he;have kb:0<aT (aP e) (aV x e.2):=by
   have:aT (aP e) (aV x e.2) = - aT (aP e) (aV e.2 x):=by unfold aT aV;grind
   grind
  have fg:fE g x=crs (aP g) (aV x e.2):=by rw [<-eg];rfl
  rcases c with c | ⟨c,d,k,hk,ek,t⟩
  ·have:=Up ne z2 kb c;have:=hx g hg;grind
  ·have zg:fE e g.1=0:=by
    rw [eg];unfold fE crs aP aV;grind
   obtain ⟨r,r0,hr⟩:=Oz ne c d zg;have ng:=h.ne g hg;have zx:fE g x=0:=by rw [hr,h0];grind
   have e1:=Fl (u:=aP e) (d:=aP g) (w:=aV x e.2) ne c;have ka:0<aT (aP g) (aV x g.1):=by
    have s1:aT (aP g) (aV x g.1)=aT (aV x e.2) (aP g):=by rw [eg];unfold aT;grind
    have s2:aT (aV x e.2) (aP e)=aT (aP e) (aV x e.2):=by unfold aT;grind
    rw [s2] at e1;have:=Rat.mul_pos d kb;rw [s1];exact bH ne (by grind)
   refine ⟨g,hg,⟨zx,Rat.le_of_lt ka,?_⟩,r,r0,hr⟩
   by_cases hc:0<=aT (aP g) (aV g.2 x)
   ·exact hc
   ·have z3:crs (aP g) (aV x g.2)=0:=by rw [<-zx];unfold fE crs aP aV;grind
    have k3:0<aT (aP g) (aV x g.2):=by
     have:aT (aP g) (aV x g.2) = - aT (aP g) (aV g.2 x):=by unfold aT aV;grind
     grind
    have kk:=Up ng z3 k3 t;have fk:fE k x=crs (aP k) (aV x g.2):=by rw [<-ek];rfl
    have:=hx k hk;grind
theorem xM {α:Type} (f:α->Rat):∀(xs:List α),xs≠[]->∃x∈xs,∀y∈xs,f y<=f x
 | [],h=>absurd rfl h
 | [x],_=>⟨x,by simp,λy m=>by rw [JB] at m;rw [m];grind⟩
 | x::z::r,_=>by
  obtain ⟨m,hm,k⟩:=xM f (z::r) (by simp)
  by_cases c:f x<=f m
  ·exact ⟨m,by simp [hm],λy hy=>by
    rcases IU.mp hy with rfl | hy
    ·exact c
    ·exact k y hy⟩
  ·exact ⟨x,by simp,λy hy=>by
    rcases IU.mp hy with rfl | hy
    ·grind
    ·have:=k y hy;grind⟩
theorem Cx.far {es:List Eg} (h:Cx es) (n0:es≠[]) (w:Q2):∃e∈es,∃g∈es,e.2=g.1/\0<crs (aP e) (aP g)/\∀k∈es,aT w k.1<=aT w g.1:=by
 obtain ⟨g,hg,mx⟩:=xM (λe:Eg=>aT w e.1) es n0;obtain ⟨e,he,eg,c⟩:=h.pv g hg;rcases c with c | ⟨c,d,k,hk,ek,t⟩
 ·exact ⟨e,he,g,hg,eg,c,mx⟩
 ·refine ⟨k,hk,e,he,ek,t,λy hy=>?_⟩;obtain ⟨n,hn,en,_⟩:=h.nx g hg;have a2:aT w n.1<=aT w g.1:=mx n hn;rw [en] at a2;have c':crs (aP e) (aP g)=0:=c;have e1:=Fl (u:=aP e) (d:=aP g) (w:=w) (h.ne e he) c';have b1:aT w (aP e)=aT w g.1-aT w e.1:=by rw [<-eg];unfold aT aP aV;grind
  have b2:aT w (aP g)=aT w g.2-aT w g.1:=by unfold aT aP aV;grind
  have b3:aT w (aP e)<=0:=by
   refine Rat.not_lt.mp λq=>?_;have:=Rat.mul_pos d q;rw [<-e1] at this;have:=bH (h.ne e he) this;grind
  have:aT w y.1<=aT w g.1:=mx y hy;grind
theorem Cx.box {es:List Eg} (h:Cx es) (n0:es≠[]) (w:Q2) {x:Q2} (hx:wJ es x):∃g∈es,aT w x<=aT w g.1:=by
 obtain ⟨e,he,g,hg,eg,t,mx⟩:=h.far n0 w;refine ⟨g,hg,?_⟩;have f1:=hx e he;have f2:=hx g hg;obtain ⟨n,hn,en,_⟩:=h.nx g hg;have a1:=mx e he;have a2:=mx n hn;rw [en] at a2;have k1:fE e x=crs (aP e) (aV x g.1):=by rw [<-eg];unfold fE crs aP aV;grind
 have k2:fE g x=crs (aP g) (aV x g.1):=rfl;rw [k1] at f1;rw [k2] at f2;have id1:(aT w x-aT w g.1)*crs (aP e) (aP g) = -((aT w g.1-aT w e.1)*crs (aP g) (aV x g.1))+(aT w g.2-aT w g.1)*crs (aP e) (aV x g.1):=by
  rw [show g.1=e.2 from eg.symm];unfold aT crs aP aV;grind
 have m1:=Rat.mul_nonneg (show 0<=aT w g.1-aT w e.1 by grind) f2;have m2:=Rat.mul_nonneg (show 0<=aT w g.1-aT w g.2 by grind) f1;refine Rat.not_lt.mp λq=>?_;have:=Rat.mul_pos (show 0<aT w x-aT w g.1 by grind) t;grind
theorem Cx.orient {es:List Eg} (h:Cx es) {p q:Q2} {e g:Eg} (he:e∈es) (hg:g∈es) (e1:fE e p=0) (e2:fE e q=0) (g1:fE g p=0) (g2:fE g q=0) (hp:0<aT (aV q p) (aV q p)) (k:0<aT (aP e) (aV q p)):0<aT (aP g) (aV q p):=by
 have key:∀e:Eg,fE e p=0->fE e q=0->∀y,fE e y*aT (aV q p) (aV q p)=aT (aP e) (aV q p)*crs (aV q p) (aV y p):=λe z1 z2 y=>by
  have c:crs (aV q p) (aP e)=0:=by
   have:crs (aV q p) (aP e)=fE e p-fE e q:=by unfold fE crs aP aV;grind
   rw [this,z1,z2];grind
  obtain ⟨a,b⟩:=par hp c;have s:fE e y=fE e y-fE e p:=by rw [z1];grind
  have s2:fE e y-fE e p=crs (aP e) (aV y p):=by unfold fE crs aV;grind
  rw [s,s2];have s3:aT (aV q p) (aP e)=aT (aP e) (aV q p):=by unfold aT;grind
  rw [s3] at a b;unfold crs at *;grind
 obtain ⟨y,hy,fy⟩:=h.thick e he;obtain ⟨y',hy',fy'⟩:=h.thick g hg;have a1:=key e e1 e2 y.1;have b1:=key g g1 g2 y.1;have b2:=key g g1 g2 y'.1;have i1:=h.inn g hg y hy;have m1:=Rat.mul_pos fy hp;rw [a1] at m1;have c0:0<crs (aV q p) (aV y.1 p):=by
  refine bH k ?_;grind
 have m2:=Rat.mul_nonneg i1 (Rat.le_of_lt hp);rw [b1] at m2;have d0:=dC c0 m2;have m3:=Rat.mul_pos fy' hp;rw [b2] at m3
 by_cases z:aT (aP g) (aV q p)=0
 ·rw [z] at m3;grind
 ·grind
end
end My
namespace My
open PySem L2 PyProof.Rows
section
variable {P:QJ} {w:QM} {K:W.Frag} {mg:Str->Option Value} {base:Heap}
theorem dR {p:Fr} (h:1<=p.2):(0:Rat)<(p.2:Rat):=by exact_mod_cast (show (0:Int)<p.2 by omega)
theorem vd {p:Fr} (h:1<=p.2):val p*(p.2:Rat)=(p.1:Rat):=by have:=dR h;unfold val;grind
theorem HW {p:Fr} {t:Rat} (h:1<=p.2):val p<=t↔(p.1:Rat)<=t*(p.2:Rat):=by
 have d:=dR h;have e:=vd h;have:0<=(t-val p)*(p.2:Rat)↔0<=t-val p:=Fg d;grind
theorem IH {p:Fr} {t:Rat} (h:1<=p.2):t<=val p↔t*(p.2:Rat)<=(p.1:Rat):=by
 have d:=dR h;have e:=vd h;have:0<=(val p-t)*(p.2:Rat)↔0<=val p-t:=Fg d;grind
theorem gT {x y:Fr} (hx:1<=x.2) (hy:1<=y.2):e8 x y<0↔val x<val y:=by
 have d1:=dR hx;have d2:=dR hy;have e1:=vd hx;have e2:=vd hy;have k:val x<val y↔x.1*y.2<y.1*x.2:=by
  have m:=Rat.mul_pos d1 d2;have i1:(val y-val x)*((x.2:Rat)*(y.2:Rat))=(y.1:Rat)*x.2-(x.1:Rat)*y.2:=by grind
  have i2:=sM (a:=val y-val x) m;rw [i1] at i2;have i3:(x.1:Rat)*y.2<(y.1:Rat)*x.2↔x.1*y.2<y.1*x.2:=by norm_cast
  rw [<-i3];grind
 rw [k];unfold e8
 split
 ·simp [*]
 ·split<;>simp [*]
theorem Cg (x y:Fr):bB x y=x\/bB x y=y:=by unfold bB;split<;>simp
theorem Ex (x y:Fr):aM x y=x\/aM x y=y:=by unfold aM;split<;>simp
theorem Jq {x y:Fr} (hx:1<=x.2) (hy:1<=y.2):1<=(bB x y).2:=by unfold bB;split<;>assumption
theorem vJ {x y:Fr} (hx:1<=x.2) (hy:1<=y.2):1<=(aM x y).2:=by unfold aM;split<;>assumption
theorem uJ {x y:Fr} {t:Rat} (hx:1<=x.2) (hy:1<=y.2):val (bB x y)<=t↔val x<=t/\val y<=t:=by
 have c:=gT hx hy;unfold bB
 split<;>grind
theorem t8 {x y:Fr} {t:Rat} (hx:1<=x.2) (hy:1<=y.2):t<=val (aM x y)↔t<=val x/\t<=val y:=by
 have c:=gT hx hy;unfold aM
 split<;>grind
def zS (a b:Int) (t:Rat):Rat:=(a:Rat)+((b:Rat)-(a:Rat))*t
theorem FP {a b:Int} {t1 t2:Rat} (h1:a<=0) (h2:b<=0) (h:a<0\/b<0) (k0:0<=t1) (k:t1<t2) (k1:t2<=1) (z1:0<=zS a b t1) (z2:0<=zS a b t2):False:=by
 have q1:(a:Rat)<=0:=by exact_mod_cast h1
 have q2:(b:Rat)<=0:=by exact_mod_cast h2
 unfold zS at z1 z2;have e2:=Rat.mul_nonneg (show 0<=-(b:Rat) by grind) k0;have e3:=Rat.mul_nonneg (show 0<=-(a:Rat) by grind) (show 0<=1-t2 by grind);rcases h with h | h
 ·have q:(a:Rat)<0:=by exact_mod_cast h
  have:=Rat.mul_pos (show 0 < -(a:Rat) by grind) (show 0<1-t1 by grind);grind
 ·have q:(b:Rat)<0:=by exact_mod_cast h
  have:=Rat.mul_pos (show 0 < -(b:Rat) by grind) (show 0<t2 by grind);grind
theorem EW {a b:Int} {t:Rat} (h:a<0) (k:0<b):0<=zS a b t↔val (-a,b-a)<=t:=by
 rw [HW (show (1:Int)<=b-a by omega)];unfold zS
 push_cast
 grind
theorem ES {a b:Int} {t:Rat} (h:0<a) (k:b<0):0<=zS a b t↔t<=val (a,a-b):=by
 rw [IH (show (1:Int)<=a-b by omega)];unfold zS
 push_cast
 grind
theorem EZ {a b:Int} {t:Rat} (h:0<=a) (k:0<=b) (t0:0<=t) (t1:t<=1):0<=zS a b t:=by
 have q1:(0:Rat)<=a:=by exact_mod_cast h
 have q2:(0:Rat)<=b:=by exact_mod_cast k
 have e1:=Rat.mul_nonneg q1 (show 0<=1-t by grind);have e2:=Rat.mul_nonneg q2 t0;unfold zS;grind
theorem FW {a b:Int} {t:Rat} (h:a=0) (k:b=0):zS a b t=0:=by subst h;subst k;unfold zS;push_cast;grind
theorem CU {a b:Int} (h:a<0) (k:0<b):zS a b (val (-a,b-a))=0:=by
 have:=vd (p:=(-a,b-a)) (show (1:Int)<=b-a by omega);simp only at this
 push_cast at this
 unfold zS;grind
theorem CZ {a b:Int} (h:0<a) (k:b<0):zS a b (val (a,a-b))=0:=by
 have:=vd (p:=(a,a-b)) (show (1:Int)<=a-b by omega);simp only at this
 push_cast at this
 unfold zS;grind
def lA (b e l:I3):Int:=eM l b*e.2.2
def lB (b e l:I3):Int:=eM l e*b.2.2
def lF (b e l:I3) (t:Rat):Rat:=zS (lA b e l) (lB b e l) t
structure IK (b e own:I3) (ls:List I3) (lo hi:Fr) (h:Nat) (r:Fr×Fr×Nat):Prop where
 d1:1<=r.1.2
 d2:1<=r.2.1.2
 s:∀t,0<=t->t<=1->((val lo<=t/\t<=val hi/\∀l∈ls,0<=lF b e l t)↔(val r.1<=t/\t<=val r.2.1))
 lo:r.1=lo\/(val lo<val r.1/\∃l∈ls,lA b e l<0/\0<lB b e l/\lF b e l (val r.1)=0)
 hi:r.2.1=hi\/(val r.2.1<=val hi/\∃l∈ls,0<lA b e l/\lB b e l<0/\lF b e l (val r.2.1)=0)
 h:(r.2.2=h/\∀l∈ls,¬(lA b e l=0/\lB b e l=0))\/∃l∈ls,lA b e l=0/\lB b e l=0/\r.2.2=if l=own then 1 else 2
theorem mQ {b e own:I3}:∀(ls:List I3) (lo hi:Fr) (h:Nat) (r:Fr×Fr×Nat),lQ b e own ls lo hi h=some r->1<=lo.2->1<=hi.2->IK b e own ls lo hi h r
 | [],lo,hi,h,r,e1,d1,d2=>by cases e1;exact ⟨d1,d2,λt _ _=>by simp,.inl rfl,.inl rfl,.inl ⟨rfl,by simp⟩⟩
 | l::ls,lo,hi,h,r,e1,d1,d2=>by
  unfold lQ at e1;simp only [<-show lA b e l=eM l b*e.2.2 from rfl,<-show lB b e l=eM l e*b.2.2 from rfl] at e1;split at e1
  ·split at e1
   ·cases e1
   ·rename_i c1 c2;obtain ⟨o1,o2,o3,o4,o5,o6⟩:=mQ ls _ _ _ r e1 d1 d2;have za:lA b e l=0:=by omega
    have zb:lB b e l=0:=by omega
    refine ⟨o1,o2,λt t0 t1=>?_,o4.imp id λ⟨q,m,hm,k⟩=>⟨q,m,by simp [hm],k⟩,o5.imp id λ⟨q,m,hm,k⟩=>⟨q,m,by simp [hm],k⟩,?_⟩
    ·rw [<-o3 t t0 t1];have:0<=lF b e l t:=by unfold lF;rw [FW za zb];grind
     simp [this]
    ·rcases o6 with ⟨k1,k2⟩ | ⟨m,hm,k⟩
     ·exact .inr ⟨l,by simp,za,zb,k1⟩
     ·exact .inr ⟨m,by simp [hm],k⟩
  ·split at e1
   ·rename_i c1 c2;have hb:0<lB b e l:=by omega
    have dn:1<=(-lA b e l,lB b e l-lA b e l).2:=by show 1<=lB b e l-lA b e l;omega
    obtain ⟨o1,o2,o3,o4,o5,o6⟩:=mQ ls _ _ _ r e1 (Jq d1 dn) d2;have f3:=λt=>EW (t:=t) c2 hb;refine ⟨o1,o2,λt t0 t1=>?_,?_,o5.imp id λ⟨q,m,hm,k⟩=>⟨q,m,by simp [hm],k⟩,?_⟩
    ·rw [<-o3 t t0 t1,uJ d1 dn,<-f3 t];simp only [IU,forall_eq_or_imp];unfold lF;grind
    ·rcases o4 with o4 | ⟨q,m,hm,k⟩
     ·rcases Cg lo (-lA b e l,lB b e l-lA b e l) with q | q
      ·rw [q] at o4;exact .inl o4
      ·by_cases c:val lo<val (-lA b e l,lB b e l-lA b e l)
       ·rw [o4,q];exact .inr ⟨c,l,by simp,c2,hb,CU c2 hb⟩
       ·have n:=mt (gT d1 dn).mp c;unfold bB at o4;rw [if_neg n] at o4;exact .inl o4
     ·have:=(uJ d1 dn (t:=val r.1)).mp (Rat.le_of_lt q);have w:val lo<=val (bB lo (-lA b e l,lB b e l-lA b e l)):=((uJ d1 dn).mp (Rat.le_refl)).1;exact .inr ⟨by grind,m,by simp [hm],k⟩
    ·rcases o6 with ⟨k1,k2⟩ | ⟨m,hm,k⟩
     ·refine .inl ⟨k1,λm hm=>?_⟩;rcases IU.mp hm with rfl | hm
      ·omega
      ·exact k2 m hm
     ·exact .inr ⟨m,by simp [hm],k⟩
   ·split at e1
    ·rename_i c1 c2 c3;have ha:0<lA b e l:=by omega
     have dn:1<=(lA b e l,lA b e l-lB b e l).2:=by show 1<=lA b e l-lB b e l;omega
     obtain ⟨o1,o2,o3,o4,o5,o6⟩:=mQ ls _ _ _ r e1 d1 (vJ d2 dn);have f4:=λt=>ES (t:=t) ha c3;refine ⟨o1,o2,λt t0 t1=>?_,o4.imp id λ⟨q,m,hm,k⟩=>⟨q,m,by simp [hm],k⟩,?_,?_⟩
     ·rw [<-o3 t t0 t1,t8 d2 dn,<-f4 t];simp only [IU,forall_eq_or_imp];unfold lF;grind
     ·rcases o5 with o5 | ⟨q,m,hm,k⟩
      ·by_cases n:e8 hi (lA b e l,lA b e l-lB b e l)<0
       ·unfold aM at o5;rw [if_pos n] at o5;exact .inl o5
       ·unfold aM at o5;rw [if_neg n] at o5;have n':=mt (gT d2 dn).mpr n;rw [o5];exact .inr ⟨by grind,l,by simp,ha,c3,CZ ha c3⟩
      ·have w:val (aM hi (lA b e l,lA b e l-lB b e l))<=val hi:=((t8 d2 dn).mp (Rat.le_refl)).1;exact .inr ⟨by grind,m,by simp [hm],k⟩
     ·rcases o6 with ⟨k1,k2⟩ | ⟨m,hm,k⟩
      ·refine .inl ⟨k1,λm hm=>?_⟩;rcases IU.mp hm with rfl | hm
       ·omega
       ·exact k2 m hm
      ·exact .inr ⟨m,by simp [hm],k⟩
    ·rename_i c1 c2 c3;obtain ⟨o1,o2,o3,o4,o5,o6⟩:=mQ ls _ _ _ r e1 d1 d2;refine ⟨o1,o2,λt t0 t1=>?_,o4.imp id λ⟨q,m,hm,k⟩=>⟨q,m,by simp [hm],k⟩,o5.imp id λ⟨q,m,hm,k⟩=>⟨q,m,by simp [hm],k⟩,?_⟩
     ·rw [<-o3 t t0 t1];have:0<=lF b e l t:=EZ (by omega) (by omega) t0 t1;simp [this]
     ·rcases o6 with ⟨k1,k2⟩ | ⟨m,hm,k⟩
      ·refine .inl ⟨k1,λm hm=>?_⟩;rcases IU.mp hm with rfl | hm
       ·omega
       ·exact k2 m hm
      ·exact .inr ⟨m,by simp [hm],k⟩
theorem o8 {b e own:I3}:∀(ls:List I3) (lo hi:Fr) (h:Nat),lQ b e own ls lo hi h=none->∀t1 t2:Rat,0<=t1->t1<t2->t2<=1->(∀l∈ls,0<=lF b e l t1)->(∀l∈ls,0<=lF b e l t2)->False
 | [],lo,hi,h,e1=>by cases e1
 | l::ls,lo,hi,h,e1=>by
  intro t1 t2 k0 k k1 z1 z2;have r1:=λm hm=>z1 m (JR l hm);have r2:=λm hm=>z2 m (JR l hm);have y1:=z1 l (by simp);have y2:=z2 l (by simp);unfold lQ at e1;simp only [<-show lA b e l=eM l b*e.2.2 from rfl,<-show lB b e l=eM l e*b.2.2 from rfl] at e1;split at e1
  ·rename_i c1;split at e1
   ·rename_i c2;exact FP c1.1 c1.2 c2 k0 k k1 y1 y2
   ·exact o8 ls _ _ _ e1 t1 t2 k0 k k1 r1 r2
  ·split at e1
   ·exact o8 ls _ _ _ e1 t1 t2 k0 k k1 r1 r2
   ·split at e1
    ·exact o8 ls _ _ _ e1 t1 t2 k0 k k1 r1 r2
    ·exact o8 ls _ _ _ e1 t1 t2 k0 k k1 r1 r2
end
end My
namespace My
open PySem L2 PyProof.Rows
section
variable {P:QJ} {w:QM} {K:W.Frag} {mg:Str->Option Value} {base:Heap}
def eY (rows:List j3):List (Fr×Fr):=(rows.filter λr=>!r.2.2).map λr=>(r.1,r.2.1)
def Ch:Rat->Bool->List j3->Prop
 | _,_,[]=>True
 | x,pn,r::rs=>x=val r.1/\val r.1<val r.2.1/\¬(pn=true/\r.2.2=false)/\Ch (val r.2.1) (!r.2.2) rs
theorem Ch.weak {x:Rat} {b:Bool} {rs:List j3} (h:Ch x true rs):Ch x b rs:=by
 cases rs with
 | nil=>trivial
 | cons r rs=>
  obtain ⟨h1,h2,h3,h4⟩:=h;exact ⟨h1,h2,λz=>h3 ⟨rfl,z.2⟩,h4⟩
def zV (p:Prop) [Decidable p]:Nat:=if p then 1 else 0
theorem Te {p q:Prop} [Decidable p] [Decidable q] (h:p->q):zV p<=zV q:=by
 unfold zV
 by_cases c:p
 ·rw [if_pos c,if_pos (h c)];omega
 ·rw [if_neg c];omega
theorem Zh {p:Prop} [Decidable p] (h:p):zV p=1:=if_pos h
theorem G5 {p:Prop} [Decidable p] (h:¬p):zV p=0:=if_neg h
def uV (rs:List j3):Nat:=(rs.filter λr=>!r.2.2).length
theorem j5 (r:j3) (rs:List j3):uV (r::rs)=(if r.2.2=true then 0 else 1)+uV rs:=by
 unfold uV;cases h:r.2.2 with
 | true=>rw [KR (by rw [h];decide)];simp
 | false=>rw [JZ (by rw [h];decide),JE];simp;omega
theorem sA (a b:List j3):uV (a++b)=uV a+uV b:=by unfold uV;rw [List.filter_append,IY]
theorem He {x y:Fr} (hx:1<=x.2) (hy:1<=y.2):(val x<val y/\bB x y=y)\/(val y<=val x/\bB x y=x):=by
 have c:=gT hx hy;unfold bB
 by_cases d:e8 x y<0
 ·exact .inl ⟨c.mp d,if_pos d⟩
 ·exact .inr ⟨Rat.not_lt.mp (mt c.mpr d),if_neg d⟩
theorem vV {x y:Fr} (hx:1<=x.2) (hy:1<=y.2):(val x<val y/\aM x y=x)\/(val y<=val x/\aM x y=y):=by
 have c:=gT hx hy;unfold aM
 by_cases d:e8 x y<0
 ·exact .inl ⟨c.mp d,if_pos d⟩
 ·exact .inr ⟨Rat.not_lt.mp (mt c.mpr d),if_neg d⟩
theorem Tt {x y:Fr} (hx:1<=x.2) (hy:1<=y.2):0<=e8 x y↔val y<=val x:=by
 have c:=gT hx hy;constructor
 ·intro h;exact Rat.not_lt.mp (mt c.mpr (by omega))
 ·intro h;have:=mt c.mp (Rat.not_lt.mpr h);omega
theorem An {lo hi:Fr} {r:j3} (h1:1<=r.1.2) (h2:1<=r.2.1.2) (hl:1<=lo.2) (hh:1<=hi.2) :
  ((r.2.2=true\/val (aM r.2.1 hi)<=val (bB r.1 lo))/\sH lo hi r=[r])\/
  (r.2.2=false/\val (bB r.1 lo)<val (aM r.2.1 hi)/\sH lo hi r=(if val r.1<val (bB r.1 lo) then [(r.1,bB r.1 lo,false)] else [])++[(bB r.1 lo,aM r.2.1 hi,true)]++(if val (aM r.2.1 hi)<val r.2.1 then [(aM r.2.1 hi,r.2.1,false)] else [])):=by
 have d1:=Jq h1 hl;have d2:=vJ h2 hh;unfold sH
 by_cases c:r.2.2=true
 ·exact .inl ⟨.inl c,if_pos c⟩
 ·rw [if_neg c]
  by_cases d:0<=e8 (bB r.1 lo) (aM r.2.1 hi)
  ·exact .inl ⟨.inr ((Tt d1 d2).mp d),if_pos d⟩
  ·rw [if_neg d];refine .inr ⟨by simpa using c,Rat.not_le.mp (mt (Tt d1 d2).mpr d),?_⟩
   congr 1
   ·congr 1
    by_cases e:e8 r.1 (bB r.1 lo)<0
    ·rw [if_pos e,if_pos ((gT h1 d1).mp e)]
    ·rw [if_neg e,if_neg (mt (gT h1 d1).mpr e)]
   ·by_cases e:e8 (aM r.2.1 hi) r.2.1<0
    ·rw [if_pos e,if_pos ((gT d2 h2).mp e)]
    ·rw [if_neg e,if_neg (mt (gT d2 h2).mpr e)]
theorem pF {lo hi:Fr} (hl:1<=lo.2) (hh:1<=hi.2):∀{rows:List j3} {x:Rat} {pn:Bool},jG rows->Ch x pn rows->Ch x pn (bU rows lo hi)/\(bU rows lo hi).length<=rows.length+zV (x<val lo)+zV (x<val hi)/\uV (bU rows lo hi)<=uV rows+zV (x<val lo)
 | [],x,pn,_,_=>by simp [bU,Ch,uV]
 | r::rows,x,pn,ok,ch=>by
  obtain ⟨o1,o2⟩:=ok r (by simp);have rest:=λ{x pn}=>pF hl hh (rows:=rows) (x:=x) (pn:=pn) λy m=>ok y (by simp [m]);obtain ⟨c1,c2,c3,c4⟩:=ch;obtain ⟨i1,i2,i3⟩:=rest c4;have e:bU (r::rows) lo hi=sH lo hi r++bU rows lo hi:=by unfold bU;rw [LP]
  rw [e];have aAE:zV (val r.2.1<val lo)<=zV (x<val lo):=Te λz=>by grind
  have aAF:zV (val r.2.1<val hi)<=zV (x<val hi):=Te λz=>by grind
  rcases An o1.d o2.d hl hh with ⟨_,q⟩ | ⟨q0,q1,q⟩
  ·rw [q];refine ⟨⟨c1,c2,c3,i1⟩,?_,?_⟩
   ·simp only [List.singleton_append,JE];omega
   ·rw [List.singleton_append,j5,j5];omega
  ·have l1:=He o1.d hl;have l2:=vV o2.d hh;rw [q];rw [q0] at i1 c3;have b1:val r.1<=val (bB r.1 lo):=by rcases l1 with ⟨_,z⟩ | ⟨_,z⟩<;>rw [z]<;>grind
   have b2:val (aM r.2.1 hi)<=val r.2.1:=by rcases l2 with ⟨_,z⟩ | ⟨_,z⟩<;>rw [z]<;>grind
   have pn0:pn=false:=by
    cases pn with
    | false=>rfl
    | true=>exact absurd ⟨rfl,rfl⟩ c3
   have hA:val r.1<val (bB r.1 lo)->zV (x<val lo)=1/\zV (val r.2.1<val lo)=0:=λz=>by
    rcases l1 with ⟨w,w'⟩ | ⟨w,w'⟩
    ·rw [w'] at q1;exact ⟨Zh (by grind),G5 (by grind)⟩
    ·rw [w'] at z;grind
   have hB:val (aM r.2.1 hi)<val r.2.1->zV (x<val hi)=1/\zV (val r.2.1<val hi)=0:=λz=>by
    rcases l2 with ⟨w,w'⟩ | ⟨w,w'⟩
    ·rw [w'] at z;grind
    ·rw [w'] at q1;exact ⟨Zh (by grind),G5 (by grind)⟩
   by_cases cA:val r.1<val (bB r.1 lo)
   ·rw [if_pos cA];obtain ⟨a1,a2⟩:=hA cA
    by_cases cB:val (aM r.2.1 hi)<val r.2.1
    ·rw [if_pos cB];obtain ⟨cf,jy⟩:=hB cB;refine ⟨⟨c1,cA,c3,rfl,q1,λz=>(show (true:Bool)≠false by decide) z.2,rfl,cB,λz=>(show (false:Bool)≠true by decide) z.1,i1⟩,?_,?_⟩
     ·simp only [IY,JE,LQ];omega
     ·rw [sA,j5,q0];have:uV ([(r.1,bB r.1 lo,false)]++[(bB r.1 lo,aM r.2.1 hi,true)]++[(aM r.2.1 hi,r.2.1,false)])=2:=rfl;rw [this];simp only [ME,if_false];omega
    ·rw [if_neg cB];have eB:val (aM r.2.1 hi)=val r.2.1:=by grind
     refine ⟨⟨c1,cA,c3,rfl,q1,λz=>(show (true:Bool)≠false by decide) z.2,by rw [eB];exact i1.weak⟩,?_,?_⟩
     ·simp only [IY,JE,LQ];omega
     ·rw [sA,j5,q0];have:uV ([(r.1,bB r.1 lo,false)]++[(bB r.1 lo,aM r.2.1 hi,true)]++[])=1:=rfl;rw [this];simp only [ME,if_false];omega
   ·rw [if_neg cA];have eA:val r.1=val (bB r.1 lo):=by grind
    by_cases cB:val (aM r.2.1 hi)<val r.2.1
    ·rw [if_pos cB];obtain ⟨cf,jy⟩:=hB cB;refine ⟨⟨by rw [c1];exact eA,q1,λz=>(show (true:Bool)≠false by decide) z.2,rfl,cB,λz=>(show (false:Bool)≠true by decide) z.1,i1⟩,?_,?_⟩
     ·simp only [IY,JE,LQ];omega
     ·rw [sA,j5,q0];have:uV ([]++[(bB r.1 lo,aM r.2.1 hi,true)]++[(aM r.2.1 hi,r.2.1,false)])=1:=rfl;rw [this];simp only [ME,if_false];omega
    ·rw [if_neg cB];have eB:val (aM r.2.1 hi)=val r.2.1:=by grind
     refine ⟨⟨by rw [c1];exact eA,q1,λz=>(show (true:Bool)≠false by decide) z.2,by rw [eB];exact i1.weak⟩,?_,?_⟩
     ·simp only [IY,JE,LQ];omega
     ·rw [sA,j5,q0];have:uV ([]++[(bB r.1 lo,aM r.2.1 hi,true)]++[])=0:=rfl;rw [this];simp only [ME,if_false];omega
theorem xA (p:Prop) [Decidable p]:zV p<=1:=by unfold zV;split<;>omega
def Nn (rows:List j3) (t:Rat):Prop:=∃r∈rows,r.2.2=false/\val r.1<t/\t<val r.2.1
theorem Hm {lo hi:Fr} (hl:1<=lo.2) (hh:1<=hi.2) {rows:List j3} (ok:jG rows) {t:Rat} (t1:t≠val lo) (t2:t≠val hi):Nn (bU rows lo hi) t↔Nn rows t/\¬(val lo<t/\t<val hi):=by
 have one:∀r∈rows,(∃z∈sH lo hi r,z.2.2=false/\val z.1<t/\t<val z.2.1)↔(r.2.2=false/\val r.1<t/\t<val r.2.1)/\¬(val lo<t/\t<val hi):=λr m=>by
  obtain ⟨o1,o2⟩:=ok r m;have l1:=He o1.d hl;have l2:=vV o2.d hh;rcases An o1.d o2.d hl hh with ⟨q0,q⟩ | ⟨q0,q1,q⟩
  ·rw [q];constructor
   ·rintro ⟨z,mz,k⟩;rw [JB] at mz;subst mz;refine ⟨k,λw=>?_⟩;rcases q0 with q0 | q0
    ·rw [q0] at k;exact absurd k.1 (by decide)
    ·rcases l1 with ⟨_,e1⟩ | ⟨_,e1⟩<;>rcases l2 with ⟨_,e2⟩ | ⟨_,e2⟩<;>rw [e1,e2] at q0<;>grind
   ·rintro ⟨k,_⟩;exact ⟨r,by simp,k⟩
  ·rw [q];have b1:val r.1<=val (bB r.1 lo)/\val lo<=val (bB r.1 lo)/\(val (bB r.1 lo)=val r.1\/val (bB r.1 lo)=val lo):=by rcases l1 with ⟨_,z⟩ | ⟨_,z⟩<;>rw [z]<;>grind
   have b2:val (aM r.2.1 hi)<=val r.2.1/\val (aM r.2.1 hi)<=val hi/\(val (aM r.2.1 hi)=val r.2.1\/val (aM r.2.1 hi)=val hi):=by rcases l2 with ⟨_,z⟩ | ⟨_,z⟩<;>rw [z]<;>grind
   constructor
   ·rintro ⟨z,mz,k⟩;refine ⟨⟨q0,?_⟩,?_⟩
    ·rcases JJ.mp mz with mz | mz
     ·rcases JJ.mp mz with mz | mz
      ·split at mz
       ·rw [JB] at mz;subst mz;simp only at k;grind
       ·simp at mz
      ·rw [JB] at mz;subst mz;exact absurd k.1 (show (true:Bool)≠false by decide)
     ·split at mz
      ·rw [JB] at mz;subst mz;simp only at k;grind
      ·simp at mz
    ·rcases JJ.mp mz with mz | mz
     ·rcases JJ.mp mz with mz | mz
      ·split at mz
       ·rw [JB] at mz;subst mz;simp only at k;grind
       ·simp at mz
      ·rw [JB] at mz;subst mz;exact absurd k.1 (show (true:Bool)≠false by decide)
     ·split at mz
      ·rw [JB] at mz;subst mz;simp only at k;grind
      ·simp at mz
   ·rintro ⟨⟨_,k1,k2⟩,k3⟩
    by_cases c:t<val lo
    ·refine ⟨(r.1,bB r.1 lo,false),?_,rfl,k1,by simp only;grind⟩;rw [if_pos (show val r.1<val (bB r.1 lo) by grind)];simp
    ·have w1:val lo<t:=by grind
     have w2:val hi<t:=by
      have:=mt (λz=>(⟨w1,z⟩:val lo<t/\t<val hi)) k3;grind
     have w3:val (aM r.2.1 hi)<t:=by grind
     refine ⟨(aM r.2.1 hi,r.2.1,false),?_,rfl,w3,k2⟩;rw [if_pos (show val (aM r.2.1 hi)<val r.2.1 by grind)];simp
 unfold Nn bU;constructor
 ·rintro ⟨z,mz,k⟩;obtain ⟨r,mr,mz⟩:=KQ.mp mz;obtain ⟨a,b⟩:=(one r mr).mp ⟨z,mz,k⟩;exact ⟨⟨r,mr,a⟩,b⟩
 ·rintro ⟨⟨r,mr,k⟩,w⟩;obtain ⟨z,mz,k'⟩:=(one r mr).mpr ⟨k,w⟩;exact ⟨z,KQ.mpr ⟨r,mr,mz⟩,k'⟩
def Aq:Rat->Bool->List (Fr×Fr)->Prop
 | _,_,[]=>True
 | x,st,a::as=>(x<=val a.1/\(st=true->x<val a.1))/\val a.1<val a.2/\Aq (val a.2) true as
theorem Aq.le {x y:Rat} {b b':Bool} {A:List (Fr×Fr)} (h:Aq y b A) (k:x<y):Aq x b' A:=by
 cases A with
 | nil=>trivial
 | cons a as=>exact ⟨⟨by have:=h.1.1;grind,λ_=>by have:=h.1.1;grind⟩,h.2.1,h.2.2⟩
theorem Pc:∀{rows:List j3} {x:Rat} {pn:Bool},Ch x pn rows->Aq x pn (eY rows)
 | [],_,_,_=>trivial
 | r::rows,x,pn,⟨c1,c2,c3,c4⟩=>by
  have ih:=Pc c4;unfold eY at ih ⊢;cases h:r.2.2 with
  | true=>
   rw [KR (by rw [h];decide)];exact ih.le (by grind)
  | false=>
   rw [JZ (by rw [h];decide),JK];rw [h] at ih c3;refine ⟨⟨by show x<=val r.1;grind,λz=>absurd ⟨z,rfl⟩ c3⟩,c2,ih⟩
theorem Aq.all {x:Rat} {b:Bool}:∀{A:List (Fr×Fr)},Aq x b A->∀a∈A,x<=val a.1/\(b=true->x<val a.1)/\val a.1<val a.2:=by
 intro A
 induction A generalizing x b with
 | nil=>intro _ a m;simp at m
 | cons c A ih=>
  rintro ⟨h1,h2,h3⟩ a m;rcases IU.mp m with rfl | m
  ·exact ⟨h1.1,h1.2,h2⟩
  ·have:=ih h3 a m;have:=h1.1;exact ⟨by grind,λ_=>by grind,by grind⟩
theorem tU:∀(F:List Rat) {l h:Rat},l<h->∃t,l<t/\t<h/\t∉F
 | [],l,h,k=>⟨(l+h)*(1/2),by grind,by grind,by simp⟩
 | f::F,l,h,k=>by
  by_cases c:l<f/\f<h
  ·obtain ⟨t,a,b,n⟩:=tU F c.1;exact ⟨t,a,by grind,λm=>by
    rcases IU.mp m with e | m
    ·grind
    ·exact n m⟩
  ·obtain ⟨t,a,b,n⟩:=tU F k;exact ⟨t,a,b,λm=>by
    rcases IU.mp m with e | m
    ·rw [e] at a b;exact c ⟨a,b⟩
    ·exact n m⟩
def inA (A:List (Fr×Fr)) (t:Rat):Prop:=∃a∈A,val a.1<t/\t<val a.2
def vp (a:Fr×Fr):Rat×Rat:=(val a.1,val a.2)
theorem Wm {x:Rat} {A:List (Fr×Fr)} (h:Aq x true A):∃n,x<n/\∀a∈A,n<=val a.1:=by
 cases A with
 | nil=>exact ⟨x+1,by grind,λa m=>absurd m (by simp)⟩
 | cons c A=>
  refine ⟨val c.1,h.1.2 rfl,λa m=>?_⟩;rcases IU.mp m with rfl | m
  ·grind
  ·have:=(h.2.2.all a m).1;have:=h.2.1;grind
theorem Bp (F:List Rat):∀{A B:List (Fr×Fr)} {x y:Rat} {b b':Bool},Aq x b A->Aq y b' B->(∀t,t∉F->(inA A t↔inA B t))->A.map vp=B.map vp
 | [],[],_,_,_,_,_,_,_=>rfl
 | [],c::B,_,_,_,_,_,hB,h=>by
  obtain ⟨t,a,k,n⟩:=tU F hB.2.1;obtain ⟨z,m,_⟩:=(h t n).mpr ⟨c,by simp,a,k⟩;simp at m
 | a::A,[],_,_,_,_,hA,_,h=>by
  obtain ⟨t,k1,k2,n⟩:=tU F hA.2.1;obtain ⟨z,m,_⟩:=(h t n).mp ⟨a,by simp,k1,k2⟩;simp at m
 | a::A,c::B,x,y,b,b',hA,hB,h=>by
  have key:∀{a c:Fr×Fr} {A B:List (Fr×Fr)},val a.1<val a.2->Aq (val a.2) true A->val c.1<val c.2->Aq (val c.2) true B->(∀t,t∉F->(inA (a::A) t->inA (c::B) t))->val c.1<=val a.1:=λ{a c A B} a1 a2 c1 c2 h=>by
   refine Rat.not_lt.mp λz=>?_;obtain ⟨t,k1,k2,n⟩:=tU F (l:=val a.1) (h:=if val a.2<val c.1 then val a.2 else val c.1) (by split<;>grind);have k3:t<val a.2/\t<val c.1:=by split at k2<;>grind
   obtain ⟨w,mw,w1,w2⟩:=h t n ⟨a,by simp,k1,k3.1⟩;rcases IU.mp mw with rfl | mw
   ·grind
   ·have:=(c2.all w mw).1;grind
  have e1:val a.1=val c.1:=by
   have p:=key hA.2.1 hA.2.2 hB.2.1 hB.2.2 λt n=>(h t n).mp;have q:=key hB.2.1 hB.2.2 hA.2.1 hA.2.2 λt n=>(h t n).mpr;grind
  have lx:∀{a c:Fr×Fr} {A B:List (Fr×Fr)},val a.1=val c.1->val a.1<val a.2->Aq (val a.2) true A->val c.1<val c.2->Aq (val c.2) true B->(∀t,t∉F->(inA (c::B) t->inA (a::A) t))->val c.2<=val a.2:=λ{a c A B} e a1 a2 c1 c2 h=>by
   refine Rat.not_lt.mp λz=>?_;obtain ⟨nx,n1,n2⟩:=Wm a2;obtain ⟨t,k1,k2,n⟩:=tU F (l:=val a.2) (h:=if val c.2<nx then val c.2 else nx) (by split<;>grind);have k3:t<val c.2/\t<nx:=by split at k2<;>grind
   obtain ⟨w,mw,w1,w2⟩:=h t n ⟨c,by simp,by grind,k3.1⟩;rcases IU.mp mw with rfl | mw
   ·grind
   ·have:=n2 w mw;grind
  have e2:val a.2=val c.2:=by
   have p:=lx e1 hA.2.1 hA.2.2 hB.2.1 hB.2.2 λt n=>(h t n).mpr;have q:=lx e1.symm hB.2.1 hB.2.2 hA.2.1 hA.2.2 λt n=>(h t n).mp;grind
  have tail:∀t,t∉F->(inA A t↔inA B t):=λt n=>by
   have k:=h t n;constructor
   ·rintro ⟨w,mw,w1,w2⟩;have:=(hA.2.2.all w mw).1;obtain ⟨u,mu,u1,u2⟩:=k.mp ⟨w,by simp [mw],w1,w2⟩;rcases IU.mp mu with rfl | mu
    ·grind
    ·exact ⟨u,mu,u1,u2⟩
   ·rintro ⟨w,mw,w1,w2⟩;have:=(hB.2.2.all w mw).1;obtain ⟨u,mu,u1,u2⟩:=k.mpr ⟨w,by simp [mw],w1,w2⟩;rcases IU.mp mu with rfl | mu
    ·grind
    ·exact ⟨u,mu,u1,u2⟩
  rw [JK,JK,Bp F hA.2.2 hB.2.2 tail];unfold vp;rw [e1,e2]
end
end My
namespace My
open PySem L2 PyProof.Rows
section
variable {P:QJ} {w:QM} {K:W.Frag} {mg:Str->Option Value} {base:Heap}
def iO (p q:Pt) (f:Fr):Pt:=(hV p.1 (eO (iQ q.1 p.1) f),hV p.2 (eO (iQ q.2 p.2) f))
theorem tX {x y p q:Fr} {e f:Nat} (h:Nv x y e) (k:Nv p q f):Nv (iQ x p) (iQ y q) (e+f+1):=by
 have:=h.sx;have:=h.sy;have:=k.sx;have:=k.sy;have s1:=Rw h.x k.x;have s2:=Rw h.y k.y;exact ⟨eD h.x k.x,eD h.y k.y,by omega,by omega⟩
theorem Dy {x y b:Fr} {e:Nat} (h:Nv x y e) (hb:dY b):Nv (eO x b) (eO y b) (e+sz b):=by
 have:=h.sx;have:=h.sy;have s1:=qA h.x hb;have s2:=qA h.y hb;exact ⟨bM h.x hb,bM h.y hb,by omega,by omega⟩
def Cp:iN:=λas Q=>∃(p q:Pt) (f:Fr),as=[.v (pt p),.v (pt q),.v (fr f)]/\Pb p/\Pb q/\dY f/\sz f<=300/\Q (.v (pt (iO p q f))) []
abbrev qR (P w K mg base):=Fn P w K mg base 5 "point_at" ["begin","end","part"] (aX K Cp)
abbrev nO:QU:=top 31
theorem Bm:aO ["begin","end","part"] ["begin","end","part"] (aF nO):=g8
theorem Aw {f:QF} {fd:QK} (F:eT K "point_at" "point_at" nO f fd) (TX:Txt mg) (XW:Kg P w K mg base) (WS:vZ P w K mg base) (XG:Al P w K mg base)   : bJ P w K mg base fF 5 f fd ["begin","end","part"] (aX K Cp):=by
 refine F.okT Bm ?len (λTQ A outer s H E hr=>(aK (aR (aC XW hr (by omega) rfl (fc (fv 0) (fc (aC WS hr (by omega) rfl (fc (aC XG hr (by omega) rfl (fc (fv 1) (fc (fv 0) aA))) (fc (fv 2) aA))) aA)))))) ?rd
 case len=>rintro as Q ⟨p,q,f,rfl,_⟩;rfl
 case rd=>
  rintro as Q ⟨p,q,f,rfl,hp,hq,hf,hs,z⟩;have n1:=tX hq.v hp.v;exact ⟨_,_,_,_,_,_,rfl,hq.v,hp.v,by decide,_,_,_,_,rfl,n1,hf,by omega,_,_,_,_,_,_,rfl,hp.v,Dy n1 hf,by omega,rfl,z⟩
def Zm:iN:=λas Q=>∃(b:cR) (k:Nat) (p q:Pt),as=[.v (eL b),.v (.int (k:Int))]/\b.o.length<=900/\b.o[k]? = some p/\b.o[(k+1)%b.o.length]? = some q/\Q (.v (.tup [pt p,pt q])) []
theorem lN {α:Type} {f:α->L2.T} {xs:List α} {k:Nat} {x:α} (h:xs[k]? = some x):lE (xs.map f) (k:Int)=some (f x):=xG (by rw [JC,h];rfl)
abbrev pH (P w K mg base):=Fn P w K mg base 1 "edge_ends" ["block","edge"] (aX K Zm)
abbrev mJ:QU:=top 34
theorem oN:aO ["block","edge","outline"] ["block","edge"] (aF mJ):=g8
theorem xX {f:QF} {fd:QK} (F:eT K "edge_ends" "edge_ends" mJ f fd) (TX:Txt mg)    : bJ P w K mg base fF 1 f fd ["block","edge"] (aX K Zm):=by
 refine F.okT oN ?len (λTQ A outer s H E hr=>(aE (bD (i:=2) oN.nd rfl (IV rfl) (aH rfl (fv 0) aB (λ_ _=>rfl)))
 (aK (aR (aL (fc (aH rfl (fv 2) (fv 1) (λ_ _=>rfl)) (fc (aH rfl (fv 2) (aN jE (bA b9 (fv 1) aB) (kO rfl rfl TX.n_len (fc (fv 2) aA))) (λ_ _=>rfl)) aA))))))) ?rd
 case len=>rintro as Q ⟨b,k,p,q,rfl,_⟩;rfl
 case rd=>
  rintro as Q ⟨b,k,p,q,rfl,hl,h1,h2,z⟩;have hk:k<b.o.length:=(IT.mp h1).1;show o1 (lE (b.o.map pt) (k:Int)) _;rw [lN h1];have e:(((k:Int)+1)%((b.o.map pt).length:Int))=(((k+1)%b.o.length:Nat):Int):=by rw [IS];push_cast;rfl
  refine ⟨(show (0:Int)<((b.o.map pt).length:Int) by rw [IS];omega),?_⟩;show o1 (lE (b.o.map pt) (((k:Int)+1)%((b.o.map pt).length:Int))) _;rw [e,lN h2];exact ⟨rfl,z⟩
def bX (p q x:Pt):Fr:=if p.1=q.1 then tM (iQ x.2 p.2) (iQ q.2 p.2) else tM (iQ x.1 p.1) (iQ q.1 p.1)
theorem qJ {x y:Fr} (hx:dY x) (hy:dY y) (h:y≠x):(iQ x y).1≠0:=λz=>by
 have v:=g9 hx hy;have e:val (iQ x y)=0:=by
  show ((iQ x y).1:Rat)/((iQ x y).2:Rat)=0;rw [z,Rat.div_def];simp
 rw [e] at v;exact h (eJ hy hx (by grind))
theorem jK {p q x:Pt} (hp:Pb p) (hq:Pb q) (hx:Pb x) (ne:p≠q):dY (bX p q x)/\sz (bX p q x)<=82/\F2 (bX p q x):=by
 have n1:=tX hx.v hp.v;have n2:=tX hq.v hp.v;have a1:=n1.sx;have a2:=n1.sy;have a3:=n2.sx;have a4:=n2.sy;have key:dY (bX p q x)/\sz (bX p q x)<=82:=by
  unfold bX
  by_cases c:p.1=q.1
  ·rw [if_pos c];have d:p.2≠q.2:=λw=>ne (Prod.ext c w);have z:=qJ hq.v.y hp.v.y d;have s:=Ky n1.y z;exact ⟨Bv n1.y z,by omega⟩
  ·rw [if_neg c];have z:=qJ hq.v.x hp.v.x c;have s:=Ky n1.x z;exact ⟨Bv n1.x z,by omega⟩
 exact ⟨key.1,key.2,⟨by omega,key.1.d⟩⟩
def Ko:iN:=λas Q=>∃(p q x:Pt),as=[.v (.tup [pt p,pt q]),.v (pt x)]/\Pb p/\Pb q/\Pb x/\p≠q/\Q (.v (fr (bX p q x))) []
abbrev uC (P w K mg base):=Fn P w K mg base 4 "part_at" ["ends","point"] (aX K Ko)
abbrev qN:QU:=top 35
theorem kR:aO ["ends","point","way","begin","end"] ["ends","point"] (aF qN):=g8
theorem Dv {f:QF} {fd:QK} (F:eT K "part_at" "part_at" qN f fd) (TX:Txt mg) (XX:Ih P w K mg base) (UT:pA P w K mg base)   : bJ P w K mg base fF 4 f fd ["ends","point"] (aX K Ko):=by
 refine F.okT kR ?len (λTQ A outer s H E hr=>(aE (jR (fv 0) (cE (n:=2) rfl rfl (aJ (aI (i:=3) kR.nd rfl (IV rfl)) (aJ (aI (i:=4) kR.nd rfl (IV rfl)) bS))))
 (aE (bD (i:=2) kR.nd rfl (IV rfl) (rA (rB rfl hr (aH rfl (fv 3) aB (λ_ _=>rfl)) (aH rfl (fv 4) aB (λ_ _=>rfl)) (bE _)) aB aB))
 (aK (aR (aC XX hr (by omega) rfl (fc (aC UT hr (by omega) rfl (fc (aH rfl (fv 1) (fv 2) (λ_ _=>rfl)) (fc (aH rfl (fv 3) (fv 2) (λ_ _=>rfl)) aA))) (fc (aC UT hr (by omega) rfl (fc (aH rfl (fv 4) (fv 2) (λ_ _=>rfl)) (fc (aH rfl (fv 3) (fv 2) (λ_ _=>rfl)) aA))) aA)))))))) ?rd
 case len=>rintro as Q ⟨p,q,x,rfl,_⟩;rfl
 case rd=>
  rintro as Q ⟨p,q,x,rfl,hp,hq,hx,ne,z⟩;have n1:=tX hx.v hp.v;have n2:=tX hq.v hp.v;have a1:=n1.sx;have a2:=n1.sy;have a3:=n2.sx;have a4:=n2.sy;have b1:=hp.v.sx;have b2:=hp.v.sy;have b3:=hq.v.sx;have b4:=hq.v.sy;have b5:=hx.v.sx;have b6:=hx.v.sy;refine ⟨iC rfl,?_⟩;show if (!(iG (fr p.1) (fr q.1)))=true then _ else _;rw [Zu];unfold bX at z
  by_cases c:p.1=q.1
  ·rw [decide_eq_true c,if_neg (by decide)];rw [if_pos c] at z;have d:p.2≠q.2:=λw=>ne (Prod.ext c w);have y0:=qJ hq.v.y hp.v.y d;exact ⟨_,_,rfl,hx.v.y,hp.v.y,by omega,_,_,rfl,hq.v.y,hp.v.y,by omega,_,_,rfl,n1.y,n2.y,y0,by omega,rfl,z⟩
  ·rw [decide_eq_false c,if_pos (by decide)];rw [if_neg c] at z;have x0:=qJ hq.v.x hp.v.x c;exact ⟨_,_,rfl,hx.v.x,hp.v.x,by omega,_,_,rfl,hq.v.x,hp.v.x,by omega,_,_,rfl,n1.x,n2.x,x0,by omega,rfl,z⟩
abbrev Ov:=Option (Fr×Fr×Nat)
def dZ:List Ov->List j3->Option (List j3)
 | [],rows=>some rows
 | none::os,rows=>dZ os rows
 | some r::os,rows=>if r.2.2=1 then dZ os rows else if r.1=(0,1)/\r.2.1=(1,1) then none else dZ os (bU rows r.1 r.2.1)
def lM:List (Fr×Fr)->List j3->List j3
 | [],rows=>rows
 | t::ts,rows=>lM ts (bU rows t.1 t.2)
def oB (os:List Ov) (ts:List (Fr×Fr)) (rows:List j3):List (Fr×Fr):=match dZ os rows with
 | none=>[]
 | some rs=>eY (lM ts rs)
def lC:List j3:=[((0,1),(1,1),false)]
abbrev Pr:=Pt×Pt
def rZ (x:Pr):L2.T:=.tup [pt x.1,pt x.2]
def pP (p q:Pt) (tw:List Pr):List (Fr×Fr):=tw.map λx=>(bX p q x.1,bX p q x.2)
def dE (shs:List Sh) (p q:Pt) (tw:List Pr):List (Fr×Fr):=oB (shs.map λs=>aU s (dI p q)) (pP p q tw) lC
def O0 (x:Fr×Fr):L2.T:=.tup [fr x.1,fr x.2]
theorem Xb (h:Nat):iG (.str (BB h)) (.str "left")=decide (h=1):=by
 match h with
 | 0=>decide
 | 1=>decide
 | n+2=>
  have:iG (.str (BB (n+2))) (.str "left")=false:=by show iG (.str "right") (.str "left")=false;decide
  rw [this,decide_eq_false (by omega)]
structure mW (s:Sh):Prop where
 b:∀l∈s.ls,B3 81 l
structure tZ (p q:Pt):Prop where
 hp:Pb p
 hq:Pb q
 ne:p≠q
 l:g3 (lH (aG p) (aG q))≠0
def Zg:iN:=λas Q=>∃(shs:List Sh) (p q:Pt) (tw:List Pr),as=[.v (.lst (shs.map kI)),.v (.tup [pt p,pt q]),.v (.lst (tw.map rZ))]/\(∀s∈shs,mW s)/\tZ p q/\(∀x∈tw,Pb x.1/\Pb x.2)/\shs.length+tw.length<=100/\Q (.l ((dE shs p q tw).map O0)) []
theorem Hu {p q:Pt} (h:tZ p q):B3 40 (dI p q).p/\B3 40 (dI p q).q/\B3 3000 (dI p q).l:=⟨jV h.hp,jV h.hq,(D5 (Eb (jV h.hp) (jV h.hq))).up (by decide)⟩
abbrev m7 (P w K mg base):=Fn P w K mg base 5 "bare_parts" ["shapes","ends","twins"] (aX K Zg)
abbrev kY:QU:=top 36
theorem cD:aO ["shapes","ends","twins","segment","rows","shape","laid","begin","end"] ["shapes","ends","twins"] (aF kY):=g8
theorem uQ {f:QF} {fd:QK} (F:eT K "bare_parts" "bare_parts" kY f fd) (TX:Txt mg) (VM:nA P w K mg base) (WH:t6 P w K mg base) (WD:vR P w K mg base) (VU:uC P w K mg base) (WJ:tW mg K "WHOLE" (.tup [.tup [.int 0,.int 1],.tup [.int 1,.int 1]]))  : bJ P w K mg base fF 5 f fd ["shapes","ends","twins"] (aX K Zg):=by
 refine F.okT cD ?len (λTQ A outer s H E hr=>(aE (bD (i:=3) cD.nd rfl (IV rfl) (aC VM hr (by omega) rfl (fc (aH rfl (fv 1) aB (λ_ _=>rfl)) (fc (aH rfl (fv 1) aB (λ_ _=>rfl)) aA))))
 (aE (bD (i:=4) cD.nd rfl (IV rfl) (d8 (fc (Ip rfl (sC rfl WJ) (aL (fc pU aA))) aA)))
 (aE (gY PassesOwn.never rfl (dF rfl (fv 0)) (aI (i:=5) cD.nd rfl (IV rfl))
  (aE (bD (i:=6) cD.nd rfl (IV rfl) (aC WH hr (by omega) rfl (fc (fv 5) (fc (fv 3) aA))))
 (aE (e9 (Ls (Gy (Sl (fv 6) (bE _)) (yF (vY rfl hr (aH rfl (fv 6) aB (λ_ _=>rfl)) iH (bE _))))) (aK Hh) dH)
 (aE (e9 (vY rfl hr (qB rfl (fv 6) iU (e7 aB)) (sC rfl WJ) (bE _)) (aK (aR (d8 aA))) dH)
 (aK (bD (i:=4) cD.nd rfl (IV rfl) (aC WD hr (by omega) rfl (fc (fv 4) (fc (aH rfl (fv 6) aB (λ_ _=>rfl)) (fc (aH rfl (fv 6) aB (λ_ _=>rfl)) (fc rE aA)))))))))))
 (aE (gY PassesOwn.never rfl (dF rfl (fv 2)) (cE (n:=2) rfl rfl (aJ (aI (i:=7) cD.nd rfl (IV rfl)) (aJ (aI (i:=8) cD.nd rfl (IV rfl)) bS)))
  (aK (bD (i:=4) cD.nd rfl (IV rfl) (aC WD hr (by omega) rfl (fc (fv 4) (fc (aC VU hr (by omega) rfl (fc (fv 1) (fc (fv 7) aA))) (fc (aC VU hr (by omega) rfl (fc (fv 1) (fc (fv 8) aA))) (fc rE aA))))))))
 (aK (aR (vX (N':=["low","high","name"]) (t:=3) (cap:=[]) rfl (bK.of rfl) rfl (by decide) (dF rfl (fv 4)) (λ_ _ _ _=>(cE (n:=3) rfl rfl (aJ (aI (i:=0) (show JT (["low","high","name"]:List Str) by decide +kernel) rfl (IV rfl) (JW rfl)) (aJ (aI (i:=1) (show JT (["low","high","name"]:List Str) by decide +kernel) rfl (IV rfl) (JW rfl)) (aJ (aI (i:=2) (show JT (["low","high","name"]:List Str) by decide +kernel) rfl (IV rfl) (JW rfl)) bS))))) (λ_ _ _ _=>(Sl (fv 2) (bE _))) (λ_ _ _ _=>(aL (fc (fv 0) (fc (fv 1) aA)))))))))))) ?rd
 case len=>rintro as Q ⟨shs,p,q,tw,rfl,_⟩;rfl
 case rd=>
  rintro as Q ⟨shs,p,q,tw,rfl,de,en,VZ,hn,z⟩;refine ⟨p,q,rfl,en.hp,en.hq,en.l,?_⟩;obtain ⟨g1,g2,ly⟩:=Hu en;unfold dE at z;generalize dI p q=sg at z g1 g2 ly ⊢;refine ⟨by decide,?_⟩;refine gH (f:=kI) (λs':List j3×Option U×Option U=>[some (.p (.lst (shs.map kI))),some (.p (.tup [pt p,pt q])),some (.p (.lst (tw.map rZ))),some (.p (AA sg)),some (.o false (s'.1.map nP)),s'.2.1,s'.2.2,none,none])
   (λss s'=>(∀s∈ss,mW s)/\jG s'.1/\Ch 0 false s'.1/\s'.1.length+2*(ss.length+tw.length)<=300/\Q (.l ((oB (ss.map λs=>aU s sg) (pP p q tw) s'.1).map O0)) []) ?_ ?_ shs (lC,none,none) ⟨de,?_,⟨by rw [iD],by rw [iD,jQ];grind,λz=>absurd z.1 (by decide),trivial⟩,by show 1+2*(shs.length+tw.length)<=300;omega,z⟩
  ·rintro s ss ⟨rs,v5,v6⟩ rest ⟨hss,hr,hc,hl,z⟩ K;have hs1:=hss s (by simp);have UN:∀s∈ss,mW s:=λx m=>hss x (by simp [m]);refine ⟨s,sg,rfl,hs1.b,g1,g2,ly,?_⟩;have ok:=Hz hs1.b g1 g2;replace z:Q (.l ((oB (aU s sg::ss.map λs=>aU s sg) (pP p q tw) rs).map O0)) []:=z;simp only [JE] at hl;have br:rs.length+2*(ss.length+tw.length)<=300:=by omega
   have hle:rs.length<=300:=by omega
   generalize aU s sg=r at z ok ⊢;cases r with
   | none=>
    exact K (rs,some (.p (kI s)),some (.p .non)) ⟨UN,hr,hc,br,z⟩
   | some r=>
    obtain ⟨lo,hi,h⟩:=r;obtain ⟨f1,f2⟩:=ok _ rfl;simp only at f1 f2;refine ⟨iC rfl,?_⟩;show if iG (.str (BB h)) (.str "left")=true then _ else _;rw [Xb];simp only [oB,dZ] at z
    by_cases c:h=1
    ·rw [decide_eq_true c,if_pos rfl];rw [if_pos c] at z;exact K (rs,some (.p (kI s)),some (.p (DF (some (lo,hi,h))))) ⟨UN,hr,hc,br,z⟩
    ·rw [decide_eq_false c,if_neg (by decide)];rw [if_neg c] at z;refine ⟨(show ¬(HT.sIx 3 0 none=0/\HT.sIx 3 3 (some 2)=3) by decide),iC rfl,?_⟩;show if iG (vc lo hi) (vc (0,1) (1,1))=true then _ else _;rw [X7]
     by_cases c2:lo=(0,1)/\hi=(1,1)
     ·rw [decide_eq_true c2,if_pos rfl];rw [if_pos c2] at z;exact ⟨rfl,z⟩
     ·rw [decide_eq_false c2,if_neg (by decide)];rw [if_neg c2] at z;have cp:=pF (rows:=rs) f1.d f2.d hr hc;have i1:=xA (0<val lo);have i2:=xA (0<val hi);refine ⟨rs,lo,hi,rfl,hle,hr,f1,f2,K (bU rs lo hi,some (.p (kI s)),some (.p (DF (some (lo,hi,h))))) ⟨UN,fT hr f1 f2,cp.1,by simp only;omega,z⟩⟩
  ·rintro ⟨rs,v5,v6⟩ ⟨_,hr,hc,hl,z⟩;simp only [MT,oB,dZ,LQ,PB] at z hl;refine gH (f:=rZ) (λs':List j3×Option U×Option U=>[some (.p (.lst (shs.map kI))),some (.p (.tup [pt p,pt q])),some (.p (.lst (tw.map rZ))),some (.p (AA sg)),some (.o false (s'.1.map nP)),v5,v6,s'.2.1,s'.2.2])
    (λts s'=>(∀x∈ts,Pb x.1/\Pb x.2)/\jG s'.1/\Ch 0 false s'.1/\s'.1.length+2*ts.length<=300/\Q (.l ((eY (lM (pP p q ts) s'.1)).map O0)) []) ?_ ?_ tw (rs,none,none) ⟨VZ,hr,hc,hl,z⟩
   ·rintro x ts ⟨rs,v7,v8⟩ rest ⟨hts,hr,hc,hl,z⟩ K;have hx:=hts x (by simp);simp only [JE] at hl;have hle:rs.length<=300:=by omega
    have a1:=jK en.hp en.hq hx.1 en.ne;have a2:=jK en.hp en.hq hx.2 en.ne;have cp:=pF (rows:=rs) a1.2.2.d a2.2.2.d hr hc;have i1:=xA (0<val (bX p q x.1));have i2:=xA (0<val (bX p q x.2));exact ⟨p,q,x.1,rfl,en.hp,en.hq,hx.1,en.ne,p,q,x.2,rfl,en.hp,en.hq,hx.2,en.ne,rs,_,_,rfl,hle,hr,a1.2.2,a2.2.2,K (bU rs (bX p q x.1) (bX p q x.2),some (.p (pt x.1)),some (.p (pt x.2))) ⟨λy m=>hts y (by simp [m]),fT hr a1.2.2 a2.2.2,cp.1,by simp only;omega,z⟩⟩
   ·rintro ⟨rs,v7,v8⟩ ⟨_,hr,hc,hl,z⟩;simp only [LQ] at hl;replace z:Q (.l ((eY rs).map O0)) []:=z;refine ⟨rfl,qC (f:=nP) (h:=λr=>O0 (r.1,r.2.1)) (λr=>!r.2.2) (λ(w:Option U×Option U×Option U) acc=>[w.1,w.2.1,w.2.2,some (.o false acc)]) rs (none,none,none) [] (by simp;omega) (λr m w acc rest ha K=>?_) λw=>?_⟩
    ·obtain ⟨a,b,g⟩:=r;cases g with
     | true=>exact K (some (.p (fr a)),some (.p (fr b)),some (.p (.bl true)))
     | false=>exact ⟨ha,K (some (.p (fr a)),some (.p (fr b)),some (.p .non))⟩
    ·rw [eY,JG] at z;exact ⟨aZ (λ_=>rfl) _,aZ (λ_=>rfl) _,z⟩
  ·intro r m;have e:r=((0,1),(1,1),false):=by simpa [lC] using m
   subst e;exact ⟨Ml,Mp⟩
end
end My
namespace My
open PySem L2 PyProof.Rows
section
variable {P:QJ} {w:QM} {K:W.Frag} {mg:Str->Option Value} {base:Heap}
abbrev pJ:=Nat×Nat×Pt×Pt
def rN (r:pJ):L2.T:=.tup [.int (r.1:Int),.int (r.2.1:Int),pt r.2.2.1,pt r.2.2.2]
structure EI where
 n:Nat
 k:Nat
 p:Pt
 q:Pt
 l:I3
def Dm (e:EI):L2.T:=.tup [.int (e.n:Int),.int (e.k:Int)]
abbrev AD:=List (I3×List Pr)
def dN:AD->I3->List Pr
 | [],_=>[]
 | (k,xs)::r,l=>if k=l then xs else dN r l
def jX:AD->I3->List Pr->AD
 | [],l,ys=>[(l,ys)]
 | (k,xs)::r,l,ys=>if k=l then (k,ys)::r else (k,xs)::jX r l ys
def cL (e:EI) (ps:List (Fr×Fr)):List pJ:=ps.map λx=>(e.n,e.k,iO e.p e.q (low x.1.1 x.1.2),iO e.p e.q (low x.2.1 x.2.2))
def mV (shs:List Sh):List EI->AD->List pJ
 | [],_=>[]
 | e::es,M=>cL e (dE shs e.p e.q (dN M e.l))++mV shs es (jX M e.l (dN M e.l++[(e.p,e.q)]))
theorem pE (l k:I3) (ys:List Pr):∀M:AD,dN (jX M l ys) k=if l=k then ys else dN M k
 | []=>rfl
 | (a,xs)::r=>by
  unfold jX
  by_cases c:a=l
  ·rw [if_pos c];unfold dN;subst c
   by_cases d:a=k
   ·rw [if_pos d,if_pos d]
   ·rw [if_neg d,if_neg d,if_neg d]
  ·rw [if_neg c];unfold dN;rw [pE l k ys r]
   by_cases d:a=k
   ·rw [if_pos d,if_pos d,if_neg (λz=>c (by rw [d,z]))]
   ·rw [if_neg d,if_neg d]
def ky (l:I3):List Key:=[Sum.inl l.1,Sum.inl l.2.1,Sum.inl l.2.2]
theorem yW {a b:I3}:ky a=ky b↔a=b:=by
 obtain ⟨a1,a2,a3⟩:=a;obtain ⟨b1,b2,b3⟩:=b;simp [ky]
def Nm (M:AD):MD:=M.map λx=>(ky x.1,x.2.map rZ)
theorem N2 {l:I3} {k:List Key->Prop} (h:k (ky l)):CP (some (t3 l)) k:=h
theorem Hl (l:I3):∀M:AD,getD (Nm M) (ky l)=(dN M l).map rZ
 | []=>rfl
 | (k,xs)::r=>by
  show (if ky k=ky l then xs.map rZ else getD (Nm r) (ky l))=(if k=l then xs else dN r l).map rZ
  by_cases c:k=l
  ·rw [if_pos (yW.mpr c),if_pos c]
  ·rw [if_neg (λz=>c (yW.mp z)),if_neg c,Hl l r]
theorem Hb (l:I3) (ys:List Pr):∀M:AD,xD (Nm M) (ky l) (ys.map rZ)=Nm (jX M l ys)
 | []=>rfl
 | (k,xs)::r=>by
  show (if ky k=ky l then (ky k,ys.map rZ)::Nm r else (ky k,xs.map rZ)::xD (Nm r) (ky l) (ys.map rZ))=Nm (if k=l then (k,ys)::r else (k,xs)::jX r l ys)
  by_cases c:k=l
  ·rw [if_pos (yW.mpr c),if_pos c];rfl
  ·rw [if_neg (λz=>c (yW.mp z)),if_neg c,Hb l ys r];rfl
theorem Ab (l:I3) (ys:List Pr):∀M:AD,(jX M l ys).length<=M.length+1
 | []=>by simp [jX]
 | (k,xs)::r=>by
  have:=Ab l ys r;unfold jX
  split<;>simp<;>omega
theorem w6 {α σ:Type} {g:FG} {F:Kw} {D:Vg} {f:α->L2.T} (mk:σ->En) (mm:σ->MD) (R:List α->σ->Prop) (hs:∀x xs s rest,R (x::xs) s->(∀s',R xs s'->tP g F D rest (mm s') (mk s'))->tP g F D (f x::rest) (mm s) (mk s)) (hd:∀s,R [] s->D.nx (mm s) (mk s)):∀xs s,R xs s->tP g F D (xs.map f) (mm s) (mk s)
 | [],s,h=>hd s h
 | x::xs,s,h=>hs x xs s _ h λs' h'=>w6 mk mm R hs hd xs s' h'
structure Yi (bs:List cR) (e:EI):Prop where
 ex:∃b,bs[e.n]? = some b/\b.o[e.k]? = some e.p/\b.o[(e.k+1)%b.o.length]? = some e.q/\(aW b).ls[e.k]? = some e.l
 en:tZ e.p e.q
def Mu (M:AD):Prop:=∀x∈M,∀y∈x.2,Pb y.1/\Pb y.2
theorem Ir {M:AD} (h:Mu M) (l:I3):∀y∈dN M l,Pb y.1/\Pb y.2:=by
 induction M with
 | nil=>intro y m;simp [dN] at m
 | cons x M ih=>
  obtain ⟨k,xs⟩:=x;intro y m;unfold dN at m;split at m
  ·exact h (k,xs) (by simp) y m
  ·exact ih (λz mz=>h z (by simp [mz])) y m
theorem Ka {M:AD} (h:Mu M) (l:I3) {ys:List Pr} (hy:∀y∈ys,Pb y.1/\Pb y.2):Mu (jX M l ys):=by
 induction M with
 | nil=>
  intro x m;have e:x=(l,ys):=by simpa [jX] using m
  subst e;exact hy
 | cons x M ih=>
  obtain ⟨k,xs⟩:=x;intro z m;unfold jX at m;split at m
  ·rcases IU.mp m with e | m
   ·subst e;exact hy
   ·exact h z (by simp [m])
  ·rcases IU.mp m with e | m
   ·subst e;exact h (k,xs) (by simp)
   ·exact ih (λz mz=>h z (by simp [mz])) z m
theorem K5 {rows:List j3} (h:jG rows):∀x∈eY rows,F2 x.1/\F2 x.2:=λx m=>by
 obtain ⟨r,mr,rfl⟩:=IP.mp m;exact h r (JV.mp mr).1
theorem D3:∀{ts:List (Fr×Fr)} {rows:List j3},(∀t∈ts,F2 t.1/\F2 t.2)->jG rows->jG (lM ts rows)
 | [],_,_,h=>h
 | t::ts,rows,ht,h=>D3 (ts:=ts) (rows:=bU rows t.1 t.2) (λx m=>ht x (by simp [m])) (fT h (ht t (by simp)).1 (ht t (by simp)).2)
theorem Ie:∀{os:List Ov} {rows rs:List j3},(∀o∈os,yQ o)->jG rows->dZ os rows=some rs->jG rs
 | [],rows,rs,_,h,e=>by cases e;exact h
 | none::os,rows,rs,ho,h,e=>Ie (os:=os) (λo m=>ho o (by simp [m])) h e
 | some r::os,rows,rs,ho,h,e=>by
  unfold dZ at e;have hr:=ho (some r) (by simp) r rfl;split at e
  ·exact Ie (os:=os) (λo m=>ho o (by simp [m])) h e
  ·split at e
   ·cases e
   ·exact Ie (os:=os) (λo m=>ho o (by simp [m])) (fT h hr.1 hr.2) e
theorem oQ {shs:List Sh} {p q:Pt} {tw:List Pr} (hs:∀s∈shs,mW s) (en:tZ p q) (VZ:∀x∈tw,Pb x.1/\Pb x.2):∀x∈dE shs p q tw,F2 x.1/\F2 x.2:=by
 obtain ⟨g1,g2,ly⟩:=Hu en;unfold dE oB;intro x m;split at m
 ·simp at m
 ·rename_i rs e;refine K5 (D3 (λt mt=>?_) (Ie (λo mo=>?_) (λr mr=>?_) e)) x m
  ·obtain ⟨y,my,rfl⟩:=IP.mp mt;exact ⟨(jK en.hp en.hq (VZ y my).1 en.ne).2.2,(jK en.hp en.hq (VZ y my).2 en.ne).2.2⟩
  ·obtain ⟨s,ms,rfl⟩:=IP.mp mo;exact Hz (hs s ms).b g1 g2
  ·have e:r=((0,1),(1,1),false):=by simpa [lC] using mr
   subst e;exact ⟨Ml,Mp⟩
theorem F2.low {p:Fr} (h:F2 p):dY (low p.1 p.2)/\sz (low p.1 p.2)<=300:=by
 have d:p.2≠0:=by have:=h.d;omega
 exact ⟨iV d,sW d (pl (gJ p) h.s) (pl (cG p) h.s) (by decide)⟩
theorem jF {b:cR} (h:Co b):mW (aW b):=⟨λl m=>by
 obtain ⟨x,mx,rfl⟩:=IP.mp m;exact D5 (xO h.pb x mx)⟩
theorem O8 (r:pJ):noL (rN r)=true:=rfl
def Ic:iN:=λas Q=>∃(bs:List cR) (es:List EI),as=[.v (.lst (bs.map eL)),.v (.lst (es.map Dm))]/\bs.length<=900/\(∀b∈bs,Co b)/\es.length<=900/\(∀e∈es,Yi bs e)/\bs.length+es.length<=100/\(mV (bs.map aW) es []).length<=900/\Q (.l ((mV (bs.map aW) es []).map rN)) []
abbrev kN (P w K mg base):=Fn P w K mg base 6 "bounds_of" ["blocks","edges"] (aX K Ic)
abbrev lT:QU:=top 37
theorem bW:aO ["blocks","edges","shapes","by_line","rows","number","edge","ends","twins","low","high","begin","end"] ["blocks","edges"] (aF lT):=g8
theorem xB {f:QF} {fd:QK} (F:eT K "bounds_of" "bounds_of" lT f fd) (TX:Txt mg) (VR:oP P w K mg base) (VS:pH P w K mg base) (VN:m7 P w K mg base) (VO:qR P w K mg base) (TH:fR P w K mg base)  (n_tri:Oq K):bJ P w K mg base fF 6 f fd ["blocks","edges"] (aX K Ic):=by
 refine F.okT bW ?len (λTQ A outer s H E hr=>(aE (bD (i:=2) bW.nd rfl (IV rfl) (aC VR hr (by omega) rfl (fc (fv 0) aA)))
 (U7 (i:=3) bW.nd rfl (IV rfl) (yY (zH (xZ (j:=4) bW.nd rfl (IV rfl) (d8 aA) (by decide)))
 (yY (T7 (p:=1) rfl PassesOwn.never rfl rfl (by first | exact IV rfl | exact JW (IV rfl) | exact JW (JW rfl)) (Vb (n:=2) rfl rfl (oA (sG (j:=5) bW.nd rfl (IV rfl) (by decide)) (oA (sG (j:=6) bW.nd rfl (IV rfl) (by decide)) Ji)))
  (yY (zH (xZ (j:=7) bW.nd rfl (IV rfl) (aC VS hr (by omega) rfl (fc (aH rfl (fv 0) (fv 5) (λ_ _=>rfl)) (fc (fv 6) aA))) (by decide)))
 (O7 (t:=8) hr rfl n_tri bW.nd rfl (IV rfl) rfl (by first | exact IV rfl | exact JW (IV rfl) | exact JW (JW rfl)) (by decide) (aH rfl (aH rfl (aH rfl (fv 2) (fv 5) (λ_ _=>rfl)) aB (λ_ _=>rfl)) (fv 6) (λ_ _=>rfl)) (yB (G7 PassesOwn.never rfl (dF rfl (aC VN hr (by omega) rfl (fc (fv 2) (fc (fv 7) (fc (fv 8) aA))))) (Vb (n:=2) rfl rfl (oA (sG (j:=9) bW.nd rfl (IV rfl) (by decide)) (oA (sG (j:=10) bW.nd rfl (IV rfl) (by decide)) Ji)))
  (yB (xZ (j:=11) bW.nd rfl (IV rfl) (aC VO hr (by omega) rfl (fc (aH rfl (fv 7) aB (λ_ _=>rfl)) (fc (aH rfl (fv 7) aB (λ_ _=>rfl)) (fc (aC TH hr (by omega) rfl (fc (aH rfl (fv 9) aB (λ_ _=>rfl)) (fc (aH rfl (fv 9) aB (λ_ _=>rfl)) aA))) aA)))) (by decide))
 (yB (xZ (j:=12) bW.nd rfl (IV rfl) (aC VO hr (by omega) rfl (fc (aH rfl (fv 7) aB (λ_ _=>rfl)) (fc (aH rfl (fv 7) aB (λ_ _=>rfl)) (fc (aC TH hr (by omega) rfl (fc (aH rfl (fv 10) aB (λ_ _=>rfl)) (fc (aH rfl (fv 10) aB (λ_ _=>rfl)) aA))) aA)))) (by decide))
 (Rb (Hy (fX rfl (fv 4) (fc (aL (fc (fv 5) (fc (fv 6) (fc (fv 11) (fc (fv 12) aA))))) aA)))))))
 (Rb (Hy (fX rfl (fv 8) (fc (fv 7) aA))))) ⟨rfl,rfl,rfl,rfl⟩)))
 (V0 (zH (J0 (fv 4))))))))) ?rd
 case len=>rintro as Q ⟨bs,es,rfl,_⟩;rfl
 case rd=>
  rintro as Q ⟨bs,es,rfl,hl,hb,hle,he,hok,hlen,z⟩;have dj:(bs.map aW).length+es.length<=100:=by rw [IS];exact hok
  refine ⟨bs,rfl,hl,hb,?_⟩;have de:∀s∈bs.map aW,mW s:=λs m=>by
   obtain ⟨b,mb,rfl⟩:=IP.mp m;exact jF (hb b mb)
  have iw:∀e,Yi bs e->∃(b:cR) (s:Sh),bs[e.n]? = some b/\b.o[e.k]? = some e.p/\b.o[(e.k+1)%b.o.length]? = some e.q/\(bs.map aW)[e.n]? = some s/\s.ls[e.k]? = some e.l/\b.o.length<=900:=λe h=>by
   obtain ⟨b,h1,h2,h3,h4⟩:=h.ex;exact ⟨b,aW b,h1,h2,h3,by rw [JC,h1];rfl,h4,(hb b (JA h1)).len⟩
  generalize bs.map aW=shs at dj hlen z de iw ⊢;refine w6 (f:=Dm) (λs':List L2.T×AD×Option U×Option U×Option U×Option U×Option U×Option U×Option U=>[some (.p (.lst (bs.map eL))),some (.p (.lst (es.map Dm))),some (.o false (shs.map kI)),none,some (.o false s'.1),s'.2.2.1,s'.2.2.2.1,s'.2.2.2.2.1,none,s'.2.2.2.2.2.1,s'.2.2.2.2.2.2.1,s'.2.2.2.2.2.2.2.1,s'.2.2.2.2.2.2.2.2]) (λs'=>Nm s'.2.1)
   (λYK s'=>(∀e∈YK,Yi bs e)/\Mu s'.2.1/\s'.2.1.length+YK.length<=900/\(∀l,(dN s'.2.1 l).length+YK.length<=es.length)/\s'.1.length+(mV shs YK s'.2.1).length<=900/\d9 s'.1=true/\Q (.l (s'.1++(mV shs YK s'.2.1).map rN)) []) ?_ ?_ es ([],[],none,none,none,none,none,none,none) ⟨he,λx m=>absurd m (by simp),by simp;omega,λl=>by simp [dN],by simp;omega,rfl,z⟩
  ·rintro e YK ⟨acc,M,v5,v6,v7,v9,v10,v11,YQ⟩ rest ⟨om,hM,qf,hok,hlen,WE,z⟩ K;have hE:=om e (by simp);obtain ⟨b,s,h1,h2,h3,h4,h5,h6⟩:=iw e hE;simp only [JE] at qf;have vo:=hok e.l;simp only [JE] at vo;simp only [mV] at hlen z;show o1 (lE (bs.map eL) (e.n:Int)) _;rw [lN h1];refine ⟨b,e.k,e.p,e.q,rfl,h6,h2,h3,?_⟩;show o1 (lE (shs.map kI) (e.n:Int)) _;rw [lN h4];show o1 (lE (s.ls.map t3) (e.k:Int)) _;rw [lN h5];refine ⟨rfl,(show (Nm M).length<1000 by rw [Nm,IS];omega),?_⟩;have VZ:=Ir hM e.l;have hfr:=oQ de hE.en VZ;refine N2 (l:=e.l) ?_;refine (?_:rC [some (.p (.lst (bs.map eL))),some (.p (.lst (es.map Dm))),some (.o false (shs.map kI)),none,some (.o false acc),some (.p (.int (e.n:Int))),some (.p (.int (e.k:Int))),some (.p (rZ (e.p,e.q))),some (.o false (getD (Nm M) (ky e.l))),v9,v10,v11,YQ] _);rw [Hl];have hps:(dE shs e.p e.q (dN M e.l)).length<=900:=by
    have:(cL e (dE shs e.p e.q (dN M e.l))).length=(dE shs e.p e.q (dN M e.l)).length:=by rw [cL,IS]
    rw [IY,this] at hlen;omega
   refine ⟨shs,e.p,e.q,dN M e.l,rfl,de,hE.en,VZ,by omega,?_⟩;refine gH (f:=O0) (λs':List L2.T×Option U×Option U×Option U×Option U=>[some (.p (.lst (bs.map eL))),some (.p (.lst (es.map Dm))),some (.o false (shs.map kI)),none,some (.o false s'.1),some (.p (.int (e.n:Int))),some (.p (.int (e.k:Int))),some (.p (rZ (e.p,e.q))),some (.o false ((dN M e.l).map rZ)),s'.2.1,s'.2.2.1,s'.2.2.2.1,s'.2.2.2.2])
    (λps s'=>(∀x∈ps,F2 x.1/\F2 x.2)/\d9 s'.1=true/\s'.1.length+ps.length+(mV shs YK (jX M e.l (dN M e.l++[(e.p,e.q)]))).length<=900/\Q (.l (s'.1++(cL e ps).map rN++(mV shs YK (jX M e.l (dN M e.l++[(e.p,e.q)]))).map rN)) []) ?_ ?_ _ (acc,v9,v10,v11,YQ) ⟨hfr,WE,?_,?_⟩
   ·rintro x ps ⟨acc,v9,v10,v11,YQ⟩ rest ⟨hf,WE,hlen,z⟩ K;obtain ⟨f1,f2⟩:=hf x (by simp);have d1:x.1.2≠0:=by have:=f1.d;omega
    have d2:x.2.2≠0:=by have:=f2.d;omega
    simp only [JE] at hlen;refine ⟨x.1.1,x.1.2,rfl,d1,oU (cG x.1) (by have:=f1.s;omega),e.p,e.q,_,rfl,hE.en.hp,hE.en.hq,f1.low.1,f1.low.2,?_⟩;refine ⟨x.2.1,x.2.2,rfl,d2,oU (cG x.2) (by have:=f2.s;omega),e.p,e.q,_,rfl,hE.en.hp,hE.en.hq,f2.low.1,f2.low.2,?_⟩;refine ⟨by rw [IY];simp;omega,K (acc++[rN (e.n,e.k,iO e.p e.q (low x.1.1 x.1.2),iO e.p e.q (low x.2.1 x.2.2))],some (.p (fr x.1)),some (.p (fr x.2)),_,_) ⟨λy m=>hf y (by simp [m]),by rw [j6,WE];rfl,by simp;omega,?_⟩⟩;have:acc++(cL e (x::ps)).map rN=(acc++[rN (e.n,e.k,iO e.p e.q (low x.1.1 x.1.2),iO e.p e.q (low x.2.1 x.2.2))])++(cL e ps).map rN:=by simp [cL]
    rw [<-this];exact z
   ·rintro ⟨acc,v9,v10,v11,YQ⟩ ⟨_,WE,hlen,z⟩;have e0:acc++(cL e []).map rN=acc:=by simp [cL]
    rw [e0] at z;have hgl:(dN M e.l).length<=100:=by omega
    refine ⟨by rw [IY,IS];simp;omega,?_,?_⟩
    ·rw [j6,aZ (λ_=>rfl)];rfl
    ·have e1:(dN M e.l).map rZ++[rZ (e.p,e.q)]=(dN M e.l++[(e.p,e.q)]).map rZ:=by simp
     have e2:xD (Nm M) (ky e.l) ((dN M e.l).map rZ++[rZ (e.p,e.q)])=Nm (jX M e.l (dN M e.l++[(e.p,e.q)])):=by rw [e1,Hb]
     have qh:Mu (jX M e.l (dN M e.l++[(e.p,e.q)])):=Ka hM e.l λy m=>by
      rcases JJ.mp m with m | m
      ·exact VZ y m
      ·have ey:y=(e.p,e.q):=by simpa using m
       subst ey;exact ⟨hE.en.hp,hE.en.hq⟩
     have aj:=Ab e.l (dN M e.l++[(e.p,e.q)]) M;have iu:∀l,(dN (jX M e.l (dN M e.l++[(e.p,e.q)])) l).length+YK.length<=es.length:=λl=>by
      rw [pE];have:=hok l;simp only [JE] at this
      by_cases c:e.l=l
      ·rw [if_pos c,IY,KZ];omega
      ·rw [if_neg c];omega
     have fin:=K (acc,jX M e.l (dN M e.l++[(e.p,e.q)]),some (.p (.int (e.n:Int))),some (.p (.int (e.k:Int))),some (.p (rZ (e.p,e.q))),v9,v10,v11,YQ) ⟨λy m=>om y (by simp [m]),qh,by show (jX M e.l (dN M e.l++[(e.p,e.q)])).length+_<=900;omega,iu,by simp only [LQ] at hlen;show acc.length+_<=900;omega,WE,z⟩;simp only at fin;rw [<-e2] at fin;exact fin
   ·rw [IY,show (cL e (dE shs e.p e.q (dN M e.l))).length=(dE shs e.p e.q (dN M e.l)).length by rw [cL,IS]] at hlen;show acc.length+_+_<=900;omega
   ·rw [KU,<-IZ] at z;exact z
  ·rintro ⟨acc,M,v5,v6,v7,v9,v10,v11,YQ⟩ ⟨_,_,_,_,_,WE,z⟩;have e:acc++(mV shs [] M).map rN=acc:=by simp [mV]
   rw [e] at z;exact ⟨WE,z⟩
end
end My
namespace My
open PySem L2 PyProof.Rows
section
variable {P:QJ} {w:QM} {K:W.Frag} {mg:Str->Option Value} {base:Heap}
def DI:Pt:=((0,1),(0,1))
def pN (n:Nat) (b:cR) (k:Nat):EI:=⟨n,k,b.o.getD k DI,b.o.getD ((k+1)%b.o.length) DI,(aW b).ls.getD k (0,0,0)⟩
def Wd (marks:Str) (c:Nat):Bool:=!(Builtin.Str.occurrences marks ⟨#[c]⟩ 0 marks.length 1).isEmpty
def Hn (m:Str) (k:Nat):Nat:=m.cps.toList.getD k 0
def Dg (marks:Str) (n:Nat) (b:cR):List EI:=((LA b.o.length).filter λk=>Wd marks (Hn b.m k)).map (pN n b)
def cC (bs:List cR) (marks:Str):List EI:=bs.zipIdx.flatMap λx=>Dg marks x.2 x.1
def dS (bs:List cR) (marks:Str):List pJ:=mV (bs.map aW) (cC bs marks) []
structure Mf (bs:List cR) (marks:Str):Prop where
 len:bs.length<=10
 bk:∀b∈bs,Co b
 six:∀b∈bs,b.o.length<=6/\b.m.cps.size=b.o.length
 en:∀e∈cC bs marks,tZ e.p e.q
 rows:(dS bs marks).length<=900
theorem Lr {o:List Pt} (h:0<o.length):(dA o).length=o.length:=by
 simp only [dA,oY,IS,OH,IY,MX,KP];omega
theorem pL {α:Type} {xs:List α} {k:Nat} {d:α} (h:k<xs.length):xs[k]? = some (xs.getD k d):=by
 rw [JM,IQ h];rfl
theorem oZ {bs:List cR} {marks:Str} {e:EI} (m:e∈cC bs marks):∃b,bs[e.n]? = some b/\e.k<b.o.length/\Wd marks (Hn b.m e.k)=true/\e=pN e.n b e.k:=by
 obtain ⟨x,mx,m⟩:=KQ.mp m;obtain ⟨k,mk,rfl⟩:=IP.mp m;obtain ⟨h1,h2⟩:=JV.mp mk;exact ⟨x.1,KH.mp mx,LI.mp h1,h2,rfl⟩
theorem Zr {bs:List cR} {marks:Str} (h:Mf bs marks):∀e∈cC bs marks,Yi bs e:=λe m=>by
 refine ⟨?_,h.en e m⟩;obtain ⟨b,hx,hk,_,ee⟩:=oZ m;have hb:=h.bk b (JA hx);rw [ee];refine ⟨b,hx,pL hk,pL (OF _ hb.pos),pL ?_⟩;show e.k<((dA b.o).map cJ).length;rw [IS,Lr hb.pos];exact hk
theorem Je {α β:Type} {f:α->List β} {m:Nat}:∀{xs:List α},(∀x∈xs,(f x).length<=m)->(xs.flatMap f).length<=m*xs.length
 | [],_=>by simp
 | x::xs,h=>by
  have h1:=h x (by simp);have h2:=Je (xs:=xs) λy m=>h y (by simp [m]);rw [LP,IY,JE,Nat.mul_succ];omega
theorem yU {marks:Str} {n:Nat} {b:cR}:(Dg marks n b).length<=b.o.length:=by
 unfold Dg;rw [IS];have:=List.length_filter_le (λk=>Wd marks (Hn b.m k)) (LA b.o.length);rw [List.length_range] at this;exact this
theorem uD {bs:List cR} {marks:Str} (h:∀b∈bs,b.o.length<=6):(cC bs marks).length<=6*bs.length:=by
 have:=Je (f:=λx:cR×Nat=>Dg marks x.2 x.1) (m:=6) (xs:=bs.zipIdx) λx m=>KS yU (h x.1 (JA (KH.mp m)));rw [List.length_zipIdx] at this;exact this
theorem BV (m:Str):((kM m).zipIdx.map λq=>L2.T.tup [.int (q.2:Int),q.1])=(LA m.cps.size).map λ(k:Nat)=>L2.T.tup [.int (k:Int),.str ⟨#[Hn m k]⟩]:=by
 refine List.ext_getElem? λi=>?_;unfold kM Hn;rw [JC,JC,MQ,JC]
 by_cases c:i<m.cps.size
 ·have c':i<m.cps.toList.length:=by simpa using c
  rw [OJ c,IQ c'];simp only [Option.map_some,PB];rw [JM,IQ c'];rfl
 ·have c':m.cps.toList.length<=i:=by simpa using c
  rw [MF c',MF (by simpa using c)];rfl
theorem Ru {α:Type} (f:α->L2.T) (xs:List α):((xs.map f).zipIdx.map λq=>L2.T.tup [.int (q.2:Int),q.1])=xs.zipIdx.map λq=>L2.T.tup [.int (q.2:Int),f q.1]:=by
 rw [PN,JG];rfl
def D9:iN:=λas Q=>∃(bs:List cR) (marks:Str),as=[.v (.lst (bs.map eL)),.v (.str marks)]/\Mf bs marks/\Q (.l ((dS bs marks).map rN)) []
abbrev Uh (P w K mg base):=Fn P w K mg base 7 "rim" ["blocks","marks"] (aX K D9)
abbrev Ua:QU:=top 38
theorem xS:aO ["blocks","marks","edges","number","block"] ["blocks","marks"] (aF Ua):=g8
theorem R3 {f:QF} {fd:QK} (F:eT K "rim" "rim" Ua f fd) (TX:Txt mg) (UP:kN P w K mg base)   : bJ P w K mg base fF 7 f fd ["blocks","marks"] (aX K D9):=by
 refine F.okT xS ?len (λTQ A outer s H E hr=>(aE (bD (i:=2) xS.nd rfl (IV rfl) (d8 aA))
 (aE (gY PassesOwn.never rfl (zA rfl rfl TX.n_enumerate (fc (fv 0) aA)) (cE (n:=2) rfl rfl (aJ (aI (i:=3) xS.nd rfl (JW rfl)) (aJ (aI (i:=4) xS.nd rfl (IV rfl)) bS)))
  (aK (gG (wQ rfl (fv 2) (fc (vX (N':=["edge","mark","number","marks"]) (t:=2) (cap:=[(3,false),(1,false)]) rfl (bK.of rfl) rfl (by decide) (Pe rfl TX.n_enumerate (fc (aH rfl (fv 4) aB (λ_ _=>rfl)) aA)) (λ_ _ _ _=>(cE (n:=2) rfl rfl (aJ (aI (i:=0) (show JT (["edge","mark","number","marks"]:List Str) by decide +kernel) rfl (IV rfl) (JW rfl)) (aJ (aI (i:=1) (show JT (["edge","mark","number","marks"]:List Str) by decide +kernel) rfl (IV rfl) (JW rfl)) bS)))) (λ_ _ _ _=>(O5 (fv 1) (fv 3))) (λ_ _ _ _=>(aL (fc (fv 2) (fc (fv 0) aA))))) aA)))))
 (aK (aR (aC UP hr (by omega) rfl (fc (fv 0) (fc (fv 2) aA)))))))) ?rd
 case len=>rintro as Q ⟨bs,marks,rfl,_⟩;rfl
 case rd=>
  rintro as Q ⟨bs,marks,rfl,h,z⟩;show fA _ _ _ ((bs.map eL).zipIdx.map λq=>L2.T.tup [.int (q.2:Int),q.1]) _;rw [Ru];refine gH (f:=λq:cR×Nat=>L2.T.tup [.int (q.2:Int),eL q.1]) (λs':List L2.T×Option U×Option U=>[some (.p (.lst (bs.map eL))),some (.p (.str marks)),some (.o false s'.1),s'.2.1,s'.2.2])
   (λxs s'=>(∀x∈xs,x.1∈bs)/\s'.1.length+6*xs.length<=900/\d9 s'.1=true/\s'.1++(xs.flatMap λx=>Dg marks x.2 x.1).map Dm=(cC bs marks).map Dm) ?_ ?_ bs.zipIdx ([],none,none) ⟨λx m=>JA (KH.mp m),by have:=h.len;simp;omega,rfl,rfl⟩
  ·rintro x xs ⟨acc,v3,v4⟩ rest ⟨hx,hl,WE,e⟩ K;obtain ⟨b,n⟩:=x;obtain ⟨f1,f2⟩:=h.six b (hx (b,n) (by simp));simp only [JE] at hl;refine ⟨rfl,?_⟩;show jH _ _ _ ((kM b.m).zipIdx.map λq=>L2.T.tup [.int (q.2:Int),q.1]) _ _;rw [BV,f2];refine qC (f:=λk:Nat=>L2.T.tup [.int (k:Int),.str ⟨#[Hn b.m k]⟩]) (h:=λk:Nat=>L2.T.tup [.int (n:Int),.int (k:Int)]) (λk=>Wd marks (Hn b.m k)) (λ(w:Option U×Option U) acc=>[w.1,w.2,some (.p (.int (n:Int))),some (.p (.str marks)),some (.o false acc)]) _ (none,none) [] (by simp;omega) (λk m w acc rest ha K=>?_) λw=>?_
   ·have kk:=K (some (.p (.int (k:Int))),some (.p (.str ⟨#[Hn b.m k]⟩)));show if Wd marks (Hn b.m k)=true then _ else _
    by_cases c:Wd marks (Hn b.m k)=true
    ·rw [if_pos c];rw [if_pos c] at kk;exact ⟨ha,kk⟩
    ·rw [if_neg c];rw [if_neg c] at kk;exact kk
   ·have en:([]++((LA b.o.length).filter λk=>Wd marks (Hn b.m k)).map λk:Nat=>L2.T.tup [.int (n:Int),.int (k:Int)])=(Dg marks n b).map Dm:=by
     rw [LC];unfold Dg;rw [JG];rfl
    rw [en];have el:=yU (marks:=marks) (n:=n) (b:=b);refine ⟨aZ (λ_=>rfl) _,?_,?_⟩
    ·show (acc++_).length<=1000;rw [IY,IS];omega
    ·refine K (acc++(Dg marks n b).map Dm,some (.p (.int (n:Int))),some (.p (eL b))) ⟨λy m=>hx y (by simp [m]),by simp only [IY,IS];omega,by rw [j6,WE,aZ (λ_=>rfl)];rfl,?_⟩;rw [LP,KU] at e;rw [IZ];exact e
  ·rintro ⟨acc,v3,v4⟩ ⟨_,hl,WE,e⟩;have e0:acc=(cC bs marks).map Dm:=by simpa using e
   subst e0;have:=uD (marks:=marks) λb m=>(h.six b m).1;have:=h.len;refine ⟨bs,cC bs marks,rfl,by omega,h.bk,by omega,Zr h,by omega,h.rows,?_⟩;exact ⟨aZ O8 _,z⟩
theorem lR {shs:List Sh} {p q:Pt} {tw:List Pr} (hs:∀s∈shs,mW s) (en:tZ p q) (VZ:∀x∈tw,Pb x.1/\Pb x.2):(dE shs p q tw).length<=1+shs.length+tw.length/\Aq 0 false (dE shs p q tw):=by
 obtain ⟨g1,g2,ly⟩:=Hu en;have r0:jG lC:=λr m=>by
  have e:r=((0,1),(1,1),false):=by simpa [lC] using m
  subst e;exact ⟨Ml,Mp⟩
 have c0:Ch 0 false lC:=⟨by rw [iD],by rw [iD,jQ];grind,λz=>absurd z.1 (by decide),trivial⟩;have go:∀(os:List Ov) (rows rs:List j3),(∀o∈os,yQ o)->jG rows->Ch 0 false rows->dZ os rows=some rs->jG rs/\Ch 0 false rs/\uV rs<=uV rows+os.length:=λos=>by
  induction os with
  | nil=>intro rows rs _ h1 h2 e;cases e;exact ⟨h1,h2,by simp⟩
  | cons o os ih=>
   intro rows rs ho h1 h2 e;have WZ:∀o∈os,yQ o:=λx m=>ho x (by simp [m]);cases o with
   | none=>
    obtain ⟨a,b,c⟩:=ih rows rs WZ h1 h2 e;exact ⟨a,b,by simp only [JE];omega⟩
   | some r=>
    unfold dZ at e;obtain ⟨f1,f2⟩:=ho (some r) (by simp) r rfl;split at e
    ·obtain ⟨a,b,c⟩:=ih rows rs WZ h1 h2 e;exact ⟨a,b,by simp only [JE];omega⟩
    ·split at e
     ·cases e
     ·have cp:=pF f1.d f2.d h1 h2;obtain ⟨a,b,c⟩:=ih _ rs WZ (fT h1 f1 f2) cp.1 e;have:=xA (0<val r.1);exact ⟨a,b,by simp only [JE];omega⟩
 have tg:∀(ts:List (Fr×Fr)) (rows:List j3),(∀t∈ts,F2 t.1/\F2 t.2)->jG rows->Ch 0 false rows->Ch 0 false (lM ts rows)/\uV (lM ts rows)<=uV rows+ts.length:=λts=>by
  induction ts with
  | nil=>intro rows _ _ h2;exact ⟨h2,by simp [lM]⟩
  | cons t ts ih=>
   intro rows ht h1 h2;obtain ⟨f1,f2⟩:=ht t (by simp);have cp:=pF f1.d f2.d h1 h2;obtain ⟨a,b⟩:=ih _ (λx m=>ht x (by simp [m])) (fT h1 f1 f2) cp.1;have:=xA (0<val t.1);exact ⟨a,by simp only [JE];unfold lM;omega⟩
 have vw:∀o∈shs.map (λs=>aU s (dI p q)),yQ o:=λo m=>by
  obtain ⟨s,ms,rfl⟩:=IP.mp m;exact Hz (hs s ms).b g1 g2
 have vx:∀t∈pP p q tw,F2 t.1/\F2 t.2:=λt m=>by
  obtain ⟨y,my,rfl⟩:=IP.mp m;exact ⟨(jK en.hp en.hq (VZ y my).1 en.ne).2.2,(jK en.hp en.hq (VZ y my).2 en.ne).2.2⟩
 unfold dE oB;cases g:dZ (shs.map λs=>aU s (dI p q)) lC with
 | none=>exact ⟨by simp,trivial⟩
 | some rs=>
  obtain ⟨a,b,c⟩:=go _ _ _ vw r0 c0 g;obtain ⟨d,e⟩:=tg (pP p q tw) rs vx a b;refine ⟨?_,Pc d⟩;have eb:(eY (lM (pP p q tw) rs)).length=uV (lM (pP p q tw) rs):=by unfold eY uV;rw [IS]
  show (eY (lM (pP p q tw) rs)).length<=_;have n0:uV lC=1:=rfl;have l1:(pP p q tw).length=tw.length:=by unfold pP;rw [IS]
  rw [IS] at c;omega
theorem Sa {shs:List Sh} (hs:∀s∈shs,mW s):∀(es:List EI) (M:AD) (m:Nat),(∀e∈es,tZ e.p e.q)->Mu M->(∀l,(dN M l).length<=m)->2*(mV shs es M).length<=es.length*(2*(1+shs.length+m)+es.length)
 | [],M,m,_,_,_=>by simp [mV]
 | e::es,M,m,he,hM,hm=>by
  have en:=he e (by simp);have VZ:=Ir hM e.l;have h1:=(lR hs en VZ).1;have hg:=hm e.l;have ih:=Sa hs es (jX M e.l (dN M e.l++[(e.p,e.q)])) (m+1) (λx mx=>he x (by simp [mx])) (Ka hM e.l λy my=>by
   rcases JJ.mp my with my | my
   ·exact VZ y my
   ·rw [JB] at my;rw [my];exact ⟨en.hp,en.hq⟩) (λl=>by
   rw [pE]
   by_cases c:e.l=l
   ·rw [if_pos c,IY,KZ];omega
   ·rw [if_neg c];have:=hm l;omega)
  unfold mV;rw [IY,JE,show (cL e (dE shs e.p e.q (dN M e.l))).length=(dE shs e.p e.q (dN M e.l)).length by rw [cL,IS]];generalize es.length=n at *;have e1:n*(2*(1+shs.length+(m+1))+n)=n*(2*(1+shs.length+m))+(2*n+n*n):=by grind
  have e2:(n+1)*(2*(1+shs.length+m)+(n+1))=n*(2*(1+shs.length+m))+2*(1+shs.length+m)+(n*n+2*n+1):=by grind
  omega
end
end My
namespace My
open PySem L2 PyProof.Rows
section
variable {P:QJ} {w:QM} {K:W.Frag} {mg:Str->Option Value} {base:Heap}
theorem nV {x:Rat} (h:x≠0):0<x*x:=by
 by_cases c:0<x
 ·exact Rat.mul_pos c c
 ·have:=Rat.mul_pos (a:=-x) (b:=-x) (by grind) (by grind);grind
theorem F0 (x:Rat):0<=x*x:=by
 by_cases c:x=0
 ·rw [c];grind
 ·exact Rat.le_of_lt (nV c)
theorem E9 {A:Rat} (h:0<A):0<A.num:=by
 have h1:0<=A.num:=Rat.num_nonneg.mpr (Rat.le_of_lt h);have h2:A.num≠0:=λz=>by have:=Rat.num_eq_zero.mp z;grind
 omega
theorem Kj (A:Rat):A*(A.den:Rat)=(A.num:Rat):=by
 have e:=Rat.num_divInt_den A;rw [Rat.divInt_eq_div] at e;have n:((A.den:Int):Rat)≠0:=by have:=A.den_pos;exact_mod_cast (show A.den≠0 by omega)
 have n':(A.den:Rat)=((A.den:Int):Rat):=by push_cast;rfl
 rw [n'];grind
def vq (p:Pt):Q2:=(val p.1,val p.2)
structure lD (p:Pt):Prop where
 w:1<=(aG p).2.2
 x:((aG p).1:Rat)=val p.1*((aG p).2.2:Rat)
 y:((aG p).2.1:Rat)=val p.2*((aG p).2.2:Rat)
theorem spt {p:Pt} (hx:dY p.1) (hy:dY p.2):lD p:=by
 have dx:=hx.d;have dy:=hy.d;have g0:0<gZ p.1.2 p.2.2:=Qu (by omega);have d1:gZ p.1.2 p.2.2∣p.1.2:=KI.mpr (LV _ _);have d2:gZ p.1.2 p.2.2∣p.2.2:=KI.mpr (LY _ _);have e1:p.1.2.fdiv (gZ p.1.2 p.2.2)=p.1.2/gZ p.1.2 p.2.2:=oS _ _;have e2:p.2.2.fdiv (gZ p.1.2 p.2.2)=p.2.2/gZ p.1.2 p.2.2:=oS _ _;obtain ⟨a,ha⟩:=d1;obtain ⟨b,hb⟩:=d2;have f1:p.1.2.fdiv (gZ p.1.2 p.2.2)=a:=by rw [e1];exact OQ (by omega) ha
 have f2:p.2.2.fdiv (gZ p.1.2 p.2.2)=b:=by rw [e2];exact OQ (by omega) hb
 have es:aG p=(p.1.1*b,p.2.1*a,a*p.2.2):=by unfold aG;rw [f1,f2]
 have ap:0<a:=by
  rcases Int.lt_or_le 0 a with h | h
  ·exact h
  ·have:=NX (Int.le_of_lt g0) h;omega
 have c:a*p.2.2=p.1.2*b:=by
  have t1:a*p.2.2=a*(gZ p.1.2 p.2.2*b):=by rw [<-hb]
  have t2:p.1.2*b=gZ p.1.2 p.2.2*a*b:=by rw [<-ha]
  rw [t1,t2];grind
 have c':(a:Rat)*(p.2.2:Rat)=(p.1.2:Rat)*(b:Rat):=by exact_mod_cast c
 have v1:=Qk hx;have v2:=Qk hy;refine ⟨?_,?_,?_⟩
 ·rw [es];show 1<=a*p.2.2;have:=ON ap (show 0<p.2.2 by omega);omega
 ·rw [es];show ((p.1.1*b:Int):Rat)=val p.1*((a*p.2.2:Int):Rat)
  push_cast
  rw [c'];grind
 ·rw [es];show ((p.2.1*a:Int):Rat)=val p.2*((a*p.2.2:Int):Rat)
  push_cast
  grind
theorem lD.p {p:Pt} (h:lD p):(0:Rat)<((aG p).2.2:Rat):=by have:=h.w;exact_mod_cast (show (0:Int)<(aG p).2.2 by omega)
def eR (c d:Pt):I3:=lH (aG c) (aG d)
theorem uK {c d x:Pt} (hc:lD c) (hd:lD d) (hx:lD x):((eM (eR c d) (aG x):Int):Rat)=((aG c).2.2:Rat)*((aG d).2.2:Rat)*((aG x).2.2:Rat)*fE (vq c,vq d) (vq x):=by
 unfold eM eR lH fE crs aP aV vq
 push_cast
 rw [hc.x,hc.y,hd.x,hd.y,hx.x,hx.y];grind
theorem pV {l:I3} (h:g3 l≠0):0<g3 l:=by
 have:0<=g3 l:=by unfold g3 gZ;omega
 omega
theorem Um (l:I3):g3 l∣l.1/\g3 l∣l.2.1/\g3 l∣l.2.2:=by
 have d1:gZ l.1 l.2.1∣l.1:=KI.mpr (LV _ _);have d2:gZ l.1 l.2.1∣l.2.1:=KI.mpr (LY _ _);have d3:g3 l∣gZ l.1 l.2.1:=KI.mpr (LV _ _);have d4:g3 l∣l.2.2:=KI.mpr (LY _ _);exact ⟨Int.dvd_trans d3 d1,Int.dvd_trans d3 d2,d4⟩
theorem mL {l:I3} (h:g3 l≠0):l.1=g3 l*(cJ l).1/\l.2.1=g3 l*(cJ l).2.1/\l.2.2=g3 l*(cJ l).2.2:=by
 obtain ⟨d1,d2,d3⟩:=Um l;have k:∀i,g3 l∣i->i=g3 l*i.fdiv (g3 l):=λi di=>by
  have:i.fdiv (g3 l)=i/g3 l:=oS _ _;rw [this];exact (Int.mul_ediv_cancel' di).symm
 exact ⟨k _ d1,k _ d2,k _ d3⟩
theorem Dq (n:Nat) (l:I3):g3 ((n:Int)*l.1,(n:Int)*l.2.1,(n:Int)*l.2.2)=(n:Int)*g3 l:=by
 unfold g3 gZ;simp only [KG,NF,Nat.gcd_mul_left]
 push_cast;rfl
theorem Jy {l:I3} (h:g3 l≠0):g3 (cJ l)=1:=by
 obtain ⟨e1,e2,e3⟩:=mL h;have p:=pV h;obtain ⟨n,hn⟩:∃n:Nat,g3 l=(n:Int):=⟨(g3 l).toNat,by omega⟩;have k:=Dq n (cJ l);rw [<-hn,<-e1,<-e2,<-e3] at k;have k':g3 l*g3 (cJ l)=g3 l*1:=by rw [Int.mul_one];exact k.symm
 exact OU h k'
theorem Ob {l o:I3} {m n:Int} (hl:g3 l≠0) (ho:g3 o≠0) (hm:0<m) (hn:0<n) (e1:n*l.1=m*o.1) (e2:n*l.2.1=m*o.2.1) (e3:n*l.2.2=m*o.2.2):cJ l=cJ o:=by
 obtain ⟨a1,a2,a3⟩:=mL hl;obtain ⟨b1,b2,b3⟩:=mL ho;have pl:=pV hl;have po:=pV ho;have ol:=Jy hl;have oo:=Jy ho;generalize cJ l=A at *;generalize cJ o=B at *;rw [a1,b1,<-NL,<-NL] at e1;rw [a2,b2,<-NL,<-NL] at e2;rw [a3,b3,<-NL,<-NL] at e3;have p1:=ON hn pl;have p2:=ON hm po;generalize n*g3 l=α at *;generalize m*g3 o=β at *;obtain ⟨x,hx⟩:∃n:Nat,α=(n:Int):=⟨α.toNat,by omega⟩;obtain ⟨y,hy⟩:∃n:Nat,β=(n:Int):=⟨β.toNat,by omega⟩;have k1:=Dq x A;have k2:=Dq y B;rw [<-hx,ol,e1,e2,e3] at k1;rw [<-hy,oo,k1] at k2;have:α=β:=by omega
 subst this;have c:∀{u v:Int},α*u=α*v->u=v:=λh=>OU (by omega) h;exact Prod.ext (c e1) (Prod.ext (c e2) (c e3))
theorem Ah {c d p q:Pt} (hc:lD c) (hd:lD d) (hp:lD p) (hq:lD q) (h:g3 (eR c d)≠0):∃k:Rat,0<k/\(lA (aG p) (aG q) (cJ (eR c d)):Rat)=k*fE (vq c,vq d) (vq p)/\(lB (aG p) (aG q) (cJ (eR c d)):Rat)=k*fE (vq c,vq d) (vq q):=by
 obtain ⟨e1,e2,e3⟩:=mL h;have gp:=pV h;have gp':(0:Rat)<(g3 (eR c d):Rat):=by exact_mod_cast gp
 have k:∀x:I3,eM (eR c d) x=g3 (eR c d)*eM (cJ (eR c d)) x:=λx=>by unfold eM;grind
 have ox:=uK hc hd hp;have oy:=uK hc hd hq;rw [k] at ox oy
 push_cast at ox oy
 have wc:=hc.p;have wd:=hd.p;have wp:=hp.p;have wq:=hq.p;have m1:=Rat.mul_pos (Rat.mul_pos wc wd) (Rat.mul_pos wp wq);refine ⟨((aG c).2.2:Rat)*((aG d).2.2:Rat)*(((aG p).2.2:Rat)*((aG q).2.2:Rat))/(g3 (eR c d):Rat),by rw [Rat.div_def];exact Rat.mul_pos m1 (Rat.inv_pos.mpr gp'),?_,?_⟩
 ·unfold lA;push_cast;grind
 ·unfold lB;push_cast;grind
theorem D8 {c d p q:Pt} (hc:lD c) (hd:lD d) (hp:lD p) (hq:lD q) (h:g3 (eR c d)≠0):∃k:Rat,0<k/\∀t,lF (aG p) (aG q) (cJ (eR c d)) t=fE (vq c,vq d) (fV (vq p) (vq q) t)*k:=by
 obtain ⟨k,k0,h1,h2⟩:=Ah hc hd hp hq h;refine ⟨k,k0,λt=>?_⟩;rw [m9];unfold lF zS;rw [h1,h2];grind
theorem yA {c d p q:Pt} (hc:lD c) (hd:lD d) (hp:lD p) (hq:lD q) (h:g3 (eR c d)≠0) (h':g3 (eR p q)≠0) (ne:0<aT (aP (vq c,vq d)) (aP (vq c,vq d))) (z1:fE (vq c,vq d) (vq p)=0) (z2:fE (vq c,vq d) (vq q)=0) :
  cJ (eR c d)=cJ (eR p q)↔0<aT (aP (vq c,vq d)) (aV (vq q) (vq p)):=by
 have comp:∀{c d:Pt},lD c->lD d->((eR c d).1:Rat) = -(((aG c).2.2:Rat)*((aG d).2.2:Rat)*(aP (vq c,vq d)).2)/\((eR c d).2.1:Rat)=((aG c).2.2:Rat)*((aG d).2.2:Rat)*(aP (vq c,vq d)).1/\((eR c d).2.2:Rat)=((aG c).2.2:Rat)*((aG d).2.2:Rat)*crs (vq c) (vq d):=λ{c d} hc hd=>by
  unfold eR lH aP aV crs vq
  push_cast
  rw [hc.x,hc.y,hd.x,hd.y];exact ⟨by grind,by grind,by grind⟩
 obtain ⟨a1,a2,a3⟩:=comp hc hd;obtain ⟨b1,b2,b3⟩:=comp hp hq;have wc:=hc.p;have wd:=hd.p;have wp:=hp.p;have wq:=hq.p;have m1:=Rat.mul_pos wc wd;have m2:=Rat.mul_pos wp wq;have vE:aV (vq q) (vq p)=aP (vq p,vq q):=rfl;rw [vE];constructor
 ·intro e;obtain ⟨l1,l2,_⟩:=mL h;obtain ⟨o1,o2,_⟩:=mL h';rw [<-e] at o1 o2;have g1:(0:Rat)<(g3 (eR c d):Rat):=by exact_mod_cast pV h
  have g2:(0:Rat)<(g3 (eR p q):Rat):=by exact_mod_cast pV h'
  have vy:((eR c d).1:Rat)=(g3 (eR c d):Rat)*((cJ (eR c d)).1:Rat):=by exact_mod_cast l1
  have l2':((eR c d).2.1:Rat)=(g3 (eR c d):Rat)*((cJ (eR c d)).2.1:Rat):=by exact_mod_cast l2
  have o1':((eR p q).1:Rat)=(g3 (eR p q):Rat)*((cJ (eR c d)).1:Rat):=by exact_mod_cast o1
  have o2':((eR p q).2.1:Rat)=(g3 (eR p q):Rat)*((cJ (eR c d)).2.1:Rat):=by exact_mod_cast o2
  generalize ((cJ (eR c d)).1:Rat)=M at *;generalize ((cJ (eR c d)).2.1:Rat)=N at *;generalize (g3 (eR c d):Rat)=g at *;generalize (g3 (eR p q):Rat)=g' at *;generalize ((aG c).2.2:Rat)*((aG d).2.2:Rat)=s at *;generalize ((aG p).2.2:Rat)*((aG q).2.2:Rat)=s' at *;generalize aP (vq c,vq d)=u at *;generalize aP (vq p,vq q)=v at *;have i1:aT u v*(s*s'*g)=aT u u*(s*s*g'):=by
   unfold aT;grind
  refine bH (Rat.mul_pos (Rat.mul_pos m1 m2) g1) ?_;rw [i1];exact Rat.mul_pos ne (Rat.mul_pos (Rat.mul_pos m1 m1) g2)
 ·intro dp
  -- the line is so many times the other
  have vne:0<aT (aP (vq p,vq q)) (aP (vq p,vq q)):=by
   unfold aT;have s1:=F0 (aP (vq p,vq q)).1;have s2:=F0 (aP (vq p,vq q)).2
   by_cases y1:(aP (vq p,vq q)).1=0
   ·by_cases y2:(aP (vq p,vq q)).2=0
    ·unfold aT at dp;rw [y1,y2] at dp;grind
    ·have:=nV y2;grind
   ·have:=nV y1;grind
  have cz:crs (aP (vq p,vq q)) (aP (vq c,vq d))=0:=by
   have:crs (aP (vq p,vq q)) (aP (vq c,vq d))=fE (vq c,vq d) (vq p)-fE (vq c,vq d) (vq q):=by unfold fE crs aP aV;grind
   rw [this,z1,z2];grind
  obtain ⟨p1,p2⟩:=par vne cz;have c3:crs (vq c) (vq d)*aT (aP (vq p,vq q)) (aP (vq p,vq q))=aT (aP (vq p,vq q)) (aP (vq c,vq d))*crs (vq p) (vq q):=by
   have t1:crs (vq c) (vq d)=crs (vq p) (aP (vq c,vq d)):=by
    have:crs (vq c) (vq d)-crs (vq p) (aP (vq c,vq d))=fE (vq c,vq d) (vq p):=by unfold fE crs aP aV;grind
    rw [z1] at this;grind
   have t2:crs (vq p) (vq q)=crs (vq p) (aP (vq p,vq q)):=by unfold crs aP aV;grind
   rw [t1,t2];unfold crs;grind
  have dp':0<aT (aP (vq p,vq q)) (aP (vq c,vq d)):=by unfold aT at dp ⊢;grind
  generalize hr:aT (aP (vq p,vq q)) (aP (vq c,vq d))=r at *;generalize hv:aT (aP (vq p,vq q)) (aP (vq p,vq q))=v at *
  -- n*L=m*O over numbers
  have key:∀(A B:Rat),0<A->0<B->∃m n:Int,0<m/\0<n/\(n:Rat)*A=(m:Rat)*B:=λA B hA hB=>by
   refine ⟨A.num*B.den,B.num*A.den,ON (E9 hA) (by have:=B.den_pos;omega),ON (E9 hB) (by have:=A.den_pos;omega),?_⟩;have eA:=Kj A;have eB:=Kj B
   push_cast
   rw [<-eA,<-eB];grind
  obtain ⟨m,n,m0,n0,e⟩:=key (r*(((aG c).2.2:Rat)*((aG d).2.2:Rat))) (v*(((aG p).2.2:Rat)*((aG q).2.2:Rat))) (Rat.mul_pos dp' m1) (Rat.mul_pos vne m2);have vn0:v≠0:=by grind
  have fin:∀{x y:Int},(n:Rat)*(x:Rat)*v=(m:Rat)*(y:Rat)*v->n*x=m*y:=λ{x y} h=>by
   have:(n:Rat)*(x:Rat)=(m:Rat)*(y:Rat):=by grind
   exact_mod_cast this
  refine Ob h h' m0 n0 (fin ?_) (fin ?_) (fin ?_)
  ·rw [a1,b1];grind
  ·rw [a2,b2];grind
  ·rw [a3,b3];grind
end
end My
namespace My
open PySem L2 PyProof.Rows
section
variable {P:QJ} {w:QM} {K:W.Frag} {mg:Str->Option Value} {base:Heap}
def zr (o:List Pt):List (Pt×Pt):=o.zip (oY o)
def fB (o:List Pt):List Eg:=(zr o).map λx=>(vq x.1,vq x.2)
theorem uG {α β:Type} (f:α->β) (xs:List α):oY (xs.map f)=(oY xs).map f:=by unfold oY;rw [KU,List.map_tail,OS]
theorem mR (o:List Pt):dA o=(zr o).map λx=>eR x.1 x.2:=by
 unfold dA zr;rw [uG,List.zip_map,JG];rfl
theorem iM {o:List Pt} {x:Pt×Pt} (h:x∈zr o):x.1∈o/\x.2∈o:=by
 obtain ⟨m1,m2⟩:=NB (a:=x.1) (b:=x.2) h;refine ⟨m1,?_⟩;rcases JJ.mp m2 with m2 | m2
 ·exact OG m2
 ·exact LH m2
structure GB (o:List Pt):Prop where
 sp:∀p∈o,lD p
 cx:Cx (fB o)
 ne:o≠[]
theorem AN {o:List Pt} (h:o≠[]):zr o≠[]:=by
 cases o with
 | nil=>exact absurd rfl h
 | cons p o=>cases o<;>simp [zr,oY]
theorem GB.es {o:List Pt} (h:GB o):fB o≠[]:=by
 have:=AN h.ne;unfold fB
 simpa using this
theorem Wn {c d:Pt} (hc:lD c) (hd:lD d):((eR c d).1:Rat) = -(((aG c).2.2:Rat)*((aG d).2.2:Rat)*(aP (vq c,vq d)).2)/\((eR c d).2.1:Rat)=((aG c).2.2:Rat)*((aG d).2.2:Rat)*(aP (vq c,vq d)).1:=by
 unfold eR lH aP aV vq
 push_cast
 rw [hc.x,hc.y,hd.x,hd.y];exact ⟨by grind,by grind⟩
theorem m8 {c d:Pt} (hc:lD c) (hd:lD d) (h:0<aT (aP (vq c,vq d)) (aP (vq c,vq d))):g3 (eR c d)≠0:=λz=>by
 obtain ⟨d1,d2,_⟩:=Um (eR c d);rw [z] at d1 d2;have z1:=Int.zero_dvd.mp d1;have z2:=Int.zero_dvd.mp d2;obtain ⟨c1,c2⟩:=Wn hc hd;rw [z1] at c1;rw [z2] at c2;have m:=Rat.mul_pos hc.p hd.p;have n0:((aG c).2.2:Rat)*((aG d).2.2:Rat)≠0:=by grind
 have e1:(aP (vq c,vq d)).2=0:=by
  have:((aG c).2.2:Rat)*((aG d).2.2:Rat)*(aP (vq c,vq d)).2=0:=by push_cast at c1;grind
  exact (Rat.mul_eq_zero.mp this).resolve_left n0
 have e2:(aP (vq c,vq d)).1=0:=by
  have:((aG c).2.2:Rat)*((aG d).2.2:Rat)*(aP (vq c,vq d)).1=0:=by push_cast at c2;grind
  exact (Rat.mul_eq_zero.mp this).resolve_left n0
 unfold aT at h;rw [e1,e2] at h;grind
theorem r8 {ns:List Int} {x:Int} (h:x∈ns):x<=zE ns:=by
 cases ns with
 | nil=>simp at h
 | cons n ns=>
  obtain ⟨_,h2,h3⟩:=L2.tQ ns n;rcases IU.mp h with rfl | h
  ·exact h2
  ·exact h3 x h
theorem rY {ns:List Int} {x:Int} (h:x∈ns):x9 ns<=x:=by
 cases ns with
 | nil=>simp at h
 | cons n ns=>
  obtain ⟨_,h2,h3⟩:=L2.sV ns n;rcases IU.mp h with rfl | h
  ·exact h2
  ·exact h3 x h
theorem V9 {N a w a' w':Int} {x y:Rat} (hN:0<N) (hw:1<=w) (mj:1<=w') (ha:(a:Rat)=x*(w:Rat)) (wa:(a':Rat)=y*(w':Rat)) (h:(a*N).fdiv w<(a'*N).fdiv w'):x<y:=by
 rw [MN _ (by omega),MN _ (by omega)] at h;have h1:a*N<(a*N/w+1)*w:=Int.lt_ediv_add_one_mul_self _ (by omega);have h2:a'*N/w'*w'<=a'*N:=Int.ediv_mul_le _ (by omega);generalize a*N/w=F at h h1;generalize a'*N/w'=G at h h2;have p1:(0:Rat)<(w:Rat):=by exact_mod_cast (show (0:Int)<w by omega)
 have p2:(0:Rat)<(w':Rat):=by exact_mod_cast (show (0:Int)<w' by omega)
 have q1:(a:Rat)*(N:Rat)<((F:Rat)+1)*(w:Rat):=by exact_mod_cast h1
 have q2:(G:Rat)*(w':Rat)<=(a':Rat)*(N:Rat):=by exact_mod_cast h2
 have q3:(F:Rat)+1<=(G:Rat):=by exact_mod_cast (show F+1<=G by omega)
 rw [ha] at q1;rw [wa] at q2;have r1:0<((F:Rat)+1-x*(N:Rat))*(w:Rat):=by grind
 have r2:0<=(y*(N:Rat)-(G:Rat))*(w':Rat):=by grind
 have s1:=bH p1 r1;have s2:=dC p2 r2;have n0:(0:Rat)<(N:Rat):=by exact_mod_cast hN
 have:0<(y-x)*(N:Rat):=by grind
 have:=bH n0 this;grind
theorem Yx {a w a' w':Int} {x y:Rat} (hw:1<=w) (mj:1<=w') (ha:(a:Rat)=x*(w:Rat)) (wa:(a':Rat)=y*(w':Rat)) (h:(a*65536).fdiv w<(a'*65536).fdiv w'):x<y:=V9 (N:=65536) (by decide) hw mj ha wa h
theorem Iy {a b c t:Rat} (h:c<a) (k:c<b) (t0:0<=t) (t1:t<=1):c<a+(b-a)*t:=by
 rcases Rat.le_total (a:=a) (b:=b) with q | q
 ·have:=Rat.mul_nonneg (show 0<=b-a by grind) t0;grind
 ·have:=Rat.mul_nonneg (show 0<=a-b by grind) (show 0<=1-t by grind);grind
theorem Oh {a b c t:Rat} (h:a<c) (k:b<c) (t0:0<=t) (t1:t<=1):a+(b-a)*t<c:=by
 have:=Iy (a:=-a) (b:=-b) (c:=-c) (t:=t) (by grind) (by grind) t0 t1;grind
theorem Le {b:cR} (hb:GB b.o) {p q:Pt} (hp:lD p) (hq:lD q) (h:nU (aW b).b (dI p q).b=true) {t:Rat} (t0:0<=t) (t1:t<=1) (k:wJ (fB b.o) (fV (vq p) (vq q) t)):False:=by
 have box:=λw=>hb.cx.box hb.es w k;have qm:∀g∈fB b.o,∃c∈b.o,g.1=vq c:=λg m=>by
  obtain ⟨x,mx,rfl⟩:=IP.mp m;exact ⟨x.1,(iM mx).1,rfl⟩
 have bx:∀c∈b.o,(sX (b.o.map aG)).1<=((aG c).1*65536).fdiv (aG c).2.2/\((aG c).1*65536).fdiv (aG c).2.2<=(sX (b.o.map aG)).2.2.1/\(sX (b.o.map aG)).2.1<=((aG c).2.1*65536).fdiv (aG c).2.2/\((aG c).2.1*65536).fdiv (aG c).2.2<=(sX (b.o.map aG)).2.2.2:=λc m=>by
  have mx:((aG c).1*65536).fdiv (aG c).2.2∈Nt (b.o.map aG):=by unfold Nt;rw [JG];exact IP.mpr ⟨c,m,rfl⟩
  have my:((aG c).2.1*65536).fdiv (aG c).2.2∈Nw (b.o.map aG):=by unfold Nw;rw [JG];exact IP.mpr ⟨c,m,rfl⟩
  exact ⟨rY mx,r8 mx,rY my,r8 my⟩
 have sx:∀r,(r=p\/r=q)->((aG r).1*65536).fdiv (aG r).2.2∈Nt [aG p,aG q]:=λr hr=>by
  unfold Nt;rcases hr with rfl | rfl<;>simp
 have sy:∀r,(r=p\/r=q)->((aG r).2.1*65536).fdiv (aG r).2.2∈Nw [aG p,aG q]:=λr hr=>by
  unfold Nw;rcases hr with rfl | rfl<;>simp
 have cn:∀r,(r=p\/r=q)->lD r:=λr hr=>by rcases hr with rfl | rfl<;>assumption
 unfold nU at h;simp only [PQ,decide_eq_true_eq] at h;have h':(sX (b.o.map aG)).2.2.1<x9 (Nt [aG p,aG q])\/zE (Nt [aG p,aG q])<(sX (b.o.map aG)).1\/(sX (b.o.map aG)).2.2.2<x9 (Nw [aG p,aG q])\/zE (Nw [aG p,aG q])<(sX (b.o.map aG)).2.1:=by
  rcases h with ((h | h) | h) | h
  ·exact .inl h
  ·exact .inr (.inl h)
  ·exact .inr (.inr (.inl h))
  ·exact .inr (.inr (.inr h))
 rcases h' with h | h | h | h
 ·obtain ⟨g,mg,le⟩:=box (1,0);obtain ⟨c,mc,ec⟩:=qm g mg;rw [ec] at le;have hc:=hb.sp c mc;have lt:∀r,(r=p\/r=q)->val c.1<val r.1:=λr hr=>Yx hc.w (cn r hr).w hc.x (cn r hr).x (by have:=(bx c mc).2.1;have:=rY (sx r hr);omega);have:=Iy (lt p (.inl rfl)) (lt q (.inr rfl)) t0 t1;unfold aT fV vq at le;grind
 ·obtain ⟨g,mg,le⟩:=box (-1,0);obtain ⟨c,mc,ec⟩:=qm g mg;rw [ec] at le;have hc:=hb.sp c mc;have lt:∀r,(r=p\/r=q)->val r.1<val c.1:=λr hr=>Yx (cn r hr).w hc.w (cn r hr).x hc.x (by have:=(bx c mc).1;have:=r8 (sx r hr);omega);have:=Oh (lt p (.inl rfl)) (lt q (.inr rfl)) t0 t1;unfold aT fV vq at le;grind
 ·obtain ⟨g,mg,le⟩:=box (0,1);obtain ⟨c,mc,ec⟩:=qm g mg;rw [ec] at le;have hc:=hb.sp c mc;have lt:∀r,(r=p\/r=q)->val c.2<val r.2:=λr hr=>Yx hc.w (cn r hr).w hc.y (cn r hr).y (by have:=(bx c mc).2.2.2;have:=rY (sy r hr);omega);have:=Iy (lt p (.inl rfl)) (lt q (.inr rfl)) t0 t1;unfold aT fV vq at le;grind
 ·obtain ⟨g,mg,le⟩:=box (0,-1);obtain ⟨c,mc,ec⟩:=qm g mg;rw [ec] at le;have hc:=hb.sp c mc;have lt:∀r,(r=p\/r=q)->val r.2<val c.2:=λr hr=>Yx (cn r hr).w hc.w (cn r hr).y hc.y (by have:=(bx c mc).2.2.1;have:=r8 (sy r hr);omega);have:=Oh (lt p (.inl rfl)) (lt q (.inr rfl)) t0 t1;unfold aT fV vq at le;grind
structure EL (es:List Eg) (p q:Q2) (r:Fr×Fr×Nat):Prop where
 d1:1<=r.1.2
 d2:1<=r.2.1.2
 lt:val r.1<val r.2.1
 l0:0<=val r.1
 h1:val r.2.1<=1
 s:∀t,0<=t->t<=1->(wJ es (fV p q t)↔val r.1<=t/\t<=val r.2.1)
 lo:r.1=(0,1)\/(0<val r.1/\∃e∈es,fE e p<0/\0<fE e q/\fE e (fV p q (val r.1))=0)
 hi:r.2.1=(1,1)\/(val r.2.1<1/\∃e∈es,0<fE e p/\fE e q<0/\fE e (fV p q (val r.2.1))=0)
 h:(r.2.2=0/\∀e∈es,¬(fE e p=0/\fE e q=0))\/((∃e∈es,fE e p=0/\fE e q=0)/\(r.2.2=1\/r.2.2=2)/\∀e∈es,fE e p=0->fE e q=0->(r.2.2=1↔0<aT (aP e) (aV q p)))
theorem Jb (b:cR):(aW b).ls=(zr b.o).map λx=>cJ (eR x.1 x.2):=by
 show (dA b.o).map cJ=_;rw [mR,JG];rfl
theorem Ks:(0:Rat)<1:=by decide
theorem Ur {b:cR} (hb:GB b.o) {p q:Pt} (hp:lD p) (hq:lD q) (t:Rat):(∀l∈(aW b).ls,0<=lF (aG p) (aG q) l t)↔wJ (fB b.o) (fV (vq p) (vq q) t):=by
 rw [Jb];unfold wJ fB;constructor
 ·intro h e m;obtain ⟨x,mx,rfl⟩:=IP.mp m;obtain ⟨m1,m2⟩:=iM mx;obtain ⟨k,k0,hk⟩:=D8 (hb.sp _ m1) (hb.sp _ m2) hp hq (m8 (hb.sp _ m1) (hb.sp _ m2) (hb.cx.ne _ (IP.mpr ⟨x,mx,rfl⟩)));have:=h _ (IP.mpr ⟨x,mx,rfl⟩);rw [hk] at this;exact dC k0 this
 ·intro h l m;obtain ⟨x,mx,rfl⟩:=IP.mp m;obtain ⟨m1,m2⟩:=iM mx;obtain ⟨k,k0,hk⟩:=D8 (hb.sp _ m1) (hb.sp _ m2) hp hq (m8 (hb.sp _ m1) (hb.sp _ m2) (hb.cx.ne _ (IP.mpr ⟨x,mx,rfl⟩)));rw [hk];exact Rat.mul_nonneg (h _ (IP.mpr ⟨x,mx,rfl⟩)) (Rat.le_of_lt k0)
theorem pW {b:cR} (hb:GB b.o) {p q:Pt} (hp:lD p) (hq:lD q) (h:aU (aW b) (dI p q)=none) {t1 t2:Rat} (k0:0<=t1) (k:t1<t2) (k1:t2<=1) (i1:wJ (fB b.o) (fV (vq p) (vq q) t1)) (i2:wJ (fB b.o) (fV (vq p) (vq q) t2)):False:=by
 unfold aU at h;split at h
 ·rename_i c;exact Le hb hp hq c k0 (by grind) i1
 ·have j1:=(Ur hb hp hq t1).mpr i1;have j2:=(Ur hb hp hq t2).mpr i2;cases g:lQ (dI p q).p (dI p q).q (dI p q).l (aW b).ls (0,1) (1,1) 0 with
  | none=>exact o8 _ _ _ _ g t1 t2 k0 k k1 j1 j2
  | some r=>
   rw [g] at h;have o:=mQ _ _ _ _ r g (by decide) (by decide);unfold vL at h;simp only at h;split at h
   ·cases h
   ·rename_i c;have c':=mt (gT o.d1 o.d2).mpr c;have a1:=(o.s t1 k0 (by grind)).mp ⟨by rw [iD];exact k0,by rw [jQ];grind,j1⟩;have a2:=(o.s t2 (by grind) k1).mp ⟨by rw [iD];grind,by rw [jQ];exact k1,j2⟩;grind
theorem gV {b:cR} (hb:GB b.o) {p q:Pt} (hp:lD p) (hq:lD q) (ne:0<aT (aV (vq q) (vq p)) (aV (vq q) (vq p))) {r:Fr×Fr×Nat} (h:aU (aW b) (dI p q)=some r):EL (fB b.o) (vq p) (vq q) r:=by
 unfold aU at h;split at h
 ·cases h
 cases g:lQ (dI p q).p (dI p q).q (dI p q).l (aW b).ls (0,1) (1,1) 0 with
 | none=>rw [g] at h;cases h
 | some r'=>
  rw [g] at h;have o:=mQ _ _ _ _ r' g (by decide) (by decide);unfold vL at h;simp only at h;split at h
  ·rename_i c;cases h;have lt:=(gT o.d1 o.d2).mp c;have hpq:g3 (eR p q)≠0:=m8 hp hq ne
   -- a line and TC ao
   have ao:∀l∈(aW b).ls,∃x∈zr b.o,l=cJ (eR x.1 x.2)/\(vq x.1,vq x.2)∈fB b.o/\lD x.1/\lD x.2/\g3 (eR x.1 x.2)≠0/\∃k:Rat,0<k/\(lA (aG p) (aG q) l:Rat)=k*fE (vq x.1,vq x.2) (vq p)/\(lB (aG p) (aG q) l:Rat)=k*fE (vq x.1,vq x.2) (vq q):=λl m=>by
    rw [Jb] at m;obtain ⟨x,mx,rfl⟩:=IP.mp m;obtain ⟨m1,m2⟩:=iM mx;have me:(vq x.1,vq x.2)∈fB b.o:=IP.mpr ⟨x,mx,rfl⟩;have gn:=m8 (hb.sp _ m1) (hb.sp _ m2) (hb.cx.ne _ me);exact ⟨x,mx,rfl,me,hb.sp _ m1,hb.sp _ m2,gn,Ah (hb.sp _ m1) (hb.sp _ m2) hp hq gn⟩
   have l0:0<=val r.1:=by
    rcases o.lo with e | ⟨e,_⟩
    ·rw [e,iD];grind
    ·rw [iD] at e;grind
   have h1:val r.2.1<=1:=by
    rcases o.hi with e | ⟨e,_⟩
    ·rw [e,jQ];grind
    ·rw [jQ] at e;grind
   have sgn:∀{k f:Rat} {i:Int},0<k->(i:Rat)=k*f->(i<0↔f<0)/\(0<i↔0<f)/\(i=0↔f=0):=λ{k f i} k0 e=>by
    have p1:=sM (a:=f) k0;have p2:=sM (a:=-f) k0;have i1:(0:Rat)<(i:Rat)↔0<i:=by norm_cast
    have i2:(i:Rat)<0↔i<0:=by norm_cast
    have c1:0<i↔0<f:=by rw [<-i1,e];grind
    have c2:i<0↔f<0:=by rw [<-i2,e];grind
    refine ⟨c2,c1,?_⟩;constructor
    ·intro z;have:=mt c1.mpr (by omega);have:=mt c2.mpr (by omega);grind
    ·intro z;have:=mt c1.mp (by grind);have:=mt c2.mp (by grind);omega
   have zro:∀{k:Rat} {x:Pt×Pt} {l:I3} {t:Rat},0<k->(lA (aG p) (aG q) l:Rat)=k*fE (vq x.1,vq x.2) (vq p)->(lB (aG p) (aG q) l:Rat)=k*fE (vq x.1,vq x.2) (vq q)->lF (aG p) (aG q) l t=0->fE (vq x.1,vq x.2) (fV (vq p) (vq q) t)=0:=λ{k x l t} k0 a1 a2 z=>by
    unfold lF zS at z;rw [a1,a2] at z;rw [m9];have:k*(fE (vq x.1,vq x.2) (vq p)+(fE (vq x.1,vq x.2) (vq q)-fE (vq x.1,vq x.2) (vq p))*t)=0:=by grind
    exact (Rat.mul_eq_zero.mp this).resolve_left (by grind)
   refine ⟨o.d1,o.d2,lt,l0,h1,λt t0 t1=>?_,?_,?_,?_⟩
   ·rw [<-Ur hb hp hq t,<-o.s t t0 t1,iD,jQ];exact ⟨λz=>⟨t0,t1,z⟩,λz=>z.2.2⟩
   ·rcases o.lo with e | ⟨e,l,ml,z1,z2,z3⟩
    ·exact .inl e
    ·rw [iD] at e;obtain ⟨x,_,_,me,_,_,_,k,k0,a1,a2⟩:=ao l ml;exact .inr ⟨e,_,me,(sgn k0 a1).1.mp z1,(sgn k0 a2).2.1.mp z2,zro k0 a1 a2 z3⟩
   ·rcases o.hi with e | ⟨e,l,ml,z1,z2,z3⟩
    ·exact .inl e
    ·rw [jQ] at e;obtain ⟨x,_,_,me,_,_,_,k,k0,a1,a2⟩:=ao l ml;have s1:=(sgn k0 a1).2.1.mp z1;have s2:=(sgn k0 a2).1.mp z2;have s3:=zro k0 a1 a2 z3;refine .inr ⟨?_,_,me,s1,s2,s3⟩;rw [m9] at s3
     by_cases c:val r.2.1=1
     ·rw [c] at s3;grind
     ·grind
   ·rcases o.h with ⟨e,hz⟩ | ⟨l,ml,z1,z2,e⟩
    ·refine .inl ⟨e,λg mg zz=>?_⟩;obtain ⟨x,mx,rfl⟩:=IP.mp mg;have ml:cJ (eR x.1 x.2)∈(aW b).ls:=by rw [Jb];exact IP.mpr ⟨x,mx,rfl⟩
     obtain ⟨m1,m2⟩:=iM mx;obtain ⟨k,k0,a1,a2⟩:=Ah (hb.sp _ m1) (hb.sp _ m2) hp hq (m8 (hb.sp _ m1) (hb.sp _ m2) (hb.cx.ne _ mg));exact hz _ ml ⟨(sgn k0 a1).2.2.mpr zz.1,(sgn k0 a2).2.2.mpr zz.2⟩
    ·obtain ⟨x,mx,el,me,sc,sd,gn,k,k0,a1,a2⟩:=ao l ml;have f1:=(sgn k0 a1).2.2.mp z1;have f2:=(sgn k0 a2).2.2.mp z2;have le:=yA sc sd hp hq gn hpq (hb.cx.ne _ me) f1 f2;rw [el] at e;have e':r.2.2=if cJ (eR x.1 x.2)=cJ (eR p q) then 1 else 2:=e;refine .inr ⟨⟨_,me,f1,f2⟩,by rw [e'];split<;>simp,λg mg g1 g2=>?_⟩;have or1:=hb.cx.orient me mg f1 f2 g1 g2 ne;have or2:=hb.cx.orient mg me g1 g2 f1 f2 ne;rw [e']
     split
     ·rename_i c;exact ⟨λ_=>or1 (le.mp c),λ_=>rfl⟩
     ·rename_i c;exact ⟨λz=>absurd z (by decide),λz=>absurd (le.mpr (or2 z)) c⟩
  ·cases h
end
end My
namespace My
open PySem L2 PyProof.Rows
section
variable {P:QJ} {w:QM} {K:W.Frag} {mg:Str->Option Value} {base:Heap}
structure NP (p:Pt):Prop where
 x:dY p.1
 y:dY p.2
theorem NP.spt {p:Pt} (h:NP p):lD p:=My.spt h.x h.y
end
end My
namespace My
open PySem L2 PyProof.Rows
end My
namespace My
open PySem L2 PyProof.Rows
section
variable {P:QJ} {w:QM} {K:W.Frag} {mg:Str->Option Value} {base:Heap}
abbrev kD (P w K mg base):=Fn P w K mg base 1 "_law_frac" ["_law_n","_law_d"] (aX K Ys)
abbrev yX:QU:=top 48
theorem n8:aO ["_law_n","_law_d","_law_one","_law_other"] ["_law_n","_law_d"] (aF yX):=g8
theorem Qt {f:QF} {fd:QK} (F:eT K "_law_frac" "_law_frac" yX f fd) (TX:Txt mg)    : bJ P w K mg base fF 1 f fd ["_law_n","_law_d"] (aX K Ys):=by
 refine F.okT n8 ?len (λTQ A outer s H E hr=>(aE (jY (i:=2) (j:=3) rfl n8.nd rfl rfl (by decide) rfl rfl (fc (pQ rfl TX.n_abs (fc (fv 0) aA)) (fc (pQ rfl TX.n_abs (fc (fv 1) aA)) aA)) rfl)
 (aE (sO PassesOwn.never (fH Cb (fv 3) aB (bE _)) (aK (jY (i:=2) (j:=3) rfl n8.nd rfl rfl (by decide) rfl rfl (fc (fv 3) (fc (aN jE (fv 2) (fv 3)) aA)) rfl)))
 (aE (bD (i:=2) n8.nd rfl (IV rfl) (aN aS (fv 2) (rA (fH Cb (fv 1) aB (bE _)) aB (sJ aB))))
 (aK (aR (aL (fc (aN cZ (fv 0) (fv 2)) (fc (aN cZ (fv 1) (fv 2)) aA))))))))) ?rd
 case len=>rintro as Q ⟨n,d,rfl,_⟩;rfl
 case rd=>
  rintro as Q ⟨n,d,rfl,hd,hb,q⟩;refine ⟨λm E=>∃(x y:Nat),E=[some (.p (.int n)),some (.p (.int d)),some (.p (.int x)),some (.p (.int y))]/\m=y/\KC x y=KC n.natAbs d.natAbs,⟨_,_,_,rfl,rfl,rfl⟩,?_⟩;rintro m E ⟨x,y,rfl,rfl,hg⟩;show if decide ((0:Int)<(m:Int))=true then _ else _
  by_cases hy:(0:Int)<(m:Int)
  ·rw [decide_eq_true hy,if_pos rfl];exact ⟨hy,x%m,OF _ (by omega),m,x%m,rfl,rfl,by rw [Bt];exact hg⟩
  ·rw [decide_eq_false hy,if_neg (by decide)];obtain rfl:m=0:=by omega
   rw [Nat.gcd_zero_right] at hg;subst hg;have dn:((KC n.natAbs d.natAbs:Nat):Int)∣n:=KI.mpr (LV _ _);have dd:((KC n.natAbs d.natAbs:Nat):Int)∣d:=KI.mpr (LY _ _);have g0:((KC n.natAbs d.natAbs:Nat):Int)≠0:=(oJ (i:=0) (n:=n) hd hb).1;have jJ:∀{g m:Int},g≠0->g∣m->m.fdiv (-g)=(-m)/g:=λ{g m} h0 hm=>by
    obtain ⟨k,rfl⟩:=hm;have e1:g*k=(-g)*(-k):=by grind
    have e2:-(g*k)=g*(-k):=by grind
    rw [e2,LL _ h0,e1,OZ _ (by omega)]
   show if decide (0<d)=true then _ else _
   by_cases h:0<d
   ·rw [decide_eq_true h,if_pos rfl];have e1:((KC n.natAbs d.natAbs:Nat):Int)*1=((KC n.natAbs d.natAbs:Nat):Int):=Int.mul_one _;refine ⟨vC (by decide),?_⟩;rw [e1];refine ⟨oJ hd hb,oJ hd hb,rfl,?_⟩;unfold low rG lY at q;rw [if_pos h,if_pos h,<-oS,<-oS] at q;exact q
   ·rw [decide_eq_false h,if_neg (by decide)];have e1:((KC n.natAbs d.natAbs:Nat):Int) * -1 = -((KC n.natAbs d.natAbs:Nat):Int):=by omega
    refine ⟨vC (by decide),?_⟩;rw [e1];have cz:∀i:Int,oF i (-((KC n.natAbs d.natAbs:Nat):Int)):=λi=>⟨by omega,by rw [MJ];exact (oJ (i:=i) (n:=n) hd hb).2⟩;refine ⟨cz _,cz _,rfl,?_⟩;unfold low rG lY at q;rw [if_neg h,if_neg h,<-jJ g0 dn,<-jJ g0 dd] at q;exact q
abbrev Kk (P w K mg base):=Fn P w K mg base 2 "_law_sum" ["_law_one","_law_other"] (aX K (rK hV))
abbrev Fj:QU:=top 49
theorem Vj:aO ["_law_one","_law_other"] ["_law_one","_law_other"] (aF Fj):=g8
theorem Xc {f:QF} {fd:QK} (F:eT K "_law_sum" "_law_sum" Fj f fd) (TX:Txt mg) (TZ:kD P w K mg base)   : bJ P w K mg base fF 2 f fd ["_law_one","_law_other"] (aX K (rK hV)):=by
 refine F.okT Vj ?len (λTQ A outer s H E hr=>(aK (aR (aC TZ hr (by omega) rfl (fc (bA b9 (aN aS (aH rfl (fv 0) aB (λ_ _=>rfl)) (aH rfl (fv 1) aB (λ_ _=>rfl))) (aN aS (aH rfl (fv 1) aB (λ_ _=>rfl)) (aH rfl (fv 0) aB (λ_ _=>rfl)))) (fc (aN aS (aH rfl (fv 0) aB (λ_ _=>rfl)) (aH rfl (fv 1) aB (λ_ _=>rfl))) aA)))))) ?rd
 case len=>rintro as Q ⟨x,y,rfl,_⟩;rfl
 case rd=>
  rintro as Q ⟨x,y,rfl,hx,hy,hs,q⟩;have hd:(x.2*y.2).natAbs<2^8000:=oU (bN (cG x) (cG y)) (by omega);exact ⟨eZ (e:=7900) (pl (gJ x) (by omega)) (pl (cG y) (by omega)) (by decide),eZ (e:=7900) (pl (gJ y) (by omega)) (pl (cG x) (by omega)) (by decide),eZ (e:=7900) (pl (cG x) (by omega)) (pl (cG y) (by omega)) (by decide),_,_,rfl,gP hx hy,hd,rfl,q⟩
abbrev Dd (P w K mg base):=Fn P w K mg base 2 "_law_less" ["_law_one","_law_other"] (aX K (rK iQ))
abbrev yT:QU:=top 51
theorem Th:aO ["_law_one","_law_other"] ["_law_one","_law_other"] (aF yT):=g8
theorem Rl {f:QF} {fd:QK} (F:eT K "_law_less" "_law_less" yT f fd) (TX:Txt mg) (TZ:kD P w K mg base)   : bJ P w K mg base fF 2 f fd ["_law_one","_law_other"] (aX K (rK iQ)):=by
 refine F.okT Th ?len (λTQ A outer s H E hr=>(aK (aR (aC TZ hr (by omega) rfl (fc (bA iJ (aN aS (aH rfl (fv 0) aB (λ_ _=>rfl)) (aH rfl (fv 1) aB (λ_ _=>rfl))) (aN aS (aH rfl (fv 1) aB (λ_ _=>rfl)) (aH rfl (fv 0) aB (λ_ _=>rfl)))) (fc (aN aS (aH rfl (fv 0) aB (λ_ _=>rfl)) (aH rfl (fv 1) aB (λ_ _=>rfl))) aA)))))) ?rd
 case len=>rintro as Q ⟨x,y,rfl,_⟩;rfl
 case rd=>
  rintro as Q ⟨x,y,rfl,hx,hy,hs,q⟩;have hd:(x.2*y.2).natAbs<2^8000:=oU (bN (cG x) (cG y)) (by omega);exact ⟨eZ (e:=7900) (pl (gJ x) (by omega)) (pl (cG y) (by omega)) (by decide),eZ (e:=7900) (pl (gJ y) (by omega)) (pl (cG x) (by omega)) (by decide),eZ (e:=7900) (pl (cG x) (by omega)) (pl (cG y) (by omega)) (by decide),_,_,rfl,gP hx hy,hd,rfl,q⟩
abbrev lP (P w K mg base):=Fn P w K mg base 2 "_law_product" ["_law_one","_law_other"] (aX K (rK eO))
abbrev nY:QU:=top 50
theorem Aa:aO ["_law_one","_law_other"] ["_law_one","_law_other"] (aF nY):=g8
theorem Bb {f:QF} {fd:QK} (F:eT K "_law_product" "_law_product" nY f fd) (TX:Txt mg) (TZ:kD P w K mg base)   : bJ P w K mg base fF 2 f fd ["_law_one","_law_other"] (aX K (rK eO)):=by
 refine F.okT Aa ?len (λTQ A outer s H E hr=>(aK (aR (aC TZ hr (by omega) rfl (fc (aN aS (aH rfl (fv 0) aB (λ_ _=>rfl)) (aH rfl (fv 1) aB (λ_ _=>rfl))) (fc (aN aS (aH rfl (fv 0) aB (λ_ _=>rfl)) (aH rfl (fv 1) aB (λ_ _=>rfl))) aA)))))) ?rd
 case len=>rintro as Q ⟨x,y,rfl,_⟩;rfl
 case rd=>
  rintro as Q ⟨x,y,rfl,hx,hy,hs,q⟩;have hd:(x.2*y.2).natAbs<2^8000:=oU (bN (cG x) (cG y)) (by omega);exact ⟨eZ (e:=7900) (pl (gJ x) (by omega)) (pl (gJ y) (by omega)) (by decide),eZ (e:=7900) (pl (cG x) (by omega)) (pl (cG y) (by omega)) (by decide),_,_,rfl,gP hx hy,hd,rfl,q⟩
abbrev sF (P w K mg base):=Fn P w K mg base 3 "_law_add" ["_law_one","_law_other"] (aX K Kh)
abbrev Ft:QU:=top 52
theorem Yg:aO ["_law_one","_law_other"] ["_law_one","_law_other"] (aF Ft):=g8
theorem Vp {f:QF} {fd:QK} (F:eT K "_law_add" "_law_add" Ft f fd) (TX:Txt mg) (XH:Kk P w K mg base)   : bJ P w K mg base fF 3 f fd ["_law_one","_law_other"] (aX K Kh):=by
 refine F.okT Yg ?len (λTQ A outer s H E hr=>(aK (aR (aL (fc (aC XH hr (by omega) rfl (fc (aH rfl (fv 0) aB (λ_ _=>rfl)) (fc (aH rfl (fv 1) aB (λ_ _=>rfl)) aA))) (fc (aC XH hr (by omega) rfl (fc (aH rfl (fv 0) aB (λ_ _=>rfl)) (fc (aH rfl (fv 1) aB (λ_ _=>rfl)) aA))) aA)))))) ?rd
 case len=>rintro as Q ⟨x,y,p,q,e,f,rfl,_⟩;rfl
 case rd=>
  rintro as Q ⟨x,y,p,q,e,f,rfl,h,k,hs,z⟩;have:=h.sx;have:=h.sy;have:=k.sx;have:=k.sy;exact ⟨_,_,rfl,h.x,k.x,by omega,_,_,rfl,h.y,k.y,by omega,rfl,z⟩
abbrev Ig (P w K mg base):=Fn P w K mg base 3 "_law_sub" ["_law_one","_law_other"] (aX K xT)
abbrev Fw:QU:=top 53
theorem Yt:aO ["_law_one","_law_other"] ["_law_one","_law_other"] (aF Fw):=g8
theorem Zd {f:QF} {fd:QK} (F:eT K "_law_sub" "_law_sub" Fw f fd) (TX:Txt mg) (WK:Dd P w K mg base)   : bJ P w K mg base fF 3 f fd ["_law_one","_law_other"] (aX K xT):=by
 refine F.okT Yt ?len (λTQ A outer s H E hr=>(aK (aR (aL (fc (aC WK hr (by omega) rfl (fc (aH rfl (fv 0) aB (λ_ _=>rfl)) (fc (aH rfl (fv 1) aB (λ_ _=>rfl)) aA))) (fc (aC WK hr (by omega) rfl (fc (aH rfl (fv 0) aB (λ_ _=>rfl)) (fc (aH rfl (fv 1) aB (λ_ _=>rfl)) aA))) aA)))))) ?rd
 case len=>rintro as Q ⟨x,y,p,q,e,f,rfl,_⟩;rfl
 case rd=>
  rintro as Q ⟨x,y,p,q,e,f,rfl,h,k,hs,z⟩;have:=h.sx;have:=h.sy;have:=k.sx;have:=k.sy;exact ⟨_,_,rfl,h.x,k.x,by omega,_,_,rfl,h.y,k.y,by omega,rfl,z⟩
abbrev jZ (P w K mg base):=Fn P w K mg base 3 "_law_scaled_by" ["_law_vector","_law_share"] (aX K rW)
abbrev kK:QU:=top 54
theorem uP:aO ["_law_vector","_law_share"] ["_law_vector","_law_share"] (aF kK):=g8
theorem u7 {f:QF} {fd:QK} (F:eT K "_law_scaled_by" "_law_scaled_by" kK f fd) (TX:Txt mg) (UL:lP P w K mg base)   : bJ P w K mg base fF 3 f fd ["_law_vector","_law_share"] (aX K rW):=by
 refine F.okT uP ?len (λTQ A outer s H E hr=>(aK (aR (aL (fc (aC UL hr (by omega) rfl (fc (aH rfl (fv 0) aB (λ_ _=>rfl)) (fc (fv 1) aA))) (fc (aC UL hr (by omega) rfl (fc (aH rfl (fv 0) aB (λ_ _=>rfl)) (fc (fv 1) aA))) aA)))))) ?rd
 case len=>rintro as Q ⟨x,y,b,e,rfl,_⟩;rfl
 case rd=>
  rintro as Q ⟨x,y,b,e,rfl,h,hb,hs,q⟩;have:=h.sx;have:=h.sy;exact ⟨_,_,rfl,h.x,hb,by omega,_,_,rfl,h.y,hb,by omega,rfl,q⟩
abbrev lX (P w K mg base):=Fn P w K mg base 1 "_law_quarter" ["_law_vector"] (aX K Zi)
abbrev nQ:QU:=top 57
theorem Bw:aO ["_law_vector"] ["_law_vector"] (aF nQ):=g8
theorem Df {f:QF} {fd:QK} (F:eT K "_law_quarter" "_law_quarter" nQ f fd) (TX:Txt mg)    : bJ P w K mg base fF 1 f fd ["_law_vector"] (aX K Zi):=by
 refine F.okT Bw ?len (λTQ A outer s H E hr=>(aK (aR (aL (fc (aL (fc (sJ (aH rfl (aH rfl (fv 0) aB (λ_ _=>rfl)) aB (λ_ _=>rfl))) (fc (aH rfl (aH rfl (fv 0) aB (λ_ _=>rfl)) aB (λ_ _=>rfl)) aA))) (fc (aH rfl (fv 0) aB (λ_ _=>rfl)) aA)))))) ?rd
 case len=>rintro as Q ⟨x,y,rfl,_⟩;rfl
 case rd=>
  rintro as Q ⟨x,y,rfl,q⟩;exact ⟨rfl,q⟩
end
end My
namespace My
open PySem L2 PyProof.Rows
section
variable {P:QJ} {w:QM} {K:W.Frag} {mg:Str->Option Value} {base:Heap}
def hf (n:Int):Fr:=low n 2
theorem k9 (n:Int):dY (hf n):=iV (by decide)
theorem pR (n:Int):val (hf n)=(n:Rat)*(1/2):=by
 unfold hf;rw [jM (by decide)]
 push_cast
 grind
theorem Ta {n:Int} {e:Nat} (h:n.natAbs<2^e) (he:2<=e):sz (hf n)<=e:=sW (by decide) h (JH (show (2:Int).natAbs<2^2 by decide) (LJ (by decide) he)) (by omega)
theorem Qa (n a:Int):hV (hf n) (a,1)=hf (n+2*a):=by
 refine eJ (iW (k9 n) (jN a)) (k9 _) ?_;rw [iX (k9 n) (jN a),pR,pR,mK]
 push_cast
 grind
def Kt:iN:=λas Q=>∃(xs:List L2.T) (w n:Int),as=[.b xs,.v (.int w)]/\Bx xs n/\n<=900000/\1<=w/\w<=10/\∀X Y ys,-(2*w)<=X->X<2*w->-(2*w)<=Y->Y<2*w->Bx ys (n+2)->Q (.v (pt (hf X,hf Y))) ys
abbrev l9 (P w K mg base):=Fn P w K mg base 2 "_law_spot_at" ["_law_box_here","_law_wide"] (aX K Kt)
abbrev nD:QU:=top 58
theorem Bh:aO ["_law_box_here","_law_wide"] ["_law_box_here","_law_wide"] (aF nD):=g8
theorem Ap {f:QF} {fd:QK} (F:eT K "_law_spot_at" "_law_spot_at" nD f fd) (TX:Txt mg) (TM:oO P w K mg base) (TZ:kD P w K mg base)   : bJ P w K mg base fF 2 f fd ["_law_box_here","_law_wide"] (aX K Kt):=by
 refine F.okT Bh ?len (λTQ A outer s H E hr=>(aK (aR (aL (fc (aC TZ hr (by omega) rfl (fc (bA iJ (bR TM hr (by omega) rfl (fc (fv 0) (fc (aN aS aB (fv 1)) aA))) (aN aS aB (fv 1))) (fc aB aA))) (fc (aC TZ hr (by omega) rfl (fc (bA iJ (bR TM hr (by omega) rfl (fc (fv 0) (fc (aN aS aB (fv 1)) aA))) (aN aS aB (fv 1))) (fc aB aA))) aA)))))) ?rd
 case len=>rintro as Q ⟨xs,w,n,rfl,_⟩;rfl
 case rd=>
  rintro as Q ⟨xs,w,n,rfl,bx,hn,w1,w2,q⟩;obtain ⟨A0,B0,c0,rfl,_⟩:=id bx;refine ⟨uZ (by decide),_,4*w,n,rfl,bx,by omega,by omega,by omega,λr1 y1 a1 a2 b1=>?_⟩;obtain ⟨A1,B1,c1,rfl,_⟩:=id b1;refine ⟨uZ (by decide),_,_,rfl,by decide,by decide,?_⟩;refine ⟨uZ (by decide),_,4*w,n+1,rfl,b1,by omega,by omega,by omega,λr2 y2 a3 a4 b2=>?_⟩;obtain ⟨A2,B2,c2,rfl,_⟩:=id b2;refine ⟨uZ (by decide),_,_,rfl,by decide,by decide,?_⟩;exact ⟨rfl,q (r1-2*w) (r2-2*w) _ (by omega) (by omega) (by omega) (by omega) (b2.mono (by omega))⟩
def fZ (x y:Int):Nat->List (Int×Int)
 | 0=>[(0,0),(x,0),(x,y),(0,y)]
 | 1=>[(0,0),(x,1),(x+1,y+2),(1,y+1)]
 | 2=>[(0,0),(x,0),(0,y)]
 | 3=>[(0,0),(x,0),(x+1,0),(x+1,y),(0,y)]
 | _=>[(1,0),(x+1,0),(x+2,1),(x+2,y+1),(x+1,y+2),(0,1)]
def fL (X Y:Int) (cs:List (Int×Int)):List Pt:=cs.map λc=>(hf (X+2*c.1),hf (Y+2*c.2))
structure GG (m:Str) (n:Nat):Prop where
 len:m.cps.size=n
 all:∀c∈m.cps.toList,c∈("lrbe-":Str).cps.toList
structure LB (M:Int) (b:cR):Prop where
 ex:∃(w:Nat) (x y X Y:Int),w<5/\1<=x/\x<=6/\1<=y/\y<=6/\X.natAbs<=M/\Y.natAbs<=M/\b.o=fL X Y (fZ x y w)
 m:GG b.m b.o.length
 w:(b.w.length<=1000/\∀c∈b.w.cps.toList,c<16^8)/\b.n.natAbs<=100
theorem Js {x y:Int} (hx:1<=x) (cy:x<=6) (hy:1<=y) (hy':y<=6) (w:Nat):∀c∈fZ x y w,0<=c.1/\c.1<=8/\0<=c.2/\c.2<=8:=by
 intro c m
 match w with
 | 0 | 1 | 2 | 3 | _+4=>
  simp only [fZ,IU,MB,or_false,Prod.ext_iff] at m;omega
theorem xU (x y:Int) (w:Nat):3<=(fZ x y w).length/\(fZ x y w).length<=6:=by
 match w with
 | 0 | 1 | 2 | 3 | _+4=>simp only [fZ,JE,LQ];omega
def T5 (c:Int×Int):L2.T:=.tup [.int c.1,.int c.2]
def FQ (x y:Int):List L2.T:=[L2.T.lst ((fZ x y 0).map T5),.lst ((fZ x y 1).map T5),.lst ((fZ x y 2).map T5),.lst ((fZ x y 3).map T5),.lst ((fZ x y 4).map T5)]
theorem BI {r:Int} (h:0<=r) (k:r<5):∃c∈("lrbe-":Str).cps.toList,lE ("lrbe-":Str).cps.toList r=some c:=by
 have:r=0\/r=1\/r=2\/r=3\/r=4:=by omega
 rcases this with rfl | rfl | rfl | rfl | rfl
 ·exact ⟨_,by decide,rfl⟩
 ·exact ⟨_,by decide,rfl⟩
 ·exact ⟨_,by decide,rfl⟩
 ·exact ⟨_,by decide,rfl⟩
 ·exact ⟨_,by decide,rfl⟩
theorem wM {X Y:Int} (h:X.natAbs<2^15) (k:Y.natAbs<2^15):Nv (hf X) (hf Y) 15:=⟨k9 _,k9 _,Ta h (by decide),Ta k (by decide)⟩
theorem Qc {a b:Int} (h:a.natAbs<2^15) (k:b.natAbs<2^15):Nv (a,1) (b,1) 15:=⟨jN _,jN _,oE h (show (1:Int).natAbs<2^15 by decide) (by decide),oE k (show (1:Int).natAbs<2^15 by decide) (by decide)⟩
def vD (cs:List Nat):List Str:=cs.map λc=>⟨#[c]⟩
theorem Q3:∀cs:List Nat,cs.length=6->JoinOk (NJ "") (vD cs)=true/\∃m:Str,Txt.join (NJ "") (vD cs)=m/\m.length<=big/\∀n:Nat,3<=n->n<=6->(NR m none (some (n:Int))).cps.toList=cs.take n
 | [a,b,c,d,e,f],_=>by
  refine ⟨rfl,⟨#[a,b,c,d,e,f]⟩,rfl,(show 6<=big by decide),λn h1 h2=>?_⟩;have:n=3\/n=4\/n=5\/n=6:=by omega
  rcases this with rfl | rfl | rfl | rfl
  ·rfl
  ·rfl
  ·rfl
  ·rfl
def Kq:iN:=λas Q=>∃(xs:List L2.T) (n:Int),as=[.b xs,.v (.int 3)]/\Bx xs n/\n<=800000/\∀b ys,LB 6 b->Bx ys (n+13)->Q (.v (eL b)) ys
abbrev wY (P w K mg base):=Fn P w K mg base 4 "_law_shape" ["_law_box_here","_law_wide"] (aX K Kq)
abbrev sU:QU:=top 59
theorem gR:aO ["_law_box_here","_law_wide","_law_some","_law_spots","_law_way","_law_x","_law_y","_law_at","_law_marks","_law_word","_law_number"] ["_law_box_here","_law_wide"] (aF sU):=g8
theorem Lo {f:QF} {fd:QK} (F:eT K "_law_shape" "_law_shape" sU f fd) (TX:Txt mg) (TM:oO P w K mg base) (UU:l9 P w K mg base) (VA:sF P w K mg base)   : bJ P w K mg base fF 4 f fd ["_law_box_here","_law_wide"] (aX K Kq):=by
 refine F.okT gR ?len (λTQ A outer s H E hr=>(aE (Kd (i:=4) (j:=5) (k:=6) rfl gR.nd rfl rfl rfl (by decide) (by decide) (by decide) rfl rfl rfl (fc (bR TM hr (by omega) rfl (fc (fv 0) (fc aB aA))) (fc (bA b9 aB (bR TM hr (by omega) rfl (fc (fv 0) (fc aB aA)))) (fc (bA b9 aB (bR TM hr (by omega) rfl (fc (fv 0) (fc aB aA)))) aA))) rfl)
 (aE (jR (aL (fc (bR UU hr (by omega) rfl (fc (fv 0) (fc (fv 1) aA))) (fc (Vn rfl iH (fc (dG (N':=["_law_k","_law_box_here"]) (t:=1) (cap:=[(0,true)]) rfl (bK.of rfl) rfl (by decide) (fU rfl TX.n_range (fc aB aA)) (λ_ _ _ _=>(aI (i:=0) (show JT (["_law_k","_law_box_here"]:List Str) by decide +kernel) rfl (IV rfl) (JW rfl))) (λ_ _ _ _=>(J8 rfl iH (bR TM hr (by omega) rfl (fc (fv 1) (fc aB aA))) (λ_ _=>rfl)))) aA)) aA))) (cE (n:=2) rfl rfl (aJ (aI (i:=7) gR.nd rfl (JW rfl)) (aJ (aI (i:=8) gR.nd rfl (IV rfl)) bS))))
 (aE (bD (i:=2) gR.nd rfl (IV rfl) (Vy (fc (d8 (fc (aL (fc aB (fc aB aA))) (fc (aL (fc (fv 5) (fc aB aA))) (fc (aL (fc (fv 5) (fc (fv 6) aA))) (fc (aL (fc aB (fc (fv 6) aA))) aA))))) (fc (d8 (fc (aL (fc aB (fc aB aA))) (fc (aL (fc (fv 5) (fc aB aA))) (fc (aL (fc (bA b9 (fv 5) aB) (fc (bA b9 (fv 6) aB) aA))) (fc (aL (fc aB (fc (bA b9 (fv 6) aB) aA))) aA))))) aA))))
 (aE (gG (nK rfl (fv 2) (fc (d8 (fc (aL (fc aB (fc aB aA))) (fc (aL (fc (fv 5) (fc aB aA))) (fc (aL (fc aB (fc (fv 6) aA))) aA)))) aA)))
 (aE (gG (nK rfl (fv 2) (fc (d8 (fc (aL (fc aB (fc aB aA))) (fc (aL (fc (fv 5) (fc aB aA))) (fc (aL (fc (bA b9 (fv 5) aB) (fc aB aA))) (fc (aL (fc (bA b9 (fv 5) aB) (fc (fv 6) aA))) (fc (aL (fc aB (fc (fv 6) aA))) aA)))))) aA)))
 (aE (gG (nK rfl (fv 2) (fc (d8 (fc (aL (fc aB (fc aB aA))) (fc (aL (fc (bA b9 (fv 5) aB) (fc aB aA))) (fc (aL (fc (bA b9 (fv 5) aB) (fc aB aA))) (fc (aL (fc (bA b9 (fv 5) aB) (fc (bA b9 (fv 6) aB) aA))) (fc (aL (fc (bA b9 (fv 5) aB) (fc (bA b9 (fv 6) aB) aA))) (fc (aL (fc aB (fc aB aA))) aA))))))) aA)))
 (aE (bD (i:=3) gR.nd rfl (IV rfl) (mB rfl rfl TX.n_tuple (fc (dG (N':=["_law_a","_law_b","_law_at"]) (t:=2) (cap:=[(7,false)]) rfl (bK.of rfl) rfl (by decide) (dF rfl (aH rfl (fv 2) (fv 4) (λ_ _=>rfl))) (λ_ _ _ _=>(cE (n:=2) rfl rfl (aJ (aI (i:=0) (show JT (["_law_a","_law_b","_law_at"]:List Str) by decide +kernel) rfl (IV rfl) (JW rfl)) (aJ (aI (i:=1) (show JT (["_law_a","_law_b","_law_at"]:List Str) by decide +kernel) rfl (IV rfl) (JW rfl)) bS)))) (λ_ _ _ _=>(aC VA hr (by omega) rfl (fc (fv 2) (fc (aL (fc (aL (fc (fv 0) (fc aB aA))) (fc (aL (fc (fv 1) (fc aB aA))) aA))) aA))))) aA)))
 (aE (jY (i:=9) (j:=10) rfl gR.nd rfl rfl (by decide) rfl rfl (fc (aH rfl (d8 (fc iH (fc iH (fc iH (fc iH aA))))) (bR TM hr (by omega) rfl (fc (fv 0) (fc aB aA))) (λ_ _=>rfl)) (fc (bR TM hr (by omega) rfl (fc (fv 0) (fc aB aA))) aA)) rfl)
 (aK (aR (aL (fc (fv 9) (fc (fv 10) (fc (fv 3) (fc (Mh (fv 8) iU (e7 (kO rfl rfl TX.n_len (fc (fv 3) aA)))) aA)))))))))))))))) ?rd
 case len=>rintro as Q ⟨xs,n,rfl,_⟩;rfl
 case rd=>
  rintro as Q ⟨xs,n,rfl,bx,hn,q⟩;obtain ⟨A0,B0,c0,rfl,_⟩:=id bx;refine ⟨_,5,n,rfl,bx,by omega,by decide,by decide,λr1 y1 a1 a2 b1=>?_⟩;obtain ⟨A1,B1,c1,rfl,_⟩:=id b1;refine ⟨_,6,n+1,rfl,b1,by omega,by decide,by decide,λr2 y2 a3 a4 b2=>?_⟩;obtain ⟨A2,B2,c2,rfl,_⟩:=id b2;refine ⟨_,6,n+1+1,rfl,b2,by omega,by decide,by decide,λr3 y3 a5 a6 b3=>?_⟩;obtain ⟨A3,B3',c3,rfl,_⟩:=id b3;refine ⟨_,3,n+1+1+1,rfl,b3,by omega,by decide,by decide,λX Y y4 x1 x2 x3 x4 b4=>?_⟩;obtain ⟨A4,B4,c4,rfl,_⟩:=id b4;obtain ⟨w,hw,rfl⟩:∃w:Nat,w<5/\r1=(w:Int):=⟨r1.toNat,by omega,by omega⟩;refine ⟨by decide,rfl,?_⟩;show fG _ _ (mI 0 6) _ _;refine vI (λi E=>∃(w0:Option U) (ys:List L2.T) (cs:List Nat),E=[w0,some (.o true ys),some (.o false (k7 (vD cs)))]/\Bx ys (n+5+i)/\cs.length=i/\∀c∈cs,c∈("lrbe-":Str).cps.toList) ⟨none,_,[],rfl,b4.mono (by simp;omega),rfl,λc m=>absurd m (by simp)⟩ ?_ ?_
  ·rintro i t rest E hi ⟨w0,ys,cs,rfl,bi,hc,hm⟩ KK;obtain ⟨il,rfl⟩:=nR hi;obtain ⟨A5,B5,c5,rfl,_⟩:=id bi;refine ⟨_,5,_,rfl,bi,by omega,by decide,by decide,λr y5 u1 u2 b5=>?_⟩;obtain ⟨A6,B6,c6,rfl,_⟩:=id b5;obtain ⟨c,mc,XC⟩:=BI u1 u2;refine ⟨(show 5<=big by decide),?_⟩;show o1 (lE ("lrbe-":Str).cps.toList r) _;rw [XC];refine ⟨(show (k7 (vD cs)).length<1000 by simp [k7,vD];omega),KK _ ⟨some (.p (.int (0+(i:Int)))),[.int A6,.int B6,.int c6],cs++[c],?_,b5.mono (by push_cast;omega),by simp [hc],λz mz=>?_⟩⟩
   ·show [_,_,some (U.o false (k7 (vD cs)++[L2.T.str ⟨#[c]⟩]))]=_;rw [show k7 (vD cs)++[L2.T.str ⟨#[c]⟩]=k7 (vD (cs++[c])) by simp [k7,vD]]
   ·rcases JJ.mp mz with mz | mz
    ·exact hm z mz
    ·rw [JB] at mz;rw [mz];exact mc
  ·rintro E ⟨w0,ys,cs,rfl,bi,hc,hm⟩;have hc6:cs.length=6:=by rw [hc];rfl
   obtain ⟨A5,B5,c5,rfl,_⟩:=id bi;obtain ⟨jo,ms,ej,lj,sl⟩:=Q3 cs hc6;refine ⟨aZ (λ_=>rfl) _,?_⟩;show o1 (kZ (k7 (vD cs))) _;rw [Bl];refine ⟨jo,λz ez=>?_⟩;rw [ej] at ez;subst ez;refine ⟨(show 2<1000 by decide),(show 3<1000 by decide),(show 4<1000 by decide),?_⟩;have iw:lE (FQ (1+r2) (1+r3)) (w:Int)=some (L2.T.lst ((fZ (1+r2) (1+r3) w).map T5)):=by
    match w,hw with
    | 0,_ | 1,_ | 2,_ | 3,_ | 4,_=>rfl
   show o1 (lE (FQ (1+r2) (1+r3)) (w:Int)) _;rw [iw];have bs:=Js (x:=1+r2) (y:=1+r3) (by omega) (by omega) (by omega) (by omega) w;have ls:=xU (1+r2) (1+r3) w;refine ⟨rfl,bQ (f:=T5) (h:=λc=>pt (hf (X+2*c.1),hf (Y+2*c.2))) (λ(v:Option U×Option U) acc=>[v.1,v.2,some (.p (pt (hf X,hf Y))),some (.o false acc)]) (fZ (1+r2) (1+r3) w) (none,none) [] (by simp;omega) (λc m v acc rest ha K=>?_) λv=>?_⟩
   ·have:=bs c m;refine ⟨hf X,hf Y,(c.1,1),(c.2,1),15,15,rfl,wM (by omega) (by omega),Qc (by omega) (by omega),by decide,?_⟩;rw [Qa,Qa];exact ⟨ha,K (some (.p (.int c.1)),some (.p (.int c.2)))⟩
   ·refine ⟨aZ (λ_=>rfl) _,?_⟩;have eo:([]++(fZ (1+r2) (1+r3) w).map λc=>pt (hf (X+2*c.1),hf (Y+2*c.2)))=(fL X Y (fZ (1+r2) (1+r3) w)).map pt:=by rw [LC,fL,JG];rfl
    rw [eo];have lo:(fL X Y (fZ (1+r2) (1+r3) w)).length=(fZ (1+r2) (1+r3) w).length:=by rw [fL,IS]
    have hb:∀(s:Str) (k:Int),((s.length<=1000/\∀c∈s.cps.toList,c<16^8)/\k.natAbs<=100)->LB 6 ⟨s,k,fL X Y (fZ (1+r2) (1+r3) w),NR z none (some ((fZ (1+r2) (1+r3) w).length:Int))⟩:=λs k hs=>by
     refine ⟨⟨w,1+r2,1+r3,X,Y,hw,by omega,by omega,by omega,by omega,by omega,by omega,rfl⟩,⟨?_,?_⟩,hs⟩
     ·show (NR z none (some ((fZ (1+r2) (1+r3) w).length:Int))).cps.size=(fL X Y (fZ (1+r2) (1+r3) w)).length;rw [lo,<-MY,sl _ ls.1 ls.2,KP,hc6];omega
     ·show ∀c∈(NR z none (some ((fZ (1+r2) (1+r3) w).length:Int))).cps.toList,_;rw [sl _ ls.1 ls.2];exact λc m=>hm c (LH m)
    generalize fL X Y (fZ (1+r2) (1+r3) w)=O at *;refine (?_:rC [some (.o true [.int A5,.int B5,.int c5]),some (.p (.int 3)),some (.o false (FQ (1+r2) (1+r3))),some (.p (.tup (O.map pt))),some (.p (.int (w:Int))),some (.p (.int (1+r2))),some (.p (.int (1+r3))),some (.p (pt (hf X,hf Y))),some (.p (.str z)),none,none] _);refine ⟨_,4,_,rfl,bi,by omega,by decide,by decide,λr6 y6 u1 u2 b6=>?_⟩;obtain ⟨A6,B6,c6,rfl,_⟩:=id b6;obtain ⟨s,hs,jc⟩:∃s:Str,lE [L2.T.str "strip",.str "fan",.str "cap",.str "sector"] r6=some (L2.T.str s)/\(s.length<=1000/\∀c∈s.cps.toList,c<16^8):=by
     have:r6=0\/r6=1\/r6=2\/r6=3:=by omega
     rcases this with rfl | rfl | rfl | rfl
     ·exact ⟨_,rfl,by decide⟩
     ·exact ⟨_,rfl,by decide⟩
     ·exact ⟨_,rfl,by decide⟩
     ·exact ⟨_,rfl,by decide⟩
    show o1 (lE [L2.T.str "strip",.str "fan",.str "cap",.str "sector"] r6) _;rw [hs];refine ⟨_,4,_,rfl,b6,by omega,by decide,by decide,λr7 y7 u3 u4 b7=>?_⟩;obtain ⟨A7,B7,c7,rfl,_⟩:=id b7;refine ⟨lj,λy ey=>?_⟩;have el:((O.map pt).length:Int)=((fZ (1+r2) (1+r3) w).length:Int):=by rw [IS,lo]
    have ey':y=NR z none (some ((O.map pt).length:Int)):=ey;rw [el] at ey';subst ey';exact ⟨Uj ⟨s,r7,O,NR z none (some ((fZ (1+r2) (1+r3) w).length:Int))⟩,q _ _ (hb s r7 ⟨jc,by omega⟩) (b7.mono (by omega))⟩
end
end My
namespace My
open PySem L2 PyProof.Rows
section
variable {P:QJ} {w:QM} {K:W.Frag} {mg:Str->Option Value} {base:Heap}
theorem Yr {α:Type} {f:α->L2.T} {xs:List α} {j:Nat} (h:j<xs.length):∃x,xs[(j+xs.length-1)%xs.length]? = some x/\lE (xs.map f) ((j:Int)-1)=some (f x):=by
 have hk:(j+xs.length-1)%xs.length<xs.length:=OF _ (by omega);refine ⟨_,IQ hk,?_⟩;unfold lE;have e:Iw (xs.map f).length ((j:Int)-1)=some ((j+xs.length-1)%xs.length):=by
  unfold Iw;rw [IS];cases j with
  | zero=>
   rw [if_neg (by omega),if_pos (by omega)]
   congr 1
   rw [show 0+xs.length-1=xs.length-1 by omega,PC (by omega)];omega
  | succ j=>
   rw [if_pos (by omega),if_pos (by omega)]
   congr 1
   rw [show j+1+xs.length-1=j+xs.length by omega,Nat.add_mod_right,PC (by omega)];omega
 rw [e];simp [IQ hk]
theorem Rf {p q d:Int} (h:p-q=2*d):iQ (hf p) (hf q)=(d,1):=by
 refine eJ (eD (k9 p) (k9 q)) (jN d) ?_;have:(p:Rat)-(q:Rat)=2*(d:Rat):=by exact_mod_cast h
 rw [g9 (k9 p) (k9 q),pR,pR,mK];grind
theorem Jt (p q:Int):hV (hf p) (hf q)=hf (p+q):=by
 refine eJ (iW (k9 p) (k9 q)) (k9 _) ?_;rw [iX (k9 p) (k9 q),pR,pR,pR]
 push_cast
 grind
theorem Pk (d s:Int):eO (d,1) (hf s)=hf (s*d):=by
 refine eJ (bM (jN d) (k9 s)) (k9 _) ?_;rw [dQ (jN d) (k9 s),pR,pR,mK]
 push_cast
 grind
theorem LB.mono {M N:Int} {b:cR} (h:LB M b) (k:M<=N):LB N b:=by
 obtain ⟨⟨w,x,y,X,Y,h1,h2,h3,h4,h5,h6,h7,h8⟩,hm,hw⟩:=h;exact ⟨⟨w,x,y,X,Y,h1,h2,h3,h4,h5,by omega,by omega,h8⟩,hm,hw⟩
theorem Sf {X Y:Int} {zs:List (Int×Int)} {j:Nat} {p:Pt} (h:(fL X Y zs)[j]? = some p):∃c∈zs,p=(hf (X+2*c.1),hf (Y+2*c.2)):=by
 obtain ⟨c,m,e⟩:=IP.mp (JA h);exact ⟨c,m,e.symm⟩
theorem mN {α:Type} {f:α->L2.T} {n:Nat} (h:∀x,L2.dT (f x)<=n):∀xs:List α,L2.Jw (xs.map f)<=n
 | []=>LM _
 | x::xs=>by rw [JK,L2.Jw];exact NU.mpr ⟨h x,mN h xs⟩
theorem Zo (b:cR):L2.dT (eL b)<=5:=by
 have h:=mN (f:=pt) (n:=2) (λ_=>iC rfl) b.o;unfold eL;simp only [L2.dT,L2.Jw];have:OV 0 (OV 0 (OV (L2.Jw (b.o.map pt)+1) (OV 0 0)))<=4:=NU.mpr ⟨by omega,NU.mpr ⟨by omega,NU.mpr ⟨by omega,NU.mpr ⟨by omega,by omega⟩⟩⟩⟩;omega
theorem HU {r:Int} (h:0<=r) (k:r<4):∃s:Int,0<=s/\s<=4/\lE [L2.T.tup [.int 0,.int 1],.tup [.int 1,.int 1],.tup [.int 1,.int 2],.tup [.int 2,.int 1]] r=some (fr (hf s)):=by
 have:r=0\/r=1\/r=2\/r=3:=by omega
 rcases this with rfl | rfl | rfl | rfl
 ·exact ⟨0,by decide,by decide,rfl⟩
 ·exact ⟨2,by decide,by decide,rfl⟩
 ·exact ⟨1,by decide,by decide,rfl⟩
 ·exact ⟨4,by decide,by decide,rfl⟩
def BA:iN:=λas Q=>∃(xs:List L2.T) (M n:Int),as=[.b xs,.v (.int M)]/\Bx xs n/\n<=700000/\1<=M/\M<=10/\∀(bs:List cR) (ys:List L2.T),1<=bs.length->(bs.length:Int)<=M->(∀b∈bs,LB 400 b)->Bx ys (n+300)->Q (.l (bs.map eL)) ys
abbrev Il (P w K mg base):=Fn P w K mg base 5 "_law_lot" ["_law_box_here","_law_most"] (aX K BA)
abbrev Gj:QU:=top 60
theorem fJ:aO ["_law_box_here","_law_most","_law_found","_law_k","_law_way","_law_block","_law_at","_law_share","_law_step","_law_word","_law_number","_law_spots","_law_marks"] ["_law_box_here","_law_most"] (aF Gj):=g8
theorem Yl {f:QF} {fd:QK} (F:eT K "_law_lot" "_law_lot" Gj f fd) (TX:Txt mg) (TM:oO P w K mg base) (WT:wY P w K mg base) (VA:sF P w K mg base) (UA:jZ P w K mg base) (XY:Ig P w K mg base)   : bJ P w K mg base fF 5 f fd ["_law_box_here","_law_most"] (aX K BA):=by
 refine F.okT fJ ?len (λTQ A outer s H E hr=>(aE (bD (i:=2) fJ.nd rfl (IV rfl) (d8 aA))
 (aE (gY PassesOwn.never rfl (fU rfl TX.n_range (fc (bA b9 aB (bR TM hr (by omega) rfl (fc (fv 0) (fc (fv 1) aA)))) aA)) (aI (i:=3) fJ.nd rfl (IV rfl))
  (aE (jY (i:=4) (j:=5) rfl fJ.nd rfl rfl (by decide) rfl rfl (fc (bR TM hr (by omega) rfl (fc (fv 0) (fc aB aA))) (fc (bR WT hr (by omega) rfl (fc (fv 0) (fc aB aA))) aA)) rfl)
 (aE (e9 (Ls (Qj (fH iF (fv 4) aB (bE _)) (La (rB rfl hr (fv 2) (d8 aA) (bE _))))) (aE (jR (aH rfl (fv 2) (bR TM hr (by omega) rfl (fc (fv 0) (fc (kO rfl rfl TX.n_len (fc (fv 2) aA)) aA))) (λ_ _=>rfl)) (cE (n:=4) rfl rfl (aJ (aI (i:=9) fJ.nd rfl (IV rfl)) (aJ (aI (i:=10) fJ.nd rfl (IV rfl)) (aJ (aI (i:=11) fJ.nd rfl (IV rfl)) (aJ (aI (i:=12) fJ.nd rfl (IV rfl)) bS))))))
 (aE (bD (i:=6) fJ.nd rfl (IV rfl) (bR TM hr (by omega) rfl (fc (fv 0) (fc (kO rfl rfl TX.n_len (fc (fv 11) aA)) aA))))
 (aE (bD (i:=7) fJ.nd rfl (IV rfl) (aH rfl (d8 (fc (aL (fc aB (fc aB aA))) (fc (aL (fc aB (fc aB aA))) (fc (aL (fc aB (fc aB aA))) (fc (aL (fc aB (fc aB aA))) aA))))) (bR TM hr (by omega) rfl (fc (fv 0) (fc aB aA))) (λ_ _=>rfl)))
 (aE (bD (i:=8) fJ.nd rfl (JW rfl) (aC UA hr (by omega) rfl (fc (aC XY hr (by omega) rfl (fc (aH rfl (fv 11) (fv 6) (λ_ _=>rfl)) (fc (aH rfl (fv 11) (bA iJ (fv 6) aB) (λ_ _=>rfl)) aA))) (fc (fv 7) aA))))
 (aK (bD (i:=5) fJ.nd rfl (IV rfl) (aL (fc (fv 9) (fc (fv 10) (fc (mB rfl rfl TX.n_tuple (fc (dG (N':=["_law_spot","_law_step"]) (t:=1) (cap:=[(8,false)]) rfl (bK.of rfl) rfl (by decide) (qI rfl (fv 11)) (λ_ _ _ _=>(aI (i:=0) (show JT (["_law_spot","_law_step"]:List Str) by decide +kernel) rfl (IV rfl) (JW rfl))) (λ_ _ _ _=>(aC VA hr (by omega) rfl (fc (fv 0) (fc (fv 1) aA))))) aA)) (fc (fv 12) aA))))))))))) dH)
 (aK (gG (fX rfl (fv 2) (fc (fv 5) aA)))))))
 (aK (aR (fv 2)))))) ?rd
 case len=>rintro as Q ⟨xs,M,n,rfl,_⟩;rfl
 case rd=>
  rintro as Q ⟨xs,M,n,rfl,bx,hn,m1,m2,q⟩;obtain ⟨A0,B0,c0,rfl,_⟩:=id bx;refine ⟨_,M,n,rfl,bx,by omega,m1,by omega,λr1 y1 a1 a2 b1=>?_⟩;obtain ⟨A1,B1,c1,rfl,_⟩:=id b1;obtain ⟨m,hm,em⟩:∃m:Nat,(m:Int)<=M/\1+r1=(m:Int):=⟨(1+r1).toNat,by omega,by omega⟩;refine ⟨⟨by show -(2^62:Int)<=1+r1;omega,by show 1+r1<2^62;omega⟩,?_⟩;show rC _ (fA _ _ _ (mI 0 (1+r1).toNat));rw [em,MP];refine iZ (λi E=>∃(ys:List L2.T) (bs:List cR) (v3 v4 v5 v6 v7 v8 v9 v10 v11 YQ:Option U),E=[some (.o true ys),some (.p (.int M)),some (.o false (bs.map eL)),v3,v4,v5,v6,v7,v8,v9,v10,v11,YQ]/\Bx ys (n+1+20*i)/\bs.length=i/\∀b∈bs,LB (6+32*i) b) ⟨_,[],_,_,_,_,_,_,_,_,_,_,rfl,b1.mono (by simp),rfl,λb m=>absurd m (by simp)⟩ ?_ ?_
  ·rintro i t rest E hi ⟨ys,bs,v3,v4,v5,v6,v7,v8,v9,v10,v11,YQ,rfl,bi,hl,hb⟩ KK;obtain ⟨il,rfl⟩:=nR hi;obtain ⟨A2,B2,c2,rfl,_⟩:=id bi;refine ⟨_,5,_,rfl,bi,by omega,by decide,by decide,λr2 y2 a3 a4 b2=>?_⟩;obtain ⟨A3,B3',c3,rfl,_⟩:=id b2;refine ⟨_,_,rfl,b2,by omega,λb y3 lb b3=>?_⟩;obtain ⟨A4,B4,c4,rfl,_⟩:=id b3;have lb1:LB (6+32*((i+1:Nat):Int)) b:=lb.mono (by omega);have hb1:∀b∈bs,LB (6+32*((i+1:Nat):Int)) b:=λb m=>(hb b m).mono (by push_cast;omega);have snoc:∀b,LB (6+32*((i+1:Nat):Int)) b->∀b'∈bs++[b],LB (6+32*((i+1:Nat):Int)) b':=λb l b' m=>by
    rcases JJ.mp m with m | m
    ·exact hb1 b' m
    ·rw [JB] at m;rw [m];exact l
   have app:∀b,bs.map eL++[eL b]=(bs++[b]).map eL:=λb=>by rw [KU];rfl
   have ln:∀b,(bs.map eL++[eL b]).length<=1000:=λb=>by rw [IY,IS,hl];simp;omega
   show if decide (r2<2)=true then _ else _
   by_cases c:r2<2
   ·rw [decide_eq_true c,if_pos rfl];have dm:L2.dT (.lst (bs.map eL))<=60:=by
     have:=mN Zo bs;simp only [L2.dT];omega
    refine ⟨dm,?_⟩
    by_cases e0:bs=[]
    ·subst e0;refine ⟨ln b,?_⟩;exact KK [some (.o true [.int A4,.int B4,.int c4]),some (.p (.int M)),some (.o false ([b].map eL)),some (.p (.int (0+(i:Int)))),some (.p (.int r2)),some (.p (eL b)),v6,v7,v8,v9,v10,v11,YQ] ⟨_,[b],_,_,_,_,_,_,_,_,_,_,rfl,b3.mono (by push_cast;omega),by simp at hl ⊢;omega,snoc b lb1⟩
    ·have ee:iG (.lst (bs.map eL)) (.lst [])=false:=by
      cases bs with
      | nil=>exact absurd rfl e0
      | cons x r=>rfl
     have el:(0:Nat)<bs.length:=List.length_pos_iff.mpr e0;show if (!(iG (.lst (bs.map eL)) (.lst [])))=true then _ else _;rw [ee,if_pos (by decide)];refine ⟨_,((bs.map eL).length:Int),_,rfl,b3,by omega,by rw [IS];omega,by rw [IS,hl];omega,λr5 y5 u1 u2 b5=>?_⟩;obtain ⟨A5,B5,c5,rfl,_⟩:=id b5;rw [IS] at u2;obtain ⟨k,hk,rfl⟩:∃k:Nat,k<bs.length/\r5=(k:Int):=⟨r5.toNat,by omega,by omega⟩;show o1 (lE (bs.map eL) (k:Int)) _;rw [lN (IQ hk)];have lk:=hb _ (LN hk);generalize bs[k]=g at lk;obtain ⟨⟨w,x,y,X,Y,h1,h2,h3,h4,h5,h6,h7,h8⟩,lq,mj⟩:=lk;obtain ⟨gw,gn,go,gm⟩:=g;simp only at h8 lq mj;subst h8;have hz:=Js h2 h3 h4 h5 w;have lz:=xU x y w;have lz':(fL X Y (fZ x y w)).length=(fZ x y w).length:=by rw [fL,IS]
     generalize um:fZ x y w=zs at *;refine ⟨_,(((fL X Y zs).map pt).length:Int),_,rfl,b5,by omega,by rw [IS];omega,by rw [IS];omega,λr6 y6 u3 u4 b6=>?_⟩;obtain ⟨A6,B6,c6,rfl,_⟩:=id b6;rw [IS] at u4;obtain ⟨j,hj,rfl⟩:∃j:Nat,j<(fL X Y zs).length/\r6=(j:Int):=⟨r6.toNat,by omega,by omega⟩;refine ⟨_,4,_,rfl,b6,by omega,by decide,by decide,λr7 y7 u5 u6 b7=>?_⟩;obtain ⟨A7,B7,c7,rfl,_⟩:=id b7;obtain ⟨s,s0,s4,hs⟩:=HU u5 u6;show o1 (lE [L2.T.tup [.int 0,.int 1],.tup [.int 1,.int 1],.tup [.int 1,.int 2],.tup [.int 2,.int 1]] r7) _;rw [hs];refine (?_:rC [some (.o true [.int A7,.int B7,.int c7]),some (.p (.int M)),some (.o false (bs.map eL)),some (.p (.int (0+(i:Int)))),some (.p (.int r2)),some (.p (eL b)),some (.p (.int (j:Int))),some (.p (fr (hf s))),v8,some (.p (.str gw)),some (.p (.int gn)),some (.p (.tup ((fL X Y zs).map pt))),some (.p (.str gm))] _);obtain ⟨p1,hp1⟩:∃p,(fL X Y zs)[j]? = some p:=⟨_,IQ hj⟩;obtain ⟨p2,hp2,at2⟩:=Yr (f:=pt) hj;show o1 (lE ((fL X Y zs).map pt) (j:Int)) _;rw [lN hp1];show o1 (lE ((fL X Y zs).map pt) ((j:Int)-1)) _;rw [at2];obtain ⟨z1,mz1,rfl⟩:=Sf hp1;obtain ⟨z2,mz2,rfl⟩:=Sf hp2;have q1:=hz z1 mz1;have q2:=hz z2 mz2;have hX:X.natAbs<=400:=by omega
     have hY:Y.natAbs<=400:=by omega
     refine ⟨_,_,_,_,15,15,rfl,wM (by omega) (by omega),wM (by omega) (by omega),by decide,?_⟩;rw [Rf (d:=z1.1-z2.1) (by omega),Rf (d:=z1.2-z2.2) (by omega)];refine ⟨_,_,_,15,rfl,Qc (by omega) (by omega),k9 s,by have:=Ta (n:=s) (e:=5) (by omega) (by decide);omega,?_⟩;rw [Pk,Pk];have e1:(s*(z1.1-z2.1)).natAbs<=32:=by
      rw [KG];exact KS (KA (show s.natAbs<=4 by omega) (show (z1.1-z2.1).natAbs<=8 by omega)) (by decide)
     have e2:(s*(z1.2-z2.2)).natAbs<=32:=by
      rw [KG];exact KS (KA (show s.natAbs<=4 by omega) (show (z1.2-z2.2).natAbs<=8 by omega)) (by decide)
     generalize s*(z1.1-z2.1)=dx at *;generalize s*(z1.2-z2.2)=dy at *;refine ⟨rfl,?_⟩;show fG _ _ ((fL X Y zs).map pt) _ _;have mv:LB (6+32*((i+1:Nat):Int)) ⟨gw,gn,fL (X+dx) (Y+dy) zs,gm⟩:=⟨⟨w,x,y,X+dx,Y+dy,h1,h2,h3,h4,h5,by push_cast;omega,by push_cast;omega,by rw [um]⟩,⟨by rw [lq.len,fL,fL,IS,IS],lq.all⟩,mj⟩;rw [show (fL X Y zs).map pt=zs.map (λc=>pt (hf (X+2*c.1),hf (Y+2*c.2))) by rw [fL,JG];rfl];refine bQ (f:=λc=>pt (hf (X+2*c.1),hf (Y+2*c.2))) (h:=λc=>pt (hf (X+dx+2*c.1),hf (Y+dy+2*c.2))) (λ(v:Option U) acc=>[v,some (.p (pt (hf dx,hf dy))),some (.o false acc)]) zs none [] (by simp;omega) (λc m v acc rest ha K=>?_) λv=>?_
     ·have:=hz c m;refine ⟨_,_,_,_,15,15,rfl,wM (by omega) (by omega),wM (by omega) (by omega),by decide,?_⟩;rw [Jt,Jt,show X+2*c.1+dx=X+dx+2*c.1 by omega,show Y+2*c.2+dy=Y+dy+2*c.2 by omega];exact ⟨ha,K (some (.p (pt (hf (X+2*c.1),hf (Y+2*c.2)))))⟩
     ·refine ⟨aZ (λ_=>rfl) _,?_⟩;have eo:([]++zs.map λc=>pt (hf (X+dx+2*c.1),hf (Y+dy+2*c.2)))=(fL (X+dx) (Y+dy) zs).map pt:=by rw [LC,fL,JG];rfl
      rw [eo];refine ⟨ln ⟨gw,gn,fL (X+dx) (Y+dy) zs,gm⟩,?_⟩;have:=KK [some (.o true [.int A7,.int B7,.int c7]),some (.p (.int M)),some (.o false ((bs++[(⟨gw,gn,fL (X+dx) (Y+dy) zs,gm⟩:cR)]).map eL)),some (.p (.int (0+(i:Int)))),some (.p (.int r2)),some (.p (eL ⟨gw,gn,fL (X+dx) (Y+dy) zs,gm⟩)),some (.p (.int (j:Int))),some (.p (fr (hf s))),some (.p (pt (hf dx,hf dy))),some (.p (.str gw)),some (.p (.int gn)),some (.p (.tup (zs.map λc=>pt (hf (X+2*c.1),hf (Y+2*c.2))))),some (.p (.str gm))] ⟨_,_,_,_,_,_,_,_,_,_,_,_,rfl,b7.mono (by push_cast;omega),by simp [hl],snoc _ mv⟩;rw [<-app] at this;exact this
   ·rw [decide_eq_false c,if_neg (by decide)];refine ⟨ln b,?_⟩;have:=KK [some (.o true [.int A4,.int B4,.int c4]),some (.p (.int M)),some (.o false ((bs++[b]).map eL)),some (.p (.int (0+(i:Int)))),some (.p (.int r2)),some (.p (eL b)),v6,v7,v8,v9,v10,v11,YQ] ⟨_,bs++[b],_,_,_,_,_,_,_,_,_,_,rfl,b3.mono (by push_cast;omega),by simp [hl],snoc b lb1⟩;rw [<-app] at this;exact this
  ·rintro E ⟨ys,bs,v3,v4,v5,v6,v7,v8,v9,v10,v11,YQ,rfl,bi,hl,hb⟩;have aj:bs.length=m:=by rw [hl];simp [mI]
   obtain ⟨A2,B2,c2,rfl,_⟩:=id bi;exact ⟨aZ Uj _,q bs _ (by omega) (by omega) (λb mb=>(hb b mb).mono (by omega)) (bi.mono (by omega))⟩
end
end My
namespace My
open PySem L2 PyProof.Rows
section
variable {P:QJ} {w:QM} {K:W.Frag} {mg:Str->Option Value} {base:Heap}
theorem Pb.np {p:Pt} (h:Pb p):NP p:=⟨h.v.x,h.v.y⟩
theorem j8 {a b:Pt} (ha:NP a) (hb:NP b) (h:a≠b):0<aT (aV (vq b) (vq a)) (aV (vq b) (vq a)):=by
 unfold aT;have s1:=F0 (aV (vq b) (vq a)).1;have s2:=F0 (aV (vq b) (vq a)).2
 by_cases y1:(aV (vq b) (vq a)).1=0
 ·by_cases y2:(aV (vq b) (vq a)).2=0
  ·have e1:val b.1-val a.1=0:=y1;have e2:val b.2-val a.2=0:=y2;exact absurd (Prod.ext (eJ ha.x hb.x (by grind)) (eJ ha.y hb.y (by grind))) h
  ·have:=nV y2;grind
 ·have:=nV y1;grind
theorem Dw {o:List Pt}:(zr o).length=o.length:=by
 unfold zr oY;rw [OH,IY,MX,KP];omega
theorem vP {o:List Pt} {k:Nat} (hk:k<o.length):∃p q,o[k]? = some p/\o[(k+1)%o.length]? = some q/\(zr o)[k]? = some (p,q):=by
 have hz:k<(zr o).length:=by rw [Dw];exact hk
 have hm:(k+1)%o.length<o.length:=OF _ (by omega);refine ⟨o[k],o[(k+1)%o.length],IQ hk,IQ hm,?_⟩;unfold zr;rw [List.getElem?_zip_eq_some];refine ⟨IQ hk,?_⟩;unfold oY
 by_cases c:k+1<o.length
 ·rw [JP (by rw [MX];omega),List.getElem?_tail,IQ c]
  congr 2
  exact (PC c).symm
 ·have e:k+1=o.length:=by omega
  rw [KY (by rw [MX];omega),MX,show k-(o.length-1)=0 by omega];have e0:(k+1)%o.length=0:=by rw [e,Nat.mod_self]
  rw [<-IQ hm,e0];cases o with
  | nil=>simp at hk
  | cons p o=>rfl
end
end My
namespace My
open PySem L2 PyProof.Rows
end My
namespace My
open PySem L2 PyProof.Rows
end My
namespace My
open PySem L2 PyProof.Rows
section
variable {P:QJ} {w:QM} {K:W.Frag} {mg:Str->Option Value} {base:Heap}
theorem GR:∀(fs:List (Rat×Rat)) (B:Rat),0<B->(∀f∈fs,0<f.1\/(f.1=0/\f.2=0))->∃d,0<d/\d<=B/\∀f∈fs,0<=f.1+f.2*d/\0<=f.1-f.2*d
 | [],B,hB,_=>⟨B,hB,by grind,λf m=>absurd m (by simp)⟩
 | f::fs,B,hB,h=>by
  obtain ⟨d,d0,dB,hd⟩:=GR fs B hB λg m=>h g (by simp [m]);have small:∀{u:Rat×Rat} {d':Rat},0<=u.1+u.2*d/\0<=u.1-u.2*d->0<d'->d'<=d->0<=u.1+u.2*d'/\0<=u.1-u.2*d':=λ{u d'} k p0 pd=>by
   rcases Rat.le_total (a:=0) (b:=u.2) with c | c
   ·have m1:=Rat.mul_nonneg c (show 0<=d-d' by grind);have m2:=Rat.mul_nonneg c (Rat.le_of_lt p0);exact ⟨by grind,by grind⟩
   ·have m1:=Rat.mul_nonneg (show 0<=-u.2 by grind) (show 0<=d-d' by grind);have m2:=Rat.mul_nonneg (show 0<=-u.2 by grind) (Rat.le_of_lt p0);exact ⟨by grind,by grind⟩
  rcases h f (by simp) with p | ⟨z1,z2⟩
  ·-- so small that it fits
   have ex:∃d',0<d'/\d'<=d/\0<=f.1+f.2*d'/\0<=f.1-f.2*d':=by
    have key:∀s:Rat,0<=s->∃d',0<d'/\d'<=d/\s*d'<=f.1:=λs hs=>by
     by_cases c:s*d<=f.1
     ·exact ⟨d,d0,by grind,c⟩
     ·have s0:0<s:=by
       by_cases z:s=0
       ·rw [z] at c;grind
       ·grind
      have i0:=Rat.inv_pos.mpr s0;have e1:s*(f.1*s⁻¹)=f.1:=by grind
      refine ⟨f.1*s⁻¹,Rat.mul_pos p i0,?_,by rw [e1];grind⟩;refine Rat.not_lt.mp λq=>?_;have:=Rat.mul_pos s0 (show 0<f.1*s⁻¹-d by grind);grind
    rcases Rat.le_total (a:=0) (b:=f.2) with c | c
    ·obtain ⟨d',a1,a2,a3⟩:=key f.2 c;have:=Rat.mul_nonneg c (Rat.le_of_lt a1);exact ⟨d',a1,a2,by grind,by grind⟩
    ·obtain ⟨d',a1,a2,a3⟩:=key (-f.2) (by grind);have:=Rat.mul_nonneg (show 0<=-f.2 by grind) (Rat.le_of_lt a1);exact ⟨d',a1,a2,by grind,by grind⟩
   obtain ⟨d',a1,a2,a3⟩:=ex;refine ⟨d',a1,by grind,λg m=>?_⟩;rcases IU.mp m with rfl | m
   ·exact a3
   ·exact small (hd g m) a1 a2
  ·refine ⟨d,d0,dB,λg m=>?_⟩;rcases IU.mp m with rfl | m
   ·rw [z1,z2];exact ⟨by grind,by grind⟩
   ·exact hd g m
theorem Bf {a b:Pt} {f:Fr} (ha:NP a) (hb:NP b) (hf:dY f):NP (iO a b f)/\vq (iO a b f)=fV (vq a) (vq b) (val f):=by
 refine ⟨⟨iW ha.x (bM (eD hb.x ha.x) hf),iW ha.y (bM (eD hb.y ha.y) hf)⟩,?_⟩;unfold vq iO fV;simp only;rw [iX ha.x (bM (eD hb.x ha.x) hf),dQ (eD hb.x ha.x) hf,g9 hb.x ha.x,iX ha.y (bM (eD hb.y ha.y) hf),dQ (eD hb.y ha.y) hf,g9 hb.y ha.y]
abbrev Z2:=Int×Int
abbrev Ez:=Z2×Z2
def Vf (u v:Z2):Int:=u.1*v.2-u.2*v.1
def AW (u v:Z2):Int:=u.1*v.1+u.2*v.2
def DL (p q:Z2):Z2:=(p.1-q.1,p.2-q.2)
def vz (e:Ez):Z2:=DL e.2 e.1
def fz (e:Ez) (x:Z2):Int:=Vf (vz e) (DL x e.1)
def DH (cs:List Z2):List Ez:=cs.zip (oY cs)
def DQ (es:List Ez):Bool:=
 (es.all λe=>es.all λg=>decide (0<=fz e g.1))&&((es.all λe=>es.any λg=>decide (0<fz e g.1))&&((es.all λe=>decide (0<AW (vz e) (vz e))) &&
 ((es.all λe=>es.any λg=>decide (g.1=e.2)&&(decide (0<Vf (vz e) (vz g))||(decide (Vf (vz e) (vz g)=0)&&(decide (0<AW (vz e) (vz g))&&es.any λh=>decide (h.1=g.2)&&decide (0<Vf (vz g) (vz h)))))) &&
 (es.all λe=>es.any λg=>decide (g.2=e.1)&&(decide (0<Vf (vz g) (vz e))||(decide (Vf (vz g) (vz e)=0)&&(decide (0<AW (vz g) (vz e))&&es.any λh=>decide (h.2=g.1)&&decide (0<Vf (vz h) (vz g)))))))))
theorem Zc:((LA 5).all λw=>(LA 6).all λx=>(LA 6).all λy=>DQ (DH (fZ ((x:Int)+1) ((y:Int)+1) w)))=true:=by decide +kernel
theorem Yv {x y:Int} {w:Nat} (hx:1<=x) (cy:x<=6) (hy:1<=y) (hy':y<=6) (hw:w<5):DQ (DH (fZ x y w))=true:=by
 have h:=Zc;rw [LK] at h;have h1:=h w (LI.mpr hw);rw [LK] at h1;have h2:=h1 (x-1).toNat (LI.mpr (by omega));rw [LK] at h2;have h3:=h2 (y-1).toNat (LI.mpr (by omega));rw [show (((x-1).toNat:Nat):Int)+1=x by omega,show (((y-1).toNat:Nat):Int)+1=y by omega] at h3;exact h3
def pq (X Y:Int) (c:Z2):Q2:=(((X:Rat)+2*(c.1:Rat))*(1/2),((Y:Rat)+2*(c.2:Rat))*(1/2))
def Av (X Y:Int) (e:Ez):Eg:=(pq X Y e.1,pq X Y e.2)
theorem So (X Y:Int) (c:Z2):vq (hf (X+2*c.1),hf (Y+2*c.2))=pq X Y c:=by
 unfold vq pq;rw [pR,pR]
 push_cast
 rfl
theorem Xn (X Y:Int) (cs:List Z2):fB (fL X Y cs)=(DH cs).map (Av X Y):=by
 unfold fB zr DH fL;rw [uG,List.zip_map,JG];refine JQ λe _=>?_;show (vq _,vq _)=Av X Y e;unfold Av;rw [<-So,<-So];rfl
theorem Cd (X Y:Int) (e:Ez):aP (Av X Y e)=(((vz e).1:Rat),((vz e).2:Rat)):=by
 unfold aP Av aV pq vz DL
 push_cast
 exact Prod.ext (by simp only;grind) (by simp only;grind)
theorem BC {X Y:Int} {es:List Ez} (h:DQ es=true):Cx (es.map (Av X Y)):=by
 have cc:∀e g:Ez,crs (aP (Av X Y e)) (aP (Av X Y g))=((Vf (vz e) (vz g):Int):Rat):=λe g=>by
  rw [Cd,Cd];unfold crs Vf;push_cast;rfl
 have dd:∀e g:Ez,aT (aP (Av X Y e)) (aP (Av X Y g))=((AW (vz e) (vz g):Int):Rat):=λe g=>by
  rw [Cd,Cd];unfold aT AW;push_cast;rfl
 have ff:∀e g:Ez,fE (Av X Y e) (Av X Y g).1=((fz e g.1:Int):Rat):=λe g=>by
  unfold fE fz crs Vf;rw [Cd];unfold aV Av pq DL
  push_cast
  grind
 have le:∀{i:Int},0<=i->(0:Rat)<=(i:Rat):=λh=>by exact_mod_cast h
 have lt:∀{i:Int},0<i->(0:Rat)<(i:Rat):=λh=>by exact_mod_cast h
 unfold DQ at h;simp only [JY] at h;obtain ⟨h1,h2,h3,h4,h5⟩:=h;rw [LK] at h1 h2 h3 h4 h5;refine ⟨λe0 WY g0 wb=>?_,λe0 WY=>?_,λe0 WY=>?_,λe0 WY=>?_,λe0 WY=>?_⟩
 ·obtain ⟨e,me,rfl⟩:=IP.mp WY;obtain ⟨g,mg,rfl⟩:=IP.mp wb;rw [ff];have:=h1 e me;rw [LK] at this;exact le (by simpa using this g mg)
 ·obtain ⟨e,me,rfl⟩:=IP.mp WY;have:=h2 e me;rw [LW] at this;obtain ⟨g,mg,k⟩:=this;exact ⟨_,IP.mpr ⟨g,mg,rfl⟩,by rw [ff];exact lt (by simpa using k)⟩
 ·obtain ⟨e,me,rfl⟩:=IP.mp WY;rw [dd];exact lt (by simpa using h3 e me)
 ·obtain ⟨e,me,rfl⟩:=IP.mp WY;have:=h4 e me;rw [LW] at this;obtain ⟨g,mg,k⟩:=this;simp only [JY,PQ,decide_eq_true_eq] at k;obtain ⟨k1,k2⟩:=k;refine ⟨_,IP.mpr ⟨g,mg,rfl⟩,by unfold Av;rw [k1],?_⟩;rcases k2 with k2 | ⟨k2,k3,k4⟩
  ·exact .inl (by rw [cc];exact lt k2)
  ·rw [LW] at k4;obtain ⟨f,mf,k5⟩:=k4;simp only [JY,decide_eq_true_eq] at k5;refine .inr ⟨by rw [cc,k2];rfl,by rw [dd];exact lt k3,_,IP.mpr ⟨f,mf,rfl⟩,by unfold Av;rw [k5.1],by rw [cc];exact lt k5.2⟩
 ·obtain ⟨e,me,rfl⟩:=IP.mp WY;have:=h5 e me;rw [LW] at this;obtain ⟨g,mg,k⟩:=this;simp only [JY,PQ,decide_eq_true_eq] at k;obtain ⟨k1,k2⟩:=k;refine ⟨_,IP.mpr ⟨g,mg,rfl⟩,by unfold Av;rw [k1],?_⟩;rcases k2 with k2 | ⟨k2,k3,k4⟩
  ·exact .inl (by rw [cc];exact lt k2)
  ·rw [LW] at k4;obtain ⟨f,mf,k5⟩:=k4;simp only [JY,decide_eq_true_eq] at k5;refine .inr ⟨by rw [cc,k2];rfl,by rw [dd];exact lt k3,_,IP.mpr ⟨f,mf,rfl⟩,by unfold Av;rw [k5.1],by rw [cc];exact lt k5.2⟩
theorem LB.pb {b:cR} (h:LB 400 b):∀p∈b.o,Pb p:=λp m=>by
 obtain ⟨w,x,y,X,Y,h1,h2,h3,h4,h5,h6,h7,h8⟩:=h.ex;rw [h8] at m;obtain ⟨c,mc,rfl⟩:=IP.mp m;have:=Js h2 h3 h4 h5 w c mc;exact ⟨(wM (by omega) (by omega)).up (by decide)⟩
theorem LB.len {M:Int} {b:cR} (h:LB M b):3<=b.o.length/\b.o.length<=6:=by
 obtain ⟨w,x,y,X,Y,h1,h2,h3,h4,h5,h6,h7,h8⟩:=h.ex;rw [h8,fL,IS];exact xU x y w
theorem LB.gb {b:cR} (h:LB 400 b):GB b.o:=by
 refine ⟨λp m=>(h.pb p m).np.spt,?_,λz=>by have:=h.len;rw [z] at this;simp at this⟩;obtain ⟨w,x,y,X,Y,h1,h2,h3,h4,h5,h6,h7,h8⟩:=h.ex;rw [h8,Xn];exact BC (Yv h2 h3 h4 h5 h1)
theorem LB.ok {b:cR} (h:LB 400 b):Co b:=by
 refine ⟨by have:=h.len;omega,by have:=h.len;omega,h.pb,λl m=>?_⟩;rw [mR] at m;obtain ⟨x,mx,rfl⟩:=IP.mp m;obtain ⟨m1,m2⟩:=iM mx;exact m8 (h.gb.sp _ m1) (h.gb.sp _ m2) (h.gb.cx.ne _ (IP.mpr ⟨x,mx,rfl⟩))
theorem sT {p q:Pt} (hp:Pb p) (hq:Pb q) (ne:p≠q):tZ p q:=⟨hp,hq,ne,m8 hp.np.spt hq.np.spt (j8 hp.np hq.np ne)⟩
end
end My
namespace My
open PySem L2 PyProof.Rows
section
variable {P:QJ} {w:QM} {K:W.Frag} {mg:Str->Option Value} {base:Heap}
theorem kC {a b x:Pt} (ha:NP a) (hb:NP b) (hx:NP x) (ne:a≠b) (z:fE (vq a,vq b) (vq x)=0):vq x=fV (vq a) (vq b) (val (bX a b x)):=by
 have d0:=j8 ha hb ne;have c:crs (aV (vq b) (vq a)) (aV (vq x) (vq a))=0:=z;obtain ⟨p1,p2⟩:=par d0 c;have n0:aT (aV (vq b) (vq a)) (aV (vq b) (vq a))≠0:=by grind
 generalize hs:aT (aV (vq b) (vq a)) (aV (vq x) (vq a))/aT (aV (vq b) (vq a)) (aV (vq b) (vq a))=s;have e1:val x.1-val a.1=s*(val b.1-val a.1):=by
  have:(val x.1-val a.1)*aT (aV (vq b) (vq a)) (aV (vq b) (vq a))=aT (aV (vq b) (vq a)) (aV (vq x) (vq a))*(val b.1-val a.1):=p1;grind
 have e2:val x.2-val a.2=s*(val b.2-val a.2):=by
  have:(val x.2-val a.2)*aT (aV (vq b) (vq a)) (aV (vq b) (vq a))=aT (aV (vq b) (vq a)) (aV (vq x) (vq a))*(val b.2-val a.2):=p2;grind
 have ev:val (bX a b x)=s:=by
  unfold bX
  by_cases q:a.1=b.1
  ·rw [if_pos q];have q2:a.2≠b.2:=λw=>ne (Prod.ext q w);have y0:=qJ hb.y ha.y q2;have n2:=eD hb.y ha.y;rw [zZ (eD hx.y ha.y) n2 y0,g9 hx.y ha.y,g9 hb.y ha.y,e2];have:val b.2-val a.2≠0:=λw=>q2 (eJ ha.y hb.y (by grind));grind
  ·rw [if_neg q];have x0:=qJ hb.x ha.x q;have n2:=eD hb.x ha.x;rw [zZ (eD hx.x ha.x) n2 x0,g9 hx.x ha.x,g9 hb.x ha.x,e1];have:val b.1-val a.1≠0:=λw=>q (eJ ha.x hb.x (by grind));grind
 rw [ev];unfold vq fV;exact Prod.ext (by simp only;grind) (by simp only;grind)
theorem Qy {p q:Q2} (h:0<aT (aV q p) (aV q p)) {s t:Rat} (e:fV p q s=fV p q t):s=t:=by
 have e1:p.1+(q.1-p.1)*s=p.1+(q.1-p.1)*t:=congrArg Prod.fst e;have e2:p.2+(q.2-p.2)*s=p.2+(q.2-p.2)*t:=congrArg Prod.snd e;have k1:(q.1-p.1)*(s-t)=0:=by grind
 have k2:(q.2-p.2)*(s-t)=0:=by grind
 rcases Rat.mul_eq_zero.mp k1 with z1 | z1
 ·rcases Rat.mul_eq_zero.mp k2 with z2 | z2
  ·unfold aT aV at h;rw [z1,z2] at h;grind
  ·grind
 ·grind
end
end My
namespace My
open PySem L2 PyProof.Rows
section
variable {P:QJ} {w:QM} {K:W.Frag} {mg:Str->Option Value} {base:Heap}
theorem zN {c d p q:Q2} (h:0<aT (aV d c) (aV d c)) (z1:fE (c,d) p=0) (z2:fE (c,d) q=0):fE (p,q) c=0/\fE (p,q) d=0/\crs (aV q p) (aV d c)=0:=by
 have c0:crs (aV d c) (aV q p)=0:=by
  have:crs (aV d c) (aV q p)=fE (c,d) q-fE (c,d) p:=by unfold fE crs aP aV;grind
  rw [this,z1,z2];grind
 have k1:=jP (w:=aV c p) h c0;have k2:=jP (w:=aV d p) h c0;have n0:aT (aV d c) (aV d c)≠0:=by grind
 have e1:crs (aV c p) (aV d c)=fE (c,d) p:=by unfold fE crs aP aV;grind
 have e2:crs (aV d p) (aV d c)=fE (c,d) p:=by unfold fE crs aP aV;grind
 rw [e1,z1] at k1;rw [e2,z1] at k2;have f1:fE (p,q) c = - crs (aV c p) (aV q p):=by unfold fE crs aP aV;grind
 have f2:fE (p,q) d = - crs (aV d p) (aV q p):=by unfold fE crs aP aV;grind
 have y1:crs (aV c p) (aV q p)=0:=by
  have:crs (aV c p) (aV q p)*aT (aV d c) (aV d c)=0:=by grind
  exact (Rat.mul_eq_zero.mp this).resolve_right n0
 have y2:crs (aV d p) (aV q p)=0:=by
  have:crs (aV d p) (aV q p)*aT (aV d c) (aV d c)=0:=by grind
  exact (Rat.mul_eq_zero.mp this).resolve_right n0
 refine ⟨by rw [f1,y1];grind,by rw [f2,y2];grind,?_⟩;unfold crs at c0 ⊢;grind
theorem j7 {c d p q:Pt} (hc:Pb c) (hd:Pb d) (hp:Pb p) (hq:Pb q) (n1:c≠d) (n2:p≠q):cJ (eR c d)=cJ (eR p q)↔fE (vq c,vq d) (vq p)=0/\fE (vq c,vq d) (vq q)=0/\0<aT (aP (vq c,vq d)) (aV (vq q) (vq p)):=by
 have d1:=j8 hc.np hd.np n1;have d2:=j8 hp.np hq.np n2;have g1:=m8 hc.np.spt hd.np.spt d1;have g2:=m8 hp.np.spt hq.np.spt d2;constructor
 ·intro e;obtain ⟨k,k0,a1,a2⟩:=Ah hc.np.spt hd.np.spt hp.np.spt hq.np.spt g1;obtain ⟨k',k0',b1,b2⟩:=Ah hp.np.spt hq.np.spt hp.np.spt hq.np.spt g2;rw [e,b1] at a1;rw [e,b2] at a2;have y1:fE (vq p,vq q) (vq p)=0:=by unfold fE crs aP aV;grind
  have y2:fE (vq p,vq q) (vq q)=0:=by unfold fE crs aP aV;grind
  rw [y1] at a1;rw [y2] at a2;have z1:fE (vq c,vq d) (vq p)=0:=by
   have:k*fE (vq c,vq d) (vq p)=0:=by grind
   exact (Rat.mul_eq_zero.mp this).resolve_left (by grind)
  have z2:fE (vq c,vq d) (vq q)=0:=by
   have:k*fE (vq c,vq d) (vq q)=0:=by grind
   exact (Rat.mul_eq_zero.mp this).resolve_left (by grind)
  exact ⟨z1,z2,(yA hc.np.spt hd.np.spt hp.np.spt hq.np.spt g1 g2 d1 z1 z2).mp e⟩
 ·rintro ⟨z1,z2,z3⟩;exact (yA hc.np.spt hd.np.spt hp.np.spt hq.np.spt g1 g2 d1 z1 z2).mpr z3
end
end My
namespace My
open PySem L2 PyProof.Rows
end My
namespace My
open PySem L2 PyProof.Rows
section
variable {P:QJ} {w:QM} {K:W.Frag} {mg:Str->Option Value} {base:Heap}
def rP (os:List Ov) (t:Rat):Prop:=∃r,some r∈os/\r.2.2≠1/\val r.1<t/\t<val r.2.1
def Mr (ts:List (Fr×Fr)) (t:Rat):Prop:=∃x∈ts,val x.1<t/\t<val x.2
def mE (os:List Ov):List Rat:=os.flatMap λo=>match o with
 | none=>[]
 | some r=>[val r.1,val r.2.1]
def n9 (ts:List (Fr×Fr)):List Rat:=ts.flatMap λx=>[val x.1,val x.2]
theorem Mv {os:List Ov} {r:Fr×Fr×Nat} (m:some r∈os):val r.1∈mE os/\val r.2.1∈mE os:=
 ⟨KQ.mpr ⟨some r,m,by simp⟩,KQ.mpr ⟨some r,m,by simp⟩⟩
theorem Mg {ts:List (Fr×Fr)} {x:Fr×Fr} (m:x∈ts):val x.1∈n9 ts/\val x.2∈n9 ts:=
 ⟨KQ.mpr ⟨x,m,by simp⟩,KQ.mpr ⟨x,m,by simp⟩⟩
theorem Io {t:Rat}:∀(os:List Ov) (rows:List j3),(∀o∈os,yQ o)->jG rows->t∉mE os->(∀rs,dZ os rows=some rs->jG rs/\(Nn rs t↔Nn rows t/\¬rP os t))/\(dZ os rows=none->∃r,some r∈os/\r.2.2≠1/\r.1=(0,1)/\r.2.1=(1,1))
 | [],rows,_,h,_=>⟨λrs e=>by
   cases e;refine ⟨h,⟨λz=>⟨z,λ⟨r,m,_⟩=>absurd m (by simp)⟩,λz=>z.1⟩⟩,λe=>by cases e⟩
 | none::os,rows,ho,h,hF=>by
  have ih:=Io os rows (λo m=>ho o (by simp [m])) h (λz=>hF (by unfold mE at z ⊢;simp only [LP];exact JF _ z));have cv:rP (none::os) t↔rP os t:=by unfold rP;simp
  refine ⟨λrs e=>by rw [cv];exact ih.1 rs e,λe=>?_⟩;obtain ⟨r,m,k⟩:=ih.2 e;exact ⟨r,by simp [m],k⟩
 | some r::os,rows,ho,h,hF=>by
  have YH:t∉mE os:=λz=>hF (by unfold mE at z ⊢;simp only [LP];exact JF _ z);obtain ⟨e1,e2⟩:=Mv (os:=some r::os) (r:=r) (by simp);obtain ⟨f1,f2⟩:=ho (some r) (by simp) r rfl;have WZ:∀o∈os,yQ o:=λo m=>ho o (by simp [m]);unfold dZ
  by_cases c:r.2.2=1
  ·rw [if_pos c];have ih:=Io os rows WZ h YH;have cv:rP (some r::os) t↔rP os t:=by
    constructor
    ·rintro ⟨r',m,k,k'⟩;rcases IU.mp m with q | m
     ·cases q;exact absurd c k
     ·exact ⟨r',m,k,k'⟩
    ·rintro ⟨r',m,k⟩;exact ⟨r',by simp [m],k⟩
   refine ⟨λrs e=>by rw [cv];exact ih.1 rs e,λe=>?_⟩;obtain ⟨r',m,k⟩:=ih.2 e;exact ⟨r',by simp [m],k⟩
  ·rw [if_neg c]
   by_cases d:r.1=(0,1)/\r.2.1=(1,1)
   ·rw [if_pos d];exact ⟨λrs e=>(by cases e),λ_=>⟨r,by simp,c,d⟩⟩
   ·rw [if_neg d];have ih:=Io os (bU rows r.1 r.2.1) WZ (fT h f1 f2) YH;have nn:=Hm f1.d f2.d h (t:=t) (λz=>hF (z ▸ e1)) (λz=>hF (z ▸ e2));have cv:rP (some r::os) t↔(val r.1<t/\t<val r.2.1)\/rP os t:=by
     constructor
     ·rintro ⟨r',m,k,k'⟩;rcases IU.mp m with q | m
      ·cases q;exact .inl k'
      ·exact .inr ⟨r',m,k,k'⟩
     ·rintro (k | ⟨r',m,k⟩)
      ·exact ⟨r,by simp,c,k⟩
      ·exact ⟨r',by simp [m],k⟩
    refine ⟨λrs e=>?_,λe=>?_⟩
    ·obtain ⟨a,b⟩:=ih.1 rs e;refine ⟨a,?_⟩;rw [b,nn,cv];constructor
     ·rintro ⟨⟨x,y⟩,z⟩;exact ⟨x,λw=>w.elim y z⟩
     ·rintro ⟨x,y⟩;exact ⟨⟨x,λw=>y (.inl w)⟩,λw=>y (.inr w)⟩
    ·obtain ⟨r',m,k⟩:=ih.2 e;exact ⟨r',by simp [m],k⟩
theorem C2 {t:Rat}:∀(ts:List (Fr×Fr)) (rows:List j3),(∀x∈ts,F2 x.1/\F2 x.2)->jG rows->t∉n9 ts->(Nn (lM ts rows) t↔Nn rows t/\¬Mr ts t)
 | [],rows,_,_,_=>⟨λz=>⟨z,λ⟨x,m,_⟩=>absurd m (by simp)⟩,λz=>z.1⟩
 | x::ts,rows,ht,h,hF=>by
  obtain ⟨f1,f2⟩:=ht x (by simp);obtain ⟨e1,e2⟩:=Mg (ts:=x::ts) (x:=x) (by simp);have nn:=Hm f1.d f2.d h (t:=t) (λz=>hF (z ▸ e1)) (λz=>hF (z ▸ e2));have ih:=C2 ts (bU rows x.1 x.2) (λy m=>ht y (by simp [m])) (fT h f1 f2) (λz=>hF (by unfold n9 at z ⊢;simp only [LP];exact JF _ z));unfold lM;rw [ih,nn];constructor
  ·rintro ⟨⟨a,b⟩,c⟩;refine ⟨a,λ⟨y,m,k⟩=>?_⟩;rcases IU.mp m with rfl | m
   ·exact b k
   ·exact c ⟨y,m,k⟩
  ·rintro ⟨a,b⟩;exact ⟨⟨a,λk=>b ⟨x,by simp,k⟩⟩,λ⟨y,m,k⟩=>b ⟨y,by simp [m],k⟩⟩
theorem oC {shs:List Sh} {p q:Pt} {tw:List Pr} (hs:∀s∈shs,mW s) (en:tZ p q) (VZ:∀x∈tw,Pb x.1/\Pb x.2) {t:Rat} (h1:t∉mE (shs.map λs=>aU s (dI p q))) (h2:t∉n9 (pP p q tw)) :
  inA (dE shs p q tw) t↔(0<t/\t<1)/\¬rP (shs.map λs=>aU s (dI p q)) t/\¬Mr (pP p q tw) t:=by
 obtain ⟨g1,g2,ly⟩:=Hu en;have r0:jG lC:=λr m=>by
  have e:r=((0,1),(1,1),false):=by simpa [lC] using m
  subst e;exact ⟨Ml,Mp⟩
 have n0:Nn lC t↔0<t/\t<1:=by
  unfold Nn lC;constructor
  ·rintro ⟨r,m,_,a,b⟩;rw [JB] at m;subst m;simp only at a b;rw [iD] at a;rw [jQ] at b;exact ⟨a,b⟩
  ·rintro ⟨a,b⟩;exact ⟨_,JB.mpr rfl,rfl,by simp only;rw [iD];exact a,by simp only;rw [jQ];exact b⟩
 have vw:∀o∈shs.map (λs=>aU s (dI p q)),yQ o:=λo m=>by
  obtain ⟨s,ms,rfl⟩:=IP.mp m;exact Hz (hs s ms).b g1 g2
 have vx:∀t∈pP p q tw,F2 t.1/\F2 t.2:=λt m=>by
  obtain ⟨y,my,rfl⟩:=IP.mp m;exact ⟨(jK en.hp en.hq (VZ y my).1 en.ne).2.2,(jK en.hp en.hq (VZ y my).2 en.ne).2.2⟩
 obtain ⟨ga,gb⟩:=Io _ lC vw r0 h1;unfold dE oB;cases g:dZ (shs.map λs=>aU s (dI p q)) lC with
 | none=>
  obtain ⟨r,m,k,k1,k2⟩:=gb g;constructor
  ·rintro ⟨a,m,_⟩;simp at m
  ·rintro ⟨⟨a,b⟩,c,_⟩;exact absurd ⟨r,m,k,by rw [k1,iD];exact a,by rw [k2,jQ];exact b⟩ c
 | some rs=>
  obtain ⟨ro,nn⟩:=ga rs g;have tn:=C2 (pP p q tw) rs vx ro h2;have ie:inA (eY (lM (pP p q tw) rs)) t↔Nn (lM (pP p q tw) rs) t:=by
   unfold inA eY Nn;constructor
   ·rintro ⟨a,m,k⟩;obtain ⟨r,mr,rfl⟩:=IP.mp m;obtain ⟨m1,m2⟩:=JV.mp mr;exact ⟨r,m1,by simpa using m2,k⟩
   ·rintro ⟨r,m,f,k⟩;exact ⟨(r.1,r.2.1),IP.mpr ⟨r,JV.mpr ⟨m,by rw [f];rfl⟩,rfl⟩,k⟩
  show inA (eY (lM (pP p q tw) rs)) t↔_;rw [ie,tn,nn,n0];constructor
  ·rintro ⟨⟨a,b⟩,c⟩;exact ⟨a,b,c⟩
  ·rintro ⟨a,b,c⟩;exact ⟨⟨a,b⟩,c⟩
where
 mrgGo (x:Fr×Fr):List (Fr×Fr)->List (Fr×Fr)
  | []=>[x]
  | y::r=>if x.2=y.1 then mrgGo (x.1,y.2) r else x::mrgGo y r
end
end My
namespace My
open PySem L2 PyProof.Rows
end My
namespace My
open PySem L2 PyProof.Rows
section
variable {P:QJ} {w:QM} {K:W.Frag} {mg:Str->Option Value} {base:Heap}
def Di (es:List EI) (l:I3):List Pr:=(es.filter λe=>decide (e.l=l)).map λe=>(e.p,e.q)
theorem Hr {shs:List Sh}:∀(es pre:List EI) (M:AD),(∀l,dN M l=Di pre l)->mV shs es M=(es.zipIdx).flatMap λx=>cL x.1 (dE shs x.1.p x.1.q (Di (pre++es.take x.2) x.1.l))
 | [],pre,M,_=>rfl
 | e::es,pre,M,hM=>by
  unfold mV;have ih:=Hr (shs:=shs) es (pre++[e]) (jX M e.l (dN M e.l++[(e.p,e.q)])) (λl=>by
   rw [pE,hM,hM];unfold Di;rw [List.filter_append,KU]
   by_cases c:e.l=l
   ·rw [if_pos c,JZ (by simpa using c)];rw [c];rfl
   ·rw [if_neg c,KR (by simpa using c)];simp)
  rw [ih,List.zipIdx_cons,LP,hM]
  congr 1
  ·simp
  ·rw [show es.zipIdx (0+1)=es.zipIdx.map λx=>(x.1,x.2+1) by rw [PB];exact List.zipIdx_succ,PD]
   congr 1
   funext x
   simp [IZ]
theorem Fu {g:cR} {n i:Nat} {p q:Pt} (h:(zr g.o)[i]? = some (p,q)):(pN n g i).p=p/\(pN n g i).q=q/\(pN n g i).l=cJ (eR p q):=by
 have hi:i<g.o.length:=by rw [<-Dw];exact (IT.mp h).1
 obtain ⟨p',q',h1,h2,h3⟩:=vP hi;rw [h] at h3;cases h3;refine ⟨?_,?_,?_⟩
 ·show g.o.getD i DI=p;rw [JM,h1];rfl
 ·show g.o.getD ((i+1)%g.o.length) DI=q;rw [JM,h2];rfl
 ·show (aW g).ls.getD i (0,0,0)=_;rw [Jb,JM,JC,h];rfl
end
end My
namespace My
open PySem L2 PyProof.Rows
section
variable {P:QJ} {w:QM} {K:W.Frag} {mg:Str->Option Value} {base:Heap}
def cM (o d:Q2) (y:Rat):Q2:=(o.1+d.1*y,o.2+d.2*y)
def sl (d:Q2) (e:Eg):Rat:=crs (aP e) d
def ht (d p:Q2):Rat:=crs p d
theorem mY (e:Eg) (o d:Q2) (y:Rat):fE e (cM o d y)=fE e o+sl d e*y:=by unfold fE sl crs aP aV cM;grind
theorem AB (d:Q2) (e:Eg):sl d e=ht d e.2-ht d e.1:=by unfold sl ht crs aP aV;grind
theorem wB (o d:Q2) (y:Rat):ht d (cM o d y)=ht d o:=by unfold ht crs cM;grind
theorem Pd (d p q:Q2) (t:Rat):ht d (fV p q t)=ht d p+(ht d q-ht d p)*t:=by unfold ht crs fV;grind
structure Gn (A:List Eg) (o d:Q2):Prop where
 n:∀e∈A,0<aT (aP e) (aP e)
 v:∀e∈A,ht d e.1≠ht d o/\ht d e.2≠ht d o
 c:∀e∈A,∀g∈A,∀y,fE e (cM o d y)=0->fE g (cM o d y)=0->crs (aP e) (aP g)=0
theorem Gn.s {A:List Eg} {o d:Q2} (h:Gn A o d) {e:Eg} (me:e∈A) {y:Rat} (z:fE e (cM o d y)=0):sl d e≠0:=λs=>by
 have n:=h.n e me;rw [mY,s] at z;have z0:crs (aP e) (aV o e.1)=0:=(show fE e o=0 by grind);have k:=jP (w:=d) n z0;have s':crs d (aP e)=0:=by unfold sl crs at s;unfold crs;grind
 rw [s'] at k;have:crs d (aV o e.1)=0:=by
  have k':crs d (aV o e.1)*aT (aP e) (aP e)=0:=by rw [k];grind
  rcases Rat.mul_eq_zero.mp k' with q | q
  ·exact q
  ·grind
 refine (h.v e me).1 ?_;unfold ht crs aV at *;grind
def uO (b:Bool) (s:Rat):Prop:=if b=true then 0<s else s<0
theorem Hd {b:Bool} {u v d:Q2} (hu:0<aT u u) (c:crs u v=0) (k:0<aT u v) (h:uO b (crs u d)):uO b (crs v d):=by
 have e:=jP (w:=d) hu c;have e':crs v d*aT u u=aT u v*crs u d:=by unfold crs at *;grind
 cases b with
 | true=>
  have h:0<crs u d:=h;exact show 0<crs v d from bH hu (by rw [e'];exact Rat.mul_pos k h)
 | false=>
  have h:crs u d<0:=h;have:=Rat.mul_pos k (show 0 < -crs u d by grind);have:0 < -crs v d:=bH hu (by grind);exact show crs v d<0 by grind
theorem xR {b:Bool} {s:Rat} (h:uO b s):¬uO (!b) s:=by
 cases b with
 | true=>have h:0<s:=h;exact λz=>by have z:s<0:=z;grind
 | false=>have h:s<0:=h;exact λz=>by have z:0<s:=z;grind
theorem Sm {s : Rat} (h : s ≠ 0) (b : Bool) : uO b s \/ uO (!b) s := by
  cases b with
  | true => by_cases c : 0 < s
            . exact .inl c
            . exact .inr (show s < 0 by grind)
  | false => by_cases c : 0 < s
             . exact .inr c
             . exact .inl (show s < 0 by grind)
theorem jT {s:Rat} {b:Bool} (h:uO b s):s≠0:=λz=>by
 rw [z] at h;cases b with
 | true=>have h:(0:Rat)<0:=h;grind
 | false=>have h:(0:Rat)<0:=h;grind
theorem Gn.zz {A:List Eg} {o d:Q2} (h:Gn A o d) {e g:Eg} (me:e∈A) (mg:g∈A) {y:Rat} (ze:fE e (cM o d y)=0) (zg:fE g (cM o d y)=0):fE e g.1=0/\fE e g.2=0:=by
 have c:=h.c e me g mg y ze zg;have n:=h.n g mg;have c':crs (aP g) (aP e)=0:=by unfold crs at *;grind
 have key:∀p,crs (aP g) (aV p (cM o d y))=0->fE e p=0:=λp k=>by
  have q:=jP (w:=aP e) n k;have:fE e p-fE e (cM o d y)=crs (aP e) (aV p (cM o d y)):=by unfold fE crs aV;grind
  rw [ze] at this;rw [c] at q;have q':crs (aP e) (aV p (cM o d y))*aT (aP g) (aP g)=0:=by rw [q];grind
  rcases Rat.mul_eq_zero.mp q' with w | w<;>grind
 refine ⟨key _ ?_,key _ ?_⟩
 ·have:crs (aP g) (aV g.1 (cM o d y)) = -fE g (cM o d y):=by unfold fE crs aV;grind
  rw [this,zg];grind
 ·have:crs (aP g) (aV g.2 (cM o d y)) = -fE g (cM o d y):=by unfold fE crs aP aV;grind
  rw [this,zg];grind
def tE (o d:Q2) (e:Eg):Rat:=(ht d o-ht d e.1)/sl d e
theorem rV {o d:Q2} {e:Eg} {h:Rat} (s:sl d e≠0) (z:fE e (cM o d h)=0):cM o d h=fV e.1 e.2 (tE o d e):=by
 have n:0<aT (aP e) (aP e):=by
  have a:=F0 (aP e).1;have b:=F0 (aP e).2;unfold aT
  by_cases c:(aP e).1=0
  ·by_cases c2:(aP e).2=0
   ·exfalso;apply s;unfold sl crs;rw [c,c2];grind
   ·have:=nV c2;grind
  ·have:=nV c;grind
 obtain ⟨p1,p2⟩:=par n (show crs (aP e) (aV (cM o d h) e.1)=0 from z);have n0:aT (aP e) (aP e)≠0:=by grind
 have hs:ht d o-ht d e.1=crs (aV (cM o d h) e.1) d:=by rw [<-wB o d h];unfold ht crs aV;grind
 have hk:crs (aV (cM o d h) e.1) d*aT (aP e) (aP e)=aT (aP e) (aV (cM o d h) e.1)*sl d e:=by
  unfold sl crs;grind
 have ht':tE o d e*aT (aP e) (aP e)=aT (aP e) (aV (cM o d h) e.1):=by
  unfold tE;rw [hs,Rat.div_def];grind
 generalize tE o d e=t at *;rw [<-ht'] at p1 p2;have q1:(aV (cM o d h) e.1).1=t*(aP e).1:=by grind
 have q2:(aV (cM o d h) e.1).2=t*(aP e).2:=by grind
 unfold aV aP aV at q1 q2;unfold fV;exact Prod.ext (by simp only at *;grind) (by simp only at *;grind)
theorem E7 {f s h y:Rat} (hy:h<y) (nz:∀z,h<z->z<=y->f+s*z≠0):0<f+s*y↔0<f+s*h\/(f+s*h=0/\0<s):=by
 have root:s≠0->f+s*(-f/s)=0:=λq=>by rw [Rat.div_def];grind
 have mono:∀z w:Rat,0<s->z<w->s*z<s*w:=λz w p q=>by have:=Rat.mul_pos p (show 0<w-z by grind);grind
 have fu:∀z w:Rat,s<0->z<w->s*w<s*z:=λz w p q=>by have:=Rat.mul_pos (show 0 < -s by grind) (show 0<w-z by grind);grind
 by_cases s0:s=0
 ·subst s0;simp only [Rat.zero_mul] at *;constructor
  ·intro q;left;grind
  ·rintro (q | ⟨_,q⟩)<;>grind
 ·by_cases sp:0<s
  ·constructor
   ·intro q
    by_cases a:0<f+s*h
    ·exact .inl a
    ·by_cases b:f+s*h=0
     ·exact .inr ⟨b,sp⟩
     ·exfalso;have r:=root s0;have r1:h < -f/s:=Rat.not_le.mp λw=>by
       by_cases w':-f/s=h
       ·rw [w'] at r;grind
       ·have:=mono _ _ sp (show -f/s<h by grind);grind
      have r2:-f/s<=y:=Rat.not_lt.mp λw=>by have:=mono _ _ sp w;grind
      exact nz _ r1 r2 r
   ·rintro (q | ⟨q,_⟩)
    ·have:=mono _ _ sp hy;grind
    ·have:=mono _ _ sp hy;grind
  ·have sn:s<0:=by grind
   constructor
   ·intro q;have:=fu _ _ sn hy
    left;grind
   ·rintro (q | ⟨_,q⟩)
    ·refine Rat.not_le.mp λw=>?_;have r:=root s0;have r1:h < -f/s:=Rat.not_le.mp λw'=>by
      by_cases w'':-f/s=h
      ·rw [w''] at r;grind
      ·have:=fu _ _ sn (show -f/s<h by grind);grind
     have r2:-f/s<=y:=Rat.not_lt.mp λw'=>by have:=fu _ _ sn w';grind
     exact nz _ r1 r2 r
    ·grind
theorem BQ {f s h y:Rat} (hy:y<h) (nz:∀z,y<=z->z<h->f+s*z≠0):0<f+s*y↔0<f+s*h\/(f+s*h=0/\s<0):=by
 have k:=E7 (f:=f) (s:=-s) (h:=-h) (y:=-y) (by grind) (λz a b=>by have:=nz (-z) (by grind) (by grind);grind);have e1:f + -s * -y=f+s*y:=by grind
 have e2:f + -s * -h=f+s*h:=by grind
 rw [e1,e2] at k;rw [k];have:(0 < -s)↔s<0:=⟨λq=>by grind,λq=>by grind⟩;rw [this]
def Wi (es:List Eg) (x:Q2):Prop:=∀e∈es,0<fE e x
def Ma (es:List Eg) (x d:Q2) (b:Bool):Prop:=wJ es x/\∃e∈es,fE e x=0/\uO b (sl d e)
theorem Gn.same {A es:List Eg} {o d:Q2} (h:Gn A o d) (sub:∀e∈es,e∈A) (cx:Cx es) {y:Rat} {b:Bool} {e g:Eg} (me:e∈es) (mg:g∈es) (ze:fE e (cM o d y)=0) (zg:fE g (cM o d y)=0) (s:uO b (sl d e)):uO b (sl d g):=by
 have c:=h.c e (sub e me) g (sub g mg) y ze zg;have n:=h.n e (sub e me);have q:=cx.orient (p:=cM o d y) (q:=((cM o d y).1+(aP e).1,(cM o d y).2+(aP e).2)) me mg ze (by rw [<-ze];unfold fE crs aV;grind) zg (by
  have:fE g ((cM o d y).1+(aP e).1,(cM o d y).2+(aP e).2)=fE g (cM o d y)-crs (aP e) (aP g):=by unfold fE crs aV;grind
  rw [this,zg,c];grind) (by
  have:aT (aV ((cM o d y).1+(aP e).1,(cM o d y).2+(aP e).2) (cM o d y)) (aV ((cM o d y).1+(aP e).1,(cM o d y).2+(aP e).2) (cM o d y))=aT (aP e) (aP e):=by unfold aT aV;grind
  rw [this];exact n) (by
  have:aT (aP e) (aV ((cM o d y).1+(aP e).1,(cM o d y).2+(aP e).2) (cM o d y))=aT (aP e) (aP e):=by unfold aT aV;grind
  rw [this];exact n)
 refine Hd n c ?_ s;have:aT (aP g) (aV ((cM o d y).1+(aP e).1,(cM o d y).2+(aP e).2) (cM o d y))=aT (aP e) (aP g):=by unfold aT aV;grind
 rw [this] at q;exact q
theorem Ho {A es:List Eg} {o d:Q2} (h:Gn A o d) (sub:∀e∈es,e∈A) (cx:Cx es) {y z:Rat} {b:Bool} (st:∀e∈es,0<fE e (cM o d z)↔0<fE e (cM o d y)\/(fE e (cM o d y)=0/\uO b (sl d e))):Wi es (cM o d z)↔Wi es (cM o d y)\/Ma es (cM o d y) d b:=by
 constructor
 ·intro w
  by_cases c:Wi es (cM o d y)
  ·exact .inl c
  ·right
   refine ⟨λe me=>?_,?_⟩
   ·rcases (st e me).mp (w e me) with q | ⟨q,_⟩<;>grind
   ·have:∃e∈es,¬0<fE e (cM o d y):=by
     refine Classical.byContradiction λk=>c λe me=>Classical.byContradiction λq=>k ⟨e,me,q⟩
    obtain ⟨e,me,ne⟩:=this;rcases (st e me).mp (w e me) with q | q
    ·exact absurd q ne
    ·exact ⟨e,me,q⟩
 ·rintro (w | ⟨w,e,me,z0,s⟩)
  ·exact λg mg=>(st g mg).mpr (.inl (w g mg))
  ·intro g mg;refine (st g mg).mpr ?_
   by_cases c:fE g (cM o d y)=0
   ·exact .inr ⟨c,h.same sub cx me mg z0 c s⟩
   ·have:=w g mg
    left;grind
structure Cv (o d:Q2) (y:Rat) (b:Bool) (e:Eg):Prop where
 s:uO b (sl d e)
 z:fE e (cM o d y)=0
 t0:0<tE o d e
 t1:tE o d e<1
theorem G0 {A es:List Eg} {o d:Q2} (h:Gn A o d) (sub:∀e∈es,e∈A) (cx:Cx es) {y:Rat} {b:Bool}:Ma es (cM o d y) d b↔∃e∈es,Cv o d y b e:=by
 constructor
 ·rintro ⟨ib,e,me,z,s⟩;obtain ⟨g,mg,on,r,r0,hr⟩:=cx.on me z ib;have sg:sl d g=r*sl d e:=by
   have a:=hr (cM o d (y+1));have a':=hr (cM o d y);rw [mY,mY] at a a';grind
  have s':uO b (sl d g):=by
   rw [sg];cases b with
   | true=>exact show 0<r*sl d e from Rat.mul_pos r0 s
   | false=>
    have s:sl d e<0:=s;have:=Rat.mul_pos r0 (show 0 < -sl d e by grind);exact show r*sl d e<0 by grind
  have p:=rV (jT s') on.z;have n:=h.n g (sub g mg);obtain ⟨v1,v2⟩:=h.v g (sub g mg);have a:=on.a;have c:=on.b;rw [p] at a c;have ea:aT (aP g) (aV (fV g.1 g.2 (tE o d g)) g.1)=tE o d g*aT (aP g) (aP g):=by unfold aT aP aV fV;grind
  have ec:aT (aP g) (aV g.2 (fV g.1 g.2 (tE o d g)))=(1-tE o d g)*aT (aP g) (aP g):=by unfold aT aP aV fV;grind
  rw [ea] at a;rw [ec] at c;have a':=dC n a;have c':=dC n c;have hp:ht d o=ht d g.1+(ht d g.2-ht d g.1)*tE o d g:=by rw [<-wB o d y,p,Pd]
  refine ⟨g,mg,s',on.z,?_,?_⟩
  ·refine Rat.not_le.mp λq=>v1 ?_;have:tE o d g=0:=by grind
   rw [this] at hp;grind
  ·refine Rat.not_le.mp λq=>v2 ?_;have:tE o d g=1:=by grind
   rw [this] at hp;grind
 ·rintro ⟨e,me,k⟩;refine ⟨λg mg=>?_,e,me,k.z,k.s⟩;have p:=rV (jT k.s) k.z;rw [p,m9];obtain ⟨f,mf,ef,_⟩:=cx.nx e me;have i1:=cx.inn g mg e me;have i2:=cx.inn g mg f mf;rw [ef] at i2;have t0:=k.t0;have t1:=k.t1;have m1:=Rat.mul_nonneg i1 (show 0<=1-tE o d e by grind);have m2:=Rat.mul_nonneg i2 (show 0<=tE o d e by grind);grind
end
end My
namespace My
open PySem L2 PyProof.Rows
section
variable {P:QJ} {w:QM} {K:W.Frag} {mg:Str->Option Value} {base:Heap}
structure Ny (bs:List cR):Prop where
 gb:∀b∈bs,GB b.o
 pb:∀b∈bs,∀p∈b.o,Pb p
 ok:∀b∈bs,Co b
def fN (bs:List cR):List Eg:=bs.flatMap λb=>fB b.o
theorem dU {bs:List cR} {b:cR} {e:Eg} (mb:b∈bs) (me:e∈fB b.o):e∈fN bs:=KQ.mpr ⟨b,mb,me⟩
theorem Ny.ed {bs:List cR} (h:Ny bs) {b:cR} (mb:b∈bs) {x:Pt×Pt} (mx:x∈zr b.o):Pb x.1/\Pb x.2/\x.1≠x.2:=by
 obtain ⟨m1,m2⟩:=iM mx;refine ⟨h.pb b mb _ m1,h.pb b mb _ m2,λe=>?_⟩;have:=(h.gb b mb).cx.ne _ (IP.mpr ⟨x,mx,rfl⟩);rw [e] at this;unfold aT aP aV at this;grind
theorem R1 {g:cR} (gb:GB g.o) {p q:Pt} (hp:NP p) (hq:NP q) (ne:p≠q) {m:Rat} (m0:0<m) (m1:m<1) (col:∀e∈fB g.o,fE e (fV (vq p) (vq q) m)=0->fE e (vq p)=0/\fE e (vq q)=0) (ib:wJ (fB g.o) (fV (vq p) (vq q) m)):∃r,aU (aW g) (dI p q)=some r/\EL (fB g.o) (vq p) (vq q) r/\val r.1<m/\m<val r.2.1:=by
 have fs:∀f∈(fB g.o).map (λe=>(fE e (fV (vq p) (vq q) m),fE e (vq q)-fE e (vq p))),0<f.1\/(f.1=0/\f.2=0):=λf mf=>by
  obtain ⟨e,me,rfl⟩:=IP.mp mf;have:=ib e me
  by_cases z:fE e (fV (vq p) (vq q) m)=0
  ·obtain ⟨w1,w2⟩:=col e me z;exact .inr ⟨z,by simp only;grind⟩
  ·exact .inl (by simp only;grind)
 obtain ⟨ε,e0,eB,he⟩:=GR _ (if m<=1-m then m else 1-m) (by split<;>grind) fs;have e1:ε<=m/\ε<=1-m:=by
  by_cases c:m<=1-m
  ·rw [if_pos c] at eB;exact ⟨eB,by grind⟩
  ·rw [if_neg c] at eB;exact ⟨by grind,eB⟩
 have i1:wJ (fB g.o) (fV (vq p) (vq q) (m-ε)):=λe me=>by
  have:=(he _ (IP.mpr ⟨e,me,rfl⟩)).2;simp only at this;rw [m9] at this ⊢;grind
 have i2:wJ (fB g.o) (fV (vq p) (vq q) (m+ε)):=λe me=>by
  have:=(he _ (IP.mpr ⟨e,me,rfl⟩)).1;simp only at this;rw [m9] at this ⊢;grind
 cases k:aU (aW g) (dI p q) with
 | none=>exact (pW gb hp.spt hq.spt k (t1:=m-ε) (t2:=m+ε) (by grind) (by grind) (by grind) i1 i2).elim
 | some r=>
  have o:=gV gb hp.spt hq.spt (j8 hp hq ne) k;have s1:=(o.s (m-ε) (by grind) (by grind)).mp i1;have s2:=(o.s (m+ε) (by grind) (by grind)).mp i2;exact ⟨r,rfl,o,by grind,by grind⟩
theorem Z6 {u v d:Q2} (hu:0<aT u u) (c:crs u v=0) {b:Bool} (s:uO b (crs u d)):0<aT u v↔uO b (crs v d):=by
 refine ⟨λk=>Hd hu c k s,λk=>?_⟩;have e:=jP (w:=d) hu c;have e':crs v d*aT u u=aT u v*crs u d:=by unfold crs at *;grind
 cases b with
 | true=>
  have s:0<crs u d:=s;have k:0<crs v d:=k;exact bH s (by rw [<-e'];exact Rat.mul_pos k hu)
 | false=>
  have s:crs u d<0:=s;have k:crs v d<0:=k;have:=Rat.mul_pos (show 0 < -crs v d by grind) hu;exact bH (show 0 < -crs u d by grind) (by grind)
structure Me (bs:List cR) (o d:Q2) (y:Rat) (b:Bool) (p q:Pt):Prop where
 H:Ny bs
 G:Gn (fN bs) o d
 me:(vq p,vq q)∈fN bs
 hp:Pb p
 hq:Pb q
 ne:p≠q
 s:uO b (sl d (vq p,vq q))
 z:fE (vq p,vq q) (cM o d y)=0
section
variable {bs:List cR} {o d:Q2} {y:Rat} {b:Bool} {p q:Pt}
theorem Me.at' (h:Me bs o d y b p q):cM o d y=fV (vq p) (vq q) (tE o d (vq p,vq q)):=rV (jT h.s) h.z
theorem Me.d' (h:Me bs o d y b p q):0<aT (aV (vq q) (vq p)) (aV (vq q) (vq p)):=j8 h.hp.np h.hq.np h.ne
theorem Me.col (h:Me bs o d y b p q) {e:Eg} (m:e∈fN bs) (z:fE e (cM o d y)=0):fE e (vq p)=0/\fE e (vq q)=0:=h.G.zz m h.me z h.z
theorem Me.sg (h:Me bs o d y b p q) {e:Eg} (m:e∈fN bs) (z:fE e (cM o d y)=0):0<aT (aP e) (aV (vq q) (vq p))↔uO b (sl d e):=by
 have c:=h.G.c _ h.me e m y h.z z;have:=Z6 (u:=aP (vq p,vq q)) (v:=aP e) (d:=d) h.d' c h.s;have e':aT (aP e) (aV (vq q) (vq p))=aT (aP (vq p,vq q)) (aP e):=by unfold aT aP;grind
 rw [e'];exact this
theorem Me.n0 (h:Me bs o d y b p q):tE o d (vq p,vq q)≠0/\tE o d (vq p,vq q)≠1:=by
 obtain ⟨v1,v2⟩:=h.G.v _ h.me;have hp:ht d o=ht d (vq p)+(ht d (vq q)-ht d (vq p))*tE o d (vq p,vq q):=by rw [<-wB o d y,h.at',Pd]
 exact ⟨λz=>v1 (by rw [z] at hp;simp only;grind),λz=>v2 (by rw [z] at hp;simp only;grind)⟩
theorem Me.covO (h:Me bs o d y b p q) (t0:0<tE o d (vq p,vq q)) (t1:tE o d (vq p,vq q)<1):rP ((bs.map aW).map λs=>aU s (dI p q)) (tE o d (vq p,vq q))↔(∃g∈bs,Wi (fB g.o) (cM o d y))\/∃g∈bs,Ma (fB g.o) (cM o d y) d (!b):=by
 have P:=h.at';constructor
 ·rintro ⟨r,m,r1,r2,r3⟩;rw [JG] at m;obtain ⟨g,mg,k⟩:=IP.mp m;have ov:=gV (h.H.gb g mg) h.hp.np.spt h.hq.np.spt h.d' (show aU (aW g) (dI p q)=some r from k);have ib:wJ (fB g.o) (cM o d y):=by rw [P];exact (ov.s _ (Rat.le_of_lt t0) (Rat.le_of_lt t1)).mpr ⟨Rat.le_of_lt r2,Rat.le_of_lt r3⟩
  rcases ov.h with ⟨_,no⟩ | ⟨⟨e,me,z1,z2⟩,r12,or⟩
  ·refine .inl ⟨g,mg,λe me=>?_⟩;have i:=ib e me;have nz:fE e (cM o d y)≠0:=λz=>no e me (h.col (dU mg me) z);grind
  ·have z:fE e (cM o d y)=0:=by rw [P,m9,z1,z2];grind
   refine .inr ⟨g,mg,ib,e,me,z,?_⟩;rcases Sm (h.G.s (dU mg me) z) b with q | q
   ·have:=(or e me z1 z2).mpr ((h.sg (dU mg me) z).mpr q);exact absurd this r1
   ·exact q
 ·have fin:∀g∈bs,wJ (fB g.o) (cM o d y)->∃r,aU (aW g) (dI p q)=some r/\EL (fB g.o) (vq p) (vq q) r/\val r.1<tE o d (vq p,vq q)/\tE o d (vq p,vq q)<val r.2.1:=λg mg ib=>
   R1 (h.H.gb g mg) h.hp.np h.hq.np h.ne t0 t1 (λe me z=>h.col (dU mg me) (by rw [P];exact z)) (by rw [<-P];exact ib)
  rintro (⟨g,mg,wi⟩ | ⟨g,mg,ib,e,me,z,s⟩)
  ·obtain ⟨r,k,ov,r2,r3⟩:=fin g mg λe me=>Rat.le_of_lt (wi e me);refine ⟨r,by rw [JG];exact IP.mpr ⟨g,mg,k⟩,λr1=>?_,r2,r3⟩;rcases ov.h with ⟨q,_⟩ | ⟨⟨e,me,z1,z2⟩,_,_⟩
   ·omega
   ·have:=wi e me;rw [P,m9,z1,z2] at this;grind
  ·obtain ⟨r,k,ov,r2,r3⟩:=fin g mg ib;refine ⟨r,by rw [JG];exact IP.mpr ⟨g,mg,k⟩,λr1=>?_,r2,r3⟩;obtain ⟨z1,z2⟩:=h.col (dU mg me) z;rcases ov.h with ⟨q,_⟩ | ⟨_,_,or⟩
   ·omega
   ·exact xR ((h.sg (dU mg me) z).mp ((or e me z1 z2).mp r1)) s
theorem Me.endO (h:Me bs o d y b p q):tE o d (vq p,vq q)∉mE ((bs.map aW).map λs=>aU s (dI p q)):=λw=>by
 have P:=h.at';obtain ⟨t0,t1⟩:=h.n0;obtain ⟨x,mx,w⟩:=KQ.mp w;rw [JG] at mx;obtain ⟨g,mg,k⟩:=IP.mp mx;cases x with
 | none=>simp at w
 | some r=>
  have ov:=gV (h.H.gb g mg) h.hp.np.spt h.hq.np.spt h.d' (show aU (aW g) (dI p q)=some r from k);simp only [IU,MB,or_false] at w;rcases w with w | w
  ·rcases ov.lo with e | ⟨_,e,me,z1,z2,z3⟩
   ·rw [e,iD] at w;exact t0 w
   ·rw [<-w,<-P] at z3;have:=h.col (dU mg me) z3;grind
  ·rcases ov.hi with e | ⟨_,e,me,z1,z2,z3⟩
   ·rw [e,jQ] at w;exact t1 w
   ·rw [<-w,<-P] at z3;have:=h.col (dU mg me) z3;grind
structure O2 (bs:List cR) (e:EI):Prop where
 me:(vq e.p,vq e.q)∈fN bs
 hp:Pb e.p
 hq:Pb e.q
 ne:e.p≠e.q
 l:e.l=cJ (eR e.p e.q)
theorem Me.tw (h:Me bs o d y b p q) {e:EI} (k:O2 bs e) (hl:e.l=cJ (eR p q)):∃s1 s2:Rat,s1<s2/\val (bX p q e.p)=s1/\val (bX p q e.q)=s2/\vq e.p=fV (vq p) (vq q) s1/\vq e.q=fV (vq p) (vq q) s2/\fE (vq e.p,vq e.q) (cM o d y)=0/\uO b (sl d (vq e.p,vq e.q))/\tE o d (vq p,vq q)=s1+(s2-s1)*tE o d (vq e.p,vq e.q):=by
 rw [k.l] at hl;obtain ⟨z1,z2,z3⟩:=(j7 k.hp k.hq h.hp h.hq k.ne h.ne).mp hl;obtain ⟨y1,y2,_⟩:=zN (j8 k.hp.np k.hq.np k.ne) z1 z2;have s1:=kC h.hp.np h.hq.np k.hp.np h.ne y1;have s2:=kC h.hp.np h.hq.np k.hq.np h.ne y2;have zz:fE (vq e.p,vq e.q) (cM o d y)=0:=by rw [h.at',m9,z1,z2];grind
 have sg:=(h.sg k.me zz).mp z3;have hd:=h.d';generalize val (bX p q e.p)=a at *;generalize val (bX p q e.q)=c at *;refine ⟨a,c,?_,rfl,rfl,s1,s2,zz,sg,?_⟩
 ·have ev:aT (aP (vq e.p,vq e.q)) (aV (vq q) (vq p))=(c-a)*aT (aV (vq q) (vq p)) (aV (vq q) (vq p)):=by
   unfold aP;simp only;rw [s1,s2];unfold aT aV fV;grind
  rw [ev] at z3;have:=bH hd z3;grind
 ·have P:=h.at';have P2:=rV (jT sg) zz;simp only at P2;rw [P,s1,s2] at P2;refine Qy hd (P2.trans ?_);rw [<-s1,<-s2];generalize tE o d (vq e.p,vq e.q)=u;rw [s1,s2];unfold fV;exact Prod.ext (by simp only;grind) (by simp only;grind)
theorem Me.covT (h:Me bs o d y b p q) {pre:List EI} (VF:∀e∈pre,O2 bs e):Mr (pP p q (Di pre (cJ (eR p q)))) (tE o d (vq p,vq q))↔∃e∈pre,Cv o d y b (vq e.p,vq e.q):=by
 constructor
 ·rintro ⟨x,mx,k1,k2⟩;obtain ⟨w,mw,rfl⟩:=IP.mp mx;obtain ⟨e,me,rfl⟩:=IP.mp mw;obtain ⟨me,hl⟩:=JV.mp me;obtain ⟨s1,s2,lt,v1,v2,_,_,zz,sg,ht⟩:=h.tw (VF e me) (by simpa using hl);simp only at k1 k2;rw [v1,ht] at k1;rw [v2,ht] at k2;have p0:0<s2-s1:=by grind
  refine ⟨e,me,sg,zz,?_,?_⟩
  ·exact bH p0 (by grind)
  ·have:0<1-tE o d (vq e.p,vq e.q):=bH p0 (by grind);grind
 ·rintro ⟨e,me,k⟩;have ke:=VF e me;obtain ⟨z1,z2⟩:=h.col ke.me k.z;have z3:=(h.sg ke.me k.z).mpr k.s;have hl:=(j7 ke.hp ke.hq h.hp h.hq ke.ne h.ne).mpr ⟨z1,z2,z3⟩;obtain ⟨s1,s2,lt,v1,v2,_,_,zz,sg,ht⟩:=h.tw ke (by rw [ke.l];exact hl);have p0:0<s2-s1:=by grind
  have m1:=Rat.mul_pos k.t0 p0;have m2:=Rat.mul_pos (show 0<1-tE o d (vq e.p,vq e.q) by have:=k.t1;grind) p0;exact ⟨_,IP.mpr ⟨(e.p,e.q),IP.mpr ⟨e,JV.mpr ⟨me,by rw [decide_eq_true_eq,ke.l];exact hl⟩,rfl⟩,rfl⟩,by simp only;rw [v1,ht];grind,by simp only;rw [v2,ht];grind⟩
theorem Me.endT (h:Me bs o d y b p q) {pre:List EI} (VF:∀e∈pre,O2 bs e):tE o d (vq p,vq q)∉n9 (pP p q (Di pre (cJ (eR p q)))):=λw=>by
 obtain ⟨x,mx,w⟩:=KQ.mp w;obtain ⟨u,mu,rfl⟩:=IP.mp mx;obtain ⟨e,me,rfl⟩:=IP.mp mu;obtain ⟨me,hl⟩:=JV.mp me;obtain ⟨s1,s2,lt,v1,v2,e1,e2,zz,sg,ht'⟩:=h.tw (VF e me) (by simpa using hl);obtain ⟨w1,w2⟩:=h.G.v _ (VF e me).me;simp only [IU,MB,or_false] at w;rcases w with w | w
 ·rw [v1] at w;refine w1 ?_;rw [<-wB o d y,h.at',w,<-e1]
 ·rw [v2] at w;refine w2 ?_;rw [<-wB o d y,h.at',w,<-e2]
theorem Me.inA (h:Me bs o d y b p q) {pre:List EI} (VF:∀e∈pre,O2 bs e):inA (dE (bs.map aW) p q (Di pre (cJ (eR p q)))) (tE o d (vq p,vq q))↔Cv o d y b (vq p,vq q)/\¬((∃g∈bs,Wi (fB g.o) (cM o d y))\/∃g∈bs,Ma (fB g.o) (cM o d y) d (!b))/\¬∃e∈pre,Cv o d y b (vq e.p,vq e.q):=by
 have WI:∀s∈bs.map aW,mW s:=λs m=>by
  obtain ⟨g,mg,rfl⟩:=IP.mp m;exact jF (h.H.ok g mg)
 have twok:∀x∈Di pre (cJ (eR p q)),Pb x.1/\Pb x.2:=λx m=>by
  obtain ⟨e,me,rfl⟩:=IP.mp m;have:=VF e (JV.mp me).1;exact ⟨this.hp,this.hq⟩
 rw [oC WI (sT h.hp h.hq h.ne) twok h.endO (h.endT VF)]
 by_cases c:0<tE o d (vq p,vq q)/\tE o d (vq p,vq q)<1
 ·rw [h.covO c.1 c.2,h.covT VF];constructor
  ·rintro ⟨_,w⟩;exact ⟨⟨h.s,h.z,c.1,c.2⟩,w⟩
  ·rintro ⟨_,w⟩;exact ⟨c,w⟩
 ·constructor
  ·rintro ⟨w,_⟩;exact absurd w c
  ·rintro ⟨w,_⟩;exact absurd ⟨w.t0,w.t1⟩ c
end
end
end My
namespace My
open PySem L2 PyProof.Rows
section
variable {P:QJ} {w:QM} {K:W.Frag} {mg:Str->Option Value} {base:Heap}
noncomputable def iI (p:Prop):Int:=@ite Int p (Classical.propDecidable p) 1 0
theorem FL {p:Prop} (h:p):iI p=1:=if_pos h
theorem Aj {p:Prop} (h:¬p):iI p=0:=if_neg h
theorem lO {p q:Prop} (h:p↔q):iI p=iI q:=by rw [propext h]
def Vh (c:Rat) (d:Q2) (r:pJ):Int:=if ht d (vq r.2.2.1)<c/\c<ht d (vq r.2.2.2) then 1 else if ht d (vq r.2.2.2)<c/\c<ht d (vq r.2.2.1) then -1 else 0
def Gi (A:List (Fr×Fr)) (t:Rat):Int:=(A.map λa=>if val a.1<t/\t<val a.2 then (1:Int) else 0).sum
theorem EV {A:List (Fr×Fr)} {t:Rat} (h:¬inA A t):Gi A t=0:=by
 induction A with
 | nil=>rfl
 | cons a A ih=>
  unfold Gi;rw [JK,LG,if_neg (λz=>h ⟨a,by simp,z⟩)];have:=ih λ⟨b,mb,k⟩=>h ⟨b,by simp [mb],k⟩;unfold Gi at this;rw [this];rfl
theorem FZ {A:List (Fr×Fr)} {t x:Rat} {b:Bool} (s:Aq x b A):Gi A t=iI (inA A t):=by
 induction A generalizing x b with
 | nil=>exact (Aj (p:=inA [] t) (by rintro ⟨a,m,_⟩;simp at m)).symm
 | cons a A ih=>
  by_cases c:val a.1<t/\t<val a.2
  ·rw [FL ⟨a,by simp,c⟩];have z:=EV (A:=A) (t:=t) λ⟨u,mu,k⟩=>by
    have:=(s.2.2.all u mu).1;grind
   unfold Gi at z ⊢;rw [JK,LG,if_pos c,z];rfl
  ·have z:=ih s.2.2;rw [lO (q:=inA A t) ⟨λ⟨u,mu,k⟩=>by
    rcases IU.mp mu with rfl | mu
    ·exact absurd k c
    ·exact ⟨u,mu,k⟩,λ⟨u,mu,k⟩=>⟨u,by simp [mu],k⟩⟩,<-z]
   unfold Gi;rw [JK,LG,if_neg c];omega
theorem sS {f:Fr} (h:F2 f):dY (low f.1 f.2)/\val (low f.1 f.2)=val f:=by
 have d:f.2≠0:=by have:=h.d;omega
 exact ⟨iV d,by rw [jM d];rfl⟩
theorem R9 {e:EI} {A:List (Fr×Fr)} {o d:Q2} (hp:NP e.p) (hq:NP e.q) (hA:∀a∈A,F2 a.1/\F2 a.2) {x:Rat} {b':Bool} (sp:Aq x b' A) :
  ((sl d (vq e.p,vq e.q)=0\/∃b,uO b (sl d (vq e.p,vq e.q)))/\(sl d (vq e.p,vq e.q)=0->((cL e A).map (Vh (ht d o) d)).sum=0)/\∀b,uO b (sl d (vq e.p,vq e.q))->((cL e A).map (Vh (ht d o) d)).sum=(if b=true then 1 else -1)*iI (inA A (tE o d (vq e.p,vq e.q)))):=by
 have lt:∀a∈A,val a.1<val a.2:=λa m=>(sp.all a m).2.2;have one:∀a∈A,vq (iO e.p e.q (low a.1.1 a.1.2))=fV (vq e.p) (vq e.q) (val a.1)/\vq (iO e.p e.q (low a.2.1 a.2.2))=fV (vq e.p) (vq e.q) (val a.2):=λa m=>by
  obtain ⟨n1,v1⟩:=sS (hA a m).1;obtain ⟨n2,v2⟩:=sS (hA a m).2;exact ⟨by rw [(Bf hp hq n1).2,v1],by rw [(Bf hp hq n2).2,v2]⟩
 have es:(cL e A).map (Vh (ht d o) d)=A.map λa=>Vh (ht d o) d (e.n,e.k,iO e.p e.q (low a.1.1 a.1.2),iO e.p e.q (low a.2.1 a.2.2)):=by
  unfold cL;rw [JG];rfl
 have hs:∀s,ht d (fV (vq e.p) (vq e.q) s)=ht d (vq e.p)+sl d (vq e.p,vq e.q)*s:=λs=>by rw [Pd,AB]
 have each:∀a∈A,Vh (ht d o) d (e.n,e.k,iO e.p e.q (low a.1.1 a.1.2),iO e.p e.q (low a.2.1 a.2.2))=if ht d (vq e.p)+sl d (vq e.p,vq e.q)*val a.1<ht d o/\ht d o<ht d (vq e.p)+sl d (vq e.p,vq e.q)*val a.2 then 1 else if ht d (vq e.p)+sl d (vq e.p,vq e.q)*val a.2<ht d o/\ht d o<ht d (vq e.p)+sl d (vq e.p,vq e.q)*val a.1 then -1 else 0:=λa m=>by
  obtain ⟨o1,o2⟩:=one a m;unfold Vh;simp only;rw [o1,o2,hs,hs]
 rw [es,JQ each];clear es each one hs;generalize hS:sl d (vq e.p,vq e.q)=S;have htE:S≠0->ht d o=ht d (vq e.p)+S*tE o d (vq e.p,vq e.q):=λn=>by
  unfold tE;rw [hS,Rat.div_def];simp only;grind
 generalize tE o d (vq e.p,vq e.q)=t at *;generalize ht d (vq e.p)=h0 at *;generalize ht d o=c at *;refine ⟨?_,λz=>?_,λb hb=>?_⟩
 ·by_cases z:S=0
  ·exact .inl z
  ·exact .inr (by rcases Sm z true with q | q<;>exact ⟨_,q⟩)
 ·subst z;have:∀a∈A,(if h0+0*val a.1<c/\c<h0+0*val a.2 then (1:Int) else if h0+0*val a.2<c/\c<h0+0*val a.1 then -1 else 0)=0:=λa _=>by
   rw [if_neg (by grind),if_neg (by grind)]
  rw [JQ this];clear this lt sp hA
  induction A with
  | nil=>rfl
  | cons a A ih=>rw [JK,LG,ih];rfl
 ·rw [<-FZ sp,htE (jT hb)];unfold Gi;have key:∀a∈A,(if h0+S*val a.1<h0+S*t/\h0+S*t<h0+S*val a.2 then (1:Int) else if h0+S*val a.2<h0+S*t/\h0+S*t<h0+S*val a.1 then -1 else 0)=(if b=true then 1 else -1)*(if val a.1<t/\t<val a.2 then (1:Int) else 0):=λa m=>by
   have l:=lt a m;have mul:∀u v:Rat,(0<S->(S*u<S*v↔u<v))/\(S<0->(S*u<S*v↔v<u)):=λu v=>by
    refine ⟨λp=>?_,λp=>?_⟩
    ·have:=sM (a:=v-u) p;grind
    ·have:=sM (a:=u-v) (show 0 < -S by grind);grind
   cases b with
   | true=>
    have p:0<S:=hb;have m1:=(mul (val a.1) t).1 p;have m2:=(mul t (val a.2)).1 p;have m3:=(mul (val a.2) t).1 p;have m4:=(mul t (val a.1)).1 p
    by_cases q:val a.1<t/\t<val a.2
    ·rw [if_pos q,if_pos (by grind)];rfl
    ·rw [if_neg q,if_neg (by grind),if_neg (by grind)];rfl
   | false=>
    have p:S<0:=hb;have m1:=(mul (val a.1) t).2 p;have m2:=(mul t (val a.2)).2 p;have m3:=(mul (val a.2) t).2 p;have m4:=(mul t (val a.1)).2 p
    by_cases q:val a.1<t/\t<val a.2
    ·rw [if_pos q,if_neg (by grind),if_pos (by grind)];rfl
    ·rw [if_neg q,if_neg (by grind),if_neg (by grind)];rfl
  rw [JQ key];clear key lt sp hA
  induction A with
  | nil=>simp
  | cons a A ih=>rw [JK,LG,ih,JK,LG,Int.mul_add]
theorem vQ {α:Type} (P:α->Prop):∀(L pre:List α),(L.zipIdx.map λx=>iI (P x.1/\¬∃e∈pre++L.take x.2,P e)).sum=iI ((∃e∈L,P e)/\¬∃e∈pre,P e)
 | [],pre=>(Aj (p:=(∃e∈[],P e)/\¬∃e∈pre,P e) (by rintro ⟨⟨e,m,_⟩,_⟩;simp at m)).symm
 | a::L,pre=>by
  have ih:=vQ P L (pre++[a]);rw [List.zipIdx_cons,JK,LG,show L.zipIdx (0+1)=L.zipIdx.map λx=>(x.1,x.2+1) by rw [PB];exact List.zipIdx_succ,JG];have e1:((λx:α×Nat=>iI (P x.1/\¬∃e∈pre++(a::L).take x.2,P e))∘λx:α×Nat=>(x.1,x.2+1))=λx:α×Nat=>iI (P x.1/\¬∃e∈pre++[a]++L.take x.2,P e):=by
   funext x
   show iI (P x.1/\¬∃e∈pre++(a::L).take (x.2+1),P e)=_;rw [List.take_succ_cons,IZ];rfl
  rw [e1,ih];simp only [List.take_zero,JS]
  by_cases q:∃e∈pre,P e
  ·rw [Aj (λz=>z.2 q),Aj (λz=>z.2 (by obtain ⟨e,m,k⟩:=q;exact ⟨e,by simp [m],k⟩)),Aj (λz=>z.2 q)];rfl
  ·by_cases w:P a
   ·rw [FL ⟨w,q⟩,Aj (λz=>z.2 ⟨a,by simp,w⟩),FL ⟨⟨a,by simp,w⟩,q⟩];rfl
   ·rw [Aj (λz=>w z.1)];rw [lO (q:=(∃e∈a::L,P e)/\¬∃e∈pre,P e)]
    ·omega
    ·constructor
     ·rintro ⟨⟨e,m,k⟩,_⟩;exact ⟨⟨e,by simp [m],k⟩,q⟩
     ·rintro ⟨⟨e,m,k⟩,_⟩;refine ⟨?_,?_⟩
      ·rcases IU.mp m with rfl | m
       ·exact absurd k w
       ·exact ⟨e,m,k⟩
      ·rintro ⟨u,mu,ku⟩;rcases JJ.mp mu with mu | mu
       ·exact q ⟨u,mu,ku⟩
       ·rw [JB] at mu;subst mu;exact w ku
end
end My
namespace My
open PySem L2 PyProof.Rows
section
variable {P:QJ} {w:QM} {K:W.Frag} {mg:Str->Option Value} {base:Heap}
theorem Hi {α:Type} (f g:α->Int):∀L:List α,(L.map λx=>f x+g x).sum=(L.map f).sum+(L.map g).sum
 | []=>rfl
 | x::L=>by rw [JK,LG,Hi f g L,JK,LG,JK,LG];omega
theorem Kr {α:Type} (f g:α->Int):∀L:List α,(L.map λx=>f x-g x).sum=(L.map f).sum-(L.map g).sum
 | []=>rfl
 | x::L=>by rw [JK,LG,Kr f g L,JK,LG,JK,LG];omega
theorem tN {α:Type} {f:α->Int}:∀{L:List α},(∀x∈L,f x=0)->(L.map f).sum=0
 | [],_=>rfl
 | x::L,h=>by rw [JK,LG,h x (by simp),tN λy m=>h y (by simp [m])];rfl
theorem Ag {α β:Type} (f:β->Int) (g:α->List β):∀L:List α,((L.flatMap g).map f).sum=(L.map λx=>((g x).map f).sum).sum
 | []=>rfl
 | x::L=>by rw [LP,KU,List.sum_append,Ag f g L,JK,LG]
def yE (o d:Q2) (e:Eg):Rat:=-fE e o/sl d e
theorem G6 {o d:Q2} {e:Eg} (s:sl d e≠0):fE e (cM o d (yE o d e))=0:=by rw [mY];unfold yE;rw [Rat.div_def];grind
theorem Hf {o d:Q2} {e:Eg} {y:Rat} (s:sl d e≠0) (z:fE e (cM o d y)=0):y=yE o d e:=by rw [mY] at z;unfold yE;rw [Rat.div_def];grind
def yG (bs:List cR) (marks:Str):Prop:=∀b∈bs,∀k,k<b.o.length->Wd marks (Hn b.m k)=true
def k8 (e:EI):Eg:=(vq e.p,vq e.q)
theorem gN {bs:List cR} {marks:Str} (H:Ny bs):∀e∈cC bs marks,O2 bs e:=λe m=>by
 obtain ⟨b,hb,hk,hm,ee⟩:=oZ m;obtain ⟨p,q,h1,h2,h3⟩:=vP hk;obtain ⟨l1,l2,l3⟩:=Fu (n:=e.n) h3;rw [<-ee] at l1 l2 l3;have mb:=JA hb;have mx:=JA h3;obtain ⟨p1,p2,pn⟩:=H.ed mb mx;refine ⟨?_,by rw [l1];exact p1,by rw [l2];exact p2,by rw [l1,l2];exact pn,by rw [l1,l2];exact l3⟩;rw [l1,l2];exact dU mb (IP.mpr ⟨(p,q),mx,rfl⟩)
theorem Pw {bs:List cR} {marks:Str} (M:yG bs marks) {b:cR} (mb:b∈bs) {e:Eg} (me:e∈fB b.o):∃x∈cC bs marks,k8 x=e:=by
 obtain ⟨⟨p,q⟩,mx,rfl⟩:=IP.mp me;obtain ⟨i,hi⟩:=LO mx;obtain ⟨n,hn⟩:=LO mb;have hk:i<b.o.length:=by rw [<-Dw];exact (IT.mp hi).1
 obtain ⟨l1,l2,_⟩:=Fu (n:=n) hi;refine ⟨pN n b i,KQ.mpr ⟨(b,n),KH.mpr hn,IP.mpr ⟨i,JV.mpr ⟨LI.mpr hk,M b mb i hk⟩,rfl⟩⟩,?_⟩;unfold k8;rw [l1,l2]
def AZ (bs:List cR) (marks:Str) (x:EI×Nat):List pJ:=cL x.1 (dE (bs.map aW) x.1.p x.1.q (Di ((cC bs marks).take x.2) x.1.l))
theorem oH (bs:List cR) (marks:Str):dS bs marks=(cC bs marks).zipIdx.flatMap (AZ bs marks):=by
 unfold dS;rw [Hr (cC bs marks) [] [] (λl=>rfl)];rfl
noncomputable def cX (bs:List cR) (marks:Str) (o d:Q2) (x:EI×Nat):Int:=((AZ bs marks x).map (Vh (ht d o) d)).sum
section
variable {bs:List cR} {marks:Str} {o d:Q2}
theorem Z4 (H:Ny bs) (G:Gn (fN bs) o d) {x:EI×Nat} (mx:x∈(cC bs marks).zipIdx):(sl d (k8 x.1)=0\/∃b,uO b (sl d (k8 x.1)))/\(sl d (k8 x.1)=0->cX bs marks o d x=0)/\∀b,uO b (sl d (k8 x.1))->cX bs marks o d x=(if b=true then 1 else -1)*iI (Cv o d (yE o d (k8 x.1)) b (k8 x.1)/\¬((∃g∈bs,Wi (fB g.o) (cM o d (yE o d (k8 x.1))))\/∃g∈bs,Ma (fB g.o) (cM o d (yE o d (k8 x.1))) d (!b))/\¬∃e∈(cC bs marks).take x.2,Cv o d (yE o d (k8 x.1)) b (k8 e)):=by
 have he:=KH.mp mx;have k:=gN H x.1 (JA he);have VF:∀e∈(cC bs marks).take x.2,O2 bs e:=λe m=>gN H e (LH m);have WI:∀s∈bs.map aW,mW s:=λs m=>by
  obtain ⟨g,mg,rfl⟩:=IP.mp m;exact jF (H.ok g mg)
 have twok:∀w∈Di ((cC bs marks).take x.2) x.1.l,Pb w.1/\Pb w.2:=λw m=>by
  obtain ⟨e,me,rfl⟩:=IP.mp m;have:=VF e (JV.mp me).1;exact ⟨this.hp,this.hq⟩
 have en:=sT k.hp k.hq k.ne;obtain ⟨r0,r1,r2⟩:=R9 (e:=x.1) (o:=o) (d:=d) k.hp.np k.hq.np (oQ WI en twok) (lR WI en twok).2;refine ⟨r0,r1,λb hb=>?_⟩;rw [show cX bs marks o d x=_ from r2 b hb]
 congr 1
 have me:Me bs o d (yE o d (k8 x.1)) b x.1.p x.1.q:=⟨H,G,k.me,k.hp,k.hq,k.ne,hb,G6 (jT hb)⟩;have q:=me.inA VF;rw [<-k.l] at q;exact lO q
theorem EO (H:Ny bs) (G:Gn (fN bs) o d) (M:yG bs marks) (h:Rat):((cC bs marks).zipIdx.map λx=>if yE o d (k8 x.1)=h then cX bs marks o d x else 0).sum=iI ((∃g∈bs,Wi (fB g.o) (cM o d h))\/∃g∈bs,Ma (fB g.o) (cM o d h) d true)-iI ((∃g∈bs,Wi (fB g.o) (cM o d h))\/∃g∈bs,Ma (fB g.o) (cM o d h) d false):=by
 have sub:∀g∈bs,∀e∈fB g.o,e∈fN bs:=λg mg e me=>dU mg me;have up:∀b,(∃g∈bs,Ma (fB g.o) (cM o d h) d b)↔∃e∈cC bs marks,Cv o d h b (k8 e):=λb=>by
  constructor
  ·rintro ⟨g,mg,u⟩;obtain ⟨e,me,k⟩:=(G0 G (sub g mg) (H.gb g mg).cx).mp u;obtain ⟨x,mx,rfl⟩:=Pw M mg me;exact ⟨x,mx,k⟩
  ·rintro ⟨e,me,k⟩;obtain ⟨g,hg,hk,_,ee⟩:=oZ me;obtain ⟨p,q,_,_,h3⟩:=vP hk;obtain ⟨l1,l2,_⟩:=Fu (n:=e.n) h3;rw [<-ee] at l1 l2;have mg:=JA hg;refine ⟨g,mg,(G0 G (sub g mg) (H.gb g mg).cx).mpr ⟨k8 e,?_,k⟩⟩;unfold k8;rw [l1,l2];exact IP.mpr ⟨(p,q),JA h3,rfl⟩
 generalize hI:(∃g∈bs,Wi (fB g.o) (cM o d h))=I;generalize hT:(∃g∈bs,Ma (fB g.o) (cM o d h) d true)=T;generalize hF:(∃g∈bs,Ma (fB g.o) (cM o d h) d false)=F;have each:∀x∈(cC bs marks).zipIdx,(if yE o d (k8 x.1)=h then cX bs marks o d x else 0)=iI (Cv o d h true (k8 x.1)/\¬(I\/F)/\¬∃e∈(cC bs marks).take x.2,Cv o d h true (k8 e))-iI (Cv o d h false (k8 x.1)/\¬(I\/T)/\¬∃e∈(cC bs marks).take x.2,Cv o d h false (k8 e)):=λx mx=>by
  obtain ⟨r0,r1,r2⟩:=Z4 H G mx
  by_cases c:yE o d (k8 x.1)=h
  ·rw [if_pos c];rcases r0 with z | ⟨b,hb⟩
   ·rw [r1 z,Aj (λk=>jT k.1.s z),Aj (λk=>jT k.1.s z)];rfl
   ·rw [r2 b hb,c];cases b with
    | true=>
     rw [Aj (p:=Cv o d h false (k8 x.1)/\_) (λk=>xR hb k.1.s)];simp only [Bool.not_true];rw [hI,hF];simp
    | false=>
     rw [Aj (p:=Cv o d h true (k8 x.1)/\_) (λk=>xR hb k.1.s)];simp only [Bool.not_false];rw [hI,hT];simp
  ·rw [if_neg c,Aj (λk=>c (Hf (jT k.1.s) k.1.z).symm),Aj (λk=>c (Hf (jT k.1.s) k.1.z).symm)];rfl
 rw [JQ each,Kr];have half:∀(b:Bool) (N:Prop),((cC bs marks).zipIdx.map λx=>iI (Cv o d h b (k8 x.1)/\¬N/\¬∃e∈(cC bs marks).take x.2,Cv o d h b (k8 e))).sum=iI ((∃g∈bs,Ma (fB g.o) (cM o d h) d b)/\¬N):=λb N=>by
  rw [lO (and_congr_left' (up b))]
  by_cases n:N
  ·rw [Aj (λk=>k.2 n)];exact tN λx _=>Aj λk=>k.2.1 n
  ·have f:=vQ (λe=>Cv o d h b (k8 e)) (cC bs marks) [];rw [lO (q:=(∃e∈cC bs marks,Cv o d h b (k8 e))/\¬N) ⟨λk=>⟨k.1,n⟩,λk=>⟨k.1,by rintro ⟨e,m,_⟩;simp at m⟩⟩] at f;rw [<-f]
   congr 1
   refine JQ λx _=>lO ⟨λk=>⟨k.1,k.2.2⟩,λk=>⟨k.1,n,k.2⟩⟩
 rw [half true,half false,hT,hF]
 by_cases cI:I<;>by_cases cT:T<;>by_cases cF:F<;>simp [iI,cI,cT,cF]
theorem GQ {es:List Eg} (cx:Cx es) (n0:es≠[]) {x d:Q2} (d0:0<aT d d) (w:Wi es x):∃e∈es,sl d e<0:=by
 refine Classical.byContradiction λk=>?_;have k':∀e∈es,0<=sl d e:=λe me=>Rat.not_lt.mp λq=>k ⟨e,me,q⟩;obtain ⟨m,hm,mx⟩:=xM (λe:Eg=>aT d e.1) es n0;have K0:0<=((aT d m.1-aT d x)*(aT d m.1-aT d x)+1)/aT d d:=by
  have:=F0 (aT d m.1-aT d x);rw [Rat.div_def];exact Rat.mul_nonneg (by grind) (Rat.le_of_lt (Rat.inv_pos.mpr d0))
 have K1:((aT d m.1-aT d x)*(aT d m.1-aT d x)+1)/aT d d*aT d d=(aT d m.1-aT d x)*(aT d m.1-aT d x)+1:=by rw [Rat.div_def];grind
 generalize ((aT d m.1-aT d x)*(aT d m.1-aT d x)+1)/aT d d=K at *;obtain ⟨g,hg,le⟩:=cx.box n0 d (x:=cM x d K) λe me=>by
  rw [mY];have:=Rat.mul_nonneg (k' e me) K0;have:=w e me;grind
 have l2:=mx g hg;have e1:aT d (cM x d K)=aT d x+K*aT d d:=by unfold aT cM;grind
 rw [e1,K1] at le;have:=F0 (aT d m.1-aT d x-1/2);have l2:aT d g.1<=aT d m.1:=l2;grind
theorem DA:∀(L:List Rat) (h:Rat),∃y,h<y/\∀z∈L,z<=h\/y<z
 | [],h=>⟨h+1,by grind,λz m=>absurd m (by simp)⟩
 | a::L,h=>by
  obtain ⟨y,y0,hy⟩:=DA L h
  by_cases c:a<=h
  ·exact ⟨y,y0,λz m=>by
    rcases IU.mp m with rfl | m
    ·exact .inl c
    ·exact hy z m⟩
  ·refine ⟨if y<(h+a)/2 then y else (h+a)/2,by split<;>grind,λz m=>?_⟩;have e:(if y<(h+a)/2 then y else (h+a)/2)<=y/\(if y<(h+a)/2 then y else (h+a)/2)<a:=by split<;>grind
   rcases IU.mp m with rfl | m
   ·exact .inr e.2
   ·rcases hy z m with q | q
    ·exact .inl q
    ·exact .inr (by grind)
theorem Ti:∀L:List Rat,∃y,∀z∈L,y<z
 | []=>⟨0,λz m=>absurd m (by simp)⟩
 | a::L=>by
  obtain ⟨y,hy⟩:=Ti L;refine ⟨if y<a then y-1 else a-1,λz m=>?_⟩;have e:(if y<a then y-1 else a-1)<a/\(if y<a then y-1 else a-1)<y:=by split<;>grind
  rcases IU.mp m with rfl | m
  ·exact e.1
  ·have:=hy z m;grind
theorem Lu {L:List Rat} {a b h:Rat} (ab:a<b) (m:h∈L) (ha:a<h) (hb:h<b):(L.filter λz=>decide (b<z)).length<(L.filter λz=>decide (a<z)).length:=by
 induction L with
 | nil=>simp at m
 | cons z L ih=>
  have le:∀L:List Rat,(L.filter λz=>decide (b<z)).length<=(L.filter λz=>decide (a<z)).length:=λL=>by
   induction L with
   | nil=>simp
   | cons z L ih=>
    by_cases c:b<z
    ·rw [JZ (by simpa using c),JZ (by simp;grind)];simp;exact ih
    ·rw [KR (by simpa using c)]
     by_cases c2:a<z
     ·rw [JZ (by simpa using c2)];simp;omega
     ·rw [KR (by simpa using c2)];exact ih
  rcases IU.mp m with rfl | m
  ·rw [KR (by simp;grind),JZ (by simpa using ha)];have:=le L;simp;omega
  ·have ih:=ih m
   by_cases c:b<z
   ·rw [JZ (by simpa using c),JZ (by simp;grind)];simp;exact ih
   ·rw [KR (by simpa using c)]
    by_cases c2:a<z
    ·rw [JZ (by simpa using c2)];simp;omega
    ·rw [KR (by simpa using c2)];exact ih
theorem Wz (H:Ny bs) (G:Gn (fN bs) o d) (M:yG bs marks) (d0:0<aT d d):∀(n:Nat) (y0:Rat),(((fN bs).map (yE o d)).filter λz=>decide (y0<z)).length<=n->(∀e∈fN bs,fE e (cM o d y0)≠0)->
  ((cC bs marks).zipIdx.map λx=>if y0<yE o d (k8 x.1) then cX bs marks o d x else 0).sum = - iI (∃g∈bs,Wi (fB g.o) (cM o d y0)):=by
 have sub:∀g∈bs,∀e∈fB g.o,e∈fN bs:=λg mg e me=>dU mg me;have inL:∀x∈(cC bs marks).zipIdx,yE o d (k8 x.1)∈(fN bs).map (yE o d):=λx mx=>IP.mpr ⟨k8 x.1,(gN H x.1 (JA (KH.mp mx))).me,rfl⟩;have zL:∀e∈fN bs,∀z,fE e (cM o d z)=0->z∈(fN bs).map (yE o d):=λe me z k=>by
  rw [Hf (G.s me k) k];exact IP.mpr ⟨e,me,rfl⟩
 intro n
 induction n with
 | zero=>
  intro y0 hn gen;have none:∀z∈(fN bs).map (yE o d),¬y0<z:=λz m q=>by
   have:z∈((fN bs).map (yE o d)).filter λz=>decide (y0<z):=JV.mpr ⟨m,by simpa using q⟩;have:=PU this;omega
  rw [Aj]
  ·exact tN λx mx=>if_neg (none _ (inL x mx))
  ·rintro ⟨g,mg,w⟩;obtain ⟨e,me,s⟩:=GQ (H.gb g mg).cx (H.gb g mg).es d0 w;have p:=w e me;have z:=G6 (o:=o) (show sl d e≠0 by grind);refine none _ (IP.mpr ⟨e,sub g mg e me,rfl⟩) ?_;rw [mY] at p z;generalize yE o d e=y at *;have:0<(y-y0) * -sl d e:=by grind
   have:=bH (show 0 < -sl d e by grind) this;grind
 | succ n ih=>
  intro y0 hn gen
  by_cases c:∃z∈(fN bs).map (yE o d),y0<z
  ·-- the next place
   obtain ⟨h,mh,hh,mn⟩:∃h∈(fN bs).map (yE o d),y0<h/\∀z∈(fN bs).map (yE o d),y0<z->h<=z:=by
    obtain ⟨z,mz,hz⟩:=c;have ne:((fN bs).map (yE o d)).filter (λz=>decide (y0<z))≠[]:=λq=>by
     have:z∈((fN bs).map (yE o d)).filter λz=>decide (y0<z):=JV.mpr ⟨mz,by simpa using hz⟩;rw [q] at this;simp at this
    obtain ⟨h,mh,mx⟩:=xM (λz:Rat=>-z) _ ne;obtain ⟨m1,m2⟩:=JV.mp mh;exact ⟨h,m1,by simpa using m2,λw mw hw=>by have:=mx w (JV.mpr ⟨mw,by simpa using hw⟩);grind⟩
   obtain ⟨y1,we,g1⟩:=DA ((fN bs).map (yE o d)) h;have nh:∀e∈fN bs,∀z,h<z->z<=y1->fE e (cM o d z)≠0:=λe me z a b k=>by
    rcases g1 z (zL e me z k) with q | q<;>grind
   have wg:∀e∈fN bs,∀z,y0<=z->z<h->fE e (cM o d z)≠0:=λe me z a b k=>by
    by_cases q:y0=z
    ·exact gen e me (q ▸ k)
    ·have:=mn z (zL e me z k) (by grind);grind
   have i1:=ih y1 (by have:=Lu (show y0<y1 by grind) mh hh we;omega) (λe me=>nh e me y1 we (by grind));have spl:((cC bs marks).zipIdx.map λx=>if y0<yE o d (k8 x.1) then cX bs marks o d x else 0).sum=((cC bs marks).zipIdx.map λx=>if yE o d (k8 x.1)=h then cX bs marks o d x else 0).sum+((cC bs marks).zipIdx.map λx=>if y1<yE o d (k8 x.1) then cX bs marks o d x else 0).sum:=by
    rw [<-Hi]
    congr 1
    refine JQ λx mx=>?_;have ml:=inL x mx;generalize yE o d (k8 x.1)=z at ml
    by_cases q:z=h
    ·rw [if_pos (by grind),if_pos q,if_neg (by grind)];omega
    ·by_cases q2:y0<z
     ·have:=mn z ml q2;have:y1<z:=by rcases g1 z ml with w | w<;>grind
      rw [if_pos q2,if_neg q,if_pos this];omega
     ·rw [if_neg q2,if_neg q,if_neg (by grind)];rfl
   rw [spl,i1,EO H G M h];have u1:(∃g∈bs,Wi (fB g.o) (cM o d y1))↔(∃g∈bs,Wi (fB g.o) (cM o d h))\/∃g∈bs,Ma (fB g.o) (cM o d h) d true:=by
    have k:∀g∈bs,_:=λg mg=>Ho G (sub g mg) (H.gb g mg).cx (y:=h) (z:=y1) (b:=true) λe me=>by
     have nz:=λz a b=>nh e (sub g mg e me) z a b;simp only [mY] at nz ⊢;exact E7 we nz
    constructor
    ·rintro ⟨g,mg,w⟩;rcases (k g mg).mp w with q | q
     ·exact .inl ⟨g,mg,q⟩
     ·exact .inr ⟨g,mg,q⟩
    ·rintro (⟨g,mg,w⟩ | ⟨g,mg,w⟩)
     ·exact ⟨g,mg,(k g mg).mpr (.inl w)⟩
     ·exact ⟨g,mg,(k g mg).mpr (.inr w)⟩
   have u0:(∃g∈bs,Wi (fB g.o) (cM o d y0))↔(∃g∈bs,Wi (fB g.o) (cM o d h))\/∃g∈bs,Ma (fB g.o) (cM o d h) d false:=by
    have k:∀g∈bs,_:=λg mg=>Ho G (sub g mg) (H.gb g mg).cx (y:=h) (z:=y0) (b:=false) λe me=>by
     have nz:=λz a b=>wg e (sub g mg e me) z a b;simp only [mY] at nz ⊢;exact BQ hh nz
    constructor
    ·rintro ⟨g,mg,w⟩;rcases (k g mg).mp w with q | q
     ·exact .inl ⟨g,mg,q⟩
     ·exact .inr ⟨g,mg,q⟩
    ·rintro (⟨g,mg,w⟩ | ⟨g,mg,w⟩)
     ·exact ⟨g,mg,(k g mg).mpr (.inl w)⟩
     ·exact ⟨g,mg,(k g mg).mpr (.inr w)⟩
   rw [lO u1,lO u0];omega
  ·refine ih y0 ?_ gen;have:((fN bs).map (yE o d)).filter (λz=>decide (y0<z))=[]:=List.filter_eq_nil_iff.mpr λz m q=>c ⟨z,m,by simpa using q⟩;rw [this];simp
theorem T2 (H:Ny bs) (G:Gn (fN bs) o d) (M:yG bs marks) (d0:0<aT d d):((dS bs marks).map (Vh (ht d o) d)).sum=0:=by
 rw [oH,Ag];obtain ⟨y0,hy⟩:=Ti ((fN bs).map (yE o d));have gen:∀e∈fN bs,fE e (cM o d y0)≠0:=λe me k=>by
  have:=hy _ (IP.mpr ⟨e,me,rfl⟩);rw [<-Hf (G.s me k) k] at this;grind
 have j:=Wz H G M d0 _ y0 (IW _) gen;rw [Aj] at j
 ·have e:((cC bs marks).zipIdx.map λx=>((AZ bs marks x).map (Vh (ht d o) d)).sum)=(cC bs marks).zipIdx.map λx=>if y0<yE o d (k8 x.1) then cX bs marks o d x else 0:=JQ λx mx=>by
   rw [if_pos (hy _ (IP.mpr ⟨k8 x.1,(gN H x.1 (JA (KH.mp mx))).me,rfl⟩))];rfl
  rw [e,j];rfl
 ·rintro ⟨g,mg,w⟩;obtain ⟨e,me,s⟩:=GQ (H.gb g mg).cx (H.gb g mg).es (d:=(-d.1,-d.2)) (by unfold aT at *;grind) w;have s':0<sl d e:=by unfold sl crs at *;grind
  have p:=w e me;have z:=G6 (o:=o) (show sl d e≠0 by grind);have l:=hy _ (IP.mpr ⟨e,dU mg me,rfl⟩);rw [mY] at p z;generalize yE o d e=y at *;have:=Rat.mul_pos (show 0<y-y0 by grind) s';grind
end
end
end My
namespace My
open PySem L2 PyProof.Rows
section
variable {P:QJ} {w:QM} {K:W.Frag} {mg:Str->Option Value} {base:Heap}
theorem L8 {A:List Eg} (hn:∀e∈A,0<aT (aP e) (aP e)) (d w:Q2) (hw:ht d w=1):∃F:List Rat,∀c,c∉F->Gn A (c*w.1,c*w.2) d/\ht d (c*w.1,c*w.2)=c:=by
 refine ⟨A.map (λe=>ht d e.1)++A.map (λe=>ht d e.2)++A.flatMap (λe=>A.map λg=>(crs (aP e) e.1*crs (aP g) d-crs (aP g) g.1*crs (aP e) d)/crs (aP e) (aP g)),λc hc=>?_⟩;have XC:ht d (c*w.1,c*w.2)=c:=by
  have:ht d (c*w.1,c*w.2)=c*ht d w:=by unfold ht crs;grind
  rw [this,hw];grind
 refine ⟨⟨hn,λe me=>⟨λq=>hc ?_,λq=>hc ?_⟩,λe me g mg y z1 z2=>?_⟩,XC⟩
 ·rw [XC] at q;exact JX _ (JX _ (IP.mpr ⟨e,me,q⟩))
 ·rw [XC] at q;exact JX _ (JF _ (IP.mpr ⟨e,me,q⟩))
 ·refine Classical.byContradiction λk=>hc (JF _ (KQ.mpr ⟨e,me,IP.mpr ⟨g,mg,?_⟩⟩));have hp:=wB (c*w.1,c*w.2) d y;rw [XC] at hp;generalize cM (c*w.1,c*w.2) d y=P at *;have a1:crs (aP e) P=crs (aP e) e.1:=by unfold fE crs aV at z1;unfold crs;grind
  have a2:crs (aP g) P=crs (aP g) g.1:=by unfold fE crs aV at z2;unfold crs;grind
  have id1:crs P d*crs (aP e) (aP g)=crs (aP e) P*crs (aP g) d-crs (aP g) P*crs (aP e) d:=by unfold crs;grind
  rw [<-a1,<-a2,<-id1,<-hp];show crs P d*_/_=crs P d;rw [Rat.div_def];grind
def kW:List Rat->Rat
 | []=>0
 | x::xs=>x+kW xs
theorem wU {xs ys:List Rat} (h:xs.Perm ys):kW xs=kW ys:=by
 induction h with
 | nil=>rfl
 | cons x _ ih=>show x+_=x+_;rw [ih]
 | swap x y l=>show y+(x+_)=x+(y+_);grind
 | trans _ _ h1 h2=>rw [h1,h2]
def Wu (c:Rat) (L:List Rat):Nat:=(L.filter λz=>decide (z<c)).length
theorem oM (c z:Rat) (L:List Rat):Wu c (z::L)=(if z<c then 1 else 0)+Wu c L:=by
 unfold Wu
 by_cases q:z<c
 ·rw [JZ (by simpa using q),if_pos q,JE];omega
 ·rw [KR (by simpa using q),if_neg q];omega
theorem qM {x c1 c2:Rat} (h1:c1<x) (h2:x<c2):∀L:List Rat,(∀z∈L,z=x\/z<c1\/c2<z)->Wu c2 L=Wu c1 L+L.count x
 | [],_=>rfl
 | z::L,h=>by
  have ih:=qM h1 h2 L λw m=>h w (by simp [m]);rw [oM,oM,List.count_cons];rcases h z (by simp) with q | q | q
  ·subst q;rw [if_pos h2,if_neg (by grind),if_pos (by simp)];omega
  ·rw [if_pos (by grind),if_pos q,if_neg (by simp;grind)];omega
  ·rw [if_neg (by grind),if_neg (by grind),if_neg (by simp;grind)];omega
theorem Mx (L:List Rat) (h:Rat):∃y,y<h/\∀z∈L,h<=z\/z<y:=by
 obtain ⟨y,y0,hy⟩:=DA (L.map λz=>-z) (-h);refine ⟨-y,by grind,λz m=>?_⟩;rcases hy (-z) (IP.mpr ⟨z,m,rfl⟩) with q | q
 ·exact .inl (by grind)
 ·exact .inr (by grind)
theorem Du {P Q F:List Rat} (h:∀c,c∉F->Wu c P=Wu c Q):P.Perm Q:=by
 rw [List.perm_iff_count];intro x;obtain ⟨c2,g2,h2⟩:=DA (P++Q++F) x;obtain ⟨c1,g1,h1⟩:=Mx (P++Q++F) x;have sep:∀z∈P++Q++F,z=x\/z<c1\/c2<z:=λz m=>by
  rcases h2 z m with q | q
  ·rcases h1 z m with w | w
   ·exact .inl (by grind)
   ·exact .inr (.inl w)
  ·exact .inr (.inr q)
 have nF:∀c,(c=c1\/c=c2)->c∉F:=λc hc m=>by
  rcases sep c (JF _ m) with q | q | q<;>rcases hc with w | w<;>grind
 have a:=qM g1 g2 P λz m=>sep z (JX _ (JX _ m));have b:=qM g1 g2 Q λz m=>sep z (JX _ (JF _ m));have e1:=h c1 (nF c1 (.inl rfl));have e2:=h c2 (nF c2 (.inr rfl));omega
theorem D2 {α:Type} {f g:α->Rat} {c:Rat}:∀{R:List α},(∀r∈R,f r≠c/\g r≠c)->(R.map λr=>if f r<c/\c<g r then (1:Int) else if g r<c/\c<f r then -1 else 0).sum=(Wu c (R.map f):Int)-(Wu c (R.map g):Int)
 | [],_=>rfl
 | r::R,h=>by
  have ih:=D2 (R:=R) λx m=>h x (by simp [m]);obtain ⟨n1,n2⟩:=h r (by simp);rw [JK,LG,ih,JK,JK,oM,oM]
  by_cases a:f r<c
  ·by_cases b:g r<c
   ·rw [if_neg (by grind),if_neg (by grind),if_pos a,if_pos b];push_cast;omega
   ·rw [if_pos (by grind),if_pos a,if_neg b];push_cast;omega
  ·by_cases b:g r<c
   ·rw [if_neg (by grind),if_pos (by grind),if_neg a,if_pos b];push_cast;omega
   ·rw [if_neg (by grind),if_neg (by grind),if_neg a,if_neg b];push_cast;omega
theorem Jm {bs:List cR} {marks:Str} (H:Ny bs) (M:yG bs marks) {d:Q2} (d0:0<aT d d):((dS bs marks).map λr=>ht d (vq r.2.2.1)).Perm ((dS bs marks).map λr=>ht d (vq r.2.2.2)):=by
 have hn:∀e∈fN bs,0<aT (aP e) (aP e):=λe me=>by
  obtain ⟨b,mb,me⟩:=KQ.mp me;exact (H.gb b mb).cx.ne e me
 obtain ⟨F,hF⟩:=L8 hn d (d.2/aT d d,-d.1/aT d d) (by
  show d.2/aT d d*d.2 - -d.1/aT d d*d.1=1;have:aT d d=d.1*d.1+d.2*d.2:=rfl;rw [Rat.div_def,Rat.div_def];have n0:aT d d≠0:=by grind
  grind)
 refine Du (F:=F++(dS bs marks).map (λr=>ht d (vq r.2.2.1))++(dS bs marks).map λr=>ht d (vq r.2.2.2)) λc hc=>?_;obtain ⟨G,XC⟩:=hF c λm=>hc (JX _ (JX _ m));have z:=T2 (marks:=marks) H G M d0;rw [XC] at z;have:=D2 (f:=λr:pJ=>ht d (vq r.2.2.1)) (g:=λr:pJ=>ht d (vq r.2.2.2)) (c:=c) (R:=dS bs marks) λr m=>⟨λq=>hc (JX _ (JF _ (IP.mpr ⟨r,m,q⟩))),λq=>hc (JF _ (IP.mpr ⟨r,m,q⟩))⟩;have e:((dS bs marks).map (Vh c d)).sum=_:=this;omega
end
end My
namespace My
open PySem L2 PyProof.Rows
section
variable {P:QJ} {w:QM} {K:W.Frag} {mg:Str->Option Value} {base:Heap}
structure zJ (f:Pt->Pt) (T:Q2->Q2) (k:Rat):Prop where
 np:∀p,NP p->NP (f p)
 v:∀p,NP p->vq (f p)=T (vq p)
 k0:0<k
 af:∀p q t,T (fV p q t)=fV (T p) (T q) t
 fe:∀p q x,fE (T p,T q) (T x)=k*fE (p,q) x
 dt:∀p q r s,aT (aV (T q) (T p)) (aV (T s) (T r))=k*aT (aV q p) (aV s r)
def iK (f:Pt->Pt) (b:cR):cR:=⟨b.w,b.n,b.o.map f,b.m⟩
theorem Ul (f:Pt->Pt) (o:List Pt):zr (o.map f)=(zr o).map λx=>(f x.1,f x.2):=by
 unfold zr;rw [uG,List.zip_map];rfl
section
variable {f:Pt->Pt} {T:Q2->Q2} {k:Rat}
def uN (T:Q2->Q2) (e:Eg):Eg:=(T e.1,T e.2)
theorem zJ.es (S:zJ f T k) {o:List Pt} (h:∀p∈o,NP p):fB (o.map f)=(fB o).map (uN T):=by
 unfold fB;rw [Ul,JG,JG];refine JQ λx m=>?_;obtain ⟨m1,m2⟩:=iM m;show (vq (f x.1),vq (f x.2))=(T (vq x.1),T (vq x.2));rw [S.v _ (h _ m1),S.v _ (h _ m2)]
theorem zJ.fE (S:zJ f T k) (e:Eg) (x:Q2):My.fE (uN T e) (T x)=k*My.fE e x:=S.fe e.1 e.2 x
theorem zJ.crs (S:zJ f T k) (e g:Eg):My.crs (aP (uN T e)) (aP (uN T g))=k*My.crs (aP e) (aP g):=by
 have a:∀e g:Eg,My.crs (aP e) (aP g)=My.fE e g.2-My.fE e g.1:=λe g=>by unfold My.fE My.crs aP aV;grind
 rw [a,a];show My.fE (uN T e) (T g.2)-My.fE (uN T e) (T g.1)=_;rw [S.fE,S.fE];grind
theorem zJ.dtv (S:zJ f T k) (e g:Eg):aT (aP (uN T e)) (aP (uN T g))=k*aT (aP e) (aP g):=S.dt e.1 e.2 g.1 g.2
theorem zJ.cx (S:zJ f T k) {es:List Eg} (h:Cx es):Cx (es.map (uN T)):=by
 have k0:=S.k0;have pos:∀{a:Rat},0<a->0<k*a:=λh=>Rat.mul_pos k0 h;refine ⟨λe' WY g' wb=>?_,λe' WY=>?_,λe' WY=>?_,λe' WY=>?_,λe' WY=>?_⟩
 ·obtain ⟨e,me,rfl⟩:=IP.mp WY;obtain ⟨g,mg,rfl⟩:=IP.mp wb;show 0<=My.fE (uN T e) (T g.1);rw [S.fE];exact Rat.mul_nonneg (Rat.le_of_lt k0) (h.inn e me g mg)
 ·obtain ⟨e,me,rfl⟩:=IP.mp WY;obtain ⟨g,mg,q⟩:=h.thick e me;refine ⟨uN T g,IP.mpr ⟨g,mg,rfl⟩,?_⟩;show 0<My.fE (uN T e) (T g.1);rw [S.fE];exact pos q
 ·obtain ⟨e,me,rfl⟩:=IP.mp WY;rw [S.dtv];exact pos (h.ne e me)
 ·obtain ⟨e,me,rfl⟩:=IP.mp WY;obtain ⟨g,mg,eg,q⟩:=h.nx e me;refine ⟨uN T g,IP.mpr ⟨g,mg,rfl⟩,by show T g.1=T e.2;rw [eg],?_⟩;rcases q with q | ⟨q1,q2,u,mu,eu,q3⟩
  ·exact .inl (by rw [S.crs];exact pos q)
  ·exact .inr ⟨by rw [S.crs,q1];grind,by rw [S.dtv];exact pos q2,uN T u,IP.mpr ⟨u,mu,rfl⟩,by show T u.1=T g.2;rw [eu],by rw [S.crs];exact pos q3⟩
 ·obtain ⟨e,me,rfl⟩:=IP.mp WY;obtain ⟨g,mg,eg,q⟩:=h.pv e me;refine ⟨uN T g,IP.mpr ⟨g,mg,rfl⟩,by show T g.2=T e.1;rw [eg],?_⟩;rcases q with q | ⟨q1,q2,u,mu,eu,q3⟩
  ·exact .inl (by rw [S.crs];exact pos q)
  ·exact .inr ⟨by rw [S.crs,q1];grind,by rw [S.dtv];exact pos q2,uN T u,IP.mpr ⟨u,mu,rfl⟩,by show T u.2=T g.1;rw [eu],by rw [S.crs];exact pos q3⟩
theorem Y7 {b:cR} (gb:GB b.o) (pb:∀p∈b.o,Pb p) (l:b.o.length<=900):Co b:=by
 refine ⟨l,List.length_pos_iff.mpr gb.ne,pb,λl m=>?_⟩;rw [mR] at m;obtain ⟨x,mx,rfl⟩:=IP.mp m;obtain ⟨m1,m2⟩:=iM mx;exact m8 (gb.sp _ m1) (gb.sp _ m2) (gb.cx.ne _ (IP.mpr ⟨x,mx,rfl⟩))
structure Ck (bs:List cR) (f:Pt->Pt) (T:Q2->Q2) (k:Rat):Prop where
 S:zJ f T k
 H:Ny bs
 len:∀b∈bs,b.o.length<=900
 pb:∀b∈bs,∀p∈b.o,Pb (f p)
theorem Ck.H' {bs:List cR} (h:Ck bs f T k):Ny (bs.map (iK f)):=by
 have gb:∀b∈bs,GB (b.o.map f):=λb mb=>by
  have g:=h.H.gb b mb;refine ⟨λp m=>?_,?_,λz=>g.ne (by simpa using z)⟩
  ·obtain ⟨q,mq,rfl⟩:=IP.mp m;exact (h.pb b mb q mq).np.spt
  ·rw [h.S.es λp m=>(h.H.pb b mb p m).np];exact h.S.cx g.cx
 have pb:∀b∈bs,∀p∈(iK f b).o,Pb p:=λb mb p m=>by
  obtain ⟨q,mq,rfl⟩:=IP.mp m;exact h.pb b mb q mq
 refine ⟨λb' m=>?_,λb' m=>?_,λb' m=>?_⟩
 ·obtain ⟨b,mb,rfl⟩:=IP.mp m;exact gb b mb
 ·obtain ⟨b,mb,rfl⟩:=IP.mp m;exact pb b mb
 ·obtain ⟨b,mb,rfl⟩:=IP.mp m;exact Y7 (gb b mb) (pb b mb) (by show (b.o.map f).length<=900;rw [IS];exact h.len b mb)
theorem Ck.inb {bs:List cR} (h:Ck bs f T k) {b:cR} (mb:b∈bs) (x:Q2):wJ (fB (iK f b).o) (T x)↔wJ (fB b.o) x:=by
 have e:fB (iK f b).o=(fB b.o).map (uN T):=h.S.es λp m=>(h.H.pb b mb p m).np;rw [e];constructor
 ·intro q e me;have:=q _ (IP.mpr ⟨e,me,rfl⟩);rw [h.S.fE] at this;exact dC h.S.k0 (by grind)
 ·intro q e' WY;obtain ⟨e,me,rfl⟩:=IP.mp WY;rw [h.S.fE];exact Rat.mul_nonneg (Rat.le_of_lt h.S.k0) (q e me)
theorem Ck.ov {bs:List cR} (h:Ck bs f T k) {b:cR} (mb:b∈bs) {p q:Pt} (hp:NP p) (hq:NP q) (lr:NP (f p)) (XU:NP (f q)) (ne:p≠q) (t:Rat) :
  (∃r,aU (aW b) (dI p q)=some r/\r.2.2≠1/\val r.1<t/\t<val r.2.1)↔∃r,aU (aW (iK f b)) (dI (f p) (f q))=some r/\r.2.2≠1/\val r.1<t/\t<val r.2.1:=by
 have S:=h.S;have k0:=S.k0;have gb:=h.H.gb b mb;have wj:=h.H'.gb _ (IP.mpr ⟨b,mb,rfl⟩);have d0:=j8 hp hq ne;have ep:vq (f p)=T (vq p):=S.v p hp;have qo:vq (f q)=T (vq q):=S.v q hq;have d0':0<aT (aV (vq (f q)) (vq (f p))) (aV (vq (f q)) (vq (f p))):=by rw [ep,qo,S.dt];exact Rat.mul_pos k0 d0
 have ib:∀s,wJ (fB (iK f b).o) (fV (vq (f p)) (vq (f q)) s)↔wJ (fB b.o) (fV (vq p) (vq q) s):=λs=>by rw [ep,qo,<-S.af];exact h.inb mb _
 have e:fB (iK f b).o=(fB b.o).map (uN T):=S.es λp m=>(h.H.pb b mb p m).np;cases c1:aU (aW b) (dI p q) with
 | none=>
  cases c2:aU (aW (iK f b)) (dI (f p) (f q)) with
  | none=>exact ⟨λ⟨r,z,_⟩=>(by cases z),λ⟨r,z,_⟩=>(by cases z)⟩
  | some r'=>
   have o':=gV wj lr.spt XU.spt d0' c2;have l0:=o'.l0;have l1:=o'.h1;have lt:=o'.lt;exact (pW gb hp.spt hq.spt c1 l0 lt l1 ((ib _).mp ((o'.s _ l0 (by grind)).mpr ⟨by grind,by grind⟩)) ((ib _).mp ((o'.s _ (by grind) l1).mpr ⟨by grind,by grind⟩))).elim
 | some r=>
  have o:=gV gb hp.spt hq.spt d0 c1;have l0:=o.l0;have l1:=o.h1;have lt:=o.lt;have i1:=(ib _).mpr ((o.s _ l0 (by grind)).mpr ⟨by grind,by grind⟩);have i2:=(ib _).mpr ((o.s _ (by grind) l1).mpr ⟨by grind,by grind⟩);cases c2:aU (aW (iK f b)) (dI (f p) (f q)) with
  | none=>exact (pW wj lr.spt XU.spt c2 l0 lt l1 i1 i2).elim
  | some r'=>
   have o':=gV wj lr.spt XU.spt d0' c2;have l0':=o'.l0;have vy:=o'.h1;have lt':=o'.lt;have a1:=(o'.s _ l0 (by grind)).mp i1;have a2:=(o'.s _ (by grind) l1).mp i2;have b1:=(o.s _ l0' (by grind)).mp ((ib _).mp ((o'.s _ l0' (by grind)).mpr ⟨by grind,by grind⟩));have b2:=(o.s _ (by grind) vy).mp ((ib _).mp ((o'.s _ (by grind) vy).mpr ⟨by grind,by grind⟩));have v1:val r.1=val r'.1:=by grind
   have v2:val r.2.1=val r'.2.1:=by grind
   have zz:∀e∈fB b.o,(fE (uN T e) (vq (f p))=0/\fE (uN T e) (vq (f q))=0)↔(fE e (vq p)=0/\fE e (vq q)=0):=λe _=>by
    rw [ep,qo,S.fE,S.fE];have z:∀a:Rat,k*a=0↔a=0:=λa=>⟨λw=>(Rat.mul_eq_zero.mp w).resolve_left (by grind),λw=>by rw [w];grind⟩;rw [z,z]
   have hd:r.2.2=1↔r'.2.2=1:=by
    rcases o.h with ⟨w,no⟩ | ⟨⟨e0,m0,z1,z2⟩,w,or⟩
    ·rcases o'.h with ⟨w',_⟩ | ⟨⟨e',m',y1,y2⟩,_,_⟩
     ·rw [w,w']
     ·rw [e] at m';obtain ⟨u,mu,rfl⟩:=IP.mp m';exact absurd ((zz u mu).mp ⟨y1,y2⟩) (no u mu)
    ·have wk:=(zz e0 m0).mpr ⟨z1,z2⟩;have qp:uN T e0∈fB (iK f b).o:=by rw [e];exact IP.mpr ⟨e0,m0,rfl⟩
     rcases o'.h with ⟨_,no⟩ | ⟨_,_,or'⟩
     ·exact absurd wk (no _ qp)
     ·rw [or e0 m0 z1 z2,or' _ qp wk.1 wk.2,ep,qo];have:aT (aP (uN T e0)) (aV (T (vq q)) (T (vq p)))=k*aT (aP e0) (aV (vq q) (vq p)):=S.dt _ _ _ _;rw [this];exact ⟨λw=>Rat.mul_pos k0 w,λw=>bH k0 (by grind)⟩
   constructor
   ·rintro ⟨w,z,n1,x1,x2⟩;cases z;exact ⟨r',rfl,λq=>n1 (hd.mpr q),by rw [<-v1];exact x1,by rw [<-v2];exact x2⟩
   ·rintro ⟨w,z,n1,x1,x2⟩;cases z;exact ⟨r,rfl,λq=>n1 (hd.mp q),by rw [v1];exact x1,by rw [v2];exact x2⟩
end
end
end My
namespace My
open PySem L2 PyProof.Rows
section
variable {P:QJ} {w:QM} {K:W.Frag} {mg:Str->Option Value} {base:Heap}
def BN (f:Pt->Pt) (e:EI):EI:=⟨e.n,e.k,f e.p,f e.q,cJ (eR (f e.p) (f e.q))⟩
def Oa (f:Pt->Pt) (r:pJ):pJ:=(r.1,r.2.1,f r.2.2.1,f r.2.2.2)
theorem S9 {a b:Pt} (ha:NP a) (hb:NP b) (e:vq a=vq b):a=b:=by
 have e1:val a.1=val b.1:=congrArg Prod.fst e;have e2:val a.2=val b.2:=congrArg Prod.snd e;exact Prod.ext (eJ ha.x hb.x e1) (eJ ha.y hb.y e2)
section
variable {f:Pt->Pt} {T:Q2->Q2} {k:Rat} {bs:List cR}
theorem zJ.ne (S:zJ f T k) {p q:Pt} (hp:NP p) (hq:NP q) (ne:p≠q):f p≠f q:=λz=>by
 have a:=j8 hp hq ne;have b:=S.dt (vq p) (vq q) (vq p) (vq q);rw [<-S.v p hp,<-S.v q hq,z] at b;have c:=Rat.mul_pos S.k0 a;rw [<-b] at c;unfold aT aV at c;grind
theorem zJ.share (S:zJ f T k) {p q x:Pt} (hp:NP p) (hq:NP q) (hx:NP x) (ne:p≠q) (z:My.fE (vq p,vq q) (vq x)=0):val (bX (f p) (f q) (f x))=val (bX p q x):=by
 have ne':=S.ne hp hq ne;have s1:=kC hp hq hx ne z;have z':My.fE (vq (f p),vq (f q)) (vq (f x))=0:=by rw [S.v p hp,S.v q hq,S.v x hx,S.fe,z];grind
 have s2:=kC (S.np p hp) (S.np q hq) (S.np x hx) ne' z';have d0:=j8 (S.np p hp) (S.np q hq) ne';refine Qy d0 (s2.symm.trans ?_);rw [S.v x hx,s1,S.af,<-S.v p hp,<-S.v q hq]
theorem zJ.pt (S:zJ f T k) {p q:Pt} (hp:NP p) (hq:NP q) {s:Fr} (hs:dY s):iO (f p) (f q) s=f (iO p q s):=by
 obtain ⟨n1,v1⟩:=Bf hp hq hs;obtain ⟨n2,v2⟩:=Bf (S.np p hp) (S.np q hq) hs;refine S9 n2 (S.np _ n1) ?_;rw [v2,S.v _ n1,v1,S.af,S.v p hp,S.v q hq]
structure Pf (f:Pt->Pt) (p:Pt):Prop where
 a:Pb p
 b:Pb (f p)
theorem Ck.bare (h:Ck bs f T k) {p q:Pt} (hp:Pf f p) (hq:Pf f q) (ne:p≠q) {tw:List Pr} (VZ:∀x∈tw,(Pf f x.1/\Pf f x.2)/\fE (vq p,vq q) (vq x.1)=0/\fE (vq p,vq q) (vq x.2)=0) :
  (dE ((bs.map (iK f)).map aW) (f p) (f q) (tw.map λx=>(f x.1,f x.2))).map vp=(dE (bs.map aW) p q tw).map vp/\(∀x∈dE ((bs.map (iK f)).map aW) (f p) (f q) (tw.map λx=>(f x.1,f x.2)),F2 x.1/\F2 x.2)/\∀x∈dE (bs.map aW) p q tw,F2 x.1/\F2 x.2:=by
 have S:=h.S;have WI:∀s∈bs.map aW,mW s:=λs m=>by
  obtain ⟨g,mg,rfl⟩:=IP.mp m;exact jF (h.H.ok g mg)
 have ZD:∀s∈(bs.map (iK f)).map aW,mW s:=λs m=>by
  obtain ⟨g,mg,rfl⟩:=IP.mp m;exact jF (h.H'.ok g mg)
 have twok:∀x∈tw,Pb x.1/\Pb x.2:=λx m=>⟨(VZ x m).1.1.a,(VZ x m).1.2.a⟩;have twok':∀x∈tw.map λx=>(f x.1,f x.2),Pb x.1/\Pb x.2:=λx m=>by
  obtain ⟨y,my,rfl⟩:=IP.mp m;exact ⟨(VZ y my).1.1.b,(VZ y my).1.2.b⟩
 have en:=sT hp.a hq.a ne;have wm:=sT hp.b hq.b (S.ne hp.a.np hq.a.np ne);refine ⟨?_,oQ ZD wm twok',oQ WI en twok⟩;refine Bp (mE (((bs.map (iK f)).map aW).map λs=>aU s (dI (f p) (f q)))++n9 (pP (f p) (f q) (tw.map λx=>(f x.1,f x.2)))++(mE ((bs.map aW).map λs=>aU s (dI p q))++n9 (pP p q tw))) (lR ZD wm twok').2 (lR WI en twok).2 λt ht=>?_;rw [oC ZD wm twok' (λz=>ht (JX _ (JX _ z))) (λz=>ht (JX _ (JF _ z))),oC WI en twok (λz=>ht (JF _ (JX _ z))) (λz=>ht (JF _ (JF _ z)))];have c1:rP (((bs.map (iK f)).map aW).map λs=>aU s (dI (f p) (f q))) t↔rP ((bs.map aW).map λs=>aU s (dI p q)) t:=by
  rw [JG,JG,JG];constructor
  ·rintro ⟨r,m,r1,r2⟩;obtain ⟨b,mb,e⟩:=IP.mp m;obtain ⟨r',e',k1,k2⟩:=(h.ov mb hp.a.np hq.a.np hp.b.np hq.b.np ne t).mpr ⟨r,e,r1,r2⟩;exact ⟨r',IP.mpr ⟨b,mb,e'⟩,k1,k2⟩
  ·rintro ⟨r,m,r1,r2⟩;obtain ⟨b,mb,e⟩:=IP.mp m;obtain ⟨r',e',k1,k2⟩:=(h.ov mb hp.a.np hq.a.np hp.b.np hq.b.np ne t).mp ⟨r,e,r1,r2⟩;exact ⟨r',IP.mpr ⟨b,mb,e'⟩,k1,k2⟩
 have c2:Mr (pP (f p) (f q) (tw.map λx=>(f x.1,f x.2))) t↔Mr (pP p q tw) t:=by
  have v:∀x∈tw,val (bX (f p) (f q) (f x.1))=val (bX p q x.1)/\val (bX (f p) (f q) (f x.2))=val (bX p q x.2):=λx m=>⟨S.share hp.a.np hq.a.np (VZ x m).1.1.a.np ne (VZ x m).2.1,S.share hp.a.np hq.a.np (VZ x m).1.2.a.np ne (VZ x m).2.2⟩;unfold Mr pP;rw [JG];constructor
  ·rintro ⟨y,m,k1,k2⟩;obtain ⟨x,mx,rfl⟩:=IP.mp m;exact ⟨_,IP.mpr ⟨x,mx,rfl⟩,by rw [<-(v x mx).1];exact k1,by rw [<-(v x mx).2];exact k2⟩
  ·rintro ⟨y,m,k1,k2⟩;obtain ⟨x,mx,rfl⟩:=IP.mp m;exact ⟨_,IP.mpr ⟨x,mx,rfl⟩,by show val (bX (f p) (f q) (f x.1))<t;rw [(v x mx).1];exact k1,by show t<val (bX (f p) (f q) (f x.2));rw [(v x mx).2];exact k2⟩
 rw [c1,c2]
theorem Q9 {n i:Nat} {b:cR} (hi:i<b.o.length):pN n (iK f b) i=BN f (pN n b i):=by
 obtain ⟨p,q,h1,h2,h3⟩:=vP hi;obtain ⟨l1,l2,l3⟩:=Fu (n:=n) h3;have qd:(zr (iK f b).o)[i]? = some (f p,f q):=by
  show (zr (b.o.map f))[i]? = _;rw [Ul,JC,h3];rfl
 obtain ⟨k1,k2,k3⟩:=Fu (n:=n) qd;have e1:∀u v:EI,u.n=v.n->u.k=v.k->u.p=v.p->u.q=v.q->u.l=v.l->u=v:=λu v a b c d e=>by
  cases u;cases v;simp only at a b c d e;subst a b c d e;rfl
 refine e1 _ _ rfl rfl ?_ ?_ ?_
 ·rw [k1];show f p=f (pN n b i).p;rw [l1]
 ·rw [k2];show f q=f (pN n b i).q;rw [l2]
 ·rw [k3];show _=cJ (eR (f (pN n b i).p) (f (pN n b i).q));rw [l1,l2]
theorem Ak (bs:List cR) (marks:Str):cC (bs.map (iK f)) marks=(cC bs marks).map (BN f):=by
 unfold cC;rw [PN,PD,List.map_flatMap]
 congr 1
 funext x
 show Dg marks x.2 (iK f x.1)=(Dg marks x.2 x.1).map (BN f);unfold Dg;rw [JG];have el:(iK f x.1).o.length=x.1.o.length:=IS _;rw [el];refine JQ λi m=>?_;exact Q9 (LI.mp (JV.mp m).1)
theorem Gu (S:zJ f T k) {e:EI} {l':I3} (hp:NP e.p) (hq:NP e.q):∀{A A':List (Fr×Fr)},(∀x∈A',F2 x.1/\F2 x.2)->(∀x∈A,F2 x.1/\F2 x.2)->A'.map vp=A.map vp->cL ⟨e.n,e.k,f e.p,f e.q,l'⟩ A'=(cL e A).map (Oa f)
 | [],[],_,_,_=>rfl
 | [],_::_,_,_,h=>by simp at h
 | _::_,[],_,_,h=>by simp at h
 | a::A,a'::A',h',h,ev=>by
  simp only [JK,List.cons.injEq] at ev;obtain ⟨e1,e2⟩:=ev;have ih:=Gu (l':=l') S hp hq (A:=A) (A':=A') (λx m=>h' x (by simp [m])) (λx m=>h x (by simp [m])) e2;obtain ⟨f1',f2'⟩:=h' a' (by simp);obtain ⟨f1,f2⟩:=h a (by simp);have lv:∀{u v:Fr},F2 u->F2 v->val u=val v->low u.1 u.2=low v.1 v.2:=λ{u v} h1 h2 q=>by
   obtain ⟨n1,v1⟩:=sS h1;obtain ⟨n2,v2⟩:=sS h2;exact eJ n1 n2 (by rw [v1,v2,q])
  show (e.n,e.k,iO (f e.p) (f e.q) (low a'.1.1 a'.1.2),iO (f e.p) (f e.q) (low a'.2.1 a'.2.2))::cL _ A'=Oa f (e.n,e.k,iO e.p e.q (low a.1.1 a.1.2),iO e.p e.q (low a.2.1 a.2.2))::(cL e A).map (Oa f);rw [ih,lv f1' f1 (congrArg Prod.fst e1),lv f2' f2 (congrArg Prod.snd e1),S.pt hp hq (sS f1).1,S.pt hp hq (sS f2).1];rfl
theorem Ck.pf (h:Ck bs f T k) {marks:Str} {e:EI} (m:e∈cC bs marks):Pf f e.p/\Pf f e.q:=by
 obtain ⟨b,hb,hk,hm,ee⟩:=oZ m;obtain ⟨p,q,h1,h2,h3⟩:=vP hk;obtain ⟨l1,l2,l3⟩:=Fu (n:=e.n) h3;rw [<-ee] at l1 l2;have mb:=JA hb;obtain ⟨m1,m2⟩:=iM (JA h3);rw [l1,l2];exact ⟨⟨h.H.pb b mb _ m1,h.pb b mb _ m1⟩,h.H.pb b mb _ m2,h.pb b mb _ m2⟩
theorem Ck.rim (h:Ck bs f T k) (marks:Str):dS (bs.map (iK f)) marks=(dS bs marks).map (Oa f):=by
 have S:=h.S;rw [oH,oH,Ak,PN,PD,List.map_flatMap,List.flatMap_def,List.flatMap_def]
 congr 1
 refine JQ λx mx=>?_;have me:=JA (KH.mp mx);have ke:=gN h.H x.1 me;obtain ⟨pp,pq⟩:=h.pf me;show cL (BN f x.1) (dE ((bs.map (iK f)).map aW) (f x.1.p) (f x.1.q) (Di ((cC (bs.map (iK f)) marks).take x.2) (cJ (eR (f x.1.p) (f x.1.q)))))=(AZ bs marks x).map (Oa f);have tw:Di ((cC (bs.map (iK f)) marks).take x.2) (cJ (eR (f x.1.p) (f x.1.q)))=(Di ((cC bs marks).take x.2) x.1.l).map λy=>(f y.1,f y.2):=by
  rw [Ak,<-OS];unfold Di;rw [List.filter_map,JG,JG];have:((cC bs marks).take x.2).filter ((λe=>decide (e.l=cJ (eR (f x.1.p) (f x.1.q))))∘BN f)=((cC bs marks).take x.2).filter λe=>decide (e.l=x.1.l):=by
   refine List.filter_congr λu mu=>?_;have fw:=LH mu;have ku:=gN h.H u fw;obtain ⟨up,uq⟩:=h.pf fw;show decide (cJ (eR (f u.p) (f u.q))=cJ (eR (f x.1.p) (f x.1.q)))=decide (u.l=x.1.l);rw [decide_eq_decide,ku.l,ke.l,j7 up.b uq.b pp.b pq.b (S.ne ku.hp.np ku.hq.np ku.ne) (S.ne ke.hp.np ke.hq.np ke.ne),j7 ku.hp ku.hq ke.hp ke.hq ku.ne ke.ne];rw [S.v _ ku.hp.np,S.v _ ku.hq.np,S.v _ ke.hp.np,S.v _ ke.hq.np,S.fe,S.fe];have z:∀a:Rat,k*a=0↔a=0:=λa=>⟨λw=>(Rat.mul_eq_zero.mp w).resolve_left (by have:=S.k0;grind),λw=>by rw [w];grind⟩;have d:aT (aP (T (vq u.p),T (vq u.q))) (aV (T (vq x.1.q)) (T (vq x.1.p)))=k*aT (aP (vq u.p,vq u.q)) (aV (vq x.1.q) (vq x.1.p)):=S.dt _ _ _ _;rw [z,z,d];have p:0<k*aT (aP (vq u.p,vq u.q)) (aV (vq x.1.q) (vq x.1.p))↔0<aT (aP (vq u.p,vq u.q)) (aV (vq x.1.q) (vq x.1.p)):=⟨λw=>bH S.k0 (by grind),λw=>Rat.mul_pos S.k0 w⟩;rw [p]
  rw [this];rfl
 rw [tw];have VZ:∀y∈Di ((cC bs marks).take x.2) x.1.l,(Pf f y.1/\Pf f y.2)/\fE (vq x.1.p,vq x.1.q) (vq y.1)=0/\fE (vq x.1.p,vq x.1.q) (vq y.2)=0:=λy my=>by
  obtain ⟨u,mu,rfl⟩:=IP.mp my;obtain ⟨mu,hl⟩:=JV.mp mu;have fw:=LH mu;have ku:=gN h.H u fw;refine ⟨h.pf fw,?_⟩;have hl:u.l=x.1.l:=by simpa using hl
  rw [ku.l,ke.l] at hl;obtain ⟨z1,z2,_⟩:=(j7 ku.hp ku.hq ke.hp ke.hq ku.ne ke.ne).mp hl;obtain ⟨y1,y2,_⟩:=zN (j8 ku.hp.np ku.hq.np ku.ne) z1 z2;exact ⟨y1,y2⟩
 obtain ⟨b1,b2,b3⟩:=h.bare pp pq ke.ne VZ;exact Gu S ke.hp.np ke.hq.np b2 b3 b1
end
end
end My
namespace My
open PySem L2 PyProof.Rows
section
variable {P:QJ} {w:QM} {K:W.Frag} {mg:Str->Option Value} {base:Heap}
def fY {α:Type}:List α->List α
 | []=>[]
 | [x]=>[x]
 | x::_::r=>x::fY r
def kF {α:Type}:List α->List α
 | []=>[]
 | [_]=>[]
 | _::y::r=>y::kF r
theorem Sj (n:Nat):Zx n none (some 2)=(LA ((n+1)/2)).map (2 * ·):=by
 have e:RH none none (some 2) n=(0,(n:Int),2):=rfl;unfold Zx;rw [e];unfold sliceRange;simp only;have c:(if (2:Int)>0 then (if (0:Int)<(n:Int) then ((n:Int)-0+2-1)/2 else 0) else (if (0:Int)>(n:Int) then (0-(n:Int)-2-1)/(-2) else 0)).toNat=(n+1)/2:=by
  rw [if_pos (by decide)]
  split<;>omega
 rw [c];refine JQ λk _=>?_;omega
theorem Wg (n:Nat):Zx n (some 1) (some 2)=(LA (n/2)).map (2 * · + 1):=by
 have e:RH (some 1) none (some 2) n=(max 0 (min 1 (n:Int)),(n:Int),2):=rfl;unfold Zx;rw [e];unfold sliceRange;simp only;have c:(if (2:Int)>0 then (if max 0 (min 1 (n:Int))<(n:Int) then ((n:Int)-max 0 (min 1 (n:Int))+2-1)/2 else 0) else (if max 0 (min 1 (n:Int))>(n:Int) then (max 0 (min 1 (n:Int))-(n:Int)-2-1)/(-2) else 0)).toNat=n/2:=by
  rw [if_pos (by decide)]
  split<;>omega
 rw [c];refine JQ λk m=>?_;have:=LI.mp m;omega
theorem tS {α:Type}:∀xs:List α,((LA ((xs.length+1)/2)).map (2 * ·)).filterMap (xs[·]?)=fY xs
 | []=>by simp [fY]
 | [x]=>by simp [fY]
 | x::y::r=>by
  have ih:=tS r;have e:((x::y::r).length+1)/2=(r.length+1)/2+1:=by simp;omega
  rw [e,NY,JK,LX (b:=x) (by rfl),fY,<-ih,JG,NC,NC]
  congr 1
theorem yI {α:Type}:∀xs:List α,((LA (xs.length/2)).map (2 * · + 1)).filterMap (xs[·]?)=kF xs
 | []=>by simp [kF]
 | [x]=>by simp [kF]
 | x::y::r=>by
  have ih:=yI r;have e:(x::y::r).length/2=r.length/2+1:=by simp;omega
  rw [e,NY,JK,LX (b:=y) (by rfl),kF,<-ih,JG,NC,NC]
  congr 1
theorem Fy {α:Type} (xs:List α):eQ xs none (some 2)=fY xs:=by
 unfold eQ;rw [Sj];exact tS xs
theorem Mi {α:Type} (xs:List α):eQ xs (some 1) (some 2)=kF xs:=by
 unfold eQ;rw [Wg];exact yI xs
theorem wA {α β:Type} (f:α->β):∀xs:List α,fY (xs.map f)=(fY xs).map f
 | []=>rfl
 | [x]=>rfl
 | x::y::r=>by show f x::fY (r.map f)=_;rw [wA f r];rfl
theorem Cq {α β:Type} (f:α->β):∀xs:List α,kF (xs.map f)=(kF xs).map f
 | []=>rfl
 | [x]=>rfl
 | x::y::r=>by show f y::kF (r.map f)=_;rw [Cq f r];rfl
theorem Tn (xs:List L2.T) (m:Nat):i6 xs (some (m:Int)) none=xs.drop m:=by
 unfold i6;rw [HT.sIx_none,HT.sIx_nat];rcases Nat.le_total m xs.length with h | h
 ·rw [NO h];exact MK (by simp)
 ·rw [Nat.min_eq_right h,MI,List.drop_eq_nil_of_le h];simp
structure MU (U:Nat) (f:Fr) (m:Int):Prop where
 n:dY f
 e:val f*(U:Rat)=(m:Rat)
theorem MU.sz {U:Nat} {f:Fr} {m:Int} (h:MU U f m) (u0:0<U) {e:Nat} (hu:U<2^e) (hm:m.natAbs<2^e) (he:1<=e):My.sz f<=e:=by
 have d1:=h.n.d;have n0:(f.2:Rat)≠0:=by exact_mod_cast (show f.2≠0 by omega)
 have e1:f.1*(U:Int)=m*f.2:=by
  have:=h.e;unfold val at this;have k:(f.1:Rat)*(U:Rat)=(m:Rat)*(f.2:Rat):=by rw [<-this,Rat.div_def];grind
  exact_mod_cast k
 have e2:f.1.natAbs*U=m.natAbs*f.2.natAbs:=by
  have:=congrArg Int.natAbs e1;rw [KG,KG,NF] at this;exact this
 have dv:f.2.natAbs∣U:=by
  have c:NZ f.2.natAbs f.1.natAbs:=by unfold NZ;rw [OE];exact h.n.g
  exact c.dvd_of_dvd_mul_left ⟨m.natAbs,by rw [e2];exact PF _ _⟩
 obtain ⟨c,hc⟩:=dv;have f0:0<f.2.natAbs:=by omega
 have c0:0<c:=by
  rcases OO c with z | z
  ·rw [z] at hc;omega
  ·exact z
 have e3:f.1.natAbs*c=m.natAbs:=by
  rw [hc,<-Nat.mul_assoc,PF f.1.natAbs,Nat.mul_assoc,PF m.natAbs] at e2;exact Nat.eq_of_mul_eq_mul_left f0 e2
 refine oE ?_ ?_ he
 ·exact JO (by rw [<-e3];exact PK _ c0) hm
 ·exact JO (by rw [hc];exact PK _ c0) hu
theorem MU.add {U:Nat} {f g:Fr} {m n:Int} (h:MU U f m) (k:MU U g n):MU U (hV f g) (m+n):=⟨iW h.n k.n,by rw [iX h.n k.n];push_cast;have:=h.e;have:=k.e;grind⟩
def bL (xs:List (Fr×Int)):List (Fr×Int):=((fY xs).zip (kF xs)).map λp=>(hV p.1.1 p.2.1,p.1.2+p.2.2)
def t7:List (Fr×Int)->Int
 | []=>0
 | x::xs=>x.2+t7 xs
def pS:List (Fr×Int)->Nat
 | []=>0
 | x::xs=>x.2.natAbs+pS xs
def V3 (U:Nat) (xs:List (Fr×Int)):Prop:=∀x∈xs,MU U x.1 x.2
theorem qV {U:Nat}:∀xs:List (Fr×Int),V3 U xs->V3 U (bL xs)/\(bL xs).length=xs.length/2/\t7 (bL xs++xs.drop ((bL xs).length*2))=t7 xs/\pS (bL xs++xs.drop ((bL xs).length*2))<=pS xs/\V3 U (xs.drop ((bL xs).length*2))
 | [],h=>⟨λf m=>absurd m (by simp [bL,fY,kF]),rfl,rfl,IW _,λf m=>absurd m (by simp)⟩
 | [x],h=>⟨λf m=>absurd m (by simp [bL,fY,kF]),by simp [bL,fY,kF],rfl,IW _,h⟩
 | x::y::r,h=>by
  obtain ⟨h1,h2,h3,h4,h5⟩:=qV r λf m=>h f (by simp [m]);have hx:=h x (by simp);have hy:=h y (by simp);have e:bL (x::y::r)=(hV x.1 y.1,x.2+y.2)::bL r:=rfl;have ed:(x::y::r).drop ((bL (x::y::r)).length*2)=r.drop ((bL r).length*2):=by
   rw [e,JE,show ((bL r).length+1)*2=(bL r).length*2+1+1 by omega];rfl
  rw [ed,e];refine ⟨λf m=>?_,by simp [h2];omega,?_,?_,h5⟩
  ·rcases IU.mp m with rfl | m
   ·exact hx.add hy
   ·exact h1 f m
  ·show x.2+y.2+t7 (bL r++_)=x.2+(y.2+t7 r);rw [h3];omega
  ·show (x.2+y.2).natAbs+pS (bL r++_)<=x.2.natAbs+(y.2.natAbs+pS r);omega
theorem Jh:∀{xs:List (Fr×Int)} {x:Fr×Int},x∈xs->x.2.natAbs<=pS xs
 | y::xs,x,m=>by
  show x.2.natAbs<=y.2.natAbs+pS xs;rcases IU.mp m with rfl | m
  ·omega
  ·have:=Jh m;omega
theorem Kx:∀{xs:List (Fr×Int)} {p:(Fr×Int)×(Fr×Int)},p∈(fY xs).zip (kF xs)->p.1∈xs/\p.2∈xs
 | [],p,m=>by simp [fY,kF] at m
 | [x],p,m=>by simp [fY,kF] at m
 | x::y::r,p,m=>by
  rcases IU.mp (show p∈(x,y)::(fY r).zip (kF r) from m) with rfl | m
  ·exact ⟨by simp,by simp⟩
  ·obtain ⟨h2,h3⟩:=Kx m;exact ⟨by simp [h2],by simp [h3]⟩
def fx (x:Fr×Int):L2.T:=fr x.1
def Pl:iN:=λas Q=>∃(xs:List (Fr×Int)) (N:Nat),as=[.v (.lst (xs.map fx))]/\xs.length<=900/\V3 N xs/\0<N/\N<2^3700/\pS xs<2^3700/\∀t,MU N t (t7 xs)->sz t<=3700->Q (.v (fr t)) []
abbrev rD (P w K mg base):=Fn P w K mg base 4 "total_of" ["sizes"] (aX K Pl)
abbrev nM:QU:=top 39
theorem mH:aO ["sizes","pairs"] ["sizes"] (aF nM):=g8
theorem Ai {f:QF} {fd:QK} (F:eT K "total_of" "total_of" nM f fd) (TX:Txt mg) (VL:tG P w K mg base)   : bJ P w K mg base fF 4 f fd ["sizes"] (aX K Pl):=by
 refine F.okT mH ?len (λTQ A outer s H E hr=>(aE (sO PassesOwn.never (fH Cb (kO rfl rfl TX.n_len (fc (fv 0) aA)) aB (bE _)) (aE (mM (i:=1) (N':=["one","other"]) (t:=2) (cap:=[]) mH.nd rfl (IV rfl) rfl rfl (bK.of rfl) rfl (by decide) (Kf rfl rfl TX.n_zip (fc (Jz rfl (fv 0) iU (e7 aB)) (fc (Jz rfl (fv 0) (e7 aB) (e7 aB)) aA))) (λ_ _ _ _=>(cE (n:=2) rfl rfl (aJ (aI (i:=0) (show JT (["one","other"]:List Str) by decide +kernel) rfl (IV rfl) (JW rfl)) (aJ (aI (i:=1) (show JT (["one","other"]:List Str) by decide +kernel) rfl (IV rfl) (JW rfl)) bS)))) (λ_ _ _ _=>(aC VL hr (by omega) rfl (fc (fv 0) (fc (fv 1) aA)))))
 (aK (bD (i:=0) mH.nd rfl (IV rfl) (Ui (fv 1) (kG rfl (fv 0) (e7 (aN aS (kO rfl rfl TX.n_len (fc (fv 1) aA)) aB)) iU))))))
 (aK (aR (rA (L7 rfl (fv 0)) (aH rfl (fv 0) aB (λ_ _=>rfl)) (aL (fc aB (fc aB aA)))))))) ?rd
 case len=>rintro as Q ⟨xs,N,rfl,_⟩;rfl
 case rd=>
  rintro as Q ⟨xs,N,rfl,hl,hn,u0,hN,hs,z⟩;refine ⟨λm E=>∃(gs:List (Fr×Int)) (u:U) (v:Option U),E=[some u,v]/\(u = .p (.lst (gs.map fx))\/u = .o false (gs.map fx))/\m=gs.length/\gs.length<=900/\V3 N gs/\pS gs<2^3700/\t7 gs=t7 xs,⟨_,xs,_,_,rfl,.inl rfl,rfl,hl,hn,hs,rfl⟩,?_⟩;rintro m E ⟨gs,u,v,rfl,hu,rfl,hl,hn,hs,hv⟩;have qk:eQ (gs.map fx) none (some 2)=(fY gs).map fx:=by rw [Fy,wA]
  have bf:eQ (gs.map fx) (some 1) (some 2)=(kF gs).map fx:=by rw [Mi,Cq]
  obtain ⟨p1,p2,p3,p4,p5⟩:=qV gs hn;have le1:∀gs:List (Fr×Int),(fY gs).length<=gs.length/\(kF gs).length<=gs.length:=λgs=>by
   have h1:=congrArg OL (tS gs);have h2:=congrArg OL (yI gs);have a1:=PH (gs[·]?) ((LA ((gs.length+1)/2)).map (2 * ·));have a2:=PH (gs[·]?) ((LA (gs.length/2)).map (2 * · + 1));rw [IS,List.length_range] at a1 a2;omega
  obtain ⟨l1,l2⟩:=le1 gs;have gc:∀x∈gs,sz x.1<=3700:=λx m=>(hn x m).sz u0 hN (JO (Jh m) hs) (by decide);have ZG:pS (bL gs++gs.drop ((bL gs).length*2))<2^3700:=JO p4 hs;rcases hu with rfl | rfl
  all_goals
   show if decide ((1:Int)<((gs.map fx).length:Int))=true then _ else _
   by_cases c:(1:Int)<((gs.map fx).length:Int)
   ·rw [decide_eq_true c,if_pos rfl];rw [IS] at c;refine ⟨(show (some (2:Int))≠some 0 by decide),?_,(show (some (2:Int))≠some 0 by decide),?_,rfl,?_⟩
    ·show (eQ (gs.map fx) none (some 2)).length<=1000;rw [qk,IS];omega
    ·show (eQ (gs.map fx) (some 1) (some 2)).length<=1000;rw [bf,IS];omega
    ·show fG _ _ (gM (eQ (gs.map fx) none (some 2)) (eQ (gs.map fx) (some 1) (some 2))) _ _;rw [qk,bf,zip_map];refine bQ (f:=λp:(Fr×Int)×(Fr×Int)=>.tup [fx p.1,fx p.2]) (h:=λp=>fr (hV p.1.1 p.2.1)) (λ(w:Option U×Option U) acc=>[w.1,w.2,some (.o false acc)]) _ (none,none) [] (by simp;omega) (λp m w acc rest ha K=>?_) λw=>?_
     ·obtain ⟨s2,s3⟩:=Kx m;have k2:=gc _ s2;have k3:=gc _ s3;exact ⟨p.1.1,p.2.1,rfl,(hn _ s2).n,(hn _ s3).n,by omega,ha,K (some (.p (fx p.1)),some (.p (fx p.2)))⟩
     ·refine ⟨aZ (λ_=>rfl) _,?_⟩;rw [LC,show (((fY gs).zip (kF gs)).map λp=>fr (hV p.1.1 p.2.1))=(bL gs).map fx by rw [bL,JG];rfl];have ec:i6 (gs.map fx) (some ((((bL gs).map fx).length:Int)*2)) none=(gs.drop ((bL gs).length*2)).map fx:=by
       rw [IS,show (((bL gs).length:Int)*2)=(((bL gs).length*2:Nat):Int) by push_cast;rfl,Tn,List.map_drop]
      refine ⟨vC (by decide),?_,?_⟩
      ·show ((bL gs).map fx).length+(i6 (gs.map fx) (some ((((bL gs).map fx).length:Int)*2)) none).length<=1000;rw [ec,IS,IS,MS];omega
      ·refine ⟨(bL gs++gs.drop ((bL gs).length*2)).length,by rw [IY,MS];omega,bL gs++gs.drop ((bL gs).length*2),.o false ((bL gs++gs.drop ((bL gs).length*2)).map fx),some (.o false ((bL gs).map fx)),?_,.inr rfl,rfl,by rw [IY,MS];omega,λf m=>(JJ.mp m).elim (p1 f) (p5 f),ZG,by rw [p3,hv]⟩;rw [KU,<-ec];rfl
   ·rw [decide_eq_false c,if_neg (by decide)];rw [IS] at c
    match gs,hn,hv,gc,c with
    | [],hn,hv,gc,c=>
     refine ⟨rfl,z (0,1) ⟨⟨by decide,by decide⟩,?_⟩ ?_⟩
     ·rw [<-hv];show val (0,1)*_=((0:Int):Rat);rw [iD];grind
     ·exact KS (oE (e:=1) (p:=(0,1)) (by decide) (by decide) (by decide)) (by decide)
    | [g],hn,hv,gc,c=>
     refine ⟨rfl,z g.1 ?_ (gc g (by simp))⟩;rw [<-hv];have:t7 [g]=g.2:=by show g.2+0=g.2;omega
     rw [this];exact hn g (by simp)
    | _::_::_,hn,hv,gc,c=>simp at c;omega
def pY (r:pJ):Pr:=(r.2.2.1,r.2.2.2)
def V2 (x:Pr):Fr:=yH x.1.1 x.1.2 x.2.1 x.2.2
def tJ (N B:Nat) (p:Pt):Prop:=∃m n:Int,MU N p.1 m/\MU N p.2 n/\m.natAbs<=B/\n.natAbs<=B
theorem MU.mul {U V:Nat} {f g:Fr} {m n:Int} (h:MU U f m) (k:MU V g n):MU (U*V) (eO f g) (m*n):=⟨bM h.n k.n,by
 rw [dQ h.n k.n];push_cast;have:=h.e;have:=k.e;rw [<-h.e,<-k.e];grind⟩
theorem MU.sub {U:Nat} {f g:Fr} {m n:Int} (h:MU U f m) (k:MU U g n):MU U (iQ f g) (m-n):=⟨eD h.n k.n,by rw [g9 h.n k.n];push_cast;have:=h.e;have:=k.e;grind⟩
theorem tJ.np {N B:Nat} {p:Pt} (h:tJ N B p):NP p:=let ⟨_,_,a,b,_⟩:=h;⟨a.n,b.n⟩
theorem tJ.nv {N B e:Nat} {p:Pt} (h:tJ N B p) (u0:0<N) (hN:N<2^e) (hB:B<2^e) (he:1<=e):Nv p.1 p.2 e:=by
 obtain ⟨m,n,a,b,c,d⟩:=h;exact ⟨a.n,b.n,a.sz u0 hN (by omega) he,b.sz u0 hN (by omega) he⟩
theorem AF {N B:Nat} {x:Pr} (ha:tJ N B x.1) (hb:tJ N B x.2):∃m:Int,MU (N*N) (V2 x) m/\m.natAbs<=2*(B*B):=by
 obtain ⟨m,n,a,b,c,d⟩:=ha;obtain ⟨m',n',a',b',c',d'⟩:=hb;refine ⟨_,(a.mul b').sub (b.mul a'),?_⟩;have k1:(m*n').natAbs<=B*B:=by rw [KG];exact KA c d'
 have k2:(n*m').natAbs<=B*B:=by rw [KG];exact KA d c'
 omega
theorem J9 {x:Pr} (ha:NP x.1) (hb:NP x.2):val (V2 x)=crs (vq x.1) (vq x.2):=by
 unfold V2 yH crs vq;rw [g9 (bM ha.x hb.y) (bM ha.y hb.x),dQ ha.x hb.y,dQ ha.y hb.x]
def Dh (x:Pr):Rat:=crs (vq x.1) (vq x.2)
theorem Rz {N B:Nat}:∀{xs:List Pr},(∀x∈xs,tJ N B x.1/\tJ N B x.2)->∃ys:List (Fr×Int),ys.map Prod.fst=xs.map V2/\V3 (N*N) ys/\pS ys<=xs.length*(2*(B*B))/\(0<N->(t7 ys:Rat)=kW (xs.map Dh)*((N*N:Nat):Rat))
 | [],_=>⟨[],rfl,λx m=>absurd m (by simp),LM _,λ_=>by show ((0:Int):Rat)=0*_;grind⟩
 | x::xs,h=>by
  obtain ⟨ys,h1,h2,h3,h4⟩:=Rz (xs:=xs) λy m=>h y (by simp [m]);obtain ⟨hx1,hx2⟩:=h x (by simp);obtain ⟨m,hm,hb⟩:=AF hx1 hx2;refine ⟨(V2 x,m)::ys,by rw [JK,JK,h1],λy my=>?_,?_,λn0=>?_⟩
  ·rcases IU.mp my with rfl | my
   ·exact hm
   ·exact h2 y my
  ·show m.natAbs+pS ys<=(xs.length+1)*(2*(B*B));rw [Nat.succ_mul];omega
  ·show ((m+t7 ys:Int):Rat)=(Dh x+kW (xs.map Dh))*_;have e:=hm.e;rw [J9 hx1.np hx2.np] at e
   push_cast
   have h4:=h4 n0
   push_cast at h4 e
   rw [h4,<-e];unfold Dh;grind
theorem DJ:dY (1,2):=⟨by decide,by decide⟩
theorem zY:(2^1840*2^1840<2^3700/\900*(2*(2^1840*2^1840))<2^3700:Prop):=by decide +kernel
def Su:iN:=λas Q=>∃(xs:List Pr) (N B:Nat),as=[.v (.lst (xs.map rZ))]/\xs.length<=900/\(∀x∈xs,tJ N B x.1/\tJ N B x.2)/\0<N/\N<2^1840/\B<2^1840/\∀t,dY t->val t=kW (xs.map Dh)*(1/2)->sz t<=3800->Q (.v (fr t)) []
abbrev lZ (P w K mg base):=Fn P w K mg base 5 "size_within" ["bounds"] (aX K Su)
abbrev jW:QU:=top 40
theorem tY:aO ["bounds"] ["bounds"] (aF jW):=g8
theorem sL {f:QF} {fd:QK} (F:eT K "size_within" "size_within" jW f fd) (TX:Txt mg) (US:pC P w K mg base) (WA:rD P w K mg base) (XI:Br P w K mg base)   : bJ P w K mg base fF 5 f fd ["bounds"] (aX K Su):=by
 refine F.okT tY ?len (λTQ A outer s H E hr=>(aK (aR (aC US hr (by omega) rfl (fc (aC WA hr (by omega) rfl (fc (dG (N':=["begin","end"]) (t:=2) (cap:=[]) rfl (bK.of rfl) rfl (by decide) (dF rfl (fv 0)) (λ_ _ _ _=>(cE (n:=2) rfl rfl (aJ (aI (i:=0) (show JT (["begin","end"]:List Str) by decide +kernel) rfl (IV rfl) (JW rfl)) (aJ (aI (i:=1) (show JT (["begin","end"]:List Str) by decide +kernel) rfl (IV rfl) (JW rfl)) bS)))) (λ_ _ _ _=>(aC XI hr (by omega) rfl (fc (fv 0) (fc (fv 1) aA))))) aA)) (fc (aL (fc aB (fc aB aA))) aA)))))) ?rd
 case len=>rintro as Q ⟨xs,N,B,rfl,_⟩;rfl
 case rd=>
  rintro as Q ⟨xs,N,B,rfl,hl,hx,n0,hN,hB,z⟩;refine ⟨rfl,bQ (f:=rZ) (h:=λx=>fr (V2 x)) (λ(w:Option U×Option U) acc=>[w.1,w.2,some (.o false acc)]) xs (none,none) [] (by simp;omega) (λx m w acc rest ha K=>?_) λw=>?_⟩
  ·exact ⟨_,_,_,_,1840,1840,rfl,(hx x m).1.nv n0 hN hB (by decide),(hx x m).2.nv n0 hN hB (by decide),by decide,ha,K (some (.p (pt x.1)),some (.p (pt x.2)))⟩
  ·refine ⟨aZ (λ_=>rfl) _,?_⟩;obtain ⟨ys,y1,y2,y3,y4⟩:=Rz hx;have el:ys.length=xs.length:=by have:=congrArg OL y1;simpa using this
   have nn:0<N*N:=PV n0 n0;have b1:N*N<2^3700:=JO (KA (KN hN) (KN hN)) zY.1;have b2:pS ys<2^3700:=JO (KS y3 (KA hl (KA (IW _) (KA (KN hB) (KN hB))))) zY.2;refine ⟨ys,N*N,?_,by omega,y2,nn,b1,b2,λt mt st=>?_⟩
   ·have:ys.map fx=(ys.map Prod.fst).map fr:=by rw [JG];rfl
    rw [this,y1,JG];rfl
   ·have s12:sz (1,2)<=2:=oE (by decide) (by decide) (by decide);have sm:=qA mt.n DJ;refine ⟨t,(1,2),rfl,mt.n,DJ,by omega,rfl,z _ (bM mt.n DJ) ?_ (by omega)⟩;rw [dQ mt.n DJ];have:val (1,2)=1/2:=by show ((1:Int):Rat)/((2:Int):Rat)=1/2;push_cast;rfl
    rw [this]
    congr 1
    have e:=mt.e;rw [y4 n0] at e;have nz:((N*N:Nat):Rat)≠0:=by exact_mod_cast (show N*N≠0 by omega)
    grind
end
end My
namespace My
open PySem L2 PyProof.Rows
section
variable {P:QJ} {w:QM} {K:W.Frag} {mg:Str->Option Value} {base:Heap}
def tL (o:List Pt) (p:Pt):Bool:=(dA o).all λl=>decide (0<=eM l (aG p))
def iR (bs:List cR) (p:Pt):Bool:=bs.any λb=>tL b.o p
theorem xW:∀bs:List Bool,lJ (bs.map L2.T.bl)=some bs
 | []=>rfl
 | b::bs=>by show (lJ (bs.map L2.T.bl)).map (b::·)=_;rw [xW bs];rfl
def Rc:iN:=λas Q=>∃(b:cR) (p:Pt),as=[.v (eL b),.v (t3 (aG p))]/\b.o.length<=900/\(∀p∈b.o,Pb p)/\Pb p/\Q (.v (.bl (tL b.o p))) []
abbrev lI (P w K mg base):=Fn P w K mg base 4 "is_in_block" ["block","spot"] (aX K Rc)
abbrev j0:QU:=top 42
theorem tD:aO ["block","spot"] ["block","spot"] (aF j0):=g8
theorem sP {f:QF} {fd:QK} (F:eT K "is_in_block" "is_in_block" j0 f fd) (TX:Txt mg) (UM:jS P w K mg base) (UO:lU P w K mg base)   : bJ P w K mg base fF 4 f fd ["block","spot"] (aX K Rc):=by
 refine F.okT tD ?len (λTQ A outer s H E hr=>(aK (aR (N0 rfl rfl rfl TX.n_all (fc (dG (N':=["line","spot"]) (t:=1) (cap:=[(1,false)]) rfl (bK.of rfl) rfl (by decide) (dF rfl (aC UM hr (by omega) rfl (fc (fv 0) aA))) (λ_ _ _ _=>(aI (i:=0) (show JT (["line","spot"]:List Str) by decide +kernel) rfl (IV rfl) (JW rfl))) (λ_ _ _ _=>(wV Oi (aC UO hr (by omega) rfl (fc (fv 0) (fc (fv 1) aA))) aB (bE _)))) aA))))) ?rd
 case len=>rintro as Q ⟨b,p,rfl,_⟩;rfl
 case rd=>
  rintro as Q ⟨b,p,rfl,hl,hb,hp,q⟩;refine ⟨b,rfl,hl,hb,rfl,?_⟩;have le:(dA b.o).length<=900:=by simp only [dA,oY,IS,OH];omega
  refine bQ (f:=t3) (h:=λl=>.bl (decide (0<=eM l (aG p)))) (λ(v:Option U) acc=>[v,some (.p (t3 (aG p))),some (.o false acc)]) (dA b.o) none [] (by simp;omega) (λl m v acc rest ha K=>?_) λv=>?_
  ·exact ⟨l,aG p,rfl,(xO hb l m).up (by decide),(jV hp).up (by decide),ha,K _⟩
  ·refine ⟨aZ (λ_=>rfl) _,?_⟩;have e:((dA b.o).map λl=>L2.T.bl (decide (0<=eM l (aG p))))=((dA b.o).map λl=>decide (0<=eM l (aG p))).map L2.T.bl:=by rw [JG];rfl
   rw [LC,e];show o1 (lJ _) _;rw [xW];refine ⟨rfl,?_⟩;unfold tL at q;rw [List.all_map];exact q
def F1:iN:=λas Q=>∃(bs:List cR) (p:Pt),as=[.v (.lst (bs.map eL)),.v (pt p)]/\bs.length<=900/\(∀b∈bs,b.o.length<=900/\∀p∈b.o,Pb p)/\Pb p/\Q (.v (.bl (iR bs p))) []
abbrev Ao (P w K mg base):=Fn P w K mg base 5 "is_in" ["blocks","point"] (aX K F1)
abbrev zG:QU:=top 43
theorem Ac:aO ["blocks","point","spot"] ["blocks","point"] (aF zG):=g8
theorem Pm {f:QF} {fd:QK} (F:eT K "is_in" "is_in" zG f fd) (TX:Txt mg) (TU:i5 P w K mg base) (VB:lI P w K mg base)  (ni:mg "any" = none):bJ P w K mg base fF 5 f fd ["blocks","point"] (aX K F1):=by
 refine F.okT Ac ?len (λTQ A outer s H E hr=>(aE (bD (i:=2) Ac.nd rfl (JW rfl) (aC TU hr (by omega) rfl (fc (fv 1) aA)))
 (aK (aR (L4 rfl rfl rfl ni (fc (dG (N':=["block","spot"]) (t:=1) (cap:=[(2,false)]) rfl (bK.of rfl) rfl (by decide) (dF rfl (fv 0)) (λ_ _ _ _=>(aI (i:=0) (show JT (["block","spot"]:List Str) by decide +kernel) rfl (IV rfl) (JW rfl))) (λ_ _ _ _=>(aC VB hr (by omega) rfl (fc (fv 0) (fc (fv 1) aA))))) aA)))))) ?rd
 case len=>rintro as Q ⟨bs,p,rfl,_⟩;rfl
 case rd=>
  rintro as Q ⟨bs,p,rfl,hl,hb,hp,q⟩;refine ⟨p,rfl,hp,rfl,?_⟩;refine bQ (f:=eL) (h:=λb=>.bl (tL b.o p)) (λ(v:Option U) acc=>[v,some (.p (t3 (aG p))),some (.o false acc)]) bs none [] (by simp;omega) (λb m v acc rest ha K=>?_) λv=>?_
  ·exact ⟨b,p,rfl,(hb b m).1,(hb b m).2,hp,ha,K _⟩
  ·refine ⟨aZ (λ_=>rfl) _,?_⟩;have e:(bs.map λb=>L2.T.bl (tL b.o p))=(bs.map λb=>tL b.o p).map L2.T.bl:=by rw [JG];rfl
   rw [LC,e];show o1 (lJ _) _;rw [xW];refine ⟨rfl,?_⟩;unfold iR at q;rw [List.any_map];exact q
theorem Cc {o:List Pt} {x:Pt} (ho:∀p∈o,NP p) (hx:NP x):tL o x=true↔wJ (fB o) (vq x):=by
 unfold tL wJ fB;rw [mR,LK];have one:∀e∈zr o,(0<=eM (eR e.1 e.2) (aG x))↔0<=fE (vq e.1,vq e.2) (vq x):=λe me=>by
  obtain ⟨m1,m2⟩:=iM me;have hc:=(ho _ m1).spt;have hd:=(ho _ m2).spt;have o:=uK hc hd hx.spt;have w:=Rat.mul_pos (Rat.mul_pos hc.p hd.p) hx.spt.p;have e':((eM (eR e.1 e.2) (aG x):Int):Rat)=fE (vq e.1,vq e.2) (vq x)*(((aG e.1).2.2:Rat)*((aG e.2).2.2:Rat)*((aG x).2.2:Rat)):=by rw [o];grind
  have i2:(0:Rat)<=((eM (eR e.1 e.2) (aG x):Int):Rat)↔0<=eM (eR e.1 e.2) (aG x):=by norm_cast
  rw [<-i2,e',Fg w]
 constructor
 ·intro h e me;obtain ⟨y,my,rfl⟩:=IP.mp me;have:=h _ (IP.mpr ⟨y,my,rfl⟩);rw [decide_eq_true_eq] at this;exact (one y my).mp this
 ·intro h l ml;obtain ⟨y,my,rfl⟩:=IP.mp ml;rw [decide_eq_true_eq];exact (one y my).mpr (h _ (IP.mpr ⟨y,my,rfl⟩))
theorem Ck.isIn {f:Pt->Pt} {T:Q2->Q2} {k:Rat} {bs:List cR} (h:Ck bs f T k) {x:Pt} (hx:NP x) (cy:NP (f x)):iR (bs.map (iK f)) (f x)=iR bs x:=by
 have one:∀b∈bs,tL (iK f b).o (f x)=tL b.o x:=λb mb=>by
  rw [MG,Cc (λp m=>(h.H'.pb _ (IP.mpr ⟨b,mb,rfl⟩) p m).np) cy,Cc (λp m=>(h.H.pb b mb p m).np) hx,h.S.v x hx];exact h.inb mb _
 unfold iR;rw [List.any_map,MG,LW,LW];constructor
 ·rintro ⟨b,mb,q⟩;exact ⟨b,mb,by rw [<-one b mb];exact q⟩
 ·rintro ⟨b,mb,q⟩;exact ⟨b,mb,by show tL (iK f b).o (f x)=true;rw [one b mb];exact q⟩
def Vc (N B:Nat) (rs:List pJ):Prop:=∀r∈rs,tJ N B r.2.2.1/\tJ N B r.2.2.2
def Sw:iN:=λas Q=>∃(bs:List cR) (marks:Str) (N B:Nat),as=[.v (.lst (bs.map eL))]/\Mf bs marks/\yG bs marks/\Vc N B (dS bs marks)/\0<N/\N<2^1840/\B<2^1840/\∀t,dY t->val t=kW ((dS bs marks).map λr=>Dh (pY r))*(1/2)->sz t<=3800->Q (.v (fr t)) []
abbrev sR (P w K mg base):=Fn P w K mg base 7 "size_of" ["blocks"] (aX K Sw)
abbrev qD:QU:=top 41
theorem kS:aO ["blocks","edges","number","block"] ["blocks"] (aF qD):=g8
theorem Fv {f:QF} {fd:QK} (F:eT K "size_of" "size_of" qD f fd) (TX:Txt mg) (UP:kN P w K mg base) (VC:lZ P w K mg base)   : bJ P w K mg base fF 7 f fd ["blocks"] (aX K Sw):=by
 refine F.okT kS ?len (λTQ A outer s H E hr=>(aE (bD (i:=1) kS.nd rfl (IV rfl) (d8 aA))
 (aE (gY PassesOwn.never rfl (zA rfl rfl TX.n_enumerate (fc (fv 0) aA)) (cE (n:=2) rfl rfl (aJ (aI (i:=2) kS.nd rfl (JW rfl)) (aJ (aI (i:=3) kS.nd rfl (IV rfl)) bS)))
  (aK (gG (wQ rfl (fv 1) (fc (dG (N':=["edge","number"]) (t:=1) (cap:=[(2,false)]) rfl (bK.of rfl) rfl (by decide) (fU rfl TX.n_range (fc (kO rfl rfl TX.n_len (fc (aH rfl (fv 3) aB (λ_ _=>rfl)) aA)) aA)) (λ_ _ _ _=>(aI (i:=0) (show JT (["edge","number"]:List Str) by decide +kernel) rfl (IV rfl) (JW rfl))) (λ_ _ _ _=>(aL (fc (fv 1) (fc (fv 0) aA))))) aA)))))
 (aK (aR (aC VC hr (by omega) rfl (fc (dG (N':=["number","edge","begin","end"]) (t:=4) (cap:=[]) rfl (bK.of rfl) rfl (by decide) (dF rfl (aC UP hr (by omega) rfl (fc (fv 0) (fc (fv 1) aA)))) (λ_ _ _ _=>(cE (n:=4) rfl rfl (aJ (aI (i:=0) (show JT (["number","edge","begin","end"]:List Str) by decide +kernel) rfl (IV rfl) (JW rfl)) (aJ (aI (i:=1) (show JT (["number","edge","begin","end"]:List Str) by decide +kernel) rfl (IV rfl) (JW rfl)) (aJ (aI (i:=2) (show JT (["number","edge","begin","end"]:List Str) by decide +kernel) rfl (IV rfl) (JW rfl)) (aJ (aI (i:=3) (show JT (["number","edge","begin","end"]:List Str) by decide +kernel) rfl (IV rfl) (JW rfl)) bS)))))) (λ_ _ _ _=>(aL (fc (fv 2) (fc (fv 3) aA))))) aA))))))) ?rd
 case len=>rintro as Q ⟨bs,marks,N,B,rfl,_⟩;rfl
 case rd=>
  rintro as Q ⟨bs,marks,N,B,rfl,h,M,hU,n0,hN,hB,z⟩;show fA _ _ _ ((bs.map eL).zipIdx.map λq=>L2.T.tup [.int (q.2:Int),q.1]) _;rw [Ru];refine gH (f:=λq:cR×Nat=>L2.T.tup [.int (q.2:Int),eL q.1]) (λs':List L2.T×Option U×Option U=>[some (.p (.lst (bs.map eL))),some (.o false s'.1),s'.2.1,s'.2.2])
   (λxs s'=>(∀x∈xs,x.1∈bs)/\s'.1.length+6*xs.length<=900/\d9 s'.1=true/\s'.1++(xs.flatMap λx=>Dg marks x.2 x.1).map Dm=(cC bs marks).map Dm) ?_ ?_ bs.zipIdx ([],none,none) ⟨λx m=>JA (KH.mp m),by have:=h.len;simp;omega,rfl,rfl⟩
  ·rintro x xs ⟨acc,v3,v4⟩ rest ⟨hx,hl,WE,e⟩ K;obtain ⟨b,n⟩:=x;have mb:=hx (b,n) (by simp);obtain ⟨f1,f2⟩:=h.six b mb;simp only [JE] at hl;have ee:Dg marks n b=(LA b.o.length).map (pN n b):=by
    unfold Dg;rw [List.filter_eq_self.mpr λk mk=>M b mb k (LI.mp mk)]
   refine ⟨?_,rfl,?_⟩
   ·show -(2^62)<=(((b.o.map pt).length:Nat):Int)/\(((b.o.map pt).length:Nat):Int)<2^62;rw [IS];omega
   ·show fG _ _ (mI 0 (((b.o.map pt).length:Nat):Int).toNat) _ _;rw [MP,IS];refine bQ (f:=λi:Nat=>L2.T.int ((0:Int)+(i:Int))) (h:=λi:Nat=>L2.T.tup [.int (n:Int),.int ((0:Int)+(i:Int))]) (λ(w:Option U) acc=>[w,some (.p (.int (n:Int))),some (.o false acc)]) (LA b.o.length) none [] (by simp;omega) (λx m w acc rest ha K=>⟨ha,K _⟩) λw=>?_;have en:([]++(LA b.o.length).map λi:Nat=>L2.T.tup [.int (n:Int),.int ((0:Int)+(i:Int))])=(Dg marks n b).map Dm:=by
     rw [LC,ee,JG];refine JQ λi _=>?_;show _=L2.T.tup [.int (n:Int),.int (i:Int)];rw [Int.zero_add]
    rw [en];have el:=yU (marks:=marks) (n:=n) (b:=b);refine ⟨aZ (λ_=>rfl) _,?_,?_⟩
    ·show (acc++_).length<=1000;rw [IY,IS];omega
    ·refine K (acc++(Dg marks n b).map Dm,some (.p (.int (n:Int))),some (.p (eL b))) ⟨λy m=>hx y (by simp [m]),by simp only [IY,IS];omega,by rw [j6,WE,aZ (λ_=>rfl)];rfl,?_⟩;rw [LP,KU] at e;rw [IZ];exact e
  ·rintro ⟨acc,v3,v4⟩ ⟨_,hl,WE,e⟩;have e0:acc=(cC bs marks).map Dm:=by simpa using e
   subst e0;have l1:=uD (marks:=marks) λb m=>(h.six b m).1;have l2:=h.len;have l3:=h.rows;refine ⟨bs,cC bs marks,rfl,by omega,h.bk,by omega,Zr h,by omega,h.rows,?_⟩;refine ⟨rfl,bQ (f:=rN) (h:=λr=>rZ (pY r)) (λ(w:Option U×Option U×Option U×Option U) acc=>[w.1,w.2.1,w.2.2.1,w.2.2.2,some (.o false acc)]) (dS bs marks) (none,none,none,none) [] (by simp;omega) (λr m w acc rest ha K=>?_) λw=>?_⟩
   ·exact ⟨ha,K (some (.p (.int (r.1:Int))),some (.p (.int (r.2.1:Int))),some (.p (pt r.2.2.1)),some (.p (pt r.2.2.2)))⟩
   ·refine ⟨aZ (λ_=>rfl) _,?_⟩;refine ⟨(dS bs marks).map pY,N,B,by rw [JG];rfl,by rw [IS];omega,λx m=>?_,n0,hN,hB,λt nt vt st=>⟨rfl,z t nt ?_ st⟩⟩
    ·obtain ⟨r,mr,rfl⟩:=IP.mp m;exact hU r mr
    ·rw [JG] at vt;exact vt
end
end My
namespace My
open PySem L2 PyProof.Rows
section
variable {P:QJ} {w:QM} {K:W.Frag} {mg:Str->Option Value} {base:Heap}
def DO:Nat->Nat
 | 0=>1
 | n+1=>(n+1)*DO n
theorem Kl:∀n,0<DO n
 | 0=>by decide
 | n+1=>PV (by omega) (Kl n)
theorem Hw:∀(n d:Nat),0<d->d<=n->d∣DO n
 | 0,d,h,k=>by omega
 | n+1,d,h,k=>by
  by_cases c:d=n+1
  ·subst c;exact Nat.dvd_mul_right _ _
  ·exact Nat.dvd_trans (Hw n d h (by omega)) (OX _ _)
def U0:Nat:=2*DO 128
theorem yV:0<U0:=PV (by decide) (Kl 128)
theorem Uz:U0<2^720:=by decide +kernel
def Vd (N:Nat) (x:Q2):Prop:=∃m n:Int,x.1*(N:Rat)=(m:Rat)/\x.2*(N:Rat)=(n:Rat)
theorem LB.ints {b:cR} (h:LB 400 b) {p:Pt} (mp:p∈b.o):∃X Y c1 c2:Int,val p.1*2=((X+2*c1:Int):Rat)/\val p.2*2=((Y+2*c2:Int):Rat)/\0<=c1/\c1<=8/\0<=c2/\c2<=8/\X.natAbs<=400/\Y.natAbs<=400/\∀q∈b.o,∃e1 e2:Int,val q.1*2=((X+2*e1:Int):Rat)/\val q.2*2=((Y+2*e2:Int):Rat)/\0<=e1/\e1<=8/\0<=e2/\e2<=8:=by
 obtain ⟨w,x,y,X,Y,h1,h2,h3,h4,h5,h6,h7,h8⟩:=h.ex;have all:∀q∈b.o,∃e1 e2:Int,val q.1*2=((X+2*e1:Int):Rat)/\val q.2*2=((Y+2*e2:Int):Rat)/\0<=e1/\e1<=8/\0<=e2/\e2<=8:=λq mq=>by
  rw [h8] at mq;obtain ⟨c,mc,rfl⟩:=IP.mp mq;have:=Js h2 h3 h4 h5 w c mc;refine ⟨c.1,c.2,?_,?_,this.1,this.2.1,this.2.2.1,this.2.2.2⟩
  ·show val (hf (X+2*c.1))*2=_;rw [pR];grind
  ·show val (hf (Y+2*c.2))*2=_;rw [pR];grind
 obtain ⟨e1,e2,a,b',c,d,e,f⟩:=all p mp;exact ⟨X,Y,e1,e2,a,b',c,d,e,f,by omega,by omega,all⟩
structure DK (p q:Q2) (P1 P2 d1 d2:Int):Prop where
 x:p.1*2=(P1:Rat)
 y:p.2*2=(P2:Rat)
 dx:q.1-p.1=(d1:Rat)
 dy:q.2-p.2=(d2:Rat)
 b1:d1.natAbs<=8
 b2:d2.natAbs<=8
 b3:P1.natAbs<=420
 b4:P2.natAbs<=420
theorem LB.egi {b:cR} (h:LB 400 b) {x:Pt×Pt} (mx:x∈zr b.o):∃P1 P2 d1 d2,DK (vq x.1) (vq x.2) P1 P2 d1 d2:=by
 obtain ⟨m1,m2⟩:=iM mx;obtain ⟨X,Y,c1,c2,a1,a2,a3,a4,a5,a6,a7,a8,all⟩:=h.ints m1;obtain ⟨e1,e2,b1,b2,b3,b4,b5,b6⟩:=all _ m2;refine ⟨X+2*c1,Y+2*c2,e1-c1,e2-c2,a1,a2,?_,?_,by omega,by omega,by omega,by omega⟩
 ·show val x.2.1-val x.1.1=_
  push_cast at a1 b1 ⊢;grind
 ·show val x.2.2-val x.1.2=_
  push_cast at a2 b2 ⊢;grind
theorem C7 {x:Q2} {D:Nat} (d0:0<D) (d1:D<=128) {m n:Int} (h1:x.1*(2*(D:Rat))=(m:Rat)) (h2:x.2*(2*(D:Rat))=(n:Rat)):Vd U0 x:=by
 obtain ⟨c,hc⟩:=Hw 128 D d0 d1;have e:(U0:Rat)=2*(D:Rat)*(c:Rat):=by unfold U0;rw [hc];push_cast;grind
 refine ⟨m*c,n*c,?_,?_⟩
 ·rw [e];push_cast;rw [<-h1];grind
 ·rw [e];push_cast;rw [<-h2];grind
theorem Vu {p q a b:Q2} {P1 P2 d1 d2 A1 A2 e1 e2:Int} (h:DK p q P1 P2 d1 d2) (k:DK a b A1 A2 e1 e2) {t:Rat} (n1:fE (a,b) p≠fE (a,b) q) (z:fE (a,b) (fV p q t)=0):Vd U0 (fV p q t):=by
 have f2:fE (a,b) p*2=((e1*(P2-A2)-e2*(P1-A1):Int):Rat):=by
  have:fE (a,b) p=(b.1-a.1)*(p.2-a.2)-(b.2-a.2)*(p.1-a.1):=rfl;rw [this,k.dx,k.dy];have:=h.x;have:=h.y;have:=k.x;have:=k.y
  push_cast
  grind
 have fd:fE (a,b) q-fE (a,b) p=((e1*d2-e2*d1:Int):Rat):=by
  have:fE (a,b) q-fE (a,b) p=(b.1-a.1)*(q.2-p.2)-(b.2-a.2)*(q.1-p.1):=by unfold fE crs aP aV;grind
  rw [this,k.dx,k.dy,h.dx,h.dy]
  push_cast;rfl
 rw [m9,fd] at z;have D0:e1*d2-e2*d1≠0:=λw=>by
  rw [w] at fd;exact n1 (by push_cast at fd;grind)
 have DB:(e1*d2-e2*d1).natAbs<=128:=by
  have k1:(e1*d2).natAbs<=8*8:=by rw [KG];exact KA k.b1 h.b2
  have k2:(e2*d1).natAbs<=8*8:=by rw [KG];exact KA k.b2 h.b1
  omega
 generalize e1*d2-e2*d1=D at *;generalize e1*(P2-A2)-e2*(P1-A1)=F at *;have key:(D:Rat)*t*2 = -(F:Rat):=by grind
 have hx:=h.x;have hy:=h.y;have hdx:=h.dx;have hdy:=h.dy;obtain ⟨s,hs,sD⟩:∃s:Int,(s=1\/s = -1)/\((D.natAbs:Int))=s*D:=by
  by_cases c:0<=D
  ·exact ⟨1,.inl rfl,by omega⟩
  ·exact ⟨-1,.inr rfl,by omega⟩
 have sD':((D.natAbs:Nat):Rat)=(s:Rat)*(D:Rat):=by exact_mod_cast sD
 refine C7 (D:=D.natAbs) (by omega) DB (m:=s*(P1*D-d1*F)) (n:=s*(P2*D-d2*F)) ?_ ?_
 ·show (p.1+(q.1-p.1)*t)*(2*_)=_;rw [sD',hdx];push_cast;rw [<-hx];grind
 ·show (p.2+(q.2-p.2)*t)*(2*_)=_;rw [sD',hdy];push_cast;rw [<-hy];grind
theorem pO {x:Q2} {m n:Int} (h1:x.1*2=(m:Rat)) (h2:x.2*2=(n:Rat)):Vd U0 x:=C7 (D:=1) (by decide) (by decide) (m:=m) (n:=n) (by push_cast;grind) (by push_cast;grind)
def L9 (P:Fr->Prop) (rows:List j3):Prop:=∀r∈rows,P r.1/\P r.2.1
theorem Bn {P:Fr->Prop} {rows:List j3} {lo hi:Fr} (h:L9 P rows) (hl:P lo) (hh:P hi):L9 P (bU rows lo hi):=λz mz=>by
 obtain ⟨r,mr,mz⟩:=KQ.mp mz;obtain ⟨h1,h2⟩:=h r mr;have a:P (bB r.1 lo):=by rcases Cg r.1 lo with e | e<;>rw [e]<;>assumption
 have b:P (aM r.2.1 hi):=by rcases Ex r.2.1 hi with e | e<;>rw [e]<;>assumption
 unfold sH at mz;split at mz
 ·rw [JB] at mz;subst mz;exact ⟨h1,h2⟩
 ·split at mz
  ·rw [JB] at mz;subst mz;exact ⟨h1,h2⟩
  ·rcases JJ.mp mz with mz | mz
   ·rcases JJ.mp mz with mz | mz
    ·split at mz
     ·rw [JB] at mz;subst mz;exact ⟨h1,a⟩
     ·simp at mz
    ·rw [JB] at mz;subst mz;exact ⟨a,b⟩
   ·split at mz
    ·rw [JB] at mz;subst mz;exact ⟨b,h2⟩
    ·simp at mz
theorem oT {P:Fr->Prop}:∀(os:List Ov) (rows rs:List j3),(∀r,some r∈os->P r.1/\P r.2.1)->L9 P rows->dZ os rows=some rs->L9 P rs
 | [],rows,rs,_,h,e=>by cases e;exact h
 | none::os,rows,rs,ho,h,e=>oT os rows rs (λr m=>ho r (by simp [m])) h e
 | some r::os,rows,rs,ho,h,e=>by
  unfold dZ at e;obtain ⟨a,b⟩:=ho r (by simp);split at e
  ·exact oT os rows rs (λr m=>ho r (by simp [m])) h e
  ·split at e
   ·cases e
   ·exact oT os _ rs (λr m=>ho r (by simp [m])) (Bn h a b) e
theorem Sd {P:Fr->Prop}:∀(ts:List (Fr×Fr)) (rows:List j3),(∀x∈ts,P x.1/\P x.2)->L9 P rows->L9 P (lM ts rows)
 | [],rows,_,h=>h
 | t::ts,rows,ht,h=>Sd ts _ (λx m=>ht x (by simp [m])) (Bn h (ht t (by simp)).1 (ht t (by simp)).2)
theorem S8 {P:Fr->Prop} {shs:List Sh} {p q:Pt} {tw:List Pr} (p0:P (0,1)) (p1:P (1,1)) (ho:∀r,some r∈(shs.map λs=>aU s (dI p q))->P r.1/\P r.2.1) (ht:∀x∈pP p q tw,P x.1/\P x.2):∀x∈dE shs p q tw,P x.1/\P x.2:=by
 have r0:L9 P lC:=λr m=>by
  have e:r=((0,1),(1,1),false):=by simpa [lC] using m
  subst e;exact ⟨p0,p1⟩
 unfold dE oB;cases g:dZ (shs.map λs=>aU s (dI p q)) lC with
 | none=>intro x m;simp at m
 | some rs=>
  intro x m;obtain ⟨r,mr,rfl⟩:=IP.mp m;exact Sd _ _ ht (oT _ _ _ ho r0 g) r (JV.mp mr).1
theorem Xf {shs:List Sh} {p q:Pt} {tw:List Pr} (hs:∀s∈shs,mW s) (en:tZ p q) (VZ:∀x∈tw,Pb x.1/\Pb x.2):∀x∈dE shs p q tw,0<=val x.1/\val x.1<val x.2/\val x.2<=1:=λx m=>by
 obtain ⟨_,sp⟩:=lR hs en VZ;obtain ⟨s1,_,s2⟩:=sp.all x m;refine ⟨s1,s2,Rat.not_lt.mp λq1=>?_⟩;obtain ⟨t,a,k,n⟩:=tU (mE (shs.map λs=>aU s (dI p q))++n9 (pP p q tw)) (l:=if val x.1<1 then 1 else val x.1) (h:=val x.2) (by split<;>grind);have a':val x.1<t/\1<=t:=by split at a<;>grind
 have:=(oC hs en VZ (λz=>n (JX _ z)) (λz=>n (JF _ z))).mp ⟨x,m,a'.1,k⟩;grind
theorem yM {bs:List cR} (hb:∀b∈bs,LB 400 b):Ny bs:=⟨λb m=>(hb b m).gb,λb m=>(hb b m).pb,λb m=>(hb b m).ok⟩
theorem Oo {bs:List cR} (hb:∀b∈bs,LB 400 b) {marks:Str} {e:EI} (m:e∈cC bs marks):∃P1 P2 d1 d2,DK (vq e.p) (vq e.q) P1 P2 d1 d2:=by
 obtain ⟨b,tm,hk,_,ee⟩:=oZ m;obtain ⟨p,q,h1,h2,h3⟩:=vP hk;obtain ⟨l1,l2,_⟩:=Fu (n:=e.n) h3;rw [<-ee] at l1 l2;rw [l1,l2];exact (hb b (JA tm)).egi (JA h3)
theorem Om {v:Rat} {m:Int} {N B:Nat} (h:v*(N:Rat)=(m:Rat)) (h1:-(B:Rat)<v) (h2:v<(B:Rat)):m.natAbs<=B*N:=by
 have n0:(0:Rat)<=(N:Rat):=by exact_mod_cast LM N
 have a1:=Rat.mul_nonneg (show 0<=(B:Rat)-v by grind) n0;have a2:=Rat.mul_nonneg (show 0<=v+(B:Rat) by grind) n0;have c1:(m:Rat)<=((B*N:Nat):Rat):=by push_cast;grind
 have c2:((-((B*N:Nat):Int):Int):Rat)<=(m:Rat):=by push_cast;grind
 have d1:m<=((B*N:Nat):Int):=by exact_mod_cast c1
 have d2:-((B*N:Nat):Int)<=m:=by exact_mod_cast c2
 omega
theorem tF {bs:List cR} (hb:∀b∈bs,LB 400 b) (marks:Str):Vc U0 (220*U0) (dS bs marks):=λr mr=>by
 have H:=yM hb;rw [oH] at mr;obtain ⟨x,mx,mr⟩:=KQ.mp mr;have me:=JA (KH.mp mx);have k:=gN H x.1 me;obtain ⟨P1,P2,d1,d2,eg⟩:=Oo hb me;unfold AZ cL at mr;obtain ⟨a,ma,rfl⟩:=IP.mp mr;have VF:∀e∈(cC bs marks).take x.2,O2 bs e:=λe m=>gN H e (LH m);have WI:∀s∈bs.map aW,mW s:=λs m=>by
  obtain ⟨g,mg,rfl⟩:=IP.mp m;exact jF (H.ok g mg)
 have twok:∀w∈Di ((cC bs marks).take x.2) x.1.l,Pb w.1/\Pb w.2:=λw m=>by
  obtain ⟨e,me,rfl⟩:=IP.mp m;have:=VF e (JV.mp me).1;exact ⟨this.hp,this.hq⟩
 have en:=sT k.hp k.hq k.ne;obtain ⟨f1,f2⟩:=oQ WI en twok a ma;obtain ⟨a0,a1,a2⟩:=Xf WI en twok a ma;have d0:=j8 k.hp.np k.hq.np k.ne;have ends:=S8 (P:=λt=>Vd U0 (fV (vq x.1.p) (vq x.1.q) (val t))) (shs:=bs.map aW) (p:=x.1.p) (q:=x.1.q) (tw:=Di ((cC bs marks).take x.2) x.1.l) (by
   rw [iD];refine pO (m:=P1) (n:=P2) ?_ ?_
   ·show (_+_*0)*2=_;rw [<-eg.x];grind
   ·show (_+_*0)*2=_;rw [<-eg.y];grind) (by
   rw [jQ];refine pO (m:=P1+2*d1) (n:=P2+2*d2) ?_ ?_
   ·show (_+_*1)*2=_;push_cast;rw [<-eg.x,<-eg.dx];grind
   ·show (_+_*1)*2=_;push_cast;rw [<-eg.y,<-eg.dy];grind) (λr m=>by
   rw [JG] at m;obtain ⟨g,mg,e⟩:=IP.mp m;have ov:=gV (H.gb g mg) k.hp.np.spt k.hq.np.spt d0 (show aU (aW g) (dI x.1.p x.1.q)=some r from e);have one:∀u∈fB g.o,∀t,fE u (vq x.1.p)≠fE u (vq x.1.q)->fE u (fV (vq x.1.p) (vq x.1.q) t)=0->Vd U0 (fV (vq x.1.p) (vq x.1.q) t):=λu mu t ne z=>by
    obtain ⟨y,my,rfl⟩:=IP.mp mu;obtain ⟨A1,A2,e1,e2,ey⟩:=(hb g mg).egi my;exact Vu eg ey ne z
   refine ⟨?_,?_⟩
   ·rcases ov.lo with q | ⟨_,u,mu,z1,z2,z3⟩
    ·show Vd U0 (fV _ _ (val r.1));rw [q,iD];refine pO (m:=P1) (n:=P2) ?_ ?_
     ·show (_+_*0)*2=_;rw [<-eg.x];grind
     ·show (_+_*0)*2=_;rw [<-eg.y];grind
    ·exact one u mu _ (by grind) z3
   ·rcases ov.hi with q | ⟨_,u,mu,z1,z2,z3⟩
    ·show Vd U0 (fV _ _ (val r.2.1));rw [q,jQ];refine pO (m:=P1+2*d1) (n:=P2+2*d2) ?_ ?_
     ·show (_+_*1)*2=_;push_cast;rw [<-eg.x,<-eg.dx];grind
     ·show (_+_*1)*2=_;push_cast;rw [<-eg.y,<-eg.dy];grind
    ·exact one u mu _ (by grind) z3) (λw mw=>by
   obtain ⟨y,my,rfl⟩:=IP.mp mw;obtain ⟨u,mu,rfl⟩:=IP.mp my;obtain ⟨mu,hl⟩:=JV.mp mu;have fw:=LH mu;have ku:=VF u mu;obtain ⟨A1,A2,e1,e2,eu⟩:=Oo hb fw;have hl:u.l=x.1.l:=by simpa using hl
   rw [ku.l,k.l] at hl;obtain ⟨z1,z2,_⟩:=(j7 ku.hp ku.hq k.hp k.hq ku.ne k.ne).mp hl;obtain ⟨y1,y2,_⟩:=zN (j8 ku.hp.np ku.hq.np ku.ne) z1 z2;have s1:=kC k.hp.np k.hq.np ku.hp.np k.ne y1;have s2:=kC k.hp.np k.hq.np ku.hq.np k.ne y2;refine ⟨?_,?_⟩
   ·show Vd U0 (fV _ _ (val (bX x.1.p x.1.q u.p)));rw [<-s1];exact pO eu.x eu.y
   ·show Vd U0 (fV _ _ (val (bX x.1.p x.1.q u.q)));rw [<-s2];exact pO (m:=A1+2*e1) (n:=A2+2*e2) (by push_cast;rw [<-eu.x,<-eu.dx];grind) (by push_cast;rw [<-eu.y,<-eu.dy];grind)) a ma
 have fin:∀t:Fr,F2 t->0<=val t->val t<=1->Vd U0 (fV (vq x.1.p) (vq x.1.q) (val t))->tJ U0 (220*U0) (iO x.1.p x.1.q (low t.1 t.2)):=λt ft t0 t1 ⟨m,n,e1,e2⟩=>by
  obtain ⟨n1,v1⟩:=sS ft;obtain ⟨np,vv⟩:=Bf k.hp.np k.hq.np n1;rw [v1] at vv;have w1:val (iO x.1.p x.1.q (low t.1 t.2)).1=(fV (vq x.1.p) (vq x.1.q) (val t)).1:=congrArg Prod.fst vv;have w2:val (iO x.1.p x.1.q (low t.1 t.2)).2=(fV (vq x.1.p) (vq x.1.q) (val t)).2:=congrArg Prod.snd vv;have bd:∀(p q:Rat) (P d:Int),p*2=(P:Rat)->q-p=(d:Rat)->P.natAbs<=420->d.natAbs<=8->-((220:Nat):Rat)<p+(q-p)*val t/\p+(q-p)*val t<((220:Nat):Rat):=λp q P d e1 e2 b1 b2=>by
   have c1:(P:Rat)<=((420:Int):Rat):=by exact_mod_cast (show P<=420 by omega)
   have c2:((-420:Int):Rat)<=(P:Rat):=by exact_mod_cast (show -420<=P by omega)
   have c3:(d:Rat)<=((8:Int):Rat):=by exact_mod_cast (show d<=8 by omega)
   have c4:((-8:Int):Rat)<=(d:Rat):=by exact_mod_cast (show -8<=d by omega)
   push_cast at *
   exact ⟨Iy (by grind) (by grind) t0 t1,Oh (by grind) (by grind) t0 t1⟩
  have b1:=bd _ _ _ _ eg.x eg.dx eg.b3 eg.b1;have b2:=bd _ _ _ _ eg.y eg.dy eg.b4 eg.b2;exact ⟨m,n,⟨np.x,by rw [w1];exact e1⟩,⟨np.y,by rw [w2];exact e2⟩,Om e1 b1.1 b1.2,Om e2 b2.1 b2.2⟩
 exact ⟨fin _ f1 a0 (by grind) ends.1,fin _ f2 (by grind) a2 ends.2⟩
end
end My
namespace My
open PySem L2 PyProof.Rows
section
variable {P:QJ} {w:QM} {K:W.Frag} {mg:Str->Option Value} {base:Heap}
def uT (w:Nat) (v:Pt) (s:Fr) (u:Pt) (p:Pt):Pt:=match w with
 | 0=>(hV p.1 v.1,hV p.2 v.2)
 | 1=>(eO p.1 s,eO p.2 s)
 | _=>(hV (eO p.1 u.1) (eO (jJ p.2) u.2),hV (eO p.2 u.1) (eO p.1 u.2))
def cH (w:Nat) (v:Pt) (s:Fr) (u:Pt) (x:Q2):Q2:=match w with
 | 0=>(x.1+val v.1,x.2+val v.2)
 | 1=>(x.1*val s,x.2*val s)
 | _=>(x.1*val u.1 + -x.2*val u.2,x.2*val u.1+x.1*val u.2)
def pB (w:Nat) (s:Fr):Rat:=match w with
 | 1=>val s*val s
 | _=>1
structure uR (v:Pt) (s:Fr) (u:Pt):Prop where
 vU:tJ 7 200 v
 sN:dY s
 s1:1<=s.1
 s2:s.1<=20
 s3:s.2<=9
 uU:tJ 65 65 u
 q:val u.1*val u.1+val u.2*val u.2=1
theorem uR.s0 {v:Pt} {s:Fr} {u:Pt} (h:uR v s u):0<val s:=(Rv h.sN).mpr (by have:=h.s1;omega)
theorem qF {x:Fr} (h:dY x):dY (jJ x)/\val (jJ x) = -val x:=⟨xY h,Jc h⟩
theorem Jr {v:Pt} {s:Fr} {u:Pt} (h:uR v s u) (w:Nat):zJ (uT w v s u) (cH w v s u) (pB w s):=by
 have s0:=h.s0;have q:=h.q;have vn:=h.vU.np;have un:=h.uU.np;have sn:=h.sN
 match w with
 | 0=>
  refine ⟨λp hp=>⟨iW hp.x vn.x,iW hp.y vn.y⟩,λp hp=>?_,Ks,λp q t=>?_,λp q x=>?_,λp q r t=>?_⟩
  ·show (val (hV p.1 v.1),val (hV p.2 v.2))=_;rw [iX hp.x vn.x,iX hp.y vn.y];rfl
  ·unfold cH fV;exact Prod.ext (by simp only;grind) (by simp only;grind)
  ·show fE (cH 0 v s u p,cH 0 v s u q) (cH 0 v s u x)=1*_;unfold fE crs aP aV cH;grind
  ·show aT (aV (cH 0 v s u q) (cH 0 v s u p)) (aV (cH 0 v s u t) (cH 0 v s u r))=1*_;unfold aT aV cH;grind
 | 1=>
  refine ⟨λp hp=>⟨bM hp.x sn,bM hp.y sn⟩,λp hp=>?_,Rat.mul_pos s0 s0,λp q t=>?_,λp q x=>?_,λp q r t=>?_⟩
  ·show (val (eO p.1 s),val (eO p.2 s))=_;rw [dQ hp.x sn,dQ hp.y sn];rfl
  ·unfold cH fV;exact Prod.ext (by simp only;grind) (by simp only;grind)
  ·show fE (cH 1 v s u p,cH 1 v s u q) (cH 1 v s u x)=val s*val s*_;unfold fE crs aP aV cH;grind
  ·show aT (aV (cH 1 v s u q) (cH 1 v s u p)) (aV (cH 1 v s u t) (cH 1 v s u r))=val s*val s*_;unfold aT aV cH;grind
 | w+2=>
  refine ⟨λp hp=>⟨iW (bM hp.x un.x) (bM (qF hp.y).1 un.y),iW (bM hp.y un.x) (bM hp.x un.y)⟩,λp hp=>?_,Ks,λp q' t=>?_,λp q' x=>?_,λp q' r t=>?_⟩
  ·have ny:=(qF hp.y).1;show (val (hV (eO p.1 u.1) (eO (jJ p.2) u.2)),val (hV (eO p.2 u.1) (eO p.1 u.2)))=(val p.1*val u.1 + -val p.2*val u.2,val p.2*val u.1+val p.1*val u.2);rw [iX (bM hp.x un.x) (bM ny un.y),iX (bM hp.y un.x) (bM hp.x un.y),dQ hp.x un.x,dQ ny un.y,dQ hp.y un.x,dQ hp.x un.y,(qF hp.y).2]
  ·unfold cH fV;exact Prod.ext (by simp only;grind) (by simp only;grind)
  ·show fE (cH (w+2) v s u p,cH (w+2) v s u q') (cH (w+2) v s u x)=1*_;have:fE (cH (w+2) v s u p,cH (w+2) v s u q') (cH (w+2) v s u x)=(val u.1*val u.1+val u.2*val u.2)*fE (p,q') x:=by unfold fE crs aP aV cH;grind
   rw [this,q]
  ·show aT (aV (cH (w+2) v s u q') (cH (w+2) v s u p)) (aV (cH (w+2) v s u t) (cH (w+2) v s u r))=1*_;have:aT (aV (cH (w+2) v s u q') (cH (w+2) v s u p)) (aV (cH (w+2) v s u t) (cH (w+2) v s u r))=(val u.1*val u.1+val u.2*val u.2)*aT (aV q' p) (aV t r):=by unfold aT aV cH;grind
   rw [this,q]
theorem MU.up {N:Nat} {f:Fr} {m:Int} (h:MU N f m) (c:Nat):MU (N*c) f (m*(c:Int)):=⟨h.n,by push_cast;have:=h.e;grind⟩
theorem MU.ng {N:Nat} {f:Fr} {m:Int} (h:MU N f m):MU N (jJ f) (-m):=⟨(qF h.n).1,by rw [(qF h.n).2];push_cast;have:=h.e;grind⟩
theorem Rn {v:Pt} {s:Fr} {u:Pt} (h:uR v s u) (w N B:Nat) (n0:0<N):∃M,0<M/\M<=N*65/\∀p,tJ N B p->tJ M (B*130+200*N) (uT w v s u p):=by
 match w with
 | 0=>
  refine ⟨N*7,by omega,by omega,λp ⟨m,n,a,b,c,d⟩=>?_⟩;obtain ⟨i,j,e,f,g,k⟩:=h.vU;have e':=e.up N;have f':=f.up N;rw [PF] at e' f';refine ⟨_,_,(a.up 7).add e',(b.up 7).add f',?_,?_⟩
  ·have k1:(i*(N:Int)).natAbs<=200*N:=by rw [KG,NF];exact KA g (IW _)
   omega
  ·have k1:(j*(N:Int)).natAbs<=200*N:=by rw [KG,NF];exact KA k (IW _)
   omega
 | 1=>
  have d1:=h.sN.d;have d2:=h.s3;have s1:=h.s1;have s2:=h.s2;obtain ⟨c,hc⟩:∃c:Nat,s.2=(c:Int):=⟨s.2.toNat,by omega⟩;have ms:MU c s s.1:=⟨h.sN,by
   unfold val;rw [hc];have:((c:Int):Rat)≠0:=by exact_mod_cast (show c≠0 by omega)
   have e:((c:Nat):Rat)=((c:Int):Rat):=by push_cast;rfl
   rw [e,Rat.div_def];grind⟩
  refine ⟨N*c,PV n0 (by omega),KA (IW _) (by omega),λp ⟨m,n,a,b,c',d⟩=>?_⟩;have sb:s.1.natAbs<=20:=by omega
  refine ⟨_,_,a.mul ms,b.mul ms,?_,?_⟩
  ·rw [KG];have:=KA c' sb;omega
  ·rw [KG];have:=KA d sb;omega
 | w+2=>
  refine ⟨N*65,by omega,by omega,λp ⟨m,n,a,b,c,d⟩=>?_⟩;obtain ⟨i,j,e,f,g,k⟩:=h.uU;refine ⟨_,_,(a.mul e).add (b.ng.mul f),(b.mul e).add (a.mul f),?_,?_⟩
  ·have k1:(m*i).natAbs<=B*65:=by rw [KG];exact KA c g
   have k2:(-n*j).natAbs<=B*65:=by rw [KG,MJ];exact KA d k
   omega
  ·have k1:(n*i).natAbs<=B*65:=by rw [KG];exact KA d g
   have k2:(m*j).natAbs<=B*65:=by rw [KG];exact KA c k
   omega
theorem LB.ptu {b:cR} (h:LB 400 b) {p:Pt} (mp:p∈b.o):tJ 2 420 p:=by
 obtain ⟨X,Y,c1,c2,a1,a2,a3,a4,a5,a6,a7,a8,_⟩:=h.ints mp;have np:=(h.pb p mp).np;exact ⟨X+2*c1,Y+2*c2,⟨np.x,a1⟩,⟨np.y,a2⟩,by omega,by omega⟩
theorem Tr {M:Nat} {p:Pt} (m0:0<M) (hM:M<=130) (h:tJ M (420*130+200*2) p):Pb p:=⟨h.nv m0 (JO hM (by decide)) (by decide) (by decide)⟩
theorem Yh {bs:List cR} (hb:∀b∈bs,LB 400 b) {v:Pt} {s:Fr} {u:Pt} (h:uR v s u) (w:Nat):Ck bs (uT w v s u) (cH w v s u) (pB w s):=by
 obtain ⟨M,m0,hM,hU⟩:=Rn h w 2 420 (by decide);exact ⟨Jr h w,yM hb,λb m=>by have:=(hb b m).len;omega,λb m p mp=>Tr m0 (by omega) (hU p ((hb b m).ptu mp))⟩
def M0:Str:="lrbe-"
theorem zF {bs:List cR} (hb:∀b∈bs,LB 400 b):yG bs M0:=λb mb k hk=>by
 have hm:=(hb b mb).m;have hk':k<b.m.cps.toList.length:=by have:=hm.len;simpa using (show k<b.m.cps.size by omega)
 have e:Hn b.m k=b.m.cps.toList[k]:=by unfold Hn;rw [JM,IQ hk'];rfl
 have m1:=hm.all _ (LN hk');rw [<-e] at m1;have key:∀c∈("lrbe-":Str).cps.toList,Wd M0 c=true:=by decide +kernel
 exact key _ m1
theorem Yp {bs:List cR} {f:Pt->Pt} {marks:Str} (h:yG bs marks):yG (bs.map (iK f)) marks:=λb mb k hk=>by
 obtain ⟨g,mg,rfl⟩:=IP.mp mb;exact h g mg k (by simpa [iK] using hk)
theorem Yo {bs:List cR} (hl:bs.length<=5) (hb:∀b∈bs,LB 400 b) (marks:Str):Mf bs marks:=by
 have WI:∀s∈bs.map aW,mW s:=λs m=>by
  obtain ⟨g,mg,rfl⟩:=IP.mp m;exact jF (hb g mg).ok
 have en:∀e∈cC bs marks,tZ e.p e.q:=λe m=>by
  have k:=gN (yM hb) e m;exact sT k.hp k.hq k.ne
 have l1:=Sa WI (cC bs marks) [] 0 en (λ_ m=>absurd m (by simp)) (λ_=>IW _);have l2:=uD (marks:=marks) λb m=>(hb b m).len.2;have l3:(dS bs marks).length<=900:=by
  unfold dS;rw [IS] at l1;have:(cC bs marks).length*(2*(1+bs.length+0)+(cC bs marks).length)<=30*42:=KA (by omega) (by omega);omega
 exact ⟨by omega,λb m=>(hb b m).ok,λb m=>⟨(hb b m).len.2,(hb b m).m.len⟩,en,l3⟩
theorem Ck.rimG {f:Pt->Pt} {T:Q2->Q2} {k:Rat} {bs:List cR} (h:Ck bs f T k) {marks:Str} (g:Mf bs marks):Mf (bs.map (iK f)) marks:=by
 refine ⟨by rw [IS];exact g.len,h.H'.ok,λb m=>?_,λe m=>?_,by rw [h.rim,IS];exact g.rows⟩
 ·obtain ⟨c,mc,rfl⟩:=IP.mp m;obtain ⟨a,b⟩:=g.six c mc;exact ⟨by show (c.o.map f).length<=6;rw [IS];exact a,by show c.m.cps.size=(c.o.map f).length;rw [IS];exact b⟩
 ·have k:=gN h.H' e m;exact sT k.hp k.hq k.ne
theorem Tj {bs:List cR} (hb:∀b∈bs,LB 400 b) {v:Pt} {s:Fr} {u:Pt} (h:uR v s u) (w:Nat) (marks:Str):∃M,0<M/\M<2^1840/\220*U0*130+200*U0<2^1840/\Vc M (220*U0*130+200*U0) ((dS bs marks).map (Oa (uT w v s u))):=by
 obtain ⟨M,m0,hM,hU⟩:=Rn h w U0 (220*U0) yV;have big:2^720*30000<2^1840:=by decide +kernel
 have u:=Uz;refine ⟨M,m0,by omega,by omega,λr mr=>?_⟩;obtain ⟨q,mq,rfl⟩:=IP.mp mr;obtain ⟨a,b⟩:=tF hb marks q mq;exact ⟨hU _ a,hU _ b⟩
theorem lL {α:Type} (f g:α->Rat):∀L:List α,kW (L.map λx=>f x+g x)=kW (L.map f)+kW (L.map g)
 | []=>by show (0:Rat)=0+0;grind
 | x::L=>by show f x+g x+kW _=f x+kW _+(g x+kW _);rw [lL f g L];grind
theorem jA {α:Type} (f:α->Rat) (c:Rat):∀L:List α,kW (L.map λx=>c*f x)=c*kW (L.map f)
 | []=>by show (0:Rat)=c*0;grind
 | x::L=>by show c*f x+kW _=c*(f x+kW _);rw [jA f c L];grind
theorem Qd {bs:List cR} (hb:∀b∈bs,LB 400 b) {v:Pt} {s:Fr} {u:Pt} (h:uR v s u) (w:Nat):kW (((dS bs M0).map (Oa (uT w v s u))).map λr=>Dh (pY r))=pB w s*kW ((dS bs M0).map λr=>Dh (pY r)):=by
 have H:=yM hb;have S:=Jr h w;have np:∀r∈dS bs M0,NP r.2.2.1/\NP r.2.2.2:=λr m=>⟨(tF hb M0 r m).1.np,(tF hb M0 r m).2.np⟩;rw [JG];have e1:∀r∈dS bs M0,((λr=>Dh (pY r))∘Oa (uT w v s u)) r=crs (cH w v s u (vq r.2.2.1)) (cH w v s u (vq r.2.2.2)):=λr m=>by
  show crs (vq (uT w v s u r.2.2.1)) (vq (uT w v s u r.2.2.2))=_;rw [S.v _ (np r m).1,S.v _ (np r m).2]
 rw [JQ e1];have q:=h.q
 match w with
 | 0=>
  have e2:∀r∈dS bs M0,crs (cH 0 v s u (vq r.2.2.1)) (cH 0 v s u (vq r.2.2.2))=Dh (pY r)+(val v.1*((vq r.2.2.2).2 + -(vq r.2.2.1).2) + -val v.2*((vq r.2.2.2).1 + -(vq r.2.2.1).1)):=λr _=>by unfold Dh pY crs cH;grind
  rw [JQ e2,lL,lL,jA,jA,lL,lL];have n1:=jA (λr:pJ=>(vq r.2.2.1).2) (-1) (dS bs M0);have n2:=jA (λr:pJ=>(vq r.2.2.1).1) (-1) (dS bs M0);have f1:(λr:pJ=>-(vq r.2.2.1).2)=λr:pJ=>-1*(vq r.2.2.1).2:=by funext r;grind
  have f2:(λr:pJ=>-(vq r.2.2.1).1)=λr:pJ=>-1*(vq r.2.2.1).1:=by funext r;grind
  rw [f1,f2,n1,n2];have b1:=wU (Jm H (zF hb) (d:=(0,1)) (by unfold aT;grind));have b2:=wU (Jm H (zF hb) (d:=(-1,0)) (by unfold aT;grind));have g1:(λr:pJ=>ht (0,1) (vq r.2.2.1))=λr:pJ=>(vq r.2.2.1).1:=by funext r;unfold ht crs;grind
  have g2:(λr:pJ=>ht (0,1) (vq r.2.2.2))=λr:pJ=>(vq r.2.2.2).1:=by funext r;unfold ht crs;grind
  have g3:(λr:pJ=>ht (-1,0) (vq r.2.2.1))=λr:pJ=>(vq r.2.2.1).2:=by funext r;unfold ht crs;grind
  have g4:(λr:pJ=>ht (-1,0) (vq r.2.2.2))=λr:pJ=>(vq r.2.2.2).2:=by funext r;unfold ht crs;grind
  rw [g1,g2] at b1;rw [g3,g4] at b2;rw [b1,b2];show _=1*_;grind
 | 1=>
  have e2:∀r∈dS bs M0,crs (cH 1 v s u (vq r.2.2.1)) (cH 1 v s u (vq r.2.2.2))=val s*val s*Dh (pY r):=λr _=>by unfold Dh pY crs cH;grind
  rw [JQ e2,jA];rfl
 | w+2=>
  have e2:∀r∈dS bs M0,crs (cH (w+2) v s u (vq r.2.2.1)) (cH (w+2) v s u (vq r.2.2.2))=1*Dh (pY r):=λr _=>by
   have:crs (cH (w+2) v s u (vq r.2.2.1)) (cH (w+2) v s u (vq r.2.2.2))=(val u.1*val u.1+val u.2*val u.2)*Dh (pY r):=by unfold Dh pY crs cH;grind
   rw [this,q]
  rw [JQ e2,jA];rfl
end
end My
namespace My
open PySem L2 PyProof.Rows
section
variable {P:QJ} {w:QM} {K:W.Frag} {mg:Str->Option Value} {base:Heap}
def GU (u:Pt):Prop:=tJ 65 65 u/\val u.1*val u.1+val u.2*val u.2=1
theorem Be {a b c d:Int} (h1:dY (a,b)) (h2:dY (c,d)) {m n:Int} (e1:m*b=a*65) (e2:n*d=c*65) (b1:m.natAbs<=65) (b2:n.natAbs<=65) (q:m*m+n*n=65*65):GU ((a,b),(c,d)):=by
 have key:∀{a b m:Int},dY (a,b)->m*b=a*65->val (a,b)*(65:Rat)=(m:Rat):=λ{a b m} h e=>by
  have d0:(b:Rat)≠0:=by have:1<=b:=h.d;exact_mod_cast (show b≠0 by omega)
  have e':(m:Rat)*(b:Rat)=(a:Rat)*65:=by exact_mod_cast e
  show (a:Rat)/(b:Rat)*65=m;rw [Rat.div_def];grind
 have k1:=key h1 e1;have k2:=key h2 e2;refine ⟨⟨m,n,⟨h1,by push_cast;exact k1⟩,⟨h2,by push_cast;exact k2⟩,b1,b2⟩,?_⟩;have q':(m:Rat)*(m:Rat)+(n:Rat)*(n:Rat)=65*65:=by exact_mod_cast q
 rw [<-k1,<-k2] at q';simp only;grind
theorem Yz {u:Pt} (h:GU u):GU (jJ u.2,u.1):=by
 obtain ⟨⟨m,n,a,b,c,d⟩,q⟩:=h;refine ⟨⟨-n,m,b.ng,a,by omega,c⟩,?_⟩;show val (jJ u.2)*val (jJ u.2)+val u.1*val u.1=1;rw [(qF b.n).2];grind
def vF:List Pt:=[((1,1),(0,1)),((4,5),(3,5)),((3,5),(4,5)),((12,13),(5,13)),((5,13),(12,13))]
theorem Xy:∀u∈vF,GU u:=by
 intro u m;have nn:∀{a b:Int},(decide (1<=b)&&decide (KC a.natAbs b.natAbs=1))=true->dY (a,b):=λh=>by
  rw [JY,decide_eq_true_eq,decide_eq_true_eq] at h;exact ⟨h.1,h.2⟩
 simp only [vF,IU,MB,or_false] at m;rcases m with rfl | rfl | rfl | rfl | rfl
 ·exact Be (nn rfl) (nn rfl) (m:=65) (n:=0) (by decide) (by decide) (by decide) (by decide) (by decide)
 ·exact Be (nn rfl) (nn rfl) (m:=52) (n:=39) (by decide) (by decide) (by decide) (by decide) (by decide)
 ·exact Be (nn rfl) (nn rfl) (m:=39) (n:=52) (by decide) (by decide) (by decide) (by decide) (by decide)
 ·exact Be (nn rfl) (nn rfl) (m:=60) (n:=25) (by decide) (by decide) (by decide) (by decide) (by decide)
 ·exact Be (nn rfl) (nn rfl) (m:=25) (n:=60) (by decide) (by decide) (by decide) (by decide) (by decide)
def Ij:iN:=λas Q=>∃k:Int,as=[.v (.int k)]/\0<=k/\k<20/\∀u:Pt,GU u->Q (.v (pt u)) []
abbrev qQ (P w K mg base):=Fn P w K mg base 2 "_law_unit_at" ["_law_k"] (aX K Ij)
abbrev nG:QU:=top 61
theorem iA:aO ["_law_k","_law_some","_law_found","_law_turn"] ["_law_k"] (aF nG):=g8
theorem Bo {f:QF} {fd:QK} (F:eT K "_law_unit_at" "_law_unit_at" nG f fd) (TX:Txt mg) (UW:lX P w K mg base)   : bJ P w K mg base fF 2 f fd ["_law_k"] (aX K Ij):=by
 refine F.okT iA ?len (λTQ A outer s H E hr=>(aE (bD (i:=1) iA.nd rfl (IV rfl) (d8 (fc (aL (fc (aL (fc aB (fc aB aA))) (fc (aL (fc aB (fc aB aA))) aA))) (fc (aL (fc (aL (fc aB (fc aB aA))) (fc (aL (fc aB (fc aB aA))) aA))) (fc (aL (fc (aL (fc aB (fc aB aA))) (fc (aL (fc aB (fc aB aA))) aA))) (fc (aL (fc (aL (fc aB (fc aB aA))) (fc (aL (fc aB (fc aB aA))) aA))) (fc (aL (fc (aL (fc aB (fc aB aA))) (fc (aL (fc aB (fc aB aA))) aA))) aA)))))))
 (aE (bD (i:=2) iA.nd rfl (IV rfl) (aH rfl (fv 1) (aN jE (fv 0) aB) (λ_ _=>rfl)))
 (aE (gY PassesOwn.never rfl (fU rfl TX.n_range (fc (aN jE (aN cZ (fv 0) aB) aB) aA)) (aI (i:=3) iA.nd rfl (IV rfl))
  (aK (bD (i:=2) iA.nd rfl (IV rfl) (aC UW hr (by omega) rfl (fc (fv 2) aA)))))
 (aK (aR (fv 2))))))) ?rd
 case len=>rintro as Q ⟨k,rfl,_⟩;rfl
 case rd=>
  rintro as Q ⟨k,rfl,k0,k1,q⟩;have m5:0<=k%5/\k%5<5:=by omega
  obtain ⟨i,hi,ei⟩:∃i:Nat,i<vF.length/\k%5=(i:Int):=⟨(k%5).toNat,by show _<5;omega,by omega⟩;refine ⟨(by show (0:Int)<5;decide),?_⟩;show o1 (lE (vF.map pt) (k%5)) _;rw [ei,lN (IQ hi)];have g0:=Xy _ (LN hi);generalize vF[i]=u0 at g0;have d5:oF k 5:=⟨by decide,JH (show (5:Int).natAbs<2^7 by decide) (LJ (by decide) (by decide))⟩;refine ⟨d5,(by show (0:Int)<4;decide),?_⟩;have m4:0<=k.fdiv 5%4/\k.fdiv 5%4<4:=by omega
  refine ⟨⟨by show -(2^62:Int)<=k.fdiv 5%4;omega,by show k.fdiv 5%4<2^62;omega⟩,?_⟩;show rC _ (fA _ _ _ (mI 0 (k.fdiv 5%4).toNat));refine iZ (λj E=>∃(u:Pt) (v3:Option U),E=[some (.p (.int k)),some (.o false (vF.map pt)),some (.p (pt u)),v3]/\GU u) ⟨u0,_,rfl,g0⟩ ?_ ?_
  ·rintro j t rest E hj ⟨u,v3,rfl,gu⟩ K;obtain ⟨jd,rfl⟩:=nR hj;refine ⟨u.1,u.2,rfl,K _ ⟨(jJ u.2,u.1),_,rfl,Yz gu⟩⟩
  ·rintro E ⟨u,v3,rfl,gu⟩;exact ⟨rfl,q u gu⟩
def BF:iN:=λas Q=>∃(w:Nat) (p v:Pt) (s:Fr) (u:Pt),as=[.v (.int ((0:Int)+(w:Int))),.v (pt p),.v (pt v),.v (fr s),.v (pt u)]/\w<3/\Nv p.1 p.2 1000/\uR v s u/\Q (.v (pt (uT w v s u p))) []
abbrev Km (P w K mg base):=Fn P w K mg base 4 "_law_put" ["_law_way","_law_spot","_law_vector","_law_share","_law_unit"] (aX K BF)
abbrev Fz:QU:=top 62
theorem Ym:aO ["_law_way","_law_spot","_law_vector","_law_share","_law_unit"] ["_law_way","_law_spot","_law_vector","_law_share","_law_unit"] (aF Fz):=g8
theorem Xi {f:QF} {fd:QK} (F:eT K "_law_put" "_law_put" Fz f fd) (TX:Txt mg) (VA:sF P w K mg base) (UA:jZ P w K mg base) (UW:lX P w K mg base)   : bJ P w K mg base fF 4 f fd ["_law_way","_law_spot","_law_vector","_law_share","_law_unit"] (aX K BF):=by
 refine F.okT Ym ?len (λTQ A outer s H E hr=>(aE (e9 (vY rfl hr (fv 0) aB (bE _)) (aK (aR (aC VA hr (by omega) rfl (fc (fv 1) (fc (fv 2) aA))))) dH)
 (aE (e9 (vY rfl hr (fv 0) aB (bE _)) (aK (aR (aC UA hr (by omega) rfl (fc (fv 1) (fc (fv 3) aA))))) dH)
 (aK (aR (aC VA hr (by omega) rfl (fc (aC UA hr (by omega) rfl (fc (fv 1) (fc (aH rfl (fv 4) aB (λ_ _=>rfl)) aA))) (fc (aC UA hr (by omega) rfl (fc (aC UW hr (by omega) rfl (fc (fv 1) aA)) (fc (aH rfl (fv 4) aB (λ_ _=>rfl)) aA))) aA)))))))) ?rd
 case len=>rintro as Q ⟨w,p,v,s,u,rfl,_⟩;rfl
 case rd=>
  rintro as Q ⟨w,p,v,s,u,rfl,hw,hp,h,q⟩;have vn:=h.vU.nv (e:=10) (by decide) (by decide) (by decide) (by decide);have un:=h.uU.nv (e:=10) (by decide) (by decide) (by decide) (by decide);have ss:sz s<=6:=oE (by have:=h.s1;have:=h.s2;omega) (by have:=h.sN.d;have:=h.s3;omega) (by decide);have:w=0\/w=1\/w=2:=by omega
  rcases this with rfl | rfl | rfl
  ·refine ⟨iC rfl,?_⟩;exact ⟨_,_,_,_,_,_,rfl,hp,vn,by decide,rfl,q⟩
  ·refine ⟨iC rfl,iC rfl,?_⟩;exact ⟨_,_,_,_,rfl,hp,h.sN,by omega,rfl,q⟩
  ·refine ⟨iC rfl,iC rfl,?_⟩;have np:=hp.x;have nq:=hp.y;have a1:=un.sx;have a2:=un.sy;have l1:=Dy hp un.x;have hq:Nv (jJ p.2) p.1 1000:=⟨xY nq,np,by have:=hp.sy;rw [S5];exact this,hp.sx⟩;have l2:=Dy hq un.y;exact ⟨_,_,_,_,rfl,hp,un.x,by omega,_,_,rfl,_,_,_,_,rfl,hq,un.y,by omega,_,_,_,_,_,_,rfl,l1,l2,by omega,rfl,q⟩
end
end My
namespace My
open PySem L2 PyProof.Rows
section
variable {P:QJ} {w:QM} {K:W.Frag} {mg:Str->Option Value} {base:Heap}
structure II where
 told:U
 oth:Option U
 due:Option U
 a:Option U
 b:Option U
 c:Option U
 d:Option U
 e:Option U
def Us:iN:=λas Q=>∃(bs:List cR) (sp:List Pt) (v:Pt) (s:Fr) (u:Pt),as=[.v (.lst (bs.map eL)),.v (.lst (sp.map pt)),.v (pt v),.v (fr s),.v (pt u)]/\bs.length<=5/\(∀b∈bs,LB 400 b)/\sp.length<=10/\(∀p∈sp,tJ 2 420 p)/\uR v s u/\Q (.v (.bl true)) []
theorem Xr (j:Nat):iG (.int ((0:Int)+(j:Int))) (.int 1)=decide (j=1):=by
 rw [MG];simp only [L2.iG,beq_iff_eq,decide_eq_true_eq];omega
theorem Ph {α:Type} {f g:α->Bool} {xs:List α} (h:∀x∈xs,f x=g x):iG (.lst (xs.map λx=>L2.T.bl (f x))) (.lst (xs.map λx=>L2.T.bl (g x)))=true:=by
 have:xs.map (λx=>L2.T.bl (f x))=xs.map λx=>L2.T.bl (g x):=JQ λx m=>by rw [h x m]
 rw [this];exact jB _
theorem Za (rs:List pJ):L2.dT (.lst (rs.map rN))<=60:=by
 have:=mN (f:=rN) (n:=3) (λ_=>iC rfl) rs;show L2.Jw (rs.map rN)+1<=60;omega
theorem Iz:U0<2^1840/\220*U0<2^1840:=by
 have u:=Uz;have big:2^720*220<2^1840:=by decide +kernel
 omega
abbrev vH (P w K mg base):=Fn P w K mg base 8 "_law_right" ["_law_some","_law_spots","_law_vector","_law_share","_law_unit"] (aX K Us)
abbrev tI:QU:=top 63
theorem dX:aO ["_law_some","_law_spots","_law_vector","_law_share","_law_unit","_law_way","_law_told","_law_size","_law_there","_law_other","_law_due","_law_word","_law_number","_law_corners_of","_law_marks","_law_spots_of"] ["_law_some","_law_spots","_law_vector","_law_share","_law_unit"] (aF tI):=g8
theorem Nj {f:QF} {fd:QK} (F:eT K "_law_right" "_law_right" tI f fd) (TX:Txt mg) (YJ:Uh P w K mg base) (VV:sR P w K mg base) (WL:Ao P w K mg base) (WU:Km P w K mg base) (UL:lP P w K mg base)   : bJ P w K mg base fF 8 f fd ["_law_some","_law_spots","_law_vector","_law_share","_law_unit"] (aX K Us):=by
 refine F.okT dX ?len (λTQ A outer s H E hr=>(aE (Sv (i:=6) (j:=7) (k:=8) rfl dX.nd rfl rfl rfl (by decide) (by decide) (by decide) rfl rfl rfl (fc (aC YJ hr (by omega) rfl (fc (fv 0) (fc iH aA))) (fc (aC VV hr (by omega) rfl (fc (fv 0) aA)) (fc (dG (N':=["_law_spot","_law_some"]) (t:=1) (cap:=[(0,false)]) rfl (bK.of rfl) rfl (by decide) (dF rfl (fv 1)) (λ_ _ _ _=>(aI (i:=0) (show JT (["_law_spot","_law_some"]:List Str) by decide +kernel) rfl (IV rfl) (JW rfl))) (λ_ _ _ _=>(aC WL hr (by omega) rfl (fc (fv 1) (fc (fv 0) aA))))) aA))) rfl)
 (aE (gY PassesOwn.never rfl (fU rfl TX.n_range (fc aB aA)) (aI (i:=5) dX.nd rfl (JW rfl))
  (aE (bD (i:=9) dX.nd rfl (JW rfl) (d8 aA))
 (aE (gY PassesOwn.never rfl (dF rfl (fv 0)) (cE (n:=4) rfl rfl (aJ (aI (i:=11) dX.nd rfl (IV rfl)) (aJ (aI (i:=12) dX.nd rfl (IV rfl)) (aJ (aI (i:=13) dX.nd rfl (IV rfl)) (aJ (aI (i:=14) dX.nd rfl (IV rfl)) bS)))))
  (aE (bD (i:=15) dX.nd rfl (IV rfl) (mB rfl rfl TX.n_tuple (fc (dG (N':=["_law_spot","_law_way","_law_vector","_law_share","_law_unit"]) (t:=1) (cap:=[(5,false),(2,false),(3,false),(4,false)]) rfl (bK.of rfl) rfl (by decide) (qI rfl (fv 13)) (λ_ _ _ _=>(aI (i:=0) (show JT (["_law_spot","_law_way","_law_vector","_law_share","_law_unit"]:List Str) by decide +kernel) rfl (IV rfl) (JW rfl))) (λ_ _ _ _=>(aC WU hr (by omega) rfl (fc (fv 1) (fc (fv 0) (fc (fv 2) (fc (fv 3) (fc (fv 4) aA)))))))) aA)))
 (aK (gG (fX rfl (fv 9) (fc (aL (fc (fv 11) (fc (fv 12) (fc (fv 15) (fc (fv 14) aA))))) aA))))))
 (aE (mM (i:=10) (N':=["_law_row","_law_way","_law_vector","_law_share","_law_unit"]) (t:=1) (cap:=[(5,false),(2,false),(3,false),(4,false)]) dX.nd rfl (IV rfl) rfl rfl (bK.of rfl) rfl (by decide) (dF rfl (fv 6)) (λ_ _ _ _=>(aI (i:=0) (show JT (["_law_row","_law_way","_law_vector","_law_share","_law_unit"]:List Str) by decide +kernel) rfl (IV rfl) (JW rfl))) (λ_ _ _ _=>(Ip rfl (qB rfl (fv 0) iU (e7 aB)) (mB rfl rfl TX.n_tuple (fc (dG (N':=["_law_spot","_law_way","_law_vector","_law_share","_law_unit"]) (t:=1) (cap:=[(1,false),(2,false),(3,false),(4,false)]) rfl (bK.of rfl) rfl (by decide) (qI rfl (qB rfl (fv 0) (e7 aB) iU)) (λ_ _ _ _=>(aI (i:=0) (show JT (["_law_spot","_law_way","_law_vector","_law_share","_law_unit"]:List Str) by decide +kernel) rfl (IV rfl) (JW rfl))) (λ_ _ _ _=>(aC WU hr (by omega) rfl (fc (fv 1) (fc (fv 0) (fc (fv 2) (fc (fv 3) (fc (fv 4) aA)))))))) aA)))))
 (aE (e9 (rB rfl hr (aC YJ hr (by omega) rfl (fc (fv 9) (fc iH aA))) (fv 10) (bE _)) (aK (aR rE)) dH)
 (aE (e9 (rB rfl hr (aC VV hr (by omega) rfl (fc (fv 9) aA)) (rA (vY rfl hr (fv 5) aB (bE _)) (aC UL hr (by omega) rfl (fc (fv 7) (fc (aC UL hr (by omega) rfl (fc (fv 3) (fc (fv 3) aA))) aA))) (fv 7)) (bE _)) (aK (aR rE)) dH)
 (aK (e9 (rB rfl hr (dG (N':=["_law_spot","_law_other","_law_way","_law_vector","_law_share","_law_unit"]) (t:=1) (cap:=[(9,false),(5,false),(2,false),(3,false),(4,false)]) rfl (bK.of rfl) rfl (by decide) (dF rfl (fv 1)) (λ_ _ _ _=>(aI (i:=0) (show JT (["_law_spot","_law_other","_law_way","_law_vector","_law_share","_law_unit"]:List Str) by decide +kernel) rfl (IV rfl) (JW rfl))) (λ_ _ _ _=>(aC WL hr (by omega) rfl (fc (fv 1) (fc (aC WU hr (by omega) rfl (fc (fv 2) (fc (fv 0) (fc (fv 3) (fc (fv 4) (fc (fv 5) aA)))))) aA))))) (fv 8) (bE _)) (aK (aR rE)) dH))))))))
 (aK (aR rE))))) ?rd
 case len=>rintro as Q ⟨bs,sp,v,s,u,rfl,_⟩;rfl
 case rd=>
  rintro as Q ⟨bs,sp,v,s,u,rfl,hl,hb,jc,XS,h,q⟩;have rg:=Yo hl hb M0;have rl:=rg.rows;refine ⟨bs,M0,rfl,rg,?_⟩;refine ⟨bs,M0,U0,220*U0,rfl,rg,zF hb,tF hb M0,yV,Iz.1,Iz.2,λt nt vt st=>?_⟩;have bO:∀b∈bs,b.o.length<=900/\∀p∈b.o,Pb p:=λb m=>⟨by have:=(hb b m).len;omega,(hb b m).pb⟩;have qq:∀p∈sp,Pb p:=λp m=>⟨(XS p m).nv (by decide) (by decide) (by decide) (by decide)⟩;refine ⟨rfl,bQ (f:=pt) (h:=λp=>L2.T.bl (iR bs p)) (λ(w:Option U) acc=>[w,some (.p (.lst (bs.map eL))),some (.o false acc)]) sp none [] (by simp;omega) (λp m w acc rest ha K=>?_) λw=>?_⟩
  ·exact ⟨bs,p,rfl,by omega,bO,qq p m,ha,K _⟩
  ·rw [LC];refine ⟨aZ (λ_=>rfl) _,?_⟩;refine ⟨iC rfl,iC rfl,?_⟩;refine ⟨by decide,?_⟩;show rC _ (fA _ _ _ (mI 0 3));refine iZ (λj E=>∃(x:II) (v5:Option U),E=[some (.p (.lst (bs.map eL))),some (.p (.lst (sp.map pt))),some (.p (pt v)),some (.p (fr s)),some (.p (pt u)),v5,some x.told,some (.p (fr t)),some (.o false (sp.map λp=>L2.T.bl (iR bs p))),x.oth,x.due,x.a,x.b,x.c,x.d,x.e]/\(x.told = .o false ((dS bs M0).map rN)\/x.told = .p (.lst ((dS bs M0).map rN)))) ⟨⟨_,_,_,_,_,_,_,_⟩,_,rfl,.inl rfl⟩ ?_ ?_
   ·rintro j t0 rest E hj ⟨⟨told,o9,o10,o11,o12,o13,o14,o15⟩,v5,rfl,ht⟩ KK;obtain ⟨jd,rfl⟩:=nR hj;simp only at ht;have two:=Yh hb h j;generalize hf:uT j v s u=f at *;have npb:∀b∈bs,∀p∈b.o,Nv p.1 p.2 1000:=λb m p mp=>((hb b m).pb p mp).v.up (by decide);show rC _ (fA _ _ _ (bs.map eL));refine gH (f:=eL) (λs':List cR×Option U×Option U×Option U×Option U×Option U=>[some (.p (.lst (bs.map eL))),some (.p (.lst (sp.map pt))),some (.p (pt v)),some (.p (fr s)),some (.p (pt u)),some (.p (.int ((0:Int)+(j:Int)))),some told,some (.p (fr t)),some (.o false (sp.map λp=>L2.T.bl (iR bs p))),some (.o false (s'.1.map eL)),o10,s'.2.1,s'.2.2.1,s'.2.2.2.1,s'.2.2.2.2.1,s'.2.2.2.2.2])
     (λxs s'=>(∀b∈xs,b∈bs)/\s'.1.length+xs.length<=5/\s'.1++xs.map (iK f)=bs.map (iK f)) ?_ ?_ bs ([],o11,o12,o13,o14,o15) ⟨λb m=>m,by simpa using hl,rfl⟩
    ·rintro b xs ⟨acc,w1,w2,w3,w4,w5⟩ nj ⟨hx,hn,e⟩ K;have mb:=hx b (by simp);simp only [JE] at hn;have bl:=(hb b mb).len;refine ⟨rfl,bQ (f:=pt) (h:=λp=>pt (f p)) (λ(w:Option U) acc=>[w,some (.p (.int ((0:Int)+(j:Int)))),some (.p (pt v)),some (.p (fr s)),some (.p (pt u)),some (.o false acc)]) b.o none [] (by simp;omega) (λp m w acc rest ha K=>?_) λw=>?_⟩
     ·refine ⟨j,p,v,s,u,rfl,jd,npb b mb p m,h,?_⟩;rw [hf];exact ⟨ha,K _⟩
     ·refine ⟨aZ (λ_=>rfl) _,?_⟩;have eo:([]++b.o.map λp=>pt (f p))=(b.o.map f).map pt:=by rw [LC,JG];rfl
      rw [eo];have ap:acc.map eL++[eL (iK f b)]=(acc++[iK f b]).map eL:=by rw [KU];rfl
      refine ⟨?_,?_⟩
      ·show (acc.map eL++[eL (iK f b)]).length<=1000;rw [IY,IS,KZ];omega
      ·have:=K (acc++[iK f b],some (.p (.str b.w)),some (.p (.int b.n)),some (.p (.tup (b.o.map pt))),some (.p (.str b.m)),some (.p (.tup ((b.o.map f).map pt)))) ⟨λy m=>hx y (by simp [m]),by rw [IY,KZ];omega,by rw [IZ];exact e⟩;simp only at this;rw [<-ap] at this;exact this
    ·rintro ⟨acc,w1,w2,w3,w4,w5⟩ ⟨_,_,e⟩;have e0:acc=bs.map (iK f):=by simpa using e
     subst e0;have nvr:∀r∈dS bs M0,∀p∈[r.2.2.1,r.2.2.2],Nv p.1 p.2 1000:=λr m p mp=>by
      have big:U0<2^1000/\220*U0<2^1000:=by
       have u:=Uz;have b:2^720*220<2^1000:=by decide +kernel
       omega
      obtain ⟨a,b⟩:=tF hb M0 r m;rcases IU.mp mp with rfl | mp
      ·exact a.nv yV big.1 big.2 (by decide)
      ·rw [JB] at mp;subst mp;exact b.nv yV big.1 big.2 (by decide)
     obtain ⟨M,m0,hM,hB,hR⟩:=Tj hb h j M0;have ps:=Qd hb h j;rw [hf] at hR ps;have er:=two.rim M0;have rg':=two.rimG rg;have wo:∀p∈sp,Pb (f p):=λp m=>by
      obtain ⟨M',qp,qh,hU'⟩:=Rn h j 2 420 (by decide);rw [hf] at hU';exact Tr qp (by omega) (hU' p (XS p m))
     have ins:∀p∈sp,iR (bs.map (iK f)) (f p)=iR bs p:=λp m=>two.isIn (qq p m).np (wo p m).np;have bO':∀b∈bs.map (iK f),b.o.length<=900/\∀p∈b.o,Pb p:=λb m=>⟨(two.H'.ok b m).len,two.H'.pb b m⟩;have ss:sz s<=6:=oE (by have:=h.s1;have:=h.s2;omega) (by have:=h.sN.d;have:=h.s3;omega) (by decide);have dsp:∀g:Pt->Bool,L2.dT (.lst (sp.map λp=>L2.T.bl (g p)))<=60:=λg=>by
      have:=mN (f:=λp=>L2.T.bl (g p)) (n:=0) (λ_=>IW _) sp;show L2.Jw _+1<=60;omega
     rcases ht with rfl | rfl
     all_goals
      refine ⟨rfl,?_⟩;show fG _ _ ((dS bs M0).map rN) _ _;refine bQ (f:=rN) (h:=λr=>rN (Oa f r)) (λ(w:Option U) acc=>[w,some (.p (.int ((0:Int)+(j:Int)))),some (.p (pt v)),some (.p (fr s)),some (.p (pt u)),some (.o false acc)]) (dS bs M0) none [] (by simp;omega) (λr m w acc rest ha K=>?_) λw=>?_
      ·refine ⟨(show ¬(HT.sIx 4 0 none=0/\HT.sIx 4 4 (some 2)=4) by decide),(show ¬(HT.sIx 4 0 (some 2)=0/\HT.sIx 4 4 none=4) by decide),rfl,?_⟩;show fG _ _ ([r.2.2.1,r.2.2.2].map pt) _ _;refine bQ (f:=pt) (h:=λp=>pt (f p)) (λ(w:Option U) acc=>[w,some (.p (.int ((0:Int)+(j:Int)))),some (.p (pt v)),some (.p (fr s)),some (.p (pt u)),some (.o false acc)]) [r.2.2.1,r.2.2.2] none [] (by simp) (λp mp w acc rest ha K=>?_) λw=>?_
       ·refine ⟨j,p,v,s,u,rfl,jd,nvr r m p mp,h,?_⟩;rw [hf];exact ⟨ha,K _⟩
       ·refine ⟨rfl,(show 1+1<=900 by decide),ha,K _⟩
      ·rw [LC];refine ⟨aZ (λ_=>rfl) _,?_⟩;refine ⟨bs.map (iK f),M0,rfl,rg',?_⟩;refine ⟨Za _,?_⟩;have ee:iG (.lst ((dS (bs.map (iK f)) M0).map rN)) (.lst ((dS bs M0).map λr=>rN (Oa f r)))=true:=by
        rw [er,JG];exact jB _
       show if (!(iG (.lst ((dS (bs.map (iK f)) M0).map rN)) (.lst ((dS bs M0).map λr=>rN (Oa f r)))))=true then _ else _;rw [ee,if_neg (by decide)];refine ⟨bs.map (iK f),M0,M,_,rfl,rg',Yp (zF hb),by rw [er];exact hR,m0,hM,hB,λt' nt' wt ZO=>?_⟩;rw [er,ps] at wt;refine ⟨iC rfl,?_⟩;show if (iG (.int ((0:Int)+(j:Int))) (.int 1))=true then _ else _;rw [Xr]
       by_cases c:j=1
       ·rw [decide_eq_true c,if_pos rfl];have s2:=qA h.sN h.sN;refine ⟨s,s,rfl,h.sN,h.sN,by omega,t,eO s s,rfl,nt,bM h.sN h.sN,by omega,?_⟩;have et:t'=eO t (eO s s):=eJ nt' (bM nt (bM h.sN h.sN)) (by
         rw [wt,dQ nt (bM h.sN h.sN),dQ h.sN h.sN,vt,c];show val s*val s*_*_=_;grind)
        refine ⟨iC rfl,?_⟩;show if (!(iG (fr t') (fr (eO t (eO s s)))))=true then _ else _;rw [et,jB,if_neg (by decide)];refine ⟨rfl,?_⟩;show fG _ _ (sp.map pt) _ _;refine bQ (f:=pt) (h:=λp=>L2.T.bl (iR (bs.map (iK f)) (f p))) (λ(w:Option U) acc=>[w,some (.p (.lst ((bs.map (iK f)).map eL))),some (.p (.int ((0:Int)+(j:Int)))),some (.p (pt v)),some (.p (fr s)),some (.p (pt u)),some (.o false acc)]) sp none [] (by simp;omega) (λp mp w acc rest ha K=>?_) λw=>?_
        ·refine ⟨j,p,v,s,u,rfl,jd,(qq p mp).v.up (by decide),h,?_⟩;rw [hf];exact ⟨bs.map (iK f),f p,rfl,by rw [IS];omega,bO',wo p mp,ha,K _⟩
        ·rw [LC];refine ⟨aZ (λ_=>rfl) _,dsp _,?_⟩;show if (!(iG (.lst (sp.map λp=>L2.T.bl (iR (bs.map (iK f)) (f p)))) (.lst (sp.map λp=>L2.T.bl (iR bs p)))))=true then _ else _;rw [Ph ins,if_neg (by decide)];exact KK _ ⟨⟨_,_,_,_,_,_,_,_⟩,_,rfl,by simp⟩
       ·rw [decide_eq_false c,if_neg (by decide)];have et:t'=t:=eJ nt' nt (by
         have k1:pB j s=1:=by
          have:j=0\/j=2:=by omega
          rcases this with rfl | rfl<;>rfl
         rw [wt,vt,k1];grind)
        refine ⟨iC rfl,?_⟩;show if (!(iG (fr t') (fr t)))=true then _ else _;rw [et,jB,if_neg (by decide)];refine ⟨rfl,?_⟩;show fG _ _ (sp.map pt) _ _;refine bQ (f:=pt) (h:=λp=>L2.T.bl (iR (bs.map (iK f)) (f p))) (λ(w:Option U) acc=>[w,some (.p (.lst ((bs.map (iK f)).map eL))),some (.p (.int ((0:Int)+(j:Int)))),some (.p (pt v)),some (.p (fr s)),some (.p (pt u)),some (.o false acc)]) sp none [] (by simp;omega) (λp mp w acc rest ha K=>?_) λw=>?_
        ·refine ⟨j,p,v,s,u,rfl,jd,(qq p mp).v.up (by decide),h,?_⟩;rw [hf];exact ⟨bs.map (iK f),f p,rfl,by rw [IS];omega,bO',wo p mp,ha,K _⟩
        ·rw [LC];refine ⟨aZ (λ_=>rfl) _,dsp _,?_⟩;show if (!(iG (.lst (sp.map λp=>L2.T.bl (iR (bs.map (iK f)) (f p)))) (.lst (sp.map λp=>L2.T.bl (iR bs p)))))=true then _ else _;rw [Ph ins,if_neg (by decide)];exact KK _ ⟨⟨_,_,_,_,_,_,_,_⟩,_,rfl,by simp⟩
   ·rintro E ⟨x,v5,rfl,ht⟩;exact ⟨rfl,q⟩
end
end My
namespace My
open PySem L2 PyProof.Rows
section
variable {P:QJ} {w:QM} {K:W.Frag} {mg:Str->Option Value} {base:Heap}
theorem Ii {α:Type} {f:α->L2.T} {xs:List α} (h:∀x∈xs,L2.kI (f x)=true):L2.uB (xs.map f)=true:=by
 induction xs with
 | nil=>rfl
 | cons x xs ih=>show (L2.kI (f x)&&L2.uB (xs.map f))=true;rw [h x (by simp),ih λy m=>h y (by simp [m])];rfl
theorem z8 {α:Type} {f:α->L2.T} {n:Nat} {xs:List α} (h:∀x∈xs,lenB (f x)<=n):l8 (xs.map f)<=xs.length*(n+2):=by
 induction xs with
 | nil=>exact LM _
 | cons x xs ih=>
  have h1:=h x (by simp);have h2:=ih λy m=>h y (by simp [m]);show lenB (f x)+2+l8 (xs.map f)<=(xs.length+1)*(n+2);rw [Nat.succ_mul];omega
theorem Ey {i:Int} {e:Nat} (h:i.natAbs<2^e) (k:e<=1000):L2.kI (.int i)=true:=by
 show decide (i.natAbs.log2<1920)=true;rw [decide_eq_true_eq]
 by_cases z:i.natAbs=0
 ·rw [z];decide
 ·exact JH ((OM z).mpr h) (by omega)
theorem C3 {f:Fr} (h:sz f<=1000):L2.kI (fr f)=true:=by
 have s:=And.intro (gJ f) (cG f);show (L2.kI (.int f.1)&&(L2.kI (.int f.2)&&true))=true;rw [Ey s.1 h,Ey s.2 h];rfl
theorem X2 {p:Pt} (h:Pb p):L2.kI (pt p)=true:=by
 have h1:=h.v.sx;have h2:=h.v.sy;show (L2.kI (fr p.1)&&(L2.kI (fr p.2)&&true))=true;rw [C3 (by omega),C3 (by omega)];rfl
theorem LB.sh {b:cR} (h:LB 400 b):L2.kI (eL b)=true:=by
 have e:L2.kI (.tup (b.o.map pt))=true:=Ii λp m=>X2 (h.pb p m);show (true&&(L2.kI (.int b.n)&&(L2.kI (.tup (b.o.map pt))&&(true&&true))))=true;rw [e,Ey (e:=10) (by have:=h.w.2;omega) (by decide)];rfl
theorem LB.lenB {b:cR} (h:LB 400 b):lenB (eL b)<=100000:=by
 have w1:=PySem.StrLaws.reprText_len b.w h.w.1.2;have w2:=PySem.StrLaws.reprText_len b.m λc m=>by
  have:=h.m.all c m;have k:∀c∈("lrbe-":Str).cps.toList,c<16^8:=by decide
  exact k c this
 have w3:=h.w.1.1;have w4:b.m.length=b.o.length:=h.m.len;have l:=h.len;have o:=z8 (f:=pt) (n:=7705) (xs:=b.o) λp _=>IW _;show (reprText b.w).length+2+(1921+2+((l8 (b.o.map pt)+3)+2+((reprText b.m).length+2+0)))+3<=100000;have:b.o.length*(7705+2)<=6*7707:=KA l.2 (IW _);omega
def AX:iN:=λas Q=>∃ns:List Int,as=[.v (.lst (bI ns))]/\ns.length<=63/\Q (.v (.bl true)) []
theorem Eu {n d:Int} {c:Nat} (hd:d=(c:Int)) (c0:0<c):MU c (low n d) n:=by
 have d0:d≠0:=by omega
 refine ⟨iV d0,?_⟩;rw [jM d0,hd];have e:((c:Nat):Rat)=((c:Int):Rat):=by push_cast;rfl
 have n0:((c:Int):Rat)≠0:=by exact_mod_cast (show (c:Int)≠0 by omega)
 rw [e,Rat.div_def];grind
theorem G9 (n:Int) (c:Nat):MU c (n,1) (n*(c:Int)):=⟨jN n,by rw [mK];push_cast;rfl⟩
theorem Qg {a b:Int} (a0:1<=a) (a1:a<=20) (b0:1<=b) (b1:b<=9):dY (low a b)/\1<=(low a b).1/\(low a b).1<=20/\(low a b).2<=9:=by
 have d0:b≠0:=by omega
 have n:=iV (n:=a) d0;obtain ⟨l1,l2⟩:=kE (n:=a) d0;have v:0<val (low a b):=by
  rw [jM d0,Rat.div_def];have x1:(0:Rat)<(a:Rat):=by exact_mod_cast (show (0:Int)<a by omega)
  have x2:(0:Rat)<(b:Rat):=by exact_mod_cast (show (0:Int)<b by omega)
  exact Rat.mul_pos x1 (Rat.inv_pos.mpr x2)
 have p:=(Rv n).mp v;refine ⟨n,by omega,?_,?_⟩
 ·have:(low a b).1.natAbs<=a.natAbs:=l1;omega
 ·have:(low a b).2=lY a b:=rfl;omega
theorem O4 {X Y:Int} (h1:-10<=X) (h2:X<10) (h3:-10<=Y) (h4:Y<10):tJ 2 420 (hf X,hf Y):=⟨X,Y,Eu (by rfl) (by decide),Eu (by rfl) (by decide),by omega,by omega⟩
abbrev sY:QU:=top 64
theorem k6:aO ["_law_script","_law_cells","_law_k","_law_box_here","_law_turn","_law_vector","_law_share","_law_some","_law_unit","_law_spots","_law_written"] ["_law_script"] (aF sY):=g8
theorem T8 {f:QF} {fd:QK} (F:eT K "law" "law" sY f fd) (TX:Txt mg) (WV:vG P w K mg base) (ZE:Ox P w K mg base) (TM:oO P w K mg base) (XZ:Il P w K mg base) (WB:qQ P w K mg base) (TZ:kD P w K mg base) (UU:l9 P w K mg base) (WW:vH P w K mg base)   : bJ P w K mg base fF 9 f fd ["_law_script"] (aX K AX):=by
 refine F.okT k6 ?len (λTQ A outer s H E hr=>(aE (bD (i:=1) k6.nd rfl (IV rfl) (aC WV hr (by omega) rfl (fc (fv 0) (fc aB aA))))
 (aE (gY PassesOwn.never rfl (fU rfl TX.n_range (fc (J1 rfl rfl TX.n_max (fc aB (fc (kO rfl rfl TX.n_len (fc (fv 1) aA)) aA))) aA)) (aI (i:=2) k6.nd rfl (IV rfl))
  (aE (bD (i:=3) k6.nd rfl (JW rfl) (aC ZE hr (by omega) rfl (fc (fv 1) (fc (fv 2) aA))))
 (aK (gY PassesOwn.never rfl (fU rfl TX.n_range (fc aB aA)) (aI (i:=4) k6.nd rfl (IV rfl))
  (aE (jY (i:=7) (j:=8) rfl k6.nd rfl rfl (by decide) rfl rfl (fc (bR XZ hr (by omega) rfl (fc (fv 3) (fc aB aA))) (fc (aC WB hr (by omega) rfl (fc (bR TM hr (by omega) rfl (fc (fv 3) (fc aB aA))) aA)) aA)) rfl)
 (aE (bD (i:=5) k6.nd rfl (IV rfl) (aL (fc (aC TZ hr (by omega) rfl (fc (bA iJ (bR TM hr (by omega) rfl (fc (fv 3) (fc aB aA))) aB) (fc aB aA))) (fc (aL (fc (bA iJ (bR TM hr (by omega) rfl (fc (fv 3) (fc aB aA))) aB) (fc aB aA))) aA))))
 (aE (bD (i:=6) k6.nd rfl (IV rfl) (aC TZ hr (by omega) rfl (fc (bA b9 aB (bR TM hr (by omega) rfl (fc (fv 3) (fc aB aA)))) (fc (bA b9 aB (bR TM hr (by omega) rfl (fc (fv 3) (fc aB aA)))) aA))))
 (aE (jY (i:=9) (j:=10) rfl k6.nd rfl rfl (by decide) rfl rfl (fc (dG (N':=["_law_spot","_law_box_here"]) (t:=1) (cap:=[(3,true)]) rfl (bK.of rfl) rfl (by decide) (fU rfl TX.n_range (fc aB aA)) (λ_ _ _ _=>(aI (i:=0) (show JT (["_law_spot","_law_box_here"]:List Str) by decide +kernel) rfl (IV rfl) (JW rfl))) (λ_ _ _ _=>(bR UU hr (by omega) rfl (fc (fv 1) (fc aB aA))))) (fc (Gq rfl hr rfl TX.n_str (fc (fv 7) aA)) aA)) rfl)
 (aK (e9 (Ls (Gy (R4 (Of (aC WW hr (by omega) rfl (fc (fv 7) (fc (fv 9) (fc (fv 5) (fc (fv 6) (fc (fv 8) aA)))))))) (yF (rB rfl hr (Gq rfl hr rfl TX.n_str (fc (fv 7) aA)) (fv 10) (bE _))))) (aK (aR rE)) dH))))))))))
 (aK (aR rE))))) ?rd
 case len=>rintro as Q ⟨ns,rfl,_⟩;rfl
 case rd=>
  rintro as Q ⟨ns,rfl,hl,q⟩;refine ⟨ns,3,rfl,hl,by decide,by decide,λcs l6=>?_⟩;have lc:((bI cs).length:Int)=cs.length:=by simp [bI]
  obtain ⟨m,hm⟩:∃m:Int,m=(if (2:Int)<((bI cs).length:Int) then ((bI cs).length:Int) else 2):=⟨_,rfl⟩;have m5:m<=3/\0<=m:=by rw [hm];split<;>omega
  refine ⟨⟨by show -(2^62:Int)<=(if (2:Int)<((bI cs).length:Int) then ((bI cs).length:Int) else 2);rw [<-hm];omega,by show (if (2:Int)<((bI cs).length:Int) then ((bI cs).length:Int) else 2)<2^62;rw [<-hm];omega⟩,?_⟩;show rC _ (fA _ _ _ (mI 0 (if (2:Int)<((bI cs).length:Int) then ((bI cs).length:Int) else 2).toNat));rw [<-hm];refine iZ (λi E=>∃v2 v3 v4 v5 v6 v7 v8 v9 v10:Option U,E=[some (.p (.lst (bI ns))),some (.o false (bI cs)),v2,v3,v4,v5,v6,v7,v8,v9,v10]) ⟨_,_,_,_,_,_,_,_,_,rfl⟩ ?_ ?_
  ·rintro i t rest E hi ⟨v2,v3,v4,v5,v6,v7,v8,v9,v10,rfl⟩ KK;obtain ⟨il,rfl⟩:=nR hi;refine ⟨cs,_,rfl,by omega,by omega,λxs bx nl=>?_⟩;obtain ⟨A0,B0,c0,rfl,_⟩:=id bx;refine ⟨by decide,?_⟩;show rC _ (fA _ _ _ (mI 0 2));refine iZ (λj E=>∃(ys:List L2.T) (v4 v5 v6 v7 v8 v9 v10:Option U),E=[some (.p (.lst (bI ns))),some (.o false (bI cs)),some (.p (.int (0+(i:Int)))),some (.o false ys),v4,v5,v6,v7,v8,v9,v10]/\Bx ys (400*j)) ⟨_,_,_,_,_,_,_,_,rfl,bx.mono (by simp)⟩ ?_ ?_
   ·rintro j t aA3 E hj ⟨ys,v4,v5,v6,v7,v8,v9,v10,rfl,bj⟩ KJ;obtain ⟨jd,rfl⟩:=nR hj;obtain ⟨A1,B1,c1,rfl,_⟩:=id bj;refine ⟨_,5,_,rfl,bj,by omega,by decide,by decide,λbs y2 l1 l2 hb b2=>?_⟩;obtain ⟨A2,B2,c2,rfl,_⟩:=id b2;have dw:bs.length<=5:=by omega
    refine ⟨_,20,_,rfl,b2,by omega,by decide,by decide,λr1 y3 a1 a2 b3=>?_⟩;obtain ⟨A3,B3',c3,rfl,_⟩:=id b3;refine ⟨r1,rfl,a1,a2,λu gu=>?_⟩;refine ⟨_,99,_,rfl,b3,by omega,by decide,by decide,λr2 y4 a3 a4 b4=>?_⟩;obtain ⟨A4,B4,c4,rfl,_⟩:=id b4;refine ⟨_,_,rfl,by decide,by decide,?_⟩;refine ⟨_,40,_,rfl,b4,by omega,by decide,by decide,λr3 y5 a5 a6 b5=>?_⟩;obtain ⟨A5,B5,c5,rfl,_⟩:=id b5;refine ⟨_,20,_,rfl,b5,by omega,by decide,by decide,λr4 y6 a7 a8 b6=>?_⟩;obtain ⟨A6,B6,c6,rfl,_⟩:=id b6;refine ⟨_,9,_,rfl,b6,by omega,by decide,by decide,λr5 y7 a9 a10 b7=>?_⟩;obtain ⟨A7,B7,c7,rfl,_⟩:=id b7;refine ⟨_,_,rfl,by omega,JH (show (1+r5).natAbs<2^7 by omega) (LJ (by decide) (by decide)),?_⟩;obtain ⟨sn,s1,s2,s3⟩:=Qg (a:=1+r4) (b:=1+r5) (by omega) (by omega) (by omega) (by omega);have par:uR (low (r2-49) 7,(r3-20,1)) (low (1+r4) (1+r5)) u:=⟨⟨_,_,Eu (by rfl) (by decide),G9 _ _,by omega,by omega⟩,sn,s1,s2,s3,gu.1,gu.2⟩;generalize low (1+r4) (1+r5)=s at par;generalize hv:((low (r2-49) 7,(r3-20,1)):Pt)=v at par;refine (?_:rC [some (.p (.lst (bI ns))),some (.o false (bI cs)),some (.p (.int (0+(i:Int)))),some (.o false [.int A7,.int B7,.int c7]),some (.p (.int (0+(j:Int)))),some (.p (pt (low (r2-49) 7,(r3-20,1)))),some (.p (fr s)),some (.o false (bs.map eL)),some (.p (pt u)),v9,v10] _);rw [hv];have s1:L2.kI (.lst (bs.map eL))=true:=Ii λb m=>(hb b m).sh;have s2:L2.dT (.lst (bs.map eL))<=40:=by
     have:=mN Zo bs;show L2.Jw (bs.map eL)+1<=40;omega
    have s3:lenB (.lst (bs.map eL))<=10000000:=by
     have:=z8 (f:=eL) (n:=100000) (xs:=bs) λb m=>(hb b m).lenB;show l8 (bs.map eL)+3<=10000000;omega
    refine ⟨by decide,rfl,?_⟩;show fG _ _ (mI 0 4) _ _;refine vI (λk E=>∃(w0:Option U) (zs:List L2.T) (sp:List Pt),E=[w0,some (.o true zs),some (.o false (sp.map pt))]/\Bx zs (400*j+320+2*k)/\sp.length=k/\∀p∈sp,tJ 2 420 p) ⟨none,_,[],rfl,b7.mono (by simp;omega),rfl,λp m=>absurd m (by simp)⟩ ?_ ?_
    ·rintro k t nj E hk ⟨w0,zs,sp,rfl,bk,jc,XS⟩ K;obtain ⟨hkn,rfl⟩:=nR hk;obtain ⟨A8,B8,c8,rfl,_⟩:=id bk;refine ⟨_,5,_,rfl,bk,by omega,by decide,by decide,λX Y y8 x1 x2 x3 x4 b8=>?_⟩;obtain ⟨A9,B9,c9,rfl,_⟩:=id b8;refine ⟨by rw [IS];omega,K _ ⟨some (.p (.int (0+(k:Int)))),[.int A9,.int B9,.int c9],sp++[(hf X,hf Y)],?_,b8.mono (by push_cast;omega),by rw [IY,jc];rfl,λp m=>?_⟩⟩
     ·rw [KU];rfl
     ·rcases JJ.mp m with m | m
      ·exact XS p m
      ·rw [JB] at m;rw [m];exact O4 (by omega) (by omega) (by omega) (by omega)
    ·rintro E ⟨w0,zs,sp,rfl,bk,jc,XS⟩;obtain ⟨A8,B8,c8,rfl,_⟩:=id bk;have el:(mI 0 4).length=4:=rfl;rw [el] at jc bk;refine ⟨aZ (λ_=>rfl) _,s1,s2,s3,λz hz=>?_⟩;refine (?_:rC [some (.p (.lst (bI ns))),some (.o false (bI cs)),some (.p (.int (0+(i:Int)))),some (.o false [.int A8,.int B8,.int c8]),some (.p (.int (0+(j:Int)))),some (.p (pt v)),some (.p (fr s)),some (.o false (bs.map eL)),some (.p (pt u)),some (.o false (sp.map pt)),some (.p (.str z))] _);refine ⟨bs,sp,v,s,u,rfl,dw,hb,by omega,XS,par,?_⟩;refine ⟨s1,s2,s3,λz' qe=>?_⟩;have ez:z'=z:=by rw [qe,hz]
     subst ez;refine ⟨iC rfl,?_⟩;show if (!(iG (.str z') (.str z')))=true then _ else _;rw [jB,if_neg (by decide)];exact KJ _ ⟨_,_,_,_,_,_,_,_,rfl,bk.mono (by push_cast;omega)⟩
   ·rintro E ⟨ys,v4,v5,v6,v7,v8,v9,v10,rfl,bj⟩;exact KK _ ⟨_,_,_,_,_,_,_,_,_,rfl⟩
  ·rintro E ⟨v2,v3,v4,v5,v6,v7,v8,v9,v10,rfl⟩;exact ⟨rfl,q⟩
end
end My
namespace My
open PySem L2 PyProof.Rows
theorem EU {α:Type} {us:List α} (h:us.length=1):∃a0,us=[a0]:=by
 cases us with
 | nil=>simp at h
 | cons a0 us=>
 replace h:us.length=0:=by simpa using h
 cases us with
 | nil=>exact ⟨a0,rfl⟩
 | cons a us=>simp at h
theorem GC {α:Type} {us:List α} (h:us.length=2):∃a0 a1,us=[a0,a1]:=by
 cases us with
 | nil=>simp at h
 | cons a0 us=>
 replace h:us.length=1:=by simpa using h
 cases us with
 | nil=>simp at h
 | cons a1 us=>
 replace h:us.length=0:=by simpa using h
 cases us with
 | nil=>exact ⟨a0,a1,rfl⟩
 | cons a us=>simp at h
theorem FY {α:Type} {us:List α} (h:us.length=3):∃a0 a1 a2,us=[a0,a1,a2]:=by
 cases us with
 | nil=>simp at h
 | cons a0 us=>
 replace h:us.length=2:=by simpa using h
 cases us with
 | nil=>simp at h
 | cons a1 us=>
 replace h:us.length=1:=by simpa using h
 cases us with
 | nil=>simp at h
 | cons a2 us=>
 replace h:us.length=0:=by simpa using h
 cases us with
 | nil=>exact ⟨a0,a1,a2,rfl⟩
 | cons a us=>simp at h
theorem FH {α:Type} {us:List α} (h:us.length=4):∃a0 a1 a2 a3,us=[a0,a1,a2,a3]:=by
 cases us with
 | nil=>simp at h
 | cons a0 us=>
 replace h:us.length=3:=by simpa using h
 cases us with
 | nil=>simp at h
 | cons a1 us=>
 replace h:us.length=2:=by simpa using h
 cases us with
 | nil=>simp at h
 | cons a2 us=>
 replace h:us.length=1:=by simpa using h
 cases us with
 | nil=>simp at h
 | cons a3 us=>
 replace h:us.length=0:=by simpa using h
 cases us with
 | nil=>exact ⟨a0,a1,a2,a3,rfl⟩
 | cons a us=>simp at h
theorem FV {α:Type} {us:List α} (h:us.length=5):∃a0 a1 a2 a3 a4,us=[a0,a1,a2,a3,a4]:=by
 cases us with
 | nil=>simp at h
 | cons a0 us=>
 replace h:us.length=4:=by simpa using h
 cases us with
 | nil=>simp at h
 | cons a1 us=>
 replace h:us.length=3:=by simpa using h
 cases us with
 | nil=>simp at h
 | cons a2 us=>
 replace h:us.length=2:=by simpa using h
 cases us with
 | nil=>simp at h
 | cons a3 us=>
 replace h:us.length=1:=by simpa using h
 cases us with
 | nil=>simp at h
 | cons a4 us=>
 replace h:us.length=0:=by simpa using h
 cases us with
 | nil=>exact ⟨a0,a1,a2,a3,a4,rfl⟩
 | cons a us=>simp at h
def xN (o:Obj):Bool:=match o.data with
 | .seq TC _=>match TC.toList with
  | [.int _ _,_,_]=>false
  | _=>true
 | _=>true
def rT (K:W.Frag):Bool:=K.all λx=>xN x.2
theorem Ry {K:W.Frag} (h:rT K=true):Oq K:=by
 rintro a x y z ⟨o,TC,n,hl,_,hd,_,hv⟩;have key:∀K:W.Frag,K.lookup a=some o->rT K=true->xN o=true:=λK=>by
  induction K with
  | nil=>intro h;cases h
  | cons x K ih=>
   intro h1 h2;rw [rT,List.all_cons,JY] at h2;rw [LU] at h1;split at h1
   ·cases h1;exact h2.1
   ·exact ih h1 h2.2
 have k:=key K hl h;obtain ⟨TC⟩:=TC;cases hv with
 | cons h1 hv=>cases hv with
  | cons h2 hv=>cases hv with
   | cons h3 hv=>cases hv;obtain ⟨t,rfl⟩:=h1;rw [xN,hd] at k;cases k
theorem Od {K:W.Frag} {a b c:QF} {od oe of:Option QF} {i j i' j':Int} {t u t' u':Tok} {n m l:Nat} {sl sk sj:Array (Option Value)} (h:K.lookup a=some ⟨.type "tuple",od,.seq #[.ref b,.ref c] n,sl⟩) (hb:K.lookup b=some ⟨.type "tuple",oe,.seq #[.int i t,.int j u] m,sk⟩) (hc:K.lookup c=some ⟨.type "tuple",of,.seq #[.int i' t',.int j' u'] l,sj⟩) (H:Hp) (O:QF->Prop):Rp K H O (.tup [.tup [.int i,.int j],.tup [.int i',.int j']]) (.ref a):=
 ⟨a,[.ref b,.ref c],rfl,.inr ⟨_,_,n,h,rfl,rfl,by show 2<=QP;decide,.cons rfl (.cons rfl .nil)⟩,_,_,rfl,kU hb H O,_,_,rfl,kU hc H O,rfl⟩
def Jv (K:W.Frag):Sp:=λvs H Q _=>∃(a:QF) (ns:List Int),vs=[.ref a]/\j4 K H a (ns.map V.int)/\ns.length<=63/\∀H',Q (.bl true) H'
theorem Q7 {K:W.Frag} (vs:List V) (H:Hp) (Q:VK) (E:XK) (h:Jv K vs H Q E):aX K AX vs H Q E:=by
 obtain ⟨a,ns,rfl,hs,hl,q⟩:=h;have no:∀b,¬Ow (λa=>(none:Option QF)=some a) [some (V.ref a)] [some (.p (.lst (bI ns)))] b:=λb z=>by
  rcases z with z | ⟨i,k,xs,h1,_⟩
  ·cases z
  ·match i,h1 with
   | 0,h1=>simp at h1
   | _+1,h1=>simp at h1
 have ii:∀ns:List Int,cN K H (Ow (λa=>(none:Option QF)=some a) [some (V.ref a)] [some (.p (.lst (bI ns)))]) (bI ns) (ns.map V.int):=λns=>by
  have key:∀(O:QF->Prop) (ms:List Int),cN K H O (bI ms) (ms.map V.int):=λO ms=>by
   induction ms with
   | nil=>rfl
   | cons m ms ih=>exact ⟨_,_,rfl,rfl,ih⟩
  exact key _ ns
 refine ⟨[.v (.lst (bI ns))],λr _=>r = .v (.bl true),none,⟨rfl,λi t h=>?_,λi k xs h=>?_,λi j k l xs ys b h=>?_,λb z=>by cases z⟩,λ_=>rfl,⟨ns,rfl,hl,rfl⟩,λr xs v H' e _ _ rr=>?_⟩
 ·match i,h with
  | 0,h=>
   simp [qT] at h;subst h;exact ⟨_,rfl,a,_,rfl,hs.imp (λh=>⟨no a,h⟩) id,ii ns⟩
  | _+1,h=>simp [qT] at h
 ·match i,h with
  | 0,h=>simp [qT] at h
  | _+1,h=>simp [qT] at h
 ·match i,h with
  | 0,h=>simp [qT] at h
  | _+1,h=>simp [qT] at h
 ·subst e;cases rr;exact q H'
def Fc (K:W.Frag) (nm:Str) (st:QU) (f:QF):Prop:=∃(oc:Value) (od:Option QF) (kV dc pm:Value) (an:Option QF) (cd ct:Value) (sl:Array (Option Value)),
 W.nsIn K QR nm=some (some (.ref f))/\K.lookup f=some ⟨oc,od,.func (W.fnOf nm nm (fK st) (dO st) (aF st) .none kV dc pm an cd ct),sl⟩/\W.codeIn K cd nm=true/\W.keepIn K (.ref f)=true
theorem fc {K:W.Frag} {nm:Str} {st:QU} {f:QF} {oc:Value} {od:Option QF} {kV dc pm:Value} {an:Option QF} {cd ct:Value} {sl:Array (Option Value)} (a:W.nsIn K QR nm=some (some (.ref f))) (l:K.lookup f=some ⟨oc,od,.func (W.fnOf nm nm (fK st) (dO st) (aF st) .none kV dc pm an cd ct),sl⟩) (c:W.codeIn K cd nm=true) (k:W.keepIn K (.ref f)=true):Fc K nm st f:=⟨_,_,_,_,_,_,_,_,_,a,l,c,k⟩
theorem gm {P:QJ} {w:QM} {K:W.Frag} {h base:Heap} {mg:Str->Option Value} {nm:Str} {st:QU} {f:QF} {CX:Az} {k:Nat} {ps:List Str} {sp:Sp} (X:K.In h) (G:h.Ns QR mg) (p:Fc K nm st f) (ok:∀{fd:QK},eT K nm nm st f fd->bJ P w K mg base CX k f fd ps sp)
  (bd:∀{fd:QK},eT K nm nm st f fd->kH K fd ps []):∃f fd,bJ P w K mg base CX k f fd ps sp/\mg nm=some (.ref f)/\W.keepIn K (.ref f)=true/\kH K fd ps []:=by
 obtain ⟨_,_,_,_,_,_,_,_,_,a,l,c,k⟩:=p;have F:=Py (st:=st) l c k;exact ⟨f,_,ok F,W.mg_of X G a,k,bd F⟩
theorem Tw {P:QJ} {w:QM} {K:W.Frag} {h base:Heap} {mg:Str->Option Value} {nm:Str} {st:QU} {f:QF} {CX:Az} {k:Nat} {ps:List Str} {sp:Sp} (X:K.In h) (G:h.Ns QR mg) (p:Fc K nm st f) (ok:∀{fd:QK},eT K nm nm st f fd->bJ P w K mg base CX k f fd ps sp) (hl:ps.length=1:=by rfl)
  (hb:∀(kV doc pm:Value) (an:Option QF) (TQ ct a0:Value),bindArgs (W.fnOf nm nm (fK st) (dO st) (aF st) .none kV doc pm an TQ ct) ⟨[a0],[]⟩=pure (ps.zip [a0]):=by intros;rfl):∃f fd,bJ P w K mg base CX k f fd ps sp/\mg nm=some (.ref f)/\W.keepIn K (.ref f)=true/\kH K fd ps []:=
 gm X G p ok λF=>F.binds λkV doc pm an TQ ct us e=>by obtain ⟨a0,rfl⟩:=EU (e.trans hl);exact hb ..
theorem lG {P:QJ} {w:QM} {K:W.Frag} {h base:Heap} {mg:Str->Option Value} {nm:Str} {st:QU} {f:QF} {CX:Az} {k:Nat} {ps:List Str} {sp:Sp} (X:K.In h) (G:h.Ns QR mg) (p:Fc K nm st f) (ok:∀{fd:QK},eT K nm nm st f fd->bJ P w K mg base CX k f fd ps sp) (hl:ps.length=2:=by rfl)
  (hb:∀(kV doc pm:Value) (an:Option QF) (TQ ct a0 a1:Value),bindArgs (W.fnOf nm nm (fK st) (dO st) (aF st) .none kV doc pm an TQ ct) ⟨[a0,a1],[]⟩=pure (ps.zip [a0,a1]):=by intros;rfl):∃f fd,bJ P w K mg base CX k f fd ps sp/\mg nm=some (.ref f)/\W.keepIn K (.ref f)=true/\kH K fd ps []:=
 gm X G p ok λF=>F.binds λkV doc pm an TQ ct us e=>by obtain ⟨a0,a1,rfl⟩:=GC (e.trans hl);exact hb ..
theorem GY {P:QJ} {w:QM} {K:W.Frag} {h base:Heap} {mg:Str->Option Value} {nm:Str} {st:QU} {f:QF} {CX:Az} {k:Nat} {ps:List Str} {sp:Sp} (X:K.In h) (G:h.Ns QR mg) (p:Fc K nm st f) (ok:∀{fd:QK},eT K nm nm st f fd->bJ P w K mg base CX k f fd ps sp) (hl:ps.length=3:=by rfl)
  (hb:∀(kV doc pm:Value) (an:Option QF) (TQ ct a0 a1 a2:Value),bindArgs (W.fnOf nm nm (fK st) (dO st) (aF st) .none kV doc pm an TQ ct) ⟨[a0,a1,a2],[]⟩=pure (ps.zip [a0,a1,a2]):=by intros;rfl):∃f fd,bJ P w K mg base CX k f fd ps sp/\mg nm=some (.ref f)/\W.keepIn K (.ref f)=true/\kH K fd ps []:=
 gm X G p ok λF=>F.binds λkV doc pm an TQ ct us e=>by obtain ⟨a0,a1,a2,rfl⟩:=FY (e.trans hl);exact hb ..
theorem HR {P:QJ} {w:QM} {K:W.Frag} {h base:Heap} {mg:Str->Option Value} {nm:Str} {st:QU} {f:QF} {CX:Az} {k:Nat} {ps:List Str} {sp:Sp} (X:K.In h) (G:h.Ns QR mg) (p:Fc K nm st f) (ok:∀{fd:QK},eT K nm nm st f fd->bJ P w K mg base CX k f fd ps sp) (hl:ps.length=4:=by rfl)
  (hb:∀(kV doc pm:Value) (an:Option QF) (TQ ct a0 a1 a2 a3:Value),bindArgs (W.fnOf nm nm (fK st) (dO st) (aF st) .none kV doc pm an TQ ct) ⟨[a0,a1,a2,a3],[]⟩=pure (ps.zip [a0,a1,a2,a3]):=by intros;rfl):∃f fd,bJ P w K mg base CX k f fd ps sp/\mg nm=some (.ref f)/\W.keepIn K (.ref f)=true/\kH K fd ps []:=
 gm X G p ok λF=>F.binds λkV doc pm an TQ ct us e=>by obtain ⟨a0,a1,a2,a3,rfl⟩:=FH (e.trans hl);exact hb ..
theorem HB {P:QJ} {w:QM} {K:W.Frag} {h base:Heap} {mg:Str->Option Value} {nm:Str} {st:QU} {f:QF} {CX:Az} {k:Nat} {ps:List Str} {sp:Sp} (X:K.In h) (G:h.Ns QR mg) (p:Fc K nm st f) (ok:∀{fd:QK},eT K nm nm st f fd->bJ P w K mg base CX k f fd ps sp) (hl:ps.length=5:=by rfl)
  (hb:∀(kV doc pm:Value) (an:Option QF) (TQ ct a0 a1 a2 a3 a4:Value),bindArgs (W.fnOf nm nm (fK st) (dO st) (aF st) .none kV doc pm an TQ ct) ⟨[a0,a1,a2,a3,a4],[]⟩=pure (ps.zip [a0,a1,a2,a3,a4]):=by intros;rfl):∃f fd,bJ P w K mg base CX k f fd ps sp/\mg nm=some (.ref f)/\W.keepIn K (.ref f)=true/\kH K fd ps []:=
 gm X G p ok λF=>F.binds λkV doc pm an TQ ct us e=>by obtain ⟨a0,a1,a2,a3,a4,rfl⟩:=FV (e.trans hl);exact hb ..
theorem N3 {l:W.OpenLaw} {w:QM} {K:W.Frag} {h:Heap} {mg:Str->Option Value} {fa f0 f1 f2 f3 f4 f5 f6 f7 f8 f9 f10 f11 f12 f13 f14 f15 f16 f17 f18 f19 f20 f21 f22 f23 f24 f25 f26 f27 f28 f29 f30 f31 f32 f33 f34 f35 f36 f37 f38 f39 f40 f41 f42 f43 f44 f45 f46 f47 f48 f49 f50 f51 f52 f53:QF} (X:K.In h) (G:h.Ns QR mg) (hfa:mg "law" = some (.ref fa))
  (p0:Fc K "_law_take" Gm f0)
  (p1:Fc K "common_divisor" gU f1)
  (p2:Fc K "fraction" nN f2)
  (p3:Fc K "added" xE f3)
  (p4:Fc K "taken" xC f4)
  (p5:Fc K "times" zC f5)
  (p6:Fc K "over" Ea f6)
  (p7:Fc K "_law_box" Qb f7)
  (p8:Fc K "_law_folded" tT f8)
  (p9:Fc K "compared" nS f9)
  (p10:Fc K "scaled" tK f10)
  (p11:Fc K "plus" Ge f11)
  (p12:Fc K "minus" y9 f12)
  (p13:Fc K "cross" zP f13)
  (p14:Fc K "spot_of" qG f14)
  (p15:Fc K "line_through" i8 f15)
  (p16:Fc K "in_lowest_terms" gL f16)
  (p17:Fc K "off_line" nT f17)
  (p18:Fc K "box_of" tH f18)
  (p19:Fc K "are_apart" lV f19)
  (p20:Fc K "edge_lines" kX f20)
  (p21:Fc K "shape_of" nL f21)
  (p22:Fc K "shapes_of" mG f22)
  (p23:Fc K "segment_of" kT f23)
  (p24:Fc K "later" zQ f24)
  (p25:Fc K "earlier" qP f25)
  (p26:Fc K "overlap" pK f26)
  (p27:Fc K "parted" uA f27)
  (p28:Fc K "point_at" nO f28)
  (p29:Fc K "edge_ends" mJ f29)
  (p30:Fc K "part_at" qN f30)
  (p31:Fc K "bare_parts" kY f31)
  (p32:Fc K "bounds_of" lT f32)
  (p33:Fc K "rim" Ua f33)
  (p34:Fc K "_law_frac" yX f34)
  (p35:Fc K "_law_sum" Fj f35)
  (p36:Fc K "_law_less" yT f36)
  (p37:Fc K "_law_product" nY f37)
  (p38:Fc K "_law_add" Ft f38)
  (p39:Fc K "_law_sub" Fw f39)
  (p40:Fc K "_law_scaled_by" kK f40)
  (p41:Fc K "_law_quarter" nQ f41)
  (p42:Fc K "_law_spot_at" nD f42)
  (p43:Fc K "_law_shape" sU f43)
  (p44:Fc K "_law_lot" Gj f44)
  (p45:Fc K "total_of" nM f45)
  (p46:Fc K "size_within" jW f46)
  (p47:Fc K "is_in_block" j0 f47)
  (p48:Fc K "is_in" zG f48)
  (p49:Fc K "size_of" qD f49)
  (p50:Fc K "_law_unit_at" nG f50)
  (p51:Fc K "_law_put" Fz f51)
  (p52:Fc K "_law_right" tI f52)
  (p53:Fc K "law" sY f53)
  {aq:Tok} (q_GRID:W.nsIn K QR "GRID" = some (some (.int 65536 aq)))
  {XQ:QF} {YA:Option QF} {YM YN:Tok} {YO:Nat} {YB:Array (Option Value)} (q_NOUGHT:W.nsIn K QR "NOUGHT" = some (some (.ref XQ))) (r_NOUGHT:K.lookup XQ=some ⟨.type "tuple",YA,.seq #[.int 0 YM,.int 1 YN] YO,YB⟩)
  {cq:QF} {ar:Option QF} {gf gj:Tok} {gr:Nat} {au:Array (Option Value)} (q_ONE:W.nsIn K QR "ONE" = some (some (.ref cq))) (r_ONE:K.lookup cq=some ⟨.type "tuple",ar,.seq #[.int 1 gf,.int 1 gj] gr,au⟩)
  (n_tri:rT K=true)
  {C_W D_W E_W:QF} {o_W wu wx:Option QF} {wy wz xb xc:Tok} {n_W xf xg:Nat} {s_W xh xi:Array (Option Value)} (q_W:W.nsIn K QR "WHOLE" = some (some (.ref C_W))) (r_W:K.lookup C_W=some ⟨.type "tuple",o_W,.seq #[.ref D_W,.ref E_W] n_W,s_W⟩) (r_W1:K.lookup D_W=some ⟨.type "tuple",wu,.seq #[.int 0 wy,.int 1 wz] xf,xh⟩) (r_W2:K.lookup E_W=some ⟨.type "tuple",wx,.seq #[.int 1 xb,.int 1 xc] xg,xi⟩)
  (z_isinstance:W.nsIn K QR "isinstance" = some none) (z_abs:W.nsIn K QR "abs" = some none) (z_divmod:W.nsIn K QR "divmod" = some none) (z_min:W.nsIn K QR "min" = some none) (z_max:W.nsIn K QR "max" = some none) (z_all:W.nsIn K QR "all" = some none) (z_len:W.nsIn K QR "len" = some none) (z_int:W.nsIn K QR "int" = some none) (z_bool:W.nsIn K QR "bool" = some none) (z_tuple:W.nsIn K QR "tuple" = some none) (z_list:W.nsIn K QR "list" = some none) (z_str:W.nsIn K QR "str" = some none) (z_range:W.nsIn K QR "range" = some none) (z_enumerate:W.nsIn K QR "enumerate" = some none) (z_zip:W.nsIn K QR "zip" = some none) (z_any:W.nsIn K QR "any" = some none) :
  ∃fd:QK,(∀(s:Shared) (v:Value),BindsTo s fd ⟨[v],[]⟩ [("_law_script",v)])/\∀base:Heap,K.In base->base.Ns QR mg->bJ l.prog w K mg base fF 9 fa fd ["_law_script"] (Jv K):=by
 obtain ⟨oc,od,kV,dc,pm,an,cd,ct,sl,a53,l53,c53,k53⟩:=p53;have e:=hfa.symm.trans (W.mg_of X G a53);cases e;have T:Txt mg:=⟨W.mg_none_of X G z_isinstance,W.mg_none_of X G z_abs,W.mg_none_of X G z_divmod,W.mg_none_of X G z_min,W.mg_none_of X G z_max,W.mg_none_of X G z_all,W.mg_none_of X G z_len,W.mg_none_of X G z_int,W.mg_none_of X G z_bool,W.mg_none_of X G z_tuple,W.mg_none_of X G z_list,W.mg_none_of X G z_str,W.mg_none_of X G z_range,W.mg_none_of X G z_enumerate,W.mg_none_of X G z_zip⟩;have XE:Dz mg "GRID" 65536:=⟨_,W.mg_of X G q_GRID⟩;have WJ:tW mg K "WHOLE" (.tup [.tup [.int 0,.int 1],.tup [.int 1,.int 1]]):=⟨_,W.mg_of X G q_W,Od r_W r_W1 r_W2⟩;have WR:tW mg K "NOUGHT" (.tup [.int 0,.int 1]):=⟨_,W.mg_of X G q_NOUGHT,kU r_NOUGHT⟩;have ZC:tW mg K "ONE" (.tup [.int 1,.int 1]):=⟨_,W.mg_of X G q_ONE,kU r_ONE⟩;have F53:=Py (st:=sY) l53 c53 k53;refine ⟨W.fnOf "law" "law" (fK sY) (dO sY) (aF sY) .none kV dc pm an cd ct,λs v=>.of_eq rfl,λbase _ _=>?_⟩;have TM:oO l.prog w K mg base:=⟨lG X G p0 (Wx · T )⟩;have TF:eF l.prog w K mg base:=⟨lG X G p1 (o7 · T )⟩;have TH:fR l.prog w K mg base:=⟨lG X G p2 (Ae · T TF)⟩;have VL:tG l.prog w K mg base:=⟨lG X G p3 (Sx · T TH)⟩;have UT:pA l.prog w K mg base:=⟨lG X G p4 (Oe · T TH)⟩;have US:pC l.prog w K mg base:=⟨lG X G p5 (Qf · T TH)⟩;have XX:Ih l.prog w K mg base:=⟨lG X G p6 (Yu · T TH)⟩;have ZE:Ox l.prog w K mg base:=⟨lG X G p7 (G8 · T )⟩;have WV:vG l.prog w K mg base:=⟨lG X G p8 (Ng · T )⟩;have TK:h9 l.prog w K mg base:=⟨lG X G p9 (Bi · T )⟩;have WS:vZ l.prog w K mg base:=⟨lG X G p10 (Nl · T US)⟩;have XW:Kg l.prog w K mg base:=⟨lG X G p11 (Vo · T VL)⟩;have XG:Al l.prog w K mg base:=⟨lG X G p12 (Rx · T UT)⟩;have XI:Br l.prog w K mg base:=⟨lG X G p13 (Sb · T US UT)⟩;have TU:i5 l.prog w K mg base:=⟨Tw X G p14 (Em · T TF)⟩;have UB:iP l.prog w K mg base:=⟨lG X G p15 (rF · T )⟩;have TR:fQ l.prog w K mg base:=⟨Tw X G p16 (nI · T TF)⟩;have UO:lU l.prog w K mg base:=⟨lG X G p17 (zX · T )⟩;have VH:pX l.prog w K mg base:=⟨Tw X G p18 (Lf · T XE)⟩;have VQ:oD l.prog w K mg base:=⟨lG X G p19 (yC · T )⟩;have UM:jS l.prog w K mg base:=⟨Tw X G p20 (uX · T TU UB)⟩;have VY:qS l.prog w K mg base:=⟨Tw X G p21 (Am · T UM TR VH TU)⟩;have VR:oP l.prog w K mg base:=⟨Tw X G p22 (yD · T VY)⟩;have VM:nA l.prog w K mg base:=⟨lG X G p23 (uS · T TU VH TR UB)⟩;have VT:tV l.prog w K mg base:=⟨lG X G p24 (Pa · T TK)⟩;have UX:nW l.prog w K mg base:=⟨lG X G p25 (Fd · T TK)⟩;have WH:t6 l.prog w K mg base:=⟨lG X G p26 (Ep · T VQ UO VT UX TK WR ZC)⟩;have WD:vR l.prog w K mg base:=⟨HR X G p27 (Ln · T VT UX TK)⟩;have VO:qR l.prog w K mg base:=⟨GY X G p28 (Aw · T XW WS XG)⟩;have VS:pH l.prog w K mg base:=⟨lG X G p29 (xX · T )⟩;have VU:uC l.prog w K mg base:=⟨lG X G p30 (Dv · T XX UT)⟩;have VN:m7 l.prog w K mg base:=⟨GY X G p31 (uQ · T VM WH WD VU WJ)⟩;have UP:kN l.prog w K mg base:=⟨lG X G p32 (xB · T VR VS VN VO TH (Ry n_tri))⟩;have YJ:Uh l.prog w K mg base:=⟨lG X G p33 (R3 · T UP)⟩;have TZ:kD l.prog w K mg base:=⟨lG X G p34 (Qt · T )⟩;have XH:Kk l.prog w K mg base:=⟨lG X G p35 (Xc · T TZ)⟩;have WK:Dd l.prog w K mg base:=⟨lG X G p36 (Rl · T TZ)⟩;have UL:lP l.prog w K mg base:=⟨lG X G p37 (Bb · T TZ)⟩;have VA:sF l.prog w K mg base:=⟨lG X G p38 (Vp · T XH)⟩;have XY:Ig l.prog w K mg base:=⟨lG X G p39 (Zd · T WK)⟩;have UA:jZ l.prog w K mg base:=⟨lG X G p40 (u7 · T UL)⟩;have UW:lX l.prog w K mg base:=⟨Tw X G p41 (Df · T )⟩;have UU:l9 l.prog w K mg base:=⟨lG X G p42 (Ap · T TM TZ)⟩;have WT:wY l.prog w K mg base:=⟨lG X G p43 (Lo · T TM UU VA)⟩;have XZ:Il l.prog w K mg base:=⟨lG X G p44 (Yl · T TM WT VA UA XY)⟩;have WA:rD l.prog w K mg base:=⟨Tw X G p45 (Ai · T VL)⟩;have VC:lZ l.prog w K mg base:=⟨Tw X G p46 (sL · T US WA XI)⟩;have VB:lI l.prog w K mg base:=⟨lG X G p47 (sP · T UM UO)⟩;have WL:Ao l.prog w K mg base:=⟨lG X G p48 (Pm · T TU VB (W.mg_none_of X G z_any))⟩;have VV:sR l.prog w K mg base:=⟨Tw X G p49 (Fv · T UP VC)⟩;have WB:qQ l.prog w K mg base:=⟨Tw X G p50 (Bo · T UW)⟩;have WU:Km l.prog w K mg base:=⟨HB X G p51 (Xi · T VA UA UW)⟩;have WW:vH l.prog w K mg base:=⟨HB X G p52 (Nj · T YJ VV WL WU UL)⟩;exact (T8 F53 T WV ZE TM XZ WB TZ UU WW).imp Q7
theorem EF {l:W.OpenLaw} {q:QJ} {loose:List Str} {XP:(Str->Option Value)->Heap->Prop} {YP:QM->Heap->Prop} {d:DefRec} {K:Params->W.Frag} (hn:l.most=some 63) (jl:d.params.defaults=[])
  (hY:∀(w:QM) (h:Heap),YP w h->(K w.params).In h)
  (F:∀(w:QM) (mg:Str->Option Value) (fa:QF) (h:Heap),(K w.params).In h->h.Ns QR mg->mg d.name=some (.ref fa)->
   ∃fd:QK,(∀(s:Shared) (u:Value),BindsTo s fd ⟨[u],[]⟩ [("_law_script",u)])/\∀base:Heap,(K w.params).In base->base.Ns QR mg->bJ l.prog w (K w.params) mg base fF 9 fa fd ["_law_script"] (Jv (K w.params))) :
  W.WalkO q loose XP YP l.row.toRowW d [] (λf vs=>PySem.call f vs):=
 L2.Yk (n:=63) (k:=9) (x:="_law_script") (CX:=λ_=>fF) (sp:=λw=>Jv (K w.params)) hn (by decide) jl ⟨rfl,by decide,by decide,rfl⟩ hY F (λ_ _ a ns hl _ hS=>⟨a,ns,rfl,hS,hl,λ_=>rfl⟩) λ_ _ _ _ _ z=>z
end My
namespace PySem.W.Fast
def tw3107891875470473736:=0
def tw17086971062760478920:=0
def tw2923630819190480397:=0
def tw17836612361672838305:=0
def tw5783469178045312742:=0
def tw1853318104754006573:=0
def tw9170734199222309153:=0
def tw7045599217123128815:=0
def tw13782403249811442752:=0
def tw18072062597698980139:=0
def tw3232895182102083336:=0
def tw2655821580705203680:=0
def tw4968551755670375286:=0
def tw8771321016820876887:=0
def tw5653862144458890464:=0
def tw13502277692585341800:=0
def tw8377383245526975251:=0
def tw2274082687780394778:=0
def tw2668414952801855292:=0
def tw4108227216957722545:=0
def tw3175366727778881915:=0
def tw10135316404348707450:=0
def tw14871518251951824474:=0
def tw13385351525733543701:=0
def tw17343283884103777932:=0
def tw12557663155954906065:=0
def tw17749289598743987837:=0
def tw14316849365546112131:=0
def tw12844348823417034346:=0
def tw13307379483777685230:=0
def tw16775451824938419985:=0
def tw1344854067555327822:=0
def tw12742125417348972354:=0
def tw8736831290552982818:=0
def tw6203294073561744587:=0
def tw8271930594698901693:=0
def tw2541300261693144300:=0
def tw18269497956461753474:=0
def tw13754707658634051214:=0
def tw2990653324355136990:=0
def tw2414537601621523747:=0
def tw12632976117301121412:=0
def tw4389941844864921665:=0
def tw2262393904800786633:=0
def tw401232257846897937:=0
def tw5971303102342575311:=0
def tw4791921806235474168:=0
def tw18183549551031382167:=0
def tw10386932914241378646:=0
def tw6460300203357604842:=0
def tw4709736463246049861:=0
def tw6459463496368162363:=0
def tw17569080415313114051:=0
def tw16652030061452818618:=0
def tw1471019625057497906:=0
def tw10326923913749361786:=0
def tw2820084708020858088:=0
def tw11840742493265534711:=0
def tw4878113550941597732:=0
def tw7580808148043071313:=0
def tw14286352976375155183:=0
def tw2250381947408625137:=0
def tw1103049501446304861:=0
def tw13864501932560703091:=0
def tw5838174455247213740:=0
def tw721800562042292740:=0
def tw6273872793076516785:=0
def tw9557364626445454845:=0
def tw16868186496430724707:=0
def tw8986377324163380274:=0
def tw14675789122613728560:=0
def tw15792521959953285233:=0
def tw11240768729594966920:=0
def tw1302629835217596038:=0
def tw6859526898524822352:=0
def tw6098420757067444971:=0
def tw3664336357781990648:=0
def tw18220847750416117501:=0
def tw12108320048700927334:=0
def tw18185048329632166210:=0
def tw5621004229632219064:=0
def tw3490548404307268074:=0
def tw3758457396704510405:=0
def tw3749528977857842886:=0
def tw11198826746916282541:=0
def tw10080443106932242444:=0
def tw9840860481918849525:=0
def tw11615762502630590714:=0
def tw14075343590469277295:=0
def tw2557473034034040799:=0
def tw2564695751046730865:=0
end PySem.W.Fast
open PySem PySem.W PyProof.Rows
set_option maxRecDepth 100000 in
set_option maxHeartbeats 0 in
theorem PySem.Challenge.cw_sidecut_k30_moved_and_turned_holds : PySem.Challenge.rw_sidecut_k30_moved_and_turned.Holds := by
 w_on; o_law; k_head; (case hw => w_witness2)
 k_fill
 refine My.EF (l := PySem.Challenge.rw_sidecut_k30_moved_and_turned) rfl rfl (λw h Y => PySem.W.kIn_of Y) ?F
 case F =>
  intro w mg fa h KX G hmg
  refine' My.N3 KX G hmg ?p0 ?p1 ?p2 ?p3 ?p4 ?p5 ?p6 ?p7 ?p8 ?p9 ?p10 ?p11 ?p12 ?p13 ?p14 ?p15 ?p16 ?p17 ?p18 ?p19 ?p20 ?p21 ?p22 ?p23 ?p24 ?p25 ?p26 ?p27 ?p28 ?p29 ?p30 ?p31 ?p32 ?p33 ?p34 ?p35 ?p36 ?p37 ?p38 ?p39 ?p40 ?p41 ?p42 ?p43 ?p44 ?p45 ?p46 ?p47 ?p48 ?p49 ?p50 ?p51 ?p52 ?p53 ?q_NOUGHT ?r_NOUGHT ?q_ONE ?r_ONE ?q_GRID ?n_tri ?q_W ?r_W ?r_W1 ?r_W2 ?z_isinstance ?z_abs ?z_divmod ?z_min ?z_max ?z_all ?z_len ?z_int ?z_bool ?z_tuple ?z_list ?z_str ?z_range ?z_enumerate ?z_zip ?z_any
  any_goals exact My.fc rfl rfl rfl rfl
  (case q_NOUGHT => k_is)
  (case r_NOUGHT => k_is)
  (case q_ONE => k_is)
  (case r_ONE => k_is)
  (case q_GRID => k_is)
  (case n_tri => kernel_rfl)
  (case q_W => k_is)
  (case r_W => k_is)
  (case r_W1 => k_is)
  (case r_W2 => k_is)
  (case z_isinstance => k_is)
  (case z_abs => k_is)
  (case z_divmod => k_is)
  (case z_min => k_is)
  (case z_max => k_is)
  (case z_all => k_is)
  (case z_len => k_is)
  (case z_int => k_is)
  (case z_bool => k_is)
  (case z_tuple => k_is)
  (case z_list => k_is)
  (case z_str => k_is)
  (case z_range => k_is)
  (case z_enumerate => k_is)
  (case z_zip => k_is)
  (case z_any => k_is)
#print axioms PySem.Challenge.cw_sidecut_k30_moved_and_turned_holds
