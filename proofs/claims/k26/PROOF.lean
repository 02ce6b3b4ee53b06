import PyProof.Rows.All
import Wide.All
import OpenK.AllK
import Wide.FinOn
import Lean
import PyProof.EqAt
import PyProof.EqKinds
import PyProof.TupleCall
import PyProof.NeKinds
import PyProof.ExcInit
import PyProof.Rows.SortStr
import PyProof.Rows.SortWalk
import PyProof.Rows.RuleB_bool
import PyProof.Rows.SortShellK
import KE.KIntText
import KE.KIsAll
import PyProof.AttrMissHeap
import PyProof.CompUse
import PyProof.Rows.CountFlat
import PySem.Challenge.RW_sidecut_k26_sizes_by_slabs
set_option Elab.async false
set_option linter.all false
set_option bootstrap.genMatcherCode false
set_option compiler.extract_closed false
set_option maxRecDepth 100000
set_option maxHeartbeats 4000000
open List renaming mem_map -> SS, mem_cons -> SU, length_map -> SV, getElem?_eq_some_iff -> SW, getElem?_eq_getElem -> SX, mem_of_getElem? -> SY, length_cons -> TB, length_append -> TC, append_assoc -> TF, map_cons -> TH, mem_append_right -> TK, mem_filter -> TL, mem_singleton -> TM, mem_zipIdx_iff_getElem? -> TQ, getElem?_map -> TR, size_toArray -> TU, getD_eq_getElem?_getD -> TV, mem_append -> TY, map_map -> UA, mem_flatMap -> UC, mem_append_left -> UD, getElem?_append_left -> UE, append_nil -> UH, mem_cons_of_mem -> UI, filterMap_cons_none -> UJ, getElem?_set_ne -> UK, pairwise_cons -> UL, filter_cons_of_pos -> UM, length_take -> UP, sum_cons -> UQ, length_nil -> UR, map_append -> US, flatMap_cons -> UT, replicate -> UY, filterMap_cons_some -> UZ, getElem?_set_self -> VA, filter_cons_of_neg -> VC, range -> VF, getElem?_append_right -> VG, mem_of_mem_take -> VH, getElem?_of_mem -> VI, mem_range -> VL, map_congr_left -> VM, foldl_cons -> VN, nil_append -> VO, length_singleton -> VQ, all_eq_true -> VS, drop_eq_getElem_cons -> VT, length_filter_le -> VV, mem_cons_self -> VX, of_mem_zip -> VY, getElem_mem -> WA, eq_nil_of_length_eq_zero -> WC, getElem?_take_of_lt -> WD, length_tail -> WI, take_of_length_le -> WJ, nodup_cons -> WK, length_drop -> WL, lookup_cons -> WN, mem_flatten -> WS, mem_of_mem_tail -> WT, not_mem_nil -> WU, drop_length -> WV, filter_eq_nil_iff -> WW, getElem?_take_eq_none -> WY, map_nil -> XD, cons_append -> XF, getElem?_range -> XH, map_take -> XI, filterMap_map -> XM, getElem?_set -> XS, length_replicate -> XU, getElem?_eq_none -> XZ, any_eq_true -> YA, set_comm -> YB, map_tail -> YC, take_succ_cons -> YE, mem_filterMap -> YG, filter_append -> YI, reverse_cons -> YM, length -> YO, range_succ_eq_map -> YQ, any_cons -> YS, eraseIdx_eq_take_drop_succ -> YV, length_set -> YW, find?_cons -> YX, set_append_left -> YY, length_zip -> ZE, filterMap_cons -> ZG, mem_map_of_mem -> ZH, drop_succ_cons -> ZI, drop_zero -> ZK, length_zipIdx -> ZR, map_drop -> ZV, getElem?_inj -> ZX, length_range -> ZY, pairwise_map -> ZZ, getElem?_eq_none_iff -> aa, getElem?_zip_eq_some -> af, zip_map -> ar, zipIdx_cons -> au, length_filterMap_le -> av, length_erase_of_mem -> aw, getElem?_replicate -> ax, length_eq_zero_iff -> ay, pairwise_singleton -> bb, length_pos_of_mem -> bu, nodup_nil -> cg
open PySem.Heap renaming get?_push_of_some -> TJ, lt_size -> TZ, get?_push_size -> UG, SameBut -> XC, get?_update_self -> XX, size_push -> XY, get?_update_other -> bj, ExtBut -> bo
open Nat renaming le_refl -> TN, lt_of_lt_of_le -> UB, lt_of_le_of_lt -> UN, ne_of_lt -> UW, le_of_lt -> UX, gcd -> VB, le_trans -> VE, mod_eq_of_lt -> VJ, mul_le_mul -> VR, zero_le -> VZ, pow_le_pow_right -> WH, gcd_dvd_left -> WO, gcd_dvd_right -> WQ, lt_or_ge -> WR, mod_lt -> XA, gcd_pos_of_pos_right -> XE, add_mod_right -> XT, zero_add -> YJ, Coprime -> YR, mul_assoc -> YT, eq_of_beq_eq_true -> YU, gcd_comm -> YZ, max_le -> ZC, min_eq_left -> ZD, mod_self -> ZF, beq -> ZJ, mul_pos -> ZM, eq_zero_or_pos -> ZN, max -> ag, succ_le_succ -> ah, dvd_mul_left -> ak, log2 -> ao, le_mul_of_pos_right -> bf, not_lt_zero -> bg, log2_lt -> br
open Bool renaming and_eq_true -> UU, false_eq_true -> WM, false_ne_true -> XJ, eq_iff_iff -> XQ, not_eq_true' -> XR, or_eq_true -> YF, and_false -> bw
open Int renaming ofNat_dvd_left -> VD, toNat_natCast -> VP, natAbs_mul -> VW, mul_ediv_cancel_left -> WG, fdiv_eq_ediv_of_nonneg -> WX, natAbs_neg -> XB, mul_ne_zero -> XO, mul_assoc -> YD, mul_nonpos_of_nonneg_of_nonpos -> YN, mul_pos -> ZL, emod_lt_of_pos -> ZO, natAbs_natCast -> ZP, ediv_eq_of_eq_mul_right -> ZS, fmod_eq_emod_of_nonneg -> ZU, eq_of_mul_eq_mul_left -> ae, lt_or_le -> aj, mul_fdiv_cancel_left -> aq, emod_nonneg -> bh
open PySem.Value renaming ref -> VU, none -> YK
open Or renaming inl -> WE, inr -> WZ
open Array renaming length_toList -> XG, toList -> cj
open PySem.Obj renaming mapSeq -> XN
open PySem.Str renaming ofString -> XW
open PySem.Txt renaming slice -> YH
open Option renaming bind_eq_some_iff -> YL
open PyProof.Rows renaming assignInOrder_cons -> gv, envOfC -> je, AllBare -> jg, assignInOrder_nil -> jw
open PySem renaming Addr -> ck, wpAny_bind -> cm, wpAny_pure -> cn, wpAny -> cq, sizeLine -> cw, Program -> da, mainGlobals -> de, model -> df, Stmt -> dh, World -> dk, assignEach -> dq, foldedSetIterable -> dr, starEach -> du, eval -> dw, behindInMarks -> eh, FuncData -> fe, wpAny_newObj_type -> fh, compareOp -> fi, wpAny_holding -> fj, attributeBase -> fm, swapsWith -> fo, sliceBounds -> fq, swapsWithSole -> fu, swappedStores -> fw, wpAny_field -> gc, binaryOp -> gf, sysModules -> gj, bootBuiltins -> gr, wpAny_passesOwn -> gy, assign -> ic, holding -> ig, wpAny_mono -> ik, wpAny_truthy_bool -> ip, Scope -> iq, bindName -> ir, wpAny_call_entry -> iu, backTo -> iw, assignInOrder -> iy, wpAny_standAt -> ja, getItem -> jc, wpAny_pyIter_tuple -> jd, wpAny_setField_rec -> jf, wpAny_rule -> jh, wpAny_bindName -> ji, wpAny_seqItems -> jl, subscripted -> jm, cLine -> jn, wpAny_execs_nil -> jq, letOwnedTupleGo -> jr, tupleKind -> jt, wpAny_Call_Name_kw -> ju, evalPart_none -> jv, callerA -> jx, sizeLine_eq -> jy
open Option renaming some -> oZ
set_option hygiene false in
local macro_rules|`(~~~$x)=>`($x P w K mg base)
local macro_rules|`(↑$x)=>`(some (.p (.int $x)))
local macro_rules|`(↥$x)=>`(some (.o false $x))
local macro_rules|`(⇑$x)=>`(some (.p $x))
local macro_rules|`(⋯)=>`(by lia)
local macro_rules|`(∅)=>`(by decide)
theorem oY{p:Prop}[Decidable p](h:p):decide p=true:=decide_eq_true h
theorem oX{p:Prop}[Decidable p](h:¬p):decide p=false:=decide_eq_false h
theorem oV{c:Prop}{_:Decidable c}(h:c){α:Sort u}{t e:α}:ite c t e=t:=if_pos h
theorem oW{c:Prop}{_:Decidable c}(h:¬c){α:Sort u}{t e:α}:ite c t e=e:=if_neg h
open PySem renaming Value -> oA, Shared -> oB, Expr -> oC, Around -> oD, Heap -> oE
namespace L2
open PySem PySem.Spec PyProof.Rows
abbrev Key:=Sum Int Str
def Bc:Key->oA->Bool
 |.inl k,v=>Value.isInt k v
 |.inr x,v=>Value.isStrOf x v
def PH(w:dk):Key->Int
 |.inl k=>hashInt k
 |.inr x=>hashStr w x
theorem dH:∀{k:Key}{v:oA},Bc k v=true->(∃i t,k=Sum.inl i/\v=Value.int i t)\/(∃x t,k=Sum.inr x/\v=Value.str x t)
 |.inl i,v,h=>by
  obtain⟨t,e⟩:=Value.isInt_shape (k:=i) (v:=v) h;exact .inl ⟨i,t,rfl,e⟩
 |.inr x,v,h=>by
  obtain⟨t,e⟩:=Value.isStrOf_shape (x:=x) (v:=v) h;exact .inr ⟨x,t,rfl,e⟩
theorem Tx(i:Int)(t:Tok):Bc (.inl i) (.int i t)=true:=by simp[Bc,Value.isInt]
theorem Tz(x:Str)(t:Tok):Bc (.inr x) (.str x t)=true:=by simp[Bc,Value.isStrOf]
theorem DY(a b:Int):decide ((Sum.inl a:Key)=Sum.inl b)=(a==b):=by
 by_cases e:a=b
 ·subst e;simp
 ·have h:¬(Sum.inl a:Key)=Sum.inl b:=λq=>e (Sum.inl.inj q);rw[oX h];exact(beq_eq_false_iff_ne.mpr e).symm
theorem EB(a b:Str):decide ((Sum.inr a:Key)=Sum.inr b)=decide (a=b):=by
 by_cases e:a=b
 ·subst e;simp
 ·have h:¬(Sum.inr a:Key)=Sum.inr b:=λq=>e (Sum.inr.inj q);rw[oX h,oX e]
theorem DZ(a:Int)(b:Str):decide ((Sum.inl a:Key)=Sum.inr b)=false:=oX (λq=>nomatch q)
theorem EA(a:Str)(b:Int):decide ((Sum.inr a:Key)=Sum.inl b)=false:=oX (λq=>nomatch q)
def fW(prog:da)(w:dk):PySem.KeyKind prog w Key where
 is:=Bc
 hash:=PH w
 inj:=λv a b ha hb=>by
  obtain⟨i,t,rfl,rfl⟩|⟨x,t,rfl,rfl⟩:=dH ha
  ·obtain⟨j,u,rfl,e⟩|⟨y,u,rfl,e⟩:=dH hb
   ·injection e with e1 _;rw[e1]
   ·exact nomatch e
  ·obtain⟨j,u,rfl,e⟩|⟨y,u,rfl,e⟩:=dH hb
   ·exact nomatch e
   ·injection e with e1 _;rw[e1]
 byValue:=λk v h=>by
  rcases dH h with⟨i,t,rfl,rfl⟩|⟨x,t,rfl,rfl⟩<;>rfl
 pyHash:=λhv h=>by
  obtain⟨i,t,rfl,rfl⟩|⟨x,t,rfl,rfl⟩:=dH hv
  ·exact wpAny_pyHash_int h
  ·exact wpAny_pyHash_str h
 eqBool:=λhu hv h=>by
  obtain⟨i,t,rfl,rfl⟩|⟨x,t,rfl,rfl⟩:=dH hu
  ·obtain⟨j,u,rfl,rfl⟩|⟨y,u,rfl,rfl⟩:=dH hv
   ·rw[DY]at h;exact wpAny_eqBool_int h
   ·rw[DZ]at h;exact SeqAt.EqAt.int_str i t y u _ _ _ _ h
  ·obtain⟨j,u,rfl,rfl⟩|⟨y,u,rfl,rfl⟩:=dH hv
   ·rw[EA]at h;exact SeqAt.EqAt.str_int x t j u _ _ _ _ h
   ·rw[EB]at h;exact wpAny_eqBool_str h
 «strs»:=λk x t v h=>by
  obtain⟨i,u,rfl,e⟩|⟨y,u,rfl,e⟩:=dH h
  ·exact nomatch e
  ·injection e with e1 _;subst e1;cases v<;>rfl
theorem Im(prog:da)(w:dk)(i:Int)(t:Tok):(fW prog w).is (.inl i) (.int i t)=true:=Tx i t
theorem Io(prog:da)(w:dk)(x:Str)(t:Tok):(fW prog w).is (.inr x) (.str x t)=true:=Tz x t
inductive V where
 |non|bl (b:Bool)|int (i:Int)|str (x:Str)|byt (b:Array UInt8)|flt (b:UInt64)|ref (a:ck)|ty (n:String)
 deriving DecidableEq
def bP:V->oA->Prop
 |.non,u=>u=YK
 |.bl b,u=>u=Value.bool b
 |.int i,u=>∃t,u=Value.int i t
 |.str x,u=>∃t,u=Value.str x t
 |.byt b,u=>∃t,u=Value.bytes b t
 |.flt b,u=>∃t,u=Value.float b t
 |.ref a,u=>u=VU a
 |.ty n,u=>u=Value.type n
abbrev bB:List V->List oA->Prop:=Paired bP
theorem bB.length(r:bB xs us):xs.length=us.length:=Paired.length r
theorem bB.get:∀{xs:List V}{us:List oA}{i:Nat}{x:V},bB xs us->xs[i]?=oZ x->∃u,us[i]?=oZ u/\bP x u
 |_,_,_,_,.nil,e=>by simp at e
 |_,_,0,_,.cons r _,e=>by simp at e;subst e;exact⟨_,rfl,r⟩
 |_,_,i+1,x,.cons _ t,e=>by
  obtain⟨u,h1,h2⟩:=bB.get (i:=i) (x:=x) t (by simpa using e);exact⟨u,by simpa using h1,h2⟩
theorem bB.set(r:bP x u):∀{xs:List V}{us:List oA}(i:Nat),bB xs us->bB (xs.set i x) (us.set i u)
 |_,_,_,.nil=>.nil
 |_,_,0,.cons _ t=>.cons r t
 |_,_,i+1,.cons q t=>.cons q (bB.set r i t)
theorem bB.append:∀{xs ys:List V}{us ws:List oA},bB xs us->bB ys ws->bB (xs++ys) (us++ws)
 |_,_,_,_,.nil,s=>s
 |_,_,_,_,.cons r t,s=>.cons r (bB.append t s)
theorem bB.take:∀{xs:List V}{us:List oA}(n:Nat),bB xs us->bB (xs.take n) (us.take n)
 |_,_,0,_=>.nil
 |_,_,_+1,.nil=>.nil
 |_,_,n+1,.cons r t=>.cons r (bB.take n t)
theorem bB.drop:∀{xs:List V}{us:List oA}(n:Nat),bB xs us->bB (xs.drop n) (us.drop n)
 |_,_,0,r=>r
 |_,_,_+1,.nil=>.nil
 |_,_,n+1,.cons _ t=>bB.drop n t
def Vr:Option V->Option oA->Prop
 |some v,oZ u=>bP v u
 |none,none=>True
 |_,_=>False
def KV{κ:Type}:List (κ×V)->List (κ×oA)->Prop:=Paired λ(p:κ×V)(q:κ×oA)=>p.1=q.1/\bP p.2 q.2
def kV:Key->V
 |.inl i=>.int i
 |.inr x=>.str x
inductive HO where
 |lst (xs:List V)
 |tup (xs:List V)
 |dK (la:List (Key×V))|dT (la:List (List Key×V))
 |set (S:Int->Bool) (n:Nat)
 |ins (C dx:ck) (fs:List (Str×V))
 |own (x:ck)
 |xd (fs:List (Str×V))
 |met (f x:ck)
 |rng (lo hi:Int)
 |frz (o:Obj) (u:HO)
 |tbl (ps:Array oA)
 |ext (φ:oE->Prop)
abbrev Hp:=ck->Option HO
def upd(H:Hp)(a:ck)(o:HO):Hp:=λb=>if b=a then oZ o else H b
theorem dM:upd H a o a=oZ o:=by unfold upd;rw[oV rfl]
theorem bD(h:b≠a):upd H a o b=H b:=by unfold upd;rw[oW h]
theorem JZ{H:Hp}(h:H a=oZ o)(h':H b=oZ u)(d:o≠u):a≠b:=by
 intro e;subst e;rw[h]at h';exact d (Option.some.inj h')
theorem bF{H:Hp}(h:H a=oZ o)(h':H b=none):a≠b:=by
 intro e;subst e;rw[h]at h';cases h'
section
variable(P:da)(w:dk)
def eY(H:Hp)(h:oE)(a:ck):HO->Prop
 |.lst xs=>xs.length<=cw/\∃(jz:List oA)(n:Nat),bB xs jz/\h.get? a=oZ { cls:=.type "list",data:=.seq jz.toArray n }
 |.tup xs=>xs.length<=cw/\∃jz:List oA,bB xs jz/\IsTup h a jz.toArray
 |.dK la=>la.length<=cw/\(a==gj)=false/\∃vs,KV la vs/\h.DictOf (fW P w) a vs
 |.dT la=>la.length<=cw/\(a==gj)=false/\∃xs:List (List Key×ck×oA),
   Paired (λ(p:List Key×V)(q:List Key×ck×oA)=>p.1=q.1/\H q.2.1=oZ (.tup (p.1.map kV))/\bP p.2 q.2.2) la xs/\
   ∃o es ep,h.get? a=oZ o/\o.ExactDict/\o.data = .dict es ep/\es.toList=xs.map (entryOfKey (jt (fW P w)))/\(xs.map (·.1)).Nodup
 |.set S n=>h.SetOf (intKind P w) a S n
 |.ins C dx fs=>H dx=oZ (.own a)/\fs.length<=1000/\dx≠a/\h.get? a=oZ (W.instObj C dx)/\
   ∃mA,h.Ns1 dx mA/\(∀f,Vr (fs.lookup f) (mA f))/\PySem.Within mA (fs.map (·.1))
 |.own _=>∃o,h.get? a=oZ o
 |.xd fs=>∃mA,h.Ns1 a mA/\∀f,Vr (fs.lookup f) (mA f)
 |.rng lo hi=>∃t u v,h.get? a=oZ { cls:=.type "range",data:=.fields #[.int lo t,.int hi u,.int 1 v] }
 |.frz o u=>h.get? a=oZ o/\eY H h a u
 |.tbl ps=>h.get? a=oZ { cls:=.none,data:=.fields ps }
 |.met f x=>h.get? a=oZ (W.methodObj (.ref f) (.ref x))
 |.ext φ=>φ h/\(∃o,h.get? a=oZ o)/\∀h1 h2:oE,φ h1->(∀o,h1.get? a=oZ o->h2.get? a=oZ o)->φ h2
def pW(H:Hp)(h:oE):Prop:=∀a o,H a=oZ o->eY P w H h a o
end
theorem eY.lt(x:eY P w H h a o):a<h.objs.size:=by
 cases o with
 |lst xs=>obtain⟨_,_,_,_,e⟩:=x;exact TZ e
 |tup xs=>obtain⟨_,_,_,p⟩:=x;exact p.lt
 |dK la=>obtain⟨_,_,_,_,o,_,_,e,_⟩:=x;exact TZ e
 |dT la=>obtain⟨_,_,_,_,o,_,_,e,_⟩:=x;exact TZ e
 |set S n=>obtain⟨o,_,_,_,e,_⟩:=x;exact TZ e
 |ins C dx fs=>obtain⟨_,_,_,e,_⟩:=x;exact TZ e
 |own y=>obtain⟨_,e⟩:=x;exact TZ e
 |xd fs=>obtain⟨_,⟨_,_,_,e,_⟩,_⟩:=x;exact TZ e
 |rng lo hi=>obtain⟨_,_,_,e⟩:=x;exact TZ e
 |frz ob u=>obtain⟨e,_⟩:=x;exact TZ e
 |tbl ps=>exact TZ (show h.get? a=oZ _ from x)
 |met f y=>exact TZ (show h.get? a=oZ _ from x)
 |ext φ=>obtain⟨_,⟨_,e⟩,_⟩:=x;exact TZ e
theorem Paired.mapP{α β:Type}{F G:α->β->Prop}:∀{l₁:List α}{l₂:List β},Paired F l₁ l₂->(∀a b,F a b->G a b)->Paired G l₁ l₂
 |_,_,.nil,_=>.nil
 |_,_,.cons r t,f=>.cons (f _ _ r) (Paired.mapP t f)
theorem eY.stay(x:eY P w H h a o)(k:∀b u,(b=a\/H b=oZ (.own a))->h.get? b=oZ u->h'.get? b=oZ u)(ho:∀b,H b=oZ (.own a)->H' b=oZ (.own a))(ht:∀b xs,H b=oZ (.tup xs)->H' b=oZ (.tup xs)):eY P w H' h' a o:=by
 induction o with
 |lst xs=>obtain⟨z,jz,n,r,e⟩:=x;exact⟨z,jz,n,r,k _ _ (.inl rfl) e⟩
 |tup xs=>obtain⟨z,jz,r,ob,e,c⟩:=x;exact⟨z,jz,r,ob,k _ _ (.inl rfl) e,c⟩
 |dK la=>obtain⟨z,y,vs,r,ob,es,ep,e,c⟩:=x;exact⟨z,y,vs,r,ob,es,ep,k _ _ (.inl rfl) e,c⟩
 |dT la=>
  obtain⟨z,y,xs,r,ob,es,ep,e,c⟩:=x;exact⟨z,y,xs,Paired.mapP r λp q z=>⟨z.1,ht _ _ z.2.1,z.2.2⟩,ob,es,ep,k _ _ (.inl rfl) e,c⟩
 |set S n=>obtain⟨ob,es,ep,t,e,c⟩:=x;exact⟨ob,es,ep,t,k _ _ (.inl rfl) e,c⟩
 |ins C dx fs=>
  obtain⟨d,z,ne,e,mA,⟨od,es,ep,e2,c⟩,r⟩:=x;exact⟨ho _ d,z,ne,k _ _ (.inl rfl) e,mA,⟨od,es,ep,k _ _ (.inr d) e2,c⟩,r⟩
 |own y=>obtain⟨ob,e⟩:=x;exact⟨ob,k _ _ (.inl rfl) e⟩
 |xd fs=>obtain⟨mA,⟨od,es,ep,e,c⟩,r⟩:=x;exact⟨mA,⟨od,es,ep,k _ _ (.inl rfl) e,c⟩,r⟩
 |rng lo hi=>obtain⟨t,u,v,e⟩:=x;exact⟨t,u,v,k _ _ (.inl rfl) e⟩
 |frz ob u ih=>obtain⟨e,q⟩:=x;exact⟨k _ _ (.inl rfl) e,ih q⟩
 |tbl ps=>
  have e:h.get? a=oZ { cls:=.none,data:=.fields ps }:=x;show h'.get? a=oZ { cls:=.none,data:=.fields ps };exact k a _ (.inl rfl) e
 |met f y=>
  have e:h.get? a=oZ (W.methodObj (.ref f) (.ref y)):=x;show h'.get? a=oZ (W.methodObj (.ref f) (.ref y));exact k a _ (.inl rfl) e
 |ext φ=>obtain⟨p,⟨o,e⟩,st⟩:=x;exact⟨st _ _ p λo q=>k _ _ (.inl rfl) q,⟨o,k _ _ (.inl rfl) e⟩,st⟩
theorem pW.lt(x:pW P w H h)(e:H a=oZ o):a<h.objs.size:=(x a o e).lt
theorem pW.fresh(x:pW P w H h)(e:h.objs.size<=a):H a=none:=by
 cases q:H a with
 |none=>rfl
 |some u=>exact absurd (UB (x.lt q) e) (Nat.lt_irrefl _)
theorem pW.kept(x:pW P w H h)(k:∀b u,h.get? b=oZ u->h'.get? b=oZ u):pW P w H h':=λa o e=>
 (x a o e).stay (λb u _ q=>k b u q) (λ_ q=>q) λ_ _ q=>q
theorem pW.laid(x:pW P w H h)(k:∀b u,h.get? b=oZ u->h'.get? b=oZ u)(hp:h.objs.size<=a)(new:eY P w (upd H a o) h' a o):pW P w (upd H a o) h':=λb u e=>by
 have hn:=x.fresh hp
 by_cases hb:b=a
 ·subst hb;rw[dM]at e;cases e;exact new
 ·rw[bD hb]at e;exact(x b u e).stay (λc v _ q=>k c v q) (λc q=>by rw[bD (bF q hn)];exact q) λc xs q=>by rw[bD (bF q hn)];exact q
def Rd(H:Hp)(a:ck)(u:HO):Prop:=H a=oZ u\/∃o,H a=oZ (.frz o u)
theorem Rd.ok(r:Rd H a u)(x:pW P w H h):eY P w H h a u:=by
 obtain r|⟨o,r⟩:=r
 ·exact x a u r
 ·obtain⟨_,q⟩:=x a _ r;exact q
def IA:Option HO->Prop
 |some (.lst _)=>True
 |some (.dK _)=>True
 |some (.dT _)=>True
 |some (.set _ _)=>True
 |some (.ins _ _ _)=>True
 |some (.ext _)=>True
 |_=>False
theorem pW.write(ok:pW P w H h)(mu:IA (H x))(he:e=x\/H e=oZ (.own x))(k:∀b u,b≠e->h.get? b=oZ u->h'.get? b=oZ u)(heo:∃u,h'.get? e=oZ u)(new:eY P w (upd H x o') h' x o'):pW P w (upd H x o') h':=λb u q=>by
 have aCZ:∀c y,H c=oZ (.own y)->c≠x:=λc y r z=>by subst z;rw[r]at mu;exact mu
 have aE8:∀c xs,H c=oZ (.tup xs)->c≠x:=λc xs r z=>by subst z;rw[r]at mu;exact mu
 by_cases hb:b=x
 ·subst hb;rw[dM]at q;cases q;exact new
 ·rw[bD hb]at q
  by_cases hbe:b=e
  ·have q':H b=oZ (.own x):=by
    obtain z|z:=he
    ·exact absurd (hbe.trans z) hb
    ·rw[hbe];exact z
   rw[q]at q';cases q';obtain⟨v,hv⟩:=heo;exact⟨v,by rw[hbe];exact hv⟩
  ·refine(ok b u q).stay (λc v hc r=>k c v ?_ r) (λc r=>by rw[bD (aCZ c b r)];exact r) λc xs r=>by rw[bD (aE8 c xs r)];exact r
   obtain rfl|hc:=hc
   ·exact hbe
   ·rintro rfl;obtain z|z:=he
    ·exact aCZ c b hc z
    ·rw[hc]at z;cases z;exact hb rfl
structure Un(fs ex:List ck)(H H':Hp)(h h':oE):Prop where
 keep:∀b o,h.get? b=oZ o->H b=none->b∉fs->b∉ex->h'.get? b=oZ o
 slot:∀b o,h.get? b=oZ o->H b=none->b∈fs->b∉ex->∃sl,h'.get? b=oZ { o with slots:=sl }
 free:∀b o,h.get? b=oZ o->H b=none->b∉ex->H' b=none
 there:∀b o,h.get? b=oZ o->b∉ex->∃o',h'.get? b=oZ o'
 tups:∀b xs,H b=oZ (.tup xs)->H' b=oZ (.tup xs)
 frzs:∀b o u,H b=oZ (.frz o u)->H' b=oZ (.frz o u)
 tbls:∀b ps,H b=oZ (.tbl ps)->∃more,H' b=oZ (.tbl (ps++more))
theorem Un.any(u:Un fs ex H H1 h h1)(q:h.get? b=oZ ob)(n:H b=none)(hx:b∉ex):∃sl,h1.get? b=oZ { ob with slots:=sl }:=by
 by_cases hb:b∈fs
 ·exact u.slot b ob q n hb hx
 ·exact⟨ob.slots,u.keep b ob q n hb hx⟩
theorem Un.kept(k:∀b u,h.get? b=oZ u->h'.get? b=oZ u):Un fs ex H H h h':=
 ⟨λb ob q _ _ _=>k b ob q,λb ob q _ _ _=>⟨ob.slots,k b ob q⟩,λ_ _ _ n _=>n,λb ob q _=>⟨ob,k b ob q⟩,λ_ _ q=>q,λ_ _ _ q=>q,λ_ ps q=>⟨#[],by rw[q];simp⟩⟩
theorem Un.refl:Un fs ex H H h h:=Un.kept λ_ _ q=>q
theorem Un.laid{fs:List ck}{ex:List ck}{H:Hp}{h:oE}{h':oE}{a:ck}{o:HO}(k:∀b u,h.get? b=oZ u->h'.get? b=oZ u)(hp:h.objs.size<=a)(hn:H a=none):Un fs ex H (upd H a o) h h' where
 keep:=λb u q _ _ _=>k b u q
 slot:=λb u q _ _ _=>⟨u.slots,k b u q⟩
 free:=λb u q n _=>by rw[bD (UW (UB (TZ q) hp))];exact n
 there:=λb u q _=>⟨u,k b u q⟩
 tups:=λb xs q=>by rw[bD (bF q hn)];exact q
 frzs:=λb u xs q=>by rw[bD (bF q hn)];exact q
 tbls:=λb ps q=>⟨#[],by rw[bD (bF q hn),q];simp⟩
theorem Un.write(mu:IA (H x))(he:e=x\/H e=oZ (.own x))(k:∀b u,b≠e->h.get? b=oZ u->h'.get? b=oZ u)(heo:∃u,h'.get? e=oZ u):Un fs ex H (upd H x o) h h':=by
 have hx:∀b,H b=none->b≠x:=λb n z=>by subst z;rw[n]at mu;exact mu
 have hb:∀b,H b=none->b≠e:=λb n z=>by
  subst z;obtain r|r:=he
  ·exact hx b n r
  ·rw[n]at r;cases r
 have hm:∀b u,H b=oZ u->¬IA (oZ u)->b≠x:=λb u q nm z=>by subst z;rw[q]at mu;exact nm mu
 refine⟨λb u q n _ _=>k b u (hb b n) q,λb u q n _ _=>⟨u.slots,k b u (hb b n) q⟩,λb u q n _=>by rw[bD (hx b n)];exact n,λb u q _=>?_,
  λb xs q=>by rw[bD (hm b _ q λz=>z)];exact q,λb u xs q=>by rw[bD (hm b _ q λz=>z)];exact q,λb ps q=>⟨#[],by rw[bD (hm b _ q λz=>z),q];simp⟩⟩
 by_cases hbe:b=e
 ·subst hbe;exact heo
 ·exact⟨u,k b u hbe q⟩
def NS(h:oE)(H:Hp):List ck:=(VF h.objs.size).filter λa=>(H a).isSome
def Ds(h:oE)(H:Hp):oE:=W.hideAll h (NS h H)
theorem Tv(h:oE)(H:Hp):(Ds h H).objs.size=h.objs.size:=W.hideAll_size _ _
theorem Xy(e:h.get? b=oZ o)(n:H b=none):(Ds h H).get? b=oZ o:=
 W.hideAll_get _ e λhm=>by
  have q:(H b).isSome=true:=(TL.mp hm).2;rw[n]at q;simp at q
theorem Q1(e:(Ds h H).get? b=oZ o):h.get? b=oZ o/\H b=none:=by
 have e':h.get? b=oZ o:=W.of_hideAll (NS h H) e;refine⟨e',?_⟩;cases q:H b with
 |none=>rfl
 |some x=>
  have hm:b∈NS h H:=TL.mpr ⟨VL.mpr (TZ e'),by simp[q]⟩;have z:(Ds h H).get? b=none:=W.hideAll_none (NS h H) hm;rw[z]at e;cases e
structure Mod(K:W.Frag)(mg:Str->Option oA)(base:oE):Prop where
 kin:K.In base
 glob:base.Ns de mg
 blt:∃mb,base.Ns builtinsNs mb/\∀x:Str,x≠"__name__"->mb x=gr x
 nolimit:base.NoLimit
structure Cx where
 prog:da
 w:dk
 K:W.Frag
 mg:Str->Option oA
 base:oE
 A:oD
 N:List Str
 s₀:oB
 H₀:Hp
 env:Env
 outer:List Env
 stack:List Env
 ex:List ck
 fn:Str->Bool
 calm:Bool
 pn:List (ck×Obj)
 xe:oA->oB->Prop
def Pk(l:List Env):List ck:=l.filterMap (·.frame)
abbrev Cx.fs(X:Cx):List ck:=Pk X.outer
def CI(sc:iq)(x:Str):Prop:=sc.names.lookup x=oZ .local\/sc.names.lookup x=oZ .cell\/sc.names.lookup x=oZ .free
def y8(sc:iq)(x:Str):Prop:=sc.names.lookup x=oZ .local\/sc.names.lookup x=oZ .cell
def NV(env:Env)(h:oE)(m:Str->Option oA)(x:Str)(u:oA):Prop:=
 (env.kindOf x=oZ .local/\m x=oZ u)\/((env.kindOf x=oZ .cell\/env.kindOf x=oZ .free)/\∃c,env.cells.lookup x=oZ c/\h.IsCell c (oZ u))
structure Cx.Ok(X:Cx):Prop where
 mod:Mod X.K X.mg X.base
 kind:X.env.scope.kind = .function
 glob:X.env.globals=de
 blt:X.env.builtins=builtinsNs
 above:X.s₀.heap.objs.size<=X.env.locals
 inj:∀x y c,X.env.cells.lookup x=oZ c->X.env.cells.lookup y=oZ c->x=y
 has:∀x,(X.env.kindOf x=oZ .cell\/X.env.kindOf x=oZ .free)->∃c,X.env.cells.lookup x=oZ c
 cab:∀x c,X.fn x=true->X.env.cells.lookup x=oZ c->X.s₀.heap.objs.size<=c
 hd:X.calm=true->X.A.handled=none
 frames:X.A.frames=oZ X.stack
 stk:X.stack=X.outer\/(X.stack=X.env::X.outer/\X.env.frame=oZ X.env.locals)
 exf:∀b∈X.ex,b≠X.env.locals/\∀x c,X.env.cells.lookup x=oZ c->c≠b
 bs:∀b o,X.base.get? b=oZ o->X.s₀.heap.get? b=oZ o/\X.H₀ b=none
 bsz:X.base.objs.size<=X.s₀.heap.objs.size
 noex:∀b o,X.base.get? b=oZ o->b∉X.ex
 exfs:∀b∈X.ex,b∉X.fs
 funs:X.s₀.heap.FunFrames X.base X.outer
 frf:∀b∈X.fs,X.H₀ b=none
structure aV(X:Cx)(pins:List (ck×Obj))(σ:List (Option V))(H:Hp)(s:oB):Prop where
 ok:X.Ok
 os:s.os=X.s₀.os
 bare:jg s.gens
 base:Un X.fs X.ex X.H₀ H X.s₀.heap s.heap
 loc:∃m,s.heap.Ns X.env.locals m/\∀(i:Nat)(x:Str)(v:V),X.N[i]?=oZ x->σ[i]?=oZ (oZ v)->CI X.env.scope x->∃u,bP v u/\NV X.env s.heap m x u
 cell:∀x c,X.env.cells.lookup x=oZ c->∃v,s.heap.IsCell c v
 free:H X.env.locals=none
 freeC:∀x c,X.env.cells.lookup x=oZ c->H c=none
 pin:∀p∈X.pn++pins,s.heap.get? p.1=oZ p.2/\H p.1=none/\p.1≠X.env.locals/\p.1∉X.fs/\∀v,p.2.data≠.cell v
 hok:pW X.prog X.w H s.heap
 len:σ.length=X.N.length
theorem Cx.Ok.nofr{X:Cx}(ok:X.Ok)(e:X.base.get? b=oZ o):b∉X.fs:=λhb=>by
 have:=(ok.funs.mem hb).1;rw[e]at this;cases this
theorem aV.bs(I:aV X pins σ H s):∀b o,X.base.get? b=oZ o->s.heap.get? b=oZ o/\H b=none:=λb o e=>
 ⟨I.base.keep b o (I.ok.bs b o e).1 (I.ok.bs b o e).2 (I.ok.nofr e) (I.ok.noex b o e),I.base.free b o (I.ok.bs b o e).1 (I.ok.bs b o e).2 (I.ok.noex b o e)⟩
theorem aV.bk(I:aV X pins σ H s):∀b o,X.base.get? b=oZ o->s.heap.get? b=oZ o:=λb o e=>(I.bs b o e).1
theorem aV.mod(I:aV X pins σ H s):Mod X.K X.mg X.base:=I.ok.mod
theorem aV.kIn(I:aV X pins σ H s):X.K.In s.heap:=I.ok.mod.kin.keeps I.bk
theorem aV.lt(I:aV X pins σ H s):X.env.locals<s.heap.objs.size:=let⟨_,hn,_⟩:=I.loc;hn.lt
theorem aV.sz(I:aV X pins σ H s):X.s₀.heap.objs.size<=s.heap.objs.size:=VE I.ok.above (UX I.lt)
theorem aV.nofs(I:aV X pins σ H s)(h:s.heap.objs.size<=a):a∉X.fs:=λhb=>by
 obtain⟨_,o,ho,_⟩:=I.ok.funs.mem hb;exact absurd (UB (TZ ho) (VE I.sz h)) (Nat.lt_irrefl _)
theorem aV.cne(I:aV X pins σ H s):∀x c,X.env.cells.lookup x=oZ c->c≠X.env.locals:=λx c e z=>by
 obtain⟨v,o,ho,hd⟩:=I.cell x c e;obtain⟨m,⟨o',es,ep,wm,hd',_⟩,_⟩:=I.loc;rw[z,wm]at ho;cases ho;rw[hd']at hd;cases hd
theorem aV.funs(I:aV X pins σ H s):s.heap.FunFrames X.base X.outer:=by
 have all:∀(l:List Env),(∀b∈Pk l,b∈X.fs)->X.s₀.heap.FunFrames X.base l->s.heap.FunFrames X.base l:=by
  intro l
  induction l with
  |nil=>intro _ _;trivial
  |cons env r ih=>
   intro hs hl;obtain⟨hk,⟨L,o,hf,hn,ho,hd⟩,hr⟩:=hl;have hL:L∈X.fs:=hs L (by unfold Pk;rw[ZG,hf];exact VX);obtain⟨sl,e⟩:=I.base.slot L o ho (I.ok.frf L hL) hL λz=>I.ok.exfs L z hL;exact⟨hk,⟨L,_,hf,hn,e,hd⟩,ih (λb hb=>hs b (by unfold Pk;rw[ZG,hf];exact UI _ hb)) hr⟩
 exact all X.outer (λ_ hb=>hb) I.ok.funs
theorem aV.stack(I:aV X pins σ H s):s.heap.FunFrames X.base X.stack:=by
 obtain e|⟨e,hf⟩:=I.ok.stk
 ·rw[e];exact I.funs
 ·rw[e];obtain⟨m,hn,_⟩:=I.loc;refine .cons (by rw[I.ok.kind];decide) hf hn ?_ I.funs;exact Heap.get?_none_of_le (VE I.ok.bsz I.ok.above)
theorem aV.stkSub(I:aV X pins σ H s):∀b∈Pk X.stack,b∈X.env.locals::X.fs:=λb hb=>by
 obtain e|⟨e,hf⟩:=I.ok.stk
 ·rw[e]at hb;exact UI _ hb
 ·rw[e]at hb;unfold Pk at hb;rw[ZG,hf]at hb;exact hb
theorem aV.stkFree(I:aV X pins σ H s):∀b∈Pk X.stack,H b=none:=λb hb=>by
 obtain e|hb:=SU.mp (I.stkSub b hb)
 ·rw[e];exact I.free
 ·obtain⟨_,o,ho,_⟩:=I.ok.funs.mem hb;exact I.base.free b o ho (I.ok.frf b hb) λz=>I.ok.exfs b z hb
theorem aV.step{X:Cx}{pins:List (ck×Obj)}{σ:List (Option V)}{H:Hp}{H':Hp}{s:oB}{h':oE}{g':Array GenState}{t':Nat}{ch:List ck}(I:aV X pins σ H s)(hch:∀b∈ch,(b∈X.ex\/X.s₀.heap.objs.size<=b)/\b≠X.env.locals/\(∀x c,X.env.cells.lookup x=oZ c->c≠b)/\∀p∈X.pn++pins,p.1≠b)(keep:∀b o,b≠X.env.locals->b∉X.fs->b∉ch->s.heap.get? b=oZ o->H b=none->h'.get? b=oZ o)(slot:∀b o,b≠X.env.locals->b∈X.fs->b∉ch->s.heap.get? b=oZ o->H b=none->∃sl,h'.get? b=oZ { o with slots:=sl })(free:∀b o,b∉ch->s.heap.get? b=oZ o->H b=none->H' b=none)(there:∀b o,b∉ch->s.heap.get? b=oZ o->∃o',h'.get? b=oZ o')(tups:∀b xs,H b=oZ (.tup xs)->H' b=oZ (.tup xs))(frzs:∀b o u,H b=oZ (.frz o u)->H' b=oZ (.frz o u))(tbls:∀b ps,H b=oZ (.tbl ps)->∃more,H' b=oZ (.tbl (ps++more)))(ns:∀m,s.heap.Ns X.env.locals m->h'.Ns X.env.locals m)(hok:pW X.prog X.w H' h')(hg:jg g'):
  aV X pins σ H' { s with heap:=h',gens:=g',drawn:=d',toks:=t' }:=by
 have neL:∀b o,X.s₀.heap.get? b=oZ o->b≠X.env.locals:=λb o e=>UW (UB (TZ e) I.ok.above);have neC:∀b o,X.s₀.heap.get? b=oZ o->b∉X.ex->b∉ch:=λb o e hx hb=>by
  rcases(hch b hb).1 with z|z
  ·exact hx z
  ·exact absurd (UB (TZ e) z) (Nat.lt_irrefl _)
 have cellK:∀x c,X.env.cells.lookup x=oZ c->∀v,s.heap.IsCell c v->h'.IsCell c v:=λx c e v zZ=>by
  obtain⟨o,ho,hd⟩:=zZ;have nch:c∉ch:=λz=>(hch c z).2.2.1 x c e rfl
  by_cases hc:c∈X.fs
  ·obtain⟨sl,q⟩:=slot c o (I.cne x c e) hc nch ho (I.freeC x c e);exact⟨_,q,hd⟩
  ·exact⟨o,keep c o (I.cne x c e) hc nch ho (I.freeC x c e),hd⟩
 refine⟨I.ok,I.os,hg,⟨λb o e n hb hx=>?_,λb o e n hb hx=>?_,λb o e n hx=>?_,λb o e hx=>?_,λb xs e=>tups b xs (I.base.tups b xs e),λb o xs e=>frzs b o xs (I.base.frzs b o xs e),λb ps e=>?_⟩,?_,λx c e=>?_,?_,λx c e=>?_,λp hp=>?_,hok,I.len⟩
 ·exact keep b o (neL b o e) hb (neC b o e hx) (I.base.keep b o e n hb hx) (I.base.free b o e n hx)
 ·obtain⟨sl,e1⟩:=I.base.slot b o e n hb hx;obtain⟨sl',e2⟩:=slot b _ (neL b o e) hb (neC b o e hx) e1 (I.base.free b o e n hx);exact⟨sl',e2⟩
 ·obtain⟨o',e1⟩:=I.base.there b o e hx;exact free b o' (neC b o e hx) e1 (I.base.free b o e n hx)
 ·obtain⟨o',e1⟩:=I.base.there b o e hx;exact there b o' (neC b o e hx) e1
 ·obtain⟨m1,e1⟩:=I.base.tbls b ps e;obtain⟨m2,e2⟩:=tbls b _ e1;exact⟨m1++m2,by rw[e2,Array.append_assoc]⟩
 ·obtain⟨m,hn,hl⟩:=I.loc;refine⟨m,ns m hn,λi x v e1 e2 e3=>?_⟩;obtain⟨u,r,l⟩:=hl i x v e1 e2 e3;refine⟨u,r,?_⟩;obtain l|⟨k,c,e,z⟩:=l
  ·exact .inl l
  ·exact .inr ⟨k,c,e,cellK x c e _ z⟩
 ·obtain⟨v,z⟩:=I.cell x c e;exact⟨v,cellK x c e v z⟩
 ·obtain⟨m,⟨o,_,_,ho,_⟩,_⟩:=I.loc;exact free _ o (λz=>(hch _ z).2.1 rfl) ho I.free
 ·obtain⟨v,o,ho,hd⟩:=I.cell x c e;exact free c o (λz=>(hch c z).2.2.1 x c e rfl) ho (I.freeC x c e)
 ·obtain⟨e,n,ne,nf,d⟩:=I.pin p hp;have nch:p.1∉ch:=λz=>(hch p.1 z).2.2.2 p hp rfl;exact⟨keep p.1 p.2 ne nf nch e n,free p.1 p.2 nch e n,ne,nf,d⟩
theorem aV.un(I:aV X pins σ H s)(u:Un X.fs [] H H' s.heap h')(hok:pW X.prog X.w H' h'):aV X pins σ H' { s with heap:=h',toks:=t' }:=by
 obtain⟨m,⟨o,es,ep,ho,r⟩,_⟩:=id I.loc;obtain⟨sl,hL⟩:=u.any ho I.free (by simp);exact I.step (g':=s.gens) (d':=s.drawn) (ch:=[]) (λ_ z=>nomatch z) (λb o _ hb _ e n=>u.keep b o e n hb (by simp)) (λb o _ hb _ e n=>u.slot b o e n hb (by simp)) (λb o _ e n=>u.free b o e n (by simp)) (λb o _ e=>u.there b o e (by simp)) u.tups u.frzs u.tbls (λm' hm=>by
  obtain⟨o',xu,ep',wm,r'⟩:=hm;rw[ho]at wm;cases wm;exact⟨_,xu,ep',hL,r'⟩) hok I.bare
theorem aV.call(I:aV X pins σ H s)(u:Un (Pk X.stack) ch H H' s.heap h')(hok:pW X.prog X.w H' h')(hg:jg g')(hch:∀b∈ch,(b∈X.ex\/X.s₀.heap.objs.size<=b)/\b≠X.env.locals/\(∀x c,X.env.cells.lookup x=oZ c->c≠b)/\∀p∈X.pn++pins,p.1≠b):
  aV X pins σ H' { s with heap:=h',gens:=g',drawn:=d',toks:=t' }:=by
 obtain⟨m,⟨o,es,ep,ho,r⟩,_⟩:=id I.loc;obtain⟨sl,hL⟩:=u.any ho I.free λz=>(hch _ z).2.1 rfl;exact I.step (ch:=ch) hch (λb o hL hb hc e n=>u.keep b o e n (λz=>(SU.mp (I.stkSub b z)).elim hL hb) hc) (λb o _ _ hc e n=>u.any e n hc) (λb o hc e n=>u.free b o e n hc) (λb o hc e=>u.there b o e hc) u.tups u.frzs u.tbls (λm' hm=>by
  obtain⟨o',xu,ep',wm,r'⟩:=hm;rw[ho]at wm;cases wm;exact⟨_,xu,ep',hL,r'⟩) hok hg
theorem aV.turned(I:aV X pins σ H s)(k:∀b o,b≠it->s.heap.get? b=oZ o->h'.get? b=oZ o)(hn:H it=none)(hL:it≠X.env.locals)(h1:it∈X.ex\/X.s₀.heap.objs.size<=it)(h2:∀x c,X.env.cells.lookup x=oZ c->c≠it)(h3:∀p∈X.pn++pins,p.1≠it):aV X pins σ H { s with heap:=h',toks:=t' }:=by
 have nit:∀b u,H b=oZ u->b≠it:=λb u e z=>by rw[z,hn]at e;cases e
 refine I.step (g':=s.gens) (d':=s.drawn) (ch:=[it]) (λb hb=>?_) (λb o _ _ hc e _=>k b o (λz=>hc (by simp[z])) e) (λb o _ _ hc e _=>⟨o.slots,k b o (λz=>hc (by simp[z])) e⟩) (λ_ _ _ _ n=>n)
  (λb o hc e=>⟨o,k b o (λz=>hc (by simp[z])) e⟩) (λ_ _ e=>e) (λ_ _ _ e=>e) (λb ps e=>⟨#[],by rw[e];simp⟩) (λm hm=>?_) (λb u e=>?_) I.bare
 ·have e:b=it:=by simpa using hb
  subst e;exact⟨h1,hL,h2,h3⟩
 ·obtain⟨o,es,ep,ho,r⟩:=hm;exact⟨o,es,ep,k _ o (Ne.symm hL) ho,r⟩
 ·refine(I.hok b u e).stay (λc v hc q=>k c v ?_ q) (λ_ q=>q) λ_ _ q=>q;obtain z|z:=hc
  ·rw[z];exact nit b u e
  ·exact nit c _ z
theorem aV.tok(I:aV X pins σ H s)(t:Nat):aV X pins σ H { s with toks:=t }:=I.un (h':=s.heap) (t':=t) Un.refl I.hok
theorem aV.kept(I:aV X pins σ H s)(k:∀b u,s.heap.get? b=oZ u->h'.get? b=oZ u):aV X pins σ H { s with heap:=h',toks:=t' }:=I.un (Un.kept k) (I.hok.kept k)
theorem aV.laid(I:aV X pins σ H s)(k:∀b u,s.heap.get? b=oZ u->h'.get? b=oZ u)(hp:s.heap.objs.size<=a)(new:eY X.prog X.w (upd H a o) h' a o):
  aV X pins σ (upd H a o) { s with heap:=h',toks:=t' }:=I.un (Un.laid k hp (I.hok.fresh hp)) (I.hok.laid k hp new)
theorem aV.write(I:aV X pins σ H s)(mu:IA (H x))(he:e=x\/H e=oZ (.own x))(k:∀b u,b≠e->s.heap.get? b=oZ u->h'.get? b=oZ u)(heo:∃u,h'.get? e=oZ u)(new:eY X.prog X.w (upd H x o) h' x o):aV X pins σ (upd H x o) { s with heap:=h',toks:=t' }:=I.un (Un.write mu he k heo) (I.hok.write mu he k heo new)
theorem aV.pins_of(I:aV X pins σ H s)(h:∀p∈pins',s.heap.get? p.1=oZ p.2/\H p.1=none/\p.1≠X.env.locals/\p.1∉X.fs/\∀v,p.2.data≠.cell v):aV X pins' σ H s:=
 ⟨I.ok,I.os,I.bare,I.base,I.loc,I.cell,I.free,I.freeC,λp hp=>(TY.mp hp).elim (λz=>I.pin p (UD _ z)) (h p),I.hok,I.len⟩
theorem Iq{N:List Str}(hN:N.Nodup){i j:Nat}{x:Str}(a:N[i]?=oZ x)(b:N[j]?=oZ x):i=j:=by
 obtain⟨h1,e1⟩:=SW.mp a;obtain⟨h2,e2⟩:=SW.mp b;exact(List.getElem_inj hN).mp (e1.trans e2.symm)
theorem Bv{E:oA->oB->Prop}{Q:Unit->oB->Prop}(I:aV X pins σ H s)(hN:X.N.Nodup)(hi:X.N[i]?=oZ x)(hx:y8 X.env.scope x)(r:bP v u)(h:∀s',aV X pins (σ.set i (oZ v)) H s'->(∃a,XC a s.heap s'.heap/\(a=X.env.locals\/X.env.cells.lookup x=oZ a))->Q () s')(hf:X.fn x=true\/X.env.scope.names.lookup x=oZ .local:=by first|exact .inl rfl|exact .inr rfl|assumption):cq M A (storeName X.env x u) Q E s:=by
 obtain⟨m,hn,hl⟩:=id I.loc;have aFB:(X.env.scope.kind==.class||(X.env.scope.kind==.module&&X.env.locals != X.env.globals))=false:=by rw[I.ok.kind];rfl
 have hiσ:i<σ.length:=by rw[I.len];exact(SW.mp hi).1
 have cne:=I.cne;have tracked:∀{a:ck}{h':oE},(∃o,s.heap.get? a=oZ o/\H a=none)->XC a s.heap h'->pW X.prog X.w H h':=λ{a h'}ha hs b ob e=>by
  obtain⟨_,_,aA0⟩:=ha;refine(I.hok b ob e).stay (λc w' hc q=>(hs.2 c ?_).trans q) (λ_ q=>q) λ_ _ q=>q;rintro rfl;obtain rfl|hc:=hc
  ·rw[aA0]at e;cases e
  ·rw[aA0]at hc;cases hc
 obtain hk|hk:=hx
 ·refine wpAny_storeName_local hk hn (λh' hn' hs=>?_) aFB;obtain⟨oL,_,_,hoL,_⟩:=id hn;refine h _ ⟨I.ok,I.os,I.bare,⟨λb o e n hb hx=>?_,λb o e n hb hx=>?_,I.base.free,λb o e hx=>?_,I.base.tups,I.base.frzs,I.base.tbls⟩,⟨_,hn',λj y v' e1 e2 e3=>?_⟩,λy c e=>?_,I.free,I.freeC,λp hp=>?_,tracked ⟨oL,hoL,I.free⟩ hs,by simpa using I.len⟩ ⟨_,hs,.inl rfl⟩
  ·exact(hs.2 b (UW (UB (TZ e) I.ok.above))).trans (I.base.keep b o e n hb hx)
  ·obtain⟨sl,e1⟩:=I.base.slot b o e n hb hx;exact⟨sl,(hs.2 b (UW (UB (TZ e) I.ok.above))).trans e1⟩
  ·obtain⟨o',e1⟩:=I.base.there b o e hx;exact⟨o',(hs.2 b (UW (UB (TZ e) I.ok.above))).trans e1⟩
  ·by_cases hj:j=i
   ·subst hj;rw[hi]at e1;cases e1;rw[VA hiσ]at e2;cases e2;exact⟨u,r,.inl ⟨hk,by simp⟩⟩
   ·rw[UK (Ne.symm hj)]at e2;obtain⟨u',r',q⟩:=hl j y v' e1 e2 e3;refine⟨u',r',?_⟩;obtain⟨k,e⟩|⟨k,c,e,z⟩:=q
    ·refine .inl ⟨k,?_⟩;have:y≠x:=λe=>hj (Iq hN e1 (e ▸ hi));simp[this,e]
    ·exact .inr ⟨k,c,e,z.sameBut hs (cne y c e)⟩
  ·obtain⟨w',z⟩:=I.cell y c e;exact⟨w',z.sameBut hs (cne y c e)⟩
  ·obtain⟨e,n,ne,nf,d⟩:=I.pin p hp;exact⟨(hs.2 p.1 ne).trans e,n,ne,nf,d⟩
 ·have hfn:X.fn x=true:=by
   obtain z|z:=hf
   ·exact z
   ·rw[z]at hk;cases hk
  obtain⟨c,hc⟩:=I.ok.has x (.inl hk);obtain⟨w',z⟩:=I.cell x c hc;refine wpAny_storeName_cell I.ok.kind hk hc z (λh' vi hs=>?_);obtain⟨oc,hoc,aFC⟩:=id z;refine h { s with heap:=h' } ⟨I.ok,I.os,I.bare,⟨λb o e n hb hx=>?_,λb o e n hb hx=>?_,I.base.free,λb o e hx=>?_,I.base.tups,I.base.frzs,I.base.tbls⟩,⟨m,hn.sameBut hs (Ne.symm (cne x c hc)),λj y v' e1 e2 e3=>?_⟩,λy c' e=>?_,I.free,I.freeC,λp hp=>?_,tracked ⟨oc,hoc,I.freeC x c hc⟩ hs,by simpa using I.len⟩ ⟨c,hs,.inr hc⟩
  ·exact(hs.2 b (UW (UB (TZ e) (I.ok.cab x c hfn hc)))).trans (I.base.keep b o e n hb hx)
  ·obtain⟨sl,e1⟩:=I.base.slot b o e n hb hx;exact⟨sl,(hs.2 b (UW (UB (TZ e) (I.ok.cab x c hfn hc)))).trans e1⟩
  ·obtain⟨o',e1⟩:=I.base.there b o e hx;exact⟨o',(hs.2 b (UW (UB (TZ e) (I.ok.cab x c hfn hc)))).trans e1⟩
  ·by_cases hj:j=i
   ·subst hj;rw[hi]at e1;cases e1;rw[VA hiσ]at e2;cases e2;exact⟨u,r,.inr ⟨.inl hk,c,hc,vi⟩⟩
   ·rw[UK (Ne.symm hj)]at e2;obtain⟨u',r',q⟩:=hl j y v' e1 e2 e3;refine⟨u',r',?_⟩;obtain q|⟨k,c',e,z'⟩:=q
    ·exact .inl q
    ·refine .inr ⟨k,c',e,z'.sameBut hs ?_⟩;rintro rfl;exact hj (Iq hN e1 (I.ok.inj _ _ _ e hc ▸ hi))
  ·by_cases hcc:c'=c
   ·subst hcc;exact⟨_,vi⟩
   ·obtain⟨w2,z2⟩:=I.cell y c' e;exact⟨w2,z2.sameBut hs hcc⟩
  ·obtain⟨e,n,ne,nf,d⟩:=I.pin p hp;refine⟨(hs.2 p.1 ?_).trans e,n,ne,nf,d⟩;intro q;rw[q,hoc]at e;have q':oc=p.2:=Option.some.inj e;exact d w' (by rw[<-q'];exact aFC)
theorem kJ{E:oA->oB->Prop}{Q:Unit->oB->Prop}(I:aV X pins σ H s)(hN:X.N.Nodup)(hi:X.N[i]?=oZ x)(hx:y8 X.env.scope x)(r:bP v u)(h:∀s',aV X pins (σ.set i (oZ v)) H s'->Q () s')(hf:X.fn x=true\/X.env.scope.names.lookup x=oZ .local:=by first|exact .inl rfl|exact .inr rfl|assumption):cq M A (storeName X.env x u) Q E s:=
 Bv I hN hi hx r (λs' I' _=>h s' I') hf
theorem aV.call'(I:aV X pins σ H s)(ho:s'.os=s.os)(u:Un (Pk X.stack) ch H H' s.heap s'.heap)(hok:pW X.prog X.w H' s'.heap)(hg:jg s'.gens)(hch:∀b∈ch,(b∈X.ex\/X.s₀.heap.objs.size<=b)/\b≠X.env.locals/\(∀x c,X.env.cells.lookup x=oZ c->c≠b)/\∀p∈X.pn++pins,p.1≠b):aV X pins σ H' s':=by
 obtain⟨h',g',d',t',o'⟩:=s';have e:o'=s.os:=ho;subst e;exact I.call (g':=g') (t':=t') (d':=d') u hok hg hch
abbrev XK:=oA->Option ck->Hp->Prop
abbrev St:=List (Option V)
abbrev VK:=V->Hp->Prop
abbrev TE:=St->Hp->VK->Prop
abbrev TT:=St->Hp->(Bool->Hp->Prop)->Prop
abbrev TA:=St->Hp->(List V->Hp->Prop)->Prop
structure pV where
 nx:St->Hp->Prop
 rt:VK
 bk:St->Hp->Prop:=λ_ _=>False
 ct:St->Hp->Prop:=λ_ _=>False
abbrev TS:=pV->St->Hp->Prop
def EP(X:Cx)(pins:List (ck×Obj))(σ:St)(Q:VK)(u:oA)(s':oB):Prop:=∃v H',aV X pins σ H' s'/\bP v u/\Q v H'
def TP(X:Cx)(pins:List (ck×Obj))(σ:St)(Q:Bool->Hp->Prop)(b:Bool)(s':oB):Prop:=∃H',aV X pins σ H' s'/\Q b H'
def AP(X:Cx)(pins:List (ck×Obj))(σ:St)(Q:List V->Hp->Prop)(us:List oA)(s':oB):Prop:=∃vs H',aV X pins σ H' s'/\bB vs us/\Q vs H'
def SP(X:Cx)(pins:List (ck×Obj))(D:pV)(f:Flow)(s':oB):Prop:=
 match f with
 |.next=>∃σ' H',aV X pins σ' H' s'/\D.nx σ' H'
 |.brk=>∃σ' H',aV X pins σ' H' s'/\D.bk σ' H'
 |.cont=>∃σ' H',aV X pins σ' H' s'/\D.ct σ' H'
 |.ret u=>∃v σ' H',aV X pins σ' H' s'/\bP v u/\D.rt v H'
def PE(X:Cx)(e:oC)(t:TE):Prop:=
 ∀(pins:List (ck×Obj))(s:oB)(σ:St)(H:Hp)(Q:VK),aV X pins σ H s->t σ H Q->cq (df X.prog X.w) X.A (dw e X.env) (EP X pins σ Q) X.xe s
def PT(X:Cx)(e:oC)(t:TT):Prop:=
 ∀(pins:List (ck×Obj))(s:oB)(σ:St)(H:Hp)(Q:Bool->Hp->Prop),aV X pins σ H s->t σ H Q->cq (df X.prog X.w) X.A (isTrue e X.env (dw e X.env)) (TP X pins σ Q) X.xe s
def PW(X:Cx)(e:oC)(t:TT):Prop:=
 ∀(whole:Sem oA)(pins:List (ck×Obj))(s:oB)(σ:St)(H:Hp)(Q:Bool->Hp->Prop),aV X pins σ H s->t σ H Q->cq (df X.prog X.w) X.A (isTrue e X.env whole) (TP X pins σ Q) X.xe s
theorem PW.pt(h:PW X e t):PT X e t:=h _
def PA(X:Cx)(es:List oC)(t:TA):Prop:=
 ∀(pos:Pos)(pins:List (ck×Obj))(s:oB)(σ:St)(H:Hp)(Q:List V->Hp->Prop),aV X pins σ H s->t σ H Q->cq (df X.prog X.w) X.A (spliced (iw pos (du es X.env))) (AP X pins σ Q) X.xe s
def PS(X:Cx)(st:dh)(t:TS):Prop:=
 ∀(pins:List (ck×Obj))(s:oB)(σ:St)(H:Hp)(D:pV),aV X pins σ H s->t D σ H->cq (df X.prog X.w) X.A (exec st X.env) (SP X pins D) X.xe s
def Oc(X:Cx)(st:List dh)(t:TS):Prop:=
 ∀(pins:List (ck×Obj))(s:oB)(σ:St)(H:Hp)(D:pV),aV X pins σ H s->t D σ H->cq (df X.prog X.w) X.A (execs st X.env) (SP X pins D) X.xe s
theorem dZ{α:Type}{t:Sem α}{Q Q':α->oB->Prop}{M:Model}{A:oD}{E:oA->oB->Prop}{s:oB}(h:cq M A t Q E s)(hQ:∀a s,Q a s->Q' a s):cq M A t Q' E s:=ik h hQ λ_ _ x=>x
section
variable{X:Cx}
def MT(i:Nat):TE:=λσ H Q=>∃v,σ[i]?=oZ (oZ v)/\Q v H
def tC(v:V):TE:=λ_ H Q=>Q v H
theorem Zt(hN:X.N[i]?=oZ x)(hv:CI X.env.scope x)(hd:(x==("__debug__":Str))=false:=by decide)(vj:(x==("__classdict__":Str))=false:=by decide):PE X (.Name x pos) (MT i):=by
 intro pins s σ H Q I h;obtain⟨v,e,h⟩:=h;obtain⟨m,hn,hl⟩:=I.loc;obtain⟨u,r,l⟩:=hl i x v hN e hv;have fin:EP X pins σ Q u s:=⟨v,H,I,r,h⟩;obtain⟨hk,hm⟩|⟨hk,c,hc,xv⟩:=l
 ·exact wpAny_Name (wpAny_loadName_local I.ok.kind hk hn hm fin) hd
 ·obtain hk|hk:=hk
  ·exact wpAny_Name (wpAny_loadName_cell I.ok.kind hk hc xv fin) hd
  ·exact wpAny_Name (wpAny_loadName_free I.ok.kind hk hc xv fin vj) hd
theorem FD{i j pos}:PE X (.Constant (.int i) j pos) (tC (.int i)):=λ_ _ _ H _ I h=>wpAny_Constant_int ⟨.int i,H,I.tok _,⟨_,rfl⟩,h⟩
theorem KI{b j pos}:PE X (.Constant (.bool b) j pos) (tC (.bl b)):=λ_ _ _ H _ I h=>Constant_bool ⟨.bl b,H,I,rfl,h⟩
theorem FH{j pos}:PE X (.Constant .none j pos) (tC .non):=λ_ _ _ H _ I h=>Constant_none ⟨.non,H,I,rfl,h⟩
theorem FK{x j pos}:PE X (.Constant (.str x) j pos) (tC (.str x)):=λ_ _ _ H _ I h=>Calls.Constant_str ⟨.str x,H,I.tok _,⟨_,rfl⟩,h⟩
def Gl(X:Cx)(x:Str):Prop:=X.env.kindOf x=oZ .globalImplicit
theorem Qf{E:oA->oB->Prop}{Q:oA->oB->Prop}(I:aV X pins σ H s)(hg:Gl X x)(hm:X.mg x=oZ u)(h:Q u s)(hd:(x==("__debug__":Str))=false:=by decide):cq (df X.prog X.w) X.A (dw (.Name x pos) X.env) Q E s:=
 Calls.Name_function_global I.ok.kind hg (Calls.loadGlobal_global (by rw[I.ok.glob];exact I.mod.glob.keeps I.bk) hm h) hd
theorem xU{E:oA->oB->Prop}{Q:oA->oB->Prop}(I:aV X pins σ H s)(hg:Gl X x)(hm:X.mg x=none)(hv:gr x=oZ u)(h:Q u s)(hn:x≠"__name__":=by decide)(hd:(x==("__debug__":Str))=false:=by decide):cq (df X.prog X.w) X.A (dw (.Name x pos) X.env) Q E s:=by
 obtain⟨mb,h1,h2⟩:=I.mod.blt;exact Calls.Name_function_global I.ok.kind hg (Calls.loadGlobal_builtin (by rw[I.ok.glob];exact I.mod.glob.keeps I.bk) hm (by rw[I.ok.blt];exact h1.keeps I.bk) ((h2 x hn).trans hv) h) hd
theorem Qo(hg:Gl X x)(hm:X.mg x=oZ u)(r:bP v u)(hd:(x==("__debug__":Str))=false:=by decide):PE X (.Name x pos) (tC v):=
 λ_ _ _ H _ I h=>Qf I hg hm ⟨v,H,I,r,h⟩ hd
variable{a b:oC}{ta tb:TE}{pos:Pos}
def tB(t:TE):TT:=λσ H Q=>t σ H λx H1=>∃c,x = .bl c/\Q c H1
theorem FZ(h:PE X e t)(he:∀whole,isTrue e X.env whole=(do let v <-whole;standAt e.pos;ig [v] (truthy v)):=by intro _;rfl):PT X e (tB t):=by
 intro pins s σ H Q I hw;refine isTrue_plain (dZ (h pins s σ H _ I hw) λv s1⟨x,H1,I1,r1,q1⟩=>?_) (he _);obtain⟨d,rfl,q⟩:=q1;cases r1;exact ip ⟨H1,I1,q⟩
variable{tA tB':TT}{rest:List oC}
def MB(t u:TT):TT:=λσ H Q=>t σ H λc H1=>if c=true then u σ H1 Q else Q false H1
def RJ(t u:TT):TT:=λσ H Q=>t σ H λc H1=>if c=true then Q true H1 else u σ H1 Q
theorem V4(ha:PT X a tA):PW X (.BoolOp .And [a] pos) tA:=by
 intro wh pins s σ H Q I h;refine isTrue_and (dZ (ha pins s σ H Q I h) λc s1 e=>?_);cases c with
 |true=>exact isTrue_and_nil e
 |false=>exact e
theorem GC(ha:PT X a tA):PW X (.BoolOp .Or [a] pos) tA:=by
 intro wh pins s σ H Q I h;refine isTrue_or (dZ (ha pins s σ H Q I h) λc s1 e=>?_);cases c with
 |false=>exact isTrue_or_nil e
 |true=>exact e
theorem GA(ha:PT X a tA)(hb:PW X (.BoolOp .And (b::rest) pos) tB'):PW X (.BoolOp .And (a::b::rest) pos) (MB tA tB'):=by
 intro wh pins s σ H Q I h;refine isTrue_and (dZ (ha pins s σ H _ I h) λc s1 zZ=>?_);obtain⟨H1,I1,q1⟩:=zZ;cases c with
 |true=>exact hb wh pins s1 σ H1 Q I1 q1
 |false=>exact⟨H1,I1,q1⟩
theorem KW(ha:PT X a tA)(hb:PW X (.BoolOp .Or (b::rest) pos) tB'):PW X (.BoolOp .Or (a::b::rest) pos) (RJ tA tB'):=by
 intro wh pins s σ H Q I h;refine isTrue_or (dZ (ha pins s σ H _ I h) λc s1 zZ=>?_);obtain⟨H1,I1,q1⟩:=zZ;cases c with
 |true=>exact⟨H1,I1,q1⟩
 |false=>exact hb wh pins s1 σ H1 Q I1 q1
def MN(ta tb:TE):TE:=λσ H Q=>ta σ H λx H1=>∃c,x = .bl c/\if c=true then Q (.bl true) H1 else tb σ H1 Q
theorem FJ{op}(h:PE X a t):PE X (.BoolOp op [a] pos) t:=λpins s σ H Q I hw=>BoolOp_one (h pins s σ H Q I hw)
theorem KP(ha:PE X a ta)(hb:PE X (.BoolOp .Or (b::rest) pos) tb):PE X (.BoolOp .Or (a::b::rest) pos) (MN ta tb):=by
 intro pins s σ H Q I h;refine BoolOp_or (dZ (ha pins s σ H _ I h) λv s1 zZ=>?_);obtain⟨x,H1,I1,r1,q1⟩:=zZ;obtain⟨c,rfl,q1⟩:=q1;cases r1;refine ip ?_;cases c with
 |false=>exact hb pins s1 σ H1 Q I1 q1
 |true=>exact⟨.bl true,H1,I1,rfl,q1⟩
def RI(t:TT)(ta tb:TE):TE:=λσ H Q=>t σ H λc H1=>if c=true then ta σ H1 Q else tb σ H1 Q
theorem Zr(hc:PT X c tA)(ha:PE X a ta)(hb:PE X b tb):PE X (.IfExp c a b pos) (RI tA ta tb):=by
 intro pins s σ H Q I h;refine wpAny_IfExp (dZ (hc pins s σ H _ I h) λd s1 zZ=>?_);obtain⟨H1,I1,q1⟩:=zZ;cases d with
 |true=>exact ha pins s1 σ H1 Q I1 q1
 |false=>exact hb pins s1 σ H1 Q I1 q1
end
def j5(K:W.Frag)(H:Hp)(a:ck)(xs:List V):Prop:=
 Rd H a (.lst xs)\/
  ∃(o:Obj)(jz:Array oA)(n:Nat),K.lookup a=oZ o/\o.cls = .type "list"/\o.dict=none/\o.data = .seq jz n/\jz.size<=cw/\bB xs jz.toList
def vG(K:W.Frag)(H:Hp)(a:ck)(xs:List V):Prop:=
 Rd H a (.tup xs)\/
  ∃(o:Obj)(jz:Array oA)(n:Nat),K.lookup a=oZ o/\o.cls = .type "tuple"/\o.data = .seq jz n/\jz.size<=cw/\bB xs jz.toList
def OA:oA->Option V
 |.none=>oZ .non
 |.bool b=>oZ (.bl b)
 |.int i _=>oZ (.int i)
 |.str x _=>oZ (.str x)
 |.bytes b _=>oZ (.byt b)
 |.float b _=>oZ (.flt b)
 |.ref a=>oZ (.ref a)
 |.type n=>oZ (.ty n)
 |_=>none
theorem bP.abs(r:bP x u):OA u=oZ x:=by
 cases x with
 |non=>cases r;rfl
 |bl _=>cases r;rfl
 |int _=>obtain⟨t,rfl⟩:=r;rfl
 |str _=>obtain⟨t,rfl⟩:=r;rfl
 |byt _=>obtain⟨t,rfl⟩:=r;rfl
 |flt _=>obtain⟨t,rfl⟩:=r;rfl
 |ref _=>cases r;rfl
 |ty _=>cases r;rfl
theorem bP.inj(r:bP x u)(q:bP y u):x=y:=Option.some.inj (r.abs.symm.trans q.abs)
theorem bB.inj:∀{xs ys:List V}{us:List oA},bB xs us->bB ys us->xs=ys
 |_,_,_,.nil,.nil=>rfl
 |_,_,_,.cons r t,.cons r' t'=>by rw[r.inj r',bB.inj t t']
theorem j5.of{H:Hp}{a:ck}{xs:List V}{K:W.Frag}(h:H a=oZ (.lst xs)):j5 K H a xs:=.inl (.inl h)
theorem aV.list(I:aV X pins σ H s)(h:j5 X.K H a xs):∃jz:List oA,bB xs jz/\PlainL s.heap a jz.toArray/\xs.length<=cw:=by
 obtain h|⟨o,jz,n,hk,hc,hd,hs,hz,r⟩:=h
 ·obtain⟨z,jz,n,r,e⟩:=h.ok I.hok;exact⟨jz,r,⟨_,n,e,rfl,rfl,rfl⟩,z⟩
 ·refine⟨jz.toList,r,⟨o,n,I.kIn a o hk,hc,hd,by simpa using hs⟩,?_⟩;have e:=r.length;simp only[XG]at e
  lia
theorem aV.tuple(I:aV X pins σ H s)(h:vG X.K H a xs):∃jz:List oA,bB xs jz/\IsTup s.heap a jz.toArray/\xs.length<=cw:=by
 obtain h|⟨o,jz,n,hk,hc,hs,hz,r⟩:=h
 ·obtain⟨z,jz,r,p⟩:=h.ok I.hok;exact⟨jz,r,p,z⟩
 ·refine⟨jz.toList,r,⟨o,I.kIn a o hk,hc,n,by simpa using hs⟩,?_⟩;have e:=r.length;simp only[XG]at e
  lia
theorem aV.list_inj(I:aV X pins σ H s)(h:j5 X.K H a xs)(h':j5 X.K H a ys):xs=ys:=by
 obtain⟨jz,r,⟨o,n,e,_,_,d⟩,_⟩:=I.list h;obtain⟨its',r',⟨o',n',e',_,_,d'⟩,_⟩:=I.list h';rw[e]at e';cases e';rw[d]at d';injection d' with d1 _;have:jz=its':=by simpa using congrArg cj d1
 subst this;exact r.inj r'
theorem aV.tuple_inj(I:aV X pins σ H s)(h:vG X.K H a xs)(h':vG X.K H a ys):xs=ys:=by
 obtain⟨jz,r,⟨o,e,_,n,d⟩,_⟩:=I.tuple h;obtain⟨its',r',⟨o',e',_,n',d'⟩,_⟩:=I.tuple h';rw[e]at e';cases e';rw[d]at d';injection d' with d1 _;have:jz=its':=by simpa using congrArg cj d1
 subst this;exact r.inj r'
abbrev Cx.wish(X:Cx)(E:oA->oB->Prop):Cx:={ X with xe:=E }
abbrev Cx.nox(X:Cx):Cx:=X.wish λ_ _=>False
theorem Cx.Ok.wish{X:Cx}(ok:X.Ok)(E:oA->oB->Prop):(X.wish E).Ok:=
 ⟨ok.mod,ok.kind,ok.glob,ok.blt,ok.above,ok.inj,ok.has,ok.cab,ok.hd,ok.frames,ok.stk,ok.exf,ok.bs,ok.bsz,ok.noex,ok.exfs,ok.funs,ok.frf⟩
theorem Cx.Ok.unwish{X:Cx}{E:oA->oB->Prop}(ok:(X.wish E).Ok):X.Ok:=
 ⟨ok.mod,ok.kind,ok.glob,ok.blt,ok.above,ok.inj,ok.has,ok.cab,ok.hd,ok.frames,ok.stk,ok.exf,ok.bs,ok.bsz,ok.noex,ok.exfs,ok.funs,ok.frf⟩
theorem aV.wish(I:aV X pins σ H s)(E:oA->oB->Prop):aV (X.wish E) pins σ H s:=⟨I.ok.wish E,I.os,I.bare,I.base,I.loc,I.cell,I.free,I.freeC,I.pin,I.hok,I.len⟩
theorem aV.unwish{E:oA->oB->Prop}(I:aV (X.wish E) pins σ H s):aV X pins σ H s:=⟨I.ok.unwish,I.os,I.bare,I.base,I.loc,I.cell,I.free,I.freeC,I.pin,I.hok,I.len⟩
theorem SP.unwish{E:oA->oB->Prop}(h:SP (X.wish E) pins D f s'):SP X pins D f s':=by
 cases f with
 |next=>obtain⟨σ',H',I,q⟩:=h;exact⟨σ',H',I.unwish,q⟩
 |brk=>obtain⟨σ',H',I,q⟩:=h;exact⟨σ',H',I.unwish,q⟩
 |cont=>obtain⟨σ',H',I,q⟩:=h;exact⟨σ',H',I.unwish,q⟩
 |ret u=>obtain⟨v,σ',H',I,r,q⟩:=h;exact⟨v,σ',H',I.unwish,r,q⟩
theorem Oc.nox{X:Cx}{st:List dh}(h:Oc X.nox st t):Oc X st t:=λpins s σ H D I hw=>
 ik (h pins s σ H D (I.wish _) hw) (λ_ _ q=>q.unwish) λ_ _ z=>False.elim z
section
variable{X:Cx}{st:dh}{rest:List dh}{t u:TS}{e:oC}{te:TE}{pos:Pos}
def BK:TS:=λD σ H=>D.nx σ H
def MR(t u:TS):TS:=λD σ H=>t { D with nx:=u D } σ H
theorem U9:Oc X [] BK:=λ_ _ σ H _ I h=>jq ⟨σ,H,I,h⟩
theorem Zz(h1:PS X st t)(h2:Oc X rest u):Oc X (st::rest) (MR t u):=by
 intro pins s σ H D I h;refine wpAny_execs_cons (dZ (h1 pins s σ H { D with nx:=u D } I h) λf s1 q=>?_);cases f with
 |next=>
  obtain⟨σ',H',I',q⟩:=q;exact h2 pins s1 σ' H' D I' q
 |ret v=>exact q
 |brk=>exact q
 |cont=>exact q
theorem V1(h1:PS X st t):Oc X [st] t:=by
 intro pins s σ H D I h;refine wpAny_execs_cons (dZ (h1 pins s σ H D I h) λf s1 q=>?_);cases f with
 |next=>exact jq q
 |ret v=>exact q
 |brk=>exact q
 |cont=>exact q
def BE:TS:=λD σ H=>D.ct σ H
theorem Jk:PS X (.Continue pos) BE:=λ_ _ σ H _ I h=>wpAny_Continue ⟨σ,H,I,h⟩
theorem aV.quiet(I:aV X pins σ H s):interactive X.env=false:=by simp[interactive,I.ok.kind]
def BG(te:TE):TS:=λD σ H=>te σ H λ_ H1=>D.nx σ H1
theorem U7(he:PE X e te)(hs:fo e none pos.line X.env=pure false:=by rfl):PS X (.Expr e pos) (BG te):=by
 intro pins s σ H D I h;exact wpAny_Expr_any (dZ (he pins s σ H _ I h) λv s1 zZ=>by obtain⟨x,H1,I1,r1,q1⟩:=zZ;exact⟨σ,H1,I1,q1⟩) I.quiet hs
def MP(te:TE):TS:=λD σ H=>te σ H D.rt
theorem FX(he:PE X e te):PS X (.Return (oZ e) pos) (MP te):=by
 intro pins s σ H D I h;exact wpAny_Return_some (dZ (he pins s σ H _ I h) λv s1 zZ=>by obtain⟨x,H1,I1,r1,q1⟩:=zZ;exact⟨x,σ,H1,I1,r1,q1⟩)
def MG(c:TT)(t u:TS):TS:=λD σ H=>c σ H λb H1=>if b=true then t D σ H1 else u D σ H1
theorem KU(hc:PT X c tc)(ha:Oc X a t)(hb:Oc X b u):PS X (.If c a b pos) (MG tc t u):=by
 intro pins s σ H D I h;refine wpAny_If (dZ (hc pins s σ H _ I h) λd s1 zZ=>?_);obtain⟨H1,I1,q1⟩:=zZ;cases d with
 |true=>exact ha pins s1 σ H1 D I1 q1
 |false=>exact hb pins s1 σ H1 D I1 q1
end
abbrev TG:=V->St->Hp->(St->Hp->Prop)->Prop
abbrev M3:=List V->St->Hp->(St->Hp->Prop)->Prop
def PG(X:Cx)(target:oC)(t:TG):Prop:=
 ∀(pins:List (ck×Obj))(s:oB)(σ:St)(H:Hp)(v:V)(u:oA)(Q:St->Hp->Prop),aV X pins σ H s->bP v u->t v σ H Q->
  cq (df X.prog X.w) X.A (ic target X.env u) (λ_ s'=>∃σ' H',aV X pins σ' H' s'/\Q σ' H') X.xe s
def HS(X:Cx)(ts:List oC)(t:M3):Prop:=
 ∀(pins:List (ck×Obj))(s:oB)(σ:St)(H:Hp)(vs:List V)(us:List oA)(Q:St->Hp->Prop),aV X pins σ H s->bB vs us->t vs σ H Q->
  cq (df X.prog X.w) X.A (iy ((dq ts X.env).map (·.2)) us) (λ_ s'=>∃σ' H',aV X pins σ' H' s'/\Q σ' H') X.xe s
abbrev ID:=V->V->V->Hp->(Hp->Prop)->Prop
def CF(X:Cx)(t:ID):Prop:=
 ∀(pins:List (ck×Obj))(s:oB)(σ:St)(H:Hp)(o i v:V)(ov iv u:oA)(Q:Hp->Prop),aV X pins σ H s->bP o ov->bP i iv->bP v u->t o i v H Q->
  cq (df X.prog X.w) X.A (setItem ov iv u) (λ_ s'=>∃H',aV X pins σ H' s'/\Q H') X.xe s
def Ay(i:Nat):TG:=λv σ H Q=>Q (σ.set i (oZ v)) H
theorem T8(hN:X.N.Nodup)(hi:X.N[i]?=oZ x)(hx:y8 X.env.scope x)(hf:X.fn x=true\/X.env.scope.names.lookup x=oZ .local:=by first|exact .inl rfl|exact .inr rfl|assumption):PG X (.Name x pos) (Ay i):=by
 intro pins s σ H v u Q I r h;exact wpAny_assign_Name (kJ I hN hi hx r (λs' I'=>⟨_,H,I',h⟩) hf)
def JG:M3:=λvs σ H Q=>vs=[]/\Q σ H
def Z8(t:TG)(u:M3):M3:=λvs σ H Q=>∃v r,vs=v::r/\t v σ H λσ' H'=>u r σ' H' Q
theorem U1:HS X [] JG:=by
 intro pins s σ H vs us Q I r h;obtain⟨e,h⟩:=h;subst e;cases r;exact jw ⟨σ,H,I,h⟩
theorem Zu(h1:PG X e t)(h2:HS X es u)(hs:(dq (e::es) X.env).map (·.2)=ic e X.env::(dq es X.env).map (·.2):=by rfl):HS X (e::es) (Z8 t u):=by
 intro pins s σ H vs us Q I r h;obtain⟨v,vr,e1,h⟩:=h;subst e1;cases r with
 |cons r rr=>
  rw[hs];refine gv (dZ (h1 pins s σ H _ _ _ I r h) λ_ s1 zZ=>?_);obtain⟨σ1,H1,I1,q1⟩:=zZ;exact h2 pins s1 σ1 H1 _ _ Q I1 rr q1
def JI(K:W.Frag)(n:Nat)(t:M3):TG:=λv σ H Q=>∃a xs,v = .ref a/\vG K H a xs/\xs.length=n/\t xs σ H Q
theorem FP(hc:X.calm=true)(h:HS X es t)(hn:(dq es X.env).length=n:=by rfl)(xb:(dq es X.env).findIdx? (·.1)=none:=by rfl):PG X (.Tuple es k pos) (JI X.K n t):=by
 intro pins s σ H v u Q I r hw;obtain⟨a,xs,e1,hq,hl,hw⟩:=hw;subst e1;cases r;obtain⟨jz,rv,ht,hz⟩:=I.tuple hq;refine assign_Tuple_tuple (I.ok.hd hc) ht (by simp[hn,<-hl,rv.length]) xb λh' hx=>?_;have I1:aV X pins σ H { s with heap:=h' }:=I.kept (t':=s.toks) λb o e=>hx b o (UW (TZ e)) e;exact h pins _ σ H xs _ Q I1 (by simpa using rv) hw
def JH(to ti:TE)(t:ID):TG:=λv σ H Q=>to σ H λo H1=>ti σ H1 λi H2=>t o i v H2 λH3=>Q σ H3
theorem FN(ho:PE X o to)(hi:PE X i ti)(hs:CF X t)(ha:∀v,ic (.Subscript o i pos) X.env v=(do
   let ov <-ig [v] (dw o X.env)
   let iv <-ig [v,ov] (dw i X.env)
   standAt pos
   ig [v,ov,iv] (setItem ov iv v)
   release [v,ov,iv] []):=by intro _;rfl):PG X (.Subscript o i pos) (JH to ti t):=by
 intro pins s σ H v u Q I r h;rw[ha];refine cm (fj (dZ (ho pins s σ H _ I h) λov s1 zZ=>?_));obtain⟨x,H1,I1,r1,q1⟩:=zZ;refine cm (fj (dZ (hi pins s1 σ H1 _ I1 q1) λiv s2 zZ=>?_));obtain⟨y,H2,I2,r2,q2⟩:=zZ;refine cm (ja (cm (fj (dZ (hs pins s2 σ H2 x y v ov iv u _ I2 r1 r2 r q2) λ_ s3 zZ=>?_))));obtain⟨H3,I3,q3⟩:=zZ;exact wpAny_release ⟨σ,H3,I3,q3⟩
def Vd(te:TE)(g:TG):TS:=λD σ H=>te σ H λx H1=>g x σ H1 D.nx
theorem FU(he:PE X e te)(hg:PG X tg g)(hs:fu [tg] e pos.line X.env=pure false:=by rfl)(hw:fw [tg] e X.env=pure none:=by rfl)(h1:(dq [tg] X.env).map (·.2)=[ic tg X.env]:=by rfl):PS X (.Assign [tg] e pos) (Vd te g):=by
 intro pins s σ H D I h;refine wpAny_Assign_stores (dZ (he pins s σ H _ I h) λv s1⟨x,H1,I1,r1,q1⟩=>?_) hs hw;rw[h1];exact dZ (hg pins s1 σ H1 x v _ I1 r1 q1) λ_ s2 q=>q
theorem FY(hN:X.N.Nodup)(hi:X.N[i]?=oZ x)(hx:y8 X.env.scope x)(he:PE X e te)(hs:fo e (oZ (.Name x pos')) pos.line X.env=pure false:=by rfl)(hf:X.fn x=true\/X.env.scope.names.lookup x=oZ .local:=by first|exact .inl rfl|exact .inr rfl|assumption):
  PS X (.Assign [.Name x pos'] e pos) (Vd te (Ay i)):=by
 intro pins s σ H D I h;refine wpAny_Assign_Name (dZ (he pins s σ H _ I h) λv s1⟨y,H1,I1,r1,q1⟩=>?_) hs;exact kJ I1 hN hi hx r1 (λs2 I2=>⟨_,H1,I2,q1⟩) hf
def MO(i j:Nat)(ta:TA):TS:=λD σ H=>ta σ H λvs H1=>∃v w,vs=[v,w]/\D.nx ((σ.set i (oZ v)).set j (oZ w)) H1
theorem FW{kt k2 pt2}(hc:X.calm=true)(hN:X.N.Nodup)(hi:X.N[i]?=oZ x)(hj:X.N[j]?=oZ y)(xw:i≠j)(hx:X.env.scope.names.lookup x=oZ .local)(hy:X.env.scope.names.lookup y=oZ .local)(ha:PA X [a,b] ta)(hw:fw [.Tuple [.Name x px,.Name y py] kt pt] (.Tuple [a,b] k2 pt2) X.env=pure (oZ [x,y]))(hs:fu [.Tuple [.Name x px,.Name y py] kt pt] (.Tuple [a,b] k2 pt2) pos.line X.env=pure false:=by rfl):
  PS X (.Assign [.Tuple [.Name x px,.Name y py] kt pt] (.Tuple [a,b] k2 pt2) pos) (MO i j ta):=by
 intro pins s σ H D I h;rw[exec_Assign_arm];refine cm (ja ?_);rw[hs];refine cm (cn ?_);rw[oW ∅];refine cm (Tuple_ (dZ (ha _ pins s σ H _ I h) λus s1 zZ=>?_));obtain⟨vs,H1,I1,r1,q1⟩:=zZ;obtain⟨v,w,e1,q1⟩:=q1;subst e1;obtain⟨u1,u2,rfl,rv,yg⟩:∃u1 u2,us=[u1,u2]/\bP v u1/\bP w u2:=by
  cases r1 with
  |cons p q=>
   cases q with
   |cons p' q'=>
    cases q';exact⟨_,_,rfl,p,p'⟩
 refine fh ?_ (by show 2<=cw;decide);have I2:aV X pins σ H1 { s1 with heap:=s1.heap.push { cls:=.type "tuple",data:=.seq [u1,u2].toArray } }:=I1.kept (t':=s1.toks) λb o e=>TJ _ e;rw[hw];refine cm (cn ?_);show cq (df X.prog X.w) X.A (do rule "assign.swapped-stores";let items <-unpackItems (.ref s1.heap.objs.size) 2 none;iy [λv=>ir X.env y v,λv=>ir X.env x v] items.reverse;pure Flow.next) _ _ _;refine cm (jh (cm (unpackItems_tuple (items:=#[u1,u2]) (I.ok.hd hc) (IsTup.new s1.heap _) λh' hx'=>?_)));have I3:=I2.kept (h':=h') (t':=s1.toks) λb o e=>hx' b o (UW (TZ e)) e;show cq _ _ (iy [λv=>ir X.env y v,λv=>ir X.env x v] [u2,u1] >>= λ_=>pure Flow.next) _ _ _;refine cm (gv (ji (kJ I3 hN hj (.inl hy) yg (λs2 I4=>?_) (.inr hy))));refine gv (ji (kJ I4 hN hi (.inl hx) rv (λs3 I5=>jw (cn ?_)) (.inr hx)));rw[YB _ _ (Ne.symm xw)]at I5;exact⟨_,H1,I5,q1⟩
def J3(c:TT)(tb:TS):TS:=λD σ H=>∃W:Nat->St->Hp->Prop,(∃m,W m σ H)/\∀m σ H,W m σ H->
 c σ H λb H1=>if b=true then ∃N:St->Hp->Prop,(∀σ' H',N σ' H'->∃m',m'<m/\W m' σ' H')/\tb { D with nx:=N,ct:=N,bk:=D.nx } σ H1 else D.nx σ H1
theorem Zy(hp:PassesOwn (df X.prog X.w) X.A X.env X.xe)(hc:PT X c tc)(hb:Oc X body tb):PS X (.While c body [] pos) (J3 tc tb):=by
 intro pins s σ H D I h;obtain⟨W,⟨m0,w0⟩,turn⟩:=h;refine wpAny_While (codeAny_whileLoop (λn s'=>∃σ' H',aV X pins σ' H' s'/\W n σ' H') ?_ m0 ⟨σ,H,I,w0⟩);rintro n s1 ⟨σ1,H1,I1,w1⟩;refine gy hp (dZ (hc pins s1 σ1 H1 _ I1 (turn n σ1 H1 w1)) λb s2 zZ=>?_);obtain⟨H2,I2,q2⟩:=zZ;cases b with
 |true=>
  obtain⟨N,hN,q2⟩:=q2;rw[oV rfl];refine gy hp (dZ (hb pins s2 σ1 H2 _ I2 q2) λf s3 q3=>?_);cases f with
  |next=>
   obtain⟨σ3,H3,I3,n3⟩:=q3;obtain⟨m',hm,w3⟩:=hN σ3 H3 n3;exact⟨m',hm,σ3,H3,I3,w3⟩
  |cont=>
   obtain⟨σ3,H3,I3,n3⟩:=q3;obtain⟨m',hm,w3⟩:=hN σ3 H3 n3;exact⟨m',hm,σ3,H3,I3,w3⟩
  |brk=>exact q3
  |ret v=>exact q3
 |false=>
  rw[oW XJ];exact jq ⟨σ1,H2,I2,q2⟩
structure It where
 go:Nat->Hp->Prop
 yld:Nat->Hp->V->Hp->Prop
 stop:Nat->Hp->Prop
def rA(X:Cx)(pins:List (ck×Obj))(H:Hp)(b:ck):Prop:=
 H b=none/\b≠X.env.locals/\b∉X.fs/\(b∈X.ex\/X.s₀.heap.objs.size<=b)/\(∀x c,X.env.cells.lookup x=oZ c->c≠b)/\∀p∈X.pn++pins,p.1≠b
theorem aV.fpOk(I:aV X pins σ H s)(hb:s.heap.objs.size<=b)(hn:H' b=none):rA X pins H' b:=by
 refine⟨hn,Nat.ne_of_gt (UB I.lt hb),I.nofs hb,.inr (VE I.sz hb),λx c e z=>?_,λp hp z=>?_⟩
 ·obtain⟨v,q⟩:=I.cell x c e;exact absurd (UB q.lt (by rw[z];exact hb)) (Nat.lt_irrefl _)
 ·exact absurd (UB (TZ (I.pin p hp).1) (by rw[z];exact hb)) (Nat.lt_irrefl _)
structure Su(P:da)(w:dk)(K:W.Frag)(tg:oC)(J:It)(fp:List ck)(it:ck)(tn:Nat->oE->Prop):Prop where
 mem:it∈fp
 obj:∀i h,tn i h->∀b∈fp,∃o,h.get? b=oZ o/\∀v,o.data≠.cell v
 keep:∀i h h',tn i h->(∀b∈fp,∀o,h.get? b=oZ o->h'.get? b=oZ o)->tn i h'
 item:∀(X:Cx),X.prog=P->X.w=w->X.K=K->X.calm=true->∀(i:Nat)(pins:List (ck×Obj))(s:oB)(σ:St)(H:Hp)(E:oA->oB->Prop),aV X pins σ H s->(∀b∈fp,rA X pins H b)->tn i s.heap->J.go i H->
  cq (df P w) X.A (pyNext (.ref it)) (λr s1=>∃u,r=oZ u/\
   cq (df P w) X.A (jr tg (.ref it) u) (λ_ s2=>∃x H',aV X pins σ H' s2/\bP x u/\J.yld i H x H'/\tn (i+1) s2.heap/\∀b∈fp,H' b=none) E s1) E s
 done:∀(X:Cx),X.prog=P->X.w=w->X.K=K->X.calm=true->∀(i:Nat)(pins:List (ck×Obj))(s:oB)(σ:St)(H:Hp)(E:oA->oB->Prop),aV X pins σ H s->(∀b∈fp,rA X pins H b)->tn i s.heap->J.stop i H->
  cq (df P w) X.A (pyNext (.ref it)) (λr s1=>r=none/\aV X pins σ H s1) E s
 self:∀(A:oD)(i:Nat)(s:oB)(Q:oA->oB->Prop)(E:oA->oB->Prop),tn i s.heap->Q (.ref it) s->cq (df P w) A (pyIter (.ref it)) Q E s
abbrev TI:=St->Hp->(It->Hp->Prop)->Prop
def NX(X:Cx)(pins:List (ck×Obj))(σ:St)(tg:oC)(R:It->Hp->Prop)(itv:oA)(s2:oB):Prop:=
 ∃(it:ck)(fp:List ck)(tn:Nat->oE->Prop)(J:It)(H':Hp),itv = .ref it/\aV X pins σ H' s2/\Su X.prog X.w X.K tg J fp it tn/\tn 0 s2.heap/\(∀b∈fp,rA X pins H' b)/\R J H'
def PI(X:Cx)(tg iter:oC)(wi:TI):Prop:=
 ∀(pins:List (ck×Obj))(s:oB)(σ:St)(H:Hp)(R:It->Hp->Prop),aV X pins σ H s->wi σ H R->
  cq (df X.prog X.w) X.A (dw iter X.env) (λv s1=>cq (df X.prog X.w) X.A (pyIter v) (NX X pins σ tg R) X.xe s1) X.xe s
theorem Xt {E:oA->oB->Prop} {Q:Unit->oB->Prop} (ho:s.heap.get? it=oZ o) (hc:o.cls = .type n) (hd:o.data = .fields vs) (hn:["enumerate","zip","dict_itemiterator","dict_reverseitemiterator","odict_iterator","itertools.zip_longest","itertools.pairwise"].contains n=false) (hQ:Q () s):cq M A (jr tg (.ref it) u) Q E s:=by
  unfold jr;cases tg<;>first
    | exact cn hQ
    | (cases u<;>first
        | exact cn hQ
        | (refine cm (wpAny_load ho ?_)
           rw [hc,hd];show cq M A (if (["enumerate","zip","dict_itemiterator","dict_reverseitemiterator","odict_iterator","itertools.zip_longest","itertools.pairwise"].contains n&&vs[0]?==oZ (rawInt _))=true then _ else _) Q E s;rw [oW (by intro h;rw [hn,Bool.false_and] at h;cases h)];exact cn hQ))
def NC(K:W.Frag)(a:ck):It:=
 ⟨λi H=>∃xs x,j5 K H a xs/\xs[i]?=oZ x,λi H x H'=>H'=H/\∀xs,j5 K H a xs->xs[i]?=oZ x,λi H=>∃xs,j5 K H a xs/\xs.length<=i⟩
def ND(K:W.Frag)(a:ck):It:=
 ⟨λi H=>∃xs x,vG K H a xs/\xs[i]?=oZ x,λi H x H'=>H'=H/\∀xs,vG K H a xs->xs[i]?=oZ x,λi H=>∃xs,vG K H a xs/\xs.length<=i⟩
def HZ(lo:Int)(n:Nat):It:=⟨λi _=>i<n,λi H x H'=>H'=H/\x = .int (lo+i),λi _=>n<=i⟩
theorem Cc{P:da}{w:dk}{K:W.Frag}{tg:oC}(a it:ck):Su P w K tg (NC K a) [it] it (λi h=>h.IsListIter it a i) where
 mem:=by simp
 obj:=λi h st b hb=>by
  have e:b=it:=by simpa using hb
  subst e;obtain⟨o,e,c,d⟩:=st;exact⟨o,e,λv z=>by rw[d]at z;cases z⟩
 keep:=λi h h' st k=>st.at λo e=>k it (by simp) o e
 item:=by
  intro X hP hw hK hc i pins s σ H E I hf st hg;subst hP hw hK;obtain⟨xs,x,hq,hx⟩:=hg;obtain⟨jz,rv,p,hz⟩:=I.list hq;obtain⟨u,hu,ru⟩:=rv.get hx;obtain⟨f0,f1,f2,f3,f4,f5⟩:=hf it (by simp);refine wpAny_pyNext_list_item st p.isList (x:=u) (by simpa using hu) λh' st' sb=>?_;have I1:aV X pins σ H { s with heap:=h' }:=I.turned (t':=s.toks) (λb o hb e=>(sb.2 b hb).trans e) f0 f1 f3 f4 f5;obtain⟨o,e,c,d⟩:=id st';exact⟨u,rfl,Xt (s:={ s with heap:=h' }) e c d ∅ ⟨x,H,I1,ru,⟨rfl,λys hy=>by rw[I.list_inj hy hq];exact hx⟩,st',λb hb=>(hf b hb).1⟩⟩
 done:=by
  intro X hP hw hK hc i pins s σ H E I hf st hg;subst hP hw hK;obtain⟨xs,hq,hx⟩:=hg;obtain⟨jz,rv,p,hz⟩:=I.list hq;obtain⟨f0,f1,f2,f3,f4,f5⟩:=hf it (by simp);have hl:=rv.length;exact wpAny_pyNext_list_end (I.ok.hd hc) st p.isList (by simp;lia) λh' eb=>⟨rfl,I.turned (t':=s.toks) (λb o hb e=>eb b o hb e) f0 f1 f3 f4 f5⟩
 self:=λ_ _ _ _ _ st h=>wpAny_pyIter_listiter st h
theorem yW{P:da}{w:dk}{K:W.Frag}{tg:oC}(a it:ck):Su P w K tg (ND K a) [it] it (λi h=>h.IsTupleIter it a i) where
 mem:=by simp
 obj:=λi h st b hb=>by
  have e:b=it:=by simpa using hb
  subst e;obtain⟨o,e,c,d⟩:=st;exact⟨o,e,λv z=>by rw[d]at z;cases z⟩
 keep:=λi h h' st k=>st.at λo e=>k it (by simp) o e
 item:=by
  intro X hP hw hK hc i pins s σ H E I hf st hg;subst hP hw hK;obtain⟨xs,x,hq,hx⟩:=hg;obtain⟨jz,rv,p,hz⟩:=I.tuple hq;obtain⟨u,hu,ru⟩:=rv.get hx;obtain⟨f0,f1,f2,f3,f4,f5⟩:=hf it (by simp);refine wpAny_pyNext_tuple_item st (show s.heap.IsTuple a jz.toArray from p) (x:=u) (by simpa using hu) λh' st' sb=>?_;have I1:aV X pins σ H { s with heap:=h' }:=I.turned (t':=s.toks) (λb o hb e=>(sb.2 b hb).trans e) f0 f1 f3 f4 f5;obtain⟨o,e,c,d⟩:=id st';exact⟨u,rfl,Xt (s:={ s with heap:=h' }) e c d ∅ ⟨x,H,I1,ru,⟨rfl,λys hy=>by rw[I.tuple_inj hy hq];exact hx⟩,st',λb hb=>(hf b hb).1⟩⟩
 done:=by
  intro X hP hw hK hc i pins s σ H E I hf st hg;subst hP hw hK;obtain⟨xs,hq,hx⟩:=hg;obtain⟨jz,rv,p,hz⟩:=I.tuple hq;obtain⟨f0,f1,f2,f3,f4,f5⟩:=hf it (by simp);have hl:=rv.length;exact wpAny_pyNext_tuple_end (I.ok.hd hc) st (show s.heap.IsTuple a jz.toArray from p) (by simp;lia) λh' eb=>⟨rfl,I.turned (t':=s.toks) (λb o hb e=>eb b o hb e) f0 f1 f3 f4 f5⟩
 self:=λ_ _ _ _ _ st h=>wpAny_pyIter_tupleiter st h
theorem Nm{P:da}{w:dk}{K:W.Frag}{tg:oC}(it:ck)(lo:Int)(n:Nat):Su P w K tg (HZ lo n) [it] it (λi h=>IsRangeIter h it (lo+(i:Nat)*1) ((n:Int)-(i:Nat)) 1) where
 mem:=by simp
 obj:=λi h st b hb=>by
  have e:b=it:=by simpa using hb
  subst e;exact⟨_,st,λv z=>by
   have z':Data.fields _=Data.cell v:=z;cases z'⟩
 keep:=λi h h' st k=>k it (by simp) _ st
 item:=by
  intro X hP hw hK hc i pins s σ H E I hf st hg;subst hP hw hK;obtain⟨f0,f1,f2,f3,f4,f5⟩:=hf it (by simp);have W:=Walks.range (prog:=X.prog) (w:=X.w) (I.ok.hd hc) it lo 1 n;refine W.item i s _ _ hg st λv h' tk hv st' kk=>?_;obtain⟨t,rfl⟩:=hv;have I1:aV X pins σ H { s with heap:=h',toks:=tk }:=I.turned (λb o hb e=>kk b o (by simpa using hb) e) f0 f1 f3 f4 f5;refine⟨_,rfl,Xt (s:={ s with heap:=h',toks:=tk }) (n:="range_iterator") st' rfl rfl ∅ ⟨.int (lo+i),H,I1,⟨t,?_⟩,⟨rfl,rfl⟩,st',λb hb=>(hf b hb).1⟩⟩;rw[Int.mul_one]
 done:=by
  intro X hP hw hK hc i pins s σ H E I hf st hg;subst hP hw hK;obtain⟨f0,f1,f2,f3,f4,f5⟩:=hf it (by simp);exact wpAny_pyNext_range_end (I.ok.hd hc) st (by have:n<=i:=hg;lia) λh' eb=>⟨rfl,I.turned (t':=s.toks) (λb o hb e=>eb b o hb e) f0 f1 f3 f4 f5⟩
 self:=λ_ _ _ _ _ st h=>wpAny_pyIter_rangeiter st h
def AG(K:W.Frag)(tl:TE):TI:=λσ H R=>tl σ H λx H1=>∃a,x = .ref a/\(∃xs,j5 K H1 a xs)/\R (NC K a) H1
def JO(K:W.Frag)(tl:TE):TI:=λσ H R=>tl σ H λx H1=>∃a,x = .ref a/\(∃xs,vG K H1 a xs)/\R (ND K a) H1
theorem U3(hl:PE X l tl):PI X tg l (AG X.K tl):=by
 intro pins s σ H R I h;refine dZ (hl pins s σ H _ I h) λv s1 zZ=>?_;obtain⟨x,H1,I1,r1,q1⟩:=zZ;obtain⟨a,e,⟨xs,hq⟩,q⟩:=q1;subst e;cases r1;obtain⟨jz,rv,p,hz⟩:=I1.list hq;refine wpAny_pyIter_list p.isList ?_;refine⟨s1.heap.objs.size,[s1.heap.objs.size],_,_,H1,rfl,I1.kept (t':=s1.toks) λb o e=>TJ _ e,Cc a _,⟨_,UG _ rfl,rfl,rfl⟩,λb hb=>?_,q⟩;have e:b=s1.heap.objs.size:=by simpa using hb
 subst e;exact I1.fpOk (TN _) (I1.hok.fresh (TN _))
theorem FR(hl:PE X l tl):PI X tg l (JO X.K tl):=by
 intro pins s σ H R I h;refine dZ (hl pins s σ H _ I h) λv s1 zZ=>?_;obtain⟨x,H1,I1,r1,q1⟩:=zZ;obtain⟨a,e,⟨xs,hq⟩,q⟩:=q1;subst e;cases r1;obtain⟨jz,rv,p,hz⟩:=I1.tuple hq;refine jd (show s1.heap.IsTuple a jz.toArray from p) ?_;refine⟨s1.heap.objs.size,[s1.heap.objs.size],_,_,H1,rfl,I1.kept (t':=s1.toks) λb o e=>TJ _ e,yW a _,⟨_,UG _ rfl,rfl,rfl⟩,λb hb=>?_,q⟩;have e:b=s1.heap.objs.size:=by simpa using hb
 subst e;exact I1.fpOk (TN _) (I1.hok.fresh (TN _))
theorem C8{R:It->Hp->Prop}{E:oA->oB->Prop}{lo hi:Int}(I:aV X pins σ H s)(h1:-(2^62)<=lo)(h2:lo<2^62)(h3:-(2^62)<=hi)(h4:hi<2^62)(q:R (HZ lo (hi-lo).toNat) H):cq (df X.prog X.w) X.A (pyIter (.ref s.heap.objs.size)) (NX X pins σ tg R) E { s with heap:=s.heap.push { cls:=.type "range",data:=.fields #[.int lo t,.int hi u,.int 1 v] },toks:=tk }:=by
 refine wpAny_pyIter_range (IsRange.new ..) (small_one h1 h2 h3 h4) ?_;have I1:aV X pins σ H { s with heap:=s.heap.push { cls:=.type "range",data:=.fields #[.int lo t,.int hi u,.int 1 v] },toks:=tk }:=I.kept λb o e=>TJ _ e;refine⟨(s.heap.push { cls:=.type "range",data:=.fields #[.int lo t,.int hi u,.int 1 v] }).objs.size,[(s.heap.push { cls:=.type "range",data:=.fields #[.int lo t,.int hi u,.int 1 v] }).objs.size],_,_,H,rfl,
  I1.kept (t':=tk) λb o e=>TJ _ e,Nm _ lo (hi-lo).toNat,?_,λb hb=>?_,q⟩
 ·have e1:lo+((0:Nat):Int)*1=lo:=by simp
  have e2:(((hi-lo).toNat:Nat):Int)-((0:Nat):Int)=Builtin.Range.rangeSize lo hi 1:=by rw[rangeSize_one];split<;>lia
  show IsRangeIter _ _ (lo+((0:Nat):Int)*1) ((((hi-lo).toNat:Nat):Int)-((0:Nat):Int)) 1;rw[e1,e2];exact UG _ rfl
 ·have e:b=(s.heap.push { cls:=.type "range",data:=.fields #[.int lo t,.int hi u,.int 1 v] }).objs.size:=by simpa using hb
  subst e;exact I1.fpOk (TN _) (I1.hok.fresh (TN _))
def AH(ta:TA):TI:=λσ H R=>ta σ H λvs H1=>∃j:Int,vs=[.int j]/\-(2^62)<=j/\j<2^62/\R (HZ 0 j.toNat) H1
theorem Uq(hg:Gl X "range")(hm:X.mg "range" = none)(ha:PA X [a] ta)(hs:du [a] X.env=[(false,dw a X.env)]:=by rfl):PI X tg (.Call (.Name "range" p) [a] [] pos) (AH ta):=by
 intro pins s σ H R I h;refine Call_ (xU I hg hm boot_range (PyProof.Rows.callWith_type1 (dZ (ha pos pins s σ H _ I h) λus s1⟨vs,H1,I1,r1,q1⟩=>?_) hs rfl));obtain⟨j,e,q1,q2,q⟩:=q1;subst e;cases r1 with
 |cons r rr=>
  cases rr;obtain⟨t,rfl⟩:=r;exact call_range_1 (C8 I1 ⋯ ⋯ q1 q2 (by simpa using q))
def MF(wi:TI)(g:TG)(tb:TS):TS:=λD σ H=>wi σ H λJ H1=>∃W:Nat->Nat->St->Hp->Prop,(∃m,W 0 m σ H1)/\∀i m σ H,W i m σ H->
 (J.stop i H/\D.nx σ H)\/(J.go i H/\∃N:St->Hp->Prop,(∀σ' H',N σ' H'->∃m',m'<m/\W (i+1) m' σ' H')/\∀x H',J.yld i H x H'->g x σ H' λσ2 H2=>tb { D with nx:=N,ct:=N,bk:=D.nx } σ2 H2)
def El(fp:List ck)(h:oE):List (ck×Obj):=fp.filterMap λb=>(h.get? b).map λo=>(b,o)
theorem i6(hb:b∈fp)(e:h.get? b=oZ o):(b,o)∈El fp h:=YG.mpr ⟨b,hb,by rw[e];rfl⟩
theorem Ue(hp:p∈El fp h):p.1∈fp/\h.get? p.1=oZ p.2:=by
 obtain⟨b,hb,e⟩:=YG.mp hp;cases q:h.get? b with
 |none=>rw[q]at e;cases e
 |some o=>
  rw[q]at e;have e':(b,o)=p:=Option.some.inj e;subst e';exact⟨hb,q⟩
theorem aV.pinned(I:aV X pins σ H s)(hf:∀b∈fp,rA X pins H b)(ho:∀b∈fp,∃o,s.heap.get? b=oZ o/\∀v,o.data≠.cell v):aV X (pins++El fp s.heap) σ H s:=
 I.pins_of λp hp=>(TY.mp hp).elim (λz=>I.pin p (TK _ z)) λz=>by
  obtain⟨hb,e⟩:=Ue z;obtain⟨f0,f1,f2,_⟩:=hf p.1 hb;obtain⟨o,e',d⟩:=ho p.1 hb;rw[e]at e';cases e';exact⟨e,f0,f1,f2,d⟩
theorem aV.unpinned(I:aV X (pins++pl) σ H s):aV X pins σ H s:=I.pins_of λp hp=>I.pin p (TK _ (UD _ hp))
theorem FV(hp:PassesOwn (df X.prog X.w) X.A X.env X.xe)(hc:X.calm=true)(hi:PI X tg iter wi)(hg:PG X tg g)(hb:Oc X body tb)(hs:∀x,dr iter X.env x=pure x:=by intro _;rfl):PS X (.For tg iter body [] pos) (MF wi g tb):=by
 intro pins s σ H D I h;refine wpAny_For (dZ (hi pins s σ H _ I h) λv s1 h1=>dZ h1 λitv s2 h2=>?_) hs;obtain⟨it,fp,tn,J,H2,e,I2,T,st2,f2,W,⟨m0,w0⟩,turn⟩:=h2;subst e
 -- what stays true of the iterator's objects through the loop
 have xc:∀{H':Hp},(∀b∈fp,H' b=none)->∀b∈fp,rA X pins H' b:=λhn b hb=>⟨hn b hb,(f2 b hb).2⟩;refine codeAny_forLoop_any (λn s'=>∃i σ' H',aV X pins σ' H' s'/\tn i s'.heap/\(∀b∈fp,H' b=none)/\W i n σ' H') ?_ m0 ⟨0,σ,H2,I2,st2,λb hb=>(f2 b hb).1,w0⟩;rintro n s3 ⟨i,σ3,H3,I3,st3,fr3,w3⟩;obtain⟨stop,qn⟩|⟨go,N,hN,step⟩:=turn i n σ3 H3 w3
 ·refine gy hp (dZ (T.done X rfl rfl rfl hc i pins s3 σ3 H3 X.xe I3 (xc fr3) st3 stop) λr s4 zZ=>?_);obtain⟨hr,I4⟩:=zZ;subst hr;exact jq ⟨σ3,H3,I4,qn⟩
 ·refine gy hp (dZ (T.item X rfl rfl rfl hc i pins s3 σ3 H3 X.xe I3 (xc fr3) st3 go) λr s4 zZ=>?_);obtain⟨u,hr,h4⟩:=zZ;subst hr;refine gy hp (dZ h4 λ_ s5 zZ=>?_);obtain⟨x,H5,I5,r5,y5,st5,fr5⟩:=zZ;have I5':=I5.pinned (xc fr5) (T.obj _ _ st5);refine gy hp (dZ (hg _ s5 σ3 H5 x u _ I5' r5 (step x H5 y5)) λ_ s6 zZ=>?_);obtain⟨σ6,H6,I6,q6⟩:=zZ;refine gy hp (dZ (hb _ s6 σ6 H6 _ I6 q6) λf s7 q7=>?_);have again:∀{σ7:St}{H7:Hp},aV X (pins++El fp s5.heap) σ7 H7 s7->N σ7 H7->∃m,m<n/\∃i σ' H',aV X pins σ' H' s7/\tn i s7.heap/\(∀b∈fp,H' b=none)/\W i m σ' H':=λ{σ7 H7}I7 n7=>by
   obtain⟨m',hm,w7⟩:=hN σ7 H7 n7;refine⟨m',hm,i+1,σ7,H7,I7.unpinned,T.keep _ _ _ st5 λb hb o e=>(I7.pin (b,o) (TK _ (TK _ (i6 hb e)))).1,λb hb=>?_,w7⟩;obtain⟨o,e,d⟩:=T.obj _ _ st5 b hb;exact(I7.pin (b,o) (TK _ (TK _ (i6 hb e)))).2.1
  cases f with
  |next=>obtain⟨σ7,H7,I7,n7⟩:=q7;exact again I7 n7
  |cont=>obtain⟨σ7,H7,I7,n7⟩:=q7;exact again I7 n7
  |brk=>obtain⟨σ7,H7,I7,q7⟩:=q7;exact⟨σ7,H7,I7.unpinned,q7⟩
  |ret v=>obtain⟨x7,σ7,H7,I7,r7,q7⟩:=q7;exact⟨x7,σ7,H7,I7.unpinned,r7,q7⟩
abbrev R2:=V->V->Hp->VK->Prop
def oQ(X:Cx)(f:oA->oA->Sem oA)(r:R2):Prop:=
 ∀(pins:List (ck×Obj))(s:oB)(σ:St)(H:Hp)(x y:V)(v u:oA)(Q:VK),aV X pins σ H s->bP x v->bP y u->r x y H Q->
  cq (df X.prog X.w) X.A (f v u) (EP X pins σ Q) X.xe s
def NL(X:Cx)(f:oA->Sem oA)(r:V->Hp->VK->Prop):Prop:=
 ∀(pins:List (ck×Obj))(s:oB)(σ:St)(H:Hp)(x:V)(v:oA)(Q:VK),aV X pins σ H s->bP x v->r x H Q->
  cq (df X.prog X.w) X.A (f v) (EP X pins σ Q) X.xe s
def j0(X:Cx)(f:oA)(r:List V->Hp->VK->Prop):Prop:=
 ∀(pins:List (ck×Obj))(s:oB)(σ:St)(H:Hp)(xs:List V)(us:List oA)(Q:VK),aV X pins σ H s->bB xs us->r xs H Q->
  cq (df X.prog X.w) X.A (call f us) (EP X pins σ Q) X.xe s
def NZ(X:Cx)(r:V->Hp->(Bool->Hp->Prop)->Prop):Prop:=
 ∀(pins:List (ck×Obj))(s:oB)(σ:St)(H:Hp)(x:V)(v:oA)(Q:Bool->Hp->Prop),aV X pins σ H s->bP x v->r x H Q->
  cq (df X.prog X.w) X.A (truthy v) (TP X pins σ Q) X.xe s
def G9(r:R2)(ta tb:TE):TE:=λσ H Q=>ta σ H λx H1=>tb σ H1 λy H2=>r x y H2 Q
def RL(r:V->Hp->VK->Prop)(ta:TE):TE:=λσ H Q=>ta σ H λx H1=>r x H1 Q
def rI(C:Int->Int->Prop)(g:Int->Int->V):R2:=λx y H Q=>∃i j,x = .int i/\y = .int j/\C i j/\Q (g i j) H
def Vk(g:Int->Int->V):R2:=λx y H Q=>∃i j,x = .int i/\y = .int j/\Q (g i j) H
def rU(g:Int->V):V->Hp->VK->Prop:=λx H Q=>∃i,x = .int i/\Q (g i) H
theorem CM{X:Cx}{ta:TE}(ha:PE X a ta)(hb:PE X b tb){R:V->V->Hp->Prop}(I:aV X pins σ H s)(h:ta σ H λx H1=>tb σ H1 λy H2=>R x y H2){Q:oA->oB->Prop}{f:oA->oA->Sem oA}(hf:∀v u s2 x y H2,aV X pins σ H2 s2->bP x v->bP y u->R x y H2->cq (df X.prog X.w) X.A (f v u) Q X.xe s2):
  cq (df X.prog X.w) X.A (dw a X.env) (λv s₁=>cq (df X.prog X.w) X.A (dw b X.env) (λu s₂=>cq (df X.prog X.w) X.A (f v u) Q X.xe s₂) X.xe s₁) X.xe s:=by
 refine dZ (ha pins s σ H _ I h) λv s1 zZ=>?_;obtain⟨x,H1,I1,r1,q1⟩:=zZ;refine dZ (hb pins s1 σ H1 _ I1 q1) λu s2 zZ=>?_;obtain⟨y,H2,I2,r2,q2⟩:=zZ;exact hf v u s2 x y H2 I2 r1 r2 q2
theorem KO(ho:oQ X (gf op) r)(ha:PE X a ta)(hb:PE X b tb):PE X (.BinOp a op b pos) (G9 r ta tb):=by
 intro pins s σ H Q I h;exact wpAny_BinOp (CM ha hb I h λv u s2 x y H2 I2 rx ry q=>ho pins s2 σ H2 x y v u Q I2 rx ry q)
theorem KQ{r:V->Hp->VK->Prop}(ho:NL X (unaryOp op) r)(ha:PE X a ta):PE X (.UnaryOp op a pos) (RL r ta):=by
 intro pins s σ H Q I h;exact UnaryOp_ (dZ (ha pins s σ H _ I h) λv s1 zZ=>by obtain⟨x,H1,I1,r1,q1⟩:=zZ;exact ho pins s1 σ H1 x v Q I1 r1 q1)
theorem KD{C:Int->Int->Prop}{g:Int->Int->Int}(rule:∀(i j:Int)(t u:Tok)(s:oB)(Q:oA->oB->Prop)(E:oA->oB->Prop),C i j->Q (.int (g i j) s.toks) { s with toks:=s.toks+1 }->cq (df X.prog X.w) X.A (f (.int i t) (.int j u)) Q E s):
  oQ X f (rI C λi j=>.int (g i j)):=by
 intro pins s σ H x y v u Q I rx ry h;obtain⟨i,j,rfl,rfl,hc,q⟩:=h;obtain⟨t,rfl⟩:=rx;obtain⟨t',rfl⟩:=ry;exact rule i j t t' s _ _ hc ⟨.int (g i j),H,I.tok _,⟨_,rfl⟩,q⟩
theorem KG{g:Int->Int->Int}(rule:∀(i j:Int)(t u:Tok)(s:oB)(Q:oA->oB->Prop)(E:oA->oB->Prop),Q (.int (g i j) s.toks) { s with toks:=s.toks+1 }->cq (df X.prog X.w) X.A (f (.int i t) (.int j u)) Q E s):
  oQ X f (Vk λi j=>.int (g i j)):=by
 intro pins s σ H x y v u Q I rx ry h;obtain⟨i,j,rfl,rfl,q⟩:=h;obtain⟨t,rfl⟩:=rx;obtain⟨t',rfl⟩:=ry;exact rule i j t t' s _ _ ⟨.int (g i j),H,I.tok _,⟨_,rfl⟩,q⟩
theorem R8{g:Int->Int->Bool}(rule:∀(i j:Int)(t u:Tok)(s:oB)(Q:oA->oB->Prop)(E:oA->oB->Prop),Q (.bool (g i j)) s->cq (df X.prog X.w) X.A (f (.int i t) (.int j u)) Q E s):
  oQ X f (Vk λi j=>.bl (g i j)):=by
 intro pins s σ H x y v u Q I rx ry h;obtain⟨i,j,rfl,rfl,q⟩:=h;obtain⟨t,rfl⟩:=rx;obtain⟨t',rfl⟩:=ry;exact rule i j t t' s _ _ ⟨.bl (g i j),H,I,rfl,q⟩
def CA(i j:Int):Prop:=0<=j/\j<=1000000/\i.natAbs<2^64
def L5(i j:Int):Prop:=(-(2^64)<i/\i<2^64)\/(-(2^64)<j/\j<2^64)
theorem L5.ok{i j:Int}(h:L5 i j):IntMulOk i j:=by
 obtain⟨h1,h2⟩|⟨h1,h2⟩:=h
 ·exact .of_left (intBits_le_64 h1 h2)
 ·exact .of_right (intBits_le_64 h1 h2)
theorem cQ:oQ X (gf .Add) (Vk λi j=>.int (i+j)):=KG λ_ _ _ _ _ _ _ q=>add_int q
theorem i8:oQ X (gf .Sub) (Vk λi j=>.int (i-j)):=KG λ_ _ _ _ _ _ _ q=>sub_int q
theorem EV:oQ X (gf .Mult) (rI L5 λi j=>.int (i*j)):=KD λ_ _ _ _ _ _ _ hc q=>mul_int q hc.ok
theorem lX:oQ X (gf .Mod) (rI (λ_ j=>0<j) λi j=>.int (i%j)):=KD λi j _ _ _ _ _ hc q=>by
 have h1:(0:Int)<j:=hc;exact mod_int' ⋯ (by rw[ZU i ⋯];exact q)
theorem Zn:oQ X (gf .Pow) (rI CA λi j=>.int (i^j.toNat)):=KD λ_ _ _ _ _ _ _ hc q=>pow_int_small hc.1 hc.2.1 hc.2.2 q
theorem SN{g:Int->Int}(rule:∀(i:Int)(t:Tok)(s:oB)(Q:oA->oB->Prop)(E:oA->oB->Prop),Q (.int (g i) s.toks) { s with toks:=s.toks+1 }->cq (df X.prog X.w) X.A (f (.int i t)) Q E s):
  NL X f (rU λi=>.int (g i)):=by
 intro pins s σ H x v Q I rx h;obtain⟨i,rfl,q⟩:=h;obtain⟨t,rfl⟩:=rx;exact rule i t s _ _ ⟨.int (g i),H,I.tok _,⟨_,rfl⟩,q⟩
theorem HL:NL X (unaryOp .USub) (rU λi=>.int (-i)):=SN λ_ _ _ _ _ q=>neg_int q
section
variable{X:Cx}{a b c:oC}{ta tb tc:TE}{pos:Pos}
theorem Dl(I:aV X pins σ H s)(q:Q (.bl k) H)(e:k=k'):EP X pins σ Q (.bool k') s:=by
 subst e;exact⟨.bl k,H,I,rfl,q⟩
theorem e8:oQ X (fi .Lt) (Vk λi j=>.bl (decide (i<j))):=R8 λ_ _ _ _ _ _ _ q=>lt_int q
theorem Zm:oQ X (fi .LtE) (Vk λi j=>.bl (decide (i<=j))):=R8 λ_ _ _ _ _ _ _ q=>le_int q
theorem sN:oQ X (fi .Gt) (Vk λi j=>.bl (decide (j<i))):=R8 λ_ _ _ _ _ _ _ q=>gt_int q
theorem Zl:oQ X (fi .GtE) (Vk λi j=>.bl (decide (j<=i))):=R8 λ_ _ _ _ _ _ _ q=>ge_int q
theorem EU:oQ X (fi .Is) (λx y H Q=>y = .non/\Q (.bl (decide (x = .non))) H):=by
 intro pins s σ H x y v u Q I rx ry h;obtain⟨rfl,q⟩:=h;cases ry;refine is_none_gen (Dl I q ?_);cases x<;>first
  |(cases rx;rfl)
  |(obtain⟨t,rfl⟩:=rx;rfl)
theorem S7:oQ X (fi .IsNot) (λx y H Q=>y = .non/\Q (.bl (!decide (x = .non))) H):=by
 intro pins s σ H x y v u Q I rx ry h;obtain⟨rfl,q⟩:=h;cases ry;refine isnot_none_gen (Dl I q ?_);cases x<;>first
  |(cases rx;rfl)
  |(obtain⟨t,rfl⟩:=rx;rfl)
theorem cN(b:oC)(h:op≠.In:=by decide)(h2:op≠.NotIn:=by decide):eh op b=false:=by
 have e1:(op==CmpOp.In)=false:=by cases op<;>first|rfl|exact absurd rfl h
 have e2:(op==CmpOp.NotIn)=false:=by cases op<;>first|rfl|exact absurd rfl h2
 cases b<;>simp[eh,e1,e2]
theorem T3(ho:oQ X (fi op) r)(ha:PE X a ta)(hb:PE X b tb)(hm:eh op b=false):PE X (.Compare a [op] [b] pos) (G9 r ta tb):=by
 intro pins s σ H Q I h;exact wpAny_Compare1 (CM ha hb I h λv u s2 x y H2 I2 rx ry q=>ho pins s2 σ H2 x y v u Q I2 rx ry q) hm
def BV(t:TE):TT:=λσ H Q=>t σ H λx H'=>∃k,x = .bl k/\Q k H'
theorem V3(ho:oQ X (fi op) r)(ha:PE X a ta)(hb:PE X b tb)(hm:eh op b=false):PT X (.Compare a [op] [b] pos) (BV (G9 r ta tb)):=by
 intro pins s σ H Q I h;refine wpAny_isTrue_Compare1 (dZ (ha pins s σ H _ I h) λv s1⟨x,H1,I1,r1,q1⟩=>dZ (hb pins s1 σ H1 _ I1 q1) λu s2⟨y,H2,I2,r2,q2⟩=>
  dZ (ho pins s2 σ H2 x y v u _ I2 r1 r2 q2) λc s3⟨z,H3,I3,r3,k,e,q3⟩=>?_) hm
 subst e;cases r3;exact ip ⟨H3,I3,q3⟩
def IE(K:W.Frag)(x:V)(H:Hp)(k:Bool):Prop:=
 match x with
 |.non=>k=false
 |.bl b=>k=b
 |.int i=>k=(i != 0)
 |.str y=>y.length<=cw/\k=((y.length:Int) != 0)
 |.byt y=>y.size<=cw/\k=((y.size:Int) != 0)
 |.ref p=>(∃xs,j5 K H p xs/\k = !xs.isEmpty)\/(∃xs,vG K H p xs/\k = !xs.isEmpty)\/∃la,H p=oZ (.dK la)/\k = !la.isEmpty
 |_=>False
theorem Lp{κ:Type}{la:List (κ×V)}{vs:List (κ×oA)}(r:KV la vs):(!vs.isEmpty) = !la.isEmpty:=by
 cases r<;>rfl
theorem xR(r:bB xs jz):(!jz.toArray.isEmpty) = !xs.isEmpty:=by
 cases r<;>simp
theorem tZ:(cw:Nat)<2^63:=by rw[jy];decide
theorem HI:NZ X (λx H Q=>∃k,IE X.K x H k/\Q k H):=by
 intro pins s σ H x v Q I rx h;obtain⟨k,e,q⟩:=h;have hl:=tZ;have hs:cw=16777216:=jy;cases x with
 |non=>
  cases rx;have e':k=false:=e;subst e';exact truthy_none ⟨H,I,q⟩
 |bl b=>
  cases rx;have e':k=b:=e;subst e';exact ip ⟨H,I,q⟩
 |int i=>
  obtain⟨t,rfl⟩:=rx;have e':k=(i != 0):=e;subst e';exact PySem.P.truthy_int ⟨H,I,q⟩
 |str y=>
  obtain⟨t,rfl⟩:=rx;obtain⟨hy,e'⟩:y.length<=cw/\k=((y.length:Int) != 0):=e;subst e';exact PySem.P.truthy_str ⋯ ⟨H,I.tok _,q⟩
 |byt y=>
  obtain⟨t,rfl⟩:=rx;obtain⟨hy,e'⟩:y.size<=cw/\k=((y.size:Int) != 0):=e;subst e';exact W.truthy_bytes ⋯ ⟨H,I.tok _,q⟩
 |ref p=>
  cases rx;have e':(∃xs,j5 X.K H p xs/\k = !xs.isEmpty)\/(∃xs,vG X.K H p xs/\k = !xs.isEmpty)\/∃la,H p=oZ (.dK la)/\k = !la.isEmpty:=e;obtain⟨xs,hx,e'⟩|⟨xs,hx,e'⟩|⟨la,hx,e'⟩:=e'
  ·subst e';obtain⟨jz,r,pl,hz⟩:=I.list hx;have hlen:=r.length;exact wpAny_truthy_list pl.isList (by simp only[TU];lia) ⟨H,I.tok _,by rw[xR r];exact q⟩
  ·subst e';obtain⟨jz,r,pl,hz⟩:=I.tuple hx;have hlen:=r.length;exact truthy_tuple pl (by simp only[TU];lia) ⟨H,I.tok _,by rw[xR r];exact q⟩
  ·subst e';obtain⟨hz,hS,vs,r,m⟩:la.length<=cw/\(p==gj)=false/\∃vs,KV la vs/\s.heap.DictOf (fW X.prog X.w) p vs:=I.hok p _ hx;have hlen:la.length=vs.length:=Paired.length r;exact wpAny_truthy_dict hS m ⋯ ⟨H,I.tok _,by rw[Lp r];exact q⟩
 |_=>exact(show False from e).elim
theorem C0(ha:PE X a ta)(he:∀whole,isTrue a X.env whole=(do let v <-whole;standAt a.pos;ig [v] (truthy v))):
  PT X a (λσ H Q=>ta σ H λx H'=>∃k,IE X.K x H' k/\Q k H'):=by
 intro pins s σ H Q I h;exact isTrue_plain (dZ (ha pins s σ H _ I h) λv s1 zZ=>by obtain⟨x,H1,I1,r1,q1⟩:=zZ;exact HI pins s1 σ H1 x v Q I1 r1 q1) (he _)
theorem Cd(r:bB [x] us):∃u,us=[u]/\bP x u:=by
 cases r with
 |cons r1 r2=>cases r2;exact⟨_,rfl,r1⟩
end
structure fF(k:Nat)(A:oD):Prop where
 hd:A.handled=none
 dp:A.depth+3*k+5<recursionLimit
 un:A.units+16*k+200<jn
 gd:A.guards=oZ []
theorem fF.mono(r:fF k A)(h:j<=k):fF j A:=⟨r.hd,by have:=r.dp;lia,by have:=r.un;lia,r.gd⟩
theorem fF.deeper(r:fF (k+1) A)(env:Env):fF k (A.deeper env):=
 ⟨r.hd,by have:=r.dp;show A.depth+1+3*k+5<_;lia,by have:=r.un;show A.units+3+16*k+200<_;lia,r.gd⟩
theorem fF.depth(r:fF k A):A.depth<recursionLimit:=by have:=r.dp;lia
theorem fF.units(r:fF k A):A.units+64<jn:=by have:=r.un;lia
def MM:TA:=λ_ H Q=>Q [] H
def G4(ta:TE)(tr:TA):TA:=λσ H Q=>ta σ H λx H1=>tr σ H1 λxs H2=>Q (x::xs) H2
section
variable{X:Cx}{e:oC}{es:List oC}{te:TE}{t:TA}{pos:Pos}
theorem EY:PA X [] MM:=λ_ _ _ _ H Q I h=>Calls.spliced_nil ⟨[],H,I,.nil,h⟩
theorem T1(ha:PE X e te)(hr:PA X es t)(hs:du (e::es) X.env=(false,dw e X.env)::du es X.env:=by rfl):PA X (e::es) (G4 te t):=by
 intro pos pins s σ H Q I h;rw[hs];show cq _ _ (spliced ((false,dw e X.env)::iw pos (du es X.env))) _ _ s;refine Calls.spliced_cons (dZ (ha pins s σ H _ I h) λu s1 zZ=>?_);obtain⟨x,H1,I1,r1,q1⟩:=zZ;exact dZ (hr pos pins s1 σ H1 _ I1 q1) λus s2 zZ=>by obtain⟨xs,H2,I2,r2,q2⟩:=zZ;exact⟨x::xs,H2,I2,.cons r1 r2,q2⟩
def MS(t:TA):TE:=λσ H Q=>t σ H λxs H1=>xs.length<=cw/\∀p,H1 p=none->Q (.ref p) (upd H1 p (.tup xs))
def MJ(t:TA):TE:=λσ H Q=>t σ H λxs H1=>xs.length<=cw/\∀p,H1 p=none->Q (.ref p) (upd H1 p (.lst xs))
theorem FL{x1}(h:PA X es t):PE X (.Tuple es x1 pos) (MS t):=by
 intro pins s σ H Q I hq;refine wpAny_Tuple_spliced (dZ (h pos pins s σ H _ I hq) λus s1⟨xs,H1,I1,r,z,q⟩=>⟨by rw[<-r.length];exact z,?_⟩);have hf:H1 s1.heap.objs.size=none:=I1.hok.fresh (TN _);refine⟨.ref s1.heap.objs.size,upd H1 s1.heap.objs.size (.tup xs),I1.laid (t':=s1.toks) (λb u e=>TJ _ e) (TN _) ?_,rfl,q _ hf⟩;exact⟨z,us,r,⟨_,UG _ rfl,rfl,_,rfl⟩⟩
theorem FF(h:PA X es t):PE X (.List es pos) (MJ t):=by
 intro pins s σ H Q I hq;refine wpAny_List_spliced (dZ (h pos pins s σ H _ I hq) λus s1⟨xs,H1,I1,r,z,q⟩=>⟨by rw[<-r.length];exact z,?_⟩);have hf:H1 s1.heap.objs.size=none:=I1.hok.fresh (TN _);refine⟨.ref s1.heap.objs.size,upd H1 s1.heap.objs.size (.lst xs),I1.laid (t':=s1.toks) (λb u e=>TJ _ e) (TN _) ?_,rfl,q _ hf⟩;exact⟨z,us,0,r,UG _ rfl⟩
end
abbrev Sp:=List V->Hp->VK->XK->Prop
abbrev Kq:=List Env->Hp->oB->XK->oA->oB->Prop
structure L9(P:da)(w:dk)(K:W.Frag)(mg:Str->Option oA)(base:oE)(A:oD)(outer:List Env)(s:oB)(H:Hp):Prop where
 frames:A.frames=oZ outer
 mod:Mod K mg base
 bs:∀b o,base.get? b=oZ o->s.heap.get? b=oZ o/\H b=none
 bsz:base.objs.size<=s.heap.objs.size
 funs:s.heap.FunFrames base outer
 frf:∀b∈Pk outer,H b=none
 hok:pW P w H s.heap
 bare:jg s.gens
def CE(outer:List Env)(P:da)(w:dk)(H:Hp)(s:oB)(Q:VK)(u:oA)(s':oB):Prop:=
 ∃v H',s'.os=s.os/\jg s'.gens/\Un (Pk outer) [] H H' s.heap s'.heap/\pW P w H' s'.heap/\bP v u/\Q v H'
def CR(CX:Kq)(outer:List Env)(P:da)(w:dk)(H:Hp)(s:oB)(Q:VK)(E:XK)(r:Result)(s':oB):Prop:=
 match r with
 |.ok (.ret u)=>CE outer P w H s Q u s'
 |.ok _=>False
 |.error e=>CX outer H s E e s'
structure bG(P:da)(w:dk)(K:W.Frag)(mg:Str->Option oA)(base:oE)(CX:Kq)(k:Nat)(f:ck)(fd:fe)(ps:List Str)(sp:Sp):Prop where
 len:∀vs H Q E,sp vs H Q E->vs.length=ps.length
 run:∀(A:oD)(outer:List Env)(s:oB)(H:Hp)(args:Args)(us:List oA)(vs:List V)(Q:VK)(E:XK),fF k A->L9 P w K mg base A outer s H->BindsTo s fd args (ps.zip us)->bB vs us->sp vs H Q E->
  codeAny (df P w) A (.call (.ref f) args) (CR CX outer P w H s Q E) s
theorem bG.imp{P:da}{w:dk}{K:W.Frag}{mg:Str->Option oA}{base:oE}{CX:Kq}{k:Nat}{f:ck}{fd:fe}{ps:List Str}{sp sp':Sp}(F:bG P w K mg base CX k f fd ps sp)
  (h:∀vs H Q E,sp' vs H Q E->sp vs H Q E):(~~~bG) CX k f fd ps sp':=
 ⟨λvs H Q E q=>F.len vs H Q E (h _ _ _ _ q),λA outer s H args us vs Q E hr he hb hv hs=>F.run A outer s H args us vs Q E hr he hb hv (h _ _ _ _ hs)⟩
theorem aV.env0(I:aV X pins σ H s):L9 X.prog X.w X.K X.mg X.base X.A X.stack s H:=
 ⟨I.ok.frames,I.ok.mod,I.bs,VE I.ok.bsz I.sz,I.stack,I.stkFree,I.hok,I.bare⟩
theorem aV.after(I:aV X pins σ H s)(h:CE X.stack X.prog X.w H s Q u s'):EP X pins σ Q u s':=by
 obtain⟨v,H',os,bare,un,hok,r,q⟩:=h;obtain⟨hh,g,d,t,os'⟩:=s';obtain rfl:os'=s.os:=os;exact⟨v,H',I.call (h':=hh) (g':=g) (d':=d) (t':=t) (ch:=[]) un hok bare (λb z=>absurd z (by simp)),r,q⟩
def Kc(sp:Sp)(dvs:List V)(E:XK)(t:TA):TE:=λσ H Q=>t σ H λvs H1=>sp (vs++dvs) H1 Q E
def mP(K:W.Frag)(fd:fe)(ps:List Str)(ds:List oA):Prop:=
 ∀(s:oB)(us:List oA),K.In s.heap->(us++ds).length=ps.length->BindsTo s fd ⟨us,[]⟩ (ps.zip (us++ds))
theorem mP.all{K:W.Frag}{fd:fe}{ps:List Str}(h:∀us:List oA,us.length=ps.length->bindArgs fd ⟨us,[]⟩=pure (ps.zip us)):mP K fd ps []:=λs us _ hl=>by
 rw[UH]at hl⊢;exact .of_eq (h us hl)
def Kw(CX:Kq)(X:Cx)(E:XK):Prop:=∀(pins:List (ck×Obj))(σ:St)(H:Hp)(s:oB)(e:oA)(s':oB),aV X pins σ H s->CX X.stack H s E e s'->X.xe e s'
theorem GU(F:bG X.prog X.w X.K X.mg X.base CX k f fd ps sp)(hr:fF k X.A)(hb:mP X.K fd ps ds)(hd:bB dvs ds)(hx:Kw CX X E)(I:aV X pins σ H s)(r:bB vs us)(h:sp (vs++dvs) H Q E):cq (df X.prog X.w) X.A (call (.ref f) us) (EP X pins σ Q) X.xe s:=by
 have r2:bB (vs++dvs) (us++ds):=r.append hd;have hl:(us++ds).length=ps.length:=by rw[<-r2.length];exact F.len _ _ _ _ h
 refine wpAny_call (codeAny_mono (F.run X.A X.stack s H ⟨us,[]⟩ (us++ds) (vs++dvs) Q E hr I.env0 (hb s us I.kIn hl) r2 h) λr s' hq=>?_);cases r with
 |error e=>exact hx pins σ H s e s' I hq
 |ok fl=>
  cases fl with
  |ret u=>exact I.after hq
  |next=>exact False.elim hq
  |brk=>exact False.elim hq
  |cont=>exact False.elim hq
theorem T2(F:bG X.prog X.w X.K X.mg X.base CX k f fd ps sp)(hr:fF k X.A)(hg:Gl X x)(hm:X.mg x=oZ (.ref f))(hk:W.keepIn X.K (.ref f)=true)(hb:mP X.K fd ps ds)(hd:bB dvs ds)(hx:Kw CX X E)(ha:PA X (e::es) t)(ud:(x==("__debug__":Str))=false:=by decide)(he:du (e::es) X.env=(false,dw e X.env)::du es X.env:=by rfl)(hpl:(iw pos (du es X.env)).any (·.1)=false:=by rfl):
  PE X (.Call (.Name x p) (e::es) [] pos) (Kc sp dvs E t):=by
 intro pins s σ H Q I h;refine ju (Qf I hg hm ?_ ud);refine PySem.W.callWith_K (h₀:=X.base) I.ok.mod.kin hk (dZ (ha pos pins s σ H _ I h) λus s1⟨vs,H1,I1,r,q⟩=>⟨I1.kIn,?_⟩) he hpl;exact GU F hr hb hd hx I1 r q
structure aI(N P:List Str)(sc:iq):Prop where
 kind:sc.kind = .function
 co:sc.isCoroutine=false
 gen:sc.isGenerator=false
 nd:N.Nodup
 pre:N.take P.length=P
 par:∀x∈P,sc.names.lookup x=oZ .local\/sc.names.lookup x=oZ .cell
 nofree:∀y∈sc.names,y.2≠.free
theorem Ag{kindOf:Str->Option NameKind}{x:Str}:∀{binds:List (Str×oA)}{m:Str->Option oA},(∀v,(x,v)∉binds)->bindL kindOf binds m x=m x
 |[],_,_=>rfl
 |(n,v)::r,m,h=>by
  unfold bindL;rw[Ag λw hw=>h w (UI _ hw)]
  split
  ·have:x≠n:=by rintro rfl;exact h v VX
   simp[this]
  ·rfl
theorem Ae{kindOf:Str->Option NameKind}{x:Str}:∀{binds:List (Str×oA)}{m:Str->Option oA},(∀v,(x,v)∉binds)->bindC kindOf binds m x=m x
 |[],_,_=>rfl
 |(n,v)::r,m,h=>by
  unfold bindC;rw[Ae λw hw=>h w (UI _ hw)]
  split
  ·rfl
  ·have:x≠n:=by rintro rfl;exact h v VX
   simp[this]
theorem Af{kindOf:Str->Option NameKind}:∀{P:List Str}{vs:List oA}{i:Nat}{m:Str->Option oA},P.Nodup->P[i]?=oZ x->vs[i]?=oZ v->kindOf x=oZ .local->
  bindL kindOf (P.zip vs) m x=oZ v
 |[],_,_,_,_,h,_,_=>by simp at h
 |_::_,[],_,_,_,_,h,_=>by simp at h
 |p::P,w::vs,0,m,nd,h1,h2,hk=>by
  simp at h1 h2;subst h1;subst h2;show bindL kindOf ((p,w)::P.zip vs) m p=_;unfold bindL;rw[Ag λv hv=>(WK.mp nd).1 (VY hv).1,oV hk];simp
 |p::P,w::vs,i+1,m,nd,h1,h2,hk=>by
  show bindL kindOf ((p,w)::P.zip vs) m x=_;unfold bindL;exact Af (i:=i) (WK.mp nd).2 (by simpa using h1) (by simpa using h2) hk
theorem Ad{kindOf:Str->Option NameKind}:∀{P:List Str}{vs:List oA}{i:Nat}{m:Str->Option oA},P.Nodup->P[i]?=oZ x->vs[i]?=oZ v->kindOf x≠oZ .local->
  bindC kindOf (P.zip vs) m x=oZ v
 |[],_,_,_,_,h,_,_=>by simp at h
 |_::_,[],_,_,_,_,h,_=>by simp at h
 |p::P,w::vs,0,m,nd,h1,h2,hk=>by
  simp at h1 h2;subst h1;subst h2;show bindC kindOf ((p,w)::P.zip vs) m p=_;unfold bindC;rw[Ae λv hv=>(WK.mp nd).1 (VY hv).1,oW hk];simp
 |p::P,w::vs,i+1,m,nd,h1,h2,hk=>by
  show bindC kindOf ((p,w)::P.zip vs) m x=_;unfold bindC;exact Ad (i:=i) (WK.mp nd).2 (by simpa using h1) (by simpa using h2) hk
def n8(N:List Str)(vs:List V):St:=vs.map oZ++UY (N.length-vs.length) none
def De(CX:Kq)(P:da)(w:dk)(K:W.Frag)(mg:Str->Option oA)(base:oE)(N:List Str)(qual:Str)(scope:iq)(f:ck)(cd:oA)(A:oD)(outer:List Env)(s:oB)(H:Hp)(E:XK):Cx where
 prog:=P
 w:=w
 K:=K
 mg:=mg
 base:=base
 A:=A.deeper (je qual scope s.heap.objs.size f cd)
 N:=N
 s₀:=s
 H₀:=H
 env:=je qual scope s.heap.objs.size f cd
 outer:=outer
 stack:=je qual scope s.heap.objs.size f cd::outer
 ex:=[]
 calm:=true
 fn:=λ_=>true
 pn:=[]
 xe:=λe s'=>cq (df P w) (A.deeper (je qual scope s.heap.objs.size f cd)) (leaving (je qual scope s.heap.objs.size f cd) e) (λ_ s''=>CX outer H s E e s'') (λe' s''=>CX outer H s E e' s'') s'
theorem Hn{sc:iq}(h:sc.names.lookup x=oZ .cell):∃c,(cellsFrom n sc.names []).lookup x=oZ c:=by
 have q:=W.cellsFrom_some sc.names n [] (.inl h);exact Option.isSome_iff_exists.mp q
theorem Tw{CX:Kq}{P:da}{w:dk}{K:W.Frag}{mg:Str->Option oA}{base:oE}{N ps:List Str}{qual:Str}{scope:iq}{f:ck}{cd:oA}{A:oD}{outer:List Env}{s s1:oB}{H:Hp}{E:XK}{us:List oA}{vs:List V}
  (S:aI N ps scope) (hd:A.handled=none) (e0:L9 P w K mg base A outer s H) (hl:vs.length=ps.length) (r:bB vs us)
  (x:InCallC s s.heap.objs.size (bindL (je qual scope s.heap.objs.size f cd).kindOf (ps.zip us) λ_=>none) (cellsFrom (s.heap.objs.size+1) scope.names []) (bindC (je qual scope s.heap.objs.size f cd).kindOf (ps.zip us) λ_=>none) s1) :
  aV (De CX P w K mg base N qual scope f cd A outer s H E) [] (n8 N vs) H s1:=by
 have hpl:ps.length<=N.length:=by have:=congrArg YO S.pre;rw[UP]at this;lia
 obtain⟨h1,tk,rfl,hk⟩:=x.done;have noA:∀b:ck,b∉(De CX P w K mg base N qual scope f cd A outer s H E).ex:=λb z=>absurd (show b∈([]:List ck)from z) (by simp);refine⟨⟨e0.mod,S.kind,rfl,rfl,TN _,λy z c h1 h2=>?_,λy hy=>?_,λy c _ h=>?_,λ_=>hd,Around.frames_deeper e0.frames,.inr ⟨rfl,rfl⟩,λb z=>absurd z (noA b),e0.bs,e0.bsz,λb _ _=>noA b,λb z=>absurd z (noA b),e0.funs,e0.frf⟩,
  rfl,e0.bare,Un.kept hk,⟨_,x.toInCall.ns,λi y v h1 h2 h3=>?_⟩,λy c h=>⟨_,x.cell y c h⟩,e0.hok.fresh (TN _),λy c h=>?_,λp hp=>absurd (show p∈([]:List (ck×Obj))from hp) (by simp),e0.hok.kept hk,?_⟩
 ·exact name_of_addr x.apart (PySem.mem_of_lookup h1) (PySem.mem_of_lookup h2)
 ·have hy:scope.names.lookup y=oZ .cell\/scope.names.lookup y=oZ .free:=hy;obtain hy|hy:=hy
  ·exact Hn hy
  ·exact absurd rfl (S.nofree _ (PySem.mem_of_lookup hy))
 ·exact UX (x.above y c (PySem.mem_of_lookup h))
 ·have hi:i<vs.length:=by
   unfold n8 at h2
   by_cases hi:i<vs.length
   ·exact hi
   ·rw[VG (by simpa using hi)]at h2;rw[ax]at h2;split at h2<;>cases h2
  have ha:vs[i]?=oZ v:=by
   unfold n8 at h2;rw[UE (by simpa using hi),TR]at h2;cases e:vs[i]? with
   |none=>rw[e]at h2;cases h2
   |some a=>rw[e]at h2;cases h2;rfl
  obtain⟨u,hu,rv⟩:=r.get ha;have hp:ps[i]?=oZ y:=by
   rw[<-S.pre,WD ⋯];exact h1
  have ndP:ps.Nodup:=by rw[<-S.pre];exact S.nd.sublist (List.take_sublist _ _)
  refine⟨u,rv,?_⟩;obtain k|k:=S.par y (SY hp)
  ·exact .inl ⟨k,Af ndP hp hu k⟩
  ·obtain⟨c,e⟩:=Hn (n:=s.heap.objs.size+1) k;refine .inr ⟨.inl k,c,e,?_⟩;have q:=x.cell y c e;rw[Ad ndP hp hu (by show scope.names.lookup y≠_;rw[k];decide)]at q;exact q
 ·exact e0.hok.fresh (UX (x.above y c (PySem.mem_of_lookup h)))
 ·unfold n8;show _=N.length;rw[TC,SV,XU]
  lia
theorem JE{CX:Kq}{P:da}{w:dk}{K:W.Frag}{mg:Str->Option oA}{base:oE}{k:Nat}{f:ck}{name qual:Str}{params:Arguments}{body:List dh}{scope:iq}{dV kV doc pm oq ct oc:oA}{an od:Option ck}
  {osl:Array (Option oA)} {N ps:List Str} {sp:Sp} (lk:K.lookup f=oZ ⟨oc,od,.func (W.fnOf name qual params body scope dV kV doc pm an oq ct),osl⟩) (vj:W.codeIn K oq qual=true) (S:aI N ps scope)
  (len:∀vs H Q E,sp vs H Q E->vs.length=ps.length)
  (wo:∀(A:oD)(outer:List Env)(s:oB)(H:Hp)(vs:List V)(Q:VK)(E:XK),fF k (A.deeper (je qual scope s.heap.objs.size f oq))->sp vs H Q E->
   ∃t,Oc (De CX P w K mg base N qual scope f oq A outer s H E) body t/\t { nx:=λ_ H'=>Q .non H',rt:=Q } (n8 N vs) H) :
  bG P w K mg base CX (k+1) f (W.fnOf name qual params body scope dV kV doc pm an oq ct) ps sp:=by
 refine⟨len,λA outer s H args us vs Q E hr e0 hb r hsp=>?_⟩;have hl:=len _ _ _ _ hsp;have KX:K.In s.heap:=e0.mod.kin.keeps λb o e=>(e0.bs b o e).1;have lim:s.heap.NoLimit:=e0.mod.nolimit.keeps λb o e=>(e0.bs b o e).1;have aC3:∀y∈ps.zip us,scope.names.lookup y.1=oZ .local\/(scope.names.lookup y.1=oZ .cell/\((cellsFrom (s.heap.objs.size+1) scope.names []).lookup y.1).isSome=true):=λzZ hy=>by
  obtain⟨n,v⟩:=zZ;obtain q|q:=S.par n (VY hy).1
  ·exact .inl q
  ·exact .inr ⟨q,W.cellsFrom_some _ _ _ (.inl q)⟩
 refine codeAny_call_function hr.depth (KX _ _ lk) rfl S.co S.gen rfl (W.codeRec_of KX vj) (hb _ _ _ _ ?_);refine wpAny_newFunctionEnv_cells S.kind aC3 λenv he s1 x=>?_;subst he;refine⟨lim.keeps x.toInCall.keep,codeAny_func ?_⟩;obtain⟨t,ht,hq⟩:=wo A outer s H vs Q E (hr.deeper _) hsp;have I:aV (De CX P w K mg base N qual scope f oq A outer s H E) [] (n8 N vs) H s1:=Tw S hr.hd e0 hl r x;refine ik (ht [] s1 (n8 N vs) H _ I hq) (λfl s' hs=>?_) λe s' hs=>hs;have fin:∀{σ':St}{H':Hp}{v:V}{u:oA},aV (De CX P w K mg base N qual scope f oq A outer s H E) [] σ' H' s'->bP v u->Q v H'->CE outer P w H s Q u s':=
  λ{σ' H' v u}J rv q=>⟨v,H',J.os,J.bare,J.base,J.hok,rv,q⟩
 cases fl with
 |ret u=>
  obtain⟨v,σ',H',J,rv,q⟩:=hs;exact fin J rv q
 |next=>
  obtain⟨σ',H',J,q⟩:=hs;exact fin (v:=V.non) (u:=YK) J rfl q
 |brk=>
  obtain⟨_,_,_,q⟩:=hs;exact False.elim q
 |cont=>
  obtain⟨_,_,_,q⟩:=hs;exact False.elim q
section
variable{X:Cx}{x:Str}{p pos:Pos}{e:oC}{es:List oC}{t:TA}{id T:String}{r:List V->Hp->VK->Prop}
def HW(r:List V->Hp->VK->Prop)(t:TA):TE:=λσ H Q=>t σ H λvs H1=>r vs H1 Q
theorem Zp(hc:j0 X (.builtin id) r)(hg:Gl X x)(hm:X.mg x=none)(hv:gr x=oZ (.builtin id))(ha:PA X (e::es) t)(hn:x≠"__name__":=by decide)(ud:(x==("__debug__":Str))=false:=by decide)(he:du (e::es) X.env=(false,dw e X.env)::du es X.env:=by rfl)(hpl:(iw pos (du es X.env)).any (·.1)=false:=by rfl):PE X (.Call (.Name x p) (e::es) [] pos) (HW r t):=by
 intro pins s σ H Q I h;refine ju (xU I hg hm hv ?_ hn ud);exact PyProof.Rows.callWith_builtin1 (dZ (ha pos pins s σ H _ I h) λus s1 zZ=>by obtain⟨vs,H1,I1,r1,q1⟩:=zZ;exact hc pins s1 σ H1 vs us Q I1 r1 q1) he hpl
theorem Up(hc:j0 X (.type T) r)(hg:Gl X x)(hm:X.mg x=none)(hv:gr x=oZ (.type T))(ha:PA X (e::es) t)(hn:x≠"__name__":=by decide)(ud:(x==("__debug__":Str))=false:=by decide)(he:du (e::es) X.env=(false,dw e X.env)::du es X.env:=by rfl)(hpl:(iw pos (du es X.env)).any (·.1)=false:=by rfl):PE X (.Call (.Name x p) (e::es) [] pos) (HW r t):=by
 intro pins s σ H Q I h;refine ju (xU I hg hm hv ?_ hn ud);exact PyProof.Rows.callWith_type1 (dZ (ha pos pins s σ H _ I h) λus s1 zZ=>by obtain⟨vs,H1,I1,r1,q1⟩:=zZ;exact hc pins s1 σ H1 vs us Q I1 r1 q1) he hpl
end
end L2
namespace HT
open PySem PyProof.Rows
section
open PySem.SeqAt
open PySem.AutoSeq1 (wpAny_loadPart')
open PySem.MeetsSeq PySem.MeetsSeq2 PySem.MeetsSeq3
end
theorem cat_tup{E:oA->oB->Prop}{Q:oA->oB->Prop}(ht:IsTup s.heap t vs.toArray)(hb:IsTup s.heap b ws.toArray)(hv:vs≠[])(h1:ws=[]->Q (.ref t) s)(h2:ws≠[]->Q (.ref s.heap.objs.size) { s with heap:=s.heap.push { cls:=.type "tuple",data:=.seq (vs++ws).toArray } })(xf:vs.length+ws.length<=cw):cq (df prog w) A (gf .Add (.ref t) (.ref b)) Q E s:=by
 obtain⟨⟨cls,dd,data,sl⟩,ho,hc,n,hd⟩:=id ht;obtain⟨⟨aJM,dd2,data2,sl2⟩,ho2,hc2,n2,hd2⟩:=id hb;simp only at hc hd hc2 hd2;subst hc hd hc2 hd2;have e:vs.toArray++ws.toArray=(vs++ws).toArray:=by simp
 by_cases hw:ws=[]
 ·exact concat_meets ⟨_,ho,rfl⟩ ⟨_,ho2,rfl⟩ noFill_tuple_add seq_tuple_add PySem.F.slot_tuple_add PySem.F.entry_tuple_add (PySem.F.args_tuple_add_2 _ _)
   (tuple_addW1 t b vs.toArray ws.toArray n n2 dd dd2 sl sl2 (by simpa using hv) (by simp[hw])) ⟨ho,ho2,h1 hw⟩
 ·refine concat_meets ⟨_,ho,rfl⟩ ⟨_,ho2,rfl⟩ noFill_tuple_add seq_tuple_add PySem.F.slot_tuple_add PySem.F.entry_tuple_add (PySem.F.args_tuple_add_2 _ _)
   (tuple_addW2 t b vs.toArray ws.toArray n n2 dd dd2 sl sl2 (by simpa using hv) (by simpa using hw) (by rw[TU,TU];exact xf)) ⟨ho,ho2,?_⟩
  rw[e];exact h2 hw
def sIx(n d:Nat):Option Int->Nat
 |none=>d
 |some v=>if v<0 then(v+(n:Int)).toNat else min v.toNat n
theorem sIx_none(n d:Nat):sIx n d none=d:=rfl
theorem sIx_nat(n d k:Nat):sIx n d (oZ (k:Int))=min k n:=by
 show(if(k:Int)<0 then((k:Int)+(n:Int)).toNat else min (k:Int).toNat n)=min k n;rw[oW ⋯,VP]
theorem GX(n d:Nat)(hd:d<=n)(o:Option Int):sIx n d o<=n:=by
 cases o with
 |none=>exact hd
 |some v=>
  show(if v<0 then(v+(n:Int)).toNat else min v.toNat n)<=n
  by_cases hv:v<0
  ·rw[oV hv];lia
  ·rw[oW hv];exact Nat.min_le_right _ _
theorem Oj(v:Int)(n d:Nat):(if v<0 then max (v+(n:Int)) 0 else min v (n:Int))=((sIx n d (oZ v):Nat):Int):=by
 show(if v<0 then max (v+(n:Int)) 0 else min v (n:Int))=(((if v<0 then(v+(n:Int)).toNat else min v.toNat n):Nat):Int)
 by_cases hv:v<0
 ·simp only[oV hv];lia
 ·simp only[oW hv];lia
theorem Kx(lo hi:Option Int)(n:Nat):Builtin.Slice.sliceAdjust lo hi 1 (n:Int)=(((sIx n 0 lo:Nat):Int),((sIx n n hi:Nat):Int)):=by
 have h1:¬((1:Int)<0):=⋯
 unfold Builtin.Slice.sliceAdjust;simp only[h1,if_false];refine Prod.ext ?_ ?_
 ·cases lo with
  |none=>rfl
  |some v=>exact Oj v n 0
 ·cases hi with
  |none=>rfl
  |some v=>exact Oj v n n
theorem Ml(i j:Nat):Builtin.Slice.slicePlaces (i:Int) (j:Int) 1=j-i:=by
 unfold Builtin.Slice.slicePlaces;have h1:(1:Int)>0:=⋯
 simp only[h1,if_true,Int.ediv_one]
 split<;>lia
theorem yQ{E:oA->oB->Prop}{o:Option Int}{Q:Option Int->oB->Prop}(p:IsPart v o)(h:Q o s):cq (df prog w) A (Builtin.Slice.slicePartIndex v) Q E s:=by
 cases p with
 |none=>exact slicePart_none h
 |int i t=>exact slicePart_int h
theorem uH{E:oA->oB->Prop}{lo hi:Option Int}{Q:Int×Int×Nat->oB->Prop}(hs:s.heap.IsSliceOf sl vl vu .none)(pl:IsPart vl lo)(pu:IsPart vu hi)(h:Q (((sIx n 0 lo:Nat):Int),1,sIx n n hi-sIx n 0 lo) s):cq (df prog w) A (Builtin.Slice.sliceApplied (.ref sl) (pure (n:Int))) Q E s:=by
 obtain⟨os,hos,hcs,hds⟩:=id hs;unfold Builtin.Slice.sliceApplied Builtin.Slice.sliceFields;refine cm (cm (gc hos hds (x:=vl) rfl (cm (gc hos hds (x:=vu) rfl (cm (gc hos hds (x:=.none) rfl (cn ?_)))))));refine cm (slicePart_none ?_);show cq _ _ (if((1:Int)==0)=true then _ else _) _ _ s;rw[oW ∅];refine cm (yQ pl (cm (yQ pu (cm (cn ?_)))));show cq _ _ (match Builtin.Slice.sliceAdjust lo hi 1 (n:Int)with|(lo,hi)=>pure (lo,(1:Int),Builtin.Slice.slicePlaces lo hi 1)) _ _ s;rw[Kx lo hi n];show cq _ _ (pure (((sIx n 0 lo:Nat):Int),(1:Int),Builtin.Slice.slicePlaces ((sIx n 0 lo:Nat):Int) ((sIx n n hi:Nat):Int) 1)) _ _ s;rw[Ml];exact cn h
theorem Zv(xs:Array oA)(i k:Nat):((VF k).filterMap λ(m:Nat)=>xs[((i:Int)+(m:Int)*1).toNat]?).toArray=((xs.toList.drop i).take k).toArray:=by
 have e:(λ(m:Nat)=>xs[((i:Int)+(m:Int)*1).toNat]?)=λm=>xs[i+m]?:=by
  funext m
  have:((i:Int)+(m:Int)*1).toNat=i+m:=⋯
  rw[this]
 rw[e];have:=pick_run xs i k;rw[XM]at this;have e2:((λx=>xs[x]?)∘λx=>i+x)=λm=>xs[i+m]?:=rfl;rw[e2]at this;rw[this]
theorem getItem_tuple_cut{E:oA->oB->Prop}{lo hi:Option Int}{Q:oA->oB->Prop}(ht:IsTup s.heap t items)(hs:s.heap.IsSliceOf sl vl vu .none)(pl:IsPart vl lo)(pu:IsPart vu hi)(hw:¬(sIx items.size 0 lo=0/\sIx items.size items.size hi=items.size))(h:Q (.ref s.heap.objs.size) { s with heap:=s.heap.push { cls:=.type "tuple",data:=.seq ((items.toList.drop (sIx items.size 0 lo)).take (sIx items.size items.size hi-sIx items.size 0 lo)).toArray } })(xf:items.size<=cw):cq (df prog w) A (jc (.ref t) (.ref sl)) Q E s:=by
 have xy:sizeOk (.seq ((items.toList.drop (sIx items.size 0 lo)).take (sIx items.size items.size hi-sIx items.size 0 lo)).toArray):=by
  show((items.toList.drop (sIx items.size 0 lo)).take (sIx items.size items.size hi-sIx items.size 0 lo)).toArray.size<=cw;rw[TU,UP,WL,XG];omega
 have hj:sIx items.size items.size hi<=items.size:=GX _ _ (TN _) hi;obtain⟨os,hos,hcs,hds⟩:=id hs;have hTs:s.TypeIs (.ref sl) "slice":=⟨os,hos,hcs⟩;unfold jc
 try with_reducible refine fj ?_
 first|refine cm (cn ?_)|skip
 refine cm (wpAny_sequenceKey ht.typeIs ∅ ?_);refine cm (wpAny_callSpecial?_slot (name:=XW "__getitem__") ht.typeIs PyProof.Rows.slot_tuple_getitem
  (iu PyProof.Rows.slot_tuple_getitem ht.typeIs entry_tuple_getitem ?_ (args_tuple_getitem _ _)))
 show cq _ _ (Builtin.Tuple.tupleItemsOf (.ref t) >>= _) _ _ s;refine cm (tupleItemsOf_ ht ?_);refine cm (wpAny_typeOf hTs ?_);rw[oV ∅];refine cm (uH hs pl pu ?_);have uh:¬((((sIx items.size 0 lo:Nat):Int)==0&&(1:Int)==1&&(sIx items.size items.size hi-sIx items.size 0 lo)==items.size)=true):=by
  intro q;rw[UU,UU]at q;have q1:((sIx items.size 0 lo:Nat):Int)=0:=eq_of_beq q.1.1;have q2:sIx items.size items.size hi-sIx items.size 0 lo=items.size:=eq_of_beq q.2;exact hw ⟨by omega,by omega⟩
 show cq _ _ (if(((sIx items.size 0 lo:Nat):Int)==0&&(1:Int)==1&&(sIx items.size items.size hi-sIx items.size 0 lo)==items.size)=true then _ else _) _ _ s;rw[oW uh,Zv]
 first
  |exact cm (m:=Builtin.Tuple.tupleExact _) (fh (cn ⟨_,rfl,cn h⟩) xy)
  |exact cm (m:=Builtin.Tuple.tupleExact _) (fh (cm (cn (cn ⟨_,rfl,cn h⟩))) xy)
  |exact cm (cm (m:=Builtin.Tuple.tupleExact _) (fh (cn (cn ⟨_,rfl,cn h⟩)) xy))
  |exact cm (cm (m:=Builtin.Tuple.tupleExact _) (fh (cn ⟨_,rfl,cn h⟩) xy))
end HT
namespace L2
open PySem PySem.Spec PyProof.Rows
abbrev TO:=St->Hp->(Option Int->Hp->Prop)->Prop
def PO(X:Cx)(e:Option oC)(t:TO):Prop:=
 ∀(pins:List (ck×Obj))(s:oB)(σ:St)(H:Hp)(Q:Option Int->Hp->Prop),aV X pins σ H s->t σ H Q->
  cq (df X.prog X.w) X.A (evalPart e X.env) (λu s'=>∃o H',aV X pins σ H' s'/\IsPart u o/\Q o H') X.xe s
def Rx:TO:=λ_ H Q=>Q none H
def BO(t:TE):TO:=λσ H Q=>t σ H λx H1=>∃i,x = .int i/\Q (oZ i) H1
section
variable{X:Cx}{e:oC}{te:TE}{lo hi:Option oC}{tl th:TO}{pos p2:Pos}
theorem U5:PO X none Rx:=by
 intro pins s σ H Q I h;rw[jv];exact cn ⟨none,H,I,.none,h⟩
theorem U6(h:PE X e te):PO X (oZ e) (BO te):=by
 intro pins s σ H Q I hw;rw[evalPart_some];refine dZ (h pins s σ H _ I hw) λu s1 zZ=>?_;obtain⟨x,H1,I1,r1,q1⟩:=zZ;obtain⟨i,rfl,q⟩:=q1;obtain⟨t,rfl⟩:=r1;exact⟨oZ i,H1,I1,.int i t,q⟩
def IC(X:Cx)(r:V->Option Int->Option Int->Hp->VK->Prop):Prop:=
 ∀(pins:List (ck×Obj))(s:oB)(σ:St)(H:Hp)(x:V)(v vl vu:oA)(lo hi:Option Int)(sl:ck)(Q:VK),aV X pins σ H s->bP x v->s.heap.IsSliceOf sl vl vu .none->IsPart vl lo->IsPart vu hi->r x lo hi H Q->
  ∃T id,typeLookup (.type T) "__getitem__" = pure (oZ (.builtin id))/\s.TypeIs v T/\cq (df X.prog X.w) X.A (jc v (.ref sl)) (EP X pins σ Q) X.xe s
def RK(r:V->Option Int->Option Int->Hp->VK->Prop)(te:TE)(tl th:TO):TE:=λσ H Q=>te σ H λx H1=>tl σ H1 λl H2=>th σ H2 λu H3=>r x l u H3 Q
theorem Zs{r:V->Option Int->Option Int->Hp->VK->Prop}(hr:IC X r)(he:PE X e te)(hl:PO X lo tl)(hu:PO X hi th):PE X (.Subscript e (.Slice lo hi none p2) pos) (RK r te tl th):=by
 intro pins s σ H Q I h;refine Subscript_ (dZ (he pins s σ H _ I h) λv s1 zZ=>?_);obtain⟨x,H1,I1,r1,q1⟩:=zZ;refine wpAny_Slice (dZ (hl pins s1 σ H1 _ I1 q1) λvl s2⟨l,H2,I2,pl,q2⟩=>dZ (hu pins s2 σ H2 _ I2 q2) λvu s3 zZ=>?_);obtain⟨u,H3,I3,pu,q3⟩:=zZ;rw[jv];refine cn ?_;have I4:aV X pins σ H3 { s3 with heap:=s3.heap.push { cls:=.type "slice",data:=.fields #[vl,vu,.none] } }:=I3.kept (t':=s3.toks) λb ob q=>TJ _ q;obtain⟨T,id,hT,ht,hg⟩:=hr pins { s3 with heap:=s3.heap.push { cls:=.type "slice",data:=.fields #[vl,vu,.none] } } σ H3 x v vl vu l u s3.heap.objs.size Q I4 r1 (Heap.IsSliceOf.new ..) pl pu q3;show cq (df X.prog X.w) X.A (subscriptTail e (.Slice lo hi none p2) v (.ref s3.heap.objs.size)) (EP X pins σ Q) X.xe { s3 with heap:=s3.heap.push { cls:=.type "slice",data:=.fields #[vl,vu,.none] } };exact tail_any (ops:=[.ref s3.heap.objs.size,v]) ht hT hg (by with_unfolding_all rfl)
def Hu(xs:List V)(lo hi:Option Int):List V:=(xs.drop (HT.sIx xs.length 0 lo)).take (HT.sIx xs.length xs.length hi-HT.sIx xs.length 0 lo)
theorem uY(xs:List V)(lo hi:Option Int):(Hu xs lo hi).length<=xs.length:=by
 unfold Hu;rw[UP,WL]
 lia
def QK(K:W.Frag):V->Option Int->Option Int->Hp->VK->Prop:=λx lo hi H Q=>∃a xs,x = .ref a/\vG K H a xs/\
 ¬(HT.sIx xs.length 0 lo=0/\HT.sIx xs.length xs.length hi=xs.length)/\∀p,H p=none->Q (.ref p) (upd H p (.tup (Hu xs lo hi)))
theorem HC:IC X (QK X.K):=by
 intro pins s σ H x v vl vu lo hi sl Q I rx hs pl pu h;obtain⟨a,xs,rfl,hx,hw,q⟩:=h;cases rx;obtain⟨jz,r,ht,hz⟩:=I.tuple hx;have hlen:jz.toArray.size=xs.length:=by rw[TU];exact r.length.symm
 refine⟨"tuple",_,PyProof.Rows.slot_tuple_getitem.lookup,ht.typeIs,?_⟩;refine HT.getItem_tuple_cut ht hs pl pu (by rw[hlen];exact hw) ?_ (by rw[hlen];exact hz);rw[hlen];refine⟨.ref s.heap.objs.size,_,I.laid (t':=s.toks) (o:=.tup (Hu xs lo hi)) (λb ob q=>TJ _ q) (TN _) ?_,rfl,q _ (I.hok.fresh (TN _))⟩;exact⟨VE (uY xs lo hi) hz,_,(r.drop (HT.sIx xs.length 0 lo)).take (HT.sIx xs.length xs.length hi-HT.sIx xs.length 0 lo),IsTup.new _ _⟩
def LH(K:W.Frag):R2:=λx y H Q=>∃a b xs ys,x = .ref a/\y = .ref b/\vG K H a xs/\vG K H b ys/\xs≠[]/\xs.length+ys.length<=cw/\
 (ys=[]->Q (.ref a) H)/\(ys≠[]->∀p,H p=none->Q (.ref p) (upd H p (.tup (xs++ys))))
theorem bB.nil_iff(r:bB xs us):us=[]↔xs=[]:=by
 cases r with
 |nil=>simp
 |cons _ _=>simp
theorem R9:oQ X (gf .Add) (LH X.K):=by
 intro pins s σ H x y v u Q I rx ry h;obtain⟨a,b,xs,ys,rfl,rfl,ha,hb,hx,hz,q1,q2⟩:=h;cases rx;cases ry;obtain⟨jz,r1,p1,_⟩:=I.tuple ha;obtain⟨wt,r2,p2,_⟩:=I.tuple hb;refine HT.cat_tup p1 p2 (λz=>hx (r1.nil_iff.mp z)) (λz=>⟨.ref a,H,I,rfl,q1 (r2.nil_iff.mp z)⟩) (λz=>?_) (by rw[<-r1.length,<-r2.length];exact hz);refine⟨.ref s.heap.objs.size,_,I.laid (t':=s.toks) (o:=.tup (xs++ys)) (λb ob q=>TJ _ q) (TN _) ?_,rfl,q2 (λw=>z (r2.nil_iff.mpr w)) _ (I.hok.fresh (TN _))⟩;exact⟨by rw[TC];exact hz,_,r1.append r2,IsTup.new _ _⟩
end
def Py(n:Nat)(i:Int):Option Nat:=if 0<=i then(if i<n then oZ i.toNat else none)else if -(n:Int)<=i then oZ (i+n).toNat else none
def k8{α:Type}(xs:List α)(i:Int):Option α:=(Py xs.length i).bind λj=>xs[j]?
theorem Pz{i:Int}(h:Py n i=oZ j):seqIndex? i n=oZ j/\j<n/\-(n:Int)<=i/\i<n:=by
 unfold Py at h
 by_cases h0:0<=i
 ·rw[oV h0]at h
  by_cases h1:i<n
  ·rw[oV h1]at h;have e:i.toNat=j:=Option.some.inj h;exact⟨by rw[seqIndex_of h0 h1,e],⋯,⋯,h1⟩
  ·rw[oW h1]at h;cases h
 ·rw[oW h0]at h
  by_cases h1:-(n:Int)<=i
  ·rw[oV h1]at h;have e:(i+n).toNat=j:=Option.some.inj h;exact⟨by rw[seqIndex_neg ⋯ h1,e],⋯,h1,⋯⟩
  ·rw[oW h1]at h;cases h
theorem Cn{α:Type}{xs:List α}{i:Int}{v:α}(h:k8 xs i=oZ v):∃j,seqIndex? i xs.length=oZ j/\xs[j]?=oZ v/\j<xs.length/\-(xs.length:Int)<=i/\i<xs.length:=by
 unfold k8 at h;cases e:Py xs.length i with
 |none=>rw[e]at h;cases h
 |some j=>
  rw[e]at h;obtain⟨h1,h2,h3,h4⟩:=Pz e;exact⟨j,h1,h,h2,h3,h4⟩
theorem Co{α:Type}{xs:List α}{j:Nat}{v:α}(h:xs[j]?=oZ v):k8 xs (j:Int)=oZ v:=by
 have hj:j<xs.length:=(SW.mp h).1;have e:Py xs.length (j:Int)=oZ j:=by
  unfold Py;rw[oV ⋯,oV ⋯];simp
 unfold k8;rw[e];exact h
def rL(b:oC):Prop:=∀o i,jm b false o i=operate [o,i] (jc o i)
def K9(X:Cx)(r:R2):Prop:=
 ∀(value slice:oC)(pins:List (ck×Obj))(s:oB)(σ:St)(H:Hp)(x y:V)(v u:oA)(Q:VK),aV X pins σ H s->bP x v->bP y u->r x y H Q->
  jm slice false v u=operate [v,u] (jc v u)->cq (df X.prog X.w) X.A (subscriptTail value slice v u) (EP X pins σ Q) X.xe s
def NG(X:Cx)(id:String)(r:V->List V->Hp->VK->Prop):Prop:=
 ∀(pins:List (ck×Obj))(s:oB)(σ:St)(H:Hp)(x:V)(xs:List V)(v:oA)(us:List oA)(Q:VK),aV X pins σ H s->bP x v->bB xs us->r x xs H Q->
  cq (df X.prog X.w) X.A (call (.builtin id) (v::us)) (EP X pins σ Q) X.xe s
section
variable{X:Cx}{a b:oC}{ta tb:TE}{pos:Pos}
theorem K9.or(h:K9 X r)(h':K9 X r'):K9 X (λx y H Q=>r x y H Q\/r' x y H Q):=by
 intro value slice pins s σ H x y v u Q I rx ry q hs;obtain q|q:=q
 ·exact h value slice pins s σ H x y v u Q I rx ry q hs
 ·exact h' value slice pins s σ H x y v u Q I rx ry q hs
theorem KN(hr:K9 X r)(ha:PE X a ta)(hb:PE X b tb)(hs:rL b):PE X (.Subscript a b pos) (G9 r ta tb):=by
 intro pins s σ H Q I h;exact Subscript_ (CM ha hb I h λv u s2 x y H2 I2 rx ry q=>hr a b pins s2 σ H2 x y v u Q I2 rx ry q (hs _ _))
def LJ(K:W.Frag):R2:=λx y H Q=>∃p xs i v,x = .ref p/\y = .int i/\j5 K H p xs/\k8 xs i=oZ v/\Q v H
def LL(K:W.Frag):R2:=λx y H Q=>∃p xs i v,x = .ref p/\y = .int i/\vG K H p xs/\k8 xs i=oZ v/\Q v H
def LK:R2:=λx y H Q=>∃z i c,x = .str z/\y = .int i/\z.length<=cw/\k8 z.cps.toList i=oZ c/\Q (.str ⟨#[c]⟩) H
theorem O7:K9 X (LJ X.K):=by
 intro value slice pins s σ H x y v u Q I rx ry h hs;obtain⟨p,xs,i,z,rfl,rfl,hq,he,q⟩:=h;cases rx;obtain⟨t,rfl⟩:=ry;obtain⟨jz,r,pl,hz⟩:=I.list hq;obtain⟨j,h1,h2,h3,h4,h5⟩:=Cn he;obtain⟨w,ew,yg⟩:=r.get h2;have hl:=r.length;have hn:=tZ;have fin:EP X pins σ Q w s:=⟨z,H,I,yg,q⟩
 by_cases h0:0<=i
 ·have hj:i.toNat=j:=by
   rw[seqIndex_of h0 h5]at h1;exact Option.some.inj h1
  exact item_listR pl.isList h0 ⋯ (by rw[hj];simpa using ew) fin hs
 ·have hj:(i+(jz.toArray.size:Int)).toNat=j:=by
   rw[seqIndex_neg ⋯ h4]at h1;rw[TU,<-hl];exact Option.some.inj h1
  exact subscriptTail_builtinR (x:=w) pl.isList.typeIs slot_list_getitem.lookup
   (wpAny_getItem_list_neg (Q:=λr s'=>r=w/\EP X pins σ Q r s') pl.isList ⋯ (by rw[TU]<;>lia) ⋯ (by rw[hj];simpa using ew) ⟨rfl,fin⟩) hs
theorem DX:K9 X (LL X.K):=by
 intro value slice pins s σ H x y v u Q I rx ry h hs;obtain⟨p,xs,i,z,rfl,rfl,hq,he,q⟩:=h;cases rx;obtain⟨t,rfl⟩:=ry;obtain⟨jz,r,pl,hz⟩:=I.tuple hq;obtain⟨j,h1,h2,h3,h4,h5⟩:=Cn he;obtain⟨w,ew,yg⟩:=r.get h2;have hl:=r.length;have hn:=tZ;have fin:EP X pins σ Q w s:=⟨z,H,I,yg,q⟩;exact subscriptTail_builtinR (x:=w) pl.typeIs slot_tuple_getitem.lookup
  (getItem_tuple (j:=j) (Q:=λr s'=>r=w/\EP X pins σ Q r s') pl ⋯ ⋯ (by rw[TU,<-hl];exact h1) (by simpa using ew) ⟨rfl,fin⟩) hs
theorem DW:K9 X LK:=by
 intro value slice pins s σ H x y v u Q I rx ry h hs;obtain⟨z,i,c,rfl,rfl,hz,he,q⟩:=h;obtain⟨t,rfl⟩:=rx;obtain⟨t',rfl⟩:=ry;obtain⟨j,h1,h2,h3,h4,h5⟩:=Cn he;have hl:z.cps.toList.length=z.length:=by simp[Str.length]
 rw[hl]at h1 h4 h5;have hn:=tZ;exact tail_any (typeIs_str s z t) slot_str_getitem.lookup (getItem_str (c:=c) (by
  have e1:decide (i < -(2^63:Int))=false:=oX ⋯;have e2:decide (i>=2^63)=false:=oX ⋯;rw[e1,e2,Bool.or_false]) (by rw[h1];simpa using h2) ⟨.str ⟨#[c]⟩,H,I.tok _,⟨_,rfl⟩,q⟩) hs
def SJ(K:W.Frag):R2:=λx y H Q=>LJ K x y H Q\/LL K x y H Q\/LK x y H Q
theorem Yj:K9 X (SJ X.K):=O7.or (DX.or DW)
theorem Lv(jz:List oA)(n j:Nat)(u:oA):XN (·.setIfInBounds j u) { cls:=.type "list",data:=.seq jz.toArray n } = { cls:=.type "list",data:=.seq (jz.set j u).toArray n }:=by
 simp[XN]
theorem aV.lst(I:aV X pins σ H s)(h:H p=oZ (.lst xs)):
  ∃(jz:List oA)(n:Nat),bB xs jz/\s.heap.get? p=oZ { cls:=.type "list",data:=.seq jz.toArray n }/\xs.length<=cw:=by
 obtain⟨z,jz,n,r,e⟩:=I.hok p _ h;exact⟨jz,n,r,e,z⟩
theorem aV.lstUpd{H:Hp}{s:oB}{ys:List V}{jz its':List oA}{f:Obj->Obj}(I:aV X pins σ H s)(h:H p=oZ (.lst xs))(ho:s.heap.get? p=oZ { cls:=.type "list",data:=.seq jz.toArray n })(hf:f { cls:=.type "list",data:=.seq jz.toArray n } = { cls:=.type "list",data:=.seq its'.toArray n' })(r:bB ys its')(hz:ys.length<=cw)(t:Nat):
  aV X pins σ (upd H p (.lst ys)) { s with heap:=s.heap.update p f,toks:=t }:=by
 have e:(s.heap.update p f).get? p=oZ { cls:=.type "list",data:=.seq its'.toArray n' }:=by
  rw[XX f ho (by rw[hf]<;>rfl),hf]
 refine I.write (x:=p) (e:=p) (by rw[h];trivial) (.inl rfl) (λb u hb q=>(bj _ _ (Ne.symm hb)).trans q) ⟨_,e⟩ ?_;exact⟨hz,its',n',r,e⟩
def LM:V->V->V->Hp->(Hp->Prop)->Prop:=λo i v H Q=>∃p xs k j,o = .ref p/\i = .int k/\H p=oZ (.lst xs)/\Py xs.length k=oZ j/\Q (upd H p (.lst (xs.set j v)))
theorem F4:CF X LM:=by
 intro pins s σ H o i v ov iv u Q I ro ri rv h;obtain⟨p,xs,k,j,rfl,rfl,hp,hj,q⟩:=h;cases ro;obtain⟨t,rfl⟩:=ri;obtain⟨jz,n,r,ho,hz⟩:=I.lst hp;obtain⟨h1,h2,h3,h4⟩:=Pz hj;have hl:=r.length;have hn:=tZ;have I':aV X pins σ (upd H p (.lst (xs.set j v))) { s with heap:=s.heap.update p (XN (·.setIfInBounds j u)) }:=
  I.lstUpd hp ho (Lv jz n j u) (r.set rv j) (by rw[YW];exact hz) s.toks
 by_cases h0:0<=k
 ·have hk:k.toNat=j:=by
   rw[seqIndex_of h0 h4]at h1;exact Option.some.inj h1
  exact W.ki_setAt ho h0 ⋯ (by rw[TU,<-hl];exact h4) (by rw[hk];exact⟨_,I',q⟩)
 ·have hk:(k+(jz.toArray.size:Int)).toNat=j:=by
   rw[seqIndex_neg ⋯ h3]at h1;rw[TU,<-hl];exact Option.some.inj h1
  exact W.ki_setBack ho ⋯ (by rw[TU,<-hl];exact h3) ⋯ (by rw[hk];exact⟨_,I',q⟩)
theorem Gi(lo hi:Option Int)(n:Nat):(fq lo hi none n).1=((HT.sIx n 0 lo:Nat):Int)/\(fq lo hi none n).2.1=((HT.sIx n n hi:Nat):Int)/\(fq lo hi none n).2.2=1:=by
 refine⟨?_,?_,rfl⟩
 ·cases lo with
  |none=>simp[fq,HT.sIx]
  |some i=>
   simp only[fq,HT.sIx,Option.getD_none,show(1:Int)>0 by decide,if_true]
   by_cases h:i<0
   ·simp only[h,if_true]<;>lia
   ·simp only[h,if_false]<;>lia
 ·cases hi with
  |none=>simp[fq,HT.sIx]
  |some i=>
   simp only[fq,HT.sIx,Option.getD_none,show(1:Int)>0 by decide,if_true]
   by_cases h:i<0
   ·simp only[h,if_true]<;>lia
   ·simp only[h,if_false]<;>lia
theorem zX(jz:List oA)(lo hi:Option Int):slicePick jz.toArray lo hi none=((jz.drop (HT.sIx jz.length 0 lo)).take (HT.sIx jz.length jz.length hi-HT.sIx jz.length 0 lo)).toArray:=by
 obtain⟨h1,h2,h3⟩:=Gi lo hi jz.toArray.size;unfold slicePick;rw[h1,h2,h3];simp only[sliceRange_one,pick_run,TU]<;>rfl
def QH(K:W.Frag):V->Option Int->Option Int->Hp->VK->Prop:=λx lo hi H Q=>∃a xs,x = .ref a/\j5 K H a xs/\∀p,H p=none->Q (.ref p) (upd H p (.lst (Hu xs lo hi)))
theorem X4:IC X (QH X.K):=by
 intro pins s σ H x v vl vu lo hi sl Q I rx hs pl pu h;obtain⟨a,xs,rfl,hx,q⟩:=h;cases rx;obtain⟨jz,r,ht,hz⟩:=I.list hx;have hlen:=r.length;refine⟨"list",_,slot_list_getitem.lookup,ht.isList.typeIs,?_⟩;refine wpAny_getItem_list_slice ht.isList hs pl pu .none (by simp) ?_ (by rw[TU]<;>lia);rw[zX,<-hlen];refine⟨.ref s.heap.objs.size,_,I.laid (t':=s.toks) (o:=.lst (Hu xs lo hi)) (λb ob q=>TJ _ q) (TN _) ?_,rfl,q _ (I.hok.fresh (TN _))⟩;exact⟨VE (uY xs lo hi) hz,_,0,(r.drop (HT.sIx xs.length 0 lo)).take (HT.sIx xs.length xs.length hi-HT.sIx xs.length 0 lo),UG _ rfl⟩
theorem rS:j0 X (.builtin "len") (λxs H Q=>∃p ys,xs=[.ref p]/\(j5 X.K H p ys\/vG X.K H p ys)/\Q (.int ys.length) H):=by
 intro pins s σ H xs us Q I r h;obtain⟨p,ys,rfl,hq,q⟩:=h;obtain⟨u,rfl,rx⟩:=Cd r;cases rx;have hn:=tZ;obtain hq|hq:=hq
 ·obtain⟨jz,r',pl,hz⟩:=I.list hq;have hlen:=r'.length;exact Calls.call_len_list pl.isList (by simp only[TU]<;>lia) ⟨.int ys.length,H,I.tok _,⟨s.toks+1,by rw[TU,hlen]⟩,q⟩
 ·obtain⟨jz,r',pl,hz⟩:=I.tuple hq;have hlen:=r'.length;exact len_tuple pl (by simp only[TU]<;>lia) ⟨.int ys.length,H,I.tok _,⟨s.toks+1,by rw[TU,hlen]⟩,q⟩
theorem Cs:j0 X (.type "list") (λxs H Q=>∃p ys,xs=[.ref p]/\(j5 X.K H p ys\/vG X.K H p ys)/\∀l,H l=none->Q (.ref l) (upd H l (.lst ys))):=by
 intro pins s σ H xs us Q I r h;obtain⟨p,ys,rfl,hq,q⟩:=h;obtain⟨u,rfl,rx⟩:=Cd r;cases rx;have fin:∀(jz:List oA),bB ys jz->ys.length<=cw->∀(h':oE)(c':Nat),(∀b o',s.heap.get? b=oZ o'->h'.get? b=oZ o')->
   h'.get? s.heap.objs.size=oZ { cls:=.type "list",dict:=none,data:=.seq jz.toArray c',slots:=#[] }->EP X pins σ Q (.ref s.heap.objs.size) { s with heap:=h' }:=λjz r' hz h' c' kp e=>
  ⟨.ref s.heap.objs.size,_,I.laid (t':=s.toks) kp (TN _) (show eY X.prog X.w _ h' _ (.lst ys)from⟨hz,jz,c',r',e⟩),rfl,q _ (I.hok.fresh (TN _))⟩
 obtain hq|hq:=hq
 ·obtain⟨jz,r',pl,hz⟩:=I.list hq;have hlen:=r'.length;obtain⟨o,ho,hc,n,hd⟩:=pl.isList;exact call_list_seq p (.inl rfl) ho hc hd (λh' c' kp e=>fin jz r' hz h' c' kp e) (by simp only[TU]<;>lia)
 ·obtain⟨jz,r',pl,hz⟩:=I.tuple hq;have hlen:=r'.length;obtain⟨o,ho,hc,n,hd⟩:=pl;exact call_list_seq p (.inr rfl) ho hc hd (λh' c' kp e=>fin jz r' hz h' c' kp e) (by simp only[TU]<;>lia)
theorem zF:j0 X (.type "tuple") (λxs H Q=>∃p ys,xs=[.ref p]/\((j5 X.K H p ys/\∀l,H l=none->Q (.ref l) (upd H l (.tup ys)))\/(vG X.K H p ys/\Q (.ref p) H))):=by
 intro pins s σ H xs us Q I r h;obtain⟨p,ys,rfl,h⟩:=h;obtain⟨u,rfl,rx⟩:=Cd r;cases rx;obtain⟨hq,q⟩|⟨hq,q⟩:=h
 ·obtain⟨jz,r',pl,hz⟩:=I.list hq;have hlen:=r'.length;refine call_tuple_list pl.isList (λh' kp=>?_) (by simp only[TU]<;>lia);have I1:aV X pins σ H { s with heap:=h' }:=I.kept (t':=s.toks) kp;have I2:aV X pins σ (upd H h'.objs.size (.tup ys)) { s with heap:=h'.push { cls:=.type "tuple",data:=.seq jz.toArray } }:=
   I1.laid (t':=s.toks) (λb o e=>TJ _ e) (TN _) (show eY X.prog X.w _ _ _ (.tup ys)from⟨hz,jz,r',IsTup.new _ _⟩)
  exact⟨.ref h'.objs.size,_,I2,rfl,q _ (I1.hok.fresh (TN _))⟩
 ·obtain⟨jz,r',pl,hz⟩:=I.tuple hq;exact call_tuple_same pl ⟨.ref p,H,I,rfl,q⟩
def RM(K:W.Frag)(T:String)(x:V)(H:Hp):Prop:=match x with
 |.str _=>T = "str"
 |.int _=>T = "int"
 |.ref p=>(T = "list"/\∃xs,j5 K H p xs)\/(T = "tuple"/\∃o,K.lookup p=oZ o/\o.cls = .type "tuple"/\o.dict=none)\/
   (T = "dict"/\((∃la,H p=oZ (.dK la))\/∃la,H p=oZ (.dT la)))\/(T = "set"/\∃S n,H p=oZ (.set S n))
 |_=>False
theorem HK(I:aV X pins σ H s)(r:bP x v)(ty:RM X.K T x H):
  s.TypeIs v T/\∀a,v = .ref a->∃ob,s.heap.get? a=oZ ob/\ob.dict=none:=by
 cases x with
 |str z=>
  obtain⟨t,rfl⟩:=r;cases(show T = "str" from ty);exact⟨typeIs_str s z t,λ_ e=>nomatch e⟩
 |int i=>
  obtain⟨t,rfl⟩:=r;cases(show T = "int" from ty);exact⟨typeIs_int s i t,λ_ e=>nomatch e⟩
 |ref p=>
  cases r;obtain⟨rfl,xs,hq⟩|⟨rfl,o,hk,hc,hd⟩|⟨rfl,hk⟩|⟨rfl,S,n,hk⟩:=ty
  ·obtain⟨jz,_,pl,_⟩:=I.list hq;refine⟨pl.isList.typeIs,λa e=>?_⟩;cases e;obtain⟨o,n,e,c,hd,_⟩:=pl;exact⟨o,e,hd⟩
  ·refine⟨⟨o,I.kIn p o hk,hc⟩,λa e=>?_⟩;cases e;exact⟨o,I.kIn _ o hk,hd⟩
  ·have z:∃o,s.heap.get? p=oZ o/\o.ExactDict:=by
    obtain⟨la,hk⟩|⟨la,hk⟩:=hk
    ·obtain⟨_,_,_,_,o,_,_,e,ex,_⟩:=I.hok p _ hk;exact⟨o,e,ex⟩
    ·obtain⟨_,_,_,_,o,_,_,e,ex,_⟩:=I.hok p _ hk;exact⟨o,e,ex⟩
   obtain⟨o,e,ex⟩:=z;refine⟨⟨o,e,ex.1⟩,λa e2=>?_⟩;cases e2;exact⟨o,e,ex.2.1⟩
  ·obtain⟨o,_,_,_,e,ex,_⟩:=I.hok p _ hk;refine⟨⟨o,e,ex.1⟩,λa e2=>?_⟩;cases e2;exact⟨o,e,ex.2.1⟩
 |_=>exact False.elim ty
def HG(K:W.Frag)(T:String)(r:V->List V->Hp->VK->Prop)(to:TE)(t:TA):TE:=λσ H Q=>to σ H λx H1=>RM K T x H1/\t σ H1 λxs H2=>r x xs H2 Q
variable{o e:oC}{es:List oC}{to:TE}{t:TA}{name:Str}{apos tq:Pos}{T id:String}{r:V->List V->Hp->VK->Prop}
theorem Bn(pa:PlainAttrs T)(slot:Slot T name id)(hty:typeOf (.builtin id)=pure (.type "method_descriptor"))(hm:NG X id r)(ho:PE X o to)(ha:PA X (e::es) t)(nh:fm o name X.env (dw o X.env)=dw o X.env:=by rfl)(aFF:((iw tq (du (e::es) X.env)).all (λx=>!x.1)&&(backToKw tq (keywordEach [] X.env)).all (λx=>x.1.isSome)
  &&decide ((e::es).length+([]:List Keyword).length+(if([]:List Keyword).isEmpty then 0 else 1)<30))=true:=by rfl)(ni:(apos.endLine==tq.line)=true:=by rfl)(hs:du (e::es) X.env=(false,dw e X.env)::du es X.env:=by rfl)(aBN:(iw tq (du es X.env)).any (·.1)=false:=by rfl):
  PE X (.Call (.Attribute o name apos) (e::es) [] tq) (HG X.K T r to t):=by
 intro pins s σ H Q I h;refine wpAny_Call_method_late nh aFF ni rfl (dZ (ho pins s σ H _ I h) λv s1 zZ=>?_);obtain⟨x,H1,I1,r1,ty,q1⟩:=zZ;obtain⟨h1,h2⟩:=HK I1 r1 ty;refine⟨T,id,pa,slot,hty,h1,h2,?_⟩;have hA:=ha tq pins s1 σ H1 _ I1 q1;rw[hs]at hA⊢;refine Calls.callWith_builtin (by show(false||(iw tq (du es X.env)).any (·.1))=false;rw[aBN]<;>rfl) (Calls.evalArgs_plain ?_);exact dZ hA λus s2 zZ=>by obtain⟨vs,H2,I2,r2,q2⟩:=zZ;exact hm pins s2 σ H2 x vs v us Q I2 r1 r2 q2
/- xs.append(e),list.index on a module's tuple .. are NG facts of 06m -/
end
def NF(X:Cx)(id:String)(r:V->List V->Hp->VK->Prop):Prop:=
 ∀(pins:List (ck×Obj))(s:oB)(σ:St)(H:Hp)(x:V)(xs:List V)(v:oA)(us:List oA)(Q:VK),aV X pins σ H s->bP x v->bB xs us->r x xs H Q->
  cq (df X.prog X.w) X.A (call (.builtin id) (v::us)) (EP X pins σ Q) X.xe s
theorem bB.one(h:bB [x] us):∃u,us=[u]/\bP x u:=by
 cases h with
 |cons r t=>cases t;exact⟨_,rfl,r⟩
theorem bB.two(h:bB [x,y] us):∃u v,us=[u,v]/\bP x u/\bP y v:=by
 cases h with
 |cons r t=>
  obtain⟨v,rfl,q⟩:=bB.one t;exact⟨_,_,rfl,r,q⟩
theorem bB.eraseIdx:∀{xs:List V}{us:List oA}(i:Nat),bB xs us->bB (xs.eraseIdx i) (us.eraseIdx i)
 |_,_,_,.nil=>.nil
 |_,_,0,.cons _ t=>t
 |_,_,i+1,.cons r t=>.cons r (bB.eraseIdx i t)
theorem bB.reverse(h:bB xs us):bB xs.reverse us.reverse:=by
 induction h with
 |nil=>exact .nil
 |cons r t ih=>rw[YM,YM];exact bB.append ih (.cons r .nil)
theorem Be{α:Type}:∀(l:List α)(i:Nat),(l.eraseIdx i).length<=l.length
 |[],_=>TN _
 |_::_,0=>Nat.le_succ _
 |_::r,i+1=>ah (Be r i)
theorem aV.lset{H:Hp}{s:oB}{ys:List V}{jz its':List oA}{f:Array oA->Array oA}(I:aV X pins σ H s)(hH:H l=oZ (.lst xs))(e:s.heap.get? l=oZ { cls:=.type "list",data:=.seq jz.toArray n })(hf:f jz.toArray=its'.toArray)(hv:bB ys its')(hz:ys.length<=cw):
  aV X pins σ (upd H l (.lst ys)) { s with heap:=s.heap.update l (XN f),toks:=t' }:=by
 have q:=PySem.IsL.update e f;rw[hf]at q;refine I.write (x:=l) (e:=l) (by rw[hH];exact trivial) (.inl rfl) (λb' u hb hu=>(bj s.heap (XN f) (Ne.symm hb)).trans hu) ⟨_,q⟩ ?_;exact⟨hz,its',_,hv,q⟩
theorem aV.lnew(I:aV X pins σ H s)(hv:bB ys jz)(hz:ys.length<=cw):
  aV X pins σ (upd H s.heap.objs.size (.lst ys)) { s with heap:=s.heap.push { cls:=.type "list",data:=.seq jz.toArray },toks:=t' }:=
 I.laid (λ_ _ q=>TJ _ q) (TN _) ⟨hz,jz,0,hv,UG _ rfl⟩
theorem aV.fresh(I:aV X pins σ H s):H s.heap.objs.size=none:=I.hok.fresh (TN _)
theorem aV.lstM(I:aV X pins σ H s)(hH:H l=oZ (.lst xs)):xs.length<=cw/\∃(jz:List oA)(n:Nat),bB xs jz/\xs.length=jz.length/\s.heap.get? l=oZ { cls:=.type "list",data:=.seq jz.toArray n }:=by
 obtain⟨z,jz,n,r,e⟩:=I.hok l _ hH;exact⟨z,jz,n,r,r.length,e⟩
theorem Yw(h:n<=cw):Builtin.List.listTooLong n=false:=by
 unfold Builtin.List.listTooLong;exact oX ⋯
def Qw:V->List V->Hp->VK->Prop:=λx vs H Q=>∃l xs y,x = .ref l/\vs=[y]/\H l=oZ (.lst xs)/\xs.length<cw/\Q .non (upd H l (.lst (xs++[y])))
theorem Bi:NF X "list.append" Qw:=by
 intro pins s σ H x vs v us Q I rx rv h;obtain⟨l,xs,y,rfl,rfl,hH,hz,q⟩:=h;cases rx;obtain⟨u,rfl,ru⟩:=rv.one;obtain⟨z,jz,n,r,hl,e⟩:=I.lstM hH;refine call_meets F.slot_list_append ⟨_,e,rfl⟩ F.entry_list_append (F.args_list_append_2 _ _) (PySem.list_append l jz.toArray n u (by rw[TU];lia)) ⟨e,?_⟩;refine⟨.non,_,I.lset (its':=jz++[u]) hH e (by simp) (r.append (.cons ru .nil)) ?_,rfl,q⟩;rw[TC,VQ]
 lia
def Qx:V->List V->Hp->VK->Prop:=λx vs H Q=>∃l b xs zs,x = .ref l/\vs=[.ref b]/\H l=oZ (.lst xs)/\H b=oZ (.lst zs)/\xs.length+zs.length<=cw/\Q .non (upd H l (.lst (xs++zs)))
theorem Ub:NF X "list.extend" Qx:=by
 intro pins s σ H x vs v us Q I rx rv h;obtain⟨l,b,xs,zs,rfl,rfl,hH,hB,hz,q⟩:=h;cases rx;obtain⟨u,rfl,ru⟩:=rv.one;cases ru;obtain⟨z,jz,n,r,hl,e⟩:=I.lstM hH;obtain⟨z2,wt,n2,r2,hl2,e2⟩:=I.lstM hB;have xf:jz.toArray.size+wt.toArray.size<=cw:=by rw[TU,TU];lia
 have aC5:¬(!jz.toArray.isEmpty&&Builtin.List.listTooLong (jz.toArray.size+wt.toArray.size))=true:=by
  rw[Yw xf,bw];exact XJ
 refine call_meets F.slot_list_extend ⟨_,e,rfl⟩ F.entry_list_extend (F.args_list_extend_2 _ _)
  (AutoSeq1.list_extend_list_list_0 l jz.toArray n b wt.toArray n2 aC5 (by rw[TU];lia) ⋯) ⟨e,e2,?_⟩
 refine⟨.non,_,I.lset (its':=jz++wt) hH e (by simp) (r.append r2) ?_,rfl,q⟩;rw[TC]
 lia
def C7:V->List V->Hp->VK->Prop:=λx vs H Q=>∃l xs i k y,x = .ref l/\vs=[.int i]/\H l=oZ (.lst xs)/\-(2^63)<=i/\i<2^63/\seqIndex? i xs.length=oZ k/\xs[k]?=oZ y/\Q y (upd H l (.lst (xs.eraseIdx k)))
theorem Ys:NF X "list.pop" C7:=by
 intro pins s σ H x vs v us Q I rx rv h;obtain⟨l,xs,i,k,y,rfl,rfl,hH,h1,h2,hk,hy,q⟩:=h;cases rx;obtain⟨u,rfl,ru⟩:=rv.one;obtain⟨t,rfl⟩:=ru;obtain⟨z,jz,n,r,hl,e⟩:=I.lstM hH;obtain⟨w,hw,yg⟩:=r.get hy;refine call_meets F.slot_list_pop ⟨_,e,rfl⟩ F.entry_list_pop (F.args_list_pop_2 _ _)
  (MeetsSeq.list_pop_at l jz.toArray n i t k w (fitsIndex_both h1 h2) (by rw[TU,<-hl];exact hk) (by rw[<-Array.getElem?_toList];exact hw) (by rw[TU];lia)) ⟨e,?_⟩
 refine⟨y,_,I.lset (its':=jz.eraseIdx k) hH e ?_ (r.eraseIdx k) ?_,yg,q⟩
 ·show jz.toArray.eraseIdxIfInBounds k=(jz.eraseIdx k).toArray;rw[List.eraseIdxIfInBounds_toArray]
 ·have:=Be xs k
  lia
def QD:R2:=λx y H Q=>∃l b xs zs,x = .ref l/\y = .ref b/\H l=oZ (.lst xs)/\H b=oZ (.lst zs)/\xs.length+zs.length<=cw/\∀p,H p=none->Q (.ref p) (upd H p (.lst (xs++zs)))
theorem ER:oQ X (gf .Add) QD:=by
 intro pins s σ H x y v u Q I rx ry h;obtain⟨l,b,xs,zs,rfl,rfl,hH,hB,hz,q⟩:=h;cases rx;cases ry;obtain⟨z,jz,n,r,hl,e⟩:=I.lstM hH;obtain⟨z2,wt,n2,r2,hl2,e2⟩:=I.lstM hB;refine PySem.P.add_list e e2 ?_ (by rw[TU,TU];lia);have ea:jz.toArray++wt.toArray=(jz++wt).toArray:=by simp
 rw[ea];exact⟨.ref _,_,I.lnew (t':=s.toks) (r.append r2) (by rw[TC];lia),rfl,q _ I.fresh⟩
end L2
namespace Att
open PySem PySem.W PySem.Calls PyProof.Rows
theorem vJ:∀(ns:List Int)(vs:List oA),WellAll P h vs (ns.map WData.int)->IntsAre vs ns:=by
 intro ns
 induction ns with
 |nil=>
  intro vs w;rw[XD]at w;cases w;exact .nil
 |cons n ns ih=>
  intro vs w;rw[TH]at w;cases w with
  |cons a b=>
   cases a;exact .cons _ _ (ih _ b)
theorem Uy{l:OpenLaw}(hn:l.most=oZ n){h:oE}(ou:l.row.toRowW.claim.pre args=true)(hwl:WellAll P h vals args):
  ∃a vs ns,vals=[VU a]/\args=[WData.list (ns.map WData.int)]/\h.get? a=oZ { cls:=.type "list",data:=.seq vs.toArray }/\IntsAre vs ns/\ns.length<=n:=by
 have hsh:WShape.hasAll [] args [.list .int]=true:=(pre_splitW ou).1;have hc:l.pre.holds [] { args:=args } = true:=(pre_splitW ou).2;obtain⟨d,r,rfl,h1,h2⟩:=hasAllW_cons hsh;obtain rfl:=hasAllW_nil h2;obtain⟨xs,rfl,h3⟩:=hasW_list h1;obtain⟨ns,rfl⟩:=items_int h3;have hlen:ns.length<=n:=by
  unfold OpenLaw.pre at hc;have h4:(WTm.not (.lt (.lit (.int (n:Int))) (.len (.arg 0)))).holds [] { args:=[.list (ns.map .int)] } = true:=by
   have h4:=(holds_andW hc).1;rw[hn]at h4;exact h4
  have h5:=condW_of h4 (w_not (w_lt w_lit (w_len_list (w_arg rfl))));rw[SV]at h5;refine Nat.le_of_not_lt λq=>?_;have q':(n:Int)<((ns.length:Nat):Int):=⋯
  first
   |(rw[oY q']at h5;exact absurd h5 ∅)
   |(simp at h5;lia)
 cases hwl with
 |cons w1 w2=>
  cases w2;cases w1 with
  |list ho yr=>exact⟨_,_,ns,rfl,rfl,ho,vJ ns _ yr,hlen⟩
theorem Ur(l:OpenLaw)(args:List WData):l.row.toRowW.claim.post args (.bool true) args=true:=
 postW_of (r:=l.row.toRowW) (X:=(true==true))
  (show WShape.has [] (.bool true) .bool=true by first|rfl|decide|simp[WShape.has,WShape.arms,WShape.armsAll])
  (show(WTm.eq .res (.lit (.bool true))).value [] { args:=args,res:=oZ (.bool true),after:=args } = oZ (.bool (true==true))from w_eq_bool (w_res rfl) w_lit) rfl
theorem attach_call{l:OpenLaw}{XP:(Str->Option oA)->oE->Prop}{YP:dk->oE->Prop}{d:DefRec}(hn:l.most=oZ n)(hdf:d.params.defaults=[])(call:∀(w:dk)(s₀ s₁:oB)(mg mb:Str->Option oA)(fa:ck)(o:Obj)(pm cd doc:oA)(a:ck)(vs:List oA)(ns:List Int),
   Ground q loose [] XP w s₀ mg mb s₁.heap->YP w s₁.heap->
   s₁.heap.get? fa=oZ o->o.data = .func (docDef d.name d.params d.body d.scope pm cd doc)->s₁.heap.CodeRec cd d.name->mg d.name=oZ (.ref fa)->
   s₁.heap.get? a=oZ { cls:=.type "list",data:=.seq vs.toArray }->IntsAre vs ns->ns.length<=n->s₁.gens = #[]->
   codeAny (df l.prog w) jx (.call (.ref fa) ⟨[.ref a],[]⟩) (λr s'=>r = .ok (.ret (.bool true))/\OldK s₁.heap s'.heap/\s'.os=s₁.os/\jg s'.gens) s₁):
  WalkO q loose XP YP l.row.toRowW d [] (λf vs=>PySem.call f vs):=by
 intro w s₀ s₁ mg mb G Y fa o pm cd doc dV kV ho hd vj hD hmg hg args vals as ou aJO hrd hwl hlo;obtain rfl:dV = .none:=Dflts.none hD hdf;obtain rfl:kV = .none:=Dflts.noKw hD;obtain⟨a,vs,ns,rfl,rfl,aBP,hints,hlen⟩:=Uy hn ou hwl;refine enter_call (codeAny_mono (call w s₀ s₁ mg mb fa o pm cd doc a vs ns G Y ho (fd_plain hd) vj hmg aBP hints hlen hg) λr s' hq=>?_);obtain⟨rfl,h2,h3,h4⟩:=hq;exact⟨.inl ⟨.bool true,.bool true,[],rfl,λ_=>rfl,.bool true,Ur l _,λ_=>⟨List.Pairwise.nil,λ_ hm=>(nomatch hm)⟩⟩,h2,h3,h4⟩
end Att
namespace L2
open PySem PySem.Spec PyProof.Rows
theorem Ce:∀{vs:List oA}{ns:List Int},IntsAre vs ns->bB (ns.map V.int) vs
 |_,_,.nil=>.nil
 |_,_,.cons n t h=>.cons ⟨t,rfl⟩ (Ce h)
def CD(H:Hp):Prop:=∀b,H b=none\/∃o xs,H b=oZ (.frz o (.lst xs))
theorem Yo{K:W.Frag}{mb:Str->Option oA}{CX:Kq}{sp:Sp}{s₁:oB}{vs:List oA}{ns:List Int}(KX:K.In s₁.heap)(hns:s₁.heap.Ns de mg)(hb:s₁.heap.Ns builtinsNs mb)(hbb:∀x:Str,x≠"__name__"->mb x=gr x)(aFH:s₁.heap.NoLimit)(hg:s₁.gens = #[])(ha:s₁.heap.get? a=oZ { cls:=.type "list",data:=.seq vs.toArray })(hi:IntsAre vs ns)(hl:ns.length<=cw)(hr:fF k jx)(F:∀base:oE,K.In base->base.Ns de mg->bG P w K mg base CX k fa fd [x] sp)(aC7:∀(s:oB)(u:oA),BindsTo s fd ⟨[u],[]⟩ [(x,u)])(hsp:∀H:Hp,CD H->j5 K H a (ns.map V.int)->sp [.ref a] H (λv _=>v = .bl true) λ_ _ _=>False)(hCX:∀H e s',CX [] H s₁ (λ_ _ _=>False) e s'->False):
  codeAny (df P w) jx (.call (.ref fa) ⟨[.ref a],[]⟩) (λr s'=>r = .ok (.ret (.bool true))/\OldK s₁.heap s'.heap/\s'.os=s₁.os/\jg s'.gens) s₁:=by
 have rv:=Ce hi;have aFJ:=hi.length
 -- from an abstract heap in which nothing but the script may be tracked
 have core:∀H:Hp,CD H->j5 K H a (ns.map V.int)->pW P w H s₁.heap->(∀b,H b≠none->b=a)->(H a≠none->K.lookup a=none)->
   codeAny (df P w) jx (.call (.ref fa) ⟨[.ref a],[]⟩) (λr s'=>r = .ok (.ret (.bool true))/\OldK s₁.heap s'.heap/\s'.os=s₁.os/\jg s'.gens) s₁:=by
  intro H hO hS hok hA hK;have ya:∀{b:ck}{o:Obj},s₁.heap.get? b=oZ o->H b=none->(Ds s₁.heap H).get? b=oZ o:=λe n=>Xy e n;have noA:∀{b:ck}{o:Obj}{es:Array DictEntry}{ep:Nat},s₁.heap.get? b=oZ o->o.data = .dict es ep->H b=none:=λ{b o es ep}e d=>by
   cases q:H b with
   |none=>rfl
   |some u=>
    have e':b=a:=hA b (by rw[q];simp);subst e';rw[ha]at e;cases e;have d':Data.seq vs.toArray _=Data.dict es ep:=d;cases d'
  have nsK:∀{b:ck}{m:Str->Option oA},s₁.heap.Ns b m->(Ds s₁.heap H).Ns b m:=λ{b m}zZ=>by obtain⟨o,es,ep,e,d,r⟩:=zZ;exact⟨o,es,ep,ya e (noA e d),d,r⟩
  have hKb:K.In (Ds s₁.heap H):=λb o e=>ya (KX b o e) (by
   cases q:H b with
   |none=>rfl
   |some u=>
    have e':b=a:=hA b (by rw[q];simp);subst e';rw[hK (by rw[q];simp)]at e;cases e)
  have hM:Mod K mg (Ds s₁.heap H):=⟨hKb,nsK hns,⟨mb,nsK hb,hbb⟩,let⟨mc,h1,h2⟩:=aFH;⟨mc,nsK h1,h2⟩⟩;have e0:L9 P w K mg (Ds s₁.heap H) jx [] s₁ H:=⟨rfl,hM,λb o e=>Q1 e,Nat.le_of_eq (Tv _ _),trivial,λb hb=>absurd (show b∈([]:List ck)from hb) (by simp),hok,.of_eq hg⟩;refine codeAny_mono ((F _ hKb (nsK hns)).run jx [] s₁ H ⟨[.ref a],[]⟩ [.ref a] [.ref a] _ _ hr e0 (aC7 s₁ (.ref a)) (.cons rfl .nil) (hsp H hO hS)) λr s' h=>?_;cases r with
  |error e=>exact(hCX H e s' h).elim
  |ok fl=>
   cases fl with
   |next=>exact False.elim h
   |brk=>exact False.elim h
   |cont=>exact False.elim h
   |ret u=>
    obtain⟨v,H',os,bare,un,aBQ,r',q⟩:=h;have q':v = .bl true:=q;subst q';obtain rfl:u=Value.bool true:=r';refine⟨rfl,OldK.of_keep λb o e=>?_,os,bare⟩;cases q:H b with
    |none=>exact un.keep b o e q (by intro z;exact absurd (show b∈([]:List ck)from z) (by simp)) (by simp)
    |some u=>
     obtain z|⟨ob,xs,z⟩:=hO b
     ·rw[q]at z;cases z
     ·have z2:=un.frzs b ob _ z;obtain⟨e1,_⟩:=hok b _ z;obtain⟨e2,_⟩:=aBQ b _ z2;rw[e]at e1;cases e1;exact e2
 cases hk:K.lookup a with
 |some o=>
  -- the script is one of the module's own objects
  have e:=KX a o hk;rw[ha]at e;cases e;refine core (λ_=>none) (λ_=>.inl rfl) (.inr ⟨_,vs.toArray,_,hk,rfl,rfl,rfl,by rw[TU,aFJ];exact hl,by simpa using rv⟩) (λb u z=>by have z':(none:Option HO)=oZ u:=z;cases z') (λb z=>absurd rfl z) λz=>absurd rfl z
 |none=>
  refine core (λb=>if b=a then oZ (.frz { cls:=.type "list",data:=.seq vs.toArray } (.lst (ns.map V.int)))else none) (λb=>?_) (.inl (.inr ⟨{ cls:=.type "list",data:=.seq vs.toArray },oV rfl⟩)) (λb u z=>?_) (λb z=>?_) λ_=>hk
  ·by_cases hb:b=a
   ·exact .inr ⟨_,_,oV hb⟩
   ·exact .inl (oW hb)
  ·by_cases hb:b=a
   ·have z':=(oV hb).symm.trans z;cases z';subst hb;exact⟨ha,by rw[SV];exact hl,vs,_,rv,ha⟩
   ·have z':=(oW hb).symm.trans z;cases z'
  ·by_cases hb:b=a
   ·exact hb
   ·exact absurd (oW hb) z
theorem Y3{l:W.OpenLaw}{XP:(Str->Option oA)->oE->Prop}{YP:dk->oE->Prop}{d:DefRec}{K:Params->W.Frag}{CX:dk->Kq}{sp:dk->Sp}(hn:l.most=oZ n)(hn2:n<=cw)(hdf:d.params.defaults=[])(hr:fF k jx)(hY:∀(w:dk)(h:oE),YP w h->(K w.params).In h)(F:∀(w:dk)(mg:Str->Option oA)(fa:ck)(h:oE),(K w.params).In h->h.Ns de mg->mg d.name=oZ (.ref fa)->
   ∃fd:fe,(∀(s:oB)(u:oA),BindsTo s fd ⟨[u],[]⟩ [(x,u)])/\
    ∀base:oE,(K w.params).In base->base.Ns de mg->bG l.prog w (K w.params) mg base (CX w) k fa fd [x] (sp w))(hsp:∀(w:dk)(H:Hp)(a:ck)(ns:List Int),ns.length<=n->CD H->j5 (K w.params) H a (ns.map V.int)->sp w [.ref a] H (λv _=>v = .bl true) λ_ _ _=>False)(hCX:∀(w:dk)(H:Hp)(s:oB)(e:oA)(s':oB),CX w [] H s (λ_ _ _=>False) e s'->False):
  W.WalkO q loose XP YP l.row.toRowW d [] (λf vs=>PySem.call f vs):=by
 refine Att.attach_call hn hdf λw s₀ s₁ mg mb fa o pm cd doc a vs ns G Y ho hd vj hmg aBP hints hlen hg=>?_;have KX:=hY w _ Y;obtain⟨fd,hb,hF⟩:=F w mg fa _ KX G.T.g hmg;exact Yo KX G.T.g G.T.b G.T.builtins G.T.nolimit hg aBP hints (VE hlen hn2) hr hF hb (λH hO hS=>hsp w H a ns hlen hO hS) λH e s'=>hCX w H s₁ e s'
end L2
/- THE LAST THEOREM (shape;LID,My.* are yours):
   My.Adr: a structure of the addresses that your layer names (classes,functions);My.Txt K t: a structure (Prop) of the equations over K;
   My.txt_mk:{K} {implicit addresses ..} (e1:nsIn K de "law" = oZ (oZ (.ref f))) (e2:K.lookup f=oZ ⟨oc,od,.func (fnOf "law" "law" params body scope dV kV doc pm an oq ct),sl⟩) (e3:codeIn K oq "law" = true) .. : ∃t,My.Txt K t
set_option maxRecDepth 100000 in
set_option maxHeartbeats 0 in
(the tactic k_is has no namespace: write k_is) -/
namespace L2
open PySem PySem.Spec PyProof.Rows
def iF(s:dh):Arguments:=match s with
 |.FunctionDef _ a _ _ _ _ _ _ _ _=>a
 |_=>{ posonlyargs:=[],args:=[],vararg:=none,kwonlyargs:=[],kw_defaults:=[],kwarg:=none,defaults:=[] }
def d8(s:dh):List dh:=match s with
 |.FunctionDef _ _ b _ _ _ _ _ _ _=>b
 |_=>[]
def aC(s:dh):iq:=match s with
 |.FunctionDef _ _ _ _ _ _ sc _ _ _=>sc
 |_=>{ kind:=.function,names:=[],isGenerator:=false,isCoroutine:=false }
abbrev fJ:Kq:=λ_ _ _ _ _ _=>False
abbrev E0:XK:=λ_ _ _=>False
theorem KH:Kw fJ X E0:=λ_ _ _ _ _ _ _ h=>h.elim
structure eO(K:W.Frag)(x qual:Str)(st:dh)(f:ck)(fd:fe):Prop where
 ex:∃(oc:oA)(od:Option ck)(kV doc pm:oA)(an:Option ck)(oq ct:oA)(osl:Array (Option oA)),
  fd=W.fnOf x qual (iF st) (d8 st) (aC st) .none kV doc pm an oq ct/\K.lookup f=oZ ⟨oc,od,.func fd,osl⟩/\W.codeIn K oq qual=true
 kp:W.keepIn K (.ref f)=true
theorem eO.ok{P:da}{w:dk}{K:W.Frag}{mg:Str->Option oA}{base:oE}{x qual:Str}{st:dh}{f:ck}{fd:fe}{N ps:List Str}{k:Nat}{sp:Sp}(F:eO K x qual st f fd)(S:aI N ps (aC st))(len:∀vs H Q E,sp vs H Q E->vs.length=ps.length)(wo:∀(oq:oA)(A:oD)(outer:List Env)(s:oB)(H:Hp)(vs:List V)(Q:VK)(E:XK),fF k (A.deeper (je qual (aC st) s.heap.objs.size f oq))->sp vs H Q E->
   ∃t,Oc (De fJ P w K mg base N qual (aC st) f oq A outer s H E).nox (d8 st) t/\t { nx:=λ_ H'=>Q .non H',rt:=Q } (n8 N vs) H):(~~~bG) fJ (k+1) f fd ps sp:=by
 obtain⟨oc,od,kV,doc,pm,an,oq,ct,osl,rfl,lk,vj⟩:=F.ex;refine JE lk vj S len λA outer s H vs Q E hr hsp=>?_;obtain⟨t,h,q⟩:=wo oq A outer s H vs Q E hr hsp;exact⟨t,h.nox,q⟩
theorem eO.binds{K:W.Frag}{x qual:Str}{st:dh}{f:ck}{fd:fe}{ps:List Str}(F:eO K x qual st f fd)(h:∀(kV doc pm:oA)(an:Option ck)(oq ct:oA)(us:List oA),us.length=ps.length->bindArgs (W.fnOf x qual (iF st) (d8 st) (aC st) .none kV doc pm an oq ct) ⟨us,[]⟩=pure (ps.zip us)):mP K fd ps []:=by
 obtain⟨oc,od,kV,doc,pm,an,oq,ct,osl,rfl,lk,vj⟩:=F.ex;exact .all (h kV doc pm an oq ct)
theorem Xn{K:W.Frag}{x qual:Str}{st:dh}{f:ck}{oc:oA}{od an:Option ck}{osl:Array (Option oA)}{kV doc pm oq ct:oA}(l:K.lookup f=oZ ⟨oc,od,.func (W.fnOf x qual (iF st) (d8 st) (aC st) .none kV doc pm an oq ct),osl⟩)(c:W.codeIn K oq qual=true)(k:W.keepIn K (.ref f)=true):eO K x qual st f (W.fnOf x qual (iF st) (d8 st) (aC st) .none kV doc pm an oq ct):=⟨⟨oc,od,kV,doc,pm,an,oq,ct,osl,rfl,l,c⟩,k⟩
theorem JM(hr:fF k A):A.units+1<jn:=UN (Nat.add_le_add_left (by decide:1<=64) _) hr.units
theorem bZ(h:n<=9000):n<cw:=UN h ∅
theorem Sx:j0 X (.builtin "abs") (λxs H Q=>∃i:Int,xs=[.int i]/\Q (.int (i.natAbs:Int)) H):=by
 intro pins s σ H xs us Q I r h;obtain⟨i,rfl,q⟩:=h;obtain⟨u,rfl,rx⟩:=Cd r;obtain⟨t,rfl⟩:=rx;have e:(if i<0 then -i else i)=(i.natAbs:Int):=by split<;>lia
 exact call_abs_int λu tk=>⟨.int (i.natAbs:Int),H,I.tok _,⟨u,by rw[e]⟩,q⟩
theorem Sy:j0 X (.type "int") (λxs H Q=>∃b:Bool,xs=[.bl b]/\Q (.int (if b then 1 else 0)) H):=by
 intro pins s σ H xs us Q I r h;obtain⟨b,rfl,q⟩:=h;obtain⟨u,rfl,rx⟩:=Cd r;cases rx;exact PySem.call_int_bool ⟨.int _,H,I.tok _,⟨_,rfl⟩,q⟩
theorem aV.turnedLaid{X:Cx}{pins:List (ck×Obj)}{σ:St}{H:Hp}{s:oB}{h':oE}{t':Nat}{ch:List ck}{a:ck}{o:HO}(I:aV X pins σ H s)(k:∀b u,b∉ch->s.heap.get? b=oZ u->h'.get? b=oZ u)(hf:∀b∈ch,rA X pins H b)(hp:s.heap.objs.size<=a)(new:eY X.prog X.w (upd H a o) h' a o):aV X pins σ (upd H a o) { s with heap:=h',toks:=t' }:=by
 have hn:=I.hok.fresh hp;have nit:∀b u,H b=oZ u->b∉ch:=λb u e z=>by rw[(hf b z).1]at e;cases e
 refine I.step (g':=s.gens) (d':=s.drawn) (ch:=ch) (λb hb=>⟨(hf b hb).2.2.2.1,(hf b hb).2.1,(hf b hb).2.2.2.2.1,(hf b hb).2.2.2.2.2⟩) (λb u _ _ hc e _=>k b u hc e) (λb u _ _ hc e _=>⟨u.slots,k b u hc e⟩)
  (λb u hc e n=>by rw[bD (UW (UB (TZ e) hp))];exact n) (λb u hc e=>⟨u,k b u hc e⟩) (λb xs e=>by rw[bD (bF e hn)];exact e) (λb u xs e=>by rw[bD (bF e hn)];exact e)
  (λb ps e=>⟨#[],by rw[bD (bF e hn),e];simp⟩) (λm hm=>?_) (λb u e=>?_) I.bare
 ·obtain⟨ob,es,ep,ho,r⟩:=hm;exact⟨ob,es,ep,k _ ob (λz=>(hf _ z).2.1 rfl) ho,r⟩
 ·by_cases hb:b=a
  ·subst hb;rw[dM]at e;cases e;exact new
  ·rw[bD hb]at e;refine(I.hok b u e).stay (λc v hc q=>k c v ?_ q) (λc q=>by rw[bD (bF q hn)];exact q) λc xs q=>by rw[bD (bF q hn)];exact q
   obtain z|z:=hc
   ·rw[z];exact nit b u e
   ·exact nit c _ z
theorem aV.turnedL{X:Cx}{pins:List (ck×Obj)}{σ:St}{H:Hp}{s:oB}{h':oE}{t':Nat}{ch:List ck}(I:aV X pins σ H s)(k:∀b u,b∉ch->s.heap.get? b=oZ u->h'.get? b=oZ u)(hf:∀b∈ch,rA X pins H b):aV X pins σ H { s with heap:=h',toks:=t' }:=by
 have nit:∀b u,H b=oZ u->b∉ch:=λb u e z=>by rw[(hf b z).1]at e;cases e
 refine I.step (g':=s.gens) (d':=s.drawn) (ch:=ch) (λb hb=>⟨(hf b hb).2.2.2.1,(hf b hb).2.1,(hf b hb).2.2.2.2.1,(hf b hb).2.2.2.2.2⟩) (λb u _ _ hc e _=>k b u hc e) (λb u _ _ hc e _=>⟨u.slots,k b u hc e⟩)
  (λb u hc e n=>n) (λb u hc e=>⟨u,k b u hc e⟩) (λb xs e=>e) (λb u xs e=>e) (λb ps e=>⟨#[],by rw[e];simp⟩) (λm hm=>?_) (λb u e=>?_) I.bare
 ·obtain⟨ob,es,ep,ho,r⟩:=hm;exact⟨ob,es,ep,k _ ob (λz=>(hf _ z).2.1 rfl) ho,r⟩
 ·refine(I.hok b u e).stay (λc v hc q=>k c v ?_ q) (λc q=>q) λc xs q=>q;obtain z|z:=hc
  ·rw[z];exact nit b u e
  ·exact nit c _ z
def NT(K:W.Frag)(a:ck):It:=
 ⟨λi H=>∃xs x,j5 K H a xs/\xs[i]?=oZ x,λi H x H'=>∃p y,x = .ref p/\H p=none/\H'=upd H p (.tup [.int (i:Int),y])/\∀xs,j5 K H a xs->xs[i]?=oZ y,λi H=>∃xs,j5 K H a xs/\xs.length<=i⟩
theorem Ve{P:da}{w:dk}{K:W.Frag}{elts:List oC}{x1}{vm:Pos}(a e it:ck)(ui:e≠it):
  Su P w K (.Tuple elts x1 vm) (NT K a) [e,it] e (λi h=>(∃old,IsEnum h e it (i:Nat) old)/\h.IsListIter it a i) where
 mem:=by simp
 obj:=λi h st b hb=>by
  obtain⟨⟨old,he⟩,⟨o,ho,hc,hd⟩⟩:=st;obtain rfl|hb:=SU.mp hb
  ·exact⟨_,he,λv z=>by cases z⟩
  ·rw[TM.mp hb];exact⟨o,ho,λv z=>by rw[hd]at z;cases z⟩
 keep:=λi h h' st k=>⟨let⟨old,he⟩:=st.1;⟨old,k e (by simp) _ he⟩,st.2.at λo x=>k it (by simp) o x⟩
 item:=by
  intro X hP hw hK hc i pins s σ H E I hf st hg;subst hP hw hK;obtain⟨xs,x,hq,hx⟩:=hg;obtain⟨jz,rv,p,hz⟩:=I.list hq;obtain⟨u,hu,ru⟩:=rv.get hx;obtain⟨⟨old,he⟩,hit⟩:=st;refine wpAny_pyNext_enum_item he hit p.isList (x:=u) (by simpa using hu) ui λh1 ho aFK ht xf hk=>⟨_,rfl,?_⟩;refine wpAny_letOwnedTupleGo_enum ho λh2 he2 xg=>?_;have hen:e≠s.heap.objs.size:=UW (TZ he);have kk:∀b o,b∉[e,it]->s.heap.get? b=oZ o->h2.get? b=oZ o:=λb o hb q=>by
   have h1':b≠e:=λz=>hb (by simp[z]);have h2':b≠it:=λz=>hb (by simp[z]);exact xg.extBut b o h1' (hk b o h1' h2' q)
  have new:eY X.prog X.w (upd H s.heap.objs.size (.tup [.int (i:Int),x])) h2 s.heap.objs.size (.tup [.int (i:Int),x]):=
   ⟨by show 2<=cw;decide,[.int i s.toks,u],.cons ⟨_,rfl⟩ (.cons ru .nil),⟨_,xg.extBut _ _ (Ne.symm hen) ht,rfl,_,rfl⟩⟩
  refine⟨.ref s.heap.objs.size,upd H s.heap.objs.size (.tup [.int (i:Int),x]),I.turnedLaid (t':=s.toks+1) (ch:=[e,it]) kk hf (TN _) new,rfl,
   ⟨_,x,rfl,I.hok.fresh (TN _),rfl,λys hy=>by rw[I.list_inj hy hq];exact hx⟩,⟨⟨_,by simpa using he2⟩,aFK.extBut xg.extBut (Ne.symm ui)⟩,λb hb=>?_⟩
  have pj:b<s.heap.objs.size:=by
   obtain rfl|hb:=SU.mp hb
   ·exact TZ he
   ·rw[TM.mp hb];obtain⟨o,wm,_⟩:=hit;exact TZ wm
  rw[bD (UW pj)];exact(hf b hb).1
 done:=by
  intro X hP hw hK hc i pins s σ H E I hf st hg;subst hP hw hK;obtain⟨xs,hq,hx⟩:=hg;obtain⟨jz,rv,p,hz⟩:=I.list hq;have hl:=rv.length;obtain⟨⟨old,he⟩,hit⟩:=st;refine wpAny_pyNext_enum_end (I.ok.hd hc) he hit p.isList (by simp;lia) λh1 eb=>⟨rfl,?_⟩;exact I.turnedL (t':=s.toks) (ch:=[e,it]) (λb o hb q=>eb b o (λz=>hb (by simp[z])) q) hf
 self:=λ_ _ _ _ _ st h=>let⟨old,he⟩:=st.1;wpAny_pyIter_enum he h
def AE(K:W.Frag)(ta:TA):TI:=λσ H R=>ta σ H λvs H1=>∃a,vs=[.ref a]/\(∃xs,j5 K H1 a xs)/\R (NT K a) H1
theorem U2{x1}(hg:Gl X "enumerate")(hm:X.mg "enumerate" = none)(ha:PA X [a] ta)(hs:du [a] X.env=[(false,dw a X.env)]:=by rfl):
  PI X (.Tuple elts x1 vm) (.Call (.Name "enumerate" p) [a] [] pos) (AE X.K ta):=by
 intro pins s σ H R I h;refine Call_ (xU I hg hm boot_enumerate (PyProof.Rows.callWith_type1 (dZ (ha pos pins s σ H _ I h) λus s1⟨vs,H1,I1,r1,q1⟩=>?_) hs rfl));obtain⟨l,rfl,⟨xs,hq⟩,q⟩:=q1;obtain⟨u,rfl,ru⟩:=bB.one r1;cases ru;obtain⟨jz,rv,pl,hz⟩:=I1.list hq;refine call_enumerate_list pl.isList λh' he hit xf hk=>?_;refine wpAny_pyIter_enum he ?_;refine⟨s1.heap.objs.size+1,[s1.heap.objs.size+1,s1.heap.objs.size],_,_,H1,rfl,I1.kept (t':=s1.toks) hk,Ve l _ _ (Nat.succ_ne_self _),⟨⟨_,he⟩,hit⟩,λb hb=>?_,q⟩;have hle:s1.heap.objs.size<=b:=by
  obtain rfl|hb:=SU.mp hb
  ·exact Nat.le_succ _
  ·rw[TM.mp hb];exact TN _
 exact I1.fpOk hle (I1.hok.fresh hle)
theorem pG {R:Result->oB->Prop} (I:Nat->oB->Prop) (turn:∀n s,I n s->cq (df prog w) A (pyNext it) (λr s₁=>match r with
   | none=>R (.ok .next) s₁
   | some v=>cq (df prog w) A (jr target it v) (λ_ s₂=>cq (df prog w) A (ic target env v) (λ_ s₃=>cq (df prog w) A (forIn ifs true λc r=>if r=true then do let ok <-isTrue c env (dw c env);pure (ForInStep.yield ok) else pure (ForInStep.yield r)) (λok s₃'=>if ok=true then cq (df prog w) A (dw elt env) (λx s₄=>
     cq (df prog w) A (call (.builtin "list.append") [acc,x]) (λ_ s₅=>∃m,m<n/\I m s₅) (λ_ _=>False) s₄) (λ_ _=>False) s₃' else ∃m,m<n/\I m s₃') (λ_ _=>False) s₃) (λ_ _=>False) s₂) (λ_ _=>False) s₁) (λ_ _=>False) s) (n:Nat) (h:I n s):codeAny (df prog w) A (.compLoop (.ListComp elt [⟨target,iter,ifs,0⟩] scope pos) 0 it acc env) R s:=by
 refine codeAny_loop rfl I (λn s hI=>?_) n h;show cq _ A ((compTurn (.ListComp elt [⟨target,iter,ifs,0⟩] scope pos) 0 it acc env).onRaise (λx=>do noteFrame x env;theTreesLotGoes x)) _ _ s;refine wpAny_noted ?_;rw [compTurn_list];refine cm (ja (cm (ik (turn n s hI) (λr s₁ h₁=>?_) λ_ _ h'=>h'.elim)));cases r with
 | none=>exact cn h₁
 | some v=>
  refine cm (ik h₁ (λ_ s₂ h₂=>cm (ik h₂ (λ_ s₃ h₃=>cm (ik h₃ (λok s₃' h₃'=>?_) λ_ _ h'=>h'.elim)) λ_ _ h'=>h'.elim)) λ_ _ h'=>h'.elim);cases ok with
  | false=>exact cn ⟨rfl,h₃'⟩
  | true=>
   exact cm (cm (ik h₃' (λx s₄ h₄=>cm (ik h₄ (λ_ s₅ h₅=>cn (cn ⟨rfl,h₅⟩)) λ_ _ h'=>h'.elim)) λ_ _ h'=>h'.elim))
def La(env:Env):List (Str×NameKind)->List (Str×ck)->List (Str×ck)
 |[],cs=>cs
 |(n,k)::r,cs=>La env r (if k==.free then(match env.cells.lookup n with|some c=>(n,c)::cs|none=>cs)else cs)
def Cu(scope:iq)(env:Env):List (Str×ck):=La env scope.names []
theorem Ct(env:Env):∀(ns:List (Str×NameKind))(cs:List (Str×ck)),(∀y∈ns,y.2 = .free->∃c,env.cells.lookup y.1=oZ c)->
  (forIn ns cs (λx r=>do
   if x.2==.free then
    let a <-cellOf env x.1
    pure (ForInStep.yield ((x.1,a)::r))
   else pure (ForInStep.yield r)):Sem (List (Str×ck)))=pure (La env ns cs)
 |[],cs,_=>rfl
 |(n,k)::r,cs,h=>by
  rw[List.forIn_cons]
  by_cases hk:k = .free
  ·subst hk;obtain⟨c,hc⟩:=h (n,.free) VX rfl;have vi:env.cells.lookup n=oZ c:=hc;have e:cellOf env n=pure c:=by unfold cellOf;rw[vi]
   simp only[beq_self_eq_true,if_true,e,pure_bind,La,vi];exact Ct env r _ λy hy=>h y (UI _ hy)
  ·have hb:(k==NameKind.free)=false:=by simpa using hk
   simp only[hb,WM,if_false,pure_bind,La];exact Ct env r _ λy hy=>h y (UI _ hy)
theorem zG(h:∀y∈scope.names,y.2 = .free->∃c,env.cells.lookup y.1=oZ c):closureFor scope env=pure (Cu scope env):=by
 have e:=Ct env scope.names [] h;unfold Cu;rw[<-e];unfold closureFor;simp only[bind_pure]
theorem Hq(env:Env):∀(ns:List (Str×NameKind))(cs:List (Str×ck))(x:Str)(c:ck),(∀x c,cs.lookup x=oZ c->env.cells.lookup x=oZ c)->(La env ns cs).lookup x=oZ c->env.cells.lookup x=oZ c
 |[],_,x,c,h,e=>h x c e
 |(n,k)::r,cs,x,c,h,e=>by
  refine Hq env r _ x c (λy d hd=>?_) e
  by_cases hk:(k==NameKind.free)=true
  ·rw[oV hk]at hd;cases q:env.cells.lookup n with
   |none=>rw[q]at hd;exact h y d hd
   |some a=>
    rw[q]at hd;simp only[WN]at hd;cases b:y==n with
    |true=>rw[b]at hd;cases hd;rw[eq_of_beq b];exact q
    |false=>rw[b]at hd;exact h y d hd
  ·rw[oW hk]at hd;exact h y d hd
theorem Hs(e:(Cu scope env).lookup x=oZ c):env.cells.lookup x=oZ c:=Hq env _ _ x c (λ_ _ h=>by simp at h) e
theorem Ho(env:Env):∀(ns:List (Str×NameKind))(cs:List (Str×ck))(x:Str)(c:ck),(cs.lookup x=oZ c\/(x,NameKind.free)∈ns)->env.cells.lookup x=oZ c->(La env ns cs).lookup x=oZ c
 |[],_,x,c,h,_=>h.elim (λz=>z) (λz=>by simp at z)
 |(n,k)::r,cs,x,c,h,e=>by
  refine Ho env r _ x c ?_ e;obtain h|h:=h
  ·refine .inl ?_
   split
   ·cases q:env.cells.lookup n with
    |none=>exact h
    |some a=>
     simp only[WN];cases b:x==n with
     |true=>rw[<-eq_of_beq b,e]at q;exact q.symm
     |false=>exact h
   ·exact h
  ·obtain z|z:=SU.mp h
   ·injection z with z1 z2;subst z1 z2;refine .inl ?_;simp only[beq_self_eq_true,if_true,e,WN]
   ·exact .inr z
theorem Hr(h:(x,NameKind.free)∈scope.names)(e:env.cells.lookup x=oZ c):(Cu scope env).lookup x=oZ c:=Ho env _ _ x c (.inr h) e
theorem sT{env:Env}:∀{names:List (Str×NameKind)}{x:Str},(∀y∈names,y.2≠.cell)->
    ((names.map λ(n,k)=>if(k==NameKind.free&&env.scope.kind==.function&&env.kindOf n==oZ .cell)then(n,NameKind.cell)else(n,k)).lookup x=oZ .cell\/
     (names.map λ(n,k)=>if(k==NameKind.free&&env.scope.kind==.function&&env.kindOf n==oZ .cell)then(n,NameKind.cell)else(n,k)).lookup x=oZ .free)->(x,NameKind.free)∈names
  |[],_,_,h=>by simp at h
  |(n,k)::r,x,hc,h=>by
    have ih:=@sT env r x λy hy=>hc y (UI _ hy);have hk:k≠.cell:=hc (n,k) VX;simp only[TH]at h
    by_cases q:(k==NameKind.free&&env.scope.kind==.function&&env.kindOf n==oZ .cell)=true
    . rw[oV q]at h
      simp only[WN]at h;cases b:x==n with
      |true=>
        have:k = .free:=by simp only[UU]at q;exact eq_of_beq q.1.1
        subst this;rw[eq_of_beq b];exact VX
      |false=>rw[b]at h;exact UI _ (ih h)
    . rw[oW q]at h
      simp only[WN]at h;cases b:x==n with
      |true=>
        rw[b]at h;obtain h|h:=h
        . exact absurd (Option.some.inj h) hk
        . have:k = .free:=Option.some.inj h
          subst this;rw[eq_of_beq b];exact VX
      |false=>rw[b]at h;exact UI _ (ih h)
theorem vA{env:Env}:∀{names:List (Str×NameKind)}{x:Str},names.lookup x=oZ .free->
    ((names.map λ(n,k)=>if(k==NameKind.free&&env.scope.kind==.function&&env.kindOf n==oZ .cell)then(n,NameKind.cell)else(n,k)).lookup x=oZ .cell\/
     (names.map λ(n,k)=>if(k==NameKind.free&&env.scope.kind==.function&&env.kindOf n==oZ .cell)then(n,NameKind.cell)else(n,k)).lookup x=oZ .free)
  |[],_,h=>by simp at h
  |(n,k)::r,x,h=>by
    have ih:=@vA env r x;simp only[TH];simp only[WN]at h
    by_cases q:(k==NameKind.free&&env.scope.kind==.function&&env.kindOf n==oZ .cell)=true
    . rw[oV q]
      simp only[WN];cases b:x==n with
      |true=>exact .inl rfl
      |false=>rw[b]at h;exact ih h
    . rw[oW q]
      simp only[WN];cases b:x==n with
      |true=>rw[b]at h;exact .inr h
      |false=>rw[b]at h;exact ih h
def bV(X:Cx)(N':List Str)(scope:iq)(C:ck)(s3:oB)(H3:Hp)(fp:List ck):Cx:=
 { X with N:=N',s₀:=s3,H₀:=H3,env:=compEnvC scope (Cu scope X.env) C X.env,outer:=X.stack,stack:=X.stack,ex:=fp,fn:=λ_=>false,pn:=[],xe:=λ_ _=>False }
def iW(t:Nat)(cap:List Nat)(σ:St):St:=UY t none++cap.map λk=>(σ[k]?).join
def IH(J:It)(D:ck)(g:TG)(te:TE)(Q:VK)(σ:St)(H:Hp):Prop:=∃W:Nat->Nat->St->Hp->Prop,(∃m,W 0 m σ H)/\∀i m σ' H',W i m σ' H'->
 (J.stop i H'/\Q (.ref D) H')\/(J.go i H'/\∀x H2,J.yld i H' x H2->g x σ' H2 λσ3 H3=>te σ3 H3 λy H4=>∃ys,H4 D=oZ (.lst ys)/\ys.length<cw/\∃m',m'<m/\W (i+1) m' σ3 (upd H4 D (.lst (ys++[y]))))
def Bz(t:Nat)(cap:List Nat)(wi:TI)(g:TG)(te:TE):TE:=λσ H Q=>wi σ H λJ H1=>∀D,H1 D=none->IH J D g te Q (iW t cap σ) (upd H1 D (.lst []))
def CP(J:It)(D:ck)(g:TG)(tb:TT)(te:TE)(Q:VK)(σ:St)(H:Hp):Prop:=∃W:Nat->Nat->St->Hp->Prop,(∃m,W 0 m σ H)/\∀i m σ' H',W i m σ' H'->
 (J.stop i H'/\Q (.ref D) H')\/(J.go i H'/\∀x H2,J.yld i H' x H2->g x σ' H2 λσ3 H3=>tb σ3 H3 λok H3'=>if ok=true then te σ3 H3' λy H4=>∃ys,H4 D=oZ (.lst ys)/\ys.length<cw/\∃m',m'<m/\W (i+1) m' σ3 (upd H4 D (.lst (ys++[y])))else ∃m',m'<m/\W (i+1) m' σ3 H3')
def mN(t:Nat)(cap:List Nat)(wi:TI)(g:TG)(tb:TT)(te:TE):TE:=λσ H Q=>wi σ H λJ H1=>∀D,H1 D=none->CP J D g tb te Q (iW t cap σ) (upd H1 D (.lst []))
def IB(X:Cx)(ifs:List oC)(t:TT):Prop:=
 ∀(pins:List (ck×Obj))(s:oB)(σ:St)(H:Hp)(Q:Bool->Hp->Prop),aV X pins σ H s->t σ H Q->cq (df X.prog X.w) X.A (forIn ifs true λc r=>if r=true then do let ok <-isTrue c X.env (dw c X.env);pure (ForInStep.yield ok)else pure (ForInStep.yield r)) (TP X pins σ Q) X.xe s
theorem PT.one(h:PT X c t):IB X [c] t:=λ_ _ _ _ _ I z=>wpAny_tests_one (h _ _ _ _ _ I z)
structure bI(X:Cx)(N':List Str)(scope:iq)(t:Nat)(cap:List Nat):Prop where
 kind:scope.kind = .function
 cell:∀y∈scope.names,y.2≠.cell
 names:∀y∈scope.names,y.2 = .local->scope.names.lookup y.1=oZ .local
 free:∀y∈scope.names,y.2 = .free->(X.env.kindOf y.1=oZ .cell\/X.env.kindOf y.1=oZ .free)
 len:N'.length=t+cap.length
 caps:∀(j k:Nat),cap[j]?=oZ k->∃x,N'[t+j]?=oZ x/\X.N[k]?=oZ x/\scope.names.lookup x=oZ .free
theorem Lc(S:bI X N' scope t cap)(I3:aV X pins σ H3 s3)(hf:∀b∈fp,rA X pins H3 b)(hob:∀b∈fp,∃o,s3.heap.get? b=oZ o)(hns:h₁.Ns s3.heap.objs.size λ_=>none)(k:∀b o,s3.heap.get? b=oZ o->h₁.get? b=oZ o):
  aV (bV X N' scope s3.heap.objs.size s3 H3 fp) [] (iW t cap σ) H3 { s3 with heap:=h₁,toks:=tk }:=by
 have tv:∀{x:Str}{c:ck},(Cu scope X.env).lookup x=oZ c->X.env.cells.lookup x=oZ c:=λe=>Hs e;have yb:∀{c:ck}{v:Option oA},s3.heap.IsCell c v->h₁.IsCell c v:=λzZ=>by obtain⟨o,e,d⟩:=zZ;exact⟨o,k _ _ e,d⟩
 have aA8:∀{x:Str},scope.names.lookup x=oZ .free->(x,NameKind.free)∈scope.names:=λe=>PySem.mem_of_lookup e;refine⟨⟨I3.mod,S.kind,I3.ok.glob,I3.ok.blt,TN _,?_,?_,?_,I3.ok.hd,I3.ok.frames,.inl rfl,?_,I3.bs,VE I3.ok.bsz I3.sz,?_,?_,I3.stack,I3.stkFree⟩,
  rfl,I3.bare,Un.kept k,⟨_,hns,?_⟩,?_,?_,?_,?_,I3.hok.kept k,?_⟩
 ·intro x y c h1 h2;exact I3.ok.inj x y c (tv h1) (tv h2)
 ·intro x hx;have hm:(x,NameKind.free)∈scope.names:=sT S.cell hx;obtain⟨c,hc⟩:=I3.ok.has x (S.free _ hm rfl);exact⟨c,Hr hm hc⟩
 ·intro x c h;cases h
 ·intro b hb;obtain⟨o,ho⟩:=hob b hb;exact⟨UW (TZ ho),λx c e=>(hf b hb).2.2.2.2.1 x c (tv e)⟩
 ·intro b o e hb;rcases(hf b hb).2.2.2.1 with z|z
  ·exact I3.ok.noex b o e z
  ·exact absurd (UB (UB (TZ e) I3.ok.bsz) z) (Nat.lt_irrefl _)
 ·intro b hb hz;obtain z|z:=SU.mp (I3.stkSub b hz)
  ·exact(hf b hb).2.1 z
  ·exact(hf b hb).2.2.1 z
 ·intro i x v e1 e2 e3;have ht:t<=i:=by
   obtain q|q:=WR i t
   ·unfold iW at e2;rw[UE (by simpa using q),ax]at e2;split at e2<;>cases e2
   ·exact q
  obtain⟨j,rfl⟩:∃j,i=t+j:=⟨i-t,⋯⟩;unfold iW at e2;rw[VG (by simp),XU,Nat.add_sub_cancel_left,TR]at e2;cases q:cap[j]? with
  |none=>rw[q]at e2;cases e2
  |some m=>
   rw[q]at e2;have e2':(σ[m]?).join=oZ v:=Option.some.inj e2;have aFL:σ[m]?=oZ (oZ v):=by
    cases z:σ[m]? with
    |none=>rw[z]at e2';cases e2'
    |some w=>rw[z]at e2';have:w=oZ v:=e2';rw[this]
   obtain⟨x',c1,c2,c3⟩:=S.caps j m q;have ex:x'=x:=by
    have e1':N'[t+j]?=oZ x:=e1;rw[c1]at e1';exact Option.some.inj e1'
   subst ex;have hk:=S.free _ (aA8 c3) rfl;obtain⟨mm,hn,hl⟩:=I3.loc;obtain⟨u,r,L⟩:=hl m x' v c2 aFL (by obtain z|z:=hk;exact .inr (.inl z);exact .inr (.inr z));refine⟨u,r,?_⟩;obtain⟨z,_⟩|⟨_,c,hc,xv⟩:=L
   ·rcases hk with y|y<;>(have y':X.env.kindOf x'=_:=y;rw[z]at y';cases y')
   ·exact .inr ⟨vA c3,c,Hr (aA8 c3) hc,yb xv⟩
 ·intro x c e;obtain⟨v,z⟩:=I3.cell x c (tv e);exact⟨v,yb z⟩
 ·exact I3.hok.fresh (TN _)
 ·intro x c e;exact I3.freeC x c (tv e)
 ·intro p hp;exact absurd (show p∈([]:List (ck×Obj))from hp) (by simp)
 ·show(iW t cap σ).length=N'.length;unfold iW;rw[S.len,TC,XU,SV]
theorem Ai{QQ:oA->oB->Prop}(hc:X.calm=true)(S:bI X N' scope t cap)(hi:PI X target iter wi)(hg:∀C s3 H3 fp,PG (bV X N' scope C s3 H3 fp) target g)(hb:∀C s3 H3 fp,IB (bV X N' scope C s3 H3 fp) ifs tb)(he:∀C s3 H3 fp,PE (bV X N' scope C s3 H3 fp) elt te)(hs:∀x,dr iter X.env x=pure x)(I:aV X pins σ H s)(h:mN t cap wi g tb te σ H Q)(fin:∀(s3 s6:oB)(H3 H5:Hp)(fp:List ck)(D:ck)(m:Str->Option oA),aV X pins σ H3 s3->(∀b∈fp,(b∈X.ex\/X.s₀.heap.objs.size<=b)/\b≠X.env.locals/\(∀x c,X.env.cells.lookup x=oZ c->c≠b)/\∀p∈X.pn++pins,p.1≠b)->s6.heap.Ns s3.heap.objs.size m->Un (Pk X.stack) fp H3 H5 s3.heap s6.heap->pW X.prog X.w H5 s6.heap->H5 s3.heap.objs.size=none->s6.os=s3.os->jg s6.gens->Q (.ref D) H5->compPost (df X.prog X.w) X.A X.xe use QQ (.ref D) s3.heap.objs.size (.ok .next) s6):
  cq (df X.prog X.w) X.A (comprehension (.ListComp elt [⟨target,iter,ifs,0⟩] scope pos) scope X.env (firstIterPos [⟨target,iter,ifs,0⟩] pos) (newList []) (firstAsync [⟨target,iter,ifs,0⟩]) (firstIter [⟨target,iter,ifs,0⟩] X.env) use) QQ X.xe s:=by
 refine wpAny_comprehension_free (cl:=Cu scope X.env) rfl hs (zG λy hy hf=>I.ok.has y.1 (S.free y hy hf)) S.kind S.names (dZ (hi pins s σ H _ I h) λv s1 h1=>dZ h1 λitv s2 h2=>?_);obtain⟨it,fp,tn,J,H2,e,I2,T,st2,f2,h2⟩:=h2;subst e;refine fh (wpAny_newFunctionEnv S.cell (by intro y hy;simp at hy) (λh₁ hns₁ hsb₁=>?_) S.kind)
 dsimp only at hns₁ hsb₁⊢
 obtain⟨s3,hs3⟩:∃s3:oB,s3 = { s2 with heap:=s2.heap.push { cls:=.type "list",dict:=none,data:=.seq ([]:List oA).toArray } }:=⟨_,rfl⟩;have hD:H2 s2.heap.objs.size=none:=I2.hok.fresh (TN _);have I3:aV X pins σ (upd H2 s2.heap.objs.size (.lst [])) s3:=by
  rw[hs3];exact I2.laid (t':=s2.toks) (λb u e=>TJ _ e) (TN _) ⟨VZ _,[],0,.nil,UG _ rfl⟩
 have aJU:s3.heap.objs.size=s2.heap.objs.size+1:=by rw[hs3];exact XY ..
 have aC9:∀b o,s2.heap.get? b=oZ o->s3.heap.get? b=oZ o:=λb o e=>by rw[hs3];exact TJ _ e
 have hC:(s2.heap.push { cls:=.type "list",dict:=none,data:=.seq ([]:List oA).toArray }).objs.size=s3.heap.objs.size:=by rw[hs3]
 have f3:∀b∈fp,rA X pins (upd H2 s2.heap.objs.size (.lst [])) b:=λb hb=>by
  obtain⟨o,ho,_⟩:=T.obj _ _ st2 b hb;refine⟨?_,(f2 b hb).2⟩;rw[bD (UW (TZ ho))];exact(f2 b hb).1
 have ob3:∀b∈fp,∃o,s3.heap.get? b=oZ o:=λb hb=>by
  obtain⟨o,ho,_⟩:=T.obj _ _ st2 b hb;exact⟨o,aC9 b o ho⟩
 have k1:∀b o,s3.heap.get? b=oZ o->h₁.get? b=oZ o:=λb o e=>by
  refine hsb₁.extBut b o ?_ ?_
  ·rw[hC];exact UW (TZ e)
  ·rw[hs3]at e;exact TJ _ e
 have hns:h₁.Ns s3.heap.objs.size λ_=>none:=by
  rw[<-hC];exact hns₁
 have I4:=Lc (tk:=s2.toks+([]:List (Str×oA)).length) S I3 f3 ob3 hns k1;have st4:tn 0 h₁:=T.keep _ _ _ st2 λb hb o e=>k1 b o (aC9 b o e);obtain⟨W,⟨m0,w0⟩,turn⟩:=h2 _ hD
 -- the block's context
 obtain⟨X',um⟩:∃X':Cx,X'=bV X N' scope s3.heap.objs.size s3 (upd H2 s2.heap.objs.size (.lst [])) fp:=⟨_,rfl⟩;have hg':PG X' target g:=by rw[um];exact hg _ _ _ _
 have he':PE X' elt te:=by rw[um];exact he _ _ _ _
 have hb':IB X' ifs tb:=by rw[um];exact hb _ _ _ _
 have xc:∀{H':Hp},(∀b∈fp,H' b=none)->∀b∈fp,rA X' [] H' b:=λhn b hb=>by
  obtain⟨o,ho⟩:=ob3 b hb;rw[um];refine⟨hn b hb,UW (TZ ho),?_,.inl hb,λx c e=>(f3 b hb).2.2.2.2.1 x c (Hs e),λp hp=>absurd (show p∈([]:List (ck×Obj))from hp) (by simp)⟩;intro hz;obtain z|z:=SU.mp (I3.stkSub b hz)
  ·exact(f3 b hb).2.1 z
  ·exact(f3 b hb).2.2.1 z
 have aA9:X'.calm=true:=by rw[um];exact hc
 have loop:codeAny (df X.prog X.w) X.A (.compLoop (.ListComp elt [⟨target,iter,ifs,0⟩] scope pos) 0 (.ref it) (.ref s2.heap.objs.size) (compEnvC scope (Cu scope X.env) s3.heap.objs.size X.env))
   (compPost (df X.prog X.w) X.A X.xe use QQ (.ref s2.heap.objs.size) s3.heap.objs.size) { s3 with heap:=h₁,toks:=s2.toks+([]:List (Str×oA)).length }:=by
  refine pG (λn s'=>∃i σ' H',aV X' [] σ' H' s'/\tn i s'.heap/\(∀b∈fp,H' b=none)/\W i n σ' H') ?_ m0 ⟨0,iW t cap σ,_,by rw[um];exact I4,st4,λb hb=>(f3 b hb).1,w0⟩;rintro n s5 ⟨i,σ5,H5,I5,st5,fr5,w5⟩;obtain⟨stop,qn⟩|⟨go,step⟩:=turn i n σ5 H5 w5
  ·have q:=T.done X' (by rw[um];rfl) (by rw[um];rfl) (by rw[um];rfl) aA9 i [] s5 σ5 H5 (λ_ _=>False) I5 (xc fr5) st5 stop;have eA:X'.A=X.A:=by rw[um];rfl
   rw[eA]at q;refine dZ q λr s6 zZ=>?_;obtain⟨hr,I6⟩:=zZ;subst hr;obtain⟨m,hn,_⟩:=I6.loc;have hn':s6.heap.Ns s3.heap.objs.size m:=by rw[um]at hn;exact hn
   have yw:Un (Pk X.stack) fp (upd H2 s2.heap.objs.size (.lst [])) H5 s3.heap s6.heap:=by have:=I6.base;rw[um]at this;exact this
   have yx:pW X.prog X.w H5 s6.heap:=by have:=I6.hok;rw[um]at this;exact this
   have ve:H5 s3.heap.objs.size=none:=by have:=I6.free;rw[um]at this;exact this
   have os6:s6.os=s3.os:=by have:=I6.os;rw[um]at this;exact this
   exact fin _ _ _ _ _ _ _ I3 (λb hb=>⟨(f3 b hb).2.2.2.1,(f3 b hb).2.1,(f3 b hb).2.2.2.2.1,(f3 b hb).2.2.2.2.2⟩) hn' yw yx ve os6 I6.bare qn
  ·have q:=T.item X' (by rw[um];rfl) (by rw[um];rfl) (by rw[um];rfl) aA9 i [] s5 σ5 H5 (λ_ _=>False) I5 (xc fr5) st5 go;have eA:X'.A=X.A:=by rw[um];rfl
   have eP:X'.prog=X.prog:=by rw[um];rfl
   have eW:X'.w=X.w:=by rw[um];rfl
   have eE:X'.env=compEnvC scope (Cu scope X.env) s3.heap.objs.size X.env:=by rw[um];rfl
   have eX:X'.xe=λ_ _=>False:=by rw[um];rfl
   rw[eA]at q;refine dZ q λr s6 zZ=>?_;obtain⟨u,hr,h6⟩:=zZ;subst hr;refine dZ h6 λ_ s7 zZ=>?_;obtain⟨x,H7,I7,r7,y7,st7,fr7⟩:=zZ;have I7':=I7.pinned (xc fr7) (T.obj _ _ st7);have q8:=hg' _ s7 σ5 H7 x u _ I7' r7 (step x H7 y7);rw[eA,eP,eW,eE,eX]at q8;refine dZ q8 λ_ s8 zZ=>?_;obtain⟨σ8,H8,I8,w8⟩:=zZ;have q8b:=hb' _ s8 σ8 H8 _ I8 w8;rw[eA,eP,eW,eE,eX]at q8b;refine dZ q8b λok s8 zZ=>?_;obtain⟨H8,I8,w8⟩:=zZ;cases ok with
   |false=>
    obtain⟨m',hm,w9⟩:=w8;refine⟨m',hm,i+1,σ8,_,I8.unpinned,T.keep _ _ _ st7 λb hb o e=>(I8.pin (b,o) (TK _ (TK _ (i6 hb e)))).1,λb hb=>?_,w9⟩;obtain⟨o,e,d⟩:=T.obj _ _ st7 b hb;exact(I8.pin (b,o) (TK _ (TK _ (i6 hb e)))).2.1
   |true=>
    have q9:=he' _ s8 σ8 H8 _ I8 w8;rw[eA,eP,eW,eE,eX]at q9;refine dZ q9 λy s9 zZ=>?_;obtain⟨v9,H9,I9,r9,ys,hD9,pj,m',hm,w9⟩:=zZ;have q10:=Bi (X:=X') _ s9 σ8 H9 (.ref s2.heap.objs.size) [v9] (.ref s2.heap.objs.size) [y] (λ_ H10=>H10=upd H9 s2.heap.objs.size (.lst (ys++[v9]))) I9 rfl (.cons r9 .nil) ⟨_,ys,v9,rfl,rfl,hD9,pj,rfl⟩;rw[eA,eP,eW,eX]at q10;refine dZ q10 λ_ s10 zZ=>?_;obtain⟨v10,H10,I10,r10,e10⟩:=zZ;subst e10;refine⟨m',hm,i+1,σ8,_,I10.unpinned,T.keep _ _ _ st7 λb hb o e=>(I10.pin (b,o) (TK _ (TK _ (i6 hb e)))).1,λb hb=>?_,w9⟩;obtain⟨o,e,d⟩:=T.obj _ _ st7 b hb;exact(I10.pin (b,o) (TK _ (TK _ (i6 hb e)))).2.1
 have es:({ s2 with heap:=h₁,toks:=s2.toks+([]:List (Str×oA)).length }:oB) = { s3 with heap:=h₁,toks:=s2.toks+([]:List (Str×oA)).length }:=by rw[hs3]
 rw[es,hC];exact codeAny_compStart_list loop (T.self _ 0 _ _ _ st4 loop)
theorem xX(hc:X.calm=true)(S:bI X N' scope t cap)(hi:PI X target iter wi)(hg:∀C s3 H3 fp,PG (bV X N' scope C s3 H3 fp) target g)(hb:∀C s3 H3 fp,IB (bV X N' scope C s3 H3 fp) ifs tb)(he:∀C s3 H3 fp,PE (bV X N' scope C s3 H3 fp) elt te)(hs:∀x,dr iter X.env x=pure x:=by intro _;rfl):
  PE X (.ListComp elt [⟨target,iter,ifs,0⟩] scope pos) (mN t cap wi g tb te):=by
 intro pins s σ H Q I h;rw[eval_ListComp];refine Ai hc S hi hg hb he hs I h λs3 s6 H3 H5 fp D m I3 f3 hn' yw yx ve os6 ba qn=>⟨m,hn',λh' yo=>?_⟩;have kp:∀b o,b≠s3.heap.objs.size->s6.heap.get? b=oZ o->h'.get? b=oZ o:=λb o hb e=>yo.extBut b o hb e;have neC:∀{b:ck}{o:Obj},s3.heap.get? b=oZ o->b≠s3.heap.objs.size:=λe=>UW (TZ e);have un7:Un (Pk X.stack) fp (H3) H5 s3.heap h':=
  ⟨λb o e n1 n2 n3=>kp b o (neC e) (yw.keep b o e n1 n2 n3),λb o e n1 n2 n3=>by obtain⟨sl,z⟩:=yw.slot b o e n1 n2 n3;exact⟨sl,kp b _ (neC e) z⟩,yw.free,
   λb o e n3=>by obtain⟨o',z⟩:=yw.there b o e n3;exact⟨o',kp b _ (neC e) z⟩,yw.tups,yw.frzs,yw.tbls⟩
 have aFN:pW X.prog X.w H5 h':=λb ob e=>by
  refine(yx b ob e).stay (λc w' vi q=>kp c w' ?_ q) (λ_ q=>q) λ_ _ q=>q;rintro rfl;obtain rfl|vi:=vi
  ·rw[ve]at e;cases e
  ·rw[ve]at vi;cases vi
 exact⟨.ref D,H5,I3.call' (s':={ s6 with heap:=h' }) (ch:=fp) os6 un7 aFN ba f3,rfl,qn⟩
theorem T4(hc:X.calm=true)(S:bI X N' scope t cap)(hi:PI X target iter wi)(hg:∀C s3 H3 fp,PG (bV X N' scope C s3 H3 fp) target g)(he:∀C s3 H3 fp,PE (bV X N' scope C s3 H3 fp) elt te)(hs:∀x,dr iter X.env x=pure x:=by intro _;rfl):
  PE X (.ListComp elt [⟨target,iter,[],0⟩] scope pos) (Bz t cap wi g te):=λpins s σ H Q I h=>xX (tb:=λ_ H Q=>Q true H) hc S hi hg (λ_ _ _ _ _ _ _ _ _ I z=>wpAny_tests_nil ⟨_,I,z⟩) he hs pins s σ H Q I h
def BN(i j k:Nat)(ta:TA):TS:=λD σ H=>ta σ H λvs H1=>∃v w z,vs=[v,w,z]/\D.nx (((σ.set i (oZ v)).set j (oZ w)).set k (oZ z)) H1
theorem U8{kt k2 pt2}(hc:X.calm=true)(hN:X.N.Nodup)(hi:X.N[i]?=oZ x)(hj:X.N[j]?=oZ y)(hk:X.N[k]?=oZ z)(xw:i≠j)(hik:i≠k)(yh:j≠k)(hx:X.env.scope.names.lookup x=oZ .local)(hy:X.env.scope.names.lookup y=oZ .local)(hz:X.env.scope.names.lookup z=oZ .local)(ha:PA X [a,b,c] ta)(hw:fw [.Tuple [.Name x px,.Name y py,.Name z pz] kt pt] (.Tuple [a,b,c] k2 pt2) X.env=pure (oZ [x,y,z]))(hs:fu [.Tuple [.Name x px,.Name y py,.Name z pz] kt pt] (.Tuple [a,b,c] k2 pt2) pos.line X.env=pure false:=by rfl):
  PS X (.Assign [.Tuple [.Name x px,.Name y py,.Name z pz] kt pt] (.Tuple [a,b,c] k2 pt2) pos) (BN i j k ta):=by
 intro pins s σ H D I h;rw[exec_Assign_arm];refine cm (ja ?_);rw[hs];refine cm (cn ?_);rw[oW ∅];refine cm (Tuple_ (dZ (ha _ pins s σ H _ I h) λus s1 zZ=>?_));obtain⟨vs,H1,I1,r1,q1⟩:=zZ;obtain⟨v,w,zz,e1,q1⟩:=q1;subst e1;obtain⟨u1,u2,u3,rfl,rv,yg,rz⟩:∃u1 u2 u3,us=[u1,u2,u3]/\bP v u1/\bP w u2/\bP zz u3:=by
  cases r1 with
  |cons p q=>
   cases q with
   |cons p' q'=>
    cases q' with
    |cons p'' q''=>
     cases q'';exact⟨_,_,_,rfl,p,p',p''⟩
 refine fh ?_ (by show 3<=cw;decide);have I2:aV X pins σ H1 { s1 with heap:=s1.heap.push { cls:=.type "tuple",data:=.seq [u1,u2,u3].toArray } }:=I1.kept (t':=s1.toks) λb o e=>TJ _ e;rw[hw];refine cm (cn ?_);show cq (df X.prog X.w) X.A (do rule "assign.swapped-stores";let items <-unpackItems (.ref s1.heap.objs.size) 3 none;iy [λv=>ir X.env z v,λv=>ir X.env y v,λv=>ir X.env x v] items.reverse;pure Flow.next) _ _ _;refine cm (jh (cm (unpackItems_tuple (items:=#[u1,u2,u3]) (I.ok.hd hc) (IsTup.new s1.heap _) λh' hx'=>?_)));have I3:=I2.kept (h':=h') (t':=s1.toks) λb o e=>hx' b o (UW (TZ e)) e;show cq _ _ (iy [λv=>ir X.env z v,λv=>ir X.env y v,λv=>ir X.env x v] [u3,u2,u1] >>= λ_=>pure Flow.next) _ _ _;refine cm (gv (ji (kJ I3 hN hk (.inl hz) rz (λs2 I4=>?_) (.inr hz))));refine gv (ji (kJ I4 hN hj (.inl hy) yg (λs3 I5=>?_) (.inr hy)));refine gv (ji (kJ I5 hN hi (.inl hx) rv (λs4 I6=>jw (cn ?_)) (.inr hx)));rw[YB _ _ (Ne.symm xw),YB _ _ (Ne.symm hik),YB _ _ (Ne.symm yh)]at I6;exact⟨_,H1,I6,q1⟩
structure Fn(P:da)(w:dk)(K:W.Frag)(mg:Str->Option oA)(base:oE)(k:Nat)(x:Str)(ps:List Str)(sp:Sp):Prop where
 ex:∃f fd,bG P w K mg base fJ k f fd ps sp/\mg x=oZ (.ref f)/\W.keepIn K (.ref f)=true/\mP K fd ps []
theorem KJ(F:Fn X.prog X.w X.K X.mg X.base k x ps sp)(hr:fF j X.A)(hk:k<=j)(hg:Gl X x)(ha:PA X (e::es) t)(ud:(x==("__debug__":Str))=false:=by decide)(he:du (e::es) X.env=(false,dw e X.env)::du es X.env:=by rfl)(hpl:(iw pos (du es X.env)).any (·.1)=false:=by rfl):PE X (.Call (.Name x p) (e::es) [] pos) (Kc sp [] E0 t):=by
 obtain⟨f,fd,F,hm,hkp,hb⟩:=F.ex;exact T2 F (hr.mono hk) hg hm hkp hb .nil KH ha ud he hpl
def bO:oC->Bool
 |.Starred _ _=>true
 |_=>false
theorem cD(h:bO e=false):du (e::es) env=(false,dw e env)::du es env:=by
 cases e<;>first|rfl|(simp[bO]at h)
def bW:List oC->Bool
 |[]=>true
 |e::es=>!bO e&&bW es
theorem fO:∀{es:List oC},bW es=true->(iw pos (du es env)).any (·.1)=false
 |[],_=>rfl
 |e::es,h=>by
  have h1:bO e=false:=by simp only[bW,UU,XR]at h;exact h.1
  have h2:bW es=true:=by simp only[bW,UU]at h;exact h.2
  have ih:=fO (pos:=pos) (env:=env) h2;rw[cD h1];simp only[iw,TH,YS,Bool.false_or]at ih⊢;exact ih
theorem pc(ha:PE X e te)(hr:PA X es t)(hs:bO e=false:=by rfl):PA X (e::es) (G4 te t):=T1 ha hr (cD hs)
theorem EZ(F:Fn X.prog X.w X.K X.mg X.base k x ps sp)(hr:fF j X.A)(hk:k<=j)(hg:Gl X x)(ha:PA X (e::es) t)(ud:(x==("__debug__":Str))=false:=by decide)(hs:bW (e::es)=true:=by rfl):PE X (.Call (.Name x p) (e::es) [] pos) (Kc sp [] E0 t):=
 KJ F hr hk hg ha ud (cD (by simp only[bW,UU,XR]at hs;exact hs.1)) (fO (by simp only[bW,UU]at hs;exact hs.2))
theorem Uo{X:Cx}{pos:Pos}{e:oC}{es:List oC}{t:TA}{x:Str}{p:Pos}{id:String}{r:List V->Hp->VK->Prop}(hc:j0 X (.builtin id) r)(hg:Gl X x)(hm:X.mg x=none)(hv:gr x=oZ (.builtin id))(ha:PA X (e::es) t)(hn:x≠"__name__":=by decide)(ud:(x==("__debug__":Str))=false:=by decide)(hs:bW (e::es)=true:=by rfl):PE X (.Call (.Name x p) (e::es) [] pos) (HW r t):=
 Zp hc hg hm hv ha hn ud (cD (by simp only[bW,UU,XR]at hs;exact hs.1)) (fO (by simp only[bW,UU]at hs;exact hs.2))
theorem Mk{r:List V->Hp->VK->Prop}(hc:j0 X (.type T) r)(hg:Gl X x)(hm:X.mg x=none)(hv:gr x=oZ (.type T))(ha:PA X (e::es) t)(hn:x≠"__name__":=by decide)(ud:(x==("__debug__":Str))=false:=by decide)(hs:bW (e::es)=true:=by rfl):PE X (.Call (.Name x p) (e::es) [] pos) (HW r t):=
 Up hc hg hm hv ha hn ud (cD (by simp only[bW,UU,XR]at hs;exact hs.1)) (fO (by simp only[bW,UU]at hs;exact hs.2))
structure QE(X:Cx)(e:oC)(t:TE):Prop where
 h:PE X e t
structure QT(X:Cx)(e:oC)(t:TT):Prop where
 h:PT X e t
structure QW(X:Cx)(e:oC)(t:TT):Prop where
 h:PW X e t
structure QA(X:Cx)(es:List oC)(t:TA):Prop where
 h:PA X es t
structure QS(X:Cx)(st:dh)(t:TS):Prop where
 h:PS X st t
structure QB(X:Cx)(st:List dh)(t:TS):Prop where
 h:Oc X st t
structure QG(X:Cx)(e:oC)(t:TG):Prop where
 h:PG X e t
structure Km(X:Cx)(es:List oC)(t:M3):Prop where
 h:HS X es t
structure QI(X:Cx)(tg e:oC)(t:TI):Prop where
 h:PI X tg e t
structure QO(X:Cx)(e:Option oC)(t:TO):Prop where
 h:PO X e t
def Ol(sc scope:iq)(N N':List Str)(t:Nat)(cap:List Nat):Bool:=
 decide (scope.kind = .function)&&scope.names.all (λy=>decide (y.2≠.cell))&&scope.names.all (λy=>decide (y.2 = .local->scope.names.lookup y.1=oZ .local)) &&
 scope.names.all (λy=>decide (y.2 = .free->(sc.names.lookup y.1=oZ .cell\/sc.names.lookup y.1=oZ .free)))&&decide (N'.length=t+cap.length) &&
 (VF cap.length).all (λj=>match cap[j]?,N'[t+j]? with|some k,oZ x=>decide (N[k]?=oZ x/\scope.names.lookup x=oZ .free)|_,_=>false)
theorem bI.of(h:Ol X.env.scope scope X.N N' t cap=true):bI X N' scope t cap:=by
 simp only[Ol,UU,VS,decide_eq_true_eq]at h;obtain⟨⟨⟨⟨⟨h1,h2⟩,h3⟩,h4⟩,h5⟩,h6⟩:=h;refine⟨h1,h2,h3,h4,h5,λj k e=>?_⟩;have hj:j<cap.length:=(SW.mp e).1;have h:=h6 j (VL.mpr hj);rw[e]at h;cases q:N'[t+j]? with
 |none=>rw[q]at h;cases h
 |some x=>
  rw[q]at h;have h':=of_decide_eq_true h;exact⟨x,rfl,h'.1,h'.2⟩
theorem GF:QB X [] BK:=⟨U9⟩
theorem sQ{X:Cx}{t:TS}{u:TS}{st:dh}{uy:List dh}(h1:QS X st t)(h2:QB X uy u):QB X (st::uy) (MR t u):=⟨Zz h1.h h2.h⟩
theorem Mn{X:Cx}{t:TS}{st:dh}(h1:QS X st t):QB X [st] t:=⟨V1 h1.h⟩
theorem C5(h:QE X e te):QS X (.Return (oZ e) pos) (MP te):=⟨FX h.h⟩
theorem LF(hc:QT X c tc)(ha:QB X b1 t)(hb:QB X b2 u):QS X (.If c b1 b2 pos) (MG tc t u):=⟨KU hc.h ha.h hb.h⟩
theorem C6(hp:PassesOwn (df X.prog X.w) X.A X.env X.xe)(hc:QT X c tc)(hb:QB X body tbd):QS X (.While c body [] pos) (J3 tc tbd):=⟨Zy hp hc.h hb.h⟩
theorem Mr(hp:PassesOwn (df X.prog X.w) X.A X.env X.xe)(hc:X.calm=true)(hi:QI X tg iter wi)(hg:QG X tg g)(hb:QB X body tbd)(hs:∀x,dr iter X.env x=pure x:=by intro _;rfl):
  QS X (.For tg iter body [] pos) (MF wi g tbd):=⟨FV hp hc hi.h hg.h hb.h hs⟩
theorem Qu(he:QE X e te)(hs:fo e none pos.line X.env=pure false:=by rfl):QS X (.Expr e pos) (BG te):=⟨U7 he.h hs⟩
theorem Er(hN:X.N.Nodup)(hi:X.N[i]?=oZ x)(hx:y8 X.env.scope x)(he:QE X e te)(hs:fo e (oZ (.Name x pos')) pos.line X.env=pure false:=by rfl)(hf:X.fn x=true\/X.env.scope.names.lookup x=oZ .local:=by first|exact .inl rfl|exact .inr rfl|assumption):QS X (.Assign [.Name x pos'] e pos) (Vd te (Ay i)):=⟨FY hN hi hx he.h hs hf⟩
theorem C4(he:QE X e te)(hg:QG X tg g)(hs:fu [tg] e pos.line X.env=pure false:=by rfl)(hw:fw [tg] e X.env=pure none:=by rfl)(h1:(dq [tg] X.env).map (·.2)=[ic tg X.env]:=by rfl):QS X (.Assign [tg] e pos) (Vd te g):=⟨FU he.h hg.h hs hw h1⟩
theorem GL{kt k2 pt2}(hc:X.calm=true)(hN:X.N.Nodup)(hi:X.N[i]?=oZ x)(hj:X.N[j]?=oZ y)(xw:i≠j)(hx:X.env.scope.names.lookup x=oZ .local)(hy:X.env.scope.names.lookup y=oZ .local)(ha:QA X [a,b] tr)(hw:fw [.Tuple [.Name x px,.Name y py] kt pt] (.Tuple [a,b] k2 pt2) X.env=pure (oZ [x,y]))(hs:fu [.Tuple [.Name x px,.Name y py] kt pt] (.Tuple [a,b] k2 pt2) pos.line X.env=pure false:=by rfl):
  QS X (.Assign [.Tuple [.Name x px,.Name y py] kt pt] (.Tuple [a,b] k2 pt2) pos) (MO i j tr):=⟨FW hc hN hi hj xw hx hy ha.h hw hs⟩
theorem W2{kt k2 pt2}(hc:X.calm=true)(hN:X.N.Nodup)(hi:X.N[i]?=oZ x)(hj:X.N[j]?=oZ y)(hk:X.N[k]?=oZ z)(xw:i≠j)(hik:i≠k)(yh:j≠k)(hx:X.env.scope.names.lookup x=oZ .local)(hy:X.env.scope.names.lookup y=oZ .local)(hz:X.env.scope.names.lookup z=oZ .local)(ha:QA X [a,b,c] tr)(hw:fw [.Tuple [.Name x px,.Name y py,.Name z pz] kt pt] (.Tuple [a,b,c] k2 pt2) X.env=pure (oZ [x,y,z]))(hs:fu [.Tuple [.Name x px,.Name y py,.Name z pz] kt pt] (.Tuple [a,b,c] k2 pt2) pos.line X.env=pure false:=by rfl):
  QS X (.Assign [.Tuple [.Name x px,.Name y py,.Name z pz] kt pt] (.Tuple [a,b,c] k2 pt2) pos) (BN i j k tr):=⟨U8 hc hN hi hj hk xw hik yh hx hy hz ha.h hw hs⟩
theorem sR(hN:X.N.Nodup)(hi:X.N[i]?=oZ x)(hx:y8 X.env.scope x)(hf:X.fn x=true\/X.env.scope.names.lookup x=oZ .local:=by first|exact .inl rfl|exact .inr rfl|assumption):QG X (.Name x pos) (Ay i):=⟨T8 hN hi hx hf⟩
theorem Ep:Km X [] JG:=⟨U1⟩
theorem sS(h1:QG X e g)(h2:Km X es gs)(hs:(dq (e::es) X.env).map (·.2)=ic e X.env::(dq es X.env).map (·.2):=by rfl):Km X (e::es) (Z8 g gs):=⟨Zu h1.h h2.h hs⟩
theorem Mq(hc:X.calm=true)(h:Km X es gs)(hn:(dq es X.env).length=n:=by rfl)(xb:(dq es X.env).findIdx? (·.1)=none:=by rfl):QG X (.Tuple es k pos) (JI X.K n gs):=⟨FP hc h.h hn xb⟩
theorem GJ(ho:QE X o to)(hi:QE X i ti)(hs:CF X ts)(ha:∀v,ic (.Subscript o i pos) X.env v=(do
   let ov <-ig [v] (dw o X.env)
   let iv <-ig [v,ov] (dw i X.env)
   standAt pos
   ig [v,ov,iv] (setItem ov iv v)
   release [v,ov,iv] []):=by intro _;rfl):QG X (.Subscript o i pos) (JH to ti ts):=⟨FN ho.h hi.h hs ha⟩
theorem Ut(hg:Gl X "range")(hm:X.mg "range" = none)(ha:QA X [a] tr)(hs:bO a=false:=by rfl):QI X tg (.Call (.Name "range" p) [a] [] pos) (AH tr):=⟨Uq hg hm ha.h (cD hs)⟩
theorem V7{x1}(hg:Gl X "enumerate")(hm:X.mg "enumerate" = none)(ha:QA X [a] tr)(hs:bO a=false:=by rfl):QI X (.Tuple elts x1 vm) (.Call (.Name "enumerate" p) [a] [] pos) (AE X.K tr):=⟨U2 hg hm ha.h (cD hs)⟩
theorem Qt(hl:QE X l tl):QI X tg l (AG X.K tl):=⟨U3 hl.h⟩
theorem GK(hl:QE X l tl):QI X tg l (JO X.K tl):=⟨FR hl.h⟩
theorem Mm:QA X [] MM:=⟨EY⟩
theorem qc(ha:QE X e te)(hr:QA X es tr)(hs:bO e=false:=by rfl):QA X (e::es) (G4 te tr):=⟨pc ha.h hr.h hs⟩
theorem GG{i j pos}:QE X (.Constant (.int i) j pos) (tC (.int i)):=⟨FD⟩
theorem KY{b j pos}:QE X (.Constant (.bool b) j pos) (tC (.bl b)):=⟨KI⟩
theorem Mp{j pos}:QE X (.Constant .none j pos) (tC .non):=⟨FH⟩
theorem GI{x j pos}:QE X (.Constant (.str x) j pos) (tC (.str x)):=⟨FK⟩
theorem qv(i:Nat)(hN:X.N[i]?=oZ x:=by rfl)(hv:CI X.env.scope x:=by first|exact WE rfl|exact WZ (WE rfl)|exact WZ (WZ rfl))(hd:(x==("__debug__":Str))=false:=by decide)(vj:(x==("__classdict__":Str))=false:=by decide):QE X (.Name x pos) (MT i):=⟨Zt hN hv hd vj⟩
theorem Qs(ho:oQ X (gf op) r)(ha:QE X a ta)(hb:QE X b tb):QE X (.BinOp a op b pos) (G9 r ta tb):=⟨KO ho ha.h hb.h⟩
theorem LA{r:V->Hp->VK->Prop}(ho:NL X (unaryOp op) r)(ha:QE X a ta):QE X (.UnaryOp op a pos) (RL r ta):=⟨KQ ho ha.h⟩
theorem V5(ho:oQ X (fi op) r)(ha:QE X a ta)(hb:QE X b tb)(hm:eh op b=false):QE X (.Compare a [op] [b] pos) (G9 r ta tb):=⟨T3 ho ha.h hb.h hm⟩
theorem KZ(ha:QE X a ta)(hb:QE X (.BoolOp .Or (b::rest) pos) tb):QE X (.BoolOp .Or (a::b::rest) pos) (MN ta tb):=⟨KP ha.h hb.h⟩
theorem GH{op}(h:QE X a ta):QE X (.BoolOp op [a] pos) ta:=⟨FJ h.h⟩
theorem C2(hc:QT X c tA)(ha:QE X a ta)(hb:QE X b tb):QE X (.IfExp c a b pos) (RI tA ta tb):=⟨Zr hc.h ha.h hb.h⟩
theorem C3{x1}(h:QA X es tr):QE X (.Tuple es x1 pos) (MS tr):=⟨FL h.h⟩
theorem Mo(h:QA X es tr):QE X (.List es pos) (MJ tr):=⟨FF h.h⟩
theorem AW(hr:K9 X r)(ha:QE X a ta)(hb:QE X b tb)(hs:rL b):QE X (.Subscript a b pos) (G9 r ta tb):=⟨KN hr ha.h hb.h hs⟩
theorem V8{X:Cx}:QO X none Rx:=⟨U5⟩
theorem V9(h:QE X e te):QO X (oZ e) (BO te):=⟨U6 h.h⟩
theorem x9{r:V->Option Int->Option Int->Hp->VK->Prop}{lo hi:Option oC}(hr:IC X r)(he:QE X e te)(hl:QO X lo tlo)(hu:QO X hi thi):QE X (.Subscript e (.Slice lo hi none p2) pos) (RK r te tlo thi):=⟨Zs hr he.h hl.h hu.h⟩
theorem C1(F:Fn X.prog X.w X.K X.mg X.base k x ps sp)(hr:fF j X.A)(hk:k<=j)(hg:Gl X x)(ha:QA X (e::es) tr)(ud:(x==("__debug__":Str))=false:=by decide)(hs:bW (e::es)=true:=by rfl):QE X (.Call (.Name x p) (e::es) [] pos) (Kc sp [] E0 tr):=⟨EZ F hr hk hg ha.h ud hs⟩
theorem i9{X:Cx}{pos:Pos}{e:oC}{es:List oC}{tr:TA}{x:Str}{p:Pos}{id:String}{r:List V->Hp->VK->Prop}(hc:j0 X (.builtin id) r)(hg:Gl X x)(hm:X.mg x=none)(hv:gr x=oZ (.builtin id))(ha:QA X (e::es) tr)(hn:x≠"__name__":=by decide)(ud:(x==("__debug__":Str))=false:=by decide)(hs:bW (e::es)=true:=by rfl):QE X (.Call (.Name x p) (e::es) [] pos) (HW r tr):=⟨Uo hc hg hm hv ha.h hn ud hs⟩
theorem qH{r:List V->Hp->VK->Prop}(hc:j0 X (.type T) r)(hg:Gl X x)(hm:X.mg x=none)(hv:gr x=oZ (.type T))(ha:QA X (e::es) tr)(hn:x≠"__name__":=by decide)(ud:(x==("__debug__":Str))=false:=by decide)(hs:bW (e::es)=true:=by rfl):QE X (.Call (.Name x p) (e::es) [] pos) (HW r tr):=⟨Mk hc hg hm hv ha.h hn ud hs⟩
theorem V6(hc:X.calm=true)(S:bI X N' scope t cap)(hi:QI X target iter wi)(hg:∀C s3 H3 fp,QG (bV X N' scope C s3 H3 fp) target g)(he:∀C s3 H3 fp,QE (bV X N' scope C s3 H3 fp) elt te)(hs:∀x,dr iter X.env x=pure x:=by intro _;rfl):
  QE X (.ListComp elt [⟨target,iter,[],0⟩] scope pos) (Bz t cap wi g te):=⟨T4 hc S hi.h (λC s3 H3 fp=>(hg C s3 H3 fp).h) (λC s3 H3 fp=>(he C s3 H3 fp).h) hs⟩
theorem Es(ho:oQ X (fi op) r)(ha:QE X a ta)(hb:QE X b tb)(hm:eh op b=false):QT X (.Compare a [op] [b] pos) (BV (G9 r ta tb)):=⟨V3 ho ha.h hb.h hm⟩
theorem GN(h:QE X e te)(he:∀whole,isTrue e X.env whole=(do let v <-whole;standAt e.pos;ig [v] (truthy v)):=by intro _;rfl):QT X e (tB te):=⟨FZ h.h he⟩
theorem W3(ha:QT X a tA):QW X (.BoolOp .And [a] pos) tA:=⟨V4 ha.h⟩
theorem GP(ha:QT X a tA):QW X (.BoolOp .Or [a] pos) tA:=⟨GC ha.h⟩
theorem GO(ha:QT X a tA)(hb:QW X (.BoolOp .And (b::rest) pos) tB'):QW X (.BoolOp .And (a::b::rest) pos) (MB tA tB'):=⟨GA ha.h hb.h⟩
theorem LG(ha:QT X a tA)(hb:QW X (.BoolOp .Or (b::rest) pos) tB'):QW X (.BoolOp .Or (a::b::rest) pos) (RJ tA tB'):=⟨KW ha.h hb.h⟩
theorem QC(h:QW X e tA):QT X e tA:=⟨h.h.pt⟩
theorem eO.okQ{P:da}{w:dk}{K:W.Frag}{mg:Str->Option oA}{base:oE}{x qual:Str}{st:dh}{f:ck}{fd:fe}{N ps:List Str}{k:Nat}{sp:Sp}(F:eO K x qual st f fd)(S:aI N ps (aC st))(len:∀vs H Q E,sp vs H Q E->vs.length=ps.length)(wo:∀(oq:oA)(A:oD)(outer:List Env)(s:oB)(H:Hp)(vs:List V)(Q:VK)(E:XK),fF k (A.deeper (je qual (aC st) s.heap.objs.size f oq))->sp vs H Q E->
   ∃t,QB (De fJ P w K mg base N qual (aC st) f oq A outer s H E).nox (d8 st) t/\t { nx:=λ_ H'=>Q .non H',rt:=Q } (n8 N vs) H):(~~~bG) fJ (k+1) f fd ps sp:=
 F.ok S len λoq A outer s H vs Q E hr h=>let⟨t,h1,h2⟩:=wo oq A outer s H vs Q E hr h;⟨t,h1.h,h2⟩
theorem Gu{E:oA->oB->Prop}{Q:oA->oB->Prop}(gi:s.heap.IsTupleIter it t k)(gt:s.heap.IsTuple t items)(gx:items[k]?=oZ x)(gq:∀h',h'.IsTupleIter it t (k+1)->XC it s.heap h'->Q x { s with heap:=h' }):cq (df prog w) A (Builtin.SmallTypes.nextOf (.ref it)) Q E s:=by
 obtain⟨ob,eo,ec,ed⟩:=id gi;obtain⟨ot,et,_,nt,edt⟩:=gt;unfold Builtin.SmallTypes.nextOf;refine cm (wpAny_callSpecial?_slot (name:=XW "__next__") gi.typeIs F.slot_tuple_iterator_next (iu F.slot_tuple_iterator_next gi.typeIs F.entry_tuple_iterator_next ?_ (F.args_tuple_iterator_next_1 _)));show cq _ _ (field (.ref it) 0 >>= _) _ _ _;refine cm (gc eo ed (x:=.ref t) rfl ?_);show cq _ _ (if(VU t==YK)=true then _ else _) _ _ _;rw[oW (λhq:(VU t==YK)=true=>XJ hq)];show cq _ _ (field (.ref it) 1 >>= _) _ _ _;refine cm (gc eo ed (x:=.int k 0) rfl ?_);show cq _ _ (seqItems? (.ref t) >>= _) _ _ _;refine cm (jl et edt ?_);simp only[VP,gx];refine cm (wpAny_setField eo ed (by simp) (cn ⟨x,rfl,cn (gq _ ?_ (Heap.SameBut.update ..))⟩));exact⟨_,XX _ eo (Obj.isFreed_of_fields (Obj.data_mapFields ed _)),(Obj.cls_mapFields ..).trans ec,by rw[Obj.data_mapFields ed];simp[rawInt]⟩
theorem Kg{E:oA->oB->Prop}{Q:oA->oB->Prop}(gh:A.handled=none)(gi:s.heap.IsTupleIter it t k)(gt:s.heap.IsTuple t items)(gx:items[k]?=none)(ge:∀h' e,bo it s.heap h'->(∃o,h'.get? e=oZ o/\o.cls = .type "StopIteration")->E (.ref e) { s with heap:=h' }):cq (df prog w) A (Builtin.SmallTypes.nextOf (.ref it)) Q E s:=by
 obtain⟨ob,eo,ec,ed⟩:=id gi;obtain⟨ot,et,_,nt,edt⟩:=gt;unfold Builtin.SmallTypes.nextOf;refine cm (wpAny_callSpecial?_slot (name:=XW "__next__") gi.typeIs F.slot_tuple_iterator_next (iu F.slot_tuple_iterator_next gi.typeIs F.entry_tuple_iterator_next ?_ (F.args_tuple_iterator_next_1 _)));show cq _ _ (field (.ref it) 0 >>= _) _ _ _;refine cm (gc eo ed (x:=.ref t) rfl ?_);show cq _ _ (if(VU t==YK)=true then _ else _) _ _ _;rw[oW (λhq:(VU t==YK)=true=>XJ hq)];show cq _ _ (field (.ref it) 1 >>= _) _ _ _;refine cm (gc eo ed (x:=.int k 0) rfl ?_);show cq _ _ (seqItems? (.ref t) >>= _) _ _ _;refine cm (jl et edt ?_);simp only[VP,gx];refine cm (jh (cm (wpAny_setField eo ed (by simp) ?_)));show cq _ _ (newExc (.type "StopIteration") [] >>= _) _ _ _;refine cm ?_;simp only[newExc,newTuple];refine cm (fh ?_ (by size_fits));refine cm (m:=firstArgMember _ _) (wpAny_of_eq (a:=YK) (by first|rfl|(simp only[firstArgMember];rfl)) (fh ?_ (by size_fits)));simp only[raiseNew];refine cm (wpAny_handled ?_)
 first|rw[show A.in1.handled=none from gh]|rw[gh]
 refine cm (cn (wpAny_throw ?_));exact ge _ _ (((Heap.SameBut.update ..).extBut.push _).push _) ⟨_,UG _ rfl,rfl⟩
theorem Th{prog:da}{w:dk}{A:oD}(gh:A.handled=none)(it t:ck)(ui:t≠it)(items:Array oA):
  Draws prog w A it [it,t] items.size (λi v=>items[i]?=oZ v) (λi h=>h.IsTupleIter it t i/\h.IsTuple t items) where
 live:=λ_ _ st=>let⟨o,ho,_⟩:=st.1;⟨o,ho⟩
 frame:=λ_ _ _ st hk=>⟨st.1.at λo e=>hk it (by simp) o e,st.2.at λo e=>hk t (by simp) o e⟩
 item:=λi s Q E hi st hQ=>Gu st.1 st.2 (x:=items[i]) (by simp[hi]) λh' aFP yo=>hQ _ h' s.toks (by simp[hi]) ⟨aFP,st.2.extBut yo.extBut ui⟩ yo
 done:=λs Q E st hE=>Kg gh st.1 st.2 (by simp) hE
def j3(κ:Bool)(h:oE)(it a:ck)(i:Nat):Prop:=match κ with|true=>h.IsTupleIter it a i|false=>h.IsListIter it a i
def wZ(κ:Bool)(h:oE)(a:ck)(items:Array oA):Prop:=match κ with|true=>h.IsTuple a items|false=>h.IsList a items
theorem j3.at(x:j3 κ h it a i)(e:∀o,h.get? it=oZ o->h'.get? it=oZ o):j3 κ h' it a i:=by
 cases κ
 ·exact Heap.IsListIter.at x e
 ·exact Heap.IsTupleIter.at x e
theorem j3.obj(x:j3 κ h it a i):∃o,h.get? it=oZ o/\∀v,o.data≠.cell v:=by
 cases κ
 ·obtain⟨o,e,c,d⟩:=x;exact⟨o,e,λv z=>by rw[d]at z;cases z⟩
 ·obtain⟨o,e,c,d⟩:=x;exact⟨o,e,λv z=>by rw[d]at z;cases z⟩
theorem Ws(κ:Bool)(hh:A.handled=none)(it a:ck)(ui:a≠it)(items:Array oA):
  Draws prog w A it [it,a] items.size (λi v=>items[i]?=oZ v) (λi h=>j3 κ h it a i/\wZ κ h a items):=by
 cases κ
 ·exact Draws.list hh it a ui items
 ·exact Th hh it a ui items
abbrev MW(h:oE)(a:ck):oE:=h.push { cls:=.type "tuple_iterator",data:=.fields #[.ref a,.int 0 0] }
abbrev MX(h:oE)(a b:ck):oE:=(MW h a).push { cls:=.type "tuple_iterator",data:=.fields #[.ref b,.int 0 0] }
abbrev MY(h:oE)(a b:ck):oE:=(MX h a b).push { cls:=.type "tuple",data:=.seq #[.ref h.objs.size,.ref (MW h a).objs.size] }
abbrev MZ(h:oE)(a b:ck):oE:=(MY h a b).push { cls:=.type "tuple",data:=.seq #[.none,.none] }
abbrev K6(h:oE)(a b:ck):oE:=(MZ h a b).push { cls:=.type "zip",data:=.fields #[.none,.bool false,.bool false,.ref (MX h a b).objs.size,.ref (MY h a b).objs.size] }
theorem K4(a b:ck)(xs ys:Array oA):
  Meets (Builtin.«zip.__new__» ⟨[.type "zip",.ref a,.ref b],[]⟩) (λ_ R s=>s.heap.IsTuple a xs/\s.heap.IsTuple b ys/\R (.ok (.ret (.ref (MZ s.heap a b).objs.size))) { s with heap:=K6 s.heap a b }):=
 .of_wp λprog w A R s h=>by
  obtain⟨hp,g,d,tk,os⟩:=s;obtain⟨ga,gb,h⟩:=h;have aJ3:=sub_zip;have gA:Heap.IsTuple (Shared.heap ⟨hp,g,d,tk,os⟩) a xs:=ga;have gB:Heap.IsTuple (Shared.heap ⟨hp.push { cls:=.type "tuple_iterator",data:=.fields #[.ref a,.int 0 0] },g,d,tk,os⟩) b ys:=Heap.IsTuple.push gb _
  wp_walk using jd gA,jd gB
  exact⟨_,rfl,h⟩
theorem Tc{E:oA->oB->Prop}{Q:oA->oB->Prop}(ga:s.heap.IsTuple a xs)(gb:s.heap.IsTuple b ys)(g:∀h',IsZip h' (s.heap.objs.size+4) (s.heap.objs.size+2) (s.heap.objs.size+3) .none->IsPair h' (s.heap.objs.size+2) (.ref s.heap.objs.size) (.ref (s.heap.objs.size+1))->IsPair h' (s.heap.objs.size+3) .none .none->
   h'.IsTupleIter s.heap.objs.size a 0->h'.IsTupleIter (s.heap.objs.size+1) b 0->(∀c o,s.heap.get? c=oZ o->h'.get? c=oZ o)->Q (.ref (s.heap.objs.size+4)) { s with heap:=h' }):
  cq (df prog w) A (call (.type "zip") [.ref a,.ref b]) Q E s:=by
 refine callType_new F.called_zip ∅ (F.typeCall_zip_2 _ _) (F.newCall_zip_2 _ _) (λobj=>F.args_object_init_3 obj _ _) F.entry_zip_new (K4 a b xs ys) ⟨ga,gb,?_⟩;have y1:(MW s.heap a).objs.size=s.heap.objs.size+1:=XY ..;have y2:(MX s.heap a b).objs.size=s.heap.objs.size+2:=by rw[XY,y1]
 have y3:(MY s.heap a b).objs.size=s.heap.objs.size+3:=by rw[XY,y2]
 have y4:(MZ s.heap a b).objs.size=s.heap.objs.size+4:=by rw[XY,y3]
 have p4:∀{c:ck}{o:Obj},(MZ s.heap a b).get? c=oZ o->(K6 s.heap a b).get? c=oZ o:=λe=>TJ _ e;have p3:∀{c:ck}{o:Obj},(MY s.heap a b).get? c=oZ o->(K6 s.heap a b).get? c=oZ o:=λe=>p4 (TJ _ e);have p2:∀{c:ck}{o:Obj},(MX s.heap a b).get? c=oZ o->(K6 s.heap a b).get? c=oZ o:=λe=>p3 (TJ _ e);have p1:∀{c:ck}{o:Obj},(MW s.heap a).get? c=oZ o->(K6 s.heap a b).get? c=oZ o:=λe=>p2 (TJ _ e);have p0:∀{c:ck}{o:Obj},s.heap.get? c=oZ o->(K6 s.heap a b).get? c=oZ o:=λe=>p1 (TJ _ e);have x5:(K6 s.heap a b).get? (MZ s.heap a b).objs.size=oZ _:=UG _ rfl;have x4:(K6 s.heap a b).get? (MY s.heap a b).objs.size=oZ _:=p4 (UG _ rfl);have x3:(K6 s.heap a b).get? (MX s.heap a b).objs.size=oZ _:=p3 (UG _ rfl);have x2:(K6 s.heap a b).get? (MW s.heap a).objs.size=oZ _:=p2 (UG _ rfl);have x1:(K6 s.heap a b).get? s.heap.objs.size=oZ _:=p1 (UG _ rfl);show _/\_;rw[y2,y3,y4]at x5;rw[y1,y2]at x3;rw[y3]at x4;rw[y1]at x2;rw[y4];exact⟨⟨_,x5,rfl⟩,g _ x5 x3 x4 ⟨_,x1,rfl,rfl⟩ ⟨_,x2,rfl,rfl⟩ λc o e=>p0 e⟩
theorem SI(n:Nat):[n+4,n+2,n+3,n,n+1].Nodup:=by
 simp only[WK,SU,WU,or_false,not_or,cg,and_true,not_false_eq_true]
 lia
theorem SD(h:c∈[n+4,n+2,n+3,n,n+1]):n<=c:=by
 simp only[SU,WU,or_false]at h
 lia
section
variable{X:Cx}{pos:Pos}{a b e:oC}{ta tb te:TE}{tc:TT}
def X8(c:TT):TS:=λD σ H=>c σ H λb H1=>b=true/\D.nx σ H1
theorem Uu(hc:QT X c tc):QS X (.Assert c m pos) (X8 tc):=⟨by
 intro pins s σ H D I h;exact wpAny_Assert_holds (dZ (hc.h pins s σ H _ I h) λb s1 zZ=>by obtain⟨H1,I1,q1⟩:=zZ;exact⟨q1.1,σ,H1,I1,q1.2⟩)⟩
end
def Nu(i j:Int):Prop:=i.natAbs<2^8000/\j.natAbs<2^8000
theorem Oh{a:Int}(h:a.natAbs<2^8000):Builtin.Int.intBits a<=8001:=by
 unfold Builtin.Int.intBits
 split
 ·lia
 ·rename_i h0;have ui:a.natAbs≠0:=by
   intro z;apply h0
   first|exact Int.natAbs_eq_zero.mp z|simp[Int.natAbs_eq_zero.mp z]|lia
  have:=(br ui).mpr h
  lia
theorem Nu.ok{i j:Int}(h:Nu i j):IntMulOk i j:=by
 have h1:=Oh h.1;have h2:=Oh h.2;unfold IntMulOk;have:Builtin.Int.intTooBig (Builtin.Int.intBits i+Builtin.Int.intBits j)=false:=by
  unfold Builtin.Int.intTooBig;simp only[decide_eq_false_iff_not];have:(16002:Int)<=bitsLine:=∅
  lia
 rw[this];simp
theorem S4:oQ X (gf .Mult) (rI Nu λi j=>.int (i*j)):=KD λ_ _ _ _ _ _ _ hc q=>mul_int q hc.ok
def uP(i j:Int):Prop:=j≠0/\j.natAbs<2^8000
theorem dW:oQ X (gf .FloorDiv) (rI uP λi j=>.int (i.fdiv j)):=KD λi j _ _ _ _ _ hc q=>by
 obtain⟨h0,h1⟩:=hc;have hl:j.natAbs.log2<9000:=by
  have:=(br (show j.natAbs≠0 by lia)).mpr h1
  lia
 exact floordiv_int h0 q (.inl (PyProof.noPylong_of_log2 hl))
theorem Bo(ho:QE X o to)(ha:QA X [e] tr)(nh:fm o "append" X.env (dw o X.env)=dw o X.env:=by rfl)(ni:(ap.endLine==pos.line)=true:=by rfl)(hs:bO e=false:=by rfl):
  QE X (.Call (.Attribute o "append" ap) [e] [] pos) (HG X.K "list" Qw to tr):=
 ⟨Bn PySem.F.plainAttrs_list PySem.F.slot_list_append PySem.F.type_list_append Bi ho.h ha.h nh (by rw[cD hs];rfl) ni (cD hs) (fO rfl)⟩
theorem Cr:j0 X (.builtin "divmod") (λxs H Q=>∃a b:Int,xs=[.int a,.int b]/\0<b/\b<2^200/\∀p,H p=none->Q (.ref p) (upd H p (.tup [.int (a/b),.int (a%b)]))):=by
 intro pins s σ H xs us Q I r h;obtain⟨a,b,rfl,h0,h1,q⟩:=h;obtain⟨u,v,rfl,rx,ry⟩:=bB.two r;obtain⟨t,rfl⟩:=rx;obtain⟨t',rfl⟩:=ry;have e1:a.fdiv b=a/b:=WX _ ⋯;have e2:a.fmod b=a%b:=ZU _ ⋯;have hl:b.natAbs.log2<9000:=by
  have hb:b.natAbs<2^200:=⋯
  have:=(br (show b.natAbs≠0 by lia)).mpr hb
  lia
 refine divmod_int ⋯ ?_ (.inl (PyProof.noPylong_of_log2 hl));refine⟨.ref s.heap.objs.size,_,I.laid (o:=.tup [.int (a/b),.int (a%b)]) (t':=s.toks+1+1) (λb u e=>TJ _ e) (TN _) ?_,rfl,q _ (I.hok.fresh (TN _))⟩;refine⟨by show 2<=cw;decide,[.int (a.fdiv b) s.toks,.int (a.fmod b) (s.toks+1)],.cons ⟨_,by rw[e1]⟩ (.cons ⟨_,by rw[e2]⟩ .nil),⟨_,UG _ rfl,rfl,_,rfl⟩⟩
section
variable{κ:Type}[DecidableEq κ]
def pL(la:List (κ×V))(k:κ):Option V:=(la.find? λkv=>decide (kv.1=k)).map (·.2)
def Eo(la:List (κ×V))(k:κ)(v:V):List (κ×V):=
 if(la.any λkv=>decide (kv.1=k))=true then la.map (λkv=>if kv.1=k then(kv.1,v)else kv)else la++[(k,v)]
theorem tJ{p:κ×V}(e:p.1=k):pL (p::r) k=oZ p.2:=by simp[pL,YX,e]
theorem tI{p:κ×V}(e:¬p.1=k):pL (p::r) k=pL r k:=by simp[pL,YX,e]
theorem Kh(k:κ):∀la:List (κ×V),(la.any λkv=>decide (kv.1=k))=(pL la k).isSome
 |[]=>rfl
 |p::r=>by
  rw[YS]
  by_cases e:p.1=k
  ·simp only[tJ e,oY e,Bool.true_or,Option.isSome_some]
  ·rw[tI e,oX e,Bool.false_or];exact Kh k r
theorem Ik(la:List (κ×V))(k:κ)(v:V):(Eo la k v).length<=la.length+1:=by
 unfold Eo
 split
 ·rw[SV];lia
 ·rw[TC,TB,UR];lia
theorem Vr.isSome_eq(r:Vr o u):o.isSome=u.isSome:=by
 cases o with
 |none=>cases u with
  |none=>rfl
  |some _=>exact(show False from r).elim
 |some _=>cases u with
  |none=>exact(show False from r).elim
  |some _=>rfl
end
theorem JU(r:bP (kV k) u):(fW P w).is k u=true:=by
 cases k with
 |inl i=>obtain⟨t,e⟩:=(show ∃t,u=Value.int i t from r);subst e;exact Im P w i t
 |inr x=>obtain⟨t,e⟩:=(show ∃t,u=Value.str x t from r);subst e;exact Io P w x t
theorem Bb:∀{ks:List Key}{us:List oA},bB (ks.map kV) us->ItemsAre (fW P w) ks us
 |[],_,r=>by rw[XD]at r;cases r;exact .nil
 |k::ks,_,r=>by
  rw[TH]at r;cases r with
  |cons h t=>exact .cons (JU h) (Bb t)
abbrev Nw(H:Hp):List (List Key×V)->List (List Key×ck×oA)->Prop:=Paired λp q=>p.1=q.1/\H q.2.1=oZ (.tup (p.1.map kV))/\bP p.2 q.2.2
theorem Nw.val(r:Nw H la xs)(k:List Key):Vr (pL la k) ((atKey xs k).map (·.2)):=by
 induction r with
 |nil=>exact True.intro
 |@cons p q ps qs h t ih=>
  obtain⟨h1,_,h2⟩:=h
  by_cases e:p.1=k
  ·have e':q.1=k:=h1.symm.trans e;have b:atKey (q::qs) k=oZ q.2:=by simp[atKey,YX,e']
   rw[tJ e,b];exact h2
  ·have e':¬q.1=k:=λz=>e (h1.trans z);have b:atKey (q::qs) k=atKey qs k:=by simp[atKey,YX,e']
   rw[tI e,b];exact ih
theorem Nw.repl(r:Nw H la xs)(k:List Key)(ry:bP y u):
  Nw H (la.map λkv=>if kv.1=k then(kv.1,y)else kv) (xs.map (putAt k u)):=by
 induction r with
 |nil=>exact .nil
 |@cons p q ps qs h t ih=>
  rw[TH,TH];refine .cons ?_ ih;obtain⟨h1,h2,h3⟩:=h;unfold putAt
  by_cases e:p.1=k
  ·rw[oV e,oV (h1.symm.trans e)];exact⟨h1,h2,ry⟩
  ·rw[oW e,oW (λz=>e (h1.trans z))];exact⟨h1,h2,h3⟩
theorem Nw.put(r:Nw H la xs)(k:List Key)(hb:H b=oZ (.tup (k.map kV)))(ry:bP y u):
  Nw H (Eo la k y) (storedH xs k b u):=by
 have e:(la.any λkv=>decide (kv.1=k))=(atKey xs k).isSome:=by
  rw[Kh,(r.val k).isSome_eq,Option.isSome_map]
 unfold Eo storedH;rw[e]
 by_cases q:(atKey xs k).isSome=true
 ·rw[oV q,oV q];exact r.repl k ry
 ·rw[oW q,oW q];exact Paired.snoc r ⟨rfl,hb,ry⟩
theorem Nw.keeps(r:Nw H la xs)(ht:∀b ys,H b=oZ (.tup ys)->H' b=oZ (.tup ys)):Nw H' la xs:=
 Paired.mapP r λ_ _ z=>⟨z.1,ht _ _ z.2.1,z.2.2⟩
theorem C9(ok:pW P w H h)(e:Rd H a u):eY P w H h a u:=e.ok ok
theorem IP(ok:pW P w H h)(e:Rd H a (.dK la)):la.length<=cw/\(a==gj)=false/\∃vs,KV la vs/\h.DictOf (fW P w) a vs:=
 show eY P w H h a (.dK la)from C9 ok e
theorem Yl(ok:pW P w H h)(e:H a=oZ (.tup (ks.map kV))):(jt (fW P w)).is h ks a:=by
 obtain⟨_,jz,r,o,h1,h2,n,h3⟩:=(show eY P w H h a (.tup (ks.map kV))from ok a _ e);exact⟨o,jz.toArray,n,h1,h2,h3,by simpa using Bb r⟩
theorem Z4(ok:pW P w H h)(e:Rd H a (.dT la)):la.length<=cw/\(a==gj)=false/\
  ∃xs,Nw H la xs/\h.DictOfH (jt (fW P w)) a xs:=by
 obtain⟨z,y,xs,r,o,es,ep,h1,h2,h3,h4,h5⟩:=(show eY P w H h a (.dT la)from C9 ok e);refine⟨z,y,xs,r,o,es,ep,h1,h2,h3,h4,λx hx=>?_,h5⟩;have all:∀{l:List (List Key×V)}{m:List (List Key×ck×oA)},Nw H l m->∀x∈m,(jt (fW P w)).is h x.1 x.2.1:=by
  intro l m q
  induction q with
  |nil=>intro x hx;exact nomatch hx
  |@cons p q ps qs hq t ih=>
   intro x hx;obtain e|hx:=SU.mp hx
   ·subst e;exact Yl ok (by rw[<-hq.1];exact hq.2.1)
   ·exact ih x hx
 exact all r x hx
theorem IQ(ok:pW P w H h)(e:H a=oZ (.dT la)):la.length<=cw/\(a==gj)=false/\
  ∃xs,Nw H la xs/\h.DictOfH (jt (fW P w)) a xs:=Z4 ok (.inl e)
theorem aV.big(I:aV X pins σ H s):gj<s.heap.objs.size:=by
 have h:de<s.heap.objs.size:=(I.mod.glob.keeps I.bk).lt;exact Nat.lt_trans ∅ h
theorem M9(I:aV X pins σ H s)(mu:IA (H a))(hs:XC a s.heap h')(he:∃q,h'.get? a=oZ q)(new:eY X.prog X.w (upd H a ob) h' a ob):
  aV X pins σ (upd H a ob) { s with heap:=h',toks:=t' }:=
 I.write (x:=a) (e:=a) mu (.inl rfl) (λb q hb z=>(hs.2 b hb).trans z) he new
theorem Wt(h:oE)(hb:gj<h.objs.size):eY P w H (h.push { cls:=.type "dict",data:=.dict #[] }) h.objs.size (.dT []):=
 ⟨VZ _,beq_eq_false_iff_ne.mpr (Ne.symm (UW hb)),[],.nil,_,#[],0,UG _ rfl,⟨rfl,rfl,rfl⟩,rfl,rfl,cg⟩
def G6:TE:=λ_ H Q=>∀p,H p=none->Q (.ref p) (upd H p (.dT []))
theorem Zq:PE X (.Dict [] [] pos) G6:=λpins s σ H Q I h=>
 wpAny_Dict_empty ⟨.ref s.heap.objs.size,_,I.laid (a:=s.heap.objs.size) (o:=.dT []) (t':=s.toks) (λ_ _ q=>TJ _ q) (TN _) (Wt s.heap I.big),rfl,h _ (I.hok.fresh (TN _))⟩
inductive T where
 |non|bl (b:Bool)|int (i:Int)|str (x:Str)|tup (xs:List T)|lst (xs:List T)
inductive U where
 |p (t:T)|o (k:Bool) (xs:List T)
abbrev En:=List (Option U)
inductive R where
 |p (t:T)|s (i:Nat)
def KT(K:W.Frag)(a:ck)(xs:List V):Prop:=∃(o:Obj)(jz:Array oA)(n:Nat),K.lookup a=oZ o/\o.cls = .type "tuple"/\o.data = .seq jz n/\jz.size<=cw/\bB xs jz.toList
def KL(K:W.Frag)(a:ck)(xs:List V):Prop:=∃(o:Obj)(jz:Array oA)(n:Nat),K.lookup a=oZ o/\o.cls = .type "list"/\o.dict=none/\o.data = .seq jz n/\jz.size<=cw/\bB xs jz.toList
mutual
def Rp(K:W.Frag)(H:Hp)(O:ck->Prop):T->V->Prop
 |.non,v=>v = .non
 |.bl b,v=>v = .bl b
 |.int i,v=>v = .int i
 |.str x,v=>v = .str x
 |.tup xs,v=>∃a vs,v = .ref a/\((¬O a/\H a=oZ (.tup vs))\/KT K a vs)/\cP K H O xs vs
 |.lst xs,v=>∃a vs,v = .ref a/\((¬O a/\Rd H a (.lst vs))\/KL K a vs)/\cP K H O xs vs
def cP(K:W.Frag)(H:Hp)(O:ck->Prop):List T->List V->Prop
 |[],vs=>vs=[]
 |x::xs,vs=>∃v r,vs=v::r/\Rp K H O x v/\cP K H O xs r
end
structure Kp(O O':ck->Prop)(H H':Hp):Prop where
 keep:∀b o,H b=oZ o->¬O b->H' b=oZ o
 new:∀b,O' b->O b\/H b=none
theorem Kp.tup{O O':ck->Prop}(k:Kp O O' H H')(h:¬O a/\H a=oZ u):¬O' a/\H' a=oZ u:=by
 obtain⟨n,h⟩:=h;refine⟨λz=>?_,k.keep _ _ h n⟩;obtain z|z:=k.new a z
 ·exact n z
 ·rw[h]at z;cases z
theorem Rd.step{O O':ck->Prop}(k:Kp O O' H H')(h:¬O a/\Rd H a u):¬O' a/\Rd H' a u:=by
 obtain⟨n,h⟩:=h;obtain h|⟨o,h⟩:=h
 ·refine⟨λz=>?_,.inl (k.keep _ _ h n)⟩;obtain z|z:=k.new a z
  ·exact n z
  ·rw[h]at z;cases z
 ·refine⟨λz=>?_,.inr ⟨o,k.keep _ _ h n⟩⟩;obtain z|z:=k.new a z
  ·exact n z
  ·rw[h]at z;cases z
section
variable{K:W.Frag}{H H':Hp}{O O':ck->Prop}
mutual
theorem Rp.step(k:Kp O O' H H'):∀{t:T}{v:V},Rp K H O t v->Rp K H' O' t v
 |.non,_,h=>h
 |.bl _,_,h=>h
 |.int _,_,h=>h
 |.str _,_,h=>h
 |.tup xs,v,h=>by
  obtain⟨a,vs,e,h1,h2⟩:=h;exact⟨a,vs,e,h1.imp (Kp.tup k) id,cP.step k h2⟩
 |.lst xs,v,h=>by
  obtain⟨a,vs,e,h1,h2⟩:=h;exact⟨a,vs,e,h1.imp (Rd.step k) id,cP.step k h2⟩
theorem cP.step(k:Kp O O' H H'):∀{xs:List T}{vs:List V},cP K H O xs vs->cP K H' O' xs vs
 |[],_,h=>h
 |x::xs,vs,h=>by
  obtain⟨v,r,e,h1,h2⟩:=h;exact⟨v,r,e,Rp.step k h1,cP.step k h2⟩
end
theorem Kp.refl(O:ck->Prop)(H:Hp):Kp O O H H:=⟨λ_ _ h _=>h,λ_ h=>.inl h⟩
theorem Kp.less(h:∀b,O' b->O b):Kp O O' H H:=⟨λ_ _ h _=>h,λ_ z=>.inl (h _ z)⟩
theorem Kp.trans{O'':ck->Prop}(a:Kp O O' H H')(b:Kp O' O'' H' H''):Kp O O'' H H'':=by
 refine⟨λc o h n=>b.keep c o (a.keep c o h n) λz=>?_,λc h=>?_⟩
 ·obtain z|z:=a.new c z
  ·exact n z
  ·rw[h]at z;cases z
 ·obtain z|z:=b.new c h
  ·exact a.new c z
  ·by_cases n:O c
   ·exact .inl n
   ·right
    cases q:H c with
    |none=>rfl
    |some o=>rw[a.keep c o q n]at z;cases z
theorem Kp.upd(h:H a=none):Kp O O H (upd H a o):=⟨λb u e _=>by rw[bD (bF e h)];exact e,λ_ z=>.inl z⟩
theorem cP.length:∀{xs:List T}{vs:List V},cP K H O xs vs->vs.length=xs.length
 |[],_,h=>by cases h;rfl
 |_::_,_,h=>by
  obtain⟨v,r,e,_,h2⟩:=h;rw[e,TB,TB,cP.length h2]
theorem cP.get:∀{xs:List T}{vs:List V}{i:Nat}{x:T},cP K H O xs vs->xs[i]?=oZ x->∃v,vs[i]?=oZ v/\Rp K H O x v
 |[],_,_,_,_,e=>by simp at e
 |_::_,_,0,_,⟨v,r,e,h1,_⟩,q=>by simp at q;subst q;subst e;exact⟨v,rfl,h1⟩
 |_::_,_,i+1,x,⟨v,r,e,_,h2⟩,q=>by
  obtain⟨w,q1,q2⟩:=cP.get (i:=i) (x:=x) h2 (by simpa using q);subst e;exact⟨w,by simpa using q1,q2⟩
theorem cP.append:∀{xs ys:List T}{vs ws:List V},cP K H O xs vs->cP K H O ys ws->cP K H O (xs++ys) (vs++ws)
 |[],_,_,_,h,k=>by cases h;exact k
 |_::_,_,_,_,⟨v,r,e,h1,h2⟩,k=>by subst e;exact⟨v,_,rfl,h1,cP.append h2 k⟩
theorem cP.set(h:Rp K H O x v):∀{xs:List T}{vs:List V}(i:Nat),cP K H O xs vs->cP K H O (xs.set i x) (vs.set i v)
 |[],_,_,k=>by cases k;exact rfl
 |_::_,_,0,⟨u,r,e,h1,h2⟩=>by subst e;exact⟨v,_,rfl,h,h2⟩
 |_::_,_,i+1,⟨u,r,e,h1,h2⟩=>by subst e;exact⟨u,_,rfl,h1,cP.set h i h2⟩
theorem cP.take:∀{xs:List T}{vs:List V}(n:Nat),cP K H O xs vs->cP K H O (xs.take n) (vs.take n)
 |_,_,0,_=>by simp[cP]
 |[],_,_+1,h=>by cases h;exact rfl
 |_::_,_,n+1,⟨v,r,e,h1,h2⟩=>by subst e;exact⟨v,_,rfl,h1,cP.take n h2⟩
theorem cP.drop:∀{xs:List T}{vs:List V}(n:Nat),cP K H O xs vs->cP K H O (xs.drop n) (vs.drop n)
 |_,_,0,h=>h
 |[],_,_+1,h=>by cases h;exact rfl
 |_::_,_,n+1,⟨v,r,e,h1,h2⟩=>by subst e;exact cP.drop n h2
theorem cP.reverse:∀{xs:List T}{vs:List V},cP K H O xs vs->cP K H O xs.reverse vs.reverse
 |[],_,h=>by cases h;exact rfl
 |_::_,_,⟨v,r,e,h1,h2⟩=>by
  subst e;rw[YM,YM];exact(cP.reverse h2).append ⟨v,[],rfl,h1,rfl⟩
theorem Rp.sqT(h:Rp K H O (.tup xs) v):∃a vs,v = .ref a/\vG K H a vs/\cP K H O xs vs:=by
 obtain⟨a,vs,e,h1,h2⟩:=h;exact⟨a,vs,e,h1.imp (λh=>.inl h.2) id,h2⟩
theorem Rp.sqL(h:Rp K H O (.lst xs) v):∃a vs,v = .ref a/\j5 K H a vs/\cP K H O xs vs:=by
 obtain⟨a,vs,e,h1,h2⟩:=h;exact⟨a,vs,e,h1.imp And.right id,h2⟩
end
def Ow(B:ck->Prop)(S:St)(E:En)(a:ck):Prop:=B a\/∃(i:Nat)(k:Bool)(xs:List T),E[i]?=oZ (oZ (.o k xs))/\S[i]?=oZ (oZ (.ref a))
structure RE(K:W.Frag)(B:ck->Prop)(H:Hp)(S:St)(E:En):Prop where
 len:S.length=E.length
 pure:∀(i:Nat)(t:T),E[i]?=oZ (oZ (.p t))->∃v,S[i]?=oZ (oZ v)/\Rp K H (Ow B S E) t v
 own:∀(i:Nat)(k:Bool)(xs:List T),E[i]?=oZ (oZ (.o k xs))->∃a vs,S[i]?=oZ (oZ (.ref a))/\H a=oZ (.lst vs)/\cP K H (Ow B S E) xs vs/\(k=true↔B a)
 inj:∀(i j:Nat)(k l:Bool)(xs ys:List T)(a:ck),E[i]?=oZ (oZ (.o k xs))->E[j]?=oZ (oZ (.o l ys))->S[i]?=oZ (oZ (.ref a))->S[j]?=oZ (oZ (.ref a))->i=j
 bd:∀a,B a->∃vs,H a=oZ (.lst vs)
theorem RE.ow{K:W.Frag}{B:ck->Prop}{H:Hp}{S:St}{E:En}(r:RE K B H S E){a:ck}(h:Ow B S E a):∃vs,H a=oZ (.lst vs):=by
 obtain h|⟨i,k,xs,h1,h2⟩:=h
 ·exact r.bd a h
 obtain⟨a',vs,h3,h4,_⟩:=r.own i k xs h1;rw[h2]at h3;cases h3;exact⟨vs,h4⟩
theorem RE.nn{K:W.Frag}{B:ck->Prop}{H:Hp}{S:St}{E:En}(r:RE K B H S E){a:ck}(h:H a=none):¬Ow B S E a:=λz=>by
 obtain⟨ws,e⟩:=r.ow z;rw[h]at e;cases e
theorem RE.step{K:W.Frag}{B:ck->Prop}{H:Hp}{H':Hp}{S:St}{E:En}{E':En}(r:RE K B H S E)(k:∀b o,H b=oZ o->¬Ow B S E b->H' b=oZ o)(hl:E'.length=E.length)(hp:∀(i:Nat)(t:T),E'[i]?=oZ (oZ (.p t))->E[i]?=oZ (oZ (.p t)))(ho:∀(i:Nat)(k:Bool)(yz:List T),E'[i]?=oZ (oZ (.o k yz))->∃xs,E[i]?=oZ (oZ (.o k xs))/\∀a,S[i]?=oZ (oZ (.ref a))->∃vs,H' a=oZ (.lst vs)/\cP K H' (Ow B S E) yz vs)(hb:∀a,B a->∃vs,H' a=oZ (.lst vs)):RE K B H' S E':=by
 have ow:∀b,Ow B S E' b->Ow B S E b:=λb z=>by
  obtain z|⟨i,k,xs,h1,h2⟩:=z
  ·exact .inl z
  obtain⟨ys,h3,_⟩:=ho i k xs h1;exact .inr ⟨i,k,ys,h3,h2⟩
 have kp:Kp (Ow B S E) (Ow B S E') H H':=⟨k,λb z=>.inl (ow b z)⟩;refine⟨by rw[hl];exact r.len,λi t h=>?_,λi k xs h=>?_,λi j k l xs ys a h1 h2 h3 h4=>?_,hb⟩
 ·obtain⟨v,h1,h2⟩:=r.pure i t (hp i t h);exact⟨v,h1,h2.step kp⟩
 ·obtain⟨ys,h1,h2⟩:=ho i k xs h;obtain⟨a,vs,h3,_,_,h6⟩:=r.own i k ys h1;obtain⟨ws,h7,h8⟩:=h2 a h3;exact⟨a,ws,h3,h7,h8.step (Kp.less ow),h6⟩
 ·obtain⟨_,q1,_⟩:=ho i k xs h1;obtain⟨_,q2,_⟩:=ho j l ys h2;exact r.inj i j k l _ _ a q1 q2 h3 h4
theorem RE.kept{K:W.Frag}{B:ck->Prop}{H:Hp}{H':Hp}{S:St}{E:En}(r:RE K B H S E)(k:∀b o,H b=oZ o->H' b=oZ o):RE K B H' S E:=
 r.step (λb o h _=>k b o h) rfl (λ_ _ h=>h) (λi l xs h=>⟨xs,h,λa ha=>by
  obtain⟨a',vs,h1,h2,h3,_⟩:=r.own i l xs h;rw[ha]at h1;cases h1;exact⟨vs,k _ _ h2,h3.step ⟨λb o e _=>k b o e,λb z=>.inl z⟩⟩⟩) (λa h=>let⟨vs,q⟩:=r.bd a h;⟨vs,k _ _ q⟩)
theorem RE.take{K:W.Frag}{B:ck->Prop}{H:Hp}{S:St}{E:En}(r:RE K B H S E)(n:Nat):RE K B H (S.take n) (E.take n):=by
 have gE:∀{i:Nat}{x:Option U},(E.take n)[i]?=oZ x->E[i]?=oZ x/\i<n:=λ{i x}h=>by
  by_cases c:i<n
  ·rw[WD c]at h;exact⟨h,c⟩
  ·rw[WY ⋯]at h;cases h
 have gS:∀{i:Nat}{x:Option V},i<n->S[i]?=oZ x->(S.take n)[i]?=oZ x:=λ{i x}c h=>by rw[WD c];exact h
 have vn:∀{i:Nat}{x:Option V},(S.take n)[i]?=oZ x->S[i]?=oZ x:=λ{i x}h=>by
  by_cases c:i<n
  ·rw[WD c]at h;exact h
  ·rw[WY ⋯]at h;cases h
 have ow:∀b,Ow B (S.take n) (E.take n) b->Ow B S E b:=λb z=>z.imp id λzZ=>by obtain⟨i,k,xs,h1,h2⟩:=zZ;exact⟨i,k,xs,(gE h1).1,vn h2⟩
 refine⟨by rw[UP,UP,r.len],λi t h=>?_,λi k xs h=>?_,λi j k l xs ys a h1 h2 h3 h4=>?_,r.bd⟩
 ·obtain⟨v,h1,h2⟩:=r.pure i t (gE h).1;exact⟨v,gS (gE h).2 h1,h2.step (Kp.less ow)⟩
 ·obtain⟨a,vs,h1,h2,h3,h4⟩:=r.own i k xs (gE h).1;exact⟨a,vs,gS (gE h).2 h1,h2,h3.step (Kp.less ow),h4⟩
 ·exact r.inj i j k l xs ys a (gE h1).1 (gE h2).1 (vn h3) (vn h4)
def RR(K:W.Frag)(B:ck->Prop)(H:Hp)(S:St)(E:En):R->V->Prop
 |.p t,v=>Rp K H (Ow B S E) t v
 |.s i,v=>S[i]?=oZ (oZ v)
def Vh(K:W.Frag)(B:ck->Prop)(H:Hp)(S:St)(E:En):List R->List V->Prop
 |[],vs=>vs=[]
 |r::rs,vs=>∃v ws,vs=v::ws/\RR K B H S E r v/\Vh K B H S E rs ws
structure Gr(B:ck->Prop)(H:Hp)(S:St)(E:En)(H':Hp)(S':St)(E':En):Prop where
 kp:Kp (Ow B S E) (Ow B S' E') H H'
 pre:∃τ,S'=S++τ
theorem Gr.refl{B:ck->Prop}:Gr B H S E H S E:=⟨Kp.refl _ _,[],by simp⟩
theorem Gr.trans{B:ck->Prop}(a:Gr B H S E H1 S1 E1)(b:Gr B H1 S1 E1 H2 S2 E2):Gr B H S E H2 S2 E2:=by
 obtain⟨t,e⟩:=a.pre;obtain⟨u,f⟩:=b.pre;exact⟨a.kp.trans b.kp,t++u,by rw[f,e,TF]⟩
theorem e9{S S':St}(h:∃τ,S'=S++τ){i:Nat}{x:Option V}(e:S[i]?=oZ x):S'[i]?=oZ x:=by
 obtain⟨t,rfl⟩:=h;rw[UE (SW.mp e).1];exact e
section
variable{K:W.Frag}{B:ck->Prop}{H H':Hp}{S S':St}{E E':En}{σ:St}
theorem RR.step(g:Gr B H S E H' S' E')(h:RR K B H S E r v):RR K B H' S' E' r v:=by
 cases r with
 |p t=>exact Rp.step g.kp h
 |s i=>exact e9 g.pre h
theorem Vh.step(g:Gr B H S E H' S' E'):∀{rs:List R}{vs:List V},Vh K B H S E rs vs->Vh K B H' S' E' rs vs
 |[],_,h=>h
 |_::_,_,⟨v,ws,e,h1,h2⟩=>⟨v,ws,e,h1.step g,Vh.step g h2⟩
def Lk(K:W.Frag)(B:ck->Prop)(H:Hp)(S:St)(E:En)(Q':R->En->Prop)(Q:VK):Prop:=∀r E' v H' S',Q' r E'->Gr B H S E H' S' E'->RE K B H' S' E'->RR K B H' S' E' r v->Q v H'
def RO(K:W.Frag)(n:Nat)(B:ck->Prop)(H:Hp)(S:St)(E:En)(Q':List R->En->Prop)(Q:List V->Hp->Prop):Prop:=∀rs E' vs H' S',Q' rs E'->Gr B H S E H' S' E'->RE K B H' S' E'->Vh K B H' S' E' rs vs->vs.length=n->Q vs H'
theorem Lk.step{Q':R->En->Prop}(l:Lk K B H S E Q' Q)(g:Gr B H S E H' S' E'):Lk K B H' S' E' Q' Q:=λr E2 v H2 S2 q g2=>l r E2 v H2 S2 q (g.trans g2)
end
abbrev FE:=En->(R->En->Prop)->Prop
abbrev FA:=En->(List R->En->Prop)->Prop
abbrev FB:=En->(Bool->En->Prop)->Prop
def aJ(K:W.Frag)(F:FE):TE:=λσ H Q=>∃B S E Q',(∃τ,S=σ++τ)/\RE K B H S E/\F E Q'/\Lk K B H S E Q' Q
def dJ(K:W.Frag)(n:Nat)(F:FA):TA:=λσ H Q=>∃B S E Q',(∃τ,S=σ++τ)/\RE K B H S E/\F E Q'/\RO K n B H S E Q' Q
def fY(K:W.Frag)(F:FB):TT:=λσ H Q=>∃B S E Q',(∃τ,S=σ++τ)/\RE K B H S E/\F E Q'/\∀b E' H' S',Q' b E'->Gr B H S E H' S' E'->RE K B H' S' E'->Q b H'
theorem QE.le(h:QE X e t)(m:∀σ H Q,σ.length=X.N.length->t' σ H Q->t σ H Q):QE X e t':=⟨λpins s σ H Q I z=>h.h pins s σ H Q I (m σ H Q I.len z)⟩
theorem QA.le(h:QA X es t)(m:∀σ H Q,t' σ H Q->t σ H Q):QA X es t':=⟨λpos pins s σ H Q I z=>h.h pos pins s σ H Q I (m σ H Q z)⟩
theorem QT.le(h:QT X e t)(m:∀σ H Q,t' σ H Q->t σ H Q):QT X e t':=⟨λpins s σ H Q I z=>h.h pins s σ H Q I (m σ H Q z)⟩
theorem QW.le(h:QW X e t)(m:∀σ H Q,t' σ H Q->t σ H Q):QW X e t':=⟨λwh pins s σ H Q I z=>h.h wh pins s σ H Q I (m σ H Q z)⟩
def vl(E:En):R->Option T
 |.p t=>oZ t
 |.s i=>match E[i]? with
  |some (oZ (.o _ xs))=>oZ (.lst xs)
  |some (oZ (.p t))=>oZ t
  |_=>none
def Rt(K:W.Frag)(H:Hp)(O:ck->Prop):T->V->Prop
 |.tup xs,v=>∃a vs,v = .ref a/\vG K H a vs/\cP K H O xs vs
 |.lst xs,v=>∃a vs,v = .ref a/\j5 K H a vs/\cP K H O xs vs
 |t,v=>Rp K H O t v
theorem Rp.rt{K:W.Frag}{H:Hp}{O:ck->Prop}{t:T}{v:V}(h:Rp K H O t v):Rt K H O t v:=by
 cases t with
 |tup xs=>exact h.sqT
 |lst xs=>exact h.sqL
 |non=>exact h
 |bl _=>exact h
 |int _=>exact h
 |str _=>exact h
theorem RE.vl{K:W.Frag}{B:ck->Prop}{H:Hp}{S:St}{E:En}(re:RE K B H S E){r:R}{v:V}{t:T}(h:RR K B H S E r v)(e:vl E r=oZ t):Rt K H (Ow B S E) t v:=by
 cases r with
 |p u=>cases e;exact Rp.rt h
 |s i=>
  cases q:E[i]? with
  |none=>simp only[L2.vl,q]at e;cases e
  |some u=>
   cases u with
   |none=>simp only[L2.vl,q]at e;cases e
   |some u=>
    cases u with
    |p u=>
     simp only[L2.vl,q]at e;cases e;obtain⟨w,h1,h2⟩:=re.pure i _ q;have h':S[i]?=oZ (oZ v):=h;rw[h']at h1;cases h1;exact h2.rt
    |o k xs=>
     simp only[L2.vl,q]at e;cases e;obtain⟨a,vs,h1,h2,h3,_⟩:=re.own i k xs q;have h':S[i]?=oZ (oZ v):=h;rw[h']at h1;cases h1;exact⟨a,vs,rfl,j5.of h2,h3⟩
theorem RE.int{K:W.Frag}{B:ck->Prop}{H:Hp}{S:St}{E:En}(re:RE K B H S E){r:R}{v:V}{i:Int}(h:RR K B H S E r v)(e:L2.vl E r=oZ (.int i)):v = .int i:=re.vl h e
theorem RE.bl{K:W.Frag}{B:ck->Prop}{H:Hp}{S:St}{E:En}(re:RE K B H S E){r:R}{v:V}{b:Bool}(h:RR K B H S E r v)(e:L2.vl E r=oZ (.bl b)):v = .bl b:=re.vl h e
theorem RE.tup{K:W.Frag}{B:ck->Prop}{H:Hp}{S:St}{E:En}(re:RE K B H S E){p:ck}{ts:List T}{vs:List V}(hp:H p=none)(h:cP K H (Ow B S E) ts vs):
  Gr B H S E (upd H p (.tup vs)) S E/\RE K B (upd H p (.tup vs)) S E/\Rp K (upd H p (.tup vs)) (Ow B S E) (.tup ts) (.ref p):=by
 have k:Kp (Ow B S E) (Ow B S E) H (upd H p (.tup vs)):=Kp.upd hp;exact⟨⟨k,[],by simp⟩,re.kept λb o e=>by rw[bD (bF e hp)];exact e,p,vs,rfl,.inl ⟨re.nn hp,dM⟩,h.step k⟩
theorem xP{α:Type}{xs:List α}{x:α}{y:α}(h:(xs++[x])[i]?=oZ y):(i<xs.length/\xs[i]?=oZ y)\/(i=xs.length/\y=x):=by
 obtain c|c:=WR i xs.length
 ·rw[UE c]at h;exact .inl ⟨c,h⟩
 ·rw[VG c]at h;have:i-xs.length=0:=by
   obtain z|z:=ZN (i-xs.length)
   ·exact z
   ·rw[XZ (by simp;lia)]at h;cases h
  rw[this]at h;simp at h;exact .inr ⟨⋯,h.symm⟩
theorem kC{α:Type}{xs:List α}{x:α}:(xs++[x])[xs.length]?=oZ x:=by simp
theorem RE.lst{K:W.Frag}{B:ck->Prop}{H:Hp}{S:St}{E:En}(re:RE K B H S E){p:ck}{ts:List T}{vs:List V}(hp:H p=none)(h:cP K H (Ow B S E) ts vs):
  Gr B H S E (upd H p (.lst vs)) (S++[oZ (.ref p)]) (E++[oZ (.o false ts)])/\RE K B (upd H p (.lst vs)) (S++[oZ (.ref p)]) (E++[oZ (.o false ts)]):=by
 have gE:∀{i:Nat}{u:U},(E++[oZ (.o false ts)])[i]?=oZ (oZ u)->(E[i]?=oZ (oZ u)/\i<E.length)\/(i=E.length/\u = .o false ts):=λ{i u}h=>by
  obtain⟨c,h⟩|⟨c,h⟩:=xP h
  ·exact .inl ⟨h,c⟩
  ·exact .inr ⟨c,Option.some.inj h⟩
 have gS:∀{i:Nat}{x:Option V},S[i]?=oZ x->(S++[oZ (.ref p)])[i]?=oZ x:=λ{i x}h=>e9 ⟨_,rfl⟩ h;have vn:∀{i:Nat}{x:Option V},i<E.length->(S++[oZ (.ref p)])[i]?=oZ x->S[i]?=oZ x:=λ{i x}c h=>by
  rw[UE (by rw[re.len];exact c)]at h;exact h
 have lS:(S++[oZ (.ref p)])[E.length]?=oZ (oZ (.ref p)):=by rw[<-re.len];simp
 have ow:∀b,Ow B (S++[oZ (.ref p)]) (E++[oZ (.o false ts)]) b->Ow B S E b\/H b=none:=λb z=>by
  obtain z|⟨i,k,xs,h1,h2⟩:=z
  ·exact .inl (.inl z)
  obtain⟨h1,c⟩|⟨c,h1⟩:=gE h1
  ·exact .inl (.inr ⟨i,k,xs,h1,vn c h2⟩)
  ·subst c;rw[lS]at h2;cases h2;exact .inr hp
 have k:Kp (Ow B S E) (Ow B (S++[oZ (.ref p)]) (E++[oZ (.o false ts)])) H (upd H p (.lst vs)):=⟨λb o e _=>by rw[bD (bF e hp)];exact e,ow⟩;refine⟨⟨k,_,rfl⟩,⟨by simp[re.len],λi t h=>?_,λi l xs h=>?_,λi j l m xs ys a h1 h2 h3 h4=>?_,λa h=>?_⟩⟩
 ·obtain⟨h,c⟩|⟨c,h⟩:=gE h
  ·obtain⟨v,h1,h2⟩:=re.pure i t h;exact⟨v,gS h1,h2.step k⟩
  ·cases h
 ·obtain⟨h,c⟩|⟨c,h⟩:=gE h
  ·obtain⟨a,ws,h1,h2,h3,h4⟩:=re.own i l xs h;exact⟨a,ws,gS h1,by rw[bD (bF h2 hp)];exact h2,h3.step k,h4⟩
  ·cases h;subst c;refine⟨p,vs,lS,dM,?_,⟨λz=>absurd z ∅,λz=>absurd (.inl z) (re.nn hp)⟩⟩;exact cP.step k (by assumption)
 ·obtain⟨h1,c1⟩|⟨c1,h1⟩:=gE h1
  ·obtain⟨h2,c2⟩|⟨c2,h2⟩:=gE h2
   ·exact re.inj i j l m xs ys a h1 h2 (vn c1 h3) (vn c2 h4)
   ·subst c2;rw[lS]at h4;cases h4;exact absurd (.inr ⟨i,l,xs,h1,vn c1 h3⟩) (re.nn hp)
  ·obtain⟨h2,c2⟩|⟨c2,h2⟩:=gE h2
   ·subst c1;rw[lS]at h3;cases h3;exact absurd (.inr ⟨j,m,ys,h2,vn c2 h4⟩) (re.nn hp)
   ·rw[c1,c2]
 ·obtain⟨us,q⟩:=re.bd a h;exact⟨us,by rw[bD (bF q hp)];exact q⟩
section
variable{X:Cx}{K:W.Frag}{pos:Pos}{a b c e:oC}{es rest:List oC}{Fa Fb Fc:FE}{Fr:FA}{Fp Fq:FB}
def DE(i:Nat):FE:=λE Q=>match E[i]? with
 |some (oZ (.p t))=>Q (.p t) E
 |some (oZ (.o _ _))=>Q (.s i) E
 |_=>False
def fC(t:T):FE:=λE Q=>Q (.p t) E
theorem fv(i:Nat)(hN:X.N[i]?=oZ x:=by rfl)(hv:CI X.env.scope x:=by first|exact WE rfl|exact WZ (WE rfl)|exact WZ (WZ rfl))(hd:(x==("__debug__":Str))=false:=by decide)(vj:(x==("__classdict__":Str))=false:=by decide):QE X (.Name x pos) (aJ K (DE i)):=by
 refine(qv i hN hv hd vj).le λσ H Q hl zZ=>?_;obtain⟨B,S,E,Q',hS,re,hF,lk⟩:=zZ;have hi:i<σ.length:=by rw[hl];exact(SW.mp hN).1
 obtain⟨τ,rfl⟩:=hS;have back:∀{v},(σ++τ)[i]?=oZ (oZ v)->σ[i]?=oZ (oZ v):=λh=>by rw[UE hi]at h;exact h
 unfold DE at hF;split at hF
 ·rename_i t q;obtain⟨v,h1,h2⟩:=re.pure i t q;exact⟨v,back h1,lk _ _ _ _ _ hF .refl re h2⟩
 ·rename_i k xs q;obtain⟨p,vs,h1,_⟩:=re.own i k xs q;exact⟨_,back h1,lk _ _ _ _ _ hF .refl re h1⟩
 ·exact hF.elim
theorem Xd(h:QE X e (tC v))(hv:∀K H O,Rp K H O t v):QE X e (aJ K (fC t)):=h.le λσ H Q hl zZ=>by obtain⟨B,S,E,Q',hS,re,hF,lk⟩:=zZ;exact lk _ _ _ _ _ hF .refl re (hv _ _ _)
theorem aA{i j pos}:QE X (.Constant (.int i) j pos) (aJ K (fC (.int i))):=Xd GG λ_ _ _=>rfl
theorem As{b j pos}:QE X (.Constant (.bool b) j pos) (aJ K (fC (.bl b))):=Xd KY λ_ _ _=>rfl
theorem nD{j pos}:QE X (.Constant .none j pos) (aJ K (fC .non)):=Xd Mp λ_ _ _=>rfl
theorem kR{x j pos}:QE X (.Constant (.str x) j pos) (aJ K (fC (.str x))):=Xd GI λ_ _ _=>rfl
theorem two{G:R->R->En->(R->En->Prop)->Prop}(h:aJ K (λE Q=>Fa E λx E1=>Fb E1 λy E2=>G x y E2 Q) σ H Q){P:V->V->Hp->Prop}(k:∀B S E x y v w H2 Q',(∃τ,S=σ++τ)->RE K B H2 S E->RR K B H2 S E x v->RR K B H2 S E y w->G x y E Q'->Lk K B H2 S E Q' Q->P v w H2):aJ K Fa σ H λv H1=>aJ K Fb σ H1 λw H2=>P v w H2:=by
 obtain⟨B,S,E,Q',⟨τ,hS⟩,re,hF,lk⟩:=h;refine⟨B,S,E,_,⟨τ,hS⟩,re,hF,λr E1 v H1 S1 q g kq rr=>?_⟩;obtain⟨τ1,qg⟩:=g.pre;refine⟨B,S1,E1,_,⟨τ++τ1,by rw[qg,hS,TF]⟩,kq,q,λr2 E2 w H2 S2 q2 g2 mj rr2=>?_⟩;obtain⟨τ2,hS2⟩:=g2.pre;exact k B S2 E2 r r2 v w H2 Q' ⟨τ++τ1++τ2,by rw[hS2,qg,hS,TF,TF,TF]⟩ mj (rr.step g2) rr2 q2 (lk.step (g.trans g2))
theorem one{G:R->En->(R->En->Prop)->Prop}(h:aJ K (λE Q=>Fa E λx E1=>G x E1 Q) σ H Q){P:V->Hp->Prop}(k:∀B S E x v H2 Q',(∃τ,S=σ++τ)->RE K B H2 S E->RR K B H2 S E x v->G x E Q'->Lk K B H2 S E Q' Q->P v H2):aJ K Fa σ H λv H1=>P v H1:=by
 obtain⟨B,S,E,Q',⟨τ,hS⟩,re,hF,lk⟩:=h;refine⟨B,S,E,_,⟨τ,hS⟩,re,hF,λr E1 v H1 S1 q g kq rr=>?_⟩;obtain⟨τ1,qg⟩:=g.pre;exact k B S1 E1 r v H1 Q' ⟨τ++τ1,by rw[qg,hS,TF]⟩ kq rr q (lk.step g)
def i2(x y:Option T)(k:Int->Int->Prop):Prop:=match x,y with
 |some (.int i),oZ (.int j)=>k i j
 |_,_=>False
theorem i2.ex{k:Int->Int->Prop}(h:i2 x y k):∃i j,x=oZ (.int i)/\y=oZ (.int j)/\k i j:=by
 unfold i2 at h;split at h
 ·exact⟨_,_,rfl,rfl,h⟩
 ·exact h.elim
def fI(C:Int->Int->Prop)(g:Int->Int->Int)(Fa Fb:FE):FE:=λE Q=>Fa E λx E1=>Fb E1 λy E2=>i2 (vl E2 x) (vl E2 y) λi j=>C i j/\Q (.p (.int (g i j))) E2
def RT(g:Int->Int->Int)(Fa Fb:FE):FE:=λE Q=>Fa E λx E1=>Fb E1 λy E2=>i2 (vl E2 x) (vl E2 y) λi j=>Q (.p (.int (g i j))) E2
def OL(g:Int->Int->Bool)(Fa Fb:FE):FE:=λE Q=>Fa E λx E1=>Fb E1 λy E2=>i2 (vl E2 x) (vl E2 y) λi j=>Q (.p (.bl (g i j))) E2
theorem aM{C:Int->Int->Prop}{g:Int->Int->Int}(ho:oQ X (gf op) (rI C λi j=>.int (g i j)))(ha:QE X a (aJ K Fa))(hb:QE X b (aJ K Fb)):QE X (.BinOp a op b pos) (aJ K (fI C g Fa Fb)):=by
 refine(Qs ho ha hb).le λσ H Q hl h=>two h λB S E x y v w H2 Q' hS re rx ry q lk=>?_;obtain⟨i,j,e1,e2,c,q⟩:=q.ex;exact⟨i,j,re.int rx e1,re.int ry e2,c,lk _ _ _ _ _ q .refl re rfl⟩
theorem aY{g:Int->Int->Int}(ho:oQ X (gf op) (Vk λi j=>.int (g i j)))(ha:QE X a (aJ K Fa))(hb:QE X b (aJ K Fb)):QE X (.BinOp a op b pos) (aJ K (RT g Fa Fb)):=by
 refine(Qs ho ha hb).le λσ H Q hl h=>two h λB S E x y v w H2 Q' hS re rx ry q lk=>?_;obtain⟨i,j,e1,e2,q⟩:=q.ex;exact⟨i,j,re.int rx e1,re.int ry e2,lk _ _ _ _ _ q .refl re rfl⟩
theorem Ia{g:Int->Int->Bool}(ho:oQ X (fi op) (Vk λi j=>.bl (g i j)))(ha:QE X a (aJ K Fa))(hb:QE X b (aJ K Fb))(hm:eh op b=false):QE X (.Compare a [op] [b] pos) (aJ K (OL g Fa Fb)):=by
 refine(V5 ho ha hb hm).le λσ H Q hl h=>two h λB S E x y v w H2 Q' hS re rx ry q lk=>?_;obtain⟨i,j,e1,e2,q⟩:=q.ex;exact⟨i,j,re.int rx e1,re.int ry e2,lk _ _ _ _ _ q .refl re rfl⟩
def i1(x:Option T)(k:Int->Prop):Prop:=match x with
 |some (.int i)=>k i
 |_=>False
theorem i1.ex{k:Int->Prop}(h:i1 x k):∃i,x=oZ (.int i)/\k i:=by
 unfold i1 at h;split at h
 ·exact⟨_,rfl,h⟩
 ·exact h.elim
def b1(x:Option T)(k:Bool->Prop):Prop:=match x with
 |some (.bl i)=>k i
 |_=>False
theorem b1.ex{k:Bool->Prop}(h:b1 x k):∃i,x=oZ (.bl i)/\k i:=by
 unfold b1 at h;split at h
 ·exact⟨_,rfl,h⟩
 ·exact h.elim
def OS(Fa:FE):FE:=λE Q=>Fa E λx E1=>i1 (vl E1 x) λi=>Q (.p (.int (-i))) E1
theorem xI(ha:QE X a (aJ K Fa)):QE X (.UnaryOp .USub a pos) (aJ K (OS Fa)):=by
 refine(LA HL ha).le λσ H Q hl h=>one (Fa:=Fa) h λB S E x v H2 Q' hS re rx q lk=>?_;obtain⟨i,e1,q⟩:=q.ex;exact⟨i,re.int rx e1,lk _ _ _ _ _ q .refl re rfl⟩
theorem BW{G:Bool->En->(Bool->En->Prop)->Prop}{Q:Bool->Hp->Prop}(h:fY K (λE Q=>Fp E λx E1=>G x E1 Q) σ H Q){P:Bool->Hp->Prop}(k:∀B S E x H2 Q',(∃τ,S=σ++τ)->RE K B H2 S E->G x E Q'->(∀b E' H' S',Q' b E'->Gr B H2 S E H' S' E'->RE K B H' S' E'->Q b H')->P x H2):fY K Fp σ H P:=by
 obtain⟨B,S,E,Q',⟨τ,hS⟩,re,hF,lk⟩:=h;refine⟨B,S,E,_,⟨τ,hS⟩,re,hF,λr E1 H1 S1 q g kq=>?_⟩;obtain⟨τ1,qg⟩:=g.pre;exact k B S1 E1 r H1 Q' ⟨τ++τ1,by rw[qg,hS,TF]⟩ kq q λb E2 H2 S2 q2 g2 mj=>lk b E2 H2 S2 q2 (g.trans g2) mj
def zE(Fa:FE):FB:=λE Q=>Fa E λx E1=>b1 (vl E1 x) λi=>Q i E1
def OD(Fp Fq:FB):FB:=λE Q=>Fp E λx E1=>if x=true then Fq E1 Q else Q false E1
def RQ(Fp Fq:FB):FB:=λE Q=>Fp E λx E1=>if x=true then Q true E1 else Fq E1 Q
theorem M5{Q:Bool->Hp->Prop}(h:fY K (zE Fa) σ H Q):aJ K Fa σ H λv H1=>∃c,v = .bl c/\Q c H1:=by
 obtain⟨B,S,E,Q',⟨τ,hS⟩,re,hF,lk⟩:=h;refine⟨B,S,E,_,⟨τ,hS⟩,re,hF,λr E1 v H1 S1 q g kq rr=>?_⟩;obtain⟨i,e1,q⟩:=q.ex;exact⟨i,kq.bl rr e1,lk _ _ _ _ q g kq⟩
theorem DP(h:QE X e (aJ K Fa))(he:∀whole,isTrue e X.env whole=(do let v <-whole;standAt e.pos;ig [v] (truthy v)):=by intro _;rfl):QT X e (fY K (zE Fa)):=(GN h he).le λσ H Q z=>M5 z
theorem o7(ha:QT X a (fY K Fp)):QW X (.BoolOp .And [a] pos) (fY K Fp):=W3 ha
theorem Dr(ha:QT X a (fY K Fp)):QW X (.BoolOp .Or [a] pos) (fY K Fp):=GP ha
theorem tV(ha:QT X a (fY K Fp))(hb:QW X (.BoolOp .And (b::rest) pos) (fY K Fq)):QW X (.BoolOp .And (a::b::rest) pos) (fY K (OD Fp Fq)):=by
 refine(GO ha hb).le λσ H Q h=>BW (Fp:=Fp) h λB S E x H2 Q' hS re q lk=>?_;cases x
 ·exact lk _ _ _ _ q .refl re
 ·exact⟨B,S,E,Q',hS,re,q,lk⟩
theorem Ic(ha:QT X a (fY K Fp))(hb:QW X (.BoolOp .Or (b::rest) pos) (fY K Fq)):QW X (.BoolOp .Or (a::b::rest) pos) (fY K (RQ Fp Fq)):=by
 refine(LG ha hb).le λσ H Q h=>BW (Fp:=Fp) h λB S E x H2 Q' hS re q lk=>?_;cases x
 ·exact⟨B,S,E,Q',hS,re,q,lk⟩
 ·exact lk _ _ _ _ q .refl re
theorem zI(h:QW X e (fY K Fp)):QT X e (fY K Fp):=QC h
def RY(Fa Fb:FE):FE:=λE Q=>Fa E λx E1=>b1 (vl E1 x) λi=>if i=true then Q (.p (.bl true)) E1 else Fb E1 Q
theorem Xg(ha:QE X a (aJ K Fa))(hb:QE X (.BoolOp .Or (b::rest) pos) (aJ K Fb)):QE X (.BoolOp .Or (a::b::rest) pos) (aJ K (RY Fa Fb)):=by
 refine(KZ ha hb).le λσ H Q hl h=>one (Fa:=Fa) h λB S E x v H2 Q' hS re rx q lk=>?_;obtain⟨i,e1,q⟩:=q.ex;refine⟨i,re.bl rx e1,?_⟩;cases i
 ·exact⟨B,S,E,Q',hS,re,q,lk⟩
 ·exact lk _ _ _ _ _ q .refl re rfl
theorem DI{op}(h:QE X a (aJ K Fa)):QE X (.BoolOp op [a] pos) (aJ K Fa):=GH h
def RU(Fp:FB)(Fa Fb:FE):FE:=λE Q=>Fp E λx E1=>if x=true then Fa E1 Q else Fb E1 Q
theorem r8(hc:QT X c (fY K Fp))(ha:QE X a (aJ K Fa))(hb:QE X b (aJ K Fb)):QE X (.IfExp c a b pos) (aJ K (RU Fp Fa Fb)):=by
 refine(C2 hc ha hb).le λσ H Q hl zZ=>?_;obtain⟨B,S,E,Q',⟨τ,hS⟩,re,hF,lk⟩:=zZ;refine⟨B,S,E,_,⟨τ,hS⟩,re,hF,λr E1 H1 S1 q g kq=>?_⟩;obtain⟨τ1,qg⟩:=g.pre;have hp:∃t,S1=σ++t:=⟨τ++τ1,by rw[qg,hS,TF]⟩;cases r
 ·exact⟨B,S1,E1,Q',hp,kq,q,lk.step g⟩
 ·exact⟨B,S1,E1,Q',hp,kq,q,lk.step g⟩
def Vu:FA:=λE Q=>Q [] E
def m9(Fa:FE)(Fr:FA):FA:=λE Q=>Fa E λr E1=>Fr E1 λrs E2=>Q (r::rs) E2
theorem gG:QA X [] (dJ K 0 Vu):=Mm.le λσ H Q zZ=>by obtain⟨B,S,E,Q',hS,re,hF,lk⟩:=zZ;exact lk _ _ _ _ _ hF .refl re rfl rfl
theorem fc{n:Nat}(ha:QE X e (aJ K Fa))(hr:QA X es (dJ K n Fr))(hs:bO e=false:=by rfl):QA X (e::es) (dJ K (n+1) (m9 Fa Fr)):=by
 refine(qc ha hr hs).le λσ H Q zZ=>?_;obtain⟨B,S,E,Q',⟨τ,hS⟩,re,hF,lk⟩:=zZ;refine⟨B,S,E,_,⟨τ,hS⟩,re,hF,λr E1 v H1 S1 q g kq rr=>?_⟩;obtain⟨τ1,qg⟩:=g.pre;exact⟨B,S1,E1,_,⟨τ++τ1,by rw[qg,hS,TF]⟩,kq,q,λrs E2 vs H2 S2 q2 g2 mj rr2 hn=>lk _ _ _ _ _ q2 (g.trans g2) mj ⟨v,vs,rfl,rr.step g2,rr2⟩ (by rw[TB,hn])⟩
theorem args{G:List R->En->(R->En->Prop)->Prop}(h:aJ K (λE Q=>Fr E λrs E1=>G rs E1 Q) σ H Q){P:List V->Hp->Prop}(k:∀B S E rs vs H2 Q',(∃τ,S=σ++τ)->RE K B H2 S E->Vh K B H2 S E rs vs->vs.length=n->G rs E Q'->Lk K B H2 S E Q' Q->P vs H2):dJ K n Fr σ H P:=by
 obtain⟨B,S,E,Q',⟨τ,hS⟩,re,hF,lk⟩:=h;refine⟨B,S,E,_,⟨τ,hS⟩,re,hF,λr E1 v H1 S1 q g kq rr hn=>?_⟩;obtain⟨τ1,qg⟩:=g.pre;exact k B S1 E1 r v H1 Q' ⟨τ++τ1,by rw[qg,hS,TF]⟩ kq rr hn q (lk.step g)
def x6:List R->Option (List T)
 |[]=>oZ []
 |.p t::rs=>(x6 rs).map (t::·)
 |_=>none
theorem x8{B:ck->Prop}:∀{rs:List R}{vs:List V}{ts:List T},Vh K B H S E rs vs->x6 rs=oZ ts->cP K H (Ow B S E) ts vs
 |[],_,_,h,e=>by cases e;exact h
 |.p t::rs,_,ts,⟨v,ws,e1,h1,h2⟩,e=>by
  cases q:x6 rs with
  |none=>rw[x6,q]at e;cases e
  |some us=>
   rw[x6,q]at e;cases e;exact⟨v,ws,e1,h1,x8 h2 q⟩
 |.s _::_,_,_,_,e=>by cases e
def o1{α:Type}(x:Option α)(k:α->Prop):Prop:=match x with
 |some y=>k y
 |none=>False
theorem o1.ex{α:Type}{x:Option α}{k:α->Prop}(h:o1 x k):∃y,x=oZ y/\k y:=by
 cases x with
 |none=>exact h.elim
 |some y=>exact⟨y,rfl,h⟩
def OY(Fr:FA):FE:=λE Q=>Fr E λrs E1=>o1 (x6 rs) λts=>Q (.p (.tup ts)) E1
def OQ(Fr:FA):FE:=λE Q=>Fr E λrs E1=>o1 (x6 rs) λts=>Q (.s E1.length) (E1++[oZ (.o false ts)])
theorem aO{x1}(h:QA X es (dJ K n Fr))(hz:n<=9000:=by decide):QE X (.Tuple es x1 pos) (aJ K (OY Fr)):=by
 refine(C3 h).le λσ H Q hl h=>args (Fr:=Fr) h λB S E rs vs H2 Q' hS re rr hn q lk=>⟨by rw[hn];exact UX (bZ hz),λp hp=>?_⟩;obtain⟨ts,e,q⟩:=q.ex;obtain⟨g,km,rp⟩:=re.tup hp (x8 rr e);exact lk _ _ _ _ _ q g km rp
theorem cH(h:QA X es (dJ K n Fr))(hz:n<=9000:=by decide):QE X (.List es pos) (aJ K (OQ Fr)):=by
 refine(Mo h).le λσ H Q hl h=>args (Fr:=Fr) h λB S E rs vs H2 Q' hS re rr hn q lk=>⟨by rw[hn];exact UX (bZ hz),λp hp=>?_⟩;obtain⟨ts,e,q⟩:=q.ex;obtain⟨g,km⟩:=re.lst hp (x8 rr e);exact lk _ _ _ _ _ q g km (by rw[<-re.len];exact kC)
def LZ:T->Option (List T)
 |.tup xs=>oZ xs
 |.lst xs=>oZ xs
 |_=>none
def RF(x y:Option T)(k:T->Prop):Prop:=match x,y with
 |some (.tup xs),oZ (.int i)=>o1 (k8 xs i) k
 |some (.lst xs),oZ (.int i)=>o1 (k8 xs i) k
 |_,_=>False
theorem Vx{O:ck->Prop}{i:Int}(h:cP K H O xs vs)(e:k8 xs i=oZ t):∃v,k8 vs i=oZ v/\Rp K H O t v:=by
 unfold k8 at e⊢;rw[h.length];cases q:Py xs.length i with
 |none=>rw[q]at e;cases e
 |some j=>rw[q]at e;exact h.get e
def ON(Fa Fb:FE):FE:=λE Q=>Fa E λx E1=>Fb E1 λy E2=>RF (vl E2 x) (vl E2 y) λt=>Q (.p t) E2
theorem Z7(eK:X.K=K)(ha:QE X a (aJ K Fa))(hb:QE X b (aJ K Fb))(hs:rL b):QE X (.Subscript a b pos) (aJ K (ON Fa Fb)):=by
 subst eK;refine(AW Yj ha hb hs).le λσ H Q hl h=>two (Fa:=Fa) (Fb:=Fb) h λB S E x y v w H2 Q' hS re rx ry q lk=>?_;unfold RF at q;split at q
 ·rename_i xs i e1 e2;obtain⟨t,e3,q⟩:=q.ex;obtain⟨p,vs,rfl,sq,rs⟩:=re.vl rx e1;obtain⟨u,h1,h2⟩:=Vx rs e3;exact .inr (.inl ⟨p,vs,i,u,rfl,re.int ry e2,sq,h1,lk _ _ _ _ _ q .refl re h2⟩)
 ·rename_i xs i e1 e2;obtain⟨t,e3,q⟩:=q.ex;obtain⟨p,vs,rfl,sq,rs⟩:=re.vl rx e1;obtain⟨u,h1,h2⟩:=Vx rs e3;exact .inl ⟨p,vs,i,u,rfl,re.int ry e2,sq,h1,lk _ _ _ _ _ q .refl re h2⟩
 ·exact q.elim
def OP(Fr:FA):FE:=λE Q=>Fr E λrs E1=>match rs with
 |[x]=>o1 ((vl E1 x).bind LZ) λxs=>Q (.p (.int xs.length)) E1
 |_=>False
theorem gH(eK:X.K=K)(hg:Gl X "len")(hm:X.mg "len" = none)(ha:QA X (e::es) (dJ K n Fr))(hs:bW (e::es)=true:=by rfl):QE X (.Call (.Name "len" p) (e::es) [] pos) (aJ K (OP Fr)):=by
 subst eK;refine(i9 rS hg hm PySem.boot_len ha ∅ ∅ hs).le λσ H Q hl h=>args (Fr:=Fr) h λB S E rs vs H2 Q' hS re rr hn q lk=>?_
 match rs,rr,q with
 |[x],⟨v,ws,e1,h1,h2⟩,q=>
  cases h2;subst e1;obtain⟨xs,e2,q⟩:=o1.ex q;obtain⟨t,e3,e2⟩:=YL.mp e2;have rt:=re.vl h1 e3;cases t with
  |tup ys=>
   cases e2;obtain⟨p,us,rfl,sq,rs⟩:=rt;exact⟨p,us,rfl,.inr sq,by rw[rs.length];exact lk _ _ _ _ _ q .refl re rfl⟩
  |lst ys=>
   cases e2;obtain⟨p,us,rfl,sq,rs⟩:=rt;exact⟨p,us,rfl,.inl sq,by rw[rs.length];exact lk _ _ _ _ _ q .refl re rfl⟩
  |_=>cases e2
 |[],_,q=>exact q.elim
 |_::_::_,_,q=>exact q.elim
def OJ(Fr:FA):FE:=λE Q=>Fr E λrs E1=>match rs with
 |[x]=>i1 (vl E1 x) λi=>Q (.p (.int (i.natAbs:Int))) E1
 |_=>False
theorem tT(hg:Gl X "abs")(hm:X.mg "abs" = none)(ha:QA X (e::es) (dJ K n Fr))(hs:bW (e::es)=true:=by rfl):QE X (.Call (.Name "abs" p) (e::es) [] pos) (aJ K (OJ Fr)):=by
 refine(i9 Sx hg hm boot_abs ha ∅ ∅ hs).le λσ H Q hl h=>args (Fr:=Fr) h λB S E rs vs H2 Q' hS re rr hn q lk=>?_
 match rs,rr,q with
 |[x],⟨v,ws,e1,h1,h2⟩,q=>
  cases h2;subst e1;obtain⟨i,e2,q⟩:=i1.ex q;exact⟨i,by rw[re.int h1 e2],lk _ _ _ _ _ q .refl re rfl⟩
 |[],_,q=>exact q.elim
 |_::_::_,_,q=>exact q.elim
def JA(Fr:FA):FE:=λE Q=>Fr E λrs E1=>match rs with
 |[x]=>b1 (vl E1 x) λi=>Q (.p (.int (if i then 1 else 0))) E1
 |_=>False
theorem N7(hg:Gl X "int")(hm:X.mg "int" = none)(ha:QA X (e::es) (dJ K n Fr))(hs:bW (e::es)=true:=by rfl):QE X (.Call (.Name "int" p) (e::es) [] pos) (aJ K (JA Fr)):=by
 refine(qH Sy hg hm (by decide +kernel) ha ∅ ∅ hs).le λσ H Q hl h=>args (Fr:=Fr) h λB S E rs vs H2 Q' hS re rr hn q lk=>?_
 match rs,rr,q with
 |[x],⟨v,ws,e1,h1,h2⟩,q=>
  cases h2;subst e1;obtain⟨i,e2,q⟩:=b1.ex q;exact⟨i,by rw[re.bl h1 e2],lk _ _ _ _ _ q .refl re rfl⟩
 |[],_,q=>exact q.elim
 |_::_::_,_,q=>exact q.elim
def N2(Fr:FA):FE:=λE Q=>Fr E λrs E1=>match rs with
 |[x,y]=>i2 (vl E1 x) (vl E1 y) λi j=>(0<j/\j<2^200)/\Q (.p (.tup [.int (i/j),.int (i%j)])) E1
 |_=>False
theorem Tq(hg:Gl X "divmod")(hm:X.mg "divmod" = none)(ha:QA X (e::es) (dJ K n Fr))(hs:bW (e::es)=true:=by rfl):QE X (.Call (.Name "divmod" p) (e::es) [] pos) (aJ K (N2 Fr)):=by
 refine(i9 Cr hg hm boot_divmod ha ∅ ∅ hs).le λσ H Q hl h=>args (Fr:=Fr) h λB S E rs vs H2 Q' hS re rr hn q lk=>?_
 match rs,rr,q with
 |[x,y],⟨v,ws,e1,h1,w,yp,e2,h2,h3⟩,q=>
  cases h3;subst e2;subst e1;obtain⟨i,j,e3,e4,⟨c1,c2⟩,q⟩:=i2.ex q;refine⟨i,j,by rw[re.int h1 e3,re.int h2 e4],c1,c2,λp hp=>?_⟩;obtain⟨g,km,rp⟩:=re.tup (ts:=[.int (i/j),.int (i%j)]) (vs:=[.int (i/j),.int (i%j)]) hp ⟨_,_,rfl,rfl,_,_,rfl,rfl,rfl⟩;exact lk _ _ _ _ _ q g km rp
 |[],_,q=>exact q.elim
 |[_],_,q=>exact q.elim
 |_::_::_::_,_,q=>exact q.elim
end
structure ET where
 nx:En->Prop
 rt:R->En->Prop
 bk:En->Prop:=λ_=>False
 ct:En->Prop:=λ_=>False
abbrev FS:=ET->En->Prop
abbrev Gs(B:ck->Prop)(H:Hp)(S:St)(E:En)(H':Hp)(S':St)(E':En):Prop:=Kp (Ow B S E) (Ow B S' E') H H'
structure LS(K:W.Frag)(B:ck->Prop)(H:Hp)(σ:St)(E:En)(DT:ET)(D:pV):Prop where
 nx:∀σ' H' E',DT.nx E'->Gs B H σ E H' σ' E'->RE K B H' σ' E'->D.nx σ' H'
 rt:∀r E' v H' S',DT.rt r E'->Gs B H σ E H' S' E'->RE K B H' S' E'->RR K B H' S' E' r v->D.rt v H'
 bk:∀σ' H' E',DT.bk E'->Gs B H σ E H' σ' E'->RE K B H' σ' E'->D.bk σ' H'
 ct:∀σ' H' E',DT.ct E'->Gs B H σ E H' σ' E'->RE K B H' σ' E'->D.ct σ' H'
theorem LS.step{K:W.Frag}{B:ck->Prop}{H H':Hp}{σ σ':St}{E E':En}{DT:ET}{D:pV}(l:LS K B H σ E DT D)(g:Gs B H σ E H' σ' E'):LS K B H' σ' E' DT D:=
 ⟨λa b c d e=>l.nx a b c d (g.trans e),λa b c d e f h=>l.rt a b c d e f (g.trans h),λa b c d e=>l.bk a b c d (g.trans e),λa b c d e=>l.ct a b c d (g.trans e)⟩
def iO(K:W.Frag)(F:FS):TS:=λD σ H=>∃B E DT,RE K B H σ E/\F DT E/\LS K B H σ E DT D
theorem QS.le{X:Cx}{st:dh}{t t':TS}(h:QS X st t)(m:∀D σ H,σ.length=X.N.length->t' D σ H->t D σ H):QS X st t':=⟨λpins s σ H D I z=>h.h pins s σ H D I (m D σ H I.len z)⟩
theorem QB.le(h:QB X uy t)(m:∀D σ H,t' D σ H->t D σ H):QB X uy t':=⟨λpins s σ H D I z=>h.h pins s σ H D I (m D σ H z)⟩
theorem QG.le(h:QG X e t)(m:∀v σ H Q,σ.length=X.N.length->t' v σ H Q->t v σ H Q):QG X e t':=⟨λpins s σ H v u Q I r z=>h.h pins s σ H v u Q I r (m v σ H Q I.len z)⟩
theorem Km.le(h:Km X es t)(m:∀v σ H Q,t' v σ H Q->t v σ H Q):Km X es t':=⟨λpins s σ H v u Q I r z=>h.h pins s σ H v u Q I r (m v σ H Q z)⟩
theorem QI.le(h:QI X tg e t)(m:∀σ H Q,σ.length=X.N.length->t' σ H Q->t σ H Q):QI X tg e t':=⟨λpins s σ H R I z=>h.h pins s σ H R I (m σ H R I.len z)⟩
theorem RE.map{K:W.Frag}{B:ck->Prop}{H:Hp}{S:St}{S':St}{E:En}{E':En}(re:RE K B H S E)(hl:S'.length=E'.length)(hp:∀(i:Nat)(t:T),E'[i]?=oZ (oZ (.p t))->∃v,S'[i]?=oZ (oZ v)/\Rp K H (Ow B S E) t v)(f:Nat->Nat)(ho:∀(i:Nat)(k:Bool)(xs:List T),E'[i]?=oZ (oZ (.o k xs))->E[f i]?=oZ (oZ (.o k xs))/\∃a,S[f i]?=oZ (oZ (.ref a))/\S'[i]?=oZ (oZ (.ref a)))(hf:∀(i j:Nat)(k l:Bool)(xs ys:List T),E'[i]?=oZ (oZ (.o k xs))->E'[j]?=oZ (oZ (.o l ys))->f i=f j->i=j):RE K B H S' E'/\∀b,Ow B S' E' b->Ow B S E b:=by
 have ow:∀b,Ow B S' E' b->Ow B S E b:=λb z=>by
  obtain z|⟨i,k,xs,h1,h2⟩:=z
  ·exact .inl z
  obtain⟨h3,a,h4,h5⟩:=ho i k xs h1;rw[h2]at h5;cases h5;exact .inr ⟨f i,k,xs,h3,h4⟩
 refine⟨⟨hl,λi t h=>?_,λi k xs h=>?_,λi j k l xs ys a h1 h2 h3 h4=>?_,re.bd⟩,ow⟩
 ·obtain⟨v,h1,h2⟩:=hp i t h;exact⟨v,h1,h2.step (Kp.less ow)⟩
 ·obtain⟨h3,a,h4,h5⟩:=ho i k xs h;obtain⟨a',vs,q1,q2,q3,q4⟩:=re.own _ k xs h3;rw[h4]at q1;cases q1;exact⟨a,vs,h5,q2,q3.step (Kp.less ow),q4⟩
 ·obtain⟨p1,a1,p2,p3⟩:=ho i k xs h1;obtain⟨r1,a2,r2,r3⟩:=ho j l ys h2;rw[h3]at p3;cases p3;rw[h4]at r3;cases r3;exact hf i j k l xs ys h1 h2 (re.inj _ _ k l xs ys _ p1 r1 p2 r2)
theorem RE.cut{K:W.Frag}{B:ck->Prop}{H':Hp}{S':St}{E:En}{E':En}{σ:St}(re:RE K B H' S' E')(hS:∃τ,S'=σ++τ)(hl:σ.length=E.length):RE K B H' σ (E'.take E.length)/\∀b,Ow B σ (E'.take E.length) b->Ow B S' E' b:=by
 obtain⟨τ,rfl⟩:=hS;have e:(σ++τ).take E.length=σ:=by rw[<-hl];simp
 have:=re.take E.length;rw[e]at this;refine⟨this,λb z=>?_⟩;obtain z|⟨i,k,xs,h1,h2⟩:=z
 ·exact .inl z
 have hi:i<E.length:=by
  obtain c|c:=WR i E.length
  ·exact c
  ·rw[WY ⋯]at h1;cases h1
 exact .inr ⟨i,k,xs,by rw[WD hi]at h1;exact h1,e9 ⟨τ,rfl⟩ h2⟩
theorem RE.setP{K:W.Frag}{B:ck->Prop}{H:Hp}{S:St}{E:En}(re:RE K B H S E){i:Nat}{t:T}{v:V}(h:Rp K H (Ow B S E) t v):RE K B H (S.set i (oZ v)) (E.set i (oZ (.p t)))/\∀b,Ow B (S.set i (oZ v)) (E.set i (oZ (.p t))) b->Ow B S E b:=by
 refine re.map (by simp[re.len]) (λj u hj=>?_) id (λj k xs hj=>?_) (λ_ _ _ _ _ _ _ _ h=>h)
 ·rw[XS]at hj
  by_cases c:i=j
  ·subst c;rw[oV rfl]at hj;split at hj
   ·cases hj;rename_i hi;exact⟨v,by rw[VA (by rw[re.len];exact hi)],h⟩
   ·cases hj
  ·rw[oW c]at hj;obtain⟨w,h1,h2⟩:=re.pure j u hj;exact⟨w,by rw[UK c];exact h1,h2⟩
 ·rw[XS]at hj
  by_cases c:i=j
  ·subst c;rw[oV rfl]at hj;split at hj<;>cases hj
  ·rw[oW c]at hj;obtain⟨a,vs,h1,_⟩:=re.own j k xs hj;exact⟨hj,a,h1,by rw[UK c];exact h1⟩
theorem RE.setO{K:W.Frag}{B:ck->Prop}{H:Hp}{S:St}{E:En}{σ:St}(re:RE K B H S E)(hS:∃τ,S=σ++τ){i j:Nat}{k:Bool}{xs:List T}(hj:σ.length<=j)(hE:E[j]?=oZ (oZ (.o k xs))){v:V}(hv:S[j]?=oZ (oZ v)):
  RE K B H (σ.set i (oZ v)) ((E.take σ.length).set i (oZ (.o k xs)))/\∀b,Ow B (σ.set i (oZ v)) ((E.take σ.length).set i (oZ (.o k xs))) b->Ow B S E b:=by
 obtain⟨τ,rfl⟩:=hS;have hle:σ.length<=E.length:=by rw[<-re.len];simp
 have gt:∀{m:Nat}{x:Option U},(E.take σ.length)[m]?=oZ x->E[m]?=oZ x/\m<σ.length:=λ{m x}h=>by
  by_cases c:m<σ.length
  ·rw[WD c]at h;exact⟨h,c⟩
  ·rw[WY ⋯]at h;cases h
 refine re.map (by simp;lia) (λm u hm=>?_) (λm=>if m=i then j else m) (λm l ys hm=>?_) (λm n l l' ys zs h1 h2 h=>?_)
 ·rw[XS]at hm
  by_cases c:i=m
  ·subst c;rw[oV rfl]at hm;split at hm<;>cases hm
  ·rw[oW c]at hm;obtain⟨hm,lt⟩:=gt hm;obtain⟨w,h1,h2⟩:=re.pure m u hm;rw[UE lt]at h1;exact⟨w,by rw[UK c];exact h1,h2⟩
 ·rw[XS]at hm
  by_cases c:i=m
  ·subst c;rw[oV rfl]at hm;split at hm
   ·cases hm;rename_i hi;obtain⟨a,vs,h1,_⟩:=re.own j k xs hE;rw[hv]at h1;cases h1;rw[oV rfl];refine⟨hE,a,hv,?_⟩;rw[VA (by rw[UP]at hi;lia)]
   ·cases hm
  ·rw[oW c]at hm;obtain⟨hm,lt⟩:=gt hm;obtain⟨a,vs,h1,_⟩:=re.own m l ys hm;rw[oW (λz=>c z.symm)];refine⟨hm,a,h1,?_⟩;rw[UE lt]at h1;rw[UK c];exact h1
 ·have lt:∀{m:Nat}{l:Bool}{ys:List T},((E.take σ.length).set i (oZ (.o k xs)))[m]?=oZ (oZ (.o l ys))->m≠i->m<σ.length:=λ{m l ys}h1 c=>by
   rw[UK (λz=>c z.symm)]at h1;exact(gt h1).2
  by_cases c1:m=i
  ·by_cases c2:n=i
   ·rw[c1,c2]
   ·simp only[oV c1,oW c2]at h;have:=lt h2 c2
    lia
  ·by_cases c2:n=i
   ·simp only[oW c1,oV c2]at h;have:=lt h1 c1
    lia
   ·simp only[oW c1,oW c2]at h;exact h
theorem RE.frz{K:W.Frag}{B:ck->Prop}{H:Hp}{S:St}{E:En}(re:RE K B H S E){i:Nat}{xs:List T}(h:E[i]?=oZ (oZ (.o false xs))):RE K B H S (E.set i (oZ (.p (.lst xs))))/\∀b,Ow B S (E.set i (oZ (.p (.lst xs)))) b->Ow B S E b/\S[i]?≠oZ (oZ (.ref b)):=by
 have hi:i<E.length:=(SW.mp h).1;obtain⟨a,vs,h1,h2,h3,h4⟩:=re.own i false xs h;have get:∀{j:Nat}{u:U},(E.set i (oZ (.p (.lst xs))))[j]?=oZ (oZ u)->(j=i/\u = .p (.lst xs))\/(j≠i/\E[j]?=oZ (oZ u)):=λ{j u}hj=>by
  by_cases c:j=i
  ·subst c;rw[VA hi]at hj;cases hj;exact .inl ⟨rfl,rfl⟩
  ·rw[UK (λz=>c z.symm)]at hj;exact .inr ⟨c,hj⟩
 have ow:∀b,Ow B S (E.set i (oZ (.p (.lst xs)))) b->Ow B S E b/\S[i]?≠oZ (oZ (.ref b)):=λb z=>by
  obtain z|⟨j,k,ys,q1,q2⟩:=z
  ·refine⟨.inl z,λw=>?_⟩;rw[h1]at w;cases w;exact absurd (h4.mpr z) ∅
  obtain⟨_,z⟩|⟨c,q1⟩:=get q1
  ·cases z
  ·exact⟨.inr ⟨j,k,ys,q1,q2⟩,λz=>c (re.inj j i k false ys xs b q1 h q2 z)⟩
 have kl:Kp (Ow B S E) (Ow B S (E.set i (oZ (.p (.lst xs))))) H H:=Kp.less λb z=>(ow b z).1;refine⟨⟨by simp[re.len],λj t hj=>?_,λj k ys hj=>?_,λj m k l ys zs b q1 q2 q3 q4=>?_,re.bd⟩,ow⟩
 ·obtain⟨c,z⟩|⟨c,hj⟩:=get hj
  ·cases z;subst c;exact⟨_,h1,a,vs,rfl,.inl ⟨λz=>(ow a z).2 h1,.inl h2⟩,h3.step kl⟩
  ·obtain⟨w,q1,q2⟩:=re.pure j t hj;exact⟨w,q1,q2.step kl⟩
 ·obtain⟨_,z⟩|⟨c,hj⟩:=get hj
  ·cases z
  ·obtain⟨b,ws,q1,q2,q3,q4⟩:=re.own j k ys hj;exact⟨b,ws,q1,q2,q3.step kl,q4⟩
 ·obtain⟨_,z⟩|⟨_,q1⟩:=get q1
  ·cases z
  obtain⟨_,z⟩|⟨_,q2⟩:=get q2
  ·cases z
  exact re.inj j m k l ys zs b q1 q2 q3 q4
theorem RE.put{K:W.Frag}{B:ck->Prop}{H:Hp}{S:St}{E:En}(re:RE K B H S E){i:Nat}{k:Bool}{xs ys:List T}{a:ck}{ws:List V}(h:E[i]?=oZ (oZ (.o k xs)))(hS:S[i]?=oZ (oZ (.ref a)))(hw:cP K H (Ow B S E) ys ws):
  Gr B H S E (upd H a (.lst ws)) S (E.set i (oZ (.o k ys)))/\RE K B (upd H a (.lst ws)) S (E.set i (oZ (.o k ys))):=by
 have hi:i<E.length:=(SW.mp h).1;have get:∀{j:Nat}{u:U},(E.set i (oZ (.o k ys)))[j]?=oZ (oZ u)->(j=i/\u = .o k ys)\/(j≠i/\E[j]?=oZ (oZ u)):=λ{j u}hj=>by
  by_cases c:j=i
  ·subst c;rw[VA hi]at hj;cases hj;exact .inl ⟨rfl,rfl⟩
  ·rw[UK (λz=>c z.symm)]at hj;exact .inr ⟨c,hj⟩
 have ow:∀b,Ow B S (E.set i (oZ (.o k ys))) b->Ow B S E b:=λb z=>by
  obtain z|⟨j,l,zs,q1,q2⟩:=z
  ·exact .inl z
  obtain⟨c,z⟩|⟨c,q1⟩:=get q1
  ·subst c;exact .inr ⟨j,k,xs,h,q2⟩
  ·exact .inr ⟨j,l,zs,q1,q2⟩
 have oa:Ow B S E a:=.inr ⟨i,k,xs,h,hS⟩;have kk:∀b o,H b=oZ o->¬Ow B S E b->(upd H a (.lst ws)) b=oZ o:=λb o e n=>by rw[bD (λz=>n (by rw[z];exact oa))];exact e
 have kp:Kp (Ow B S E) (Ow B S E) H (upd H a (.lst ws)):=⟨kk,λb z=>.inl z⟩;refine⟨⟨⟨kk,λb z=>.inl (ow b z)⟩,[],by simp⟩,re.step kk (by simp) (λj t hj=>?_) (λj l zs hj=>?_) (λb hb=>?_)⟩
 ·obtain⟨_,z⟩|⟨_,hj⟩:=get hj
  ·cases z
  ·exact hj
 ·obtain⟨c,z⟩|⟨c,hj⟩:=get hj
  ·cases z;subst c;refine⟨xs,h,λb hb=>?_⟩;rw[hS]at hb;cases hb;exact⟨ws,dM,hw.step kp⟩
  ·refine⟨zs,hj,λb hb=>?_⟩;obtain⟨b',us,q1,q2,q3,_⟩:=re.own j l zs hj;rw[hb]at q1;cases q1;have nb:b≠a:=λz=>c (re.inj j i l k zs xs a hj h (by rw[<-z];exact hb) hS);exact⟨us,by rw[bD nb];exact q2,q3.step kp⟩
 ·by_cases c:b=a
  ·subst c;exact⟨ws,dM⟩
  ·rw[bD c];exact re.bd b hb
section
variable{X:Cx}{K:W.Frag}{pos:Pos}{a b c e o i:oC}{es rest:List oC}{Fa Fb Fc Fe Fo Fi:FE}{Fr:FA}{Fp Fq:FB}{F G:FS}{st:dh}{uy body b1' b2':List dh}
def t6:En->(En->Prop)->Prop
 |[],k=>k []
 |x::r,k=>t6 r λr'=>k (x::r')
theorem iJ:∀{E:En}{k:En->Prop},t6 E k->k E
 |[],_,h=>h
 |x::r,k,h=>iJ (E:=r) (k:=λr'=>k (x::r')) h
def LU:FS:=λD E=>D.nx E
def LX(F G:FS):FS:=λD E=>F { D with nx:=λE'=>t6 E' (G D) } E
theorem cG:QB X [] (iO K LU):=GF.le λD σ H zZ=>by obtain⟨B,E,DT,re,hF,l⟩:=zZ;exact l.nx _ _ _ hF (Kp.refl _ _) re
theorem aB(h1:QS X st (iO K F))(h2:QB X uy (iO K G)):QB X (st::uy) (iO K (LX F G)):=
 (sQ h1 h2).le λD σ H zZ=>by obtain⟨B,E,DT,re,hF,l⟩:=zZ;exact⟨B,E,_,re,hF,⟨λσ' H' E' hG g km=>⟨B,E',DT,km,iJ hG,l.step g⟩,l.rt,l.bk,l.ct⟩⟩
theorem aE(h1:QS X st (iO K F)):QB X [st] (iO K F):=Mn h1
def LW(Fa:FE):FS:=λD E=>Fa E D.rt
theorem aP(h:QE X e (aJ K Fa)):QS X (.Return (oZ e) pos) (iO K (LW Fa)):=
 (C5 h).le λD σ H hl zZ=>by obtain⟨B,E,DT,re,hF,l⟩:=zZ;exact⟨B,σ,E,_,⟨[],by simp⟩,re,hF,λr E' v H' S' q g km rr=>l.rt r E' v H' S' q g.kp km rr⟩
theorem Ky{D:Bool->Hp->Prop}{B:ck->Prop}{P:Bool->En->Prop}(re:RE K B H σ E)(hF:Fp E λb E'=>P b (E'.take E.length))(k:∀b H' E',P b E'->Gs B H σ E H' σ E'->RE K B H' σ E'->D b H'):fY K Fp σ H D:=
 ⟨B,σ,E,_,⟨[],by simp⟩,re,hF,λb E' H' S' q g km=>by
  obtain⟨r,ow⟩:=km.cut (E:=E) g.pre re.len;exact k b H' _ q (g.kp.trans (Kp.less ow)) r⟩
theorem Kz{P:R->En->En->Prop}{B:ck->Prop}(re:RE K B H σ E)(hF:Fa E λr E'=>P r E' (E'.take E.length))(k:∀r E' v H' S',P r E' (E'.take E.length)->Gr B H σ E H' S' E'->RE K B H' S' E'->RR K B H' S' E' r v->RE K B H' σ (E'.take E.length)->(∀b,Ow B σ (E'.take E.length) b->Ow B S' E' b)->Q v H'):aJ K Fa σ H Q:=
 ⟨B,σ,E,_,⟨[],by simp⟩,re,hF,λr E' v H' S' q g km rr=>by
  obtain⟨r2,ow⟩:=km.cut (E:=E) g.pre re.len;exact k r E' v H' S' q g km rr r2 ow⟩
def SK(Fp:FB)(F G:FS):FS:=λD E=>Fp E λb E'=>if b=true then t6 (E'.take E.length) (F D)else t6 (E'.take E.length) (G D)
theorem dG(hc:QT X c (fY K Fp))(ha:QB X b1' (iO K F))(hb:QB X b2' (iO K G)):QS X (.If c b1' b2' pos) (iO K (SK Fp F G)):=
 (LF hc ha hb).le λD σ H hl⟨B,E,DT,re,hF,l⟩=>Ky (P:=λb E'=>if b=true then t6 E' (F DT)else t6 E' (G DT)) re hF λb H' E' q g km=>by
  cases b
  ·exact⟨B,E',DT,km,iJ q,l.step g⟩
  ·exact⟨B,E',DT,km,iJ q,l.step g⟩
def AX(Fa:FE):FS:=λD E=>Fa E λ_ E'=>D.nx (E'.take E.length)
theorem e7(he:QE X e (aJ K Fa))(hs:fo e none pos.line X.env=pure false:=by rfl):QS X (.Expr e pos) (iO K (AX Fa)):=
 (Qu he hs).le λD σ H hl zZ=>by obtain⟨B,E,DT,re,hF,l⟩:=zZ;exact Kz (P:=λ_ _ E'=>DT.nx E') re hF λr E' v H' S' q g km rr mj ow=>l.nx _ _ _ q (g.kp.trans (Kp.less ow)) mj
def W6(Fp:FB):FS:=λD E=>Fp E λb E'=>b=true/\D.nx (E'.take E.length)
theorem Tu(hc:QT X c (fY K Fp)):QS X (.Assert c m pos) (iO K (W6 Fp)):=
 (Uu hc).le λD σ H hl zZ=>by obtain⟨B,E,DT,re,hF,l⟩:=zZ;exact Ky (P:=λb E'=>b=true/\DT.nx E') re hF λb H' E' q g km=>⟨q.1,l.nx _ _ _ q.2 g km⟩
def pick(n:Nat)(E:En):R->Option U
 |.p t=>oZ (.p t)
 |.s j=>match E[j]? with
  |some (oZ (.p t))=>oZ (.p t)
  |some (oZ (.o k xs))=>if n<=j then oZ (.o k xs)else none
  |_=>none
theorem lY{B:ck->Prop}{σ:St}{E:En}{i:Nat}(re:RE K B H S E)(hS:∃τ,S=σ++τ)(rr:RR K B H S E r v)(h:pick σ.length E r=oZ u):
  RE K B H (σ.set i (oZ v)) ((E.take σ.length).set i (oZ u))/\∀b,Ow B (σ.set i (oZ v)) ((E.take σ.length).set i (oZ u)) b->Ow B S E b:=by
 have aDE:∀{t:T},Rp K H (Ow B S E) t v->RE K B H (σ.set i (oZ v)) ((E.take σ.length).set i (oZ (.p t)))/\∀b,Ow B (σ.set i (oZ v)) ((E.take σ.length).set i (oZ (.p t))) b->Ow B S E b:=λ{t}hp=>by
  obtain⟨τ,rfl⟩:=hS;have mj:=re.take σ.length;rw[show(σ++τ).take σ.length=σ by simp]at mj;have ow:∀b,Ow B σ (E.take σ.length) b->Ow B (σ++τ) E b:=λb z=>by
   obtain z|⟨j,k,xs,h1,h2⟩:=z
   ·exact .inl z
   have hj:j<σ.length:=(SW.mp h2).1;exact .inr ⟨j,k,xs,by rw[WD hj]at h1;exact h1,e9 ⟨τ,rfl⟩ h2⟩
  obtain⟨q1,q2⟩:=mj.setP (i:=i) (hp.step (Kp.less ow));exact⟨q1,λb z=>ow b (q2 b z)⟩
 cases r with
 |p t=>cases h;exact aDE rr
 |s j=>
  cases q:E[j]? with
  |none=>simp only[pick,q]at h;cases h
  |some w=>
   cases w with
   |none=>simp only[pick,q]at h;cases h
   |some w=>
    cases w with
    |p t=>
     simp only[pick,q]at h;cases h;obtain⟨v',h1,h2⟩:=re.pure j t q;have rr':S[j]?=oZ (oZ v):=rr;rw[rr']at h1;cases h1;exact aDE h2
    |o k xs=>
     simp only[pick,q]at h;split at h
     ·cases h;rename_i c;exact re.setO hS c q rr
     ·cases h
def D3(i:Nat)(Fa:FE):FS:=λD E=>Fa E λr E'=>o1 (pick E.length E' r) λu=>D.nx ((E'.take E.length).set i (oZ u))
theorem DN{i:Nat}{x:Str}(hN:X.N.Nodup)(hi:X.N[i]?=oZ x)(hx:y8 X.env.scope x)(he:QE X e (aJ K Fa))(hs:fo e (oZ (.Name x pos')) pos.line X.env=pure false:=by rfl)(hf:X.fn x=true\/X.env.scope.names.lookup x=oZ .local:=by first|exact .inl rfl|exact .inr rfl|assumption):QS X (.Assign [.Name x pos'] e pos) (iO K (D3 i Fa)):=
 (Er hN hi hx he hs hf).le λD σ H hl⟨B,E,DT,re,hF,l⟩=>⟨B,σ,E,_,⟨[],by simp⟩,re,hF,λr E' v H' S' q g km rr=>by
  obtain⟨u,e1,q⟩:=q.ex;rw[<-re.len]at e1 q;obtain⟨r1,ow⟩:=lY (i:=i) km g.pre rr e1;exact l.nx _ _ _ q (g.kp.trans (Kp.less ow)) r1⟩
end
abbrev FG:=T->En->(En->Prop)->Prop
abbrev Vo:=List T->En->(En->Prop)->Prop
def pJ(K:W.Frag)(G:FG):TG:=λv σ H Q=>∃B τ E t Q',RE K B H (σ++τ) E/\Rp K H (Ow B (σ++τ) E) t v/\G t E Q'/\∀σ' H' E',Q' E'->Gs B H (σ++τ) E H' (σ'++τ) E'->RE K B H' (σ'++τ) E'->σ'.length=σ.length->Q σ' H'
def yO(K:W.Frag)(G:Vo):M3:=λvs σ H Q=>∃B τ E ts Q',RE K B H (σ++τ) E/\cP K H (Ow B (σ++τ) E) ts vs/\G ts E Q'/\∀σ' H' E',Q' E'->Gs B H (σ++τ) E H' (σ'++τ) E'->RE K B H' (σ'++τ) E'->σ'.length=σ.length->Q σ' H'
def Ih(i:Nat):FG:=λt E Q=>Q (E.set i (oZ (.p t)))
def JR:Vo:=λts E Q=>match ts with
 |[]=>Q E
 |_=>False
def AK(g:FG)(gs:Vo):Vo:=λts E Q=>match ts with
 |t::r=>g t E λE'=>gs r E' Q
 |[]=>False
def JS(n:Nat)(gs:Vo):FG:=λt E Q=>match t with
 |.tup ts=>cond (ZJ ts.length n) (gs ts E Q) False
 |_=>False
def PF(Fo Fi:FE):FG:=λt E Q=>Fo E λr E1=>Fi E1 λz E2=>match r with
 |.s j=>match E2[j]? with
  |some (oZ (.o k xs))=>i1 (vl E2 z) λm=>o1 (Py xs.length m) λl=>Q ((E2.set j (oZ (.o k (xs.set l t)))).take E.length)
  |_=>False
 |_=>False
section
variable{X:Cx}{K:W.Frag}{pos:Pos}{a b c e o i:oC}{es rest:List oC}{Fa Fb Fc Fe Fo Fi:FE}{Fr:FA}{Fp Fq:FB}{F G:FS}{st:dh}{uy body:List dh}{g:FG}{gs:Vo}
theorem Ph{i:Nat}{x:Str}(hN:X.N.Nodup)(hi:X.N[i]?=oZ x)(hx:y8 X.env.scope x)(hf:X.fn x=true\/X.env.scope.names.lookup x=oZ .local:=by first|exact .inl rfl|exact .inr rfl|assumption):QG X (.Name x pos) (pJ K (Ih i)):=
 (sR hN hi hx hf).le λv σ H Q hl zZ=>by
  obtain⟨B,τ,E,t,Q',re,rp,hF,l⟩:=zZ;have pj:i<σ.length:=by rw[hl];exact(SW.mp hi).1
  obtain⟨r1,ow⟩:=re.setP (i:=i) rp;rw[YY _ _ pj]at r1 ow;exact l _ _ _ hF (Kp.less ow) r1 (by simp)
theorem bS:Km X [] (yO K JR):=Ep.le λvs σ H Q zZ=>by
 obtain⟨B,τ,E,ts,Q',re,rp,hF,l⟩:=zZ;cases ts with
 |nil=>exact⟨rp,l _ _ _ hF (Kp.refl _ _) re rfl⟩
 |cons _ _=>exact hF.elim
theorem aF(h1:QG X e (pJ K g))(h2:Km X es (yO K gs))(hs:(dq (e::es) X.env).map (·.2)=ic e X.env::(dq es X.env).map (·.2):=by rfl):Km X (e::es) (yO K (AK g gs)):=
 (sS h1 h2 hs).le λvs σ H Q zZ=>by
  obtain⟨B,τ,E,ts,Q',re,rp,hF,l⟩:=zZ;cases ts with
  |nil=>exact hF.elim
  |cons t ts=>
   obtain⟨v,r,e1,h1,h2⟩:=rp;exact⟨v,r,e1,B,τ,E,t,_,re,h1,hF,λσ' H' E' q g km hl=>⟨B,τ,E',ts,Q',km,h2.step g,q,λσ2 H2 E2 q2 g2 mj hl2=>l _ _ _ q2 (g.trans g2) mj (hl2.trans hl)⟩⟩
theorem cM(eK:X.K=K)(hc:X.calm=true)(h:Km X es (yO K gs))(hn:(dq es X.env).length=n:=by rfl)(xb:(dq es X.env).findIdx? (·.1)=none:=by rfl):QG X (.Tuple es k pos) (pJ K (JS n gs)):=by
 subst eK;refine(Mq hc h hn xb).le λv σ H Q hl zZ=>?_;obtain⟨B,τ,E,t,Q',re,rp,hF,l⟩:=zZ;cases t with
 |tup ts=>
  have uz:cond (ZJ ts.length n) (gs ts E Q') False:=hF;cases q:ZJ ts.length n with
  |false=>rw[q]at uz;exact uz.elim
  |true=>
   rw[q]at uz;obtain⟨p,vs,e1,sq,rs⟩:=rp.sqT;exact⟨p,vs,e1,sq,by rw[rs.length];exact YU q,B,τ,E,ts,Q',re,rs,uz,l⟩
 |_=>exact hF.elim
theorem Ln(ho:QE X o (aJ K Fo))(hi:QE X i (aJ K Fi))(ha:∀v,ic (.Subscript o i pos) X.env v=(do
   let ov <-ig [v] (dw o X.env)
   let iv <-ig [v,ov] (dw i X.env)
   standAt pos
   ig [v,ov,iv] (setItem ov iv v)
   release [v,ov,iv] []):=by intro _;rfl):QG X (.Subscript o i pos) (pJ K (PF Fo Fi)):=by
 refine(GJ ho hi F4 ha).le λv σ H Q hl zZ=>?_;obtain⟨B,τ,E,t,Q',re,rp,hF,l⟩:=zZ;refine⟨B,σ++τ,E,_,⟨τ,rfl⟩,re,hF,λr E1 w H1 S1 q g1 kq rr=>?_⟩;obtain⟨τ1,qg⟩:=g1.pre;refine⟨B,S1,E1,_,⟨τ++τ1,by rw[qg,TF]⟩,kq,q,λz E2 y H2 S2 q2 g2 mj rr2=>?_⟩;have g12:=g1.trans g2;cases r with
 |p _=>exact q2.elim
 |s j=>
  have rj:S2[j]?=oZ (oZ w):=e9 g2.pre rr;cases hE:E2[j]? with
  |none=>simp only[hE]at q2
  |some u=>
   cases u with
   |none=>simp only[hE]at q2
   |some u=>
    cases u with
    |p _=>simp only[hE]at q2
    |o k xs=>
     simp only[hE]at q2;obtain⟨m,e1,q2⟩:=q2.ex;obtain⟨n,e2,q2⟩:=q2.ex;obtain⟨p,vs,h1,h2,h3,h4⟩:=mj.own j k xs hE;rw[rj]at h1;cases h1;refine⟨p,vs,m,n,rfl,mj.int rr2 e1,h2,by rw[h3.length];exact e2,?_⟩;obtain⟨g3,oj⟩:=mj.put (ys:=xs.set n t) (ws:=vs.set n v) hE rj (h3.set (rp.step g12.kp) n);obtain⟨yi,ow⟩:=oj.cut (E:=E) (g12.trans g3).pre re.len;exact l _ _ _ q2 ((g12.trans g3).kp.trans (Kp.less ow)) yi rfl
def QL(Fa:FE)(g:FG):FS:=λD E=>Fa E λr E'=>match r with
 |.p t=>g t (E'.take E.length) D.nx
 |.s _=>False
theorem kS(he:QE X e (aJ K Fa))(hg:QG X tg (pJ K g))(hs:fu [tg] e pos.line X.env=pure false:=by rfl)(hw:fw [tg] e X.env=pure none:=by rfl)(h1:(dq [tg] X.env).map (·.2)=[ic tg X.env]:=by rfl):QS X (.Assign [tg] e pos) (iO K (QL Fa g)):=
 (C4 he hg hs hw h1).le λD σ H hl⟨B,E,DT,re,hF,l⟩=>Kz (P:=λr _ E'=>match r with|.p t=>g t E' DT.nx|.s _=>False) re hF λr E' v H' S' q g' km rr mj ow=>by
  cases r with
  |s _=>exact q.elim
  |p t=>exact⟨B,[],_,t,_,by rw[UH];exact mj,by rw[UH];exact Rp.step (Kp.less ow) rr,q,λσ2 H2 E2 q2 g2 oj _=>by rw[UH]at g2 oj;rw[UH]at g2;exact l.nx _ _ _ q2 ((g'.kp.trans (Kp.less ow)).trans g2) oj⟩
def QN(i j:Nat)(Fr:FA):FS:=λD E=>Fr E λrs E'=>match rs with
 |[.p t,r]=>o1 (pick E.length E' r) λu=>D.nx (((E'.take E.length).set j (oZ u)).set i (oZ (.p t)))
 |[r,.p t]=>o1 (pick E.length E' r) λu=>D.nx (((E'.take E.length).set i (oZ u)).set j (oZ (.p t)))
 |_=>False
theorem gJ{n i j:Nat}{x y:Str}{kt k2 pt2}(hc:X.calm=true)(hN:X.N.Nodup)(hi:X.N[i]?=oZ x)(hj:X.N[j]?=oZ y)(xw:i≠j)(hx:X.env.scope.names.lookup x=oZ .local)(hy:X.env.scope.names.lookup y=oZ .local)(ha:QA X [a,b] (dJ K n Fr))(hw:fw [.Tuple [.Name x px,.Name y py] kt pt] (.Tuple [a,b] k2 pt2) X.env=pure (oZ [x,y]))(hs:fu [.Tuple [.Name x px,.Name y py] kt pt] (.Tuple [a,b] k2 pt2) pos.line X.env=pure false:=by rfl):
  QS X (.Assign [.Tuple [.Name x px,.Name y py] kt pt] (.Tuple [a,b] k2 pt2) pos) (iO K (QN i j Fr)):=by
 refine(GL hc hN hi hj xw hx hy ha hw hs).le λD σ H hl⟨B,E,DT,re,hF,l⟩=>⟨B,σ,E,_,⟨[],by simp⟩,re,hF,λrs E' vs H' S' q g km rr hn=>?_⟩;split at q
 ·rename_i t r;obtain⟨v,ws,e1,h1,w,yp,e2,h2,h3⟩:=rr;cases h3;subst e2;subst e1;obtain⟨u,e3,q⟩:=q.ex;rw[<-re.len]at e3 q;obtain⟨r1,ow⟩:=lY (i:=j) km g.pre h2 e3;obtain⟨r2,ow2⟩:=r1.setP (i:=i) (Rp.step (Kp.less ow) h1);refine⟨v,w,rfl,?_⟩;rw[YB _ _ xw];exact l.nx _ _ _ q (g.kp.trans (Kp.less λb z=>ow b (ow2 b z))) r2
 ·rename_i r t _;obtain⟨v,ws,e1,h1,w,yp,e2,h2,h3⟩:=rr;cases h3;subst e2;subst e1;obtain⟨u,e3,q⟩:=q.ex;rw[<-re.len]at e3 q;obtain⟨r1,ow⟩:=lY (i:=i) km g.pre h1 e3;obtain⟨r2,ow2⟩:=r1.setP (i:=j) (Rp.step (Kp.less ow) h2);exact⟨v,w,rfl,l.nx _ _ _ q (g.kp.trans (Kp.less λb z=>ow b (ow2 b z))) r2⟩
 ·exact q.elim
def LV(i j k:Nat)(Fr:FA):FS:=λD E=>Fr E λrs E'=>match rs with
 |[r,.p t,.p w]=>o1 (pick E.length E' r) λu=>D.nx ((((E'.take E.length).set i (oZ u)).set j (oZ (.p t))).set k (oZ (.p w)))
 |_=>False
theorem Pm{n i j k:Nat}{x y z:Str}{kt k2 pt2}(hc:X.calm=true)(hN:X.N.Nodup)(hi:X.N[i]?=oZ x)(hj:X.N[j]?=oZ y)(hk:X.N[k]?=oZ z)(xw:i≠j)(hik:i≠k)(yh:j≠k)(hx:X.env.scope.names.lookup x=oZ .local)(hy:X.env.scope.names.lookup y=oZ .local)(hz:X.env.scope.names.lookup z=oZ .local)(ha:QA X [a,b,c] (dJ K n Fr))(hw:fw [.Tuple [.Name x px,.Name y py,.Name z pz] kt pt] (.Tuple [a,b,c] k2 pt2) X.env=pure (oZ [x,y,z]))(hs:fu [.Tuple [.Name x px,.Name y py,.Name z pz] kt pt] (.Tuple [a,b,c] k2 pt2) pos.line X.env=pure false:=by rfl):
  QS X (.Assign [.Tuple [.Name x px,.Name y py,.Name z pz] kt pt] (.Tuple [a,b,c] k2 pt2) pos) (iO K (LV i j k Fr)):=by
 refine(W2 hc hN hi hj hk xw hik yh hx hy hz ha hw hs).le λD σ H hl⟨B,E,DT,re,hF,l⟩=>⟨B,σ,E,_,⟨[],by simp⟩,re,hF,λrs E' vs H' S' q g km rr hn=>?_⟩;split at q
 ·rename_i r t w;obtain⟨v1,ws1,e1,h1,v2,ws2,e2,h2,v3,ws3,e3,h3,h4⟩:=rr;cases h4;subst e3;subst e2;subst e1;obtain⟨u,e4,q⟩:=q.ex;rw[<-re.len]at e4 q;obtain⟨r1,ow⟩:=lY (i:=i) km g.pre h1 e4;obtain⟨r2,ow2⟩:=r1.setP (i:=j) (Rp.step (Kp.less ow) h2);obtain⟨r3,ow3⟩:=r2.setP (i:=k) (Rp.step (Kp.less λb z=>ow b (ow2 b z)) h3);exact⟨v1,v2,v3,rfl,l.nx _ _ _ q (g.kp.trans (Kp.less λb z=>ow b (ow2 b (ow3 b z)))) r3⟩
 ·exact q.elim
def GY(Fp:FB)(F:FS):FS:=λD E=>∃W:Nat->En->Prop,(∃m,W m E)/\∀m E,W m E->Fp E λb E'=>if b=true then F { D with nx:=λE2=>∃m',m'<m/\W m' E2,ct:=λE2=>∃m',m'<m/\W m' E2,bk:=D.nx } (E'.take E.length)else D.nx (E'.take E.length)
theorem xO(hp:PassesOwn (df X.prog X.w) X.A X.env X.xe)(hc:QT X c (fY K Fp))(hb:QB X body (iO K F)):QS X (.While c body [] pos) (iO K (GY Fp F)):=by
 refine(C6 hp hc hb).le λD σ H hl zZ=>?_;obtain⟨B,E,DT,re,⟨W,⟨m0,w0⟩,hF⟩,l⟩:=zZ;refine⟨λm σ' H'=>∃E',W m E'/\Gs B H σ E H' σ' E'/\RE K B H' σ' E',⟨m0,E,w0,Kp.refl _ _,re⟩,?_⟩;rintro m σ1 H1 ⟨E1,w1,g1,kq⟩;refine Ky (P:=λb E'=>if b=true then F { DT with nx:=λE2=>∃m',m'<m/\W m' E2,ct:=λE2=>∃m',m'<m/\W m' E2,bk:=DT.nx } E' else DT.nx E') kq (hF m E1 w1) λb H2 E2 q g2 mj=>?_;cases b
 ·exact l.nx _ _ _ q (g1.trans g2) mj
 ·refine⟨λσ' H'=>∃m',m'<m/\∃E',W m' E'/\Gs B H σ E H' σ' E'/\RE K B H' σ' E',λσ' H' z=>z,B,E2,_,mj,q,?_⟩;have l2:=l.step (g1.trans g2);exact⟨λσ' H' E' zZ g km=>by obtain⟨m',hm,w⟩:=zZ;exact⟨m',hm,E',w,(g1.trans g2).trans g,km⟩,l2.rt,λσ' H' E' z g km=>l2.nx _ _ _ z g km,λσ' H' E' zZ g km=>by obtain⟨m',hm,w⟩:=zZ;exact⟨m',hm,E',w,(g1.trans g2).trans g,km⟩⟩
structure Sr(K:W.Frag)(J:It)(items:List T)(gd:Hp->(ck->Prop)->Prop):Prop where
 keep:∀H H' O O',Kp O O' H H'->gd H O->gd H' O'
 go:∀i H O,gd H O->i<items.length->J.go i H
 yld:∀i H O x H' t,gd H O->items[i]?=oZ t->(∀a,O a->H a≠none)->J.yld i H x H'->Kp O O H H'/\(∀b o,H b=oZ o->H' b=oZ o)/\Rp K H' O t x
 stop:∀H O,gd H O->J.stop items.length H
abbrev FI:=En->(List T->List Nat->En->Prop)->Prop
def kL(K:W.Frag)(F:FI):TI:=λσ H R=>∃B S E Q',(∃τ,S=σ++τ)/\RE K B H S E/\F E Q'/\∀J items us E' H' S' gd,Q' items us E'->Gr B H S E H' S' E'->RE K B H' S' E'->Sr K J items gd->(∀j∈us,∃k xs,E'[j]?=oZ (oZ (U.o k xs)))->
 (∀O:ck->Prop,(∀b,O b->Ow B S' E' b)->(∀j∈us,∀a,S'[j]?=oZ (oZ (.ref a))->¬O a)->gd H' O)->R J H'
def frzs:List Nat->En->Option En
 |[],E=>oZ E
 |j::us,E=>match E[j]? with
  |some (oZ (.o false xs))=>frzs us (E.set j (oZ (.p (.lst xs))))
  |_=>none
theorem Dn{B:ck->Prop}:∀{us:List Nat}{E E':En},RE K B H S E->frzs us E=oZ E'->RE K B H S E'/\(∀b,Ow B S E' b->Ow B S E b)/\(∀j∈us,∀a,S[j]?=oZ (oZ (.ref a))->¬Ow B S E' a)/\E'.length=E.length
 |[],E,E',re,h=>by cases h;exact⟨re,λb z=>z,λj hj=>absurd hj (by simp),rfl⟩
 |j::us,E,E',re,h=>by
  cases q:E[j]? with
  |none=>simp only[frzs,q]at h;cases h
  |some u=>
   cases u with
   |none=>simp only[frzs,q]at h;cases h
   |some u=>
    cases u with
    |p t=>simp only[frzs,q]at h;cases h
    |o k xs=>
     cases k
     ·simp only[frzs,q]at h;obtain⟨s1,s2⟩:=re.frz q;obtain⟨r1,r2,r3,r4⟩:=Dn s1 h;refine⟨r1,λb z=>(s2 b (r2 b z)).1,λm hm a ha z=>?_,by rw[r4];simp⟩;obtain rfl|hm:=SU.mp hm
      ·exact(s2 a (r2 a z)).2 ha
      ·exact r3 m hm a ha z
     ·simp only[frzs,q]at h;cases h
def dU(g:FG)(F:FS)(D:ET):List T->En->Prop
 |[],E=>D.nx E
 |x::xs,E=>g x E λE'=>t6 E' (F { D with nx:=dU g F D xs,ct:=dU g F D xs,bk:=D.nx })
def LP(I:FI)(g:FG)(F:FS):FS:=λD E=>I E λitems us E'=>o1 (frzs us E') λE2=>t6 (E2.take E.length) (dU g F D items)
theorem eS(hp:PassesOwn (df X.prog X.w) X.A X.env X.xe)(hc:X.calm=true)(hi:QI X tg iter (kL K I))(hg:QG X tg (pJ K g))(hb:QB X body (iO K F))(hs:∀x,dr iter X.env x=pure x:=by intro _;rfl):
  QS X (.For tg iter body [] pos) (iO K (LP I g F)):=by
 refine(Mr hp hc hi hg hb hs).le λD σ H hl zZ=>?_;obtain⟨B,E,DT,re,hF,l⟩:=zZ;refine⟨B,σ,E,_,⟨[],by simp⟩,re,hF,λJ items us E1 H1 S1 gd q g1 kq ok _ hgd=>?_⟩;obtain⟨E2,e2,q⟩:=q.ex;replace q:=iJ q;obtain⟨f1,f2,f3,f4⟩:=Dn kq e2;obtain⟨c1,c2⟩:=f1.cut (E:=E) g1.pre re.len;have gs:Gs B H σ E H1 σ (E2.take E.length):=g1.kp.trans ((Kp.less f2).trans (Kp.less c2));have gd1:gd H1 (Ow B σ (E2.take E.length)):=hgd _ (λb z=>f2 b (c2 b z)) λj hj a ha z=>f3 j hj a ha (c2 a z);refine⟨λi m σ' H'=>m=items.length-i/\i<=items.length/\∃E',dU g F DT (items.drop i) E'/\Gs B H σ E H' σ' E'/\RE K B H' σ' E'/\gd H' (Ow B σ' E'),⟨_,rfl,VZ _,_,q,gs,c1,gd1⟩,?_⟩;rintro i m σ2 H2 ⟨rfl,hi',E3,q3,g3,oj,yc⟩;obtain pj|hge:=WR i items.length
 ·have hd:items.drop i=items[i]::items.drop (i+1):=VT pj;rw[hd]at q3;refine .inr ⟨ok.go i H2 _ yc pj,λσ' H'=>∃E',dU g F DT (items.drop (i+1)) E'/\Gs B H σ E H' σ' E'/\RE K B H' σ' E'/\gd H' (Ow B σ' E'),λσ' H' zZ=>by obtain⟨E',z⟩:=zZ;exact⟨items.length-(i+1),⋯,rfl,pj,E',z⟩,λx H4 y=>?_⟩;obtain⟨k4,s4,rp⟩:=ok.yld i H2 _ x H4 _ yc (SX pj) (λa z=>by obtain⟨vs,e⟩:=oj.ow z;rw[e];intro z;cases z) y;have yi:=oj.kept s4;have gd4:=ok.keep _ _ _ _ k4 yc;refine⟨B,[],E3,_,_,by rw[UH];exact yi,by rw[UH];exact rp,q3,λσ5 H5 E5 q5 g5 ux hl5=>?_⟩;rw[UH]at g5 ux;rw[UH]at g5;have gd5:=ok.keep _ _ _ _ g5 gd4;have gg:=(g3.trans k4).trans g5;have l5:=l.step gg;refine⟨B,E5,_,ux,iJ q5,?_⟩;exact⟨λσ' H' E' z g km=>⟨E',z,gg.trans g,km,ok.keep _ _ _ _ g gd5⟩,l5.rt,λσ' H' E' z g km=>l5.nx _ _ _ z g km,λσ' H' E' z g km=>⟨E',z,gg.trans g,km,ok.keep _ _ _ _ g gd5⟩⟩
 ·have ei:i=items.length:=⋯
  subst ei;rw[WV]at q3;exact .inl ⟨ok.stop H2 _ yc,l.nx _ _ _ q3 g3 oj⟩
def tH(E:En):R->List Nat
 |.p _=>[]
 |.s j=>match E[j]? with
  |some (oZ (.o _ _))=>[j]
  |_=>[]
theorem wK:∀j∈tH E r,∃k xs,E[j]?=oZ (oZ (U.o k xs)):=λj hj=>by
 cases r with
 |p _=>simp[tH]at hj
 |s m=>
  cases q:E[m]? with
  |none=>simp[tH,q]at hj
  |some u=>
   cases u with
   |none=>simp[tH,q]at hj
   |some u=>
    cases u with
    |p _=>simp[tH,q]at hj
    |o k xs=>simp[tH,q]at hj;subst hj;exact⟨k,xs,q⟩
theorem pP{B:ck->Prop}(re:RE K B H S E)(rr:RR K B H S E r v)(e:vl E r=oZ t)(O:ck->Prop)(hO:∀b,O b->Ow B S E b)(hu:∀j∈tH E r,∀a,S[j]?=oZ (oZ (.ref a))->¬O a):Rp K H O t v:=by
 cases r with
 |p u=>cases e;exact Rp.step (Kp.less hO) rr
 |s j=>
  have rr':S[j]?=oZ (oZ v):=rr;cases q:E[j]? with
  |none=>simp only[vl,q]at e;cases e
  |some u=>
   cases u with
   |none=>simp only[vl,q]at e;cases e
   |some u=>
    cases u with
    |p u=>
     simp only[vl,q]at e;cases e;obtain⟨w,h1,h2⟩:=re.pure j _ q;rw[rr']at h1;cases h1;exact h2.step (Kp.less hO)
    |o k xs=>
     simp only[vl,q]at e;cases e;obtain⟨a,vs,h1,h2,h3,_⟩:=re.own j k xs q;rw[rr']at h1;cases h1;exact⟨a,vs,rfl,.inl ⟨hu j (by simp[tH,q]) a rr',.inl h2⟩,h3.step (Kp.less hO)⟩
theorem Lq:Sr K (NC K p) xs (λH O=>Rp K H O (.lst xs) (.ref p)):=by
 refine⟨λH H' O O' k h=>Rp.step k h,λi H O h hi=>?_,λi H O x H' t h e _ y=>?_,λH O h=>?_⟩
 ·obtain⟨a,vs,e,sq,rs⟩:=h.sqL;cases e;exact⟨vs,vs[i]'(by rw[rs.length];exact hi),sq,SX _⟩
 ·obtain⟨e1,y⟩:=y;subst e1;obtain⟨a,vs,e2,sq,rs⟩:=h.sqL;cases e2;obtain⟨v,h1,h2⟩:=rs.get e;rw[y vs sq]at h1;cases h1;exact⟨Kp.refl _ _,λ_ _ z=>z,h2⟩
 ·obtain⟨a,vs,e,sq,rs⟩:=h.sqL;cases e;exact⟨vs,sq,by rw[rs.length];exact TN _⟩
theorem Yi:Sr K (ND K p) xs (λH O=>Rp K H O (.tup xs) (.ref p)):=by
 refine⟨λH H' O O' k h=>Rp.step k h,λi H O h hi=>?_,λi H O x H' t h e _ y=>?_,λH O h=>?_⟩
 ·obtain⟨a,vs,e,sq,rs⟩:=h.sqT;cases e;exact⟨vs,vs[i]'(by rw[rs.length];exact hi),sq,SX _⟩
 ·obtain⟨e1,y⟩:=y;subst e1;obtain⟨a,vs,e2,sq,rs⟩:=h.sqT;cases e2;obtain⟨v,h1,h2⟩:=rs.get e;rw[y vs sq]at h1;cases h1;exact⟨Kp.refl _ _,λ_ _ z=>z,h2⟩
 ·obtain⟨a,vs,e,sq,rs⟩:=h.sqT;cases e;exact⟨vs,sq,by rw[rs.length];exact TN _⟩
def lZ(lo:Int)(n:Nat):List T:=(VF n).map λ(i:Nat)=>T.int (lo+(i:Int))
theorem DV{lo:Int}:Sr K (HZ lo n) (lZ lo n) (λ_ _=>True):=by
 refine⟨λ_ _ _ _ _ h=>h,λi H O _ hi=>by show i<n;simpa[lZ]using hi,λi H O x H' t _ e _ y=>?_,λH O _=>by simp[HZ,lZ]⟩;obtain⟨e1,y⟩:=y;subst e1;subst y;unfold lZ at e;rw[TR]at e;have hi:i<n:=by
  obtain c|c:=WR i n
  ·exact c
  ·rw[XZ (by simpa using c)]at e;cases e
 rw[XH hi]at e;cases e;exact⟨Kp.refl _ _,λ_ _ z=>z,rfl⟩
theorem DS:Sr K (NT K p) (xs.zipIdx.map λq=>T.tup [.int (q.2:Int),q.1]) (λH O=>Rp K H O (.lst xs) (.ref p)):=by
 refine⟨λH H' O O' k h=>Rp.step k h,λi H O h hi=>?_,λi H O x H' t h e hO y=>?_,λH O h=>?_⟩
 ·obtain⟨a,vs,e,sq,rs⟩:=h.sqL;cases e;have hi':i<xs.length:=by simpa using hi
  exact⟨vs,vs[i]'(by rw[rs.length];exact hi'),sq,SX _⟩
 ·obtain⟨pp,w,e1,hp,e2,y⟩:=y;subst e1;subst e2;obtain⟨a,vs,e3,sq,rs⟩:=h.sqL;cases e3;rw[TR]at e;cases q:xs.zipIdx[i]? with
  |none=>rw[q]at e;cases e
  |some z=>
   rw[q]at e;cases e;obtain⟨q1,q2⟩:=SW.mp q;have q1':i<xs.length:=by simpa using q1
   rw[List.getElem_zipIdx]at q2;subst q2;obtain⟨v,h1,h2⟩:=rs.get (SX q1');rw[y vs sq]at h1;cases h1;have k:Kp O O H (upd H pp (.tup [.int (i:Int),w])):=Kp.upd hp;refine⟨k,λb o z=>by rw[bD (bF z hp)];exact z,pp,_,rfl,.inl ⟨λz=>hO pp z hp,dM⟩,_,_,rfl,?_,w,[],rfl,h2.step k,rfl⟩;simp[Rp]
 ·obtain⟨a,vs,e,sq,rs⟩:=h.sqL;cases e;exact⟨vs,sq,by simp[rs.length]⟩
def iL(Fa:FE):FI:=λE Q=>Fa E λr E1=>match vl E1 r with
 |some (.lst xs)=>Q xs (tH E1 r) E1
 |_=>False
def iT(Fa:FE):FI:=λE Q=>Fa E λr E1=>match vl E1 r with
 |some (.tup xs)=>Q xs [] E1
 |_=>False
theorem cS(eK:X.K=K)(hl:QE X l (aJ K Fa)):QI X tg l (kL K (iL Fa)):=by
 subst eK;refine(Qt hl).le λσ H R hn⟨B,S,E,Q',hS,re,hF,lk⟩=>⟨B,S,E,_,hS,re,hF,λr E1 v H1 S1 q g kq rr=>?_⟩;split at q
 ·rename_i xs e1;obtain⟨a,vs,e2,sq,rs⟩:=kq.vl rr e1;exact⟨a,e2,⟨vs,sq⟩,lk _ _ _ _ _ _ _ q g kq Lq wK λO h1 h2=>by rw[<-e2];exact pP kq rr e1 O h1 h2⟩
 ·exact q.elim
theorem Dj(eK:X.K=K)(hl:QE X l (aJ K Fa)):QI X tg l (kL K (iT Fa)):=by
 subst eK;refine(GK hl).le λσ H R hn⟨B,S,E,Q',hS,re,hF,lk⟩=>⟨B,S,E,_,hS,re,hF,λr E1 v H1 S1 q g kq rr=>?_⟩;split at q
 ·rename_i xs e1;obtain⟨a,vs,e2,sq,rs⟩:=kq.vl rr e1;refine⟨a,e2,⟨vs,sq⟩,lk _ _ _ _ _ _ _ q g kq Yi (λj hj=>absurd hj (by simp)) λO h1 h2=>?_⟩;rw[<-e2];refine pP kq rr e1 O h1 λj hj=>?_;cases r with
  |p _=>simp[tH]at hj
  |s m=>
   cases q2:E1[m]? with
   |none=>simp only[vl,q2]at e1;cases e1
   |some u=>
    cases u with
    |none=>simp only[vl,q2]at e1;cases e1
    |some u=>
     cases u with
     |p u=>simp[tH,q2]at hj
     |o k ys=>simp only[vl,q2]at e1;cases e1
 ·exact q.elim
def SF(Fr:FA):FI:=λE Q=>Fr E λrs E1=>match rs with
 |[x]=>i1 (vl E1 x) λj=>(-(2^62)<=j/\j<2^62)/\Q (lZ 0 j.toNat) [] E1
 |_=>False
theorem iY(hg:Gl X "range")(hm:X.mg "range" = none)(ha:QA X [a] (dJ K n Fr))(hs:bO a=false:=by rfl):QI X tg (.Call (.Name "range" p) [a] [] pos) (kL K (SF Fr)):=by
 refine(Ut hg hm ha hs).le λσ H R hn⟨B,S,E,Q',hS,re,hF,lk⟩=>⟨B,S,E,_,hS,re,hF,λrs E1 vs H1 S1 q g kq rr hn=>?_⟩
 match rs,rr,q with
 |[x],⟨v,ws,e1,h1,h2⟩,q=>
  cases h2;subst e1;obtain⟨j,e2,c,q⟩:=i1.ex q;exact⟨j,by rw[kq.int h1 e2],c.1,c.2,lk _ _ _ _ _ _ _ q g kq DV (λj hj=>absurd hj (by simp)) λ_ _ _=>trivial⟩
 |[],_,q=>exact q.elim
 |_::_::_,_,q=>exact q.elim
def iE(Fr:FA):FI:=λE Q=>Fr E λrs E1=>match rs with
 |[r]=>(match vl E1 r with
  |some (.lst xs)=>Q (xs.zipIdx.map λq=>T.tup [.int (q.2:Int),q.1]) (tH E1 r) E1
  |_=>False)
 |_=>False
theorem vY{x1}(eK:X.K=K)(hg:Gl X "enumerate")(hm:X.mg "enumerate" = none)(ha:QA X [a] (dJ K n Fr))(hs:bO a=false:=by rfl):QI X (.Tuple elts x1 vm) (.Call (.Name "enumerate" p) [a] [] pos) (kL K (iE Fr)):=by
 subst eK;refine(V7 hg hm ha hs).le λσ H R hn⟨B,S,E,Q',hS,re,hF,lk⟩=>⟨B,S,E,_,hS,re,hF,λrs E1 vs H1 S1 q g kq rr hn=>?_⟩
 match rs,rr,q with
 |[r],⟨v,ws,e1,h1,h2⟩,q=>
  cases h2;subst e1;simp only at q;split at q
  ·rename_i xs e1;obtain⟨a,vs,e2,sq,rs⟩:=kq.vl h1 e1;exact⟨a,by rw[e2],⟨vs,sq⟩,lk _ _ _ _ _ _ _ q g kq DS wK λO k1 k2=>by rw[<-e2];exact pP kq h1 e1 O k1 k2⟩
  ·exact q.elim
 |[],_,q=>exact q.elim
 |_::_::_,_,q=>exact q.elim
end
mutual
def noL:T->Bool
 |.lst _=>false
 |.tup xs=>dN xs
 |_=>true
def dN:List T->Bool
 |[]=>true
 |x::xs=>noL x&&dN xs
end
def dO(H:Hp)(a:ck):Prop:=∃ws,H a=oZ (.lst ws)
section
variable{K:W.Frag}{H:Hp}{O O':ck->Prop}
mutual
theorem Rp.noL(hO:∀a,O' a->dO H a):∀{t:T}{v:V},L2.noL t=true->Rp K H O t v->Rp K H O' t v
 |.non,_,_,h=>h
 |.bl _,_,_,h=>h
 |.int _,_,_,h=>h
 |.str _,_,_,h=>h
 |.lst _,_,e,_=>by simp[L2.noL]at e
 |.tup xs,v,e,h=>by
  obtain⟨a,vs,e1,h1,h2⟩:=h;refine⟨a,vs,e1,h1.imp (λ⟨_,h⟩=>⟨λz=>?_,h⟩) id,cP.noL hO (by simpa[L2.noL]using e) h2⟩;obtain⟨ws,q⟩:=hO a z;rw[h]at q;cases q
theorem cP.noL(hO:∀a,O' a->dO H a):∀{xs:List T}{vs:List V},dN xs=true->cP K H O xs vs->cP K H O' xs vs
 |[],_,_,h=>h
 |x::xs,vs,e,h=>by
  obtain⟨v,r,e1,h1,h2⟩:=h;have e':L2.noL x=true/\dN xs=true:=by simpa[dN]using e
  exact⟨v,r,e1,Rp.noL hO e'.1 h1,cP.noL hO e'.2 h2⟩
end
end
theorem RE.push{K:W.Frag}{B:ck->Prop}{H':Hp}{S:St}{E:En}(re:RE K B H' S E){a:ck}{ts:List T}{vs:List V}(ha:H' a=oZ (.lst vs))(hn:¬Ow B S E a)(hb:¬B a)(hp:∀(i:Nat)(t:T),E[i]?=oZ (oZ (.p t))->∃v,S[i]?=oZ (oZ v)/\Rp K H' (λb=>Ow B S E b\/b=a) t v)(ho:∀(i:Nat)(k:Bool)(xs:List T),E[i]?=oZ (oZ (.o k xs))->∃b ws,S[i]?=oZ (oZ (.ref b))/\H' b=oZ (.lst ws)/\cP K H' (λb=>Ow B S E b\/b=a) xs ws)(h:cP K H' (λb=>Ow B S E b\/b=a) ts vs):
  RE K B H' (S++[oZ (.ref a)]) (E++[oZ (.o false ts)])/\∀b,Ow B (S++[oZ (.ref a)]) (E++[oZ (.o false ts)]) b->Ow B S E b\/b=a:=by
 have gE:∀{i:Nat}{u:U},(E++[oZ (.o false ts)])[i]?=oZ (oZ u)->(E[i]?=oZ (oZ u)/\i<E.length)\/(i=E.length/\u = .o false ts):=λ{i u}h=>by
  obtain⟨c,h⟩|⟨c,h⟩:=xP h
  ·exact .inl ⟨h,c⟩
  ·exact .inr ⟨c,Option.some.inj h⟩
 have gS:∀{i:Nat}{x:Option V},S[i]?=oZ x->(S++[oZ (.ref a)])[i]?=oZ x:=λ{i x}h=>e9 ⟨_,rfl⟩ h;have vn:∀{i:Nat}{x:Option V},i<E.length->(S++[oZ (.ref a)])[i]?=oZ x->S[i]?=oZ x:=λ{i x}c h=>by
  rw[UE (by rw[re.len];exact c)]at h;exact h
 have lS:(S++[oZ (.ref a)])[E.length]?=oZ (oZ (.ref a)):=by rw[<-re.len];simp
 have ow:∀b,Ow B (S++[oZ (.ref a)]) (E++[oZ (.o false ts)]) b->Ow B S E b\/b=a:=λb z=>by
  obtain z|⟨i,k,xs,h1,h2⟩:=z
  ·exact .inl (.inl z)
  obtain⟨h1,c⟩|⟨c,h1⟩:=gE h1
  ·exact .inl (.inr ⟨i,k,xs,h1,vn c h2⟩)
  ·subst c;rw[lS]at h2;cases h2;exact .inr rfl
 have kl:Kp (λb=>Ow B S E b\/b=a) (Ow B (S++[oZ (.ref a)]) (E++[oZ (.o false ts)])) H' H':=Kp.less ow;refine⟨⟨by simp[re.len],λi t h=>?_,λi l xs h=>?_,λi j l m xs ys b h1 h2 h3 h4=>?_,re.bd⟩,ow⟩
 ·obtain⟨h,c⟩|⟨c,h⟩:=gE h
  ·obtain⟨v,h1,h2⟩:=hp i t h;exact⟨v,gS h1,h2.step kl⟩
  ·cases h
 ·obtain⟨h,c⟩|⟨c,h⟩:=gE h
  ·obtain⟨b,ws,h1,h2,h3⟩:=ho i l xs h;obtain⟨b',_,q1,_,_,q4⟩:=re.own i l xs h;rw[h1]at q1;cases q1;exact⟨b,ws,gS h1,h2,h3.step kl,q4⟩
  ·cases h;subst c;exact⟨a,vs,lS,ha,cP.step kl (by assumption),⟨λz=>absurd z ∅,λz=>absurd z hb⟩⟩
 ·obtain⟨h1,c1⟩|⟨c1,h1⟩:=gE h1
  ·obtain⟨h2,c2⟩|⟨c2,h2⟩:=gE h2
   ·exact re.inj i j l m xs ys b h1 h2 (vn c1 h3) (vn c2 h4)
   ·subst c2;rw[lS]at h4;cases h4;exact absurd (.inr ⟨i,l,xs,h1,vn c1 h3⟩) hn
  ·obtain⟨h2,c2⟩|⟨c2,h2⟩:=gE h2
   ·subst c1;rw[lS]at h3;cases h3;exact absurd (.inr ⟨j,m,ys,h2,vn c2 h4⟩) hn
   ·rw[c1,c2]
theorem RE.pad{K:W.Frag}{B:ck->Prop}{H:Hp}{S:St}{E:En}(re:RE K B H S E)(n:Nat):RE K B H (S++UY n none) (E++UY n none)/\(∀b,Ow B (S++UY n none) (E++UY n none) b->Ow B S E b):=by
 have gE:∀{i:Nat}{u:U},(E++UY n none)[i]?=oZ (oZ u)->E[i]?=oZ (oZ u)/\i<E.length:=λ{i u}h=>by
  obtain c|c:=WR i E.length
  ·rw[UE c]at h;exact⟨h,c⟩
  ·rw[VG c]at h;have:=SY h;rw[List.mem_replicate]at this;cases this.2
 have gS:∀{i:Nat}{x:Option V},S[i]?=oZ x->(S++UY n none)[i]?=oZ x:=λ{i x}h=>e9 ⟨_,rfl⟩ h;have vn:∀{i:Nat}{x:Option V},i<E.length->(S++UY n none)[i]?=oZ x->S[i]?=oZ x:=λ{i x}c h=>by
  rw[UE (by rw[re.len];exact c)]at h;exact h
 have ow:∀b,Ow B (S++UY n none) (E++UY n none) b->Ow B S E b:=λb z=>z.imp id λzZ=>by obtain⟨i,k,xs,h1,h2⟩:=zZ;exact⟨i,k,xs,(gE h1).1,vn (gE h1).2 h2⟩
 have kl:Kp (Ow B S E) (Ow B (S++UY n none) (E++UY n none)) H H:=Kp.less ow;refine⟨⟨by simp[re.len],λi t h=>?_,λi l xs h=>?_,λi j l m xs ys b h1 h2 h3 h4=>?_,re.bd⟩,ow⟩
 ·obtain⟨v,h1,h2⟩:=re.pure i t (gE h).1;exact⟨v,gS h1,h2.step kl⟩
 ·obtain⟨b,ws,h1,h2,h3,h4⟩:=re.own i l xs (gE h).1;exact⟨b,ws,gS h1,h2,h3.step kl,h4⟩
 ·exact re.inj i j l m xs ys b (gE h1).1 (gE h2).1 (vn (gE h1).2 h3) (vn (gE h2).2 h4)
inductive A where
 |v (t:T)|b (xs:List T)
inductive RV where
 |v (t:T)|l (xs:List T)
abbrev iU:=List A->(RV->List T->Prop)->Prop
def tR:List A->En
 |[]=>[]
 |.v t::r=>oZ (.p t)::tR r
 |.b xs::r=>oZ (.o true xs)::tR r
theorem lT:∀{as:List A},(tR as).length=as.length
 |[]=>rfl
 |.v t::r=>by simp[tR,lT (as:=r)]
 |.b t::r=>by simp[tR,lT (as:=r)]
def Hi:List A->Option Nat
 |[]=>none
 |.b _::_=>oZ 0
 |.v _::r=>(Hi r).map (· + 1)
def NI(K:W.Frag)(H H':Hp):RV->V->Prop
 |.v t,v=>Rp K H' (dO H) t v
 |.l xs,v=>∃a ws,v = .ref a/\H a=none/\H' a=oZ (.lst ws)/\cP K H' (λb=>dO H b\/b=a) xs ws
def aU(K:W.Frag)(S:iU):Sp:=λvs H Q _=>∃(as:List A)(Q':RV->List T->Prop)(bx:Option ck),RE K (λa=>bx=oZ a) H (vs.map oZ) (tR as)/\(Hi as=none->bx=none)/\S as Q'/\
 ∀r xs v H',Q' r xs->(∀b o,H b=oZ o->bx≠oZ b->H' b=oZ o)->(∀a,bx=oZ a->∃ws,H' a=oZ (.lst ws)/\cP K H' (dO H') xs ws)->NI K H H' r v->Q v H'
def Oi(as:List A)(E:En):Option (List T):=match Hi as with
 |none=>oZ []
 |some j=>match E[j]? with
  |some (oZ (.o true xs))=>if dN xs=true then oZ xs else none
  |_=>none
def endT(as:List A)(Q:RV->List T->Prop):ET where
 nx:=λE=>o1 (Oi as E) λxs=>Q (.v .non) xs
 rt:=λr E=>o1 (Oi as E) λxs=>match r with
  |.p t=>noL t=true/\Q (.v t) xs
  |.s i=>match E[i]? with
   |some (oZ (.o false ys))=>dN ys=true/\Q (.l ys) xs
   |some (oZ (.p t))=>noL t=true/\Q (.v t) xs
   |_=>False
theorem Wx:∀{as:List A}{j:Nat}{k:Bool}{xs:List T},(tR as)[j]?=oZ (oZ (.o k xs))->k=true
 |[],j,_,_,h=>by simp[tR]at h
 |.b _::_,0,_,_,h=>by simp[tR]at h;exact h.1
 |.v _::_,0,_,_,h=>by simp[tR]at h
 |.b _::r,j+1,_,_,h=>Wx (as:=r) (j:=j) (by simpa[tR]using h)
 |.v _::r,j+1,_,_,h=>Wx (as:=r) (j:=j) (by simpa[tR]using h)
theorem eO.okT{P:da}{w:dk}{K:W.Frag}{mg:Str->Option oA}{base:oE}{x qual:Str}{st:dh}{f:ck}{fd:fe}{N ps:List Str}{k:Nat}{S:iU}{F:FS}(Fn:eO K x qual st f fd)(Sc:aI N ps (aC st))(len:∀as Q,S as Q->as.length=ps.length)(hb:∀(oq:oA)(A:oD)(outer:List Env)(s:oB)(H:Hp)(E:XK),fF k (A.deeper (je qual (aC st) s.heap.objs.size f oq))->QB (De fJ P w K mg base N qual (aC st) f oq A outer s H E).nox (d8 st) (iO K F))(hF:∀as Q,S as Q->F (endT as Q) (tR as++UY (N.length-as.length) none)):(~~~bG) fJ (k+1) f fd ps (aU K S):=by
 refine Fn.okQ Sc (λvs H Q E⟨as,Q',bx,re,hbn,hS,l⟩=>?_) (λoq A outer s H vs Q E hr⟨as,Q',bx,re,hbn,hS,l⟩=>?_)
 ·have:=re.len;rw[SV,lT]at this;rw[this];exact len as Q' hS
 have hl:vs.length=as.length:=by have:=re.len;rwa [SV,lT]at this
 refine⟨_,hb oq A outer s H E hr,?_⟩;obtain⟨re0,ow0⟩:=re.pad (N.length-as.length);have xb:n8 N vs=vs.map oZ++UY (N.length-as.length) none:=by unfold n8;rw[hl]
 rw[xb]
 -- the box's address
 have aDH:∀b,Ow (λa=>bx=oZ a) (vs.map oZ) (tR as) b->bx=oZ b:=λb z=>by
  obtain z|⟨i,kk,xs,h1,h2⟩:=z
  ·exact z
  obtain⟨a,ws,q1,_,_,q4⟩:=re.own i kk xs h1;rw[h2]at q1;cases q1;exact q4.mp (Wx h1)
 have fr:∀{H':Hp}{S':St}{E':En},Gs (λa=>bx=oZ a) H (vs.map oZ++UY (N.length-as.length) none) (tR as++UY (N.length-as.length) none) H' S' E'->∀b o,H b=oZ o->bx≠oZ b->H' b=oZ o:=λg b o h n=>g.keep b o h λz=>n (aDH b (ow0 b z));have fin:∀{r:RV}{xs:List T}{v:V}{H':Hp}{S':St}{E':En},Oi as E'=oZ xs->Q' r xs->Gs (λa=>bx=oZ a) H (vs.map oZ++UY (N.length-as.length) none) (tR as++UY (N.length-as.length) none) H' S' E'->RE K (λa=>bx=oZ a) H' S' E'->
   ((∀a,dO H a->dO H' a)->NI K H H' r v)->Q v H':=λ{r xs v H' S' E'}e q g km hr=>by
  have hbx:∀a,bx=oZ a->∃ws,H' a=oZ (.lst ws)/\cP K H' (dO H') xs ws:=λa ha=>by
   unfold Oi at e;cases qb:Hi as with
   |none=>
    rw[qb]at e;cases e;rw[hbn qb]at ha;cases ha
   |some j=>
    rw[qb]at e;simp only at e;split at e
    ·rename_i ys hE;split at e
     ·cases e;rename_i hnl;obtain⟨b,ws,h1,h2,h3,h4⟩:=km.own j true xs hE;have:bx=oZ b:=h4.mp rfl;rw[ha]at this;cases this;exact⟨ws,h2,cP.noL (λ_ z=>z) hnl h3⟩
     ·cases e
    ·cases e
  refine l r xs v H' q (fr g) hbx (hr λa zZ=>?_);obtain⟨ws,ha⟩:=zZ
  by_cases c:bx=oZ a
  ·obtain⟨yp,h,_⟩:=hbx a c;exact⟨yp,h⟩
  ·exact⟨ws,fr g a _ ha c⟩
 refine⟨_,_,_,re0,hF as Q' hS,⟨λσ' H' E' q g km=>?_,λr E' v H' S' q g km rr=>?_,λ_ _ _ z=>z.elim,λ_ _ _ z=>z.elim⟩⟩
 ·obtain⟨xs,e,q⟩:=q.ex;exact fin e q g km λ_=>rfl
 ·obtain⟨xs,e,q⟩:=q.ex;cases r with
  |p t=>exact fin e q.2 g km λh=>Rp.noL h q.1 rr
  |s i=>
   simp only at q;split at q
   ·rename_i ys hE;refine fin e q.2 g km λh=>?_;obtain⟨b,ws,h1,h2,h3,h4⟩:=km.own i false ys hE;have rr':S'[i]?=oZ (oZ v):=rr;rw[rr']at h1;cases h1;refine⟨b,ws,rfl,?_,h2,cP.noL (λa z=>?_) q.1 h3⟩
    ·obtain z|z:=g.new b (.inr ⟨i,false,ys,hE,rr'⟩)
     ·have:=h4.mpr (aDH b (ow0 b z));cases this
     ·exact z
    ·obtain z|z:=z
     ·exact h a z
     ·exact⟨ws,by rw[z];exact h2⟩
   ·rename_i t hE;obtain⟨w,h1,h2⟩:=km.pure i t hE;have rr':S'[i]?=oZ (oZ v):=rr;rw[rr']at h1;cases h1;exact fin e q.2 g km λh=>Rp.noL h q.1 h2
   ·exact q.elim
def AQ(E:En):List R->Option (List T)
 |[]=>oZ []
 |r::rs=>match vl E r,AQ E rs with
  |some t,oZ ts=>oZ (t::ts)
  |_,_=>none
def Nl(E:En)(Q:R->En->Prop):RV->Prop
 |.v t=>Q (.p t) E
 |.l xs=>Q (.s E.length) (E++[oZ (.o false xs)])
def Xa(S:iU)(Fr:FA):FE:=λE Q=>Fr E λrs E1=>o1 (AQ E1 rs) λts=>S (ts.map A.v) λr _=>Nl E1 Q r
def Xb(S:iU)(Fr:FA):FE:=λE Q=>Fr E λrs E1=>match rs with
 |.s j::rs=>(match E1[j]? with
  |some (oZ (.o k xs))=>cond (rs.all λr=>!(tH E1 r).contains j) (o1 (AQ E1 rs) λts=>S (.b xs::ts.map A.v) λr ys=>Nl (E1.set j (oZ (.o k ys))) Q r) False
  |_=>False)
 |_=>False
theorem Lw{K:W.Frag}{B:ck->Prop}{H:Hp}{S:St}{E:En}(re:RE K B H S E):∀{rs:List R}{vs:List V}{ts:List T},Vh K B H S E rs vs->AQ E rs=oZ ts->∀(O:ck->Prop),(∀b,O b->Ow B S E b)->(∀r∈rs,∀j∈tH E r,∀a,S[j]?=oZ (oZ (.ref a))->¬O a)->cP K H O ts vs
 |[],_,_,h,e,_,_,_=>by cases e;exact h
 |r::rs,_,ts,⟨v,ws,e1,h1,h2⟩,e,O,hO,hu=>by
  cases q1:vl E r with
  |none=>simp only[AQ,q1]at e;cases e
  |some t=>
   cases q2:AQ E rs with
   |none=>simp only[AQ,q1,q2]at e;cases e
   |some us=>
    simp only[AQ,q1,q2]at e;cases e;exact⟨v,ws,e1,pP re h1 q1 O hO (hu r (by simp)),Lw re h2 q2 O hO λr' hr=>hu r' (by simp[hr])⟩
theorem Wy:∀{ts:List T},tR (ts.map A.v)=ts.map λt=>oZ (U.p t)
 |[]=>rfl
 |t::ts=>by simp[tR,Wy (ts:=ts)]
theorem Gq{K:W.Frag}{B:ck->Prop}{H:Hp}{H':Hp}{S:St}{E:En}{E':En}(re:RE K B H S E)(km:RE K B H' S E')(hk:∀b o,H b=oZ o->¬Ow B S E b->H' b=oZ o)(hw:∀b,Ow B S E' b->Ow B S E b)(hE:∀(i:Nat)(k:Bool)(xs:List T),E'[i]?=oZ (oZ (.o k xs))->(E[i]?=oZ (oZ (.o k xs))/\∀a,S[i]?=oZ (oZ (.ref a))->H' a=H a)\/∀a ws,S[i]?=oZ (oZ (.ref a))->H' a=oZ (.lst ws)->cP K H' (dO H') xs ws)(hP:∀(i:Nat)(t:T),E'[i]?=oZ (oZ (.p t))->E[i]?=oZ (oZ (.p t))){r:RV}{v:V}(rv:NI K H H' r v){Q:R->En->Prop}(q:Nl E' Q r){Qv:VK}(lk:Lk K B H S E Q Qv):Qv v H':=by
 have kp:Kp (Ow B S E) (Ow B S E') H H':=⟨hk,λb z=>.inl (hw b z)⟩;cases r with
 |v t=>exact lk _ _ _ _ _ q ⟨kp,[],by simp⟩ km (Rp.step (Kp.less λb z=>re.ow (hw b z)) rv)
 |l xs=>
  obtain⟨a,ws,rfl,h1,h2,h3⟩:=rv;have nOw:¬Ow B S E' a:=λz=>re.nn h1 (hw a z);have nB:¬B a:=λz=>re.nn h1 (.inl z);have kp2:Kp (Ow B S E) (λb=>Ow B S E' b\/b=a) H H':=⟨hk,λb z=>by
   obtain z|z:=z
   ·exact .inl (hw b z)
   ·exact .inr (by rw[z];exact h1)⟩
  obtain⟨r1,r2⟩:=km.push h2 nOw nB (λi t h=>by
    obtain⟨w,q1,q2⟩:=re.pure i t (hP i t h);exact⟨w,q1,q2.step kp2⟩) (λi k ys h=>by
    obtain⟨b,us,q1,q2,q3,_⟩:=km.own i k ys h;refine⟨b,us,q1,q2,?_⟩;obtain⟨z,zz⟩|z:=hE i k ys h
    ·obtain⟨b',yj,p1,p2,p3,_⟩:=re.own i k ys z;rw[q1]at p1;cases p1;have e:=zz b q1;rw[q2,p2]at e;cases e;exact p3.step kp2
    ·exact(z b us q1 q2).step (Kp.less λc hc=>by
      obtain hc|hc:=hc
      ·exact km.ow hc
      ·exact⟨ws,by rw[hc];exact h2⟩)) (h3.step (Kp.less λb z=>by
    obtain z|z:=z
    ·exact .inl (re.ow (hw b z))
    ·exact .inr z))
  refine lk _ _ _ _ _ q ⟨⟨hk,λb z=>?_⟩,[oZ (.ref a)],rfl⟩ r1 ?_
  ·obtain z|z:=r2 b z
   ·exact .inl (hw b z)
   ·exact .inr (by rw[z];exact h1)
  ·show(S++[oZ (V.ref a)])[E'.length]?=_;rw[<-km.len];simp
theorem We{K:W.Frag}{Fr:FA}{n:Nat}{S:iU}{σ:St}{H:Hp}{Q:VK}(h:aJ K (Xa S Fr) σ H Q):Kc (aU K S) [] E0 (dJ K n Fr) σ H Q:=by
 refine args (Fr:=Fr) h λB S' E rs vs H2 Q' hS re rr hn q lk=>?_;obtain⟨ts,e1,q⟩:=q.ex;rw[UH];have rp:=Lw re rr e1 (λ_=>False) (λ_ z=>z.elim) (λ_ _ _ _ _ _ z=>z);have no:∀b,¬Ow (λa=>(none:Option ck)=oZ a) (vs.map oZ) (ts.map λt=>oZ (U.p t)) b:=λb z=>by
  obtain z|⟨i,k,xs,h1,_⟩:=z
  ·cases z
  rw[TR]at h1;cases q:ts[i]? with
  |none=>rw[q]at h1;cases h1
  |some t=>rw[q]at h1;cases h1
 refine⟨ts.map A.v,_,none,?_,λ_=>rfl,q,λr xs v H' q2 fr _ rv=>?_⟩
 ·rw[Wy];refine⟨by simp[rp.length],λi t h=>?_,λi k xs h=>?_,λi j k l xs ys a h _ _ _=>?_,λa z=>by cases z⟩
  ·rw[TR]at h;cases q:ts[i]? with
   |none=>rw[q]at h;cases h
   |some u=>
    rw[q]at h;cases h;obtain⟨v,h1,h2⟩:=rp.get q;exact⟨v,by rw[TR,h1];rfl,h2.step (Kp.less λb z=>no b z)⟩
  ·rw[TR]at h;cases q:ts[i]? with
   |none=>rw[q]at h;cases h
   |some t=>rw[q]at h;cases h
  ·rw[TR]at h;cases q:ts[i]? with
   |none=>rw[q]at h;cases h
   |some t=>rw[q]at h;cases h
 ·have same:∀b o,H2 b=oZ o->H' b=oZ o:=λb o z=>fr b o z (by intro z;cases z);exact Gq re (re.kept same) (λb o z _=>same b o z) (λb z=>z) (λi k xs h=>.inl ⟨h,λa ha=>by
   obtain⟨a',ws,h1,h2,_⟩:=re.own i k xs h;rw[ha]at h1;cases h1;rw[h2];exact same _ _ h2⟩) (λi t h=>h) rv q2 lk
theorem N5{X:Cx}{K:W.Frag}{pos:Pos}{e:oC}{es:List oC}{Fr:FA}{n k j:Nat}{x:Str}{ps:List Str}{S:iU}{p:Pos}(F:Fn X.prog X.w X.K X.mg X.base k x ps (aU K S))(hr:fF j X.A)(hk:k<=j)(hg:Gl X x)(ha:QA X (e::es) (dJ K n Fr))(ud:(x==("__debug__":Str))=false:=by decide)(hs:bW (e::es)=true:=by rfl):QE X (.Call (.Name x p) (e::es) [] pos) (aJ K (Xa S Fr)):=(C1 F hr hk hg ha ud hs).le λ_ _ _ _ h=>We h
theorem Xe{X:Cx}{K:W.Frag}{pos:Pos}{e:oC}{es:List oC}{Fr:FA}{n k j:Nat}{x:Str}{ps:List Str}{S:iU}{p:Pos}(F:Fn X.prog X.w X.K X.mg X.base k x ps (aU K S))(hr:fF j X.A)(hk:k<=j)(hg:Gl X x)(ha:QA X (e::es) (dJ K n Fr))(ud:(x==("__debug__":Str))=false:=by decide)(hs:bW (e::es)=true:=by rfl):QE X (.Call (.Name x p) (e::es) [] pos) (aJ K (Xb S Fr)):=by
 refine(C1 F hr hk hg ha ud hs).le λσ H Q hl h=>args (Fr:=Fr) h λB S' E rs vs H2 Q' hS re rr hn q lk=>?_;rw[UH];split at q
 ·rename_i jb rs';split at q
  ·rename_i kb xs hE;cases qc:(rs'.all λr=>!(tH E r).contains jb)with
   |false=>rw[qc]at q;exact q.elim
   |true=>
    rw[qc]at q;obtain⟨ts,e1,q⟩:=o1.ex q;obtain⟨v0,ws,e2,h0,h2⟩:=rr;subst e2;have h0':S'[jb]?=oZ (oZ v0):=h0;obtain⟨a0,us,k1,k2,k3,k4⟩:=re.own jb kb xs hE;rw[h0']at k1;cases k1;have ow0:Ow B S' E a0:=.inr ⟨jb,kb,xs,hE,h0'⟩;have rp:=Lw re h2 e1 (λb=>b=a0) (λb z=>by rw[z];exact ow0) (λr hr m hm a hma z=>by
     subst z;have c:=VS.mp qc r hr;have:m=jb:=by
      cases r with
      |p _=>simp[tH]at hm
      |s l=>
       cases ql:E[l]? with
       |none=>simp[tH,ql]at hm
       |some u=>
        cases u with
        |none=>simp[tH,ql]at hm
        |some u=>
         cases u with
         |p _=>simp[tH,ql]at hm
         |o kk zs=>
          simp[tH,ql]at hm;subst hm;exact re.inj _ _ kk kb zs xs a ql hE hma h0'
     subst this;have hc:(tH E r).contains m=true:=by simpa using hm
     rw[hc]at c;cases c)
    have get:∀{i:Nat}{u:U},(oZ (U.o true xs)::ts.map λt=>oZ (U.p t))[i]?=oZ (oZ u)->(i=0/\u = .o true xs)\/∃m t,i=m+1/\ts[m]?=oZ t/\u = .p t:=λ{i u}h=>by
     cases i with
     |zero=>simp at h;exact .inl ⟨rfl,h.symm⟩
     |succ m=>
      rw[List.getElem?_cons_succ,TR]at h;cases q:ts[m]? with
      |none=>rw[q]at h;cases h
      |some t=>rw[q]at h;cases h;exact .inr ⟨m,t,rfl,q,rfl⟩
    have ow:∀b,Ow (λa=>oZ a0=oZ a) ((V.ref a0::ws).map oZ) (oZ (U.o true xs)::ts.map λt=>oZ (U.p t)) b->b=a0:=λb z=>by
     obtain z|⟨i,k,ys,h1,h3⟩:=z
     ·cases z;rfl
     obtain⟨c,z⟩|⟨m,t,_,_,z⟩:=get h1
     ·subst c;simp at h3;exact h3.symm
     ·cases z
    have nb:Hi (A.b xs::ts.map A.v)≠none:=by intro z;cases z
    refine⟨A.b xs::ts.map A.v,_,oZ a0,?_,λz=>absurd z nb,q,λr ys v H' q2 fr bxk rv=>?_⟩
    ·have ee:tR (A.b xs::ts.map A.v)=oZ (U.o true xs)::ts.map λt=>oZ (U.p t):=by simp[tR,Wy]
     rw[ee];refine⟨by simp[rp.length],λi t h=>?_,λi k zs h=>?_,λi j k l zs ys a h1 h3 _ _=>?_,λa z=>by cases z;exact⟨us,k2⟩⟩
     ·obtain⟨_,z⟩|⟨m,t',e,q3,z⟩:=get h
      ·cases z
      ·cases z;subst e;obtain⟨v,h1,h2⟩:=rp.get q3;exact⟨v,by simp[h1],h2.step (Kp.less λb z=>ow b z)⟩
     ·obtain⟨c,z⟩|⟨m,t',e,q3,z⟩:=get h
      ·cases z;subst c;exact⟨a0,us,by simp,k2,k3.step (Kp.less λb z=>by rw[ow b z];exact ow0),⟨λ_=>rfl,λ_=>rfl⟩⟩
      ·cases z
     ·obtain⟨c,z⟩|⟨m,t',e,q3,z⟩:=get h1
      ·obtain⟨c',z'⟩|⟨m,t',e,q3,z'⟩:=get h3
       ·rw[c,c']
       ·cases z'
      ·cases z
    ·obtain⟨yp,b1,b2⟩:=bxk a0 rfl;have hk:∀b o,H2 b=oZ o->¬Ow B S' E b->H' b=oZ o:=λb o z n=>fr b o z (by intro c;cases c;exact n ow0);have lts:∀b,Ow B S' E b->dO H' b:=λb z=>by
      by_cases c:b=a0
      ·subst c;exact⟨yp,b1⟩
      ·obtain⟨yj,e⟩:=re.ow z;exact⟨yj,fr b _ e (by intro z;cases z;exact c rfl)⟩
     have zc:∀{i:Nat}{u:U},(E.set jb (oZ (.o kb ys)))[i]?=oZ (oZ u)->(i=jb/\u = .o kb ys)\/(i≠jb/\E[i]?=oZ (oZ u)):=λ{i u}h=>by
      by_cases c:i=jb
      ·subst c;rw[VA (SW.mp hE).1]at h;cases h;exact .inl ⟨rfl,rfl⟩
      ·rw[UK (λz=>c z.symm)]at h;exact .inr ⟨c,h⟩
     have kp:Kp (Ow B S' E) (Ow B S' E) H2 H':=⟨hk,λb z=>.inl z⟩;have owE:∀b,Ow B S' (E.set jb (oZ (.o kb ys))) b->Ow B S' E b:=λb z=>by
      obtain z|⟨i,k,zs,z1,z2⟩:=z
      ·exact .inl z
      obtain⟨c,z⟩|⟨c,z⟩:=zc z1
      ·subst c;exact .inr ⟨_,kb,xs,hE,z2⟩
      ·exact .inr ⟨i,k,zs,z,z2⟩
     have km:RE K B H' S' (E.set jb (oZ (.o kb ys))):=by
      refine re.step hk (by simp) (λi t h=>?_) (λi k zs h=>?_) (λa z=>?_)
      ·obtain⟨_,z⟩|⟨_,z⟩:=zc h
       ·cases z
       ·exact z
      ·obtain⟨c,z⟩|⟨c,z⟩:=zc h
       ·cases z;subst c;refine⟨xs,hE,λa ha=>?_⟩;rw[h0']at ha;cases ha;exact⟨yp,b1,b2.step (Kp.less lts)⟩
       ·refine⟨zs,z,λa ha=>?_⟩;obtain⟨a',yj,p1,p2,p3,_⟩:=re.own i k zs z;rw[ha]at p1;cases p1;have na:a≠a0:=λw=>c (re.inj i jb k kb zs xs a0 z hE (by rw[<-w];exact ha) h0');exact⟨yj,fr a _ p2 (by intro w;cases w;exact na rfl),p3.step kp⟩
      ·exact lts a (.inl z)
     refine Gq re km hk owE (λi k zs h=>?_) (λi t h=>?_) rv q2 lk
     ·obtain⟨c,z⟩|⟨c,z⟩:=zc h
      ·cases z
       right
       intro a us2 ha hu;subst c;rw[h0']at ha;cases ha;rw[b1]at hu;cases hu;exact b2
      ·left
       refine⟨z,λa ha=>?_⟩;obtain⟨a',yj,p1,p2,p3,_⟩:=re.own i k zs z;rw[ha]at p1;cases p1;have na:a≠a0:=λw=>c (re.inj i jb k kb zs xs a0 z hE (by rw[<-w];exact ha) h0');rw[p2];exact fr a _ p2 (by intro w;cases w;exact na rfl)
     ·obtain⟨_,z⟩|⟨_,z⟩:=zc h
      ·cases z
      ·exact z
  ·exact q.elim
 ·exact q.elim
def Td(bk:Bool):Option (Option U)->Option U
 |some (oZ (.p t))=>oZ (.p t)
 |some (oZ (.o _ xs))=>if bk=true then oZ (.o true xs)else oZ (.p (.lst xs))
 |_=>none
def nA(t:Nat)(cap:List (Nat×Bool))(E:En):En:=UY t none++cap.map λk=>Td k.2 E[k.1]?
def rR:List (Nat×Bool)->Option (Nat×Nat)
 |[]=>none
 |(k,true)::_=>oZ (0,k)
 |(_,false)::r=>(rR r).map λx=>(x.1+1,x.2)
def i7(cap:List (Nat×Bool)):Bool:=Nat.ble (cap.filter (·.2)).length 1
def yX(t:Nat)(cap:List (Nat×Bool))(qz E:En):Option En:=match rR cap with
 |none=>oZ E
 |some (j,k)=>match E[k]?,qz[t+j]? with
  |some (oZ (.o b _)),oZ (oZ (.o true ys))=>if dN ys=true then oZ (E.set k (oZ (.o b ys)))else none
  |some (oZ (.p _)),_=>oZ E
  |_,_=>none
def iV(g:FG)(Fe:FE):List T->En->(En->Prop)->Prop
 |[],E,Q=>Q E
 |x::xs,E,Q=>g x E λE2=>Fe E2 λr E3=>match r with
  |.p t=>(match E3[E.length-1]? with
   |some (oZ (.o false acc))=>acc.length<9000/\iV g Fe xs ((E3.set (E.length-1) (oZ (.o false (acc++[t])))).take E.length) Q
   |_=>False)
  |.s _=>False
def Hz(t:Nat)(cap:List (Nat×Bool))(I:FI)(g:FG)(Fe:FE):FE:=λE Q=>I E λitems us E1=>cap.all (λk=>!(k.2&&us.contains k.1))=true/\
 iV g Fe items (nA t cap E1++[oZ (.o false [])]) λqz=>match qz[t+cap.length]? with
  |some (oZ (.o false zs))=>dN zs=true/\o1 (yX t cap qz E1) λE2=>Q (.s E2.length) (E2++[oZ (.o false zs)])
  |_=>False
theorem Hj(h:(nA t cap E)[i]?=oZ (oZ u)):∃j k b,i=t+j/\cap[j]?=oZ (k,b)/\Td b E[k]?=oZ u:=by
 unfold nA at h;obtain c|c:=WR i t
 ·rw[UE (by simpa using c)]at h;have:=SY h;rw[List.mem_replicate]at this;cases this.2
 ·rw[VG (by simpa using c),XU,TR]at h;cases q:cap[i-t]? with
  |none=>rw[q]at h;cases h
  |some x=>
   rw[q]at h;exact⟨i-t,x.1,x.2,⋯,q,by simpa using h⟩
theorem Hk{σ:St}{cap:List (Nat×Bool)}(h:cap[j]?=oZ (k,b)):(iW t (cap.map (·.1)) σ)[t+j]?=oZ ((σ[k]?).join):=by
 unfold iW;rw[VG (by simp)];simp[h]
theorem xB:∀{cap:List (Nat×Bool)}{j k:Nat},rR cap=oZ (j,k)->cap[j]?=oZ (k,true)
 |(k,true)::r,_,_,h=>by cases h;rfl
 |(m,false)::r,j,k,h=>by
  cases q:rR r with
  |none=>rw[rR,q]at h;cases h
  |some x=>
   rw[rR,q]at h;cases h
   simpa using xB (j:=x.1) (k:=x.2) q
theorem j7:∀{cap:List (Nat×Bool)}{j k:Nat},i7 cap=true->cap[j]?=oZ (k,true)->rR cap=oZ (j,k)
 |[],j,k,_,h=>by simp at h
 |(m,true)::r,0,k,_,h=>by simp at h;subst h;rfl
 |(m,true)::r,j+1,k,ho,h=>by
  have h':r[j]?=oZ (k,true):=by simpa using h
  have:(k,true)∈r.filter (·.2):=TL.mpr ⟨SY h',rfl⟩;have hl:0<(r.filter (·.2)).length:=bu this;unfold i7 at ho;rw[UM (by rfl)]at ho;have:=Nat.le_of_ble_eq_true ho;simp only[TB]at this
  lia
 |(m,false)::r,0,k,_,h=>by simp at h
 |(m,false)::r,j+1,k,ho,h=>by
  have h':r[j]?=oZ (k,true):=by simpa using h
  have wm:i7 r=true:=by
   unfold i7 at ho⊢;rw[VC (by simp)]at ho;exact ho
  rw[rR,j7 wm h'];rfl
def RN(i:Nat)(la:List (Key×V))(σ:St)(H:Hp):Prop:=∃p,σ[i]?=oZ (oZ (.ref p))/\H p=oZ (.dK la)
abbrev DD:=Option (Nat×List (Key×V))
def lO(d:DD)(σ:St)(H:Hp):Prop:=∀x,d=oZ x->RN x.1 x.2 σ H
theorem lO.same(h:lO d σ H)(k:∀b o,H b=oZ o->H' b=oZ o):lO d σ H':=λx e=>let⟨p,h1,h2⟩:=h x e;⟨p,h1,k _ _ h2⟩
theorem lO.kp{d:DD}{K:W.Frag}{B O:ck->Prop}{S σ:St}{E:En}{H H':Hp}(h:lO d σ H)(re:RE K B H S E)(k:Kp (Ow B S E) O H H'):lO d σ H':=λx e=>
 let⟨p,h1,h2⟩:=h x e;⟨p,h1,k.keep _ _ h2 λz=>by obtain⟨vs,e⟩:=re.ow z;rw[h2]at e;cases e⟩
def mS(d:DD)(K:W.Frag)(F:FE):TE:=λσ H Q=>lO d σ H/\aJ K F σ H Q
def Jx(m:Bool)(t:Nat)(d:DD)(K:W.Frag)(g:FG):TG:=λv σ H Q=>lO d σ H/\pJ K g v σ H λσ' H'=>lO d σ' H'->(m=true->∀i,t<=i->σ'[i]?= σ[i]?)->Q σ' H'
abbrev Bs(d:DD)(K:W.Frag)(g:FG):TG:=Jx false 0 d K g
theorem QG.gd{X:Cx}{K:W.Frag}{g:FG}{e:oC}(h:QG X e (pJ K g)):QG X e (Bs none K g):=h.le λv σ H Q _ zZ=>by obtain⟨_,B,τ,E,t,Q',re,rp,hF,l⟩:=zZ;exact⟨B,τ,E,t,Q',re,rp,hF,λσ' H' E' a b c d=>l σ' H' E' a b c d (λ_ z=>by cases z) λz=>by cases z⟩
theorem QE.ed{X:Cx}{K:W.Frag}{Fe:FE}{e:oC}(h:QE X e (aJ K Fe)):QE X e (mS none K Fe):=h.le λ_ _ _ _ z=>z.2
def yN(d:DD)(K:W.Frag)(F:FB):TT:=λσ H Q=>lO d σ H/\fY K F σ H Q
section
variable{X:Cx}{K:W.Frag}{pos:Pos}{Fb:FB}{Fe:FE}{g:FG}{I:FI}
def gF(g:FG)(Fb:FB)(Fe:FE):List T->En->(En->Prop)->Prop
 |[],E,Q=>Q E
 |x::xs,E,Q=>g x E λE2=>Fb E2 λb E2'=>if b=true then Fe E2' λr E3=>match r with
  |.p t=>(match E3[E.length-1]? with
   |some (oZ (.o false acc))=>acc.length<9000/\gF g Fb Fe xs ((E3.set (E.length-1) (oZ (.o false (acc++[t])))).take E.length) Q
   |_=>False)
  |.s _=>False
  else gF g Fb Fe xs (E2'.take E.length) Q
def Dh(t:Nat)(cap:List (Nat×Bool))(I:FI)(g:FG)(Fb:FB)(Fe:FE):FE:=λE Q=>I E λitems us E1=>cap.all (λk=>!(k.2&&us.contains k.1))=true/\
 gF g Fb Fe items (nA t cap E1++[oZ (.o false [])]) λqz=>match qz[t+cap.length]? with
  |some (oZ (.o false zs))=>dN zs=true/\o1 (yX t cap qz E1) λE2=>Q (.s E2.length) (E2++[oZ (.o false zs)])
  |_=>False
def WB(t:Nat)(cap:List (Nat×Bool))(qz E E2:En):Prop:=E2.length=E.length/\∀(i:Nat)(u:U),E2[i]?=oZ (oZ u)->(∃(j:Nat)(b:Bool)(ys va:List T),cap[j]?=oZ (i,true)/\E[i]?=oZ (oZ (.o b va))/\qz[t+j]?=oZ (oZ (.o true ys))/\dN ys=true/\u = .o b ys)\/(E[i]?=oZ (oZ u)/\∀(j:Nat)(b:Bool)(xs:List T),cap[j]?=oZ (i,true)->E[i]?≠oZ (oZ (.o b xs)))
theorem Cf(ho:i7 cap=true)(h:yX t cap qz E=oZ E2):WB t cap qz E E2:=by
 unfold yX at h;cases qb:rR cap with
 |none=>
  rw[qb]at h;cases h;exact⟨rfl,λi u q=>.inr ⟨q,λj b xs z=>by rw[j7 ho z]at qb;cases qb⟩⟩
 |some jk=>
  obtain⟨j,k⟩:=jk;rw[qb]at h;simp only at h;have only:∀{i j'},cap[j']?=oZ (i,true)->i=k:=λz=>by rw[j7 ho z]at qb;cases qb;rfl
  split at h
  ·rename_i kb va ys hE1 hEi;split at h
   ·rename_i hny;cases h;refine⟨by simp,λi u q=>?_⟩
    by_cases c:i=k
    ·subst c;rw[VA (SW.mp hE1).1]at q;cases q;exact .inl ⟨j,kb,ys,va,xB qb,hE1,hEi,hny,rfl⟩
    ·rw[UK (λz=>c z.symm)]at q;exact .inr ⟨q,λj' b xs z=>absurd (only z) c⟩
   ·cases h
  ·rename_i tp hE1;cases h;exact⟨rfl,λi u q=>.inr ⟨q,λj' b xs z y=>by rw[only z,hE1]at y;cases y⟩⟩
  ·cases h
theorem tM {cap:List (Nat×Bool)} (S:bI X N' scope t (cap.map (·.1))) (hm:i7 cap=true\/m=true/\tm=t) (vb:(cap.map (·.1)).Nodup) {W:En->En->Option En} (hW:∀qz E E2,W qz E=oZ E2->WB t cap qz E E2) {FC:List T->Prop->Prop} (hC:∀zs p,FC zs p->p) {rr:List T->RV} {σ:St} {Q Qv:VK} (hl:σ.length=X.N.length) (hdd:∀H,lO d σ H->lO d' (iW t (cap.map (·.1)) σ) H) (out:∀(zs:List T) (D:ck) (ws:List V) (H1 H2:Hp) (p:Prop),FC zs p->H1 D=none->H2 D=oZ (.lst ws)->ws.length=zs.length->(dN zs=true->cP K H2 (λa=>dO H1 a\/a=D) zs ws)->∃v,NI K H1 H2 (rr zs) v/\(Qv v H2->Q (.ref D) H2)) (h:mS d K (λE Q'=>I E λitems us E1=>cap.all (λk=>!(k.2&&us.contains k.1))=true/\gF g Fb Fe items (nA t cap E1++[oZ (.o false [])]) λqz=>match qz[t+cap.length]? with
   | some (oZ (.o false zs))=>FC zs (o1 (W qz E1) λE2=>Nl E2 Q' (rr zs))
   | _=>False) σ H Qv):mN t (cap.map (·.1)) (kL K I) (Jx m tm d' K g) (yN d' K Fb) (mS d' K Fe) σ H Q:=by
 obtain ⟨dt,B,S0,E,Q',hS,re,hF,lk⟩:=h;refine ⟨B,S0,E,_,hS,re,hF,λJ items us E1 H1 S1 gd q g1 kq ok' aBY hgd D hD=>?_⟩;obtain ⟨hus,q⟩:=q;obtain ⟨τ0,hS0⟩:=hS;obtain ⟨τ1,qg⟩:=g1.pre;have aDL:∃τ,S1=σ++τ:=⟨τ0++τ1,by rw [qg,hS0,TF]⟩;have atσ:∀{j k:Nat} {b:Bool} {v:V},cap[j]? = oZ (k,b)->S1[k]? = oZ (oZ v)->σ[k]? = oZ (oZ v):=λ{j k b v} hj hv=>by
  obtain ⟨x,_,hx,_⟩:=S.caps j k (by rw [TR,hj];rfl);have hk:k<σ.length:=by rw [hl];exact (SW.mp hx).1
  obtain ⟨τ,rfl⟩:=aDL;rw [UE hk] at hv;exact hv
 have atC:∀{j k:Nat} {b:Bool} {v:V},cap[j]? = oZ (k,b)->S1[k]? = oZ (oZ v)->(iW t (cap.map (·.1)) σ)[t+j]? = oZ (oZ v):=λ{j k b v} hj hv=>by rw [Hk hj,atσ hj hv];rfl
 have yd:∀{j k:Nat} {b:Bool} {v:V},cap[j]? = oZ (k,b)->(iW t (cap.map (·.1)) σ)[t+j]? = oZ (oZ v)->S1[k]? = oZ (oZ v):=λ{j k b v} hj hv=>by
  rw [Hk hj] at hv;have:σ[k]? = oZ (oZ v):=by
   cases z:σ[k]? with
   | none=>rw [z] at hv;cases hv
   | some y=>rw [z] at hv;simpa using hv
  exact e9 aDL this
 obtain ⟨Bp,hBp⟩:∃Bp:ck->Prop,∀a,Bp a↔∃(j k:Nat) (kk:Bool) (xs:List T),cap[j]? = oZ (k,true)/\E1[k]? = oZ (oZ (.o kk xs))/\S1[k]? = oZ (oZ (.ref a)):=⟨_,λ_=>Iff.rfl⟩;have aDM:∀{j j' m:Nat} {c c':Bool},cap[j]? = oZ (m,c)->cap[j']? = oZ (m,c')->j=j':=λ{j j' m c c'} e2 p1=>by
  have lt1:j<(cap.map (·.1)).length:=by rw [SV];exact (SW.mp e2).1
  exact (ZX lt1 vb).mp (by rw [TR,TR,e2,p1];rfl)
 have aAN:∀a,Bp a->Ow B S1 E1 a:=λa z=>by
  obtain ⟨j,k,kk,xs,_,h2,h3⟩:=(hBp a).mp z;exact .inr ⟨k,kk,xs,h2,h3⟩
 -- an own list of the block is the box
 have aAO:∀{i:Nat} {k:Bool} {xs:List T},(nA t cap E1)[i]? = oZ (oZ (.o k xs))->∃j m kk,i=t+j/\cap[j]? = oZ (m,true)/\E1[m]? = oZ (oZ (.o kk xs))/\k=true:=λ{i k xs} h=>by
  obtain ⟨j,m,c,e1,e2,e3⟩:=Hj h;refine ⟨j,m,?_⟩;cases qE:E1[m]? with
  | none=>rw [qE] at e3;cases e3
  | some u=>
   cases u with
   | none=>rw [qE] at e3;cases e3
   | some u=>
    cases u with
    | p _=>rw [qE] at e3;cases e3
    | o kk ys=>
     rw [qE] at e3;cases c
     ·simp [Td] at e3
     ·simp [Td] at e3;obtain ⟨e4,e5⟩:=e3;exact ⟨kk,e1,e2,by rw [e5],e4⟩
 have zd:∀b,Ow Bp (iW t (cap.map (·.1)) σ) (nA t cap E1) b->Bp b:=λb z=>by
  obtain z | ⟨i,k,xs,h1,h2⟩:=z
  ·exact z
  obtain ⟨j,m,kk,e1,e2,e3,_⟩:=aAO h1;subst e1;exact (hBp b).mpr ⟨j,m,kk,xs,e2,e3,yd e2 h2⟩
 have kl:Kp (Ow B S1 E1) (Ow Bp (iW t (cap.map (·.1)) σ) (nA t cap E1)) H1 H1:=Kp.less λb z=>aAN b (zd b z);have aDN:RE K Bp H1 (iW t (cap.map (·.1)) σ) (nA t cap E1):=by
  refine ⟨by simp [iW,nA],λi u h=>?_,λi k xs h=>?_,λi j k l xs ys a h1 h2 h3 h4=>?_,λa z=>kq.ow (aAN a z)⟩
  ·obtain ⟨j,m,c,e1,e2,e3⟩:=Hj h;subst e1;cases qE:E1[m]? with
   | none=>rw [qE] at e3;cases e3
   | some w=>
    cases w with
    | none=>rw [qE] at e3;cases e3
    | some w=>
     cases w with
     | p w=>
      rw [qE] at e3;cases e3;obtain ⟨v,h1,h2⟩:=kq.pure m _ qE;exact ⟨v,atC e2 h1,h2.step kl⟩
     | o kk ys=>
      rw [qE] at e3;cases c
      ·simp [Td] at e3;subst e3;obtain ⟨a,vs,h1,h2,h3,h4⟩:=kq.own m kk ys qE;refine ⟨_,atC e2 h1,a,vs,rfl,.inl ⟨λz=>?_,.inl h2⟩,h3.step kl⟩;obtain ⟨j',k',kk',yz,p1,p2,p3⟩:=(hBp a).mp (zd a z);have e4:=kq.inj m k' kk kk' ys yz a qE p2 h1 p3;subst e4;have lt1:j<(cap.map (·.1)).length:=by rw [SV];exact (SW.mp e2).1
       have lt2:j'<(cap.map (·.1)).length:=by rw [SV];exact (SW.mp p1).1
       have:j=j':=(ZX lt1 vb).mp (by rw [TR,TR,e2,p1];rfl);subst this;rw [e2] at p1;cases p1
      ·simp [Td] at e3
  ·obtain ⟨j,m,kk,e1,e2,e3,e4⟩:=aAO h;subst e1;subst e4;obtain ⟨a,vs,h1,h2,h3,h4⟩:=kq.own m kk _ e3;exact ⟨a,vs,atC e2 h1,h2,h3.step kl,⟨λ_=>(hBp a).mpr ⟨j,m,kk,_,e2,e3,h1⟩,λ_=>rfl⟩⟩
  ·obtain ⟨j1,m1,k1,e1,e2,e5,_⟩:=aAO h1;obtain ⟨j2,m2,k2,e3,e4,e6,_⟩:=aAO h2;subst e1;subst e3;have em:=kq.inj m1 m2 k1 k2 _ _ a e5 e6 (yd e2 h3) (yd e4 h4);subst em;rw [aDM e2 e4]
 -- the accumulator gets a place
 obtain ⟨gD,reD⟩:=aDN.lst (ts:=[]) (vs:=[]) hD rfl;have gd0:gd (upd H1 D (.lst [])) (Ow Bp (iW t (cap.map (·.1)) σ++[oZ (.ref D)]) (nA t cap E1++[oZ (.o false [])])):=by
  refine ok'.keep _ _ _ _ gD.kp (hgd _ (λb z=>aAN b (zd b z)) λj hj a ha z=>?_);obtain ⟨j',k',kk',yz,p1,p2,p3⟩:=(hBp a).mp (zd a z);obtain ⟨kj,xj,qj⟩:=aBY j hj;have ej:=kq.inj j k' kj kk' xj yz a qj p2 ha p3;subst ej;have:=VS.mp hus (j,true) (SY p1);simp [hj] at this
 have hn:(iW t (cap.map (·.1)) σ).length=t+cap.length:=by simp [iW]
 have hnE:(nA t cap E1++[oZ (U.o false [])]).length=t+cap.length+1:=by simp [nA];lia
 -- the turns
 refine ⟨λi m' σ' H'=>m'=items.length-i/\i<=items.length/\∃E',gF g Fb Fe (items.drop i) E' (λqz=>match qz[t+cap.length]? with
   | some (oZ (.o false zs))=>FC zs (o1 (W qz E1) λE2=>Nl E2 Q' (rr zs))
   | _=>False)/\σ'.length=t+cap.length/\E'.length=t+cap.length+1/\RE K Bp H' (σ'++[oZ (.ref D)]) E'/\
   Gs Bp (upd H1 D (.lst [])) (iW t (cap.map (·.1)) σ++[oZ (.ref D)]) (nA t cap E1++[oZ (.o false [])]) H' (σ'++[oZ (.ref D)]) E'/\gd H' (Ow Bp (σ'++[oZ (.ref D)]) E')/\lO d' σ' H'/\(m=true->∀i,tm<=i->σ'[i]? = (iW t (cap.map (·.1)) σ)[i]?),
  ⟨_,rfl,VZ _,_,q,hn,hnE,reD,Kp.refl _ _,gd0,(hdd _ (dt.kp re g1.kp)).kp aDN gD.kp,λ_ _ _=>rfl⟩,?_⟩
 rintro i m' σ2 H2 ⟨rfl,hi',E3,q3,hl3,hE3,oj,g3,yc,dt3,st3⟩;obtain pj | hge:=WR i items.length
 ·have hd:items.drop i=items[i]::items.drop (i+1):=VT pj;rw [hd] at q3;refine .inr ⟨ok'.go i H2 _ yc pj,λx H4 y=>?_⟩;obtain ⟨k4,s4,rp⟩:=ok'.yld i H2 _ x H4 _ yc (SX pj) (λa z=>by obtain ⟨vs,e⟩:=oj.ow z;rw [e];intro z;cases z) y;have yi:=oj.kept s4;have gd4:=ok'.keep _ _ _ _ k4 yc;refine ⟨dt3.same s4,_,[oZ (.ref D)],E3,_,_,yi,rp,q3,λσ5 H5 E5 q5 g5 ux hl5 dt5 s5=>?_⟩;have st5:m=true->∀i,tm<=i->σ5[i]? = (iW t (cap.map (·.1)) σ)[i]?:=λa i b=>(s5 a i b).trans (st3 a i b);have hE5:E5.length=t+cap.length+1:=by rw [<-ux.len];simp [hl5,hl3]
  refine ⟨dt5,_,σ5++[oZ (.ref D)],E5,_,⟨_,rfl⟩,ux,q5,λok E5' H5' S5' q5' g5' aB1=>?_⟩;have ll:E5.length<=E5'.length:=by
   obtain ⟨τ6,e6⟩:=g5'.pre;rw [<-ux.len,<-aB1.len,e6];simp
  cases ok with
  | false=>
   have q5':gF g Fb Fe (items.drop (i+1)) (E5'.take E3.length) _:=q5';obtain ⟨re8,ow8⟩:=aB1.cut (E:=E5) (σ:=σ5++[oZ (.ref D)]) g5'.pre ux.len;have eE:E5.length=E3.length:=⋯
   rw [eE] at re8 ow8;have gg:Gs Bp H4 (σ2++[oZ (.ref D)]) E3 H5' (σ5++[oZ (.ref D)]) (E5'.take E3.length):=(g5.trans g5'.kp).trans (Kp.less ow8);refine ⟨items.length-(i+1),⋯,rfl,pj,_,q5',⋯,?_,re8,(g3.trans k4).trans gg,ok'.keep _ _ _ _ gg gd4,dt5.kp ux g5'.kp,st5⟩;rw [UP]
   lia
  | true=>
   obtain ⟨τ5,hτ5⟩:=g5'.pre;refine ⟨dt5.kp ux g5'.kp,_,S5',E5',_,⟨oZ (.ref D)::τ5,by rw [hτ5];simp⟩,aB1,q5',λr E6 v H6 S6 q6 g6 re6 rr6=>?_⟩;have g6:=g5'.trans g6;cases r with
   | s _=>exact q6.elim
   | p u=>
    simp only at q6;have aDR:E3.length-1=t+cap.length:=⋯
    rw [aDR] at q6;split at q6
    ·rename_i acc aDS;obtain ⟨hlen,q6⟩:=q6;obtain ⟨a6,ws,p1,p2,p3,p4⟩:=re6.own _ _ _ aDS;have hS6:S6[t+cap.length]? = oZ (oZ (.ref D)):=e9 g6.pre (by rw [VG ⋯];simp [hl5,hl3]);rw [hS6] at p1;cases p1;obtain ⟨g7,re7⟩:=re6.put (ys:=acc++[u]) (ws:=ws++[v]) aDS hS6 (p3.append ⟨v,[],rfl,rr6,rfl⟩);obtain ⟨re8,ow8⟩:=re7.cut (E:=E5) (σ:=σ5++[oZ (.ref D)]) (g6.trans g7).pre ux.len;have eE:E5.length=E3.length:=⋯
     rw [eE] at re8 ow8;have gg:Gs Bp H4 (σ2++[oZ (.ref D)]) E3 (upd H6 D (.lst (ws++[v]))) (σ5++[oZ (.ref D)]) ((E6.set (t+cap.length) (oZ (.o false (acc++[u])))).take E3.length):=(g5.trans (g6.trans g7).kp).trans (Kp.less ow8);refine ⟨ws,p2,by rw [p3.length];exact bZ (UX hlen),items.length-(i+1),⋯,rfl,pj,_,q6,⋯,?_,re8,(g3.trans k4).trans gg,ok'.keep _ _ _ _ gg gd4,(dt5.kp ux g6.kp).kp re6 g7.kp,st5⟩;rw [UP,YW];have:E5.length<=E6.length:=by
      obtain ⟨τ6,e6⟩:=g6.pre;rw [<-ux.len,<-re6.len,e6];simp
     lia
    ·exact q6.elim
 ·have ei:i=items.length:=⋯
  subst ei;rw [WV] at q3;refine .inl ⟨ok'.stop H2 _ yc,?_⟩;have q3':(match E3[t+cap.length]? with
   | some (oZ (.o false zs))=>FC zs (o1 (W E3 E1) λE2=>Nl E2 Q' (rr zs))
   | _=>False):=q3
  split at q3'
  ·rename_i zs hzs;have q4:=q3';obtain ⟨E2,e2,q3'⟩:=(hC _ _ q3').ex;obtain ⟨aD,ws,p1,p2,p3,p4⟩:=oj.own _ _ _ hzs;have hSD:(σ2++[oZ (V.ref D)])[t+cap.length]? = oZ (oZ (.ref D)):=by rw [VG ⋯];simp [hl3]
   rw [hSD] at p1;cases p1
   -- what is kept of the heap around
   have ow0:∀b,Ow Bp (iW t (cap.map (·.1)) σ++[oZ (.ref D)]) (nA t cap E1++[oZ (.o false [])]) b->Bp b\/b=D:=λb z=>by
    obtain z | z:=gD.kp.new b z
    ·exact .inl (zd b z)
    ·obtain⟨yj,hu⟩:=reD.ow (by assumption)
     by_cases c:b=D
     ·exact .inr c
     ·rw [bD c,z] at hu;cases hu
   have kept:∀b o,H1 b=oZ o->¬Bp b->H2 b=oZ o:=λb o e n=>by
    refine g3.keep b o (by rw [bD (bF e hD)];exact e) λz=>?_;obtain z | z:=ow0 b z
    ·exact n z
    ·exact bF e hD z
   have hk:∀b o,H1 b=oZ o->¬Ow B S1 E1 b->H2 b=oZ o:=λb o e n=>kept b o e λz=>n (aAN b z);obtain ⟨v0,rv0,aF0⟩:=out zs D ws H1 H2 _ q4 hD p2 p3.length λhnl=>cP.noL (λa z=>by
    obtain⟨yj,z⟩ | z:=z
    ·by_cases c:Bp a
     ·exact oj.ow (.inl c)
     ·exact ⟨yj,kept a _ z c⟩
    ·exact ⟨ws,by rw [z];exact p2⟩) hnl p3
   obtain ⟨eL,eG⟩:=hW _ _ _ e2;have lts:∀b,Ow B S1 E1 b->dO H2 b:=λb z=>by
    by_cases c:Bp b
    ·exact oj.ow (.inl c)
    ·obtain ⟨yj,e⟩:=kq.ow z;exact ⟨yj,kept b _ e c⟩
   -- a list that the block changed
   have bxI:∀{i j:Nat} {b:Bool} {va ys:List T},cap[j]? = oZ (i,true)->E1[i]? = oZ (oZ (.o b va))->E3[t+j]? = oZ (oZ (.o true ys))->dN ys=true->∃a us1,S1[i]? = oZ (oZ (.ref a))/\H2 a=oZ (.lst us1)/\cP K H2 (dO H2) ys us1:=λ{i j b va ys} hj hE hEi hny=>by
    obtain ⟨a',us1,r1,r2,r3,r4⟩:=oj.own _ true ys hEi;refine ⟨a',us1,?_,r2,cP.noL (λ_ z=>z) hny r3⟩;obtain ho | ⟨hm,rfl⟩:=hm
    ·obtain ⟨j',k',kk,xs,h1,h2,h3⟩:=(hBp a').mp (r4.mp rfl);have e:=j7 ho hj;rw [j7 ho h1] at e;cases e;exact h3
    ·have hjl:j<cap.length:=(SW.mp hj).1;rw [UE ⋯,st3 hm _ (Nat.le_add_right _ _)] at r1;exact yd hj r1
   have nk:∀{i:Nat} {l:Bool} {ye:List T} {a:ck},(∀j b xs,cap[j]? = oZ (i,true)->E1[i]?≠oZ (oZ (.o b xs)))->E1[i]? = oZ (oZ (.o l ye))->S1[i]? = oZ (oZ (.ref a))->¬Bp a:=λ{i l ye a} c z ha w=>by
    obtain ⟨j',k',kk',yz,p1',p2',p3'⟩:=(hBp a).mp w;have:=kq.inj i k' l kk' ye yz a z p2' ha p3';subst this;exact c j' l ye p1' z
   have owE:∀b,Ow B S1 E2 b->Ow B S1 E1 b:=λb z=>by
    obtain z | ⟨i,l,ye,z1,z2⟩:=z
    ·exact .inl z
    obtain⟨j,b',ys,va,_,h2,_,_,_⟩ | ⟨z,_⟩:=eG _ _ z1
    ·exact .inr ⟨_,_,_,h2,z2⟩
    ·exact .inr ⟨i,l,ye,z,z2⟩
   have kp:Kp (Ow B S1 E1) (Ow B S1 E1) H1 H2:=⟨hk,λb z=>.inl z⟩;refine aF0 (Gq kq (kq.step hk eL (λi u h=>?_) (λi l ye h=>?_) (λa z=>lts a (.inl z))) hk owE (λi l ye h=>?_) (λi u h=>?_) rv0 q3' (lk.step g1))
   ·obtain⟨_,_,_,_,_,_,_,_,z⟩ | ⟨z,_⟩:=eG _ _ h
    ·cases z
    ·exact z
   ·obtain⟨j,b',ys,va,h1,h2,h3,h4,z⟩ | ⟨z,nb⟩:=eG _ _ h
    ·cases z;obtain ⟨a0,us1,r1,r2,r3⟩:=bxI h1 h2 h3 h4;refine ⟨va,h2,λa ha=>?_⟩;rw [r1] at ha;cases ha;exact ⟨us1,r2,r3.step (Kp.less lts)⟩
    ·refine ⟨ye,z,λa ha=>?_⟩;obtain ⟨a',yj,p1',p2',p3',_⟩:=kq.own i l ye z;rw [ha] at p1';cases p1';exact ⟨yj,kept a _ p2' (nk nb z ha),p3'.step kp⟩
   ·obtain⟨j,b',ys,va,h1,h2,h3,h4,z⟩ | ⟨z,nb⟩:=eG _ _ h
    ·cases z
     right
     intro a us2 ha hu;obtain ⟨a0,us1,r1,r2,r3⟩:=bxI h1 h2 h3 h4;rw [r1] at ha;cases ha;rw [r2] at hu;cases hu;exact r3
    ·left
     refine ⟨z,λa ha=>?_⟩;obtain ⟨a',yj,p1',p2',p3',_⟩:=kq.own i l ye z;rw [ha] at p1';cases p1';rw [p2'];exact kept a _ p2' (nk nb z ha)
   ·obtain⟨_,_,_,_,_,_,_,_,z⟩ | ⟨z,_⟩:=eG _ _ h
    ·cases z
    ·exact z
  ·exact q3'.elim
theorem Aj(S:bI X N' scope t (cap.map (·.1)))(ho:i7 cap=true)(vb:(cap.map (·.1)).Nodup)(hl:σ.length=X.N.length)(hdd:∀H,lO d σ H->lO d' (iW t (cap.map (·.1)) σ) H)(h:mS d K (Dh t cap I g Fb Fe) σ H Q):mN t (cap.map (·.1)) (kL K I) (Bs d' K g) (yN d' K Fb) (mS d' K Fe) σ H Q:=
 tM (W:=yX t cap) (FC:=λzs p=>dN zs=true/\p) (rr:=.l) (Qv:=Q) S (.inl ho) vb (λ_ _ _=>Cf ho) (λ_ _ z=>z.2) hl hdd (λzs D ws H1 H2 p hc hD h2 _ hn=>⟨_,⟨D,ws,rfl,hD,h2,hn hc.1⟩,id⟩) h
def bT:FB:=λE Q=>Q true E
theorem Cy(g:FG)(Fe:FE):∀xs,gF g bT Fe xs=iV g Fe xs
 |[]=>rfl
 |x::xs=>by
  funext E Q
  simp only[gF,iV,bT,if_true,Cy g Fe xs]
theorem Kd(h:mN t cap (kL K I) (Jx m tm d K g) (yN d K bT) te σ H Q):Bz t cap (kL K I) (Jx m tm d K g) te σ H Q:=by
 obtain⟨B,S0,E,Q',hS,re,hF,lk⟩:=h;refine⟨B,S0,E,Q',hS,re,hF,λJ items us E1 H1 S1 gd q g1 kq ok aBY hgd D hD=>?_⟩;obtain⟨W,w0,tn⟩:=lk J items us E1 H1 S1 gd q g1 kq ok aBY hgd D hD;refine⟨W,w0,λi m σ' H' z=>(tn i m σ' H' z).imp id λ⟨go,st⟩=>⟨go,λx H2 y=>?_⟩⟩;obtain⟨dt,B',τ,E',u,Q2,km,rp,uz,l⟩:=st x H2 y;refine⟨dt,B',τ,E',u,Q2,km,rp,uz,λσ3 H3 E3 a b c e dt3 s3=>?_⟩;obtain⟨_,B3,S3,E4,Q4,_,yi,z,k⟩:=l σ3 H3 E3 a b c e dt3 s3;exact k true E4 H3 S3 z .refl yi
theorem Ht(S:bI X N' scope t (cap.map (·.1)))(ho:i7 cap=true)(vb:(cap.map (·.1)).Nodup)(hl:σ.length=X.N.length)(hdd:∀H,lO d σ H->lO d' (iW t (cap.map (·.1)) σ) H)(h:mS d K (Hz t cap I g Fe) σ H Q):Bz t (cap.map (·.1)) (kL K I) (Bs d' K g) (mS d' K Fe) σ H Q:=by
 have e:Dh t cap I g bT Fe=Hz t cap I g Fe:=by unfold Dh Hz;simp only[Cy]
 rw[<-e]at h;exact Kd (Aj S ho vb hl hdd h)
theorem QT.bd(h:QT X c (fY K Fb)):QT X c (yN none K Fb):=h.le λ_ _ _ z=>z.2
theorem jW(hc:X.calm=true)(S:bI X N' scope t (cap.map (·.1)))(ho:i7 cap=true)(vb:(cap.map (·.1)).Nodup)(hi:QI X target iter (kL K I))(hg:∀C s3 H3 fp,QG (bV X N' scope C s3 H3 fp) target (pJ K g))(he:∀C s3 H3 fp,QE (bV X N' scope C s3 H3 fp) elt (aJ K Fe))(hs:∀x,dr iter X.env x=pure x:=by intro _;rfl):
  QE X (.ListComp elt [⟨target,iter,[],0⟩] scope pos) (aJ K (Hz t cap I g Fe)):=
 (V6 hc S hi (λC s H f=>(hg C s H f).gd) (λC s H f=>(he C s H f).ed) hs).le λσ H Q hl h=>Ht (d:=none) (d':=none) S ho vb hl (λ_ _ _ z=>by cases z) ⟨(λ_ z=>by cases z),h⟩
end
theorem Zx(hNn:X.N.Nodup)(xh:X.N[ix]?=oZ xn)(hxn:y8 X.env.scope xn)(hfn:X.fn xn=true\/X.env.scope.names.lookup xn=oZ .local)(hsw:fo (.ListComp elt [⟨target,iter,ifs,0⟩] scope pos) (oZ (.Name xn pos')) vp.line X.env=pure true)(hc:X.calm=true)(S:bI X N' scope t cap)(hi:PI X target iter wi)(hg:∀C s3 H3 fp,PG (bV X N' scope C s3 H3 fp) target g)(hb:∀C s3 H3 fp,IB (bV X N' scope C s3 H3 fp) ifs tb)(he:∀C s3 H3 fp,PE (bV X N' scope C s3 H3 fp) elt te)(hs:∀x,dr iter X.env x=pure x:=by intro _;rfl):
  PS X (.Assign [.Name xn pos'] (.ListComp elt [⟨target,iter,ifs,0⟩] scope pos) vp) (Vd (mN t cap wi g tb te) (Ay ix)):=by
 intro pins s σ H DD I h;rw[exec_Assign_Name_used _ _ _ _ hsw];refine cm (ja (cm ?_));unfold evalThenUse;refine cm ?_;obtain⟨QQ,hQQ⟩:∃QQ:oA->oB->Prop,QQ=λ_ s'=>∃σ' H',aV X pins σ' H' s'/\DD.nx σ' H':=⟨_,rfl⟩;refine dZ (Q:=QQ) ?_ (λ_ s' h'=>cn (cn (by rw[hQQ]at h';exact h')));refine Ai (use:=oZ (ic (.Name xn pos') X.env)) hc S hi hg hb he hs I h λs3 s6 H3 H5 fp D m I3 f3 hn' yw yx ve os6 ba qn=>?_;have I7:aV X pins σ H5 s6:=I3.call' (ch:=fp) os6 yw yx ba f3;have fC:rA X pins H5 s3.heap.objs.size:=I3.fpOk (TN _) ve;refine wpAny_assign_Name (Bv I7 hNn xh hxn (v:=.ref D) rfl (λs8 I8⟨a,sa,ha⟩=>?_) hfn);have nC:s3.heap.objs.size≠a:=by
  obtain rfl|ha:=ha
  ·exact fC.2.1
  ·exactλz=>fC.2.2.2.2.1 _ _ ha z.symm
 obtain⟨mC,hnC⟩:∃m',s8.heap.Ns s3.heap.objs.size m':=⟨m,hn'.at λo e=>sa.extBut _ _ nC e⟩;refine⟨mC,hnC,λh' yo=>?_⟩;rw[hQQ];refine⟨_,H5,I8.turnedL (t':=s8.toks) (ch:=[s3.heap.objs.size]) (λb u hb e=>yo.extBut _ _ (by simpa using hb) e) (λb hb=>by rw[TM.mp hb];exact fC),qn⟩
theorem Qp(hNn:X.N.Nodup)(xh:X.N[ix]?=oZ xn)(hxn:y8 X.env.scope xn)(hfn:X.fn xn=true\/X.env.scope.names.lookup xn=oZ .local)(hsw:fo (.ListComp elt [⟨target,iter,[],0⟩] scope pos) (oZ (.Name xn pos')) vp.line X.env=pure true)(hc:X.calm=true)(S:bI X N' scope t cap)(hi:PI X target iter wi)(hg:∀C s3 H3 fp,PG (bV X N' scope C s3 H3 fp) target g)(he:∀C s3 H3 fp,PE (bV X N' scope C s3 H3 fp) elt te)(hs:∀x,dr iter X.env x=pure x:=by intro _;rfl):
  PS X (.Assign [.Name xn pos'] (.ListComp elt [⟨target,iter,[],0⟩] scope pos) vp) (Vd (Bz t cap wi g te) (Ay ix)):=
 λpins s σ H DD I h=>Zx (tb:=λ_ H Q=>Q true H) hNn xh hxn hfn hsw hc S hi hg (λ_ _ _ _ _ _ _ _ _ I z=>wpAny_tests_nil ⟨_,I,z⟩) he hs pins s σ H DD I h
theorem sA{X:Cx}{K:W.Frag}{Fe:FE}{g:FG}{I:FI}{target elt iter:oC}{scope:iq}{pos pos' vp:Pos}{N':List Str}{cap:List (Nat×Bool)}{t i:Nat}{x:Str}(hN:X.N.Nodup)(hi:X.N[i]?=oZ x)(hx:y8 X.env.scope x)(hsw:fo (.ListComp elt [⟨target,iter,[],0⟩] scope pos) (oZ (.Name x pos')) vp.line X.env=pure true)(hc:X.calm=true)(S:bI X N' scope t (cap.map (·.1)))(ho:i7 cap=true)(vb:(cap.map (·.1)).Nodup)(hit:QI X target iter (kL K I))(hg:∀C s3 H3 fp,QG (bV X N' scope C s3 H3 fp) target (pJ K g))(he:∀C s3 H3 fp,QE (bV X N' scope C s3 H3 fp) elt (aJ K Fe))(hs:∀x,dr iter X.env x=pure x:=by intro _;rfl)(hf:X.fn x=true\/X.env.scope.names.lookup x=oZ .local:=by first|exact .inl rfl|exact .inr rfl|assumption):
  QS X (.Assign [.Name x pos'] (.ListComp elt [⟨target,iter,[],0⟩] scope pos) vp) (iO K (D3 i (Hz t cap I g Fe))):=
 QS.le ⟨Qp hN hi hx hf hsw hc S hit.h (λC s3 H3 fp=>(hg C s3 H3 fp).gd.h) (λC s3 H3 fp=>(he C s3 H3 fp).ed.h) hs⟩ λD σ H hl⟨B,E,DT,re,hF,l⟩=>Ht (d:=none) (d':=none) S ho vb hl (λ_ _ _ z=>by cases z) ⟨(λ_ z=>by cases z),B,σ,E,_,⟨[],by simp⟩,re,hF,λr E' v H' S' q g km rr=>by
  obtain⟨u,e1,q⟩:=q.ex;rw[<-re.len]at e1 q;obtain⟨r1,ow⟩:=lY (i:=i) km g.pre rr e1;exact l.nx _ _ _ q (g.kp.trans (Kp.less ow)) r1⟩
mutual
def iP:T->T->Bool
 |.non,.non=>true
 |.bl a,.bl b=>a==b
 |.int a,.int b=>a==b
 |.bl a,.int b=>(if a then 1 else 0)==b
 |.int a,.bl b=>a==(if b then 1 else 0)
 |.str a,.str b=>a==b
 |.tup xs,.tup ys=>vH xs ys
 |.lst xs,.lst ys=>vH xs ys
 |_,_=>false
def vH:List T->List T->Bool
 |[],[]=>true
 |x::xs,y::ys=>iP x y&&vH xs ys
 |_,_=>false
end
mutual
def dT:T->Nat
 |.tup xs=>Ot xs+1
 |.lst xs=>Ot xs+1
 |_=>0
def Ot:List T->Nat
 |[]=>0
 |x::xs=>ag (dT x) (Ot xs)
end
mutual
theorem Hy:∀x:T,iP x x=true
 |.non=>rfl
 |.bl a=>by simp[iP]
 |.int a=>by simp[iP]
 |.str a=>by simp[iP]
 |.tup xs=>by rw[iP];exact tS xs
 |.lst xs=>by rw[iP];exact tS xs
theorem tS:∀xs:List T,vH xs xs=true
 |[]=>rfl
 |x::xs=>by rw[vH,Hy x,tS xs];rfl
end
theorem j9:∀xs ys:List T,vH xs ys=((VF (min xs.length ys.length)).all (λj=>iP (xs.getD j .non) (ys.getD j .non))&&xs.length==ys.length)
 |[],[]=>rfl
 |[],_::_=>by simp[vH]
 |_::_,[]=>by simp[vH]
 |x::xs,y::ys=>by
  rw[vH,j9 xs ys];simp only[TB,Nat.succ_min_succ,YQ,List.all_cons,List.all_map];simp[Function.comp_def,Bool.and_assoc]
theorem tO:∀{xs:List T}{x:T},x∈xs->dT x<=Ot xs
 |y::xs,x,h=>by
  rw[Ot];obtain rfl|h:=SU.mp h
  ·exact Nat.le_max_left _ _
  ·exact VE (tO h) (Nat.le_max_right _ _)
mutual
def Rq(K:W.Frag)(H:Hp):T->V->Prop
 |.non,v=>v = .non
 |.bl b,v=>v = .bl b
 |.int i,v=>v = .int i
 |.str x,v=>v = .str x
 |.tup xs,v=>∃a vs,v = .ref a/\vG K H a vs/\zD K H xs vs
 |.lst xs,v=>∃a vs,v = .ref a/\j5 K H a vs/\zD K H xs vs
def zD(K:W.Frag)(H:Hp):List T->List V->Prop
 |[],vs=>vs=[]
 |x::xs,vs=>∃v r,vs=v::r/\Rq K H x v/\zD K H xs r
end
section
variable{K:W.Frag}{H:Hp}{O:ck->Prop}
mutual
theorem Rp.rq:∀{t:T}{v:V},Rp K H O t v->Rq K H t v
 |.non,_,h=>h
 |.bl _,_,h=>h
 |.int _,_,h=>h
 |.str _,_,h=>h
 |.tup xs,v,h=>by
  obtain⟨a,vs,e,h1,h2⟩:=h;exact⟨a,vs,e,h1.imp (λh=>.inl h.2) id,cP.rq h2⟩
 |.lst xs,v,h=>by
  obtain⟨a,vs,e,h1,h2⟩:=h;exact⟨a,vs,e,h1.imp And.right id,cP.rq h2⟩
theorem cP.rq:∀{xs:List T}{vs:List V},cP K H O xs vs->zD K H xs vs
 |[],_,h=>h
 |x::xs,vs,h=>by
  obtain⟨v,r,e,h1,h2⟩:=h;exact⟨v,r,e,Rp.rq h1,cP.rq h2⟩
end
theorem Rt.rq(h:Rt K H O t v):Rq K H t v:=by
 cases t with
 |tup xs=>obtain⟨a,vs,e,h1,h2⟩:=h;exact⟨a,vs,e,h1,h2.rq⟩
 |lst xs=>obtain⟨a,vs,e,h1,h2⟩:=h;exact⟨a,vs,e,h1,h2.rq⟩
 |non=>exact h
 |bl _=>exact h
 |int _=>exact h
 |str _=>exact h
theorem zD.length:∀{xs:List T}{vs:List V},zD K H xs vs->vs.length=xs.length
 |[],_,h=>by cases h;rfl
 |_::_,_,⟨v,r,e,_,h2⟩=>by rw[e,TB,TB,zD.length h2]
theorem zD.get:∀{xs:List T}{vs:List V}{i:Nat}{x:T},zD K H xs vs->xs[i]?=oZ x->∃v,vs[i]?=oZ v/\Rq K H x v
 |[],_,_,_,_,e=>by simp at e
 |_::_,_,0,_,⟨v,r,e,h1,_⟩,q=>by simp at q;subst q;subst e;exact⟨v,rfl,h1⟩
 |_::_,_,i+1,x,⟨v,r,e,_,h2⟩,q=>by
  obtain⟨w,q1,q2⟩:=zD.get (i:=i) (x:=x) h2 (by simpa using q);subst e;exact⟨w,by simpa using q1,q2⟩
end
section
variable{X:Cx}{pins:List (ck×Obj)}{σ:St}{H:Hp}{s:oB}
theorem aV.nolt(I:aV X pins σ H s)(h1:j5 X.K H a vs)(h2:vG X.K H a ws):False:=by
 obtain⟨_,_,p1,_⟩:=I.list h1;obtain⟨_,_,p2,_⟩:=I.tuple h2;exact SeqAt.ne_of_list_tuple p1.isList p2 rfl
mutual
theorem Rq.inj(I:aV X pins σ H s):∀{x y:T}{v:V},Rq X.K H x v->Rq X.K H y v->x=y
 |.non,.non,_,_,_=>rfl
 |.bl a,.bl b,_,h,k=>by cases h;cases k;rfl
 |.int a,.int b,_,h,k=>by cases h;cases k;rfl
 |.str a,.str b,_,h,k=>by cases h;cases k;rfl
 |.tup xs,.tup ys,v,⟨a,vs,e,h1,h2⟩,⟨b,ws,f,k1,k2⟩=>by
  rw[e]at f;cases f;rw[I.tuple_inj h1 k1]at h2;rw[zD.inj I h2 k2]
 |.lst xs,.lst ys,v,⟨a,vs,e,h1,h2⟩,⟨b,ws,f,k1,k2⟩=>by
  rw[e]at f;cases f;rw[I.list_inj h1 k1]at h2;rw[zD.inj I h2 k2]
 |.tup xs,.lst ys,v,⟨a,vs,e,h1,h2⟩,⟨b,ws,f,k1,k2⟩=>by rw[e]at f;cases f;exact(I.nolt k1 h1).elim
 |.lst xs,.tup ys,v,⟨a,vs,e,h1,h2⟩,⟨b,ws,f,k1,k2⟩=>by rw[e]at f;cases f;exact(I.nolt h1 k1).elim
 |.non,.bl _,_,h,k=>by cases h;cases k
 |.non,.int _,_,h,k=>by cases h;cases k
 |.non,.str _,_,h,k=>by cases h;cases k
 |.non,.tup _,_,h,⟨_,_,k,_⟩=>by cases h;cases k
 |.non,.lst _,_,h,⟨_,_,k,_⟩=>by cases h;cases k
 |.bl _,.non,_,h,k=>by cases h;cases k
 |.bl _,.int _,_,h,k=>by cases h;cases k
 |.bl _,.str _,_,h,k=>by cases h;cases k
 |.bl _,.tup _,_,h,⟨_,_,k,_⟩=>by cases h;cases k
 |.bl _,.lst _,_,h,⟨_,_,k,_⟩=>by cases h;cases k
 |.int _,.non,_,h,k=>by cases h;cases k
 |.int _,.bl _,_,h,k=>by cases h;cases k
 |.int _,.str _,_,h,k=>by cases h;cases k
 |.int _,.tup _,_,h,⟨_,_,k,_⟩=>by cases h;cases k
 |.int _,.lst _,_,h,⟨_,_,k,_⟩=>by cases h;cases k
 |.str _,.non,_,h,k=>by cases h;cases k
 |.str _,.bl _,_,h,k=>by cases h;cases k
 |.str _,.int _,_,h,k=>by cases h;cases k
 |.str _,.tup _,_,h,⟨_,_,k,_⟩=>by cases h;cases k
 |.str _,.lst _,_,h,⟨_,_,k,_⟩=>by cases h;cases k
 |.tup _,.non,_,⟨_,_,h,_⟩,k=>by cases h;cases k
 |.tup _,.bl _,_,⟨_,_,h,_⟩,k=>by cases h;cases k
 |.tup _,.int _,_,⟨_,_,h,_⟩,k=>by cases h;cases k
 |.tup _,.str _,_,⟨_,_,h,_⟩,k=>by cases h;cases k
 |.lst _,.non,_,⟨_,_,h,_⟩,k=>by cases h;cases k
 |.lst _,.bl _,_,⟨_,_,h,_⟩,k=>by cases h;cases k
 |.lst _,.int _,_,⟨_,_,h,_⟩,k=>by cases h;cases k
 |.lst _,.str _,_,⟨_,_,h,_⟩,k=>by cases h;cases k
theorem zD.inj(I:aV X pins σ H s):∀{xs ys:List T}{vs:List V},zD X.K H xs vs->zD X.K H ys vs->xs=ys
 |[],[],_,_,_=>rfl
 |[],_::_,_,h,⟨_,_,k,_⟩=>by cases h;cases k
 |_::_,[],_,⟨_,_,h,_⟩,k=>by cases k;cases h
 |x::xs,y::ys,_,⟨v,r,e,h1,h2⟩,⟨w,r',f,k1,k2⟩=>by
  rw[e]at f;cases f;rw[Rq.inj I h1 k1,zD.inj I h2 k2]
end
theorem Kt{A:oD}{u v:oA}{k:Bool}(h:SeqAt.RcAt A s u v k)(hk:u=v->k=true)(hf:∀b t,u≠.float b t):SeqAt.EqAt A s u v k:=λprog w E Q hq=>by
 unfold eqBool;refine fj ?_;refine wpAny_ite_split (λhab=>?_) (λ_=>?_)
 ·rw[hk (eq_of_beq hab)]at hq;exact cm (jh (cn hq))
 ·cases u with
  |float b t=>exact absurd rfl (hf b t)
  |_=>exact cm (h prog w E _ (ip hq))
theorem Qy(h:bP x u)(k:bP y u):x=y:=h.inj k
theorem sG(A:oD)(rx:bB vs jz)(ry:bB ws js)(hx:zD X.K H xs vs)(hy:zD X.K H ys ws)(ih:∀(j:Nat)(x y:T)(v w:V)(u u':oA),xs[j]?=oZ x->ys[j]?=oZ y->Rq X.K H x v->Rq X.K H y w->bP v u->bP w u'->SeqAt.EqAt A s u u' (iP x y)):
  ∀j(h1:j<jz.toArray.size)(h2:j<js.toArray.size),SeqAt.EqAt A s jz.toArray[j] js.toArray[j] (iP (xs.getD j .non) (ys.getD j .non)):=λj h1 h2=>by
 have l1:=rx.length;have l2:=ry.length;have l3:=hx.length;have l4:=hy.length;have h1':j<jz.length:=by simpa using h1
 have h2':j<js.length:=by simpa using h2
 have e1:xs[j]?=oZ xs[j]:=SX (by omega);have e2:ys[j]?=oZ ys[j]:=SX (by omega);obtain⟨v,q1,q2⟩:=hx.get e1;obtain⟨w,q3,q4⟩:=hy.get e2;obtain⟨u1,z1,r1⟩:=rx.get q1;obtain⟨v1,z2,r2⟩:=ry.get q3;have y1:jz.toArray[j]=u1:=by
  rw[SX h1']at z1
  simpa using Option.some.inj z1
 have y2:js.toArray[j]=v1:=by
  rw[SX h2']at z2
  simpa using Option.some.inj z2
 rw[y1,y2];have g1:xs.getD j .non=xs[j]:=by simp[List.getD,e1]
 have g2:ys.getD j .non=ys[j]:=by simp[List.getD,e2]
 rw[g1,g2];exact ih j _ _ v w u1 v1 e1 e2 q2 q4 r1 r2
theorem l8(I:aV X pins σ H s)(hx:Rq X.K H x v)(rx:bP v u):(x = .non/\u = .none)\/(∃b,x = .bl b/\u = .bool b)\/(∃i t,x = .int i/\u = .int i t)\/(∃c t,x = .str c/\u = .str c t)\/(∃xs a jz,x = .tup xs/\u = .ref a/\s.heap.IsTuple a jz)\/∃xs a jz,x = .lst xs/\u = .ref a/\s.heap.IsList a jz:=by
 cases x with
 |non=>cases hx;cases rx;exact .inl ⟨rfl,rfl⟩
 |bl b=>cases hx;cases rx;exact .inr (.inl ⟨_,rfl,rfl⟩)
 |int i=>cases hx;obtain⟨t,rfl⟩:=rx;exact .inr (.inr (.inl ⟨_,t,rfl,rfl⟩))
 |str c=>cases hx;obtain⟨t,rfl⟩:=rx;exact .inr (.inr (.inr (.inl ⟨_,t,rfl,rfl⟩)))
 |tup xs=>
  obtain⟨a,vs,e,q,_⟩:=hx;subst e;cases rx;obtain⟨jz,_,p,_⟩:=I.tuple q;exact .inr (.inr (.inr (.inr (.inl ⟨xs,a,_,rfl,rfl,p⟩))))
 |lst xs=>
  obtain⟨a,vs,e,q,_⟩:=hx;subst e;cases rx;obtain⟨jz,_,p,_⟩:=I.list q;exact .inr (.inr (.inr (.inr (.inr ⟨xs,a,_,rfl,rfl,p.isList⟩))))
theorem yA(I:aV X pins σ H s){A:oD}(hu:A.units<jn)(nt:∀xs ys,¬(x = .tup xs/\y = .tup ys))(nl:∀xs ys,¬(x = .lst xs/\y = .lst ys))(hx:Rq X.K H x v)(hy:Rq X.K H y w)(rx:bP v u)(ry:bP w u'):SeqAt.RcAt A s u u' (iP x y)/\SeqAt.RcNeAt A s u u' (!(iP x y)):=by
 obtain⟨rfl,rfl⟩|⟨_,rfl,rfl⟩|⟨_,_,rfl,rfl⟩|⟨_,_,rfl,rfl⟩|⟨xs,_,_,rfl,rfl,p⟩|⟨xs,_,_,rfl,rfl,p⟩:=l8 I hx rx
 ·obtain⟨rfl,rfl⟩|⟨_,rfl,rfl⟩|⟨_,_,rfl,rfl⟩|⟨_,_,rfl,rfl⟩|⟨ys,_,_,rfl,rfl,q⟩|⟨ys,_,_,rfl,rfl,q⟩:=l8 I hy ry
  ·exact⟨SeqAt.RcAt.none_none,SeqAt.RcNeAt.none_none⟩
  ·exact⟨SeqAt.RcAt.none_bool _,SeqAt.RcNeAt.none_bool _⟩
  ·exact⟨SeqAt.RcAt.none_int _ _,SeqAt.RcNeAt.none_int _ _⟩
  ·exact⟨SeqAt.RcAt.none_str _ _,SeqAt.RcNeAt.none_str _ _⟩
  ·exact⟨SeqAt.RcAt.none_tuple q hu,SeqAt.RcNeAt.none_tuple q hu⟩
  ·exact⟨SeqAt.RcAt.none_list q hu,SeqAt.RcNeAt.none_list q hu⟩
 ·obtain⟨rfl,rfl⟩|⟨_,rfl,rfl⟩|⟨_,_,rfl,rfl⟩|⟨_,_,rfl,rfl⟩|⟨ys,_,_,rfl,rfl,q⟩|⟨ys,_,_,rfl,rfl,q⟩:=l8 I hy ry
  ·exact⟨SeqAt.RcAt.bool_none _,SeqAt.RcNeAt.bool_none _⟩
  ·exact⟨SeqAt.RcAt.bool_bool _ _,SeqAt.RcNeAt.bool_bool _ _⟩
  ·exact⟨SeqAt.RcAt.bool_int _ _ _,SeqAt.RcNeAt.bool_int _ _ _⟩
  ·exact⟨SeqAt.RcAt.bool_str _ _ _,SeqAt.RcNeAt.bool_str _ _ _⟩
  ·exact⟨SeqAt.RcAt.bool_tuple _ q hu,SeqAt.RcNeAt.bool_tuple _ q hu⟩
  ·exact⟨SeqAt.RcAt.bool_list _ q hu,SeqAt.RcNeAt.bool_list _ q hu⟩
 ·obtain⟨rfl,rfl⟩|⟨_,rfl,rfl⟩|⟨_,_,rfl,rfl⟩|⟨_,_,rfl,rfl⟩|⟨ys,_,_,rfl,rfl,q⟩|⟨ys,_,_,rfl,rfl,q⟩:=l8 I hy ry
  ·exact⟨SeqAt.RcAt.int_none _ _,SeqAt.RcNeAt.int_none _ _⟩
  ·exact⟨SeqAt.RcAt.int_bool _ _ _,SeqAt.RcNeAt.int_bool _ _ _⟩
  ·exact⟨SeqAt.RcAt.int_int _ _ _ _,SeqAt.RcNeAt.int_int _ _ _ _⟩
  ·exact⟨SeqAt.RcAt.int_str _ _ _ _,SeqAt.RcNeAt.int_str _ _ _ _⟩
  ·exact⟨SeqAt.RcAt.int_tuple _ _ q hu,SeqAt.RcNeAt.int_tuple _ _ q hu⟩
  ·exact⟨SeqAt.RcAt.int_list _ _ q hu,SeqAt.RcNeAt.int_list _ _ q hu⟩
 ·obtain⟨rfl,rfl⟩|⟨_,rfl,rfl⟩|⟨_,_,rfl,rfl⟩|⟨_,_,rfl,rfl⟩|⟨ys,_,_,rfl,rfl,q⟩|⟨ys,_,_,rfl,rfl,q⟩:=l8 I hy ry
  ·exact⟨SeqAt.RcAt.str_none _ _,SeqAt.RcNeAt.str_none _ _⟩
  ·exact⟨SeqAt.RcAt.str_bool _ _ _,SeqAt.RcNeAt.str_bool _ _ _⟩
  ·exact⟨SeqAt.RcAt.str_int _ _ _ _,SeqAt.RcNeAt.str_int _ _ _ _⟩
  ·exact⟨SeqAt.RcAt.str_str _ _ _ _,SeqAt.RcNeAt.str_str _ _ _ _⟩
  ·exact⟨SeqAt.RcAt.str_tuple _ _ q hu,SeqAt.RcNeAt.str_tuple _ _ q hu⟩
  ·exact⟨SeqAt.RcAt.str_list _ _ q hu,SeqAt.RcNeAt.str_list _ _ q hu⟩
 ·obtain⟨rfl,rfl⟩|⟨_,rfl,rfl⟩|⟨_,_,rfl,rfl⟩|⟨_,_,rfl,rfl⟩|⟨ys,_,_,rfl,rfl,q⟩|⟨ys,_,_,rfl,rfl,q⟩:=l8 I hy ry
  ·exact⟨SeqAt.RcAt.tuple_none p hu,SeqAt.RcNeAt.tuple_none p hu⟩
  ·exact⟨SeqAt.RcAt.tuple_bool _ p hu,SeqAt.RcNeAt.tuple_bool _ p hu⟩
  ·exact⟨SeqAt.RcAt.tuple_int _ _ p hu,SeqAt.RcNeAt.tuple_int _ _ p hu⟩
  ·exact⟨SeqAt.RcAt.tuple_str _ _ p hu,SeqAt.RcNeAt.tuple_str _ _ p hu⟩
  ·exact absurd ⟨rfl,rfl⟩ (nt xs ys)
  ·exact⟨SeqAt.RcAt.tuple_list p q hu,SeqAt.RcNeAt.tuple_list p q hu⟩
 ·obtain⟨rfl,rfl⟩|⟨_,rfl,rfl⟩|⟨_,_,rfl,rfl⟩|⟨_,_,rfl,rfl⟩|⟨ys,_,_,rfl,rfl,q⟩|⟨ys,_,_,rfl,rfl,q⟩:=l8 I hy ry
  ·exact⟨SeqAt.RcAt.list_none p hu,SeqAt.RcNeAt.list_none p hu⟩
  ·exact⟨SeqAt.RcAt.list_bool _ p hu,SeqAt.RcNeAt.list_bool _ p hu⟩
  ·exact⟨SeqAt.RcAt.list_int _ _ p hu,SeqAt.RcNeAt.list_int _ _ p hu⟩
  ·exact⟨SeqAt.RcAt.list_str _ _ p hu,SeqAt.RcNeAt.list_str _ _ p hu⟩
  ·exact⟨SeqAt.RcAt.list_tuple p q hu,SeqAt.RcNeAt.list_tuple p q hu⟩
  ·exact absurd ⟨rfl,rfl⟩ (nl xs ys)
theorem Yv{K:W.Frag}{x:T}{v:V}{u:oA}(h:Rq K H x v)(r:bP v u):∀b t,u≠.float b t:=λb t e=>by
 subst e;cases x with
 |tup _=>obtain⟨_,_,e,_⟩:=h;subst e;cases r
 |lst _=>obtain⟨_,_,e,_⟩:=h;subst e;cases r
 |non=>cases h;cases r
 |bl _=>cases h;cases r
 |int _=>cases h;obtain⟨_,r⟩:=r;cases r
 |str _=>cases h;obtain⟨_,r⟩:=r;cases r
theorem Eu(I:aV X pins σ H s):∀(n:Nat)(A:oD)(x y:T)(v w:V)(u u':oA),dT x<=n->Rq X.K H x v->Rq X.K H y w->bP v u->bP w u'->A.units+n<jn->SeqAt.RcAt A s u u' (iP x y)/\SeqAt.EqAt A s u u' (iP x y):=by
 have fin:∀{A:oD}{x y:T}{v w:V}{u u':oA},Rq X.K H x v->Rq X.K H y w->bP v u->bP w u'->SeqAt.RcAt A s u u' (iP x y)->SeqAt.RcAt A s u u' (iP x y)/\SeqAt.EqAt A s u u' (iP x y):=λ{A x y v w u u'}hx hy rx ry h=>⟨h,Kt h (λe=>by
   subst e;rw[Rq.inj I hx (by rw[Qy rx ry];exact hy)];exact Hy y) (Yv hx rx)⟩
 intro n
 induction n with
 |zero=>
  intro A x y v w u u' hd hx hy rx ry hu;refine fin hx hy rx ry ((yA I ⋯ (λxs ys z=>?_) (λxs ys z=>?_) hx hy rx ry).1)
  ·rw[z.1]at hd;simp[dT]at hd
  ·rw[z.1]at hd;simp[dT]at hd
 |succ n ih=>
  intro A x y v w u u' hd hx hy rx ry hu;refine fin hx hy rx ry ?_
  by_cases c1:∃xs ys,x = .tup xs/\y = .tup ys
  ·obtain⟨xs,ys,rfl,rfl⟩:=c1;obtain⟨a,vs,rfl,q1,h1⟩:=hx;obtain⟨b,ws,rfl,q2,h2⟩:=hy;cases rx;cases ry;obtain⟨jz,r1,p1,_⟩:=I.tuple q1;obtain⟨js,r2,p2,_⟩:=I.tuple q2;have:=SeqAt.RcAt.tuples p1 p2 (A:=A) ⋯ (sG A.in1 r1 r2 h1 h2 λj x y v w u u' e1 e2 k1 k2 k3 k4=>(ih A.in1 x y v w u u' (by
    have:=tO (SY e1);simp only[dT]at hd;lia) k1 k2 k3 k4 (by show A.units+1+n<jn;lia)).2)
   rw[iP,j9];have l1:=r1.length;have l2:=r2.length;have l3:=h1.length;have l4:=h2.length;have s1:jz.toArray.size=xs.length:=by simp;lia
   have s2:js.toArray.size=ys.length:=by simp;lia
   rw[s1,s2]at this;exact this
  ·by_cases c2:∃xs ys,x = .lst xs/\y = .lst ys
   ·obtain⟨xs,ys,rfl,rfl⟩:=c2;obtain⟨a,vs,rfl,q1,h1⟩:=hx;obtain⟨b,ws,rfl,q2,h2⟩:=hy;cases rx;cases ry;obtain⟨jz,r1,p1,_⟩:=I.list q1;obtain⟨js,r2,p2,_⟩:=I.list q2;have l1:=r1.length;have l2:=r2.length;have l3:=h1.length;have l4:=h2.length;have s1:jz.toArray.size=xs.length:=by simp;lia
    have s2:js.toArray.size=ys.length:=by simp;lia
    rw[iP,j9]
    by_cases hl:xs.length=ys.length
    ·have:=SeqAt.RcAt.lists p1.isList p2.isList (A:=A) (by rw[s1,s2];exact hl) ⋯ (sG A.in1 r1 r2 h1 h2 λj x y v w u u' e1 e2 k1 k2 k3 k4=>(ih A.in1 x y v w u u' (by
      have:=tO (SY e1);simp only[dT]at hd;lia) k1 k2 k3 k4 (by show A.units+1+n<jn;lia)).2)
     rw[s1]at this;rw[<-hl,Nat.min_self,beq_self_eq_true,Bool.and_true];exact this
    ·have:=SeqAt.RcAt.lists_lengths p1.isList p2.isList (A:=A) (by rw[s1,s2];simpa using hl) ⋯;rw[show(xs.length==ys.length)=false by simpa using hl,bw];exact this
   ·exact(yA I ⋯ (λxs ys z=>c1 ⟨xs,ys,z⟩) (λxs ys z=>c2 ⟨xs,ys,z⟩) hx hy rx ry).1
theorem W4(I:aV X pins σ H s){A:oD}(n:Nat)(hd:dT x<=n)(hx:Rq X.K H x v)(hy:Rq X.K H y w)(rx:bP v u)(ry:bP w u')(hu:A.units+n<jn):SeqAt.RcNeAt A s u u' (!(iP x y)):=by
 by_cases c1:∃xs ys,x = .tup xs/\y = .tup ys
 ·obtain⟨xs,ys,rfl,rfl⟩:=c1;obtain⟨a,vs,rfl,q1,h1⟩:=hx;obtain⟨b,ws,rfl,q2,h2⟩:=hy;cases rx;cases ry;obtain⟨jz,r1,p1,_⟩:=I.tuple q1;obtain⟨js,r2,p2,_⟩:=I.tuple q2;have:=SeqAt.RcNeAt.tuples p1 p2 (A:=A) ⋯ (sG A.in1 r1 r2 h1 h2 λj x y v w u u' e1 e2 k1 k2 k3 k4=>(Eu I (n-1) A.in1 x y v w u u' (by
   have:=tO (SY e1);simp only[dT]at hd;lia) k1 k2 k3 k4 (by show A.units+1+(n-1)<jn;simp only[dT]at hd;lia)).2)
  rw[iP,j9];have l1:=r1.length;have l2:=r2.length;have l3:=h1.length;have l4:=h2.length;have s1:jz.toArray.size=xs.length:=by simp;lia
  have s2:js.toArray.size=ys.length:=by simp;lia
  rw[s1,s2]at this;exact this
 ·by_cases c2:∃xs ys,x = .lst xs/\y = .lst ys
  ·obtain⟨xs,ys,rfl,rfl⟩:=c2;obtain⟨a,vs,rfl,q1,h1⟩:=hx;obtain⟨b,ws,rfl,q2,h2⟩:=hy;cases rx;cases ry;obtain⟨jz,r1,p1,_⟩:=I.list q1;obtain⟨js,r2,p2,_⟩:=I.list q2;have l1:=r1.length;have l2:=r2.length;have l3:=h1.length;have l4:=h2.length;have s1:jz.toArray.size=xs.length:=by simp;lia
   have s2:js.toArray.size=ys.length:=by simp;lia
   rw[iP,j9]
   by_cases hl:xs.length=ys.length
   ·have:=SeqAt.RcNeAt.lists p1.isList p2.isList (A:=A) (by rw[s1,s2];exact hl) ⋯ (sG A.in1 r1 r2 h1 h2 λj x y v w u u' e1 e2 k1 k2 k3 k4=>(Eu I (n-1) A.in1 x y v w u u' (by
     have:=tO (SY e1);simp only[dT]at hd;lia) k1 k2 k3 k4 (by show A.units+1+(n-1)<jn;simp only[dT]at hd;lia)).2)
    rw[s1]at this;rw[<-hl,Nat.min_self,beq_self_eq_true,Bool.and_true];exact this
   ·have:=SeqAt.RcNeAt.lists_lengths p1.isList p2.isList (A:=A) (by rw[s1,s2];simpa using hl) ⋯;rw[show(xs.length==ys.length)=false by simpa using hl,bw];exact this
  ·exact(yA I ⋯ (λxs ys z=>c1 ⟨xs,ys,z⟩) (λxs ys z=>c2 ⟨xs,ys,z⟩) hx hy rx ry).2
end
section
variable{X:Cx}{K:W.Frag}{pos:Pos}{a b c e o:oC}{es:List oC}{Fa Fb Fo:FE}{Fr:FA}
def LI(K:W.Frag)(ng:Bool):R2:=λx y H Q=>∃t u,Rq K H t x/\Rq K H u y/\dT t<=60/\Q (.bl (if ng then !(iP t u)else iP t u)) H
theorem ES(hr:fF k X.A):oQ X (fi .Eq) (LI X.K false):=by
 intro pins s σ H x y v u Q I rx ry h;obtain⟨t,w,h1,h2,hd,q⟩:=h;exact(Eu I 60 X.A t w x y v u hd h1 h2 rx ry (by have:=hr.units;lia)).1 X.prog X.w X.xe _ (Dl I q rfl)
theorem EW(hr:fF k X.A):oQ X (fi .NotEq) (LI X.K true):=by
 intro pins s σ H x y v u Q I rx ry h;obtain⟨t,w,h1,h2,hd,q⟩:=h;exact W4 I 60 hd h1 h2 rx ry (by have:=hr.units;lia) X.prog X.w X.xe _ (Dl I q rfl)
def t2(x y:Option T)(k:T->T->Prop):Prop:=match x,y with
 |some t,oZ u=>k t u
 |_,_=>False
theorem t2.ex{k:T->T->Prop}(h:t2 x y k):∃t u,x=oZ t/\y=oZ u/\k t u:=by
 unfold t2 at h;split at h
 ·exact⟨_,_,rfl,rfl,h⟩
 ·exact h.elim
def RS(Fa Fb:FE):FE:=λE Q=>Fa E λx E1=>Fb E1 λy E2=>t2 (vl E2 x) (vl E2 y) λt u=>dT t<=60/\Q (.p (.bl (iP t u))) E2
def RX(Fa Fb:FE):FE:=λE Q=>Fa E λx E1=>Fb E1 λy E2=>t2 (vl E2 x) (vl E2 y) λt u=>dT t<=60/\Q (.p (.bl (!(iP t u)))) E2
end
section
variable{X:Cx}{K:W.Frag}{pos:Pos}{a b c e o:oC}{es:List oC}{Fa Fb Fc Fo:FE}{Fr:FA}
theorem Dp(ho:oQ X (fi op) r)(ha:QE X a (aJ K Fa))(hb:QE X b (aJ K Fb))(hm:eh op b=false)(k:∀σ H Q,aJ K F σ H Q->G9 r (aJ K Fa) (aJ K Fb) σ H Q):QT X (.Compare a [op] [b] pos) (fY K (zE F)):=
 (Es ho ha hb hm).le λσ H Q z=>k _ _ _ (M5 z)
theorem JF{g:Int->Int->Bool}(ho:oQ X (fi op) (Vk λi j=>.bl (g i j)))(ha:QE X a (aJ K Fa))(hb:QE X b (aJ K Fb))(hm:eh op b=false):QT X (.Compare a [op] [b] pos) (fY K (zE (OL g Fa Fb))):=
 Dp ho ha hb hm λσ H Q h=>two (Fa:=Fa) (Fb:=Fb) h λB S E x y v w H2 Q' hS re rx ry q lk=>by
  obtain⟨i,j,e1,e2,q⟩:=i2.ex q;exact⟨i,j,re.int rx e1,re.int ry e2,lk _ _ _ _ _ q .refl re rfl⟩
theorem Pn(eK:X.K=K)(hr:fF k X.A)(ha:QE X a (aJ K Fa))(hb:QE X b (aJ K Fb))(hm:eh .Eq b=false):QT X (.Compare a [.Eq] [b] pos) (fY K (zE (RS Fa Fb))):=by
 subst eK;refine Dp (ES hr) ha hb hm λσ H Q h=>two (Fa:=Fa) (Fb:=Fb) h λB S E x y v w H2 Q' hS re rx ry q lk=>?_;obtain⟨t,u,e1,e2,hd,q⟩:=t2.ex q;exact⟨t,u,(re.vl rx e1).rq,(re.vl ry e2).rq,hd,lk _ _ _ _ _ q .refl re rfl⟩
theorem nG(eK:X.K=K)(hr:fF k X.A)(ha:QE X a (aJ K Fa))(hb:QE X b (aJ K Fb))(hm:eh .NotEq b=false):QT X (.Compare a [.NotEq] [b] pos) (fY K (zE (RX Fa Fb))):=by
 subst eK;refine Dp (EW hr) ha hb hm λσ H Q h=>two (Fa:=Fa) (Fb:=Fb) h λB S E x y v w H2 Q' hS re rx ry q lk=>?_;obtain⟨t,u,e1,e2,hd,q⟩:=t2.ex q;exact⟨t,u,(re.vl rx e1).rq,(re.vl ry e2).rq,hd,lk _ _ _ _ _ q .refl re rfl⟩
def Yh:T->Bool
 |.non=>true
 |_=>false
theorem AS(h:Rq K H t v):decide (v = .non)=Yh t:=by
 cases t with
 |non=>cases h;rfl
 |bl _=>cases h;rfl
 |int _=>cases h;rfl
 |str _=>cases h;rfl
 |tup _=>obtain⟨_,_,e,_⟩:=h;subst e;rfl
 |lst _=>obtain⟨_,_,e,_⟩:=h;subst e;rfl
def N3(ng:Bool)(Fa:FE):FE:=λE Q=>Fa E λx E1=>o1 (vl E1 x) λt=>Q (.p (.bl (if ng then !(Yh t)else Yh t))) E1
theorem O6(h:aJ K (N3 false Fa) σ H Q):G9 (λx y H Q=>y = .non/\Q (.bl (decide (x = .non))) H) (aJ K Fa) (tC .non) σ H Q:=
 one (Fa:=Fa) h λB S E x v H2 Q' hS re rx q lk=>by
  obtain⟨t,e1,q⟩:=o1.ex q;exact⟨rfl,by rw[AS (re.vl rx e1).rq];exact lk _ _ _ _ _ q .refl re rfl⟩
theorem Yx(h:aJ K (N3 true Fa) σ H Q):G9 (λx y H Q=>y = .non/\Q (.bl (!decide (x = .non))) H) (aJ K Fa) (tC .non) σ H Q:=
 one (Fa:=Fa) h λB S E x v H2 Q' hS re rx q lk=>by
  obtain⟨t,e1,q⟩:=o1.ex q;exact⟨rfl,by rw[AS (re.vl rx e1).rq];exact lk _ _ _ _ _ q .refl re rfl⟩
theorem Xl{j p2}(ha:QE X a (aJ K Fa))(hm:eh .Is (.Constant .none j p2)=false):QT X (.Compare a [.Is] [.Constant .none j p2] pos) (fY K (zE (N3 false Fa))):=(Es EU ha Mp hm).le λ_ _ _ h=>O6 (M5 h)
theorem Dq{j p2}(ha:QE X a (aJ K Fa))(hm:eh .IsNot (.Constant .none j p2)=false):QT X (.Compare a [.IsNot] [.Constant .none j p2] pos) (fY K (zE (N3 true Fa))):=(Es S7 ha Mp hm).le λ_ _ _ h=>Yx (M5 h)
def SR:T->Bool
 |.lst _=>true
 |_=>false
def iC(xs:List T)(lo hi:Option Int):List T:=(xs.drop (HT.sIx xs.length 0 lo)).take (HT.sIx xs.length xs.length hi-HT.sIx xs.length 0 lo)
theorem Wo{O:ck->Prop}{lo hi:Option Int}(h:cP K H O xs vs):cP K H O (iC xs lo hi) (Hu vs lo hi):=by
 unfold iC Hu;rw[h.length];exact(h.drop _).take _
abbrev FO:=En->(Option Int->En->Prop)->Prop
def sZ(K:W.Frag)(F:FO):TO:=λσ H Q=>∃B S E Q',(∃τ,S=σ++τ)/\RE K B H S E/\F E Q'/\∀b E' H' S',Q' b E'->Gr B H S E H' S' E'->RE K B H' S' E'->Q b H'
theorem QO.le{e:Option oC}{t t':TO}(h:QO X e t)(m:∀σ H Q,t' σ H Q->t σ H Q):QO X e t':=⟨λpins s σ H Q I z=>h.h pins s σ H Q I (m σ H Q z)⟩
def KA:FO:=λE Q=>Q none E
def KC(Fa:FE):FO:=λE Q=>Fa E λx E1=>i1 (vl E1 x) λi=>Q (oZ i) E1
theorem jG:QO X none (sZ K KA):=V8.le λσ H Q⟨B,S,E,Q',hS,re,hF,lk⟩=>lk _ _ _ _ hF .refl re
theorem d9(h:QE X e (aJ K Fa)):QO X (oZ e) (sZ K (KC Fa)):=(V9 h).le λσ H Q⟨B,S,E,Q',hS,re,hF,lk⟩=>⟨B,S,E,_,hS,re,hF,λr E1 v H1 S1 q g kq rr=>by
 obtain⟨i,e1,q⟩:=i1.ex q;exact⟨i,kq.int rr e1,lk _ _ _ _ q g kq⟩⟩
variable{vf Gh:FO}
def OV(Fa:FE)(vf Gh:FO):FE:=λE Q=>Fa E λx E1=>vf E1 λlo E2=>Gh E2 λhi E3=>match vl E3 x with
 |some (.lst xs)=>Q (.s E3.length) (E3++[oZ (.o false (iC xs lo hi))])
 |_=>False
theorem h9{lo hi:Option oC}(eK:X.K=K)(he:QE X e (aJ K Fa))(hl:QO X lo (sZ K vf))(hu:QO X hi (sZ K Gh)):QE X (.Subscript e (.Slice lo hi none p2) pos) (aJ K (OV Fa vf Gh)):=by
 subst eK;refine(x9 X4 he hl hu).le λσ H Q _⟨B,S,E,Q',⟨τ,hS⟩,re,hF,lk⟩=>⟨B,S,E,_,⟨τ,hS⟩,re,hF,λx E1 v H1 S1 q g1 kq rx=>?_⟩;obtain⟨τ1,qg⟩:=g1.pre;refine⟨B,S1,E1,_,⟨τ++τ1,by rw[qg,hS,TF]⟩,kq,q,λl E2 H2 S2 q2 g2 mj=>?_⟩;obtain⟨τ2,hS2⟩:=g2.pre;refine⟨B,S2,E2,_,⟨τ++τ1++τ2,by rw[hS2,qg,hS,TF,TF,TF]⟩,mj,q2,λh E3 H3 S3 q3 g3 oj=>?_⟩;have rx3:=(rx.step g2).step g3;split at q3
 ·rename_i xs e1;obtain⟨a,vs,e2,sq,rs⟩:=oj.vl rx3 e1;refine⟨a,vs,e2,sq,λp hp=>?_⟩;obtain⟨g,km⟩:=oj.lst hp (Wo (lo:=l) (hi:=h) rs);exact lk _ _ _ _ _ q3 (((g1.trans g2).trans g3).trans g) km (by rw[<-oj.len];exact kC)
 ·exact q3.elim
def ownOf(E:En):R->Option (List T)
 |.s j=>match E[j]? with
  |some (oZ (.o _ xs))=>oZ xs
  |_=>none
 |_=>none
theorem RE.ownOf{B:ck->Prop}(re:RE K B H S E)(h:RR K B H S E r v)(e:L2.ownOf E r=oZ xs):∃j k a vs,r = .s j/\E[j]?=oZ (oZ (.o k xs))/\S[j]?=oZ (oZ (.ref a))/\v = .ref a/\H a=oZ (.lst vs)/\cP K H (Ow B S E) xs vs:=by
 cases r with
 |p _=>cases e
 |s j=>
  cases q:E[j]? with
  |none=>simp only[L2.ownOf,q]at e;cases e
  |some u=>
   cases u with
   |none=>simp only[L2.ownOf,q]at e;cases e
   |some u=>
    cases u with
    |p _=>simp only[L2.ownOf,q]at e;cases e
    |o k ys=>
     simp only[L2.ownOf,q]at e;cases e;obtain⟨a,vs,h1,h2,h3,_⟩:=re.own j k xs q;have h':S[j]?=oZ (oZ v):=h;rw[h']at h1;cases h1;exact⟨j,k,a,vs,rfl,q,h',rfl,h2,h3⟩
def l2(x y:Option (List T))(k:List T->List T->Prop):Prop:=match x,y with
 |some t,oZ u=>k t u
 |_,_=>False
theorem l2.ex{k:List T->List T->Prop}(h:l2 x y k):∃t u,x=oZ t/\y=oZ u/\k t u:=by
 unfold l2 at h;split at h
 ·exact⟨_,_,rfl,rfl,h⟩
 ·exact h.elim
def OK(Fa Fb:FE):FE:=λE Q=>Fa E λx E1=>Fb E1 λy E2=>l2 (ownOf E2 x) (ownOf E2 y) λxs ys=>xs.length+ys.length<=9000/\Q (.s E2.length) (E2++[oZ (.o false (xs++ys))])
theorem Di(ha:QE X a (aJ K Fa))(hb:QE X b (aJ K Fb)):QE X (.BinOp a .Add b pos) (aJ K (OK Fa Fb)):=by
 refine(Qs ER ha hb).le λσ H Q hl h=>two (Fa:=Fa) (Fb:=Fb) h λB S E x y v w H2 Q' hS re rx ry q lk=>?_;obtain⟨xs,ys,e1,e2,hz,q⟩:=l2.ex q;obtain⟨j,k,p,vs,_,_,_,rfl,h2,h3⟩:=re.ownOf rx e1;obtain⟨j',k',p',vs',_,_,_,rfl,h2',h3'⟩:=re.ownOf ry e2;refine⟨p,p',vs,vs',rfl,rfl,h2,h2',by rw[h3.length,h3'.length];exact UX (bZ hz),λr hr=>?_⟩;obtain⟨g,km⟩:=re.lst hr (h3.append h3');exact lk _ _ _ _ _ q g km (by rw[<-re.len];exact kC)
def N4(Fr:FA):FE:=λE Q=>Fr E λrs E1=>match rs with
 |[x]=>o1 ((vl E1 x).bind LZ) λxs=>Q (.s E1.length) (E1++[oZ (.o false xs)])
 |_=>False
theorem Aw(eK:X.K=K)(hg:Gl X "list")(hm:X.mg "list" = none)(ha:QA X (e::es) (dJ K n Fr))(hs:bW (e::es)=true:=by rfl):QE X (.Call (.Name "list" p) (e::es) [] pos) (aJ K (N4 Fr)):=by
 subst eK;refine(qH Cs hg hm (by decide +kernel) ha ∅ ∅ hs).le λσ H Q hl h=>args (Fr:=Fr) h λB S E rs vs H2 Q' hS re rr hn q lk=>?_
 match rs,rr,q with
 |[x],⟨v,ws,e1,h1,h2⟩,q=>
  cases h2;subst e1;obtain⟨xs,e2,q⟩:=o1.ex q;obtain⟨t,e3,e2⟩:=YL.mp e2;have rt:=re.vl h1 e3;have:∃p us,v = .ref p/\(j5 X.K H2 p us\/vG X.K H2 p us)/\cP X.K H2 (Ow B S E) xs us:=by
   cases t with
   |tup ys=>cases e2;obtain⟨p,us,e,sq,rs⟩:=rt;exact⟨p,us,e,.inr sq,rs⟩
   |lst ys=>cases e2;obtain⟨p,us,e,sq,rs⟩:=rt;exact⟨p,us,e,.inl sq,rs⟩
   |_=>cases e2
  obtain⟨p,us,rfl,sq,rs⟩:=this;refine⟨p,us,rfl,sq,λr hr=>?_⟩;obtain⟨g,km⟩:=re.lst hr rs;exact lk _ _ _ _ _ q g km (by rw[<-re.len];exact kC)
 |[],_,q=>exact q.elim
 |_::_::_,_,q=>exact q.elim
def DC(Fr:FA):FE:=λE Q=>Fr E λrs E1=>match rs with
 |[x]=>(match vl E1 x with
  |some (.lst xs)=>Q (.p (.tup xs)) E1
  |_=>False)
 |_=>False
theorem xJ(eK:X.K=K)(hg:Gl X "tuple")(hm:X.mg "tuple" = none)(ha:QA X (e::es) (dJ K n Fr))(hs:bW (e::es)=true:=by rfl):QE X (.Call (.Name "tuple" p) (e::es) [] pos) (aJ K (DC Fr)):=by
 subst eK;refine(qH zF hg hm (by decide +kernel) ha ∅ ∅ hs).le λσ H Q hl h=>args (Fr:=Fr) h λB S E rs vs H2 Q' hS re rr hn q lk=>?_
 match rs,rr,q with
 |[x],⟨v,ws,e1,h1,h2⟩,q=>
  cases h2;subst e1;simp only at q;split at q
  ·rename_i xs e2;obtain⟨p,us,rfl,sq,rs⟩:=re.vl h1 e2;refine⟨p,us,rfl,.inl ⟨sq,λr hr=>?_⟩⟩;obtain⟨g,km,rp⟩:=re.tup hr rs;exact lk _ _ _ _ _ q g km rp
  ·exact q.elim
 |[],_,q=>exact q.elim
 |_::_::_,_,q=>exact q.elim
def Ll(f:List T->R->En->Option (List T))(Fo:FE)(Fr:FA):FE:=λE Q=>Fo E λo E1=>o1 (ownOf E1 o) λ_=>Fr E1 λrs E2=>match o,rs with
 |.s j,[r]=>(match E2[j]? with
  |some (oZ (.o k xs))=>o1 (f xs r E2) λys=>ys.length<=9000/\Q (.p .non) (E2.set j (oZ (.o k ys)))
  |_=>False)
 |_,_=>False
def OB(xs:List T)(r:R)(E:En):Option (List T):=match r with
 |.p t=>oZ (xs++[t])
 |_=>none
def IW(xs:List T)(r:R)(E:En):Option (List T):=(ownOf E r).map (xs++·)
theorem AN{r:V->List V->Hp->VK->Prop}(eK:X.K=K)(h:aJ K (Ll f Fo Fr) σ H Q)(hr:∀(B:ck->Prop)(S:St)(E:En)(H2:Hp)(xs ys:List T)(rr:R)(y:V)(p:ck)(vs:List V)(Q:VK),RE K B H2 S E->RR K B H2 S E rr y->f xs rr E=oZ ys->H2 p=oZ (.lst vs)->cP K H2 (Ow B S E) xs vs->ys.length<=9000->
   (∀ws,cP K H2 (Ow B S E) ys ws->Q .non (upd H2 p (.lst ws)))->r (.ref p) [y] H2 Q):HG X.K "list" r (aJ K Fo) (dJ K n Fr) σ H Q:=by
 subst eK;obtain⟨B,S,E,Q',⟨τ,hS⟩,re,hF,lk⟩:=h;refine⟨B,S,E,_,⟨τ,hS⟩,re,hF,λoo E1 v H1 S1 q g1 kq rx=>?_⟩;obtain⟨τ1,qg⟩:=g1.pre;obtain⟨va,e0,q⟩:=o1.ex q;obtain⟨j,k,p,vs,rfl,hE,hSj,rfl,h2,h3⟩:=kq.ownOf rx e0;refine⟨.inl ⟨rfl,vs,j5.of h2⟩,B,S1,E1,_,⟨τ++τ1,by rw[qg,hS,TF]⟩,kq,q,λrs E2 us H2 S2 q2 g2 mj rr hn=>?_⟩;have ua:S2[j]?=oZ (oZ (.ref p)):=e9 g2.pre hSj
 match rs,rr,q2 with
 |[r'],⟨y,ws,e1,k1,k2⟩,q2=>
  cases k2;subst e1;simp only at q2;split at q2
  ·rename_i k2 xs hE2;obtain⟨ys,e3,hz,q2⟩:=o1.ex q2;obtain⟨p',wy,z1,z2,z3,_⟩:=mj.own j k2 xs hE2;rw[ua]at z1;cases z1;refine hr B S2 E2 H2 xs ys r' y p wy Q mj k1 e3 z2 z3 hz λws hw=>?_;obtain⟨g3,oj⟩:=mj.put hE2 ua hw;exact lk _ _ _ _ _ q2 ((g1.trans g2).trans g3) oj rfl
  ·exact q2.elim
 |[],_,q2=>exact q2.elim
 |_::_::_,_,q2=>exact q2.elim
theorem hV(eK:X.K=K)(ho:QE X o (aJ K Fo))(ha:QA X [e] (dJ K n Fr))(nh:fm o "append" X.env (dw o X.env)=dw o X.env:=by rfl)(ni:(ap.endLine==pos.line)=true:=by rfl)(hs:bO e=false:=by rfl):
  QE X (.Call (.Attribute o "append" ap) [e] [] pos) (aJ K (Ll OB Fo Fr)):=
 (Bo ho ha nh ni hs).le λσ H Q hl h=>AN eK h λB S E H2 xs ys rr y p vs Q re rx e hp hv hz k=>by
  cases rr with
  |s _=>cases e
  |p t=>
   cases e;refine⟨p,vs,y,rfl,rfl,hp,?_,k _ (hv.append ⟨y,[],rfl,rx,rfl⟩)⟩;rw[hv.length];rw[TC]at hz;exact bZ (by simp at hz;lia)
theorem Au(eK:X.K=K)(ho:QE X o (aJ K Fo))(ha:QA X [e] (dJ K n Fr))(nh:fm o "extend" X.env (dw o X.env)=dw o X.env:=by rfl)(ni:(ap.endLine==pos.line)=true:=by rfl)(hs:bO e=false:=by rfl):
  QE X (.Call (.Attribute o "extend" ap) [e] [] pos) (aJ K (Ll IW Fo Fr)):=
 QE.le (t:=HG X.K "list" Qx (aJ K Fo) (dJ K n Fr)) ⟨Bn PySem.F.plainAttrs_list PySem.F.slot_list_extend PySem.F.type_list_extend Ub ho.h ha.h nh (by rw[cD hs];rfl) ni (cD hs) (fO rfl)⟩ λσ H Q hl h=>AN eK h λB S E H2 xs ys rr y p vs Q re rx e hp hv hz k=>by
  unfold IW at e;cases q:ownOf E rr with
  |none=>rw[q]at e;cases e
  |some zs=>
   rw[q]at e;cases e;obtain⟨j,kk,p',vs',_,_,_,rfl,h2,h3⟩:=re.ownOf rx q;refine⟨p,p',vs,vs',rfl,rfl,hp,h2,?_,k _ (hv.append h3)⟩;rw[hv.length,h3.length];rw[TC]at hz;exact UX (bZ hz)
end
abbrev jP(h:oE)(T:ck)(xs:Array oA):Prop:=h.get? T=oZ { cls:=.type "tuple",data:=.seq xs }
structure ZQ where
 κ:Bool
 a:ck
 it:ck
 items:Array oA
structure ZA(z TI TO:ck)(ps:List ZQ):Prop where
 tz:TI≠z
 oz:TO≠z
 to:TI≠TO
 iz:∀p∈ps,p.it≠z/\p.it≠TI/\p.it≠TO
 az:∀p∈ps,p.a≠z/\p.a≠TO
 ai:∀p∈ps,∀q∈ps,p.a≠q.it
 ii:∀(i j:Nat)(p q:ZQ),ps[i]?=oZ p->ps[j]?=oZ q->p.it=q.it->i=j
section
variable{prog:da}{w:dk}{A:oD}{E:oA->oB->Prop}{s:oB}
theorem Xj{α β:Type}{M:Model}{body:α->β->Sem (ForInStep β)}{b0:β}(xs:List α):∀(m:Nat)(W:Nat->oB->Prop)(s:oB)(Q:β->oB->Prop),m<=xs.length->
  (∀j x s,j<m->xs[j]?=oZ x->W j s->cq M A (body x b0) (λr s'=>r = .yield b0/\W (j+1) s') E s)->W 0 s->(m=xs.length->∀s',W m s'->Q b0 s')->(∀y s',xs[m]?=oZ y->W m s'->cq M A (body y b0) (λ_ _=>False) E s')->cq M A (forIn xs b0 body) Q E s:=by
 induction xs with
 |nil=>
  intro m W s Q hl hs h0 hq hm;rw[List.forIn_nil];have e:m=0:=Nat.le_zero.mp hl;subst e;exact cn (hq rfl s h0)
 |cons x xs ih=>
  intro m W s Q hl hs h0 hq hm;rw[List.forIn_cons];cases m with
  |zero=>exact cm (dZ (hm x s rfl h0) λ_ _ z=>z.elim)
  |succ m=>
   refine cm (dZ (hs 0 x s ⋯ rfl h0) λr s' zz=>?_);obtain⟨e,h1⟩:=zz;subst e;exact ih m (λj=>W (j+1)) s' Q (by simpa using hl) (λj z s'' hj hz hw=>hs (j+1) z s'' ⋯ (by simpa using hz) hw) h1 (λe=>hq (by simp[e])) (λy s'' h=>hm y s'' (by simpa using h))
def ZW(s:oB)(z TI TO:ck)(ps:List ZQ)(k j:Nat)(s':oB):Prop:=∃(h:oE)(tk:Nat),s' = { s with heap:=h,toks:=tk }/\IsZip h z TI TO .ellipsis/\
 (∃cur:Array oA,jP h TO cur/\cur.size=ps.length/\∀(l:Nat)(q:ZQ),l<j->ps[l]?=oZ q->∃x,q.items[k]?=oZ x/\cur[l]?=oZ x)/\
 (∀(l:Nat)(q:ZQ),ps[l]?=oZ q->j3 q.κ h q.it q.a (if l<j then k+1 else k)/\wZ q.κ h q.a q.items)/\
 (∀c o,c≠z->c≠TO->(∀q∈ps,c≠q.it)->s.heap.get? c=oZ o->h.get? c=oZ o)/\h.objs.size=s.heap.objs.size
theorem wZ.at(x:wZ κ h a jz)(e:∀o,h.get? a=oZ o->h'.get? a=oZ o):wZ κ h' a jz:=by
 cases κ
 ·exact Heap.IsList.at x e
 ·exact Heap.IsTuple.at x e
theorem kX{ps:List ZQ}{l:Nat}(h:ps[l]?=oZ q):q∈ps:=SY h
theorem NB{z TI TO:ck}{ps:List ZQ}{k j:Nat}{q:ZQ}(hA:A.handled=none)(ap:ZA z TI TO ps)(hl:ps.length<=9000)(hq:ps[j]?=oZ q)(hk:k<q.items.size){s':oB}(W:ZW s z TI TO ps k j s'){Q:Option oA->oB->Prop}
  (g:∀x s2,(∃(h:oE)(tk:Nat),s2 = { s with heap:=h,toks:=tk }/\q.items[k]?=oZ x/\IsZip h z TI TO .ellipsis/\
    (∃cur:Array oA,jP h TO cur/\cur.size=ps.length/\∀(l:Nat)(q:ZQ),l<j->ps[l]?=oZ q->∃x,q.items[k]?=oZ x/\cur[l]?=oZ x)/\
    (∀(l:Nat)(q:ZQ),ps[l]?=oZ q->j3 q.κ h q.it q.a (if l<j+1 then k+1 else k)/\wZ q.κ h q.a q.items)/\
    (∀c o,c≠z->c≠TO->(∀q∈ps,c≠q.it)->s.heap.get? c=oZ o->h.get? c=oZ o)/\h.objs.size=s.heap.objs.size)->Q (oZ x) s2) :
  cq (df prog w) A (Builtin.SmallTypes.nextOf (.ref q.it) >>= λx=>pure (oZ x)) Q E s':=by
 obtain⟨h,tk,rfl,hz,⟨cur,c1,c2,c3⟩,hi,kp,szh⟩:=W;have hqm:=kX hq;have D:=Ws (prog:=prog) (w:=w) q.κ hA q.it q.a (ap.ai q hqm q hqm) q.items;obtain⟨i1,i2⟩:=hi j q hq;rw[oW (Nat.lt_irrefl j)]at i1;refine cm (D.item k _ _ _ hk ⟨i1,i2⟩ λx hb tb px gb sb=>cn (g x _ ⟨hb,tb,rfl,px,?_,⟨cur,?_,c2,c3⟩,λl p hp=>?_,λc o n1 n2 n3 e=>?_,?_⟩))
 ·exact sb.extBut _ _ (Ne.symm (ap.iz q hqm).1) hz
 ·exact sb.extBut _ _ (Ne.symm (ap.iz q hqm).2.2) c1
 ·by_cases e:l=j
  ·subst e;rw[hq]at hp;cases hp;rw[oV (Nat.lt_succ_self _)];exact gb
  ·obtain⟨a1,a2⟩:=hi l p hp;have ne:p.it≠q.it:=λz=>e (ap.ii l j p q hp hq z);have el:(if l<j+1 then k+1 else k)=(if l<j then k+1 else k):=by
    by_cases c:l<j
    ·rw[oV c,oV ⋯]
    ·rw[oW c,oW ⋯]
   rw[el];exact⟨a1.at λo x=>sb.extBut _ _ ne x,a2.at λo x=>sb.extBut _ _ (ap.ai p (kX hp) q hqm) x⟩
 ·exact sb.extBut _ _ (n3 q hqm) (kp c o n1 n2 n3 e)
 ·rw[sb.1];exact szh
theorem Sk{z TI TO:ck}{ps:List ZQ}{k m:Nat}{old:Array oA}{Q:Fin->oB->Prop}(hA:A.handled=none)(ap:ZA z TI TO ps)(ui:ps≠[])(hl:ps.length<=9000)
  (gz:IsZip s.heap z TI TO .none) (gI:jP s.heap TI (ps.map λp=>VU p.it).toArray) (gO:jP s.heap TO old) (ho:old.size=ps.length)
  (gi:∀p∈ps,j3 p.κ s.heap p.it p.a k/\wZ p.κ s.heap p.a p.items) (hml:m<=ps.length) (gk:∀(j:Nat)(q:ZQ),j<m->ps[j]?=oZ q->k<q.items.size) (hpk:∀p,ps[m]?=oZ p->p.items.size=k)
  (gq:m=ps.length->∀(xs:List oA)h' tk,xs.length=ps.length->(∀(l:Nat)(q:ZQ),ps[l]?=oZ q->∃x,q.items[k]?=oZ x/\xs[l]?=oZ x)->IsZip h' z TI TO (rawInt s.heap.objs.size)->(∃cur:Array oA,jP h' TO cur/\cur.size=ps.length)->
   (∀p∈ps,j3 p.κ h' p.it p.a (k+1))->jP h' s.heap.objs.size xs.toArray->h'.objs.size=s.heap.objs.size+1->
   (∀c o,c≠z->c≠TO->(∀q∈ps,c≠q.it)->s.heap.get? c=oZ o->h'.get? c=oZ o)->Q (.done (.ret (.ref s.heap.objs.size))) { s with heap:=h',toks:=tk })
  (ge:m<ps.length->∀h' tk e,(∀c o,c≠z->c≠TO->(∀q∈ps,c≠q.it)->s.heap.get? c=oZ o->h'.get? c=oZ o)->(∃o,h'.get? e=oZ o/\o.cls = .type "StopIteration")->E (.ref e) { s with heap:=h',toks:=tk }) :
  cq (df prog w) A (Builtin.«zip.__next__» ⟨[.ref z],[]⟩) Q E s:=by
 show cq _ _ (field (.ref z) 2 >>= _) _ _ _;refine cm (gc gz rfl (x:=.bool false) rfl ?_);show cq _ _ (field (.ref z) 3 >>= _) _ _ _;refine cm (gc gz rfl (x:=.ref TI) rfl (cm (jl gI rfl ?_)));have hem:((ps.map λp=>VU p.it).toArray).isEmpty=false:=by
  cases ps with
  |nil=>exact absurd rfl ui
  |cons p r=>simp
 simp only[hem,WM,if_false];refine cm ?_;unfold Builtin.SmallTypes.ownedTupleIsFree;refine cm (gc gz rfl (x:=.none) rfl (cn ?_));simp only[if_true];refine cm (jh (cm (gc gz rfl (x:=.ref TO) rfl (cm (jf gz (by simp) λha za sa=>?_)))));have za':IsZip ha z TI TO .ellipsis:=za;refine cm ?_;have W0:ZW s z TI TO ps k 0 { s with heap:=ha }:=by
  refine⟨ha,s.toks,rfl,za',⟨old,sa.extBut _ _ ap.oz gO,ho,λl q h=>absurd h (bg _)⟩,λl q hq=>?_,λc o n1 n2 n3 e=>sa.extBut _ _ n1 e,sa.1⟩;obtain⟨g1,g2⟩:=gi q (kX hq);rw[oW (bg _)];exact⟨g1.at λo e=>sa.extBut _ _ (ap.iz q (kX hq)).1 e,g2.at λo e=>sa.extBut _ _ (ap.az q (kX hq)).1 e⟩
 have atj:∀{j:Nat}{x:oA×Nat},(List.zipIdx (ps.map λp=>VU p.it).toArray.toList)[j]?=oZ x->∃q,ps[j]?=oZ q/\x=(VU q.it,j):=λ{j x}hx=>by
  rw[List.getElem?_zipIdx]at hx;simp only[TR,Option.map_map]at hx;cases q:ps[j]? with
  |none=>simp[q]at hx
  |some p=>simp[q]at hx;exact⟨p,rfl,hx.symm⟩
 have ll:(List.zipIdx (ps.map λp=>VU p.it).toArray.toList).length=ps.length:=by simp
 refine Xj _ m (ZW s z TI TO ps k) _ _ (by rw[ll];exact hml) (λj x s' hjm hx hW=>?_) W0 (λem s' hW=>?_) (λy s' hy hW=>?_)
 ·obtain⟨q,hq,rfl⟩:=atj hx;have hj:j<ps.length:=(SW.mp hq).1;refine cm (wpAny_onRaise ?_);show cq _ _ (Builtin.SmallTypes.nextOf (.ref q.it) >>= _) _ _ _;refine NB hA ap hl hq (gk j q hjm hq) hW λx s2 zZ=>?_;obtain⟨h,tk,es,px,hz,⟨cur,c1,c2,c3⟩,hi,kp,szh⟩:=zZ;subst es;have c1':h.get? TO=oZ { cls:=.type "tuple",data:=.seq cur }:=c1;refine cm (jl c1' rfl (cm (wpAny_updateSeq c1' rfl ?_ (by rw[c2];exact UX (bZ hl)) (by simp;rw[c2];exact Nat.le_succ_of_le (UX (bZ hl))))));refine cm (wpAny_letGo (cn ⟨rfl,?_⟩));have su:XC TO h (h.update TO (XN (·.setIfInBounds j x))):=Heap.SameBut.update ..;have gu:jP (h.update TO (XN (·.setIfInBounds j x))) TO (cur.setIfInBounds j x):=by
   show(h.update TO (XN (·.setIfInBounds j x))).get? TO=_;rw[XX _ c1' rfl];simp[XN]
  refine⟨_,tk,rfl,su.extBut _ _ (Ne.symm ap.oz) hz,⟨_,gu,by simp[c2],λl p zi hp=>?_⟩,λl p hp=>?_,λc o n1 n2 n3 e=>su.extBut _ _ n2 (kp c o n1 n2 n3 e),by rw[su.1];exact szh⟩
  ·by_cases e:l=j
   ·subst e;rw[hq]at hp;cases hp;exact⟨x,px,by rw[Array.getElem?_setIfInBounds_self_of_lt (by rw[c2];exact hj)]⟩
   ·obtain⟨y,y1,y2⟩:=c3 l p ⋯ hp;exact⟨y,y1,by rw[Array.getElem?_setIfInBounds_ne (λz=>e z.symm)];exact y2⟩
  ·obtain⟨a1,a2⟩:=hi l p hp;exact⟨a1.at λo e=>su.extBut _ _ (ap.iz p (kX hp)).2.2 e,a2.at λo e=>su.extBut _ _ (ap.az p (kX hp)).2 e⟩
 ·rw[ll]at em;obtain⟨he,tk,rfl,hz,⟨cur,c1,c2,c3⟩,hi,kp,szh⟩:=hW;have c1':he.get? TO=oZ { cls:=.type "tuple",data:=.seq cur }:=c1;refine cm (jl c1' rfl (cm (wpAny_newTuple ?_ (by simp;rw[c2];exact UX (bZ hl)))));have zlt:z<he.objs.size:=TZ hz;show cq _ _ (Builtin.SmallTypes.ownedTupleHandOut (.ref z) (.ref he.objs.size) >>= _) _ _ _;refine cm ?_;unfold Builtin.SmallTypes.ownedTupleHandOut;have zf:IsZip (he.push { cls:=.type "tuple",data:=.seq cur.toList.toArray }) z TI TO .ellipsis:=TJ _ hz;refine cm (jf zf (by simp) λhg zg sg=>?_);have zg':IsZip hg z TI TO (rawInt he.objs.size):=zg;refine jf zg' (by simp) λhh zh sh=>?_;have zh':IsZip hh z TI TO (rawInt he.objs.size):=zh;have up:∀c o,c≠z->he.get? c=oZ o->hh.get? c=oZ o:=λc o q e=>sh.extBut _ _ q (sg.extBut _ _ q (TJ _ e));have gTh:jP hh he.objs.size cur.toList.toArray:=sh.extBut _ _ (Nat.ne_of_gt zlt) (sg.extBut _ _ (Nat.ne_of_gt zlt) (UG _ rfl));have szz:hh.objs.size=he.objs.size+1:=by rw[sh.1,sg.1,XY]
  rw[szh]at zh' gTh szz;refine cn ?_;show Q (.done (.ret (.ref he.objs.size))) _;rw[szh];refine gq em cur.toList hh tk (by simp[c2]) (λl q hq=>?_) zh' ⟨cur,up _ _ ap.oz c1,c2⟩ (λp hp=>?_) gTh szz λc o n1 n2 n3 e=>up c o n1 (kp c o n1 n2 n3 e)
  ·obtain⟨x,x1,x2⟩:=c3 l q (by rw[em];exact(SW.mp hq).1) hq;exact⟨x,x1,by simpa using x2⟩
  ·obtain⟨l,zi⟩:=VI hp;obtain⟨a1,_⟩:=hi l p zi;rw[em,oV (SW.mp zi).1]at a1;exact a1.at λo e=>up _ _ (ap.iz p hp).1 e
 ·obtain⟨h,tk,rfl,hz,_,hi,kp,szh⟩:=hW;obtain⟨p,hm,rfl⟩:=atj hy;have hpm:=kX hm;have hpk:=hpk p hm;have D:=Ws (prog:=prog) (w:=w) p.κ hA p.it p.a (ap.ai p hpm p hpm) p.items;obtain⟨i1,i2⟩:=hi m p hm;rw[oW (Nat.lt_irrefl m)]at i1;refine cm (wpAny_onRaise ?_);show cq _ _ (Builtin.SmallTypes.nextOf (.ref p.it) >>= _) _ _ _;refine cm (D.done _ _ _ (by rw[hpk];exact⟨i1,i2⟩) λhb e sb he=>?_);obtain⟨oe,q1,q2⟩:=he;have sb':bo p.it h hb:=sb;have zb:IsZip hb z TI TO .ellipsis:=sb' _ _ (Ne.symm (ap.iz p hpm).1) hz;have hez:e≠z:=λx=>by subst x;rw[zb]at q1;cases q1;simp at q2
  exact jf zb (by simp) λhc _ sc=>ge (SW.mp hm).1 hc tk e (λc o c1 c2 c3 x=>sc.extBut _ _ c1 (sb' _ _ (c3 p hpm) (kp c o c1 c2 c3 x))) ⟨oe,sc.extBut _ _ hez q1,q2⟩
end
def Gy(κ:Bool)(K:W.Frag)(H:Hp)(a:ck)(xs:List V):Prop:=match κ with
 |true=>vG K H a xs
 |false=>j5 K H a xs
theorem aV.sqK(I:aV X pins σ H s)(h:Gy κ X.K H a xs):∃jz:List oA,bB xs jz/\wZ κ s.heap a jz.toArray:=by
 cases κ
 ·obtain⟨jz,r,p,_⟩:=I.list h;exact⟨jz,r,p.isList⟩
 ·obtain⟨jz,r,p,_⟩:=I.tuple h;exact⟨jz,r,p⟩
theorem aV.sqK_inj(I:aV X pins σ H s)(h:Gy κ X.K H a xs)(h':Gy κ X.K H a ys):xs=ys:=by
 cases κ
 ·exact I.list_inj h h'
 ·exact I.tuple_inj h h'
theorem aV.notfp(I:aV X pins σ H s)(h:Gy κ X.K H a xs)(f:rA X pins H b):a≠b:=by
 have kk:∀{o:Obj},X.K.lookup a=oZ o->a≠b:=λ{o}hk z=>by
  have hb:X.base.get? a=oZ o:=I.mod.kin a o hk;subst z;obtain z|z:=f.2.2.2.1
  ·exact I.ok.noex a o hb z
  ·exact absurd (UB (UB (TZ hb) I.ok.bsz) z) (Nat.lt_irrefl _)
 have hh:∀{u:HO},Rd H a u->a≠b:=λ{u}r z=>by
  subst z;have:=f.1;obtain r|⟨o,r⟩:=r
  ·rw[this]at r;cases r
  ·rw[this]at r;cases r
 cases κ
 ·obtain h|⟨o,jz,n,hk,_⟩:=h
  ·exact hh h
  ·exact kk hk
 ·obtain h|⟨o,jz,n,hk,_⟩:=h
  ·exact hh h
  ·exact kk hk
theorem OI(I:aV X pins σ H s):∀(ps:List (Bool×ck))(jz:List ck),jz.length=ps.length->(∀p∈ps,∃xs,Gy p.1 X.K H p.2 xs)->
  ∃qs:List ZQ,qs.map (λq=>(q.κ,q.a))=ps/\qs.map (·.it)=jz/\∀q∈qs,wZ q.κ s.heap q.a q.items/\∃xs,Gy q.κ X.K H q.a xs/\bB xs q.items.toList
 |[],[],_,_=>⟨[],rfl,rfl,λq h=>absurd h (by simp)⟩
 |[],_::_,e,_=>by simp at e
 |_::_,[],e,_=>by simp at e
 |p::ps,it::jz,e,h=>by
  obtain⟨qs,h1,h2,h3⟩:=OI I ps jz (by simpa using e) λq hq=>h q (by simp[hq]);obtain⟨xs,hx⟩:=h p (by simp);obtain⟨vs,r,sk⟩:=I.sqK hx;refine⟨⟨p.1,p.2,it,vs.toArray⟩::qs,by simp[h1],by simp[h2],λq hq=>?_⟩;obtain rfl|hq:=SU.mp hq
  ·exact⟨sk,xs,hx,by simpa using r⟩
  ·exact h3 q hq
def NU(K:W.Frag)(ps:List (Bool×ck)):It:=
  ⟨λi H=>∀p∈ps,∃xs x,Gy p.1 K H p.2 xs/\xs[i]?=oZ x,
   λi H v H'=>∃(q:ck)(ys:List V),v = .ref q/\H q=none/\H'=upd H q (.tup ys)/\ys.length=ps.length/\∀(j:Nat)(p:Bool×ck)(y:V),ps[j]?=oZ p->ys[j]?=oZ y->∀xs,Gy p.1 K H p.2 xs->xs[i]?=oZ y,
   λi H=>(∀p∈ps,∃xs,Gy p.1 K H p.2 xs)/\∃(m:Nat)(p:Bool×ck),ps[m]?=oZ p/\(∃xs,Gy p.1 K H p.2 xs/\xs.length=i)/\∀(j:Nat)(q:Bool×ck),j<m->ps[j]?=oZ q->∃xs x,Gy q.1 K H q.2 xs/\xs[i]?=oZ x⟩
def ZT(z TI TO:ck)(ps:List (Bool×ck))(jz:List ck)(i:Nat)(h:oE):Prop:=IsZip h z TI TO .none/\jP h TI (jz.map VU).toArray/\(∃old:Array oA,jP h TO old/\old.size=ps.length)/\
 ∀(j:Nat)(p:Bool×ck)(it:ck),ps[j]?=oZ p->jz[j]?=oZ it->j3 p.1 h it p.2 i
theorem Vf{P:da}{w:dk}{K:W.Frag}{elts:List oC}{x1}{vm:Pos}(z TI TO:ck)(ps:List (Bool×ck))(jz:List ck)(hl:jz.length=ps.length)(ui:ps≠[])(hz:ps.length<=9000)(nd:(z::TI::TO::jz).Nodup):
  Su P w K (.Tuple elts x1 vm) (NU K ps) (z::TI::TO::jz) z (ZT z TI TO ps jz):=by
 simp only[WK,SU,not_or]at nd;obtain⟨⟨n1,n2,n3⟩,⟨n4,n5⟩,n6,n7⟩:=nd;have apart:∀{X:Cx}{pins:List (ck×Obj)}{σ:St}{H:Hp}{s:oB}{qs:List ZQ},aV X pins σ H s->(∀c∈z::TI::TO::jz,rA X pins H c)->qs.map (·.it)=jz->(∀q∈qs,∃xs,Gy q.κ X.K H q.a xs)->ZA z TI TO qs:=by
  intro X pins σ H s qs I hf e1 hq;have mi:∀q∈qs,q.it∈jz:=λq hq=>by rw[<-e1];exact ZH hq
  refine⟨λe=>n1 e.symm,λe=>n2 e.symm,n4,λp hp=>⟨λe=>n3 (e ▸ mi p hp),λe=>n5 (e ▸ mi p hp),λe=>n6 (e ▸ mi p hp)⟩,λp hp=>?_,λp hp q xi=>?_,λi j p q hi hj e=>?_⟩
  ·obtain⟨xs,hx⟩:=hq p hp;exact⟨I.notfp hx (hf z (by simp)),I.notfp hx (hf TO (by simp))⟩
  ·obtain⟨xs,hx⟩:=hq p hp;exact I.notfp hx (hf q.it (by simp[mi q xi]))
  ·have hi':jz[i]?=oZ p.it:=by rw[<-e1,TR,hi];rfl
   have hj':jz[j]?=oZ q.it:=by rw[<-e1,TR,hj];rfl
   exact(ZX (SW.mp hi').1 n7).mp (by rw[hi',hj',e])
 refine⟨by simp,λi h st c hc=>?_,λi h h' st k=>?_,?_,?_,λ_ _ _ _ _ st h=>wpAny_pyIter_zip st.1 h⟩
 ·obtain⟨s1,s2,⟨old,s3,_⟩,s4⟩:=st;simp only[SU]at hc;obtain rfl|rfl|rfl|hc:=hc
  ·exact⟨_,s1,λv z=>by cases z⟩
  ·exact⟨_,s2,λv z=>by cases z⟩
  ·exact⟨_,s3,λv z=>by cases z⟩
  ·obtain⟨j,hj⟩:=VI hc;have hjl:j<ps.length:=by rw[<-hl];exact(SW.mp hj).1
   exact(s4 j _ c (SX hjl) hj).obj
 ·obtain⟨s1,s2,⟨old,s3,s3'⟩,s4⟩:=st;exact⟨k z (by simp) _ s1,k TI (by simp) _ s2,⟨old,k TO (by simp) _ s3,s3'⟩,λj p it hp hit=>(s4 j p it hp hit).at λo e=>k it (by simp[SY hit]) o e⟩
 ·intro X hP hw hK hc i pins s σ H E I hf st hg;subst hP hw hK;obtain⟨s1,s2,⟨old,s3,s3'⟩,s4⟩:=st;obtain⟨qs,e1,e2,h3⟩:=OI I ps jz hl λp hp=>let⟨xs,_,h,_⟩:=hg p hp;⟨xs,h⟩;have hlq:qs.length=ps.length:=by rw[<-e1,SV]
  have ap:=apart I hf e2 λq hq=>let⟨_,xs,h,_⟩:=h3 q hq;⟨xs,h⟩;have hA:X.A.in1.handled=none:=I.ok.hd hc;have hzz:s.TypeIs (.ref z) "zip":=⟨_,s1,rfl⟩;have zj:∀{j:Nat}{q:ZQ},qs[j]?=oZ q->ps[j]?=oZ (q.κ,q.a)/\jz[j]?=oZ q.it:=λ{j q}h=>⟨by rw[<-e1,TR,h];rfl,by rw[<-e2,TR,h];rfl⟩;have gi:∀q∈qs,j3 q.κ s.heap q.it q.a i/\wZ q.κ s.heap q.a q.items:=λq hq=>by
   obtain⟨j,hj⟩:=VI hq;exact⟨s4 j _ _ (zj hj).1 (zj hj).2,(h3 q hq).1⟩
  have gk:∀q∈qs,i<q.items.size:=λq hq=>by
   obtain⟨j,hj⟩:=VI hq;obtain⟨xs,x,q1,q2⟩:=hg _ (SY (zj hj).1);obtain⟨_,ys,r1,r2⟩:=h3 q hq;rw[I.sqK_inj q1 r1]at q2;have:=(SW.mp q2).1;have:=r2.length;simp at this
   lia
  have gI:jP s.heap TI (qs.map λp=>VU p.it).toArray:=by
   have:(qs.map λp=>VU p.it)=jz.map VU:=by rw[<-e2,UA];rfl
   rw[this];exact s2
  unfold pyNext;refine cm (wpAny_attempt (wpAny_callSpecial?_slot (name:=XW "__next__") hzz F.slot_zip_next (iu F.slot_zip_next hzz F.entry_zip_next
   (Sk hA ap (λz=>by rw[z]at hlq;exact ui (WC (by simpa using hlq.symm))) ⋯ s1 gI s3 ⋯ gi (TN _) (λ_ q _ h=>gk q (kX h)) (λp h=>by simp at h) (λ_ vs h' tk lv pv zz zo g1 zt sz kp=>⟨_,rfl,cn ?_⟩) (λh=>absurd h (Nat.lt_irrefl _))) (F.args_zip_next_1 _))))
  refine⟨_,rfl,wpAny_letOwnedTupleGo_zip zz λh2 z2 sb=>?_⟩;have hzn:z≠s.heap.objs.size:=UW (TZ s1);have kk:∀c o,c∉z::TI::TO::jz->s.heap.get? c=oZ o->h2.get? c=oZ o:=λc o hc q=>by
   simp only[SU,not_or]at hc;refine sb.extBut c o hc.1 (kp c o hc.1 hc.2.2.1 (λq' xi e=>hc.2.2.2 ?_) q);rw[e,<-e2];exact ZH xi
  -- the items,as they are Nl
  obtain⟨ys,hys,ry⟩:∃ys:List V,(ys.length=ps.length/\∀(j:Nat)(p:Bool×ck)(y:V),ps[j]?=oZ p->ys[j]?=oZ y->∀xs,Gy p.1 X.K H p.2 xs->xs[i]?=oZ y)/\bB ys vs:=by
   have key:∀(n:Nat)(rs:List ZQ)(us:List oA),rs.length=n->us.length=n->(∀q∈rs,∃xs,Gy q.κ X.K H q.a xs/\bB xs q.items.toList)->(∀(l:Nat)(q:ZQ),rs[l]?=oZ q->∃x,q.items[i]?=oZ x/\us[l]?=oZ x)->
     ∃ys:List V,ys.length=n/\bB ys us/\∀(j:Nat)(q:ZQ)(y:V),rs[j]?=oZ q->ys[j]?=oZ y->∀xs,Gy q.κ X.K H q.a xs->xs[i]?=oZ y:=by
    intro n
    induction n with
    |zero=>
     intro rs us h1 h2 _ _;refine⟨[],rfl,?_,λj q y hq=>?_⟩
     ·rw[WC h2];exact .nil
     ·rw[WC h1]at hq;simp at hq
    |succ n ih=>
     intro rs us h1 h2 h4 h5
     match rs,us,h1,h2 with
     |q::rs,u::us,h1,h2=>
      obtain⟨ys,l1,l2,l3⟩:=ih rs us (by simpa using h1) (by simpa using h2) (λq' xi=>h4 q' (by simp[xi])) (λl q' xi=>by have:=h5 (l+1) q' (by simpa using xi);simpa using this);obtain⟨xs,a1,a2⟩:=h4 q (by simp);obtain⟨x,b1,b2⟩:=h5 0 q rfl;simp at b2;subst b2;have b1':q.items.toList[i]?=oZ u:=by simpa using b1
      have hi:i<xs.length:=by rw[a2.length];exact(SW.mp b1').1
      obtain⟨u',c1,c2⟩:=a2.get (SX hi);rw[b1']at c1;cases c1;refine⟨xs[i]::ys,by simp[l1],.cons c2 l2,λj q' y hq hy zs hz'=>?_⟩;cases j with
      |zero=>
       simp at hq hy;subst hq;subst hy;rw[I.sqK_inj hz' a1];exact SX hi
      |succ j=>exact l3 j q' y (by simpa using hq) (by simpa using hy) zs hz'
   obtain⟨ys,l1,l2,l3⟩:=key qs.length qs vs rfl lv (λq hq=>(h3 q hq).2) pv;refine⟨ys,⟨⋯,λj p y hp hy xs hx=>?_⟩,l2⟩;have hjl:j<qs.length:=by rw[hlq];exact(SW.mp hp).1
   have hq:=SX hjl;have:=(zj hq).1;rw[hp]at this;cases this;exact l3 j _ y hq hy xs hx
  have new:eY X.prog X.w (upd H s.heap.objs.size (.tup ys)) h2 s.heap.objs.size (.tup ys):=
   ⟨by rw[hys.1];exact UX (bZ hz),vs,ry,⟨_,sb.extBut _ _ (Ne.symm hzn) zt,rfl,_,rfl⟩⟩
  have up:∀{c:ck}{o:Obj},c≠z->h'.get? c=oZ o->h2.get? c=oZ o:=λhc q=>sb.extBut _ _ hc q;refine⟨.ref s.heap.objs.size,upd H s.heap.objs.size (.tup ys),I.turnedLaid (t':=tk) (ch:=z::TI::TO::jz) kk hf (TN _) new,rfl,
   ⟨_,ys,rfl,I.hok.fresh (TN _),rfl,hys.1,hys.2⟩,⟨z2,up (λe=>n1 e.symm) (kp _ _ (λe=>n1 e.symm) n4 (λq hq=>λe=>(ap.iz q hq).2.1 e.symm) s2),?_,λj p it hp hit=>?_⟩,λc hc=>?_⟩
  ·obtain⟨cur,u1,u2⟩:=zo;exact⟨cur,up ap.oz u1,⋯⟩
  ·have hjl:j<qs.length:=by rw[hlq];exact(SW.mp hp).1
   have hq:=SX hjl;have q1:=(zj hq).1;have q2:=(zj hq).2;rw[hp]at q1;cases q1;rw[hit]at q2;cases q2;exact(g1 _ (WA hjl)).at λo e=>up (ap.iz _ (WA hjl)).1 e
  ·have pj:c<s.heap.objs.size:=by
    simp only[SU]at hc;obtain rfl|rfl|rfl|hc:=hc
    ·exact TZ s1
    ·exact TZ s2
    ·exact TZ s3
    ·obtain⟨j,hj⟩:=VI hc;have hjl:j<ps.length:=by rw[<-hl];exact(SW.mp hj).1
     obtain⟨o,e,_⟩:=(s4 j _ c (SX hjl) hj).obj;exact TZ e
   rw[bD (UW pj)];exact(hf c hc).1
 ·intro X hP hw hK hc i pins s σ H E I hf st hg;subst hP hw hK;obtain⟨yr,m,pm,hm,⟨xm,hxm,hlm⟩,hb⟩:=hg;obtain⟨s1,s2,⟨old,s3,s3'⟩,s4⟩:=st;obtain⟨qs,e1,e2,h3⟩:=OI I ps jz hl yr;have hlq:qs.length=ps.length:=by rw[<-e1,SV]
  have ap:=apart I hf e2 λq hq=>let⟨_,xs,h,_⟩:=h3 q hq;⟨xs,h⟩;have hA:X.A.in1.handled=none:=I.ok.hd hc;have hzz:s.TypeIs (.ref z) "zip":=⟨_,s1,rfl⟩;have zj:∀{j:Nat}{q:ZQ},qs[j]?=oZ q->ps[j]?=oZ (q.κ,q.a)/\jz[j]?=oZ q.it:=λ{j q}h=>⟨by rw[<-e1,TR,h];rfl,by rw[<-e2,TR,h];rfl⟩;have gi:∀q∈qs,j3 q.κ s.heap q.it q.a i/\wZ q.κ s.heap q.a q.items:=λq hq=>by
   obtain⟨j,hj⟩:=VI hq;exact⟨s4 j _ _ (zj hj).1 (zj hj).2,(h3 q hq).1⟩
  have gI:jP s.heap TI (qs.map λp=>VU p.it).toArray:=by
   have:(qs.map λp=>VU p.it)=jz.map VU:=by rw[<-e2,UA];rfl
   rw[this];exact s2
  have hml:m<qs.length:=by rw[hlq];exact(SW.mp hm).1
  have hqm:=SX hml;have hpm:qs[m].items.size=i:=by
   have q1:=(zj hqm).1;rw[hm]at q1;cases q1;obtain⟨_,ys,r1,r2⟩:=h3 _ (WA hml);rw[I.sqK_inj hxm r1]at hlm;have:=r2.length;simp at this
   lia
  have gk:∀(j:Nat)(q:ZQ),j<m->qs[j]?=oZ q->i<q.items.size:=λj q hj hq=>by
   obtain⟨xs,x,q1,q2⟩:=hb j _ hj (zj hq).1;obtain⟨_,ys,r1,r2⟩:=h3 q (kX hq);rw[I.sqK_inj q1 r1]at q2;have:=(SW.mp q2).1;have:=r2.length;simp at this
   lia
  unfold pyNext;refine cm (wpAny_attempt (wpAny_callSpecial?_slot (name:=XW "__next__") hzz F.slot_zip_next (iu F.slot_zip_next hzz F.entry_zip_next
   (Sk hA ap (λz=>by rw[z]at hml;cases hml) ⋯ s1 gI s3 ⋯ gi (UX hml) gk (λp h=>by rw[hqm]at h;cases h;exact hpm) (λe=>absurd e (UW hml)) λ_ h' tk e kp he=>?_) (F.args_zip_next_1 _))))
  obtain⟨o,ho,hco⟩:=he;refine cm (wpAny_isInstance (T:="StopIteration") (b:=true) ⟨o,ho,hco⟩ isSubtype_stop (cn ⟨rfl,?_⟩));refine I.turnedL (t':=tk) (ch:=z::TI::TO::jz) (λc o hc q=>?_) hf;simp only[SU,not_or]at hc;refine kp c o hc.1 hc.2.2.1 (λq' xi e=>hc.2.2.2 ?_) q;rw[e,<-e2];exact ZH xi
def gP:List T->List T->List T
 |x::xs,y::ys=>.tup [x,y]::gP xs ys
 |_,_=>[]
theorem uO:∀xs ys:List T,(gP xs ys).length=min xs.length ys.length
 |[],_=>by simp[gP]
 |_::_,[]=>by simp[gP]
 |_::xs,_::ys=>by simp[gP,uO xs ys]
theorem Kk:∀{xs ys:List T}{i:Nat}{t:T},(gP xs ys)[i]?=oZ t->∃x y,xs[i]?=oZ x/\ys[i]?=oZ y/\t = .tup [x,y]
 |[],_,_,_,h=>by simp[gP]at h
 |_::_,[],_,_,h=>by simp[gP]at h
 |x::_,y::_,0,_,h=>by simp[gP]at h;exact⟨x,y,rfl,rfl,h.symm⟩
 |_::xs,_::ys,i+1,t,h=>by
  obtain⟨x,y,h1,h2,h3⟩:=Kk (xs:=xs) (ys:=ys) (i:=i) (t:=t) (by simpa[gP]using h);exact⟨x,y,by simpa using h1,by simpa using h2,h3⟩
def HE(κ:Bool)(xs:List T):T:=match κ with
 |true=>.tup xs
 |false=>.lst xs
theorem Bu{K:W.Frag}{H:Hp}{O:ck->Prop}{κ:Bool}{xs:List T}{a:ck}(h:Rp K H O (HE κ xs) (.ref a)):∃vs,Gy κ K H a vs/\cP K H O xs vs:=by
 cases κ
 ·obtain⟨a',vs,e,h1,h2⟩:=Rp.sqL h;cases e;exact⟨vs,h1,h2⟩
 ·obtain⟨a',vs,e,h1,h2⟩:=Rp.sqT h;cases e;exact⟨vs,h1,h2⟩
theorem Px{K:W.Frag}{κ:Bool}{a b:ck}{xs ys:List T}:Sr K (NU K [(κ,a),(κ,b)]) (gP xs ys) (λH O=>Rp K H O (HE κ xs) (.ref a)/\Rp K H O (HE κ ys) (.ref b)):=by
 refine⟨λH H' O O' k h=>⟨Rp.step k h.1,Rp.step k h.2⟩,λi H O h hi=>?_,λi H O x H' t h e hO y=>?_,λH O h=>?_⟩
 ·obtain⟨vs,s1,r1⟩:=Bu h.1;obtain⟨ws,s2,r2⟩:=Bu h.2;rw[uO]at hi;intro p hp;simp only[SU,WU,or_false]at hp;obtain rfl|rfl:=hp
  ·exact⟨vs,vs[i]'(by rw[r1.length];lia),s1,SX _⟩
  ·exact⟨ws,ws[i]'(by rw[r2.length];lia),s2,SX _⟩
 ·obtain⟨vs,s1,r1⟩:=Bu h.1;obtain⟨ws,s2,r2⟩:=Bu h.2;obtain⟨q,us,e1,hq,e2,lu,hu⟩:=y;subst e1;subst e2;obtain⟨t1,t2,g1,g2,rfl⟩:=Kk e;obtain⟨v1,a1,b1⟩:=r1.get g1;obtain⟨v2,a2,b2⟩:=r2.get g2
  match us,lu with
  |[u1,u2],_=>
   have z1:=hu 0 _ u1 rfl rfl vs s1;have z2:=hu 1 _ u2 rfl rfl ws s2;rw[a1]at z1;cases z1;rw[a2]at z2;cases z2;have k:Kp O O H (upd H q (.tup [v1,v2])):=Kp.upd hq;exact⟨k,λb o z=>by rw[bD (bF z hq)];exact z,q,_,rfl,.inl ⟨λz=>hO q z hq,dM⟩,v1,_,rfl,b1.step k,v2,_,rfl,b2.step k,rfl⟩
 ·obtain⟨vs,s1,r1⟩:=Bu h.1;obtain⟨ws,s2,r2⟩:=Bu h.2;have l1:=r1.length;have l2:=r2.length;refine⟨λp hp=>?_,?_⟩
  ·simp only[SU,WU,or_false]at hp;obtain rfl|rfl:=hp
   ·exact⟨vs,s1⟩
   ·exact⟨ws,s2⟩
  ·rw[uO]
   by_cases c:xs.length<=ys.length
   ·exact⟨0,_,rfl,⟨vs,s1,⋯⟩,λj q hj=>absurd hj (bg _)⟩
   ·refine⟨1,_,rfl,⟨ws,s2,⋯⟩,λj q hj hq=>?_⟩;obtain rfl:j=0:=⋯
    cases hq;exact⟨vs,vs[min xs.length ys.length]'⋯,s1,SX _⟩
section
variable{X:Cx}{K:W.Frag}{pos:Pos}{Fr:FA}
def SH(K:W.Frag)(ta:TA):TI:=λσ H R=>ta σ H λvs H1=>∃κ a b xs ys,vs=[.ref a,.ref b]/\Gy κ K H1 a xs/\Gy κ K H1 b ys/\R (NU K [(κ,a),(κ,b)]) H1
theorem LC{x1}(hg:Gl X "zip")(hm:X.mg "zip" = none)(ha:QA X [l,r] ta)(hs:bO l=false:=by rfl)(xg:bO r=false:=by rfl):
  QI X (.Tuple elts x1 vm) (.Call (.Name "zip" p) [l,r] [] pos) (SH X.K ta):=⟨by
 intro pins s σ H R I h;refine Call_ (xU I hg hm boot_zip (PyProof.Rows.callWith_type1 (dZ (ha.h pos pins s σ H _ I h) λus s1⟨vs,H1,I1,r1,q1⟩=>?_) (cD hs) (fO (by simp only[bW,xg];rfl))));obtain⟨κ,a,b,xs,ys,rfl,ga,gb,q⟩:=q1;obtain⟨u,v,rfl,ru,rv⟩:=bB.two r1;cases ru;cases rv;obtain⟨ia,ra,qa⟩:=I1.sqK ga;obtain⟨ib,rb,qb⟩:=I1.sqK gb;have fin:∀h',IsZip h' (s1.heap.objs.size+4) (s1.heap.objs.size+2) (s1.heap.objs.size+3) .none->IsPair h' (s1.heap.objs.size+2) (.ref s1.heap.objs.size) (.ref (s1.heap.objs.size+1))->IsPair h' (s1.heap.objs.size+3) .none .none->
   j3 κ h' s1.heap.objs.size a 0->j3 κ h' (s1.heap.objs.size+1) b 0->(∀c o,s1.heap.get? c=oZ o->h'.get? c=oZ o)->
   cq (df X.prog X.w) X.A (pyIter (.ref (s1.heap.objs.size+4))) (NX X pins σ (.Tuple elts x1 vm) R) X.xe { s1 with heap:=h' }:=λh' z1 z2 z3 z4 z5 kp=>by
  refine wpAny_pyIter_zip z1 ?_;refine⟨s1.heap.objs.size+4,_,_,_,H1,rfl,I1.kept (t':=s1.toks) kp,Vf _ (s1.heap.objs.size+2) (s1.heap.objs.size+3) [(κ,a),(κ,b)] [s1.heap.objs.size,s1.heap.objs.size+1] rfl (by simp) (by simp) (SI _),⟨z1,z2,⟨_,z3,rfl⟩,λj pq it hp hit=>?_⟩,λc hc=>?_,q⟩
  ·match j,hp,hit with
   |0,hp,hit=>cases hp;cases hit;exact z4
   |1,hp,hit=>cases hp;cases hit;exact z5
  ·have hle:s1.heap.objs.size<=c:=SD hc;exact I1.fpOk hle (I1.hok.fresh hle)
 cases κ
 ·exact call_zip_2 qa qb λh' z1 z2 z3 z4 z5 _ kp=>fin h' z1 z2 z3 z4 z5 kp
 ·exact Tc qa qb λh' z1 z2 z3 z4 z5 kp=>fin h' z1 z2 z3 z4 z5 kp⟩
def JP(Fr:FA):FI:=λE Q=>Fr E λrs E1=>match rs with
 |[x,y]=>(match vl E1 x,vl E1 y with
  |some (.lst xs),oZ (.lst ys)=>Q (gP xs ys) (tH E1 x++tH E1 y) E1
  |some (.tup xs),oZ (.tup ys)=>Q (gP xs ys) (tH E1 x++tH E1 y) E1
  |_,_=>False)
 |_=>False
theorem Dk{x1}(eK:X.K=K)(hg:Gl X "zip")(hm:X.mg "zip" = none)(ha:QA X [l,r] (dJ K n Fr))(hs:bO l=false:=by rfl)(xg:bO r=false:=by rfl):
  QI X (.Tuple elts x1 vm) (.Call (.Name "zip" p) [l,r] [] pos) (kL K (JP Fr)):=by
 subst eK;refine(LC hg hm ha hs xg).le λσ H R hn⟨B,S,E,Q',hS,re,hF,lk⟩=>⟨B,S,E,_,hS,re,hF,λrs E1 vs H1 S1 q g kq rr hn=>?_⟩
 match rs,rr,q with
 |[x,y],⟨v,ws,e1,h1,u,yp,e2,h2,h3⟩,q=>
  cases h3;subst e2;subst e1;have own:∀j∈tH E1 x++tH E1 y,∃k xs,E1[j]?=oZ (oZ (U.o k xs)):=λj hj=>by
   obtain h|h:=TY.mp hj
   ·exact wK j h
   ·exact wK j h
  simp only at q;split at q
  ·rename_i xs ys e1 e2;obtain⟨a,vs,e3,sq1,r1⟩:=kq.vl h1 e1;obtain⟨b,us,e4,sq2,r2⟩:=kq.vl h2 e2;refine⟨false,a,b,vs,us,by rw[e3,e4],sq1,sq2,lk _ _ _ _ _ _ _ q g kq Px own λO k1 k2=>?_⟩;rw[<-e3,<-e4];exact⟨pP kq h1 e1 O k1 λj hj=>k2 j (by simp[hj]),pP kq h2 e2 O k1 λj hj=>k2 j (by simp[hj])⟩
  ·rename_i xs ys e1 e2;obtain⟨a,vs,e3,sq1,r1⟩:=kq.vl h1 e1;obtain⟨b,us,e4,sq2,r2⟩:=kq.vl h2 e2;refine⟨true,a,b,vs,us,by rw[e3,e4],sq1,sq2,lk _ _ _ _ _ _ _ q g kq Px own λO k1 k2=>?_⟩;rw[<-e3,<-e4];exact⟨pP kq h1 e1 O k1 λj hj=>k2 j (by simp[hj]),pP kq h2 e2 O k1 λj hj=>k2 j (by simp[hj])⟩
  ·exact q.elim
 |[],_,q=>exact q.elim
 |[_],_,q=>exact q.elim
 |_::_::_::_,_,q=>exact q.elim
end
end L2
namespace My
open PySem L2 PyProof.Rows
abbrev oG:List Str:=["_law_one","_law_other"]
abbrev oH:List Str:=["one","other"]
abbrev oI:List Str:=["_law_box_here","_law_wide"]
theorem Ie(x y:Nat):VB y (x%y)=VB x y:=by
 rw[YZ x y,Nat.gcd_rec y x,YZ]
def vK(n d:Int):Int:=(if 0<d then n else -n)/((VB n.natAbs d.natAbs:Nat):Int)
def pH(n d:Int):Int:=(if 0<d then d else -d)/((VB n.natAbs d.natAbs:Nat):Int)
theorem Il{n d:Int}(hd:0<d)(hg:g=VB n.natAbs d.natAbs):(n/(g:Int)).natAbs<=n.natAbs/\1<=d/(g:Int)/\d/(g:Int)<=d/\VB (n/(g:Int)).natAbs (d/(g:Int)).natAbs=1:=by
 have g0:0<g:=by rw[hg];exact XE _ ⋯
 have dn:(g:Int)∣n:=by rw[hg];exact VD.mpr (WO _ _)
 have dd:(g:Int)∣d:=by rw[hg];exact VD.mpr (WQ _ _)
 have en:(n/(g:Int)).natAbs=n.natAbs/g:=by rw[Int.natAbs_ediv_of_dvd dn];simp
 have ed:(d/(g:Int)).natAbs=d.natAbs/g:=by rw[Int.natAbs_ediv_of_dvd dd];simp
 refine⟨by rw[en];exact Nat.div_le_self _ _,?_,?_,?_⟩
 ·obtain⟨k,hk⟩:=dd;have hg':(0:Int)<g:=⋯
  rw[hk,WG _ ⋯];obtain h|h:=aj 0 k
  ·lia
  ·have:(g:Int)*k<=0:=YN ⋯ h
   lia
 ·exact Int.ediv_le_self _ ⋯
 ·rw[en,ed,Nat.gcd_div (by rw[hg];exact WO _ _) (by rw[hg];exact WQ _ _),<-hg,Nat.div_self g0]
theorem o8{n d:Int}(hd:d≠0):(vK n d).natAbs<=n.natAbs/\1<=pH n d/\pH n d<=d.natAbs/\VB (vK n d).natAbs (pH n d).natAbs=1:=by
 unfold vK pH
 by_cases h:0<d
 ·rw[oV h,oV h];have:=Il (n:=n) (d:=d) h rfl;refine⟨this.1,this.2.1,?_,this.2.2.2⟩;have:=this.2.2.1
  lia
 ·rw[oW h,oW h];have h':0 < -d:=⋯
  have:=Il (n:=-n) (d:=-d) h' rfl;simp only[XB]at this;refine⟨this.1,this.2.1,?_,this.2.2.2⟩;have:=this.2.2.1
  lia
abbrev Fr:=Int×Int
structure bL(p:Fr):Prop where
 d:1<=p.2
 g:VB p.1.natAbs p.2.natAbs=1
def low(n d:Int):Fr:=(vK n d,pH n d)
def fM(p q:Fr):Fr:=low (p.1*q.2+q.1*p.2) (p.2*q.2)
def aQ(p q:Fr):Fr:=low (p.1*q.2-q.1*p.2) (p.2*q.2)
def kB(p q:Fr):Fr:=low (p.1*q.1) (p.2*q.2)
def xN(p q:Fr):Fr:=low (p.1*q.2) (p.2*q.1)
def Dm(p:Fr):Fr:=(-p.1,p.2)
def val(p:Fr):Rat:=(p.1:Rat)/(p.2:Rat)
theorem iG{n d:Int}(hd:d≠0):bL (low n d):=⟨(o8 hd).2.1,(o8 hd).2.2.2⟩
theorem Ua{n d:Int}(hd:d≠0):vK n d*d=n*pH n d:=by
 have dn:((VB n.natAbs d.natAbs:Nat):Int)∣n:=VD.mpr (WO _ _);have dd:((VB n.natAbs d.natAbs:Nat):Int)∣d:=VD.mpr (WQ _ _);have g0:((VB n.natAbs d.natAbs:Nat):Int)≠0:=by
  have:=XE n.natAbs (show 0<d.natAbs by lia)
  lia
 unfold vK pH;generalize((VB n.natAbs d.natAbs:Nat):Int)=g at dn dd g0;obtain⟨k,hk⟩:=dn;obtain⟨m,hm⟩:=dd
 by_cases h:0<d
 ·rw[oV h,oV h,hk,hm,WG _ g0,WG _ g0];grind
 ·rw[oW h,oW h,hk,hm,<-Int.mul_neg,<-Int.mul_neg,WG _ g0,WG _ g0];grind
theorem mO{n d:Int}(hd:d≠0):val (low n d)=(n:Rat)/(d:Rat):=by
 have h:=Ua (n:=n) hd;have h1:=(o8 (n:=n) hd).2.1;have a1:((pH n d:Int):Rat)≠0:=by
  have:pH n d≠0:=⋯
  exact_mod_cast this
 have a2:(d:Rat)≠0:=by exact_mod_cast hd
 have h':((vK n d:Int):Rat)*(d:Rat)=(n:Rat)*((pH n d:Int):Rat):=by exact_mod_cast h
 show((vK n d:Int):Rat)/((pH n d:Int):Rat)=(n:Rat)/(d:Rat);grind
theorem bL.ne(h:bL p):p.2≠0:=by have:=h.d;lia
theorem bL.neR(h:bL p):(p.2:Rat)≠0:=by have:=h.ne;exact_mod_cast this
theorem gW(hp:bL p)(hq:bL q):p.2*q.2≠0:=XO hp.ne hq.ne
theorem jH(hp:bL p)(hq:bL q):val (fM p q)=val p+val q:=by
 have h1:=hp.neR;have h2:=hq.neR;unfold fM;rw[mO (gW hp hq)];unfold val
 push_cast
 grind
theorem bK(hp:bL p)(hq:bL q):val (aQ p q)=val p-val q:=by
 have h1:=hp.neR;have h2:=hq.neR;unfold aQ;rw[mO (gW hp hq)];unfold val
 push_cast
 grind
theorem fD(hp:bL p)(hq:bL q):val (kB p q)=val p*val q:=by
 have h1:=hp.neR;have h2:=hq.neR;unfold kB;rw[mO (gW hp hq)];unfold val
 push_cast
 grind
theorem Y2(hp:bL p):val (Dm p) = - val p:=by
 have h1:=hp.neR;show((-p.1:Int):Rat)/(p.2:Rat) = - ((p.1:Rat)/(p.2:Rat))
 push_cast
 grind
theorem eC(hp:bL p)(hq:bL q):bL (fM p q):=iG (gW hp hq)
theorem aR(hp:bL p)(hq:bL q):bL (aQ p q):=iG (gW hp hq)
theorem aW(hp:bL p)(hq:bL q):bL (kB p q):=iG (gW hp hq)
theorem Q0(hp:bL p):bL (Dm p):=⟨hp.d,by show VB (-p.1).natAbs p.2.natAbs=1;rw[XB];exact hp.g⟩
theorem bX(n:Int):bL (n,1):=⟨by show(1:Int)<=1;decide,by simp⟩
theorem gT(hp:bL p)(hq:bL q)(h:val p=val q):p=q:=by
 have h1:=hp.neR;have h2:=hq.neR;have e:p.1*q.2=q.1*p.2:=by
  unfold val at h;have h':(p.1:Rat)*q.2=q.1*p.2:=by grind
  exact_mod_cast h'
 have en:p.1.natAbs*q.2.natAbs=q.1.natAbs*p.2.natAbs:=by rw[<-VW,<-VW,e]
 have d1:p.2.natAbs∣q.2.natAbs:=by
  have:p.2.natAbs∣p.1.natAbs*q.2.natAbs:=by rw[en];exact ak _ _
  exact Nat.Coprime.dvd_of_dvd_mul_left (show YR p.2.natAbs p.1.natAbs by unfold YR;rw[YZ];exact hp.g) this
 have d2:q.2.natAbs∣p.2.natAbs:=by
  have:q.2.natAbs∣q.1.natAbs*p.2.natAbs:=by rw[<-en];exact ak _ _
  exact Nat.Coprime.dvd_of_dvd_mul_left (show YR q.2.natAbs q.1.natAbs by unfold YR;rw[YZ];exact hq.g) this
 have ed:p.2.natAbs=q.2.natAbs:=Nat.dvd_antisymm d1 d2;have ed':p.2=q.2:=by have:=hp.d;have:=hq.d;lia
 have e2:p.1=q.1:=by
  rw[ed']at e;exact Int.eq_of_mul_eq_mul_right hq.ne e
 exact Prod.ext e2 ed'
theorem qG(h:x<2^e)(he:e<=8000):x<2^8000:=UB h (WH ∅ he)
theorem bM{x y:Int}(hx:x.natAbs<2^e)(hy:y.natAbs<2^f):(x*y).natAbs<2^(e+f):=by
 rw[VW,Nat.pow_add];exact Nat.mul_lt_mul'' hx hy
theorem vT{x y:Int}(hx:x.natAbs<2^e)(hy:y.natAbs<2^e):(x+y).natAbs<2^(e+1):=by
 have:=Int.natAbs_add_le x y;rw[Nat.pow_succ]
 lia
theorem kO{x y:Int}(hx:x.natAbs<2^e)(hy:y.natAbs<2^e):(x-y).natAbs<2^(e+1):=by
 rw[Int.sub_eq_add_neg];exact vT hx (by rw[XB];exact hy)
theorem Ki(hp:bL p)(hq:bL q)(h:q.1≠0):val (xN p q)=val p/val q:=by
 have h1:=hp.neR;have h2:=hq.neR;have h3:(q.1:Rat)≠0:=by exact_mod_cast h
 unfold xN;rw[mO (XO hp.ne h)];unfold val
 push_cast
 grind
theorem Ir(hp:bL p)(h:q.1≠0):bL (xN p q):=iG (XO hp.ne h)
def sz(p:Fr):Nat:=ag (ao p.1.natAbs) (ao p.2.natAbs)+1
theorem fZ(p:Fr):p.1.natAbs<2^sz p:=UB Nat.lt_log2_self (WH ∅ (ah (Nat.le_max_left _ _)))
theorem b9(p:Fr):p.2.natAbs<2^sz p:=UB Nat.lt_log2_self (WH ∅ (ah (Nat.le_max_right _ _)))
theorem Yp(h:n<2^e)(he:1<=e):ao n+1<=e:=by
 by_cases c:n=0
 ·subst c;have:ao 0=0:=by simp
  lia
 ·exact(br c).mpr h
theorem n9(h1:p.1.natAbs<2^e)(h2:p.2.natAbs<2^e)(he:1<=e):sz p<=e:=by
 have a:=Yp h1 he;have b:=Yp h2 he;unfold sz;have:ag (ao p.1.natAbs) (ao p.2.natAbs)<=e-1:=ZC.mpr ⟨⋯,⋯⟩
 lia
theorem Nk(p:Fr):1<=sz p:=by unfold sz;lia
theorem qV{n d:Int}(hd:d≠0)(h1:n.natAbs<2^e)(h2:d.natAbs<2^e)(he:1<=e):sz (low n d)<=e:=by
 have lf:=o8 (n:=n) hd;refine n9 (UN lf.1 h1) ?_ he;show(pH n d).natAbs<2^e
 lia
theorem Gm(hp:bL p)(hq:bL q):sz (fM p q)<=sz p+sz q+1:=
 qV (gW hp hq) (vT (bM (fZ p) (b9 q)) (by rw[Nat.add_comm];exact bM (fZ q) (b9 p))) (UB (bM (b9 p) (b9 q)) (WH ∅ ⋯)) ⋯
theorem gZ(hp:bL p)(hq:bL q):sz (aQ p q)<=sz p+sz q+1:=
 qV (gW hp hq) (kO (bM (fZ p) (b9 q)) (by rw[Nat.add_comm];exact bM (fZ q) (b9 p))) (UB (bM (b9 p) (b9 q)) (WH ∅ ⋯)) ⋯
theorem fT(hp:bL p)(hq:bL q):sz (kB p q)<=sz p+sz q:=
 qV (gW hp hq) (bM (fZ p) (fZ q)) (bM (b9 p) (b9 q)) (by have:=Nk p;lia)
theorem Rn(hp:bL p)(h:q.1≠0):sz (xN p q)<=sz p+sz q:=
 qV (XO hp.ne h) (bM (fZ p) (b9 q)) (bM (b9 p) (fZ q)) (by have:=Nk p;lia)
theorem lE(W:Nat->En->Prop)(h0:W 0 E)(hs:∀i x rest E,items[i]?=oZ x->W i E->(∀E',W (i+1) E'->dU g F D rest E')->dU g F D (x::rest) E)(hd:∀E,W items.length E->D.nx E):dU g F D items E:=by
 have key:∀n i E,items.length-i=n->i<=items.length->W i E->dU g F D (items.drop i) E:=by
  intro n
  induction n with
  |zero=>
   intro i E e hi h;obtain rfl:i=items.length:=⋯
   rw[WV];exact hd E h
  |succ n ih=>
   intro i E e hi h;have pj:i<items.length:=⋯
   rw[VT pj];exact hs i _ _ E (SX pj) h λE' h'=>ih (i+1) E' ⋯ ⋯ h'
 exact key _ 0 E rfl (VZ _) h0
theorem Ah{Q:En->Prop}(W:Nat->En->Prop)(h0:W 0 E)(hs:∀i x rest E,items[i]?=oZ x->W i E->(∀E',W (i+1) E'->iV g Fe rest E' Q)->iV g Fe (x::rest) E Q)(hd:∀E,W items.length E->Q E):iV g Fe items E Q:=by
 have key:∀n i E,items.length-i=n->i<=items.length->W i E->iV g Fe (items.drop i) E Q:=by
  intro n
  induction n with
  |zero=>
   intro i E e hi h;obtain rfl:i=items.length:=⋯
   rw[WV];exact hd E h
  |succ n ih=>
   intro i E e hi h;have pj:i<items.length:=⋯
   rw[VT pj];exact hs i _ _ E (SX pj) h λE' h'=>ih (i+1) E' ⋯ ⋯ h'
 exact key _ 0 E rfl (VZ _) h0
def fr(p:Fr):T:=.tup [.int p.1,.int p.2]
def vc(x y:Fr):T:=.tup [fr x,fr y]
theorem Aq(p q:Fr):iP (fr p) (fr q)=decide (p=q):=by
 rw[XQ];simp[fr,L2.iP,L2.vH,Prod.ext_iff]
theorem IV(x y x' y':Fr):iP (vc x y) (vc x' y')=decide (x=x'/\y=y'):=by
 rw[XQ];simp[vc,L2.iP,L2.vH,Aq]
def Nt(i j:Int):Prop:=Nu i j\/L5 i j
theorem aS:oQ X (gf .Mult) (rI Nt λi j=>.int (i*j)):=by
 intro pins s σ H x y v u Q I rx ry h;obtain⟨i,j,e1,e2,hc,q⟩:=h;obtain hc|hc:=hc
 ·exact S4 pins s σ H x y v u Q I rx ry ⟨i,j,e1,e2,hc,q⟩
 ·exact EV pins s σ H x y v u Q I rx ry ⟨i,j,e1,e2,hc,q⟩
theorem fN{i j:Int}(h1:i.natAbs<2^e)(h2:j.natAbs<2^e)(he:e<=8000):Nt i j:=.inl ⟨qG h1 he,qG h2 he⟩
theorem zM{i j:Int}(h1:i.natAbs<2^60):Nt i j:=.inr (.inl ⋯)
theorem zN{i j:Int}(h1:j.natAbs<2^60):Nt i j:=.inr (.inr ⋯)
structure Txt(mg:Str->Option oA):Prop where
 n_isinstance:mg "isinstance" = none
 n_abs:mg "abs" = none
 n_divmod:mg "divmod" = none
 n_min:mg "min" = none
 n_max:mg "max" = none
 n_all:mg "all" = none
 n_len:mg "len" = none
 n_int:mg "int" = none
 n_bool:mg "bool" = none
 n_tuple:mg "tuple" = none
 n_list:mg "list" = none
 n_str:mg "str" = none
 n_range:mg "range" = none
 n_enumerate:mg "enumerate" = none
 n_zip:mg "zip" = none
structure wM(mg:Str->Option oA)(K:W.Frag)(x:Str)(t:L2.T):Prop where
 ex:∃a,mg x=oZ (.ref a)/\∀H O,Rp K H O t (.ref a)
theorem vX{X:Cx}{K:W.Frag}{x:Str}{t:L2.T}{pos:Pos}(hg:Gl X x)(c:wM X.mg K x t)(hd:(x==("__debug__":Str))=false:=by decide):QE X (.Name x pos) (aJ K (fC t)):=by
 obtain⟨a,h1,h2⟩:=c.ex;exact QE.le (t:=tC (.ref a)) ⟨Qo (v:=.ref a) hg h1 rfl hd⟩ λσ H Q hl zZ=>by obtain⟨B,S,E,Q',hS,re,hF,lk⟩:=zZ;exact lk _ _ _ _ _ hF .refl re (h2 _ _)
theorem lR{K:W.Frag}{i j:Int}(h:K.lookup a=oZ ⟨.type "tuple",od,.seq #[.int i t,.int j u] n,sl⟩)(H:Hp)(O:ck->Prop):Rp K H O (.tup [.int i,.int j]) (.ref a):=
 ⟨a,[.int i,.int j],rfl,.inr ⟨_,_,n,h,rfl,rfl,by show 2<=cw;decide,.cons ⟨t,rfl⟩ (.cons ⟨u,rfl⟩ .nil)⟩,_,_,rfl,rfl,_,_,rfl,rfl,rfl⟩
section
variable{X:Cx}{K:W.Frag}{e:oC}{te:TE}{st:Option oC}{ts:TO}{pos p2:Pos}{Fa:FE}{G:FO}
def BP(K:W.Frag)(te:TE)(ts:TO):TE:=λσ H Q=>te σ H λx H1=>ts σ H1 λk H2=>k=oZ (-1)/\∃a xs,x = .ref a/\j5 K H2 a xs/\∀p,H2 p=none->Q (.ref p) (upd H2 p (.lst xs.reverse))
theorem T6(he:PE X e te)(hk:PO X st ts)(hop:∀a b,∃ops,jm (.Slice none none st p2) false a b=operate ops (jc a b)):PE X (.Subscript e (.Slice none none st p2) pos) (BP X.K te ts):=by
 intro pins s σ H Q I h;refine Subscript_ (dZ (he pins s σ H _ I h) λv s1 zZ=>?_);obtain⟨x,H1,I1,r1,q1⟩:=zZ;refine wpAny_Slice ?_;rw[jv];refine cn ?_;refine cn ?_;refine dZ (hk pins s1 σ H1 _ I1 q1) λvk s2 zZ=>?_;obtain⟨k,H2,I2,pk,q2⟩:=zZ;obtain⟨rfl,a,xs,rfl,hx,q⟩:=q2;have I4:aV X pins σ H2 { s2 with heap:=s2.heap.push { cls:=.type "slice",data:=.fields #[.none,.none,vk] } }:=I2.kept (t':=s2.toks) λb ob q=>TJ _ q;cases r1;obtain⟨jz,r,ht,hz⟩:=I4.list hx;have hlen:=r.length;have hg:cq (df X.prog X.w) X.A (jc (.ref a) (.ref s2.heap.objs.size)) (EP X pins σ Q) X.xe { s2 with heap:=s2.heap.push { cls:=.type "slice",data:=.fields #[.none,.none,vk] } }:=by
  refine wpAny_getItem_list_slice ht.isList (Heap.IsSliceOf.new ..) .none .none pk ∅ ?_ (by rw[TU]<;>lia);rw[W.krv_pick];refine⟨.ref _,_,I4.laid (t':=s2.toks) (o:=.lst xs.reverse) (λb ob q=>TJ _ q) (TN _) ?_,rfl,q _ (I4.hok.fresh (TN _))⟩;exact⟨by rw[List.length_reverse];exact hz,_,0,r.reverse,UG _ rfl⟩
 obtain⟨ops,ho⟩:=hop (.ref a) (.ref s2.heap.objs.size);exact tail_any (ops:=ops) ht.isList.typeIs slot_list_getitem.lookup hg ho
def OU(Fa:FE)(G:FO):FE:=λE Q=>Fa E λx E1=>G E1 λk E2=>k=oZ (-1)/\match vl E2 x with
 |some (.lst xs)=>Q (.s E2.length) (E2++[↥xs.reverse])
 |_=>False
theorem O0(eK:X.K=K)(he:QE X e (aJ K Fa))(hk:QO X st (sZ K G))(hop:∀a b,∃ops,jm (.Slice none none st p2) false a b=operate ops (jc a b):=by exactλ_ _=>⟨_,by with_unfolding_all rfl⟩):QE X (.Subscript e (.Slice none none st p2) pos) (aJ K (OU Fa G)):=by
 subst eK;refine QE.le (t:=BP X.K (aJ X.K Fa) (sZ X.K G)) ⟨T6 he.h hk.h hop⟩ λσ H Q _⟨B,S,E,Q',⟨τ,hS⟩,re,hF,lk⟩=>⟨B,S,E,_,⟨τ,hS⟩,re,hF,λx E1 v H1 S1 q g1 kq rx=>?_⟩;obtain⟨τ1,qg⟩:=g1.pre;refine⟨B,S1,E1,_,⟨τ++τ1,by rw[qg,hS,TF]⟩,kq,q,λl E2 H2 S2 q2 g2 mj=>?_⟩;have rx2:=rx.step g2;obtain⟨hk1,q2⟩:=q2;refine⟨hk1,?_⟩;split at q2
 ·rename_i xs e1;obtain⟨a,vs,e2,sq,rs⟩:=mj.vl rx2 e1;refine⟨a,vs,e2,sq,λp hp=>?_⟩;obtain⟨g,km⟩:=mj.lst hp rs.reverse;exact lk _ _ _ _ _ q2 ((g1.trans g2).trans g) km (by rw[<-mj.len];exact kC)
 ·exact q2.elim
end
end My
namespace L2
open PySem PySem.Spec PyProof.Rows
theorem oT{X:Cx}{K:W.Frag}{pos:Pos}{I:FI}{g:FG}{Fb:FB}{Fe:FE}{target elt iter c:oC}{scope:iq}{N':List Str}{cap:List (Nat×Bool)}{t:Nat}(hc:X.calm=true)(S:bI X N' scope t (cap.map (·.1)))(ho:i7 cap=true)(vb:(cap.map (·.1)).Nodup)(hi:QI X target iter (kL K I))(hg:∀C s3 H3 fp,QG (bV X N' scope C s3 H3 fp) target (pJ K g))(hb:∀C s3 H3 fp,QT (bV X N' scope C s3 H3 fp) c (fY K Fb))(he:∀C s3 H3 fp,QE (bV X N' scope C s3 H3 fp) elt (aJ K Fe))(hs:∀x,dr iter X.env x=pure x:=by intro _;rfl):
  QE X (.ListComp elt [⟨target,iter,[c],0⟩] scope pos) (aJ K (Dh t cap I g Fb Fe)):=
 QE.le (t:=mN t (cap.map (·.1)) (kL K I) (Bs none K g) (yN none K Fb) (mS none K Fe)) ⟨xX hc S hi.h (λC s3 H3 fp=>(hg C s3 H3 fp).gd.h) (λC s3 H3 fp=>(hb C s3 H3 fp).bd.h.one) (λC s3 H3 fp=>(he C s3 H3 fp).ed.h) hs⟩ λσ H Q hl h=>Aj (d:=none) (d':=none) S ho vb hl (λ_ _ _ z=>by cases z) ⟨(λ_ z=>by cases z),h⟩
def Yb(t:T)(xs:List T):Bool:=xs.any λy=>iP y t
section
variable{X:Cx}{K:W.Frag}{pos:Pos}{a b e o:oC}{Fa Fb Fo:FE}{Fr:FA}
theorem Y8{e:oA->Bool}(he:∀(y:T)(w:V)(z:oA),Rq K H y w->bP w z->e z=iP y t):∀{xs:List T}{vs:List V}{jz:List oA},zD K H xs vs->bB vs jz->jz.any e=Yb t xs/\∀z∈jz,∃y∈xs,∃w,Rq K H y w/\bP w z
 |[],_,_,h,r=>by cases h;cases r;exact⟨rfl,λz hz=>by cases hz⟩
 |y::xs,_,_,h,r=>by
  obtain⟨v,ws,rfl,h1,h2⟩:=h;cases r with
  |cons r1 r2=>
   obtain⟨q1,q2⟩:=Y8 he h2 r2;refine⟨?_,λz hz=>?_⟩
   ·rw[YS,q1,he _ _ _ h1 r1];rfl
   ·obtain rfl|hz:=SU.mp hz
    ·exact⟨y,VX ..,v,h1,r1⟩
    ·obtain⟨y',h3,h4⟩:=q2 z hz;exact⟨y',UI _ h3,h4⟩
def QF(K:W.Frag)(ng:Bool):R2:=λx y H Q=>∃t xs p vs,Rq K H t x/\y = .ref p/\j5 K H p vs/\zD K H xs vs/\Ot xs<=50/\Q (.bl (if ng then !(Yb t xs)else Yb t xs)) H
theorem O4(hr:fF k X.A)(I:aV X pins σ H s)(ht:Rq X.K H t x)(rx:bP x v)(hxs:zD X.K H xs vs)(r:bB vs jz)(hd:Ot xs<=50):
  ∃e:oA->Bool,jz.any e=Yb t xs/\∀z∈jz,SeqAt.EqAt X.A.in1 s z v (e z):=by
 obtain⟨e,he⟩:∃e:oA->Bool,∀(y:T)(w:V)(z:oA),Rq X.K H y w->bP w z->e z=iP y t:=by
  refine⟨λz=>@dite _ (∃y w,Rq X.K H y w/\bP w z) (Classical.propDecidable _) (λh=>iP (Classical.choose h) t) (λ_=>false),λy w z h1 h2=>?_⟩;have hex:∃y w,Rq X.K H y w/\bP w z:=⟨y,w,h1,h2⟩;show @dite _ (∃y w,Rq X.K H y w/\bP w z) (Classical.propDecidable _) (λh=>iP (Classical.choose h) t) (λ_=>false)=_;rw[dif_pos hex];obtain⟨w',h3,h4⟩:=Classical.choose_spec hex;have:=Qy h2 h4;subst this;rw[Rq.inj I h3 h1]
 obtain⟨q1,q2⟩:=Y8 he hxs r;refine⟨e,q1,λz hz=>?_⟩;obtain⟨y,hy,w,h1,h2⟩:=q2 z hz;rw[he _ _ _ h1 h2];have:=tO hy;exact(Eu I 50 X.A.in1 y t w x z v ⋯ h1 ht h2 rx (by have:=hr.units;show X.A.units+1+50<jn;lia)).2
theorem S5(hr:fF k X.A):oQ X (fi .NotIn) (QF X.K true):=by
 intro pins s σ H x y v u Q I rx ry h;obtain⟨t,xs,p,vs,ht,rfl,hq,hxs,hd,q⟩:=h;cases ry;obtain⟨jz,r,pl,hz⟩:=I.list hq;obtain⟨e,q1,q2⟩:=O4 hr I ht rx hxs r hd;refine SeqAt.notIn_listAt e pl.isList (λw hw=>q2 w (by simpa using hw)) ⟨.bl _,H,I,rfl,?_⟩;rw[show jz.toArray.any e=jz.any e by simp,q1];exact q
def RW(ng:Bool)(Fa Fb:FE):FE:=λE Q=>Fa E λx E1=>Fb E1 λy E2=>t2 (vl E2 x) (vl E2 y) λt u=>match u with
 |.lst xs=>Ot xs<=50/\Q (.p (.bl (if ng then !(Yb t xs)else Yb t xs))) E2
 |_=>False
theorem Xm(eK:X.K=K)(hr:fF k X.A)(ha:QE X a (aJ K Fa))(hb:QE X b (aJ K Fb))(hm:eh .NotIn b=false):QT X (.Compare a [.NotIn] [b] pos) (fY K (zE (RW true Fa Fb))):=by
 subst eK;refine Dp (S5 hr) ha hb hm λσ H Q h=>two (Fa:=Fa) (Fb:=Fb) h λB S E x y v w H2 Q' hS re rx ry q lk=>?_;obtain⟨t,u,e1,e2,q⟩:=t2.ex q;split at q
 ·rename_i xs;obtain⟨p,vs,e3,sq,rs⟩:=re.vl ry e2;exact⟨t,xs,p,vs,(re.vl rx e1).rq,e3,sq,rs.rq,q.1,lk _ _ _ _ _ q.2 .refl re rfl⟩
 ·exact q.elim
def Et:V->List V->Hp->VK->Prop:=λx vs H Q=>∃(l:ck)(xs:List V)(k:Int)(i:Nat)(y:V),x = .ref l/\vs=[.int k,y]/\k=(i:Int)/\H l=oZ (.lst xs)/\i<=xs.length/\xs.length<cw/\i<1000000/\Q .non (upd H l (.lst (xs.take i++y::xs.drop i)))
theorem Bj:NF X "list.insert" Et:=by
 intro pins s σ H x vs v us Q I rx rv h;obtain⟨l,xs,k,i,y,rfl,rfl,hk,hH,hi,hz,hi6,q⟩:=h;cases rx;obtain⟨u,w,rfl,ru,yg⟩:=bB.two rv;obtain⟨t,rfl⟩:=ru;obtain⟨z,jz,n,r,hl,e⟩:=I.lstM hH;have hlen:=r.length;have hf:Builtin.List.listFitsIndex k=true:=by
  rw[hk];unfold Builtin.List.listFitsIndex;simp
  lia
 have hc:¬(!Builtin.List.listFitsIndex k)=true:=by rw[hf];decide
 have hs1:jz.toArray.size<=cw:=by rw[TU,<-hlen];exact UX hz
 have aF9:=I.lset (t':=s.toks) (its':=jz.take i++w::jz.drop i) (ys:=xs.take i++y::xs.drop i) (f:=λys=>(ys.extract 0 (if k<0 then(k+(ys.size:Int)).toNat else min k.toNat ys.size)).push w++ys.extract (if k<0 then(k+(ys.size:Int)).toNat else min k.toNat ys.size)) hH e (by
  have e1:(if k<0 then(k+(jz.toArray.size:Int)).toNat else min k.toNat jz.toArray.size)=i:=by
   rw[hk,oW ⋯,VP,TU]
   lia
  show(jz.toArray.extract 0 (if k<0 then(k+(jz.toArray.size:Int)).toNat else min k.toNat jz.toArray.size)).push w++jz.toArray.extract (if k<0 then(k+(jz.toArray.size:Int)).toNat else min k.toNat jz.toArray.size)=_;rw[e1];exact W.kl_ins_eq jz i w) ((r.take i).append (.cons yg (r.drop i))) (by
  have el:(xs.take i++y::xs.drop i).length=xs.length+1:=by
   rw[TC,TB,UP,WL]
   lia
  rw[el];exact hz)
 obtain⟨arr,aGA⟩:∃arr:Array oA,arr=jz.toArray:=⟨_,rfl⟩;rw[<-aGA]at hs1 e;have M:=PySem.AutoSeq1.list_insert_list_int_val_1 l arr n k t w hc hs1;refine call_meets PySem.F.slot_list_insert ⟨_,e,rfl⟩ PySem.F.entry_list_insert (PySem.F.args_list_insert_3 _ _ _) M ⟨e,?_⟩;exact⟨.non,_,aF9,rfl,q⟩
def DQ:List R->Option (Int×T)
 |[a,b]=>(match a,b with
  |.p (.int i),.p t=>oZ (i,t)
  |_,_=>none)
 |_=>none
theorem O5{i:Int}(h:DQ rs=oZ (i,t)):rs=[.p (.int i),.p t]:=by
 match rs,h with
 |[a,b],h=>
  unfold DQ at h;simp only at h;split at h
  ·cases h;rfl
  ·cases h
def OM(Fo:FE)(Fr:FA):FE:=λE Q=>Fo E λo E1=>o1 (ownOf E1 o) λ_=>Fr E1 λrs E2=>match o with
 |.s j=>(match E2[j]? with
  |some (oZ (.o k xs))=>o1 (DQ rs) λit=>0<=it.1/\it.1<=(xs.length:Int)/\xs.length<9000/\Q (.p .non) (E2.set j (oZ (.o k (xs.take it.1.toNat++it.2::xs.drop it.1.toNat))))
  |_=>False)
 |_=>False
theorem Av(eK:X.K=K)(ho:QE X o (aJ K Fo))(ha:QA X [e1,e2] (dJ K n Fr))(nh:fm o "insert" X.env (dw o X.env)=dw o X.env:=by rfl)(ni:(ap.endLine==pos.line)=true:=by rfl)(hs:bO e1=false:=by rfl)(xg:bO e2=false:=by rfl):
  QE X (.Call (.Attribute o "insert" ap) [e1,e2] [] pos) (aJ K (OM Fo Fr)):=
 QE.le (t:=HG X.K "list" Et (aJ K Fo) (dJ K n Fr)) ⟨Bn PySem.F.plainAttrs_list PySem.F.slot_list_insert PySem.F.type_list_insert Bj ho.h ha.h nh (by rw[cD hs,cD xg];rfl) ni (cD hs) (fO (by simp[bW,xg]))⟩ λσ H Q hl h=>by
  subst eK;obtain⟨B,S,E,Q',⟨τ,hS⟩,re,hF,lk⟩:=h;refine⟨B,S,E,_,⟨τ,hS⟩,re,hF,λoo E1 v H1 S1 q g1 kq rx=>?_⟩;obtain⟨τ1,qg⟩:=g1.pre;obtain⟨va,e0,q⟩:=o1.ex q;obtain⟨j,k,p,vs,rfl,hE,hSj,rfl,h2,h3⟩:=kq.ownOf rx e0;refine⟨.inl ⟨rfl,vs,j5.of h2⟩,B,S1,E1,_,⟨τ++τ1,by rw[qg,hS,TF]⟩,kq,q,λrs E2 us H2 S2 q2 g2 mj rr hn=>?_⟩;have ua:S2[j]?=oZ (oZ (.ref p)):=e9 g2.pre hSj;simp only at q2;split at q2
  ·rename_i k2' xs hE2;obtain⟨⟨i,t⟩,ea,i0,il,hz,q3⟩:=o1.ex q2;obtain rfl:=O5 ea;obtain⟨y,ws,rfl,k1,z,yp,rfl,k2,rfl⟩:=rr;have i0:0<=i:=i0;have il:i<=(xs.length:Int):=il;obtain⟨p',wy,z1,z2,z3,_⟩:=mj.own j k2' xs hE2;rw[ua]at z1;cases z1;have vl:=z3.length;obtain⟨g3,oj⟩:=mj.put (ys:=xs.take i.toNat++t::xs.drop i.toNat) (ws:=wy.take i.toNat++z::wy.drop i.toNat) hE2 ua ((z3.take _).append ⟨z,_,rfl,k2,z3.drop _⟩);cases k1;exact⟨p,wy,i,i.toNat,z,rfl,rfl,⋯,z2,⋯,by rw[vl];exact bZ (UX hz),⋯,lk _ _ _ _ _ q3 ((g1.trans g2).trans g3) oj rfl⟩
  ·exact q2.elim
end
def PR:En->Bool
 |[]=>true
 |some (.o false _)::_=>false
 |_::E=>PR E
section
variable{K:W.Frag}{B:ck->Prop}{H H':Hp}{S S':St}{E E':En}{σ:St}
def tU(E:En):List R->Option (List T×En)
 |[]=>oZ ([],E)
 |.p t::rs=>(tU E rs).map λz=>(t::z.1,z.2)
 |.s i::rs=>match E[i]? with
  |some (↥xs)=>(tU (E.set i (⇑(.lst xs))) rs).map λz=>(.lst xs::z.1,z.2)
  |some (⇑t)=>(tU E rs).map λz=>(t::z.1,z.2)
  |_=>none
theorem oU:∀{rs:List R}{vs:List V}{E:En}{z:List T×En},RE K B H S E->Vh K B H S E rs vs->tU E rs=oZ z->RE K B H S z.2/\(∀b,Ow B S z.2 b->Ow B S E b)/\cP K H (Ow B S z.2) z.1 vs
 |[],vs,E,z,re,h,e=>by cases e;exact⟨re,λb z=>z,h⟩
 |.p t::rs,_,E,z,re,⟨v,ws,e1,h1,h2⟩,e=>by
  cases q:tU E rs with
  |none=>rw[tU,q]at e;cases e
  |some y=>
   rw[tU,q]at e;cases e;obtain⟨r1,r2,r3⟩:=oU re h2 q;exact⟨r1,r2,v,ws,e1,Rp.step (Kp.less r2) h1,r3⟩
 |.s i::rs,_,E,z,re,⟨v,ws,e1,h1,h2⟩,e=>by
  unfold tU at e;split at e
  ·rename_i xs hE;obtain⟨ref,of⟩:=re.frz hE;cases q:tU (E.set i (⇑(.lst xs))) rs with
   |none=>rw[q]at e;cases e
   |some y=>
    rw[q]at e;cases e;have h2':Vh K B H S (E.set i (⇑(.lst xs))) rs ws:=Vh.step ⟨Kp.less λb z=>(of b z).1,[],by simp⟩ h2;obtain⟨r1,r2,r3⟩:=oU ref h2' q;have hi:i<E.length:=(SW.mp hE).1;obtain⟨w,p1,p2⟩:=ref.pure i (.lst xs) (by rw[VA hi]);have h1:S[i]?=oZ (oZ v):=h1;rw[h1]at p1;cases p1;exact⟨r1,λb z=>(of b (r2 b z)).1,v,ws,e1,Rp.step (Kp.less r2) p2,r3⟩
  ·rename_i t hE;cases q:tU E rs with
   |none=>rw[q]at e;cases e
   |some y=>
    rw[q]at e;cases e;obtain⟨r1,r2,r3⟩:=oU re h2 q;obtain⟨w,p1,p2⟩:=re.pure i t hE;have h1:S[i]?=oZ (oZ v):=h1;rw[h1]at p1;cases p1;exact⟨r1,r2,v,ws,e1,Rp.step (Kp.less r2) p2,r3⟩
  ·cases e
end
section
variable{X:Cx}{K:W.Frag}{pos:Pos}{es:List oC}{Fr:FA}
def JB(Fr:FA):FE:=λE Q=>Fr E λrs E1=>o1 (tU E1 rs) λz=>Q (.s z.2.length) (z.2++[↥z.1])
theorem N9(h:QA X es (dJ K n Fr))(hz:n<=9000:=by decide):QE X (.List es pos) (aJ K (JB Fr)):=by
 refine(Mo h).le λσ H Q hl h=>args (Fr:=Fr) h λB S E rs vs H2 Q' hS re rr hn q lk=>⟨by rw[hn];exact UX (bZ hz),λp hp=>?_⟩;obtain⟨z,e,q⟩:=q.ex;obtain⟨kq,ow1,rs1⟩:=oU re rr e;obtain⟨g,km⟩:=kq.lst hp rs1;exact lk _ _ _ _ _ q (Gr.trans ⟨Kp.less ow1,[],by simp⟩ g) km (by rw[<-kq.len];exact kC)
end
section
variable{X:Cx}{e:oC}{es:List oC}{pos:Pos}{K:W.Frag}{Fr:FA}
theorem Ta(hc:X.calm=true):j0 X (.builtin "max") (λxs H Q=>∃a b:Int,xs=[.int a,.int b]/\Q (.int (if a<b then b else a)) H):=by
 intro pins s σ H xs us Q I r h;obtain⟨a,b,rfl,q⟩:=h;obtain⟨u,v,rfl,rx,ry⟩:=bB.two r;obtain⟨t,rfl⟩:=rx;obtain⟨t',rfl⟩:=ry;refine max_two_ints (I.ok.hd hc) λh' tk hk=>?_
 by_cases c:a<b
 ·simp only[oV c]at q⊢;exact⟨.int b,H,I.kept hk,⟨_,rfl⟩,q⟩
 ·simp only[oW c]at q⊢;exact⟨.int a,H,I.kept hk,⟨_,rfl⟩,q⟩
def OR(Fr:FA):FE:=λE Q=>Fr E λrs E1=>match rs with
 |[x,y]=>i2 (vl E1 x) (vl E1 y) λi j=>Q (.p (.int (if i<j then j else i))) E1
 |_=>False
theorem DH(hc:X.calm=true)(hg:Gl X "max")(hm:X.mg "max" = none)(ha:QA X (e::es) (dJ K n Fr))(hs:bW (e::es)=true:=by rfl):QE X (.Call (.Name "max" p) (e::es) [] pos) (aJ K (OR Fr)):=by
 refine(i9 (Ta hc) hg hm boot_max ha ∅ ∅ hs).le λσ H Q hl h=>args (Fr:=Fr) h λB S E rs vs H2 Q' hS re rr hn q lk=>?_
 match rs,rr,q with
 |[x,y],⟨v,ws,e1,h1,u,yp,e2,h2,h3⟩,q=>
  cases h3;subst e2;subst e1;obtain⟨i,j,e3,e4,q⟩:=i2.ex q;exact⟨i,j,by rw[re.int h1 e3,re.int h2 e4],lk _ _ _ _ _ q .refl re rfl⟩
 |[],_,q=>exact q.elim
 |[_],_,q=>exact q.elim
 |_::_::_::_,_,q=>exact q.elim
end
end L2
namespace HT
open PySem PySem.Spec PyProof.Rows
end HT
namespace HT
open PySem PySem.Spec PyProof.Rows
end HT
namespace L2
open PySem PySem.Spec PyProof.Rows
section
variable{X:Cx}{K:W.Frag}{a b e:oC}{te:TE}{st:Option oC}{ts:TO}{pos p2:Pos}{Fa Fb:FE}{G vf Gh:FO}
def RD(Fa:FE)(G:FO):FE:=λE Q=>Fa E λx E1=>G E1 λk E2=>k=oZ (-1)/\match vl E2 x with
 |some (.tup xs)=>Q (.p (.tup xs.reverse)) E2
 |_=>False
def OX(Fa:FE)(vf Gh:FO):FE:=λE Q=>Fa E λx E1=>vf E1 λlo E2=>Gh E2 λhi E3=>match vl E3 x with
 |some (.tup xs)=>¬(HT.sIx xs.length 0 lo=0/\HT.sIx xs.length xs.length hi=xs.length)/\Q (.p (.tup (iC xs lo hi))) E3
 |_=>False
theorem Ts{lo hi:Option oC}(eK:X.K=K)(he:QE X e (aJ K Fa))(hl:QO X lo (sZ K vf))(hu:QO X hi (sZ K Gh)):QE X (.Subscript e (.Slice lo hi none p2) pos) (aJ K (OX Fa vf Gh)):=by
 subst eK;refine(x9 HC he hl hu).le λσ H Q _⟨B,S,E,Q',⟨τ,hS⟩,re,hF,lk⟩=>⟨B,S,E,_,⟨τ,hS⟩,re,hF,λx E1 v H1 S1 q g1 kq rx=>?_⟩;obtain⟨τ1,qg⟩:=g1.pre;refine⟨B,S1,E1,_,⟨τ++τ1,by rw[qg,hS,TF]⟩,kq,q,λl E2 H2 S2 q2 g2 mj=>?_⟩;obtain⟨τ2,hS2⟩:=g2.pre;refine⟨B,S2,E2,_,⟨τ++τ1++τ2,by rw[hS2,qg,hS,TF,TF,TF]⟩,mj,q2,λh E3 H3 S3 q3 g3 oj=>?_⟩;have rx3:=(rx.step g2).step g3;split at q3
 ·rename_i xs e1;obtain⟨a,vs,e2,sq,rs⟩:=oj.vl rx3 e1;obtain⟨nw,q3⟩:=q3;refine⟨a,vs,e2,sq,by rw[rs.length];exact nw,λp hp=>?_⟩;obtain⟨g,km,rp⟩:=oj.tup hp (Wo (lo:=l) (hi:=h) rs);exact lk _ _ _ _ _ q3 (((g1.trans g2).trans g3).trans g) km rp
 ·exact q3.elim
def IY(Fa Fb:FE):FE:=λE Q=>Fa E λx E1=>Fb E1 λy E2=>match vl E2 x,vl E2 y with
 |some (.tup (t::xs)),oZ (.tup (u::ys))=>xs.length+ys.length<=900/\Q (.p (.tup (t::xs++u::ys))) E2
 |some (.tup (_::xs)),oZ (.tup [])=>xs.length<=900/\Q x E2
 |_,_=>False
theorem N6(eK:X.K=K)(ha:QE X a (aJ K Fa))(hb:QE X b (aJ K Fb)):QE X (.BinOp a .Add b pos) (aJ K (IY Fa Fb)):=by
 subst eK;refine(Qs R9 ha hb).le λσ H Q hl h=>two (Fa:=Fa) (Fb:=Fb) h λB S E x y v w H2 Q' hS re rx ry q lk=>?_;split at q
 ·rename_i t xs u ys e1 e2;obtain⟨hz,q⟩:=q;obtain⟨p,vs,rfl,sq,rs⟩:=re.vl rx e1;obtain⟨p',vs',rfl,sq',rs'⟩:=re.vl ry e2;have l1:=rs.length;have l2:=rs'.length;rw[TB]at l1 l2;refine⟨p,p',vs,vs',rfl,rfl,sq,sq',λz=>by rw[z]at l1;simp at l1,UX (bZ ⋯),λz=>by rw[z]at l2;simp at l2,λ_ r hr=>?_⟩;obtain⟨g,km,rp⟩:=re.tup hr (rs.append rs');exact lk _ _ _ _ _ q g km rp
 ·rename_i t xs e1 e2;obtain⟨hz,q⟩:=q;obtain⟨p,vs,rfl,sq,rs⟩:=re.vl rx e1;obtain⟨p',vs',rfl,sq',rs'⟩:=re.vl ry e2;have l1:=rs.length;have l2:=rs'.length;rw[TB]at l1;rw[UR]at l2;exact⟨p,p',vs,vs',rfl,rfl,sq,sq',λz=>by rw[z]at l1;simp at l1,UX (bZ ⋯),λ_=>lk _ _ _ _ _ q .refl re rx,λz=>absurd (ay.mp l2) z⟩
 ·exact q.elim
end
def QR:T->Option Bool
 |.non=>oZ false
 |.bl b=>oZ b
 |.int i=>oZ (i != 0)
 |.lst xs=>oZ (!xs.isEmpty)
 |.tup xs=>oZ (!xs.isEmpty)
 |_=>none
section
variable{X:Cx}{K:W.Frag}{e:oC}{Fa:FE}
def OE(Fa:FE):FB:=λE Q=>Fa E λx E1=>o1 ((vl E1 x).bind QR) λb=>Q b E1
theorem DO(eK:X.K=K)(h:QE X e (aJ K Fa))(he:∀whole,isTrue e X.env whole=(do let v <-whole;standAt e.pos;ig [v] (truthy v)):=by intro _;rfl):QT X e (fY K (OE Fa)):=by
 subst eK;refine QT.le ⟨C0 h.h he⟩ λσ H Q z=>?_;obtain⟨B,S,E,Q',⟨τ,hS⟩,re,hF,lk⟩:=z;refine⟨B,S,E,_,⟨τ,hS⟩,re,hF,λr E1 v H1 S1 q g kq rr=>?_⟩;obtain⟨b,e1,q⟩:=o1.ex q;obtain⟨t,e2,e3⟩:=YL.mp e1;have rt:=kq.vl rr e2;have nl:∀{α β:Type}{xs:List α}{ys:List β},ys.length=xs.length->(!xs.isEmpty) = !ys.isEmpty:=λ{α β xs ys}h=>by
  cases xs<;>cases ys<;>simp at h⊢
 refine⟨b,?_,lk _ _ _ _ q g kq⟩;cases t with
 |non=>cases e3;have:v = .non:=rt;subst this;rfl
 |bl c=>
  have hv:v = .bl c:=rt;have hb:c=b:=Option.some.inj e3;subst hv;subst hb;rfl
 |int i=>cases e3;have:v = .int i:=rt;subst this;rfl
 |str x=>cases e3
 |tup xs=>
  cases e3;obtain⟨p,vs,rfl,sq,rs⟩:=rt;exact .inr (.inl ⟨vs,sq,nl rs.length⟩)
 |lst xs=>
  cases e3;obtain⟨p,vs,rfl,sq,rs⟩:=rt;exact .inl ⟨vs,sq,nl rs.length⟩
end
structure M2(X:Cx)(o:oC)(m:Str)(apos:Pos)(e f:oC)(tq:Pos):Prop where
 base:fm o m X.env (dw o X.env)=dw o X.env
 few:((iw tq (du [e,f] X.env)).all (λx=>!x.1)&&(backToKw tq (keywordEach [] X.env)).all (λx=>x.1.isSome)
 &&decide (([e,f]:List oC).length+([]:List Keyword).length+(if([]:List Keyword).isEmpty then 0 else 1)<30))=true
 line:(apos.endLine==tq.line)=true
 trees:iw tq (du [e,f] X.env)=[(false,dw e X.env),(false,dw f X.env)]
def QY(H:Hp)(a:ck):Prop:=(∃la,Rd H a (.dK la))\/∃la,Rd H a (.dT la)
theorem DR(I:aV X pins σ H s)(d:QY H a):
  s.TypeIs (.ref a) "dict"/\(∀b,VU a = .ref b->∃ob,s.heap.get? b=oZ ob/\ob.dict=none)/\(a==gj)=false:=by
 obtain⟨la,e⟩|⟨la,e⟩:=d
 ·obtain⟨_,hd,vs,_,dd⟩:=IP I.hok e;refine⟨dd.typeIs,λb q=>?_,hd⟩;cases q;obtain⟨ob,_,_,h1,h2,_⟩:=dd;exact⟨ob,h1,h2.2.1⟩
 ·obtain⟨_,hd,xs,_,dd⟩:=Z4 I.hok e;refine⟨dd.typeIs,λb q=>?_,hd⟩;cases q;obtain⟨ob,_,_,h1,h2,_⟩:=dd;exact⟨ob,h1,h2.2.1⟩
def s1(x:Option T)(k:Str->Prop):Prop:=match x with
 |some (.str i)=>k i
 |_=>False
theorem s1.ex{k:Str->Prop}(h:s1 x k):∃i,x=oZ (.str i)/\k i:=by
 unfold s1 at h;split at h
 ·exact⟨_,rfl,h⟩
 ·exact h.elim
def si(x y:Option T)(k:Str->Int->Prop):Prop:=match x,y with
 |some (.str i),oZ (.int j)=>k i j
 |_,_=>False
theorem si.ex{k:Str->Int->Prop}(h:si x y k):∃i j,x=oZ (.str i)/\y=oZ (.int j)/\k i j:=by
 unfold si at h;split at h
 ·exact⟨_,_,rfl,rfl,h⟩
 ·exact h.elim
abbrev big:Nat:=1000000
theorem Wd(h:n<=big):n<=cw:=by rw[jy];unfold big at h;lia
theorem RE.str{K:W.Frag}{B:ck->Prop}{H:Hp}{S:St}{E:En}(re:RE K B H S E){r:R}{v:V}{i:Str}(h:RR K B H S E r v)(e:L2.vl E r=oZ (.str i)):v = .str i:=re.vl h e
section
variable{X:Cx}{K:W.Frag}{pos:Pos}{a b c e o:oC}{es:List oC}{Fa Fb Fc Fo:FE}{Fr:FA}
def OO(Fa Fb:FE):FE:=λE Q=>Fa E λx E1=>Fb E1 λy E2=>si (vl E2 x) (vl E2 y) λi j=>i.length<=big/\o1 (k8 i.cps.toList j) λc=>Q (.p (.str ⟨#[c]⟩)) E2
theorem DF(eK:X.K=K)(ha:QE X a (aJ K Fa))(hb:QE X b (aJ K Fb))(hs:rL b):QE X (.Subscript a b pos) (aJ K (OO Fa Fb)):=by
 subst eK;refine(AW Yj ha hb hs).le λσ H Q hl h=>two (Fa:=Fa) (Fb:=Fb) h λB S E x y v w H2 Q' hS re rx ry q lk=>?_;obtain⟨i,j,e1,e2,c,q⟩:=q.ex;obtain⟨d,e3,q⟩:=o1.ex q;exact .inr (.inr ⟨i,j,d,re.str rx e1,re.int ry e2,Wd c,e3,lk _ _ _ _ _ q .refl re rfl⟩)
end
open Classical in
noncomputable def hide (Z:ck->Prop) (H:Hp):Hp:=λb=>if Z b then none else H b
open Classical in
noncomputable def back (Z:ck->Prop) (H H':Hp):Hp:=λb=>if Z b then H b else H' b
theorem kU{Z:ck->Prop}(h:Z b):hide Z H b=none:=oV h
theorem cJ{Z:ck->Prop}(h:¬Z b):hide Z H b=H b:=oW h
theorem lD{Z:ck->Prop}(h:H b=none):hide Z H b=none:=by unfold hide;split<;>first|rfl|exact h
theorem dD{Z:ck->Prop}(h:hide Z H b=oZ o):¬Z b/\H b=oZ o:=by
 unfold hide at h;split at h
 ·cases h
 ·rename_i n;exact⟨n,h⟩
theorem j6{Z:ck->Prop}(h:Z b):back Z H H' b=H b:=oV h
theorem dS{Z:ck->Prop}(h:¬Z b):back Z H H' b=H' b:=oW h
section
variable{X:Cx}{pins:List (ck×Obj)}{σ:St}{H H':Hp}{s s':oB}
def Sq:HO->Prop
 |.lst _=>True
 |.dT _=>True
 |.dK _=>True
 |_=>False
theorem Sq.obj(hk:Sq o)(k:eY P w H h a o):∃ob,h.get? a=oZ ob/\(∀v,ob.data≠.cell v):=by
 cases o with
 |lst xs=>obtain⟨_,jz,n,_,e⟩:=k;exact⟨_,e,λv z=>by cases z⟩
 |dT la=>obtain⟨_,_,xs,_,ob,es,ep,e,_,d,_⟩:=k;exact⟨_,e,λv z=>by rw[d]at z;cases z⟩
 |dK la=>obtain⟨_,_,xs,_,ob,es,ep,e,_,d,_⟩:=k;exact⟨_,e,λv z=>by rw[d]at z;cases z⟩
 |_=>exact hk.elim
def lW(h:oE)(Z:List ck):List (ck×Obj):=Z.filterMap λc=>(h.get? c).map λo=>(c,o)
theorem Mb(m:p∈lW h Z):p.1∈Z/\h.get? p.1=oZ p.2:=by
 obtain⟨c,mc,e⟩:=YG.mp m;cases q:h.get? c with
 |none=>rw[q]at e;cases e
 |some o=>rw[q]at e;cases e;exact⟨mc,q⟩
theorem Ud(m:c∈Z)(e:h.get? c=oZ o):(c,o)∈lW h Z:=YG.mpr ⟨c,m,by rw[e];rfl⟩
theorem aV.frame_none(I:aV X pins σ H s)(h:b∈X.fs):H b=none:=by
 obtain⟨_,o,ho,_⟩:=I.ok.funs.mem h;exact I.base.free b o ho (I.ok.frf b h) λx=>I.ok.exfs b x h
theorem aV.hide(I:aV X pins σ H s)(hZ:∀c∈Z,∃o,H c=oZ o/\Sq o):aV X (pins++lW s.heap Z) σ (L2.hide (·∈Z) H) s:=by
 have nl:∀{b:ck}{o:HO},H b=oZ o->¬Sq o->¬b∈Z:=λ{b o}h n z=>by
  obtain⟨o',e,k⟩:=hZ b z;rw[h]at e;cases e;exact n k
 refine⟨I.ok,I.os,I.bare,⟨I.base.keep,I.base.slot,λb o q n x=>lD (I.base.free b o q n x),I.base.there,λb xs q=>?_,λb o u q=>?_,λb ps q=>?_⟩,I.loc,I.cell,lD I.free,λx c q=>lD (I.freeC x c q),λp m=>?_,λa o e=>?_,I.len⟩
 ·have:=I.base.tups b xs q;rw[cJ (nl this λz=>z)];exact this
 ·have:=I.base.frzs b o u q;rw[cJ (nl this λz=>z)];exact this
 ·obtain⟨more,this⟩:=I.base.tbls b ps q;exact⟨more,by rw[cJ (nl this λz=>z)];exact this⟩
 ·rw[<-TF]at m;obtain m|m:=TY.mp m
  ·obtain⟨h1,h2,h3⟩:=I.pin p m;exact⟨h1,lD h2,h3⟩
  ·obtain⟨mz,e⟩:=Mb m;obtain⟨o,eo,k⟩:=hZ p.1 mz;obtain⟨ob,e2,dc⟩:=k.obj (I.hok p.1 o eo);rw[e]at e2;cases e2;refine⟨e,kU mz,λc=>?_,λc=>?_,dc⟩
   ·rw[c,I.free]at eo;cases eo
   ·have hn:=I.frame_none c;rw[hn]at eo;cases eo
 ·obtain⟨n,e⟩:=dD e;exact(I.hok a o e).stay (λ_ _ _ q=>q) (λb q=>by rw[cJ (nl q λz=>z)];exact q) (λb xs q=>by rw[cJ (nl q λz=>z)];exact q)
theorem aV.back(I:aV X pins σ H s)(hZ:∀c∈Z,∃o,H c=oZ o/\Sq o)(I1:aV X (pins++lW s.heap Z) σ' H1 s')(ht:∀b xs,H b=oZ (.tup xs)->H1 b=oZ (.tup xs)):aV X pins σ' (L2.back (·∈Z) H H1) s'/\∀c∈Z,H1 c=none:=by
 have pin:∀c∈Z,∃ob,s.heap.get? c=oZ ob/\s'.heap.get? c=oZ ob/\H1 c=none:=λc m=>by
  obtain⟨o,eo,k⟩:=hZ c m;obtain⟨ob,e,_⟩:=k.obj (I.hok c o eo);obtain⟨h1,h2,_⟩:=I1.pin (c,ob) (by rw[<-TF];exact TY.mpr (.inr (Ud m e)));exact⟨ob,e,h1,h2⟩
 have gone:∀c∈Z,H1 c=none:=λc m=>let⟨_,_,_,h⟩:=pin c m;h;have vis:∀{b:ck}{o:HO},H1 b=oZ o->¬b∈Z:=λ{b o}h m=>by rw[gone b m]at h;cases h
 refine⟨⟨I1.ok,I1.os,I1.bare,⟨I1.base.keep,I1.base.slot,λb o q n x=>?_,I1.base.there,λb xs q=>?_,λb o u q=>?_,λb ps q=>?_⟩,I1.loc,I1.cell,?_,λx c q=>?_,λp m=>?_,λa o e=>?_,I1.len⟩,gone⟩
 ·by_cases z:b∈Z
  ·rw[j6 z];exact I.base.free b o q n x
  ·rw[dS z];exact I1.base.free b o q n x
 ·have:=I1.base.tups b xs q;rw[dS (vis this)];exact this
 ·have:=I1.base.frzs b o u q;rw[dS (vis this)];exact this
 ·obtain⟨more,this⟩:=I1.base.tbls b ps q;exact⟨more,by rw[dS (vis this)];exact this⟩
 ·by_cases z:X.env.locals∈Z
  ·rw[j6 z];exact I.free
  ·rw[dS z];exact I1.free
 ·by_cases z:c∈Z
  ·rw[j6 z];exact I.freeC x c q
  ·rw[dS z];exact I1.freeC x c q
 ·obtain⟨h1,h2,h3⟩:=I1.pin p (by rw[<-TF];exact TY.mpr (.inl m));refine⟨h1,?_,h3⟩
  by_cases z:p.1∈Z
  ·rw[j6 z];exact(I.pin p m).2.1
  ·rw[dS z];exact h2
 ·by_cases z:a∈Z
  ·rw[j6 z]at e;obtain⟨o',eo,k⟩:=hZ a z;rw[e]at eo;cases eo;obtain⟨ob,g1,g2,_⟩:=pin a z;have hk:=I.hok a o e;cases o with
   |lst xs=>
    obtain⟨y,jz,n,r,g⟩:=hk;rw[g1]at g;cases g;exact⟨y,jz,n,r,g2⟩
   |dT la=>
    obtain⟨y,ys,xs,r,ob',es,ep,g,c⟩:=hk;rw[g1]at g;cases g;refine⟨y,ys,xs,Paired.mapP r λp q z=>⟨z.1,?_,z.2.2⟩,ob,es,ep,g2,c⟩;have t1:=ht _ _ z.2.1;rw[dS (vis t1)];exact t1
   |dK la=>
    obtain⟨y,ys,xs,r,ob',es,ep,g,c⟩:=hk;rw[g1]at g;cases g;exact⟨y,ys,xs,r,ob,es,ep,g2,c⟩
   |_=>exact k.elim
  ·rw[dS z]at e;exact(I1.hok a o e).stay (λ_ _ _ q=>q) (λb q=>by rw[dS (vis q)];exact q) (λb xs q=>by rw[dS (vis q)];exact q)
def pV.fr(D:pV)(Z:List ck)(H:Hp):pV where
 nx:=λσ H1=>(∀b xs,H b=oZ (.tup xs)->H1 b=oZ (.tup xs))/\((∀c∈Z,H1 c=none)->D.nx σ (L2.back (·∈Z) H H1))
 rt:=λv H1=>(∀b xs,H b=oZ (.tup xs)->H1 b=oZ (.tup xs))/\((∀c∈Z,H1 c=none)->D.rt v (L2.back (·∈Z) H H1))
 bk:=λσ H1=>(∀b xs,H b=oZ (.tup xs)->H1 b=oZ (.tup xs))/\((∀c∈Z,H1 c=none)->D.bk σ (L2.back (·∈Z) H H1))
 ct:=λσ H1=>(∀b xs,H b=oZ (.tup xs)->H1 b=oZ (.tup xs))/\((∀c∈Z,H1 c=none)->D.ct σ (L2.back (·∈Z) H H1))
def OZ(t:TS):TS:=λD σ H=>∃Z:List ck,(∀c∈Z,∃o,H c=oZ o/\Sq o)/\t (D.fr Z H) σ (L2.hide (·∈Z) H)
theorem SP.back(I:aV X pins σ H s)(hZ:∀c∈Z,∃o,H c=oZ o/\Sq o)(h:SP X (pins++lW s.heap Z) (D.fr Z H) f s'):SP X pins D f s':=by
 cases f with
 |next=>
  obtain⟨σ',H1,I1,ht,q⟩:=h;obtain⟨I2,g⟩:=I.back hZ I1 ht;exact⟨σ',_,I2,q g⟩
 |brk=>
  obtain⟨σ',H1,I1,ht,q⟩:=h;obtain⟨I2,g⟩:=I.back hZ I1 ht;exact⟨σ',_,I2,q g⟩
 |cont=>
  obtain⟨σ',H1,I1,ht,q⟩:=h;obtain⟨I2,g⟩:=I.back hZ I1 ht;exact⟨σ',_,I2,q g⟩
 |ret u=>
  obtain⟨v,σ',H1,I1,rv,ht,q⟩:=h;obtain⟨I2,g⟩:=I.back hZ I1 ht;exact⟨v,σ',_,I2,rv,q g⟩
theorem QS.frame{st:dh}{t:TS}(h:QS X st t):QS X st (OZ t):=⟨λpins s σ H D I zZ=>by obtain⟨Z,hZ,q⟩:=zZ;exact dZ (h.h (pins++lW s.heap Z) s σ _ _ (I.hide hZ) q) λf s' z=>SP.back I hZ z⟩
theorem QB.frame{st:List dh}(h:QB X st t):QB X st (OZ t):=⟨λpins s σ H D I zZ=>by obtain⟨Z,hZ,q⟩:=zZ;exact dZ (h.h (pins++lW s.heap Z) s σ _ _ (I.hide hZ) q) λf s' z=>SP.back I hZ z⟩
def RZ(t:TE):TE:=λσ H Q=>∃Z:List ck,(∀c∈Z,∃o,H c=oZ o/\Sq o)/\t σ (L2.hide (·∈Z) H) λv H1=>(∀b xs,H b=oZ (.tup xs)->H1 b=oZ (.tup xs))/\((∀c∈Z,H1 c=none)->Q v (L2.back (·∈Z) H H1))
theorem QE.frame(h:QE X e t):QE X e (RZ t):=⟨λpins s σ H Q I⟨Z,hZ,q⟩=>dZ (h.h (pins++lW s.heap Z) s σ _ _ (I.hide hZ) q) λu s' zZ=>by
  obtain⟨v,H1,I1,rv,ht,q⟩:=zZ;obtain⟨I2,g⟩:=I.back hZ I1 ht;exact⟨v,_,I2,rv,q g⟩⟩
end
def Kn(I:List Nat)(σ' σ:St):Prop:=∀i∈I,σ'[i]?= σ[i]?
theorem Kn.refl:Kn I σ σ:=λ_ _=>rfl
theorem Kn.trans(a:Kn I σ1 σ2)(b:Kn I σ2 σ3):Kn I σ1 σ3:=λi h=>(a i h).trans (b i h)
theorem Kn.set(h:j∉I):Kn I (σ.set j x) σ:=λi m=>UK (show j≠i fromλe=>h (e.symm ▸ m))
def pV.kp(D:pV)(i:List Nat)(σ:St):pV where
 nx:=λσ' H'=>Kn i σ' σ->D.nx σ' H'
 rt:=D.rt
 bk:=λσ' H'=>Kn i σ' σ->D.bk σ' H'
 ct:=λσ' H'=>Kn i σ' σ->D.ct σ' H'
def lM(i:List Nat)(K:W.Frag)(F:FS):TS:=λD σ H=>iO K F (D.kp i σ) σ H
def Jw(i:List Nat)(K:W.Frag)(g:FG):TG:=λv σ H Q=>pJ K g v σ H λσ' H'=>Kn i σ' σ->Q σ' H'
def Gg(i:List Nat)(K:W.Frag)(g:Vo):M3:=λv σ H Q=>yO K g v σ H λσ' H'=>Kn i σ' σ->Q σ' H'
theorem LS.kp{K:W.Frag}{B:ck->Prop}{H:Hp}{σ σ':St}{E:En}{DT:ET}{D:pV}{i:List Nat}(l:LS K B H σ' E DT (D.kp i σ))(h:Kn i σ' σ):LS K B H σ' E DT (D.kp i σ'):=
 ⟨λa b c d e f k=>l.nx a b c d e f (k.trans h),l.rt,λa b c d e f k=>l.bk a b c d e f (k.trans h),λa b c d e f k=>l.ct a b c d e f (k.trans h)⟩
theorem Dv{X:Cx}{K:W.Frag}{st:dh}{uy:List dh}{F:FS}{G:FS}{i:List Nat}(h1:QS X st (lM i K F))(h2:QB X uy (lM i K G)):QB X (st::uy) (lM i K (LX F G)):=
 (sQ h1 h2).le λD σ H zZ=>by obtain⟨B,E,DT,re,hF,l⟩:=zZ;exact⟨B,E,_,re,hF,⟨λσ' H' E' hG g km hk=>⟨B,E',DT,km,iJ hG,(l.step g).kp hk⟩,l.rt,l.bk,l.ct⟩⟩
theorem Yk{X:Cx}{K:W.Frag}{st:dh}{F:FS}{i:List Nat}(h1:QS X st (lM i K F)):QB X [st] (lM i K F):=Mn h1
theorem ED{X:Cx}{K:W.Frag}{Fa:FE}{e:oC}{pos:Pos}{i:List Nat}(h:QE X e (aJ K Fa)):QS X (.Return (oZ e) pos) (lM i K (LW Fa)):=
 (C5 h).le λD σ H hl zZ=>by obtain⟨B,E,DT,re,hF,l⟩:=zZ;exact⟨B,σ,E,_,⟨[],by simp⟩,re,hF,λr E' v H' S' q g km rr=>l.rt r E' v H' S' q g.kp km rr⟩
def LO:FS:=λD E=>D.ct E
theorem Pl{X:Cx}{K:W.Frag}{pos:Pos}:QS X (.Continue pos) (iO K LO):=QS.le (t:=BE) ⟨Jk⟩ λD σ H hl zZ=>by obtain⟨B,E,DT,re,hF,l⟩:=zZ;exact l.ct _ _ _ hF (Kp.refl _ _) re
theorem Qc{X:Cx}{K:W.Frag}{Fa:FE}{e:oC}{pos:Pos}{i:List Nat}(he:QE X e (aJ K Fa))(hs:fo e none pos.line X.env=pure false:=by rfl):QS X (.Expr e pos) (lM i K (AX Fa)):=
 (Qu he hs).le λD σ H hl zZ=>by obtain⟨B,E,DT,re,hF,l⟩:=zZ;exact Kz (P:=λ_ _ E'=>DT.nx E') re hF λr E' v H' S' q g km rr mj ow=>l.nx _ _ _ q (g.kp.trans (Kp.less ow)) mj Kn.refl
theorem Dw{X:Cx}{K:W.Frag}{Fa:FE}{e:oC}{pos:Pos}{i:List Nat}{j:Nat}{x:Str}{pos':Pos}(hN:X.N.Nodup)(hi:X.N[j]?=oZ x)(hx:y8 X.env.scope x)(he:QE X e (aJ K Fa))(ui:j∉i)(hs:fo e (oZ (.Name x pos')) pos.line X.env=pure false:=by rfl)(hf:X.fn x=true\/X.env.scope.names.lookup x=oZ .local:=by first|exact .inl rfl|exact .inr rfl|assumption):QS X (.Assign [.Name x pos'] e pos) (lM i K (D3 j Fa)):=
 (Er hN hi hx he hs hf).le λD σ H hl⟨B,E,DT,re,hF,l⟩=>⟨B,σ,E,_,⟨[],by simp⟩,re,hF,λr E' v H' S' q g km rr=>by
  obtain⟨u,e1,q⟩:=q.ex;rw[<-re.len]at e1 q;obtain⟨r1,ow⟩:=lY (i:=j) km g.pre rr e1;exact l.nx _ _ _ q (g.kp.trans (Kp.less ow)) r1 (Kn.set ui)⟩
theorem wA{X:Cx}{K:W.Frag}{pos:Pos}{i:List Nat}{j:Nat}{x:Str}(hN:X.N.Nodup)(hi:X.N[j]?=oZ x)(hx:y8 X.env.scope x)(ui:j∉i)(hf:X.fn x=true\/X.env.scope.names.lookup x=oZ .local:=by first|exact .inl rfl|exact .inr rfl|assumption):QG X (.Name x pos) (Jw i K (Ih j)):=
 (sR hN hi hx hf).le λv σ H Q hl zZ=>by
  obtain⟨B,τ,E,u,Q',re,rp,hF,l⟩:=zZ;have pj:j<σ.length:=by rw[hl];exact(SW.mp hi).1
  obtain⟨r1,ow⟩:=re.setP (i:=j) rp;rw[YY _ _ pj]at r1 ow;exact l _ _ _ hF (Kp.less ow) r1 (by simp) (Kn.set ui)
theorem Qa{X:Cx}{K:W.Frag}{i:List Nat}:Km X [] (Gg i K JR):=Ep.le λvs σ H Q zZ=>by
 obtain⟨B,τ,E,ts,Q',re,rp,hF,l⟩:=zZ;cases ts with
 |nil=>exact⟨rp,l _ _ _ hF (Kp.refl _ _) re rfl Kn.refl⟩
 |cons _ _=>exact hF.elim
theorem sH{X:Cx}{K:W.Frag}{e:oC}{i:List Nat}{g:FG}{es:List oC}{gs:Vo}(h1:QG X e (Jw i K g))(h2:Km X es (Gg i K gs))(hs:(dq (e::es) X.env).map (·.2)=ic e X.env::(dq es X.env).map (·.2):=by rfl):Km X (e::es) (Gg i K (AK g gs)):=
 (sS h1 h2 hs).le λvs σ H Q zZ=>by
  obtain⟨B,τ,E,ts,Q',re,rp,hF,l⟩:=zZ;cases ts with
  |nil=>exact hF.elim
  |cons t ts=>
   obtain⟨v,r,e1,h1,h2⟩:=rp;exact⟨v,r,e1,B,τ,E,t,_,re,h1,hF,λσ' H' E' q g km hl hk=>⟨B,τ,E',ts,Q',km,h2.step g,q,λσ2 H2 E2 q2 g2 mj hl2 hk2=>l _ _ _ q2 (g.trans g2) mj (hl2.trans hl) (hk2.trans hk)⟩⟩
theorem Ym{X:Cx}{K:W.Frag}{pos:Pos}{i:List Nat}{k n:Nat}{es:List oC}{gs:Vo}(eK:X.K=K)(hc:X.calm=true)(h:Km X es (Gg i K gs))(hn:(dq es X.env).length=n:=by rfl)(xb:(dq es X.env).findIdx? (·.1)=none:=by rfl):QG X (.Tuple es k pos) (Jw i K (JS n gs)):=by
 subst eK;refine(Mq hc h hn xb).le λv σ H Q hl zZ=>?_;obtain⟨B,τ,E,t,Q',re,rp,hF,l⟩:=zZ;cases t with
 |tup ts=>
  have uz:cond (ZJ ts.length n) (gs ts E Q') False:=hF;cases q:ZJ ts.length n with
  |false=>rw[q]at uz;exact uz.elim
  |true=>
   rw[q]at uz;obtain⟨a,vs,rfl,sq,rs⟩:=rp.sqT;exact⟨a,vs,rfl,sq,by rw[rs.length];exact YU q,B,τ,E,ts,Q',re,rs,uz,l⟩
 |_=>exact hF.elim
theorem EC{X:Cx}{K:W.Frag}{body:List dh}{F:FS}{pos:Pos}{i:List Nat}{g:FG}{tg iter:oC}{I:FI}(hp:PassesOwn (df X.prog X.w) X.A X.env X.xe)(hc:X.calm=true)(hi:QI X tg iter (kL K I))(hg:QG X tg (Jw i K g))(hb:QB X body (lM i K F))(hs:∀x,dr iter X.env x=pure x:=by intro _;rfl):
  QS X (.For tg iter body [] pos) (lM i K (LP I g F)):=by
 refine(Mr hp hc hi hg hb hs).le λD σ H hl zZ=>?_;obtain⟨B,E,DT,re,hF,l⟩:=zZ;refine⟨B,σ,E,_,⟨[],by simp⟩,re,hF,λJ items us E1 H1 S1 gd q g1 kq ok _ hgd=>?_⟩;obtain⟨E2,e2,q⟩:=q.ex;replace q:=iJ q;obtain⟨f1,f2,f3,f4⟩:=Dn kq e2;obtain⟨c1,c2⟩:=f1.cut (E:=E) g1.pre re.len;have gs:Gs B H σ E H1 σ (E2.take E.length):=g1.kp.trans ((Kp.less f2).trans (Kp.less c2));have gd1:gd H1 (Ow B σ (E2.take E.length)):=hgd _ (λb z=>f2 b (c2 b z)) λj hj a ha z=>f3 j hj a ha (c2 a z);refine⟨λn m σ' H'=>m=items.length-n/\n<=items.length/\Kn i σ' σ/\∃E',dU g F DT (items.drop n) E'/\Gs B H σ E H' σ' E'/\RE K B H' σ' E'/\gd H' (Ow B σ' E'),⟨_,rfl,VZ _,Kn.refl,_,q,gs,c1,gd1⟩,?_⟩;rintro n m σ2 H2 ⟨rfl,hi',hk2,E3,q3,g3,oj,yc⟩;obtain pj|hge:=WR n items.length
 ·have hd:items.drop n=items[n]::items.drop (n+1):=VT pj;rw[hd]at q3;refine .inr ⟨ok.go n H2 _ yc pj,λσ' H'=>Kn i σ' σ/\∃E',dU g F DT (items.drop (n+1)) E'/\Gs B H σ E H' σ' E'/\RE K B H' σ' E'/\gd H' (Ow B σ' E'),λσ' H' zZ=>by obtain⟨hk,E',z⟩:=zZ;exact⟨items.length-(n+1),by omega,rfl,pj,hk,E',z⟩,λx H4 y=>?_⟩;obtain⟨k4,s4,rp⟩:=ok.yld n H2 _ x H4 _ yc (SX pj) (λa z=>by obtain⟨vs,e⟩:=oj.ow z;rw[e];intro z;cases z) y;have yi:=oj.kept s4;have gd4:=ok.keep _ _ _ _ k4 yc;refine⟨B,[],E3,_,_,by rw[UH];exact yi,by rw[UH];exact rp,q3,λσ5 H5 E5 q5 g5 ux hl5 hk5=>?_⟩;rw[UH]at g5 ux;rw[UH]at g5;have gd5:=ok.keep _ _ _ _ g5 gd4;have gg:=(g3.trans k4).trans g5;have l5:=l.step gg;have h5:=hk5.trans hk2;refine⟨B,E5,_,ux,iJ q5,?_⟩;exact⟨λσ' H' E' z g km hk=>⟨hk.trans h5,E',z,gg.trans g,km,ok.keep _ _ _ _ g gd5⟩,l5.rt,λσ' H' E' z g km hk=>l5.nx _ _ _ z g km (hk.trans h5),λσ' H' E' z g km hk=>⟨hk.trans h5,E',z,gg.trans g,km,ok.keep _ _ _ _ g gd5⟩⟩
 ·have ei:n=items.length:=by omega
  subst ei;rw[WV]at q3;exact .inl ⟨ok.stop H2 _ yc,l.nx _ _ _ q3 g3 oj hk2⟩
section
variable{X:Cx}{K:W.Frag}{pos ap:Pos}{e o:oC}{es:List oC}{Fo:FE}{Fr:FA}{name:Str}{id:String}
def JC(G:Str->R->En->(R->En->Prop)->Prop)(Fo:FE)(Fr:FA):FE:=λE Q=>Fo E λx E1=>s1 (vl E1 x) λi=>Fr E1 λrs E2=>match rs with
 |[y]=>G i y E2 Q
 |_=>False
theorem DL{G:Str->R->En->(R->En->Prop)->Prop}{r:V->List V->Hp->VK->Prop}(slot:Slot "str" name id)(hty:typeOf (.builtin id)=pure (.type "method_descriptor"))(hm:NG X id r)(k:∀B S E i y w H2 Q' Q,RE K B H2 S E->RR K B H2 S E y w->G i y E Q'->Lk K B H2 S E Q' Q->r (.str i) [w] H2 Q)(ho:QE X o (aJ K Fo))(ha:QA X [e] (dJ K n Fr))(nh:fm o name X.env (dw o X.env)=dw o X.env:=by rfl)(ni:(ap.endLine==pos.line)=true:=by rfl)(hs:bO e=false:=by rfl):
  QE X (.Call (.Attribute o name ap) [e] [] pos) (aJ K (JC G Fo Fr)):=by
 refine QE.le ⟨Bn PySem.F.plainAttrs_str slot hty hm ho.h ha.h nh (by rw[cD hs];rfl) ni (cD hs) (fO rfl)⟩ λσ H Q hl h=>one (Fa:=Fo) h λB S E x v H2 Q' hS re rx q lk=>?_;obtain⟨i,e1,q⟩:=q.ex;have ev:=re.str rx e1;subst ev;refine⟨rfl,B,S,E,_,hS,re,q,λrs E2 vs H3 S3 q3 g oj rr hn=>?_⟩
 match rs,rr,q3 with
 |[y],⟨w,ws,e2,h1,h2⟩,q3=>
  cases h2;subst e2;exact k B S3 E2 i y w H3 Q' Q oj h1 q3 (lk.step g)
 |[],_,q=>exact q.elim
 |_::_::_,_,q=>exact q.elim
def mV(l:List Str):List T:=l.map T.str
def mM:List T->Option (List Str)
 |[]=>oZ []
 |.str x::r=>(mM r).map (x::·)
 |_=>none
theorem Bw:∀{xs:List T}{l:List Str},mM xs=oZ l->xs=mV l
 |[],_,h=>by cases h;rfl
 |.str x::r,l,h=>by
  cases q:mM r with
  |none=>rw[mM,q]at h;cases h
  |some m=>
   rw[mM,q]at h;cases h;rw[Bw q];rfl
 |.non::_,_,h=>by cases h
 |.bl _::_,_,h=>by cases h
 |.int _::_,_,h=>by cases h
 |.tup _::_,_,h=>by cases h
 |.lst _::_,_,h=>by cases h
theorem Ka:∀l:List Str,mM (mV l)=oZ l
 |[]=>rfl
 |x::l=>by show(mM (mV l)).map (x::·)=_;rw[Ka l];rfl
def Z9(i:Str)(y:R)(E:En)(Q:R->En->Prop):Prop:=match vl E y with
 |some (.lst xs)=>o1 (mM xs) λl=>JoinOk i l=true/\∀z,z=Txt.join i l->Q (.p (.str z)) E
 |_=>False
theorem By:∀{l:List Str}{us:List oA},bB (l.map V.str) us->∃m:List (Str×Tok),us=strValues m/\m.map (·.1)=l
 |[],us,h=>by cases h;exact⟨[],rfl,rfl⟩
 |x::l,us,h=>by
  cases h with
  |cons h1 h2=>
   obtain⟨t,rfl⟩:=h1;obtain⟨m,rfl,e⟩:=By h2;exact⟨(x,t)::m,rfl,by rw[TH,e]⟩
theorem Jo{O:ck->Prop}:∀{l:List Str}{vs:List V},cP K H O (mV l) vs->vs=l.map V.str
 |[],_,h=>h
 |x::l,_,⟨v,r,e,h1,h2⟩=>by
  have h1:v = .str x:=h1;rw[e,h1,Jo h2];rfl
theorem P6:NG X "str.join" (λx vs H Q=>∃i a l,x = .str i/\vs=[.ref a]/\j5 X.K H a (l.map V.str)/\JoinOk i l=true/\Q (.str (Txt.join i l)) H):=by
 intro pins s σ H x vs v us Q I rx rv h;obtain⟨i,a,l,rfl,rfl,sq,hj,q⟩:=h;obtain⟨t,rfl⟩:=rx;obtain⟨u,rfl,ry⟩:=Cd rv;cases ry;obtain⟨jz,r,pl,hz⟩:=I.list sq;obtain⟨m,rfl,e⟩:=By r;exact SC.join pl.isList e hj λt' k=>⟨.str _,H,I.tok _,⟨_,rfl⟩,q⟩
theorem N8(eK:X.K=K)(ho:QE X o (aJ K Fo))(ha:QA X [e] (dJ K n Fr))(nh:fm o "join" X.env (dw o X.env)=dw o X.env:=by rfl)(ni:(ap.endLine==pos.line)=true:=by rfl)(hs:bO e=false:=by rfl):QE X (.Call (.Attribute o "join" ap) [e] [] pos) (aJ K (JC Z9 Fo Fr)):=by
 subst eK;refine DL PySem.F.slot_str_join PySem.F.type_str_join P6 (λB S E i y w H2 Q' Q re rr q lk=>?_) ho ha nh ni hs;unfold Z9 at q;split at q
 ·rename_i xs e1;obtain⟨l,e2,c,q⟩:=o1.ex q;rw[Bw e2]at e1;obtain⟨a,vs,rfl,sq,rs⟩:=re.vl rr e1;rw[Jo rs]at sq;exact⟨i,a,l,rfl,rfl,sq,c,lk _ _ _ _ _ (q _ rfl) .refl re rfl⟩
 ·exact q.elim
end
section
variable{X:Cx}{K:W.Frag}{pos:Pos}{a b c e o:oC}{es:List oC}{Fa Fb Fc Fo:FE}{Fr:FA}{vf Gh G:FO}
def QJ:V->Option Int->Option Int->Hp->VK->Prop:=λx lo hi H Q=>∃z,x = .str z/\z.length<=cw/\Q (.str (YH z lo hi)) H
theorem Qn{o:Option Int}(p:IsPart v o):∃q:Option (Int×Tok),v=partValue q/\q.map (·.1)=o:=by
 cases p with
 |none=>exact⟨none,rfl,rfl⟩
 |int i t=>exact⟨oZ (i,t),rfl,rfl⟩
theorem HB:IC X QJ:=by
 intro pins s σ H x v vl vu lo hi sl Q I rx hs pl pu h;obtain⟨z,rfl,hz,q⟩:=h;obtain⟨t,rfl⟩:=rx;obtain⟨l,rfl,el⟩:=Qn pl;obtain⟨u,rfl,eu⟩:=Qn pu;refine⟨"str",_,PySem.F.slot_str_getitem.lookup,typeIs_str _ _ _,wpAny_getItem_str_slice (l:=l) (u:=u) (st:=none) hs rfl ?_⟩;have e:(sliceMade z t l u none)=if((1:Int)==1&&(Builtin.Str.strSliceIndices lo hi 1 z.length).length==z.length)=true then .val (.str z t)else .str ⟨((Builtin.Str.strSliceIndices lo hi 1 z.length).filterMap (z.cps[·]?)).toArray⟩:=by
  subst el;subst eu;rfl
 rw[e];exact post_val_or_str ⟨VE (Txt.slice_le z lo hi) hz,λt' k=>⟨.str _,H,I.tok _,⟨_,rfl⟩,q⟩⟩
def OW(Fa:FE)(vf Gh:FO):FE:=λE Q=>Fa E λx E1=>s1 (vl E1 x) λz=>vf E1 λlo E2=>Gh E2 λhi E3=>z.length<=big/\∀y,y=YH z lo hi->Q (.p (.str y)) E3
theorem Tr{lo hi:Option oC}(he:QE X e (aJ K Fa))(hl:QO X lo (sZ K vf))(hu:QO X hi (sZ K Gh)):QE X (.Subscript e (.Slice lo hi none p2) pos) (aJ K (OW Fa vf Gh)):=by
 refine(x9 HB he hl hu).le λσ H Q _⟨B,S,E,Q',⟨τ,hS⟩,re,hF,lk⟩=>⟨B,S,E,_,⟨τ,hS⟩,re,hF,λx E1 v H1 S1 q g1 kq rx=>?_⟩;obtain⟨z,ez,q⟩:=s1.ex q;have ev:=kq.str rx ez;obtain⟨τ1,qg⟩:=g1.pre;refine⟨B,S1,E1,_,⟨τ++τ1,by rw[qg,hS,TF]⟩,kq,q,λl E2 H2 S2 q2 g2 mj=>?_⟩;obtain⟨τ2,hS2⟩:=g2.pre;refine⟨B,S2,E2,_,⟨τ++τ1++τ2,by rw[hS2,qg,hS,TF,TF,TF]⟩,mj,q2,λh E3 H3 S3 q3 g3 oj=>?_⟩;exact⟨z,ev,Wd q3.1,lk _ _ _ _ _ (q3.2 _ rfl) ((g1.trans g2).trans g3) oj rfl⟩
end
end L2
namespace L2
open PySem PySem.Spec PySem.W PySem.Calls PyProof.Rows PySem.Builtin.ObjectAttr
end L2
namespace L2
open PySem PySem.Spec PySem.W PySem.Calls PyProof.Rows PySem.Builtin.ObjectAttr
end L2
namespace L2
open PySem PySem.Spec PySem.W PySem.Calls PyProof.Rows PySem.Builtin.ObjectAttr
end L2
namespace L2
open PySem PySem.Spec PySem.W PySem.Calls PyProof.Rows PySem.Builtin.ObjectAttr
end L2
namespace L2
open PySem PySem.Spec PySem.W PySem.Calls PyProof.Rows PySem.Builtin.ObjectAttr
variable{cb:Bool}
end L2
namespace L2
open PySem PySem.Spec PySem.W PySem.Calls PyProof.Rows PySem.Builtin.ObjectAttr
end L2
namespace L2
open PySem PySem.Spec PySem.W PySem.Calls PyProof.Rows PySem.Builtin.ObjectAttr
end L2
namespace L2
open PySem PySem.Spec PySem.NumText PyProof.Rows
end L2
namespace L2
open PySem PySem.Spec PySem.NumText PyProof.Rows
structure Kr(mg:Str->Option oA)(x:Str)(i:Int):Prop where
 ex:∃t,mg x=oZ (.int i t)
theorem Ib{X:Cx}{K:W.Frag}{x:Str}{i:Int}{pos:Pos}(hg:Gl X x)(c:Kr X.mg x i)(hd:(x==("__debug__":Str))=false:=by decide):QE X (.Name x pos) (aJ K (fC (.int i))):=by
 obtain⟨t,h⟩:=c.ex;exact Xd ⟨Qo (v:=.int i) hg h ⟨t,rfl⟩ hd⟩ λ_ _ _=>rfl
section
variable{X:Cx}{K:W.Frag}{pos:Pos}{o e:oC}{Fo:FE}{Fr:FA}
theorem RE.setVN{B:ck->Prop}(re:RE K B H S E):RE K B H (S.set i (oZ v)) (E.set i none)/\∀b,Ow B (S.set i (oZ v)) (E.set i none) b->Ow B S E b:=by
 have gE:∀{j:Nat}{u:U},(E.set i none)[j]?=oZ (oZ u)->i≠j/\E[j]?=oZ (oZ u):=λ{j u}h=>by
  by_cases c:i=j
  ·subst c;rw[XS]at h;simp at h
  ·rw[UK c]at h;exact⟨c,h⟩
 refine re.map (by simp[re.len]) (λj t h=>?_) id (λj k xs h=>?_) (λ_ _ _ _ _ _ _ _ h=>h)
 ·obtain⟨v,h1,h2⟩:=re.pure j t (gE h).2;exact⟨v,by rw[UK (gE h).1];exact h1,h2⟩
 ·obtain⟨a,vs,h1,_⟩:=re.own j k xs (gE h).2;exact⟨(gE h).2,a,h1,by rw[UK (gE h).1];exact h1⟩
def RH(i:Nat)(Fa:FE):FS:=λD E=>Fa E λr E1=>match r with
 |.s j=>(match E1[j]? with
  |some (↥xs)=>D.nx ((E1.take E.length).set i none)\/D.nx (((E1.set j (⇑(.lst xs))).take E.length).set i (⇑(.lst xs)))
  |_=>False)
 |_=>False
def OT(Fo:FE)(Fr:FA):FE:=λE Q=>Fo E λo E1=>o1 (ownOf E1 o) λ_=>Fr E1 λrs E2=>match o with
 |.s j=>(match E2[j]? with
  |some (oZ (.o k xs))=>(match rs with
   |[r]=>i1 (vl E2 r) λi=>0<=i/\xs.length<=9000/\o1 (xs[i.toNat]?) λt=>Q (.p t) (E2.set j (oZ (.o k (xs.eraseIdx i.toNat))))
   |_=>False)
  |_=>False)
 |_=>False
theorem DK(eK:X.K=K)(ho:QE X o (aJ K Fo))(ha:QA X [e] (dJ K n Fr))(nh:fm o "pop" X.env (dw o X.env)=dw o X.env:=by rfl)(ni:(ap.endLine==pos.line)=true:=by rfl)(hs:bO e=false:=by rfl):
  QE X (.Call (.Attribute o "pop" ap) [e] [] pos) (aJ K (OT Fo Fr)):=
 QE.le (t:=HG X.K "list" C7 (aJ K Fo) (dJ K n Fr)) ⟨Bn PySem.F.plainAttrs_list PySem.F.slot_list_pop PySem.F.type_list_pop Ys ho.h ha.h nh (by rw[cD hs];rfl) ni (cD hs) (fO rfl)⟩ λσ H Q hl h=>by
  subst eK;obtain⟨B,S,E,Q',⟨τ,hS⟩,re,hF,lk⟩:=h;refine⟨B,S,E,_,⟨τ,hS⟩,re,hF,λoo E1 v H1 S1 q g1 kq rx=>?_⟩;obtain⟨τ1,qg⟩:=g1.pre;obtain⟨va,e0,q⟩:=o1.ex q;obtain⟨j,k,p,vs,rfl,hE,hSj,rfl,h2,h3⟩:=kq.ownOf rx e0;refine⟨.inl ⟨rfl,vs,j5.of h2⟩,B,S1,E1,_,⟨τ++τ1,by rw[qg,hS,TF]⟩,kq,q,λrs E2 us H2 S2 q2 g2 mj rr hn=>?_⟩;have ua:S2[j]?=oZ (oZ (.ref p)):=e9 g2.pre hSj;simp only at q2;split at q2
  ·rename_i k2' xs hE2;split at q2
   ·rename_i r;obtain⟨y,ws,rfl,k1,rfl⟩:=rr;obtain⟨i,e1,i0,hz,q3⟩:=q2.ex;obtain⟨t,ht,q3⟩:=o1.ex q3;have ey:=mj.int k1 e1;subst ey;obtain⟨p',wy,z1,z2,z3,_⟩:=mj.own j k2' xs hE2;rw[ua]at z1;cases z1;have vl:=z3.length;obtain⟨g3,oj⟩:=mj.put (ys:=xs.eraseIdx i.toNat) (ws:=wy.eraseIdx i.toNat) hE2 ua (by rw[YV,YV];exact(z3.take _).append (z3.drop _));obtain⟨v,hv,rp⟩:=z3.get ht;have hil:=(SW.mp ht).1;have sx:seqIndex? i wy.length=oZ i.toNat:=by
     unfold seqIndex?;have h0:¬i<0:=⋯
     have h1:i<(wy.length:Int):=⋯
     simp[h0,h1]
     try lia
    exact⟨p,wy,i,i.toNat,v,rfl,rfl,z2,⋯,⋯,sx,hv,lk _ _ _ _ _ q3 ((g1.trans g2).trans g3) oj (rp.step g3.kp)⟩
   ·exact q2.elim
  ·exact q2.elim
end
def uN(t:Nat):List (Nat×Bool)->Nat->En->En->Option En
 |[],_,_,E=>oZ E
 |(_,false)::r,j,qz,E=>uN t r (j+1) qz E
 |(k,true)::r,j,qz,E=>match E[k]?,qz[t+j]? with
  |some (oZ (.o b _)),oZ (oZ (.o true ys))=>if dN ys=true then uN t r (j+1) qz (E.set k (oZ (.o b ys)))else none
  |_,_=>none
def Lj(t:Nat)(cap:List (Nat×Bool))(I:FI)(g:FG)(Fe:FE):FE:=λE Q=>I E λitems us E1=>cap.all (λk=>!(k.2&&us.contains k.1))=true/\
 iV g Fe items (nA t cap E1++[↥[]]) λqz=>match qz[t+cap.length]? with
  |some (↥zs)=>dN zs=true/\o1 (uN t cap 0 qz E1) λE2=>Q (.s E2.length) (E2++[↥zs])
  |_=>False
abbrev F9(t:Nat)(K:W.Frag)(g:FG):TG:=Jx true t none K g
theorem qY{qz:En}{cap:List (Nat×Bool)}:∀{r:List (Nat×Bool)}{n:Nat}{E E2:En},(r.map (·.1)).Nodup->(∀j k c,r[j]?=oZ (k,c)->cap[n+j]?=oZ (k,c))->uN t r n qz E=oZ E2->
  E2.length=E.length/\∀(i:Nat)(u:U),E2[i]?=oZ (oZ u)->(∃(j:Nat)(b:Bool)(ys va:List T),r[j]?=oZ (i,true)/\E[i]?=oZ (oZ (.o b va))/\qz[t+(n+j)]?=oZ (oZ (.o true ys))/\dN ys=true/\u = .o b ys)\/(E[i]?=oZ (oZ u)/\∀(j:Nat)(b:Bool)(xs:List T),r[j]?=oZ (i,true)->E[i]?≠oZ (oZ (.o b xs)))
 |[],n,E,E2,_,_,h=>by cases h;exact⟨rfl,λi u h=>.inr ⟨h,λj b xs z=>by simp at z⟩⟩
 |(k,false)::r,n,E,E2,nd,hc,h=>by
  obtain⟨eL,eG⟩:=qY (cap:=cap) (r:=r) (n:=n+1) (WK.mp nd).2 (λj k c q=>by have:=hc (j+1) k c (by simpa using q);rwa [show n+(j+1)=n+1+j by lia]at this) h;refine⟨eL,λi u hu=>?_⟩;obtain⟨j,b,ys,va,q1,q2,q3,q4,q5⟩|⟨q1,q2⟩:=eG i u hu
  ·exact .inl ⟨j+1,b,ys,va,by simpa using q1,q2,by rwa [show n+(j+1)=n+1+j by lia],q4,q5⟩
  ·refine .inr ⟨q1,λj b xs z=>?_⟩;cases j with
   |zero=>simp at z
   |succ j=>exact q2 j b xs (by simpa using z)
 |(k,true)::r,n,E,E2,nd,hc,h=>by
  rw[uN]at h;split at h
  ·rename_i b va ys hE hEi;split at h
   ·rename_i hny;obtain⟨eL,eG⟩:=qY (cap:=cap) (r:=r) (n:=n+1) (WK.mp nd).2 (λj k c q=>by have:=hc (j+1) k c (by simpa using q);rwa [show n+(j+1)=n+1+j by lia]at this) h;have nk:∀j c,r[j]?≠oZ (k,c):=λj c z=>(WK.mp nd).1 (SS.mpr ⟨(k,c),SY z,rfl⟩);have hk:k<E.length:=(SW.mp hE).1;refine⟨by rw[eL,YW],λi u hu=>?_⟩
    by_cases c:i=k
    ·subst c;obtain⟨j,b',ys',yz,q1,_⟩|⟨q1,q2⟩:=eG i u hu
     ·exact absurd q1 (nk j true)
     ·rw[VA hk]at q1;cases q1;exact .inl ⟨0,b,ys,va,rfl,hE,hEi,hny,rfl⟩
    ·have ui:(E.set k (oZ (.o b ys)))[i]?=E[i]?:=UK (λz=>c z.symm);obtain⟨j,b',ys',yz,q1,q2,q3,q4,q5⟩|⟨q1,q2⟩:=eG i u hu
     ·rw[ui]at q2;exact .inl ⟨j+1,b',ys',yz,by simpa using q1,q2,by rwa [show n+(j+1)=n+1+j by lia],q4,q5⟩
     ·rw[ui]at q1;refine .inr ⟨q1,λj b' xs z=>?_⟩;cases j with
      |zero=>simp at z;exact absurd z.symm c
      |succ j=>have:=q2 j b' xs (by simpa using z);rwa [ui]at this
   ·cases h
  ·cases h
theorem Te{X:Cx}{K:W.Frag}{Fe:FE}{g:FG}{I:FI}{scope:iq}{N':List Str}{cap:List (Nat×Bool)}{t:Nat}(S:bI X N' scope t (cap.map (·.1)))(vb:(cap.map (·.1)).Nodup){σ:St}{H:Hp}{Q:VK}(hl:σ.length=X.N.length)(h:aJ K (Lj t cap I g Fe) σ H Q):Bz t (cap.map (·.1)) (kL K I) (F9 t K g) (mS none K Fe) σ H Q:=by
 unfold Lj at h;simp only[<-Cy]at h;exact Kd (tM (W:=uN t cap 0) (FC:=λzs p=>dN zs=true/\p) (rr:=.l) (Qv:=Q) (d:=none) S (.inr ⟨rfl,rfl⟩) vb (λ_ _ _ z=>(qY vb (λj k c h=>by simpa using h) z).imp id λeG i u h=>by simpa using eG i u h) (λ_ _ z=>z.2) hl (λ_ _ _ z=>by cases z) (λzs D ws H1 H2 p hc hD h2 _ hn=>⟨_,⟨D,ws,rfl,hD,h2,hn hc.1⟩,id⟩) ⟨(λ_ z=>by cases z),h⟩)
theorem Xh{X:Cx}{K:W.Frag}{pos:Pos}{t i:Nat}{x:Str}(hN:X.N.Nodup)(hi:X.N[i]?=oZ x)(hx:y8 X.env.scope x)(hf:X.fn x=true\/X.env.scope.names.lookup x=oZ .local:=by first|exact .inl rfl|exact .inr rfl|assumption)(ht:i<t:=by decide):QG X (.Name x pos) (F9 t K (Ih i)):=
 (sR hN hi hx hf).le λv σ H Q hl zZ=>by
  obtain⟨_,B,τ,E,u,Q',re,rp,hF,l⟩:=zZ;have pj:i<σ.length:=by rw[hl];exact(SW.mp hi).1
  obtain⟨r1,ow⟩:=re.setP (i:=i) rp;rw[YY _ _ pj]at r1 ow;exact l _ _ _ hF (Kp.less ow) r1 (by simp) (λ_ z=>by cases z) λ_ j hj=>UK ⋯
theorem O2{X:Cx}{K:W.Frag}{Fe:FE}{g:FG}{I:FI}{target elt iter:oC}{scope:iq}{pos pos' vp:Pos}{N':List Str}{cap:List (Nat×Bool)}{t i:Nat}{x:Str}(hN:X.N.Nodup)(hi:X.N[i]?=oZ x)(hx:y8 X.env.scope x)(hsw:fo (.ListComp elt [⟨target,iter,[],0⟩] scope pos) (oZ (.Name x pos')) vp.line X.env=pure true)(hc:X.calm=true)(S:bI X N' scope t (cap.map (·.1)))(vb:(cap.map (·.1)).Nodup)(hit:QI X target iter (kL K I))(hg:∀C s3 H3 fp,QG (bV X N' scope C s3 H3 fp) target (F9 t K g))(he:∀C s3 H3 fp,QE (bV X N' scope C s3 H3 fp) elt (aJ K Fe))(hs:∀x,dr iter X.env x=pure x:=by intro _;rfl)(hf:X.fn x=true\/X.env.scope.names.lookup x=oZ .local:=by first|exact .inl rfl|exact .inr rfl|assumption):
  QS X (.Assign [.Name x pos'] (.ListComp elt [⟨target,iter,[],0⟩] scope pos) vp) (iO K (D3 i (Lj t cap I g Fe))):=
 QS.le ⟨Qp hN hi hx hf hsw hc S hit.h (λC s3 H3 fp=>(hg C s3 H3 fp).h) (λC s3 H3 fp=>(he C s3 H3 fp).ed.h) hs⟩ λD σ H hl⟨B,E,DT,re,hF,l⟩=>Te S vb hl ⟨B,σ,E,_,⟨[],by simp⟩,re,hF,λr E' v H' S' q g km rr=>by
  obtain⟨u,e1,q⟩:=q.ex;rw[<-re.len]at e1 q;obtain⟨r1,ow⟩:=lY (i:=i) km g.pre rr e1;exact l.nx _ _ _ q (g.kp.trans (Kp.less ow)) r1⟩
end L2
namespace L2
open PySem PySem.Spec PySem.W PyProof.Rows
variable{cb cb':Bool}
section
open PySem.Calls
variable{M:Model}{A:oD}{E:oA->oB->Prop}{s:oB}{base:oE}{env:Env}{outer:List Env}{L x:ck}
end
end L2
namespace L2
open PySem PySem.Spec PySem.W PySem.Calls PyProof.Rows
variable{cb cb':Bool}
def AV(n:Nat)(lo st:Option Int):List Nat:=sliceRange (fq lo none st n).1 (fq lo none st n).2.1 (fq lo none st n).2.2
def fR{α:Type}(xs:List α)(lo st:Option Int):List α:=(AV xs.length lo st).filterMap (xs[·]?)
theorem cP.pick{K:W.Frag}{H:Hp}{O:ck->Prop}{xs:List T}{vs:List V}(r:cP K H O xs vs):∀ns:List Nat,cP K H O (ns.filterMap (xs[·]?)) (ns.filterMap (vs[·]?))
 |[]=>rfl
 |n::ns=>by
  have ih:=cP.pick r ns;cases q:xs[n]? with
  |none=>
   have hl:=r.length;have:vs[n]?=none:=by rw[aa]at q⊢;lia
   rw[UJ q,UJ this];exact ih
  |some t=>
   obtain⟨v,h1,h2⟩:=r.get q;rw[UZ q,UZ h1];exact⟨v,_,rfl,h2,ih⟩
theorem bB.pick(r:bB vs us):∀ns:List Nat,bB (ns.filterMap (vs[·]?)) (ns.filterMap (us[·]?))
 |[]=>.nil
 |n::ns=>by
  have ih:=bB.pick r ns;cases q:vs[n]? with
  |none=>
   have hl:=r.length;have:us[n]?=none:=by rw[aa]at q⊢;lia
   rw[UJ q,UJ this];exact ih
  |some v=>
   obtain⟨u,h1,h2⟩:=r.get q;rw[UZ q,UZ h1];exact .cons h2 ih
section
variable{X:Cx}{K:W.Frag}{e:oC}{te:TE}{sl st:Option oC}{tl ts:TO}{pos p2:Pos}{Fa:FE}{vf Gs':FO}
def BS(K:W.Frag)(te:TE)(tl ts:TO):TE:=λσ H Q=>te σ H λx H1=>tl σ H1 λlo H2=>ts σ H2 λk H3=>k≠oZ 0/\∃a xs,x = .ref a/\j5 K H3 a xs/\(fR xs lo k).length<=cw/\∀p,H3 p=none->Q (.ref p) (upd H3 p (.lst (fR xs lo k)))
theorem T7(he:PE X e te)(hl:PO X sl tl)(hk:PO X st ts)(hop:∀a b,∃ops,jm (.Slice sl none st p2) false a b=operate ops (jc a b)):PE X (.Subscript e (.Slice sl none st p2) pos) (BS X.K te tl ts):=by
 intro pins s σ H Q I h;refine Subscript_ (dZ (he pins s σ H _ I h) λv s1 zZ=>?_);obtain⟨x,H1,I1,r1,q1⟩:=zZ;refine wpAny_Slice ?_;refine dZ (hl pins s1 σ H1 _ I1 q1) λvlo s2 zZ=>?_;obtain⟨lo,H2,I2,pl,q2⟩:=zZ;rw[jv];refine cn ?_;refine dZ (hk pins s2 σ H2 _ I2 q2) λvk s3 zZ=>?_;obtain⟨k,H3,I3,pk,q3⟩:=zZ;obtain⟨k0,a,xs,rfl,hx,hz0,q⟩:=q3;have I4:aV X pins σ H3 { s3 with heap:=s3.heap.push { cls:=.type "slice",data:=.fields #[vlo,.none,vk] } }:=I3.kept (t':=s3.toks) λb ob q=>TJ _ q;cases r1;obtain⟨jz,r,ht,hz⟩:=I4.list hx;have hlen:=r.length;have hg:cq (df X.prog X.w) X.A (jc (.ref a) (.ref s3.heap.objs.size)) (EP X pins σ Q) X.xe { s3 with heap:=s3.heap.push { cls:=.type "slice",data:=.fields #[vlo,.none,vk] } }:=by
  refine wpAny_getItem_list_slice ht.isList (Heap.IsSliceOf.new ..) pl .none pk k0 ?_ (by rw[TU]<;>lia);have ep:slicePick jz.toArray lo none k=(fR jz lo k).toArray:=by
   unfold slicePick fR AV;simp
  rw[ep];have es:fR jz lo k=(AV xs.length lo k).filterMap (jz[·]?):=by unfold fR;rw[hlen]
  refine⟨.ref _,_,I4.laid (t':=s3.toks) (o:=.lst (fR xs lo k)) (λb ob q=>TJ _ q) (TN _) ?_,rfl,q _ (I4.hok.fresh (TN _))⟩;exact⟨hz0,_,0,by rw[es];exact bB.pick r _,UG _ rfl⟩
 obtain⟨ops,ho⟩:=hop (.ref a) (.ref s3.heap.objs.size);exact tail_any (ops:=ops) ht.isList.typeIs slot_list_getitem.lookup hg ho
def JD(Fa:FE)(vf Gs':FO):FE:=λE Q=>Fa E λx E1=>vf E1 λlo E2=>Gs' E2 λk E3=>k≠oZ 0/\match vl E3 x with
 |some (.lst xs)=>(fR xs lo k).length<=9000/\Q (.s E3.length) (E3++[↥(fR xs lo k)])
 |_=>False
theorem Pg(eK:X.K=K)(he:QE X e (aJ K Fa))(hl:QO X sl (sZ K vf))(hk:QO X st (sZ K Gs'))(hop:∀a b,∃ops,jm (.Slice sl none st p2) false a b=operate ops (jc a b):=by exactλ_ _=>⟨_,by with_unfolding_all rfl⟩):QE X (.Subscript e (.Slice sl none st p2) pos) (aJ K (JD Fa vf Gs')):=by
 subst eK;refine QE.le (t:=BS X.K (aJ X.K Fa) (sZ X.K vf) (sZ X.K Gs')) ⟨T7 he.h hl.h hk.h hop⟩ λσ H Q _⟨B,S,E,Q',⟨τ,hS⟩,re,hF,lk⟩=>⟨B,S,E,_,⟨τ,hS⟩,re,hF,λx E1 v H1 S1 q g1 kq rx=>?_⟩;obtain⟨τ1,qg⟩:=g1.pre;refine⟨B,S1,E1,_,⟨τ++τ1,by rw[qg,hS,TF]⟩,kq,q,λl E2 H2 S2 q2 g2 mj=>?_⟩;obtain⟨τ2,hS2⟩:=g2.pre;refine⟨B,S2,E2,_,⟨τ++τ1++τ2,by rw[hS2,qg,hS,TF,TF,TF]⟩,mj,q2,λk E3 H3 S3 q3 g3 oj=>?_⟩;have rx3:=(rx.step g2).step g3;obtain⟨k0,q3⟩:=q3;refine⟨k0,?_⟩;split at q3
 ·rename_i xs e1;obtain⟨hz,q3⟩:=q3;obtain⟨a,vs,e2,sq,rs⟩:=oj.vl rx3 e1;have el:fR vs l k=(AV xs.length l k).filterMap (vs[·]?):=by unfold fR;rw[rs.length]
  have rp:cP X.K H3 (Ow B S3 E3) (fR xs l k) (fR vs l k):=by rw[el];exact cP.pick rs _
  refine⟨a,vs,e2,sq,by rw[rp.length];exact UX (bZ hz),λp hp=>?_⟩;obtain⟨g,km⟩:=oj.lst hp rp;exact lk _ _ _ _ _ q3 (((g1.trans g2).trans g3).trans g) km (by rw[<-oj.len];exact kC)
 ·exact q3.elim
end
end L2
namespace L2
open PySem PySem.Spec PySem.W PySem.Calls PyProof.Rows PySem.SeqAt
section
variable{prog:da}{w:dk}{KK:Type}[DecidableEq KK]{knd:HeapKind prog w KK}{A:oD}{E:oA->oB->Prop}{s:oB}
theorem Ju{Q:oA->oB->Prop}(hu:knd.room A)(zk:knd.is s.heap k a)(hm:s.heap.DictOfH knd d xs)(h1:∀p,atKey xs k=oZ p->Q p.2 { s with toks:=s.toks+knd.draws k })(h2:atKey xs k=none->∀h',h'.DictOfH knd d (storedH xs k a v)->XC d s.heap h'->Q v { s with heap:=h',toks:=s.toks+knd.draws k })(xf:xs.length<=cw):
  cq (df prog w) A (dictSetDefault d (.ref a) v) Q E s:=by
 obtain⟨o,es,ep,ho,hc,hd,he,his,hn⟩:=hm;unfold dictSetDefault
 try with_reducible refine fj ?_
 refine cm (knd.pyHash hu zk ?_);refine cm (wpAny_dictFind_heap (s:={ s with toks:=s.toks+knd.draws k }) hu zk ho hd he his hn ?_ ?_)
 ·intro uh;have aGC:k∉xs.map (·.1):=not_mem_keys_of_get uh;refine cm (jh (cm (wpAny_updateDictKeys (hz:=by have e:=size_of_entries he;lia) (s:={ s with toks:=s.toks+knd.draws k }) ho hd (cn (h2 (atKey_none_of_get uh) _ ⟨_,_,ep+1,XX _ ho (Obj.isFreed_of_dict (Obj.data_mapDictKeys hd _)),
   hc.mapDictKeys _,Obj.data_mapDictKeys hd _,?_,?_,?_⟩ (Heap.SameBut.update ..))))))
  ·rw[storedH_new (atKey_none_of_get uh)];simp[he,entryOfKey]
  ·rw[storedH_new (atKey_none_of_get uh)];intro x hx;obtain hx|hx:=TY.mp hx
   ·exact knd.keeps (his x hx) ho hd (Heap.SameBut.update ..)
   ·simp only[TM]at hx;subst hx;exact knd.keeps zk ho hd (Heap.SameBut.update ..)
  ·rw[storedH_new (atKey_none_of_get uh)];rw[US,List.nodup_append];refine⟨hn,by simp,?_⟩;intro x hx y hy;simp only[TH,XD,TM]at hy;subst hy;exactλe=>aGC (e ▸ hx)
 ·intro j p hj;refine cm (wpAny_dictEntries (s:={ s with toks:=s.toks+knd.draws k }) ho hd ?_);rw[entry_at he j,hj];exact cm (jh (cn (h1 _ (atKey_of_get hn hj))))
theorem zJ(d a:ck)(hd:(d==gj)=false)(dflt:oA):
  MeetsIn prog w (Builtin.«dict.setdefault» ⟨[.ref d,.ref a,dflt],[]⟩) (λA R s=>knd.room A.in1/\∃k xs,knd.is s.heap k a/\s.heap.DictOfH knd d xs/\xs.length<=cw/\
   (∀p,atKey xs k=oZ p->R (.ok (.ret p.2)) { s with toks:=s.toks+knd.draws k })/\
   (atKey xs k=none->∀h',h'.DictOfH knd d (storedH xs k a dflt)->XC d s.heap h'->R (.ok (.ret dflt)) { s with heap:=h',toks:=s.toks+knd.draws k })):=
 .of_wp λA R s zZ=>by
  obtain⟨hu,k,xs,zk,hm,hz,h1,h2⟩:=zZ;unfold Builtin.«dict.setdefault»;refine cm ?_;unfold Builtin.Dict.keyAndDefault;refine cm (wpAny_notOrdered_dict hm.typeIs ?_);show cq _ _ (pure (d,VU a,oZ dflt)) _ _ s;refine cn ?_;show cq _ _ (if(d==gj)=true then _ else(dictSetDefault d (.ref a) dflt >>= _)) _ _ s;rw[oW (by rw[hd];exact XJ)];exact cm (Ju hu zk hm (λp hp=>cn ⟨p.2,rfl,h1 p hp⟩) (λhn h' hm' yo=>cn ⟨dflt,rfl,h2 hn h' hm' yo⟩) hz)
end
theorem Wq{X:Cx}{H:Hp}{A:oD}{E:oA->oB->Prop}{la:List (List Key×V)}{k:List Key}{Q:oA->oB->Prop}(hu:A.units+1<jn)(I:aV X pins σ H s)(e:H a=oZ (.dT la))(eb:H b=oZ (.tup (k.map kV)))(rv:bP v r)(l:la.length<cw)(h1:∀y w' s',pL la k=oZ y->aV X pins σ H s'->bP y w'->Q w' s')(h2:∀s',pL la k=none->aV X pins σ (upd H a (.dT (Eo la k v))) s'->Q r s'):
  cq (df X.prog X.w) A (call (.builtin "dict.setdefault") [.ref a,.ref b,r]) Q E s:=by
 obtain⟨z,hd,xs,rel,dd⟩:=IQ I.hok e;have hz:xs.length<=cw:=by rw[<-Paired.length rel];exact z
 have hl:(Eo la k v).length<=cw:=by have:=Ik la k v;lia
 have rk:=rel.val k;refine call_meetsIn PySem.F.slot_dict_setdefault dd.typeIs PySem.F.entry_dict_setdefault (PySem.F.args_dict_setdefault_3 _ _ _) (zJ (knd:=jt (fW X.prog X.w)) a b hd r) ⟨tupleKind_room_in1 hu,k,xs,Yl I.hok eb,dd,hz,λp hp=>?_,λhn h' dd' hs=>?_⟩
 ·rw[hp]at rk;cases q:pL la k with
  |none=>rw[q]at rk;exact rk.elim
  |some y=>rw[q]at rk;exact h1 y _ _ q (I.tok _) rk
 ·rw[hn]at rk;have q:pL la k=none:=by
   cases q:pL la k with
   |none=>rfl
   |some y=>rw[q]at rk;exact rk.elim
  refine h2 _ q ?_;obtain⟨q,es,ep,hq,g2,g3,g4,_,g5⟩:=dd';refine M9 I (by rw[e];exact True.intro) hs ⟨q,hq⟩ ⟨hl,hd,_,(rel.put k eb rv).keeps λc ys ec=>?_,q,es,ep,hq,g2,g3,g4,g5⟩;rw[bD (JZ ec e (λz=>nomatch z))];exact ec
def MC(td ty tx:TE):TE:=λσ H Q=>td σ H λx H1=>∃a,x = .ref a/\QY H1 a/\ty σ H1 λy H2=>tx σ H2 λz H3=>∃b la k,y = .ref b/\H3 a=oZ (.dT la)/\H3 b=oZ (.tup (k.map kV))/\la.length<cw/\
 (∀u,pL la k=oZ u->Q u H3)/\(pL la k=none->Q z (upd H3 a (.dT (Eo la k z))))
theorem T5(hu:X.A.units+1<jn)(ho:PE X o td)(he:PE X e ty)(hf:PE X f tx)(m:M2 X o "setdefault" apos e f tq):PE X (.Call (.Attribute o "setdefault" apos) [e,f] [] tq) (MC td ty tx):=by
 intro pins s σ H Q I h;refine wpAny_Call_method m.base m.few m.line PySem.F.plainAttrs_dict PySem.F.slot_dict_setdefault PySem.F.type_dict_setdefault (dZ (ho pins s σ H _ I h) λu s1 zZ=>?_);obtain⟨x,H1,I1,rx,a,ex,d,q1⟩:=zZ;subst ex;obtain rfl:u=VU a:=rx;obtain⟨t1,t2,_⟩:=DR I1 d;refine⟨t1,t2,?_⟩;rw[m.trees];refine Calls.callWith_builtin rfl (Calls.evalArgs_plain (Calls.spliced_cons (dZ (he pins s1 σ H1 _ I1 q1) λiv s2⟨y,H2,I2,ry,q2⟩=>
  Calls.spliced_cons (dZ (hf pins s2 σ H2 _ I2 q2) λfv s3⟨z,H3,I3,rz,b,la,k,ey,ea,eb,hl,q3,q4⟩=>Calls.spliced_nil ?_))))
 subst ey;obtain rfl:iv=VU b:=ry;exact Wq hu I3 ea eb rz hl (λu w' s4 hv I4 yg=>⟨u,H3,I4,yg,q3 u hv⟩) λs4 hv I4=>⟨z,_,I4,rz,q4 hv⟩
theorem QB.leM(h:QB X uy t)(m:∀D σ H,σ.length=X.N.length->t' D σ H->t D σ H):QB X uy t':=⟨λpins s σ H D I z=>h.h pins s σ H D I (m D σ H I.len z)⟩
structure Kl where
 k:List Key
 c:ck
 o:List T
abbrev MD:=List (List Key×List T)
def md(G:List Kl):MD:=G.map λg=>(g.k,g.o)
def Bd(G:List Kl):List (List Key×V):=G.map λg=>(g.k,V.ref g.c)
def dE(G:List Kl):List ck:=G.map (·.c)
def Z3(b:Bool)(G:List Kl):HO:=if b=true then .dT (Bd G)else .dK (G.map λg=>(g.k.headD (Sum.inl 0),V.ref g.c))
theorem Ox(b:Bool)(G:List Kl):Sq (Z3 b G):=by cases b<;>trivial
theorem Wr:Z3 b G≠.lst xs:=by cases b<;>(intro z;cases z)
structure DG(b:Bool)(K:W.Frag)(i:Nat)(a:ck)(G:List Kl)(σ:St)(H:Hp):Prop where
 nm:σ[i]?=oZ (oZ (.ref a))
 dc:H a=oZ (Z3 b G)
 nd:(dE G).Nodup
 ls:∀g∈G,∃vs,H g.c=oZ (.lst vs)/\cP K H (λc=>dO H c\/c=a) g.o vs
structure K7 where
 nx:MD->En->Prop
 rt:R->En->Prop:=λ_ _=>False
 bk:MD->En->Prop:=λ_ _=>False
 ct:MD->En->Prop:=λ_ _=>False
abbrev K8:=K7->MD->En->Prop
def K7.at(D:K7)(M:MD):ET where
 nx:=D.nx M
 rt:=D.rt
 bk:=D.bk M
 ct:=D.ct M
def K7.of(D:ET):K7 where
 nx:=λ_=>D.nx
 rt:=D.rt
 bk:=λ_=>D.bk
 ct:=λ_=>D.ct
def JV(F:FS):K8:=λD M E=>F (D.at M) E
abbrev Gd(a:ck)(B:ck->Prop)(G:List Kl)(H:Hp)(S:St)(E:En)(G':List Kl)(H':Hp)(S':St)(E':En):Prop:=Kp (λb=>Ow B S E b\/b∈a::dE G) (λb=>Ow B S' E' b\/b∈a::dE G') H H'
structure LD(q:Bool)(i:Nat)(a:ck)(K:W.Frag)(B:ck->Prop)(G:List Kl)(H:Hp)(σ:St)(E:En)(DT:K7)(D:pV):Prop where
 nx:∀σ' H' E' G',DT.nx (md G') E'->Gd a B G H σ E G' H' σ' E'->DG q K i a G' σ' H'->RE K B (hide (·∈a::dE G') H') σ' E'->D.nx σ' H'
 rt:∀r E' v H' S' G',DT.rt r E'->Gd a B G H σ E G' H' S' E'->RE K B H' S' E'->RR K B H' S' E' r v->D.rt v H'
 bk:∀σ' H' E' G',DT.bk (md G') E'->Gd a B G H σ E G' H' σ' E'->DG q K i a G' σ' H'->RE K B (hide (·∈a::dE G') H') σ' E'->D.bk σ' H'
 ct:∀σ' H' E' G',DT.ct (md G') E'->Gd a B G H σ E G' H' σ' E'->DG q K i a G' σ' H'->RE K B (hide (·∈a::dE G') H') σ' E'->D.ct σ' H'
def zW(q:Bool)(i:Nat)(K:W.Frag)(F:K8):TS:=λD σ H=>∃a G B E DT,DG q K i a G σ H/\RE K B (hide (·∈a::dE G) H) σ E/\F DT (md G) E/\LD q i a K B G H σ E DT D
section
variable{X:Cx}{K:W.Frag}{st:dh}{uy body:List dh}{q:Bool}{i:Nat}{a:ck}{B:ck->Prop}{G G':List Kl}{H H' H1:Hp}{σ σ' S S':St}{E E':En}{DT:K7}{D:pV}
theorem LD.step(l:LD q i a K B G H σ E DT D)(g:Gd a B G H σ E G' H' σ' E'):LD q i a K B G' H' σ' E' DT D:=
 ⟨λx b c d e f=>l.nx x b c d e (g.trans f),λx b c d e f h m=>l.rt x b c d e f h (g.trans m),λx b c d e f=>l.bk x b c d e (g.trans f),λx b c d e f=>l.ct x b c d e (g.trans f)⟩
theorem vQ(h:c∈dE G):∃g∈G,g.c=c:=SS.mp h
theorem Cm(h:g∈G):g.c∈dE G:=SS.mpr ⟨g,h,rfl⟩
theorem DG.hid(d:DG q K i a G σ H):∀c∈a::dE G,∃o,H c=oZ o/\Sq o:=λc m=>by
 obtain e|m:=SU.mp m
 ·rw[e];exact⟨_,d.dc,Ox _ _⟩
 ·obtain⟨g,mg,rfl⟩:=vQ m;obtain⟨vs,h,_⟩:=d.ls g mg;exact⟨_,h,trivial⟩
theorem iA{Z:ck->Prop}(h:∀c,Z c->H1 c=none):hide Z (back Z H H1)=H1:=by
 funext b
 by_cases z:Z b
 ·rw[kU z,h b z]
 ·rw[cJ z,dS z]
theorem RE.unhide{Z:ck->Prop}(re:RE K B (hide Z H) S E):RE K B H S E:=re.kept λ_ _ e=>(dD e).2
theorem Rp.unhide{Z O:ck->Prop}(h:Rp K (hide Z H) O t v):Rp K H O t v:=h.step ⟨λ_ _ e _=>(dD e).2,λ_ z=>.inl z⟩
theorem RR.unhide{Z:ck->Prop}(h:RR K B (hide Z H) S E r v):RR K B H S E r v:=by
 cases r with
 |p t=>exact Rp.unhide h
 |s i=>exact h
theorem Gd.hid(g:Gd a B G H σ E G' H' σ' E'):Kp (Ow B σ E) (Ow B σ' E') (hide (·∈a::dE G) H) (hide (·∈a::dE G') H'):=by
 refine⟨λb o e n=>?_,λb z=>?_⟩
 ·obtain⟨n2,e⟩:=dD e;have k:=g.keep b o e λz=>z.elim n n2;rw[cJ λz=>?_]
  ·exact k
  obtain (z|z)|z:=g.new b (.inr z)
  ·exact n z
  ·exact n2 z
  ·rw[e]at z;cases z
 ·obtain (z|z)|z:=g.new b (.inl z)
  ·exact .inl z
  ·exact .inr (kU z)
  ·exact .inr (lD z)
theorem DG.tk(d:DG q K i a G σ H)(re:RE K B (hide (·∈a::dE G) H) σ E)(g:Gs B (hide (·∈a::dE G) H) σ E H1 S' E'):∀b xs,H b=oZ (.tup xs)->H1 b=oZ (.tup xs):=λb xs e=>by
 have z:b∉a::dE G:=λz=>by
  obtain⟨o,eo,k⟩:=d.hid b z;rw[e]at eo;cases eo;exact k
 refine g.keep b _ (by rw[cJ z];exact e) λw=>?_;obtain⟨us,e'⟩:=re.ow w;rw[cJ z,e]at e';cases e'
theorem Qb(keep:∀b o,H b=oZ o->¬(dO H b\/b=a)->H' b=oZ o)(hd:¬dO H a):Kp (λc=>dO H c\/c=a) (λc=>dO H' c\/c=a) H H':=by
 refine⟨keep,λb z=>?_⟩;obtain⟨us,e⟩|e:=z
 ·by_cases w:dO H b\/b=a
  ·exact .inl w
  ·right
   cases hb:H b with
   |none=>rfl
   |some o=>
    have:=keep b o hb w;rw[e]at this;cases this;exact absurd (.inl ⟨us,hb⟩) w
 ·exact .inl (.inr e)
theorem DG.nl(d:DG q K i a G σ H):¬dO H a:=λzZ=>by obtain⟨us,e⟩:=zZ;rw[d.dc]at e;exact Wr (Option.some.inj e)
theorem DG.after(d:DG q K i a G σ H)(re:RE K B (hide (·∈a::dE G) H) σ E)(g:Gs B (hide (·∈a::dE G) H) σ E H1 S' E')(gone:∀c∈a::dE G,H1 c=none):
  Gd a B G H σ E G (back (·∈a::dE G) H H1) S' E'/\(∀σ',σ'[i]?= σ[i]?->DG q K i a G σ' (back (·∈a::dE G) H H1)):=by
 have isl:∀{b:ck},Ow B σ E b->∃us,H b=oZ (.lst us):=λ{b}z=>by
  obtain⟨us,e⟩:=re.ow z;exact⟨us,(dD e).2⟩
 have kp:∀b o,H b=oZ o->¬Ow B σ E b->b∉a::dE G->H1 b=oZ o:=λb o e n z=>g.keep b o (by rw[cJ z];exact e) n;have keep:∀b o,H b=oZ o->¬(dO H b\/b=a)->back (·∈a::dE G) H H1 b=oZ o:=λb o e n=>by
  by_cases z:b∈a::dE G
  ·rw[j6 z];exact e
  ·rw[dS z];exact kp b o e (λw=>n (.inl (isl w))) z
 refine⟨⟨λb o e n=>?_,λb z=>?_⟩,λσ' hk=>⟨by rw[hk];exact d.nm,by rw[j6 (by simp)];exact d.dc,d.nd,λg' mg=>?_⟩⟩
 ·have z:b∉a::dE G:=λz=>n (.inr z);rw[dS z];exact kp b o e (λw=>n (.inl w)) z
 ·obtain z|z:=z
  ·obtain w|w:=g.new b z
   ·exact .inl (.inl w)
   ·by_cases y:b∈a::dE G
    ·exact .inl (.inr y)
    ·rw[cJ y]at w;exact .inr w
  ·exact .inl (.inr z)
 ·obtain⟨vs,h1,h2⟩:=d.ls g' mg;have z:g'.c∈a::dE G:=UI _ (Cm mg);exact⟨vs,by rw[j6 z];exact h1,h2.step (Qb keep d.nl)⟩
theorem Dg(h:QS X st (lM [i] K F)):QS X st (zW q i K (JV F)):=
 h.frame.le λD σ H hl zZ=>by
  obtain⟨a,G,B,E,DT,d,re,hF,l⟩:=zZ;refine⟨a::dE G,d.hid,B,E,DT.at (md G),re,hF,⟨λσ' H1 E' z g km hk=>⟨d.tk re g,λgone=>?_⟩,λr E' v H1 S' z g km rr=>⟨d.tk re g,λgone=>?_⟩,λσ' H1 E' z g km hk=>⟨d.tk re g,λgone=>?_⟩,λσ' H1 E' z g km hk=>⟨d.tk re g,λgone=>?_⟩⟩⟩
  ·obtain⟨g1,d1⟩:=d.after re g gone;exact l.nx _ _ _ G z g1 (d1 σ' (hk i (by simp))) (by rw[iA gone];exact km)
  ·obtain⟨g1,d1⟩:=d.after re g gone;exact l.rt r E' v _ S' G z g1 (RE.unhide (Z:=(·∈a::dE G)) (by rw[iA gone];exact km)) (RR.unhide (Z:=(·∈a::dE G)) (by rw[iA gone];exact rr))
  ·obtain⟨g1,d1⟩:=d.after re g gone;exact l.bk _ _ _ G z g1 (d1 σ' (hk i (by simp))) (by rw[iA gone];exact km)
  ·obtain⟨g1,d1⟩:=d.after re g gone;exact l.ct _ _ _ G z g1 (d1 σ' (hk i (by simp))) (by rw[iA gone];exact km)
def LY(F G:K8):K8:=λD M E=>F { D with nx:=λM' E'=>t6 E' (G D M') } M E
theorem Df{F G:K8}(h1:QS X st (zW q i K F))(h2:QB X uy (zW q i K G)):QB X (st::uy) (zW q i K (LY F G)):=
 (sQ h1 h2).leM λD σ H hl zZ=>by obtain⟨a,Gc,B,E,DT,d,re,hF,l⟩:=zZ;exact⟨a,Gc,B,E,_,d,re,hF,⟨λσ' H' E' G' hG g d' km=>⟨a,G',B,E',DT,d',km,iJ hG,l.step g⟩,l.rt,l.bk,l.ct⟩⟩
theorem CW(h1:QS X st (zW q i K F)):QB X [st] (zW q i K F):=Mn h1
def SA(t:TG):TG:=λv σ H Q=>∃Z:List ck,(∀c∈Z,∃o,H c=oZ o/\Sq o)/\t v σ (L2.hide (·∈Z) H) λσ' H1=>(∀b xs,H b=oZ (.tup xs)->H1 b=oZ (.tup xs))/\((∀c∈Z,H1 c=none)->Q σ' (L2.back (·∈Z) H H1))
theorem QG.frame(h:QG X e t):QG X e (SA t):=⟨λpins s σ H v u Q I r⟨Z,hZ,z⟩=>dZ (h.h (pins++lW s.heap Z) s σ _ v u _ (I.hide hZ) r z) λ_ s' zZ=>by
  obtain⟨σ',H1,I1,ht,z⟩:=zZ;obtain⟨I2,g⟩:=I.back hZ I1 ht;exact⟨σ',_,I2,z g⟩⟩
def xV(g:FG)(F:K8)(D:K7):List T->MD->En->Prop
 |[],M,E=>D.nx M E
 |x::xs,M,E=>g x E λE'=>t6 E' (F { D with nx:=xV g F D xs,ct:=xV g F D xs,bk:=D.nx } M)
def Qi(E:En)(p:Nat)(k:List T->Prop):Prop:=match E[p]? with
 |some (⇑(.lst xs))=>k xs
 |_=>False
theorem Qi.ex{k:List T->Prop}(h:Qi E p k):∃xs,E[p]?=oZ (⇑(.lst xs))/\k xs:=by
 unfold Qi at h;split at h
 ·rename_i xs e;exact⟨xs,e,h⟩
 ·exact h.elim
def LQ(p:Nat)(g:FG)(F:K8):K8:=λD M E=>Qi E p λxs=>t6 E (xV g F D xs M)
theorem CY(eK:X.K=K)(hp:PassesOwn (df X.prog X.w) X.A X.env X.xe)(hc:X.calm=true)(hi:X.N[p]?=oZ x)(hv:CI X.env.scope x)(hg:QG X tg (Jw [i] K g))(hb:QB X body (zW q i K F))(hs:∀y,dr (.Name x px) X.env y=pure y:=by intro _;rfl)(hd:(x==("__debug__":Str))=false:=by decide)(vj:(x==("__classdict__":Str))=false:=by decide):QS X (.For tg (.Name x px) body [] pos) (zW q i K (LQ p g F)):=by
 subst eK;refine(Mr hp hc (Qt (qv p hi hv hd vj)) hg.frame hb hs).le λD σ H hl zZ=>?_;obtain⟨a,G,B,E,DT,d,re,hF,l⟩:=zZ;obtain⟨items,eI,hF⟩:=hF.ex;replace hF:=iJ hF;obtain⟨v,sv,rv⟩:=re.pure p _ eI;obtain⟨pp,vs,rfl,sq,rs⟩:=rv.sqL;refine⟨.ref pp,sv,pp,rfl,⟨vs,sq.imp (λh=>h.imp (λh=>(dD h).2) λzZ=>by obtain⟨o,h⟩:=zZ;exact⟨o,(dD h).2⟩) id⟩,?_⟩
 let P:List T->St->Hp->Prop:=λjz σ' H'=>∃G' E',xV g F DT jz (md G') E'/\Gd a B G H σ E G' H' σ' E'/\DG q X.K i a G' σ' H'/\RE X.K B (hide (·∈a::dE G') H') σ' E'/\Rp X.K (hide (·∈a::dE G') H') (Ow B σ' E') (.lst items) (.ref pp)
 refine⟨λn m σ' H'=>m=items.length-n/\n<=items.length/\P (items.drop n) σ' H',⟨_,rfl,VZ _,G,E,hF,Kp.refl _ _,d,re,rv⟩,?_⟩;rintro n m σ2 H2 ⟨rfl,hn,G2,E2,q2,g2,d2,mj,rp2⟩;have ok:=Lq (K:=X.K) (p:=pp) (xs:=items);obtain pj|hge:=WR n items.length
 ·have hdr:items.drop n=items[n]::items.drop (n+1):=VT pj;rw[hdr]at q2;refine .inr ⟨ok.go n H2 _ rp2.unhide pj,P (items.drop (n+1)),λσ' H' z=>⟨items.length-(n+1),⋯,rfl,pj,z⟩,λy H4 yl=>?_⟩;obtain⟨e4,yl⟩:=yl;subst e4;obtain⟨p',vs',ep,sq',rs'⟩:=rp2.sqL;cases ep;obtain⟨w,w1,w2⟩:=rs'.get (SX pj);rw[yl vs' (sq'.imp (λh=>h.imp (λh=>(dD h).2) λzZ=>by obtain⟨o,h⟩:=zZ;exact⟨o,(dD h).2⟩) id)]at w1;cases w1;refine⟨_,d2.hid,B,[],E2,items[n],_,by rw[UH];exact mj,by rw[UH];exact w2,q2,λσ5 H5 E5 q5 g5 ux hl5 hk5=>?_⟩;rw[UH]at g5 ux;rw[UH]at g5;refine⟨d2.tk mj g5,λgone=>?_⟩;obtain⟨g6,d6⟩:=d2.after mj g5 gone;have d7:=d6 σ5 (hk5 i (by simp));have re7:RE X.K B (hide (·∈a::dE G2) (back (·∈a::dE G2) H4 H5)) σ5 E5:=by rw[iA gone];exact ux
  have g7:=g2.trans g6;have rp7:Rp X.K (hide (·∈a::dE G2) (back (·∈a::dE G2) H4 H5)) (Ow B σ5 E5) (.lst items) (.ref pp):=by rw[iA gone];exact rp2.step g5
  have l7:=l.step g7;refine⟨a,G2,B,E5,_,d7,re7,iJ q5,?_⟩;exact⟨λσ' H' E' G' z gg d' km=>⟨G',E',z,g7.trans gg,d',km,rp7.step (Gd.hid gg)⟩,l7.rt,λσ' H' E' G' z gg d' km=>l7.nx _ _ _ _ z gg d' km,λσ' H' E' G' z gg d' km=>⟨G',E',z,g7.trans gg,d',km,rp7.step (Gd.hid gg)⟩⟩
 ·have ei:n=items.length:=⋯
  subst ei;rw[WV]at q2;exact .inl ⟨ok.stop H2 _ rp2.unhide,l.nx _ _ _ _ q2 g2 d2 mj⟩
theorem Xz(h:H b=none)(hz:Z=[b]):hide (·∈Z) (upd H b o)=H:=by
 subst hz
 funext c
 by_cases z:c=b
 ·subst z;rw[kU (by simp),h]
 ·rw[cJ (by simpa using z),bD z]
def LR(i:Nat)(F:K8):FS:=λD E=>t6 (E.set i none) (F (K7.of D) [])
theorem CV(hN:X.N.Nodup)(hi:X.N[i]?=oZ x)(hx:y8 X.env.scope x)(kn:QB X uy (zW true i K F))(hs:fo (.Dict [] [] pd) (oZ (.Name x p')) pos.line X.env=pure false:=by rfl)(hf:X.fn x=true\/X.env.scope.names.lookup x=oZ .local:=by first|exact .inl rfl|exact .inr rfl|assumption):QB X (.Assign [.Name x p'] (.Dict [] [] pd) pos::uy) (iO K (LR i F)):=by
 refine(sQ (Er hN hi hx (⟨Zq⟩:QE X (.Dict [] [] pd) G6) hs hf) kn).leM λD σ H hl zZ=>?_;obtain⟨B,E,DT,re,hF,l⟩:=zZ;intro b hb;replace hF:=iJ hF;obtain⟨c4,c5⟩:=re.setVN (i:=i) (v:=.ref b);have li:i<σ.length:=by rw[hl];exact(SW.mp hi).1
 have out:∀{H':Hp}{S':St}{E':En}{G':List Kl},Gd b B [] (upd H b (.dT [])) (σ.set i (oZ (.ref b))) (E.set i none) G' H' S' E'->Gs B H σ E H' S' E':=λ{H' S' E' G'}g=>by
  refine⟨λc o e n=>g.keep c o (by rw[bD (bF e hb)];exact e) λz=>?_,λc z=>?_⟩
  ·obtain z|z:=z
   ·exact n (c5 c z)
   ·have:c=b:=by simpa[dE]using z
    subst this;rw[hb]at e;cases e
  ·obtain (z|z)|z:=g.new c (.inl z)
   ·exact .inl (c5 c z)
   ·have:c=b:=by simpa[dE]using z
    subst this;exact .inr hb
   ·by_cases w:c=b
    ·subst w;exact .inr hb
    ·rw[bD w]at z;exact .inr z
 refine⟨b,[],B,E.set i none,_,⟨VA li,dM,cg,λg hg=>absurd hg (by simp)⟩,by rw[Xz (Z:=b::dE []) hb rfl];exact c4,hF,?_⟩;exact⟨λσ' H' E' G' z g' _ km=>l.nx _ _ _ z (out g') km.unhide,λr E' v H' S' G' z g' km rr=>l.rt _ _ _ _ _ z (out g') km rr,λσ' H' E' G' z g' _ km=>l.bk _ _ _ z (out g') km.unhide,λσ' H' E' G' z g' _ km=>l.ct _ _ _ z (out g') km.unhide⟩
end
def getD:MD->List Key->List T
 |[],_=>[]
 |(k',xs)::r,k=>if k'=k then xs else getD r k
def Em:MD->List Key->List T->MD
 |[],k,ys=>[(k,ys)]
 |(k',xs)::r,k,ys=>if k'=k then(k',ys)::r else(k',xs)::Em r k ys
theorem Hm:∀{G:List Kl},pL (Bd G) k=oZ u->∃G1 g G2,G=G1++g::G2/\u = .ref g.c/\getD (md G) k=g.o/\∀ys,Em (md G) k ys=md (G1++⟨g.k,g.c,ys⟩::G2)
 |[],h=>by cases h
 |g::G,h=>by
  by_cases c:g.k=k
  ·have e:=tJ (p:=(g.k,V.ref g.c)) (r:=Bd G) c;rw[show Bd (g::G)=(g.k,V.ref g.c)::Bd G from rfl,e]at h;cases h;exact⟨[],g,G,rfl,rfl,by show(if g.k=k then g.o else _)=_;rw[oV c],λys=>by show(if g.k=k then _ else _)=_;rw[oV c];rfl⟩
  ·rw[show Bd (g::G)=(g.k,V.ref g.c)::Bd G from rfl,tI (p:=(g.k,V.ref g.c)) c]at h;obtain⟨G1,g',G2,e1,e2,e3,e4⟩:=Hm h;exact⟨g::G1,g',G2,by rw[e1];rfl,e2,by show(if g.k=k then _ else getD (md G) k)=_;rw[oW c];exact e3,λys=>by show(if g.k=k then _ else _::Em (md G) k ys)=_;rw[oW c,e4 ys];rfl⟩
theorem Hl:∀{G:List Kl},pL (Bd G) k=none->getD (md G) k=[]/\(∀c ys,Em (md G) k ys=md (G++[⟨k,c,ys⟩]))/\((Bd G).any λkv=>decide (kv.1=k))=false
 |[],_=>⟨rfl,λ_ _=>rfl,rfl⟩
 |g::G,h=>by
  by_cases c:g.k=k
  ·rw[show Bd (g::G)=(g.k,V.ref g.c)::Bd G from rfl,tJ (p:=(g.k,V.ref g.c)) c]at h;cases h
  ·rw[show Bd (g::G)=(g.k,V.ref g.c)::Bd G from rfl,tI (p:=(g.k,V.ref g.c)) c]at h;obtain⟨e1,e2,e3⟩:=Hl h;refine⟨by show(if g.k=k then _ else getD (md G) k)=_;rw[oW c];exact e1,λd ys=>by show(if g.k=k then _ else _::Em (md G) k ys)=_;rw[oW c,e2 d ys];rfl,?_⟩;rw[show Bd (g::G)=(g.k,V.ref g.c)::Bd G from rfl,YS,e3,oX c];rfl
theorem RE.lend{K:W.Frag}{B:ck->Prop}{H:Hp}{σ:St}{E:En}{t:Nat}{c:ck}{Z:ck->Prop}{ts:List T}{vs:List V}(re:RE K B (hide (λb=>Z b\/b=c) H) σ E)(hc:¬Z c)(h1:H c=oZ (.lst vs))(h2:cP K (hide (λb=>Z b\/b=c) H) (Ow B σ E) ts vs):
  RE K B (hide Z H) (σ.set t (oZ (.ref c))) (E.set t (↥ts))/\∀b,Ow B (σ.set t (oZ (.ref c))) (E.set t (↥ts)) b->Ow B σ E b\/b=c:=by
 have e:upd (hide (λb=>Z b\/b=c) H) c (.lst vs)=hide Z H:=by
  funext b
  by_cases q:b=c
  ·subst q;rw[dM,cJ hc,h1]
  ·rw[bD q]
   by_cases z:Z b
   ·rw[kU (.inl z),kU z]
   ·rw[cJ (λw=>w.elim z q),cJ z]
 obtain⟨g,r⟩:=re.lst (p:=c) (kU (.inr rfl)) h2;rw[e]at r g;have hE:(E++[↥ts])[σ.length]?=oZ (↥ts):=by rw[re.len];simp
 obtain⟨r2,ow⟩:=r.setO (σ:=σ) (i:=t) ⟨_,rfl⟩ (TN _) hE (v:=.ref c) (by simp);have et:(E++[oZ (U.o false ts)]).take σ.length=E:=by rw[re.len];simp
 rw[et]at r2 ow;refine⟨r2,λb z=>?_⟩;obtain w|⟨j,k,xs,h3,h4⟩:=ow b z
 ·exact .inl (.inl w)
 ·obtain⟨lt,h3⟩|⟨e3,h3⟩:=xP h3
  ·rw[UE (by rw[re.len];exact lt)]at h4;exact .inl (.inr ⟨j,k,xs,h3,h4⟩)
  ·rw[e3,<-re.len]at h4;simp at h4;exact .inr h4.symm
theorem RE.hid1{K:W.Frag}{B:ck->Prop}{H:Hp}{σ:St}{E:En}{t:Nat}{c:ck}{ys:List T}(re:RE K B H σ E)(hE:E[t]?=oZ (↥ys))(hS:σ[t]?=oZ (oZ (.ref c))):RE K B (hide (· = c) H) σ (E.set t none)/\(∀b,Ow B σ (E.set t none) b->Ow B σ E b/\b≠c):=by
 have gE:∀{j:Nat}{u:U},(E.set t none)[j]?=oZ (oZ u)->t≠j/\E[j]?=oZ (oZ u):=λ{j u}h=>by
  by_cases q:t=j
  ·subst q
   by_cases d:t<E.length
   ·rw[VA d]at h;cases h
   ·rw[XZ (by simpa using d)]at h;cases h
  ·rw[UK q]at h;exact⟨q,h⟩
 obtain⟨a',vs,s1,s2,s3,s4⟩:=re.own t false ys hE;rw[hS]at s1;cases s1;have nB:¬B c:=λz=>by have:=s4.mpr z;cases this
 have oc:Ow B σ E c:=.inr ⟨t,false,ys,hE,hS⟩;have ow:∀b,Ow B σ (E.set t none) b->Ow B σ E b/\b≠c:=λb z=>by
  obtain z|⟨j,k,xs,h1,h2⟩:=z
  ·exact⟨.inl z,λw=>nB (w ▸ z)⟩
  ·obtain⟨n,h1⟩:=gE h1;refine⟨.inr ⟨j,k,xs,h1,h2⟩,λw=>n ?_⟩;subst w;exact re.inj t j false k ys xs _ hE h1 hS h2
 have kp:Kp (Ow B σ E) (Ow B σ (E.set t none)) H (hide (· = c) H):=⟨λb o e n=>by rw[cJ (λw=>n (by rw[show b=c from w];exact oc))];exact e,λb z=>.inl (ow b z).1⟩;refine⟨⟨by simpa using re.len,λj u h=>?_,λj k xs h=>?_,λj m k l xs ys' b h1 h2 h3 h4=>?_,λb z=>?_⟩,ow⟩
 ·obtain⟨v,h1,h2⟩:=re.pure j u (gE h).2;exact⟨v,h1,h2.step kp⟩
 ·obtain⟨n,h'⟩:=gE h;obtain⟨b,ws,h1,h2,h3,h4⟩:=re.own j k xs h';refine⟨b,ws,h1,?_,h3.step kp,h4⟩;rw[cJ (λw=>n (re.inj t j false k ys xs c hE h' hS (by rw[h1,show b=c from w])))];exact h2
 ·exact re.inj j m k l xs ys' b (gE h1).2 (gE h2).2 h3 h4
 ·obtain⟨us,e⟩:=re.bd b z;exact⟨us,by rw[cJ (Z:=(· = c)) (λw=>nB (by rw[<-show b=c from w];exact z))];exact e⟩
theorem RE.vlT{K:W.Frag}{B:ck->Prop}{H:Hp}{S:St}{E:En}(re:RE K B H S E){r:R}{v:V}{ts:List T}(h:RR K B H S E r v)(e:L2.vl E r=oZ (.tup ts)):Rp K H (Ow B S E) (.tup ts) v:=by
 cases r with
 |p u=>cases e;exact h
 |s i=>
  cases q:E[i]? with
  |none=>simp only[L2.vl,q]at e;cases e
  |some u=>
   cases u with
   |none=>simp only[L2.vl,q]at e;cases e
   |some u=>
    cases u with
    |p u=>
     simp only[L2.vl,q]at e;cases e;obtain⟨w,h1,h2⟩:=re.pure i _ q;have h':S[i]?=oZ (oZ v):=h;rw[h']at h1;cases h1;exact h2
    |o k xs=>simp only[L2.vl,q]at e;cases e
mutual
theorem LN{K:W.Frag}{H:Hp}{O O':ck->Prop}(hO:∀b,O' b->O b\/∃la,H b=oZ (Z3 true la)):∀{t:T}{v:V},Rp K H O t v->Rp K H O' t v
 |.non,_,h=>h
 |.bl _,_,h=>h
 |.int _,_,h=>h
 |.str _,_,h=>h
 |.tup xs,v,h=>by
  obtain⟨a,vs,e1,h1,h2⟩:=h;refine⟨a,vs,e1,h1.imp (λ⟨n,h⟩=>⟨λz=>?_,h⟩) id,Ff hO h2⟩;obtain z|⟨la,q⟩:=hO a z
  ·exact n z
  ·rw[h]at q;cases q
 |.lst xs,v,h=>by
  obtain⟨a,vs,e1,h1,h2⟩:=h;refine⟨a,vs,e1,h1.imp (λ⟨n,h⟩=>⟨λz=>?_,h⟩) id,Ff hO h2⟩;obtain z|⟨la,q⟩:=hO a z
  ·exact n z
  ·obtain h|⟨o,h⟩:=h
   ·rw[h]at q;cases q
   ·rw[h]at q;cases q
theorem Ff{K:W.Frag}{H:Hp}{O O':ck->Prop}(hO:∀b,O' b->O b\/∃la,H b=oZ (Z3 true la)):∀{xs:List T}{vs:List V},cP K H O xs vs->cP K H O' xs vs
 |[],_,h=>h
 |_::_,_,⟨v,r,e,h1,h2⟩=>⟨v,r,e,LN hO h1,Ff hO h2⟩
end
def Vq(K:W.Frag):Prop:=∀a x y z,¬KT K a [V.int x,V.int y,V.int z]
def MV(t:Option T)(k:List Key->Prop):Prop:=match t with
 |some (.tup [.int a,.int b,.int c])=>k [Sum.inl a,Sum.inl b,Sum.inl c]
 |_=>False
theorem MV.ex{k:List Key->Prop}(h:MV t k):∃a b c,t=oZ (.tup [.int a,.int b,.int c])/\k [Sum.inl a,Sum.inl b,Sum.inl c]:=by
 unfold MV at h;split at h
 ·exact⟨_,_,_,rfl,h⟩
 ·exact h.elim
def Bm(E:En)(p:Nat)(k:List T->Prop):Prop:=match E[p]? with
 |some (↥xs)=>k xs
 |_=>False
theorem Bm.ex{k:List T->Prop}(h:Bm E p k):∃xs,E[p]?=oZ (↥xs)/\k xs:=by
 unfold Bm at h;split at h
 ·rename_i xs e;exact⟨xs,e,h⟩
 ·exact h.elim
def QM(t:Nat)(Fk:FE)(F:FS):K8:=λD M E=>Fk E λr E1=>E1=E/\M.length<9000/\MV (vl E r) λk=>t6 (E.set t (↥(getD M k)))
 (F { nx:=λE'=>Bm E' t λys=>dN ys=true/\D.nx (Em M k ys) (E'.set t none),rt:=λ_ _=>False })
theorem CU{X:Cx}{K:W.Frag}{uy:List dh}{i:Nat}{t:Nat}{Fk:FE}{F:FS}{x y:Str}{p' p1 ap pl cp pos:Pos}{ek:oC}{j:Nat}(hr:fF j X.A)(eK:X.K=K)(n3:Vq K)(hN:X.N.Nodup)(ht:X.N[t]?=oZ x)(hx:y8 X.env.scope x)(hi:X.N[i]?=oZ y)(hv:CI X.env.scope y)(hti:t≠i)(hk:QE X ek (aJ K Fk))(kn:QB X uy (lM [i,t] K F))(m:M2 X (.Name y p1) "setdefault" ap ek (.List [] pl) cp)(hs:fo (.Call (.Attribute (.Name y p1) "setdefault" ap) [ek,.List [] pl] [] cp) (oZ (.Name x p')) pos.line X.env=pure false:=by rfl)(hf:X.fn x=true\/X.env.scope.names.lookup x=oZ .local:=by first|exact .inl rfl|exact .inr rfl|assumption)(hd:(y==("__debug__":Str))=false:=by decide)(vj:(y==("__classdict__":Str))=false:=by decide):
  QB X (.Assign [.Name x p'] (.Call (.Attribute (.Name y p1) "setdefault" ap) [ek,.List [] pl] [] cp) pos::uy) (zW true i K (QM t Fk F)):=by
 subst eK;refine(sQ (Er hN ht hx (⟨T5 (JM hr) (Zt hi hv hd vj) hk.frame.h (Mo Mm).h m⟩:QE X _ _) hs hf) kn.frame).leM λD σ H hl zZ=>?_;obtain⟨a,G,B,E,DT,d,re,hF,l⟩:=zZ;have lt:t<σ.length:=by rw[hl];exact(SW.mp ht).1
 refine⟨.ref a,d.nm,a,rfl,.inr ⟨_,.inl d.dc⟩,_,d.hid,B,σ,E,_,⟨[],by simp⟩,re,hF,λr E1 v H1 S1 z g kq rr=>⟨d.tk re g.kp,λgone=>⟨VZ _,λp hp=>?_⟩⟩⟩;obtain⟨rfl,hM,z⟩:=z;obtain⟨ka,kb,kc,ez,z⟩:=z.ex;replace z:=iJ z;obtain rfl:S1=σ:=by
  obtain⟨τ,hτ⟩:=g.pre;have h1:=congrArg YO hτ;rw[TC,kq.len,re.len]at h1;obtain rfl:τ=[]:=WC ⋯;rw[hτ,UH]
 obtain⟨g1,d1⟩:=d.after re g.kp gone;replace d1:=d1 S1 rfl;have hb2:hide (·∈a::dE G) (back (·∈a::dE G) H H1)=H1:=iA gone;obtain⟨kb',vs,rfl,sq,rs⟩:=kq.vlT rr ez;have eb:H1 kb'=oZ (.tup ([Sum.inl ka,Sum.inl kb,Sum.inl kc].map kV)):=by
  obtain⟨v1,r1,rfl,q1,v2,r2,rfl,q2,v3,r3,rfl,q3,rfl⟩:=rs;cases q1;cases q2;cases q3;obtain sq|sq:=sq
  ·exact sq.2
  ·exact absurd sq (n3 _ _ _ _)
 generalize hH2:back (·∈a::dE G) H H1=H2 at hp g1 d1 hb2;have n1:∀{b:ck}{o:HO},H1 b=oZ o->b∉a::dE G:=λ{b o}h m=>by rw[gone b m]at h;cases h
 have e12:∀{b:ck}{o:HO},H1 b=oZ o->H2 b=oZ o:=λ{b o}h=>by rw[<-hH2,dS (n1 h)];exact h
 have np:∀{b:ck}{o:HO},H2 b=oZ o->b≠p:=λ{b o}h z=>by rw[z,hp]at h;cases h
 have up:∀{b:ck}{o o':HO},H2 b=oZ o->(upd H2 p o') b=oZ o:=λ{b o o'}h=>by rw[bD (np h)];exact h
 have pZ:p∉a::dE G:=λm=>by
  obtain⟨o,e,_⟩:=d1.hid p m;rw[hp]at e;cases e
 -- the rest of the block,the list of g lent
 have rest:∀(G1 G2:List Kl)(g0:Kl)(Hx:Hp)(M':List T->MD),Hx a=oZ (Z3 true (G1++g0::G2))->(∀b o,H2 b=oZ o->b≠a->Hx b=oZ o)->(dE (G1++g0::G2)).Nodup->a∉dE (G1++g0::G2)->
   (∀g'∈G1++g0::G2,∃vs,Hx g'.c=oZ (.lst vs)/\cP X.K Hx (λc=>dO Hx c\/c=a) g'.o vs)->(∀b,b∈dE (G1++g0::G2)->b∈a::dE G\/b=p)->(∀ys,M' ys=md (G1++⟨g0.k,g0.c,ys⟩::G2))->
   F { nx:=λE'=>Bm E' t λys=>dN ys=true/\DT.nx (M' ys) (E'.set t none),rt:=λ_ _=>False } (E1.set t (↥g0.o))->
   OZ (lM [i,t] X.K F) D (S1.set t (oZ (.ref g0.c))) Hx:=λG1 G2 g0 Hx M' xa xk nd na ls sub hM' z=>by
  have ad:∀{g':Kl},g'∈G1++g0::G2->g'.c∈dE (G1++g0::G2):=λm=>Cm m;have mem:∀{b:ck},b∈dE (G1++g0::G2)↔b∈dE (G1++G2)\/b=g0.c:=λ{b}=>by simp[dE,or_comm,or_left_comm]
  have nc:g0.c∉a::dE (G1++G2):=λm=>by
   obtain e|m:=SU.mp m
   ·exact na (by rw[<-e];exact mem.mpr (.inr rfl))
   ·have:(dE (G1++g0::G2)).Perm (g0.c::dE (G1++G2)):=by
     show List.Perm ((G1++g0::G2).map (·.c)) (((g0::(G1++G2)).map (·.c)));exact List.Perm.map _ List.perm_middle
    exact(WK.mp (this.nodup_iff.mp nd)).1 m
  have hZ:∀c∈a::dE (G1++G2),∃o,Hx c=oZ o/\Sq o:=λc m=>by
   obtain e|m:=SU.mp m
   ·rw[e];exact⟨_,xa,Ox _ _⟩
   ·obtain⟨g',mg,rfl⟩:=vQ m;obtain⟨vs,h,_⟩:=ls g' (by rcases TY.mp mg with w|w<;>simp[w]);exact⟨_,h,trivial⟩
  obtain⟨vs0,c1,c2⟩:=ls g0 (by simp)
  -- the environment,with all of it hidden
  have ex:∀b o,H1 b=oZ o->hide (λb=>b∈a::dE (G1++G2)\/b=g0.c) Hx b=oZ o:=λb o e=>by
   have h2:=e12 e;rw[cJ]
   ·exact xk b o h2 λw=>n1 e (by rw[w];simp)
   ·intro w;have:b∈a::dE (G1++g0::G2):=by
     obtain w|w:=w
     ·obtain w|w:=SU.mp w
      ·rw[w];simp
      ·exact UI _ (mem.mpr (.inl w))
     ·exact UI _ (mem.mpr (.inr w))
    obtain w|w:=SU.mp this
    ·exact n1 e (by rw[w];simp)
    ·obtain w|w:=sub b w
     ·exact n1 e w
     ·exact np h2 w
  have mj:=kq.kept ex;have isl:∀{b:ck},Ow B S1 E1 b->dO Hx b/\b∉a::dE (G1++G2)/\b≠g0.c:=λ{b}w=>by
   obtain⟨us,e⟩:=mj.ow w;obtain⟨n,e⟩:=dD e;exact⟨⟨us,e⟩,λw=>n (.inl w),λw=>n (.inr w)⟩
  have c3:cP X.K (hide (λb=>b∈a::dE (G1++G2)\/b=g0.c) Hx) (Ow B S1 E1) g0.o vs0:=by
   refine c2.step ⟨λb o e n=>?_,λb w=>.inl (.inl (isl w).1)⟩;rw[cJ];exact e;intro w;obtain w|w:=w
   ·obtain w|w:=SU.mp w
    ·exact n (.inr w)
    ·obtain⟨g',mg,rfl⟩:=vQ w;obtain⟨vs,h,_⟩:=ls g' (by rcases TY.mp mg with w|w<;>simp[w]);exact n (.inl ⟨vs,h⟩)
   ·rw[w]at n;exact n (.inl ⟨vs0,c1⟩)
  obtain⟨oj,ow3⟩:=mj.lend (t:=t) nc c1 c3;have aGF:∀{b:ck}{o:HO},Hx b=oZ o->¬Sq o->b∉a::dE (G1++G2):=λ{b o}e n m=>by
   obtain⟨o',e',k⟩:=hZ b m;rw[e]at e';cases e';exact n k
  refine⟨_,hZ,B,_,_,oj,z,⟨λσ' H5 E5 w g5 ux hk=>⟨λb xs e=>?_,λaBD=>?_⟩,λ_ _ _ _ _ w=>w.elim,λ_ _ _ w=>w.elim,λ_ _ _ w=>w.elim⟩⟩
  ·refine g5.keep b _ (by rw[cJ (aGF e λw=>w)];exact e) λw=>?_;obtain⟨us,e'⟩:=oj.ow w;rw[(dD e').2]at e;cases e
  ·obtain⟨ys,eo,w1,w2⟩:=Bm.ex w;have st:σ'[t]?=oZ (oZ (.ref g0.c)):=by rw[hk t (by simp),VA lt]
   have si:σ'[i]?=oZ (oZ (.ref a)):=by rw[hk i (by simp),UK hti];exact d.nm
   obtain⟨a',vs5,s1,s2,s3,s4⟩:=ux.own t false ys eo;rw[st]at s1;cases s1;obtain⟨re6,ow6⟩:=ux.hid1 eo st;have v5:∀{b:ck}{o:HO},H5 b=oZ o->b∉a::dE (G1++G2):=λ{b o}h m=>by rw[aBD b m]at h;cases h
   have eH:hide (·∈a::dE (G1++⟨g0.k,g0.c,ys⟩::G2)) (back (·∈a::dE (G1++G2)) Hx H5)=hide (· = g0.c) H5:=by
    funext b
    have em:b∈a::dE (G1++⟨g0.k,g0.c,ys⟩::G2)↔b∈a::dE (G1++G2)\/b=g0.c:=by simp[dE,or_comm,or_left_comm,or_assoc]
    by_cases w:b=g0.c
    ·rw[kU (em.mpr (.inr w)),kU (Z:=(· = g0.c)) w]
    ·by_cases w':b∈a::dE (G1++G2)
     ·rw[kU (em.mpr (.inl w')),cJ (Z:=(· = g0.c)) w,aBD b w']
     ·rw[cJ (λm=>(em.mp m).elim w' w),cJ (Z:=(· = g0.c)) w,dS w']
   have aK6:∀{b:ck},Ow B σ' E5 b->dO H5 b:=λ{b}w=>ux.ow w;have keep:∀b o,Hx b=oZ o->¬(dO Hx b\/b=a)->back (·∈a::dE (G1++G2)) Hx H5 b=oZ o:=λb o e n=>by
    by_cases m:b∈a::dE (G1++G2)
    ·rw[j6 m];exact e
    ·rw[dS m];refine g5.keep b o (by rw[cJ m];exact e) λw=>?_;obtain⟨us,e'⟩:=oj.ow w;exact n (.inl ⟨us,(dD e').2⟩)
   have nla:¬dO Hx a:=λzZ=>by obtain⟨us,e⟩:=zZ;rw[xa]at e;exact Wr (Option.some.inj e)
   have ba:back (·∈a::dE (G1++G2)) Hx H5 a=Hx a:=j6 (by simp);have dg:DG true X.K i a (G1++⟨g0.k,g0.c,ys⟩::G2) σ' (back (·∈a::dE (G1++G2)) Hx H5):=by
    refine⟨si,by rw[ba,xa];simp[Z3,Bd],by have:=nd;simpa[dE]using this,λg' mg=>?_⟩;have old:∀g'∈G1++G2,∃vs,back (·∈a::dE (G1++G2)) Hx H5 g'.c=oZ (.lst vs)/\cP X.K (back (·∈a::dE (G1++G2)) Hx H5) (λc=>dO (back (·∈a::dE (G1++G2)) Hx H5) c\/c=a) g'.o vs:=λg' mg=>by
     obtain⟨vs,h1,h2⟩:=ls g' (by rcases TY.mp mg with w|w<;>simp[w]);exact⟨vs,by rw[j6 (UI _ (Cm mg))];exact h1,h2.step (Qb keep nla)⟩
    obtain m|m:=TY.mp mg
    ·exact old g' (TY.mpr (.inl m))
    ·obtain m|m:=SU.mp m
     ·subst m;refine⟨vs5,by rw[dS nc];exact s2,?_⟩;have r1:cP X.K (back (·∈a::dE (G1++G2)) Hx H5) (Ow B σ' E5) ys vs5:=s3.step ⟨λb o e _=>by rw[dS (v5 e)];exact e,λ_ w=>.inl w⟩;have r2:cP X.K (back (·∈a::dE (G1++G2)) Hx H5) (dO (back (·∈a::dE (G1++G2)) Hx H5)) ys vs5:=cP.noL (λb w=>w) w1 r1;exact Ff (λb w=>w.imp id λw=>by subst w;exact⟨_,by rw[ba];exact xa⟩) r2
     ·exact old g' (TY.mpr (.inr m))
   refine l.nx _ _ _ (G1++⟨g0.k,g0.c,ys⟩::G2) (by rw[<-hM' ys];exact w2) ?_ dg (by rw[eH];exact re6);have em:∀{b:ck},b∈a::dE (G1++⟨g0.k,g0.c,ys⟩::G2)↔b∈a::dE (G1++g0::G2):=λ{b}=>by simp[dE]
   refine g1.trans ⟨λb o e n=>?_,λb w=>?_⟩
   ·have nz:b∉a::dE G:=λw=>n (.inr w);have nx:b≠a:=λw=>nz (by rw[w];simp);have ex:=xk b o e nx;have nm2:b∉dE (G1++g0::G2):=λw=>(sub b w).elim nz (np e);have nm3:b∉a::dE (G1++G2):=λw=>(SU.mp w).elim nx λw=>nm2 (mem.mpr (.inl w));rw[dS nm3];refine g5.keep b o (by rw[cJ nm3];exact ex) λw=>?_;obtain w|w:=ow3 b w
    ·exact n (.inl w)
    ·exact nm2 (mem.mpr (.inr w))
   ·have pn:∀{b:ck},b=p->H2 b=none:=λe=>by rw[e];exact hp
    obtain w|w:=w
    ·obtain⟨w,nc6⟩:=ow6 b w;obtain w|w:=g5.new b w
     ·obtain w|w:=ow3 b w
      ·exact .inl (.inl w)
      ·exact absurd w nc6
     ·by_cases m:b∈a::dE (G1++G2)
      ·obtain m|m:=SU.mp m
       ·exact .inl (.inr (by rw[m];simp))
       ·obtain m|m:=sub b (mem.mpr (.inl m))
        ·exact .inl (.inr m)
        ·exact .inr (pn m)
      ·rw[cJ m]at w;cases e:H2 b with
       |none=>exact .inr rfl
       |some o=>
        by_cases m2:b=a
        ·exact .inl (.inr (by rw[m2];simp))
        ·rw[xk b o e m2]at w;cases w
    ·obtain m|m:=SU.mp (em.mp w)
     ·exact .inl (.inr (by rw[m];simp))
     ·obtain m|m:=sub b m
      ·exact .inl (.inr m)
      ·exact .inr (pn m)
 have naG:a∉dE G:=λm=>by
  obtain⟨g',mg,e⟩:=vQ m;obtain⟨vs,h,_⟩:=d1.ls g' mg;rw[e]at h;exact d1.nl ⟨vs,h⟩
 refine⟨kb',Bd G,[Sum.inl ka,Sum.inl kb,Sum.inl kc],rfl,up d1.dc,up (e12 eb),by rw[jy];simp only[Bd,md,SV]at hM⊢;lia,λu hu=>?_,λhn=>?_⟩
 ·obtain⟨G1,g0,G2,eG,rfl,e3,e4⟩:=Hm hu;rw[e3]at z;rw[eG]at naG;refine rest G1 G2 g0 _ _ (by rw[<-eG];exact up d1.dc) (λb o e _=>up e) (by rw[<-eG];exact d1.nd) naG (λg' mg=>?_) (λb m=>.inl (UI _ (by rw[eG];exact m))) e4 z;obtain⟨vs,h1,h2⟩:=d1.ls g' (by rw[eG];exact mg);exact⟨vs,up h1,h2.step (Qb (λb o e _=>up e) d1.nl)⟩
 ·obtain⟨e1,e2,e3⟩:=Hl hn;rw[e1]at z;have ap:a≠p:=np d1.dc;have xk:∀b o,H2 b=oZ o->b≠a->(upd (upd H2 p (.lst [])) a (.dT (Eo (Bd G) [Sum.inl ka,Sum.inl kb,Sum.inl kc] (.ref p)))) b=oZ o:=λb o e n=>by rw[bD n];exact up e
  refine rest G [] ⟨[Sum.inl ka,Sum.inl kb,Sum.inl kc],p,[]⟩ _ _ ?_ xk ?_ ?_ (λg' mg=>?_) (λb m=>?_) (e2 p) z
  ·rw[dM];unfold Eo;rw[oW (by rw[e3];decide)];simp[Z3,Bd]
  ·have h1:=d1.nd;have h2:p∉dE G:=λm=>pZ (UI _ m);show(List.map (·.c) (G++[_])).Nodup;rw[US,List.nodup_append];exact⟨h1,by simp,λx hx y hy w=>by simp at hy;rw[w,hy]at hx;exact h2 hx⟩
  ·intro m;simp only[dE,US,TH,XD,TY,TM]at m;obtain m|m:=m
   ·exact naG m
   ·exact ap m
  ·obtain m|m:=TY.mp mg
   ·obtain⟨vs,h1,h2⟩:=d1.ls g' m;have ne:g'.c≠a:=λw=>naG (by rw[<-w];exact Cm m);exact⟨vs,xk _ _ h1 ne,h2.step (Qb (λb o e n=>xk b o e λw=>n (.inr w)) d1.nl)⟩
   ·simp at m;subst m;exact⟨[],by rw[bD (λw=>ap w.symm),dM],rfl⟩
  ·simp only[dE,US,TH,XD,TY,TM]at m;exact m.imp (λm=>UI _ m) id
def Ec:List Int->Int
 |[]=>0
 |n::ns=>ns.foldl (λa b=>if b<a then b else a) n
def Ea:List Int->Int
 |[]=>0
 |n::ns=>ns.foldl (λa b=>if a<b then b else a) n
theorem xM:∀(ns:List Int)(n:Int),(ns.foldl (λa b=>if b<a then b else a) n=n\/ns.foldl (λa b=>if b<a then b else a) n∈ns)/\ns.foldl (λa b=>if b<a then b else a) n<=n/\∀z∈ns,ns.foldl (λa b=>if b<a then b else a) n<=z
 |[],n=>⟨.inl rfl,Int.le_refl _,λz h=>absurd h (by simp)⟩
 |m::ns,n=>by
  obtain⟨h1,h2,h3⟩:=xM ns (if m<n then m else n);rw[VN];generalize ns.foldl (λa b=>if b<a then b else a) (if m<n then m else n)=r at h1 h2 h3
  by_cases c:m<n
  ·rw[oV c]at h1 h2;refine⟨.inr ?_,⋯,λz hz=>?_⟩
   ·rcases h1 with h1|h1<;>simp[h1]
   ·obtain rfl|hz:=SU.mp hz
    ·exact h2
    ·exact h3 z hz
  ·rw[oW c]at h1 h2;refine⟨h1.imp id λh=>by simp[h],h2,λz hz=>?_⟩;obtain rfl|hz:=SU.mp hz
   ·lia
   ·exact h3 z hz
theorem xK:∀(ns:List Int)(n:Int),(ns.foldl (λa b=>if a<b then b else a) n=n\/ns.foldl (λa b=>if a<b then b else a) n∈ns)/\n<=ns.foldl (λa b=>if a<b then b else a) n/\∀z∈ns,z<=ns.foldl (λa b=>if a<b then b else a) n
 |[],n=>⟨.inl rfl,Int.le_refl _,λz h=>absurd h (by simp)⟩
 |m::ns,n=>by
  obtain⟨h1,h2,h3⟩:=xK ns (if n<m then m else n);rw[VN];generalize ns.foldl (λa b=>if a<b then b else a) (if n<m then m else n)=r at h1 h2 h3
  by_cases c:n<m
  ·rw[oV c]at h1 h2;refine⟨.inr ?_,⋯,λz hz=>?_⟩
   ·rcases h1 with h1|h1<;>simp[h1]
   ·obtain rfl|hz:=SU.mp hz
    ·exact h2
    ·exact h3 z hz
  ·rw[oW c]at h1 h2;refine⟨h1.imp id λh=>by simp[h],h2,λz hz=>?_⟩;obtain rfl|hz:=SU.mp hz
   ·lia
   ·exact h3 z hz
theorem P5{ns:List Int}{M:Int}(h:M∈ns)(k:∀z∈ns,M<=z):M=Ec ns:=by
 cases ns with
 |nil=>simp at h
 |cons n ns=>
  obtain⟨h1,h2,h3⟩:=xM ns n;show M=ns.foldl _ n;generalize ns.foldl (λa b=>if b<a then b else a) n=r at h1 h2 h3;have a1:r<=M:=by
   obtain rfl|h:=SU.mp h
   ·exact h2
   ·exact h3 M h
  have a2:M<=r:=k r (by rcases h1 with h1|h1<;>simp[h1])
  lia
theorem P0{ns:List Int}{M:Int}(h:M∈ns)(k:∀z∈ns,z<=M):M=Ea ns:=by
 cases ns with
 |nil=>simp at h
 |cons n ns=>
  obtain⟨h1,h2,h3⟩:=xK ns n;show M=ns.foldl _ n;generalize ns.foldl (λa b=>if a<b then b else a) n=r at h1 h2 h3;have a1:M<=r:=by
   obtain rfl|h:=SU.mp h
   ·exact h2
   ·exact h3 M h
  have a2:r<=M:=k r (by rcases h1 with h1|h1<;>simp[h1])
  lia
theorem qX:∀{ns:List Int}{us:List oA},bB (ns.map V.int) us->∃xs:Array (Int×Tok),us.toArray=intItems xs/\ns=xs.toList.map (·.1)
 |[],us,h=>by cases h;exact⟨#[],by simp[intItems],rfl⟩
 |n::ns,us,h=>by
  cases h with
  |cons h1 h2=>
   obtain⟨t,rfl⟩:=h1;obtain⟨xs,e1,e2⟩:=qX h2;refine⟨((n,t)::xs.toList).toArray,?_,by simp[e2]⟩;have e1':=congrArg cj e1;simp[intItems]at e1';simp[intItems,e1']
section
variable{X:Cx}{e:oC}{es:List oC}{pos:Pos}{K:W.Frag}{Fr:FA}
theorem Tb(hc:X.calm=true):j0 X (.builtin "min") (λxs H Q=>∃(a:ck)(ns:List Int),xs=[.ref a]/\j5 X.K H a (ns.map V.int)/\0<ns.length/\Q (.int (Ec ns)) H):=by
 intro pins s σ H xs us Q I r h;obtain⟨a,ns,rfl,sq,hn,q⟩:=h;obtain⟨u,rfl,rx⟩:=bB.one r;cases rx;obtain⟨jz,rv,ht,hz⟩:=I.list sq;obtain⟨xs,e1,e2⟩:=qX rv;have hl:=ht.isList;rw[e1]at hl;have xf:0<xs.size:=by rw[e2]at hn;simpa using hn
 refine min_intList (I.ok.hd hc) hl xf λv h' tk hv hk=>?_;obtain⟨t,rfl⟩:=intItems_at hv;obtain⟨h1,h2⟩:=argBest_lt (numAt xs) (xs.size-1);have:numAt xs (argBest (λi j=>decide (numAt xs i<numAt xs j)) (xs.size-1))=Ec ns:=by
  refine P5 ?_ λz hz=>?_
  ·rw[numAt_eq,<-e2];have:argBest (λi j=>decide (numAt xs i<numAt xs j)) (xs.size-1)<ns.length:=by rw[e2];simp;lia
   rw[TV,SX this];exact WA _
  ·obtain⟨j,hj,rfl⟩:=List.getElem_of_mem hz;have:=h2 j (by rw[e2]at hj;simp at hj;lia);rw[numAt_eq xs j,<-e2,TV,SX hj]at this;exact this
 rw[this];exact⟨.int _,H,I.kept hk,⟨_,rfl⟩,q⟩
theorem Sz(hc:X.calm=true):j0 X (.builtin "max") (λxs H Q=>∃(a:ck)(ns:List Int),xs=[.ref a]/\j5 X.K H a (ns.map V.int)/\0<ns.length/\Q (.int (Ea ns)) H):=by
 intro pins s σ H xs us Q I r h;obtain⟨a,ns,rfl,sq,hn,q⟩:=h;obtain⟨u,rfl,rx⟩:=bB.one r;cases rx;obtain⟨jz,rv,ht,hz⟩:=I.list sq;obtain⟨xs,e1,e2⟩:=qX rv;have hl:=ht.isList;rw[e1]at hl;have xf:0<xs.size:=by rw[e2]at hn;simpa using hn
 refine max_intList (I.ok.hd hc) hl xf λv h' tk hv hk=>?_;obtain⟨t,rfl⟩:=intItems_at hv;obtain⟨h1,h2⟩:=argBest_gt (numAt xs) (xs.size-1);have:numAt xs (argBest (λi j=>decide (numAt xs i>numAt xs j)) (xs.size-1))=Ea ns:=by
  refine P0 ?_ λz hz=>?_
  ·rw[numAt_eq,<-e2];have:argBest (λi j=>decide (numAt xs i>numAt xs j)) (xs.size-1)<ns.length:=by rw[e2,SV,XG];lia
   rw[TV,SX this];exact WA _
  ·obtain⟨j,hj,rfl⟩:=List.getElem_of_mem hz;have:=h2 j (by rw[e2]at hj;simp at hj;lia);rw[numAt_eq xs j,<-e2,TV,SX hj]at this;exact this
 rw[this];exact⟨.int _,H,I.kept hk,⟨_,rfl⟩,q⟩
def PD(t:Option T)(k:List Int->Prop):Prop:=∃ns:List Int,t=oZ (.lst (ns.map T.int))/\0<ns.length/\k ns
theorem yC{O:ck->Prop}:∀{ns:List Int}{vs:List V},cP K H O (ns.map T.int) vs->vs=ns.map V.int
 |[],_,h=>h
 |n::ns,_,⟨v,r,e,h1,h2⟩=>by
  subst e;have h1:v=V.int n:=h1;rw[h1,yC h2];rfl
def RC(f:List Int->Int)(Fr:FA):FE:=λE Q=>Fr E λrs E1=>match rs with
 |[x]=>PD (vl E1 x) λns=>Q (.p (.int (f ns))) E1
 |_=>False
theorem Pf(eK:X.K=K)(hc:X.calm=true)(hg:Gl X "min")(hm:X.mg "min" = none)(ha:QA X (e::es) (dJ K n Fr))(hs:bW (e::es)=true:=by rfl):QE X (.Call (.Name "min" p) (e::es) [] pos) (aJ K (RC Ec Fr)):=by
 subst eK;refine(i9 (Tb hc) hg hm boot_min ha ∅ ∅ hs).le λσ H Q hl h=>args (Fr:=Fr) h λB S E rs vs H2 Q' hS re rr hn q lk=>?_
 match rs,rr,q with
 |[x],⟨v,ws,e1,h1,h3⟩,q=>
  cases h3;subst e1;obtain⟨ns,e3,h0,q⟩:=q;obtain⟨a,vs,e4,sq,rs⟩:=re.vl h1 e3;rw[yC rs]at sq;exact⟨a,ns,by rw[e4],sq,h0,lk _ _ _ _ _ q .refl re rfl⟩
 |[],_,q=>exact q.elim
 |_::_::_,_,q=>exact q.elim
theorem Pe(eK:X.K=K)(hc:X.calm=true)(hg:Gl X "max")(hm:X.mg "max" = none)(ha:QA X (e::es) (dJ K n Fr))(hs:bW (e::es)=true:=by rfl):QE X (.Call (.Name "max" p) (e::es) [] pos) (aJ K (RC Ea Fr)):=by
 subst eK;refine(i9 (Sz hc) hg hm boot_max ha ∅ ∅ hs).le λσ H Q hl h=>args (Fr:=Fr) h λB S E rs vs H2 Q' hS re rr hn q lk=>?_
 match rs,rr,q with
 |[x],⟨v,ws,e1,h1,h3⟩,q=>
  cases h3;subst e1;obtain⟨ns,e3,h0,q⟩:=q;obtain⟨a,vs,e4,sq,rs⟩:=re.vl h1 e3;rw[yC rs]at sq;exact⟨a,ns,by rw[e4],sq,h0,lk _ _ _ _ _ q .refl re rfl⟩
 |[],_,q=>exact q.elim
 |_::_::_,_,q=>exact q.elim
end
section
variable{X:Cx}{K:W.Frag}{Fa:FE}{tg:oC}
def JN(K:W.Frag)(tl:TE):TI:=λσ H R=>tl σ H λx H1=>∃a,x = .ref a/\((∃xs,j5 K H1 a xs)/\R (NC K a) H1\/(∃xs,vG K H1 a xs)/\R (ND K a) H1)
theorem FQ(hl:PE X l tl):PI X tg l (JN X.K tl):=by
 intro pins s σ H R I h;refine dZ (hl pins s σ H _ I h) λv s1 zZ=>?_;obtain⟨x,H1,I1,r1,q1⟩:=zZ;obtain⟨a,e,q⟩:=q1;subst e;cases r1;obtain⟨⟨xs,hq⟩,q⟩|⟨⟨xs,hq⟩,q⟩:=q
 ·obtain⟨jz,rv,p,hz⟩:=I1.list hq;refine wpAny_pyIter_list p.isList ?_;refine⟨s1.heap.objs.size,[s1.heap.objs.size],_,_,H1,rfl,I1.kept (t':=s1.toks) λb o e=>TJ _ e,Cc a _,⟨_,UG _ rfl,rfl,rfl⟩,λb hb=>?_,q⟩;have e:b=s1.heap.objs.size:=by simpa using hb
  subst e;exact I1.fpOk (TN _) (I1.hok.fresh (TN _))
 ·obtain⟨jz,rv,p,hz⟩:=I1.tuple hq;refine jd (show s1.heap.IsTuple a jz.toArray from p) ?_;refine⟨s1.heap.objs.size,[s1.heap.objs.size],_,_,H1,rfl,I1.kept (t':=s1.toks) λb o e=>TJ _ e,yW a _,⟨_,UG _ rfl,rfl,rfl⟩,λb hb=>?_,q⟩;have e:b=s1.heap.objs.size:=by simpa using hb
  subst e;exact I1.fpOk (TN _) (I1.hok.fresh (TN _))
def SG(Fa:FE):FI:=λE Q=>Fa E λr E1=>match vl E1 r with
 |some (.lst xs)=>tH E1 r=[]/\Q xs [] E1
 |some (.tup xs)=>tH E1 r=[]/\Q xs [] E1
 |_=>False
theorem Xi(eK:X.K=K)(hl:QE X l (aJ K Fa)):QI X tg l (kL K (SG Fa)):=by
 subst eK;refine QI.le (t:=JN X.K (aJ X.K Fa)) ⟨FQ hl.h⟩ λσ H R hn⟨B,S,E,Q',hS,re,hF,lk⟩=>⟨B,S,E,_,hS,re,hF,λr E1 v H1 S1 q g kq rr=>?_⟩;split at q
 ·rename_i xs e1;obtain⟨a,vs,e2,sq,rs⟩:=kq.vl rr e1;exact⟨a,e2,.inl ⟨⟨vs,sq⟩,lk _ _ _ _ _ _ _ q.2 g kq Lq (λj hj=>absurd hj (by simp)) λO h1 h2=>by rw[<-e2];exact pP kq rr e1 O h1 λj hj=>absurd hj (by rw[q.1];simp)⟩⟩
 ·rename_i xs e1;obtain⟨a,vs,e2,sq,rs⟩:=kq.vl rr e1;exact⟨a,e2,.inr ⟨⟨vs,sq⟩,lk _ _ _ _ _ _ _ q.2 g kq Yi (λj hj=>absurd hj (by simp)) λO h1 h2=>by rw[<-e2];exact pP kq rr e1 O h1 λj hj=>absurd hj (by rw[q.1];simp)⟩⟩
 ·exact q.elim
end
section
variable{X:Cx}{K:W.Frag}{pos:Pos}{o e:oC}{Fo:FE}{Fr:FA}
def IX(Fo:FE)(Fr:FA):FE:=λE Q=>Fo E λo E1=>o1 (ownOf E1 o) λ_=>Fr E1 λrs E2=>match o with
 |.s j=>o1 (tU E2 rs) λz=>match z.1,z.2[j]? with
  |[t],oZ (oZ (.o k xs))=>xs.length<9000/\Q (.p .non) (z.2.set j (oZ (.o k (xs++[t]))))
  |_,_=>False
 |_=>False
theorem qC(eK:X.K=K)(ho:QE X o (aJ K Fo))(ha:QA X [e] (dJ K n Fr))(nh:fm o "append" X.env (dw o X.env)=dw o X.env:=by rfl)(ni:(ap.endLine==pos.line)=true:=by rfl)(hs:bO e=false:=by rfl):
  QE X (.Call (.Attribute o "append" ap) [e] [] pos) (aJ K (IX Fo Fr)):=by
 subst eK;refine(Bo ho ha nh ni hs).le λσ H Q hl h=>?_;obtain⟨B,S,E,Q',⟨τ,hS⟩,re,hF,lk⟩:=h;refine⟨B,S,E,_,⟨τ,hS⟩,re,hF,λoo E1 v H1 S1 q g1 kq rx=>?_⟩;obtain⟨τ1,qg⟩:=g1.pre;obtain⟨va,e0,q⟩:=o1.ex q;obtain⟨j,k,p,vs,rfl,hE,hSj,rfl,h2,h3⟩:=kq.ownOf rx e0;refine⟨.inl ⟨rfl,vs,j5.of h2⟩,B,S1,E1,_,⟨τ++τ1,by rw[qg,hS,TF]⟩,kq,q,λrs E2 us H2 S2 q2 g2 mj rr hn=>?_⟩;have ua:S2[j]?=oZ (oZ (.ref p)):=e9 g2.pre hSj;simp only at q2;obtain⟨z,e3,q2⟩:=o1.ex q2;obtain⟨oj,ow,rp⟩:=oU mj rr e3;obtain⟨ts,E3⟩:=z;simp only at q2 oj ow rp;split at q2
 ·rename_i t k2 xs hE3;obtain⟨hz,q2⟩:=q2;obtain⟨p',wy,z1,z2,z3,_⟩:=oj.own j k2 xs hE3;rw[ua]at z1;cases z1;obtain⟨y,ws,rfl,r1,r2⟩:=rp;cases r2;refine⟨p,wy,y,rfl,rfl,z2,?_,?_⟩
  ·rw[z3.length];exact bZ ⋯
  ·have rp1:cP X.K H2 (Ow B S2 E3) [t] [y]:=⟨y,[],rfl,r1,rfl⟩;obtain⟨g3,yi⟩:=oj.put hE3 ua (z3.append rp1);exact lk _ _ _ _ _ q2 ((g1.trans g2).trans (Gr.trans ⟨Kp.less ow,[],by simp⟩ g3)) yi rfl
 ·exact q2.elim
end
theorem iQ(a:sc.kind = .function:=by rfl)(b:sc.isCoroutine=false:=by rfl)(c:sc.isGenerator=false:=by rfl)(d:N.Nodup:=by decide +kernel)(e:N.take P.length=P:=by rfl)(f:∀x∈P,sc.names.lookup x=oZ .local\/sc.names.lookup x=oZ .cell:=by decide +kernel)(g:∀y∈sc.names,y.2≠.free:=by decide +kernel):aI N P sc:=⟨a,b,c,d,e,f,g⟩
theorem Ak{prog:da}{w:dk}{A:oD}{E:oA->oB->Prop}{it t:ck}{items:Array oA}(ui:t≠it):∀(n i:Nat)(s:oB)(Q:List oA->oB->Prop),s.heap.IsListIter it t i->s.heap.IsList t items->i+n<=items.size->
  (∀h':oE,h'.IsListIter it t (i+n)->XC it s.heap h'->Q ((items.toList.drop i).take n) { s with heap:=h' })->cq (df prog w) A (draw (.ref it) n) Q E s
 |0,i,s,Q,hit,_,_,hQ=>by
  show cq _ _ (pure []) Q E s;exact cn (by simpa using hQ s.heap hit (Heap.SameBut.refl ..))
 |n+1,i,s,Q,hit,ht,hle,hQ=>by
  have pj:i<items.size:=⋯
  show cq _ _ (pyNext (.ref it) >>= _) Q E s;refine cm (wpAny_pyNext_list_item hit ht (x:=items[i]) (by simp[pj]) λh₁ hit₁ hs₁=>?_);refine cm (fj (Ak ui n (i+1) _ _ hit₁ (ht.extBut hs₁.extBut ui) ⋯ λh₂ hit₂ hs₂=>cn ?_));have hd:items.toList.drop i=items[i]::items.toList.drop (i+1):=by simp[VT,pj]
  have:=hQ h₂ (by rw[show i+(n+1)=i+1+n by lia];exact hit₂) (hs₁.trans hs₂);rw[hd,YE]at this;exact this
theorem uL{A:oD}{E:oA->oB->Prop}{s:oB}{items:Array oA}{Q:List oA->oB->Prop}(hh:A.handled=none)(ht:s.heap.IsList t items)(hQ:∀h',bo s.heap.objs.size s.heap h'->Q items.toList { s with heap:=h' }):cq (df prog w) A (unpackItems (.ref t) items.size none) Q E s:=by
 have pj:t≠s.heap.objs.size:=by obtain⟨o,ho,_⟩:=ht;exact UW (TZ ho)
 unfold unpackItems;refine cm ?_
 ·unfold notIterableAtAll;refine cm (wpAny_specialOf ht.typeIs F.slot_list_iter.lookup ?_);refine cn ?_;simp only[WM,if_false];refine cm (fj (wpAny_pyIter_list ht ?_));refine cm (fj (Ak pj items.size 0 _ _ ⟨_,UG _ rfl,rfl,rfl⟩ (ht.push _) ⋯ λh₁ hit₁ hs₁=>?_));have yr:List.take items.size (List.drop 0 items.toList)=items.toList:=by
   rw[ZK];exact WJ (by simp)
  rw[yr];rw[oW (by simp)];have ht₁:h₁.IsList t items:=(ht.push _).extBut hs₁.extBut pj;refine cm (fj (wpAny_pyNext_list_end hh hit₁ ht₁ (by simp) λh₂ he₂=>?_));simp only[Option.isSome_none,WM,if_false];refine cn (hQ h₂ λb o hb e=>he₂ b o hb (hs₁.extBut b o hb (TJ _ e)))
theorem rN{A:oD}{E:oA->oB->Prop}{s:oB}{x1}{items:Array oA}{Q:Unit->oB->Prop}(hh:A.handled=none)(ht:s.heap.IsList t items)(hn:(dq elts env).length=items.size)(aD3:(dq elts env).findIdx? (·.1)=none)(h:∀h',bo s.heap.objs.size s.heap h'->cq (df prog w) A (iy ((dq elts env).map (·.2)) items.toList) Q E { s with heap:=h' }):
  cq (df prog w) A (ic (.Tuple elts x1 pos) env (.ref t)) Q E s:=by
 rw[assign_Tuple];refine cm (ja ?_);unfold unpack;rw[hn,aD3];exact cm (fj (uL hh ht h))
def AA(K:W.Frag)(n:Nat)(t:M3):TG:=λv σ H Q=>∃a xs,v = .ref a/\j5 K H a xs/\xs.length=n/\t xs σ H Q
theorem T9(hc:X.calm=true)(h:HS X es t)(hn:(dq es X.env).length=n:=by rfl)(xb:(dq es X.env).findIdx? (·.1)=none:=by rfl):PG X (.Tuple es k pos) (AA X.K n t):=by
 intro pins s σ H v u Q I r hw;obtain⟨a,xs,e1,hq,hl,hw⟩:=hw;subst e1;cases r;obtain⟨jz,rv,ht,hz⟩:=I.list hq;refine rN (I.ok.hd hc) (PlainL.isList ht) (by simp[hn,<-hl,rv.length]) xb λh' hx=>?_;have I1:aV X pins σ H { s with heap:=h' }:=I.kept (t':=s.toks) λb o e=>hx b o (UW (TZ e)) e;exact h pins _ σ H xs _ Q I1 (by simpa using rv) hw
section
variable{X:Cx}{K:W.Frag}{pos:Pos}{o:oC}{es:List oC}{Fo:FE}{Fr:FA}{gs:Vo}
def JT(n:Nat)(gs:Vo):FG:=λt E Q=>match t with
 |.lst ts=>cond (ZJ ts.length n) (gs ts E Q) False
 |_=>False
theorem O1(eK:X.K=K)(hc:X.calm=true)(h:Km X es (yO K gs))(hn:(dq es X.env).length=n:=by rfl)(xb:(dq es X.env).findIdx? (·.1)=none:=by rfl):QG X (.Tuple es k pos) (pJ K (JT n gs)):=by
 subst eK;refine QG.le (t:=AA X.K n (yO X.K gs)) ⟨T9 hc h.h hn xb⟩ λv σ H Q hl zZ=>?_;obtain⟨B,τ,E,t,Q',re,rp,hF,l⟩:=zZ;cases t with
 |lst ts=>
  have uz:cond (ZJ ts.length n) (gs ts E Q') False:=hF;cases q:ZJ ts.length n with
  |false=>rw[q]at uz;exact uz.elim
  |true=>
   rw[q]at uz;obtain⟨p,vs,e1,sq,rs⟩:=rp.sqL;exact⟨p,vs,e1,sq,by rw[rs.length];exact YU q,B,τ,E,ts,Q',re,rs,uz,l⟩
 |_=>exact hF.elim
def IZ(Fo:FE)(Fr:FA):FE:=λE Q=>Fo E λo E1=>o1 (ownOf E1 o) λ_=>Fr E1 λrs E2=>match o with
 |.s j=>o1 (tU E2 rs) λz=>match z.1,z.2[j]? with
  |[.int i,t],oZ (oZ (.o k xs))=>0<=i/\i<=(xs.length:Int)/\xs.length<9000/\Q (.p .non) (z.2.set j (oZ (.o k (xs.take i.toNat++t::xs.drop i.toNat))))
  |_,_=>False
 |_=>False
theorem Lm(eK:X.K=K)(ho:QE X o (aJ K Fo))(ha:QA X [e1,e2] (dJ K n Fr))(nh:fm o "insert" X.env (dw o X.env)=dw o X.env:=by rfl)(ni:(ap.endLine==pos.line)=true:=by rfl)(hs:bO e1=false:=by rfl)(xg:bO e2=false:=by rfl):
  QE X (.Call (.Attribute o "insert" ap) [e1,e2] [] pos) (aJ K (IZ Fo Fr)):=
 QE.le (t:=HG X.K "list" Et (aJ K Fo) (dJ K n Fr)) ⟨Bn PySem.F.plainAttrs_list PySem.F.slot_list_insert PySem.F.type_list_insert Bj ho.h ha.h nh (by rw[cD hs,cD xg];rfl) ni (cD hs) (fO (by simp[bW,xg]))⟩ λσ H Q hl h=>by
  subst eK;obtain⟨B,S,E,Q',⟨τ,hS⟩,re,hF,lk⟩:=h;refine⟨B,S,E,_,⟨τ,hS⟩,re,hF,λoo E1 v H1 S1 q g1 kq rx=>?_⟩;obtain⟨τ1,qg⟩:=g1.pre;obtain⟨va,e0,q⟩:=o1.ex q;obtain⟨j,k,p,vs,rfl,hE,hSj,rfl,h2,h3⟩:=kq.ownOf rx e0;refine⟨.inl ⟨rfl,vs,j5.of h2⟩,B,S1,E1,_,⟨τ++τ1,by rw[qg,hS,TF]⟩,kq,q,λrs E2 us H2 S2 q2 g2 mj rr hn=>?_⟩;have ua:S2[j]?=oZ (oZ (.ref p)):=e9 g2.pre hSj;simp only at q2;obtain⟨z,e3,q2⟩:=o1.ex q2;obtain⟨oj,ow,rp⟩:=oU mj rr e3;obtain⟨ts,E3⟩:=z;simp only at q2 oj ow rp;split at q2
  ·rename_i i t k2 xs hE3;obtain⟨i0,il,hz,q3⟩:=q2;obtain⟨p',wy,z1,z2,z3,_⟩:=oj.own j k2 xs hE3;rw[ua]at z1;cases z1;obtain⟨y,ws,rfl,k1,z,yp,rfl,k2',rfl⟩:=rp;have vl:=z3.length;obtain⟨g3,yi⟩:=oj.put (ys:=xs.take i.toNat++t::xs.drop i.toNat) (ws:=wy.take i.toNat++z::wy.drop i.toNat) hE3 ua ((z3.take _).append ⟨z,_,rfl,k2',z3.drop _⟩);cases k1;exact⟨p,wy,i,i.toNat,z,rfl,rfl,⋯,z2,⋯,by rw[vl];exact bZ (UX hz),⋯,lk _ _ _ _ _ q3 ((g1.trans g2).trans (Gr.trans ⟨Kp.less ow,[],by simp⟩ g3)) yi rfl⟩
  ·exact q2.elim
end
section
variable{X:Cx}{K:W.Frag}{pos:Pos}{Fb:FB}{Fe:FE}{g:FG}{I:FI}
def Xc(t:Nat)(cap:List (Nat×Bool))(I:FI)(g:FG)(Fb:FB)(Fe:FE):FE:=λE Q=>I E λitems us E1=>cap.all (λk=>!(k.2&&us.contains k.1))=true/\
 gF g Fb Fe items (nA t cap E1++[↥[]]) λqz=>match qz[t+cap.length]? with
  |some (↥zs)=>o1 (yX t cap qz E1) λE2=>Q (.p (.int zs.length)) E2
  |_=>False
theorem Tf(S:bI X N' scope t (cap.map (·.1)))(ho:i7 cap=true)(vb:(cap.map (·.1)).Nodup)(hl:σ.length=X.N.length)(hdd:∀H,lO d σ H->lO d' (iW t (cap.map (·.1)) σ) H)(h:mS d K (Xc t cap I g Fb Fe) σ H Q):mN t (cap.map (·.1)) (kL K I) (Bs d' K g) (yN d' K Fb) (mS d' K Fe) σ H (λv H2=>∃p ys,[v]=[V.ref p]/\(j5 K H2 p ys\/vG K H2 p ys)/\Q (.int ys.length) H2):=
 tM (W:=yX t cap) (FC:=λ_ p=>p) (rr:=λzs=>.v (.int zs.length)) (Qv:=Q) S (.inl ho) vb (λ_ _ _=>Cf ho) (λ_ _ z=>z) hl hdd (λzs D ws H1 H2 p _ hD h2 e _=>⟨.int zs.length,rfl,λq=>⟨_,ws,rfl,.inl (j5.of h2),by rw[e];exact q⟩⟩) h
theorem Xf(eK:X.K=K)(hgl:Gl X "len")(hm:X.mg "len" = none)(hc:X.calm=true)(S:bI X N' scope t (cap.map (·.1)))(ho:i7 cap=true)(vb:(cap.map (·.1)).Nodup)(hi:QI X target iter (kL K I))(hg:∀C s3 H3 fp,QG (bV X N' scope C s3 H3 fp) target (pJ K g))(hb:∀C s3 H3 fp,QT (bV X N' scope C s3 H3 fp) c (fY K Fb))(he:∀C s3 H3 fp,QE (bV X N' scope C s3 H3 fp) elt (aJ K Fe))(hs:∀x,dr iter X.env x=pure x:=by intro _;rfl):
  QE X (.Call (.Name "len" p) [.ListComp elt [⟨target,iter,[c],0⟩] scope aGH] [] pos) (aJ K (Xc t cap I g Fb Fe)):=by
 subst eK;have q:QE X (.ListComp elt [⟨target,iter,[c],0⟩] scope aGH) (mN t (cap.map (·.1)) (kL X.K I) (Bs none X.K g) (yN none X.K Fb) (mS none X.K Fe)):=⟨xX hc S hi.h (λC s3 H3 fp=>(hg C s3 H3 fp).gd.h) (λC s3 H3 fp=>(hb C s3 H3 fp).bd.h.one) (λC s3 H3 fp=>(he C s3 H3 fp).ed.h) hs⟩;refine(i9 rS hgl hm PySem.boot_len (qc q Mm) ∅ ∅ rfl).le λσ H Q hl h=>?_;exact Tf (d:=none) (d':=none) (Q:=Q) S ho vb hl (λ_ _ _ z=>by cases z) ⟨(λ_ z=>by cases z),h⟩
end
section
variable{X:Cx}{K:W.Frag}{a b:oC}{pos:Pos}{Fr:FA}
def GW(i j:Nat)(Fr:FA):FS:=λD E=>Fr E λrs E'=>match rs with
 |[.p t,.s m]=>E.length<=m/\(match E'[m]? with
  |some (↥ys)=>D.nx (((E'.take E.length).set j (↥ys)).set i (⇑t))
  |_=>False)
 |_=>False
theorem Xk{kt k2 pt2}(eK:X.K=K)(hc:X.calm=true)(hN:X.N.Nodup)(hi:X.N[i]?=oZ x)(hj:X.N[j]?=oZ y)(xw:i≠j)(hx:y8 X.env.scope x)(hy:y8 X.env.scope y)(ha:QA X [a,b] (dJ K n Fr))(fx:X.fn x=true\/X.env.scope.names.lookup x=oZ .local:=by first|exact .inl rfl|exact .inr rfl)(fy:X.fn y=true\/X.env.scope.names.lookup y=oZ .local:=by first|exact .inl rfl|exact .inr rfl)(hs:fu [.Tuple [.Name x px,.Name y py] kt pt] (.Tuple [a,b] k2 pt2) pos.line X.env=pure false:=by rfl)(hw:fw [.Tuple [.Name x px,.Name y py] kt pt] (.Tuple [a,b] k2 pt2) X.env=pure none:=by rfl)(h1:(dq [.Tuple [.Name x px,.Name y py] kt pt] X.env).map (·.2)=[ic (.Tuple [.Name x px,.Name y py] kt pt) X.env]:=by rfl)(hs1:(dq [.Name x px,.Name y py] X.env).map (·.2)=ic (.Name x px) X.env::(dq [.Name y py] X.env).map (·.2):=by rfl)(xg:(dq [.Name y py] X.env).map (·.2)=ic (.Name y py) X.env::(dq [] X.env).map (·.2):=by rfl)(hn:(dq [.Name x px,.Name y py] X.env).length=2:=by rfl)(xb:(dq [.Name x px,.Name y py] X.env).findIdx? (·.1)=none:=by rfl):
  QS X (.Assign [.Tuple [.Name x px,.Name y py] kt pt] (.Tuple [a,b] k2 pt2) pos) (iO K (GW i j Fr)):=by
 subst eK;refine(C4 (C3 ha) (Mq hc (sS (sR hN hi hx fx) (sS (sR hN hj hy fy) Ep xg) hs1) hn xb) hs hw h1).le λD σ H hl h0=>?_;obtain⟨B,E,DT,re,hF,l⟩:=h0;refine⟨B,σ,E,_,⟨[],by simp⟩,re,hF,λrs E' vs H' S' q g km rr hn=>?_⟩;split at q
 ·rename_i t m;obtain⟨v,ws,e1,h1,w,yp,e2,h2,h3⟩:=rr;cases h3;subst e2;subst e1;obtain⟨q1,q⟩:=q;split at q
  ·rename_i ys hm;refine⟨UX (bZ (show 2<=9000 by decide)),λp hp=>?_⟩;have same:∀b o,H' b=oZ o->upd H' p (.tup [v,w]) b=oZ o:=λb o e=>by rw[bD (bF e hp)];exact e
   have mj:=km.kept same;have kp:Kp (Ow B S' E') (Ow B S' E') H' (upd H' p (.tup [v,w])):=⟨λb o e _=>same b o e,λb z=>.inl z⟩;rw[<-re.len]at q q1;obtain⟨r1,ow⟩:=mj.setO (σ:=σ) (i:=j) g.pre q1 hm h2;obtain⟨r3,ow3⟩:=r1.setP (i:=i) (Rp.step (Kp.less ow) (Rp.step kp h1));refine⟨p,[v,w],rfl,.inl (.inl dM),rfl,v,[w],rfl,w,[],rfl,rfl,?_⟩;rw[YB _ _ xw];exact l.nx _ _ _ q ((g.kp.trans kp).trans (Kp.less λb z=>ow b (ow3 b z))) r3
  ·exact q.elim
 ·exact q.elim
end
theorem f1{X:Cx}{K:W.Frag}{Fa:FE}{e:oC}(a:QE X e (aJ K Fa))(h:bO e=false:=by rfl):QA X [e] (dJ K (0+1) (m9 Fa Vu)):=fc a gG h
theorem f2{X:Cx}{K:W.Frag}{Fa:FE}{Fb:FE}{e:oC}{e':oC}(a:QE X e (aJ K Fa))(b:QE X e' (aJ K Fb))(h:bO e=false:=by rfl)(h':bO e'=false:=by rfl):QA X [e,e'] (dJ K (0+1+1) (m9 Fa (m9 Fb Vu))):=fc a (f1 b h') h
theorem f3{X:Cx}{K:W.Frag}{Fa:FE}{Fb:FE}{Fc:FE}{e:oC}{e':oC}{e1:oC}(a:QE X e (aJ K Fa))(b:QE X e' (aJ K Fb))(c:QE X e1 (aJ K Fc))(h:bO e=false:=by rfl)(h':bO e'=false:=by rfl)(h1:bO e1=false:=by rfl):QA X [e,e',e1] (dJ K (0+1+1+1) (m9 Fa (m9 Fb (m9 Fc Vu)))):=fc a (f2 b c h' h1) h
theorem f4{X:Cx}{K:W.Frag}{Fa:FE}{Fb:FE}{Fc:FE}{Fd:FE}{e:oC}{e':oC}{e1:oC}{e2:oC}(a:QE X e (aJ K Fa))(b:QE X e' (aJ K Fb))(c:QE X e1 (aJ K Fc))(d:QE X e2 (aJ K Fd))(h:bO e=false:=by rfl)(h':bO e'=false:=by rfl)(h1:bO e1=false:=by rfl)(h2:bO e2=false:=by rfl):QA X [e,e',e1,e2] (dJ K (0+1+1+1+1) (m9 Fa (m9 Fb (m9 Fc (m9 Fd Vu))))):=fc a (f3 b c d h' h1 h2) h
theorem fX{X:Cx}{K:W.Frag}{pos:Pos}{Fa:FE}{Fb:FE}{e:oC}{e':oC}(a:QE X e (aJ K Fa))(b:QE X e' (aJ K Fb))(eK:X.K=K:=by rfl)(hs:rL e':=by exactλ_ _=>rfl):QE X (.Subscript e e' pos) (aJ K (ON Fa Fb)):=Z7 eK a b hs
theorem fQ{X:Cx}{K:W.Frag}{pos:Pos}(i:Nat){x:Str}{n:Int}{j p p'}(hN:X.N[i]?=oZ x:=by rfl)(hv:CI X.env.scope x:=by first|exact WE rfl|exact WZ (WE rfl)|exact WZ (WZ rfl))(hd:(x==("__debug__":Str))=false:=by decide)(vj:(x==("__classdict__":Str))=false:=by decide)(eK:X.K=K:=by rfl):QE X (.Subscript (.Name x p) (.Constant (.int n) j p') pos) (aJ K (ON (DE i) (fC (.int n)))):=Z7 eK (fv i hN hv hd vj) aA λ_ _=>rfl
theorem fK{X:Cx}{K:W.Frag}{pos:Pos}{e:oC}{es:List oC}{n k j:Nat}{x:Str}{ps:List Str}{S:iU}{Fr:FA}{p:Pos}(F:Fn X.prog X.w X.K X.mg X.base k x ps (aU K S))(ha:QA X (e::es) (dJ K n Fr))(hr:fF j X.A:=by assumption)(hk:k<=j:=by decide)(hg:Gl X x:=by rfl)(ud:(x==("__debug__":Str))=false:=by decide)(hs:bW (e::es)=true:=by rfl):QE X (.Call (.Name x p) (e::es) [] pos) (aJ K (Xa S Fr)):=N5 F hr hk hg ha ud hs
theorem fB{X:Cx}{K:W.Frag}{pos:Pos}{e:oC}{es:List oC}{n k j:Nat}{x:Str}{ps:List Str}{S:iU}{Fr:FA}{p:Pos}(F:Fn X.prog X.w X.K X.mg X.base k x ps (aU K S))(ha:QA X (e::es) (dJ K n Fr))(hr:fF j X.A:=by assumption)(hk:k<=j:=by decide)(hg:Gl X x:=by rfl)(ud:(x==("__debug__":Str))=false:=by decide)(hs:bW (e::es)=true:=by rfl):QE X (.Call (.Name x p) (e::es) [] pos) (aJ K (Xb S Fr)):=Xe F hr hk hg ha ud hs
theorem fS{X:Cx}{K:W.Frag}{pos:Pos}{Fa:FE}{e:oC}(i:Nat){x:Str}{pos':Pos}(hN:X.N.Nodup)(he:QE X e (aJ K Fa))(hi:X.N[i]?=oZ x:=by rfl)(hx:y8 X.env.scope x:=by first|exact .inl rfl|exact .inr rfl)(hs:fo e (oZ (.Name x pos')) pos.line X.env=pure false:=by rfl)(hf:X.fn x=true\/X.env.scope.names.lookup x=oZ .local:=by first|exact .inl rfl|exact .inr rfl):QS X (.Assign [.Name x pos'] e pos) (iO K (D3 i Fa)):=DN hN hi hx he hs hf
theorem fG{X:Cx}{K:W.Frag}{pos:Pos}(i:Nat){x:Str}(hN:X.N.Nodup)(hi:X.N[i]?=oZ x:=by rfl)(hx:y8 X.env.scope x:=by first|exact .inl rfl|exact .inr rfl)(hf:X.fn x=true\/X.env.scope.names.lookup x=oZ .local:=by first|exact .inl rfl|exact .inr rfl):QG X (.Name x pos) (pJ K (Ih i)):=Ph hN hi hx hf
theorem fH{X:Cx}{K:W.Frag}{pos:Pos}(i:Nat){x:Str}{N':List Str}{scope C s3 H3 fp}(hN:N'.Nodup:=by decide +kernel)(hi:N'[i]?=oZ x:=by rfl)(hx:y8 (bV X N' scope C s3 H3 fp).env.scope x:=by first|exact .inl rfl|exact .inr rfl)(hf:(bV X N' scope C s3 H3 fp).fn x=true\/(bV X N' scope C s3 H3 fp).env.scope.names.lookup x=oZ .local:=by first|exact .inl rfl|exact .inr rfl):QG (bV X N' scope C s3 H3 fp) (.Name x pos) (pJ K (Ih i)):=Ph hN hi hx hf
theorem fP{X:Cx}{K:W.Frag}{pos:Pos}{Fa:FE}{Fb:FE}{e:oC}{e':oC}{op:CmpOp}{g:Int->Int->Bool}(ho:oQ X (fi op) (Vk λi j=>.bl (g i j)))(ha:QE X e (aJ K Fa))(hb:QE X e' (aJ K Fb))(hm:eh op e'=false:=by exact cN _):QT X (.Compare e [op] [e'] pos) (fY K (zE (OL g Fa Fb))):=JF ho ha hb hm
theorem eO.okU{P:da}{w:dk}{K:W.Frag}{mg:Str->Option oA}{base:oE}{x qual:Str}{st:dh}{f:ck}{fd:fe}{N ps:List Str}{k:Nat}{S:iU}{F:FS}(Fn:eO K x qual st f fd)(Sc:aI N ps (aC st))
  (hb:∀{oq:oA}{A:oD}{outer:List Env}{s:oB}{H:Hp}{E:XK},fF k (A.deeper (je qual (aC st) s.heap.objs.size f oq))->QB (De fJ P w K mg base N qual (aC st) f oq A outer s H E).nox (d8 st) (iO K F))
  (hF:∀as Q,S as Q->F (endT as Q) (tR as++UY (N.length-as.length) none)) (len:∀as Q,S as Q->as.length=ps.length:=by intro as Q h;(repeat obtain⟨_,h⟩:=h);all_goals (subst as;rfl)):(~~~bG) fJ (k+1) f fd ps (aU K S):=Fn.okT Sc len (λ_ _ _ _ _ _ h=>hb h) hF
end L2
namespace My
open PySem L2 PyProof.Rows
def top(i:Nat):dh:=PySem.Challenge.pw_sidecut_k26_sizes_by_slabs.main.body.getD i (.Pass ⟨0,0,0,0⟩)
section
variable{P:da}{w:dk}{K:W.Frag}{mg:Str->Option oA}{base:oE}
structure Bx(xs:List T)(n:Int):Prop where
 ex:∃A B c:Int,xs=[.int A,.int B,.int c]/\0<=A/\0<=B/\B<2147483647/\0<=c/\c<=n
theorem Bx.mono{n m:Int}(b:Bx xs n)(h:n<=m):Bx xs m:=let⟨A,B,c,h1,h2,h3,h4,h5,h6⟩:=b;⟨A,B,c,h1,h2,h3,h4,h5,⋯⟩
def BU:iU:=λas Q=>∃(xs:List T)(m n:Int),as=[.b xs,.v (.int m)]/\Bx xs n/\n<=1000000/\1<=m/\m<2^200/\∀r ys,0<=r->r<m->Bx ys (n+1)->Q (.v (.int r)) ys
abbrev rH(P w K mg base):=(~~~Fn) 1 "_law_take" ["_law_box_here","_law_many"] (aU K BU)
abbrev Nb:dh:=top 43
theorem Ga:aI ["_law_box_here","_law_many","_law_once","_law_found"] ["_law_box_here","_law_many"] (aC Nb):=iQ
theorem R7(F:eO K "_law_take" "_law_take" Nb f fd)(TX:Txt mg):(~~~bG) fJ 1 f fd ["_law_box_here","_law_many"] (aU K BU):=by
 refine F.okU Ga (λhr=>(aB (dG (fP sN (fQ 0) aA) (aB (kS (Tq rfl TX.n_divmod (f2 (fQ 0) (fv 1))) (cM (n:=2) rfl rfl (aF (Ln (fv 0) aA) (aF (fG 3 Ga.nd) bS)))) (aE (aP (fv 3)))) cG) (aB (kS (aY cQ (fQ 0) aA) (Ln (fv 0) aA)) (aB (fS 2 Ga.nd (aM lX (aM Zn (aY cQ (fQ 0) (aM aS aA (fQ 0))) aA) aA)) (aE (aP (aM lX (aM dW (aM lX (aY cQ (aM aS (fv 2) aA) (aM aS (aM aS (fQ 0) (fQ 0)) aA)) aA) aA) (fv 1)))))))) ?_;rintro as Q ⟨xs,m,n,rfl,⟨A,B,c,rfl,hA,hB,hB2,hc,hcn⟩,hn,h1,h2,k⟩;show if decide (0<A)=true then _ else _
 by_cases hA0:0<A
 ·rw[oY hA0,oV rfl];refine⟨⟨⋯,h2⟩,⟨rfl,k _ _ (bh _ ⋯) (ZO _ ⋯) ⟨_,_,_,rfl,Int.ediv_nonneg hA ⋯,hB,hB2,hc,⋯⟩⟩⟩
 ·rw[oX hA0,oW ∅];have p5:CA (B+39373*(c+1)) 5:=⟨∅,∅,⋯⟩;have d64:uP (((B+39373*(c+1))^(5:Int).toNat%2147483647*48271+(c+1)*(c+1)*7919)%2147483629) 64:=⟨∅,UB (show(64:Int).natAbs<2^7 by decide) (WH ∅ ∅)⟩;refine⟨zM ∅,p5,(by show(0:Int)<2147483647;decide),?_⟩;refine⟨zN ∅,zM ⋯,zN ∅,?_⟩;refine⟨(by show(0:Int)<2147483629;decide),d64,(by show(0:Int)<m;lia),⟨rfl,?_⟩⟩;exact k _ _ (bh _ ⋯) (ZO _ ⋯) ⟨_,_,_,rfl,hA,hB,hB2,⋯,⋯⟩
def bN(ns:List Int):List T:=ns.map T.int
theorem Yg{ns:List Int}{k:Int}(h0:0<=k)(h1:k<(ns.length:Int)):∃z,k8 (bN ns) k=oZ (.int z):=by
 have hk:k.toNat<ns.length:=⋯
 refine⟨ns[k.toNat],?_⟩;have e3:k=((k.toNat:Nat):Int):=⋯
 have z:=Co (xs:=bN ns) (j:=k.toNat) (v:=T.int ns[k.toNat]) (by rw[bN,TR,SX hk];rfl);rw[<-e3]at z;exact z
def G3:iU:=λas Q=>∃(ns:List Int)(k:Int),as=[.v (.lst (bN ns)),.v (.int k)]/\0<=k/\k<=1000/\∀xs,Bx xs 0->dN xs=true->Q (.l xs) []
def X9:iU:=λas Q=>∃(n d:Int),as=[.v (.int n),.v (.int d)]/\d≠0/\d.natAbs<2^8000/\Q (.v (fr (low n d))) []
theorem rT{i:Int}{n d:Int}(hd:d≠0)(hb:d.natAbs<2^8000):uP i ((VB n.natAbs d.natAbs:Nat):Int):=by
 have h1:0<VB n.natAbs d.natAbs:=XE _ ⋯;have h2:VB n.natAbs d.natAbs<=d.natAbs:=Nat.gcd_le_right _ ⋯;exact⟨⋯,UN ⋯ hb⟩
theorem rZ(i:Int)(n:Nat):i.fdiv (n:Int)=i/(n:Int):=WX _ ⋯
def Ru:iU:=λas Q=>∃(n d:Int),as=[.v (.int n),.v (.int d)]/\Q (.v (.int ((VB n.natAbs d.natAbs:Nat):Int))) []
abbrev eV(P w K mg base):=(~~~Fn) 1 "common_divisor" oH (aU K Ru)
abbrev jB:dh:=top 1
theorem iN:aI oH oH (aC jB):=iQ
theorem sM(F:eO K "common_divisor" "common_divisor" jB f fd)(TX:Txt mg):(~~~bG) fJ 1 f fd oH (aU K Ru):=by
 refine F.okU iN (λhr=>(aB (gJ (i:=0) (j:=1) rfl iN.nd rfl rfl ∅ rfl rfl (f2 (tT rfl TX.n_abs (f1 (fv 0))) (tT rfl TX.n_abs (f1 (fv 1)))) rfl) (aB (xO PassesOwn.never (nG rfl hr (fv 1) aA (cN _)) (aE (gJ (i:=0) (j:=1) rfl iN.nd rfl rfl ∅ rfl rfl (f2 (fv 1) (aM lX (fv 0) (fv 1))) rfl))) (aE (aP (fv 0)))))) ?_;rintro as Q ⟨n,d,rfl,q⟩;refine⟨λm E=>∃x y:Nat,E=[↑x,↑y]/\m=y/\VB x y=VB n.natAbs d.natAbs,⟨_,_,_,rfl,rfl,rfl⟩,?_⟩;rintro m E ⟨x,y,rfl,rfl,hg⟩;refine⟨VZ _,?_⟩;show if(!((m:Int)==0))=true then _ else _
 by_cases hy:m=0
 ·subst hy;rw[oW ∅];rw[Nat.gcd_zero_right]at hg;subst hg;exact⟨rfl,q⟩
 ·rw[oV (by simpa using hy)];exact⟨(by show(0:Int)<(m:Int);lia),x%m,XA _ ⋯,m,x%m,rfl,rfl,by rw[Ie];exact hg⟩
abbrev g8(P w K mg base):=(~~~Fn) 2 "fraction" ["n","d"] (aU K X9)
abbrev qK:dh:=top 2
theorem nY:aI ["n","d","divisor"] ["n","d"] (aC qK):=iQ
theorem Iz(F:eO K "fraction" "fraction" qK f fd)(TX:Txt mg)(kg: ~~~eV):(~~~bG) fJ 2 f fd ["n","d"] (aU K X9):=by
 refine F.okU nY (λhr=>(aB (Tu (nG rfl hr (fv 1) aA (cN _))) (aB (fS 2 nY.nd (fK kg (f2 (fv 0) (fv 1)))) (aB (dG (fP e8 (fv 1) aA) (aE (fS 2 nY.nd (xI (fv 2)))) cG) (aE (aP (aO (f2 (aM dW (fv 0) (fv 2)) (aM dW (fv 1) (fv 2)))))))))) ?_;rintro as Q ⟨n,d,rfl,hd,hb,q⟩;have hd':(!(d==0))=true:=by simpa using hd
 refine⟨VZ _,hd',n,d,rfl,?_⟩;have dn:((VB n.natAbs d.natAbs:Nat):Int)∣n:=VD.mpr (WO _ _);have dd:((VB n.natAbs d.natAbs:Nat):Int)∣d:=VD.mpr (WQ _ _);have g0:((VB n.natAbs d.natAbs:Nat):Int)≠0:=(rT (i:=0) (n:=n) hd hb).1;have Dm:∀{g m:Int},g≠0->g∣m->m.fdiv (-g)=(-m)/g:=λ{g m}h0 hm=>by
  obtain⟨k,rfl⟩:=hm;have e1:g*k=(-g)*(-k):=by grind
  have e2:-(g*k)=g*(-k):=by grind
  rw[e2,WG _ h0,e1,aq _ ⋯]
 show if decide (d<0)=true then _ else _
 by_cases h:d<0
 ·rw[oY h,oV rfl];have cz:∀i:Int,uP i (-((VB n.natAbs d.natAbs:Nat):Int)):=λi=>⟨⋯,by rw[XB];exact(rT (i:=i) (n:=n) hd hb).2⟩;refine⟨cz _,cz _,rfl,?_⟩;unfold low vK pH at q;rw[oW ⋯,oW ⋯,<-Dm g0 dn,<-Dm g0 dd]at q;exact q
 ·rw[oX h,oW ∅];refine⟨rT hd hb,rT hd hb,rfl,?_⟩;unfold low vK pH at q;rw[oV ⋯,oV ⋯,<-rZ,<-rZ]at q;exact q
theorem pl(h:x<2^e)(k:e<=f):x<2^f:=UB h (WH ∅ k)
def vN(op:Fr->Fr->Fr):iU:=λas Q=>∃x y:Fr,as=[.v (fr x),.v (fr y)]/\bL x/\bL y/\sz x+sz y<=7900/\Q (.v (fr (op x y))) []
abbrev wO(P w K mg base):=(~~~Fn) 3 "added" oH (aU K (vN fM))
abbrev Fh:dh:=top 3
theorem D7:aI oH oH (aC Fh):=iQ
theorem Zb(F:eO K "added" "added" Fh f fd)(TX:Txt mg)(kh: ~~~g8):(~~~bG) fJ 3 f fd oH (aU K (vN fM)):=by
 refine F.okU D7 (λhr=>(aE (aP (fK kh (f2 (aY cQ (aM aS (fQ 0) (fQ 1)) (aM aS (fQ 1) (fQ 0))) (aM aS (fQ 0) (fQ 1))))))) ?_;rintro as Q ⟨x,y,rfl,hx,hy,hs,q⟩;have hd:(x.2*y.2).natAbs<2^8000:=qG (bM (b9 x) (b9 y)) ⋯;exact⟨fN (e:=7900) (pl (fZ x) ⋯) (pl (b9 y) ⋯) ∅,fN (e:=7900) (pl (fZ y) ⋯) (pl (b9 x) ⋯) ∅,fN (e:=7900) (pl (b9 x) ⋯) (pl (b9 y) ⋯) ∅,_,_,rfl,gW hx hy,hd,rfl,q⟩
abbrev rJ(P w K mg base):=(~~~Fn) 3 "taken" oH (aU K (vN aQ))
abbrev Fw:dh:=top 4
theorem F0:aI oH oH (aC Fw):=iQ
theorem Zj(F:eO K "taken" "taken" Fw f fd)(TX:Txt mg)(kh: ~~~g8):(~~~bG) fJ 3 f fd oH (aU K (vN aQ)):=by
 refine F.okU F0 (λhr=>(aE (aP (fK kh (f2 (aY i8 (aM aS (fQ 0) (fQ 1)) (aM aS (fQ 1) (fQ 0))) (aM aS (fQ 0) (fQ 1))))))) ?_;rintro as Q ⟨x,y,rfl,hx,hy,hs,q⟩;have hd:(x.2*y.2).natAbs<2^8000:=qG (bM (b9 x) (b9 y)) ⋯;exact⟨fN (e:=7900) (pl (fZ x) ⋯) (pl (b9 y) ⋯) ∅,fN (e:=7900) (pl (fZ y) ⋯) (pl (b9 x) ⋯) ∅,fN (e:=7900) (pl (b9 x) ⋯) (pl (b9 y) ⋯) ∅,_,_,rfl,gW hx hy,hd,rfl,q⟩
abbrev rK(P w K mg base):=(~~~Fn) 3 "times" oH (aU K (vN kB))
abbrev Fx:dh:=top 5
theorem F1:aI oH oH (aC Fx):=iQ
theorem Zk(F:eO K "times" "times" Fx f fd)(TX:Txt mg)(kh: ~~~g8):(~~~bG) fJ 3 f fd oH (aU K (vN kB)):=by
 refine F.okU F1 (λhr=>(aE (aP (fK kh (f2 (aM aS (fQ 0) (fQ 1)) (aM aS (fQ 0) (fQ 1))))))) ?_;rintro as Q ⟨x,y,rfl,hx,hy,hs,q⟩;have hd:(x.2*y.2).natAbs<2^8000:=qG (bM (b9 x) (b9 y)) ⋯;exact⟨fN (e:=7900) (pl (fZ x) ⋯) (pl (fZ y) ⋯) ∅,fN (e:=7900) (pl (b9 x) ⋯) (pl (b9 y) ⋯) ∅,_,_,rfl,gW hx hy,hd,rfl,q⟩
def zH(x y x' y':Fr):Fr:=fM (kB x x') (kB y y')
def eR(x y x' y':Fr):Fr:=aQ (kB x y') (kB y x')
structure Nv(a b:Fr)(e:Nat):Prop where
 x:bL a
 y:bL b
 sx:sz a<=e
 sy:sz b<=e
def HX(op:Fr->Fr->Fr->Fr->Fr):iU:=λas Q=>∃(x y x' y':Fr)(e f:Nat),as=[.v (vc x y),.v (vc x' y')]/\Nv x y e/\Nv x' y' f/\e+f<=3900/\Q (.v (fr (op x y x' y'))) []
theorem kE(h:Nat.ble a b=true):a<=b:=Nat.le_of_ble_eq_true h
theorem P9(h:Nv x y e)(k:Nv c s f):bL (zH x y c s):=eC (aW h.x k.x) (aW h.y k.y)
theorem Uc(h:Nv x y e)(k:Nv c s f):bL (eR x y c s):=aR (aW h.x k.y) (aW h.y k.x)
theorem Nv.up{x y:Fr}{e f:Nat}(h:Nv x y e)(k:e<=f):Nv x y f:=⟨h.x,h.y,VE h.sx k,VE h.sy k⟩
theorem tK(n:Int):val (n,1)=(n:Rat):=by
 show(n:Rat)/((1:Int):Rat)=n
 push_cast
 grind
theorem gN:val (1,1)=1:=by rw[tK];rfl
theorem dX:val (0,1)=0:=by rw[tK];rfl
def BM:iU:=λas Q=>∃x y:Fr,as=[.v (fr x),.v (fr y)]/\bL x/\bL y/\y.1≠0/\sz x+sz y<=7900/\Q (.v (fr (xN x y))) []
abbrev Oa(P w K mg base):=(~~~Fn) 3 "over" oH (aU K BM)
abbrev Mz:dh:=top 6
theorem X1:aI oH oH (aC Mz):=iQ
theorem R5(F:eO K "over" "over" Mz f fd)(TX:Txt mg)(kh: ~~~g8):(~~~bG) fJ 3 f fd oH (aU K BM):=by
 refine F.okU X1 (λhr=>(aE (aP (fK kh (f2 (aM aS (fQ 0) (fQ 1)) (aM aS (fQ 0) (fQ 1))))))) ?_;rintro as Q ⟨x,y,rfl,hx,hy,h0,hs,q⟩;have hd:(x.2*y.1).natAbs<2^8000:=qG (bM (b9 x) (fZ y)) ⋯;exact⟨fN (e:=7900) (pl (fZ x) ⋯) (pl (b9 y) ⋯) ∅,fN (e:=7900) (pl (b9 x) ⋯) (pl (fZ y) ⋯) ∅,_,_,rfl,XO hx.ne h0,hd,rfl,q⟩
theorem J6(h:bL p):val p*(p.2:Rat)=(p.1:Rat):=by have:=h.neR;unfold val;grind
theorem IL(h:bL p):(0:Rat)<(p.2:Rat):=by have:=h.d;exact_mod_cast (show(0:Int)<p.2 by lia)
theorem qW(h:bL p):0<=val p↔0<=p.1:=by
 have e:=J6 h;have d:=IL h;constructor
 ·intro k;have:=Rat.mul_nonneg k (Rat.le_of_lt d);rw[e]at this
  exact_mod_cast this
 ·intro k;have k':(0:Rat)<=(p.1:Rat):=by exact_mod_cast k
  rcases Rat.le_total (a:=0) (b:=val p)with c|c
  ·exact c
  ·by_cases z:val p=0
   ·grind
   ·have:=Rat.mul_pos (a:=-val p) (b:=p.2) (by grind) d;grind
theorem J7(h:bL p):val p<=0↔p.1<=0:=by
 have:=qW (Q0 h);rw[Y2 h]at this;have e:(Dm p).1 = -p.1:=rfl;rw[e]at this;constructor
 ·intro k;have:=this.1 (by grind);lia
 ·intro k;have:=this.2 ⋯;grind
theorem uM(h:bL p):val p<0↔p.1<0:=by
 have:=qW h;constructor
 ·intro k;exact Int.not_le.mp λc=>by have:=this.2 c;grind
 ·intro k;exact Rat.not_le.mp λc=>by have:=this.1 c;lia
theorem oP(h:bL p):0<val p↔0<p.1:=by
 have:=J7 h;constructor
 ·intro k;exact Int.not_le.mp λc=>by have:=this.2 c;grind
 ·intro k;exact Rat.not_le.mp λc=>by have:=this.1 c;lia
theorem yB{lo:Int}(h:(lZ lo n)[i]?=oZ t):i<n/\t = .int (lo+(i:Int)):=by
 unfold lZ at h;rw[TR]at h;obtain c|c:=WR i n
 ·rw[XH c]at h;cases h;exact⟨c,rfl⟩
 ·rw[XZ (by simpa using c)]at h;cases h
theorem bJ{z k:Rat}(hk:0<k)(h:0<z*k):0<z:=by
 rcases Rat.le_total (a:=z) (b:=0)with c|c
 ·have:=Rat.mul_nonneg (a:=-z) (b:=k) (by grind) (Rat.le_of_lt hk);grind
 ·by_cases e:z=0
  ·rw[e]at h;grind
  ·grind
theorem bR{z k:Rat}(hk:0<k)(h:0<=z*k):0<=z:=by
 rcases Rat.le_total (a:=z) (b:=0)with c|c
 ·by_cases e:z=0
  ·grind
  ·have:=Rat.mul_pos (a:=-z) (b:=k) (by grind) hk;grind
 ·exact c
abbrev Vp(P w K mg base):=(~~~Fn) 1 "_law_box" ["_law_script","_law_k"] (aU K G3)
abbrev D4:dh:=top 42
theorem Nc:aI ["_law_script","_law_k","_law_cell"] ["_law_script","_law_k"] (aC D4):=iQ
theorem EM(F:eO K "_law_box" "_law_box" D4 f fd)(TX:Txt mg):(~~~bG) fJ 1 f fd ["_law_script","_law_k"] (aU K G3):=by
 refine F.okU Nc (λhr=>(aB (fS 2 Nc.nd aA) (aB (dG (fP e8 (fv 1) (gH rfl rfl TX.n_len (f1 (fv 0)))) (aE (fS 2 Nc.nd (fX (fv 0) (fv 1)))) cG) (aE (aP (cH (f3 (aM aS (tT rfl TX.n_abs (f1 (fv 2))) (N7 rfl TX.n_int (f1 (Ia Zl (tT rfl TX.n_abs (f1 (fv 2))) (aM Zn aA aA) (cN _))))) (aM lX (aY cQ (fv 2) (aM aS (aM aS aA (fv 1)) (fv 1))) aA) aA))))))) ?_;rintro as Q ⟨ns,k,rfl,h0,h1,q⟩;have p10:CA 10 18:=⟨∅,∅,∅⟩;have bx:∀z:Int,Bx [.int ((z.natAbs:Int)*(if decide ((10:Int)^(18:Int).toNat<=(z.natAbs:Int))=true then 1 else 0)),.int ((z+7919*k*k)%2147483647),.int 0] 0:=λz=>
  ⟨_,_,_,rfl,Int.mul_nonneg ⋯ (by split<;>decide),bh _ ∅,ZO _ ∅,∅,∅⟩
 have k2:(7919*k).natAbs<2^60:=⋯
 have one:∀z:Int,(if decide ((10:Int)^(18:Int).toNat<=(z.natAbs:Int))=true then(1:Int)else 0).natAbs<2^60:=λz=>by split<;>decide
 have pm:(λ(_ j:Int)=>0<j) 0 2147483647:=by show(0:Int)<2147483647;decide
 show if decide (k<((bN ns).length:Int))=true then _ else _
 by_cases hk:k<((bN ns).length:Int)
 ·rw[oY hk,oV rfl];obtain⟨z,hz⟩:=Yg (ns:=ns) h0 (by simpa[bN]using hk);show o1 (k8 (bN ns) k) _;rw[hz];exact⟨p10,zN (one z),zM ∅,zM k2,pm,⟨rfl,q _ (bx z) rfl⟩⟩
 ·rw[oX hk,oW ∅];exact⟨p10,zN (one 0),zM ∅,zM k2,pm,⟨rfl,q _ (bx 0) rfl⟩⟩
theorem M7(ns:List Int)(m:Nat):iC (bN ns) none (oZ (m:Int))=bN (ns.take m):=by
 unfold iC bN;rw[HT.sIx_none,HT.sIx_nat,ZK,Nat.sub_zero,XI];obtain h|h:=Nat.le_total m (ns.map T.int).length
 ·rw[ZD h]
 ·rw[Nat.min_eq_right h,WJ (TN _),WJ h]
theorem Wl{lo hi:Option Int}(h:y∈iC xs lo hi):y∈xs:=List.mem_of_mem_drop (VH h)
theorem Wk(xs:List T)(m k:Nat):(iC xs (oZ (m:Int)) (oZ (k:Int))).length<=xs.length-m:=by
 unfold iC;rw[HT.sIx_nat,HT.sIx_nat,UP,WL];omega
theorem N0{xs:List T}{i:Nat}(h:(xs.zipIdx.map λq=>T.tup [.int (q.2:Int),q.1])[i]?=oZ x):∃y,xs[i]?=oZ y/\x = .tup [.int (i:Int),y]:=by
 rw[TR]at h;cases q:xs.zipIdx[i]? with
 |none=>rw[q]at h;cases h
 |some z=>
  rw[q]at h;cases h;obtain⟨q1,q2⟩:=SW.mp q;rw[List.getElem_zipIdx]at q2;subst q2;exact⟨_,SX (by simpa using q1),by simp⟩
theorem Ip:∀ns:List Int,dN (bN ns)=true
 |[]=>rfl
 |_::ns=>by simp[bN,dN,noL];exact Ip ns
def Rv:iU:=λas Q=>∃(ns:List Int)(m:Nat),as=[.v (.lst (bN ns)),.v (.int (m:Int))]/\ns.length<=63/\2<=m/\m<=63/\∀cs:List Int,cs.length<=m->Q (.l (bN cs)) []
abbrev zY(P w K mg base):=(~~~Fn) 1 "_law_folded" ["_law_script","_law_many"] (aU K Rv)
abbrev yF:dh:=top 44
theorem pC:aI ["_law_script","_law_many","_law_cells","_law_k","_law_cell"] ["_law_script","_law_many"] (aC yF):=iQ
theorem Uh(F:eO K "_law_folded" "_law_folded" yF f fd)(TX:Txt mg):(~~~bG) fJ 1 f fd ["_law_script","_law_many"] (aU K Rv):=by
 refine F.okU pC (λhr=>(aB (fS 2 pC.nd (Aw rfl rfl TX.n_list (f1 (h9 rfl (fv 0) jG (d9 (fv 1)))))) (aB (eS PassesOwn.never rfl (vY rfl rfl TX.n_enumerate (f1 (h9 rfl (fv 0) (d9 (fv 1)) (d9 aA)))) (cM (n:=2) rfl rfl (aF (fG 3 pC.nd) (aF (fG 4 pC.nd) bS))) (aE (kS (aY cQ (fX (fv 2) (aM lX (fv 3) (fv 1))) (aM aS (fv 4) (aY cQ (fv 3) aA))) (Ln (fv 2) (aM lX (fv 3) (fv 1)))))) (aE (aP (fv 2)))))) ?_;rintro as Q ⟨ns,m,rfl,hl,hm2,hm,q⟩;refine lE (λi E=>∃(cs:List Int)(v3 v4:Option U),E=[⇑(.lst (bN ns)),↑(m:Int),↥(bN cs),v3,v4]/\cs.length=(ns.take m).length)
  ⟨ns.take m,none,none,by rw[<-M7],rfl⟩ ?_ ?_
 ·rintro i x rest E hi ⟨cs,v3,v4,rfl,hc⟩ K;obtain⟨y,hy,rfl⟩:=N0 hi;obtain⟨z,rfl⟩:∃z,y=T.int z:=by
   obtain⟨z,_,e⟩:=SS.mp (Wl (SY hy));exact⟨z,e.symm⟩
  have aLB:i<ns.length-m:=by
   have h1:=(SW.mp hy).1;have h2:=Wk (bN ns) m 63;simp[bN]at h2;exact UB h1 h2
  have hcl:cs.length=m:=by rw[hc,UP];lia
  have em:((i:Int)%(m:Int))=((i%m:Nat):Int):=rfl;have hj:i%m<cs.length:=by rw[hcl];exact XA _ ⋯
  have hat:k8 (bN cs) ((i:Int)%(m:Int))=oZ (T.int cs[i%m]):=by
   rw[em];exact Co (by rw[bN,TR,SX hj];rfl)
  have hix:Py (bN cs).length ((i:Int)%(m:Int))=oZ (i%m):=by
   rw[em];unfold Py;rw[oV ⋯,oV (by simp[bN];lia),VP]
  have hmp:(λ(_ j:Int)=>0<j) (i:Int) (m:Int):=by show(0:Int)<(m:Int);lia
  refine⟨hmp,?_⟩;show o1 (k8 (bN cs) ((i:Int)%(m:Int))) _;rw[hat];refine⟨zN ⋯,hmp,?_⟩;show o1 (Py (bN cs).length ((i:Int)%(m:Int))) _;rw[hix];have e:bN (cs.set (i%m) (cs[i%m]+z*((i:Int)+2)))=(bN cs).set (i%m) (.int (cs[i%m]+z*((i:Int)+2))):=by rw[bN,bN,List.map_set]
  exact K _ ⟨cs.set (i%m) (cs[i%m]+z*((i:Int)+2)),↑(i:Int),↑z,by rw[e];rfl,by rw[YW];exact hc⟩
 ·rintro E ⟨cs,v3,v4,rfl,hc⟩;have hcm:cs.length<=m:=by rw[hc,UP];lia
  exact⟨Ip _,q cs hcm⟩
def fV(x y:Fr):Int:=if x.1*y.2<y.1*x.2 then -1 else if y.1*x.2<x.1*y.2 then 1 else 0
def Ca:iU:=λas Q=>∃x y:Fr,as=[.v (fr x),.v (fr y)]/\sz x+sz y<=7900/\Q (.v (.int (fV x y))) []
abbrev jI(P w K mg base):=(~~~Fn) 1 "compared" oH (aU K Ca)
abbrev qJ:dh:=top 7
theorem nX:aI ["one","other","first","second"] oH (aC qJ):=iQ
theorem Iy(F:eO K "compared" "compared" qJ f fd)(TX:Txt mg):(~~~bG) fJ 1 f fd oH (aU K Ca):=by
 refine F.okU nX (λhr=>(aB (fS 2 nX.nd (aM aS (fQ 0) (fQ 1))) (aB (fS 3 nX.nd (aM aS (fQ 1) (fQ 0))) (aB (dG (fP e8 (fv 2) (fv 3)) (aE (aP (xI aA))) cG) (aB (dG (fP sN (fv 2) (fv 3)) (aE (aP aA)) cG) (aE (aP aA))))))) ?_;rintro as Q ⟨x,y,rfl,hs,q⟩;refine⟨fN (e:=7900) (pl (fZ x) ⋯) (pl (b9 y) ⋯) ∅,fN (e:=7900) (pl (fZ y) ⋯) (pl (b9 x) ⋯) ∅,?_⟩;unfold fV at q;show if decide (x.1*y.2<y.1*x.2)=true then _ else _
 by_cases h:x.1*y.2<y.1*x.2
 ·rw[oY h,oV rfl];rw[oV h]at q;exact⟨rfl,q⟩
 ·rw[oX h,oW ∅];rw[oW h]at q;show if decide (y.1*x.2<x.1*y.2)=true then _ else _
  by_cases k:y.1*x.2<x.1*y.2
  ·rw[oY k,oV rfl];rw[oV k]at q;exact⟨rfl,q⟩
  ·rw[oX k,oW ∅];rw[oW k]at q;exact⟨rfl,q⟩
def wJ:iU:=λas Q=>∃(x y b:Fr)(e:Nat),as=[.v (vc x y),.v (fr b)]/\Nv x y e/\bL b/\e+sz b<=7900/\Q (.v (vc (kB x b) (kB y b))) []
abbrev Aa(P w K mg base):=(~~~Fn) 4 "scaled" ["vector","by"] (aU K wJ)
abbrev yK:dh:=top 11
theorem Ux:aI ["vector","by"] ["vector","by"] (aC yK):=iQ
theorem Ul(F:eO K "scaled" "scaled" yK f fd)(TX:Txt mg)(nj: ~~~rK):(~~~bG) fJ 4 f fd ["vector","by"] (aU K wJ):=by
 refine F.okU Ux (λhr=>(aE (aP (aO (f2 (fK nj (f2 (fQ 0) (fv 1))) (fK nj (f2 (fQ 0) (fv 1)))))))) ?_;rintro as Q ⟨x,y,b,e,rfl,h,hb,hs,q⟩;have:=h.sx;have:=h.sy;exact⟨_,_,rfl,h.x,hb,⋯,_,_,rfl,h.y,hb,⋯,rfl,q⟩
def Sa:iU:=λas Q=>∃(x y p q:Fr)(e f:Nat),as=[.v (vc x y),.v (vc p q)]/\Nv x y e/\Nv p q f/\e+f<=7000/\Q (.v (vc (fM x p) (fM y q))) []
abbrev Ob(P w K mg base):=(~~~Fn) 4 "plus" oH (aU K Sa)
abbrev Na:dh:=top 9
theorem X2:aI oH oH (aC Na):=iQ
theorem R6(F:eO K "plus" "plus" Na f fd)(TX:Txt mg)(qh: ~~~wO):(~~~bG) fJ 4 f fd oH (aU K Sa):=by
 refine F.okU X2 (λhr=>(aE (aP (aO (f2 (fK qh (f2 (fQ 0) (fQ 1))) (fK qh (f2 (fQ 0) (fQ 1)))))))) ?_;rintro as Q ⟨x,y,p,q,e,f,rfl,h,k,hs,z⟩;have:=h.sx;have:=h.sy;have:=k.sx;have:=k.sy;exact⟨_,_,rfl,h.x,k.x,⋯,_,_,rfl,h.y,k.y,⋯,rfl,z⟩
def Gp:iU:=λas Q=>∃(x y p q:Fr)(e f:Nat),as=[.v (vc x y),.v (vc p q)]/\Nv x y e/\Nv p q f/\e+f<=7000/\Q (.v (vc (aQ x p) (aQ y q))) []
abbrev He(P w K mg base):=(~~~Fn) 4 "minus" oH (aU K Gp)
abbrev Ft:dh:=top 10
theorem E7:aI oH oH (aC Ft):=iQ
theorem Zg(F:eO K "minus" "minus" Ft f fd)(TX:Txt mg)(nq: ~~~rJ):(~~~bG) fJ 4 f fd oH (aU K Gp):=by
 refine F.okU E7 (λhr=>(aE (aP (aO (f2 (fK nq (f2 (fQ 0) (fQ 1))) (fK nq (f2 (fQ 0) (fQ 1)))))))) ?_;rintro as Q ⟨x,y,p,q,e,f,rfl,h,k,hs,z⟩;have:=h.sx;have:=h.sy;have:=k.sx;have:=k.sy;exact⟨_,_,rfl,h.x,k.x,⋯,_,_,rfl,h.y,k.y,⋯,rfl,z⟩
abbrev Hc(P w K mg base):=(~~~Fn) 4 "cross" oH (aU K (HX eR))
abbrev Fj:dh:=top 12
theorem D8:aI oH oH (aC Fj):=iQ
theorem Zc(F:eO K "cross" "cross" Fj f fd)(TX:Txt mg)(nj: ~~~rK)(nq: ~~~rJ):(~~~bG) fJ 4 f fd oH (aU K (HX eR)):=by
 refine F.okU D8 (λhr=>(aE (aP (fK nq (f2 (fK nj (f2 (fQ 0) (fQ 1))) (fK nj (f2 (fQ 0) (fQ 1)))))))) ?_;rintro as Q ⟨x,y,x',y',e,f,rfl,h,k,he,q⟩;have:=h.sx;have:=h.sy;have:=k.sx;have:=k.sy;have n1:=aW h.x k.y;have n2:=aW h.y k.x;have s1:=fT h.x k.y;have s2:=fT h.y k.x;exact⟨_,_,rfl,h.x,k.y,⋯,_,_,rfl,h.y,k.x,⋯,_,_,rfl,n1,n2,⋯,rfl,q⟩
abbrev Pt:=Fr×Fr
def pt(p:Pt):T:=vc p.1 p.2
abbrev I3:=Int×Int×Int
def t3(s:I3):T:=.tup [.int s.1,.int s.2.1,.int s.2.2]
abbrev I4:=Int×Int×Int×Int
def t4(b:I4):T:=.tup [.int b.1,.int b.2.1,.int b.2.2.1,.int b.2.2.2]
structure B3(e:Nat)(s:I3):Prop where
 a:s.1.natAbs<2^e
 b:s.2.1.natAbs<2^e
 c:s.2.2.natAbs<2^e
theorem B3.up(h:B3 e s)(k:e<=f):B3 f s:=⟨pl h.a k,pl h.b k,pl h.c k⟩
def iZ(a b:Int):Int:=((VB a.natAbs b.natAbs:Nat):Int)
def aG(p:Pt):I3:=(p.1.1*(p.2.2.fdiv (iZ p.1.2 p.2.2)),p.2.1*(p.1.2.fdiv (iZ p.1.2 p.2.2)),p.1.2.fdiv (iZ p.1.2 p.2.2)*p.2.2)
def nJ(s t:I3):I3:=(s.2.1*t.2.2-s.2.2*t.2.1,s.2.2*t.1-s.1*t.2.2,s.1*t.2.1-s.2.1*t.1)
def g3(l:I3):Int:=iZ (iZ l.1 l.2.1) l.2.2
def dA(l:I3):I3:=(l.1.fdiv (g3 l),l.2.1.fdiv (g3 l),l.2.2.fdiv (g3 l))
def iS(l s:I3):Int:=l.1*s.1+l.2.1*s.2.1+l.2.2*s.2.2
theorem kA(i:Int)(n:Nat):(i.fdiv (n:Int)).natAbs<=i.natAbs:=by
 rw[rZ];exact Int.natAbs_ediv_le_natAbs i n
theorem Xq{a b:Int}(h:b≠0):0<iZ a b:=by
 unfold iZ;have:=XE a.natAbs (show 0<b.natAbs by lia)
 lia
structure Pb(p:Pt):Prop where
 v:Nv p.1 p.2 20
theorem mL(h:Pb p):B3 40 (aG p):=by
 have d1:=kA p.2.2 (VB p.1.2.natAbs p.2.2.natAbs);have d2:=kA p.1.2 (VB p.1.2.natAbs p.2.2.natAbs);have x1:=pl (fZ p.1) h.v.sx;have x2:=pl (b9 p.1) h.v.sx;have y1:=pl (fZ p.2) h.v.sy;have y2:=pl (b9 p.2) h.v.sy;exact⟨bM (e:=20) (f:=20) x1 (UN d1 y2),bM (e:=20) (f:=20) y1 (UN d2 x2),bM (e:=20) (f:=20) (UN d2 x2) y2⟩
def BR:iU:=λas Q=>∃p:Pt,as=[.v (pt p)]/\Pb p/\Q (.v (t3 (aG p))) []
abbrev lP(P w K mg base):=(~~~Fn) 2 "spot_of" ["point"] (aU K BR)
abbrev uF:dh:=top 17
theorem jE:aI ["point","divisor","x","low","y","other"] ["point"] (aC uF):=iQ
theorem Mj(F:eO K "spot_of" "spot_of" uF f fd)(TX:Txt mg)(kg: ~~~eV):(~~~bG) fJ 2 f fd ["point"] (aU K BR):=by
 refine F.okU jE (λhr=>(aB (kS (fv 0) (cM (n:=2) rfl rfl (aF (cM (n:=2) rfl rfl (aF (fG 2 jE.nd) (aF (fG 3 jE.nd) bS))) (aF (cM (n:=2) rfl rfl (aF (fG 4 jE.nd) (aF (fG 5 jE.nd) bS))) bS)))) (aB (fS 1 jE.nd (fK kg (f2 (fv 3) (fv 5)))) (aE (aP (aO (f3 (aM aS (fv 2) (aM dW (fv 5) (fv 1))) (aM aS (fv 4) (aM dW (fv 3) (fv 1))) (aM aS (aM dW (fv 3) (fv 1)) (fv 5))))))))) ?_;rintro as Q ⟨p,rfl,h,q⟩;have x1:=pl (fZ p.1) h.v.sx;have x2:=pl (b9 p.1) h.v.sx;have y1:=pl (fZ p.2) h.v.sy;have y2:=pl (b9 p.2) h.v.sy;have d1:=kA p.2.2 (VB p.1.2.natAbs p.2.2.natAbs);have d2:=kA p.1.2 (VB p.1.2.natAbs p.2.2.natAbs);have cz:∀i,uP i ((VB p.1.2.natAbs p.2.2.natAbs:Nat):Int):=λi=>rT (n:=p.1.2) (d:=p.2.2) (by have:=h.v.y.d;lia) (qG y2 ∅);refine⟨_,_,rfl,?_⟩;exact⟨cz _,fN (e:=20) x1 (UN d1 y2) ∅,cz _,fN (e:=20) y1 (UN d2 x2) ∅,cz _,fN (e:=20) (UN d2 x2) y2 ∅,rfl,q⟩
def BI:iU:=λas Q=>∃s t:I3,as=[.v (t3 s),.v (t3 t)]/\B3 3000 s/\B3 3000 t/\Q (.v (t3 (nJ s t))) []
abbrev jQ(P w K mg base):=(~~~Fn) 1 "line_through" ["begin","end"] (aU K BI)
abbrev kH:dh:=top 18
theorem cR:aI ["begin","end","x","y","w","to_x","to_y","to_w"] ["begin","end"] (aC kH):=iQ
theorem vL(F:eO K "line_through" "line_through" kH f fd)(TX:Txt mg):(~~~bG) fJ 1 f fd ["begin","end"] (aU K BI):=by
 refine F.okU cR (λhr=>(aB (kS (aO (f2 (fv 0) (fv 1))) (cM (n:=2) rfl rfl (aF (cM (n:=3) rfl rfl (aF (fG 2 cR.nd) (aF (fG 3 cR.nd) (aF (fG 4 cR.nd) bS)))) (aF (cM (n:=3) rfl rfl (aF (fG 5 cR.nd) (aF (fG 6 cR.nd) (aF (fG 7 cR.nd) bS)))) bS)))) (aE (aP (aO (f3 (aY i8 (aM aS (fv 3) (fv 7)) (aM aS (fv 4) (fv 6))) (aY i8 (aM aS (fv 4) (fv 5)) (aM aS (fv 2) (fv 7))) (aY i8 (aM aS (fv 2) (fv 6)) (aM aS (fv 3) (fv 5))))))))) ?_;rintro as Q ⟨s,t,rfl,h,k,q⟩;exact⟨fN h.b k.c ∅,fN h.c k.b ∅,fN h.c k.a ∅,fN h.a k.c ∅,fN h.a k.b ∅,fN h.b k.a ∅,rfl,q⟩
theorem Lr(h:B3 e s)(k:B3 e t):B3 (e+e+1) (nJ s t):=
 ⟨kO (bM h.b k.c) (bM h.c k.b),kO (bM h.c k.a) (bM h.a k.c),kO (bM h.a k.b) (bM h.b k.a)⟩
theorem AM(h:B3 e l):B3 e (dA l):=⟨UN (kA _ _) h.a,UN (kA _ _) h.b,UN (kA _ _) h.c⟩
def BJ:iU:=λas Q=>∃l:I3,as=[.v (t3 l)]/\B3 7000 l/\g3 l≠0/\Q (.v (t3 (dA l))) []
theorem Xp{a b:Int}(h:a.natAbs<2^e)(k:b.natAbs<2^e):(iZ a b).natAbs<2^e:=by
 unfold iZ;rw[ZP];obtain z|z:=ZN a.natAbs
 ·rw[z,Nat.gcd_zero_left];exact k
 ·exact UN (Nat.gcd_le_left _ z) h
abbrev gU(P w K mg base):=(~~~Fn) 2 "in_lowest_terms" ["line"] (aU K BJ)
abbrev iM:dh:=top 19
theorem cY:aI ["line","divisor","a","b","c"] ["line"] (aC iM):=iQ
theorem qF(F:eO K "in_lowest_terms" "in_lowest_terms" iM f fd)(TX:Txt mg)(kg: ~~~eV):(~~~bG) fJ 2 f fd ["line"] (aU K BJ):=by
 refine F.okU cY (λhr=>(aB (kS (fv 0) (cM (n:=3) rfl rfl (aF (fG 2 cY.nd) (aF (fG 3 cY.nd) (aF (fG 4 cY.nd) bS))))) (aB (fS 1 cY.nd (fK kg (f2 (fK kg (f2 (fv 2) (fv 3))) (fv 4)))) (aE (aP (aO (f3 (aM dW (fv 2) (fv 1)) (aM dW (fv 3) (fv 1)) (aM dW (fv 4) (fv 1))))))))) ?_;rintro as Q ⟨l,rfl,h,h0,q⟩;have cz:∀i,uP i (g3 l):=λi=>⟨h0,qG (Xp (Xp h.a h.b) h.c) ∅⟩;refine⟨_,_,rfl,_,_,rfl,?_⟩;exact⟨cz _,cz _,cz _,rfl,q⟩
def BL:iU:=λas Q=>∃l s:I3,as=[.v (t3 l),.v (t3 s)]/\B3 3000 l/\B3 3000 s/\Q (.v (.int (iS l s))) []
abbrev uT(P w K mg base):=(~~~Fn) 1 "off_line" ["line","spot"] (aU K BL)
abbrev qP:dh:=top 20
theorem Js:aI ["line","spot"] ["line","spot"] (aC qP):=iQ
theorem Je(F:eO K "off_line" "off_line" qP f fd)(TX:Txt mg):(~~~bG) fJ 1 f fd ["line","spot"] (aU K BL):=by
 refine F.okU Js (λhr=>(aE (aP (aY cQ (aY cQ (aM aS (fQ 0) (fQ 1)) (aM aS (fQ 0) (fQ 1))) (aM aS (fQ 0) (fQ 1)))))) ?_;rintro as Q ⟨l,s,rfl,h,k,q⟩;exact⟨fN h.a k.a ∅,fN h.b k.b ∅,fN h.c k.c ∅,rfl,q⟩
theorem Za(h:B3 e l)(k:B3 f s):(iS l s).natAbs<2^(e+f+2):=
 vT (vT (bM h.a k.a) (bM h.b k.b)) (pl (bM h.c k.c) ⋯)
theorem dF{α β:Type}{f h:α->L2.T}(mk:β->List L2.T->En){Q:En->Prop}:∀(xs:List α)(b:β)(acc:List L2.T),acc.length+xs.length<=9000->
  (∀x∈xs,∀b acc rest,acc.length<9000->(∀b',iV g Fe rest (mk b' (acc++[h x])) Q)->iV g Fe (f x::rest) (mk b acc) Q)->(∀b,Q (mk b (acc++xs.map h)))->iV g Fe (xs.map f) (mk b acc) Q
 |[],b,acc,_,_,hd=>by have:=hd b;rw[XD,UH]at this;exact this
 |x::xs,b,acc,hn,hs,hd=>by
  rw[TB]at hn;refine hs x (by simp) b acc _ ⋯ λb'=>?_;refine dF mk xs b' (acc++[h x]) (by rw[TC,VQ];lia) (λy hy=>hs y (by simp[hy])) λb2=>?_;have:=hd b2;rw[TF];exact this
theorem jY{α β:Type}{f h:α->L2.T}(p:α->Bool)(mk:β->List L2.T->En){Q:En->Prop}:∀(xs:List α)(b:β)(acc:List L2.T),acc.length+xs.length<=9000->
  (∀x∈xs,∀b acc rest,acc.length<9000->(∀b',gF g Fb Fe rest (mk b' (if p x=true then acc++[h x]else acc)) Q)->gF g Fb Fe (f x::rest) (mk b acc) Q)->(∀b,Q (mk b (acc++(xs.filter p).map h)))->gF g Fb Fe (xs.map f) (mk b acc) Q
 |[],b,acc,_,_,hd=>by have:=hd b;rw[List.filter_nil,XD,UH]at this;exact this
 |x::xs,b,acc,hn,hs,hd=>by
  rw[TB]at hn;refine hs x (by simp) b acc _ ⋯ λb'=>?_;refine jY p mk xs b' _ (by split<;>(try rw[TC,VQ])<;>lia) (λy hy=>hs y (by simp[hy])) λb2=>?_;have:=hd b2
  by_cases c:p x=true
  ·rw[oV c,TF];rw[UM c]at this;exact this
  ·rw[oW c];rw[VC c]at this;exact this
theorem cW{α σ:Type}{D:ET}{f:α->L2.T}(mk:σ->En)(R:List α->σ->Prop)(hs:∀x xs s rest,R (x::xs) s->(∀s',R xs s'->dU g F D rest (mk s'))->dU g F D (f x::rest) (mk s))(hd:∀s,R [] s->D.nx (mk s)):∀xs s,R xs s->dU g F D (xs.map f) (mk s)
 |[],s,h=>hd s h
 |x::xs,s,h=>hs x xs s _ h λs' h'=>cW mk R hs hd xs s' h'
theorem a9{α:Type}{f:α->L2.T}(h:∀x,noL (f x)=true):∀xs:List α,dN (xs.map f)=true
 |[]=>rfl
 |x::xs=>by rw[TH,dN,h x,a9 h xs];rfl
def Vl(ss:List I3):List Int:=ss.map λs=>(s.1*65536).fdiv s.2.2
def Vm(ss:List I3):List Int:=ss.map λs=>(s.2.1*65536).fdiv s.2.2
def xC(ss:List I3):I4:=(Ec (Vl ss),Ec (Vm ss),Ea (Vl ss),Ea (Vm ss))
def BD:iU:=λas Q=>∃(t:L2.T)(ss:List I3),as=[.v t]/\(t = .lst (ss.map t3)\/t = .tup (ss.map t3))/\0<ss.length/\ss.length<=8000/\(∀s∈ss,B3 3000 s/\s.2.2≠0)/\Q (.v (t4 (xC ss))) []
abbrev tL(P w K mg base):=(~~~Fn) 1 "box_of" ["spots"] (aU K BD)
abbrev yD:dh:=top 21
theorem uG:aI ["spots","across","up"] ["spots"] (aC yD):=iQ
theorem Ug(F:eO K "box_of" "box_of" yD f fd)(TX:Txt mg)(vw:Kr mg "GRID" 65536):(~~~bG) fJ 1 f fd ["spots"] (aU K BD):=by
 refine F.okU uG (λhr=>(aB (sA (i:=1) (N':=["spot"]) (t:=1) (cap:=[]) uG.nd rfl (WE rfl) rfl rfl (bI.of rfl) rfl ∅ (Xi rfl (fv 0)) (λ_ _ _ _=>(fH 0)) (λ_ _ _ _=>(aM dW (aM aS (fQ 0) (Ib rfl vw)) (fQ 0)))) (aB (sA (i:=2) (N':=["spot"]) (t:=1) (cap:=[]) uG.nd rfl (WE rfl) rfl rfl (bI.of rfl) rfl ∅ (Xi rfl (fv 0)) (λ_ _ _ _=>(fH 0)) (λ_ _ _ _=>(aM dW (aM aS (fQ 0) (Ib rfl vw)) (fQ 0)))) (aE (aP (aO (f4 (Pf rfl rfl rfl TX.n_min (f1 (fv 1))) (Pf rfl rfl rfl TX.n_min (f1 (fv 2))) (Pe rfl rfl rfl TX.n_max (f1 (fv 1))) (Pe rfl rfl rfl TX.n_max (f1 (fv 2)))))))))) ?_;rintro as Q ⟨t,ss,rfl,ht,h0,hl,hs,q⟩;have cz:∀s∈ss,∀i,uP i s.2.2:=λs m i=>⟨(hs s m).2,qG (hs s m).1.c ∅⟩;have e1:(ss.map λs=>L2.T.int ((s.1*65536).fdiv s.2.2))=(Vl ss).map L2.T.int:=by rw[Vl,UA];rfl
 have e2:(ss.map λs=>L2.T.int ((s.2.1*65536).fdiv s.2.2))=(Vm ss).map L2.T.int:=by rw[Vm,UA];rfl
 have l1:0<(Vl ss).length:=by rw[Vl,SV];exact h0
 have l2:0<(Vm ss).length:=by rw[Vm,SV];exact h0
 obtain rfl|rfl:=ht
 all_goals
  refine⟨rfl,rfl,dF (f:=t3) (h:=λs=>.int ((s.1*65536).fdiv s.2.2)) (λ(w:Option U)acc=>[w,↥acc]) ss none [] (by simp;lia) (λs m w acc rest ha K=>⟨zN ∅,cz s m _,ha,K _⟩) λw=>?_⟩;refine⟨a9 (λ_=>rfl) _,rfl,rfl,dF (f:=t3) (h:=λs=>.int ((s.2.1*65536).fdiv s.2.2)) (λ(w:Option U)acc=>[w,↥acc]) ss none [] (by simp;lia) (λs m w acc rest ha K=>⟨zN ∅,cz s m _,ha,K _⟩) λw=>?_⟩;refine⟨a9 (λ_=>rfl) _,?_⟩;rw[VO,VO,e1,e2];exact⟨_,rfl,l1,_,rfl,l2,_,rfl,l1,_,rfl,l2,rfl,q⟩
def pY(a b:I4):Bool:=decide (a.2.2.1<b.1)||decide (b.2.2.1<a.1)||decide (a.2.2.2<b.2.1)||decide (b.2.2.2<a.2.1)
def Ro:iU:=λas Q=>∃a b:I4,as=[.v (t4 a),.v (t4 b)]/\Q (.v (.bl (pY a b))) []
abbrev rB(P w K mg base):=(~~~Fn) 1 "are_apart" oH (aU K Ro)
abbrev nQ:dh:=top 22
theorem Fy:aI oH oH (aC nQ):=iQ
theorem Ef(F:eO K "are_apart" "are_apart" nQ f fd)(TX:Txt mg):(~~~bG) fJ 1 f fd oH (aU K Ro):=by
 refine F.okU Fy (λhr=>(aE (aP (Xg (Ia e8 (fQ 0) (fQ 1) (cN _)) (Xg (Ia e8 (fQ 1) (fQ 0) (cN _)) (Xg (Ia e8 (fQ 0) (fQ 1) (cN _)) (DI (Ia e8 (fQ 1) (fQ 0) (cN _))))))))) ?_;rintro as Q ⟨a,b,rfl,q⟩;unfold pY at q;show if decide (a.2.2.1<b.1)=true then _ else _
 by_cases c1:a.2.2.1<b.1
 ·rw[oY c1]at q⊢;rw[oV rfl];exact⟨rfl,q⟩
 rw[oX c1]at q⊢;rw[oW ∅];show if decide (b.2.2.1<a.1)=true then _ else _
 by_cases c2:b.2.2.1<a.1
 ·rw[oY c2]at q⊢;rw[oV rfl];exact⟨rfl,q⟩
 rw[oX c2]at q⊢;rw[oW ∅];show if decide (a.2.2.2<b.2.1)=true then _ else _
 by_cases c3:a.2.2.2<b.2.1
 ·rw[oY c3]at q⊢;rw[oV rfl];exact⟨rfl,q⟩
 rw[oX c3]at q⊢;rw[oW ∅];exact⟨rfl,q⟩
theorem Oq(xs:List L2.T):iC xs (oZ 1) none=xs.tail:=by
 unfold iC;have e:HT.sIx xs.length 0 (oZ (1:Int))=min 1 xs.length:=HT.sIx_nat _ _ 1;rw[HT.sIx_none,e];cases xs with
 |nil=>rfl
 |cons x xs=>
  rw[ZD (by simp),ZI,ZK,List.tail_cons];exact WJ (by simp)
theorem Dd(xs:List L2.T):iC xs none (oZ 1)=xs.take 1:=by
 unfold iC;have e:HT.sIx xs.length xs.length (oZ (1:Int))=min 1 xs.length:=HT.sIx_nat _ _ 1;rw[HT.sIx_none,e,ZK,Nat.sub_zero];cases xs with
 |nil=>rfl
 |cons x xs=>rw[ZD (by simp)]
theorem zip_map{α β:Type}(f:α->L2.T)(g:β->L2.T):∀(xs:List α)(ys:List β),gP (xs.map f) (ys.map g)=(xs.zip ys).map λp=>L2.T.tup [f p.1,g p.2]
 |[],ys=>by simp[gP]
 |x::xs,[]=>by simp[gP]
 |x::xs,y::ys=>by
  show L2.T.tup [f x,g y]::gP (xs.map f) (ys.map g)=_;rw[zip_map f g xs ys];rfl
structure eJ where
 w:Str
 n:Int
 o:List Pt
 m:Str
def cU(b:eJ):L2.T:=.tup [.str b.w,.int b.n,.tup (b.o.map pt),.str b.m]
def sV{α:Type}(xs:List α):List α:=xs.tail++xs.take 1
def gV(o:List Pt):List I3:=((o.map aG).zip (sV (o.map aG))).map λp=>nJ p.1 p.2
def G7:iU:=λas Q=>∃b:eJ,as=[.v (cU b)]/\b.o.length<=8000/\(∀p∈b.o,Pb p)/\Q (.l ((gV b.o).map t3)) []
abbrev pN(P w K mg base):=(~~~Fn) 3 "edge_lines" ["block"] (aU K G7)
abbrev mB:dh:=top 23
theorem pQ:aI ["block","spots"] ["block"] (aC mB):=iQ
theorem zR(F:eO K "edge_lines" "edge_lines" mB f fd)(TX:Txt mg)(lr: ~~~lP)(lq: ~~~jQ):(~~~bG) fJ 3 f fd ["block"] (aU K G7):=by
 refine F.okU pQ (λhr=>(aB (sA (i:=1) (N':=["corner"]) (t:=1) (cap:=[]) pQ.nd rfl (WE rfl) rfl rfl (bI.of rfl) rfl ∅ (Dj rfl (fQ 0)) (λ_ _ _ _=>(fH 0)) (λ_ _ _ _=>(fK lr (f1 (fv 0))))) (aE (aP (jW (N':=["begin","end"]) (t:=2) (cap:=[]) rfl (bI.of rfl) rfl ∅ (Dk rfl rfl TX.n_zip (f2 (fv 1) (Di (h9 rfl (fv 1) (d9 aA) jG) (h9 rfl (fv 1) jG (d9 aA))))) (λ_ _ _ _=>(cM (n:=2) rfl rfl (aF (fH 0) (aF (fH 1) bS)))) (λ_ _ _ _=>(fK lq (f2 (fv 0) (fv 1))))))))) ?_;rintro as Q ⟨b,rfl,hl,hb,q⟩;refine⟨rfl,dF (f:=pt) (h:=λp=>t3 (aG p)) (λ(w:Option U)acc=>[w,↥acc]) b.o none [] (by simp;lia) (λp m w acc rest ha K=>?_) λw=>?_⟩
 ·exact⟨p,rfl,hb p m,ha,K _⟩
 refine⟨a9 (λ_=>rfl) _,?_⟩;rw[VO,show(b.o.map λp=>t3 (aG p))=(b.o.map aG).map t3 by rw[UA];rfl];have hs:∀s∈b.o.map aG,B3 3000 s:=λs m=>by
  obtain⟨p,mp,rfl⟩:=SS.mp m;exact(mL (hb p mp)).up ∅
 have hle:(b.o.map aG).length<=8000:=by rw[SV];exact hl
 unfold gV at q;generalize b.o.map aG=ss at hs hle q;refine(?_:t6 [⇑(cU b),↥(ss.map t3)] _);have e1:iC (ss.map t3) (oZ 1) none++iC (ss.map t3) none (oZ 1)=(sV ss).map t3:=by rw[Oq,Dd,sV,US,YC,XI]
 refine⟨?_,?_⟩
 ·show(iC (ss.map t3) (oZ 1) none).length+(iC (ss.map t3) none (oZ 1)).length<=9000;rw[Oq,Dd,WI,UP,SV];lia
 ·refine⟨rfl,?_⟩;show iV _ _ (gP (ss.map t3) (iC (ss.map t3) (oZ 1) none++iC (ss.map t3) none (oZ 1))) _ _;rw[e1,zip_map];have hz:∀p∈ss.zip (sV ss),B3 3000 p.1/\B3 3000 p.2:=λp m=>by
   obtain⟨m1,m2⟩:=VY (a:=p.1) (b:=p.2) m;refine⟨hs _ m1,hs _ ?_⟩;obtain m2|m2:=TY.mp m2
   ·exact WT m2
   ·exact VH m2
  refine dF (f:=λp:I3×I3=>.tup [t3 p.1,t3 p.2]) (h:=λp=>t3 (nJ p.1 p.2)) (λ(w:Option U×Option U)acc=>[w.1,w.2,↥acc]) _ (none,none) [] (by simp;lia) (λp m w acc rest ha K=>?_) λw=>?_
  ·exact⟨p.1,p.2,rfl,(hz p m).1,(hz p m).2,ha,K (_,_)⟩
  ·refine⟨a9 (λ_=>rfl) _,a9 (λ_=>rfl) _,?_⟩;rw[UA]at q;exact q
structure Sh where
 b:I4
 ls:List I3
def Hb(s:Sh):L2.T:=.tup [t4 s.b,.tup (s.ls.map t3)]
theorem Ma(s:Sh):noL (Hb s)=true:=by
 have:=a9 (f:=t3) (λ_=>rfl) s.ls;simp[Hb,t4,noL,dN,this]
theorem Lz(b:eJ):noL (cU b)=true:=by
 have:=a9 (f:=pt) (λ_=>rfl) b.o;simp[cU,noL,dN,this]
def bE(b:eJ):Sh:=⟨xC (b.o.map aG),(gV b.o).map dA⟩
structure Ko(b:eJ):Prop where
 len:b.o.length<=8000
 pos:0<b.o.length
 pb:∀p∈b.o,Pb p
 ne:∀l∈gV b.o,g3 l≠0
theorem Oy(h:∀p∈o,Pb p):∀l∈gV o,B3 81 l:=λl m=>by
 obtain⟨p,mp,rfl⟩:=SS.mp m;obtain⟨m1,m2⟩:=VY (a:=p.1) (b:=p.2) mp;have hs:∀s∈o.map aG,B3 40 s:=λs m=>by
  obtain⟨p,mp,rfl⟩:=SS.mp m;exact mL (h p mp)
 refine Lr (hs _ m1) (hs _ ?_);obtain m2|m2:=TY.mp m2
 ·exact WT m2
 ·exact VH m2
theorem Gj(h:Pb p):(aG p).2.2≠0:=by
 have hx:=h.v.x.d;have hy:=h.v.y.d;show p.1.2.fdiv (iZ p.1.2 p.2.2)*p.2.2≠0;refine XO ?_ ⋯;unfold iZ;rw[rZ];have dn:((VB p.1.2.natAbs p.2.2.natAbs:Nat):Int)∣p.1.2:=VD.mpr (WO _ _);intro z;have:=Int.ediv_mul_cancel dn;rw[z,Int.zero_mul]at this
 lia
def H0:iU:=λas Q=>∃b:eJ,as=[.v (cU b)]/\Ko b/\Q (.v (Hb (bE b))) []
abbrev uV(P w K mg base):=(~~~Fn) 4 "shape_of" ["block"] (aU K H0)
abbrev qR:dh:=top 24
theorem vC:aI ["block","lines"] ["block"] (aC qR):=iQ
theorem Jg(F:eO K "shape_of" "shape_of" qR f fd)(TX:Txt mg)(qk: ~~~pN)(kz: ~~~gU)(qe: ~~~tL)(lr: ~~~lP):(~~~bG) fJ 4 f fd ["block"] (aU K H0):=by
 refine F.okU vC (λhr=>(aB (sA (i:=1) (N':=["line"]) (t:=1) (cap:=[]) vC.nd rfl (WE rfl) rfl rfl (bI.of rfl) rfl ∅ (cS rfl (fK qk (f1 (fv 0)))) (λ_ _ _ _=>(fH 0)) (λ_ _ _ _=>(fK kz (f1 (fv 0))))) (aE (aP (aO (f2 (fK qe (f1 (jW (N':=["corner"]) (t:=1) (cap:=[]) rfl (bI.of rfl) rfl ∅ (Dj rfl (fQ 0)) (λ_ _ _ _=>(fH 0)) (λ_ _ _ _=>(fK lr (f1 (fv 0))))))) (xJ rfl rfl TX.n_tuple (f1 (fv 1))))))))) ?_;rintro as Q ⟨b,rfl,h,q⟩;refine⟨b,rfl,h.len,h.pb,rfl,?_⟩;have hle:(gV b.o).length<=8000:=by
  have:=h.len;simp only[gV,SV,ZE];lia
 refine dF (f:=t3) (h:=λl=>t3 (dA l)) (λ(w:Option U)acc=>[w,↥acc]) _ none [] (by simp;lia) (λl m w acc rest ha K=>?_) λw=>?_
 ·exact⟨l,rfl,(Oy h.pb l m).up ∅,h.ne l m,ha,K _⟩
 refine⟨a9 (λ_=>rfl) _,?_⟩;refine⟨rfl,dF (f:=pt) (h:=λp=>t3 (aG p)) (λ(w:Option U)acc=>[w,↥acc]) b.o none [] (by have:=h.len;simp;lia) (λp m w acc rest ha K=>?_) λw=>?_⟩
 ·exact⟨p,rfl,h.pb p m,ha,K _⟩
 refine⟨a9 (λ_=>rfl) _,?_⟩;refine⟨_,b.o.map aG,rfl,.inl (by rw[UA];rfl),by rw[SV];exact h.pos,by rw[SV];exact h.len,λs m=>?_,?_⟩
 ·obtain⟨p,mp,rfl⟩:=SS.mp m;exact⟨(mL (h.pb p mp)).up ∅,Gj (h.pb p mp)⟩
 ·have e:([]++(gV b.o).map λl=>t3 (dA l))=(((gV b.o).map dA).map t3):=by rw[UA];rfl
  rw[e];exact⟨Ma (bE b),q⟩
def Sd:iU:=λas Q=>∃bs:List eJ,as=[.v (.lst (bs.map cU))]/\bs.length<=8000/\(∀b∈bs,Ko b)/\Q (.l ((bs.map bE).map Hb)) []
abbrev rG(P w K mg base):=(~~~Fn) 5 "shapes_of" ["laid"] (aU K Sd)
abbrev nW:dh:=top 25
theorem Fz:aI ["laid"] ["laid"] (aC nW):=iQ
theorem Ek(F:eO K "shapes_of" "shapes_of" nW f fd)(TX:Txt mg)(rh: ~~~uV):(~~~bG) fJ 5 f fd ["laid"] (aU K Sd):=by
 refine F.okU Fz (λhr=>(aE (aP (jW (N':=["block"]) (t:=1) (cap:=[]) rfl (bI.of rfl) rfl ∅ (cS rfl (fv 0)) (λ_ _ _ _=>(fH 0)) (λ_ _ _ _=>(fK rh (f1 (fv 0)))))))) ?_;rintro as Q ⟨bs,rfl,hl,h,q⟩;refine⟨rfl,dF (f:=cU) (h:=λb=>Hb (bE b)) (λ(w:Option U)acc=>[w,↥acc]) bs none [] (by simp;lia) (λb m w acc rest ha K=>?_) λw=>?_⟩
 ·exact⟨b,rfl,h b m,ha,K _⟩
 ·rw[UA]at q;exact⟨a9 (λ_=>Ma _) _,a9 (λ_=>Ma _) _,q⟩
structure Sg where
 b:I4
 p:I3
 q:I3
 l:I3
def MA(s:Sg):L2.T:=.tup [t4 s.b,.tup [t3 s.p,t3 s.q],t3 s.l]
def gK(p q:Pt):Sg:=⟨xC [aG p,aG q],aG p,aG q,dA (nJ (aG p) (aG q))⟩
def MQ:iU:=λas Q=>∃p q:Pt,as=[.v (pt p),.v (pt q)]/\Pb p/\Pb q/\g3 (nJ (aG p) (aG q))≠0/\Q (.v (MA (gK p q))) []
abbrev pO(P w K mg base):=(~~~Fn) 3 "segment_of" ["begin","end"] (aU K MQ)
abbrev mG:dh:=top 26
theorem pR:aI ["begin","end","spots"] ["begin","end"] (aC mG):=iQ
theorem zT(F:eO K "segment_of" "segment_of" mG f fd)(TX:Txt mg)(lr: ~~~lP)(qe: ~~~tL)(kz: ~~~gU)(lq: ~~~jQ):(~~~bG) fJ 3 f fd ["begin","end"] (aU K MQ):=by
 refine F.okU pR (λhr=>(aB (fS 2 pR.nd (aO (f2 (fK lr (f1 (fv 0))) (fK lr (f1 (fv 1)))))) (aE (aP (aO (f3 (fK qe (f1 (fv 2))) (fv 2) (fK kz (f1 (fK lq (f2 (fQ 2) (fQ 2))))))))))) ?_;rintro as Q ⟨p,q,rfl,hp,hq,h0,z⟩;have bp:=(mL hp).up (show 40<=3000 by decide);have bq:=(mL hq).up (show 40<=3000 by decide);refine⟨p,rfl,hp,q,rfl,hq,_,[aG p,aG q],rfl,.inr rfl,(show 0<2 by decide),(show 2<=8000 by decide),λs m=>?_,_,_,rfl,bp,bq,_,rfl,(Lr bp bq).up ∅,h0,rfl,z⟩;obtain rfl|m:=SU.mp m
 ·exact⟨bp,Gj hp⟩
 ·have e:s=aG q:=by simpa using m
  subst e;exact⟨bq,Gj hq⟩
def aZ(x y:Fr):Fr:=if fV x y<0 then y else x
def aL(x y:Fr):Fr:=if fV x y<0 then x else y
def Y0(op:Fr->Fr->Fr):iU:=λas Q=>∃x y:Fr,as=[.v (fr x),.v (fr y)]/\sz x+sz y<=7900/\Q (.v (fr (op x y))) []
abbrev wQ(P w K mg base):=(~~~Fn) 2 "later" oH (aU K (Y0 aZ))
abbrev Fl:dh:=top 28
theorem D9:aI oH oH (aC Fl):=iQ
theorem Zd(F:eO K "later" "later" Fl f fd)(TX:Txt mg)(ko: ~~~jI):(~~~bG) fJ 2 f fd oH (aU K (Y0 aZ)):=by
 refine F.okU D9 (λhr=>(aE (aP (r8 (fP e8 (fK ko (f2 (fv 0) (fv 1))) aA) (fv 1) (fv 0))))) ?_;rintro as Q ⟨x,y,rfl,hs,q⟩;refine⟨x,y,rfl,hs,?_⟩;unfold aZ at q;show if decide (fV x y<0)=true then _ else _
 by_cases c:fV x y<0
 ·rw[oY c,oV rfl];rw[oV c]at q;exact⟨rfl,q⟩
 ·rw[oX c,oW ∅];rw[oW c]at q;exact⟨rfl,q⟩
abbrev pX(P w K mg base):=(~~~Fn) 2 "earlier" oH (aU K (Y0 aL))
abbrev t9:dh:=top 29
theorem Nd:aI oH oH (aC t9):=iQ
theorem Mc(F:eO K "earlier" "earlier" t9 f fd)(TX:Txt mg)(ko: ~~~jI):(~~~bG) fJ 2 f fd oH (aU K (Y0 aL)):=by
 refine F.okU Nd (λhr=>(aE (aP (r8 (fP e8 (fK ko (f2 (fv 0) (fv 1))) aA) (fv 0) (fv 1))))) ?_;rintro as Q ⟨x,y,rfl,hs,q⟩;refine⟨x,y,rfl,hs,?_⟩;unfold aL at q;show if decide (fV x y<0)=true then _ else _
 by_cases c:fV x y<0
 ·rw[oY c,oV rfl];rw[oV c]at q;exact⟨rfl,q⟩
 ·rw[oX c,oW ∅];rw[oW c]at q;exact⟨rfl,q⟩
structure F2(p:Fr):Prop where
 s:sz p<=300
 d:1<=p.2
theorem F2.later(h:F2 x)(k:F2 y):F2 (aZ x y):=by unfold aZ;split<;>assumption
theorem F2.earlier(h:F2 x)(k:F2 y):F2 (aL x y):=by unfold aL;split<;>assumption
theorem F2.of{n d:Int}(h:n.natAbs<2^300)(k:d.natAbs<2^300)(hd:1<=d):F2 (n,d):=⟨n9 (p:=(n,d)) h k ∅,hd⟩
theorem F2.c(h:F2 x)(k:F2 y):sz x+sz y<=7900:=by have:=h.s;have:=k.s;lia
theorem Sn:F2 (0,1):=F2.of ∅ ∅ ∅
theorem So:F2 (1,1):=F2.of ∅ ∅ ∅
def JL:Nat->Str
 |0=>"in"
 |1=>"left"
 |_=>"right"
def nO(b e own:I3):List I3->Fr->Fr->Nat->Option (Fr×Fr×Nat)
 |[],lo,hi,h=>oZ (lo,hi,h)
 |l::ls,lo,hi,h=>
  if iS l b*e.2.2<=0/\iS l e*b.2.2<=0 then
   if iS l b*e.2.2<0\/iS l e*b.2.2<0 then none else nO b e own ls lo hi (if l=own then 1 else 2)
  else if iS l b*e.2.2<0 then nO b e own ls (aZ lo (-(iS l b*e.2.2),iS l e*b.2.2-iS l b*e.2.2)) hi h
  else if iS l e*b.2.2<0 then nO b e own ls lo (aL hi (iS l b*e.2.2,iS l b*e.2.2-iS l e*b.2.2)) h
  else nO b e own ls lo hi h
def Bl:Option (Fr×Fr×Nat)->Option (Fr×Fr×Nat)
 |none=>none
 |some r=>if fV r.1 r.2.1<0 then oZ r else none
def bA(s:Sh)(g:Sg):Option (Fr×Fr×Nat):=if pY s.b g.b=true then none else Bl (nO g.p g.q g.l s.ls (0,1) (1,1) 0)
def NQ:Option (Fr×Fr×Nat)->L2.T
 |none=>.non
 |some r=>.tup [fr r.1,fr r.2.1,.str (JL r.2.2)]
def Ci(r:Option (Fr×Fr×Nat)):Prop:=∀x,r=oZ x->F2 x.1/\F2 x.2.1
theorem S9(hl:B3 81 l)(hb:B3 40 b)(he:B3 40 e):(iS l b*e.2.2).natAbs<2^163:=bM (Za hl hb) he.c
theorem Ql(hb:B3 40 b)(he:B3 40 e):∀(ls:List I3)(lo hi:Fr)(h:Nat),(∀l∈ls,B3 81 l)->F2 lo->F2 hi->Ci (nO b e own ls lo hi h)
 |[],lo,hi,h,_,f1,f2=>λx e=>by cases e;exact⟨f1,f2⟩
 |l::ls,lo,hi,h,hl,f1,f2=>by
  have k1:=S9 (hl l (by simp)) hb he;have k2:=S9 (hl l (by simp)) he hb;have rest:=λlo hi h f1 f2=>Ql hb he ls lo hi h (λl m=>hl l (by simp[m])) f1 f2 (own:=own);unfold nO
  split
  ·split
   ·intro x e;cases e
   ·exact rest _ _ _ f1 f2
  ·split
   ·exact rest _ _ _ (f1.later (F2.of (by rw[XB];exact pl k1 ∅) (pl (kO k2 k1) ∅) ⋯)) f2
   ·split
    ·exact rest _ _ _ f1 (f2.earlier (F2.of (pl k1 ∅) (pl (kO k1 k2) ∅) ⋯))
    ·exact rest _ _ _ f1 f2
theorem Qm(hs:∀l∈s.ls,B3 81 l)(hp:B3 40 g.p)(hq:B3 40 g.q):Ci (bA s g):=by
 unfold bA
 split
 ·intro x e;cases e
 ·have:=Ql (own:=g.l) hp hq s.ls (0,1) (1,1) 0 hs Sn So;intro x e;cases q:nO g.p g.q g.l s.ls (0,1) (1,1) 0 with
  |none=>rw[q]at e;cases e
  |some r=>
   rw[q]at e;unfold Bl at e;simp only at e;split at e
   ·cases e;exact this _ q
   ·cases e
theorem IU(a b:I3):iP (t3 a) (t3 b)=decide (a=b):=by
 rw[XQ];simp[t3,L2.iP,L2.vH,Prod.ext_iff]
def Ke:iU:=λas Q=>∃(s:Sh)(g:Sg),as=[.v (Hb s),.v (MA g)]/\(∀l∈s.ls,B3 81 l)/\B3 40 g.p/\B3 40 g.q/\B3 3000 g.l/\Q (.v (NQ (bA s g))) []
abbrev wW(P w K mg base):=(~~~Fn) 3 "overlap" ["shape","segment"] (aU K Ke)
abbrev uC:dh:=top 27
theorem cZ:aI ["shape","segment","line","box","own","low","high","hand","begin","end","first","last"] ["shape","segment"] (aC uC):=iQ
theorem Mg(F:eO K "overlap" "overlap" uC f fd)(TX:Txt mg)(qt: ~~~rB)(qm: ~~~uT)(rd: ~~~wQ)(ph: ~~~pX)(ko: ~~~jI)(uo:wM mg K "NOUGHT" (.tup [.int 0,.int 1]))(zm:wM mg K "ONE" (.tup [.int 1,.int 1])):(~~~bG) fJ 3 f fd ["shape","segment"] (aU K Ke):=by
 refine F.okU cZ (λhr=>(aB (kS (fv 1) (cM (n:=3) rfl rfl (aF (fG 3 cZ.nd) (aF (cM (n:=2) rfl rfl (aF (fG 8 cZ.nd) (aF (fG 9 cZ.nd) bS))) (aF (fG 4 cZ.nd) bS))))) (aB (dG (DP (fK qt (f2 (fQ 0) (fv 3)))) (aE (aP nD)) cG) (aB (Pm (i:=5) (j:=6) (k:=7) rfl cZ.nd rfl rfl rfl ∅ ∅ ∅ rfl rfl rfl (f3 (vX rfl uo) (vX rfl zm) kR) rfl) (aB (eS PassesOwn.never rfl (Dj rfl (fQ 0)) (fG 2 cZ.nd) (aB (gJ (i:=10) (j:=11) rfl cZ.nd rfl rfl ∅ rfl rfl (f2 (aM aS (fK qm (f2 (fv 2) (fv 8))) (fQ 9)) (aM aS (fK qm (f2 (fv 2) (fv 9))) (fQ 8))) rfl) (aE (dG (zI (tV (fP Zm (fv 10) aA) (o7 (fP Zm (fv 11) aA)))) (aB (dG (zI (Ic (fP e8 (fv 10) aA) (Dr (fP e8 (fv 11) aA)))) (aE (aP nD)) cG) (aE (fS 7 cZ.nd (r8 (Pn rfl hr (fv 2) (fv 4) (cN _)) kR kR)))) (aE (dG (fP e8 (fv 10) aA) (aE (fS 5 cZ.nd (fK rd (f2 (fv 5) (aO (f2 (xI (fv 10)) (aY i8 (fv 11) (fv 10)))))))) (aE (dG (fP e8 (fv 11) aA) (aE (fS 6 cZ.nd (fK ph (f2 (fv 6) (aO (f2 (fv 10) (aY i8 (fv 10) (fv 11)))))))) cG)))))))) (aE (aP (r8 (fP e8 (fK ko (f2 (fv 5) (fv 6))) aA) (aO (f3 (fv 5) (fv 6) (fv 7))) nD)))))))) ?_;rintro as Q ⟨s,g,rfl,hs,hp,hq,hl,q⟩;refine⟨_,_,rfl,?_⟩;unfold bA at q;show if pY s.b g.b=true then _ else _
 by_cases c:pY s.b g.b=true
 ·rw[oV c];rw[oV c]at q;exact⟨rfl,q⟩
 rw[oW c];rw[oW c]at q;refine cW (f:=t3) (λs':Fr×Fr×Nat×Option U×Option U×Option U=>[⇑(Hb s),⇑(MA g),s'.2.2.2.1,⇑(t4 g.b),⇑(t3 g.l),⇑(fr s'.1),⇑(fr s'.2.1),⇑(.str (JL s'.2.2.1)),⇑(t3 g.p),⇑(t3 g.q),s'.2.2.2.2.1,s'.2.2.2.2.2])
  (λls s'=>(∀l∈ls,B3 81 l)/\F2 s'.1/\F2 s'.2.1/\Q (.v (NQ (Bl (nO g.p g.q g.l ls s'.1 s'.2.1 s'.2.2.1)))) []) ?_ ?_ s.ls ((0,1),(1,1),0,none,none,none) ⟨hs,Sn,So,q⟩
 ·rintro l ls ⟨lo,hi,h,v2,v10,v11⟩ rest ⟨hls,f1,f2,z⟩ K;have zi:=(hls l (by simp)).up (show 81<=3000 by decide);have hp':=hp.up (show 40<=3000 by decide);have xi:=hq.up (show 40<=3000 by decide);have k1:=S9 (hls l (by simp)) hp hq;have k2:=S9 (hls l (by simp)) hq hp;have kn:∀m∈ls,B3 81 m:=λm hm=>hls m (by simp[hm]);refine⟨l,g.p,rfl,zi,hp',fN (e:=123) (Za (hls l (by simp)) hp) (pl hq.c ∅) ∅,l,g.q,rfl,zi,xi,fN (e:=123) (Za (hls l (by simp)) hq) (pl hp.c ∅) ∅,?_⟩;simp only[nO]at z;generalize ef:iS l g.p*g.q.2.2=a at z k1 k2⊢;generalize eg:iS l g.q*g.p.2.2=b at z k1 k2⊢;have fa:1<=b-a->F2 (-a,b-a):=F2.of (by rw[XB];exact pl k1 ∅) (pl (kO k2 k1) ∅);have fb:1<=a-b->F2 (a,a-b):=F2.of (pl k1 ∅) (pl (kO k1 k2) ∅);show if decide (a<=0)=true then _ else _
  by_cases c1:a<=0
  ·rw[oY c1,oV rfl];show if decide (b<=0)=true then _ else _
   by_cases c2:b<=0
   ·rw[oY c2,oV rfl];rw[oV ⟨c1,c2⟩]at z;show if decide (a<0)=true then _ else _
    by_cases c3:a<0
    ·rw[oY c3,oV rfl,oV rfl];rw[oV (.inl c3)]at z;exact⟨rfl,z⟩
    ·rw[oX c3,oW ∅];show if decide (b<0)=true then _ else _
     by_cases c4:b<0
     ·rw[oY c4,oV rfl];rw[oV (.inr c4)]at z;exact⟨rfl,z⟩
     ·rw[oX c4,oW ∅];rw[oW (λw=>w.elim c3 c4)]at z;refine⟨kE rfl,?_⟩;show if iP (t3 l) (t3 g.l)=true then _ else _;rw[IU]
      by_cases c5:l=g.l
      ·rw[oY c5,oV rfl];rw[oV c5]at z;exact K (lo,hi,1,⇑(t3 l),↑a,↑b) ⟨kn,f1,f2,z⟩
      ·rw[oX c5,oW ∅];rw[oW c5]at z;exact K (lo,hi,2,⇑(t3 l),↑a,↑b) ⟨kn,f1,f2,z⟩
   ·rw[oX c2,oW ∅];rw[oW (λw=>c2 w.2)]at z;show if decide (a<0)=true then _ else _
    by_cases c3:a<0
    ·rw[oY c3,oV rfl];rw[oV c3]at z;exact⟨_,_,rfl,f1.c (fa ⋯),K (_,hi,h,_,_,_) ⟨kn,f1.later (fa ⋯),f2,z⟩⟩
    ·rw[oX c3,oW ∅];rw[oW c3]at z;show if decide (b<0)=true then _ else _;rw[oX ⋯,oW ∅];rw[oW ⋯]at z;exact K (lo,hi,h,_,_,_) ⟨kn,f1,f2,z⟩
  ·rw[oX c1,oW ∅,oW ∅];rw[oW (λw=>c1 w.1),oW ⋯]at z;show if decide (a<0)=true then _ else _;rw[oX ⋯,oW ∅];show if decide (b<0)=true then _ else _
   by_cases c3:b<0
   ·rw[oY c3,oV rfl];rw[oV c3]at z;exact⟨_,_,rfl,f2.c (fb ⋯),K (lo,_,h,_,_,_) ⟨kn,f1,f2.earlier (fb ⋯),z⟩⟩
   ·rw[oX c3,oW ∅];rw[oW c3]at z;exact K (lo,hi,h,_,_,_) ⟨kn,f1,f2,z⟩
 ·rintro⟨lo,hi,h,v2,v10,v11⟩ ⟨_,f1,f2,z⟩;refine⟨lo,hi,rfl,f1.c f2,?_⟩;simp only[nO,Bl]at z;show if decide (fV lo hi<0)=true then _ else _
  by_cases c:fV lo hi<0
  ·rw[oY c,oV rfl];rw[oV c]at z;exact⟨rfl,z⟩
  ·rw[oX c,oW ∅];rw[oW c]at z;exact⟨rfl,z⟩
abbrev lQ:=Fr×Fr×Bool
def SE:Bool->L2.T
 |false=>.non
 |true=>.bl true
def qI(r:lQ):L2.T:=.tup [fr r.1,fr r.2.1,SE r.2.2]
def xZ(lo hi:Fr)(r:lQ):List lQ:=
 if r.2.2=true then[r]else if 0<=fV (aZ r.1 lo) (aL r.2.1 hi)then[r]else
  (if fV r.1 (aZ r.1 lo)<0 then[(r.1,aZ r.1 lo,false)]else[])++[(aZ r.1 lo,aL r.2.1 hi,true)]++(if fV (aL r.2.1 hi) r.2.1<0 then[(aL r.2.1 hi,r.2.1,false)]else[])
def bY(rows:List lQ)(lo hi:Fr):List lQ:=rows.flatMap (xZ lo hi)
def j4(rows:List lQ):Prop:=∀r∈rows,F2 r.1/\F2 r.2.1
theorem V2{lo hi:Fr}{r:lQ}(h:F2 r.1/\F2 r.2.1)(hl:F2 lo)(hh:F2 hi):j4 (xZ lo hi r):=by
 have f1:=h.1.later hl;have f2:=h.2.earlier hh;unfold xZ;intro x m;split at m
 ·have e:x=r:=by simpa using m
  subst e;exact h
 ·split at m
  ·have e:x=r:=by simpa using m
   subst e;exact h
  ·obtain m|m:=TY.mp m
   ·obtain m|m:=TY.mp m
    ·split at m
     ·have e:=TM.mp m;subst e;exact⟨h.1,f1⟩
     ·simp at m
    ·have e:=TM.mp m;subst e;exact⟨f1,f2⟩
   ·split at m
    ·have e:=TM.mp m;subst e;exact⟨f2,h.2⟩
    ·simp at m
theorem iB{rows:List lQ}{lo hi:Fr}(h:j4 rows)(hl:F2 lo)(hh:F2 hi):j4 (bY rows lo hi):=λx m=>by
 obtain⟨r,mr,m⟩:=UC.mp m;exact V2 (h r mr) hl hh x m
theorem nM:∀(a b:List L2.T),dN (a++b)=(dN a&&dN b)
 |[],b=>rfl
 |x::a,b=>by rw[XF,dN,dN,nM a b,Bool.and_assoc]
theorem EL(r:lQ):noL (qI r)=true:=by
 obtain⟨a,b,c⟩:=r;cases c<;>rfl
def Rz:iU:=λas Q=>∃(rows:List lQ)(lo hi:Fr),as=[.v (.lst (rows.map qI)),.v (fr lo),.v (fr hi),.v (.bl true)]/\rows.length<=300/\j4 rows/\F2 lo/\F2 hi/\Q (.l ((bY rows lo hi).map qI)) []
abbrev z9(P w K mg base):=(~~~Fn) 3 "parted" ["rows","low","high","name"] (aU K Rz)
abbrev yJ:dh:=top 30
theorem jZ:aI ["rows","low","high","name","found","begin","end","given","first","last"] ["rows","low","high","name"] (aC yJ):=iQ
theorem Uk(F:eO K "parted" "parted" yJ f fd)(TX:Txt mg)(rd: ~~~wQ)(ph: ~~~pX)(ko: ~~~jI):(~~~bG) fJ 3 f fd ["rows","low","high","name"] (aU K Rz):=by
 refine F.okU jZ (λhr=>(aB (fS 4 jZ.nd (cH gG)) (aB (eS PassesOwn.never rfl (cS rfl (fv 0)) (cM (n:=3) rfl rfl (aF (fG 5 jZ.nd) (aF (fG 6 jZ.nd) (aF (fG 7 jZ.nd) bS)))) (aB (gJ (i:=8) (j:=9) rfl jZ.nd rfl rfl ∅ rfl rfl (f2 (fK rd (f2 (fv 5) (fv 1))) (fK ph (f2 (fv 6) (fv 2)))) rfl) (aB (dG (zI (Ic (Dq (fv 7) (cN _)) (Dr (fP Zl (fK ko (f2 (fv 8) (fv 9))) aA)))) (aB (e7 (hV rfl (fv 4) (f1 (aO (f3 (fv 5) (fv 6) (fv 7)))))) (aE Pl)) cG) (aB (dG (fP e8 (fK ko (f2 (fv 5) (fv 8))) aA) (aE (e7 (hV rfl (fv 4) (f1 (aO (f3 (fv 5) (fv 8) nD)))))) cG) (aB (e7 (hV rfl (fv 4) (f1 (aO (f3 (fv 8) (fv 9) (fv 3)))))) (aE (dG (fP e8 (fK ko (f2 (fv 9) (fv 6))) aA) (aE (e7 (hV rfl (fv 4) (f1 (aO (f3 (fv 9) (fv 6) nD)))))) cG))))))) (aE (aP (fv 4)))))) ?_;rintro as Q ⟨rows,lo,hi,rfl,hl,hr,h1,h2,q⟩;refine cW (f:=qI) (λs':List L2.T×Option U×Option U×Option U×Option U×Option U=>[⇑(.lst (rows.map qI)),⇑(fr lo),⇑(fr hi),⇑(.bl true),↥s'.1,s'.2.1,s'.2.2.1,s'.2.2.2.1,s'.2.2.2.2.1,s'.2.2.2.2.2])
  (λrs s'=>j4 rs/\s'.1.length+3*rs.length<=8000/\dN s'.1=true/\Q (.l (s'.1++(bY rs lo hi).map qI)) []) ?_ ?_ rows ([],none,none,none,none,none) ⟨hr,by simp;lia,rfl,q⟩
 ·rintro r rs ⟨acc,v5,v6,v7,v8,v9⟩ rest ⟨hrs,hn,uh,z⟩ K;have hr1:=hrs r (by simp);have kn:j4 rs:=λx m=>hrs x (by simp[m]);have f1:=hr1.1.later h1;have f2:=hr1.2.earlier h2;simp only[TB]at hn;replace z:Q (.l (acc++(xZ lo hi r++bY rs lo hi).map qI)) []:=z;rw[US]at z;unfold xZ at z;refine⟨_,_,rfl,hr1.1.c h1,_,_,rfl,hr1.2.c h2,?_⟩;generalize ea:aZ r.1 lo=a at z f1⊢;generalize eb:aL r.2.1 hi=b at z f2⊢;obtain⟨rb,re,rg⟩:=r;simp only at z f1 f2 hr1 ea eb hn;have no1:∀(L:List L2.T)(x:lQ),dN L=true->dN (L++[qI x])=true:=λL x h=>by rw[nM,h,dN,EL];rfl
  have l1:∀(x:L2.T),(acc++[x]).length<=9000:=λx=>by rw[TC,VQ];lia
  cases rg with
  |true=>
   rw[oV rfl]at z;exact⟨l1 _,K (acc++[qI (rb,re,true)],⇑(fr rb),⇑(fr re),⇑(.bl true),⇑(fr a),⇑(fr b)) ⟨kn,by simp;lia,no1 _ _ uh,by rw[TF];exact z⟩⟩
  |false=>
   rw[oW ∅]at z;refine⟨_,_,rfl,f1.c f2,?_⟩;show if decide (0<=fV a b)=true then _ else _
   by_cases c:0<=fV a b
   ·rw[oY c,oV rfl];rw[oV c]at z;exact⟨l1 _,K (acc++[qI (rb,re,false)],⇑(fr rb),⇑(fr re),⇑(.non),⇑(fr a),⇑(fr b)) ⟨kn,by simp;lia,no1 _ _ uh,by rw[TF];exact z⟩⟩
   rw[oX c,oW ∅];rw[oW c]at z;refine⟨_,_,rfl,hr1.1.c f1,?_⟩;show if decide (fV rb a<0)=true then _ else _
   -- the tail,whatever was put in ahead
   have tail:∀(L:List L2.T),L.length<=acc.length+1->dN L=true->Q (.l (L++([(a,b,true)]++(if fV b re<0 then[(b,re,false)]else[])).map qI++(bY rs lo hi).map qI)) []->(L++[qI (a,b,true)]).length<=9000/\sz b+sz re<=7900/\
     (if fV b re<0 then((L++[qI (a,b,true)])++[qI (b,re,false)]).length<=9000/\dN ((L++[qI (a,b,true)])++[qI (b,re,false)])=true/\((L++[qI (a,b,true)])++[qI (b,re,false)]).length+3*rs.length<=8000/\Q (.l (((L++[qI (a,b,true)])++[qI (b,re,false)])++(bY rs lo hi).map qI)) []
      else dN (L++[qI (a,b,true)])=true/\(L++[qI (a,b,true)]).length+3*rs.length<=8000/\Q (.l ((L++[qI (a,b,true)])++(bY rs lo hi).map qI)) []):=λL hL hN w=>by
    refine⟨by rw[TC,VQ];lia,f2.c hr1.2,?_⟩
    by_cases c3:fV b re<0
    ·rw[oV c3];rw[oV c3]at w;simp only[TC,VQ];refine⟨⋯,no1 _ _ (no1 _ _ hN),⋯,?_⟩
     simpa using w
    ·rw[oW c3];rw[oW c3]at w;simp only[TC,VQ];exact⟨no1 _ _ hN,⋯,by simpa using w⟩
   by_cases c2:fV rb a<0
   ·rw[oY c2,oV rfl];rw[oV c2]at z;obtain⟨t1,t2,vx⟩:=tail (acc++[qI (rb,a,false)]) (by simp) (no1 _ _ uh) (by simpa using z);refine⟨l1 _,t1,_,_,rfl,t2,?_⟩;show if decide (fV b re<0)=true then _ else _
    by_cases c3:fV b re<0
    ·rw[oY c3,oV rfl];rw[oV c3]at vx;exact⟨vx.1,K (_,⇑(fr rb),⇑(fr re),⇑(.non),⇑(fr a),⇑(fr b)) ⟨kn,vx.2.2.1,vx.2.1,vx.2.2.2⟩⟩
    ·rw[oX c3,oW ∅];rw[oW c3]at vx;exact K (_,⇑(fr rb),⇑(fr re),⇑(.non),⇑(fr a),⇑(fr b)) ⟨kn,vx.2.1,vx.1,vx.2.2⟩
   ·rw[oX c2,oW ∅];rw[oW c2]at z;obtain⟨t1,t2,vx⟩:=tail acc (by simp) uh (by simpa using z);refine⟨t1,_,_,rfl,t2,?_⟩;show if decide (fV b re<0)=true then _ else _
    by_cases c3:fV b re<0
    ·rw[oY c3,oV rfl];rw[oV c3]at vx;exact⟨vx.1,K (_,⇑(fr rb),⇑(fr re),⇑(.non),⇑(fr a),⇑(fr b)) ⟨kn,vx.2.2.1,vx.2.1,vx.2.2.2⟩⟩
    ·rw[oX c3,oW ∅];rw[oW c3]at vx;exact K (_,⇑(fr rb),⇑(fr re),⇑(.non),⇑(fr a),⇑(fr b)) ⟨kn,vx.2.1,vx.1,vx.2.2⟩
 ·rintro⟨acc,v5,v6,v7,v8,v9⟩ ⟨_,_,uh,z⟩;refine⟨uh,?_⟩;have e:acc++(bY [] lo hi).map qI=acc:=by simp[bY]
  rw[e]at z;exact z
end
abbrev Q2:=Rat×Rat
abbrev Eg:=Q2×Q2
def aT(u v:Q2):Rat:=u.1*v.2-u.2*v.1
def aN(u v:Q2):Rat:=u.1*v.1+u.2*v.2
def aK(p q:Q2):Q2:=(p.1-q.1,p.2-q.2)
def aH(e:Eg):Q2:=aK e.2 e.1
def fE(e:Eg)(x:Q2):Rat:=aT (aH e) (aK x e.1)
def cL(p q:Q2)(t:Rat):Q2:=(p.1+(q.1-p.1)*t,p.2+(q.2-p.2)*t)
theorem mQ(e:Eg)(p q:Q2)(t:Rat):fE e (cL p q t)=fE e p+(fE e q-fE e p)*t:=by
 unfold fE aT aH aK cL;grind
def Cg(es:List Eg)(x:Q2):Prop:=∀e∈es,0<=fE e x
structure QZ(e:Eg)(x:Q2):Prop where
 z:fE e x=0
 a:0<=aN (aH e) (aK x e.1)
 b:0<=aN (aH e) (aK e.2 x)
structure Cx(es:List Eg):Prop where
 inn:∀e∈es,∀g∈es,0<=fE e g.1
 thick:∀e∈es,∃g∈es,0<fE e g.1
 ne:∀e∈es,0<aN (aH e) (aH e)
 nx:∀e∈es,∃g∈es,g.1=e.2/\(0<aT (aH e) (aH g)\/(aT (aH e) (aH g)=0/\0<aN (aH e) (aH g)/\∃h∈es,h.1=g.2/\0<aT (aH g) (aH h)))
 pv:∀e∈es,∃g∈es,g.2=e.1/\(0<aT (aH g) (aH e)\/(aT (aH g) (aH e)=0/\0<aN (aH g) (aH e)/\∃h∈es,h.2=g.1/\0<aT (aH h) (aH g)))
theorem kF{a b:Rat}(h:0<b):0<a*b↔0<a:=⟨bJ h,λk=>Rat.mul_pos k h⟩
theorem Dy{a b:Rat}(h:0<b):0<=a*b↔0<=a:=⟨bR h,λk=>Rat.mul_nonneg k (Rat.le_of_lt h)⟩
theorem P7{a b:Rat}(h:a<0)(k:0<b):a*b<0:=by
 have:=Rat.mul_pos (a:=-a) (b:=b) (by grind) k;grind
theorem par(hu:0<aN u u)(h:aT u d=0):d.1*aN u u=aN u d*u.1/\d.2*aN u u=aN u d*u.2:=by
 unfold aT at h;unfold aN;constructor
 ·have:u.2*(u.1*d.2-u.2*d.1)=0:=by rw[h];grind
  grind
 ·have:u.1*(u.1*d.2-u.2*d.1)=0:=by rw[h];grind
  grind
theorem kM(hu:0<aN u u)(h:aT u d=0):aT w d*aN u u=aN u d*aT w u:=by
 obtain⟨a,b⟩:=par hu h;unfold aT;grind
theorem Lf(hu:0<aN u u)(h:aT u d=0):aN w d*aN u u=aN u d*aN w u:=by
 obtain⟨a,b⟩:=par hu h;unfold aN at a b⊢;grind
theorem Wc(hu:0<aN u u)(h:aT u d=0)(k:0<aN u d)(t:0<aT u w):aT w d<0:=by
 have e:=kM (w:=w) hu h;have s:aT w u = - aT u w:=by unfold aT;grind
 rw[s]at e;have m:=Rat.mul_pos k t;have:0 < -(aT w d)*aN u u:=by grind
 have:=bJ hu this;grind
theorem Wb(hu:0<aN u u)(h:aT u d=0)(k:aN u d<0)(t:0<aT w u):aT w d<0:=by
 have e:=kM (w:=w) hu h;have m:=P7 k t;have:0 < -(aT w d)*aN u u:=by grind
 have:=bJ hu this;grind
theorem D6(hu:0<aN (aH e) (aH e))(c:aT (aH e) (aH g)=0)(d:0<aN (aH e) (aH g))(z:fE e g.1=0):∃r:Rat,0<r/\∀y,fE g y=r*fE e y:=by
 obtain⟨a,b⟩:=par hu c;have n0:aN (aH e) (aH e)≠0:=by grind
 refine⟨aN (aH e) (aH g)/aN (aH e) (aH e),by rw[Rat.div_def];exact Rat.mul_pos d (Rat.inv_pos.mpr hu),λy=>?_⟩;have k1:fE e y-fE e g.1=aT (aH e) (aK y g.1):=by unfold fE aT aK;grind
 rw[z]at k1;have k2:fE g y*aN (aH e) (aH e)=aN (aH e) (aH g)*aT (aH e) (aK y g.1):=by unfold fE aT;grind
 rw[<-k1]at k2;grind
theorem Cx.on(h:Cx es)(he:e∈es)(h0:fE e x=0)(hx:Cg es x):∃g∈es,QZ g x/\∃r:Rat,0<r/\∀y,fE g y=r*fE e y:=by
 have ne:=h.ne e he;have z2:aT (aH e) (aK x e.2)=0:=by rw[<-h0];unfold fE aT aH aK;grind
 by_cases hb:0<=aN (aH e) (aK e.2 x)
 ·by_cases ha:0<=aN (aH e) (aK x e.1)
  ·exact⟨e,he,⟨h0,ha,hb⟩,1,∅,λy=>by grind⟩
  ·obtain⟨g,hg,eg,c⟩:=h.pv e he;have ka:aN (aH e) (aK x e.1)<0:=by grind
   have fg:fE g x=aT (aH g) (aK x e.1):=by rw[<-eg];unfold fE aT aH aK;grind
   obtain c|⟨c,d,k,hk,ek,t⟩:=c
   ·have:=Wb ne (show aT (aH e) (aK x e.1)=0 from h0) ka c;have:=hx g hg;grind
   ·have c':aT (aH e) (aH g)=0:=by unfold aT at c⊢;grind
    have d':0<aN (aH e) (aH g):=by unfold aN at d⊢;grind
    have zg:fE e g.1=0:=by
     have:fE e g.1 = - aT (aH e) (aH g):=by unfold fE aT aH aK;rw[eg];grind
     rw[this,c'];rfl
    obtain⟨r,r0,hr⟩:=D6 ne c' d' zg;have ng:=h.ne g hg;have zx:fE g x=0:=by rw[hr,h0];grind
    have e1:=Lf (u:=aH e) (d:=aH g) (w:=aK e.1 x) ne c';have kb:0<aN (aH g) (aK g.2 x):=by
     have s1:aN (aH g) (aK g.2 x)=aN (aK e.1 x) (aH g):=by rw[eg];unfold aN;grind
     have s2:aN (aK e.1 x) (aH e) = -aN (aH e) (aK x e.1):=by unfold aN aK;grind
     rw[s2]at e1;have:=Rat.mul_pos d' (show 0 < -aN (aH e) (aK x e.1) by grind);rw[s1];exact bJ ne (by grind)
    refine⟨g,hg,⟨zx,?_,Rat.le_of_lt kb⟩,r,r0,hr⟩
    by_cases hc:0<=aN (aH g) (aK x g.1)
    ·exact hc
    ·have kk:=Wb ng (show aT (aH g) (aK x g.1)=0 from zx) (by grind) t;have fk:fE k x=aT (aH k) (aK x g.1):=by rw[<-ek];unfold fE aT aH aK;grind
     have:=hx k hk;grind
 ·obtain⟨g,hg,eg,c⟩:=h.nx e he;have kb:0<aN (aH e) (aK x e.2):=by
   have:aN (aH e) (aK x e.2) = - aN (aH e) (aK e.2 x):=by unfold aN aK;grind
   grind
  have fg:fE g x=aT (aH g) (aK x e.2):=by rw[<-eg];rfl
  obtain c|⟨c,d,k,hk,ek,t⟩:=c
  ·have:=Wc ne z2 kb c;have:=hx g hg;grind
  ·have zg:fE e g.1=0:=by
    rw[eg];unfold fE aT aH aK;grind
   obtain⟨r,r0,hr⟩:=D6 ne c d zg;have ng:=h.ne g hg;have zx:fE g x=0:=by rw[hr,h0];grind
   have e1:=Lf (u:=aH e) (d:=aH g) (w:=aK x e.2) ne c;have ka:0<aN (aH g) (aK x g.1):=by
    have s1:aN (aH g) (aK x g.1)=aN (aK x e.2) (aH g):=by rw[eg];unfold aN;grind
    have s2:aN (aK x e.2) (aH e)=aN (aH e) (aK x e.2):=by unfold aN;grind
    rw[s2]at e1;have:=Rat.mul_pos d kb;rw[s1];exact bJ ne (by grind)
   refine⟨g,hg,⟨zx,Rat.le_of_lt ka,?_⟩,r,r0,hr⟩
   by_cases hc:0<=aN (aH g) (aK g.2 x)
   ·exact hc
   ·have z3:aT (aH g) (aK x g.2)=0:=by rw[<-zx];unfold fE aT aH aK;grind
    have k3:0<aN (aH g) (aK x g.2):=by
     have:aN (aH g) (aK x g.2) = - aN (aH g) (aK g.2 x):=by unfold aN aK;grind
     grind
    have kk:=Wc ng z3 k3 t;have fk:fE k x=aT (aH k) (aK x g.2):=by rw[<-ek];rfl
    have:=hx k hk;grind
theorem nK{α:Type}(f:α->Rat):∀(xs:List α),xs≠[]->∃x∈xs,∀y∈xs,f y<=f x
 |[],h=>absurd rfl h
 |[x],_=>⟨x,by simp,λy m=>by rw[TM]at m;rw[m];grind⟩
 |x::z::r,_=>by
  obtain⟨m,hm,k⟩:=nK f (z::r) (by simp)
  by_cases c:f x<=f m
  ·exact⟨m,by simp[hm],λy hy=>by
    obtain rfl|hy:=SU.mp hy
    ·exact c
    ·exact k y hy⟩
  ·exact⟨x,by simp,λy hy=>by
    obtain rfl|hy:=SU.mp hy
    ·grind
    ·have:=k y hy;grind⟩
theorem Cx.far(h:Cx es)(n0:es≠[])(w:Q2):∃e∈es,∃g∈es,e.2=g.1/\0<aT (aH e) (aH g)/\∀k∈es,aN w k.1<=aN w g.1:=by
 obtain⟨g,hg,mx⟩:=nK (λe:Eg=>aN w e.1) es n0;obtain⟨e,he,eg,c⟩:=h.pv g hg;obtain c|⟨c,d,k,hk,ek,t⟩:=c
 ·exact⟨e,he,g,hg,eg,c,mx⟩
 ·refine⟨k,hk,e,he,ek,t,λy hy=>?_⟩;obtain⟨n,hn,en,_⟩:=h.nx g hg;have a2:aN w n.1<=aN w g.1:=mx n hn;rw[en]at a2;have c':aT (aH e) (aH g)=0:=c;have e1:=Lf (u:=aH e) (d:=aH g) (w:=w) (h.ne e he) c';have b1:aN w (aH e)=aN w g.1-aN w e.1:=by rw[<-eg];unfold aN aH aK;grind
  have b2:aN w (aH g)=aN w g.2-aN w g.1:=by unfold aN aH aK;grind
  have b3:aN w (aH e)<=0:=by
   refine Rat.not_lt.mp λq=>?_;have:=Rat.mul_pos d q;rw[<-e1]at this;have:=bJ (h.ne e he) this;grind
  have:aN w y.1<=aN w g.1:=mx y hy;grind
theorem Cx.box(h:Cx es)(n0:es≠[])(w:Q2)(hx:Cg es x):∃g∈es,aN w x<=aN w g.1:=by
 obtain⟨e,he,g,hg,eg,t,mx⟩:=h.far n0 w;refine⟨g,hg,?_⟩;have f1:=hx e he;have f2:=hx g hg;obtain⟨n,hn,en,_⟩:=h.nx g hg;have a1:=mx e he;have a2:=mx n hn;rw[en]at a2;have k1:fE e x=aT (aH e) (aK x g.1):=by rw[<-eg];unfold fE aT aH aK;grind
 have k2:fE g x=aT (aH g) (aK x g.1):=rfl;rw[k1]at f1;rw[k2]at f2;have id1:(aN w x-aN w g.1)*aT (aH e) (aH g) = -((aN w g.1-aN w e.1)*aT (aH g) (aK x g.1))+(aN w g.2-aN w g.1)*aT (aH e) (aK x g.1):=by
  rw[show g.1=e.2 from eg.symm];unfold aN aT aH aK;grind
 have m1:=Rat.mul_nonneg (show 0<=aN w g.1-aN w e.1 by grind) f2;have m2:=Rat.mul_nonneg (show 0<=aN w g.1-aN w g.2 by grind) f1;refine Rat.not_lt.mp λq=>?_;have:=Rat.mul_pos (show 0<aN w x-aN w g.1 by grind) t;grind
theorem Cx.orient(h:Cx es)(he:e∈es)(hg:g∈es)(e1:fE e p=0)(e2:fE e q=0)(g1:fE g p=0)(g2:fE g q=0)(hp:0<aN (aK q p) (aK q p))(k:0<aN (aH e) (aK q p)):0<aN (aH g) (aK q p):=by
 have key:∀e:Eg,fE e p=0->fE e q=0->∀y,fE e y*aN (aK q p) (aK q p)=aN (aH e) (aK q p)*aT (aK q p) (aK y p):=λe z1 z2 y=>by
  have c:aT (aK q p) (aH e)=0:=by
   have:aT (aK q p) (aH e)=fE e p-fE e q:=by unfold fE aT aH aK;grind
   rw[this,z1,z2];grind
  obtain⟨a,b⟩:=par hp c;have s:fE e y=fE e y-fE e p:=by rw[z1];grind
  have s2:fE e y-fE e p=aT (aH e) (aK y p):=by unfold fE aT aK;grind
  rw[s,s2];have s3:aN (aK q p) (aH e)=aN (aH e) (aK q p):=by unfold aN;grind
  rw[s3]at a b;unfold aT at *;grind
 obtain⟨y,hy,fy⟩:=h.thick e he;obtain⟨y',hy',fy'⟩:=h.thick g hg;have a1:=key e e1 e2 y.1;have b1:=key g g1 g2 y.1;have b2:=key g g1 g2 y'.1;have i1:=h.inn g hg y hy;have m1:=Rat.mul_pos fy hp;rw[a1]at m1;have c0:0<aT (aK q p) (aK y.1 p):=by
  refine bJ k ?_;grind
 have m2:=Rat.mul_nonneg i1 (Rat.le_of_lt hp);rw[b1]at m2;have d0:=bR c0 m2;have m3:=Rat.mul_pos fy' hp;rw[b2]at m3
 by_cases z:aN (aH g) (aK q p)=0
 ·rw[z]at m3;grind
 ·grind
theorem dR{p:Fr}(h:1<=p.2):(0:Rat)<(p.2:Rat):=by exact_mod_cast (show(0:Int)<p.2 by lia)
theorem vd(h:1<=p.2):val p*(p.2:Rat)=(p.1:Rat):=by have:=dR h;unfold val;grind
theorem SQ{t:Rat}(h:1<=p.2):val p<=t↔(p.1:Rat)<=t*(p.2:Rat):=by
 have d:=dR h;have e:=vd h;have:0<=(t-val p)*(p.2:Rat)↔0<=t-val p:=Dy d;grind
theorem SO{t:Rat}(h:1<=p.2):t<=val p↔t*(p.2:Rat)<=(p.1:Rat):=by
 have d:=dR h;have e:=vd h;have:0<=(val p-t)*(p.2:Rat)↔0<=val p-t:=Dy d;grind
theorem iX(hx:1<=x.2)(hy:1<=y.2):fV x y<0↔val x<val y:=by
 have d1:=dR hx;have d2:=dR hy;have e1:=vd hx;have e2:=vd hy;have k:val x<val y↔x.1*y.2<y.1*x.2:=by
  have m:=Rat.mul_pos d1 d2;have i1:(val y-val x)*((x.2:Rat)*(y.2:Rat))=(y.1:Rat)*x.2-(x.1:Rat)*y.2:=by grind
  have i2:=kF (a:=val y-val x) m;rw[i1]at i2;have i3:(x.1:Rat)*y.2<(y.1:Rat)*x.2↔x.1*y.2<y.1*x.2:=by norm_cast
  rw[<-i3];grind
 rw[k];unfold fV
 split
 ·simp[*]
 ·split<;>simp[*]
theorem Ij(x y:Fr):aZ x y=x\/aZ x y=y:=by unfold aZ;split<;>simp
theorem Lh(x y:Fr):aL x y=x\/aL x y=y:=by unfold aL;split<;>simp
theorem Qd(hx:1<=x.2)(hy:1<=y.2):1<=(aZ x y).2:=by unfold aZ;split<;>assumption
theorem Am(hx:1<=x.2)(hy:1<=y.2):1<=(aL x y).2:=by unfold aL;split<;>assumption
theorem xS{t:Rat}(hx:1<=x.2)(hy:1<=y.2):val (aZ x y)<=t↔val x<=t/\val y<=t:=by
 have c:=iX hx hy;unfold aZ
 split<;>grind
theorem xE{t:Rat}(hx:1<=x.2)(hy:1<=y.2):t<=val (aL x y)↔t<=val x/\t<=val y:=by
 have c:=iX hx hy;unfold aL
 split<;>grind
def Ha(a b:Int)(t:Rat):Rat:=(a:Rat)+((b:Rat)-(a:Rat))*t
theorem PV{a b:Int}{t1 t2:Rat}(h1:a<=0)(h2:b<=0)(h:a<0\/b<0)(k0:0<=t1)(k:t1<t2)(k1:t2<=1)(z1:0<=Ha a b t1)(z2:0<=Ha a b t2):False:=by
 have q1:(a:Rat)<=0:=by exact_mod_cast h1
 have q2:(b:Rat)<=0:=by exact_mod_cast h2
 unfold Ha at z1 z2;have e2:=Rat.mul_nonneg (show 0<=-(b:Rat) by grind) k0;have e3:=Rat.mul_nonneg (show 0<=-(a:Rat) by grind) (show 0<=1-t2 by grind);obtain h|h:=h
 ·have q:(a:Rat)<0:=by exact_mod_cast h
  have:=Rat.mul_pos (show 0 < -(a:Rat) by grind) (show 0<1-t1 by grind);grind
 ·have q:(b:Rat)<0:=by exact_mod_cast h
  have:=Rat.mul_pos (show 0 < -(b:Rat) by grind) (show 0<t2 by grind);grind
theorem PX{a b:Int}{t:Rat}(h:a<0)(k:0<b):0<=Ha a b t↔val (-a,b-a)<=t:=by
 rw[SQ (show(1:Int)<=b-a by lia)];unfold Ha
 push_cast
 grind
theorem PY{a b:Int}{t:Rat}(h:0<a)(k:b<0):0<=Ha a b t↔t<=val (a,a-b):=by
 rw[SO (show(1:Int)<=a-b by lia)];unfold Ha
 push_cast
 grind
theorem PZ{a b:Int}{t:Rat}(h:0<=a)(k:0<=b)(t0:0<=t)(t1:t<=1):0<=Ha a b t:=by
 have q1:(0:Rat)<=a:=by exact_mod_cast h
 have q2:(0:Rat)<=b:=by exact_mod_cast k
 have e1:=Rat.mul_nonneg q1 (show 0<=1-t by grind);have e2:=Rat.mul_nonneg q2 t0;unfold Ha;grind
theorem PU{a b:Int}{t:Rat}(h:a=0)(k:b=0):Ha a b t=0:=by subst h;subst k;unfold Ha;push_cast;grind
theorem KR{a b:Int}(h:a<0)(k:0<b):Ha a b (val (-a,b-a))=0:=by
 have:=vd (p:=(-a,b-a)) (show(1:Int)<=b-a by lia);simp only at this
 push_cast at this
 unfold Ha;grind
theorem KS{a b:Int}(h:0<a)(k:b<0):Ha a b (val (a,a-b))=0:=by
 have:=vd (p:=(a,a-b)) (show(1:Int)<=a-b by lia);simp only at this
 push_cast at this
 unfold Ha;grind
def lA(b e l:I3):Int:=iS l b*e.2.2
def lB(b e l:I3):Int:=iS l e*b.2.2
def lF(b e l:I3)(t:Rat):Rat:=Ha (lA b e l) (lB b e l) t
structure RP(b e own:I3)(ls:List I3)(lo hi:Fr)(h:Nat)(r:Fr×Fr×Nat):Prop where
 d1:1<=r.1.2
 d2:1<=r.2.1.2
 s:∀t,0<=t->t<=1->((val lo<=t/\t<=val hi/\∀l∈ls,0<=lF b e l t)↔(val r.1<=t/\t<=val r.2.1))
 lo:r.1=lo\/(val lo<val r.1/\∃l∈ls,lA b e l<0/\0<lB b e l/\lF b e l (val r.1)=0)
 hi:r.2.1=hi\/(val r.2.1<=val hi/\∃l∈ls,0<lA b e l/\lB b e l<0/\lF b e l (val r.2.1)=0)
 h:(r.2.2=h/\∀l∈ls,¬(lA b e l=0/\lB b e l=0))\/∃l∈ls,lA b e l=0/\lB b e l=0/\r.2.2=if l=own then 1 else 2
theorem pB:∀(ls:List I3)(lo hi:Fr)(h:Nat)(r:Fr×Fr×Nat),nO b e own ls lo hi h=oZ r->1<=lo.2->1<=hi.2->RP b e own ls lo hi h r
 |[],lo,hi,h,r,e1,d1,d2=>by cases e1;exact⟨d1,d2,λt _ _=>by simp,.inl rfl,.inl rfl,.inl ⟨rfl,by simp⟩⟩
 |l::ls,lo,hi,h,r,e1,d1,d2=>by
  unfold nO at e1;simp only[<-show lA b e l=iS l b*e.2.2 from rfl,<-show lB b e l=iS l e*b.2.2 from rfl]at e1;split at e1
  ·split at e1
   ·cases e1
   ·rename_i c1 c2;obtain⟨o1,o2,o3,o4,o5,o6⟩:=pB ls _ _ _ r e1 d1 d2;have za:lA b e l=0:=⋯
    have zb:lB b e l=0:=⋯
    refine⟨o1,o2,λt t0 t1=>?_,o4.imp id λzZ=>by obtain⟨q,m,hm,k⟩:=zZ;exact⟨q,m,by simp[hm],k⟩,o5.imp id λzZ=>by obtain⟨q,m,hm,k⟩:=zZ;exact⟨q,m,by simp[hm],k⟩,?_⟩
    ·rw[<-o3 t t0 t1];have:0<=lF b e l t:=by unfold lF;rw[PU za zb];grind
     simp[this]
    ·obtain⟨k1,k2⟩|⟨m,hm,k⟩:=o6
     ·exact .inr ⟨l,by simp,za,zb,k1⟩
     ·exact .inr ⟨m,by simp[hm],k⟩
  ·split at e1
   ·rename_i c1 c2;have hb:0<lB b e l:=⋯
    have dn:1<=(-lA b e l,lB b e l-lA b e l).2:=by show 1<=lB b e l-lA b e l;lia
    obtain⟨o1,o2,o3,o4,o5,o6⟩:=pB ls _ _ _ r e1 (Qd d1 dn) d2;have f3:=λt=>PX (t:=t) c2 hb;refine⟨o1,o2,λt t0 t1=>?_,?_,o5.imp id λzZ=>by obtain⟨q,m,hm,k⟩:=zZ;exact⟨q,m,by simp[hm],k⟩,?_⟩
    ·rw[<-o3 t t0 t1,xS d1 dn,<-f3 t];simp only[SU,forall_eq_or_imp];unfold lF;grind
    ·obtain o4|⟨q,m,hm,k⟩:=o4
     ·rcases Ij lo (-lA b e l,lB b e l-lA b e l)with q|q
      ·rw[q]at o4;exact .inl o4
      ·by_cases c:val lo<val (-lA b e l,lB b e l-lA b e l)
       ·rw[o4,q];exact .inr ⟨c,l,by simp,c2,hb,KR c2 hb⟩
       ·have n:=mt (iX d1 dn).mp c;unfold aZ at o4;rw[oW n]at o4;exact .inl o4
     ·have:=(xS d1 dn (t:=val r.1)).mp (Rat.le_of_lt q);have w:val lo<=val (aZ lo (-lA b e l,lB b e l-lA b e l)):=((xS d1 dn).mp (Rat.le_refl)).1;exact .inr ⟨by grind,m,by simp[hm],k⟩
    ·obtain⟨k1,k2⟩|⟨m,hm,k⟩:=o6
     ·refine .inl ⟨k1,λm hm=>?_⟩;obtain rfl|hm:=SU.mp hm
      ·lia
      ·exact k2 m hm
     ·exact .inr ⟨m,by simp[hm],k⟩
   ·split at e1
    ·rename_i c1 c2 c3;have ha:0<lA b e l:=⋯
     have dn:1<=(lA b e l,lA b e l-lB b e l).2:=by show 1<=lA b e l-lB b e l;lia
     obtain⟨o1,o2,o3,o4,o5,o6⟩:=pB ls _ _ _ r e1 d1 (Am d2 dn);have f4:=λt=>PY (t:=t) ha c3;refine⟨o1,o2,λt t0 t1=>?_,o4.imp id λzZ=>by obtain⟨q,m,hm,k⟩:=zZ;exact⟨q,m,by simp[hm],k⟩,?_,?_⟩
     ·rw[<-o3 t t0 t1,xE d2 dn,<-f4 t];simp only[SU,forall_eq_or_imp];unfold lF;grind
     ·obtain o5|⟨q,m,hm,k⟩:=o5
      ·by_cases n:fV hi (lA b e l,lA b e l-lB b e l)<0
       ·unfold aL at o5;rw[oV n]at o5;exact .inl o5
       ·unfold aL at o5;rw[oW n]at o5;have n':=mt (iX d2 dn).mpr n;rw[o5];exact .inr ⟨by grind,l,by simp,ha,c3,KS ha c3⟩
      ·have w:val (aL hi (lA b e l,lA b e l-lB b e l))<=val hi:=((xE d2 dn).mp (Rat.le_refl)).1;exact .inr ⟨by grind,m,by simp[hm],k⟩
     ·obtain⟨k1,k2⟩|⟨m,hm,k⟩:=o6
      ·refine .inl ⟨k1,λm hm=>?_⟩;obtain rfl|hm:=SU.mp hm
       ·lia
       ·exact k2 m hm
      ·exact .inr ⟨m,by simp[hm],k⟩
    ·rename_i c1 c2 c3;obtain⟨o1,o2,o3,o4,o5,o6⟩:=pB ls _ _ _ r e1 d1 d2;refine⟨o1,o2,λt t0 t1=>?_,o4.imp id λzZ=>by obtain⟨q,m,hm,k⟩:=zZ;exact⟨q,m,by simp[hm],k⟩,o5.imp id λzZ=>by obtain⟨q,m,hm,k⟩:=zZ;exact⟨q,m,by simp[hm],k⟩,?_⟩
     ·rw[<-o3 t t0 t1];have:0<=lF b e l t:=PZ ⋯ ⋯ t0 t1;simp[this]
     ·obtain⟨k1,k2⟩|⟨m,hm,k⟩:=o6
      ·refine .inl ⟨k1,λm hm=>?_⟩;obtain rfl|hm:=SU.mp hm
       ·lia
       ·exact k2 m hm
      ·exact .inr ⟨m,by simp[hm],k⟩
theorem sP:∀(ls:List I3)(lo hi:Fr)(h:Nat),nO b e own ls lo hi h=none->∀t1 t2:Rat,0<=t1->t1<t2->t2<=1->(∀l∈ls,0<=lF b e l t1)->(∀l∈ls,0<=lF b e l t2)->False
 |[],lo,hi,h,e1=>by cases e1
 |l::ls,lo,hi,h,e1=>by
  intro t1 t2 k0 k k1 z1 z2;have r1:=λm hm=>z1 m (UI l hm);have r2:=λm hm=>z2 m (UI l hm);have y1:=z1 l (by simp);have y2:=z2 l (by simp);unfold nO at e1;simp only[<-show lA b e l=iS l b*e.2.2 from rfl,<-show lB b e l=iS l e*b.2.2 from rfl]at e1;split at e1
  ·rename_i c1;split at e1
   ·rename_i c2;exact PV c1.1 c1.2 c2 k0 k k1 y1 y2
   ·exact sP ls _ _ _ e1 t1 t2 k0 k k1 r1 r2
  ·split at e1
   ·exact sP ls _ _ _ e1 t1 t2 k0 k k1 r1 r2
   ·split at e1
    ·exact sP ls _ _ _ e1 t1 t2 k0 k k1 r1 r2
    ·exact sP ls _ _ _ e1 t1 t2 k0 k k1 r1 r2
def fU(rows:List lQ):List (Fr×Fr):=(rows.filter λr=>!r.2.2).map λr=>(r.1,r.2.1)
def Ch:Rat->Bool->List lQ->Prop
 |_,_,[]=>True
 |x,pn,r::rs=>x=val r.1/\val r.1<val r.2.1/\¬(pn=true/\r.2.2=false)/\Ch (val r.2.1) (!r.2.2) rs
theorem Ch.weak{x:Rat}(h:Ch x true rs):Ch x b rs:=by
 cases rs with
 |nil=>trivial
 |cons r rs=>
  obtain⟨h1,h2,h3,h4⟩:=h;exact⟨h1,h2,λz=>h3 ⟨rfl,z.2⟩,h4⟩
def Gz(p:Prop)[Decidable p]:Nat:=if p then 1 else 0
theorem Yd{p q:Prop}[Decidable p][Decidable q](h:p->q):Gz p<=Gz q:=by
 unfold Gz
 by_cases c:p
 ·rw[oV c,oV (h c)];lia
 ·rw[oW c];lia
theorem AJ{p:Prop}[Decidable p](h:p):Gz p=1:=oV h
theorem AI{p:Prop}[Decidable p](h:¬p):Gz p=0:=oW h
def zO(rs:List lQ):Nat:=(rs.filter λr=>!r.2.2).length
theorem lG(r:lQ)(rs:List lQ):zO (r::rs)=(if r.2.2=true then 0 else 1)+zO rs:=by
 unfold zO;cases h:r.2.2 with
 |true=>rw[VC (by rw[h];decide)];simp
 |false=>rw[UM (by rw[h];decide),TB];simp;lia
theorem wF(a b:List lQ):zO (a++b)=zO a+zO b:=by unfold zO;rw[YI,TC]
theorem Qe(hx:1<=x.2)(hy:1<=y.2):(val x<val y/\aZ x y=y)\/(val y<=val x/\aZ x y=x):=by
 have c:=iX hx hy;unfold aZ
 by_cases d:fV x y<0
 ·exact .inl ⟨c.mp d,oV d⟩
 ·exact .inr ⟨Rat.not_lt.mp (mt c.mpr d),oW d⟩
theorem An(hx:1<=x.2)(hy:1<=y.2):(val x<val y/\aL x y=x)\/(val y<=val x/\aL x y=y):=by
 have c:=iX hx hy;unfold aL
 by_cases d:fV x y<0
 ·exact .inl ⟨c.mp d,oV d⟩
 ·exact .inr ⟨Rat.not_lt.mp (mt c.mpr d),oW d⟩
theorem Wg(hx:1<=x.2)(hy:1<=y.2):0<=fV x y↔val y<=val x:=by
 have c:=iX hx hy;constructor
 ·intro h;exact Rat.not_lt.mp (mt c.mpr ⋯)
 ·intro h;have:=mt c.mp (Rat.not_lt.mpr h);lia
theorem Jl{lo hi:Fr}{r:lQ}(h1:1<=r.1.2)(h2:1<=r.2.1.2)(hl:1<=lo.2)(hh:1<=hi.2):
  ((r.2.2=true\/val (aL r.2.1 hi)<=val (aZ r.1 lo))/\xZ lo hi r=[r])\/
  (r.2.2=false/\val (aZ r.1 lo)<val (aL r.2.1 hi)/\xZ lo hi r=(if val r.1<val (aZ r.1 lo)then[(r.1,aZ r.1 lo,false)]else[])++[(aZ r.1 lo,aL r.2.1 hi,true)]++(if val (aL r.2.1 hi)<val r.2.1 then[(aL r.2.1 hi,r.2.1,false)]else[])):=by
 have d1:=Qd h1 hl;have d2:=Am h2 hh;unfold xZ
 by_cases c:r.2.2=true
 ·exact .inl ⟨.inl c,oV c⟩
 ·rw[oW c]
  by_cases d:0<=fV (aZ r.1 lo) (aL r.2.1 hi)
  ·exact .inl ⟨.inr ((Wg d1 d2).mp d),oV d⟩
  ·rw[oW d];refine .inr ⟨by simpa using c,Rat.not_le.mp (mt (Wg d1 d2).mpr d),?_⟩
   congr 1
   ·congr 1
    by_cases e:fV r.1 (aZ r.1 lo)<0
    ·rw[oV e,oV ((iX h1 d1).mp e)]
    ·rw[oW e,oW (mt (iX h1 d1).mpr e)]
   ·by_cases e:fV (aL r.2.1 hi) r.2.1<0
    ·rw[oV e,oV ((iX d2 h2).mp e)]
    ·rw[oW e,oW (mt (iX d2 h2).mpr e)]
theorem rV{lo hi:Fr}(hl:1<=lo.2)(hh:1<=hi.2):∀{rows:List lQ}{x:Rat}{pn:Bool},j4 rows->Ch x pn rows->Ch x pn (bY rows lo hi)/\(bY rows lo hi).length<=rows.length+Gz (x<val lo)+Gz (x<val hi)/\zO (bY rows lo hi)<=zO rows+Gz (x<val lo)
 |[],x,pn,_,_=>by simp[bY,Ch,zO]
 |r::rows,x,pn,ok,ch=>by
  obtain⟨o1,o2⟩:=ok r (by simp);have rest:=λ{x pn}=>rV hl hh (rows:=rows) (x:=x) (pn:=pn) λy m=>ok y (by simp[m]);obtain⟨c1,c2,c3,c4⟩:=ch;obtain⟨i1,i2,i3⟩:=rest c4;have e:bY (r::rows) lo hi=xZ lo hi r++bY rows lo hi:=by unfold bY;rw[UT]
  rw[e];have aIN:Gz (val r.2.1<val lo)<=Gz (x<val lo):=Yd λz=>by grind
  have aIO:Gz (val r.2.1<val hi)<=Gz (x<val hi):=Yd λz=>by grind
  obtain⟨_,q⟩|⟨q0,q1,q⟩:=Jl o1.d o2.d hl hh
  ·rw[q];refine⟨⟨c1,c2,c3,i1⟩,?_,?_⟩
   ·simp only[List.singleton_append,TB];lia
   ·rw[List.singleton_append,lG,lG];lia
  ·have l1:=Qe o1.d hl;have l2:=An o2.d hh;rw[q];rw[q0]at i1 c3;have b1:val r.1<=val (aZ r.1 lo):=by rcases l1 with⟨_,z⟩|⟨_,z⟩<;>rw[z]<;>grind
   have b2:val (aL r.2.1 hi)<=val r.2.1:=by rcases l2 with⟨_,z⟩|⟨_,z⟩<;>rw[z]<;>grind
   have pn0:pn=false:=by
    cases pn with
    |false=>rfl
    |true=>exact absurd ⟨rfl,rfl⟩ c3
   have hA:val r.1<val (aZ r.1 lo)->Gz (x<val lo)=1/\Gz (val r.2.1<val lo)=0:=λz=>by
    obtain⟨w,w'⟩|⟨w,w'⟩:=l1
    ·rw[w']at q1;exact⟨AJ (by grind),AI (by grind)⟩
    ·rw[w']at z;grind
   have hB:val (aL r.2.1 hi)<val r.2.1->Gz (x<val hi)=1/\Gz (val r.2.1<val hi)=0:=λz=>by
    obtain⟨w,w'⟩|⟨w,w'⟩:=l2
    ·rw[w']at z;grind
    ·rw[w']at q1;exact⟨AJ (by grind),AI (by grind)⟩
   by_cases cA:val r.1<val (aZ r.1 lo)
   ·rw[oV cA];obtain⟨a1,a2⟩:=hA cA
    by_cases cB:val (aL r.2.1 hi)<val r.2.1
    ·rw[oV cB];obtain⟨b1',b2'⟩:=hB cB;refine⟨⟨c1,cA,c3,rfl,q1,λz=>(show(true:Bool)≠false by decide) z.2,rfl,cB,λz=>(show(false:Bool)≠true by decide) z.1,i1⟩,?_,?_⟩
     ·simp only[TC,TB,UR];lia
     ·rw[wF,lG,q0];have:zO ([(r.1,aZ r.1 lo,false)]++[(aZ r.1 lo,aL r.2.1 hi,true)]++[(aL r.2.1 hi,r.2.1,false)])=2:=rfl;rw[this];simp only[WM,if_false];lia
    ·rw[oW cB];have eB:val (aL r.2.1 hi)=val r.2.1:=by grind
     refine⟨⟨c1,cA,c3,rfl,q1,λz=>(show(true:Bool)≠false by decide) z.2,by rw[eB];exact i1.weak⟩,?_,?_⟩
     ·simp only[TC,TB,UR];lia
     ·rw[wF,lG,q0];have:zO ([(r.1,aZ r.1 lo,false)]++[(aZ r.1 lo,aL r.2.1 hi,true)]++[])=1:=rfl;rw[this];simp only[WM,if_false];lia
   ·rw[oW cA];have eA:val r.1=val (aZ r.1 lo):=by grind
    by_cases cB:val (aL r.2.1 hi)<val r.2.1
    ·rw[oV cB];obtain⟨b1',b2'⟩:=hB cB;refine⟨⟨by rw[c1];exact eA,q1,λz=>(show(true:Bool)≠false by decide) z.2,rfl,cB,λz=>(show(false:Bool)≠true by decide) z.1,i1⟩,?_,?_⟩
     ·simp only[TC,TB,UR];lia
     ·rw[wF,lG,q0];have:zO ([]++[(aZ r.1 lo,aL r.2.1 hi,true)]++[(aL r.2.1 hi,r.2.1,false)])=1:=rfl;rw[this];simp only[WM,if_false];lia
    ·rw[oW cB];have eB:val (aL r.2.1 hi)=val r.2.1:=by grind
     refine⟨⟨by rw[c1];exact eA,q1,λz=>(show(true:Bool)≠false by decide) z.2,by rw[eB];exact i1.weak⟩,?_,?_⟩
     ·simp only[TC,TB,UR];lia
     ·rw[wF,lG,q0];have:zO ([]++[(aZ r.1 lo,aL r.2.1 hi,true)]++[])=0:=rfl;rw[this];simp only[WM,if_false];lia
theorem Ba(p:Prop)[Decidable p]:Gz p<=1:=by unfold Gz;split<;>lia
def Nn(rows:List lQ)(t:Rat):Prop:=∃r∈rows,r.2.2=false/\val r.1<t/\t<val r.2.1
theorem Qj{lo hi:Fr}(hl:1<=lo.2)(hh:1<=hi.2)(ok:j4 rows){t:Rat}(t1:t≠val lo)(t2:t≠val hi):Nn (bY rows lo hi) t↔Nn rows t/\¬(val lo<t/\t<val hi):=by
 have one:∀r∈rows,(∃z∈xZ lo hi r,z.2.2=false/\val z.1<t/\t<val z.2.1)↔(r.2.2=false/\val r.1<t/\t<val r.2.1)/\¬(val lo<t/\t<val hi):=λr m=>by
  obtain⟨o1,o2⟩:=ok r m;have l1:=Qe o1.d hl;have l2:=An o2.d hh;obtain⟨q0,q⟩|⟨q0,q1,q⟩:=Jl o1.d o2.d hl hh
  ·rw[q];constructor
   ·rintro⟨z,mz,k⟩;rw[TM]at mz;subst mz;refine⟨k,λw=>?_⟩;obtain q0|q0:=q0
    ·rw[q0]at k;exact absurd k.1 ∅
    ·rcases l1 with⟨_,e1⟩|⟨_,e1⟩<;>rcases l2 with⟨_,e2⟩|⟨_,e2⟩<;>rw[e1,e2]at q0<;>grind
   ·rintro⟨k,_⟩;exact⟨r,by simp,k⟩
  ·rw[q];have b1:val r.1<=val (aZ r.1 lo)/\val lo<=val (aZ r.1 lo)/\(val (aZ r.1 lo)=val r.1\/val (aZ r.1 lo)=val lo):=by rcases l1 with⟨_,z⟩|⟨_,z⟩<;>rw[z]<;>grind
   have b2:val (aL r.2.1 hi)<=val r.2.1/\val (aL r.2.1 hi)<=val hi/\(val (aL r.2.1 hi)=val r.2.1\/val (aL r.2.1 hi)=val hi):=by rcases l2 with⟨_,z⟩|⟨_,z⟩<;>rw[z]<;>grind
   constructor
   ·rintro⟨z,mz,k⟩;refine⟨⟨q0,?_⟩,?_⟩
    ·obtain mz|mz:=TY.mp mz
     ·obtain mz|mz:=TY.mp mz
      ·split at mz
       ·rw[TM]at mz;subst mz;simp only at k;grind
       ·simp at mz
      ·rw[TM]at mz;subst mz;exact absurd k.1 (show(true:Bool)≠false by decide)
     ·split at mz
      ·rw[TM]at mz;subst mz;simp only at k;grind
      ·simp at mz
    ·obtain mz|mz:=TY.mp mz
     ·obtain mz|mz:=TY.mp mz
      ·split at mz
       ·rw[TM]at mz;subst mz;simp only at k;grind
       ·simp at mz
      ·rw[TM]at mz;subst mz;exact absurd k.1 (show(true:Bool)≠false by decide)
     ·split at mz
      ·rw[TM]at mz;subst mz;simp only at k;grind
      ·simp at mz
   ·rintro⟨⟨_,k1,k2⟩,k3⟩
    by_cases c:t<val lo
    ·refine⟨(r.1,aZ r.1 lo,false),?_,rfl,k1,by simp only;grind⟩;rw[oV (show val r.1<val (aZ r.1 lo) by grind)];simp
    ·have w1:val lo<t:=by grind
     have w2:val hi<t:=by
      have:=mt (λz=>(⟨w1,z⟩:val lo<t/\t<val hi)) k3;grind
     have w3:val (aL r.2.1 hi)<t:=by grind
     refine⟨(aL r.2.1 hi,r.2.1,false),?_,rfl,w3,k2⟩;rw[oV (show val (aL r.2.1 hi)<val r.2.1 by grind)];simp
 unfold Nn bY;constructor
 ·rintro⟨z,mz,k⟩;obtain⟨r,mr,mz⟩:=UC.mp mz;obtain⟨a,b⟩:=(one r mr).mp ⟨z,mz,k⟩;exact⟨⟨r,mr,a⟩,b⟩
 ·rintro⟨⟨r,mr,k⟩,w⟩;obtain⟨z,mz,k'⟩:=(one r mr).mpr ⟨k,w⟩;exact⟨z,UC.mpr ⟨r,mr,mz⟩,k'⟩
def L0:Rat->Bool->List (Fr×Fr)->Prop
 |_,_,[]=>True
 |x,st,a::as=>(x<=val a.1/\(st=true->x<val a.1))/\val a.1<val a.2/\L0 (val a.2) true as
theorem L0.le{x y:Rat}{b b':Bool}{A:List (Fr×Fr)}(h:L0 y b A)(k:x<y):L0 x b' A:=by
 cases A with
 |nil=>trivial
 |cons a as=>exact⟨⟨by have:=h.1.1;grind,λ_=>by have:=h.1.1;grind⟩,h.2.1,h.2.2⟩
theorem F3:∀{rows:List lQ}{x:Rat}{pn:Bool},Ch x pn rows->L0 x pn (fU rows)
 |[],_,_,_=>trivial
 |r::rows,x,pn,⟨c1,c2,c3,c4⟩=>by
  have ih:=F3 c4;unfold fU at ih⊢;cases h:r.2.2 with
  |true=>
   rw[VC (by rw[h];decide)];exact ih.le (by grind)
  |false=>
   rw[UM (by rw[h];decide),TH];rw[h]at ih c3;refine⟨⟨by show x<=val r.1;grind,λz=>absurd ⟨z,rfl⟩ c3⟩,c2,ih⟩
theorem L0.all{x:Rat}:∀{A:List (Fr×Fr)},L0 x b A->∀a∈A,x<=val a.1/\(b=true->x<val a.1)/\val a.1<val a.2:=by
 intro A
 induction A generalizing x b with
 |nil=>intro _ a m;simp at m
 |cons c A ih=>
  rintro⟨h1,h2,h3⟩ a m;obtain rfl|m:=SU.mp m
  ·exact⟨h1.1,h1.2,h2⟩
  ·have:=ih h3 a m;have:=h1.1;exact⟨by grind,λ_=>by grind,by grind⟩
theorem Ou:∀(F:List Rat){l h:Rat},l<h->∃t,l<t/\t<h/\t∉F
 |[],l,h,k=>⟨(l+h)*(1/2),by grind,by grind,by simp⟩
 |f::F,l,h,k=>by
  by_cases c:l<f/\f<h
  ·obtain⟨t,a,b,n⟩:=Ou F c.1;exact⟨t,a,by grind,λm=>by
    obtain e|m:=SU.mp m
    ·grind
    ·exact n m⟩
  ·obtain⟨t,a,b,n⟩:=Ou F k;exact⟨t,a,b,λm=>by
    obtain e|m:=SU.mp m
    ·rw[e]at a b;exact c ⟨a,b⟩
    ·exact n m⟩
def inA(A:List (Fr×Fr))(t:Rat):Prop:=∃a∈A,val a.1<t/\t<val a.2
section
variable{P:da}{w:dk}{K:W.Frag}{mg:Str->Option oA}{base:oE}
def cO(p q:Pt)(f:Fr):Pt:=(fM p.1 (kB (aQ q.1 p.1) f),fM p.2 (kB (aQ q.2 p.2) f))
theorem iK(h:Nv x y e)(k:Nv p q f):Nv (aQ x p) (aQ y q) (e+f+1):=by
 have:=h.sx;have:=h.sy;have:=k.sx;have:=k.sy;have s1:=gZ h.x k.x;have s2:=gZ h.y k.y;exact⟨aR h.x k.x,aR h.y k.y,⋯,⋯⟩
theorem Yz(h:Nv x y e)(hb:bL b):Nv (kB x b) (kB y b) (e+sz b):=by
 have:=h.sx;have:=h.sy;have s1:=fT h.x hb;have s2:=fT h.y hb;exact⟨aW h.x hb,aW h.y hb,⋯,⋯⟩
def Kf:iU:=λas Q=>∃(p q:Pt)(f:Fr),as=[.v (pt p),.v (pt q),.v (fr f)]/\Pb p/\Pb q/\bL f/\sz f<=300/\Q (.v (pt (cO p q f))) []
abbrev uU(P w K mg base):=(~~~Fn) 5 "point_at" ["begin","end","part"] (aU K Kf)
abbrev qQ:dh:=top 31
theorem Jt:aI ["begin","end","part"] ["begin","end","part"] (aC qQ):=iQ
theorem Jf(F:eO K "point_at" "point_at" qQ f fd)(TX:Txt mg)(xl: ~~~Ob)(uq: ~~~Aa)(wa: ~~~He):(~~~bG) fJ 5 f fd ["begin","end","part"] (aU K Kf):=by
 refine F.okU Jt (λhr=>(aE (aP (fK xl (f2 (fv 0) (fK uq (f2 (fK wa (f2 (fv 1) (fv 0))) (fv 2)))))))) ?_;rintro as Q ⟨p,q,f,rfl,hp,hq,hf,hs,z⟩;have n1:=iK hq.v hp.v;exact⟨_,_,_,_,_,_,rfl,hq.v,hp.v,∅,_,_,_,_,rfl,n1,hf,⋯,_,_,_,_,_,_,rfl,hp.v,Yz n1 hf,⋯,rfl,z⟩
def BH:iU:=λas Q=>∃(b:eJ)(k:Nat)(p q:Pt),as=[.v (cU b),.v (.int (k:Int))]/\b.o.length<=8000/\b.o[k]?=oZ p/\b.o[(k+1)%b.o.length]?=oZ q/\Q (.v (.tup [pt p,pt q])) []
theorem kQ{α:Type}{f:α->L2.T}{xs:List α}{k:Nat}{x:α}(h:xs[k]?=oZ x):k8 (xs.map f) (k:Int)=oZ (f x):=Co (by rw[TR,h];rfl)
abbrev rD(P w K mg base):=(~~~Fn) 1 "edge_ends" ["block","edge"] (aU K BH)
abbrev nU:dh:=top 34
theorem sW:aI ["block","edge","outline"] ["block","edge"] (aC nU):=iQ
theorem Ei(F:eO K "edge_ends" "edge_ends" nU f fd)(TX:Txt mg):(~~~bG) fJ 1 f fd ["block","edge"] (aU K BH):=by
 refine F.okU sW (λhr=>(aB (fS 2 sW.nd (fQ 0)) (aE (aP (aO (f2 (fX (fv 2) (fv 1)) (fX (fv 2) (aM lX (aY cQ (fv 1) aA) (gH rfl rfl TX.n_len (f1 (fv 2))))))))))) ?_;rintro as Q ⟨b,k,p,q,rfl,hl,h1,h2,z⟩;have hk:k<b.o.length:=(SW.mp h1).1;show o1 (k8 (b.o.map pt) (k:Int)) _;rw[kQ h1];have e:(((k:Int)+1)%((b.o.map pt).length:Int))=(((k+1)%b.o.length:Nat):Int):=by rw[SV];push_cast;rfl
 refine⟨(show(0:Int)<((b.o.map pt).length:Int) by rw[SV];lia),?_⟩;show o1 (k8 (b.o.map pt) (((k:Int)+1)%((b.o.map pt).length:Int))) _;rw[e,kQ h2];exact⟨rfl,z⟩
def bH(p q x:Pt):Fr:=if p.1=q.1 then xN (aQ x.2 p.2) (aQ q.2 p.2)else xN (aQ x.1 p.1) (aQ q.1 p.1)
theorem uJ(hx:bL x)(hy:bL y)(h:y≠x):(aQ x y).1≠0:=λz=>by
 have v:=bK hx hy;have e:val (aQ x y)=0:=by
  show((aQ x y).1:Rat)/((aQ x y).2:Rat)=0;rw[z,Rat.div_def];simp
 rw[e]at v;exact h (gT hy hx (by grind))
theorem kN(hp:Pb p)(hq:Pb q)(hx:Pb x)(ne:p≠q):bL (bH p q x)/\sz (bH p q x)<=82/\F2 (bH p q x):=by
 have n1:=iK hx.v hp.v;have n2:=iK hq.v hp.v;have a1:=n1.sx;have a2:=n1.sy;have a3:=n2.sx;have a4:=n2.sy;have key:bL (bH p q x)/\sz (bH p q x)<=82:=by
  unfold bH
  by_cases c:p.1=q.1
  ·rw[oV c];have d:p.2≠q.2:=λw=>ne (Prod.ext c w);have z:=uJ hq.v.y hp.v.y d;have s:=Rn n1.y z;exact⟨Ir n1.y z,⋯⟩
  ·rw[oW c];have z:=uJ hq.v.x hp.v.x c;have s:=Rn n1.x z;exact⟨Ir n1.x z,⋯⟩
 exact⟨key.1,key.2,⟨⋯,key.1.d⟩⟩
def Ry:iU:=λas Q=>∃(p q x:Pt),as=[.v (.tup [pt p,pt q]),.v (pt x)]/\Pb p/\Pb q/\Pb x/\p≠q/\Q (.v (fr (bH p q x))) []
abbrev wX(P w K mg base):=(~~~Fn) 4 "part_at" ["ends","point"] (aU K Ry)
abbrev uD:dh:=top 35
theorem mJ:aI ["ends","point","way","begin","end"] ["ends","point"] (aC uD):=iQ
theorem Mh(F:eO K "part_at" "part_at" uD f fd)(TX:Txt mg)(xo: ~~~Oa)(nq: ~~~rJ):(~~~bG) fJ 4 f fd ["ends","point"] (aU K Ry):=by
 refine F.okU mJ (λhr=>(aB (kS (fv 0) (cM (n:=2) rfl rfl (aF (fG 3 mJ.nd) (aF (fG 4 mJ.nd) bS)))) (aB (fS 2 mJ.nd (r8 (nG rfl hr (fQ 3) (fQ 4) (cN _)) aA aA)) (aE (aP (fK xo (f2 (fK nq (f2 (fX (fv 1) (fv 2)) (fX (fv 3) (fv 2)))) (fK nq (f2 (fX (fv 4) (fv 2)) (fX (fv 3) (fv 2))))))))))) ?_;rintro as Q ⟨p,q,x,rfl,hp,hq,hx,ne,z⟩;have n1:=iK hx.v hp.v;have n2:=iK hq.v hp.v;have a1:=n1.sx;have a2:=n1.sy;have a3:=n2.sx;have a4:=n2.sy;have b1:=hp.v.sx;have b2:=hp.v.sy;have b3:=hq.v.sx;have b4:=hq.v.sy;have b5:=hx.v.sx;have b6:=hx.v.sy;refine⟨kE rfl,?_⟩;show if(!(iP (fr p.1) (fr q.1)))=true then _ else _;rw[Aq];unfold bH at z
 by_cases c:p.1=q.1
 ·rw[oY c,oW ∅];rw[oV c]at z;have d:p.2≠q.2:=λw=>ne (Prod.ext c w);have y0:=uJ hq.v.y hp.v.y d;exact⟨_,_,rfl,hx.v.y,hp.v.y,⋯,_,_,rfl,hq.v.y,hp.v.y,⋯,_,_,rfl,n1.y,n2.y,y0,⋯,rfl,z⟩
 ·rw[oX c,oV ∅];rw[oW c]at z;have x0:=uJ hq.v.x hp.v.x c;exact⟨_,_,rfl,hx.v.x,hp.v.x,⋯,_,_,rfl,hq.v.x,hp.v.x,⋯,_,_,rfl,n1.x,n2.x,x0,⋯,rfl,z⟩
abbrev Ov:=Option (Fr×Fr×Nat)
def eQ:List Ov->List lQ->Option (List lQ)
 |[],rows=>oZ rows
 |none::os,rows=>eQ os rows
 |some r::os,rows=>if r.2.2=1 then eQ os rows else if r.1=(0,1)/\r.2.1=(1,1)then none else eQ os (bY rows r.1 r.2.1)
def oO:List (Fr×Fr)->List lQ->List lQ
 |[],rows=>rows
 |t::ts,rows=>oO ts (bY rows t.1 t.2)
def rO(os:List Ov)(ts:List (Fr×Fr))(rows:List lQ):List (Fr×Fr):=match eQ os rows with
 |none=>[]
 |some rs=>fU (oO ts rs)
def m6:List lQ:=[((0,1),(1,1),false)]
abbrev Pr:=Pt×Pt
def wH(x:Pr):L2.T:=.tup [pt x.1,pt x.2]
def zA(p q:Pt)(tw:List Pr):List (Fr×Fr):=tw.map λx=>(bH p q x.1,bH p q x.2)
def fL(shs:List Sh)(p q:Pt)(tw:List Pr):List (Fr×Fr):=rO (shs.map λs=>bA s (gK p q)) (zA p q tw) m6
def DM(x:Fr×Fr):L2.T:=.tup [fr x.1,fr x.2]
theorem N1(h:Nat):iP (.str (JL h)) (.str "left")=decide (h=1):=by
 match h with
 |0=>decide
 |1=>decide
 |n+2=>
  have:iP (.str (JL (n+2))) (.str "left")=false:=by show iP (.str "right") (.str "left")=false;decide
  rw[this,oX ⋯]
structure pE(s:Sh):Prop where
 b:∀l∈s.ls,B3 81 l
structure wN(p q:Pt):Prop where
 hp:Pb p
 hq:Pb q
 ne:p≠q
 l:g3 (nJ (aG p) (aG q))≠0
def BC:iU:=λas Q=>∃(shs:List Sh)(p q:Pt)(tw:List Pr),as=[.v (.lst (shs.map Hb)),.v (.tup [pt p,pt q]),.v (.lst (tw.map wH))]/\(∀s∈shs,pE s)/\wN p q/\(∀x∈tw,Pb x.1/\Pb x.2)/\shs.length+tw.length<=100/\Q (.l ((fL shs p q tw).map DM)) []
theorem Ra(h:wN p q):B3 40 (gK p q).p/\B3 40 (gK p q).q/\B3 3000 (gK p q).l:=⟨mL h.hp,mL h.hq,(AM (Lr (mL h.hp) (mL h.hq))).up ∅⟩
abbrev pM(P w K mg base):=(~~~Fn) 5 "bare_parts" ["shapes","ends","twins"] (aU K BC)
abbrev l9:dh:=top 36
theorem cK:aI ["shapes","ends","twins","segment","rows","shape","laid","begin","end"] ["shapes","ends","twins"] (aC l9):=iQ
theorem zQ(F:eO K "bare_parts" "bare_parts" l9 f fd)(TX:Txt mg)(qo: ~~~pO)(ue: ~~~wW)(uc: ~~~z9)(rf: ~~~wX)(uj:wM mg K "WHOLE" (.tup [.tup [.int 0,.int 1],.tup [.int 1,.int 1]])):(~~~bG) fJ 5 f fd ["shapes","ends","twins"] (aU K BC):=by
 refine F.okU cK (λhr=>(aB (fS 3 cK.nd (fK qo (f2 (fQ 1) (fQ 1)))) (aB (fS 4 cK.nd (cH (f1 (N6 rfl (vX rfl uj) (aO (f1 nD)))))) (aB (eS PassesOwn.never rfl (cS rfl (fv 0)) (fG 5 cK.nd) (aB (fS 6 cK.nd (fK ue (f2 (fv 5) (fv 3)))) (aB (dG (zI (Ic (Xl (fv 6) (cN _)) (Dr (Pn rfl hr (fQ 6) kR (cN _))))) (aE Pl) cG) (aB (dG (Pn rfl hr (Ts rfl (fv 6) jG (d9 aA)) (vX rfl uj) (cN _)) (aE (aP (cH gG))) cG) (aE (fS 4 cK.nd (fK uc (f4 (fv 4) (fQ 6) (fQ 6) As)))))))) (aB (eS PassesOwn.never rfl (cS rfl (fv 2)) (cM (n:=2) rfl rfl (aF (fG 7 cK.nd) (aF (fG 8 cK.nd) bS))) (aE (fS 4 cK.nd (fK uc (f4 (fv 4) (fK rf (f2 (fv 1) (fv 7))) (fK rf (f2 (fv 1) (fv 8))) As))))) (aE (aP (oT (N':=["low","high","name"]) (t:=3) (cap:=[]) rfl (bI.of rfl) rfl ∅ (cS rfl (fv 4)) (λ_ _ _ _=>(cM (n:=3) rfl rfl (aF (fH 0) (aF (fH 1) (aF (fH 2) bS))))) (λ_ _ _ _=>(Xl (fv 2) (cN _))) (λ_ _ _ _=>(aO (f2 (fv 0) (fv 1)))))))))))) ?_;rintro as Q ⟨shs,p,q,tw,rfl,hsh,en,vg,hn,z⟩;refine⟨p,q,rfl,en.hp,en.hq,en.l,?_⟩;obtain⟨g1,g2,g3'⟩:=Ra en;unfold fL at z;generalize gK p q=sg at z g1 g2 g3'⊢;refine⟨∅,?_⟩;refine cW (f:=Hb) (λs':List lQ×Option U×Option U=>[⇑(.lst (shs.map Hb)),⇑(.tup [pt p,pt q]),⇑(.lst (tw.map wH)),⇑(MA sg),↥(s'.1.map qI),s'.2.1,s'.2.2,none,none])
  (λss s'=>(∀s∈ss,pE s)/\j4 s'.1/\Ch 0 false s'.1/\s'.1.length+2*(ss.length+tw.length)<=300/\Q (.l ((rO (ss.map λs=>bA s sg) (zA p q tw) s'.1).map DM)) []) ?_ ?_ shs (m6,none,none) ⟨hsh,?_,⟨by rw[dX],by rw[dX,gN];grind,λz=>absurd z.1 ∅,trivial⟩,by show 1+2*(shs.length+tw.length)<=300;lia,z⟩
 ·rintro s ss ⟨rs,v5,v6⟩ rest ⟨hss,hr,hc,hl,z⟩ K;have hs1:=hss s (by simp);have kn:∀s∈ss,pE s:=λx m=>hss x (by simp[m]);refine⟨s,sg,rfl,hs1.b,g1,g2,g3',?_⟩;have ok:=Qm hs1.b g1 g2;replace z:Q (.l ((rO (bA s sg::ss.map λs=>bA s sg) (zA p q tw) rs).map DM)) []:=z;simp only[TB]at hl;have hl2:rs.length+2*(ss.length+tw.length)<=300:=⋯
  have hle:rs.length<=300:=⋯
  generalize bA s sg=r at z ok⊢;cases r with
  |none=>
   exact K (rs,⇑(Hb s),⇑(.non)) ⟨kn,hr,hc,hl2,z⟩
  |some r=>
   obtain⟨lo,hi,h⟩:=r;obtain⟨f1,f2⟩:=ok _ rfl;simp only at f1 f2;refine⟨kE rfl,?_⟩;show if iP (.str (JL h)) (.str "left")=true then _ else _;rw[N1];simp only[rO,eQ]at z
   by_cases c:h=1
   ·rw[oY c,oV rfl];rw[oV c]at z;exact K (rs,⇑(Hb s),⇑(NQ (oZ (lo,hi,h)))) ⟨kn,hr,hc,hl2,z⟩
   ·rw[oX c,oW ∅];rw[oW c]at z;refine⟨(show ¬(HT.sIx 3 0 none=0/\HT.sIx 3 3 (oZ 2)=3) by decide),kE rfl,?_⟩;show if iP (vc lo hi) (vc (0,1) (1,1))=true then _ else _;rw[IV]
    by_cases c2:lo=(0,1)/\hi=(1,1)
    ·rw[oY c2,oV rfl];rw[oV c2]at z;exact⟨rfl,z⟩
    ·rw[oX c2,oW ∅];rw[oW c2]at z;have cp:=rV (rows:=rs) f1.d f2.d hr hc;have i1:=Ba (0<val lo);have i2:=Ba (0<val hi);refine⟨rs,lo,hi,rfl,hle,hr,f1,f2,K (bY rs lo hi,⇑(Hb s),⇑(NQ (oZ (lo,hi,h)))) ⟨kn,iB hr f1 f2,cp.1,by simp only;lia,z⟩⟩
 ·rintro⟨rs,v5,v6⟩ ⟨_,hr,hc,hl,z⟩;simp only[XD,rO,eQ,UR,YJ]at z hl;refine cW (f:=wH) (λs':List lQ×Option U×Option U=>[⇑(.lst (shs.map Hb)),⇑(.tup [pt p,pt q]),⇑(.lst (tw.map wH)),⇑(MA sg),↥(s'.1.map qI),v5,v6,s'.2.1,s'.2.2])
   (λts s'=>(∀x∈ts,Pb x.1/\Pb x.2)/\j4 s'.1/\Ch 0 false s'.1/\s'.1.length+2*ts.length<=300/\Q (.l ((fU (oO (zA p q ts) s'.1)).map DM)) []) ?_ ?_ tw (rs,none,none) ⟨vg,hr,hc,hl,z⟩
  ·rintro x ts ⟨rs,v7,v8⟩ rest ⟨hts,hr,hc,hl,z⟩ K;have hx:=hts x (by simp);simp only[TB]at hl;have hle:rs.length<=300:=⋯
   have a1:=kN en.hp en.hq hx.1 en.ne;have a2:=kN en.hp en.hq hx.2 en.ne;have cp:=rV (rows:=rs) a1.2.2.d a2.2.2.d hr hc;have i1:=Ba (0<val (bH p q x.1));have i2:=Ba (0<val (bH p q x.2));exact⟨p,q,x.1,rfl,en.hp,en.hq,hx.1,en.ne,p,q,x.2,rfl,en.hp,en.hq,hx.2,en.ne,rs,_,_,rfl,hle,hr,a1.2.2,a2.2.2,K (bY rs (bH p q x.1) (bH p q x.2),⇑(pt x.1),⇑(pt x.2)) ⟨λy m=>hts y (by simp[m]),iB hr a1.2.2 a2.2.2,cp.1,by simp only;lia,z⟩⟩
  ·rintro⟨rs,v7,v8⟩ ⟨_,hr,hc,hl,z⟩;simp only[UR]at hl;replace z:Q (.l ((fU rs).map DM)) []:=z;refine⟨rfl,jY (f:=qI) (h:=λr=>DM (r.1,r.2.1)) (λr=>!r.2.2) (λ(w:Option U×Option U×Option U)acc=>[w.1,w.2.1,w.2.2,↥acc]) rs (none,none,none) [] (by simp;lia) (λr m w acc rest ha K=>?_) λw=>?_⟩
   ·obtain⟨a,b,g⟩:=r;cases g with
    |true=>exact K (⇑(fr a),⇑(fr b),⇑(.bl true))
    |false=>exact⟨ha,K (⇑(fr a),⇑(fr b),⇑(.non))⟩
   ·rw[fU,UA]at z;exact⟨a9 (λ_=>rfl) _,a9 (λ_=>rfl) _,z⟩
 ·intro r m;have e:r=((0,1),(1,1),false):=by simpa[m6]using m
  subst e;exact⟨Sn,So⟩
abbrev zC:=Nat×Nat×Pt×Pt
def D1(r:zC):L2.T:=.tup [.int (r.1:Int),.int (r.2.1:Int),pt r.2.2.1,pt r.2.2.2]
structure EI where
 n:Nat
 k:Nat
 p:Pt
 q:Pt
 l:I3
def L4(e:EI):L2.T:=.tup [.int (e.n:Int),.int (e.k:Int)]
abbrev AD:=List (I3×List Pr)
def dY:AD->I3->List Pr
 |[],_=>[]
 |(k,xs)::r,l=>if k=l then xs else dY r l
def kY:AD->I3->List Pr->AD
 |[],l,ys=>[(l,ys)]
 |(k,xs)::r,l,ys=>if k=l then(k,ys)::r else(k,xs)::kY r l ys
def dC(e:EI)(ps:List (Fr×Fr)):List zC:=ps.map λx=>(e.n,e.k,cO e.p e.q (low x.1.1 x.1.2),cO e.p e.q (low x.2.1 x.2.2))
def pF(shs:List Sh):List EI->AD->List zC
 |[],_=>[]
 |e::es,M=>dC e (fL shs e.p e.q (dY M e.l))++pF shs es (kY M e.l (dY M e.l++[(e.p,e.q)]))
theorem sE(l k:I3)(ys:List Pr):∀M:AD,dY (kY M l ys) k=if l=k then ys else dY M k
 |[]=>rfl
 |(a,xs)::r=>by
  unfold kY
  by_cases c:a=l
  ·rw[oV c];unfold dY;subst c
   by_cases d:a=k
   ·rw[oV d,oV d]
   ·rw[oW d,oW d,oW d]
  ·rw[oW c];unfold dY;rw[sE l k ys r]
   by_cases d:a=k
   ·rw[oV d,oV d,oW (λz=>c (by rw[d,z]))]
   ·rw[oW d,oW d]
def ky(l:I3):List Key:=[Sum.inl l.1,Sum.inl l.2.1,Sum.inl l.2.2]
theorem Dx:ky a=ky b↔a=b:=by
 obtain⟨a1,a2,a3⟩:=a;obtain⟨b1,b2,b3⟩:=b;simp[ky]
def Sv(M:AD):MD:=M.map λx=>(ky x.1,x.2.map wH)
theorem HH{k:List Key->Prop}(h:k (ky l)):MV (oZ (t3 l)) k:=h
theorem Pp(l:I3):∀M:AD,getD (Sv M) (ky l)=(dY M l).map wH
 |[]=>rfl
 |(k,xs)::r=>by
  show(if ky k=ky l then xs.map wH else getD (Sv r) (ky l))=(if k=l then xs else dY r l).map wH
  by_cases c:k=l
  ·rw[oV (Dx.mpr c),oV c]
  ·rw[oW (λz=>c (Dx.mp z)),oW c,Pp l r]
theorem Qr(l:I3)(ys:List Pr):∀M:AD,Em (Sv M) (ky l) (ys.map wH)=Sv (kY M l ys)
 |[]=>rfl
 |(k,xs)::r=>by
  show(if ky k=ky l then(ky k,ys.map wH)::Sv r else(ky k,xs.map wH)::Em (Sv r) (ky l) (ys.map wH))=Sv (if k=l then(k,ys)::r else(k,xs)::kY r l ys)
  by_cases c:k=l
  ·rw[oV (Dx.mpr c),oV c];rfl
  ·rw[oW (λz=>c (Dx.mp z)),oW c,Qr l ys r];rfl
theorem Jm(l:I3)(ys:List Pr):∀M:AD,(kY M l ys).length<=M.length+1
 |[]=>by simp[kY]
 |(k,xs)::r=>by
  have:=Jm l ys r;unfold kY
  split<;>simp<;>lia
theorem Bf{α σ:Type}{D:K7}{f:α->L2.T}(mk:σ->En)(mm:σ->MD)(R:List α->σ->Prop)(hs:∀x xs s rest,R (x::xs) s->(∀s',R xs s'->xV g F D rest (mm s') (mk s'))->xV g F D (f x::rest) (mm s) (mk s))(hd:∀s,R [] s->D.nx (mm s) (mk s)):∀xs s,R xs s->xV g F D (xs.map f) (mm s) (mk s)
 |[],s,h=>hd s h
 |x::xs,s,h=>hs x xs s _ h λs' h'=>Bf mk mm R hs hd xs s' h'
structure L8(bs:List eJ)(e:EI):Prop where
 ex:∃b,bs[e.n]?=oZ b/\b.o[e.k]?=oZ e.p/\b.o[(e.k+1)%b.o.length]?=oZ e.q/\(bE b).ls[e.k]?=oZ e.l
 en:wN e.p e.q
def Sm(M:AD):Prop:=∀x∈M,∀y∈x.2,Pb y.1/\Pb y.2
theorem Po(h:Sm M)(l:I3):∀y∈dY M l,Pb y.1/\Pb y.2:=by
 induction M with
 |nil=>intro y m;simp[dY]at m
 |cons x M ih=>
  obtain⟨k,xs⟩:=x;intro y m;unfold dY at m;split at m
  ·exact h (k,xs) (by simp) y m
  ·exact ih (λz mz=>h z (by simp[mz])) y m
theorem Qq(h:Sm M)(l:I3)(hy:∀y∈ys,Pb y.1/\Pb y.2):Sm (kY M l ys):=by
 induction M with
 |nil=>
  intro x m;have e:x=(l,ys):=by simpa[kY]using m
  subst e;exact hy
 |cons x M ih=>
  obtain⟨k,xs⟩:=x;intro z m;unfold kY at m;split at m
  ·obtain e|m:=SU.mp m
   ·subst e;exact hy
   ·exact h z (by simp[m])
  ·obtain e|m:=SU.mp m
   ·subst e;exact h (k,xs) (by simp)
   ·exact ih (λz mz=>h z (by simp[mz])) z m
theorem GV(h:j4 rows):∀x∈fU rows,F2 x.1/\F2 x.2:=λx m=>by
 obtain⟨r,mr,rfl⟩:=SS.mp m;exact h r (TL.mp mr).1
theorem BY:∀{ts:List (Fr×Fr)}{rows:List lQ},(∀t∈ts,F2 t.1/\F2 t.2)->j4 rows->j4 (oO ts rows)
 |[],_,_,h=>h
 |t::ts,rows,ht,h=>BY (ts:=ts) (rows:=bY rows t.1 t.2) (λx m=>ht x (by simp[m])) (iB h (ht t (by simp)).1 (ht t (by simp)).2)
theorem Og:∀{os:List Ov}{rows rs:List lQ},(∀o∈os,Ci o)->j4 rows->eQ os rows=oZ rs->j4 rs
 |[],rows,rs,_,h,e=>by cases e;exact h
 |none::os,rows,rs,ho,h,e=>Og (os:=os) (λo m=>ho o (by simp[m])) h e
 |some r::os,rows,rs,ho,h,e=>by
  unfold eQ at e;have hr:=ho (oZ r) (by simp) r rfl;split at e
  ·exact Og (os:=os) (λo m=>ho o (by simp[m])) h e
  ·split at e
   ·cases e
   ·exact Og (os:=os) (λo m=>ho o (by simp[m])) (iB h hr.1 hr.2) e
theorem rQ(hs:∀s∈shs,pE s)(en:wN p q)(vg:∀x∈tw,Pb x.1/\Pb x.2):∀x∈fL shs p q tw,F2 x.1/\F2 x.2:=by
 obtain⟨g1,g2,g3'⟩:=Ra en;unfold fL rO;intro x m;split at m
 ·simp at m
 ·rename_i rs e;refine GV (BY (λt mt=>?_) (Og (λo mo=>?_) (λr mr=>?_) e)) x m
  ·obtain⟨y,my,rfl⟩:=SS.mp mt;exact⟨(kN en.hp en.hq (vg y my).1 en.ne).2.2,(kN en.hp en.hq (vg y my).2 en.ne).2.2⟩
  ·obtain⟨s,ms,rfl⟩:=SS.mp mo;exact Qm (hs s ms).b g1 g2
  ·have e:r=((0,1),(1,1),false):=by simpa[m6]using mr
   subst e;exact⟨Sn,So⟩
theorem F2.low(h:F2 p):bL (low p.1 p.2)/\sz (low p.1 p.2)<=300:=by
 have d:p.2≠0:=by have:=h.d;lia
 exact⟨iG d,qV d (pl (fZ p) h.s) (pl (b9 p) h.s) ∅⟩
theorem kI(h:Ko b):pE (bE b):=⟨λl m=>by
 obtain⟨x,mx,rfl⟩:=SS.mp m;exact AM (Oy h.pb x mx)⟩
def Rr:iU:=λas Q=>∃(bs:List eJ)(es:List EI),as=[.v (.lst (bs.map cU)),.v (.lst (es.map L4))]/\bs.length<=8000/\(∀b∈bs,Ko b)/\es.length<=8000/\(∀e∈es,L8 bs e)/\bs.length+es.length<=100/\(pF (bs.map bE) es []).length<=8000/\Q (.l ((pF (bs.map bE) es []).map D1)) []
abbrev rC(P w K mg base):=(~~~Fn) 6 "bounds_of" ["blocks","edges"] (aU K Rr)
abbrev nT:dh:=top 37
theorem b8:aI ["blocks","edges","shapes","by_line","rows","number","edge","ends","twins","low","high","begin","end"] ["blocks","edges"] (aC nT):=iQ
theorem Eh(F:eO K "bounds_of" "bounds_of" nT f fd)(TX:Txt mg)(qu: ~~~rG)(qw: ~~~rD)(qp: ~~~pM)(qq: ~~~uU)(kh: ~~~g8)(zp:Vq K):(~~~bG) fJ 6 f fd ["blocks","edges"] (aU K Rr):=by
 refine F.okU b8 (λhr=>(aB (fS 2 b8.nd (fK qu (f1 (fv 0)))) (CV (i:=3) b8.nd rfl (WE rfl) (Df (Dg (Dw (j:=4) b8.nd rfl (WE rfl) (cH gG) ∅)) (Df (CY (p:=1) rfl PassesOwn.never rfl rfl (by first|exact WE rfl|exact WZ (WE rfl)|exact WZ (WZ rfl)) (Ym (n:=2) rfl rfl (sH (wA (j:=5) b8.nd rfl (WE rfl) ∅) (sH (wA (j:=6) b8.nd rfl (WE rfl) ∅) Qa))) (Df (Dg (Dw (j:=7) b8.nd rfl (WE rfl) (fK qw (f2 (fX (fv 0) (fv 5)) (fv 6))) ∅)) (CU (t:=8) hr rfl zp b8.nd rfl (WE rfl) rfl (by first|exact WE rfl|exact WZ (WE rfl)|exact WZ (WZ rfl)) ∅ (fX (fX (fX (fv 2) (fv 5)) aA) (fv 6)) (Dv (EC PassesOwn.never rfl (cS rfl (fK qp (f3 (fv 2) (fv 7) (fv 8)))) (Ym (n:=2) rfl rfl (sH (wA (j:=9) b8.nd rfl (WE rfl) ∅) (sH (wA (j:=10) b8.nd rfl (WE rfl) ∅) Qa))) (Dv (Dw (j:=11) b8.nd rfl (WE rfl) (fK qq (f3 (fQ 7) (fQ 7) (fK kh (f2 (fQ 9) (fQ 9))))) ∅) (Dv (Dw (j:=12) b8.nd rfl (WE rfl) (fK qq (f3 (fQ 7) (fQ 7) (fK kh (f2 (fQ 10) (fQ 10))))) ∅) (Yk (Qc (hV rfl (fv 4) (f1 (aO (f4 (fv 5) (fv 6) (fv 11) (fv 12)))))))))) (Yk (Qc (hV rfl (fv 8) (f1 (fv 7)))))) ⟨rfl,rfl,rfl,rfl⟩))) (CW (Dg (ED (fv 4))))))))) ?_;rintro as Q ⟨bs,es,rfl,hl,hb,hle,he,hok,hlen,z⟩;have aBQ:(bs.map bE).length+es.length<=100:=by rw[SV];exact hok
 refine⟨bs,rfl,hl,hb,?_⟩;have hsh:∀s∈bs.map bE,pE s:=λs m=>by
  obtain⟨b,mb,rfl⟩:=SS.mp m;exact kI (hb b mb)
 have hat:∀e,L8 bs e->∃(b:eJ)(s:Sh),bs[e.n]?=oZ b/\b.o[e.k]?=oZ e.p/\b.o[(e.k+1)%b.o.length]?=oZ e.q/\(bs.map bE)[e.n]?=oZ s/\s.ls[e.k]?=oZ e.l/\b.o.length<=8000:=λe h=>by
  obtain⟨b,h1,h2,h3,h4⟩:=h.ex;exact⟨b,bE b,h1,h2,h3,by rw[TR,h1];rfl,h4,(hb b (SY h1)).len⟩
 generalize bs.map bE=shs at aBQ hlen z hsh hat⊢;refine Bf (f:=L4) (λs':List L2.T×AD×Option U×Option U×Option U×Option U×Option U×Option U×Option U=>[⇑(.lst (bs.map cU)),⇑(.lst (es.map L4)),↥(shs.map Hb),none,↥s'.1,s'.2.2.1,s'.2.2.2.1,s'.2.2.2.2.1,none,s'.2.2.2.2.2.1,s'.2.2.2.2.2.2.1,s'.2.2.2.2.2.2.2.1,s'.2.2.2.2.2.2.2.2]) (λs'=>Sv s'.2.1)
  (λxu s'=>(∀e∈xu,L8 bs e)/\Sm s'.2.1/\s'.2.1.length+xu.length<=8000/\(∀l,(dY s'.2.1 l).length+xu.length<=es.length)/\s'.1.length+(pF shs xu s'.2.1).length<=8000/\dN s'.1=true/\Q (.l (s'.1++(pF shs xu s'.2.1).map D1)) []) ?_ ?_ es ([],[],none,none,none,none,none,none,none) ⟨he,λx m=>absurd m (by simp),by simp;lia,λl=>by simp[dY],by simp;lia,rfl,z⟩
 ·rintro e xu ⟨acc,M,v5,v6,v7,v9,v10,v11,yq⟩ rest ⟨he',hM,hml,hok,hlen,uh,z⟩ K;have hE:=he' e (by simp);obtain⟨b,s,h1,h2,h3,h4,h5,h6⟩:=hat e hE;simp only[TB]at hml;have hkl:=hok e.l;simp only[TB]at hkl;simp only[pF]at hlen z;show o1 (k8 (bs.map cU) (e.n:Int)) _;rw[kQ h1];refine⟨b,e.k,e.p,e.q,rfl,h6,h2,h3,?_⟩;show o1 (k8 (shs.map Hb) (e.n:Int)) _;rw[kQ h4];show o1 (k8 (s.ls.map t3) (e.k:Int)) _;rw[kQ h5];refine⟨rfl,(show(Sv M).length<9000 by rw[Sv,SV];lia),?_⟩;have vg:=Po hM e.l;have hfr:=rQ hsh hE.en vg;refine HH (l:=e.l) ?_;refine(?_:t6 [⇑(.lst (bs.map cU)),⇑(.lst (es.map L4)),↥(shs.map Hb),none,↥acc,↑(e.n:Int),↑(e.k:Int),⇑(wH (e.p,e.q)),↥(getD (Sv M) (ky e.l)),v9,v10,v11,yq] _);rw[Pp];have hps:(fL shs e.p e.q (dY M e.l)).length<=8000:=by
   have:(dC e (fL shs e.p e.q (dY M e.l))).length=(fL shs e.p e.q (dY M e.l)).length:=by rw[dC,SV]
   rw[TC,this]at hlen
   lia
  refine⟨shs,e.p,e.q,dY M e.l,rfl,hsh,hE.en,vg,⋯,?_⟩;refine cW (f:=DM) (λs':List L2.T×Option U×Option U×Option U×Option U=>[⇑(.lst (bs.map cU)),⇑(.lst (es.map L4)),↥(shs.map Hb),none,↥s'.1,↑(e.n:Int),↑(e.k:Int),⇑(wH (e.p,e.q)),↥((dY M e.l).map wH),s'.2.1,s'.2.2.1,s'.2.2.2.1,s'.2.2.2.2])
   (λps s'=>(∀x∈ps,F2 x.1/\F2 x.2)/\dN s'.1=true/\s'.1.length+ps.length+(pF shs xu (kY M e.l (dY M e.l++[(e.p,e.q)]))).length<=8000/\Q (.l (s'.1++(dC e ps).map D1++(pF shs xu (kY M e.l (dY M e.l++[(e.p,e.q)]))).map D1)) []) ?_ ?_ _ (acc,v9,v10,v11,yq) ⟨hfr,uh,?_,?_⟩
  ·rintro x ps ⟨acc,v9,v10,v11,yq⟩ rest ⟨hf,uh,hlen,z⟩ K;obtain⟨f1,f2⟩:=hf x (by simp);have d1:x.1.2≠0:=by have:=f1.d;lia
   have d2:x.2.2≠0:=by have:=f2.d;lia
   simp only[TB]at hlen;refine⟨x.1.1,x.1.2,rfl,d1,qG (b9 x.1) (by have:=f1.s;lia),e.p,e.q,_,rfl,hE.en.hp,hE.en.hq,f1.low.1,f1.low.2,?_⟩;refine⟨x.2.1,x.2.2,rfl,d2,qG (b9 x.2) (by have:=f2.s;lia),e.p,e.q,_,rfl,hE.en.hp,hE.en.hq,f2.low.1,f2.low.2,?_⟩;refine⟨by rw[TC];simp;lia,K (acc++[D1 (e.n,e.k,cO e.p e.q (low x.1.1 x.1.2),cO e.p e.q (low x.2.1 x.2.2))],⇑(fr x.1),⇑(fr x.2),_,_) ⟨λy m=>hf y (by simp[m]),by rw[nM,uh];rfl,by simp;lia,?_⟩⟩;have:acc++(dC e (x::ps)).map D1=(acc++[D1 (e.n,e.k,cO e.p e.q (low x.1.1 x.1.2),cO e.p e.q (low x.2.1 x.2.2))])++(dC e ps).map D1:=by simp[dC]
   rw[<-this];exact z
  ·rintro⟨acc,v9,v10,v11,yq⟩ ⟨_,uh,hlen,z⟩;have e0:acc++(dC e []).map D1=acc:=by simp[dC]
   rw[e0]at z;have hgl:(dY M e.l).length<=100:=⋯
   refine⟨by rw[TC,SV];simp;lia,?_,?_⟩
   ·rw[nM,a9 (λ_=>rfl)];rfl
   ·have e1:(dY M e.l).map wH++[wH (e.p,e.q)]=(dY M e.l++[(e.p,e.q)]).map wH:=by simp
    have e2:Em (Sv M) (ky e.l) ((dY M e.l).map wH++[wH (e.p,e.q)])=Sv (kY M e.l (dY M e.l++[(e.p,e.q)])):=by rw[e1,Qr]
    have hM':Sm (kY M e.l (dY M e.l++[(e.p,e.q)])):=Qq hM e.l λy m=>by
     obtain m|m:=TY.mp m
     ·exact vg y m
     ·have ey:y=(e.p,e.q):=by simpa using m
      subst ey;exact⟨hE.en.hp,hE.en.hq⟩
    have zi:=Jm e.l (dY M e.l++[(e.p,e.q)]) M;have hk2:∀l,(dY (kY M e.l (dY M e.l++[(e.p,e.q)])) l).length+xu.length<=es.length:=λl=>by
     rw[sE];have:=hok l;simp only[TB]at this
     by_cases c:e.l=l
     ·rw[oV c,TC,VQ];lia
     ·rw[oW c];lia
    have fin:=K (acc,kY M e.l (dY M e.l++[(e.p,e.q)]),↑(e.n:Int),↑(e.k:Int),⇑(wH (e.p,e.q)),v9,v10,v11,yq) ⟨λy m=>he' y (by simp[m]),hM',by show(kY M e.l (dY M e.l++[(e.p,e.q)])).length+_<=8000;lia,hk2,by simp only[UR]at hlen;show acc.length+_<=8000;lia,uh,z⟩;simp only at fin;rw[<-e2]at fin;exact fin
  ·rw[TC,show(dC e (fL shs e.p e.q (dY M e.l))).length=(fL shs e.p e.q (dY M e.l)).length by rw[dC,SV]]at hlen;show acc.length+_+_<=8000
   lia
  ·rw[US,<-TF]at z;exact z
 ·rintro⟨acc,M,v5,v6,v7,v9,v10,v11,yq⟩ ⟨_,_,_,_,_,uh,z⟩;have e:acc++(pF shs [] M).map D1=acc:=by simp[pF]
  rw[e]at z;exact⟨uh,z⟩
end
def NR:Pt:=((0,1),(0,1))
def Li(n:Nat)(b:eJ)(k:Nat):EI:=⟨n,k,b.o.getD k NR,b.o.getD ((k+1)%b.o.length) NR,(bE b).ls.getD k (0,0,0)⟩
def JQ(marks:Str)(c:Nat):Bool:=!(Builtin.Str.occurrences marks ⟨#[c]⟩ 0 marks.length 1).isEmpty
def HV(m:Str)(k:Nat):Nat:=m.cps.toList.getD k 0
def L1(marks:Str)(n:Nat)(b:eJ):List EI:=((VF b.o.length).filter λk=>JQ marks (HV b.m k)).map (Li n b)
def cE(bs:List eJ)(marks:Str):List EI:=bs.zipIdx.flatMap λx=>L1 marks x.2 x.1
def eM(bs:List eJ)(marks:Str):List zC:=pF (bs.map bE) (cE bs marks) []
structure M1(bs:List eJ)(marks:Str):Prop where
 len:bs.length<=10
 bk:∀b∈bs,Ko b
 six:∀b∈bs,b.o.length<=6/\b.m.cps.size=b.o.length
 en:∀e∈cE bs marks,wN e.p e.q
 rows:(eM bs marks).length<=8000
theorem Ti(h:0<o.length):(gV o).length=o.length:=by
 simp only[gV,sV,SV,ZE,TC,WI,UP]
 lia
theorem tX{α:Type}{xs:List α}{k:Nat}{d:α}(h:k<xs.length):xs[k]?=oZ (xs.getD k d):=by
 rw[TV,SX h];rfl
theorem oR(m:e∈cE bs marks):∃b,bs[e.n]?=oZ b/\e.k<b.o.length/\JQ marks (HV b.m e.k)=true/\e=Li e.n b e.k:=by
 obtain⟨x,mx,m⟩:=UC.mp m;obtain⟨k,mk,rfl⟩:=SS.mp m;obtain⟨h1,h2⟩:=TL.mp mk;exact⟨x.1,TQ.mp mx,VL.mp h1,h2,rfl⟩
theorem IT(h:M1 bs marks):∀e∈cE bs marks,L8 bs e:=λe m=>by
 refine⟨?_,h.en e m⟩;obtain⟨b,hx,hk,_,ee⟩:=oR m;have hb:=h.bk b (SY hx);rw[ee];refine⟨b,hx,tX hk,tX (XA _ hb.pos),tX ?_⟩;show e.k<((gV b.o).map dA).length;rw[SV,Ti hb.pos];exact hk
theorem Pj{α β:Type}{f:α->List β}:∀{xs:List α},(∀x∈xs,(f x).length<=m)->(xs.flatMap f).length<=m*xs.length
 |[],_=>by simp
 |x::xs,h=>by
  have h1:=h x (by simp);have h2:=Pj (xs:=xs) λy m=>h y (by simp[m]);rw[UT,TC,TB,Nat.mul_succ];lia
theorem Oz:(L1 marks n b).length<=b.o.length:=by
 unfold L1;rw[SV];have:=VV (λk=>JQ marks (HV b.m k)) (VF b.o.length);rw[ZY]at this;exact this
theorem Hg(h:∀b∈bs,b.o.length<=6):(cE bs marks).length<=6*bs.length:=by
 have:=Pj (f:=λx:eJ×Nat=>L1 marks x.2 x.1) (m:=6) (xs:=bs.zipIdx) λx m=>VE Oz (h x.1 (SY (TQ.mp m)));rw[ZR]at this;exact this
theorem HM{α:Type}(f:α->L2.T)(xs:List α):((xs.map f).zipIdx.map λq=>L2.T.tup [.int (q.2:Int),q.1])=xs.zipIdx.map λq=>L2.T.tup [.int (q.2:Int),f q.1]:=by
 rw[List.zipIdx_map,UA];rfl
theorem xA(hs:∀s∈shs,pE s)(en:wN p q)(vg:∀x∈tw,Pb x.1/\Pb x.2):(fL shs p q tw).length<=1+shs.length+tw.length/\L0 0 false (fL shs p q tw):=by
 obtain⟨g1,g2,g3'⟩:=Ra en;have r0:j4 m6:=λr m=>by
  have e:r=((0,1),(1,1),false):=by simpa[m6]using m
  subst e;exact⟨Sn,So⟩
 have c0:Ch 0 false m6:=⟨by rw[dX],by rw[dX,gN];grind,λz=>absurd z.1 ∅,trivial⟩;have go:∀(os:List Ov)(rows rs:List lQ),(∀o∈os,Ci o)->j4 rows->Ch 0 false rows->eQ os rows=oZ rs->j4 rs/\Ch 0 false rs/\zO rs<=zO rows+os.length:=λos=>by
  induction os with
  |nil=>intro rows rs _ h1 h2 e;cases e;exact⟨h1,h2,by simp⟩
  |cons o os ih=>
   intro rows rs ho h1 h2 e;have wm:∀o∈os,Ci o:=λx m=>ho x (by simp[m]);cases o with
   |none=>
    obtain⟨a,b,c⟩:=ih rows rs wm h1 h2 e;exact⟨a,b,by simp only[TB];lia⟩
   |some r=>
    unfold eQ at e;obtain⟨f1,f2⟩:=ho (oZ r) (by simp) r rfl;split at e
    ·obtain⟨a,b,c⟩:=ih rows rs wm h1 h2 e;exact⟨a,b,by simp only[TB];lia⟩
    ·split at e
     ·cases e
     ·have cp:=rV f1.d f2.d h1 h2;obtain⟨a,b,c⟩:=ih _ rs wm (iB h1 f1 f2) cp.1 e;have:=Ba (0<val r.1);exact⟨a,b,by simp only[TB];lia⟩
 have tg:∀(ts:List (Fr×Fr))(rows:List lQ),(∀t∈ts,F2 t.1/\F2 t.2)->j4 rows->Ch 0 false rows->Ch 0 false (oO ts rows)/\zO (oO ts rows)<=zO rows+ts.length:=λts=>by
  induction ts with
  |nil=>intro rows _ _ h2;exact⟨h2,by simp[oO]⟩
  |cons t ts ih=>
   intro rows ht h1 h2;obtain⟨f1,f2⟩:=ht t (by simp);have cp:=rV f1.d f2.d h1 h2;obtain⟨a,b⟩:=ih _ (λx m=>ht x (by simp[m])) (iB h1 f1 f2) cp.1;have:=Ba (0<val t.1);exact⟨a,by simp only[TB];unfold oO;lia⟩
 have hov:∀o∈shs.map (λs=>bA s (gK p q)),Ci o:=λo m=>by
  obtain⟨s,ms,rfl⟩:=SS.mp m;exact Qm (hs s ms).b g1 g2
 have htp:∀t∈zA p q tw,F2 t.1/\F2 t.2:=λt m=>by
  obtain⟨y,my,rfl⟩:=SS.mp m;exact⟨(kN en.hp en.hq (vg y my).1 en.ne).2.2,(kN en.hp en.hq (vg y my).2 en.ne).2.2⟩
 unfold fL rO;cases g:eQ (shs.map λs=>bA s (gK p q)) m6 with
 |none=>exact⟨by simp,trivial⟩
 |some rs=>
  obtain⟨a,b,c⟩:=go _ _ _ hov r0 c0 g;obtain⟨d,e⟩:=tg (zA p q tw) rs htp a b;refine⟨?_,F3 d⟩;have eb:(fU (oO (zA p q tw) rs)).length=zO (oO (zA p q tw) rs):=by unfold fU zO;rw[SV]
  show(fU (oO (zA p q tw) rs)).length<=_;have n0:zO m6=1:=rfl;have l1:(zA p q tw).length=tw.length:=by unfold zA;rw[SV]
  rw[SV]at c
  lia
theorem Wa(hs:∀s∈shs,pE s):∀(es:List EI)(M:AD)(m:Nat),(∀e∈es,wN e.p e.q)->Sm M->(∀l,(dY M l).length<=m)->2*(pF shs es M).length<=es.length*(2*(1+shs.length+m)+es.length)
 |[],M,m,_,_,_=>by simp[pF]
 |e::es,M,m,he,hM,hm=>by
  have en:=he e (by simp);have vg:=Po hM e.l;have h1:=(xA hs en vg).1;have hg:=hm e.l;have ih:=Wa hs es (kY M e.l (dY M e.l++[(e.p,e.q)])) (m+1) (λx mx=>he x (by simp[mx])) (Qq hM e.l λy my=>by
   obtain my|my:=TY.mp my
   ·exact vg y my
   ·rw[TM]at my;rw[my];exact⟨en.hp,en.hq⟩) (λl=>by
   rw[sE]
   by_cases c:e.l=l
   ·rw[oV c,TC,VQ];lia
   ·rw[oW c];have:=hm l;lia)
  unfold pF;rw[TC,TB,show(dC e (fL shs e.p e.q (dY M e.l))).length=(fL shs e.p e.q (dY M e.l)).length by rw[dC,SV]];generalize es.length=n at *;have e1:n*(2*(1+shs.length+(m+1))+n)=n*(2*(1+shs.length+m))+(2*n+n*n):=by grind
  have e2:(n+1)*(2*(1+shs.length+m)+(n+1))=n*(2*(1+shs.length+m))+2*(1+shs.length+m)+(n*n+2*n+1):=by grind
  lia
section
variable{P:da}{w:dk}{K:W.Frag}{mg:Str->Option oA}{base:oE}
theorem qU{x:Rat}(h:x≠0):0<x*x:=by
 by_cases c:0<x
 ·exact Rat.mul_pos c c
 ·have:=Rat.mul_pos (a:=-x) (b:=-x) (by grind) (by grind);grind
theorem BB(x:Rat):0<=x*x:=by
 by_cases c:x=0
 ·rw[c];grind
 ·exact Rat.le_of_lt (qU c)
theorem AU{A:Rat}(h:0<A):0<A.num:=by
 have h1:0<=A.num:=Rat.num_nonneg.mpr (Rat.le_of_lt h);have h2:A.num≠0:=λz=>by have:=Rat.num_eq_zero.mp z;grind
 lia
theorem Qk(A:Rat):A*(A.den:Rat)=(A.num:Rat):=by
 have e:=Rat.num_divInt_den A;rw[Rat.divInt_eq_div]at e;have n:((A.den:Int):Rat)≠0:=by have:=A.den_pos;exact_mod_cast (show A.den≠0 by lia)
 have n':(A.den:Rat)=((A.den:Int):Rat):=by push_cast;rfl
 rw[n'];grind
def vq(p:Pt):Q2:=(val p.1,val p.2)
structure mX(p:Pt):Prop where
 w:1<=(aG p).2.2
 x:((aG p).1:Rat)=val p.1*((aG p).2.2:Rat)
 y:((aG p).2.1:Rat)=val p.2*((aG p).2.2:Rat)
theorem spt(hx:bL p.1)(hy:bL p.2):mX p:=by
 have dx:=hx.d;have dy:=hy.d;have g0:0<iZ p.1.2 p.2.2:=Xq ⋯;have d1:iZ p.1.2 p.2.2∣p.1.2:=VD.mpr (WO _ _);have d2:iZ p.1.2 p.2.2∣p.2.2:=VD.mpr (WQ _ _);have e1:p.1.2.fdiv (iZ p.1.2 p.2.2)=p.1.2/iZ p.1.2 p.2.2:=rZ _ _;have e2:p.2.2.fdiv (iZ p.1.2 p.2.2)=p.2.2/iZ p.1.2 p.2.2:=rZ _ _;obtain⟨a,ha⟩:=d1;obtain⟨b,hb⟩:=d2;have f1:p.1.2.fdiv (iZ p.1.2 p.2.2)=a:=by rw[e1];exact ZS ⋯ ha
 have f2:p.2.2.fdiv (iZ p.1.2 p.2.2)=b:=by rw[e2];exact ZS ⋯ hb
 have es:aG p=(p.1.1*b,p.2.1*a,a*p.2.2):=by unfold aG;rw[f1,f2]
 have ap:0<a:=by
  obtain h|h:=aj 0 a
  ·exact h
  ·have:=YN (Int.le_of_lt g0) h
   lia
 have c:a*p.2.2=p.1.2*b:=by
  have t1:a*p.2.2=a*(iZ p.1.2 p.2.2*b):=by rw[<-hb]
  have t2:p.1.2*b=iZ p.1.2 p.2.2*a*b:=by rw[<-ha]
  rw[t1,t2];grind
 have c':(a:Rat)*(p.2.2:Rat)=(p.1.2:Rat)*(b:Rat):=by exact_mod_cast c
 have v1:=J6 hx;have v2:=J6 hy;refine⟨?_,?_,?_⟩
 ·rw[es];show 1<=a*p.2.2;have:=ZL ap (show 0<p.2.2 by lia)
  lia
 ·rw[es];show((p.1.1*b:Int):Rat)=val p.1*((a*p.2.2:Int):Rat)
  push_cast
  rw[c'];grind
 ·rw[es];show((p.2.1*a:Int):Rat)=val p.2*((a*p.2.2:Int):Rat)
  push_cast
  grind
theorem mX.p{p:Pt}(h:mX p):(0:Rat)<((aG p).2.2:Rat):=by have:=h.w;exact_mod_cast (show(0:Int)<(aG p).2.2 by lia)
def iD(c d:Pt):I3:=nJ (aG c) (aG d)
theorem Iw(hc:mX c)(hd:mX d)(hx:mX x):((iS (iD c d) (aG x):Int):Rat)=((aG c).2.2:Rat)*((aG d).2.2:Rat)*((aG x).2.2:Rat)*fE (vq c,vq d) (vq x):=by
 unfold iS iD nJ fE aT aH aK vq
 push_cast
 rw[hc.x,hc.y,hd.x,hd.y,hx.x,hx.y];grind
theorem tW(h:g3 l≠0):0<g3 l:=by
 have:0<=g3 l:=by unfold g3 iZ;lia
 lia
theorem Xo(l:I3):g3 l∣l.1/\g3 l∣l.2.1/\g3 l∣l.2.2:=by
 have d1:iZ l.1 l.2.1∣l.1:=VD.mpr (WO _ _);have d2:iZ l.1 l.2.1∣l.2.1:=VD.mpr (WQ _ _);have d3:g3 l∣iZ l.1 l.2.1:=VD.mpr (WO _ _);have d4:g3 l∣l.2.2:=VD.mpr (WQ _ _);exact⟨Int.dvd_trans d3 d1,Int.dvd_trans d3 d2,d4⟩
theorem o9(h:g3 l≠0):l.1=g3 l*(dA l).1/\l.2.1=g3 l*(dA l).2.1/\l.2.2=g3 l*(dA l).2.2:=by
 obtain⟨d1,d2,d3⟩:=Xo l;have k:∀i,g3 l∣i->i=g3 l*i.fdiv (g3 l):=λi di=>by
  have:i.fdiv (g3 l)=i/g3 l:=rZ _ _;rw[this];exact(Int.mul_ediv_cancel' di).symm
 exact⟨k _ d1,k _ d2,k _ d3⟩
theorem Lo(n:Nat)(l:I3):g3 ((n:Int)*l.1,(n:Int)*l.2.1,(n:Int)*l.2.2)=(n:Int)*g3 l:=by
 unfold g3 iZ;simp only[VW,ZP,Nat.gcd_mul_left]
 push_cast;rfl
theorem Qg(h:g3 l≠0):g3 (dA l)=1:=by
 obtain⟨e1,e2,e3⟩:=o9 h;have p:=tW h;obtain⟨n,hn⟩:∃n:Nat,g3 l=(n:Int):=⟨(g3 l).toNat,⋯⟩;have k:=Lo n (dA l);rw[<-hn,<-e1,<-e2,<-e3]at k;have k':g3 l*g3 (dA l)=g3 l*1:=by rw[Int.mul_one];exact k.symm
 exact ae h k'
theorem Yq{m n:Int}(hl:g3 l≠0)(ho:g3 o≠0)(hm:0<m)(hn:0<n)(e1:n*l.1=m*o.1)(e2:n*l.2.1=m*o.2.1)(e3:n*l.2.2=m*o.2.2):dA l=dA o:=by
 obtain⟨a1,a2,a3⟩:=o9 hl;obtain⟨b1,b2,b3⟩:=o9 ho;have pl:=tW hl;have po:=tW ho;have ol:=Qg hl;have oo:=Qg ho;generalize dA l=A at *;generalize dA o=B at *;rw[a1,b1,<-YD,<-YD]at e1;rw[a2,b2,<-YD,<-YD]at e2;rw[a3,b3,<-YD,<-YD]at e3;have p1:=ZL hn pl;have p2:=ZL hm po;generalize n*g3 l=α at *;generalize m*g3 o=β at *;obtain⟨x,hx⟩:∃n:Nat,α=(n:Int):=⟨α.toNat,⋯⟩;obtain⟨y,hy⟩:∃n:Nat,β=(n:Int):=⟨β.toNat,⋯⟩;have k1:=Lo x A;have k2:=Lo y B;rw[<-hx,ol,e1,e2,e3]at k1;rw[<-hy,oo,k1]at k2;have:α=β:=⋯
 subst this;have c:∀{u v:Int},α*u=α*v->u=v:=λh=>ae ⋯ h;exact Prod.ext (c e1) (Prod.ext (c e2) (c e3))
theorem Ii(hc:mX c)(hd:mX d)(hp:mX p)(hq:mX q)(h:g3 (iD c d)≠0):∃k:Rat,0<k/\(lA (aG p) (aG q) (dA (iD c d)):Rat)=k*fE (vq c,vq d) (vq p)/\(lB (aG p) (aG q) (dA (iD c d)):Rat)=k*fE (vq c,vq d) (vq q):=by
 obtain⟨e1,e2,e3⟩:=o9 h;have gp:=tW h;have gp':(0:Rat)<(g3 (iD c d):Rat):=by exact_mod_cast gp
 have k:∀x:I3,iS (iD c d) x=g3 (iD c d)*iS (dA (iD c d)) x:=λx=>by unfold iS;grind
 have ox:=Iw hc hd hp;have oy:=Iw hc hd hq;rw[k]at ox oy
 push_cast at ox oy
 have wc:=hc.p;have wd:=hd.p;have wp:=hp.p;have wq:=hq.p;have m1:=Rat.mul_pos (Rat.mul_pos wc wd) (Rat.mul_pos wp wq);refine⟨((aG c).2.2:Rat)*((aG d).2.2:Rat)*(((aG p).2.2:Rat)*((aG q).2.2:Rat))/(g3 (iD c d):Rat),by rw[Rat.div_def];exact Rat.mul_pos m1 (Rat.inv_pos.mpr gp'),?_,?_⟩
 ·unfold lA;push_cast;grind
 ·unfold lB;push_cast;grind
theorem AL(hc:mX c)(hd:mX d)(hp:mX p)(hq:mX q)(h:g3 (iD c d)≠0):∃k:Rat,0<k/\∀t,lF (aG p) (aG q) (dA (iD c d)) t=fE (vq c,vq d) (cL (vq p) (vq q) t)*k:=by
 obtain⟨k,k0,h1,h2⟩:=Ii hc hd hp hq h;refine⟨k,k0,λt=>?_⟩;rw[mQ];unfold lF Ha;rw[h1,h2];grind
theorem Dz(hc:mX c)(hd:mX d)(hp:mX p)(hq:mX q)(h:g3 (iD c d)≠0)(h':g3 (iD p q)≠0)(ne:0<aN (aH (vq c,vq d)) (aH (vq c,vq d)))(z1:fE (vq c,vq d) (vq p)=0)(z2:fE (vq c,vq d) (vq q)=0):
  dA (iD c d)=dA (iD p q)↔0<aN (aH (vq c,vq d)) (aK (vq q) (vq p)):=by
 have comp:∀{c d:Pt},mX c->mX d->((iD c d).1:Rat) = -(((aG c).2.2:Rat)*((aG d).2.2:Rat)*(aH (vq c,vq d)).2)/\((iD c d).2.1:Rat)=((aG c).2.2:Rat)*((aG d).2.2:Rat)*(aH (vq c,vq d)).1/\((iD c d).2.2:Rat)=((aG c).2.2:Rat)*((aG d).2.2:Rat)*aT (vq c) (vq d):=λ{c d}hc hd=>by
  unfold iD nJ aH aK aT vq
  push_cast
  rw[hc.x,hc.y,hd.x,hd.y];exact⟨by grind,by grind,by grind⟩
 obtain⟨a1,a2,a3⟩:=comp hc hd;obtain⟨b1,b2,b3⟩:=comp hp hq;have wc:=hc.p;have wd:=hd.p;have wp:=hp.p;have wq:=hq.p;have m1:=Rat.mul_pos wc wd;have m2:=Rat.mul_pos wp wq;have vE:aK (vq q) (vq p)=aH (vq p,vq q):=rfl;rw[vE];constructor
 ·intro e;obtain⟨l1,l2,_⟩:=o9 h;obtain⟨o1,o2,_⟩:=o9 h';rw[<-e]at o1 o2;have g1:(0:Rat)<(g3 (iD c d):Rat):=by exact_mod_cast tW h
  have g2:(0:Rat)<(g3 (iD p q):Rat):=by exact_mod_cast tW h'
  have l1':((iD c d).1:Rat)=(g3 (iD c d):Rat)*((dA (iD c d)).1:Rat):=by exact_mod_cast l1
  have l2':((iD c d).2.1:Rat)=(g3 (iD c d):Rat)*((dA (iD c d)).2.1:Rat):=by exact_mod_cast l2
  have o1':((iD p q).1:Rat)=(g3 (iD p q):Rat)*((dA (iD c d)).1:Rat):=by exact_mod_cast o1
  have o2':((iD p q).2.1:Rat)=(g3 (iD p q):Rat)*((dA (iD c d)).2.1:Rat):=by exact_mod_cast o2
  generalize((dA (iD c d)).1:Rat)=M at *;generalize((dA (iD c d)).2.1:Rat)=N at *;generalize(g3 (iD c d):Rat)=g at *;generalize(g3 (iD p q):Rat)=g' at *;generalize((aG c).2.2:Rat)*((aG d).2.2:Rat)=s at *;generalize((aG p).2.2:Rat)*((aG q).2.2:Rat)=s' at *;generalize aH (vq c,vq d)=u at *;generalize aH (vq p,vq q)=v at *;have i1:aN u v*(s*s'*g)=aN u u*(s*s*g'):=by
   unfold aN;grind
  refine bJ (Rat.mul_pos (Rat.mul_pos m1 m2) g1) ?_;rw[i1];exact Rat.mul_pos ne (Rat.mul_pos (Rat.mul_pos m1 m1) g2)
 ·intro dp
  -- the line is so many times the other
  have vne:0<aN (aH (vq p,vq q)) (aH (vq p,vq q)):=by
   unfold aN;have s1:=BB (aH (vq p,vq q)).1;have s2:=BB (aH (vq p,vq q)).2
   by_cases y1:(aH (vq p,vq q)).1=0
   ·by_cases y2:(aH (vq p,vq q)).2=0
    ·unfold aN at dp;rw[y1,y2]at dp;grind
    ·have:=qU y2;grind
   ·have:=qU y1;grind
  have cz:aT (aH (vq p,vq q)) (aH (vq c,vq d))=0:=by
   have:aT (aH (vq p,vq q)) (aH (vq c,vq d))=fE (vq c,vq d) (vq p)-fE (vq c,vq d) (vq q):=by unfold fE aT aH aK;grind
   rw[this,z1,z2];grind
  obtain⟨p1,p2⟩:=par vne cz;have c3:aT (vq c) (vq d)*aN (aH (vq p,vq q)) (aH (vq p,vq q))=aN (aH (vq p,vq q)) (aH (vq c,vq d))*aT (vq p) (vq q):=by
   have t1:aT (vq c) (vq d)=aT (vq p) (aH (vq c,vq d)):=by
    have:aT (vq c) (vq d)-aT (vq p) (aH (vq c,vq d))=fE (vq c,vq d) (vq p):=by unfold fE aT aH aK;grind
    rw[z1]at this;grind
   have t2:aT (vq p) (vq q)=aT (vq p) (aH (vq p,vq q)):=by unfold aT aH aK;grind
   rw[t1,t2];unfold aT;grind
  have dp':0<aN (aH (vq p,vq q)) (aH (vq c,vq d)):=by unfold aN at dp⊢;grind
  generalize hr:aN (aH (vq p,vq q)) (aH (vq c,vq d))=r at *;generalize hv:aN (aH (vq p,vq q)) (aH (vq p,vq q))=v at *
  -- n*L=m*O over numbers
  have key:∀(A B:Rat),0<A->0<B->∃m n:Int,0<m/\0<n/\(n:Rat)*A=(m:Rat)*B:=λA B hA hB=>by
   refine⟨A.num*B.den,B.num*A.den,ZL (AU hA) (by have:=B.den_pos;lia),ZL (AU hB) (by have:=A.den_pos;lia),?_⟩;have eA:=Qk A;have eB:=Qk B
   push_cast
   rw[<-eA,<-eB];grind
  obtain⟨m,n,m0,n0,e⟩:=key (r*(((aG c).2.2:Rat)*((aG d).2.2:Rat))) (v*(((aG p).2.2:Rat)*((aG q).2.2:Rat))) (Rat.mul_pos dp' m1) (Rat.mul_pos vne m2);have vn0:v≠0:=by grind
  have fin:∀{x y:Int},(n:Rat)*(x:Rat)*v=(m:Rat)*(y:Rat)*v->n*x=m*y:=λ{x y}h=>by
   have:(n:Rat)*(x:Rat)=(m:Rat)*(y:Rat):=by grind
   exact_mod_cast this
  refine Yq h h' m0 n0 (fin ?_) (fin ?_) (fin ?_)
  ·rw[a1,b1];grind
  ·rw[a2,b2];grind
  ·rw[a3,b3];grind
end
def zr(o:List Pt):List (Pt×Pt):=o.zip (sV o)
def d5(o:List Pt):List Eg:=(zr o).map λx=>(vq x.1,vq x.2)
theorem Jn{α β:Type}(f:α->β)(xs:List α):sV (xs.map f)=(sV xs).map f:=by unfold sV;rw[US,YC,XI]
theorem Ao(o:List Pt):gV o=(zr o).map λx=>iD x.1 x.2:=by
 unfold gV zr;rw[Jn,ar,UA];rfl
theorem kK(h:x∈zr o):x.1∈o/\x.2∈o:=by
 obtain⟨m1,m2⟩:=VY (a:=x.1) (b:=x.2) h;refine⟨m1,?_⟩;obtain m2|m2:=TY.mp m2
 ·exact WT m2
 ·exact VH m2
structure GB(o:List Pt):Prop where
 sp:∀p∈o,mX p
 cx:Cx (d5 o)
 ne:o≠[]
theorem NA(h:o≠[]):zr o≠[]:=by
 cases o with
 |nil=>exact absurd rfl h
 |cons p o=>cases o<;>simp[zr,sV]
theorem GB.es(h:GB o):d5 o≠[]:=by
 have:=NA h.ne;unfold d5
 simpa using this
theorem O9(hc:mX c)(hd:mX d):((iD c d).1:Rat) = -(((aG c).2.2:Rat)*((aG d).2.2:Rat)*(aH (vq c,vq d)).2)/\((iD c d).2.1:Rat)=((aG c).2.2:Rat)*((aG d).2.2:Rat)*(aH (vq c,vq d)).1:=by
 unfold iD nJ aH aK vq
 push_cast
 rw[hc.x,hc.y,hd.x,hd.y];exact⟨by grind,by grind⟩
theorem sC(hc:mX c)(hd:mX d)(h:0<aN (aH (vq c,vq d)) (aH (vq c,vq d))):g3 (iD c d)≠0:=λz=>by
 obtain⟨d1,d2,_⟩:=Xo (iD c d);rw[z]at d1 d2;have z1:=Int.zero_dvd.mp d1;have z2:=Int.zero_dvd.mp d2;obtain⟨c1,c2⟩:=O9 hc hd;rw[z1]at c1;rw[z2]at c2;have m:=Rat.mul_pos hc.p hd.p;have n0:((aG c).2.2:Rat)*((aG d).2.2:Rat)≠0:=by grind
 have e1:(aH (vq c,vq d)).2=0:=by
  have:((aG c).2.2:Rat)*((aG d).2.2:Rat)*(aH (vq c,vq d)).2=0:=by push_cast at c1;grind
  exact(Rat.mul_eq_zero.mp this).resolve_left n0
 have e2:(aH (vq c,vq d)).1=0:=by
  have:((aG c).2.2:Rat)*((aG d).2.2:Rat)*(aH (vq c,vq d)).1=0:=by push_cast at c2;grind
  exact(Rat.mul_eq_zero.mp this).resolve_left n0
 unfold aN at h;rw[e1,e2]at h;grind
theorem wC{ns:List Int}{x:Int}(h:x∈ns):x<=Ea ns:=by
 cases ns with
 |nil=>simp at h
 |cons n ns=>
  obtain⟨_,h2,h3⟩:=L2.xK ns n;obtain rfl|h:=SU.mp h
  ·exact h2
  ·exact h3 x h
theorem wD{ns:List Int}{x:Int}(h:x∈ns):Ec ns<=x:=by
 cases ns with
 |nil=>simp at h
 |cons n ns=>
  obtain⟨_,h2,h3⟩:=L2.xM ns n;obtain rfl|h:=SU.mp h
  ·exact h2
  ·exact h3 x h
theorem JK{N a w a' w':Int}{x y:Rat}(hN:0<N)(hw:1<=w)(hw':1<=w')(ha:(a:Rat)=x*(w:Rat))(ha':(a':Rat)=y*(w':Rat))(h:(a*N).fdiv w<(a'*N).fdiv w'):x<y:=by
 rw[WX _ ⋯,WX _ ⋯]at h;have h1:a*N<(a*N/w+1)*w:=Int.lt_ediv_add_one_mul_self _ ⋯;have h2:a'*N/w'*w'<=a'*N:=Int.ediv_mul_le _ ⋯;generalize a*N/w=F at h h1;generalize a'*N/w'=G at h h2;have p1:(0:Rat)<(w:Rat):=by exact_mod_cast (show(0:Int)<w by lia)
 have p2:(0:Rat)<(w':Rat):=by exact_mod_cast (show(0:Int)<w' by lia)
 have q1:(a:Rat)*(N:Rat)<((F:Rat)+1)*(w:Rat):=by exact_mod_cast h1
 have q2:(G:Rat)*(w':Rat)<=(a':Rat)*(N:Rat):=by exact_mod_cast h2
 have q3:(F:Rat)+1<=(G:Rat):=by exact_mod_cast (show F+1<=G by lia)
 rw[ha]at q1;rw[ha']at q2;have r1:0<((F:Rat)+1-x*(N:Rat))*(w:Rat):=by grind
 have r2:0<=(y*(N:Rat)-(G:Rat))*(w':Rat):=by grind
 have s1:=bJ p1 r1;have s2:=bR p2 r2;have n0:(0:Rat)<(N:Rat):=by exact_mod_cast hN
 have:0<(y-x)*(N:Rat):=by grind
 have:=bJ n0 this;grind
theorem O3{a w a' w':Int}{x y:Rat}(hw:1<=w)(hw':1<=w')(ha:(a:Rat)=x*(w:Rat))(ha':(a':Rat)=y*(w':Rat))(h:(a*65536).fdiv w<(a'*65536).fdiv w'):x<y:=JK (N:=65536) ∅ hw hw' ha ha' h
theorem Oe{a b c t:Rat}(h:c<a)(k:c<b)(t0:0<=t)(t1:t<=1):c<a+(b-a)*t:=by
 rcases Rat.le_total (a:=a) (b:=b)with q|q
 ·have:=Rat.mul_nonneg (show 0<=b-a by grind) t0;grind
 ·have:=Rat.mul_nonneg (show 0<=a-b by grind) (show 0<=1-t by grind);grind
theorem Vy{a b c t:Rat}(h:a<c)(k:b<c)(t0:0<=t)(t1:t<=1):a+(b-a)*t<c:=by
 have:=Oe (a:=-a) (b:=-b) (c:=-c) (t:=t) (by grind) (by grind) t0 t1;grind
theorem Sw(hb:GB b.o)(hp:mX p)(hq:mX q)(h:pY (bE b).b (gK p q).b=true){t:Rat}(t0:0<=t)(t1:t<=1)(k:Cg (d5 b.o) (cL (vq p) (vq q) t)):False:=by
 have box:=λw=>hb.cx.box hb.es w k;have cor:∀g∈d5 b.o,∃c∈b.o,g.1=vq c:=λg m=>by
  obtain⟨x,mx,rfl⟩:=SS.mp m;exact⟨x.1,(kK mx).1,rfl⟩
 have bx:∀c∈b.o,(xC (b.o.map aG)).1<=((aG c).1*65536).fdiv (aG c).2.2/\((aG c).1*65536).fdiv (aG c).2.2<=(xC (b.o.map aG)).2.2.1/\(xC (b.o.map aG)).2.1<=((aG c).2.1*65536).fdiv (aG c).2.2/\((aG c).2.1*65536).fdiv (aG c).2.2<=(xC (b.o.map aG)).2.2.2:=λc m=>by
  have mx:((aG c).1*65536).fdiv (aG c).2.2∈Vl (b.o.map aG):=by unfold Vl;rw[UA];exact SS.mpr ⟨c,m,rfl⟩
  have my:((aG c).2.1*65536).fdiv (aG c).2.2∈Vm (b.o.map aG):=by unfold Vm;rw[UA];exact SS.mpr ⟨c,m,rfl⟩
  exact⟨wD mx,wC mx,wD my,wC my⟩
 have sx:∀r,(r=p\/r=q)->((aG r).1*65536).fdiv (aG r).2.2∈Vl [aG p,aG q]:=λr hr=>by
  unfold Vl;rcases hr with rfl|rfl<;>simp
 have sy:∀r,(r=p\/r=q)->((aG r).2.1*65536).fdiv (aG r).2.2∈Vm [aG p,aG q]:=λr hr=>by
  unfold Vm;rcases hr with rfl|rfl<;>simp
 have spr:∀r,(r=p\/r=q)->mX r:=λr hr=>by rcases hr with rfl|rfl<;>assumption
 unfold pY at h;simp only[YF,decide_eq_true_eq]at h;have h':(xC (b.o.map aG)).2.2.1<Ec (Vl [aG p,aG q])\/Ea (Vl [aG p,aG q])<(xC (b.o.map aG)).1\/(xC (b.o.map aG)).2.2.2<Ec (Vm [aG p,aG q])\/Ea (Vm [aG p,aG q])<(xC (b.o.map aG)).2.1:=by
  obtain ((h|h)|h)|h:=h
  ·exact .inl h
  ·exact .inr (.inl h)
  ·exact .inr (.inr (.inl h))
  ·exact .inr (.inr (.inr h))
 obtain h|h|h|h:=h'
 ·obtain⟨g,mg,le⟩:=box (1,0);obtain⟨c,mc,ec⟩:=cor g mg;rw[ec]at le;have hc:=hb.sp c mc;have lt:∀r,(r=p\/r=q)->val c.1<val r.1:=λr hr=>O3 hc.w (spr r hr).w hc.x (spr r hr).x (by have:=(bx c mc).2.1;have:=wD (sx r hr);omega);have:=Oe (lt p (.inl rfl)) (lt q (.inr rfl)) t0 t1;unfold aN cL vq at le;grind
 ·obtain⟨g,mg,le⟩:=box (-1,0);obtain⟨c,mc,ec⟩:=cor g mg;rw[ec]at le;have hc:=hb.sp c mc;have lt:∀r,(r=p\/r=q)->val r.1<val c.1:=λr hr=>O3 (spr r hr).w hc.w (spr r hr).x hc.x (by have:=(bx c mc).1;have:=wC (sx r hr);omega);have:=Vy (lt p (.inl rfl)) (lt q (.inr rfl)) t0 t1;unfold aN cL vq at le;grind
 ·obtain⟨g,mg,le⟩:=box (0,1);obtain⟨c,mc,ec⟩:=cor g mg;rw[ec]at le;have hc:=hb.sp c mc;have lt:∀r,(r=p\/r=q)->val c.2<val r.2:=λr hr=>O3 hc.w (spr r hr).w hc.y (spr r hr).y (by have:=(bx c mc).2.2.2;have:=wD (sy r hr);omega);have:=Oe (lt p (.inl rfl)) (lt q (.inr rfl)) t0 t1;unfold aN cL vq at le;grind
 ·obtain⟨g,mg,le⟩:=box (0,-1);obtain⟨c,mc,ec⟩:=cor g mg;rw[ec]at le;have hc:=hb.sp c mc;have lt:∀r,(r=p\/r=q)->val r.2<val c.2:=λr hr=>O3 (spr r hr).w hc.w (spr r hr).y hc.y (by have:=(bx c mc).2.2.1;have:=wC (sy r hr);omega);have:=Vy (lt p (.inl rfl)) (lt q (.inr rfl)) t0 t1;unfold aN cL vq at le;grind
structure NH(es:List Eg)(p q:Q2)(r:Fr×Fr×Nat):Prop where
 d1:1<=r.1.2
 d2:1<=r.2.1.2
 lt:val r.1<val r.2.1
 l0:0<=val r.1
 h1:val r.2.1<=1
 s:∀t,0<=t->t<=1->(Cg es (cL p q t)↔val r.1<=t/\t<=val r.2.1)
 lo:r.1=(0,1)\/(0<val r.1/\∃e∈es,fE e p<0/\0<fE e q/\fE e (cL p q (val r.1))=0)
 hi:r.2.1=(1,1)\/(val r.2.1<1/\∃e∈es,0<fE e p/\fE e q<0/\fE e (cL p q (val r.2.1))=0)
 h:(r.2.2=0/\∀e∈es,¬(fE e p=0/\fE e q=0))\/((∃e∈es,fE e p=0/\fE e q=0)/\(r.2.2=1\/r.2.2=2)/\∀e∈es,fE e p=0->fE e q=0->(r.2.2=1↔0<aN (aH e) (aK q p)))
theorem Qh(b:eJ):(bE b).ls=(zr b.o).map λx=>dA (iD x.1 x.2):=by
 show(gV b.o).map dA=_;rw[Ao,UA];rfl
theorem Zo(hb:GB b.o)(hp:mX p)(hq:mX q)(t:Rat):(∀l∈(bE b).ls,0<=lF (aG p) (aG q) l t)↔Cg (d5 b.o) (cL (vq p) (vq q) t):=by
 rw[Qh];unfold Cg d5;constructor
 ·intro h e m;obtain⟨x,mx,rfl⟩:=SS.mp m;obtain⟨m1,m2⟩:=kK mx;obtain⟨k,k0,hk⟩:=AL (hb.sp _ m1) (hb.sp _ m2) hp hq (sC (hb.sp _ m1) (hb.sp _ m2) (hb.cx.ne _ (SS.mpr ⟨x,mx,rfl⟩)));have:=h _ (SS.mpr ⟨x,mx,rfl⟩);rw[hk]at this;exact bR k0 this
 ·intro h l m;obtain⟨x,mx,rfl⟩:=SS.mp m;obtain⟨m1,m2⟩:=kK mx;obtain⟨k,k0,hk⟩:=AL (hb.sp _ m1) (hb.sp _ m2) hp hq (sC (hb.sp _ m1) (hb.sp _ m2) (hb.cx.ne _ (SS.mpr ⟨x,mx,rfl⟩)));rw[hk];exact Rat.mul_nonneg (h _ (SS.mpr ⟨x,mx,rfl⟩)) (Rat.le_of_lt k0)
theorem Um(hb:GB b.o)(hp:mX p)(hq:mX q)(h:bA (bE b) (gK p q)=none){t1 t2:Rat}(k0:0<=t1)(k:t1<t2)(k1:t2<=1)(i1:Cg (d5 b.o) (cL (vq p) (vq q) t1))(i2:Cg (d5 b.o) (cL (vq p) (vq q) t2)):False:=by
 unfold bA at h;split at h
 ·rename_i c;exact Sw hb hp hq c k0 (by grind) i1
 ·have j1:=(Zo hb hp hq t1).mpr i1;have j2:=(Zo hb hp hq t2).mpr i2;cases g:nO (gK p q).p (gK p q).q (gK p q).l (bE b).ls (0,1) (1,1) 0 with
  |none=>exact sP _ _ _ _ g t1 t2 k0 k k1 j1 j2
  |some r=>
   rw[g]at h;have o:=pB _ _ _ _ r g ∅ ∅;unfold Bl at h;simp only at h;split at h
   ·cases h
   ·rename_i c;have c':=mt (iX o.d1 o.d2).mpr c;have a1:=(o.s t1 k0 (by grind)).mp ⟨by rw[dX];exact k0,by rw[gN];grind,j1⟩;have a2:=(o.s t2 (by grind) k1).mp ⟨by rw[dX];grind,by rw[gN];exact k1,j2⟩;grind
theorem lI(hb:GB b.o)(hp:mX p)(hq:mX q)(ne:0<aN (aK (vq q) (vq p)) (aK (vq q) (vq p)))(h:bA (bE b) (gK p q)=oZ r):NH (d5 b.o) (vq p) (vq q) r:=by
 unfold bA at h;split at h
 ·cases h
 cases g:nO (gK p q).p (gK p q).q (gK p q).l (bE b).ls (0,1) (1,1) 0 with
 |none=>rw[g]at h;cases h
 |some r'=>
  rw[g]at h;have o:=pB _ _ _ _ r' g ∅ ∅;unfold Bl at h;simp only at h;split at h
  ·rename_i c;cases h;have lt:=(iX o.d1 o.d2).mp c;have hpq:g3 (iD p q)≠0:=sC hp hq ne
   -- a line and jz wb
   have wb:∀l∈(bE b).ls,∃x∈zr b.o,l=dA (iD x.1 x.2)/\(vq x.1,vq x.2)∈d5 b.o/\mX x.1/\mX x.2/\g3 (iD x.1 x.2)≠0/\∃k:Rat,0<k/\(lA (aG p) (aG q) l:Rat)=k*fE (vq x.1,vq x.2) (vq p)/\(lB (aG p) (aG q) l:Rat)=k*fE (vq x.1,vq x.2) (vq q):=λl m=>by
    rw[Qh]at m;obtain⟨x,mx,rfl⟩:=SS.mp m;obtain⟨m1,m2⟩:=kK mx;have me:(vq x.1,vq x.2)∈d5 b.o:=SS.mpr ⟨x,mx,rfl⟩;have gn:=sC (hb.sp _ m1) (hb.sp _ m2) (hb.cx.ne _ me);exact⟨x,mx,rfl,me,hb.sp _ m1,hb.sp _ m2,gn,Ii (hb.sp _ m1) (hb.sp _ m2) hp hq gn⟩
   have l0:0<=val r.1:=by
    obtain e|⟨e,_⟩:=o.lo
    ·rw[e,dX];grind
    ·rw[dX]at e;grind
   have h1:val r.2.1<=1:=by
    obtain e|⟨e,_⟩:=o.hi
    ·rw[e,gN];grind
    ·rw[gN]at e;grind
   have sgn:∀{k f:Rat}{i:Int},0<k->(i:Rat)=k*f->(i<0↔f<0)/\(0<i↔0<f)/\(i=0↔f=0):=λ{k f i}k0 e=>by
    have p1:=kF (a:=f) k0;have p2:=kF (a:=-f) k0;have i1:(0:Rat)<(i:Rat)↔0<i:=by norm_cast
    have i2:(i:Rat)<0↔i<0:=by norm_cast
    have c1:0<i↔0<f:=by rw[<-i1,e];grind
    have c2:i<0↔f<0:=by rw[<-i2,e];grind
    refine⟨c2,c1,?_⟩;constructor
    ·intro z;have:=mt c1.mpr ⋯;have:=mt c2.mpr ⋯;grind
    ·intro z;have:=mt c1.mp (by grind);have:=mt c2.mp (by grind)
     lia
   have zro:∀{k:Rat}{x:Pt×Pt}{l:I3}{t:Rat},0<k->(lA (aG p) (aG q) l:Rat)=k*fE (vq x.1,vq x.2) (vq p)->(lB (aG p) (aG q) l:Rat)=k*fE (vq x.1,vq x.2) (vq q)->lF (aG p) (aG q) l t=0->fE (vq x.1,vq x.2) (cL (vq p) (vq q) t)=0:=λ{k x l t}k0 a1 a2 z=>by
    unfold lF Ha at z;rw[a1,a2]at z;rw[mQ];have:k*(fE (vq x.1,vq x.2) (vq p)+(fE (vq x.1,vq x.2) (vq q)-fE (vq x.1,vq x.2) (vq p))*t)=0:=by grind
    exact(Rat.mul_eq_zero.mp this).resolve_left (by grind)
   refine⟨o.d1,o.d2,lt,l0,h1,λt t0 t1=>?_,?_,?_,?_⟩
   ·rw[<-Zo hb hp hq t,<-o.s t t0 t1,dX,gN];exact⟨λz=>⟨t0,t1,z⟩,λz=>z.2.2⟩
   ·obtain e|⟨e,l,ml,z1,z2,z3⟩:=o.lo
    ·exact .inl e
    ·rw[dX]at e;obtain⟨x,_,_,me,_,_,_,k,k0,a1,a2⟩:=wb l ml;exact .inr ⟨e,_,me,(sgn k0 a1).1.mp z1,(sgn k0 a2).2.1.mp z2,zro k0 a1 a2 z3⟩
   ·obtain e|⟨e,l,ml,z1,z2,z3⟩:=o.hi
    ·exact .inl e
    ·rw[gN]at e;obtain⟨x,_,_,me,_,_,_,k,k0,a1,a2⟩:=wb l ml;have s1:=(sgn k0 a1).2.1.mp z1;have s2:=(sgn k0 a2).1.mp z2;have s3:=zro k0 a1 a2 z3;refine .inr ⟨?_,_,me,s1,s2,s3⟩;rw[mQ]at s3
     by_cases c:val r.2.1=1
     ·rw[c]at s3;grind
     ·grind
   ·obtain⟨e,hz⟩|⟨l,ml,z1,z2,e⟩:=o.h
    ·refine .inl ⟨e,λg mg zz=>?_⟩;obtain⟨x,mx,rfl⟩:=SS.mp mg;have ml:dA (iD x.1 x.2)∈(bE b).ls:=by rw[Qh];exact SS.mpr ⟨x,mx,rfl⟩
     obtain⟨m1,m2⟩:=kK mx;obtain⟨k,k0,a1,a2⟩:=Ii (hb.sp _ m1) (hb.sp _ m2) hp hq (sC (hb.sp _ m1) (hb.sp _ m2) (hb.cx.ne _ mg));exact hz _ ml ⟨(sgn k0 a1).2.2.mpr zz.1,(sgn k0 a2).2.2.mpr zz.2⟩
    ·obtain⟨x,mx,el,me,sc,sd,gn,k,k0,a1,a2⟩:=wb l ml;have f1:=(sgn k0 a1).2.2.mp z1;have f2:=(sgn k0 a2).2.2.mp z2;have le:=Dz sc sd hp hq gn hpq (hb.cx.ne _ me) f1 f2;rw[el]at e;have e':r.2.2=if dA (iD x.1 x.2)=dA (iD p q)then 1 else 2:=e;refine .inr ⟨⟨_,me,f1,f2⟩,by rw[e'];split<;>simp,λg mg g1 g2=>?_⟩;have or1:=hb.cx.orient me mg f1 f2 g1 g2 ne;have or2:=hb.cx.orient mg me g1 g2 f1 f2 ne;rw[e']
     split
     ·rename_i c;exact⟨λ_=>or1 (le.mp c),λ_=>rfl⟩
     ·rename_i c;exact⟨λz=>absurd z ∅,λz=>absurd (le.mpr (or2 z)) c⟩
  ·cases h
def Kv(fs:List Fr):Prop:=∀f∈fs,bL f
structure NP(p:Pt):Prop where
 x:bL p.1
 y:bL p.2
theorem NP.spt(h:NP p):mX p:=My.spt h.x h.y
def lV(f s:Fr):Bool:=decide ((aQ f s).1<0)
theorem Lu(hf:bL f)(hs:bL s):lV f s=true↔val f<val s:=by
 unfold lV;rw[decide_eq_true_eq,<-uM (aR hf hs),bK hf hs];grind
def i5(found:List Fr)(s:Fr):List Fr:=if s∈found then found else found.take (found.filter (lV · s)).length++s::found.drop (found.filter (lV · s)).length
def Dt(s:Fr):List Fr->List Fr
 |[]=>[s]
 |x::xs=>if val x<val s then x::Dt s xs else s::x::xs
def Vi(xs:List Fr):Prop:=xs.Pairwise λa b=>val a<val b
theorem Du(hs:bL s):∀{xs:List Fr},Kv xs->Vi xs->xs.take (xs.filter (lV · s)).length++s::xs.drop (xs.filter (lV · s)).length=Dt s xs
 |[],_,_=>rfl
 |x::xs,hn,hp=>by
  have hx:=hn x (by simp);have hn':Kv xs:=λf m=>hn f (by simp[m]);obtain⟨p1,p2⟩:=UL.mp hp
  by_cases c:val x<val s
  ·have e:(x::xs).filter (lV · s)=x::xs.filter (lV · s):=UM ((Lu hx hs).mpr c);rw[e,TB,YE,ZI,XF,Du hs hn' p2,Dt,oV c]
  ·have e:(x::xs).filter (lV · s)=[]:=by
    rw[WW];intro y m z;obtain rfl|m:=SU.mp m
    ·exact c ((Lu hx hs).mp z)
    ·have:=(Lu (hn' y m) hs).mp z;have:=p1 y m;grind
   rw[e,Dt,oW c];rfl
theorem sF:∀{xs:List Fr},y∈Dt s xs↔y=s\/y∈xs
 |[]=>by simp[Dt]
 |x::xs=>by
  unfold Dt
  split
  ·rw[SU,sF,SU];grind
  ·simp[SU]
theorem Ig:∀{xs:List Fr},Vi xs->(∀x∈xs,val x≠val s)->Vi (Dt s xs)
 |[],_,_=>bb _ _
 |x::xs,h,hn=>by
  obtain⟨p1,p2⟩:=UL.mp h;unfold Dt
  split
  ·rename_i c;refine UL.mpr ⟨λy m=>?_,Ig p2 λy m=>hn y (by simp[m])⟩;obtain rfl|m:=sF.mp m
   ·exact c
   ·exact p1 y m
  ·rename_i c;have:=hn x (by simp);refine UL.mpr ⟨λy m=>?_,h⟩;obtain rfl|m:=SU.mp m
   ·grind
   ·have:=p1 y m;grind
theorem qD(hs:bL s)(hn:Kv xs)(h:Vi xs):Kv (i5 xs s)/\Vi (i5 xs s)/\(∀y,y∈i5 xs s↔y=s\/y∈xs)/\(i5 xs s).length<=xs.length+1:=by
 unfold i5
 split
 ·rename_i m;exact⟨hn,h,λy=>⟨.inr,λk=>k.elim (λe=>by rw[e];exact m) id⟩,⋯⟩
 ·rename_i m;refine⟨?_,?_,?_,?_⟩
  ·rw[Du hs hn h];intro y k;obtain rfl|k:=sF.mp k
   ·exact hs
   ·exact hn y k
  ·rw[Du hs hn h];exact Ig h λx mx e=>m (by rw[<-gT (hn x mx) hs e];exact mx)
  ·rw[Du hs hn h];exactλy=>sF
  ·simp only[TC,TB,UP,WL];lia
def pI(s:Fr):Bool:=decide (0<s.1)&&decide ((aQ s (1,1)).1<0)
def Ex(kr:List Fr):List Fr:=((0,1)::(1,1)::kr.filter pI).foldl i5 []
theorem nE:∀(ss xs:List Fr),Kv ss->Kv xs->Vi xs->Kv (ss.foldl i5 xs)/\Vi (ss.foldl i5 xs)/\(∀y,y∈ss.foldl i5 xs↔y∈ss\/y∈xs)/\(ss.foldl i5 xs).length<=xs.length+ss.length
 |[],xs,_,hn,h=>⟨hn,h,λy=>by simp,by simp⟩
 |s::ss,xs,hs,hn,h=>by
  obtain⟨a,b,c,d⟩:=qD (hs s (by simp)) hn h;obtain⟨a',b',c',d'⟩:=nE ss (i5 xs s) (λf m=>hs f (by simp[m])) a b;refine⟨a',b',λy=>?_,by rw[VN,TB];lia⟩;rw[VN,c',c,SU];grind
theorem AZ(h:bL s):pI s=true↔0<val s/\val s<1:=by
 unfold pI;rw[UU,decide_eq_true_eq,decide_eq_true_eq,<-oP h,<-uM (aR h (bX 1)),bK h (bX 1),gN];grind
structure Vs(kr C:List Fr):Prop where
 n:Kv C
 s:Vi C
 z:(0,1)∈C
 o:(1,1)∈C
 b:∀c∈C,0<=val c/\val c<=1
 m:∀c∈kr,0<val c->val c<1->c∈C
 k:∀c∈C,c=(0,1)\/c=(1,1)\/c∈kr
 l:C.length<=kr.length+2
theorem Ey(h:Kv kr):Vs kr (Ex kr):=by
 have hn:Kv ((0,1)::(1,1)::kr.filter pI):=λf m=>by
  obtain rfl|m:=SU.mp m
  ·exact bX 0
  ·obtain rfl|m:=SU.mp m
   ·exact bX 1
   ·exact h f (TL.mp m).1
 obtain⟨a,b,c,d⟩:=nE _ [] hn (λf m=>absurd m (by simp)) List.Pairwise.nil;have mem:∀y,y∈Ex kr↔y=(0,1)\/y=(1,1)\/(y∈kr/\pI y=true):=λy=>by
  unfold Ex;rw[c];simp[TL]
 refine⟨a,b,(mem _).mpr (.inl rfl),(mem _).mpr (.inr (.inl rfl)),λy m=>?_,λy m k1 k2=>?_,λy m=>?_,?_⟩
 ·rcases(mem y).mp m with rfl|rfl|⟨m,k⟩
  ·rw[dX];exact⟨by grind,by grind⟩
  ·rw[gN];exact⟨by grind,by grind⟩
  ·have:=(AZ (h y m)).mp k;exact⟨by grind,by grind⟩
 ·exact(mem y).mpr (.inr (.inr ⟨m,(AZ (h y m)).mpr ⟨k1,k2⟩⟩))
 ·rcases(mem y).mp m with e|e|⟨m,k⟩
  ·exact .inl e
  ·exact .inr (.inl e)
  ·exact .inr (.inr m)
 ·have:=VV pI kr;unfold Ex;simp only[TB,UR]at d
  lia
def dP(p q:Pt):Pt:=(aQ p.1 q.1,aQ p.2 q.2)
def jR(u v:Pt):Fr:=eR u.1 u.2 v.1 v.2
def vW(u v:Pt):Fr:=zH u.1 u.2 v.1 v.2
def sO(x y:Fr):Fr:=kB x (low y.2 y.1)
theorem eT(h:NP p)(k:NP q):NP (dP p q):=⟨aR h.x k.x,aR h.y k.y⟩
theorem cC(h:NP p)(k:NP q):vq (dP p q)=aK (vq p) (vq q):=by
 unfold vq dP aK;rw[bK h.x k.x,bK h.y k.y]
theorem gX(h:NP u)(k:NP v):bL (jR u v):=aR (aW h.x k.y) (aW h.y k.x)
theorem nL(h:NP u)(k:NP v):bL (vW u v):=eC (aW h.x k.x) (aW h.y k.y)
theorem pS(h:NP u)(k:NP v):val (jR u v)=aT (vq u) (vq v):=by
 unfold jR eR aT vq;rw[bK (aW h.x k.y) (aW h.y k.x),fD h.x k.y,fD h.y k.x]
theorem Gv(h:NP u)(k:NP v):val (vW u v)=aN (vq u) (vq v):=by
 unfold vW zH aN vq;rw[jH (aW h.x k.x) (aW h.y k.y),fD h.x k.x,fD h.y k.y]
theorem lN(h:bL p):p.1=0↔val p=0:=by
 have a:=uM h;have b:=oP h;constructor
 ·intro z;have:=mt a.mp ⋯;have:=mt b.mp ⋯;grind
 ·intro z;have:=mt a.mpr (by grind);have:=mt b.mpr (by grind)
  lia
theorem u7(h:bL x)(z:y.1≠0):bL (sO x y):=aW h (iG z)
theorem Nr(h:bL x)(k:bL y)(z:y.1≠0):val (sO x y)*val y=val x:=by
 unfold sO;rw[fD h (iG z),mO z];have d:=k.neR;have n:(y.1:Rat)≠0:=by exact_mod_cast z
 unfold val;grind
def jX(a b c d:Pt):List Fr:=
 if(jR (dP b a) (dP d c)).1≠0 then
  if 0<=(sO (jR (dP c a) (dP b a)) (jR (dP b a) (dP d c))).1/\(aQ (sO (jR (dP c a) (dP b a)) (jR (dP b a) (dP d c))) (1,1)).1<=0 then[sO (jR (dP c a) (dP d c)) (jR (dP b a) (dP d c))]else[]
 else if(jR (dP b a) (dP c a)).1≠0 then[]
 else[sO (vW (dP b a) (dP c a)) (vW (dP b a) (dP b a)),sO (vW (dP b a) (dP d a)) (vW (dP b a) (dP b a))]
theorem P4(ha:NP a)(hb:NP b)(hc:NP c)(hd:NP d)(ne:0<aN (aK (vq b) (vq a)) (aK (vq b) (vq a))):Kv (jX a b c d):=by
 have n1:=eT hb ha;have n2:=eT hd hc;have n3:=eT hc ha;have n4:=eT hd ha;intro f m;unfold jX at m;split at m
 ·rename_i z;split at m
  ·rw[TM]at m;rw[m];exact u7 (gX n3 n2) z
  ·simp at m
 ·split at m
  ·simp at m
  ·have z:(vW (dP b a) (dP b a)).1≠0:=λz=>by
    have:=(lN (nL n1 n1)).mp z;rw[Gv n1 n1,cC hb ha]at this;grind
   obtain rfl|m:=SU.mp m
   ·exact u7 (nL n1 n3) z
   ·rw[TM]at m;rw[m];exact u7 (nL n1 n4) z
theorem Eb(a b c d:Pt):(jX a b c d).length<=2:=by
 unfold jX
 split
 ·split<;>simp
 ·split<;>simp
theorem EG(ha:NP a)(hb:NP b)(hc:NP c)(hd:NP d){t:Rat}(o:QZ (vq c,vq d) (cL (vq a) (vq b) t))(ne:0<aN (aH (vq c,vq d)) (aH (vq c,vq d)))(nz:fE (vq c,vq d) (vq a)≠fE (vq c,vq d) (vq b)):∃s∈jX a b c d,val s=t:=by
 have n1:=eT hb ha;have n2:=eT hd hc;have n3:=eT hc ha;have B:=pS n1 n2;rw[cC hb ha,cC hd hc]at B;have S:=pS n3 n2;rw[cC hc ha,cC hd hc]at S;have R:=pS n3 n1;rw[cC hc ha,cC hb ha]at R;have bz:(jR (dP b a) (dP d c)).1≠0:=λz=>by
  have:=(lN (gX n1 n2)).mp z;rw[B]at this;apply nz;have e:aT (aK (vq b) (vq a)) (aK (vq d) (vq c))=fE (vq c,vq d) (vq a)-fE (vq c,vq d) (vq b):=by unfold fE aT aH aK;grind
  rw[e]at this;grind
 have bz':aT (aK (vq b) (vq a)) (aK (vq d) (vq c))≠0:=λz=>bz ((lN (gX n1 n2)).mpr (by rw[B];exact z));have vS:=Nr (gX n3 n2) (gX n1 n2) bz;have vR:=Nr (gX n3 n1) (gX n1 n2) bz;rw[B,S]at vS;rw[B,R]at vR;have nR:=u7 (gX n3 n1) bz;unfold jX;rw[oV bz];generalize sO (jR (dP c a) (dP d c)) (jR (dP b a) (dP d c))=s at *;generalize sO (jR (dP c a) (dP b a)) (jR (dP b a) (dP d c))=r at *;have oz:=o.z;have oa:=o.a;have ob:=o.b
 -- the share
 have es:val s=t:=by
  have e1:aT (aK (vq c) (vq a)) (aK (vq d) (vq c))=t*aT (aK (vq b) (vq a)) (aK (vq d) (vq c)):=by
   have:fE (vq c,vq d) (cL (vq a) (vq b) t)=aT (aK (vq c) (vq a)) (aK (vq d) (vq c))-t*aT (aK (vq b) (vq a)) (aK (vq d) (vq c)):=by unfold fE aT aH aK cL;grind
   rw[oz]at this;grind
  rw[e1]at vS;have:(val s-t)*aT (aK (vq b) (vq a)) (aK (vq d) (vq c))=0:=by grind
  have:=(Rat.mul_eq_zero.mp this).resolve_right bz';grind
 -- how far along the wb
 have er:val r*aN (aH (vq c,vq d)) (aH (vq c,vq d))=aN (aH (vq c,vq d)) (aK (cL (vq a) (vq b) t) (vq c)):=by
  obtain⟨q1,q2⟩:=par ne (show aT (aH (vq c,vq d)) (aK (cL (vq a) (vq b) t) (vq c))=0 from oz);generalize hW:aN (aH (vq c,vq d)) (aH (vq c,vq d))=W at *;generalize hD:aN (aH (vq c,vq d)) (aK (cL (vq a) (vq b) t) (vq c))=D at *;have x1:((vq a).1+((vq b).1-(vq a).1)*t-(vq c).1)*W=D*((vq d).1-(vq c).1):=q1;have x2:((vq a).2+((vq b).2-(vq a).2)*t-(vq c).2)*W=D*((vq d).2-(vq c).2):=q2;have e2:aT (aK (vq c) (vq a)) (aK (vq b) (vq a))*W=D*aT (aK (vq b) (vq a)) (aK (vq d) (vq c)):=by
   unfold aT aK;simp only;grind
  have:(val r*W-D)*aT (aK (vq b) (vq a)) (aK (vq d) (vq c))=0:=by grind
  have:=(Rat.mul_eq_zero.mp this).resolve_right bz';grind
 have r0:0<=val r:=by
  refine bR ne ?_;rw[er];exact oa
 have r1:val r<=1:=by
  have:0<=(1-val r)*aN (aH (vq c,vq d)) (aH (vq c,vq d)):=by
   have:(1-val r)*aN (aH (vq c,vq d)) (aH (vq c,vq d))=aN (aH (vq c,vq d)) (aK (vq d) (cL (vq a) (vq b) t)):=by
    have:aN (aH (vq c,vq d)) (aK (vq d) (cL (vq a) (vq b) t))=aN (aH (vq c,vq d)) (aH (vq c,vq d))-aN (aH (vq c,vq d)) (aK (cL (vq a) (vq b) t) (vq c)):=by unfold aN aH aK;grind
    rw[this,<-er];grind
   rw[this];exact ob
  have:=bR ne this;grind
 rw[oV ⟨(qW nR).mp r0,(J7 (aR nR (bX 1))).mp (by rw[bK nR (bX 1),gN];grind)⟩];exact⟨s,by simp,es⟩
def zP:Pt:=((0,1),(0,1))
def ej(o:List Pt):List (Pt×Pt):=(VF o.length).map λj=>(o.getD ((j+o.length-1)%o.length) zP,o.getD j zP)
theorem HQ(h:x∈zr o):∃k,k<o.length/\o[k]?=oZ x.1/\o[(k+1)%o.length]?=oZ x.2:=by
 obtain⟨k,hk⟩:=VI h;unfold zr at hk;rw[af]at hk;obtain⟨h1,h2⟩:=hk;have hl:k<o.length:=(SW.mp h1).1;refine⟨k,hl,h1,?_⟩;unfold sV at h2
 by_cases c:k+1<o.length
 ·rw[VJ c];rw[UE (by rw[WI];omega),List.getElem?_tail]at h2;exact h2
 ·have e:k+1=o.length:=by omega
  rw[e,ZF];rw[VG (by rw[WI];omega),WI,show k-(o.length-1)=0 by omega]at h2;cases o with
  |nil=>simp at hl
  |cons p o=>simpa using h2
theorem Sl(h:x∈zr o):x∈ej o:=by
 obtain⟨k,hl,h1,h2⟩:=HQ h;refine SS.mpr ⟨(k+1)%o.length,VL.mpr (XA _ ⋯),?_⟩;have e:((k+1)%o.length+o.length-1)%o.length=k:=by
  by_cases c:k+1<o.length
  ·rw[VJ c,show k+1+o.length-1=k+o.length by lia,XT,VJ hl]
  ·have e:k+1=o.length:=⋯
   rw[e,ZF,show 0+o.length-1=k by lia,VJ hl]
 rw[e];refine Prod.ext ?_ ?_
 ·show o.getD k zP=x.1;rw[TV,h1];rfl
 ·show o.getD ((k+1)%o.length) zP=x.2;rw[TV,h2];rfl
theorem CZ(h:x∈ej o):x.1∈o/\x.2∈o:=by
 obtain⟨j,hj,rfl⟩:=SS.mp h;have hj:=VL.mp hj;have k:∀i,i<o.length->o.getD i zP∈o:=λi hi=>by
  rw[TV,SX hi];exact WA hi
 exact⟨k _ (XA _ ⋯),k _ hj⟩
def Gf(a b:Pt)(o:List Pt):List Fr:=(ej o).flatMap λx=>jX a b x.1 x.2
section
variable{P:da}{w:dk}{K:W.Frag}{mg:Str->Option oA}{base:oE}
abbrev k9(P w K mg base):=(~~~Fn) 1 "_law_frac" ["_law_n","_law_d"] (aU K X9)
abbrev Fs:dh:=top 45
theorem sX:aI ["_law_n","_law_d","_law_one","_law_other"] ["_law_n","_law_d"] (aC Fs):=iQ
theorem Zf(F:eO K "_law_frac" "_law_frac" Fs f fd)(TX:Txt mg):(~~~bG) fJ 1 f fd ["_law_n","_law_d"] (aU K X9):=by
 refine F.okU sX (λhr=>(aB (gJ (i:=2) (j:=3) rfl sX.nd rfl rfl ∅ rfl rfl (f2 (tT rfl TX.n_abs (f1 (fv 0))) (tT rfl TX.n_abs (f1 (fv 1)))) rfl) (aB (xO PassesOwn.never (fP sN (fv 3) aA) (aE (gJ (i:=2) (j:=3) rfl sX.nd rfl rfl ∅ rfl rfl (f2 (fv 3) (aM lX (fv 2) (fv 3))) rfl))) (aB (fS 2 sX.nd (aM aS (fv 2) (r8 (fP sN (fv 1) aA) aA (xI aA)))) (aE (aP (aO (f2 (aM dW (fv 0) (fv 2)) (aM dW (fv 1) (fv 2)))))))))) ?_;rintro as Q ⟨n,d,rfl,hd,hb,q⟩;refine⟨λm E=>∃(x y:Nat),E=[↑n,↑d,↑x,↑y]/\m=y/\VB x y=VB n.natAbs d.natAbs,⟨_,_,_,rfl,rfl,rfl⟩,?_⟩;rintro m E ⟨x,y,rfl,rfl,hg⟩;show if decide ((0:Int)<(m:Int))=true then _ else _
 by_cases hy:(0:Int)<(m:Int)
 ·rw[oY hy,oV rfl];exact⟨hy,x%m,XA _ ⋯,m,x%m,rfl,rfl,by rw[Ie];exact hg⟩
 ·rw[oX hy,oW ∅];obtain rfl:m=0:=⋯
  rw[Nat.gcd_zero_right]at hg;subst hg;have dn:((VB n.natAbs d.natAbs:Nat):Int)∣n:=VD.mpr (WO _ _);have dd:((VB n.natAbs d.natAbs:Nat):Int)∣d:=VD.mpr (WQ _ _);have g0:((VB n.natAbs d.natAbs:Nat):Int)≠0:=(rT (i:=0) (n:=n) hd hb).1;have Dm:∀{g m:Int},g≠0->g∣m->m.fdiv (-g)=(-m)/g:=λ{g m}h0 hm=>by
   obtain⟨k,rfl⟩:=hm;have e1:g*k=(-g)*(-k):=by grind
   have e2:-(g*k)=g*(-k):=by grind
   rw[e2,WG _ h0,e1,aq _ ⋯]
  show if decide (0<d)=true then _ else _
  by_cases h:0<d
  ·rw[oY h,oV rfl];have e1:((VB n.natAbs d.natAbs:Nat):Int)*1=((VB n.natAbs d.natAbs:Nat):Int):=Int.mul_one _;refine⟨zN ∅,?_⟩;rw[e1];refine⟨rT hd hb,rT hd hb,rfl,?_⟩;unfold low vK pH at q;rw[oV h,oV h,<-rZ,<-rZ]at q;exact q
  ·rw[oX h,oW ∅];have e1:((VB n.natAbs d.natAbs:Nat):Int) * -1 = -((VB n.natAbs d.natAbs:Nat):Int):=⋯
   refine⟨zN ∅,?_⟩;rw[e1];have cz:∀i:Int,uP i (-((VB n.natAbs d.natAbs:Nat):Int)):=λi=>⟨⋯,by rw[XB];exact(rT (i:=i) (n:=n) hd hb).2⟩;refine⟨cz _,cz _,rfl,?_⟩;unfold low vK pH at q;rw[oW h,oW h,<-Dm g0 dn,<-Dm g0 dd]at q;exact q
abbrev rF(P w K mg base):=(~~~Fn) 2 "_law_sum" oG (aU K (vN fM))
abbrev Mx:dh:=top 46
theorem X0:aI oG oG (aC Mx):=iQ
theorem R4(F:eO K "_law_sum" "_law_sum" Mx f fd)(TX:Txt mg)(lp: ~~~k9):(~~~bG) fJ 2 f fd oG (aU K (vN fM)):=by
 refine F.okU X0 (λhr=>(aE (aP (fK lp (f2 (aY cQ (aM aS (fQ 0) (fQ 1)) (aM aS (fQ 1) (fQ 0))) (aM aS (fQ 0) (fQ 1))))))) ?_;rintro as Q ⟨x,y,rfl,hx,hy,hs,q⟩;have hd:(x.2*y.2).natAbs<2^8000:=qG (bM (b9 x) (b9 y)) ⋯;exact⟨fN (e:=7900) (pl (fZ x) ⋯) (pl (b9 y) ⋯) ∅,fN (e:=7900) (pl (fZ y) ⋯) (pl (b9 x) ⋯) ∅,fN (e:=7900) (pl (b9 x) ⋯) (pl (b9 y) ⋯) ∅,_,_,rfl,gW hx hy,hd,rfl,q⟩
abbrev gM(P w K mg base):=(~~~Fn) 2 "_law_less" oG (aU K (vN aQ))
abbrev Fu:dh:=top 48
theorem E8:aI oG oG (aC Fu):=iQ
theorem Zh(F:eO K "_law_less" "_law_less" Fu f fd)(TX:Txt mg)(lp: ~~~k9):(~~~bG) fJ 2 f fd oG (aU K (vN aQ)):=by
 refine F.okU E8 (λhr=>(aE (aP (fK lp (f2 (aY i8 (aM aS (fQ 0) (fQ 1)) (aM aS (fQ 1) (fQ 0))) (aM aS (fQ 0) (fQ 1))))))) ?_;rintro as Q ⟨x,y,rfl,hx,hy,hs,q⟩;have hd:(x.2*y.2).natAbs<2^8000:=qG (bM (b9 x) (b9 y)) ⋯;exact⟨fN (e:=7900) (pl (fZ x) ⋯) (pl (b9 y) ⋯) ∅,fN (e:=7900) (pl (fZ y) ⋯) (pl (b9 x) ⋯) ∅,fN (e:=7900) (pl (b9 x) ⋯) (pl (b9 y) ⋯) ∅,_,_,rfl,gW hx hy,hd,rfl,q⟩
abbrev g9(P w K mg base):=(~~~Fn) 2 "_law_product" oG (aU K (vN kB))
abbrev qM:dh:=top 47
theorem Jq:aI oG oG (aC qM):=iQ
theorem Jb(F:eO K "_law_product" "_law_product" qM f fd)(TX:Txt mg)(lp: ~~~k9):(~~~bG) fJ 2 f fd oG (aU K (vN kB)):=by
 refine F.okU Jq (λhr=>(aE (aP (fK lp (f2 (aM aS (fQ 0) (fQ 1)) (aM aS (fQ 0) (fQ 1))))))) ?_;rintro as Q ⟨x,y,rfl,hx,hy,hs,q⟩;have hd:(x.2*y.2).natAbs<2^8000:=qG (bM (b9 x) (b9 y)) ⋯;exact⟨fN (e:=7900) (pl (fZ x) ⋯) (pl (fZ y) ⋯) ∅,fN (e:=7900) (pl (b9 x) ⋯) (pl (b9 y) ⋯) ∅,_,_,rfl,gW hx hy,hd,rfl,q⟩
abbrev vO(P w K mg base):=(~~~Fn) 3 "_law_add" oG (aU K Sa)
abbrev Ms:dh:=top 49
theorem W7:aI oG oG (aC Ms):=iQ
theorem Q8(F:eO K "_law_add" "_law_add" Ms f fd)(TX:Txt mg)(oh: ~~~rF):(~~~bG) fJ 3 f fd oG (aU K Sa):=by
 refine F.okU W7 (λhr=>(aE (aP (aO (f2 (fK oh (f2 (fQ 0) (fQ 1))) (fK oh (f2 (fQ 0) (fQ 1)))))))) ?_;rintro as Q ⟨x,y,p,q,e,f,rfl,h,k,hs,z⟩;have:=h.sx;have:=h.sy;have:=k.sx;have:=k.sy;exact⟨_,_,rfl,h.x,k.x,⋯,_,_,rfl,h.y,k.y,⋯,rfl,z⟩
abbrev vP(P w K mg base):=(~~~Fn) 3 "_law_sub" oG (aU K Gp)
abbrev Mw:dh:=top 50
theorem W9:aI oG oG (aC Mw):=iQ
theorem R3(F:eO K "_law_sub" "_law_sub" Mw f fd)(TX:Txt mg)(kd: ~~~gM):(~~~bG) fJ 3 f fd oG (aU K Gp):=by
 refine F.okU W9 (λhr=>(aE (aP (aO (f2 (fK kd (f2 (fQ 0) (fQ 1))) (fK kd (f2 (fQ 0) (fQ 1)))))))) ?_;rintro as Q ⟨x,y,p,q,e,f,rfl,h,k,hs,z⟩;have:=h.sx;have:=h.sy;have:=k.sx;have:=k.sy;exact⟨_,_,rfl,h.x,k.x,⋯,_,_,rfl,h.y,k.y,⋯,rfl,z⟩
abbrev kP(P w K mg base):=(~~~Fn) 3 "_law_scaled_by" ["_law_vector","_law_share"] (aU K wJ)
abbrev mF:dh:=top 51
theorem zV:aI ["_law_vector","_law_share"] ["_law_vector","_law_share"] (aC mF):=iQ
theorem zS(F:eO K "_law_scaled_by" "_law_scaled_by" mF f fd)(TX:Txt mg)(kf: ~~~g9):(~~~bG) fJ 3 f fd ["_law_vector","_law_share"] (aU K wJ):=by
 refine F.okU zV (λhr=>(aE (aP (aO (f2 (fK kf (f2 (fQ 0) (fv 1))) (fK kf (f2 (fQ 0) (fv 1)))))))) ?_;rintro as Q ⟨x,y,b,e,rfl,h,hb,hs,q⟩;have:=h.sx;have:=h.sy;exact⟨_,_,rfl,h.x,hb,⋯,_,_,rfl,h.y,hb,⋯,rfl,q⟩
abbrev z7(P w K mg base):=(~~~Fn) 3 "_law_cross" oG (aU K (HX eR))
abbrev yH:dh:=top 52
theorem Uw:aI oG oG (aC yH):=iQ
theorem Ui(F:eO K "_law_cross" "_law_cross" yH f fd)(TX:Txt mg)(kd: ~~~gM)(kf: ~~~g9):(~~~bG) fJ 3 f fd oG (aU K (HX eR)):=by
 refine F.okU Uw (λhr=>(aE (aP (fK kd (f2 (fK kf (f2 (fQ 0) (fQ 1))) (fK kf (f2 (fQ 0) (fQ 1)))))))) ?_;rintro as Q ⟨x,y,x',y',e,f,rfl,h,k,he,q⟩;have:=h.sx;have:=h.sy;have:=k.sx;have:=k.sy;have n1:=aW h.x k.y;have n2:=aW h.y k.x;have s1:=fT h.x k.y;have s2:=fT h.y k.x;exact⟨_,_,rfl,h.x,k.y,⋯,_,_,rfl,h.y,k.x,⋯,_,_,rfl,n1,n2,⋯,rfl,q⟩
abbrev Nx(P w K mg base):=(~~~Fn) 3 "_law_dot" oG (aU K (HX zH))
abbrev Mt:dh:=top 53
theorem W8:aI oG oG (aC Mt):=iQ
theorem Q9(F:eO K "_law_dot" "_law_dot" Mt f fd)(TX:Txt mg)(oh: ~~~rF)(kf: ~~~g9):(~~~bG) fJ 3 f fd oG (aU K (HX zH)):=by
 refine F.okU W8 (λhr=>(aE (aP (fK oh (f2 (fK kf (f2 (fQ 0) (fQ 1))) (fK kf (f2 (fQ 0) (fQ 1)))))))) ?_;rintro as Q ⟨x,y,x',y',e,f,rfl,h,k,he,q⟩;have:=h.sx;have:=h.sy;have:=k.sx;have:=k.sy;have n1:=aW h.x k.x;have n2:=aW h.y k.y;have s1:=fT h.x k.x;have s2:=fT h.y k.y;exact⟨_,_,rfl,h.x,k.x,⋯,_,_,rfl,h.y,k.y,⋯,_,_,rfl,n1,n2,⋯,rfl,q⟩
def hf(n:Int):Fr:=low n 2
theorem mZ(n:Int):bL (hf n):=iG ∅
theorem tY(n:Int):val (hf n)=(n:Rat)*(1/2):=by
 unfold hf;rw[mO ∅]
 push_cast
 grind
theorem Xx{n:Int}(h:n.natAbs<2^e)(he:2<=e):sz (hf n)<=e:=qV ∅ h (UB (show(2:Int).natAbs<2^2 by decide) (WH ∅ he)) ⋯
theorem Xu(n a:Int):fM (hf n) (a,1)=hf (n+2*a):=by
 refine gT (eC (mZ n) (bX a)) (mZ _) ?_;rw[jH (mZ n) (bX a),tY,tY,tK]
 push_cast
 grind
def Se:iU:=λas Q=>∃(xs:List L2.T)(w n:Int),as=[.b xs,.v (.int w)]/\Bx xs n/\n<=900000/\1<=w/\w<=10/\∀X Y ys,-(2*w)<=X->X<2*w->-(2*w)<=Y->Y<2*w->Bx ys (n+2)->Q (.v (pt (hf X,hf Y))) ys
abbrev uS(P w K mg base):=(~~~Fn) 2 "_law_spot_at" oI (aU K Se)
abbrev qO:dh:=top 55
theorem Jr:aI oI oI (aC qO):=iQ
theorem Jd(F:eO K "_law_spot_at" "_law_spot_at" qO f fd)(TX:Txt mg)(lh: ~~~rH)(lp: ~~~k9):(~~~bG) fJ 2 f fd oI (aU K Se):=by
 refine F.okU Jr (λhr=>(aE (aP (aO (f2 (fK lp (f2 (aY i8 (fB lh (f2 (fv 0) (aM aS aA (fv 1)))) (aM aS aA (fv 1))) aA)) (fK lp (f2 (aY i8 (fB lh (f2 (fv 0) (aM aS aA (fv 1)))) (aM aS aA (fv 1))) aA))))))) ?_;rintro as Q ⟨xs,w,n,rfl,bx,hn,w1,w2,q⟩;obtain⟨A0,B0,c0,rfl,_⟩:=id bx;refine⟨zM ∅,_,4*w,n,rfl,bx,⋯,⋯,⋯,λr1 y1 a1 a2 b1=>?_⟩;obtain⟨A1,B1,c1,rfl,_⟩:=id b1;refine⟨zM ∅,_,_,rfl,∅,∅,?_⟩;refine⟨zM ∅,_,4*w,n+1,rfl,b1,⋯,⋯,⋯,λr2 y2 a3 a4 b2=>?_⟩;obtain⟨A2,B2,c2,rfl,_⟩:=id b2;refine⟨zM ∅,_,_,rfl,∅,∅,?_⟩;exact⟨rfl,q (r1-2*w) (r2-2*w) _ ⋯ ⋯ ⋯ ⋯ (b2.mono ⋯)⟩
def gL(x y:Int):Nat->List (Int×Int)
 |0=>[(0,0),(x,0),(x,y),(0,y)]
 |1=>[(0,0),(x,1),(x+1,y+2),(1,y+1)]
 |2=>[(0,0),(x,0),(0,y)]
 |3=>[(0,0),(x,0),(x+1,0),(x+1,y),(0,y)]
 |_=>[(1,0),(x+1,0),(x+2,1),(x+2,y+1),(x+1,y+2),(0,1)]
def gY(X Y:Int)(cs:List (Int×Int)):List Pt:=cs.map λc=>(hf (X+2*c.1),hf (Y+2*c.2))
structure NW(m:Str)(n:Nat):Prop where
 len:m.cps.size=n
 all:∀c∈m.cps.toList,c∈("lrbe-":Str).cps.toList
structure LB(M:Int)(b:eJ):Prop where
 ex:∃(w:Nat)(x y X Y:Int),w<5/\1<=x/\x<=6/\1<=y/\y<=6/\X.natAbs<=M/\Y.natAbs<=M/\b.o=gY X Y (gL x y w)
 m:NW b.m b.o.length
 w:(b.w.length<=9000/\∀c∈b.w.cps.toList,c<16^8)/\b.n.natAbs<=100
theorem Rc{x y:Int}(hx:1<=x)(hx':x<=6)(hy:1<=y)(hy':y<=6)(w:Nat):∀c∈gL x y w,0<=c.1/\c.1<=8/\0<=c.2/\c.2<=8:=by
 intro c m
 match w with
 |0|1|2|3|_+4=>
  simp only[gL,SU,WU,or_false,Prod.ext_iff]at m
  lia
theorem Ge(x y:Int)(w:Nat):3<=(gL x y w).length/\(gL x y w).length<=6:=by
 match w with
 |0|1|2|3|_+4=>simp only[gL,TB,UR];lia
def GD(c:Int×Int):L2.T:=.tup [.int c.1,.int c.2]
def PN(x y:Int):List L2.T:=[L2.T.lst ((gL x y 0).map GD),.lst ((gL x y 1).map GD),.lst ((gL x y 2).map GD),.lst ((gL x y 3).map GD),.lst ((gL x y 4).map GD)]
theorem JW{r:Int}(h:0<=r)(k:r<5):∃c∈("lrbe-":Str).cps.toList,k8 ("lrbe-":Str).cps.toList r=oZ c:=by
 have:r=0\/r=1\/r=2\/r=3\/r=4:=⋯
 obtain rfl|rfl|rfl|rfl|rfl:=this
 ·exact⟨_,∅,rfl⟩
 ·exact⟨_,∅,rfl⟩
 ·exact⟨_,∅,rfl⟩
 ·exact⟨_,∅,rfl⟩
 ·exact⟨_,∅,rfl⟩
theorem Bk{X Y:Int}(h:X.natAbs<2^15)(k:Y.natAbs<2^15):Nv (hf X) (hf Y) 15:=⟨mZ _,mZ _,Xx h ∅,Xx k ∅⟩
theorem Yy{a b:Int}(h:a.natAbs<2^15)(k:b.natAbs<2^15):Nv (a,1) (b,1) 15:=⟨bX _,bX _,n9 h (show(1:Int).natAbs<2^15 by decide) ∅,n9 k (show(1:Int).natAbs<2^15 by decide) ∅⟩
def zU(cs:List Nat):List Str:=cs.map λc=>⟨#[c]⟩
theorem EF:∀cs:List Nat,cs.length=6->JoinOk (XW "") (zU cs)=true/\∃m:Str,Txt.join (XW "") (zU cs)=m/\m.length<=big/\∀n:Nat,3<=n->n<=6->(YH m none (oZ (n:Int))).cps.toList=cs.take n
 |[a,b,c,d,e,f],_=>by
  refine⟨rfl,⟨#[a,b,c,d,e,f]⟩,rfl,(show 6<=big by decide),λn h1 h2=>?_⟩;have:n=3\/n=4\/n=5\/n=6:=⋯
  obtain rfl|rfl|rfl|rfl:=this
  ·rfl
  ·rfl
  ·rfl
  ·rfl
def Rw:iU:=λas Q=>∃(xs:List L2.T)(n:Int),as=[.b xs,.v (.int 3)]/\Bx xs n/\n<=800000/\∀b ys,LB 6 b->Bx ys (n+13)->Q (.v (cU b)) ys
abbrev z8(P w K mg base):=(~~~Fn) 4 "_law_shape" oI (aU K Rw)
abbrev yI:dh:=top 56
theorem jD:aI ["_law_box_here","_law_wide","_law_some","_law_spots","_law_way","_law_x","_law_y","_law_at","_law_marks","_law_word","_law_number"] oI (aC yI):=iQ
theorem Uj(F:eO K "_law_shape" "_law_shape" yI f fd)(TX:Txt mg)(lh: ~~~rH)(rm: ~~~uS)(qr: ~~~vO):(~~~bG) fJ 4 f fd oI (aU K Rw):=by
 refine F.okU jD (λhr=>(aB (Pm (i:=4) (j:=5) (k:=6) rfl jD.nd rfl rfl rfl ∅ ∅ ∅ rfl rfl rfl (f3 (fB lh (f2 (fv 0) aA)) (aY cQ aA (fB lh (f2 (fv 0) aA))) (aY cQ aA (fB lh (f2 (fv 0) aA)))) rfl) (aB (kS (aO (f2 (fB rm (f2 (fv 0) (fv 1))) (N8 rfl kR (f1 (jW (N':=["_law_k","_law_box_here"]) (t:=1) (cap:=[(0,true)]) rfl (bI.of rfl) rfl ∅ (iY rfl TX.n_range (f1 aA)) (λ_ _ _ _=>(fH 0)) (λ_ _ _ _=>(DF rfl kR (fB lh (f2 (fv 1) aA)) (λ_ _=>rfl)))))))) (cM (n:=2) rfl rfl (aF (fG 7 jD.nd) (aF (fG 8 jD.nd) bS)))) (aB (fS 2 jD.nd (N9 (f2 (cH (f4 (aO (f2 aA aA)) (aO (f2 (fv 5) aA)) (aO (f2 (fv 5) (fv 6))) (aO (f2 aA (fv 6))))) (cH (f4 (aO (f2 aA aA)) (aO (f2 (fv 5) aA)) (aO (f2 (aY cQ (fv 5) aA) (aY cQ (fv 6) aA))) (aO (f2 aA (aY cQ (fv 6) aA)))))))) (aB (e7 (qC rfl (fv 2) (f1 (cH (f3 (aO (f2 aA aA)) (aO (f2 (fv 5) aA)) (aO (f2 aA (fv 6)))))))) (aB (e7 (qC rfl (fv 2) (f1 (cH (fc (aO (f2 aA aA)) (f4 (aO (f2 (fv 5) aA)) (aO (f2 (aY cQ (fv 5) aA) aA)) (aO (f2 (aY cQ (fv 5) aA) (fv 6))) (aO (f2 aA (fv 6))))))))) (aB (e7 (qC rfl (fv 2) (f1 (cH (fc (aO (f2 aA aA)) (fc (aO (f2 (aY cQ (fv 5) aA) aA)) (f4 (aO (f2 (aY cQ (fv 5) aA) aA)) (aO (f2 (aY cQ (fv 5) aA) (aY cQ (fv 6) aA))) (aO (f2 (aY cQ (fv 5) aA) (aY cQ (fv 6) aA))) (aO (f2 aA aA))))))))) (aB (fS 3 jD.nd (xJ rfl rfl TX.n_tuple (f1 (jW (N':=["_law_a","_law_b","_law_at"]) (t:=2) (cap:=[(7,false)]) rfl (bI.of rfl) rfl ∅ (cS rfl (fX (fv 2) (fv 4))) (λ_ _ _ _=>(cM (n:=2) rfl rfl (aF (fH 0) (aF (fH 1) bS)))) (λ_ _ _ _=>(fK qr (f2 (fv 2) (aO (f2 (aO (f2 (fv 0) aA)) (aO (f2 (fv 1) aA))))))))))) (aB (gJ (i:=9) (j:=10) rfl jD.nd rfl rfl ∅ rfl rfl (f2 (fX (cH (f4 kR kR kR kR)) (fB lh (f2 (fv 0) aA))) (fB lh (f2 (fv 0) aA))) rfl) (aE (aP (aO (f4 (fv 9) (fv 10) (fv 3) (Tr (fv 8) jG (d9 (gH rfl rfl TX.n_len (f1 (fv 3)))))))))))))))))) ?_;rintro as Q ⟨xs,n,rfl,bx,hn,q⟩;obtain⟨A0,B0,c0,rfl,_⟩:=id bx;refine⟨_,5,n,rfl,bx,⋯,∅,∅,λr1 y1 a1 a2 b1=>?_⟩;obtain⟨A1,B1,c1,rfl,_⟩:=id b1;refine⟨_,6,n+1,rfl,b1,⋯,∅,∅,λr2 y2 a3 a4 b2=>?_⟩;obtain⟨A2,B2,c2,rfl,_⟩:=id b2;refine⟨_,6,n+1+1,rfl,b2,⋯,∅,∅,λr3 y3 a5 a6 b3=>?_⟩;obtain⟨A3,B3',c3,rfl,_⟩:=id b3;refine⟨_,3,n+1+1+1,rfl,b3,⋯,∅,∅,λX Y y4 x1 x2 x3 x4 b4=>?_⟩;obtain⟨A4,B4,c4,rfl,_⟩:=id b4;obtain⟨w,hw,rfl⟩:∃w:Nat,w<5/\r1=(w:Int):=⟨r1.toNat,⋯,⋯⟩;refine⟨∅,rfl,?_⟩;show iV _ _ (lZ 0 6) _ _;refine Ah (λi E=>∃(w0:Option U)(ys:List L2.T)(cs:List Nat),E=[w0,oZ (.o true ys),↥(mV (zU cs))]/\Bx ys (n+5+i)/\cs.length=i/\∀c∈cs,c∈("lrbe-":Str).cps.toList) ⟨none,_,[],rfl,b4.mono (by simp;lia),rfl,λc m=>absurd m (by simp)⟩ ?_ ?_
 ·rintro i t rest E hi ⟨w0,ys,cs,rfl,bi,hc,hm⟩ KK;obtain⟨xh,rfl⟩:=yB hi;obtain⟨A5,B5,c5,rfl,_⟩:=id bi;refine⟨_,5,_,rfl,bi,⋯,∅,∅,λr y5 u1 u2 b5=>?_⟩;obtain⟨A6,B6,c6,rfl,_⟩:=id b5;obtain⟨c,mc,vi⟩:=JW u1 u2;refine⟨(show 5<=big by decide),?_⟩;show o1 (k8 ("lrbe-":Str).cps.toList r) _;rw[vi];refine⟨(show(mV (zU cs)).length<9000 by simp[mV,zU];lia),KK _ ⟨↑(0+(i:Int)),[.int A6,.int B6,.int c6],cs++[c],?_,b5.mono (by push_cast;lia),by simp[hc],λz mz=>?_⟩⟩
  ·show[_,_,oZ (U.o false (mV (zU cs)++[L2.T.str ⟨#[c]⟩]))]=_;rw[show mV (zU cs)++[L2.T.str ⟨#[c]⟩]=mV (zU (cs++[c])) by simp[mV,zU]]
  ·obtain mz|mz:=TY.mp mz
   ·exact hm z mz
   ·rw[TM]at mz;rw[mz];exact mc
 ·rintro E ⟨w0,ys,cs,rfl,bi,hc,hm⟩;have hc6:cs.length=6:=by rw[hc];rfl
  obtain⟨A5,B5,c5,rfl,_⟩:=id bi;obtain⟨jo,ms,ej,lj,sl⟩:=EF cs hc6;refine⟨a9 (λ_=>rfl) _,?_⟩;show o1 (mM (mV (zU cs))) _;rw[Ka];refine⟨jo,λz ez=>?_⟩;rw[ej]at ez;subst ez;refine⟨(show 2<9000 by decide),(show 3<9000 by decide),(show 4<9000 by decide),?_⟩;have hat:k8 (PN (1+r2) (1+r3)) (w:Int)=oZ (L2.T.lst ((gL (1+r2) (1+r3) w).map GD)):=by
   match w,hw with
   |0,_|1,_|2,_|3,_|4,_=>rfl
  show o1 (k8 (PN (1+r2) (1+r3)) (w:Int)) _;rw[hat];have bs:=Rc (x:=1+r2) (y:=1+r3) ⋯ ⋯ ⋯ ⋯ w;have ls:=Ge (1+r2) (1+r3) w;refine⟨rfl,dF (f:=GD) (h:=λc=>pt (hf (X+2*c.1),hf (Y+2*c.2))) (λ(v:Option U×Option U)acc=>[v.1,v.2,⇑(pt (hf X,hf Y)),↥acc]) (gL (1+r2) (1+r3) w) (none,none) [] (by simp;lia) (λc m v acc rest ha K=>?_) λv=>?_⟩
  ·have:=bs c m;refine⟨hf X,hf Y,(c.1,1),(c.2,1),15,15,rfl,Bk ⋯ ⋯,Yy ⋯ ⋯,∅,?_⟩;rw[Xu,Xu];exact⟨ha,K (↑c.1,↑c.2)⟩
  ·refine⟨a9 (λ_=>rfl) _,?_⟩;have eo:([]++(gL (1+r2) (1+r3) w).map λc=>pt (hf (X+2*c.1),hf (Y+2*c.2)))=(gY X Y (gL (1+r2) (1+r3) w)).map pt:=by rw[VO,gY,UA];rfl
   rw[eo];have lo:(gY X Y (gL (1+r2) (1+r3) w)).length=(gL (1+r2) (1+r3) w).length:=by rw[gY,SV]
   have hb:∀(s:Str)(k:Int),((s.length<=9000/\∀c∈s.cps.toList,c<16^8)/\k.natAbs<=100)->LB 6 ⟨s,k,gY X Y (gL (1+r2) (1+r3) w),YH z none (oZ ((gL (1+r2) (1+r3) w).length:Int))⟩:=λs k hs=>by
    refine⟨⟨w,1+r2,1+r3,X,Y,hw,⋯,⋯,⋯,⋯,⋯,⋯,rfl⟩,⟨?_,?_⟩,hs⟩
    ·show(YH z none (oZ ((gL (1+r2) (1+r3) w).length:Int))).cps.size=(gY X Y (gL (1+r2) (1+r3) w)).length;rw[lo,<-XG,sl _ ls.1 ls.2,UP,hc6]
     lia
    ·show ∀c∈(YH z none (oZ ((gL (1+r2) (1+r3) w).length:Int))).cps.toList,_;rw[sl _ ls.1 ls.2];exactλc m=>hm c (VH m)
   generalize gY X Y (gL (1+r2) (1+r3) w)=O at *;refine(?_:t6 [oZ (.o true [.int A5,.int B5,.int c5]),↑3,↥(PN (1+r2) (1+r3)),⇑(.tup (O.map pt)),↑(w:Int),↑(1+r2),↑(1+r3),⇑(pt (hf X,hf Y)),⇑(.str z),none,none] _);refine⟨_,4,_,rfl,bi,⋯,∅,∅,λr6 y6 u1 u2 b6=>?_⟩;obtain⟨A6,B6,c6,rfl,_⟩:=id b6;obtain⟨s,hs,hsl⟩:∃s:Str,k8 [L2.T.str "strip",.str "fan",.str "cap",.str "sector"] r6=oZ (L2.T.str s)/\(s.length<=9000/\∀c∈s.cps.toList,c<16^8):=by
    have:r6=0\/r6=1\/r6=2\/r6=3:=⋯
    obtain rfl|rfl|rfl|rfl:=this
    ·exact⟨_,rfl,∅⟩
    ·exact⟨_,rfl,∅⟩
    ·exact⟨_,rfl,∅⟩
    ·exact⟨_,rfl,∅⟩
   show o1 (k8 [L2.T.str "strip",.str "fan",.str "cap",.str "sector"] r6) _;rw[hs];refine⟨_,4,_,rfl,b6,⋯,∅,∅,λr7 y7 u3 u4 b7=>?_⟩;obtain⟨A7,B7,c7,rfl,_⟩:=id b7;refine⟨lj,λy ey=>?_⟩;have el:((O.map pt).length:Int)=((gL (1+r2) (1+r3) w).length:Int):=by rw[SV,lo]
   have ey':y=YH z none (oZ ((O.map pt).length:Int)):=ey;rw[el]at ey';subst ey';exact⟨Lz ⟨s,r7,O,YH z none (oZ ((gL (1+r2) (1+r3) w).length:Int))⟩,q _ _ (hb s r7 ⟨hsl,⋯⟩) (b7.mono ⋯)⟩
theorem vU{α:Type}{f:α->L2.T}{xs:List α}(h:j<xs.length):∃x,xs[(j+xs.length-1)%xs.length]?=oZ x/\k8 (xs.map f) ((j:Int)-1)=oZ (f x):=by
 have hk:(j+xs.length-1)%xs.length<xs.length:=XA _ ⋯;refine⟨_,SX hk,?_⟩;unfold k8;have e:Py (xs.map f).length ((j:Int)-1)=oZ ((j+xs.length-1)%xs.length):=by
  unfold Py;rw[SV];cases j with
  |zero=>
   rw[oW ⋯,oV ⋯]
   congr 1
   rw[show 0+xs.length-1=xs.length-1 by lia,VJ ⋯]
   lia
  |succ j=>
   rw[oV ⋯,oV ⋯]
   congr 1
   rw[show j+1+xs.length-1=j+xs.length by lia,XT,VJ ⋯]
   lia
 rw[e];simp[SX hk]
theorem Xw{p q d:Int}(h:p-q=2*d):aQ (hf p) (hf q)=(d,1):=by
 refine gT (aR (mZ p) (mZ q)) (bX d) ?_;have:(p:Rat)-(q:Rat)=2*(d:Rat):=by exact_mod_cast h
 rw[bK (mZ p) (mZ q),tY,tY,tK];grind
theorem Pu(p q:Int):fM (hf p) (hf q)=hf (p+q):=by
 refine gT (eC (mZ p) (mZ q)) (mZ _) ?_;rw[jH (mZ p) (mZ q),tY,tY,tY]
 push_cast
 grind
theorem Xv(d s:Int):kB (d,1) (hf s)=hf (s*d):=by
 refine gT (aW (bX d) (mZ s)) (mZ _) ?_;rw[fD (bX d) (mZ s),tY,tY,tK]
 push_cast
 grind
theorem LB.mono{M N:Int}(h:LB M b)(k:M<=N):LB N b:=by
 obtain⟨⟨w,x,y,X,Y,h1,h2,h3,h4,h5,h6,h7,h8⟩,hm,hw⟩:=h;exact⟨⟨w,x,y,X,Y,h1,h2,h3,h4,h5,⋯,⋯,h8⟩,hm,hw⟩
theorem F7{X Y:Int}{zs:List (Int×Int)}{j:Nat}(h:(gY X Y zs)[j]?=oZ p):∃c∈zs,p=(hf (X+2*c.1),hf (Y+2*c.2)):=by
 obtain⟨c,m,e⟩:=SS.mp (SY h);exact⟨c,m,e.symm⟩
theorem rW{α:Type}{f:α->L2.T}(h:∀x,L2.dT (f x)<=n):∀xs:List α,L2.Ot (xs.map f)<=n
 |[]=>VZ _
 |x::xs=>by rw[TH,L2.Ot];exact ZC.mpr ⟨h x,rW h xs⟩
theorem IK(b:eJ):L2.dT (cU b)<=5:=by
 have h:=rW (f:=pt) (n:=2) (λ_=>kE rfl) b.o;unfold cU;simp only[L2.dT,L2.Ot];have:ag 0 (ag 0 (ag (L2.Ot (b.o.map pt)+1) (ag 0 0)))<=4:=ZC.mpr ⟨⋯,ZC.mpr ⟨⋯,ZC.mpr ⟨⋯,ZC.mpr ⟨⋯,⋯⟩⟩⟩⟩
 lia
theorem SM{r:Int}(h:0<=r)(k:r<4):∃s:Int,0<=s/\s<=4/\k8 [L2.T.tup [.int 0,.int 1],.tup [.int 1,.int 1],.tup [.int 1,.int 2],.tup [.int 2,.int 1]] r=oZ (fr (hf s)):=by
 have:r=0\/r=1\/r=2\/r=3:=⋯
 obtain rfl|rfl|rfl|rfl:=this
 ·exact⟨0,∅,∅,rfl⟩
 ·exact⟨2,∅,∅,rfl⟩
 ·exact⟨1,∅,∅,rfl⟩
 ·exact⟨4,∅,∅,rfl⟩
def MI:iU:=λas Q=>∃(xs:List L2.T)(M n:Int),as=[.b xs,.v (.int M)]/\Bx xs n/\n<=700000/\1<=M/\M<=10/\∀(bs:List eJ)(ys:List L2.T),1<=bs.length->(bs.length:Int)<=M->(∀b∈bs,LB 400 b)->Bx ys (n+300)->Q (.l (bs.map cU)) ys
abbrev Ny(P w K mg base):=(~~~Fn) 5 "_law_lot" ["_law_box_here","_law_most"] (aU K MI)
abbrev Mu:dh:=top 57
theorem gR:aI ["_law_box_here","_law_most","_law_found","_law_k","_law_way","_law_block","_law_at","_law_share","_law_step","_law_word","_law_number","_law_spots","_law_marks"] ["_law_box_here","_law_most"] (aC Mu):=iQ
theorem R0(F:eO K "_law_lot" "_law_lot" Mu f fd)(TX:Txt mg)(lh: ~~~rH)(ur: ~~~z8)(qr: ~~~vO)(ly: ~~~kP)(pf: ~~~vP):(~~~bG) fJ 5 f fd ["_law_box_here","_law_most"] (aU K MI):=by
 refine F.okU gR (λhr=>(aB (fS 2 gR.nd (cH gG)) (aB (eS PassesOwn.never rfl (iY rfl TX.n_range (f1 (aY cQ aA (fB lh (f2 (fv 0) (fv 1)))))) (fG 3 gR.nd) (aB (gJ (i:=4) (j:=5) rfl gR.nd rfl rfl ∅ rfl rfl (f2 (fB lh (f2 (fv 0) aA)) (fB ur (f2 (fv 0) aA))) rfl) (aB (dG (zI (tV (fP e8 (fv 4) aA) (o7 (nG rfl hr (fv 2) (cH gG) (cN _))))) (aB (kS (fX (fv 2) (fB lh (f2 (fv 0) (gH rfl rfl TX.n_len (f1 (fv 2)))))) (cM (n:=4) rfl rfl (aF (fG 9 gR.nd) (aF (fG 10 gR.nd) (aF (fG 11 gR.nd) (aF (fG 12 gR.nd) bS)))))) (aB (fS 6 gR.nd (fB lh (f2 (fv 0) (gH rfl rfl TX.n_len (f1 (fv 11)))))) (aB (fS 7 gR.nd (fX (cH (f4 (aO (f2 aA aA)) (aO (f2 aA aA)) (aO (f2 aA aA)) (aO (f2 aA aA)))) (fB lh (f2 (fv 0) aA)))) (aB (fS 8 gR.nd (fK ly (f2 (fK pf (f2 (fX (fv 11) (fv 6)) (fX (fv 11) (aY i8 (fv 6) aA)))) (fv 7)))) (aE (fS 5 gR.nd (aO (f4 (fv 9) (fv 10) (xJ rfl rfl TX.n_tuple (f1 (jW (N':=["_law_spot","_law_step"]) (t:=1) (cap:=[(8,false)]) rfl (bI.of rfl) rfl ∅ (Dj rfl (fv 11)) (λ_ _ _ _=>(fH 0)) (λ_ _ _ _=>(fK qr (f2 (fv 0) (fv 1))))))) (fv 12))))))))) cG) (aE (e7 (hV rfl (fv 2) (f1 (fv 5)))))))) (aE (aP (fv 2)))))) ?_;rintro as Q ⟨xs,M,n,rfl,bx,hn,m1,m2,q⟩;obtain⟨A0,B0,c0,rfl,_⟩:=id bx;refine⟨_,M,n,rfl,bx,⋯,m1,⋯,λr1 y1 a1 a2 b1=>?_⟩;obtain⟨A1,B1,c1,rfl,_⟩:=id b1;obtain⟨m,hm,em⟩:∃m:Nat,(m:Int)<=M/\1+r1=(m:Int):=⟨(1+r1).toNat,⋯,⋯⟩;refine⟨⟨by show -(2^62:Int)<=1+r1;lia,by show 1+r1<2^62;lia⟩,?_⟩;show t6 _ (dU _ _ _ (lZ 0 (1+r1).toNat));rw[em,VP];refine lE (λi E=>∃(ys:List L2.T)(bs:List eJ)(v3 v4 v5 v6 v7 v8 v9 v10 v11 yq:Option U),E=[oZ (.o true ys),↑M,↥(bs.map cU),v3,v4,v5,v6,v7,v8,v9,v10,v11,yq]/\Bx ys (n+1+20*i)/\bs.length=i/\∀b∈bs,LB (6+32*i) b) ⟨_,[],_,_,_,_,_,_,_,_,_,_,rfl,b1.mono (by simp),rfl,λb m=>absurd m (by simp)⟩ ?_ ?_
 ·rintro i t rest E hi ⟨ys,bs,v3,v4,v5,v6,v7,v8,v9,v10,v11,yq,rfl,bi,hl,hb⟩ KK;obtain⟨xh,rfl⟩:=yB hi;obtain⟨A2,B2,c2,rfl,_⟩:=id bi;refine⟨_,5,_,rfl,bi,⋯,∅,∅,λr2 y2 a3 a4 b2=>?_⟩;obtain⟨A3,B3',c3,rfl,_⟩:=id b2;refine⟨_,_,rfl,b2,⋯,λb y3 lb b3=>?_⟩;obtain⟨A4,B4,c4,rfl,_⟩:=id b3;have lb1:LB (6+32*((i+1:Nat):Int)) b:=lb.mono ⋯;have hb1:∀b∈bs,LB (6+32*((i+1:Nat):Int)) b:=λb m=>(hb b m).mono (by push_cast;lia);have snoc:∀b,LB (6+32*((i+1:Nat):Int)) b->∀b'∈bs++[b],LB (6+32*((i+1:Nat):Int)) b':=λb l b' m=>by
   obtain m|m:=TY.mp m
   ·exact hb1 b' m
   ·rw[TM]at m;rw[m];exact l
  have app:∀b,bs.map cU++[cU b]=(bs++[b]).map cU:=λb=>by rw[US];rfl
  have ln:∀b,(bs.map cU++[cU b]).length<=9000:=λb=>by rw[TC,SV,hl];simp;lia
  show if decide (r2<2)=true then _ else _
  by_cases c:r2<2
  ·rw[oY c,oV rfl];have dm:L2.dT (.lst (bs.map cU))<=60:=by
    have:=rW IK bs;simp only[L2.dT];lia
   refine⟨dm,?_⟩
   by_cases e0:bs=[]
   ·subst e0;refine⟨ln b,?_⟩;exact KK [oZ (.o true [.int A4,.int B4,.int c4]),↑M,↥([b].map cU),↑(0+(i:Int)),↑r2,⇑(cU b),v6,v7,v8,v9,v10,v11,yq] ⟨_,[b],_,_,_,_,_,_,_,_,_,_,rfl,b3.mono (by push_cast;lia),by simp at hl⊢;lia,snoc b lb1⟩
   ·have ee:iP (.lst (bs.map cU)) (.lst [])=false:=by
     cases bs with
     |nil=>exact absurd rfl e0
     |cons x r=>rfl
    have el:(0:Nat)<bs.length:=List.length_pos_iff.mpr e0;show if(!(iP (.lst (bs.map cU)) (.lst [])))=true then _ else _;rw[ee,oV ∅];refine⟨_,((bs.map cU).length:Int),_,rfl,b3,⋯,by rw[SV];lia,by rw[SV,hl];lia,λr5 y5 u1 u2 b5=>?_⟩;obtain⟨A5,B5,c5,rfl,_⟩:=id b5;rw[SV]at u2;obtain⟨k,hk,rfl⟩:∃k:Nat,k<bs.length/\r5=(k:Int):=⟨r5.toNat,⋯,⋯⟩;show o1 (k8 (bs.map cU) (k:Int)) _;rw[kQ (SX hk)];have lk:=hb _ (WA hk);generalize bs[k]=g at lk;obtain⟨⟨w,x,y,X,Y,h1,h2,h3,h4,h5,h6,h7,h8⟩,hm',hw'⟩:=lk;obtain⟨gw,gn,go,gm⟩:=g;simp only at h8 hm' hw';subst h8;have hz:=Rc h2 h3 h4 h5 w;have lz:=Ge x y w;have lz':(gY X Y (gL x y w)).length=(gL x y w).length:=by rw[gY,SV]
    generalize hzs:gL x y w=zs at *;refine⟨_,(((gY X Y zs).map pt).length:Int),_,rfl,b5,⋯,by rw[SV];lia,by rw[SV];lia,λr6 y6 u3 u4 b6=>?_⟩;obtain⟨A6,B6,c6,rfl,_⟩:=id b6;rw[SV]at u4;obtain⟨j,hj,rfl⟩:∃j:Nat,j<(gY X Y zs).length/\r6=(j:Int):=⟨r6.toNat,⋯,⋯⟩;refine⟨_,4,_,rfl,b6,⋯,∅,∅,λr7 y7 u5 u6 b7=>?_⟩;obtain⟨A7,B7,c7,rfl,_⟩:=id b7;obtain⟨s,s0,s4,hs⟩:=SM u5 u6;show o1 (k8 [L2.T.tup [.int 0,.int 1],.tup [.int 1,.int 1],.tup [.int 1,.int 2],.tup [.int 2,.int 1]] r7) _;rw[hs];refine(?_:t6 [oZ (.o true [.int A7,.int B7,.int c7]),↑M,↥(bs.map cU),↑(0+(i:Int)),↑r2,⇑(cU b),↑(j:Int),⇑(fr (hf s)),v8,⇑(.str gw),↑gn,⇑(.tup ((gY X Y zs).map pt)),⇑(.str gm)] _);obtain⟨p1,hp1⟩:∃p,(gY X Y zs)[j]?=oZ p:=⟨_,SX hj⟩;obtain⟨p2,hp2,at2⟩:=vU (f:=pt) hj;show o1 (k8 ((gY X Y zs).map pt) (j:Int)) _;rw[kQ hp1];show o1 (k8 ((gY X Y zs).map pt) ((j:Int)-1)) _;rw[at2];obtain⟨z1,mz1,rfl⟩:=F7 hp1;obtain⟨z2,mz2,rfl⟩:=F7 hp2;have q1:=hz z1 mz1;have q2:=hz z2 mz2;have hX:X.natAbs<=400:=⋯
    have hY:Y.natAbs<=400:=⋯
    refine⟨_,_,_,_,15,15,rfl,Bk ⋯ ⋯,Bk ⋯ ⋯,∅,?_⟩;rw[Xw (d:=z1.1-z2.1) ⋯,Xw (d:=z1.2-z2.2) ⋯];refine⟨_,_,_,15,rfl,Yy ⋯ ⋯,mZ s,by have:=Xx (n:=s) (e:=5) ⋯ ∅;lia,?_⟩;rw[Xv,Xv];have e1:(s*(z1.1-z2.1)).natAbs<=32:=by
     rw[VW];exact VE (VR (show s.natAbs<=4 by lia) (show(z1.1-z2.1).natAbs<=8 by lia)) ∅
    have e2:(s*(z1.2-z2.2)).natAbs<=32:=by
     rw[VW];exact VE (VR (show s.natAbs<=4 by lia) (show(z1.2-z2.2).natAbs<=8 by lia)) ∅
    generalize s*(z1.1-z2.1)=dx at *;generalize s*(z1.2-z2.2)=dy at *;refine⟨rfl,?_⟩;show iV _ _ ((gY X Y zs).map pt) _ _;have mv:LB (6+32*((i+1:Nat):Int)) ⟨gw,gn,gY (X+dx) (Y+dy) zs,gm⟩:=⟨⟨w,x,y,X+dx,Y+dy,h1,h2,h3,h4,h5,by push_cast;lia,by push_cast;lia,by rw[hzs]⟩,⟨by rw[hm'.len,gY,gY,SV,SV],hm'.all⟩,hw'⟩;rw[show(gY X Y zs).map pt=zs.map (λc=>pt (hf (X+2*c.1),hf (Y+2*c.2))) by rw[gY,UA];rfl];refine dF (f:=λc=>pt (hf (X+2*c.1),hf (Y+2*c.2))) (h:=λc=>pt (hf (X+dx+2*c.1),hf (Y+dy+2*c.2))) (λ(v:Option U)acc=>[v,⇑(pt (hf dx,hf dy)),↥acc]) zs none [] (by simp;lia) (λc m v acc rest ha K=>?_) λv=>?_
    ·have:=hz c m;refine⟨_,_,_,_,15,15,rfl,Bk ⋯ ⋯,Bk ⋯ ⋯,∅,?_⟩;rw[Pu,Pu,show X+2*c.1+dx=X+dx+2*c.1 by lia,show Y+2*c.2+dy=Y+dy+2*c.2 by lia];exact⟨ha,K (⇑(pt (hf (X+2*c.1),hf (Y+2*c.2))))⟩
    ·refine⟨a9 (λ_=>rfl) _,?_⟩;have eo:([]++zs.map λc=>pt (hf (X+dx+2*c.1),hf (Y+dy+2*c.2)))=(gY (X+dx) (Y+dy) zs).map pt:=by rw[VO,gY,UA];rfl
     rw[eo];refine⟨ln ⟨gw,gn,gY (X+dx) (Y+dy) zs,gm⟩,?_⟩;have:=KK [oZ (.o true [.int A7,.int B7,.int c7]),↑M,↥((bs++[(⟨gw,gn,gY (X+dx) (Y+dy) zs,gm⟩:eJ)]).map cU),↑(0+(i:Int)),↑r2,⇑(cU ⟨gw,gn,gY (X+dx) (Y+dy) zs,gm⟩),↑(j:Int),⇑(fr (hf s)),⇑(pt (hf dx,hf dy)),⇑(.str gw),↑gn,⇑(.tup (zs.map λc=>pt (hf (X+2*c.1),hf (Y+2*c.2)))),⇑(.str gm)] ⟨_,_,_,_,_,_,_,_,_,_,_,_,rfl,b7.mono (by push_cast;lia),by simp[hl],snoc _ mv⟩;rw[<-app]at this;exact this
  ·rw[oX c,oW ∅];refine⟨ln b,?_⟩;have:=KK [oZ (.o true [.int A4,.int B4,.int c4]),↑M,↥((bs++[b]).map cU),↑(0+(i:Int)),↑r2,⇑(cU b),v6,v7,v8,v9,v10,v11,yq] ⟨_,bs++[b],_,_,_,_,_,_,_,_,_,_,rfl,b3.mono (by push_cast;lia),by simp[hl],snoc b lb1⟩;rw[<-app]at this;exact this
 ·rintro E ⟨ys,bs,v3,v4,v5,v6,v7,v8,v9,v10,v11,yq,rfl,bi,hl,hb⟩;have zi:bs.length=m:=by rw[hl];simp[lZ]
  obtain⟨A2,B2,c2,rfl,_⟩:=id bi;exact⟨a9 Lz _,q bs _ ⋯ ⋯ (λb mb=>(hb b mb).mono ⋯) (bi.mono ⋯)⟩
def G8:iU:=λas Q=>∃x y:Fr,as=[.v (fr x),.v (fr y)]/\bL x/\bL y/\y.1≠0/\sz x+sz y<=7900/\Q (.v (fr (sO x y))) []
theorem Rm(z:y.1≠0):sz (low y.2 y.1)<=sz y:=qV z (b9 y) (fZ y) (Nk y)
abbrev wU(P w K mg base):=(~~~Fn) 3 "_law_over" oG (aU K G8)
abbrev Fv:dh:=top 59
theorem E9:aI oG oG (aC Fv):=iQ
theorem Zi(F:eO K "_law_over" "_law_over" Fv f fd)(TX:Txt mg)(kf: ~~~g9)(lp: ~~~k9):(~~~bG) fJ 3 f fd oG (aU K G8):=by
 refine F.okU E9 (λhr=>(aE (aP (fK kf (f2 (fv 0) (fK lp (f2 (fQ 1) (fQ 1)))))))) ?_;rintro as Q ⟨x,y,rfl,hx,hy,hz,hs,q⟩;have:=Rm hz;exact⟨y.2,y.1,rfl,hz,qG (fZ y) ⋯,x,low y.2 y.1,rfl,hx,iG hz,⋯,rfl,q⟩
theorem Kb(h:bL x)(z:y.1≠0):sz (sO x y)<=sz x+sz y:=by
 have:=fT h (iG (n:=y.2) z);have:=Rm z;unfold sO;lia
theorem Pb.np(h:Pb p):NP p:=⟨h.v.x,h.v.y⟩
def ML:iU:=λas Q=>∃(a b:Pt)(f:Fr),as=[.v (pt a),.v (pt b),.v (fr f)]/\Pb a/\Pb b/\bL f/\sz f<=1000/\Q (.v (pt (cO a b f))) []
abbrev Ku(P w K mg base):=(~~~Fn) 4 "_law_on" ["_law_a","_law_b","_law_share"] (aU K ML)
abbrev D5:dh:=top 62
theorem GZ:aI ["_law_a","_law_b","_law_share"] ["_law_a","_law_b","_law_share"] (aC D5):=iQ
theorem EO(F:eO K "_law_on" "_law_on" D5 f fd)(TX:Txt mg)(qr: ~~~vO)(ly: ~~~kP)(pf: ~~~vP):(~~~bG) fJ 4 f fd ["_law_a","_law_b","_law_share"] (aU K ML):=by
 refine F.okU GZ (λhr=>(aE (aP (fK qr (f2 (fv 0) (fK ly (f2 (fK pf (f2 (fv 1) (fv 0))) (fv 2)))))))) ?_;rintro as Q ⟨p,q,f,rfl,hp,hq,hf,hs,z⟩;have n1:=iK hq.v hp.v;exact⟨_,_,_,_,_,_,rfl,hq.v,hp.v,∅,_,_,_,_,rfl,n1,hf,⋯,_,_,_,_,_,_,rfl,hp.v,Yz n1 hf,⋯,rfl,z⟩
theorem xD(h:Nv x y e)(k:Nv x' y' f):bL (eR x y x' y')/\sz (eR x y x' y')<=2*(e+f)+1:=by
 have:=h.sx;have:=h.sy;have:=k.sx;have:=k.sy;have s1:=fT h.x k.y;have s2:=fT h.y k.x;have s3:=gZ (aW h.x k.y) (aW h.y k.x);exact⟨Uc h k,by unfold eR;lia⟩
theorem tP(h:Nv x y e)(k:Nv x' y' f):bL (zH x y x' y')/\sz (zH x y x' y')<=2*(e+f)+1:=by
 have:=h.sx;have:=h.sy;have:=k.sx;have:=k.sy;have s1:=fT h.x k.x;have s2:=fT h.y k.y;have s3:=Gm (aW h.x k.x) (aW h.y k.y);exact⟨P9 h k,by unfold zH;lia⟩
theorem AR(n:Int):iP (.int n) (.int 0)=decide (n=0):=by
 rw[XQ];simp[L2.iP]
def MK:iU:=λas Q=>∃a b c d:Pt,as=[.v (pt a),.v (pt b),.v (pt c),.v (pt d)]/\Pb a/\Pb b/\Pb c/\Pb d/\a≠b/\Q (.l ((jX a b c d).map fr)) []
theorem jO(ha:NP a)(hb:NP b)(h:a≠b):0<aN (aK (vq b) (vq a)) (aK (vq b) (vq a)):=by
 unfold aN;have s1:=BB (aK (vq b) (vq a)).1;have s2:=BB (aK (vq b) (vq a)).2
 by_cases y1:(aK (vq b) (vq a)).1=0
 ·by_cases y2:(aK (vq b) (vq a)).2=0
  ·have e1:val b.1-val a.1=0:=y1;have e2:val b.2-val a.2=0:=y2;exact absurd (Prod.ext (gT ha.x hb.x (by grind)) (gT ha.y hb.y (by grind))) h
  ·have:=qU y2;grind
 ·have:=qU y1;grind
abbrev Nz(P w K mg base):=(~~~Fn) 4 "_law_met" ["_law_a","_law_b","_law_c","_law_d"] (aU K MK)
abbrev Mv:dh:=top 58
theorem mH:aI ["_law_a","_law_b","_law_c","_law_d","_law_whole","_law_behind","_law_along","_law_other","_law_bottom","_law_ahead","_law_share","_law_back"] ["_law_a","_law_b","_law_c","_law_d"] (aC Mv):=iQ
theorem R1(F:eO K "_law_met" "_law_met" Mv f fd)(TX:Txt mg)(pf: ~~~vP)(qf: ~~~z7)(pg: ~~~wU)(kd: ~~~gM)(uu: ~~~Nx):(~~~bG) fJ 4 f fd ["_law_a","_law_b","_law_c","_law_d"] (aU K MK):=by
 refine F.okU mH (λhr=>(aB (gJ (i:=6) (j:=7) rfl mH.nd rfl rfl ∅ rfl rfl (f2 (fK pf (f2 (fv 1) (fv 0))) (fK pf (f2 (fv 3) (fv 2)))) rfl) (aB (gJ (i:=8) (j:=9) rfl mH.nd rfl rfl ∅ rfl rfl (f2 (fK qf (f2 (fv 6) (fv 7))) (fK pf (f2 (fv 2) (fv 0)))) rfl) (aB (dG (nG rfl hr (fQ 8) aA (cN _)) (aB (fS 10 mH.nd (fK pg (f2 (fK qf (f2 (fv 9) (fv 7))) (fv 8)))) (aB (fS 11 mH.nd (fK pg (f2 (fK qf (f2 (fv 9) (fv 6))) (fv 8)))) (aE (aP (r8 (zI (tV (fP Zl (fQ 11) aA) (o7 (fP Zm (fX (fK kd (f2 (fv 11) (aO (f2 aA aA)))) aA) aA)))) (cH (f1 (fv 10))) (cH gG)))))) cG) (aB (dG (nG rfl hr (fX (fK qf (f2 (fv 6) (fv 9))) aA) aA (cN _)) (aE (aP (cH gG))) cG) (aB (fS 4 mH.nd (fK uu (f2 (fv 6) (fv 6)))) (aB (fS 5 mH.nd (fK pf (f2 (fv 3) (fv 0)))) (aE (aP (cH (f2 (fK pg (f2 (fK uu (f2 (fv 6) (fv 9))) (fv 4))) (fK pg (f2 (fK uu (f2 (fv 6) (fv 5))) (fv 4)))))))))))))) ?_;rintro as Q ⟨a,b,c,d,rfl,ha,hb,hc,hd,ne,q⟩;have n1:=iK hb.v ha.v;have n2:=iK hd.v hc.v;have n3:=iK hc.v ha.v;have n4:=iK hd.v ha.v;have k1:=xD n1 n2;have k2:=xD n3 n2;have k3:=xD n3 n1;have k5:=tP n1 n1;have k6:=tP n1 n3;have k7:=tP n1 n4;refine⟨_,_,_,_,_,_,rfl,hb.v,ha.v,∅,_,_,_,_,_,_,rfl,hd.v,hc.v,∅,?_⟩;refine⟨_,_,_,_,_,_,rfl,n1,n2,∅,_,_,_,_,_,_,rfl,hc.v,ha.v,∅,?_⟩;unfold jX jR vW dP at q;simp only at q;refine⟨kE rfl,?_⟩;show if(!(iP (.int (eR (aQ b.1 a.1) (aQ b.2 a.2) (aQ d.1 c.1) (aQ d.2 c.2)).1) (.int 0)))=true then _ else _;rw[AR]
 by_cases c1:(eR (aQ b.1 a.1) (aQ b.2 a.2) (aQ d.1 c.1) (aQ d.2 c.2)).1=0
 ·rw[oY c1,oW ∅];rw[oW (by rw[c1];simp)]at q;refine⟨_,_,_,_,_,_,rfl,n1,n3,∅,kE rfl,?_⟩;show if(!(iP (.int (eR (aQ b.1 a.1) (aQ b.2 a.2) (aQ c.1 a.1) (aQ c.2 a.2)).1) (.int 0)))=true then _ else _;rw[AR]
  by_cases c2:(eR (aQ b.1 a.1) (aQ b.2 a.2) (aQ c.1 a.1) (aQ c.2 a.2)).1=0
  ·rw[oY c2,oW ∅];rw[oW (by rw[c2];simp)]at q;have z:(zH (aQ b.1 a.1) (aQ b.2 a.2) (aQ b.1 a.1) (aQ b.2 a.2)).1≠0:=λz=>by
    have m1:=eT hb.np ha.np;have:=(lN (nL m1 m1)).mp z;rw[Gv m1 m1,cC hb.np ha.np]at this;have:=jO ha.np hb.np ne;grind
   refine⟨_,_,_,_,_,_,rfl,n1,n1,∅,_,_,_,_,_,_,rfl,hd.v,ha.v,∅,?_⟩;exact⟨_,_,_,_,_,_,rfl,n1,n3,∅,_,_,rfl,k6.1,k5.1,z,⋯,_,_,_,_,_,_,rfl,n1,n4,∅,_,_,rfl,k7.1,k5.1,z,⋯,rfl,q⟩
  ·rw[oX c2,oV ∅];rw[oV c2]at q;exact⟨rfl,q⟩
 ·rw[oX c1,oV ∅];rw[oV c1]at q;refine⟨_,_,_,_,_,_,rfl,n3,n2,∅,_,_,rfl,k2.1,k1.1,c1,⋯,?_⟩;refine⟨_,_,_,_,_,_,rfl,n3,n1,∅,_,_,rfl,k3.1,k1.1,c1,⋯,?_⟩;have nr:=u7 k3.1 c1;have sr:=Kb k3.1 c1;generalize sO (eR (aQ c.1 a.1) (aQ c.2 a.2) (aQ b.1 a.1) (aQ b.2 a.2)) (eR (aQ b.1 a.1) (aQ b.2 a.2) (aQ d.1 c.1) (aQ d.2 c.2))=r at *;show if decide (0<=r.1)=true then _ else _
  by_cases c2:0<=r.1
  ·rw[oY c2,oV rfl];refine⟨_,(1,1),rfl,nr,bX 1,by have:=n9 (p:=((1,1):Fr)) (e:=2) ∅ ∅ ∅;lia,?_⟩;show if decide ((aQ r (1,1)).1<=0)=true then _ else _
   by_cases c3:(aQ r (1,1)).1<=0
   ·rw[oY c3,oV rfl];rw[oV ⟨c2,c3⟩]at q;exact⟨rfl,q⟩
   ·rw[oX c3,oW ∅];rw[oW (λz=>c3 z.2)]at q;exact⟨rfl,q⟩
  ·rw[oX c2,oW ∅];rw[oW (λz=>c2 z.1)]at q;exact⟨rfl,q⟩
theorem EH(ha:Pb a)(hb:Pb b)(hc:Pb c)(hd:Pb d)(ne:a≠b):∀f∈jX a b c d,sz f<=400:=by
 have n1:=iK hb.v ha.v;have n2:=iK hd.v hc.v;have n3:=iK hc.v ha.v;have n4:=iK hd.v ha.v;have k1:=xD n1 n2;have k2:=xD n3 n2;have k5:=tP n1 n1;have k6:=tP n1 n3;have k7:=tP n1 n4;intro f m;unfold jX jR vW dP at m;simp only at m;split at m
 ·rename_i z;split at m
  ·rw[TM]at m;have:=Kb k2.1 z;rw[m];lia
  ·simp at m
 ·split at m
  ·simp at m
  ·have z:(zH (aQ b.1 a.1) (aQ b.2 a.2) (aQ b.1 a.1) (aQ b.2 a.2)).1≠0:=λz=>by
    have m1:=eT hb.np ha.np;have:=(lN (nL m1 m1)).mp z;rw[Gv m1 m1,cC hb.np ha.np]at this;have:=jO ha.np hb.np ne;grind
   obtain rfl|m:=SU.mp m
   ·have:=Kb k6.1 z;lia
   ·rw[TM]at m;have:=Kb k7.1 z;rw[m];lia
theorem Gx:(zr o).length=o.length:=by
 unfold zr sV;rw[ZE,TC,WI,UP]
 lia
theorem vF(hk:k<o.length):∃p q,o[k]?=oZ p/\o[(k+1)%o.length]?=oZ q/\(zr o)[k]?=oZ (p,q):=by
 have hz:k<(zr o).length:=by rw[Gx];exact hk
 have hm:(k+1)%o.length<o.length:=XA _ (by omega);refine⟨o[k],o[(k+1)%o.length],SX hk,SX hm,?_⟩;unfold zr;rw[af];refine⟨SX hk,?_⟩;unfold sV
 by_cases c:k+1<o.length
 ·rw[UE (by rw[WI];omega),List.getElem?_tail,SX c]
  congr 2
  exact(VJ c).symm
 ·have e:k+1=o.length:=by omega
  rw[VG (by rw[WI];omega),WI,show k-(o.length-1)=0 by omega];have e0:(k+1)%o.length=0:=by rw[e,ZF]
  rw[<-SX hm,e0];cases o with
  |nil=>simp at hk
  |cons p o=>rfl
theorem Cb{α:Type}{xs:List α}{i:Nat}{x:α}(h:xs[i]?=oZ x):xs.take i++[x]=xs.take (i+1):=by
 rw[List.take_succ,h];rfl
theorem Yc(s:Fr):∀xs:List Fr,Yb (fr s) (xs.map fr)=decide (s∈xs)
 |[]=>by simp[Yb]
 |x::xs=>by
  have ih:=Yc s xs;unfold Yb at ih⊢;rw[TH,YS,ih,Aq,XQ];simp only[YF,decide_eq_true_eq,SU];constructor
  ·rintro (h|h)
   ·exact .inl h.symm
   ·exact .inr h
  ·rintro (h|h)
   ·exact .inl h.symm
   ·exact .inr h
theorem K5{α:Type}(f:α->L2.T)(xs:List α):((xs.map f).zipIdx.map λq=>L2.T.tup [.int (q.2:Int),q.1])=xs.zipIdx.map λq=>L2.T.tup [.int (q.2:Int),f q.1]:=by
 rw[List.zipIdx_map,UA];rfl
theorem HF:sz ((1,1):Fr)<=2:=n9 ∅ ∅ ∅
theorem X7:sz ((0,1):Fr)<=2:=n9 ∅ ∅ ∅
def Sb:iU:=λas Q=>∃kr:List Fr,as=[.v (.lst (kr.map fr))]/\kr.length<=500/\(∀f∈kr,bL f/\sz f<=400)/\Q (.l ((Ex kr).map fr)) []
abbrev wV(P w K mg base):=(~~~Fn) 4 "_law_rising" ["_law_shares"] (aU K Sb)
abbrev uB:dh:=top 60
theorem mI:aI ["_law_shares","_law_found","_law_share","_law_at"] ["_law_shares"] (aC uB):=iQ
theorem Mf(F:eO K "_law_rising" "_law_rising" uB f fd)(TX:Txt mg)(kd: ~~~gM):(~~~bG) fJ 4 f fd ["_law_shares"] (aU K Sb):=by
 refine F.okU mI (λhr=>(aB (fS 1 mI.nd (cH gG)) (aB (eS PassesOwn.never rfl (cS rfl (Di (cH (f2 (aO (f2 aA aA)) (aO (f2 aA aA)))) (oT (N':=["_law_share"]) (t:=1) (cap:=[]) rfl (bI.of rfl) rfl ∅ (cS rfl (fv 0)) (λ_ _ _ _=>(fH 0)) (λ_ _ _ _=>(zI (tV (fP sN (fQ 0) aA) (o7 (fP e8 (fX (fK kd (f2 (fv 0) (aO (f2 aA aA)))) aA) aA))))) (λ_ _ _ _=>(fv 0))))) (fG 2 mI.nd) (aE (dG (Xm rfl hr (fv 2) (fv 1) rfl) (aB (fS 3 mI.nd (gH rfl rfl TX.n_len (f1 (oT (N':=["_law_one","_law_share"]) (t:=1) (cap:=[(2,false)]) rfl (bI.of rfl) rfl ∅ (cS rfl (fv 1)) (λ_ _ _ _=>(fH 0)) (λ_ _ _ _=>(fP e8 (fX (fK kd (f2 (fv 0) (fv 1))) aA) aA)) (λ_ _ _ _=>(fv 0)))))) (aE (e7 (Av rfl (fv 1) (f2 (fv 3) (fv 2)))))) cG))) (aE (aP (fv 1)))))) ?_;rintro as Q ⟨kr,rfl,hl,hs,q⟩;refine⟨rfl,?_⟩;show gF _ _ _ (kr.map fr) _ _;refine jY (f:=fr) (h:=fr) pI (λ(v:Option U)acc=>[v,↥acc]) kr none [] (by simp;lia) (λs m v acc rest ha K=>?_) λv=>?_
 ·obtain⟨h1,h2⟩:=hs s m;have kk:=K (⇑(fr s));unfold pI at kk;show if decide (0<s.1)=true then _ else _
  by_cases c1:0<s.1
  ·rw[oY c1,oV rfl];rw[oY c1,Bool.true_and]at kk;refine⟨_,(1,1),rfl,h1,bX 1,by have:=HF;lia,?_⟩;show if decide ((aQ s (1,1)).1<0)=true then _ else _
   by_cases c2:(aQ s (1,1)).1<0
   ·rw[oY c2,oV rfl];rw[oY c2,oV rfl]at kk;exact⟨ha,kk⟩
   ·rw[oX c2,oW ∅];rw[oX c2,oW ∅]at kk;exact kk
  ·rw[oX c1,oW ∅];rw[oX c1,Bool.false_and,oW ∅]at kk;exact kk
 ·refine⟨a9 (λ_=>rfl) _,?_⟩;have lf:=VV pI kr;refine⟨?_,?_⟩
  ·show([L2.T.tup [.int 0,.int 1],.tup [.int 1,.int 1]]:List L2.T).length+([]++(kr.filter pI).map fr).length<=9000;rw[VO,SV];simp;lia
  ·have hfs:∀f∈(0,1)::(1,1)::kr.filter pI,bL f/\sz f<=400:=λf m=>by
    obtain rfl|m:=SU.mp m
    ·exact⟨bX 0,by have:=X7;lia⟩
    ·obtain rfl|m:=SU.mp m
     ·exact⟨bX 1,by have:=HF;lia⟩
     ·exact hs f (TL.mp m).1
   have hll:((0,1)::(1,1)::kr.filter pI).length<=502:=by simp only[TB];lia
   show t6 _ (dU _ _ _ (((0,1)::(1,1)::kr.filter pI).map fr));unfold Ex at q;generalize(((0,1)::(1,1)::kr.filter pI):List Fr)=L at q hfs hll⊢;refine cW (f:=fr) (λs':List Fr×Option U×Option U=>[⇑(.lst (kr.map fr)),↥(s'.1.map fr),s'.2.1,s'.2.2])
    (λL' s'=>(∀f∈L',bL f/\sz f<=400)/\(∀f∈s'.1,bL f/\sz f<=400)/\Vi s'.1/\s'.1.length+L'.length<=502/\Q (.l ((L'.foldl i5 s'.1).map fr)) []) ?_ ?_ L ([],none,none) ⟨hfs,λf m=>absurd m (by simp),List.Pairwise.nil,by simp only[UR];lia,q⟩
   ·rintro s L' ⟨acc,v2,v3⟩ rest ⟨h1,h2,h3,h4,z⟩ K;obtain⟨s1,s2⟩:=h1 s (by simp);have kn:∀f∈L',bL f/\sz f<=400:=λf m=>h1 f (by simp[m]);simp only[TB]at h4;obtain⟨i1,i2,i3,i4⟩:=qD (xs:=acc) s1 (λf m=>(h2 f m).1) h3;have dd:L2.Ot (acc.map fr)<=50:=VE (rW (n:=1) (λ_=>kE rfl) acc) ∅;rw[VN]at z;refine⟨dd,?_⟩;show if(!(Yb (fr s) (acc.map fr)))=true then _ else _;rw[Yc]
    by_cases c:s∈acc
    ·rw[oY c,oW ∅];have e:i5 acc s=acc:=by unfold i5;rw[oV c]
     rw[e]at z;exact K (acc,⇑(fr s),v3) ⟨kn,h2,h3,by simp only;lia,z⟩
    ·rw[oX c,oV ∅];refine⟨rfl,?_⟩;show gF _ _ _ (acc.map fr) _ _;refine jY (f:=fr) (h:=fr) (lV · s) (λ(v:Option U)a'=>[v,⇑(fr s),↥a']) acc none [] (by simp;lia) (λx m v a' yf ha K'=>?_) λv=>?_
     ·obtain⟨x1,x2⟩:=h2 x m;have kk:=K' (⇑(fr x));unfold lV at kk;refine⟨_,_,rfl,x1,s1,⋯,?_⟩;show if decide ((aQ x s).1<0)=true then _ else _
      by_cases c2:(aQ x s).1<0
      ·rw[oY c2,oV rfl];rw[oY c2,oV rfl]at kk;exact⟨ha,kk⟩
      ·rw[oX c2,oW ∅];rw[oX c2,oW ∅]at kk;exact kk
     ·refine⟨a9 (λ_=>rfl) _,?_⟩;have le:=VV (lV · s) acc;have ec:(([]++(acc.filter (lV · s)).map fr).length:Int)=((acc.filter (lV · s)).length:Int):=by rw[VO,SV]
      refine(?_:0<=(([]++(acc.filter (lV · s)).map fr).length:Int)/\(([]++(acc.filter (lV · s)).map fr).length:Int)<=((acc.map fr).length:Int)/\(acc.map fr).length<9000/\_);refine⟨⋯,by rw[ec,SV];lia,by rw[SV];lia,?_⟩;have ei:(acc.map fr).take (([]++(acc.filter (lV · s)).map fr).length:Int).toNat++fr s::(acc.map fr).drop (([]++(acc.filter (lV · s)).map fr).length:Int).toNat=(i5 acc s).map fr:=by
       rw[ec,VP];unfold i5;rw[oW c,US,TH,XI,ZV]
      have fin:=K (i5 acc s,⇑(fr s),↑(([]++(acc.filter (lV · s)).map fr).length:Int)) ⟨kn,λf m=>by
       rcases(i3 f).mp m with rfl|m
       ·exact⟨s1,s2⟩
       ·exact h2 f m,i2,by simp only;lia,z⟩
      simp only at fin;rw[<-ei]at fin;exact fin
   ·rintro⟨acc,v2,v3⟩ ⟨_,_,_,_,z⟩;exact⟨a9 (λ_=>rfl) _,z⟩
def dQ(k:Int)(a b:Pt)(xs:List (eJ×Nat)):List Fr:=xs.flatMap λx=>if(x.2:Int)=k then[]else Gf a b x.1.o
def gC(bs:List eJ)(k:Int)(a b:Pt):List Fr:=Ex (dQ k a b bs.zipIdx)
def BF:iU:=λas Q=>∃(bs:List eJ)(k:Int)(a b:Pt),as=[.v (.lst (bs.map cU)),.v (.int k),.v (pt a),.v (pt b)]/\bs.length<=20/\(∀x∈bs,x.o.length<=6/\∀p∈x.o,Pb p)/\Pb a/\Pb b/\a≠b/\Q (.l ((gC bs k a b).map fr)) []
theorem lC{α β:Type}{f:α->List β}:∀{xs:List α},(∀x∈xs,(f x).length<=m)->(xs.flatMap f).length<=m*xs.length
 |[],_=>by simp
 |x::xs,h=>by
  have h1:=h x (by simp);have h2:=lC (xs:=xs) λy m=>h y (by simp[m]);rw[UT,TC,TB,Nat.mul_succ];lia
theorem tQ(o:List Pt):(ej o).length=o.length:=by unfold ej;simp
theorem Rf(h:o.length<=6):(Gf a b o).length<=12:=by
 have:=lC (f:=λx:Pt×Pt=>jX a b x.1 x.2) (m:=2) (xs:=ej o) λx _=>Eb a b x.1 x.2;rw[tQ]at this;unfold Gf;lia
theorem F8(ha:Pb a)(hb:Pb b)(ne:a≠b)(ho:∀p∈o,Pb p):∀f∈Gf a b o,bL f/\sz f<=400:=λf m=>by
 obtain⟨x,mx,m⟩:=UC.mp m;obtain⟨m1,m2⟩:=CZ mx;exact⟨P4 ha.np hb.np (ho _ m1).np (ho _ m2).np (jO ha.np hb.np ne) f m,EH ha hb (ho _ m1) (ho _ m2) ne f m⟩
theorem OH(i k:Int):iP (.int i) (.int k)=decide (i=k):=by
 rw[XQ];simp[L2.iP]
abbrev Hd(P w K mg base):=(~~~Fn) 5 "_law_cuts" ["_law_some","_law_k","_law_a","_law_b"] (aU K BF)
abbrev Fm:dh:=top 61
theorem lL:aI ["_law_some","_law_k","_law_a","_law_b","_law_shares","_law_other","_law_block","_law_spots","_law_j"] ["_law_some","_law_k","_law_a","_law_b"] (aC Fm):=iQ
theorem Ze(F:eO K "_law_cuts" "_law_cuts" Fm f fd)(TX:Txt mg)(xp: ~~~Nz)(uf: ~~~wV):(~~~bG) fJ 5 f fd ["_law_some","_law_k","_law_a","_law_b"] (aU K BF):=by
 refine F.okU lL (λhr=>(aB (fS 4 lL.nd (cH gG)) (aB (eS PassesOwn.never rfl (vY rfl rfl TX.n_enumerate (f1 (fv 0))) (cM (n:=2) rfl rfl (aF (fG 5 lL.nd) (aF (fG 6 lL.nd) bS))) (aE (dG (nG rfl hr (fv 5) (fv 1) (cN _)) (aB (fS 7 lL.nd (fQ 6)) (aE (eS PassesOwn.never rfl (iY rfl TX.n_range (f1 (gH rfl rfl TX.n_len (f1 (fv 7))))) (fG 8 lL.nd) (aE (e7 (Au rfl (fv 4) (f1 (fK xp (f4 (fv 2) (fv 3) (fX (fv 7) (aY i8 (fv 8) aA)) (fX (fv 7) (fv 8))))))))))) cG))) (aE (aP (fK uf (f1 (fv 4)))))))) ?_;rintro as Q ⟨bs,k,a,b,rfl,hl,hb,ha,hb',ne,q⟩;show dU _ _ _ ((bs.map cU).zipIdx.map λq=>L2.T.tup [.int (q.2:Int),q.1]) _;rw[K5];unfold gC at q;refine cW (f:=λq:eJ×Nat=>L2.T.tup [.int (q.2:Int),cU q.1]) (λs':List Fr×Option U×Option U×Option U×Option U=>[⇑(.lst (bs.map cU)),↑k,⇑(pt a),⇑(pt b),↥(s'.1.map fr),s'.2.1,s'.2.2.1,s'.2.2.2.1,s'.2.2.2.2])
  (λxs s'=>(∀x∈xs,x.1∈bs)/\s'.1.length+12*xs.length<=500/\(∀f∈s'.1,bL f/\sz f<=400)/\Q (.l ((Ex (s'.1++dQ k a b xs)).map fr)) []) ?_ ?_ bs.zipIdx ([],none,none,none,none) ⟨λx m=>SY (TQ.mp m),by simp;lia,λf m=>absurd m (by simp),q⟩
 ·rintro x xs ⟨acc,v5,v6,v7,v8⟩ rest ⟨hx,hn,hf,z⟩ K;obtain⟨g,n⟩:=x;have hg:=hb g (hx (g,n) (by simp));have kn:∀x∈xs,x.1∈bs:=λy m=>hx y (by simp[m]);simp only[TB]at hn;refine⟨kE rfl,?_⟩;show if(!(iP (.int (n:Int)) (.int k)))=true then _ else _;rw[OH]
  by_cases c:(n:Int)=k
  ·rw[oY c,oW ∅];have e:dQ k a b ((g,n)::xs)=dQ k a b xs:=by unfold dQ;rw[UT,oV c,VO]
   rw[e]at z;exact K (acc,↑(n:Int),⇑(cU g),v7,v8) ⟨kn,by simp only;lia,hf,z⟩
  ·rw[oX c,oV ∅];have e:dQ k a b ((g,n)::xs)=Gf a b g.o++dQ k a b xs:=by unfold dQ;rw[UT,oW c]
   rw[e,<-TF]at z;have sl:=Rf (a:=a) (b:=b) hg.1;have so:=F8 ha hb' ne hg.2;have el:(((g.o.map pt).length:Nat):Int)=(g.o.length:Int):=by rw[SV]
   refine⟨?_,?_⟩
   ·show -(2^62)<=(((g.o.map pt).length:Nat):Int)/\(((g.o.map pt).length:Nat):Int)<2^62;rw[el];lia
   ·show t6 _ (dU _ _ _ (lZ 0 (((g.o.map pt).length:Nat):Int).toNat));rw[VP,SV];refine lE (λi E=>∃v8:Option U,E=[⇑(.lst (bs.map cU)),↑k,⇑(pt a),⇑(pt b),↥((acc++((ej g.o).take i).flatMap λx=>jX a b x.1 x.2).map fr),↑(n:Int),⇑(cU g),⇑(.tup (g.o.map pt)),v8]) ⟨_,by rw[List.take_zero,List.flatMap_nil,UH]⟩ ?_ ?_
    ·rintro i t yf E hi ⟨v8,rfl⟩ KK;obtain⟨xh,rfl⟩:=yB hi;obtain⟨p,hp,ap⟩:=vU (f:=pt) xh;have hq:g.o[i]?=oZ g.o[i]:=SX xh;have h3:(ej g.o)[i]?=oZ (p,g.o[i]):=by
      unfold ej;rw[TR,XH xh];show oZ _=oZ _
      congr 1
      refine Prod.ext ?_ ?_
      ·show g.o.getD _ zP=p;rw[TV,hp];rfl
      ·show g.o.getD i zP=g.o[i];rw[TV,hq];rfl
     have e0:(0:Int)+(i:Int)=(i:Int):=⋯
     show o1 (k8 (g.o.map pt) ((0:Int)+(i:Int)-1)) _;rw[e0,ap];show o1 (k8 (g.o.map pt) (i:Int)) _;rw[kQ hq];refine⟨a,b,p,g.o[i],rfl,ha,hb',hg.2 _ (SY hp),hg.2 _ (WA xh),ne,?_,?_⟩
     ·show((acc++((ej g.o).take i).flatMap λx=>jX a b x.1 x.2).map fr++(jX a b p g.o[i]).map fr).length<=9000;have:=lC (f:=λx:Pt×Pt=>jX a b x.1 x.2) (m:=2) (xs:=(ej g.o).take i) λx _=>Eb a b x.1 x.2;have:=Eb a b p g.o[i];have:=hg.1;simp only[TC,SV,UP,tQ]at *
      lia
     ·have:=KK [⇑(.lst (bs.map cU)),↑k,⇑(pt a),⇑(pt b),↥((acc++((ej g.o).take (i+1)).flatMap λx=>jX a b x.1 x.2).map fr),↑(n:Int),⇑(cU g),⇑(.tup (g.o.map pt)),↑(i:Int)] ⟨_,rfl⟩;rw[<-Cb h3,List.flatMap_append,<-TF,US,show([(p,g.o[i])].flatMap λx=>jX a b x.1 x.2)=jX a b p g.o[i] by simp]at this;exact this
    ·rintro E ⟨v8,rfl⟩;have e:(ej g.o).take (lZ 0 g.o.length).length=ej g.o:=WJ (by rw[tQ];simp[lZ]);rw[e];exact K (acc++Gf a b g.o,↑(n:Int),⇑(cU g),⇑(.tup (g.o.map pt)),v8) ⟨kn,by simp only[TC];lia,λf m=>(TY.mp m).elim (hf f) (so f),z⟩
 ·rintro⟨acc,v5,v6,v7,v8⟩ ⟨_,hn,hf,z⟩;rw[show dQ k a b []=[]from rfl,UH]at z;simp only[UR]at hn;exact⟨acc,rfl,⋯,hf,a9 (λ_=>rfl) _,z⟩
end
theorem RB:∀(fs:List (Rat×Rat))(B:Rat),0<B->(∀f∈fs,0<f.1\/(f.1=0/\f.2=0))->∃d,0<d/\d<=B/\∀f∈fs,0<=f.1+f.2*d/\0<=f.1-f.2*d
 |[],B,hB,_=>⟨B,hB,by grind,λf m=>absurd m (by simp)⟩
 |f::fs,B,hB,h=>by
  obtain⟨d,d0,dB,hd⟩:=RB fs B hB λg m=>h g (by simp[m]);have small:∀{u:Rat×Rat}{d':Rat},0<=u.1+u.2*d/\0<=u.1-u.2*d->0<d'->d'<=d->0<=u.1+u.2*d'/\0<=u.1-u.2*d':=λ{u d'}k p0 pd=>by
   rcases Rat.le_total (a:=0) (b:=u.2)with c|c
   ·have m1:=Rat.mul_nonneg c (show 0<=d-d' by grind);have m2:=Rat.mul_nonneg c (Rat.le_of_lt p0);exact⟨by grind,by grind⟩
   ·have m1:=Rat.mul_nonneg (show 0<=-u.2 by grind) (show 0<=d-d' by grind);have m2:=Rat.mul_nonneg (show 0<=-u.2 by grind) (Rat.le_of_lt p0);exact⟨by grind,by grind⟩
  obtain p|⟨z1,z2⟩:=h f (by simp)
  ·-- so small that it fits
   have ex:∃d',0<d'/\d'<=d/\0<=f.1+f.2*d'/\0<=f.1-f.2*d':=by
    have key:∀s:Rat,0<=s->∃d',0<d'/\d'<=d/\s*d'<=f.1:=λs hs=>by
     by_cases c:s*d<=f.1
     ·exact⟨d,d0,by grind,c⟩
     ·have s0:0<s:=by
       by_cases z:s=0
       ·rw[z]at c;grind
       ·grind
      have i0:=Rat.inv_pos.mpr s0;have e1:s*(f.1*s⁻¹)=f.1:=by grind
      refine⟨f.1*s⁻¹,Rat.mul_pos p i0,?_,by rw[e1];grind⟩;refine Rat.not_lt.mp λq=>?_;have:=Rat.mul_pos s0 (show 0<f.1*s⁻¹-d by grind);grind
    rcases Rat.le_total (a:=0) (b:=f.2)with c|c
    ·obtain⟨d',a1,a2,a3⟩:=key f.2 c;have:=Rat.mul_nonneg c (Rat.le_of_lt a1);exact⟨d',a1,a2,by grind,by grind⟩
    ·obtain⟨d',a1,a2,a3⟩:=key (-f.2) (by grind);have:=Rat.mul_nonneg (show 0<=-f.2 by grind) (Rat.le_of_lt a1);exact⟨d',a1,a2,by grind,by grind⟩
   obtain⟨d',a1,a2,a3⟩:=ex;refine⟨d',a1,by grind,λg m=>?_⟩;obtain rfl|m:=SU.mp m
   ·exact a3
   ·exact small (hd g m) a1 a2
  ·refine⟨d,d0,dB,λg m=>?_⟩;obtain rfl|m:=SU.mp m
   ·rw[z1,z2];exact⟨by grind,by grind⟩
   ·exact hd g m
def zK(x:Fr×Fr):Fr:=kB (fM x.1 x.2) (1,2)
theorem AO(h1:bL x.1)(h2:bL x.2):bL (zK x)/\val (zK x)=(val x.1+val x.2)*(1/2):=by
 have EK:bL (1,2):=⟨∅,∅⟩;have e:val (1,2)=1/2:=by show((1:Int):Rat)/((2:Int):Rat)=1/2;push_cast;rfl
 refine⟨aW (eC h1 h2) EK,?_⟩;unfold zK;rw[fD (eC h1 h2) EK,jH h1 h2,e]
theorem nN(ha:NP a)(hb:NP b)(hf:bL f):NP (cO a b f)/\vq (cO a b f)=cL (vq a) (vq b) (val f):=by
 refine⟨⟨eC ha.x (aW (aR hb.x ha.x) hf),eC ha.y (aW (aR hb.y ha.y) hf)⟩,?_⟩;unfold vq cO cL;simp only;rw[jH ha.x (aW (aR hb.x ha.x) hf),fD (aR hb.x ha.x) hf,bK hb.x ha.x,jH ha.y (aW (aR hb.y ha.y) hf),fD (aR hb.y ha.y) hf,bK hb.y ha.y]
abbrev Z2:=Int×Int
abbrev Ez:=Z2×Z2
def Le(u v:Z2):Int:=u.1*v.2-u.2*v.1
def Wv(u v:Z2):Int:=u.1*v.1+u.2*v.2
def G0(p q:Z2):Z2:=(p.1-q.1,p.2-q.2)
def vz(e:Ez):Z2:=G0 e.2 e.1
def fz(e:Ez)(x:Z2):Int:=Le (vz e) (G0 x e.1)
def HP(cs:List Z2):List Ez:=cs.zip (sV cs)
def NO(es:List Ez):Bool:=
 (es.all λe=>es.all λg=>decide (0<=fz e g.1))&&((es.all λe=>es.any λg=>decide (0<fz e g.1))&&((es.all λe=>decide (0<Wv (vz e) (vz e))) &&
 ((es.all λe=>es.any λg=>decide (g.1=e.2)&&(decide (0<Le (vz e) (vz g))||(decide (Le (vz e) (vz g)=0)&&(decide (0<Wv (vz e) (vz g))&&es.any λh=>decide (h.1=g.2)&&decide (0<Le (vz g) (vz h)))))) &&
 (es.all λe=>es.any λg=>decide (g.2=e.1)&&(decide (0<Le (vz g) (vz e))||(decide (Le (vz g) (vz e)=0)&&(decide (0<Wv (vz g) (vz e))&&es.any λh=>decide (h.2=g.1)&&decide (0<Le (vz h) (vz g)))))))))
theorem Q6:((VF 5).all λw=>(VF 6).all λx=>(VF 6).all λy=>NO (HP (gL ((x:Int)+1) ((y:Int)+1) w)))=true:=by decide +kernel
theorem Q7{x y:Int}(hx:1<=x)(hx':x<=6)(hy:1<=y)(hy':y<=6)(hw:w<5):NO (HP (gL x y w))=true:=by
 have h:=Q6;rw[VS]at h;have h1:=h w (VL.mpr hw);rw[VS]at h1;have h2:=h1 (x-1).toNat (VL.mpr ⋯);rw[VS]at h2;have h3:=h2 (y-1).toNat (VL.mpr ⋯);rw[show(((x-1).toNat:Nat):Int)+1=x by lia,show(((y-1).toNat:Nat):Int)+1=y by lia]at h3;exact h3
def pq(X Y:Int)(c:Z2):Q2:=(((X:Rat)+2*(c.1:Rat))*(1/2),((Y:Rat)+2*(c.2:Rat))*(1/2))
def qZ(X Y:Int)(e:Ez):Eg:=(pq X Y e.1,pq X Y e.2)
theorem J8(X Y:Int)(c:Z2):vq (hf (X+2*c.1),hf (Y+2*c.2))=pq X Y c:=by
 unfold vq pq;rw[tY,tY]
 push_cast
 rfl
theorem Pa(X Y:Int)(cs:List Z2):d5 (gY X Y cs)=(HP cs).map (qZ X Y):=by
 unfold d5 zr HP gY;rw[Jn,ar,UA];refine VM λe _=>?_;show(vq _,vq _)=qZ X Y e;unfold qZ;rw[<-J8,<-J8];rfl
theorem pT(X Y:Int)(e:Ez):aH (qZ X Y e)=(((vz e).1:Rat),((vz e).2:Rat)):=by
 unfold aH qZ aK pq vz G0
 push_cast
 exact Prod.ext (by simp only;grind) (by simp only;grind)
theorem IJ{X Y:Int}(h:NO es=true):Cx (es.map (qZ X Y)):=by
 have cc:∀e g:Ez,aT (aH (qZ X Y e)) (aH (qZ X Y g))=((Le (vz e) (vz g):Int):Rat):=λe g=>by
  rw[pT,pT];unfold aT Le;push_cast;rfl
 have dd:∀e g:Ez,aN (aH (qZ X Y e)) (aH (qZ X Y g))=((Wv (vz e) (vz g):Int):Rat):=λe g=>by
  rw[pT,pT];unfold aN Wv;push_cast;rfl
 have ff:∀e g:Ez,fE (qZ X Y e) (qZ X Y g).1=((fz e g.1:Int):Rat):=λe g=>by
  unfold fE fz aT Le;rw[pT];unfold aK qZ pq G0
  push_cast
  grind
 have le:∀{i:Int},0<=i->(0:Rat)<=(i:Rat):=λh=>by exact_mod_cast h
 have lt:∀{i:Int},0<i->(0:Rat)<(i:Rat):=λh=>by exact_mod_cast h
 unfold NO at h;simp only[UU]at h;obtain⟨h1,h2,h3,h4,h5⟩:=h;rw[VS]at h1 h2 h3 h4 h5;refine⟨λe0 me0 g0 mg0=>?_,λe0 me0=>?_,λe0 me0=>?_,λe0 me0=>?_,λe0 me0=>?_⟩
 ·obtain⟨e,me,rfl⟩:=SS.mp me0;obtain⟨g,mg,rfl⟩:=SS.mp mg0;rw[ff];have:=h1 e me;rw[VS]at this;exact le (by simpa using this g mg)
 ·obtain⟨e,me,rfl⟩:=SS.mp me0;have:=h2 e me;rw[YA]at this;obtain⟨g,mg,k⟩:=this;exact⟨_,SS.mpr ⟨g,mg,rfl⟩,by rw[ff];exact lt (by simpa using k)⟩
 ·obtain⟨e,me,rfl⟩:=SS.mp me0;rw[dd];exact lt (by simpa using h3 e me)
 ·obtain⟨e,me,rfl⟩:=SS.mp me0;have:=h4 e me;rw[YA]at this;obtain⟨g,mg,k⟩:=this;simp only[UU,YF,decide_eq_true_eq]at k;obtain⟨k1,k2⟩:=k;refine⟨_,SS.mpr ⟨g,mg,rfl⟩,by unfold qZ;rw[k1],?_⟩;obtain k2|⟨k2,k3,k4⟩:=k2
  ·exact .inl (by rw[cc];exact lt k2)
  ·rw[YA]at k4;obtain⟨f,mf,k5⟩:=k4;simp only[UU,decide_eq_true_eq]at k5;refine .inr ⟨by rw[cc,k2];rfl,by rw[dd];exact lt k3,_,SS.mpr ⟨f,mf,rfl⟩,by unfold qZ;rw[k5.1],by rw[cc];exact lt k5.2⟩
 ·obtain⟨e,me,rfl⟩:=SS.mp me0;have:=h5 e me;rw[YA]at this;obtain⟨g,mg,k⟩:=this;simp only[UU,YF,decide_eq_true_eq]at k;obtain⟨k1,k2⟩:=k;refine⟨_,SS.mpr ⟨g,mg,rfl⟩,by unfold qZ;rw[k1],?_⟩;obtain k2|⟨k2,k3,k4⟩:=k2
  ·exact .inl (by rw[cc];exact lt k2)
  ·rw[YA]at k4;obtain⟨f,mf,k5⟩:=k4;simp only[UU,decide_eq_true_eq]at k5;refine .inr ⟨by rw[cc,k2];rfl,by rw[dd];exact lt k3,_,SS.mpr ⟨f,mf,rfl⟩,by unfold qZ;rw[k5.1],by rw[cc];exact lt k5.2⟩
theorem LB.pb(h:LB 400 b):∀p∈b.o,Pb p:=λp m=>by
 obtain⟨w,x,y,X,Y,h1,h2,h3,h4,h5,h6,h7,h8⟩:=h.ex;rw[h8]at m;obtain⟨c,mc,rfl⟩:=SS.mp m;have:=Rc h2 h3 h4 h5 w c mc;exact⟨(Bk (by omega) (by omega)).up ∅⟩
theorem LB.len{M:Int}(h:LB M b):3<=b.o.length/\b.o.length<=6:=by
 obtain⟨w,x,y,X,Y,h1,h2,h3,h4,h5,h6,h7,h8⟩:=h.ex;rw[h8,gY,SV];exact Ge x y w
theorem LB.gb(h:LB 400 b):GB b.o:=by
 refine⟨λp m=>(h.pb p m).np.spt,?_,λz=>by have:=h.len;rw[z]at this;simp at this⟩;obtain⟨w,x,y,X,Y,h1,h2,h3,h4,h5,h6,h7,h8⟩:=h.ex;rw[h8,Pa];exact IJ (Q7 h2 h3 h4 h5 h1)
theorem LB.ok(h:LB 400 b):Ko b:=by
 refine⟨by have:=h.len;lia,by have:=h.len;lia,h.pb,λl m=>?_⟩;rw[Ao]at m;obtain⟨x,mx,rfl⟩:=SS.mp m;obtain⟨m1,m2⟩:=kK mx;exact sC (h.gb.sp _ m1) (h.gb.sp _ m2) (h.gb.cx.ne _ (SS.mpr ⟨x,mx,rfl⟩))
theorem Ap(hp:Pb p)(hq:Pb q)(ne:p≠q):wN p q:=⟨hp,hq,ne,sC hp.np.spt hq.np.spt (jO hp.np hq.np ne)⟩
theorem vD{bs:List eJ}{k j:Nat}{g:eJ}(hj:bs[j]?=oZ g)(yh:j≠k)(m:s∈Gf a b g.o):s∈dQ (k:Int) a b bs.zipIdx:=
 UC.mpr ⟨(g,j),TQ.mpr hj,by rw[oW (by simp only;lia)];exact m⟩
theorem jN{bs:List eJ}(hb:∀g∈bs,LB 400 g){k:Int}(ha:Pb a)(hb':Pb b)(ne:a≠b):∀f∈dQ k a b bs.zipIdx,bL f/\sz f<=400:=λf m=>by
 obtain⟨x,mx,m⟩:=UC.mp m;split at m
 ·simp at m
 ·exact F8 ha hb' ne (hb x.1 (SY (TQ.mp mx))).pb f m
theorem Wn{bs:List eJ}(hb:∀g∈bs,LB 400 g){k j:Nat}{g:eJ}(hj:bs[j]?=oZ g)(yh:j≠k)(ha:Pb a)(hb':Pb b)(ne:a≠b)(me:e∈d5 g.o){t:Rat}(t0:0<t)(t1:t<1)(z:fE e (cL (vq a) (vq b) t)=0)(nz:¬(fE e (vq a)=0/\fE e (vq b)=0))(ib:Cg (d5 g.o) (cL (vq a) (vq b) t)):∃c∈gC bs k a b,val c=t:=by
 have lg:=hb g (SY hj);obtain⟨f,mf,og,r,r0,hr⟩:=lg.gb.cx.on me z ib;obtain⟨x,mx,rfl⟩:=SS.mp mf;obtain⟨m1,m2⟩:=kK mx;have nz':fE (vq x.1,vq x.2) (vq a)≠fE (vq x.1,vq x.2) (vq b):=λq=>by
  have oz:=og.z;rw[mQ]at oz;have z1:fE (vq x.1,vq x.2) (vq a)=0:=by grind
  have z2:fE (vq x.1,vq x.2) (vq b)=0:=by grind
  rw[hr]at z1 z2;have rn:r≠0:=by grind
  exact nz ⟨(Rat.mul_eq_zero.mp z1).resolve_left rn,(Rat.mul_eq_zero.mp z2).resolve_left rn⟩
 obtain⟨s,ms,vs⟩:=EG ha.np hb'.np (lg.pb _ m1).np (lg.pb _ m2).np og (lg.gb.cx.ne _ mf) nz';have msh:=vD (k:=k) hj yh (UC.mpr ⟨x,Sl mx,ms⟩:s∈Gf a b g.o);exact⟨s,(Ey λf m=>(jN hb ha hb' ne f m).1).m s msh (by rw[vs];exact t0) (by rw[vs];exact t1),vs⟩
theorem kG(ha:NP a)(hb:NP b)(hx:NP x)(ne:a≠b)(z:fE (vq a,vq b) (vq x)=0):vq x=cL (vq a) (vq b) (val (bH a b x)):=by
 have d0:=jO ha hb ne;have c:aT (aK (vq b) (vq a)) (aK (vq x) (vq a))=0:=z;obtain⟨p1,p2⟩:=par d0 c;have n0:aN (aK (vq b) (vq a)) (aK (vq b) (vq a))≠0:=by grind
 generalize hs:aN (aK (vq b) (vq a)) (aK (vq x) (vq a))/aN (aK (vq b) (vq a)) (aK (vq b) (vq a))=s;have e1:val x.1-val a.1=s*(val b.1-val a.1):=by
  have:(val x.1-val a.1)*aN (aK (vq b) (vq a)) (aK (vq b) (vq a))=aN (aK (vq b) (vq a)) (aK (vq x) (vq a))*(val b.1-val a.1):=p1;grind
 have e2:val x.2-val a.2=s*(val b.2-val a.2):=by
  have:(val x.2-val a.2)*aN (aK (vq b) (vq a)) (aK (vq b) (vq a))=aN (aK (vq b) (vq a)) (aK (vq x) (vq a))*(val b.2-val a.2):=p2;grind
 have ev:val (bH a b x)=s:=by
  unfold bH
  by_cases q:a.1=b.1
  ·rw[oV q];have q2:a.2≠b.2:=λw=>ne (Prod.ext q w);have y0:=uJ hb.y ha.y q2;have n2:=aR hb.y ha.y;rw[Ki (aR hx.y ha.y) n2 y0,bK hx.y ha.y,bK hb.y ha.y,e2];have:val b.2-val a.2≠0:=λw=>q2 (gT ha.y hb.y (by grind));grind
  ·rw[oW q];have x0:=uJ hb.x ha.x q;have n2:=aR hb.x ha.x;rw[Ki (aR hx.x ha.x) n2 x0,bK hx.x ha.x,bK hb.x ha.x,e1];have:val b.1-val a.1≠0:=λw=>q (gT ha.x hb.x (by grind));grind
 rw[ev];unfold vq cL;exact Prod.ext (by simp only;grind) (by simp only;grind)
theorem CL(h:0<aN (aK q p) (aK q p)){s t:Rat}(e:cL p q s=cL p q t):s=t:=by
 have e1:p.1+(q.1-p.1)*s=p.1+(q.1-p.1)*t:=congrArg Prod.fst e;have e2:p.2+(q.2-p.2)*s=p.2+(q.2-p.2)*t:=congrArg Prod.snd e;have k1:(q.1-p.1)*(s-t)=0:=by grind
 have k2:(q.2-p.2)*(s-t)=0:=by grind
 obtain z1|z1:=Rat.mul_eq_zero.mp k1
 ·obtain z2|z2:=Rat.mul_eq_zero.mp k2
  ·unfold aN aK at h;rw[z1,z2]at h;grind
  ·grind
 ·grind
theorem Wz{bs:List eJ}(hb:∀g∈bs,LB 400 g){k j:Nat}{g:eJ}(hj:bs[j]?=oZ g)(yh:j≠k)(ha:Pb a)(hb':Pb b)(ne:a≠b){x:Pt×Pt}(mx:x∈zr g.o)(z1:fE (vq a,vq b) (vq x.1)=0)(z2:fE (vq a,vq b) (vq x.2)=0)(hy:y=x.1\/y=x.2)(t0:0<val (bH a b y))(t1:val (bH a b y)<1):∃c∈gC bs k a b,val c=val (bH a b y):=by
 have lg:=hb g (SY hj);obtain⟨m1,m2⟩:=kK mx;have p1:=lg.pb _ m1;have p2:=lg.pb _ m2;have n1:=eT hb'.np ha.np;have n2:=eT p2.np p1.np;have n3:=eT p1.np ha.np;have n4:=eT p2.np ha.np;have d0:=jO ha.np hb'.np ne;have c1:¬(jR (dP b a) (dP x.2 x.1)).1≠0:=λz=>z ((lN (gX n1 n2)).mpr (by
  rw[pS n1 n2,cC hb'.np ha.np,cC p2.np p1.np];have:aT (aK (vq b) (vq a)) (aK (vq x.2) (vq x.1))=fE (vq a,vq b) (vq x.2)-fE (vq a,vq b) (vq x.1):=by unfold fE aT aH aK;grind
  rw[this,z1,z2];grind))
 have c2:¬(jR (dP b a) (dP x.1 a)).1≠0:=λz=>z ((lN (gX n1 n3)).mpr (by
  rw[pS n1 n3,cC hb'.np ha.np,cC p1.np ha.np];exact z1))
 have dz:(vW (dP b a) (dP b a)).1≠0:=λz=>by
  have:=(lN (nL n1 n1)).mp z;rw[Gv n1 n1,cC hb'.np ha.np]at this;grind
 have em:jX a b x.1 x.2=[sO (vW (dP b a) (dP x.1 a)) (vW (dP b a) (dP b a)),sO (vW (dP b a) (dP x.2 a)) (vW (dP b a) (dP b a))]:=by
  unfold jX;rw[oW c1,oW c2]
 have share:∀y:Pt,NP y->fE (vq a,vq b) (vq y)=0->val (sO (vW (dP b a) (dP y a)) (vW (dP b a) (dP b a)))=val (bH a b y):=λy hy z=>by
  have ny:=eT hy ha.np;have vo:=Nr (nL n1 ny) (nL n1 n1) dz;rw[Gv n1 ny,Gv n1 n1,cC hb'.np ha.np,cC hy ha.np,kG ha.np hb'.np hy ne z]at vo;have:aN (aK (vq b) (vq a)) (aK (cL (vq a) (vq b) (val (bH a b y))) (vq a))=val (bH a b y)*aN (aK (vq b) (vq a)) (aK (vq b) (vq a)):=by unfold aN aK cL;grind
  rw[this]at vo;have:(val (sO (vW (dP b a) (dP y a)) (vW (dP b a) (dP b a)))-val (bH a b y))*aN (aK (vq b) (vq a)) (aK (vq b) (vq a))=0:=by grind
  have:=(Rat.mul_eq_zero.mp this).resolve_right (by grind);grind
 have fin:∀s∈jX a b x.1 x.2,val s=val (bH a b y)->∃c∈gC bs k a b,val c=val (bH a b y):=λs ms vs=>by
  have msh:=vD (k:=k) hj yh (UC.mpr ⟨x,Sl mx,ms⟩:s∈Gf a b g.o);exact⟨s,(Ey λf m=>(jN hb ha hb' ne f m).1).m s msh (by rw[vs];exact t0) (by rw[vs];exact t1),vs⟩
 obtain rfl|rfl:=hy
 ·exact fin _ (by rw[em];simp) (share _ p1.np z1)
 ·exact fin _ (by rw[em];simp) (share _ p2.np z2)
structure L6(bs:List eJ)(k:Nat)(a b:Pt):Prop where
 hb:∀g∈bs,LB 400 g
 ha:Pb a
 hb':Pb b
 ne:a≠b
theorem L6.ro(h:L6 bs k a b):Vs (dQ (k:Int) a b bs.zipIdx) (gC bs k a b):=Ey λf m=>(jN h.hb h.ha h.hb' h.ne f m).1
theorem L6.ov_cut(h:L6 bs k a b)(hj:bs[j]?=oZ g)(yh:j≠k)(o:NH (d5 g.o) (vq a) (vq b) r):(∃c∈gC bs k a b,val c=val r.1)/\∃c∈gC bs k a b,val c=val r.2.1:=by
 have l0:=o.l0;have l1:=o.h1;have lt:=o.lt;constructor
 ·obtain e|⟨e,f,mf,z1,z2,z3⟩:=o.lo
  ·exact⟨(0,1),h.ro.z,by rw[e]⟩
  ·exact Wn h.hb hj yh h.ha h.hb' h.ne mf e (by grind) z3 (λw=>by grind) ((o.s _ l0 (by grind)).mpr ⟨by grind,Rat.le_of_lt lt⟩)
 ·obtain e|⟨e,f,mf,z1,z2,z3⟩:=o.hi
  ·exact⟨(1,1),h.ro.o,by rw[e]⟩
  ·exact Wn h.hb hj yh h.ha h.hb' h.ne mf (by grind) e z3 (λw=>by grind) ((o.s _ (by grind) l1).mpr ⟨Rat.le_of_lt lt,by grind⟩)
def PQ(es:List Ez):Bool:=es.zipIdx.all λx=>es.zipIdx.all λy=>decide (x.2=y.2)||(!decide (Le (vz x.1) (vz y.1)=0)||(!decide (fz x.1 y.1.1=0)||(decide (0<=Wv (vz x.1) (G0 y.1.1 x.1.2))||decide (0<=Wv (vz x.1) (G0 x.1.1 y.1.2)))))
theorem Q3:((VF 5).all λw=>(VF 6).all λx=>(VF 6).all λy=>PQ (HP (gL ((x:Int)+1) ((y:Int)+1) w)))=true:=by decide +kernel
theorem Q5{x y:Int}(hx:1<=x)(hx':x<=6)(hy:1<=y)(hy':y<=6)(hw:w<5):PQ (HP (gL x y w))=true:=by
 have h:=Q3;rw[VS]at h;have h1:=h w (VL.mpr hw);rw[VS]at h1;have h2:=h1 (x-1).toNat (VL.mpr ⋯);rw[VS]at h2;have h3:=h2 (y-1).toNat (VL.mpr ⋯);rw[show(((x-1).toNat:Nat):Int)+1=x by lia,show(((y-1).toNat:Nat):Int)+1=y by lia]at h3;exact h3
def DJ(es:List Eg):Prop:=∀(i j:Nat)(x y:Eg),es[i]?=oZ x->es[j]?=oZ y->i≠j->aT (aH x) (aH y)=0->fE x y.1=0->0<=aN (aH x) (aK y.1 x.2)\/0<=aN (aH x) (aK x.1 y.2)
theorem LB.dj(h:LB 400 b):DJ (d5 b.o):=by
 obtain⟨w,u,v,X,Y,h1,h2,h3,h4,h5,h6,h7,h8⟩:=h.ex;rw[h8,Pa];have od:=Q5 h2 h3 h4 h5 h1;generalize HP (gL u v w)=es at od;intro i j x y hi hj ij c z;rw[TR]at hi hj;cases qi:es[i]? with
 |none=>rw[qi]at hi;cases hi
 |some e=>
  cases qj:es[j]? with
  |none=>rw[qj]at hj;cases hj
  |some g=>
   rw[qi]at hi;rw[qj]at hj;cases hi;cases hj;unfold PQ at od;rw[VS]at od;have o1:=od (e,i) (TQ.mpr qi);rw[VS]at o1;have o2:=o1 (g,j) (TQ.mpr qj);simp only[YF,XR,decide_eq_true_eq,decide_eq_false_iff_not]at o2;have cc:aT (aH (qZ X Y e)) (aH (qZ X Y g))=((Le (vz e) (vz g):Int):Rat):=by rw[pT,pT];unfold aT Le;push_cast;rfl
   have ff:fE (qZ X Y e) (qZ X Y g).1=((fz e g.1:Int):Rat):=by
    unfold fE fz aT Le;rw[pT];unfold aK qZ pq G0
    push_cast
    grind
   have d1:aN (aH (qZ X Y e)) (aK (qZ X Y g).1 (qZ X Y e).2)=((Wv (vz e) (G0 g.1 e.2):Int):Rat):=by
    rw[pT];unfold aN Wv aK qZ pq G0;push_cast;grind
   have d2:aN (aH (qZ X Y e)) (aK (qZ X Y e).1 (qZ X Y g).2)=((Wv (vz e) (G0 e.1 g.2):Int):Rat):=by
    rw[pT];unfold aN Wv aK qZ pq G0;push_cast;grind
   rw[cc]at c;rw[ff]at z;have c':Le (vz e) (vz g)=0:=by exact_mod_cast c
   have z':fz e g.1=0:=by exact_mod_cast z
   rw[d1,d2];obtain o|o|o|o|o:=o2
   ·exact absurd o ij
   ·exact absurd c' o
   ·exact absurd z' o
   ·exact .inl (by exact_mod_cast o)
   ·exact .inr (by exact_mod_cast o)
theorem Cw(h:0<aN (aK d c) (aK d c))(z1:fE (c,d) p=0)(z2:fE (c,d) q=0):fE (p,q) c=0/\fE (p,q) d=0/\aT (aK q p) (aK d c)=0:=by
 have c0:aT (aK d c) (aK q p)=0:=by
  have:aT (aK d c) (aK q p)=fE (c,d) q-fE (c,d) p:=by unfold fE aT aH aK;grind
  rw[this,z1,z2];grind
 have k1:=kM (w:=aK c p) h c0;have k2:=kM (w:=aK d p) h c0;have n0:aN (aK d c) (aK d c)≠0:=by grind
 have e1:aT (aK c p) (aK d c)=fE (c,d) p:=by unfold fE aT aH aK;grind
 have e2:aT (aK d p) (aK d c)=fE (c,d) p:=by unfold fE aT aH aK;grind
 rw[e1,z1]at k1;rw[e2,z1]at k2;have f1:fE (p,q) c = - aT (aK c p) (aK q p):=by unfold fE aT aH aK;grind
 have f2:fE (p,q) d = - aT (aK d p) (aK q p):=by unfold fE aT aH aK;grind
 have y1:aT (aK c p) (aK q p)=0:=by
  have:aT (aK c p) (aK q p)*aN (aK d c) (aK d c)=0:=by grind
  exact(Rat.mul_eq_zero.mp this).resolve_right n0
 have y2:aT (aK d p) (aK q p)=0:=by
  have:aT (aK d p) (aK q p)*aN (aK d c) (aK d c)=0:=by grind
  exact(Rat.mul_eq_zero.mp this).resolve_right n0
 refine⟨by rw[f1,y1];grind,by rw[f2,y2];grind,?_⟩;unfold aT at c0⊢;grind
theorem sI(hc:Pb c)(hd:Pb d)(hp:Pb p)(hq:Pb q)(n1:c≠d)(n2:p≠q):dA (iD c d)=dA (iD p q)↔fE (vq c,vq d) (vq p)=0/\fE (vq c,vq d) (vq q)=0/\0<aN (aH (vq c,vq d)) (aK (vq q) (vq p)):=by
 have d1:=jO hc.np hd.np n1;have d2:=jO hp.np hq.np n2;have g1:=sC hc.np.spt hd.np.spt d1;have g2:=sC hp.np.spt hq.np.spt d2;constructor
 ·intro e;obtain⟨k,k0,a1,a2⟩:=Ii hc.np.spt hd.np.spt hp.np.spt hq.np.spt g1;obtain⟨k',k0',b1,b2⟩:=Ii hp.np.spt hq.np.spt hp.np.spt hq.np.spt g2;rw[e,b1]at a1;rw[e,b2]at a2;have y1:fE (vq p,vq q) (vq p)=0:=by unfold fE aT aH aK;grind
  have y2:fE (vq p,vq q) (vq q)=0:=by unfold fE aT aH aK;grind
  rw[y1]at a1;rw[y2]at a2;have z1:fE (vq c,vq d) (vq p)=0:=by
   have:k*fE (vq c,vq d) (vq p)=0:=by grind
   exact(Rat.mul_eq_zero.mp this).resolve_left (by grind)
  have z2:fE (vq c,vq d) (vq q)=0:=by
   have:k*fE (vq c,vq d) (vq q)=0:=by grind
   exact(Rat.mul_eq_zero.mp this).resolve_left (by grind)
  exact⟨z1,z2,(Dz hc.np.spt hd.np.spt hp.np.spt hq.np.spt g1 g2 d1 z1 z2).mp e⟩
 ·rintro⟨z1,z2,z3⟩;exact(Dz hc.np.spt hd.np.spt hp.np.spt hq.np.spt g1 g2 d1 z1 z2).mpr z3
theorem Z6{o:List Pt}{i:Nat}{x:Pt×Pt}(h:(zr o)[i]?=oZ x):(d5 o)[i]?=oZ (vq x.1,vq x.2):=by unfold d5;rw[TR,h];rfl
theorem LB.ed(h:LB 400 g)(mx:x∈zr g.o):Pb x.1/\Pb x.2/\x.1≠x.2:=by
 obtain⟨m1,m2⟩:=kK mx;refine⟨h.pb _ m1,h.pb _ m2,λe=>?_⟩;have:=h.gb.cx.ne _ (SS.mpr ⟨x,mx,rfl⟩);rw[e]at this;unfold aN aH aK at this;grind
section
variable{P:da}{w:dk}{K:W.Frag}{mg:Str->Option oA}{base:oE}
def zB(os:List Ov)(t:Rat):Prop:=∃r,oZ r∈os/\r.2.2≠1/\val r.1<t/\t<val r.2.1
def CB(ts:List (Fr×Fr))(t:Rat):Prop:=∃x∈ts,val x.1<t/\t<val x.2
def rY(os:List Ov):List Rat:=os.flatMap λo=>match o with
 |none=>[]
 |some r=>[val r.1,val r.2.1]
def xF(ts:List (Fr×Fr)):List Rat:=ts.flatMap λx=>[val x.1,val x.2]
theorem Tn{os:List Ov}{r:Fr×Fr×Nat}(m:oZ r∈os):val r.1∈rY os/\val r.2.1∈rY os:=
 ⟨UC.mpr ⟨oZ r,m,by simp⟩,UC.mpr ⟨oZ r,m,by simp⟩⟩
theorem To(m:x∈ts):val x.1∈xF ts/\val x.2∈xF ts:=
 ⟨UC.mpr ⟨x,m,by simp⟩,UC.mpr ⟨x,m,by simp⟩⟩
theorem Pq{t:Rat}:∀(os:List Ov)(rows:List lQ),(∀o∈os,Ci o)->j4 rows->t∉rY os->(∀rs,eQ os rows=oZ rs->j4 rs/\(Nn rs t↔Nn rows t/\¬zB os t))/\(eQ os rows=none->∃r,oZ r∈os/\r.2.2≠1/\r.1=(0,1)/\r.2.1=(1,1))
 |[],rows,_,h,_=>⟨λrs e=>by
   cases e;refine⟨h,⟨λz=>⟨z,λzZ=>by obtain⟨r,m,_⟩:=zZ;exact absurd m (by simp)⟩,λz=>z.1⟩⟩,λe=>by cases e⟩
 |none::os,rows,ho,h,hF=>by
  have ih:=Pq os rows (λo m=>ho o (by simp[m])) h (λz=>hF (by unfold rY at z⊢;simp only[UT];exact TK _ z));have cv:zB (none::os) t↔zB os t:=by unfold zB;simp
  refine⟨λrs e=>by rw[cv];exact ih.1 rs e,λe=>?_⟩;obtain⟨r,m,k⟩:=ih.2 e;exact⟨r,by simp[m],k⟩
 |some r::os,rows,ho,h,hF=>by
  have uz:t∉rY os:=λz=>hF (by unfold rY at z⊢;simp only[UT];exact TK _ z);obtain⟨e1,e2⟩:=Tn (os:=oZ r::os) (r:=r) (by simp);obtain⟨f1,f2⟩:=ho (oZ r) (by simp) r rfl;have wm:∀o∈os,Ci o:=λo m=>ho o (by simp[m]);unfold eQ
  by_cases c:r.2.2=1
  ·rw[oV c];have ih:=Pq os rows wm h uz;have cv:zB (oZ r::os) t↔zB os t:=by
    constructor
    ·rintro⟨r',m,k,k'⟩;obtain q|m:=SU.mp m
     ·cases q;exact absurd c k
     ·exact⟨r',m,k,k'⟩
    ·rintro⟨r',m,k⟩;exact⟨r',by simp[m],k⟩
   refine⟨λrs e=>by rw[cv];exact ih.1 rs e,λe=>?_⟩;obtain⟨r',m,k⟩:=ih.2 e;exact⟨r',by simp[m],k⟩
  ·rw[oW c]
   by_cases d:r.1=(0,1)/\r.2.1=(1,1)
   ·rw[oV d];exact⟨λrs e=>(by cases e),λ_=>⟨r,by simp,c,d⟩⟩
   ·rw[oW d];have ih:=Pq os (bY rows r.1 r.2.1) wm (iB h f1 f2) uz;have nn:=Qj f1.d f2.d h (t:=t) (λz=>hF (z ▸ e1)) (λz=>hF (z ▸ e2));have cv:zB (oZ r::os) t↔(val r.1<t/\t<val r.2.1)\/zB os t:=by
     constructor
     ·rintro⟨r',m,k,k'⟩;obtain q|m:=SU.mp m
      ·cases q;exact .inl k'
      ·exact .inr ⟨r',m,k,k'⟩
     ·rintro (k|⟨r',m,k⟩)
      ·exact⟨r,by simp,c,k⟩
      ·exact⟨r',by simp[m],k⟩
    refine⟨λrs e=>?_,λe=>?_⟩
    ·obtain⟨a,b⟩:=ih.1 rs e;refine⟨a,?_⟩;rw[b,nn,cv];constructor
     ·rintro⟨⟨x,y⟩,z⟩;exact⟨x,λw=>w.elim y z⟩
     ·rintro⟨x,y⟩;exact⟨⟨x,λw=>y (.inl w)⟩,λw=>y (.inr w)⟩
    ·obtain⟨r',m,k⟩:=ih.2 e;exact⟨r',by simp[m],k⟩
theorem BX{t:Rat}:∀(ts:List (Fr×Fr))(rows:List lQ),(∀x∈ts,F2 x.1/\F2 x.2)->j4 rows->t∉xF ts->(Nn (oO ts rows) t↔Nn rows t/\¬CB ts t)
 |[],rows,_,_,_=>⟨λz=>⟨z,λzZ=>by obtain⟨x,m,_⟩:=zZ;exact absurd m (by simp)⟩,λz=>z.1⟩
 |x::ts,rows,ht,h,hF=>by
  obtain⟨f1,f2⟩:=ht x (by simp);obtain⟨e1,e2⟩:=To (ts:=x::ts) (x:=x) (by simp);have nn:=Qj f1.d f2.d h (t:=t) (λz=>hF (z ▸ e1)) (λz=>hF (z ▸ e2));have ih:=BX ts (bY rows x.1 x.2) (λy m=>ht y (by simp[m])) (iB h f1 f2) (λz=>hF (by unfold xF at z⊢;simp only[UT];exact TK _ z));unfold oO;rw[ih,nn];constructor
  ·rintro⟨⟨a,b⟩,c⟩;refine⟨a,λzZ=>?_⟩;obtain⟨y,m,k⟩:=zZ;obtain rfl|m:=SU.mp m
   ·exact b k
   ·exact c ⟨y,m,k⟩
  ·rintro⟨a,b⟩;exact⟨⟨a,λk=>b ⟨x,by simp,k⟩⟩,λzZ=>by obtain⟨y,m,k⟩:=zZ;exact b ⟨y,by simp[m],k⟩⟩
theorem Hh(hs:∀s∈shs,pE s)(en:wN p q)(vg:∀x∈tw,Pb x.1/\Pb x.2){t:Rat}(h1:t∉rY (shs.map λs=>bA s (gK p q)))(h2:t∉xF (zA p q tw)):
  inA (fL shs p q tw) t↔(0<t/\t<1)/\¬zB (shs.map λs=>bA s (gK p q)) t/\¬CB (zA p q tw) t:=by
 obtain⟨g1,g2,g3'⟩:=Ra en;have r0:j4 m6:=λr m=>by
  have e:r=((0,1),(1,1),false):=by simpa[m6]using m
  subst e;exact⟨Sn,So⟩
 have n0:Nn m6 t↔0<t/\t<1:=by
  unfold Nn m6;constructor
  ·rintro⟨r,m,_,a,b⟩;rw[TM]at m;subst m;simp only at a b;rw[dX]at a;rw[gN]at b;exact⟨a,b⟩
  ·rintro⟨a,b⟩;exact⟨_,TM.mpr rfl,rfl,by simp only;rw[dX];exact a,by simp only;rw[gN];exact b⟩
 have hov:∀o∈shs.map (λs=>bA s (gK p q)),Ci o:=λo m=>by
  obtain⟨s,ms,rfl⟩:=SS.mp m;exact Qm (hs s ms).b g1 g2
 have htp:∀t∈zA p q tw,F2 t.1/\F2 t.2:=λt m=>by
  obtain⟨y,my,rfl⟩:=SS.mp m;exact⟨(kN en.hp en.hq (vg y my).1 en.ne).2.2,(kN en.hp en.hq (vg y my).2 en.ne).2.2⟩
 obtain⟨ga,gb⟩:=Pq _ m6 hov r0 h1;unfold fL rO;cases g:eQ (shs.map λs=>bA s (gK p q)) m6 with
 |none=>
  obtain⟨r,m,k,k1,k2⟩:=gb g;constructor
  ·rintro⟨a,m,_⟩;simp at m
  ·rintro⟨⟨a,b⟩,c,_⟩;exact absurd ⟨r,m,k,by rw[k1,dX];exact a,by rw[k2,gN];exact b⟩ c
 |some rs=>
  obtain⟨ro,nn⟩:=ga rs g;have tn:=BX (zA p q tw) rs htp ro h2;have ie:inA (fU (oO (zA p q tw) rs)) t↔Nn (oO (zA p q tw) rs) t:=by
   unfold inA fU Nn;constructor
   ·rintro⟨a,m,k⟩;obtain⟨r,mr,rfl⟩:=SS.mp m;obtain⟨m1,m2⟩:=TL.mp mr;exact⟨r,m1,by simpa using m2,k⟩
   ·rintro⟨r,m,f,k⟩;exact⟨(r.1,r.2.1),SS.mpr ⟨r,TL.mpr ⟨m,by rw[f];rfl⟩,rfl⟩,k⟩
  show inA (fU (oO (zA p q tw) rs)) t↔_;rw[ie,tn,nn,n0];constructor
  ·rintro⟨⟨a,b⟩,c⟩;exact⟨a,b,c⟩
  ·rintro⟨a,b,c⟩;exact⟨⟨a,b⟩,c⟩
where
 mrgGo (x:Fr×Fr):List (Fr×Fr)->List (Fr×Fr)
  |[]=>[x]
  |y::r=>if x.2=y.1 then mrgGo (x.1,y.2) r else x::mrgGo y r
end
def Sf(es:List EI)(l:I3):List Pr:=(es.filter λe=>decide (e.l=l)).map λe=>(e.p,e.q)
theorem Of:∀(es pre:List EI)(M:AD),(∀l,dY M l=Sf pre l)->pF shs es M=(es.zipIdx).flatMap λx=>dC x.1 (fL shs x.1.p x.1.q (Sf (pre++es.take x.2) x.1.l))
 |[],pre,M,_=>rfl
 |e::es,pre,M,hM=>by
  unfold pF;have ih:=Of (shs:=shs) es (pre++[e]) (kY M e.l (dY M e.l++[(e.p,e.q)])) (λl=>by
   rw[sE,hM,hM];unfold Sf;rw[YI,US]
   by_cases c:e.l=l
   ·rw[oV c,UM (by simpa using c)];rw[c];rfl
   ·rw[oW c,VC (by simpa using c)];simp)
  rw[ih,au,UT,hM]
  congr 1
  ·simp
  ·rw[show es.zipIdx (0+1)=es.zipIdx.map λx=>(x.1,x.2+1) by rw[YJ];exact List.zipIdx_succ,List.flatMap_map]
   congr 1
   funext x
   simp[TF]
def Lx(e f:EI):Prop:=e.n<f.n\/(e.n=f.n/\e.k<f.k)
theorem HN{α:Type}(xs:List α):∀n,(xs.zipIdx n).Pairwise λa b=>a.2<b.2:=by
 induction xs with
 |nil=>intro n;exact List.Pairwise.nil
 |cons x xs ih=>
  intro n;rw[au];refine UL.mpr ⟨λy m=>?_,ih _⟩;have:=List.le_snd_of_mem_zipIdx m;show n<y.2
  lia
theorem CK(bs:List eJ)(marks:Str):(cE bs marks).Pairwise Lx:=by
 unfold cE;rw[List.pairwise_flatMap];refine⟨λx _=>?_,(HN bs 0).imp λ{x y}h e me f mf=>?_⟩
 ·unfold L1;rw[ZZ];exact(List.pairwise_lt_range.filter _).imp λh=>.inr ⟨rfl,h⟩
 ·obtain⟨i,_,rfl⟩:=SS.mp me;obtain⟨j,_,rfl⟩:=SS.mp mf;exact .inl h
theorem Y1{es:List EI}(h:es.Pairwise Lx)(he:es[i]?=oZ e):f∈es.take i↔f∈es/\Lx f e:=by
 have hi:i<es.length:=(SW.mp he).1;have sp:es=es.take i++e::es.drop (i+1):=by
  conv=>lhs;rw[<-List.take_append_drop i es]
  rw[VT hi,(SW.mp he).2]
 have h':=h;rw[sp,List.pairwise_append]at h';obtain⟨_,h2,h3⟩:=h';obtain⟨h4,_⟩:=UL.mp h2;constructor
 ·intro m;exact⟨VH m,h3 f m e (by simp)⟩
 ·rintro⟨m,l⟩;rw[sp]at m;obtain m|m:=TY.mp m
  ·exact m
  ·obtain rfl|m:=SU.mp m
   ·unfold Lx at l;lia
   ·have:=h4 f m;unfold Lx at l this;lia
theorem Tj(h:(zr g.o)[i]?=oZ (p,q)):(Li n g i).p=p/\(Li n g i).q=q/\(Li n g i).l=dA (iD p q):=by
 have hi:i<g.o.length:=by rw[<-Gx];exact(SW.mp h).1
 obtain⟨p',q',h1,h2,h3⟩:=vF hi;rw[h]at h3;cases h3;refine⟨?_,?_,?_⟩
 ·show g.o.getD i NR=p;rw[TV,h1];rfl
 ·show g.o.getD ((i+1)%g.o.length) NR=q;rw[TV,h2];rfl
 ·show(bE g).ls.getD i (0,0,0)=_;rw[Qh,TV,TR,h];rfl
def bU(o d:Q2)(y:Rat):Q2:=(o.1+d.1*y,o.2+d.2*y)
def sl(d:Q2)(e:Eg):Rat:=aT (aH e) d
def ht(d p:Q2):Rat:=aT p d
theorem jU(e:Eg)(o d:Q2)(y:Rat):fE e (bU o d y)=fE e o+sl d e*y:=by unfold fE sl aT aH aK bU;grind
theorem BA(d:Q2)(e:Eg):sl d e=ht d e.2-ht d e.1:=by unfold sl ht aT aH aK;grind
theorem Az(o d:Q2)(y:Rat):ht d (bU o d y)=ht d o:=by unfold ht aT bU;grind
theorem Ya(d p q:Q2)(t:Rat):ht d (cL p q t)=ht d p+(ht d q-ht d p)*t:=by unfold ht aT cL;grind
def Ow'(B:List (List Eg))(e:Eg)(x:Q2):Prop:=∃es∈B,e∈es/\Cg es x
structure Gn(B:List (List Eg))(o d:Q2):Prop where
 n:∀e∈B.flatten,0<aN (aH e) (aH e)
 v:∀e∈B.flatten,ht d e.1≠ht d o/\ht d e.2≠ht d o
 c:∀e g y,Ow' B e (bU o d y)->Ow' B g (bU o d y)->fE e (bU o d y)=0->fE g (bU o d y)=0->aT (aH e) (aH g)=0
theorem Ow'.m(h:Ow' B e x):e∈B.flatten:=by obtain⟨es,m,me,_⟩:=h;exact WS.mpr ⟨es,m,me⟩
theorem Gn.s(h:Gn B o d)(me:e∈B.flatten){y:Rat}(z:fE e (bU o d y)=0):sl d e≠0:=λs=>by
 have n:=h.n e me;rw[jU,s]at z;have z0:aT (aH e) (aK o e.1)=0:=(show fE e o=0 by grind);have k:=kM (w:=d) n z0;have s':aT d (aH e)=0:=by unfold sl aT at s;unfold aT;grind
 rw[s']at k;have:aT d (aK o e.1)=0:=by
  have k':aT d (aK o e.1)*aN (aH e) (aH e)=0:=by rw[k];grind
  obtain q|q:=Rat.mul_eq_zero.mp k'
  ·exact q
  ·grind
 refine(h.v e me).1 ?_;unfold ht aT aK at *;grind
def vM(b:Bool)(s:Rat):Prop:=if b=true then 0<s else s<0
theorem Rb(hu:0<aN u u)(c:aT u v=0)(k:0<aN u v)(h:vM b (aT u d)):vM b (aT v d):=by
 have e:=kM (w:=d) hu c;have e':aT v d*aN u u=aN u v*aT u d:=by unfold aT at *;grind
 cases b with
 |true=>
  have h:0<aT u d:=h;exact show 0<aT v d from bJ hu (by rw[e'];exact Rat.mul_pos k h)
 |false=>
  have h:aT u d<0:=h;have:=Rat.mul_pos k (show 0 < -aT u d by grind);have:0 < -aT v d:=bJ hu (by grind);exact show aT v d<0 by grind
theorem Gb{s:Rat}(h:vM b s):¬vM (!b) s:=by
 cases b with
 |true=>have h:0<s:=h;exactλz=>by have z:s<0:=z;grind
 |false=>have h:s<0:=h;exactλz=>by have z:0<s:=z;grind
theorem Nf {s : Rat} (h : s ≠ 0) (b : Bool) : vM b s \/ vM (!b) s := by
  cases b with
  | true => by_cases c : 0 < s
            . exact .inl c
            . exact .inr (show s < 0 by grind)
  | false => by_cases c : 0 < s
             . exact .inr c
             . exact .inl (show s < 0 by grind)
theorem jS{s:Rat}(h:vM b s):s≠0:=λz=>by
 rw[z]at h;cases b with
 |true=>have h:(0:Rat)<0:=h;grind
 |false=>have h:(0:Rat)<0:=h;grind
theorem Gn.zz(h:Gn B o d){y:Rat}(me:Ow' B e (bU o d y))(mg:Ow' B g (bU o d y))(ze:fE e (bU o d y)=0)(zg:fE g (bU o d y)=0):fE e g.1=0/\fE e g.2=0:=by
 have c:=h.c e g y me mg ze zg;have n:=h.n g mg.m;have c':aT (aH g) (aH e)=0:=by unfold aT at *;grind
 have key:∀p,aT (aH g) (aK p (bU o d y))=0->fE e p=0:=λp k=>by
  have q:=kM (w:=aH e) n k;have:fE e p-fE e (bU o d y)=aT (aH e) (aK p (bU o d y)):=by unfold fE aT aK;grind
  rw[ze]at this;rw[c]at q;have q':aT (aH e) (aK p (bU o d y))*aN (aH g) (aH g)=0:=by rw[q];grind
  rcases Rat.mul_eq_zero.mp q' with w|w<;>grind
 refine⟨key _ ?_,key _ ?_⟩
 ·have:aT (aH g) (aK g.1 (bU o d y)) = -fE g (bU o d y):=by unfold fE aT aK;grind
  rw[this,zg];grind
 ·have:aT (aH g) (aK g.2 (bU o d y)) = -fE g (bU o d y):=by unfold fE aT aH aK;grind
  rw[this,zg];grind
def tE(o d:Q2)(e:Eg):Rat:=(ht d o-ht d e.1)/sl d e
theorem pA{h:Rat}(s:sl d e≠0)(z:fE e (bU o d h)=0):bU o d h=cL e.1 e.2 (tE o d e):=by
 have n:0<aN (aH e) (aH e):=by
  have a:=BB (aH e).1;have b:=BB (aH e).2;unfold aN
  by_cases c:(aH e).1=0
  ·by_cases c2:(aH e).2=0
   ·exfalso;apply s;unfold sl aT;rw[c,c2];grind
   ·have:=qU c2;grind
  ·have:=qU c;grind
 obtain⟨p1,p2⟩:=par n (show aT (aH e) (aK (bU o d h) e.1)=0 from z);have n0:aN (aH e) (aH e)≠0:=by grind
 have hs:ht d o-ht d e.1=aT (aK (bU o d h) e.1) d:=by rw[<-Az o d h];unfold ht aT aK;grind
 have hk:aT (aK (bU o d h) e.1) d*aN (aH e) (aH e)=aN (aH e) (aK (bU o d h) e.1)*sl d e:=by
  unfold sl aT;grind
 have ht':tE o d e*aN (aH e) (aH e)=aN (aH e) (aK (bU o d h) e.1):=by
  unfold tE;rw[hs,Rat.div_def];grind
 generalize tE o d e=t at *;rw[<-ht']at p1 p2;have q1:(aK (bU o d h) e.1).1=t*(aH e).1:=by grind
 have q2:(aK (bU o d h) e.1).2=t*(aH e).2:=by grind
 unfold aK aH aK at q1 q2;unfold cL;exact Prod.ext (by simp only at *;grind) (by simp only at *;grind)
theorem F5{f s h y:Rat}(hy:h<y)(nz:∀z,h<z->z<=y->f+s*z≠0):0<f+s*y↔0<f+s*h\/(f+s*h=0/\0<s):=by
 have root:s≠0->f+s*(-f/s)=0:=λq=>by rw[Rat.div_def];grind
 have mono:∀z w:Rat,0<s->z<w->s*z<s*w:=λz w p q=>by have:=Rat.mul_pos p (show 0<w-z by grind);grind
 have aB8:∀z w:Rat,s<0->z<w->s*w<s*z:=λz w p q=>by have:=Rat.mul_pos (show 0 < -s by grind) (show 0<w-z by grind);grind
 by_cases s0:s=0
 ·subst s0;simp only[Rat.zero_mul]at *;constructor
  ·intro q;left;grind
  ·rintro (q|⟨_,q⟩)<;>grind
 ·by_cases sp:0<s
  ·constructor
   ·intro q
    by_cases a:0<f+s*h
    ·exact .inl a
    ·by_cases b:f+s*h=0
     ·exact .inr ⟨b,sp⟩
     ·exfalso;have r:=root s0;have r1:h < -f/s:=Rat.not_le.mp λw=>by
       by_cases w':-f/s=h
       ·rw[w']at r;grind
       ·have:=mono _ _ sp (show -f/s<h by grind);grind
      have r2:-f/s<=y:=Rat.not_lt.mp λw=>by have:=mono _ _ sp w;grind
      exact nz _ r1 r2 r
   ·rintro (q|⟨q,_⟩)
    ·have:=mono _ _ sp hy;grind
    ·have:=mono _ _ sp hy;grind
  ·have sn:s<0:=by grind
   constructor
   ·intro q;have:=aB8 _ _ sn hy
    left;grind
   ·rintro (q|⟨_,q⟩)
    ·refine Rat.not_le.mp λw=>?_;have r:=root s0;have r1:h < -f/s:=Rat.not_le.mp λw'=>by
      by_cases w'':-f/s=h
      ·rw[w'']at r;grind
      ·have:=aB8 _ _ sn (show -f/s<h by grind);grind
     have r2:-f/s<=y:=Rat.not_lt.mp λw'=>by have:=aB8 _ _ sn w';grind
     exact nz _ r1 r2 r
    ·grind
theorem AY{f s h y:Rat}(hy:y<h)(nz:∀z,y<=z->z<h->f+s*z≠0):0<f+s*y↔0<f+s*h\/(f+s*h=0/\s<0):=by
 have k:=F5 (f:=f) (s:=-s) (h:=-h) (y:=-y) (by grind) (λz a b=>by have:=nz (-z) (by grind) (by grind);grind);have e1:f + -s * -y=f+s*y:=by grind
 have e2:f + -s * -h=f+s*h:=by grind
 rw[e1,e2]at k;rw[k];have:(0 < -s)↔s<0:=⟨λq=>by grind,λq=>by grind⟩;rw[this]
def Wi(es:List Eg)(x:Q2):Prop:=∀e∈es,0<fE e x
def Sj(es:List Eg)(x d:Q2)(b:Bool):Prop:=Cg es x/\∃e∈es,fE e x=0/\vM b (sl d e)
theorem Gn.same(h:Gn B o d)(uk:es∈B)(cx:Cx es){y:Rat}(ib:Cg es (bU o d y))(me:e∈es)(mg:g∈es)(ze:fE e (bU o d y)=0)(zg:fE g (bU o d y)=0)(s:vM b (sl d e)):vM b (sl d g):=by
 have c:=h.c e g y ⟨es,uk,me,ib⟩ ⟨es,uk,mg,ib⟩ ze zg;have n:=h.n e (WS.mpr ⟨es,uk,me⟩);have q:=cx.orient (p:=bU o d y) (q:=((bU o d y).1+(aH e).1,(bU o d y).2+(aH e).2)) me mg ze (by rw[<-ze];unfold fE aT aK;grind) zg (by
  have:fE g ((bU o d y).1+(aH e).1,(bU o d y).2+(aH e).2)=fE g (bU o d y)-aT (aH e) (aH g):=by unfold fE aT aK;grind
  rw[this,zg,c];grind) (by
  have:aN (aK ((bU o d y).1+(aH e).1,(bU o d y).2+(aH e).2) (bU o d y)) (aK ((bU o d y).1+(aH e).1,(bU o d y).2+(aH e).2) (bU o d y))=aN (aH e) (aH e):=by unfold aN aK;grind
  rw[this];exact n) (by
  have:aN (aH e) (aK ((bU o d y).1+(aH e).1,(bU o d y).2+(aH e).2) (bU o d y))=aN (aH e) (aH e):=by unfold aN aK;grind
  rw[this];exact n)
 refine Rb n c ?_ s;have:aN (aH g) (aK ((bU o d y).1+(aH e).1,(bU o d y).2+(aH e).2) (bU o d y))=aN (aH e) (aH g):=by unfold aN aK;grind
 rw[this]at q;exact q
theorem wL(h:Gn B o d)(uk:es∈B)(cx:Cx es){y z:Rat}(st:∀e∈es,0<fE e (bU o d z)↔0<fE e (bU o d y)\/(fE e (bU o d y)=0/\vM b (sl d e))):Wi es (bU o d z)↔Wi es (bU o d y)\/Sj es (bU o d y) d b:=by
 constructor
 ·intro w
  by_cases c:Wi es (bU o d y)
  ·exact .inl c
  ·right
   refine⟨λe me=>?_,?_⟩
   ·rcases(st e me).mp (w e me)with q|⟨q,_⟩<;>grind
   ·have:∃e∈es,¬0<fE e (bU o d y):=by
     refine Classical.byContradiction λk=>c λe me=>Classical.byContradiction λq=>k ⟨e,me,q⟩
    obtain⟨e,me,ne⟩:=this;rcases(st e me).mp (w e me)with q|q
    ·exact absurd q ne
    ·exact⟨e,me,q⟩
 ·rintro (w|⟨w,e,me,z0,s⟩)
  ·exactλg mg=>(st g mg).mpr (.inl (w g mg))
  ·intro g mg;refine(st g mg).mpr ?_
   by_cases c:fE g (bU o d y)=0
   ·exact .inr ⟨c,h.same uk cx w me mg z0 c s⟩
   ·have:=w g mg
    left;grind
structure Cv(o d:Q2)(y:Rat)(b:Bool)(e:Eg):Prop where
 s:vM b (sl d e)
 z:fE e (bU o d y)=0
 t0:0<tE o d e
 t1:tE o d e<1
theorem tG(h:Gn B o d)(uk:es∈B)(cx:Cx es){y:Rat}:Sj es (bU o d y) d b↔∃e∈es,Cv o d y b e:=by
 constructor
 ·rintro⟨ib,e,me,z,s⟩;obtain⟨g,mg,on,r,r0,hr⟩:=cx.on me z ib;have sg:sl d g=r*sl d e:=by
   have a:=hr (bU o d (y+1));have a':=hr (bU o d y);rw[jU,jU]at a a';grind
  have s':vM b (sl d g):=by
   rw[sg];cases b with
   |true=>exact show 0<r*sl d e from Rat.mul_pos r0 s
   |false=>
    have s:sl d e<0:=s;have:=Rat.mul_pos r0 (show 0 < -sl d e by grind);exact show r*sl d e<0 by grind
  have p:=pA (jS s') on.z;have n:=h.n g (WS.mpr ⟨es,uk,mg⟩);obtain⟨v1,v2⟩:=h.v g (WS.mpr ⟨es,uk,mg⟩);have a:=on.a;have c:=on.b;rw[p]at a c;have ea:aN (aH g) (aK (cL g.1 g.2 (tE o d g)) g.1)=tE o d g*aN (aH g) (aH g):=by unfold aN aH aK cL;grind
  have ec:aN (aH g) (aK g.2 (cL g.1 g.2 (tE o d g)))=(1-tE o d g)*aN (aH g) (aH g):=by unfold aN aH aK cL;grind
  rw[ea]at a;rw[ec]at c;have a':=bR n a;have c':=bR n c;have hp:ht d o=ht d g.1+(ht d g.2-ht d g.1)*tE o d g:=by rw[<-Az o d y,p,Ya]
  refine⟨g,mg,s',on.z,?_,?_⟩
  ·refine Rat.not_le.mp λq=>v1 ?_;have:tE o d g=0:=by grind
   rw[this]at hp;grind
  ·refine Rat.not_le.mp λq=>v2 ?_;have:tE o d g=1:=by grind
   rw[this]at hp;grind
 ·rintro⟨e,me,k⟩;refine⟨λg mg=>?_,e,me,k.z,k.s⟩;have p:=pA (jS k.s) k.z;rw[p,mQ];obtain⟨f,mf,ef,_⟩:=cx.nx e me;have i1:=cx.inn g mg e me;have i2:=cx.inn g mg f mf;rw[ef]at i2;have t0:=k.t0;have t1:=k.t1;have m1:=Rat.mul_nonneg i1 (show 0<=1-tE o d e by grind);have m2:=Rat.mul_nonneg i2 (show 0<=tE o d e by grind);grind
section
variable{P:da}{w:dk}{K:W.Frag}{mg:Str->Option oA}{base:oE}
structure yZ(bs:List eJ):Prop where
 gb:∀b∈bs,GB b.o
 pb:∀b∈bs,∀p∈b.o,Pb p
 ok:∀b∈bs,Ko b
def Cq(bs:List eJ):List (List Eg):=bs.map λb=>d5 b.o
abbrev iR(bs:List eJ):List Eg:=(Cq bs).flatten
theorem eZ(mb:b∈bs):d5 b.o∈Cq bs:=SS.mpr ⟨b,mb,rfl⟩
theorem jJ(mb:b∈bs)(me:e∈d5 b.o):e∈iR bs:=WS.mpr ⟨_,eZ mb,me⟩
theorem rM(me:e∈iR bs):∃b∈bs,e∈d5 b.o:=by
 obtain⟨es,m,me⟩:=WS.mp me;obtain⟨b,mb,rfl⟩:=SS.mp m;exact⟨b,mb,me⟩
theorem yZ.ed(h:yZ bs)(mb:b∈bs)(mx:x∈zr b.o):Pb x.1/\Pb x.2/\x.1≠x.2:=by
 obtain⟨m1,m2⟩:=kK mx;refine⟨h.pb b mb _ m1,h.pb b mb _ m2,λe=>?_⟩;have:=(h.gb b mb).cx.ne _ (SS.mpr ⟨x,mx,rfl⟩);rw[e]at this;unfold aN aH aK at this;grind
theorem EX(gb:GB g.o)(hp:NP p)(hq:NP q)(ne:p≠q){m:Rat}(m0:0<m)(m1:m<1)(col:∀e∈d5 g.o,fE e (cL (vq p) (vq q) m)=0->fE e (vq p)=0/\fE e (vq q)=0)(ib:Cg (d5 g.o) (cL (vq p) (vq q) m)):∃r,bA (bE g) (gK p q)=oZ r/\NH (d5 g.o) (vq p) (vq q) r/\val r.1<m/\m<val r.2.1:=by
 have fs:∀f∈(d5 g.o).map (λe=>(fE e (cL (vq p) (vq q) m),fE e (vq q)-fE e (vq p))),0<f.1\/(f.1=0/\f.2=0):=λf mf=>by
  obtain⟨e,me,rfl⟩:=SS.mp mf;have:=ib e me
  by_cases z:fE e (cL (vq p) (vq q) m)=0
  ·obtain⟨w1,w2⟩:=col e me z;exact .inr ⟨z,by simp only;grind⟩
  ·exact .inl (by simp only;grind)
 obtain⟨ε,e0,eB,he⟩:=RB _ (if m<=1-m then m else 1-m) (by split<;>grind) fs;have e1:ε<=m/\ε<=1-m:=by
  by_cases c:m<=1-m
  ·rw[oV c]at eB;exact⟨eB,by grind⟩
  ·rw[oW c]at eB;exact⟨by grind,eB⟩
 have i1:Cg (d5 g.o) (cL (vq p) (vq q) (m-ε)):=λe me=>by
  have:=(he _ (SS.mpr ⟨e,me,rfl⟩)).2;simp only at this;rw[mQ]at this⊢;grind
 have i2:Cg (d5 g.o) (cL (vq p) (vq q) (m+ε)):=λe me=>by
  have:=(he _ (SS.mpr ⟨e,me,rfl⟩)).1;simp only at this;rw[mQ]at this⊢;grind
 cases k:bA (bE g) (gK p q)with
 |none=>exact(Um gb hp.spt hq.spt k (t1:=m-ε) (t2:=m+ε) (by grind) (by grind) (by grind) i1 i2).elim
 |some r=>
  have o:=lI gb hp.spt hq.spt (jO hp hq ne) k;have s1:=(o.s (m-ε) (by grind) (by grind)).mp i1;have s2:=(o.s (m+ε) (by grind) (by grind)).mp i2;exact⟨r,rfl,o,by grind,by grind⟩
theorem Z5(hu:0<aN u u)(c:aT u v=0)(s:vM b (aT u d)):0<aN u v↔vM b (aT v d):=by
 refine⟨λk=>Rb hu c k s,λk=>?_⟩;have e:=kM (w:=d) hu c;have e':aT v d*aN u u=aN u v*aT u d:=by unfold aT at *;grind
 cases b with
 |true=>
  have s:0<aT u d:=s;have k:0<aT v d:=k;exact bJ s (by rw[<-e'];exact Rat.mul_pos k hu)
 |false=>
  have s:aT u d<0:=s;have k:aT v d<0:=k;have:=Rat.mul_pos (show 0 < -aT v d by grind) hu;exact bJ (show 0 < -aT u d by grind) (by grind)
structure Me(bs:List eJ)(o d:Q2)(y:Rat)(b:Bool)(p q:Pt):Prop where
 H:yZ bs
 G:Gn (Cq bs) o d
 me:(vq p,vq q)∈iR bs
 hp:Pb p
 hq:Pb q
 ne:p≠q
 s:vM b (sl d (vq p,vq q))
 z:fE (vq p,vq q) (bU o d y)=0
section
variable{bs:List eJ}{o d:Q2}{y:Rat}{b:Bool}{p q:Pt}
theorem Me.at'(h:Me bs o d y b p q):bU o d y=cL (vq p) (vq q) (tE o d (vq p,vq q)):=pA (jS h.s) h.z
theorem Me.d'(h:Me bs o d y b p q):0<aN (aK (vq q) (vq p)) (aK (vq q) (vq p)):=jO h.hp.np h.hq.np h.ne
theorem Me.cv(h:Me bs o d y b p q)(t0:0<tE o d (vq p,vq q))(t1:tE o d (vq p,vq q)<1):Cv o d y b (vq p,vq q):=⟨h.s,h.z,t0,t1⟩
theorem Cv.ow(H:yZ bs)(G:Gn (Cq bs) o d)(me:e∈iR bs)(k:Cv o d y b e):Ow' (Cq bs) e (bU o d y):=by
 obtain⟨g,mg,me⟩:=rM me;exact⟨_,eZ mg,me,((tG G (eZ mg) (H.gb g mg).cx).mpr ⟨e,me,k⟩).1⟩
theorem Me.ow(h:Me bs o d y b p q)(t0:0<tE o d (vq p,vq q))(t1:tE o d (vq p,vq q)<1):Ow' (Cq bs) (vq p,vq q) (bU o d y):=(h.cv t0 t1).ow h.H h.G h.me
theorem Me.col(h:Me bs o d y b p q)(ow:Ow' (Cq bs) (vq p,vq q) (bU o d y))(m:Ow' (Cq bs) e (bU o d y))(z:fE e (bU o d y)=0):fE e (vq p)=0/\fE e (vq q)=0:=h.G.zz m ow z h.z
theorem Me.sg(h:Me bs o d y b p q)(z1:fE e (vq p)=0)(z2:fE e (vq q)=0):0<aN (aH e) (aK (vq q) (vq p))↔vM b (sl d e):=by
 have c:aT (aH (vq p,vq q)) (aH e)=0:=by
  have:aT (aH (vq p,vq q)) (aH e)=fE e (vq p)-fE e (vq q):=by unfold fE aT aH aK;grind
  rw[this,z1,z2];grind
 have:=Z5 (u:=aH (vq p,vq q)) (v:=aH e) (d:=d) h.d' c h.s;have e':aN (aH e) (aK (vq q) (vq p))=aN (aH (vq p,vq q)) (aH e):=by unfold aN aH;grind
 rw[e'];exact this
theorem Me.n0(h:Me bs o d y b p q):tE o d (vq p,vq q)≠0/\tE o d (vq p,vq q)≠1:=by
 obtain⟨v1,v2⟩:=h.G.v _ h.me;have hp:ht d o=ht d (vq p)+(ht d (vq q)-ht d (vq p))*tE o d (vq p,vq q):=by rw[<-Az o d y,h.at',Ya]
 exact⟨λz=>v1 (by rw[z]at hp;simp only;grind),λz=>v2 (by rw[z]at hp;simp only;grind)⟩
theorem Me.covO(h:Me bs o d y b p q)(t0:0<tE o d (vq p,vq q))(t1:tE o d (vq p,vq q)<1):zB ((bs.map bE).map λs=>bA s (gK p q)) (tE o d (vq p,vq q))↔(∃g∈bs,Wi (d5 g.o) (bU o d y))\/∃g∈bs,Sj (d5 g.o) (bU o d y) d (!b):=by
 have P:=h.at';have ow:=h.ow t0 t1;constructor
 ·rintro⟨r,m,r1,r2,r3⟩;rw[UA]at m;obtain⟨g,mg,k⟩:=SS.mp m;have ov:=lI (h.H.gb g mg) h.hp.np.spt h.hq.np.spt h.d' (show bA (bE g) (gK p q)=oZ r from k);have ib:Cg (d5 g.o) (bU o d y):=by rw[P];exact(ov.s _ (Rat.le_of_lt t0) (Rat.le_of_lt t1)).mpr ⟨Rat.le_of_lt r2,Rat.le_of_lt r3⟩
  obtain⟨_,no⟩|⟨⟨e,me,z1,z2⟩,r12,or⟩:=ov.h
  ·refine .inl ⟨g,mg,λe me=>?_⟩;have i:=ib e me;have nz:fE e (bU o d y)≠0:=λz=>no e me (h.col ow ⟨_,eZ mg,me,ib⟩ z);grind
  ·have z:fE e (bU o d y)=0:=by rw[P,mQ,z1,z2];grind
   refine .inr ⟨g,mg,ib,e,me,z,?_⟩;obtain q|q:=Nf (h.G.s (jJ mg me) z) b
   ·have:=(or e me z1 z2).mpr ((h.sg z1 z2).mpr q);exact absurd this r1
   ·exact q
 ·have fin:∀g∈bs,Cg (d5 g.o) (bU o d y)->∃r,bA (bE g) (gK p q)=oZ r/\NH (d5 g.o) (vq p) (vq q) r/\val r.1<tE o d (vq p,vq q)/\tE o d (vq p,vq q)<val r.2.1:=λg mg ib=>
   EX (h.H.gb g mg) h.hp.np h.hq.np h.ne t0 t1 (λe me z=>h.col ow ⟨_,eZ mg,me,ib⟩ (by rw[P];exact z)) (by rw[<-P];exact ib)
  rintro (⟨g,mg,wi⟩|⟨g,mg,ib,e,me,z,s⟩)
  ·obtain⟨r,k,ov,r2,r3⟩:=fin g mg λe me=>Rat.le_of_lt (wi e me);refine⟨r,by rw[UA];exact SS.mpr ⟨g,mg,k⟩,λr1=>?_,r2,r3⟩;obtain⟨q,_⟩|⟨⟨e,me,z1,z2⟩,_,_⟩:=ov.h
   ·lia
   ·have:=wi e me;rw[P,mQ,z1,z2]at this;grind
  ·obtain⟨r,k,ov,r2,r3⟩:=fin g mg ib;refine⟨r,by rw[UA];exact SS.mpr ⟨g,mg,k⟩,λr1=>?_,r2,r3⟩;obtain⟨z1,z2⟩:=h.col ow ⟨_,eZ mg,me,ib⟩ z;obtain⟨q,_⟩|⟨_,_,or⟩:=ov.h
   ·lia
   ·exact Gb ((h.sg z1 z2).mp ((or e me z1 z2).mp r1)) s
theorem Me.endO(h:Me bs o d y b p q):tE o d (vq p,vq q)∉rY ((bs.map bE).map λs=>bA s (gK p q)):=λw=>by
 have P:=h.at';obtain⟨t0,t1⟩:=h.n0;obtain⟨x,mx,w⟩:=UC.mp w;rw[UA]at mx;obtain⟨g,mg,k⟩:=SS.mp mx;cases x with
 |none=>simp at w
 |some r=>
  have ov:=lI (h.H.gb g mg) h.hp.np.spt h.hq.np.spt h.d' (show bA (bE g) (gK p q)=oZ r from k);simp only[SU,WU,or_false]at w;have l0:=ov.l0;have l1:=ov.h1;have lt:=ov.lt;have r01:0<tE o d (vq p,vq q)/\tE o d (vq p,vq q)<1:=by rcases w with w|w<;>grind
  have ow:=h.ow r01.1 r01.2;have ib:Cg (d5 g.o) (bU o d y):=by
   rw[P];exact(ov.s _ (Rat.le_of_lt r01.1) (Rat.le_of_lt r01.2)).mpr (by rcases w with w|w<;>rw[w]<;>exact⟨by grind,by grind⟩)
  obtain w|w:=w
  ·obtain e|⟨_,e,me,z1,z2,z3⟩:=ov.lo
   ·rw[e,dX]at w;exact t0 w
   ·rw[<-w,<-P]at z3;have:=h.col ow ⟨_,eZ mg,me,ib⟩ z3;grind
  ·obtain e|⟨_,e,me,z1,z2,z3⟩:=ov.hi
   ·rw[e,gN]at w;exact t1 w
   ·rw[<-w,<-P]at z3;have:=h.col ow ⟨_,eZ mg,me,ib⟩ z3;grind
structure L7(bs:List eJ)(e:EI):Prop where
 me:(vq e.p,vq e.q)∈iR bs
 hp:Pb e.p
 hq:Pb e.q
 ne:e.p≠e.q
 l:e.l=dA (iD e.p e.q)
theorem Me.tw(h:Me bs o d y b p q)(k:L7 bs e)(hl:e.l=dA (iD p q)):∃s1 s2:Rat,s1<s2/\val (bH p q e.p)=s1/\val (bH p q e.q)=s2/\vq e.p=cL (vq p) (vq q) s1/\vq e.q=cL (vq p) (vq q) s2/\fE (vq e.p,vq e.q) (bU o d y)=0/\vM b (sl d (vq e.p,vq e.q))/\tE o d (vq p,vq q)=s1+(s2-s1)*tE o d (vq e.p,vq e.q):=by
 rw[k.l]at hl;obtain⟨z1,z2,z3⟩:=(sI k.hp k.hq h.hp h.hq k.ne h.ne).mp hl;obtain⟨y1,y2,_⟩:=Cw (jO k.hp.np k.hq.np k.ne) z1 z2;have s1:=kG h.hp.np h.hq.np k.hp.np h.ne y1;have s2:=kG h.hp.np h.hq.np k.hq.np h.ne y2;have zz:fE (vq e.p,vq e.q) (bU o d y)=0:=by rw[h.at',mQ,z1,z2];grind
 have sg:=(h.sg z1 z2).mp z3;have hd:=h.d';generalize val (bH p q e.p)=a at *;generalize val (bH p q e.q)=c at *;refine⟨a,c,?_,rfl,rfl,s1,s2,zz,sg,?_⟩
 ·have ev:aN (aH (vq e.p,vq e.q)) (aK (vq q) (vq p))=(c-a)*aN (aK (vq q) (vq p)) (aK (vq q) (vq p)):=by
   unfold aH;simp only;rw[s1,s2];unfold aN aK cL;grind
  rw[ev]at z3;have:=bJ hd z3;grind
 ·have P:=h.at';have P2:=pA (jS sg) zz;simp only at P2;rw[P,s1,s2]at P2;refine CL hd (P2.trans ?_);rw[<-s1,<-s2];generalize tE o d (vq e.p,vq e.q)=u;rw[s1,s2];unfold cL;exact Prod.ext (by simp only;grind) (by simp only;grind)
theorem Me.covT(h:Me bs o d y b p q)(t0:0<tE o d (vq p,vq q))(t1:tE o d (vq p,vq q)<1)(ou:∀e∈pre,L7 bs e):CB (zA p q (Sf pre (dA (iD p q)))) (tE o d (vq p,vq q))↔∃e∈pre,Cv o d y b (vq e.p,vq e.q):=by
 constructor
 ·rintro⟨x,mx,k1,k2⟩;obtain⟨w,mw,rfl⟩:=SS.mp mx;obtain⟨e,me,rfl⟩:=SS.mp mw;obtain⟨me,hl⟩:=TL.mp me;obtain⟨s1,s2,lt,v1,v2,_,_,zz,sg,ht⟩:=h.tw (ou e me) (by simpa using hl);simp only at k1 k2;rw[v1,ht]at k1;rw[v2,ht]at k2;have p0:0<s2-s1:=by grind
  refine⟨e,me,sg,zz,?_,?_⟩
  ·exact bJ p0 (by grind)
  ·have:0<1-tE o d (vq e.p,vq e.q):=bJ p0 (by grind);grind
 ·rintro⟨e,me,k⟩;have ke:=ou e me;obtain⟨z1,z2⟩:=h.col (h.ow t0 t1) (k.ow h.H h.G ke.me) k.z;have z3:=(h.sg z1 z2).mpr k.s;have hl:=(sI ke.hp ke.hq h.hp h.hq ke.ne h.ne).mpr ⟨z1,z2,z3⟩;obtain⟨s1,s2,lt,v1,v2,_,_,zz,sg,ht⟩:=h.tw ke (by rw[ke.l];exact hl);have p0:0<s2-s1:=by grind
  have m1:=Rat.mul_pos k.t0 p0;have m2:=Rat.mul_pos (show 0<1-tE o d (vq e.p,vq e.q) by have:=k.t1;grind) p0;exact⟨_,SS.mpr ⟨(e.p,e.q),SS.mpr ⟨e,TL.mpr ⟨me,by rw[decide_eq_true_eq,ke.l];exact hl⟩,rfl⟩,rfl⟩,by simp only;rw[v1,ht];grind,by simp only;rw[v2,ht];grind⟩
theorem Me.endT(h:Me bs o d y b p q)(ou:∀e∈pre,L7 bs e):tE o d (vq p,vq q)∉xF (zA p q (Sf pre (dA (iD p q)))):=λw=>by
 obtain⟨x,mx,w⟩:=UC.mp w;obtain⟨u,mu,rfl⟩:=SS.mp mx;obtain⟨e,me,rfl⟩:=SS.mp mu;obtain⟨me,hl⟩:=TL.mp me;obtain⟨s1,s2,lt,v1,v2,e1,e2,zz,sg,ht'⟩:=h.tw (ou e me) (by simpa using hl);obtain⟨w1,w2⟩:=h.G.v _ (ou e me).me;simp only[SU,WU,or_false]at w;obtain w|w:=w
 ·rw[v1]at w;refine w1 ?_;rw[<-Az o d y,h.at',w,<-e1]
 ·rw[v2]at w;refine w2 ?_;rw[<-Az o d y,h.at',w,<-e2]
theorem Me.inA(h:Me bs o d y b p q)(ou:∀e∈pre,L7 bs e):inA (fL (bs.map bE) p q (Sf pre (dA (iD p q)))) (tE o d (vq p,vq q))↔Cv o d y b (vq p,vq q)/\¬((∃g∈bs,Wi (d5 g.o) (bU o d y))\/∃g∈bs,Sj (d5 g.o) (bU o d y) d (!b))/\¬∃e∈pre,Cv o d y b (vq e.p,vq e.q):=by
 have se:∀s∈bs.map bE,pE s:=λs m=>by
  obtain⟨g,mg,rfl⟩:=SS.mp m;exact kI (h.H.ok g mg)
 have twok:∀x∈Sf pre (dA (iD p q)),Pb x.1/\Pb x.2:=λx m=>by
  obtain⟨e,me,rfl⟩:=SS.mp m;have:=ou e (TL.mp me).1;exact⟨this.hp,this.hq⟩
 rw[Hh se (Ap h.hp h.hq h.ne) twok h.endO (h.endT ou)]
 by_cases c:0<tE o d (vq p,vq q)/\tE o d (vq p,vq q)<1
 ·rw[h.covO c.1 c.2,h.covT c.1 c.2 ou];constructor
  ·rintro⟨_,w⟩;exact⟨⟨h.s,h.z,c.1,c.2⟩,w⟩
  ·rintro⟨_,w⟩;exact⟨c,w⟩
 ·constructor
  ·rintro⟨w,_⟩;exact absurd w c
  ·rintro⟨w,_⟩;exact absurd ⟨w.t0,w.t1⟩ c
end
noncomputable def iI (p:Prop):Int:=@ite Int p (Classical.propDecidable p) 1 0
theorem AF{p:Prop}(h:p):iI p=1:=oV h
theorem vZ{p:Prop}(h:¬p):iI p=0:=oW h
theorem kD{p q:Prop}(h:p↔q):iI p=iI q:=by rw[propext h]
def uX(c:Rat)(d:Q2)(r:zC):Int:=if ht d (vq r.2.2.1)<c/\c<ht d (vq r.2.2.2)then 1 else if ht d (vq r.2.2.2)<c/\c<ht d (vq r.2.2.1)then -1 else 0
def Lb(A:List (Fr×Fr))(t:Rat):Int:=(A.map λa=>if val a.1<t/\t<val a.2 then(1:Int)else 0).sum
theorem OF{A:List (Fr×Fr)}{t:Rat}(h:¬inA A t):Lb A t=0:=by
 induction A with
 |nil=>rfl
 |cons a A ih=>
  unfold Lb;rw[TH,UQ,oW (λz=>h ⟨a,by simp,z⟩)];have:=ih λzZ=>by obtain⟨b,mb,k⟩:=zZ;exact h ⟨b,by simp[mb],k⟩
  unfold Lb at this;rw[this];rfl
theorem OG{A:List (Fr×Fr)}{t x:Rat}{b:Bool}(s:L0 x b A):Lb A t=iI (inA A t):=by
 induction A generalizing x b with
 |nil=>exact(vZ (p:=inA [] t) (by rintro⟨a,m,_⟩;simp at m)).symm
 |cons a A ih=>
  by_cases c:val a.1<t/\t<val a.2
  ·rw[AF ⟨a,by simp,c⟩];have z:=OF (A:=A) (t:=t) λzZ=>by
    obtain⟨u,mu,k⟩:=zZ;have:=(s.2.2.all u mu).1;grind
   unfold Lb at z⊢;rw[TH,UQ,oV c,z];rfl
  ·have z:=ih s.2.2;rw[kD (q:=inA A t) ⟨λzZ=>by
    obtain⟨u,mu,k⟩:=zZ;obtain rfl|mu:=SU.mp mu
    ·exact absurd k c
    ·exact⟨u,mu,k⟩,λzZ=>by obtain⟨u,mu,k⟩:=zZ;exact⟨u,by simp[mu],k⟩⟩,<-z]
   unfold Lb;rw[TH,UQ,oW c];lia
theorem Bg(h:F2 f):bL (low f.1 f.2)/\val (low f.1 f.2)=val f:=by
 have d:f.2≠0:=by have:=h.d;lia
 exact⟨iG d,by rw[mO d];rfl⟩
theorem GQ{e:EI}{A:List (Fr×Fr)}(hp:NP e.p)(hq:NP e.q)(hA:∀a∈A,F2 a.1/\F2 a.2){x:Rat}{b':Bool}(sp:L0 x b' A):
  ((sl d (vq e.p,vq e.q)=0\/∃b,vM b (sl d (vq e.p,vq e.q)))/\(sl d (vq e.p,vq e.q)=0->((dC e A).map (uX (ht d o) d)).sum=0)/\∀b,vM b (sl d (vq e.p,vq e.q))->((dC e A).map (uX (ht d o) d)).sum=(if b=true then 1 else -1)*iI (inA A (tE o d (vq e.p,vq e.q)))):=by
 have lt:∀a∈A,val a.1<val a.2:=λa m=>(sp.all a m).2.2;have one:∀a∈A,vq (cO e.p e.q (low a.1.1 a.1.2))=cL (vq e.p) (vq e.q) (val a.1)/\vq (cO e.p e.q (low a.2.1 a.2.2))=cL (vq e.p) (vq e.q) (val a.2):=λa m=>by
  obtain⟨n1,v1⟩:=Bg (hA a m).1;obtain⟨n2,v2⟩:=Bg (hA a m).2;exact⟨by rw[(nN hp hq n1).2,v1],by rw[(nN hp hq n2).2,v2]⟩
 have es:(dC e A).map (uX (ht d o) d)=A.map λa=>uX (ht d o) d (e.n,e.k,cO e.p e.q (low a.1.1 a.1.2),cO e.p e.q (low a.2.1 a.2.2)):=by
  unfold dC;rw[UA];rfl
 have hs:∀s,ht d (cL (vq e.p) (vq e.q) s)=ht d (vq e.p)+sl d (vq e.p,vq e.q)*s:=λs=>by rw[Ya,BA]
 have each:∀a∈A,uX (ht d o) d (e.n,e.k,cO e.p e.q (low a.1.1 a.1.2),cO e.p e.q (low a.2.1 a.2.2))=if ht d (vq e.p)+sl d (vq e.p,vq e.q)*val a.1<ht d o/\ht d o<ht d (vq e.p)+sl d (vq e.p,vq e.q)*val a.2 then 1 else if ht d (vq e.p)+sl d (vq e.p,vq e.q)*val a.2<ht d o/\ht d o<ht d (vq e.p)+sl d (vq e.p,vq e.q)*val a.1 then -1 else 0:=λa m=>by
  obtain⟨o1,o2⟩:=one a m;unfold uX;simp only;rw[o1,o2,hs,hs]
 rw[es,VM each];clear es each one hs;generalize hS:sl d (vq e.p,vq e.q)=S;have htE:S≠0->ht d o=ht d (vq e.p)+S*tE o d (vq e.p,vq e.q):=λn=>by
  unfold tE;rw[hS,Rat.div_def];simp only;grind
 generalize tE o d (vq e.p,vq e.q)=t at *;generalize ht d (vq e.p)=h0 at *;generalize ht d o=c at *;refine⟨?_,λz=>?_,λb hb=>?_⟩
 ·by_cases z:S=0
  ·exact .inl z
  ·exact .inr (by rcases Nf z true with q|q<;>exact⟨_,q⟩)
 ·subst z;have:∀a∈A,(if h0+0*val a.1<c/\c<h0+0*val a.2 then(1:Int)else if h0+0*val a.2<c/\c<h0+0*val a.1 then -1 else 0)=0:=λa _=>by
   rw[oW (by grind),oW (by grind)]
  rw[VM this];clear this lt sp hA
  induction A with
  |nil=>rfl
  |cons a A ih=>rw[TH,UQ,ih];rfl
 ·rw[<-OG sp,htE (jS hb)];unfold Lb;have key:∀a∈A,(if h0+S*val a.1<h0+S*t/\h0+S*t<h0+S*val a.2 then(1:Int)else if h0+S*val a.2<h0+S*t/\h0+S*t<h0+S*val a.1 then -1 else 0)=(if b=true then 1 else -1)*(if val a.1<t/\t<val a.2 then(1:Int)else 0):=λa m=>by
   have l:=lt a m;have mul:∀u v:Rat,(0<S->(S*u<S*v↔u<v))/\(S<0->(S*u<S*v↔v<u)):=λu v=>by
    refine⟨λp=>?_,λp=>?_⟩
    ·have:=kF (a:=v-u) p;grind
    ·have:=kF (a:=u-v) (show 0 < -S by grind);grind
   cases b with
   |true=>
    have p:0<S:=hb;have m1:=(mul (val a.1) t).1 p;have m2:=(mul t (val a.2)).1 p;have m3:=(mul (val a.2) t).1 p;have m4:=(mul t (val a.1)).1 p
    by_cases q:val a.1<t/\t<val a.2
    ·rw[oV q,oV (by grind)];rfl
    ·rw[oW q,oW (by grind),oW (by grind)];rfl
   |false=>
    have p:S<0:=hb;have m1:=(mul (val a.1) t).2 p;have m2:=(mul t (val a.2)).2 p;have m3:=(mul (val a.2) t).2 p;have m4:=(mul t (val a.1)).2 p
    by_cases q:val a.1<t/\t<val a.2
    ·rw[oV q,oW (by grind),oV (by grind)];rfl
    ·rw[oW q,oW (by grind),oW (by grind)];rfl
  rw[VM key];clear key lt sp hA
  induction A with
  |nil=>simp
  |cons a A ih=>rw[TH,UQ,ih,TH,UQ,Int.mul_add]
theorem Ax{α:Type}(P:α->Prop):∀(L pre:List α),(L.zipIdx.map λx=>iI (P x.1/\¬∃e∈pre++L.take x.2,P e)).sum=iI ((∃e∈L,P e)/\¬∃e∈pre,P e)
 |[],pre=>(vZ (p:=(∃e∈[],P e)/\¬∃e∈pre,P e) (by rintro⟨⟨e,m,_⟩,_⟩;simp at m)).symm
 |a::L,pre=>by
  have ih:=Ax P L (pre++[a]);rw[au,TH,UQ,show L.zipIdx (0+1)=L.zipIdx.map λx=>(x.1,x.2+1) by rw[YJ];exact List.zipIdx_succ,UA];have e1:((λx:α×Nat=>iI (P x.1/\¬∃e∈pre++(a::L).take x.2,P e))∘λx:α×Nat=>(x.1,x.2+1))=λx:α×Nat=>iI (P x.1/\¬∃e∈pre++[a]++L.take x.2,P e):=by
   funext x
   show iI (P x.1/\¬∃e∈pre++(a::L).take (x.2+1),P e)=_;rw[YE,TF];rfl
  rw[e1,ih];simp only[List.take_zero,UH]
  by_cases q:∃e∈pre,P e
  ·rw[vZ (λz=>z.2 q),vZ (λz=>z.2 (by obtain⟨e,m,k⟩:=q;exact⟨e,by simp[m],k⟩)),vZ (λz=>z.2 q)];rfl
  ·by_cases w:P a
   ·rw[AF ⟨w,q⟩,vZ (λz=>z.2 ⟨a,by simp,w⟩),AF ⟨⟨a,by simp,w⟩,q⟩];rfl
   ·rw[vZ (λz=>w z.1)];rw[kD (q:=(∃e∈a::L,P e)/\¬∃e∈pre,P e)]
    ·lia
    ·constructor
     ·rintro⟨⟨e,m,k⟩,_⟩;exact⟨⟨e,by simp[m],k⟩,q⟩
     ·rintro⟨⟨e,m,k⟩,_⟩;refine⟨?_,?_⟩
      ·obtain rfl|m:=SU.mp m
       ·exact absurd k w
       ·exact⟨e,m,k⟩
      ·rintro⟨u,mu,ku⟩;obtain mu|mu:=TY.mp mu
       ·exact q ⟨u,mu,ku⟩
       ·rw[TM]at mu;subst mu;exact w ku
theorem Rk{α:Type}(f g:α->Int):∀L:List α,(L.map λx=>f x+g x).sum=(L.map f).sum+(L.map g).sum
 |[]=>rfl
 |x::L=>by rw[TH,UQ,Rk f g L,TH,UQ,TH,UQ];lia
theorem Rl{α:Type}(f g:α->Int):∀L:List α,(L.map λx=>f x-g x).sum=(L.map f).sum-(L.map g).sum
 |[]=>rfl
 |x::L=>by rw[TH,UQ,Rl f g L,TH,UQ,TH,UQ];lia
theorem yV{α:Type}{f:α->Int}:∀{L:List α},(∀x∈L,f x=0)->(L.map f).sum=0
 |[],_=>rfl
 |x::L,h=>by rw[TH,UQ,h x (by simp),yV λy m=>h y (by simp[m])];rfl
theorem yU{α β:Type}(f:β->Int)(g:α->List β):∀L:List α,((L.flatMap g).map f).sum=(L.map λx=>((g x).map f).sum).sum
 |[]=>rfl
 |x::L=>by rw[UT,US,List.sum_append,yU f g L,TH,UQ]
def yE(o d:Q2)(e:Eg):Rat:=-fE e o/sl d e
theorem Kj(s:sl d e≠0):fE e (bU o d (yE o d e))=0:=by rw[jU];unfold yE;rw[Rat.div_def];grind
theorem yY{y:Rat}(s:sl d e≠0)(z:fE e (bU o d y)=0):y=yE o d e:=by rw[jU]at z;unfold yE;rw[Rat.div_def];grind
def mW(bs:List eJ)(marks:Str):Prop:=∀b∈bs,∀k,k<b.o.length->JQ marks (HV b.m k)=true
def jK(e:EI):Eg:=(vq e.p,vq e.q)
theorem gQ(H:yZ bs):∀e∈cE bs marks,L7 bs e:=λe m=>by
 obtain⟨b,hb,hk,hm,ee⟩:=oR m;obtain⟨p,q,h1,h2,h3⟩:=vF hk;obtain⟨l1,l2,l3⟩:=Tj (n:=e.n) h3;rw[<-ee]at l1 l2 l3;have mb:=SY hb;have mx:=SY h3;obtain⟨p1,p2,pn⟩:=H.ed mb mx;refine⟨?_,by rw[l1];exact p1,by rw[l2];exact p2,by rw[l1,l2];exact pn,by rw[l1,l2];exact l3⟩;rw[l1,l2];exact jJ mb (SS.mpr ⟨(p,q),mx,rfl⟩)
theorem Vv(M:mW bs marks)(mb:b∈bs)(me:e∈d5 b.o):∃x∈cE bs marks,jK x=e:=by
 obtain⟨⟨p,q⟩,mx,rfl⟩:=SS.mp me;obtain⟨i,hi⟩:=VI mx;obtain⟨n,hn⟩:=VI mb;have hk:i<b.o.length:=by rw[<-Gx];exact(SW.mp hi).1
 obtain⟨l1,l2,_⟩:=Tj (n:=n) hi;refine⟨Li n b i,UC.mpr ⟨(b,n),TQ.mpr hn,SS.mpr ⟨i,TL.mpr ⟨VL.mpr hk,M b mb i hk⟩,rfl⟩⟩,?_⟩;unfold jK;rw[l1,l2]
def D2(bs:List eJ)(marks:Str)(x:EI×Nat):List zC:=dC x.1 (fL (bs.map bE) x.1.p x.1.q (Sf ((cE bs marks).take x.2) x.1.l))
theorem nP(bs:List eJ)(marks:Str):eM bs marks=(cE bs marks).zipIdx.flatMap (D2 bs marks):=by
 unfold eM;rw[Of (cE bs marks) [] [] (λl=>rfl)];rfl
noncomputable def cX (bs:List eJ) (marks:Str) (o d:Q2) (x:EI×Nat):Int:=((D2 bs marks x).map (uX (ht d o) d)).sum
theorem Y9(H:yZ bs)(G:Gn (Cq bs) o d)(mx:x∈(cE bs marks).zipIdx):(sl d (jK x.1)=0\/∃b,vM b (sl d (jK x.1)))/\(sl d (jK x.1)=0->cX bs marks o d x=0)/\∀b,vM b (sl d (jK x.1))->cX bs marks o d x=(if b=true then 1 else -1)*iI (Cv o d (yE o d (jK x.1)) b (jK x.1)/\¬((∃g∈bs,Wi (d5 g.o) (bU o d (yE o d (jK x.1))))\/∃g∈bs,Sj (d5 g.o) (bU o d (yE o d (jK x.1))) d (!b))/\¬∃e∈(cE bs marks).take x.2,Cv o d (yE o d (jK x.1)) b (jK e)):=by
 have he:=TQ.mp mx;have k:=gQ H x.1 (SY he);have ou:∀e∈(cE bs marks).take x.2,L7 bs e:=λe m=>gQ H e (VH m);have se:∀s∈bs.map bE,pE s:=λs m=>by
  obtain⟨g,mg,rfl⟩:=SS.mp m;exact kI (H.ok g mg)
 have twok:∀w∈Sf ((cE bs marks).take x.2) x.1.l,Pb w.1/\Pb w.2:=λw m=>by
  obtain⟨e,me,rfl⟩:=SS.mp m;have:=ou e (TL.mp me).1;exact⟨this.hp,this.hq⟩
 have en:=Ap k.hp k.hq k.ne;obtain⟨r0,r1,r2⟩:=GQ (e:=x.1) (o:=o) (d:=d) k.hp.np k.hq.np (rQ se en twok) (xA se en twok).2;refine⟨r0,r1,λb hb=>?_⟩;rw[show cX bs marks o d x=_ from r2 b hb]
 congr 1
 have me:Me bs o d (yE o d (jK x.1)) b x.1.p x.1.q:=⟨H,G,k.me,k.hp,k.hq,k.ne,hb,Kj (jS hb)⟩;have q:=me.inA ou;rw[<-k.l]at q;exact kD q
theorem OC(H:yZ bs)(G:Gn (Cq bs) o d)(M:mW bs marks)(h:Rat):((cE bs marks).zipIdx.map λx=>if yE o d (jK x.1)=h then cX bs marks o d x else 0).sum=iI ((∃g∈bs,Wi (d5 g.o) (bU o d h))\/∃g∈bs,Sj (d5 g.o) (bU o d h) d true)-iI ((∃g∈bs,Wi (d5 g.o) (bU o d h))\/∃g∈bs,Sj (d5 g.o) (bU o d h) d false):=by
 have sub:∀g∈bs,∀e∈d5 g.o,e∈iR bs:=λg mg e me=>jJ mg me;have up:∀b,(∃g∈bs,Sj (d5 g.o) (bU o d h) d b)↔∃e∈cE bs marks,Cv o d h b (jK e):=λb=>by
  constructor
  ·rintro⟨g,mg,u⟩;obtain⟨e,me,k⟩:=(tG G (eZ mg) (H.gb g mg).cx).mp u;obtain⟨x,mx,rfl⟩:=Vv M mg me;exact⟨x,mx,k⟩
  ·rintro⟨e,me,k⟩;obtain⟨g,hg,hk,_,ee⟩:=oR me;obtain⟨p,q,_,_,h3⟩:=vF hk;obtain⟨l1,l2,_⟩:=Tj (n:=e.n) h3;rw[<-ee]at l1 l2;have mg:=SY hg;refine⟨g,mg,(tG G (eZ mg) (H.gb g mg).cx).mpr ⟨jK e,?_,k⟩⟩;unfold jK;rw[l1,l2];exact SS.mpr ⟨(p,q),SY h3,rfl⟩
 generalize hI:(∃g∈bs,Wi (d5 g.o) (bU o d h))=I;generalize hT:(∃g∈bs,Sj (d5 g.o) (bU o d h) d true)=T;generalize hF:(∃g∈bs,Sj (d5 g.o) (bU o d h) d false)=F;have each:∀x∈(cE bs marks).zipIdx,(if yE o d (jK x.1)=h then cX bs marks o d x else 0)=iI (Cv o d h true (jK x.1)/\¬(I\/F)/\¬∃e∈(cE bs marks).take x.2,Cv o d h true (jK e))-iI (Cv o d h false (jK x.1)/\¬(I\/T)/\¬∃e∈(cE bs marks).take x.2,Cv o d h false (jK e)):=λx mx=>by
  obtain⟨r0,r1,r2⟩:=Y9 H G mx
  by_cases c:yE o d (jK x.1)=h
  ·rw[oV c];obtain z|⟨b,hb⟩:=r0
   ·rw[r1 z,vZ (λk=>jS k.1.s z),vZ (λk=>jS k.1.s z)];rfl
   ·rw[r2 b hb,c];cases b with
    |true=>
     rw[vZ (p:=Cv o d h false (jK x.1)/\_) (λk=>Gb hb k.1.s)];simp only[Bool.not_true];rw[hI,hF];simp
    |false=>
     rw[vZ (p:=Cv o d h true (jK x.1)/\_) (λk=>Gb hb k.1.s)];simp only[Bool.not_false];rw[hI,hT];simp
  ·rw[oW c,vZ (λk=>c (yY (jS k.1.s) k.1.z).symm),vZ (λk=>c (yY (jS k.1.s) k.1.z).symm)];rfl
 rw[VM each,Rl];have half:∀(b:Bool)(N:Prop),((cE bs marks).zipIdx.map λx=>iI (Cv o d h b (jK x.1)/\¬N/\¬∃e∈(cE bs marks).take x.2,Cv o d h b (jK e))).sum=iI ((∃g∈bs,Sj (d5 g.o) (bU o d h) d b)/\¬N):=λb N=>by
  rw[kD (and_congr_left' (up b))]
  by_cases n:N
  ·rw[vZ (λk=>k.2 n)];exact yV λx _=>vZ λk=>k.2.1 n
  ·have f:=Ax (λe=>Cv o d h b (jK e)) (cE bs marks) [];rw[kD (q:=(∃e∈cE bs marks,Cv o d h b (jK e))/\¬N) ⟨λk=>⟨k.1,n⟩,λk=>⟨k.1,by rintro⟨e,m,_⟩;simp at m⟩⟩]at f;rw[<-f]
   congr 1
   refine VM λx _=>kD ⟨λk=>⟨k.1,k.2.2⟩,λk=>⟨k.1,n,k.2⟩⟩
 rw[half true,half false,hT,hF]
 by_cases cI:I<;>by_cases cT:T<;>by_cases cF:F<;>simp[iI,cI,cT,cF]
theorem NM(cx:Cx es)(n0:es≠[])(d0:0<aN d d)(w:Wi es x):∃e∈es,sl d e<0:=by
 refine Classical.byContradiction λk=>?_;have k':∀e∈es,0<=sl d e:=λe me=>Rat.not_lt.mp λq=>k ⟨e,me,q⟩;obtain⟨m,hm,mx⟩:=nK (λe:Eg=>aN d e.1) es n0;have K0:0<=((aN d m.1-aN d x)*(aN d m.1-aN d x)+1)/aN d d:=by
  have:=BB (aN d m.1-aN d x);rw[Rat.div_def];exact Rat.mul_nonneg (by grind) (Rat.le_of_lt (Rat.inv_pos.mpr d0))
 have K1:((aN d m.1-aN d x)*(aN d m.1-aN d x)+1)/aN d d*aN d d=(aN d m.1-aN d x)*(aN d m.1-aN d x)+1:=by rw[Rat.div_def];grind
 generalize((aN d m.1-aN d x)*(aN d m.1-aN d x)+1)/aN d d=K at *;obtain⟨g,hg,le⟩:=cx.box n0 d (x:=bU x d K) λe me=>by
  rw[jU];have:=Rat.mul_nonneg (k' e me) K0;have:=w e me;grind
 have l2:=mx g hg;have e1:aN d (bU x d K)=aN d x+K*aN d d:=by unfold aN bU;grind
 rw[e1,K1]at le;have:=BB (aN d m.1-aN d x-1/2);have l2:aN d g.1<=aN d m.1:=l2;grind
theorem JJ:∀(L:List Rat)(h:Rat),∃y,h<y/\∀z∈L,z<=h\/y<z
 |[],h=>⟨h+1,by grind,λz m=>absurd m (by simp)⟩
 |a::L,h=>by
  obtain⟨y,y0,hy⟩:=JJ L h
  by_cases c:a<=h
  ·exact⟨y,y0,λz m=>by
    obtain rfl|m:=SU.mp m
    ·exact .inl c
    ·exact hy z m⟩
  ·refine⟨if y<(h+a)/2 then y else(h+a)/2,by split<;>grind,λz m=>?_⟩;have e:(if y<(h+a)/2 then y else(h+a)/2)<=y/\(if y<(h+a)/2 then y else(h+a)/2)<a:=by split<;>grind
   obtain rfl|m:=SU.mp m
   ·exact .inr e.2
   ·obtain q|q:=hy z m
    ·exact .inl q
    ·exact .inr (by grind)
theorem Yr:∀L:List Rat,∃y,∀z∈L,y<z
 |[]=>⟨0,λz m=>absurd m (by simp)⟩
 |a::L=>by
  obtain⟨y,hy⟩:=Yr L;refine⟨if y<a then y-1 else a-1,λz m=>?_⟩;have e:(if y<a then y-1 else a-1)<a/\(if y<a then y-1 else a-1)<y:=by split<;>grind
  obtain rfl|m:=SU.mp m
  ·exact e.1
  ·have:=hy z m;grind
theorem Tt{L:List Rat}{a b h:Rat}(ab:a<b)(m:h∈L)(ha:a<h)(hb:h<b):(L.filter λz=>decide (b<z)).length<(L.filter λz=>decide (a<z)).length:=by
 induction L with
 |nil=>simp at m
 |cons z L ih=>
  have le:∀L:List Rat,(L.filter λz=>decide (b<z)).length<=(L.filter λz=>decide (a<z)).length:=λL=>by
   induction L with
   |nil=>simp
   |cons z L ih=>
    by_cases c:b<z
    ·rw[UM (by simpa using c),UM (by simp;grind)];simp;exact ih
    ·rw[VC (by simpa using c)]
     by_cases c2:a<z
     ·rw[UM (by simpa using c2)];simp;lia
     ·rw[VC (by simpa using c2)];exact ih
  obtain rfl|m:=SU.mp m
  ·rw[VC (by simp;grind),UM (by simpa using ha)];have:=le L;simp;lia
  ·have ih:=ih m
   by_cases c:b<z
   ·rw[UM (by simpa using c),UM (by simp;grind)];simp;exact ih
   ·rw[VC (by simpa using c)]
    by_cases c2:a<z
    ·rw[UM (by simpa using c2)];simp;lia
    ·rw[VC (by simpa using c2)];exact ih
theorem Om(H:yZ bs)(G:Gn (Cq bs) o d)(M:mW bs marks)(d0:0<aN d d):∀(n:Nat)(y0:Rat),(((iR bs).map (yE o d)).filter λz=>decide (y0<z)).length<=n->(∀e∈iR bs,fE e (bU o d y0)≠0)->
  ((cE bs marks).zipIdx.map λx=>if y0<yE o d (jK x.1)then cX bs marks o d x else 0).sum = - iI (∃g∈bs,Wi (d5 g.o) (bU o d y0)):=by
 have sub:∀g∈bs,∀e∈d5 g.o,e∈iR bs:=λg mg e me=>jJ mg me;have inL:∀x∈(cE bs marks).zipIdx,yE o d (jK x.1)∈(iR bs).map (yE o d):=λx mx=>SS.mpr ⟨jK x.1,(gQ H x.1 (SY (TQ.mp mx))).me,rfl⟩;have zL:∀e∈iR bs,∀z,fE e (bU o d z)=0->z∈(iR bs).map (yE o d):=λe me z k=>by
  rw[yY (G.s me k) k];exact SS.mpr ⟨e,me,rfl⟩
 intro n
 induction n with
 |zero=>
  intro y0 hn gen;have none:∀z∈(iR bs).map (yE o d),¬y0<z:=λz m q=>by
   have:z∈((iR bs).map (yE o d)).filter λz=>decide (y0<z):=TL.mpr ⟨m,by simpa using q⟩;have:=bu this
   lia
  rw[vZ]
  ·exact yV λx mx=>oW (none _ (inL x mx))
  ·rintro⟨g,mg,w⟩;obtain⟨e,me,s⟩:=NM (H.gb g mg).cx (H.gb g mg).es d0 w;have p:=w e me;have z:=Kj (o:=o) (show sl d e≠0 by grind);refine none _ (SS.mpr ⟨e,sub g mg e me,rfl⟩) ?_;rw[jU]at p z;generalize yE o d e=y at *;have:0<(y-y0) * -sl d e:=by grind
   have:=bJ (show 0 < -sl d e by grind) this;grind
 |succ n ih=>
  intro y0 hn gen
  by_cases c:∃z∈(iR bs).map (yE o d),y0<z
  ·-- the next place
   obtain⟨h,mh,hh,mn⟩:∃h∈(iR bs).map (yE o d),y0<h/\∀z∈(iR bs).map (yE o d),y0<z->h<=z:=by
    obtain⟨z,mz,hz⟩:=c;have ne:((iR bs).map (yE o d)).filter (λz=>decide (y0<z))≠[]:=λq=>by
     have:z∈((iR bs).map (yE o d)).filter λz=>decide (y0<z):=TL.mpr ⟨mz,by simpa using hz⟩;rw[q]at this;simp at this
    obtain⟨h,mh,mx⟩:=nK (λz:Rat=>-z) _ ne;obtain⟨m1,m2⟩:=TL.mp mh;exact⟨h,m1,by simpa using m2,λw mw hw=>by have:=mx w (TL.mpr ⟨mw,by simpa using hw⟩);grind⟩
   obtain⟨y1,hy1,g1⟩:=JJ ((iR bs).map (yE o d)) h;have aD7:∀e∈iR bs,∀z,h<z->z<=y1->fE e (bU o d z)≠0:=λe me z a b k=>by
    rcases g1 z (zL e me z k)with q|q<;>grind
   have aGO:∀e∈iR bs,∀z,y0<=z->z<h->fE e (bU o d z)≠0:=λe me z a b k=>by
    by_cases q:y0=z
    ·exact gen e me (q ▸ k)
    ·have:=mn z (zL e me z k) (by grind);grind
   have i1:=ih y1 (by have:=Tt (show y0<y1 by grind) mh hh hy1;lia) (λe me=>aD7 e me y1 hy1 (by grind));have spl:((cE bs marks).zipIdx.map λx=>if y0<yE o d (jK x.1)then cX bs marks o d x else 0).sum=((cE bs marks).zipIdx.map λx=>if yE o d (jK x.1)=h then cX bs marks o d x else 0).sum+((cE bs marks).zipIdx.map λx=>if y1<yE o d (jK x.1)then cX bs marks o d x else 0).sum:=by
    rw[<-Rk]
    congr 1
    refine VM λx mx=>?_;have ml:=inL x mx;generalize yE o d (jK x.1)=z at ml
    by_cases q:z=h
    ·rw[oV (by grind),oV q,oW (by grind)];lia
    ·by_cases q2:y0<z
     ·have:=mn z ml q2;have:y1<z:=by rcases g1 z ml with w|w<;>grind
      rw[oV q2,oW q,oV this];lia
     ·rw[oW q2,oW q,oW (by grind)];rfl
   rw[spl,i1,OC H G M h];have u1:(∃g∈bs,Wi (d5 g.o) (bU o d y1))↔(∃g∈bs,Wi (d5 g.o) (bU o d h))\/∃g∈bs,Sj (d5 g.o) (bU o d h) d true:=by
    have k:∀g∈bs,_:=λg mg=>wL G (eZ mg) (H.gb g mg).cx (y:=h) (z:=y1) (b:=true) λe me=>by
     have nz:=λz a b=>aD7 e (sub g mg e me) z a b;simp only[jU]at nz⊢;exact F5 hy1 nz
    constructor
    ·rintro⟨g,mg,w⟩;rcases(k g mg).mp w with q|q
     ·exact .inl ⟨g,mg,q⟩
     ·exact .inr ⟨g,mg,q⟩
    ·rintro (⟨g,mg,w⟩|⟨g,mg,w⟩)
     ·exact⟨g,mg,(k g mg).mpr (.inl w)⟩
     ·exact⟨g,mg,(k g mg).mpr (.inr w)⟩
   have u0:(∃g∈bs,Wi (d5 g.o) (bU o d y0))↔(∃g∈bs,Wi (d5 g.o) (bU o d h))\/∃g∈bs,Sj (d5 g.o) (bU o d h) d false:=by
    have k:∀g∈bs,_:=λg mg=>wL G (eZ mg) (H.gb g mg).cx (y:=h) (z:=y0) (b:=false) λe me=>by
     have nz:=λz a b=>aGO e (sub g mg e me) z a b;simp only[jU]at nz⊢;exact AY hh nz
    constructor
    ·rintro⟨g,mg,w⟩;rcases(k g mg).mp w with q|q
     ·exact .inl ⟨g,mg,q⟩
     ·exact .inr ⟨g,mg,q⟩
    ·rintro (⟨g,mg,w⟩|⟨g,mg,w⟩)
     ·exact⟨g,mg,(k g mg).mpr (.inl w)⟩
     ·exact⟨g,mg,(k g mg).mpr (.inr w)⟩
   rw[kD u1,kD u0]
   lia
  ·refine ih y0 ?_ gen;have:((iR bs).map (yE o d)).filter (λz=>decide (y0<z))=[]:=WW.mpr λz m q=>c ⟨z,m,by simpa using q⟩;rw[this];simp
theorem Wj(H:yZ bs)(G:Gn (Cq bs) o d)(M:mW bs marks)(d0:0<aN d d):((eM bs marks).map (uX (ht d o) d)).sum=0:=by
 rw[nP,yU];obtain⟨y0,hy⟩:=Yr ((iR bs).map (yE o d));have gen:∀e∈iR bs,fE e (bU o d y0)≠0:=λe me k=>by
  have:=hy _ (SS.mpr ⟨e,me,rfl⟩);rw[<-yY (G.s me k) k]at this;grind
 have j:=Om H G M d0 _ y0 (TN _) gen;rw[vZ]at j
 ·have e:((cE bs marks).zipIdx.map λx=>((D2 bs marks x).map (uX (ht d o) d)).sum)=(cE bs marks).zipIdx.map λx=>if y0<yE o d (jK x.1)then cX bs marks o d x else 0:=VM λx mx=>by
   rw[oV (hy _ (SS.mpr ⟨jK x.1,(gQ H x.1 (SY (TQ.mp mx))).me,rfl⟩))];rfl
  rw[e,j];rfl
 ·rintro⟨g,mg,w⟩;obtain⟨e,me,s⟩:=NM (H.gb g mg).cx (H.gb g mg).es (d:=(-d.1,-d.2)) (by unfold aN at *;grind) w;have s':0<sl d e:=by unfold sl aT at *;grind
  have p:=w e me;have z:=Kj (o:=o) (show sl d e≠0 by grind);have l:=hy _ (SS.mpr ⟨e,jJ mg me,rfl⟩);rw[jU]at p z;generalize yE o d e=y at *;have:=Rat.mul_pos (show 0<y-y0 by grind) s';grind
end
theorem Xr(hn:∀e∈B.flatten,0<aN (aH e) (aH e))(d w:Q2)(hw:ht d w=1):∃F:List Rat,∀c,c∉F->Gn B (c*w.1,c*w.2) d/\ht d (c*w.1,c*w.2)=c:=by
 refine⟨B.flatten.map (λe=>ht d e.1)++B.flatten.map (λe=>ht d e.2)++B.flatten.flatMap (λe=>B.flatten.map λg=>(aT (aH e) e.1*aT (aH g) d-aT (aH g) g.1*aT (aH e) d)/aT (aH e) (aH g)),λc hc=>?_⟩;have vi:ht d (c*w.1,c*w.2)=c:=by
  have:ht d (c*w.1,c*w.2)=c*ht d w:=by unfold ht aT;grind
  rw[this,hw];grind
 refine⟨⟨hn,λe me=>⟨λq=>hc ?_,λq=>hc ?_⟩,λe g y oe og z1 z2=>?_⟩,vi⟩
 ·rw[vi]at q;exact UD _ (UD _ (SS.mpr ⟨e,me,q⟩))
 ·rw[vi]at q;exact UD _ (TK _ (SS.mpr ⟨e,me,q⟩))
 ·refine Classical.byContradiction λk=>hc (TK _ (UC.mpr ⟨e,oe.m,SS.mpr ⟨g,og.m,?_⟩⟩));have hp:=Az (c*w.1,c*w.2) d y;rw[vi]at hp;generalize bU (c*w.1,c*w.2) d y=P at *;have a1:aT (aH e) P=aT (aH e) e.1:=by unfold fE aT aK at z1;unfold aT;grind
  have a2:aT (aH g) P=aT (aH g) g.1:=by unfold fE aT aK at z2;unfold aT;grind
  have id1:aT P d*aT (aH e) (aH g)=aT (aH e) P*aT (aH g) d-aT (aH g) P*aT (aH e) d:=by unfold aT;grind
  rw[<-a1,<-a2,<-id1,<-hp];show aT P d*_/_=aT P d;rw[Rat.div_def];grind
def aX:List Rat->Rat
 |[]=>0
 |x::xs=>x+aX xs
theorem t8{xs ys:List Rat}(h:xs.Perm ys):aX xs=aX ys:=by
 induction h with
 |nil=>rfl
 |cons x _ ih=>show x+_=x+_;rw[ih]
 |swap x y l=>show y+(x+_)=x+(y+_);grind
 |trans _ _ h1 h2=>rw[h1,h2]
def sJ(c:Rat)(L:List Rat):Nat:=(L.filter λz=>decide (z<c)).length
theorem iH(c z:Rat)(L:List Rat):sJ c (z::L)=(if z<c then 1 else 0)+sJ c L:=by
 unfold sJ
 by_cases q:z<c
 ·rw[UM (by simpa using q),oV q,TB];lia
 ·rw[VC (by simpa using q),oW q];lia
theorem t5{x c1 c2:Rat}(h1:c1<x)(h2:x<c2):∀L:List Rat,(∀z∈L,z=x\/z<c1\/c2<z)->sJ c2 L=sJ c1 L+L.count x
 |[],_=>rfl
 |z::L,h=>by
  have ih:=t5 h1 h2 L λw m=>h w (by simp[m]);rw[iH,iH,List.count_cons];obtain q|q|q:=h z (by simp)
  ·subst q;rw[oV h2,oW (by grind),oV (by simp)];lia
  ·rw[oV (by grind),oV q,oW (by simp;grind)];lia
  ·rw[oW (by grind),oW (by grind),oW (by simp;grind)];lia
theorem Ac(L:List Rat)(h:Rat):∃y,y<h/\∀z∈L,h<=z\/z<y:=by
 obtain⟨y,y0,hy⟩:=JJ (L.map λz=>-z) (-h);refine⟨-y,by grind,λz m=>?_⟩;obtain q|q:=hy (-z) (SS.mpr ⟨z,m,rfl⟩)
 ·exact .inl (by grind)
 ·exact .inr (by grind)
theorem xY{P Q F:List Rat}(h:∀c,c∉F->sJ c P=sJ c Q):P.Perm Q:=by
 rw[List.perm_iff_count];intro x;obtain⟨c2,g2,h2⟩:=JJ (P++Q++F) x;obtain⟨c1,g1,h1⟩:=Ac (P++Q++F) x;have sep:∀z∈P++Q++F,z=x\/z<c1\/c2<z:=λz m=>by
  obtain q|q:=h2 z m
  ·obtain w|w:=h1 z m
   ·exact .inl (by grind)
   ·exact .inr (.inl w)
  ·exact .inr (.inr q)
 have nF:∀c,(c=c1\/c=c2)->c∉F:=λc hc m=>by
  rcases sep c (TK _ m)with q|q|q<;>rcases hc with w|w<;>grind
 have a:=t5 g1 g2 P λz m=>sep z (UD _ (UD _ m));have b:=t5 g1 g2 Q λz m=>sep z (UD _ (TK _ m));have e1:=h c1 (nF c1 (.inl rfl));have e2:=h c2 (nF c2 (.inr rfl))
 lia
theorem Z1{α:Type}{f g:α->Rat}{c:Rat}:∀{R:List α},(∀r∈R,f r≠c/\g r≠c)->(R.map λr=>if f r<c/\c<g r then(1:Int)else if g r<c/\c<f r then -1 else 0).sum=(sJ c (R.map f):Int)-(sJ c (R.map g):Int)
 |[],_=>rfl
 |r::R,h=>by
  have ih:=Z1 (R:=R) λx m=>h x (by simp[m]);obtain⟨n1,n2⟩:=h r (by simp);rw[TH,UQ,ih,TH,TH,iH,iH]
  by_cases a:f r<c
  ·by_cases b:g r<c
   ·rw[oW (by grind),oW (by grind),oV a,oV b];push_cast;lia
   ·rw[oV (by grind),oV a,oW b];push_cast;lia
  ·by_cases b:g r<c
   ·rw[oW (by grind),oV (by grind),oW a,oV b];push_cast;lia
   ·rw[oW (by grind),oW (by grind),oW a,oW b];push_cast;lia
theorem Ew(H:yZ bs)(M:mW bs marks)(d0:0<aN d d):((eM bs marks).map λr=>ht d (vq r.2.2.1)).Perm ((eM bs marks).map λr=>ht d (vq r.2.2.2)):=by
 have hn:∀e∈iR bs,0<aN (aH e) (aH e):=λe me=>by
  obtain⟨b,mb,me⟩:=rM me;exact(H.gb b mb).cx.ne e me
 obtain⟨F,hF⟩:=Xr hn d (d.2/aN d d,-d.1/aN d d) (by
  show d.2/aN d d*d.2 - -d.1/aN d d*d.1=1;have:aN d d=d.1*d.1+d.2*d.2:=rfl;rw[Rat.div_def,Rat.div_def];have n0:aN d d≠0:=by grind
  grind)
 refine xY (F:=F++(eM bs marks).map (λr=>ht d (vq r.2.2.1))++(eM bs marks).map λr=>ht d (vq r.2.2.2)) λc hc=>?_;obtain⟨G,vi⟩:=hF c λm=>hc (UD _ (UD _ m));have z:=Wj (marks:=marks) H G M d0;rw[vi]at z;have:=Z1 (f:=λr:zC=>ht d (vq r.2.2.1)) (g:=λr:zC=>ht d (vq r.2.2.2)) (c:=c) (R:=eM bs marks) λr m=>⟨λq=>hc (UD _ (TK _ (SS.mpr ⟨r,m,q⟩))),λq=>hc (TK _ (SS.mpr ⟨r,m,q⟩))⟩;have e:((eM bs marks).map (uX c d)).sum=_:=this
 lia
section
variable{P:da}{w:dk}{K:W.Frag}{mg:Str->Option oA}{base:oE}
def hJ{α:Type}:List α->List α
 |[]=>[]
 |[x]=>[x]
 |x::_::r=>x::hJ r
def lH{α:Type}:List α->List α
 |[]=>[]
 |[_]=>[]
 |_::y::r=>y::lH r
theorem Zw(n:Nat):AV n none (oZ 2)=(VF ((n+1)/2)).map (2 * ·):=by
 have e:fq none none (oZ 2) n=(0,(n:Int),2):=rfl;unfold AV;rw[e];unfold sliceRange;simp only;have c:(if(2:Int)>0 then(if(0:Int)<(n:Int)then((n:Int)-0+2-1)/2 else 0)else(if(0:Int)>(n:Int)then(0-(n:Int)-2-1)/(-2)else 0)).toNat=(n+1)/2:=by
  rw[oV ∅]
  split<;>lia
 rw[c];refine VM λk _=>?_
 lia
theorem U4(n:Nat):AV n (oZ 1) (oZ 2)=(VF (n/2)).map (2 * · + 1):=by
 have e:fq (oZ 1) none (oZ 2) n=(max 0 (min 1 (n:Int)),(n:Int),2):=rfl;unfold AV;rw[e];unfold sliceRange;simp only;have c:(if(2:Int)>0 then(if max 0 (min 1 (n:Int))<(n:Int)then((n:Int)-max 0 (min 1 (n:Int))+2-1)/2 else 0)else(if max 0 (min 1 (n:Int))>(n:Int)then(max 0 (min 1 (n:Int))-(n:Int)-2-1)/(-2)else 0)).toNat=n/2:=by
  rw[oV ∅]
  split<;>lia
 rw[c];refine VM λk m=>?_;have:=VL.mp m
 lia
theorem xH{α:Type}:∀xs:List α,((VF ((xs.length+1)/2)).map (2 * ·)).filterMap (xs[·]?)=hJ xs
 |[]=>by simp[hJ]
 |[x]=>by simp[hJ]
 |x::y::r=>by
  have ih:=xH r;have e:((x::y::r).length+1)/2=(r.length+1)/2+1:=by simp;lia
  rw[e,YQ,TH,UZ (b:=x) (by rfl),hJ,<-ih,UA,XM,XM]
  congr 1
theorem Ee{α:Type}:∀xs:List α,((VF (xs.length/2)).map (2 * · + 1)).filterMap (xs[·]?)=lH xs
 |[]=>by simp[lH]
 |[x]=>by simp[lH]
 |x::y::r=>by
  have ih:=Ee r;have e:(x::y::r).length/2=r.length/2+1:=by simp;lia
  rw[e,YQ,TH,UZ (b:=y) (by rfl),lH,<-ih,UA,XM,XM]
  congr 1
theorem Ni{α:Type}(xs:List α):fR xs none (oZ 2)=hJ xs:=by
 unfold fR;rw[Zw];exact xH xs
theorem Vc{α:Type}(xs:List α):fR xs (oZ 1) (oZ 2)=lH xs:=by
 unfold fR;rw[U4];exact Ee xs
theorem Ar{α β:Type}(f:α->β):∀xs:List α,hJ (xs.map f)=(hJ xs).map f
 |[]=>rfl
 |[x]=>rfl
 |x::y::r=>by show f x::hJ (r.map f)=_;rw[Ar f r];rfl
theorem Iu{α β:Type}(f:α->β):∀xs:List α,lH (xs.map f)=(lH xs).map f
 |[]=>rfl
 |[x]=>rfl
 |x::y::r=>by show f y::lH (r.map f)=_;rw[Iu f r];rfl
theorem Wm(xs:List L2.T)(m:Nat):iC xs (oZ (m:Int)) none=xs.drop m:=by
 unfold iC;rw[HT.sIx_none,HT.sIx_nat];obtain h|h:=Nat.le_total m xs.length
 ·rw[ZD h];exact WJ (by simp)
 ·rw[Nat.min_eq_right h,WV,List.drop_eq_nil_of_le h];simp
structure MU(U:Nat)(f:Fr)(m:Int):Prop where
 n:bL f
 e:val f*(U:Rat)=(m:Rat)
theorem MU.sz{U:Nat}{m:Int}(h:MU U f m)(u0:0<U){e:Nat}(hu:U<2^e)(hm:m.natAbs<2^e)(he:1<=e):My.sz f<=e:=by
 have d1:=h.n.d;have n0:(f.2:Rat)≠0:=by exact_mod_cast (show f.2≠0 by lia)
 have e1:f.1*(U:Int)=m*f.2:=by
  have:=h.e;unfold val at this;have k:(f.1:Rat)*(U:Rat)=(m:Rat)*(f.2:Rat):=by rw[<-this,Rat.div_def];grind
  exact_mod_cast k
 have e2:f.1.natAbs*U=m.natAbs*f.2.natAbs:=by
  have:=congrArg Int.natAbs e1;rw[VW,VW,ZP]at this;exact this
 have dv:f.2.natAbs∣U:=by
  have c:YR f.2.natAbs f.1.natAbs:=by unfold YR;rw[YZ];exact h.n.g
  exact c.dvd_of_dvd_mul_left ⟨m.natAbs,by rw[e2];exact Nat.mul_comm _ _⟩
 obtain⟨c,hc⟩:=dv;have f0:0<f.2.natAbs:=⋯
 have c0:0<c:=by
  obtain z|z:=ZN c
  ·rw[z]at hc;lia
  ·exact z
 have e3:f.1.natAbs*c=m.natAbs:=by
  rw[hc,<-YT,Nat.mul_comm f.1.natAbs,YT,Nat.mul_comm m.natAbs]at e2;exact Nat.eq_of_mul_eq_mul_left f0 e2
 refine n9 ?_ ?_ he
 ·exact UN (by rw[<-e3];exact bf _ c0) hm
 ·exact UN (by rw[hc];exact bf _ c0) hu
theorem MU.add{U:Nat}{m n:Int}(h:MU U f m)(k:MU U g n):MU U (fM f g) (m+n):=⟨eC h.n k.n,by rw[jH h.n k.n];push_cast;have:=h.e;have:=k.e;grind⟩
def bQ(xs:List (Fr×Int)):List (Fr×Int):=((hJ xs).zip (lH xs)).map λp=>(fM p.1.1 p.2.1,p.1.2+p.2.2)
def yT:List (Fr×Int)->Int
 |[]=>0
 |x::xs=>x.2+yT xs
def uK:List (Fr×Int)->Nat
 |[]=>0
 |x::xs=>x.2.natAbs+uK xs
def HR(U:Nat)(xs:List (Fr×Int)):Prop:=∀x∈xs,MU U x.1 x.2
theorem u9{U:Nat}:∀xs:List (Fr×Int),HR U xs->HR U (bQ xs)/\(bQ xs).length=xs.length/2/\yT (bQ xs++xs.drop ((bQ xs).length*2))=yT xs/\uK (bQ xs++xs.drop ((bQ xs).length*2))<=uK xs/\HR U (xs.drop ((bQ xs).length*2))
 |[],h=>⟨λf m=>absurd m (by simp[bQ,hJ,lH]),rfl,rfl,TN _,λf m=>absurd m (by simp)⟩
 |[x],h=>⟨λf m=>absurd m (by simp[bQ,hJ,lH]),by simp[bQ,hJ,lH],rfl,TN _,h⟩
 |x::y::r,h=>by
  obtain⟨h1,h2,h3,h4,h5⟩:=u9 r λf m=>h f (by simp[m]);have hx:=h x (by simp);have hy:=h y (by simp);have e:bQ (x::y::r)=(fM x.1 y.1,x.2+y.2)::bQ r:=rfl;have ed:(x::y::r).drop ((bQ (x::y::r)).length*2)=r.drop ((bQ r).length*2):=by
   rw[e,TB,show((bQ r).length+1)*2=(bQ r).length*2+1+1 by lia];rfl
  rw[ed,e];refine⟨λf m=>?_,by simp[h2];lia,?_,?_,h5⟩
  ·obtain rfl|m:=SU.mp m
   ·exact hx.add hy
   ·exact h1 f m
  ·show x.2+y.2+yT (bQ r++_)=x.2+(y.2+yT r);rw[h3];lia
  ·show(x.2+y.2).natAbs+uK (bQ r++_)<=x.2.natAbs+(y.2.natAbs+uK r)
   lia
theorem Od:∀{xs:List (Fr×Int)}{x:Fr×Int},x∈xs->x.2.natAbs<=uK xs
 |y::xs,x,m=>by
  show x.2.natAbs<=y.2.natAbs+uK xs;obtain rfl|m:=SU.mp m
  ·lia
  ·have:=Od m;lia
theorem Si:∀{xs:List (Fr×Int)}{p:(Fr×Int)×(Fr×Int)},p∈(hJ xs).zip (lH xs)->p.1∈xs/\p.2∈xs
 |[],p,m=>by simp[hJ,lH]at m
 |[x],p,m=>by simp[hJ,lH]at m
 |x::y::r,p,m=>by
  rcases SU.mp (show p∈(x,y)::(hJ r).zip (lH r)from m)with rfl|m
  ·exact⟨by simp,by simp⟩
  ·obtain⟨h2,h3⟩:=Si m;exact⟨by simp[h2],by simp[h3]⟩
def fx(x:Fr×Int):L2.T:=fr x.1
def J2:iU:=λas Q=>∃(xs:List (Fr×Int))(N:Nat),as=[.v (.lst (xs.map fx))]/\xs.length<=8000/\HR N xs/\0<N/\N<2^3700/\uK xs<2^3700/\∀t,MU N t (yT xs)->sz t<=3700->Q (.v (fr t)) []
abbrev uW(P w K mg base):=(~~~Fn) 4 "total_of" ["sizes"] (aU K J2)
abbrev qS:dh:=top 38
theorem nZ:aI ["sizes","pairs"] ["sizes"] (aC qS):=iQ
theorem Jh(F:eO K "total_of" "total_of" qS f fd)(TX:Txt mg)(qh: ~~~wO):(~~~bG) fJ 4 f fd ["sizes"] (aU K J2):=by
 refine F.okU nZ (λhr=>(aB (xO PassesOwn.never (fP sN (gH rfl rfl TX.n_len (f1 (fv 0))) aA) (aB (sA (i:=1) (N':=oH) (t:=2) (cap:=[]) nZ.nd rfl (WE rfl) rfl rfl (bI.of rfl) rfl ∅ (Dk rfl rfl TX.n_zip (f2 (Pg rfl (fv 0) jG (d9 aA)) (Pg rfl (fv 0) (d9 aA) (d9 aA)))) (λ_ _ _ _=>(cM (n:=2) rfl rfl (aF (fH 0) (aF (fH 1) bS)))) (λ_ _ _ _=>(fK qh (f2 (fv 0) (fv 1))))) (aE (fS 0 nZ.nd (Di (fv 1) (h9 rfl (fv 0) (d9 (aM aS (gH rfl rfl TX.n_len (f1 (fv 1))) aA)) jG)))))) (aE (aP (r8 (DO rfl (fv 0)) (fQ 0) (aO (f2 aA aA))))))) ?_;rintro as Q ⟨xs,N,rfl,hl,hn,u0,hN,hs,z⟩;refine⟨λm E=>∃(gs:List (Fr×Int))(u:U)(v:Option U),E=[oZ u,v]/\(u = .p (.lst (gs.map fx))\/u = .o false (gs.map fx))/\m=gs.length/\gs.length<=8000/\HR N gs/\uK gs<2^3700/\yT gs=yT xs,⟨_,xs,_,_,rfl,.inl rfl,rfl,hl,hn,hs,rfl⟩,?_⟩;rintro m E ⟨gs,u,v,rfl,hu,rfl,hl,hn,hs,hv⟩;have st1:fR (gs.map fx) none (oZ 2)=(hJ gs).map fx:=by rw[Ni,Ar]
 have st2:fR (gs.map fx) (oZ 1) (oZ 2)=(lH gs).map fx:=by rw[Vc,Iu]
 obtain⟨p1,p2,p3,p4,p5⟩:=u9 gs hn;have le1:∀gs:List (Fr×Int),(hJ gs).length<=gs.length/\(lH gs).length<=gs.length:=λgs=>by
  have h1:=congrArg YO (xH gs);have h2:=congrArg YO (Ee gs);have a1:=av (gs[·]?) ((VF ((gs.length+1)/2)).map (2 * ·));have a2:=av (gs[·]?) ((VF (gs.length/2)).map (2 * · + 1));rw[SV,ZY]at a1 a2
  lia
 obtain⟨l1,l2⟩:=le1 gs;have szm:∀x∈gs,sz x.1<=3700:=λx m=>(hn x m).sz u0 hN (UN (Od m) hs) ∅;have yo:uK (bQ gs++gs.drop ((bQ gs).length*2))<2^3700:=UN p4 hs;obtain rfl|rfl:=hu
 all_goals
  show if decide ((1:Int)<((gs.map fx).length:Int))=true then _ else _
  by_cases c:(1:Int)<((gs.map fx).length:Int)
  ·rw[oY c,oV rfl];rw[SV]at c;refine⟨(show(oZ (2:Int))≠oZ 0 by decide),?_,(show(oZ (2:Int))≠oZ 0 by decide),?_,rfl,?_⟩
   ·show(fR (gs.map fx) none (oZ 2)).length<=9000;rw[st1,SV];lia
   ·show(fR (gs.map fx) (oZ 1) (oZ 2)).length<=9000;rw[st2,SV];lia
   ·show iV _ _ (gP (fR (gs.map fx) none (oZ 2)) (fR (gs.map fx) (oZ 1) (oZ 2))) _ _;rw[st1,st2,zip_map];refine dF (f:=λp:(Fr×Int)×(Fr×Int)=>.tup [fx p.1,fx p.2]) (h:=λp=>fr (fM p.1.1 p.2.1)) (λ(w:Option U×Option U)acc=>[w.1,w.2,↥acc]) _ (none,none) [] (by simp;lia) (λp m w acc rest ha K=>?_) λw=>?_
    ·obtain⟨s2,s3⟩:=Si m;have k2:=szm _ s2;have k3:=szm _ s3;exact⟨p.1.1,p.2.1,rfl,(hn _ s2).n,(hn _ s3).n,⋯,ha,K (⇑(fx p.1),⇑(fx p.2))⟩
    ·refine⟨a9 (λ_=>rfl) _,?_⟩;rw[VO,show(((hJ gs).zip (lH gs)).map λp=>fr (fM p.1.1 p.2.1))=(bQ gs).map fx by rw[bQ,UA];rfl];have ec:iC (gs.map fx) (oZ ((((bQ gs).map fx).length:Int)*2)) none=(gs.drop ((bQ gs).length*2)).map fx:=by
      rw[SV,show(((bQ gs).length:Int)*2)=(((bQ gs).length*2:Nat):Int) by push_cast;rfl,Wm,ZV]
     refine⟨zN ∅,?_,?_⟩
     ·show((bQ gs).map fx).length+(iC (gs.map fx) (oZ ((((bQ gs).map fx).length:Int)*2)) none).length<=9000;rw[ec,SV,SV,WL];lia
     ·refine⟨(bQ gs++gs.drop ((bQ gs).length*2)).length,by rw[TC,WL];lia,bQ gs++gs.drop ((bQ gs).length*2),.o false ((bQ gs++gs.drop ((bQ gs).length*2)).map fx),↥((bQ gs).map fx),?_,.inr rfl,rfl,by rw[TC,WL];lia,λf m=>(TY.mp m).elim (p1 f) (p5 f),yo,by rw[p3,hv]⟩;rw[US,<-ec];rfl
  ·rw[oX c,oW ∅];rw[SV]at c
   match gs,hn,hv,szm,c with
   |[],hn,hv,szm,c=>
    refine⟨rfl,z (0,1) ⟨⟨∅,∅⟩,?_⟩ ?_⟩
    ·rw[<-hv];show val (0,1)*_=((0:Int):Rat);rw[dX];grind
    ·exact VE (n9 (e:=1) (p:=(0,1)) ∅ ∅ ∅) ∅
   |[g],hn,hv,szm,c=>
    refine⟨rfl,z g.1 ?_ (szm g (by simp))⟩;rw[<-hv];have:yT [g]=g.2:=by show g.2+0=g.2;lia
    rw[this];exact hn g (by simp)
   |_::_::_,hn,hv,szm,c=>simp at c;lia
def Us(r:zC):Pr:=(r.2.2.1,r.2.2.2)
def HU(x:Pr):Fr:=eR x.1.1 x.1.2 x.2.1 x.2.2
def Ss(N B:Nat)(p:Pt):Prop:=∃m n:Int,MU N p.1 m/\MU N p.2 n/\m.natAbs<=B/\n.natAbs<=B
theorem MU.mul{U V:Nat}{m n:Int}(h:MU U f m)(k:MU V g n):MU (U*V) (kB f g) (m*n):=⟨aW h.n k.n,by
 rw[fD h.n k.n];push_cast;have:=h.e;have:=k.e;rw[<-h.e,<-k.e];grind⟩
theorem MU.sub{U:Nat}{m n:Int}(h:MU U f m)(k:MU U g n):MU U (aQ f g) (m-n):=⟨aR h.n k.n,by rw[bK h.n k.n];push_cast;have:=h.e;have:=k.e;grind⟩
theorem Ss.np(h:Ss N B p):NP p:=let⟨_,_,a,b,_⟩:=h;⟨a.n,b.n⟩
theorem Ss.nv(h:Ss N B p)(u0:0<N)(hN:N<2^e)(hB:B<2^e)(he:1<=e):Nv p.1 p.2 e:=by
 obtain⟨m,n,a,b,c,d⟩:=h;exact⟨a.n,b.n,a.sz u0 hN ⋯ he,b.sz u0 hN ⋯ he⟩
theorem II(ha:Ss N B x.1)(hb:Ss N B x.2):∃m:Int,MU (N*N) (HU x) m/\m.natAbs<=2*(B*B):=by
 obtain⟨m,n,a,b,c,d⟩:=ha;obtain⟨m',n',a',b',c',d'⟩:=hb;refine⟨_,(a.mul b').sub (b.mul a'),?_⟩;have k1:(m*n').natAbs<=B*B:=by rw[VW];exact VR c d'
 have k2:(n*m').natAbs<=B*B:=by rw[VW];exact VR d c'
 omega
theorem CS(ha:NP x.1)(hb:NP x.2):val (HU x)=aT (vq x.1) (vq x.2):=by
 unfold HU eR aT vq;rw[bK (aW ha.x hb.y) (aW ha.y hb.x),fD ha.x hb.y,fD ha.y hb.x]
def M6(x:Pr):Rat:=aT (vq x.1) (vq x.2)
theorem Yt:∀{xs:List Pr},(∀x∈xs,Ss N B x.1/\Ss N B x.2)->∃ys:List (Fr×Int),ys.map Prod.fst=xs.map HU/\HR (N*N) ys/\uK ys<=xs.length*(2*(B*B))/\(0<N->(yT ys:Rat)=aX (xs.map M6)*((N*N:Nat):Rat))
 |[],_=>⟨[],rfl,λx m=>absurd m (by simp),VZ _,λ_=>by show((0:Int):Rat)=0*_;grind⟩
 |x::xs,h=>by
  obtain⟨ys,h1,h2,h3,h4⟩:=Yt (xs:=xs) λy m=>h y (by simp[m]);obtain⟨hx1,hx2⟩:=h x (by simp);obtain⟨m,hm,hb⟩:=II hx1 hx2;refine⟨(HU x,m)::ys,by rw[TH,TH,h1],λy my=>?_,?_,λn0=>?_⟩
  ·obtain rfl|my:=SU.mp my
   ·exact hm
   ·exact h2 y my
  ·show m.natAbs+uK ys<=(xs.length+1)*(2*(B*B));rw[Nat.succ_mul];lia
  ·show((m+yT ys:Int):Rat)=(M6 x+aX (xs.map M6))*_;have e:=hm.e;rw[CS hx1.np hx2.np]at e
   push_cast
   have h4:=h4 n0
   push_cast at h4 e
   rw[h4,<-e];unfold M6;grind
theorem EK:bL (1,2):=⟨∅,∅⟩
theorem Jj:(2^1840*2^1840<2^3700/\8000*(2*(2^1840*2^1840))<2^3700:Prop):=by decide +kernel
def J1:iU:=λas Q=>∃(xs:List Pr)(N B:Nat),as=[.v (.lst (xs.map wH))]/\xs.length<=8000/\(∀x∈xs,Ss N B x.1/\Ss N B x.2)/\0<N/\N<2^1840/\B<2^1840/\∀t,bL t->val t=aX (xs.map M6)*(1/2)->sz t<=3800->Q (.v (fr t)) []
abbrev m8(P w K mg base):=(~~~Fn) 5 "size_within" ["bounds"] (aU K J1)
abbrev kZ:dh:=top 39
theorem yL:aI ["bounds"] ["bounds"] (aC kZ):=iQ
theorem xW(F:eO K "size_within" "size_within" kZ f fd)(TX:Txt mg)(nj: ~~~rK)(sf: ~~~uW)(we: ~~~Hc):(~~~bG) fJ 5 f fd ["bounds"] (aU K J1):=by
 refine F.okU yL (λhr=>(aE (aP (fK nj (f2 (fK sf (f1 (jW (N':=["begin","end"]) (t:=2) (cap:=[]) rfl (bI.of rfl) rfl ∅ (cS rfl (fv 0)) (λ_ _ _ _=>(cM (n:=2) rfl rfl (aF (fH 0) (aF (fH 1) bS)))) (λ_ _ _ _=>(fK we (f2 (fv 0) (fv 1))))))) (aO (f2 aA aA))))))) ?_;rintro as Q ⟨xs,N,B,rfl,hl,hx,n0,hN,hB,z⟩;refine⟨rfl,dF (f:=wH) (h:=λx=>fr (HU x)) (λ(w:Option U×Option U)acc=>[w.1,w.2,↥acc]) xs (none,none) [] (by simp;lia) (λx m w acc rest ha K=>?_) λw=>?_⟩
 ·exact⟨_,_,_,_,1840,1840,rfl,(hx x m).1.nv n0 hN hB ∅,(hx x m).2.nv n0 hN hB ∅,∅,ha,K (⇑(pt x.1),⇑(pt x.2))⟩
 ·refine⟨a9 (λ_=>rfl) _,?_⟩;obtain⟨ys,y1,y2,y3,y4⟩:=Yt hx;have el:ys.length=xs.length:=by have:=congrArg YO y1;simpa using this
  have nn:0<N*N:=ZM n0 n0;have b1:N*N<2^3700:=UN (VR (UX hN) (UX hN)) Jj.1;have b2:uK ys<2^3700:=UN (VE y3 (VR hl (VR (TN _) (VR (UX hB) (UX hB))))) Jj.2;refine⟨ys,N*N,?_,⋯,y2,nn,b1,b2,λt mt st=>?_⟩
  ·have:ys.map fx=(ys.map Prod.fst).map fr:=by rw[UA];rfl
   rw[this,y1,UA];rfl
  ·have s12:sz (1,2)<=2:=n9 ∅ ∅ ∅;have sm:=fT mt.n EK;refine⟨t,(1,2),rfl,mt.n,EK,⋯,rfl,z _ (aW mt.n EK) ?_ ⋯⟩;rw[fD mt.n EK];have:val (1,2)=1/2:=by show((1:Int):Rat)/((2:Int):Rat)=1/2;push_cast;rfl
   rw[this]
   congr 1
   have e:=mt.e;rw[y4 n0]at e;have nz:((N*N:Nat):Rat)≠0:=by exact_mod_cast (show N*N≠0 by lia)
   grind
def Vt(N B:Nat)(rs:List zC):Prop:=∀r∈rs,Ss N B r.2.2.1/\Ss N B r.2.2.2
def J0:iU:=λas Q=>∃(bs:List eJ)(marks:Str)(N B:Nat),as=[.v (.lst (bs.map cU))]/\M1 bs marks/\mW bs marks/\Vt N B (eM bs marks)/\0<N/\N<2^1840/\B<2^1840/\∀t,bL t->val t=aX ((eM bs marks).map λr=>M6 (Us r))*(1/2)->sz t<=3800->Q (.v (fr t)) []
abbrev wY(P w K mg base):=(~~~Fn) 7 "size_of" ["blocks"] (aU K J0)
abbrev uE:dh:=top 40
theorem mK:aI ["blocks","edges","number","block"] ["blocks"] (aC uE):=iQ
theorem Mi(F:eO K "size_of" "size_of" uE f fd)(TX:Txt mg)(qx: ~~~rC)(qd: ~~~m8):(~~~bG) fJ 7 f fd ["blocks"] (aU K J0):=by
 refine F.okU mK (λhr=>(aB (fS 1 mK.nd (cH gG)) (aB (eS PassesOwn.never rfl (vY rfl rfl TX.n_enumerate (f1 (fv 0))) (cM (n:=2) rfl rfl (aF (fG 2 mK.nd) (aF (fG 3 mK.nd) bS))) (aE (e7 (Au rfl (fv 1) (f1 (jW (N':=["edge","number"]) (t:=1) (cap:=[(2,false)]) rfl (bI.of rfl) rfl ∅ (iY rfl TX.n_range (f1 (gH rfl rfl TX.n_len (f1 (fQ 3))))) (λ_ _ _ _=>(fH 0)) (λ_ _ _ _=>(aO (f2 (fv 1) (fv 0)))))))))) (aE (aP (fK qd (f1 (jW (N':=["number","edge","begin","end"]) (t:=4) (cap:=[]) rfl (bI.of rfl) rfl ∅ (cS rfl (fK qx (f2 (fv 0) (fv 1)))) (λ_ _ _ _=>(cM (n:=4) rfl rfl (aF (fH 0) (aF (fH 1) (aF (fH 2) (aF (fH 3) bS)))))) (λ_ _ _ _=>(aO (f2 (fv 2) (fv 3)))))))))))) ?_;rintro as Q ⟨bs,marks,N,B,rfl,h,M,hU,n0,hN,hB,z⟩;show dU _ _ _ ((bs.map cU).zipIdx.map λq=>L2.T.tup [.int (q.2:Int),q.1]) _;rw[HM];refine cW (f:=λq:eJ×Nat=>L2.T.tup [.int (q.2:Int),cU q.1]) (λs':List L2.T×Option U×Option U=>[⇑(.lst (bs.map cU)),↥s'.1,s'.2.1,s'.2.2])
  (λxs s'=>(∀x∈xs,x.1∈bs)/\s'.1.length+6*xs.length<=8000/\dN s'.1=true/\s'.1++(xs.flatMap λx=>L1 marks x.2 x.1).map L4=(cE bs marks).map L4) ?_ ?_ bs.zipIdx ([],none,none) ⟨λx m=>SY (TQ.mp m),by have:=h.len;simp;lia,rfl,rfl⟩
 ·rintro x xs ⟨acc,v3,v4⟩ rest ⟨hx,hl,uh,e⟩ K;obtain⟨b,n⟩:=x;have mb:=hx (b,n) (by simp);obtain⟨f1,f2⟩:=h.six b mb;simp only[TB]at hl;have ee:L1 marks n b=(VF b.o.length).map (Li n b):=by
   unfold L1;rw[List.filter_eq_self.mpr λk mk=>M b mb k (VL.mp mk)]
  refine⟨?_,rfl,?_⟩
  ·show -(2^62)<=(((b.o.map pt).length:Nat):Int)/\(((b.o.map pt).length:Nat):Int)<2^62;rw[SV];lia
  ·show iV _ _ (lZ 0 (((b.o.map pt).length:Nat):Int).toNat) _ _;rw[VP,SV];refine dF (f:=λi:Nat=>L2.T.int ((0:Int)+(i:Int))) (h:=λi:Nat=>L2.T.tup [.int (n:Int),.int ((0:Int)+(i:Int))]) (λ(w:Option U)acc=>[w,↑(n:Int),↥acc]) (VF b.o.length) none [] (by simp;lia) (λx m w acc rest ha K=>⟨ha,K _⟩) λw=>?_;have en:([]++(VF b.o.length).map λi:Nat=>L2.T.tup [.int (n:Int),.int ((0:Int)+(i:Int))])=(L1 marks n b).map L4:=by
    rw[VO,ee,UA];refine VM λi _=>?_;show _=L2.T.tup [.int (n:Int),.int (i:Int)];rw[Int.zero_add]
   rw[en];have el:=Oz (marks:=marks) (n:=n) (b:=b);refine⟨a9 (λ_=>rfl) _,?_,?_⟩
   ·show(acc++_).length<=9000;rw[TC,SV];lia
   ·refine K (acc++(L1 marks n b).map L4,↑(n:Int),⇑(cU b)) ⟨λy m=>hx y (by simp[m]),by simp only[TC,SV];lia,by rw[nM,uh,a9 (λ_=>rfl)];rfl,?_⟩;rw[UT,US]at e;rw[TF];exact e
 ·rintro⟨acc,v3,v4⟩ ⟨_,hl,uh,e⟩;have e0:acc=(cE bs marks).map L4:=by simpa using e
  subst e0;have l1:=Hg (marks:=marks) λb m=>(h.six b m).1;have l2:=h.len;have l3:=h.rows;refine⟨bs,cE bs marks,rfl,⋯,h.bk,⋯,IT h,⋯,h.rows,?_⟩;refine⟨rfl,dF (f:=D1) (h:=λr=>wH (Us r)) (λ(w:Option U×Option U×Option U×Option U)acc=>[w.1,w.2.1,w.2.2.1,w.2.2.2,↥acc]) (eM bs marks) (none,none,none,none) [] (by simp;lia) (λr m w acc rest ha K=>?_) λw=>?_⟩
  ·exact⟨ha,K (↑(r.1:Int),↑(r.2.1:Int),⇑(pt r.2.2.1),⇑(pt r.2.2.2))⟩
  ·refine⟨a9 (λ_=>rfl) _,?_⟩;refine⟨(eM bs marks).map Us,N,B,by rw[UA];rfl,by rw[SV];lia,λx m=>?_,n0,hN,hB,λt nt vt st=>⟨rfl,z t nt ?_ st⟩⟩
   ·obtain⟨r,mr,rfl⟩:=SS.mp m;exact hU r mr
   ·rw[UA]at vt;exact vt
def NN:Nat->Nat
 |0=>1
 |n+1=>(n+1)*NN n
theorem Pd:∀n,0<NN n
 |0=>∅
 |n+1=>ZM ⋯ (Pd n)
theorem Pc:∀(n d:Nat),0<d->d<=n->d∣NN n
 |0,d,h,k=>⋯
 |n+1,d,h,k=>by
  by_cases c:d=n+1
  ·subst c;exact Nat.dvd_mul_right _ _
  ·exact Nat.dvd_trans (Pc n d h ⋯) (ak _ _)
def U0:Nat:=2*NN 128
theorem Cj:0<U0:=ZM ∅ (Pd 128)
theorem Hf:U0<2^720:=by decide +kernel
def Vg(N:Nat)(x:Q2):Prop:=∃m n:Int,x.1*(N:Rat)=(m:Rat)/\x.2*(N:Rat)=(n:Rat)
theorem LB.ints(h:LB 400 b)(mp:p∈b.o):∃X Y c1 c2:Int,val p.1*2=((X+2*c1:Int):Rat)/\val p.2*2=((Y+2*c2:Int):Rat)/\0<=c1/\c1<=8/\0<=c2/\c2<=8/\X.natAbs<=400/\Y.natAbs<=400/\∀q∈b.o,∃e1 e2:Int,val q.1*2=((X+2*e1:Int):Rat)/\val q.2*2=((Y+2*e2:Int):Rat)/\0<=e1/\e1<=8/\0<=e2/\e2<=8:=by
 obtain⟨w,x,y,X,Y,h1,h2,h3,h4,h5,h6,h7,h8⟩:=h.ex;have all:∀q∈b.o,∃e1 e2:Int,val q.1*2=((X+2*e1:Int):Rat)/\val q.2*2=((Y+2*e2:Int):Rat)/\0<=e1/\e1<=8/\0<=e2/\e2<=8:=λq mq=>by
  rw[h8]at mq;obtain⟨c,mc,rfl⟩:=SS.mp mq;have:=Rc h2 h3 h4 h5 w c mc;refine⟨c.1,c.2,?_,?_,this.1,this.2.1,this.2.2.1,this.2.2.2⟩
  ·show val (hf (X+2*c.1))*2=_;rw[tY];grind
  ·show val (hf (Y+2*c.2))*2=_;rw[tY];grind
 obtain⟨e1,e2,a,b',c,d,e,f⟩:=all p mp;exact⟨X,Y,e1,e2,a,b',c,d,e,f,⋯,⋯,all⟩
structure CC(p q:Q2)(P1 P2 d1 d2:Int):Prop where
 x:p.1*2=(P1:Rat)
 y:p.2*2=(P2:Rat)
 dx:q.1-p.1=(d1:Rat)
 dy:q.2-p.2=(d2:Rat)
 b1:d1.natAbs<=8
 b2:d2.natAbs<=8
 b3:P1.natAbs<=420
 b4:P2.natAbs<=420
theorem LB.egi(h:LB 400 b)(mx:x∈zr b.o):∃P1 P2 d1 d2,CC (vq x.1) (vq x.2) P1 P2 d1 d2:=by
 obtain⟨m1,m2⟩:=kK mx;obtain⟨X,Y,c1,c2,a1,a2,a3,a4,a5,a6,a7,a8,all⟩:=h.ints m1;obtain⟨e1,e2,b1,b2,b3,b4,b5,b6⟩:=all _ m2;refine⟨X+2*c1,Y+2*c2,e1-c1,e2-c2,a1,a2,?_,?_,⋯,⋯,⋯,⋯⟩
 ·show val x.2.1-val x.1.1=_
  push_cast at a1 b1⊢;grind
 ·show val x.2.2-val x.1.2=_
  push_cast at a2 b2⊢;grind
theorem Y5{x:Q2}{D:Nat}(d0:0<D)(d1:D<=128){m n:Int}(h1:x.1*(2*(D:Rat))=(m:Rat))(h2:x.2*(2*(D:Rat))=(n:Rat)):Vg U0 x:=by
 obtain⟨c,hc⟩:=Pc 128 D d0 d1;have e:(U0:Rat)=2*(D:Rat)*(c:Rat):=by unfold U0;rw[hc];push_cast;grind
 refine⟨m*c,n*c,?_,?_⟩
 ·rw[e];push_cast;rw[<-h1];grind
 ·rw[e];push_cast;rw[<-h2];grind
theorem Oo{P1 P2 d1 d2 A1 A2 e1 e2:Int}(h:CC p q P1 P2 d1 d2)(k:CC a b A1 A2 e1 e2){t:Rat}(n1:fE (a,b) p≠fE (a,b) q)(z:fE (a,b) (cL p q t)=0):Vg U0 (cL p q t):=by
 have f2:fE (a,b) p*2=((e1*(P2-A2)-e2*(P1-A1):Int):Rat):=by
  have:fE (a,b) p=(b.1-a.1)*(p.2-a.2)-(b.2-a.2)*(p.1-a.1):=rfl;rw[this,k.dx,k.dy];have:=h.x;have:=h.y;have:=k.x;have:=k.y
  push_cast
  grind
 have fd:fE (a,b) q-fE (a,b) p=((e1*d2-e2*d1:Int):Rat):=by
  have:fE (a,b) q-fE (a,b) p=(b.1-a.1)*(q.2-p.2)-(b.2-a.2)*(q.1-p.1):=by unfold fE aT aH aK;grind
  rw[this,k.dx,k.dy,h.dx,h.dy]
  push_cast;rfl
 rw[mQ,fd]at z;have D0:e1*d2-e2*d1≠0:=λw=>by
  rw[w]at fd;exact n1 (by push_cast at fd;grind)
 have DB:(e1*d2-e2*d1).natAbs<=128:=by
  have k1:(e1*d2).natAbs<=8*8:=by rw[VW];exact VR k.b1 h.b2
  have k2:(e2*d1).natAbs<=8*8:=by rw[VW];exact VR k.b2 h.b1
  lia
 generalize e1*d2-e2*d1=D at *;generalize e1*(P2-A2)-e2*(P1-A1)=F at *;have key:(D:Rat)*t*2 = -(F:Rat):=by grind
 have hx:=h.x;have hy:=h.y;have hdx:=h.dx;have hdy:=h.dy;obtain⟨s,hs,sD⟩:∃s:Int,(s=1\/s = -1)/\((D.natAbs:Int))=s*D:=by
  by_cases c:0<=D
  ·exact⟨1,.inl rfl,⋯⟩
  ·exact⟨-1,.inr rfl,⋯⟩
 have sD':((D.natAbs:Nat):Rat)=(s:Rat)*(D:Rat):=by exact_mod_cast sD
 refine Y5 (D:=D.natAbs) ⋯ DB (m:=s*(P1*D-d1*F)) (n:=s*(P2*D-d2*F)) ?_ ?_
 ·show(p.1+(q.1-p.1)*t)*(2*_)=_;rw[sD',hdx];push_cast;rw[<-hx];grind
 ·show(p.2+(q.2-p.2)*t)*(2*_)=_;rw[sD',hdy];push_cast;rw[<-hy];grind
theorem kT{m n:Int}(h1:x.1*2=(m:Rat))(h2:x.2*2=(n:Rat)):Vg U0 x:=Y5 (D:=1) ∅ ∅ (m:=m) (n:=n) (by push_cast;grind) (by push_cast;grind)
def CG(P:Fr->Prop)(rows:List lQ):Prop:=∀r∈rows,P r.1/\P r.2.1
theorem Ji{P:Fr->Prop}{rows:List lQ}{lo hi:Fr}(h:CG P rows)(hl:P lo)(hh:P hi):CG P (bY rows lo hi):=λz mz=>by
 obtain⟨r,mr,mz⟩:=UC.mp mz;obtain⟨h1,h2⟩:=h r mr;have a:P (aZ r.1 lo):=by rcases Ij r.1 lo with e|e<;>rw[e]<;>assumption
 have b:P (aL r.2.1 hi):=by rcases Lh r.2.1 hi with e|e<;>rw[e]<;>assumption
 unfold xZ at mz;split at mz
 ·rw[TM]at mz;subst mz;exact⟨h1,h2⟩
 ·split at mz
  ·rw[TM]at mz;subst mz;exact⟨h1,h2⟩
  ·obtain mz|mz:=TY.mp mz
   ·obtain mz|mz:=TY.mp mz
    ·split at mz
     ·rw[TM]at mz;subst mz;exact⟨h1,a⟩
     ·simp at mz
    ·rw[TM]at mz;subst mz;exact⟨a,b⟩
   ·split at mz
    ·rw[TM]at mz;subst mz;exact⟨b,h2⟩
    ·simp at mz
theorem rP{P:Fr->Prop}:∀(os:List Ov)(rows rs:List lQ),(∀r,oZ r∈os->P r.1/\P r.2.1)->CG P rows->eQ os rows=oZ rs->CG P rs
 |[],rows,rs,_,h,e=>by cases e;exact h
 |none::os,rows,rs,ho,h,e=>rP os rows rs (λr m=>ho r (by simp[m])) h e
 |some r::os,rows,rs,ho,h,e=>by
  unfold eQ at e;obtain⟨a,b⟩:=ho r (by simp);split at e
  ·exact rP os rows rs (λr m=>ho r (by simp[m])) h e
  ·split at e
   ·cases e
   ·exact rP os _ rs (λr m=>ho r (by simp[m])) (Ji h a b) e
theorem J5{P:Fr->Prop}:∀(ts:List (Fr×Fr))(rows:List lQ),(∀x∈ts,P x.1/\P x.2)->CG P rows->CG P (oO ts rows)
 |[],rows,_,h=>h
 |t::ts,rows,ht,h=>J5 ts _ (λx m=>ht x (by simp[m])) (Ji h (ht t (by simp)).1 (ht t (by simp)).2)
theorem Vz{P:Fr->Prop}(p0:P (0,1))(p1:P (1,1))(ho:∀r,oZ r∈(shs.map λs=>bA s (gK p q))->P r.1/\P r.2.1)(ht:∀x∈zA p q tw,P x.1/\P x.2):∀x∈fL shs p q tw,P x.1/\P x.2:=by
 have r0:CG P m6:=λr m=>by
  have e:r=((0,1),(1,1),false):=by simpa[m6]using m
  subst e;exact⟨p0,p1⟩
 unfold fL rO;cases g:eQ (shs.map λs=>bA s (gK p q)) m6 with
 |none=>intro x m;simp at m
 |some rs=>
  intro x m;obtain⟨r,mr,rfl⟩:=SS.mp m;exact J5 _ _ ht (rP _ _ _ ho r0 g) r (TL.mp mr).1
theorem Cp(hs:∀s∈shs,pE s)(en:wN p q)(vg:∀x∈tw,Pb x.1/\Pb x.2):∀x∈fL shs p q tw,0<=val x.1/\val x.1<val x.2/\val x.2<=1:=λx m=>by
 obtain⟨_,sp⟩:=xA hs en vg;obtain⟨s1,_,s2⟩:=sp.all x m;refine⟨s1,s2,Rat.not_lt.mp λq1=>?_⟩;obtain⟨t,a,k,n⟩:=Ou (rY (shs.map λs=>bA s (gK p q))++xF (zA p q tw)) (l:=if val x.1<1 then 1 else val x.1) (h:=val x.2) (by split<;>grind);have a':val x.1<t/\1<=t:=by split at a<;>grind
 have:=(Hh hs en vg (λz=>n (UD _ z)) (λz=>n (TK _ z))).mp ⟨x,m,a'.1,k⟩;grind
theorem nI(hb:∀b∈bs,LB 400 b):yZ bs:=⟨λb m=>(hb b m).gb,λb m=>(hb b m).pb,λb m=>(hb b m).ok⟩
theorem Ww(hb:∀b∈bs,LB 400 b)(m:e∈cE bs marks):∃P1 P2 d1 d2,CC (vq e.p) (vq e.q) P1 P2 d1 d2:=by
 obtain⟨b,hb',hk,_,ee⟩:=oR m;obtain⟨p,q,h1,h2,h3⟩:=vF hk;obtain⟨l1,l2,_⟩:=Tj (n:=e.n) h3;rw[<-ee]at l1 l2;rw[l1,l2];exact(hb b (SY hb')).egi (SY h3)
theorem Ck{v:Rat}{m:Int}{N B:Nat}(h:v*(N:Rat)=(m:Rat))(h1:-(B:Rat)<v)(h2:v<(B:Rat)):m.natAbs<=B*N:=by
 have n0:(0:Rat)<=(N:Rat):=by exact_mod_cast VZ N
 have a1:=Rat.mul_nonneg (show 0<=(B:Rat)-v by grind) n0;have a2:=Rat.mul_nonneg (show 0<=v+(B:Rat) by grind) n0;have c1:(m:Rat)<=((B*N:Nat):Rat):=by push_cast;grind
 have c2:((-((B*N:Nat):Int):Int):Rat)<=(m:Rat):=by push_cast;grind
 have d1:m<=((B*N:Nat):Int):=by exact_mod_cast c1
 have d2:-((B*N:Nat):Int)<=m:=by exact_mod_cast c2
 lia
theorem GS(hb:∀b∈bs,LB 400 b)(marks:Str):Vt U0 (220*U0) (eM bs marks):=λr mr=>by
 have H:=nI hb;rw[nP]at mr;obtain⟨x,mx,mr⟩:=UC.mp mr;have me:=SY (TQ.mp mx);have k:=gQ H x.1 me;obtain⟨P1,P2,d1,d2,eg⟩:=Ww hb me;unfold D2 dC at mr;obtain⟨a,ma,rfl⟩:=SS.mp mr;have ou:∀e∈(cE bs marks).take x.2,L7 bs e:=λe m=>gQ H e (VH m);have se:∀s∈bs.map bE,pE s:=λs m=>by
  obtain⟨g,mg,rfl⟩:=SS.mp m;exact kI (H.ok g mg)
 have twok:∀w∈Sf ((cE bs marks).take x.2) x.1.l,Pb w.1/\Pb w.2:=λw m=>by
  obtain⟨e,me,rfl⟩:=SS.mp m;have:=ou e (TL.mp me).1;exact⟨this.hp,this.hq⟩
 have en:=Ap k.hp k.hq k.ne;obtain⟨f1,f2⟩:=rQ se en twok a ma;obtain⟨a0,a1,a2⟩:=Cp se en twok a ma;have d0:=jO k.hp.np k.hq.np k.ne;have ends:=Vz (P:=λt=>Vg U0 (cL (vq x.1.p) (vq x.1.q) (val t))) (shs:=bs.map bE) (p:=x.1.p) (q:=x.1.q) (tw:=Sf ((cE bs marks).take x.2) x.1.l) (by
   rw[dX];refine kT (m:=P1) (n:=P2) ?_ ?_
   ·show(_+_*0)*2=_;rw[<-eg.x];grind
   ·show(_+_*0)*2=_;rw[<-eg.y];grind) (by
   rw[gN];refine kT (m:=P1+2*d1) (n:=P2+2*d2) ?_ ?_
   ·show(_+_*1)*2=_;push_cast;rw[<-eg.x,<-eg.dx];grind
   ·show(_+_*1)*2=_;push_cast;rw[<-eg.y,<-eg.dy];grind) (λr m=>by
   rw[UA]at m;obtain⟨g,mg,e⟩:=SS.mp m;have ov:=lI (H.gb g mg) k.hp.np.spt k.hq.np.spt d0 (show bA (bE g) (gK x.1.p x.1.q)=oZ r from e);have one:∀u∈d5 g.o,∀t,fE u (vq x.1.p)≠fE u (vq x.1.q)->fE u (cL (vq x.1.p) (vq x.1.q) t)=0->Vg U0 (cL (vq x.1.p) (vq x.1.q) t):=λu mu t ne z=>by
    obtain⟨y,my,rfl⟩:=SS.mp mu;obtain⟨A1,A2,e1,e2,ey⟩:=(hb g mg).egi my;exact Oo eg ey ne z
   refine⟨?_,?_⟩
   ·obtain q|⟨_,u,mu,z1,z2,z3⟩:=ov.lo
    ·show Vg U0 (cL _ _ (val r.1));rw[q,dX];refine kT (m:=P1) (n:=P2) ?_ ?_
     ·show(_+_*0)*2=_;rw[<-eg.x];grind
     ·show(_+_*0)*2=_;rw[<-eg.y];grind
    ·exact one u mu _ (by grind) z3
   ·obtain q|⟨_,u,mu,z1,z2,z3⟩:=ov.hi
    ·show Vg U0 (cL _ _ (val r.2.1));rw[q,gN];refine kT (m:=P1+2*d1) (n:=P2+2*d2) ?_ ?_
     ·show(_+_*1)*2=_;push_cast;rw[<-eg.x,<-eg.dx];grind
     ·show(_+_*1)*2=_;push_cast;rw[<-eg.y,<-eg.dy];grind
    ·exact one u mu _ (by grind) z3) (λw mw=>by
   obtain⟨y,my,rfl⟩:=SS.mp mw;obtain⟨u,mu,rfl⟩:=SS.mp my;obtain⟨mu,hl⟩:=TL.mp mu;have mu':=VH mu;have ku:=ou u mu;obtain⟨A1,A2,e1,e2,eu⟩:=Ww hb mu';have hl:u.l=x.1.l:=by simpa using hl
   rw[ku.l,k.l]at hl;obtain⟨z1,z2,_⟩:=(sI ku.hp ku.hq k.hp k.hq ku.ne k.ne).mp hl;obtain⟨y1,y2,_⟩:=Cw (jO ku.hp.np ku.hq.np ku.ne) z1 z2;have s1:=kG k.hp.np k.hq.np ku.hp.np k.ne y1;have s2:=kG k.hp.np k.hq.np ku.hq.np k.ne y2;refine⟨?_,?_⟩
   ·show Vg U0 (cL _ _ (val (bH x.1.p x.1.q u.p)));rw[<-s1];exact kT eu.x eu.y
   ·show Vg U0 (cL _ _ (val (bH x.1.p x.1.q u.q)));rw[<-s2];exact kT (m:=A1+2*e1) (n:=A2+2*e2) (by push_cast;rw[<-eu.x,<-eu.dx];grind) (by push_cast;rw[<-eu.y,<-eu.dy];grind)) a ma
 have fin:∀t:Fr,F2 t->0<=val t->val t<=1->Vg U0 (cL (vq x.1.p) (vq x.1.q) (val t))->Ss U0 (220*U0) (cO x.1.p x.1.q (low t.1 t.2)):=λt ft t0 t1 zZ=>by
  obtain⟨m,n,e1,e2⟩:=zZ;obtain⟨n1,v1⟩:=Bg ft;obtain⟨np,vv⟩:=nN k.hp.np k.hq.np n1;rw[v1]at vv;have w1:val (cO x.1.p x.1.q (low t.1 t.2)).1=(cL (vq x.1.p) (vq x.1.q) (val t)).1:=congrArg Prod.fst vv;have w2:val (cO x.1.p x.1.q (low t.1 t.2)).2=(cL (vq x.1.p) (vq x.1.q) (val t)).2:=congrArg Prod.snd vv;have bd:∀(p q:Rat)(P d:Int),p*2=(P:Rat)->q-p=(d:Rat)->P.natAbs<=420->d.natAbs<=8->-((220:Nat):Rat)<p+(q-p)*val t/\p+(q-p)*val t<((220:Nat):Rat):=λp q P d e1 e2 b1 b2=>by
   have c1:(P:Rat)<=((420:Int):Rat):=by exact_mod_cast (show P<=420 by lia)
   have c2:((-420:Int):Rat)<=(P:Rat):=by exact_mod_cast (show -420<=P by lia)
   have c3:(d:Rat)<=((8:Int):Rat):=by exact_mod_cast (show d<=8 by lia)
   have c4:((-8:Int):Rat)<=(d:Rat):=by exact_mod_cast (show -8<=d by lia)
   push_cast at *
   exact⟨Oe (by grind) (by grind) t0 t1,Vy (by grind) (by grind) t0 t1⟩
  have b1:=bd _ _ _ _ eg.x eg.dx eg.b3 eg.b1;have b2:=bd _ _ _ _ eg.y eg.dy eg.b4 eg.b2;exact⟨m,n,⟨np.x,by rw[w1];exact e1⟩,⟨np.y,by rw[w2];exact e2⟩,Ck e1 b1.1 b1.2,Ck e2 b2.1 b2.2⟩
 exact⟨fin _ f1 a0 (by grind) ends.1,fin _ f2 (by grind) a2 ends.2⟩
theorem wB(c:Rat)(P Q:List Rat):sJ c (P++Q)=sJ c P+sJ c Q:=by unfold sJ;rw[YI,TC]
theorem lK:∀P Q:List Rat,aX (P++Q)=aX P+aX Q
 |[],Q=>by show aX Q=0+aX Q;grind
 |x::P,Q=>by show x+aX (P++Q)=x+aX P+aX Q;rw[lK P Q];grind
theorem t7{α:Type}(f g:α->Rat):∀L:List α,aX (L.map λx=>f x+g x)=aX (L.map f)+aX (L.map g)
 |[]=>by show(0:Rat)=0+0;grind
 |x::L=>by show f x+g x+aX _=f x+aX _+(g x+aX _);rw[t7 f g L];grind
theorem jA{α:Type}(f:α->Rat)(c:Rat):∀L:List α,aX (L.map λx=>c*f x)=c*aX (L.map f)
 |[]=>by show(0:Rat)=c*0;grind
 |x::L=>by show c*f x+aX _=c*(f x+aX _);rw[jA f c L];grind
theorem Bq{α β:Type}(f:β->Rat)(g:α->List β):∀L:List α,aX ((L.flatMap g).map f)=aX (L.map λx=>aX ((g x).map f))
 |[]=>rfl
 |x::L=>by rw[UT,US,lK,Bq f g L];rfl
theorem eN{α:Type}{f g:α->Rat}{L:List α}(h:∀x∈L,f x=g x):aX (L.map f)=aX (L.map g):=by rw[VM h]
def lJ(r:zC):Eg:=(vq r.2.2.1,vq r.2.2.2)
def Cz(o d:Q2)(R:List zC):Rat:=aX (R.map λr=>((uX (ht d o) d r:Int):Rat)*yE o d (lJ r))
theorem W5(H:yZ bs)(mx:x∈(cE bs marks).zipIdx)(mr:r∈D2 bs marks x):∃s1 s2:Rat,0<=s1/\s1<s2/\s2<=1/\vq r.2.2.1=cL (vq x.1.p) (vq x.1.q) s1/\vq r.2.2.2=cL (vq x.1.p) (vq x.1.q) s2:=by
 have k:=gQ H x.1 (SY (TQ.mp mx));unfold D2 dC at mr;obtain⟨a,ma,rfl⟩:=SS.mp mr;have ou:∀e∈(cE bs marks).take x.2,L7 bs e:=λe m=>gQ H e (VH m);have se:∀s∈bs.map bE,pE s:=λs m=>by
  obtain⟨g,mg,rfl⟩:=SS.mp m;exact kI (H.ok g mg)
 have twok:∀w∈Sf ((cE bs marks).take x.2) x.1.l,Pb w.1/\Pb w.2:=λw m=>by
  obtain⟨e,me,rfl⟩:=SS.mp m;have:=ou e (TL.mp me).1;exact⟨this.hp,this.hq⟩
 have en:=Ap k.hp k.hq k.ne;obtain⟨f1,f2⟩:=rQ se en twok a ma;obtain⟨a0,a1,a2⟩:=Cp se en twok a ma;obtain⟨n1,v1⟩:=Bg f1;obtain⟨n2,v2⟩:=Bg f2;exact⟨val a.1,val a.2,a0,a1,a2,by rw[(nN k.hp.np k.hq.np n1).2,v1],by rw[(nN k.hp.np k.hq.np n2).2,v2]⟩
theorem GR{x:EI×Nat}{r:zC}{s1 s2:Rat}(e1:vq r.2.2.1=cL (vq x.1.p) (vq x.1.q) s1)(e2:vq r.2.2.2=cL (vq x.1.p) (vq x.1.q) s2):sl d (lJ r)=(s2-s1)*sl d (jK x.1)/\∀y,fE (lJ r) y=(s2-s1)*fE (jK x.1) y:=by
 unfold lJ jK;rw[e1,e2];refine⟨by unfold sl aT aH aK cL;grind,λy=>by unfold fE aT aH aK cL;grind⟩
theorem CN(H:yZ bs)(mx:x∈(cE bs marks).zipIdx):aX ((D2 bs marks x).map λr=>((uX (ht d o) d r:Int):Rat)*yE o d (lJ r))=((cX bs marks o d x:Int):Rat)*yE o d (jK x.1):=by
 have one:∀r∈D2 bs marks x,((uX (ht d o) d r:Int):Rat)*yE o d (lJ r)=yE o d (jK x.1)*((uX (ht d o) d r:Int):Rat):=λr mr=>by
  obtain⟨s1,s2,_,lt,_,e1,e2⟩:=W5 H mx mr;obtain⟨l1,l2⟩:=GR (d:=d) e1 e2
  by_cases z:sl d (jK x.1)=0
  ·have c0:uX (ht d o) d r=0:=by
    have:ht d (vq r.2.2.1)=ht d (vq r.2.2.2):=by
     have:=BA d (lJ r);rw[l1,z]at this;show ht d (lJ r).1=ht d (lJ r).2;grind
    unfold uX;rw[this,oW (by grind),oW (by grind)]
   rw[c0];push_cast;grind
  ·have:yE o d (lJ r)=yE o d (jK x.1):=by
    unfold yE;rw[l1,l2,Rat.div_def,Rat.div_def];have:s2-s1≠0:=by grind
    grind
   rw[this];grind
 rw[eN one,jA];have:aX ((D2 bs marks x).map λr=>((uX (ht d o) d r:Int):Rat))=((cX bs marks o d x:Int):Rat):=by
  unfold cX
  induction D2 bs marks x with
  |nil=>rfl
  |cons r R ih=>
   rw[TH,TH,UQ];show((uX (ht d o) d r:Int):Rat)+_=_;rw[ih];push_cast;rfl
 rw[this];grind
theorem IG(H:yZ bs)(G:Gn (Cq bs) o d)(mx:x∈(cE bs marks).zipIdx):cX bs marks o d x=1\/cX bs marks o d x=0\/cX bs marks o d x = -1:=by
 obtain⟨r0,r1,r2⟩:=Y9 H G mx;obtain z|⟨b,hb⟩:=r0
 ·exact .inr (.inl (r1 z))
 ·rw[r2 b hb];generalize(Cv o d (yE o d (jK x.1)) b (jK x.1)/\_)=p
  by_cases c:p
  ·rw[AF c];cases b<;>simp
  ·rw[vZ c];simp
theorem FT{L:List (Int×Rat)}(h:∀p∈L,p.1=1\/p.1=0\/p.1 = -1):aX (L.map λp=>(p.1:Rat)*p.2)=aX (L.filterMap λp=>if p.1=1 then oZ p.2 else none)-aX (L.filterMap λp=>if p.1 = -1 then oZ p.2 else none)/\
  (L.map λp=>p.1).sum=((L.filterMap λp=>if p.1=1 then oZ p.2 else none).length:Int)-((L.filterMap λp=>if p.1 = -1 then oZ p.2 else none).length:Int)/\
  ∀y:Rat,(∀p∈L,p.2≠y)->(L.map λp=>if y<p.2 then p.1 else 0).sum=(L.map λp=>p.1).sum-((sJ y (L.filterMap λp=>if p.1=1 then oZ p.2 else none):Int)-(sJ y (L.filterMap λp=>if p.1 = -1 then oZ p.2 else none):Int)):=by
 induction L with
 |nil=>exact⟨by show(0:Rat)=0-0;grind,rfl,λy _=>rfl⟩
 |cons p L ih=>
  obtain⟨i1,i2,i3⟩:=ih λq m=>h q (by simp[m]);have i3':∀y:Rat,(∀q∈p::L,q.2≠y)->_:=λy k=>i3 y λq m=>k q (by simp[m]);obtain e|e|e:=h p (by simp)
  ·refine⟨?_,?_,λy k=>?_⟩
   ·rw[UZ (b:=p.2) (by rw[oV e]),UJ (by rw[oW ⋯])];show(p.1:Rat)*p.2+aX _=p.2+aX _-aX _;rw[i1,e];push_cast;grind
   ·rw[UZ (b:=p.2) (by rw[oV e]),UJ (by rw[oW ⋯]),TH,UQ,i2,TB,e];push_cast;lia
   ·have j:=i3' y k;have ky:=k p (by simp);rw[UZ (b:=p.2) (by rw[oV e]),UJ (by rw[oW ⋯]),TH,UQ,j,TH,UQ,iH,e]
    by_cases c:y<p.2
    ·rw[oV c,oW (by grind)];push_cast;lia
    ·rw[oW c,oV (by grind)];push_cast;lia
  ·refine⟨?_,?_,λy k=>?_⟩
   ·rw[UJ (by rw[oW ⋯]),UJ (by rw[oW ⋯])];show(p.1:Rat)*p.2+aX _=aX _-aX _;rw[i1,e];push_cast;grind
   ·rw[UJ (by rw[oW ⋯]),UJ (by rw[oW ⋯]),TH,UQ,i2,e];lia
   ·have j:=i3' y k;rw[UJ (by rw[oW ⋯]),UJ (by rw[oW ⋯]),TH,UQ,j,TH,UQ,e]
    split<;>lia
  ·refine⟨?_,?_,λy k=>?_⟩
   ·rw[UJ (by rw[oW ⋯]),UZ (b:=p.2) (by rw[oV e])];show(p.1:Rat)*p.2+aX _=aX _-(p.2+aX _);rw[i1,e];push_cast;grind
   ·rw[UJ (by rw[oW ⋯]),UZ (b:=p.2) (by rw[oV e]),TH,UQ,i2,TB,e];push_cast;lia
   ·have j:=i3' y k;have ky:=k p (by simp);rw[UJ (by rw[oW ⋯]),UZ (b:=p.2) (by rw[oV e]),TH,UQ,j,TH,UQ,iH,e]
    by_cases c:y<p.2
    ·rw[oV c,oW (by grind)];push_cast;lia
    ·rw[oW c,oV (by grind)];push_cast;lia
theorem tN(H:yZ bs)(G:Gn (Cq bs) o d)(M:mW bs marks)(d0:0<aN d d):∃P Q F:List Rat,P.length=Q.length/\Cz o d (eM bs marks)=aX P-aX Q/\∀y,y∉F->(sJ y P:Int)-(sJ y Q:Int)=iI (∃g∈bs,Wi (d5 g.o) (bU o d y)):=by
 have pm:∀p∈(cE bs marks).zipIdx.map (λx=>(cX bs marks o d x,yE o d (jK x.1))),p.1=1\/p.1=0\/p.1 = -1:=λp m=>by
  obtain⟨x,mx,rfl⟩:=SS.mp m;exact IG H G mx
 obtain⟨q1,q2,q3⟩:=FT pm;have s0:(((cE bs marks).zipIdx.map λx=>(cX bs marks o d x,yE o d (jK x.1))).map λp=>p.1).sum=0:=by
  have:=Wj H G M d0;rw[nP,yU]at this;rw[UA];exact this
 rw[s0]at q2 q3;refine⟨((cE bs marks).zipIdx.map λx=>(cX bs marks o d x,yE o d (jK x.1))).filterMap λp=>if p.1=1 then oZ p.2 else none,((cE bs marks).zipIdx.map λx=>(cX bs marks o d x,yE o d (jK x.1))).filterMap λp=>if p.1 = -1 then oZ p.2 else none,(iR bs).map (yE o d),⋯,?_,λy hy=>?_⟩
 ·rw[<-q1];unfold Cz;rw[nP,Bq,eN λx mx=>CN H mx,UA];rfl
 ·have gen:∀e∈iR bs,fE e (bU o d y)≠0:=λe me k=>hy (by rw[yY (G.s me k) k];exact SS.mpr ⟨e,me,rfl⟩);have j:=Om H G M d0 _ y (TN _) gen;have z:=q3 y λp m e=>by
   obtain⟨x,mx,rfl⟩:=SS.mp m;exact hy (by rw[<-e];exact SS.mpr ⟨jK x.1,(gQ H x.1 (SY (TQ.mp mx))).me,rfl⟩)
  rw[UA]at z;have e2:((cE bs marks).zipIdx.map λx=>if y<yE o d (jK x.1)then cX bs marks o d x else 0).sum=_:=z
  lia
theorem CQ(H:yZ bs)(G:Gn (Cq bs) o d)(M:mW bs marks)(d0:0<aN d d){L U F:List Rat}(h:∀y,y∉F->(sJ y L:Int)-(sJ y U:Int)=iI (∃g∈bs,Wi (d5 g.o) (bU o d y))):Cz o d (eM bs marks)=aX L-aX U:=by
 obtain⟨P,Q,F',_,e,k⟩:=tN H G M d0;have p:=xY (P:=P++U) (Q:=Q++L) (F:=F++F') λy hy=>by
  have a:=h y λm=>hy (UD _ m);have b:=k y λm=>hy (TK _ m);rw[wB,wB];lia
 have:=t8 p;rw[lK,lK]at this;rw[e];grind
end
def fA(S:List Rat)(f:Rat->Rat->Rat):Rat:=aX ((S.zip S.tail).map λx=>f x.1 x.2)
theorem Nh(a b:Rat)(S:List Rat)(f:Rat->Rat->Rat):fA (a::b::S) f=f a b+fA (b::S) f:=rfl
theorem yP{G:Rat->Rat}:∀{S:List Rat}{u v:Rat},S.Pairwise (· < ·)->u∈S->v∈S->u<=v->fA S (λa b=>if u<=a/\b<=v then G b-G a else 0)=G v-G u
 |[],u,v,_,hu,_,_=>by simp at hu
 |[a],u,v,_,hu,hv,_=>by
  rw[TM]at hu hv;rw[hu,hv];show(0:Rat)=_;grind
 |a::b::S,u,v,hs,hu,hv,le=>by
  obtain⟨p1,p2⟩:=UL.mp hs;obtain⟨q1,_⟩:=UL.mp p2;have ab:=p1 b (by simp);rw[Nh];obtain rfl|hu':=SU.mp hu
  ·obtain rfl|hv':=SU.mp hv
   ·have z:fA (b::S) (λa' b'=>if v<=a'/\b'<=v then G b'-G a' else 0)=0:=by
     have:∀x∈(b::S).zip (b::S).tail,(if v<=x.1/\x.2<=v then G x.2-G x.1 else 0)=(λ_=>(0:Rat)) x:=λx m=>by
      obtain⟨_,m2⟩:=VY (a:=x.1) (b:=x.2) m;have:=p1 x.2 (UI _ m2);rw[oW (by grind)]
     unfold fA;rw[eN this];generalize(b::S).zip (b::S).tail=Z
     induction Z with
     |nil=>rfl
     |cons x Z ih=>show 0+aX _=0;rw[ih];grind
    rw[z,oW (by grind)];grind
   ·have bv:b<=v:=by
     obtain rfl|w:=SU.mp hv'
     ·grind
     ·have:=q1 v w;grind
    have ih:=yP (G:=G) (u:=b) (v:=v) p2 (by simp) hv' bv;have e:fA (b::S) (λa' b'=>if u<=a'/\b'<=v then G b'-G a' else 0)=fA (b::S) (λa' b'=>if b<=a'/\b'<=v then G b'-G a' else 0):=by
     unfold fA;refine eN λx m=>?_;obtain⟨m1,_⟩:=VY (a:=x.1) (b:=x.2) m;have h1:b<=x.1:=by
      obtain w|w:=SU.mp m1
      ·rw[w];grind
      ·have:=q1 x.1 w;grind
     simp only
     by_cases c:x.2<=v
     ·rw[oV ⟨by grind,c⟩,oV ⟨h1,c⟩]
     ·rw[oW (λz=>c z.2),oW (λz=>c z.2)]
    rw[e,ih,oV (by grind)];grind
  ·have ub:b<=u:=by
    obtain rfl|w:=SU.mp hu'
    ·grind
    ·have:=q1 u w;grind
   have hv':v∈b::S:=by
    obtain rfl|w:=SU.mp hv
    ·grind
    ·exact w
   have ih:=yP (G:=G) p2 hu' hv' le;rw[ih,oW (by grind)];grind
theorem Uv{S:List Rat}(hs:S.Pairwise (· < ·))(h1:(vq r.2.2.1).1∈S)(h2:(vq r.2.2.2).1∈S):fA S (λa b=>(b-a)*(((uX ((a+b)/2) (0,1) r:Int):Rat)*yE ((a+b)/2,0) (0,1) (lJ r)))=((vq r.2.2.2).1-(vq r.2.2.1).1)*((vq r.2.2.1).2+(vq r.2.2.2).2)/2:=by
 have h0:∀p:Q2,ht (0,1) p=p.1:=λp=>by unfold ht aT;grind
 generalize hb:vq r.2.2.1=b at *;generalize he:vq r.2.2.2=e at *;have cr:∀c,uX c (0,1) r=if b.1<c/\c<e.1 then 1 else if e.1<c/\c<b.1 then -1 else 0:=λc=>by unfold uX;rw[h0,h0,hb,he]
 have yy:b.1≠e.1->∀x,yE (x,0) (0,1) (lJ r)=b.2+(e.2-b.2)*((x-b.1)/(e.1-b.1)):=λn x=>by
  have s:sl (0,1) (lJ r)=e.1-b.1:=by unfold lJ;rw[hb,he];unfold sl aT aH aK;grind
  have f:fE (lJ r) (x,0) = -((e.1-b.1)*b.2)-(e.2-b.2)*(x-b.1):=by unfold lJ;rw[hb,he];unfold fE aT aH aK;grind
  unfold yE;rw[s,f,Rat.div_def,Rat.div_def];have:e.1-b.1≠0:=by grind
  grind
 -- within a slab a row either goes through or not
 have mid:∀x∈S.zip S.tail,x.1<x.2/\(∀z∈S,z<=x.1\/x.2<=z):=λx m=>by
  clear cr yy h1 h2
  induction S with
  |nil=>simp at m
  |cons a S ih=>
   cases S with
   |nil=>simp at m
   |cons c S=>
    obtain⟨p1,p2⟩:=UL.mp hs;obtain⟨q1,_⟩:=UL.mp p2;rcases SU.mp (show x∈(a,c)::(c::S).zip S from m)with rfl|m'
    ·refine⟨p1 c (by simp),λz mz=>?_⟩;obtain rfl|mz:=SU.mp mz
     ·exact .inl (by grind)
     ·right
      obtain rfl|mz:=SU.mp mz
      ·grind
      ·have:=q1 z mz;grind
    ·obtain⟨i1,i2⟩:=ih p2 m';refine⟨i1,λz mz=>?_⟩;obtain rfl|mz:=SU.mp mz
     ·obtain⟨m1,_⟩:=VY (a:=x.1) (b:=x.2) m';have:=p1 x.1 m1;exact .inl (by grind)
     ·exact i2 z mz
 by_cases n:b.1=e.1
 ·have:fA S (λa b'=>(b'-a)*(((uX ((a+b')/2) (0,1) r:Int):Rat)*yE ((a+b')/2,0) (0,1) (lJ r)))=fA S λ_ _=>0:=by
   unfold fA;refine eN λx _=>?_;simp only;rw[cr,oW (by grind),oW (by grind)];push_cast;grind
  rw[this,n];have z:fA S (λ_ _=>(0:Rat))=0:=by
   unfold fA;generalize S.zip S.tail=Z
   induction Z with
   |nil=>rfl
   |cons x Z ih=>show 0+aX _=0;rw[ih];grind
  rw[z];grind
 ·-- G is what the row is under
  have core:∀u v:Rat,u∈S->v∈S->u<v->(∀c,uX c (0,1) r=(if b.1<e.1 then 1 else -1)*(if u<c/\c<v then 1 else 0))->fA S (λa b'=>(b'-a)*(((uX ((a+b')/2) (0,1) r:Int):Rat)*yE ((a+b')/2,0) (0,1) (lJ r)))=(if b.1<e.1 then 1 else -1)*((v-u)*(b.2+(e.2-b.2)*(((u+v)/2-b.1)/(e.1-b.1)))):=λu v mu mv uv hc=>by
   have ss:=yP (G:=λx=>b.2*x+(e.2-b.2)/(e.1-b.1)*(x*x/2-b.1*x)) hs mu mv (by grind);have e1:fA S (λa b'=>(b'-a)*(((uX ((a+b')/2) (0,1) r:Int):Rat)*yE ((a+b')/2,0) (0,1) (lJ r)))=(if b.1<e.1 then 1 else -1)*fA S (λa b'=>if u<=a/\b'<=v then(b.2*b'+(e.2-b.2)/(e.1-b.1)*(b'*b'/2-b.1*b'))-(b.2*a+(e.2-b.2)/(e.1-b.1)*(a*a/2-b.1*a))else 0):=by
    unfold fA;rw[<-jA];refine eN λx m=>?_;obtain⟨lt,sep⟩:=mid x m;have su:=sep u mu;have sv:=sep v mv;simp only;rw[hc,yy n]
    by_cases c:u<=x.1/\x.2<=v
    ·rw[oV c,oV (show u<(x.1+x.2)/2/\(x.1+x.2)/2<v by grind)];have n0:e.1-b.1≠0:=by grind
     simp only[Rat.div_def]
     split<;>push_cast<;>grind
    ·rw[oW c,oW (show ¬(u<(x.1+x.2)/2/\(x.1+x.2)/2<v) by grind)]
     push_cast;grind
   rw[e1,ss];simp only[Rat.div_def];have n0:e.1-b.1≠0:=by grind
   split<;>grind
  by_cases lt:b.1<e.1
  ·rw[core b.1 e.1 h1 h2 lt (λc=>by
    rw[cr,oV lt]
    by_cases k:b.1<c/\c<e.1
    ·rw[oV k,oV k];rfl
    ·rw[oW k,oW k,oW (by grind)];rfl),oV lt]
   simp only[Rat.div_def];have n0:e.1-b.1≠0:=by grind
   grind
  ·rw[core e.1 b.1 h2 h1 (by grind) (λc=>by
    rw[cr,oW lt]
    by_cases k:e.1<c/\c<b.1
    ·rw[oW (by grind),oV k,oV k];rfl
    ·rw[oW (by grind),oW k,oW k];rfl),oW lt]
   simp only[Rat.div_def];have n0:e.1-b.1≠0:=by grind
   grind
def J4(r:zC):Rat:=((vq r.2.2.2).1-(vq r.2.2.1).1)*((vq r.2.2.1).2+(vq r.2.2.2).2)/2
def jT(bs:List eJ)(marks:Str):Rat:=aX ((eM bs marks).map λr=>M6 (Us r))*(1/2)
theorem Fg{L L':List Rat}(h:L.Perm L'):aX (L.map λz=>z*z)=aX (L'.map λz=>z*z):=t8 (h.map _)
theorem Va(H:yZ bs)(M:mW bs marks):jT bs marks=aX ((eM bs marks).map λr=>-1*J4 r):=by
 have b1:=Fg (Ew H M (d:=(0,1)) (by unfold aN;grind));have b2:=Fg (Ew H M (d:=(-1,0)) (by unfold aN;grind));have b3:=Fg (Ew H M (d:=(-1,1)) (by unfold aN;grind));rw[UA,UA]at b1 b2 b3;unfold jT;generalize eM bs marks=R at *;have e:aX (R.map λr=>M6 (Us r))=aX (R.map λr=>-2*J4 r+(1/2)*((((λz=>z*z)∘λr:zC=>ht (-1,1) (vq r.2.2.2)) r + -1*(((λz=>z*z)∘λr:zC=>ht (0,1) (vq r.2.2.2)) r+((λz=>z*z)∘λr:zC=>ht (-1,0) (vq r.2.2.2)) r)) + -1*(((λz=>z*z)∘λr:zC=>ht (-1,1) (vq r.2.2.1)) r + -1*(((λz=>z*z)∘λr:zC=>ht (0,1) (vq r.2.2.1)) r+((λz=>z*z)∘λr:zC=>ht (-1,0) (vq r.2.2.1)) r)))):=eN λr _=>by
  simp only[Function.comp];unfold M6 Us J4 ht aT;grind
 rw[e];simp only[t7,jA];rw[b1,b2,b3];grind
theorem Br{α β:Type}(f:α->β->Rat)(A:List α):∀B:List β,aX (A.map λa=>aX (B.map (f a)))=aX (B.map λb=>aX (A.map λa=>f a b))
 |[]=>by
  show aX (A.map λ_=>(0:Rat))=0
  induction A with
  |nil=>rfl
  |cons a A ih=>show 0+aX _=0;rw[ih];grind
 |b::B=>by
  show aX (A.map λa=>f a b+aX (B.map (f a)))=aX (A.map λa=>f a b)+aX (B.map λb=>aX (A.map λa=>f a b));rw[t7,Br f A B]
def Ks(S:List Rat)(R:List zC):Prop:=∀r∈R,(vq r.2.2.1).1∈S/\(vq r.2.2.2).1∈S
theorem qA(H:yZ bs)(M:mW bs marks){S:List Rat}(hs:S.Pairwise (· < ·))(he:Ks S (eM bs marks)):jT bs marks=fA S λa b=>(b-a)*(-1*Cz ((a+b)/2,0) (0,1) (eM bs marks)):=by
 rw[Va H M];generalize eM bs marks=R at *;have one:∀r∈R,-1*J4 r=aX ((S.zip S.tail).map λx=>-1*((x.2-x.1)*(((uX ((x.1+x.2)/2) (0,1) r:Int):Rat)*yE ((x.1+x.2)/2,0) (0,1) (lJ r)))):=λr m=>by
  rw[jA];have:=Uv hs (he r m).1 (he r m).2;unfold fA at this;unfold J4;rw[<-this]
 rw[eN one,Br];unfold fA;refine eN λx m=>?_;simp only;unfold Cz;have h0:ht (0,1) ((x.1+x.2)/2,0)=(x.1+x.2)/2:=by unfold ht aT;grind
 rw[h0,<-jA,<-jA];refine eN λr _=>?_;grind
theorem Bt:∀L:List Rat,∃S:List Rat,S.Pairwise (· < ·)/\∀z,z∈S↔z∈L
 |[]=>⟨[],List.Pairwise.nil,λz=>Iff.rfl⟩
 |a::L=>by
  obtain⟨S,hs,hm⟩:=Bt L
  by_cases c:a∈L
  ·refine⟨S,hs,λz=>?_⟩;rw[hm,SU];exact⟨λq=>.inr q,λq=>q.elim (λw=>w ▸ c) id⟩
  ·refine⟨S.filter (λz=>decide (z<a))++a::S.filter (λz=>decide (a<z)),?_,λz=>?_⟩
   ·rw[List.pairwise_append];refine⟨hs.filter _,UL.mpr ⟨λz m=>by simpa using(TL.mp m).2,hs.filter _⟩,λx mx y my=>?_⟩;have h1:x<a:=by simpa using(TL.mp mx).2
    obtain rfl|my:=SU.mp my
    ·exact h1
    ·have h2:a<y:=by simpa using(TL.mp my).2
     grind
   ·rw[TY,SU,TL,TL,SU,hm,decide_eq_true_eq,decide_eq_true_eq];constructor
    ·rintro (⟨q,_⟩|q|⟨q,_⟩)
     ·exact .inr q
     ·exact .inl q
     ·exact .inr q
    ·rintro (q|q)
     ·exact .inr (.inl q)
     ·by_cases k:z<a
      ·exact .inl ⟨q,k⟩
      ·have:z≠a:=λw=>c (w ▸ q);exact .inr (.inr ⟨q,by grind⟩)
theorem Jy{S:List Rat}(hs:S.Pairwise (· < ·)):∀x∈S.zip S.tail,x.1<x.2/\(x.1+x.2)/2∉S:=by
 induction S with
 |nil=>intro x m;simp at m
 |cons a S ih=>
  intro x m;cases S with
  |nil=>simp at m
  |cons c S=>
   obtain⟨p1,p2⟩:=UL.mp hs;obtain⟨q1,_⟩:=UL.mp p2;rcases SU.mp (show x∈(a,c)::(c::S).zip S from m)with rfl|m'
   ·have ac:=p1 c (by simp);refine⟨ac,λz=>?_⟩;simp only at z ac;obtain q|z:=SU.mp z
    ·grind
    ·obtain q|z:=SU.mp z
     ·grind
     ·have:=q1 _ z;grind
   ·obtain⟨i1,i2⟩:=ih p2 x m';refine⟨i1,λz=>?_⟩;obtain q|z:=SU.mp z
    ·obtain⟨m1,_⟩:=VY (a:=x.1) (b:=x.2) m';have:=p1 x.1 m1;grind
    ·exact i2 z
theorem RA:∀(n:Nat){P Q F:List Rat},P.length=n->Q.length=n->(∀y,y∉F->sJ y P<=sJ y Q)->aX Q<=aX P
 |0,P,Q,F,hp,hq,_=>by
  rw[WC hp,WC hq];show(0:Rat)<=0;grind
 |n+1,P,Q,F,hp,hq,h=>by
  have pe:∀{P:List Rat}{p:Rat},p∈P->aX P=p+aX (P.erase p)/\∀y,sJ y P=(if p<y then 1 else 0)+sJ y (P.erase p):=λ{P p}m=>by
   have k:=List.perm_cons_erase m;refine⟨t8 k,λy=>?_⟩;rw[<-iH];unfold sJ;exact(k.filter _).length_eq
  obtain⟨p,mp,hmp⟩:=nK (λz:Rat=>-z) P (λz=>by rw[z]at hp;simp at hp);obtain⟨q,mq,hmq⟩:=nK (λz:Rat=>-z) Q (λz=>by rw[z]at hq;simp at hq);have z0:∀{P:List Rat}{p y:Rat},(∀z∈P,p<=z)->y<=p->sJ y P=0:=λ{P p y}h k=>by
   unfold sJ;rw[WW.mpr λz m=>by have:=h z m;simp;grind];rfl
  have hp':∀z∈P,p<=z:=λz m=>by have:=hmp z m;grind
  have xi:∀z∈Q,q<=z:=λz m=>by have:=hmq z m;grind
  obtain⟨p1,p2⟩:=pe mp;obtain⟨q1,q2⟩:=pe mq;have le:q<=p:=by
   refine Rat.not_lt.mp λk=>?_;obtain⟨y,a,b,ny⟩:=Ou F k;have:=h y ny;rw[p2,oV a,z0 xi (Rat.le_of_lt b)]at this
   lia
  have ih:=RA n (P:=P.erase p) (Q:=Q.erase q) (F:=F) (by rw[aw mp];lia) (by rw[aw mq];lia) λy ny=>by
   have k:=h y ny;rw[p2,q2]at k
   by_cases c:p<y
   ·rw[oV c,oV (by grind)]at k;lia
   ·have:sJ y (P.erase p)=0:=z0 (λz m=>hp' z (List.mem_of_mem_erase m)) (by grind)
    lia
  rw[p1,q1];grind
theorem Qz{α:Type}{f g:α->Rat}:∀{L:List α},(∀x∈L,f x<=g x)->aX (L.map f)<=aX (L.map g)
 |[],_=>by show(0:Rat)<=0;grind
 |x::L,h=>by
  have a:=h x (by simp);have b:=Qz (L:=L) λy m=>h y (by simp[m]);show f x+aX _<=g x+aX _;grind
theorem AB(H:yZ bs):∃F:List Rat,∀c,c∉F->Gn (Cq bs) (c,0) (0,1):=by
 obtain⟨F,hF⟩:=Xr (B:=Cq bs) (λe me=>by
  obtain⟨b,mb,me⟩:=rM me;exact(H.gb b mb).cx.ne e me) (0,1) (1,0) (by unfold ht aT;grind)
 refine⟨F,λc hc=>?_⟩;have:=(hF c hc).1;have e:((c*((1,0):Q2).1,c*((1,0):Q2).2):Q2)=(c,0):=Prod.ext (by simp only;grind) (by simp only;grind);rw[e]at this;exact this
theorem M4(H:yZ bs)(M:mW bs marks)(H':yZ bs')(M':mW bs' wg)(h:∀x,(∃g∈bs,Wi (d5 g.o) x)->∃g∈bs',Wi (d5 g.o) x):jT bs marks<=jT bs' wg:=by
 obtain⟨F,hF⟩:=AB H;obtain⟨F',uz⟩:=AB H';obtain⟨S,hs,hm⟩:=Bt (F++F'++((eM bs marks++eM bs' wg).map λr=>(vq r.2.2.1).1)++(eM bs marks++eM bs' wg).map λr=>(vq r.2.2.2).1);have ends:∀R,(∀r∈R,r∈eM bs marks++eM bs' wg)->Ks S R:=λR hR r mr=>⟨(hm _).mpr (UD _ (TK _ (SS.mpr ⟨r,hR r mr,rfl⟩))),(hm _).mpr (TK _ (SS.mpr ⟨r,hR r mr,rfl⟩))⟩;rw[qA H M hs (ends _ λr m=>UD _ m),qA H' M' hs (ends _ λr m=>TK _ m)];unfold fA;refine Qz λx mx=>?_;simp only;obtain⟨lt,nm⟩:=Jy hs x mx;have G:=hF ((x.1+x.2)/2) λz=>nm ((hm _).mpr (UD _ (UD _ (UD _ z))));have G':=uz ((x.1+x.2)/2) λz=>nm ((hm _).mpr (UD _ (UD _ (TK _ z))));have d0:0<aN ((0,1):Q2) (0,1):=by unfold aN;grind
 obtain⟨P,Q,K,l1,e1,k1⟩:=tN H G M d0;obtain⟨P',Q',K',l2,e2,k2⟩:=tN H' G' M' d0;have dm:=RA (P.length+Q'.length) (P:=P++Q') (Q:=P'++Q) (F:=K++K') (by rw[TC]) (by rw[TC];lia) λy hy=>by
  have a:=k1 y λz=>hy (UD _ z);have b:=k2 y λz=>hy (TK _ z);have c:iI (∃g∈bs,Wi (d5 g.o) (bU ((x.1+x.2)/2,0) (0,1) y))<=iI (∃g∈bs',Wi (d5 g.o) (bU ((x.1+x.2)/2,0) (0,1) y)):=by
   by_cases q:∃g∈bs,Wi (d5 g.o) (bU ((x.1+x.2)/2,0) (0,1) y)
   ·rw[AF q,AF (h _ q)];lia
   ·rw[vZ q]
    by_cases q':∃g∈bs',Wi (d5 g.o) (bU ((x.1+x.2)/2,0) (0,1) y)
    ·rw[AF q'];lia
    ·rw[vZ q'];lia
  rw[wB,wB];lia
 rw[lK,lK]at dm;rw[e1,e2];have:=Rat.mul_nonneg (show 0<=x.2-x.1 by grind) (show 0<=(aX P-aX Q)-(aX P'-aX Q') by grind);grind
def Vn(o d:Q2)(e:Eg):Prop:=sl d e≠0/\0<tE o d e/\tE o d e<1
theorem RG{f s y:Rat}:(0<s->(0<f+s*y↔-f/s<y)/\(0<=f+s*y↔-f/s<=y))/\(s<0->(0<f+s*y↔y < -f/s)/\(0<=f+s*y↔y<=-f/s)):=by
 refine⟨λp=>?_,λp=>?_⟩
 ·have r:f+s*(-f/s)=0:=by rw[Rat.div_def];grind
  generalize -f/s=z at r;have a:=kF (a:=y-z) p;have b:=Dy (a:=y-z) p;exact⟨by grind,by grind⟩
 ·have r:f+s*(-f/s)=0:=by rw[Rat.div_def];grind
  generalize -f/s=z at r;have p':0 < -s:=by grind
  have a:=kF (a:=z-y) p';have b:=Dy (a:=z-y) p';exact⟨by grind,by grind⟩
theorem BZ(h:Gn B o d)(uk:es∈B)(cx:Cx es){y:Rat}(u:Sj es (bU o d y) d b):∃z,Wi es (bU o d z):=by
 have sub:∀e∈es,e∈B.flatten:=λe me=>WS.mpr ⟨es,uk,me⟩;have zL:∀e∈es,∀z,fE e (bU o d z)=0->z∈es.map (yE o d):=λe me z k=>by
  rw[yY (h.s (sub e me) k) k];exact SS.mpr ⟨e,me,rfl⟩
 cases b with
 |true=>
  obtain⟨z,hz,gz⟩:=JJ (es.map (yE o d)) y;refine⟨z,(wL h uk cx (b:=true) λe me=>?_).mpr (.inr u)⟩;have nz:∀w,y<w->w<=z->fE e (bU o d w)≠0:=λw a b k=>by rcases gz w (zL e me w k)with q|q<;>grind
  simp only[jU]at nz⊢;exact F5 hz nz
 |false=>
  obtain⟨z,hz,gz⟩:=Ac (es.map (yE o d)) y;refine⟨z,(wL h uk cx (b:=false) λe me=>?_).mpr (.inr u)⟩;have nz:∀w,z<=w->w<y->fE e (bU o d w)≠0:=λw a b k=>by rcases gz w (zL e me w k)with q|q<;>grind
  simp only[jU]at nz⊢;exact AY hz nz
theorem Ri(h:Gn B o d)(uk:es∈B)(cx:Cx es)(n0:es≠[])(d0:0<aN d d):
  ((∀y,¬Wi es (bU o d y))/\∀e∈es,¬Vn o d e)\/∃y0 y1,y0<y1/\(∀y,Wi es (bU o d y)↔y0<y/\y<y1)/\(∃e∈es,Cv o d y0 true e)/\(∃e∈es,Cv o d y1 false e)/\∀e∈es,Vn o d e->(0<sl d e->yE o d e=y0)/\(sl d e<0->yE o d e=y1):=by
 have sub:∀e∈es,e∈B.flatten:=λe me=>WS.mpr ⟨es,uk,me⟩;have cvs:∀e∈es,∀b,Vn o d e->vM b (sl d e)->Cv o d (yE o d e) b e:=λe _ b k s=>⟨s,Kj k.1,k.2.1,k.2.2⟩
 by_cases w:∃z,Wi es (bU o d z)
 ·right
  obtain⟨z,wz⟩:=w;obtain⟨eD,mD,sD⟩:=NM cx n0 d0 wz;obtain⟨eU,mU,sU⟩:=NM cx n0 (d:=(-d.1,-d.2)) (by unfold aN at *;grind) wz;have sU':0<sl d eU:=by unfold sl aT at *;grind
  have neU:es.filter (λe=>decide (0<sl d e))≠[]:=λq=>by
   have:eU∈es.filter (λe=>decide (0<sl d e)):=TL.mpr ⟨mU,by simpa using sU'⟩;rw[q]at this;simp at this
  have neD:es.filter (λe=>decide (sl d e<0))≠[]:=λq=>by
   have:eD∈es.filter (λe=>decide (sl d e<0)):=TL.mpr ⟨mD,by simpa using sD⟩;rw[q]at this;simp at this
  obtain⟨u,mu,hu⟩:=nK (λe:Eg=>yE o d e) _ neU;obtain⟨v,mv,hv⟩:=nK (λe:Eg=>-yE o d e) _ neD;obtain⟨mu,su⟩:=TL.mp mu;obtain⟨mv,sv⟩:=TL.mp mv;have su:0<sl d u:=by simpa using su
  have sv:sl d v<0:=by simpa using sv
  have hu':∀e∈es,0<sl d e->yE o d e<=yE o d u:=λe me s=>hu e (TL.mpr ⟨me,by simpa using s⟩);have hv':∀e∈es,sl d e<0->yE o d v<=yE o d e:=λe me s=>by have:=hv e (TL.mpr ⟨me,by simpa using s⟩);grind
  have pU:∀e,0<sl d e->∀y,(0<fE e (bU o d y)↔yE o d e<y)/\(0<=fE e (bU o d y)↔yE o d e<=y):=λe s y=>by rw[jU];exact RG.1 s
  have pD:∀e,sl d e<0->∀y,(0<fE e (bU o d y)↔y<yE o d e)/\(0<=fE e (bU o d y)↔y<=yE o d e):=λe s y=>by rw[jU];exact RG.2 s
  have p0:∀e∈es,sl d e=0->∀y,0<fE e (bU o d y):=λe me s y=>by
   have:=wz e me;rw[jU,s]at this;rw[jU,s];grind
  have iff:∀y,Wi es (bU o d y)↔yE o d u<y/\y<yE o d v:=λy=>by
   constructor
   ·intro k;exact⟨((pU u su y).1).mp (k u mu),((pD v sv y).1).mp (k v mv)⟩
   ·rintro⟨a,b⟩ e me
    by_cases s:sl d e=0
    ·exact p0 e me s y
    ·by_cases s1:0<sl d e
     ·exact((pU e s1 y).1).mpr (by have:=hu' e me s1;grind)
     ·have s2:sl d e<0:=by grind
      exact((pD e s2 y).1).mpr (by have:=hv' e me s2;grind)
  obtain⟨z1,z2⟩:=(iff z).mp wz;have ib:∀y,yE o d u<=y->y<=yE o d v->Cg es (bU o d y):=λy a b e me=>by
   by_cases s:sl d e=0
   ·exact Rat.le_of_lt (p0 e me s y)
   ·by_cases s1:0<sl d e
    ·exact((pU e s1 y).2).mpr (by have:=hu' e me s1;grind)
    ·have s2:sl d e<0:=by grind
     exact((pD e s2 y).2).mpr (by have:=hv' e me s2;grind)
  refine⟨yE o d u,yE o d v,by grind,iff,(tG h uk cx).mp ⟨ib _ (by grind) (by grind),u,mu,Kj (by grind),su⟩,(tG h uk cx).mp ⟨ib _ (by grind) (by grind),v,mv,Kj (by grind),sv⟩,λe me k=>⟨λs=>?_,λs=>?_⟩⟩
  ·have c:=cvs e me true k s;have i:=((tG h uk cx).mpr ⟨e,me,c⟩).1;have a:=((pU u su _).2).mp (i u mu);have:=hu' e me s;grind
  ·have c:=cvs e me false k s;have i:=((tG h uk cx).mpr ⟨e,me,c⟩).1;have a:=((pD v sv _).2).mp (i v mv);have:=hv' e me s;grind
 ·left
  refine⟨λy k=>w ⟨y,k⟩,λe me k=>?_⟩;obtain s|s:=Nf k.1 true
  ·exact w (BZ h uk cx ((tG h uk cx).mpr ⟨e,me,cvs e me true k s⟩))
  ·exact w (BZ h uk cx ((tG h uk cx).mpr ⟨e,me,cvs e me false k s⟩))
def yM(bs:List eJ):List Fr:=bs.zipIdx.flatMap λx=>(ej x.1.o).flatMap λe=>(gC bs x.2 e.1 e.2).map λc=>(cO e.1 e.2 c).1
def bC(bs:List eJ):List Fr:=(yM bs).foldl i5 []
theorem LB.dd(h:LB 400 b)(me:e∈ej b.o):e∈zr b.o:=by
 obtain⟨i,hi,rfl⟩:=SS.mp me;have hi:=VL.mp hi;have hk:(i+b.o.length-1)%b.o.length<b.o.length:=XA _ ⋯;obtain⟨p,q,h1,h2,h3⟩:=vF hk;have e1:((i+b.o.length-1)%b.o.length+1)%b.o.length=i:=by
  by_cases c:i=0
  ·subst c;have m:(0+b.o.length-1)%b.o.length=b.o.length-1:=by rw[YJ];exact VJ ⋯
   rw[m,show b.o.length-1+1=b.o.length by lia,ZF]
  ·have m:(i+b.o.length-1)%b.o.length=i-1:=by rw[show i+b.o.length-1=i-1+b.o.length by lia,XT];exact VJ ⋯
   rw[m,show i-1+1=i by lia];exact VJ hi
 rw[e1]at h2;have:(b.o.getD ((i+b.o.length-1)%b.o.length) zP,b.o.getD i zP)=(p,q):=by
  rw[TV,h1,TV,h2];rfl
 rw[this];exact SY h3
theorem Rg(hb:∀b∈bs,LB 400 b):Kv (yM bs):=λf m=>by
 obtain⟨x,mx,m⟩:=UC.mp m;obtain⟨e,me,m⟩:=UC.mp m;obtain⟨c,mc,rfl⟩:=SS.mp m;have mg:=SY (TQ.mp mx);obtain⟨p1,p2,pn⟩:=(hb x.1 mg).ed ((hb x.1 mg).dd me);have C:L6 bs x.2 e.1 e.2:=⟨hb,p1,p2,pn⟩;exact(nN p1.np p2.np (C.ro.n c mc)).1.x
theorem sY(hb:∀b∈bs,LB 400 b):((bC bs).map val).Pairwise (· < ·)/\Kv (bC bs)/\∀y,y∈bC bs↔y∈yM bs:=by
 obtain⟨a,b,c,_⟩:=nE (yM bs) [] (Rg hb) (λf m=>absurd m (by simp)) List.Pairwise.nil;refine⟨?_,a,λy=>?_⟩
 ·rw[ZZ];exact b
 ·unfold bC;rw[c];simp
theorem wI{bs:List eJ}(hb:∀b∈bs,LB 400 b){k:Nat}{g:eJ}(hg:bs[k]?=oZ g)(me:(a,b)∈zr g.o)(mc:c∈gC bs k a b):(cL (vq a) (vq b) (val c)).1∈(bC bs).map val:=by
 have lg:=hb g (SY hg);obtain⟨p1,p2,pn⟩:=lg.ed me;have C:L6 bs k a b:=⟨hb,p1,p2,pn⟩;refine SS.mpr ⟨(cO a b c).1,((sY hb).2.2 _).mpr (UC.mpr ⟨(g,k),TQ.mpr hg,UC.mpr ⟨(a,b),Sl me,SS.mpr ⟨c,mc,rfl⟩⟩⟩),?_⟩;have:=(nN p1.np p2.np (C.ro.n c mc)).2;exact congrArg Prod.fst this
theorem Jv{bs:List eJ}(hb:∀b∈bs,LB 400 b){k:Nat}{g:eJ}(hg:bs[k]?=oZ g)(me:(a,b)∈zr g.o):(vq a).1∈(bC bs).map val/\(vq b).1∈(bC bs).map val:=by
 have lg:=hb g (SY hg);obtain⟨p1,p2,pn⟩:=lg.ed me;have C:L6 bs k a b:=⟨hb,p1,p2,pn⟩;have h0:=wI hb hg me C.ro.z;have h1:=wI hb hg me C.ro.o;rw[dX]at h0;rw[gN]at h1;have e0:(cL (vq a) (vq b) 0).1=(vq a).1:=by unfold cL;grind
 have e1:(cL (vq a) (vq b) 1).1=(vq b).1:=by unfold cL;grind
 rw[e0]at h0;rw[e1]at h1;exact⟨h0,h1⟩
theorem Xs(hb:∀b∈bs,LB 400 b){x0:Rat}(h:x0∉(bC bs).map val):Gn (Cq bs) (x0,0) (0,1):=by
 have h0:∀p:Q2,ht (0,1) p=p.1:=λp=>by unfold ht aT;grind
 have wb:∀g∈bs,∀e∈d5 g.o,∃(k:Nat)(a b:Pt),bs[k]?=oZ g/\(a,b)∈zr g.o/\e=(vq a,vq b):=λg mg e me=>by
  obtain⟨k,hk⟩:=VI mg;obtain⟨⟨a,b⟩,mx,rfl⟩:=SS.mp me;exact⟨k,a,b,hk,mx,rfl⟩
 refine⟨λe me=>?_,λe me=>?_,λe g y oe og z1 z2=>?_⟩
 ·obtain⟨b,mb,me⟩:=rM me;exact(hb b mb).gb.cx.ne e me
 ·obtain⟨g,mg,me⟩:=rM me;obtain⟨k,a,b,hk,mx,rfl⟩:=wb g mg e me;obtain⟨c1,c2⟩:=Jv hb hk mx;rw[h0,h0,h0];exact⟨λz=>h (by simp only at z;rw[<-z];exact c1),λz=>h (by simp only at z;rw[<-z];exact c2)⟩
 ·refine Classical.byContradiction λnz=>?_;obtain⟨es,uk,me,ib⟩:=oe;obtain⟨xu,aGR,mg,ib'⟩:=og;obtain⟨b1,mb1,rfl⟩:=SS.mp uk;obtain⟨b2,mb2,rfl⟩:=SS.mp aGR;obtain⟨e',me',on1,r1,r10,hr1⟩:=(hb b1 mb1).gb.cx.on me z1 ib;obtain⟨g',mg',on2,r2,r20,hr2⟩:=(hb b2 mb2).gb.cx.on mg z2 ib';obtain⟨k1,a,b,hk1,mx1,rfl⟩:=wb b1 mb1 e' me';obtain⟨k2,hk2⟩:=VI mb2;obtain⟨p1,p2,pn⟩:=(hb b1 mb1).ed mx1;have d0:=jO p1.np p2.np pn;have nn:My.aT (aH (vq a,vq b)) (aH g')≠0:=λz=>nz (by
   have f:∀(u:Eg)(x:Q2)(w:Q2),My.fE u (x.1+w.1,x.2+w.2)-My.fE u x=My.aT (aH u) w:=λu x w=>by unfold My.fE My.aT aK;grind
   have q1:∀w,My.aT (aH (vq a,vq b)) w=r1*My.aT (aH e) w:=λw=>by rw[<-f _ (0,0) w,<-f e (0,0) w,hr1,hr1];grind
   have q2:∀w,My.aT (aH g') w=r2*My.aT (aH g) w:=λw=>by rw[<-f _ (0,0) w,<-f g (0,0) w,hr2,hr2];grind
   have sw:∀u v,My.aT u v = -My.aT v u:=λu v=>by unfold My.aT;grind
   rw[q1,sw,q2]at z;have z':r1*(r2*My.aT (aH g) (aH e))=0:=by grind
   obtain w|w:=Rat.mul_eq_zero.mp z'
   ·grind
   ·obtain w|w:=Rat.mul_eq_zero.mp w
    ·grind
    ·rw[sw,w];grind)
  -- where on the wb
  have hz1:My.fE (vq a,vq b) (bU (x0,0) (0,1) y)=0:=on1.z;have hx:(bU (x0,0) (0,1) y).1=x0:=by unfold bU;grind
  generalize bU (x0,0) (0,1) y=P at *;have aGV:=par d0 (show My.aT (aK (vq b) (vq a)) (aK P (vq a))=0 from hz1);have n0:aN (aK (vq b) (vq a)) (aK (vq b) (vq a))≠0:=by grind
  obtain⟨t,ht'⟩:∃t,t*aN (aK (vq b) (vq a)) (aK (vq b) (vq a))=aN (aK (vq b) (vq a)) (aK P (vq a)):=⟨aN (aK (vq b) (vq a)) (aK P (vq a))/aN (aK (vq b) (vq a)) (aK (vq b) (vq a)),by rw[Rat.div_def];grind⟩;rw[<-ht']at aGV;have eP:P=cL (vq a) (vq b) t:=by
   have q1:(aK P (vq a)).1=t*(aK (vq b) (vq a)).1:=by grind
   have q2:(aK P (vq a)).2=t*(aK (vq b) (vq a)).2:=by grind
   unfold aK at q1 q2;unfold cL;exact Prod.ext (by simp only at *;grind) (by simp only at *;grind)
  have t0:0<=t:=by
   have:=on1.a;have e1:aN (aH (vq a,vq b)) (aK P (vq a))=t*aN (aK (vq b) (vq a)) (aK (vq b) (vq a)):=by rw[ht'];rfl
   rw[e1]at this;exact bR d0 this
  have t1:t<=1:=by
   have:=on1.b;have e1:aN (aH (vq a,vq b)) (aK (vq b) P)=(1-t)*aN (aK (vq b) (vq a)) (aK (vq b) (vq a)):=by rw[eP];unfold aN aH aK cL;grind
   rw[e1]at this;have:=bR d0 this;grind
  obtain⟨c1,c2⟩:=Jv hb hk1 mx1;have ta:t≠0:=λz=>h (by
   rw[<-hx,eP,z];have:(cL (vq a) (vq b) 0).1=(vq a).1:=by unfold cL;grind
   rw[this];exact c1)
  have tb:t≠1:=λz=>h (by
   rw[<-hx,eP,z];have:(cL (vq a) (vq b) 1).1=(vq b).1:=by unfold cL;grind
   rw[this];exact c2)
  have hz2:My.fE g' (cL (vq a) (vq b) t)=0:=by rw[<-eP];exact on2.z
  have dd:My.fE g' (vq b)-My.fE g' (vq a)=My.aT (aH g') (aH (vq a,vq b)):=by unfold My.fE My.aT aH aK;grind
  have sw:My.aT (aH g') (aH (vq a,vq b)) = -My.aT (aH (vq a,vq b)) (aH g'):=by unfold My.aT;grind
  by_cases jj:k2=k1
  ·subst jj;rw[hk1]at hk2;cases hk2;have cx:=(hb b1 mb1).gb.cx;have i1:=cx.inn g' mg' _ me';obtain⟨n,hn,en,_⟩:=cx.nx _ me';have i2:=cx.inn g' mg' n hn;rw[en]at i2;rw[mQ]at hz2;simp only at i1 i2;have m1:=Rat.mul_nonneg i1 (show 0<=1-t by grind);have m2:=Rat.mul_nonneg i2 t0;have z1':My.fE g' (vq a)*(1-t)=0:=by grind
   have z2':My.fE g' (vq b)*t=0:=by grind
   have y1:My.fE g' (vq a)=0:=(Rat.mul_eq_zero.mp z1').resolve_right (by grind);have y2:My.fE g' (vq b)=0:=(Rat.mul_eq_zero.mp z2').resolve_right (by grind);rw[y1,y2,sw]at dd;grind
  ·obtain⟨c,mc,vc'⟩:=Wn hb hk2 jj p1 p2 pn mg' (by grind) (by grind) hz2 (λw=>by rw[w.1,w.2,sw]at dd;grind) (by rw[<-eP];exact ib');have:=wI hb hk1 mx1 mc;rw[vc',<-eP,hx]at this;exact h this
theorem Tp(hb:∀b∈bs,LB 400 b)(marks:Str):Ks ((bC bs).map val) (eM bs marks):=λr mr=>by
 have H:=nI hb;rw[nP]at mr;obtain⟨x,mx,mr⟩:=UC.mp mr;have hxi:=TQ.mp mx;have me:=SY hxi;have k:=gQ H x.1 me;obtain⟨g,hg,hk,_,ee⟩:=oR me;have mg:=SY hg;obtain⟨p',q',h1,h2,h3⟩:=vF hk;obtain⟨l1,l2,_⟩:=Tj (n:=x.1.n) h3;rw[<-ee]at l1 l2;have hz:(zr g.o)[x.1.k]?=oZ (x.1.p,x.1.q):=by rw[l1,l2];exact h3
 have mz:(x.1.p,x.1.q)∈zr g.o:=SY hz;have mE:(vq x.1.p,vq x.1.q)∈d5 g.o:=SS.mpr ⟨_,mz,rfl⟩;have C:L6 bs x.1.n x.1.p x.1.q:=⟨hb,k.hp,k.hq,k.ne⟩;unfold D2 dC at mr;obtain⟨a,ma,rfl⟩:=SS.mp mr;have ou:∀e∈(cE bs marks).take x.2,L7 bs e:=λe m=>gQ H e (VH m);have se:∀s∈bs.map bE,pE s:=λs m=>by
  obtain⟨g,mg,rfl⟩:=SS.mp m;exact kI (H.ok g mg)
 have twok:∀w∈Sf ((cE bs marks).take x.2) x.1.l,Pb w.1/\Pb w.2:=λw m=>by
  obtain⟨e,me,rfl⟩:=SS.mp m;have:=ou e (TL.mp me).1;exact⟨this.hp,this.hq⟩
 have en:=Ap k.hp k.hq k.ne;obtain⟨f1,f2⟩:=rQ se en twok a ma;obtain⟨a0,a1,a2⟩:=Cp se en twok a ma;have d0:=jO k.hp.np k.hq.np k.ne;have ends:=Vz (P:=λt=>val t<=0\/1<=val t\/∃c∈gC bs x.1.n x.1.p x.1.q,val c=val t) (shs:=bs.map bE) (p:=x.1.p) (q:=x.1.q) (tw:=Sf ((cE bs marks).take x.2) x.1.l) (.inl (by rw[dX];grind)) (.inr (.inl (by rw[gN];grind))) (λr m=>by
   rw[UA]at m;obtain⟨g',mg',e⟩:=SS.mp m;obtain⟨j,hj⟩:=VI mg';have ov:=lI (H.gb g' mg') k.hp.np.spt k.hq.np.spt d0 (show bA (bE g') (gK x.1.p x.1.q)=oZ r from e)
   by_cases jk:j=x.1.n
   ·rw[jk,hg]at hj;cases hj;have cx:=(H.gb g mg).cx;have i0:=(ov.s 0 (by grind) (by grind)).mp λu mu=>by
     have:=cx.inn u mu _ mE;have e0:cL (vq x.1.p) (vq x.1.q) 0=vq x.1.p:=by unfold cL;exact Prod.ext (by simp only;grind) (by simp only;grind)
     rw[e0];exact this
    have i1:=(ov.s 1 (by grind) (by grind)).mp λu mu=>by
     obtain⟨n,hn,en',_⟩:=cx.nx _ mE;have:=cx.inn u mu n hn;rw[en']at this;have e0:cL (vq x.1.p) (vq x.1.q) 1=vq x.1.q:=by unfold cL;exact Prod.ext (by simp only;grind) (by simp only;grind)
     rw[e0];exact this
    exact⟨.inl i0.1,.inr (.inl i1.2)⟩
   ·obtain⟨c1,c2⟩:=C.ov_cut hj jk ov;exact⟨.inr (.inr c1),.inr (.inr c2)⟩) (λw mw=>by
   obtain⟨y,my,rfl⟩:=SS.mp mw;obtain⟨u,mu,rfl⟩:=SS.mp my;obtain⟨mu,hl⟩:=TL.mp mu;obtain⟨mu',lx⟩:=(Y1 (CK bs marks) hxi).mp mu;have ku:=ou u mu;obtain⟨g',hg',hk',_,eu⟩:=oR mu';obtain⟨p2,q2,k1,k2,k3⟩:=vF hk';obtain⟨j1,j2,_⟩:=Tj (n:=u.n) k3;rw[<-eu]at j1 j2;have hzu:(zr g'.o)[u.k]?=oZ (u.p,u.q):=by rw[j1,j2];exact k3
   have hl:u.l=x.1.l:=by simpa using hl
   rw[ku.l,k.l]at hl;obtain⟨z1,z2,z3⟩:=(sI ku.hp ku.hq k.hp k.hq ku.ne k.ne).mp hl;obtain⟨y1,y2,y3⟩:=Cw (jO ku.hp.np ku.hq.np ku.ne) z1 z2
   by_cases jk:u.n=x.1.n
   ·-- edges of one block
    rw[jk,hg]at hg';cases hg';have ki:x.1.k≠u.k:=by unfold Lx at lx;lia
    have s1:=kG k.hp.np k.hq.np ku.hp.np k.ne y1;have s2:=kG k.hp.np k.hq.np ku.hq.np k.ne y2;have dj:=(hb g mg).dj x.1.k u.k (vq x.1.p,vq x.1.q) (vq u.p,vq u.q) (Z6 hz) (Z6 hzu) ki y3 y1;have z3':aN (aH (vq u.p,vq u.q)) (aK (vq x.1.q) (vq x.1.p))=(val (bH x.1.p x.1.q u.q)-val (bH x.1.p x.1.q u.p))*aN (aK (vq x.1.q) (vq x.1.p)) (aK (vq x.1.q) (vq x.1.p)):=by
     unfold aH;simp only;rw[s1,s2];unfold aN aK cL;grind
    rw[z3']at z3;have lt:=bJ d0 z3;obtain q|q:=dj
    ·have e1:aN (aH (vq x.1.p,vq x.1.q)) (aK (vq u.p) (vq x.1.q))=(val (bH x.1.p x.1.q u.p)-1)*aN (aK (vq x.1.q) (vq x.1.p)) (aK (vq x.1.q) (vq x.1.p)):=by
      rw[s1];unfold aN aH aK cL;grind
     have q':0<=aN (aH (vq x.1.p,vq x.1.q)) (aK (vq u.p) (vq x.1.q)):=q;rw[e1]at q';have:=bR d0 q';exact⟨.inr (.inl (by simp only;grind)),.inr (.inl (by simp only;grind))⟩
    ·have e1:aN (aH (vq x.1.p,vq x.1.q)) (aK (vq x.1.p) (vq u.q)) = -val (bH x.1.p x.1.q u.q)*aN (aK (vq x.1.q) (vq x.1.p)) (aK (vq x.1.q) (vq x.1.p)):=by
      rw[s2];unfold aN aH aK cL;grind
     have q':0<=aN (aH (vq x.1.p,vq x.1.q)) (aK (vq x.1.p) (vq u.q)):=q;rw[e1]at q';have:=bR d0 q';exact⟨.inl (by simp only;grind),.inl (by simp only;grind)⟩
   ·have cut:∀y,y=u.p\/y=u.q->(val (bH x.1.p x.1.q y)<=0\/1<=val (bH x.1.p x.1.q y)\/∃e∈gC bs x.1.n x.1.p x.1.q,val e=val (bH x.1.p x.1.q y)):=λy hy=>by
     by_cases u1:val (bH x.1.p x.1.q y)<=0
     ·exact .inl u1
     ·by_cases u2:1<=val (bH x.1.p x.1.q y)
      ·exact .inr (.inl u2)
      ·exact .inr (.inr (Wz hb hg' jk k.hp k.hq k.ne (SY hzu) y1 y2 hy (by grind) (by grind)))
    exact⟨cut u.p (.inl rfl),cut u.q (.inr rfl)⟩) a ma
 have fin:∀t:Fr,F2 t->0<=val t->val t<=1->(val t<=0\/1<=val t\/∃c∈gC bs x.1.n x.1.p x.1.q,val c=val t)->(vq (cO x.1.p x.1.q (low t.1 t.2))).1∈(bC bs).map val:=λt ft t0 t1 h=>by
  obtain⟨n1,v1⟩:=Bg ft;rw[(nN k.hp.np k.hq.np n1).2,v1];obtain⟨c,mc,vc'⟩:∃c∈gC bs x.1.n x.1.p x.1.q,val c=val t:=by
   obtain q|q|q:=h
   ·exact⟨(0,1),C.ro.z,by rw[dX];grind⟩
   ·exact⟨(1,1),C.ro.o,by rw[gN];grind⟩
   ·exact q
  rw[<-vc'];exact wI hb hg mz mc
 exact⟨fin _ f1 a0 (by grind) ends.1,fin _ f2 (by grind) a2 ends.2⟩
theorem Yn(hb:∀b∈bs,LB 400 b)(M:mW bs marks):jT bs marks=fA ((bC bs).map val) λa b=>(b-a)*(-1*Cz ((a+b)/2,0) (0,1) (eM bs marks)):=qA (nI hb) M (sY hb).1 (Tp hb marks)
abbrev Iv:=Rat×Rat
def pK:Option Rat->List Iv->List Iv
 |_,[]=>[]
 |none,x::xs=>if x.1<x.2 then x::pK (oZ x.2) xs else pK none xs
 |some t,x::xs=>if(if x.1<t then t else x.1)<x.2 then(if x.1<t then t else x.1,x.2)::pK (oZ x.2) xs else pK (oZ t) xs
def CO:Rat->List Iv->Prop
 |_,[]=>True
 |t,x::xs=>t<=x.1/\x.1<x.2/\CO x.2 xs
theorem CO.all{t:Rat}:∀{xs:List Iv},CO t xs->∀x∈xs,t<=x.1/\x.1<x.2
 |[],_,x,m=>by simp at m
 |y::ys,h,x,m=>by
  obtain rfl|m:=SU.mp m
  ·exact⟨h.1,h.2.1⟩
  ·have:=CO.all h.2.2 x m;have:=h.1;have:=h.2.1;grind
theorem Gk:∀(xs:List Iv)(t:Rat),CO t (pK (oZ t) xs)
 |[],t=>trivial
 |x::xs,t=>by
  unfold pK
  by_cases c:(if x.1<t then t else x.1)<x.2
  ·rw[oV c];refine⟨?_,c,Gk xs x.2⟩;show t<=(if x.1<t then t else x.1)
   by_cases d:x.1<t
   ·rw[oV d];grind
   ·rw[oW d];grind
  ·rw[oW c];exact Gk xs t
theorem tF:∀(xs:List Iv)(t L:Rat),(∀x∈xs,L<=x.1)->∀z∈pK (oZ t) xs,L<=z.1
 |[],t,L,_,z,m=>by simp[pK]at m
 |x::xs,t,L,h,z,m=>by
  unfold pK at m
  by_cases c:(if x.1<t then t else x.1)<x.2
  ·rw[oV c]at m;obtain rfl|m:=SU.mp m
   ·have:=h x (by simp);show L<=(if x.1<t then t else x.1)
    by_cases d:x.1<t
    ·rw[oV d];grind
    ·rw[oW d];exact this
   ·exact tF xs _ L (λy my=>h y (by simp[my])) z m
  ·rw[oW c]at m;exact tF xs _ L (λy my=>h y (by simp[my])) z m
def xQ(Z:List Iv)(y:Rat):Prop:=∃z∈Z,z.1<y/\y<z.2
def rX(Z:List Iv):List Rat:=Z.flatMap λz=>[z.1,z.2]
theorem nH(z:Iv)(Z:List Iv)(y:Rat):xQ (z::Z) y↔(z.1<y/\y<z.2)\/xQ Z y:=by
 unfold xQ;constructor
 ·rintro⟨w,m,k⟩;obtain rfl|m:=SU.mp m
  ·exact .inl k
  ·exact .inr ⟨w,m,k⟩
 ·rintro (k|⟨w,m,k⟩)
  ·exact⟨z,by simp,k⟩
  ·exact⟨w,by simp[m],k⟩
theorem Nj:∀(xs:List Iv)(t L y:Rat),xs.Pairwise (λa b=>a.1<=b.1)->(∀x∈xs,L<=x.1/\x.1<x.2)->y∉rX xs->y≠t->L<y->((y<t\/xQ xs y)↔(y<t\/xQ (pK (oZ t) xs) y))
 |[],t,L,y,_,_,_,_,_=>Iff.rfl
 |x::xs,t,L,y,hs,hl,hy,yt,Ly=>by
  obtain⟨p1,p2⟩:=UL.mp hs;obtain⟨lx,xx⟩:=hl x (by simp);have hx:y≠x.1/\y≠x.2:=by
   unfold rX at hy;simp only[UT,XF,VO,SU,not_or]at hy;exact⟨hy.1,hy.2.1⟩
  have hy':y∉rX xs:=λz=>hy (by unfold rX at z⊢;rw[UT];exact TK _ z);have zi:∀z∈xs,x.1<=z.1/\z.1<z.2:=λz m=>⟨p1 z m,(hl z (by simp[m])).2⟩;have aD8:y<x.1->¬xQ xs y:=λk zZ=>by obtain⟨z,m,a,_⟩:=zZ;have:=p1 z m;grind
  rw[nH];unfold pK
  by_cases c:(if x.1<t then t else x.1)<x.2
  ·rw[oV c,nH];simp only
   by_cases k:x.1<y
   ·have ih:=Nj xs x.2 x.1 y p2 zi hy' hx.2 k
    by_cases c1:x.1<t
    ·rw[oV c1];grind
    ·rw[oW c1];grind
   ·have k':y<x.1:=by grind
    have s0:¬xQ (pK (oZ x.2) xs) y:=λzZ=>by obtain⟨z,m,a,_⟩:=zZ;have:=tF xs x.2 x.1 (λw mw=>p1 w mw) z m;grind
    have:=aD8 k'
    by_cases c1:x.1<t
    ·rw[oV c1];grind
    ·rw[oW c1];grind
  ·rw[oW c]
   by_cases k:x.1<y
   ·have ih:=Nj xs t x.1 y p2 zi hy' yt k
    by_cases c1:x.1<t
    ·rw[oV c1]at c;grind
    ·rw[oW c1]at c;grind
   ·have k':y<x.1:=by grind
    have s0:¬xQ (pK (oZ t) xs) y:=λzZ=>by obtain⟨z,m,a,_⟩:=zZ;have:=tF xs t x.1 (λw mw=>p1 w mw) z m;grind
    have:=aD8 k';grind
theorem X6{y:Rat}(hs:xs.Pairwise (λa b=>a.1<=b.1))(hl:∀x∈xs,x.1<x.2)(hy:y∉rX xs):(xQ xs y↔xQ (pK none xs) y)/\∃t,CO t (pK none xs):=by
 cases xs with
 |nil=>exact⟨Iff.rfl,0,trivial⟩
 |cons x xs=>
  obtain⟨p1,p2⟩:=UL.mp hs;have xx:=hl x (by simp);have hx:y≠x.1/\y≠x.2:=by
   unfold rX at hy;simp only[UT,XF,VO,SU,not_or]at hy;exact⟨hy.1,hy.2.1⟩
  have hy':y∉rX xs:=λz=>hy (by unfold rX at z⊢;rw[UT];exact TK _ z);unfold pK;rw[oV xx];refine⟨?_,x.1,by grind,xx,Gk xs x.2⟩;rw[nH,nH]
  by_cases k:x.1<y
  ·have ih:=Nj xs x.2 x.1 y p2 (λz m=>⟨p1 z m,hl z (by simp[m])⟩) hy' hx.2 k;grind
  ·have a:¬xQ xs y:=λzZ=>by obtain⟨z,m,a,_⟩:=zZ;have:=p1 z m;grind
   have b:¬xQ (pK (oZ x.2) xs) y:=λzZ=>by obtain⟨z,m,a,_⟩:=zZ;have:=tF xs x.2 x.1 (λw mw=>p1 w mw) z m;grind
   grind
theorem Wf:∀{Z:List Iv}{t y:Rat},CO t Z->y∉rX Z->(sJ y (Z.map Prod.fst):Int)-(sJ y (Z.map Prod.snd):Int)=iI (xQ Z y)
 |[],t,y,_,_=>(vZ (p:=xQ [] y) (by rintro⟨z,m,_⟩;simp at m)).symm
 |z::Z,t,y,h,hy=>by
  have hz:y≠z.1/\y≠z.2:=by
   unfold rX at hy;simp only[UT,XF,VO,SU,not_or]at hy;exact⟨hy.1,hy.2.1⟩
  have hy':y∉rX Z:=λw=>hy (by unfold rX at w⊢;rw[UT];exact TK _ w);have ih:=Wf (Z:=Z) h.2.2 hy';have zz:=h.2.1;rw[TH,TH,iH,iH,kD (nH z Z y)]
  by_cases a:z.1<y
  ·by_cases b:z.2<y
   ·rw[oV a,oV b];rw[kD (q:=xQ Z y) ⟨λq=>q.elim (λw=>by grind) id,λq=>.inr q⟩]
    push_cast;lia
   ·have n0:¬xQ Z y:=λzZ=>by obtain⟨w,mw,k1,k2⟩:=zZ;have:=(h.2.2.all w mw).1;grind
    rw[vZ n0]at ih;rw[oV a,oW b,AF (.inl ⟨a,by grind⟩)]
    push_cast;lia
  ·have n0:¬xQ Z y:=λzZ=>by obtain⟨w,mw,k1,k2⟩:=zZ;have:=(h.2.2.all w mw).1;grind
   rw[vZ n0]at ih;rw[oW a,oW (by grind),vZ (λq=>q.elim (λw=>a w.1) n0)]
   push_cast;lia
theorem DJ.one{bs:List eJ}(H:yZ bs)(G:Gn (Cq bs) o d)(d0:0<aN d d){g:eJ}(mg:g∈bs)(dj:DJ (d5 g.o)){i j:Nat}(hi:(d5 g.o)[i]?=oZ x)(hj:(d5 g.o)[j]?=oZ y)(ij:i≠j)(cx:Vn o d x)(cy:Vn o d y){b:Bool}(sx:vM b (sl d x))(sy:vM b (sl d y)):False:=by
 have mx:=SY hi;have my:=SY hj;have hh:yE o d y=yE o d x:=by
  obtain⟨_,n⟩|⟨y0,y1,_,_,_,_,k⟩:=Ri G (eZ mg) (H.gb g mg).cx (List.ne_nil_of_mem mx) d0
  ·exact absurd cx (n x mx)
  ·have kx:=k x mx cx;have ky:=k y my cy;cases b with
   |true=>rw[kx.1 sx,ky.1 sy]
   |false=>rw[kx.2 sx,ky.2 sy]
 have zx:=Kj (o:=o) cx.1;have zy:=Kj (o:=o) cy.1;rw[hh]at zy;have ox:=Cv.ow H G (jJ mg mx) (⟨sx,zx,cx.2.1,cx.2.2⟩:Cv o d (yE o d x) b x);have oy:=Cv.ow H G (jJ mg my) (⟨sy,zy,cy.2.1,cy.2.2⟩:Cv o d (yE o d x) b y);have c:=G.c x y _ ox oy zx zy;have n:=G.n x (jJ mg mx);have e1:=pA cx.1 zx;have e2:=pA cy.1 zy;rw[e1]at e2;have dp:=(Z5 n c sx).mpr sy;have t0:=cx.2.1;have t1:=cx.2.2;have s0:=cy.2.1;have s1:=cy.2.2;generalize tE o d x=t at *;generalize tE o d y=s at *;have q1:x.1.1+(x.2.1-x.1.1)*t=y.1.1+(y.2.1-y.1.1)*s:=congrArg Prod.fst e2;have q2:x.1.2+(x.2.2-x.1.2)*t=y.1.2+(y.2.2-y.1.2)*s:=congrArg Prod.snd e2;have f0:fE x y.1=0:=by
  have:fE x y.1 = -s*aT (aH x) (aH y):=by unfold fE aT aH aK;grind
  rw[this,c];grind
 have r1:aN (aH x) (aK y.1 x.2)=(t-1)*aN (aH x) (aH x)-s*aN (aH x) (aH y):=by unfold aN aH aK;grind
 have r2:aN (aH x) (aK x.1 y.2) = -(t*aN (aH x) (aH x))-(1-s)*aN (aH x) (aH y):=by unfold aN aH aK;grind
 have p1:=Rat.mul_pos (show 0<1-t by grind) n;have p2:=Rat.mul_pos s0 dp;have p3:=Rat.mul_pos t0 n;have p4:=Rat.mul_pos (show 0<1-s by grind) dp;obtain k|k:=dj i j x y hi hj ij c f0
 ·rw[r1]at k;grind
 ·rw[r2]at k;grind
def qB(e:Pt×Pt):Eg:=(vq e.1,vq e.2)
theorem LB.ejz(h:LB 400 b)(hi:i<b.o.length):∃e,(ej b.o)[i]?=oZ e/\(d5 b.o)[(i+b.o.length-1)%b.o.length]?=oZ (qB e):=by
 have hk:(i+b.o.length-1)%b.o.length<b.o.length:=XA _ ⋯;obtain⟨p,q,h1,h2,h3⟩:=vF hk;have e1:((i+b.o.length-1)%b.o.length+1)%b.o.length=i:=by
  by_cases c:i=0
  ·subst c;have m:(0+b.o.length-1)%b.o.length=b.o.length-1:=by rw[YJ];exact VJ ⋯
   rw[m,show b.o.length-1+1=b.o.length by lia,ZF]
  ·have m:(i+b.o.length-1)%b.o.length=i-1:=by rw[show i+b.o.length-1=i-1+b.o.length by lia,XT];exact VJ ⋯
   rw[m,show i-1+1=i by lia];exact VJ hi
 rw[e1]at h2;refine⟨(p,q),?_,?_⟩
 ·unfold ej;rw[TR,XH hi];show oZ (b.o.getD ((i+b.o.length-1)%b.o.length) zP,b.o.getD i zP)=oZ (p,q);rw[TV,h1,TV,h2];rfl
 ·unfold d5;rw[TR,h3];rfl
theorem EJ(hi:i<n)(hj:j<n)(h:(i+n-1)%n=(j+n-1)%n):i=j:=by
 have f:∀k,k<n->(k+n-1)%n=if k=0 then n-1 else k-1:=λk hk=>by
  by_cases c:k=0
  ·rw[oV c,c,YJ];exact VJ ⋯
  ·rw[oW c,show k+n-1=k-1+n by lia,XT];exact VJ ⋯
 rw[f i hi,f j hj]at h;split at h<;>split at h<;>lia
theorem HJ{α:Type}{R S:α->Prop}:∀F:List α,F.Pairwise (λa b=>¬(R a/\R b)/\¬(S a/\S b))->(∀a∈F,R a\/S a)->(∀a,R a->¬S a)->(∃a∈F,R a)->(∃a∈F,S a)->∃u v,F=[u,v]/\((R u/\S v)\/(S u/\R v))
 |[],_,_,_,⟨_,m,_⟩,_=>by simp at m
 |[a],_,_,n,⟨x,m,r⟩,⟨y,m',s⟩=>by
  rw[TM]at m m';subst m m';exact absurd s (n _ r)
 |[a,b],p,q,_,_,_=>by
  refine⟨a,b,rfl,?_⟩;have h:=(UL.mp p).1 b (by simp);have q1:=q a (by simp);have q2:=q b (by simp);grind
 |a::b::c::F,p,q,_,_,_=>by
  obtain⟨p1,p2⟩:=UL.mp p;have h1:=p1 b (by simp);have h2:=p1 c (by simp);have h3:=(UL.mp p2).1 c (by simp);have q1:=q a (by simp);have q2:=q b (by simp);have q3:=q c (by simp);grind
def Dc(x:Fr)(e:Pt×Pt):Bool:=decide ((aQ e.1.1 x).1*(aQ e.2.1 x).1<0)
def yS(x:Fr)(e:Pt×Pt):Fr:=(cO e.1 e.2 (sO (aQ x e.1.1) (aQ e.2.1 e.1.1))).2
theorem P8{a b:Int}:a*b<0↔(a<0/\0<b)\/(0<a/\b<0):=by
 constructor
 ·intro h;obtain c|c|c:=Int.lt_trichotomy a 0
  ·refine .inl ⟨c,?_⟩;obtain k|k:=aj 0 b
   ·exact k
   ·have:=Int.mul_nonneg_of_nonpos_of_nonpos (Int.le_of_lt c) k;lia
  ·rw[c,Int.zero_mul]at h;lia
  ·refine .inr ⟨c,?_⟩;obtain k|k:=aj b 0
   ·exact k
   ·have:=Int.mul_nonneg (Int.le_of_lt c) k;lia
 ·rintro (⟨h,k⟩|⟨h,k⟩)
  ·exact Int.mul_neg_of_neg_of_pos h k
  ·exact Int.mul_neg_of_pos_of_neg h k
theorem IM{a s:Rat}(h:s≠0):(0<a/s/\a/s<1)↔(0<a/\a<s)\/(a<0/\s<a):=by
 have r:a/s*s=a:=by rw[Rat.div_def];grind
 generalize a/s=t at r;constructor
 ·rintro⟨h1,h2⟩
  by_cases c:0<s
  ·have p1:=Rat.mul_pos h1 c;have p2:=Rat.mul_pos (show 0<1-t by grind) c;exact .inl ⟨by grind,by grind⟩
  ·have c':0 < -s:=by grind
   have p1:=Rat.mul_pos h1 c';have p2:=Rat.mul_pos (show 0<1-t by grind) c';exact .inr ⟨by grind,by grind⟩
 ·rintro (⟨h1,h2⟩|⟨h1,h2⟩)
  ·have c:0<s:=by grind
   exact⟨(kF c).mp (by grind),by have:=(kF (a:=1-t) c).mp (by grind);grind⟩
  ·have c:0 < -s:=by grind
   exact⟨(kF c).mp (by grind),by have:=(kF (a:=1-t) c).mp (by grind);grind⟩
theorem Ld(hx:bL x)(h1:NP e.1)(h2:NP e.2):Dc x e=true↔Vn (val x,0) (0,1) (qB e):=by
 have s:sl (0,1) (qB e)=val e.2.1-val e.1.1:=by unfold sl aT aH aK qB vq;grind
 have t:tE (val x,0) (0,1) (qB e)=(val x-val e.1.1)/(val e.2.1-val e.1.1):=by
  unfold tE;rw[s];congr 1;unfold ht aT qB vq;grind
 unfold Dc Vn;rw[decide_eq_true_eq,P8,<-uM (aR h1.x hx),<-oP (aR h2.x hx),<-oP (aR h1.x hx),<-uM (aR h2.x hx),bK h1.x hx,bK h2.x hx,s,t]
 by_cases c:val e.2.1-val e.1.1=0
 ·constructor
  ·intro k;exfalso;grind
  ·intro k;exact absurd c k.1
 ·rw[IM c];constructor
  ·intro k;refine⟨c,?_⟩;grind
  ·intro k;have:=k.2;grind
theorem Gw(hx:bL x)(h1:NP e.1)(h2:NP e.2)(c:Vn (val x,0) (0,1) (qB e)):(aQ e.2.1 e.1.1).1≠0/\bL (yS x e)/\val (yS x e)=yE (val x,0) (0,1) (qB e):=by
 have s:sl (0,1) (qB e)=val e.2.1-val e.1.1:=by unfold sl aT aH aK qB vq;grind
 have c1:=c.1;rw[s]at c1;have z:(aQ e.2.1 e.1.1).1≠0:=λk=>c1 (by rw[<-bK h2.x h1.x];exact(lN (aR h2.x h1.x)).mp k);have hv:=Nr (aR hx h1.x) (aR h2.x h1.x) z;have hn:=u7 (aR hx h1.x) z;obtain⟨n,v⟩:=nN h1 h2 hn;refine⟨z,n.y,?_⟩;have v2:val (yS x e)=_:=congrArg Prod.snd v;rw[v2];rw[bK hx h1.x,bK h2.x h1.x]at hv;refine yY (by rw[s];exact c1) ?_;unfold fE aT aH aK qB bU cL vq;simp only;generalize val (sO (aQ x e.1.1) (aQ e.2.1 e.1.1))=t at *;grind
section
variable{P:da}{w:dk}{K:W.Frag}{mg:Str->Option oA}{base:oE}
def jV(g:eJ)(x:Fr):List Fr:=((ej g.o).filter (Dc x)).map (yS x)
def jL(u v:Fr):Fr×Fr:=if(aQ u v).1<0 then(u,v)else(v,u)
def Jz(g:eJ)(x:Fr):Option (Fr×Fr):=match jV g x with
 |u::v::_=>oZ (jL u v)
 |_=>none
def IF(g:eJ)(x:Fr)(y:Rat):Prop:=Wi (d5 g.o) (bU (val x,0) (0,1) y)
theorem Rj(hb:∀b∈bs,LB 400 b)(mg:g∈bs)(hx:bL x)(nx:val x∉(bC bs).map val):
  (jV g x=[]/\Jz g x=none/\∀y,¬IF g x y)\/∃u v,jV g x=[yS x u,yS x v]/\(u∈ej g.o/\v∈ej g.o)/\Jz g x=oZ (jL (yS x u) (yS x v))/\val (jL (yS x u) (yS x v)).1<val (jL (yS x u) (yS x v)).2/\(bL (yS x u)/\bL (yS x v))/\∀y,IF g x y↔val (jL (yS x u) (yS x v)).1<y/\y<val (jL (yS x u) (yS x v)).2:=by
 have lg:=hb g mg;have H:=nI hb;have G:=Xs hb nx;have d0:(0:Rat)<aN (0,1) (0,1):=by unfold aN;grind
 have ed:∀e∈ej g.o,qB e∈d5 g.o/\NP e.1/\NP e.2:=λe me=>by
  have mz:=lg.dd me;obtain⟨p1,p2,_⟩:=lg.ed mz;exact⟨SS.mpr ⟨e,mz,rfl⟩,p1.np,p2.np⟩
 have ed':∀e∈d5 g.o,∃k∈ej g.o,e=qB k:=λe me=>by
  obtain⟨k,mk,rfl⟩:=SS.mp me;exact⟨k,Sl mk,rfl⟩
 have n0:d5 g.o≠[]:=λz=>by
  have:=congrArg YO z;unfold d5 at this;rw[SV,Gx]at this;have h3:=lg.len;simp only[UR]at this
  lia
 have cf:∀e∈ej g.o,(Dc x e=true↔Vn (val x,0) (0,1) (qB e)):=λe me=>Ld hx (ed e me).2.1 (ed e me).2.2;obtain⟨nw,nc⟩|⟨y0,y1,lt,wi,⟨e0,m0,v0⟩,⟨e1,m1,v1⟩,hy⟩:=Ri G (eZ mg) (H.gb g mg).cx n0 d0
 ·left
  have:jV g x=[]:=by
   unfold jV;rw[WW.mpr λe me c=>nc _ (ed e me).1 ((cf e me).mp c)];rfl
  refine⟨this,?_,nw⟩;unfold Jz;rw[this]
 ·right
  have pw:((ej g.o).filter (Dc x)).Pairwise (λa b=>¬(0<sl (0,1) (qB a)/\0<sl (0,1) (qB b))/\¬(sl (0,1) (qB a)<0/\sl (0,1) (qB b)<0)):=by
   rw[List.pairwise_filter,List.pairwise_iff_getElem];intro i j hi hj ij ca cb;have li:i<g.o.length:=by simpa[ej]using hi
   have lj:j<g.o.length:=by simpa[ej]using hj
   obtain⟨ei,a1,a2⟩:=lg.ejz li;obtain⟨ek,b1,b2⟩:=lg.ejz lj;rw[SX hi]at a1;rw[SX hj]at b1;have a1:=Option.some.inj a1;have b1:=Option.some.inj b1;have ca':=(cf _ (WA hi)).mp ca;have cb':=(cf _ (WA hj)).mp cb;rw[a1]at ca'⊢;rw[b1]at cb'⊢;have ne:(i+g.o.length-1)%g.o.length≠(j+g.o.length-1)%g.o.length:=λz=>by have:=EJ li lj z;lia
   exact⟨λz=>DJ.one H G d0 mg lg.dj a2 b2 ne ca' cb' (b:=true) z.1 z.2,λz=>DJ.one H G d0 mg lg.dj a2 b2 ne ca' cb' (b:=false) z.1 z.2⟩
  have cx0:Vn (val x,0) (0,1) e0:=⟨jS v0.s,v0.t0,v0.t1⟩;have cx1:Vn (val x,0) (0,1) e1:=⟨jS v1.s,v1.t0,v1.t1⟩;obtain⟨k0,mk0,rfl⟩:=ed' e0 m0;obtain⟨k1,mk1,rfl⟩:=ed' e1 m1;obtain⟨u,v,eF,hs⟩:=HJ (R:=λa=>0<sl (0,1) (qB a)) (S:=λa=>sl (0,1) (qB a)<0) _ pw (λa m=>by
    obtain⟨m1,m2⟩:=TL.mp m;have:=((cf a m1).mp m2).1;show 0<sl (0,1) (qB a)\/sl (0,1) (qB a)<0;grind) (λa h1 h2=>by have h1:0<sl (0,1) (qB a):=h1;have h2:sl (0,1) (qB a)<0:=h2;grind)
   ⟨k0,TL.mpr ⟨mk0,(cf _ mk0).mpr cx0⟩,v0.s⟩ ⟨k1,TL.mpr ⟨mk1,(cf _ mk1).mpr cx1⟩,v1.s⟩
  obtain⟨mu,cu⟩:=TL.mp (show u∈(ej g.o).filter (Dc x) by rw[eF];simp);obtain⟨mv,cv⟩:=TL.mp (show v∈(ej g.o).filter (Dc x) by rw[eF];simp);have cu:=(cf u mu).mp cu;have cv:=(cf v mv).mp cv;obtain⟨_,nu,yu⟩:=Gw hx (ed u mu).2.1 (ed u mu).2.2 cu;obtain⟨_,nv,yv⟩:=Gw hx (ed v mv).2.1 (ed v mv).2.2 cv;have hu:=hy _ (ed u mu).1 cu;have hv:=hy _ (ed v mv).1 cv;have sL:jV g x=[yS x u,yS x v]:=by unfold jV;rw[eF];rfl
  have key:val (jL (yS x u) (yS x v)).1=y0/\val (jL (yS x u) (yS x v)).2=y1:=by
   have lt':(aQ (yS x u) (yS x v)).1<0↔yE (val x,0) (0,1) (qB u)<yE (val x,0) (0,1) (qB v):=by rw[<-uM (aR nu nv),bK nu nv,yu,yv];grind
   unfold jL;obtain⟨s1,s2⟩|⟨s1,s2⟩:=hs
   ·rw[oV (lt'.mpr (by rw[hu.1 s1,hv.2 s2];exact lt))];exact⟨by rw[yu];exact hu.1 s1,by rw[yv];exact hv.2 s2⟩
   ·rw[oW (λz=>by have:=lt'.mp z;rw[hu.2 s1,hv.1 s2]at this;grind)];exact⟨by rw[yv];exact hv.1 s2,by rw[yu];exact hu.2 s1⟩
  refine⟨u,v,sL,⟨mu,mv⟩,by unfold Jz;rw[sL],by rw[key.1,key.2];exact lt,⟨nu,nv⟩,λy=>by rw[key.1,key.2];exact wi y⟩
def kW(acc:List (Fr×Fr))(w:Fr×Fr):List (Fr×Fr):=acc.take (acc.filter λa=>lV a.1 w.1).length++w::acc.drop (acc.filter λa=>lV a.1 w.1).length
def Y4(xs:List (Fr×Fr)):Prop:=∀w∈xs,bL w.1/\bL w.2/\val w.1<val w.2
def NJ(xs:List (Fr×Fr)):Prop:=xs.Pairwise λa b=>val a.1<=val b.1
theorem Pw:∀{acc:List (Fr×Fr)}{w:Fr×Fr},Y4 acc->NJ acc->bL w.1->NJ (kW acc w)/\∀y,y∈kW acc w↔y=w\/y∈acc
 |[],w,_,_,_=>⟨bb _ _,λy=>by simp[kW]⟩
 |a::acc,w,n,s,hw=>by
  obtain⟨p1,p2⟩:=UL.mp s;have n':Y4 acc:=λz m=>n z (by simp[m])
  by_cases c:val a.1<val w.1
  ·have e:kW (a::acc) w=a::kW acc w:=by
    unfold kW;rw[UM (by exact(Lu (n a (by simp)).1 hw).mpr c),TB,YE,ZI,XF]
   obtain⟨i1,i2⟩:=Pw n' p2 hw;rw[e];refine⟨UL.mpr ⟨λz m=>?_,i1⟩,λy=>?_⟩
   ·rcases(i2 z).mp m with rfl|m
    ·exact Rat.le_of_lt c
    ·exact p1 z m
   ·rw[SU,i2,SU];grind
  ·have fl:(a::acc).filter (λa=>lV a.1 w.1)=[]:=by
    rw[WW];intro z m k;have k:=(Lu (n z m).1 hw).mp k;obtain rfl|m:=SU.mp m
    ·exact c k
    ·have:=p1 z m;grind
   have e:kW (a::acc) w=w::a::acc:=by unfold kW;rw[fl];rfl
   rw[e];refine⟨UL.mpr ⟨λz m=>?_,s⟩,λy=>by simp⟩;obtain rfl|m:=SU.mp m
   ·grind
   ·have:=p1 z m;grind
def uI(x:Fr)(acc:List (Fr×Fr))(g:eJ):List (Fr×Fr):=match Jz g x with
 |none=>acc
 |some w=>kW acc w
def jF(bs:List eJ)(x:Fr):List (Fr×Fr):=bs.foldl (uI x) []
def Ls(top:Option Fr)(lo:Fr):Fr:=match top with
 |none=>lo
 |some t=>if lV lo t=true then t else lo
def Vb(s:Fr×Option Fr)(w:Fr×Fr):Fr×Option Fr:=if 0<(aQ w.2 (Ls s.2 w.1)).1 then(fM s.1 (aQ w.2 (Ls s.2 w.1)),oZ w.2)else s
def j8(bs:List eJ)(x:Fr):Fr:=((jF bs x).foldl Vb ((0,1),none)).1
def vI(w:Fr×Fr):Iv:=(val w.1,val w.2)
theorem oS:∀(xs:List (Fr×Fr))(s:Fr×Option Fr),Y4 xs->bL s.1->(∀t,s.2=oZ t->bL t)->bL (xs.foldl Vb s).1/\val (xs.foldl Vb s).1=val s.1+aX ((pK (s.2.map val) (xs.map vI)).map λz=>z.2-z.1)
 |[],s,_,h,_=>⟨h,by cases s.2<;>simp[pK,aX]<;>grind⟩
 |w::xs,(om,none),n,h,k=>by
  obtain⟨n1,n2,n3⟩:=n w (by simp);have n':Y4 xs:=λz m=>n z (by simp[m]);have p:0<(aQ w.2 w.1).1:=by rw[<-oP (aR n2 n1),bK n2 n1];grind
  have e:Vb (om,none) w=(fM om (aQ w.2 w.1),oZ w.2):=by unfold Vb Ls;simp only;rw[oV p]
  rw[VN,e];obtain⟨i1,i2⟩:=oS xs (fM om (aQ w.2 w.1),oZ w.2) n' (eC h (aR n2 n1)) (λt z=>by cases z;exact n2);refine⟨i1,?_⟩;rw[i2,jH h (aR n2 n1),bK n2 n1,TH];have es:pK none (vI w::xs.map vI)=vI w::pK (oZ (val w.2)) (xs.map vI):=oV (show(vI w).1<(vI w).2 from n3);show val om+(val w.2-val w.1)+aX ((pK (oZ (val w.2)) (xs.map vI)).map _)=val om+aX ((pK none (vI w::xs.map vI)).map _);rw[es,TH];show _=val om+(val w.2-val w.1+aX _);grind
 |w::xs,(om,oZ t),n,h,k=>by
  obtain⟨n1,n2,n3⟩:=n w (by simp);have nt:=k t rfl;have n':Y4 xs:=λz m=>n z (by simp[m]);have nl:bL (Ls (oZ t) w.1)/\val (Ls (oZ t) w.1)=if val w.1<val t then val t else val w.1:=by
   unfold Ls;simp only
   by_cases c:val w.1<val t
   ·rw[oV ((Lu n1 nt).mpr c),oV c];exact⟨nt,rfl⟩
   ·rw[oW (λz=>c ((Lu n1 nt).mp z)),oW c];exact⟨n1,rfl⟩
  rw[VN,TH];have es:pK (oZ (val t)) (vI w::xs.map vI)=if val (Ls (oZ t) w.1)<val w.2 then(val (Ls (oZ t) w.1),val w.2)::pK (oZ (val w.2)) (xs.map vI)else pK (oZ (val t)) (xs.map vI):=by rw[nl.2];rfl
  show _/\_=val om+aX ((pK (oZ (val t)) (vI w::xs.map vI)).map _);rw[es]
  by_cases c:val (Ls (oZ t) w.1)<val w.2
  ·have p:0<(aQ w.2 (Ls (oZ t) w.1)).1:=by rw[<-oP (aR n2 nl.1),bK n2 nl.1];grind
   have e:Vb (om,oZ t) w=(fM om (aQ w.2 (Ls (oZ t) w.1)),oZ w.2):=by unfold Vb;simp only;rw[oV p]
   rw[e,oV c];obtain⟨i1,i2⟩:=oS xs (fM om (aQ w.2 (Ls (oZ t) w.1)),oZ w.2) n' (eC h (aR n2 nl.1)) (λt z=>by cases z;exact n2);refine⟨i1,?_⟩;rw[i2,jH h (aR n2 nl.1),bK n2 nl.1,TH];show val om+(val w.2-val (Ls (oZ t) w.1))+aX ((pK (oZ (val w.2)) (xs.map vI)).map _)=val om+(val w.2-val (Ls (oZ t) w.1)+aX ((pK (oZ (val w.2)) (xs.map vI)).map _));grind
  ·have p:¬0<(aQ w.2 (Ls (oZ t) w.1)).1:=by rw[<-oP (aR n2 nl.1)|> propext,bK n2 nl.1];grind
   have e:Vb (om,oZ t) w=(om,oZ t):=by unfold Vb;simp only;rw[oW p]
   rw[e,oW c];exact oS xs (om,oZ t) n' h k
end
theorem yR(hb:∀b∈bs,LB 400 b)(hx:bL x)(nx:val x∉(bC bs).map val):∀(cs:List eJ)(acc:List (Fr×Fr)),(∀g∈cs,g∈bs)->Y4 acc->NJ acc->Y4 (cs.foldl (uI x) acc)/\NJ (cs.foldl (uI x) acc)/\∀y,xQ ((cs.foldl (uI x) acc).map vI) y↔xQ (acc.map vI) y\/∃g∈cs,IF g x y
 |[],acc,_,n,s=>⟨n,s,λy=>⟨.inl,λh=>h.elim id (λzZ=>by obtain⟨g,m,_⟩:=zZ;simp at m)⟩⟩
 |g::cs,acc,sub,n,s=>by
  have aD9:∀g∈cs,g∈bs:=λz m=>sub z (by simp[m]);rw[VN];obtain⟨_,e,nw⟩|⟨u,v,_,_,e,lt,⟨nu,nv⟩,wi⟩:=Rj hb (sub g (by simp)) hx nx
  ·have e':uI x acc g=acc:=by unfold uI;rw[e]
   rw[e'];obtain⟨i1,i2,i3⟩:=yR hb hx nx cs acc aD9 n s;refine⟨i1,i2,λy=>?_⟩;rw[i3];constructor
   ·rintro (h|⟨k,m,h⟩)
    ·exact .inl h
    ·exact .inr ⟨k,by simp[m],h⟩
   ·rintro (h|⟨k,m,h⟩)
    ·exact .inl h
    ·obtain rfl|m:=SU.mp m
     ·exact absurd h (nw y)
     ·exact .inr ⟨k,m,h⟩
  ·have e':uI x acc g=kW acc (jL (yS x u) (yS x v)):=by unfold uI;rw[e]
   rw[e'];have nn:bL (jL (yS x u) (yS x v)).1/\bL (jL (yS x u) (yS x v)).2:=by
    unfold jL
    split
    ·exact⟨nu,nv⟩
    ·exact⟨nv,nu⟩
   generalize jL (yS x u) (yS x v)=w at *;obtain⟨j1,j2⟩:=Pw n s nn.1;have n2:Y4 (kW acc w):=λz m=>by
    rcases(j2 z).mp m with rfl|m
    ·exact⟨nn.1,nn.2,lt⟩
    ·exact n z m
   obtain⟨i1,i2,i3⟩:=yR hb hx nx cs (kW acc w) aD9 n2 j1;refine⟨i1,i2,λy=>?_⟩;rw[i3];have q:xQ ((kW acc w).map vI) y↔IF g x y\/xQ (acc.map vI) y:=by
    rw[wi];unfold xQ;constructor
    ·rintro⟨z,m,h⟩;obtain⟨k,mk,rfl⟩:=SS.mp m;rcases(j2 k).mp mk with rfl|mk
     ·exact .inl h
     ·exact .inr ⟨_,SS.mpr ⟨k,mk,rfl⟩,h⟩
    ·rintro (h|⟨z,m,h⟩)
     ·exact⟨vI w,SS.mpr ⟨w,(j2 w).mpr (.inl rfl),rfl⟩,h⟩
     ·obtain⟨k,mk,rfl⟩:=SS.mp m;exact⟨_,SS.mpr ⟨k,(j2 k).mpr (.inr mk),rfl⟩,h⟩
   rw[q];constructor
   ·rintro ((h|h)|⟨k,m,h⟩)
    ·exact .inr ⟨g,by simp,h⟩
    ·exact .inl h
    ·exact .inr ⟨k,by simp[m],h⟩
   ·rintro (h|⟨k,m,h⟩)
    ·exact .inl (.inr h)
    ·obtain rfl|m:=SU.mp m
     ·exact .inl (.inl h)
     ·exact .inr ⟨k,m,h⟩
theorem Jp:∀Z:List Iv,aX (Z.map λz=>z.2-z.1)=aX (Z.map Prod.snd)-aX (Z.map Prod.fst)
 |[]=>by simp[aX];grind
 |z::Z=>by
  have:=Jp Z;simp only[TH,aX];rw[this];grind
theorem Tg(hb:∀b∈bs,LB 400 b)(M:mW bs marks)(hx:bL x)(nx:val x∉(bC bs).map val):bL (j8 bs x)/\val (j8 bs x) = -1*Cz (val x,0) (0,1) (eM bs marks):=by
 obtain⟨h1,h2,h3⟩:=yR hb hx nx bs [] (λg m=>m) (λz m=>absurd m (by simp)) List.Pairwise.nil;have h3':∀y,xQ ((jF bs x).map vI) y↔∃g∈bs,IF g x y:=λy=>by
  unfold jF;rw[h3];exact⟨λh=>h.elim (λzZ=>by obtain⟨z,m,_⟩:=zZ;simp at m) id,.inr⟩
 obtain⟨c1,c2⟩:=oS (jF bs x) ((0,1),none) h1 (bX 0) (λt z=>by cases z);have d0:(0:Rat)<aN (0,1) (0,1):=by unfold aN;grind
 refine⟨c1,?_⟩;have sv:((jF bs x).map vI).Pairwise (λa b=>a.1<=b.1):=by rw[ZZ];exact h2
 have lv:∀z∈(jF bs x).map vI,z.1<z.2:=λz m=>by
  obtain⟨w,mw,rfl⟩:=SS.mp m;exact(h1 w mw).2.2
 have cv:=CQ (nI hb) (Xs hb nx) M d0 (L:=(pK none ((jF bs x).map vI)).map Prod.fst) (U:=(pK none ((jF bs x).map vI)).map Prod.snd) (F:=rX ((jF bs x).map vI)++rX (pK none ((jF bs x).map vI))) (λy hy=>by
  obtain⟨a,t,c⟩:=X6 sv lv (y:=y) (λz=>hy (UD _ z));rw[Wf c (λz=>hy (TK _ z))];exact kD (a.symm.trans (h3' y)))
 rw[cv];have c2':val (j8 bs x)=val ((0,1):Fr)+aX ((pK none ((jF bs x).map vI)).map λz=>z.2-z.1):=c2;rw[c2',Jp,dX];grind
def uZ(bs:List eJ)(om:Fr)(p:Fr×Fr):Fr:=fM om (kB (aQ p.2 p.1) (j8 bs (zK p)))
def mY(bs:List eJ):Fr:=((bC bs).zip (bC bs).tail).foldl (uZ bs) (0,1)
theorem Wu(hb:∀b∈bs,LB 400 b)(M:mW bs marks):∀(L:List (Fr×Fr))(om:Fr),(∀p∈L,bL p.1/\bL p.2/\(val p.1+val p.2)/2∉(bC bs).map val)->bL om->bL (L.foldl (uZ bs) om)/\val (L.foldl (uZ bs) om)=val om+aX (L.map λp=>(val p.2-val p.1)*(-1*Cz ((val p.1+val p.2)/2,0) (0,1) (eM bs marks)))
 |[],om,_,n=>⟨n,by simp[aX];grind⟩
 |p::L,om,h,n=>by
  obtain⟨p1,p2,pm⟩:=h p (by simp);obtain⟨m1,m2⟩:=AO p1 p2;have m2:val (zK p)=(val p.1+val p.2)/2:=by rw[m2,Rat.div_def,Rat.div_def];grind
  obtain⟨c1,c2⟩:=Tg hb M m1 (by rw[m2];exact pm);rw[m2]at c2;have nx:=aW (aR p2 p1) c1;obtain⟨i1,i2⟩:=Wu hb M L (uZ bs om p) (λz m=>h z (by simp[m])) (eC n nx);rw[VN];refine⟨i1,?_⟩;rw[i2];unfold uZ;rw[jH n nx,fD (aR p2 p1) c1,bK p2 p1,c2,TH];simp only[aX];grind
theorem Al(hb:∀b∈bs,LB 400 b):∀p∈(bC bs).zip (bC bs).tail,bL p.1/\bL p.2/\(val p.1+val p.2)/2∉(bC bs).map val:=λp m=>by
 obtain⟨s1,s2,_⟩:=sY hb;obtain⟨m1,m2⟩:=VY m;refine⟨s2 _ m1,s2 _ (WT m2),?_⟩;refine(Jy s1 (val p.1,val p.2) ?_).2;rw[<-YC,ar];exact SS.mpr ⟨p,m,rfl⟩
theorem Hw(hb:∀b∈bs,LB 400 b)(M:mW bs marks):bL (mY bs)/\val (mY bs)=jT bs marks:=by
 obtain⟨a,b⟩:=Wu hb M ((bC bs).zip (bC bs).tail) (0,1) (Al hb) (bX 0);refine⟨a,?_⟩;have b:val (mY bs)=_:=b;rw[b,Yn hb M,dX];unfold fA;rw[<-YC,ar,UA];show _+aX _=aX (((bC bs).zip (bC bs).tail).map λp=>(val p.2-val p.1)*(-1*Cz ((val p.1+val p.2)/2,0) (0,1) (eM bs marks)));grind
section
variable{P:da}{w:dk}{K:W.Frag}{mg:Str->Option oA}{base:oE}
def F6(bs:List eJ)(k:Nat)(fd:List Fr)(e:Pt×Pt):List Fr:=(gC bs k e.1 e.2).foldl (λf c=>i5 f (cO e.1 e.2 c).1) fd
def X3(bs:List eJ)(fd:List Fr)(x:eJ×Nat):List Fr:=(ej x.1.o).foldl (F6 bs x.2) fd
theorem Ng(bs:List eJ):bC bs=bs.zipIdx.foldl (X3 bs) []:=by
 unfold bC yM;rw[List.foldl_flatMap]
 congr 1
 funext fd x
 unfold X3;rw[List.foldl_flatMap]
 congr 1
 funext fd e
 unfold F6;rw[List.foldl_map]
def NK(fs:List Fr):Prop:=∀f∈fs,bL f/\sz f<=500
theorem M8(hb:∀b∈bs,LB 400 b)(ha:Pb a)(hb':Pb b)(ne:a≠b):∀c∈gC bs k a b,bL c/\sz c<=400:=λc m=>by
 have nS:=jN hb (k:=(k:Int)) ha hb' ne;have ro:Vs (dQ (k:Int) a b bs.zipIdx) (gC bs k a b):=Ey λf m=>(nS f m).1;refine⟨ro.n c m,?_⟩;obtain rfl|rfl|m:=ro.k c m
 ·have:=X7;lia
 ·have:=HF;lia
 ·exact(nS c m).2
theorem Hv(hl:bs.length<=10)(hb:∀b∈bs,LB 400 b)(k:Nat)(ha:Pb a)(hb':Pb b)(ne:a≠b):(gC bs k a b).length<=130:=by
 have h1:(dQ (k:Int) a b bs.zipIdx).length<=12*bs.zipIdx.length:=lC λx m=>by
  by_cases c:(x.2:Int)=k
  ·rw[oV c];simp
  ·rw[oW c];exact Rf (hb x.1 (SY (TQ.mp m))).len.2
 rw[ZR]at h1;have nS:Kv ((0,1)::(1,1)::(dQ (k:Int) a b bs.zipIdx).filter pI):=λf m=>by
  obtain rfl|m:=SU.mp m
  ·exact bX 0
  ·obtain rfl|m:=SU.mp m
   ·exact bX 1
   ·exact(jN hb (k:=(k:Int)) ha hb' ne f (TL.mp m).1).1
 have h2:=(nE _ [] nS (λf m=>absurd m (by simp)) List.Pairwise.nil).2.2.2;have h3:=VV pI (dQ (k:Int) a b bs.zipIdx);simp only[TB,UR]at h2;unfold gC Ex
 lia
theorem QV(ha:Pb a)(hb:Pb b)(n:bL c)(s:sz c<=400):bL (cO a b c).1/\sz (cO a b c).1<=500:=by
 have n1:=aR hb.v.x ha.v.x;have s1:=gZ hb.v.x ha.v.x;have s2:=fT n1 n;have s3:=Gm ha.v.x (aW n1 n);have:=ha.v.sx;have:=hb.v.sx;exact⟨eC ha.v.x (aW n1 n),by unfold cO;simp only;lia⟩
structure S6 where
 k:Option U
 bl:Option U
 i:Option U
 a:Option U
 b:Option U
 c:Option U
 x:Option U
def I0:iU:=λas Q=>∃bs:List eJ,as=[.v (.lst (bs.map cU))]/\bs.length<=10/\(∀b∈bs,LB 400 b)/\Q (.l ((bC bs).map fr)) []
abbrev rE(P w K mg base):=(~~~Fn) 6 "_law_shuts_of" ["_law_some"] (aU K I0)
abbrev nV:dh:=top 63
theorem dI:aI ["_law_some","_law_found","_law_k","_law_block","_law_at","_law_share","_law_a","_law_b","_law_x"] ["_law_some"] (aC nV):=iQ
theorem Ej(F:eO K "_law_shuts_of" "_law_shuts_of" nV f fd)(TX:Txt mg)(wj: ~~~Hd)(vh: ~~~Ku)(kd: ~~~gM):(~~~bG) fJ 6 f fd ["_law_some"] (aU K I0):=by
 refine F.okU dI (λhr=>(aB (fS 1 dI.nd (cH gG)) (aB (eS PassesOwn.never rfl (vY rfl rfl TX.n_enumerate (f1 (fv 0))) (cM (n:=2) rfl rfl (aF (fG 2 dI.nd) (aF (fG 3 dI.nd) bS))) (aE (eS PassesOwn.never rfl (iY rfl TX.n_range (f1 (gH rfl rfl TX.n_len (f1 (fQ 3))))) (fG 4 dI.nd) (aB (gJ (i:=6) (j:=7) rfl dI.nd rfl rfl ∅ rfl rfl (f2 (fX (fQ 3) (aY i8 (fv 4) aA)) (fX (fQ 3) (fv 4))) rfl) (aE (eS PassesOwn.never rfl (cS rfl (fK wj (f4 (fv 0) (fv 2) (fv 6) (fv 7)))) (fG 5 dI.nd) (aB (fS 8 dI.nd (fX (fK vh (f3 (fv 6) (fv 7) (fv 5))) aA)) (aE (dG (Xm rfl hr (fv 8) (fv 1) rfl) (aE (e7 (Av rfl (fv 1) (f2 (gH rfl rfl TX.n_len (f1 (oT (N':=["_law_one","_law_x"]) (t:=1) (cap:=[(8,false)]) rfl (bI.of rfl) rfl ∅ (cS rfl (fv 1)) (λ_ _ _ _=>(fH 0)) (λ_ _ _ _=>(fP e8 (fX (fK kd (f2 (fv 0) (fv 1))) aA) aA)) (λ_ _ _ _=>(fv 0))))) (fv 8))))) cG))))))))) (aE (aP (fv 1)))))) ?_;rintro as Q ⟨bs,rfl,hl,hb,z⟩;show dU _ _ _ ((bs.map cU).zipIdx.map λq=>L2.T.tup [.int (q.2:Int),q.1]) _;rw[K5];refine cW (f:=λq:eJ×Nat=>L2.T.tup [.int (q.2:Int),cU q.1]) (λs:List Fr×S6=>[⇑(.lst (bs.map cU)),↥(s.1.map fr),s.2.k,s.2.bl,s.2.i,s.2.c,s.2.a,s.2.b,s.2.x])
  (λxs s=>(∀x∈xs,bs[x.2]?=oZ x.1)/\NK s.1/\Vi s.1/\s.1.length+800*xs.length<=8000/\xs.foldl (X3 bs) s.1=bC bs) ?_ ?_ bs.zipIdx ([],⟨none,none,none,none,none,none,none⟩) ⟨λx m=>TQ.mp m,λf m=>absurd m (by simp),List.Pairwise.nil,by simp;lia,(Ng bs).symm⟩
 ·rintro x xs ⟨fd,w⟩ rest ⟨hx,hs,hr,hn,e⟩ K;obtain⟨g,k⟩:=x;have hg:bs[k]?=oZ g:=hx (g,k) (by simp);have kn:∀x∈xs,bs[x.2]?=oZ x.1:=λy m=>hx y (by simp[m]);have lg:=hb g (SY hg);have gl:=lg.len;rw[VN]at e;simp only[TB]at hn;refine⟨?_,?_⟩
  ·show -(2^62)<=(((g.o.map pt).length:Nat):Int)/\(((g.o.map pt).length:Nat):Int)<2^62;rw[SV];lia
  show t6 _ (dU _ _ _ (lZ 0 (((g.o.map pt).length:Nat):Int).toNat));rw[VP,SV];have hej:ej g.o=(VF g.o.length).map λj=>(g.o.getD ((j+g.o.length-1)%g.o.length) zP,g.o.getD j zP):=rfl;unfold X3 at e;simp only at e;rw[hej,List.foldl_map]at e;generalize hF:(VF g.o.length).foldl (λf j=>F6 bs k f (g.o.getD ((j+g.o.length-1)%g.o.length) zP,g.o.getD j zP)) fd=F at e;refine cW (f:=λi:Nat=>L2.T.int ((0:Int)+(i:Int))) (λs:List Fr×S6=>[⇑(.lst (bs.map cU)),↥(s.1.map fr),↑(k:Int),⇑(cU g),s.2.i,s.2.c,s.2.a,s.2.b,s.2.x])
   (λjs s=>(∀j∈js,j<g.o.length)/\NK s.1/\Vi s.1/\s.1.length+130*js.length+800*xs.length<=8000/\js.foldl (λf j=>F6 bs k f (g.o.getD ((j+g.o.length-1)%g.o.length) zP,g.o.getD j zP)) s.1=F) ?_ ?_ (VF g.o.length) (fd,w) ⟨λj m=>VL.mp m,hs,hr,by rw[ZY];simp only;lia,hF⟩
  ·rintro i js ⟨fd,w⟩ aEA ⟨hj,hs,hr,hn,e2⟩ K2;have hi:i<g.o.length:=hj i (by simp);have hjs:∀j∈js,j<g.o.length:=λj m=>hj j (by simp[m]);simp only[VN]at e2;simp only[TB]at hn;obtain⟨p,hp,ap⟩:=vU (f:=pt) hi;have hq:g.o[i]?=oZ g.o[i]:=SX hi;have eE:(g.o.getD ((i+g.o.length-1)%g.o.length) zP,g.o.getD i zP)=(p,g.o[i]):=by
    rw[TV,hp,TV,hq];rfl
   rw[eE]at e2;generalize g.o[i]=q at *;have mz:(p,q)∈zr g.o:=lg.dd (by rw[<-eE];exact SS.mpr ⟨i,VL.mpr hi,rfl⟩);obtain⟨ha,hb',ne⟩:Pb p/\Pb q/\p≠q:=lg.ed mz;have e0:(0:Int)+(i:Int)=(i:Int):=⋯
   show o1 (k8 (g.o.map pt) ((0:Int)+(i:Int)-1)) _;rw[e0,ap];show o1 (k8 (g.o.map pt) (i:Int)) _;rw[kQ hq];refine⟨bs,(k:Int),p,q,rfl,⋯,λx m=>⟨(hb x m).len.2,(hb x m).pb⟩,ha,hb',ne,?_⟩;have cz:=M8 hb (k:=k) ha hb' ne;have cl:=Hv hl hb k ha hb' ne;unfold F6 at e2;simp only at e2;generalize hF2:(gC bs k p q).foldl (λf c=>i5 f (cO p q c).1) fd=F2 at e2;generalize gC bs k p q=C at cz cl hF2⊢;show t6 _ (dU _ _ _ (C.map fr));refine cW (f:=fr) (λs:List Fr×Option U×Option U=>[⇑(.lst (bs.map cU)),↥(s.1.map fr),↑(k:Int),⇑(cU g),↑(i:Int),s.2.1,⇑(pt p),⇑(pt q),s.2.2])
    (λC' s=>(∀c∈C',bL c/\sz c<=400)/\NK s.1/\Vi s.1/\s.1.length+C'.length+130*js.length+800*xs.length<=8000/\C'.foldl (λf c=>i5 f (cO p q c).1) s.1=F2) ?_ ?_ C (fd,w.c,w.x) ⟨cz,hs,hr,by simp only;lia,hF2⟩
   ·rintro c C' ⟨fd,v7,v8⟩ aJD ⟨hc,hs,hr,hn,e3⟩ K3;obtain⟨c1,c2⟩:=hc c (by simp);have zq:∀c∈C',bL c/\sz c<=400:=λy m=>hc y (by simp[m]);rw[VN]at e3;simp only[TB]at hn;obtain⟨x1,x2⟩:=QV ha hb' c1 c2;refine⟨p,q,c,rfl,ha,hb',c1,⋯,?_⟩;have hn5:Kv fd:=λf m=>(hs f m).1;obtain⟨i1,i2,i3,i4⟩:=qD (xs:=fd) x1 hn5 hr;have yo:NK (i5 fd (cO p q c).1):=λf m=>by
     rcases(i3 f).mp m with rfl|m
     ·exact⟨x1,x2⟩
     ·exact hs f m
    have dd:L2.Ot (fd.map fr)<=50:=VE (rW (n:=1) (λ_=>kE rfl) fd) ∅;refine⟨dd,?_⟩;show if(!(Yb (fr (cO p q c).1) (fd.map fr)))=true then _ else _;rw[Yc]
    by_cases cc:(cO p q c).1∈fd
    ·rw[oY cc,oW ∅];have e:i5 fd (cO p q c).1=fd:=by unfold i5;rw[oV cc]
     rw[e]at e3;exact K3 (fd,⇑(fr c),⇑(fr (cO p q c).1)) ⟨zq,hs,hr,by simp only;lia,e3⟩
    ·rw[oX cc,oV ∅];refine⟨rfl,?_⟩;show gF _ _ _ (fd.map fr) _ _;refine jY (f:=fr) (h:=fr) (lV · (cO p q c).1) (λ(v:Option U)a'=>[v,⇑(fr (cO p q c).1),↥a']) fd none [] (by simp;lia) (λx m v a' yf ha K'=>?_) λv=>?_
     ·obtain⟨y1,y2⟩:=hs x m;have kk:=K' (⇑(fr x));unfold lV at kk;refine⟨_,_,rfl,y1,x1,⋯,?_⟩;show if decide ((aQ x (cO p q c).1).1<0)=true then _ else _
      by_cases c2:(aQ x (cO p q c).1).1<0
      ·rw[oY c2,oV rfl];rw[oY c2,oV rfl]at kk;exact⟨ha,kk⟩
      ·rw[oX c2,oW ∅];rw[oX c2,oW ∅]at kk;exact kk
     ·refine⟨a9 (λ_=>rfl) _,?_⟩;have le:=VV (lV · (cO p q c).1) fd;have ec:(([]++(fd.filter (lV · (cO p q c).1)).map fr).length:Int)=((fd.filter (lV · (cO p q c).1)).length:Int):=by rw[VO,SV]
      refine(?_:0<=(([]++(fd.filter (lV · (cO p q c).1)).map fr).length:Int)/\(([]++(fd.filter (lV · (cO p q c).1)).map fr).length:Int)<=((fd.map fr).length:Int)/\(fd.map fr).length<9000/\_);refine⟨⋯,by rw[ec,SV];lia,by rw[SV];lia,?_⟩;have ei:(fd.map fr).take (([]++(fd.filter (lV · (cO p q c).1)).map fr).length:Int).toNat++fr (cO p q c).1::(fd.map fr).drop (([]++(fd.filter (lV · (cO p q c).1)).map fr).length:Int).toNat=(i5 fd (cO p q c).1).map fr:=by
       rw[ec,VP];unfold i5;rw[oW cc,US,TH,XI,ZV]
      have fin:=K3 (i5 fd (cO p q c).1,⇑(fr c),⇑(fr (cO p q c).1)) ⟨zq,yo,i2,by simp only;lia,e3⟩;simp only at fin;rw[<-ei]at fin;exact fin
   ·rintro⟨fd,v7,v8⟩ ⟨_,hs,hr,hn,e3⟩;have e3:fd=F2:=e3;rw[<-e3]at e2;exact K2 (fd,⟨w.k,w.bl,↑(i:Int),⇑(pt p),⇑(pt q),v7,v8⟩) ⟨hjs,hs,hr,by simp only[UR]at hn;simp only;lia,e2⟩
  ·rintro⟨fd,w⟩ ⟨_,hs,hr,hn,e2⟩;have e2:fd=F:=e2;rw[<-e2]at e;exact K (fd,⟨↑(k:Int),⇑(cU g),w.i,w.a,w.b,w.c,w.x⟩) ⟨kn,hs,hr,by simp only[UR]at hn;simp only;lia,e⟩
 ·rintro⟨fd,w⟩ ⟨_,hs,_,_,e⟩;have e:fd=bC bs:=e;rw[<-e]at z;exact⟨a9 (λ_=>rfl) _,z⟩
theorem J9(hx:bL x)(sx:sz x<=900)(ha:Pb e.1)(hb:Pb e.2)(z:(aQ e.2.1 e.1.1).1≠0):sz (sO (aQ x e.1.1) (aQ e.2.1 e.1.1))<=1000/\bL (sO (aQ x e.1.1) (aQ e.2.1 e.1.1))/\sz (yS x e)<=1100/\bL (yS x e):=by
 have s1:=gZ hx ha.v.x;have s2:=gZ hb.v.x ha.v.x;have n1:=aR hx ha.v.x;have s3:=Kb n1 z;have n3:=u7 n1 z;have a1:=ha.v.sx;have a2:=ha.v.sy;have b1:=hb.v.sx;have b2:=hb.v.sy;have n4:=aR hb.v.y ha.v.y;have s4:=gZ hb.v.y ha.v.y;have s5:=fT n4 n3;have s6:=Gm ha.v.y (aW n4 n3);exact⟨⋯,n3,by unfold yS cO;simp only;lia,eC ha.v.y (aW n4 n3)⟩
theorem CT(hx:bL x)(h1:NP e.1)(h2:NP e.2)(c:Dc x e=true):(aQ e.2.1 e.1.1).1≠0:=(Gw hx h1 h2 ((Ld hx h1 h2).mp c)).1
theorem DA{α:Type}{f:α->L2.T}(xs:List α):iP (.lst (xs.map f)) (.lst [])=xs.isEmpty:=by
 cases xs with
 |nil=>rfl
 |cons x xs=>rfl
def BQ:iU:=λas Q=>∃(g:eJ)(x:Fr),as=[.v (cU g),.v (fr x)]/\LB 400 g/\bL x/\sz x<=900/\((jV g x=[]/\Q (.v .non) [])\/∃u v,jV g x=[u,v]/\Q (.l [fr (jL u v).1,fr (jL u v).2]) [])
abbrev uR(P w K mg base):=(~~~Fn) 5 "_law_span_at" ["_law_block","_law_x"] (aU K BQ)
abbrev qN:dh:=top 64
theorem jM:aI ["_law_block","_law_x","_law_at","_law_found","_law_spots","_law_a","_law_b","_law_share"] ["_law_block","_law_x"] (aC qN):=iQ
theorem Jc(F:eO K "_law_span_at" "_law_span_at" qN f fd)(TX:Txt mg)(kd: ~~~gM)(pg: ~~~wU)(vh: ~~~Ku):(~~~bG) fJ 5 f fd ["_law_block","_law_x"] (aU K BQ):=by
 refine F.okU jM (λhr=>(aB (gJ (i:=3) (j:=4) rfl jM.nd rfl rfl ∅ rfl rfl (f2 (cH gG) (fQ 0)) rfl) (aB (eS PassesOwn.never rfl (iY rfl TX.n_range (f1 (gH rfl rfl TX.n_len (f1 (fv 4))))) (fG 2 jM.nd) (aB (gJ (i:=5) (j:=6) rfl jM.nd rfl rfl ∅ rfl rfl (f2 (fX (fv 4) (aY i8 (fv 2) aA)) (fX (fv 4) (fv 2))) rfl) (aE (dG (fP e8 (aM aS (fX (fK kd (f2 (fQ 5) (fv 1))) aA) (fX (fK kd (f2 (fQ 6) (fv 1))) aA)) aA) (aB (fS 7 jM.nd (fK pg (f2 (fK kd (f2 (fv 1) (fQ 5))) (fK kd (f2 (fQ 6) (fQ 5)))))) (aE (e7 (hV rfl (fv 3) (f1 (fX (fK vh (f3 (fv 5) (fv 6) (fv 7))) aA)))))) cG)))) (aB (dG (Pn rfl hr (fv 3) (cH gG) (cN _)) (aE (aP nD)) cG) (aE (aP (r8 (fP e8 (fX (fK kd (f2 (fQ 3) (fQ 3))) aA) aA) (fv 3) (O0 rfl (fv 3) (d9 (xI aA)))))))))) ?_;rintro as Q ⟨g,x,rfl,lg,hx,sx,q⟩;have gl:=lg.len;refine⟨?_,?_⟩
 ·show -(2^62)<=(((g.o.map pt).length:Nat):Int)/\(((g.o.map pt).length:Nat):Int)<2^62;rw[SV];lia
 show t6 _ (dU _ _ _ (lZ 0 (((g.o.map pt).length:Nat):Int).toNat));rw[VP,SV];refine lE (λi E=>∃v4 v5 v6 v7:Option U,E=[⇑(cU g),⇑(fr x),v4,↥((((ej g.o).take i).filter (Dc x)).map λe=>fr (yS x e)),⇑(.tup (g.o.map pt)),v5,v6,v7]) ⟨_,_,_,_,rfl⟩ ?_ ?_
 ·rintro i t yf E hi ⟨v4,v5,v6,v7,rfl⟩ KK;obtain⟨xh,rfl⟩:=yB hi;obtain⟨p,hp,ap⟩:=vU (f:=pt) xh;have hq:g.o[i]?=oZ g.o[i]:=SX xh;generalize g.o[i]=r at hq;have h3:(ej g.o)[i]?=oZ (p,r):=by
   unfold ej;rw[TR,XH xh];show oZ (g.o.getD _ zP,g.o.getD i zP)=oZ (p,r);rw[TV,hp,TV,hq];rfl
  obtain⟨ha,hb,ne⟩:Pb p/\Pb r/\p≠r:=lg.ed (lg.dd (SY h3));have e0:(0:Int)+(i:Int)=(i:Int):=⋯
  show o1 (k8 (g.o.map pt) ((0:Int)+(i:Int)-1)) _;rw[e0,ap];show o1 (k8 (g.o.map pt) (i:Int)) _;rw[kQ hq];have a1:=ha.v.sx;have b1:=hb.v.sx;refine⟨p.1,x,rfl,ha.v.x,hx,⋯,r.1,x,rfl,hb.v.x,hx,⋯,?_⟩;have s1:=gZ ha.v.x hx;have s2:=gZ hb.v.x hx;refine⟨fN (e:=7900) (pl (fZ _) ⋯) (pl (fZ _) ⋯) ∅,?_⟩;show if decide ((aQ p.1 x).1*(aQ r.1 x).1<0)=true then _ else _;have ln:(((ej g.o).take i).filter (Dc x)).length<=6:=VE (VV _ _) (by rw[UP,tQ];lia);have nx:(((ej g.o).take (i+1)).filter (Dc x)).map (λe=>fr (yS x e))=(((ej g.o).take i).filter (Dc x)).map (λe=>fr (yS x e))++(if Dc x (p,r)=true then[fr (yS x (p,r))]else[]):=by
   rw[<-Cb h3,YI,US]
   congr 1
   by_cases c:Dc x (p,r)=true
   ·rw[oV c,UM c];rfl
   ·rw[oW c,VC c];rfl
  have cb:Dc x (p,r)=decide ((aQ p.1 x).1*(aQ r.1 x).1<0):=rfl;rw[<-cb]
  by_cases c:Dc x (p,r)=true
  ·rw[oV c];rw[oV c]at nx;have z:=CT hx ha.np hb.np c;obtain⟨y1,y2,y3,y4⟩:=J9 (e:=(p,r)) hx sx ha hb z;have s3:=gZ hx ha.v.x;have s4:=gZ hb.v.x ha.v.x;refine⟨x,p.1,rfl,hx,ha.v.x,⋯,r.1,p.1,rfl,hb.v.x,ha.v.x,⋯,_,_,rfl,aR hx ha.v.x,aR hb.v.x ha.v.x,z,⋯,?_⟩;refine⟨p,r,_,rfl,ha,hb,y2,y1,?_⟩;refine⟨(show _<=9000 by rw[TC,SV,VQ];lia),?_⟩;have:=KK [⇑(cU g),⇑(fr x),↑(i:Int),↥((((ej g.o).take (i+1)).filter (Dc x)).map λe=>fr (yS x e)),⇑(.tup (g.o.map pt)),⇑(pt p),⇑(pt r),⇑(fr (sO (aQ x p.1) (aQ r.1 p.1)))] ⟨_,_,_,_,rfl⟩;rw[nx]at this;exact this
  ·rw[oW c];rw[oW c,UH]at nx;exact KK _ ⟨↑(i:Int),⇑(pt p),⇑(pt r),v7,by rw[nx]⟩
 ·rintro E ⟨v4,v5,v6,v7,rfl⟩;have e:(ej g.o).take (lZ 0 g.o.length).length=ej g.o:=WJ (by rw[tQ];simp[lZ]);rw[e];have eL:((ej g.o).filter (Dc x)).map (λe=>fr (yS x e))=(jV g x).map fr:=by unfold jV;rw[UA];rfl
  rw[eL];refine⟨by rcases q with⟨e1,_⟩|⟨u,v,e1,_⟩<;>rw[e1]<;>exact kE rfl,?_⟩;show if iP (.lst ((jV g x).map fr)) (.lst [])=true then _ else _;rw[DA];obtain⟨e1,q⟩|⟨u,v,e1,q⟩:=q
  ·rw[e1];rw[oV (show([]:List Fr).isEmpty=true from rfl)];exact⟨rfl,q⟩
  ·rw[e1];rw[oW (show ¬(([u,v]:List Fr).isEmpty=true) by simp)];have xf:∀w∈jV g x,bL w/\sz w<=1100:=λw m=>by
    obtain⟨e,me,rfl⟩:=SS.mp m;obtain⟨m1,m2⟩:=TL.mp me;obtain⟨ha,hb,_⟩:=lg.ed (lg.dd m1);obtain⟨_,_,y3,y4⟩:=J9 (e:=e) hx sx ha hb (CT hx ha.np hb.np m2);exact⟨y4,y3⟩
   rw[e1]at xf;obtain⟨u1,u2⟩:=xf u (by simp);obtain⟨v1,v2⟩:=xf v (by simp);refine⟨u,v,rfl,u1,v1,⋯,?_⟩;show if decide ((aQ u v).1<0)=true then _ else _;unfold jL at q
   by_cases c:(aQ u v).1<0
   ·rw[oY c,oV rfl];rw[oV c]at q;exact⟨rfl,q⟩
   ·rw[oX c,oW ∅];rw[oW c]at q;exact⟨rfl,rfl,q⟩
def y9(w:Fr×Fr):L2.T:=.lst [fr w.1,fr w.2]
structure UO(V B:Nat)(f:Fr):Prop where
 m:∃m,MU V f m/\m.natAbs<=B
def NY(V B:Nat)(xs:List (Fr×Fr)):Prop:=∀w∈xs,(bL w.1/\sz w.1<=1100/\UO V B w.1)/\bL w.2/\sz w.2<=1100/\UO V B w.2
theorem X5(lg:LB 400 g)(hx:bL x)(sx:sz x<=900):∀w∈jV g x,bL w/\sz w<=1100:=λw m=>by
 obtain⟨e,me,rfl⟩:=SS.mp m;obtain⟨m1,m2⟩:=TL.mp me;obtain⟨ha,hb,_⟩:=lg.ed (lg.dd m1);obtain⟨_,_,y3,y4⟩:=J9 (e:=e) hx sx ha hb (CT hx ha.np hb.np m2);exact⟨y4,y3⟩
def L3(w:Fr×Fr)(a:Fr×Fr):Bool:=lV a.1 w.1
theorem Yf(acc:List (Fr×Fr))(w y:Fr×Fr):y∈kW acc w->y=w\/y∈acc:=λm=>by
 unfold kW at m;obtain m|m:=TY.mp m
 ·exact .inr (VH m)
 ·obtain m|m:=SU.mp m
  ·exact .inl m
  ·exact .inr (List.mem_of_mem_drop m)
theorem Ye(acc:List (Fr×Fr))(w:Fr×Fr):(kW acc w).length=acc.length+1:=by
 unfold kW;have:=VV (λa:Fr×Fr=>lV a.1 w.1) acc;rw[TC,TB,UP,WL]
 lia
def QP:Option Fr->L2.T
 |none=>.non
 |some t=>fr t
theorem Np{V B:Nat}(h:UO V B f)(k:UO V B g):UO V (2*B) (aQ f g):=by
 obtain⟨m,a,b⟩:=h.m;obtain⟨n,c,d⟩:=k.m;exact⟨_,a.sub c,by omega⟩
theorem Nq{V B k:Nat}(v0:0<V)(vV:V<2^1500)(vB:B<2^1400)(h:UO V (2*B*k) f)(hg:UO V (2*B) g)(hk:k<10):bL (fM f g)/\sz (fM f g)<=1500/\UO V (2*B*(k+1)) (fM f g):=by
 obtain⟨m,a,b⟩:=h.m;obtain⟨n,c,d⟩:=hg.m;have e:2*B*(k+1)=2*B*k+2*B:=by rw[Nat.mul_add,Nat.mul_one]
 have le:(m+n).natAbs<=2*B*(k+1):=by omega
 have le2:2*B*(k+1)<=2*B*10:=VR (TN _) (by omega);have p:20*2^1400<2^1500:=by decide +kernel
 exact⟨(a.add c).n,(a.add c).sz v0 vV (by omega) ∅,⟨_,a.add c,le⟩⟩
structure S8 where
 b:Option U
 t:Option U
 s:Option U
 l:Option U
 h:Option U
 a:Option U
def G5:iU:=λas Q=>∃(bs:List eJ)(x:Fr)(V B:Nat),as=[.v (.lst (bs.map cU)),.v (fr x)]/\bs.length<=10/\(∀b∈bs,LB 400 b)/\bL x/\sz x<=900/\val x∉(bC bs).map val/\0<V/\V<2^1500/\B<2^1400/\(∀g∈bs,∀w∈jV g x,UO V B w)/\(bL (j8 bs x)->sz (j8 bs x)<=1500->UO V (2*B*10) (j8 bs x)->Q (.v (fr (j8 bs x))) [])
abbrev uQ(P w K mg base):=(~~~Fn) 6 "_law_covered" ["_law_some","_law_x"] (aU K G5)
abbrev qL:dh:=top 65
theorem cV:aI ["_law_some","_law_x","_law_block","_law_top","_law_spans","_law_total","_law_span","_law_low","_law_high","_law_at"] ["_law_some","_law_x"] (aC qL):=iQ
theorem Ja(F:eO K "_law_covered" "_law_covered" qL f fd)(TX:Txt mg)(tf: ~~~uR)(kd: ~~~gM)(oh: ~~~rF):(~~~bG) fJ 6 f fd ["_law_some","_law_x"] (aU K G5):=by
 refine F.okU cV (λhr=>(aB (gJ (i:=4) (j:=5) rfl cV.nd rfl rfl ∅ rfl rfl (f2 (cH gG) (aO (f2 aA aA))) rfl) (aB (eS PassesOwn.never rfl (cS rfl (fv 0)) (fG 2 cV.nd) (aB (fS 6 cV.nd (fK tf (f2 (fv 2) (fv 1)))) (aE (dG (Dq (fv 6) (cN _)) (aB (fS 9 cV.nd (Xf (N':=["_law_one","_law_span"]) (t:=1) (cap:=[(6,false)]) rfl rfl TX.n_len rfl (bI.of rfl) rfl ∅ (cS rfl (fv 4)) (λ_ _ _ _=>(fH 0)) (λ_ _ _ _=>(fP e8 (fX (fK kd (f2 (fQ 0) (fQ 1))) aA) aA)) (λ_ _ _ _=>(fv 0)))) (aE (e7 (Lm rfl (fv 4) (f2 (fv 9) (fv 6)))))) cG)))) (aB (fS 3 cV.nd nD) (aB (eS PassesOwn.never rfl (cS rfl (fv 4)) (O1 (n:=2) rfl rfl (aF (fG 7 cV.nd) (aF (fG 8 cV.nd) bS))) (aB (dG (zI (tV (Dq (fv 3) (cN _)) (o7 (fP e8 (fX (fK kd (f2 (fv 7) (fv 3))) aA) aA)))) (aE (fS 7 cV.nd (fv 3))) cG) (aE (dG (fP sN (fX (fK kd (f2 (fv 8) (fv 7))) aA) aA) (aE (gJ (i:=5) (j:=3) rfl cV.nd rfl rfl ∅ rfl rfl (f2 (fK oh (f2 (fv 5) (fK kd (f2 (fv 8) (fv 7))))) (fv 8)) rfl)) cG)))) (aE (aP (fv 5)))))))) ?_;rintro as Q ⟨bs,x,V,B,rfl,hl,hb,hx,sx,nx,v0,vV,vB,hU,q⟩;show dU _ _ _ (bs.map cU) _;refine cW (f:=cU) (λs:List (Fr×Fr)×S8=>[⇑(.lst (bs.map cU)),⇑(fr x),s.2.b,s.2.t,↥(s.1.map y9),⇑(fr (0,1)),s.2.s,s.2.l,s.2.h,s.2.a])
  (λcs s=>(∀g∈cs,g∈bs)/\NY V B s.1/\s.1.length+cs.length<=10/\cs.foldl (uI x) s.1=jF bs x) ?_ ?_ bs ([],⟨none,none,none,none,none,none⟩) ⟨λg m=>m,λw m=>absurd m (by simp),by simp only[UR];lia,rfl⟩
 ·rintro g cs ⟨acc,w⟩ rest ⟨hc,hs,hn,e⟩ K;have mg:=hc g (by simp);have kn:∀g∈cs,g∈bs:=λy m=>hc y (by simp[m]);rw[VN]at e;simp only[TB]at hn;refine⟨g,x,rfl,hb g mg,hx,sx,?_⟩;have ss:=X5 (hb g mg) hx sx;have su:=hU g mg;obtain⟨e1,eP,_⟩|⟨u,v,e1,_,eP,lt,⟨nu,nv⟩,_⟩:=Rj hb mg hx nx
  ·refine .inl ⟨e1,?_⟩;have e':uI x acc g=acc:=by unfold uI;rw[eP]
   rw[e']at e;exact K (acc,⟨⇑(cU g),w.t,⇑(.non),w.l,w.h,w.a⟩) ⟨kn,hs,by simp only;lia,e⟩
  ·refine .inr ⟨_,_,e1,?_⟩;have e':uI x acc g=kW acc (jL (yS x u) (yS x v)):=by unfold uI;rw[eP]
   rw[e']at e;rw[e1]at ss su;have u1:=ss _ (VX);have u2:=su _ (VX);have v1:=ss (yS x v) (by simp);have v2:=su (yS x v) (by simp);have nw:(bL (jL (yS x u) (yS x v)).1/\sz (jL (yS x u) (yS x v)).1<=1100/\UO V B (jL (yS x u) (yS x v)).1)/\bL (jL (yS x u) (yS x v)).2/\sz (jL (yS x u) (yS x v)).2<=1100/\UO V B (jL (yS x u) (yS x v)).2:=by
    unfold jL
    split
    ·exact⟨⟨u1.1,u1.2,u2⟩,v1.1,v1.2,v2⟩
    ·exact⟨⟨v1.1,v1.2,v2⟩,u1.1,u1.2,u2⟩
   generalize jL (yS x u) (yS x v)=r at *;obtain⟨⟨r1,r2,r3⟩,r4,r5,r6⟩:=nw;refine⟨rfl,?_⟩;show gF _ _ _ (acc.map y9) _ _;refine jY (f:=y9) (h:=y9) (L3 r) (λ(v:Option U)a'=>[v,⇑(y9 r),↥a']) acc none [] (by simp;lia) (λa m v a' yf ha K'=>?_) λv=>?_
   ·obtain⟨⟨a1,a2,_⟩,_⟩:=hs a m;have kk:=K' (⇑(y9 a));unfold L3 lV at kk;refine⟨_,_,rfl,a1,r1,⋯,?_⟩;show if decide ((aQ a.1 r.1).1<0)=true then _ else _
    by_cases c2:(aQ a.1 r.1).1<0
    ·rw[oY c2,oV rfl];rw[oY c2,oV rfl]at kk;exact⟨ha,kk⟩
    ·rw[oX c2,oW ∅];rw[oX c2,oW ∅]at kk;exact kk
   ·have le:=VV (L3 r) acc;have ec:(([]++(acc.filter (L3 r)).map y9).length:Int)=((acc.filter (L3 r)).length:Int):=by rw[VO,SV]
    refine(?_:0<=(([]++(acc.filter (L3 r)).map y9).length:Int)/\(([]++(acc.filter (L3 r)).map y9).length:Int)<=((acc.map y9).length:Int)/\(acc.map y9).length<9000/\_);refine⟨⋯,by rw[ec,SV];lia,by rw[SV];lia,?_⟩;have ei:(acc.map y9).take (([]++(acc.filter (L3 r)).map y9).length:Int).toNat++y9 r::(acc.map y9).drop (([]++(acc.filter (L3 r)).map y9).length:Int).toNat=(kW acc r).map y9:=by
     rw[ec,VP];unfold kW;rw[US,TH,XI,ZV];rfl
    have il:=Ye acc r;have fin:=K (kW acc r,⟨⇑(cU g),w.t,⇑(y9 r),w.l,w.h,↑(([]++(acc.filter (L3 r)).map y9).length:Int)⟩) ⟨kn,λy m=>by
     obtain rfl|m:=Yf acc r y m
     ·exact⟨⟨r1,r2,r3⟩,r4,r5,r6⟩
     ·exact hs y m,by simp only;lia,e⟩
    simp only at fin;rw[<-ei]at fin;exact fin
 ·rintro⟨acc,w⟩ ⟨_,hs,hn,e⟩;have e:acc=jF bs x:=e;have q':(acc.foldl Vb ((0,1),none)).1=j8 bs x:=by rw[e];rfl
  show t6 _ (dU _ _ _ (acc.map y9));have hn:acc.length<=10:=by simp only[UR]at hn;lia
  have h00:bL ((0,1):Fr)/\sz ((0,1):Fr)<=1500/\UO V (2*B*0) ((0,1):Fr):=⟨bX 0,by have:=X7;lia,⟨⟨0,⟨bX 0,by rw[dX];grind⟩,VZ _⟩⟩⟩;refine cW (f:=y9) (λs:(Fr×Option Fr)×Option U×Option U×Nat=>[⇑(.lst (bs.map cU)),⇑(fr x),w.b,⇑(QP s.1.2),⇑(.lst (acc.map y9)),⇑(fr s.1.1),w.s,s.2.1,s.2.2.1,w.a])
   (λxs s=>NY V B xs/\(bL s.1.1/\sz s.1.1<=1500/\UO V (2*B*s.2.2.2) s.1.1)/\(∀t,s.1.2=oZ t->bL t/\sz t<=1100/\UO V B t)/\s.2.2.2+xs.length<=10/\(xs.foldl Vb s.1).1=j8 bs x) ?_ ?_ acc (((0,1),none),w.l,w.h,0) ⟨hs,h00,λt q=>(nomatch q),(by lia:0+acc.length<=10),q'⟩
  ·rintro z xs ⟨⟨om,top⟩,v7,v8,k⟩ rest ⟨hz,⟨t1,t2,tu⟩,ht,hn,e3⟩ K;obtain⟨⟨z1,z2,z3⟩,z4,z5,z6⟩:=hz z (by simp);have kn:NY V B xs:=λy m=>hz y (by simp[m]);rw[VN]at e3;simp only at t1 t2 tu ht hn;cases top with
   |none=>
    rw[show Vb (om,none) z=(if 0<(aQ z.2 z.1).1 then(fM om (aQ z.2 z.1),oZ z.2)else(om,none))from rfl]at e3;have h2:0<(aQ z.2 z.1).1\/¬0<(aQ z.2 z.1).1:=Decidable.em _;refine⟨z.2,z.1,rfl,z4,z1,by have:=z2;lia,?_⟩;show if decide (0<(aQ z.2 z.1).1)=true then _ else _;obtain c2|c2:=h2
    ·rw[oY c2,oV rfl];rw[oV c2]at e3;have us:=Np z6 z3;have nn:=aR z4 z1;have sd:=gZ z4 z1;have ye:=z2;refine⟨z.2,z.1,rfl,z4,z1,⋯,om,_,rfl,t1,nn,⋯,?_⟩;obtain⟨n1,n2,n3⟩:=Nq v0 vV vB tu us (by simp only[TB]at hn;lia);exact K ((fM om (aQ z.2 z.1),oZ z.2),⇑(fr z.1),⇑(fr z.2),k+1) ⟨kn,⟨n1,n2,n3⟩,λt q=>by cases q;exact⟨z4,z5,z6⟩,by simp only[TB]at hn;simp only;lia,e3⟩
    ·rw[oX c2,oW ∅];rw[oW c2]at e3;exact K ((om,none),⇑(fr z.1),⇑(fr z.2),k) ⟨kn,⟨t1,t2,tu⟩,ht,by simp only[TB]at hn;simp only;lia,e3⟩
   |some t=>
    obtain⟨y1,y2,y3⟩:=ht t rfl;refine⟨z.1,t,rfl,z1,y1,⋯,?_⟩;show if decide ((aQ z.1 t).1<0)=true then _ else _;rw[show Vb (om,oZ t) z=(if 0<(aQ z.2 (if lV z.1 t=true then t else z.1)).1 then(fM om (aQ z.2 (if lV z.1 t=true then t else z.1)),oZ z.2)else(om,oZ t))from rfl]at e3
    by_cases c:(aQ z.1 t).1<0
    ·rw[oY c,oV rfl];rw[oV (show lV z.1 t=true from oY c)]at e3;have h2:0<(aQ z.2 t).1\/¬0<(aQ z.2 t).1:=Decidable.em _;refine⟨z.2,t,rfl,z4,y1,by have:=y2;lia,?_⟩;show if decide (0<(aQ z.2 t).1)=true then _ else _;obtain c2|c2:=h2
     ·rw[oY c2,oV rfl];rw[oV c2]at e3;have us:=Np z6 y3;have nn:=aR z4 y1;have sd:=gZ z4 y1;have ye:=y2;refine⟨z.2,t,rfl,z4,y1,⋯,om,_,rfl,t1,nn,⋯,?_⟩;obtain⟨n1,n2,n3⟩:=Nq v0 vV vB tu us (by simp only[TB]at hn;lia);exact K ((fM om (aQ z.2 t),oZ z.2),⇑(fr t),⇑(fr z.2),k+1) ⟨kn,⟨n1,n2,n3⟩,λt q=>by cases q;exact⟨z4,z5,z6⟩,by simp only[TB]at hn;simp only;lia,e3⟩
     ·rw[oX c2,oW ∅];rw[oW c2]at e3;exact K ((om,oZ t),⇑(fr t),⇑(fr z.2),k) ⟨kn,⟨t1,t2,tu⟩,ht,by simp only[TB]at hn;simp only;lia,e3⟩
    ·rw[oX c,oW ∅];rw[oW (show ¬lV z.1 t=true fromλh=>c (of_decide_eq_true h))]at e3;have h2:0<(aQ z.2 z.1).1\/¬0<(aQ z.2 z.1).1:=Decidable.em _;refine⟨z.2,z.1,rfl,z4,z1,by have:=z2;lia,?_⟩;show if decide (0<(aQ z.2 z.1).1)=true then _ else _;obtain c2|c2:=h2
     ·rw[oY c2,oV rfl];rw[oV c2]at e3;have us:=Np z6 z3;have nn:=aR z4 z1;have sd:=gZ z4 z1;have ye:=z2;refine⟨z.2,z.1,rfl,z4,z1,⋯,om,_,rfl,t1,nn,⋯,?_⟩;obtain⟨n1,n2,n3⟩:=Nq v0 vV vB tu us (by simp only[TB]at hn;lia);exact K ((fM om (aQ z.2 z.1),oZ z.2),⇑(fr z.1),⇑(fr z.2),k+1) ⟨kn,⟨n1,n2,n3⟩,λt q=>by cases q;exact⟨z4,z5,z6⟩,by simp only[TB]at hn;simp only;lia,e3⟩
     ·rw[oX c2,oW ∅];rw[oW c2]at e3;exact K ((om,oZ t),⇑(fr z.1),⇑(fr z.2),k) ⟨kn,⟨t1,t2,tu⟩,ht,by simp only[TB]at hn;simp only;lia,e3⟩
  ·rintro⟨⟨om,top⟩,v7,v8,k⟩ ⟨_,⟨t1,t2,tu⟩,_,hk,e3⟩;have e3:om=j8 bs x:=e3;have hk:k<=10:=by simp only[UR]at hk;lia
   rw[<-e3]at q;obtain⟨m,a,b⟩:=tu.m;exact⟨rfl,q t1 t2 ⟨m,a,VE b (VR (TN _) hk)⟩⟩
end
theorem JX{P1 P2 d1 d2 A1 A2 e1 e2:Int}(ha:NP a)(hb:NP b)(hc:NP c)(hd:NP d)(h:CC (vq a) (vq b) P1 P2 d1 d2)(k:CC (vq c) (vq d) A1 A2 e1 e2)(ne:0<aN (aK (vq b) (vq a)) (aK (vq b) (vq a))):∀s∈jX a b c d,Vg U0 (cL (vq a) (vq b) (val s)):=by
 intro s m;have n1:=eT hb ha;have n2:=eT hd hc;have n3:=eT hc ha;have n4:=eT hd ha;unfold jX at m;split at m
 ·rename_i z;split at m
  ·rw[TM]at m;subst m;have v:=Nr (gX n3 n2) (gX n1 n2) z;have bz:val (jR (dP b a) (dP d c))≠0:=λq=>z ((lN (gX n1 n2)).mpr q);rw[pS n1 n2,pS n3 n2,cC hb ha,cC hd hc,cC hc ha]at v;rw[pS n1 n2,cC hb ha,cC hd hc]at bz;generalize val (sO (jR (dP c a) (dP d c)) (jR (dP b a) (dP d c)))=t at v⊢;refine Oo h k (λq=>bz ?_) ?_
   ·have e:aT (aK (vq b) (vq a)) (aK (vq d) (vq c))=fE (vq c,vq d) (vq a)-fE (vq c,vq d) (vq b):=by unfold fE aT aH aK;grind
    rw[e,q];grind
   ·unfold fE aH cL;unfold aT aK at *;grind
  ·simp at m
 ·rename_i z;have z:(jR (dP b a) (dP d c)).1=0:=by grind
  split at m
  ·simp at m
  ·rename_i z2;have z2:(jR (dP b a) (dP c a)).1=0:=by grind
   have p1:=(lN (gX n1 n2)).mp z;have p2:=(lN (gX n1 n3)).mp z2;rw[pS n1 n2,cC hb ha,cC hd hc]at p1;rw[pS n1 n3,cC hb ha,cC hc ha]at p2;have w0:(vW (dP b a) (dP b a)).1≠0:=λq=>by
    have:=(lN (nL n1 n1)).mp q;rw[Gv n1 n1,cC hb ha]at this;rw[this]at ne;grind
   have key:∀(e:Pt)(n:NP (dP e a))(he:NP e),aT (aK (vq b) (vq a)) (aK (vq e) (vq a))=0->cL (vq a) (vq b) (val (sO (vW (dP b a) (dP e a)) (vW (dP b a) (dP b a))))=vq e:=λe n he ce=>by
    have v:=Nr (nL n1 n) (nL n1 n1) w0;rw[Gv n1 n,Gv n1 n1,cC hb ha,cC he ha]at v;generalize val (sO (vW (dP b a) (dP e a)) (vW (dP b a) (dP b a)))=t at v⊢;have wn:aN (aK (vq b) (vq a)) (aK (vq b) (vq a))≠0:=λq=>by rw[q]at ne;grind
    unfold cL;unfold aT aN aK at *;refine Prod.ext ?_ ?_
    ·simp only;have:=Rat.mul_eq_zero.mp (show((vq a).1+((vq b).1-(vq a).1)*t-(vq e).1)*(((vq b).1-(vq a).1)*((vq b).1-(vq a).1)+((vq b).2-(vq a).2)*((vq b).2-(vq a).2))=0 by grind);obtain q|q:=this
     ·grind
     ·exact absurd q wn
    ·simp only;have:=Rat.mul_eq_zero.mp (show((vq a).2+((vq b).2-(vq a).2)*t-(vq e).2)*(((vq b).1-(vq a).1)*((vq b).1-(vq a).1)+((vq b).2-(vq a).2)*((vq b).2-(vq a).2))=0 by grind);obtain q|q:=this
     ·grind
     ·exact absurd q wn
   obtain rfl|m:=SU.mp m
   ·rw[key c n3 hc p2];exact kT k.x k.y
   ·rw[TM]at m;subst m;rw[key d n4 hd (by unfold aT aK at *;grind)];have kx:=k.x;have ky:=k.y;have kdx:=k.dx;have kdy:=k.dy;exact kT (m:=A1+2*e1) (n:=A2+2*e2) (by push_cast;grind) (by push_cast;grind)
theorem Y7{a d t:Rat}{P D:Int}(h:a*2=(P:Rat))(hd:d=(D:Rat))(b1:D.natAbs<=8)(b2:P.natAbs<=420)(t0:0<=t)(t1:t<=1):-((220:Nat):Rat)<a+d*t/\a+d*t<((220:Nat):Rat):=by
 have p1:(P:Rat)<=((420:Int):Rat):=by exact_mod_cast (show P<=420 by omega)
 have p2:((-420:Int):Rat)<=(P:Rat):=by exact_mod_cast (show -420<=P by omega)
 have q1:(D:Rat)<=((8:Int):Rat):=by exact_mod_cast (show D<=8 by omega)
 have q2:((-8:Int):Rat)<=(D:Rat):=by exact_mod_cast (show -8<=D by omega)
 rw[<-hd]at q1 q2
 push_cast at p1 p2 q1 q2⊢
 have r1:=Rat.mul_nonneg (show 0<=8-d by grind) t0;have r2:=Rat.mul_nonneg (show 0<=d+8 by grind) t0;constructor<;>grind
theorem HA{bs:List eJ}(hb:∀b∈bs,LB 400 b):∀f∈bC bs,UO U0 (220*U0) f:=λf mf=>by
 have mf:=((sY hb).2.2 f).mp mf;obtain⟨⟨g,k⟩,mg,mf⟩:=UC.mp mf;obtain⟨⟨a,b⟩,me,mf⟩:=UC.mp mf;obtain⟨c,mc,rfl⟩:=SS.mp mf;have hg:=TQ.mp mg;have lg:=hb g (SY hg);have mz:=lg.dd me;obtain⟨p1,p2,pn⟩:Pb a/\Pb b/\a≠b:=lg.ed mz;obtain⟨P1,P2,d1,d2,h⟩:=lg.egi mz;have C:L6 bs k a b:=⟨hb,p1,p2,pn⟩;have nc:=C.ro.n c mc;obtain⟨n,v⟩:=nN p1.np p2.np nc;have hx:=h.x;have hy:=h.y;have hdx:=h.dx;have hdy:=h.dy;have pq:Vg U0 (cL (vq a) (vq b) (val c)):=by
  obtain rfl|rfl|m:=C.ro.k c mc
  ·have e:cL (vq a) (vq b) (val (0,1))=vq a:=by rw[dX];unfold cL;exact Prod.ext (by simp only;grind) (by simp only;grind)
   rw[e];exact kT h.x h.y
  ·have e:cL (vq a) (vq b) (val (1,1))=vq b:=by rw[gN];unfold cL;exact Prod.ext (by simp only;grind) (by simp only;grind)
   rw[e];exact kT (m:=P1+2*d1) (n:=P2+2*d2) (by push_cast;grind) (by push_cast;grind)
  ·obtain⟨⟨g',j⟩,mg',m⟩:=UC.mp m;have lg':=hb g' (SY (TQ.mp mg'));split at m
   ·simp at m
   ·obtain⟨x,mx,m⟩:=UC.mp m;have mz':=lg'.dd mx;obtain⟨q1,q2,_⟩:=lg'.ed mz';obtain⟨A1,A2,e1,e2,h'⟩:=lg'.egi mz';exact JX p1.np p2.np q1.np q2.np h h' (jO p1.np p2.np pn) c m
 have v1:val (cO a b c).1=(cL (vq a) (vq b) (val c)).1:=congrArg Prod.fst v;obtain⟨m,_,e,_⟩:=pq;rw[<-v1]at e;have ab:=Y7 h.x h.dx h.b1 h.b3 (C.ro.b c mc).1 (C.ro.b c mc).2;exact⟨m,⟨n.x,e⟩,Ck e (by rw[v1];exact ab.1) (by rw[v1];exact ab.2)⟩
def V0:Nat:=U0*3360
theorem CH:0<V0:=ZM Cj ∅
theorem Y6:V0<2^740:=by
 have h:=Hf;have e:2^720*3360<2^740:=by decide +kernel
 unfold V0;lia
theorem JY(h1:UO U0 (220*U0) p.1)(h2:UO U0 (220*U0) p.2):UO (U0*2) (220*(U0*2)) (zK p)/\sz (zK p)<=900:=by
 obtain⟨m,a,b⟩:=h1.m;obtain⟨n,c,d⟩:=h2.m;have mh:MU 2 (1,2) 1:=⟨⟨∅,∅⟩,by
  have e:val (1,2)=1/2:=by show((1:Int):Rat)/((2:Int):Rat)=1/2;push_cast;rfl
  rw[e];push_cast;grind⟩
 have r:=(a.add c).mul mh;have le:((m+n)*1).natAbs<=220*(U0*2):=by omega
 have ul:=Hf;have e:440*2^720<2^900:=by decide +kernel
 exact⟨⟨_,r,le⟩,r.sz (by have:=Cj;omega) (by omega) (by omega) ∅⟩
theorem IS{d:Int}(h:d.natAbs<=8)(z:d≠0):∃q:Int,d*q=840:=by
 have:d=1\/d=2\/d=3\/d=4\/d=5\/d=6\/d=7\/d=8\/d = -1\/d = -2\/d = -3\/d = -4\/d = -5\/d = -6\/d = -7\/d = -8:=⋯
 refine⟨840/d,?_⟩;rcases this with h|h|h|h|h|h|h|h|h|h|h|h|h|h|h|h<;>subst h<;>decide
theorem QX{x:Fr}{e:Pt×Pt}{P1 P2 d1 d2:Int}(hx:UO (U0*2) (220*(U0*2)) x)(h1:NP e.1)(h2:NP e.2)(h:CC (vq e.1) (vq e.2) P1 P2 d1 d2)(c:Dc x e=true):UO V0 (220*V0) (yS x e):=by
 obtain⟨m,hm,_⟩:=hx.m;have cr:=(Ld hm.n h1 h2).mp c;obtain⟨z,ny,vy⟩:=Gw hm.n h1 h2 cr;have hv:=Nr (aR hm.n h1.x) (aR h2.x h1.x) z;obtain⟨n,v⟩:=nN h1 h2 (u7 (aR hm.n h1.x) z);have v2:val (yS x e)=(cL (vq e.1) (vq e.2) (val (sO (aQ x e.1.1) (aQ e.2.1 e.1.1)))).2:=congrArg Prod.snd v;rw[bK hm.n h1.x,bK h2.x h1.x]at hv;have s:sl (0,1) (qB e)=val e.2.1-val e.1.1:=by unfold sl aT aH aK qB vq;grind
 have tt:tE (val x,0) (0,1) (qB e)=val (sO (aQ x e.1.1) (aQ e.2.1 e.1.1)):=by
  have:tE (val x,0) (0,1) (qB e)=(val x-val e.1.1)/(val e.2.1-val e.1.1):=by
   unfold tE;rw[s];congr 1;unfold ht aT qB vq;grind
  have c1:=cr.1;rw[s]at c1;rw[this,<-hv,Rat.div_def];grind
 have t0:=cr.2.1;have t1:=cr.2.2;rw[tt]at t0 t1;have c1:=cr.1;rw[s]at c1;generalize val (sO (aQ x e.1.1) (aQ e.2.1 e.1.1))=t at *;have hx':=h.x;have hy:=h.y;have hdx:=h.dx;have hdy:=h.dy;have hme:=hm.e;have dz:d1≠0:=λq=>c1 (by have:val e.2.1-val e.1.1=((d1:Int):Rat):=hdx;rw[this,q];rfl);obtain⟨q,hq⟩:=IS h.b1 dz;have xi:(d1:Rat)*(q:Rat)=840:=by exact_mod_cast hq
 have e2:val (yS x e)*((V0:Nat):Rat)=((P2*(U0:Int)*1680+d2*(2*m-2*P1*(U0:Int))*q:Int):Rat):=by
  rw[v2];unfold cL V0;simp only;unfold vq at hx' hy hdx hdy⊢;simp only at hx' hy hdx hdy⊢
  push_cast at hme⊢
  rw[hdy];have k1:t*840=(val x-val e.1.1)*(q:Rat):=by rw[<-hv,hdx,<-xi];grind
  grind
 have ab:=Y7 h.y h.dy h.b2 h.b4 (Rat.le_of_lt t0) (Rat.le_of_lt t1);exact⟨_,⟨ny,e2⟩,Ck e2 (by rw[v2];exact ab.1) (by rw[v2];exact ab.2)⟩
theorem HD(lg:LB 400 g)(hx:UO (U0*2) (220*(U0*2)) x):∀w∈jV g x,UO V0 (220*V0) w:=λw m=>by
 obtain⟨e,me,rfl⟩:=SS.mp m;obtain⟨m1,m2⟩:=TL.mp me;have mz:=lg.dd m1;obtain⟨p1,p2,_⟩:=lg.ed mz;obtain⟨P1,P2,d1,d2,h⟩:=lg.egi mz;exact QX hx p1.np p2.np h m2
section
variable{P:da}{w:dk}{K:W.Frag}{mg:Str->Option oA}{base:oE}
def DU:Nat:=440*U0*(2*(220*V0)*10)
theorem HY:U0*V0<2^1470/\9000*DU<2^1500:=by
 have a:=Hf;have b:=Y6;have h:U0*V0<2^720*2^740:=Nat.mul_lt_mul'' a b;have e1:(2^720*2^740<=2^1470/\9000*(440*4400)*(2^720*2^740)<2^1500:Prop):=by decide +kernel
 have e2:9000*DU=9000*(440*4400)*(U0*V0):=by
  unfold DU;generalize U0=u;generalize V0=v;have:440*u*(2*(220*v)*10)=440*4400*(u*v):=by
   rw[show 2*(220*v)*10=4400*v by lia,YT,Nat.mul_left_comm u,<-YT]
  rw[this,<-YT]
 constructor
 ·lia
 ·rw[e2];have:=Nat.mul_lt_mul_of_pos_left h (show 0<9000*(440*4400) by decide)
  lia
theorem Uz(hl:bs.length<=10)(hb:∀b∈bs,LB 400 b):(bC bs).length<=8000:=by
 have h:=(nE (yM bs) [] (Rg hb) (λf m=>absurd m (by simp)) List.Pairwise.nil).2.2.2;have h2:(yM bs).length<=780*bs.zipIdx.length:=lC λx m=>by
  have hg:=TQ.mp m;have lg:=hb x.1 (SY hg);have h3:((ej x.1.o).flatMap λe=>(gC bs x.2 e.1 e.2).map λc=>(cO e.1 e.2 c).1).length<=130*(ej x.1.o).length:=lC λe me=>by
   obtain⟨p1,p2,pn⟩:=lg.ed (lg.dd me);rw[SV];exact Hv hl hb x.2 p1 p2 pn
  rw[tQ]at h3;have:=lg.len
  lia
 rw[ZR]at h2;unfold bC;simp only[UR]at h
 lia
def ME:iU:=λas Q=>∃bs:List eJ,as=[.v (.lst (bs.map cU))]/\bs.length<=10/\(∀b∈bs,LB 400 b)/\(bL (mY bs)->sz (mY bs)<=1500->Q (.v (fr (mY bs))) [])
abbrev wR(P w K mg base):=(~~~Fn) 7 "_law_due_of" ["_law_some"] (aU K ME)
abbrev uA:dh:=top 66
theorem jC:aI ["_law_some","_law_shuts","_law_total","_law_one","_law_other","_law_midst"] ["_law_some"] (aC uA):=iQ
theorem Md(F:eO K "_law_due_of" "_law_due_of" uA f fd)(TX:Txt mg)(qy: ~~~rE)(kf: ~~~g9)(oh: ~~~rF)(kd: ~~~gM)(tj: ~~~uQ):(~~~bG) fJ 7 f fd ["_law_some"] (aU K ME):=by
 refine F.okU jC (λhr=>(aB (gJ (i:=1) (j:=2) rfl jC.nd rfl rfl ∅ rfl rfl (f2 (fK qy (f1 (fv 0))) (aO (f2 aA aA))) rfl) (aB (eS PassesOwn.never rfl (Dk rfl rfl TX.n_zip (f2 (fv 1) (h9 rfl (fv 1) (d9 aA) jG))) (cM (n:=2) rfl rfl (aF (fG 3 jC.nd) (aF (fG 4 jC.nd) bS))) (aB (fS 5 jC.nd (fK kf (f2 (fK oh (f2 (fv 3) (fv 4))) (aO (f2 aA aA))))) (aE (fS 2 jC.nd (fK oh (f2 (fv 2) (fK kf (f2 (fK kd (f2 (fv 4) (fv 3))) (fK tj (f2 (fv 0) (fv 5))))))))))) (aE (aP (fv 2)))))) ?_;rintro as Q ⟨bs,rfl,hl,hb,q⟩;refine⟨bs,rfl,hl,hb,?_⟩;have sl:=Uz hl hb;have ez:gP ((bC bs).map fr) (iC ((bC bs).map fr) (oZ 1) none)=((bC bs).zip (bC bs).tail).map λp=>L2.T.tup [fr p.1,fr p.2]:=by rw[Oq,<-YC,zip_map]
 show t6 _ (dU _ _ _ (gP ((bC bs).map fr) (iC ((bC bs).map fr) (oZ 1) none)));rw[ez];have zl:((bC bs).zip (bC bs).tail).length<=8000:=by rw[ZE];lia
 have dp:=Al hb;have su:=HA hb;have hz:∀p∈(bC bs).zip (bC bs).tail,UO U0 (220*U0) p.1/\UO U0 (220*U0) p.2:=λp m=>by
  obtain⟨m1,m2⟩:=VY (a:=p.1) (b:=p.2) m;exact⟨su _ m1,su _ (WT m2)⟩
 have ul:=Hf;have vl:=Y6;have u0:=Cj;have v0:=CH;have pw:(2^720*440<2^740/\2^740<2^1500/\220*2^740<2^1400/\2^1470<2^1500:Prop):=by decide +kernel
 obtain⟨w1,w2,w3,w4⟩:=pw;obtain⟨dl1,dl2⟩:=HY;unfold mY at q;generalize hZ:(bC bs).zip (bC bs).tail=Z0 at *;generalize hR:Z0.foldl (uZ bs) (0,1)=R at q;have h00:bL ((0,1):Fr)/\sz ((0,1):Fr)<=1500/\UO (U0*V0) (0*DU) ((0,1):Fr):=⟨bX 0,by have:=X7;lia,⟨⟨0,⟨bX 0,by rw[dX];grind⟩,VZ _⟩⟩⟩;refine cW (f:=λp:Fr×Fr=>L2.T.tup [fr p.1,fr p.2]) (λs:Fr×Option U×Option U×Option U×Nat=>[⇑(.lst (bs.map cU)),⇑(.lst ((bC bs).map fr)),⇑(fr s.1),s.2.1,s.2.2.1,s.2.2.2.1])
  (λZ s=>(∀p∈Z,p∈Z0)/\(bL s.1/\sz s.1<=1500/\UO (U0*V0) (s.2.2.2.2*DU) s.1)/\s.2.2.2.2+Z.length<=8000/\Z.foldl (uZ bs) s.1=R) ?_ ?_ Z0 ((0,1),none,none,none,0) ⟨λp m=>m,h00,(by lia:0+Z0.length<=8000),hR⟩
 ·rintro p Z ⟨om,v3,v4,v5,k⟩ rest ⟨hp,⟨t1,t2,tu⟩,hn,e⟩ K;have t1:bL om:=t1;have t2:sz om<=1500:=t2;have tu:UO (U0*V0) (k*DU) om:=tu;have mp:=hp p (by simp);have kn:∀p∈Z,p∈Z0:=λy m=>hp y (by simp[m]);simp only[TB]at hn;rw[VN]at e;obtain⟨n1,n2,nx⟩:=dp p mp;obtain⟨o1,o2⟩:=hz p mp;obtain⟨m1,a1,b1⟩:=o1.m;obtain⟨m2,a2,b2⟩:=o2.m;have z1:=a1.sz (e:=740) u0 ⋯ ⋯ ∅;have z2:=a2.sz (e:=740) u0 ⋯ ⋯ ∅;have h12:bL ((1,2):Fr):=⟨∅,∅⟩;have s12:sz ((1,2):Fr)<=2:=n9 ∅ ∅ ∅;have sa:=Gm n1 n2;refine⟨p.1,p.2,rfl,n1,n2,⋯,_,(1,2),rfl,eC n1 n2,h12,⋯,?_⟩;have sd:=gZ n2 n1;refine⟨p.2,p.1,rfl,n2,n1,⋯,?_⟩;obtain⟨mu,ms⟩:=JY o1 o2;obtain⟨mn,mv⟩:=AO n1 n2;have mv:val (zK p)=(val p.1+val p.2)/2:=by rw[mv,Rat.div_def,Rat.div_def];grind
  refine⟨bs,zK p,V0,220*V0,rfl,hl,hb,mn,ms,by rw[mv];exact nx,v0,⋯,⋯,λg mg=>HD (hb g mg) mu,λc1 c2 c3=>?_⟩;have nd:=aR n2 n1;refine⟨_,_,rfl,nd,c1,⋯,?_⟩;obtain⟨mc,ac,bc⟩:=c3.m;obtain⟨mt,at',bt⟩:=tu.m;have pr:=(a2.sub a1).mul ac;have sm:=at'.add pr;have bp:((m2-m1)*mc).natAbs<=DU:=by
   rw[VW];exact VR ⋯ bc
  have bt':(mt+(m2-m1)*mc).natAbs<=(k+1)*DU:=by
   rw[Nat.add_mul,Nat.one_mul];lia
  have bd:(k+1)*DU<=9000*DU:=VR ⋯ (TN _);have szn:=sm.sz (e:=1500) (ZM u0 v0) ⋯ ⋯ ∅;have sp:=fT nd c1;refine⟨om,_,rfl,t1,aW nd c1,⋯,?_⟩;exact K (uZ bs om p,⇑(fr p.1),⇑(fr p.2),⇑(fr (zK p)),k+1) ⟨kn,⟨sm.n,szn,⟨⟨_,sm,bt'⟩⟩⟩,by simp only;lia,e⟩
 ·rintro⟨om,v3,v4,v5,k⟩ ⟨_,⟨t1,t2,_⟩,_,e⟩;have e:om=R:=e;rw[<-e]at q;exact⟨rfl,q t1 t2⟩
end
def M0:Str:="lrbe-"
theorem xT(hb:∀b∈bs,LB 400 b):mW bs M0:=λb mb k hk=>by
 have hm:=(hb b mb).m;have hk':k<b.m.cps.toList.length:=by have:=hm.len;simpa using(show k<b.m.cps.size by lia)
 have e:HV b.m k=b.m.cps.toList[k]:=by unfold HV;rw[TV,SX hk'];rfl
 have m1:=hm.all _ (WA hk');rw[<-e]at m1;have key:∀c∈("lrbe-":Str).cps.toList,JQ M0 c=true:=by decide +kernel
 exact key _ m1
theorem O8(hl:bs.length<=7)(hb:∀b∈bs,LB 400 b)(marks:Str):M1 bs marks:=by
 have se:∀s∈bs.map bE,pE s:=λs m=>by
  obtain⟨g,mg,rfl⟩:=SS.mp m;exact kI (hb g mg).ok
 have en:∀e∈cE bs marks,wN e.p e.q:=λe m=>by
  have k:=gQ (nI hb) e m;exact Ap k.hp k.hq k.ne
 have l1:=Wa se (cE bs marks) [] 0 en (λ_ m=>absurd m (by simp)) (λ_=>TN _);have l2:=Hg (marks:=marks) λb m=>(hb b m).len.2;have l3:(eM bs marks).length<=8000:=by
  unfold eM;rw[SV]at l1;have:(cE bs marks).length*(2*(1+bs.length+0)+(cE bs marks).length)<=42*58:=VR ⋯ ⋯
  lia
 exact⟨⋯,λb m=>(hb b m).ok,λb m=>⟨(hb b m).len.2,(hb b m).m.len⟩,en,l3⟩
theorem tD(hl:bs.length<=7)(hb:∀b∈bs,LB 400 b):M1 bs M0/\mW bs M0/\Vt U0 (220*U0) (eM bs M0)/\0<U0/\U0<2^1840/\220*U0<2^1840:=by
 have ul:=Hf;have u0:=Cj;have e:220*2^720<2^1840:=by decide +kernel
 exact⟨O8 hl hb M0,xT hb,GS hb M0,u0,⋯,⋯⟩
theorem w6(hb:∀b∈bs,LB 400 b)(hs:∀c∈cs,c∈bs):jT cs M0<=jT bs M0:=
 have hc:∀b∈cs,LB 400 b:=λb m=>hb b (hs b m)
 M4 (nI hc) (xT hc) (nI hb) (xT hb) λx zZ=>by obtain⟨g,m,w⟩:=zZ;exact⟨g,hs g m,w⟩
theorem Ab(hb:∀b∈bs,LB 400 b)(h:∀c,c∈cs↔c∈bs):jT cs M0=jT bs M0:=by
 have a:=w6 hb (λc m=>(h c).mp m);have b:=w6 (bs:=cs) (cs:=bs) (λc m=>hb c ((h c).mp m)) (λc m=>(h c).mpr m);grind
theorem Lg(hb:∀b∈bs,LB 400 b)(n:bL t)(v:val t=jT bs M0):t=mY bs:=by
 obtain⟨n2,v2⟩:=Hw hb (xT hb);exact gT n n2 (by rw[v,v2])
theorem Vw:jT [] M0=0:=by
 have:eM [] M0=[]:=rfl;unfold jT;rw[this];show(0:Rat)*_=0;grind
theorem Bh{α β:Type}(f:α->β):∀(xs:List α)(i:Nat),(xs.eraseIdx i).map f=(xs.map f).eraseIdx i
 |[],i=>by simp
 |x::xs,0=>by simp
 |x::xs,i+1=>by simp[Bh f xs i]
theorem xG{α:Type}:∀{xs:List α}{i:Nat}(h:i<xs.length),(xs[i]::xs.eraseIdx i).Perm xs
 |x::xs,0,_=>List.Perm.refl _
 |x::xs,i+1,h=>(List.Perm.swap x _ _).trans (List.Perm.cons x (xG (xs:=xs) (i:=i) (by simpa using h)))
def MH:iU:=λas Q=>∃ns:List Int,as=[.v (.lst (bN ns))]/\ns.length<=63/\Q (.v (.bl true)) []
abbrev yG:dh:=top 67
theorem qT:aI ["_law_script","_law_cells","_law_k","_law_box_here","_law_some","_law_mixed","_law_due","_law_left"] ["_law_script"] (aC yG):=iQ
theorem EN{P:da}{w:dk}{K:W.Frag}{mg:Str->Option oA}{base:oE}{f:ck}{fd:fe}(F:eO K "law" "law" yG f fd)(TX:Txt mg)(uw: ~~~zY)(zu: ~~~Vp)(lh: ~~~rH)(xq: ~~~Ny)(ug: ~~~wR)(oi: ~~~wY)(kd: ~~~gM):(~~~bG) fJ 9 f fd ["_law_script"] (aU K MH):=by
 refine F.okU qT (λhr=>(aB (dG (nG rfl hr (fK oi (f1 (cH gG))) (aO (f2 aA aA)) (cN _)) (aE (aP As)) cG) (aB (fS 1 qT.nd (fK uw (f2 (fv 0) aA))) (aB (eS PassesOwn.never rfl (iY rfl TX.n_range (f1 (DH rfl rfl TX.n_max (f2 aA (gH rfl rfl TX.n_len (f1 (fv 1))))))) (fG 2 qT.nd) (aB (fS 3 qT.nd (fK zu (f2 (fv 1) (fv 2)))) (aB (fS 4 qT.nd (fB xq (f2 (fv 3) aA))) (aB (Xk (i:=6) (j:=7) rfl rfl qT.nd rfl rfl ∅ (WE rfl) (WZ rfl) (f2 (fK ug (f1 (fv 4))) (Aw rfl rfl TX.n_list (f1 (fv 4))))) (aB (O2 (i:=5) (N':=["_law_one","_law_left","_law_box_here"]) (t:=1) (cap:=[(7,true),(3,true)]) qT.nd rfl (WE rfl) rfl rfl (bI.of rfl) ∅ (cS rfl (fv 4)) (λ_ _ _ _=>(Xh (i:=0) (show List.Nodup (["_law_one","_law_left","_law_box_here"]:List Str) by decide +kernel) rfl (WE rfl) (WZ rfl))) (λ_ _ _ _=>(DK rfl (fv 1) (f1 (fB lh (f2 (fv 2) (gH rfl rfl TX.n_len (f1 (fv 1))))))))) (aB (dG (zI (Ic (nG rfl hr (fK oi (f1 (fv 4))) (fv 6) (cN _)) (Ic (nG rfl hr (fK oi (f1 (fv 5))) (fv 6) (cN _)) (Dr (nG rfl hr (fK oi (f1 (Di (fv 5) (h9 rfl (fv 5) jG (d9 aA))))) (fv 6) (cN _)))))) (aE (aP As)) cG) (aE (dG (zI (tV (fP sN (gH rfl rfl TX.n_len (f1 (fv 4))) aA) (o7 (fP sN (fX (fK kd (f2 (fK oi (f1 (h9 rfl (fv 5) (d9 aA) jG))) (fv 6))) aA) aA)))) (aE (aP As)) cG)))))))) (aE (aP As)))))) ?_;rintro as Q ⟨ns,rfl,hl,q⟩;obtain⟨g1,g2,g3,g4,g5,g6⟩:=tD (bs:=[]) ∅ (λb m=>absurd m (by simp));refine⟨[],M0,U0,220*U0,rfl,g1,g2,g3,g4,g5,g6,λt nt vt _=>?_⟩;have vt:val t=jT [] M0:=vt;have t0:t=(0,1):=gT nt (bX 0) (by rw[vt,Vw,dX]);subst t0;refine⟨kE rfl,?_⟩;refine⟨ns,2,rfl,hl,∅,∅,λcs l6=>?_⟩;have lc:((bN cs).length:Int)=cs.length:=by simp[bN]
 obtain⟨m,hm⟩:∃m:Int,m=(if(2:Int)<((bN cs).length:Int)then((bN cs).length:Int)else 2):=⟨_,rfl⟩;have m5:m<=3/\0<=m:=by rw[hm];split<;>lia
 refine⟨⟨by show -(2^62:Int)<=(if(2:Int)<((bN cs).length:Int)then((bN cs).length:Int)else 2);rw[<-hm];lia,by show(if(2:Int)<((bN cs).length:Int)then((bN cs).length:Int)else 2)<2^62;rw[<-hm];lia⟩,?_⟩;show t6 _ (dU _ _ _ (lZ 0 (if(2:Int)<((bN cs).length:Int)then((bN cs).length:Int)else 2).toNat));rw[<-hm];refine lE (λi E=>∃v2 v3 v4 v5 v6 v7:Option U,E=[⇑(.lst (bN ns)),↥(bN cs),v2,v3,v4,v5,v6,v7]) ⟨_,_,_,_,_,_,rfl⟩ ?_ ?_
 ·rintro i t rest E hi ⟨v2,v3,v4,v5,v6,v7,rfl⟩ KK;obtain⟨xh,rfl⟩:=yB hi;refine⟨cs,_,rfl,⋯,⋯,λxs bx nl=>?_⟩;obtain⟨A0,B0,c0,rfl,_⟩:=id bx;refine⟨_,6,_,rfl,bx,⋯,∅,∅,λbs y2 l1 l2 hb b2=>?_⟩;obtain⟨A2,B2,c2,rfl,_⟩:=id b2;refine⟨bs,rfl,⋯,hb,λdn ds=>?_⟩;refine⟨(show 8<=8 by decide),?_⟩;refine⟨rfl,?_⟩;show iV _ _ (bs.map cU) _ _;refine Ah (λk E=>∃(w0:Option U)(zs:List L2.T)(R L:List eJ),E=[w0,oZ (.o true (L.map cU)),oZ (.o true zs),↥(R.map cU)]/\Bx zs (300+k)/\R.length=k/\(R++L).Perm bs) ⟨none,_,[],bs,rfl,b2.mono (by simp),rfl,List.Perm.refl _⟩ ?_ ?_
  ·rintro k t aEA E hk ⟨w0,zs,R,L,rfl,bk,hR,pm⟩ K;have hkn:k<bs.length:=by
    have:=(SW.mp hk).1
    rwa [SV]at this
   have pl:=pm.length_eq;rw[TC]at pl;obtain⟨A8,B8,c8,rfl,_⟩:=id bk;have ll:((L.map cU).length:Int)=L.length:=by rw[SV]
   refine⟨_,_,_,rfl,bk,⋯,(show 1<=((L.map cU).length:Int) by lia),(show((L.map cU).length:Int)<2^200 by lia),λr y3 a1 a2 b3=>?_⟩;obtain⟨A9,B9,c9,rfl,_⟩:=id b3;have a2:r<((L.map cU).length:Int):=a2;have rl:r.toNat<L.length:=⋯
   refine⟨a1,(by rw[SV];lia:(L.map cU).length<=9000),?_⟩;rw[TR,SX rl];refine⟨(by rw[SV];lia:(R.map cU).length<9000),?_⟩;have:=K [⇑t,oZ (.o true ((L.eraseIdx r.toNat).map cU)),oZ (.o true [.int A9,.int B9,.int c9]),↥((R++[L[r.toNat]]).map cU)] ⟨_,_,R++[L[r.toNat]],L.eraseIdx r.toNat,rfl,b3.mono (by push_cast;lia),by rw[TC,hR];rfl,by
    rw[TF];exact(List.Perm.append_left R (xG rl)).trans pm⟩
   rw[US,Bh]at this;exact this
  ·rintro E ⟨w0,zs,R,L,rfl,bk,hR,pm⟩;obtain⟨A8,B8,c8,rfl,_⟩:=id bk;have pl:=pm.length_eq;rw[TC]at pl;rw[SV]at hR;have eL:L=[]:=ay.mp ⋯;subst eL;rw[UH]at pm;have mR:∀c,c∈R↔c∈bs:=λc=>pm.mem_iff;have hbR:∀b∈R,LB 400 b:=λb m=>hb b ((mR b).mp m);have hl6:bs.length<=6:=⋯
   have nR:dN (R.map cU)=true:=a9 Lz _;refine⟨nR,?_⟩;obtain⟨g1,g2,g3,g4,g5,g6⟩:=tD ⋯ hb;refine⟨bs,M0,U0,220*U0,rfl,g1,g2,g3,g4,g5,g6,λt nt vt _=>?_⟩;have t0:=Lg hb nt vt;subst t0;refine⟨kE rfl,?_⟩;show if(!(iP (fr (mY bs)) (fr (mY bs))))=true then _ else _;rw[Aq,oY rfl,oW ∅];obtain⟨g1,g2,g3,g4,g5,g6⟩:=tD ⋯ hbR;refine⟨R,M0,U0,220*U0,rfl,g1,g2,g3,g4,g5,g6,λt nt vt _=>?_⟩;have t0:=Lg hb nt (vt.trans (Ab hb mR));subst t0;refine⟨kE rfl,?_⟩;show if(!(iP (fr (mY bs)) (fr (mY bs))))=true then _ else _;rw[Aq,oY rfl,oW ∅];have c1:iC (R.map cU) none (oZ 1)=(R.take 1).map cU:=by rw[XI];exact Dd _
   have m7:∀c,c∈R++R.take 1↔c∈bs:=λc=>by
    rw[TY,<-mR];exact⟨λz=>z.elim id VH,.inl⟩
   have hb7:∀b∈R++R.take 1,LB 400 b:=λb m=>hb b ((m7 b).mp m);have l7:(R++R.take 1).length<=7:=by rw[TC,UP];lia
   refine⟨(show(R.map cU).length+(iC (R.map cU) none (oZ 1)).length<=9000 by rw[c1,SV,SV,UP];lia),?_⟩;obtain⟨g1,g2,g3,g4,g5,g6⟩:=tD l7 hb7;refine⟨R++R.take 1,M0,U0,220*U0,(show[A.v (.lst (R.map cU++iC (R.map cU) none (oZ 1)))]=_ by rw[c1,US]),g1,g2,g3,g4,g5,g6,λt nt vt _=>?_⟩;have t0:=Lg hb nt (vt.trans (Ab hb m7));subst t0;refine⟨kE rfl,?_⟩;show if(!(iP (fr (mY bs)) (fr (mY bs))))=true then _ else _;rw[Aq,oY rfl,oW ∅];have fin:=KK [⇑(.lst (bN ns)),↥(bN cs),↑(0+(i:Int)),↥[.int A8,.int B8,.int c8],↥(bs.map cU),↥(R.map cU),⇑(fr (mY bs)),↥(([]:List eJ).map cU)] ⟨_,_,_,_,_,_,rfl⟩;show if decide (1<((bs.map cU).length:Int))=true then _ else _
   by_cases c:1<((bs.map cU).length:Int)
   ·rw[oY c,oV rfl];have c2:iC (R.map cU) (oZ 1) none=R.tail.map cU:=by rw[Oq,YC]
    have mT:∀c∈R.tail,c∈bs:=λc m=>(mR c).mp (WT m);have hbT:∀b∈R.tail,LB 400 b:=λb m=>hb b (mT b m);obtain⟨g1,g2,g3,g4,g5,g6⟩:=tD (show R.tail.length<=7 by rw[WI];lia) hbT;refine⟨R.tail,M0,U0,220*U0,(show[A.v (.lst (iC (R.map cU) (oZ 1) none))]=_ by rw[c2]),g1,g2,g3,g4,g5,g6,λt nt vt st=>?_⟩;refine⟨t,mY bs,rfl,nt,dn,⋯,?_⟩;show if decide (0<(aQ t (mY bs)).1)=true then _ else _;have ng:¬0<(aQ t (mY bs)).1:=by
     rw[<-oP (aR nt dn),bK nt dn,(Hw hb (xT hb)).2];have vt:val t=jT R.tail M0:=vt;have:=w6 hb mT;rw[vt];grind
    rw[oX ng,oW ∅];exact fin
   ·rw[oX c,oW ∅];exact fin
 ·rintro E ⟨v2,v3,v4,v5,v6,v7,rfl⟩;exact⟨rfl,q⟩
theorem PJ{α:Type}{us:List α}(h:us.length=1):∃a0,us=[a0]:=by
 cases us with
 |nil=>simp at h
 |cons a0 us=>
 replace h:us.length=0:=by simpa using h
 cases us with
 |nil=>exact⟨a0,rfl⟩
 |cons a us=>simp at h
theorem PK{α:Type}{us:List α}(h:us.length=2):∃a0 a1,us=[a0,a1]:=by
 cases us with
 |nil=>simp at h
 |cons a0 us=>
 replace h:us.length=1:=by simpa using h
 cases us with
 |nil=>simp at h
 |cons a1 us=>
 replace h:us.length=0:=by simpa using h
 cases us with
 |nil=>exact⟨a0,a1,rfl⟩
 |cons a us=>simp at h
theorem PL{α:Type}{us:List α}(h:us.length=3):∃a0 a1 a2,us=[a0,a1,a2]:=by
 cases us with
 |nil=>simp at h
 |cons a0 us=>
 replace h:us.length=2:=by simpa using h
 cases us with
 |nil=>simp at h
 |cons a1 us=>
 replace h:us.length=1:=by simpa using h
 cases us with
 |nil=>simp at h
 |cons a2 us=>
 replace h:us.length=0:=by simpa using h
 cases us with
 |nil=>exact⟨a0,a1,a2,rfl⟩
 |cons a us=>simp at h
theorem PM{α:Type}{us:List α}(h:us.length=4):∃a0 a1 a2 a3,us=[a0,a1,a2,a3]:=by
 cases us with
 |nil=>simp at h
 |cons a0 us=>
 replace h:us.length=3:=by simpa using h
 cases us with
 |nil=>simp at h
 |cons a1 us=>
 replace h:us.length=2:=by simpa using h
 cases us with
 |nil=>simp at h
 |cons a2 us=>
 replace h:us.length=1:=by simpa using h
 cases us with
 |nil=>simp at h
 |cons a3 us=>
 replace h:us.length=0:=by simpa using h
 cases us with
 |nil=>exact⟨a0,a1,a2,a3,rfl⟩
 |cons a us=>simp at h
def Ed(o:Obj):Bool:=match o.data with
 |.seq jz _=>match jz.toList with
  |[.int _ _,_,_]=>false
  |_=>true
 |_=>true
def wG(K:W.Frag):Bool:=K.all λx=>Ed x.2
theorem Yu{K:W.Frag}(h:wG K=true):Vq K:=by
 rintro a x y z ⟨o,jz,n,hl,_,hd,_,hv⟩;have key:∀K:W.Frag,K.lookup a=oZ o->wG K=true->Ed o=true:=λK=>by
  induction K with
  |nil=>intro h;cases h
  |cons x K ih=>
   intro h1 h2;rw[wG,List.all_cons,UU]at h2;rw[WN]at h1;split at h1
   ·cases h1;exact h2.1
   ·exact ih h1 h2.2
 have k:=key K hl h;obtain⟨jz⟩:=jz;cases hv with
 |cons h1 hv=>cases hv with
  |cons h2 hv=>cases hv with
   |cons h3 hv=>cases hv;obtain⟨t,rfl⟩:=h1;rw[Ed,hd]at k;cases k
theorem Wh{K:W.Frag}{od oe of:Option ck}{i j i' j':Int}{n m l:Nat}{sl sk sj:Array (Option oA)}(h:K.lookup a=oZ ⟨.type "tuple",od,.seq #[.ref b,.ref c] n,sl⟩)(hb:K.lookup b=oZ ⟨.type "tuple",oe,.seq #[.int i t,.int j u] m,sk⟩)(hc:K.lookup c=oZ ⟨.type "tuple",of,.seq #[.int i' t',.int j' u'] l,sj⟩)(H:Hp)(O:ck->Prop):Rp K H O (.tup [.tup [.int i,.int j],.tup [.int i',.int j']]) (.ref a):=
 ⟨a,[.ref b,.ref c],rfl,.inr ⟨_,_,n,h,rfl,rfl,by show 2<=cw;decide,.cons rfl (.cons rfl .nil)⟩,_,_,rfl,lR hb H O,_,_,rfl,lR hc H O,rfl⟩
def Rh(K:W.Frag):Sp:=λvs H Q _=>∃(a:ck)(ns:List Int),vs=[.ref a]/\j5 K H a (ns.map V.int)/\ns.length<=63/\∀H',Q (.bl true) H'
theorem EE{K:W.Frag}(vs:List V)(H:Hp)(Q:VK)(E:XK)(h:Rh K vs H Q E):aU K MH vs H Q E:=by
 obtain⟨a,ns,rfl,hs,hl,q⟩:=h;have no:∀b,¬Ow (λa=>(none:Option ck)=oZ a) [oZ (V.ref a)] [⇑(.lst (bN ns))] b:=λb z=>by
  obtain z|⟨i,k,xs,h1,_⟩:=z
  ·cases z
  ·match i,h1 with
   |0,h1=>simp at h1
   |_+1,h1=>simp at h1
 have ii:∀ns:List Int,cP K H (Ow (λa=>(none:Option ck)=oZ a) [oZ (V.ref a)] [⇑(.lst (bN ns))]) (bN ns) (ns.map V.int):=λns=>by
  have key:∀(O:ck->Prop)(ms:List Int),cP K H O (bN ms) (ms.map V.int):=λO ms=>by
   induction ms with
   |nil=>rfl
   |cons m ms ih=>exact⟨_,_,rfl,rfl,ih⟩
  exact key _ ns
 refine⟨[.v (.lst (bN ns))],λr _=>r = .v (.bl true),none,⟨rfl,λi t h=>?_,λi k xs h=>?_,λi j k l xs ys b h=>?_,λb z=>by cases z⟩,λ_=>rfl,⟨ns,rfl,hl,rfl⟩,λr xs v H' e _ _ rr=>?_⟩
 ·match i,h with
  |0,h=>
   simp[tR]at h;subst h;exact⟨_,rfl,a,_,rfl,hs.imp (λh=>⟨no a,h⟩) id,ii ns⟩
  |_+1,h=>simp[tR]at h
 ·match i,h with
  |0,h=>simp[tR]at h
  |_+1,h=>simp[tR]at h
 ·match i,h with
  |0,h=>simp[tR]at h
  |_+1,h=>simp[tR]at h
 ·subst e;cases rr;exact q H'
def Fc(K:W.Frag)(nm:Str)(st:dh)(f:ck):Prop:=∃(oc:oA)(od:Option ck)(kV dc pm:oA)(an:Option ck)(cd ct:oA)(sl:Array (Option oA)),
 W.nsIn K de nm=oZ (oZ (.ref f))/\K.lookup f=oZ ⟨oc,od,.func (W.fnOf nm nm (iF st) (d8 st) (aC st) .none kV dc pm an cd ct),sl⟩/\W.codeIn K cd nm=true/\W.keepIn K (.ref f)=true
theorem fc{K:W.Frag}{nm:Str}{st:dh}{f:ck}{oc:oA}{od:Option ck}{kV dc pm:oA}{an:Option ck}{cd ct:oA}{sl:Array (Option oA)}(a:W.nsIn K de nm=oZ (oZ (.ref f)))(l:K.lookup f=oZ ⟨oc,od,.func (W.fnOf nm nm (iF st) (d8 st) (aC st) .none kV dc pm an cd ct),sl⟩)(c:W.codeIn K cd nm=true)(k:W.keepIn K (.ref f)=true):Fc K nm st f:=⟨_,_,_,_,_,_,_,_,_,a,l,c,k⟩
theorem gm{P:da}{w:dk}{K:W.Frag}{h base:oE}{mg:Str->Option oA}{nm:Str}{st:dh}{f:ck}{CX:Kq}{k:Nat}{ps:List Str}{sp:Sp}(X:K.In h)(G:h.Ns de mg)(p:Fc K nm st f)(ok:∀{fd:fe},eO K nm nm st f fd->bG P w K mg base CX k f fd ps sp)
  (bd:∀{fd:fe},eO K nm nm st f fd->mP K fd ps []):∃f fd,bG P w K mg base CX k f fd ps sp/\mg nm=oZ (.ref f)/\W.keepIn K (.ref f)=true/\mP K fd ps []:=by
 obtain⟨_,_,_,_,_,_,_,_,_,a,l,c,k⟩:=p;have F:=Xn (st:=st) l c k;exact⟨f,_,ok F,W.mg_of X G a,k,bd F⟩
theorem Vj{P:da}{w:dk}{K:W.Frag}{h base:oE}{mg:Str->Option oA}{nm:Str}{st:dh}{f:ck}{CX:Kq}{k:Nat}{ps:List Str}{sp:Sp}(X:K.In h)(G:h.Ns de mg)(p:Fc K nm st f)(ok:∀{fd:fe},eO K nm nm st f fd->bG P w K mg base CX k f fd ps sp)(hl:ps.length=1:=by rfl)
  (hb:∀(kV doc pm:oA)(an:Option ck)(oq ct a0:oA),bindArgs (W.fnOf nm nm (iF st) (d8 st) (aC st) .none kV doc pm an oq ct) ⟨[a0],[]⟩=pure (ps.zip [a0]):=by intros;rfl):∃f fd,bG P w K mg base CX k f fd ps sp/\mg nm=oZ (.ref f)/\W.keepIn K (.ref f)=true/\mP K fd ps []:=
 gm X G p ok λF=>F.binds λkV doc pm an oq ct us e=>by obtain⟨a0,rfl⟩:=PJ (e.trans hl);exact hb ..
theorem lU{P:da}{w:dk}{K:W.Frag}{h base:oE}{mg:Str->Option oA}{nm:Str}{st:dh}{f:ck}{CX:Kq}{k:Nat}{ps:List Str}{sp:Sp}(X:K.In h)(G:h.Ns de mg)(p:Fc K nm st f)(ok:∀{fd:fe},eO K nm nm st f fd->bG P w K mg base CX k f fd ps sp)(hl:ps.length=2:=by rfl)
  (hb:∀(kV doc pm:oA)(an:Option ck)(oq ct a0 a1:oA),bindArgs (W.fnOf nm nm (iF st) (d8 st) (aC st) .none kV doc pm an oq ct) ⟨[a0,a1],[]⟩=pure (ps.zip [a0,a1]):=by intros;rfl):∃f fd,bG P w K mg base CX k f fd ps sp/\mg nm=oZ (.ref f)/\W.keepIn K (.ref f)=true/\mP K fd ps []:=
 gm X G p ok λF=>F.binds λkV doc pm an oq ct us e=>by obtain⟨a0,a1,rfl⟩:=PK (e.trans hl);exact hb ..
theorem PB{P:da}{w:dk}{K:W.Frag}{h base:oE}{mg:Str->Option oA}{nm:Str}{st:dh}{f:ck}{CX:Kq}{k:Nat}{ps:List Str}{sp:Sp}(X:K.In h)(G:h.Ns de mg)(p:Fc K nm st f)(ok:∀{fd:fe},eO K nm nm st f fd->bG P w K mg base CX k f fd ps sp)(hl:ps.length=3:=by rfl)
  (hb:∀(kV doc pm:oA)(an:Option ck)(oq ct a0 a1 a2:oA),bindArgs (W.fnOf nm nm (iF st) (d8 st) (aC st) .none kV doc pm an oq ct) ⟨[a0,a1,a2],[]⟩=pure (ps.zip [a0,a1,a2]):=by intros;rfl):∃f fd,bG P w K mg base CX k f fd ps sp/\mg nm=oZ (.ref f)/\W.keepIn K (.ref f)=true/\mP K fd ps []:=
 gm X G p ok λF=>F.binds λkV doc pm an oq ct us e=>by obtain⟨a0,a1,a2,rfl⟩:=PL (e.trans hl);exact hb ..
theorem PC{P:da}{w:dk}{K:W.Frag}{h base:oE}{mg:Str->Option oA}{nm:Str}{st:dh}{f:ck}{CX:Kq}{k:Nat}{ps:List Str}{sp:Sp}(X:K.In h)(G:h.Ns de mg)(p:Fc K nm st f)(ok:∀{fd:fe},eO K nm nm st f fd->bG P w K mg base CX k f fd ps sp)(hl:ps.length=4:=by rfl)
  (hb:∀(kV doc pm:oA)(an:Option ck)(oq ct a0 a1 a2 a3:oA),bindArgs (W.fnOf nm nm (iF st) (d8 st) (aC st) .none kV doc pm an oq ct) ⟨[a0,a1,a2,a3],[]⟩=pure (ps.zip [a0,a1,a2,a3]):=by intros;rfl):∃f fd,bG P w K mg base CX k f fd ps sp/\mg nm=oZ (.ref f)/\W.keepIn K (.ref f)=true/\mP K fd ps []:=
 gm X G p ok λF=>F.binds λkV doc pm an oq ct us e=>by obtain⟨a0,a1,a2,a3,rfl⟩:=PM (e.trans hl);exact hb ..
theorem CJ{P:da}{w:dk}{K:W.Frag}{h:oE}{mg:Str->Option oA}{fa f0 f1 f2 f3 f4 f5 f6 f7 f8 f9 f10 f11 f12 f13 f14 f15 f16 f17 f18 f19 f20 f21 f22 f23 f24 f25 f26 f27 f28 f29 f30 f31 f32 f33 f34 f35 f36 f37 f38 f39 f40 f41 f42 f43 f44 f45 f46 f47 f48 f49 f50 f51 f52 f53 f54 f55 f56 f57:ck}(X:K.In h)(G:h.Ns de mg)(hfa:mg "law" = oZ (.ref fa))
  (p0:Fc K "_law_take" Nb f0)
  (p1:Fc K "common_divisor" jB f1)
  (p2:Fc K "fraction" qK f2)
  (p3:Fc K "added" Fh f3)
  (p4:Fc K "taken" Fw f4)
  (p5:Fc K "times" Fx f5)
  (p6:Fc K "over" Mz f6)
  (p7:Fc K "_law_box" D4 f7)
  (p8:Fc K "_law_folded" yF f8)
  (p9:Fc K "compared" qJ f9)
  (p10:Fc K "scaled" yK f10)
  (p11:Fc K "plus" Na f11)
  (p12:Fc K "minus" Ft f12)
  (p13:Fc K "cross" Fj f13)
  (p14:Fc K "spot_of" uF f14)
  (p15:Fc K "line_through" kH f15)
  (p16:Fc K "in_lowest_terms" iM f16)
  (p17:Fc K "off_line" qP f17)
  (p18:Fc K "box_of" yD f18)
  (p19:Fc K "are_apart" nQ f19)
  (p20:Fc K "edge_lines" mB f20)
  (p21:Fc K "shape_of" qR f21)
  (p22:Fc K "shapes_of" nW f22)
  (p23:Fc K "segment_of" mG f23)
  (p24:Fc K "later" Fl f24)
  (p25:Fc K "earlier" t9 f25)
  (p26:Fc K "overlap" uC f26)
  (p27:Fc K "parted" yJ f27)
  (p28:Fc K "point_at" qQ f28)
  (p29:Fc K "edge_ends" nU f29)
  (p30:Fc K "part_at" uD f30)
  (p31:Fc K "bare_parts" l9 f31)
  (p32:Fc K "bounds_of" nT f32)
  (p33:Fc K "_law_frac" Fs f33)
  (p34:Fc K "_law_sum" Mx f34)
  (p35:Fc K "_law_less" Fu f35)
  (p36:Fc K "_law_product" qM f36)
  (p37:Fc K "_law_add" Ms f37)
  (p38:Fc K "_law_sub" Mw f38)
  (p39:Fc K "_law_scaled_by" mF f39)
  (p40:Fc K "_law_cross" yH f40)
  (p41:Fc K "_law_dot" Mt f41)
  (p42:Fc K "_law_spot_at" qO f42)
  (p43:Fc K "_law_shape" yI f43)
  (p44:Fc K "_law_lot" Mu f44)
  (p45:Fc K "_law_over" Fv f45)
  (p46:Fc K "_law_on" D5 f46)
  (p47:Fc K "_law_met" Mv f47)
  (p48:Fc K "_law_rising" uB f48)
  (p49:Fc K "_law_cuts" Fm f49)
  (p50:Fc K "total_of" qS f50)
  (p51:Fc K "size_within" kZ f51)
  (p52:Fc K "size_of" uE f52)
  (p53:Fc K "_law_shuts_of" nV f53)
  (p54:Fc K "_law_span_at" qN f54)
  (p55:Fc K "_law_covered" qL f55)
  (p56:Fc K "_law_due_of" uA f56)
  (p57:Fc K "law" yG f57)
  {aAT:Tok} (aCB:W.nsIn K de "GRID" = oZ (oZ (.int 65536 aAT)))
  {wu:ck} {xr:Option ck} {yk ym:Tok} {yn:Nat} {xt:Array (Option oA)} (zv:W.nsIn K de "NOUGHT" = oZ (oZ (.ref wu))) (zw:K.lookup wu=oZ ⟨.type "tuple",xr,.seq #[.int 0 yk,.int 1 ym] yn,xt⟩)
  {aBI:ck} {aAU:Option ck} {aCC aCD:Tok} {aCE:Nat} {aAV:Array (Option oA)} (aEB:W.nsIn K de "ONE" = oZ (oZ (.ref aBI))) (aEC:K.lookup aBI=oZ ⟨.type "tuple",aAU,.seq #[.int 1 aCC,.int 1 aCD] aCE,aAV⟩)
  (zp:wG K=true)
  {C_W D_W E_W:ck} {o_W aG0 aG1:Option ck} {aG2 aG3 aG4 aG5:Tok} {n_W aG6 aG7:Nat} {s_W aG8 aG9:Array (Option oA)} (q_W:W.nsIn K de "WHOLE" = oZ (oZ (.ref C_W))) (r_W:K.lookup C_W=oZ ⟨.type "tuple",o_W,.seq #[.ref D_W,.ref E_W] n_W,s_W⟩) (aHA:K.lookup D_W=oZ ⟨.type "tuple",aG0,.seq #[.int 0 aG2,.int 1 aG3] aG6,aG8⟩) (aHB:K.lookup E_W=oZ ⟨.type "tuple",aG1,.seq #[.int 1 aG4,.int 1 aG5] aG7,aG9⟩)
  (wk:W.nsIn K de "isinstance" = oZ none) (aED:W.nsIn K de "abs" = oZ none) (aAA:W.nsIn K de "divmod" = oZ none) (aEE:W.nsIn K de "min" = oZ none) (aEF:W.nsIn K de "max" = oZ none) (aEG:W.nsIn K de "all" = oZ none) (aEH:W.nsIn K de "len" = oZ none) (aEI:W.nsIn K de "int" = oZ none) (aCF:W.nsIn K de "bool" = oZ none) (aAW:W.nsIn K de "tuple" = oZ none) (aCG:W.nsIn K de "list" = oZ none) (aEJ:W.nsIn K de "str" = oZ none) (aAX:W.nsIn K de "range" = oZ none) (wx:W.nsIn K de "enumerate" = oZ none) (aEK:W.nsIn K de "zip" = oZ none) :
  ∃fd:fe,(∀(s:oB)(v:oA),BindsTo s fd ⟨[v],[]⟩ [("_law_script",v)])/\∀base:oE,K.In base->base.Ns de mg->bG P w K mg base fJ 9 fa fd ["_law_script"] (Rh K):=by
 obtain⟨oc,od,kV,dc,pm,an,cd,ct,sl,a57,l57,c57,k57⟩:=p57;have e:=hfa.symm.trans (W.mg_of X G a57);cases e;have T:Txt mg:=⟨W.mg_none_of X G wk,W.mg_none_of X G aED,W.mg_none_of X G aAA,W.mg_none_of X G aEE,W.mg_none_of X G aEF,W.mg_none_of X G aEG,W.mg_none_of X G aEH,W.mg_none_of X G aEI,W.mg_none_of X G aCF,W.mg_none_of X G aAW,W.mg_none_of X G aCG,W.mg_none_of X G aEJ,W.mg_none_of X G aAX,W.mg_none_of X G wx,W.mg_none_of X G aEK⟩;have vw:Kr mg "GRID" 65536:=⟨_,W.mg_of X G aCB⟩;have uj:wM mg K "WHOLE" (.tup [.tup [.int 0,.int 1],.tup [.int 1,.int 1]]):=⟨_,W.mg_of X G q_W,Wh r_W aHA aHB⟩;have uo:wM mg K "NOUGHT" (.tup [.int 0,.int 1]):=⟨_,W.mg_of X G zv,lR zw⟩;have zm:wM mg K "ONE" (.tup [.int 1,.int 1]):=⟨_,W.mg_of X G aEB,lR aEC⟩;have F57:=Xn (st:=yG) l57 c57 k57;refine⟨W.fnOf "law" "law" (iF yG) (d8 yG) (aC yG) .none kV dc pm an cd ct,λs v=>.of_eq rfl,λbase _ _=>?_⟩;have lh: ~~~rH:=⟨lU X G p0 (R7 · T )⟩;have kg: ~~~eV:=⟨lU X G p1 (sM · T )⟩;have kh: ~~~g8:=⟨lU X G p2 (Iz · T kg)⟩;have qh: ~~~wO:=⟨lU X G p3 (Zb · T kh)⟩;have nq: ~~~rJ:=⟨lU X G p4 (Zj · T kh)⟩;have nj: ~~~rK:=⟨lU X G p5 (Zk · T kh)⟩;have xo: ~~~Oa:=⟨lU X G p6 (R5 · T kh)⟩;have zu: ~~~Vp:=⟨lU X G p7 (EM · T )⟩;have uw: ~~~zY:=⟨lU X G p8 (Uh · T )⟩;have ko: ~~~jI:=⟨lU X G p9 (Iy · T )⟩;have uq: ~~~Aa:=⟨lU X G p10 (Ul · T nj)⟩;have xl: ~~~Ob:=⟨lU X G p11 (R6 · T qh)⟩;have wa: ~~~He:=⟨lU X G p12 (Zg · T nq)⟩;have we: ~~~Hc:=⟨lU X G p13 (Zc · T nj nq)⟩;have lr: ~~~lP:=⟨Vj X G p14 (Mj · T kg)⟩;have lq: ~~~jQ:=⟨lU X G p15 (vL · T )⟩;have kz: ~~~gU:=⟨Vj X G p16 (qF · T kg)⟩;have qm: ~~~uT:=⟨lU X G p17 (Je · T )⟩;have qe: ~~~tL:=⟨Vj X G p18 (Ug · T vw)⟩;have qt: ~~~rB:=⟨lU X G p19 (Ef · T )⟩;have qk: ~~~pN:=⟨Vj X G p20 (zR · T lr lq)⟩;have rh: ~~~uV:=⟨Vj X G p21 (Jg · T qk kz qe lr)⟩;have qu: ~~~rG:=⟨Vj X G p22 (Ek · T rh)⟩;have qo: ~~~pO:=⟨lU X G p23 (zT · T lr qe kz lq)⟩;have rd: ~~~wQ:=⟨lU X G p24 (Zd · T ko)⟩;have ph: ~~~pX:=⟨lU X G p25 (Mc · T ko)⟩;have ue: ~~~wW:=⟨lU X G p26 (Mg · T qt qm rd ph ko uo zm)⟩;have uc: ~~~z9:=⟨PC X G p27 (Uk · T rd ph ko)⟩;have qq: ~~~uU:=⟨PB X G p28 (Jf · T xl uq wa)⟩;have qw: ~~~rD:=⟨lU X G p29 (Ei · T )⟩;have rf: ~~~wX:=⟨lU X G p30 (Mh · T xo nq)⟩;have qp: ~~~pM:=⟨PB X G p31 (zQ · T qo ue uc rf uj)⟩;have qx: ~~~rC:=⟨lU X G p32 (Eh · T qu qw qp qq kh (Yu zp))⟩;have lp: ~~~k9:=⟨lU X G p33 (Zf · T )⟩;have oh: ~~~rF:=⟨lU X G p34 (R4 · T lp)⟩;have kd: ~~~gM:=⟨lU X G p35 (Zh · T lp)⟩;have kf: ~~~g9:=⟨lU X G p36 (Jb · T lp)⟩;have qr: ~~~vO:=⟨lU X G p37 (Q8 · T oh)⟩;have pf: ~~~vP:=⟨lU X G p38 (R3 · T kd)⟩;have ly: ~~~kP:=⟨lU X G p39 (zS · T kf)⟩;have qf: ~~~z7:=⟨lU X G p40 (Ui · T kd kf)⟩;have uu: ~~~Nx:=⟨lU X G p41 (Q9 · T oh kf)⟩;have rm: ~~~uS:=⟨lU X G p42 (Jd · T lh lp)⟩;have ur: ~~~z8:=⟨lU X G p43 (Uj · T lh rm qr)⟩;have xq: ~~~Ny:=⟨lU X G p44 (R0 · T lh ur qr ly pf)⟩;have pg: ~~~wU:=⟨lU X G p45 (Zi · T kf lp)⟩;have vh: ~~~Ku:=⟨PB X G p46 (EO · T qr ly pf)⟩;have xp: ~~~Nz:=⟨PC X G p47 (R1 · T pf qf pg kd uu)⟩;have uf: ~~~wV:=⟨Vj X G p48 (Mf · T kd)⟩;have wj: ~~~Hd:=⟨PC X G p49 (Ze · T xp uf)⟩;have sf: ~~~uW:=⟨Vj X G p50 (Jh · T qh)⟩;have qd: ~~~m8:=⟨Vj X G p51 (xW · T nj sf we)⟩;have oi: ~~~wY:=⟨Vj X G p52 (Mi · T qx qd)⟩;have qy: ~~~rE:=⟨Vj X G p53 (Ej · T wj vh kd)⟩;have tf: ~~~uR:=⟨lU X G p54 (Jc · T kd pg vh)⟩;have tj: ~~~uQ:=⟨lU X G p55 (Ja · T tf kd oh)⟩;have ug: ~~~wR:=⟨Vj X G p56 (Md · T qy kf oh kd tj)⟩;exact(EN F57 T uw zu lh xq ug oi kd).imp EE
theorem QU{l:W.OpenLaw}{XP:(Str->Option oA)->oE->Prop}{YP:dk->oE->Prop}{d:DefRec}{K:Params->W.Frag}(hn:l.most=oZ 63)(hdf:d.params.defaults=[])(hY:∀(w:dk)(h:oE),YP w h->(K w.params).In h)(F:∀(w:dk)(mg:Str->Option oA)(fa:ck)(h:oE),(K w.params).In h->h.Ns de mg->mg d.name=oZ (.ref fa)->
   ∃fd:fe,(∀(s:oB)(u:oA),BindsTo s fd ⟨[u],[]⟩ [("_law_script",u)])/\∀base:oE,(K w.params).In base->base.Ns de mg->bG l.prog w (K w.params) mg base fJ 9 fa fd ["_law_script"] (Rh (K w.params))):
  W.WalkO q loose XP YP l.row.toRowW d [] (λf vs=>PySem.call f vs):=
 L2.Y3 (n:=63) (k:=9) (x:="_law_script") (CX:=λ_=>fJ) (sp:=λw=>Rh (K w.params)) hn ∅ hdf ⟨rfl,∅,∅,rfl⟩ hY F (λ_ _ a ns hl _ hS=>⟨a,ns,rfl,hS,hl,λ_=>rfl⟩) λ_ _ _ _ _ z=>z
end My
namespace PySem.W.Fast
def tw6858472538412461631:=0
def tw10024881821375653207:=0
def tw5376033334382650066:=0
def tw7340286286655357157:=0
def tw15553287113486399596:=0
def tw12783618910594425511:=0
def tw8409033661171517274:=0
def tw17119306557143285105:=0
def tw1684957409976659407:=0
def tw14851704188969560476:=0
def tw8171273144400740759:=0
def tw3241137603327711732:=0
def tw15045900323757205758:=0
def tw3435960957227175543:=0
def tw15129786587780656691:=0
def tw10298212347784830389:=0
def tw11011850563164286144:=0
def tw11061339634100663062:=0
def tw14491370456474308236:=0
def tw10989016595349785062:=0
def tw7484060313577389567:=0
def tw14996178773922290981:=0
def tw6645611477120661883:=0
def tw6045372610359274550:=0
def tw2124156141628609762:=0
def tw14168985517517944052:=0
def tw11492340914446645698:=0
def tw10056075937817660925:=0
def tw12514019640919995954:=0
def tw3646683743409011621:=0
def tw7472891676268055177:=0
def tw8751741664011285701:=0
def tw13613239039007388735:=0
def tw5121720993837336522:=0
def tw3077010940537011830:=0
def tw14983892381317889257:=0
def tw8791903031995089695:=0
def tw13458590834959222493:=0
def tw12642442080287404848:=0
def tw3992485785112814525:=0
def tw2943808779736415912:=0
def tw17093965567171902816:=0
def tw15377631198433248365:=0
def tw1666877465991177309:=0
def tw12961016378759353819:=0
def tw14043291847142303209:=0
def tw16578532403246912812:=0
def tw14782328947382911744:=0
def tw239401801068764160:=0
def tw12772246999624990233:=0
def tw14055696619426511901:=0
def tw12444072211249739014:=0
def tw17405482441031109422:=0
def tw6521358786348978294:=0
def tw14526067265772662825:=0
def tw6085230831212349415:=0
def tw16147979854078267400:=0
def tw17213601647690665899:=0
def tw11340079121831024460:=0
def tw16698858238175173461:=0
def tw10981385485926695253:=0
def tw13299403167017831047:=0
def tw14819171723089541909:=0
def tw6719741675945022568:=0
def tw9954058971558731705:=0
def tw5059243626666191475:=0
def tw14003132383876267248:=0
def tw18203742470190252056:=0
def tw13468273983044814212:=0
def tw14844261716602249715:=0
def tw5785244070693848418:=0
def tw1788564942848664380:=0
def tw5576312019771118912:=0
def tw16385325244583182879:=0
def tw9460167697877082663:=0
def tw13813307524013571777:=0
def tw2028638532065999403:=0
def tw12511729565165841891:=0
def tw3495290824855261788:=0
def tw10762175708340394983:=0
def tw1007479519570820194:=0
def tw1003389614042033960:=0
def tw9253626903277565275:=0
def tw16480501150557772711:=0
def tw12030248008576940069:=0
def tw2362160616054775178:=0
def tw39128244893902995:=0
def tw10596877499646998346:=0
def tw4655263018768359304:=0
def tw10001722741986794360:=0
def tw8041930610958693722:=0
def tw10422941302380422805:=0
def tw13501055079608541408:=0
def tw1261488495794103447:=0
def tw10354748535775582448:=0
def tw11272169241533760471:=0
def tw3985136666781987739:=0
def tw7150569284448654114:=0
def tw10980914716620452865:=0
def tw6071203350735260119:=0
def tw4173575825022624962:=0
def tw15034473064682378604:=0
def tw546440752462501089:=0
def tw9398798110026856173:=0
def tw14772393096805527979:=0
def tw7432003651606880135:=0
def tw2270950166591429359:=0
def tw4200259740293313802:=0
def tw1345036545484112732:=0
def tw10238443437633530274:=0
def tw10498310537805619907:=0
def tw7732173622604714572:=0
def tw15569268415256473286:=0
def tw2696598868504073377:=0
def tw14359345852741823551:=0
def tw10675852791392908266:=0
def tw11760170494704292418:=0
def tw5404496137929445058:=0
def tw10865947849830275643:=0
def tw4027654946094231436:=0
def tw12522973380251886945:=0
def tw4888254984389996182:=0
def tw1217965109106012361:=0
def tw15924217842785577926:=0
def tw17682722321986653294:=0
def tw4693412523588658759:=0
def tw14168514006820212350:=0
def tw16720494018145792668:=0
def tw5008960728172324324:=0
def tw2745864054252139105:=0
def tw3410330360190979221:=0
def tw12920292701634977900:=0
def tw13052825320162815026:=0
def tw2739574673139198752:=0
def tw16621233284597467985:=0
def tw7145840345907662063:=0
end PySem.W.Fast
open PySem PySem.W PyProof.Rows
set_option maxRecDepth 100000 in
set_option maxHeartbeats 0 in
theorem PySem.Challenge.cw_sidecut_k26_sizes_by_slabs_holds : PySem.Challenge.rw_sidecut_k26_sizes_by_slabs.Holds := by
 w_on; o_law; k_head; (case hw => w_witness2)
 k_fill
 refine My.QU (l := PySem.Challenge.rw_sidecut_k26_sizes_by_slabs) rfl rfl (λw h Y => PySem.W.kIn_of Y) ?F
 case F =>
  intro w mg fa h KX G hmg
  refine' My.CJ KX G hmg ..
  any_goals exact My.fc rfl rfl rfl rfl
  any_goals k_is
  any_goals kernel_rfl
