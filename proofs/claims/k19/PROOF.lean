import PyProof.Rows.All
import Wide.All
import OpenK.AllK
import Wide.FinOn
import Lean
import PyProof.EqAt
import PyProof.EqKinds
import PyProof.TupleCall
import PyProof.NeKinds
import PyProof.ExcInit
import PyProof.Rows.SortStr
import PyProof.Rows.SortWalk
import PyProof.Rows.RuleB_bool
import PyProof.Rows.SortShellK
import KE.KIntText
import KE.KIsAll
import PyProof.AttrMissHeap
import PyProof.CompUse
import PyProof.Rows.CountFlat
import PyProof.DictCompW
import PyProof.StrCalls6
import PySem.Challenge.RW_sidecut_k19_blocks_told
set_option Elab.async false
set_option linter.all false
set_option bootstrap.genMatcherCode false
set_option compiler.extract_closed false
set_option maxRecDepth 100000
set_option maxHeartbeats 4000000
open List renaming getElem?_eq_some_iff -> UO, getElem?_eq_getElem -> UP, getElem?_map -> UQ, mem_of_getElem? -> UR, replicate -> US, length_append -> UT, mem_cons_of_mem -> UW, length_map -> UX, mem_cons -> UZ, mem_cons_self -> VB, range -> VC, map_append -> VE, size_toArray -> VG, append_assoc -> VH, getElem?_set_ne -> VI, length_singleton -> VL, getElem?_set_self -> VM, getElem?_append_left -> VO, length_cons -> VQ, getD_eq_getElem?_getD -> VR, mem_singleton -> VS, getElem?_append_right -> VU, mem_append_right -> VV, mem_append -> VX, length_take -> WE, drop_eq_getElem_cons -> WH, replicate_succ -> WI, append_nil -> WJ, nodup_cons -> WL, all_eq_true -> WM, map_cons -> WQ, getElem?_range -> WS, getElem?_eq_none -> WT, pairwise_cons -> WV, not_mem_nil -> WW, eq_nil_of_length_eq_zero -> WX, getElem?_take_of_lt -> WY, range_succ -> XA, take -> XB, getElem?_of_mem -> XC, mem_map -> XF, flatten_cons -> XH, length_drop -> XI, take_of_length_le -> XM, getElem_mem -> XN, lookup_cons -> XO, drop_length -> XQ, length_replicate -> XR, length_set -> XS, take_add_one -> XT, length_range -> XU, getElem?_replicate -> XW, length_pos_iff -> XX, dropLast_concat_getLast -> XY, set_comm -> YB, getElem?_take_eq_none -> YC, all_cons -> YD, reverse_cons -> YE, getElem?_set -> YF, take_length -> YJ, find?_cons -> YM, getElem?_drop -> YN, lookup -> YQ, mem_range -> ZH, getElem?_cons_succ -> ZL, mem_reverse -> ZO, eraseIdx_eq_take_drop_succ -> ZR, mem_append_left -> ZS, foldl -> ZU, Nodup -> ZY, filterMap_cons -> ZZ, mem_map_of_mem -> ae, any_cons -> ao, getElem?_inj -> aq, ext_getElem? -> aw, pairwise_iff_getElem -> bf, cons_append -> bh, map_map -> bq, mem_filter -> cq, of_mem_zip -> cy, length_nil -> df, range_succ_eq_map -> dq, drop_of_length_le -> dr, nodup_nil -> fb, map -> fh
open Nat renaming zero_le -> UU, le_refl -> VA, lt_of_lt_of_le -> VJ, lt_of_le_of_lt -> VT, ne_of_lt -> VY, le_trans -> VZ, le_of_lt -> WC, gcd -> WD, lt_or_ge -> WG, pow_le_pow_right -> WU, max_le -> XD, succ_le_succ -> YG, add_comm -> YH, lt_succ_self -> YI, gcd_dvd_right -> YR, le_max_right -> YT, gcd_dvd_left -> YU, mod_lt -> YV, Coprime -> YW, two_mul -> YX, le_max_left -> YY, gcd_comm -> ZD, gcd_pos_of_pos_right -> ZE, mul_le_mul -> ZK, log2_lt -> ZN, not_lt_zero -> ZX, max -> af, pow_two -> ah, eq_zero_or_pos -> aj, mul_lt_mul'' -> bw, log2 -> bz, lt_log2_self -> cf, exists_eq_add_of_le -> cn, le_succ -> dk, beq -> fe
open PySem.Heap renaming get?_push_of_some -> UY, lt_size -> VD, get?_push_size -> VF, size_push -> XG, SameBut -> YS, get?_update_self -> ZP, ExtBut -> ag, get?_update_other -> dj
open Bool renaming and_eq_true -> VN, false_ne_true -> YA, false_eq_true -> ZC, not_eq_true' -> ZM, eq_false_or_eq_true -> ck, eq_iff_iff -> de, and_false -> dw, false_or -> fi
open Option renaming map_eq_some_iff -> VP, toList_some -> YO, map_some -> ZV, isSome_iff_exists -> bg, bind_eq_some_iff -> cm
open PySem.Str renaming ofString -> VW
open Or renaming inl -> WA, inr -> WN
open Int renaming natAbs_mul -> WK, toNat_natCast -> WO, mul_ediv_cancel_left -> WZ, fdiv_eq_ediv_of_nonneg -> XE, ofNat_dvd_left -> XJ, mul_ne_zero -> YZ, emod_lt_of_pos -> ZF, natAbs_neg -> ZI, mul_nonneg -> ZJ, fmod_eq_emod_of_nonneg -> ak, mul_neg_of_neg_of_pos -> bc, lt_or_le -> br, mul_fdiv_cancel_left -> cj, emod_nonneg -> dh, mul_le_mul -> ff
open PySem.Value renaming ref -> WR, str -> YK, none -> ZG, bool -> fg
open PySem.Txt renaming replace -> XZ, join -> cg
open PySem.Obj renaming mapSeq -> YL
open Array renaming length_toList -> aa, getElem?_toList -> dz, toList -> fj
open PyProof.Rows renaming assignInOrder_cons -> jj, AllBare -> ju, envOfC -> jv, assignInOrder_nil -> ma
open PySem renaming Addr -> fk, wpAny_bind -> fm, wpAny -> fo, Stmt -> fq, model -> ft, Program -> fu, wpAny_pure -> fz, sizeLine -> gf, mainGlobals -> gj, World -> gn, assignEach -> gv, foldedSetIterable -> gw, eval -> ie, starEach -> ig, bootBuiltins -> ij, behindInMarks -> ik, FuncData -> ip, attributeBase -> iq, swapsWith -> ir, wpAny_holding -> iu, wpAny_truthy_bool -> iw, wpAny_newObj_type -> iy, compareOp -> ja, binaryOp -> jc, holding -> jd, swapsWithSole -> je, swappedStores -> jf, assign -> jg, wpAny_field -> jh, wpAny_mono -> ji, wpAny_passesOwn -> jn, wpAny_standAt -> jq, backTo -> jr, letOwnedTupleGo -> jt, sysModules -> jw, bindName -> jx, wpAny_call_entry -> jy, assignInOrder -> jz, getItem -> kc, sliceBounds -> ke, Scope -> kh, wpAny_execs_nil -> ki, wpAny_Call_Name_kw -> km, wpAny_setField_rec -> kn, wpAny_bindName -> ko, cLine -> kq, wpAny_seqItems -> kr, subscripted -> ky, IsZip -> kz, codeAny -> lh, call_meets -> lq, wpAny_pyIter_tuple -> ly, wpAny_rule -> md, callerA -> me, wpAny_execs_cons -> mf, codeAny_mono -> mh
open Option renaming some -> oZ
set_option hygiene false in
local macro_rules|`(~~~$x)=>`($x P w K mg base)
local macro_rules|`(↑$x)=>`(some (.p (.int $x)))
local macro_rules|`(↥$x)=>`(some (.o false $x))
local macro_rules|`(⇑$x)=>`(some (.p $x))
local macro_rules|`(⋯)=>`(by lia)
local macro_rules|`(∅)=>`(by decide)
theorem oY{p:Prop}[Decidable p](h:p):decide p=true:=decide_eq_true h
theorem oX{p:Prop}[Decidable p](h:¬p):decide p=false:=decide_eq_false h
theorem oV{c:Prop}{_:Decidable c}(h:c){α:Sort u}{t e:α}:ite c t e=t:=if_pos h
theorem oW{c:Prop}{_:Decidable c}(h:¬c){α:Sort u}{t e:α}:ite c t e=e:=if_neg h
open PySem renaming Value -> oA, Shared -> oB, Expr -> oC, Around -> oD, Heap -> oE
namespace L2
open PySem PySem.Spec PyProof.Rows
abbrev Key:=Sum Int Str
def Cm:Key->oA->Bool
 |.inl k,v=>Value.isInt k v
 |.inr x,v=>Value.isStrOf x v
def RC(w:gn):Key->Int
 |.inl k=>hashInt k
 |.inr x=>hashStr w x
theorem dI:∀{k:Key}{v:oA},Cm k v=true->(∃i t,k=Sum.inl i/\v=Value.int i t)\/(∃x t,k=Sum.inr x/\v=YK x t)
 |.inl i,v,h=>by
  obtain⟨t,e⟩:=Value.isInt_shape (k:=i) (v:=v) h;exact .inl ⟨i,t,rfl,e⟩
 |.inr x,v,h=>by
  obtain⟨t,e⟩:=Value.isStrOf_shape (x:=x) (v:=v) h;exact .inr ⟨x,t,rfl,e⟩
theorem Vg(i:Int)(t:Tok):Cm (.inl i) (.int i t)=true:=by simp[Cm,Value.isInt]
theorem Vh(x:Str)(t:Tok):Cm (.inr x) (.str x t)=true:=by simp[Cm,Value.isStrOf]
theorem FJ(a b:Int):decide ((Sum.inl a:Key)=Sum.inl b)=(a==b):=by
 by_cases e:a=b
 ·subst e;simp
 ·have h:¬(Sum.inl a:Key)=Sum.inl b:=λq=>e (Sum.inl.inj q);rw[oX h];exact(beq_eq_false_iff_ne.mpr e).symm
theorem FN(a b:Str):decide ((Sum.inr a:Key)=Sum.inr b)=decide (a=b):=by
 by_cases e:a=b
 ·subst e;simp
 ·have h:¬(Sum.inr a:Key)=Sum.inr b:=λq=>e (Sum.inr.inj q);rw[oX h,oX e]
theorem FK(a:Int)(b:Str):decide ((Sum.inl a:Key)=Sum.inr b)=false:=oX (λq=>nomatch q)
theorem FL(a:Str)(b:Int):decide ((Sum.inr a:Key)=Sum.inl b)=false:=oX (λq=>nomatch q)
def fU(prog:fu)(w:gn):PySem.KeyKind prog w Key where
 is:=Cm
 hash:=RC w
 inj:=λv a b ha hb=>by
  obtain⟨i,t,rfl,rfl⟩|⟨x,t,rfl,rfl⟩:=dI ha
  ·obtain⟨j,u,rfl,e⟩|⟨y,u,rfl,e⟩:=dI hb
   ·injection e with e1 _;rw[e1]
   ·exact nomatch e
  ·obtain⟨j,u,rfl,e⟩|⟨y,u,rfl,e⟩:=dI hb
   ·exact nomatch e
   ·injection e with e1 _;rw[e1]
 byValue:=λk v h=>by
  rcases dI h with⟨i,t,rfl,rfl⟩|⟨x,t,rfl,rfl⟩<;>rfl
 pyHash:=λhv h=>by
  obtain⟨i,t,rfl,rfl⟩|⟨x,t,rfl,rfl⟩:=dI hv
  ·exact wpAny_pyHash_int h
  ·exact wpAny_pyHash_str h
 eqBool:=λhu hv h=>by
  obtain⟨i,t,rfl,rfl⟩|⟨x,t,rfl,rfl⟩:=dI hu
  ·obtain⟨j,u,rfl,rfl⟩|⟨y,u,rfl,rfl⟩:=dI hv
   ·rw[FJ]at h;exact wpAny_eqBool_int h
   ·rw[FK]at h;exact SeqAt.EqAt.int_str i t y u _ _ _ _ h
  ·obtain⟨j,u,rfl,rfl⟩|⟨y,u,rfl,rfl⟩:=dI hv
   ·rw[FL]at h;exact SeqAt.EqAt.str_int x t j u _ _ _ _ h
   ·rw[FN]at h;exact wpAny_eqBool_str h
 «strs»:=λk x t v h=>by
  obtain⟨i,u,rfl,e⟩|⟨y,u,rfl,e⟩:=dI h
  ·exact nomatch e
  ·injection e with e1 _;subst e1;cases v<;>rfl
theorem Ji(prog:fu)(w:gn)(i:Int)(t:Tok):(fU prog w).is (.inl i) (.int i t)=true:=Vg i t
theorem fE(prog:fu)(w:gn)(x:Str)(t:Tok):(fU prog w).is (.inr x) (.str x t)=true:=Vh x t
inductive V where
 |non|bl (b:Bool)|int (i:Int)|str (x:Str)|byt (b:Array UInt8)|flt (b:UInt64)|ref (a:fk)|ty (n:String)
 deriving DecidableEq
def bJ:V->oA->Prop
 |.non,u=>u=ZG
 |.bl b,u=>u=fg b
 |.int i,u=>∃t,u=Value.int i t
 |.str x,u=>∃t,u=YK x t
 |.byt b,u=>∃t,u=Value.bytes b t
 |.flt b,u=>∃t,u=Value.float b t
 |.ref a,u=>u=WR a
 |.ty n,u=>u=Value.type n
abbrev bC:List V->List oA->Prop:=Paired bJ
theorem bC.length(r:bC xs us):xs.length=us.length:=Paired.length r
theorem bC.get:∀{xs:List V}{us:List oA}{i:Nat}{x:V},bC xs us->xs[i]?=oZ x->∃u,us[i]?=oZ u/\bJ x u
 |_,_,_,_,.nil,e=>by simp at e
 |_,_,0,_,.cons r _,e=>by simp at e;subst e;exact⟨_,rfl,r⟩
 |_,_,i+1,x,.cons _ t,e=>by
  obtain⟨u,h1,h2⟩:=bC.get (i:=i) (x:=x) t (by simpa using e);exact⟨u,by simpa using h1,h2⟩
theorem bC.set(r:bJ x u):∀{xs:List V}{us:List oA}(i:Nat),bC xs us->bC (xs.set i x) (us.set i u)
 |_,_,_,.nil=>.nil
 |_,_,0,.cons _ t=>.cons r t
 |_,_,i+1,.cons q t=>.cons q (bC.set r i t)
theorem bC.append:∀{xs ys:List V}{us ws:List oA},bC xs us->bC ys ws->bC (xs++ys) (us++ws):=by
 intro xs ys us ws h s
 induction h with
 |nil=>exact s
 |cons r t ih=>exact .cons r ih
theorem bC.take:∀{xs:List V}{us:List oA}(n:Nat),bC xs us->bC (xs.take n) (us.take n)
 |_,_,0,_=>.nil
 |_,_,_+1,.nil=>.nil
 |_,_,n+1,.cons r t=>.cons r (bC.take n t)
theorem bC.drop:∀{xs:List V}{us:List oA}(n:Nat),bC xs us->bC (xs.drop n) (us.drop n)
 |_,_,0,r=>r
 |_,_,_+1,.nil=>.nil
 |_,_,n+1,.cons _ t=>bC.drop n t
def Ap:Option V->Option oA->Prop
 |some v,oZ u=>bJ v u
 |none,none=>True
 |_,_=>False
def KV{κ:Type}:List (κ×V)->List (κ×oA)->Prop:=Paired λ(p:κ×V)(q:κ×oA)=>p.1=q.1/\bJ p.2 q.2
def kV:Key->V
 |.inl i=>.int i
 |.inr x=>.str x
inductive HO where
 |lst (xs:List V)
 |tup (xs:List V)
 |dK (mr:List (Key×V))|dT (mr:List (List Key×V))
 |set (S:Int->Bool) (n:Nat)
 |ins (C dx:fk) (fs:List (Str×V))
 |own (x:fk)
 |xd (fs:List (Str×V))
 |met (f x:fk)
 |rng (lo hi:Int)
 |frz (o:Obj) (u:HO)
 |tbl (ps:Array oA)
 |ext (φ:oE->Prop)
abbrev Hp:=fk->Option HO
def upd(H:Hp)(a:fk)(o:HO):Hp:=λb=>if b=a then oZ o else H b
theorem cR:upd H a o a=oZ o:=by unfold upd;rw[oV rfl]
theorem aV(h:b≠a):upd H a o b=H b:=by unfold upd;rw[oW h]
theorem AJ:upd (upd H a o) a u=upd H a u:=by
 funext b;unfold upd;split<;>rfl
theorem a9{H:Hp}(h:H a=oZ o)(h':H b=none):a≠b:=by
 intro e;subst e;rw[h]at h';cases h'
section
variable(P:fu)(w:gn)
def eH(H:Hp)(h:oE)(a:fk):HO->Prop
 |.lst xs=>xs.length<=gf/\∃(mq:List oA)(n:Nat),bC xs mq/\h.get? a=oZ { cls:=.type "list",data:=.seq mq.toArray n }
 |.tup xs=>xs.length<=gf/\∃mq:List oA,bC xs mq/\IsTup h a mq.toArray
 |.dK mr=>mr.length<=gf/\(a==jw)=false/\∃vs,KV mr vs/\h.DictOf (fU P w) a vs
 |.dT mr=>mr.length<=gf/\(a==jw)=false/\∃xs:List (List Key×fk×oA),
   Paired (λ(p:List Key×V)(q:List Key×fk×oA)=>p.1=q.1/\H q.2.1=oZ (.tup (p.1.map kV))/\bJ p.2 q.2.2) mr xs/\
   ∃o es ep,h.get? a=oZ o/\o.ExactDict/\o.data = .dict es ep/\es.toList=xs.map (entryOfKey (tupleKind (fU P w)))/\(xs.map (·.1)).Nodup
 |.set S n=>h.SetOf (intKind P w) a S n
 |.ins C dx fs=>H dx=oZ (.own a)/\fs.length<=1000/\dx≠a/\h.get? a=oZ (W.instObj C dx)/\
   ∃mA,h.Ns1 dx mA/\(∀f,Ap (fs.lookup f) (mA f))/\PySem.Within mA (fs.map (·.1))
 |.own _=>∃o,h.get? a=oZ o
 |.xd fs=>∃mA,h.Ns1 a mA/\∀f,Ap (fs.lookup f) (mA f)
 |.rng lo hi=>∃t u v,h.get? a=oZ { cls:=.type "range",data:=.fields #[.int lo t,.int hi u,.int 1 v] }
 |.frz o u=>h.get? a=oZ o/\eH H h a u
 |.tbl ps=>h.get? a=oZ { cls:=.none,data:=.fields ps }
 |.met f x=>h.get? a=oZ (W.methodObj (.ref f) (.ref x))
 |.ext φ=>φ h/\(∃o,h.get? a=oZ o)/\∀h1 h2:oE,φ h1->(∀o,h1.get? a=oZ o->h2.get? a=oZ o)->φ h2
def qY(H:Hp)(h:oE):Prop:=∀a o,H a=oZ o->eH P w H h a o
end
theorem eH.lt(x:eH P w H h a o):a<h.objs.size:=by
 cases o with
 |lst xs=>obtain⟨_,_,_,_,e⟩:=x;exact VD e
 |tup xs=>obtain⟨_,_,_,p⟩:=x;exact p.lt
 |dK mr=>obtain⟨_,_,_,_,o,_,_,e,_⟩:=x;exact VD e
 |dT mr=>obtain⟨_,_,_,_,o,_,_,e,_⟩:=x;exact VD e
 |set S n=>obtain⟨o,_,_,_,e,_⟩:=x;exact VD e
 |ins C dx fs=>obtain⟨_,_,_,e,_⟩:=x;exact VD e
 |own y=>obtain⟨_,e⟩:=x;exact VD e
 |xd fs=>obtain⟨_,⟨_,_,_,e,_⟩,_⟩:=x;exact VD e
 |rng lo hi=>obtain⟨_,_,_,e⟩:=x;exact VD e
 |frz ob u=>obtain⟨e,_⟩:=x;exact VD e
 |tbl ps=>exact VD (show h.get? a=oZ _ from x)
 |met f y=>exact VD (show h.get? a=oZ _ from x)
 |ext φ=>obtain⟨_,⟨_,e⟩,_⟩:=x;exact VD e
theorem Paired.mapP{α β:Type}{F G:α->β->Prop}:∀{l₁:List α}{l₂:List β},Paired F l₁ l₂->(∀a b,F a b->G a b)->Paired G l₁ l₂:=by
 intro l₁ l₂ h f
 induction h with
 |nil=>exact .nil
 |cons r t ih=>exact .cons (f _ _ r) ih
theorem eH.stay(x:eH P w H h a o)(k:∀b u,(b=a\/H b=oZ (.own a))->h.get? b=oZ u->h'.get? b=oZ u)(ho:∀b,H b=oZ (.own a)->H' b=oZ (.own a))(ht:∀b xs,H b=oZ (.tup xs)->H' b=oZ (.tup xs)):eH P w H' h' a o:=by
 induction o with
 |lst xs=>obtain⟨z,mq,n,r,e⟩:=x;exact⟨z,mq,n,r,k _ _ (.inl rfl) e⟩
 |tup xs=>obtain⟨z,mq,r,ob,e,c⟩:=x;exact⟨z,mq,r,ob,k _ _ (.inl rfl) e,c⟩
 |dK mr=>obtain⟨z,y,vs,r,ob,es,ep,e,c⟩:=x;exact⟨z,y,vs,r,ob,es,ep,k _ _ (.inl rfl) e,c⟩
 |dT mr=>
  obtain⟨z,y,xs,r,ob,es,ep,e,c⟩:=x;exact⟨z,y,xs,Paired.mapP r λp q z=>⟨z.1,ht _ _ z.2.1,z.2.2⟩,ob,es,ep,k _ _ (.inl rfl) e,c⟩
 |set S n=>obtain⟨ob,es,ep,t,e,c⟩:=x;exact⟨ob,es,ep,t,k _ _ (.inl rfl) e,c⟩
 |ins C dx fs=>
  obtain⟨d,z,ne,e,mA,⟨od,es,ep,e2,c⟩,r⟩:=x;exact⟨ho _ d,z,ne,k _ _ (.inl rfl) e,mA,⟨od,es,ep,k _ _ (.inr d) e2,c⟩,r⟩
 |own y=>obtain⟨ob,e⟩:=x;exact⟨ob,k _ _ (.inl rfl) e⟩
 |xd fs=>obtain⟨mA,⟨od,es,ep,e,c⟩,r⟩:=x;exact⟨mA,⟨od,es,ep,k _ _ (.inl rfl) e,c⟩,r⟩
 |rng lo hi=>obtain⟨t,u,v,e⟩:=x;exact⟨t,u,v,k _ _ (.inl rfl) e⟩
 |frz ob u ih=>obtain⟨e,q⟩:=x;exact⟨k _ _ (.inl rfl) e,ih q⟩
 |tbl ps=>
  have e:h.get? a=oZ { cls:=.none,data:=.fields ps }:=x;show h'.get? a=oZ { cls:=.none,data:=.fields ps };exact k a _ (.inl rfl) e
 |met f y=>
  have e:h.get? a=oZ (W.methodObj (.ref f) (.ref y)):=x;show h'.get? a=oZ (W.methodObj (.ref f) (.ref y));exact k a _ (.inl rfl) e
 |ext φ=>obtain⟨p,⟨o,e⟩,st⟩:=x;exact⟨st _ _ p λo q=>k _ _ (.inl rfl) q,⟨o,k _ _ (.inl rfl) e⟩,st⟩
theorem qY.lt(x:qY P w H h)(e:H a=oZ o):a<h.objs.size:=(x a o e).lt
theorem qY.fresh(x:qY P w H h)(e:h.objs.size<=a):H a=none:=by
 cases q:H a with
 |none=>rfl
 |some u=>exact absurd (VJ (x.lt q) e) (Nat.lt_irrefl _)
theorem qY.kept(x:qY P w H h)(k:∀b u,h.get? b=oZ u->h'.get? b=oZ u):qY P w H h':=λa o e=>
 (x a o e).stay (λb u _ q=>k b u q) (λ_ q=>q) λ_ _ q=>q
theorem qY.laid(x:qY P w H h)(k:∀b u,h.get? b=oZ u->h'.get? b=oZ u)(hp:h.objs.size<=a)(new:eH P w (upd H a o) h' a o):qY P w (upd H a o) h':=λb u e=>by
 have hn:=x.fresh hp
 by_cases hb:b=a
 ·subst hb;rw[cR]at e;cases e;exact new
 ·rw[aV hb]at e;exact(x b u e).stay (λc v _ q=>k c v q) (λc q=>by rw[aV (a9 q hn)];exact q) λc xs q=>by rw[aV (a9 q hn)];exact q
def Rd(H:Hp)(a:fk)(u:HO):Prop:=H a=oZ u\/∃o,H a=oZ (.frz o u)
theorem Rd.ok(r:Rd H a u)(x:qY P w H h):eH P w H h a u:=by
 obtain r|⟨o,r⟩:=r
 ·exact x a u r
 ·obtain⟨_,q⟩:=x a _ r;exact q
def JE:Option HO->Prop
 |some (.lst _)=>True
 |some (.dK _)=>True
 |some (.dT _)=>True
 |some (.set _ _)=>True
 |some (.ins _ _ _)=>True
 |some (.ext _)=>True
 |_=>False
theorem qY.write(ok:qY P w H h)(mu:JE (H x))(he:e=x\/H e=oZ (.own x))(k:∀b u,b≠e->h.get? b=oZ u->h'.get? b=oZ u)(heo:∃u,h'.get? e=oZ u)(new:eH P w (upd H x o') h' x o'):qY P w (upd H x o') h':=λb u q=>by
 have aEZ:∀c y,H c=oZ (.own y)->c≠x:=λc y r z=>by subst z;rw[r]at mu;exact mu
 have aG7:∀c xs,H c=oZ (.tup xs)->c≠x:=λc xs r z=>by subst z;rw[r]at mu;exact mu
 by_cases hb:b=x
 ·subst hb;rw[cR]at q;cases q;exact new
 ·rw[aV hb]at q
  by_cases hbe:b=e
  ·have q':H b=oZ (.own x):=by
    obtain z|z:=he
    ·exact absurd (hbe.trans z) hb
    ·rw[hbe];exact z
   rw[q]at q';cases q';obtain⟨v,hv⟩:=heo;exact⟨v,by rw[hbe];exact hv⟩
  ·refine(ok b u q).stay (λc v hc r=>k c v ?_ r) (λc r=>by rw[aV (aEZ c b r)];exact r) λc xs r=>by rw[aV (aG7 c xs r)];exact r
   obtain rfl|hc:=hc
   ·exact hbe
   ·rintro rfl;obtain z|z:=he
    ·exact aEZ c b hc z
    ·rw[hc]at z;cases z;exact hb rfl
structure Un(fs ex:List fk)(H H':Hp)(h h':oE):Prop where
 keep:∀b o,h.get? b=oZ o->H b=none->b∉fs->b∉ex->h'.get? b=oZ o
 slot:∀b o,h.get? b=oZ o->H b=none->b∈fs->b∉ex->∃sl,h'.get? b=oZ { o with slots:=sl }
 free:∀b o,h.get? b=oZ o->H b=none->b∉ex->H' b=none
 there:∀b o,h.get? b=oZ o->b∉ex->∃o',h'.get? b=oZ o'
 tups:∀b xs,H b=oZ (.tup xs)->H' b=oZ (.tup xs)
 frzs:∀b o u,H b=oZ (.frz o u)->H' b=oZ (.frz o u)
 tbls:∀b ps,H b=oZ (.tbl ps)->∃more,H' b=oZ (.tbl (ps++more))
theorem Un.any(u:Un fs ex H H1 h h1)(q:h.get? b=oZ ob)(n:H b=none)(hx:b∉ex):∃sl,h1.get? b=oZ { ob with slots:=sl }:=by
 by_cases hb:b∈fs
 ·exact u.slot b ob q n hb hx
 ·exact⟨ob.slots,u.keep b ob q n hb hx⟩
theorem Un.kept(k:∀b u,h.get? b=oZ u->h'.get? b=oZ u):Un fs ex H H h h':=
 ⟨λb ob q _ _ _=>k b ob q,λb ob q _ _ _=>⟨ob.slots,k b ob q⟩,λ_ _ _ n _=>n,λb ob q _=>⟨ob,k b ob q⟩,λ_ _ q=>q,λ_ _ _ q=>q,λ_ ps q=>⟨#[],by rw[q];simp⟩⟩
theorem Un.refl:Un fs ex H H h h:=Un.kept λ_ _ q=>q
theorem Un.laid{fs:List fk}{ex:List fk}{H:Hp}{h:oE}{h':oE}{a:fk}{o:HO}(k:∀b u,h.get? b=oZ u->h'.get? b=oZ u)(hp:h.objs.size<=a)(hn:H a=none):Un fs ex H (upd H a o) h h' where
 keep:=λb u q _ _ _=>k b u q
 slot:=λb u q _ _ _=>⟨u.slots,k b u q⟩
 free:=λb u q n _=>by rw[aV (VY (VJ (VD q) hp))];exact n
 there:=λb u q _=>⟨u,k b u q⟩
 tups:=λb xs q=>by rw[aV (a9 q hn)];exact q
 frzs:=λb u xs q=>by rw[aV (a9 q hn)];exact q
 tbls:=λb ps q=>⟨#[],by rw[aV (a9 q hn),q];simp⟩
theorem Un.write(mu:JE (H x))(he:e=x\/H e=oZ (.own x))(k:∀b u,b≠e->h.get? b=oZ u->h'.get? b=oZ u)(heo:∃u,h'.get? e=oZ u):Un fs ex H (upd H x o) h h':=by
 have hx:∀b,H b=none->b≠x:=λb n z=>by subst z;rw[n]at mu;exact mu
 have hb:∀b,H b=none->b≠e:=λb n z=>by
  subst z;obtain r|r:=he
  ·exact hx b n r
  ·rw[n]at r;cases r
 have hm:∀b u,H b=oZ u->¬JE (oZ u)->b≠x:=λb u q nm z=>by subst z;rw[q]at mu;exact nm mu
 refine⟨λb u q n _ _=>k b u (hb b n) q,λb u q n _ _=>⟨u.slots,k b u (hb b n) q⟩,λb u q n _=>by rw[aV (hx b n)];exact n,λb u q _=>?_,
  λb xs q=>by rw[aV (hm b _ q λz=>z)];exact q,λb u xs q=>by rw[aV (hm b _ q λz=>z)];exact q,λb ps q=>⟨#[],by rw[aV (hm b _ q λz=>z),q];simp⟩⟩
 by_cases hbe:b=e
 ·subst hbe;exact heo
 ·exact⟨u,k b u hbe q⟩
def PD(h:oE)(H:Hp):List fk:=(VC h.objs.size).filter λa=>(H a).isSome
def Er(h:oE)(H:Hp):oE:=W.hideAll h (PD h H)
theorem Vd(h:oE)(H:Hp):(Er h H).objs.size=h.objs.size:=W.hideAll_size _ _
theorem Yt(e:h.get? b=oZ o)(n:H b=none):(Er h H).get? b=oZ o:=
 W.hideAll_get _ e λhm=>by
  have q:(H b).isSome=true:=(cq.mp hm).2;rw[n]at q;simp at q
theorem S9(e:(Er h H).get? b=oZ o):h.get? b=oZ o/\H b=none:=by
 have e':h.get? b=oZ o:=W.of_hideAll (PD h H) e;refine⟨e',?_⟩;cases q:H b with
 |none=>rfl
 |some x=>
  have hm:b∈PD h H:=cq.mpr ⟨ZH.mpr (VD e'),by simp[q]⟩;have z:(Er h H).get? b=none:=W.hideAll_none (PD h H) hm;rw[z]at e;cases e
structure Mod(K:W.Frag)(mg:Str->Option oA)(base:oE):Prop where
 kin:K.In base
 glob:base.Ns gj mg
 blt:∃mb,base.Ns builtinsNs mb/\∀x:Str,x≠"__name__"->mb x=ij x
 nolimit:base.NoLimit
structure Cx where
 prog:fu
 w:gn
 K:W.Frag
 mg:Str->Option oA
 base:oE
 A:oD
 N:List Str
 s₀:oB
 H₀:Hp
 env:Env
 outer:List Env
 stack:List Env
 ex:List fk
 fn:Str->Bool
 calm:Bool
 pn:List (fk×Obj)
 xe:oA->oB->Prop
def Lp(l:List Env):List fk:=l.filterMap (·.frame)
abbrev Cx.fs(X:Cx):List fk:=Lp X.outer
def O1(sc:kh)(x:Str):Prop:=sc.names.lookup x=oZ .local\/sc.names.lookup x=oZ .cell\/sc.names.lookup x=oZ .free
def uG(sc:kh)(x:Str):Prop:=sc.names.lookup x=oZ .local\/sc.names.lookup x=oZ .cell
def PL(env:Env)(h:oE)(m:Str->Option oA)(x:Str)(u:oA):Prop:=
 (env.kindOf x=oZ .local/\m x=oZ u)\/((env.kindOf x=oZ .cell\/env.kindOf x=oZ .free)/\∃c,env.cells.lookup x=oZ c/\h.IsCell c (oZ u))
structure Cx.Ok(X:Cx):Prop where
 mod:Mod X.K X.mg X.base
 kind:X.env.scope.kind = .function
 glob:X.env.globals=gj
 blt:X.env.builtins=builtinsNs
 above:X.s₀.heap.objs.size<=X.env.locals
 inj:∀x y c,X.env.cells.lookup x=oZ c->X.env.cells.lookup y=oZ c->x=y
 has:∀x,(X.env.kindOf x=oZ .cell\/X.env.kindOf x=oZ .free)->∃c,X.env.cells.lookup x=oZ c
 cab:∀x c,X.fn x=true->X.env.cells.lookup x=oZ c->X.s₀.heap.objs.size<=c
 hd:X.calm=true->X.A.handled=none
 frames:X.A.frames=oZ X.stack
 stk:X.stack=X.outer\/(X.stack=X.env::X.outer/\X.env.frame=oZ X.env.locals)
 exf:∀b∈X.ex,b≠X.env.locals/\∀x c,X.env.cells.lookup x=oZ c->c≠b
 bs:∀b o,X.base.get? b=oZ o->X.s₀.heap.get? b=oZ o/\X.H₀ b=none
 bsz:X.base.objs.size<=X.s₀.heap.objs.size
 noex:∀b o,X.base.get? b=oZ o->b∉X.ex
 exfs:∀b∈X.ex,b∉X.fs
 funs:X.s₀.heap.FunFrames X.base X.outer
 frf:∀b∈X.fs,X.H₀ b=none
structure aW(X:Cx)(pins:List (fk×Obj))(σ:List (Option V))(H:Hp)(s:oB):Prop where
 ok:X.Ok
 os:s.os=X.s₀.os
 bare:ju s.gens
 base:Un X.fs X.ex X.H₀ H X.s₀.heap s.heap
 loc:∃m,s.heap.Ns X.env.locals m/\∀(i:Nat)(x:Str)(v:V),X.N[i]?=oZ x->σ[i]?=oZ (oZ v)->O1 X.env.scope x->∃u,bJ v u/\PL X.env s.heap m x u
 cell:∀x c,X.env.cells.lookup x=oZ c->∃v,s.heap.IsCell c v
 free:H X.env.locals=none
 freeC:∀x c,X.env.cells.lookup x=oZ c->H c=none
 pin:∀p∈X.pn++pins,s.heap.get? p.1=oZ p.2/\H p.1=none/\p.1≠X.env.locals/\p.1∉X.fs/\∀v,p.2.data≠.cell v
 hok:qY X.prog X.w H s.heap
 len:σ.length=X.N.length
theorem Cx.Ok.nofr{X:Cx}(ok:X.Ok)(e:X.base.get? b=oZ o):b∉X.fs:=λhb=>by
 have:=(ok.funs.mem hb).1;rw[e]at this;cases this
theorem aW.bs(I:aW X pins σ H s):∀b o,X.base.get? b=oZ o->s.heap.get? b=oZ o/\H b=none:=λb o e=>
 ⟨I.base.keep b o (I.ok.bs b o e).1 (I.ok.bs b o e).2 (I.ok.nofr e) (I.ok.noex b o e),I.base.free b o (I.ok.bs b o e).1 (I.ok.bs b o e).2 (I.ok.noex b o e)⟩
theorem aW.bk(I:aW X pins σ H s):∀b o,X.base.get? b=oZ o->s.heap.get? b=oZ o:=λb o e=>(I.bs b o e).1
theorem aW.mod(I:aW X pins σ H s):Mod X.K X.mg X.base:=I.ok.mod
theorem aW.kIn(I:aW X pins σ H s):X.K.In s.heap:=I.ok.mod.kin.keeps I.bk
theorem aW.lt(I:aW X pins σ H s):X.env.locals<s.heap.objs.size:=let⟨_,hn,_⟩:=I.loc;hn.lt
theorem aW.sz(I:aW X pins σ H s):X.s₀.heap.objs.size<=s.heap.objs.size:=VZ I.ok.above (WC I.lt)
theorem aW.nofs(I:aW X pins σ H s)(h:s.heap.objs.size<=a):a∉X.fs:=λhb=>by
 obtain⟨_,o,ho,_⟩:=I.ok.funs.mem hb;exact absurd (VJ (VD ho) (VZ I.sz h)) (Nat.lt_irrefl _)
theorem aW.cne(I:aW X pins σ H s):∀x c,X.env.cells.lookup x=oZ c->c≠X.env.locals:=λx c e z=>by
 obtain⟨v,o,ho,hd⟩:=I.cell x c e;obtain⟨m,⟨o',es,ep,ho',hd',_⟩,_⟩:=I.loc;rw[z,ho']at ho;cases ho;rw[hd']at hd;cases hd
theorem aW.funs(I:aW X pins σ H s):s.heap.FunFrames X.base X.outer:=by
 have all:∀(l:List Env),(∀b∈Lp l,b∈X.fs)->X.s₀.heap.FunFrames X.base l->s.heap.FunFrames X.base l:=by
  intro l
  induction l with
  |nil=>intro _ _;trivial
  |cons env r ih=>
   intro hs hl;obtain⟨hk,⟨L,o,hf,hn,ho,hd⟩,hr⟩:=hl;have hL:L∈X.fs:=hs L (by unfold Lp;rw[ZZ,hf];exact VB);obtain⟨sl,e⟩:=I.base.slot L o ho (I.ok.frf L hL) hL λz=>I.ok.exfs L z hL;exact⟨hk,⟨L,_,hf,hn,e,hd⟩,ih (λb hb=>hs b (by unfold Lp;rw[ZZ,hf];exact UW _ hb)) hr⟩
 exact all X.outer (λ_ hb=>hb) I.ok.funs
theorem aW.stack(I:aW X pins σ H s):s.heap.FunFrames X.base X.stack:=by
 obtain e|⟨e,hf⟩:=I.ok.stk
 ·rw[e];exact I.funs
 ·rw[e];obtain⟨m,hn,_⟩:=I.loc;refine .cons (by rw[I.ok.kind];decide) hf hn ?_ I.funs;exact Heap.get?_none_of_le (VZ I.ok.bsz I.ok.above)
theorem aW.stkSub(I:aW X pins σ H s):∀b∈Lp X.stack,b∈X.env.locals::X.fs:=λb hb=>by
 obtain e|⟨e,hf⟩:=I.ok.stk
 ·rw[e]at hb;exact UW _ hb
 ·rw[e]at hb;unfold Lp at hb;rw[ZZ,hf]at hb;exact hb
theorem aW.stkFree(I:aW X pins σ H s):∀b∈Lp X.stack,H b=none:=λb hb=>by
 obtain e|hb:=UZ.mp (I.stkSub b hb)
 ·rw[e];exact I.free
 ·obtain⟨_,o,ho,_⟩:=I.ok.funs.mem hb;exact I.base.free b o ho (I.ok.frf b hb) λz=>I.ok.exfs b z hb
theorem aW.step{X:Cx}{pins:List (fk×Obj)}{σ:List (Option V)}{H:Hp}{H':Hp}{s:oB}{h':oE}{g':Array GenState}{t':Nat}{ch:List fk}(I:aW X pins σ H s)(hch:∀b∈ch,(b∈X.ex\/X.s₀.heap.objs.size<=b)/\b≠X.env.locals/\(∀x c,X.env.cells.lookup x=oZ c->c≠b)/\∀p∈X.pn++pins,p.1≠b)(keep:∀b o,b≠X.env.locals->b∉X.fs->b∉ch->s.heap.get? b=oZ o->H b=none->h'.get? b=oZ o)(slot:∀b o,b≠X.env.locals->b∈X.fs->b∉ch->s.heap.get? b=oZ o->H b=none->∃sl,h'.get? b=oZ { o with slots:=sl })(free:∀b o,b∉ch->s.heap.get? b=oZ o->H b=none->H' b=none)(there:∀b o,b∉ch->s.heap.get? b=oZ o->∃o',h'.get? b=oZ o')(tups:∀b xs,H b=oZ (.tup xs)->H' b=oZ (.tup xs))(frzs:∀b o u,H b=oZ (.frz o u)->H' b=oZ (.frz o u))(tbls:∀b ps,H b=oZ (.tbl ps)->∃more,H' b=oZ (.tbl (ps++more)))(ns:∀m,s.heap.Ns X.env.locals m->h'.Ns X.env.locals m)(hok:qY X.prog X.w H' h')(hg:ju g'):
  aW X pins σ H' { s with heap:=h',gens:=g',drawn:=d',toks:=t' }:=by
 have neL:∀b o,X.s₀.heap.get? b=oZ o->b≠X.env.locals:=λb o e=>VY (VJ (VD e) I.ok.above);have neC:∀b o,X.s₀.heap.get? b=oZ o->b∉X.ex->b∉ch:=λb o e hx hb=>by
  rcases(hch b hb).1 with z|z
  ·exact hx z
  ·exact absurd (VJ (VD e) z) (Nat.lt_irrefl _)
 have cellK:∀x c,X.env.cells.lookup x=oZ c->∀v,s.heap.IsCell c v->h'.IsCell c v:=λx c e v zZ=>by
  obtain⟨o,ho,hd⟩:=zZ;have nch:c∉ch:=λz=>(hch c z).2.2.1 x c e rfl
  by_cases hc:c∈X.fs
  ·obtain⟨sl,q⟩:=slot c o (I.cne x c e) hc nch ho (I.freeC x c e);exact⟨_,q,hd⟩
  ·exact⟨o,keep c o (I.cne x c e) hc nch ho (I.freeC x c e),hd⟩
 refine⟨I.ok,I.os,hg,⟨λb o e n hb hx=>?_,λb o e n hb hx=>?_,λb o e n hx=>?_,λb o e hx=>?_,λb xs e=>tups b xs (I.base.tups b xs e),λb o xs e=>frzs b o xs (I.base.frzs b o xs e),λb ps e=>?_⟩,?_,λx c e=>?_,?_,λx c e=>?_,λp hp=>?_,hok,I.len⟩
 ·exact keep b o (neL b o e) hb (neC b o e hx) (I.base.keep b o e n hb hx) (I.base.free b o e n hx)
 ·obtain⟨sl,e1⟩:=I.base.slot b o e n hb hx;obtain⟨sl',e2⟩:=slot b _ (neL b o e) hb (neC b o e hx) e1 (I.base.free b o e n hx);exact⟨sl',e2⟩
 ·obtain⟨o',e1⟩:=I.base.there b o e hx;exact free b o' (neC b o e hx) e1 (I.base.free b o e n hx)
 ·obtain⟨o',e1⟩:=I.base.there b o e hx;exact there b o' (neC b o e hx) e1
 ·obtain⟨m1,e1⟩:=I.base.tbls b ps e;obtain⟨m2,e2⟩:=tbls b _ e1;exact⟨m1++m2,by rw[e2,Array.append_assoc]⟩
 ·obtain⟨m,hn,hl⟩:=I.loc;refine⟨m,ns m hn,λi x v e1 e2 e3=>?_⟩;obtain⟨u,r,l⟩:=hl i x v e1 e2 e3;refine⟨u,r,?_⟩;obtain l|⟨k,c,e,z⟩:=l
  ·exact .inl l
  ·exact .inr ⟨k,c,e,cellK x c e _ z⟩
 ·obtain⟨v,z⟩:=I.cell x c e;exact⟨v,cellK x c e v z⟩
 ·obtain⟨m,⟨o,_,_,ho,_⟩,_⟩:=I.loc;exact free _ o (λz=>(hch _ z).2.1 rfl) ho I.free
 ·obtain⟨v,o,ho,hd⟩:=I.cell x c e;exact free c o (λz=>(hch c z).2.2.1 x c e rfl) ho (I.freeC x c e)
 ·obtain⟨e,n,ne,nf,d⟩:=I.pin p hp;have nch:p.1∉ch:=λz=>(hch p.1 z).2.2.2 p hp rfl;exact⟨keep p.1 p.2 ne nf nch e n,free p.1 p.2 nch e n,ne,nf,d⟩
theorem aW.un(I:aW X pins σ H s)(u:Un X.fs [] H H' s.heap h')(hok:qY X.prog X.w H' h'):aW X pins σ H' { s with heap:=h',toks:=t' }:=by
 obtain⟨m,⟨o,es,ep,ho,r⟩,_⟩:=id I.loc;obtain⟨sl,hL⟩:=u.any ho I.free (by simp);exact I.step (g':=s.gens) (d':=s.drawn) (ch:=[]) (λ_ z=>nomatch z) (λb o _ hb _ e n=>u.keep b o e n hb (by simp)) (λb o _ hb _ e n=>u.slot b o e n hb (by simp)) (λb o _ e n=>u.free b o e n (by simp)) (λb o _ e=>u.there b o e (by simp)) u.tups u.frzs u.tbls (λm' hm=>by
  obtain⟨o',es',ep',ho',r'⟩:=hm;rw[ho]at ho';cases ho';exact⟨_,es',ep',hL,r'⟩) hok I.bare
theorem aW.call(I:aW X pins σ H s)(u:Un (Lp X.stack) ch H H' s.heap h')(hok:qY X.prog X.w H' h')(hg:ju g')(hch:∀b∈ch,(b∈X.ex\/X.s₀.heap.objs.size<=b)/\b≠X.env.locals/\(∀x c,X.env.cells.lookup x=oZ c->c≠b)/\∀p∈X.pn++pins,p.1≠b):
  aW X pins σ H' { s with heap:=h',gens:=g',drawn:=d',toks:=t' }:=by
 obtain⟨m,⟨o,es,ep,ho,r⟩,_⟩:=id I.loc;obtain⟨sl,hL⟩:=u.any ho I.free λz=>(hch _ z).2.1 rfl;exact I.step (ch:=ch) hch (λb o hL hb hc e n=>u.keep b o e n (λz=>(UZ.mp (I.stkSub b z)).elim hL hb) hc) (λb o _ _ hc e n=>u.any e n hc) (λb o hc e n=>u.free b o e n hc) (λb o hc e=>u.there b o e hc) u.tups u.frzs u.tbls (λm' hm=>by
  obtain⟨o',es',ep',ho',r'⟩:=hm;rw[ho]at ho';cases ho';exact⟨_,es',ep',hL,r'⟩) hok hg
theorem aW.turned(I:aW X pins σ H s)(k:∀b o,b≠it->s.heap.get? b=oZ o->h'.get? b=oZ o)(hn:H it=none)(hL:it≠X.env.locals)(h1:it∈X.ex\/X.s₀.heap.objs.size<=it)(h2:∀x c,X.env.cells.lookup x=oZ c->c≠it)(h3:∀p∈X.pn++pins,p.1≠it):aW X pins σ H { s with heap:=h',toks:=t' }:=by
 have nit:∀b u,H b=oZ u->b≠it:=λb u e z=>by rw[z,hn]at e;cases e
 refine I.step (g':=s.gens) (d':=s.drawn) (ch:=[it]) (λb hb=>?_) (λb o _ _ hc e _=>k b o (λz=>hc (by simp[z])) e) (λb o _ _ hc e _=>⟨o.slots,k b o (λz=>hc (by simp[z])) e⟩) (λ_ _ _ _ n=>n)
  (λb o hc e=>⟨o,k b o (λz=>hc (by simp[z])) e⟩) (λ_ _ e=>e) (λ_ _ _ e=>e) (λb ps e=>⟨#[],by rw[e];simp⟩) (λm hm=>?_) (λb u e=>?_) I.bare
 ·have e:b=it:=by simpa using hb
  subst e;exact⟨h1,hL,h2,h3⟩
 ·obtain⟨o,es,ep,ho,r⟩:=hm;exact⟨o,es,ep,k _ o (Ne.symm hL) ho,r⟩
 ·refine(I.hok b u e).stay (λc v hc q=>k c v ?_ q) (λ_ q=>q) λ_ _ q=>q;obtain z|z:=hc
  ·rw[z];exact nit b u e
  ·exact nit c _ z
theorem aW.tok(I:aW X pins σ H s)(t:Nat):aW X pins σ H { s with toks:=t }:=I.un (h':=s.heap) (t':=t) Un.refl I.hok
theorem aW.kept(I:aW X pins σ H s)(k:∀b u,s.heap.get? b=oZ u->h'.get? b=oZ u):aW X pins σ H { s with heap:=h',toks:=t' }:=I.un (Un.kept k) (I.hok.kept k)
theorem aW.laid(I:aW X pins σ H s)(k:∀b u,s.heap.get? b=oZ u->h'.get? b=oZ u)(hp:s.heap.objs.size<=a)(new:eH X.prog X.w (upd H a o) h' a o):
  aW X pins σ (upd H a o) { s with heap:=h',toks:=t' }:=I.un (Un.laid k hp (I.hok.fresh hp)) (I.hok.laid k hp new)
theorem aW.write(I:aW X pins σ H s)(mu:JE (H x))(he:e=x\/H e=oZ (.own x))(k:∀b u,b≠e->s.heap.get? b=oZ u->h'.get? b=oZ u)(heo:∃u,h'.get? e=oZ u)(new:eH X.prog X.w (upd H x o) h' x o):aW X pins σ (upd H x o) { s with heap:=h',toks:=t' }:=I.un (Un.write mu he k heo) (I.hok.write mu he k heo new)
theorem aW.pins_of(I:aW X pins σ H s)(h:∀p∈pins',s.heap.get? p.1=oZ p.2/\H p.1=none/\p.1≠X.env.locals/\p.1∉X.fs/\∀v,p.2.data≠.cell v):aW X pins' σ H s:=
 ⟨I.ok,I.os,I.bare,I.base,I.loc,I.cell,I.free,I.freeC,λp hp=>(VX.mp hp).elim (λz=>I.pin p (ZS _ z)) (h p),I.hok,I.len⟩
theorem Jp{N:List Str}(hN:N.Nodup){i j:Nat}{x:Str}(a:N[i]?=oZ x)(b:N[j]?=oZ x):i=j:=by
 obtain⟨h1,e1⟩:=UO.mp a;obtain⟨h2,e2⟩:=UO.mp b;exact(List.getElem_inj hN).mp (e1.trans e2.symm)
theorem Cy{E:oA->oB->Prop}{Q:Unit->oB->Prop}(I:aW X pins σ H s)(hN:X.N.Nodup)(hi:X.N[i]?=oZ x)(hx:uG X.env.scope x)(r:bJ v u)(h:∀s',aW X pins (σ.set i (oZ v)) H s'->(∃a,YS a s.heap s'.heap/\(a=X.env.locals\/X.env.cells.lookup x=oZ a))->Q () s')(hf:X.fn x=true\/X.env.scope.names.lookup x=oZ .local:=by first|exact .inl rfl|exact .inr rfl|assumption):fo M A (storeName X.env x u) Q E s:=by
 obtain⟨m,hn,hl⟩:=id I.loc;have aHA:(X.env.scope.kind==.class||(X.env.scope.kind==.module&&X.env.locals != X.env.globals))=false:=by rw[I.ok.kind];rfl
 have hiσ:i<σ.length:=by rw[I.len];exact(UO.mp hi).1
 have cne:=I.cne;have tracked:∀{a:fk}{h':oE},(∃o,s.heap.get? a=oZ o/\H a=none)->YS a s.heap h'->qY X.prog X.w H h':=λ{a h'}ha hs b ob e=>by
  obtain⟨_,_,aC9⟩:=ha;refine(I.hok b ob e).stay (λc w' hc q=>(hs.2 c ?_).trans q) (λ_ q=>q) λ_ _ q=>q;rintro rfl;obtain rfl|hc:=hc
  ·rw[aC9]at e;cases e
  ·rw[aC9]at hc;cases hc
 obtain hk|hk:=hx
 ·refine wpAny_storeName_local hk hn (λh' hn' hs=>?_) aHA;obtain⟨oL,_,_,hoL,_⟩:=id hn;refine h _ ⟨I.ok,I.os,I.bare,⟨λb o e n hb hx=>?_,λb o e n hb hx=>?_,I.base.free,λb o e hx=>?_,I.base.tups,I.base.frzs,I.base.tbls⟩,⟨_,hn',λj y v' e1 e2 e3=>?_⟩,λy c e=>?_,I.free,I.freeC,λp hp=>?_,tracked ⟨oL,hoL,I.free⟩ hs,by simpa using I.len⟩ ⟨_,hs,.inl rfl⟩
  ·exact(hs.2 b (VY (VJ (VD e) I.ok.above))).trans (I.base.keep b o e n hb hx)
  ·obtain⟨sl,e1⟩:=I.base.slot b o e n hb hx;exact⟨sl,(hs.2 b (VY (VJ (VD e) I.ok.above))).trans e1⟩
  ·obtain⟨o',e1⟩:=I.base.there b o e hx;exact⟨o',(hs.2 b (VY (VJ (VD e) I.ok.above))).trans e1⟩
  ·by_cases hj:j=i
   ·subst hj;rw[hi]at e1;cases e1;rw[VM hiσ]at e2;cases e2;exact⟨u,r,.inl ⟨hk,by simp⟩⟩
   ·rw[VI (Ne.symm hj)]at e2;obtain⟨u',r',q⟩:=hl j y v' e1 e2 e3;refine⟨u',r',?_⟩;obtain⟨k,e⟩|⟨k,c,e,z⟩:=q
    ·refine .inl ⟨k,?_⟩;have:y≠x:=λe=>hj (Jp hN e1 (e ▸ hi));simp[this,e]
    ·exact .inr ⟨k,c,e,z.sameBut hs (cne y c e)⟩
  ·obtain⟨w',z⟩:=I.cell y c e;exact⟨w',z.sameBut hs (cne y c e)⟩
  ·obtain⟨e,n,ne,nf,d⟩:=I.pin p hp;exact⟨(hs.2 p.1 ne).trans e,n,ne,nf,d⟩
 ·have hfn:X.fn x=true:=by
   obtain z|z:=hf
   ·exact z
   ·rw[z]at hk;cases hk
  obtain⟨c,hc⟩:=I.ok.has x (.inl hk);obtain⟨w',z⟩:=I.cell x c hc;refine wpAny_storeName_cell I.ok.kind hk hc z (λh' hc' hs=>?_);obtain⟨oc,hoc,aHB⟩:=id z;refine h { s with heap:=h' } ⟨I.ok,I.os,I.bare,⟨λb o e n hb hx=>?_,λb o e n hb hx=>?_,I.base.free,λb o e hx=>?_,I.base.tups,I.base.frzs,I.base.tbls⟩,⟨m,hn.sameBut hs (Ne.symm (cne x c hc)),λj y v' e1 e2 e3=>?_⟩,λy c' e=>?_,I.free,I.freeC,λp hp=>?_,tracked ⟨oc,hoc,I.freeC x c hc⟩ hs,by simpa using I.len⟩ ⟨c,hs,.inr hc⟩
  ·exact(hs.2 b (VY (VJ (VD e) (I.ok.cab x c hfn hc)))).trans (I.base.keep b o e n hb hx)
  ·obtain⟨sl,e1⟩:=I.base.slot b o e n hb hx;exact⟨sl,(hs.2 b (VY (VJ (VD e) (I.ok.cab x c hfn hc)))).trans e1⟩
  ·obtain⟨o',e1⟩:=I.base.there b o e hx;exact⟨o',(hs.2 b (VY (VJ (VD e) (I.ok.cab x c hfn hc)))).trans e1⟩
  ·by_cases hj:j=i
   ·subst hj;rw[hi]at e1;cases e1;rw[VM hiσ]at e2;cases e2;exact⟨u,r,.inr ⟨.inl hk,c,hc,hc'⟩⟩
   ·rw[VI (Ne.symm hj)]at e2;obtain⟨u',r',q⟩:=hl j y v' e1 e2 e3;refine⟨u',r',?_⟩;obtain q|⟨k,c',e,z'⟩:=q
    ·exact .inl q
    ·refine .inr ⟨k,c',e,z'.sameBut hs ?_⟩;rintro rfl;exact hj (Jp hN e1 (I.ok.inj _ _ _ e hc ▸ hi))
  ·by_cases hcc:c'=c
   ·subst hcc;exact⟨_,hc'⟩
   ·obtain⟨w2,z2⟩:=I.cell y c' e;exact⟨w2,z2.sameBut hs hcc⟩
  ·obtain⟨e,n,ne,nf,d⟩:=I.pin p hp;refine⟨(hs.2 p.1 ?_).trans e,n,ne,nf,d⟩;intro q;rw[q,hoc]at e;have q':oc=p.2:=Option.some.inj e;exact d w' (by rw[<-q'];exact aHB)
theorem jQ{E:oA->oB->Prop}{Q:Unit->oB->Prop}(I:aW X pins σ H s)(hN:X.N.Nodup)(hi:X.N[i]?=oZ x)(hx:uG X.env.scope x)(r:bJ v u)(h:∀s',aW X pins (σ.set i (oZ v)) H s'->Q () s')(hf:X.fn x=true\/X.env.scope.names.lookup x=oZ .local:=by first|exact .inl rfl|exact .inr rfl|assumption):fo M A (storeName X.env x u) Q E s:=
 Cy I hN hi hx r (λs' I' _=>h s' I') hf
theorem aW.call'(I:aW X pins σ H s)(ho:s'.os=s.os)(u:Un (Lp X.stack) ch H H' s.heap s'.heap)(hok:qY X.prog X.w H' s'.heap)(hg:ju s'.gens)(hch:∀b∈ch,(b∈X.ex\/X.s₀.heap.objs.size<=b)/\b≠X.env.locals/\(∀x c,X.env.cells.lookup x=oZ c->c≠b)/\∀p∈X.pn++pins,p.1≠b):aW X pins σ H' s':=by
 obtain⟨h',g',d',t',o'⟩:=s';have e:o'=s.os:=ho;subst e;exact I.call (g':=g') (t':=t') (d':=d') u hok hg hch
abbrev XK:=oA->Option fk->Hp->Prop
abbrev St:=List (Option V)
abbrev VK:=V->Hp->Prop
abbrev TE:=St->Hp->VK->Prop
abbrev TT:=St->Hp->(Bool->Hp->Prop)->Prop
abbrev TA:=St->Hp->(List V->Hp->Prop)->Prop
structure cX where
 nx:St->Hp->Prop
 rt:VK
 bk:St->Hp->Prop:=λ_ _=>False
 ct:St->Hp->Prop:=λ_ _=>False
abbrev TS:=cX->St->Hp->Prop
def EP(X:Cx)(pins:List (fk×Obj))(σ:St)(Q:VK)(u:oA)(s':oB):Prop:=∃v H',aW X pins σ H' s'/\bJ v u/\Q v H'
def TP(X:Cx)(pins:List (fk×Obj))(σ:St)(Q:Bool->Hp->Prop)(b:Bool)(s':oB):Prop:=∃H',aW X pins σ H' s'/\Q b H'
def AP(X:Cx)(pins:List (fk×Obj))(σ:St)(Q:List V->Hp->Prop)(us:List oA)(s':oB):Prop:=∃vs H',aW X pins σ H' s'/\bC vs us/\Q vs H'
def SP(X:Cx)(pins:List (fk×Obj))(D:cX)(f:Flow)(s':oB):Prop:=
 match f with
 |.next=>∃σ' H',aW X pins σ' H' s'/\D.nx σ' H'
 |.brk=>∃σ' H',aW X pins σ' H' s'/\D.bk σ' H'
 |.cont=>∃σ' H',aW X pins σ' H' s'/\D.ct σ' H'
 |.ret u=>∃v σ' H',aW X pins σ' H' s'/\bJ v u/\D.rt v H'
def PE(X:Cx)(e:oC)(t:TE):Prop:=
 ∀(pins:List (fk×Obj))(s:oB)(σ:St)(H:Hp)(Q:VK),aW X pins σ H s->t σ H Q->fo (ft X.prog X.w) X.A (ie e X.env) (EP X pins σ Q) X.xe s
def PT(X:Cx)(e:oC)(t:TT):Prop:=
 ∀(pins:List (fk×Obj))(s:oB)(σ:St)(H:Hp)(Q:Bool->Hp->Prop),aW X pins σ H s->t σ H Q->fo (ft X.prog X.w) X.A (isTrue e X.env (ie e X.env)) (TP X pins σ Q) X.xe s
def PW(X:Cx)(e:oC)(t:TT):Prop:=
 ∀(whole:Sem oA)(pins:List (fk×Obj))(s:oB)(σ:St)(H:Hp)(Q:Bool->Hp->Prop),aW X pins σ H s->t σ H Q->fo (ft X.prog X.w) X.A (isTrue e X.env whole) (TP X pins σ Q) X.xe s
theorem PW.pt(h:PW X e t):PT X e t:=h _
def PA(X:Cx)(es:List oC)(t:TA):Prop:=
 ∀(pos:Pos)(pins:List (fk×Obj))(s:oB)(σ:St)(H:Hp)(Q:List V->Hp->Prop),aW X pins σ H s->t σ H Q->fo (ft X.prog X.w) X.A (spliced (jr pos (ig es X.env))) (AP X pins σ Q) X.xe s
def PS(X:Cx)(st:fq)(t:TS):Prop:=
 ∀(pins:List (fk×Obj))(s:oB)(σ:St)(H:Hp)(D:cX),aW X pins σ H s->t D σ H->fo (ft X.prog X.w) X.A (exec st X.env) (SP X pins D) X.xe s
def Qj(X:Cx)(st:List fq)(t:TS):Prop:=
 ∀(pins:List (fk×Obj))(s:oB)(σ:St)(H:Hp)(D:cX),aW X pins σ H s->t D σ H->fo (ft X.prog X.w) X.A (execs st X.env) (SP X pins D) X.xe s
theorem dP{α:Type}{t:Sem α}{Q Q':α->oB->Prop}{M:Model}{A:oD}{E:oA->oB->Prop}{s:oB}(h:fo M A t Q E s)(hQ:∀a s,Q a s->Q' a s):fo M A t Q' E s:=ji h hQ λ_ _ x=>x
section
variable{X:Cx}
def wU(i:Nat):TE:=λσ H Q=>∃v,σ[i]?=oZ (oZ v)/\Q v H
def tC(v:V):TE:=λ_ H Q=>Q v H
theorem uU(hN:X.N[i]?=oZ x)(hv:O1 X.env.scope x)(hd:(x==("__debug__":Str))=false:=by decide)(yn:(x==("__classdict__":Str))=false:=by decide):PE X (.Name x pos) (wU i):=by
 intro pins s σ H Q I h;obtain⟨v,e,h⟩:=h;obtain⟨m,hn,hl⟩:=I.loc;obtain⟨u,r,l⟩:=hl i x v hN e hv;have fin:EP X pins σ Q u s:=⟨v,H,I,r,h⟩;obtain⟨hk,hm⟩|⟨hk,c,hc,ze⟩:=l
 ·exact wpAny_Name (wpAny_loadName_local I.ok.kind hk hn hm fin) hd
 ·obtain hk|hk:=hk
  ·exact wpAny_Name (wpAny_loadName_cell I.ok.kind hk hc ze fin) hd
  ·exact wpAny_Name (wpAny_loadName_free I.ok.kind hk hc ze fin yn) hd
theorem GN{i j pos}:PE X (.Constant (.int i) j pos) (tC (.int i)):=λ_ _ _ H _ I h=>wpAny_Constant_int ⟨.int i,H,I.tok _,⟨_,rfl⟩,h⟩
theorem MA{b j pos}:PE X (.Constant (.bool b) j pos) (tC (.bl b)):=λ_ _ _ H _ I h=>Constant_bool ⟨.bl b,H,I,rfl,h⟩
theorem GP{j pos}:PE X (.Constant .none j pos) (tC .non):=λ_ _ _ H _ I h=>Constant_none ⟨.non,H,I,rfl,h⟩
theorem Gj{x j pos}:PE X (.Constant (.str x) j pos) (tC (.str x)):=λ_ _ _ H _ I h=>Calls.Constant_str ⟨.str x,H,I.tok _,⟨_,rfl⟩,h⟩
def Gl(X:Cx)(x:Str):Prop:=X.env.kindOf x=oZ .globalImplicit
theorem Ro{E:oA->oB->Prop}{Q:oA->oB->Prop}(I:aW X pins σ H s)(hg:Gl X x)(hm:X.mg x=oZ u)(h:Q u s)(hd:(x==("__debug__":Str))=false:=by decide):fo (ft X.prog X.w) X.A (ie (.Name x pos) X.env) Q E s:=
 Calls.Name_function_global I.ok.kind hg (Calls.loadGlobal_global (by rw[I.ok.glob];exact I.mod.glob.keeps I.bk) hm h) hd
theorem m7{E:oA->oB->Prop}{Q:oA->oB->Prop}(I:aW X pins σ H s)(hg:Gl X x)(hm:X.mg x=none)(hv:ij x=oZ u)(h:Q u s)(hn:x≠"__name__":=by decide)(hd:(x==("__debug__":Str))=false:=by decide):fo (ft X.prog X.w) X.A (ie (.Name x pos) X.env) Q E s:=by
 obtain⟨mb,h1,h2⟩:=I.mod.blt;exact Calls.Name_function_global I.ok.kind hg (Calls.loadGlobal_builtin (by rw[I.ok.glob];exact I.mod.glob.keeps I.bk) hm (by rw[I.ok.blt];exact h1.keeps I.bk) ((h2 x hn).trans hv) h) hd
theorem Sd(hg:Gl X x)(hm:X.mg x=oZ u)(r:bJ v u)(hd:(x==("__debug__":Str))=false:=by decide):PE X (.Name x pos) (tC v):=
 λ_ _ _ H _ I h=>Ro I hg hm ⟨v,H,I,r,h⟩ hd
theorem Gi(hg:Gl X x)(hm:X.mg x=none)(hv:ij x=oZ u)(r:bJ v u)(hn:x≠"__name__":=by decide)(hd:(x==("__debug__":Str))=false:=by decide):PE X (.Name x pos) (tC v):=
 λ_ _ _ H _ I h=>m7 I hg hm hv ⟨v,H,I,r,h⟩ hn hd
variable{a b:oC}{ta tb:TE}{pos:Pos}
def PC(X:Cx)(op:CmpOp)(a b:oC)(t:TE):Prop:=
 ∀(pins:List (fk×Obj))(s:oB)(σ:St)(H:Hp)(Q:VK),aW X pins σ H s->t σ H Q->
  fo (ft X.prog X.w) X.A (ie a X.env) (λv s₁=>fo (ft X.prog X.w) X.A (ie b X.env) (λu s₂=>fo (ft X.prog X.w) X.A (ja op v u) (EP X pins σ Q) X.xe s₂) X.xe s₁) X.xe s
def tB(t:TE):TT:=λσ H Q=>t σ H λx H1=>∃c,x = .bl c/\Q c H1
theorem HG(h:PC X op a b t)(h1:ik op b=false:=by first|exact nobehind _ ∅ ∅|rfl):PT X (.Compare a [op] [b] pos) (tB t):=by
 intro pins s σ H Q I hw;refine wpAny_isTrue_Compare1 (dP (h pins s σ H _ I hw) λv s1 h1=>dP h1 λu s2 h2=>dP h2 λc s3⟨x,H1,I1,r1,q1⟩=>?_) h1;obtain⟨d,rfl,q⟩:=q1;cases r1;exact iw ⟨H1,I1,q⟩
theorem HI(h:PE X e t)(he:∀whole,isTrue e X.env whole=(do let v <-whole;standAt e.pos;jd [v] (truthy v)):=by intro _;rfl):PT X e (tB t):=by
 intro pins s σ H Q I hw;refine isTrue_plain (dP (h pins s σ H _ I hw) λv s1⟨x,H1,I1,r1,q1⟩=>?_) (he _);obtain⟨d,rfl,q⟩:=q1;cases r1;exact iw ⟨H1,I1,q⟩
variable{tA tB':TT}{rest:List oC}
def TC(t u:TT):TT:=λσ H Q=>t σ H λc H1=>if c=true then Q true H1 else u σ H1 Q
def NP(t:TT):TT:=λσ H Q=>t σ H λc H1=>Q (!c) H1
theorem HL(ha:PT X a tA):PW X (.BoolOp .Or [a] pos) tA:=by
 intro wh pins s σ H Q I h;refine isTrue_or (dP (ha pins s σ H Q I h) λc s1 e=>?_);cases c with
 |false=>exact isTrue_or_nil e
 |true=>exact e
theorem MH(ha:PT X a tA)(hb:PW X (.BoolOp .Or (b::rest) pos) tB'):PW X (.BoolOp .Or (a::b::rest) pos) (TC tA tB'):=by
 intro wh pins s σ H Q I h;refine isTrue_or (dP (ha pins s σ H _ I h) λc s1 zZ=>?_);obtain⟨H1,I1,q1⟩:=zZ;cases c with
 |true=>exact⟨H1,I1,q1⟩
 |false=>exact hb wh pins s1 σ H1 Q I1 q1
theorem HH(ha:PT X a tA):PT X (.UnaryOp .Not a pos) (NP tA):=by
 intro pins s σ H Q I h;exact isTrue_not (ha pins s σ H (λc H1=>Q (!c) H1) I h)
def BU(ta tb:TE):TE:=λσ H Q=>ta σ H λx H1=>∃c,x = .bl c/\if c=true then tb σ H1 Q else Q (.bl false) H1
def NQ(ta tb:TE):TE:=λσ H Q=>ta σ H λx H1=>∃c,x = .bl c/\if c=true then Q (.bl true) H1 else tb σ H1 Q
def CL(ta:TE):TE:=λσ H Q=>ta σ H λx H1=>∃c,x = .bl c/\Q (.bl (!c)) H1
theorem GR{op}(h:PE X a t):PE X (.BoolOp op [a] pos) t:=λpins s σ H Q I hw=>BoolOp_one (h pins s σ H Q I hw)
theorem GK(ha:PE X a ta)(hb:PE X (.BoolOp .And (b::rest) pos) tb):PE X (.BoolOp .And (a::b::rest) pos) (BU ta tb):=by
 intro pins s σ H Q I h;refine BoolOp_and (dP (ha pins s σ H _ I h) λv s1 zZ=>?_);obtain⟨x,H1,I1,r1,q1⟩:=zZ;obtain⟨c,rfl,q1⟩:=q1;cases r1;refine iw ?_;cases c with
 |true=>exact hb pins s1 σ H1 Q I1 q1
 |false=>exact⟨.bl false,H1,I1,rfl,q1⟩
theorem ME(ha:PE X a ta)(hb:PE X (.BoolOp .Or (b::rest) pos) tb):PE X (.BoolOp .Or (a::b::rest) pos) (NQ ta tb):=by
 intro pins s σ H Q I h;refine BoolOp_or (dP (ha pins s σ H _ I h) λv s1 zZ=>?_);obtain⟨x,H1,I1,r1,q1⟩:=zZ;obtain⟨c,rfl,q1⟩:=q1;cases r1;refine iw ?_;cases c with
 |false=>exact hb pins s1 σ H1 Q I1 q1
 |true=>exact⟨.bl true,H1,I1,rfl,q1⟩
theorem GQ(ha:PE X a ta):PE X (.UnaryOp .Not a pos) (CL ta):=by
 intro pins s σ H Q I h;refine UnaryOp_ (dP (ha pins s σ H _ I h) λv s1 zZ=>?_);obtain⟨x,H1,I1,r1,q1⟩:=zZ;obtain⟨c,rfl,q1⟩:=q1;cases r1;exact not_of (iw ⟨.bl (!c),H1,I1,rfl,q1⟩)
def SY(t:TT)(ta tb:TE):TE:=λσ H Q=>t σ H λc H1=>if c=true then ta σ H1 Q else tb σ H1 Q
theorem B8(hc:PT X c tA)(ha:PE X a ta)(hb:PE X b tb):PE X (.IfExp c a b pos) (SY tA ta tb):=by
 intro pins s σ H Q I h;refine wpAny_IfExp (dP (hc pins s σ H _ I h) λd s1 zZ=>?_);obtain⟨H1,I1,q1⟩:=zZ;cases d with
 |true=>exact ha pins s1 σ H1 Q I1 q1
 |false=>exact hb pins s1 σ H1 Q I1 q1
end
def k9(K:W.Frag)(H:Hp)(a:fk)(xs:List V):Prop:=
 Rd H a (.lst xs)\/
  ∃(o:Obj)(mq:Array oA)(n:Nat),K.lookup a=oZ o/\o.cls = .type "list"/\o.dict=none/\o.data = .seq mq n/\mq.size<=gf/\bC xs mq.toList
def xZ(K:W.Frag)(H:Hp)(a:fk)(xs:List V):Prop:=
 Rd H a (.tup xs)\/
  ∃(o:Obj)(mq:Array oA)(n:Nat),K.lookup a=oZ o/\o.cls = .type "tuple"/\o.data = .seq mq n/\mq.size<=gf/\bC xs mq.toList
def PR:oA->Option V
 |.none=>oZ .non
 |.bool b=>oZ (.bl b)
 |.int i _=>oZ (.int i)
 |.str x _=>oZ (.str x)
 |.bytes b _=>oZ (.byt b)
 |.float b _=>oZ (.flt b)
 |.ref a=>oZ (.ref a)
 |.type n=>oZ (.ty n)
 |_=>none
theorem bJ.abs(r:bJ x u):PR u=oZ x:=by
 cases x with
 |non=>cases r;rfl
 |bl _=>cases r;rfl
 |int _=>obtain⟨t,rfl⟩:=r;rfl
 |str _=>obtain⟨t,rfl⟩:=r;rfl
 |byt _=>obtain⟨t,rfl⟩:=r;rfl
 |flt _=>obtain⟨t,rfl⟩:=r;rfl
 |ref _=>cases r;rfl
 |ty _=>cases r;rfl
theorem bJ.inj(r:bJ x u)(q:bJ y u):x=y:=Option.some.inj (r.abs.symm.trans q.abs)
theorem bC.inj:∀{xs ys:List V}{us:List oA},bC xs us->bC ys us->xs=ys:=by
 intro xs ys us h
 induction h generalizing ys with
 |nil=>intro k;cases k;rfl
 |cons r t ih=>
  intro k;cases k with
  |cons r' t'=>rw[r.inj r',ih t']
theorem k9.of{H:Hp}{a:fk}{xs:List V}{K:W.Frag}(h:H a=oZ (.lst xs)):k9 K H a xs:=.inl (.inl h)
theorem aW.list(I:aW X pins σ H s)(h:k9 X.K H a xs):∃mq:List oA,bC xs mq/\PlainL s.heap a mq.toArray/\xs.length<=gf:=by
 obtain h|⟨o,mq,n,hk,hc,hd,hs,hz,r⟩:=h
 ·obtain⟨z,mq,n,r,e⟩:=h.ok I.hok;exact⟨mq,r,⟨_,n,e,rfl,rfl,rfl⟩,z⟩
 ·refine⟨mq.toList,r,⟨o,n,I.kIn a o hk,hc,hd,by simpa using hs⟩,?_⟩;have e:=r.length;simp only[aa]at e
  lia
theorem aW.tuple(I:aW X pins σ H s)(h:xZ X.K H a xs):∃mq:List oA,bC xs mq/\IsTup s.heap a mq.toArray/\xs.length<=gf:=by
 obtain h|⟨o,mq,n,hk,hc,hs,hz,r⟩:=h
 ·obtain⟨z,mq,r,p⟩:=h.ok I.hok;exact⟨mq,r,p,z⟩
 ·refine⟨mq.toList,r,⟨o,I.kIn a o hk,hc,n,by simpa using hs⟩,?_⟩;have e:=r.length;simp only[aa]at e
  lia
theorem aW.list_inj(I:aW X pins σ H s)(h:k9 X.K H a xs)(h':k9 X.K H a ys):xs=ys:=by
 obtain⟨mq,r,⟨o,n,e,_,_,d⟩,_⟩:=I.list h;obtain⟨its',r',⟨o',n',e',_,_,d'⟩,_⟩:=I.list h';rw[e]at e';cases e';rw[d]at d';injection d' with d1 _;have:mq=its':=by simpa using congrArg fj d1
 subst this;exact r.inj r'
theorem aW.tuple_inj(I:aW X pins σ H s)(h:xZ X.K H a xs)(h':xZ X.K H a ys):xs=ys:=by
 obtain⟨mq,r,⟨o,e,_,n,d⟩,_⟩:=I.tuple h;obtain⟨its',r',⟨o',e',_,n',d'⟩,_⟩:=I.tuple h';rw[e]at e';cases e';rw[d]at d';injection d' with d1 _;have:mq=its':=by simpa using congrArg fj d1
 subst this;exact r.inj r'
abbrev Cx.wish(X:Cx)(E:oA->oB->Prop):Cx:={ X with xe:=E }
abbrev Cx.nox(X:Cx):Cx:=X.wish λ_ _=>False
theorem Cx.Ok.wish{X:Cx}(ok:X.Ok)(E:oA->oB->Prop):(X.wish E).Ok:=
 ⟨ok.mod,ok.kind,ok.glob,ok.blt,ok.above,ok.inj,ok.has,ok.cab,ok.hd,ok.frames,ok.stk,ok.exf,ok.bs,ok.bsz,ok.noex,ok.exfs,ok.funs,ok.frf⟩
theorem Cx.Ok.unwish{X:Cx}{E:oA->oB->Prop}(ok:(X.wish E).Ok):X.Ok:=
 ⟨ok.mod,ok.kind,ok.glob,ok.blt,ok.above,ok.inj,ok.has,ok.cab,ok.hd,ok.frames,ok.stk,ok.exf,ok.bs,ok.bsz,ok.noex,ok.exfs,ok.funs,ok.frf⟩
theorem aW.wish(I:aW X pins σ H s)(E:oA->oB->Prop):aW (X.wish E) pins σ H s:=⟨I.ok.wish E,I.os,I.bare,I.base,I.loc,I.cell,I.free,I.freeC,I.pin,I.hok,I.len⟩
theorem aW.unwish{E:oA->oB->Prop}(I:aW (X.wish E) pins σ H s):aW X pins σ H s:=⟨I.ok.unwish,I.os,I.bare,I.base,I.loc,I.cell,I.free,I.freeC,I.pin,I.hok,I.len⟩
theorem SP.unwish{E:oA->oB->Prop}(h:SP (X.wish E) pins D f s'):SP X pins D f s':=by
 cases f with
 |next=>obtain⟨σ',H',I,q⟩:=h;exact⟨σ',H',I.unwish,q⟩
 |brk=>obtain⟨σ',H',I,q⟩:=h;exact⟨σ',H',I.unwish,q⟩
 |cont=>obtain⟨σ',H',I,q⟩:=h;exact⟨σ',H',I.unwish,q⟩
 |ret u=>obtain⟨v,σ',H',I,r,q⟩:=h;exact⟨v,σ',H',I.unwish,r,q⟩
theorem Qj.nox{X:Cx}{st:List fq}(h:Qj X.nox st t):Qj X st t:=λpins s σ H D I hw=>
 ji (h pins s σ H D (I.wish _) hw) (λ_ _ q=>q.unwish) λ_ _ z=>False.elim z
section
variable{X:Cx}{st:fq}{rest:List fq}{t u:TS}{e:oC}{te:TE}{pos:Pos}
def CK:TS:=λD σ H=>D.nx σ H
def NU(t u:TS):TS:=λD σ H=>t { D with nx:=u D } σ H
theorem W5:Qj X [] CK:=λ_ _ σ H _ I h=>ki ⟨σ,H,I,h⟩
theorem C8(h1:PS X st t)(h2:Qj X rest u):Qj X (st::rest) (NU t u):=by
 intro pins s σ H D I h;refine mf (dP (h1 pins s σ H { D with nx:=u D } I h) λf s1 q=>?_);cases f with
 |next=>
  obtain⟨σ',H',I',q⟩:=q;exact h2 pins s1 σ' H' D I' q
 |ret v=>exact q
 |brk=>exact q
 |cont=>exact q
theorem W6(h1:PS X st t):Qj X [st] t:=by
 intro pins s σ H D I h;refine mf (dP (h1 pins s σ H D I h) λf s1 q=>?_);cases f with
 |next=>exact ki q
 |ret v=>exact q
 |brk=>exact q
 |cont=>exact q
theorem aW.quiet(I:aW X pins σ H s):interactive X.env=false:=by simp[interactive,I.ok.kind]
def CA(te:TE):TS:=λD σ H=>te σ H λ_ H1=>D.nx σ H1
theorem W3(he:PE X e te)(hs:ir e none pos.line X.env=pure false:=by rfl):PS X (.Expr e pos) (CA te):=by
 intro pins s σ H D I h;exact wpAny_Expr_any (dP (he pins s σ H _ I h) λv s1 zZ=>by obtain⟨x,H1,I1,r1,q1⟩:=zZ;exact⟨σ,H1,I1,q1⟩) I.quiet hs
def NS(te:TE):TS:=λD σ H=>te σ H D.rt
theorem HE(he:PE X e te):PS X (.Return (oZ e) pos) (NS te):=by
 intro pins s σ H D I h;exact wpAny_Return_some (dP (he pins s σ H _ I h) λv s1 zZ=>by obtain⟨x,H1,I1,r1,q1⟩:=zZ;exact⟨x,σ,H1,I1,r1,q1⟩)
def NK(c:TT)(t u:TS):TS:=λD σ H=>c σ H λb H1=>if b=true then t D σ H1 else u D σ H1
theorem MG(hc:PT X c tc)(ha:Qj X a t)(hb:Qj X b u):PS X (.If c a b pos) (NK tc t u):=by
 intro pins s σ H D I h;refine wpAny_If (dP (hc pins s σ H _ I h) λd s1 zZ=>?_);obtain⟨H1,I1,q1⟩:=zZ;cases d with
 |true=>exact ha pins s1 σ H1 D I1 q1
 |false=>exact hb pins s1 σ H1 D I1 q1
end
abbrev TG:=V->St->Hp->(St->Hp->Prop)->Prop
abbrev AO:=List V->St->Hp->(St->Hp->Prop)->Prop
def PG(X:Cx)(target:oC)(t:TG):Prop:=
 ∀(pins:List (fk×Obj))(s:oB)(σ:St)(H:Hp)(v:V)(u:oA)(Q:St->Hp->Prop),aW X pins σ H s->bJ v u->t v σ H Q->
  fo (ft X.prog X.w) X.A (jg target X.env u) (λ_ s'=>∃σ' H',aW X pins σ' H' s'/\Q σ' H') X.xe s
def IU(X:Cx)(ts:List oC)(t:AO):Prop:=
 ∀(pins:List (fk×Obj))(s:oB)(σ:St)(H:Hp)(vs:List V)(us:List oA)(Q:St->Hp->Prop),aW X pins σ H s->bC vs us->t vs σ H Q->
  fo (ft X.prog X.w) X.A (jz ((gv ts X.env).map (·.2)) us) (λ_ s'=>∃σ' H',aW X pins σ' H' s'/\Q σ' H') X.xe s
abbrev JH:=V->V->V->Hp->(Hp->Prop)->Prop
def DG(X:Cx)(t:JH):Prop:=
 ∀(pins:List (fk×Obj))(s:oB)(σ:St)(H:Hp)(o i v:V)(ov iv u:oA)(Q:Hp->Prop),aW X pins σ H s->bJ o ov->bJ i iv->bJ v u->t o i v H Q->
  fo (ft X.prog X.w) X.A (setItem ov iv u) (λ_ s'=>∃H',aW X pins σ H' s'/\Q H') X.xe s
abbrev PQ:=V->V->Hp->VK->Prop
def PN(X:Cx)(op:Operator)(t:PQ):Prop:=
 ∀(pins:List (fk×Obj))(s:oB)(σ:St)(H:Hp)(x y:V)(v u:oA)(Q:VK),aW X pins σ H s->bJ x v->bJ y u->t x y H Q->
  fo (ft X.prog X.w) X.A (inplaceOp op v u) (EP X pins σ Q) X.xe s
def n8(i:Nat):TG:=λv σ H Q=>Q (σ.set i (oZ v)) H
theorem V4(hN:X.N.Nodup)(hi:X.N[i]?=oZ x)(hx:uG X.env.scope x)(hf:X.fn x=true\/X.env.scope.names.lookup x=oZ .local:=by first|exact .inl rfl|exact .inr rfl|assumption):PG X (.Name x pos) (n8 i):=by
 intro pins s σ H v u Q I r h;exact wpAny_assign_Name (jQ I hN hi hx r (λs' I'=>⟨_,H,I',h⟩) hf)
def Q7:AO:=λvs σ H Q=>vs=[]/\Q σ H
def Ci(t:TG)(u:AO):AO:=λvs σ H Q=>∃v r,vs=v::r/\t v σ H λσ' H'=>u r σ' H' Q
theorem V6:IU X [] Q7:=by
 intro pins s σ H vs us Q I r h;obtain⟨e,h⟩:=h;subst e;cases r;exact ma ⟨σ,H,I,h⟩
theorem C0(h1:PG X e t)(h2:IU X es u)(hs:(gv (e::es) X.env).map (·.2)=jg e X.env::(gv es X.env).map (·.2):=by rfl):IU X (e::es) (Ci t u):=by
 intro pins s σ H vs us Q I r h;obtain⟨v,vr,e1,h⟩:=h;subst e1;cases r with
 |cons r rr=>
  rw[hs];refine jj (dP (h1 pins s σ H _ _ _ I r h) λ_ s1 zZ=>?_);obtain⟨σ1,H1,I1,q1⟩:=zZ;exact h2 pins s1 σ1 H1 _ _ Q I1 rr q1
def ER(K:W.Frag)(n:Nat)(t:AO):TG:=λv σ H Q=>∃a xs,v = .ref a/\xZ K H a xs/\xs.length=n/\t xs σ H Q
theorem GV(hc:X.calm=true)(h:IU X es t)(hn:(gv es X.env).length=n:=by rfl)(xw:(gv es X.env).findIdx? (·.1)=none:=by rfl):PG X (.Tuple es k pos) (ER X.K n t):=by
 intro pins s σ H v u Q I r hw;obtain⟨a,xs,e1,hq,hl,hw⟩:=hw;subst e1;cases r;obtain⟨mq,rv,ht,hz⟩:=I.tuple hq;refine assign_Tuple_tuple (I.ok.hd hc) ht (by simp[hn,<-hl,rv.length]) xw λh' hx=>?_;have I1:aW X pins σ H { s with heap:=h' }:=I.kept (t':=s.toks) λb o e=>hx b o (VY (VD e)) e;exact h pins _ σ H xs _ Q I1 (by simpa using rv) hw
def KU(to ti:TE)(t:JH):TG:=λv σ H Q=>to σ H λo H1=>ti σ H1 λi H2=>t o i v H2 λH3=>Q σ H3
theorem GU(ho:PE X o to)(hi:PE X i ti)(hs:DG X t)(ha:∀v,jg (.Subscript o i pos) X.env v=(do
   let ov <-jd [v] (ie o X.env)
   let iv <-jd [v,ov] (ie i X.env)
   standAt pos
   jd [v,ov,iv] (setItem ov iv v)
   release [v,ov,iv] []):=by intro _;rfl):PG X (.Subscript o i pos) (KU to ti t):=by
 intro pins s σ H v u Q I r h;rw[ha];refine fm (iu (dP (ho pins s σ H _ I h) λov s1 zZ=>?_));obtain⟨x,H1,I1,r1,q1⟩:=zZ;refine fm (iu (dP (hi pins s1 σ H1 _ I1 q1) λiv s2 zZ=>?_));obtain⟨y,H2,I2,r2,q2⟩:=zZ;refine fm (jq (fm (iu (dP (hs pins s2 σ H2 x y v ov iv u _ I2 r1 r2 r q2) λ_ s3 zZ=>?_))));obtain⟨H3,I3,q3⟩:=zZ;exact wpAny_release ⟨σ,H3,I3,q3⟩
def Ky(te:TE)(g:TG):TS:=λD σ H=>te σ H λx H1=>g x σ H1 D.nx
theorem HA(he:PE X e te)(hg:PG X tg g)(hs:je [tg] e pos.line X.env=pure false:=by rfl)(hw:jf [tg] e X.env=pure none:=by rfl)(h1:(gv [tg] X.env).map (·.2)=[jg tg X.env]:=by rfl):PS X (.Assign [tg] e pos) (Ky te g):=by
 intro pins s σ H D I h;refine wpAny_Assign_stores (dP (he pins s σ H _ I h) λv s1⟨x,H1,I1,r1,q1⟩=>?_) hs hw;rw[h1];exact dP (hg pins s1 σ H1 x v _ I1 r1 q1) λ_ s2 q=>q
theorem HF(hN:X.N.Nodup)(hi:X.N[i]?=oZ x)(hx:uG X.env.scope x)(he:PE X e te)(hs:ir e (oZ (.Name x pos')) pos.line X.env=pure false:=by rfl)(hf:X.fn x=true\/X.env.scope.names.lookup x=oZ .local:=by first|exact .inl rfl|exact .inr rfl|assumption):
  PS X (.Assign [.Name x pos'] e pos) (Ky te (n8 i)):=by
 intro pins s σ H D I h;refine wpAny_Assign_Name (dP (he pins s σ H _ I h) λv s1⟨y,H1,I1,r1,q1⟩=>?_) hs;exact jQ I1 hN hi hx r1 (λs2 I2=>⟨_,H1,I2,q1⟩) hf
def NR(i j:Nat)(ta:TA):TS:=λD σ H=>ta σ H λvs H1=>∃v w,vs=[v,w]/\D.nx ((σ.set i (oZ v)).set j (oZ w)) H1
theorem HD{kt k2 pt2}(hc:X.calm=true)(hN:X.N.Nodup)(hi:X.N[i]?=oZ x)(hj:X.N[j]?=oZ y)(hij:i≠j)(hx:X.env.scope.names.lookup x=oZ .local)(hy:X.env.scope.names.lookup y=oZ .local)(ha:PA X [a,b] ta)(hw:jf [.Tuple [.Name x px,.Name y py] kt pt] (.Tuple [a,b] k2 pt2) X.env=pure (oZ [x,y]))(hs:je [.Tuple [.Name x px,.Name y py] kt pt] (.Tuple [a,b] k2 pt2) pos.line X.env=pure false:=by rfl):
  PS X (.Assign [.Tuple [.Name x px,.Name y py] kt pt] (.Tuple [a,b] k2 pt2) pos) (NR i j ta):=by
 intro pins s σ H D I h;rw[exec_Assign_arm];refine fm (jq ?_);rw[hs];refine fm (fz ?_);rw[oW ∅];refine fm (Tuple_ (dP (ha _ pins s σ H _ I h) λus s1 zZ=>?_));obtain⟨vs,H1,I1,r1,q1⟩:=zZ;obtain⟨v,w,e1,q1⟩:=q1;subst e1;obtain⟨u1,u2,rfl,rv,rw'⟩:∃u1 u2,us=[u1,u2]/\bJ v u1/\bJ w u2:=by
  cases r1 with
  |cons p q=>
   cases q with
   |cons p' q'=>
    cases q';exact⟨_,_,rfl,p,p'⟩
 refine iy ?_ (by show 2<=gf;decide);have I2:aW X pins σ H1 { s1 with heap:=s1.heap.push { cls:=.type "tuple",data:=.seq [u1,u2].toArray } }:=I1.kept (t':=s1.toks) λb o e=>UY _ e;rw[hw];refine fm (fz ?_);show fo (ft X.prog X.w) X.A (do rule "assign.swapped-stores";let items <-unpackItems (.ref s1.heap.objs.size) 2 none;jz [λv=>jx X.env y v,λv=>jx X.env x v] items.reverse;pure Flow.next) _ _ _;refine fm (md (fm (unpackItems_tuple (items:=#[u1,u2]) (I.ok.hd hc) (IsTup.new s1.heap _) λh' hx'=>?_)));have I3:=I2.kept (h':=h') (t':=s1.toks) λb o e=>hx' b o (VY (VD e)) e;show fo _ _ (jz [λv=>jx X.env y v,λv=>jx X.env x v] [u2,u1] >>= λ_=>pure Flow.next) _ _ _;refine fm (jj (ko (jQ I3 hN hj (.inl hy) rw' (λs2 I4=>?_) (.inr hy))));refine jj (ko (jQ I4 hN hi (.inl hx) rv (λs3 I5=>ma (fz ?_)) (.inr hx)));rw[YB _ _ (Ne.symm hij)]at I5;exact⟨_,H1,I5,q1⟩
def SA(i:Nat)(te:TE)(ti:PQ):TS:=λD σ H=>∃x,σ[i]?=oZ (oZ x)/\te σ H λy H1=>ti x y H1 λz H2=>D.nx (σ.set i (oZ z)) H2
theorem HB(hN:X.N.Nodup)(hi:X.N[i]?=oZ x)(hx:uG X.env.scope x)(he:PE X e te)(ho:PN X op ti)(hf:X.fn x=true\/X.env.scope.names.lookup x=oZ .local:=by first|exact .inl rfl|exact .inr rfl|assumption):
  PS X (.AugAssign (.Name x pos') op e pos) (SA i te ti):=by
 intro pins s σ H D I h;obtain⟨v,e1,h⟩:=h;obtain⟨m,hn,hl⟩:=I.loc;have vis:O1 X.env.scope x:=by obtain k|k:=hx;exact .inl k;exact .inr (.inl k)
 obtain⟨u,r,l⟩:=hl i x v hi e1 vis;refine wpAny_AugAssign_Name ?_;have go:fo (ft X.prog X.w) X.A (ie e X.env) (λw s₂=>fo (ft X.prog X.w) X.A (inplaceOp op u w) (λr s₃=>fo (ft X.prog X.w) X.A (storeName X.env x r) (λ_=>SP X pins D .next) X.xe s₃) X.xe s₂) X.xe s:=by
  refine dP (he pins s σ H _ I h) λw s1 zZ=>?_;obtain⟨y,H1,I1,r1,q1⟩:=zZ;refine dP (ho pins s1 σ H1 v y u w _ I1 r r1 q1) λz s2 zZ=>?_;obtain⟨zv,H2,I2,r2,q2⟩:=zZ;exact jQ I2 hN hi hx r2 (λs3 I3=>⟨_,H2,I3,q2⟩) hf
 obtain⟨hk,hm⟩|⟨hk,c,hc,ze⟩:=l
 ·exact wpAny_loadName_local I.ok.kind hk hn hm go
 ·obtain hk|hk:=hk
  ·exact wpAny_loadName_cell I.ok.kind hk hc ze go
  ·obtain k|k:=hx
   ·have:X.env.scope.names.lookup x=oZ .free:=hk;rw[k]at this;cases this
   ·have:X.env.scope.names.lookup x=oZ .free:=hk;rw[k]at this;cases this
def SK(f:Int->Int->Int):PQ:=λx y H Q=>∃i j,x = .int i/\y = .int j/\Q (.int (f i j)) H
theorem Yy:PN X .Add (SK λi j=>i+j):=by
 intro pins s σ H x y v u Q I r1 r2 h;obtain⟨i,j,e1,e2,q⟩:=h;subst e1;subst e2;obtain⟨t,rfl⟩:=r1;obtain⟨t',rfl⟩:=r2;exact iadd_int ⟨.int _,H,I.tok _,⟨_,rfl⟩,q⟩
def K6(c:TT)(tb:TS):TS:=λD σ H=>∃W:Nat->St->Hp->Prop,(∃m,W m σ H)/\∀m σ H,W m σ H->
 c σ H λb H1=>if b=true then ∃N:St->Hp->Prop,(∀σ' H',N σ' H'->∃m',m'<m/\W m' σ' H')/\tb { D with nx:=N,ct:=N,bk:=D.nx } σ H1 else D.nx σ H1
theorem C7(hp:PassesOwn (ft X.prog X.w) X.A X.env X.xe)(hc:PT X c tc)(hb:Qj X body tb):PS X (.While c body [] pos) (K6 tc tb):=by
 intro pins s σ H D I h;obtain⟨W,⟨m0,w0⟩,turn⟩:=h;refine wpAny_While (codeAny_whileLoop (λn s'=>∃σ' H',aW X pins σ' H' s'/\W n σ' H') ?_ m0 ⟨σ,H,I,w0⟩);rintro n s1 ⟨σ1,H1,I1,w1⟩;refine jn hp (dP (hc pins s1 σ1 H1 _ I1 (turn n σ1 H1 w1)) λb s2 zZ=>?_);obtain⟨H2,I2,q2⟩:=zZ;cases b with
 |true=>
  obtain⟨N,hN,q2⟩:=q2;rw[oV rfl];refine jn hp (dP (hb pins s2 σ1 H2 _ I2 q2) λf s3 q3=>?_);cases f with
  |next=>
   obtain⟨σ3,H3,I3,n3⟩:=q3;obtain⟨m',hm,w3⟩:=hN σ3 H3 n3;exact⟨m',hm,σ3,H3,I3,w3⟩
  |cont=>
   obtain⟨σ3,H3,I3,n3⟩:=q3;obtain⟨m',hm,w3⟩:=hN σ3 H3 n3;exact⟨m',hm,σ3,H3,I3,w3⟩
  |brk=>exact q3
  |ret v=>exact q3
 |false=>
  rw[oW YA];exact ki ⟨σ1,H2,I2,q2⟩
structure It where
 go:Nat->Hp->Prop
 yld:Nat->Hp->V->Hp->Prop
 stop:Nat->Hp->Prop
def sQ(X:Cx)(pins:List (fk×Obj))(H:Hp)(b:fk):Prop:=
 H b=none/\b≠X.env.locals/\b∉X.fs/\(b∈X.ex\/X.s₀.heap.objs.size<=b)/\(∀x c,X.env.cells.lookup x=oZ c->c≠b)/\∀p∈X.pn++pins,p.1≠b
theorem aW.fpOk(I:aW X pins σ H s)(hb:s.heap.objs.size<=b)(hn:H' b=none):sQ X pins H' b:=by
 refine⟨hn,Nat.ne_of_gt (VJ I.lt hb),I.nofs hb,.inr (VZ I.sz hb),λx c e z=>?_,λp hp z=>?_⟩
 ·obtain⟨v,q⟩:=I.cell x c e;exact absurd (VJ q.lt (by rw[z];exact hb)) (Nat.lt_irrefl _)
 ·exact absurd (VJ (VD (I.pin p hp).1) (by rw[z];exact hb)) (Nat.lt_irrefl _)
structure Lv(P:fu)(w:gn)(K:W.Frag)(tg:oC)(J:It)(fp:List fk)(it:fk)(tn:Nat->oE->Prop):Prop where
 mem:it∈fp
 obj:∀i h,tn i h->∀b∈fp,∃o,h.get? b=oZ o/\∀v,o.data≠.cell v
 keep:∀i h h',tn i h->(∀b∈fp,∀o,h.get? b=oZ o->h'.get? b=oZ o)->tn i h'
 item:∀(X:Cx),X.prog=P->X.w=w->X.K=K->X.calm=true->∀(i:Nat)(pins:List (fk×Obj))(s:oB)(σ:St)(H:Hp)(E:oA->oB->Prop),aW X pins σ H s->(∀b∈fp,sQ X pins H b)->tn i s.heap->J.go i H->
  fo (ft P w) X.A (pyNext (.ref it)) (λr s1=>∃u,r=oZ u/\
   fo (ft P w) X.A (jt tg (.ref it) u) (λ_ s2=>∃x H',aW X pins σ H' s2/\bJ x u/\J.yld i H x H'/\tn (i+1) s2.heap/\∀b∈fp,H' b=none) E s1) E s
 done:∀(X:Cx),X.prog=P->X.w=w->X.K=K->X.calm=true->∀(i:Nat)(pins:List (fk×Obj))(s:oB)(σ:St)(H:Hp)(E:oA->oB->Prop),aW X pins σ H s->(∀b∈fp,sQ X pins H b)->tn i s.heap->J.stop i H->
  fo (ft P w) X.A (pyNext (.ref it)) (λr s1=>r=none/\aW X pins σ H s1) E s
 self:∀(A:oD)(i:Nat)(s:oB)(Q:oA->oB->Prop)(E:oA->oB->Prop),tn i s.heap->Q (.ref it) s->fo (ft P w) A (pyIter (.ref it)) Q E s
abbrev TI:=St->Hp->(It->Hp->Prop)->Prop
def OU(X:Cx)(pins:List (fk×Obj))(σ:St)(tg:oC)(R:It->Hp->Prop)(itv:oA)(s2:oB):Prop:=
 ∃(it:fk)(fp:List fk)(tn:Nat->oE->Prop)(J:It)(H':Hp),itv = .ref it/\aW X pins σ H' s2/\Lv X.prog X.w X.K tg J fp it tn/\tn 0 s2.heap/\(∀b∈fp,sQ X pins H' b)/\R J H'
def PI(X:Cx)(tg iter:oC)(wi:TI):Prop:=
 ∀(pins:List (fk×Obj))(s:oB)(σ:St)(H:Hp)(R:It->Hp->Prop),aW X pins σ H s->wi σ H R->
  fo (ft X.prog X.w) X.A (ie iter X.env) (λv s1=>fo (ft X.prog X.w) X.A (pyIter v) (OU X pins σ tg R) X.xe s1) X.xe s
theorem Rk {E:oA->oB->Prop} {Q:Unit->oB->Prop} (ho:s.heap.get? it=oZ o) (hc:o.cls = .type n) (hd:o.data = .fields vs) (hn:["enumerate","zip","dict_itemiterator","dict_reverseitemiterator","odict_iterator","itertools.zip_longest","itertools.pairwise"].contains n=false) (hQ:Q () s):fo M A (jt tg (.ref it) u) Q E s:=by
  unfold jt;cases tg<;>first
    | exact fz hQ
    | (cases u<;>first
        | exact fz hQ
        | (refine fm (wpAny_load ho ?_)
           rw [hc,hd];show fo M A (if (["enumerate","zip","dict_itemiterator","dict_reverseitemiterator","odict_iterator","itertools.zip_longest","itertools.pairwise"].contains n&&vs[0]?==oZ (rawInt _))=true then _ else _) Q E s;rw [oW (by intro h;rw [hn,Bool.false_and] at h;cases h)];exact fz hQ))
def PJ(K:W.Frag)(a:fk):It:=
 ⟨λi H=>∃xs x,k9 K H a xs/\xs[i]?=oZ x,λi H x H'=>H'=H/\∀xs,k9 K H a xs->xs[i]?=oZ x,λi H=>∃xs,k9 K H a xs/\xs.length<=i⟩
def PK(K:W.Frag)(a:fk):It:=
 ⟨λi H=>∃xs x,xZ K H a xs/\xs[i]?=oZ x,λi H x H'=>H'=H/\∀xs,xZ K H a xs->xs[i]?=oZ x,λi H=>∃xs,xZ K H a xs/\xs.length<=i⟩
def IS(lo:Int)(n:Nat):It:=⟨λi _=>i<n,λi H x H'=>H'=H/\x = .int (lo+i),λi _=>n<=i⟩
theorem Wt{P:fu}{w:gn}{K:W.Frag}{tg:oC}(a it:fk):Lv P w K tg (PJ K a) [it] it (λi h=>h.IsListIter it a i) where
 mem:=by simp
 obj:=λi h st b hb=>by
  have e:b=it:=by simpa using hb
  subst e;obtain⟨o,e,c,d⟩:=st;exact⟨o,e,λv z=>by rw[d]at z;cases z⟩
 keep:=λi h h' st k=>st.at λo e=>k it (by simp) o e
 item:=by
  intro X hP hw hK hc i pins s σ H E I hf st hg;subst hP hw hK;obtain⟨xs,x,hq,hx⟩:=hg;obtain⟨mq,rv,p,hz⟩:=I.list hq;obtain⟨u,hu,ru⟩:=rv.get hx;obtain⟨f0,f1,f2,f3,f4,f5⟩:=hf it (by simp);refine wpAny_pyNext_list_item st p.isList (x:=u) (by simpa using hu) λh' st' sb=>?_;have I1:aW X pins σ H { s with heap:=h' }:=I.turned (t':=s.toks) (λb o hb e=>(sb.2 b hb).trans e) f0 f1 f3 f4 f5;obtain⟨o,e,c,d⟩:=id st';exact⟨u,rfl,Rk (s:={ s with heap:=h' }) e c d ∅ ⟨x,H,I1,ru,⟨rfl,λys hy=>by rw[I.list_inj hy hq];exact hx⟩,st',λb hb=>(hf b hb).1⟩⟩
 done:=by
  intro X hP hw hK hc i pins s σ H E I hf st hg;subst hP hw hK;obtain⟨xs,hq,hx⟩:=hg;obtain⟨mq,rv,p,hz⟩:=I.list hq;obtain⟨f0,f1,f2,f3,f4,f5⟩:=hf it (by simp);have hl:=rv.length;exact wpAny_pyNext_list_end (I.ok.hd hc) st p.isList (by simp;lia) λh' eb=>⟨rfl,I.turned (t':=s.toks) (λb o hb e=>eb b o hb e) f0 f1 f3 f4 f5⟩
 self:=λ_ _ _ _ _ st h=>wpAny_pyIter_listiter st h
theorem Qe{P:fu}{w:gn}{K:W.Frag}{tg:oC}(a it:fk):Lv P w K tg (PK K a) [it] it (λi h=>h.IsTupleIter it a i) where
 mem:=by simp
 obj:=λi h st b hb=>by
  have e:b=it:=by simpa using hb
  subst e;obtain⟨o,e,c,d⟩:=st;exact⟨o,e,λv z=>by rw[d]at z;cases z⟩
 keep:=λi h h' st k=>st.at λo e=>k it (by simp) o e
 item:=by
  intro X hP hw hK hc i pins s σ H E I hf st hg;subst hP hw hK;obtain⟨xs,x,hq,hx⟩:=hg;obtain⟨mq,rv,p,hz⟩:=I.tuple hq;obtain⟨u,hu,ru⟩:=rv.get hx;obtain⟨f0,f1,f2,f3,f4,f5⟩:=hf it (by simp);refine wpAny_pyNext_tuple_item st (show s.heap.IsTuple a mq.toArray from p) (x:=u) (by simpa using hu) λh' st' sb=>?_;have I1:aW X pins σ H { s with heap:=h' }:=I.turned (t':=s.toks) (λb o hb e=>(sb.2 b hb).trans e) f0 f1 f3 f4 f5;obtain⟨o,e,c,d⟩:=id st';exact⟨u,rfl,Rk (s:={ s with heap:=h' }) e c d ∅ ⟨x,H,I1,ru,⟨rfl,λys hy=>by rw[I.tuple_inj hy hq];exact hx⟩,st',λb hb=>(hf b hb).1⟩⟩
 done:=by
  intro X hP hw hK hc i pins s σ H E I hf st hg;subst hP hw hK;obtain⟨xs,hq,hx⟩:=hg;obtain⟨mq,rv,p,hz⟩:=I.tuple hq;obtain⟨f0,f1,f2,f3,f4,f5⟩:=hf it (by simp);have hl:=rv.length;exact wpAny_pyNext_tuple_end (I.ok.hd hc) st (show s.heap.IsTuple a mq.toArray from p) (by simp;lia) λh' eb=>⟨rfl,I.turned (t':=s.toks) (λb o hb e=>eb b o hb e) f0 f1 f3 f4 f5⟩
 self:=λ_ _ _ _ _ st h=>wpAny_pyIter_tupleiter st h
theorem Qd{P:fu}{w:gn}{K:W.Frag}{tg:oC}(it:fk)(lo:Int)(n:Nat):Lv P w K tg (IS lo n) [it] it (λi h=>IsRangeIter h it (lo+(i:Nat)*1) ((n:Int)-(i:Nat)) 1) where
 mem:=by simp
 obj:=λi h st b hb=>by
  have e:b=it:=by simpa using hb
  subst e;exact⟨_,st,λv z=>by
   have z':Data.fields _=Data.cell v:=z;cases z'⟩
 keep:=λi h h' st k=>k it (by simp) _ st
 item:=by
  intro X hP hw hK hc i pins s σ H E I hf st hg;subst hP hw hK;obtain⟨f0,f1,f2,f3,f4,f5⟩:=hf it (by simp);have W:=Walks.range (prog:=X.prog) (w:=X.w) (I.ok.hd hc) it lo 1 n;refine W.item i s _ _ hg st λv h' tk hv st' kk=>?_;obtain⟨t,rfl⟩:=hv;have I1:aW X pins σ H { s with heap:=h',toks:=tk }:=I.turned (λb o hb e=>kk b o (by simpa using hb) e) f0 f1 f3 f4 f5;refine⟨_,rfl,Rk (s:={ s with heap:=h',toks:=tk }) (n:="range_iterator") st' rfl rfl ∅ ⟨.int (lo+i),H,I1,⟨t,?_⟩,⟨rfl,rfl⟩,st',λb hb=>(hf b hb).1⟩⟩;rw[Int.mul_one]
 done:=by
  intro X hP hw hK hc i pins s σ H E I hf st hg;subst hP hw hK;obtain⟨f0,f1,f2,f3,f4,f5⟩:=hf it (by simp);exact wpAny_pyNext_range_end (I.ok.hd hc) st (by have:n<=i:=hg;lia) λh' eb=>⟨rfl,I.turned (t':=s.toks) (λb o hb e=>eb b o hb e) f0 f1 f3 f4 f5⟩
 self:=λ_ _ _ _ _ st h=>wpAny_pyIter_rangeiter st h
def Yv(K:W.Frag)(tl:TE):TI:=λσ H R=>tl σ H λx H1=>∃a,x = .ref a/\(∃xs,k9 K H1 a xs)/\R (PJ K a) H1
def KZ(K:W.Frag)(tl:TE):TI:=λσ H R=>tl σ H λx H1=>∃a,x = .ref a/\(∃xs,xZ K H1 a xs)/\R (PK K a) H1
theorem Se(hl:PE X l tl):PI X tg l (Yv X.K tl):=by
 intro pins s σ H R I h;refine dP (hl pins s σ H _ I h) λv s1 zZ=>?_;obtain⟨x,H1,I1,r1,q1⟩:=zZ;obtain⟨a,e,⟨xs,hq⟩,q⟩:=q1;subst e;cases r1;obtain⟨mq,rv,p,hz⟩:=I1.list hq;refine wpAny_pyIter_list p.isList ?_;refine⟨s1.heap.objs.size,[s1.heap.objs.size],_,_,H1,rfl,I1.kept (t':=s1.toks) λb o e=>UY _ e,Wt a _,⟨_,VF _ rfl,rfl,rfl⟩,λb hb=>?_,q⟩;have e:b=s1.heap.objs.size:=by simpa using hb
 subst e;exact I1.fpOk (VA _) (I1.hok.fresh (VA _))
theorem GX(hl:PE X l tl):PI X tg l (KZ X.K tl):=by
 intro pins s σ H R I h;refine dP (hl pins s σ H _ I h) λv s1 zZ=>?_;obtain⟨x,H1,I1,r1,q1⟩:=zZ;obtain⟨a,e,⟨xs,hq⟩,q⟩:=q1;subst e;cases r1;obtain⟨mq,rv,p,hz⟩:=I1.tuple hq;refine ly (show s1.heap.IsTuple a mq.toArray from p) ?_;refine⟨s1.heap.objs.size,[s1.heap.objs.size],_,_,H1,rfl,I1.kept (t':=s1.toks) λb o e=>UY _ e,Qe a _,⟨_,VF _ rfl,rfl,rfl⟩,λb hb=>?_,q⟩;have e:b=s1.heap.objs.size:=by simpa using hb
 subst e;exact I1.fpOk (VA _) (I1.hok.fresh (VA _))
theorem Kh{R:It->Hp->Prop}{E:oA->oB->Prop}{lo hi:Int}(I:aW X pins σ H s)(h1:-(2^62)<=lo)(h2:lo<2^62)(h3:-(2^62)<=hi)(h4:hi<2^62)(q:R (IS lo (hi-lo).toNat) H):fo (ft X.prog X.w) X.A (pyIter (.ref s.heap.objs.size)) (OU X pins σ tg R) E { s with heap:=s.heap.push { cls:=.type "range",data:=.fields #[.int lo t,.int hi u,.int 1 v] },toks:=tk }:=by
 refine wpAny_pyIter_range (IsRange.new ..) (small_one h1 h2 h3 h4) ?_;have I1:aW X pins σ H { s with heap:=s.heap.push { cls:=.type "range",data:=.fields #[.int lo t,.int hi u,.int 1 v] },toks:=tk }:=I.kept λb o e=>UY _ e;refine⟨(s.heap.push { cls:=.type "range",data:=.fields #[.int lo t,.int hi u,.int 1 v] }).objs.size,[(s.heap.push { cls:=.type "range",data:=.fields #[.int lo t,.int hi u,.int 1 v] }).objs.size],_,_,H,rfl,
  I1.kept (t':=tk) λb o e=>UY _ e,Qd _ lo (hi-lo).toNat,?_,λb hb=>?_,q⟩
 ·have e1:lo+((0:Nat):Int)*1=lo:=by simp
  have e2:(((hi-lo).toNat:Nat):Int)-((0:Nat):Int)=Builtin.Range.rangeSize lo hi 1:=by rw[rangeSize_one];split<;>lia
  show IsRangeIter _ _ (lo+((0:Nat):Int)*1) ((((hi-lo).toNat:Nat):Int)-((0:Nat):Int)) 1;rw[e1,e2];exact VF _ rfl
 ·have e:b=(s.heap.push { cls:=.type "range",data:=.fields #[.int lo t,.int hi u,.int 1 v] }).objs.size:=by simpa using hb
  subst e;exact I1.fpOk (VA _) (I1.hok.fresh (VA _))
def BD(ta:TA):TI:=λσ H R=>ta σ H λvs H1=>∃j:Int,vs=[.int j]/\-(2^62)<=j/\j<2^62/\R (IS 0 j.toNat) H1
def BE(ta:TA):TI:=λσ H R=>ta σ H λvs H1=>∃i j:Int,vs=[.int i,.int j]/\(-(2^62)<=i/\i<2^62/\-(2^62)<=j/\j<2^62)/\R (IS i (j-i).toNat) H1
theorem Wa(hg:Gl X "range")(hm:X.mg "range" = none)(ha:PA X [a] ta)(hs:ig [a] X.env=[(false,ie a X.env)]:=by rfl):PI X tg (.Call (.Name "range" p) [a] [] pos) (BD ta):=by
 intro pins s σ H R I h;refine Call_ (m7 I hg hm boot_range (PyProof.Rows.callWith_type1 (dP (ha pos pins s σ H _ I h) λus s1⟨vs,H1,I1,r1,q1⟩=>?_) hs rfl));obtain⟨j,e,q1,q2,q⟩:=q1;subst e;cases r1 with
 |cons r rr=>
  cases rr;obtain⟨t,rfl⟩:=r;exact call_range_1 (Kh I1 ⋯ ⋯ q1 q2 (by simpa using q))
theorem Wb(hg:Gl X "range")(hm:X.mg "range" = none)(ha:PA X [a,b] ta)(hs:ig [a,b] X.env=[(false,ie a X.env),(false,ie b X.env)]:=by rfl)(xp:ig [b] X.env=[(false,ie b X.env)]:=by rfl):
  PI X tg (.Call (.Name "range" p) [a,b] [] pos) (BE ta):=by
 intro pins s σ H R I h;refine Call_ (m7 I hg hm boot_range (PyProof.Rows.callWith_type1 (dP (ha pos pins s σ H _ I h) λus s1⟨vs,H1,I1,r1,q1⟩=>?_) (by rw[hs,xp]) (by rw[xp];rfl)));obtain⟨i,j,e,⟨q1,q2,q3,q4⟩,q⟩:=q1;subst e;cases r1 with
 |cons r rr=>
  cases rr with
  |cons r' rr=>
   cases rr;obtain⟨t,rfl⟩:=r;obtain⟨t',rfl⟩:=r';exact call_range_2 (Kh I1 q1 q2 q3 q4 q)
def NJ(wi:TI)(g:TG)(tb:TS):TS:=λD σ H=>wi σ H λJ H1=>∃W:Nat->Nat->St->Hp->Prop,(∃m,W 0 m σ H1)/\∀i m σ H,W i m σ H->
 (J.stop i H/\D.nx σ H)\/(J.go i H/\∃N:St->Hp->Prop,(∀σ' H',N σ' H'->∃m',m'<m/\W (i+1) m' σ' H')/\∀x H',J.yld i H x H'->g x σ H' λσ2 H2=>tb { D with nx:=N,ct:=N,bk:=D.nx } σ2 H2)
def Gm(fp:List fk)(h:oE):List (fk×Obj):=fp.filterMap λb=>(h.get? b).map λo=>(b,o)
theorem iX(hb:b∈fp)(e:h.get? b=oZ o):(b,o)∈Gm fp h:=List.mem_filterMap.mpr ⟨b,hb,by rw[e];rfl⟩
theorem Vk(hp:p∈Gm fp h):p.1∈fp/\h.get? p.1=oZ p.2:=by
 obtain⟨b,hb,e⟩:=List.mem_filterMap.mp hp;cases q:h.get? b with
 |none=>rw[q]at e;cases e
 |some o=>
  rw[q]at e;have e':(b,o)=p:=Option.some.inj e;subst e';exact⟨hb,q⟩
theorem aW.pinned(I:aW X pins σ H s)(hf:∀b∈fp,sQ X pins H b)(ho:∀b∈fp,∃o,s.heap.get? b=oZ o/\∀v,o.data≠.cell v):aW X (pins++Gm fp s.heap) σ H s:=
 I.pins_of λp hp=>(VX.mp hp).elim (λz=>I.pin p (VV _ z)) λz=>by
  obtain⟨hb,e⟩:=Vk z;obtain⟨f0,f1,f2,_⟩:=hf p.1 hb;obtain⟨o,e',d⟩:=ho p.1 hb;rw[e]at e';cases e';exact⟨e,f0,f1,f2,d⟩
theorem aW.unpinned(I:aW X (pins++pl) σ H s):aW X pins σ H s:=I.pins_of λp hp=>I.pin p (VV _ (ZS _ hp))
theorem HC(hp:PassesOwn (ft X.prog X.w) X.A X.env X.xe)(hc:X.calm=true)(hi:PI X tg iter wi)(hg:PG X tg g)(hb:Qj X body tb)(hs:∀x,gw iter X.env x=pure x:=by intro _;rfl):PS X (.For tg iter body [] pos) (NJ wi g tb):=by
 intro pins s σ H D I h;refine wpAny_For (dP (hi pins s σ H _ I h) λv s1 h1=>dP h1 λitv s2 h2=>?_) hs;obtain⟨it,fp,tn,J,H2,e,I2,T,st2,f2,W,⟨m0,w0⟩,turn⟩:=h2;subst e
 -- what stays true of the iterator's objects through the loop
 have aA4:∀{H':Hp},(∀b∈fp,H' b=none)->∀b∈fp,sQ X pins H' b:=λhn b hb=>⟨hn b hb,(f2 b hb).2⟩;refine codeAny_forLoop_any (λn s'=>∃i σ' H',aW X pins σ' H' s'/\tn i s'.heap/\(∀b∈fp,H' b=none)/\W i n σ' H') ?_ m0 ⟨0,σ,H2,I2,st2,λb hb=>(f2 b hb).1,w0⟩;rintro n s3 ⟨i,σ3,H3,I3,st3,fr3,w3⟩;obtain⟨stop,qn⟩|⟨go,N,hN,step⟩:=turn i n σ3 H3 w3
 ·refine jn hp (dP (T.done X rfl rfl rfl hc i pins s3 σ3 H3 X.xe I3 (aA4 fr3) st3 stop) λr s4 zZ=>?_);obtain⟨hr,I4⟩:=zZ;subst hr;exact ki ⟨σ3,H3,I4,qn⟩
 ·refine jn hp (dP (T.item X rfl rfl rfl hc i pins s3 σ3 H3 X.xe I3 (aA4 fr3) st3 go) λr s4 zZ=>?_);obtain⟨u,hr,h4⟩:=zZ;subst hr;refine jn hp (dP h4 λ_ s5 zZ=>?_);obtain⟨x,H5,I5,r5,y5,st5,fr5⟩:=zZ;have I5':=I5.pinned (aA4 fr5) (T.obj _ _ st5);refine jn hp (dP (hg _ s5 σ3 H5 x u _ I5' r5 (step x H5 y5)) λ_ s6 zZ=>?_);obtain⟨σ6,H6,I6,q6⟩:=zZ;refine jn hp (dP (hb _ s6 σ6 H6 _ I6 q6) λf s7 q7=>?_);have again:∀{σ7:St}{H7:Hp},aW X (pins++Gm fp s5.heap) σ7 H7 s7->N σ7 H7->∃m,m<n/\∃i σ' H',aW X pins σ' H' s7/\tn i s7.heap/\(∀b∈fp,H' b=none)/\W i m σ' H':=λ{σ7 H7}I7 n7=>by
   obtain⟨m',hm,w7⟩:=hN σ7 H7 n7;refine⟨m',hm,i+1,σ7,H7,I7.unpinned,T.keep _ _ _ st5 λb hb o e=>(I7.pin (b,o) (VV _ (VV _ (iX hb e)))).1,λb hb=>?_,w7⟩;obtain⟨o,e,d⟩:=T.obj _ _ st5 b hb;exact(I7.pin (b,o) (VV _ (VV _ (iX hb e)))).2.1
  cases f with
  |next=>obtain⟨σ7,H7,I7,n7⟩:=q7;exact again I7 n7
  |cont=>obtain⟨σ7,H7,I7,n7⟩:=q7;exact again I7 n7
  |brk=>obtain⟨σ7,H7,I7,q7⟩:=q7;exact⟨σ7,H7,I7.unpinned,q7⟩
  |ret v=>obtain⟨x7,σ7,H7,I7,r7,q7⟩:=q7;exact⟨x7,σ7,H7,I7.unpinned,r7,q7⟩
abbrev R2:=V->V->Hp->VK->Prop
def oP(X:Cx)(f:oA->oA->Sem oA)(r:R2):Prop:=
 ∀(pins:List (fk×Obj))(s:oB)(σ:St)(H:Hp)(x y:V)(v u:oA)(Q:VK),aW X pins σ H s->bJ x v->bJ y u->r x y H Q->
  fo (ft X.prog X.w) X.A (f v u) (EP X pins σ Q) X.xe s
def OY(X:Cx)(f:oA->Sem oA)(r:V->Hp->VK->Prop):Prop:=
 ∀(pins:List (fk×Obj))(s:oB)(σ:St)(H:Hp)(x:V)(v:oA)(Q:VK),aW X pins σ H s->bJ x v->r x H Q->
  fo (ft X.prog X.w) X.A (f v) (EP X pins σ Q) X.xe s
def j7(X:Cx)(f:oA)(r:List V->Hp->VK->Prop):Prop:=
 ∀(pins:List (fk×Obj))(s:oB)(σ:St)(H:Hp)(xs:List V)(us:List oA)(Q:VK),aW X pins σ H s->bC xs us->r xs H Q->
  fo (ft X.prog X.w) X.A (call f us) (EP X pins σ Q) X.xe s
def Wr(r:R2)(ta tb:TE):TE:=λσ H Q=>ta σ H λx H1=>tb σ H1 λy H2=>r x y H2 Q
def TL(r:V->Hp->VK->Prop)(ta:TE):TE:=λσ H Q=>ta σ H λx H1=>r x H1 Q
def rI(C:Int->Int->Prop)(g:Int->Int->V):R2:=λx y H Q=>∃i j,x = .int i/\y = .int j/\C i j/\Q (g i j) H
def Wy(g:Int->Int->V):R2:=λx y H Q=>∃i j,x = .int i/\y = .int j/\Q (g i j) H
def rU(g:Int->V):V->Hp->VK->Prop:=λx H Q=>∃i,x = .int i/\Q (g i) H
theorem DJ{X:Cx}{ta:TE}(ha:PE X a ta)(hb:PE X b tb){R:V->V->Hp->Prop}(I:aW X pins σ H s)(h:ta σ H λx H1=>tb σ H1 λy H2=>R x y H2){Q:oA->oB->Prop}{f:oA->oA->Sem oA}(hf:∀v u s2 x y H2,aW X pins σ H2 s2->bJ x v->bJ y u->R x y H2->fo (ft X.prog X.w) X.A (f v u) Q X.xe s2):
  fo (ft X.prog X.w) X.A (ie a X.env) (λv s₁=>fo (ft X.prog X.w) X.A (ie b X.env) (λu s₂=>fo (ft X.prog X.w) X.A (f v u) Q X.xe s₂) X.xe s₁) X.xe s:=by
 refine dP (ha pins s σ H _ I h) λv s1 zZ=>?_;obtain⟨x,H1,I1,r1,q1⟩:=zZ;refine dP (hb pins s1 σ H1 _ I1 q1) λu s2 zZ=>?_;obtain⟨y,H2,I2,r2,q2⟩:=zZ;exact hf v u s2 x y H2 I2 r1 r2 q2
theorem MD(ho:oP X (jc op) r)(ha:PE X a ta)(hb:PE X b tb):PE X (.BinOp a op b pos) (Wr r ta tb):=by
 intro pins s σ H Q I h;exact wpAny_BinOp (DJ ha hb I h λv u s2 x y H2 I2 rx ry q=>ho pins s2 σ H2 x y v u Q I2 rx ry q)
theorem MF{r:V->Hp->VK->Prop}(ho:OY X (unaryOp op) r)(ha:PE X a ta):PE X (.UnaryOp op a pos) (TL r ta):=by
 intro pins s σ H Q I h;exact UnaryOp_ (dP (ha pins s σ H _ I h) λv s1 zZ=>by obtain⟨x,H1,I1,r1,q1⟩:=zZ;exact ho pins s1 σ H1 x v Q I1 r1 q1)
theorem IX{C:Int->Int->Prop}{g:Int->Int->Int}(rule:∀(i j:Int)(t u:Tok)(s:oB)(Q:oA->oB->Prop)(E:oA->oB->Prop),C i j->Q (.int (g i j) s.toks) { s with toks:=s.toks+1 }->fo (ft X.prog X.w) X.A (f (.int i t) (.int j u)) Q E s):
  oP X f (rI C λi j=>.int (g i j)):=by
 intro pins s σ H x y v u Q I rx ry h;obtain⟨i,j,rfl,rfl,hc,q⟩:=h;obtain⟨t,rfl⟩:=rx;obtain⟨t',rfl⟩:=ry;exact rule i j t t' s _ _ hc ⟨.int (g i j),H,I.tok _,⟨_,rfl⟩,q⟩
theorem LX{g:Int->Int->Int}(rule:∀(i j:Int)(t u:Tok)(s:oB)(Q:oA->oB->Prop)(E:oA->oB->Prop),Q (.int (g i j) s.toks) { s with toks:=s.toks+1 }->fo (ft X.prog X.w) X.A (f (.int i t) (.int j u)) Q E s):
  oP X f (Wy λi j=>.int (g i j)):=by
 intro pins s σ H x y v u Q I rx ry h;obtain⟨i,j,rfl,rfl,q⟩:=h;obtain⟨t,rfl⟩:=rx;obtain⟨t',rfl⟩:=ry;exact rule i j t t' s _ _ ⟨.int (g i j),H,I.tok _,⟨_,rfl⟩,q⟩
theorem U3{g:Int->Int->Bool}(rule:∀(i j:Int)(t u:Tok)(s:oB)(Q:oA->oB->Prop)(E:oA->oB->Prop),Q (.bool (g i j)) s->fo (ft X.prog X.w) X.A (f (.int i t) (.int j u)) Q E s):
  oP X f (Wy λi j=>.bl (g i j)):=by
 intro pins s σ H x y v u Q I rx ry h;obtain⟨i,j,rfl,rfl,q⟩:=h;obtain⟨t,rfl⟩:=rx;obtain⟨t',rfl⟩:=ry;exact rule i j t t' s _ _ ⟨.bl (g i j),H,I,rfl,q⟩
def N8(i j:Int):Prop:=0<=j/\j<=1000000/\i.natAbs<2^64
def N7(i j:Int):Prop:=(-(2^64)<i/\i<2^64)\/(-(2^64)<j/\j<2^64)
theorem N7.ok{i j:Int}(h:N7 i j):IntMulOk i j:=by
 obtain⟨h1,h2⟩|⟨h1,h2⟩:=h
 ·exact .of_left (intBits_le_64 h1 h2)
 ·exact .of_right (intBits_le_64 h1 h2)
theorem cE:oP X (jc .Add) (Wy λi j=>.int (i+j)):=LX λ_ _ _ _ _ _ _ q=>add_int q
theorem iY:oP X (jc .Sub) (Wy λi j=>.int (i-j)):=LX λ_ _ _ _ _ _ _ q=>sub_int q
theorem GG:oP X (jc .Mult) (rI N7 λi j=>.int (i*j)):=IX λ_ _ _ _ _ _ _ hc q=>mul_int q hc.ok
theorem gX:oP X (jc .Mod) (rI (λ_ j=>0<j) λi j=>.int (i%j)):=IX λi j _ _ _ _ _ hc q=>by
 have h1:(0:Int)<j:=hc;exact mod_int' ⋯ (by rw[ak i ⋯];exact q)
theorem A7:oP X (jc .Pow) (rI N8 λi j=>.int (i^j.toNat)):=IX λ_ _ _ _ _ _ _ hc q=>pow_int_small hc.1 hc.2.1 hc.2.2 q
theorem GI:oP X (jc .LShift) (rI N8 λi j=>.int (i*2^j.toNat)):=IX λ_ _ _ _ _ _ _ hc q=>lshift_int_small hc.1 hc.2.1 hc.2.2 q
theorem UM{g:Int->Int}(rule:∀(i:Int)(t:Tok)(s:oB)(Q:oA->oB->Prop)(E:oA->oB->Prop),Q (.int (g i) s.toks) { s with toks:=s.toks+1 }->fo (ft X.prog X.w) X.A (f (.int i t)) Q E s):
  OY X f (rU λi=>.int (g i)):=by
 intro pins s σ H x v Q I rx h;obtain⟨i,rfl,q⟩:=h;obtain⟨t,rfl⟩:=rx;exact rule i t s _ _ ⟨.int (g i),H,I.tok _,⟨_,rfl⟩,q⟩
theorem L8:OY X (unaryOp .USub) (rU λi=>.int (-i)):=UM λ_ _ _ _ _ q=>neg_int q
theorem Mr(I:aW X pins σ H s)(q:Q (.bl k) H)(e:k=k'):EP X pins σ Q (.bool k') s:=by
 subst e;exact⟨.bl k,H,I,rfl,q⟩
theorem kT:oP X (ja .Lt) (Wy λi j=>.bl (decide (i<j))):=U3 λ_ _ _ _ _ _ _ q=>lt_int q
theorem LY:oP X (ja .LtE) (Wy λi j=>.bl (decide (i<=j))):=U3 λ_ _ _ _ _ _ _ q=>le_int q
theorem zB:oP X (ja .Gt) (Wy λi j=>.bl (decide (j<i))):=U3 λ_ _ _ _ _ _ _ q=>gt_int q
theorem Sa:oP X (ja .GtE) (Wy λi j=>.bl (decide (j<=i))):=U3 λ_ _ _ _ _ _ _ q=>ge_int q
theorem GF:oP X (ja .Is) (λx y H Q=>y = .non/\Q (.bl (decide (x = .non))) H):=by
 intro pins s σ H x y v u Q I rx ry h;obtain⟨rfl,q⟩:=h;cases ry;refine is_none_gen (Mr I q ?_);cases x<;>first
  |(cases rx;rfl)
  |(obtain⟨t,rfl⟩:=rx;rfl)
theorem aZ(b:oC)(h:op≠.In:=by decide)(h2:op≠.NotIn:=by decide):ik op b=false:=by
 have e1:(op==CmpOp.In)=false:=by cases op<;>first|rfl|exact absurd rfl h
 have e2:(op==CmpOp.NotIn)=false:=by cases op<;>first|rfl|exact absurd rfl h2
 cases b<;>simp[ik,e1,e2]
theorem U9(ho:oP X (ja op) r)(ha:PE X a ta)(hb:PE X b tb)(hm:ik op b=false):PE X (.Compare a [op] [b] pos) (Wr r ta tb):=by
 intro pins s σ H Q I h;exact wpAny_Compare1 (DJ ha hb I h λv u s2 x y H2 I2 rx ry q=>ho pins s2 σ H2 x y v u Q I2 rx ry q) hm
def K5(t:TE):TT:=λσ H Q=>t σ H λx H'=>∃k,x = .bl k/\Q k H'
theorem Sh(ho:oP X (ja op) r)(ha:PE X a ta)(hb:PE X b tb)(hm:ik op b=false):PT X (.Compare a [op] [b] pos) (K5 (Wr r ta tb)):=by
 intro pins s σ H Q I h;refine wpAny_isTrue_Compare1 (dP (ha pins s σ H _ I h) λv s1⟨x,H1,I1,r1,q1⟩=>dP (hb pins s1 σ H1 _ I1 q1) λu s2⟨y,H2,I2,r2,q2⟩=>
  dP (ho pins s2 σ H2 x y v u _ I2 r1 r2 q2) λc s3⟨z,H3,I3,r3,k,e,q3⟩=>?_) hm
 subst e;cases r3;exact iw ⟨H3,I3,q3⟩
theorem yW:(gf:Nat)<2^63:=by rw[sizeLine_eq];decide
theorem Oi:oP X (jc .Add) (λx y H Q=>∃i j,x = .str i/\y = .str j/\i.length+j.length<=gf/\Q (.str (i++j)) H):=by
 intro pins s σ H x y v u Q I rx ry h;obtain⟨i,j,rfl,rfl,hz,q⟩:=h;obtain⟨t,rfl⟩:=rx;obtain⟨t',rfl⟩:=ry;exact add_str (λt' tk=>⟨.str (i++j),H,I.tok _,⟨_,rfl⟩,q⟩) hz
theorem Am(r:bC [x] us):∃u,us=[u]/\bJ x u:=by
 cases r with
 |cons r1 r2=>cases r2;exact⟨_,rfl,r1⟩
theorem Ap.some_of(r:Ap (oZ v) o):∃u,o=oZ u/\bJ v u:=by
 cases o with
 |none=>exact(show False from r).elim
 |some u=>exact⟨u,rfl,r⟩
structure dN(k:Nat)(A:oD):Prop where
 hd:A.handled=none
 dp:A.depth+3*k+5<recursionLimit
 un:A.units+16*k+200<kq
 gd:A.guards=oZ []
theorem dN.mono(r:dN k A)(h:j<=k):dN j A:=⟨r.hd,by have:=r.dp;lia,by have:=r.un;lia,r.gd⟩
theorem dN.deeper(r:dN (k+1) A)(env:Env):dN k (A.deeper env):=
 ⟨r.hd,by have:=r.dp;show A.depth+1+3*k+5<_;lia,by have:=r.un;show A.units+3+16*k+200<_;lia,r.gd⟩
theorem dN.depth(r:dN k A):A.depth<recursionLimit:=by have:=r.dp;lia
theorem dN.units(r:dN k A):A.units+64<kq:=by have:=r.un;lia
def IH:TA:=λ_ H Q=>Q [] H
def Lb(ta:TE)(tr:TA):TA:=λσ H Q=>ta σ H λx H1=>tr σ H1 λxs H2=>Q (x::xs) H2
section
variable{X:Cx}{e:oC}{es:List oC}{te:TE}{t:TA}{pos:Pos}
theorem A8:PA X [] IH:=λ_ _ _ _ H Q I h=>Calls.spliced_nil ⟨[],H,I,.nil,h⟩
theorem U6(ha:PE X e te)(hr:PA X es t)(hs:ig (e::es) X.env=(false,ie e X.env)::ig es X.env:=by rfl):PA X (e::es) (Lb te t):=by
 intro pos pins s σ H Q I h;rw[hs];show fo _ _ (spliced ((false,ie e X.env)::jr pos (ig es X.env))) _ _ s;refine Calls.spliced_cons (dP (ha pins s σ H _ I h) λu s1 zZ=>?_);obtain⟨x,H1,I1,r1,q1⟩:=zZ;exact dP (hr pos pins s1 σ H1 _ I1 q1) λus s2 zZ=>by obtain⟨xs,H2,I2,r2,q2⟩:=zZ;exact⟨x::xs,H2,I2,.cons r1 r2,q2⟩
def NW(t:TA):TE:=λσ H Q=>t σ H λxs H1=>xs.length<=gf/\∀p,H1 p=none->Q (.ref p) (upd H1 p (.tup xs))
def NO(t:TA):TE:=λσ H Q=>t σ H λxs H1=>xs.length<=gf/\∀p,H1 p=none->Q (.ref p) (upd H1 p (.lst xs))
theorem GS{x1}(h:PA X es t):PE X (.Tuple es x1 pos) (NW t):=by
 intro pins s σ H Q I hq;refine wpAny_Tuple_spliced (dP (h pos pins s σ H _ I hq) λus s1⟨xs,H1,I1,r,z,q⟩=>⟨by rw[<-r.length];exact z,?_⟩);have hf:H1 s1.heap.objs.size=none:=I1.hok.fresh (VA _);refine⟨.ref s1.heap.objs.size,upd H1 s1.heap.objs.size (.tup xs),I1.laid (t':=s1.toks) (λb u e=>UY _ e) (VA _) ?_,rfl,q _ hf⟩;exact⟨z,us,r,⟨_,VF _ rfl,rfl,_,rfl⟩⟩
theorem GO(h:PA X es t):PE X (.List es pos) (NO t):=by
 intro pins s σ H Q I hq;refine wpAny_List_spliced (dP (h pos pins s σ H _ I hq) λus s1⟨xs,H1,I1,r,z,q⟩=>⟨by rw[<-r.length];exact z,?_⟩);have hf:H1 s1.heap.objs.size=none:=I1.hok.fresh (VA _);refine⟨.ref s1.heap.objs.size,upd H1 s1.heap.objs.size (.lst xs),I1.laid (t':=s1.toks) (λb u e=>UY _ e) (VA _) ?_,rfl,q _ hf⟩;exact⟨z,us,0,r,VF _ rfl⟩
end
abbrev Sp:=List V->Hp->VK->XK->Prop
abbrev Ia:=List Env->Hp->oB->XK->oA->oB->Prop
structure Xa(P:fu)(w:gn)(K:W.Frag)(mg:Str->Option oA)(base:oE)(A:oD)(outer:List Env)(s:oB)(H:Hp):Prop where
 frames:A.frames=oZ outer
 mod:Mod K mg base
 bs:∀b o,base.get? b=oZ o->s.heap.get? b=oZ o/\H b=none
 bsz:base.objs.size<=s.heap.objs.size
 funs:s.heap.FunFrames base outer
 frf:∀b∈Lp outer,H b=none
 hok:qY P w H s.heap
 bare:ju s.gens
def CE(outer:List Env)(P:fu)(w:gn)(H:Hp)(s:oB)(Q:VK)(u:oA)(s':oB):Prop:=
 ∃v H',s'.os=s.os/\ju s'.gens/\Un (Lp outer) [] H H' s.heap s'.heap/\qY P w H' s'.heap/\bJ v u/\Q v H'
def CR(CX:Ia)(outer:List Env)(P:fu)(w:gn)(H:Hp)(s:oB)(Q:VK)(E:XK)(r:Result)(s':oB):Prop:=
 match r with
 |.ok (.ret u)=>CE outer P w H s Q u s'
 |.ok _=>False
 |.error e=>CX outer H s E e s'
structure aS(P:fu)(w:gn)(K:W.Frag)(mg:Str->Option oA)(base:oE)(CX:Ia)(k:Nat)(f:fk)(fd:ip)(ps:List Str)(sp:Sp):Prop where
 len:∀vs H Q E,sp vs H Q E->vs.length=ps.length
 run:∀(A:oD)(outer:List Env)(s:oB)(H:Hp)(args:Args)(us:List oA)(vs:List V)(Q:VK)(E:XK),dN k A->Xa P w K mg base A outer s H->BindsTo s fd args (ps.zip us)->bC vs us->sp vs H Q E->
  lh (ft P w) A (.call (.ref f) args) (CR CX outer P w H s Q E) s
theorem aS.imp{P:fu}{w:gn}{K:W.Frag}{mg:Str->Option oA}{base:oE}{CX:Ia}{k:Nat}{f:fk}{fd:ip}{ps:List Str}{sp sp':Sp}(F:aS P w K mg base CX k f fd ps sp)
  (h:∀vs H Q E,sp' vs H Q E->sp vs H Q E):(~~~aS) CX k f fd ps sp':=
 ⟨λvs H Q E q=>F.len vs H Q E (h _ _ _ _ q),λA outer s H args us vs Q E hr he hb hv hs=>F.run A outer s H args us vs Q E hr he hb hv (h _ _ _ _ hs)⟩
theorem aW.env0(I:aW X pins σ H s):Xa X.prog X.w X.K X.mg X.base X.A X.stack s H:=
 ⟨I.ok.frames,I.ok.mod,I.bs,VZ I.ok.bsz I.sz,I.stack,I.stkFree,I.hok,I.bare⟩
theorem aW.after(I:aW X pins σ H s)(h:CE X.stack X.prog X.w H s Q u s'):EP X pins σ Q u s':=by
 obtain⟨v,H',os,bare,un,hok,r,q⟩:=h;obtain⟨hh,g,d,t,os'⟩:=s';obtain rfl:os'=s.os:=os;exact⟨v,H',I.call (h':=hh) (g':=g) (d':=d) (t':=t) (ch:=[]) un hok bare (λb z=>absurd z (by simp)),r,q⟩
def Kz(sp:Sp)(dvs:List V)(E:XK)(t:TA):TE:=λσ H Q=>t σ H λvs H1=>sp (vs++dvs) H1 Q E
def kF(K:W.Frag)(fd:ip)(ps:List Str)(ds:List oA):Prop:=
 ∀(s:oB)(us:List oA),K.In s.heap->(us++ds).length=ps.length->BindsTo s fd ⟨us,[]⟩ (ps.zip (us++ds))
theorem kF.all{K:W.Frag}{fd:ip}{ps:List Str}(h:∀us:List oA,us.length=ps.length->bindArgs fd ⟨us,[]⟩=pure (ps.zip us)):kF K fd ps []:=λs us _ hl=>by
 rw[WJ]at hl⊢;exact .of_eq (h us hl)
def Lu(CX:Ia)(X:Cx)(E:XK):Prop:=∀(pins:List (fk×Obj))(σ:St)(H:Hp)(s:oB)(e:oA)(s':oB),aW X pins σ H s->CX X.stack H s E e s'->X.xe e s'
theorem HY(F:aS X.prog X.w X.K X.mg X.base CX k f fd ps sp)(hr:dN k X.A)(hb:kF X.K fd ps ds)(hd:bC dvs ds)(hx:Lu CX X E)(I:aW X pins σ H s)(r:bC vs us)(h:sp (vs++dvs) H Q E):fo (ft X.prog X.w) X.A (call (.ref f) us) (EP X pins σ Q) X.xe s:=by
 have r2:bC (vs++dvs) (us++ds):=r.append hd;have hl:(us++ds).length=ps.length:=by rw[<-r2.length];exact F.len _ _ _ _ h
 refine wpAny_call (mh (F.run X.A X.stack s H ⟨us,[]⟩ (us++ds) (vs++dvs) Q E hr I.env0 (hb s us I.kIn hl) r2 h) λr s' hq=>?_);cases r with
 |error e=>exact hx pins σ H s e s' I hq
 |ok fl=>
  cases fl with
  |ret u=>exact I.after hq
  |next=>exact False.elim hq
  |brk=>exact False.elim hq
  |cont=>exact False.elim hq
theorem U8(F:aS X.prog X.w X.K X.mg X.base CX k f fd ps sp)(hr:dN k X.A)(hg:Gl X x)(hm:X.mg x=oZ (.ref f))(hk:W.keepIn X.K (.ref f)=true)(hb:kF X.K fd ps ds)(hd:bC dvs ds)(hx:Lu CX X E)(ha:PA X (e::es) t)(vw:(x==("__debug__":Str))=false:=by decide)(he:ig (e::es) X.env=(false,ie e X.env)::ig es X.env:=by rfl)(hpl:(jr pos (ig es X.env)).any (·.1)=false:=by rfl):
  PE X (.Call (.Name x p) (e::es) [] pos) (Kz sp dvs E t):=by
 intro pins s σ H Q I h;refine km (Ro I hg hm ?_ vw);refine PySem.W.callWith_K (h₀:=X.base) I.ok.mod.kin hk (dP (ha pos pins s σ H _ I h) λus s1⟨vs,H1,I1,r,q⟩=>⟨I1.kIn,?_⟩) he hpl;exact HY F hr hb hd hx I1 r q
structure aF(N P:List Str)(sc:kh):Prop where
 kind:sc.kind = .function
 co:sc.isCoroutine=false
 gen:sc.isGenerator=false
 nd:N.Nodup
 pre:N.take P.length=P
 par:∀x∈P,sc.names.lookup x=oZ .local\/sc.names.lookup x=oZ .cell
 nofree:∀y∈sc.names,y.2≠.free
theorem Bt{kindOf:Str->Option NameKind}{x:Str}:∀{binds:List (Str×oA)}{m:Str->Option oA},(∀v,(x,v)∉binds)->bindL kindOf binds m x=m x
 |[],_,_=>rfl
 |(n,v)::r,m,h=>by
  unfold bindL;rw[Bt λw hw=>h w (UW _ hw)]
  split
  ·have:x≠n:=by rintro rfl;exact h v VB
   simp[this]
  ·rfl
theorem Br{kindOf:Str->Option NameKind}{x:Str}:∀{binds:List (Str×oA)}{m:Str->Option oA},(∀v,(x,v)∉binds)->bindC kindOf binds m x=m x
 |[],_,_=>rfl
 |(n,v)::r,m,h=>by
  unfold bindC;rw[Br λw hw=>h w (UW _ hw)]
  split
  ·rfl
  ·have:x≠n:=by rintro rfl;exact h v VB
   simp[this]
theorem Bs{kindOf:Str->Option NameKind}:∀{P:List Str}{vs:List oA}{i:Nat}{m:Str->Option oA},P.Nodup->P[i]?=oZ x->vs[i]?=oZ v->kindOf x=oZ .local->
  bindL kindOf (P.zip vs) m x=oZ v
 |[],_,_,_,_,h,_,_=>by simp at h
 |_::_,[],_,_,_,_,h,_=>by simp at h
 |p::P,w::vs,0,m,nd,h1,h2,hk=>by
  simp at h1 h2;subst h1;subst h2;show bindL kindOf ((p,w)::P.zip vs) m p=_;unfold bindL;rw[Bt λv hv=>(WL.mp nd).1 (cy hv).1,oV hk];simp
 |p::P,w::vs,i+1,m,nd,h1,h2,hk=>by
  show bindL kindOf ((p,w)::P.zip vs) m x=_;unfold bindL;exact Bs (i:=i) (WL.mp nd).2 (by simpa using h1) (by simpa using h2) hk
theorem Bq{kindOf:Str->Option NameKind}:∀{P:List Str}{vs:List oA}{i:Nat}{m:Str->Option oA},P.Nodup->P[i]?=oZ x->vs[i]?=oZ v->kindOf x≠oZ .local->
  bindC kindOf (P.zip vs) m x=oZ v
 |[],_,_,_,_,h,_,_=>by simp at h
 |_::_,[],_,_,_,_,h,_=>by simp at h
 |p::P,w::vs,0,m,nd,h1,h2,hk=>by
  simp at h1 h2;subst h1;subst h2;show bindC kindOf ((p,w)::P.zip vs) m p=_;unfold bindC;rw[Br λv hv=>(WL.mp nd).1 (cy hv).1,oW hk];simp
 |p::P,w::vs,i+1,m,nd,h1,h2,hk=>by
  show bindC kindOf ((p,w)::P.zip vs) m x=_;unfold bindC;exact Bq (i:=i) (WL.mp nd).2 (by simpa using h1) (by simpa using h2) hk
def k7(N:List Str)(vs:List V):St:=vs.map oZ++US (N.length-vs.length) none
def yK(CX:Ia)(P:fu)(w:gn)(K:W.Frag)(mg:Str->Option oA)(base:oE)(N:List Str)(qual:Str)(scope:kh)(f:fk)(cd:oA)(A:oD)(outer:List Env)(s:oB)(H:Hp)(E:XK):Cx where
 prog:=P
 w:=w
 K:=K
 mg:=mg
 base:=base
 A:=A.deeper (jv qual scope s.heap.objs.size f cd)
 N:=N
 s₀:=s
 H₀:=H
 env:=jv qual scope s.heap.objs.size f cd
 outer:=outer
 stack:=jv qual scope s.heap.objs.size f cd::outer
 ex:=[]
 calm:=true
 fn:=λ_=>true
 pn:=[]
 xe:=λe s'=>fo (ft P w) (A.deeper (jv qual scope s.heap.objs.size f cd)) (leaving (jv qual scope s.heap.objs.size f cd) e) (λ_ s''=>CX outer H s E e s'') (λe' s''=>CX outer H s E e' s'') s'
theorem Il{sc:kh}(h:sc.names.lookup x=oZ .cell):∃c,(cellsFrom n sc.names []).lookup x=oZ c:=by
 have q:=W.cellsFrom_some sc.names n [] (.inl h);exact bg.mp q
theorem Vf{CX:Ia}{P:fu}{w:gn}{K:W.Frag}{mg:Str->Option oA}{base:oE}{N ps:List Str}{qual:Str}{scope:kh}{f:fk}{cd:oA}{A:oD}{outer:List Env}{s s1:oB}{H:Hp}{E:XK}{us:List oA}{vs:List V}
  (S:aF N ps scope) (hd:A.handled=none) (e0:Xa P w K mg base A outer s H) (hl:vs.length=ps.length) (r:bC vs us)
  (x:InCallC s s.heap.objs.size (bindL (jv qual scope s.heap.objs.size f cd).kindOf (ps.zip us) λ_=>none) (cellsFrom (s.heap.objs.size+1) scope.names []) (bindC (jv qual scope s.heap.objs.size f cd).kindOf (ps.zip us) λ_=>none) s1) :
  aW (yK CX P w K mg base N qual scope f cd A outer s H E) [] (k7 N vs) H s1:=by
 have hpl:ps.length<=N.length:=by have:=congrArg List.length S.pre;rw[WE]at this;lia
 obtain⟨h1,tk,rfl,hk⟩:=x.done;have noA:∀b:fk,b∉(yK CX P w K mg base N qual scope f cd A outer s H E).ex:=λb z=>absurd (show b∈([]:List fk)from z) (by simp);refine⟨⟨e0.mod,S.kind,rfl,rfl,VA _,λy z c h1 h2=>?_,λy hy=>?_,λy c _ h=>?_,λ_=>hd,Around.frames_deeper e0.frames,.inr ⟨rfl,rfl⟩,λb z=>absurd z (noA b),e0.bs,e0.bsz,λb _ _=>noA b,λb z=>absurd z (noA b),e0.funs,e0.frf⟩,
  rfl,e0.bare,Un.kept hk,⟨_,x.toInCall.ns,λi y v h1 h2 h3=>?_⟩,λy c h=>⟨_,x.cell y c h⟩,e0.hok.fresh (VA _),λy c h=>?_,λp hp=>absurd (show p∈([]:List (fk×Obj))from hp) (by simp),e0.hok.kept hk,?_⟩
 ·exact name_of_addr x.apart (PySem.mem_of_lookup h1) (PySem.mem_of_lookup h2)
 ·have hy:scope.names.lookup y=oZ .cell\/scope.names.lookup y=oZ .free:=hy;obtain hy|hy:=hy
  ·exact Il hy
  ·exact absurd rfl (S.nofree _ (PySem.mem_of_lookup hy))
 ·exact WC (x.above y c (PySem.mem_of_lookup h))
 ·have hi:i<vs.length:=by
   unfold k7 at h2
   by_cases hi:i<vs.length
   ·exact hi
   ·rw[VU (by simpa using hi)]at h2;rw[XW]at h2;split at h2<;>cases h2
  have ha:vs[i]?=oZ v:=by
   unfold k7 at h2;rw[VO (by simpa using hi),UQ]at h2;cases e:vs[i]? with
   |none=>rw[e]at h2;cases h2
   |some a=>rw[e]at h2;cases h2;rfl
  obtain⟨u,hu,rv⟩:=r.get ha;have hp:ps[i]?=oZ y:=by
   rw[<-S.pre,WY ⋯];exact h1
  have ndP:ps.Nodup:=by rw[<-S.pre];exact S.nd.sublist (List.take_sublist _ _)
  refine⟨u,rv,?_⟩;obtain k|k:=S.par y (UR hp)
  ·exact .inl ⟨k,Bs ndP hp hu k⟩
  ·obtain⟨c,e⟩:=Il (n:=s.heap.objs.size+1) k;refine .inr ⟨.inl k,c,e,?_⟩;have q:=x.cell y c e;rw[Bq ndP hp hu (by show scope.names.lookup y≠_;rw[k];decide)]at q;exact q
 ·exact e0.hok.fresh (WC (x.above y c (PySem.mem_of_lookup h)))
 ·unfold k7;show _=N.length;rw[UT,UX,XR]
  lia
theorem KR{CX:Ia}{P:fu}{w:gn}{K:W.Frag}{mg:Str->Option oA}{base:oE}{k:Nat}{f:fk}{name qual:Str}{params:Arguments}{body:List fq}{scope:kh}{dV kV doc pm qp ct oc:oA}{an od:Option fk}
  {osl:Array (Option oA)} {N ps:List Str} {sp:Sp} (lk:K.lookup f=oZ ⟨oc,od,.func (W.fnOf name qual params body scope dV kV doc pm an qp ct),osl⟩) (yn:W.codeIn K qp qual=true) (S:aF N ps scope)
  (len:∀vs H Q E,sp vs H Q E->vs.length=ps.length)
  (aAQ:∀(A:oD)(outer:List Env)(s:oB)(H:Hp)(vs:List V)(Q:VK)(E:XK),dN k (A.deeper (jv qual scope s.heap.objs.size f qp))->sp vs H Q E->
   ∃t,Qj (yK CX P w K mg base N qual scope f qp A outer s H E) body t/\t { nx:=λ_ H'=>Q .non H',rt:=Q } (k7 N vs) H) :
  aS P w K mg base CX (k+1) f (W.fnOf name qual params body scope dV kV doc pm an qp ct) ps sp:=by
 refine⟨len,λA outer s H args us vs Q E hr e0 hb r hsp=>?_⟩;have hl:=len _ _ _ _ hsp;have KX:K.In s.heap:=e0.mod.kin.keeps λb o e=>(e0.bs b o e).1;have lim:s.heap.NoLimit:=e0.mod.nolimit.keeps λb o e=>(e0.bs b o e).1;have aE4:∀y∈ps.zip us,scope.names.lookup y.1=oZ .local\/(scope.names.lookup y.1=oZ .cell/\((cellsFrom (s.heap.objs.size+1) scope.names []).lookup y.1).isSome=true):=λzZ hy=>by
  obtain⟨n,v⟩:=zZ;obtain q|q:=S.par n (cy hy).1
  ·exact .inl q
  ·exact .inr ⟨q,W.cellsFrom_some _ _ _ (.inl q)⟩
 refine codeAny_call_function hr.depth (KX _ _ lk) rfl S.co S.gen rfl (W.codeRec_of KX yn) (hb _ _ _ _ ?_);refine wpAny_newFunctionEnv_cells S.kind aE4 λenv he s1 x=>?_;subst he;refine⟨lim.keeps x.toInCall.keep,codeAny_func ?_⟩;obtain⟨t,ht,hq⟩:=aAQ A outer s H vs Q E (hr.deeper _) hsp;have I:aW (yK CX P w K mg base N qual scope f qp A outer s H E) [] (k7 N vs) H s1:=Vf S hr.hd e0 hl r x;refine ji (ht [] s1 (k7 N vs) H _ I hq) (λfl s' hs=>?_) λe s' hs=>hs;have fin:∀{σ':St}{H':Hp}{v:V}{u:oA},aW (yK CX P w K mg base N qual scope f qp A outer s H E) [] σ' H' s'->bJ v u->Q v H'->CE outer P w H s Q u s':=
  λ{σ' H' v u}J rv q=>⟨v,H',J.os,J.bare,J.base,J.hok,rv,q⟩
 cases fl with
 |ret u=>
  obtain⟨v,σ',H',J,rv,q⟩:=hs;exact fin J rv q
 |next=>
  obtain⟨σ',H',J,q⟩:=hs;exact fin (v:=V.non) (u:=ZG) J rfl q
 |brk=>
  obtain⟨_,_,_,q⟩:=hs;exact False.elim q
 |cont=>
  obtain⟨_,_,_,q⟩:=hs;exact False.elim q
section
variable{X:Cx}{x:Str}{p pos:Pos}{e:oC}{es:List oC}{t:TA}{id T:String}{r:List V->Hp->VK->Prop}
def JA(r:List V->Hp->VK->Prop)(t:TA):TE:=λσ H Q=>t σ H λvs H1=>r vs H1 Q
theorem B5(hc:j7 X (.builtin id) r)(hg:Gl X x)(hm:X.mg x=none)(hv:ij x=oZ (.builtin id))(ha:PA X (e::es) t)(hn:x≠"__name__":=by decide)(vw:(x==("__debug__":Str))=false:=by decide)(he:ig (e::es) X.env=(false,ie e X.env)::ig es X.env:=by rfl)(hpl:(jr pos (ig es X.env)).any (·.1)=false:=by rfl):PE X (.Call (.Name x p) (e::es) [] pos) (JA r t):=by
 intro pins s σ H Q I h;refine km (m7 I hg hm hv ?_ hn vw);exact PyProof.Rows.callWith_builtin1 (dP (ha pos pins s σ H _ I h) λus s1 zZ=>by obtain⟨vs,H1,I1,r1,q1⟩:=zZ;exact hc pins s1 σ H1 vs us Q I1 r1 q1) he hpl
theorem Vz(hc:j7 X (.type T) r)(hg:Gl X x)(hm:X.mg x=none)(hv:ij x=oZ (.type T))(ha:PA X (e::es) t)(hn:x≠"__name__":=by decide)(vw:(x==("__debug__":Str))=false:=by decide)(he:ig (e::es) X.env=(false,ie e X.env)::ig es X.env:=by rfl)(hpl:(jr pos (ig es X.env)).any (·.1)=false:=by rfl):PE X (.Call (.Name x p) (e::es) [] pos) (JA r t):=by
 intro pins s σ H Q I h;refine km (m7 I hg hm hv ?_ hn vw);exact PyProof.Rows.callWith_type1 (dP (ha pos pins s σ H _ I h) λus s1 zZ=>by obtain⟨vs,H1,I1,r1,q1⟩:=zZ;exact hc pins s1 σ H1 vs us Q I1 r1 q1) he hpl
end
end L2
namespace HT
open PySem PyProof.Rows
section
open PySem.SeqAt
open PySem.AutoSeq1 (wpAny_loadPart')
open PySem.MeetsSeq PySem.MeetsSeq2 PySem.MeetsSeq3
end
theorem cat_tup{E:oA->oB->Prop}{Q:oA->oB->Prop}(ht:IsTup s.heap t vs.toArray)(hb:IsTup s.heap b ws.toArray)(hv:vs≠[])(h1:ws=[]->Q (.ref t) s)(h2:ws≠[]->Q (.ref s.heap.objs.size) { s with heap:=s.heap.push { cls:=.type "tuple",data:=.seq (vs++ws).toArray } })(hsz:vs.length+ws.length<=gf):fo (ft prog w) A (jc .Add (.ref t) (.ref b)) Q E s:=by
 obtain⟨⟨cls,dd,data,sl⟩,ho,hc,n,hd⟩:=id ht;obtain⟨⟨aK3,dd2,data2,sl2⟩,ho2,hc2,n2,hd2⟩:=id hb;simp only at hc hd hc2 hd2;subst hc hd hc2 hd2;have e:vs.toArray++ws.toArray=(vs++ws).toArray:=by simp
 by_cases hw:ws=[]
 ·exact concat_meets ⟨_,ho,rfl⟩ ⟨_,ho2,rfl⟩ noFill_tuple_add seq_tuple_add PySem.F.slot_tuple_add PySem.F.entry_tuple_add (PySem.F.args_tuple_add_2 _ _)
   (tuple_addW1 t b vs.toArray ws.toArray n n2 dd dd2 sl sl2 (by simpa using hv) (by simp[hw])) ⟨ho,ho2,h1 hw⟩
 ·refine concat_meets ⟨_,ho,rfl⟩ ⟨_,ho2,rfl⟩ noFill_tuple_add seq_tuple_add PySem.F.slot_tuple_add PySem.F.entry_tuple_add (PySem.F.args_tuple_add_2 _ _)
   (tuple_addW2 t b vs.toArray ws.toArray n n2 dd dd2 sl sl2 (by simpa using hv) (by simpa using hw) (by rw[VG,VG];exact hsz)) ⟨ho,ho2,?_⟩
  rw[e];exact h2 hw
def sIx(n d:Nat):Option Int->Nat
 |none=>d
 |some v=>if v<0 then(v+(n:Int)).toNat else min v.toNat n
theorem sIx_none(n d:Nat):sIx n d none=d:=rfl
theorem sIx_nat(n d k:Nat):sIx n d (oZ (k:Int))=min k n:=by
 show(if(k:Int)<0 then((k:Int)+(n:Int)).toNat else min (k:Int).toNat n)=min k n;rw[oW ⋯,WO]
theorem IA(n d:Nat)(hd:d<=n)(o:Option Int):sIx n d o<=n:=by
 cases o with
 |none=>exact hd
 |some v=>
  show(if v<0 then(v+(n:Int)).toNat else min v.toNat n)<=n
  by_cases hv:v<0
  ·rw[oV hv];lia
  ·rw[oW hv];exact Nat.min_le_right _ _
theorem Qp(v:Int)(n d:Nat):(if v<0 then max (v+(n:Int)) 0 else min v (n:Int))=((sIx n d (oZ v):Nat):Int):=by
 show(if v<0 then max (v+(n:Int)) 0 else min v (n:Int))=(((if v<0 then(v+(n:Int)).toNat else min v.toNat n):Nat):Int)
 by_cases hv:v<0
 ·simp only[oV hv];lia
 ·simp only[oW hv];lia
theorem Lw(lo hi:Option Int)(n:Nat):Builtin.Slice.sliceAdjust lo hi 1 (n:Int)=(((sIx n 0 lo:Nat):Int),((sIx n n hi:Nat):Int)):=by
 have h1:¬((1:Int)<0):=⋯
 unfold Builtin.Slice.sliceAdjust;simp only[h1,if_false];refine Prod.ext ?_ ?_
 ·cases lo with
  |none=>rfl
  |some v=>exact Qp v n 0
 ·cases hi with
  |none=>rfl
  |some v=>exact Qp v n n
theorem Oo(i j:Nat):Builtin.Slice.slicePlaces (i:Int) (j:Int) 1=j-i:=by
 unfold Builtin.Slice.slicePlaces;have h1:(1:Int)>0:=⋯
 simp only[h1,if_true,Int.ediv_one]
 split<;>lia
theorem Ae{E:oA->oB->Prop}{o:Option Int}{Q:Option Int->oB->Prop}(p:IsPart v o)(h:Q o s):fo (ft prog w) A (Builtin.Slice.slicePartIndex v) Q E s:=by
 cases p with
 |none=>exact slicePart_none h
 |int i t=>exact slicePart_int h
theorem vR{E:oA->oB->Prop}{lo hi:Option Int}{Q:Int×Int×Nat->oB->Prop}(hs:s.heap.IsSliceOf sl vl vu .none)(pl:IsPart vl lo)(pu:IsPart vu hi)(h:Q (((sIx n 0 lo:Nat):Int),1,sIx n n hi-sIx n 0 lo) s):fo (ft prog w) A (Builtin.Slice.sliceApplied (.ref sl) (pure (n:Int))) Q E s:=by
 obtain⟨os,hos,hcs,hds⟩:=id hs;unfold Builtin.Slice.sliceApplied Builtin.Slice.sliceFields;refine fm (fm (jh hos hds (x:=vl) rfl (fm (jh hos hds (x:=vu) rfl (fm (jh hos hds (x:=.none) rfl (fz ?_)))))));refine fm (slicePart_none ?_);show fo _ _ (if((1:Int)==0)=true then _ else _) _ _ s;rw[oW ∅];refine fm (Ae pl (fm (Ae pu (fm (fz ?_)))));show fo _ _ (match Builtin.Slice.sliceAdjust lo hi 1 (n:Int)with|(lo,hi)=>pure (lo,(1:Int),Builtin.Slice.slicePlaces lo hi 1)) _ _ s;rw[Lw lo hi n];show fo _ _ (pure (((sIx n 0 lo:Nat):Int),(1:Int),Builtin.Slice.slicePlaces ((sIx n 0 lo:Nat):Int) ((sIx n n hi:Nat):Int) 1)) _ _ s;rw[Oo];exact fz h
theorem C2(xs:Array oA)(i k:Nat):((VC k).filterMap λ(m:Nat)=>xs[((i:Int)+(m:Int)*1).toNat]?).toArray=((xs.toList.drop i).take k).toArray:=by
 have e:(λ(m:Nat)=>xs[((i:Int)+(m:Int)*1).toNat]?)=λm=>xs[i+m]?:=by
  funext m
  have:((i:Int)+(m:Int)*1).toNat=i+m:=⋯
  rw[this]
 rw[e];have:=pick_run xs i k;rw[List.filterMap_map]at this;have e2:((λx=>xs[x]?)∘λx=>i+x)=λm=>xs[i+m]?:=rfl;rw[e2]at this;rw[this]
theorem getItem_tuple_cut{E:oA->oB->Prop}{lo hi:Option Int}{Q:oA->oB->Prop}(ht:IsTup s.heap t items)(hs:s.heap.IsSliceOf sl vl vu .none)(pl:IsPart vl lo)(pu:IsPart vu hi)(hw:¬(sIx items.size 0 lo=0/\sIx items.size items.size hi=items.size))(h:Q (.ref s.heap.objs.size) { s with heap:=s.heap.push { cls:=.type "tuple",data:=.seq ((items.toList.drop (sIx items.size 0 lo)).take (sIx items.size items.size hi-sIx items.size 0 lo)).toArray } })(hsz:items.size<=gf):fo (ft prog w) A (kc (.ref t) (.ref sl)) Q E s:=by
 have aA9:sizeOk (.seq ((items.toList.drop (sIx items.size 0 lo)).take (sIx items.size items.size hi-sIx items.size 0 lo)).toArray):=by
  show((items.toList.drop (sIx items.size 0 lo)).take (sIx items.size items.size hi-sIx items.size 0 lo)).toArray.size<=gf;rw[VG,WE,XI,aa];omega
 have hj:sIx items.size items.size hi<=items.size:=IA _ _ (VA _) hi;obtain⟨os,hos,hcs,hds⟩:=id hs;have hTs:s.TypeIs (.ref sl) "slice":=⟨os,hos,hcs⟩;unfold kc
 try with_reducible refine iu ?_
 first|refine fm (fz ?_)|skip
 refine fm (wpAny_sequenceKey ht.typeIs ∅ ?_);refine fm (wpAny_callSpecial?_slot (name:=VW "__getitem__") ht.typeIs PyProof.Rows.slot_tuple_getitem
  (jy PyProof.Rows.slot_tuple_getitem ht.typeIs entry_tuple_getitem ?_ (args_tuple_getitem _ _)))
 show fo _ _ (Builtin.Tuple.tupleItemsOf (.ref t) >>= _) _ _ s;refine fm (tupleItemsOf_ ht ?_);refine fm (wpAny_typeOf hTs ?_);rw[oV ∅];refine fm (vR hs pl pu ?_);have hno:¬((((sIx items.size 0 lo:Nat):Int)==0&&(1:Int)==1&&(sIx items.size items.size hi-sIx items.size 0 lo)==items.size)=true):=by
  intro q;rw[VN,VN]at q;have q1:((sIx items.size 0 lo:Nat):Int)=0:=eq_of_beq q.1.1;have q2:sIx items.size items.size hi-sIx items.size 0 lo=items.size:=eq_of_beq q.2;exact hw ⟨by omega,by omega⟩
 show fo _ _ (if(((sIx items.size 0 lo:Nat):Int)==0&&(1:Int)==1&&(sIx items.size items.size hi-sIx items.size 0 lo)==items.size)=true then _ else _) _ _ s;rw[oW hno,C2]
 first
  |exact fm (m:=Builtin.Tuple.tupleExact _) (iy (fz ⟨_,rfl,fz h⟩) aA9)
  |exact fm (m:=Builtin.Tuple.tupleExact _) (iy (fm (fz (fz ⟨_,rfl,fz h⟩))) aA9)
  |exact fm (fm (m:=Builtin.Tuple.tupleExact _) (iy (fz (fz ⟨_,rfl,fz h⟩)) aA9))
  |exact fm (fm (m:=Builtin.Tuple.tupleExact _) (iy (fz ⟨_,rfl,fz h⟩) aA9))
end HT
namespace L2
open PySem PySem.Spec PyProof.Rows
abbrev TO:=St->Hp->(Option Int->Hp->Prop)->Prop
def PO(X:Cx)(e:Option oC)(t:TO):Prop:=
 ∀(pins:List (fk×Obj))(s:oB)(σ:St)(H:Hp)(Q:Option Int->Hp->Prop),aW X pins σ H s->t σ H Q->
  fo (ft X.prog X.w) X.A (evalPart e X.env) (λu s'=>∃o H',aW X pins σ H' s'/\IsPart u o/\Q o H') X.xe s
def Th:TO:=λ_ H Q=>Q none H
def CO(t:TE):TO:=λσ H Q=>t σ H λx H1=>∃i,x = .int i/\Q (oZ i) H1
section
variable{X:Cx}{e:oC}{te:TE}{lo hi:Option oC}{tl th:TO}{pos p2:Pos}
theorem V8:PO X none Th:=by
 intro pins s σ H Q I h;rw[evalPart_none];exact fz ⟨none,H,I,.none,h⟩
theorem V9(h:PE X e te):PO X (oZ e) (CO te):=by
 intro pins s σ H Q I hw;rw[evalPart_some];refine dP (h pins s σ H _ I hw) λu s1 zZ=>?_;obtain⟨x,H1,I1,r1,q1⟩:=zZ;obtain⟨i,rfl,q⟩:=q1;obtain⟨t,rfl⟩:=r1;exact⟨oZ i,H1,I1,.int i t,q⟩
def OX(X:Cx)(r:V->Option Int->Option Int->Hp->VK->Prop):Prop:=
 ∀(pins:List (fk×Obj))(s:oB)(σ:St)(H:Hp)(x:V)(v vl vu:oA)(lo hi:Option Int)(sl:fk)(Q:VK),aW X pins σ H s->bJ x v->s.heap.IsSliceOf sl vl vu .none->IsPart vl lo->IsPart vu hi->r x lo hi H Q->
  ∃T id,typeLookup (.type T) "__getitem__" = pure (oZ (.builtin id))/\s.TypeIs v T/\fo (ft X.prog X.w) X.A (kc v (.ref sl)) (EP X pins σ Q) X.xe s
def TH(r:V->Option Int->Option Int->Hp->VK->Prop)(te:TE)(tl th:TO):TE:=λσ H Q=>te σ H λx H1=>tl σ H1 λl H2=>th σ H2 λu H3=>r x l u H3 Q
theorem B9{r:V->Option Int->Option Int->Hp->VK->Prop}(hr:OX X r)(he:PE X e te)(hl:PO X lo tl)(hu:PO X hi th):PE X (.Subscript e (.Slice lo hi none p2) pos) (TH r te tl th):=by
 intro pins s σ H Q I h;refine Subscript_ (dP (he pins s σ H _ I h) λv s1 zZ=>?_);obtain⟨x,H1,I1,r1,q1⟩:=zZ;refine wpAny_Slice (dP (hl pins s1 σ H1 _ I1 q1) λvl s2⟨l,H2,I2,pl,q2⟩=>dP (hu pins s2 σ H2 _ I2 q2) λvu s3 zZ=>?_);obtain⟨u,H3,I3,pu,q3⟩:=zZ;rw[evalPart_none];refine fz ?_;have I4:aW X pins σ H3 { s3 with heap:=s3.heap.push { cls:=.type "slice",data:=.fields #[vl,vu,.none] } }:=I3.kept (t':=s3.toks) λb ob q=>UY _ q;obtain⟨T,id,hT,ht,hg⟩:=hr pins { s3 with heap:=s3.heap.push { cls:=.type "slice",data:=.fields #[vl,vu,.none] } } σ H3 x v vl vu l u s3.heap.objs.size Q I4 r1 (Heap.IsSliceOf.new ..) pl pu q3;show fo (ft X.prog X.w) X.A (subscriptTail e (.Slice lo hi none p2) v (.ref s3.heap.objs.size)) (EP X pins σ Q) X.xe { s3 with heap:=s3.heap.push { cls:=.type "slice",data:=.fields #[vl,vu,.none] } };exact tail_any (ops:=[.ref s3.heap.objs.size,v]) ht hT hg (by with_unfolding_all rfl)
def Iw(xs:List V)(lo hi:Option Int):List V:=(xs.drop (HT.sIx xs.length 0 lo)).take (HT.sIx xs.length xs.length hi-HT.sIx xs.length 0 lo)
theorem wA(xs:List V)(lo hi:Option Int):(Iw xs lo hi).length<=xs.length:=by
 unfold Iw;rw[WE,XI]
 lia
def RQ(K:W.Frag):V->Option Int->Option Int->Hp->VK->Prop:=λx lo hi H Q=>∃a xs,x = .ref a/\xZ K H a xs/\
 ¬(HT.sIx xs.length 0 lo=0/\HT.sIx xs.length xs.length hi=xs.length)/\∀p,H p=none->Q (.ref p) (upd H p (.tup (Iw xs lo hi)))
theorem IE:OX X (RQ X.K):=by
 intro pins s σ H x v vl vu lo hi sl Q I rx hs pl pu h;obtain⟨a,xs,rfl,hx,hw,q⟩:=h;cases rx;obtain⟨mq,r,ht,hz⟩:=I.tuple hx;have hlen:mq.toArray.size=xs.length:=by rw[VG];exact r.length.symm
 refine⟨"tuple",_,PyProof.Rows.slot_tuple_getitem.lookup,ht.typeIs,?_⟩;refine HT.getItem_tuple_cut ht hs pl pu (by rw[hlen];exact hw) ?_ (by rw[hlen];exact hz);rw[hlen];refine⟨.ref s.heap.objs.size,_,I.laid (t':=s.toks) (o:=.tup (Iw xs lo hi)) (λb ob q=>UY _ q) (VA _) ?_,rfl,q _ (I.hok.fresh (VA _))⟩;exact⟨VZ (wA xs lo hi) hz,_,(r.drop (HT.sIx xs.length 0 lo)).take (HT.sIx xs.length xs.length hi-HT.sIx xs.length 0 lo),IsTup.new _ _⟩
def MO(K:W.Frag):R2:=λx y H Q=>∃a b xs ys,x = .ref a/\y = .ref b/\xZ K H a xs/\xZ K H b ys/\xs≠[]/\xs.length+ys.length<=gf/\
 (ys=[]->Q (.ref a) H)/\(ys≠[]->∀p,H p=none->Q (.ref p) (upd H p (.tup (xs++ys))))
theorem bC.nil_iff(r:bC xs us):us=[]↔xs=[]:=by
 cases r with
 |nil=>simp
 |cons _ _=>simp
theorem U4:oP X (jc .Add) (MO X.K):=by
 intro pins s σ H x y v u Q I rx ry h;obtain⟨a,b,xs,ys,rfl,rfl,ha,hb,hx,hz,q1,q2⟩:=h;cases rx;cases ry;obtain⟨mq,r1,p1,_⟩:=I.tuple ha;obtain⟨aAR,r2,p2,_⟩:=I.tuple hb;refine HT.cat_tup p1 p2 (λz=>hx (r1.nil_iff.mp z)) (λz=>⟨.ref a,H,I,rfl,q1 (r2.nil_iff.mp z)⟩) (λz=>?_) (by rw[<-r1.length,<-r2.length];exact hz);refine⟨.ref s.heap.objs.size,_,I.laid (t':=s.toks) (o:=.tup (xs++ys)) (λb ob q=>UY _ q) (VA _) ?_,rfl,q2 (λw=>z (r2.nil_iff.mpr w)) _ (I.hok.fresh (VA _))⟩;exact⟨by rw[UT];exact hz,_,r1.append r2,IsTup.new _ _⟩
end
def Lq(n:Nat)(i:Int):Option Nat:=if 0<=i then(if i<n then oZ i.toNat else none)else if -(n:Int)<=i then oZ (i+n).toNat else none
def dX{α:Type}(xs:List α)(i:Int):Option α:=(Lq xs.length i).bind λj=>xs[j]?
theorem Rl{i:Int}(h:Lq n i=oZ j):seqIndex? i n=oZ j/\j<n/\-(n:Int)<=i/\i<n:=by
 unfold Lq at h
 by_cases h0:0<=i
 ·rw[oV h0]at h
  by_cases h1:i<n
  ·rw[oV h1]at h;have e:i.toNat=j:=Option.some.inj h;exact⟨by rw[seqIndex_of h0 h1,e],⋯,⋯,h1⟩
  ·rw[oW h1]at h;cases h
 ·rw[oW h0]at h
  by_cases h1:-(n:Int)<=i
  ·rw[oV h1]at h;have e:(i+n).toNat=j:=Option.some.inj h;exact⟨by rw[seqIndex_neg ⋯ h1,e],⋯,h1,⋯⟩
  ·rw[oW h1]at h;cases h
theorem Dw{α:Type}{xs:List α}{i:Int}{v:α}(h:dX xs i=oZ v):∃j,seqIndex? i xs.length=oZ j/\xs[j]?=oZ v/\j<xs.length/\-(xs.length:Int)<=i/\i<xs.length:=by
 unfold dX at h;cases e:Lq xs.length i with
 |none=>rw[e]at h;cases h
 |some j=>
  rw[e]at h;obtain⟨h1,h2,h3,h4⟩:=Rl e;exact⟨j,h1,h,h2,h3,h4⟩
theorem gR{α:Type}{xs:List α}{j:Nat}{v:α}(h:xs[j]?=oZ v):dX xs (j:Int)=oZ v:=by
 have hj:j<xs.length:=(UO.mp h).1;have e:Lq xs.length (j:Int)=oZ j:=by
  unfold Lq;rw[oV ⋯,oV ⋯];simp
 unfold dX;rw[e];exact h
theorem kK{α:Type}(xs:List α)(v:α):dX (xs++[v]) (-1)=oZ v:=by
 have hl:(xs++[v]).length=xs.length+1:=by simp
 have e:Lq (xs++[v]).length (-1)=oZ xs.length:=by
  unfold Lq;rw[hl,oW ∅,oV ⋯]
  congr 1
  lia
 unfold dX;rw[e];show(xs++[v])[xs.length]?=oZ v;simp
def wV(b:oC):Prop:=∀o i,ky b false o i=operate [o,i] (kc o i)
def N0(X:Cx)(r:R2):Prop:=
 ∀(value slice:oC)(pins:List (fk×Obj))(s:oB)(σ:St)(H:Hp)(x y:V)(v u:oA)(Q:VK),aW X pins σ H s->bJ x v->bJ y u->r x y H Q->
  ky slice false v u=operate [v,u] (kc v u)->fo (ft X.prog X.w) X.A (subscriptTail value slice v u) (EP X pins σ Q) X.xe s
def IT(X:Cx)(id:String)(r:V->List V->Hp->VK->Prop):Prop:=
 ∀(pins:List (fk×Obj))(s:oB)(σ:St)(H:Hp)(x:V)(xs:List V)(v:oA)(us:List oA)(Q:VK),aW X pins σ H s->bJ x v->bC xs us->r x xs H Q->
  fo (ft X.prog X.w) X.A (call (.builtin id) (v::us)) (EP X pins σ Q) X.xe s
section
variable{X:Cx}{a b:oC}{ta tb:TE}{pos:Pos}
theorem N0.or(h:N0 X r)(h':N0 X r'):N0 X (λx y H Q=>r x y H Q\/r' x y H Q):=by
 intro value slice pins s σ H x y v u Q I rx ry q hs;obtain q|q:=q
 ·exact h value slice pins s σ H x y v u Q I rx ry q hs
 ·exact h' value slice pins s σ H x y v u Q I rx ry q hs
theorem MC(hr:N0 X r)(ha:PE X a ta)(hb:PE X b tb)(hs:wV b):PE X (.Subscript a b pos) (Wr r ta tb):=by
 intro pins s σ H Q I h;exact Subscript_ (DJ ha hb I h λv u s2 x y H2 I2 rx ry q=>hr a b pins s2 σ H2 x y v u Q I2 rx ry q (hs _ _))
def X8(K:W.Frag):R2:=λx y H Q=>∃p xs i v,x = .ref p/\y = .int i/\k9 K H p xs/\dX xs i=oZ v/\Q v H
def MQ(K:W.Frag):R2:=λx y H Q=>∃p xs i v,x = .ref p/\y = .int i/\xZ K H p xs/\dX xs i=oZ v/\Q v H
def MP:R2:=λx y H Q=>∃z i c,x = .str z/\y = .int i/\z.length<=gf/\dX z.cps.toList i=oZ c/\Q (.str ⟨#[c]⟩) H
theorem Ex:N0 X (X8 X.K):=by
 intro value slice pins s σ H x y v u Q I rx ry h hs;obtain⟨p,xs,i,z,rfl,rfl,hq,he,q⟩:=h;cases rx;obtain⟨t,rfl⟩:=ry;obtain⟨mq,r,pl,hz⟩:=I.list hq;obtain⟨j,h1,h2,h3,h4,h5⟩:=Dw he;obtain⟨w,ew,rw'⟩:=r.get h2;have hl:=r.length;have hn:=yW;have fin:EP X pins σ Q w s:=⟨z,H,I,rw',q⟩
 by_cases h0:0<=i
 ·have hj:i.toNat=j:=by
   rw[seqIndex_of h0 h5]at h1;exact Option.some.inj h1
  exact item_listR pl.isList h0 ⋯ (by rw[hj];simpa using ew) fin hs
 ·have hj:(i+(mq.toArray.size:Int)).toNat=j:=by
   rw[seqIndex_neg ⋯ h4]at h1;rw[VG,<-hl];exact Option.some.inj h1
  exact subscriptTail_builtinR (x:=w) pl.isList.typeIs slot_list_getitem.lookup
   (wpAny_getItem_list_neg (Q:=λr s'=>r=w/\EP X pins σ Q r s') pl.isList ⋯ (by rw[VG]<;>lia) ⋯ (by rw[hj];simpa using ew) ⟨rfl,fin⟩) hs
theorem FH:N0 X (MQ X.K):=by
 intro value slice pins s σ H x y v u Q I rx ry h hs;obtain⟨p,xs,i,z,rfl,rfl,hq,he,q⟩:=h;cases rx;obtain⟨t,rfl⟩:=ry;obtain⟨mq,r,pl,hz⟩:=I.tuple hq;obtain⟨j,h1,h2,h3,h4,h5⟩:=Dw he;obtain⟨w,ew,rw'⟩:=r.get h2;have hl:=r.length;have hn:=yW;have fin:EP X pins σ Q w s:=⟨z,H,I,rw',q⟩;exact subscriptTail_builtinR (x:=w) pl.typeIs slot_tuple_getitem.lookup
  (getItem_tuple (j:=j) (Q:=λr s'=>r=w/\EP X pins σ Q r s') pl ⋯ ⋯ (by rw[VG,<-hl];exact h1) (by simpa using ew) ⟨rfl,fin⟩) hs
theorem FF:N0 X MP:=by
 intro value slice pins s σ H x y v u Q I rx ry h hs;obtain⟨z,i,c,rfl,rfl,hz,he,q⟩:=h;obtain⟨t,rfl⟩:=rx;obtain⟨t',rfl⟩:=ry;obtain⟨j,h1,h2,h3,h4,h5⟩:=Dw he;have hl:z.cps.toList.length=z.length:=by simp[Str.length]
 rw[hl]at h1 h4 h5;have hn:=yW;exact tail_any (typeIs_str s z t) slot_str_getitem.lookup (getItem_str (c:=c) (by
  have e1:decide (i < -(2^63:Int))=false:=oX ⋯;have e2:decide (i>=2^63)=false:=oX ⋯;rw[e1,e2,Bool.or_false]) (by rw[h1];simpa using h2) ⟨.str ⟨#[c]⟩,H,I.tok _,⟨_,rfl⟩,q⟩) hs
def UK(K:W.Frag):R2:=λx y H Q=>X8 K x y H Q\/MQ K x y H Q\/MP x y H Q
theorem FD:N0 X (UK X.K):=Ex.or (FH.or FF)
theorem Nj(mq:List oA)(n j:Nat)(u:oA):YL (·.setIfInBounds j u) { cls:=.type "list",data:=.seq mq.toArray n } = { cls:=.type "list",data:=.seq (mq.set j u).toArray n }:=by
 simp[YL]
theorem aW.lst(I:aW X pins σ H s)(h:H p=oZ (.lst xs)):
  ∃(mq:List oA)(n:Nat),bC xs mq/\s.heap.get? p=oZ { cls:=.type "list",data:=.seq mq.toArray n }/\xs.length<=gf:=by
 obtain⟨z,mq,n,r,e⟩:=I.hok p _ h;exact⟨mq,n,r,e,z⟩
theorem aW.lstUpd{H:Hp}{s:oB}{ys:List V}{mq its':List oA}{f:Obj->Obj}(I:aW X pins σ H s)(h:H p=oZ (.lst xs))(ho:s.heap.get? p=oZ { cls:=.type "list",data:=.seq mq.toArray n })(hf:f { cls:=.type "list",data:=.seq mq.toArray n } = { cls:=.type "list",data:=.seq its'.toArray n' })(r:bC ys its')(hz:ys.length<=gf)(t:Nat):
  aW X pins σ (upd H p (.lst ys)) { s with heap:=s.heap.update p f,toks:=t }:=by
 have e:(s.heap.update p f).get? p=oZ { cls:=.type "list",data:=.seq its'.toArray n' }:=by
  rw[ZP f ho (by rw[hf]<;>rfl),hf]
 refine I.write (x:=p) (e:=p) (by rw[h];trivial) (.inl rfl) (λb u hb q=>(dj _ _ (Ne.symm hb)).trans q) ⟨_,e⟩ ?_;exact⟨hz,its',n',r,e⟩
def MR:V->V->V->Hp->(Hp->Prop)->Prop:=λo i v H Q=>∃p xs k j,o = .ref p/\i = .int k/\H p=oZ (.lst xs)/\Lq xs.length k=oZ j/\Q (upd H p (.lst (xs.set j v)))
theorem Ad:DG X MR:=by
 intro pins s σ H o i v ov iv u Q I ro ri rv h;obtain⟨p,xs,k,j,rfl,rfl,hp,hj,q⟩:=h;cases ro;obtain⟨t,rfl⟩:=ri;obtain⟨mq,n,r,ho,hz⟩:=I.lst hp;obtain⟨h1,h2,h3,h4⟩:=Rl hj;have hl:=r.length;have hn:=yW;have I':aW X pins σ (upd H p (.lst (xs.set j v))) { s with heap:=s.heap.update p (YL (·.setIfInBounds j u)) }:=
  I.lstUpd hp ho (Nj mq n j u) (r.set rv j) (by rw[XS];exact hz) s.toks
 by_cases h0:0<=k
 ·have hk:k.toNat=j:=by
   rw[seqIndex_of h0 h4]at h1;exact Option.some.inj h1
  exact W.ki_setAt ho h0 ⋯ (by rw[VG,<-hl];exact h4) (by rw[hk];exact⟨_,I',q⟩)
 ·have hk:(k+(mq.toArray.size:Int)).toNat=j:=by
   rw[seqIndex_neg ⋯ h3]at h1;rw[VG,<-hl];exact Option.some.inj h1
  exact W.ki_setBack ho ⋯ (by rw[VG,<-hl];exact h3) ⋯ (by rw[hk];exact⟨_,I',q⟩)
theorem Hq(lo hi:Option Int)(n:Nat):(ke lo hi none n).1=((HT.sIx n 0 lo:Nat):Int)/\(ke lo hi none n).2.1=((HT.sIx n n hi:Nat):Int)/\(ke lo hi none n).2.2=1:=by
 refine⟨?_,?_,rfl⟩
 ·cases lo with
  |none=>simp[ke,HT.sIx]
  |some i=>
   simp only[ke,HT.sIx,Option.getD_none,show(1:Int)>0 by decide,if_true]
   by_cases h:i<0
   ·simp only[h,if_true]<;>lia
   ·simp only[h,if_false]<;>lia
 ·cases hi with
  |none=>simp[ke,HT.sIx]
  |some i=>
   simp only[ke,HT.sIx,Option.getD_none,show(1:Int)>0 by decide,if_true]
   by_cases h:i<0
   ·simp only[h,if_true]<;>lia
   ·simp only[h,if_false]<;>lia
theorem Be(mq:List oA)(lo hi:Option Int):slicePick mq.toArray lo hi none=((mq.drop (HT.sIx mq.length 0 lo)).take (HT.sIx mq.length mq.length hi-HT.sIx mq.length 0 lo)).toArray:=by
 obtain⟨h1,h2,h3⟩:=Hq lo hi mq.toArray.size;unfold slicePick;rw[h1,h2,h3];simp only[sliceRange_one,pick_run,VG]<;>rfl
def RP(K:W.Frag):V->Option Int->Option Int->Hp->VK->Prop:=λx lo hi H Q=>∃a xs,x = .ref a/\k9 K H a xs/\∀p,H p=none->Q (.ref p) (upd H p (.lst (Iw xs lo hi)))
theorem Z2:OX X (RP X.K):=by
 intro pins s σ H x v vl vu lo hi sl Q I rx hs pl pu h;obtain⟨a,xs,rfl,hx,q⟩:=h;cases rx;obtain⟨mq,r,ht,hz⟩:=I.list hx;have hlen:=r.length;refine⟨"list",_,slot_list_getitem.lookup,ht.isList.typeIs,?_⟩;refine wpAny_getItem_list_slice ht.isList hs pl pu .none (by simp) ?_ (by rw[VG]<;>lia);rw[Be,<-hlen];refine⟨.ref s.heap.objs.size,_,I.laid (t':=s.toks) (o:=.lst (Iw xs lo hi)) (λb ob q=>UY _ q) (VA _) ?_,rfl,q _ (I.hok.fresh (VA _))⟩;exact⟨VZ (wA xs lo hi) hz,_,0,(r.drop (HT.sIx xs.length 0 lo)).take (HT.sIx xs.length xs.length hi-HT.sIx xs.length 0 lo),VF _ rfl⟩
theorem Eb:j7 X (.builtin "len") (λxs H Q=>∃p ys,xs=[.ref p]/\(k9 X.K H p ys\/xZ X.K H p ys)/\Q (.int ys.length) H):=by
 intro pins s σ H xs us Q I r h;obtain⟨p,ys,rfl,hq,q⟩:=h;obtain⟨u,rfl,rx⟩:=Am r;cases rx;have hn:=yW;obtain hq|hq:=hq
 ·obtain⟨mq,r',pl,hz⟩:=I.list hq;have hlen:=r'.length;exact Calls.call_len_list pl.isList (by simp only[VG]<;>lia) ⟨.int ys.length,H,I.tok _,⟨s.toks+1,by rw[VG,hlen]⟩,q⟩
 ·obtain⟨mq,r',pl,hz⟩:=I.tuple hq;have hlen:=r'.length;exact len_tuple pl (by simp only[VG]<;>lia) ⟨.int ys.length,H,I.tok _,⟨s.toks+1,by rw[VG,hlen]⟩,q⟩
theorem Ec:j7 X (.type "list") (λxs H Q=>∃p ys,xs=[.ref p]/\(k9 X.K H p ys\/xZ X.K H p ys)/\∀l,H l=none->Q (.ref l) (upd H l (.lst ys))):=by
 intro pins s σ H xs us Q I r h;obtain⟨p,ys,rfl,hq,q⟩:=h;obtain⟨u,rfl,rx⟩:=Am r;cases rx;have fin:∀(mq:List oA),bC ys mq->ys.length<=gf->∀(h':oE)(c':Nat),(∀b o',s.heap.get? b=oZ o'->h'.get? b=oZ o')->
   h'.get? s.heap.objs.size=oZ { cls:=.type "list",dict:=none,data:=.seq mq.toArray c',slots:=#[] }->EP X pins σ Q (.ref s.heap.objs.size) { s with heap:=h' }:=λmq r' hz h' c' kp e=>
  ⟨.ref s.heap.objs.size,_,I.laid (t':=s.toks) kp (VA _) (show eH X.prog X.w _ h' _ (.lst ys)from⟨hz,mq,c',r',e⟩),rfl,q _ (I.hok.fresh (VA _))⟩
 obtain hq|hq:=hq
 ·obtain⟨mq,r',pl,hz⟩:=I.list hq;have hlen:=r'.length;obtain⟨o,ho,hc,n,hd⟩:=pl.isList;exact call_list_seq p (.inl rfl) ho hc hd (λh' c' kp e=>fin mq r' hz h' c' kp e) (by simp only[VG]<;>lia)
 ·obtain⟨mq,r',pl,hz⟩:=I.tuple hq;have hlen:=r'.length;obtain⟨o,ho,hc,n,hd⟩:=pl;exact call_list_seq p (.inr rfl) ho hc hd (λh' c' kp e=>fin mq r' hz h' c' kp e) (by simp only[VG]<;>lia)
theorem Ar:j7 X (.type "tuple") (λxs H Q=>∃p ys,xs=[.ref p]/\((k9 X.K H p ys/\∀l,H l=none->Q (.ref l) (upd H l (.tup ys)))\/(xZ X.K H p ys/\Q (.ref p) H))):=by
 intro pins s σ H xs us Q I r h;obtain⟨p,ys,rfl,h⟩:=h;obtain⟨u,rfl,rx⟩:=Am r;cases rx;obtain⟨hq,q⟩|⟨hq,q⟩:=h
 ·obtain⟨mq,r',pl,hz⟩:=I.list hq;have hlen:=r'.length;refine call_tuple_list pl.isList (λh' kp=>?_) (by simp only[VG]<;>lia);have I1:aW X pins σ H { s with heap:=h' }:=I.kept (t':=s.toks) kp;have I2:aW X pins σ (upd H h'.objs.size (.tup ys)) { s with heap:=h'.push { cls:=.type "tuple",data:=.seq mq.toArray } }:=
   I1.laid (t':=s.toks) (λb o e=>UY _ e) (VA _) (show eH X.prog X.w _ _ _ (.tup ys)from⟨hz,mq,r',IsTup.new _ _⟩)
  exact⟨.ref h'.objs.size,_,I2,rfl,q _ (I1.hok.fresh (VA _))⟩
 ·obtain⟨mq,r',pl,hz⟩:=I.tuple hq;exact call_tuple_same pl ⟨.ref p,H,I,rfl,q⟩
def PF(K:W.Frag)(T:String)(x:V)(H:Hp):Prop:=match x with
 |.str _=>T = "str"
 |.int _=>T = "int"
 |.ref p=>(T = "list"/\∃xs,k9 K H p xs)\/(T = "tuple"/\∃o,K.lookup p=oZ o/\o.cls = .type "tuple"/\o.dict=none)\/
   (T = "dict"/\((∃mr,H p=oZ (.dK mr))\/∃mr,H p=oZ (.dT mr)))\/(T = "set"/\∃S n,H p=oZ (.set S n))
 |_=>False
theorem Qf(I:aW X pins σ H s)(r:bJ x v)(ty:PF X.K T x H):
  s.TypeIs v T/\∀a,v = .ref a->∃ob,s.heap.get? a=oZ ob/\ob.dict=none:=by
 cases x with
 |str z=>
  obtain⟨t,rfl⟩:=r;cases(show T = "str" from ty);exact⟨typeIs_str s z t,λ_ e=>nomatch e⟩
 |int i=>
  obtain⟨t,rfl⟩:=r;cases(show T = "int" from ty);exact⟨typeIs_int s i t,λ_ e=>nomatch e⟩
 |ref p=>
  cases r;obtain⟨rfl,xs,hq⟩|⟨rfl,o,hk,hc,hd⟩|⟨rfl,hk⟩|⟨rfl,S,n,hk⟩:=ty
  ·obtain⟨mq,_,pl,_⟩:=I.list hq;refine⟨pl.isList.typeIs,λa e=>?_⟩;cases e;obtain⟨o,n,e,c,hd,_⟩:=pl;exact⟨o,e,hd⟩
  ·refine⟨⟨o,I.kIn p o hk,hc⟩,λa e=>?_⟩;cases e;exact⟨o,I.kIn _ o hk,hd⟩
  ·have z:∃o,s.heap.get? p=oZ o/\o.ExactDict:=by
    obtain⟨mr,hk⟩|⟨mr,hk⟩:=hk
    ·obtain⟨_,_,_,_,o,_,_,e,ex,_⟩:=I.hok p _ hk;exact⟨o,e,ex⟩
    ·obtain⟨_,_,_,_,o,_,_,e,ex,_⟩:=I.hok p _ hk;exact⟨o,e,ex⟩
   obtain⟨o,e,ex⟩:=z;refine⟨⟨o,e,ex.1⟩,λa e2=>?_⟩;cases e2;exact⟨o,e,ex.2.1⟩
  ·obtain⟨o,_,_,_,e,ex,_⟩:=I.hok p _ hk;refine⟨⟨o,e,ex.1⟩,λa e2=>?_⟩;cases e2;exact⟨o,e,ex.2.1⟩
 |_=>exact False.elim ty
def AA(K:W.Frag)(T:String)(r:V->List V->Hp->VK->Prop)(to:TE):TE:=λσ H Q=>to σ H λx H1=>PF K T x H1/\r x [] H1 Q
def IZ(K:W.Frag)(T:String)(r:V->List V->Hp->VK->Prop)(to:TE)(t:TA):TE:=λσ H Q=>to σ H λx H1=>PF K T x H1/\t σ H1 λxs H2=>r x xs H2 Q
variable{o e:oC}{es:List oC}{to:TE}{t:TA}{name:Str}{apos zi:Pos}{T id:String}{r:V->List V->Hp->VK->Prop}
theorem B4(pa:PlainAttrs T)(slot:Slot T name id)(hty:typeOf (.builtin id)=pure (.type "method_descriptor"))(hm:IT X id r)(ho:PE X o to)(qg:iq o name X.env (ie o X.env)=ie o X.env:=by rfl)(qh:(apos.endLine==zi.line)=true:=by rfl):PE X (.Call (.Attribute o name apos) [] [] zi) (AA X.K T r to):=by
 intro pins s σ H Q I h;refine wpAny_Call_method0_late qg qh (dP (ho pins s σ H _ I h) λv s1 zZ=>?_);obtain⟨x,H1,I1,r1,ty,q1⟩:=zZ;obtain⟨h1,h2⟩:=Qf I1 r1 ty;exact⟨T,id,pa,slot,hty,h1,h2,Calls.callWith_builtin rfl (PySem.evalArgs_none (hm pins s1 σ H1 x [] v [] Q I1 r1 .nil q1))⟩
theorem Sb(pa:PlainAttrs T)(slot:Slot T name id)(hty:typeOf (.builtin id)=pure (.type "method_descriptor"))(hm:IT X id r)(ho:PE X o to)(ha:PA X (e::es) t)(qg:iq o name X.env (ie o X.env)=ie o X.env:=by rfl)(aHD:((jr zi (ig (e::es) X.env)).all (λx=>!x.1)&&(backToKw zi (keywordEach [] X.env)).all (λx=>x.1.isSome)
  &&decide ((e::es).length+([]:List Keyword).length+(if([]:List Keyword).isEmpty then 0 else 1)<30))=true:=by rfl)(qh:(apos.endLine==zi.line)=true:=by rfl)(hs:ig (e::es) X.env=(false,ie e X.env)::ig es X.env:=by rfl)(aDU:(jr zi (ig es X.env)).any (·.1)=false:=by rfl):
  PE X (.Call (.Attribute o name apos) (e::es) [] zi) (IZ X.K T r to t):=by
 intro pins s σ H Q I h;refine wpAny_Call_method_late qg aHD qh rfl (dP (ho pins s σ H _ I h) λv s1 zZ=>?_);obtain⟨x,H1,I1,r1,ty,q1⟩:=zZ;obtain⟨h1,h2⟩:=Qf I1 r1 ty;refine⟨T,id,pa,slot,hty,h1,h2,?_⟩;have hA:=ha zi pins s1 σ H1 _ I1 q1;rw[hs]at hA⊢;refine Calls.callWith_builtin (by show(false||(jr zi (ig es X.env)).any (·.1))=false;rw[aDU]<;>rfl) (Calls.evalArgs_plain ?_);exact dP hA λus s2 zZ=>by obtain⟨vs,H2,I2,r2,q2⟩:=zZ;exact hm pins s2 σ H2 x vs v us Q I2 r1 r2 q2
/- xs.append(e),list.index on a module's tuple .. are IT facts of 06m -/
end
def OT(X:Cx)(id:String)(r:V->List V->Hp->VK->Prop):Prop:=
 ∀(pins:List (fk×Obj))(s:oB)(σ:St)(H:Hp)(x:V)(xs:List V)(v:oA)(us:List oA)(Q:VK),aW X pins σ H s->bJ x v->bC xs us->r x xs H Q->
  fo (ft X.prog X.w) X.A (call (.builtin id) (v::us)) (EP X pins σ Q) X.xe s
theorem bC.one:∀{x:V}{us:List oA},bC [x] us->∃u,us=[u]/\bJ x u:=by
 intro x us h;cases h with
 |cons r t=>cases t;exact⟨_,rfl,r⟩
theorem bC.two:∀{x y:V}{us:List oA},bC [x,y] us->∃u v,us=[u,v]/\bJ x u/\bJ y v:=by
 intro x y us h;cases h with
 |cons r t=>
  obtain⟨v,rfl,q⟩:=bC.one t;exact⟨_,_,rfl,r,q⟩
theorem bC.zero:∀{us:List oA},bC [] us->us=[]
 |_,.nil=>rfl
theorem bC.eraseIdx:∀{xs:List V}{us:List oA}(i:Nat),bC xs us->bC (xs.eraseIdx i) (us.eraseIdx i)
 |_,_,_,.nil=>.nil
 |_,_,0,.cons _ t=>t
 |_,_,i+1,.cons r t=>.cons r (bC.eraseIdx i t)
theorem bC.reverse(h:bC xs us):bC xs.reverse us.reverse:=by
 induction h with
 |nil=>exact .nil
 |cons r t ih=>rw[YE,YE];exact bC.append ih (.cons r .nil)
theorem bC.rep(h:bC xs us):∀k:Nat,bC (US k xs).flatten (US k us).flatten
 |0=>.nil
 |k+1=>by
  rw[WI,WI,XH,XH];exact bC.append h (bC.rep h k)
theorem Cn{α:Type}:∀(l:List α)(i:Nat),(l.eraseIdx i).length<=l.length
 |[],_=>VA _
 |_::_,0=>dk _
 |_::r,i+1=>YG (Cn r i)
theorem Cg(mq:List oA):∀(k:Nat)(acc:List oA),
  ZU (λx1 x2=>x1++x2) acc.toArray (US k mq.toArray)=(acc++(US k mq).flatten).toArray
 |0,acc=>by simp
 |k+1,acc=>by
  have e:acc.toArray++mq.toArray=(acc++mq).toArray:=by simp
  have e2:(acc++mq)++(US k mq).flatten=acc++(US (k+1) mq).flatten:=by
   rw[WI,XH,VH]
  rw[<-e2,<-Cg mq k (acc++mq),<-e,WI,List.foldl_cons]
theorem aW.lset{H:Hp}{s:oB}{ys:List V}{mq its':List oA}{f:Array oA->Array oA}(I:aW X pins σ H s)(hH:H l=oZ (.lst xs))(e:s.heap.get? l=oZ { cls:=.type "list",data:=.seq mq.toArray n })(hf:f mq.toArray=its'.toArray)(hv:bC ys its')(hz:ys.length<=gf):
  aW X pins σ (upd H l (.lst ys)) { s with heap:=s.heap.update l (YL f),toks:=t' }:=by
 have q:=PySem.IsL.update e f;rw[hf]at q;refine I.write (x:=l) (e:=l) (by rw[hH];exact trivial) (.inl rfl) (λb' u hb hu=>(dj s.heap (YL f) (Ne.symm hb)).trans hu) ⟨_,q⟩ ?_;exact⟨hz,its',_,hv,q⟩
theorem aW.lnew(I:aW X pins σ H s)(hv:bC ys mq)(hz:ys.length<=gf):
  aW X pins σ (upd H s.heap.objs.size (.lst ys)) { s with heap:=s.heap.push { cls:=.type "list",data:=.seq mq.toArray },toks:=t' }:=
 I.laid (λ_ _ q=>UY _ q) (VA _) ⟨hz,mq,0,hv,VF _ rfl⟩
theorem aW.fresh(I:aW X pins σ H s):H s.heap.objs.size=none:=I.hok.fresh (VA _)
theorem aW.lstM(I:aW X pins σ H s)(hH:H l=oZ (.lst xs)):xs.length<=gf/\∃(mq:List oA)(n:Nat),bC xs mq/\xs.length=mq.length/\s.heap.get? l=oZ { cls:=.type "list",data:=.seq mq.toArray n }:=by
 obtain⟨z,mq,n,r,e⟩:=I.hok l _ hH;exact⟨z,mq,n,r,r.length,e⟩
theorem Jq(h:n<=gf):Builtin.List.listTooLong n=false:=by
 unfold Builtin.List.listTooLong;exact oX ⋯
def Gq:V->List V->Hp->VK->Prop:=λx vs H Q=>∃l xs y,x = .ref l/\vs=[y]/\H l=oZ (.lst xs)/\xs.length<gf/\Q .non (upd H l (.lst (xs++[y])))
theorem Cp:OT X "list.append" Gq:=by
 intro pins s σ H x vs v us Q I rx rv h;obtain⟨l,xs,y,rfl,rfl,hH,hz,q⟩:=h;cases rx;obtain⟨u,rfl,ru⟩:=rv.one;obtain⟨z,mq,n,r,hl,e⟩:=I.lstM hH;refine lq F.slot_list_append ⟨_,e,rfl⟩ F.entry_list_append (F.args_list_append_2 _ _) (PySem.list_append l mq.toArray n u (by rw[VG];lia)) ⟨e,?_⟩;refine⟨.non,_,I.lset (its':=mq++[u]) hH e (by simp) (r.append (.cons ru .nil)) ?_,rfl,q⟩;rw[UT,VL]
 lia
def Sl:V->List V->Hp->VK->Prop:=λx vs H Q=>∃l b xs zs,x = .ref l/\vs=[.ref b]/\H l=oZ (.lst xs)/\H b=oZ (.lst zs)/\xs.length+zs.length<=gf/\Q .non (upd H l (.lst (xs++zs)))
theorem Vj:OT X "list.extend" Sl:=by
 intro pins s σ H x vs v us Q I rx rv h;obtain⟨l,b,xs,zs,rfl,rfl,hH,hB,hz,q⟩:=h;cases rx;obtain⟨u,rfl,ru⟩:=rv.one;cases ru;obtain⟨z,mq,n,r,hl,e⟩:=I.lstM hH;obtain⟨z2,aAR,n2,r2,hl2,e2⟩:=I.lstM hB;have hsz:mq.toArray.size+aAR.toArray.size<=gf:=by rw[VG,VG];lia
 have aBX:¬(!mq.toArray.isEmpty&&Builtin.List.listTooLong (mq.toArray.size+aAR.toArray.size))=true:=by
  rw[Jq hsz,dw];exact YA
 refine lq F.slot_list_extend ⟨_,e,rfl⟩ F.entry_list_extend (F.args_list_extend_2 _ _)
  (AutoSeq1.list_extend_list_list_0 l mq.toArray n b aAR.toArray n2 aBX (by rw[VG];lia) ⋯) ⟨e,e2,?_⟩
 refine⟨.non,_,I.lset (its':=mq++aAR) hH e (by simp) (r.append r2) ?_,rfl,q⟩;rw[UT]
 lia
def D6:V->List V->Hp->VK->Prop:=λx vs H Q=>∃l xs i k y,x = .ref l/\vs=[.int i]/\H l=oZ (.lst xs)/\-(2^63)<=i/\i<2^63/\seqIndex? i xs.length=oZ k/\xs[k]?=oZ y/\Q y (upd H l (.lst (xs.eraseIdx k)))
theorem Zo:OT X "list.pop" D6:=by
 intro pins s σ H x vs v us Q I rx rv h;obtain⟨l,xs,i,k,y,rfl,rfl,hH,h1,h2,hk,hy,q⟩:=h;cases rx;obtain⟨u,rfl,ru⟩:=rv.one;obtain⟨t,rfl⟩:=ru;obtain⟨z,mq,n,r,hl,e⟩:=I.lstM hH;obtain⟨w,hw,rw'⟩:=r.get hy;refine lq F.slot_list_pop ⟨_,e,rfl⟩ F.entry_list_pop (F.args_list_pop_2 _ _)
  (MeetsSeq.list_pop_at l mq.toArray n i t k w (fitsIndex_both h1 h2) (by rw[VG,<-hl];exact hk) (by rw[<-dz];exact hw) (by rw[VG];lia)) ⟨e,?_⟩
 refine⟨y,_,I.lset (its':=mq.eraseIdx k) hH e ?_ (r.eraseIdx k) ?_,rw',q⟩
 ·show mq.toArray.eraseIdxIfInBounds k=(mq.eraseIdx k).toArray;rw[List.eraseIdxIfInBounds_toArray]
 ·have:=Cn xs k
  lia
def Kg:V->List V->Hp->VK->Prop:=λx vs H Q=>∃l xs,x = .ref l/\vs=[]/\H l=oZ (.lst xs)/\Q .non (upd H l (.lst xs.reverse))
theorem Nk:OT X "list.reverse" Kg:=by
 intro pins s σ H x vs v us Q I rx rv h;obtain⟨l,xs,rfl,rfl,hH,q⟩:=h;cases rx;have hus:=rv.zero;subst hus;obtain⟨z,mq,n,r,hl,e⟩:=I.lstM hH;refine lq F.slot_list_reverse ⟨_,e,rfl⟩ F.entry_list_reverse (F.args_list_reverse_1 _) (AutoSeq1.list_reverse_list_0 l mq.toArray n (by rw[VG];lia)) ⟨e,?_⟩;refine⟨.non,_,I.lset (its':=mq.reverse) hH e (by simp) r.reverse ?_,rfl,q⟩;rw[List.length_reverse]
 lia
def RN:R2:=λx y H Q=>∃l b xs zs,x = .ref l/\y = .ref b/\H l=oZ (.lst xs)/\H b=oZ (.lst zs)/\xs.length+zs.length<=gf/\∀p,H p=none->Q (.ref p) (upd H p (.lst (xs++zs)))
theorem GD:oP X (jc .Add) RN:=by
 intro pins s σ H x y v u Q I rx ry h;obtain⟨l,b,xs,zs,rfl,rfl,hH,hB,hz,q⟩:=h;cases rx;cases ry;obtain⟨z,mq,n,r,hl,e⟩:=I.lstM hH;obtain⟨z2,aAR,n2,r2,hl2,e2⟩:=I.lstM hB;refine PySem.P.add_list e e2 ?_ (by rw[VG,VG];lia);have ea:mq.toArray++aAR.toArray=(mq++aAR).toArray:=by simp
 rw[ea];exact⟨.ref _,_,I.lnew (t':=s.toks) (r.append r2) (by rw[UT];lia),rfl,q _ I.fresh⟩
def RO:R2:=λx y H Q=>∃l k xs,x = .ref l/\y = .int k/\H l=oZ (.lst xs)/\-(2^63)<=k/\k<2^63/\xs.length*k.toNat<=gf/\
 ∀p,H p=none->Q (.ref p) (upd H p (.lst (US k.toNat xs).flatten))
theorem R6{α:Type}(xs:List α)(k:Nat):(US k xs).flatten.length=k*xs.length:=by
 induction k with
 |zero=>simp
 |succ k ih=>rw[WI,XH,UT,ih,Nat.succ_mul,YH]
theorem GH:oP X (jc .Mult) RO:=by
 intro pins s σ H x y v u Q I rx ry h;obtain⟨l,k,xs,rfl,rfl,hH,h1,h2,hz,q⟩:=h;cases rx;obtain⟨t,rfl⟩:=ry;obtain⟨z,mq,n,r,hl,e⟩:=I.lstM hH;have hlen:mq.toArray.size*k.toNat<=gf:=by rw[VG,<-hl];exact hz
 have aHG:¬mq.toArray.size*k.toNat>(2^63-1)/8:=by
  have:(gf:Nat)<=(2^63-1)/8:=∅
  lia
 have aHH:¬(!Builtin.List.listFitsIndex k)=true:=by
  rw[fitsIndex_both h1 h2];exact YA
 have aBX:¬Builtin.List.listTooLong (mq.toArray.size*k.toNat)=true:=by
  rw[Jq hlen];exact YA
 have aHI:ZU (λx1 x2=>x1++x2) #[] (US (if mq.toArray.isEmpty=true then 0 else k.toNat) mq.toArray)=(US k.toNat mq).flatten.toArray:=by
  have f0:∀m:Nat,ZU (λx1 x2=>x1++x2) #[] (US m mq.toArray)=(US m mq).flatten.toArray:=λm=>by
   have:=Cg mq m [];rw[List.nil_append]at this;exact this
  rw[f0];cases mq with
  |nil=>simp
  |cons a r'=>rw[oW (by simp)]
 refine wpAny_binaryOp_repeat_ref (T:="list") (U:="int") ∅ ⟨_,e,rfl⟩ (λs'=>typeIs_int s' k t) noFill_list_mul F.fills_int_mul F.slot_int_rmul repeat_list F.slot_int_index.lookup
  (lq F.slot_int_rmul (typeIs_int s k t) F.entry_int_rmul (F.args_int_rmul_2 _ _) (int___rmul___int_list k t l mq.toArray n)
   ⟨e,rfl,⟨_,e,rfl⟩,lq F.slot_list_mul ⟨_,e,rfl⟩ F.entry_list_mul (F.args_list_mul_2 _ _) (AutoListH.list___mul___list_int_3 l mq.toArray n k t aHH aHG aBX) ⟨e,?_⟩⟩)
 rw[aHI];exact⟨.ref _,_,I.lnew (t':=s.toks) (r.rep k.toNat) (by rw[R6,Nat.mul_comm];exact hz),rfl,q _ I.fresh⟩
end L2
namespace Att
open PySem PySem.W PySem.Calls PyProof.Rows
theorem wK:∀(ns:List Int)(vs:List oA),WellAll P h vs (ns.map WData.int)->IntsAre vs ns:=by
 intro ns
 induction ns with
 |nil=>
  intro vs w;rw[List.map_nil]at w;cases w;exact .nil
 |cons n ns ih=>
  intro vs w;rw[WQ]at w;cases w with
  |cons a b=>
   cases a;exact .cons _ _ (ih _ b)
theorem Wo{l:OpenLaw}(hn:l.most=oZ n){h:oE}(aCM:l.row.toRowW.claim.pre args=true)(hwl:WellAll P h vals args):
  ∃a vs ns,vals=[WR a]/\args=[WData.list (ns.map WData.int)]/\h.get? a=oZ { cls:=.type "list",data:=.seq vs.toArray }/\IntsAre vs ns/\ns.length<=n:=by
 have hsh:WShape.hasAll [] args [.list .int]=true:=(pre_splitW aCM).1;have hc:l.pre.holds [] { args:=args } = true:=(pre_splitW aCM).2;obtain⟨d,r,rfl,h1,h2⟩:=hasAllW_cons hsh;obtain rfl:=hasAllW_nil h2;obtain⟨xs,rfl,h3⟩:=hasW_list h1;obtain⟨ns,rfl⟩:=items_int h3;have hlen:ns.length<=n:=by
  unfold OpenLaw.pre at hc;have h4:(WTm.not (.lt (.lit (.int (n:Int))) (.len (.arg 0)))).holds [] { args:=[.list (ns.map .int)] } = true:=by
   have h4:=(holds_andW hc).1;rw[hn]at h4;exact h4
  have h5:=condW_of h4 (w_not (w_lt w_lit (w_len_list (w_arg rfl))));rw[UX]at h5;refine Nat.le_of_not_lt λq=>?_;have q':(n:Int)<((ns.length:Nat):Int):=⋯
  first
   |(rw[oY q']at h5;exact absurd h5 ∅)
   |(simp at h5;lia)
 cases hwl with
 |cons w1 w2=>
  cases w2;cases w1 with
  |list ho aBY=>exact⟨_,_,ns,rfl,rfl,ho,wK ns _ aBY,hlen⟩
theorem Wc(l:OpenLaw)(args:List WData):l.row.toRowW.claim.post args (.bool true) args=true:=
 postW_of (r:=l.row.toRowW) (X:=(true==true))
  (show WShape.has [] (.bool true) .bool=true by first|rfl|decide|simp[WShape.has,WShape.arms,WShape.armsAll])
  (show(WTm.eq .res (.lit (.bool true))).value [] { args:=args,res:=oZ (.bool true),after:=args } = oZ (.bool (true==true))from w_eq_bool (w_res rfl) w_lit) rfl
theorem attach_call{l:OpenLaw}{XP:(Str->Option oA)->oE->Prop}{YP:gn->oE->Prop}{d:DefRec}(hn:l.most=oZ n)(hdf:d.params.defaults=[])(call:∀(w:gn)(s₀ s₁:oB)(mg mb:Str->Option oA)(fa:fk)(o:Obj)(pm cd doc:oA)(a:fk)(vs:List oA)(ns:List Int),
   Ground q loose [] XP w s₀ mg mb s₁.heap->YP w s₁.heap->
   s₁.heap.get? fa=oZ o->o.data = .func (docDef d.name d.params d.body d.scope pm cd doc)->s₁.heap.CodeRec cd d.name->mg d.name=oZ (.ref fa)->
   s₁.heap.get? a=oZ { cls:=.type "list",data:=.seq vs.toArray }->IntsAre vs ns->ns.length<=n->s₁.gens = #[]->
   lh (ft l.prog w) me (.call (.ref fa) ⟨[.ref a],[]⟩) (λr s'=>r = .ok (.ret (.bool true))/\OldK s₁.heap s'.heap/\s'.os=s₁.os/\ju s'.gens) s₁):
  WalkO q loose XP YP l.row.toRowW d [] (λf vs=>PySem.call f vs):=by
 intro w s₀ s₁ mg mb G Y fa o pm cd doc dV kV ho hd yn hD hmg hg args vals as aCM aK7 hrd hwl hlo;obtain rfl:dV = .none:=Dflts.none hD hdf;obtain rfl:kV = .none:=Dflts.noKw hD;obtain⟨a,vs,ns,rfl,rfl,aDV,hints,hlen⟩:=Wo hn aCM hwl;refine enter_call (mh (call w s₀ s₁ mg mb fa o pm cd doc a vs ns G Y ho (fd_plain hd) yn hmg aDV hints hlen hg) λr s' hq=>?_);obtain⟨rfl,h2,h3,h4⟩:=hq;exact⟨.inl ⟨.bool true,.bool true,[],rfl,λ_=>rfl,.bool true,Wc l _,λ_=>⟨List.Pairwise.nil,λ_ hm=>(nomatch hm)⟩⟩,h2,h3,h4⟩
end Att
namespace L2
open PySem PySem.Spec PyProof.Rows
theorem Dk:∀{vs:List oA}{ns:List Int},IntsAre vs ns->bC (ns.map V.int) vs
 |_,_,.nil=>.nil
 |_,_,.cons n t h=>.cons ⟨t,rfl⟩ (Dk h)
def DF(H:Hp):Prop:=∀b,H b=none\/∃o xs,H b=oZ (.frz o (.lst xs))
theorem Zh{K:W.Frag}{mb:Str->Option oA}{CX:Ia}{sp:Sp}{s₁:oB}{vs:List oA}{ns:List Int}(KX:K.In s₁.heap)(hns:s₁.heap.Ns gj mg)(hb:s₁.heap.Ns builtinsNs mb)(hbb:∀x:Str,x≠"__name__"->mb x=ij x)(aHK:s₁.heap.NoLimit)(hg:s₁.gens = #[])(ha:s₁.heap.get? a=oZ { cls:=.type "list",data:=.seq vs.toArray })(hi:IntsAre vs ns)(hl:ns.length<=gf)(hr:dN k me)(F:∀base:oE,K.In base->base.Ns gj mg->aS P w K mg base CX k fa fd [x] sp)(aE7:∀(s:oB)(u:oA),BindsTo s fd ⟨[u],[]⟩ [(x,u)])(hsp:∀H:Hp,DF H->k9 K H a (ns.map V.int)->sp [.ref a] H (λv _=>v = .bl true) λ_ _ _=>False)(hCX:∀H e s',CX [] H s₁ (λ_ _ _=>False) e s'->False):
  lh (ft P w) me (.call (.ref fa) ⟨[.ref a],[]⟩) (λr s'=>r = .ok (.ret (.bool true))/\OldK s₁.heap s'.heap/\s'.os=s₁.os/\ju s'.gens) s₁:=by
 have rv:=Dk hi;have aHM:=hi.length
 -- from an abstract heap in which nothing but the script may be tracked
 have core:∀H:Hp,DF H->k9 K H a (ns.map V.int)->qY P w H s₁.heap->(∀b,H b≠none->b=a)->(H a≠none->K.lookup a=none)->
   lh (ft P w) me (.call (.ref fa) ⟨[.ref a],[]⟩) (λr s'=>r = .ok (.ret (.bool true))/\OldK s₁.heap s'.heap/\s'.os=s₁.os/\ju s'.gens) s₁:=by
  intro H hO hS hok hA hK;have aBA:∀{b:fk}{o:Obj},s₁.heap.get? b=oZ o->H b=none->(Er s₁.heap H).get? b=oZ o:=λe n=>Yt e n;have noA:∀{b:fk}{o:Obj}{es:Array DictEntry}{ep:Nat},s₁.heap.get? b=oZ o->o.data = .dict es ep->H b=none:=λ{b o es ep}e d=>by
   cases q:H b with
   |none=>rfl
   |some u=>
    have e':b=a:=hA b (by rw[q];simp);subst e';rw[ha]at e;cases e;have d':Data.seq vs.toArray _=Data.dict es ep:=d;cases d'
  have nsK:∀{b:fk}{m:Str->Option oA},s₁.heap.Ns b m->(Er s₁.heap H).Ns b m:=λ{b m}zZ=>by obtain⟨o,es,ep,e,d,r⟩:=zZ;exact⟨o,es,ep,aBA e (noA e d),d,r⟩
  have hKb:K.In (Er s₁.heap H):=λb o e=>aBA (KX b o e) (by
   cases q:H b with
   |none=>rfl
   |some u=>
    have e':b=a:=hA b (by rw[q];simp);subst e';rw[hK (by rw[q];simp)]at e;cases e)
  have hM:Mod K mg (Er s₁.heap H):=⟨hKb,nsK hns,⟨mb,nsK hb,hbb⟩,let⟨mc,h1,h2⟩:=aHK;⟨mc,nsK h1,h2⟩⟩;have e0:Xa P w K mg (Er s₁.heap H) me [] s₁ H:=⟨rfl,hM,λb o e=>S9 e,Nat.le_of_eq (Vd _ _),trivial,λb hb=>absurd (show b∈([]:List fk)from hb) (by simp),hok,.of_eq hg⟩;refine mh ((F _ hKb (nsK hns)).run me [] s₁ H ⟨[.ref a],[]⟩ [.ref a] [.ref a] _ _ hr e0 (aE7 s₁ (.ref a)) (.cons rfl .nil) (hsp H hO hS)) λr s' h=>?_;cases r with
  |error e=>exact(hCX H e s' h).elim
  |ok fl=>
   cases fl with
   |next=>exact False.elim h
   |brk=>exact False.elim h
   |cont=>exact False.elim h
   |ret u=>
    obtain⟨v,H',os,bare,un,aHN,r',q⟩:=h;have q':v = .bl true:=q;subst q';obtain rfl:u=fg true:=r';refine⟨rfl,OldK.of_keep λb o e=>?_,os,bare⟩;cases q:H b with
    |none=>exact un.keep b o e q (by intro z;exact absurd (show b∈([]:List fk)from z) (by simp)) (by simp)
    |some u=>
     obtain z|⟨ob,xs,z⟩:=hO b
     ·rw[q]at z;cases z
     ·have z2:=un.frzs b ob _ z;obtain⟨e1,_⟩:=hok b _ z;obtain⟨e2,_⟩:=aHN b _ z2;rw[e]at e1;cases e1;exact e2
 cases hk:K.lookup a with
 |some o=>
  -- the script is one of the module's own objects
  have e:=KX a o hk;rw[ha]at e;cases e;refine core (λ_=>none) (λ_=>.inl rfl) (.inr ⟨_,vs.toArray,_,hk,rfl,rfl,rfl,by rw[VG,aHM];exact hl,by simpa using rv⟩) (λb u z=>by have z':(none:Option HO)=oZ u:=z;cases z') (λb z=>absurd rfl z) λz=>absurd rfl z
 |none=>
  refine core (λb=>if b=a then oZ (.frz { cls:=.type "list",data:=.seq vs.toArray } (.lst (ns.map V.int)))else none) (λb=>?_) (.inl (.inr ⟨{ cls:=.type "list",data:=.seq vs.toArray },oV rfl⟩)) (λb u z=>?_) (λb z=>?_) λ_=>hk
  ·by_cases hb:b=a
   ·exact .inr ⟨_,_,oV hb⟩
   ·exact .inl (oW hb)
  ·by_cases hb:b=a
   ·have z':=(oV hb).symm.trans z;cases z';subst hb;exact⟨ha,by rw[UX];exact hl,vs,_,rv,ha⟩
   ·have z':=(oW hb).symm.trans z;cases z'
  ·by_cases hb:b=a
   ·exact hb
   ·exact absurd (oW hb) z
theorem AK{l:W.OpenLaw}{XP:(Str->Option oA)->oE->Prop}{YP:gn->oE->Prop}{d:DefRec}{K:Params->W.Frag}{CX:gn->Ia}{sp:gn->Sp}(hn:l.most=oZ n)(hn2:n<=gf)(hdf:d.params.defaults=[])(hr:dN k me)(hY:∀(w:gn)(h:oE),YP w h->(K w.params).In h)(F:∀(w:gn)(mg:Str->Option oA)(fa:fk)(h:oE),(K w.params).In h->h.Ns gj mg->mg d.name=oZ (.ref fa)->
   ∃fd:ip,(∀(s:oB)(u:oA),BindsTo s fd ⟨[u],[]⟩ [(x,u)])/\
    ∀base:oE,(K w.params).In base->base.Ns gj mg->aS l.prog w (K w.params) mg base (CX w) k fa fd [x] (sp w))(hsp:∀(w:gn)(H:Hp)(a:fk)(ns:List Int),ns.length<=n->DF H->k9 (K w.params) H a (ns.map V.int)->sp w [.ref a] H (λv _=>v = .bl true) λ_ _ _=>False)(hCX:∀(w:gn)(H:Hp)(s:oB)(e:oA)(s':oB),CX w [] H s (λ_ _ _=>False) e s'->False):
  W.WalkO q loose XP YP l.row.toRowW d [] (λf vs=>PySem.call f vs):=by
 refine Att.attach_call hn hdf λw s₀ s₁ mg mb fa o pm cd doc a vs ns G Y ho hd yn hmg aDV hints hlen hg=>?_;have KX:=hY w _ Y;obtain⟨fd,hb,hF⟩:=F w mg fa _ KX G.T.g hmg;exact Zh KX G.T.g G.T.b G.T.builtins G.T.nolimit hg aDV hints (VZ hlen hn2) hr hF hb (λH hO hS=>hsp w H a ns hlen hO hS) λH e s'=>hCX w H s₁ e s'
end L2
/- THE LAST THEOREM (shape;LID,My.* are yours):
   My.Adr: a structure of the addresses that your layer names (classes,functions);My.Txt K t: a structure (Prop) of the equations over K;
   My.txt_mk:{K} {implicit addresses ..} (e1:nsIn K gj "law" = oZ (oZ (.ref f))) (e2:K.lookup f=oZ ⟨oc,od,.func (fnOf "law" "law" params body scope dV kV doc pm an qp ct),sl⟩) (e3:codeIn K qp "law" = true) .. : ∃t,My.Txt K t
set_option maxRecDepth 100000 in
set_option maxHeartbeats 0 in
(the tactic k_is has no namespace: write k_is) -/
namespace L2
open PySem PySem.Spec PyProof.Rows
def fR(s:fq):Arguments:=match s with
 |.FunctionDef _ a _ _ _ _ _ _ _ _=>a
 |_=>{ posonlyargs:=[],args:=[],vararg:=none,kwonlyargs:=[],kw_defaults:=[],kwarg:=none,defaults:=[] }
def cZ(s:fq):List fq:=match s with
 |.FunctionDef _ _ b _ _ _ _ _ _ _=>b
 |_=>[]
def aC(s:fq):kh:=match s with
 |.FunctionDef _ _ _ _ _ _ sc _ _ _=>sc
 |_=>{ kind:=.function,names:=[],isGenerator:=false,isCoroutine:=false }
abbrev cL:Ia:=λ_ _ _ _ _ _=>False
abbrev E0:XK:=λ_ _ _=>False
theorem LZ:Lu cL X E0:=λ_ _ _ _ _ _ _ h=>h.elim
structure cI(K:W.Frag)(x qual:Str)(st:fq)(f:fk)(fd:ip):Prop where
 ex:∃(oc:oA)(od:Option fk)(kV doc pm:oA)(an:Option fk)(qp ct:oA)(osl:Array (Option oA)),
  fd=W.fnOf x qual (fR st) (cZ st) (aC st) .none kV doc pm an qp ct/\K.lookup f=oZ ⟨oc,od,.func fd,osl⟩/\W.codeIn K qp qual=true
 kp:W.keepIn K (.ref f)=true
theorem cI.ok{P:fu}{w:gn}{K:W.Frag}{mg:Str->Option oA}{base:oE}{x qual:Str}{st:fq}{f:fk}{fd:ip}{N ps:List Str}{k:Nat}{sp:Sp}(F:cI K x qual st f fd)(S:aF N ps (aC st))(len:∀vs H Q E,sp vs H Q E->vs.length=ps.length)(aAQ:∀(qp:oA)(A:oD)(outer:List Env)(s:oB)(H:Hp)(vs:List V)(Q:VK)(E:XK),dN k (A.deeper (jv qual (aC st) s.heap.objs.size f qp))->sp vs H Q E->
   ∃t,Qj (yK cL P w K mg base N qual (aC st) f qp A outer s H E).nox (cZ st) t/\t { nx:=λ_ H'=>Q .non H',rt:=Q } (k7 N vs) H):(~~~aS) cL (k+1) f fd ps sp:=by
 obtain⟨oc,od,kV,doc,pm,an,qp,ct,osl,rfl,lk,yn⟩:=F.ex;refine KR lk yn S len λA outer s H vs Q E hr hsp=>?_;obtain⟨t,h,q⟩:=aAQ qp A outer s H vs Q E hr hsp;exact⟨t,h.nox,q⟩
theorem cI.binds{K:W.Frag}{x qual:Str}{st:fq}{f:fk}{fd:ip}{ps:List Str}(F:cI K x qual st f fd)(h:∀(kV doc pm:oA)(an:Option fk)(qp ct:oA)(us:List oA),us.length=ps.length->bindArgs (W.fnOf x qual (fR st) (cZ st) (aC st) .none kV doc pm an qp ct) ⟨us,[]⟩=pure (ps.zip us)):kF K fd ps []:=by
 obtain⟨oc,od,kV,doc,pm,an,qp,ct,osl,rfl,lk,yn⟩:=F.ex;exact .all (h kV doc pm an qp ct)
theorem Mw{K:W.Frag}{x qual:Str}{st:fq}{f:fk}{oc:oA}{od an:Option fk}{osl:Array (Option oA)}{kV doc pm qp ct:oA}(l:K.lookup f=oZ ⟨oc,od,.func (W.fnOf x qual (fR st) (cZ st) (aC st) .none kV doc pm an qp ct),osl⟩)(c:W.codeIn K qp qual=true)(k:W.keepIn K (.ref f)=true):cI K x qual st f (W.fnOf x qual (fR st) (cZ st) (aC st) .none kV doc pm an qp ct):=⟨⟨oc,od,kV,doc,pm,an,qp,ct,osl,rfl,l,c⟩,k⟩
theorem BB(hr:dN k A):A.units+1<kq:=VT (Nat.add_le_add_left (by decide:1<=64) _) hr.units
theorem bS(h:n<=9000):n<gf:=VT h ∅
theorem Ud:j7 X (.builtin "abs") (λxs H Q=>∃i:Int,xs=[.int i]/\Q (.int (i.natAbs:Int)) H):=by
 intro pins s σ H xs us Q I r h;obtain⟨i,rfl,q⟩:=h;obtain⟨u,rfl,rx⟩:=Am r;obtain⟨t,rfl⟩:=rx;have e:(if i<0 then -i else i)=(i.natAbs:Int):=by split<;>lia
 exact call_abs_int λu tk=>⟨.int (i.natAbs:Int),H,I.tok _,⟨u,by rw[e]⟩,q⟩
theorem Ug:j7 X (.type "int") (λxs H Q=>∃b:Bool,xs=[.bl b]/\Q (.int (if b then 1 else 0)) H):=by
 intro pins s σ H xs us Q I r h;obtain⟨b,rfl,q⟩:=h;obtain⟨u,rfl,rx⟩:=Am r;cases rx;exact PySem.call_int_bool ⟨.int _,H,I.tok _,⟨_,rfl⟩,q⟩
theorem Ui(hc:X.calm=true):j7 X (.builtin "min") (λxs H Q=>∃a b:Int,xs=[.int a,.int b]/\Q (.int (if b<a then b else a)) H):=by
 intro pins s σ H xs us Q I r h;obtain⟨a,b,rfl,q⟩:=h;obtain⟨u,v,rfl,rx,ry⟩:=bC.two r;obtain⟨t,rfl⟩:=rx;obtain⟨t',rfl⟩:=ry;refine min_two_ints (I.ok.hd hc) λh' tk hk=>?_
 by_cases c:b<a
 ·simp only[oV c]at q⊢;exact⟨.int b,H,I.kept hk,⟨_,rfl⟩,q⟩
 ·simp only[oW c]at q⊢;exact⟨.int a,H,I.kept hk,⟨_,rfl⟩,q⟩
inductive Kd(K:W.Frag)(H:Hp):V->String->Prop
 |non:Kd K H .non "NoneType"
 |bl (b):Kd K H (.bl b) "bool"
 |int (i):Kd K H (.int i) "int"
 |str (x):Kd K H (.str x) "str"
 |tup {a xs}:xZ K H a xs->Kd K H (.ref a) "tuple"
 |lst {a xs}:k9 K H a xs->Kd K H (.ref a) "list"
def wL(k T:String):Bool:=k==T||(k=="bool"&&T=="int")
def AH:List String:=["int","bool","tuple","list","str"]
theorem Xj:j7 X (.builtin "isinstance") (λxs H Q=>∃x k T,xs=[x,.ty T]/\Kd X.K H x k/\T∈AH/\Q (.bl (wL k T)) H):=by
 intro pins s σ H xs us Q I r h;obtain⟨x,k,T,rfl,hk,hT,q⟩:=h;obtain⟨u,v,rfl,rx,ry⟩:=bC.two r;cases ry;have f0:∀b t,Q (.bl b) H->EP X pins σ Q (.bool b) { s with toks:=t }:=λb t q=>⟨.bl b,H,I.tok _,rfl,q⟩;have f1:∀b,Q (.bl b) H->EP X pins σ Q (.bool b) s:=λb q=>⟨.bl b,H,I,rfl,q⟩;simp only[AH,UZ,WW,or_false]at hT;cases hk with
 |non=>
  cases rx;obtain rfl|rfl|rfl|rfl|rfl:=hT
  ·exact IsiPair.NoneType_int (f0 _ _ q)
  ·exact IsiPair.NoneType_bool (f0 _ _ q)
  ·exact IsiPair.NoneType_tuple (f0 _ _ q)
  ·exact IsiPair.NoneType_list (f0 _ _ q)
  ·exact IsiPair.NoneType_str (f0 _ _ q)
 |bl b=>
  cases rx;obtain rfl|rfl|rfl|rfl|rfl:=hT
  ·exact IsiPair.bool_int (f1 _ q)
  ·exact IsiPair.bool_bool (f1 _ q)
  ·exact IsiPair.bool_tuple (f0 _ _ q)
  ·exact IsiPair.bool_list (f0 _ _ q)
  ·exact IsiPair.bool_str (f0 _ _ q)
 |int i=>
  obtain⟨t,rfl⟩:=rx;obtain rfl|rfl|rfl|rfl|rfl:=hT
  ·exact IsiPair.int_int (f1 _ q)
  ·exact IsiPair.int_bool (f0 _ _ q)
  ·exact IsiPair.int_tuple (f0 _ _ q)
  ·exact IsiPair.int_list (f0 _ _ q)
  ·exact IsiPair.int_str (f0 _ _ q)
 |str z=>
  obtain⟨t,rfl⟩:=rx;obtain rfl|rfl|rfl|rfl|rfl:=hT
  ·exact IsiPair.str_int (f0 _ _ q)
  ·exact IsiPair.str_bool (f0 _ _ q)
  ·exact IsiPair.str_tuple (f0 _ _ q)
  ·exact IsiPair.str_list (f0 _ _ q)
  ·exact IsiPair.str_str (f1 _ q)
 |tup hq=>
  cases rx;obtain⟨mq,rv,⟨o,ho,hc,_⟩,_⟩:=I.tuple hq;obtain rfl|rfl|rfl|rfl|rfl:=hT
  ·exact IsiPair.tuple_int ho hc (f0 _ _ q)
  ·exact IsiPair.tuple_bool ho hc (f0 _ _ q)
  ·exact IsiPair.tuple_tuple ho hc (f1 _ q)
  ·exact IsiPair.tuple_list ho hc (f0 _ _ q)
  ·exact IsiPair.tuple_str ho hc (f0 _ _ q)
 |lst hq=>
  cases rx;obtain⟨mq,rv,⟨o,n,ho,hc,_⟩,_⟩:=I.list hq;obtain rfl|rfl|rfl|rfl|rfl:=hT
  ·exact IsiPair.list_int ho hc (f0 _ _ q)
  ·exact IsiPair.list_bool ho hc (f0 _ _ q)
  ·exact IsiPair.list_tuple ho hc (f0 _ _ q)
  ·exact IsiPair.list_list ho hc (f1 _ q)
  ·exact IsiPair.list_str ho hc (f0 _ _ q)
theorem Ue(hc:X.calm=true):j7 X (.builtin "all") (λxs H Q=>∃(p:fk)(bs:List Bool),xs=[.ref p]/\k9 X.K H p (bs.map V.bl)/\Q (.bl (bs.all id)) H):=by
 intro pins s σ H xs us Q I r h;obtain⟨p,bs,rfl,hq,q⟩:=h;obtain⟨u,rfl,rx⟩:=Am r;cases rx;obtain⟨mq,rv,pl,hz⟩:=I.list hq;have vz:p≠s.heap.objs.size:=by
  obtain⟨o,n,ho,_⟩:=pl;exact VY (VD ho)
 have hl:=rv.length;rw[UX]at hl;have hA:X.A.in1.handled=none:=I.ok.hd hc;refine call_all_walk (wpAny_pyIter_list pl.isList ?_);refine⟨s.heap.objs.size,_,_,_,_,_,(λi=>bs.getD i true),rfl,Walks.list hA s.heap.objs.size p vz mq.toArray,⟨⟨_,VF _ rfl,rfl,rfl⟩,pl.isList.at λo e=>UY _ e⟩,?_,?_⟩
 ·intro i v s' Q' E' hv hQ';have hv':mq[i]?=oZ v:=by simpa using hv
  have hi:i<mq.length:=(UO.mp hv').1;have hb:(bs.map V.bl)[i]?=oZ (V.bl bs[i]):=by
   rw[UQ,UP ⋯];rfl
  obtain⟨u,hu,ru⟩:=rv.get hb;rw[hv']at hu;cases hu;cases ru;have e:bs.getD i true=bs[i]:=by rw[VR,UP ⋯];rfl
  simp only[e]at hQ';exact iw hQ'
 ·intro h' tk hk;have e:(VC mq.toArray.size).all (λi=>bs.getD i true)=bs.all id:=by
   rw[VG,<-hl];clear hl hz rv q hq pl vz;rw[de,WM,WM];constructor
   ·intro h b hb;obtain⟨i,hi,rfl⟩:=List.mem_iff_getElem.mp hb;have:=h i (ZH.mpr hi);rw[VR,UP hi]at this;exact this
   ·intro h i hi;have hi:=ZH.mp hi;rw[VR,UP hi];exact h _ (XN hi)
  rw[e];refine⟨.bl _,H,?_,rfl,q⟩;exact I.kept λb o e=>hk b o (by simp;exact VY (VD e)) (UY _ e)
theorem aW.turnedLaid{X:Cx}{pins:List (fk×Obj)}{σ:St}{H:Hp}{s:oB}{h':oE}{t':Nat}{ch:List fk}{a:fk}{o:HO}(I:aW X pins σ H s)(k:∀b u,b∉ch->s.heap.get? b=oZ u->h'.get? b=oZ u)(hf:∀b∈ch,sQ X pins H b)(hp:s.heap.objs.size<=a)(new:eH X.prog X.w (upd H a o) h' a o):aW X pins σ (upd H a o) { s with heap:=h',toks:=t' }:=by
 have hn:=I.hok.fresh hp;have nit:∀b u,H b=oZ u->b∉ch:=λb u e z=>by rw[(hf b z).1]at e;cases e
 refine I.step (g':=s.gens) (d':=s.drawn) (ch:=ch) (λb hb=>⟨(hf b hb).2.2.2.1,(hf b hb).2.1,(hf b hb).2.2.2.2.1,(hf b hb).2.2.2.2.2⟩) (λb u _ _ hc e _=>k b u hc e) (λb u _ _ hc e _=>⟨u.slots,k b u hc e⟩)
  (λb u hc e n=>by rw[aV (VY (VJ (VD e) hp))];exact n) (λb u hc e=>⟨u,k b u hc e⟩) (λb xs e=>by rw[aV (a9 e hn)];exact e) (λb u xs e=>by rw[aV (a9 e hn)];exact e)
  (λb ps e=>⟨#[],by rw[aV (a9 e hn),e];simp⟩) (λm hm=>?_) (λb u e=>?_) I.bare
 ·obtain⟨ob,es,ep,ho,r⟩:=hm;exact⟨ob,es,ep,k _ ob (λz=>(hf _ z).2.1 rfl) ho,r⟩
 ·by_cases hb:b=a
  ·subst hb;rw[cR]at e;cases e;exact new
  ·rw[aV hb]at e;refine(I.hok b u e).stay (λc v hc q=>k c v ?_ q) (λc q=>by rw[aV (a9 q hn)];exact q) λc xs q=>by rw[aV (a9 q hn)];exact q
   obtain z|z:=hc
   ·rw[z];exact nit b u e
   ·exact nit c _ z
theorem aW.turnedL{X:Cx}{pins:List (fk×Obj)}{σ:St}{H:Hp}{s:oB}{h':oE}{t':Nat}{ch:List fk}(I:aW X pins σ H s)(k:∀b u,b∉ch->s.heap.get? b=oZ u->h'.get? b=oZ u)(hf:∀b∈ch,sQ X pins H b):aW X pins σ H { s with heap:=h',toks:=t' }:=by
 have nit:∀b u,H b=oZ u->b∉ch:=λb u e z=>by rw[(hf b z).1]at e;cases e
 refine I.step (g':=s.gens) (d':=s.drawn) (ch:=ch) (λb hb=>⟨(hf b hb).2.2.2.1,(hf b hb).2.1,(hf b hb).2.2.2.2.1,(hf b hb).2.2.2.2.2⟩) (λb u _ _ hc e _=>k b u hc e) (λb u _ _ hc e _=>⟨u.slots,k b u hc e⟩)
  (λb u hc e n=>n) (λb u hc e=>⟨u,k b u hc e⟩) (λb xs e=>e) (λb u xs e=>e) (λb ps e=>⟨#[],by rw[e];simp⟩) (λm hm=>?_) (λb u e=>?_) I.bare
 ·obtain⟨ob,es,ep,ho,r⟩:=hm;exact⟨ob,es,ep,k _ ob (λz=>(hf _ z).2.1 rfl) ho,r⟩
 ·refine(I.hok b u e).stay (λc v hc q=>k c v ?_ q) (λc q=>q) λc xs q=>q;obtain z|z:=hc
  ·rw[z];exact nit b u e
  ·exact nit c _ z
def PH(K:W.Frag)(a:fk):It:=
 ⟨λi H=>∃xs x,k9 K H a xs/\xs[i]?=oZ x,λi H x H'=>∃p y,x = .ref p/\H p=none/\H'=upd H p (.tup [.int (i:Int),y])/\∀xs,k9 K H a xs->xs[i]?=oZ y,λi H=>∃xs,k9 K H a xs/\xs.length<=i⟩
theorem Ws{P:fu}{w:gn}{K:W.Frag}{elts:List oC}{x1}{xq:Pos}(a e it:fk)(vz:e≠it):
  Lv P w K (.Tuple elts x1 xq) (PH K a) [e,it] e (λi h=>(∃old,IsEnum h e it (i:Nat) old)/\h.IsListIter it a i) where
 mem:=by simp
 obj:=λi h st b hb=>by
  obtain⟨⟨old,he⟩,⟨o,ho,hc,hd⟩⟩:=st;obtain rfl|hb:=UZ.mp hb
  ·exact⟨_,he,λv z=>by cases z⟩
  ·rw[VS.mp hb];exact⟨o,ho,λv z=>by rw[hd]at z;cases z⟩
 keep:=λi h h' st k=>⟨let⟨old,he⟩:=st.1;⟨old,k e (by simp) _ he⟩,st.2.at λo x=>k it (by simp) o x⟩
 item:=by
  intro X hP hw hK hc i pins s σ H E I hf st hg;subst hP hw hK;obtain⟨xs,x,hq,hx⟩:=hg;obtain⟨mq,rv,p,hz⟩:=I.list hq;obtain⟨u,hu,ru⟩:=rv.get hx;obtain⟨⟨old,he⟩,hit⟩:=st;refine wpAny_pyNext_enum_item he hit p.isList (x:=u) (by simpa using hu) vz λh1 ho aHO ht hsz hk=>⟨_,rfl,?_⟩;refine wpAny_letOwnedTupleGo_enum ho λh2 he2 xp=>?_;have hen:e≠s.heap.objs.size:=VY (VD he);have kk:∀b o,b∉[e,it]->s.heap.get? b=oZ o->h2.get? b=oZ o:=λb o hb q=>by
   have h1':b≠e:=λz=>hb (by simp[z]);have h2':b≠it:=λz=>hb (by simp[z]);exact xp.extBut b o h1' (hk b o h1' h2' q)
  have new:eH X.prog X.w (upd H s.heap.objs.size (.tup [.int (i:Int),x])) h2 s.heap.objs.size (.tup [.int (i:Int),x]):=
   ⟨by show 2<=gf;decide,[.int i s.toks,u],.cons ⟨_,rfl⟩ (.cons ru .nil),⟨_,xp.extBut _ _ (Ne.symm hen) ht,rfl,_,rfl⟩⟩
  refine⟨.ref s.heap.objs.size,upd H s.heap.objs.size (.tup [.int (i:Int),x]),I.turnedLaid (t':=s.toks+1) (ch:=[e,it]) kk hf (VA _) new,rfl,
   ⟨_,x,rfl,I.hok.fresh (VA _),rfl,λys hy=>by rw[I.list_inj hy hq];exact hx⟩,⟨⟨_,by simpa using he2⟩,aHO.extBut xp.extBut (Ne.symm vz)⟩,λb hb=>?_⟩
  have rk:b<s.heap.objs.size:=by
   obtain rfl|hb:=UZ.mp hb
   ·exact VD he
   ·rw[VS.mp hb];obtain⟨o,ho',_⟩:=hit;exact VD ho'
  rw[aV (VY rk)];exact(hf b hb).1
 done:=by
  intro X hP hw hK hc i pins s σ H E I hf st hg;subst hP hw hK;obtain⟨xs,hq,hx⟩:=hg;obtain⟨mq,rv,p,hz⟩:=I.list hq;have hl:=rv.length;obtain⟨⟨old,he⟩,hit⟩:=st;refine wpAny_pyNext_enum_end (I.ok.hd hc) he hit p.isList (by simp;lia) λh1 eb=>⟨rfl,?_⟩;exact I.turnedL (t':=s.toks) (ch:=[e,it]) (λb o hb q=>eb b o (λz=>hb (by simp[z])) q) hf
 self:=λ_ _ _ _ _ st h=>let⟨old,he⟩:=st.1;wpAny_pyIter_enum he h
def BC(K:W.Frag)(ta:TA):TI:=λσ H R=>ta σ H λvs H1=>∃a,vs=[.ref a]/\(∃xs,k9 K H1 a xs)/\R (PH K a) H1
theorem V7{x1}(hg:Gl X "enumerate")(hm:X.mg "enumerate" = none)(ha:PA X [a] ta)(hs:ig [a] X.env=[(false,ie a X.env)]:=by rfl):
  PI X (.Tuple elts x1 xq) (.Call (.Name "enumerate" p) [a] [] pos) (BC X.K ta):=by
 intro pins s σ H R I h;refine Call_ (m7 I hg hm boot_enumerate (PyProof.Rows.callWith_type1 (dP (ha pos pins s σ H _ I h) λus s1⟨vs,H1,I1,r1,q1⟩=>?_) hs rfl));obtain⟨l,rfl,⟨xs,hq⟩,q⟩:=q1;obtain⟨u,rfl,ru⟩:=bC.one r1;cases ru;obtain⟨mq,rv,pl,hz⟩:=I1.list hq;refine call_enumerate_list pl.isList λh' he hit hsz hk=>?_;refine wpAny_pyIter_enum he ?_;refine⟨s1.heap.objs.size+1,[s1.heap.objs.size+1,s1.heap.objs.size],_,_,H1,rfl,I1.kept (t':=s1.toks) hk,Ws l _ _ (Nat.succ_ne_self _),⟨⟨_,he⟩,hit⟩,λb hb=>?_,q⟩;have hle:s1.heap.objs.size<=b:=by
  obtain rfl|hb:=UZ.mp hb
  ·exact dk _
  ·rw[VS.mp hb];exact VA _
 exact I1.fpOk hle (I1.hok.fresh hle)
theorem Cu(h:Runs M Γ p t fs s e s'):s.toks<=s'.toks:=by
 induction h with
 |fresh _ ih=>exact VZ (dk _) ih
 |_=>first|exact VA _|assumption|(rename_i i1 i2;exact VZ i1 i2)
theorem Qg(h:Wakes M Γ p g r s res s'):s.toks<=s'.toks:=by
 have:=Cu ((Sem.runs_resume_iff M Γ (l:=[]) (k:=λ_=>Sem.pure (.done .next))).mpr ⟨res,s',h,.done⟩);exact this
theorem AM{α:Type}(t:Sem α):∀{Q:α->Pos->oB->Prop}{E:oA->Pos->oB->Prop}{p:Pos}{s:oB},Sem.wp M Γ t Q E p s->Sem.wp M Γ t (λa p' s'=>Q a p' s'/\s.toks<=s'.toks) E p s:=by
 have up:∀{t:Sem α}{Q:α->Pos->oB->Prop}{E:oA->Pos->oB->Prop}{p:Pos}{s:oB}{a b:Nat},a<=b->Sem.wp M Γ t (λa p' s'=>Q a p' s'/\b<=s'.toks) E p s->Sem.wp M Γ t (λx p' s'=>Q x p' s'/\a<=s'.toks) E p s:=λ{t Q E p s a b}l h=>Sem.wp_mono M Γ t (λ_ _ _ h=>⟨h.1,VZ l h.2⟩) (λ_ _ _ h=>h) p s h
 induction t with
 |pure x=>exactλh=>⟨h,VA _⟩
 |raise v=>exact id
 |unsupported|finish|yield|fork|await|register=>exactλh=>h
 |fresh k ih=>exactλh=>up (dk _) (ih _ h)
 |rule _ k ih|«at» _ k ih|alloc _ k ih|loadIfAlive _ k ih|point _ k ih|ask k ih|os _ _ k ih|handled _ k ih|newGen _ k ih|stack k ih|thread k ih=>exactλh=>ih _ h
 |load a _ k ih|genState a k ih=>exactλzZ=>by obtain⟨o,ho,h⟩:=zZ;exact⟨o,ho,ih _ h⟩
 |update a _ f k ih|choose _ _ k ih=>exactλzZ=>by obtain⟨ha,h⟩:=zZ;exact⟨ha,ih _ h⟩
 |call c h g l k ih=>exactλzZ=>by obtain⟨r,s',hr,h⟩:=zZ;exact⟨r,s',hr,up (Cu hr) (ih _ h)⟩
 |resume g r l k ih=>exactλzZ=>by obtain⟨res,s',hw,h⟩:=zZ;exact⟨res,s',hw,up (Qg hw) (ih _ h)⟩
theorem Qh{α:Type}{t:Sem α}{Q:α->oB->Prop}{E:oA->oB->Prop}(h:fo M A t Q E s):fo M A t (λa s'=>Q a s'/\s.toks<=s'.toks) E s:=λΓ p hA=>AM t (h Γ p hA)
theorem Ah{α:Type}{t:Sem α}{Q Q':α->oB->Prop}{E:oA->oB->Prop}(h:fo M A t Q E s)(hQ:∀a s',Q a s'->s.toks<=s'.toks->Q' a s'):fo M A t Q' E s:=dP (Qh h) λa s' z=>hQ a s' z.1 z.2
def DB(e target iter:oC)(ifs:List oC)(EC:Sem Unit)(it acc:oA)(env:Env):Sem Fin:=do
 standAt iter.pos
 match <-pyNext it with
 |none=>pure (.done .next)
 |some v=>
  jt target it v
  jg target env v
  let mut ok:=true
  for c in ifs do
   if ok then ok <-isTrue c env (ie c env)
  if ok then EC
  again (.compLoop e 0 it acc env)
theorem q0 {R:Result->oB->Prop} (ht:(ft prog w).den (.compLoop e 0 it acc env)=(DB e target iter ifs EC it acc env).onRaise λx=>do noteFrame x env;theTreesLotGoes x) (hA:A.under (.compLoop e 0 it acc env)=A) (I:Nat->oB->Prop) (turn:∀n s,I n s->fo (ft prog w) A (pyNext it) (λr s₁=>match r with
   | none=>R (.ok .next) s₁
   | some v=>fo (ft prog w) A (jt target it v) (λ_ s₂=>fo (ft prog w) A (jg target env v) (λ_ s₃=>fo (ft prog w) A (forIn ifs true λc r=>if r=true then do let ok <-isTrue c env (ie c env);pure (ForInStep.yield ok) else pure (ForInStep.yield r)) (λok s₃'=>if ok=true then fo (ft prog w) A EC (λ_ s₅=>∃m,m<n/\I m s₅) (λ_ _=>False) s₃' else ∃m,m<n/\I m s₃') (λ_ _=>False) s₃) (λ_ _=>False) s₂) (λ_ _=>False) s₁) (λ_ _=>False) s) (n:Nat) (h:I n s):lh (ft prog w) A (.compLoop e 0 it acc env) R s:=by
 refine codeAny_loop rfl I (λn s hI=>?_) n h;rw [ht,hA];refine wpAny_noted ?_;refine fm (jq (fm (ji (turn n s hI) (λr s₁ h₁=>?_) λ_ _ h'=>h'.elim)));cases r with
 | none=>exact fz h₁
 | some v=>
  refine fm (ji h₁ (λ_ s₂ h₂=>fm (ji h₂ (λ_ s₃ h₃=>fm (ji h₃ (λok s₃' h₃'=>?_) λ_ _ h'=>h'.elim)) λ_ _ h'=>h'.elim)) λ_ _ h'=>h'.elim);cases ok with
  | false=>exact fz ⟨rfl,h₃'⟩
  | true=>exact fm (ji h₃' (λ_ s₅ h₅=>fz ⟨rfl,h₅⟩) λ_ _ h'=>h'.elim)
def Me(env:Env):List (Str×NameKind)->List (Str×fk)->List (Str×fk)
 |[],cs=>cs
 |(n,k)::r,cs=>Me env r (if k==.free then(match env.cells.lookup n with|some c=>(n,c)::cs|none=>cs)else cs)
def Eg(scope:kh)(env:Env):List (Str×fk):=Me env scope.names []
theorem Ef(env:Env):∀(ns:List (Str×NameKind))(cs:List (Str×fk)),(∀y∈ns,y.2 = .free->∃c,env.cells.lookup y.1=oZ c)->
  (forIn ns cs (λx r=>do
   if x.2==.free then
    let a <-cellOf env x.1
    pure (ForInStep.yield ((x.1,a)::r))
   else pure (ForInStep.yield r)):Sem (List (Str×fk)))=pure (Me env ns cs)
 |[],cs,_=>rfl
 |(n,k)::r,cs,h=>by
  rw[List.forIn_cons]
  by_cases hk:k = .free
  ·subst hk;obtain⟨c,hc⟩:=h (n,.free) VB rfl;have hc':env.cells.lookup n=oZ c:=hc;have e:cellOf env n=pure c:=by unfold cellOf;rw[hc']
   simp only[beq_self_eq_true,if_true,e,pure_bind,Me,hc'];exact Ef env r _ λy hy=>h y (UW _ hy)
  ·have hb:(k==NameKind.free)=false:=by simpa using hk
   simp only[hb,ZC,if_false,pure_bind,Me];exact Ef env r _ λy hy=>h y (UW _ hy)
theorem Au(h:∀y∈scope.names,y.2 = .free->∃c,env.cells.lookup y.1=oZ c):closureFor scope env=pure (Eg scope env):=by
 have e:=Ef env scope.names [] h;unfold Eg;rw[<-e];unfold closureFor;simp only[bind_pure]
theorem Io(env:Env):∀(ns:List (Str×NameKind))(cs:List (Str×fk))(x:Str)(c:fk),(∀x c,cs.lookup x=oZ c->env.cells.lookup x=oZ c)->(Me env ns cs).lookup x=oZ c->env.cells.lookup x=oZ c
 |[],_,x,c,h,e=>h x c e
 |(n,k)::r,cs,x,c,h,e=>by
  refine Io env r _ x c (λy d hd=>?_) e
  by_cases hk:(k==NameKind.free)=true
  ·rw[oV hk]at hd;cases q:env.cells.lookup n with
   |none=>rw[q]at hd;exact h y d hd
   |some a=>
    rw[q]at hd;simp only[XO]at hd;cases b:y==n with
    |true=>rw[b]at hd;cases hd;rw[eq_of_beq b];exact q
    |false=>rw[b]at hd;exact h y d hd
  ·rw[oW hk]at hd;exact h y d hd
theorem Iq(e:(Eg scope env).lookup x=oZ c):env.cells.lookup x=oZ c:=Io env _ _ x c (λ_ _ h=>by simp at h) e
theorem Im(env:Env):∀(ns:List (Str×NameKind))(cs:List (Str×fk))(x:Str)(c:fk),(cs.lookup x=oZ c\/(x,NameKind.free)∈ns)->env.cells.lookup x=oZ c->(Me env ns cs).lookup x=oZ c
 |[],_,x,c,h,_=>h.elim (λz=>z) (λz=>by simp at z)
 |(n,k)::r,cs,x,c,h,e=>by
  refine Im env r _ x c ?_ e;obtain h|h:=h
  ·refine .inl ?_
   split
   ·cases q:env.cells.lookup n with
    |none=>exact h
    |some a=>
     simp only[XO];cases b:x==n with
     |true=>rw[<-eq_of_beq b,e]at q;exact q.symm
     |false=>exact h
   ·exact h
  ·obtain z|z:=UZ.mp h
   ·injection z with z1 z2;subst z1 z2;refine .inl ?_;simp only[beq_self_eq_true,if_true,e,XO]
   ·exact .inr z
theorem Ip(h:(x,NameKind.free)∈scope.names)(e:env.cells.lookup x=oZ c):(Eg scope env).lookup x=oZ c:=Im env _ _ x c (.inr h) e
theorem tW{env:Env}:∀{names:List (Str×NameKind)}{x:Str},(∀y∈names,y.2≠.cell)->
    ((names.map λ(n,k)=>if(k==NameKind.free&&env.scope.kind==.function&&env.kindOf n==oZ .cell)then(n,NameKind.cell)else(n,k)).lookup x=oZ .cell\/
     (names.map λ(n,k)=>if(k==NameKind.free&&env.scope.kind==.function&&env.kindOf n==oZ .cell)then(n,NameKind.cell)else(n,k)).lookup x=oZ .free)->(x,NameKind.free)∈names
  |[],_,_,h=>by simp at h
  |(n,k)::r,x,hc,h=>by
    have ih:=@tW env r x λy hy=>hc y (UW _ hy);have hk:k≠.cell:=hc (n,k) VB;simp only[WQ]at h
    by_cases q:(k==NameKind.free&&env.scope.kind==.function&&env.kindOf n==oZ .cell)=true
    . rw[oV q]at h
      simp only[XO]at h;cases b:x==n with
      |true=>
        have:k = .free:=by simp only[VN]at q;exact eq_of_beq q.1.1
        subst this;rw[eq_of_beq b];exact VB
      |false=>rw[b]at h;exact UW _ (ih h)
    . rw[oW q]at h
      simp only[XO]at h;cases b:x==n with
      |true=>
        rw[b]at h;obtain h|h:=h
        . exact absurd (Option.some.inj h) hk
        . have:k = .free:=Option.some.inj h
          subst this;rw[eq_of_beq b];exact VB
      |false=>rw[b]at h;exact UW _ (ih h)
theorem wD{env:Env}:∀{names:List (Str×NameKind)}{x:Str},names.lookup x=oZ .free->
    ((names.map λ(n,k)=>if(k==NameKind.free&&env.scope.kind==.function&&env.kindOf n==oZ .cell)then(n,NameKind.cell)else(n,k)).lookup x=oZ .cell\/
     (names.map λ(n,k)=>if(k==NameKind.free&&env.scope.kind==.function&&env.kindOf n==oZ .cell)then(n,NameKind.cell)else(n,k)).lookup x=oZ .free)
  |[],_,h=>by simp at h
  |(n,k)::r,x,h=>by
    have ih:=@wD env r x;simp only[WQ];simp only[XO]at h
    by_cases q:(k==NameKind.free&&env.scope.kind==.function&&env.kindOf n==oZ .cell)=true
    . rw[oV q]
      simp only[XO];cases b:x==n with
      |true=>exact .inl rfl
      |false=>rw[b]at h;exact ih h
    . rw[oW q]
      simp only[XO];cases b:x==n with
      |true=>rw[b]at h;exact .inr h
      |false=>rw[b]at h;exact ih h
def aX(X:Cx)(N':List Str)(scope:kh)(C:fk)(s3:oB)(H3:Hp)(fp:List fk):Cx:=
 { X with N:=N',s₀:=s3,H₀:=H3,env:=compEnvC scope (Eg scope X.env) C X.env,outer:=X.stack,stack:=X.stack,ex:=fp,fn:=λ_=>false,pn:=[],xe:=λ_ _=>False }
def h9(t:Nat)(cap:List Nat)(σ:St):St:=US t none++cap.map λk=>(σ[k]?).join
def JO(J:It)(D:fk)(g:TG)(te:TE)(Q:VK)(σ:St)(H:Hp):Prop:=∃W:Nat->Nat->St->Hp->Prop,(∃m,W 0 m σ H)/\∀i m σ' H',W i m σ' H'->
 (J.stop i H'/\Q (.ref D) H')\/(J.go i H'/\∀x H2,J.yld i H' x H2->g x σ' H2 λσ3 H3=>te σ3 H3 λy H4=>∃ys,H4 D=oZ (.lst ys)/\ys.length<gf/\∃m',m'<m/\W (i+1) m' σ3 (upd H4 D (.lst (ys++[y]))))
def Dd(t:Nat)(cap:List Nat)(wi:TI)(g:TG)(te:TE):TE:=λσ H Q=>wi σ H λJ H1=>∀D,H1 D=none->JO J D g te Q (h9 t cap σ) (upd H1 D (.lst []))
def DP(J:It)(D:fk)(g:TG)(tb:TT)(tel:St->Hp->(Hp->Prop)->Prop)(Q:VK)(σ:St)(H:Hp):Prop:=∃W:Nat->Nat->St->Hp->Prop,(∃m,W 0 m σ H)/\∀i m σ' H',W i m σ' H'->
 (J.stop i H'/\Q (.ref D) H')\/(J.go i H'/\∀x H2,J.yld i H' x H2->g x σ' H2 λσ3 H3=>tb σ3 H3 λok H3'=>if ok=true then tel σ3 H3' λH4=>∃m',m'<m/\W (i+1) m' σ3 H4 else ∃m',m'<m/\W (i+1) m' σ3 H3')
def DO(J:It)(D:fk)(g:TG)(tb:TT)(te:TE)(Q:VK)(σ:St)(H:Hp):Prop:=∃W:Nat->Nat->St->Hp->Prop,(∃m,W 0 m σ H)/\∀i m σ' H',W i m σ' H'->
 (J.stop i H'/\Q (.ref D) H')\/(J.go i H'/\∀x H2,J.yld i H' x H2->g x σ' H2 λσ3 H3=>tb σ3 H3 λok H3'=>if ok=true then te σ3 H3' λy H4=>∃ys,H4 D=oZ (.lst ys)/\ys.length<gf/\∃m',m'<m/\W (i+1) m' σ3 (upd H4 D (.lst (ys++[y])))else ∃m',m'<m/\W (i+1) m' σ3 H3')
def nU(t:Nat)(cap:List Nat)(wi:TI)(g:TG)(tb:TT)(te:TE):TE:=λσ H Q=>wi σ H λJ H1=>∀D,H1 D=none->DO J D g tb te Q (h9 t cap σ) (upd H1 D (.lst []))
def O0(X:Cx)(ifs:List oC)(t:TT):Prop:=
 ∀(pins:List (fk×Obj))(s:oB)(σ:St)(H:Hp)(Q:Bool->Hp->Prop),aW X pins σ H s->t σ H Q->fo (ft X.prog X.w) X.A (forIn ifs true λc r=>if r=true then do let ok <-isTrue c X.env (ie c X.env);pure (ForInStep.yield ok)else pure (ForInStep.yield r)) (TP X pins σ Q) X.xe s
theorem PT.one(h:PT X c t):O0 X [c] t:=λ_ _ _ _ _ I z=>wpAny_tests_one (h _ _ _ _ _ I z)
structure bD(X:Cx)(N':List Str)(scope:kh)(t:Nat)(cap:List Nat):Prop where
 kind:scope.kind = .function
 cell:∀y∈scope.names,y.2≠.cell
 names:∀y∈scope.names,y.2 = .local->scope.names.lookup y.1=oZ .local
 free:∀y∈scope.names,y.2 = .free->(X.env.kindOf y.1=oZ .cell\/X.env.kindOf y.1=oZ .free)
 len:N'.length=t+cap.length
 caps:∀(j k:Nat),cap[j]?=oZ k->∃x,N'[t+j]?=oZ x/\X.N[k]?=oZ x/\scope.names.lookup x=oZ .free
section
variable{X:Cx}
theorem Mf(S:bD X N' scope t cap)(I3:aW X pins σ H3 s3)(hf:∀b∈fp,sQ X pins H3 b)(hob:∀b∈fp,∃o,s3.heap.get? b=oZ o)(hns:h₁.Ns s3.heap.objs.size λ_=>none)(k:∀b o,s3.heap.get? b=oZ o->h₁.get? b=oZ o):
  aW (aX X N' scope s3.heap.objs.size s3 H3 fp) [] (h9 t cap σ) H3 { s3 with heap:=h₁,toks:=tk }:=by
 have wm:∀{x:Str}{c:fk},(Eg scope X.env).lookup x=oZ c->X.env.cells.lookup x=oZ c:=λe=>Iq e;have aBB:∀{c:fk}{v:Option oA},s3.heap.IsCell c v->h₁.IsCell c v:=λzZ=>by obtain⟨o,e,d⟩:=zZ;exact⟨o,k _ _ e,d⟩
 have aDE:∀{x:Str},scope.names.lookup x=oZ .free->(x,NameKind.free)∈scope.names:=λe=>PySem.mem_of_lookup e;refine⟨⟨I3.mod,S.kind,I3.ok.glob,I3.ok.blt,VA _,?_,?_,?_,I3.ok.hd,I3.ok.frames,.inl rfl,?_,I3.bs,VZ I3.ok.bsz I3.sz,?_,?_,I3.stack,I3.stkFree⟩,
  rfl,I3.bare,Un.kept k,⟨_,hns,?_⟩,?_,?_,?_,?_,I3.hok.kept k,?_⟩
 ·intro x y c h1 h2;exact I3.ok.inj x y c (wm h1) (wm h2)
 ·intro x hx;have hm:(x,NameKind.free)∈scope.names:=tW S.cell hx;obtain⟨c,hc⟩:=I3.ok.has x (S.free _ hm rfl);exact⟨c,Ip hm hc⟩
 ·intro x c h;cases h
 ·intro b hb;obtain⟨o,ho⟩:=hob b hb;exact⟨VY (VD ho),λx c e=>(hf b hb).2.2.2.2.1 x c (wm e)⟩
 ·intro b o e hb;rcases(hf b hb).2.2.2.1 with z|z
  ·exact I3.ok.noex b o e z
  ·exact absurd (VJ (VJ (VD e) I3.ok.bsz) z) (Nat.lt_irrefl _)
 ·intro b hb hz;obtain z|z:=UZ.mp (I3.stkSub b hz)
  ·exact(hf b hb).2.1 z
  ·exact(hf b hb).2.2.1 z
 ·intro i x v e1 e2 e3;have ht:t<=i:=by
   obtain q|q:=WG i t
   ·unfold h9 at e2;rw[VO (by simpa using q),XW]at e2;split at e2<;>cases e2
   ·exact q
  obtain⟨j,rfl⟩:∃j,i=t+j:=⟨i-t,⋯⟩;unfold h9 at e2;rw[VU (by simp),XR,Nat.add_sub_cancel_left,UQ]at e2;cases q:cap[j]? with
  |none=>rw[q]at e2;cases e2
  |some m=>
   rw[q]at e2;have e2':(σ[m]?).join=oZ v:=Option.some.inj e2;have aHQ:σ[m]?=oZ (oZ v):=by
    cases z:σ[m]? with
    |none=>rw[z]at e2';cases e2'
    |some w=>rw[z]at e2';have:w=oZ v:=e2';rw[this]
   obtain⟨x',c1,c2,c3⟩:=S.caps j m q;have ex:x'=x:=by
    have e1':N'[t+j]?=oZ x:=e1;rw[c1]at e1';exact Option.some.inj e1'
   subst ex;have hk:=S.free _ (aDE c3) rfl;obtain⟨mm,hn,hl⟩:=I3.loc;obtain⟨u,r,L⟩:=hl m x' v c2 aHQ (by obtain z|z:=hk;exact .inr (.inl z);exact .inr (.inr z));refine⟨u,r,?_⟩;obtain⟨z,_⟩|⟨_,c,hc,ze⟩:=L
   ·rcases hk with y|y<;>(have y':X.env.kindOf x'=_:=y;rw[z]at y';cases y')
   ·exact .inr ⟨wD c3,c,Ip (aDE c3) hc,aBB ze⟩
 ·intro x c e;obtain⟨v,z⟩:=I3.cell x c (wm e);exact⟨v,aBB z⟩
 ·exact I3.hok.fresh (VA _)
 ·intro x c e;exact I3.freeC x c (wm e)
 ·intro p hp;exact absurd (show p∈([]:List (fk×Obj))from hp) (by simp)
 ·show(h9 t cap σ).length=N'.length;unfold h9;rw[S.len,UT,XR,UX]
theorem Bu{EC:fk->Env->Sem Unit}{tel:fk->St->Hp->(Hp->Prop)->Prop}{wi:TI}{QQ:oA->oB->Prop}{s:oB}{Q:VK}(hc:X.calm=true)(S:bD X N' scope t cap)(hi:PI X target iter wi)(hg:∀C s3 H3 fp,PG (aX X N' scope C s3 H3 fp) target g)(hb:∀C s3 H3 fp,O0 (aX X N' scope C s3 H3 fp) ifs tb)(hs:∀x,gw iter X.env x=pure x)(I:aW X pins σ H s)(ht0:n0<=s.toks)(hcl:clausesOf e=[⟨target,iter,ifs,0⟩])(hsz:sizeOk data)(hob:∀{s H},aW X pins σ H s->aW X pins σ (upd H s.heap.objs.size ho) { s with heap:=s.heap.push { cls:=.type ty,dict:=none,data:=data } })(hel:∀C s3 H3 fp D pins s σ H(R:Hp->Prop)(Q:oB->Prop),aW (aX X N' scope C s3 H3 fp) pins σ H s->n0<=s.toks->tel D σ H R->(∀s' H',aW (aX X N' scope C s3 H3 fp) pins σ H' s'->n0<=s'.toks->R H'->Q s')->fo (ft X.prog X.w) X.A (EC D (aX X N' scope C s3 H3 fp).env) (λ_=>Q) (λ_ _=>False) s)(ht:∀it D env,(ft X.prog X.w).den (.compLoop e 0 it (.ref D) env)=(DB e target iter ifs (EC D env) it (.ref D) env).onRaise λx=>do noteFrame x env;theTreesLotGoes x)(hA:∀it D env,X.A.under (.compLoop e 0 it (.ref D) env)=X.A)(xw:∀{it acc:oA}{env:Env}{R:Result->oB->Prop}{s:oB},lh (ft X.prog X.w) X.A (.compLoop e 0 it acc env) R s->fo (ft X.prog X.w) X.A (pyIter it) (λit' s'=>lh (ft X.prog X.w) X.A (.compLoop e 0 it' acc env) R s') (notedBy (ft X.prog X.w) X.A env λx s'=>R (.error x) s') s->lh (ft X.prog X.w) X.A (.compStart e 0 it acc env) R s)(h:wi σ H λJ H1=>∀D,H1 D=none->DP J D g tb (tel D) Q (h9 t cap σ) (upd H1 D ho))(fin:∀(s3 s6:oB)(H3 H5:Hp)(fp:List fk)(D:fk)(m:Str->Option oA),aW X pins σ H3 s3->(∀b∈fp,(b∈X.ex\/X.s₀.heap.objs.size<=b)/\b≠X.env.locals/\(∀x c,X.env.cells.lookup x=oZ c->c≠b)/\∀p∈X.pn++pins,p.1≠b)->s6.heap.Ns s3.heap.objs.size m->Un (Lp X.stack) fp H3 H5 s3.heap s6.heap->qY X.prog X.w H5 s6.heap->H5 s3.heap.objs.size=none->s6.os=s3.os->ju s6.gens->Q (.ref D) H5->compPost (ft X.prog X.w) X.A X.xe use QQ (.ref D) s3.heap.objs.size (.ok .next) s6):
  fo (ft X.prog X.w) X.A (comprehension e scope X.env (firstIterPos [⟨target,iter,ifs,0⟩] pos) (newObj (.type ty) data) (firstAsync [⟨target,iter,ifs,0⟩]) (firstIter [⟨target,iter,ifs,0⟩] X.env) use) QQ X.xe s:=by
 refine wpAny_comprehension_free (cl:=Eg scope X.env) hcl hs (Au λy hy hf=>I.ok.has y.1 (S.free y hy hf)) S.kind S.names (Ah (hi pins s σ H _ I h) λv s1 h1 t1=>Ah h1 λitv s2 h2 t2=>?_);obtain⟨it,fp,tn,J,H2,e,I2,T,st2,f2,h2⟩:=h2;subst e;refine iy (wpAny_newFunctionEnv S.cell (by intro y hy;simp at hy) (λh₁ hns₁ hsb₁=>?_) S.kind) hsz
 dsimp only at hns₁ hsb₁⊢
 obtain⟨s3,hs3⟩:∃s3:oB,s3 = { s2 with heap:=s2.heap.push { cls:=.type ty,dict:=none,data:=data } }:=⟨_,rfl⟩;have hD:H2 s2.heap.objs.size=none:=I2.hok.fresh (VA _);have I3:aW X pins σ (upd H2 s2.heap.objs.size ho) s3:=by
  rw[hs3];exact hob I2
 have aLE:s3.heap.objs.size=s2.heap.objs.size+1:=by rw[hs3];exact XG ..
 have aE8:∀b o,s2.heap.get? b=oZ o->s3.heap.get? b=oZ o:=λb o e=>by rw[hs3];exact UY _ e
 have hC:(s2.heap.push { cls:=.type ty,dict:=none,data:=data }).objs.size=s3.heap.objs.size:=by rw[hs3]
 have f3:∀b∈fp,sQ X pins (upd H2 s2.heap.objs.size ho) b:=λb hb=>by
  obtain⟨o,ho,_⟩:=T.obj _ _ st2 b hb;refine⟨?_,(f2 b hb).2⟩;rw[aV (VY (VD ho))];exact(f2 b hb).1
 have ob3:∀b∈fp,∃o,s3.heap.get? b=oZ o:=λb hb=>by
  obtain⟨o,ho,_⟩:=T.obj _ _ st2 b hb;exact⟨o,aE8 b o ho⟩
 have k1:∀b o,s3.heap.get? b=oZ o->h₁.get? b=oZ o:=λb o e=>by
  refine hsb₁.extBut b o ?_ ?_
  ·rw[hC];exact VY (VD e)
  ·rw[hs3]at e;exact UY _ e
 have hns:h₁.Ns s3.heap.objs.size λ_=>none:=by
  rw[<-hC];exact hns₁
 have I4:=Mf (tk:=s2.toks+([]:List (Str×oA)).length) S I3 f3 ob3 hns k1;have st4:tn 0 h₁:=T.keep _ _ _ st2 λb hb o e=>k1 b o (aE8 b o e);obtain⟨W,⟨m0,w0⟩,turn⟩:=h2 _ hD
 -- the block's context
 obtain⟨X',xr⟩:∃X':Cx,X'=aX X N' scope s3.heap.objs.size s3 (upd H2 s2.heap.objs.size ho) fp:=⟨_,rfl⟩;have hg':PG X' target g:=by rw[xr];exact hg _ _ _ _
 have hb':O0 X' ifs tb:=by rw[xr];exact hb _ _ _ _
 have aA4:∀{H':Hp},(∀b∈fp,H' b=none)->∀b∈fp,sQ X' [] H' b:=λhn b hb=>by
  obtain⟨o,ho⟩:=ob3 b hb;rw[xr];refine⟨hn b hb,VY (VD ho),?_,.inl hb,λx c e=>(f3 b hb).2.2.2.2.1 x c (Iq e),λp hp=>absurd (show p∈([]:List (fk×Obj))from hp) (by simp)⟩;intro hz;obtain z|z:=UZ.mp (I3.stkSub b hz)
  ·exact(f3 b hb).2.1 z
  ·exact(f3 b hb).2.2.1 z
 have aDF:X'.calm=true:=by rw[xr];exact hc
 have loop:lh (ft X.prog X.w) X.A (.compLoop e 0 (.ref it) (.ref s2.heap.objs.size) (compEnvC scope (Eg scope X.env) s3.heap.objs.size X.env))
   (compPost (ft X.prog X.w) X.A X.xe use QQ (.ref s2.heap.objs.size) s3.heap.objs.size) { s3 with heap:=h₁,toks:=s2.toks+([]:List (Str×oA)).length }:=by
  refine q0 (ht _ _ _) (hA _ _ _) (λn s'=>n0<=s'.toks/\∃i σ' H',aW X' [] σ' H' s'/\tn i s'.heap/\(∀b∈fp,H' b=none)/\W i n σ' H') ?_ m0 ⟨by show n0<=s2.toks+0;lia,0,h9 t cap σ,_,by rw[xr];exact I4,st4,λb hb=>(f3 b hb).1,w0⟩;rintro n s5 ⟨t5,i,σ5,H5,I5,st5,fr5,w5⟩;obtain⟨stop,qn⟩|⟨go,step⟩:=turn i n σ5 H5 w5
  ·have q:=T.done X' (by rw[xr];rfl) (by rw[xr];rfl) (by rw[xr];rfl) aDF i [] s5 σ5 H5 (λ_ _=>False) I5 (aA4 fr5) st5 stop;have eA:X'.A=X.A:=by rw[xr];rfl
   rw[eA]at q;refine dP q λr s6 zZ=>?_;obtain⟨hr,I6⟩:=zZ;subst hr;obtain⟨m,hn,_⟩:=I6.loc;have hn':s6.heap.Ns s3.heap.objs.size m:=by rw[xr]at hn;exact hn
   have un6:Un (Lp X.stack) fp (upd H2 s2.heap.objs.size ho) H5 s3.heap s6.heap:=by have:=I6.base;rw[xr]at this;exact this
   have zj:qY X.prog X.w H5 s6.heap:=by have:=I6.hok;rw[xr]at this;exact this
   have wb:H5 s3.heap.objs.size=none:=by have:=I6.free;rw[xr]at this;exact this
   have os6:s6.os=s3.os:=by have:=I6.os;rw[xr]at this;exact this
   exact fin _ _ _ _ _ _ _ I3 (λb hb=>⟨(f3 b hb).2.2.2.1,(f3 b hb).2.1,(f3 b hb).2.2.2.2.1,(f3 b hb).2.2.2.2.2⟩) hn' un6 zj wb os6 I6.bare qn
  ·have q:=T.item X' (by rw[xr];rfl) (by rw[xr];rfl) (by rw[xr];rfl) aDF i [] s5 σ5 H5 (λ_ _=>False) I5 (aA4 fr5) st5 go;have eA:X'.A=X.A:=by rw[xr];rfl
   have eP:X'.prog=X.prog:=by rw[xr];rfl
   have eW:X'.w=X.w:=by rw[xr];rfl
   have eE:X'.env=compEnvC scope (Eg scope X.env) s3.heap.objs.size X.env:=by rw[xr];rfl
   have eX:X'.xe=λ_ _=>False:=by rw[xr];rfl
   rw[eA]at q;refine Ah q λr s6 zZ t6=>?_;obtain⟨u,hr,h6⟩:=zZ;subst hr;refine Ah h6 λ_ s7 zZ t7=>?_;obtain⟨x,H7,I7,r7,y7,st7,fr7⟩:=zZ;have I7':=I7.pinned (aA4 fr7) (T.obj _ _ st7);have q8:=hg' _ s7 σ5 H7 x u _ I7' r7 (step x H7 y7);rw[eA,eP,eW,eE,eX]at q8;refine Ah q8 λ_ s8 zZ t8=>?_;obtain⟨σ8,H8,I8,w8⟩:=zZ;have q8b:=hb' _ s8 σ8 H8 _ I8 w8;rw[eA,eP,eW,eE,eX]at q8b;refine Ah q8b λok s8 zZ t8b=>?_;obtain⟨H8,I8,w8⟩:=zZ;cases ok with
   |false=>
    obtain⟨m',hm,w9⟩:=w8;refine⟨m',hm,⋯,i+1,σ8,_,I8.unpinned,T.keep _ _ _ st7 λb hb o e=>(I8.pin (b,o) (VV _ (VV _ (iX hb e)))).1,λb hb=>?_,w9⟩;obtain⟨o,e,d⟩:=T.obj _ _ st7 b hb;exact(I8.pin (b,o) (VV _ (VV _ (iX hb e)))).2.1
   |true=>
    have aFA:=hel s3.heap.objs.size s3 (upd H2 s2.heap.objs.size ho) fp s2.heap.objs.size _ s8 σ8 H8 _ (λs'=>∃m,m<n/\n0<=s'.toks/\∃i σ' H',aW X' [] σ' H' s'/\tn i s'.heap/\(∀b∈fp,H' b=none)/\W i m σ' H') (by rw[xr]at I8;exact I8) ⋯ w8 λs10 H10 I10 t10⟨m',hm,w9⟩=>?_
    ·rw[<-xr,eE]at aFA;exact aFA
    rw[<-xr]at I10;refine⟨m',hm,t10,i+1,σ8,_,I10.unpinned,T.keep _ _ _ st7 λb hb o e=>(I10.pin (b,o) (VV _ (VV _ (iX hb e)))).1,λb hb=>?_,w9⟩;obtain⟨o,e,d⟩:=T.obj _ _ st7 b hb;exact(I10.pin (b,o) (VV _ (VV _ (iX hb e)))).2.1
 have es:({ s2 with heap:=h₁,toks:=s2.toks+([]:List (Str×oA)).length }:oB) = { s3 with heap:=h₁,toks:=s2.toks+([]:List (Str×oA)).length }:=by rw[hs3]
 rw[es,hC];exact xw loop (T.self _ 0 _ _ _ st4 loop)
def SF(n:Nat)(X:Cx)(e:oC)(t:TE):Prop:=
 ∀(pins:List (fk×Obj))(s:oB)(σ:St)(H:Hp)(Q:VK),aW X pins σ H s->n<=s.toks->t σ H Q->fo (ft X.prog X.w) X.A (ie e X.env) (EP X pins σ Q) X.xe s
theorem yI{QQ:oA->oB->Prop}(hc:X.calm=true)(S:bD X N' scope t cap)(hi:PI X target iter wi)(hg:∀C s3 H3 fp,PG (aX X N' scope C s3 H3 fp) target g)(hb:∀C s3 H3 fp,O0 (aX X N' scope C s3 H3 fp) ifs tb)(he:∀C s3 H3 fp,SF n0 (aX X N' scope C s3 H3 fp) elt te)(hs:∀x,gw iter X.env x=pure x)(I:aW X pins σ H s)(ht0:n0<=s.toks)(h:nU t cap wi g tb te σ H Q)(fin:∀(s3 s6:oB)(H3 H5:Hp)(fp:List fk)(D:fk)(m:Str->Option oA),aW X pins σ H3 s3->(∀b∈fp,(b∈X.ex\/X.s₀.heap.objs.size<=b)/\b≠X.env.locals/\(∀x c,X.env.cells.lookup x=oZ c->c≠b)/\∀p∈X.pn++pins,p.1≠b)->s6.heap.Ns s3.heap.objs.size m->Un (Lp X.stack) fp H3 H5 s3.heap s6.heap->qY X.prog X.w H5 s6.heap->H5 s3.heap.objs.size=none->s6.os=s3.os->ju s6.gens->Q (.ref D) H5->compPost (ft X.prog X.w) X.A X.xe use QQ (.ref D) s3.heap.objs.size (.ok .next) s6):
  fo (ft X.prog X.w) X.A (comprehension (.ListComp elt [⟨target,iter,ifs,0⟩] scope pos) scope X.env (firstIterPos [⟨target,iter,ifs,0⟩] pos) (newList []) (firstAsync [⟨target,iter,ifs,0⟩]) (firstIter [⟨target,iter,ifs,0⟩] X.env) use) QQ X.xe s:=
 Bu (ty:="list") (data:=.seq #[]) (ho:=.lst []) (EC:=λD env=>do let _ <-call (.builtin "list.append") [.ref D,<-ie elt env]) (tel:=λD σ H R=>te σ H λy H4=>∃ys,H4 D=oZ (.lst ys)/\ys.length<gf/\R (upd H4 D (.lst (ys++[y])))) hc S hi hg hb hs I ht0 rfl (UU _)
  (λI2=>I2.laid (t':=_) (λb u e=>UY _ e) (VA _) ⟨UU _,[],0,.nil,VF _ rfl⟩)
  (λC s3 H3 fp D pins s σ H R Q I p z k=>fm (Ah (he C s3 H3 fp pins s σ H _ I p z) λy s9 z9 t9=>by
   obtain⟨v9,H9,I9,r9,ys,hD9,rk,hr⟩:=z9;refine fm (Ah (Cp (X:=aX X N' scope C s3 H3 fp) _ s9 σ H9 (.ref D) [v9] (.ref D) [y] (λ_ H10=>H10=upd H9 D (.lst (ys++[v9]))) I9 rfl (.cons r9 .nil) ⟨_,ys,v9,rfl,rfl,hD9,rk,rfl⟩) λ_ s10 z10 t10=>?_);obtain⟨v10,H10,I10,r10,e10⟩:=z10;subst e10;exact fz (k _ _ I10 ⋯ hr)))
  (λ_ _ _=>rfl) (λ_ _ _=>rfl) codeAny_compStart_list h fin
theorem Ir(I3:aW X pins σ H3 s3)(f3:∀b∈fp,(b∈X.ex\/X.s₀.heap.objs.size<=b)/\b≠X.env.locals/\(∀x c,X.env.cells.lookup x=oZ c->c≠b)/\∀p∈X.pn++pins,p.1≠b)(hn':s6.heap.Ns s3.heap.objs.size m)(un6:Un (Lp X.stack) fp H3 H5 s3.heap s6.heap)(zj:qY X.prog X.w H5 s6.heap)(wb:H5 s3.heap.objs.size=none)(os6:s6.os=s3.os)(ba:ju s6.gens)(qn:QQ (.ref D) H5):compPost (ft X.prog X.w) X.A X.xe none (EP X pins σ QQ) (.ref D) s3.heap.objs.size (.ok .next) s6:=by
 refine⟨m,hn',λh' hs'=>?_⟩;have kp:∀b o,b≠s3.heap.objs.size->s6.heap.get? b=oZ o->h'.get? b=oZ o:=λb o hb e=>hs'.extBut b o hb e;have neC:∀{b:fk}{o:Obj},s3.heap.get? b=oZ o->b≠s3.heap.objs.size:=λe=>VY (VD e);have un7:Un (Lp X.stack) fp (H3) H5 s3.heap h':=
  ⟨λb o e n1 n2 n3=>kp b o (neC e) (un6.keep b o e n1 n2 n3),λb o e n1 n2 n3=>by obtain⟨sl,z⟩:=un6.slot b o e n1 n2 n3;exact⟨sl,kp b _ (neC e) z⟩,un6.free,
   λb o e n3=>by obtain⟨o',z⟩:=un6.there b o e n3;exact⟨o',kp b _ (neC e) z⟩,un6.tups,un6.frzs,un6.tbls⟩
 have aHS:qY X.prog X.w H5 h':=λb ob e=>by
  refine(zj b ob e).stay (λc w' hc' q=>kp c w' ?_ q) (λ_ q=>q) λ_ _ q=>q;rintro rfl;obtain rfl|hc':=hc'
  ·rw[wb]at e;cases e
  ·rw[wb]at hc';cases hc'
 exact⟨.ref D,H5,I3.call' (s':={ s6 with heap:=h' }) (ch:=fp) os6 un7 aHS ba f3,rfl,qn⟩
theorem B6(hc:X.calm=true)(S:bD X N' scope t cap)(hi:PI X target iter wi)(hg:∀C s3 H3 fp,PG (aX X N' scope C s3 H3 fp) target g)(hb:∀C s3 H3 fp,O0 (aX X N' scope C s3 H3 fp) ifs tb)(he:∀C s3 H3 fp,PE (aX X N' scope C s3 H3 fp) elt te)(hs:∀x,gw iter X.env x=pure x:=by intro _;rfl):
  PE X (.ListComp elt [⟨target,iter,ifs,0⟩] scope pos) (nU t cap wi g tb te):=by
 intro pins s σ H Q I h;rw[eval_ListComp];exact yI (n0:=0) hc S hi hg hb (λC s3 H3 fp pins s σ H Q I _ z=>he C s3 H3 fp pins s σ H Q I z) hs I (UU _) h λs3 s6 H3 H5 fp D m I3 f3 hn' un6 zj wb os6 ba qn=>Ir I3 f3 hn' un6 zj wb os6 ba qn
theorem V0(hc:X.calm=true)(S:bD X N' scope t cap)(hi:PI X target iter wi)(hg:∀C s3 H3 fp,PG (aX X N' scope C s3 H3 fp) target g)(he:∀C s3 H3 fp,PE (aX X N' scope C s3 H3 fp) elt te)(hs:∀x,gw iter X.env x=pure x:=by intro _;rfl):
  PE X (.ListComp elt [⟨target,iter,[],0⟩] scope pos) (Dd t cap wi g te):=λpins s σ H Q I h=>B6 (tb:=λ_ H Q=>Q true H) hc S hi hg (λ_ _ _ _ _ _ _ _ _ I z=>wpAny_tests_nil ⟨_,I,z⟩) he hs pins s σ H Q I h
end
def CN(i j k:Nat)(ta:TA):TS:=λD σ H=>ta σ H λvs H1=>∃v w z,vs=[v,w,z]/\D.nx (((σ.set i (oZ v)).set j (oZ w)).set k (oZ z)) H1
theorem W4{kt k2 pt2}(hc:X.calm=true)(hN:X.N.Nodup)(hi:X.N[i]?=oZ x)(hj:X.N[j]?=oZ y)(hk:X.N[k]?=oZ z)(hij:i≠j)(hik:i≠k)(hjk:j≠k)(hx:X.env.scope.names.lookup x=oZ .local)(hy:X.env.scope.names.lookup y=oZ .local)(hz:X.env.scope.names.lookup z=oZ .local)(ha:PA X [a,b,c] ta)(hw:jf [.Tuple [.Name x px,.Name y py,.Name z pz] kt pt] (.Tuple [a,b,c] k2 pt2) X.env=pure (oZ [x,y,z]))(hs:je [.Tuple [.Name x px,.Name y py,.Name z pz] kt pt] (.Tuple [a,b,c] k2 pt2) pos.line X.env=pure false:=by rfl):
  PS X (.Assign [.Tuple [.Name x px,.Name y py,.Name z pz] kt pt] (.Tuple [a,b,c] k2 pt2) pos) (CN i j k ta):=by
 intro pins s σ H D I h;rw[exec_Assign_arm];refine fm (jq ?_);rw[hs];refine fm (fz ?_);rw[oW ∅];refine fm (Tuple_ (dP (ha _ pins s σ H _ I h) λus s1 zZ=>?_));obtain⟨vs,H1,I1,r1,q1⟩:=zZ;obtain⟨v,w,zz,e1,q1⟩:=q1;subst e1;obtain⟨u1,u2,u3,rfl,rv,rw',rz⟩:∃u1 u2 u3,us=[u1,u2,u3]/\bJ v u1/\bJ w u2/\bJ zz u3:=by
  cases r1 with
  |cons p q=>
   cases q with
   |cons p' q'=>
    cases q' with
    |cons p'' q''=>
     cases q'';exact⟨_,_,_,rfl,p,p',p''⟩
 refine iy ?_ (by show 3<=gf;decide);have I2:aW X pins σ H1 { s1 with heap:=s1.heap.push { cls:=.type "tuple",data:=.seq [u1,u2,u3].toArray } }:=I1.kept (t':=s1.toks) λb o e=>UY _ e;rw[hw];refine fm (fz ?_);show fo (ft X.prog X.w) X.A (do rule "assign.swapped-stores";let items <-unpackItems (.ref s1.heap.objs.size) 3 none;jz [λv=>jx X.env z v,λv=>jx X.env y v,λv=>jx X.env x v] items.reverse;pure Flow.next) _ _ _;refine fm (md (fm (unpackItems_tuple (items:=#[u1,u2,u3]) (I.ok.hd hc) (IsTup.new s1.heap _) λh' hx'=>?_)));have I3:=I2.kept (h':=h') (t':=s1.toks) λb o e=>hx' b o (VY (VD e)) e;show fo _ _ (jz [λv=>jx X.env z v,λv=>jx X.env y v,λv=>jx X.env x v] [u3,u2,u1] >>= λ_=>pure Flow.next) _ _ _;refine fm (jj (ko (jQ I3 hN hk (.inl hz) rz (λs2 I4=>?_) (.inr hz))));refine jj (ko (jQ I4 hN hj (.inl hy) rw' (λs3 I5=>?_) (.inr hy)));refine jj (ko (jQ I5 hN hi (.inl hx) rv (λs4 I6=>ma (fz ?_)) (.inr hx)));rw[YB _ _ (Ne.symm hij),YB _ _ (Ne.symm hik),YB _ _ (Ne.symm hjk)]at I6;exact⟨_,H1,I6,q1⟩
structure Fn(P:fu)(w:gn)(K:W.Frag)(mg:Str->Option oA)(base:oE)(k:Nat)(x:Str)(ps:List Str)(sp:Sp):Prop where
 ex:∃f fd,aS P w K mg base cL k f fd ps sp/\mg x=oZ (.ref f)/\W.keepIn K (.ref f)=true/\kF K fd ps []
theorem MB(F:Fn X.prog X.w X.K X.mg X.base k x ps sp)(hr:dN j X.A)(hk:k<=j)(hg:Gl X x)(ha:PA X (e::es) t)(vw:(x==("__debug__":Str))=false:=by decide)(he:ig (e::es) X.env=(false,ie e X.env)::ig es X.env:=by rfl)(hpl:(jr pos (ig es X.env)).any (·.1)=false:=by rfl):PE X (.Call (.Name x p) (e::es) [] pos) (Kz sp [] E0 t):=by
 obtain⟨f,fd,F,hm,hkp,hb⟩:=F.ex;exact U8 F (hr.mono hk) hg hm hkp hb .nil LZ ha vw he hpl
def a8:oC->Bool
 |.Starred _ _=>true
 |_=>false
theorem cD(h:a8 e=false):ig (e::es) env=(false,ie e env)::ig es env:=by
 cases e<;>first|rfl|(simp[a8]at h)
def bR:List oC->Bool
 |[]=>true
 |e::es=>!a8 e&&bR es
theorem fL:∀{es:List oC},bR es=true->(jr pos (ig es env)).any (·.1)=false
 |[],_=>rfl
 |e::es,h=>by
  have h1:a8 e=false:=by simp only[bR,VN,ZM]at h;exact h.1
  have h2:bR es=true:=by simp only[bR,VN]at h;exact h.2
  have ih:=fL (pos:=pos) (env:=env) h2;rw[cD h1];simp only[jr,WQ,ao,fi]at ih⊢;exact ih
theorem pc(ha:PE X e te)(hr:PA X es t)(hs:a8 e=false:=by rfl):PA X (e::es) (Lb te t):=U6 ha hr (cD hs)
theorem GL(F:Fn X.prog X.w X.K X.mg X.base k x ps sp)(hr:dN j X.A)(hk:k<=j)(hg:Gl X x)(ha:PA X (e::es) t)(vw:(x==("__debug__":Str))=false:=by decide)(hs:bR (e::es)=true:=by rfl):PE X (.Call (.Name x p) (e::es) [] pos) (Kz sp [] E0 t):=
 MB F hr hk hg ha vw (cD (by simp only[bR,VN,ZM]at hs;exact hs.1)) (fL (by simp only[bR,VN]at hs;exact hs.2))
theorem Vy{X:Cx}{pos:Pos}{e:oC}{es:List oC}{t:TA}{x:Str}{p:Pos}{id:String}{r:List V->Hp->VK->Prop}(hc:j7 X (.builtin id) r)(hg:Gl X x)(hm:X.mg x=none)(hv:ij x=oZ (.builtin id))(ha:PA X (e::es) t)(hn:x≠"__name__":=by decide)(vw:(x==("__debug__":Str))=false:=by decide)(hs:bR (e::es)=true:=by rfl):PE X (.Call (.Name x p) (e::es) [] pos) (JA r t):=
 B5 hc hg hm hv ha hn vw (cD (by simp only[bR,VN,ZM]at hs;exact hs.1)) (fL (by simp only[bR,VN]at hs;exact hs.2))
theorem Om{r:List V->Hp->VK->Prop}(hc:j7 X (.type T) r)(hg:Gl X x)(hm:X.mg x=none)(hv:ij x=oZ (.type T))(ha:PA X (e::es) t)(hn:x≠"__name__":=by decide)(vw:(x==("__debug__":Str))=false:=by decide)(hs:bR (e::es)=true:=by rfl):PE X (.Call (.Name x p) (e::es) [] pos) (JA r t):=
 Vz hc hg hm hv ha hn vw (cD (by simp only[bR,VN,ZM]at hs;exact hs.1)) (fL (by simp only[bR,VN]at hs;exact hs.2))
structure QE(X:Cx)(e:oC)(t:TE):Prop where
 h:PE X e t
structure QT(X:Cx)(e:oC)(t:TT):Prop where
 h:PT X e t
structure QW(X:Cx)(e:oC)(t:TT):Prop where
 h:PW X e t
structure QA(X:Cx)(es:List oC)(t:TA):Prop where
 h:PA X es t
structure QS(X:Cx)(st:fq)(t:TS):Prop where
 h:PS X st t
structure QB(X:Cx)(st:List fq)(t:TS):Prop where
 h:Qj X st t
structure QG(X:Cx)(e:oC)(t:TG):Prop where
 h:PG X e t
structure Tx(X:Cx)(es:List oC)(t:AO):Prop where
 h:IU X es t
structure QI(X:Cx)(tg e:oC)(t:TI):Prop where
 h:PI X tg e t
structure QO(X:Cx)(e:Option oC)(t:TO):Prop where
 h:PO X e t
def Qr(sc scope:kh)(N N':List Str)(t:Nat)(cap:List Nat):Bool:=
 decide (scope.kind = .function)&&scope.names.all (λy=>decide (y.2≠.cell))&&scope.names.all (λy=>decide (y.2 = .local->scope.names.lookup y.1=oZ .local)) &&
 scope.names.all (λy=>decide (y.2 = .free->(sc.names.lookup y.1=oZ .cell\/sc.names.lookup y.1=oZ .free)))&&decide (N'.length=t+cap.length) &&
 (VC cap.length).all (λj=>match cap[j]?,N'[t+j]? with|some k,oZ x=>decide (N[k]?=oZ x/\scope.names.lookup x=oZ .free)|_,_=>false)
theorem bD.of(h:Qr X.env.scope scope X.N N' t cap=true):bD X N' scope t cap:=by
 simp only[Qr,VN,WM,decide_eq_true_eq]at h;obtain⟨⟨⟨⟨⟨h1,h2⟩,h3⟩,h4⟩,h5⟩,h6⟩:=h;refine⟨h1,h2,h3,h4,h5,λj k e=>?_⟩;have hj:j<cap.length:=(UO.mp e).1;have h:=h6 j (ZH.mpr hj);rw[e]at h;cases q:N'[t+j]? with
 |none=>rw[q]at h;cases h
 |some x=>
  rw[q]at h;have h':=of_decide_eq_true h;exact⟨x,rfl,h'.1,h'.2⟩
theorem Ox:QB X [] CK:=⟨W5⟩
theorem qS{X:Cx}{t:TS}{u:TS}{st:fq}{zk:List fq}(h1:QS X st t)(h2:QB X zk u):QB X (st::zk) (NU t u):=⟨C8 h1.h h2.h⟩
theorem pN{X:Cx}{t:TS}{st:fq}(h1:QS X st t):QB X [st] t:=⟨W6 h1.h⟩
theorem Pb(h:QE X e te):QS X (.Return (oZ e) pos) (NS te):=⟨HE h.h⟩
theorem D4(hc:QT X c tc)(ha:QB X b1 t)(hb:QB X b2 u):QS X (.If c b1 b2 pos) (NK tc t u):=⟨MG hc.h ha.h hb.h⟩
theorem D5(hp:PassesOwn (ft X.prog X.w) X.A X.env X.xe)(hc:QT X c tc)(hb:QB X body tbd):QS X (.While c body [] pos) (K6 tc tbd):=⟨C7 hp hc.h hb.h⟩
theorem Pa(hp:PassesOwn (ft X.prog X.w) X.A X.env X.xe)(hc:X.calm=true)(hi:QI X tg iter wi)(hg:QG X tg g)(hb:QB X body tbd)(hs:∀x,gw iter X.env x=pure x:=by intro _;rfl):
  QS X (.For tg iter body [] pos) (NJ wi g tbd):=⟨HC hp hc hi.h hg.h hb.h hs⟩
theorem xH(he:QE X e te)(hs:ir e none pos.line X.env=pure false:=by rfl):QS X (.Expr e pos) (CA te):=⟨W3 he.h hs⟩
theorem Gp(hN:X.N.Nodup)(hi:X.N[i]?=oZ x)(hx:uG X.env.scope x)(he:QE X e te)(hs:ir e (oZ (.Name x pos')) pos.line X.env=pure false:=by rfl)(hf:X.fn x=true\/X.env.scope.names.lookup x=oZ .local:=by first|exact .inl rfl|exact .inr rfl|assumption):QS X (.Assign [.Name x pos'] e pos) (Ky te (n8 i)):=⟨HF hN hi hx he.h hs hf⟩
theorem D3(he:QE X e te)(hg:QG X tg g)(hs:je [tg] e pos.line X.env=pure false:=by rfl)(hw:jf [tg] e X.env=pure none:=by rfl)(h1:(gv [tg] X.env).map (·.2)=[jg tg X.env]:=by rfl):QS X (.Assign [tg] e pos) (Ky te g):=⟨HA he.h hg.h hs hw h1⟩
theorem HS{kt k2 pt2}(hc:X.calm=true)(hN:X.N.Nodup)(hi:X.N[i]?=oZ x)(hj:X.N[j]?=oZ y)(hij:i≠j)(hx:X.env.scope.names.lookup x=oZ .local)(hy:X.env.scope.names.lookup y=oZ .local)(ha:QA X [a,b] tr)(hw:jf [.Tuple [.Name x px,.Name y py] kt pt] (.Tuple [a,b] k2 pt2) X.env=pure (oZ [x,y]))(hs:je [.Tuple [.Name x px,.Name y py] kt pt] (.Tuple [a,b] k2 pt2) pos.line X.env=pure false:=by rfl):
  QS X (.Assign [.Tuple [.Name x px,.Name y py] kt pt] (.Tuple [a,b] k2 pt2) pos) (NR i j tr):=⟨HD hc hN hi hj hij hx hy ha.h hw hs⟩
theorem X5{kt k2 pt2}(hc:X.calm=true)(hN:X.N.Nodup)(hi:X.N[i]?=oZ x)(hj:X.N[j]?=oZ y)(hk:X.N[k]?=oZ z)(hij:i≠j)(hik:i≠k)(hjk:j≠k)(hx:X.env.scope.names.lookup x=oZ .local)(hy:X.env.scope.names.lookup y=oZ .local)(hz:X.env.scope.names.lookup z=oZ .local)(ha:QA X [a,b,c] tr)(hw:jf [.Tuple [.Name x px,.Name y py,.Name z pz] kt pt] (.Tuple [a,b,c] k2 pt2) X.env=pure (oZ [x,y,z]))(hs:je [.Tuple [.Name x px,.Name y py,.Name z pz] kt pt] (.Tuple [a,b,c] k2 pt2) pos.line X.env=pure false:=by rfl):
  QS X (.Assign [.Tuple [.Name x px,.Name y py,.Name z pz] kt pt] (.Tuple [a,b,c] k2 pt2) pos) (CN i j k tr):=⟨W4 hc hN hi hj hk hij hik hjk hx hy hz ha.h hw hs⟩
theorem m8(hN:X.N.Nodup)(hi:X.N[i]?=oZ x)(hx:uG X.env.scope x)(hf:X.fn x=true\/X.env.scope.names.lookup x=oZ .local:=by first|exact .inl rfl|exact .inr rfl|assumption):QG X (.Name x pos) (n8 i):=⟨V4 hN hi hx hf⟩
theorem xG:Tx X [] Q7:=⟨V6⟩
theorem kW(h1:QG X e g)(h2:Tx X es gs)(hs:(gv (e::es) X.env).map (·.2)=jg e X.env::(gv es X.env).map (·.2):=by rfl):Tx X (e::es) (Ci g gs):=⟨C0 h1.h h2.h hs⟩
theorem Gn(hc:X.calm=true)(h:Tx X es gs)(hn:(gv es X.env).length=n:=by rfl)(xw:(gv es X.env).findIdx? (·.1)=none:=by rfl):QG X (.Tuple es k pos) (ER X.K n gs):=⟨GV hc h.h hn xw⟩
theorem Oz(ho:QE X o to)(hi:QE X i ti)(hs:DG X ts)(ha:∀v,jg (.Subscript o i pos) X.env v=(do
   let ov <-jd [v] (ie o X.env)
   let iv <-jd [v,ov] (ie i X.env)
   standAt pos
   jd [v,ov,iv] (setItem ov iv v)
   release [v,ov,iv] []):=by intro _;rfl):QG X (.Subscript o i pos) (KU to ti ts):=⟨GU ho.h hi.h hs ha⟩
theorem Wd(hg:Gl X "range")(hm:X.mg "range" = none)(ha:QA X [a] tr)(hs:a8 a=false:=by rfl):QI X tg (.Call (.Name "range" p) [a] [] pos) (BD tr):=⟨Wa hg hm ha.h (cD hs)⟩
theorem We(hg:Gl X "range")(hm:X.mg "range" = none)(ha:QA X [a,b] tr)(hs:a8 a=false:=by rfl)(xp:a8 b=false:=by rfl):QI X tg (.Call (.Name "range" p) [a,b] [] pos) (BE tr):=
 ⟨Wb hg hm ha.h (by rw[cD hs,cD xp];rfl) (by rw[cD xp];rfl)⟩
theorem X1{x1}(hg:Gl X "enumerate")(hm:X.mg "enumerate" = none)(ha:QA X [a] tr)(hs:a8 a=false:=by rfl):QI X (.Tuple elts x1 xq) (.Call (.Name "enumerate" p) [a] [] pos) (BC X.K tr):=⟨V7 hg hm ha.h (cD hs)⟩
theorem X2(hl:QE X l tl):QI X tg l (Yv X.K tl):=⟨Se hl.h⟩
theorem HR(hl:QE X l tl):QI X tg l (KZ X.K tl):=⟨GX hl.h⟩
theorem Ot:QA X [] IH:=⟨A8⟩
theorem qc(ha:QE X e te)(hr:QA X es tr)(hs:a8 e=false:=by rfl):QA X (e::es) (Lb te tr):=⟨pc ha.h hr.h hs⟩
theorem zF{i j pos}:QE X (.Constant (.int i) j pos) (tC (.int i)):=⟨GN⟩
theorem MI{b j pos}:QE X (.Constant (.bool b) j pos) (tC (.bl b)):=⟨MA⟩
theorem D2{j pos}:QE X (.Constant .none j pos) (tC .non):=⟨GP⟩
theorem HQ{x j pos}:QE X (.Constant (.str x) j pos) (tC (.str x)):=⟨Gj⟩
theorem W8(hg:Gl X x)(hm:X.mg x=none)(hv:ij x=oZ u)(r:bJ v u)(hn:x≠"__name__":=by decide)(hd:(x==("__debug__":Str))=false:=by decide):QE X (.Name x pos) (tC v):=⟨Gi hg hm hv r hn hd⟩
theorem qv(i:Nat)(hN:X.N[i]?=oZ x:=by rfl)(hv:O1 X.env.scope x:=by first|exact WA rfl|exact WN (WA rfl)|exact WN (WN rfl))(hd:(x==("__debug__":Str))=false:=by decide)(yn:(x==("__classdict__":Str))=false:=by decide):QE X (.Name x pos) (wU i):=⟨uU hN hv hd yn⟩
theorem zG(ho:oP X (jc op) r)(ha:QE X a ta)(hb:QE X b tb):QE X (.BinOp a op b pos) (Wr r ta tb):=⟨MD ho ha.h hb.h⟩
theorem BM{r:V->Hp->VK->Prop}(ho:OY X (unaryOp op) r)(ha:QE X a ta):QE X (.UnaryOp op a pos) (TL r ta):=⟨MF ho ha.h⟩
theorem HN(ha:QE X a ta):QE X (.UnaryOp .Not a pos) (CL ta):=⟨GQ ha.h⟩
theorem Si(ho:oP X (ja op) r)(ha:QE X a ta)(hb:QE X b tb)(hm:ik op b=false):QE X (.Compare a [op] [b] pos) (Wr r ta tb):=⟨U9 ho ha.h hb.h hm⟩
theorem HM(ha:QE X a ta)(hb:QE X (.BoolOp .And (b::rest) pos) tb):QE X (.BoolOp .And (a::b::rest) pos) (BU ta tb):=⟨GK ha.h hb.h⟩
theorem ML(ha:QE X a ta)(hb:QE X (.BoolOp .Or (b::rest) pos) tb):QE X (.BoolOp .Or (a::b::rest) pos) (NQ ta tb):=⟨ME ha.h hb.h⟩
theorem HP{op}(h:QE X a ta):QE X (.BoolOp op [a] pos) ta:=⟨GR h.h⟩
theorem C9(hc:QT X c tA)(ha:QE X a ta)(hb:QE X b tb):QE X (.IfExp c a b pos) (SY tA ta tb):=⟨B8 hc.h ha.h hb.h⟩
theorem Oy{x1}(h:QA X es tr):QE X (.Tuple es x1 pos) (NW tr):=⟨GS h.h⟩
theorem D1(h:QA X es tr):QE X (.List es pos) (NO tr):=⟨GO h.h⟩
theorem D0(hr:N0 X r)(ha:QE X a ta)(hb:QE X b tb)(hs:wV b):QE X (.Subscript a b pos) (Wr r ta tb):=⟨MC hr ha.h hb.h hs⟩
theorem X3{X:Cx}:QO X none Th:=⟨V8⟩
theorem X4(h:QE X e te):QO X (oZ e) (CO te):=⟨V9 h.h⟩
theorem Kf{r:V->Option Int->Option Int->Hp->VK->Prop}{lo hi:Option oC}(hr:OX X r)(he:QE X e te)(hl:QO X lo tlo)(hu:QO X hi thi):QE X (.Subscript e (.Slice lo hi none p2) pos) (TH r te tlo thi):=⟨B9 hr he.h hl.h hu.h⟩
theorem zE(F:Fn X.prog X.w X.K X.mg X.base k x ps sp)(hr:dN j X.A)(hk:k<=j)(hg:Gl X x)(ha:QA X (e::es) tr)(vw:(x==("__debug__":Str))=false:=by decide)(hs:bR (e::es)=true:=by rfl):QE X (.Call (.Name x p) (e::es) [] pos) (Kz sp [] E0 tr):=⟨GL F hr hk hg ha.h vw hs⟩
theorem iZ{X:Cx}{pos:Pos}{e:oC}{es:List oC}{tr:TA}{x:Str}{p:Pos}{id:String}{r:List V->Hp->VK->Prop}(hc:j7 X (.builtin id) r)(hg:Gl X x)(hm:X.mg x=none)(hv:ij x=oZ (.builtin id))(ha:QA X (e::es) tr)(hn:x≠"__name__":=by decide)(vw:(x==("__debug__":Str))=false:=by decide)(hs:bR (e::es)=true:=by rfl):QE X (.Call (.Name x p) (e::es) [] pos) (JA r tr):=⟨Vy hc hg hm hv ha.h hn vw hs⟩
theorem rZ{r:List V->Hp->VK->Prop}(hc:j7 X (.type T) r)(hg:Gl X x)(hm:X.mg x=none)(hv:ij x=oZ (.type T))(ha:QA X (e::es) tr)(hn:x≠"__name__":=by decide)(vw:(x==("__debug__":Str))=false:=by decide)(hs:bR (e::es)=true:=by rfl):QE X (.Call (.Name x p) (e::es) [] pos) (JA r tr):=⟨Om hc hg hm hv ha.h hn vw hs⟩
theorem Sj(hc:X.calm=true)(S:bD X N' scope t cap)(hi:QI X target iter wi)(hg:∀C s3 H3 fp,QG (aX X N' scope C s3 H3 fp) target g)(he:∀C s3 H3 fp,QE (aX X N' scope C s3 H3 fp) elt te)(hs:∀x,gw iter X.env x=pure x:=by intro _;rfl):
  QE X (.ListComp elt [⟨target,iter,[],0⟩] scope pos) (Dd t cap wi g te):=⟨V0 hc S hi.h (λC s3 H3 fp=>(hg C s3 H3 fp).h) (λC s3 H3 fp=>(he C s3 H3 fp).h) hs⟩
theorem Sk(ho:oP X (ja op) r)(ha:QE X a ta)(hb:QE X b tb)(hm:ik op b=false):QT X (.Compare a [op] [b] pos) (K5 (Wr r ta tb)):=⟨Sh ho ha.h hb.h hm⟩
theorem HU(ha:QT X a tA):QT X (.UnaryOp .Not a pos) (NP tA):=⟨HH ha.h⟩
theorem HV(h:QE X e te)(he:∀whole,isTrue e X.env whole=(do let v <-whole;standAt e.pos;jd [v] (truthy v)):=by intro _;rfl):QT X e (tB te):=⟨HI h.h he⟩
theorem HW(ha:QT X a tA):QW X (.BoolOp .Or [a] pos) tA:=⟨HL ha.h⟩
theorem MN(ha:QT X a tA)(hb:QW X (.BoolOp .Or (b::rest) pos) tB'):QW X (.BoolOp .Or (a::b::rest) pos) (TC tA tB'):=⟨MH ha.h hb.h⟩
theorem RM(h:QW X e tA):QT X e tA:=⟨h.h.pt⟩
theorem cI.okQ{P:fu}{w:gn}{K:W.Frag}{mg:Str->Option oA}{base:oE}{x qual:Str}{st:fq}{f:fk}{fd:ip}{N ps:List Str}{k:Nat}{sp:Sp}(F:cI K x qual st f fd)(S:aF N ps (aC st))(len:∀vs H Q E,sp vs H Q E->vs.length=ps.length)(aAQ:∀(qp:oA)(A:oD)(outer:List Env)(s:oB)(H:Hp)(vs:List V)(Q:VK)(E:XK),dN k (A.deeper (jv qual (aC st) s.heap.objs.size f qp))->sp vs H Q E->
   ∃t,QB (yK cL P w K mg base N qual (aC st) f qp A outer s H E).nox (cZ st) t/\t { nx:=λ_ H'=>Q .non H',rt:=Q } (k7 N vs) H):(~~~aS) cL (k+1) f fd ps sp:=
 F.ok S len λqp A outer s H vs Q E hr h=>let⟨t,h1,h2⟩:=aAQ qp A outer s H vs Q E hr h;⟨t,h1.h,h2⟩
theorem Hu{E:oA->oB->Prop}{Q:oA->oB->Prop}(gi:s.heap.IsTupleIter it t k)(gt:s.heap.IsTuple t items)(gx:items[k]?=oZ x)(gq:∀h',h'.IsTupleIter it t (k+1)->YS it s.heap h'->Q x { s with heap:=h' }):fo (ft prog w) A (Builtin.SmallTypes.nextOf (.ref it)) Q E s:=by
 obtain⟨ob,eo,ec,ed⟩:=id gi;obtain⟨ot,et,_,nt,edt⟩:=gt;unfold Builtin.SmallTypes.nextOf;refine fm (wpAny_callSpecial?_slot (name:=VW "__next__") gi.typeIs F.slot_tuple_iterator_next (jy F.slot_tuple_iterator_next gi.typeIs F.entry_tuple_iterator_next ?_ (F.args_tuple_iterator_next_1 _)));show fo _ _ (field (.ref it) 0 >>= _) _ _ _;refine fm (jh eo ed (x:=.ref t) rfl ?_);show fo _ _ (if(WR t==ZG)=true then _ else _) _ _ _;rw[oW (λhq:(WR t==ZG)=true=>YA hq)];show fo _ _ (field (.ref it) 1 >>= _) _ _ _;refine fm (jh eo ed (x:=.int k 0) rfl ?_);show fo _ _ (seqItems? (.ref t) >>= _) _ _ _;refine fm (kr et edt ?_);simp only[WO,gx];refine fm (wpAny_setField eo ed (by simp) (fz ⟨x,rfl,fz (gq _ ?_ (Heap.SameBut.update ..))⟩));exact⟨_,ZP _ eo (Obj.isFreed_of_fields (Obj.data_mapFields ed _)),(Obj.cls_mapFields ..).trans ec,by rw[Obj.data_mapFields ed];simp[rawInt]⟩
theorem Li{E:oA->oB->Prop}{Q:oA->oB->Prop}(gh:A.handled=none)(gi:s.heap.IsTupleIter it t k)(gt:s.heap.IsTuple t items)(gx:items[k]?=none)(ge:∀h' e,ag it s.heap h'->(∃o,h'.get? e=oZ o/\o.cls = .type "StopIteration")->E (.ref e) { s with heap:=h' }):fo (ft prog w) A (Builtin.SmallTypes.nextOf (.ref it)) Q E s:=by
 obtain⟨ob,eo,ec,ed⟩:=id gi;obtain⟨ot,et,_,nt,edt⟩:=gt;unfold Builtin.SmallTypes.nextOf;refine fm (wpAny_callSpecial?_slot (name:=VW "__next__") gi.typeIs F.slot_tuple_iterator_next (jy F.slot_tuple_iterator_next gi.typeIs F.entry_tuple_iterator_next ?_ (F.args_tuple_iterator_next_1 _)));show fo _ _ (field (.ref it) 0 >>= _) _ _ _;refine fm (jh eo ed (x:=.ref t) rfl ?_);show fo _ _ (if(WR t==ZG)=true then _ else _) _ _ _;rw[oW (λhq:(WR t==ZG)=true=>YA hq)];show fo _ _ (field (.ref it) 1 >>= _) _ _ _;refine fm (jh eo ed (x:=.int k 0) rfl ?_);show fo _ _ (seqItems? (.ref t) >>= _) _ _ _;refine fm (kr et edt ?_);simp only[WO,gx];refine fm (md (fm (wpAny_setField eo ed (by simp) ?_)));show fo _ _ (newExc (.type "StopIteration") [] >>= _) _ _ _;refine fm ?_;simp only[newExc,newTuple];refine fm (iy ?_ (by size_fits));refine fm (m:=firstArgMember _ _) (wpAny_of_eq (a:=ZG) (by first|rfl|(simp only[firstArgMember];rfl)) (iy ?_ (by size_fits)));simp only[raiseNew];refine fm (wpAny_handled ?_)
 first|rw[show A.in1.handled=none from gh]|rw[gh]
 refine fm (fz (wpAny_throw ?_));exact ge _ _ (((Heap.SameBut.update ..).extBut.push _).push _) ⟨_,VF _ rfl,rfl⟩
theorem Uw{prog:fu}{w:gn}{A:oD}(gh:A.handled=none)(it t:fk)(vz:t≠it)(items:Array oA):
  Draws prog w A it [it,t] items.size (λi v=>items[i]?=oZ v) (λi h=>h.IsTupleIter it t i/\h.IsTuple t items) where
 live:=λ_ _ st=>let⟨o,ho,_⟩:=st.1;⟨o,ho⟩
 frame:=λ_ _ _ st hk=>⟨st.1.at λo e=>hk it (by simp) o e,st.2.at λo e=>hk t (by simp) o e⟩
 item:=λi s Q E hi st hQ=>Hu st.1 st.2 (x:=items[i]) (by simp[hi]) λh' aHU hs'=>hQ _ h' s.toks (by simp[hi]) ⟨aHU,st.2.extBut hs'.extBut vz⟩ hs'
 done:=λs Q E st hE=>Li gh st.1 st.2 (by simp) hE
def kG(κ:Bool)(h:oE)(it a:fk)(i:Nat):Prop:=match κ with|true=>h.IsTupleIter it a i|false=>h.IsListIter it a i
def xY(κ:Bool)(h:oE)(a:fk)(items:Array oA):Prop:=match κ with|true=>h.IsTuple a items|false=>h.IsList a items
theorem kG.at(x:kG κ h it a i)(e:∀o,h.get? it=oZ o->h'.get? it=oZ o):kG κ h' it a i:=by
 cases κ
 ·exact Heap.IsListIter.at x e
 ·exact Heap.IsTupleIter.at x e
theorem kG.obj(x:kG κ h it a i):∃o,h.get? it=oZ o/\∀v,o.data≠.cell v:=by
 cases κ
 ·obtain⟨o,e,c,d⟩:=x;exact⟨o,e,λv z=>by rw[d]at z;cases z⟩
 ·obtain⟨o,e,c,d⟩:=x;exact⟨o,e,λv z=>by rw[d]at z;cases z⟩
theorem Xq(κ:Bool)(hh:A.handled=none)(it a:fk)(vz:a≠it)(items:Array oA):
  Draws prog w A it [it,a] items.size (λi v=>items[i]?=oZ v) (λi h=>kG κ h it a i/\xY κ h a items):=by
 cases κ
 ·exact Draws.list hh it a vz items
 ·exact Uw hh it a vz items
abbrev OG(h:oE)(a:fk):oE:=h.push { cls:=.type "tuple_iterator",data:=.fields #[.ref a,.int 0 0] }
abbrev OH(h:oE)(a b:fk):oE:=(OG h a).push { cls:=.type "tuple_iterator",data:=.fields #[.ref b,.int 0 0] }
abbrev OI(h:oE)(a b:fk):oE:=(OH h a b).push { cls:=.type "tuple",data:=.seq #[.ref h.objs.size,.ref (OG h a).objs.size] }
abbrev OJ(h:oE)(a b:fk):oE:=(OI h a b).push { cls:=.type "tuple",data:=.seq #[.none,.none] }
abbrev M9(h:oE)(a b:fk):oE:=(OJ h a b).push { cls:=.type "zip",data:=.fields #[.none,.bool false,.bool false,.ref (OH h a b).objs.size,.ref (OI h a b).objs.size] }
theorem M8(a b:fk)(xs ys:Array oA):
  Meets (Builtin.«zip.__new__» ⟨[.type "zip",.ref a,.ref b],[]⟩) (λ_ R s=>s.heap.IsTuple a xs/\s.heap.IsTuple b ys/\R (.ok (.ret (.ref (OJ s.heap a b).objs.size))) { s with heap:=M9 s.heap a b }):=
 .of_wp λprog w A R s h=>by
  obtain⟨hp,g,d,tk,os⟩:=s;obtain⟨ga,gb,h⟩:=h;have aHV:=sub_zip;have gA:Heap.IsTuple (Shared.heap ⟨hp,g,d,tk,os⟩) a xs:=ga;have gB:Heap.IsTuple (Shared.heap ⟨hp.push { cls:=.type "tuple_iterator",data:=.fields #[.ref a,.int 0 0] },g,d,tk,os⟩) b ys:=Heap.IsTuple.push gb _
  wp_walk using ly gA,ly gB
  exact⟨_,rfl,h⟩
theorem Uk{E:oA->oB->Prop}{Q:oA->oB->Prop}(ga:s.heap.IsTuple a xs)(gb:s.heap.IsTuple b ys)(g:∀h',kz h' (s.heap.objs.size+4) (s.heap.objs.size+2) (s.heap.objs.size+3) .none->IsPair h' (s.heap.objs.size+2) (.ref s.heap.objs.size) (.ref (s.heap.objs.size+1))->IsPair h' (s.heap.objs.size+3) .none .none->
   h'.IsTupleIter s.heap.objs.size a 0->h'.IsTupleIter (s.heap.objs.size+1) b 0->(∀c o,s.heap.get? c=oZ o->h'.get? c=oZ o)->Q (.ref (s.heap.objs.size+4)) { s with heap:=h' }):
  fo (ft prog w) A (call (.type "zip") [.ref a,.ref b]) Q E s:=by
 refine callType_new F.called_zip ∅ (F.typeCall_zip_2 _ _) (F.newCall_zip_2 _ _) (λobj=>F.args_object_init_3 obj _ _) F.entry_zip_new (M8 a b xs ys) ⟨ga,gb,?_⟩;have y1:(OG s.heap a).objs.size=s.heap.objs.size+1:=XG ..;have y2:(OH s.heap a b).objs.size=s.heap.objs.size+2:=by rw[XG,y1]
 have y3:(OI s.heap a b).objs.size=s.heap.objs.size+3:=by rw[XG,y2]
 have y4:(OJ s.heap a b).objs.size=s.heap.objs.size+4:=by rw[XG,y3]
 have p4:∀{c:fk}{o:Obj},(OJ s.heap a b).get? c=oZ o->(M9 s.heap a b).get? c=oZ o:=λe=>UY _ e;have p3:∀{c:fk}{o:Obj},(OI s.heap a b).get? c=oZ o->(M9 s.heap a b).get? c=oZ o:=λe=>p4 (UY _ e);have p2:∀{c:fk}{o:Obj},(OH s.heap a b).get? c=oZ o->(M9 s.heap a b).get? c=oZ o:=λe=>p3 (UY _ e);have p1:∀{c:fk}{o:Obj},(OG s.heap a).get? c=oZ o->(M9 s.heap a b).get? c=oZ o:=λe=>p2 (UY _ e);have p0:∀{c:fk}{o:Obj},s.heap.get? c=oZ o->(M9 s.heap a b).get? c=oZ o:=λe=>p1 (UY _ e);have x5:(M9 s.heap a b).get? (OJ s.heap a b).objs.size=oZ _:=VF _ rfl;have x4:(M9 s.heap a b).get? (OI s.heap a b).objs.size=oZ _:=p4 (VF _ rfl);have x3:(M9 s.heap a b).get? (OH s.heap a b).objs.size=oZ _:=p3 (VF _ rfl);have x2:(M9 s.heap a b).get? (OG s.heap a).objs.size=oZ _:=p2 (VF _ rfl);have x1:(M9 s.heap a b).get? s.heap.objs.size=oZ _:=p1 (VF _ rfl);show _/\_;rw[y2,y3,y4]at x5;rw[y1,y2]at x3;rw[y3]at x4;rw[y1]at x2;rw[y4];exact⟨⟨_,x5,rfl⟩,g _ x5 x3 x4 ⟨_,x1,rfl,rfl⟩ ⟨_,x2,rfl,rfl⟩ λc o e=>p0 e⟩
theorem UI(n:Nat):[n+4,n+2,n+3,n,n+1].Nodup:=by
 simp only[WL,UZ,WW,or_false,not_or,fb,and_true,not_false_eq_true]
 lia
theorem TZ(h:c∈[n+4,n+2,n+3,n,n+1]):n<=c:=by
 simp only[UZ,WW,or_false]at h
 lia
section
variable{X:Cx}{pos:Pos}{a b e:oC}{ta tb te:TE}{tc:TT}
def Z9(c:TT):TS:=λD σ H=>c σ H λb H1=>b=true/\D.nx σ H1
theorem Wf(hc:QT X c tc):QS X (.Assert c m pos) (Z9 tc):=⟨by
 intro pins s σ H D I h;exact wpAny_Assert_holds (dP (hc.h pins s σ H _ I h) λb s1 zZ=>by obtain⟨H1,I1,q1⟩:=zZ;exact⟨q1.1,σ,H1,I1,q1.2⟩)⟩
def NL(K:W.Frag)(te:TE)(T1 T2:String):TE:=λσ H Q=>te σ H λx H1=>∃k,Kd K H1 x k/\T1∈AH/\T2∈AH/\∀p,H1 p=none->Q (.bl (wL k T1||wL k T2)) (upd H1 p (.tup [.ty T1,.ty T2]))
theorem x9(I:aW X pins σ H s)(r:bJ x u)(hk:Kd X.K H x k)(hT:T∈AH):s.TypeIs u k/\Answers (λs=>s.TypeIs u k) u (.type T) (wL k T):=by
 simp only[AH,UZ,WW,or_false]at hT;cases hk with
 |non=>
  cases r;refine⟨rfl,?_⟩;obtain rfl|rfl|rfl|rfl|rfl:=hT
  ·exact Answers.of_false_none (by decide +kernel) F.isi_meta_int F.sub_NoneType_int
  ·exact Answers.of_false_none (by decide +kernel) F.isi_meta_bool F.sub_NoneType_bool
  ·exact Answers.of_false_none (by decide +kernel) F.isi_meta_tuple F.sub_NoneType_tuple
  ·exact Answers.of_false_none (by decide +kernel) F.isi_meta_list F.sub_NoneType_list
  ·exact Answers.of_false_none (by decide +kernel) F.isi_meta_str F.sub_NoneType_str
 |bl b=>
  cases r;refine⟨rfl,?_⟩;obtain rfl|rfl|rfl|rfl|rfl:=hT
  ·exact Answers.of_true F.isi_meta_int F.sub_bool_int
  ·exact Answers.of_true F.isi_meta_bool F.sub_bool_bool
  ·exact Answers.of_false_bool (by decide +kernel) F.isi_meta_tuple F.sub_bool_tuple
  ·exact Answers.of_false_bool (by decide +kernel) F.isi_meta_list F.sub_bool_list
  ·exact Answers.of_false_bool (by decide +kernel) F.isi_meta_str F.sub_bool_str
 |int i=>
  obtain⟨t,rfl⟩:=r;refine⟨rfl,?_⟩;obtain rfl|rfl|rfl|rfl|rfl:=hT
  ·exact Answers.of_true F.isi_meta_int F.sub_int_int
  ·exact Answers.of_false_int (by decide +kernel) F.isi_meta_bool F.sub_int_bool
  ·exact Answers.of_false_int (by decide +kernel) F.isi_meta_tuple F.sub_int_tuple
  ·exact Answers.of_false_int (by decide +kernel) F.isi_meta_list F.sub_int_list
  ·exact Answers.of_false_int (by decide +kernel) F.isi_meta_str F.sub_int_str
 |str z=>
  obtain⟨t,rfl⟩:=r;refine⟨rfl,?_⟩;obtain rfl|rfl|rfl|rfl|rfl:=hT
  ·exact Answers.of_false_str (by decide +kernel) F.isi_meta_int F.sub_str_int
  ·exact Answers.of_false_str (by decide +kernel) F.isi_meta_bool F.sub_str_bool
  ·exact Answers.of_false_str (by decide +kernel) F.isi_meta_tuple F.sub_str_tuple
  ·exact Answers.of_false_str (by decide +kernel) F.isi_meta_list F.sub_str_list
  ·exact Answers.of_true F.isi_meta_str F.sub_str_str
 |tup hq=>
  cases r;obtain⟨mq,rv,⟨o,ho,hc,_⟩,_⟩:=I.tuple hq;refine⟨⟨o,ho,hc⟩,?_⟩;obtain rfl|rfl|rfl|rfl|rfl:=hT
  ·exact Answers.of_false_tuple (by decide +kernel) F.isi_meta_int F.sub_tuple_int
  ·exact Answers.of_false_tuple (by decide +kernel) F.isi_meta_bool F.sub_tuple_bool
  ·exact Answers.of_true F.isi_meta_tuple F.sub_tuple_tuple
  ·exact Answers.of_false_tuple (by decide +kernel) F.isi_meta_list F.sub_tuple_list
  ·exact Answers.of_false_tuple (by decide +kernel) F.isi_meta_str F.sub_tuple_str
 |lst hq=>
  cases r;obtain⟨mq,rv,⟨o,n,ho,hc,_⟩,_⟩:=I.list hq;refine⟨⟨o,ho,hc⟩,?_⟩;obtain rfl|rfl|rfl|rfl|rfl:=hT
  ·exact Answers.of_false_list (by decide +kernel) F.isi_meta_int F.sub_list_int
  ·exact Answers.of_false_list (by decide +kernel) F.isi_meta_bool F.sub_list_bool
  ·exact Answers.of_false_list (by decide +kernel) F.isi_meta_tuple F.sub_list_tuple
  ·exact Answers.of_true F.isi_meta_list F.sub_list_list
  ·exact Answers.of_false_list (by decide +kernel) F.isi_meta_str F.sub_list_str
theorem W9(hg:Gl X "isinstance")(hm:X.mg "isinstance" = none)(he:QE X e te)(h1:Gl X x1)(m1:X.mg x1=none)(b1:ij x1=oZ (.type T1))(h2:Gl X x2)(m2:X.mg x2=none)(b2:ij x2=oZ (.type T2))(hs:a8 e=false:=by rfl)(n1:x1≠"__name__":=by decide)(d1:(x1==("__debug__":Str))=false:=by decide)(n2:x2≠"__name__":=by decide)(d2:(x2==("__debug__":Str))=false:=by decide):
  QE X (.Call (.Name "isinstance" p) [e,.Tuple [.Name x1 p1,.Name x2 p2] k p3] [] pos) (NL X.K te T1 T2):=⟨by
 intro pins s σ H Q I h;refine km (m7 I hg hm boot_isinstance ?_);refine PyProof.Rows.callWith_builtin1 ?_ (cD hs) (fL rfl);rw[cD hs];show fo _ _ (spliced ((false,ie e X.env)::jr pos (ig [.Tuple [.Name x1 p1,.Name x2 p2] k p3] X.env))) _ _ s;refine Calls.spliced_cons (dP (he.h pins s σ H _ I h) λu s1 zZ=>?_);obtain⟨x,H1,I1,r1,kk,hk,t1,t2,q⟩:=zZ;rw[cD (e:=.Tuple [.Name x1 p1,.Name x2 p2] k p3) rfl];show fo _ _ (spliced ((false,ie (.Tuple [.Name x1 p1,.Name x2 p2] k p3) X.env)::jr pos (ig [] X.env))) _ _ s1;have both:PA X [.Name x1 p1,.Name x2 p2] (Lb (tC (.ty T1)) (Lb (tC (.ty T2)) IH)):=pc (Gi (v:=.ty T1) h1 m1 b1 rfl n1 d1) (pc (Gi (v:=.ty T2) h2 m2 b2 rfl n2 d2) A8);refine Calls.spliced_cons (wpAny_Tuple_spliced (dP (both p3 pins s1 σ H1 (λvs H2=>vs=[.ty T1,.ty T2]/\H2=H1) I1 ⟨rfl,rfl⟩) λus s2 zZ=>?_));obtain⟨vs,H2,I2,r2,ev,eh⟩:=zZ;subst ev eh;obtain⟨v1,v2,rfl,w1,w2⟩:=bC.two r2;cases w1;cases w2;refine⟨by show 2<=gf;decide,?_⟩;refine Calls.spliced_nil ?_;have hf:H2 s2.heap.objs.size=none:=I2.hok.fresh (VA _);have I3:aW X pins σ (upd H2 s2.heap.objs.size (.tup [.ty T1,.ty T2])) { s2 with heap:=s2.heap.push { cls:=.type "tuple",data:=.seq [Value.type T1,Value.type T2].toArray } }:=
  I2.laid (t':=s2.toks) (λb u e=>UY _ e) (VA _) ⟨by show 2<=gf;decide,[.type T1,.type T2],.cons rfl (.cons rfl .nil),⟨_,VF _ rfl,rfl,_,rfl⟩⟩
 have hk3:Kd X.K (upd H2 s2.heap.objs.size (.tup [.ty T1,.ty T2])) x kk:=by
  have up:∀b o,H2 b=oZ o->upd H2 s2.heap.objs.size (.tup [.ty T1,.ty T2]) b=oZ o:=λb o e=>by rw[aV (a9 e hf)];exact e
  cases hk with
  |non=>exact .non
  |bl b=>exact .bl b
  |int i=>exact .int i
  |str z=>exact .str z
  |tup hq=>
   obtain (hq|⟨o,hq⟩)|hq:=hq
   ·exact .tup (.inl (.inl (up _ _ hq)))
   ·exact .tup (.inl (.inr ⟨o,up _ _ hq⟩))
   ·exact .tup (.inr hq)
  |lst hq=>
   obtain (hq|⟨o,hq⟩)|hq:=hq
   ·exact .lst (.inl (.inl (up _ _ hq)))
   ·exact .lst (.inl (.inr ⟨o,up _ _ hq⟩))
   ·exact .lst (.inr hq)
 obtain⟨g0,g1⟩:=x9 I3 r1 hk3 t1;obtain⟨_,g2⟩:=x9 I3 r1 hk3 t2;refine IsiPair.tupleOf (cs:=[.type T1,.type T2]) (vs:=[wL kk T1,wL kk T2]) ⟨g1,g2,trivial⟩ g0 (VF _ rfl) λtk=>?_;refine⟨.bl (wL kk T1||wL kk T2),_,I3.tok _,?_,q _ hf⟩;show fg ([wL kk T1,wL kk T2].any id)=fg (wL kk T1||wL kk T2);simp⟩
end
def Qi(i j:Int):Prop:=i.natAbs<2^8000/\j.natAbs<2^8000
theorem Qm{a:Int}(h:a.natAbs<2^8000):Builtin.Int.intBits a<=8001:=by
 unfold Builtin.Int.intBits
 split
 ·lia
 ·rename_i h0;have vz:a.natAbs≠0:=by
   intro z;apply h0
   first|exact Int.natAbs_eq_zero.mp z|simp[Int.natAbs_eq_zero.mp z]|lia
  have:=(ZN vz).mpr h
  lia
theorem Qi.ok{i j:Int}(h:Qi i j):IntMulOk i j:=by
 have h1:=Qm h.1;have h2:=Qm h.2;unfold IntMulOk;have:Builtin.Int.intTooBig (Builtin.Int.intBits i+Builtin.Int.intBits j)=false:=by
  unfold Builtin.Int.intTooBig;simp only[decide_eq_false_iff_not];have:(16002:Int)<=bitsLine:=∅
  lia
 rw[this];simp
theorem U5:oP X (jc .Mult) (rI Qi λi j=>.int (i*j)):=IX λ_ _ _ _ _ _ _ hc q=>mul_int q hc.ok
def Bf(i j:Int):Prop:=j≠0/\j.natAbs<2^8000
theorem dU:oP X (jc .FloorDiv) (rI Bf λi j=>.int (i.fdiv j)):=IX λi j _ _ _ _ _ hc q=>by
 obtain⟨h0,h1⟩:=hc;have hl:j.natAbs.log2<9000:=by
  have:=(ZN (show j.natAbs≠0 by lia)).mpr h1
  lia
 exact floordiv_int h0 q (.inl (PyProof.noPylong_of_log2 hl))
theorem uY(ho:QE X o to)(ha:QA X [e] tr)(qg:iq o "append" X.env (ie o X.env)=ie o X.env:=by rfl)(qh:(ap.endLine==pos.line)=true:=by rfl)(hs:a8 e=false:=by rfl):
  QE X (.Call (.Attribute o "append" ap) [e] [] pos) (IZ X.K "list" Gq to tr):=
 ⟨Sb PySem.F.plainAttrs_list PySem.F.slot_list_append PySem.F.type_list_append Cp ho.h ha.h qg (by rw[cD hs];rfl) qh (cD hs) (fL rfl)⟩
theorem Ea:j7 X (.builtin "divmod") (λxs H Q=>∃a b:Int,xs=[.int a,.int b]/\0<b/\b<2^200/\∀p,H p=none->Q (.ref p) (upd H p (.tup [.int (a/b),.int (a%b)]))):=by
 intro pins s σ H xs us Q I r h;obtain⟨a,b,rfl,h0,h1,q⟩:=h;obtain⟨u,v,rfl,rx,ry⟩:=bC.two r;obtain⟨t,rfl⟩:=rx;obtain⟨t',rfl⟩:=ry;have e1:a.fdiv b=a/b:=XE _ ⋯;have e2:a.fmod b=a%b:=ak _ ⋯;have hl:b.natAbs.log2<9000:=by
  have hb:b.natAbs<2^200:=⋯
  have:=(ZN (show b.natAbs≠0 by lia)).mpr hb
  lia
 refine divmod_int ⋯ ?_ (.inl (PyProof.noPylong_of_log2 hl));refine⟨.ref s.heap.objs.size,_,I.laid (o:=.tup [.int (a/b),.int (a%b)]) (t':=s.toks+1+1) (λb u e=>UY _ e) (VA _) ?_,rfl,q _ (I.hok.fresh (VA _))⟩;refine⟨by show 2<=gf;decide,[.int (a.fdiv b) s.toks,.int (a.fmod b) (s.toks+1)],.cons ⟨_,by rw[e1]⟩ (.cons ⟨_,by rw[e2]⟩ .nil),⟨_,VF _ rfl,rfl,_,rfl⟩⟩
def BO:V->List V->Hp->VK->Prop:=λx vs H Q=>∃i:Int,x = .int i/\vs=[]/\Q (.int ((Builtin.Int.intBits i:Nat):Int)) H
theorem R7:IT X "int.bit_length" BO:=by
 intro pins s σ H x vs v us Q I rx rv h;obtain⟨i,rfl,rfl,q⟩:=h;obtain⟨t,rfl⟩:=rx;cases rv;exact call_int_bit_length ⟨.int _,H,I.tok _,⟨_,rfl⟩,q⟩
theorem W7(ho:QE X o to)(qg:iq o "bit_length" X.env (ie o X.env)=ie o X.env:=by rfl)(qh:(ap.endLine==pos.line)=true:=by rfl):
  QE X (.Call (.Attribute o "bit_length" ap) [] [] pos) (AA X.K "int" BO to):=
 ⟨B4 PySem.F.plainAttrs_int PySem.F.slot_int_bit_length PySem.F.type_int_bit_length R7 ho.h qg qh⟩
section
variable{κ:Type}[DecidableEq κ]
def j6(mr:List (κ×V))(k:κ):Option V:=(mr.find? λkv=>decide (kv.1=k)).map (·.2)
def uX(mr:List (κ×V))(k:κ)(v:V):List (κ×V):=
 if(mr.any λkv=>decide (kv.1=k))=true then mr.map (λkv=>if kv.1=k then(kv.1,v)else kv)else mr++[(k,v)]
theorem fN{p:κ×V}(e:p.1=k):j6 (p::r) k=oZ p.2:=by simp[j6,YM,e]
theorem fM{p:κ×V}(e:¬p.1=k):j6 (p::r) k=j6 r k:=by simp[j6,YM,e]
theorem Aj(k:κ):∀mr:List (κ×V),(mr.any λkv=>decide (kv.1=k))=(j6 mr k).isSome
 |[]=>rfl
 |p::r=>by
  rw[ao]
  by_cases e:p.1=k
  ·simp only[fN e,oY e,Bool.true_or,Option.isSome_some]
  ·rw[fM e,oX e,fi];exact Aj k r
theorem Ll(k j:κ)(y:V):∀mr:List (κ×V),j6 (mr.map λkv=>if kv.1=k then(kv.1,y)else kv) j=(j6 mr j).map λx=>if j=k then y else x
 |[]=>rfl
 |p::r=>by
  have ih:=Ll k j y r;rw[WQ]
  by_cases h:p.1=k
  ·rw[oV h]
   by_cases e:p.1=j
   ·rw[fN (p:=(p.1,y)) e,fN e,ZV,oV (e.symm.trans h)]
   ·rw[fM (p:=(p.1,y)) e,fM e,ih]
  ·rw[oW h]
   by_cases e:p.1=j
   ·rw[fN (p:=p) e,fN e,ZV,oW (λz=>h (e.trans z))]
   ·rw[fM (p:=p) e,fM e,ih]
theorem Dj(k j:κ)(y:V):∀mr:List (κ×V),j6 mr k=none->j6 (mr++[(k,y)]) j=if j=k then oZ y else j6 mr j
 |[],_=>by
  by_cases e:k=j
  ·rw[oV e.symm];exact fN (p:=(k,y)) e
  ·rw[oW (λz=>e z.symm)];exact fM (p:=(k,y)) e
 |p::r,hn=>by
  rw[bh];have hk:¬p.1=k:=λz=>by rw[fN z]at hn;cases hn
  rw[fM hk]at hn;have ih:=Dj k j y r hn
  by_cases e:p.1=j
  ·rw[fN e,fN e,oW (λz=>hk (e.trans z))]
  ·rw[fM e,fM e,ih]
theorem M1(mr:List (κ×V))(k j:κ)(y:V):j6 (uX mr k y) j=if j=k then oZ y else j6 mr j:=by
 unfold uX
 by_cases a:(mr.any λkv=>decide (kv.1=k))=true
 ·rw[oV a,Ll];rw[Aj]at a
  by_cases e:j=k
  ·obtain⟨x,hx⟩:=bg.mp a;rw[oV e,e,hx,ZV,oV rfl]
  ·rw[oW e];cases j6 mr j with
   |none=>rfl
   |some x=>rw[ZV,oW e]
 ·rw[oW a];refine Dj k j y mr ?_;rw[Aj]at a;cases q:j6 mr k with
  |none=>rfl
  |some x=>rw[q]at a;exact(a rfl).elim
theorem wB(mr:List (κ×V))(k:κ)(v:V):(uX mr k v).length<=mr.length+1:=by
 unfold uX
 split
 ·rw[UX];lia
 ·rw[UT,VQ,df];lia
theorem Ap.isSome_eq(r:Ap o u):o.isSome=u.isSome:=by
 cases o with
 |none=>cases u with
  |none=>rfl
  |some _=>exact(show False from r).elim
 |some _=>cases u with
  |none=>exact(show False from r).elim
  |some _=>rfl
theorem KV.val(r:KV mr vs)(k:κ):Ap (j6 mr k) (valueAt vs k):=by
 unfold KV at r
 induction r with
 |nil=>exact True.intro
 |@cons p q ps qs h t ih=>
  obtain⟨h1,h2⟩:=h
  by_cases e:p.1=k
  ·have e':q.1=k:=h1.symm.trans e;have b:valueAt (q::qs) k=oZ q.2:=by simp[valueAt,YM,e']
   rw[fN e,b];exact h2
  ·have e':¬q.1=k:=λz=>e (h1.trans z);have b:valueAt (q::qs) k=valueAt qs k:=by simp[valueAt,YM,e']
   rw[fM e,b];exact ih
theorem KV.any(r:KV mr vs)(k:κ):(mr.any λkv=>decide (kv.1=k))=vs.any λkv=>decide (kv.1=k):=by
 unfold KV at r
 induction r with
 |nil=>rfl
 |cons h t ih=>rw[ao,ao,ih,h.1]
theorem KV.repl(r:KV mr vs)(k:κ)(ry:bJ y u):
  KV (mr.map λkv=>if kv.1=k then(kv.1,y)else kv) (vs.map λkv=>if kv.1=k then(kv.1,u)else kv):=by
 unfold KV at r⊢
 induction r with
 |nil=>exact .nil
 |@cons p q ps qs h t ih=>
  rw[WQ,WQ];refine .cons ?_ ih;obtain⟨h1,h2⟩:=h
  by_cases e:p.1=k
  ·rw[oV e,oV (h1.symm.trans e)];exact⟨h1,ry⟩
  ·rw[oW e,oW (λz=>e (h1.trans z))];exact⟨h1,h2⟩
theorem KV.put(r:KV mr vs)(k:κ)(ry:bJ y u):KV (uX mr k y) (stored vs k u):=by
 unfold uX stored;rw[r.any k]
 by_cases e:(vs.any λkv=>decide (kv.1=k))=true
 ·rw[oV e,oV e];exact r.repl k ry
 ·rw[oW e,oW e];exact Paired.snoc r ⟨rfl,ry⟩
theorem KV.length(r:KV mr vs):mr.length=vs.length:=Paired.length r
end
theorem Jg(r:bJ (kV k) u):(fU P w).is k u=true:=by
 cases k with
 |inl i=>obtain⟨t,e⟩:=(show ∃t,u=Value.int i t from r);subst e;exact Ji P w i t
 |inr x=>obtain⟨t,e⟩:=(show ∃t,u=YK x t from r);subst e;exact fE P w x t
theorem Ck:∀{ks:List Key}{us:List oA},bC (ks.map kV) us->ItemsAre (fU P w) ks us
 |[],_,r=>by rw[List.map_nil]at r;cases r;exact .nil
 |k::ks,_,r=>by
  rw[WQ]at r;cases r with
  |cons h t=>exact .cons (Jg h) (Ck t)
abbrev OR(H:Hp):List (List Key×V)->List (List Key×fk×oA)->Prop:=Paired λp q=>p.1=q.1/\H q.2.1=oZ (.tup (p.1.map kV))/\bJ p.2 q.2.2
theorem OR.val(r:OR H mr xs)(k:List Key):Ap (j6 mr k) ((atKey xs k).map (·.2)):=by
 induction r with
 |nil=>exact True.intro
 |@cons p q ps qs h t ih=>
  obtain⟨h1,_,h2⟩:=h
  by_cases e:p.1=k
  ·have e':q.1=k:=h1.symm.trans e;have b:atKey (q::qs) k=oZ q.2:=by simp[atKey,YM,e']
   rw[fN e,b];exact h2
  ·have e':¬q.1=k:=λz=>e (h1.trans z);have b:atKey (q::qs) k=atKey qs k:=by simp[atKey,YM,e']
   rw[fM e,b];exact ih
theorem D8(ok:qY P w H h)(e:Rd H a u):eH P w H h a u:=e.ok ok
theorem Qu(ok:qY P w H h)(e:Rd H a (.dK mr)):mr.length<=gf/\(a==jw)=false/\∃vs,KV mr vs/\h.DictOf (fU P w) a vs:=
 show eH P w H h a (.dK mr)from D8 ok e
theorem JQ(ok:qY P w H h)(e:H a=oZ (.dK mr)):mr.length<=gf/\(a==jw)=false/\∃vs,KV mr vs/\h.DictOf (fU P w) a vs:=Qu ok (.inl e)
theorem Ng(ok:qY P w H h)(e:H a=oZ (.tup (ks.map kV))):(tupleKind (fU P w)).is h ks a:=by
 obtain⟨_,mq,r,o,h1,h2,n,h3⟩:=(show eH P w H h a (.tup (ks.map kV))from ok a _ e);exact⟨o,mq.toArray,n,h1,h2,h3,by simpa using Ck r⟩
theorem Xv(ok:qY P w H h)(e:Rd H a (.dT mr)):mr.length<=gf/\(a==jw)=false/\
  ∃xs,OR H mr xs/\h.DictOfH (tupleKind (fU P w)) a xs:=by
 obtain⟨z,y,xs,r,o,es,ep,h1,h2,h3,h4,h5⟩:=(show eH P w H h a (.dT mr)from D8 ok e);refine⟨z,y,xs,r,o,es,ep,h1,h2,h3,h4,λx hx=>?_,h5⟩;have all:∀{l:List (List Key×V)}{m:List (List Key×fk×oA)},OR H l m->∀x∈m,(tupleKind (fU P w)).is h x.1 x.2.1:=by
  intro l m q
  induction q with
  |nil=>intro x hx;exact nomatch hx
  |@cons p q ps qs hq t ih=>
   intro x hx;obtain e|hx:=UZ.mp hx
   ·subst e;exact Ng ok (by rw[<-hq.1];exact hq.2.1)
   ·exact ih x hx
 exact all r x hx
def Dl(H:Hp)(a:fk)(y:V)(r:Option V):Prop:=
 (∃mr k,Rd H a (.dK mr)/\y=kV k/\r=j6 mr k)\/∃mr k b,Rd H a (.dT mr)/\y = .ref b/\H b=oZ (.tup (k.map kV))/\r=j6 mr k
theorem Dl.k{H:Hp}{a:fk}{mr:List (Key×V)}{k:Key}(e:H a=oZ (.dK mr)):Dl H a (kV k) (j6 mr k):=.inl ⟨mr,k,.inl e,rfl,rfl⟩
theorem aW.big(I:aW X pins σ H s):jw<s.heap.objs.size:=by
 have h:gj<s.heap.objs.size:=(I.mod.glob.keeps I.bk).lt;exact Nat.lt_trans ∅ h
theorem Uu{E:oA->oB->Prop}{Q:oA->oB->Prop}(hu:A.units+1<kq)(I:aW X pins σ H s)(g:Dl H a y (oZ v))(ry:bJ y u)(h:∀w' s',aW X pins σ H s'->bJ v w'->Q w' s'):
  fo (ft X.prog X.w) A (kc (.ref a) u) Q E s:=by
 obtain⟨mr,k,e,ey,l⟩|⟨mr,k,b,e,ey,eb,l⟩:=g
 ·subst ey;obtain⟨z,hd,vs,rel,dd⟩:=Qu I.hok e;obtain⟨w',hw,rw'⟩:=Ap.some_of (v:=v) (o:=valueAt vs k) (by rw[l];exact rel.val k);exact wpAny_getItem_of (Jg ry) dd.mapOf hw (h w' _ (I.tok _) rw')
 ·subst ey;cases(show u=WR b from ry);obtain⟨z,hd,xs,rel,dd⟩:=Xv I.hok e;obtain⟨w',hw,rw'⟩:=Ap.some_of (v:=v) (o:=(atKey xs k).map (·.2)) (by rw[l];exact rel.val k);obtain⟨p,hp,hp2⟩:=VP.mp hw;refine wpAny_getItem_heap (tupleKind_room_in1 hu) (Ng I.hok eb) dd hp ?_;rw[hp2];exact h w' _ (I.tok _) rw'
theorem PX{E:oA->oB->Prop}{Q:oA->oB->Prop}(hu:A.units+1<kq)(I:aW X pins σ H s)(g:Dl H a y o)(ry:bJ y u)(h:∀s',aW X pins σ H s'->Q (.bool o.isSome) s'):
  fo (ft X.prog X.w) A (ja .In u (.ref a)) Q E s:=by
 obtain⟨mr,k,e,ey,l⟩|⟨mr,k,b,e,ey,eb,l⟩:=g
 ·subst ey;obtain⟨z,hd,vs,rel,dd⟩:=Qu I.hok e;refine wpAny_in_of (Jg ry) hd dd.mapOf ?_;rw[<-(rel.val k).isSome_eq,<-l];exact h _ (I.tok _)
 ·subst ey;cases(show u=WR b from ry);obtain⟨z,hd,xs,rel,dd⟩:=Xv I.hok e;refine wpAny_in_heap (tupleKind_room_in1 hu) (Ng I.hok eb) hd dd ?_;have q:=(rel.val k).isSome_eq;rw[Option.isSome_map]at q;rw[<-q,<-l];exact h _ (I.tok _)
theorem P0(I:aW X pins σ H s)(mu:JE (H a))(hs:YS a s.heap h')(he:∃q,h'.get? a=oZ q)(new:eH X.prog X.w (upd H a ob) h' a ob):
  aW X pins σ (upd H a ob) { s with heap:=h',toks:=t' }:=
 I.write (x:=a) (e:=a) mu (.inl rfl) (λb q hb z=>(hs.2 b hb).trans z) he new
theorem DS(z:mr.length<=gf)(hd:(a==jw)=false)(rel:KV mr vs)(dd:h'.DictOf (fU P w) a vs):
  eH P w H' h' a (.dK mr):=⟨z,hd,vs,rel,dd⟩
def Xd(i:oC):Prop:=∀ov iv,ky i false ov iv=operate [ov,iv] (kc ov iv)
theorem Sv{prog:fu}{w:gn}{A:oD}{E:oA->oB->Prop}{s:oB}{env:Env}{value slice:oC}{pos:Pos}{T id:String}{Q:oA->oB->Prop}
  (hl:typeLookup (.type T) "__getitem__" = pure (oZ (.builtin id))) (hs:Xd slice)
  (h:fo (ft prog w) A (ie value env) (λo s₁=>fo (ft prog w) A (ie slice env) (λi s₂=>s₂.TypeIs o T/\fo (ft prog w) A (kc o i) Q E s₂) E s₁) E s) :
  fo (ft prog w) A (ie (.Subscript value slice pos) env) Q E s:=by
 refine Subscript_ (ji h (λo s₁ h₁=>ji h₁ (λi s₂ h₂=>?_) λ_ _ x=>x) λ_ _ x=>x);obtain⟨hT,h₂⟩:=h₂;unfold subscriptTail;refine fm ?_;rw[getitemInPython_of_ne hT.not_modules];refine fm (wpAny_specialOf hT hl ?_);have fin:fo (ft prog w) A (ky slice false o i) (λr s₃=>fo (ft prog w) A (letTemporaryGo value o r >>= λ_=>pure r) Q E s₃) E s₂:=by
  rw[hs o i];exact wpAny_operating (ji h₂ (λr s₃ h₃=>fm (wpAny_letTemporaryGo (fz h₃))) λ_ _ x=>x)
 first
  |exact fz (fm fin)
  |exact fm (fz (fm fin))
  |exact fm fin
theorem Iy(I:aW X pins σ H s)(g:Dl H a y o):s.TypeIs (.ref a) "dict":=by
 obtain⟨mr,k,e,_,_⟩|⟨mr,k,b,e,_,_,_⟩:=g
 ·obtain⟨_,_,vs,_,dd⟩:=Qu I.hok e;exact dd.typeIs
 ·obtain⟨_,_,xs,_,dd⟩:=Xv I.hok e;exact dd.typeIs
def BZ(td ty:TE):TE:=λσ H Q=>td σ H λx H1=>ty σ H1 λy H2=>∃a v,x = .ref a/\Dl H2 a y (oZ v)/\Q v H2
def NG(ty td:TE):TE:=λσ H Q=>ty σ H λy H1=>td σ H1 λx H2=>∃a o,x = .ref a/\Dl H2 a y o/\Q (.bl o.isSome) H2
theorem V1(hu:X.A.units+1<kq)(ho:PE X o td)(hi:PE X i ty)(hs:Xd i):PE X (.Subscript o i pos) (BZ td ty):=by
 intro pins s σ H Q I h;refine Sv PySem.F.slot_dict_getitem.lookup hs (dP (ho pins s σ H _ I h) λu s1⟨x,H1,I1,rx,q1⟩=>dP (hi pins s1 σ H1 _ I1 q1) λiv s2 zZ=>?_);obtain⟨y,H2,I2,ry,a,v,ex,g,q2⟩:=zZ;subst ex;obtain rfl:u=WR a:=rx;exact⟨Iy I2 g,Uu hu I2 g ry λw' s3 I3 rw'=>⟨v,H2,I3,rw',q2⟩⟩
theorem GJ(hu:X.A.units+1<kq)(hi:PE X i ty)(ho:PE X o td):PC X .In i o (NG ty td):=by
 intro pins s σ H Q I h;refine dP (hi pins s σ H _ I h) λiv s1⟨y,H1,I1,ry,q1⟩=>dP (ho pins s1 σ H1 _ I1 q1) λu s2 zZ=>?_;obtain⟨x,H2,I2,rx,a,ov,ex,g,q2⟩:=zZ;subst ex;obtain rfl:u=WR a:=rx;exact PX hu I2 g ry λs3 I3=>⟨.bl ov.isSome,H2,I3,rfl,q2⟩
theorem Xp(h:oE)(hb:jw<h.objs.size):eH P w H (h.push { cls:=.type "dict",data:=.dict #[] }) h.objs.size (.dK []):=
 ⟨UU _,beq_eq_false_iff_ne.mpr (Ne.symm (VY hb)),[],.nil,Heap.DictOf.new h⟩
inductive T where
 |non|bl (b:Bool)|int (i:Int)|str (x:Str)|tup (xs:List T)|lst (xs:List T)
inductive U where
 |p (t:T)|o (k:Bool) (xs:List T)
abbrev En:=List (Option U)
inductive R where
 |p (t:T)|s (i:Nat)
def KT(K:W.Frag)(a:fk)(xs:List V):Prop:=∃(o:Obj)(mq:Array oA)(n:Nat),K.lookup a=oZ o/\o.cls = .type "tuple"/\o.data = .seq mq n/\mq.size<=gf/\bC xs mq.toList
def KL(K:W.Frag)(a:fk)(xs:List V):Prop:=∃(o:Obj)(mq:Array oA)(n:Nat),K.lookup a=oZ o/\o.cls = .type "list"/\o.dict=none/\o.data = .seq mq n/\mq.size<=gf/\bC xs mq.toList
mutual
def Rp(K:W.Frag)(H:Hp)(O:fk->Prop):T->V->Prop
 |.non,v=>v = .non
 |.bl b,v=>v = .bl b
 |.int i,v=>v = .int i
 |.str x,v=>v = .str x
 |.tup xs,v=>∃a vs,v = .ref a/\((¬O a/\H a=oZ (.tup vs))\/KT K a vs)/\cP K H O xs vs
 |.lst xs,v=>∃a vs,v = .ref a/\((¬O a/\Rd H a (.lst vs))\/KL K a vs)/\cP K H O xs vs
def cP(K:W.Frag)(H:Hp)(O:fk->Prop):List T->List V->Prop
 |[],vs=>vs=[]
 |x::xs,vs=>∃v r,vs=v::r/\Rp K H O x v/\cP K H O xs r
end
structure Kp(O O':fk->Prop)(H H':Hp):Prop where
 keep:∀b o,H b=oZ o->¬O b->H' b=oZ o
 new:∀b,O' b->O b\/H b=none
theorem Kp.tup{O O':fk->Prop}(k:Kp O O' H H')(h:¬O a/\H a=oZ u):¬O' a/\H' a=oZ u:=by
 obtain⟨n,h⟩:=h;refine⟨λz=>?_,k.keep _ _ h n⟩;obtain z|z:=k.new a z
 ·exact n z
 ·rw[h]at z;cases z
theorem Rd.step{O O':fk->Prop}(k:Kp O O' H H')(h:¬O a/\Rd H a u):¬O' a/\Rd H' a u:=by
 obtain⟨n,h⟩:=h;obtain h|⟨o,h⟩:=h
 ·refine⟨λz=>?_,.inl (k.keep _ _ h n)⟩;obtain z|z:=k.new a z
  ·exact n z
  ·rw[h]at z;cases z
 ·refine⟨λz=>?_,.inr ⟨o,k.keep _ _ h n⟩⟩;obtain z|z:=k.new a z
  ·exact n z
  ·rw[h]at z;cases z
section
variable{K:W.Frag}{H H':Hp}{O O':fk->Prop}
mutual
theorem Rp.step(k:Kp O O' H H'):∀{t:T}{v:V},Rp K H O t v->Rp K H' O' t v
 |.non,_,h=>h
 |.bl _,_,h=>h
 |.int _,_,h=>h
 |.str _,_,h=>h
 |.tup xs,v,h=>by
  obtain⟨a,vs,e,h1,h2⟩:=h;exact⟨a,vs,e,h1.imp (Kp.tup k) id,cP.step k h2⟩
 |.lst xs,v,h=>by
  obtain⟨a,vs,e,h1,h2⟩:=h;exact⟨a,vs,e,h1.imp (Rd.step k) id,cP.step k h2⟩
theorem cP.step(k:Kp O O' H H'):∀{xs:List T}{vs:List V},cP K H O xs vs->cP K H' O' xs vs
 |[],_,h=>h
 |x::xs,vs,h=>by
  obtain⟨v,r,e,h1,h2⟩:=h;exact⟨v,r,e,Rp.step k h1,cP.step k h2⟩
end
theorem Kp.refl(O:fk->Prop)(H:Hp):Kp O O H H:=⟨λ_ _ h _=>h,λ_ h=>.inl h⟩
theorem Kp.less(h:∀b,O' b->O b):Kp O O' H H:=⟨λ_ _ h _=>h,λ_ z=>.inl (h _ z)⟩
theorem Kp.trans{O'':fk->Prop}(a:Kp O O' H H')(b:Kp O' O'' H' H''):Kp O O'' H H'':=by
 refine⟨λc o h n=>b.keep c o (a.keep c o h n) λz=>?_,λc h=>?_⟩
 ·obtain z|z:=a.new c z
  ·exact n z
  ·rw[h]at z;cases z
 ·obtain z|z:=b.new c h
  ·exact a.new c z
  ·by_cases n:O c
   ·exact .inl n
   ·right
    cases q:H c with
    |none=>rfl
    |some o=>rw[a.keep c o q n]at z;cases z
theorem Kp.upd(h:H a=none):Kp O O H (upd H a o):=⟨λb u e _=>by rw[aV (a9 e h)];exact e,λ_ z=>.inl z⟩
theorem cP.length:∀{xs:List T}{vs:List V},cP K H O xs vs->vs.length=xs.length
 |[],_,h=>by cases h;rfl
 |_::_,_,h=>by
  obtain⟨v,r,e,_,h2⟩:=h;rw[e,VQ,VQ,cP.length h2]
theorem cP.get:∀{xs:List T}{vs:List V}{i:Nat}{x:T},cP K H O xs vs->xs[i]?=oZ x->∃v,vs[i]?=oZ v/\Rp K H O x v
 |[],_,_,_,_,e=>by simp at e
 |_::_,_,0,_,⟨v,r,e,h1,_⟩,q=>by simp at q;subst q;subst e;exact⟨v,rfl,h1⟩
 |_::_,_,i+1,x,⟨v,r,e,_,h2⟩,q=>by
  obtain⟨w,q1,q2⟩:=cP.get (i:=i) (x:=x) h2 (by simpa using q);subst e;exact⟨w,by simpa using q1,q2⟩
theorem cP.append:∀{xs ys:List T}{vs ws:List V},cP K H O xs vs->cP K H O ys ws->cP K H O (xs++ys) (vs++ws)
 |[],_,_,_,h,k=>by cases h;exact k
 |_::_,_,_,_,⟨v,r,e,h1,h2⟩,k=>by subst e;exact⟨v,_,rfl,h1,cP.append h2 k⟩
theorem cP.set(h:Rp K H O x v):∀{xs:List T}{vs:List V}(i:Nat),cP K H O xs vs->cP K H O (xs.set i x) (vs.set i v)
 |[],_,_,k=>by cases k;exact rfl
 |_::_,_,0,⟨u,r,e,h1,h2⟩=>by subst e;exact⟨v,_,rfl,h,h2⟩
 |_::_,_,i+1,⟨u,r,e,h1,h2⟩=>by subst e;exact⟨u,_,rfl,h1,cP.set h i h2⟩
theorem cP.take:∀{xs:List T}{vs:List V}(n:Nat),cP K H O xs vs->cP K H O (xs.take n) (vs.take n)
 |_,_,0,_=>by simp[cP]
 |[],_,_+1,h=>by cases h;exact rfl
 |_::_,_,n+1,⟨v,r,e,h1,h2⟩=>by subst e;exact⟨v,_,rfl,h1,cP.take n h2⟩
theorem cP.drop:∀{xs:List T}{vs:List V}(n:Nat),cP K H O xs vs->cP K H O (xs.drop n) (vs.drop n)
 |_,_,0,h=>h
 |[],_,_+1,h=>by cases h;exact rfl
 |_::_,_,n+1,⟨v,r,e,h1,h2⟩=>by subst e;exact cP.drop n h2
theorem cP.reverse:∀{xs:List T}{vs:List V},cP K H O xs vs->cP K H O xs.reverse vs.reverse
 |[],_,h=>by cases h;exact rfl
 |_::_,_,⟨v,r,e,h1,h2⟩=>by
  subst e;rw[YE,YE];exact(cP.reverse h2).append ⟨v,[],rfl,h1,rfl⟩
theorem Rp.sqT(h:Rp K H O (.tup xs) v):∃a vs,v = .ref a/\xZ K H a vs/\cP K H O xs vs:=by
 obtain⟨a,vs,e,h1,h2⟩:=h;exact⟨a,vs,e,h1.imp (λh=>.inl h.2) id,h2⟩
theorem Rp.sqL(h:Rp K H O (.lst xs) v):∃a vs,v = .ref a/\k9 K H a vs/\cP K H O xs vs:=by
 obtain⟨a,vs,e,h1,h2⟩:=h;exact⟨a,vs,e,h1.imp And.right id,h2⟩
end
def Ow(B:fk->Prop)(S:St)(E:En)(a:fk):Prop:=B a\/∃(i:Nat)(k:Bool)(xs:List T),E[i]?=oZ (oZ (.o k xs))/\S[i]?=oZ (oZ (.ref a))
structure RE(K:W.Frag)(B:fk->Prop)(H:Hp)(S:St)(E:En):Prop where
 len:S.length=E.length
 pure:∀(i:Nat)(t:T),E[i]?=oZ (oZ (.p t))->∃v,S[i]?=oZ (oZ v)/\Rp K H (Ow B S E) t v
 own:∀(i:Nat)(k:Bool)(xs:List T),E[i]?=oZ (oZ (.o k xs))->∃a vs,S[i]?=oZ (oZ (.ref a))/\H a=oZ (.lst vs)/\cP K H (Ow B S E) xs vs/\(k=true↔B a)
 inj:∀(i j:Nat)(k l:Bool)(xs ys:List T)(a:fk),E[i]?=oZ (oZ (.o k xs))->E[j]?=oZ (oZ (.o l ys))->S[i]?=oZ (oZ (.ref a))->S[j]?=oZ (oZ (.ref a))->i=j
 bd:∀a,B a->∃vs,H a=oZ (.lst vs)
theorem RE.ow{K:W.Frag}{B:fk->Prop}{H:Hp}{S:St}{E:En}(r:RE K B H S E){a:fk}(h:Ow B S E a):∃vs,H a=oZ (.lst vs):=by
 obtain h|⟨i,k,xs,h1,h2⟩:=h
 ·exact r.bd a h
 obtain⟨a',vs,h3,h4,_⟩:=r.own i k xs h1;rw[h2]at h3;cases h3;exact⟨vs,h4⟩
theorem RE.nn{K:W.Frag}{B:fk->Prop}{H:Hp}{S:St}{E:En}(r:RE K B H S E){a:fk}(h:H a=none):¬Ow B S E a:=λz=>by
 obtain⟨ws,e⟩:=r.ow z;rw[h]at e;cases e
theorem RE.step{K:W.Frag}{B:fk->Prop}{H:Hp}{H':Hp}{S:St}{E:En}{E':En}(r:RE K B H S E)(k:∀b o,H b=oZ o->¬Ow B S E b->H' b=oZ o)(hl:E'.length=E.length)(hp:∀(i:Nat)(t:T),E'[i]?=oZ (oZ (.p t))->E[i]?=oZ (oZ (.p t)))(ho:∀(i:Nat)(k:Bool)(xs':List T),E'[i]?=oZ (oZ (.o k xs'))->∃xs,E[i]?=oZ (oZ (.o k xs))/\∀a,S[i]?=oZ (oZ (.ref a))->∃vs,H' a=oZ (.lst vs)/\cP K H' (Ow B S E) xs' vs)(hb:∀a,B a->∃vs,H' a=oZ (.lst vs)):RE K B H' S E':=by
 have ow:∀b,Ow B S E' b->Ow B S E b:=λb z=>by
  obtain z|⟨i,k,xs,h1,h2⟩:=z
  ·exact .inl z
  obtain⟨ys,h3,_⟩:=ho i k xs h1;exact .inr ⟨i,k,ys,h3,h2⟩
 have kp:Kp (Ow B S E) (Ow B S E') H H':=⟨k,λb z=>.inl (ow b z)⟩;refine⟨by rw[hl];exact r.len,λi t h=>?_,λi k xs h=>?_,λi j k l xs ys a h1 h2 h3 h4=>?_,hb⟩
 ·obtain⟨v,h1,h2⟩:=r.pure i t (hp i t h);exact⟨v,h1,h2.step kp⟩
 ·obtain⟨ys,h1,h2⟩:=ho i k xs h;obtain⟨a,vs,h3,_,_,h6⟩:=r.own i k ys h1;obtain⟨ws,h7,h8⟩:=h2 a h3;exact⟨a,ws,h3,h7,h8.step (Kp.less ow),h6⟩
 ·obtain⟨_,q1,_⟩:=ho i k xs h1;obtain⟨_,q2,_⟩:=ho j l ys h2;exact r.inj i j k l _ _ a q1 q2 h3 h4
theorem RE.kept{K:W.Frag}{B:fk->Prop}{H:Hp}{H':Hp}{S:St}{E:En}(r:RE K B H S E)(k:∀b o,H b=oZ o->H' b=oZ o):RE K B H' S E:=
 r.step (λb o h _=>k b o h) rfl (λ_ _ h=>h) (λi l xs h=>⟨xs,h,λa ha=>by
  obtain⟨a',vs,h1,h2,h3,_⟩:=r.own i l xs h;rw[ha]at h1;cases h1;exact⟨vs,k _ _ h2,h3.step ⟨λb o e _=>k b o e,λb z=>.inl z⟩⟩⟩) (λa h=>let⟨vs,q⟩:=r.bd a h;⟨vs,k _ _ q⟩)
theorem RE.take{K:W.Frag}{B:fk->Prop}{H:Hp}{S:St}{E:En}(r:RE K B H S E)(n:Nat):RE K B H (S.take n) (E.take n):=by
 have gE:∀{i:Nat}{x:Option U},(E.take n)[i]?=oZ x->E[i]?=oZ x/\i<n:=λ{i x}h=>by
  by_cases c:i<n
  ·rw[WY c]at h;exact⟨h,c⟩
  ·rw[YC ⋯]at h;cases h
 have gS:∀{i:Nat}{x:Option V},i<n->S[i]?=oZ x->(S.take n)[i]?=oZ x:=λ{i x}c h=>by rw[WY c];exact h
 have zl:∀{i:Nat}{x:Option V},(S.take n)[i]?=oZ x->S[i]?=oZ x:=λ{i x}h=>by
  by_cases c:i<n
  ·rw[WY c]at h;exact h
  ·rw[YC ⋯]at h;cases h
 have ow:∀b,Ow B (S.take n) (E.take n) b->Ow B S E b:=λb z=>z.imp id λzZ=>by obtain⟨i,k,xs,h1,h2⟩:=zZ;exact⟨i,k,xs,(gE h1).1,zl h2⟩
 refine⟨by rw[WE,WE,r.len],λi t h=>?_,λi k xs h=>?_,λi j k l xs ys a h1 h2 h3 h4=>?_,r.bd⟩
 ·obtain⟨v,h1,h2⟩:=r.pure i t (gE h).1;exact⟨v,gS (gE h).2 h1,h2.step (Kp.less ow)⟩
 ·obtain⟨a,vs,h1,h2,h3,h4⟩:=r.own i k xs (gE h).1;exact⟨a,vs,gS (gE h).2 h1,h2,h3.step (Kp.less ow),h4⟩
 ·exact r.inj i j k l xs ys a (gE h1).1 (gE h2).1 (zl h3) (zl h4)
def RR(K:W.Frag)(B:fk->Prop)(H:Hp)(S:St)(E:En):R->V->Prop
 |.p t,v=>Rp K H (Ow B S E) t v
 |.s i,v=>S[i]?=oZ (oZ v)
def Tz(K:W.Frag)(B:fk->Prop)(H:Hp)(S:St)(E:En):List R->List V->Prop
 |[],vs=>vs=[]
 |r::rs,vs=>∃v ws,vs=v::ws/\RR K B H S E r v/\Tz K B H S E rs ws
structure Gr(B:fk->Prop)(H:Hp)(S:St)(E:En)(H':Hp)(S':St)(E':En):Prop where
 kp:Kp (Ow B S E) (Ow B S' E') H H'
 pre:∃τ,S'=S++τ
theorem Gr.refl{B:fk->Prop}:Gr B H S E H S E:=⟨Kp.refl _ _,[],by simp⟩
theorem Gr.trans{B:fk->Prop}(a:Gr B H S E H1 S1 E1)(b:Gr B H1 S1 E1 H2 S2 E2):Gr B H S E H2 S2 E2:=by
 obtain⟨t,e⟩:=a.pre;obtain⟨u,f⟩:=b.pre;exact⟨a.kp.trans b.kp,t++u,by rw[f,e,VH]⟩
theorem fW{S S':St}(h:∃τ,S'=S++τ){i:Nat}{x:Option V}(e:S[i]?=oZ x):S'[i]?=oZ x:=by
 obtain⟨t,rfl⟩:=h;rw[VO (UO.mp e).1];exact e
section
variable{K:W.Frag}{B:fk->Prop}{H H':Hp}{S S':St}{E E':En}{σ:St}
theorem RR.step(g:Gr B H S E H' S' E')(h:RR K B H S E r v):RR K B H' S' E' r v:=by
 cases r with
 |p t=>exact Rp.step g.kp h
 |s i=>exact fW g.pre h
theorem Tz.step(g:Gr B H S E H' S' E'):∀{rs:List R}{vs:List V},Tz K B H S E rs vs->Tz K B H' S' E' rs vs
 |[],_,h=>h
 |_::_,_,⟨v,ws,e,h1,h2⟩=>⟨v,ws,e,h1.step g,Tz.step g h2⟩
def Lk(K:W.Frag)(B:fk->Prop)(H:Hp)(S:St)(E:En)(Q':R->En->Prop)(Q:VK):Prop:=∀r E' v H' S',Q' r E'->Gr B H S E H' S' E'->RE K B H' S' E'->RR K B H' S' E' r v->Q v H'
def TM(K:W.Frag)(n:Nat)(B:fk->Prop)(H:Hp)(S:St)(E:En)(Q':List R->En->Prop)(Q:List V->Hp->Prop):Prop:=∀rs E' vs H' S',Q' rs E'->Gr B H S E H' S' E'->RE K B H' S' E'->Tz K B H' S' E' rs vs->vs.length=n->Q vs H'
theorem Lk.step{Q':R->En->Prop}(l:Lk K B H S E Q' Q)(g:Gr B H S E H' S' E'):Lk K B H' S' E' Q' Q:=λr E2 v H2 S2 q g2=>l r E2 v H2 S2 q (g.trans g2)
end
abbrev FE:=En->(R->En->Prop)->Prop
abbrev FA:=En->(List R->En->Prop)->Prop
abbrev FB:=En->(Bool->En->Prop)->Prop
def aH(K:W.Frag)(F:FE):TE:=λσ H Q=>∃B S E Q',(∃τ,S=σ++τ)/\RE K B H S E/\F E Q'/\Lk K B H S E Q' Q
def cM(K:W.Frag)(n:Nat)(F:FA):TA:=λσ H Q=>∃B S E Q',(∃τ,S=σ++τ)/\RE K B H S E/\F E Q'/\TM K n B H S E Q' Q
def i8(K:W.Frag)(F:FB):TT:=λσ H Q=>∃B S E Q',(∃τ,S=σ++τ)/\RE K B H S E/\F E Q'/\∀b E' H' S',Q' b E'->Gr B H S E H' S' E'->RE K B H' S' E'->Q b H'
theorem QE.le(h:QE X e t)(m:∀σ H Q,σ.length=X.N.length->t' σ H Q->t σ H Q):QE X e t':=⟨λpins s σ H Q I z=>h.h pins s σ H Q I (m σ H Q I.len z)⟩
theorem QA.le(h:QA X es t)(m:∀σ H Q,t' σ H Q->t σ H Q):QA X es t':=⟨λpos pins s σ H Q I z=>h.h pos pins s σ H Q I (m σ H Q z)⟩
theorem QT.le(h:QT X e t)(m:∀σ H Q,t' σ H Q->t σ H Q):QT X e t':=⟨λpins s σ H Q I z=>h.h pins s σ H Q I (m σ H Q z)⟩
theorem QW.le(h:QW X e t)(m:∀σ H Q,t' σ H Q->t σ H Q):QW X e t':=⟨λwh pins s σ H Q I z=>h.h wh pins s σ H Q I (m σ H Q z)⟩
def vl(E:En):R->Option T
 |.p t=>oZ t
 |.s i=>match E[i]? with
  |some (oZ (.o _ xs))=>oZ (.lst xs)
  |some (oZ (.p t))=>oZ t
  |_=>none
def Rt(K:W.Frag)(H:Hp)(O:fk->Prop):T->V->Prop
 |.tup xs,v=>∃a vs,v = .ref a/\xZ K H a vs/\cP K H O xs vs
 |.lst xs,v=>∃a vs,v = .ref a/\k9 K H a vs/\cP K H O xs vs
 |t,v=>Rp K H O t v
theorem Rp.rt{K:W.Frag}{H:Hp}{O:fk->Prop}{t:T}{v:V}(h:Rp K H O t v):Rt K H O t v:=by
 cases t with
 |tup xs=>exact h.sqT
 |lst xs=>exact h.sqL
 |non=>exact h
 |bl _=>exact h
 |int _=>exact h
 |str _=>exact h
theorem RE.vl{K:W.Frag}{B:fk->Prop}{H:Hp}{S:St}{E:En}(re:RE K B H S E){r:R}{v:V}{t:T}(h:RR K B H S E r v)(e:vl E r=oZ t):Rt K H (Ow B S E) t v:=by
 cases r with
 |p u=>cases e;exact Rp.rt h
 |s i=>
  cases q:E[i]? with
  |none=>simp only[L2.vl,q]at e;cases e
  |some u=>
   cases u with
   |none=>simp only[L2.vl,q]at e;cases e
   |some u=>
    cases u with
    |p u=>
     simp only[L2.vl,q]at e;cases e;obtain⟨w,h1,h2⟩:=re.pure i _ q;have h':S[i]?=oZ (oZ v):=h;rw[h']at h1;cases h1;exact h2.rt
    |o k xs=>
     simp only[L2.vl,q]at e;cases e;obtain⟨a,vs,h1,h2,h3,_⟩:=re.own i k xs q;have h':S[i]?=oZ (oZ v):=h;rw[h']at h1;cases h1;exact⟨a,vs,rfl,k9.of h2,h3⟩
theorem RE.int{K:W.Frag}{B:fk->Prop}{H:Hp}{S:St}{E:En}(re:RE K B H S E){r:R}{v:V}{i:Int}(h:RR K B H S E r v)(e:L2.vl E r=oZ (.int i)):v = .int i:=re.vl h e
theorem RE.bl{K:W.Frag}{B:fk->Prop}{H:Hp}{S:St}{E:En}(re:RE K B H S E){r:R}{v:V}{b:Bool}(h:RR K B H S E r v)(e:L2.vl E r=oZ (.bl b)):v = .bl b:=re.vl h e
theorem RE.tup{K:W.Frag}{B:fk->Prop}{H:Hp}{S:St}{E:En}(re:RE K B H S E){p:fk}{ts:List T}{vs:List V}(hp:H p=none)(h:cP K H (Ow B S E) ts vs):
  Gr B H S E (upd H p (.tup vs)) S E/\RE K B (upd H p (.tup vs)) S E/\Rp K (upd H p (.tup vs)) (Ow B S E) (.tup ts) (.ref p):=by
 have k:Kp (Ow B S E) (Ow B S E) H (upd H p (.tup vs)):=Kp.upd hp;exact⟨⟨k,[],by simp⟩,re.kept λb o e=>by rw[aV (a9 e hp)];exact e,p,vs,rfl,.inl ⟨re.nn hp,cR⟩,h.step k⟩
theorem yS{α:Type}{xs:List α}{x:α}{y:α}(h:(xs++[x])[i]?=oZ y):(i<xs.length/\xs[i]?=oZ y)\/(i=xs.length/\y=x):=by
 obtain c|c:=WG i xs.length
 ·rw[VO c]at h;exact .inl ⟨c,h⟩
 ·rw[VU c]at h;have:i-xs.length=0:=by
   obtain z|z:=aj (i-xs.length)
   ·exact z
   ·rw[WT (by simp;lia)]at h;cases h
  rw[this]at h;simp at h;exact .inr ⟨⋯,h.symm⟩
theorem jK{α:Type}{xs:List α}{x:α}:(xs++[x])[xs.length]?=oZ x:=by simp
theorem RE.lst{K:W.Frag}{B:fk->Prop}{H:Hp}{S:St}{E:En}(re:RE K B H S E){p:fk}{ts:List T}{vs:List V}(hp:H p=none)(h:cP K H (Ow B S E) ts vs):
  Gr B H S E (upd H p (.lst vs)) (S++[oZ (.ref p)]) (E++[oZ (.o false ts)])/\RE K B (upd H p (.lst vs)) (S++[oZ (.ref p)]) (E++[oZ (.o false ts)]):=by
 have gE:∀{i:Nat}{u:U},(E++[oZ (.o false ts)])[i]?=oZ (oZ u)->(E[i]?=oZ (oZ u)/\i<E.length)\/(i=E.length/\u = .o false ts):=λ{i u}h=>by
  obtain⟨c,h⟩|⟨c,h⟩:=yS h
  ·exact .inl ⟨h,c⟩
  ·exact .inr ⟨c,Option.some.inj h⟩
 have gS:∀{i:Nat}{x:Option V},S[i]?=oZ x->(S++[oZ (.ref p)])[i]?=oZ x:=λ{i x}h=>fW ⟨_,rfl⟩ h;have zl:∀{i:Nat}{x:Option V},i<E.length->(S++[oZ (.ref p)])[i]?=oZ x->S[i]?=oZ x:=λ{i x}c h=>by
  rw[VO (by rw[re.len];exact c)]at h;exact h
 have lS:(S++[oZ (.ref p)])[E.length]?=oZ (oZ (.ref p)):=by rw[<-re.len];simp
 have ow:∀b,Ow B (S++[oZ (.ref p)]) (E++[oZ (.o false ts)]) b->Ow B S E b\/H b=none:=λb z=>by
  obtain z|⟨i,k,xs,h1,h2⟩:=z
  ·exact .inl (.inl z)
  obtain⟨h1,c⟩|⟨c,h1⟩:=gE h1
  ·exact .inl (.inr ⟨i,k,xs,h1,zl c h2⟩)
  ·subst c;rw[lS]at h2;cases h2;exact .inr hp
 have k:Kp (Ow B S E) (Ow B (S++[oZ (.ref p)]) (E++[oZ (.o false ts)])) H (upd H p (.lst vs)):=⟨λb o e _=>by rw[aV (a9 e hp)];exact e,ow⟩;refine⟨⟨k,_,rfl⟩,⟨by simp[re.len],λi t h=>?_,λi l xs h=>?_,λi j l m xs ys a h1 h2 h3 h4=>?_,λa h=>?_⟩⟩
 ·obtain⟨h,c⟩|⟨c,h⟩:=gE h
  ·obtain⟨v,h1,h2⟩:=re.pure i t h;exact⟨v,gS h1,h2.step k⟩
  ·cases h
 ·obtain⟨h,c⟩|⟨c,h⟩:=gE h
  ·obtain⟨a,ws,h1,h2,h3,h4⟩:=re.own i l xs h;exact⟨a,ws,gS h1,by rw[aV (a9 h2 hp)];exact h2,h3.step k,h4⟩
  ·cases h;subst c;refine⟨p,vs,lS,cR,?_,⟨λz=>absurd z ∅,λz=>absurd (.inl z) (re.nn hp)⟩⟩;exact cP.step k (by assumption)
 ·obtain⟨h1,c1⟩|⟨c1,h1⟩:=gE h1
  ·obtain⟨h2,c2⟩|⟨c2,h2⟩:=gE h2
   ·exact re.inj i j l m xs ys a h1 h2 (zl c1 h3) (zl c2 h4)
   ·subst c2;rw[lS]at h4;cases h4;exact absurd (.inr ⟨i,l,xs,h1,zl c1 h3⟩) (re.nn hp)
  ·obtain⟨h2,c2⟩|⟨c2,h2⟩:=gE h2
   ·subst c1;rw[lS]at h3;cases h3;exact absurd (.inr ⟨j,m,ys,h2,zl c2 h4⟩) (re.nn hp)
   ·rw[c1,c2]
 ·obtain⟨us,q⟩:=re.bd a h;exact⟨us,by rw[aV (a9 q hp)];exact q⟩
section
variable{X:Cx}{K:W.Frag}{pos:Pos}{a b c e:oC}{es rest:List oC}{Fa Fb Fc:FE}{Fr:FA}{Fp Fq:FB}
def Iz(i:Nat):FE:=λE Q=>match E[i]? with
 |some (oZ (.p t))=>Q (.p t) E
 |some (oZ (.o _ _))=>Q (.s i) E
 |_=>False
def fC(t:T):FE:=λE Q=>Q (.p t) E
theorem fv(i:Nat)(hN:X.N[i]?=oZ x:=by rfl)(hv:O1 X.env.scope x:=by first|exact WA rfl|exact WN (WA rfl)|exact WN (WN rfl))(hd:(x==("__debug__":Str))=false:=by decide)(yn:(x==("__classdict__":Str))=false:=by decide):QE X (.Name x pos) (aH K (Iz i)):=by
 refine(qv i hN hv hd yn).le λσ H Q hl zZ=>?_;obtain⟨B,S,E,Q',hS,re,hF,lk⟩:=zZ;have hi:i<σ.length:=by rw[hl];exact(UO.mp hN).1
 obtain⟨τ,rfl⟩:=hS;have back:∀{v},(σ++τ)[i]?=oZ (oZ v)->σ[i]?=oZ (oZ v):=λh=>by rw[VO hi]at h;exact h
 unfold Iz at hF;split at hF
 ·rename_i t q;obtain⟨v,h1,h2⟩:=re.pure i t q;exact⟨v,back h1,lk _ _ _ _ _ hF .refl re h2⟩
 ·rename_i k xs q;obtain⟨p,vs,h1,_⟩:=re.own i k xs q;exact⟨_,back h1,lk _ _ _ _ _ hF .refl re h1⟩
 ·exact hF.elim
theorem P7(h:QE X e (tC v))(hv:∀K H O,Rp K H O t v):QE X e (aH K (fC t)):=h.le λσ H Q hl zZ=>by obtain⟨B,S,E,Q',hS,re,hF,lk⟩:=zZ;exact lk _ _ _ _ _ hF .refl re (hv _ _ _)
theorem aA{i j pos}:QE X (.Constant (.int i) j pos) (aH K (fC (.int i))):=P7 zF λ_ _ _=>rfl
theorem Ra{b j pos}:QE X (.Constant (.bool b) j pos) (aH K (fC (.bl b))):=P7 MI λ_ _ _=>rfl
theorem El{j pos}:QE X (.Constant .none j pos) (aH K (fC .non)):=P7 D2 λ_ _ _=>rfl
theorem aY{x j pos}:QE X (.Constant (.str x) j pos) (aH K (fC (.str x))):=P7 HQ λ_ _ _=>rfl
theorem two{G:R->R->En->(R->En->Prop)->Prop}(h:aH K (λE Q=>Fa E λx E1=>Fb E1 λy E2=>G x y E2 Q) σ H Q){P:V->V->Hp->Prop}(k:∀B S E x y v w H2 Q',(∃τ,S=σ++τ)->RE K B H2 S E->RR K B H2 S E x v->RR K B H2 S E y w->G x y E Q'->Lk K B H2 S E Q' Q->P v w H2):aH K Fa σ H λv H1=>aH K Fb σ H1 λw H2=>P v w H2:=by
 obtain⟨B,S,E,Q',⟨τ,hS⟩,re,hF,lk⟩:=h;refine⟨B,S,E,_,⟨τ,hS⟩,re,hF,λr E1 v H1 S1 q g mz rr=>?_⟩;obtain⟨τ1,wc⟩:=g.pre;refine⟨B,S1,E1,_,⟨τ++τ1,by rw[wc,hS,VH]⟩,mz,q,λr2 E2 w H2 S2 q2 g2 rn rr2=>?_⟩;obtain⟨τ2,hS2⟩:=g2.pre;exact k B S2 E2 r r2 v w H2 Q' ⟨τ++τ1++τ2,by rw[hS2,wc,hS,VH,VH,VH]⟩ rn (rr.step g2) rr2 q2 (lk.step (g.trans g2))
theorem one{G:R->En->(R->En->Prop)->Prop}(h:aH K (λE Q=>Fa E λx E1=>G x E1 Q) σ H Q){P:V->Hp->Prop}(k:∀B S E x v H2 Q',(∃τ,S=σ++τ)->RE K B H2 S E->RR K B H2 S E x v->G x E Q'->Lk K B H2 S E Q' Q->P v H2):aH K Fa σ H λv H1=>P v H1:=by
 obtain⟨B,S,E,Q',⟨τ,hS⟩,re,hF,lk⟩:=h;refine⟨B,S,E,_,⟨τ,hS⟩,re,hF,λr E1 v H1 S1 q g mz rr=>?_⟩;obtain⟨τ1,wc⟩:=g.pre;exact k B S1 E1 r v H1 Q' ⟨τ++τ1,by rw[wc,hS,VH]⟩ mz rr q (lk.step g)
def i2(x y:Option T)(k:Int->Int->Prop):Prop:=match x,y with
 |some (.int i),oZ (.int j)=>k i j
 |_,_=>False
theorem i2.ex{k:Int->Int->Prop}(h:i2 x y k):∃i j,x=oZ (.int i)/\y=oZ (.int j)/\k i j:=by
 unfold i2 at h;split at h
 ·exact⟨_,_,rfl,rfl,h⟩
 ·exact h.elim
def fI(C:Int->Int->Prop)(g:Int->Int->Int)(Fa Fb:FE):FE:=λE Q=>Fa E λx E1=>Fb E1 λy E2=>i2 (vl E2 x) (vl E2 y) λi j=>C i j/\Q (.p (.int (g i j))) E2
def TR(g:Int->Int->Int)(Fa Fb:FE):FE:=λE Q=>Fa E λx E1=>Fb E1 λy E2=>i2 (vl E2 x) (vl E2 y) λi j=>Q (.p (.int (g i j))) E2
def QH(g:Int->Int->Bool)(Fa Fb:FE):FE:=λE Q=>Fa E λx E1=>Fb E1 λy E2=>i2 (vl E2 x) (vl E2 y) λi j=>Q (.p (.bl (g i j))) E2
theorem aR{C:Int->Int->Prop}{g:Int->Int->Int}(ho:oP X (jc op) (rI C λi j=>.int (g i j)))(ha:QE X a (aH K Fa))(hb:QE X b (aH K Fb)):QE X (.BinOp a op b pos) (aH K (fI C g Fa Fb)):=by
 refine(zG ho ha hb).le λσ H Q hl h=>two h λB S E x y v w H2 Q' hS re rx ry q lk=>?_;obtain⟨i,j,e1,e2,c,q⟩:=q.ex;exact⟨i,j,re.int rx e1,re.int ry e2,c,lk _ _ _ _ _ q .refl re rfl⟩
theorem a7{g:Int->Int->Int}(ho:oP X (jc op) (Wy λi j=>.int (g i j)))(ha:QE X a (aH K Fa))(hb:QE X b (aH K Fb)):QE X (.BinOp a op b pos) (aH K (TR g Fa Fb)):=by
 refine(zG ho ha hb).le λσ H Q hl h=>two h λB S E x y v w H2 Q' hS re rx ry q lk=>?_;obtain⟨i,j,e1,e2,q⟩:=q.ex;exact⟨i,j,re.int rx e1,re.int ry e2,lk _ _ _ _ _ q .refl re rfl⟩
theorem Ye{g:Int->Int->Bool}(ho:oP X (ja op) (Wy λi j=>.bl (g i j)))(ha:QE X a (aH K Fa))(hb:QE X b (aH K Fb))(hm:ik op b=false):QE X (.Compare a [op] [b] pos) (aH K (QH g Fa Fb)):=by
 refine(Si ho ha hb hm).le λσ H Q hl h=>two h λB S E x y v w H2 Q' hS re rx ry q lk=>?_;obtain⟨i,j,e1,e2,q⟩:=q.ex;exact⟨i,j,re.int rx e1,re.int ry e2,lk _ _ _ _ _ q .refl re rfl⟩
def i1(x:Option T)(k:Int->Prop):Prop:=match x with
 |some (.int i)=>k i
 |_=>False
theorem i1.ex{k:Int->Prop}(h:i1 x k):∃i,x=oZ (.int i)/\k i:=by
 unfold i1 at h;split at h
 ·exact⟨_,rfl,h⟩
 ·exact h.elim
def b1(x:Option T)(k:Bool->Prop):Prop:=match x with
 |some (.bl i)=>k i
 |_=>False
theorem b1.ex{k:Bool->Prop}(h:b1 x k):∃i,x=oZ (.bl i)/\k i:=by
 unfold b1 at h;split at h
 ·exact⟨_,rfl,h⟩
 ·exact h.elim
def QR(Fa:FE):FE:=λE Q=>Fa E λx E1=>i1 (vl E1 x) λi=>Q (.p (.int (-i))) E1
theorem c7(ha:QE X a (aH K Fa)):QE X (.UnaryOp .USub a pos) (aH K (QR Fa)):=by
 refine(BM L8 ha).le λσ H Q hl h=>one (Fa:=Fa) h λB S E x v H2 Q' hS re rx q lk=>?_;obtain⟨i,e1,q⟩:=q.ex;exact⟨i,re.int rx e1,lk _ _ _ _ _ q .refl re rfl⟩
def QU(Fa:FE):FE:=λE Q=>Fa E λx E1=>b1 (vl E1 x) λi=>Q (.p (.bl (!i))) E1
theorem EE(ha:QE X a (aH K Fa)):QE X (.UnaryOp .Not a pos) (aH K (QU Fa)):=by
 refine(HN ha).le λσ H Q hl h=>one (Fa:=Fa) h λB S E x v H2 Q' hS re rx q lk=>?_;obtain⟨i,e1,q⟩:=q.ex;exact⟨i,re.bl rx e1,lk _ _ _ _ _ q .refl re rfl⟩
theorem DA{G:Bool->En->(Bool->En->Prop)->Prop}{Q:Bool->Hp->Prop}(h:i8 K (λE Q=>Fp E λx E1=>G x E1 Q) σ H Q){P:Bool->Hp->Prop}(k:∀B S E x H2 Q',(∃τ,S=σ++τ)->RE K B H2 S E->G x E Q'->(∀b E' H' S',Q' b E'->Gr B H2 S E H' S' E'->RE K B H' S' E'->Q b H')->P x H2):i8 K Fp σ H P:=by
 obtain⟨B,S,E,Q',⟨τ,hS⟩,re,hF,lk⟩:=h;refine⟨B,S,E,_,⟨τ,hS⟩,re,hF,λr E1 H1 S1 q g mz=>?_⟩;obtain⟨τ1,wc⟩:=g.pre;exact k B S1 E1 r H1 Q' ⟨τ++τ1,by rw[wc,hS,VH]⟩ mz q λb E2 H2 S2 q2 g2 rn=>lk b E2 H2 S2 q2 (g.trans g2) rn
def Dx(Fa:FE):FB:=λE Q=>Fa E λx E1=>b1 (vl E1 x) λi=>Q i E1
def PV(Fp:FB):FB:=λE Q=>Fp E λx E1=>Q (!x) E1
def TN(Fp Fq:FB):FB:=λE Q=>Fp E λx E1=>if x=true then Q true E1 else Fq E1 Q
theorem O4{Q:Bool->Hp->Prop}(h:i8 K (Dx Fa) σ H Q):aH K Fa σ H λv H1=>∃c,v = .bl c/\Q c H1:=by
 obtain⟨B,S,E,Q',⟨τ,hS⟩,re,hF,lk⟩:=h;refine⟨B,S,E,_,⟨τ,hS⟩,re,hF,λr E1 v H1 S1 q g mz rr=>?_⟩;obtain⟨i,e1,q⟩:=q.ex;exact⟨i,mz.bl rr e1,lk _ _ _ _ q g mz⟩
theorem gH(h:QE X e (aH K Fa))(he:∀whole,isTrue e X.env whole=(do let v <-whole;standAt e.pos;jd [v] (truthy v)):=by intro _;rfl):QT X e (i8 K (Dx Fa)):=(HV h he).le λσ H Q z=>O4 z
theorem Yo(ha:QT X a (i8 K Fp)):QT X (.UnaryOp .Not a pos) (i8 K (PV Fp)):=(HU ha).le λσ H Q h=>DA (Fp:=Fp) h λB S E x H2 Q' hS re q lk=>lk _ _ _ _ q .refl re
theorem rS(ha:QT X a (i8 K Fp)):QW X (.BoolOp .Or [a] pos) (i8 K Fp):=HW ha
theorem yR(ha:QT X a (i8 K Fp))(hb:QW X (.BoolOp .Or (b::rest) pos) (i8 K Fq)):QW X (.BoolOp .Or (a::b::rest) pos) (i8 K (TN Fp Fq)):=by
 refine(MN ha hb).le λσ H Q h=>DA (Fp:=Fp) h λB S E x H2 Q' hS re q lk=>?_;cases x
 ·exact⟨B,S,E,Q',hS,re,q,lk⟩
 ·exact lk _ _ _ _ q .refl re
theorem Mu(h:QW X e (i8 K Fp)):QT X e (i8 K Fp):=RM h
def QD(Fa Fb:FE):FE:=λE Q=>Fa E λx E1=>b1 (vl E1 x) λi=>if i=true then Fb E1 Q else Q (.p (.bl false)) E1
def TY(Fa Fb:FE):FE:=λE Q=>Fa E λx E1=>b1 (vl E1 x) λi=>if i=true then Q (.p (.bl true)) E1 else Fb E1 Q
theorem yP(ha:QE X a (aH K Fa))(hb:QE X (.BoolOp .And (b::rest) pos) (aH K Fb)):QE X (.BoolOp .And (a::b::rest) pos) (aH K (QD Fa Fb)):=by
 refine(HM ha hb).le λσ H Q hl h=>one (Fa:=Fa) h λB S E x v H2 Q' hS re rx q lk=>?_;obtain⟨i,e1,q⟩:=q.ex;refine⟨i,re.bl rx e1,?_⟩;cases i
 ·exact lk _ _ _ _ _ q .refl re rfl
 ·exact⟨B,S,E,Q',hS,re,q,lk⟩
theorem KQ(ha:QE X a (aH K Fa))(hb:QE X (.BoolOp .Or (b::rest) pos) (aH K Fb)):QE X (.BoolOp .Or (a::b::rest) pos) (aH K (TY Fa Fb)):=by
 refine(ML ha hb).le λσ H Q hl h=>one (Fa:=Fa) h λB S E x v H2 Q' hS re rx q lk=>?_;obtain⟨i,e1,q⟩:=q.ex;refine⟨i,re.bl rx e1,?_⟩;cases i
 ·exact⟨B,S,E,Q',hS,re,q,lk⟩
 ·exact lk _ _ _ _ _ q .refl re rfl
theorem yQ{op}(h:QE X a (aH K Fa)):QE X (.BoolOp op [a] pos) (aH K Fa):=HP h
def TU(Fp:FB)(Fa Fb:FE):FE:=λE Q=>Fp E λx E1=>if x=true then Fa E1 Q else Fb E1 Q
theorem pE(hc:QT X c (i8 K Fp))(ha:QE X a (aH K Fa))(hb:QE X b (aH K Fb)):QE X (.IfExp c a b pos) (aH K (TU Fp Fa Fb)):=by
 refine(C9 hc ha hb).le λσ H Q hl zZ=>?_;obtain⟨B,S,E,Q',⟨τ,hS⟩,re,hF,lk⟩:=zZ;refine⟨B,S,E,_,⟨τ,hS⟩,re,hF,λr E1 H1 S1 q g mz=>?_⟩;obtain⟨τ1,wc⟩:=g.pre;have hp:∃t,S1=σ++t:=⟨τ++τ1,by rw[wc,hS,VH]⟩;cases r
 ·exact⟨B,S1,E1,Q',hp,mz,q,lk.step g⟩
 ·exact⟨B,S1,E1,Q',hp,mz,q,lk.step g⟩
def Dt:FA:=λE Q=>Q [] E
def iD(Fa:FE)(Fr:FA):FA:=λE Q=>Fa E λr E1=>Fr E1 λrs E2=>Q (r::rs) E2
theorem bF:QA X [] (cM K 0 Dt):=Ot.le λσ H Q zZ=>by obtain⟨B,S,E,Q',hS,re,hF,lk⟩:=zZ;exact lk _ _ _ _ _ hF .refl re rfl rfl
theorem fc{n:Nat}(ha:QE X e (aH K Fa))(hr:QA X es (cM K n Fr))(hs:a8 e=false:=by rfl):QA X (e::es) (cM K (n+1) (iD Fa Fr)):=by
 refine(qc ha hr hs).le λσ H Q zZ=>?_;obtain⟨B,S,E,Q',⟨τ,hS⟩,re,hF,lk⟩:=zZ;refine⟨B,S,E,_,⟨τ,hS⟩,re,hF,λr E1 v H1 S1 q g mz rr=>?_⟩;obtain⟨τ1,wc⟩:=g.pre;exact⟨B,S1,E1,_,⟨τ++τ1,by rw[wc,hS,VH]⟩,mz,q,λrs E2 vs H2 S2 q2 g2 rn rr2 hn=>lk _ _ _ _ _ q2 (g.trans g2) rn ⟨v,vs,rfl,rr.step g2,rr2⟩ (by rw[VQ,hn])⟩
theorem args{G:List R->En->(R->En->Prop)->Prop}(h:aH K (λE Q=>Fr E λrs E1=>G rs E1 Q) σ H Q){P:List V->Hp->Prop}(k:∀B S E rs vs H2 Q',(∃τ,S=σ++τ)->RE K B H2 S E->Tz K B H2 S E rs vs->vs.length=n->G rs E Q'->Lk K B H2 S E Q' Q->P vs H2):cM K n Fr σ H P:=by
 obtain⟨B,S,E,Q',⟨τ,hS⟩,re,hF,lk⟩:=h;refine⟨B,S,E,_,⟨τ,hS⟩,re,hF,λr E1 v H1 S1 q g mz rr hn=>?_⟩;obtain⟨τ1,wc⟩:=g.pre;exact k B S1 E1 r v H1 Q' ⟨τ++τ1,by rw[wc,hS,VH]⟩ mz rr hn q (lk.step g)
def zC:List R->Option (List T)
 |[]=>oZ []
 |.p t::rs=>(zC rs).map (t::·)
 |_=>none
theorem zD{B:fk->Prop}:∀{rs:List R}{vs:List V}{ts:List T},Tz K B H S E rs vs->zC rs=oZ ts->cP K H (Ow B S E) ts vs
 |[],_,_,h,e=>by cases e;exact h
 |.p t::rs,_,ts,⟨v,ws,e1,h1,h2⟩,e=>by
  cases q:zC rs with
  |none=>rw[zC,q]at e;cases e
  |some us=>
   rw[zC,q]at e;cases e;exact⟨v,ws,e1,h1,zD h2 q⟩
 |.s _::_,_,_,_,e=>by cases e
def o1{α:Type}(x:Option α)(k:α->Prop):Prop:=match x with
 |some y=>k y
 |none=>False
theorem o1.ex{α:Type}{x:Option α}{k:α->Prop}(h:o1 x k):∃y,x=oZ y/\k y:=by
 cases x with
 |none=>exact h.elim
 |some y=>exact⟨y,rfl,h⟩
def KN(Fr:FA):FE:=λE Q=>Fr E λrs E1=>o1 (zC rs) λts=>Q (.p (.tup ts)) E1
def QM(Fr:FA):FE:=λE Q=>Fr E λrs E1=>o1 (zC rs) λts=>Q (.s E1.length) (E1++[oZ (.o false ts)])
theorem aJ{x1}(h:QA X es (cM K n Fr))(hz:n<=9000:=by decide):QE X (.Tuple es x1 pos) (aH K (KN Fr)):=by
 refine(Oy h).le λσ H Q hl h=>args (Fr:=Fr) h λB S E rs vs H2 Q' hS re rr hn q lk=>⟨by rw[hn];exact WC (bS hz),λp hp=>?_⟩;obtain⟨ts,e,q⟩:=q.ex;obtain⟨g,ni,rp⟩:=re.tup hp (zD rr e);exact lk _ _ _ _ _ q g ni rp
theorem bX(h:QA X es (cM K n Fr))(hz:n<=9000:=by decide):QE X (.List es pos) (aH K (QM Fr)):=by
 refine(D1 h).le λσ H Q hl h=>args (Fr:=Fr) h λB S E rs vs H2 Q' hS re rr hn q lk=>⟨by rw[hn];exact WC (bS hz),λp hp=>?_⟩;obtain⟨ts,e,q⟩:=q.ex;obtain⟨g,ni⟩:=re.lst hp (zD rr e);exact lk _ _ _ _ _ q g ni (by rw[<-re.len];exact jK)
def MY:T->Option (List T)
 |.tup xs=>oZ xs
 |.lst xs=>oZ xs
 |_=>none
def SR(x y:Option T)(k:T->Prop):Prop:=match x,y with
 |some (.tup xs),oZ (.int i)=>o1 (dX xs i) k
 |some (.lst xs),oZ (.int i)=>o1 (dX xs i) k
 |_,_=>False
theorem Xf{O:fk->Prop}{i:Int}(h:cP K H O xs vs)(e:dX xs i=oZ t):∃v,dX vs i=oZ v/\Rp K H O t v:=by
 unfold dX at e⊢;rw[h.length];cases q:Lq xs.length i with
 |none=>rw[q]at e;cases e
 |some j=>rw[q]at e;exact h.get e
def QL(Fa Fb:FE):FE:=λE Q=>Fa E λx E1=>Fb E1 λy E2=>SR (vl E2 x) (vl E2 y) λt=>Q (.p t) E2
theorem AW(eK:X.K=K)(ha:QE X a (aH K Fa))(hb:QE X b (aH K Fb))(hs:wV b):QE X (.Subscript a b pos) (aH K (QL Fa Fb)):=by
 subst eK;refine(D0 FD ha hb hs).le λσ H Q hl h=>two (Fa:=Fa) (Fb:=Fb) h λB S E x y v w H2 Q' hS re rx ry q lk=>?_;unfold SR at q;split at q
 ·rename_i xs i e1 e2;obtain⟨t,e3,q⟩:=q.ex;obtain⟨p,vs,rfl,sq,rs⟩:=re.vl rx e1;obtain⟨u,h1,h2⟩:=Xf rs e3;exact .inr (.inl ⟨p,vs,i,u,rfl,re.int ry e2,sq,h1,lk _ _ _ _ _ q .refl re h2⟩)
 ·rename_i xs i e1 e2;obtain⟨t,e3,q⟩:=q.ex;obtain⟨p,vs,rfl,sq,rs⟩:=re.vl rx e1;obtain⟨u,h1,h2⟩:=Xf rs e3;exact .inl ⟨p,vs,i,u,rfl,re.int ry e2,sq,h1,lk _ _ _ _ _ q .refl re h2⟩
 ·exact q.elim
def Xz(Fr:FA):FE:=λE Q=>Fr E λrs E1=>match rs with
 |[x]=>o1 ((vl E1 x).bind MY) λxs=>Q (.p (.int xs.length)) E1
 |_=>False
theorem eD(eK:X.K=K)(hg:Gl X "len")(hm:X.mg "len" = none)(ha:QA X (e::es) (cM K n Fr))(hs:bR (e::es)=true:=by rfl):QE X (.Call (.Name "len" p) (e::es) [] pos) (aH K (Xz Fr)):=by
 subst eK;refine(iZ Eb hg hm PySem.boot_len ha ∅ ∅ hs).le λσ H Q hl h=>args (Fr:=Fr) h λB S E rs vs H2 Q' hS re rr hn q lk=>?_;obtain _|⟨x,_|⟨_,_⟩⟩:=rs
 ·exact False.elim q
 ·obtain⟨v,ws,e1,h1,h2⟩:=rr;cases h2;subst e1;obtain⟨xs,e2,q⟩:=o1.ex q;obtain⟨t,e3,e2⟩:=cm.mp e2;have rt:=re.vl h1 e3;cases t with
  |tup ys=>
   cases e2;obtain⟨p,us,rfl,sq,rs⟩:=rt;exact⟨p,us,rfl,.inr sq,by rw[rs.length];exact lk _ _ _ _ _ q .refl re rfl⟩
  |lst ys=>
   cases e2;obtain⟨p,us,rfl,sq,rs⟩:=rt;exact⟨p,us,rfl,.inl sq,by rw[rs.length];exact lk _ _ _ _ _ q .refl re rfl⟩
  |_=>cases e2
 ·exact False.elim q
def PZ(Fr:FA):FE:=λE Q=>Fr E λrs E1=>match rs with
 |[x]=>i1 (vl E1 x) λi=>Q (.p (.int (i.natAbs:Int))) E1
 |_=>False
theorem uM(hg:Gl X "abs")(hm:X.mg "abs" = none)(ha:QA X (e::es) (cM K n Fr))(hs:bR (e::es)=true:=by rfl):QE X (.Call (.Name "abs" p) (e::es) [] pos) (aH K (PZ Fr)):=by
 refine(iZ Ud hg hm boot_abs ha ∅ ∅ hs).le λσ H Q hl h=>args (Fr:=Fr) h λB S E rs vs H2 Q' hS re rr hn q lk=>?_;obtain _|⟨x,_|⟨_,_⟩⟩:=rs
 ·exact False.elim q
 ·obtain⟨v,ws,e1,h1,h2⟩:=rr;cases h2;subst e1;obtain⟨i,e2,q⟩:=i1.ex q;exact⟨i,by rw[re.int h1 e2],lk _ _ _ _ _ q .refl re rfl⟩
 ·exact False.elim q
def JZ(Fr:FA):FE:=λE Q=>Fr E λrs E1=>match rs with
 |[x]=>b1 (vl E1 x) λi=>Q (.p (.int (if i then 1 else 0))) E1
 |_=>False
theorem P8(hg:Gl X "int")(hm:X.mg "int" = none)(ha:QA X (e::es) (cM K n Fr))(hs:bR (e::es)=true:=by rfl):QE X (.Call (.Name "int" p) (e::es) [] pos) (aH K (JZ Fr)):=by
 refine(rZ Ug hg hm (by decide +kernel) ha ∅ ∅ hs).le λσ H Q hl h=>args (Fr:=Fr) h λB S E rs vs H2 Q' hS re rr hn q lk=>?_;obtain _|⟨x,_|⟨_,_⟩⟩:=rs
 ·exact False.elim q
 ·obtain⟨v,ws,e1,h1,h2⟩:=rr;cases h2;subst e1;obtain⟨i,e2,q⟩:=b1.ex q;exact⟨i,by rw[re.bl h1 e2],lk _ _ _ _ _ q .refl re rfl⟩
 ·exact False.elim q
def P4(Fr:FA):FE:=λE Q=>Fr E λrs E1=>match rs with
 |[x,y]=>i2 (vl E1 x) (vl E1 y) λi j=>(0<j/\j<2^200)/\Q (.p (.tup [.int (i/j),.int (i%j)])) E1
 |_=>False
theorem Uz(hg:Gl X "divmod")(hm:X.mg "divmod" = none)(ha:QA X (e::es) (cM K n Fr))(hs:bR (e::es)=true:=by rfl):QE X (.Call (.Name "divmod" p) (e::es) [] pos) (aH K (P4 Fr)):=by
 refine(iZ Ea hg hm boot_divmod ha ∅ ∅ hs).le λσ H Q hl h=>args (Fr:=Fr) h λB S E rs vs H2 Q' hS re rr hn q lk=>?_;obtain _|⟨x,_|⟨y,_|⟨_,_⟩⟩⟩:=rs
 ·exact False.elim q
 ·exact False.elim q
 ·obtain⟨v,ws,e1,h1,w,ws',e2,h2,h3⟩:=rr;cases h3;subst e2;subst e1;obtain⟨i,j,e3,e4,⟨c1,c2⟩,q⟩:=i2.ex q;refine⟨i,j,by rw[re.int h1 e3,re.int h2 e4],c1,c2,λp hp=>?_⟩;obtain⟨g,ni,rp⟩:=re.tup (ts:=[.int (i/j),.int (i%j)]) (vs:=[.int (i/j),.int (i%j)]) hp ⟨_,_,rfl,rfl,_,_,rfl,rfl,rfl⟩;exact lk _ _ _ _ _ q g ni rp
 ·exact False.elim q
end
structure ET where
 nx:En->Prop
 rt:R->En->Prop
 bk:En->Prop:=λ_=>False
 ct:En->Prop:=λ_=>False
abbrev FS:=ET->En->Prop
abbrev Gs(B:fk->Prop)(H:Hp)(S:St)(E:En)(H':Hp)(S':St)(E':En):Prop:=Kp (Ow B S E) (Ow B S' E') H H'
structure LS(K:W.Frag)(B:fk->Prop)(H:Hp)(σ:St)(E:En)(DT:ET)(D:cX):Prop where
 nx:∀σ' H' E',DT.nx E'->Gs B H σ E H' σ' E'->RE K B H' σ' E'->D.nx σ' H'
 rt:∀r E' v H' S',DT.rt r E'->Gs B H σ E H' S' E'->RE K B H' S' E'->RR K B H' S' E' r v->D.rt v H'
 bk:∀σ' H' E',DT.bk E'->Gs B H σ E H' σ' E'->RE K B H' σ' E'->D.bk σ' H'
 ct:∀σ' H' E',DT.ct E'->Gs B H σ E H' σ' E'->RE K B H' σ' E'->D.ct σ' H'
theorem LS.step{K:W.Frag}{B:fk->Prop}{H H':Hp}{σ σ':St}{E E':En}{DT:ET}{D:cX}(l:LS K B H σ E DT D)(g:Gs B H σ E H' σ' E'):LS K B H' σ' E' DT D:=
 ⟨λa b c d e=>l.nx a b c d (g.trans e),λa b c d e f h=>l.rt a b c d e f (g.trans h),λa b c d e=>l.bk a b c d (g.trans e),λa b c d e=>l.ct a b c d (g.trans e)⟩
def eQ(K:W.Frag)(F:FS):TS:=λD σ H=>∃B E DT,RE K B H σ E/\F DT E/\LS K B H σ E DT D
theorem QS.le{X:Cx}{st:fq}{t t':TS}(h:QS X st t)(m:∀D σ H,σ.length=X.N.length->t' D σ H->t D σ H):QS X st t':=⟨λpins s σ H D I z=>h.h pins s σ H D I (m D σ H I.len z)⟩
theorem QB.le(h:QB X zk t)(m:∀D σ H,t' D σ H->t D σ H):QB X zk t':=⟨λpins s σ H D I z=>h.h pins s σ H D I (m D σ H z)⟩
theorem QG.le(h:QG X e t)(m:∀v σ H Q,σ.length=X.N.length->t' v σ H Q->t v σ H Q):QG X e t':=⟨λpins s σ H v u Q I r z=>h.h pins s σ H v u Q I r (m v σ H Q I.len z)⟩
theorem Tx.le(h:Tx X es t)(m:∀v σ H Q,t' v σ H Q->t v σ H Q):Tx X es t':=⟨λpins s σ H v u Q I r z=>h.h pins s σ H v u Q I r (m v σ H Q z)⟩
theorem QI.le(h:QI X tg e t)(m:∀σ H Q,σ.length=X.N.length->t' σ H Q->t σ H Q):QI X tg e t':=⟨λpins s σ H R I z=>h.h pins s σ H R I (m σ H R I.len z)⟩
theorem RE.map{K:W.Frag}{B:fk->Prop}{H:Hp}{S:St}{S':St}{E:En}{E':En}(re:RE K B H S E)(hl:S'.length=E'.length)(hp:∀(i:Nat)(t:T),E'[i]?=oZ (oZ (.p t))->∃v,S'[i]?=oZ (oZ v)/\Rp K H (Ow B S E) t v)(f:Nat->Nat)(ho:∀(i:Nat)(k:Bool)(xs:List T),E'[i]?=oZ (oZ (.o k xs))->E[f i]?=oZ (oZ (.o k xs))/\∃a,S[f i]?=oZ (oZ (.ref a))/\S'[i]?=oZ (oZ (.ref a)))(hf:∀(i j:Nat)(k l:Bool)(xs ys:List T),E'[i]?=oZ (oZ (.o k xs))->E'[j]?=oZ (oZ (.o l ys))->f i=f j->i=j):RE K B H S' E'/\∀b,Ow B S' E' b->Ow B S E b:=by
 have ow:∀b,Ow B S' E' b->Ow B S E b:=λb z=>by
  obtain z|⟨i,k,xs,h1,h2⟩:=z
  ·exact .inl z
  obtain⟨h3,a,h4,h5⟩:=ho i k xs h1;rw[h2]at h5;cases h5;exact .inr ⟨f i,k,xs,h3,h4⟩
 refine⟨⟨hl,λi t h=>?_,λi k xs h=>?_,λi j k l xs ys a h1 h2 h3 h4=>?_,re.bd⟩,ow⟩
 ·obtain⟨v,h1,h2⟩:=hp i t h;exact⟨v,h1,h2.step (Kp.less ow)⟩
 ·obtain⟨h3,a,h4,h5⟩:=ho i k xs h;obtain⟨a',vs,q1,q2,q3,q4⟩:=re.own _ k xs h3;rw[h4]at q1;cases q1;exact⟨a,vs,h5,q2,q3.step (Kp.less ow),q4⟩
 ·obtain⟨p1,a1,p2,p3⟩:=ho i k xs h1;obtain⟨r1,a2,r2,r3⟩:=ho j l ys h2;rw[h3]at p3;cases p3;rw[h4]at r3;cases r3;exact hf i j k l xs ys h1 h2 (re.inj _ _ k l xs ys _ p1 r1 p2 r2)
theorem RE.cut{K:W.Frag}{B:fk->Prop}{H':Hp}{S':St}{E:En}{E':En}{σ:St}(re:RE K B H' S' E')(hS:∃τ,S'=σ++τ)(hl:σ.length=E.length):RE K B H' σ (E'.take E.length)/\∀b,Ow B σ (E'.take E.length) b->Ow B S' E' b:=by
 obtain⟨τ,rfl⟩:=hS;have e:(σ++τ).take E.length=σ:=by rw[<-hl];simp
 have:=re.take E.length;rw[e]at this;refine⟨this,λb z=>?_⟩;obtain z|⟨i,k,xs,h1,h2⟩:=z
 ·exact .inl z
 have hi:i<E.length:=by
  obtain c|c:=WG i E.length
  ·exact c
  ·rw[YC ⋯]at h1;cases h1
 exact .inr ⟨i,k,xs,by rw[WY hi]at h1;exact h1,fW ⟨τ,rfl⟩ h2⟩
theorem RE.setP{K:W.Frag}{B:fk->Prop}{H:Hp}{S:St}{E:En}(re:RE K B H S E){i:Nat}{t:T}{v:V}(h:Rp K H (Ow B S E) t v):RE K B H (S.set i (oZ v)) (E.set i (oZ (.p t)))/\∀b,Ow B (S.set i (oZ v)) (E.set i (oZ (.p t))) b->Ow B S E b:=by
 refine re.map (by simp[re.len]) (λj u hj=>?_) id (λj k xs hj=>?_) (λ_ _ _ _ _ _ _ _ h=>h)
 ·rw[YF]at hj
  by_cases c:i=j
  ·subst c;rw[oV rfl]at hj;split at hj
   ·cases hj;rename_i hi;exact⟨v,by rw[VM (by rw[re.len];exact hi)],h⟩
   ·cases hj
  ·rw[oW c]at hj;obtain⟨w,h1,h2⟩:=re.pure j u hj;exact⟨w,by rw[VI c];exact h1,h2⟩
 ·rw[YF]at hj
  by_cases c:i=j
  ·subst c;rw[oV rfl]at hj;split at hj<;>cases hj
  ·rw[oW c]at hj;obtain⟨a,vs,h1,_⟩:=re.own j k xs hj;exact⟨hj,a,h1,by rw[VI c];exact h1⟩
theorem RE.setO{K:W.Frag}{B:fk->Prop}{H:Hp}{S:St}{E:En}{σ:St}(re:RE K B H S E)(hS:∃τ,S=σ++τ){i j:Nat}{k:Bool}{xs:List T}(hj:σ.length<=j)(hE:E[j]?=oZ (oZ (.o k xs))){v:V}(hv:S[j]?=oZ (oZ v)):
  RE K B H (σ.set i (oZ v)) ((E.take σ.length).set i (oZ (.o k xs)))/\∀b,Ow B (σ.set i (oZ v)) ((E.take σ.length).set i (oZ (.o k xs))) b->Ow B S E b:=by
 obtain⟨τ,rfl⟩:=hS;have hle:σ.length<=E.length:=by rw[<-re.len];simp
 have gt:∀{m:Nat}{x:Option U},(E.take σ.length)[m]?=oZ x->E[m]?=oZ x/\m<σ.length:=λ{m x}h=>by
  by_cases c:m<σ.length
  ·rw[WY c]at h;exact⟨h,c⟩
  ·rw[YC ⋯]at h;cases h
 refine re.map (by simp;lia) (λm u hm=>?_) (λm=>if m=i then j else m) (λm l ys hm=>?_) (λm n l l' ys zs h1 h2 h=>?_)
 ·rw[YF]at hm
  by_cases c:i=m
  ·subst c;rw[oV rfl]at hm;split at hm<;>cases hm
  ·rw[oW c]at hm;obtain⟨hm,lt⟩:=gt hm;obtain⟨w,h1,h2⟩:=re.pure m u hm;rw[VO lt]at h1;exact⟨w,by rw[VI c];exact h1,h2⟩
 ·rw[YF]at hm
  by_cases c:i=m
  ·subst c;rw[oV rfl]at hm;split at hm
   ·cases hm;rename_i hi;obtain⟨a,vs,h1,_⟩:=re.own j k xs hE;rw[hv]at h1;cases h1;rw[oV rfl];refine⟨hE,a,hv,?_⟩;rw[VM (by rw[WE]at hi;lia)]
   ·cases hm
  ·rw[oW c]at hm;obtain⟨hm,lt⟩:=gt hm;obtain⟨a,vs,h1,_⟩:=re.own m l ys hm;rw[oW (λz=>c z.symm)];refine⟨hm,a,h1,?_⟩;rw[VO lt]at h1;rw[VI c];exact h1
 ·have lt:∀{m:Nat}{l:Bool}{ys:List T},((E.take σ.length).set i (oZ (.o k xs)))[m]?=oZ (oZ (.o l ys))->m≠i->m<σ.length:=λ{m l ys}h1 c=>by
   rw[VI (λz=>c z.symm)]at h1;exact(gt h1).2
  by_cases c1:m=i
  ·by_cases c2:n=i
   ·rw[c1,c2]
   ·simp only[oV c1,oW c2]at h;have:=lt h2 c2
    lia
  ·by_cases c2:n=i
   ·simp only[oW c1,oV c2]at h;have:=lt h1 c1
    lia
   ·simp only[oW c1,oW c2]at h;exact h
theorem RE.frz{K:W.Frag}{B:fk->Prop}{H:Hp}{S:St}{E:En}(re:RE K B H S E){i:Nat}{xs:List T}(h:E[i]?=oZ (oZ (.o false xs))):RE K B H S (E.set i (oZ (.p (.lst xs))))/\∀b,Ow B S (E.set i (oZ (.p (.lst xs)))) b->Ow B S E b/\S[i]?≠oZ (oZ (.ref b)):=by
 have hi:i<E.length:=(UO.mp h).1;obtain⟨a,vs,h1,h2,h3,h4⟩:=re.own i false xs h;have get:∀{j:Nat}{u:U},(E.set i (oZ (.p (.lst xs))))[j]?=oZ (oZ u)->(j=i/\u = .p (.lst xs))\/(j≠i/\E[j]?=oZ (oZ u)):=λ{j u}hj=>by
  by_cases c:j=i
  ·subst c;rw[VM hi]at hj;cases hj;exact .inl ⟨rfl,rfl⟩
  ·rw[VI (λz=>c z.symm)]at hj;exact .inr ⟨c,hj⟩
 have ow:∀b,Ow B S (E.set i (oZ (.p (.lst xs)))) b->Ow B S E b/\S[i]?≠oZ (oZ (.ref b)):=λb z=>by
  obtain z|⟨j,k,ys,q1,q2⟩:=z
  ·refine⟨.inl z,λw=>?_⟩;rw[h1]at w;cases w;exact absurd (h4.mpr z) ∅
  obtain⟨_,z⟩|⟨c,q1⟩:=get q1
  ·cases z
  ·exact⟨.inr ⟨j,k,ys,q1,q2⟩,λz=>c (re.inj j i k false ys xs b q1 h q2 z)⟩
 have kl:Kp (Ow B S E) (Ow B S (E.set i (oZ (.p (.lst xs))))) H H:=Kp.less λb z=>(ow b z).1;refine⟨⟨by simp[re.len],λj t hj=>?_,λj k ys hj=>?_,λj m k l ys zs b q1 q2 q3 q4=>?_,re.bd⟩,ow⟩
 ·obtain⟨c,z⟩|⟨c,hj⟩:=get hj
  ·cases z;subst c;exact⟨_,h1,a,vs,rfl,.inl ⟨λz=>(ow a z).2 h1,.inl h2⟩,h3.step kl⟩
  ·obtain⟨w,q1,q2⟩:=re.pure j t hj;exact⟨w,q1,q2.step kl⟩
 ·obtain⟨_,z⟩|⟨c,hj⟩:=get hj
  ·cases z
  ·obtain⟨b,ws,q1,q2,q3,q4⟩:=re.own j k ys hj;exact⟨b,ws,q1,q2,q3.step kl,q4⟩
 ·obtain⟨_,z⟩|⟨_,q1⟩:=get q1
  ·cases z
  obtain⟨_,z⟩|⟨_,q2⟩:=get q2
  ·cases z
  exact re.inj j m k l ys zs b q1 q2 q3 q4
theorem RE.put{K:W.Frag}{B:fk->Prop}{H:Hp}{S:St}{E:En}(re:RE K B H S E){i:Nat}{k:Bool}{xs ys:List T}{a:fk}{ws:List V}(h:E[i]?=oZ (oZ (.o k xs)))(hS:S[i]?=oZ (oZ (.ref a)))(hw:cP K H (Ow B S E) ys ws):
  Gr B H S E (upd H a (.lst ws)) S (E.set i (oZ (.o k ys)))/\RE K B (upd H a (.lst ws)) S (E.set i (oZ (.o k ys))):=by
 have hi:i<E.length:=(UO.mp h).1;have get:∀{j:Nat}{u:U},(E.set i (oZ (.o k ys)))[j]?=oZ (oZ u)->(j=i/\u = .o k ys)\/(j≠i/\E[j]?=oZ (oZ u)):=λ{j u}hj=>by
  by_cases c:j=i
  ·subst c;rw[VM hi]at hj;cases hj;exact .inl ⟨rfl,rfl⟩
  ·rw[VI (λz=>c z.symm)]at hj;exact .inr ⟨c,hj⟩
 have ow:∀b,Ow B S (E.set i (oZ (.o k ys))) b->Ow B S E b:=λb z=>by
  obtain z|⟨j,l,zs,q1,q2⟩:=z
  ·exact .inl z
  obtain⟨c,z⟩|⟨c,q1⟩:=get q1
  ·subst c;exact .inr ⟨j,k,xs,h,q2⟩
  ·exact .inr ⟨j,l,zs,q1,q2⟩
 have oa:Ow B S E a:=.inr ⟨i,k,xs,h,hS⟩;have kk:∀b o,H b=oZ o->¬Ow B S E b->(upd H a (.lst ws)) b=oZ o:=λb o e n=>by rw[aV (λz=>n (by rw[z];exact oa))];exact e
 have kp:Kp (Ow B S E) (Ow B S E) H (upd H a (.lst ws)):=⟨kk,λb z=>.inl z⟩;refine⟨⟨⟨kk,λb z=>.inl (ow b z)⟩,[],by simp⟩,re.step kk (by simp) (λj t hj=>?_) (λj l zs hj=>?_) (λb hb=>?_)⟩
 ·obtain⟨_,z⟩|⟨_,hj⟩:=get hj
  ·cases z
  ·exact hj
 ·obtain⟨c,z⟩|⟨c,hj⟩:=get hj
  ·cases z;subst c;refine⟨xs,h,λb hb=>?_⟩;rw[hS]at hb;cases hb;exact⟨ws,cR,hw.step kp⟩
  ·refine⟨zs,hj,λb hb=>?_⟩;obtain⟨b',us,q1,q2,q3,_⟩:=re.own j l zs hj;rw[hb]at q1;cases q1;have nb:b≠a:=λz=>c (re.inj j i l k zs xs a hj h (by rw[<-z];exact hb) hS);exact⟨us,by rw[aV nb];exact q2,q3.step kp⟩
 ·by_cases c:b=a
  ·subst c;exact⟨ws,cR⟩
  ·rw[aV c];exact re.bd b hb
section
variable{X:Cx}{K:W.Frag}{pos:Pos}{a b c e o i:oC}{es rest:List oC}{Fa Fb Fc Fe Fo Fi:FE}{Fr:FA}{Fp Fq:FB}{F G:FS}{st:fq}{zk body b1' b2':List fq}
def uD:En->(En->Prop)->Prop
 |[],k=>k []
 |x::r,k=>uD r λr'=>k (x::r')
theorem dS:∀{E:En}{k:En->Prop},uD E k->k E
 |[],_,h=>h
 |x::r,k,h=>dS (E:=r) (k:=λr'=>k (x::r')) h
def zK:FS:=λD E=>D.nx E
def Gw(F G:FS):FS:=λD E=>F { D with nx:=λE'=>uD E' (G D) } E
theorem bE:QB X [] (eQ K zK):=Ox.le λD σ H zZ=>by obtain⟨B,E,DT,re,hF,l⟩:=zZ;exact l.nx _ _ _ hF (Kp.refl _ _) re
theorem aB(h1:QS X st (eQ K F))(h2:QB X zk (eQ K G)):QB X (st::zk) (eQ K (Gw F G)):=
 (qS h1 h2).le λD σ H zZ=>by obtain⟨B,E,DT,re,hF,l⟩:=zZ;exact⟨B,E,_,re,hF,⟨λσ' H' E' hG g ni=>⟨B,E',DT,ni,dS hG,l.step g⟩,l.rt,l.bk,l.ct⟩⟩
theorem aE(h1:QS X st (eQ K F)):QB X [st] (eQ K F):=pN h1
def MW(Fa:FE):FS:=λD E=>Fa E D.rt
theorem aG(h:QE X e (aH K Fa)):QS X (.Return (oZ e) pos) (eQ K (MW Fa)):=
 (Pb h).le λD σ H hl zZ=>by obtain⟨B,E,DT,re,hF,l⟩:=zZ;exact⟨B,σ,E,_,⟨[],by simp⟩,re,hF,λr E' v H' S' q g ni rr=>l.rt r E' v H' S' q g.kp ni rr⟩
theorem uH{D:Bool->Hp->Prop}{B:fk->Prop}{P:Bool->En->Prop}(re:RE K B H σ E)(hF:Fp E λb E'=>P b (E'.take E.length))(k:∀b H' E',P b E'->Gs B H σ E H' σ E'->RE K B H' σ E'->D b H'):i8 K Fp σ H D:=
 ⟨B,σ,E,_,⟨[],by simp⟩,re,hF,λb E' H' S' q g ni=>by
  obtain⟨r,ow⟩:=ni.cut (E:=E) g.pre re.len;exact k b H' _ q (g.kp.trans (Kp.less ow)) r⟩
theorem x8{P:R->En->En->Prop}{B:fk->Prop}(re:RE K B H σ E)(hF:Fa E λr E'=>P r E' (E'.take E.length))(k:∀r E' v H' S',P r E' (E'.take E.length)->Gr B H σ E H' S' E'->RE K B H' S' E'->RR K B H' S' E' r v->RE K B H' σ (E'.take E.length)->(∀b,Ow B σ (E'.take E.length) b->Ow B S' E' b)->Q v H'):aH K Fa σ H Q:=
 ⟨B,σ,E,_,⟨[],by simp⟩,re,hF,λr E' v H' S' q g ni rr=>by
  obtain⟨r2,ow⟩:=ni.cut (E:=E) g.pre re.len;exact k r E' v H' S' q g ni rr r2 ow⟩
def PB(Fp:FB)(F G:FS):FS:=λD E=>Fp E λb E'=>if b=true then uD (E'.take E.length) (F D)else uD (E'.take E.length) (G D)
theorem bP(hc:QT X c (i8 K Fp))(ha:QB X b1' (eQ K F))(hb:QB X b2' (eQ K G)):QS X (.If c b1' b2' pos) (eQ K (PB Fp F G)):=
 (D4 hc ha hb).le λD σ H hl⟨B,E,DT,re,hF,l⟩=>uH (P:=λb E'=>if b=true then uD E' (F DT)else uD E' (G DT)) re hF λb H' E' q g ni=>by
  cases b
  ·exact⟨B,E',DT,ni,dS q,l.step g⟩
  ·exact⟨B,E',DT,ni,dS q,l.step g⟩
def F1(Fa:FE):FS:=λD E=>Fa E λ_ E'=>D.nx (E'.take E.length)
theorem dY(he:QE X e (aH K Fa))(hs:ir e none pos.line X.env=pure false:=by rfl):QS X (.Expr e pos) (eQ K (F1 Fa)):=
 (xH he hs).le λD σ H hl zZ=>by obtain⟨B,E,DT,re,hF,l⟩:=zZ;exact x8 (P:=λ_ _ E'=>DT.nx E') re hF λr E' v H' S' q g ni rr rn ow=>l.nx _ _ _ q (g.kp.trans (Kp.less ow)) rn
def Y4(Fp:FB):FS:=λD E=>Fp E λb E'=>b=true/\D.nx (E'.take E.length)
theorem Vc(hc:QT X c (i8 K Fp)):QS X (.Assert c m pos) (eQ K (Y4 Fp)):=
 (Wf hc).le λD σ H hl zZ=>by obtain⟨B,E,DT,re,hF,l⟩:=zZ;exact uH (P:=λb E'=>b=true/\DT.nx E') re hF λb H' E' q g ni=>⟨q.1,l.nx _ _ _ q.2 g ni⟩
def Gk(n:Nat)(E:En):R->Option U
 |.p t=>oZ (.p t)
 |.s j=>match E[j]? with
  |some (oZ (.p t))=>oZ (.p t)
  |some (oZ (.o k xs))=>if n<=j then oZ (.o k xs)else none
  |_=>none
theorem lH{B:fk->Prop}{σ:St}{E:En}{i:Nat}(re:RE K B H S E)(hS:∃τ,S=σ++τ)(rr:RR K B H S E r v)(h:Gk σ.length E r=oZ u):
  RE K B H (σ.set i (oZ v)) ((E.take σ.length).set i (oZ u))/\∀b,Ow B (σ.set i (oZ v)) ((E.take σ.length).set i (oZ u)) b->Ow B S E b:=by
 have aFC:∀{t:T},Rp K H (Ow B S E) t v->RE K B H (σ.set i (oZ v)) ((E.take σ.length).set i (oZ (.p t)))/\∀b,Ow B (σ.set i (oZ v)) ((E.take σ.length).set i (oZ (.p t))) b->Ow B S E b:=λ{t}hp=>by
  obtain⟨τ,rfl⟩:=hS;have rn:=re.take σ.length;rw[show(σ++τ).take σ.length=σ by simp]at rn;have ow:∀b,Ow B σ (E.take σ.length) b->Ow B (σ++τ) E b:=λb z=>by
   obtain z|⟨j,k,xs,h1,h2⟩:=z
   ·exact .inl z
   have hj:j<σ.length:=(UO.mp h2).1;exact .inr ⟨j,k,xs,by rw[WY hj]at h1;exact h1,fW ⟨τ,rfl⟩ h2⟩
  obtain⟨q1,q2⟩:=rn.setP (i:=i) (hp.step (Kp.less ow));exact⟨q1,λb z=>ow b (q2 b z)⟩
 cases r with
 |p t=>cases h;exact aFC rr
 |s j=>
  cases q:E[j]? with
  |none=>simp only[Gk,q]at h;cases h
  |some w=>
   cases w with
   |none=>simp only[Gk,q]at h;cases h
   |some w=>
    cases w with
    |p t=>
     simp only[Gk,q]at h;cases h;obtain⟨v',h1,h2⟩:=re.pure j t q;have rr':S[j]?=oZ (oZ v):=rr;rw[rr']at h1;cases h1;exact aFC h2
    |o k xs=>
     simp only[Gk,q]at h;split at h
     ·cases h;rename_i c;exact re.setO hS c q rr
     ·cases h
def Kl(i:Nat)(Fa:FE):FS:=λD E=>Fa E λr E'=>o1 (Gk E.length E' r) λu=>D.nx ((E'.take E.length).set i (oZ u))
theorem Ms{i:Nat}{x:Str}(hN:X.N.Nodup)(hi:X.N[i]?=oZ x)(hx:uG X.env.scope x)(he:QE X e (aH K Fa))(hs:ir e (oZ (.Name x pos')) pos.line X.env=pure false:=by rfl)(hf:X.fn x=true\/X.env.scope.names.lookup x=oZ .local:=by first|exact .inl rfl|exact .inr rfl|assumption):QS X (.Assign [.Name x pos'] e pos) (eQ K (Kl i Fa)):=
 (Gp hN hi hx he hs hf).le λD σ H hl⟨B,E,DT,re,hF,l⟩=>⟨B,σ,E,_,⟨[],by simp⟩,re,hF,λr E' v H' S' q g ni rr=>by
  obtain⟨u,e1,q⟩:=q.ex;rw[<-re.len]at e1 q;obtain⟨r1,ow⟩:=lH (i:=i) ni g.pre rr e1;exact l.nx _ _ _ q (g.kp.trans (Kp.less ow)) r1⟩
end
abbrev FG:=T->En->(En->Prop)->Prop
abbrev AN:=List T->En->(En->Prop)->Prop
def rC(K:W.Frag)(G:FG):TG:=λv σ H Q=>∃B τ E t Q',RE K B H (σ++τ) E/\Rp K H (Ow B (σ++τ) E) t v/\G t E Q'/\∀σ' H' E',Q' E'->Gs B H (σ++τ) E H' (σ'++τ) E'->RE K B H' (σ'++τ) E'->σ'.length=σ.length->Q σ' H'
def Cw(K:W.Frag)(G:AN):AO:=λvs σ H Q=>∃B τ E ts Q',RE K B H (σ++τ) E/\cP K H (Ow B (σ++τ) E) ts vs/\G ts E Q'/\∀σ' H' E',Q' E'->Gs B H (σ++τ) E H' (σ'++τ) E'->RE K B H' (σ'++τ) E'->σ'.length=σ.length->Q σ' H'
def fZ(i:Nat):FG:=λt E Q=>Q (E.set i (oZ (.p t)))
def Na:AN:=λts E Q=>match ts with
 |[]=>Q E
 |_=>False
def mG(g:FG)(gs:AN):AN:=λts E Q=>match ts with
 |t::r=>g t E λE'=>gs r E' Q
 |[]=>False
def Nc(n:Nat)(gs:AN):FG:=λt E Q=>match t with
 |.tup ts=>cond (fe ts.length n) (gs ts E Q) False
 |_=>False
def RB(Fo Fi:FE):FG:=λt E Q=>Fo E λr E1=>Fi E1 λz E2=>match r with
 |.s j=>match E2[j]? with
  |some (oZ (.o k xs))=>i1 (vl E2 z) λm=>o1 (Lq xs.length m) λl=>Q ((E2.set j (oZ (.o k (xs.set l t)))).take E.length)
  |_=>False
 |_=>False
section
variable{X:Cx}{K:W.Frag}{pos:Pos}{a b c e o i:oC}{es rest:List oC}{Fa Fb Fc Fe Fo Fi:FE}{Fr:FA}{Fp Fq:FB}{F G:FS}{st:fq}{zk body:List fq}{g:FG}{gs:AN}
theorem jB{i:Nat}{x:Str}(hN:X.N.Nodup)(hi:X.N[i]?=oZ x)(hx:uG X.env.scope x)(hf:X.fn x=true\/X.env.scope.names.lookup x=oZ .local:=by first|exact .inl rfl|exact .inr rfl|assumption):QG X (.Name x pos) (rC K (fZ i)):=
 (m8 hN hi hx hf).le λv σ H Q hl zZ=>by
  obtain⟨B,τ,E,t,Q',re,rp,hF,l⟩:=zZ;have rk:i<σ.length:=by rw[hl];exact(UO.mp hi).1
  obtain⟨r1,ow⟩:=re.setP (i:=i) rp;rw[List.set_append_left _ _ rk]at r1 ow;exact l _ _ _ hF (Kp.less ow) r1 (by simp)
theorem cA:Tx X [] (Cw K Na):=xG.le λvs σ H Q zZ=>by
 obtain⟨B,τ,E,ts,Q',re,rp,hF,l⟩:=zZ;cases ts with
 |nil=>exact⟨rp,l _ _ _ hF (Kp.refl _ _) re rfl⟩
 |cons _ _=>exact hF.elim
theorem aK(h1:QG X e (rC K g))(h2:Tx X es (Cw K gs))(hs:(gv (e::es) X.env).map (·.2)=jg e X.env::(gv es X.env).map (·.2):=by rfl):Tx X (e::es) (Cw K (mG g gs)):=
 (kW h1 h2 hs).le λvs σ H Q zZ=>by
  obtain⟨B,τ,E,ts,Q',re,rp,hF,l⟩:=zZ;cases ts with
  |nil=>exact hF.elim
  |cons t ts=>
   obtain⟨v,r,e1,h1,h2⟩:=rp;exact⟨v,r,e1,B,τ,E,t,_,re,h1,hF,λσ' H' E' q g ni hl=>⟨B,τ,E',ts,Q',ni,h2.step g,q,λσ2 H2 E2 q2 g2 rn hl2=>l _ _ _ q2 (g.trans g2) rn (hl2.trans hl)⟩⟩
theorem dA(eK:X.K=K)(hc:X.calm=true)(h:Tx X es (Cw K gs))(hn:(gv es X.env).length=n:=by rfl)(xw:(gv es X.env).findIdx? (·.1)=none:=by rfl):QG X (.Tuple es k pos) (rC K (Nc n gs)):=by
 subst eK;refine(Gn hc h hn xw).le λv σ H Q hl zZ=>?_;obtain⟨B,τ,E,t,Q',re,rp,hF,l⟩:=zZ;cases t with
 |tup ts=>
  have hF':cond (fe ts.length n) (gs ts E Q') False:=hF;cases q:fe ts.length n with
  |false=>rw[q]at hF';exact hF'.elim
  |true=>
   rw[q]at hF';obtain⟨p,vs,e1,sq,rs⟩:=rp.sqT;exact⟨p,vs,e1,sq,by rw[rs.length];exact Nat.eq_of_beq_eq_true q,B,τ,E,ts,Q',re,rs,hF',l⟩
 |_=>exact hF.elim
theorem Mq(ho:QE X o (aH K Fo))(hi:QE X i (aH K Fi))(ha:∀v,jg (.Subscript o i pos) X.env v=(do
   let ov <-jd [v] (ie o X.env)
   let iv <-jd [v,ov] (ie i X.env)
   standAt pos
   jd [v,ov,iv] (setItem ov iv v)
   release [v,ov,iv] []):=by intro _;rfl):QG X (.Subscript o i pos) (rC K (RB Fo Fi)):=by
 refine(Oz ho hi Ad ha).le λv σ H Q hl zZ=>?_;obtain⟨B,τ,E,t,Q',re,rp,hF,l⟩:=zZ;refine⟨B,σ++τ,E,_,⟨τ,rfl⟩,re,hF,λr E1 w H1 S1 q g1 mz rr=>?_⟩;obtain⟨τ1,wc⟩:=g1.pre;refine⟨B,S1,E1,_,⟨τ++τ1,by rw[wc,VH]⟩,mz,q,λz E2 y H2 S2 q2 g2 rn rr2=>?_⟩;have g12:=g1.trans g2;cases r with
 |p _=>exact q2.elim
 |s j=>
  have rj:S2[j]?=oZ (oZ w):=fW g2.pre rr;cases hE:E2[j]? with
  |none=>simp only[hE]at q2
  |some u=>
   cases u with
   |none=>simp only[hE]at q2
   |some u=>
    cases u with
    |p _=>simp only[hE]at q2
    |o k xs=>
     simp only[hE]at q2;obtain⟨m,e1,q2⟩:=q2.ex;obtain⟨n,e2,q2⟩:=q2.ex;obtain⟨p,vs,h1,h2,h3,h4⟩:=rn.own j k xs hE;rw[rj]at h1;cases h1;refine⟨p,vs,m,n,rfl,rn.int rr2 e1,h2,by rw[h3.length];exact e2,?_⟩;obtain⟨g3,ud⟩:=rn.put (ys:=xs.set n t) (ws:=vs.set n v) hE rj (h3.set (rp.step g12.kp) n);obtain⟨xx,ow⟩:=ud.cut (E:=E) (g12.trans g3).pre re.len;exact l _ _ _ q2 ((g12.trans g3).kp.trans (Kp.less ow)) xx rfl
def RW(Fa:FE)(g:FG):FS:=λD E=>Fa E λr E'=>match r with
 |.p t=>g t (E'.take E.length) D.nx
 |.s _=>False
theorem gG(he:QE X e (aH K Fa))(hg:QG X tg (rC K g))(hs:je [tg] e pos.line X.env=pure false:=by rfl)(hw:jf [tg] e X.env=pure none:=by rfl)(h1:(gv [tg] X.env).map (·.2)=[jg tg X.env]:=by rfl):QS X (.Assign [tg] e pos) (eQ K (RW Fa g)):=
 (D3 he hg hs hw h1).le λD σ H hl⟨B,E,DT,re,hF,l⟩=>x8 (P:=λr _ E'=>match r with|.p t=>g t E' DT.nx|.s _=>False) re hF λr E' v H' S' q g' ni rr rn ow=>by
  cases r with
  |s _=>exact q.elim
  |p t=>exact⟨B,[],_,t,_,by rw[WJ];exact rn,by rw[WJ];exact Rp.step (Kp.less ow) rr,q,λσ2 H2 E2 q2 g2 ud _=>by rw[WJ]at g2 ud;rw[WJ]at g2;exact l.nx _ _ _ q2 ((g'.kp.trans (Kp.less ow)).trans g2) ud⟩
def RX(i j:Nat)(Fr:FA):FS:=λD E=>Fr E λrs E'=>match rs with
 |[.p t,r]=>o1 (Gk E.length E' r) λu=>D.nx (((E'.take E.length).set j (oZ u)).set i (oZ (.p t)))
 |[r,.p t]=>o1 (Gk E.length E' r) λu=>D.nx (((E'.take E.length).set i (oZ u)).set j (oZ (.p t)))
 |_=>False
theorem dZ{n i j:Nat}{x y:Str}{kt k2 pt2}(hc:X.calm=true)(hN:X.N.Nodup)(hi:X.N[i]?=oZ x)(hj:X.N[j]?=oZ y)(hij:i≠j)(hx:X.env.scope.names.lookup x=oZ .local)(hy:X.env.scope.names.lookup y=oZ .local)(ha:QA X [a,b] (cM K n Fr))(hw:jf [.Tuple [.Name x px,.Name y py] kt pt] (.Tuple [a,b] k2 pt2) X.env=pure (oZ [x,y]))(hs:je [.Tuple [.Name x px,.Name y py] kt pt] (.Tuple [a,b] k2 pt2) pos.line X.env=pure false:=by rfl):
  QS X (.Assign [.Tuple [.Name x px,.Name y py] kt pt] (.Tuple [a,b] k2 pt2) pos) (eQ K (RX i j Fr)):=by
 refine(HS hc hN hi hj hij hx hy ha hw hs).le λD σ H hl⟨B,E,DT,re,hF,l⟩=>⟨B,σ,E,_,⟨[],by simp⟩,re,hF,λrs E' vs H' S' q g ni rr hn=>?_⟩;split at q
 ·rename_i t r;obtain⟨v,ws,e1,h1,w,ws',e2,h2,h3⟩:=rr;cases h3;subst e2;subst e1;obtain⟨u,e3,q⟩:=q.ex;rw[<-re.len]at e3 q;obtain⟨r1,ow⟩:=lH (i:=j) ni g.pre h2 e3;obtain⟨r2,ow2⟩:=r1.setP (i:=i) (Rp.step (Kp.less ow) h1);refine⟨v,w,rfl,?_⟩;rw[YB _ _ hij];exact l.nx _ _ _ q (g.kp.trans (Kp.less λb z=>ow b (ow2 b z))) r2
 ·rename_i r t _;obtain⟨v,ws,e1,h1,w,ws',e2,h2,h3⟩:=rr;cases h3;subst e2;subst e1;obtain⟨u,e3,q⟩:=q.ex;rw[<-re.len]at e3 q;obtain⟨r1,ow⟩:=lH (i:=i) ni g.pre h1 e3;obtain⟨r2,ow2⟩:=r1.setP (i:=j) (Rp.step (Kp.less ow) h2);exact⟨v,w,rfl,l.nx _ _ _ q (g.kp.trans (Kp.less λb z=>ow b (ow2 b z))) r2⟩
 ·exact q.elim
def MT(f:Int->Int->Int)(i:Nat)(Fa:FE):FS:=λD E=>match E[i]? with
 |some (oZ (.p (.int x)))=>Fa E λr E'=>i1 (vl E' r) λy=>D.nx ((E'.take E.length).set i (oZ (.p (.int (f x y)))))
 |_=>False
theorem Yj{i:Nat}{x:Str}{f:Int->Int->Int}(hN:X.N.Nodup)(hi:X.N[i]?=oZ x)(hx:uG X.env.scope x)(he:QE X e (aH K Fa))(ho:PN X op (SK f))(hf:X.fn x=true\/X.env.scope.names.lookup x=oZ .local:=by first|exact .inl rfl|exact .inr rfl|assumption):
  QS X (.AugAssign (.Name x pos') op e pos) (eQ K (MT f i Fa)):=by
 refine QS.le ⟨HB hN hi hx he.h ho hf⟩ λD σ H hl zZ=>?_;obtain⟨B,E,DT,re,hF,l⟩:=zZ;unfold MT at hF;split at hF
 ·rename_i y hE;obtain⟨v,h1,h2⟩:=re.pure i _ hE;cases h2;refine⟨_,h1,x8 (P:=λr E' E2=>i1 (vl E' r) λz=>DT.nx (E2.set i (oZ (.p (.int (f y z)))))) re hF λr E' v H' S' q g' ni rr rn ow=>?_⟩;obtain⟨z,e1,q⟩:=q.ex;obtain⟨r1,ow2⟩:=rn.setP (i:=i) (t:=.int (f y z)) (v:=.int (f y z)) rfl;exact⟨y,z,rfl,ni.int rr e1,l.nx _ _ _ q (g'.kp.trans (Kp.less λb z=>ow b (ow2 b z))) r1⟩
 ·exact hF.elim
def IC(Fp:FB)(F:FS):FS:=λD E=>∃W:Nat->En->Prop,(∃m,W m E)/\∀m E,W m E->Fp E λb E'=>if b=true then F { D with nx:=λE2=>∃m',m'<m/\W m' E2,ct:=λE2=>∃m',m'<m/\W m' E2,bk:=D.nx } (E'.take E.length)else D.nx (E'.take E.length)
theorem pG(hp:PassesOwn (ft X.prog X.w) X.A X.env X.xe)(hc:QT X c (i8 K Fp))(hb:QB X body (eQ K F)):QS X (.While c body [] pos) (eQ K (IC Fp F)):=by
 refine(D5 hp hc hb).le λD σ H hl zZ=>?_;obtain⟨B,E,DT,re,⟨W,⟨m0,w0⟩,hF⟩,l⟩:=zZ;refine⟨λm σ' H'=>∃E',W m E'/\Gs B H σ E H' σ' E'/\RE K B H' σ' E',⟨m0,E,w0,Kp.refl _ _,re⟩,?_⟩;rintro m σ1 H1 ⟨E1,w1,g1,mz⟩;refine uH (P:=λb E'=>if b=true then F { DT with nx:=λE2=>∃m',m'<m/\W m' E2,ct:=λE2=>∃m',m'<m/\W m' E2,bk:=DT.nx } E' else DT.nx E') mz (hF m E1 w1) λb H2 E2 q g2 rn=>?_;cases b
 ·exact l.nx _ _ _ q (g1.trans g2) rn
 ·refine⟨λσ' H'=>∃m',m'<m/\∃E',W m' E'/\Gs B H σ E H' σ' E'/\RE K B H' σ' E',λσ' H' z=>z,B,E2,_,rn,q,?_⟩;have l2:=l.step (g1.trans g2);exact⟨λσ' H' E' zZ g ni=>by obtain⟨m',hm,w⟩:=zZ;exact⟨m',hm,E',w,(g1.trans g2).trans g,ni⟩,l2.rt,λσ' H' E' z g ni=>l2.nx _ _ _ z g ni,λσ' H' E' zZ g ni=>by obtain⟨m',hm,w⟩:=zZ;exact⟨m',hm,E',w,(g1.trans g2).trans g,ni⟩⟩
structure Dm(K:W.Frag)(J:It)(items:List T)(gd:Hp->(fk->Prop)->Prop):Prop where
 keep:∀H H' O O',Kp O O' H H'->gd H O->gd H' O'
 go:∀i H O,gd H O->i<items.length->J.go i H
 yld:∀i H O x H' t,gd H O->items[i]?=oZ t->(∀a,O a->H a≠none)->J.yld i H x H'->Kp O O H H'/\(∀b o,H b=oZ o->H' b=oZ o)/\Rp K H' O t x
 stop:∀H O,gd H O->J.stop items.length H
abbrev FI:=En->(List T->List Nat->En->Prop)->Prop
def lC(K:W.Frag)(F:FI):TI:=λσ H R=>∃B S E Q',(∃τ,S=σ++τ)/\RE K B H S E/\F E Q'/\∀J items us E' H' S' gd,Q' items us E'->Gr B H S E H' S' E'->RE K B H' S' E'->Dm K J items gd->(∀j∈us,∃k xs,E'[j]?=oZ (oZ (U.o k xs)))->
 (∀O:fk->Prop,(∀b,O b->Ow B S' E' b)->(∀j∈us,∀a,S'[j]?=oZ (oZ (.ref a))->¬O a)->gd H' O)->R J H'
def frzs:List Nat->En->Option En
 |[],E=>oZ E
 |j::us,E=>match E[j]? with
  |some (oZ (.o false xs))=>frzs us (E.set j (oZ (.p (.lst xs))))
  |_=>none
theorem w6{B:fk->Prop}:∀{us:List Nat}{E E':En},RE K B H S E->frzs us E=oZ E'->RE K B H S E'/\(∀b,Ow B S E' b->Ow B S E b)/\(∀j∈us,∀a,S[j]?=oZ (oZ (.ref a))->¬Ow B S E' a)/\E'.length=E.length
 |[],E,E',re,h=>by cases h;exact⟨re,λb z=>z,λj hj=>absurd hj (by simp),rfl⟩
 |j::us,E,E',re,h=>by
  cases q:E[j]? with
  |none=>simp only[frzs,q]at h;cases h
  |some u=>
   cases u with
   |none=>simp only[frzs,q]at h;cases h
   |some u=>
    cases u with
    |p t=>simp only[frzs,q]at h;cases h
    |o k xs=>
     cases k
     ·simp only[frzs,q]at h;obtain⟨s1,s2⟩:=re.frz q;obtain⟨r1,r2,r3,r4⟩:=w6 s1 h;refine⟨r1,λb z=>(s2 b (r2 b z)).1,λm hm a ha z=>?_,by rw[r4];simp⟩;obtain rfl|hm:=UZ.mp hm
      ·exact(s2 a (r2 a z)).2 ha
      ·exact r3 m hm a ha z
     ·simp only[frzs,q]at h;cases h
def gF(g:FG)(F:FS)(D:ET):List T->En->Prop
 |[],E=>D.nx E
 |x::xs,E=>g x E λE'=>uD E' (F { D with nx:=gF g F D xs,ct:=gF g F D xs,bk:=D.nx })
def MU(I:FI)(g:FG)(F:FS):FS:=λD E=>I E λitems us E'=>o1 (frzs us E') λE2=>uD (E2.take E.length) (gF g F D items)
theorem jS(hp:PassesOwn (ft X.prog X.w) X.A X.env X.xe)(hc:X.calm=true)(hi:QI X tg iter (lC K I))(hg:QG X tg (rC K g))(hb:QB X body (eQ K F))(hs:∀x,gw iter X.env x=pure x:=by intro _;rfl):
  QS X (.For tg iter body [] pos) (eQ K (MU I g F)):=by
 refine(Pa hp hc hi hg hb hs).le λD σ H hl zZ=>?_;obtain⟨B,E,DT,re,hF,l⟩:=zZ;refine⟨B,σ,E,_,⟨[],by simp⟩,re,hF,λJ items us E1 H1 S1 gd q g1 mz ok _ hgd=>?_⟩;obtain⟨E2,e2,q⟩:=q.ex;replace q:=dS q;obtain⟨f1,f2,f3,f4⟩:=w6 mz e2;obtain⟨c1,c2⟩:=f1.cut (E:=E) g1.pre re.len;have gs:Gs B H σ E H1 σ (E2.take E.length):=g1.kp.trans ((Kp.less f2).trans (Kp.less c2));have gd1:gd H1 (Ow B σ (E2.take E.length)):=hgd _ (λb z=>f2 b (c2 b z)) λj hj a ha z=>f3 j hj a ha (c2 a z);refine⟨λi m σ' H'=>m=items.length-i/\i<=items.length/\∃E',gF g F DT (items.drop i) E'/\Gs B H σ E H' σ' E'/\RE K B H' σ' E'/\gd H' (Ow B σ' E'),⟨_,rfl,UU _,_,q,gs,c1,gd1⟩,?_⟩;rintro i m σ2 H2 ⟨rfl,xt,E3,q3,g3,ud,xy⟩;obtain rk|hge:=WG i items.length
 ·have hd:items.drop i=items[i]::items.drop (i+1):=WH rk;rw[hd]at q3;refine .inr ⟨ok.go i H2 _ xy rk,λσ' H'=>∃E',gF g F DT (items.drop (i+1)) E'/\Gs B H σ E H' σ' E'/\RE K B H' σ' E'/\gd H' (Ow B σ' E'),λσ' H' zZ=>by obtain⟨E',z⟩:=zZ;exact⟨items.length-(i+1),⋯,rfl,rk,E',z⟩,λx H4 y=>?_⟩;obtain⟨k4,s4,rp⟩:=ok.yld i H2 _ x H4 _ xy (UP rk) (λa z=>by obtain⟨vs,e⟩:=ud.ow z;rw[e];intro z;cases z) y;have xx:=ud.kept s4;have gd4:=ok.keep _ _ _ _ k4 xy;refine⟨B,[],E3,_,_,by rw[WJ];exact xx,by rw[WJ];exact rp,q3,λσ5 H5 E5 q5 g5 xu hl5=>?_⟩;rw[WJ]at g5 xu;rw[WJ]at g5;have gd5:=ok.keep _ _ _ _ g5 gd4;have gg:=(g3.trans k4).trans g5;have l5:=l.step gg;refine⟨B,E5,_,xu,dS q5,?_⟩;exact⟨λσ' H' E' z g ni=>⟨E',z,gg.trans g,ni,ok.keep _ _ _ _ g gd5⟩,l5.rt,λσ' H' E' z g ni=>l5.nx _ _ _ z g ni,λσ' H' E' z g ni=>⟨E',z,gg.trans g,ni,ok.keep _ _ _ _ g gd5⟩⟩
 ·have ei:i=items.length:=⋯
  subst ei;rw[XQ]at q3;exact .inl ⟨ok.stop H2 _ xy,l.nx _ _ _ q3 g3 ud⟩
def qK(E:En):R->List Nat
 |.p _=>[]
 |.s j=>match E[j]? with
  |some (oZ (.o _ _))=>[j]
  |_=>[]
theorem nV:∀j∈qK E r,∃k xs,E[j]?=oZ (oZ (U.o k xs)):=λj hj=>by
 cases r with
 |p _=>simp[qK]at hj
 |s m=>
  cases q:E[m]? with
  |none=>simp[qK,q]at hj
  |some u=>
   cases u with
   |none=>simp[qK,q]at hj
   |some u=>
    cases u with
    |p _=>simp[qK,q]at hj
    |o k xs=>simp[qK,q]at hj;subst hj;exact⟨k,xs,q⟩
theorem mK{B:fk->Prop}(re:RE K B H S E)(rr:RR K B H S E r v)(e:vl E r=oZ t)(O:fk->Prop)(hO:∀b,O b->Ow B S E b)(hu:∀j∈qK E r,∀a,S[j]?=oZ (oZ (.ref a))->¬O a):Rp K H O t v:=by
 cases r with
 |p u=>cases e;exact Rp.step (Kp.less hO) rr
 |s j=>
  have rr':S[j]?=oZ (oZ v):=rr;cases q:E[j]? with
  |none=>simp only[vl,q]at e;cases e
  |some u=>
   cases u with
   |none=>simp only[vl,q]at e;cases e
   |some u=>
    cases u with
    |p u=>
     simp only[vl,q]at e;cases e;obtain⟨w,h1,h2⟩:=re.pure j _ q;rw[rr']at h1;cases h1;exact h2.step (Kp.less hO)
    |o k xs=>
     simp only[vl,q]at e;cases e;obtain⟨a,vs,h1,h2,h3,_⟩:=re.own j k xs q;rw[rr']at h1;cases h1;exact⟨a,vs,rfl,.inl ⟨hu j (by simp[qK,q]) a rr',.inl h2⟩,h3.step (Kp.less hO)⟩
theorem EX:Dm K (PJ K p) xs (λH O=>Rp K H O (.lst xs) (.ref p)):=by
 refine⟨λH H' O O' k h=>Rp.step k h,λi H O h hi=>?_,λi H O x H' t h e _ y=>?_,λH O h=>?_⟩
 ·obtain⟨a,vs,e,sq,rs⟩:=h.sqL;cases e;exact⟨vs,vs[i]'(by rw[rs.length];exact hi),sq,UP _⟩
 ·obtain⟨e1,y⟩:=y;subst e1;obtain⟨a,vs,e2,sq,rs⟩:=h.sqL;cases e2;obtain⟨v,h1,h2⟩:=rs.get e;rw[y vs sq]at h1;cases h1;exact⟨Kp.refl _ _,λ_ _ z=>z,h2⟩
 ·obtain⟨a,vs,e,sq,rs⟩:=h.sqL;cases e;exact⟨vs,sq,by rw[rs.length];exact VA _⟩
theorem EZ:Dm K (PK K p) xs (λH O=>Rp K H O (.tup xs) (.ref p)):=by
 refine⟨λH H' O O' k h=>Rp.step k h,λi H O h hi=>?_,λi H O x H' t h e _ y=>?_,λH O h=>?_⟩
 ·obtain⟨a,vs,e,sq,rs⟩:=h.sqT;cases e;exact⟨vs,vs[i]'(by rw[rs.length];exact hi),sq,UP _⟩
 ·obtain⟨e1,y⟩:=y;subst e1;obtain⟨a,vs,e2,sq,rs⟩:=h.sqT;cases e2;obtain⟨v,h1,h2⟩:=rs.get e;rw[y vs sq]at h1;cases h1;exact⟨Kp.refl _ _,λ_ _ z=>z,h2⟩
 ·obtain⟨a,vs,e,sq,rs⟩:=h.sqT;cases e;exact⟨vs,sq,by rw[rs.length];exact VA _⟩
def kC(lo:Int)(n:Nat):List T:=(VC n).map λ(i:Nat)=>T.int (lo+(i:Int))
theorem Ki{lo:Int}:(kC lo n).length=n:=by simp[kC]
theorem Zc{lo:Int}:Dm K (IS lo n) (kC lo n) (λ_ _=>True):=by
 refine⟨λ_ _ _ _ _ h=>h,λi H O _ hi=>by show i<n;simpa[kC]using hi,λi H O x H' t _ e _ y=>?_,λH O _=>by simp[IS,kC]⟩;obtain⟨e1,y⟩:=y;subst e1;subst y;unfold kC at e;rw[UQ]at e;have hi:i<n:=by
  obtain c|c:=WG i n
  ·exact c
  ·rw[WT (by simpa using c)]at e;cases e
 rw[WS hi]at e;cases e;exact⟨Kp.refl _ _,λ_ _ z=>z,rfl⟩
theorem EW:Dm K (PH K p) (xs.zipIdx.map λq=>T.tup [.int (q.2:Int),q.1]) (λH O=>Rp K H O (.lst xs) (.ref p)):=by
 refine⟨λH H' O O' k h=>Rp.step k h,λi H O h hi=>?_,λi H O x H' t h e hO y=>?_,λH O h=>?_⟩
 ·obtain⟨a,vs,e,sq,rs⟩:=h.sqL;cases e;have xt:i<xs.length:=by simpa using hi
  exact⟨vs,vs[i]'(by rw[rs.length];exact xt),sq,UP _⟩
 ·obtain⟨pp,w,e1,hp,e2,y⟩:=y;subst e1;subst e2;obtain⟨a,vs,e3,sq,rs⟩:=h.sqL;cases e3;rw[UQ]at e;cases q:xs.zipIdx[i]? with
  |none=>rw[q]at e;cases e
  |some z=>
   rw[q]at e;cases e;obtain⟨q1,q2⟩:=UO.mp q;have q1':i<xs.length:=by simpa using q1
   rw[List.getElem_zipIdx]at q2;subst q2;obtain⟨v,h1,h2⟩:=rs.get (UP q1');rw[y vs sq]at h1;cases h1;have k:Kp O O H (upd H pp (.tup [.int (i:Int),w])):=Kp.upd hp;refine⟨k,λb o z=>by rw[aV (a9 z hp)];exact z,pp,_,rfl,.inl ⟨λz=>hO pp z hp,cR⟩,_,_,rfl,?_,w,[],rfl,h2.step k,rfl⟩;simp[Rp]
 ·obtain⟨a,vs,e,sq,rs⟩:=h.sqL;cases e;exact⟨vs,sq,by simp[rs.length]⟩
def iL(Fa:FE):FI:=λE Q=>Fa E λr E1=>match vl E1 r with
 |some (.lst xs)=>Q xs (qK E1 r) E1
 |_=>False
def iT(Fa:FE):FI:=λE Q=>Fa E λr E1=>match vl E1 r with
 |some (.tup xs)=>Q xs [] E1
 |_=>False
theorem gT(eK:X.K=K)(hl:QE X l (aH K Fa)):QI X tg l (lC K (iL Fa)):=by
 subst eK;refine(X2 hl).le λσ H R hn⟨B,S,E,Q',hS,re,hF,lk⟩=>⟨B,S,E,_,hS,re,hF,λr E1 v H1 S1 q g mz rr=>?_⟩;split at q
 ·rename_i xs e1;obtain⟨a,vs,e2,sq,rs⟩:=mz.vl rr e1;exact⟨a,e2,⟨vs,sq⟩,lk _ _ _ _ _ _ _ q g mz EX nV λO h1 h2=>by rw[<-e2];exact mK mz rr e1 O h1 h2⟩
 ·exact q.elim
theorem EI(eK:X.K=K)(hl:QE X l (aH K Fa)):QI X tg l (lC K (iT Fa)):=by
 subst eK;refine(HR hl).le λσ H R hn⟨B,S,E,Q',hS,re,hF,lk⟩=>⟨B,S,E,_,hS,re,hF,λr E1 v H1 S1 q g mz rr=>?_⟩;split at q
 ·rename_i xs e1;obtain⟨a,vs,e2,sq,rs⟩:=mz.vl rr e1;refine⟨a,e2,⟨vs,sq⟩,lk _ _ _ _ _ _ _ q g mz EZ (λj hj=>absurd hj (by simp)) λO h1 h2=>?_⟩;rw[<-e2];refine mK mz rr e1 O h1 λj hj=>?_;cases r with
  |p _=>simp[qK]at hj
  |s m=>
   cases q2:E1[m]? with
   |none=>simp only[vl,q2]at e1;cases e1
   |some u=>
    cases u with
    |none=>simp only[vl,q2]at e1;cases e1
    |some u=>
     cases u with
     |p u=>simp[qK,q2]at hj
     |o k ys=>simp only[vl,q2]at e1;cases e1
 ·exact q.elim
def UC(Fr:FA):FI:=λE Q=>Fr E λrs E1=>match rs with
 |[x]=>i1 (vl E1 x) λj=>(-(2^62)<=j/\j<2^62)/\Q (kC 0 j.toNat) [] E1
 |_=>False
def UD(Fr:FA):FI:=λE Q=>Fr E λrs E1=>match rs with
 |[x,y]=>i2 (vl E1 x) (vl E1 y) λi j=>(-(2^62)<=i/\i<2^62/\-(2^62)<=j/\j<2^62)/\Q (kC i (j-i).toNat) [] E1
 |_=>False
theorem g9(hg:Gl X "range")(hm:X.mg "range" = none)(ha:QA X [a] (cM K n Fr))(hs:a8 a=false:=by rfl):QI X tg (.Call (.Name "range" p) [a] [] pos) (lC K (UC Fr)):=by
 refine(Wd hg hm ha hs).le λσ H R hn⟨B,S,E,Q',hS,re,hF,lk⟩=>⟨B,S,E,_,hS,re,hF,λrs E1 vs H1 S1 q g mz rr hn=>?_⟩;obtain _|⟨x,_|⟨_,_⟩⟩:=rs
 ·exact False.elim q
 ·obtain⟨v,ws,e1,h1,h2⟩:=rr;cases h2;subst e1;obtain⟨j,e2,c,q⟩:=i1.ex q;exact⟨j,by rw[mz.int h1 e2],c.1,c.2,lk _ _ _ _ _ _ _ q g mz Zc (λj hj=>absurd hj (by simp)) λ_ _ _=>trivial⟩
 ·exact False.elim q
theorem Cd(hg:Gl X "range")(hm:X.mg "range" = none)(ha:QA X [a,b] (cM K n Fr))(hs:a8 a=false:=by rfl)(xp:a8 b=false:=by rfl):QI X tg (.Call (.Name "range" p) [a,b] [] pos) (lC K (UD Fr)):=by
 refine(We hg hm ha hs xp).le λσ H R hn⟨B,S,E,Q',hS,re,hF,lk⟩=>⟨B,S,E,_,hS,re,hF,λrs E1 vs H1 S1 q g mz rr hn=>?_⟩;obtain _|⟨x,_|⟨y,_|⟨_,_⟩⟩⟩:=rs
 ·exact False.elim q
 ·exact False.elim q
 ·obtain⟨v,ws,e1,h1,w,ws',e2,h2,h3⟩:=rr;cases h3;subst e2;subst e1;obtain⟨i,j,e3,e4,c,q⟩:=i2.ex q;exact⟨i,j,by rw[mz.int h1 e3,mz.int h2 e4],c,lk _ _ _ _ _ _ _ q g mz Zc (λj hj=>absurd hj (by simp)) λ_ _ _=>trivial⟩
 ·exact False.elim q
def iE(Fr:FA):FI:=λE Q=>Fr E λrs E1=>match rs with
 |[r]=>(match vl E1 r with
  |some (.lst xs)=>Q (xs.zipIdx.map λq=>T.tup [.int (q.2:Int),q.1]) (qK E1 r) E1
  |_=>False)
 |_=>False
theorem Rh{x1}(eK:X.K=K)(hg:Gl X "enumerate")(hm:X.mg "enumerate" = none)(ha:QA X [a] (cM K n Fr))(hs:a8 a=false:=by rfl):QI X (.Tuple elts x1 xq) (.Call (.Name "enumerate" p) [a] [] pos) (lC K (iE Fr)):=by
 subst eK;refine(X1 hg hm ha hs).le λσ H R hn⟨B,S,E,Q',hS,re,hF,lk⟩=>⟨B,S,E,_,hS,re,hF,λrs E1 vs H1 S1 q g mz rr hn=>?_⟩;obtain _|⟨r,_|⟨_,_⟩⟩:=rs
 ·exact False.elim q
 ·obtain⟨v,ws,e1,h1,h2⟩:=rr;cases h2;subst e1;simp only at q;split at q
  ·rename_i xs e1;obtain⟨a,vs,e2,sq,rs⟩:=mz.vl h1 e1;exact⟨a,by rw[e2],⟨vs,sq⟩,lk _ _ _ _ _ _ _ q g mz EW nV λO k1 k2=>by rw[<-e2];exact mK mz h1 e1 O k1 k2⟩
  ·exact q.elim
 ·exact False.elim q
end
mutual
def noL:T->Bool
 |.lst _=>false
 |.tup xs=>bM xs
 |_=>true
def bM:List T->Bool
 |[]=>true
 |x::xs=>noL x&&bM xs
end
def iC(H:Hp)(a:fk):Prop:=∃ws,H a=oZ (.lst ws)
section
variable{K:W.Frag}{H:Hp}{O O':fk->Prop}
mutual
theorem Rp.noL(hO:∀a,O' a->iC H a):∀{t:T}{v:V},L2.noL t=true->Rp K H O t v->Rp K H O' t v
 |.non,_,_,h=>h
 |.bl _,_,_,h=>h
 |.int _,_,_,h=>h
 |.str _,_,_,h=>h
 |.lst _,_,e,_=>by simp[L2.noL]at e
 |.tup xs,v,e,h=>by
  obtain⟨a,vs,e1,h1,h2⟩:=h;refine⟨a,vs,e1,h1.imp (λ⟨_,h⟩=>⟨λz=>?_,h⟩) id,cP.noL hO (by simpa[L2.noL]using e) h2⟩;obtain⟨ws,q⟩:=hO a z;rw[h]at q;cases q
theorem cP.noL(hO:∀a,O' a->iC H a):∀{xs:List T}{vs:List V},bM xs=true->cP K H O xs vs->cP K H O' xs vs
 |[],_,_,h=>h
 |x::xs,vs,e,h=>by
  obtain⟨v,r,e1,h1,h2⟩:=h;have e':L2.noL x=true/\bM xs=true:=by simpa[bM]using e
  exact⟨v,r,e1,Rp.noL hO e'.1 h1,cP.noL hO e'.2 h2⟩
end
end
theorem RE.push{K:W.Frag}{B:fk->Prop}{H':Hp}{S:St}{E:En}(re:RE K B H' S E){a:fk}{ts:List T}{vs:List V}(ha:H' a=oZ (.lst vs))(hn:¬Ow B S E a)(hb:¬B a)(hp:∀(i:Nat)(t:T),E[i]?=oZ (oZ (.p t))->∃v,S[i]?=oZ (oZ v)/\Rp K H' (λb=>Ow B S E b\/b=a) t v)(ho:∀(i:Nat)(k:Bool)(xs:List T),E[i]?=oZ (oZ (.o k xs))->∃b ws,S[i]?=oZ (oZ (.ref b))/\H' b=oZ (.lst ws)/\cP K H' (λb=>Ow B S E b\/b=a) xs ws)(h:cP K H' (λb=>Ow B S E b\/b=a) ts vs):
  RE K B H' (S++[oZ (.ref a)]) (E++[oZ (.o false ts)])/\∀b,Ow B (S++[oZ (.ref a)]) (E++[oZ (.o false ts)]) b->Ow B S E b\/b=a:=by
 have gE:∀{i:Nat}{u:U},(E++[oZ (.o false ts)])[i]?=oZ (oZ u)->(E[i]?=oZ (oZ u)/\i<E.length)\/(i=E.length/\u = .o false ts):=λ{i u}h=>by
  obtain⟨c,h⟩|⟨c,h⟩:=yS h
  ·exact .inl ⟨h,c⟩
  ·exact .inr ⟨c,Option.some.inj h⟩
 have gS:∀{i:Nat}{x:Option V},S[i]?=oZ x->(S++[oZ (.ref a)])[i]?=oZ x:=λ{i x}h=>fW ⟨_,rfl⟩ h;have zl:∀{i:Nat}{x:Option V},i<E.length->(S++[oZ (.ref a)])[i]?=oZ x->S[i]?=oZ x:=λ{i x}c h=>by
  rw[VO (by rw[re.len];exact c)]at h;exact h
 have lS:(S++[oZ (.ref a)])[E.length]?=oZ (oZ (.ref a)):=by rw[<-re.len];simp
 have ow:∀b,Ow B (S++[oZ (.ref a)]) (E++[oZ (.o false ts)]) b->Ow B S E b\/b=a:=λb z=>by
  obtain z|⟨i,k,xs,h1,h2⟩:=z
  ·exact .inl (.inl z)
  obtain⟨h1,c⟩|⟨c,h1⟩:=gE h1
  ·exact .inl (.inr ⟨i,k,xs,h1,zl c h2⟩)
  ·subst c;rw[lS]at h2;cases h2;exact .inr rfl
 have kl:Kp (λb=>Ow B S E b\/b=a) (Ow B (S++[oZ (.ref a)]) (E++[oZ (.o false ts)])) H' H':=Kp.less ow;refine⟨⟨by simp[re.len],λi t h=>?_,λi l xs h=>?_,λi j l m xs ys b h1 h2 h3 h4=>?_,re.bd⟩,ow⟩
 ·obtain⟨h,c⟩|⟨c,h⟩:=gE h
  ·obtain⟨v,h1,h2⟩:=hp i t h;exact⟨v,gS h1,h2.step kl⟩
  ·cases h
 ·obtain⟨h,c⟩|⟨c,h⟩:=gE h
  ·obtain⟨b,ws,h1,h2,h3⟩:=ho i l xs h;obtain⟨b',_,q1,_,_,q4⟩:=re.own i l xs h;rw[h1]at q1;cases q1;exact⟨b,ws,gS h1,h2,h3.step kl,q4⟩
  ·cases h;subst c;exact⟨a,vs,lS,ha,cP.step kl (by assumption),⟨λz=>absurd z ∅,λz=>absurd z hb⟩⟩
 ·obtain⟨h1,c1⟩|⟨c1,h1⟩:=gE h1
  ·obtain⟨h2,c2⟩|⟨c2,h2⟩:=gE h2
   ·exact re.inj i j l m xs ys b h1 h2 (zl c1 h3) (zl c2 h4)
   ·subst c2;rw[lS]at h4;cases h4;exact absurd (.inr ⟨i,l,xs,h1,zl c1 h3⟩) hn
  ·obtain⟨h2,c2⟩|⟨c2,h2⟩:=gE h2
   ·subst c1;rw[lS]at h3;cases h3;exact absurd (.inr ⟨j,m,ys,h2,zl c2 h4⟩) hn
   ·rw[c1,c2]
theorem RE.pad{K:W.Frag}{B:fk->Prop}{H:Hp}{S:St}{E:En}(re:RE K B H S E)(n:Nat):RE K B H (S++US n none) (E++US n none)/\(∀b,Ow B (S++US n none) (E++US n none) b->Ow B S E b):=by
 have gE:∀{i:Nat}{u:U},(E++US n none)[i]?=oZ (oZ u)->E[i]?=oZ (oZ u)/\i<E.length:=λ{i u}h=>by
  obtain c|c:=WG i E.length
  ·rw[VO c]at h;exact⟨h,c⟩
  ·rw[VU c]at h;have:=UR h;rw[List.mem_replicate]at this;cases this.2
 have gS:∀{i:Nat}{x:Option V},S[i]?=oZ x->(S++US n none)[i]?=oZ x:=λ{i x}h=>fW ⟨_,rfl⟩ h;have zl:∀{i:Nat}{x:Option V},i<E.length->(S++US n none)[i]?=oZ x->S[i]?=oZ x:=λ{i x}c h=>by
  rw[VO (by rw[re.len];exact c)]at h;exact h
 have ow:∀b,Ow B (S++US n none) (E++US n none) b->Ow B S E b:=λb z=>z.imp id λzZ=>by obtain⟨i,k,xs,h1,h2⟩:=zZ;exact⟨i,k,xs,(gE h1).1,zl (gE h1).2 h2⟩
 have kl:Kp (Ow B S E) (Ow B (S++US n none) (E++US n none)) H H:=Kp.less ow;refine⟨⟨by simp[re.len],λi t h=>?_,λi l xs h=>?_,λi j l m xs ys b h1 h2 h3 h4=>?_,re.bd⟩,ow⟩
 ·obtain⟨v,h1,h2⟩:=re.pure i t (gE h).1;exact⟨v,gS h1,h2.step kl⟩
 ·obtain⟨b,ws,h1,h2,h3,h4⟩:=re.own i l xs (gE h).1;exact⟨b,ws,gS h1,h2,h3.step kl,h4⟩
 ·exact re.inj i j l m xs ys b (gE h1).1 (gE h2).1 (zl (gE h1).2 h3) (zl (gE h2).2 h4)
inductive A where
 |v (t:T)|b (xs:List T)
inductive RV where
 |v (t:T)|l (xs:List T)
abbrev dF:=List A->(RV->List T->Prop)->Prop
def k8:List A->En
 |[]=>[]
 |.v t::r=>oZ (.p t)::k8 r
 |.b xs::r=>oZ (.o true xs)::k8 r
theorem eZ:∀{as:List A},(k8 as).length=as.length
 |[]=>rfl
 |.v t::r=>by simp[k8,eZ (as:=r)]
 |.b t::r=>by simp[k8,eZ (as:=r)]
def kM:List A->Option Nat
 |[]=>none
 |.b _::_=>oZ 0
 |.v _::r=>(kM r).map (· + 1)
def OW(K:W.Frag)(H H':Hp):RV->V->Prop
 |.v t,v=>Rp K H' (iC H) t v
 |.l xs,v=>∃a ws,v = .ref a/\H a=none/\H' a=oZ (.lst ws)/\cP K H' (λb=>iC H b\/b=a) xs ws
def aI(K:W.Frag)(S:dF):Sp:=λvs H Q _=>∃(as:List A)(Q':RV->List T->Prop)(bx:Option fk),RE K (λa=>bx=oZ a) H (vs.map oZ) (k8 as)/\(kM as=none->bx=none)/\S as Q'/\
 ∀r xs v H',Q' r xs->(∀b o,H b=oZ o->bx≠oZ b->H' b=oZ o)->(∀a,bx=oZ a->∃ws,H' a=oZ (.lst ws)/\cP K H' (iC H') xs ws)->OW K H H' r v->Q v H'
def yG(as:List A)(E:En):Option (List T):=match kM as with
 |none=>oZ []
 |some j=>match E[j]? with
  |some (oZ (.o true xs))=>if bM xs=true then oZ xs else none
  |_=>none
def JS(as:List A)(Q:RV->List T->Prop):ET where
 nx:=λE=>o1 (yG as E) λxs=>Q (.v .non) xs
 rt:=λr E=>o1 (yG as E) λxs=>match r with
  |.p t=>noL t=true/\Q (.v t) xs
  |.s i=>match E[i]? with
   |some (oZ (.o false ys))=>bM ys=true/\Q (.l ys) xs
   |some (oZ (.p t))=>noL t=true/\Q (.v t) xs
   |_=>False
theorem yD:∀{as:List A}{j:Nat}{k:Bool}{xs:List T},kM as=none->(k8 as)[j]?≠oZ (oZ (.o k xs))
 |[],j,_,_,_,h=>by simp[k8]at h
 |.b _::_,_,_,_,e,_=>by cases e
 |.v _::r,j,k,xs,e,h=>by
  have e':kM r=none:=by
   cases q:kM r with
   |none=>rfl
   |some m=>rw[kM,q]at e;cases e
  cases j with
  |zero=>simp[k8]at h
  |succ m=>exact yD (j:=m) e' (by simpa[k8]using h)
theorem Qw:∀{as:List A}{j:Nat}{k:Bool}{xs:List T},(k8 as)[j]?=oZ (oZ (.o k xs))->k=true
 |[],j,_,_,h=>by simp[k8]at h
 |.b _::_,0,_,_,h=>by simp[k8]at h;exact h.1
 |.v _::_,0,_,_,h=>by simp[k8]at h
 |.b _::r,j+1,_,_,h=>Qw (as:=r) (j:=j) (by simpa[k8]using h)
 |.v _::r,j+1,_,_,h=>Qw (as:=r) (j:=j) (by simpa[k8]using h)
theorem cI.okT{P:fu}{w:gn}{K:W.Frag}{mg:Str->Option oA}{base:oE}{x qual:Str}{st:fq}{f:fk}{fd:ip}{N ps:List Str}{k:Nat}{S:dF}{F:FS}(Fn:cI K x qual st f fd)(Sc:aF N ps (aC st))(len:∀as Q,S as Q->as.length=ps.length)(hb:∀(qp:oA)(A:oD)(outer:List Env)(s:oB)(H:Hp)(E:XK),dN k (A.deeper (jv qual (aC st) s.heap.objs.size f qp))->QB (yK cL P w K mg base N qual (aC st) f qp A outer s H E).nox (cZ st) (eQ K F))(hF:∀as Q,S as Q->F (JS as Q) (k8 as++US (N.length-as.length) none)):(~~~aS) cL (k+1) f fd ps (aI K S):=by
 refine Fn.okQ Sc (λvs H Q E⟨as,Q',bx,re,hbn,hS,l⟩=>?_) (λqp A outer s H vs Q E hr⟨as,Q',bx,re,hbn,hS,l⟩=>?_)
 ·have:=re.len;rw[UX,eZ]at this;rw[this];exact len as Q' hS
 have hl:vs.length=as.length:=by have:=re.len;rwa [UX,eZ]at this
 refine⟨_,hb qp A outer s H E hr,?_⟩;obtain⟨re0,ow0⟩:=re.pad (N.length-as.length);have xw:k7 N vs=vs.map oZ++US (N.length-as.length) none:=by unfold k7;rw[hl]
 rw[xw]
 -- the box's address
 have aCP:∀b,Ow (λa=>bx=oZ a) (vs.map oZ) (k8 as) b->bx=oZ b:=λb z=>by
  obtain z|⟨i,kk,xs,h1,h2⟩:=z
  ·exact z
  obtain⟨a,ws,q1,_,_,q4⟩:=re.own i kk xs h1;rw[h2]at q1;cases q1;exact q4.mp (Qw h1)
 have fr:∀{H':Hp}{S':St}{E':En},Gs (λa=>bx=oZ a) H (vs.map oZ++US (N.length-as.length) none) (k8 as++US (N.length-as.length) none) H' S' E'->∀b o,H b=oZ o->bx≠oZ b->H' b=oZ o:=λg b o h n=>g.keep b o h λz=>n (aCP b (ow0 b z));have fin:∀{r:RV}{xs:List T}{v:V}{H':Hp}{S':St}{E':En},yG as E'=oZ xs->Q' r xs->Gs (λa=>bx=oZ a) H (vs.map oZ++US (N.length-as.length) none) (k8 as++US (N.length-as.length) none) H' S' E'->RE K (λa=>bx=oZ a) H' S' E'->
   ((∀a,iC H a->iC H' a)->OW K H H' r v)->Q v H':=λ{r xs v H' S' E'}e q g ni hr=>by
  have hbx:∀a,bx=oZ a->∃ws,H' a=oZ (.lst ws)/\cP K H' (iC H') xs ws:=λa ha=>by
   unfold yG at e;cases qb:kM as with
   |none=>
    rw[qb]at e;cases e;rw[hbn qb]at ha;cases ha
   |some j=>
    rw[qb]at e;simp only at e;split at e
    ·rename_i ys hE;split at e
     ·cases e;rename_i hnl;obtain⟨b,ws,h1,h2,h3,h4⟩:=ni.own j true xs hE;have:bx=oZ b:=h4.mp rfl;rw[ha]at this;cases this;exact⟨ws,h2,cP.noL (λ_ z=>z) hnl h3⟩
     ·cases e
    ·cases e
  refine l r xs v H' q (fr g) hbx (hr λa zZ=>?_);obtain⟨ws,ha⟩:=zZ
  by_cases c:bx=oZ a
  ·obtain⟨ws',h,_⟩:=hbx a c;exact⟨ws',h⟩
  ·exact⟨ws,fr g a _ ha c⟩
 refine⟨_,_,_,re0,hF as Q' hS,⟨λσ' H' E' q g ni=>?_,λr E' v H' S' q g ni rr=>?_,λ_ _ _ z=>z.elim,λ_ _ _ z=>z.elim⟩⟩
 ·obtain⟨xs,e,q⟩:=q.ex;exact fin e q g ni λ_=>rfl
 ·obtain⟨xs,e,q⟩:=q.ex;cases r with
  |p t=>exact fin e q.2 g ni λh=>Rp.noL h q.1 rr
  |s i=>
   simp only at q;split at q
   ·rename_i ys hE;refine fin e q.2 g ni λh=>?_;obtain⟨b,ws,h1,h2,h3,h4⟩:=ni.own i false ys hE;have rr':S'[i]?=oZ (oZ v):=rr;rw[rr']at h1;cases h1;refine⟨b,ws,rfl,?_,h2,cP.noL (λa z=>?_) q.1 h3⟩
    ·obtain z|z:=g.new b (.inr ⟨i,false,ys,hE,rr'⟩)
     ·have:=h4.mpr (aCP b (ow0 b z));cases this
     ·exact z
    ·obtain z|z:=z
     ·exact h a z
     ·exact⟨ws,by rw[z];exact h2⟩
   ·rename_i t hE;obtain⟨w,h1,h2⟩:=ni.pure i t hE;have rr':S'[i]?=oZ (oZ v):=rr;rw[rr']at h1;cases h1;exact fin e q.2 g ni λh=>Rp.noL h q.1 h2
   ·exact q.elim
def N5(E:En):List R->Option (List T)
 |[]=>oZ []
 |r::rs=>match vl E r,N5 E rs with
  |some t,oZ ts=>oZ (t::ts)
  |_,_=>none
def told(E:En)(Q:R->En->Prop):RV->Prop
 |.v t=>Q (.p t) E
 |.l xs=>Q (.s E.length) (E++[oZ (.o false xs)])
def Cb(S:dF)(Fr:FA):FE:=λE Q=>Fr E λrs E1=>o1 (N5 E1 rs) λts=>S (ts.map A.v) λr _=>told E1 Q r
def Xx(S:dF)(Fr:FA):FE:=λE Q=>Fr E λrs E1=>match rs with
 |.s j::rs=>(match E1[j]? with
  |some (oZ (.o k xs))=>cond (rs.all λr=>!(qK E1 r).contains j) (o1 (N5 E1 rs) λts=>S (.b xs::ts.map A.v) λr ys=>told (E1.set j (oZ (.o k ys))) Q r) False
  |_=>False)
 |_=>False
theorem Fh{K:W.Frag}{B:fk->Prop}{H:Hp}{S:St}{E:En}(re:RE K B H S E):∀{rs:List R}{vs:List V}{ts:List T},Tz K B H S E rs vs->N5 E rs=oZ ts->∀(O:fk->Prop),(∀b,O b->Ow B S E b)->(∀r∈rs,∀j∈qK E r,∀a,S[j]?=oZ (oZ (.ref a))->¬O a)->cP K H O ts vs
 |[],_,_,h,e,_,_,_=>by cases e;exact h
 |r::rs,_,ts,⟨v,ws,e1,h1,h2⟩,e,O,hO,hu=>by
  cases q1:vl E r with
  |none=>simp only[N5,q1]at e;cases e
  |some t=>
   cases q2:N5 E rs with
   |none=>simp only[N5,q1,q2]at e;cases e
   |some us=>
    simp only[N5,q1,q2]at e;cases e;exact⟨v,ws,e1,mK re h1 q1 O hO (hu r (by simp)),Fh re h2 q2 O hO λr' hr=>hu r' (by simp[hr])⟩
theorem yL:∀{ts:List T},k8 (ts.map A.v)=ts.map λt=>oZ (U.p t)
 |[]=>rfl
 |t::ts=>by simp[k8,yL (ts:=ts)]
theorem Qn:∀{ts:List T},kM (ts.map A.v)=none
 |[]=>rfl
 |t::ts=>by simp[kM,Qn (ts:=ts)]
theorem Ht{K:W.Frag}{B:fk->Prop}{H:Hp}{H':Hp}{S:St}{E:En}{E':En}(re:RE K B H S E)(ni:RE K B H' S E')(hk:∀b o,H b=oZ o->¬Ow B S E b->H' b=oZ o)(hw:∀b,Ow B S E' b->Ow B S E b)(hE:∀(i:Nat)(k:Bool)(xs:List T),E'[i]?=oZ (oZ (.o k xs))->(E[i]?=oZ (oZ (.o k xs))/\∀a,S[i]?=oZ (oZ (.ref a))->H' a=H a)\/∀a ws,S[i]?=oZ (oZ (.ref a))->H' a=oZ (.lst ws)->cP K H' (iC H') xs ws)(hP:∀(i:Nat)(t:T),E'[i]?=oZ (oZ (.p t))->E[i]?=oZ (oZ (.p t))){r:RV}{v:V}(rv:OW K H H' r v){Q:R->En->Prop}(q:told E' Q r){Qv:VK}(lk:Lk K B H S E Q Qv):Qv v H':=by
 have kp:Kp (Ow B S E) (Ow B S E') H H':=⟨hk,λb z=>.inl (hw b z)⟩;cases r with
 |v t=>exact lk _ _ _ _ _ q ⟨kp,[],by simp⟩ ni (Rp.step (Kp.less λb z=>re.ow (hw b z)) rv)
 |l xs=>
  obtain⟨a,ws,rfl,h1,h2,h3⟩:=rv;have nOw:¬Ow B S E' a:=λz=>re.nn h1 (hw a z);have nB:¬B a:=λz=>re.nn h1 (.inl z);have kp2:Kp (Ow B S E) (λb=>Ow B S E' b\/b=a) H H':=⟨hk,λb z=>by
   obtain z|z:=z
   ·exact .inl (hw b z)
   ·exact .inr (by rw[z];exact h1)⟩
  obtain⟨r1,r2⟩:=ni.push h2 nOw nB (λi t h=>by
    obtain⟨w,q1,q2⟩:=re.pure i t (hP i t h);exact⟨w,q1,q2.step kp2⟩) (λi k ys h=>by
    obtain⟨b,us,q1,q2,q3,_⟩:=ni.own i k ys h;refine⟨b,us,q1,q2,?_⟩;obtain⟨z,zz⟩|z:=hE i k ys h
    ·obtain⟨b',us',p1,p2,p3,_⟩:=re.own i k ys z;rw[q1]at p1;cases p1;have e:=zz b q1;rw[q2,p2]at e;cases e;exact p3.step kp2
    ·exact(z b us q1 q2).step (Kp.less λc hc=>by
      obtain hc|hc:=hc
      ·exact ni.ow hc
      ·exact⟨ws,by rw[hc];exact h2⟩)) (h3.step (Kp.less λb z=>by
    obtain z|z:=z
    ·exact .inl (re.ow (hw b z))
    ·exact .inr z))
  refine lk _ _ _ _ _ q ⟨⟨hk,λb z=>?_⟩,[oZ (.ref a)],rfl⟩ r1 ?_
  ·obtain z|z:=r2 b z
   ·exact .inl (hw b z)
   ·exact .inr (by rw[z];exact h1)
  ·show(S++[oZ (V.ref a)])[E'.length]?=_;rw[<-ni.len];simp
theorem Ii{K:W.Frag}{Fr:FA}{n:Nat}{S:dF}{σ:St}{H:Hp}{Q:VK}(h:aH K (Cb S Fr) σ H Q):Kz (aI K S) [] E0 (cM K n Fr) σ H Q:=by
 refine args (Fr:=Fr) h λB S' E rs vs H2 Q' hS re rr hn q lk=>?_;obtain⟨ts,e1,q⟩:=q.ex;rw[WJ];have rp:=Fh re rr e1 (λ_=>False) (λ_ z=>z.elim) (λ_ _ _ _ _ _ z=>z);have no:∀b,¬Ow (λa=>(none:Option fk)=oZ a) (vs.map oZ) (ts.map λt=>oZ (U.p t)) b:=λb z=>by
  obtain z|⟨i,k,xs,h1,_⟩:=z
  ·cases z
  rw[UQ]at h1;cases q:ts[i]? with
  |none=>rw[q]at h1;cases h1
  |some t=>rw[q]at h1;cases h1
 refine⟨ts.map A.v,_,none,?_,λ_=>rfl,q,λr xs v H' q2 fr _ rv=>?_⟩
 ·rw[yL];refine⟨by simp[rp.length],λi t h=>?_,λi k xs h=>?_,λi j k l xs ys a h _ _ _=>?_,λa z=>by cases z⟩
  ·rw[UQ]at h;cases q:ts[i]? with
   |none=>rw[q]at h;cases h
   |some u=>
    rw[q]at h;cases h;obtain⟨v,h1,h2⟩:=rp.get q;exact⟨v,by rw[UQ,h1];rfl,h2.step (Kp.less λb z=>no b z)⟩
  ·rw[UQ]at h;cases q:ts[i]? with
   |none=>rw[q]at h;cases h
   |some t=>rw[q]at h;cases h
  ·rw[UQ]at h;cases q:ts[i]? with
   |none=>rw[q]at h;cases h
   |some t=>rw[q]at h;cases h
 ·have same:∀b o,H2 b=oZ o->H' b=oZ o:=λb o z=>fr b o z (by intro z;cases z);exact Ht re (re.kept same) (λb o z _=>same b o z) (λb z=>z) (λi k xs h=>.inl ⟨h,λa ha=>by
   obtain⟨a',ws,h1,h2,_⟩:=re.own i k xs h;rw[ha]at h1;cases h1;rw[h2];exact same _ _ h2⟩) (λi t h=>h) rv q2 lk
theorem tQ{X:Cx}{K:W.Frag}{pos:Pos}{e:oC}{es:List oC}{Fr:FA}{n k j:Nat}{x:Str}{ps:List Str}{S:dF}{p:Pos}(F:Fn X.prog X.w X.K X.mg X.base k x ps (aI K S))(hr:dN j X.A)(hk:k<=j)(hg:Gl X x)(ha:QA X (e::es) (cM K n Fr))(vw:(x==("__debug__":Str))=false:=by decide)(hs:bR (e::es)=true:=by rfl):QE X (.Call (.Name x p) (e::es) [] pos) (aH K (Cb S Fr)):=(zE F hr hk hg ha vw hs).le λ_ _ _ _ h=>Ii h
theorem fA{X:Cx}{K:W.Frag}{pos:Pos}{e:oC}{es:List oC}{Fr:FA}{n k j:Nat}{x:Str}{ps:List Str}{S:dF}{p:Pos}(F:Fn X.prog X.w X.K X.mg X.base k x ps (aI K S))(hr:dN j X.A)(hk:k<=j)(hg:Gl X x)(ha:QA X (e::es) (cM K n Fr))(vw:(x==("__debug__":Str))=false:=by decide)(hs:bR (e::es)=true:=by rfl):QE X (.Call (.Name x p) (e::es) [] pos) (aH K (Xx S Fr)):=by
 refine(zE F hr hk hg ha vw hs).le λσ H Q hl h=>args (Fr:=Fr) h λB S' E rs vs H2 Q' hS re rr hn q lk=>?_;rw[WJ];split at q
 ·rename_i jb rs';split at q
  ·rename_i kb xs hE;cases qc:(rs'.all λr=>!(qK E r).contains jb)with
   |false=>rw[qc]at q;exact q.elim
   |true=>
    rw[qc]at q;obtain⟨ts,e1,q⟩:=o1.ex q;obtain⟨v0,ws,e2,h0,h2⟩:=rr;subst e2;have h0':S'[jb]?=oZ (oZ v0):=h0;obtain⟨a0,us,k1,k2,k3,k4⟩:=re.own jb kb xs hE;rw[h0']at k1;cases k1;have ow0:Ow B S' E a0:=.inr ⟨jb,kb,xs,hE,h0'⟩;have rp:=Fh re h2 e1 (λb=>b=a0) (λb z=>by rw[z];exact ow0) (λr hr m hm a hma z=>by
     subst z;have c:=WM.mp qc r hr;have:m=jb:=by
      cases r with
      |p _=>simp[qK]at hm
      |s l=>
       cases ql:E[l]? with
       |none=>simp[qK,ql]at hm
       |some u=>
        cases u with
        |none=>simp[qK,ql]at hm
        |some u=>
         cases u with
         |p _=>simp[qK,ql]at hm
         |o kk zs=>
          simp[qK,ql]at hm;subst hm;exact re.inj _ _ kk kb zs xs a ql hE hma h0'
     subst this;have hc:(qK E r).contains m=true:=by simpa using hm
     rw[hc]at c;cases c)
    have get:∀{i:Nat}{u:U},(oZ (U.o true xs)::ts.map λt=>oZ (U.p t))[i]?=oZ (oZ u)->(i=0/\u = .o true xs)\/∃m t,i=m+1/\ts[m]?=oZ t/\u = .p t:=λ{i u}h=>by
     cases i with
     |zero=>simp at h;exact .inl ⟨rfl,h.symm⟩
     |succ m=>
      rw[ZL,UQ]at h;cases q:ts[m]? with
      |none=>rw[q]at h;cases h
      |some t=>rw[q]at h;cases h;exact .inr ⟨m,t,rfl,q,rfl⟩
    have ow:∀b,Ow (λa=>oZ a0=oZ a) ((V.ref a0::ws).map oZ) (oZ (U.o true xs)::ts.map λt=>oZ (U.p t)) b->b=a0:=λb z=>by
     obtain z|⟨i,k,ys,h1,h3⟩:=z
     ·cases z;rfl
     obtain⟨c,z⟩|⟨m,t,_,_,z⟩:=get h1
     ·subst c;simp at h3;exact h3.symm
     ·cases z
    have nb:kM (A.b xs::ts.map A.v)≠none:=by intro z;cases z
    refine⟨A.b xs::ts.map A.v,_,oZ a0,?_,λz=>absurd z nb,q,λr ys v H' q2 fr bxk rv=>?_⟩
    ·have ee:k8 (A.b xs::ts.map A.v)=oZ (U.o true xs)::ts.map λt=>oZ (U.p t):=by simp[k8,yL]
     rw[ee];refine⟨by simp[rp.length],λi t h=>?_,λi k zs h=>?_,λi j k l zs ys a h1 h3 _ _=>?_,λa z=>by cases z;exact⟨us,k2⟩⟩
     ·obtain⟨_,z⟩|⟨m,t',e,q3,z⟩:=get h
      ·cases z
      ·cases z;subst e;obtain⟨v,h1,h2⟩:=rp.get q3;exact⟨v,by simp[h1],h2.step (Kp.less λb z=>ow b z)⟩
     ·obtain⟨c,z⟩|⟨m,t',e,q3,z⟩:=get h
      ·cases z;subst c;exact⟨a0,us,by simp,k2,k3.step (Kp.less λb z=>by rw[ow b z];exact ow0),⟨λ_=>rfl,λ_=>rfl⟩⟩
      ·cases z
     ·obtain⟨c,z⟩|⟨m,t',e,q3,z⟩:=get h1
      ·obtain⟨c',z'⟩|⟨m,t',e,q3,z'⟩:=get h3
       ·rw[c,c']
       ·cases z'
      ·cases z
    ·obtain⟨ws',b1,b2⟩:=bxk a0 rfl;have hk:∀b o,H2 b=oZ o->¬Ow B S' E b->H' b=oZ o:=λb o z n=>fr b o z (by intro c;cases c;exact n ow0);have lts:∀b,Ow B S' E b->iC H' b:=λb z=>by
      by_cases c:b=a0
      ·subst c;exact⟨ws',b1⟩
      ·obtain⟨us',e⟩:=re.ow z;exact⟨us',fr b _ e (by intro z;cases z;exact c rfl)⟩
     have zm:∀{i:Nat}{u:U},(E.set jb (oZ (.o kb ys)))[i]?=oZ (oZ u)->(i=jb/\u = .o kb ys)\/(i≠jb/\E[i]?=oZ (oZ u)):=λ{i u}h=>by
      by_cases c:i=jb
      ·subst c;rw[VM (UO.mp hE).1]at h;cases h;exact .inl ⟨rfl,rfl⟩
      ·rw[VI (λz=>c z.symm)]at h;exact .inr ⟨c,h⟩
     have kp:Kp (Ow B S' E) (Ow B S' E) H2 H':=⟨hk,λb z=>.inl z⟩;have owE:∀b,Ow B S' (E.set jb (oZ (.o kb ys))) b->Ow B S' E b:=λb z=>by
      obtain z|⟨i,k,zs,z1,z2⟩:=z
      ·exact .inl z
      obtain⟨c,z⟩|⟨c,z⟩:=zm z1
      ·subst c;exact .inr ⟨_,kb,xs,hE,z2⟩
      ·exact .inr ⟨i,k,zs,z,z2⟩
     have ni:RE K B H' S' (E.set jb (oZ (.o kb ys))):=by
      refine re.step hk (by simp) (λi t h=>?_) (λi k zs h=>?_) (λa z=>?_)
      ·obtain⟨_,z⟩|⟨_,z⟩:=zm h
       ·cases z
       ·exact z
      ·obtain⟨c,z⟩|⟨c,z⟩:=zm h
       ·cases z;subst c;refine⟨xs,hE,λa ha=>?_⟩;rw[h0']at ha;cases ha;exact⟨ws',b1,b2.step (Kp.less lts)⟩
       ·refine⟨zs,z,λa ha=>?_⟩;obtain⟨a',us',p1,p2,p3,_⟩:=re.own i k zs z;rw[ha]at p1;cases p1;have na:a≠a0:=λw=>c (re.inj i jb k kb zs xs a0 z hE (by rw[<-w];exact ha) h0');exact⟨us',fr a _ p2 (by intro w;cases w;exact na rfl),p3.step kp⟩
      ·exact lts a (.inl z)
     refine Ht re ni hk owE (λi k zs h=>?_) (λi t h=>?_) rv q2 lk
     ·obtain⟨c,z⟩|⟨c,z⟩:=zm h
      ·cases z
       right
       intro a us2 ha hu;subst c;rw[h0']at ha;cases ha;rw[b1]at hu;cases hu;exact b2
      ·left
       refine⟨z,λa ha=>?_⟩;obtain⟨a',us',p1,p2,p3,_⟩:=re.own i k zs z;rw[ha]at p1;cases p1;have na:a≠a0:=λw=>c (re.inj i jb k kb zs xs a0 z hE (by rw[<-w];exact ha) h0');rw[p2];exact fr a _ p2 (by intro w;cases w;exact na rfl)
     ·obtain⟨_,z⟩|⟨_,z⟩:=zm h
      ·cases z
      ·exact z
  ·exact q.elim
 ·exact q.elim
def Ul(bk:Bool):Option (Option U)->Option U
 |some (oZ (.p t))=>oZ (.p t)
 |some (oZ (.o _ xs))=>if bk=true then oZ (.o true xs)else oZ (.p (.lst xs))
 |_=>none
def qZ(t:Nat)(cap:List (Nat×Bool))(E:En):En:=US t none++cap.map λk=>Ul k.2 E[k.1]?
def tJ:List (Nat×Bool)->Option (Nat×Nat)
 |[]=>none
 |(k,true)::_=>oZ (0,k)
 |(_,false)::r=>(tJ r).map λx=>(x.1+1,x.2)
def kS(cap:List (Nat×Bool)):Bool:=Nat.ble (cap.filter (·.2)).length 1
def Lm(t:Nat)(cap:List (Nat×Bool))(ve E:En):Option En:=match tJ cap with
 |none=>oZ E
 |some (j,k)=>match E[k]?,ve[t+j]? with
  |some (oZ (.o b _)),oZ (oZ (.o true ys))=>if bM ys=true then oZ (E.set k (oZ (.o b ys)))else none
  |some (oZ (.p _)),_=>oZ E
  |_,_=>none
def j9(g:FG)(Fe:FE):List T->En->(En->Prop)->Prop
 |[],E,Q=>Q E
 |x::xs,E,Q=>g x E λE2=>Fe E2 λr E3=>match r with
  |.p t=>(match E3[E.length-1]? with
   |some (oZ (.o false acc))=>acc.length<9000/\j9 g Fe xs ((E3.set (E.length-1) (oZ (.o false (acc++[t])))).take E.length) Q
   |_=>False)
  |.s _=>False
def Cc(t:Nat)(cap:List (Nat×Bool))(I:FI)(g:FG)(Fe:FE):FE:=λE Q=>I E λitems us E1=>cap.all (λk=>!(k.2&&us.contains k.1))=true/\
 j9 g Fe items (qZ t cap E1++[oZ (.o false [])]) λve=>match ve[t+cap.length]? with
  |some (oZ (.o false zs))=>bM zs=true/\o1 (Lm t cap ve E1) λE2=>Q (.s E2.length) (E2++[oZ (.o false zs)])
  |_=>False
theorem Ij(h:(qZ t cap E)[i]?=oZ (oZ u)):∃j k b,i=t+j/\cap[j]?=oZ (k,b)/\Ul b E[k]?=oZ u:=by
 unfold qZ at h;obtain c|c:=WG i t
 ·rw[VO (by simpa using c)]at h;have:=UR h;rw[List.mem_replicate]at this;cases this.2
 ·rw[VU (by simpa using c),XR,UQ]at h;cases q:cap[i-t]? with
  |none=>rw[q]at h;cases h
  |some x=>
   rw[q]at h;exact⟨i-t,x.1,x.2,⋯,q,by simpa using h⟩
theorem Ik{σ:St}{cap:List (Nat×Bool)}(h:cap[j]?=oZ (k,b)):(h9 t (cap.map (·.1)) σ)[t+j]?=oZ ((σ[k]?).join):=by
 unfold h9;rw[VU (by simp)];simp[h]
theorem yE:∀{cap:List (Nat×Bool)}{j k:Nat},tJ cap=oZ (j,k)->cap[j]?=oZ (k,true)
 |(k,true)::r,_,_,h=>by cases h;rfl
 |(m,false)::r,j,k,h=>by
  cases q:tJ r with
  |none=>rw[tJ,q]at h;cases h
  |some x=>
   rw[tJ,q]at h;cases h
   simpa using yE (j:=x.1) (k:=x.2) q
theorem kN:∀{cap:List (Nat×Bool)}{j k:Nat},kS cap=true->cap[j]?=oZ (k,true)->tJ cap=oZ (j,k)
 |[],j,k,_,h=>by simp at h
 |(m,true)::r,0,k,_,h=>by simp at h;subst h;rfl
 |(m,true)::r,j+1,k,ho,h=>by
  have h':r[j]?=oZ (k,true):=by simpa using h
  have:(k,true)∈r.filter (·.2):=cq.mpr ⟨UR h',rfl⟩;have hl:0<(r.filter (·.2)).length:=List.length_pos_of_mem this;unfold kS at ho;rw[List.filter_cons_of_pos (by rfl)]at ho;have:=Nat.le_of_ble_eq_true ho;simp only[VQ]at this
  lia
 |(m,false)::r,0,k,_,h=>by simp at h
 |(m,false)::r,j+1,k,ho,h=>by
  have h':r[j]?=oZ (k,true):=by simpa using h
  have ho':kS r=true:=by
   unfold kS at ho⊢;rw[List.filter_cons_of_neg (by simp)]at ho;exact ho
  rw[tJ,kN ho' h'];rfl
def Ib(i:Nat)(mr:List (Key×V))(σ:St)(H:Hp):Prop:=∃p,σ[i]?=oZ (oZ (.ref p))/\H p=oZ (.dK mr)
abbrev DD:=Option (Nat×List (Key×V))
def mS(d:DD)(σ:St)(H:Hp):Prop:=∀x,d=oZ x->Ib x.1 x.2 σ H
theorem mS.same(h:mS d σ H)(k:∀b o,H b=oZ o->H' b=oZ o):mS d σ H':=λx e=>let⟨p,h1,h2⟩:=h x e;⟨p,h1,k _ _ h2⟩
theorem mS.kp{d:DD}{K:W.Frag}{B O:fk->Prop}{S σ:St}{E:En}{H H':Hp}(h:mS d σ H)(re:RE K B H S E)(k:Kp (Ow B S E) O H H'):mS d σ H':=λx e=>
 let⟨p,h1,h2⟩:=h x e;⟨p,h1,k.keep _ _ h2 λz=>by obtain⟨vs,e⟩:=re.ow z;rw[h2]at e;cases e⟩
def lJ(d:DD)(K:W.Frag)(F:FE):TE:=λσ H Q=>mS d σ H/\aH K F σ H Q
def Ks(m:Bool)(t:Nat)(d:DD)(K:W.Frag)(g:FG):TG:=λv σ H Q=>mS d σ H/\rC K g v σ H λσ' H'=>mS d σ' H'->(m=true->∀i,t<=i->σ'[i]?= σ[i]?)->Q σ' H'
abbrev G7(d:DD)(K:W.Frag)(g:FG):TG:=Ks false 0 d K g
theorem QG.gd{X:Cx}{K:W.Frag}{g:FG}{e:oC}(h:QG X e (rC K g)):QG X e (G7 none K g):=h.le λv σ H Q _ zZ=>by obtain⟨_,B,τ,E,t,Q',re,rp,hF,l⟩:=zZ;exact⟨B,τ,E,t,Q',re,rp,hF,λσ' H' E' a b c d=>l σ' H' E' a b c d (λ_ z=>by cases z) λz=>by cases z⟩
theorem QE.ed{X:Cx}{K:W.Frag}{Fe:FE}{e:oC}(h:QE X e (aH K Fe)):QE X e (lJ none K Fe):=h.le λ_ _ _ _ z=>z.2
def Cv(d:DD)(K:W.Frag)(F:FB):TT:=λσ H Q=>mS d σ H/\i8 K F σ H Q
section
variable{X:Cx}{K:W.Frag}{pos:Pos}{Fb:FB}{Fe:FE}{g:FG}{I:FI}
def pC(g:FG)(Fb:FB)(Fe:FE):List T->En->(En->Prop)->Prop
 |[],E,Q=>Q E
 |x::xs,E,Q=>g x E λE2=>Fb E2 λb E2'=>if b=true then Fe E2' λr E3=>match r with
  |.p t=>(match E3[E.length-1]? with
   |some (oZ (.o false acc))=>acc.length<9000/\pC g Fb Fe xs ((E3.set (E.length-1) (oZ (.o false (acc++[t])))).take E.length) Q
   |_=>False)
  |.s _=>False
  else pC g Fb Fe xs (E2'.take E.length) Q
def Ml(t:Nat)(cap:List (Nat×Bool))(I:FI)(g:FG)(Fb:FB)(Fe:FE):FE:=λE Q=>I E λitems us E1=>cap.all (λk=>!(k.2&&us.contains k.1))=true/\
 pC g Fb Fe items (qZ t cap E1++[oZ (.o false [])]) λve=>match ve[t+cap.length]? with
  |some (oZ (.o false zs))=>bM zs=true/\o1 (Lm t cap ve E1) λE2=>Q (.s E2.length) (E2++[oZ (.o false zs)])
  |_=>False
def WB(t:Nat)(cap:List (Nat×Bool))(ve E E2:En):Prop:=E2.length=E.length/\∀(i:Nat)(u:U),E2[i]?=oZ (oZ u)->(∃(j:Nat)(b:Bool)(ys xs0:List T),cap[j]?=oZ (i,true)/\E[i]?=oZ (oZ (.o b xs0))/\ve[t+j]?=oZ (oZ (.o true ys))/\bM ys=true/\u = .o b ys)\/(E[i]?=oZ (oZ u)/\∀(j:Nat)(b:Bool)(xs:List T),cap[j]?=oZ (i,true)->E[i]?≠oZ (oZ (.o b xs)))
theorem Wv(ho:kS cap=true)(h:Lm t cap ve E=oZ E2):WB t cap ve E E2:=by
 unfold Lm at h;cases qb:tJ cap with
 |none=>
  rw[qb]at h;cases h;exact⟨rfl,λi u q=>.inr ⟨q,λj b xs z=>by rw[kN ho z]at qb;cases qb⟩⟩
 |some jk=>
  obtain⟨j,k⟩:=jk;rw[qb]at h;simp only at h;have only:∀{i j'},cap[j']?=oZ (i,true)->i=k:=λz=>by rw[kN ho z]at qb;cases qb;rfl
  split at h
  ·rename_i kb xs0 ys hE1 hEi;split at h
   ·rename_i hny;cases h;refine⟨by simp,λi u q=>?_⟩
    by_cases c:i=k
    ·subst c;rw[VM (UO.mp hE1).1]at q;cases q;exact .inl ⟨j,kb,ys,xs0,yE qb,hE1,hEi,hny,rfl⟩
    ·rw[VI (λz=>c z.symm)]at q;exact .inr ⟨q,λj' b xs z=>absurd (only z) c⟩
   ·cases h
  ·rename_i tp hE1;cases h;exact⟨rfl,λi u q=>.inr ⟨q,λj' b xs z y=>by rw[only z,hE1]at y;cases y⟩⟩
  ·cases h
theorem Bv {cap:List (Nat×Bool)} (S:bD X N' scope t (cap.map (·.1))) (hm:kS cap=true\/m=true/\tm=t) (hnd:(cap.map (·.1)).Nodup) {W:En->En->Option En} (hW:∀ve E E2,W ve E=oZ E2->WB t cap ve E E2) {FC:List T->Prop->Prop} (hC:∀zs p,FC zs p->p) {rr:List T->RV} {σ:St} {Q Qv:VK} (hl:σ.length=X.N.length) (hdd:∀H,mS d σ H->mS d' (h9 t (cap.map (·.1)) σ) H) (out:∀(zs:List T) (D:fk) (ws:List V) (H1 H2:Hp) (p:Prop),FC zs p->H1 D=none->H2 D=oZ (.lst ws)->ws.length=zs.length->(bM zs=true->cP K H2 (λa=>iC H1 a\/a=D) zs ws)->∃v,OW K H1 H2 (rr zs) v/\(Qv v H2->Q (.ref D) H2)) (h:lJ d K (λE Q'=>I E λitems us E1=>cap.all (λk=>!(k.2&&us.contains k.1))=true/\pC g Fb Fe items (qZ t cap E1++[oZ (.o false [])]) λve=>match ve[t+cap.length]? with
   | some (oZ (.o false zs))=>FC zs (o1 (W ve E1) λE2=>told E2 Q' (rr zs))
   | _=>False) σ H Qv):nU t (cap.map (·.1)) (lC K I) (Ks m tm d' K g) (Cv d' K Fb) (lJ d' K Fe) σ H Q:=by
 obtain ⟨dt,B,S0,E,Q',hS,re,hF,lk⟩:=h;refine ⟨B,S0,E,_,hS,re,hF,λJ items us E1 H1 S1 gd q g1 mz ok' aCQ hgd D hD=>?_⟩;obtain ⟨hus,q⟩:=q;obtain ⟨τ0,hS0⟩:=hS;obtain ⟨τ1,wc⟩:=g1.pre;have aFK:∃τ,S1=σ++τ:=⟨τ0++τ1,by rw [wc,hS0,VH]⟩;have atσ:∀{j k:Nat} {b:Bool} {v:V},cap[j]? = oZ (k,b)->S1[k]? = oZ (oZ v)->σ[k]? = oZ (oZ v):=λ{j k b v} hj hv=>by
  obtain ⟨x,_,hx,_⟩:=S.caps j k (by rw [UQ,hj];rfl);have hk:k<σ.length:=by rw [hl];exact (UO.mp hx).1
  obtain ⟨τ,rfl⟩:=aFK;rw [VO hk] at hv;exact hv
 have atC:∀{j k:Nat} {b:Bool} {v:V},cap[j]? = oZ (k,b)->S1[k]? = oZ (oZ v)->(h9 t (cap.map (·.1)) σ)[t+j]? = oZ (oZ v):=λ{j k b v} hj hv=>by rw [Ik hj,atσ hj hv];rfl
 have aBE:∀{j k:Nat} {b:Bool} {v:V},cap[j]? = oZ (k,b)->(h9 t (cap.map (·.1)) σ)[t+j]? = oZ (oZ v)->S1[k]? = oZ (oZ v):=λ{j k b v} hj hv=>by
  rw [Ik hj] at hv;have:σ[k]? = oZ (oZ v):=by
   cases z:σ[k]? with
   | none=>rw [z] at hv;cases hv
   | some y=>rw [z] at hv;simpa using hv
  exact fW aFK this
 obtain ⟨Bp,hBp⟩:∃Bp:fk->Prop,∀a,Bp a↔∃(j k:Nat) (kk:Bool) (xs:List T),cap[j]? = oZ (k,true)/\E1[k]? = oZ (oZ (.o kk xs))/\S1[k]? = oZ (oZ (.ref a)):=⟨_,λ_=>Iff.rfl⟩;have aFL:∀{j j' m:Nat} {c c':Bool},cap[j]? = oZ (m,c)->cap[j']? = oZ (m,c')->j=j':=λ{j j' m c c'} e2 p1=>by
  have lt1:j<(cap.map (·.1)).length:=by rw [UX];exact (UO.mp e2).1
  exact (aq lt1 hnd).mp (by rw [UQ,UQ,e2,p1];rfl)
 have aCR:∀a,Bp a->Ow B S1 E1 a:=λa z=>by
  obtain ⟨j,k,kk,xs,_,h2,h3⟩:=(hBp a).mp z;exact .inr ⟨k,kk,xs,h2,h3⟩
 -- an own list of the block is the box
 have aCS:∀{i:Nat} {k:Bool} {xs:List T},(qZ t cap E1)[i]? = oZ (oZ (.o k xs))->∃j m kk,i=t+j/\cap[j]? = oZ (m,true)/\E1[m]? = oZ (oZ (.o kk xs))/\k=true:=λ{i k xs} h=>by
  obtain ⟨j,m,c,e1,e2,e3⟩:=Ij h;refine ⟨j,m,?_⟩;cases qE:E1[m]? with
  | none=>rw [qE] at e3;cases e3
  | some u=>
   cases u with
   | none=>rw [qE] at e3;cases e3
   | some u=>
    cases u with
    | p _=>rw [qE] at e3;cases e3
    | o kk ys=>
     rw [qE] at e3;cases c
     ·simp [Ul] at e3
     ·simp [Ul] at e3;obtain ⟨e4,e5⟩:=e3;exact ⟨kk,e1,e2,by rw [e5],e4⟩
 have aB3:∀b,Ow Bp (h9 t (cap.map (·.1)) σ) (qZ t cap E1) b->Bp b:=λb z=>by
  obtain z | ⟨i,k,xs,h1,h2⟩:=z
  ·exact z
  obtain ⟨j,m,kk,e1,e2,e3,_⟩:=aCS h1;subst e1;exact (hBp b).mpr ⟨j,m,kk,xs,e2,e3,aBE e2 h2⟩
 have kl:Kp (Ow B S1 E1) (Ow Bp (h9 t (cap.map (·.1)) σ) (qZ t cap E1)) H1 H1:=Kp.less λb z=>aCR b (aB3 b z);have aCT:RE K Bp H1 (h9 t (cap.map (·.1)) σ) (qZ t cap E1):=by
  refine ⟨by simp [h9,qZ],λi u h=>?_,λi k xs h=>?_,λi j k l xs ys a h1 h2 h3 h4=>?_,λa z=>mz.ow (aCR a z)⟩
  ·obtain ⟨j,m,c,e1,e2,e3⟩:=Ij h;subst e1;cases qE:E1[m]? with
   | none=>rw [qE] at e3;cases e3
   | some w=>
    cases w with
    | none=>rw [qE] at e3;cases e3
    | some w=>
     cases w with
     | p w=>
      rw [qE] at e3;cases e3;obtain ⟨v,h1,h2⟩:=mz.pure m _ qE;exact ⟨v,atC e2 h1,h2.step kl⟩
     | o kk ys=>
      rw [qE] at e3;cases c
      ·simp [Ul] at e3;subst e3;obtain ⟨a,vs,h1,h2,h3,h4⟩:=mz.own m kk ys qE;refine ⟨_,atC e2 h1,a,vs,rfl,.inl ⟨λz=>?_,.inl h2⟩,h3.step kl⟩;obtain ⟨j',k',kk',xs',p1,p2,p3⟩:=(hBp a).mp (aB3 a z);have e4:=mz.inj m k' kk kk' ys xs' a qE p2 h1 p3;subst e4;have lt1:j<(cap.map (·.1)).length:=by rw [UX];exact (UO.mp e2).1
       have lt2:j'<(cap.map (·.1)).length:=by rw [UX];exact (UO.mp p1).1
       have:j=j':=(aq lt1 hnd).mp (by rw [UQ,UQ,e2,p1];rfl);subst this;rw [e2] at p1;cases p1
      ·simp [Ul] at e3
  ·obtain ⟨j,m,kk,e1,e2,e3,e4⟩:=aCS h;subst e1;subst e4;obtain ⟨a,vs,h1,h2,h3,h4⟩:=mz.own m kk _ e3;exact ⟨a,vs,atC e2 h1,h2,h3.step kl,⟨λ_=>(hBp a).mpr ⟨j,m,kk,_,e2,e3,h1⟩,λ_=>rfl⟩⟩
  ·obtain ⟨j1,m1,k1,e1,e2,e5,_⟩:=aCS h1;obtain ⟨j2,m2,k2,e3,e4,e6,_⟩:=aCS h2;subst e1;subst e3;have em:=mz.inj m1 m2 k1 k2 _ _ a e5 e6 (aBE e2 h3) (aBE e4 h4);subst em;rw [aFL e2 e4]
 -- the accumulator gets a place
 obtain ⟨gD,reD⟩:=aCT.lst (ts:=[]) (vs:=[]) hD rfl;have gd0:gd (upd H1 D (.lst [])) (Ow Bp (h9 t (cap.map (·.1)) σ++[oZ (.ref D)]) (qZ t cap E1++[oZ (.o false [])])):=by
  refine ok'.keep _ _ _ _ gD.kp (hgd _ (λb z=>aCR b (aB3 b z)) λj hj a ha z=>?_);obtain ⟨j',k',kk',xs',p1,p2,p3⟩:=(hBp a).mp (aB3 a z);obtain ⟨kj,xj,qj⟩:=aCQ j hj;have ej:=mz.inj j k' kj kk' xj xs' a qj p2 ha p3;subst ej;have:=WM.mp hus (j,true) (UR p1);simp [hj] at this
 have hn:(h9 t (cap.map (·.1)) σ).length=t+cap.length:=by simp [h9]
 have hnE:(qZ t cap E1++[oZ (U.o false [])]).length=t+cap.length+1:=by simp [qZ];lia
 -- the turns
 refine ⟨λi m' σ' H'=>m'=items.length-i/\i<=items.length/\∃E',pC g Fb Fe (items.drop i) E' (λve=>match ve[t+cap.length]? with
   | some (oZ (.o false zs))=>FC zs (o1 (W ve E1) λE2=>told E2 Q' (rr zs))
   | _=>False)/\σ'.length=t+cap.length/\E'.length=t+cap.length+1/\RE K Bp H' (σ'++[oZ (.ref D)]) E'/\
   Gs Bp (upd H1 D (.lst [])) (h9 t (cap.map (·.1)) σ++[oZ (.ref D)]) (qZ t cap E1++[oZ (.o false [])]) H' (σ'++[oZ (.ref D)]) E'/\gd H' (Ow Bp (σ'++[oZ (.ref D)]) E')/\mS d' σ' H'/\(m=true->∀i,tm<=i->σ'[i]? = (h9 t (cap.map (·.1)) σ)[i]?),
  ⟨_,rfl,UU _,_,q,hn,hnE,reD,Kp.refl _ _,gd0,(hdd _ (dt.kp re g1.kp)).kp aCT gD.kp,λ_ _ _=>rfl⟩,?_⟩
 rintro i m' σ2 H2 ⟨rfl,xt,E3,q3,hl3,hE3,ud,g3,xy,dt3,st3⟩;obtain rk | hge:=WG i items.length
 ·have hd:items.drop i=items[i]::items.drop (i+1):=WH rk;rw [hd] at q3;refine .inr ⟨ok'.go i H2 _ xy rk,λx H4 y=>?_⟩;obtain ⟨k4,s4,rp⟩:=ok'.yld i H2 _ x H4 _ xy (UP rk) (λa z=>by obtain ⟨vs,e⟩:=ud.ow z;rw [e];intro z;cases z) y;have xx:=ud.kept s4;have gd4:=ok'.keep _ _ _ _ k4 xy;refine ⟨dt3.same s4,_,[oZ (.ref D)],E3,_,_,xx,rp,q3,λσ5 H5 E5 q5 g5 xu hl5 dt5 s5=>?_⟩;have st5:m=true->∀i,tm<=i->σ5[i]? = (h9 t (cap.map (·.1)) σ)[i]?:=λa i b=>(s5 a i b).trans (st3 a i b);have hE5:E5.length=t+cap.length+1:=by rw [<-xu.len];simp [hl5,hl3]
  refine ⟨dt5,_,σ5++[oZ (.ref D)],E5,_,⟨_,rfl⟩,xu,q5,λok E5' H5' S5' q5' g5' aD2=>?_⟩;have ll:E5.length<=E5'.length:=by
   obtain ⟨τ6,e6⟩:=g5'.pre;rw [<-xu.len,<-aD2.len,e6];simp
  cases ok with
  | false=>
   have q5':pC g Fb Fe (items.drop (i+1)) (E5'.take E3.length) _:=q5';obtain ⟨re8,ow8⟩:=aD2.cut (E:=E5) (σ:=σ5++[oZ (.ref D)]) g5'.pre xu.len;have eE:E5.length=E3.length:=⋯
   rw [eE] at re8 ow8;have gg:Gs Bp H4 (σ2++[oZ (.ref D)]) E3 H5' (σ5++[oZ (.ref D)]) (E5'.take E3.length):=(g5.trans g5'.kp).trans (Kp.less ow8);refine ⟨items.length-(i+1),⋯,rfl,rk,_,q5',⋯,?_,re8,(g3.trans k4).trans gg,ok'.keep _ _ _ _ gg gd4,dt5.kp xu g5'.kp,st5⟩;rw [WE]
   lia
  | true=>
   obtain ⟨τ5,hτ5⟩:=g5'.pre;refine ⟨dt5.kp xu g5'.kp,_,S5',E5',_,⟨oZ (.ref D)::τ5,by rw [hτ5];simp⟩,aD2,q5',λr E6 v H6 S6 q6 g6 re6 rr6=>?_⟩;have g6:=g5'.trans g6;cases r with
   | s _=>exact q6.elim
   | p u=>
    simp only at q6;have aB4:E3.length-1=t+cap.length:=⋯
    rw [aB4] at q6;split at q6
    ·rename_i acc yo;obtain ⟨hlen,q6⟩:=q6;obtain ⟨a6,ws,p1,p2,p3,p4⟩:=re6.own _ _ _ yo;have hS6:S6[t+cap.length]? = oZ (oZ (.ref D)):=fW g6.pre (by rw [VU ⋯];simp [hl5,hl3]);rw [hS6] at p1;cases p1;obtain ⟨g7,re7⟩:=re6.put (ys:=acc++[u]) (ws:=ws++[v]) yo hS6 (p3.append ⟨v,[],rfl,rr6,rfl⟩);obtain ⟨re8,ow8⟩:=re7.cut (E:=E5) (σ:=σ5++[oZ (.ref D)]) (g6.trans g7).pre xu.len;have eE:E5.length=E3.length:=⋯
     rw [eE] at re8 ow8;have gg:Gs Bp H4 (σ2++[oZ (.ref D)]) E3 (upd H6 D (.lst (ws++[v]))) (σ5++[oZ (.ref D)]) ((E6.set (t+cap.length) (oZ (.o false (acc++[u])))).take E3.length):=(g5.trans (g6.trans g7).kp).trans (Kp.less ow8);refine ⟨ws,p2,by rw [p3.length];exact bS (WC hlen),items.length-(i+1),⋯,rfl,rk,_,q6,⋯,?_,re8,(g3.trans k4).trans gg,ok'.keep _ _ _ _ gg gd4,(dt5.kp xu g6.kp).kp re6 g7.kp,st5⟩;rw [WE,XS];have:E5.length<=E6.length:=by
      obtain ⟨τ6,e6⟩:=g6.pre;rw [<-xu.len,<-re6.len,e6];simp
     lia
    ·exact q6.elim
 ·have ei:i=items.length:=⋯
  subst ei;rw [XQ] at q3;refine .inl ⟨ok'.stop H2 _ xy,?_⟩;have q3':(match E3[t+cap.length]? with
   | some (oZ (.o false zs))=>FC zs (o1 (W E3 E1) λE2=>told E2 Q' (rr zs))
   | _=>False):=q3
  split at q3'
  ·rename_i zs hzs;have q4:=q3';obtain ⟨E2,e2,q3'⟩:=(hC _ _ q3').ex;obtain ⟨aD,ws,p1,p2,p3,p4⟩:=ud.own _ _ _ hzs;have hSD:(σ2++[oZ (V.ref D)])[t+cap.length]? = oZ (oZ (.ref D)):=by rw [VU ⋯];simp [hl3]
   rw [hSD] at p1;cases p1
   -- what is kept of the heap around
   have ow0:∀b,Ow Bp (h9 t (cap.map (·.1)) σ++[oZ (.ref D)]) (qZ t cap E1++[oZ (.o false [])]) b->Bp b\/b=D:=λb z=>by
    obtain z | z:=gD.kp.new b z
    ·exact .inl (aB3 b z)
    ·obtain⟨us',hu⟩:=reD.ow (by assumption)
     by_cases c:b=D
     ·exact .inr c
     ·rw [aV c,z] at hu;cases hu
   have kept:∀b o,H1 b=oZ o->¬Bp b->H2 b=oZ o:=λb o e n=>by
    refine g3.keep b o (by rw [aV (a9 e hD)];exact e) λz=>?_;obtain z | z:=ow0 b z
    ·exact n z
    ·exact a9 e hD z
   have hk:∀b o,H1 b=oZ o->¬Ow B S1 E1 b->H2 b=oZ o:=λb o e n=>kept b o e λz=>n (aCR b z);obtain ⟨v0,rv0,aH5⟩:=out zs D ws H1 H2 _ q4 hD p2 p3.length λhnl=>cP.noL (λa z=>by
    obtain⟨us',z⟩ | z:=z
    ·by_cases c:Bp a
     ·exact ud.ow (.inl c)
     ·exact ⟨us',kept a _ z c⟩
    ·exact ⟨ws,by rw [z];exact p2⟩) hnl p3
   obtain ⟨eL,eG⟩:=hW _ _ _ e2;have lts:∀b,Ow B S1 E1 b->iC H2 b:=λb z=>by
    by_cases c:Bp b
    ·exact ud.ow (.inl c)
    ·obtain ⟨us',e⟩:=mz.ow z;exact ⟨us',kept b _ e c⟩
   -- a list that the block changed
   have bxI:∀{i j:Nat} {b:Bool} {xs0 ys:List T},cap[j]? = oZ (i,true)->E1[i]? = oZ (oZ (.o b xs0))->E3[t+j]? = oZ (oZ (.o true ys))->bM ys=true->∃a us1,S1[i]? = oZ (oZ (.ref a))/\H2 a=oZ (.lst us1)/\cP K H2 (iC H2) ys us1:=λ{i j b xs0 ys} hj hE hEi hny=>by
    obtain ⟨a',us1,r1,r2,r3,r4⟩:=ud.own _ true ys hEi;refine ⟨a',us1,?_,r2,cP.noL (λ_ z=>z) hny r3⟩;obtain ho | ⟨hm,rfl⟩:=hm
    ·obtain ⟨j',k',kk,xs,h1,h2,h3⟩:=(hBp a').mp (r4.mp rfl);have e:=kN ho hj;rw [kN ho h1] at e;cases e;exact h3
    ·have hjl:j<cap.length:=(UO.mp hj).1;rw [VO ⋯,st3 hm _ (Nat.le_add_right _ _)] at r1;exact aBE hj r1
   have nk:∀{i:Nat} {l:Bool} {zs':List T} {a:fk},(∀j b xs,cap[j]? = oZ (i,true)->E1[i]?≠oZ (oZ (.o b xs)))->E1[i]? = oZ (oZ (.o l zs'))->S1[i]? = oZ (oZ (.ref a))->¬Bp a:=λ{i l zs' a} c z ha w=>by
    obtain ⟨j',k',kk',xs',p1',p2',p3'⟩:=(hBp a).mp w;have:=mz.inj i k' l kk' zs' xs' a z p2' ha p3';subst this;exact c j' l zs' p1' z
   have owE:∀b,Ow B S1 E2 b->Ow B S1 E1 b:=λb z=>by
    obtain z | ⟨i,l,zs',z1,z2⟩:=z
    ·exact .inl z
    obtain⟨j,b',ys,xs0,_,h2,_,_,_⟩ | ⟨z,_⟩:=eG _ _ z1
    ·exact .inr ⟨_,_,_,h2,z2⟩
    ·exact .inr ⟨i,l,zs',z,z2⟩
   have kp:Kp (Ow B S1 E1) (Ow B S1 E1) H1 H2:=⟨hk,λb z=>.inl z⟩;refine aH5 (Ht mz (mz.step hk eL (λi u h=>?_) (λi l zs' h=>?_) (λa z=>lts a (.inl z))) hk owE (λi l zs' h=>?_) (λi u h=>?_) rv0 q3' (lk.step g1))
   ·obtain⟨_,_,_,_,_,_,_,_,z⟩ | ⟨z,_⟩:=eG _ _ h
    ·cases z
    ·exact z
   ·obtain⟨j,b',ys,xs0,h1,h2,h3,h4,z⟩ | ⟨z,nb⟩:=eG _ _ h
    ·cases z;obtain ⟨a0,us1,r1,r2,r3⟩:=bxI h1 h2 h3 h4;refine ⟨xs0,h2,λa ha=>?_⟩;rw [r1] at ha;cases ha;exact ⟨us1,r2,r3.step (Kp.less lts)⟩
    ·refine ⟨zs',z,λa ha=>?_⟩;obtain ⟨a',us',p1',p2',p3',_⟩:=mz.own i l zs' z;rw [ha] at p1';cases p1';exact ⟨us',kept a _ p2' (nk nb z ha),p3'.step kp⟩
   ·obtain⟨j,b',ys,xs0,h1,h2,h3,h4,z⟩ | ⟨z,nb⟩:=eG _ _ h
    ·cases z
     right
     intro a us2 ha hu;obtain ⟨a0,us1,r1,r2,r3⟩:=bxI h1 h2 h3 h4;rw [r1] at ha;cases ha;rw [r2] at hu;cases hu;exact r3
    ·left
     refine ⟨z,λa ha=>?_⟩;obtain ⟨a',us',p1',p2',p3',_⟩:=mz.own i l zs' z;rw [ha] at p1';cases p1';rw [p2'];exact kept a _ p2' (nk nb z ha)
   ·obtain⟨_,_,_,_,_,_,_,_,z⟩ | ⟨z,_⟩:=eG _ _ h
    ·cases z
    ·exact z
  ·exact q3'.elim
theorem Um(S:bD X N' scope t (cap.map (·.1)))(ho:kS cap=true)(hnd:(cap.map (·.1)).Nodup)(hl:σ.length=X.N.length)(hdd:∀H,mS d σ H->mS d' (h9 t (cap.map (·.1)) σ) H)(h:lJ d K (Ml t cap I g Fb Fe) σ H Q):nU t (cap.map (·.1)) (lC K I) (G7 d' K g) (Cv d' K Fb) (lJ d' K Fe) σ H Q:=
 Bv (W:=Lm t cap) (FC:=λzs p=>bM zs=true/\p) (rr:=.l) (Qv:=Q) S (.inl ho) hnd (λ_ _ _=>Wv ho) (λ_ _ z=>z.2) hl hdd (λzs D ws H1 H2 p hc hD h2 _ hn=>⟨_,⟨D,ws,rfl,hD,h2,hn hc.1⟩,id⟩) h
def bT:FB:=λE Q=>Q true E
theorem Eh(g:FG)(Fe:FE):∀xs,pC g bT Fe xs=j9 g Fe xs
 |[]=>rfl
 |x::xs=>by
  funext E Q
  simp only[pC,j9,bT,if_true,Eh g Fe xs]
theorem La(h:nU t cap (lC K I) (Ks m tm d K g) (Cv d K bT) te σ H Q):Dd t cap (lC K I) (Ks m tm d K g) te σ H Q:=by
 obtain⟨B,S0,E,Q',hS,re,hF,lk⟩:=h;refine⟨B,S0,E,Q',hS,re,hF,λJ items us E1 H1 S1 gd q g1 mz ok aCQ hgd D hD=>?_⟩;obtain⟨W,w0,tn⟩:=lk J items us E1 H1 S1 gd q g1 mz ok aCQ hgd D hD;refine⟨W,w0,λi m σ' H' z=>(tn i m σ' H' z).imp id λ⟨go,st⟩=>⟨go,λx H2 y=>?_⟩⟩;obtain⟨dt,B',τ,E',u,Q2,ni,rp,hF',l⟩:=st x H2 y;refine⟨dt,B',τ,E',u,Q2,ni,rp,hF',λσ3 H3 E3 a b c e dt3 s3=>?_⟩;obtain⟨_,B3,S3,E4,Q4,_,xx,z,k⟩:=l σ3 H3 E3 a b c e dt3 s3;exact k true E4 H3 S3 z .refl xx
theorem yJ(S:bD X N' scope t (cap.map (·.1)))(ho:kS cap=true)(hnd:(cap.map (·.1)).Nodup)(hl:σ.length=X.N.length)(hdd:∀H,mS d σ H->mS d' (h9 t (cap.map (·.1)) σ) H)(h:lJ d K (Cc t cap I g Fe) σ H Q):Dd t (cap.map (·.1)) (lC K I) (G7 d' K g) (lJ d' K Fe) σ H Q:=by
 have e:Ml t cap I g bT Fe=Cc t cap I g Fe:=by unfold Ml Cc;simp only[Eh]
 rw[<-e]at h;exact La (Um S ho hnd hl hdd h)
theorem fT(hc:X.calm=true)(S:bD X N' scope t (cap.map (·.1)))(ho:kS cap=true)(hnd:(cap.map (·.1)).Nodup)(hi:QI X target iter (lC K I))(hg:∀C s3 H3 fp,QG (aX X N' scope C s3 H3 fp) target (rC K g))(he:∀C s3 H3 fp,QE (aX X N' scope C s3 H3 fp) elt (aH K Fe))(hs:∀x,gw iter X.env x=pure x:=by intro _;rfl):
  QE X (.ListComp elt [⟨target,iter,[],0⟩] scope pos) (aH K (Cc t cap I g Fe)):=
 (Sj hc S hi (λC s H f=>(hg C s H f).gd) (λC s H f=>(he C s H f).ed) hs).le λσ H Q hl h=>yJ (d:=none) (d':=none) S ho hnd hl (λ_ _ _ z=>by cases z) ⟨(λ_ z=>by cases z),h⟩
end
theorem Ke(hNn:X.N.Nodup)(hin:X.N[ix]?=oZ xn)(hxn:uG X.env.scope xn)(hfn:X.fn xn=true\/X.env.scope.names.lookup xn=oZ .local)(hsw:ir (.ListComp elt [⟨target,iter,ifs,0⟩] scope pos) (oZ (.Name xn pos')) wo.line X.env=pure true)(hc:X.calm=true)(S:bD X N' scope t cap)(hi:PI X target iter wi)(hg:∀C s3 H3 fp,PG (aX X N' scope C s3 H3 fp) target g)(hb:∀C s3 H3 fp,O0 (aX X N' scope C s3 H3 fp) ifs tb)(he:∀C s3 H3 fp,SF n0 (aX X N' scope C s3 H3 fp) elt te)(hs:∀x,gw iter X.env x=pure x)(pins:List (fk×Obj))(s:oB)(σ:St)(H:Hp)(DD:cX)(I:aW X pins σ H s)(ht0:n0<=s.toks)(h:Ky (nU t cap wi g tb te) (n8 ix) DD σ H):
  fo (ft X.prog X.w) X.A (exec (.Assign [.Name xn pos'] (.ListComp elt [⟨target,iter,ifs,0⟩] scope pos) wo) X.env) (SP X pins DD) X.xe s:=by
 rw[exec_Assign_Name_used _ _ _ _ hsw];refine fm (jq (fm ?_));unfold evalThenUse;refine fm ?_;obtain⟨QQ,hQQ⟩:∃QQ:oA->oB->Prop,QQ=λ_ s'=>∃σ' H',aW X pins σ' H' s'/\DD.nx σ' H':=⟨_,rfl⟩;refine dP (Q:=QQ) ?_ (λ_ s' h'=>fz (fz (by rw[hQQ]at h';exact h')));refine yI (use:=oZ (jg (.Name xn pos') X.env)) hc S hi hg hb he hs I ht0 h λs3 s6 H3 H5 fp D m I3 f3 hn' un6 zj wb os6 ba qn=>?_;have I7:aW X pins σ H5 s6:=I3.call' (ch:=fp) os6 un6 zj ba f3;have fC:sQ X pins H5 s3.heap.objs.size:=I3.fpOk (VA _) wb;refine wpAny_assign_Name (Cy I7 hNn hin hxn (v:=.ref D) rfl (λs8 I8⟨a,sa,ha⟩=>?_) hfn);have nC:s3.heap.objs.size≠a:=by
  obtain rfl|ha:=ha
  ·exact fC.2.1
  ·exactλz=>fC.2.2.2.2.1 _ _ ha z.symm
 obtain⟨mC,hnC⟩:∃m',s8.heap.Ns s3.heap.objs.size m':=⟨m,hn'.at λo e=>sa.extBut _ _ nC e⟩;refine⟨mC,hnC,λh' hs'=>?_⟩;rw[hQQ];refine⟨_,H5,I8.turnedL (t':=s8.toks) (ch:=[s3.heap.objs.size]) (λb u hb e=>hs'.extBut _ _ (by simpa using hb) e) (λb hb=>by rw[VS.mp hb];exact fC),qn⟩
theorem C5(hNn:X.N.Nodup)(hin:X.N[ix]?=oZ xn)(hxn:uG X.env.scope xn)(hfn:X.fn xn=true\/X.env.scope.names.lookup xn=oZ .local)(hsw:ir (.ListComp elt [⟨target,iter,ifs,0⟩] scope pos) (oZ (.Name xn pos')) wo.line X.env=pure true)(hc:X.calm=true)(S:bD X N' scope t cap)(hi:PI X target iter wi)(hg:∀C s3 H3 fp,PG (aX X N' scope C s3 H3 fp) target g)(hb:∀C s3 H3 fp,O0 (aX X N' scope C s3 H3 fp) ifs tb)(he:∀C s3 H3 fp,PE (aX X N' scope C s3 H3 fp) elt te)(hs:∀x,gw iter X.env x=pure x:=by intro _;rfl):
  PS X (.Assign [.Name xn pos'] (.ListComp elt [⟨target,iter,ifs,0⟩] scope pos) wo) (Ky (nU t cap wi g tb te) (n8 ix)):=
 λpins s σ H DD I h=>Ke (n0:=0) hNn hin hxn hfn hsw hc S hi hg hb (λC s3 H3 fp pins s σ H Q I _ z=>he C s3 H3 fp pins s σ H Q I z) hs pins s σ H DD I (UU _) h
theorem Sg(hNn:X.N.Nodup)(hin:X.N[ix]?=oZ xn)(hxn:uG X.env.scope xn)(hfn:X.fn xn=true\/X.env.scope.names.lookup xn=oZ .local)(hsw:ir (.ListComp elt [⟨target,iter,[],0⟩] scope pos) (oZ (.Name xn pos')) wo.line X.env=pure true)(hc:X.calm=true)(S:bD X N' scope t cap)(hi:PI X target iter wi)(hg:∀C s3 H3 fp,PG (aX X N' scope C s3 H3 fp) target g)(he:∀C s3 H3 fp,PE (aX X N' scope C s3 H3 fp) elt te)(hs:∀x,gw iter X.env x=pure x:=by intro _;rfl):
  PS X (.Assign [.Name xn pos'] (.ListComp elt [⟨target,iter,[],0⟩] scope pos) wo) (Ky (Dd t cap wi g te) (n8 ix)):=
 λpins s σ H DD I h=>C5 (tb:=λ_ H Q=>Q true H) hNn hin hxn hfn hsw hc S hi hg (λ_ _ _ _ _ _ _ _ _ I z=>wpAny_tests_nil ⟨_,I,z⟩) he hs pins s σ H DD I h
theorem xA{X:Cx}{K:W.Frag}{Fe:FE}{g:FG}{I:FI}{target elt iter:oC}{scope:kh}{pos pos' wo:Pos}{N':List Str}{cap:List (Nat×Bool)}{t i:Nat}{x:Str}(hN:X.N.Nodup)(hi:X.N[i]?=oZ x)(hx:uG X.env.scope x)(hsw:ir (.ListComp elt [⟨target,iter,[],0⟩] scope pos) (oZ (.Name x pos')) wo.line X.env=pure true)(hc:X.calm=true)(S:bD X N' scope t (cap.map (·.1)))(ho:kS cap=true)(hnd:(cap.map (·.1)).Nodup)(hit:QI X target iter (lC K I))(hg:∀C s3 H3 fp,QG (aX X N' scope C s3 H3 fp) target (rC K g))(he:∀C s3 H3 fp,QE (aX X N' scope C s3 H3 fp) elt (aH K Fe))(hs:∀x,gw iter X.env x=pure x:=by intro _;rfl)(hf:X.fn x=true\/X.env.scope.names.lookup x=oZ .local:=by first|exact .inl rfl|exact .inr rfl|assumption):
  QS X (.Assign [.Name x pos'] (.ListComp elt [⟨target,iter,[],0⟩] scope pos) wo) (eQ K (Kl i (Cc t cap I g Fe))):=
 QS.le ⟨Sg hN hi hx hf hsw hc S hit.h (λC s3 H3 fp=>(hg C s3 H3 fp).gd.h) (λC s3 H3 fp=>(he C s3 H3 fp).ed.h) hs⟩ λD σ H hl⟨B,E,DT,re,hF,l⟩=>yJ (d:=none) (d':=none) S ho hnd hl (λ_ _ _ z=>by cases z) ⟨(λ_ z=>by cases z),B,σ,E,_,⟨[],by simp⟩,re,hF,λr E' v H' S' q g ni rr=>by
  obtain⟨u,e1,q⟩:=q.ex;rw[<-re.len]at e1 q;obtain⟨r1,ow⟩:=lH (i:=i) ni g.pre rr e1;exact l.nx _ _ _ q (g.kp.trans (Kp.less ow)) r1⟩
mutual
def dG:T->T->Bool
 |.non,.non=>true
 |.bl a,.bl b=>a==b
 |.int a,.int b=>a==b
 |.bl a,.int b=>(if a then 1 else 0)==b
 |.int a,.bl b=>a==(if b then 1 else 0)
 |.str a,.str b=>a==b
 |.tup xs,.tup ys=>yM xs ys
 |.lst xs,.lst ys=>yM xs ys
 |_,_=>false
def yM:List T->List T->Bool
 |[],[]=>true
 |x::xs,y::ys=>dG x y&&yM xs ys
 |_,_=>false
end
mutual
def dT:T->Nat
 |.tup xs=>Uq xs+1
 |.lst xs=>Uq xs+1
 |_=>0
def Uq:List T->Nat
 |[]=>0
 |x::xs=>af (dT x) (Uq xs)
end
mutual
theorem e7:∀x:T,dG x x=true
 |.non=>rfl
 |.bl a=>by simp[dG]
 |.int a=>by simp[dG]
 |.str a=>by simp[dG]
 |.tup xs=>by rw[dG];exact uK xs
 |.lst xs=>by rw[dG];exact uK xs
theorem uK:∀xs:List T,yM xs xs=true
 |[]=>rfl
 |x::xs=>by rw[yM,e7 x,uK xs];rfl
end
theorem kP:∀xs ys:List T,yM xs ys=((VC (min xs.length ys.length)).all (λj=>dG (xs.getD j .non) (ys.getD j .non))&&xs.length==ys.length)
 |[],[]=>rfl
 |[],_::_=>by simp[yM]
 |_::_,[]=>by simp[yM]
 |x::xs,y::ys=>by
  rw[yM,kP xs ys];simp only[VQ,Nat.succ_min_succ,dq,YD,List.all_map];simp[Function.comp_def,Bool.and_assoc]
theorem uI:∀{xs:List T}{x:T},x∈xs->dT x<=Uq xs
 |y::xs,x,h=>by
  rw[Uq];obtain rfl|h:=UZ.mp h
  ·exact YY _ _
  ·exact VZ (uI h) (YT _ _)
mutual
def Rq(K:W.Frag)(H:Hp):T->V->Prop
 |.non,v=>v = .non
 |.bl b,v=>v = .bl b
 |.int i,v=>v = .int i
 |.str x,v=>v = .str x
 |.tup xs,v=>∃a vs,v = .ref a/\xZ K H a vs/\Hw K H xs vs
 |.lst xs,v=>∃a vs,v = .ref a/\k9 K H a vs/\Hw K H xs vs
def Hw(K:W.Frag)(H:Hp):List T->List V->Prop
 |[],vs=>vs=[]
 |x::xs,vs=>∃v r,vs=v::r/\Rq K H x v/\Hw K H xs r
end
section
variable{K:W.Frag}{H:Hp}{O:fk->Prop}
mutual
theorem Rp.rq:∀{t:T}{v:V},Rp K H O t v->Rq K H t v
 |.non,_,h=>h
 |.bl _,_,h=>h
 |.int _,_,h=>h
 |.str _,_,h=>h
 |.tup xs,v,h=>by
  obtain⟨a,vs,e,h1,h2⟩:=h;exact⟨a,vs,e,h1.imp (λh=>.inl h.2) id,cP.rq h2⟩
 |.lst xs,v,h=>by
  obtain⟨a,vs,e,h1,h2⟩:=h;exact⟨a,vs,e,h1.imp And.right id,cP.rq h2⟩
theorem cP.rq:∀{xs:List T}{vs:List V},cP K H O xs vs->Hw K H xs vs
 |[],_,h=>h
 |x::xs,vs,h=>by
  obtain⟨v,r,e,h1,h2⟩:=h;exact⟨v,r,e,Rp.rq h1,cP.rq h2⟩
end
theorem Rt.rq(h:Rt K H O t v):Rq K H t v:=by
 cases t with
 |tup xs=>obtain⟨a,vs,e,h1,h2⟩:=h;exact⟨a,vs,e,h1,h2.rq⟩
 |lst xs=>obtain⟨a,vs,e,h1,h2⟩:=h;exact⟨a,vs,e,h1,h2.rq⟩
 |non=>exact h
 |bl _=>exact h
 |int _=>exact h
 |str _=>exact h
theorem Hw.length:∀{xs:List T}{vs:List V},Hw K H xs vs->vs.length=xs.length
 |[],_,h=>by cases h;rfl
 |_::_,_,⟨v,r,e,_,h2⟩=>by rw[e,VQ,VQ,Hw.length h2]
theorem Hw.get:∀{xs:List T}{vs:List V}{i:Nat}{x:T},Hw K H xs vs->xs[i]?=oZ x->∃v,vs[i]?=oZ v/\Rq K H x v
 |[],_,_,_,_,e=>by simp at e
 |_::_,_,0,_,⟨v,r,e,h1,_⟩,q=>by simp at q;subst q;subst e;exact⟨v,rfl,h1⟩
 |_::_,_,i+1,x,⟨v,r,e,_,h2⟩,q=>by
  obtain⟨w,q1,q2⟩:=Hw.get (i:=i) (x:=x) h2 (by simpa using q);subst e;exact⟨w,by simpa using q1,q2⟩
end
section
variable{X:Cx}{pins:List (fk×Obj)}{σ:St}{H:Hp}{s:oB}
theorem aW.nolt(I:aW X pins σ H s)(h1:k9 X.K H a vs)(h2:xZ X.K H a ws):False:=by
 obtain⟨_,_,p1,_⟩:=I.list h1;obtain⟨_,_,p2,_⟩:=I.tuple h2;exact SeqAt.ne_of_list_tuple p1.isList p2 rfl
mutual
theorem Rq.inj(I:aW X pins σ H s):∀{x y:T}{v:V},Rq X.K H x v->Rq X.K H y v->x=y
 |.tup xs,y,v,h,k=>by
  obtain⟨a,vs,e,h1,h2⟩:=h;subst e;cases y with
  |tup ys=>
   obtain⟨b,ws,f,k1,k2⟩:=k;cases f;rw[I.tuple_inj h1 k1]at h2;rw[Hw.inj I h2 k2]
  |lst ys=>
   obtain⟨b,ws,f,k1,k2⟩:=k;cases f;exact(I.nolt k1 h1).elim
  |_=>cases k
 |.lst xs,y,v,h,k=>by
  obtain⟨a,vs,e,h1,h2⟩:=h;subst e;cases y with
  |lst ys=>
   obtain⟨b,ws,f,k1,k2⟩:=k;cases f;rw[I.list_inj h1 k1]at h2;rw[Hw.inj I h2 k2]
  |tup ys=>
   obtain⟨b,ws,f,k1,k2⟩:=k;cases f;exact(I.nolt h1 k1).elim
  |_=>cases k
 |.non,y,v,h,k=>by
  cases h;cases y with
  |tup ys=>obtain⟨_,_,k,_⟩:=k;cases k
  |lst ys=>obtain⟨_,_,k,_⟩:=k;cases k
  |_=>cases k<;>rfl
 |.bl a,y,v,h,k=>by
  cases h;cases y with
  |tup ys=>obtain⟨_,_,k,_⟩:=k;cases k
  |lst ys=>obtain⟨_,_,k,_⟩:=k;cases k
  |_=>cases k<;>rfl
 |.int a,y,v,h,k=>by
  cases h;cases y with
  |tup ys=>obtain⟨_,_,k,_⟩:=k;cases k
  |lst ys=>obtain⟨_,_,k,_⟩:=k;cases k
  |_=>cases k<;>rfl
 |.str a,y,v,h,k=>by
  cases h;cases y with
  |tup ys=>obtain⟨_,_,k,_⟩:=k;cases k
  |lst ys=>obtain⟨_,_,k,_⟩:=k;cases k
  |_=>cases k<;>rfl
theorem Hw.inj(I:aW X pins σ H s):∀{xs ys:List T}{vs:List V},Hw X.K H xs vs->Hw X.K H ys vs->xs=ys
 |[],ys,_,h,k=>by
  cases h;cases ys with
  |nil=>rfl
  |cons y ys=>obtain⟨_,_,k,_⟩:=k;cases k
 |x::xs,ys,_,h,k=>by
  obtain⟨v,r,e,h1,h2⟩:=h;subst e;cases ys with
  |nil=>cases k
  |cons y ys=>
   obtain⟨w,r',f,k1,k2⟩:=k;cases f;rw[Rq.inj I h1 k1,Hw.inj I h2 k2]
end
theorem Ls{A:oD}{u v:oA}{k:Bool}(h:SeqAt.RcAt A s u v k)(hk:u=v->k=true)(hf:∀b t,u≠.float b t):SeqAt.EqAt A s u v k:=λprog w E Q hq=>by
 unfold eqBool;refine iu ?_;refine wpAny_ite_split (λhab=>?_) (λ_=>?_)
 ·rw[hk (eq_of_beq hab)]at hq;exact fm (md (fz hq))
 ·cases u with
  |float b t=>exact absurd rfl (hf b t)
  |_=>exact fm (h prog w E _ (iw hq))
theorem Y1(h:bJ x u)(k:bJ y u):x=y:=h.inj k
theorem tS(A:oD)(rx:bC vs mq)(ry:bC ws js)(hx:Hw X.K H xs vs)(hy:Hw X.K H ys ws)(ih:∀(j:Nat)(x y:T)(v w:V)(u u':oA),xs[j]?=oZ x->ys[j]?=oZ y->Rq X.K H x v->Rq X.K H y w->bJ v u->bJ w u'->SeqAt.EqAt A s u u' (dG x y)):
  ∀j(h1:j<mq.toArray.size)(h2:j<js.toArray.size),SeqAt.EqAt A s mq.toArray[j] js.toArray[j] (dG (xs.getD j .non) (ys.getD j .non)):=λj h1 h2=>by
 have l1:=rx.length;have l2:=ry.length;have l3:=hx.length;have l4:=hy.length;have h1':j<mq.length:=by simpa using h1
 have h2':j<js.length:=by simpa using h2
 have e1:xs[j]?=oZ xs[j]:=UP (by omega);have e2:ys[j]?=oZ ys[j]:=UP (by omega);obtain⟨v,q1,q2⟩:=hx.get e1;obtain⟨w,q3,q4⟩:=hy.get e2;obtain⟨u1,z1,r1⟩:=rx.get q1;obtain⟨v1,z2,r2⟩:=ry.get q3;have y1:mq.toArray[j]=u1:=by
  rw[UP h1']at z1
  simpa using Option.some.inj z1
 have y2:js.toArray[j]=v1:=by
  rw[UP h2']at z2
  simpa using Option.some.inj z2
 rw[y1,y2];have g1:xs.getD j .non=xs[j]:=by simp[List.getD,e1]
 have g2:ys.getD j .non=ys[j]:=by simp[List.getD,e2]
 rw[g1,g2];exact ih j _ _ v w u1 v1 e1 e2 q2 q4 r1 r2
theorem m9(I:aW X pins σ H s)(hx:Rq X.K H x v)(rx:bJ v u):(x = .non/\u = .none)\/(∃b,x = .bl b/\u = .bool b)\/(∃i t,x = .int i/\u = .int i t)\/(∃c t,x = .str c/\u = .str c t)\/(∃xs a mq,x = .tup xs/\u = .ref a/\s.heap.IsTuple a mq)\/∃xs a mq,x = .lst xs/\u = .ref a/\s.heap.IsList a mq:=by
 cases x with
 |non=>cases hx;cases rx;exact .inl ⟨rfl,rfl⟩
 |bl b=>cases hx;cases rx;exact .inr (.inl ⟨_,rfl,rfl⟩)
 |int i=>cases hx;obtain⟨t,rfl⟩:=rx;exact .inr (.inr (.inl ⟨_,t,rfl,rfl⟩))
 |str c=>cases hx;obtain⟨t,rfl⟩:=rx;exact .inr (.inr (.inr (.inl ⟨_,t,rfl,rfl⟩)))
 |tup xs=>
  obtain⟨a,vs,e,q,_⟩:=hx;subst e;cases rx;obtain⟨mq,_,p,_⟩:=I.tuple q;exact .inr (.inr (.inr (.inr (.inl ⟨xs,a,_,rfl,rfl,p⟩))))
 |lst xs=>
  obtain⟨a,vs,e,q,_⟩:=hx;subst e;cases rx;obtain⟨mq,_,p,_⟩:=I.list q;exact .inr (.inr (.inr (.inr (.inr ⟨xs,a,_,rfl,rfl,p.isList⟩))))
theorem zI(I:aW X pins σ H s){A:oD}(hu:A.units<kq)(nt:∀xs ys,¬(x = .tup xs/\y = .tup ys))(nl:∀xs ys,¬(x = .lst xs/\y = .lst ys))(hx:Rq X.K H x v)(hy:Rq X.K H y w)(rx:bJ v u)(ry:bJ w u'):SeqAt.RcAt A s u u' (dG x y)/\SeqAt.RcNeAt A s u u' (!(dG x y)):=by
 obtain⟨rfl,rfl⟩|⟨_,rfl,rfl⟩|⟨_,_,rfl,rfl⟩|⟨_,_,rfl,rfl⟩|⟨xs,_,_,rfl,rfl,p⟩|⟨xs,_,_,rfl,rfl,p⟩:=m9 I hx rx
 ·obtain⟨rfl,rfl⟩|⟨_,rfl,rfl⟩|⟨_,_,rfl,rfl⟩|⟨_,_,rfl,rfl⟩|⟨ys,_,_,rfl,rfl,q⟩|⟨ys,_,_,rfl,rfl,q⟩:=m9 I hy ry
  ·exact⟨SeqAt.RcAt.none_none,SeqAt.RcNeAt.none_none⟩
  ·exact⟨SeqAt.RcAt.none_bool _,SeqAt.RcNeAt.none_bool _⟩
  ·exact⟨SeqAt.RcAt.none_int _ _,SeqAt.RcNeAt.none_int _ _⟩
  ·exact⟨SeqAt.RcAt.none_str _ _,SeqAt.RcNeAt.none_str _ _⟩
  ·exact⟨SeqAt.RcAt.none_tuple q hu,SeqAt.RcNeAt.none_tuple q hu⟩
  ·exact⟨SeqAt.RcAt.none_list q hu,SeqAt.RcNeAt.none_list q hu⟩
 ·obtain⟨rfl,rfl⟩|⟨_,rfl,rfl⟩|⟨_,_,rfl,rfl⟩|⟨_,_,rfl,rfl⟩|⟨ys,_,_,rfl,rfl,q⟩|⟨ys,_,_,rfl,rfl,q⟩:=m9 I hy ry
  ·exact⟨SeqAt.RcAt.bool_none _,SeqAt.RcNeAt.bool_none _⟩
  ·exact⟨SeqAt.RcAt.bool_bool _ _,SeqAt.RcNeAt.bool_bool _ _⟩
  ·exact⟨SeqAt.RcAt.bool_int _ _ _,SeqAt.RcNeAt.bool_int _ _ _⟩
  ·exact⟨SeqAt.RcAt.bool_str _ _ _,SeqAt.RcNeAt.bool_str _ _ _⟩
  ·exact⟨SeqAt.RcAt.bool_tuple _ q hu,SeqAt.RcNeAt.bool_tuple _ q hu⟩
  ·exact⟨SeqAt.RcAt.bool_list _ q hu,SeqAt.RcNeAt.bool_list _ q hu⟩
 ·obtain⟨rfl,rfl⟩|⟨_,rfl,rfl⟩|⟨_,_,rfl,rfl⟩|⟨_,_,rfl,rfl⟩|⟨ys,_,_,rfl,rfl,q⟩|⟨ys,_,_,rfl,rfl,q⟩:=m9 I hy ry
  ·exact⟨SeqAt.RcAt.int_none _ _,SeqAt.RcNeAt.int_none _ _⟩
  ·exact⟨SeqAt.RcAt.int_bool _ _ _,SeqAt.RcNeAt.int_bool _ _ _⟩
  ·exact⟨SeqAt.RcAt.int_int _ _ _ _,SeqAt.RcNeAt.int_int _ _ _ _⟩
  ·exact⟨SeqAt.RcAt.int_str _ _ _ _,SeqAt.RcNeAt.int_str _ _ _ _⟩
  ·exact⟨SeqAt.RcAt.int_tuple _ _ q hu,SeqAt.RcNeAt.int_tuple _ _ q hu⟩
  ·exact⟨SeqAt.RcAt.int_list _ _ q hu,SeqAt.RcNeAt.int_list _ _ q hu⟩
 ·obtain⟨rfl,rfl⟩|⟨_,rfl,rfl⟩|⟨_,_,rfl,rfl⟩|⟨_,_,rfl,rfl⟩|⟨ys,_,_,rfl,rfl,q⟩|⟨ys,_,_,rfl,rfl,q⟩:=m9 I hy ry
  ·exact⟨SeqAt.RcAt.str_none _ _,SeqAt.RcNeAt.str_none _ _⟩
  ·exact⟨SeqAt.RcAt.str_bool _ _ _,SeqAt.RcNeAt.str_bool _ _ _⟩
  ·exact⟨SeqAt.RcAt.str_int _ _ _ _,SeqAt.RcNeAt.str_int _ _ _ _⟩
  ·exact⟨SeqAt.RcAt.str_str _ _ _ _,SeqAt.RcNeAt.str_str _ _ _ _⟩
  ·exact⟨SeqAt.RcAt.str_tuple _ _ q hu,SeqAt.RcNeAt.str_tuple _ _ q hu⟩
  ·exact⟨SeqAt.RcAt.str_list _ _ q hu,SeqAt.RcNeAt.str_list _ _ q hu⟩
 ·obtain⟨rfl,rfl⟩|⟨_,rfl,rfl⟩|⟨_,_,rfl,rfl⟩|⟨_,_,rfl,rfl⟩|⟨ys,_,_,rfl,rfl,q⟩|⟨ys,_,_,rfl,rfl,q⟩:=m9 I hy ry
  ·exact⟨SeqAt.RcAt.tuple_none p hu,SeqAt.RcNeAt.tuple_none p hu⟩
  ·exact⟨SeqAt.RcAt.tuple_bool _ p hu,SeqAt.RcNeAt.tuple_bool _ p hu⟩
  ·exact⟨SeqAt.RcAt.tuple_int _ _ p hu,SeqAt.RcNeAt.tuple_int _ _ p hu⟩
  ·exact⟨SeqAt.RcAt.tuple_str _ _ p hu,SeqAt.RcNeAt.tuple_str _ _ p hu⟩
  ·exact absurd ⟨rfl,rfl⟩ (nt xs ys)
  ·exact⟨SeqAt.RcAt.tuple_list p q hu,SeqAt.RcNeAt.tuple_list p q hu⟩
 ·obtain⟨rfl,rfl⟩|⟨_,rfl,rfl⟩|⟨_,_,rfl,rfl⟩|⟨_,_,rfl,rfl⟩|⟨ys,_,_,rfl,rfl,q⟩|⟨ys,_,_,rfl,rfl,q⟩:=m9 I hy ry
  ·exact⟨SeqAt.RcAt.list_none p hu,SeqAt.RcNeAt.list_none p hu⟩
  ·exact⟨SeqAt.RcAt.list_bool _ p hu,SeqAt.RcNeAt.list_bool _ p hu⟩
  ·exact⟨SeqAt.RcAt.list_int _ _ p hu,SeqAt.RcNeAt.list_int _ _ p hu⟩
  ·exact⟨SeqAt.RcAt.list_str _ _ p hu,SeqAt.RcNeAt.list_str _ _ p hu⟩
  ·exact⟨SeqAt.RcAt.list_tuple p q hu,SeqAt.RcNeAt.list_tuple p q hu⟩
  ·exact absurd ⟨rfl,rfl⟩ (nl xs ys)
theorem Zr{K:W.Frag}{x:T}{v:V}{u:oA}(h:Rq K H x v)(r:bJ v u):∀b t,u≠.float b t:=λb t e=>by
 subst e;cases x with
 |tup _=>obtain⟨_,_,e,_⟩:=h;subst e;cases r
 |lst _=>obtain⟨_,_,e,_⟩:=h;subst e;cases r
 |non=>cases h;cases r
 |bl _=>cases h;cases r
 |int _=>cases h;obtain⟨_,r⟩:=r;cases r
 |str _=>cases h;obtain⟨_,r⟩:=r;cases r
theorem Pd(I:aW X pins σ H s):∀(n:Nat)(A:oD)(x y:T)(v w:V)(u u':oA),dT x<=n->Rq X.K H x v->Rq X.K H y w->bJ v u->bJ w u'->A.units+n<kq->SeqAt.RcAt A s u u' (dG x y)/\SeqAt.EqAt A s u u' (dG x y):=by
 have fin:∀{A:oD}{x y:T}{v w:V}{u u':oA},Rq X.K H x v->Rq X.K H y w->bJ v u->bJ w u'->SeqAt.RcAt A s u u' (dG x y)->SeqAt.RcAt A s u u' (dG x y)/\SeqAt.EqAt A s u u' (dG x y):=λ{A x y v w u u'}hx hy rx ry h=>⟨h,Ls h (λe=>by
   subst e;rw[Rq.inj I hx (by rw[Y1 rx ry];exact hy)];exact e7 y) (Zr hx rx)⟩
 intro n
 induction n with
 |zero=>
  intro A x y v w u u' hd hx hy rx ry hu;refine fin hx hy rx ry ((zI I ⋯ (λxs ys z=>?_) (λxs ys z=>?_) hx hy rx ry).1)
  ·rw[z.1]at hd;simp[dT]at hd
  ·rw[z.1]at hd;simp[dT]at hd
 |succ n ih=>
  intro A x y v w u u' hd hx hy rx ry hu;refine fin hx hy rx ry ?_
  by_cases c1:∃xs ys,x = .tup xs/\y = .tup ys
  ·obtain⟨xs,ys,rfl,rfl⟩:=c1;obtain⟨a,vs,rfl,q1,h1⟩:=hx;obtain⟨b,ws,rfl,q2,h2⟩:=hy;cases rx;cases ry;obtain⟨mq,r1,p1,_⟩:=I.tuple q1;obtain⟨js,r2,p2,_⟩:=I.tuple q2;have:=SeqAt.RcAt.tuples p1 p2 (A:=A) ⋯ (tS A.in1 r1 r2 h1 h2 λj x y v w u u' e1 e2 k1 k2 k3 k4=>(ih A.in1 x y v w u u' (by
    have:=uI (UR e1);simp only[dT]at hd;lia) k1 k2 k3 k4 (by show A.units+1+n<kq;lia)).2)
   rw[dG,kP];have l1:=r1.length;have l2:=r2.length;have l3:=h1.length;have l4:=h2.length;have s1:mq.toArray.size=xs.length:=by simp;lia
   have s2:js.toArray.size=ys.length:=by simp;lia
   rw[s1,s2]at this;exact this
  ·by_cases c2:∃xs ys,x = .lst xs/\y = .lst ys
   ·obtain⟨xs,ys,rfl,rfl⟩:=c2;obtain⟨a,vs,rfl,q1,h1⟩:=hx;obtain⟨b,ws,rfl,q2,h2⟩:=hy;cases rx;cases ry;obtain⟨mq,r1,p1,_⟩:=I.list q1;obtain⟨js,r2,p2,_⟩:=I.list q2;have l1:=r1.length;have l2:=r2.length;have l3:=h1.length;have l4:=h2.length;have s1:mq.toArray.size=xs.length:=by simp;lia
    have s2:js.toArray.size=ys.length:=by simp;lia
    rw[dG,kP]
    by_cases hl:xs.length=ys.length
    ·have:=SeqAt.RcAt.lists p1.isList p2.isList (A:=A) (by rw[s1,s2];exact hl) ⋯ (tS A.in1 r1 r2 h1 h2 λj x y v w u u' e1 e2 k1 k2 k3 k4=>(ih A.in1 x y v w u u' (by
      have:=uI (UR e1);simp only[dT]at hd;lia) k1 k2 k3 k4 (by show A.units+1+n<kq;lia)).2)
     rw[s1]at this;rw[<-hl,Nat.min_self,beq_self_eq_true,Bool.and_true];exact this
    ·have:=SeqAt.RcAt.lists_lengths p1.isList p2.isList (A:=A) (by rw[s1,s2];simpa using hl) ⋯;rw[show(xs.length==ys.length)=false by simpa using hl,dw];exact this
   ·exact(zI I ⋯ (λxs ys z=>c1 ⟨xs,ys,z⟩) (λxs ys z=>c2 ⟨xs,ys,z⟩) hx hy rx ry).1
theorem X9(I:aW X pins σ H s){A:oD}(n:Nat)(hd:dT x<=n)(hx:Rq X.K H x v)(hy:Rq X.K H y w)(rx:bJ v u)(ry:bJ w u')(hu:A.units+n<kq):SeqAt.RcNeAt A s u u' (!(dG x y)):=by
 by_cases c1:∃xs ys,x = .tup xs/\y = .tup ys
 ·obtain⟨xs,ys,rfl,rfl⟩:=c1;obtain⟨a,vs,rfl,q1,h1⟩:=hx;obtain⟨b,ws,rfl,q2,h2⟩:=hy;cases rx;cases ry;obtain⟨mq,r1,p1,_⟩:=I.tuple q1;obtain⟨js,r2,p2,_⟩:=I.tuple q2;have:=SeqAt.RcNeAt.tuples p1 p2 (A:=A) ⋯ (tS A.in1 r1 r2 h1 h2 λj x y v w u u' e1 e2 k1 k2 k3 k4=>(Pd I (n-1) A.in1 x y v w u u' (by
   have:=uI (UR e1);simp only[dT]at hd;lia) k1 k2 k3 k4 (by show A.units+1+(n-1)<kq;simp only[dT]at hd;lia)).2)
  rw[dG,kP];have l1:=r1.length;have l2:=r2.length;have l3:=h1.length;have l4:=h2.length;have s1:mq.toArray.size=xs.length:=by simp;lia
  have s2:js.toArray.size=ys.length:=by simp;lia
  rw[s1,s2]at this;exact this
 ·by_cases c2:∃xs ys,x = .lst xs/\y = .lst ys
  ·obtain⟨xs,ys,rfl,rfl⟩:=c2;obtain⟨a,vs,rfl,q1,h1⟩:=hx;obtain⟨b,ws,rfl,q2,h2⟩:=hy;cases rx;cases ry;obtain⟨mq,r1,p1,_⟩:=I.list q1;obtain⟨js,r2,p2,_⟩:=I.list q2;have l1:=r1.length;have l2:=r2.length;have l3:=h1.length;have l4:=h2.length;have s1:mq.toArray.size=xs.length:=by simp;lia
   have s2:js.toArray.size=ys.length:=by simp;lia
   rw[dG,kP]
   by_cases hl:xs.length=ys.length
   ·have:=SeqAt.RcNeAt.lists p1.isList p2.isList (A:=A) (by rw[s1,s2];exact hl) ⋯ (tS A.in1 r1 r2 h1 h2 λj x y v w u u' e1 e2 k1 k2 k3 k4=>(Pd I (n-1) A.in1 x y v w u u' (by
     have:=uI (UR e1);simp only[dT]at hd;lia) k1 k2 k3 k4 (by show A.units+1+(n-1)<kq;simp only[dT]at hd;lia)).2)
    rw[s1]at this;rw[<-hl,Nat.min_self,beq_self_eq_true,Bool.and_true];exact this
   ·have:=SeqAt.RcNeAt.lists_lengths p1.isList p2.isList (A:=A) (by rw[s1,s2];simpa using hl) ⋯;rw[show(xs.length==ys.length)=false by simpa using hl,dw];exact this
  ·exact(zI I ⋯ (λxs ys z=>c1 ⟨xs,ys,z⟩) (λxs ys z=>c2 ⟨xs,ys,z⟩) hx hy rx ry).2
end
section
variable{X:Cx}{K:W.Frag}{pos:Pos}{a b c e o:oC}{es:List oC}{Fa Fb Fo:FE}{Fr:FA}
def X7(K:W.Frag)(ng:Bool):R2:=λx y H Q=>∃t u,Rq K H t x/\Rq K H u y/\dT t<=60/\Q (.bl (if ng then !(dG t u)else dG t u)) H
theorem Oj(hr:dN k X.A):oP X (ja .Eq) (X7 X.K false):=by
 intro pins s σ H x y v u Q I rx ry h;obtain⟨t,w,h1,h2,hd,q⟩:=h;exact(Pd I 60 X.A t w x y v u hd h1 h2 rx ry (by have:=hr.units;lia)).1 X.prog X.w X.xe _ (Mr I q rfl)
theorem A6(hr:dN k X.A):oP X (ja .NotEq) (X7 X.K true):=by
 intro pins s σ H x y v u Q I rx ry h;obtain⟨t,w,h1,h2,hd,q⟩:=h;exact X9 I 60 hd h1 h2 rx ry (by have:=hr.units;lia) X.prog X.w X.xe _ (Mr I q rfl)
def t2(x y:Option T)(k:T->T->Prop):Prop:=match x,y with
 |some t,oZ u=>k t u
 |_,_=>False
theorem t2.ex{k:T->T->Prop}(h:t2 x y k):∃t u,x=oZ t/\y=oZ u/\k t u:=by
 unfold t2 at h;split at h
 ·exact⟨_,_,rfl,rfl,h⟩
 ·exact h.elim
def QJ(Fa Fb:FE):FE:=λE Q=>Fa E λx E1=>Fb E1 λy E2=>t2 (vl E2 x) (vl E2 y) λt u=>dT t<=60/\Q (.p (.bl (dG t u))) E2
def TV(Fa Fb:FE):FE:=λE Q=>Fa E λx E1=>Fb E1 λy E2=>t2 (vl E2 x) (vl E2 y) λt u=>dT t<=60/\Q (.p (.bl (!(dG t u)))) E2
theorem nZ(eK:X.K=K)(hr:dN k X.A)(ha:QE X a (aH K Fa))(hb:QE X b (aH K Fb))(hm:ik .Eq b=false):QE X (.Compare a [.Eq] [b] pos) (aH K (QJ Fa Fb)):=by
 subst eK;refine(Si (Oj hr) ha hb hm).le λσ H Q hl h=>two (Fa:=Fa) (Fb:=Fb) h λB S E x y v w H2 Q' hS re rx ry q lk=>?_;obtain⟨t,u,e1,e2,hd,q⟩:=q.ex;exact⟨t,u,(re.vl rx e1).rq,(re.vl ry e2).rq,hd,lk _ _ _ _ _ q .refl re rfl⟩
end
section
variable{X:Cx}{K:W.Frag}{pos:Pos}{a b c e o:oC}{es:List oC}{Fa Fb Fc Fo:FE}{Fr:FA}
theorem Mt(ho:oP X (ja op) r)(ha:QE X a (aH K Fa))(hb:QE X b (aH K Fb))(hm:ik op b=false)(k:∀σ H Q,aH K F σ H Q->Wr r (aH K Fa) (aH K Fb) σ H Q):QT X (.Compare a [op] [b] pos) (i8 K (Dx F)):=
 (Sk ho ha hb hm).le λσ H Q z=>k _ _ _ (O4 z)
theorem AX{g:Int->Int->Bool}(ho:oP X (ja op) (Wy λi j=>.bl (g i j)))(ha:QE X a (aH K Fa))(hb:QE X b (aH K Fb))(hm:ik op b=false):QT X (.Compare a [op] [b] pos) (i8 K (Dx (QH g Fa Fb))):=
 Mt ho ha hb hm λσ H Q h=>two (Fa:=Fa) (Fb:=Fb) h λB S E x y v w H2 Q' hS re rx ry q lk=>by
  obtain⟨i,j,e1,e2,q⟩:=i2.ex q;exact⟨i,j,re.int rx e1,re.int ry e2,lk _ _ _ _ _ q .refl re rfl⟩
theorem eJ(eK:X.K=K)(hr:dN k X.A)(ha:QE X a (aH K Fa))(hb:QE X b (aH K Fb))(hm:ik .Eq b=false):QT X (.Compare a [.Eq] [b] pos) (i8 K (Dx (QJ Fa Fb))):=by
 subst eK;refine Mt (Oj hr) ha hb hm λσ H Q h=>two (Fa:=Fa) (Fb:=Fb) h λB S E x y v w H2 Q' hS re rx ry q lk=>?_;obtain⟨t,u,e1,e2,hd,q⟩:=t2.ex q;exact⟨t,u,(re.vl rx e1).rq,(re.vl ry e2).rq,hd,lk _ _ _ _ _ q .refl re rfl⟩
theorem rL(eK:X.K=K)(hr:dN k X.A)(ha:QE X a (aH K Fa))(hb:QE X b (aH K Fb))(hm:ik .NotEq b=false):QT X (.Compare a [.NotEq] [b] pos) (i8 K (Dx (TV Fa Fb))):=by
 subst eK;refine Mt (A6 hr) ha hb hm λσ H Q h=>two (Fa:=Fa) (Fb:=Fb) h λB S E x y v w H2 Q' hS re rx ry q lk=>?_;obtain⟨t,u,e1,e2,hd,q⟩:=t2.ex q;exact⟨t,u,(re.vl rx e1).rq,(re.vl ry e2).rq,hd,lk _ _ _ _ _ q .refl re rfl⟩
def Yz:T->Bool
 |.non=>true
 |_=>false
theorem LO(h:Rq K H t v):decide (v = .non)=Yz t:=by
 cases t with
 |non=>cases h;rfl
 |bl _=>cases h;rfl
 |int _=>cases h;rfl
 |str _=>cases h;rfl
 |tup _=>obtain⟨_,_,e,_⟩:=h;subst e;rfl
 |lst _=>obtain⟨_,_,e,_⟩:=h;subst e;rfl
def KA(ng:Bool)(Fa:FE):FE:=λE Q=>Fa E λx E1=>o1 (vl E1 x) λt=>Q (.p (.bl (if ng then !(Yz t)else Yz t))) E1
theorem R0(h:aH K (KA false Fa) σ H Q):Wr (λx y H Q=>y = .non/\Q (.bl (decide (x = .non))) H) (aH K Fa) (tC .non) σ H Q:=
 one (Fa:=Fa) h λB S E x v H2 Q' hS re rx q lk=>by
  obtain⟨t,e1,q⟩:=o1.ex q;exact⟨rfl,by rw[LO (re.vl rx e1).rq];exact lk _ _ _ _ _ q .refl re rfl⟩
theorem Yn{j p2}(ha:QE X a (aH K Fa))(hm:ik .Is (.Constant .none j p2)=false):QT X (.Compare a [.Is] [.Constant .none j p2] pos) (i8 K (Dx (KA false Fa))):=(Sk GF ha D2 hm).le λ_ _ _ h=>R0 (O4 h)
def Rm:T->String
 |.non=>"NoneType"
 |.bl _=>"bool"
 |.int _=>"int"
 |.str _=>"str"
 |.tup _=>"tuple"
 |.lst _=>"list"
theorem LH(h:Rq K H t v):Kd K H v (Rm t):=by
 cases t with
 |non=>cases h;exact .non
 |bl _=>cases h;exact .bl _
 |int _=>cases h;exact .int _
 |str _=>cases h;exact .str _
 |tup _=>obtain⟨_,_,e,h,_⟩:=h;subst e;exact .tup h
 |lst _=>obtain⟨_,_,e,h,_⟩:=h;subst e;exact .lst h
def IW:T->Bool
 |.lst _=>true
 |_=>false
def SQ:T->Bool
 |.tup _=>true
 |_=>false
def SO:T->Bool
 |.str _=>true
 |_=>false
def SM:T->Bool
 |.bl _=>true
 |_=>false
def SN:T->Bool
 |.int _=>true
 |.bl _=>true
 |_=>false
theorem Nf:∀t,IW t=wL (Rm t) "list":=by intro t;cases t<;>simp[IW,wL,Rm]
theorem Ey:∀t,SQ t=wL (Rm t) "tuple":=by intro t;cases t<;>simp[SQ,wL,Rm]
theorem Ze:∀t,SO t=wL (Rm t) "str":=by intro t;cases t<;>simp[SO,wL,Rm]
theorem Nd:∀t,SM t=wL (Rm t) "bool":=by intro t;cases t<;>simp[SM,wL,Rm]
theorem LG:∀t,SN t=wL (Rm t) "int":=by intro t;cases t<;>simp[SN,wL,Rm]
def QK(f:T->Bool)(Fa:FE):FE:=λE Q=>Fa E λx E1=>o1 (vl E1 x) λt=>Q (.p (.bl (f t))) E1
def KC(f g:T->Bool)(Fa:FE):FE:=λE Q=>Fa E λx E1=>o1 (vl E1 x) λt=>Q (.p (.bl (f t||g t))) E1
theorem kQ(kf:∀t,f t=wL (Rm t) T1)(eK:X.K=K)(hg:Gl X "isinstance")(hm:X.mg "isinstance" = none)(ha:QE X a (aH K Fa))(h1:Gl X x)(m1:X.mg x=none)(b1:ij x=oZ (.type T1))(hT:T1∈AH)(n1:x≠"__name__":=by decide)(d1:(x==("__debug__":Str))=false:=by decide)(hs:a8 a=false:=by rfl)(hns:bR [a,.Name x p1]=true:=by rfl):
  QE X (.Call (.Name "isinstance" p) [a,.Name x p1] [] pos) (aH K (QK f Fa)):=by
 subst eK;refine(iZ Xj hg hm boot_isinstance (qc ha (qc (W8 (v:=.ty T1) h1 m1 b1 rfl n1 d1) Ot) hs) ∅ ∅ hns).le λσ H Q hl h=>one (Fa:=Fa) h λB S E x v H2 Q' hS re rx q lk=>?_;obtain⟨t,e1,q⟩:=o1.ex q;rw[kf]at q;exact⟨v,_,T1,rfl,LH (re.vl rx e1).rq,hT,lk _ _ _ _ _ q .refl re rfl⟩
theorem P9(kf:∀t,f t=wL (Rm t) T1)(kg:∀t,g t=wL (Rm t) T2)(eK:X.K=K)(hg:Gl X "isinstance")(hm:X.mg "isinstance" = none)(he:QE X e (aH K Fa))(h1:Gl X x1)(m1:X.mg x1=none)(b1:ij x1=oZ (.type T1))(h2:Gl X x2)(m2:X.mg x2=none)(b2:ij x2=oZ (.type T2))(hT1:T1∈AH)(hT2:T2∈AH)(hs:a8 e=false:=by rfl)(n1:x1≠"__name__":=by decide)(d1:(x1==("__debug__":Str))=false:=by decide)(n2:x2≠"__name__":=by decide)(d2:(x2==("__debug__":Str))=false:=by decide):
  QE X (.Call (.Name "isinstance" p) [e,.Tuple [.Name x1 p1,.Name x2 p2] k p3] [] pos) (aH K (KC f g Fa)):=by
 subst eK;refine(W9 hg hm he h1 m1 b1 h2 m2 b2 hs n1 d1 n2 d2).le λσ H Q hl h=>one (Fa:=Fa) h λB S E x v H2 Q' hS re rx q lk=>?_;obtain⟨t,e1,q⟩:=o1.ex q;rw[kf,kg]at q;refine⟨_,LH (re.vl rx e1).rq,hT1,hT2,λp hp=>?_⟩;have s:∀b o,H2 b=oZ o->(upd H2 p (.tup [.ty T1,.ty T2])) b=oZ o:=λb o e=>by rw[aV (a9 e hp)];exact e
 exact lk _ _ _ _ _ q ⟨Kp.upd hp,[],by simp⟩ (re.kept s) rfl
def gL(xs:List T)(lo hi:Option Int):List T:=(xs.drop (HT.sIx xs.length 0 lo)).take (HT.sIx xs.length xs.length hi-HT.sIx xs.length 0 lo)
theorem Xm{O:fk->Prop}{lo hi:Option Int}(h:cP K H O xs vs):cP K H O (gL xs lo hi) (Iw vs lo hi):=by
 unfold gL Iw;rw[h.length];exact(h.drop _).take _
abbrev FO:=En->(Option Int->En->Prop)->Prop
def Kt(K:W.Frag)(F:FO):TO:=λσ H Q=>∃B S E Q',(∃τ,S=σ++τ)/\RE K B H S E/\F E Q'/\∀b E' H' S',Q' b E'->Gr B H S E H' S' E'->RE K B H' S' E'->Q b H'
theorem QO.le{e:Option oC}{t t':TO}(h:QO X e t)(m:∀σ H Q,t' σ H Q->t σ H Q):QO X e t':=⟨λpins s σ H Q I z=>h.h pins s σ H Q I (m σ H Q z)⟩
def LV:FO:=λE Q=>Q none E
def LW(Fa:FE):FO:=λE Q=>Fa E λx E1=>i1 (vl E1 x) λi=>Q (oZ i) E1
theorem iF:QO X none (Kt K LV):=X3.le λσ H Q⟨B,S,E,Q',hS,re,hF,lk⟩=>lk _ _ _ _ hF .refl re
theorem dQ(h:QE X e (aH K Fa)):QO X (oZ e) (Kt K (LW Fa)):=(X4 h).le λσ H Q⟨B,S,E,Q',hS,re,hF,lk⟩=>⟨B,S,E,_,hS,re,hF,λr E1 v H1 S1 q g mz rr=>by
 obtain⟨i,e1,q⟩:=i1.ex q;exact⟨i,mz.int rr e1,lk _ _ _ _ q g mz⟩⟩
variable{Gl' Gh:FO}
def QZ(Fa:FE)(Gl' Gh:FO):FE:=λE Q=>Fa E λx E1=>Gl' E1 λlo E2=>Gh E2 λhi E3=>match vl E3 x with
 |some (.lst xs)=>Q (.s E3.length) (E3++[oZ (.o false (gL xs lo hi))])
 |_=>False
theorem dH{lo hi:Option oC}(eK:X.K=K)(he:QE X e (aH K Fa))(hl:QO X lo (Kt K Gl'))(hu:QO X hi (Kt K Gh)):QE X (.Subscript e (.Slice lo hi none p2) pos) (aH K (QZ Fa Gl' Gh)):=by
 subst eK;refine(Kf Z2 he hl hu).le λσ H Q _⟨B,S,E,Q',⟨τ,hS⟩,re,hF,lk⟩=>⟨B,S,E,_,⟨τ,hS⟩,re,hF,λx E1 v H1 S1 q g1 mz rx=>?_⟩;obtain⟨τ1,wc⟩:=g1.pre;refine⟨B,S1,E1,_,⟨τ++τ1,by rw[wc,hS,VH]⟩,mz,q,λl E2 H2 S2 q2 g2 rn=>?_⟩;obtain⟨τ2,hS2⟩:=g2.pre;refine⟨B,S2,E2,_,⟨τ++τ1++τ2,by rw[hS2,wc,hS,VH,VH,VH]⟩,rn,q2,λh E3 H3 S3 q3 g3 ud=>?_⟩;have rx3:=(rx.step g2).step g3;split at q3
 ·rename_i xs e1;obtain⟨a,vs,e2,sq,rs⟩:=ud.vl rx3 e1;refine⟨a,vs,e2,sq,λp hp=>?_⟩;obtain⟨g,ni⟩:=ud.lst hp (Xm (lo:=l) (hi:=h) rs);exact lk _ _ _ _ _ q3 (((g1.trans g2).trans g3).trans g) ni (by rw[<-ud.len];exact jK)
 ·exact q3.elim
def ownOf(E:En):R->Option (List T)
 |.s j=>match E[j]? with
  |some (oZ (.o _ xs))=>oZ xs
  |_=>none
 |_=>none
theorem RE.ownOf{B:fk->Prop}(re:RE K B H S E)(h:RR K B H S E r v)(e:L2.ownOf E r=oZ xs):∃j k a vs,r = .s j/\E[j]?=oZ (oZ (.o k xs))/\S[j]?=oZ (oZ (.ref a))/\v = .ref a/\H a=oZ (.lst vs)/\cP K H (Ow B S E) xs vs:=by
 cases r with
 |p _=>cases e
 |s j=>
  cases q:E[j]? with
  |none=>simp only[L2.ownOf,q]at e;cases e
  |some u=>
   cases u with
   |none=>simp only[L2.ownOf,q]at e;cases e
   |some u=>
    cases u with
    |p _=>simp only[L2.ownOf,q]at e;cases e
    |o k ys=>
     simp only[L2.ownOf,q]at e;cases e;obtain⟨a,vs,h1,h2,h3,_⟩:=re.own j k xs q;have h':S[j]?=oZ (oZ v):=h;rw[h']at h1;cases h1;exact⟨j,k,a,vs,rfl,q,h',rfl,h2,h3⟩
def l2(x y:Option (List T))(k:List T->List T->Prop):Prop:=match x,y with
 |some t,oZ u=>k t u
 |_,_=>False
theorem l2.ex{k:List T->List T->Prop}(h:l2 x y k):∃t u,x=oZ t/\y=oZ u/\k t u:=by
 unfold l2 at h;split at h
 ·exact⟨_,_,rfl,rfl,h⟩
 ·exact h.elim
def QF(Fa Fb:FE):FE:=λE Q=>Fa E λx E1=>Fb E1 λy E2=>l2 (ownOf E2 x) (ownOf E2 y) λxs ys=>xs.length+ys.length<=9000/\Q (.s E2.length) (E2++[oZ (.o false (xs++ys))])
theorem iW(ha:QE X a (aH K Fa))(hb:QE X b (aH K Fb)):QE X (.BinOp a .Add b pos) (aH K (QF Fa Fb)):=by
 refine(zG GD ha hb).le λσ H Q hl h=>two (Fa:=Fa) (Fb:=Fb) h λB S E x y v w H2 Q' hS re rx ry q lk=>?_;obtain⟨xs,ys,e1,e2,hz,q⟩:=l2.ex q;obtain⟨j,k,p,vs,_,_,_,rfl,h2,h3⟩:=re.ownOf rx e1;obtain⟨j',k',p',vs',_,_,_,rfl,h2',h3'⟩:=re.ownOf ry e2;refine⟨p,p',vs,vs',rfl,rfl,h2,h2',by rw[h3.length,h3'.length];exact WC (bS hz),λr hr=>?_⟩;obtain⟨g,ni⟩:=re.lst hr (h3.append h3');exact lk _ _ _ _ _ q g ni (by rw[<-re.len];exact jK)
def D9(k:Int)(xs:List T):List T:=(US k.toNat xs).flatten
theorem E7{O:fk->Prop}(h:cP K H O xs vs):∀n:Nat,cP K H O (US n xs).flatten (US n vs).flatten
 |0=>by simp[cP]
 |n+1=>by rw[WI,WI,XH,XH];exact h.append (E7 h n)
def QX(Fa Fb:FE):FE:=λE Q=>Fa E λx E1=>Fb E1 λy E2=>o1 (ownOf E2 x) λxs=>i1 (vl E2 y) λk=>(-(2^63)<=k/\k<2^63/\xs.length*k.toNat<=9000)/\Q (.s E2.length) (E2++[oZ (.o false (D9 k xs))])
theorem Yg(ha:QE X a (aH K Fa))(hb:QE X b (aH K Fb)):QE X (.BinOp a .Mult b pos) (aH K (QX Fa Fb)):=by
 refine(zG GH ha hb).le λσ H Q hl h=>two (Fa:=Fa) (Fb:=Fb) h λB S E x y v w H2 Q' hS re rx ry q lk=>?_;obtain⟨xs,e1,q⟩:=o1.ex q;obtain⟨k,e2,⟨c1,c2,c3⟩,q⟩:=i1.ex q;obtain⟨j,kk,p,vs,_,_,_,rfl,h2,h3⟩:=re.ownOf rx e1;refine⟨p,k,vs,rfl,re.int ry e2,h2,c1,c2,by rw[h3.length];exact WC (bS c3),λr hr=>?_⟩;obtain⟨g,ni⟩:=re.lst hr (E7 h3 k.toNat);exact lk _ _ _ _ _ q g ni (by rw[<-re.len];exact jK)
def P5(Fr:FA):FE:=λE Q=>Fr E λrs E1=>match rs with
 |[x]=>o1 ((vl E1 x).bind MY) λxs=>Q (.s E1.length) (E1++[oZ (.o false xs)])
 |_=>False
theorem Va(eK:X.K=K)(hg:Gl X "list")(hm:X.mg "list" = none)(ha:QA X (e::es) (cM K n Fr))(hs:bR (e::es)=true:=by rfl):QE X (.Call (.Name "list" p) (e::es) [] pos) (aH K (P5 Fr)):=by
 subst eK;refine(rZ Ec hg hm (by decide +kernel) ha ∅ ∅ hs).le λσ H Q hl h=>args (Fr:=Fr) h λB S E rs vs H2 Q' hS re rr hn q lk=>?_;obtain _|⟨x,_|⟨_,_⟩⟩:=rs
 ·exact False.elim q
 ·obtain⟨v,ws,e1,h1,h2⟩:=rr;cases h2;subst e1;obtain⟨xs,e2,q⟩:=o1.ex q;obtain⟨t,e3,e2⟩:=cm.mp e2;have rt:=re.vl h1 e3;have:∃p us,v = .ref p/\(k9 X.K H2 p us\/xZ X.K H2 p us)/\cP X.K H2 (Ow B S E) xs us:=by
   cases t with
   |tup ys=>cases e2;obtain⟨p,us,e,sq,rs⟩:=rt;exact⟨p,us,e,.inr sq,rs⟩
   |lst ys=>cases e2;obtain⟨p,us,e,sq,rs⟩:=rt;exact⟨p,us,e,.inl sq,rs⟩
   |_=>cases e2
  obtain⟨p,us,rfl,sq,rs⟩:=this;refine⟨p,us,rfl,sq,λr hr=>?_⟩;obtain⟨g,ni⟩:=re.lst hr rs;exact lk _ _ _ _ _ q g ni (by rw[<-re.len];exact jK)
 ·exact False.elim q
def DY(Fr:FA):FE:=λE Q=>Fr E λrs E1=>match rs with
 |[x]=>(match vl E1 x with
  |some (.lst xs)=>Q (.p (.tup xs)) E1
  |_=>False)
 |_=>False
theorem tR(eK:X.K=K)(hg:Gl X "tuple")(hm:X.mg "tuple" = none)(ha:QA X (e::es) (cM K n Fr))(hs:bR (e::es)=true:=by rfl):QE X (.Call (.Name "tuple" p) (e::es) [] pos) (aH K (DY Fr)):=by
 subst eK;refine(rZ Ar hg hm (by decide +kernel) ha ∅ ∅ hs).le λσ H Q hl h=>args (Fr:=Fr) h λB S E rs vs H2 Q' hS re rr hn q lk=>?_;obtain _|⟨x,_|⟨_,_⟩⟩:=rs
 ·exact False.elim q
 ·obtain⟨v,ws,e1,h1,h2⟩:=rr;cases h2;subst e1;simp only at q;split at q
  ·rename_i xs e2;obtain⟨p,us,rfl,sq,rs⟩:=re.vl h1 e2;refine⟨p,us,rfl,.inl ⟨sq,λr hr=>?_⟩⟩;obtain⟨g,ni,rp⟩:=re.tup hr rs;exact lk _ _ _ _ _ q g ni rp
  ·exact q.elim
 ·exact False.elim q
def rJ:List T->Option (List Bool)
 |[]=>oZ []
 |.bl b::xs=>(rJ xs).map (b::·)
 |_=>none
theorem Xi{O:fk->Prop}:∀{xs:List T}{vs:List V}{bs:List Bool},cP K H O xs vs->rJ xs=oZ bs->vs=bs.map V.bl
 |[],_,_,h,e=>by cases e;exact h
 |.bl b::xs,_,bs,⟨v,r,e1,h1,h2⟩,e=>by
  cases q:rJ xs with
  |none=>rw[rJ,q]at e;cases e
  |some cs=>
   rw[rJ,q]at e;cases e;cases h1;rw[e1,Xi h2 q];rfl
 |.non::_,_,_,_,e=>by cases e
 |.int _::_,_,_,_,e=>by cases e
 |.str _::_,_,_,_,e=>by cases e
 |.tup _::_,_,_,_,e=>by cases e
 |.lst _::_,_,_,_,e=>by cases e
def QC(Fr:FA):FE:=λE Q=>Fr E λrs E1=>match rs with
 |[x]=>(match vl E1 x with
  |some (.lst xs)=>o1 (rJ xs) λbs=>Q (.p (.bl (bs.all id))) E1
  |_=>False)
 |_=>False
theorem EA(eK:X.K=K)(hc:X.calm=true)(hg:Gl X "all")(hm:X.mg "all" = none)(ha:QA X (e::es) (cM K n Fr))(hs:bR (e::es)=true:=by rfl):QE X (.Call (.Name "all" p) (e::es) [] pos) (aH K (QC Fr)):=by
 subst eK;refine(iZ (Ue hc) hg hm boot_all ha ∅ ∅ hs).le λσ H Q hl h=>args (Fr:=Fr) h λB S E rs vs H2 Q' hS re rr hn q lk=>?_;obtain _|⟨x,_|⟨_,_⟩⟩:=rs
 ·exact False.elim q
 ·obtain⟨v,ws,e1,h1,h2⟩:=rr;cases h2;subst e1;simp only at q;split at q
  ·rename_i xs e2;obtain⟨p,us,rfl,sq,rs⟩:=re.vl h1 e2;obtain⟨bs,e3,q⟩:=o1.ex q;refine⟨p,bs,rfl,by rw[<-Xi rs e3];exact sq,lk _ _ _ _ _ q .refl re rfl⟩
  ·exact q.elim
 ·exact False.elim q
def Ej(f:List T->R->En->Option (List T))(Fo:FE)(Fr:FA):FE:=λE Q=>Fo E λo E1=>o1 (ownOf E1 o) λ_=>Fr E1 λrs E2=>match o,rs with
 |.s j,[r]=>(match E2[j]? with
  |some (oZ (.o k xs))=>o1 (f xs r E2) λys=>ys.length<=9000/\Q (.p .non) (E2.set j (oZ (.o k ys)))
  |_=>False)
 |_,_=>False
def JJ(xs:List T)(r:R)(E:En):Option (List T):=match r with
 |.p t=>oZ (xs++[t])
 |_=>none
def JT(xs:List T)(r:R)(E:En):Option (List T):=(ownOf E r).map (xs++·)
def Ya(f:List T->List T)(Fo:FE):FE:=λE Q=>Fo E λo E1=>match o with
 |.s j=>(match E1[j]? with
  |some (oZ (.o k xs))=>Q (.p .non) (E1.set j (oZ (.o k (f xs))))
  |_=>False)
 |_=>False
theorem Zm{r:V->List V->Hp->VK->Prop}(eK:X.K=K)(h:aH K (Ej f Fo Fr) σ H Q)(hr:∀(B:fk->Prop)(S:St)(E:En)(H2:Hp)(xs ys:List T)(rr:R)(y:V)(p:fk)(vs:List V)(Q:VK),RE K B H2 S E->RR K B H2 S E rr y->f xs rr E=oZ ys->H2 p=oZ (.lst vs)->cP K H2 (Ow B S E) xs vs->ys.length<=9000->
   (∀ws,cP K H2 (Ow B S E) ys ws->Q .non (upd H2 p (.lst ws)))->r (.ref p) [y] H2 Q):IZ X.K "list" r (aH K Fo) (cM K n Fr) σ H Q:=by
 subst eK;obtain⟨B,S,E,Q',⟨τ,hS⟩,re,hF,lk⟩:=h;refine⟨B,S,E,_,⟨τ,hS⟩,re,hF,λoo E1 v H1 S1 q g1 mz rx=>?_⟩;obtain⟨τ1,wc⟩:=g1.pre;obtain⟨xs0,e0,q⟩:=o1.ex q;obtain⟨j,k,p,vs,rfl,hE,hSj,rfl,h2,h3⟩:=mz.ownOf rx e0;refine⟨.inl ⟨rfl,vs,k9.of h2⟩,B,S1,E1,_,⟨τ++τ1,by rw[wc,hS,VH]⟩,mz,q,λrs E2 us H2 S2 q2 g2 rn rr hn=>?_⟩;have aB6:S2[j]?=oZ (oZ (.ref p)):=fW g2.pre hSj;obtain _|⟨r',_|⟨_,_⟩⟩:=rs
 ·exact False.elim q2
 ·obtain⟨y,ws,e1,k1,k2⟩:=rr;cases k2;subst e1;simp only at q2;split at q2
  ·rename_i k2 xs hE2;obtain⟨ys,e3,hz,q2⟩:=o1.ex q2;obtain⟨p',vs2,z1,z2,z3,_⟩:=rn.own j k2 xs hE2;rw[aB6]at z1;cases z1;refine hr B S2 E2 H2 xs ys r' y p vs2 Q rn k1 e3 z2 z3 hz λws hw=>?_;obtain⟨g3,ud⟩:=rn.put hE2 aB6 hw;exact lk _ _ _ _ _ q2 ((g1.trans g2).trans g3) ud rfl
  ·exact q2.elim
 ·exact False.elim q2
theorem eB(eK:X.K=K)(ho:QE X o (aH K Fo))(ha:QA X [e] (cM K n Fr))(qg:iq o "append" X.env (ie o X.env)=ie o X.env:=by rfl)(qh:(ap.endLine==pos.line)=true:=by rfl)(hs:a8 e=false:=by rfl):
  QE X (.Call (.Attribute o "append" ap) [e] [] pos) (aH K (Ej JJ Fo Fr)):=
 (uY ho ha qg qh hs).le λσ H Q hl h=>Zm eK h λB S E H2 xs ys rr y p vs Q re rx e hp hv hz k=>by
  cases rr with
  |s _=>cases e
  |p t=>
   cases e;refine⟨p,vs,y,rfl,rfl,hp,?_,k _ (hv.append ⟨y,[],rfl,rx,rfl⟩)⟩;rw[hv.length];rw[UT]at hz;exact bS (by simp at hz;lia)
theorem mD(eK:X.K=K)(ho:QE X o (aH K Fo))(ha:QA X [e] (cM K n Fr))(qg:iq o "extend" X.env (ie o X.env)=ie o X.env:=by rfl)(qh:(ap.endLine==pos.line)=true:=by rfl)(hs:a8 e=false:=by rfl):
  QE X (.Call (.Attribute o "extend" ap) [e] [] pos) (aH K (Ej JT Fo Fr)):=
 QE.le (t:=IZ X.K "list" Sl (aH K Fo) (cM K n Fr)) ⟨Sb PySem.F.plainAttrs_list PySem.F.slot_list_extend PySem.F.type_list_extend Vj ho.h ha.h qg (by rw[cD hs];rfl) qh (cD hs) (fL rfl)⟩ λσ H Q hl h=>Zm eK h λB S E H2 xs ys rr y p vs Q re rx e hp hv hz k=>by
  unfold JT at e;cases q:ownOf E rr with
  |none=>rw[q]at e;cases e
  |some zs=>
   rw[q]at e;cases e;obtain⟨j,kk,p',vs',_,_,_,rfl,h2,h3⟩:=re.ownOf rx q;refine⟨p,p',vs,vs',rfl,rfl,hp,h2,?_,k _ (hv.append h3)⟩;rw[hv.length,h3.length];rw[UT]at hz;exact WC (bS hz)
theorem LM{r:V->List V->Hp->VK->Prop}(eK:X.K=K)(h:aH K (Ya f Fo) σ H Q)(hr:∀(O:fk->Prop)(H2:Hp)(xs:List T)(p:fk)(vs:List V)(Q:VK),H2 p=oZ (.lst vs)->cP K H2 O xs vs->(∀ws,cP K H2 O (f xs) ws->Q .non (upd H2 p (.lst ws)))->r (.ref p) [] H2 Q):AA X.K "list" r (aH K Fo) σ H Q:=by
 subst eK;refine one (Fa:=Fo) h λB S E x v H2 Q' hS re rx q lk=>?_;split at q
 ·rename_i j;split at q
  ·rename_i k xs hE;have rx':S[j]?=oZ (oZ v):=rx;obtain⟨p,vs,z1,z2,z3,_⟩:=re.own j k xs hE;rw[rx']at z1;cases z1;refine⟨.inl ⟨rfl,vs,k9.of z2⟩,hr _ H2 xs p vs Q z2 z3 λws hw=>?_⟩;obtain⟨g3,ud⟩:=re.put hE rx' hw;exact lk _ _ _ _ _ q g3 ud rfl
  ·exact q.elim
 ·exact q.elim
theorem Mp(eK:X.K=K)(ho:QE X o (aH K Fo))(qg:iq o "reverse" X.env (ie o X.env)=ie o X.env:=by rfl)(qh:(ap.endLine==pos.line)=true:=by rfl):
  QE X (.Call (.Attribute o "reverse" ap) [] [] pos) (aH K (Ya List.reverse Fo)):=
 QE.le (t:=AA X.K "list" Kg (aH K Fo)) ⟨B4 PySem.F.plainAttrs_list PySem.F.slot_list_reverse PySem.F.type_list_reverse Nk ho.h qg qh⟩ λσ H Q hl h=>LM eK h λO H2 xs p vs Q hp hv k=>⟨p,vs,rfl,rfl,hp,k _ hv.reverse⟩
end
abbrev iA(h:oE)(T:fk)(xs:Array oA):Prop:=h.get? T=oZ { cls:=.type "tuple",data:=.seq xs }
theorem Ai(a b c:oA):checkTypeCall "zip" ⟨[a,b,c],[]⟩=pure ():=by kernel_rfl
theorem Ax(a b c:oA):checkBuiltinCall "zip.__new__" ⟨[.type "zip",a,b,c],[]⟩=pure ():=by kernel_rfl
theorem rQ(a b c d:oA):argsOk "object.__init__" ⟨[a,b,c,d],[]⟩:=by
 unfold argsOk;rw[signature?_of (id:="object.__init__") (n:=['_','_','t','i','n','i','_','_']) (o:=['t','c','e','j','b','o']) (by kernel_rfl) PySem.F.owner_object];kernel_rfl
abbrev OK(h:oE)(a:fk):oE:=h.push { cls:=.type "list_iterator",data:=.fields #[.ref a,.int 0 0] }
abbrev OL(h:oE)(a b:fk):oE:=(OK h a).push { cls:=.type "list_iterator",data:=.fields #[.ref b,.int 0 0] }
abbrev OM(h:oE)(a b c:fk):oE:=(OL h a b).push { cls:=.type "list_iterator",data:=.fields #[.ref c,.int 0 0] }
abbrev ON(h:oE)(a b c:fk):oE:=(OM h a b c).push { cls:=.type "tuple",data:=.seq #[.ref h.objs.size,.ref (OK h a).objs.size,.ref (OL h a b).objs.size] }
abbrev OO(h:oE)(a b c:fk):oE:=(ON h a b c).push { cls:=.type "tuple",data:=.seq #[.none,.none,.none] }
abbrev Ww(h:oE)(a b c:fk):oE:=(OO h a b c).push { cls:=.type "zip",data:=.fields #[.none,.bool false,.bool false,.ref (OM h a b c).objs.size,.ref (ON h a b c).objs.size] }
theorem M7(a b c:fk)(xs ys zs:Array oA):
  Meets (Builtin.«zip.__new__» ⟨[.type "zip",.ref a,.ref b,.ref c],[]⟩) (λ_ R s=>s.heap.IsList a xs/\s.heap.IsList b ys/\s.heap.IsList c zs/\R (.ok (.ret (.ref (OO s.heap a b c).objs.size))) { s with heap:=Ww s.heap a b c }):=
 .of_wp λprog w A R s h=>by
  obtain⟨hp,g,d,tk,os⟩:=s;obtain⟨ga,gb,gc,h⟩:=h;have aHV:=sub_zip;have gA:Heap.IsList (Shared.heap ⟨hp,g,d,tk,os⟩) a xs:=ga;have gB:Heap.IsList (Shared.heap ⟨hp.push { cls:=.type "list_iterator",data:=.fields #[.ref a,.int 0 0] },g,d,tk,os⟩) b ys:=Heap.IsList.push gb _;have gC:Heap.IsList (Shared.heap ⟨(hp.push { cls:=.type "list_iterator",data:=.fields #[.ref a,.int 0 0] }).push { cls:=.type "list_iterator",data:=.fields #[.ref b,.int 0 0] },g,d,tk,os⟩) c zs:=Heap.IsList.push (Heap.IsList.push gc _) _
  wp_walk using wpAny_pyIter_list gA,wpAny_pyIter_list gB,wpAny_pyIter_list gC
  exact⟨_,rfl,h⟩
theorem Uj{prog:fu}{w:gn}{A:oD}{E:oA->oB->Prop}{s:oB}{a b c:fk}{xs ys zs:Array oA}{Q:oA->oB->Prop}(ga:s.heap.IsList a xs)(gb:s.heap.IsList b ys)(gc:s.heap.IsList c zs)
  (g:∀h',kz h' (s.heap.objs.size+5) (s.heap.objs.size+3) (s.heap.objs.size+4) .none->iA h' (s.heap.objs.size+3) #[.ref s.heap.objs.size,.ref (s.heap.objs.size+1),.ref (s.heap.objs.size+2)]->iA h' (s.heap.objs.size+4) #[.none,.none,.none]->
   h'.IsListIter s.heap.objs.size a 0->h'.IsListIter (s.heap.objs.size+1) b 0->h'.IsListIter (s.heap.objs.size+2) c 0->(∀c o,s.heap.get? c=oZ o->h'.get? c=oZ o)->Q (.ref (s.heap.objs.size+5)) { s with heap:=h' }) :
  fo (ft prog w) A (call (.type "zip") [.ref a,.ref b,.ref c]) Q E s:=by
 refine callType_new F.called_zip ∅ (Ai _ _ _) (Ax _ _ _) (λobj=>rQ obj _ _ _) F.entry_zip_new (M7 a b c xs ys zs) ⟨ga,gb,gc,?_⟩;have y1:(OK s.heap a).objs.size=s.heap.objs.size+1:=XG ..;have y2:(OL s.heap a b).objs.size=s.heap.objs.size+2:=by rw[XG,y1]
 have y3:(OM s.heap a b c).objs.size=s.heap.objs.size+3:=by rw[XG,y2]
 have y4:(ON s.heap a b c).objs.size=s.heap.objs.size+4:=by rw[XG,y3]
 have y5:(OO s.heap a b c).objs.size=s.heap.objs.size+5:=by rw[XG,y4]
 have p5:∀{d:fk}{o:Obj},(OO s.heap a b c).get? d=oZ o->(Ww s.heap a b c).get? d=oZ o:=λe=>UY _ e;have p4:∀{d:fk}{o:Obj},(ON s.heap a b c).get? d=oZ o->(Ww s.heap a b c).get? d=oZ o:=λe=>p5 (UY _ e);have p3:∀{d:fk}{o:Obj},(OM s.heap a b c).get? d=oZ o->(Ww s.heap a b c).get? d=oZ o:=λe=>p4 (UY _ e);have p2:∀{d:fk}{o:Obj},(OL s.heap a b).get? d=oZ o->(Ww s.heap a b c).get? d=oZ o:=λe=>p3 (UY _ e);have p1:∀{d:fk}{o:Obj},(OK s.heap a).get? d=oZ o->(Ww s.heap a b c).get? d=oZ o:=λe=>p2 (UY _ e);have p0:∀{d:fk}{o:Obj},s.heap.get? d=oZ o->(Ww s.heap a b c).get? d=oZ o:=λe=>p1 (UY _ e);have x6:(Ww s.heap a b c).get? (OO s.heap a b c).objs.size=oZ _:=VF _ rfl;have x5:(Ww s.heap a b c).get? (ON s.heap a b c).objs.size=oZ _:=p5 (VF _ rfl);have x4:(Ww s.heap a b c).get? (OM s.heap a b c).objs.size=oZ _:=p4 (VF _ rfl);have x3:(Ww s.heap a b c).get? (OL s.heap a b).objs.size=oZ _:=p3 (VF _ rfl);have x2:(Ww s.heap a b c).get? (OK s.heap a).objs.size=oZ _:=p2 (VF _ rfl);have x1:(Ww s.heap a b c).get? s.heap.objs.size=oZ _:=p1 (VF _ rfl);show _/\_;rw[y3,y4,y5]at x6;rw[y1,y2,y3]at x4;rw[y4]at x5;rw[y2]at x3;rw[y1]at x2;rw[y5];exact⟨⟨_,x6,rfl⟩,g _ x6 x4 x5 ⟨_,x1,rfl,rfl⟩ ⟨_,x2,rfl,rfl⟩ ⟨_,x3,rfl,rfl⟩ λc o e=>p0 e⟩
structure ZQ where
 κ:Bool
 a:fk
 it:fk
 items:Array oA
structure ZA(z TI TO:fk)(ps:List ZQ):Prop where
 tz:TI≠z
 oz:TO≠z
 to:TI≠TO
 iz:∀p∈ps,p.it≠z/\p.it≠TI/\p.it≠TO
 az:∀p∈ps,p.a≠z/\p.a≠TO
 ai:∀p∈ps,∀q∈ps,p.a≠q.it
 ii:∀(i j:Nat)(p q:ZQ),ps[i]?=oZ p->ps[j]?=oZ q->p.it=q.it->i=j
section
variable{prog:fu}{w:gn}{A:oD}{E:oA->oB->Prop}{s:oB}
theorem Yi{α β:Type}{M:Model}{body:α->β->Sem (ForInStep β)}{b0:β}(xs:List α):∀(m:Nat)(W:Nat->oB->Prop)(s:oB)(Q:β->oB->Prop),m<=xs.length->
  (∀j x s,j<m->xs[j]?=oZ x->W j s->fo M A (body x b0) (λr s'=>r = .yield b0/\W (j+1) s') E s)->W 0 s->(m=xs.length->∀s',W m s'->Q b0 s')->(∀y s',xs[m]?=oZ y->W m s'->fo M A (body y b0) (λ_ _=>False) E s')->fo M A (forIn xs b0 body) Q E s:=by
 induction xs with
 |nil=>
  intro m W s Q hl hs h0 hq hm;rw[List.forIn_nil];have e:m=0:=Nat.le_zero.mp hl;subst e;exact fz (hq rfl s h0)
 |cons x xs ih=>
  intro m W s Q hl hs h0 hq hm;rw[List.forIn_cons];cases m with
  |zero=>exact fm (dP (hm x s rfl h0) λ_ _ z=>z.elim)
  |succ m=>
   refine fm (dP (hs 0 x s ⋯ rfl h0) λr s' zz=>?_);obtain⟨e,h1⟩:=zz;subst e;exact ih m (λj=>W (j+1)) s' Q (by simpa using hl) (λj z s'' hj hz hw=>hs (j+1) z s'' ⋯ (by simpa using hz) hw) h1 (λe=>hq (by simp[e])) (λy s'' h=>hm y s'' (by simpa using h))
def ZW(s:oB)(z TI TO:fk)(ps:List ZQ)(k j:Nat)(s':oB):Prop:=∃(h:oE)(tk:Nat),s' = { s with heap:=h,toks:=tk }/\kz h z TI TO .ellipsis/\
 (∃cur:Array oA,iA h TO cur/\cur.size=ps.length/\∀(l:Nat)(q:ZQ),l<j->ps[l]?=oZ q->∃x,q.items[k]?=oZ x/\cur[l]?=oZ x)/\
 (∀(l:Nat)(q:ZQ),ps[l]?=oZ q->kG q.κ h q.it q.a (if l<j then k+1 else k)/\xY q.κ h q.a q.items)/\
 (∀c o,c≠z->c≠TO->(∀q∈ps,c≠q.it)->s.heap.get? c=oZ o->h.get? c=oZ o)/\h.objs.size=s.heap.objs.size
theorem xY.at(x:xY κ h a mq)(e:∀o,h.get? a=oZ o->h'.get? a=oZ o):xY κ h' a mq:=by
 cases κ
 ·exact Heap.IsList.at x e
 ·exact Heap.IsTuple.at x e
theorem lL{ps:List ZQ}{l:Nat}(h:ps[l]?=oZ q):q∈ps:=UR h
theorem OP{z TI TO:fk}{ps:List ZQ}{k j:Nat}{q:ZQ}(hA:A.handled=none)(ap:ZA z TI TO ps)(hl:ps.length<=9000)(hq:ps[j]?=oZ q)(hk:k<q.items.size){s':oB}(W:ZW s z TI TO ps k j s'){Q:Option oA->oB->Prop}
  (g:∀x s2,(∃(h:oE)(tk:Nat),s2 = { s with heap:=h,toks:=tk }/\q.items[k]?=oZ x/\kz h z TI TO .ellipsis/\
    (∃cur:Array oA,iA h TO cur/\cur.size=ps.length/\∀(l:Nat)(q:ZQ),l<j->ps[l]?=oZ q->∃x,q.items[k]?=oZ x/\cur[l]?=oZ x)/\
    (∀(l:Nat)(q:ZQ),ps[l]?=oZ q->kG q.κ h q.it q.a (if l<j+1 then k+1 else k)/\xY q.κ h q.a q.items)/\
    (∀c o,c≠z->c≠TO->(∀q∈ps,c≠q.it)->s.heap.get? c=oZ o->h.get? c=oZ o)/\h.objs.size=s.heap.objs.size)->Q (oZ x) s2) :
  fo (ft prog w) A (Builtin.SmallTypes.nextOf (.ref q.it) >>= λx=>pure (oZ x)) Q E s':=by
 obtain⟨h,tk,rfl,hz,⟨cur,c1,c2,c3⟩,hi,kp,szh⟩:=W;have hqm:=lL hq;have D:=Xq (prog:=prog) (w:=w) q.κ hA q.it q.a (ap.ai q hqm q hqm) q.items;obtain⟨i1,i2⟩:=hi j q hq;rw[oW (Nat.lt_irrefl j)]at i1;refine fm (D.item k _ _ _ hk ⟨i1,i2⟩ λx hb tb px gb sb=>fz (g x _ ⟨hb,tb,rfl,px,?_,⟨cur,?_,c2,c3⟩,λl p hp=>?_,λc o n1 n2 n3 e=>?_,?_⟩))
 ·exact sb.extBut _ _ (Ne.symm (ap.iz q hqm).1) hz
 ·exact sb.extBut _ _ (Ne.symm (ap.iz q hqm).2.2) c1
 ·by_cases e:l=j
  ·subst e;rw[hq]at hp;cases hp;rw[oV (YI _)];exact gb
  ·obtain⟨a1,a2⟩:=hi l p hp;have ne:p.it≠q.it:=λz=>e (ap.ii l j p q hp hq z);have el:(if l<j+1 then k+1 else k)=(if l<j then k+1 else k):=by
    by_cases c:l<j
    ·rw[oV c,oV ⋯]
    ·rw[oW c,oW ⋯]
   rw[el];exact⟨a1.at λo x=>sb.extBut _ _ ne x,a2.at λo x=>sb.extBut _ _ (ap.ai p (lL hp) q hqm) x⟩
 ·exact sb.extBut _ _ (n3 q hqm) (kp c o n1 n2 n3 e)
 ·rw[sb.1];exact szh
theorem Tu{z TI TO:fk}{ps:List ZQ}{k m:Nat}{old:Array oA}{Q:Fin->oB->Prop}(hA:A.handled=none)(ap:ZA z TI TO ps)(vz:ps≠[])(hl:ps.length<=9000)
  (gz:kz s.heap z TI TO .none) (gI:iA s.heap TI (ps.map λp=>WR p.it).toArray) (gO:iA s.heap TO old) (ho:old.size=ps.length)
  (gi:∀p∈ps,kG p.κ s.heap p.it p.a k/\xY p.κ s.heap p.a p.items) (hml:m<=ps.length) (gk:∀(j:Nat)(q:ZQ),j<m->ps[j]?=oZ q->k<q.items.size) (hpk:∀p,ps[m]?=oZ p->p.items.size=k)
  (gq:m=ps.length->∀(xs:List oA)h' tk,xs.length=ps.length->(∀(l:Nat)(q:ZQ),ps[l]?=oZ q->∃x,q.items[k]?=oZ x/\xs[l]?=oZ x)->kz h' z TI TO (rawInt s.heap.objs.size)->(∃cur:Array oA,iA h' TO cur/\cur.size=ps.length)->
   (∀p∈ps,kG p.κ h' p.it p.a (k+1))->iA h' s.heap.objs.size xs.toArray->h'.objs.size=s.heap.objs.size+1->
   (∀c o,c≠z->c≠TO->(∀q∈ps,c≠q.it)->s.heap.get? c=oZ o->h'.get? c=oZ o)->Q (.done (.ret (.ref s.heap.objs.size))) { s with heap:=h',toks:=tk })
  (ge:m<ps.length->∀h' tk e,(∀c o,c≠z->c≠TO->(∀q∈ps,c≠q.it)->s.heap.get? c=oZ o->h'.get? c=oZ o)->(∃o,h'.get? e=oZ o/\o.cls = .type "StopIteration")->E (.ref e) { s with heap:=h',toks:=tk }) :
  fo (ft prog w) A (Builtin.«zip.__next__» ⟨[.ref z],[]⟩) Q E s:=by
 show fo _ _ (field (.ref z) 2 >>= _) _ _ _;refine fm (jh gz rfl (x:=.bool false) rfl ?_);show fo _ _ (field (.ref z) 3 >>= _) _ _ _;refine fm (jh gz rfl (x:=.ref TI) rfl (fm (kr gI rfl ?_)));have hem:((ps.map λp=>WR p.it).toArray).isEmpty=false:=by
  cases ps with
  |nil=>exact absurd rfl vz
  |cons p r=>simp
 simp only[hem,ZC,if_false];refine fm ?_;unfold Builtin.SmallTypes.ownedTupleIsFree;refine fm (jh gz rfl (x:=.none) rfl (fz ?_));simp only[if_true];refine fm (md (fm (jh gz rfl (x:=.ref TO) rfl (fm (kn gz (by simp) λha za sa=>?_)))));have za':kz ha z TI TO .ellipsis:=za;refine fm ?_;have W0:ZW s z TI TO ps k 0 { s with heap:=ha }:=by
  refine⟨ha,s.toks,rfl,za',⟨old,sa.extBut _ _ ap.oz gO,ho,λl q h=>absurd h (ZX _)⟩,λl q hq=>?_,λc o n1 n2 n3 e=>sa.extBut _ _ n1 e,sa.1⟩;obtain⟨g1,g2⟩:=gi q (lL hq);rw[oW (ZX _)];exact⟨g1.at λo e=>sa.extBut _ _ (ap.iz q (lL hq)).1 e,g2.at λo e=>sa.extBut _ _ (ap.az q (lL hq)).1 e⟩
 have atj:∀{j:Nat}{x:oA×Nat},(List.zipIdx (ps.map λp=>WR p.it).toArray.toList)[j]?=oZ x->∃q,ps[j]?=oZ q/\x=(WR q.it,j):=λ{j x}hx=>by
  rw[List.getElem?_zipIdx]at hx;simp only[UQ,Option.map_map]at hx;cases q:ps[j]? with
  |none=>simp[q]at hx
  |some p=>simp[q]at hx;exact⟨p,rfl,hx.symm⟩
 have ll:(List.zipIdx (ps.map λp=>WR p.it).toArray.toList).length=ps.length:=by simp
 refine Yi _ m (ZW s z TI TO ps k) _ _ (by rw[ll];exact hml) (λj x s' hjm hx hW=>?_) W0 (λem s' hW=>?_) (λy s' hy hW=>?_)
 ·obtain⟨q,hq,rfl⟩:=atj hx;have hj:j<ps.length:=(UO.mp hq).1;refine fm (wpAny_onRaise ?_);show fo _ _ (Builtin.SmallTypes.nextOf (.ref q.it) >>= _) _ _ _;refine OP hA ap hl hq (gk j q hjm hq) hW λx s2 zZ=>?_;obtain⟨h,tk,es,px,hz,⟨cur,c1,c2,c3⟩,hi,kp,szh⟩:=zZ;subst es;have c1':h.get? TO=oZ { cls:=.type "tuple",data:=.seq cur }:=c1;refine fm (kr c1' rfl (fm (wpAny_updateSeq c1' rfl ?_ (by rw[c2];exact WC (bS hl)) (by simp;rw[c2];exact Nat.le_succ_of_le (WC (bS hl))))));refine fm (wpAny_letGo (fz ⟨rfl,?_⟩));have su:YS TO h (h.update TO (YL (·.setIfInBounds j x))):=Heap.SameBut.update ..;have gu:iA (h.update TO (YL (·.setIfInBounds j x))) TO (cur.setIfInBounds j x):=by
   show(h.update TO (YL (·.setIfInBounds j x))).get? TO=_;rw[ZP _ c1' rfl];simp[YL]
  refine⟨_,tk,rfl,su.extBut _ _ (Ne.symm ap.oz) hz,⟨_,gu,by simp[c2],λl p hl' hp=>?_⟩,λl p hp=>?_,λc o n1 n2 n3 e=>su.extBut _ _ n2 (kp c o n1 n2 n3 e),by rw[su.1];exact szh⟩
  ·by_cases e:l=j
   ·subst e;rw[hq]at hp;cases hp;exact⟨x,px,by rw[Array.getElem?_setIfInBounds_self_of_lt (by rw[c2];exact hj)]⟩
   ·obtain⟨y,y1,y2⟩:=c3 l p ⋯ hp;exact⟨y,y1,by rw[Array.getElem?_setIfInBounds_ne (λz=>e z.symm)];exact y2⟩
  ·obtain⟨a1,a2⟩:=hi l p hp;exact⟨a1.at λo e=>su.extBut _ _ (ap.iz p (lL hp)).2.2 e,a2.at λo e=>su.extBut _ _ (ap.az p (lL hp)).2 e⟩
 ·rw[ll]at em;obtain⟨he,tk,rfl,hz,⟨cur,c1,c2,c3⟩,hi,kp,szh⟩:=hW;have c1':he.get? TO=oZ { cls:=.type "tuple",data:=.seq cur }:=c1;refine fm (kr c1' rfl (fm (wpAny_newTuple ?_ (by simp;rw[c2];exact WC (bS hl)))));have zlt:z<he.objs.size:=VD hz;show fo _ _ (Builtin.SmallTypes.ownedTupleHandOut (.ref z) (.ref he.objs.size) >>= _) _ _ _;refine fm ?_;unfold Builtin.SmallTypes.ownedTupleHandOut;have zf:kz (he.push { cls:=.type "tuple",data:=.seq cur.toList.toArray }) z TI TO .ellipsis:=UY _ hz;refine fm (kn zf (by simp) λhg zg sg=>?_);have zg':kz hg z TI TO (rawInt he.objs.size):=zg;refine kn zg' (by simp) λhh zh sh=>?_;have zh':kz hh z TI TO (rawInt he.objs.size):=zh;have up:∀c o,c≠z->he.get? c=oZ o->hh.get? c=oZ o:=λc o q e=>sh.extBut _ _ q (sg.extBut _ _ q (UY _ e));have gTh:iA hh he.objs.size cur.toList.toArray:=sh.extBut _ _ (Nat.ne_of_gt zlt) (sg.extBut _ _ (Nat.ne_of_gt zlt) (VF _ rfl));have szz:hh.objs.size=he.objs.size+1:=by rw[sh.1,sg.1,XG]
  rw[szh]at zh' gTh szz;refine fz ?_;show Q (.done (.ret (.ref he.objs.size))) _;rw[szh];refine gq em cur.toList hh tk (by simp[c2]) (λl q hq=>?_) zh' ⟨cur,up _ _ ap.oz c1,c2⟩ (λp hp=>?_) gTh szz λc o n1 n2 n3 e=>up c o n1 (kp c o n1 n2 n3 e)
  ·obtain⟨x,x1,x2⟩:=c3 l q (by rw[em];exact(UO.mp hq).1) hq;exact⟨x,x1,by simpa using x2⟩
  ·obtain⟨l,hl'⟩:=XC hp;obtain⟨a1,_⟩:=hi l p hl';rw[em,oV (UO.mp hl').1]at a1;exact a1.at λo e=>up _ _ (ap.iz p hp).1 e
 ·obtain⟨h,tk,rfl,hz,_,hi,kp,szh⟩:=hW;obtain⟨p,hm,rfl⟩:=atj hy;have hpm:=lL hm;have hpk:=hpk p hm;have D:=Xq (prog:=prog) (w:=w) p.κ hA p.it p.a (ap.ai p hpm p hpm) p.items;obtain⟨i1,i2⟩:=hi m p hm;rw[oW (Nat.lt_irrefl m)]at i1;refine fm (wpAny_onRaise ?_);show fo _ _ (Builtin.SmallTypes.nextOf (.ref p.it) >>= _) _ _ _;refine fm (D.done _ _ _ (by rw[hpk];exact⟨i1,i2⟩) λhb e sb he=>?_);obtain⟨oe,q1,q2⟩:=he;have sb':ag p.it h hb:=sb;have zb:kz hb z TI TO .ellipsis:=sb' _ _ (Ne.symm (ap.iz p hpm).1) hz;have hez:e≠z:=λx=>by subst x;rw[zb]at q1;cases q1;simp at q2
  exact kn zb (by simp) λhc _ sc=>ge (UO.mp hm).1 hc tk e (λc o c1 c2 c3 x=>sc.extBut _ _ c1 (sb' _ _ (c3 p hpm) (kp c o c1 c2 c3 x))) ⟨oe,sc.extBut _ _ hez q1,q2⟩
end
def Hx(κ:Bool)(K:W.Frag)(H:Hp)(a:fk)(xs:List V):Prop:=match κ with
 |true=>xZ K H a xs
 |false=>k9 K H a xs
theorem aW.sqK(I:aW X pins σ H s)(h:Hx κ X.K H a xs):∃mq:List oA,bC xs mq/\xY κ s.heap a mq.toArray:=by
 cases κ
 ·obtain⟨mq,r,p,_⟩:=I.list h;exact⟨mq,r,p.isList⟩
 ·obtain⟨mq,r,p,_⟩:=I.tuple h;exact⟨mq,r,p⟩
theorem aW.sqK_inj(I:aW X pins σ H s)(h:Hx κ X.K H a xs)(h':Hx κ X.K H a ys):xs=ys:=by
 cases κ
 ·exact I.list_inj h h'
 ·exact I.tuple_inj h h'
theorem aW.notfp(I:aW X pins σ H s)(h:Hx κ X.K H a xs)(f:sQ X pins H b):a≠b:=by
 have kk:∀{o:Obj},X.K.lookup a=oZ o->a≠b:=λ{o}hk z=>by
  have hb:X.base.get? a=oZ o:=I.mod.kin a o hk;subst z;obtain z|z:=f.2.2.2.1
  ·exact I.ok.noex a o hb z
  ·exact absurd (VJ (VJ (VD hb) I.ok.bsz) z) (Nat.lt_irrefl _)
 have hh:∀{u:HO},Rd H a u->a≠b:=λ{u}r z=>by
  subst z;have:=f.1;obtain r|⟨o,r⟩:=r
  ·rw[this]at r;cases r
  ·rw[this]at r;cases r
 cases κ
 ·obtain h|⟨o,mq,n,hk,_⟩:=h
  ·exact hh h
  ·exact kk hk
 ·obtain h|⟨o,mq,n,hk,_⟩:=h
  ·exact hh h
  ·exact kk hk
theorem PY(I:aW X pins σ H s):∀(ps:List (Bool×fk))(mq:List fk),mq.length=ps.length->(∀p∈ps,∃xs,Hx p.1 X.K H p.2 xs)->
  ∃qs:List ZQ,qs.map (λq=>(q.κ,q.a))=ps/\qs.map (·.it)=mq/\∀q∈qs,xY q.κ s.heap q.a q.items/\∃xs,Hx q.κ X.K H q.a xs/\bC xs q.items.toList
 |[],[],_,_=>⟨[],rfl,rfl,λq h=>absurd h (by simp)⟩
 |[],_::_,e,_=>by simp at e
 |_::_,[],e,_=>by simp at e
 |p::ps,it::mq,e,h=>by
  obtain⟨qs,h1,h2,h3⟩:=PY I ps mq (by simpa using e) λq hq=>h q (by simp[hq]);obtain⟨xs,hx⟩:=h p (by simp);obtain⟨vs,r,sk⟩:=I.sqK hx;refine⟨⟨p.1,p.2,it,vs.toArray⟩::qs,by simp[h1],by simp[h2],λq hq=>?_⟩;obtain rfl|hq:=UZ.mp hq
  ·exact⟨sk,xs,hx,by simpa using r⟩
  ·exact h3 q hq
def JC(K:W.Frag)(ps:List (Bool×fk)):It:=
  ⟨λi H=>∀p∈ps,∃xs x,Hx p.1 K H p.2 xs/\xs[i]?=oZ x,
   λi H v H'=>∃(q:fk)(ys:List V),v = .ref q/\H q=none/\H'=upd H q (.tup ys)/\ys.length=ps.length/\∀(j:Nat)(p:Bool×fk)(y:V),ps[j]?=oZ p->ys[j]?=oZ y->∀xs,Hx p.1 K H p.2 xs->xs[i]?=oZ y,
   λi H=>(∀p∈ps,∃xs,Hx p.1 K H p.2 xs)/\∃(m:Nat)(p:Bool×fk),ps[m]?=oZ p/\(∃xs,Hx p.1 K H p.2 xs/\xs.length=i)/\∀(j:Nat)(q:Bool×fk),j<m->ps[j]?=oZ q->∃xs x,Hx q.1 K H q.2 xs/\xs[i]?=oZ x⟩
def ZT(z TI TO:fk)(ps:List (Bool×fk))(mq:List fk)(i:Nat)(h:oE):Prop:=kz h z TI TO .none/\iA h TI (mq.map WR).toArray/\(∃old:Array oA,iA h TO old/\old.size=ps.length)/\
 ∀(j:Nat)(p:Bool×fk)(it:fk),ps[j]?=oZ p->mq[j]?=oZ it->kG p.1 h it p.2 i
theorem Dh{P:fu}{w:gn}{K:W.Frag}{elts:List oC}{x1}{xq:Pos}(z TI TO:fk)(ps:List (Bool×fk))(mq:List fk)(hl:mq.length=ps.length)(vz:ps≠[])(hz:ps.length<=9000)(nd:(z::TI::TO::mq).Nodup):
  Lv P w K (.Tuple elts x1 xq) (JC K ps) (z::TI::TO::mq) z (ZT z TI TO ps mq):=by
 simp only[WL,UZ,not_or]at nd;obtain⟨⟨n1,n2,n3⟩,⟨n4,n5⟩,n6,n7⟩:=nd;have apart:∀{X:Cx}{pins:List (fk×Obj)}{σ:St}{H:Hp}{s:oB}{qs:List ZQ},aW X pins σ H s->(∀c∈z::TI::TO::mq,sQ X pins H c)->qs.map (·.it)=mq->(∀q∈qs,∃xs,Hx q.κ X.K H q.a xs)->ZA z TI TO qs:=by
  intro X pins σ H s qs I hf e1 hq;have mi:∀q∈qs,q.it∈mq:=λq hq=>by rw[<-e1];exact ae hq
  refine⟨λe=>n1 e.symm,λe=>n2 e.symm,n4,λp hp=>⟨λe=>n3 (e ▸ mi p hp),λe=>n5 (e ▸ mi p hp),λe=>n6 (e ▸ mi p hp)⟩,λp hp=>?_,λp hp q hq'=>?_,λi j p q hi hj e=>?_⟩
  ·obtain⟨xs,hx⟩:=hq p hp;exact⟨I.notfp hx (hf z (by simp)),I.notfp hx (hf TO (by simp))⟩
  ·obtain⟨xs,hx⟩:=hq p hp;exact I.notfp hx (hf q.it (by simp[mi q hq']))
  ·have xt:mq[i]?=oZ p.it:=by rw[<-e1,UQ,hi];rfl
   have hj':mq[j]?=oZ q.it:=by rw[<-e1,UQ,hj];rfl
   exact(aq (UO.mp xt).1 n7).mp (by rw[xt,hj',e])
 refine⟨by simp,λi h st c hc=>?_,λi h h' st k=>?_,?_,?_,λ_ _ _ _ _ st h=>wpAny_pyIter_zip st.1 h⟩
 ·obtain⟨s1,s2,⟨old,s3,_⟩,s4⟩:=st;simp only[UZ]at hc;obtain rfl|rfl|rfl|hc:=hc
  ·exact⟨_,s1,λv z=>by cases z⟩
  ·exact⟨_,s2,λv z=>by cases z⟩
  ·exact⟨_,s3,λv z=>by cases z⟩
  ·obtain⟨j,hj⟩:=XC hc;have hjl:j<ps.length:=by rw[<-hl];exact(UO.mp hj).1
   exact(s4 j _ c (UP hjl) hj).obj
 ·obtain⟨s1,s2,⟨old,s3,s3'⟩,s4⟩:=st;exact⟨k z (by simp) _ s1,k TI (by simp) _ s2,⟨old,k TO (by simp) _ s3,s3'⟩,λj p it hp hit=>(s4 j p it hp hit).at λo e=>k it (by simp[UR hit]) o e⟩
 ·intro X hP hw hK hc i pins s σ H E I hf st hg;subst hP hw hK;obtain⟨s1,s2,⟨old,s3,s3'⟩,s4⟩:=st;obtain⟨qs,e1,e2,h3⟩:=PY I ps mq hl λp hp=>let⟨xs,_,h,_⟩:=hg p hp;⟨xs,h⟩;have hlq:qs.length=ps.length:=by rw[<-e1,UX]
  have ap:=apart I hf e2 λq hq=>let⟨_,xs,h,_⟩:=h3 q hq;⟨xs,h⟩;have hA:X.A.in1.handled=none:=I.ok.hd hc;have hzz:s.TypeIs (.ref z) "zip":=⟨_,s1,rfl⟩;have atp:∀{j:Nat}{q:ZQ},qs[j]?=oZ q->ps[j]?=oZ (q.κ,q.a)/\mq[j]?=oZ q.it:=λ{j q}h=>⟨by rw[<-e1,UQ,h];rfl,by rw[<-e2,UQ,h];rfl⟩;have gi:∀q∈qs,kG q.κ s.heap q.it q.a i/\xY q.κ s.heap q.a q.items:=λq hq=>by
   obtain⟨j,hj⟩:=XC hq;exact⟨s4 j _ _ (atp hj).1 (atp hj).2,(h3 q hq).1⟩
  have gk:∀q∈qs,i<q.items.size:=λq hq=>by
   obtain⟨j,hj⟩:=XC hq;obtain⟨xs,x,q1,q2⟩:=hg _ (UR (atp hj).1);obtain⟨_,ys,r1,r2⟩:=h3 q hq;rw[I.sqK_inj q1 r1]at q2;have:=(UO.mp q2).1;have:=r2.length;simp at this
   lia
  have gI:iA s.heap TI (qs.map λp=>WR p.it).toArray:=by
   have:(qs.map λp=>WR p.it)=mq.map WR:=by rw[<-e2,bq];rfl
   rw[this];exact s2
  unfold pyNext;refine fm (wpAny_attempt (wpAny_callSpecial?_slot (name:=VW "__next__") hzz F.slot_zip_next (jy F.slot_zip_next hzz F.entry_zip_next
   (Tu hA ap (λz=>by rw[z]at hlq;exact vz (WX (by simpa using hlq.symm))) ⋯ s1 gI s3 ⋯ gi (VA _) (λ_ q _ h=>gk q (lL h)) (λp h=>by simp at h) (λ_ vs h' tk lv pv zz zo g1 zt sz kp=>⟨_,rfl,fz ?_⟩) (λh=>absurd h (Nat.lt_irrefl _))) (F.args_zip_next_1 _))))
  refine⟨_,rfl,wpAny_letOwnedTupleGo_zip zz λh2 z2 sb=>?_⟩;have hzn:z≠s.heap.objs.size:=VY (VD s1);have kk:∀c o,c∉z::TI::TO::mq->s.heap.get? c=oZ o->h2.get? c=oZ o:=λc o hc q=>by
   simp only[UZ,not_or]at hc;refine sb.extBut c o hc.1 (kp c o hc.1 hc.2.2.1 (λq' hq' e=>hc.2.2.2 ?_) q);rw[e,<-e2];exact ae hq'
  -- the items,as they are told
  obtain⟨ys,hys,ry⟩:∃ys:List V,(ys.length=ps.length/\∀(j:Nat)(p:Bool×fk)(y:V),ps[j]?=oZ p->ys[j]?=oZ y->∀xs,Hx p.1 X.K H p.2 xs->xs[i]?=oZ y)/\bC ys vs:=by
   have fD:∀(n:Nat)(rs:List ZQ)(us:List oA),rs.length=n->us.length=n->(∀q∈rs,∃xs,Hx q.κ X.K H q.a xs/\bC xs q.items.toList)->(∀(l:Nat)(q:ZQ),rs[l]?=oZ q->∃x,q.items[i]?=oZ x/\us[l]?=oZ x)->
     ∃ys:List V,ys.length=n/\bC ys us/\∀(j:Nat)(q:ZQ)(y:V),rs[j]?=oZ q->ys[j]?=oZ y->∀xs,Hx q.κ X.K H q.a xs->xs[i]?=oZ y:=by
    intro n
    induction n with
    |zero=>
     intro rs us h1 h2 _ _;refine⟨[],rfl,?_,λj q y hq=>?_⟩
     ·rw[WX h2];exact .nil
     ·rw[WX h1]at hq;simp at hq
    |succ n ih=>
     intro rs us h1 h2 h4 h5
     match rs,us,h1,h2 with
     |q::rs,u::us,h1,h2=>
      obtain⟨ys,l1,l2,l3⟩:=ih rs us (by simpa using h1) (by simpa using h2) (λq' hq'=>h4 q' (by simp[hq'])) (λl q' hq'=>by have:=h5 (l+1) q' (by simpa using hq');simpa using this);obtain⟨xs,a1,a2⟩:=h4 q (by simp);obtain⟨x,b1,b2⟩:=h5 0 q rfl;simp at b2;subst b2;have b1':q.items.toList[i]?=oZ u:=by simpa using b1
      have hi:i<xs.length:=by rw[a2.length];exact(UO.mp b1').1
      obtain⟨u',c1,c2⟩:=a2.get (UP hi);rw[b1']at c1;cases c1;refine⟨xs[i]::ys,by simp[l1],.cons c2 l2,λj q' y hq hy zs hz'=>?_⟩;cases j with
      |zero=>
       simp at hq hy;subst hq;subst hy;rw[I.sqK_inj hz' a1];exact UP hi
      |succ j=>exact l3 j q' y (by simpa using hq) (by simpa using hy) zs hz'
   obtain⟨ys,l1,l2,l3⟩:=fD qs.length qs vs rfl lv (λq hq=>(h3 q hq).2) pv;refine⟨ys,⟨⋯,λj p y hp hy xs hx=>?_⟩,l2⟩;have hjl:j<qs.length:=by rw[hlq];exact(UO.mp hp).1
   have hq:=UP hjl;have:=(atp hq).1;rw[hp]at this;cases this;exact l3 j _ y hq hy xs hx
  have new:eH X.prog X.w (upd H s.heap.objs.size (.tup ys)) h2 s.heap.objs.size (.tup ys):=
   ⟨by rw[hys.1];exact WC (bS hz),vs,ry,⟨_,sb.extBut _ _ (Ne.symm hzn) zt,rfl,_,rfl⟩⟩
  have up:∀{c:fk}{o:Obj},c≠z->h'.get? c=oZ o->h2.get? c=oZ o:=λhc q=>sb.extBut _ _ hc q;refine⟨.ref s.heap.objs.size,upd H s.heap.objs.size (.tup ys),I.turnedLaid (t':=tk) (ch:=z::TI::TO::mq) kk hf (VA _) new,rfl,
   ⟨_,ys,rfl,I.hok.fresh (VA _),rfl,hys.1,hys.2⟩,⟨z2,up (λe=>n1 e.symm) (kp _ _ (λe=>n1 e.symm) n4 (λq hq=>λe=>(ap.iz q hq).2.1 e.symm) s2),?_,λj p it hp hit=>?_⟩,λc hc=>?_⟩
  ·obtain⟨cur,u1,u2⟩:=zo;exact⟨cur,up ap.oz u1,⋯⟩
  ·have hjl:j<qs.length:=by rw[hlq];exact(UO.mp hp).1
   have hq:=UP hjl;have q1:=(atp hq).1;have q2:=(atp hq).2;rw[hp]at q1;cases q1;rw[hit]at q2;cases q2;exact(g1 _ (XN hjl)).at λo e=>up (ap.iz _ (XN hjl)).1 e
  ·have rk:c<s.heap.objs.size:=by
    simp only[UZ]at hc;obtain rfl|rfl|rfl|hc:=hc
    ·exact VD s1
    ·exact VD s2
    ·exact VD s3
    ·obtain⟨j,hj⟩:=XC hc;have hjl:j<ps.length:=by rw[<-hl];exact(UO.mp hj).1
     obtain⟨o,e,_⟩:=(s4 j _ c (UP hjl) hj).obj;exact VD e
   rw[aV (VY rk)];exact(hf c hc).1
 ·intro X hP hw hK hc i pins s σ H E I hf st hg;subst hP hw hK;obtain⟨aBY,m,pm,hm,⟨xm,hxm,hlm⟩,hb⟩:=hg;obtain⟨s1,s2,⟨old,s3,s3'⟩,s4⟩:=st;obtain⟨qs,e1,e2,h3⟩:=PY I ps mq hl aBY;have hlq:qs.length=ps.length:=by rw[<-e1,UX]
  have ap:=apart I hf e2 λq hq=>let⟨_,xs,h,_⟩:=h3 q hq;⟨xs,h⟩;have hA:X.A.in1.handled=none:=I.ok.hd hc;have hzz:s.TypeIs (.ref z) "zip":=⟨_,s1,rfl⟩;have atp:∀{j:Nat}{q:ZQ},qs[j]?=oZ q->ps[j]?=oZ (q.κ,q.a)/\mq[j]?=oZ q.it:=λ{j q}h=>⟨by rw[<-e1,UQ,h];rfl,by rw[<-e2,UQ,h];rfl⟩;have gi:∀q∈qs,kG q.κ s.heap q.it q.a i/\xY q.κ s.heap q.a q.items:=λq hq=>by
   obtain⟨j,hj⟩:=XC hq;exact⟨s4 j _ _ (atp hj).1 (atp hj).2,(h3 q hq).1⟩
  have gI:iA s.heap TI (qs.map λp=>WR p.it).toArray:=by
   have:(qs.map λp=>WR p.it)=mq.map WR:=by rw[<-e2,bq];rfl
   rw[this];exact s2
  have hml:m<qs.length:=by rw[hlq];exact(UO.mp hm).1
  have hqm:=UP hml;have hpm:qs[m].items.size=i:=by
   have q1:=(atp hqm).1;rw[hm]at q1;cases q1;obtain⟨_,ys,r1,r2⟩:=h3 _ (XN hml);rw[I.sqK_inj hxm r1]at hlm;have:=r2.length;simp at this
   lia
  have gk:∀(j:Nat)(q:ZQ),j<m->qs[j]?=oZ q->i<q.items.size:=λj q hj hq=>by
   obtain⟨xs,x,q1,q2⟩:=hb j _ hj (atp hq).1;obtain⟨_,ys,r1,r2⟩:=h3 q (lL hq);rw[I.sqK_inj q1 r1]at q2;have:=(UO.mp q2).1;have:=r2.length;simp at this
   lia
  unfold pyNext;refine fm (wpAny_attempt (wpAny_callSpecial?_slot (name:=VW "__next__") hzz F.slot_zip_next (jy F.slot_zip_next hzz F.entry_zip_next
   (Tu hA ap (λz=>by rw[z]at hml;cases hml) ⋯ s1 gI s3 ⋯ gi (WC hml) gk (λp h=>by rw[hqm]at h;cases h;exact hpm) (λe=>absurd e (VY hml)) λ_ h' tk e kp he=>?_) (F.args_zip_next_1 _))))
  obtain⟨o,ho,hco⟩:=he;refine fm (wpAny_isInstance (T:="StopIteration") (b:=true) ⟨o,ho,hco⟩ isSubtype_stop (fz ⟨rfl,?_⟩));refine I.turnedL (t':=tk) (ch:=z::TI::TO::mq) (λc o hc q=>?_) hf;simp only[UZ,not_or]at hc;refine kp c o hc.1 hc.2.2.1 (λq' hq' e=>hc.2.2.2 ?_) q;rw[e,<-e2];exact ae hq'
def eO:List T->List T->List T
 |x::xs,y::ys=>.tup [x,y]::eO xs ys
 |_,_=>[]
def kA:List T->List T->List T->List T
 |x::xs,y::ys,z::zs=>.tup [x,y,z]::kA xs ys zs
 |_,_,_=>[]
theorem i9:∀xs ys:List T,(eO xs ys).length=min xs.length ys.length
 |[],_=>by simp[eO]
 |_::_,[]=>by simp[eO]
 |_::xs,_::ys=>by simp[eO,i9 xs ys]
theorem qX:∀xs ys zs:List T,(kA xs ys zs).length=min xs.length (min ys.length zs.length)
 |[],_,_=>by simp[kA]
 |_::_,[],_=>by simp[kA]
 |_::_,_::_,[]=>by simp[kA]
 |_::xs,_::ys,_::zs=>by simp[kA,qX xs ys zs]
theorem mR:∀{xs ys:List T}{i:Nat}{t:T},(eO xs ys)[i]?=oZ t->∃x y,xs[i]?=oZ x/\ys[i]?=oZ y/\t = .tup [x,y]
 |[],_,_,_,h=>by simp[eO]at h
 |_::_,[],_,_,h=>by simp[eO]at h
 |x::_,y::_,0,_,h=>by simp[eO]at h;exact⟨x,y,rfl,rfl,h.symm⟩
 |_::xs,_::ys,i+1,t,h=>by
  obtain⟨x,y,h1,h2,h3⟩:=mR (xs:=xs) (ys:=ys) (i:=i) (t:=t) (by simpa[eO]using h);exact⟨x,y,by simpa using h1,by simpa using h2,h3⟩
theorem Ao:∀{xs ys zs:List T}{i:Nat}{t:T},(kA xs ys zs)[i]?=oZ t->∃x y z,xs[i]?=oZ x/\ys[i]?=oZ y/\zs[i]?=oZ z/\t = .tup [x,y,z]
 |[],_,_,_,_,h=>by simp[kA]at h
 |_::_,[],_,_,_,h=>by simp[kA]at h
 |_::_,_::_,[],_,_,h=>by simp[kA]at h
 |x::_,y::_,z::_,0,_,h=>by simp[kA]at h;exact⟨x,y,z,rfl,rfl,rfl,h.symm⟩
 |_::xs,_::ys,_::zs,i+1,t,h=>by
  obtain⟨x,y,z,h1,h2,h3,h4⟩:=Ao (xs:=xs) (ys:=ys) (zs:=zs) (i:=i) (t:=t) (by simpa[kA]using h);exact⟨x,y,z,by simpa using h1,by simpa using h2,by simpa using h3,h4⟩
def Wq(κ:Bool)(xs:List T):T:=match κ with
 |true=>.tup xs
 |false=>.lst xs
theorem k6{K:W.Frag}{H:Hp}{O:fk->Prop}{κ:Bool}{xs:List T}{a:fk}(h:Rp K H O (Wq κ xs) (.ref a)):∃vs,Hx κ K H a vs/\cP K H O xs vs:=by
 cases κ
 ·obtain⟨a',vs,e,h1,h2⟩:=Rp.sqL h;cases e;exact⟨vs,h1,h2⟩
 ·obtain⟨a',vs,e,h1,h2⟩:=Rp.sqT h;cases e;exact⟨vs,h1,h2⟩
theorem Eu{K:W.Frag}{κ:Bool}{a b:fk}{xs ys:List T}:Dm K (JC K [(κ,a),(κ,b)]) (eO xs ys) (λH O=>Rp K H O (Wq κ xs) (.ref a)/\Rp K H O (Wq κ ys) (.ref b)):=by
 refine⟨λH H' O O' k h=>⟨Rp.step k h.1,Rp.step k h.2⟩,λi H O h hi=>?_,λi H O x H' t h e hO y=>?_,λH O h=>?_⟩
 ·obtain⟨vs,s1,r1⟩:=k6 h.1;obtain⟨ws,s2,r2⟩:=k6 h.2;rw[i9]at hi;intro p hp;simp only[UZ,WW,or_false]at hp;obtain rfl|rfl:=hp
  ·exact⟨vs,vs[i]'(by rw[r1.length];lia),s1,UP _⟩
  ·exact⟨ws,ws[i]'(by rw[r2.length];lia),s2,UP _⟩
 ·obtain⟨vs,s1,r1⟩:=k6 h.1;obtain⟨ws,s2,r2⟩:=k6 h.2;obtain⟨q,us,e1,hq,e2,lu,hu⟩:=y;subst e1;subst e2;obtain⟨t1,t2,g1,g2,rfl⟩:=mR e;obtain⟨v1,a1,b1⟩:=r1.get g1;obtain⟨v2,a2,b2⟩:=r2.get g2;obtain _|⟨u1,_|⟨u2,_|⟨_,_⟩⟩⟩:=us
  ·cases lu
  ·cases lu
  ·have z1:=hu 0 _ u1 rfl rfl vs s1;have z2:=hu 1 _ u2 rfl rfl ws s2;rw[a1]at z1;cases z1;rw[a2]at z2;cases z2;have k:Kp O O H (upd H q (.tup [v1,v2])):=Kp.upd hq;exact⟨k,λb o z=>by rw[aV (a9 z hq)];exact z,q,_,rfl,.inl ⟨λz=>hO q z hq,cR⟩,v1,_,rfl,b1.step k,v2,_,rfl,b2.step k,rfl⟩
  ·cases lu
 ·obtain⟨vs,s1,r1⟩:=k6 h.1;obtain⟨ws,s2,r2⟩:=k6 h.2;have l1:=r1.length;have l2:=r2.length;refine⟨λp hp=>?_,?_⟩
  ·simp only[UZ,WW,or_false]at hp;obtain rfl|rfl:=hp
   ·exact⟨vs,s1⟩
   ·exact⟨ws,s2⟩
  ·rw[i9]
   by_cases c:xs.length<=ys.length
   ·exact⟨0,_,rfl,⟨vs,s1,⋯⟩,λj q hj=>absurd hj (ZX _)⟩
   ·refine⟨1,_,rfl,⟨ws,s2,⋯⟩,λj q hj hq=>?_⟩;obtain rfl:j=0:=⋯
    cases hq;exact⟨vs,vs[min xs.length ys.length]'⋯,s1,UP _⟩
theorem R1{K:W.Frag}{κ:Bool}{a b c:fk}{xs ys zs:List T}:Dm K (JC K [(κ,a),(κ,b),(κ,c)]) (kA xs ys zs) (λH O=>Rp K H O (Wq κ xs) (.ref a)/\Rp K H O (Wq κ ys) (.ref b)/\Rp K H O (Wq κ zs) (.ref c)):=by
 refine⟨λH H' O O' k h=>⟨Rp.step k h.1,Rp.step k h.2.1,Rp.step k h.2.2⟩,λi H O h hi=>?_,λi H O x H' t h e hO y=>?_,λH O h=>?_⟩
 ·obtain⟨vs,s1,r1⟩:=k6 h.1;obtain⟨ws,s2,r2⟩:=k6 h.2.1;obtain⟨us,s3,r3⟩:=k6 h.2.2;rw[qX]at hi;intro p hp;simp only[UZ,WW,or_false]at hp;obtain rfl|rfl|rfl:=hp
  ·exact⟨vs,vs[i]'(by rw[r1.length];lia),s1,UP _⟩
  ·exact⟨ws,ws[i]'(by rw[r2.length];lia),s2,UP _⟩
  ·exact⟨us,us[i]'(by rw[r3.length];lia),s3,UP _⟩
 ·obtain⟨vs,s1,r1⟩:=k6 h.1;obtain⟨ws,s2,r2⟩:=k6 h.2.1;obtain⟨ts,s3,r3⟩:=k6 h.2.2;obtain⟨q,us,e1,hq,e2,lu,hu⟩:=y;subst e1;subst e2;obtain⟨t1,t2,t3,g1,g2,g3,rfl⟩:=Ao e;obtain⟨v1,a1,b1⟩:=r1.get g1;obtain⟨v2,a2,b2⟩:=r2.get g2;obtain⟨v3,a3,b3⟩:=r3.get g3;obtain _|⟨u1,_|⟨u2,_|⟨u3,_|⟨_,_⟩⟩⟩⟩:=us
  ·cases lu
  ·cases lu
  ·cases lu
  ·have z1:=hu 0 _ u1 rfl rfl vs s1;have z2:=hu 1 _ u2 rfl rfl ws s2;have z3:=hu 2 _ u3 rfl rfl ts s3;rw[a1]at z1;cases z1;rw[a2]at z2;cases z2;rw[a3]at z3;cases z3;have k:Kp O O H (upd H q (.tup [v1,v2,v3])):=Kp.upd hq;exact⟨k,λb o z=>by rw[aV (a9 z hq)];exact z,q,_,rfl,.inl ⟨λz=>hO q z hq,cR⟩,v1,_,rfl,b1.step k,v2,_,rfl,b2.step k,v3,_,rfl,b3.step k,rfl⟩
  ·cases lu
 ·obtain⟨vs,s1,r1⟩:=k6 h.1;obtain⟨ws,s2,r2⟩:=k6 h.2.1;obtain⟨us,s3,r3⟩:=k6 h.2.2;have l1:=r1.length;have l2:=r2.length;have l3:=r3.length;refine⟨λp hp=>?_,?_⟩
  ·simp only[UZ,WW,or_false]at hp;obtain rfl|rfl|rfl:=hp
   ·exact⟨vs,s1⟩
   ·exact⟨ws,s2⟩
   ·exact⟨us,s3⟩
  ·rw[qX]
   by_cases c1:xs.length<=min ys.length zs.length
   ·exact⟨0,_,rfl,⟨vs,s1,⋯⟩,λj q hj=>absurd hj (ZX _)⟩
   ·by_cases c2:ys.length<=zs.length
    ·refine⟨1,_,rfl,⟨ws,s2,⋯⟩,λj q hj hq=>?_⟩;obtain rfl:j=0:=⋯
     cases hq;exact⟨vs,vs[min xs.length (min ys.length zs.length)]'⋯,s1,UP _⟩
    ·refine⟨2,_,rfl,⟨us,s3,⋯⟩,λj q hj hq=>?_⟩;have:j=0\/j=1:=⋯
     obtain rfl|rfl:=this
     ·cases hq;exact⟨vs,vs[min xs.length (min ys.length zs.length)]'⋯,s1,UP _⟩
     ·cases hq;exact⟨ws,ws[min xs.length (min ys.length zs.length)]'⋯,s2,UP _⟩
section
variable{X:Cx}{K:W.Frag}{pos:Pos}{Fr:FA}
def UE(K:W.Frag)(ta:TA):TI:=λσ H R=>ta σ H λvs H1=>∃κ a b xs ys,vs=[.ref a,.ref b]/\Hx κ K H1 a xs/\Hx κ K H1 b ys/\R (JC K [(κ,a),(κ,b)]) H1
def UG(K:W.Frag)(ta:TA):TI:=λσ H R=>ta σ H λvs H1=>∃a b c xs ys zs,vs=[.ref a,.ref b,.ref c]/\k9 K H1 a xs/\k9 K H1 b ys/\k9 K H1 c zs/\R (JC K [(false,a),(false,b),(false,c)]) H1
theorem BN{x1}(hg:Gl X "zip")(hm:X.mg "zip" = none)(ha:QA X [l,r] ta)(hs:a8 l=false:=by rfl)(xp:a8 r=false:=by rfl):
  QI X (.Tuple elts x1 xq) (.Call (.Name "zip" p) [l,r] [] pos) (UE X.K ta):=⟨by
 intro pins s σ H R I h;refine Call_ (m7 I hg hm boot_zip (PyProof.Rows.callWith_type1 (dP (ha.h pos pins s σ H _ I h) λus s1⟨vs,H1,I1,r1,q1⟩=>?_) (cD hs) (fL (by simp only[bR,xp];rfl))));obtain⟨κ,a,b,xs,ys,rfl,ga,gb,q⟩:=q1;obtain⟨u,v,rfl,ru,rv⟩:=bC.two r1;cases ru;cases rv;obtain⟨ia,ra,qa⟩:=I1.sqK ga;obtain⟨ib,rb,qb⟩:=I1.sqK gb;have fin:∀h',kz h' (s1.heap.objs.size+4) (s1.heap.objs.size+2) (s1.heap.objs.size+3) .none->IsPair h' (s1.heap.objs.size+2) (.ref s1.heap.objs.size) (.ref (s1.heap.objs.size+1))->IsPair h' (s1.heap.objs.size+3) .none .none->
   kG κ h' s1.heap.objs.size a 0->kG κ h' (s1.heap.objs.size+1) b 0->(∀c o,s1.heap.get? c=oZ o->h'.get? c=oZ o)->
   fo (ft X.prog X.w) X.A (pyIter (.ref (s1.heap.objs.size+4))) (OU X pins σ (.Tuple elts x1 xq) R) X.xe { s1 with heap:=h' }:=λh' z1 z2 z3 z4 z5 kp=>by
  refine wpAny_pyIter_zip z1 ?_;refine⟨s1.heap.objs.size+4,_,_,_,H1,rfl,I1.kept (t':=s1.toks) kp,Dh _ (s1.heap.objs.size+2) (s1.heap.objs.size+3) [(κ,a),(κ,b)] [s1.heap.objs.size,s1.heap.objs.size+1] rfl (by simp) (by simp) (UI _),⟨z1,z2,⟨_,z3,rfl⟩,λj pq it hp hit=>?_⟩,λc hc=>?_,q⟩
  ·match j,hp,hit with
   |0,hp,hit=>cases hp;cases hit;exact z4
   |1,hp,hit=>cases hp;cases hit;exact z5
  ·have hle:s1.heap.objs.size<=c:=TZ hc;exact I1.fpOk hle (I1.hok.fresh hle)
 cases κ
 ·exact call_zip_2 qa qb λh' z1 z2 z3 z4 z5 _ kp=>fin h' z1 z2 z3 z4 z5 kp
 ·exact Uk qa qb λh' z1 z2 z3 z4 z5 kp=>fin h' z1 z2 z3 z4 z5 kp⟩
theorem OD(r:bC [x,y,z] us):∃u v w,us=[u,v,w]/\bJ x u/\bJ y v/\bJ z w:=by
 cases r with
 |cons a r=>cases r with
  |cons b r=>cases r with
   |cons c r=>cases r;exact⟨_,_,_,rfl,a,b,c⟩
theorem MM{x1}(hg:Gl X "zip")(hm:X.mg "zip" = none)(ha:QA X [l,r,t] ta)(hs:a8 l=false:=by rfl)(xp:a8 r=false:=by rfl)(hs3:a8 t=false:=by rfl):
  QI X (.Tuple elts x1 xq) (.Call (.Name "zip" p) [l,r,t] [] pos) (UG X.K ta):=⟨by
 intro pins s σ H R I h;refine Call_ (m7 I hg hm boot_zip (PyProof.Rows.callWith_type1 (dP (ha.h pos pins s σ H _ I h) λus s1⟨vs,H1,I1,r1,q1⟩=>?_) (cD hs) (fL (by simp only[bR,xp,hs3];rfl))));obtain⟨a,b,c,xs,ys,zs,rfl,ga,gb,gc,q⟩:=q1;obtain⟨u,v,w,rfl,ru,rv,rw'⟩:=OD r1;cases ru;cases rv;cases rw';obtain⟨ia,ra,qa,_⟩:=I1.list ga;obtain⟨ib,rb,qb,_⟩:=I1.list gb;obtain⟨ic,rc,qc',_⟩:=I1.list gc;refine Uj qa.isList qb.isList qc'.isList λh' z1 z2 z3 z4 z5 z6 kp=>?_;refine wpAny_pyIter_zip z1 ?_;have ge6:∀{d:fk},d∈[s1.heap.objs.size+5,s1.heap.objs.size+3,s1.heap.objs.size+4,s1.heap.objs.size,s1.heap.objs.size+1,s1.heap.objs.size+2]->s1.heap.objs.size<=d:=λ{d}h=>by
  simp only[UZ,WW,or_false]at h;rcases h with h|h|h|h|h|h<;>rw[h]<;>first|exact VA _|exact Nat.le_add_right _ _
 refine⟨s1.heap.objs.size+5,_,_,_,H1,rfl,I1.kept (t':=s1.toks) kp,Dh _ (s1.heap.objs.size+3) (s1.heap.objs.size+4) [(false,a),(false,b),(false,c)] [s1.heap.objs.size,s1.heap.objs.size+1,s1.heap.objs.size+2] rfl (by simp) (by simp) (by
  have nd6:∀n:Nat,[n+5,n+3,n+4,n,n+1,n+2].Nodup:=λn=>by
   simp only[WL,UZ,WW,or_false,not_or,fb,and_true,not_false_eq_true]
   lia
  exact nd6 _),⟨z1,z2,⟨_,z3,rfl⟩,λj pq it hp hit=>?_⟩,λd hd=>?_,q⟩
 ·match j,hp,hit with
  |0,hp,hit=>cases hp;cases hit;exact z4
  |1,hp,hit=>cases hp;cases hit;exact z5
  |2,hp,hit=>cases hp;cases hit;exact z6
 ·exact I1.fpOk (ge6 hd) (I1.hok.fresh (ge6 hd))⟩
def LA(Fr:FA):FI:=λE Q=>Fr E λrs E1=>match rs with
 |[x,y]=>(match vl E1 x,vl E1 y with
  |some (.lst xs),oZ (.lst ys)=>Q (eO xs ys) (qK E1 x++qK E1 y) E1
  |some (.tup xs),oZ (.tup ys)=>Q (eO xs ys) (qK E1 x++qK E1 y) E1
  |_,_=>False)
 |_=>False
def LB(Fr:FA):FI:=λE Q=>Fr E λrs E1=>match rs with
 |[x,y,z]=>(match vl E1 x,vl E1 y,vl E1 z with
  |some (.lst xs),oZ (.lst ys),oZ (.lst zs)=>Q (kA xs ys zs) (qK E1 x++qK E1 y++qK E1 z) E1
  |_,_,_=>False)
 |_=>False
theorem qQ{x1}(eK:X.K=K)(hg:Gl X "zip")(hm:X.mg "zip" = none)(ha:QA X [l,r] (cM K n Fr))(hs:a8 l=false:=by rfl)(xp:a8 r=false:=by rfl):
  QI X (.Tuple elts x1 xq) (.Call (.Name "zip" p) [l,r] [] pos) (lC K (LA Fr)):=by
 subst eK;refine(BN hg hm ha hs xp).le λσ H R hn⟨B,S,E,Q',hS,re,hF,lk⟩=>⟨B,S,E,_,hS,re,hF,λrs E1 vs H1 S1 q g mz rr hn=>?_⟩;obtain _|⟨x,_|⟨y,_|⟨_,_⟩⟩⟩:=rs
 ·exact False.elim q
 ·exact False.elim q
 ·obtain⟨v,ws,e1,h1,u,ws',e2,h2,h3⟩:=rr;cases h3;subst e2;subst e1;have own:∀j∈qK E1 x++qK E1 y,∃k xs,E1[j]?=oZ (oZ (U.o k xs)):=λj hj=>by
   obtain h|h:=VX.mp hj
   ·exact nV j h
   ·exact nV j h
  simp only at q;split at q
  ·rename_i xs ys e1 e2;obtain⟨a,vs,e3,sq1,r1⟩:=mz.vl h1 e1;obtain⟨b,us,e4,sq2,r2⟩:=mz.vl h2 e2;refine⟨false,a,b,vs,us,by rw[e3,e4],sq1,sq2,lk _ _ _ _ _ _ _ q g mz Eu own λO k1 k2=>?_⟩;rw[<-e3,<-e4];exact⟨mK mz h1 e1 O k1 λj hj=>k2 j (by simp[hj]),mK mz h2 e2 O k1 λj hj=>k2 j (by simp[hj])⟩
  ·rename_i xs ys e1 e2;obtain⟨a,vs,e3,sq1,r1⟩:=mz.vl h1 e1;obtain⟨b,us,e4,sq2,r2⟩:=mz.vl h2 e2;refine⟨true,a,b,vs,us,by rw[e3,e4],sq1,sq2,lk _ _ _ _ _ _ _ q g mz Eu own λO k1 k2=>?_⟩;rw[<-e3,<-e4];exact⟨mK mz h1 e1 O k1 λj hj=>k2 j (by simp[hj]),mK mz h2 e2 O k1 λj hj=>k2 j (by simp[hj])⟩
  ·exact q.elim
 ·exact False.elim q
theorem Q3{x1}(eK:X.K=K)(hg:Gl X "zip")(hm:X.mg "zip" = none)(ha:QA X [l,r,t] (cM K n Fr))(hs:a8 l=false:=by rfl)(xp:a8 r=false:=by rfl)(hs3:a8 t=false:=by rfl):
  QI X (.Tuple elts x1 xq) (.Call (.Name "zip" p) [l,r,t] [] pos) (lC K (LB Fr)):=by
 subst eK;refine(MM hg hm ha hs xp hs3).le λσ H R hn⟨B,S,E,Q',hS,re,hF,lk⟩=>⟨B,S,E,_,hS,re,hF,λrs E1 vs H1 S1 q g mz rr hn=>?_⟩;obtain _|⟨x,_|⟨y,_|⟨z,_|⟨_,_⟩⟩⟩⟩:=rs
 ·exact False.elim q
 ·exact False.elim q
 ·exact False.elim q
 ·obtain⟨v,ws,e1,h1,u,ws',e2,h2,v',aMC,e3,h3,h4⟩:=rr;cases h4;subst e3;subst e2;subst e1;have own:∀j∈qK E1 x++qK E1 y++qK E1 z,∃k xs,E1[j]?=oZ (oZ (U.o k xs)):=λj hj=>by
   obtain h|h:=VX.mp hj
   ·obtain h|h:=VX.mp h
    ·exact nV j h
    ·exact nV j h
   ·exact nV j h
  simp only at q;split at q
  ·rename_i xs ys zs e1 e2 e3;obtain⟨a,vs,f1,sq1,r1⟩:=mz.vl h1 e1;obtain⟨b,us,f2,sq2,r2⟩:=mz.vl h2 e2;obtain⟨c,ts,f3,sq3,r3⟩:=mz.vl h3 e3;refine⟨a,b,c,vs,us,ts,by rw[f1,f2,f3],sq1,sq2,sq3,lk _ _ _ _ _ _ _ q g mz R1 own λO k1 k2=>?_⟩;rw[<-f1,<-f2,<-f3];exact⟨mK mz h1 e1 O k1 λj hj=>k2 j (by simp[hj]),mK mz h2 e2 O k1 λj hj=>k2 j (by simp[hj]),mK mz h3 e3 O k1 λj hj=>k2 j (by simp[hj])⟩
  ·exact q.elim
 ·exact False.elim q
end
end L2
namespace My
open PySem L2 PyProof.Rows
abbrev oG:List Str:=["_law_one","_law_other"]
abbrev oH:List Str:=["one","other"]
abbrev oI:List Str:=["path","number"]
abbrev oJ:List Str:=["path","far","steps","is_least"]
abbrev oK:List Str:=["_law_number","_law_point","_law_ahead","_law_behind","_law_far","_law_steps"]
abbrev oM:List Str:=["_law_number","_law_move","_law_begin","_law_piece","_law_far","_law_steps"]
abbrev oN:List Str:=["_law_word","_law_number","_law_point","_law_units","_law_far","_law_mark"]
theorem Jd(x y:Nat):WD y (x%y)=WD x y:=by
 rw[ZD x y,Nat.gcd_rec y x,ZD]
def tU(n d:Int):Int:=(if 0<d then n else -n)/((WD n.natAbs d.natAbs:Nat):Int)
def pI(n d:Int):Int:=(if 0<d then d else -d)/((WD n.natAbs d.natAbs:Nat):Int)
theorem Jh{n d:Int}(hd:0<d)(hg:g=WD n.natAbs d.natAbs):(n/(g:Int)).natAbs<=n.natAbs/\1<=d/(g:Int)/\d/(g:Int)<=d/\WD (n/(g:Int)).natAbs (d/(g:Int)).natAbs=1:=by
 have g0:0<g:=by rw[hg];exact ZE _ ⋯
 have dn:(g:Int)∣n:=by rw[hg];exact XJ.mpr (YU _ _)
 have dd:(g:Int)∣d:=by rw[hg];exact XJ.mpr (YR _ _)
 have en:(n/(g:Int)).natAbs=n.natAbs/g:=by rw[Int.natAbs_ediv_of_dvd dn];simp
 have ed:(d/(g:Int)).natAbs=d.natAbs/g:=by rw[Int.natAbs_ediv_of_dvd dd];simp
 refine⟨by rw[en];exact Nat.div_le_self _ _,?_,?_,?_⟩
 ·obtain⟨k,hk⟩:=dd;have hg':(0:Int)<g:=⋯
  rw[hk,WZ _ ⋯];obtain h|h:=br 0 k
  ·lia
  ·have:(g:Int)*k<=0:=Int.mul_nonpos_of_nonneg_of_nonpos ⋯ h
   lia
 ·exact Int.ediv_le_self _ ⋯
 ·rw[en,ed,Nat.gcd_div (by rw[hg];exact YU _ _) (by rw[hg];exact YR _ _),<-hg,Nat.div_self g0]
theorem mI{n d:Int}(hd:d≠0):(tU n d).natAbs<=n.natAbs/\1<=pI n d/\pI n d<=d.natAbs/\WD (tU n d).natAbs (pI n d).natAbs=1:=by
 unfold tU pI
 by_cases h:0<d
 ·rw[oV h,oV h];have:=Jh (n:=n) (d:=d) h rfl;refine⟨this.1,this.2.1,?_,this.2.2.2⟩;have:=this.2.2.1
  lia
 ·rw[oW h,oW h];have h':0 < -d:=⋯
  have:=Jh (n:=-n) (d:=-d) h' rfl;simp only[ZI]at this;refine⟨this.1,this.2.1,?_,this.2.2.2⟩;have:=this.2.2.1
  lia
abbrev Fr:=Int×Int
structure bI(p:Fr):Prop where
 d:1<=p.2
 g:WD p.1.natAbs p.2.natAbs=1
def jT(n d:Int):Fr:=(tU n d,pI n d)
def bH(p q:Fr):Fr:=jT (p.1*q.2+q.1*p.2) (p.2*q.2)
def aT(p q:Fr):Fr:=jT (p.1*q.2-q.1*p.2) (p.2*q.2)
def aN(p q:Fr):Fr:=jT (p.1*q.1) (p.2*q.2)
def b7(p q:Fr):Fr:=jT (p.1*q.2) (p.2*q.1)
def aQ(p:Fr):Fr:=(-p.1,p.2)
def val(p:Fr):Rat:=(p.1:Rat)/(p.2:Rat)
theorem iG{n d:Int}(hd:d≠0):bI (jT n d):=⟨(mI hd).2.1,(mI hd).2.2.2⟩
theorem Co{n d:Int}(hd:d≠0):tU n d*d=n*pI n d:=by
 have dn:((WD n.natAbs d.natAbs:Nat):Int)∣n:=XJ.mpr (YU _ _);have dd:((WD n.natAbs d.natAbs:Nat):Int)∣d:=XJ.mpr (YR _ _);have g0:((WD n.natAbs d.natAbs:Nat):Int)≠0:=by
  have:=ZE n.natAbs (show 0<d.natAbs by lia)
  lia
 unfold tU pI;generalize((WD n.natAbs d.natAbs:Nat):Int)=g at dn dd g0;obtain⟨k,hk⟩:=dn;obtain⟨m,hm⟩:=dd
 by_cases h:0<d
 ·rw[oV h,oV h,hk,hm,WZ _ g0,WZ _ g0];grind
 ·rw[oW h,oW h,hk,hm,<-Int.mul_neg,<-Int.mul_neg,WZ _ g0,WZ _ g0];grind
theorem gV{n d:Int}(hd:d≠0):val (jT n d)=(n:Rat)/(d:Rat):=by
 have h:=Co (n:=n) hd;have h1:=(mI (n:=n) hd).2.1;have a1:((pI n d:Int):Rat)≠0:=by
  have:pI n d≠0:=⋯
  exact_mod_cast this
 have a2:(d:Rat)≠0:=by exact_mod_cast hd
 have h':((tU n d:Int):Rat)*(d:Rat)=(n:Rat)*((pI n d:Int):Rat):=by exact_mod_cast h
 show((tU n d:Int):Rat)/((pI n d:Int):Rat)=(n:Rat)/(d:Rat);grind
theorem bI.ne(h:bI p):p.2≠0:=by have:=h.d;lia
theorem bI.neR(h:bI p):(p.2:Rat)≠0:=by have:=h.ne;exact_mod_cast this
theorem fF(hp:bI p)(hq:bI q):p.2*q.2≠0:=YZ hp.ne hq.ne
theorem cN(hp:bI p)(hq:bI q):val (bH p q)=val p+val q:=by
 have h1:=hp.neR;have h2:=hq.neR;unfold bH;rw[gV (fF hp hq)];unfold val
 push_cast
 grind
theorem dE(hp:bI p)(hq:bI q):val (aT p q)=val p-val q:=by
 have h1:=hp.neR;have h2:=hq.neR;unfold aT;rw[gV (fF hp hq)];unfold val
 push_cast
 grind
theorem bB(hp:bI p)(hq:bI q):val (aN p q)=val p*val q:=by
 have h1:=hp.neR;have h2:=hq.neR;unfold aN;rw[gV (fF hp hq)];unfold val
 push_cast
 grind
theorem bV(hp:bI p):val (aQ p) = - val p:=by
 have h1:=hp.neR;show((-p.1:Int):Rat)/(p.2:Rat) = - ((p.1:Rat)/(p.2:Rat))
 push_cast
 grind
theorem cH(hp:bI p)(hq:bI q):bI (bH p q):=iG (fF hp hq)
theorem dD(hp:bI p)(hq:bI q):bI (aT p q):=iG (fF hp hq)
theorem aO(hp:bI p)(hq:bI q):bI (aN p q):=iG (fF hp hq)
theorem d5(hp:bI p):bI (aQ p):=⟨hp.d,by show WD (-p.1).natAbs p.2.natAbs=1;rw[ZI];exact hp.g⟩
theorem aM(n:Int):bI (n,1):=⟨by show(1:Int)<=1;decide,by simp⟩
theorem bQ(hp:bI p)(hq:bI q)(h:val p=val q):p=q:=by
 have h1:=hp.neR;have h2:=hq.neR;have e:p.1*q.2=q.1*p.2:=by
  unfold val at h;have h':(p.1:Rat)*q.2=q.1*p.2:=by grind
  exact_mod_cast h'
 have en:p.1.natAbs*q.2.natAbs=q.1.natAbs*p.2.natAbs:=by rw[<-WK,<-WK,e]
 have d1:p.2.natAbs∣q.2.natAbs:=by
  have:p.2.natAbs∣p.1.natAbs*q.2.natAbs:=by rw[en];exact Nat.dvd_mul_left _ _
  exact Nat.Coprime.dvd_of_dvd_mul_left (show YW p.2.natAbs p.1.natAbs by unfold YW;rw[ZD];exact hp.g) this
 have d2:q.2.natAbs∣p.2.natAbs:=by
  have:q.2.natAbs∣q.1.natAbs*p.2.natAbs:=by rw[<-en];exact Nat.dvd_mul_left _ _
  exact Nat.Coprime.dvd_of_dvd_mul_left (show YW q.2.natAbs q.1.natAbs by unfold YW;rw[ZD];exact hq.g) this
 have ed:p.2.natAbs=q.2.natAbs:=Nat.dvd_antisymm d1 d2;have ed':p.2=q.2:=by have:=hp.d;have:=hq.d;lia
 have e2:p.1=q.1:=by
  rw[ed']at e;exact Int.eq_of_mul_eq_mul_right hq.ne e
 exact Prod.ext e2 ed'
theorem uV(h:x<2^e)(he:e<=8000):x<2^8000:=VJ h (WU ∅ he)
theorem bL{x y:Int}(hx:x.natAbs<2^e)(hy:y.natAbs<2^f):(x*y).natAbs<2^(e+f):=by
 rw[WK,Nat.pow_add];exact bw hx hy
theorem qP{x y:Int}(hx:x.natAbs<2^e)(hy:y.natAbs<2^e):(x+y).natAbs<2^(e+1):=by
 have:=Int.natAbs_add_le x y;rw[Nat.pow_succ]
 lia
theorem Hs{x y:Int}(hx:x.natAbs<2^e)(hy:y.natAbs<2^e):(x-y).natAbs<2^(e+1):=by
 rw[Int.sub_eq_add_neg];exact qP hx (by rw[ZI];exact hy)
theorem jR(hp:bI p)(hq:bI q)(h:q.1≠0):val (b7 p q)=val p/val q:=by
 have h1:=hp.neR;have h2:=hq.neR;have h3:(q.1:Rat)≠0:=by exact_mod_cast h
 unfold b7;rw[gV (YZ hp.ne h)];unfold val
 push_cast
 grind
theorem gN(hp:bI p)(h:q.1≠0):bI (b7 p q):=iG (YZ hp.ne h)
def sz(p:Fr):Nat:=af (bz p.1.natAbs) (bz p.2.natAbs)+1
theorem dW(p:Fr):p.1.natAbs<2^sz p:=VJ cf (WU ∅ (YG (YY _ _)))
theorem b8(p:Fr):p.2.natAbs<2^sz p:=VJ cf (WU ∅ (YG (YT _ _)))
theorem Zk(h:n<2^e)(he:1<=e):bz n+1<=e:=by
 by_cases c:n=0
 ·subst c;have:bz 0=0:=by simp
  lia
 ·exact(ZN c).mpr h
theorem qI(h1:p.1.natAbs<2^e)(h2:p.2.natAbs<2^e)(he:1<=e):sz p<=e:=by
 have a:=Zk h1 he;have b:=Zk h2 he;unfold sz;have:af (bz p.1.natAbs) (bz p.2.natAbs)<=e-1:=XD.mpr ⟨⋯,⋯⟩
 lia
theorem Qb(p:Fr):1<=sz p:=by unfold sz;lia
theorem nT{n d:Int}(hd:d≠0)(h1:n.natAbs<2^e)(h2:d.natAbs<2^e)(he:1<=e):sz (jT n d)<=e:=by
 have lf:=mI (n:=n) hd;refine qI (VT lf.1 h1) ?_ he;show(pI n d).natAbs<2^e
 lia
theorem gZ(hp:bI p)(hq:bI q):sz (bH p q)<=sz p+sz q+1:=
 nT (fF hp hq) (qP (bL (dW p) (b8 q)) (by rw[YH];exact bL (dW q) (b8 p))) (VJ (bL (b8 p) (b8 q)) (WU ∅ ⋯)) ⋯
theorem lX(hp:bI p)(hq:bI q):sz (aT p q)<=sz p+sz q+1:=
 nT (fF hp hq) (Hs (bL (dW p) (b8 q)) (by rw[YH];exact bL (dW q) (b8 p))) (VJ (bL (b8 p) (b8 q)) (WU ∅ ⋯)) ⋯
theorem cF(hp:bI p)(hq:bI q):sz (aN p q)<=sz p+sz q:=
 nT (fF hp hq) (bL (dW p) (dW q)) (bL (b8 p) (b8 q)) (by have:=Qb p;lia)
theorem qV(hp:bI p)(h:q.1≠0):sz (b7 p q)<=sz p+sz q:=
 nT (YZ hp.ne h) (bL (dW p) (b8 q)) (bL (b8 p) (dW q)) (by have:=Qb p;lia)
theorem qJ(p:Fr):sz (aQ p)=sz p:=by unfold sz aQ;simp
theorem cK(W:Nat->En->Prop)(h0:W 0 E)(hs:∀i x rest E,items[i]?=oZ x->W i E->(∀E',W (i+1) E'->gF g F D rest E')->gF g F D (x::rest) E)(hd:∀E,W items.length E->D.nx E):gF g F D items E:=by
 have fD:∀n i E,items.length-i=n->i<=items.length->W i E->gF g F D (items.drop i) E:=by
  intro n
  induction n with
  |zero=>
   intro i E e hi h;obtain rfl:i=items.length:=⋯
   rw[XQ];exact hd E h
  |succ n ih=>
   intro i E e hi h;have rk:i<items.length:=⋯
   rw[WH rk];exact hs i _ _ E (UP rk) h λE' h'=>ih (i+1) E' ⋯ ⋯ h'
 exact fD _ 0 E rfl (UU _) h0
theorem b9{Q:En->Prop}(W:Nat->En->Prop)(h0:W 0 E)(hs:∀i x rest E,items[i]?=oZ x->W i E->(∀E',W (i+1) E'->j9 g Fe rest E' Q)->j9 g Fe (x::rest) E Q)(hd:∀E,W items.length E->Q E):j9 g Fe items E Q:=by
 have fD:∀n i E,items.length-i=n->i<=items.length->W i E->j9 g Fe (items.drop i) E Q:=by
  intro n
  induction n with
  |zero=>
   intro i E e hi h;obtain rfl:i=items.length:=⋯
   rw[XQ];exact hd E h
  |succ n ih=>
   intro i E e hi h;have rk:i<items.length:=⋯
   rw[WH rk];exact hs i _ _ E (UP rk) h λE' h'=>ih (i+1) E' ⋯ ⋯ h'
 exact fD _ 0 E rfl (UU _) h0
mutual
def wT:L2.T->Nat
 |.tup xs=>af xs.length (Wz xs)
 |.lst xs=>af xs.length (Wz xs)
 |_=>0
def Wz:List L2.T->Nat
 |[]=>0
 |x::xs=>af (wT x) (Wz xs)
end
theorem M3:∀{xs:List L2.T}{x:L2.T},x∈xs->wT x<=Wz xs
 |y::xs,x,h=>by
  rw[Wz];obtain rfl|h:=UZ.mp h
  ·exact YY _ _
  ·exact VZ (M3 h) (YT _ _)
def fr(p:Fr):T:=.tup [.int p.1,.int p.2]
def vc(x y:Fr):T:=.tup [fr x,fr y]
theorem Bz(p q:Fr):dG (fr p) (fr q)=decide (p=q):=by
 rw[de];simp[fr,L2.dG,L2.yM,Prod.ext_iff]
theorem Ca(x y x' y':Fr):dG (vc x y) (vc x' y')=decide (x=x'/\y=y'):=by
 rw[de];simp[vc,L2.dG,L2.yM,Bz]
def Bg(i j:Int):Prop:=Qi i j\/N7 i j
theorem bA:oP X (jc .Mult) (rI Bg λi j=>.int (i*j)):=by
 intro pins s σ H x y v u Q I rx ry h;obtain⟨i,j,e1,e2,hc,q⟩:=h;obtain hc|hc:=hc
 ·exact U5 pins s σ H x y v u Q I rx ry ⟨i,j,e1,e2,hc,q⟩
 ·exact GG pins s σ H x y v u Q I rx ry ⟨i,j,e1,e2,hc,q⟩
theorem jU{i j:Int}(h1:i.natAbs<2^e)(h2:j.natAbs<2^e)(he:e<=8000):Bg i j:=.inl ⟨uV h1 he,uV h2 he⟩
theorem Nl{i j:Int}(h1:i.natAbs<2^60):Bg i j:=.inr (.inl ⋯)
theorem Jk{i j:Int}(h1:j.natAbs<2^60):Bg i j:=.inr (.inr ⋯)
theorem DL:ij "int" = oZ (.type "int"):=by decide +kernel
theorem Dy:ij "bool" = oZ (.type "bool"):=by decide +kernel
theorem yF:ij "tuple" = oZ (.type "tuple"):=by decide +kernel
theorem Dz:ij "list" = oZ (.type "list"):=by decide +kernel
theorem Ma:ij "str" = oZ (.type "str"):=by decide +kernel
structure Txt(mg:Str->Option oA):Prop where
 n_isinstance:mg "isinstance" = none
 n_abs:mg "abs" = none
 n_divmod:mg "divmod" = none
 n_min:mg "min" = none
 n_max:mg "max" = none
 n_all:mg "all" = none
 n_len:mg "len" = none
 n_int:mg "int" = none
 n_bool:mg "bool" = none
 n_tuple:mg "tuple" = none
 n_list:mg "list" = none
 n_str:mg "str" = none
 n_range:mg "range" = none
 n_enumerate:mg "enumerate" = none
 n_zip:mg "zip" = none
structure nW(mg:Str->Option oA)(K:W.Frag)(x:Str)(t:L2.T):Prop where
 ex:∃a,mg x=oZ (.ref a)/\∀H O,Rp K H O t (.ref a)
theorem jA{X:Cx}{K:W.Frag}{x:Str}{t:L2.T}{pos:Pos}(hg:Gl X x)(c:nW X.mg K x t)(hd:(x==("__debug__":Str))=false:=by decide):QE X (.Name x pos) (aH K (fC t)):=by
 obtain⟨a,h1,h2⟩:=c.ex;exact QE.le (t:=tC (.ref a)) ⟨Sd (v:=.ref a) hg h1 rfl hd⟩ λσ H Q hl zZ=>by obtain⟨B,S,E,Q',hS,re,hF,lk⟩:=zZ;exact lk _ _ _ _ _ hF .refl re (h2 _ _)
theorem mZ{K:W.Frag}{i j:Int}(h:K.lookup a=oZ ⟨.type "tuple",od,.seq #[.int i t,.int j u] n,sl⟩)(H:Hp)(O:fk->Prop):Rp K H O (.tup [.int i,.int j]) (.ref a):=
 ⟨a,[.int i,.int j],rfl,.inr ⟨_,_,n,h,rfl,rfl,by show 2<=gf;decide,.cons ⟨t,rfl⟩ (.cons ⟨u,rfl⟩ .nil)⟩,_,_,rfl,rfl,_,_,rfl,rfl,rfl⟩
section
variable{X:Cx}{K:W.Frag}{e:oC}{te:TE}{st:Option oC}{ts:TO}{pos p2:Pos}{Fa:FE}{G:FO}
def CQ(K:W.Frag)(te:TE)(ts:TO):TE:=λσ H Q=>te σ H λx H1=>ts σ H1 λk H2=>k=oZ (-1)/\∃a xs,x = .ref a/\k9 K H2 a xs/\∀p,H2 p=none->Q (.ref p) (upd H2 p (.lst xs.reverse))
theorem V3(he:PE X e te)(hk:PO X st ts)(hop:∀a b,∃ops,ky (.Slice none none st p2) false a b=operate ops (kc a b)):PE X (.Subscript e (.Slice none none st p2) pos) (CQ X.K te ts):=by
 intro pins s σ H Q I h;refine Subscript_ (dP (he pins s σ H _ I h) λv s1 zZ=>?_);obtain⟨x,H1,I1,r1,q1⟩:=zZ;refine wpAny_Slice ?_;rw[evalPart_none];refine fz ?_;refine fz ?_;refine dP (hk pins s1 σ H1 _ I1 q1) λvk s2 zZ=>?_;obtain⟨k,H2,I2,pk,q2⟩:=zZ;obtain⟨rfl,a,xs,rfl,hx,q⟩:=q2;have I4:aW X pins σ H2 { s2 with heap:=s2.heap.push { cls:=.type "slice",data:=.fields #[.none,.none,vk] } }:=I2.kept (t':=s2.toks) λb ob q=>UY _ q;cases r1;obtain⟨mq,r,ht,hz⟩:=I4.list hx;have hlen:=r.length;have hg:fo (ft X.prog X.w) X.A (kc (.ref a) (.ref s2.heap.objs.size)) (EP X pins σ Q) X.xe { s2 with heap:=s2.heap.push { cls:=.type "slice",data:=.fields #[.none,.none,vk] } }:=by
  refine wpAny_getItem_list_slice ht.isList (Heap.IsSliceOf.new ..) .none .none pk ∅ ?_ (by rw[VG]<;>lia);rw[W.krv_pick];refine⟨.ref _,_,I4.laid (t':=s2.toks) (o:=.lst xs.reverse) (λb ob q=>UY _ q) (VA _) ?_,rfl,q _ (I4.hok.fresh (VA _))⟩;exact⟨by rw[List.length_reverse];exact hz,_,0,r.reverse,VF _ rfl⟩
 obtain⟨ops,ho⟩:=hop (.ref a) (.ref s2.heap.objs.size);exact tail_any (ops:=ops) ht.isList.typeIs slot_list_getitem.lookup hg ho
def QY(Fa:FE)(G:FO):FE:=λE Q=>Fa E λx E1=>G E1 λk E2=>k=oZ (-1)/\match vl E2 x with
 |some (.lst xs)=>Q (.s E2.length) (E2++[↥xs.reverse])
 |_=>False
theorem Q1(eK:X.K=K)(he:QE X e (aH K Fa))(hk:QO X st (Kt K G))(hop:∀a b,∃ops,ky (.Slice none none st p2) false a b=operate ops (kc a b):=by exactλ_ _=>⟨_,by with_unfolding_all rfl⟩):QE X (.Subscript e (.Slice none none st p2) pos) (aH K (QY Fa G)):=by
 subst eK;refine QE.le (t:=CQ X.K (aH X.K Fa) (Kt X.K G)) ⟨V3 he.h hk.h hop⟩ λσ H Q _⟨B,S,E,Q',⟨τ,hS⟩,re,hF,lk⟩=>⟨B,S,E,_,⟨τ,hS⟩,re,hF,λx E1 v H1 S1 q g1 mz rx=>?_⟩;obtain⟨τ1,wc⟩:=g1.pre;refine⟨B,S1,E1,_,⟨τ++τ1,by rw[wc,hS,VH]⟩,mz,q,λl E2 H2 S2 q2 g2 rn=>?_⟩;have rx2:=rx.step g2;obtain⟨hk1,q2⟩:=q2;refine⟨hk1,?_⟩;split at q2
 ·rename_i xs e1;obtain⟨a,vs,e2,sq,rs⟩:=rn.vl rx2 e1;refine⟨a,vs,e2,sq,λp hp=>?_⟩;obtain⟨g,ni⟩:=rn.lst hp rs.reverse;exact lk _ _ _ _ _ q2 ((g1.trans g2).trans g) ni (by rw[<-rn.len];exact jK)
 ·exact q2.elim
end
end My
namespace L2
open PySem PySem.Spec PyProof.Rows
def RK:En->Bool
 |[]=>true
 |some (.o false _)::_=>false
 |_::E=>RK E
section
variable{K:W.Frag}{B:fk->Prop}{H H':Hp}{S S':St}{E E':En}{σ:St}
def uN(E:En):List R->Option (List T×En)
 |[]=>oZ ([],E)
 |.p t::rs=>(uN E rs).map λz=>(t::z.1,z.2)
 |.s i::rs=>match E[i]? with
  |some (↥xs)=>(uN (E.set i (⇑(.lst xs))) rs).map λz=>(.lst xs::z.1,z.2)
  |some (⇑t)=>(uN E rs).map λz=>(t::z.1,z.2)
  |_=>none
theorem m4:∀{rs:List R}{vs:List V}{E:En}{z:List T×En},RE K B H S E->Tz K B H S E rs vs->uN E rs=oZ z->RE K B H S z.2/\(∀b,Ow B S z.2 b->Ow B S E b)/\cP K H (Ow B S z.2) z.1 vs
 |[],vs,E,z,re,h,e=>by cases e;exact⟨re,λb z=>z,h⟩
 |.p t::rs,_,E,z,re,⟨v,ws,e1,h1,h2⟩,e=>by
  cases q:uN E rs with
  |none=>rw[uN,q]at e;cases e
  |some y=>
   rw[uN,q]at e;cases e;obtain⟨r1,r2,r3⟩:=m4 re h2 q;exact⟨r1,r2,v,ws,e1,Rp.step (Kp.less r2) h1,r3⟩
 |.s i::rs,_,E,z,re,⟨v,ws,e1,h1,h2⟩,e=>by
  unfold uN at e;split at e
  ·rename_i xs hE;obtain⟨ref,of⟩:=re.frz hE;cases q:uN (E.set i (⇑(.lst xs))) rs with
   |none=>rw[q]at e;cases e
   |some y=>
    rw[q]at e;cases e;have h2':Tz K B H S (E.set i (⇑(.lst xs))) rs ws:=Tz.step ⟨Kp.less λb z=>(of b z).1,[],by simp⟩ h2;obtain⟨r1,r2,r3⟩:=m4 ref h2' q;have hi:i<E.length:=(UO.mp hE).1;obtain⟨w,p1,p2⟩:=ref.pure i (.lst xs) (by rw[VM hi]);have h1:S[i]?=oZ (oZ v):=h1;rw[h1]at p1;cases p1;exact⟨r1,λb z=>(of b (r2 b z)).1,v,ws,e1,Rp.step (Kp.less r2) p2,r3⟩
  ·rename_i t hE;cases q:uN E rs with
   |none=>rw[q]at e;cases e
   |some y=>
    rw[q]at e;cases e;obtain⟨r1,r2,r3⟩:=m4 re h2 q;obtain⟨w,p1,p2⟩:=re.pure i t hE;have h1:S[i]?=oZ (oZ v):=h1;rw[h1]at p1;cases p1;exact⟨r1,r2,v,ws,e1,Rp.step (Kp.less r2) p2,r3⟩
  ·cases e
end
section
variable{X:Cx}{K:W.Frag}{pos:Pos}{es:List oC}{Fr:FA}
def KO(Fr:FA):FE:=λE Q=>Fr E λrs E1=>o1 (uN E1 rs) λz=>Q (.p (.tup z.1)) z.2
def AV(Fr:FA):FE:=λE Q=>Fr E λrs E1=>o1 (uN E1 rs) λz=>Q (.s z.2.length) (z.2++[↥z.1])
theorem Em{x1}(h:QA X es (cM K n Fr))(hz:n<=9000:=by decide):QE X (.Tuple es x1 pos) (aH K (KO Fr)):=by
 refine(Oy h).le λσ H Q hl h=>args (Fr:=Fr) h λB S E rs vs H2 Q' hS re rr hn q lk=>⟨by rw[hn];exact WC (bS hz),λp hp=>?_⟩;obtain⟨z,e,q⟩:=q.ex;obtain⟨mz,ow1,rs1⟩:=m4 re rr e;obtain⟨g,ni,rp⟩:=mz.tup hp rs1;exact lk _ _ _ _ _ q (Gr.trans ⟨Kp.less ow1,[],by simp⟩ g) ni rp
theorem Rc(h:QA X es (cM K n Fr))(hz:n<=9000:=by decide):QE X (.List es pos) (aH K (AV Fr)):=by
 refine(D1 h).le λσ H Q hl h=>args (Fr:=Fr) h λB S E rs vs H2 Q' hS re rr hn q lk=>⟨by rw[hn];exact WC (bS hz),λp hp=>?_⟩;obtain⟨z,e,q⟩:=q.ex;obtain⟨mz,ow1,rs1⟩:=m4 re rr e;obtain⟨g,ni⟩:=mz.lst hp rs1;exact lk _ _ _ _ _ q (Gr.trans ⟨Kp.less ow1,[],by simp⟩ g) ni (by rw[<-mz.len];exact jK)
end
section
variable{X:Cx}{e:oC}{es:List oC}{pos:Pos}{K:W.Frag}{Fr:FA}
theorem Uh(hc:X.calm=true):j7 X (.builtin "max") (λxs H Q=>∃a b:Int,xs=[.int a,.int b]/\Q (.int (if a<b then b else a)) H):=by
 intro pins s σ H xs us Q I r h;obtain⟨a,b,rfl,q⟩:=h;obtain⟨u,v,rfl,rx,ry⟩:=bC.two r;obtain⟨t,rfl⟩:=rx;obtain⟨t',rfl⟩:=ry;refine max_two_ints (I.ok.hd hc) λh' tk hk=>?_
 by_cases c:a<b
 ·simp only[oV c]at q⊢;exact⟨.int b,H,I.kept hk,⟨_,rfl⟩,q⟩
 ·simp only[oW c]at q⊢;exact⟨.int a,H,I.kept hk,⟨_,rfl⟩,q⟩
def QN(Fr:FA):FE:=λE Q=>Fr E λrs E1=>match rs with
 |[x,y]=>i2 (vl E1 x) (vl E1 y) λi j=>Q (.p (.int (if i<j then j else i))) E1
 |_=>False
theorem EB(hc:X.calm=true)(hg:Gl X "max")(hm:X.mg "max" = none)(ha:QA X (e::es) (cM K n Fr))(hs:bR (e::es)=true:=by rfl):QE X (.Call (.Name "max" p) (e::es) [] pos) (aH K (QN Fr)):=by
 refine(iZ (Uh hc) hg hm boot_max ha ∅ ∅ hs).le λσ H Q hl h=>args (Fr:=Fr) h λB S E rs vs H2 Q' hS re rr hn q lk=>?_;obtain _|⟨x,_|⟨y,_|⟨_,_⟩⟩⟩:=rs
 ·exact False.elim q
 ·exact False.elim q
 ·obtain⟨v,ws,e1,h1,u,ws',e2,h2,h3⟩:=rr;cases h3;subst e2;subst e1;obtain⟨i,j,e3,e4,q⟩:=i2.ex q;exact⟨i,j,by rw[re.int h1 e3,re.int h2 e4],lk _ _ _ _ _ q .refl re rfl⟩
 ·exact False.elim q
end
end L2
namespace HT
open PySem PySem.Spec PyProof.Rows
end HT
namespace HT
open PySem PySem.Spec PyProof.Rows
end HT
namespace L2
open PySem PySem.Spec PyProof.Rows
section
variable{X:Cx}{K:W.Frag}{a b e:oC}{te:TE}{st:Option oC}{ts:TO}{pos p2:Pos}{Fa Fb:FE}{G Gl' Gh:FO}
def SI(Fa:FE)(G:FO):FE:=λE Q=>Fa E λx E1=>G E1 λk E2=>k=oZ (-1)/\match vl E2 x with
 |some (.tup xs)=>Q (.p (.tup xs.reverse)) E2
 |_=>False
def RA(Fa:FE)(Gl' Gh:FO):FE:=λE Q=>Fa E λx E1=>Gl' E1 λlo E2=>Gh E2 λhi E3=>match vl E3 x with
 |some (.tup xs)=>¬(HT.sIx xs.length 0 lo=0/\HT.sIx xs.length xs.length hi=xs.length)/\Q (.p (.tup (gL xs lo hi))) E3
 |_=>False
theorem Vb{lo hi:Option oC}(eK:X.K=K)(he:QE X e (aH K Fa))(hl:QO X lo (Kt K Gl'))(hu:QO X hi (Kt K Gh)):QE X (.Subscript e (.Slice lo hi none p2) pos) (aH K (RA Fa Gl' Gh)):=by
 subst eK;refine(Kf IE he hl hu).le λσ H Q _⟨B,S,E,Q',⟨τ,hS⟩,re,hF,lk⟩=>⟨B,S,E,_,⟨τ,hS⟩,re,hF,λx E1 v H1 S1 q g1 mz rx=>?_⟩;obtain⟨τ1,wc⟩:=g1.pre;refine⟨B,S1,E1,_,⟨τ++τ1,by rw[wc,hS,VH]⟩,mz,q,λl E2 H2 S2 q2 g2 rn=>?_⟩;obtain⟨τ2,hS2⟩:=g2.pre;refine⟨B,S2,E2,_,⟨τ++τ1++τ2,by rw[hS2,wc,hS,VH,VH,VH]⟩,rn,q2,λh E3 H3 S3 q3 g3 ud=>?_⟩;have rx3:=(rx.step g2).step g3;split at q3
 ·rename_i xs e1;obtain⟨a,vs,e2,sq,rs⟩:=ud.vl rx3 e1;obtain⟨nw,q3⟩:=q3;refine⟨a,vs,e2,sq,by rw[rs.length];exact nw,λp hp=>?_⟩;obtain⟨g,ni,rp⟩:=ud.tup hp (Xm (lo:=l) (hi:=h) rs);exact lk _ _ _ _ _ q3 (((g1.trans g2).trans g3).trans g) ni rp
 ·exact q3.elim
def JW(Fa Fb:FE):FE:=λE Q=>Fa E λx E1=>Fb E1 λy E2=>match vl E2 x,vl E2 y with
 |some (.tup (t::xs)),oZ (.tup (u::ys))=>xs.length+ys.length<=900/\Q (.p (.tup (t::xs++u::ys))) E2
 |some (.tup (_::xs)),oZ (.tup [])=>xs.length<=900/\Q x E2
 |_,_=>False
theorem Ek(eK:X.K=K)(ha:QE X a (aH K Fa))(hb:QE X b (aH K Fb)):QE X (.BinOp a .Add b pos) (aH K (JW Fa Fb)):=by
 subst eK;refine(zG U4 ha hb).le λσ H Q hl h=>two (Fa:=Fa) (Fb:=Fb) h λB S E x y v w H2 Q' hS re rx ry q lk=>?_;split at q
 ·rename_i t xs u ys e1 e2;obtain⟨hz,q⟩:=q;obtain⟨p,vs,rfl,sq,rs⟩:=re.vl rx e1;obtain⟨p',vs',rfl,sq',rs'⟩:=re.vl ry e2;have l1:=rs.length;have l2:=rs'.length;rw[VQ]at l1 l2;refine⟨p,p',vs,vs',rfl,rfl,sq,sq',λz=>by rw[z]at l1;simp at l1,WC (bS ⋯),λz=>by rw[z]at l2;simp at l2,λ_ r hr=>?_⟩;obtain⟨g,ni,rp⟩:=re.tup hr (rs.append rs');exact lk _ _ _ _ _ q g ni rp
 ·rename_i t xs e1 e2;obtain⟨hz,q⟩:=q;obtain⟨p,vs,rfl,sq,rs⟩:=re.vl rx e1;obtain⟨p',vs',rfl,sq',rs'⟩:=re.vl ry e2;have l1:=rs.length;have l2:=rs'.length;rw[VQ]at l1;rw[df]at l2;exact⟨p,p',vs,vs',rfl,rfl,sq,sq',λz=>by rw[z]at l1;simp at l1,WC (bS ⋯),λ_=>lk _ _ _ _ _ q .refl re rx,λz=>absurd (List.length_eq_zero_iff.mp l2) z⟩
 ·exact q.elim
end
section
variable{X:Cx}{K:W.Frag}{o:oC}{pos ap:Pos}{Fa:FE}
def JU(Fa:FE):FE:=λE Q=>Fa E λx E1=>i1 (vl E1 x) λi=>Q (.p (.int (Builtin.Int.intBits i:Int))) E1
theorem P6(ho:QE X o (aH K Fa))(qg:iq o "bit_length" X.env (ie o X.env)=ie o X.env:=by rfl)(qh:(ap.endLine==pos.line)=true:=by rfl):
  QE X (.Call (.Attribute o "bit_length" ap) [] [] pos) (aH K (JU Fa)):=by
 refine(W7 ho qg qh).le λσ H Q hl h=>one (Fa:=Fa) h λB S E x v H2 Q' hS re rx q lk=>?_;obtain⟨i,e1,q⟩:=q.ex;have ev:=re.int rx e1;subst ev;exact⟨rfl,i,rfl,rfl,lk _ _ _ _ _ q .refl re rfl⟩
end
def z1(o:Option T)(Q:Str->Prop):Prop:=match o with
 |some (.str z)=>Q z
 |_=>False
theorem z1.ex{Q:Str->Prop}(h:z1 o Q):∃z,o=oZ (.str z)/\Q z:=by
 unfold z1 at h;split at h
 ·exact⟨_,rfl,h⟩
 ·exact h.elim
section
variable{X:Cx}{e:oC}{es:List oC}{pos:Pos}{K:W.Frag}{Fr:FA}
def QP(Fr:FA):FE:=λE Q=>Fr E λrs E1=>match rs with
 |[x,y]=>i2 (vl E1 x) (vl E1 y) λi j=>Q (.p (.int (if j<i then j else i))) E1
 |_=>False
theorem ED(hc:X.calm=true)(hg:Gl X "min")(hm:X.mg "min" = none)(ha:QA X (e::es) (cM K n Fr))(hs:bR (e::es)=true:=by rfl):QE X (.Call (.Name "min" p) (e::es) [] pos) (aH K (QP Fr)):=by
 refine(iZ (Ui hc) hg hm boot_min ha ∅ ∅ hs).le λσ H Q hl h=>args (Fr:=Fr) h λB S E rs vs H2 Q' hS re rr hn q lk=>?_;obtain _|⟨x,_|⟨y,_|⟨_,_⟩⟩⟩:=rs
 ·exact False.elim q
 ·exact False.elim q
 ·obtain⟨v,ws,e1,h1,u,ws',e2,h2,h3⟩:=rr;cases h3;subst e2;subst e1;obtain⟨i,j,e3,e4,q⟩:=i2.ex q;exact⟨i,j,by rw[re.int h1 e3,re.int h2 e4],lk _ _ _ _ _ q .refl re rfl⟩
 ·exact False.elim q
end
theorem RE.setN{K:W.Frag}{B:fk->Prop}{H:Hp}{S:St}{E:En}(re:RE K B H S E){i:Nat}{v:V}:RE K B H (S.set i (oZ v)) (E.set i none)/\∀b,Ow B (S.set i (oZ v)) (E.set i none) b->Ow B S E b:=by
 have gE:∀{j:Nat}{u:U},(E.set i none)[j]?=oZ (oZ u)->i≠j/\E[j]?=oZ (oZ u):=λ{j u}h=>by
  by_cases c:i=j
  ·subst c
   by_cases d:i<E.length
   ·rw[VM d]at h;cases h
   ·rw[WT (by simpa using d)]at h;cases h
  ·rw[VI c]at h;exact⟨c,h⟩
 refine re.map (by simp[re.len]) (λj t h=>?_) id (λj k xs h=>?_) λ_ _ _ _ _ _ _ _ h=>h
 ·obtain⟨c,h⟩:=gE h;obtain⟨v',h1,h2⟩:=re.pure j t h;exact⟨v',by rw[VI c];exact h1,h2⟩
 ·obtain⟨c,h⟩:=gE h;obtain⟨a,vs,h1,_⟩:=re.own j k xs h;exact⟨h,a,h1,by rw[VI c];exact h1⟩
def Kr(d:DD)(K:W.Frag)(n:Nat)(F:FA):TA:=λσ H Q=>mS d σ H/\cM K n F σ H Q
theorem QE.dd{X:Cx}{K:W.Frag}{d:DD}{e:oC}{Fa:FE}(h:QE X e (aH K Fa)):QE X e (lJ d K Fa):=h.le λ_ _ _ _ z=>z.2
theorem QA.dd{X:Cx}{K:W.Frag}{d:DD}{es:List oC}{Fr:FA}{n:Nat}(h:QA X es (cM K n Fr)):QA X es (Kr d K n Fr):=h.le λ_ _ _ z=>z.2
theorem DZ{X:Cx}{K:W.Frag}{d:DD}{e:oC}{es:List oC}{Fa:FE}{Fr:FA}{n:Nat}(ha:QE X e (lJ d K Fa))(hr:QA X es (Kr d K n Fr))(hs:a8 e=false:=by rfl):QA X (e::es) (Kr d K (n+1) (iD Fa Fr)):=by
 refine(qc ha hr hs).le λσ H Q zZ=>?_;obtain⟨dt,B,S,E,Q',⟨τ,hS⟩,re,hF,lk⟩:=zZ;refine⟨dt,B,S,E,_,⟨τ,hS⟩,re,hF,λr E1 v H1 S1 q g mz rr=>?_⟩;obtain⟨τ1,wc⟩:=g.pre;exact⟨dt.kp re g.kp,B,S1,E1,_,⟨τ++τ1,by rw[wc,hS,VH]⟩,mz,q,λrs E2 vs H2 S2 q2 g2 rn rr2 hn=>lk _ _ _ _ _ q2 (g.trans g2) rn ⟨v,vs,rfl,rr.step g2,rr2⟩ (by rw[VQ,hn])⟩
theorem Yc{X:Cx}{K:W.Frag}{d:DD}{pos:Pos}{e:oC}{es:List oC}{Fr:FA}{n k j:Nat}{x:Str}{ps:List Str}{S:dF}{p:Pos}(F:Fn X.prog X.w X.K X.mg X.base k x ps (aI K S))(hr:dN j X.A)(hk:k<=j)(hg:Gl X x)(ha:QA X (e::es) (Kr d K n Fr))(vw:(x==("__debug__":Str))=false:=by decide)(hs:bR (e::es)=true:=by rfl):QE X (.Call (.Name x p) (e::es) [] pos) (lJ d K (Cb S Fr)):=(zE F hr hk hg ha vw hs).le λ_ _ _ _ h=>⟨h.1,Ii h.2⟩
theorem QB.leL(h:QB X zk t)(m:∀D σ H,σ.length=X.N.length->t' D σ H->t D σ H):QB X zk t':=⟨λpins s σ H D I z=>h.h pins s σ H D I (m D σ H I.len z)⟩
end L2
namespace PySem
namespace F
end F
end PySem
namespace L2
open PySem PySem.Spec PyProof.Rows
structure OS(i:Nat)(mr:List (Key×V))(K:W.Frag)(B:fk->Prop)(H:Hp)(σ:St)(E:En)(DT:ET)(D:cX):Prop where
 nx:∀σ' H' E',DT.nx E'->Gs B H σ E H' σ' E'->RE K B H' σ' E'->Ib i mr σ' H'->D.nx σ' H'
 rt:∀r E' v H' S',DT.rt r E'->Gs B H σ E H' S' E'->RE K B H' S' E'->RR K B H' S' E' r v->D.rt v H'
 bk:∀σ' H' E',DT.bk E'->Gs B H σ E H' σ' E'->RE K B H' σ' E'->Ib i mr σ' H'->D.bk σ' H'
 ct:∀σ' H' E',DT.ct E'->Gs B H σ E H' σ' E'->RE K B H' σ' E'->Ib i mr σ' H'->D.ct σ' H'
theorem OS.step{i:Nat}{mr:List (Key×V)}{K:W.Frag}{B:fk->Prop}{H H':Hp}{σ σ':St}{E E':En}{DT:ET}{D:cX}(l:OS i mr K B H σ E DT D)(g:Gs B H σ E H' σ' E'):OS i mr K B H' σ' E' DT D:=
 ⟨λa b c d e=>l.nx a b c d (g.trans e),λa b c d e f h=>l.rt a b c d e f (g.trans h),λa b c d e=>l.bk a b c d (g.trans e),λa b c d e=>l.ct a b c d (g.trans e)⟩
def jP(i:Nat)(mr:List (Key×V))(K:W.Frag)(F:FS):TS:=λD σ H=>Ib i mr σ H/\∃B E DT,RE K B H σ E/\F DT E/\OS i mr K B H σ E DT D
theorem Ib.keep{K:W.Frag}{B:fk->Prop}{H:Hp}{H':Hp}{σ:St}{σ':St}{E:En}{i:Nat}{mr:List (Key×V)}(d:Ib i mr σ H)(re:RE K B H σ E)(k:∀b o,H b=oZ o->¬Ow B σ E b->H' b=oZ o)(h:σ'[i]?= σ[i]?):Ib i mr σ' H':=by
 obtain⟨p,h1,h2⟩:=d;exact⟨p,by rw[h];exact h1,k p _ h2 λz=>by obtain⟨vs,e⟩:=re.ow z;rw[h2]at e;cases e⟩
theorem tO{X:Cx}{K:W.Frag}{st:fq}{zk:List fq}{F:FS}{G:FS}{i:Nat}{mr:List (Key×V)}(h1:QS X st (jP i mr K F))(h2:QB X zk (jP i mr K G)):QB X (st::zk) (jP i mr K (Gw F G)):=
 (qS h1 h2).le λD σ H zZ=>by obtain⟨dt,B,E,DT,re,hF,l⟩:=zZ;exact⟨dt,B,E,_,re,hF,⟨λσ' H' E' hG g ni d'=>⟨d',B,E',DT,ni,dS hG,l.step g⟩,l.rt,l.bk,l.ct⟩⟩
theorem Ei{X:Cx}{K:W.Frag}{st:fq}{F:FS}{i:Nat}{mr:List (Key×V)}(h1:QS X st (jP i mr K F)):QB X [st] (jP i mr K F):=pN h1
theorem Xs{X:Cx}{K:W.Frag}{pos:Pos}{e:oC}{Fa:FE}{i:Nat}{mr:List (Key×V)}(h:QE X e (aH K Fa)):QS X (.Return (oZ e) pos) (jP i mr K (MW Fa)):=
 (Pb h).le λD σ H hl zZ=>by obtain⟨dt,B,E,DT,re,hF,l⟩:=zZ;exact⟨B,σ,E,_,⟨[],by simp⟩,re,hF,λr E' v H' S' q g ni rr=>l.rt r E' v H' S' q g.kp ni rr⟩
theorem P2{X:Cx}{K:W.Frag}{pos:Pos}{e:oC}{Fa:FE}{i:Nat}{mr:List (Key×V)}(he:QE X e (aH K Fa))(hs:ir e none pos.line X.env=pure false:=by rfl):QS X (.Expr e pos) (jP i mr K (F1 Fa)):=
 (xH he hs).le λD σ H hl zZ=>by obtain⟨dt,B,E,DT,re,hF,l⟩:=zZ;exact x8 (P:=λ_ _ E'=>DT.nx E') re hF λr E' v H' S' q g ni rr rn ow=>l.nx _ _ _ q (g.kp.trans (Kp.less ow)) rn (dt.keep re g.kp.keep rfl)
theorem Xt{X:Cx}{K:W.Frag}{pos:Pos}{e:oC}{Fa:FE}{i:Nat}{mr:List (Key×V)}{j:Nat}{x:Str}{pos':Pos}(hN:X.N.Nodup)(hi:X.N[j]?=oZ x)(hx:uG X.env.scope x)(he:QE X e (aH K Fa))(vz:j≠i)(hs:ir e (oZ (.Name x pos')) pos.line X.env=pure false:=by rfl)(hf:X.fn x=true\/X.env.scope.names.lookup x=oZ .local:=by first|exact .inl rfl|exact .inr rfl|assumption):QS X (.Assign [.Name x pos'] e pos) (jP i mr K (Kl j Fa)):=
 (Gp hN hi hx he hs hf).le λD σ H hl⟨dt,B,E,DT,re,hF,l⟩=>⟨B,σ,E,_,⟨[],by simp⟩,re,hF,λr E' v H' S' q g ni rr=>by
  obtain⟨u,e1,q⟩:=q.ex;rw[<-re.len]at e1 q;obtain⟨r1,ow⟩:=lH (i:=j) ni g.pre rr e1;exact l.nx _ _ _ q (g.kp.trans (Kp.less ow)) r1 (dt.keep re g.kp.keep (VI vz))⟩
theorem DV{X:Cx}{K:W.Frag}{body:List fq}{pos:Pos}{F:FS}{i:Nat}{mr:List (Key×V)}{j:Nat}{x:Str}{p1:Pos}{iter:oC}{I:FI}(hp:PassesOwn (ft X.prog X.w) X.A X.env X.xe)(hc:X.calm=true)(hi:QI X (.Name x p1) iter (lC K I))(hN:X.N.Nodup)(hj:X.N[j]?=oZ x)(hx:uG X.env.scope x)(hb:QB X body (jP i mr K F))(vz:j≠i)(hs:∀x,gw iter X.env x=pure x:=by intro _;rfl)(hf:X.fn x=true\/X.env.scope.names.lookup x=oZ .local:=by first|exact .inl rfl|exact .inr rfl|assumption):
  QS X (.For (.Name x p1) iter body [] pos) (jP i mr K (MU I (fZ j) F)):=by
 refine(Pa hp hc hi (m8 hN hj hx hf) hb hs).le λD σ H hl zZ=>?_;obtain⟨dt,B,E,DT,re,hF,l⟩:=zZ;refine⟨B,σ,E,_,⟨[],by simp⟩,re,hF,λJ items us E1 H1 S1 gd q g1 mz ok _ hgd=>?_⟩;obtain⟨E2,e2,q⟩:=q.ex;replace q:=dS q;obtain⟨f1,f2,f3,f4⟩:=w6 mz e2;obtain⟨c1,c2⟩:=f1.cut (E:=E) g1.pre re.len;have gs:Gs B H σ E H1 σ (E2.take E.length):=g1.kp.trans ((Kp.less f2).trans (Kp.less c2));have gd1:gd H1 (Ow B σ (E2.take E.length)):=hgd _ (λb z=>f2 b (c2 b z)) λj hj a ha z=>f3 j hj a ha (c2 a z);refine⟨λi' m σ' H'=>m=items.length-i'/\i'<=items.length/\∃E',gF (fZ j) F DT (items.drop i') E'/\Gs B H σ E H' σ' E'/\RE K B H' σ' E'/\gd H' (Ow B σ' E')/\Ib i mr σ' H',⟨_,rfl,UU _,_,q,gs,c1,gd1,dt.keep re gs.keep rfl⟩,?_⟩;rintro i' m σ2 H2 ⟨rfl,xt,E3,q3,g3,ud,xy,dt3⟩;obtain rk|hge:=WG i' items.length
 ·have hd:items.drop i'=items[i']::items.drop (i'+1):=WH rk;rw[hd]at q3;refine .inr ⟨ok.go i' H2 _ xy rk,λσ' H'=>∃E',gF (fZ j) F DT (items.drop (i'+1)) E'/\Gs B H σ E H' σ' E'/\RE K B H' σ' E'/\gd H' (Ow B σ' E')/\Ib i mr σ' H',λσ' H' zZ=>by obtain⟨E',z⟩:=zZ;exact⟨items.length-(i'+1),⋯,rfl,rk,E',z⟩,λy H4 yl=>?_⟩;obtain⟨k4,s4,rp⟩:=ok.yld i' H2 _ y H4 _ xy (UP rk) (λa z=>by obtain⟨vs,e⟩:=ud.ow z;rw[e];intro z;cases z) yl;have xx:=ud.kept s4;have gd4:=ok.keep _ _ _ _ k4 xy;obtain⟨xu,ow5⟩:=xx.setP (i:=j) rp;have q5:=dS (show uD (E3.set j (oZ (.p items[i']))) (F { DT with nx:=gF (fZ j) F DT (items.drop (i'+1)),ct:=gF (fZ j) F DT (items.drop (i'+1)),bk:=DT.nx })from q3);have g5:Gs B H4 σ2 E3 H4 (σ2.set j (oZ y)) (E3.set j (oZ (.p items[i']))):=Kp.less ow5;have gd5:=ok.keep _ _ _ _ g5 gd4;have gg:=(g3.trans k4).trans g5;have l5:=l.step gg;have dt5:Ib i mr (σ2.set j (oZ y)) H4:=dt3.keep ud (λb o e _=>s4 b o e) (VI vz);refine⟨dt5,B,_,_,xu,q5,?_⟩;exact⟨λσ' H' E' z g ni d'=>⟨E',z,gg.trans g,ni,ok.keep _ _ _ _ g gd5,d'⟩,l5.rt,λσ' H' E' z g ni d'=>l5.nx _ _ _ z g ni d',λσ' H' E' z g ni d'=>⟨E',z,gg.trans g,ni,ok.keep _ _ _ _ g gd5,d'⟩⟩
 ·have ei:i'=items.length:=⋯
  subst ei;rw[XQ]at q3;exact .inl ⟨ok.stop H2 _ xy,l.nx _ _ _ q3 g3 ud dt3⟩
end L2
namespace HT
open PySem PySem.Spec PyProof.Rows
end HT
namespace L2
open PySem PySem.Spec PyProof.Rows
def s1(x:Option T)(k:Str->Prop):Prop:=match x with
 |some (.str i)=>k i
 |_=>False
theorem s1.ex{k:Str->Prop}(h:s1 x k):∃i,x=oZ (.str i)/\k i:=by
 unfold s1 at h;split at h
 ·exact⟨_,rfl,h⟩
 ·exact h.elim
def s2(x y:Option T)(k:Str->Str->Prop):Prop:=match x,y with
 |some (.str i),oZ (.str j)=>k i j
 |_,_=>False
theorem s2.ex{k:Str->Str->Prop}(h:s2 x y k):∃i j,x=oZ (.str i)/\y=oZ (.str j)/\k i j:=by
 unfold s2 at h;split at h
 ·exact⟨_,_,rfl,rfl,h⟩
 ·exact h.elim
def si(x y:Option T)(k:Str->Int->Prop):Prop:=match x,y with
 |some (.str i),oZ (.int j)=>k i j
 |_,_=>False
theorem si.ex{k:Str->Int->Prop}(h:si x y k):∃i j,x=oZ (.str i)/\y=oZ (.int j)/\k i j:=by
 unfold si at h;split at h
 ·exact⟨_,_,rfl,rfl,h⟩
 ·exact h.elim
abbrev big:Nat:=1000000
theorem Xg(h:n<=big):n<=gf:=by rw[sizeLine_eq];unfold big at h;lia
theorem RE.str{K:W.Frag}{B:fk->Prop}{H:Hp}{S:St}{E:En}(re:RE K B H S E){r:R}{v:V}{i:Str}(h:RR K B H S E r v)(e:L2.vl E r=oZ (.str i)):v = .str i:=re.vl h e
section
variable{X:Cx}{K:W.Frag}{pos:Pos}{a b c e o:oC}{es:List oC}{Fa Fb Fc Fo:FE}{Fr:FA}
def JV(Fa Fb:FE):FE:=λE Q=>Fa E λx E1=>Fb E1 λy E2=>s2 (vl E2 x) (vl E2 y) λi j=>i.length+j.length<=big/\∀z,z=i++j->Q (.p (.str z)) E2
theorem wZ(ha:QE X a (aH K Fa))(hb:QE X b (aH K Fb)):QE X (.BinOp a .Add b pos) (aH K (JV Fa Fb)):=by
 refine(zG Oi ha hb).le λσ H Q hl h=>two h λB S E x y v w H2 Q' hS re rx ry q lk=>?_;obtain⟨i,j,e1,e2,c,q⟩:=q.ex;exact⟨i,j,re.str rx e1,re.str ry e2,Xg c,lk _ _ _ _ _ (q _ rfl) .refl re rfl⟩
theorem FU{n:Int}(h0:0<=n)(h:x.length*n.toNat<=big)(hn:n<=big):MulOk x n:=by
 unfold big at h hn;refine⟨?_,λh1 h2 h3=>?_,λh1 h2=>?_⟩
 ·rw[oX ⋯,oX ⋯];rfl
 ·have:(x.length:Int)*n<=1000000:=by
   have e:((x.length*n.toNat:Nat):Int)=(x.length:Int)*n:=by rw[Int.natCast_mul,Int.toNat_of_nonneg h0]
   lia
  have h5:(2^63-1)/n+1<=(x.length:Int):=⋯
  have h6:((2^63-1)/n+1)*n<=(x.length:Int)*n:=Int.mul_le_mul_of_nonneg_right h5 h0;have h7:(2^63-1)/n*n+(2^63-1)%n=2^63-1:=by rw[Int.mul_comm];exact Int.mul_ediv_add_emod _ _
  have h8:(2^63-1)%n<n:=ZF _ ⋯;rw[Int.add_mul,Int.one_mul]at h6
  lia
 ·unfold Builtin.Str.tooLong;exact oX (by rw[sizeLine_eq];lia)
theorem Ol:oP X (jc .Mult) (λx y H Q=>∃i j,x = .str i/\y = .int j/\MulOk i j/\Q (.str (Txt.mul i j)) H):=by
 intro pins s σ H x y v u Q I rx ry h;obtain⟨i,j,rfl,rfl,hm,q⟩:=h;obtain⟨t,rfl⟩:=rx;obtain⟨t',rfl⟩:=ry;exact SB.mul hm λt' k=>⟨.str _,H,I.tok _,⟨_,rfl⟩,q⟩
def KD(Fa Fb:FE):FE:=λE Q=>Fa E λx E1=>Fb E1 λy E2=>si (vl E2 x) (vl E2 y) λi j=>(0<=j/\j<=big/\i.length*j.toNat<=big)/\∀z,z=Txt.mul i j->Q (.p (.str z)) E2
theorem Rf(ha:QE X a (aH K Fa))(hb:QE X b (aH K Fb)):QE X (.BinOp a .Mult b pos) (aH K (KD Fa Fb)):=by
 refine(zG Ol ha hb).le λσ H Q hl h=>two h λB S E x y v w H2 Q' hS re rx ry q lk=>?_;obtain⟨i,j,e1,e2,⟨c1,c2,c3⟩,q⟩:=q.ex;exact⟨i,j,re.str rx e1,re.int ry e2,FU c1 c3 c2,lk _ _ _ _ _ (q _ rfl) .refl re rfl⟩
end
open Classical in
noncomputable def wJ (Z:fk->Prop) (H:Hp):Hp:=λb=>if Z b then none else H b
open Classical in
noncomputable def back (Z:fk->Prop) (H H':Hp):Hp:=λb=>if Z b then H b else H' b
theorem Yu{Z:fk->Prop}(h:Z b):wJ Z H b=none:=oV h
theorem pH{Z:fk->Prop}(h:¬Z b):wJ Z H b=H b:=oW h
theorem mF{Z:fk->Prop}(h:H b=none):wJ Z H b=none:=by unfold wJ;split<;>first|rfl|exact h
theorem Ve{Z:fk->Prop}(h:wJ Z H b=oZ o):¬Z b/\H b=oZ o:=by
 unfold wJ at h;split at h
 ·cases h
 ·rename_i n;exact⟨n,h⟩
theorem Lz{Z:fk->Prop}(h:Z b):back Z H H' b=H b:=oV h
theorem kL{Z:fk->Prop}(h:¬Z b):back Z H H' b=H' b:=oW h
def NA(sp:Sp):Sp:=λvs H Q E=>∃Z:fk->Prop,(∀c,Z c->∃us,H c=oZ (.lst us))/\sp vs (wJ Z H) (λv H'=>(∀c,Z c->H' c=none)->Q v (back Z H H')) E
theorem aS.frame{P:fu}{w:gn}{K:W.Frag}{mg:Str->Option oA}{base:oE}{k:Nat}{f:fk}{fd:ip}{ps:List Str}{sp:Sp}(F:aS P w K mg base cL k f fd ps sp):(~~~aS) cL k f fd ps (NA sp):=by
 refine⟨λvs H Q E zZ=>by obtain⟨Z,_,h⟩:=zZ;exact F.len _ _ _ _ h,λA outer s H args us vs Q E hr he hb hv⟨Z,hZ,hs⟩=>?_⟩;have nl:∀{b:fk}{o:HO},H b=oZ o->(∀us,o≠.lst us)->¬Z b:=λ{b o}h n z=>by
  obtain⟨us,e⟩:=hZ b z;rw[h]at e;cases e;exact n us rfl
 have he':Xa P w K mg base A outer s (wJ Z H):=⟨he.frames,he.mod,λb o q=>⟨(he.bs b o q).1,mF (he.bs b o q).2⟩,he.bsz,he.funs,λb m=>mF (he.frf b m),λa o e=>by
   obtain⟨n,e⟩:=Ve e;exact(he.hok a o e).stay (λ_ _ _ q=>q) (λb q=>by rw[pH (nl q λ_ z=>by cases z)];exact q) (λb xs q=>by rw[pH (nl q λ_ z=>by cases z)];exact q),he.bare⟩
 refine mh (F.run A outer s (wJ Z H) args us vs _ E hr he' hb hv hs) λr s' h=>?_;cases r with
 |error e=>exact h
 |ok fin=>
  cases fin with
  |ret u=>
   obtain⟨v,H1,h1,h2,un,ok,rv,q⟩:=h;have gone:∀c,Z c->H1 c=none:=λc z=>by
    obtain⟨us,e⟩:=hZ c z;obtain⟨_,mq,n,_,q⟩:=he.hok c _ e;exact un.free c _ q (Yu z) (by simp)
   refine⟨v,back Z H H1,h1,h2,⟨λb o q n=>un.keep b o q (mF n),λb o q n=>un.slot b o q (mF n),λb o q n x=>?_,un.there,λb xs q=>?_,λb o u q=>?_,λb ps q=>?_⟩,λa o e=>?_,rv,q gone⟩
   ·by_cases z:Z b
    ·rw[Lz z];exact n
    ·rw[kL z];exact un.free b o q (mF n) x
   ·have z:=nl q λ_ z=>by cases z
    rw[kL z];exact un.tups b xs (by rw[pH z];exact q)
   ·have z:=nl q λ_ z=>by cases z
    rw[kL z];exact un.frzs b o u (by rw[pH z];exact q)
   ·have z:=nl q λ_ z=>by cases z
    rw[kL z];exact un.tbls b ps (by rw[pH z];exact q)
   ·by_cases z:Z a
    ·rw[Lz z]at e;obtain⟨us,e'⟩:=hZ a z;rw[e]at e';cases e';obtain⟨y,mq,n,r,g⟩:=he.hok a _ e;refine⟨y,mq,n,r,un.keep a _ g (Yu z) (λm=>?_) (by simp)⟩;rw[he.frf a m]at e;cases e
    ·rw[kL z]at e;exact(ok a o e).stay (λ_ _ _ q=>q) (λb q=>by rw[kL λz=>by rw[gone b z]at q;cases q];exact q) (λb xs q=>by rw[kL λz=>by rw[gone b z]at q;cases q];exact q)
  |_=>exact h
theorem Fn.frame{P:fu}{w:gn}{K:W.Frag}{mg:Str->Option oA}{base:oE}{k:Nat}{x:Str}{ps:List Str}{sp:Sp}(F:Fn P w K mg base k x ps sp):(~~~Fn) k x ps (NA sp):=by
 obtain⟨f,fd,ok,h⟩:=F.ex;exact⟨⟨f,fd,ok.frame,h⟩⟩
def wF(K:W.Frag)(S:dF):Sp:=λvs H Q _=>∃(as:List A)(Q':RV->List T->Prop)(bx:Option fk),RE K (λa=>bx=oZ a) H (vs.map oZ) (k8 as)/\(kM as=none->bx=none)/\S as Q'/\
 ∀t xs v H',Q' (.v t) xs->(∀b o,H b=oZ o->bx≠oZ b->H' b=oZ o)->(∀a,bx=oZ a->∃ws,H' a=oZ (.lst ws)/\cP K H' (iC H') xs ws)->Rp K H' (λb=>bx=oZ b) t v->Q v H'
def lA(as:List A)(Q:RV->List T->Prop):ET where
 nx:=λ_=>False
 rt:=λr E=>o1 (yG as E) λxs=>match r with
  |.p t=>Q (.v t) xs
  |.s i=>match E[i]? with
   |some (↥ys)=>Q (.v (.lst ys)) xs
   |some (⇑t)=>Q (.v t) xs
   |_=>False
theorem cI.okL{P:fu}{w:gn}{K:W.Frag}{mg:Str->Option oA}{base:oE}{x qual:Str}{st:fq}{f:fk}{fd:ip}{N ps:List Str}{k:Nat}{S:dF}{F:FS}(Fn:cI K x qual st f fd)(Sc:aF N ps (aC st))(len:∀as Q,S as Q->as.length=ps.length)(hb:∀(qp:oA)(A:oD)(outer:List Env)(s:oB)(H:Hp)(E:XK),dN k (A.deeper (jv qual (aC st) s.heap.objs.size f qp))->QB (yK cL P w K mg base N qual (aC st) f qp A outer s H E).nox (cZ st) (eQ K F))(hF:∀as Q,S as Q->F (lA as Q) (k8 as++US (N.length-as.length) none)):(~~~aS) cL (k+1) f fd ps (wF K S):=by
 refine Fn.okQ Sc (λvs H Q E⟨as,Q',bx,re,hbn,hS,l⟩=>?_) (λqp A outer s H vs Q E hr⟨as,Q',bx,re,hbn,hS,l⟩=>?_)
 ·have:=re.len;rw[UX,eZ]at this;rw[this];exact len as Q' hS
 have hl:vs.length=as.length:=by have:=re.len;rwa [UX,eZ]at this
 refine⟨_,hb qp A outer s H E hr,?_⟩;obtain⟨re0,ow0⟩:=re.pad (N.length-as.length);have xw:k7 N vs=vs.map oZ++US (N.length-as.length) none:=by unfold k7;rw[hl]
 rw[xw]
 -- the box's address
 have aCP:∀b,Ow (λa=>bx=oZ a) (vs.map oZ) (k8 as) b->bx=oZ b:=λb z=>by
  obtain z|⟨i,kk,xs,h1,h2⟩:=z
  ·exact z
  obtain⟨a,ws,q1,_,_,q4⟩:=re.own i kk xs h1;rw[h2]at q1;cases q1;exact q4.mp (Qw h1)
 have fr:∀{H':Hp}{S':St}{E':En},Gs (λa=>bx=oZ a) H (vs.map oZ++US (N.length-as.length) none) (k8 as++US (N.length-as.length) none) H' S' E'->∀b o,H b=oZ o->bx≠oZ b->H' b=oZ o:=λg b o h n=>g.keep b o h λz=>n (aCP b (ow0 b z));have fin:∀{r:T}{xs:List T}{v:V}{H':Hp}{S':St}{E':En},yG as E'=oZ xs->Q' (.v r) xs->Gs (λa=>bx=oZ a) H (vs.map oZ++US (N.length-as.length) none) (k8 as++US (N.length-as.length) none) H' S' E'->RE K (λa=>bx=oZ a) H' S' E'->
   Rp K H' (λb=>bx=oZ b) r v->Q v H':=λ{r xs v H' S' E'}e q g ni hr=>by
  have hbx:∀a,bx=oZ a->∃ws,H' a=oZ (.lst ws)/\cP K H' (iC H') xs ws:=λa ha=>by
   unfold yG at e;cases qb:kM as with
   |none=>
    rw[qb]at e;cases e;rw[hbn qb]at ha;cases ha
   |some j=>
    rw[qb]at e;simp only at e;split at e
    ·rename_i ys hE;split at e
     ·cases e;rename_i hnl;obtain⟨b,ws,h1,h2,h3,h4⟩:=ni.own j true xs hE;have:bx=oZ b:=h4.mp rfl;rw[ha]at this;cases this;exact⟨ws,h2,cP.noL (λ_ z=>z) hnl h3⟩
     ·cases e
    ·cases e
  exact l r xs v H' q (fr g) hbx hr
 refine⟨_,_,_,re0,hF as Q' hS,⟨λ_ _ _ z=>z.elim,λr E' v H' S' q g ni rr=>?_,λ_ _ _ z=>z.elim,λ_ _ _ z=>z.elim⟩⟩;obtain⟨xs,e,q⟩:=q.ex;cases r with
 |p t=>exact fin e q g ni (Rp.step (Kp.less λb z=>.inl z) rr)
 |s i=>
  simp only at q;split at q
  ·rename_i ys hE;obtain⟨b,ws,h1,h2,h3,h4⟩:=ni.own i false ys hE;have rr':S'[i]?=oZ (oZ v):=rr;rw[rr']at h1;cases h1;exact fin e q g ni ⟨b,ws,rfl,.inl ⟨λz=>(by have:=h4.mpr z;cases this),.inl h2⟩,h3.step (Kp.less λb z=>.inl z)⟩
  ·rename_i t hE;obtain⟨w,h1,h2⟩:=ni.pure i t hE;have rr':S'[i]?=oZ (oZ v):=rr;rw[rr']at h1;cases h1;exact fin e q g ni (h2.step (Kp.less λb z=>.inl z))
  ·exact q.elim
def DX(S:dF)(Fr:FA):FE:=λE Q=>Fr E λrs E1=>match rs with
 |.s j::rs=>o1 (uN E1 rs) λz=>match z.2[j]? with
  |some (oZ (.o k xs))=>S (.b xs::z.1.map A.v) λr ys=>match r with
   |.v t=>Q (.p t) (z.2.set j (oZ (.o k ys)))
   |.l _=>False
  |_=>False
 |_=>False
theorem Ja{X:Cx}{K:W.Frag}{pos:Pos}{e:oC}{es:List oC}{Fr:FA}{n k j:Nat}{x:Str}{ps:List Str}{S:dF}{p:Pos}(F:Fn X.prog X.w X.K X.mg X.base k x ps (wF K S))(hr:dN j X.A)(hk:k<=j)(hg:Gl X x)(ha:QA X (e::es) (cM K n Fr))(vw:(x==("__debug__":Str))=false:=by decide)(hs:bR (e::es)=true:=by rfl):QE X (.Call (.Name x p) (e::es) [] pos) (aH K (DX S Fr)):=by
 refine(zE F.frame hr hk hg ha vw hs).le λσ H Q hl h=>args (Fr:=Fr) h λB S' E0 rs vs H2 Q' hS re0 rr hn q lk=>?_;rw[WJ];split at q
 ·rename_i jb rs';obtain⟨z,ez,q⟩:=o1.ex q;obtain⟨v0,ws,e2,h0,h2⟩:=rr;subst e2;obtain⟨re,owz,rp⟩:=m4 re0 h2 ez;obtain⟨ts,E⟩:=z;simp only at q re owz rp;split at q
  ·rename_i kb xs hE;have h0':S'[jb]?=oZ (oZ v0):=h0;obtain⟨a0,us,k1,k2,k3,k4⟩:=re.own jb kb xs hE;rw[h0']at k1;cases k1;have ow0:Ow B S' E a0:=.inr ⟨jb,kb,xs,hE,h0'⟩;have kpi:Kp (Ow B S' E) (λb=>b=a0) H2 (wJ (λb=>Ow B S' E b/\b≠a0) H2):=⟨λb o h n=>by rw[pH λz=>n z.1];exact h,λb z=>.inl (by rw[z];exact ow0)⟩;have get:∀{i:Nat}{u:U},(oZ (U.o true xs)::ts.map λt=>oZ (U.p t))[i]?=oZ (oZ u)->(i=0/\u = .o true xs)\/∃m t,i=m+1/\ts[m]?=oZ t/\u = .p t:=λ{i u}h=>by
    cases i with
    |zero=>simp at h;exact .inl ⟨rfl,h.symm⟩
    |succ m=>
     rw[ZL,UQ]at h;cases q:ts[m]? with
     |none=>rw[q]at h;cases h
     |some t=>rw[q]at h;simp at h;exact .inr ⟨m,t,rfl,q,h.symm⟩
   have ow:∀b,Ow (λc=>oZ a0=oZ c) ((V.ref a0::ws).map oZ) (k8 (A.b xs::ts.map A.v)) b->b=a0:=λb z=>by
    obtain z|⟨i,kk,ys,h3,h4⟩:=z
    ·cases z;rfl
    ·have h3':(oZ (U.o true xs)::ts.map λt=>oZ (U.p t))[i]?=oZ (oZ (U.o kk ys)):=by
      rw[<-h3];simp[k8,yL]
     obtain⟨c,z⟩|⟨m,t',e,q3,z⟩:=get h3'
     ·subst c;simp at h4;exact h4.symm
     ·cases z
   have enE:k8 (A.b xs::ts.map A.v)=oZ (U.o true xs)::ts.map λt=>oZ (U.p t):=by simp[k8,yL]
   have kpa:Kp (Ow B S' E) (Ow (λc=>oZ a0=oZ c) ((V.ref a0::ws).map oZ) (k8 (A.b xs::ts.map A.v))) H2 (wJ (λb=>Ow B S' E b/\b≠a0) H2):=⟨kpi.keep,λb z=>.inl (by rw[ow b z];exact ow0)⟩;have aFU:wJ (λb=>Ow B S' E b/\b≠a0) H2 a0=oZ (.lst us):=by rw[pH λz=>z.2 rfl];exact k2
   refine⟨λb=>Ow B S' E b/\b≠a0,λc z=>re.ow z.1,A.b xs::ts.map A.v,_,oZ a0,⟨by simp[k8,yL,rp.length],λi t h=>?_,λi kk ys h=>?_,λi i' kk l ys zs b h1 h3 _ _=>?_,λc z=>?_⟩,λz=>?_,q,λt ys v H1 q2 fr bxk rv gone=>?_⟩
   ·rw[enE]at h;obtain⟨_,z⟩|⟨m,t',e,q3,z⟩:=get h
    ·cases z
    ·cases z;subst e;obtain⟨v,h1,h3⟩:=rp.get q3;exact⟨v,by simp[h1],h3.step kpa⟩
   ·rw[enE]at h;obtain⟨c,z⟩|⟨m,t',e,q3,z⟩:=get h
    ·cases z;subst c;exact⟨a0,us,by simp,aFU,k3.step kpa,⟨λ_=>rfl,λ_=>rfl⟩⟩
    ·cases z
   ·rw[enE]at h1 h3;obtain⟨c,z⟩|⟨m,t',e,q3,z⟩:=get h1
    ·obtain⟨c',z'⟩|⟨m,t',e,q3,z'⟩:=get h3
     ·rw[c,c']
     ·cases z'
    ·cases z
   ·cases z;exact⟨us,aFU⟩
   ·simp[kM]at z
   ·obtain⟨ws',b1,b2⟩:=bxk a0 rfl;have hk0:∀b o,H2 b=oZ o->b≠a0->back (λb=>Ow B S' E b/\b≠a0) H2 H1 b=oZ o:=λb o z n=>by
     by_cases c:Ow B S' E b
     ·rw[Lz ⟨c,n⟩];exact z
     ·rw[kL λy=>c y.1];exact fr b o (by rw[pH λy=>c y.1];exact z) (by intro y;cases y;exact n rfl)
    have hb0:back (λb=>Ow B S' E b/\b≠a0) H2 H1 a0=oZ (.lst ws'):=by rw[kL λy=>y.2 rfl];exact b1
    have kpo:Kp (λb=>oZ a0=oZ b) (Ow B S' E) H1 (back (λb=>Ow B S' E b/\b≠a0) H2 H1):=⟨λb o z n=>by
      rw[kL λy=>by rw[gone b y]at z;cases z];exact z,λb z=>by
      by_cases c:b=a0
      ·exact .inl (by rw[c])
      ·exact .inr (gone b ⟨z,c⟩)⟩
    have kpb:Kp (iC H1) (Ow B S' E) H1 (back (λb=>Ow B S' E b/\b≠a0) H2 H1):=⟨λb o z n=>by
      rw[kL λy=>by rw[gone b y]at z;cases z];exact z,λb z=>by
      by_cases c:b=a0
      ·exact .inl (by rw[c];exact⟨_,b1⟩)
      ·exact .inr (gone b ⟨z,c⟩)⟩
    generalize back (λb=>Ow B S' E b/\b≠a0) H2 H1=H' at hk0 hb0 kpo kpb⊢;have hk:∀b o,H2 b=oZ o->¬Ow B S' E b->H' b=oZ o:=λb o z n=>hk0 b o z λc=>n (by rw[c];exact ow0);have zm:∀{i:Nat}{u:U},(E.set jb (oZ (.o kb ys)))[i]?=oZ (oZ u)->(i=jb/\u = .o kb ys)\/(i≠jb/\E[i]?=oZ (oZ u)):=λ{i u}h=>by
     by_cases c:i=jb
     ·subst c;rw[VM (UO.mp hE).1]at h;cases h;exact .inl ⟨rfl,rfl⟩
     ·rw[VI (λz=>c z.symm)]at h;exact .inr ⟨c,h⟩
    have kp:Kp (Ow B S' E) (Ow B S' E) H2 H':=⟨hk,λb z=>.inl z⟩;have owE:∀b,Ow B S' (E.set jb (oZ (.o kb ys))) b->Ow B S' E b:=λb z=>by
     obtain z|⟨i,k,zs,z1,z2⟩:=z
     ·exact .inl z
     obtain⟨c,z⟩|⟨c,z⟩:=zm z1
     ·subst c;exact .inr ⟨_,kb,xs,hE,z2⟩
     ·exact .inr ⟨i,k,zs,z,z2⟩
    have ni:RE K B H' S' (E.set jb (oZ (.o kb ys))):=by
     refine re.step hk (by simp) (λi t h=>?_) (λi k zs h=>?_) (λa z=>?_)
     ·obtain⟨_,z⟩|⟨_,z⟩:=zm h
      ·cases z
      ·exact z
     ·obtain⟨c,z⟩|⟨c,z⟩:=zm h
      ·cases z;subst c;refine⟨xs,hE,λa ha=>?_⟩;rw[h0']at ha;cases ha;exact⟨ws',hb0,b2.step kpb⟩
      ·refine⟨zs,z,λa ha=>?_⟩;obtain⟨a',us',p1,p2,p3,_⟩:=re.own i k zs z;rw[ha]at p1;cases p1;have na:a≠a0:=λw=>c (re.inj i jb k kb zs xs a0 z hE (by rw[<-w];exact ha) h0');exact⟨us',hk0 a _ p2 na,p3.step kp⟩
     ·by_cases c:a=a0
      ·rw[c];exact⟨_,hb0⟩
      ·obtain⟨us',e⟩:=re.bd a z;exact⟨us',hk0 a _ e c⟩
    exact lk _ _ _ _ _ q2 ⟨⟨λb o z n=>hk b o z λy=>n (owz b y),λb z=>.inl (owz b (owE b z))⟩,[],by simp⟩ ni (Rp.step (Kp.mk (λb o z n=>kpo.keep b o z n) λb z=>kpo.new b (owE b z)) rv)
  ·exact q.elim
 ·exact q.elim
section
variable{X:Cx}{K:W.Frag}{pos ap:Pos}{e o:oC}{es:List oC}{Fo:FE}{Fr:FA}{name:Str}{id:String}
def KH(G:Str->R->En->(R->En->Prop)->Prop)(Fo:FE)(Fr:FA):FE:=λE Q=>Fo E λx E1=>s1 (vl E1 x) λi=>Fr E1 λrs E2=>match rs with
 |[y]=>G i y E2 Q
 |_=>False
theorem EG{G:Str->R->En->(R->En->Prop)->Prop}{r:V->List V->Hp->VK->Prop}(slot:Slot "str" name id)(hty:typeOf (.builtin id)=pure (.type "method_descriptor"))(hm:IT X id r)(k:∀B S E i y w H2 Q' Q,RE K B H2 S E->RR K B H2 S E y w->G i y E Q'->Lk K B H2 S E Q' Q->r (.str i) [w] H2 Q)(ho:QE X o (aH K Fo))(ha:QA X [e] (cM K n Fr))(qg:iq o name X.env (ie o X.env)=ie o X.env:=by rfl)(qh:(ap.endLine==pos.line)=true:=by rfl)(hs:a8 e=false:=by rfl):
  QE X (.Call (.Attribute o name ap) [e] [] pos) (aH K (KH G Fo Fr)):=by
 refine QE.le ⟨Sb PySem.F.plainAttrs_str slot hty hm ho.h ha.h qg (by rw[cD hs];rfl) qh (cD hs) (fL rfl)⟩ λσ H Q hl h=>one (Fa:=Fo) h λB S E x v H2 Q' hS re rx q lk=>?_;obtain⟨i,e1,q⟩:=q.ex;have ev:=re.str rx e1;subst ev;refine⟨rfl,B,S,E,_,hS,re,q,λrs E2 vs H3 S3 q3 g ud rr hn=>?_⟩;obtain _|⟨y,_|⟨_,_⟩⟩:=rs
 ·exact False.elim q3
 ·obtain⟨w,ws,e2,h1,h2⟩:=rr;cases h2;subst e2;exact k B S3 E2 i y w H3 Q' Q ud h1 q3 (lk.step g)
 ·exact False.elim q3
def Su(l:List Str):List T:=l.map T.str
def lW:List T->Option (List Str)
 |[]=>oZ []
 |.str x::r=>(lW r).map (x::·)
 |_=>none
theorem Cz:∀{xs:List T}{l:List Str},lW xs=oZ l->xs=Su l
 |[],_,h=>by cases h;rfl
 |.str x::r,l,h=>by
  cases q:lW r with
  |none=>rw[lW,q]at h;cases h
  |some m=>
   rw[lW,q]at h;cases h;rw[Cz q];rfl
 |.non::_,_,h=>by cases h
 |.bl _::_,_,h=>by cases h
 |.int _::_,_,h=>by cases h
 |.tup _::_,_,h=>by cases h
 |.lst _::_,_,h=>by cases h
theorem Kv:∀l:List Str,lW (Su l)=oZ l
 |[]=>rfl
 |x::l=>by show(lW (Su l)).map (x::·)=_;rw[Kv l];rfl
def AY(i:Str)(y:R)(E:En)(Q:R->En->Prop):Prop:=match vl E y with
 |some (.lst xs)=>o1 (lW xs) λl=>JoinOk i l=true/\∀z,z=cg i l->Q (.p (.str z)) E
 |_=>False
theorem Dc:∀{l:List Str}{us:List oA},bC (l.map V.str) us->∃m:List (Str×Tok),us=strValues m/\m.map (·.1)=l
 |[],us,h=>by cases h;exact⟨[],rfl,rfl⟩
 |x::l,us,h=>by
  cases h with
  |cons h1 h2=>
   obtain⟨t,rfl⟩:=h1;obtain⟨m,rfl,e⟩:=Dc h2;exact⟨(x,t)::m,rfl,by rw[WQ,e]⟩
theorem Kk{O:fk->Prop}:∀{l:List Str}{vs:List V},cP K H O (Su l) vs->vs=l.map V.str
 |[],_,h=>h
 |x::l,_,⟨v,r,e,h1,h2⟩=>by
  have h1:v = .str x:=h1;rw[e,h1,Kk h2];rfl
theorem R8:IT X "str.join" (λx vs H Q=>∃i a l,x = .str i/\vs=[.ref a]/\k9 X.K H a (l.map V.str)/\JoinOk i l=true/\Q (.str (cg i l)) H):=by
 intro pins s σ H x vs v us Q I rx rv h;obtain⟨i,a,l,rfl,rfl,sq,hj,q⟩:=h;obtain⟨t,rfl⟩:=rx;obtain⟨u,rfl,ry⟩:=Am rv;cases ry;obtain⟨mq,r,pl,hz⟩:=I.list sq;obtain⟨m,rfl,e⟩:=Dc r;exact SC.join pl.isList e hj λt' k=>⟨.str _,H,I.tok _,⟨_,rfl⟩,q⟩
theorem Q0(eK:X.K=K)(ho:QE X o (aH K Fo))(ha:QA X [e] (cM K n Fr))(qg:iq o "join" X.env (ie o X.env)=ie o X.env:=by rfl)(qh:(ap.endLine==pos.line)=true:=by rfl)(hs:a8 e=false:=by rfl):QE X (.Call (.Attribute o "join" ap) [e] [] pos) (aH K (KH AY Fo Fr)):=by
 subst eK;refine EG PySem.F.slot_str_join PySem.F.type_str_join R8 (λB S E i y w H2 Q' Q re rr q lk=>?_) ho ha qg qh hs;unfold AY at q;split at q
 ·rename_i xs e1;obtain⟨l,e2,c,q⟩:=o1.ex q;rw[Cz e2]at e1;obtain⟨a,vs,rfl,sq,rs⟩:=re.vl rr e1;rw[Kk rs]at sq;exact⟨i,a,l,rfl,rfl,sq,c,lk _ _ _ _ _ (q _ rfl) .refl re rfl⟩
 ·exact q.elim
end
section
variable{X:Cx}{K:W.Frag}{pos:Pos}{a b c e o:oC}{es:List oC}{Fa Fb Fc Fo:FE}{Fr:FA}{Gl' Gh G:FO}
def JD(x:Str):It:=⟨λi _=>i<x.cps.size,λi H v H'=>H'=H/\∃c,x.cps[i]?=oZ c/\v = .str ⟨#[c]⟩,λi _=>i=x.cps.size⟩
theorem L7{P:fu}{w:gn}{tg:oC}(it:fk)(ty:String)(hty:ty = "str_ascii_iterator"\/ty = "str_iterator")(x:Str)(t:Tok):Lv P w K tg (JD x) [it] it (λi h=>h.IsStrIter it ty x t i) where
 mem:=by simp
 obj:=λi h st b hb=>by
  have e:b=it:=by simpa using hb
  subst e;obtain⟨o,e,c,d⟩:=st;exact⟨o,e,λv z=>by rw[d]at z;cases z⟩
 keep:=λi h h' st k=>let⟨o,ho,r⟩:=st;⟨o,k it (by simp) o ho,r⟩
 item:=by
  intro X hP hw hK hc i pins s σ H E I hf st hg;subst hP hw hK;have hg:i<x.cps.size:=hg;obtain⟨f0,f1,f2,f3,f4,f5⟩:=hf it (by simp);have hx:x.cps[i]?=oZ x.cps[i]:=by simp[hg]
  have fin:∀h',h'.IsStrIter it ty x t (i+1)->YS it s.heap h'->∃u,(oZ (YK ⟨#[x.cps[i]]⟩ s.toks))=oZ u/\fo (ft X.prog X.w) X.A (jt tg (.ref it) u) (λ_ s2=>∃y H',aW X pins σ H' s2/\bJ y u/\(JD x).yld i H y H'/\s2.heap.IsStrIter it ty x t (i+1)/\∀b∈[it],H' b=none) E { s with heap:=h',toks:=s.toks+1 }:=λh' st' sb=>by
   have I1:aW X pins σ H { s with heap:=h',toks:=s.toks+1 }:=I.turned (λb o hb e=>(sb.2 b hb).trans e) f0 f1 f3 f4 f5;obtain⟨o,e,c,d⟩:=id st';exact⟨_,rfl,Rk (s:={ s with heap:=h',toks:=s.toks+1 }) e c d (by rcases hty with rfl|rfl<;>decide) ⟨.str _,H,I1,⟨_,rfl⟩,⟨rfl,_,hx,rfl⟩,st',λb hb=>(hf b hb).1⟩⟩
  obtain rfl|rfl:=hty
  ·exact wpAny_pyNext_ascii_item st hx fin
  ·exact wpAny_pyNext_wide_item st hx fin
 done:=by
  intro X hP hw hK hc i pins s σ H E I hf st hg;subst hP hw hK;have hg:i=x.cps.size:=hg;subst hg;obtain⟨f0,f1,f2,f3,f4,f5⟩:=hf it (by simp);have fin:∀h',ag it s.heap h'->(none:Option oA)=none/\aW X pins σ H { s with heap:=h' }:=λh' eb=>⟨rfl,I.turned (t':=s.toks) (λb o hb e=>eb b o hb e) f0 f1 f3 f4 f5⟩;obtain rfl|rfl:=hty
  ·exact wpAny_pyNext_ascii_end (I.ok.hd hc) st (by simp) fin
  ·exact wpAny_pyNext_wide_end (I.ok.hd hc) st (by simp) fin
 self:=λ_ _ _ _ _ st h=>by
  obtain rfl|rfl:=hty
  ·exact wpAny_pyIter_striter_ascii st h
  ·exact wpAny_pyIter_striter_wide st h
def KY(tl:TE):TI:=λσ H R=>tl σ H λv H1=>∃x,v = .str x/\R (JD x) H1
theorem GW(hl:PE X l tl):PI X tg l (KY tl):=by
 intro pins s σ H R I h;refine dP (hl pins s σ H _ I h) λv s1 zZ=>?_;obtain⟨y,H1,I1,r1,x,e,q⟩:=zZ;subst e;obtain⟨t,rfl⟩:=r1;have fin:∀ty,(ty = "str_ascii_iterator"\/ty = "str_iterator")->OU X pins σ tg R (.ref s1.heap.objs.size) { s1 with heap:=s1.heap.push { cls:=.type ty,data:=.fields #[.str x t,.int 0 0] } }:=λty hty=>by
  refine⟨s1.heap.objs.size,[s1.heap.objs.size],_,_,H1,rfl,I1.kept (t':=s1.toks) λb o e=>UY _ e,L7 _ ty hty x t,⟨_,VF _ rfl,rfl,rfl⟩,λb hb=>?_,q⟩;have e:b=s1.heap.objs.size:=by simpa using hb
  subst e;exact I1.fpOk (VA _) (I1.hok.fresh (VA _))
 cases ha:x.cps.all (· < 128)
 ·exact wpAny_pyIter_wide ha (fin _ (.inr rfl))
 ·exact wpAny_pyIter_ascii ha (fin _ (.inl rfl))
def vQ(x:Str):List T:=x.cps.toList.map λc=>T.str ⟨#[c]⟩
theorem EY:Dm K (JD x) (vQ x) (λ_ _=>True):=by
 refine⟨λ_ _ _ _ _ h=>h,λi H O _ hi=>by show i<x.cps.size;simpa[vQ]using hi,λi H O v H' t _ e _ y=>?_,λH O _=>by simp[JD,vQ]⟩;obtain⟨e1,c,hc,ev⟩:=y;subst e1;subst ev;unfold vQ at e;rw[UQ,dz,hc]at e;cases e;exact⟨Kp.refl _ _,λ_ _ z=>z,rfl⟩
def iS(Fa:FE):FI:=λE Q=>Fa E λr E1=>s1 (vl E1 r) λx=>Q (vQ x) [] E1
theorem EH(hl:QE X l (aH K Fa)):QI X tg l (lC K (iS Fa)):=by
 refine QI.le (t:=KY (aH K Fa)) ⟨GW hl.h⟩ λσ H R hn⟨B,S,E,Q',hS,re,hF,lk⟩=>⟨B,S,E,_,hS,re,hF,λr E1 v H1 S1 q g mz rr=>?_⟩;obtain⟨x,e1,q⟩:=s1.ex q;exact⟨x,mz.str rr e1,lk _ _ _ _ _ _ _ q g mz EY (λj hj=>absurd hj (by simp)) λ_ _ _=>trivial⟩
end
end L2
namespace L2
open PySem PySem.Spec PySem.W PySem.Calls PyProof.Rows PySem.Builtin.ObjectAttr
end L2
namespace L2
open PySem PySem.Spec PySem.W PySem.Calls PyProof.Rows PySem.Builtin.ObjectAttr
end L2
namespace L2
open PySem PySem.Spec PySem.W PySem.Calls PyProof.Rows PySem.Builtin.ObjectAttr
end L2
namespace L2
open PySem PySem.Spec PySem.W PySem.Calls PyProof.Rows PySem.Builtin.ObjectAttr
end L2
namespace L2
open PySem PySem.Spec PySem.W PySem.Calls PyProof.Rows PySem.Builtin.ObjectAttr
variable{cb:Bool}
end L2
namespace L2
open PySem PySem.Spec PySem.W PySem.Calls PyProof.Rows PySem.Builtin.ObjectAttr
end L2
namespace L2
open PySem PySem.Spec PySem.W PySem.Calls PyProof.Rows PySem.Builtin.ObjectAttr
end L2
namespace L2
open PySem PySem.Spec PySem.NumText PyProof.Rows
end L2
namespace L2
open PySem PySem.Spec PySem.NumText PyProof.Rows
section
variable{X:Cx}{K:W.Frag}{pos:Pos}{o e:oC}{Fo:FE}{Fr:FA}
def SV(i:Nat)(Fa:FE):FS:=λD E=>Fa E λr E1=>match r with
 |.s j=>(match E1[j]? with
  |some (↥xs)=>D.nx ((E1.take E.length).set i none)\/D.nx (((E1.set j (⇑(.lst xs))).take E.length).set i (⇑(.lst xs)))
  |_=>False)
 |_=>False
def QV(Fo:FE)(Fr:FA):FE:=λE Q=>Fo E λo E1=>o1 (ownOf E1 o) λ_=>Fr E1 λrs E2=>match o with
 |.s j=>(match E2[j]? with
  |some (oZ (.o k xs))=>(match rs with
   |[r]=>i1 (vl E2 r) λi=>0<=i/\xs.length<=9000/\o1 (xs[i.toNat]?) λt=>Q (.p t) (E2.set j (oZ (.o k (xs.eraseIdx i.toNat))))
   |_=>False)
  |_=>False)
 |_=>False
theorem EF(eK:X.K=K)(ho:QE X o (aH K Fo))(ha:QA X [e] (cM K n Fr))(qg:iq o "pop" X.env (ie o X.env)=ie o X.env:=by rfl)(qh:(ap.endLine==pos.line)=true:=by rfl)(hs:a8 e=false:=by rfl):
  QE X (.Call (.Attribute o "pop" ap) [e] [] pos) (aH K (QV Fo Fr)):=
 QE.le (t:=IZ X.K "list" D6 (aH K Fo) (cM K n Fr)) ⟨Sb PySem.F.plainAttrs_list PySem.F.slot_list_pop PySem.F.type_list_pop Zo ho.h ha.h qg (by rw[cD hs];rfl) qh (cD hs) (fL rfl)⟩ λσ H Q hl h=>by
  subst eK;obtain⟨B,S,E,Q',⟨τ,hS⟩,re,hF,lk⟩:=h;refine⟨B,S,E,_,⟨τ,hS⟩,re,hF,λoo E1 v H1 S1 q g1 mz rx=>?_⟩;obtain⟨τ1,wc⟩:=g1.pre;obtain⟨xs0,e0,q⟩:=o1.ex q;obtain⟨j,k,p,vs,rfl,hE,hSj,rfl,h2,h3⟩:=mz.ownOf rx e0;refine⟨.inl ⟨rfl,vs,k9.of h2⟩,B,S1,E1,_,⟨τ++τ1,by rw[wc,hS,VH]⟩,mz,q,λrs E2 us H2 S2 q2 g2 rn rr hn=>?_⟩;have aB6:S2[j]?=oZ (oZ (.ref p)):=fW g2.pre hSj;simp only at q2;split at q2
  ·rename_i k2' xs hE2;split at q2
   ·rename_i r;obtain⟨y,ws,rfl,k1,rfl⟩:=rr;obtain⟨i,e1,i0,hz,q3⟩:=q2.ex;obtain⟨t,ht,q3⟩:=o1.ex q3;have ey:=rn.int k1 e1;subst ey;obtain⟨p',vs2,z1,z2,z3,_⟩:=rn.own j k2' xs hE2;rw[aB6]at z1;cases z1;have vl:=z3.length;obtain⟨g3,ud⟩:=rn.put (ys:=xs.eraseIdx i.toNat) (ws:=vs2.eraseIdx i.toNat) hE2 aB6 (by rw[ZR,ZR];exact(z3.take _).append (z3.drop _));obtain⟨v,hv,rp⟩:=z3.get ht;have hil:=(UO.mp ht).1;have sx:seqIndex? i vs2.length=oZ i.toNat:=by
     unfold seqIndex?;have h0:¬i<0:=⋯
     have h1:i<(vs2.length:Int):=⋯
     simp[h0,h1]
     try lia
    exact⟨p,vs2,i,i.toNat,v,rfl,rfl,z2,⋯,⋯,sx,hv,lk _ _ _ _ _ q3 ((g1.trans g2).trans g3) ud (rp.step g3.kp)⟩
   ·exact q2.elim
  ·exact q2.elim
end
def vU(t:Nat):List (Nat×Bool)->Nat->En->En->Option En
 |[],_,_,E=>oZ E
 |(_,false)::r,j,ve,E=>vU t r (j+1) ve E
 |(k,true)::r,j,ve,E=>match E[k]?,ve[t+j]? with
  |some (oZ (.o b _)),oZ (oZ (.o true ys))=>if bM ys=true then vU t r (j+1) ve (E.set k (oZ (.o b ys)))else none
  |_,_=>none
def Mm(t:Nat)(cap:List (Nat×Bool))(I:FI)(g:FG)(Fe:FE):FE:=λE Q=>I E λitems us E1=>cap.all (λk=>!(k.2&&us.contains k.1))=true/\
 j9 g Fe items (qZ t cap E1++[↥[]]) λve=>match ve[t+cap.length]? with
  |some (↥zs)=>bM zs=true/\o1 (vU t cap 0 ve E1) λE2=>Q (.s E2.length) (E2++[↥zs])
  |_=>False
abbrev G8(t:Nat)(K:W.Frag)(g:FG):TG:=Ks true t none K g
theorem sP{ve:En}{cap:List (Nat×Bool)}:∀{r:List (Nat×Bool)}{n:Nat}{E E2:En},(r.map (·.1)).Nodup->(∀j k c,r[j]?=oZ (k,c)->cap[n+j]?=oZ (k,c))->vU t r n ve E=oZ E2->
  E2.length=E.length/\∀(i:Nat)(u:U),E2[i]?=oZ (oZ u)->(∃(j:Nat)(b:Bool)(ys xs0:List T),r[j]?=oZ (i,true)/\E[i]?=oZ (oZ (.o b xs0))/\ve[t+(n+j)]?=oZ (oZ (.o true ys))/\bM ys=true/\u = .o b ys)\/(E[i]?=oZ (oZ u)/\∀(j:Nat)(b:Bool)(xs:List T),r[j]?=oZ (i,true)->E[i]?≠oZ (oZ (.o b xs)))
 |[],n,E,E2,_,_,h=>by cases h;exact⟨rfl,λi u h=>.inr ⟨h,λj b xs z=>by simp at z⟩⟩
 |(k,false)::r,n,E,E2,nd,hc,h=>by
  obtain⟨eL,eG⟩:=sP (cap:=cap) (r:=r) (n:=n+1) (WL.mp nd).2 (λj k c q=>by have:=hc (j+1) k c (by simpa using q);rwa [show n+(j+1)=n+1+j by lia]at this) h;refine⟨eL,λi u hu=>?_⟩;obtain⟨j,b,ys,xs0,q1,q2,q3,q4,q5⟩|⟨q1,q2⟩:=eG i u hu
  ·exact .inl ⟨j+1,b,ys,xs0,by simpa using q1,q2,by rwa [show n+(j+1)=n+1+j by lia],q4,q5⟩
  ·refine .inr ⟨q1,λj b xs z=>?_⟩;cases j with
   |zero=>simp at z
   |succ j=>exact q2 j b xs (by simpa using z)
 |(k,true)::r,n,E,E2,nd,hc,h=>by
  rw[vU]at h;split at h
  ·rename_i b xs0 ys hE hEi;split at h
   ·rename_i hny;obtain⟨eL,eG⟩:=sP (cap:=cap) (r:=r) (n:=n+1) (WL.mp nd).2 (λj k c q=>by have:=hc (j+1) k c (by simpa using q);rwa [show n+(j+1)=n+1+j by lia]at this) h;have nk:∀j c,r[j]?≠oZ (k,c):=λj c z=>(WL.mp nd).1 (XF.mpr ⟨(k,c),UR z,rfl⟩);have hk:k<E.length:=(UO.mp hE).1;refine⟨by rw[eL,XS],λi u hu=>?_⟩
    by_cases c:i=k
    ·subst c;obtain⟨j,b',ys',xs',q1,_⟩|⟨q1,q2⟩:=eG i u hu
     ·exact absurd q1 (nk j true)
     ·rw[VM hk]at q1;cases q1;exact .inl ⟨0,b,ys,xs0,rfl,hE,hEi,hny,rfl⟩
    ·have vz:(E.set k (oZ (.o b ys)))[i]?=E[i]?:=VI (λz=>c z.symm);obtain⟨j,b',ys',xs',q1,q2,q3,q4,q5⟩|⟨q1,q2⟩:=eG i u hu
     ·rw[vz]at q2;exact .inl ⟨j+1,b',ys',xs',by simpa using q1,q2,by rwa [show n+(j+1)=n+1+j by lia],q4,q5⟩
     ·rw[vz]at q1;refine .inr ⟨q1,λj b' xs z=>?_⟩;cases j with
      |zero=>simp at z;exact absurd z.symm c
      |succ j=>have:=q2 j b' xs (by simpa using z);rwa [vz]at this
   ·cases h
  ·cases h
theorem Up{X:Cx}{K:W.Frag}{Fe:FE}{g:FG}{I:FI}{scope:kh}{N':List Str}{cap:List (Nat×Bool)}{t:Nat}(S:bD X N' scope t (cap.map (·.1)))(hnd:(cap.map (·.1)).Nodup){σ:St}{H:Hp}{Q:VK}(hl:σ.length=X.N.length)(h:aH K (Mm t cap I g Fe) σ H Q):Dd t (cap.map (·.1)) (lC K I) (G8 t K g) (lJ none K Fe) σ H Q:=by
 unfold Mm at h;simp only[<-Eh]at h;exact La (Bv (W:=vU t cap 0) (FC:=λzs p=>bM zs=true/\p) (rr:=.l) (Qv:=Q) (d:=none) S (.inr ⟨rfl,rfl⟩) hnd (λ_ _ _ z=>(sP hnd (λj k c h=>by simpa using h) z).imp id λeG i u h=>by simpa using eG i u h) (λ_ _ z=>z.2) hl (λ_ _ _ z=>by cases z) (λzs D ws H1 H2 p hc hD h2 _ hn=>⟨_,⟨D,ws,rfl,hD,h2,hn hc.1⟩,id⟩) ⟨(λ_ z=>by cases z),h⟩)
theorem Yh{X:Cx}{K:W.Frag}{pos:Pos}{t i:Nat}{x:Str}(hN:X.N.Nodup)(hi:X.N[i]?=oZ x)(hx:uG X.env.scope x)(hf:X.fn x=true\/X.env.scope.names.lookup x=oZ .local:=by first|exact .inl rfl|exact .inr rfl|assumption)(ht:i<t:=by decide):QG X (.Name x pos) (G8 t K (fZ i)):=
 (m8 hN hi hx hf).le λv σ H Q hl zZ=>by
  obtain⟨_,B,τ,E,u,Q',re,rp,hF,l⟩:=zZ;have rk:i<σ.length:=by rw[hl];exact(UO.mp hi).1
  obtain⟨r1,ow⟩:=re.setP (i:=i) rp;rw[List.set_append_left _ _ rk]at r1 ow;exact l _ _ _ hF (Kp.less ow) r1 (by simp) (λ_ z=>by cases z) λ_ j hj=>VI ⋯
theorem dJ(a:sc.kind = .function:=by rfl)(b:sc.isCoroutine=false:=by rfl)(c:sc.isGenerator=false:=by rfl)(d:N.Nodup:=by decide +kernel)(e:N.take P.length=P:=by rfl)(f:∀x∈P,sc.names.lookup x=oZ .local\/sc.names.lookup x=oZ .cell:=by decide +kernel)(g:∀y∈sc.names,y.2≠.free:=by decide +kernel):aF N P sc:=⟨a,b,c,d,e,f,g⟩
theorem f1{X:Cx}{K:W.Frag}{Fa:FE}{e:oC}(a:QE X e (aH K Fa))(h:a8 e=false:=by rfl):QA X [e] (cM K (0+1) (iD Fa Dt)):=fc a bF h
theorem f2{X:Cx}{K:W.Frag}{Fa:FE}{Fb:FE}{e:oC}{e':oC}(a:QE X e (aH K Fa))(b:QE X e' (aH K Fb))(h:a8 e=false:=by rfl)(h':a8 e'=false:=by rfl):QA X [e,e'] (cM K (0+1+1) (iD Fa (iD Fb Dt))):=fc a (f1 b h') h
theorem f3{X:Cx}{K:W.Frag}{Fa:FE}{Fb:FE}{Fc:FE}{e:oC}{e':oC}{e1:oC}(a:QE X e (aH K Fa))(b:QE X e' (aH K Fb))(c:QE X e1 (aH K Fc))(h:a8 e=false:=by rfl)(h':a8 e'=false:=by rfl)(h1:a8 e1=false:=by rfl):QA X [e,e',e1] (cM K (0+1+1+1) (iD Fa (iD Fb (iD Fc Dt)))):=fc a (f2 b c h' h1) h
theorem f4{X:Cx}{K:W.Frag}{Fa:FE}{Fb:FE}{Fc:FE}{Fd:FE}{e:oC}{e':oC}{e1:oC}{e2:oC}(a:QE X e (aH K Fa))(b:QE X e' (aH K Fb))(c:QE X e1 (aH K Fc))(d:QE X e2 (aH K Fd))(h:a8 e=false:=by rfl)(h':a8 e'=false:=by rfl)(h1:a8 e1=false:=by rfl)(h2:a8 e2=false:=by rfl):QA X [e,e',e1,e2] (cM K (0+1+1+1+1) (iD Fa (iD Fb (iD Fc (iD Fd Dt))))):=fc a (f3 b c d h' h1 h2) h
theorem fX{X:Cx}{K:W.Frag}{pos:Pos}{Fa:FE}{Fb:FE}{e:oC}{e':oC}(a:QE X e (aH K Fa))(b:QE X e' (aH K Fb))(eK:X.K=K:=by rfl)(hs:wV e':=by exactλ_ _=>rfl):QE X (.Subscript e e' pos) (aH K (QL Fa Fb)):=AW eK a b hs
theorem fQ{X:Cx}{K:W.Frag}{pos:Pos}(i:Nat){x:Str}{n:Int}{j p p'}(hN:X.N[i]?=oZ x:=by rfl)(hv:O1 X.env.scope x:=by first|exact WA rfl|exact WN (WA rfl)|exact WN (WN rfl))(hd:(x==("__debug__":Str))=false:=by decide)(yn:(x==("__classdict__":Str))=false:=by decide)(eK:X.K=K:=by rfl):QE X (.Subscript (.Name x p) (.Constant (.int n) j p') pos) (aH K (QL (Iz i) (fC (.int n)))):=AW eK (fv i hN hv hd yn) aA λ_ _=>rfl
theorem fK{X:Cx}{K:W.Frag}{pos:Pos}{e:oC}{es:List oC}{n k j:Nat}{x:Str}{ps:List Str}{S:dF}{Fr:FA}{p:Pos}(F:Fn X.prog X.w X.K X.mg X.base k x ps (aI K S))(ha:QA X (e::es) (cM K n Fr))(hr:dN j X.A:=by assumption)(hk:k<=j:=by decide)(hg:Gl X x:=by rfl)(vw:(x==("__debug__":Str))=false:=by decide)(hs:bR (e::es)=true:=by rfl):QE X (.Call (.Name x p) (e::es) [] pos) (aH K (Cb S Fr)):=tQ F hr hk hg ha vw hs
theorem fB{X:Cx}{K:W.Frag}{pos:Pos}{e:oC}{es:List oC}{n k j:Nat}{x:Str}{ps:List Str}{S:dF}{Fr:FA}{p:Pos}(F:Fn X.prog X.w X.K X.mg X.base k x ps (aI K S))(ha:QA X (e::es) (cM K n Fr))(hr:dN j X.A:=by assumption)(hk:k<=j:=by decide)(hg:Gl X x:=by rfl)(vw:(x==("__debug__":Str))=false:=by decide)(hs:bR (e::es)=true:=by rfl):QE X (.Call (.Name x p) (e::es) [] pos) (aH K (Xx S Fr)):=fA F hr hk hg ha vw hs
theorem fS{X:Cx}{K:W.Frag}{pos:Pos}{Fa:FE}{e:oC}(i:Nat){x:Str}{pos':Pos}(hN:X.N.Nodup)(he:QE X e (aH K Fa))(hi:X.N[i]?=oZ x:=by rfl)(hx:uG X.env.scope x:=by first|exact .inl rfl|exact .inr rfl)(hs:ir e (oZ (.Name x pos')) pos.line X.env=pure false:=by rfl)(hf:X.fn x=true\/X.env.scope.names.lookup x=oZ .local:=by first|exact .inl rfl|exact .inr rfl):QS X (.Assign [.Name x pos'] e pos) (eQ K (Kl i Fa)):=Ms hN hi hx he hs hf
theorem fG{X:Cx}{K:W.Frag}{pos:Pos}(i:Nat){x:Str}(hN:X.N.Nodup)(hi:X.N[i]?=oZ x:=by rfl)(hx:uG X.env.scope x:=by first|exact .inl rfl|exact .inr rfl)(hf:X.fn x=true\/X.env.scope.names.lookup x=oZ .local:=by first|exact .inl rfl|exact .inr rfl):QG X (.Name x pos) (rC K (fZ i)):=jB hN hi hx hf
theorem fH{X:Cx}{K:W.Frag}{pos:Pos}(i:Nat){x:Str}{N':List Str}{scope C s3 H3 fp}(hN:N'.Nodup:=by decide +kernel)(hi:N'[i]?=oZ x:=by rfl)(hx:uG (aX X N' scope C s3 H3 fp).env.scope x:=by first|exact .inl rfl|exact .inr rfl)(hf:(aX X N' scope C s3 H3 fp).fn x=true\/(aX X N' scope C s3 H3 fp).env.scope.names.lookup x=oZ .local:=by first|exact .inl rfl|exact .inr rfl):QG (aX X N' scope C s3 H3 fp) (.Name x pos) (rC K (fZ i)):=jB hN hi hx hf
theorem fP{X:Cx}{K:W.Frag}{pos:Pos}{Fa:FE}{Fb:FE}{e:oC}{e':oC}{op:CmpOp}{g:Int->Int->Bool}(ho:oP X (ja op) (Wy λi j=>.bl (g i j)))(ha:QE X e (aH K Fa))(hb:QE X e' (aH K Fb))(hm:ik op e'=false:=by exact aZ _):QT X (.Compare e [op] [e'] pos) (i8 K (Dx (QH g Fa Fb))):=AX ho ha hb hm
theorem cI.okU{P:fu}{w:gn}{K:W.Frag}{mg:Str->Option oA}{base:oE}{x qual:Str}{st:fq}{f:fk}{fd:ip}{N ps:List Str}{k:Nat}{S:dF}{F:FS}(Fn:cI K x qual st f fd)(Sc:aF N ps (aC st))
  (hb:∀{qp:oA}{A:oD}{outer:List Env}{s:oB}{H:Hp}{E:XK},dN k (A.deeper (jv qual (aC st) s.heap.objs.size f qp))->QB (yK cL P w K mg base N qual (aC st) f qp A outer s H E).nox (cZ st) (eQ K F))
  (hF:∀as Q,S as Q->F (JS as Q) (k8 as++US (N.length-as.length) none)) (len:∀as Q,S as Q->as.length=ps.length:=by intro as Q h;(repeat obtain⟨_,h⟩:=h);all_goals (subst as;rfl)):(~~~aS) cL (k+1) f fd ps (aI K S):=Fn.okT Sc len (λ_ _ _ _ _ _ h=>hb h) hF
theorem Ur{X:Cx}{pins:List (fk×Obj)}{σ:St}{H:Hp}{s:oB}{a:fk}{v:V}{u:oA}{r:oA}{A:oD}{E:oA->oB->Prop}{mr:List (Key×V)}{k:Key}{Q:Unit->oB->Prop}(l:mr.length<gf)(I:aW X pins σ H s)(e:H a=oZ (.dK mr))(ry:bJ (kV k) u)(rv:bJ v r)(h:∀s',aW X pins σ (upd H a (.dK (uX mr k v))) s'->Q () s'):
  fo (ft X.prog X.w) A (dictSet a u r) Q E s:=by
 obtain⟨z,hd,vs,rel,dd⟩:=JQ I.hok e;have hz:vs.length<=gf:=by rw[<-rel.length];exact z
 have hl:(uX mr k v).length<=gf:=by have:=wB mr k v;lia
 refine wpAny_dictSet_pairs (hsz:=hz) (Jg ry) dd λh' dd' hs=>h _ ?_;have he:∃q,h'.get? a=oZ q:=let⟨q,_,_,hq,_⟩:=dd';⟨q,hq⟩;exact P0 I (by rw[e];exact True.intro) hs he (DS hl hd (rel.put k rv) dd')
def DN(J:It)(D:fk)(g:TG)(tb:TT)(tk tv:TE)(Q:VK)(σ:St)(H:Hp):Prop:=∃W:Nat->Nat->St->Hp->Prop,(∃m,W 0 m σ H)/\∀i m σ' H',W i m σ' H'->
 (J.stop i H'/\Q (.ref D) H')\/(J.go i H'/\∀x H2,J.yld i H' x H2->g x σ' H2 λσ3 H3=>tb σ3 H3 λok H3'=>if ok=true then tk σ3 H3' λy H4=>tv σ3 H4 λz H5=>∃k mr,y=kV k/\H5 D=oZ (.dK mr)/\mr.length<gf/\∃m',m'<m/\W (i+1) m' σ3 (upd H5 D (.dK (uX mr k z)))else ∃m',m'<m/\W (i+1) m' σ3 H3')
def J6(t:Nat)(cap:List Nat)(wi:TI)(g:TG)(tb:TT)(tk tv:TE):TE:=λσ H Q=>wi σ H λJ H1=>∀D,H1 D=none->DN J D g tb tk tv Q (h9 t cap σ) (upd H1 D (.dK []))
theorem B7(hc:X.calm=true)(S:bD X N' scope t cap)(hi:PI X target iter wi)(hg:∀C s3 H3 fp,PG (aX X N' scope C s3 H3 fp) target g)(hb:∀C s3 H3 fp,O0 (aX X N' scope C s3 H3 fp) ifs tb)(he:∀C s3 H3 fp,PE (aX X N' scope C s3 H3 fp) kx tk)(hv:∀C s3 H3 fp,PE (aX X N' scope C s3 H3 fp) vx tv)(hs:∀x,gw iter X.env x=pure x:=by intro _;rfl):
  PE X (.DictComp kx vx [⟨target,iter,ifs,0⟩] scope pos) (J6 t cap wi g tb tk tv):=by
 intro pins s σ H Q I h;rw[arm_eval_DictComp];exact Bu (n0:=0) (ty:="dict") (data:=.dict #[]) (ho:=.dK []) (EC:=λD env=>do
   let kv <-ie kx env
   let vv <-jd [kv] (ie vx env)
   standAt { kx.pos with endLine:=vx.pos.endLine,endCol:=vx.pos.endCol }
   jd [kv,vv] (dictSet D kv vv)) (tel:=λD σ H R=>tk σ H λy H4=>tv σ H4 λz H5=>∃k mr,y=kV k/\H5 D=oZ (.dK mr)/\mr.length<gf/\R (upd H5 D (.dK (uX mr k z)))) hc S hi hg hb hs I (UU _) rfl (UU _)
  (λI2=>I2.laid (t':=_) (λb u e=>UY _ e) (VA _) (Xp _ I2.big))
  (λC s3 H3 fp D pins s σ H R Q I p z k=>fm (dP (he C s3 H3 fp pins s σ H _ I z) λy s9⟨v9,H9,I9,r9,w9⟩=>fm (iu (dP (hv C s3 H3 fp pins s9 σ H9 _ I9 w9) λy2 s10 zZ=>by
   obtain⟨v10,H10,I10,r10,kk,mr,ek,hD,rk,hr⟩:=zZ;subst ek;exact fm (jq (iu (Ur (X:=aX X N' scope C s3 H3 fp) (A:=X.A) (E:=λ_ _=>False) rk I10 hD r9 r10 λs' I'=>k _ _ I' (UU _) hr)))))))
  (λ_ _ _=>rfl) (λ_ _ _=>rfl) codeAny_compStart_dict h λs3 s6 H3 H5 fp D m I3 f3 hn' un6 zj wb os6 ba qn=>Ir I3 f3 hn' un6 zj wb os6 ba qn
abbrev di(i:Nat)(mr:List (Key×V)):DD:=oZ (i,mr)
theorem dO(h:Ib i mr σ H):mS (di i mr) σ H:=λx e=>by cases e;exact h
theorem Ib.gr{K:W.Frag}{B:fk->Prop}{H:Hp}{H':Hp}{σ:St}{S:St}{S':St}{E:En}{E':En}{i:Nat}{mr:List (Key×V)}(d:Ib i mr σ H)(re:RE K B H S E)(g:Gr B H S E H' S' E'):Ib i mr σ H':=by
 obtain⟨p,h1,h2⟩:=d;exact⟨p,h1,g.kp.keep p _ h2 λz=>by obtain⟨vs,e⟩:=re.ow z;rw[h2]at e;cases e⟩
theorem G6{K:W.Frag}{H:Hp}{σ:St}{i:Nat}{mr:List (Key×V)}{Fa:FE}{Q P:VK}(d:Ib i mr σ H)(h:aH K Fa σ H Q)(k:∀v J,Ib i mr σ J->Q v J->P v J):aH K Fa σ H P:=by
 obtain⟨B,S,E,Q',hS,re,hF,lk⟩:=h;exact⟨B,S,E,Q',hS,re,hF,λr E' v H' S' q g ni rr=>k _ _ (d.gr re g) (lk r E' v H' S' q g ni rr)⟩
section
variable{X:Cx}{K:W.Frag}{pos:Pos}{c e o:oC}{es:List oC}{b1 b2:List fq}{Fa Fo:FE}{Fp:FB}{Fr:FA}{F G:FS}{i n:Nat}{mr:List (Key×V)}
theorem bd(h:QT X e (i8 K Fp)):QT X e (Cv (di i mr) K Fp):=h.le λ_ _ _ z=>z.2
def JY(mr:List (Key×V))(Fa:FE):FE:=λE Q=>Fa E λr E1=>i1 (vl E1 r) λn=>∃z,j6 mr (Sum.inl n)=oZ (.str z)/\Q (.p (.str z)) E1
theorem Yf(hr:dN k X.A)(hiy:X.N[i]?=oZ y)(hvy:O1 X.env.scope y)(he:QE X e (aH K Fa))(hsl:Xd e)(hd:(y==("__debug__":Str))=false:=by decide)(yn:(y==("__classdict__":Str))=false:=by decide):
  QE X (.Subscript (.Name y p1) e pos) (lJ (di i mr) K (JY mr Fa)):=by
 refine QE.le (t:=BZ (wU i) (aH K Fa)) ⟨V1 (BB hr) (uU hiy hvy hd yn) he.h hsl⟩ λσ H Q hl zZ=>?_;obtain⟨d',B,S,E,Q',hS,re,hF,lk⟩:=zZ;have d:=d' _ rfl;obtain⟨p,d1,d2⟩:=id d;refine⟨.ref p,d1,B,S,E,_,hS,re,hF,λr E1 v H1 S1 q g mz rr=>?_⟩;obtain⟨n,e1,z,e2,q⟩:=i1.ex q;obtain⟨p',d3,d4⟩:=d.gr re g;rw[d1]at d3;cases d3;have ev:v = .int n:=mz.int rr e1;subst ev;have dg:=Dl.k (k:=Sum.inl n) d4;rw[e2]at dg;exact⟨p,.str z,rfl,dg,lk _ _ _ _ _ q g mz rfl⟩
def PU(mr:List (Key×V))(Fa:FE):FB:=λE Q=>Fa E λr E1=>i1 (vl E1 r) λn=>Q (j6 mr (Sum.inl n)).isSome E1
theorem EN(hr:dN k X.A)(hiy:X.N[i]?=oZ y)(hvy:O1 X.env.scope y)(he:QE X e (aH K Fa))(hd:(y==("__debug__":Str))=false:=by decide)(yn:(y==("__classdict__":Str))=false:=by decide)(h1:ik .In (.Name y p1)=false:=by first|exact nobehind _ ∅ ∅|rfl):QT X (.Compare e [.In] [.Name y p1] pos) (Cv (di i mr) K (PU mr Fa)):=by
 refine QT.le (t:=tB (NG (aH K Fa) (wU i))) ⟨HG (GJ (BB hr) he.h (uU hiy hvy hd yn)) h1⟩ λσ H Q zZ=>?_;obtain⟨d',B,S,E,Q',hS,re,hF,lk⟩:=zZ;have d:=d' _ rfl;refine⟨B,S,E,_,hS,re,hF,λr E1 v H1 S1 q g mz rr=>?_⟩;obtain⟨n,e1,q⟩:=i1.ex q;obtain⟨p,d1,d2⟩:=d.gr re g;have ev:v = .int n:=mz.int rr e1;subst ev;exact⟨.ref p,d1,p,_,rfl,Dl.k (k:=Sum.inl n) d2,_,rfl,lk _ _ _ _ q g mz⟩
theorem Mo(eK:X.K=K)(ho:QE X o (aH K Fo))(ha:QA X [e] (Kr (di i mr) K n Fr))(qg:iq o "append" X.env (ie o X.env)=ie o X.env:=by rfl)(qh:(ap.endLine==pos.line)=true:=by rfl)(hs:a8 e=false:=by rfl):
  QE X (.Call (.Attribute o "append" ap) [e] [] pos) (lJ (di i mr) K (Ej JJ Fo Fr)):=by
 subst eK;refine(uY ho ha qg qh hs).le λσ H Q hl zZ=>?_;obtain⟨d',h⟩:=zZ;have d:=d' _ rfl;have m:IZ X.K "list" Gq (aH X.K Fo) (cM X.K n Fr) σ H Q:=Zm rfl h λB S E H2 xs ys rr y p vs Q re rx e hp hv hz k=>by
  cases rr with
  |s _=>cases e
  |p t=>
   cases e;refine⟨p,vs,y,rfl,rfl,hp,?_,k _ (hv.append ⟨y,[],rfl,rx,rfl⟩)⟩;rw[hv.length];simp only[UT,VL]at hz;exact bS ⋯
 exact G6 d m λv H' d' z=>⟨z.1,dO d',z.2⟩
theorem Xr(he:QE X e (lJ (di i mr) K Fa))(hs:ir e none pos.line X.env=pure false:=by rfl):QS X (.Expr e pos) (jP i mr K (F1 Fa)):=
 (xH he hs).le λD σ H hl zZ=>by obtain⟨dt,B,E,DT,re,hF,l⟩:=zZ;exact⟨dO dt,x8 (P:=λ_ _ E'=>DT.nx E') re hF λr E' v H' S' q g ni rr rn ow=>l.nx _ _ _ q (g.kp.trans (Kp.less ow)) rn (dt.keep re g.kp.keep rfl)⟩
theorem AU(hc:QT X c (Cv (di i mr) K Fp))(ha:QB X b1 (jP i mr K F))(hb:QB X b2 (jP i mr K G)):QS X (.If c b1 b2 pos) (jP i mr K (PB Fp F G)):=
 (D4 hc ha hb).le λD σ H hl⟨dt,B,E,DT,re,hF,l⟩=>⟨dO dt,uH (P:=λb E'=>if b=true then uD E' (F DT)else uD E' (G DT)) re hF λb H' E' q g ni=>by
  have dt':=dt.keep re g.keep rfl;cases b
  ·exact⟨dt',B,E',DT,ni,dS q,l.step g⟩
  ·exact⟨dt',B,E',DT,ni,dS q,l.step g⟩⟩
theorem Xo:QB X [] (jP i mr K zK):=Ox.le λD σ H zZ=>by obtain⟨dt,B,E,DT,re,hF,l⟩:=zZ;exact l.nx _ _ _ hF (Kp.refl _ _) re dt
end
abbrev JG:=List A->(List (Key×V)->Prop)->Prop
def Sq(K:W.Frag)(S:JG):Sp:=λvs H Q _=>∃(as:List A)(Q':List (Key×V)->Prop),RE K (λa=>(none:Option fk)=oZ a) H (vs.map oZ) (k8 as)/\kM as=none/\S as Q'/\
 ∀mr a H',Q' mr->H a=none->(∀b o,H b=oZ o->H' b=oZ o)->H' a=oZ (.dK mr)->Q (.ref a) H'
def RJ(x:Int×Str):T:=.tup [.int x.1,.str x.2]
def N2(c:Str):List (Int×Str)->List (Key×V)->List (Key×V)
 |[],acc=>acc
 |x::r,acc=>N2 c r (if x.2=c then acc else uX acc (Sum.inl x.1) (.str x.2))
theorem tN{x:Int×Str}:∀{xs:List (Int×Str)}{acc:List (Key×V)},N2 c (xs++[x]) acc=if x.2=c then N2 c xs acc else uX (N2 c xs acc) (Sum.inl x.1) (.str x.2)
 |[],acc=>rfl
 |y::xs,acc=>tN (xs:=xs)
theorem Qs:∀{xs:List (Int×Str)}{acc:List (Key×V)},(N2 c xs acc).length<=acc.length+xs.length
 |[],_=>VA _
 |x::xs,acc=>by
  have ih:=Qs (c:=c) (xs:=xs) (acc:=if x.2=c then acc else uX acc (Sum.inl x.1) (.str x.2));have:=wB acc (Sum.inl x.1:Key) (.str x.2);unfold N2;rw[VQ];split at ih<;>(rename_i h;first|rw[oV h]|rw[oW h])<;>lia
section
variable{X:Cx}{K:W.Frag}{pos:Pos}{Fa:FE}
def SW(K:W.Frag)(c:Str)(Fa:FE):TE:=λσ H Q=>∃B S E Q',(∃τ,S=σ++τ)/\RE K B H S E/\Fa E Q'/\∀r E1 v H1 S1,Q' r E1->Gr B H S E H1 S1 E1->RE K B H1 S1 E1->RR K B H1 S1 E1 r v->
 ∃items,vl E1 r=oZ (.lst (items.map RJ))/\items.length<=9000/\∀a,H1 a=none->Q (.ref a) (upd H1 a (.dK (N2 c items [])))
theorem MJ{x1 c1 p1 p2 pt p3 p4 p5 p6 pcm}(eK:X.K=K)(hc:X.calm=true)(hr:∀C s3 H3 fp,dN k (aX X [x,y] scope C s3 H3 fp).A)(hi:QE X iter (aH K Fa))(S:bD X [x,y] scope 2 [])(hg:∀C s3 H3 fp,Tx (aX X [x,y] scope C s3 H3 fp) [.Name x p1,.Name y p2] (Ci (n8 0) (Ci (n8 1) Q7)))(hg1:∀C s3 H3 fp,(gv [.Name x p1,.Name y p2] (aX X [x,y] scope C s3 H3 fp).env).length=2:=by intros;rfl)(hg2:∀C s3 H3 fp,(gv [.Name x p1,.Name y p2] (aX X [x,y] scope C s3 H3 fp).env).findIdx? (·.1)=none:=by intros;rfl)(h1:∀C s3 H3 fp,QE (aX X [x,y] scope C s3 H3 fp) (.Name x p3) (wU 0))(h2:∀C s3 H3 fp,QE (aX X [x,y] scope C s3 H3 fp) (.Name y p4) (wU 1))(h3:∀C s3 H3 fp,QE (aX X [x,y] scope C s3 H3 fp) (.Name y p5) (wU 1))(hs:∀z,gw iter X.env z=pure z:=by intro _;rfl)(hm:ik .NotEq (.Constant (.str c) c1 p6)=false:=by rfl):
  QE X (.DictComp (.Name x p3) (.Name y p4) [⟨.Tuple [.Name x p1,.Name y p2] x1 pt,iter,[.Compare (.Name y p5) [.NotEq] [.Constant (.str c) c1 p6] pcm],0⟩] scope pos) (SW K c Fa):=by
 subst eK;refine QE.le (t:=J6 2 [] (Yv X.K (aH X.K Fa)) (ER X.K 2 (Ci (n8 0) (Ci (n8 1) Q7))) (K5 (Wr (X7 X.K true) (wU 1) (tC (.str c)))) (wU 0) (wU 1))
  ⟨B7 hc S (Se hi.h) (λC s3 H3 fp=>(Gn (X:=aX X [x,y] scope C s3 H3 fp) (k:=x1) hc (hg C s3 H3 fp) (hg1 C s3 H3 fp) (hg2 C s3 H3 fp)).h) (λC s3 H3 fp=>PT.one (Sh (A6 (hr C s3 H3 fp)) (h3 C s3 H3 fp).h Gj hm)) (λC s3 H3 fp=>(h1 C s3 H3 fp).h) (λC s3 H3 fp=>(h2 C s3 H3 fp).h) hs⟩ λσ H Q hl⟨B,S,E,Q',hS,re,hF,lk⟩=>?_
 refine⟨B,S,E,_,hS,re,hF,λr E1 v H1 S1 q g mz rr=>?_⟩;obtain⟨items,e1,hl,q⟩:=lk r E1 v H1 S1 q g mz rr;obtain⟨a,vs,rfl,sq,rs⟩:=mz.vl rr e1;refine⟨a,rfl,⟨vs,sq⟩,λD hD=>?_⟩;have nd:∀{b:fk}{u:HO}{z},H1 b=oZ u->(upd H1 D z) b=oZ u:=λe=>by rw[aV (a9 e hD)];exact e
 have sqL:∀z,k9 X.K (upd H1 D z) a vs:=λz=>sq.imp (λh=>h.imp nd λzZ=>by obtain⟨o,h⟩:=zZ;exact⟨o,nd h⟩) id;refine⟨λi m σ' H'=>m=items.length-i/\i<=items.length/\σ'.length=2/\H'=upd H1 D (.dK (N2 c (items.take i) [])),⟨_,rfl,UU _,rfl,rfl⟩,?_⟩;rintro i m σ' H' ⟨rfl,xt,hσ,rfl⟩;obtain lt|ge:=WG i items.length
 ·have lv:vs.length=items.length:=by rw[rs.length,UX]
  refine .inr ⟨⟨vs,vs[i],sqL _,UP _⟩,?_⟩;rintro w H2 ⟨rfl,hw⟩;obtain⟨v',q1,q2⟩:=rs.get (i:=i) (x:=RJ items[i]) (by rw[UQ,UP lt];rfl);rw[hw vs (sqL _)]at q1;cases q1;obtain⟨b,us,rfl,sq2,⟨_,_,e3,a1,_,_,e4,a2,a3⟩⟩:=q2.sqT;cases a3;cases a2;cases a1;subst e4;subst e3;have sqT:∀z,xZ X.K (upd H1 D z) b [.int items[i].1,.str items[i].2]:=λz=>sq2.imp (λh=>h.imp nd λzZ=>by obtain⟨o,h⟩:=zZ;exact⟨o,nd h⟩) id;refine⟨b,_,rfl,sqT _,rfl,_,_,rfl,_,_,rfl,rfl,?_⟩;have g0:((σ'.set 0 (oZ (V.int items[i].1))).set 1 (oZ (V.str items[i].2)))[0]?=oZ (oZ (.int items[i].1)):=by rw[VI ∅];exact VM ⋯
  have g1:((σ'.set 0 (oZ (V.int items[i].1))).set 1 (oZ (V.str items[i].2)))[1]?=oZ (oZ (.str items[i].2)):=VM (by simp;lia);have snoc:items.take (i+1)=items.take i++[items[i]]:=by rw[XT,UP lt];rfl
  refine⟨_,g1,.str items[i].2,.str c,rfl,rfl,by simp[dT],_,rfl,?_⟩;have ee:dG (.str items[i].2) (.str c)=decide (items[i].2=c):=by
   show(items[i].2==c)=_;exact Bool.beq_eq_decide_eq _ _
  rw[oV rfl,ee]
  by_cases z:items[i].2=c
  ·rw[oY z];refine⟨items.length-(i+1),⋯,rfl,lt,by simpa using hσ,?_⟩;rw[snoc,tN,oV z]
  ·rw[oX z];refine⟨_,g0,_,g1,Sum.inl items[i].1,_,rfl,cR,?_,items.length-(i+1),⋯,rfl,lt,by simpa using hσ,?_⟩
   ·have:=Qs (c:=c) (xs:=items.take i) (acc:=[]);rw[WE]at this;simp only[df]at this;exact bS ⋯
   ·rw[AJ,snoc,tN,oW z]
 ·refine .inl ⟨⟨vs,sqL _,by rw[rs.length,UX];exact ge⟩,?_⟩;rw[XM ge];exact q D hD
end
theorem Y0{K:W.Frag}{B:fk->Prop}{H:Hp}{S:St}{E:En}{rs:List R}{vs:List V}{ts:List T}(re:RE K B H S E)(rr:Tz K B H S E rs vs)(e:N5 E rs=oZ ts):RE K (λa=>(none:Option fk)=oZ a) H (vs.map oZ) (k8 (ts.map A.v)):=by
 have rp:=Fh re rr e (λ_=>False) (λ_ z=>z.elim) (λ_ _ _ _ _ _ z=>z);have no:∀b,¬Ow (λa=>(none:Option fk)=oZ a) (vs.map oZ) (ts.map λt=>oZ (U.p t)) b:=λb z=>by
  obtain z|⟨i,k,xs,h1,_⟩:=z
  ·cases z
  rw[UQ]at h1;cases q:ts[i]? with
  |none=>rw[q]at h1;cases h1
  |some t=>rw[q]at h1;cases h1
 rw[yL];refine⟨by simp[rp.length],λi t h=>?_,λi k xs h=>?_,λi j k l xs ys a h _ _ _=>?_,λa z=>by cases z⟩
 all_goals
  rw[UQ]at h;cases q:ts[i]? with
  |none=>rw[q]at h;cases h
  |some u=>
   rw[q]at h;cases h
   try
    obtain⟨v,h1,h2⟩:=rp.get q;exact⟨v,by rw[UQ,h1];rfl,h2.step (Kp.less λb z=>no b z)⟩
section
variable{X:Cx}{K:W.Frag}{zk:List fq}{pos:Pos}{e:oC}{es:List oC}{Fr:FA}{i:Nat}{G:List (Key×V)->FS}
def HZ(S:JG)(Fr:FA)(i:Nat)(G:List (Key×V)->FS):FS:=λD E=>Fr E λrs E1=>o1 (N5 E1 rs) λts=>S (ts.map A.v) λmr=>G mr D ((E1.take E.length).set i none)
theorem Xn{n k j:Nat}{x f:Str}{ps:List Str}{S:JG}{p p' pc:Pos}(F:Fn X.prog X.w X.K X.mg X.base k f ps (Sq K S))(hr:dN j X.A)(hk:k<=j)(hg:Gl X f)(ha:QA X (e::es) (cM K n Fr))(hN:X.N.Nodup)(hi:X.N[i]?=oZ x)(hx:uG X.env.scope x)(aFV:∀mr,QB X zk (jP i mr K (G mr)))
  (vw:(f==("__debug__":Str))=false:=by decide) (xw:bR (e::es)=true:=by rfl) (hs:ir (.Call (.Name f p) (e::es) [] pc) (oZ (.Name x p')) pos.line X.env=pure false:=by rfl) (hf:X.fn x=true\/X.env.scope.names.lookup x=oZ .local:=by first|exact .inl rfl|exact .inr rfl|assumption) :
  QB X (.Assign [.Name x p'] (.Call (.Name f p) (e::es) [] pc) pos::zk) (eQ K (HZ S Fr i G)):=by
 refine(qS (u:=λD σ H=>∃mr,jP i mr K (G mr) D σ H) (Gp hN hi hx (zE F hr hk hg ha vw xw) hs hf) ⟨λpins s σ H D I zZ=>by obtain⟨mr,z⟩:=zZ;exact(aFV mr).h pins s σ H D I z⟩).leL λD σ H hl⟨B,E,DT,re,hF,l⟩=>?_;refine⟨B,σ,E,_,⟨[],by simp⟩,re,hF,λrs E1 vs H1 S1 q g mz rr hn=>?_⟩;obtain⟨ts,e1,q⟩:=q.ex;rw[WJ];refine⟨ts.map A.v,_,Y0 mz rr e1,Qn,q,λmr a H' q2 _ kp ha=>⟨mr,?_⟩⟩;obtain⟨c1,c2⟩:=mz.cut (E:=E) g.pre re.len;have c3:RE K B H' σ (E1.take E.length):=c1.kept kp;obtain⟨c4,c5⟩:=c3.setN (i:=i) (v:=.ref a);have gk:Kp (Ow B σ (E1.take E.length)) (Ow B σ (E1.take E.length)) H1 H':=⟨λb o e _=>kp b o e,λb z=>.inl z⟩;have gg:Gs B H σ E H' (σ.set i (oZ (.ref a))) ((E1.take E.length).set i none):=g.kp.trans ((Kp.less c2).trans (gk.trans (Kp.less c5)));have li:i<σ.length:=by rw[hl];exact(UO.mp hi).1
 refine⟨⟨a,VM li,ha⟩,B,_,DT,c4,q2,?_⟩;exact⟨λσ' H' E' z g' ni _=>l.nx _ _ _ z (gg.trans g') ni,λr E' v H' S' z g' ni rr=>l.rt _ _ _ _ _ z (gg.trans g') ni rr,λσ' H' E' z g' ni _=>l.bk _ _ _ z (gg.trans g') ni,λσ' H' E' z g' ni _=>l.ct _ _ _ z (gg.trans g') ni⟩
end
theorem cI.okD{P:fu}{w:gn}{K:W.Frag}{mg:Str->Option oA}{base:oE}{x qual c:Str}{st:fq}{f:fk}{fd:ip}{N ps:List Str}{k:Nat}{S:JG}{Fa:FE}{e:oC}{pos:Pos}(Fn:cI K x qual st f fd)(Sc:aF N ps (aC st))(hbd:cZ st=[.Return (oZ e) pos])(len:∀as Q,S as Q->as.length=ps.length)(hb:∀(qp:oA)(A:oD)(outer:List Env)(s:oB)(H:Hp)(E:XK),dN k (A.deeper (jv qual (aC st) s.heap.objs.size f qp))->QE (yK cL P w K mg base N qual (aC st) f qp A outer s H E).nox e (SW K c Fa))(hF:∀as Q,S as Q->Fa (k8 as++US (N.length-as.length) none) λr E1=>∃items,vl E1 r=oZ (.lst (items.map RJ))/\items.length<=9000/\Q (N2 c items [])):(~~~aS) cL (k+1) f fd ps (Sq K S):=by
 refine Fn.okQ Sc (λvs H Q E⟨as,Q',re,hbn,hS,l⟩=>?_) (λqp A outer s H vs Q E hr⟨as,Q',re,hbn,hS,l⟩=>?_)
 ·have:=re.len;rw[UX,eZ]at this;rw[this];exact len as Q' hS
 have hl:vs.length=as.length:=by have:=re.len;rwa [UX,eZ]at this
 refine⟨_,by rw[hbd];exact pN (Pb (hb qp A outer s H E hr)),?_⟩;obtain⟨re0,ow0⟩:=re.pad (N.length-as.length);have xw:k7 N vs=vs.map oZ++US (N.length-as.length) none:=by unfold k7;rw[hl]
 rw[xw];have no:∀b,¬Ow (λa=>(none:Option fk)=oZ a) (vs.map oZ) (k8 as) b:=λb z=>by
  obtain z|⟨i,kk,xs,h1,h2⟩:=z
  ·cases z
  ·exact yD hbn h1
 refine⟨_,_,_,_,⟨[],by simp⟩,re0,hF as Q' hS,λr E1 v H1 S1 q g mz rr=>?_⟩;obtain⟨items,e1,h2,q⟩:=q;refine⟨items,e1,h2,λa ha=>?_⟩;have kp:∀b o,H b=oZ o->H1 b=oZ o:=λb o h=>g.kp.keep b o h λz=>no b (ow0 b z);refine l _ a _ q ?_ (λb o h=>by rw[aV (a9 (kp b o h) ha)];exact kp b o h) cR;cases e:H a with
 |none=>rfl
 |some o=>have:=kp a o e;rw[ha]at this;cases this
end L2
namespace L2
open PySem PySem.Spec PySem.W PySem.Calls PyProof.Rows PySem.SeqAt
theorem Yd{X:Cx}{K:W.Frag}{pos:Pos}{Fe:FE}{g:FG}{I:FI}{target elt iter:oC}{scope:kh}{N':List Str}{cap:List (Nat×Bool)}{t:Nat}(hc:X.calm=true)(S:bD X N' scope t (cap.map (·.1)))(hnd:(cap.map (·.1)).Nodup)(hi:QI X target iter (lC K I))(hg:∀C s3 H3 fp,QG (aX X N' scope C s3 H3 fp) target (G8 t K g))(he:∀C s3 H3 fp,QE (aX X N' scope C s3 H3 fp) elt (aH K Fe))(hs:∀x,gw iter X.env x=pure x:=by intro _;rfl):
  QE X (.ListComp elt [⟨target,iter,[],0⟩] scope pos) (aH K (Mm t cap I g Fe)):=
 (Sj hc S hi hg (λC s H f=>(he C s H f).ed) hs).le λσ H Q hl h=>Up S hnd hl h
structure uF(mg:Str->Option oA)(w:gn)(K:W.Frag)(x k1 v1 k2 v2 k3 v3:Str):Prop where
 ex:∃(a:fk)(t1 t2 t3 t4 t5 t6:Tok)(n:Nat),mg x=oZ (.ref a)/\K.lookup a=oZ { cls:=.type "dict",data:=.dict #[⟨hashStr w k1,.str k1 t1,.str v1 t2⟩,⟨hashStr w k2,.str k2 t3,.str v2 t4⟩,⟨hashStr w k3,.str k3 t5,.str v3 t6⟩] n }
 ne:k1≠k2/\k1≠k3/\k2≠k3
def wC(k1 v1 k2 v2 k3 v3 z:Str):Option Str:=if z=k1 then oZ v1 else if z=k2 then oZ v2 else if z=k3 then oZ v3 else none
def CB(k1 v1 k2 v2 k3 v3:Str)(ty:TE):TE:=λσ H Q=>ty σ H λy H2=>∃z v,y=V.str z/\wC k1 v1 k2 v2 k3 v3 z=oZ v/\Q (V.str v) H2
section
variable{X:Cx}{K:W.Frag}{pos pos':Pos}{Fi:FE}{x k1 v1 k2 v2 k3 v3:Str}{i:oC}{ty:TE}
theorem V2(hg:Gl X x)(c:uF X.mg X.w X.K x k1 v1 k2 v2 k3 v3)(hi:PE X i ty)(hs:Xd i)(hd:(x==("__debug__":Str))=false:=by decide):PE X (.Subscript (.Name x pos) i pos') (CB k1 v1 k2 v2 k3 v3 ty):=by
 obtain⟨a,t1,t2,t3,t4,t5,t6,n,h1,h2⟩:=c.ex;obtain⟨n12,n13,n23⟩:=c.ne;intro pins s σ H Q I h;refine Sv PySem.F.slot_dict_getitem.lookup hs (dP (Sd (v:=.ref a) hg h1 rfl hd pins s σ H (λv H1=>v = .ref a/\H1=H) I ⟨rfl,rfl⟩) λu s1 zZ=>?_);obtain⟨x',H1,I1,rx,q1⟩:=zZ;obtain⟨rfl,rfl⟩:=q1;refine dP (hi pins s1 σ H1 _ I1 h) λiv s2 zZ=>?_;obtain⟨y,H2,I2,ry,z,v,ey,ev,q2⟩:=zZ;subst ey;obtain rfl:u=WR a:=rx;have dd:s2.heap.DictOf (fU X.prog X.w) a [((Sum.inr k1:Key),YK v1 t2),(Sum.inr k2,YK v2 t4),(Sum.inr k3,YK v3 t6)]:=by
  refine⟨_,_,_,I2.kIn a _ h2,⟨rfl,rfl,rfl⟩,rfl,λe he=>?_,?_,?_⟩
  ·have he':e∈[(⟨hashStr X.w k1,.str k1 t1,.str v1 t2⟩:DictEntry),⟨hashStr X.w k2,.str k2 t3,.str v2 t4⟩,⟨hashStr X.w k3,.str k3 t5,.str v3 t6⟩]:=by simpa using he
   obtain rfl|he':=UZ.mp he'
   ·exact⟨Sum.inr k1,fE _ _ _ _,rfl⟩
   obtain rfl|he':=UZ.mp he'
   ·exact⟨Sum.inr k2,fE _ _ _ _,rfl⟩
   ·rw[VS]at he';subst he';exact⟨Sum.inr k3,fE _ _ _ _,rfl⟩
  ·exact .cons (fE _ _ _ _) rfl (.cons (fE _ _ _ _) rfl (.cons (fE _ _ _ _) rfl .nil))
  ·have a12:(Sum.inr k1:Key)≠Sum.inr k2:=λe=>n12 (Sum.inr.inj e);have a13:(Sum.inr k1:Key)≠Sum.inr k3:=λe=>n13 (Sum.inr.inj e);have a23:(Sum.inr k2:Key)≠Sum.inr k3:=λe=>n23 (Sum.inr.inj e);simp only[WQ,List.map_nil,WL,UZ,WW,or_false,not_false_eq_true,fb,and_true,not_or];exact⟨⟨a12,a13⟩,a23⟩
 refine⟨dd.typeIs,?_⟩;have hv:∃t,valueAt [((Sum.inr k1:Key),YK v1 t2),(Sum.inr k2,YK v2 t4),(Sum.inr k3,YK v3 t6)] (Sum.inr z)=oZ (.str v t):=by
  unfold wC at ev;unfold valueAt
  by_cases e1:z=k1
  ·rw[oV e1]at ev;cases ev;exact⟨t2,by simp[e1]⟩
  ·rw[oW e1]at ev
   by_cases e2:z=k2
   ·rw[oV e2]at ev;cases ev;exact⟨t4,by simp[e2,n12]⟩
   ·rw[oW e2]at ev
    by_cases e3:z=k3
    ·rw[oV e3]at ev;cases ev;exact⟨t6,by simp[e3,n13,n23]⟩
    ·rw[oW e3]at ev;cases ev
 obtain⟨t,hv⟩:=hv;exact wpAny_getItem_of (Jg (k:=Sum.inr z) ry) dd.mapOf hv ⟨V.str v,H2,I2.tok _,⟨t,rfl⟩,q2⟩
def JX(k1 v1 k2 v2 k3 v3:Str)(Fi:FE):FE:=λE Q=>Fi E λy E2=>z1 (vl E2 y) λz=>o1 ((wC k1 v1 k2 v2 k3 v3 z).map T.str) λt=>Q (.p t) E2
theorem Rb(eK:X.K=K)(hg:Gl X x)(c:uF X.mg X.w K x k1 v1 k2 v2 k3 v3)(hi:QE X i (aH K Fi))(hs:Xd i)(hd:(x==("__debug__":Str))=false:=by decide):QE X (.Subscript (.Name x pos) i pos') (aH K (JX k1 v1 k2 v2 k3 v3 Fi)):=by
 subst eK;refine QE.le (t:=CB k1 v1 k2 v2 k3 v3 (aH X.K Fi)) ⟨V2 hg c hi.h hs hd⟩ λσ H Q hlen zZ=>?_;obtain⟨B,S,E,Q',hS,re,hF,lk⟩:=zZ;refine⟨B,S,E,_,hS,re,hF,λy E4 w H4 S4 q4 g4 xx ry=>?_⟩;obtain⟨z,e1,q4⟩:=z1.ex q4;obtain⟨t,e2,q4⟩:=o1.ex q4;have ew:_=V.str z:=xx.vl ry e1;subst ew;cases hv:wC k1 v1 k2 v2 k3 v3 z with
 |none=>rw[hv]at e2;cases e2
 |some v=>
  rw[hv]at e2;cases e2;exact⟨z,v,rfl,hv,lk _ _ _ _ _ q4 g4 xx rfl⟩
end
theorem By{prog:fu}{w:gn}{A:oD}{E:oA->oB->Prop}{it t:fk}{items:Array oA}(vz:t≠it):∀(n i:Nat)(s:oB)(Q:List oA->oB->Prop),s.heap.IsListIter it t i->s.heap.IsList t items->i+n<=items.size->
  (∀h':oE,h'.IsListIter it t (i+n)->YS it s.heap h'->Q ((items.toList.drop i).take n) { s with heap:=h' })->fo (ft prog w) A (draw (.ref it) n) Q E s
 |0,i,s,Q,hit,_,_,hQ=>by
  show fo _ _ (pure []) Q E s;exact fz (by simpa using hQ s.heap hit (Heap.SameBut.refl ..))
 |n+1,i,s,Q,hit,ht,hle,hQ=>by
  have rk:i<items.size:=⋯
  show fo _ _ (pyNext (.ref it) >>= _) Q E s;refine fm (wpAny_pyNext_list_item hit ht (x:=items[i]) (by simp[rk]) λh₁ hit₁ hs₁=>?_);refine fm (iu (By vz n (i+1) _ _ hit₁ (ht.extBut hs₁.extBut vz) ⋯ λh₂ hit₂ hs₂=>fz ?_));have hd:items.toList.drop i=items[i]::items.toList.drop (i+1):=by simp[WH,rk]
  have:=hQ h₂ (by rw[show i+(n+1)=i+1+n by lia];exact hit₂) (hs₁.trans hs₂);rw[hd,List.take_succ_cons]at this;exact this
theorem vT{A:oD}{E:oA->oB->Prop}{s:oB}{items:Array oA}{Q:List oA->oB->Prop}(hh:A.handled=none)(ht:s.heap.IsList t items)(hQ:∀h',ag s.heap.objs.size s.heap h'->Q items.toList { s with heap:=h' }):fo (ft prog w) A (unpackItems (.ref t) items.size none) Q E s:=by
 have rk:t≠s.heap.objs.size:=by obtain⟨o,ho,_⟩:=ht;exact VY (VD ho)
 unfold unpackItems;refine fm ?_
 ·unfold notIterableAtAll;refine fm (wpAny_specialOf ht.typeIs F.slot_list_iter.lookup ?_);refine fz ?_;simp only[ZC,if_false];refine fm (iu (wpAny_pyIter_list ht ?_));refine fm (iu (By rk items.size 0 _ _ ⟨_,VF _ rfl,rfl,rfl⟩ (ht.push _) ⋯ λh₁ hit₁ hs₁=>?_));have aBY:XB items.size (List.drop 0 items.toList)=items.toList:=by
   rw[List.drop_zero];exact XM (by simp)
  rw[aBY];rw[oW (by simp)];have ht₁:h₁.IsList t items:=(ht.push _).extBut hs₁.extBut rk;refine fm (iu (wpAny_pyNext_list_end hh hit₁ ht₁ (by simp) λh₂ he₂=>?_));simp only[Option.isSome_none,ZC,if_false];refine fz (hQ h₂ λb o hb e=>he₂ b o hb (hs₁.extBut b o hb (UY _ e)))
theorem tI{A:oD}{E:oA->oB->Prop}{s:oB}{x1}{items:Array oA}{Q:Unit->oB->Prop}(hh:A.handled=none)(ht:s.heap.IsList t items)(hn:(gv elts env).length=items.size)(aFW:(gv elts env).findIdx? (·.1)=none)(h:∀h',ag s.heap.objs.size s.heap h'->fo (ft prog w) A (jz ((gv elts env).map (·.2)) items.toList) Q E { s with heap:=h' }):
  fo (ft prog w) A (jg (.Tuple elts x1 pos) env (.ref t)) Q E s:=by
 rw[assign_Tuple];refine fm (jq ?_);unfold unpack;rw[hn,aFW];exact fm (iu (vT hh ht h))
def AZ(K:W.Frag)(n:Nat)(t:AO):TG:=λv σ H Q=>∃a xs,v = .ref a/\k9 K H a xs/\xs.length=n/\t xs σ H Q
theorem V5(hc:X.calm=true)(h:IU X es t)(hn:(gv es X.env).length=n:=by rfl)(xw:(gv es X.env).findIdx? (·.1)=none:=by rfl):PG X (.Tuple es k pos) (AZ X.K n t):=by
 intro pins s σ H v u Q I r hw;obtain⟨a,xs,e1,hq,hl,hw⟩:=hw;subst e1;cases r;obtain⟨mq,rv,ht,hz⟩:=I.list hq;refine tI (I.ok.hd hc) (PlainL.isList ht) (by simp[hn,<-hl,rv.length]) xw λh' hx=>?_;have I1:aW X pins σ H { s with heap:=h' }:=I.kept (t':=s.toks) λb o e=>hx b o (VY (VD e)) e;exact h pins _ σ H xs _ Q I1 (by simpa using rv) hw
section
variable{X:Cx}{K:W.Frag}{pos:Pos}{es:List oC}{gs:AN}
def LF(n:Nat)(gs:AN):FG:=λt E Q=>match t with
 |.lst ts=>cond (fe ts.length n) (gs ts E Q) False
 |_=>False
theorem Rg(eK:X.K=K)(hc:X.calm=true)(h:Tx X es (Cw K gs))(hn:(gv es X.env).length=n:=by rfl)(xw:(gv es X.env).findIdx? (·.1)=none:=by rfl):QG X (.Tuple es k pos) (rC K (LF n gs)):=by
 subst eK;refine QG.le (t:=AZ X.K n (Cw X.K gs)) ⟨V5 hc h.h hn xw⟩ λv σ H Q hl zZ=>?_;obtain⟨B,τ,E,t,Q',re,rp,hF,l⟩:=zZ;cases t with
 |lst ts=>
  have hF':cond (fe ts.length n) (gs ts E Q') False:=hF;cases q:fe ts.length n with
  |false=>rw[q]at hF';exact hF'.elim
  |true=>
   rw[q]at hF';obtain⟨p,vs,e1,sq,rs⟩:=rp.sqL;exact⟨p,vs,e1,sq,by rw[rs.length];exact Nat.eq_of_beq_eq_true q,B,τ,E,ts,Q',re,rs,hF',l⟩
 |_=>exact hF.elim
end
structure Wx(X:Cx)(e:oC)(t:TE):Prop where
 h:∀(pins:List (fk×Obj))(s:oB)(σ:St)(H:Hp)(Q:VK),aW X pins σ H s->1<=s.toks->t σ H Q->fo (ft X.prog X.w) X.A (ie e X.env) (EP X pins σ Q) X.xe s
structure OV(X:Cx)(es:List oC)(t:TA):Prop where
 h:∀(pos:Pos)(pins:List (fk×Obj))(s:oB)(σ:St)(H:Hp)(Q:List V->Hp->Prop),aW X pins σ H s->1<=s.toks->t σ H Q->fo (ft X.prog X.w) X.A (spliced (jr pos (ig es X.env))) (AP X pins σ Q) X.xe s
structure IV(X:Cx)(st:fq)(t:TS):Prop where
 h:∀(pins:List (fk×Obj))(s:oB)(σ:St)(H:Hp)(D:cX),aW X pins σ H s->1<=s.toks->t D σ H->fo (ft X.prog X.w) X.A (exec st X.env) (SP X pins D) X.xe s
section
variable{X:Cx}{K:W.Frag}{pos:Pos}{e o:oC}{es:List oC}{Fa Fo:FE}{Fr:FA}
theorem QE.tk(h:QE X e t):Wx X e t:=⟨λpins s σ H Q I _ z=>h.h pins s σ H Q I z⟩
theorem Wx.le(h:Wx X e t)(m:∀σ H Q,σ.length=X.N.length->t' σ H Q->t σ H Q):Wx X e t':=⟨λpins s σ H Q I p z=>h.h pins s σ H Q I p (m σ H Q I.len z)⟩
theorem IV.le{st:fq}{t t':TS}(h:IV X st t)(m:∀D σ H,σ.length=X.N.length->t' D σ H->t D σ H):IV X st t':=⟨λpins s σ H D I p z=>h.h pins s σ H D I p (m D σ H I.len z)⟩
theorem EK:OV X [] (cM K 0 Dt):=⟨λps pins s σ H Q I _ z=>(bF (X:=X) (K:=K)).h ps pins s σ H Q I z⟩
theorem Rj(ha:Wx X e (aH K Fa))(hr:OV X es (cM K n Fr))(hs:a8 e=false:=by rfl):OV X (e::es) (cM K (n+1) (iD Fa Fr)):=by
 refine⟨λps pins s σ H Q I p zZ=>?_⟩;obtain⟨B,S,E,Q',⟨τ,hS⟩,re,hF,lk⟩:=zZ;rw[cD hs];show fo _ _ (spliced ((false,ie e X.env)::jr ps (ig es X.env))) _ _ s;have hz:aH K Fa σ H λv H1=>cM K n Fr σ H1 λvs H2=>Q (v::vs) H2:=by
  refine⟨B,S,E,_,⟨τ,hS⟩,re,hF,λr E1 v H1 S1 q g mz rr=>?_⟩;obtain⟨τ1,wc⟩:=g.pre;exact⟨B,S1,E1,_,⟨τ++τ1,by rw[wc,hS,VH]⟩,mz,q,λrs E2 vs H2 S2 q2 g2 rn rr2 hn=>lk _ _ _ _ _ q2 (g.trans g2) rn ⟨v,vs,rfl,rr.step g2,rr2⟩ (by rw[VQ,hn])⟩
 refine Calls.spliced_cons (Ah (ha.h pins s σ H _ I p hz) λu s1 z t1=>?_);obtain⟨x,H1,I1,r1,q1⟩:=z;exact dP (hr.h ps pins s1 σ H1 _ I1 ⋯ q1) λus s2 zZ=>by obtain⟨xs,H2,I2,r2,q2⟩:=zZ;exact⟨x::xs,H2,I2,.cons r1 r2,q2⟩
theorem Q6(h:OV X es (cM K n Fr))(hz:n<=9000:=by decide):Wx X (.List es pos) (aH K (AV Fr)):=by
 refine⟨λpins s σ H Q I p hq=>?_⟩;have hA:=args (Fr:=Fr) (P:=λvs H1=>vs.length<=gf/\∀q,H1 q=none->Q (.ref q) (upd H1 q (.lst vs))) hq λB S E rs vs H2 Q' hS re rr hn q lk=>⟨by rw[hn];exact WC (bS hz),λp hp=>by
  obtain⟨z,e,q⟩:=q.ex;obtain⟨mz,ow1,rs1⟩:=m4 re rr e;obtain⟨g,ni⟩:=mz.lst hp rs1;exact lk _ _ _ _ _ q (Gr.trans ⟨Kp.less ow1,[],by simp⟩ g) ni (by rw[<-mz.len];exact jK)⟩
 refine wpAny_List_spliced (dP (h.h pos pins s σ H _ I p hA) λus s1⟨xs,H1,I1,r,z,q⟩=>⟨by rw[<-r.length];exact z,?_⟩);have hf:H1 s1.heap.objs.size=none:=I1.hok.fresh (VA _);exact⟨.ref s1.heap.objs.size,upd H1 s1.heap.objs.size (.lst xs),I1.laid (t':=s1.toks) (λb u e=>UY _ e) (VA _) ⟨z,us,0,r,VF _ rfl⟩,rfl,q _ hf⟩
def KG(y z:Str)(Fo:FE):FE:=λE Q=>Fo E λx E1=>s1 (vl E1 x) λi=>i.length<=9000/\Q (.p (.str (XZ i y z))) E1
theorem Eo(ho:Wx X o (aH K Fo))(hyz:(y==z)=false:=by decide)(hz:z.length<=14:=by decide)(qg:iq o "replace" X.env (ie o X.env)=ie o X.env:=by rfl)(qh:(ap.endLine==pos.line)=true:=by rfl):
  Wx X (.Call (.Attribute o "replace" ap) [.Constant (.str y) j1 p1,.Constant (.str z) j2 p2] [] pos) (aH K (KG y z Fo)):=by
 refine⟨λpins s σ H Q I p h=>?_⟩;have h1:=one (Fa:=Fo) (P:=λv H1=>∃i,v = .str i/\i.length<=9000/\Q (.str (XZ i y z)) H1) h λB S E x v H2 Q' hS re rx q lk=>by
  obtain⟨i,e1,hl,q⟩:=q.ex;exact⟨i,re.str rx e1,hl,lk _ _ _ _ _ q .refl re rfl⟩
 refine wpAny_Call_method_late qg (by rfl) qh rfl (Ah (ho.h pins s σ H _ I p h1) λv s1 zz t1=>?_);obtain⟨x,H1,I1,r1,i,rfl,hl,q1⟩:=zz;have ty:PF X.K "str" (.str i) H1:=rfl;obtain⟨b1,b2⟩:=Qf I1 r1 ty;obtain⟨t,rfl⟩:=r1;refine⟨"str","str.replace",PySem.F.plainAttrs_str,PySem.F.slot_str_replace,PySem.F.type_str_replace,b1,b2,?_⟩;refine Calls.callWith_builtin (by rfl) (Calls.evalArgs_plain (Calls.spliced_cons (Calls.Constant_str (k:=j1) (pos:=p1) (Calls.spliced_cons (Calls.Constant_str (k:=j2) (pos:=p2) (Calls.spliced_nil ?_))))));exact SC.replaceW (by show @Ne Nat s1.toks 0;lia) (by show @Ne Nat (s1.toks+1) 0;lia) (by show @Ne Nat s1.toks (s1.toks+1);lia) hyz (VZ hl ∅) hz λt' k=>⟨.str _,H1,I1.tok _,⟨_,rfl⟩,q1⟩
end
theorem C6(hNn:X.N.Nodup)(hin:X.N[ix]?=oZ xn)(hxn:uG X.env.scope xn)(hfn:X.fn xn=true\/X.env.scope.names.lookup xn=oZ .local)(hsw:ir (.ListComp elt [⟨target,iter,ifs,0⟩] scope pos) (oZ (.Name xn pos')) wo.line X.env=pure true)(hc:X.calm=true)(S:bD X N' scope t cap)(hi:PI X target iter wi)(hg:∀C s3 H3 fp,PG (aX X N' scope C s3 H3 fp) target g)(hb:∀C s3 H3 fp,O0 (aX X N' scope C s3 H3 fp) ifs tb)(he:∀C s3 H3 fp,Wx (aX X N' scope C s3 H3 fp) elt te)(hs:∀x,gw iter X.env x=pure x:=by intro _;rfl):
  IV X (.Assign [.Name xn pos'] (.ListComp elt [⟨target,iter,ifs,0⟩] scope pos) wo) (Ky (nU t cap wi g tb te) (n8 ix)):=by
 exact⟨λpins s σ H DD I ht0 h=>Ke hNn hin hxn hfn hsw hc S hi hg hb (λC s3 H3 fp=>(he C s3 H3 fp).h) hs pins s σ H DD I ht0 h⟩
theorem EL{X:Cx}{K:W.Frag}{pos:Pos}{a:oC}{st:fq}{Fa:FE}{F:FS}{k j:Nat}{x:Str}{p1 p2:Pos}(eK:X.K=K)(hr:dN k X.A)(ha:QE X a (aH K Fa))(hb:IV X st (eQ K F))(hm:ik .Eq (.Constant (.str x) j p1)=false:=by rfl):QS X (.If (.Compare a [.Eq] [.Constant (.str x) j p1] p2) [st] [] pos) (eQ K (PB (Dx (QJ Fa (fC (.str x)))) F zK)):=by
 subst eK;refine⟨λpins s σ H D I h=>?_⟩;obtain⟨B,E,DT,re,hF,l⟩:=h;have hT:=uH (P:=λb E'=>if b=true then uD E' (F DT)else uD E' (zK DT)) (D:=λb H'=>if b=true then eQ X.K F D σ H' else eQ X.K zK D σ H') re hF λb H' E' q g ni=>by
  cases b
  ·exact⟨B,E',DT,ni,dS q,l.step g⟩
  ·exact⟨B,E',DT,ni,dS q,l.step g⟩
 have hU:aH X.K Fa σ H λv H1=>aH X.K (fC (.str x)) σ H1 λw H2=>X7 X.K false v w H2 λz H3=>∃c,z = .bl c/\if c=true then eQ X.K F D σ H3 else eQ X.K zK D σ H3:=
  two (Fa:=Fa) (Fb:=fC (.str x)) (O4 hT) λB S E x y v w H2 Q' hS re rx ry q lk=>by
   obtain⟨t,u,e1,e2,hd,q⟩:=t2.ex q;exact⟨t,u,(re.vl rx e1).rq,(re.vl ry e2).rq,hd,lk _ _ _ _ _ q .refl re rfl⟩
 refine wpAny_If (wpAny_isTrue_Compare1 (dP (ha.h pins s σ H _ I hU) λv s1⟨y,H1,I1,r1,q1⟩=>?_) hm);refine Calls.Constant_str (k:=j) (pos:=p1) ?_;obtain⟨B2,S2,E2,Q2,_,rn,hF2,lk2⟩:=q1;have q2:=lk2 _ _ (.str x) H1 S2 hF2 .refl rn rfl;refine Ah (Oj hr pins _ σ H1 y (.str x) v (.str x _) _ (I1.tok _) r1 ⟨_,rfl⟩ q2) λc s3 zz t3=>?_;obtain⟨z,H3,I3,r3,k,rfl,q3⟩:=zz;cases r3;refine iw ?_;cases k with
 |false=>exact(bE (X:=X) (K:=X.K)).h pins s3 σ H3 D I3 q3
 |true=>
  refine mf (dP (hb.h pins s3 σ H3 D I3 (by show(1:Nat)<=s3.toks;have t3:(s1.toks:Nat)+1<=s3.toks:=t3;lia) q3) λf s4 q=>?_);cases f with
  |next=>exact ki q
  |ret v=>exact q
  |brk=>exact q
  |cont=>exact q
def Av:Option U->Option U
 |some (.o false xs)=>⇑(.lst xs)
 |some (.o true _)=>none
 |u=>u
theorem w4{E:En}{i:Nat}{k:Bool}{xs:List T}(h:(E.map Av)[i]?=oZ (oZ (.o k xs))):False:=by
 rw[UQ]at h;cases q:E[i]? with
 |none=>rw[q]at h;cases h
 |some u=>
  rw[q]at h
  match u with
  |none=>cases h
  |some (.p _)=>cases h
  |some (.o true _)=>cases h
  |some (.o false _)=>cases h
theorem RE.frzA{K:W.Frag}{B:fk->Prop}{H:Hp}{S:St}{E:En}(re:RE K B H S E):RE K B H S (E.map Av)/\∀b,Ow B S (E.map Av) b->B b:=by
 have ow:∀b,Ow B S (E.map Av) b->B b:=λb z=>by
  obtain z|⟨i,k,xs,h1,_⟩:=z
  ·exact z
  ·exact(w4 h1).elim
 have kp:Kp (Ow B S E) (Ow B S (E.map Av)) H H:=Kp.less λb z=>.inl (ow b z);refine⟨⟨by rw[UX];exact re.len,λi t h=>?_,λi k xs h=>(w4 h).elim,λi j k l xs ys a h=>(w4 h).elim,re.bd⟩,ow⟩;rw[UQ]at h;cases q:E[i]? with
 |none=>rw[q]at h;cases h
 |some u=>
  rw[q]at h
  match u,q with
  |none,_=>cases h
  |some (.p t'),q=>
   cases h;obtain⟨v,h1,h2⟩:=re.pure i _ q;exact⟨v,h1,h2.step kp⟩
  |some (.o true _),_=>cases h
  |some (.o false xs),q=>
   cases h;obtain⟨a,vs,h1,h2,h3,h4⟩:=re.own i _ _ q;exact⟨_,h1,a,vs,rfl,.inl ⟨λz=>absurd (h4.mpr (ow a z)) ∅,.inl h2⟩,h3.step kp⟩
theorem RE.more{K:W.Frag}{B:fk->Prop}{H:Hp}{H':Hp}{S:St}{E:En}(re:RE K B H S E)(kp:Kp (Ow B S E) (λb=>B b\/b=D) H H')(no:∀b,Ow B S E b->B b)(no2:∀(i:Nat)(k:Bool)(xs:List T),E[i]?≠oZ (oZ (.o k xs))){zs:List T}{ws:List V}(hD:H' D=oZ (.lst ws))(nD:¬B D)(bd:∀a,B a->∃vs,H' a=oZ (.lst vs))(hz:cP K H' (λb=>B b\/b=D) zs ws):
  Gr B H S E H' (S++[oZ (.ref D)]) (E++[↥zs])/\RE K B H' (S++[oZ (.ref D)]) (E++[↥zs]):=by
 have lS:(S++[oZ (V.ref D)])[E.length]?=oZ (oZ (.ref D)):=by rw[<-re.len];simp
 have gE:∀{i:Nat}{u:U},(E++[↥zs])[i]?=oZ (oZ u)->(E[i]?=oZ (oZ u)/\i<E.length)\/(i=E.length/\u = .o false zs):=λ{i u}h=>by
  obtain⟨c,h⟩|⟨c,h⟩:=yS h
  ·exact .inl ⟨h,c⟩
  ·exact .inr ⟨c,Option.some.inj h⟩
 have ow:∀b,Ow B (S++[oZ (.ref D)]) (E++[↥zs]) b->B b\/b=D:=λb z=>by
  obtain z|⟨i,k,xs,h1,h2⟩:=z
  ·exact .inl z
  obtain⟨h1,_⟩|⟨c,_⟩:=gE h1
  ·exact absurd h1 (no2 i k xs)
  ·subst c;rw[lS]at h2;cases h2;exact .inr rfl
 have kp2:Kp (Ow B S E) (Ow B (S++[oZ (.ref D)]) (E++[↥zs])) H H':=kp.trans (Kp.less ow);refine⟨⟨kp2,_,rfl⟩,⟨by simp[re.len],λi t h=>?_,λi k xs h=>?_,λi j k l xs ys a h1 h2 _ _=>?_,bd⟩⟩
 ·obtain⟨h,c⟩|⟨_,h⟩:=gE h
  ·obtain⟨v,h1,h2⟩:=re.pure i t h;exact⟨v,fW ⟨_,rfl⟩ h1,h2.step kp2⟩
  ·cases h
 ·obtain⟨h,_⟩|⟨c,h⟩:=gE h
  ·exact absurd h (no2 i k xs)
  ·cases h;subst c;exact⟨D,ws,lS,hD,hz.step (Kp.less ow),⟨λz=>absurd z ∅,λz=>absurd z nD⟩⟩
 ·obtain⟨h,_⟩|⟨c,_⟩:=gE h1
  ·exact absurd h (no2 i k xs)
  obtain⟨h,_⟩|⟨c2,_⟩:=gE h2
  ·exact absurd h (no2 j l ys)
  ·rw[c,c2]
section
variable{X:Cx}{K:W.Frag}{pos:Pos}{Fe:FE}{g:FG}{I:FI}
def Xy(t:Nat)(I:FI)(g:FG)(Fe:FE):FE:=λE Q=>I E λitems us E1=>us=[]/\j9 g Fe items (US t none++[↥[]]) λve=>match ve[t]? with
  |some (↥zs)=>Q (.s E1.length) (E1.map Av++[↥zs])
  |_=>False
theorem Uo(h:aH K (Xy t I g Fe) σ H Q):nU t [] (lC K I) (rC K g) (λ_ H Q=>Q true H) (aH K Fe) σ H Q:=by
 obtain⟨B,S0,E,Q',hS,re,hF,lk⟩:=h;refine⟨B,S0,E,_,hS,re,hF,λJ items us E1 H1 S1 gd q g1 mz ok' aCQ hgd D hD=>?_⟩;obtain⟨rfl,q⟩:=q;obtain⟨reF,owF⟩:=mz.frzA;have eS:h9 t [] σ=US t none:=by unfold h9;simp
 rw[eS];have noR:∀{i:Nat}{u:U},(US t (none:Option U))[i]?=oZ (oZ u)->False:=λ{i u}h=>by
  rw[XW]at h;split at h<;>cases h
 have owI:∀b,Ow B (US t (none:Option V)) (US t (none:Option U)) b->B b:=λb z=>by
  obtain z|⟨i,k,xs,h1,_⟩:=z
  ·exact z
  ·exact(noR h1).elim
 have aCT:RE K B H1 (US t none) (US t none):=⟨by simp,λi u h=>(noR h).elim,λi k xs h=>(noR h).elim,λi j k l xs ys a h=>(noR h).elim,mz.bd⟩;obtain⟨gD,reD⟩:=aCT.lst (ts:=[]) (vs:=[]) hD rfl;have nB:¬B D:=λz=>by obtain⟨vs,e⟩:=mz.bd D z;rw[hD]at e;cases e
 have gd0:gd (upd H1 D (.lst [])) (Ow B (US t none++[oZ (.ref D)]) (US t none++[↥[]])):=
  ok'.keep _ _ _ _ gD.kp (hgd _ (λb z=>.inl (owI b z)) λj hj=>absurd hj (by simp))
 have hn:(US t (none:Option V)).length=t:=by simp
 have hnE:(US t (none:Option U)++[oZ (U.o false [])]).length=t+1:=by simp
 refine⟨λi m' σ' H'=>m'=items.length-i/\i<=items.length/\∃E',j9 g Fe (items.drop i) E' (λve=>match ve[t]? with
   |some (↥zs)=>Q' (.s E1.length) (E1.map Av++[↥zs])
   |_=>False)/\σ'.length=t/\E'.length=t+1/\RE K B H' (σ'++[oZ (.ref D)]) E'/\
   Gs B (upd H1 D (.lst [])) (US t none++[oZ (.ref D)]) (US t none++[↥[]]) H' (σ'++[oZ (.ref D)]) E'/\gd H' (Ow B (σ'++[oZ (.ref D)]) E'),
  ⟨_,rfl,UU _,_,q,hn,hnE,reD,Kp.refl _ _,gd0⟩,?_⟩
 rintro i m' σ2 H2 ⟨rfl,xt,E3,q3,hl3,hE3,ud,g3,xy⟩;obtain rk|hge:=WG i items.length
 ·have hd:items.drop i=items[i]::items.drop (i+1):=WH rk;rw[hd]at q3;refine .inr ⟨ok'.go i H2 _ xy rk,λx H4 y=>?_⟩;obtain⟨k4,s4,rp⟩:=ok'.yld i H2 _ x H4 _ xy (UP rk) (λa z=>by obtain⟨vs,e⟩:=ud.ow z;rw[e];intro z;cases z) y;have xx:=ud.kept s4;have gd4:=ok'.keep _ _ _ _ k4 xy;refine⟨B,[oZ (.ref D)],E3,_,_,xx,rp,q3,λσ5 H5 E5 q5 g5 xu hl5=>?_⟩;have hE5:E5.length=t+1:=by rw[<-xu.len];simp[hl5,hl3]
  show(if true=true then _ else _);rw[oV rfl];refine⟨B,σ5++[oZ (.ref D)],E5,_,⟨_,rfl⟩,xu,q5,λr E6 v H6 S6 q6 g6 re6 rr6=>?_⟩;cases r with
  |s _=>exact q6.elim
  |p u=>
   simp only at q6;have aB4:E3.length-1=t:=⋯
   rw[aB4]at q6;split at q6
   ·rename_i acc yo;obtain⟨hlen,q6⟩:=q6;obtain⟨a6,ws,p1,p2,p3,p4⟩:=re6.own _ _ _ yo;have hS6:S6[t]?=oZ (oZ (.ref D)):=fW g6.pre (by rw[VU ⋯];simp[hl5,hl3]);rw[hS6]at p1;cases p1;obtain⟨g7,re7⟩:=re6.put (ys:=acc++[u]) (ws:=ws++[v]) yo hS6 (p3.append ⟨v,[],rfl,rr6,rfl⟩);obtain⟨re8,ow8⟩:=re7.cut (E:=E5) (σ:=σ5++[oZ (.ref D)]) (g6.trans g7).pre xu.len;have eE:E5.length=E3.length:=⋯
    rw[eE]at re8 ow8;have gg:Gs B H4 (σ2++[oZ (.ref D)]) E3 (upd H6 D (.lst (ws++[v]))) (σ5++[oZ (.ref D)]) ((E6.set t (↥(acc++[u]))).take E3.length):=(g5.trans (g6.trans g7).kp).trans (Kp.less ow8);refine⟨ws,p2,by rw[p3.length];exact bS (WC hlen),items.length-(i+1),⋯,rfl,rk,_,q6,⋯,?_,re8,(g3.trans k4).trans gg,ok'.keep _ _ _ _ gg gd4⟩;rw[WE,XS];have:E5.length<=E6.length:=by
     obtain⟨τ6,e6⟩:=g6.pre;rw[<-xu.len,<-re6.len,e6];simp
    lia
   ·exact q6.elim
 ·have ei:i=items.length:=⋯
  subst ei;rw[XQ]at q3;refine .inl ⟨ok'.stop H2 _ xy,?_⟩;have q3':(match E3[t]? with
   |some (↥zs)=>Q' (.s E1.length) (E1.map Av++[↥zs])
   |_=>False):=q3
  split at q3'
  ·rename_i zs hzs;obtain⟨aD,ws,p1,p2,p3,p4⟩:=ud.own _ _ _ hzs;have hSD:(σ2++[oZ (V.ref D)])[t]?=oZ (oZ (.ref D)):=by rw[VU ⋯];simp[hl3]
   rw[hSD]at p1;cases p1;have ow0:∀b,Ow B (US t none++[oZ (.ref D)]) (US t none++[↥[]]) b->B b\/b=D:=λb z=>by
    obtain z|z:=gD.kp.new b z
    ·exact .inl (owI b z)
    ·obtain⟨us',hu⟩:=reD.ow (by assumption)
     by_cases c:b=D
     ·exact .inr c
     ·rw[aV c,z]at hu;cases hu
   have keep:∀b o,H1 b=oZ o->¬B b->H2 b=oZ o:=λb o e n=>by
    have nD:b≠D:=λz=>by rw[z,hD]at e;cases e
    exact g3.keep b o (by rw[aV nD];exact e) λz=>(ow0 b z).elim n nD
   have kp:Kp (Ow B S1 (E1.map Av)) (λb=>B b\/b=D) H1 H2:=⟨λb o e n=>keep b o e λz=>n (.inl z),λb z=>z.elim (λz=>.inl (.inl z)) λz=>.inr (by rw[z];exact hD)⟩;obtain⟨gr,ni⟩:=reF.more kp owF (λi k xs h=>w4 h) p2 nB ud.bd (p3.step (Kp.less λb z=>z.elim .inl λz=>by rw[z];exact .inr ⟨t,false,zs,hzs,hSD⟩));have gl:Gr B H S0 E H1 S1 (E1.map Av):=g1.trans ⟨Kp.less λb z=>.inl (owF b z),[],by simp⟩;refine lk _ _ _ _ _ q3' (gl.trans gr) ni ?_;show(S1++[oZ (V.ref D)])[E1.length]?=_;rw[<-mz.len];simp
  ·exact q3'.elim
theorem Yl(hN:X.N.Nodup)(hi:X.N[i]?=oZ x)(hx:uG X.env.scope x)(hsw:ir (.ListComp elt [⟨target,iter,[],0⟩] scope pos) (oZ (.Name x pos')) wo.line X.env=pure true)(hc:X.calm=true)(S:bD X N' scope t [])(hit:QI X target iter (lC K I))(hg:∀C s3 H3 fp,QG (aX X N' scope C s3 H3 fp) target (rC K g))(he:∀C s3 H3 fp,Wx (aX X N' scope C s3 H3 fp) elt (aH K Fe))(hs:∀x,gw iter X.env x=pure x:=by intro _;rfl)(hf:X.fn x=true\/X.env.scope.names.lookup x=oZ .local:=by first|exact .inl rfl|exact .inr rfl|assumption):
  IV X (.Assign [.Name x pos'] (.ListComp elt [⟨target,iter,[],0⟩] scope pos) wo) (eQ K (Kl i (Xy t I g Fe))):=
 (C6 (tb:=λ_ H Q=>Q true H) hN hi hx hf hsw hc S hit.h (λC s3 H3 fp=>(hg C s3 H3 fp).h) (λ_ _ _ _ _ _ _ _ _ I z=>wpAny_tests_nil ⟨_,I,z⟩) he hs).le λD σ H hl⟨B,E,DT,re,hF,l⟩=>Uo ⟨B,σ,E,_,⟨[],by simp⟩,re,hF,λr E' v H' S' q g ni rr=>by
  obtain⟨u,e1,q⟩:=q.ex;rw[<-re.len]at e1 q;obtain⟨r1,ow⟩:=lH (i:=i) ni g.pre rr e1;exact l.nx _ _ _ q (g.kp.trans (Kp.less ow)) r1⟩
def SH(Fe:FE):FE:=λE Q=>Fe E λr E1=>match r with
 |.p t=>Q (.p t) E1
 |.s i=>match E1[i]? with
  |some (↥xs)=>Q (.p (.lst xs)) (E1.set i (⇑(.lst xs)))
  |_=>False
theorem EO(h:aH K (SH Fe) σ H Q):aH K Fe σ H Q:=by
 obtain⟨B,S,E,Q',hS,re,hF,lk⟩:=h;refine⟨B,S,E,_,hS,re,hF,λr E1 v H1 S1 q g mz rr=>?_⟩;cases r with
 |p t=>exact lk _ _ _ _ _ q g mz rr
 |s i=>
  simp only at q;split at q
  ·rename_i xs hE;obtain⟨rn,ow⟩:=mz.frz hE;obtain⟨w,h1,h2⟩:=rn.pure i (.lst xs) (by rw[VM (UO.mp hE).1]);have rr:S1[i]?=oZ (oZ v):=rr;rw[rr]at h1;cases h1;exact lk _ _ _ _ _ q (g.trans ⟨Kp.less λb z=>(ow b z).1,[],by simp⟩) rn h2
  ·exact q.elim
theorem KS(h:Wx X e (aH K Fe)):Wx X e (aH K (SH Fe)):=h.le λ_ _ _ _ z=>EO z
end
theorem BJ(I:aW X pins σ H s)(h:H b=oZ o):YQ b X.K=none:=by
 cases q:YQ b X.K with
 |none=>rfl
 |some ob=>
  have:=(I.bs b ob (I.mod.kin b ob q)).2;rw[h]at this;cases this
def Cj:T->Bool
 |.tup _=>true
 |_=>false
def okT(t:T):Bool:=noL t||match t with
 |.lst (x::xs)=>(x::xs).all Cj&&bM (x::xs)
 |_=>false
def Vl:T->Bool
 |.lst [s,.str _]=>okT s
 |_=>false
def okU:Option U->Bool
 |none=>true
 |some (.p t)=>okT t
 |some (.o _ xs)=>bM xs
structure Pl(i:Nat)(O:fk->Prop)(σ:St)(H:Hp)(a:fk)(ds:List fk):Prop where
 at_:σ[i]?=oZ (oZ (.ref a))
 ls:H a=oZ (.lst (ds.map V.ref))
 nd:(a::ds).Nodup
 no:∀d∈a::ds,¬O d
 it:∀d∈ds,∃ws,H d=oZ (.lst ws)
theorem Pl.some{O:fk->Prop}(p:Pl i O σ H a ds):∀d∈a::ds,∃ws,H d=oZ (.lst ws):=λd hd=>(UZ.mp hd).elim (λe=>⟨ds.map V.ref,by rw[e];exact p.ls⟩) (p.it d)
theorem Pl.keep{O:fk->Prop}{O':fk->Prop}(p:Pl i O σ H a ds)(k:Kp O O' H H')(h:σ'[i]?= σ[i]?):Pl i O' σ' H' a ds:=by
 refine⟨by rw[h];exact p.at_,k.keep _ _ p.ls (p.no a VB),p.nd,λd hd z=>?_,λd hd=>let⟨ws,e⟩:=p.it d hd;⟨ws,k.keep _ _ e (p.no d (UW _ hd))⟩⟩;obtain z|z:=k.new d z
 ·exact p.no d hd z
 ·obtain⟨ws,e⟩:=p.some d hd;rw[z]at e;cases e
theorem AQ{K:W.Frag}{O:fk->Prop}{H:Hp}{c:fk}{ws us:List V}(IW:∀b,O b->iC H b)(hc:H c=oZ (.lst ws))(nt:∀xs:List T,xs≠[]->xs.all Cj=true->¬cP K H O xs ws):∀(t:T)(v:V),okT t=true->Rp K H O t v->Rp K (upd H c (.lst us)) O t v:=λt v h r=>by
 have aFX:∀b,(b=c\/O b)->iC H b:=λb z=>z.elim (λe=>⟨ws,by rw[e];exact hc⟩) (IW b);have kp:Kp (λb=>b=c\/O b) O H (upd H c (.lst us)):=⟨λb o e n=>by rw[aV λz=>n (.inl z)];exact e,λb z=>.inl (.inr z)⟩
 by_cases n:noL t=true
 ·exact(Rp.noL aFX n r).step kp
 ·unfold okT at h;rw[show noL t=false by simpa using n,fi]at h;split at h
  ·rename_i x xs;rw[VN]at h;obtain⟨b,vs,rfl,h1,h2⟩:=r;refine⟨b,vs,rfl,h1.imp (λ⟨nO,hr⟩=>⟨nO,?_⟩) id,(cP.noL aFX h.2 h2).step kp⟩;have nb:b≠c:=λz=>by
    subst z;obtain e|⟨o,e⟩:=hr
    ·rw[hc]at e;cases e;exact nt _ (by simp) h.1 h2
    ·rw[hc]at e;cases e
   exact hr.imp (λe=>by rw[aV nb];exact e) λzZ=>by obtain⟨o,e⟩:=zZ;exact⟨o,by rw[aV nb];exact e⟩
  ·cases h
theorem Mz{K:W.Frag}{O:fk->Prop}{H:Hp}{c:fk}{us:List V}(av:∀(t:T)(v:V),okT t=true->Rp K H O t v->Rp K (upd H c (.lst us)) O t v){x:T}{d:fk}(hx:Vl x=true)(hd:d≠c)(r:Rp K H O x (.ref d)):Rp K (upd H c (.lst us)) O x (.ref d):=by
 unfold Vl at hx;split at hx
 ·rename_i s m;obtain⟨b,vs,e,h1,v,r',e2,h2,h3⟩:=r;cases e;exact⟨_,vs,rfl,h1.imp (λzZ=>by obtain⟨n,hr⟩:=zZ;exact⟨n,hr.imp (λe=>by rw[aV hd];exact e) λzZ=>by obtain⟨o,e⟩:=zZ;exact⟨o,by rw[aV hd];exact e⟩⟩) id,v,r',e2,av _ _ hx h2,h3⟩
 ·cases hx
theorem Ew{K:W.Frag}{O:fk->Prop}{H:Hp}{c:fk}{us:List V}(av:∀(t:T)(v:V),okT t=true->Rp K H O t v->Rp K (upd H c (.lst us)) O t v):∀{xs:List T}{es:List fk},xs.all Vl=true->(∀d∈es,d≠c)->cP K H O xs (es.map V.ref)->cP K (upd H c (.lst us)) O xs (es.map V.ref)
 |[],ds,_,_,h=>by cases ds with
  |nil=>rfl
  |cons d ds=>cases h
 |x::xs,ds,h,hd,⟨v,r,e,h1,h2⟩=>by
  cases ds with
  |nil=>cases e
  |cons d ds=>
   cases e;rw[YD,VN]at h;exact⟨_,_,rfl,Mz av h.1 (hd d VB) h1,Ew av h.2 (λd' m=>hd d' (UW _ m)) h2⟩
theorem RE.chg{K:W.Frag}{B:fk->Prop}{H:Hp}{σ:St}{E:En}{i:Nat}{c:fk}(re:RE K B H σ E){us ws:List V}{t t0:T}{v:V}(hc:H c=oZ (.lst ws))(nO:¬Ow B σ E c)(av:∀(t:T)(v:V),okT t=true->Rp K H (Ow B σ E) t v->Rp K (upd H c (.lst us)) (Ow B σ E) t v)(ok:((E.set i none).all okU)=true)(hE:E[i]?=oZ (⇑t0))(hS:σ[i]?=oZ (oZ v))(hv:Rp K (upd H c (.lst us)) (Ow B σ E) t v):RE K B (upd H c (.lst us)) σ (E.set i (⇑t))/\∀b,Ow B σ (E.set i (⇑t)) b->Ow B σ E b:=by
 have li:=(UO.mp hE).1;have get:∀{j:Nat}{u:U},(E.set i (⇑t))[j]?=oZ (oZ u)->(j=i/\u = .p t)\/(j≠i/\E[j]?=oZ (oZ u)):=λ{j u}h=>by
  by_cases e:j=i
  ·subst e;rw[VM li]at h;cases h;exact .inl ⟨rfl,rfl⟩
  ·rw[VI λz=>e z.symm]at h;exact .inr ⟨e,h⟩
 have ow:∀b,Ow B σ (E.set i (⇑t)) b->Ow B σ E b:=λb z=>by
  obtain z|⟨j,k,xs,h1,h2⟩:=z
  ·exact .inl z
  obtain⟨_,e⟩|⟨_,h1⟩:=get h1
  ·cases e
  ·exact .inr ⟨j,k,xs,h1,h2⟩
 have okj:∀{j:Nat}{u:Option U},j≠i->E[j]?=oZ u->okU u=true:=λ{j u}n h=>by
  refine WM.mp ok u (UR (i:=j) ?_);rw[VI λz=>n z.symm];exact h
 have IW:∀b,(b=c\/Ow B σ E b)->iC H b:=λb z=>z.elim (λe=>⟨ws,by rw[e];exact hc⟩) re.ow;have kp:Kp (λb=>b=c\/Ow B σ E b) (Ow B σ (E.set i (⇑t))) H (upd H c (.lst us)):=⟨λb o e n=>by rw[aV λz=>n (.inl z)];exact e,λb z=>.inl (.inr (ow b z))⟩;refine⟨⟨by rw[XS];exact re.len,λj u h=>?_,λj k xs h=>?_,λj l k k' xs ys b h1 h2 h3 h4=>?_,λb z=>?_⟩,ow⟩
 ·obtain⟨e,e2⟩|⟨n,h⟩:=get h
  ·cases e2;subst e;exact⟨v,hS,hv.step (Kp.less ow)⟩
  ·obtain⟨w,h1,h2⟩:=re.pure j u h;exact⟨w,h1,(av _ _ (okj n h) h2).step (Kp.less ow)⟩
 ·obtain⟨_,e⟩|⟨n,h⟩:=get h
  ·cases e
  ·obtain⟨b,vs,h1,h2,h3,h4⟩:=re.own j k xs h;have nb:b≠c:=λz=>nO (by rw[<-z];exact .inr ⟨j,k,xs,h,h1⟩);exact⟨b,vs,h1,by rw[aV nb];exact h2,(cP.noL IW (okj n h) h3).step kp,h4⟩
 ·obtain⟨_,e⟩|⟨_,h1⟩:=get h1
  ·cases e
  obtain⟨_,e⟩|⟨_,h2⟩:=get h2
  ·cases e
  exact re.inj _ _ _ _ _ _ b h1 h2 h3 h4
 ·obtain⟨vs,e⟩:=re.bd b z;exact⟨vs,by rw[aV λq=>nO (by rw[<-q];exact .inl z)];exact e⟩
structure Ps(i:Nat)(K:W.Frag)(B:fk->Prop)(H0:Hp)(S0:St)(E0:En)(a:fk)(hs:List (T×V))(σ:St)(H:Hp)(E:En):Prop where
 ds:∃ds,Pl i (Ow B σ E) σ H a ds/\∀d∈ds,Ow B S0 E0 d\/H0 d=none
 oa:Ow B S0 E0 a
 g:Gs B H0 S0 E0 H σ E
 re:RE K B H σ E
 hd:∀p∈hs,okT p.1=true/\Rp K H (Ow B σ E) p.1 p.2
structure LP(i:Nat)(K:W.Frag)(B:fk->Prop)(H0:Hp)(S0:St)(E0:En)(a:fk)(hs:List (T×V))(DT:ET)(D:cX):Prop where
 nx:∀σ' H' E',DT.nx E'->Ps i K B H0 S0 E0 a hs σ' H' E'->D.nx σ' H'
 rt:∀r E' v H' S',DT.rt r E'->Gs B H0 S0 E0 H' S' E'->RE K B H' S' E'->RR K B H' S' E' r v->D.rt v H'
 bk:∀σ' H' E',DT.bk E'->Ps i K B H0 S0 E0 a hs σ' H' E'->D.bk σ' H'
 ct:∀σ' H' E',DT.ct E'->Ps i K B H0 S0 E0 a hs σ' H' E'->D.ct σ' H'
def rD(i:Nat)(K:W.Frag)(F:FS):TS:=λD σ H=>∃B H0 S0 E0 a hs E DT,Ps i K B H0 S0 E0 a hs σ H E/\F DT E/\LP i K B H0 S0 E0 a hs DT D
theorem Ps.step{i:Nat}{K:W.Frag}{B:fk->Prop}{H0:Hp}{S0:St}{E0:En}{a:fk}{hs:List (T×V)}{σ:St}{σ':St}{H:Hp}{H':Hp}{E:En}{E':En}(p:Ps i K B H0 S0 E0 a hs σ H E)(g:Gs B H σ E H' σ' E')(re:RE K B H' σ' E')(h:σ'[i]?= σ[i]?):Ps i K B H0 S0 E0 a hs σ' H' E':=
 ⟨let⟨ds,q,z⟩:=p.ds;⟨ds,q.keep g h,z⟩,p.oa,p.g.trans g,re,λq m=>⟨(p.hd q m).1,(p.hd q m).2.step g⟩⟩
theorem Ps.less{i:Nat}{K:W.Frag}{B:fk->Prop}{H0:Hp}{S0:St}{E0:En}{a:fk}{hs:List (T×V)}{hs':List (T×V)}{σ:St}{H:Hp}{E:En}(p:Ps i K B H0 S0 E0 a hs σ H E)(h:∀q∈hs',q∈hs):Ps i K B H0 S0 E0 a hs' σ H E:=⟨p.ds,p.oa,p.g,p.re,λq m=>p.hd q (h q m)⟩
section
variable{X:Cx}{K:W.Frag}{pos:Pos}{c e:oC}{st s4 s5:fq}{zk body b1 b2 rest:List fq}{Fa:FE}{Fp:FB}{Fr:FA}{F G F4 F5:FS}{i:Nat}
theorem qb_cons'(h1:QS X st (rD i K F))(h2:QB X zk (rD i K G)):QB X (st::zk) (rD i K (Gw F G)):=
 (qS h1 h2).le λD σ H zZ=>by obtain⟨B,H0,S0,E0,a,hs,E,DT,p,hF,l⟩:=zZ;exact⟨B,H0,S0,E0,a,hs,E,_,p,hF,⟨λσ' H' E' hG p'=>⟨B,H0,S0,E0,a,hs,E',DT,p',dS hG,l⟩,l.rt,l.bk,l.ct⟩⟩
theorem BL(hc:QT X c (i8 K Fp))(ha:QB X b1 (rD i K F))(hb:QB X b2 (rD i K G)):QS X (.If c b1 b2 pos) (rD i K (PB Fp F G)):=
 (D4 hc ha hb).le λD σ H hl⟨B,H0,S0,E0,a,hs,E,DT,p,hF,l⟩=>uH (P:=λb E'=>if b=true then uD E' (F DT)else uD E' (G DT)) p.re hF λb H' E' q g ni=>by
  cases b
  ·exact⟨B,H0,S0,E0,a,hs,E',DT,p.step g ni rfl,dS q,l⟩
  ·exact⟨B,H0,S0,E0,a,hs,E',DT,p.step g ni rfl,dS q,l⟩
theorem GY:QB X [] (rD i K zK):=Ox.le λD σ H zZ=>by obtain⟨B,H0,S0,E0,a,hs,E,DT,p,hF,l⟩:=zZ;exact l.nx _ _ _ hF p
theorem Sf(h:rD i K (Kl j Fe) D σ H)(vz:j≠i):aH K Fe σ H λv H'=>D.nx (σ.set j (oZ v)) H':=by
 obtain⟨B,H0,S0,E0,a,hs,E,DT,p,hF,l⟩:=h;refine⟨B,σ,E,_,⟨[],by simp⟩,p.re,hF,λr E' v H' S' q g ni rr=>?_⟩;obtain⟨u,e1,q⟩:=q.ex;rw[<-p.re.len]at e1 q;obtain⟨r1,ow⟩:=lH (i:=j) ni g.pre rr e1;exact l.nx _ _ _ q (p.step (g.kp.trans (Kp.less ow)) r1 (VI vz))
theorem Oq(hN:X.N.Nodup)(hi:X.N[j]?=oZ x)(hx:uG X.env.scope x)(he:QE X e (aH K Fa))(vz:j≠i)(hs:ir e (oZ (.Name x pos')) pos.line X.env=pure false:=by rfl)(hf:X.fn x=true\/X.env.scope.names.lookup x=oZ .local:=by first|exact .inl rfl|exact .inr rfl|assumption):QS X (.Assign [.Name x pos'] e pos) (rD i K (Kl j Fa)):=
 (Gp hN hi hx he hs hf).le λD σ H hl h=>Sf h vz
theorem W2(hN:X.N.Nodup)(hi:X.N[j]?=oZ x)(hx:uG X.env.scope x)(hsw:ir (.ListComp elt [⟨target,iter,[],0⟩] scope pos) (oZ (.Name x pos')) wo.line X.env=pure true)(hc:X.calm=true)(S:bD X N' scope t (cap.map (·.1)))(ho:kS cap=true)(hnd:(cap.map (·.1)).Nodup)(hit:QI X target iter (lC K I))(hg:∀C s3 H3 fp,QG (aX X N' scope C s3 H3 fp) target (rC K g))(he:∀C s3 H3 fp,QE (aX X N' scope C s3 H3 fp) elt (aH K Fe))(vz:j≠i)(hs:∀x,gw iter X.env x=pure x:=by intro _;rfl)(hf:X.fn x=true\/X.env.scope.names.lookup x=oZ .local:=by first|exact .inl rfl|exact .inr rfl|assumption):
  QS X (.Assign [.Name x pos'] (.ListComp elt [⟨target,iter,[],0⟩] scope pos) wo) (rD i K (Kl j (Cc t cap I g Fe))):=
 QS.le ⟨Sg hN hi hx hf hsw hc S hit.h (λC s3 H3 fp=>(hg C s3 H3 fp).gd.h) (λC s3 H3 fp=>(he C s3 H3 fp).ed.h) hs⟩ λD σ H hl h=>yJ (d:=none) (d':=none) S ho hnd hl (λ_ _ _ z=>by cases z) ⟨(λ_ z=>by cases z),Sf h vz⟩
def SJ(Fr:FA):En->(List T->List T->List Nat->En->Prop)->Prop:=λE Q=>Fr E λrs E1=>match rs with
 |[x,y]=>(match vl E1 x,vl E1 y with
  |some (.lst xs),oZ (.lst ys)=>Q xs ys (qK E1 x++qK E1 y) E1
  |_,_=>False)
 |_=>False
def RY(K:W.Frag)(Fr:FA):TI:=λσ H R=>∃B S E Q',(∃τ,S=σ++τ)/\RE K B H S E/\SJ Fr E Q'/\∀J xs ys us v w E' H' S',Q' xs ys us E'->Gr B H S E H' S' E'->RE K B H' S' E'->Dm K J (eO xs ys) (λH O=>Rp K H O (.lst xs) v/\Rp K H O (.lst ys) w)->
 (∀O:fk->Prop,(∀b,O b->Ow B S' E' b)->(∀j∈us,∀a,S'[j]?=oZ (oZ (.ref a))->¬O a)->Rp K H' O (.lst xs) v/\Rp K H' O (.lst ys) w)->R J H'
theorem Q5{x1}(eK:X.K=K)(hg:Gl X "zip")(hm:X.mg "zip" = none)(ha:QA X [l,r] (cM K n Fr))(hs:a8 l=false:=by rfl)(xp:a8 r=false:=by rfl):
  QI X (.Tuple elts x1 xq) (.Call (.Name "zip" p) [l,r] [] pos) (RY K Fr):=by
 subst eK;refine(BN hg hm ha hs xp).le λσ H R hn⟨B,S,E,Q',hS,re,hF,lk⟩=>⟨B,S,E,_,hS,re,hF,λrs E1 vs H1 S1 q g mz rr hn=>?_⟩;obtain _|⟨x,_|⟨y,_|⟨_,_⟩⟩⟩:=rs
 ·exact False.elim q
 ·exact False.elim q
 ·obtain⟨v,ws,e1,h1,u,ws',e2,h2,h3⟩:=rr;cases h3;subst e2;subst e1;simp only at q;split at q
  ·rename_i xs ys e1 e2;obtain⟨a,vs,e3,sq1,r1⟩:=mz.vl h1 e1;obtain⟨b,us,e4,sq2,r2⟩:=mz.vl h2 e2;refine⟨false,a,b,vs,us,by rw[e3,e4],sq1,sq2,lk _ _ _ _ _ _ _ _ _ q g mz Eu λO k1 k2=>?_⟩;rw[<-e3,<-e4];exact⟨mK mz h1 e1 O k1 λj hj=>k2 j (by simp[hj]),mK mz h2 e2 O k1 λj hj=>k2 j (by simp[hj])⟩
  ·exact q.elim
 ·exact False.elim q
def MV(j k:Nat)(Fr:FA)(F:FS):FS:=λD E=>SJ Fr E λxs ys us E'=>okT (.lst xs)=true/\okT (.lst ys)=true/\o1 (frzs us E') λE2=>uD (E2.take E.length) (gF (Nc 2 (mG (fZ j) (mG (fZ k) Na))) F D (eO xs ys))
theorem C4(eK:X.K=K)(hp:PassesOwn (ft X.prog X.w) X.A X.env X.xe)(hc:X.calm=true)(hg:Gl X "zip")(hm:X.mg "zip" = none)(ha:QA X [l,r] (cM K n Fr))(hN:X.N.Nodup)(hj:X.N[j]?=oZ x)(hk:X.N[k]?=oZ y)(hx:uG X.env.scope x)(hy:uG X.env.scope y)(hb:QB X body (rD i K F))(n1:j≠i)(n2:k≠i)(sl:a8 l=false:=by rfl)(sr:a8 r=false:=by rfl)(fx:X.fn x=true\/X.env.scope.names.lookup x=oZ .local:=by first|exact .inl rfl|exact .inr rfl)(fy:X.fn y=true\/X.env.scope.names.lookup y=oZ .local:=by first|exact .inl rfl|exact .inr rfl)(hs1:(gv [.Name x px,.Name y py] X.env).map (·.2)=jg (.Name x px) X.env::(gv [.Name y py] X.env).map (·.2):=by rfl)(xp:(gv [.Name y py] X.env).map (·.2)=jg (.Name y py) X.env::(gv [] X.env).map (·.2):=by rfl)(hn:(gv [.Name x px,.Name y py] X.env).length=2:=by rfl)(xw:(gv [.Name x px,.Name y py] X.env).findIdx? (·.1)=none:=by rfl)(hs:∀x,gw (.Call (.Name "zip" p2) [l,r] [] p3) X.env x=pure x:=by intro _;rfl):
  QS X (.For (.Tuple [.Name x px,.Name y py] kt pt) (.Call (.Name "zip" p2) [l,r] [] p3) body [] pos) (rD i K (MV j k Fr F)):=by
 subst eK;refine(Pa hp hc (Q5 rfl hg hm ha sl sr) (Gn hc (kW (m8 hN hj hx fx) (kW (m8 hN hk hy fy) xG xp) hs1) hn xw) hb hs).le λD σ H hl zZ=>?_;obtain⟨B,H0,S0,E0,a,hs,E,DT,p,hF,l⟩:=zZ;refine⟨B,σ,E,_,⟨[],by simp⟩,p.re,hF,λJ xs ys us v w E1 H1 S1 q g1 mz ok hgd=>?_⟩;obtain⟨ox,oy,q⟩:=q;obtain⟨E2,e2,q⟩:=q.ex;replace q:=dS q;obtain⟨f1,f2,f3,f4⟩:=w6 mz e2;obtain⟨c1,c2⟩:=f1.cut (E:=E) g1.pre p.re.len;have gs:Gs B H σ E H1 σ (E2.take E.length):=g1.kp.trans ((Kp.less f2).trans (Kp.less c2));obtain⟨gx,gy⟩:=hgd (Ow B σ (E2.take E.length)) (λb z=>f2 b (c2 b z)) λj hj a ha z=>f3 j hj a ha (c2 a z);have p1:Ps i X.K B H0 S0 E0 a ((.lst xs,v)::(.lst ys,w)::hs) σ H1 (E2.take E.length):=by
  obtain⟨u1,u2,u3,u4,u5⟩:=p.step gs c1 rfl;refine⟨u1,u2,u3,u4,λq m=>?_⟩;obtain rfl|m:=UZ.mp m
  ·exact⟨ox,gx⟩
  obtain rfl|m:=UZ.mp m
  ·exact⟨oy,gy⟩
  ·exact u5 q m
 have aIL:∀{σ' H' E'},Ps i X.K B H0 S0 E0 a ((.lst xs,v)::(.lst ys,w)::hs) σ' H' E'->Rp X.K H' (Ow B σ' E') (.lst xs) v/\Rp X.K H' (Ow B σ' E') (.lst ys) w:=λp'=>⟨(p'.hd (.lst xs,v) (by simp)).2,(p'.hd (.lst ys,w) (by simp)).2⟩;generalize eO xs ys=items at q ok;refine⟨λm0 m σ' H'=>m=items.length-m0/\m0<=items.length/\∃E',gF (Nc 2 (mG (fZ j) (mG (fZ k) Na))) F DT (items.drop m0) E'/\Ps i X.K B H0 S0 E0 a ((.lst xs,v)::(.lst ys,w)::hs) σ' H' E',⟨_,rfl,UU _,_,q,p1⟩,?_⟩;rintro m0 m σ2 H2 ⟨rfl,xt,E3,q3,p3⟩;have ud:=p3.re;have xy:=aIL p3;obtain rk|hge:=WG m0 items.length
 ·have hd:items.drop m0=items[m0]::items.drop (m0+1):=WH rk;rw[hd]at q3;refine .inr ⟨ok.go m0 H2 _ xy rk,λσ' H'=>∃E',gF (Nc 2 (mG (fZ j) (mG (fZ k) Na))) F DT (items.drop (m0+1)) E'/\Ps i X.K B H0 S0 E0 a ((.lst xs,v)::(.lst ys,w)::hs) σ' H' E',λσ' H' zZ=>by obtain⟨E',z⟩:=zZ;exact⟨items.length-(m0+1),⋯,rfl,rk,E',z⟩,λw' H4 yl=>?_⟩;obtain⟨k4,s4,rp⟩:=ok.yld m0 H2 _ w' H4 _ xy (UP rk) (λa z=>by obtain⟨vs,e⟩:=ud.ow z;rw[e];intro z;cases z) yl;have xx:=ud.kept s4;have p4:=p3.step k4 xx rfl;generalize items[m0]=t at q3 rp;cases t with
  |tup ts=>
   obtain⟨b,vs,e1,sq,rs⟩:=rp.sqT;obtain _|⟨t1,_|⟨t2,_|⟨_,_⟩⟩⟩:=ts
   ·exact False.elim q3
   ·exact False.elim q3
   ·obtain⟨v1,r1,e2,h1,v2,r2,e3,h2,h3⟩:=rs;cases h3;subst e3;subst e2;subst e1;obtain⟨xu,ow5⟩:=xx.setP (i:=j) h1;obtain⟨re6,ow6⟩:=xu.setP (i:=k) (h2.step (Kp.less ow5));have g6:Gs B H4 σ2 E3 H4 ((σ2.set j (oZ v1)).set k (oZ v2)) ((E3.set j (⇑t1)).set k (⇑t2)):=Kp.less λb z=>ow5 b (ow6 b z);refine⟨b,[v1,v2],rfl,sq,rfl,v1,[v2],rfl,v2,[],rfl,rfl,?_⟩;have p6:=p4.step g6 re6 (by rw[VI n2,VI n1]);have q6:=dS (show uD ((E3.set j (⇑t1)).set k (⇑t2)) (F { DT with nx:=gF (Nc 2 (mG (fZ j) (mG (fZ k) Na))) F DT (items.drop (m0+1)),ct:=gF (Nc 2 (mG (fZ j) (mG (fZ k) Na))) F DT (items.drop (m0+1)),bk:=DT.nx })from q3);exact⟨B,H0,S0,E0,a,_,_,_,p6,q6,⟨λσ' H' E' z p'=>⟨E',z,p'⟩,l.rt,λσ' H' E' z p'=>l.nx _ _ _ z (p'.less λq m=>UW _ (UW _ m)),λσ' H' E' z p'=>⟨E',z,p'⟩⟩⟩
   ·exact False.elim q3
  |_=>exact q3.elim
 ·have ei:m0=items.length:=⋯
  subst ei;rw[XQ]at q3;exact .inl ⟨ok.stop H2 _ xy,l.nx _ _ _ q3 (p3.less λq m=>UW _ (UW _ m))⟩
end
theorem Pl.items{K:W.Frag}{O:fk->Prop}{H:Hp}{σ:St}{i:Nat}{a:fk}{ds:List fk}{xs:List T}(p:Pl i O σ H a ds)(nk:YQ a K=none)(r:Rp K H O (.lst xs) (.ref a)):cP K H O xs (ds.map V.ref):=by
 obtain⟨b,vs,e,h1,h2⟩:=r;cases e;obtain⟨_,h|⟨o,h⟩⟩|⟨o,mq,n,h,_⟩:=h1
 ·rw[p.ls]at h;cases h;exact h2
 ·rw[p.ls]at h;cases h
 ·rw[nk]at h;cases h
theorem HX{K:W.Frag}{O:fk->Prop}{H:Hp}:∀{xs:List T}{es:List fk}{k:Nat}{x:T},cP K H O xs (es.map V.ref)->xs[k]?=oZ x->∃d,es[k]?=oZ d/\Rp K H O x (.ref d)
 |xs,ds,k,x,h,hx=>by
  obtain⟨v,h1,h2⟩:=h.get hx;rw[UQ]at h1;obtain⟨d,hd,rfl⟩:=VP.mp h1;exact⟨d,hd,h2⟩
theorem LC{K:W.Frag}{O:fk->Prop}{H:Hp}{x:T}{d:fk}{ws:List V}(hx:Vl x=true)(nk:YQ d K=none)(hd:H d=oZ (.lst ws))(r:Rp K H O x (.ref d)):∃s m v,x = .lst [s,.str m]/\okT s=true/\ws=[v,.str m]/\Rp K H O s v:=by
 unfold Vl at hx;split at hx
 ·rename_i s m;obtain⟨b,vs,e,h1,v,r',e2,h2,u,r2,e3,h3,h4⟩:=r;cases e;cases h4;cases h3;subst e3;subst e2;obtain⟨_,h|⟨o,h⟩⟩|⟨o,mq,n,h,_⟩:=h1
  ·rw[hd]at h;cases h;exact⟨s,m,v,rfl,hx,rfl,h2⟩
  ·rw[hd]at h;cases h
  ·rw[nk]at h;cases h
 ·cases hx
theorem Pl.nt{K:W.Frag}{O:fk->Prop}{H:Hp}{σ:St}{i:Nat}{a:fk}{ds:List fk}(p:Pl i O σ H a ds)(nk:∀d∈ds,YQ d K=none):∀xs:List T,xs≠[]->xs.all Cj=true->¬cP K H O xs (ds.map V.ref):=λxs n h r=>by
 cases xs with
 |nil=>exact n rfl
 |cons x xs=>
  obtain⟨v,r',e,h1,_⟩:=r;cases ds with
  |nil=>cases e
  |cons d ds=>
   cases e;rw[YD,VN]at h;cases x with
   |tup ts=>
    obtain⟨b,vs,e,h2,_⟩:=h1;cases e;obtain⟨ws,hw⟩:=p.it d VB;obtain⟨_,h2⟩|⟨o,mq,n,h2,_⟩:=h2
    ·rw[hw]at h2;cases h2
    ·rw[nk d VB]at h2;cases h2
   |_=>cases h.1
theorem LQ{K:W.Frag}{O:fk->Prop}{H:Hp}{v:V}{m:Str}:∀xs:List T,xs≠[]->xs.all Cj=true->¬cP K H O xs [v,.str m]:=λxs n h r=>by
 match xs,h,r with
 |[],_,_=>exact n rfl
 |[_],_,⟨_,_,e,_,e2⟩=>cases e2;cases e
 |x::y::xs,h,⟨_,_,e,_,w,r2,e2,h2,_⟩=>
  subst e2;cases e;rw[YD,YD,VN,VN]at h;cases y with
  |tup ts=>obtain⟨b,vs,e,_⟩:=h2;cases e
  |_=>cases h.2.1
section
variable{X:Cx}{K:W.Frag}{pos:Pos}{c e:oC}{st s4 s5:fq}{rest:List fq}{Fr:FA}{F G F4 F5:FS}{i:Nat}
def RU(i:Nat)(Fr:FA):FS:=λD E=>Fr E λrs E2=>match rs with
 |[.s m]=>(match E2[m]? with
  |some (↥ys)=>Vl (.lst ys)=true/\(match((E2.set m (⇑(.lst ys))).take E.length)[i]? with
   |some (⇑(.lst xs))=>xs.length<9000/\xs.all Vl=true/\((((E2.set m (⇑(.lst ys))).take E.length).set i none).all okU)=true/\D.nx (((E2.set m (⇑(.lst ys))).take E.length).set i (⇑(.lst (xs++[.lst ys]))))
   |_=>False)
  |_=>False)
 |_=>False
theorem C3(eK:X.K=K)(hi:X.N[i]?=oZ x)(hv:O1 X.env.scope x)(ha:QA X [e] (cM K n Fr))(qg:iq (.Name x p1) "append" X.env (ie (.Name x p1) X.env)=ie (.Name x p1) X.env:=by rfl)(qh:(ap.endLine==cp.line)=true:=by rfl)(hs:a8 e=false:=by rfl)(hd:(x==("__debug__":Str))=false:=by decide)(yn:(x==("__classdict__":Str))=false:=by decide)(hw:ir (.Call (.Attribute (.Name x p1) "append" ap) [e] [] cp) none pos.line X.env=pure false:=by rfl):
  QS X (.Expr (.Call (.Attribute (.Name x p1) "append" ap) [e] [] cp) pos) (rD i K (RU i Fr)):=by
 subst eK;refine⟨λpins s σ H D I h=>(xH (uY (qv i hi hv hd yn) ha qg qh hs) hw).h pins s σ H D I ?_⟩;obtain⟨B,H0,S0,E0,a,hs,E,DT,ps,hF,l⟩:=h;obtain⟨ds,pl,hds⟩:=ps.ds;have nk:∀d∈a::ds,YQ d X.K=none:=λd m=>let⟨ws,e⟩:=pl.some d m;BJ I e;refine⟨_,pl.at_,.inl ⟨rfl,_,k9.of pl.ls⟩,B,σ,E,_,⟨[],by simp⟩,ps.re,hF,λrs E2 us H2 S2 q g2 rn rr hn=>?_⟩;split at q
 ·rename_i m;obtain⟨w,ws,e1,h1,h2⟩:=rr;cases h2;subst e1;split at q
  ·rename_i ys hE2;obtain⟨oky,q⟩:=q;obtain⟨d,vs',k1,k2,k3,k4⟩:=rn.own m false ys hE2;have h1:S2[m]?=oZ (oZ w):=h1;rw[k1]at h1;cases h1;obtain⟨ud,ow3⟩:=rn.frz hE2;obtain⟨v',z1,rpd⟩:=ud.pure m (.lst ys) (by rw[VM (UO.mp hE2).1]);rw[k1]at z1;cases z1;obtain⟨xx,ow4⟩:=ud.cut (E:=E) g2.pre ps.re.len;have gs:Gs B H σ E H2 σ ((E2.set m (⇑(.lst ys))).take E.length):=g2.kp.trans ((Kp.less λb z=>(ow3 b z).1).trans (Kp.less ow4));have p4:=ps.step gs xx rfl;have pl4:=pl.keep gs rfl;have owd:Ow B S2 E2 d:=.inr ⟨m,false,ys,hE2,k1⟩;have dn:d∉a::ds:=λz=>by
    obtain y|y:=g2.kp.new d owd
    ·exact pl.no d z y
    ·obtain⟨ws,e⟩:=pl.some d z;rw[y]at e;cases e
   have nOd:¬Ow B σ ((E2.set m (⇑(.lst ys))).take E.length) d:=λz=>(ow3 d (ow4 d z)).2 k1;have aFZ:Rp X.K H2 (Ow B σ ((E2.set m (⇑(.lst ys))).take E.length)) (.lst ys) (.ref d):=rpd.step (Kp.less ow4);generalize(E2.set m (⇑(.lst ys))).take E.length=E3 at q xx p4 pl4 nOd aFZ gs;split at q
   ·rename_i xs hE3;obtain⟨lx,okx,ok,q⟩:=q;obtain⟨v,z1,z2⟩:=xx.pure i _ hE3;rw[pl4.at_]at z1;cases z1;have itm:=pl4.items (nk a VB) z2;have aF1:=itm.length;rw[UX]at aF1;have av:=AQ (K:=X.K) (H:=H2) (c:=a) (O:=Ow B σ E3) (us:=(ds++[d]).map V.ref) (λb=>xx.ow) pl4.ls (pl4.nt λd m=>nk d (UW _ m));have da:d≠a:=λz=>dn (by rw[z];exact VB);have dsa:∀d'∈ds,d'≠a:=λd' m z=>(WL.mp pl.nd).1 (by rw[<-z];exact m);have aCZ:cP X.K (upd H2 a (.lst ((ds++[d]).map V.ref))) (Ow B σ E3) (xs++[.lst ys]) ((ds++[d]).map V.ref):=by
     rw[VE];rw[VE]at av;exact(Ew av okx dsa itm).append ⟨_,[],rfl,Mz av oky da aFZ,rfl⟩
    obtain⟨xu,ow5⟩:=xx.chg pl4.ls (pl4.no a VB) av ok hE3 pl4.at_ (t:=.lst (xs++[.lst ys])) ⟨a,_,rfl,.inl ⟨pl4.no a VB,.inl cR⟩,aCZ⟩;refine⟨a,ds.map V.ref,.ref d,rfl,rfl,pl4.ls,by rw[UX,aF1];exact bS (WC lx),?_⟩;have eU:(ds.map V.ref++[V.ref d])=(ds++[d]).map V.ref:=by rw[VE];rfl
    rw[eU];refine l.nx _ _ _ q ⟨⟨ds++[d],⟨pl4.at_,cR,?_,λd' m z=>?_,λd' m=>?_⟩,λd' m=>?_⟩,p4.oa,⟨λb o e n=>?_,λb z=>p4.g.new b (ow5 b z)⟩,xu,λy m=>⟨(p4.hd y m).1,(av _ _ (p4.hd y m).1 (p4.hd y m).2).step (Kp.less ow5)⟩⟩
    ·rw[<-bh];refine List.nodup_append.mpr ⟨pl.nd,by simp,λu hu w hw z=>?_⟩;rw[VS]at hw;exact dn (by rw[<-hw,<-z];exact hu)
    ·rw[<-bh,VX,VS]at m;obtain m|rfl:=m
     ·exact pl4.no d' m (ow5 _ z)
     ·exact nOd (ow5 _ z)
    ·rw[VX,VS]at m;obtain m|rfl:=m
     ·obtain⟨ws,e⟩:=pl4.it d' m;exact⟨ws,by rw[aV (dsa d' m)];exact e⟩
     ·exact⟨vs',by rw[aV da];exact k2⟩
    ·rw[VX,VS]at m;obtain m|rfl:=m
     ·exact hds d' m
     ·exact(ps.g.trans g2.kp).new _ owd
    ·rw[aV λz=>n (by rw[z];exact p4.oa)];exact p4.g.keep b o e n
   ·exact q.elim
  ·exact q.elim
 ·exact q.elim
def Ed(k:Nat)(z:Str)(xs:List T):List T:=match xs[k]? with
 |some (.lst [s,.str _])=>xs.set k (.lst [s,.str z])
 |_=>xs
theorem Ps.sign{B:fk->Prop}{H0:Hp}{S0:St}{E0:En}{a:fk}{hs:List (T×V)}{σ:St}{H:Hp}{E:En}{ds:List fk}{xs:List T}{k:Nat}{z:Str}(p:Ps i K B H0 S0 E0 a hs σ H E)(pl:Pl i (Ow B σ E) σ H a ds)(hds:∀d∈ds,Ow B S0 E0 d\/H0 d=none)(nk:∀d∈a::ds,YQ d K=none)
  (hE:E[i]?=oZ (⇑(.lst xs))) (okx:xs.all Vl=true) (ok:((E.set i none).all okU)=true) (hk:k<xs.length):∃d v m,ds[k]?=oZ d/\H d=oZ (.lst [v,.str m])/\Ps i K B H0 S0 E0 a hs σ (upd H d (.lst [v,.str z])) (E.set i (⇑(.lst (Ed k z xs))))/\Pl i (Ow B σ (E.set i (⇑(.lst (Ed k z xs))))) σ (upd H d (.lst [v,.str z])) a ds/\(Ed k z xs).all Vl=true/\(Ed k z xs).length=xs.length:=by
 obtain⟨w,z1,z2⟩:=p.re.pure i _ hE;rw[pl.at_]at z1;cases z1;have itm:=pl.items (nk a VB) z2;have hx:=UP hk;obtain⟨d,hd,rp⟩:=HX itm hx;have dm:=UR hd;obtain⟨ws,hw⟩:=pl.it d dm;have ox:=WM.mp okx _ (XN hk);obtain⟨s,m,v,ex,os,rfl,rs⟩:=LC ox (nk d (UW _ dm)) hw rp;have ec:Ed k z xs=xs.set k (.lst [s,.str z]):=by unfold Ed;rw[hx,ex]
 have nOd:=pl.no d (UW _ dm);have av:=AQ (K:=K) (H:=H) (c:=d) (O:=Ow B σ E) (us:=[v,.str z]) (λb=>p.re.ow) hw LQ;have da:a≠d:=λy=>(WL.mp pl.nd).1 (by rw[y];exact dm);have aIN:Rp K (upd H d (.lst [v,.str z])) (Ow B σ E) (.lst [s,.str z]) (.ref d):=⟨d,_,rfl,.inl ⟨nOd,.inl cR⟩,v,_,rfl,av _ _ os rs,_,[],rfl,rfl,rfl⟩;have fD:∀{xs:List T}{ds:List fk}{k:Nat},xs.all Vl=true->ds.Nodup->ds[k]?=oZ d->cP K H (Ow B σ E) xs (ds.map V.ref)->cP K (upd H d (.lst [v,.str z])) (Ow B σ E) (xs.set k (.lst [s,.str z])) (ds.map V.ref):=λ{xs}=>by
  induction xs with
  |nil=>
   intro ds k _ _ hd r;cases ds with
   |nil=>simp at hd
   |cons _ _=>cases r
  |cons x xs ih=>
   intro ds k h nd hd r;obtain⟨u,r',e,h1,h2⟩:=r;cases ds with
   |nil=>cases e
   |cons d' ds=>
    cases e;rw[YD,VN]at h;obtain⟨n1,n2⟩:=WL.mp nd;cases k with
    |zero=>
     simp at hd;subst hd;exact⟨_,_,rfl,aIN,Ew av h.2 (λd2 m y=>n1 (by rw[<-y];exact m)) h2⟩
    |succ k=>
     have hd:ds[k]?=oZ d:=by simpa using hd
     exact⟨_,_,rfl,Mz av h.1 (λy=>n1 (by rw[y];exact UR hd)) h1,ih h.2 n2 hd h2⟩
 have aCZ:=fD okx (WL.mp pl.nd).2 hd itm;rw[<-ec]at aCZ;obtain⟨xu,ow5⟩:=p.re.chg hw nOd av ok hE pl.at_ (t:=.lst (Ed k z xs)) ⟨a,_,rfl,.inl ⟨pl.no a VB,.inl (by rw[aV da];exact pl.ls)⟩,aCZ⟩;have pl5:Pl i (Ow B σ (E.set i (⇑(.lst (Ed k z xs))))) σ (upd H d (.lst [v,.str z])) a ds:=⟨pl.at_,by rw[aV da];exact pl.ls,pl.nd,λd' m y=>pl.no d' m (ow5 _ y),λd' m=>by
  by_cases y:d'=d
  ·exact⟨_,by rw[y];exact cR⟩
  ·obtain⟨ws,e⟩:=pl.it d' m;exact⟨ws,by rw[aV y];exact e⟩⟩
 refine⟨d,v,m,hd,hw,⟨⟨ds,pl5,hds⟩,p.oa,⟨λb o e n=>?_,λb y=>p.g.new b (ow5 b y)⟩,xu,λy m=>⟨(p.hd y m).1,(av _ _ (p.hd y m).1 (p.hd y m).2).step (Kp.less ow5)⟩⟩,pl5,?_,by rw[ec,XS]⟩
 ·rw[aV λy=>?_]
  ·exact p.g.keep b o e n
  ·rw[y]at e n;obtain q|q:=hds d dm
   ·exact n q
   ·rw[q]at e;cases e
 ·rw[ec];refine WM.mpr λx hx=>?_;obtain m|rfl:=List.mem_or_eq_of_mem_set hx
  ·exact WM.mp okx x m
  ·exact os
theorem X0{n:Int}:QE X (.UnaryOp .USub (.Constant (.int n) j p) q) (tC (.int (-n))):=(BM L8 zF).le λσ H Q _ h=>⟨n,rfl,h⟩
def MX(i:Nat)(y z:Str):FS:=λD E=>match E[i]? with
 |some (⇑(.lst xs))=>2<=xs.length/\xs.all Vl=true/\((E.set i none).all okU)=true/\D.nx (E.set i (⇑(.lst (Ed (xs.length-1) z (Ed 0 y xs)))))
 |_=>False
theorem GZ{y z:Str}{o1 o2:oC}{q1 q2 q3 q4 q5 q6 pt pv:Pos}{j0 j1 kt k2 n1 n2:Nat}(eK:X.K=K)(hc:X.calm=true)(ho1:QE X o1 (Wr (X8 X.K) (wU i) (tC (.int 0))))(ho2:QE X o2 (Wr (X8 X.K) (wU i) (tC (.int (-1)))))
  (ha1:∀v,jg (.Subscript o1 (.Constant (.int 1) j0 q1) q2) X.env v=(do
   let ov <-jd [v] (ie o1 X.env)
   let iv <-jd [v,ov] (ie (.Constant (.int 1) j0 q1) X.env)
   standAt q2
   jd [v,ov,iv] (setItem ov iv v)
   release [v,ov,iv] []):=by intro _;rfl)
  (ha2:∀v,jg (.Subscript o2 (.Constant (.int 1) j1 q3) q4) X.env v=(do
   let ov <-jd [v] (ie o2 X.env)
   let iv <-jd [v,ov] (ie (.Constant (.int 1) j1 q3) X.env)
   standAt q4
   jd [v,ov,iv] (setItem ov iv v)
   release [v,ov,iv] []):=by intro _;rfl)
  (hs:je [.Tuple [.Subscript o1 (.Constant (.int 1) j0 q1) q2,.Subscript o2 (.Constant (.int 1) j1 q3) q4] kt pt] (.Tuple [.Constant (.str y) n1 q5,.Constant (.str z) n2 q6] k2 pv) pos.line X.env=pure false:=by rfl)
  (hw:jf [.Tuple [.Subscript o1 (.Constant (.int 1) j0 q1) q2,.Subscript o2 (.Constant (.int 1) j1 q3) q4] kt pt] (.Tuple [.Constant (.str y) n1 q5,.Constant (.str z) n2 q6] k2 pv) X.env=pure none:=by rfl)
  (h1:(gv [.Tuple [.Subscript o1 (.Constant (.int 1) j0 q1) q2,.Subscript o2 (.Constant (.int 1) j1 q3) q4] kt pt] X.env).map (·.2)=[jg (.Tuple [.Subscript o1 (.Constant (.int 1) j0 q1) q2,.Subscript o2 (.Constant (.int 1) j1 q3) q4] kt pt) X.env]:=by rfl)
  (hs1:(gv [.Subscript o1 (.Constant (.int 1) j0 q1) q2,.Subscript o2 (.Constant (.int 1) j1 q3) q4] X.env).map (·.2)=jg (.Subscript o1 (.Constant (.int 1) j0 q1) q2) X.env::(gv [.Subscript o2 (.Constant (.int 1) j1 q3) q4] X.env).map (·.2):=by rfl)
  (xp:(gv [.Subscript o2 (.Constant (.int 1) j1 q3) q4] X.env).map (·.2)=jg (.Subscript o2 (.Constant (.int 1) j1 q3) q4) X.env::(gv [] X.env).map (·.2):=by rfl)
  (hn:(gv [.Subscript o1 (.Constant (.int 1) j0 q1) q2,.Subscript o2 (.Constant (.int 1) j1 q3) q4] X.env).length=2:=by rfl) (xw:(gv [.Subscript o1 (.Constant (.int 1) j0 q1) q2,.Subscript o2 (.Constant (.int 1) j1 q3) q4] X.env).findIdx? (·.1)=none:=by rfl) :
  QS X (.Assign [.Tuple [.Subscript o1 (.Constant (.int 1) j0 q1) q2,.Subscript o2 (.Constant (.int 1) j1 q3) q4] kt pt] (.Tuple [.Constant (.str y) n1 q5,.Constant (.str z) n2 q6] k2 pv) pos) (rD i K (MX i y z)):=by
 subst eK;refine⟨λpins s σ H D I h=>(D3 (Oy (qc ⟨Gj⟩ (qc ⟨Gj⟩ Ot))) (Gn hc (kW (Oz ho1 zF Ad ha1) (kW (Oz ho2 zF Ad ha2) xG xp) hs1) hn xw) hs hw h1).h pins s σ H D I ?_⟩;obtain⟨B,H0,S0,E0,a,hs',E,DT,ps,hF,l⟩:=h;obtain⟨ds,pl,hds⟩:=ps.ds;have nk:∀d∈a::ds,YQ d X.K=none:=λd m=>let⟨ws,e⟩:=pl.some d m;BJ I e;unfold MX at hF;split at hF
 ·rename_i xs hE;obtain⟨h2,okx,ok,q⟩:=hF;refine⟨by show 2<=gf;decide,λb hb=>?_⟩;have up:∀c o,H c=oZ o->upd H b (.tup [.str y,.str z]) c=oZ o:=λc o e=>by rw[aV (a9 e hb)];exact e
  have ps1:=ps.step (Kp.upd hb) (ps.re.kept up) rfl;have pl1:=pl.keep (O':=Ow B σ E) (H':=upd H b (.tup [.str y,.str z])) ⟨λc o e _=>up c o e,λc z=>.inl z⟩ (σ':=σ) rfl;have hE':E.length=E.length:=rfl;obtain⟨d0,v0,m0,e0,w0,ps2,pl2,aIO,lx2⟩:=ps1.sign (k:=0) (z:=y) pl1 hds nk hE okx ok ⋯;have li:=(UO.mp hE).1;have hE2:(E.set i (⇑(.lst (Ed 0 y xs))))[i]?=oZ (⇑(.lst (Ed 0 y xs))):=VM li;have aF2:∀u:Option U,((E.set i (⇑(.lst (Ed 0 y xs)))).set i u)=E.set i u:=λu=>List.set_set ..;obtain⟨d1,v1,m1,e1,w1,ps3,pl3,_,_⟩:=ps2.sign (k:=xs.length-1) (z:=z) pl2 hds nk hE2 aIO (by rw[aF2];exact ok) ⋯;rw[aF2]at ps3;have ld:ds.length=xs.length:=by
   obtain⟨w,z1,z2⟩:=ps.re.pure i _ hE;rw[pl.at_]at z1;cases z1;have:=(pl.items (nk a VB) z2).length;rw[UX]at this;exact this
  have at0:dX (ds.map V.ref) 0=oZ (.ref d0):=gR (j:=0) (by rw[UQ,e0];rfl);have at1:dX (ds.map V.ref) (-1)=oZ (.ref d1):=by
   obtain⟨L,u,e⟩:∃L u,ds=L++[u]:=⟨ds.dropLast,ds.getLast (by intro n;rw[n]at ld;simp at ld;lia),(XY _).symm⟩;have:d1=u:=by
    rw[e,UT,VL]at ld;rw[e,show xs.length-1=L.length by lia,VU (VA _),Nat.sub_self]at e1;exact(Option.some.inj e1).symm
   rw[this,e,VE];exact kK _ _
  refine⟨b,[.str y,.str z],rfl,.inl (.inl cR),rfl,.str y,[.str z],rfl,?_⟩;refine⟨_,pl.at_,a,ds.map V.ref,0,_,rfl,rfl,k9.of pl1.ls,at0,d0,_,1,1,rfl,rfl,w0,rfl,?_⟩;refine⟨.str z,[],rfl,?_⟩;refine⟨_,pl.at_,a,ds.map V.ref,-1,_,rfl,rfl,k9.of pl2.ls,at1,d1,_,1,1,rfl,rfl,w1,rfl,rfl,?_⟩;exact l.nx _ _ _ q ps3
 ·exact hF.elim
def UL(i:Nat)(F G:FS):FS:=λD E=>E[i]?=oZ (↥[])/\F { D with nx:=λE'=>uD E' (G D) } (E.set i (⇑(.lst [])))
theorem KP(h4:QS X s4 (rD i K F4))(h5:QS X s5 (rD i K F5))(hr:QB X rest (eQ K G)):QB X (s4::s5::rest) (eQ K (UL i (Gw F4 F5) G)):=
 (qS h4 (qS h5 hr)).le λD σ H zZ=>by
  obtain⟨B,E,DT,re,⟨hE,hF⟩,l⟩:=zZ;obtain⟨a,vs,h1,h2,h3,h4⟩:=re.own i false [] hE;cases h3;obtain⟨mz,ow⟩:=re.frz hE;have oa:Ow B σ E a:=.inr ⟨i,false,[],hE,h1⟩;have p:Ps i K B H σ E a [] σ H (E.set i (⇑(.lst []))):=⟨⟨[],⟨h1,h2,by simp,λd hd z=>by
   rw[VS]at hd;exact(ow d z).2 (by rw[hd];exact h1),λd hd=>by cases hd⟩,λd hd=>by cases hd⟩,oa,Kp.less λb z=>(ow b z).1,mz,λq m=>by cases m⟩
  refine⟨B,H,σ,E,a,[],_,_,p,hF,⟨λσ' H' E' hG p'=>⟨B,H,σ,E,a,[],E',_,p',dS hG,⟨λσ2 H2 E2 hG2 p2=>⟨B,E2,DT,p2.re,dS hG2,l.step p2.g⟩,l.rt,λ_ _ _ z p'=>l.bk _ _ _ z p'.g p'.re,λ_ _ _ z p'=>l.ct _ _ _ z p'.g p'.re⟩⟩,l.rt,λ_ _ _ z p'=>l.bk _ _ _ z p'.g p'.re,λ_ _ _ z p'=>l.ct _ _ _ z p'.g p'.re⟩⟩
def IB(i j k:Nat)(Fr:FA):FS:=λD E=>Fr E λrs E'=>match rs with
 |[.p t,.p w,r]=>o1 (Gk E.length E' r) λu=>D.nx ((((E'.take E.length).set k (oZ u)).set j (⇑w)).set i (⇑t))
 |_=>False
theorem Yk{kt k2 pt2}(hc:X.calm=true)(hN:X.N.Nodup)(hi:X.N[i]?=oZ x)(hj:X.N[j]?=oZ y)(hk:X.N[k]?=oZ z)(hij:i≠j)(hik:i≠k)(hjk:j≠k)(hx:X.env.scope.names.lookup x=oZ .local)(hy:X.env.scope.names.lookup y=oZ .local)(hz:X.env.scope.names.lookup z=oZ .local)(ha:QA X [a,b,c] (cM K n Fr))(hw:jf [.Tuple [.Name x px,.Name y py,.Name z pz] kt pt] (.Tuple [a,b,c] k2 pt2) X.env=pure (oZ [x,y,z]))(hs:je [.Tuple [.Name x px,.Name y py,.Name z pz] kt pt] (.Tuple [a,b,c] k2 pt2) pos.line X.env=pure false:=by rfl):
  QS X (.Assign [.Tuple [.Name x px,.Name y py,.Name z pz] kt pt] (.Tuple [a,b,c] k2 pt2) pos) (eQ K (IB i j k Fr)):=by
 refine(X5 hc hN hi hj hk hij hik hjk hx hy hz ha hw hs).le λD σ H hl⟨B,E,DT,re,hF,l⟩=>⟨B,σ,E,_,⟨[],by simp⟩,re,hF,λrs E' vs H' S' q g ni rr hn=>?_⟩;split at q
 ·rename_i t w r;obtain⟨v1,ws1,e1,h1,v2,ws2,e2,h2,v3,ws3,e3,h3,h4⟩:=rr;cases h4;subst e3;subst e2;subst e1;obtain⟨u,e4,q⟩:=q.ex;rw[<-re.len]at e4 q;obtain⟨r1,ow⟩:=lH (i:=k) ni g.pre h3 e4;obtain⟨r2,ow2⟩:=r1.setP (i:=j) (Rp.step (Kp.less ow) h2);obtain⟨r3,ow3⟩:=r2.setP (i:=i) (Rp.step (Kp.less λb z=>ow b (ow2 b z)) h1);have e:((σ.set i (oZ v1)).set j (oZ v2)).set k (oZ v3)=((σ.set k (oZ v3)).set j (oZ v2)).set i (oZ v1):=by
   rw[YB _ _ hij,YB (oZ v1) (oZ v3) hik,YB (oZ v2) (oZ v3) hjk]
  refine⟨v1,v2,v3,rfl,?_⟩;rw[e];exact l.nx _ _ _ q (g.kp.trans (Kp.less λb z=>ow b (ow2 b (ow3 b z)))) r3
 ·exact q.elim
end
end L2
namespace My
open PySem L2 PyProof.Rows
def top(i:Nat):fq:=PySem.Challenge.pw_sidecut_k19_blocks_told.main.body.getD i (.Pass ⟨0,0,0,0⟩)
section
variable{P:fu}{w:gn}{K:W.Frag}{mg:Str->Option oA}{base:oE}
structure Bx(xs:List T)(n:Int):Prop where
 ex:∃A B c:Int,xs=[.int A,.int B,.int c]/\0<=A/\0<=B/\B<2147483647/\0<=c/\c<=n
theorem Bx.mono{n m:Int}(b:Bx xs n)(h:n<=m):Bx xs m:=let⟨A,B,c,h1,h2,h3,h4,h5,h6⟩:=b;⟨A,B,c,h1,h2,h3,h4,h5,⋯⟩
def CV:dF:=λas Q=>∃(xs:List T)(m n:Int),as=[.b xs,.v (.int m)]/\Bx xs n/\n<=1000000/\1<=m/\m<2^200/\∀r ys,0<=r->r<m->Bx ys (n+1)->Q (.v (.int r)) ys
abbrev qO(P w K mg base):=(~~~Fn) 1 "_law_take" ["_law_box_here","_law_many"] (aI K CV)
abbrev Pp:fq:=top 70
theorem Hl:aF ["_law_box_here","_law_many","_law_once","_law_found"] ["_law_box_here","_law_many"] (aC Pp):=dJ
theorem U2(F:cI K "_law_take" "_law_take" Pp f fd)(TX:Txt mg):(~~~aS) cL 1 f fd ["_law_box_here","_law_many"] (aI K CV):=by
 refine F.okU Hl (λhr=>(aB (bP (fP zB (fQ 0) aA) (aB (gG (Uz rfl TX.n_divmod (f2 (fQ 0) (fv 1))) (dA (n:=2) rfl rfl (aK (Mq (fv 0) aA) (aK (fG 3 Hl.nd) cA)))) (aE (aG (fv 3)))) bE) (aB (gG (a7 cE (fQ 0) aA) (Mq (fv 0) aA)) (aB (fS 2 Hl.nd (aR gX (aR A7 (a7 cE (fQ 0) (aR bA aA (fQ 0))) aA) aA)) (aE (aG (aR gX (aR dU (aR gX (a7 cE (aR bA (fv 2) aA) (aR bA (aR bA (fQ 0) (fQ 0)) aA)) aA) aA) (fv 1)))))))) ?_;rintro as Q ⟨xs,m,n,rfl,⟨A,B,c,rfl,hA,hB,hB2,hc,hcn⟩,hn,h1,h2,k⟩;show if decide (0<A)=true then _ else _
 by_cases hA0:0<A
 ·rw[oY hA0,oV rfl];refine⟨⟨⋯,h2⟩,⟨rfl,k _ _ (dh _ ⋯) (ZF _ ⋯) ⟨_,_,_,rfl,Int.ediv_nonneg hA ⋯,hB,hB2,hc,⋯⟩⟩⟩
 ·rw[oX hA0,oW ∅];have p5:N8 (B+39373*(c+1)) 5:=⟨∅,∅,⋯⟩;have d64:Bf (((B+39373*(c+1))^(5:Int).toNat%2147483647*48271+(c+1)*(c+1)*7919)%2147483629) 64:=⟨∅,VJ (show(64:Int).natAbs<2^7 by decide) (WU ∅ ∅)⟩;refine⟨Nl ∅,p5,(by show(0:Int)<2147483647;decide),?_⟩;refine⟨Jk ∅,Nl ⋯,Jk ∅,?_⟩;refine⟨(by show(0:Int)<2147483629;decide),d64,(by show(0:Int)<m;lia),⟨rfl,?_⟩⟩;exact k _ _ (dh _ ⋯) (ZF _ ⋯) ⟨_,_,_,rfl,hA,hB,hB2,⋯,⋯⟩
def bK(ns:List Int):List T:=ns.map T.int
theorem Yx{ns:List Int}{k:Int}(h0:0<=k)(h1:k<(ns.length:Int)):∃z,dX (bK ns) k=oZ (.int z):=by
 have hk:k.toNat<ns.length:=⋯
 refine⟨ns[k.toNat],?_⟩;have e3:k=((k.toNat:Nat):Int):=⋯
 have z:=gR (xs:=bK ns) (j:=k.toNat) (v:=T.int ns[k.toNat]) (by rw[bK,UQ,UP hk];rfl);rw[<-e3]at z;exact z
def J4:dF:=λas Q=>∃(ns:List Int)(k:Int),as=[.v (.lst (bK ns)),.v (.int k)]/\0<=k/\k<=1000/\∀xs,Bx xs 0->bM xs=true->Q (.l xs) []
def AD:dF:=λas Q=>∃(n d:Int),as=[.v (.int n),.v (.int d)]/\d≠0/\d.natAbs<2^8000/\Q (.v (fr (jT n d))) []
theorem vZ{i:Int}{n d:Int}(hd:d≠0)(hb:d.natAbs<2^8000):Bf i ((WD n.natAbs d.natAbs:Nat):Int):=by
 have h1:0<WD n.natAbs d.natAbs:=ZE _ ⋯;have h2:WD n.natAbs d.natAbs<=d.natAbs:=Nat.gcd_le_right _ ⋯;exact⟨⋯,VT ⋯ hb⟩
theorem Qz(i:Int)(n:Nat):i.fdiv (n:Int)=i/(n:Int):=XE _ ⋯
def Sz:dF:=λas Q=>∃(n d:Int),as=[.v (.int n),.v (.int d)]/\Q (.v (.int ((WD n.natAbs d.natAbs:Nat):Int))) []
abbrev lD(P w K mg base):=(~~~Fn) 1 "common_divisor" oH (aI K Sz)
abbrev i4:fq:=top 1
theorem iJ:aF oH oH (aC i4):=dJ
theorem tV(F:cI K "common_divisor" "common_divisor" i4 f fd)(TX:Txt mg):(~~~aS) cL 1 f fd oH (aI K Sz):=by
 refine F.okU iJ (λhr=>(aB (dZ (i:=0) (j:=1) rfl iJ.nd rfl rfl ∅ rfl rfl (f2 (uM rfl TX.n_abs (f1 (fv 0))) (uM rfl TX.n_abs (f1 (fv 1)))) rfl) (aB (pG PassesOwn.never (rL rfl hr (fv 1) aA (aZ _)) (aE (dZ (i:=0) (j:=1) rfl iJ.nd rfl rfl ∅ rfl rfl (f2 (fv 1) (aR gX (fv 0) (fv 1))) rfl))) (aE (aG (fv 0)))))) ?_;rintro as Q ⟨n,d,rfl,q⟩;refine⟨λm E=>∃x y:Nat,E=[↑x,↑y]/\m=y/\WD x y=WD n.natAbs d.natAbs,⟨_,_,_,rfl,rfl,rfl⟩,?_⟩;rintro m E ⟨x,y,rfl,rfl,hg⟩;refine⟨UU _,?_⟩;show if(!((m:Int)==0))=true then _ else _
 by_cases hy:m=0
 ·subst hy;rw[oW ∅];rw[Nat.gcd_zero_right]at hg;subst hg;exact⟨rfl,q⟩
 ·rw[oV (by simpa using hy)];exact⟨(by show(0:Int)<(m:Int);lia),x%m,YV _ ⋯,m,x%m,rfl,rfl,by rw[Jd];exact hg⟩
abbrev eR(P w K mg base):=(~~~Fn) 2 "fraction" ["n","d"] (aI K AD)
abbrev sA:fq:=top 2
theorem qG:aF ["n","d","divisor"] ["n","d"] (aC sA):=dJ
theorem Jt(F:cI K "fraction" "fraction" sA f fd)(TX:Txt mg)(se: ~~~lD):(~~~aS) cL 2 f fd ["n","d"] (aI K AD):=by
 refine F.okU qG (λhr=>(aB (Vc (rL rfl hr (fv 1) aA (aZ _))) (aB (fS 2 qG.nd (fK se (f2 (fv 0) (fv 1)))) (aB (bP (fP kT (fv 1) aA) (aE (fS 2 qG.nd (c7 (fv 2)))) bE) (aE (aG (aJ (f2 (aR dU (fv 0) (fv 2)) (aR dU (fv 1) (fv 2)))))))))) ?_;rintro as Q ⟨n,d,rfl,hd,hb,q⟩;have hd':(!(d==0))=true:=by simpa using hd
 refine⟨UU _,hd',n,d,rfl,?_⟩;have dn:((WD n.natAbs d.natAbs:Nat):Int)∣n:=XJ.mpr (YU _ _);have dd:((WD n.natAbs d.natAbs:Nat):Int)∣d:=XJ.mpr (YR _ _);have g0:((WD n.natAbs d.natAbs:Nat):Int)≠0:=(vZ (i:=0) (n:=n) hd hb).1;have aQ:∀{g m:Int},g≠0->g∣m->m.fdiv (-g)=(-m)/g:=λ{g m}h0 hm=>by
  obtain⟨k,rfl⟩:=hm;have e1:g*k=(-g)*(-k):=by grind
  have e2:-(g*k)=g*(-k):=by grind
  rw[e2,WZ _ h0,e1,cj _ ⋯]
 show if decide (d<0)=true then _ else _
 by_cases h:d<0
 ·rw[oY h,oV rfl];have cz:∀i:Int,Bf i (-((WD n.natAbs d.natAbs:Nat):Int)):=λi=>⟨⋯,by rw[ZI];exact(vZ (i:=i) (n:=n) hd hb).2⟩;refine⟨cz _,cz _,rfl,?_⟩;unfold jT tU pI at q;rw[oW ⋯,oW ⋯,<-aQ g0 dn,<-aQ g0 dd]at q;exact q
 ·rw[oX h,oW ∅];refine⟨vZ hd hb,vZ hd hb,rfl,?_⟩;unfold jT tU pI at q;rw[oV ⋯,oV ⋯,<-Qz,<-Qz]at q;exact q
theorem pl(h:x<2^e)(k:e<=f):x<2^f:=VJ h (WU ∅ k)
def wR(op:Fr->Fr->Fr):dF:=λas Q=>∃x y:Fr,as=[.v (fr x),.v (fr y)]/\bI x/\bI y/\sz x+sz y<=7900/\Q (.v (fr (op x y))) []
abbrev iB(P w K mg base):=(~~~Fn) 3 "added" oH (aI K (wR bH))
abbrev Gx:fq:=top 3
theorem F7:aF oH oH (aC Gx):=dJ
theorem Zs(F:cI K "added" "added" Gx f fd)(TX:Txt mg)(my: ~~~eR):(~~~aS) cL 3 f fd oH (aI K (wR bH)):=by
 refine F.okU F7 (λhr=>(aE (aG (fK my (f2 (a7 cE (aR bA (fQ 0) (fQ 1)) (aR bA (fQ 1) (fQ 0))) (aR bA (fQ 0) (fQ 1))))))) ?_;rintro as Q ⟨x,y,rfl,hx,hy,hs,q⟩;have hd:(x.2*y.2).natAbs<2^8000:=uV (bL (b8 x) (b8 y)) ⋯;exact⟨jU (e:=7900) (pl (dW x) ⋯) (pl (b8 y) ⋯) ∅,jU (e:=7900) (pl (dW y) ⋯) (pl (b8 x) ⋯) ∅,jU (e:=7900) (pl (b8 x) ⋯) (pl (b8 y) ⋯) ∅,_,_,rfl,fF hx hy,hd,rfl,q⟩
abbrev l9(P w K mg base):=(~~~Fn) 3 "taken" oH (aI K (wR aT))
abbrev Hf:fq:=top 4
theorem G4:aF oH oH (aC Hf):=dJ
theorem A4(F:cI K "taken" "taken" Hf f fd)(TX:Txt mg)(my: ~~~eR):(~~~aS) cL 3 f fd oH (aI K (wR aT)):=by
 refine F.okU G4 (λhr=>(aE (aG (fK my (f2 (a7 iY (aR bA (fQ 0) (fQ 1)) (aR bA (fQ 1) (fQ 0))) (aR bA (fQ 0) (fQ 1))))))) ?_;rintro as Q ⟨x,y,rfl,hx,hy,hs,q⟩;have hd:(x.2*y.2).natAbs<2^8000:=uV (bL (b8 x) (b8 y)) ⋯;exact⟨jU (e:=7900) (pl (dW x) ⋯) (pl (b8 y) ⋯) ∅,jU (e:=7900) (pl (dW y) ⋯) (pl (b8 x) ⋯) ∅,jU (e:=7900) (pl (b8 x) ⋯) (pl (b8 y) ⋯) ∅,_,_,rfl,fF hx hy,hd,rfl,q⟩
abbrev kI(P w K mg base):=(~~~Fn) 3 "times" oH (aI K (wR aN))
abbrev Hg:fq:=top 5
theorem G5:aF oH oH (aC Hg):=dJ
theorem A5(F:cI K "times" "times" Hg f fd)(TX:Txt mg)(my: ~~~eR):(~~~aS) cL 3 f fd oH (aI K (wR aN)):=by
 refine F.okU G5 (λhr=>(aE (aG (fK my (f2 (aR bA (fQ 0) (fQ 1)) (aR bA (fQ 0) (fQ 1))))))) ?_;rintro as Q ⟨x,y,rfl,hx,hy,hs,q⟩;have hd:(x.2*y.2).natAbs<2^8000:=uV (bL (b8 x) (b8 y)) ⋯;exact⟨jU (e:=7900) (pl (dW x) ⋯) (pl (dW y) ⋯) ∅,jU (e:=7900) (pl (b8 x) ⋯) (pl (b8 y) ⋯) ∅,_,_,rfl,fF hx hy,hd,rfl,q⟩
def cS(x y x' y':Fr):Fr:=bH (aN x x') (aN y y')
def aU(x y x' y':Fr):Fr:=aT (aN x y') (aN y x')
structure Nv(a b:Fr)(e:Nat):Prop where
 x:bI a
 y:bI b
 sx:sz a<=e
 sy:sz b<=e
def CY(op:Fr->Fr->Fr->Fr->Fr):dF:=λas Q=>∃(x y x' y':Fr)(e f:Nat),as=[.v (vc x y),.v (vc x' y')]/\Nv x y e/\Nv x' y' f/\e+f<=3900/\Q (.v (fr (op x y x' y'))) []
abbrev rO(P w K mg base):=(~~~Fn) 4 "dot" oH (aI K (CY cS))
abbrev F3:fq:=top 14
theorem ID:aF oH oH (aC F3):=dJ
theorem GA(F:cI K "dot" "dot" F3 f fd)(TX:Txt mg)(oq: ~~~kI)(oh: ~~~iB):(~~~aS) cL 4 f fd oH (aI K (CY cS)):=by
 refine F.okU ID (λhr=>(aE (aG (fK oh (f2 (fK oq (f2 (fQ 0) (fQ 1))) (fK oq (f2 (fQ 0) (fQ 1)))))))) ?_;rintro as Q ⟨x,y,x',y',e,f,rfl,h,k,he,q⟩;have:=h.sx;have:=h.sy;have:=k.sx;have:=k.sy;have n1:=aO h.x k.x;have n2:=aO h.y k.y;have s1:=cF h.x k.x;have s2:=cF h.y k.y;exact⟨_,_,rfl,h.x,k.x,⋯,_,_,rfl,h.y,k.y,⋯,_,_,rfl,n1,n2,⋯,rfl,q⟩
def Tc:dF:=λas Q=>∃x y:Fr,as=[.v (vc x y)]/\Q (.v (vc (aQ y) x)) []
abbrev iU(P w K mg base):=(~~~Fn) 1 "left_of" ["vector"] (aI K Tc)
abbrev vA:fq:=top 16
theorem sM:aF ["vector","x","y"] ["vector"] (aC vA):=dJ
theorem Nw(F:cI K "left_of" "left_of" vA f fd)(TX:Txt mg):(~~~aS) cL 1 f fd ["vector"] (aI K Tc):=by
 refine F.okU sM (λhr=>(aB (gG (fv 0) (dA (n:=2) rfl rfl (aK (fG 1 sM.nd) (aK (fG 2 sM.nd) cA)))) (aE (aG (aJ (f2 (aJ (f2 (c7 (fQ 2)) (fQ 2))) (fv 1))))))) ?_;rintro as Q ⟨x,y,rfl,q⟩;exact⟨rfl,q⟩
theorem dB(h:Nat.ble a b=true):a<=b:=Nat.le_of_ble_eq_true h
theorem eN(h:Nv x y e)(k:Nv c s f):val (cS x y c s)=val x*val c+val y*val s:=by
 unfold cS;rw[cN (aO h.x k.x) (aO h.y k.y),bB h.x k.x,bB h.y k.y]
theorem eC(h:Nv x y e)(k:Nv c s f):val (aU x y c s)=val x*val s-val y*val c:=by
 unfold aU;rw[dE (aO h.x k.y) (aO h.y k.x),bB h.x k.y,bB h.y k.x]
theorem bG(h:Nv x y e)(k:Nv c s f):bI (cS x y c s):=cH (aO h.x k.x) (aO h.y k.y)
theorem cU(h:Nv x y e)(k:Nv c s f):bI (aU x y c s):=dD (aO h.x k.y) (aO h.y k.x)
theorem Nv.up{x y:Fr}{e f:Nat}(h:Nv x y e)(k:e<=f):Nv x y f:=⟨h.x,h.y,VZ h.sx k,VZ h.sy k⟩
theorem d6(n:Int):val (n,1)=(n:Rat):=by
 show(n:Rat)/((1:Int):Rat)=n
 push_cast
 grind
theorem iR:val (1,1)=1:=by rw[d6];rfl
theorem mQ:val (0,1)=0:=by rw[d6];rfl
def CM:dF:=λas Q=>∃x y:Fr,as=[.v (fr x),.v (fr y)]/\bI x/\bI y/\y.1≠0/\sz x+sz y<=7900/\Q (.v (fr (b7 x y))) []
abbrev sY(P w K mg base):=(~~~Fn) 3 "over" oH (aI K CM)
abbrev Pn:fq:=top 6
theorem Y9:aF oH oH (aC Pn):=dJ
theorem T9(F:cI K "over" "over" Pn f fd)(TX:Txt mg)(my: ~~~eR):(~~~aS) cL 3 f fd oH (aI K CM):=by
 refine F.okU Y9 (λhr=>(aE (aG (fK my (f2 (aR bA (fQ 0) (fQ 1)) (aR bA (fQ 0) (fQ 1))))))) ?_;rintro as Q ⟨x,y,rfl,hx,hy,h0,hs,q⟩;have hd:(x.2*y.1).natAbs<2^8000:=uV (bL (b8 x) (dW y)) ⋯;exact⟨jU (e:=7900) (pl (dW x) ⋯) (pl (b8 y) ⋯) ∅,jU (e:=7900) (pl (b8 x) ⋯) (pl (dW y) ⋯) ∅,_,_,rfl,YZ hx.ne h0,hd,rfl,q⟩
structure bW(x y:Fr)(e:Nat):Prop where
 nv:Nv x y e
 one:val x*val x+val y*val y=1
theorem bW.left(h:bW x y e):bW (aQ y) x e:=⟨⟨d5 h.nv.y,h.nv.x,by rw[qJ];exact h.nv.sy,h.nv.sx⟩,by rw[bV h.nv.y,<-h.one];grind⟩
theorem DC(h:bI p):val p*(p.2:Rat)=(p.1:Rat):=by have:=h.neR;unfold val;grind
theorem JP(h:bI p):(0:Rat)<(p.2:Rat):=by have:=h.d;exact_mod_cast (show(0:Int)<p.2 by lia)
theorem fO(h:bI p):0<=val p↔0<=p.1:=by
 have e:=DC h;have d:=JP h;constructor
 ·intro k;have:=Rat.mul_nonneg k (Rat.le_of_lt d);rw[e]at this
  exact_mod_cast this
 ·intro k;have k':(0:Rat)<=(p.1:Rat):=by exact_mod_cast k
  rcases Rat.le_total (a:=0) (b:=val p)with c|c
  ·exact c
  ·by_cases z:val p=0
   ·grind
   ·have:=Rat.mul_pos (a:=-val p) (b:=p.2) (by grind) d;grind
theorem Ak(h:bI p):val p<=0↔p.1<=0:=by
 have:=fO (d5 h);rw[bV h]at this;have e:(aQ p).1 = -p.1:=rfl;rw[e]at this;constructor
 ·intro k;have:=this.1 (by grind);lia
 ·intro k;have:=this.2 ⋯;grind
theorem Al(h:bI p):val p<0↔p.1<0:=by
 have:=fO h;constructor
 ·intro k;exact Int.not_le.mp λc=>by have:=this.2 c;grind
 ·intro k;exact Rat.not_le.mp λc=>by have:=this.1 c;lia
theorem lY(h:bI p):0<val p↔0<p.1:=by
 have:=Ak h;constructor
 ·intro k;exact Int.not_le.mp λc=>by have:=this.2 c;grind
 ·intro k;exact Rat.not_le.mp λc=>by have:=this.1 c;lia
theorem pO{lo:Int}(h:(kC lo n)[i]?=oZ t):i<n/\t = .int (lo+(i:Int)):=by
 unfold kC at h;rw[UQ]at h;obtain c|c:=WG i n
 ·rw[WS c]at h;cases h;exact⟨c,rfl⟩
 ·rw[WT (by simpa using c)]at h;cases h
theorem bZ{z k:Rat}(hk:0<k)(h:0<z*k):0<z:=by
 rcases Rat.le_total (a:=z) (b:=0)with c|c
 ·have:=Rat.mul_nonneg (a:=-z) (b:=k) (by grind) (Rat.le_of_lt hk);grind
 ·by_cases e:z=0
  ·rw[e]at h;grind
  ·grind
theorem jC{z k:Rat}(hk:0<k)(h:0<=z*k):0<=z:=by
 rcases Rat.le_total (a:=z) (b:=0)with c|c
 ·by_cases e:z=0
  ·grind
  ·have:=Rat.mul_pos (a:=-z) (b:=k) (by grind) hk;grind
 ·exact c
abbrev Xc(P w K mg base):=(~~~Fn) 1 "_law_box" ["_law_script","_law_k"] (aI K J4)
abbrev F2:fq:=top 69
theorem Pq:aF ["_law_script","_law_k","_law_cell"] ["_law_script","_law_k"] (aC F2):=dJ
theorem FZ(F:cI K "_law_box" "_law_box" F2 f fd)(TX:Txt mg):(~~~aS) cL 1 f fd ["_law_script","_law_k"] (aI K J4):=by
 refine F.okU Pq (λhr=>(aB (fS 2 Pq.nd aA) (aB (bP (fP kT (fv 1) (eD rfl rfl TX.n_len (f1 (fv 0)))) (aE (fS 2 Pq.nd (fX (fv 0) (fv 1)))) bE) (aE (aG (bX (f3 (aR bA (uM rfl TX.n_abs (f1 (fv 2))) (P8 rfl TX.n_int (f1 (Ye Sa (uM rfl TX.n_abs (f1 (fv 2))) (aR A7 aA aA) (aZ _))))) (aR gX (a7 cE (fv 2) (aR bA (aR bA aA (fv 1)) (fv 1))) aA) aA))))))) ?_;rintro as Q ⟨ns,k,rfl,h0,h1,q⟩;have p10:N8 10 18:=⟨∅,∅,∅⟩;have bx:∀z:Int,Bx [.int ((z.natAbs:Int)*(if decide ((10:Int)^(18:Int).toNat<=(z.natAbs:Int))=true then 1 else 0)),.int ((z+7919*k*k)%2147483647),.int 0] 0:=λz=>
  ⟨_,_,_,rfl,ZJ ⋯ (by split<;>decide),dh _ ∅,ZF _ ∅,∅,∅⟩
 have k2:(7919*k).natAbs<2^60:=⋯
 have one:∀z:Int,(if decide ((10:Int)^(18:Int).toNat<=(z.natAbs:Int))=true then(1:Int)else 0).natAbs<2^60:=λz=>by split<;>decide
 have pm:(λ(_ j:Int)=>0<j) 0 2147483647:=by show(0:Int)<2147483647;decide
 show if decide (k<((bK ns).length:Int))=true then _ else _
 by_cases hk:k<((bK ns).length:Int)
 ·rw[oY hk,oV rfl];obtain⟨z,hz⟩:=Yx (ns:=ns) h0 (by simpa[bK]using hk);show o1 (dX (bK ns) k) _;rw[hz];exact⟨p10,Jk (one z),Nl ∅,Nl k2,pm,⟨rfl,q _ (bx z) rfl⟩⟩
 ·rw[oX hk,oW ∅];exact⟨p10,Jk (one 0),Nl ∅,Nl k2,pm,⟨rfl,q _ (bx 0) rfl⟩⟩
theorem O8(ns:List Int)(m:Nat):gL (bK ns) none (oZ (m:Int))=bK (ns.take m):=by
 unfold gL bK;rw[HT.sIx_none,HT.sIx_nat,List.drop_zero,Nat.sub_zero,List.map_take];obtain h|h:=Nat.le_total m (ns.map T.int).length
 ·rw[Nat.min_eq_left h]
 ·rw[Nat.min_eq_right h,XM (VA _),XM h]
theorem Xl{lo hi:Option Int}(h:y∈gL xs lo hi):y∈xs:=List.mem_of_mem_drop (List.mem_of_mem_take h)
theorem Xk(xs:List T)(m k:Nat):(gL xs (oZ (m:Int)) (oZ (k:Int))).length<=xs.length-m:=by
 unfold gL;rw[HT.sIx_nat,HT.sIx_nat,WE,XI];omega
theorem Qx{xs:List T}{i:Nat}(h:(xs.zipIdx.map λq=>T.tup [.int (q.2:Int),q.1])[i]?=oZ x):∃y,xs[i]?=oZ y/\x = .tup [.int (i:Int),y]:=by
 rw[UQ]at h;cases q:xs.zipIdx[i]? with
 |none=>rw[q]at h;cases h
 |some z=>
  rw[q]at h;cases h;obtain⟨q1,q2⟩:=UO.mp q;rw[List.getElem_zipIdx]at q2;subst q2;exact⟨_,UP (by simpa using q1),by simp⟩
def AE:dF:=λas Q=>∃(x y p q:Fr)(e f:Nat),as=[.v (vc x y),.v (vc p q)]/\Nv x y e/\Nv p q f/\e+f<=7000/\Q (.v (vc (aT x p) (aT y q))) []
inductive Pc where
 |side (x y:Fr)|arc (m n x y:Fr) (l:Bool)
def mN(l:Bool):Str:=if l then "left" else "right"
def kB:Pc->L2.T
 |.side x y=>.tup [.str "side",vc x y]
 |.arc m n x y l=>.tup [.str "arc",vc m n,vc x y,.str (mN l)]
def Pc.px:Pc->Fr
 |.side x _=>x
 |.arc _ _ x _ _=>x
def Pc.py:Pc->Fr
 |.side _ y=>y
 |.arc _ _ _ y _=>y
def Mn(a b c d:Fr):Rat:=(val a-val c)*(val a-val c)+(val b-val d)*(val b-val d)
def rX(e:Nat)(a b:Fr):Pc->Prop
 |.side x y=>Nv x y e/\∃r:Rat,0<r/\Mn x y a b=r*r
 |.arc m n x y _=>Nv m n e/\Nv x y e/\¬(x=a/\y=b)/\∃r:Rat,0<r/\Mn a b m n=r*r/\Mn x y m n=r*r
theorem bW.neg(h:bW x y e):bW (aQ x) (aQ y) e:=h.left.left
theorem bW.up(h:bW x y e)(k:e<=f):bW x y f:=⟨h.nv.up k,h.one⟩
def kO(e:Nat):Fr->Fr->List Pc->Prop
 |_,_,[]=>True
 |a,b,p::ps=>rX e a b p/\kO e p.px p.py ps
def cV:Fr->List Pc->Fr
 |a,[]=>a
 |_,p::ps=>cV p.px ps
def cW:Fr->List Pc->Fr
 |b,[]=>b
 |_,p::ps=>cW p.py ps
theorem rV:∀(ps:List Pc)(a:Fr)(p:Pc),cV a (ps++[p])=p.px
 |[],_,_=>rfl
 |q::ps,_,p=>rV ps q.px p
theorem rW:∀(ps:List Pc)(a:Fr)(p:Pc),cW a (ps++[p])=p.py
 |[],_,_=>rfl
 |q::ps,_,p=>rW ps q.py p
theorem rX.up(k:e<=f):∀{p:Pc},rX e a b p->rX f a b p
 |.side _ _,h=>⟨h.1.up k,h.2⟩
 |.arc _ _ _ _ _,h=>⟨h.1.up k,h.2.1.up k,h.2.2⟩
theorem rX.nv:∀{p:Pc},rX e a b p->Nv p.px p.py e
 |.side _ _,h=>h.1
 |.arc _ _ _ _ _,h=>h.2.1
def cG(a b:Fr)(ps:List Pc):L2.T:=.tup [vc a b,.tup (ps.map kB)]
theorem FX:∀p:Pc,noL (kB p)=true
 |.side _ _=>rfl
 |.arc _ _ _ _ _=>rfl
theorem Zp(a b:Fr)(ps:List Pc)(h:bM (ps.map kB)=true):noL (cG a b ps)=true:=by
 show(true&&(bM (ps.map kB)&&true))=true;rw[h];rfl
theorem Jo:∀ps:List Pc,bM (ps.map kB)=true
 |[]=>rfl
 |p::ps=>by show(noL (kB p)&&bM (ps.map kB))=true;rw[FX,Jo ps];rfl
def Xb(n r:Nat):Prop:=r*r<=n/\n<(r+1)*(r+1)
theorem Xb.uniq(h:Xb n r)(k:Xb n s):r=s:=by
 obtain z|z|z:=Nat.lt_trichotomy r s
 ·have:=ZK (show r+1<=s from z) (show r+1<=s from z);have:=h.2;have:=k.1;lia
 ·exact z
 ·have:=ZK (show s+1<=r from z) (show s+1<=r from z);have:=k.2;have:=h.1;lia
theorem JI(x y:Nat):4*(x*y)<=(x+y)*(x+y):=by
 obtain h|h:=Nat.le_total x y
 ·obtain⟨k,rfl⟩:=cn h;have:(x+(x+k))*(x+(x+k))=4*(x*(x+k))+k*k:=by grind
  lia
 ·obtain⟨k,rfl⟩:=cn h;have:(y+k+y)*(y+k+y)=4*((y+k)*y)+k*k:=by grind
  lia
theorem yX(h:0<g):s<((g+s/g)/2+1)*((g+s/g)/2+1):=by
 have h1:s<g*(s/g+1):=Nat.lt_mul_div_succ s h;have h2:=JI g (s/g+1);generalize s/g=q at h1 h2⊢;have h3:g+(q+1)<=2*((g+q)/2+1):=⋯
 generalize(g+q)/2+1=b at h3⊢;have h4:=ZK h3 h3;have h5:2*b*(2*b)=4*(b*b):=by grind
 lia
theorem Nn(h:0<g)(k:¬(g+s/g)/2<g):g*g<=s:=by
 have:g<=s/g:=⋯
 exact(Nat.le_div_iff_mul_le h).mp this
theorem yO(a b:Nat):((a:Int)).fdiv (b:Int)=((a/b:Nat):Int):=by
 rw[XE _ ⋯];rfl
theorem yB(g s:Nat):((g:Int)+((s:Int)).fdiv (g:Int)).fdiv 2=(((g+s/g)/2:Nat):Int):=by
 rw[yO,<-Int.natCast_add];exact yO _ 2
theorem Jb{s:Nat}(h:s≠0):∃g:Nat,(1:Int)*2^((((Builtin.Int.intBits (s:Int):Nat):Int)+1).fdiv 2).toNat=(g:Int)/\0<g/\s<g*g/\(∀e:Nat,s<2^e->g<=2^e)/\(0<=(((Builtin.Int.intBits (s:Int):Nat):Int)+1).fdiv 2)/\∀e:Nat,s<2^e->(((Builtin.Int.intBits (s:Int):Nat):Int)+1).fdiv 2<=e:=by
 have hb:Builtin.Int.intBits (s:Int)=s.log2+1:=by
  unfold Builtin.Int.intBits;rw[oW (by simpa using h)];rfl
 rw[hb];have e1:((((s.log2+1:Nat):Int)+1)).fdiv 2=(((s.log2+1+1)/2:Nat):Int):=yO (s.log2+1+1) 2;rw[e1,WO];have hl:=cf (n:=s);refine⟨2^((s.log2+1+1)/2),by rw[Int.one_mul];exact(Int.natCast_pow 2 _).symm,Nat.pow_pos ∅,?_,λe he=>?_,⋯,λe he=>?_⟩
 ·rw[<-Nat.pow_add];exact VJ hl (WU ∅ ⋯)
 ·have:=(ZN h).mpr he;exact WU ∅ ⋯
 ·have:=(ZN h).mpr he
  lia
def K7:dF:=λas Q=>∃n:Nat,as=[.v (.int (n:Int))]/\n<2^3000/\∀r:Nat,Xb n r->Q (.v (.int (r:Int))) []
abbrev rH(P w K mg base):=(~~~Fn) 1 "whole_root" ["square"] (aI K K7)
abbrev nH:fq:=top 8
theorem gQ:aF ["square","guess","better"] ["square"] (aC nH):=dJ
theorem Bc(F:cI K "whole_root" "whole_root" nH f fd)(TX:Txt mg):(~~~aS) cL 1 f fd ["square"] (aI K K7):=by
 refine F.okU gQ (λhr=>(aB (bP (eJ rfl hr (fv 0) aA (aZ _)) (aE (aG aA)) bE) (aB (fS 1 gQ.nd (aR GI aA (aR dU (a7 cE (P6 (fv 0)) aA) aA))) (aB (fS 2 gQ.nd (aR dU (a7 cE (fv 1) (aR dU (fv 0) (fv 1))) aA)) (aB (pG PassesOwn.never (fP kT (fv 2) (fv 1)) (aB (fS 1 gQ.nd (fv 2)) (aE (fS 2 gQ.nd (aR dU (a7 cE (fv 1) (aR dU (fv 0) (fv 1))) aA))))) (aE (aG (fv 1)))))))) ?_;rintro as Q ⟨n,rfl,hb,q⟩;refine⟨UU _,?_⟩;show if L2.dG (.int (n:Int)) (.int 0)=true then _ else _
 by_cases hn:n=0
 ·subst hn;rw[oV (show L2.dG (.int ((0:Nat):Int)) (.int 0)=true by decide)];exact⟨rfl,q 0 ⟨∅,∅⟩⟩
 ·rw[oW (by simp[L2.dG];lia)];obtain⟨g0,eg,gp,gs,gb,c0,cb⟩:=Jb hn;have big:∀g:Nat,g<=2^3000->((g:Int)).natAbs<2^8000:=λg h=>by
   rw[Int.natAbs_natCast];exact VT h (Nat.pow_lt_pow_right ∅ ∅)
  have hc2:∀i:Int,Bf i 2:=λi=>⟨∅,uV (e:=2) ∅ ∅⟩;refine⟨hc2 _,⟨c0,Int.le_trans (cb 3000 hb) ∅,∅⟩,?_⟩;have eg':(λi j:Int=>i*2^j.toNat) 1 ((((Builtin.Int.intBits (n:Int):Nat):Int)+1).fdiv 2)=(g0:Int):=eg;rw[eg'];refine⟨⟨⋯,big g0 (gb _ hb)⟩,hc2 _,?_⟩;rw[yB];refine⟨λm E=>∃g:Nat,E=[↑(n:Int),↑(g:Int),↑(((g+n/g)/2:Nat):Int)]/\m=g/\0<g/\g<=2^3000/\n<(g+1)*(g+1),⟨_,g0,rfl,rfl,gp,gb _ hb,Nat.lt_trans gs (bw (YI _) (YI _))⟩,?_⟩;rintro m E ⟨g,rfl,rfl,hg,hgb,hgn⟩;show if decide ((((m+n/m)/2:Nat):Int)<(m:Int))=true then _ else _
  by_cases rk:(m+n/m)/2<m
  ·rw[oY ⋯,oV rfl];have hp:0<(m+n/m)/2:=by
    obtain z|z:=aj ((m+n/m)/2)
    ·have:=yX (s:=n) hg;rw[z]at this
     lia
    ·exact z
   refine⟨⟨⋯,big _ ⋯⟩,hc2 _,?_⟩;rw[yB];exact⟨_,rk,_,rfl,rfl,hp,⋯,yX hg⟩
  ·rw[oX ⋯,oW ∅];exact⟨rfl,q m ⟨Nn hg rk,hgn⟩⟩
theorem D7(r:Rat):∃f:Fr,bI f/\val f=r:=by
 refine⟨(r.num,(r.den:Int)),⟨by have:=r.den_pos;show(1:Int)<=(r.den:Int);lia,?_⟩,?_⟩
 ·show WD r.num.natAbs ((r.den:Int)).natAbs=1;rw[Int.natAbs_natCast];exact r.reduced
 ·show(r.num:Rat)/((r.den:Int):Rat)=r;rw[<-Rat.divInt_eq_div];exact Rat.num_divInt_den r
theorem Hr(hp:bI p)(hf:bI f)(h:val p=val f*val f):f.1*f.1=p.1/\f.2*f.2=p.2:=by
 have n:bI (f.1*f.1,f.2*f.2):=by
  refine⟨?_,?_⟩
  ·have h1:1*1<=f.2*f.2:=ff hf.d hf.d ∅ (by have:=hf.d;lia);exact h1
  ·show WD (f.1*f.1).natAbs (f.2*f.2).natAbs=1;rw[WK,WK,<-ah,<-ah];exact Nat.Coprime.pow 2 2 hf.g
 have e:(f.1*f.1,f.2*f.2)=p:=by
  refine bQ n hp ?_;rw[h];have:=hf.neR;show((f.1*f.1:Int):Rat)/((f.2*f.2:Int):Rat)=_;unfold val
  push_cast
  grind
 rw[<-e];exact⟨rfl,rfl⟩
theorem Sw(hf:bI f)(h1:f.1*f.1=p.1)(h2:f.2*f.2=p.2):sz f<=sz p:=by
 have a:∀x y:Int,x*x=y->x.natAbs<=y.natAbs:=λx y h=>by
  have:=Int.natAbs_mul_self (a:=x);rw[<-h,WK];obtain z|z:=aj x.natAbs
  ·rw[z];exact UU _
  ·exact Nat.le_mul_of_pos_left _ z
 exact qI (VT (a _ _ h1) (dW p)) (VT (a _ _ h2) (b8 p)) (Qb p)
theorem BQ{f:Int}{n:Nat}(h0:0<=f)(h:f*f=(n:Int)):Xb n f.natAbs:=by
 have h1:f.natAbs*f.natAbs=n:=by
  have:=Int.natAbs_mul_self (a:=f)
  lia
 exact⟨⋯,by rw[<-h1];exact bw (YI _) (YI _)⟩
def CS:dF:=λas Q=>∃p f:Fr,as=[.v (fr p)]/\bI p/\bI f/\sz p<=2900/\0<=val f/\val p=val f*val f/\Q (.v (fr f)) []
abbrev xT(P w K mg base):=(~~~Fn) 2 "root_of" ["one"] (aI K CS)
abbrev vF:fq:=top 9
theorem nL:aF ["one","n","d","top","bottom"] ["one"] (aC vF):=dJ
theorem Oc(F:cI K "root_of" "root_of" vF f fd)(TX:Txt mg)(tf: ~~~rH):(~~~aS) cL 2 f fd ["one"] (aI K CS):=by
 refine F.okU nL (λhr=>(aB (gG (fv 0) (dA (n:=2) rfl rfl (aK (fG 1 nL.nd) (aK (fG 2 nL.nd) cA)))) (aB (bP (fP kT (fv 1) aA) (aE (aG El)) bE) (aB (dZ (i:=3) (j:=4) rfl nL.nd rfl rfl ∅ rfl rfl (f2 (fK tf (f1 (fv 1))) (fK tf (f1 (fv 2)))) rfl) (aB (bP (Mu (yR (rL rfl hr (aR bA (fv 3) (fv 3)) (fv 1) (aZ _)) (rS (rL rfl hr (aR bA (fv 4) (fv 4)) (fv 2) (aZ _))))) (aE (aG El)) bE) (aE (aG (aJ (f2 (fv 3) (fv 4)))))))))) ?_;rintro as Q ⟨p,f,rfl,hp,hf,hs,f0,h,q⟩;obtain⟨h1,h2⟩:=Hr hp hf h;have n0:=(fO hf).1 f0;have d0:=hf.d;have p0:0<=p.1:=by rw[<-h1];exact ZJ n0 n0
 have pd:=hp.d;have e1:p.1=((p.1.natAbs:Nat):Int):=⋯
 have e2:p.2=((p.2.natAbs:Nat):Int):=⋯
 have bb:∀x:Nat,x<2^sz p->x<2^3000:=λx h=>pl h ⋯;show if decide (p.1<0)=true then _ else _;rw[oX ⋯,oW ∅];refine⟨p.1.natAbs,by rw[<-e1];rfl,bb _ (dW p),λr hr=>?_⟩;refine⟨p.2.natAbs,by rw[<-e2];rfl,bb _ (b8 p),λt ht=>?_⟩;have er:r=f.1.natAbs:=hr.uniq (BQ n0 (h1.trans e1));have et:t=f.2.natAbs:=ht.uniq (BQ ⋯ (h2.trans e2));have r1:(r:Int)=f.1:=⋯
 have t1:(t:Int)=f.2:=⋯
 have zf:=Sw hf h1 h2;have m1:∀{i:Int},i.natAbs<2^sz f->Bg i i:=λh=>jU (e:=3000) (pl h ⋯) (pl h ⋯) ∅;rw[r1,t1];refine⟨m1 (dW f),UU _,?_⟩;show if(!L2.dG (.int (f.1*f.1)) (.int p.1))=true then _ else _;rw[h1,e7,oW ∅];refine⟨m1 (b8 f),UU _,?_⟩;show if(!L2.dG (.int (f.2*f.2)) (.int p.2))=true then _ else _;rw[h2,e7,oW ∅];exact⟨rfl,q⟩
abbrev lZ(P w K mg base):=(~~~Fn) 4 "minus" oH (aI K AE)
abbrev Hd:fq:=top 12
theorem G2:aF oH oH (aC Hd):=dJ
theorem Zy(F:cI K "minus" "minus" Hd f fd)(TX:Txt mg)(qf: ~~~l9):(~~~aS) cL 4 f fd oH (aI K AE):=by
 refine F.okU G2 (λhr=>(aE (aG (aJ (f2 (fK qf (f2 (fQ 0) (fQ 1))) (fK qf (f2 (fQ 0) (fQ 1)))))))) ?_;rintro as Q ⟨x,y,p,q,e,f,rfl,h,k,hs,z⟩;have:=h.sx;have:=h.sy;have:=k.sx;have:=k.sy;exact⟨_,_,rfl,h.x,k.x,⋯,_,_,rfl,h.y,k.y,⋯,rfl,z⟩
theorem nS(h:Nv x y e)(k:Nv p q f):sz (cS x y p q)<=2*(e+f)+1:=by
 have:=h.sx;have:=h.sy;have:=k.sx;have:=k.sy;have s1:=cF h.x k.x;have s2:=cF h.y k.y;have s6:=gZ (aO h.x k.x) (aO h.y k.y);show sz (bH (aN x p) (aN y q))<=_
 lia
structure xX(x y f:Fr):Prop where
 nv:Nv x y 610
 nf:bI f
 pos:0<val f
 sq:val x*val x+val y*val y=val f*val f
theorem xX.sz(h:xX x y f):sz f<=2801:=by
 have v:=eN h.nv h.nv;rw[h.sq]at v;obtain⟨h1,h2⟩:=Hr (bG h.nv h.nv) h.nf v;have a:=Sw h.nf h1 h2;have b:=nS h.nv h.nv
 lia
theorem Je{a:Int}{b:Int}(h:a*a=b)(k:b.natAbs<2^(2*e)):a.natAbs<2^e:=by
 rw[<-h,WK,YX,Nat.pow_add]at k
 by_cases c:a.natAbs<2^e
 ·exact c
 ·have c:=Nat.le_of_not_lt c;have:=ZK c c
  lia
theorem xX.half(h:xX x y f):My.sz f<=1221:=by
 have v:=eN h.nv h.nv;rw[h.sq]at v;obtain⟨h1,h2⟩:=Hr (bG h.nv h.nv) h.nf v;have b:=nS h.nv h.nv;exact qI (Je h1 (pl (dW _) (show My.sz (cS x y x y)<=2*1221 by lia))) (Je h2 (pl (b8 _) (show My.sz (cS x y x y)<=2*1221 by lia))) ∅
theorem xX.unit(h:xX x y f):Nv (b7 x f) (b7 y f) 1831:=by
 have f1:f.1≠0:=by have:=(lY h.nf).1 h.pos;lia
 have s:=h.half;have:=h.nv.sx;have:=h.nv.sy;have a:=qV h.nv.x f1;have b:=qV h.nv.y f1;exact⟨gN h.nv.x f1,gN h.nv.y f1,⋯,⋯⟩
def NN:dF:=λas Q=>∃x y f:Fr,as=[.v (vc x y)]/\xX x y f/\Q (.v (fr f)) []
abbrev mV(P w K mg base):=(~~~Fn) 5 "length_of" ["vector"] (aI K NN)
abbrev pW:fq:=top 19
theorem Hi:aF ["vector"] ["vector"] (aC pW):=dJ
theorem Fz(F:cI K "length_of" "length_of" pW f fd)(TX:Txt mg)(wz: ~~~xT)(qy: ~~~rO):(~~~aS) cL 5 f fd ["vector"] (aI K NN):=by
 refine F.okU Hi (λhr=>(aE (aG (fK wz (f1 (fK qy (f2 (fv 0) (fv 0)))))))) ?_;rintro as Q ⟨x,y,f,rfl,h,q⟩;have:=nS h.nv h.nv;have v:=eN h.nv h.nv;rw[h.sq]at v;exact⟨x,y,x,y,610,610,rfl,h.nv,h.nv,∅,_,f,rfl,bG h.nv h.nv,h.nf,⋯,Rat.le_of_lt h.pos,v,rfl,q⟩
def Tq:dF:=λas Q=>∃x y f:Fr,as=[.v (vc x y)]/\xX x y f/\Q (.v (vc (b7 x f) (b7 y f))) []
abbrev mY(P w K mg base):=(~~~Fn) 6 "unit_of" ["vector"] (aI K Tq)
abbrev vK:fq:=top 20
theorem Ac:aF ["vector","length"] ["vector"] (aC vK):=dJ
theorem Oh(F:cI K "unit_of" "unit_of" vK f fd)(TX:Txt mg)(qz: ~~~mV)(sf: ~~~sY):(~~~aS) cL 6 f fd ["vector"] (aI K Tq):=by
 refine F.okU Ac (λhr=>(aB (fS 1 Ac.nd (fK qz (f1 (fv 0)))) (aB (bP (Mu (yR (Yn (fv 1) (aZ _)) (rS (eJ rfl hr (fv 1) (aJ (f2 aA aA)) (aZ _))))) (aE (aG El)) bE) (aE (aG (aJ (f2 (fK sf (f2 (fQ 0) (fv 1))) (fK sf (f2 (fQ 0) (fv 1)))))))))) ?_;rintro as Q ⟨x,y,f,rfl,h,q⟩;have f1:f.1≠0:=by have:=(lY h.nf).1 h.pos;lia
 have ne:¬f=((0:Int),(1:Int)):=λz=>f1 (by rw[z]);have s:=h.sz;have:=h.nv.sx;have:=h.nv.sy;refine⟨x,y,f,rfl,h,dB rfl,?_⟩;show if L2.dG (fr f) (fr (0,1))=true then _ else _;rw[Bz,oX ne,oW ∅];exact⟨_,_,rfl,h.nv.x,h.nf,f1,⋯,_,_,rfl,h.nv.y,h.nf,f1,⋯,rfl,q⟩
def MZ:Pc->Bool
 |.side _ _=>true
 |.arc _ _ _ _ _=>false
def Df:dF:=λas Q=>∃x y:Fr,as=[.v (vc x y)]/\Q (.v (vc y (aQ x))) []
abbrev jJ(P w K mg base):=(~~~Fn) 1 "right_of" ["vector"] (aI K Df)
abbrev sJ:fq:=top 17
theorem qH:aF ["vector","x","y"] ["vector"] (aC sJ):=dJ
theorem Kb(F:cI K "right_of" "right_of" sJ f fd)(TX:Txt mg):(~~~aS) cL 1 f fd ["vector"] (aI K Df):=by
 refine F.okU qH (λhr=>(aB (gG (fv 0) (dA (n:=2) rfl rfl (aK (fG 1 qH.nd) (aK (fG 2 qH.nd) cA)))) (aE (aG (aJ (f2 (fv 2) (aJ (f2 (c7 (fQ 1)) (fQ 1))))))))) ?_;rintro as Q ⟨x,y,rfl,q⟩;exact⟨rfl,q⟩
def Tb:dF:=λas Q=>∃p:Pc,as=[.v (kB p)]/\Q (.v (.bl (MZ p))) []
theorem NC:L2.dG (.str "side") (.str "side")=true:=e7 _
theorem JK:L2.dG (.str "arc") (.str "side")=false:=∅
abbrev kH(P w K mg base):=(~~~Fn) 1 "is_side" ["piece"] (aI K Tb)
abbrev u9:fq:=top 22
theorem Pr:aF ["piece"] ["piece"] (aC u9):=dJ
theorem Nu(F:cI K "is_side" "is_side" u9 f fd)(TX:Txt mg):(~~~aS) cL 1 f fd ["piece"] (aI K Tb):=by
 refine F.okU Pr (λhr=>(aE (aG (nZ rfl hr (fQ 0) aY (aZ _))))) ?_;rintro as Q ⟨p,rfl,q⟩;cases p with
 |side x y=>
  refine⟨UU _,rfl,?_⟩;rw[NC];exact q
 |arc m n x y l=>
  refine⟨UU _,rfl,?_⟩;rw[JK];exact q
def UJ(p:Pc):L2.T:=vc p.px p.py
def J7:dF:=λas Q=>∃p:Pc,as=[.v (kB p)]/\Q (.v (UJ p)) []
abbrev g8(P w K mg base):=(~~~Fn) 2 "end_of" ["piece"] (aI K J7)
abbrev zM:fq:=top 23
theorem Wj:aF ["piece"] ["piece"] (aC zM):=dJ
theorem Vn(F:cI K "end_of" "end_of" zM f fd)(TX:Txt mg)(qd: ~~~kH):(~~~aS) cL 2 f fd ["piece"] (aI K J7):=by
 refine F.okU Wj (λhr=>(aE (aG (pE (gH (fK qd (f1 (fv 0)))) (fQ 0) (fQ 0))))) ?_;rintro as Q ⟨p,rfl,q⟩;refine⟨p,rfl,?_⟩;cases p with
 |side x y=>exact⟨rfl,q⟩
 |arc m n x y l=>exact⟨rfl,q⟩
theorem rM{ps:List Pc}{i:Nat}(h:ps[i]?=oZ p):dX (ps.map kB) (i:Int)=oZ (kB p):=gR (by rw[UQ,h];rfl)
theorem yU{ps:List Pc}:∀{a:Fr}{i:Nat}{p:Pc},ps[i]?=oZ p->cV a (ps.take (i+1))=p.px:=by
 induction ps with
 |nil=>intro a i p h;simp at h
 |cons q ps ih=>
  intro a i p h;cases i with
  |zero=>cases h;rfl
  |succ i=>exact ih (a:=q.px) (i:=i) (by simpa using h)
theorem yV{ps:List Pc}:∀{a:Fr}{i:Nat}{p:Pc},ps[i]?=oZ p->cW a (ps.take (i+1))=p.py:=by
 induction ps with
 |nil=>intro a i p h;simp at h
 |cons q ps ih=>
  intro a i p h;cases i with
  |zero=>cases h;rfl
  |succ i=>exact ih (a:=q.py) (i:=i) (by simpa using h)
def J2:dF:=λas Q=>∃(a b:Fr)(ps:List Pc)(i:Nat),as=[.v (cG a b ps),.v (.int (i:Int))]/\i<ps.length/\Q (.v (vc (cV a (ps.take i)) (cW b (ps.take i)))) []
abbrev jG(P w K mg base):=(~~~Fn) 3 "begin_of" oI (aI K J2)
abbrev r6:fq:=top 24
theorem Km:aF oI oI (aC r6):=dJ
theorem Jr(F:cI K "begin_of" "begin_of" r6 f fd)(TX:Txt mg)(nq: ~~~g8):(~~~aS) cL 3 f fd oI (aI K J2):=by
 refine F.okU Km (λhr=>(aE (aG (pE (eJ rfl hr (fv 1) aA (aZ _)) (fQ 0) (fK nq (f1 (fX (fQ 0) (a7 iY (fv 1) aA)))))))) ?_;rintro as Q ⟨a,b,ps,i,rfl,hi,q⟩;refine⟨UU _,?_⟩;show if L2.dG (.int (i:Int)) (.int 0)=true then _ else _;cases i with
 |zero=>
  rw[oV ∅];exact⟨rfl,q⟩
 |succ i=>
  rw[oW (by simp[L2.dG];lia)];have xt:i<ps.length:=⋯
  have e:((i+1:Nat):Int)-1=(i:Int):=⋯
  show o1 (dX (ps.map kB) (((i+1:Nat):Int)-1)) _;rw[e,rM (UP xt)];refine⟨ps[i],rfl,rfl,?_⟩;have h:=UP xt;rw[yU h,yV h]at q;exact q
theorem R5:∀{ps:List Pc},ps≠[]->∃L p,ps=L++[p]:=λ{ps}h=>⟨ps.dropLast,ps.getLast h,(XY h).symm⟩
theorem kK(L:List L2.T)(t:L2.T):dX (L++[t]) (-1)=oZ t:=by
 have e:Lq (L++[t]).length (-1)=oZ L.length:=by
  unfold Lq;rw[oW ∅,oV (by rw[UT,VL];lia),UT,VL]
  congr 1
  lia
 unfold dX;rw[e];show(L++[t])[L.length]?=_;simp
def Sy:dF:=λas Q=>∃(a b:Fr)(ps:List Pc),as=[.v (cG a b ps)]/\ps≠[]/\Q (.v (.bl (decide (cV a ps=a/\cW b ps=b)))) []
abbrev mT(P w K mg base):=(~~~Fn) 3 "is_closed" ["path"] (aI K Sy)
abbrev pU:fq:=top 25
theorem Hh:aF ["path"] ["path"] (aC pU):=dJ
theorem Fx(F:cI K "is_closed" "is_closed" pU f fd)(TX:Txt mg)(nq: ~~~g8):(~~~aS) cL 3 f fd ["path"] (aI K Sy):=by
 refine F.okU Hh (λhr=>(aE (aG (nZ rfl hr (fK nq (f1 (fX (fQ 0) (c7 aA)))) (fQ 0) (aZ _))))) ?_;rintro as Q ⟨a,b,ps,rfl,hn,q⟩;obtain⟨L,p,rfl⟩:=R5 hn;show o1 (dX ((L++[p]).map kB) (-1)) _;rw[VE,show fh kB [p]=[kB p]from rfl,kK];refine⟨p,rfl,dB rfl,rfl,?_⟩;rw[rV,rW,<-Ca]at q;exact q
theorem FY(h:Nv x y e)(k:Nv p q f):Nv (aT x p) (aT y q) (e+f+1):=by
 have:=h.sx;have:=h.sy;have:=k.sx;have:=k.sy;have s1:=lX h.x k.x;have s2:=lX h.y k.y;exact⟨dD h.x k.x,dD h.y k.y,⋯,⋯⟩
def Ln(a b:Fr)(f:Fr):Pc->Prop
 |.side x y=>xX (aT x a) (aT y b) f
 |.arc m n x y _=>xX (aT a m) (aT b n) f/\xX (aT x m) (aT y n) f
theorem Ni{r:Rat}(h:Nv x y 300)(k:Nv p q 300)(hf:bI f)(e:val f=r)(r0:0<r)(hr:Mn x y p q=r*r):xX (aT x p) (aT y q) f:=by
 refine⟨(FY h k).up ∅,hf,by rw[e];exact r0,?_⟩;rw[dE h.x k.x,dE h.y k.y,e,<-hr];rfl
theorem LJ(h:Nv a b 300)(k:rX 300 a b p):∃f,Ln a b f p:=by
 cases p with
 |side x y=>
  obtain⟨n,r,r0,hr⟩:=k;obtain⟨f,f1,f2⟩:=D7 r;exact⟨f,Ni n h f1 f2 r0 hr⟩
 |arc m n x y l=>
  obtain⟨n1,n2,_,r,r0,hr1,hr2⟩:=k;obtain⟨f,f1,f2⟩:=D7 r;exact⟨f,Ni h n1 f1 f2 r0 hr1,Ni n2 n1 f1 f2 r0 hr2⟩
theorem mB:∀{a b:Fr}{i:Nat}{p:Pc},kO e a b ps->ps[i]?=oZ p->rX e (cV a (ps.take i)) (cW b (ps.take i)) p:=by
 induction ps with
 |nil=>intro a b i p h k;simp at k
 |cons q ps ih=>
  intro a b i p h k;cases i with
  |zero=>cases k;exact h.1
  |succ i=>exact ih (i:=i) h.2 (by simpa using k)
theorem pB:∀{ps:List Pc}{a b:Fr}(i:Nat),Nv a b e->kO e a b ps->Nv (cV a (ps.take i)) (cW b (ps.take i)) e
 |[],_,_,i,h,_=>by rw[List.take_nil];exact h
 |_::_,_,_,0,h,_=>h
 |q::ps,_,_,i+1,h,k=>pB (ps:=ps) i (rX.nv k.1) k.2
def Q8(l:Bool)(ux uy:Fr):L2.T:=if l then vc (aQ uy) ux else vc uy (aQ ux)
def BV:dF:=λas Q=>∃(m n x y px py f:Fr)(l:Bool),as=[.v (kB (.arc m n x y l)),.v (vc px py)]/\Nv px py 300/\Nv m n 300/\xX (aT px m) (aT py n) f/\Q (.v (Q8 l (b7 (aT px m) f) (b7 (aT py n) f))) []
abbrev oR(P w K mg base):=(~~~Fn) 7 "arc_heading" ["piece","point"] (aI K BV)
abbrev lN:fq:=top 28
theorem qD:aF ["piece","point","unit"] ["piece","point"] (aC lN):=dJ
theorem yY(F:cI K "arc_heading" "arc_heading" lN f fd)(TX:Txt mg)(qo: ~~~mY)(qe: ~~~lZ)(oi: ~~~iU)(pb: ~~~jJ):(~~~aS) cL 7 f fd ["piece","point"] (aI K BV):=by
 refine F.okU qD (λhr=>(aB (fS 2 qD.nd (fK qo (f1 (fK qe (f2 (fv 1) (fQ 0)))))) (aE (aG (pE (eJ rfl hr (fQ 0) aY (aZ _)) (fK oi (f1 (fv 2))) (fK pb (f1 (fv 2)))))))) ?_;rintro as Q ⟨m,n,x,y,px,py,f,l,rfl,h,k,lg,q⟩;refine⟨px,py,m,n,300,300,rfl,h,k,∅,_,_,f,rfl,lg,UU _,?_⟩;show if L2.dG (.str (mN l)) (.str "left")=true then _ else _;cases l with
 |true=>
  rw[oV ∅];exact⟨_,_,rfl,rfl,q⟩
 |false=>
  rw[oW ∅];exact⟨_,_,rfl,rfl,q⟩
def Ys(a b f:Fr):Pc->L2.T
 |.side x y=>.tup [vc (b7 (aT x a) f) (b7 (aT y b) f),vc (b7 (aT x a) f) (b7 (aT y b) f)]
 |.arc m n x y l=>.tup [Q8 l (b7 (aT a m) f) (b7 (aT b n) f),Q8 l (b7 (aT x m) f) (b7 (aT y n) f)]
structure Xe(a b:Fr)(ps:List Pc)(i:Nat)(p:Pc)(f:Fr):Prop where
 at_:ps[i]?=oZ p
 nv:Nv a b 300
 ch:kO 300 a b ps
 ln:Ln (cV a (ps.take i)) (cW b (ps.take i)) f p
theorem Yr(l:Bool)(x y:Fr):noL (Q8 l x y)=true:=by cases l<;>rfl
def De:dF:=λas Q=>∃(a b:Fr)(ps:List Pc)(i:Nat)(p:Pc)(f:Fr),as=[.v (cG a b ps),.v (.int (i:Int))]/\Xe a b ps i p f/\Q (.v (Ys (cV a (ps.take i)) (cW b (ps.take i)) f p)) []
abbrev jH(P w K mg base):=(~~~Fn) 8 "headings" oI (aI K De)
abbrev sC:fq:=top 29
theorem lI:aF ["path","number","piece","begin","to","direction"] oI (aC sC):=dJ
theorem Ju(F:cI K "headings" "headings" sC f fd)(TX:Txt mg)(ph: ~~~jG)(nq: ~~~g8)(qd: ~~~kH)(qo: ~~~mY)(qe: ~~~lZ)(so: ~~~oR):(~~~aS) cL 8 f fd oI (aI K De):=by
 refine F.okU lI (λhr=>(aB (fS 2 lI.nd (fX (fQ 0) (fv 1))) (aB (dZ (i:=3) (j:=4) rfl lI.nd rfl rfl ∅ rfl rfl (f2 (fK ph (f2 (fv 0) (fv 1))) (fK nq (f1 (fv 2)))) rfl) (aB (bP (gH (fK qd (f1 (fv 2)))) (aB (fS 5 lI.nd (fK qo (f1 (fK qe (f2 (fv 4) (fv 3)))))) (aE (aG (aJ (f2 (fv 5) (fv 5)))))) bE) (aE (aG (aJ (f2 (fK so (f2 (fv 2) (fv 3))) (fK so (f2 (fv 2) (fv 4))))))))))) ?_;rintro as Q ⟨a,b,ps,i,p,f,rfl,h,q⟩;have hi:=(UO.mp h.at_).1;have nb:=pB i h.nv h.ch;have ok:=mB h.ch h.at_;have ln:=h.ln;show o1 (dX (ps.map kB) (i:Int)) _;rw[rM h.at_];refine⟨a,b,ps,i,rfl,hi,p,rfl,p,rfl,?_⟩;generalize cV a (ps.take i)=bx at nb ok ln q⊢;generalize cW b (ps.take i)=by' at nb ok ln q⊢;cases p with
 |side x y=>
  exact⟨x,y,bx,by',300,300,rfl,ok.1,nb,∅,_,_,f,rfl,ln,rfl,q⟩
 |arc m n x y l=>
  refine⟨m,n,x,y,bx,by',f,l,rfl,nb,ok.1,ln.1,m,n,x,y,x,y,f,l,rfl,ok.2.1,ok.1,ln.2,?_,q⟩;show(noL (Q8 l _ _)&&(noL (Q8 l _ _)&&true))=true;rw[Yr,Yr];rfl
def RS(f:Fr):Pc->L2.T
 |.side _ _=>.non
 |.arc _ _ _ _ _=>fr f
def Tn:dF:=λas Q=>∃(a b:Fr)(ps:List Pc)(i:Nat)(p:Pc)(f:Fr),as=[.v (cG a b ps),.v (.int (i:Int))]/\Xe a b ps i p f/\Q (.v (RS f p)) []
abbrev tD(P w K mg base):=(~~~Fn) 6 "radius_of" oI (aI K Tn)
abbrev pZ:fq:=top 26
theorem tY:aF ["path","number","piece"] oI (aC pZ):=dJ
theorem Gd(F:cI K "radius_of" "radius_of" pZ f fd)(TX:Txt mg)(qd: ~~~kH)(qz: ~~~mV)(qe: ~~~lZ)(nq: ~~~g8):(~~~aS) cL 6 f fd oI (aI K Tn):=by
 refine F.okU tY (λhr=>(aB (fS 2 tY.nd (fX (fQ 0) (fv 1))) (aB (bP (gH (fK qd (f1 (fv 2)))) (aE (aG El)) bE) (aE (aG (fK qz (f1 (fK qe (f2 (fK nq (f1 (fv 2))) (fQ 2)))))))))) ?_;rintro as Q ⟨a,b,ps,i,p,f,rfl,h,q⟩;have ok:=mB h.ch h.at_;have ln:=h.ln;show o1 (dX (ps.map kB) (i:Int)) _;rw[rM h.at_];refine⟨p,rfl,?_⟩;cases p with
 |side x y=>exact⟨rfl,q⟩
 |arc m n x y l=>exact⟨_,rfl,x,y,m,n,300,300,rfl,ok.2.1,ok.1,∅,_,_,f,rfl,ln.2,rfl,q⟩
def N4(l:Bool)(ux uy:Fr):Fr×Fr:=if l then(aQ uy,ux)else(uy,aQ ux)
def hB(a b f:Fr):Pc->Fr×Fr
 |.side x y=>(b7 (aT x a) f,b7 (aT y b) f)
 |.arc m n _ _ l=>N4 l (b7 (aT a m) f) (b7 (aT b n) f)
def hE(a b f:Fr):Pc->Fr×Fr
 |.side x y=>(b7 (aT x a) f,b7 (aT y b) f)
 |.arc m n x y l=>N4 l (b7 (aT x m) f) (b7 (aT y n) f)
def aP(p:Fr×Fr):L2.T:=vc p.1 p.2
theorem BA(l:Bool)(x y:Fr):Q8 l x y=aP (N4 l x y):=by cases l<;>rfl
theorem Ep(a b f:Fr)(p:Pc):Ys a b f p = .tup [aP (hB a b f p),aP (hE a b f p)]:=by
 cases p with
 |side x y=>rfl
 |arc m n x y l=>show L2.T.tup [Q8 l _ _,Q8 l _ _]=_;rw[BA,BA];rfl
def JF(p:Fr×Fr):Prop:=Nv p.1 p.2 1831
theorem BK(h:Nv x y 1831):JF (N4 l x y):=by
 cases l with
 |true=>exact⟨d5 h.y,h.x,by show sz (aQ y)<=1831;rw[qJ];exact h.sy,h.sx⟩
 |false=>exact⟨h.y,d5 h.x,h.sy,by show sz (aQ x)<=1831;rw[qJ];exact h.sx⟩
theorem LR:∀{p:Pc},Ln a b f p->JF (hB a b f p)
 |.side x y,h=>xX.unit h
 |.arc m n x y l,h=>BK (xX.unit h.1)
theorem LU:∀{p:Pc},Ln a b f p->JF (hE a b f p)
 |.side x y,h=>xX.unit h
 |.arc m n x y l,h=>BK (xX.unit h.2)
def cY(i n:Nat):Nat:=if i=0 then n-1 else i-1
theorem Ua{i n:Nat}(h:i<n):((i:Int)-1)%(n:Int)=(cY i n:Int):=by
 unfold cY
 by_cases c:i=0
 ·subst c;rw[oV rfl];have e:(((0:Nat):Int)-1)%(n:Int)=((n:Int)-1)%(n:Int):=by
   rw[show((0:Nat):Int)-1=((n:Int)-1)+(n:Int)*(-1) by lia,Int.add_mul_emod_self_left]
  rw[e,Int.emod_eq_of_lt ⋯ ⋯]
  lia
 ·rw[oW c,Int.emod_eq_of_lt ⋯ ⋯]
  lia
theorem tH(h:i<n):cY i n<n:=by unfold cY;split<;>lia
structure Nb(a b:Fr)(ps:List Pc)(i:Nat)(p q:Pc)(f g:Fr):Prop where
 one:Xe a b ps i p f
 two:Xe a b ps (cY i ps.length) q g
abbrev uE(a b:Fr)(ps:List Pc)(i:Nat)(q:Pc)(g:Fr):Fr×Fr:=hE (cV a (ps.take (cY i ps.length))) (cW b (ps.take (cY i ps.length))) g q
abbrev uB(a b:Fr)(ps:List Pc)(i:Nat)(p:Pc)(f:Fr):Fr×Fr:=hB (cV a (ps.take i)) (cW b (ps.take i)) f p
def Lc:dF:=λas Q=>∃(a b:Fr)(ps:List Pc)(i:Nat)(p q:Pc)(f g:Fr),as=[.v (cG a b ps),.v (.int (i:Int))]/\Nb a b ps i p q f g/\Q (.v (.tup [aP (uE a b ps i q g),aP (uB a b ps i p f)])) []
abbrev oU(P w K mg base):=(~~~Fn) 4 "cross" oH (aI K (CY aU))
abbrev Gz:fq:=top 15
theorem F9:aF oH oH (aC Gz):=dJ
theorem Zu(F:cI K "cross" "cross" Gz f fd)(TX:Txt mg)(oq: ~~~kI)(qf: ~~~l9):(~~~aS) cL 4 f fd oH (aI K (CY aU)):=by
 refine F.okU F9 (λhr=>(aE (aG (fK qf (f2 (fK oq (f2 (fQ 0) (fQ 1))) (fK oq (f2 (fQ 0) (fQ 1)))))))) ?_;rintro as Q ⟨x,y,x',y',e,f,rfl,h,k,he,q⟩;have:=h.sx;have:=h.sy;have:=k.sx;have:=k.sy;have n1:=aO h.x k.y;have n2:=aO h.y k.x;have s1:=cF h.x k.y;have s2:=cF h.y k.x;exact⟨_,_,rfl,h.x,k.y,⋯,_,_,rfl,h.y,k.x,⋯,_,_,rfl,n1,n2,⋯,rfl,q⟩
abbrev gW(P w K mg base):=(~~~Fn) 9 "corner_headings" oI (aI K Lc)
abbrev iH:fq:=top 30
theorem kZ:aF ["path","number","ahead"] oI (aC iH):=dJ
theorem rY(F:cI K "corner_headings" "corner_headings" iH f fd)(TX:Txt mg)(pe: ~~~jH):(~~~aS) cL 9 f fd oI (aI K Lc):=by
 refine F.okU kZ (λhr=>(aB (fS 2 kZ.nd (aR gX (a7 iY (fv 1) aA) (eD rfl rfl TX.n_len (f1 (fQ 0))))) (aE (aG (aJ (f2 (fX (fK pe (f2 (fv 0) (fv 2))) aA) (fX (fK pe (f2 (fv 0) (fv 1))) aA))))))) ?_;rintro as Q ⟨a,b,ps,i,p,q,f,g,rfl,h,hq⟩;have hi:=(UO.mp h.one.at_).1;have e:=Ua hi;have em:(((ps.map kB).length:Nat):Int)=(ps.length:Int):=by rw[UX]
 refine⟨by show(0:Int)<(((ps.map kB).length:Nat):Int);lia,?_⟩;refine⟨a,b,ps,cY i ps.length,q,g,?_,h.two,?_⟩
 ·show[A.v (cG a b ps),A.v (.int (((i:Int)-1)%(((ps.map kB).length:Nat):Int)))]=_;rw[em,e]
 rw[Ep];refine⟨a,b,ps,i,p,f,rfl,h.one,?_⟩;rw[Ep];exact⟨rfl,hq⟩
def bO(u w:Fr×Fr):Str:=if u=w then "straight" else if 0<(aU u.1 u.2 w.1 w.2).1 then "left" else if(aU u.1 u.2 w.1 w.2).1<0 then "right" else "back"
def K9:dF:=λas Q=>∃(a b:Fr)(ps:List Pc)(i:Nat)(p q:Pc)(f g:Fr),as=[.v (cG a b ps),.v (.int (i:Int))]/\Nb a b ps i p q f g/\Q (.v (.str (bO (uE a b ps i q g) (uB a b ps i p f)))) []
theorem DW(u w:Fr×Fr):L2.dG (aP u) (aP w)=decide (u=w):=by
 show L2.dG (vc u.1 u.2) (vc w.1 w.2)=_;rw[Ca];simp[Prod.ext_iff]
abbrev oT(P w K mg base):=(~~~Fn) 10 "corner_word" oI (aI K K9)
abbrev lQ:fq:=top 31
theorem iK:aF ["path","number","bend","u","w"] oI (aC lQ):=dJ
theorem y0(F:cI K "corner_word" "corner_word" lQ f fd)(TX:Txt mg)(pg: ~~~gW)(qx: ~~~oU):(~~~aS) cL 10 f fd oI (aI K K9):=by
 refine F.okU iK (λhr=>(aB (gG (fK pg (f2 (fv 0) (fv 1))) (dA (n:=2) rfl rfl (aK (fG 3 iK.nd) (aK (fG 4 iK.nd) cA)))) (aB (bP (eJ rfl hr (fv 3) (fv 4) (aZ _)) (aE (aG aY)) bE) (aB (fS 2 iK.nd (fX (fK qx (f2 (fv 3) (fv 4))) aA)) (aB (bP (fP zB (fv 2) aA) (aE (aG aY)) bE) (aE (aG (pE (fP kT (fv 2) aA) aY aY)))))))) ?_;rintro as Q ⟨a,b,ps,i,p,q,f,g,rfl,h,hq⟩;refine⟨a,b,ps,i,p,q,f,g,rfl,h,?_⟩;have nu:JF (uE a b ps i q g):=LU h.two.ln;have nw:JF (uB a b ps i p f):=LR h.one.ln;generalize uE a b ps i q g=u at nu hq⊢;generalize uB a b ps i p f=w at nw hq⊢;refine⟨dB rfl,?_⟩;show if L2.dG (aP u) (aP w)=true then _ else _;rw[DW];unfold bO at hq
 by_cases c:u=w
 ·rw[oY c,oV rfl];rw[oV c]at hq;exact⟨rfl,hq⟩
 ·rw[oX c,oW ∅];rw[oW c]at hq;refine⟨u.1,u.2,w.1,w.2,1831,1831,rfl,nu,nw,∅,?_⟩;generalize(aU u.1 u.2 w.1 w.2)=z at hq⊢;show if decide (z.1>0)=true then _ else _
  by_cases c1:0<z.1
  ·rw[oY c1,oV rfl];rw[oV c1]at hq;exact⟨rfl,hq⟩
  ·rw[oX c1,oW ∅];rw[oW c1]at hq;show if decide (z.1<0)=true then _ else _
   by_cases c2:z.1<0
   ·rw[oY c2,oV rfl];rw[oV c2]at hq;exact⟨rfl,hq⟩
   ·rw[oX c2,oW ∅];rw[oW c2]at hq;exact⟨rfl,hq⟩
noncomputable def Xz (a b:Fr) (p:Pc):Fr:=@Classical.epsilon Fr ⟨(0,1)⟩ λf=>Ln a b f p
theorem Qy(h:Nv a b 300)(k:rX 300 a b p):Ln a b (Xz a b p) p:=@Classical.epsilon_spec_aux Fr ⟨(0,1)⟩ (λf=>Ln a b f p) (LJ h k)
noncomputable def uW (a b:Fr) (ps:List Pc) (i:Nat) (p q:Pc):Str:=
 bO (uE a b ps i q (Xz (cV a (ps.take (cY i ps.length))) (cW b (ps.take (cY i ps.length))) q)) (uB a b ps i p (Xz (cV a (ps.take i)) (cW b (ps.take i)) p))
noncomputable def cw (a b:Fr) (ps:List Pc) (i:Nat):Str:=((ps[i]?).bind λp=>(ps[cY i ps.length]?).map λq=>uW a b ps i p q).getD ""
theorem BI(nv:Nv a b 300)(ch:kO 300 a b ps)(hi:i<ps.length):∃p q f g,Nb a b ps i p q f g/\bO (uE a b ps i q g) (uB a b ps i p f)=cw a b ps i:=by
 have h1:=UP hi;have h2:=UP (tH hi);refine⟨_,_,_,_,⟨⟨h1,nv,ch,Qy (pB i nv ch) (mB ch h1)⟩,⟨h2,nv,ch,Qy (pB _ nv ch) (mB ch h2)⟩⟩,?_⟩;unfold cw;rw[h1,h2];rfl
noncomputable def SG (a b:Fr) (ps:List Pc) (i:Nat):L2.T:=.tup [.int (i:Int),.str (cw a b ps i)]
noncomputable def N1 (a b:Fr) (ps:List Pc) (k m:Nat):List L2.T:=(VC m).map λj=>SG a b ps (k+j)
theorem Iu(a b:Fr)(ps:List Pc)(k m:Nat):N1 a b ps k (m+1)=N1 a b ps k m++[SG a b ps (k+m)]:=by
 unfold N1;rw[XA,VE];rfl
theorem O7(a b:Fr)(ps:List Pc)(k m:Nat):(N1 a b ps k m).length=m:=by unfold N1;simp
theorem Jm:∀(xs:List L2.T)(t:L2.T),bM xs=true->noL t=true->bM (xs++[t])=true
 |[],t,_,h=>by show(noL t&&true)=true;rw[h];rfl
 |x::xs,t,h1,h=>by
  have h1:(noL x&&bM xs)=true:=h1;rw[VN]at h1;show(noL x&&bM (xs++[t]))=true;rw[h1.1,Jm xs t h1.2 h];rfl
theorem pK(a b:Fr)(ps:List Pc)(k:Nat):∀m,bM (N1 a b ps k m)=true
 |0=>rfl
 |m+1=>by rw[Iu];exact Jm _ _ (pK a b ps k m) rfl
def Md(a b:Fr)(ps:List Pc):Bool:=decide (cV a ps=a/\cW b ps=b)
def fst(a b:Fr)(ps:List Pc):Nat:=if Md a b ps=true then 0 else 1
theorem EM(a b:Fr)(ps:List Pc):fst a b ps<=1:=by unfold fst;split<;>lia
def Ld:dF:=λas Q=>∃(a b:Fr)(ps:List Pc),as=[.v (cG a b ps)]/\Nv a b 300/\ps≠[]/\ps.length<=12/\kO 300 a b ps/\Q (.l (N1 a b ps (fst a b ps) (ps.length-fst a b ps))) []
theorem tL{Q:En->Prop}(nv:Nv a b 300)(hl:ps.length<=12)(ch:kO 300 a b ps)(hk:k<=ps.length)(hQ:∀v0,Q [v0,⇑(cG a b ps),↥(N1 a b ps k (ps.length-k))]):
  j9 (fZ 0) (KN (iD (Iz 0) (iD (Cb K9 (iD (Iz 1) (iD (Iz 0) Dt))) Dt))) (kC (k:Int) (ps.length-k)) [none,⇑(cG a b ps),↥[]] Q:=by
 refine b9 (λi E=>∃v0,E=[v0,⇑(cG a b ps),↥(N1 a b ps k i)]) ⟨none,rfl⟩ ?_ ?_
 ·rintro i t rest E hi ⟨v0,rfl⟩ KK;obtain⟨hin,rfl⟩:=pO hi;obtain⟨p,q,f,g,nb,e⟩:=BI nv ch (show k+i<ps.length by lia);have ek:(k:Int)+(i:Int)=((k+i:Nat):Int):=⋯
  rw[ek];refine⟨a,b,ps,k+i,p,q,f,g,rfl,nb,?_⟩;rw[e];refine⟨by show(N1 a b ps k i).length<9000;rw[O7];lia,KK _ ⟨↑((k+i:Nat):Int),?_⟩⟩;rw[Iu];rfl
 ·rintro E ⟨v0,rfl⟩;rw[Ki];exact hQ v0
abbrev xO(P w K mg base):=(~~~Fn) 11 "corners" ["path"] (aI K Ld)
abbrev uZ:fq:=top 32
theorem z7:aF ["path","first"] ["path"] (aC uZ):=dJ
theorem Nq(F:cI K "corners" "corners" uZ f fd)(TX:Txt mg)(rf: ~~~mT)(ug: ~~~oT):(~~~aS) cL 11 f fd ["path"] (aI K Ld):=by
 refine F.okU z7 (λhr=>(aB (fS 1 z7.nd (pE (gH (fK rf (f1 (fv 0)))) aA aA)) (aE (aG (fT (N':=["number","path"]) (t:=1) (cap:=[(0,false)]) rfl (bD.of rfl) rfl ∅ (Cd rfl TX.n_range (f2 (fv 1) (eD rfl rfl TX.n_len (f1 (fQ 0))))) (λ_ _ _ _=>(fH 0)) (λ_ _ _ _=>(aJ (f2 (fv 0) (fK ug (f2 (fv 1) (fv 0))))))))))) ?_;rintro as Q ⟨a,b,ps,rfl,nv,hn,hl,ch,q⟩;refine⟨a,b,ps,rfl,hn,?_⟩;have hp:0<ps.length:=XX.mpr hn;have em:(((ps.map kB).length:Nat):Int)=(ps.length:Int):=by rw[UX]
 have ed:decide (cV a ps=a/\cW b ps=b)=Md a b ps:=rfl;show if decide (cV a ps=a/\cW b ps=b)=true then _ else _;rw[ed];unfold fst at q
 by_cases c:Md a b ps=true
 ·rw[oV c];rw[oV c]at q;refine⟨⟨∅,∅,by show -(2^62:Int)<=(((ps.map kB).length:Nat):Int);lia,by show(((ps.map kB).length:Nat):Int)<2^62;lia⟩,rfl,?_⟩;show j9 _ _ (kC 0 ((((ps.map kB).length:Nat):Int)-0).toNat) _ _;rw[em,show((ps.length:Int)-0).toNat=ps.length-0 by lia];refine tL (k:=0) nv hl ch ⋯ λv0=>⟨pK a b ps 0 _,?_⟩;exact⟨pK a b ps 0 _,q⟩
 ·rw[oW c];rw[oW c]at q;refine⟨⟨∅,∅,by show -(2^62:Int)<=(((ps.map kB).length:Nat):Int);lia,by show(((ps.map kB).length:Nat):Int)<2^62;lia⟩,rfl,?_⟩;show j9 _ _ (kC 1 ((((ps.map kB).length:Nat):Int)-1).toNat) _ _;rw[em,show((ps.length:Int)-1).toNat=ps.length-1 by lia];refine tL (k:=1) nv hl ch ⋯ λv0=>⟨pK a b ps 1 _,?_⟩;exact⟨pK a b ps 1 _,q⟩
def L5(x y c s:Fr):Fr:=aT (aN x c) (aN y s)
def L4(x y c s:Fr):Fr:=bH (aN x s) (aN y c)
def Tp:dF:=λas Q=>∃(x y c s:Fr)(e f:Nat),as=[.v (vc x y),.v (vc c s)]/\Nv x y e/\Nv c s f/\e+f<=3900/\Q (.v (vc (L5 x y c s) (L4 x y c s))) []
abbrev Bo(P w K mg base):=(~~~Fn) 4 "turned" ["unit","by"] (aI K Tp)
abbrev zY:fq:=top 35
theorem mM:aF ["unit","by","x","y","c","s"] ["unit","by"] (aC zY):=dJ
theorem Vx(F:cI K "turned" "turned" zY f fd)(TX:Txt mg)(oq: ~~~kI)(qf: ~~~l9)(oh: ~~~iB):(~~~aS) cL 4 f fd ["unit","by"] (aI K Tp):=by
 refine F.okU mM (λhr=>(aB (gG (fv 0) (dA (n:=2) rfl rfl (aK (fG 2 mM.nd) (aK (fG 3 mM.nd) cA)))) (aB (gG (fv 1) (dA (n:=2) rfl rfl (aK (fG 4 mM.nd) (aK (fG 5 mM.nd) cA)))) (aE (aG (aJ (f2 (fK qf (f2 (fK oq (f2 (fv 2) (fv 4))) (fK oq (f2 (fv 3) (fv 5))))) (fK oh (f2 (fK oq (f2 (fv 2) (fv 5))) (fK oq (f2 (fv 3) (fv 4)))))))))))) ?_;rintro as Q ⟨x,y,c,s,e,f,rfl,h,k,he,q⟩;have:=h.sx;have:=h.sy;have:=k.sx;have:=k.sy;have n1:=aO h.x k.x;have n2:=aO h.y k.y;have n3:=aO h.x k.y;have n4:=aO h.y k.x;have s1:=cF h.x k.x;have s2:=cF h.y k.y;have s3:=cF h.x k.y;have s4:=cF h.y k.x;exact⟨_,_,rfl,h.x,k.x,⋯,_,_,rfl,h.y,k.y,⋯,_,_,rfl,n1,n2,⋯,_,_,rfl,h.x,k.y,⋯,_,_,rfl,h.y,k.x,⋯,_,_,rfl,n3,n4,⋯,rfl,q⟩
theorem iO(h:Nv x y e)(k:Nv c s f):val (L5 x y c s)=val x*val c-val y*val s:=by
 unfold L5;rw[dE (aO h.x k.x) (aO h.y k.y),bB h.x k.x,bB h.y k.y]
theorem iN(h:Nv x y e)(k:Nv c s f):val (L4 x y c s)=val x*val s+val y*val c:=by
 unfold L4;rw[cN (aO h.x k.y) (aO h.y k.x),bB h.x k.y,bB h.y k.x]
theorem Nv.tr{x y c s:Fr}{e f:Nat}(h:Nv x y e)(k:Nv c s f):Nv (L5 x y c s) (L4 x y c s) (2*(e+f)+1):=by
 have:=h.sx;have:=h.sy;have:=k.sx;have:=k.sy;have n1:=aO h.x k.x;have n2:=aO h.y k.y;have n3:=aO h.x k.y;have n4:=aO h.y k.x;have s1:=cF h.x k.x;have s2:=cF h.y k.y;have s3:=cF h.x k.y;have s4:=cF h.y k.x;have s5:=lX n1 n2;have s6:=gZ n3 n4;exact⟨dD n1 n2,cH n3 n4,by show sz (aT _ _)<=_;lia,by show sz (bH _ _)<=_;lia⟩
theorem S8:Nv (1,1) (0,1) 10:=⟨aM 1,aM 0,∅,∅⟩
theorem S7:Nv (0,1) (1,1) 10:=⟨aM 0,aM 1,∅,∅⟩
def cT(t:Fr):Fr:=jT (t.2*t.2-t.1*t.1) (t.2*t.2+t.1*t.1)
def sT(t:Fr):Fr:=jT (2*t.2*t.1) (t.2*t.2+t.1*t.1)
theorem rK(h:bI t):t.2*t.2+t.1*t.1≠0:=by
 have h1:1*1<=t.2*t.2:=ff h.d h.d ∅ (by have:=h.d;lia);have h2:0<=t.1*t.1:=by
   obtain c|c:=Int.le_total 0 t.1
   ·exact ZJ c c
   ·exact Int.mul_nonneg_of_nonpos_of_nonpos c c
 lia
theorem Iv(t:Fr):(t.2*t.2+t.1*t.1).natAbs<2^(2*sz t+1):=qP (by rw[YX];exact bL (b8 t) (b8 t)) (by rw[YX];exact bL (dW t) (dW t))
theorem Cs(h:bI t):Nv (cT t) (sT t) (2*sz t+1):=by
 have hb:=Iv t;refine⟨iG (rK h),iG (rK h),nT (rK h) (Hs (by rw[YX];exact bL (b8 t) (b8 t)) (by rw[YX];exact bL (dW t) (dW t))) hb ⋯,nT (rK h) ?_ hb ⋯⟩;have e:2*t.2*t.1=t.2*t.1+t.2*t.1:=by grind
 rw[e];exact qP (by rw[YX];exact bL (b8 t) (dW t)) (by rw[YX];exact bL (b8 t) (dW t))
theorem tZ(r:Rat):1+r*r≠0:=by
 have:0<=r*r:=by
   rcases Rat.le_total (a:=0) (b:=r)with c|c
   ·exact Rat.mul_nonneg c c
   ·have h:=Rat.mul_nonneg (a:=-r) (b:=-r) (by grind) (by grind);grind
 grind
theorem sN(h:bI t):val (cT t)=(1-val t*val t)/(1+val t*val t):=by
 have h1:=h.neR;have h2:=tZ (val t);have h3:((t.2*t.2+t.1*t.1:Int):Rat)≠0:=by exact_mod_cast rK h
 unfold cT;rw[gV (rK h)];unfold val at h2⊢
 push_cast at h3⊢
 grind
theorem sO(h:bI t):val (sT t)=(2*val t)/(1+val t*val t):=by
 have h1:=h.neR;have h2:=tZ (val t);have h3:((t.2*t.2+t.1*t.1:Int):Rat)≠0:=by exact_mod_cast rK h
 unfold sT;rw[gV (rK h)];unfold val at h2⊢
 push_cast at h3⊢
 grind
def To:dF:=λas Q=>∃t:Fr,as=[.v (fr t)]/\bI t/\sz t<=1000/\Q (.v (vc (cT t) (sT t))) []
abbrev xW(P w K mg base):=(~~~Fn) 3 "turn_of" ["tangent"] (aI K To)
abbrev vJ:fq:=top 36
theorem nQ:aF ["tangent","both","n","d"] ["tangent"] (aC vJ):=dJ
theorem Og(F:cI K "turn_of" "turn_of" vJ f fd)(TX:Txt mg)(my: ~~~eR):(~~~aS) cL 3 f fd ["tangent"] (aI K To):=by
 refine F.okU nQ (λhr=>(aB (gG (fv 0) (dA (n:=2) rfl rfl (aK (fG 2 nQ.nd) (aK (fG 3 nQ.nd) cA)))) (aB (fS 1 nQ.nd (a7 cE (aR bA (fv 3) (fv 3)) (aR bA (fv 2) (fv 2)))) (aE (aG (aJ (f2 (fK my (f2 (a7 iY (aR bA (fv 3) (fv 3)) (aR bA (fv 2) (fv 2))) (fv 1))) (fK my (f2 (aR bA (aR bA aA (fv 3)) (fv 2)) (fv 1)))))))))) ?_;rintro as Q ⟨t,rfl,ht,hs,q⟩;have m1:∀i j:Int,i.natAbs<2^1002->j.natAbs<2^1002->Bg i j:=λi j h1 h2=>jU h1 h2 ∅;have d1:t.2.natAbs<2^1002:=pl (b8 t) ⋯;have n1:t.1.natAbs<2^1002:=pl (dW t) ⋯;have hb:=uV (Iv t) ⋯;refine⟨m1 _ _ d1 d1,m1 _ _ n1 n1,m1 _ _ d1 d1,m1 _ _ n1 n1,_,_,rfl,rK ht,hb,Nl ∅,jU (e:=1004) (pl (bL (show(2:Int).natAbs<2^2 by decide) d1) ∅) (pl n1 ∅) ∅,_,_,rfl,rK ht,hb,rfl,q⟩
def wH(x y t:Fr):L2.T:=vc (L5 x y (cT t) (sT t)) (L4 x y (cT t) (sT t))
def FP(s:Int):List Int:=if s=1 then[1]else if s=2 then[1,2]else[1,2,3]
def wY(x y t:Fr)(s:Int):List L2.T:=(FP s).map λk=>wH x y (aN t (jT k s))
theorem Kx{k s:Int}(hk:k.natAbs<=3)(hs:1<=s/\s<=3):bI (jT k s)/\sz (jT k s)<=2:=⟨iG ⋯,nT ⋯ (VT hk ∅) (VT (show s.natAbs<=3 by lia) ∅) ∅⟩
def Lh:dF:=λas Q=>∃(x y t:Fr)(s:Int)(e f:Nat),as=[.v (vc x y),.v (fr t),.v (.int s)]/\Nv x y e/\bI t/\sz t<=f/\e+2*f<=1400/\(s=1\/s=2\/s=3)/\Q (.l (wY x y t s)) []
abbrev xV(P w K mg base):=(~~~Fn) 5 "stepped" ["unit","tangent","steps"] (aI K Lh)
abbrev vH:fq:=top 37
theorem Ab:aF ["unit","tangent","steps","turns"] ["unit","tangent","steps"] (aC vH):=dJ
theorem Oe(F:cI K "stepped" "stepped" vH f fd)(TX:Txt mg)(xa: ~~~xW)(oq: ~~~kI)(my: ~~~eR)(ya: ~~~Bo):(~~~aS) cL 5 f fd ["unit","tangent","steps"] (aI K Lh):=by
 refine F.okU Ab (λhr=>(aB (xA (i:=3) (N':=["k","tangent","steps"]) (t:=1) (cap:=[(1,false),(2,false)]) Ab.nd rfl (WA rfl) rfl rfl (bD.of rfl) rfl ∅ (Cd rfl TX.n_range (f2 aA (a7 cE (fv 2) aA))) (λ_ _ _ _=>(fH 0)) (λ_ _ _ _=>(fK xa (f1 (fK oq (f2 (fv 1) (fK my (f2 (fv 0) (fv 2))))))))) (aE (aG (fT (N':=["by","unit"]) (t:=1) (cap:=[(0,false)]) rfl (bD.of rfl) rfl ∅ (gT rfl (fv 3)) (λ_ _ _ _=>(fH 0)) (λ_ _ _ _=>(fK ya (f2 (fv 1) (fv 0))))))))) ?_;rintro as Q ⟨x,y,t,s,e,f,rfl,hv,ht,hf,he,hs,q⟩;have s8:∀{s:Int},s.natAbs<=3->s.natAbs<2^8000:=λh=>uV (e:=2) (VT h ∅) ∅;have st:∀{k s:Int},k.natAbs<=3->1<=s/\s<=3->bI (aN t (jT k s))/\sz (aN t (jT k s))<=f+2:=λh1 h2=>by
  obtain⟨n1,n2⟩:=Kx h1 h2;have:=cF ht n1;exact⟨aO ht n1,⋯⟩
 have tn:∀{k s:Int},k.natAbs<=3->1<=s/\s<=3->Nv (cT (aN t (jT k s))) (sT (aN t (jT k s))) (2*f+5):=λh1 h2=>by
  obtain⟨n1,n2⟩:=st h1 h2;exact(Cs n1).up ⋯
 have rr:∀{s:Int},1<=s/\s<=3->(-(2^62)<=(1:Int)/\(1:Int)<2^62/\-(2^62)<=s+1/\s+1<2^62):=λh=>⋯
 have lk:∀{k s:Int},k.natAbs<=3->1<=s/\s<=3->bI (jT k s)/\sz t+sz (jT k s)<=7900/\s≠0/\s.natAbs<2^8000/\bI (aN t (jT k s))/\sz (aN t (jT k s))<=1000:=λh1 h2=>by
  obtain⟨n1,n2⟩:=Kx h1 h2;obtain⟨m1,m2⟩:=st h1 h2;exact⟨n1,⋯,⋯,s8 ⋯,m1,⋯⟩
 obtain rfl|rfl|rfl:=hs
 ·obtain⟨a1,a2,a3,a4,a5,a6⟩:=lk (k:=1) (s:=1) ∅ ∅;have m:∀k:Int,k.natAbs<=3->Nv (cT (aN t (jT k 1))) (sT (aN t (jT k 1))) (2*f+5):=λk h=>tn h ∅;refine⟨∅,rfl,_,_,rfl,a3,a4,t,_,rfl,ht,a1,a2,_,rfl,a5,a6,dB rfl,rfl,rfl,x,y,_,_,e,_,rfl,hv,m _ ∅,⋯,dB rfl,rfl,?_⟩;exact⟨rfl,q⟩
 ·obtain⟨a1,a2,a3,a4,a5,a6⟩:=lk (k:=1) (s:=2) ∅ ∅;obtain⟨b1,b2,b3,b4,b5,b6⟩:=lk (k:=2) (s:=2) ∅ ∅;have m:∀k:Int,k.natAbs<=3->Nv (cT (aN t (jT k 2))) (sT (aN t (jT k 2))) (2*f+5):=λk h=>tn h ∅;refine⟨∅,rfl,_,_,rfl,a3,a4,t,_,rfl,ht,a1,a2,_,rfl,a5,a6,dB rfl,_,_,rfl,a3,a4,t,_,rfl,ht,b1,b2,_,rfl,b5,b6,dB rfl,rfl,rfl,x,y,_,_,e,_,rfl,hv,m _ ∅,⋯,dB rfl,x,y,_,_,e,_,rfl,hv,m _ ∅,⋯,dB rfl,rfl,?_⟩;exact⟨rfl,q⟩
 ·obtain⟨a1,a2,a3,a4,a5,a6⟩:=lk (k:=1) (s:=3) ∅ ∅;obtain⟨b1,b2,b3,b4,b5,b6⟩:=lk (k:=2) (s:=3) ∅ ∅;obtain⟨c1,c2,c3,c4,c5,c6⟩:=lk (k:=3) (s:=3) ∅ ∅;have m:∀k:Int,k.natAbs<=3->Nv (cT (aN t (jT k 3))) (sT (aN t (jT k 3))) (2*f+5):=λk h=>tn h ∅;refine⟨∅,rfl,_,_,rfl,a3,a4,t,_,rfl,ht,a1,a2,_,rfl,a5,a6,dB rfl,_,_,rfl,a3,a4,t,_,rfl,ht,b1,b2,_,rfl,b5,b6,dB rfl,_,_,rfl,a3,a4,t,_,rfl,ht,c1,c2,_,rfl,c5,c6,dB rfl,rfl,rfl,x,y,_,_,e,_,rfl,hv,m _ ∅,⋯,dB rfl,x,y,_,_,e,_,rfl,hv,m _ ∅,⋯,dB rfl,x,y,_,_,e,_,rfl,hv,m _ ∅,⋯,dB rfl,rfl,?_⟩;exact⟨rfl,q⟩
def hq(x y p q:Fr):Prop:=(cS x y p q).1<=0\/(aU x y p q).1<0
def wG(p q:Fr):Nat->Fr->Fr->Prop
 |0,x,y=>¬hq x y p q
 |n+1,x,y=>hq x y p q/\wG p q n (aQ y) x
theorem Es(h:Nv x y e)(k:Nv p q f):hq x y p q↔(val x*val p+val y*val q<=0\/val x*val q-val y*val p<0):=by
 unfold hq;rw[<-Ak (bG h k),<-Al (cU h k),eN h k,eC h k]
theorem Gu(h:bW x y e)(k:bW p q f):∃m,m<=3/\wG p q m x y:=by
 have i0:=Es h.nv k.nv;have i1:=Es h.left.nv k.nv;have i2:=Es h.left.left.nv k.nv;have i3:=Es h.left.left.left.nv k.nv;rw[bV h.nv.y]at i1;rw[bV h.nv.y,bV h.nv.x]at i2;rw[bV (d5 h.nv.y),bV h.nv.y,bV h.nv.x]at i3;have one:(val x*val p+val y*val q)*(val x*val p+val y*val q)+(val x*val q-val y*val p)*(val x*val q-val y*val p)=1:=by
  have:=h.one;have:=k.one;grind
 generalize hD:val x*val p+val y*val q=D at *;generalize hC:val x*val q-val y*val p=C at *;have j1:hq (aQ y) x p q↔(C<=0\/0<D):=by rw[i1];grind
 have j2:hq (aQ x) (aQ y) p q↔(0<=D\/0<C):=by rw[i2];grind
 have j3:hq (aQ (aQ y)) (aQ x) p q↔(0<=C\/D<0):=by rw[i3];grind
 by_cases c0:hq x y p q
 ·by_cases c1:hq (aQ y) x p q
  ·by_cases c2:hq (aQ x) (aQ y) p q
   ·refine⟨3,∅,c0,c1,c2,?_⟩;show ¬hq (aQ (aQ y)) (aQ x) p q;rw[j3];rw[i0]at c0;rw[j1]at c1;rw[j2]at c2;have nz:D=0->C=0->False:=λa b=>by rw[a,b]at one;grind
    clear i0 i1 i2 i3 j1 j2 j3 one hD hC h k;grind
   ·exact⟨2,∅,c0,c1,c2⟩
  ·exact⟨1,∅,c0,c1⟩
 ·exact⟨0,∅,c0⟩
def oQ(x y p q:Fr):Fr:=b7 (aU x y p q) (bH (1,1) (cS x y p q))
def iQ(p q:Fr)(s:Int)(x y:Fr):List L2.T:=if x=p/\y=q then[]else wY x y (oQ x y p q) s
def qb(p q:Fr)(s:Int):Nat->Fr->Fr->List L2.T
 |0,x,y=>iQ p q s x y
 |n+1,x,y=>wY x y (1,1) s++qb p q s n (aQ y) x
theorem wW(h:Nv x y e):wH x y (1,1)=vc (aQ y) x:=by
 have e1:cT (1,1)=(0,1):=∅
 have e2:sT (1,1)=(1,1):=∅
 unfold wH;rw[e1,e2];have e8:L5 x y (0,1) (1,1)=aQ y:=bQ (h.tr S7).x (d5 h.y) (by rw[iO h S7,iR,mQ,bV h.y];grind);have e9:L4 x y (0,1) (1,1)=x:=bQ (h.tr S7).y h.x (by rw[iN h S7,iR,mQ];grind);rw[e8,e9]
theorem Xw(x y:Fr){s:Int}(ht:bI t)(hs:s=1\/s=2\/s=3):∃L,wY x y t s=L++[wH x y t]/\L.length<=2:=by
 have e:∀{s:Int},s≠0->aN t (jT s s)=t:=λ{s}h=>bQ (aO ht (iG h)) ht (by
  rw[bB ht (iG h),gV h];have:(s:Rat)≠0:=by exact_mod_cast h
  grind)
 obtain rfl|rfl|rfl:=hs
 ·exact⟨[],by show[wH x y (aN t (jT 1 1))]=_;rw[e ∅];rfl,∅⟩
 ·exact⟨[wH x y (aN t (jT 1 2))],by show[_,wH x y (aN t (jT 2 2))]=_;rw[e ∅];rfl,by simp⟩
 ·exact⟨[wH x y (aN t (jT 1 3)),wH x y (aN t (jT 2 3))],by show[_,_,wH x y (aN t (jT 3 3))]=_;rw[e ∅];rfl,by simp⟩
def SX:dF:=λas Q=>∃(x y p q:Fr)(e f:Nat),as=[.v (vc x y),.v (vc p q)]/\Nv x y e/\Nv p q f/\e+f<=3900/\(∀b,(b=true↔hq x y p q)->Q (.v (.bl b)) [])
abbrev o7(P w K mg base):=(~~~Fn) 5 "has_quarter" oH (aI K SX)
abbrev lR:fq:=top 38
theorem Aa:aF oH oH (aC lR):=dJ
theorem y8(F:cI K "has_quarter" "has_quarter" lR f fd)(TX:Txt mg)(qy: ~~~rO)(qx: ~~~oU):(~~~aS) cL 5 f fd oH (aI K SX):=by
 refine F.okU Aa (λhr=>(aE (aG (KQ (Ye LY (fX (fK qy (f2 (fv 0) (fv 1))) aA) aA (aZ _)) (yQ (Ye kT (fX (fK qx (f2 (fv 0) (fv 1))) aA) aA (aZ _))))))) ?_;rintro as Q ⟨x,y,p,q,e,f,rfl,h,k,he,z⟩;refine⟨x,y,p,q,e,f,rfl,h,k,he,?_⟩;show if decide ((cS x y p q).1<=0)=true then _ else _
 by_cases c:(cS x y p q).1<=0
 ·rw[oY c,oV rfl];exact⟨rfl,z true ⟨λ_=>.inl c,λ_=>rfl⟩⟩
 ·rw[oX c,oW ∅];refine⟨x,y,p,q,e,f,rfl,h,k,he,rfl,z _ ?_⟩;show decide ((aU x y p q).1<0)=true↔_;rw[decide_eq_true_iff];exact⟨λr=>.inr r,λr=>r.resolve_left c⟩
theorem Cr:∀(xs ys:List L2.T),bM (xs++ys)=(bM xs&&bM ys)
 |[],ys=>rfl
 |x::xs,ys=>by
  show(noL x&&bM (xs++ys))=_;rw[Cr xs ys,<-Bool.and_assoc];rfl
theorem Jn{s:Int}(x y t:Fr)(hs:s=1\/s=2\/s=3):bM (wY x y t s)=true:=by rcases hs with rfl|rfl|rfl<;>rfl
theorem Ry{s:Int}(p q:Fr)(hs:s=1\/s=2\/s=3):∀(m:Nat)(x y:Fr),bM (qb p q s m x y)=true
 |0,x,y=>by
  show bM (iQ p q s x y)=true;unfold iQ
  split
  ·rfl
  ·exact Jn _ _ _ hs
 |m+1,x,y=>by
  show bM (wY x y (1,1) s++qb p q s m (aQ y) x)=true;rw[Cr,Jn _ _ _ hs,Ry p q hs m];rfl
theorem xB{s:Int}(x y t:Fr)(hs:s=1\/s=2\/s=3):(wY x y t s).length<=3:=by
 obtain rfl|rfl|rfl:=hs
 ·show 1<=3;decide
 ·show 2<=3;decide
 ·show 3<=3;decide
theorem Fm(h:Nv x y e)(k:Nv p q f)(c:¬hq x y p q):0<val (cS x y p q)/\0<=val (aU x y p q):=by
 unfold hq at c;rw[not_or]at c;exact⟨(lY (bG h k)).2 ⋯,(fO (cU h k)).2 ⋯⟩
theorem mP(h:Nv x y e)(k:Nv p q f)(c:¬hq x y p q):(bH (1,1) (cS x y p q)).1≠0:=by
 have h1:=(Fm h k c).1;have h2:=cN (aM 1) (bG h k);rw[iR]at h2;have h3:=(lY (cH (aM 1) (bG h k))).1 (by rw[h2];grind)
 lia
theorem Kw(h:Nv x y e)(k:Nv p q f):sz (aU x y p q)<=2*(e+f)+1:=by
 have:=h.sx;have:=h.sy;have:=k.sx;have:=k.sy;have s1:=cF h.x k.y;have s2:=cF h.y k.x;have s6:=lX (aO h.x k.y) (aO h.y k.x);show sz (aT (aN x q) (aN y p))<=_
 lia
theorem Af(h:Nv x y e)(k:Nv p q f)(n:(bH (1,1) (cS x y p q)).1≠0):bI (oQ x y p q)/\sz (oQ x y p q)<=4*(e+f)+4:=by
 have s5:=Kw h k;have s6:=nS h k;have s7:=gZ (aM 1) (bG h k);have o:sz (1,1)=1:=∅
 have s8:=qV (cU h k) n;refine⟨gN (cU h k) n,?_⟩;show sz (b7 _ _)<=_
 lia
def TF:dF:=λas Q=>∃(x y p q:Fr)(s:Int)(e f m:Nat),as=[.v (vc x y),.v (vc p q),.v (.int s)]/\bW x y e/\bW p q f/\e+f<=140/\(s=1\/s=2\/s=3)/\m<=3/\wG p q m x y/\Q (.l (vc x y::qb p q s m x y)) []
abbrev j8(P w K mg base):=(~~~Fn) 6 "quarters_between" ["one","other","steps"] (aI K TF)
abbrev gY:fq:=top 39
theorem dR:aF ["one","other","steps","units","last","tangent"] ["one","other","steps"] (aC gY):=dJ
theorem rB(F:cI K "quarters_between" "quarters_between" gY f fd)(TX:Txt mg)(uh: ~~~o7)(vq: ~~~xV)(sf: ~~~sY)(qx: ~~~oU)(oh: ~~~iB)(qy: ~~~rO)(pf:nW mg K "ONE_turns" (.tup [.int 1,.int 1])):(~~~aS) cL 6 f fd ["one","other","steps"] (aI K TF):=by
 refine F.okU dR (λhr=>(aB (fS 3 dR.nd (bX (f1 (fv 0)))) (aB (pG PassesOwn.never (gH (fK uh (f2 (fX (fv 3) (c7 aA)) (fv 1)))) (aE (dY (mD rfl (fv 3) (f1 (fK vq (f3 (fX (fv 3) (c7 aA)) (jA rfl pf) (fv 2)))))))) (aB (fS 4 dR.nd (fX (fv 3) (c7 aA))) (aB (bP (rL rfl hr (fv 4) (fv 1) (aZ _)) (aB (fS 5 dR.nd (fK sf (f2 (fK qx (f2 (fv 4) (fv 1))) (fK oh (f2 (jA rfl pf) (fK qy (f2 (fv 4) (fv 1)))))))) (aE (dY (mD rfl (fv 3) (f1 (fK vq (f3 (fv 4) (fv 5) (fv 2)))))))) bE) (aE (aG (fv 3)))))))) ?_;rintro as Q ⟨x,y,p,q,s,e,f,m0,rfl,hu,hv,he,hs,hm,hr,z⟩;refine⟨λm' E=>∃(L:List L2.T)(x' y':Fr),E=[⇑(vc x y),⇑(vc p q),↑s,↥(L++[vc x' y']),none,none]/\bW x' y' e/\wG p q m' x' y'/\L.length+3*m'<=9/\L++vc x' y'::qb p q s m' x' y'=vc x y::qb p q s m0 x y,⟨m0,[],x,y,rfl,hu,hr,by show 0+3*m0<=9;lia,rfl⟩,?_⟩;rintro m E ⟨L,x',y',rfl,hu',hr,hl,hL⟩;have hat:=kK L (vc x' y');show o1 (dX (L++[vc x' y']) (-1)) _;rw[hat];refine⟨x',y',p,q,e,f,rfl,hu'.nv,hv.nv,⋯,λb hb=>?_⟩;show if b=true then _ else _
 by_cases c:hq x' y' p q
 ·rw[oV (hb.2 c)];obtain⟨m,rfl⟩:∃k,m=k+1:=by
   cases m with
   |zero=>exact absurd c hr
   |succ k=>exact⟨k,rfl⟩
  obtain⟨L',hL',l2⟩:=Xw x' y' (aM 1) hs;show o1 (dX (L++[vc x' y']) (-1)) _;rw[hat];refine⟨x',y',(1,1),s,e,1,rfl,hu'.nv,aM 1,∅,⋯,hs,?_⟩;refine⟨?_,m,YI m,L++[vc x' y']++L',aQ y',x',?_,hu'.left,hr.2,?_,?_⟩
  ·have:=xB x' y' (1,1) hs;show((L++[vc x' y'])++wY x' y' (1,1) s).length<=9000;rw[UT,UT,VL]
   lia
  ·show[_,_,_,oZ (U.o false ((L++[vc x' y'])++wY x' y' (1,1) s)),_,_]=_;rw[hL',wW hu'.nv,VH (L++[vc x' y'])]
  ·rw[UT,UT,VL]
   lia
  ·rw[<-hL];show _=L++vc x' y'::(wY x' y' (1,1) s++qb p q s m (aQ y') x');rw[hL',wW hu'.nv];simp
 ·rw[oW (λr=>c (hb.1 r))];obtain rfl:m=0:=by
   cases m with
   |zero=>rfl
   |succ k=>exact absurd hr.1 c
  have nl:bM (vc x y::qb p q s m0 x y)=true:=Ry p q hs m0 x y;show o1 (dX (L++[vc x' y']) (-1)) _;rw[hat];refine⟨dB rfl,?_⟩;show if(!L2.dG (vc x' y') (vc p q))=true then _ else _;rw[Ca];have e0:qb p q s 0 x' y'=iQ p q s x' y':=rfl;rw[e0]at hL;unfold iQ at hL
  by_cases d:x'=p/\y'=q
  ·rw[oV d]at hL;rw[oW (by simpa using d)];rw[hL];exact⟨nl,z⟩
  ·rw[oW d]at hL;rw[oV (by rw[oX d];rfl)];have ne:=mP hu'.nv hv.nv c;obtain⟨t1,t2⟩:=Af hu'.nv hv.nv ne;have:=(hu'.nv.tr hv.nv);refine⟨x',y',p,q,e,f,rfl,hu'.nv,hv.nv,⋯,x',y',p,q,e,f,rfl,hu'.nv,hv.nv,⋯,(1,1),_,rfl,aM 1,bG hu'.nv hv.nv,?_,_,_,rfl,cU hu'.nv hv.nv,cH (aM 1) (bG hu'.nv hv.nv),ne,?_,?_⟩
   ·have:=nS hu'.nv hv.nv;have o:sz (1,1)=1:=∅
    lia
   ·have:=nS hu'.nv hv.nv;have:=Kw hu'.nv hv.nv;have o:sz (1,1)=1:=∅
    have:=gZ (aM 1) (bG hu'.nv hv.nv)
    lia
   refine⟨x',y',_,s,e,_,rfl,hu'.nv,t1,t2,⋯,hs,?_⟩;have ee:(L++[vc x' y'])++wY x' y' (oQ x' y' p q) s=vc x y::qb p q s m0 x y:=by rw[<-hL];simp
   refine⟨?_,?_,?_⟩
   ·have:=xB x' y' (oQ x' y' p q) hs;show((L++[vc x' y'])++wY x' y' (oQ x' y' p q) s).length<=9000;rw[UT,UT,VL]
    lia
   ·show bM ((L++[vc x' y'])++wY x' y' (oQ x' y' p q) s)=true;rw[ee];exact nl
   ·show Q (.l ((L++[vc x' y'])++wY x' y' (oQ x' y' p q) s)) [];rw[ee];exact z
end
theorem OA(h:bW x y e)(k:bW p q f)(c:¬hq x y p q)(c1:¬0<(aU x y p q).1):x=p/\y=q:=by
 have hh:=Fm h.nv k.nv c;have c3:val (aU x y p q)=0:=by
  have:=(Ak (cU h.nv k.nv)).2 ⋯;grind
 have d1:=hh.1;rw[eN h.nv k.nv]at d1;rw[eC h.nv k.nv]at c3;have h1:=h.one;have k1:=k.one;have one:(val x*val p+val y*val q)*(val x*val p+val y*val q)=1:=by
  have:(val x*val p+val y*val q)*(val x*val p+val y*val q)+(val x*val q-val y*val p)*(val x*val q-val y*val p)=1:=by grind
  rw[c3]at this;grind
 have ex:val p=val x*(val x*val p+val y*val q)-val y*(val x*val q-val y*val p):=by grind
 have ey:val q=val y*(val x*val p+val y*val q)+val x*(val x*val q-val y*val p):=by grind
 rw[c3]at ex ey;generalize val x*val p+val y*val q=D at *;have d2:D=1:=by
  have:(D-1)*(D+1)=0:=by grind
  rcases Rat.mul_eq_zero.mp this with a|a<;>grind
 rw[d2]at ex ey;exact⟨bQ h.nv.x k.nv.x (by grind),bQ h.nv.y k.nv.y (by grind)⟩
theorem bW.tr(h:bW x y e)(k:bW c s f):bW (L5 x y c s) (L4 x y c s) (2*(e+f)+1):=⟨h.nv.tr k.nv,by
 rw[iO h.nv k.nv,iN h.nv k.nv];have:=h.one;have:=k.one;grind⟩
theorem zA(r:Rat):0<1+r*r:=by
 have:0<=r*r:=by
   rcases Rat.le_total (a:=0) (b:=r)with c|c
   ·exact Rat.mul_nonneg c c
   ·have h:=Rat.mul_nonneg (a:=-r) (b:=-r) (by grind) (by grind);grind
 grind
theorem L6{a b c1 s1 c2 s2:Rat}(ha:0<=a)(hab:a<b)(hb:b<=1)(e1:c1=(1-a*a)/(1+a*a))(e2:s1=2*a/(1+a*a))(e3:c2=(1-b*b)/(1+b*b))(e4:s2=2*b/(1+b*b)):0<c1*s2-s1*c2/\0<=c1*c2+s1*s2:=by
 have A:=zA a;have B:=zA b;have AB:=Rat.mul_pos A B;have h1:c1*(1+a*a)=1-a*a:=by grind
 have h2:s1*(1+a*a)=2*a:=by grind
 have h3:c2*(1+b*b)=1-b*b:=by grind
 have h4:s2*(1+b*b)=2*b:=by grind
 have p1:0<=a*b:=Rat.mul_nonneg ha (by grind);have p2:0<(b-a)*(1+a*b):=Rat.mul_pos (by grind) (by grind);have p3:0<=(1-a)*(1+a):=Rat.mul_nonneg (by grind) (by grind);have p4:0<=(1-b)*(1+b):=Rat.mul_nonneg (by grind) (by grind);have p5:0<=((1-a)*(1+a))*((1-b)*(1+b)):=Rat.mul_nonneg p3 p4;constructor
 ·apply bZ AB;have:(c1*s2-s1*c2)*((1+a*a)*(1+b*b))=(c1*(1+a*a))*(s2*(1+b*b))-(s1*(1+a*a))*(c2*(1+b*b)):=by grind
  rw[this,h1,h2,h3,h4];have:(1-a*a)*(2*b)-2*a*(1-b*b)=2*((b-a)*(1+a*b)):=by grind
  rw[this];grind
 ·apply jC AB;have:(c1*c2+s1*s2)*((1+a*a)*(1+b*b))=(c1*(1+a*a))*(c2*(1+b*b))+(s1*(1+a*a))*(s2*(1+b*b)):=by grind
  rw[this,h1,h2,h3,h4];have:(1-a*a)*(1-b*b)+2*a*(2*b)=((1-a)*(1+a))*((1-b)*(1+b))+4*(a*b):=by grind
  rw[this];grind
structure PM(u v:L2.T):Prop where
 ex:∃a b c d:Fr,u=vc a b/\v=vc c d/\Nv a b 2500/\Nv c d 2500/\val c*val c+val d*val d=1/\0<val a*val d-val b*val c/\0<=val a*val c+val b*val d
def chn:L2.T->List L2.T->Prop
 |_,[]=>True
 |a,b::l=>PM a b/\chn b l
def lst:L2.T->List L2.T->L2.T
 |a,[]=>a
 |_,b::l=>lst b l
theorem Qo:∀{a:L2.T}{l m:List L2.T},chn a l->chn (lst a l) m->chn a (l++m)
 |_,[],_,_,h=>h
 |_,_::_,_,h,k=>⟨h.1,Qo h.2 k⟩
theorem Rv:∀(a:L2.T)(l m:List L2.T),lst a (l++m)=lst (lst a l) m
 |_,[],_=>rfl
 |_,b::l,m=>Rv b l m
theorem Fg:∀(a:L2.T)(l:List L2.T),∃L,a::l=L++[lst a l]
 |a,[]=>⟨[],rfl⟩
 |a,b::l=>by obtain⟨L,h⟩:=Fg b l;exact⟨a::L,by show a::(b::l)=a::(L++[lst b l]);rw[h]⟩
theorem Cq{x y t1 t2:Fr}{e:Nat}(h:bW x y e)(he:e<=100)(n1:bI t1)(n2:bI t2)(z1:sz t1<=566)(z2:sz t2<=566)(ha:0<=val t1)(hab:val t1<val t2)(hb:val t2<=1):PM (wH x y t1) (wH x y t2):=by
 have v1:=(Cs n1).up (show _<=1133 by lia);have v2:=(Cs n2).up (show _<=1133 by lia);obtain⟨p1,p2⟩:=L6 ha hab hb (sN n1) (sO n1) (sN n2) (sO n2);have o2:val (cT t2)*val (cT t2)+val (sT t2)*val (sT t2)=1:=by
  rw[sN n2,sO n2];have:=tZ (val t2);grind
 have o:=h.one;refine⟨_,_,_,_,rfl,rfl,(h.nv.tr v1).up ⋯,(h.nv.tr v2).up ⋯,?_,?_,?_⟩
 ·rw[iO h.nv v2,iN h.nv v2];grind
 ·rw[iO h.nv v2,iN h.nv v2,iO h.nv v1,iN h.nv v1];generalize val (cT t1)=c1 at *;generalize val (sT t1)=s1 at *;generalize val (cT t2)=c2 at *;generalize val (sT t2)=s2 at *;have:(val x*c1-val y*s1)*(val x*s2+val y*c2)-(val x*s1+val y*c1)*(val x*c2-val y*s2)=(val x*val x+val y*val y)*(c1*s2-s1*c2):=by grind
  rw[this,o];grind
 ·rw[iO h.nv v2,iN h.nv v2,iO h.nv v1,iN h.nv v1];generalize val (cT t1)=c1 at *;generalize val (sT t1)=s1 at *;generalize val (cT t2)=c2 at *;generalize val (sT t2)=s2 at *;have:(val x*c1-val y*s1)*(val x*c2-val y*s2)+(val x*s1+val y*c1)*(val x*s2+val y*c2)=(val x*val x+val y*val y)*(c1*c2+s1*s2):=by grind
  rw[this,o];grind
theorem wX(h:Nv x y e):wH x y (0,1)=vc x y:=by
 have e1:cT (0,1)=(1,1):=∅
 have e2:sT (0,1)=(0,1):=∅
 unfold wH;rw[e1,e2];have e8:L5 x y (1,1) (0,1)=x:=bQ (h.tr S8).x h.x (by rw[iO h S8,iR,mQ];grind);have e9:L4 x y (1,1) (0,1)=y:=bQ (h.tr S8).y h.y (by rw[iN h S8,iR,mQ];grind);rw[e8,e9]
theorem Ee{s:Int}(h:bW x y e)(he:e<=100)(n:bI t)(z:sz t<=564)(t0:0<val t)(t1:val t<=1)(hs:s=1\/s=2\/s=3):chn (vc x y) (wY x y t s)/\lst (vc x y) (wY x y t s)=wH x y t:=by
 have k:∀{k s:Int},k.natAbs<=3->1<=s/\s<=3->bI (aN t (jT k s))/\sz (aN t (jT k s))<=566/\val (aN t (jT k s))*(s:Rat)=val t*(k:Rat):=λ{k s}h1 h2=>by
  obtain⟨n1,n2⟩:=Kx h1 h2;have:=cF n n1;have nz:s≠0:=⋯
  refine⟨aO n n1,⋯,?_⟩;rw[bB n n1,gV nz];have:(s:Rat)≠0:=by exact_mod_cast nz
  grind
 have b0:bI ((0:Int),1):=aM 0;have z0:sz ((0:Int),1)<=566:=∅
 obtain rfl|rfl|rfl:=hs
 ·obtain⟨a1,a2,a3⟩:=k (k:=1) (s:=1) ∅ ∅;refine⟨⟨?_,trivial⟩,?_⟩
  ·rw[<-wX h.nv];exact Cq h he b0 a1 z0 a2 (by rw[mQ];grind) (by rw[mQ];grind) (by grind)
  ·show wH x y (aN t (jT 1 1))=_;rw[bQ a1 n (by grind)]
 ·obtain⟨a1,a2,a3⟩:=k (k:=1) (s:=2) ∅ ∅;obtain⟨b1,b2,b3⟩:=k (k:=2) (s:=2) ∅ ∅;refine⟨⟨?_,?_,trivial⟩,?_⟩
  ·rw[<-wX h.nv];exact Cq h he b0 a1 z0 a2 (by rw[mQ];grind) (by rw[mQ];grind) (by grind)
  ·exact Cq h he a1 b1 a2 b2 (by grind) (by grind) (by grind)
  ·show wH x y (aN t (jT 2 2))=_;rw[bQ b1 n (by grind)]
 ·obtain⟨a1,a2,a3⟩:=k (k:=1) (s:=3) ∅ ∅;obtain⟨b1,b2,b3⟩:=k (k:=2) (s:=3) ∅ ∅;obtain⟨c1,c2,c3⟩:=k (k:=3) (s:=3) ∅ ∅;refine⟨⟨?_,?_,?_,trivial⟩,?_⟩
  ·rw[<-wX h.nv];exact Cq h he b0 a1 z0 a2 (by rw[mQ];grind) (by rw[mQ];grind) (by grind)
  ·exact Cq h he a1 b1 a2 b2 (by grind) (by grind) (by grind)
  ·exact Cq h he b1 c1 b2 c2 (by grind) (by grind) (by grind)
  ·show wH x y (aN t (jT 3 3))=_;rw[bQ c1 n (by grind)]
theorem Dg(h:bW x y e)(k:bW p q f)(c:¬hq x y p q)(d:¬(x=p/\y=q)):0<val (oQ x y p q)/\val (oQ x y p q)<=1/\wH x y (oQ x y p q)=vc p q:=by
 have hh:=Fm h.nv k.nv c;have ne:=mP h.nv k.nv c;have c0:0<val (aU x y p q):=(lY (cU h.nv k.nv)).2 (by
  obtain a|a:=br 0 (aU x y p q).1
  ·exact a
  ·exact absurd (OA h k c ⋯) d)
 have hd:=hh.1;have nt:=(Af h.nv k.nv ne).1;have vt:val (oQ x y p q)=val (aU x y p q)/(1+val (cS x y p q)):=by
  unfold oQ;rw[jR (cU h.nv k.nv) (cH (aM 1) (bG h.nv k.nv)) ne,cN (aM 1) (bG h.nv k.nv),iR]
 have one:val (cS x y p q)*val (cS x y p q)+val (aU x y p q)*val (aU x y p q)=1:=by
  rw[eN h.nv k.nv,eC h.nv k.nv];have:=h.one;have:=k.one;grind
 have hD:=eN h.nv k.nv;have hC:=eC h.nv k.nv;have wt:=Cs nt;have vc1:=sN nt;have vs1:=sO nt;have zz:=tZ (val (oQ x y p q));have ex:val p=val x*val (cS x y p q)-val y*val (aU x y p q):=by rw[hD,hC];have:=h.one;grind
 have ey:val q=val x*val (aU x y p q)+val y*val (cS x y p q):=by rw[hD,hC];have:=h.one;grind
 have t1:val (oQ x y p q)*(1+val (cS x y p q))=val (aU x y p q):=by
  rw[vt];have n1:1+val (cS x y p q)≠0:=by grind
  clear vt vc1 vs1 zz ex ey hD hC one;exact Rat.div_mul_cancel n1
 have cle:val (aU x y p q)<=1:=by
  rcases Rat.le_total (a:=val (aU x y p q)) (b:=1)with a|a
  ·exact a
  ·have p1:=Rat.mul_nonneg (a:=val (aU x y p q)-1) (b:=val (aU x y p q)+1) (by grind) (by grind);have p2:=Rat.mul_pos hd hd;grind
 have t0:0<val (oQ x y p q):=bZ (k:=1+val (cS x y p q)) (by grind) (by rw[t1];exact c0);have t2:0<=1-val (oQ x y p q):=jC (k:=1+val (cS x y p q)) (by grind) (by
  have:(1-val (oQ x y p q))*(1+val (cS x y p q))=1+val (cS x y p q)-val (aU x y p q):=by grind
  rw[this];grind)
 refine⟨t0,by grind,?_⟩;have g1:val (cT (oQ x y p q))=val (cS x y p q):=by
  rw[vc1];generalize val (oQ x y p q)=t at *;generalize val (cS x y p q)=D at *;generalize val (aU x y p q)=C at *;have:(1-t*t-D*(1+t*t))*((1+D)*(1+D))=0:=by grind
  have nz:(1+D)*(1+D)≠0:=by have:=Rat.mul_pos (a:=1+D) (b:=1+D) (by grind) (by grind);grind
  obtain a|a:=Rat.mul_eq_zero.mp this
  ·grind
  ·exact absurd a nz
 have g2:val (sT (oQ x y p q))=val (aU x y p q):=by
  rw[vs1];generalize val (oQ x y p q)=t at *;generalize val (cS x y p q)=D at *;generalize val (aU x y p q)=C at *;have:(2*t-C*(1+t*t))*((1+D)*(1+D))=0:=by grind
  have nz:(1+D)*(1+D)≠0:=by have:=Rat.mul_pos (a:=1+D) (b:=1+D) (by grind) (by grind);grind
  obtain a|a:=Rat.mul_eq_zero.mp this
  ·grind
  ·exact absurd a nz
 have f1:L5 x y (cT (oQ x y p q)) (sT (oQ x y p q))=p:=bQ (h.nv.tr wt).x k.nv.x (by rw[iO h.nv wt,g1,g2,ex]);have f2:L4 x y (cT (oQ x y p q)) (sT (oQ x y p q))=q:=bQ (h.nv.tr wt).y k.nv.y (by rw[iN h.nv wt,g1,g2,ey]);unfold wH;rw[f1,f2]
theorem yH{s:Int}(k:bW p q f)(hee:e<=100)(he:e+f<=140)(hs:s=1\/s=2\/s=3):∀(m:Nat)(x y:Fr),bW x y e->wG p q m x y->chn (vc x y) (qb p q s m x y)/\lst (vc x y) (qb p q s m x y)=vc p q
 |0,x,y,h,r=>by
  show chn (vc x y) (iQ p q s x y)/\lst (vc x y) (iQ p q s x y)=vc p q;unfold iQ
  by_cases d:x=p/\y=q
  ·rw[oV d];exact⟨trivial,by rw[d.1,d.2];rfl⟩
  ·rw[oW d];obtain⟨t0,t1,te⟩:=Dg h k r d;obtain⟨z1,z2⟩:=Af h.nv k.nv (mP h.nv k.nv r);have:=Ee h hee z1 ⋯ t0 t1 hs;rw[te]at this;exact this
 |m+1,x,y,h,r=>by
  obtain⟨a1,a2⟩:=Ee (t:=(1,1)) h hee (aM 1) ∅ (by rw[iR];grind) (by rw[iR];grind) hs;rw[wW h.nv]at a2;obtain⟨b1,b2⟩:=yH k hee he hs m (aQ y) x h.left r.2;rw[<-a2]at b1 b2;exact⟨Qo a1 b1,by rw[<-b2];exact Rv _ _ _⟩
def Lr(l:List L2.T):Prop:=∀t∈l,∃a b,t=vc a b
theorem Ig(x y t:Fr)(s:Int):Lr (wY x y t s):=λz hz=>by
 obtain⟨k,_,rfl⟩:=XF.mp hz;exact⟨_,_,rfl⟩
theorem Qk(p q:Fr)(s:Int):∀(m:Nat)(x y:Fr),Lr (qb p q s m x y)
 |0,x,y=>λz hz=>by
  have hz:z∈iQ p q s x y:=hz;unfold iQ at hz;split at hz
  ·cases hz
  ·exact Ig _ _ _ _ z hz
 |m+1,x,y=>λz hz=>by
  obtain h|h:=VX.mp hz
  ·exact Ig _ _ _ _ z h
  ·exact Qk p q s m _ _ z h
theorem Ff{s:Int}(p q:Fr)(hs:s=1\/s=2\/s=3):∀(m:Nat)(x y:Fr),(qb p q s m x y).length<=3*m+3
 |0,x,y=>by
  show(iQ p q s x y).length<=3;unfold iQ
  split
  ·decide
  ·exact xB _ _ _ hs
 |m+1,x,y=>by
  have:=xB x y (1,1) hs;have:=Ff p q hs m (aQ y) x;show(wY x y (1,1) s++qb p q s m (aQ y) x).length<=_;rw[UT]
  lia
def fD(D C:Rat):Rat:=if 0<=C then 1-D else 3+D
def cx:L2.T->Fr×Fr
 |.tup [.tup [.int a,.int b],.tup [.int c,.int d]]=>((a,b),(c,d))
 |_=>((0,1),(0,1))
theorem tM(a b:Fr):cx (vc a b)=(a,b):=rfl
def kf(x y:Fr)(t:L2.T):Rat:=fD (val x*val (cx t).1+val y*val (cx t).2) (val x*val (cx t).2-val y*val (cx t).1)
theorem jL(x y a b:Fr):kf x y (vc a b)=fD (val x*val a+val y*val b) (val x*val b-val y*val a):=rfl
def srt(k:L2.T->Rat):L2.T->List L2.T->Prop
 |_,[]=>True
 |a,b::l=>k a<k b/\srt k b l
theorem Sr{k:L2.T->Rat}:∀{a:L2.T}{l m:List L2.T},srt k a l->srt k (lst a l) m->srt k a (l++m)
 |_,[],_,_,h=>h
 |_,_::_,_,h,g=>⟨h.1,Sr h.2 g⟩
theorem uA{k:L2.T->Rat}:∀{a:L2.T}{l:List L2.T},srt k a l->∀{i:Nat}{u:L2.T},(a::l)[i]?=oZ u->i<l.length->k u<k (lst a l)
 |a,[],_,i,u,_,h=>by simp at h
 |a,[b],h,0,u,e,_=>by cases e;exact h.1
 |a,b::c::l,h,0,u,e,_=>by
  cases e;have:=uA (a:=b) (l:=c::l) h.2 (i:=0) rfl (by simp);have h1:=h.1;show k a<k (lst b (c::l));grind
 |a,b::l,h,i+1,u,e,hi=>uA (a:=b) (l:=l) h.2 e (by simpa using hi)
def At(j:Nat)(D C:Rat):Prop:=(j=0/\D=1/\C=0)\/(j=1/\D=0/\C=1)\/(j=2/\D = -1/\C=0)\/(j=3/\D=0/\C = -1)
def A9(j:Nat)(a:Rat):Rat:=if j%2=0 then 1-(1-a*a)/(1+a*a)else 2*a/(1+a*a)
theorem U7{a b:Rat}(j:Nat)(ha:0<=a)(hab:a<b)(hb:b<=1):A9 j a<A9 j b:=by
 have A:=zA a;have B:=zA b;have AB:=Rat.mul_pos A B;have p0:0<=a*(1-b):=Rat.mul_nonneg ha (by grind);have p00:0<1-a*b:=by
   have:1-a*b=(1-a)+a*(1-b):=by grind
   rw[this];grind
 have p1:0<(b-a)*(1-a*b):=Rat.mul_pos (by grind) p00;have p2:0<(b-a)*(b+a):=Rat.mul_pos (by grind) (by grind);have e1:(1-a*a)/(1+a*a)*(1+a*a)=1-a*a:=Rat.div_mul_cancel (by grind);have e2:(1-b*b)/(1+b*b)*(1+b*b)=1-b*b:=Rat.div_mul_cancel (by grind);have e3:2*a/(1+a*a)*(1+a*a)=2*a:=Rat.div_mul_cancel (by grind);have e4:2*b/(1+b*b)*(1+b*b)=2*b:=Rat.div_mul_cancel (by grind);unfold A9;generalize(1-a*a)/(1+a*a)=c1 at *;generalize(1-b*b)/(1+b*b)=c2 at *;generalize 2*a/(1+a*a)=s1 at *;generalize 2*b/(1+b*b)=s2 at *
 split
 ·have:0<(1-c2)-(1-c1):=bZ AB (by
   have:((1-c2)-(1-c1))*((1+a*a)*(1+b*b))=(c1*(1+a*a))*(1+b*b)-(c2*(1+b*b))*(1+a*a):=by grind
   rw[this,e1,e2];have:(1-a*a)*(1+b*b)-(1-b*b)*(1+a*a)=2*((b-a)*(b+a)):=by grind
   rw[this];grind)
  grind
 ·have:0<s2-s1:=bZ AB (by
   have:(s2-s1)*((1+a*a)*(1+b*b))=(s2*(1+b*b))*(1+a*a)-(s1*(1+a*a))*(1+b*b):=by grind
   rw[this,e3,e4];have:2*b*(1+a*a)-2*a*(1+b*b)=2*((b-a)*(1-a*b)):=by grind
   rw[this];grind)
  grind
theorem Zf(h:bW x y e)(k:bW p q f)(hj:At j (val x*val p+val y*val q) (val x*val q-val y*val p))(n:bI t)(t0:0<=val t)(t1:val t<=1)(t3:j=3->val t<1):kf x y (wH p q t)=(j:Rat)+A9 j (val t):=by
 have w:=Cs n;have A:=zA (val t);unfold wH;rw[jL,iO k.nv w,iN k.nv w];have e1:val (cT t)*(1+val t*val t)=1-val t*val t:=by rw[sN n];exact Rat.div_mul_cancel (by grind)
 have e2:val (sT t)*(1+val t*val t)=2*val t:=by rw[sO n];exact Rat.div_mul_cancel (by grind)
 have p3:0<=(1-val t)*(1+val t):=Rat.mul_nonneg (by grind) (by grind);have c0:0<=val (cT t):=jC A (by rw[e1];grind);have s0:0<=val (sT t):=jC A (by rw[e2];grind);have cc:j=3->0<val (cT t):=λh=>bZ A (by
  rw[e1];have:=t3 h;have:=Rat.mul_pos (a:=1-val t) (b:=1+val t) (by grind) (by grind);grind)
 have gD:val x*(val p*val (cT t)-val q*val (sT t))+val y*(val p*val (sT t)+val q*val (cT t))=val (cT t)*(val x*val p+val y*val q)-val (sT t)*(val x*val q-val y*val p):=by grind
 have gC:val x*(val p*val (sT t)+val q*val (cT t))-val y*(val p*val (cT t)-val q*val (sT t))=val (sT t)*(val x*val p+val y*val q)+val (cT t)*(val x*val q-val y*val p):=by grind
 rw[gD,gC];unfold A9;rw[<-sN n,<-sO n];generalize val x*val p+val y*val q=D at *;generalize val x*val q-val y*val p=C at *;unfold fD;obtain⟨rfl,rfl,rfl⟩|⟨rfl,rfl,rfl⟩|⟨rfl,rfl,rfl⟩|⟨rfl,rfl,rfl⟩:=hj
 ·rw[oV (by grind),oV ∅];grind
 ·rw[oV (by grind),oW ∅];grind
 ·by_cases z:val (sT t)=0
  ·have z1:val t=0:=by rw[z]at e2;grind
   rw[z1]at e1;rw[oV (by grind),oV ∅];grind
  ·rw[oW (by grind),oV ∅];grind
 ·have:=cc rfl;rw[oW (by grind),oW ∅];grind
theorem Ss{s:Int}(h:bW x y e)(k:bW p q f)(hj:At j (val x*val p+val y*val q) (val x*val q-val y*val p))(n:bI t)(z:sz t<=564)(t0:0<val t)(t1:val t<=1)(t3:j=3->val t<1)(hs:s=1\/s=2\/s=3):srt (kf x y) (vc p q) (wY p q t s):=by
 have kk:∀{k s:Int},k.natAbs<=3->1<=s/\s<=3->bI (aN t (jT k s))/\val (aN t (jT k s))*(s:Rat)=val t*(k:Rat):=λ{k s}h1 h2=>by
  obtain⟨n1,n2⟩:=Kx h1 h2;have nz:s≠0:=⋯
  refine⟨aO n n1,?_⟩;rw[bB n n1,gV nz];have:(s:Rat)≠0:=by exact_mod_cast nz
  grind
 have b0:bI ((0:Int),1):=aM 0;have step:∀{t1 t2:Fr},bI t1->bI t2->0<=val t1->val t1<val t2->val t2<=val t->kf x y (wH p q t1)<kf x y (wH p q t2):=λ{a b}na nb a0 ab bt=>by
  rw[Zf h k hj na a0 (by grind) (λz=>by have:=t3 z;grind),Zf h k hj nb (by grind) (by grind) (λz=>by have:=t3 z;grind)];have:=U7 j a0 ab (by grind);grind
 have zero:∀{t2:Fr},bI t2->0<val t2->val t2<=val t->kf x y (vc p q)<kf x y (wH p q t2):=λ{b}nb ab bt=>by
  rw[<-wX k.nv];exact step b0 nb (by rw[mQ];grind) (by rw[mQ];exact ab) bt
 obtain rfl|rfl|rfl:=hs
 ·obtain⟨a1,a3⟩:=kk (k:=1) (s:=1) ∅ ∅;exact⟨zero a1 (by grind) (by grind),trivial⟩
 ·obtain⟨a1,a3⟩:=kk (k:=1) (s:=2) ∅ ∅;obtain⟨b1,b3⟩:=kk (k:=2) (s:=2) ∅ ∅;exact⟨zero a1 (by grind) (by grind),step a1 b1 (by grind) (by grind) (by grind),trivial⟩
 ·obtain⟨a1,a3⟩:=kk (k:=1) (s:=3) ∅ ∅;obtain⟨b1,b3⟩:=kk (k:=2) (s:=3) ∅ ∅;obtain⟨c1,c3⟩:=kk (k:=3) (s:=3) ∅ ∅;exact⟨zero a1 (by grind) (by grind),step a1 b1 (by grind) (by grind) (by grind),step b1 c1 (by grind) (by grind) (by grind),trivial⟩
theorem II(h:bW x y e)(k:bW p q f)(c:¬hq x y p q)(d:¬(x=p/\y=q)):val (oQ x y p q)<1:=by
 have hh:=Fm h.nv k.nv c;have ne:=mP h.nv k.nv c;have hd:=hh.1;have one:val (cS x y p q)*val (cS x y p q)+val (aU x y p q)*val (aU x y p q)=1:=by
  rw[eN h.nv k.nv,eC h.nv k.nv];have:=h.one;have:=k.one;grind
 have vt:val (oQ x y p q)=val (aU x y p q)/(1+val (cS x y p q)):=by
  unfold oQ;rw[jR (cU h.nv k.nv) (cH (aM 1) (bG h.nv k.nv)) ne,cN (aM 1) (bG h.nv k.nv),iR]
 have t1:val (oQ x y p q)*(1+val (cS x y p q))=val (aU x y p q):=by
  rw[vt];exact Rat.div_mul_cancel (by grind)
 have cle:val (aU x y p q)<=1:=by
  rcases Rat.le_total (a:=val (aU x y p q)) (b:=1)with a|a
  ·exact a
  ·have p1:=Rat.mul_nonneg (a:=val (aU x y p q)-1) (b:=val (aU x y p q)+1) (by grind) (by grind);have p2:=Rat.mul_pos hd hd;grind
 have:0<1-val (oQ x y p q):=bZ (k:=1+val (cS x y p q)) (by grind) (by
  have:(1-val (oQ x y p q))*(1+val (cS x y p q))=1+val (cS x y p q)-val (aU x y p q):=by grind
  rw[this];grind)
 grind
theorem O3(h:bW x y e)(k:bW p q f)(hj:At j (val x*val p+val y*val q) (val x*val q-val y*val p))(j2:j<=2):At (j+1) (val x*val (aQ q)+val y*val p) (val x*val p-val y*val (aQ q)):=by
 rw[bV k.nv.y];have e1:val x * -val q+val y*val p = -(val x*val q-val y*val p):=by grind
 have e2:val x*val p-val y * -val q=val x*val p+val y*val q:=by grind
 rw[e1,e2];generalize val x*val p+val y*val q=D at *;generalize val x*val q-val y*val p=C at *;obtain⟨rfl,rfl,rfl⟩|⟨rfl,rfl,rfl⟩|⟨rfl,rfl,rfl⟩|⟨rfl,rfl,rfl⟩:=hj
 ·exact .inr (.inl ⟨rfl,by grind,rfl⟩)
 ·exact .inr (.inr (.inl ⟨rfl,by grind,rfl⟩))
 ·exact .inr (.inr (.inr ⟨rfl,by grind,rfl⟩))
 ·lia
theorem Pz{s:Int}(h:bW x y e)(k:bW p q f)(hee:g<=100)(he:g+f<=140)(hs:s=1\/s=2\/s=3):∀(m j:Nat)(a b:Fr),bW a b g->j+m<=3->At j (val x*val a+val y*val b) (val x*val b-val y*val a)->wG p q m a b->srt (kf x y) (vc a b) (qb p q s m a b)
 |0,j,a,b,u,hm,hj,r=>by
  show srt (kf x y) (vc a b) (iQ p q s a b);unfold iQ
  by_cases d:a=p/\b=q
  ·rw[oV d];trivial
  ·rw[oW d];obtain⟨t0,t1,te⟩:=Dg u k r d;obtain⟨z1,z2⟩:=Af u.nv k.nv (mP u.nv k.nv r);exact Ss h u hj z1 ⋯ t0 t1 (λ_=>II u k r d) hs
 |m+1,j,a,b,u,hm,hj,r=>by
  have s1:=Ss (t:=(1,1)) h u hj (aM 1) ∅ (by rw[iR];grind) (by rw[iR];grind) (λz=>⋯) hs;have a2:=(Ee (t:=(1,1)) u hee (aM 1) ∅ (by rw[iR];grind) (by rw[iR];grind) hs).2;rw[wW u.nv]at a2;have s2:=Pz h k hee he hs m (j+1) (aQ b) a u.left ⋯ (O3 h u hj ⋯) r.2;rw[<-a2]at s2;exact Sr s1 s2
section
variable{P:fu}{w:gn}{K:W.Frag}{mg:Str->Option oA}{base:oE}
def NF:dF:=λas Q=>∃x y:Fr,as=[.v (fr x),.v (fr y)]/\bI x/\bI y/\sz x<=7900/\sz y<=7900/\∀r:Int,(r<0↔val x<val y)->Q (.v (.int r)) []
theorem Qq(hx:bI x)(hy:bI y):x.1*y.2<y.1*x.2↔val x<val y:=by
 have e:=dE hx hy;have n:=dD hx hy;have l:=Al n;have dd:=fF hx hy;have v:=gV (n:=x.1*y.2-y.1*x.2) dd;have s:(aT x y).1<0↔x.1*y.2-y.1*x.2<0:=by
  have c:=Co (n:=x.1*y.2-y.1*x.2) dd;have d1:=(mI (n:=x.1*y.2-y.1*x.2) dd).2.1;have d2:0<x.2*y.2:=by
   have h1:1*1<=x.2*y.2:=ff hx.d hy.d ∅ (by have:=hx.d;lia)
   lia
  show tU _ _<0↔_;generalize tU (x.1*y.2-y.1*x.2) (x.2*y.2)=N at *;generalize pI (x.1*y.2-y.1*x.2) (x.2*y.2)=D at *;generalize x.1*y.2-y.1*x.2=A at *;generalize x.2*y.2=B at *;constructor
  ·intro h;have:N*B<0:=bc h d2;rw[c]at this;obtain a|a:=br A 0
   ·exact a
   ·have:=ZJ a (show 0<=D by lia);lia
  ·intro h;have:A*D<0:=bc h ⋯;rw[<-c]at this;obtain a|a:=br N 0
   ·exact a
   ·have:=ZJ a (show 0<=B by lia);lia
 rw[e]at l;constructor
 ·intro h;have:=l.2 (s.2 ⋯);grind
 ·intro h;have:=s.1 (l.1 (by grind))
  lia
abbrev lE(P w K mg base):=(~~~Fn) 1 "compared" oH (aI K NF)
abbrev r8:fq:=top 7
theorem qF:aF ["one","other","first","second"] oH (aC r8):=dJ
theorem Js(F:cI K "compared" "compared" r8 f fd)(TX:Txt mg):(~~~aS) cL 1 f fd oH (aI K NF):=by
 refine F.okU qF (λhr=>(aB (fS 2 qF.nd (aR bA (fQ 0) (fQ 1))) (aB (fS 3 qF.nd (aR bA (fQ 1) (fQ 0))) (aB (bP (fP kT (fv 2) (fv 3)) (aE (aG (c7 aA))) bE) (aB (bP (fP zB (fv 2) (fv 3)) (aE (aG aA)) bE) (aE (aG aA))))))) ?_;rintro as Q ⟨x,y,rfl,hx,hy,s1,s2,z⟩;have ci:=Qq hx hy;refine⟨jU (e:=7900) (pl (dW x) ⋯) (pl (b8 y) ⋯) ∅,jU (e:=7900) (pl (dW y) ⋯) (pl (b8 x) ⋯) ∅,?_⟩;show if decide (x.1*y.2<y.1*x.2)=true then _ else _
 by_cases c:x.1*y.2<y.1*x.2
 ·rw[oY c,oV rfl];exact⟨rfl,z (-1) ⟨λ_=>ci.1 c,λ_=>∅⟩⟩
 ·rw[oX c,oW ∅];have nc:¬val x<val y:=λh=>c (ci.2 h);show if decide (y.1*x.2<x.1*y.2)=true then _ else _
  by_cases c':y.1*x.2<x.1*y.2
  ·rw[oY c',oV rfl];exact⟨rfl,z 1 ⟨λh=>⋯,λh=>absurd h nc⟩⟩
  ·rw[oX c',oW ∅];exact⟨rfl,z 0 ⟨λh=>⋯,λh=>absurd h nc⟩⟩
def TJ:dF:=λas Q=>∃(x y p q:Fr)(e f:Nat),as=[.v (vc x y),.v (vc p q)]/\Nv x y e/\Nv p q f/\e+f<=3900/\∀r:Fr,bI r->sz r<=2*(e+f)+4->val r=kf x y (vc p q)->Q (.v (fr r)) []
abbrev tF(P w K mg base):=(~~~Fn) 5 "turn_size" oH (aI K TJ)
abbrev qB:fq:=top 40
theorem Hm:aF oH oH (aC qB):=dJ
theorem Gf(F:cI K "turn_size" "turn_size" qB f fd)(TX:Txt mg)(qx: ~~~oU)(qy: ~~~rO)(qf: ~~~l9)(oh: ~~~iB)(pf:nW mg K "ONE_turns" (.tup [.int 1,.int 1])):(~~~aS) cL 5 f fd oH (aI K TJ):=by
 refine F.okU Hm (λhr=>(aB (bP (fP Sa (fX (fK qx (f2 (fv 0) (fv 1))) aA) aA) (aE (aG (fK qf (f2 (jA rfl pf) (fK qy (f2 (fv 0) (fv 1))))))) bE) (aE (aG (fK oh (f2 (aJ (f2 aA aA)) (fK qy (f2 (fv 0) (fv 1))))))))) ?_;rintro as Q ⟨x,y,p,q,e,f,rfl,h,k,he,z⟩;have sd:=nS h k;have o:sz (1,1)=1:=∅
 have o3:sz (3,1)=2:=∅
 refine⟨x,y,p,q,e,f,rfl,h,k,he,?_⟩;show if decide (0<=(aU x y p q).1)=true then _ else _
 by_cases c:0<=(aU x y p q).1
 ·rw[oY c,oV rfl];have c':=(fO (cU h k)).2 c;rw[eC h k]at c';have ss:=lX (aM 1) (bG h k);refine⟨x,y,p,q,e,f,rfl,h,k,he,(1,1),_,rfl,aM 1,bG h k,⋯,rfl,z _ (dD (aM 1) (bG h k)) ⋯ ?_⟩;rw[dE (aM 1) (bG h k),iR,eN h k,jL];unfold fD;rw[oV c']
 ·rw[oX c,oW ∅];have c':¬0<=val x*val q-val y*val p:=λhh=>c ((fO (cU h k)).1 (by rw[eC h k];exact hh));have ss:=gZ (aM 3) (bG h k);refine⟨x,y,p,q,e,f,rfl,h,k,he,(3,1),_,rfl,aM 3,bG h k,⋯,rfl,z _ (cH (aM 3) (bG h k)) ⋯ ?_⟩;rw[cN (aM 3) (bG h k),d6,eN h k,jL];unfold fD;rw[oW c'];rfl
def CD:dF:=λas Q=>∃x y:Fr,as=[.v (vc x y)]/\Q (.v (vc (aQ x) y)) []
abbrev xQ(P w K mg base):=(~~~Fn) 1 "flipped" ["vector"] (aI K CD)
abbrev u7:fq:=top 18
theorem sL:aF ["vector","x","y"] ["vector"] (aC u7):=dJ
theorem Nt(F:cI K "flipped" "flipped" u7 f fd)(TX:Txt mg):(~~~aS) cL 1 f fd ["vector"] (aI K CD):=by
 refine F.okU sL (λhr=>(aB (gG (fv 0) (dA (n:=2) rfl rfl (aK (fG 1 sL.nd) (aK (fG 2 sL.nd) cA)))) (aE (aG (aJ (f2 (aJ (f2 (c7 (fQ 1)) (fQ 1))) (fv 2))))))) ?_;rintro as Q ⟨x,y,rfl,q⟩;exact⟨rfl,q⟩
def mU(k:L2.T->Rat)(u:L2.T)(M:List L2.T->List L2.T):List L2.T->List L2.T
 |[]=>u::M []
 |r::R=>if k r<k u then r::mU k u M R else u::M (if L2.dG r u=true then R else r::R)
def uP(k:L2.T->Rat):List L2.T->List L2.T->List L2.T
 |[],_=>[]
 |u::A,B=>mU k u (uP k A) B
def Ut(e:Nat)(t:L2.T):Prop:=∃a b,t=vc a b/\Nv a b e
structure Mg(x y:Fr)(A B:List L2.T)(o:L2.T):Prop where
 k1:∀i u,A[i]?=oZ u->i+1<A.length->kf x y u<kf x y o
 k2:∀i u,A[i]?=oZ u->i+1=A.length->u=o
 k3:∀i u,B[i]?=oZ u->i+1=B.length->u=o
 lb:0<B.length
theorem P1{B:List L2.T}(h:n<B.length):∃r R,B.drop n=r::R/\B[n]?=oZ r/\R=B.drop (n+1):=⟨B[n],B.drop (n+1),WH h,UP h,rfl⟩
def Tg:dF:=λas Q=>∃(x y:Fr)(A B:List L2.T)(o:L2.T)(e f:Nat),as=[.v (.lst A),.v (.lst B),.v (vc x y)]/\Nv x y e/\(∀t∈A,Ut f t)/\(∀t∈B,Ut f t)/\e+f<=3900/\A.length+B.length<=900/\Mg x y A B o/\bM (uP (kf x y) A B)=true/\Q (.l (uP (kf x y) A B)) []
abbrev Bk(P w K mg base):=(~~~Fn) 6 "merged" ["ahead","back","one"] (aI K Tg)
abbrev zR:fq:=top 41
theorem i5:aF ["ahead","back","one","units","at","unit","size"] ["ahead","back","one"] (aC zR):=dJ
theorem Vr(F:cI K "merged" "merged" zR f fd)(TX:Txt mg)(uf: ~~~tF)(qk: ~~~lE):(~~~aS) cL 6 f fd ["ahead","back","one"] (aI K Tg):=by
 refine F.okU i5 (λhr=>(aB (fS 3 i5.nd (bX bF)) (aB (fS 4 i5.nd aA) (aB (jS PassesOwn.never rfl (gT rfl (fv 0)) (fG 5 i5.nd) (aB (fS 6 i5.nd (fK uf (f2 (fv 2) (fv 5)))) (aB (pG PassesOwn.never (fP kT (fK qk (f2 (fK uf (f2 (fv 2) (fX (fv 1) (fv 4)))) (fv 6))) aA) (aB (dY (eB rfl (fv 3) (f1 (fX (fv 1) (fv 4))))) (aE (Yj (i:=4) i5.nd rfl (WA rfl) aA Yy)))) (aB (bP (eJ rfl hr (fX (fv 1) (fv 4)) (fv 5) (aZ _)) (aE (Yj (i:=4) i5.nd rfl (WA rfl) aA Yy)) bE) (aE (dY (eB rfl (fv 3) (f1 (fv 5))))))))) (aE (aG (fv 3))))))) ?_;rintro as Q ⟨x,y,A,B,o,e,f,rfl,h,ha,hb,he,hl,mg,nl,z⟩;refine cK (λi E=>∃(acc:List L2.T)(n:Nat)(v5 v6:Option U),E=[⇑(.lst A),⇑(.lst B),⇑(vc x y),↥acc,↑(n:Int),v5,v6]/\acc++uP (kf x y) (A.drop i) (B.drop n)=uP (kf x y) A B/\acc.length<=i+n/\n<=B.length/\(i<A.length->n<B.length)) ⟨[],0,none,none,rfl,rfl,VA _,UU _,λ_=>mg.lb⟩ ?_ ?_
 ·rintro i t rest E hi ⟨acc,n,v5,v6,rfl,hm,yo,hn,hin⟩ KK;have xt:A[i]?=oZ t:=hi;obtain⟨a,b,rfl,na⟩:=ha t (UR xt);have aC1:i<A.length:=(UO.mp xt).1;have hA:A.drop i=vc a b::A.drop (i+1):=by
   rw[WH aC1];rw[UP aC1]at xt;rw[Option.some.inj xt]
  rw[hA]at hm;refine⟨x,y,a,b,e,f,rfl,h,na,he,λsz1 n1 z1 w1=>?_⟩;have ku:kf x y (vc a b)<=kf x y o:=by
   obtain c|c:=WG (i+1) A.length
   ·exact Rat.le_of_lt (mg.k1 i _ xt c)
   ·rw[mg.k2 i _ xt ⋯];exact Rat.le_refl
  refine⟨λm E=>∃(acc:List L2.T)(n:Nat),E=[⇑(.lst A),⇑(.lst B),⇑(vc x y),↥acc,↑(n:Int),⇑(vc a b),⇑(fr sz1)]/\m=B.length-n/\n<B.length/\acc.length<=i+n/\acc++mU (kf x y) (vc a b) (uP (kf x y) (A.drop (i+1))) (B.drop n)=uP (kf x y) A B,⟨_,acc,n,rfl,rfl,hin aC1,yo,hm⟩,?_⟩;clear hm yo hn hin;rintro m E ⟨acc,n,rfl,rfl,hn,yo,hm⟩;obtain⟨r,R,hd,hr,hR⟩:=P1 hn;obtain⟨c,d,rfl,nc⟩:=hb r (UR hr);have hat:dX B (n:Int)=oZ (vc c d):=gR hr;rw[hd]at hm;show o1 (dX B (n:Int)) _;rw[hat];refine⟨x,y,c,d,e,f,rfl,h,nc,he,λs2 n2 z2 w2=>?_⟩;refine⟨s2,sz1,rfl,n2,n1,⋯,⋯,λr hr'=>?_⟩;show if decide (r<0)=true then _ else _
  by_cases lt:r<0
  ·rw[oY lt,oV rfl];have kl:kf x y (vc c d)<kf x y (vc a b):=by rw[<-w2,<-w1];exact hr'.1 lt
   show o1 (dX B (n:Int)) _;rw[hat];refine⟨?_,B.length-(n+1),⋯,acc++[vc c d],n+1,rfl,rfl,?_,?_,?_⟩
   ·show(acc++[vc c d]).length<=9000;rw[UT,VL];lia
   ·obtain c1|c1:=WG (n+1) B.length
    ·exact c1
    ·have:=mg.k3 n _ hr ⋯;rw[this]at kl;grind
   ·rw[UT,VL];lia
   ·rw[<-hm];show _=acc++(if kf x y (vc c d)<kf x y (vc a b)then _ else _);rw[oV kl,hR];simp
  ·rw[oX lt,oW ∅];have kl:¬kf x y (vc c d)<kf x y (vc a b):=by rw[<-w2,<-w1];exactλh=>lt (hr'.2 h)
   have hm':acc++(if kf x y (vc c d)<kf x y (vc a b)then(vc c d)::mU (kf x y) (vc a b) (uP (kf x y) (A.drop (i+1))) R else(vc a b)::uP (kf x y) (A.drop (i+1)) (if L2.dG (vc c d) (vc a b)=true then R else vc c d::R))=uP (kf x y) A B:=hm;rw[oW kl]at hm';show o1 (dX B (n:Int)) _;rw[hat];refine⟨dB rfl,?_⟩;show if L2.dG (vc c d) (vc a b)=true then _ else _
   by_cases eq:L2.dG (vc c d) (vc a b)=true
   ·rw[oV eq]at hm'⊢;refine⟨?_,KK _ ⟨acc++[vc a b],n+1,_,_,rfl,?_,?_,?_,?_⟩⟩
    ·show(acc++[vc a b]).length<=9000;rw[UT,VL];lia
    ·rw[<-hm',hR];simp
    ·rw[UT,VL];lia
    ·lia
    ·intro hi2;obtain c1|c1:=WG (n+1) B.length
     ·exact c1
     ·have t1:=mg.k3 n _ hr ⋯;have t2:=mg.k1 i _ xt hi2;rw[Ca]at eq;have:=of_decide_eq_true eq;rw[this.1,this.2]at t1;rw[t1]at t2;grind
   ·rw[oW eq]at hm'⊢;refine⟨?_,KK _ ⟨acc++[vc a b],n,_,_,rfl,?_,?_,?_,?_⟩⟩
    ·show(acc++[vc a b]).length<=9000;rw[UT,VL];lia
    ·rw[<-hm',hd];simp
    ·rw[UT,VL];lia
    ·lia
    ·intro _;exact hn
 ·rintro E ⟨acc,n,v5,v6,rfl,hm,yo,hn,hin⟩;have e1:acc=uP (kf x y) A B:=by
   rw[XQ]at hm;rw[<-hm];simp[uP]
  subst e1;exact⟨nl,z⟩
def Ri(t:L2.T):L2.T:=vc (aQ (cx t).1) (cx t).2
theorem pF(a b:Fr):Ri (vc a b)=vc (aQ a) b:=rfl
theorem Ce(a:Fr):aQ (aQ a)=a:=by unfold aQ;simp
theorem bW.flip(h:bW x y e):bW (aQ x) y e:=⟨⟨d5 h.nv.x,h.nv.y,by rw[qJ];exact h.nv.sx,h.nv.sy⟩,by rw[bV h.nv.x,<-h.one];grind⟩
theorem Nv.flip{x y:Fr}{e:Nat}(h:Nv x y e):Nv (aQ x) y e:=⟨d5 h.x,h.y,by rw[qJ];exact h.sx,h.sy⟩
theorem Mc:∀{a:L2.T}{l:List L2.T}{t:L2.T},chn a l->t∈l->Ut 2500 t
 |_,[],_,_,h=>by cases h
 |a,b::l,t,h,m=>by
  obtain rfl|m:=UZ.mp m
  ·obtain⟨_,_,c,d,_,e,_,n,_⟩:=h.1;exact⟨c,d,e,n⟩
  ·exact Mc h.2 m
theorem Zl{k:L2.T->Rat}:∀{B:List L2.T},(∀B',(∀z∈B',z∈B)->t∈M B'->t∈M B' )->t∈mU k u M B->t∈B\/t=u\/∃B',(∀z∈B',z∈B)/\t∈M B'
 |[],_,h=>by
  obtain h|h:=UZ.mp h
  ·exact .inr (.inl h)
  ·exact .inr (.inr ⟨[],λ_ h=>h,h⟩)
 |r::R,hh,h=>by
  unfold mU at h;split at h
  ·obtain h|h:=UZ.mp h
   ·exact .inl (by rw[h];exact VB ..)
   ·rcases Zl (B:=R) (λB' z w=>w) h with h|h|⟨B',h1,h2⟩
    ·exact .inl (UW _ h)
    ·exact .inr (.inl h)
    ·exact .inr (.inr ⟨B',λz hz=>UW _ (h1 z hz),h2⟩)
  ·obtain h|h:=UZ.mp h
   ·exact .inr (.inl h)
   ·refine .inr (.inr ⟨_,λz hz=>?_,h⟩);split at hz
    ·exact UW _ hz
    ·exact hz
theorem xC{k:L2.T->Rat}:∀{A B:List L2.T},t∈uP k A B->t∈A\/t∈B
 |[],B,h=>by cases h
 |u::A,B,h=>by
  rcases Zl (M:=uP k A) (λB' _ w=>w) h with h|h|⟨B',h1,h2⟩
  ·exact .inr h
  ·exact .inl (by rw[h];exact VB ..)
  ·obtain h|h:=xC h2
   ·exact .inl (UW _ h)
   ·exact .inr (h1 t h)
theorem Fl:∀{l:List L2.T},Lr l->bM l=true
 |[],_=>rfl
 |t::l,h=>by
  obtain⟨a,b,rfl⟩:=h t (VB ..);have:=Fl (l:=l) λt ht=>h t (UW _ ht);show(noL (vc a b)&&bM l)=true;rw[this];rfl
theorem Ub(h:Lr l):Lr (vc a b::l):=λt ht=>by
 obtain rfl|h':=UZ.mp ht
 ·exact⟨_,_,rfl⟩
 ·exact h t h'
def Ih(x y p q:Fr)(s:Int)(m:Nat):List L2.T:=((vc (aQ p) q::qb (aQ x) y s m (aQ p) q).reverse).map Ri
def qW(x y p q:Fr)(s:Int)(m m':Nat):List L2.T:=uP (kf x y) (vc x y::qb p q s m x y) (Ih x y p q s m')
theorem JM{s:Int}(h:bW x y e)(k:bW p q f)(he:e+f<=140)(he1:e<=100)(hf:f<=100)(hs:s=1\/s=2\/s=3)(r:wG (aQ x) y m (aQ p) q):∀t∈Ih x y p q s m,Ut 2500 t:=by
 intro t ht;obtain⟨z,hz,rfl⟩:=XF.mp ht;have hz:=ZO.mp hz;have ch:=(yH (s:=s) h.flip hf (show f+e<=140 by lia) hs m (aQ p) q k.flip r).1;have uz:Ut 2500 z:=by
  obtain rfl|hz:=UZ.mp hz
  ·exact⟨_,_,rfl,k.flip.nv.up ⋯⟩
  ·exact Mc ch hz
 obtain⟨a,b,rfl,n⟩:=uz;exact⟨aQ a,b,rfl,n.flip⟩
theorem Du(h:∀t∈l,Ut e t):Lr l:=λt ht=>by obtain⟨a,b,e,_⟩:=h t ht;exact⟨a,b,e⟩
theorem LN{s:Int}(h:bW x y e)(k:bW p q f)(he:e+f<=140)(he1:e<=100)(hs:s=1\/s=2\/s=3)(hm:m<=3)(r:wG p q m x y):Mg x y (vc x y::qb p q s m x y) (Ih x y p q s m') (vc p q):=by
 have at0:At 0 (val x*val x+val y*val y) (val x*val y-val y*val x):=.inl ⟨rfl,h.one,by grind⟩;have st:=Pz (s:=s) h k he1 he hs m 0 x y h ⋯ at0 r;have ls:=(yH k he1 he hs m x y h r).2;refine⟨λi u hi hl=>?_,λi u hi hl=>?_,λi u hi hl=>?_,?_⟩
 ·rw[<-ls];exact uA st hi (by simpa using hl)
 ·obtain⟨L,hL⟩:=Fg (vc x y) (qb p q s m x y);rw[hL]at hi hl;rw[UT,VL]at hl;have:i=L.length:=⋯
  subst this;simp at hi;rw[<-hi,ls]
 ·unfold Ih at hi hl;rw[YE,VE]at hi hl;rw[UT]at hl;simp at hl;have:i=((qb (aQ x) y s m' (aQ p) q).reverse.map Ri).length:=by simp;lia
  subst this;rw[VU (VA _)]at hi;simp at hi;rw[<-hi,pF,Ce]
 ·simp[Ih]
theorem Zi{s:Int}(x y p q:Fr)(hs:s=1\/s=2\/s=3)(m:Nat):(Ih x y p q s m).length<=3*m+4:=by
 have:=Ff (aQ x) y hs m (aQ p) q;simp[Ih]
 lia
def TK:dF:=λas Q=>∃(x y p q:Fr)(s:Int)(e f:Nat),as=[.v (vc x y),.v (vc p q),.v (.int s)]/\bW x y e/\bW p q f/\e+f<=140/\e<=100/\f<=100/\(s=1\/s=2\/s=3)/\∀m m',m<=3->m'<=3->wG p q m x y->wG (aQ x) y m' (aQ p) q->Q (.l (qW x y p q s m m')) []
abbrev cC(P w K mg base):=(~~~Fn) 7 "units_between" ["one","other","steps"] (aI K TK)
abbrev jZ:fq:=top 42
theorem i7:aF ["one","other","steps","ahead","back"] ["one","other","steps"] (aC jZ):=dJ
theorem uS(F:cI K "units_between" "units_between" jZ f fd)(TX:Txt mg)(qm: ~~~j8)(uk: ~~~xQ)(yb: ~~~Bk):(~~~aS) cL 7 f fd ["one","other","steps"] (aI K TK):=by
 refine F.okU i7 (λhr=>(aB (fS 3 i7.nd (fK qm (f3 (fv 0) (fv 1) (fv 2)))) (aB (fS 4 i7.nd (fK qm (f3 (fK uk (f1 (fv 1))) (fK uk (f1 (fv 0))) (fv 2)))) (aE (aG (fK yb (f3 (fv 3) (fT (N':=["unit"]) (t:=1) (cap:=[]) rfl (bD.of rfl) rfl ∅ (gT rfl (Q1 rfl (fv 4) (dQ (c7 aA)))) (λ_ _ _ _=>(fH 0)) (λ_ _ _ _=>(fK uk (f1 (fv 0))))) (fv 0)))))))) ?_;rintro as Q ⟨x,y,p,q,s,e,f,rfl,hu,hv,he,he1,hf1,hs,z⟩;obtain⟨m,hm,hr⟩:=Gu hu hv;obtain⟨m',hm',hr'⟩:=Gu hv.flip hu.flip;have z:=z m m' hm hm' hr hr';refine⟨x,y,p,q,s,e,f,m,rfl,hu,hv,he,hs,hm,hr,?_⟩;refine⟨p,q,rfl,x,y,rfl,?_⟩;refine⟨aQ p,q,aQ x,y,s,f,e,m',rfl,hv.flip,hu.flip,⋯,hs,hm',hr',?_⟩;have au:∀t∈(vc (aQ p) q::qb (aQ x) y s m' (aQ p) q).reverse,∃a b,t=vc a b:=λt ht=>Ub (Qk _ _ _ _ _ _) t (ZO.mp ht);have bl:Ih x y p q s m'=((vc (aQ p) q::qb (aQ x) y s m' (aQ p) q).reverse).map Ri:=rfl;have lb:=Zi x y p q hs m';have la:=Ff p q hs m x y;have ub:=JM (s:=s) hu hv he he1 hf1 hs hr';have ua:∀t∈vc x y::qb p q s m x y,Ut 2500 t:=λt ht=>by
  obtain rfl|ht:=UZ.mp ht
  ·exact⟨_,_,rfl,hu.nv.up ⋯⟩
  ·exact Mc (yH hv he1 he hs m x y hu hr).1 ht
 have av:Lr (qW x y p q s m m'):=λt ht=>by
  obtain h|h:=xC ht
  ·exact Du ua t h
  ·exact Du ub t h
 refine⟨rfl,rfl,?_⟩;show j9 _ _ ((vc (aQ p) q::qb (aQ x) y s m' (aQ p) q).reverse) _ _;generalize hR:(vc (aQ p) q::qb (aQ x) y s m' (aQ p) q).reverse=RL at au bl⊢;have ll:RL.length<=13:=by rw[bl,UX]at lb;lia
 refine b9 (λi E=>∃v0,E=[v0,↥((RL.take i).map Ri)]) ⟨none,rfl⟩ ?_ ?_
 ·rintro i t rest E hi ⟨v0,rfl⟩ KK;obtain⟨a,b,rfl⟩:=au t (UR hi);have il:=(UO.mp hi).1;refine⟨a,b,rfl,?_,KK _ ⟨⇑(vc a b),?_⟩⟩
  ·show((RL.take i).map Ri).length<9000;rw[UX,WE];lia
  ·have e1:RL.take (i+1)=RL.take i++[vc a b]:=by rw[XT,hi];rfl
   rw[e1,VE];rfl
 ·rintro E ⟨v0,rfl⟩;rw[YJ,<-bl];refine⟨Fl (Du ub),?_⟩;refine⟨x,y,_,_,vc p q,e,2500,rfl,hu.nv,ua,ub,⋯,?_,LN hu hv he he1 hs hm hr,Fl av,?_⟩
  ·rw[VQ];lia
  ·exact⟨Fl av,z⟩
theorem bN{d c:Rat}(o:d*d+c*c=1):-1<=d/\d<=1:=by
 have hc:0<=c*c:=by
  rcases Rat.le_total (a:=0) (b:=c)with h|h
  ·exact Rat.mul_nonneg h h
  ·have:=Rat.mul_nonneg (a:=-c) (b:=-c) (by grind) (by grind);grind
 constructor
 ·rcases Rat.le_total (a:=-1) (b:=d)with h|h
  ·exact h
  ·by_cases e:d = -1
   ·grind
   ·have:=Rat.mul_pos (a:=-1-d) (b:=1-d) (by grind) (by grind);grind
 ·rcases Rat.le_total (a:=d) (b:=1)with h|h
  ·exact h
  ·by_cases e:d=1
   ·grind
   ·have:=Rat.mul_pos (a:=d-1) (b:=1+d) (by grind) (by grind);grind
theorem lK{d c:Rat}(o:d*d+c*c=1)(hc:c≠0):-1<d/\d<1:=by
 obtain⟨h1,h2⟩:=bN o;have n1:d≠1:=λe=>by
  rw[e]at o;have:c*c=0:=by grind
  rcases Rat.mul_eq_zero.mp this with a|a<;>exact hc a
 have n2:d≠-1:=λe=>by
  rw[e]at o;have:c*c=0:=by grind
  rcases Rat.mul_eq_zero.mp this with a|a<;>exact hc a
 constructor<;>grind
theorem Di{d:Rat}(o:d*d+0*0=1):d=1\/d = -1:=by
 have:(d-1)*(d+1)=0:=by grind
 obtain a|a:=Rat.mul_eq_zero.mp this
 ·left;grind
 ·right;grind
theorem AG{d1 c1 d2 c2:Rat}(o1:d1*d1+c1*c1=1)(o2:d2*d2+c2*c2=1):(d1*c2-c1*d2)*(c1+c2)=(d1-d2)*(1+d1*d2+c1*c2):=by grind
theorem Yq{d1 c1 d2 c2:Rat}(o1:d1*d1+c1*c1=1)(o2:d2*d2+c2*c2=1)(h:0<c1*c2):0<1+d1*d2+c1*c2:=by
 obtain⟨a1,a2⟩:=bN o1;obtain⟨b1,b2⟩:=bN o2;have p1:=Rat.mul_nonneg (a:=1-d1) (b:=1-d2) (by grind) (by grind);have p2:=Rat.mul_nonneg (a:=1+d1) (b:=1+d2) (by grind) (by grind);grind
theorem IL{d1 c1 d2 c2:Rat}(o1:d1*d1+c1*c1=1)(o2:d2*d2+c2*c2=1)(h1:0<c1)(h2:0<c2):0<d1*c2-c1*d2↔d2<d1:=by
 have hp:=Yq o1 o2 (Rat.mul_pos h1 h2);have id:=AG o1 o2;have hs:0<c1+c2:=by grind
 constructor
 ·intro h;have:0<(d1-d2)*(1+d1*d2+c1*c2):=by rw[<-id];exact Rat.mul_pos h hs
  have:=bZ hp this;grind
 ·intro h;exact bZ hs (by rw[id];exact Rat.mul_pos (by grind) hp)
theorem DQ{ca wa cv wv cu wu:Rat}(ha:ca*ca=wa*(2-wa))(hv:cv*cv=wv*(2-wv))(hu:cu*cu=wu*(2-wu)):
  ((ca*wv-cv*wa)+(cv*wu-cu*wv)-(ca*wu-cu*wa))*(2*(wa*wv*wu))=(ca*wv-cv*wa)*(cv*wu-cu*wv)*(ca*wu-cu*wa):=by grind
theorem Bw{ca wa cv wv cu wu:Rat}(ha:ca*ca=wa*(2-wa))(hv:cv*cv=wv*(2-wv))(hu:cu*cu=wu*(2-wu))(pa:0<wa)(pv:0<wv)(pu:0<wu)(h1:0<ca*wv-cv*wa)(h2:0<cv*wu-cu*wv):0<ca*wu-cu*wa/\0<(ca*wv-cv*wa)+(cv*wu-cu*wv)-(ca*wu-cu*wa):=by
 have h3:0<ca*wu-cu*wa:=bZ pv (by
  have:(ca*wu-cu*wa)*wv=wu*(ca*wv-cv*wa)+wa*(cv*wu-cu*wv):=by grind
  rw[this];have:=Rat.mul_pos pu h1;have:=Rat.mul_pos pa h2;grind)
 refine⟨h3,?_⟩;have pw:0<2*(wa*wv*wu):=Rat.mul_pos (by grind) (Rat.mul_pos (Rat.mul_pos pa pv) pu);exact bZ pw (by rw[DQ ha hv hu];exact Rat.mul_pos (Rat.mul_pos h1 h2) h3)
theorem O2{d1 c1 d2 c2:Rat}(o1:d1*d1+c1*c1=1)(o2:d2*d2+c2*c2=1):(c1*(1-d2)-c2*(1-d1))*(c1*(1-d2)+c2*(1-d1))=2*((1-d1)*(1-d2))*(d1-d2):=by grind
theorem mH{d1 c1 d2 c2:Rat}(o1:d1*d1+c1*c1=1)(o2:d2*d2+c2*c2=1)(n1:d1≠1)(n2:d2≠1):fD d1 c1<fD d2 c2↔0<c1*(1-d2)-c2*(1-d1):=by
 obtain⟨a1,a2⟩:=bN o1;obtain⟨b1,b2⟩:=bN o2;have w1:0<1-d1:=by grind
 have w2:0<1-d2:=by grind
 have ww:=Rat.mul_pos w1 w2;have id:=O2 o1 o2;unfold fD
 by_cases h1:0<=c1
 ·rw[oV h1];have p1:=Rat.mul_nonneg h1 (Rat.le_of_lt w2)
  by_cases h2:0<=c2
  ·rw[oV h2];have p2:=Rat.mul_nonneg h2 (Rat.le_of_lt w1)
   by_cases s0:0<c1*(1-d2)+c2*(1-d1)
   ·constructor
    ·intro h;exact bZ s0 (by rw[id];exact Rat.mul_pos (Rat.mul_pos (by grind) ww) (by grind))
    ·intro h;have q:0<(d1-d2)*(2*((1-d1)*(1-d2))):=by
      have:(d1-d2)*(2*((1-d1)*(1-d2)))=2*((1-d1)*(1-d2))*(d1-d2):=by grind
      rw[this,<-id];exact Rat.mul_pos h s0
     have:=bZ (Rat.mul_pos (show(0:Rat)<2 by grind) ww) q;grind
   ·have z:c1*(1-d2)+c2*(1-d1)=0:=by grind
    rw[z]at id;have:(2*((1-d1)*(1-d2)))*(d1-d2)=0:=by grind
    have e:d1-d2=0:=by
     obtain a|a:=Rat.mul_eq_zero.mp this
     ·grind
     ·exact a
    constructor<;>intro h<;>grind
  ·rw[oW h2];have p2:=Rat.mul_pos (a:=-c2) (b:=1-d1) (by grind) w1;obtain⟨e1,e2⟩:=lK o2 (by grind);constructor<;>intro h<;>grind
 ·rw[oW h1];have p1:=Rat.mul_pos (a:=-c1) (b:=1-d2) (by grind) w2;obtain⟨f1,f2⟩:=lK o1 (by grind)
  by_cases h2:0<=c2
  ·rw[oV h2];have p2:=Rat.mul_nonneg h2 (Rat.le_of_lt w1);constructor<;>intro h<;>grind
  ·rw[oW h2];have p2:=Rat.mul_pos (a:=-c2) (b:=1-d1) (by grind) w1;have s0:0 < -(c1*(1-d2)+c2*(1-d1)):=by grind
   constructor
   ·intro h;refine bZ s0 ?_;have:(c1*(1-d2)-c2*(1-d1)) * -(c1*(1-d2)+c2*(1-d1))=(2*((1-d1)*(1-d2)))*(d2-d1):=by grind
    rw[this];exact Rat.mul_pos (Rat.mul_pos (by grind) ww) (by grind)
   ·intro h;have q:0<(d2-d1)*(2*((1-d1)*(1-d2))):=by
     have:(d2-d1)*(2*((1-d1)*(1-d2)))=(c1*(1-d2)-c2*(1-d1)) * -(c1*(1-d2)+c2*(1-d1)):=by grind
     rw[this];exact Rat.mul_pos h s0
    have:=bZ (Rat.mul_pos (show(0:Rat)<2 by grind) ww) q;grind
def SS(k:L2.T->Rat)(l:List L2.T):Prop:=l.Pairwise λa b=>k a<k b
theorem I0{k:L2.T->Rat}:∀{a:L2.T}{l:List L2.T},srt k a l->SS k (a::l)
 |a,[],_=>List.pairwise_singleton _ _
 |a,b::l,h=>by
  have ih:=I0 h.2;have q:=WV.mp ih;refine WV.mpr ⟨λt ht=>?_,ih⟩;have h1:=h.1;obtain rfl|ht:=UZ.mp ht
  ·exact h1
  ·have:=q.1 t ht;grind
theorem Rw{k:L2.T->Rat}:∀{B:List L2.T},SS k B->(∀r∈B,k r=k u->L2.dG r u=true)->(∀r∈B,L2.dG r u=true->r=u)->
  (∀R,SS k R->(∀r∈R,r∈B/\k u<k r)->SS k (M R)/\∀t∈M R,k u<k t)->
  SS k (mU k u M B)/\(∀t∈mU k u M B,k t<k u->t∈B)/\(∀c,k c<k u->(∀r∈B,k c<k r)->∀t∈mU k u M B,k c<k t)
 |[],_,_,_,hM=>by
  obtain⟨h1,h2⟩:=hM [] List.Pairwise.nil (λr h=>by cases h);refine⟨WV.mpr ⟨h2,h1⟩,λt ht hk=>?_,λc hc _ t ht=>?_⟩
  ·obtain rfl|ht:=UZ.mp ht
   ·grind
   ·have:=h2 t ht;grind
  ·obtain rfl|ht:=UZ.mp ht
   ·exact hc
   ·have:=h2 t ht;grind
 |r::R,hB,inj,eqr,hM=>by
  have q:=WV.mp hB;unfold mU
  by_cases lt:k r<k u
  ·rw[oV lt];obtain⟨i1,i2,i3⟩:=Rw (B:=R) (M:=M) q.2 (λs hs=>inj s (UW _ hs)) (λs hs=>eqr s (UW _ hs)) (λR' h h'=>hM R' h λs hs=>⟨UW _ (h' s hs).1,(h' s hs).2⟩);refine⟨WV.mpr ⟨λt ht=>i3 r lt q.1 t ht,i1⟩,λt ht hk=>?_,λc hc hr t ht=>?_⟩
   ·obtain rfl|ht:=UZ.mp ht
    ·exact VB ..
    ·exact UW _ (i2 t ht hk)
   ·obtain rfl|ht:=UZ.mp ht
    ·exact hr _ (VB ..)
    ·exact i3 c hc (λs hs=>hr s (UW _ hs)) t ht
  ·rw[oW lt];have hR:∀s∈(if L2.dG r u=true then R else r::R),s∈r::R/\k u<k s:=λs hs=>by
    split at hs
    ·rename_i e;have:=q.1 s hs;have e':=eqr r (VB ..) e;exact⟨UW _ hs,by rw[<-e'];exact this⟩
    ·rename_i e;refine⟨hs,?_⟩;have ne:k r≠k u:=λz=>e (inj r (VB ..) z);obtain rfl|hs:=UZ.mp hs
     ·grind
     ·have:=q.1 s hs;grind
   have sR:SS k (if L2.dG r u=true then R else r::R):=by
    split
    ·exact q.2
    ·exact hB
   obtain⟨h1,h2⟩:=hM _ sR hR;refine⟨WV.mpr ⟨h2,h1⟩,λt ht hk=>?_,λc hc _ t ht=>?_⟩
   ·obtain rfl|ht:=UZ.mp ht
    ·grind
    ·have:=h2 t ht;grind
   ·obtain rfl|ht:=UZ.mp ht
    ·exact hc
    ·have:=h2 t ht;grind
theorem Zn{k:L2.T->Rat}:∀{A B:List L2.T},SS k A->SS k B->(∀u∈A,∀r∈B,k r=k u->L2.dG r u=true)->(∀u∈A,∀r∈B,L2.dG r u=true->r=u)->
  SS k (uP k A B)/\(∀c,(∀u∈A,k c<k u)->(∀r∈B,k c<k r)->∀t∈uP k A B,k c<k t)
 |[],B,_,_,_,_=>⟨List.Pairwise.nil,λc _ _ t ht=>by cases ht⟩
 |u::A,B,hA,hB,inj,eqr=>by
  have q:=WV.mp hA;have ih:∀R,SS k R->(∀r∈R,r∈B/\k u<k r)->SS k (uP k A R)/\∀t∈uP k A R,k u<k t:=λR hR h'=>by
   obtain⟨h1,h2⟩:=Zn (A:=A) (B:=R) q.2 hR (λv hv r hr=>inj v (UW _ hv) r (h' r hr).1) (λv hv r hr=>eqr v (UW _ hv) r (h' r hr).1);exact⟨h1,h2 u q.1 λr hr=>(h' r hr).2⟩
  obtain⟨i1,i2,i3⟩:=Rw (u:=u) (M:=uP k A) hB (inj u (VB ..)) (eqr u (VB ..)) ih;exact⟨i1,λc hc hr=>i3 c (hc u (VB ..)) hr⟩
def N6(k:L2.T->Rat)(u:L2.T):List L2.T->List L2.T
 |[]=>[]
 |r::R=>if k r<k u then N6 k u R else(if L2.dG r u=true then R else r::R)
def JB(k:L2.T->Rat)(u:L2.T):List L2.T->List L2.T
 |[]=>[]
 |r::R=>if k r<k u then r::JB k u R else[]
theorem BG{k:L2.T->Rat}:∀B:List L2.T,mU k u M B=JB k u B++u::M (N6 k u B)
 |[]=>rfl
 |r::R=>by
  unfold mU JB N6
  split
  ·rw[BG R];rfl
  ·rfl
theorem F0{k:L2.T->Rat}:∀{B:List L2.T}{r:L2.T},r∈B->r∈JB k u B\/L2.dG r u=true\/r∈N6 k u B
 |s::R,r,h=>by
  unfold JB N6
  by_cases lt:k s<k u
  ·rw[oV lt,oV lt];obtain rfl|h:=UZ.mp h
   ·exact .inl (VB ..)
   ·obtain h|h|h:=F0 h
    ·exact .inl (UW _ h)
    ·exact .inr (.inl h)
    ·exact .inr (.inr h)
  ·rw[oW lt,oW lt]
   by_cases e:L2.dG s u=true
   ·rw[oV e];obtain rfl|h:=UZ.mp h
    ·exact .inr (.inl e)
    ·exact .inr (.inr h)
   ·rw[oW e];exact .inr (.inr h)
theorem E9{k:L2.T->Rat}:∀{B:List L2.T},SS k B->(∀r∈B,k r=k u->L2.dG r u=true)->(∀r∈B,L2.dG r u=true->r=u)->SS k (N6 k u B)/\∀r∈N6 k u B,r∈B/\k u<k r
 |[],_,_,_=>⟨List.Pairwise.nil,λr h=>by cases h⟩
 |s::R,hB,inj,eqr=>by
  have q:=WV.mp hB;unfold N6
  by_cases lt:k s<k u
  ·rw[oV lt];obtain⟨h1,h2⟩:=E9 (B:=R) q.2 (λr hr=>inj r (UW _ hr)) (λr hr=>eqr r (UW _ hr));exact⟨h1,λr hr=>⟨UW _ (h2 r hr).1,(h2 r hr).2⟩⟩
  ·rw[oW lt]
   by_cases e:L2.dG s u=true
   ·rw[oV e];have e':=eqr s (VB ..) e;exact⟨q.2,λr hr=>⟨UW _ hr,by rw[<-e'];exact q.1 r hr⟩⟩
   ·rw[oW e];have ne:k s≠k u:=λz=>e (inj s (VB ..) z);refine⟨hB,λr hr=>⟨hr,?_⟩⟩;obtain rfl|hr:=UZ.mp hr
    ·grind
    ·have:=q.1 r hr;grind
theorem Rx{k:L2.T->Rat}:∀{A B:List L2.T},SS k B->(∀u∈A,∀r∈B,k r=k u->L2.dG r u=true)->(∀u∈A,∀r∈B,L2.dG r u=true->r=u)->(∀r∈B,∃u∈A,k r<=k u)->
  (∀u∈A,u∈uP k A B)/\∀r∈B,r∈uP k A B
 |[],B,_,_,_,h=>⟨λu hu=>(by cases hu),λr hr=>(by obtain⟨u,hu,_⟩:=h r hr;cases hu)⟩
 |u::A,B,hB,inj,eqr,h=>by
  have e:uP k (u::A) B=JB k u B++u::uP k A (N6 k u B):=BG B;obtain⟨g1,g2⟩:=E9 hB (inj u (VB ..)) (eqr u (VB ..));obtain⟨i1,i2⟩:=Rx (A:=A) (B:=N6 k u B) g1 (λv hv r hr=>inj v (UW _ hv) r (g2 r hr).1) (λv hv r hr=>eqr v (UW _ hv) r (g2 r hr).1) (λr hr=>by
   obtain⟨v,hv,le⟩:=h r (g2 r hr).1;obtain rfl|hv:=UZ.mp hv
   ·have:=(g2 r hr).2;grind
   ·exact⟨v,hv,le⟩)
  rw[e];refine⟨λv hv=>?_,λr hr=>?_⟩
  ·obtain rfl|hv:=UZ.mp hv
   ·simp
   ·exact VV _ (UW _ (i1 v hv))
  ·rcases F0 (k:=k) (u:=u) hr with h1|h1|h1
   ·exact ZS _ h1
   ·have:=eqr u (VB ..) r hr h1;rw[this];simp
   ·exact VV _ (UW _ (i2 r h1))
theorem Qt(hx:bI x)(hy:bI y)(h:val x*val x+val y*val y=1):y.2.natAbs∣x.2.natAbs:=by
 have h1:=hx.neR;have h2:=hy.neR;have e:(y.1*y.1)*(x.2*x.2)=(y.2*y.2)*(x.2*x.2-x.1*x.1):=by
  unfold val at h;have h':(y.1:Rat)*y.1*(x.2*x.2)=y.2*y.2*(x.2*x.2-x.1*x.1):=by grind
  exact_mod_cast h'
 have d1:y.2.natAbs^2∣y.1.natAbs^2*x.2.natAbs^2:=by
  have:(y.1*y.1*(x.2*x.2)).natAbs=y.1.natAbs^2*x.2.natAbs^2:=by rw[WK,WK,WK,ah,ah]
  rw[<-this,e,WK,WK,<-ah];exact Nat.dvd_mul_right _ _
 have cp:YW (y.2.natAbs^2) (y.1.natAbs^2):=Nat.Coprime.pow 2 2 (by unfold YW;rw[ZD];exact hy.g);exact(Nat.pow_dvd_pow_iff ∅).mp (cp.dvd_of_dvd_mul_left d1)
theorem DR(hx:bI x)(hy:bI y)(h:val x*val x+val y*val y=1):x.2=y.2:=by
 have a:=Qt hx hy h;have b:=Qt hy hx (by rw[<-h];grind);have c:=Nat.dvd_antisymm a b;have:=hx.d;have:=hy.d
 lia
theorem J1{n d:Int}(hp:bI p)(hd:d≠0)(h:val p=(n:Rat)/(d:Rat))(h1:n.natAbs<2^e)(h2:d.natAbs<2^e)(he:1<=e):sz p<=e:=by
 have:p=jT n d:=bQ hp (iG hd) (by rw[gV hd];exact h);rw[this];exact nT hd h1 h2 he
theorem RZ(h:bW x y e)(k:bW p q f)(hr:bI r)(n:Int)(hn:n.natAbs<2^(e+f+1))(hv:val r=(n:Rat)/((x.2*p.2:Int):Rat)):sz r<=e+f+1:=
 J1 hr (fF h.nv.x k.nv.x) hv hn (pl (bL (pl (b8 x) h.nv.sx) (pl (b8 p) k.nv.sx)) ⋯) ⋯
theorem JL{a b c d:Int}(h1:a.natAbs<2^e)(h2:b.natAbs<2^f)(h3:c.natAbs<2^e)(h4:d.natAbs<2^f):(a*b+c*d).natAbs<2^(e+f+1)/\(a*b-c*d).natAbs<2^(e+f+1):=⟨qP (bL h1 h2) (bL h3 h4),Hs (bL h1 h2) (bL h3 h4)⟩
theorem bW.n1(h:bW x y e):x.1.natAbs<2^e:=pl (dW x) h.nv.sx
theorem bW.n2(h:bW x y e):y.1.natAbs<2^e:=pl (dW y) h.nv.sy
theorem bW.eqd(h:bW x y e):x.2=y.2:=DR h.nv.x h.nv.y h.one
theorem xI(h:bW x y e)(k:bW p q f):sz (cS x y p q)<=e+f+1:=by
 refine RZ h k (bG h.nv k.nv) (x.1*p.1+y.1*q.1) (JL h.n1 k.n1 h.n2 k.n2).1 ?_;rw[eN h.nv k.nv];have d1:=h.eqd;have d2:=k.eqd;have z1:=h.nv.x.neR;have z2:=k.nv.x.neR;unfold val;rw[<-d1,<-d2]
 push_cast
 grind
theorem bW.trU(h:bW x y e)(k:bW p q f):bW (L5 x y p q) (L4 x y p q) (e+f+1):=by
 have t:=h.tr k;have d1:=h.eqd;have d2:=k.eqd;have z1:=h.nv.x.neR;have z2:=k.nv.x.neR;refine⟨⟨t.nv.x,t.nv.y,RZ h k t.nv.x (x.1*p.1-y.1*q.1) (JL h.n1 k.n1 h.n2 k.n2).2 ?_,RZ h k t.nv.y (x.1*q.1+y.1*p.1) (JL h.n1 k.n2 h.n2 k.n1).1 ?_⟩,t.one⟩
 ·rw[iO h.nv k.nv];unfold val;rw[<-d1,<-d2]
  push_cast
  grind
 ·rw[iN h.nv k.nv];unfold val;rw[<-d1,<-d2]
  push_cast
  grind
theorem Z8(h:bW x y e)(k:bW p q f)(n:(bH (1,1) (cS x y p q)).1≠0):bI (oQ x y p q)/\sz (oQ x y p q)<=e+f+2:=by
 have nn:=(Af h.nv k.nv n).1;refine⟨nn,?_⟩;have d1:=h.eqd;have d2:=k.eqd;have z1:=h.nv.x.neR;have z2:=k.nv.x.neR;have na:=cH (aM 1) (bG h.nv k.nv);have va:=cN (aM 1) (bG h.nv k.nv);rw[iR,eN h.nv k.nv]at va;have nz:val (bH (1,1) (cS x y p q))≠0:=λz=>by
  have:=(Ak na).1 (by grind);have:=(fO na).1 (by grind)
  lia
 have vt:val (oQ x y p q)=(val x*val q-val y*val p)/(1+(val x*val p+val y*val q)):=by
  unfold oQ;rw[jR (cU h.nv k.nv) na n,eC h.nv k.nv,va]
 rw[va]at nz;have b1:=(JL h.n1 k.n2 h.n2 k.n1).2;have b2:=(JL h.n1 k.n1 h.n2 k.n2).1;have b3:(x.2*p.2).natAbs<2^(e+f):=bL (pl (b8 x) h.nv.sx) (pl (b8 p) k.nv.sx);have hd:x.2*p.2+(x.1*p.1+y.1*q.1)≠0:=λz=>by
  apply nz;have z':(x.2:Rat)*p.2+(x.1*p.1+y.1*q.1)=0:=by exact_mod_cast z
  unfold val;rw[<-d1,<-d2];grind
 refine J1 nn hd ?_ (pl b1 ⋯) (qP (pl b3 ⋯) b2) ⋯;rw[vt];have hd':((x.2*p.2+(x.1*p.1+y.1*q.1):Int):Rat)≠0:=by exact_mod_cast hd
 unfold val at nz⊢;rw[<-d1,<-d2]at nz⊢
 push_cast at hd'⊢
 grind
theorem NY(h:bI t)(hg:sz t<=g):bW (cT t) (sT t) (2*g+1):=⟨(Cs h).up ⋯,by
 rw[sN h,sO h];have:=tZ (val t);grind⟩
theorem NZ(h:bW x y e)(n:bI t)(hg:sz t<=g):bW (L5 x y (cT t) (sT t)) (L4 x y (cT t) (sT t)) (e+2*g+2):=(h.trU (NY n hg)).up ⋯
def Uv(e:Nat)(t:L2.T):Prop:=∃a b,t=vc a b/\bW a b e
theorem Uv.up(h:Uv e t)(k:e<=f):Uv f t:=let⟨a,b,h1,h2⟩:=h;⟨a,b,h1,h2.up k⟩
theorem M0{s:Int}(h:bW x y e)(n:bI t)(hg:sz t<=g)(hs:s=1\/s=2\/s=3):∀u∈wY x y t s,Uv (e+2*g+6) u:=by
 intro u hu;obtain⟨k,hk,rfl⟩:=XF.mp hu;have kb:k.natAbs<=3:=by
  unfold FP at hk;split at hk
  ·simp at hk;lia
  ·split at hk
   ·simp at hk;lia
   ·simp at hk;lia
 obtain⟨n1,n2⟩:=Kx (s:=s) kb ⋯;have:=cF n n1;exact⟨_,_,rfl,(NZ h (aO n n1) (show _<=g+2 by lia)).up ⋯⟩
theorem Tt{s:Int}(k:bW p q f)(hs:s=1\/s=2\/s=3):∀(m:Nat)(x y:Fr),bW x y e->wG p q m x y->∀u∈qb p q s m x y,Uv (3*e+2*f+10) u
 |0,x,y,h,r,u,hu=>by
  have hu:u∈iQ p q s x y:=hu;unfold iQ at hu;split at hu
  ·cases hu
  ·obtain⟨t1,t2⟩:=Z8 h k (mP h.nv k.nv r);exact(M0 h t1 t2 hs u hu).up ⋯
 |m+1,x,y,h,r,u,hu=>by
  have hu:u∈wY x y (1,1) s++qb p q s m (aQ y) x:=hu;obtain hu|hu:=VX.mp hu
  ·exact(M0 h (aM 1) (show sz (1,1)<=1 by decide) hs u hu).up ⋯
  ·exact Tt k hs m (aQ y) x h.left r.2 u hu
theorem Zj{k:L2.T->Rat}(h:∀B,a<=(M B).length/\(M B).length<=a+B.length):∀B,a+1<=(mU k u M B).length/\(mU k u M B).length<=a+1+B.length
 |[]=>by
  have:=h [];show a+1<=(M []).length+1/\(M []).length+1<=a+1+0;simp at this
  lia
 |r::R=>by
  unfold mU
  split
  ·have:=Zj (k:=k) (u:=u) h R;simp only[VQ]
   lia
  ·have h2:=h (if L2.dG r u=true then R else r::R);simp only[VQ];split at h2
   ·split
    ·lia
    ·contradiction
   ·split
    ·contradiction
    ·simp only[VQ]at h2
     lia
theorem Rr(k:L2.T->Rat):∀A B,A.length<=(uP k A B).length/\(uP k A B).length<=A.length+B.length
 |[],B=>⟨UU _,UU _⟩
 |u::A,B=>Zj (k:=k) (u:=u) (M:=uP k A) (a:=A.length) (Rr k A) B
theorem FR{s:Int}(hs:s=1\/s=2\/s=3)(hm:m<=3)(hm':m'<=3)(ne:¬(p=x/\q=y)):2<=(qW x y p q s m m').length/\(qW x y p q s m m').length<=30:=by
 have l:=Rr (kf x y) (vc x y::qb p q s m x y) (Ih x y p q s m');have l1:=Zi x y p q hs m';have l2:=Ff p q hs m x y;have l3:1<=(qb p q s m x y).length:=by
  have le:∀t:Fr,1<=(wY x y t s).length:=λt=>by rcases hs with rfl|rfl|rfl<;>simp[wY,FP]
  cases m with
  |zero=>
   show 1<=(iQ p q s x y).length;unfold iQ;rw[oW (λz=>ne ⟨z.1.symm,z.2.symm⟩)];exact le _
  |succ m=>
   show 1<=(wY x y (1,1) s++qb p q s m (aQ y) x).length;rw[UT];have:=le (1,1)
   lia
 rw[VQ]at l;unfold qW
 lia
theorem rT{d c:Rat}(o:d*d+c*c=1):0<=fD d c:=by
 obtain⟨h1,h2⟩:=bN o;unfold fD
 split<;>grind
theorem Ez{d c:Rat}(o:d*d+c*c=1)(n:d≠1):0<fD d c:=by
 obtain⟨h1,h2⟩:=bN o;unfold fD
 split
 ·grind
 ·grind
theorem m6{c:Rat}(o:1*1+c*c=1):fD 1 c=0:=by
 have:c*c=0:=by grind
 have z:c=0:=by rcases Rat.mul_eq_zero.mp this with a|a<;>exact a
 rw[z];unfold fD;rw[oV (by grind)];grind
theorem Ly{ax ay bx bY ux uy vx vy:Rat}(oa:ax*ax+ay*ay=1)(ob:bx*bx+bY*bY=1)(ou:ux*ux+uy*uy=1)(ov:vx*vx+vy*vy=1)(h:fD (bx*ux+bY*uy) (-(bx*uy-bY*ux))<fD (bx*vx+bY*vy) (-(bx*vy-bY*vx)))(hv:fD (bx*vx+bY*vy) (-(bx*vy-bY*vx))<fD (bx*ax+bY*ay) (-(bx*ay-bY*ax))):fD (ax*vx+ay*vy) (ax*vy-ay*vx)<fD (ax*ux+ay*uy) (ax*uy-ay*ux):=by
 have Ou:(bx*ux+bY*uy)*(bx*ux+bY*uy)+(-(bx*uy-bY*ux))*(-(bx*uy-bY*ux))=1:=by grind
 have Ov:(bx*vx+bY*vy)*(bx*vx+bY*vy)+(-(bx*vy-bY*vx))*(-(bx*vy-bY*vx))=1:=by grind
 have Oa:(bx*ax+bY*ay)*(bx*ax+bY*ay)+(-(bx*ay-bY*ax))*(-(bx*ay-bY*ax))=1:=by grind
 have Pv:(ax*vx+ay*vy)*(ax*vx+ay*vy)+(ax*vy-ay*vx)*(ax*vy-ay*vx)=1:=by grind
 have Pu:(ax*ux+ay*uy)*(ax*ux+ay*uy)+(ax*uy-ay*ux)*(ax*uy-ay*ux)=1:=by grind
 have kU:=rT Ou;have nv:bx*vx+bY*vy≠1:=λe=>by
  have:=m6 (c:=-(bx*vy-bY*vx)) (by rw[e]at Ov;exact Ov);rw[e,this]at h;grind
 have kV:=Ez Ov nv;have na:bx*ax+bY*ay≠1:=λe=>by
  have:=m6 (c:=-(bx*ay-bY*ax)) (by rw[e]at Oa;exact Oa);rw[e,this]at hv;grind
 obtain⟨_,b2⟩:=bN Ov;obtain⟨_,a2⟩:=bN Oa;obtain⟨_,u2⟩:=bN Ou;have h1:=(mH Ov Oa nv na).1 hv;have aEB:0<(ax*vy-ay*vx)*(1-(ax*ux+ay*uy))-(ax*uy-ay*ux)*(1-(ax*vx+ay*vy)):=by
  have id1:(ax*vy-ay*vx)*(1-(ax*ux+ay*uy))-(ax*uy-ay*ux)*(1-(ax*vx+ay*vy))=(ax*vy-ay*vx)+(vx*uy-vy*ux)+(ux*ay-uy*ax):=by grind
  rw[id1]
  by_cases nu:bx*ux+bY*uy=1
  ·have z:(bx*uy-bY*ux)*(bx*uy-bY*ux)=0:=by rw[nu]at Ou;grind
   have z0:bx*uy-bY*ux=0:=by rcases Rat.mul_eq_zero.mp z with a|a<;>exact a
   have ex:ux=bx:=by
    have:ux=bx*(bx*ux+bY*uy)-bY*(bx*uy-bY*ux):=by grind
    rw[nu,z0]at this;grind
   have ey:uy=bY:=by
    have:uy=bY*(bx*ux+bY*uy)+bx*(bx*uy-bY*ux):=by grind
    rw[nu,z0]at this;grind
   rw[ex,ey];have id2:-(bx*vy-bY*vx)*(1-(bx*ax+bY*ay)) - -(bx*ay-bY*ax)*(1-(bx*vx+bY*vy))=(ax*vy-ay*vx)+(vx*bY-vy*bx)+(bx*ay-bY*ax):=by grind
   rw[<-id2];exact h1
  ·have h2:=(mH Ou Ov nu nv).1 h;have t:=(Bw (ca:=bx*ay-bY*ax) (wa:=1-(bx*ax+bY*ay)) (cv:=bx*vy-bY*vx) (wv:=1-(bx*vx+bY*vy)) (cu:=bx*uy-bY*ux) (wu:=1-(bx*ux+bY*uy))
    (by grind) (by grind) (by grind) (by grind) (by grind) (by grind) (by grind) (by grind)).2
   have id3:((bx*ay-bY*ax)*(1-(bx*vx+bY*vy))-(bx*vy-bY*vx)*(1-(bx*ax+bY*ay)))+((bx*vy-bY*vx)*(1-(bx*ux+bY*uy))-(bx*uy-bY*ux)*(1-(bx*vx+bY*vy)))-((bx*ay-bY*ax)*(1-(bx*ux+bY*uy))-(bx*uy-bY*ux)*(1-(bx*ax+bY*ay)))=(ax*vy-ay*vx)+(vx*uy-vy*ux)+(ux*ay-uy*ax):=by grind
   rw[id3]at t;exact t
 have n1:ax*vx+ay*vy≠1:=λe=>by
  have z:(ax*vy-ay*vx)*(ax*vy-ay*vx)=0:=by rw[e]at Pv;grind
  have z0:ax*vy-ay*vx=0:=by rcases Rat.mul_eq_zero.mp z with a|a<;>exact a
  rw[e,z0]at aEB;grind
 have n2:ax*ux+ay*uy≠1:=λe=>by
  have z:(ax*uy-ay*ux)*(ax*uy-ay*ux)=0:=by rw[e]at Pu;grind
  have z0:ax*uy-ay*ux=0:=by rcases Rat.mul_eq_zero.mp z with a|a<;>exact a
  rw[e,z0]at aEB;grind
 exact(mH Pv Pu n1 n2).2 aEB
theorem Uc{ax ay bx bY ux uy:Rat}(oa:ax*ax+ay*ay=1)(ou:ux*ux+uy*uy=1)(h:fD (bx*ux+bY*uy) (-(bx*uy-bY*ux))<fD (bx*ax+bY*ay) (-(bx*ay-bY*ax))):fD (ax*ax+ay*ay) (ax*ay-ay*ax)<fD (ax*ux+ay*uy) (ax*uy-ay*ux):=by
 have Pu:(ax*ux+ay*uy)*(ax*ux+ay*uy)+(ax*uy-ay*ux)*(ax*uy-ay*ux)=1:=by grind
 have n2:ax*ux+ay*uy≠1:=λe=>by
  have z:(ax*uy-ay*ux)*(ax*uy-ay*ux)=0:=by rw[e]at Pu;grind
  have z0:ax*uy-ay*ux=0:=by rcases Rat.mul_eq_zero.mp z with a|a<;>exact a
  have ex:ux=ax:=by
   have:ux=ax*(ax*ux+ay*uy)-ay*(ax*uy-ay*ux):=by grind
   rw[e,z0]at this;grind
  have ey:uy=ay:=by
   have:uy=ay*(ax*ux+ay*uy)+ax*(ax*uy-ay*ux):=by grind
   rw[e,z0]at this;grind
  rw[ex,ey]at h;grind
 have k1:fD (ax*ax+ay*ay) (ax*ay-ay*ax)=0:=by
  rw[oa];exact m6 (by grind)
 rw[k1];exact Ez Pu n2
theorem Z3{k:L2.T->Rat}(h:srt k a l)(ht:t∈a::l):t=lst a l\/k t<k (lst a l):=by
 obtain⟨i,hi⟩:=XC ht;have il:=(UO.mp hi).1;rw[VQ]at il;obtain c|c:=WG i l.length
 ·exact .inr (uA h hi c)
 ·left
  obtain⟨L,hL⟩:=Fg a l;have ll:l.length+1=L.length+1:=by have:=congrArg List.length hL;simpa using this
  rw[hL]at hi;have:i=L.length:=⋯
  subst this;simp at hi;exact hi.symm
theorem Z4(h:bW x y e)(k:bW p q f)(ss:SS (kf (aQ p) q) L)(uv:∀t∈L,Uv g t)(mx:∀t∈L,t=vc (aQ x) y\/kf (aQ p) q t<kf (aQ p) q (vc (aQ x) y)):SS (kf x y) ((L.reverse).map Ri):=by
 unfold SS;rw[List.pairwise_map,List.pairwise_reverse];refine List.Pairwise.imp_of_mem ?_ ss;intro u' v' hu hv huv;obtain⟨ua,ub,rfl,nu⟩:=uv u' hu;have nu1:=nu.nv.x;have nu2:=nu.nv.y;have ou:=nu.one;have vP:=bV k.nv.x;have vX:=bV h.nv.x;have vu:=bV nu1;obtain rfl|rk:=mx v' hv
 ·rw[pF,pF,Ce];rw[jL,jL,vP,vX]at huv;rw[jL,jL,vu];refine Uc (bx:=val p) (bY:=val q) h.one (by grind) ?_;have e1:val p * -val ua+val q*val ub = -val p*val ua+val q*val ub:=by grind
  have e2:-(val p*val ub-val q * -val ua) = -val p*val ub-val q*val ua:=by grind
  have e3:val p*val x+val q*val y = -val p * -val x+val q*val y:=by grind
  have e4:-(val p*val y-val q*val x) = -val p*val y-val q * -val x:=by grind
  rw[e1,e2,e3,e4];exact huv
 ·obtain⟨va,vb,rfl,nv⟩:=uv v' hv;have nv1:=nv.nv.x;have nv2:=nv.nv.y;have ov:=nv.one;have vv:=bV nv1;rw[pF,pF];rw[jL,jL,vP]at huv rk;rw[vX]at rk;rw[jL,jL,vu,vv];have e1:val p * -val ua+val q*val ub = -val p*val ua+val q*val ub:=by grind
  have e2:-(val p*val ub-val q * -val ua) = -val p*val ub-val q*val ua:=by grind
  have e3:val p*val x+val q*val y = -val p * -val x+val q*val y:=by grind
  have e4:-(val p*val y-val q*val x) = -val p*val y-val q * -val x:=by grind
  have e5:val p * -val va+val q*val vb = -val p*val va+val q*val vb:=by grind
  have e6:-(val p*val vb-val q * -val va) = -val p*val vb-val q*val va:=by grind
  refine Ly (bx:=val p) (bY:=val q) h.one k.one (by grind) (by grind) ?_ ?_
  ·rw[e1,e2,e5,e6];exact huv
  ·rw[e3,e4,e5,e6];exact rk
theorem Rn{d1 c1 d2 c2:Rat}(o1:d1*d1+c1*c1=1)(o2:d2*d2+c2*c2=1)(h:fD d1 c1=fD d2 c2):d1=d2/\c1=c2:=by
 have one:∀{d c d' c':Rat},d'*d'+c'*c'=1->d*d+c*c=1->0<=c->¬0<=c'->1-d=3+d'->False:=λ{d c d' c'}o' o hc hc' e=>by
  obtain⟨a1,_⟩:=lK o' (by grind);obtain⟨b1,_⟩:=bN o;grind
 have same:∀{d c c':Rat},d*d+c*c=1->d*d+c'*c'=1->(c-c')*(c+c')=0:=by intros;grind
 unfold fD at h
 by_cases h1:0<=c1
 ·rw[oV h1]at h
  by_cases h2:0<=c2
  ·rw[oV h2]at h;have e:d1=d2:=by grind
   subst e;obtain z|z:=Rat.mul_eq_zero.mp (same o1 o2)
   ·exact⟨rfl,by grind⟩
   ·exact⟨rfl,by grind⟩
  ·rw[oW h2]at h;exact(one o2 o1 h1 h2 h).elim
 ·rw[oW h1]at h
  by_cases h2:0<=c2
  ·rw[oV h2]at h;exact(one o1 o2 h2 h1 h.symm).elim
  ·rw[oW h2]at h;have e:d1=d2:=by grind
   subst e;obtain z|z:=Rat.mul_eq_zero.mp (same o1 o2)
   ·exact⟨rfl,by grind⟩
   ·exact⟨rfl,by grind⟩
theorem iV{a b c d:Rat}(h:a*a+b*b=1)(k:c*c+d*d=1):(a*c+b*d)*(a*c+b*d)+(a*d-b*c)*(a*d-b*c)=1:=by grind
theorem Zg(h:bW x y e)(hu:Uv f u)(hv:Uv g v)(eq:kf x y u=kf x y v):u=v:=by
 obtain⟨a,b,rfl,ua⟩:=hu;obtain⟨c,d,rfl,uc⟩:=hv;rw[jL,jL]at eq;have o:=h.one;obtain⟨e1,e2⟩:=Rn (iV o ua.one) (iV o uc.one) eq;have f1:val a=val c:=by
  have g1:val a=val x*(val x*val a+val y*val b)-val y*(val x*val b-val y*val a):=by grind
  have g2:val c=val x*(val x*val c+val y*val d)-val y*(val x*val d-val y*val c):=by grind
  rw[g1,g2,e1,e2]
 have f2:val b=val d:=by
  have g1:val b=val y*(val x*val a+val y*val b)+val x*(val x*val b-val y*val a):=by grind
  have g2:val d=val y*(val x*val c+val y*val d)+val x*(val x*val d-val y*val c):=by grind
  rw[g1,g2,e1,e2]
 rw[bQ ua.nv.x uc.nv.x f1,bQ ua.nv.y uc.nv.y f2]
theorem Mj(hu:Uv e u)(hv:Uv f v):L2.dG u v=true↔u=v:=by
 obtain⟨a,b,rfl,ua⟩:=hu;obtain⟨c,d,rfl,uc⟩:=hv;rw[Ca];constructor
 ·intro h;have:=of_decide_eq_true h;rw[this.1,this.2]
 ·intro h;have e:=congrArg cx h;rw[tM,tM]at e;exact oY ⟨congrArg Prod.fst e,congrArg Prod.snd e⟩
theorem zJ:∀{m n:Nat}{x y:Fr},wG p q m x y->wG p q n x y->m=n
 |0,0,_,_,_,_=>rfl
 |0,_+1,_,_,h,k=>absurd k.1 h
 |_+1,0,_,_,h,k=>absurd h.1 k
 |m+1,n+1,_,_,h,k=>by rw[zJ h.2 k.2]
structure cX(x y p q:Fr)(e f:Nat)(s:Int)(m m':Nat):Prop where
 h:bW x y e
 k:bW p q f
 ef:e+f<=140
 e1:e<=100
 f1:f<=100
 hs:s=1\/s=2\/s=3
 hm:m<=3
 hm':m'<=3
 r:wG p q m x y
 r':wG (aQ x) y m' (aQ p) q
abbrev aL(x y p q:Fr)(s:Int)(m:Nat):List L2.T:=vc x y::qb p q s m x y
theorem cX.flip{s:Int}(E:cX x y p q e f s m m'):cX (aQ p) q (aQ x) y f e s m' m:=⟨E.k.flip,E.h.flip,by have:=E.ef;lia,E.f1,E.e1,E.hs,E.hm',E.hm,E.r',by rw[Ce,Ce];exact E.r⟩
theorem cX.auv(E:cX x y p q e f s m m'):∀t∈aL x y p q s m,Uv 400 t:=λt ht=>by
 have:=E.ef;have:=E.e1;have:=E.f1;obtain rfl|ht:=UZ.mp ht
 ·exact⟨x,y,rfl,E.h.up ⋯⟩
 ·exact(Tt E.k E.hs m x y E.h E.r t ht).up ⋯
theorem EJ(h:Uv g t):Uv g (Ri t)/\Ri (Ri t)=t:=by
 obtain⟨a,b,rfl,u⟩:=h;exact⟨⟨aQ a,b,rfl,u.flip⟩,by rw[pF,pF,Ce]⟩
theorem AR{s:Int}:Ih x y p q s m'=((aL (aQ p) q (aQ x) y s m').reverse).map Ri:=rfl
theorem cX.buv(E:cX x y p q e f s m m'):∀t∈Ih x y p q s m',Uv 400 t:=λt ht=>by
 obtain⟨z,hz,rfl⟩:=XF.mp ht;exact(EJ (E.flip.auv z (ZO.mp hz))).1
theorem cX.srt{s:Int}(E:cX x y p q e f s m m'):My.srt (kf x y) (vc x y) (qb p q s m x y):=by
 have at0:At 0 (val x*val x+val y*val y) (val x*val y-val y*val x):=.inl ⟨rfl,E.h.one,by grind⟩;exact Pz (s:=s) E.h E.k E.e1 E.ef E.hs m 0 x y E.h (by have:=E.hm;lia) at0 E.r
theorem cX.chn{s:Int}(E:cX x y p q e f s m m'):My.chn (vc x y) (qb p q s m x y)/\lst (vc x y) (qb p q s m x y)=vc p q:=yH E.k E.e1 E.ef E.hs m x y E.h E.r
theorem cX.ass{s:Int}(E:cX x y p q e f s m m'):SS (kf x y) (aL x y p q s m):=I0 E.srt
theorem cX.amax(E:cX x y p q e f s m m'):∀t∈aL x y p q s m,t=vc p q\/kf x y t<kf x y (vc p q):=λt ht=>by
 have:=Z3 E.srt ht;rw[E.chn.2]at this;exact this
theorem cX.alast{s:Int}(E:cX x y p q e f s m m'):vc p q∈aL x y p q s m:=by
 obtain⟨L,hL⟩:=Fg (vc x y) (qb p q s m x y);rw[E.chn.2]at hL;show vc p q∈vc x y::qb p q s m x y;rw[hL];simp
theorem cX.bss{s:Int}(E:cX x y p q e f s m m'):SS (kf x y) (Ih x y p q s m'):=by
 rw[AR];exact Z4 E.h E.k E.flip.ass E.flip.auv E.flip.amax
theorem cX.bmax(E:cX x y p q e f s m m'):∀t∈Ih x y p q s m',kf x y t<=kf x y (vc p q):=by
 have ss:=E.bss;have e0:Ih x y p q s m'=((qb (aQ x) y s m' (aQ p) q).reverse).map Ri++[vc p q]:=by
  rw[AR];show((vc (aQ p) q::qb (aQ x) y s m' (aQ p) q).reverse).map Ri=_;rw[YE,VE];show _++[Ri (vc (aQ p) q)]=_;rw[pF,Ce]
 rw[e0]at ss⊢;have q:=(List.pairwise_append.mp ss).2.2;intro t ht;obtain c|c:=VX.mp ht
 ·exact Rat.le_of_lt (q t c _ (by simp))
 ·rw[VS]at c;rw[c];exact Rat.le_refl
theorem cX.ub{s:Int}(E:cX x y p q e f s m m'):SS (kf x y) (qW x y p q s m m')/\∀t,t∈qW x y p q s m m'↔t∈aL x y p q s m\/t∈Ih x y p q s m':=by
 have inj:∀u∈aL x y p q s m,∀r∈Ih x y p q s m',kf x y r=kf x y u->L2.dG r u=true:=λu hu r hr z=>by
  have:=Zg E.h (E.buv r hr) (E.auv u hu) z;exact(Mj (E.buv r hr) (E.auv u hu)).2 this
 have eqr:∀u∈aL x y p q s m,∀r∈Ih x y p q s m',L2.dG r u=true->r=u:=λu hu r hr z=>(Mj (E.buv r hr) (E.auv u hu)).1 z;have has:=Rx (k:=kf x y) (A:=aL x y p q s m) E.bss inj eqr λr hr=>⟨vc p q,E.alast,E.bmax r hr⟩;refine⟨(Zn E.ass E.bss inj eqr).1,λt=>⟨λh=>xC h,λh=>?_⟩⟩;obtain h|h:=h
 ·exact has.1 t h
 ·exact has.2 t h
theorem cX.uuv(E:cX x y p q e f s m m'):∀t∈qW x y p q s m m',Uv 400 t:=λt ht=>by
 rcases(E.ub.2 t).1 ht with h|h
 ·exact E.auv t h
 ·exact E.buv t h
theorem cX.umax(E:cX x y p q e f s m m'):∀t∈qW x y p q s m m',kf x y t<=kf x y (vc p q):=λt ht=>by
 rcases(E.ub.2 t).1 ht with h|h
 ·obtain z|z:=E.amax t h
  ·rw[z];exact Rat.le_refl
  ·exact Rat.le_of_lt z
 ·exact E.bmax t h
theorem R3(h:bW x y e):kf x y (vc x y)=0:=by
 rw[jL,h.one];have:val x*val y-val y*val x=0:=by grind
 rw[this];exact m6 (by grind)
theorem cX.umin(E:cX x y p q e f s m m'):∀t∈qW x y p q s m m',kf x y (vc x y)<=kf x y t:=λt ht=>by
 rw[R3 E.h];obtain⟨a,b,rfl,u⟩:=E.uuv t ht;rw[jL];exact rT (iV E.h.one u.one)
theorem Z5{k:L2.T->Rat}(h:SS k l)(hz:z∈l)(mn:∀t∈l,k z<=k t):∃L,l=z::L:=by
 cases l with
 |nil=>cases hz
 |cons a l=>
  obtain rfl|hz:=UZ.mp hz
  ·exact⟨l,rfl⟩
  ·have:=(WV.mp h).1 z hz;have:=mn a (VB ..);grind
theorem Z6{k:L2.T->Rat}(h:SS k l)(hz:z∈l)(mx:∀t∈l,k t<=k z):∃L,l=L++[z]:=by
 obtain⟨a,b,rfl⟩:=List.append_of_mem hz;cases b with
 |nil=>exact⟨a,rfl⟩
 |cons c b=>
  have h2:=(List.pairwise_append.mp h).2.1;have:=(WV.mp h2).1 c (VB ..);have:=mx c (by simp);grind
theorem cX.first{s:Int}(E:cX x y p q e f s m m'):∃L,qW x y p q s m m'=vc x y::L:=Z5 E.ub.1 ((E.ub.2 _).2 (.inl (VB ..))) E.umin
theorem cX.last{s:Int}(E:cX x y p q e f s m m'):∃L,qW x y p q s m m'=L++[vc p q]:=Z6 E.ub.1 ((E.ub.2 _).2 (.inl E.alast)) E.umax
theorem BR{da ca du cu dv cv:Rat}(oa:da*da+ca*ca=1)(ou:du*du+cu*cu=1)(ov:dv*dv+cv*cv=1)(h1:fD da ca<=fD du cu)(h2:fD du cu<fD dv cv):fD (da*du+ca*cu) (da*cu-ca*du)<fD (da*dv+ca*cv) (da*cv-ca*dv):=by
 have Ou:=iV oa ou;have Ov:=iV oa ov;have back:∀{t s:Rat},t*t+s*s=1->da*t+ca*s=1->t=da/\s=ca:=λ{t s}o z=>by
  have O:=iV oa o;rw[z]at O;have z2:(da*s-ca*t)*(da*s-ca*t)=0:=by grind
  have z3:da*s-ca*t=0:=by rcases Rat.mul_eq_zero.mp z2 with a|a<;>exact a
  constructor
  ·have:t=da*(da*t+ca*s)-ca*(da*s-ca*t):=by grind
   rw[z,z3]at this;grind
  ·have:s=ca*(da*t+ca*s)+da*(da*s-ca*t):=by grind
   rw[z,z3]at this;grind
 have nv:da*dv+ca*cv≠1:=λz=>by
  obtain⟨e1,e2⟩:=back ov z;rw[e1,e2]at h2;grind
 by_cases eq:fD da ca=fD du cu
 ·obtain⟨e1,e2⟩:=Rn oa ou eq;rw[<-e1,<-e2,oa];have:da*ca-ca*da=0:=by grind
  rw[this,m6 (by grind)];exact Ez Ov nv
 have lt:fD da ca<fD du cu:=by grind
 have nu:da*du+ca*cu≠1:=λz=>by
  obtain⟨e1,e2⟩:=back ou z;rw[e1,e2]at lt;grind
 by_cases base:da=1
 ·have c0:ca=0:=by
   rw[base]at oa;have:ca*ca=0:=by grind
   rcases Rat.mul_eq_zero.mp this with a|a<;>exact a
  rw[base,c0];have e1:1*du+0*cu=du:=by grind
  have e2:1*cu-0*du=cu:=by grind
  have e3:1*dv+0*cv=dv:=by grind
  have e4:1*cv-0*dv=cv:=by grind
  rw[e1,e2,e3,e4];exact h2
 have ka:=rT oa;have n1:du≠1:=λz=>by
  rw[z]at ou;rw[z,m6 ou]at lt;grind
 have n2:dv≠1:=λz=>by
  rw[z]at ov;rw[z,m6 ov]at h2;grind
 have a1:=(mH oa ou base n1).1 lt;have a2:=(mH ou ov n1 n2).1 h2;obtain⟨_,ba⟩:=bN oa;obtain⟨_,bu⟩:=bN ou;obtain⟨_,bv⟩:=bN ov;have t:=(Bw (ca:=ca) (wa:=1-da) (cv:=cu) (wv:=1-du) (cu:=cv) (wu:=1-dv) (by grind) (by grind) (by grind) (by grind) (by grind) (by grind) a1 a2).2;refine(mH Ou Ov nu nv).2 ?_;have id:(da*cu-ca*du)*(1-(da*dv+ca*cv))-(da*cv-ca*dv)*(1-(da*du+ca*cu))=(ca*(1-du)-cu*(1-da))+(cu*(1-dv)-cv*(1-du))-(ca*(1-dv)-cv*(1-da)):=by grind
 rw[id];exact t
theorem X6{du cu dv cv db cb:Rat}(ou:du*du+cu*cu=1)(ov:dv*dv+cv*cv=1)(ob:db*db+cb*cb=1)(h1:fD du cu<fD dv cv)(h2:fD dv cv<=fD db cb)(c0:0<cb)(d0:0<=db):0<du*cv-cu*dv/\0<=du*dv+cu*cv:=by
 have kb:fD db cb<=1:=by unfold fD;rw[oV (by grind)];grind
 have jT:∀{d c:Rat},d*d+c*c=1->fD d c<=1->0<=c/\0<=d/\fD d c=1-d:=λ{d c}o h=>by
  obtain⟨a,b⟩:=bN o;unfold fD at h⊢
  by_cases hc:0<=c
  ·rw[oV hc]at h⊢;exact⟨hc,by grind,rfl⟩
  ·rw[oW hc]at h;obtain⟨a',b'⟩:=lK o (by grind);grind
 obtain⟨v1,v2,v3⟩:=jT ov (by grind);obtain⟨u1,u2,u3⟩:=jT ou (by grind);have lt:dv<du:=by grind
 have p1:=Rat.mul_nonneg u2 v2;have p2:=Rat.mul_nonneg u1 v1;refine⟨?_,by grind⟩;have cv0:0<cv:=by
  by_cases z:cv=0
  ·rw[z]at ov;obtain⟨_,b⟩:=bN ou;rcases Di ov with w|w<;>grind
  ·grind
 by_cases z:cu=0
 ·rw[z]at ou⊢;obtain w|w:=Di ou
  ·rw[w];grind
  ·grind
 ·exact(IL ou ov (by grind) cv0).2 lt
theorem O5{k:L2.T->Rat}{r:Rat}:∀{l:List L2.T}{a:L2.T},srt k a l->chn a l->k a<=r->r<k (lst a l)->∃u v,u∈a::l/\v∈a::l/\PM u v/\k u<=r/\r<k v:=by
 intro l
 induction l with
 |nil=>intro a _ _ h1 h2;have h2:r<k a:=h2;grind
 |cons b l ih=>
  intro a hs hc h1 h2
  by_cases c:k b<=r
  ·obtain⟨u,v,hu,hv,n,q1,q2⟩:=ih hs.2 hc.2 c h2;exact⟨u,v,UW _ hu,UW _ hv,n,q1,q2⟩
  ·exact⟨a,b,by simp,by simp,hc.1,h1,by grind⟩
theorem Z7{k:L2.T->Rat}(h:SS k l)(hu:l[i]?=oZ u)(hv:l[i+1]?=oZ v)(hb:b∈l)(lt:k u<k b):k v<=k b:=by
 obtain⟨j,hj⟩:=XC hb;obtain⟨i1,e1⟩:=UO.mp hu;obtain⟨i2,e2⟩:=UO.mp hv;obtain⟨j1,e3⟩:=UO.mp hj;have pw:=bf.mp h;obtain c|c|c:=Nat.lt_trichotomy j (i+1)
 ·obtain z|z:=WG j i
  ·have:=pw j i j1 i1 z;rw[e1,e3]at this;grind
  ·have:j=i:=⋯
   subst this;rw[e1]at e3;rw[e3]at lt;grind
 ·subst c;rw[e2]at e3;rw[e3];exact Rat.le_refl
 ·have:=pw (i+1) j i2 j1 c;rw[e2,e3]at this;exact Rat.le_of_lt this
theorem cX.nbr{s:Int}(E:cX x y p q e f s m m')(hu:(qW x y p q s m m')[i]?=oZ u)(hv:(qW x y p q s m m')[i+1]?=oZ v):
  ∃a b c d,u=vc a b/\v=vc c d/\bW a b 400/\bW c d 400/\0<val a*val d-val b*val c/\0<=val a*val c+val b*val d:=by
 have mu:=UR hu;have mv:=UR hv;have luv:kf x y u<kf x y v:=by
  obtain⟨i1,e1⟩:=UO.mp hu;obtain⟨i2,e2⟩:=UO.mp hv;have:=bf.mp E.ub.1 i (i+1) i1 i2 ⋯;rw[e1,e2]at this;exact this
 have l2:kf x y u<kf x y (lst (vc x y) (qb p q s m x y)):=by
  rw[E.chn.2];have:=E.umax v mv;grind
 obtain⟨a,b,ha,hb,nb,q1,q2⟩:=O5 E.srt E.chn.1 (E.umin u mu) l2;have q3:=Z7 E.ub.1 hu hv ((E.ub.2 b).2 (.inl hb)) q2;obtain⟨u1,u2,rfl,uu⟩:=E.uuv u mu;obtain⟨v1,v2,rfl,uv⟩:=E.uuv v mv;obtain⟨a1,a2,rfl,ua⟩:=E.auv a ha;obtain⟨b1,b2,rfl,ub⟩:=E.auv b hb;obtain⟨a1',a2',b1',b2',z1,z2,_,_,_,c0,d0⟩:=nb.ex;have z1:=congrArg cx z1;have z2:=congrArg cx z2;rw[tM,tM]at z1 z2;cases z1;cases z2;refine⟨u1,u2,v1,v2,rfl,rfl,uu,uv,?_⟩;rw[jL,jL]at q1 luv q3;have o:=E.h.one;have Oa:=iV o ua.one;have Ou:=iV o uu.one;have Ov:=iV o uv.one;have Ob:=iV o ub.one;have s1:=BR Oa Ou Ov q1 luv;have inv:∀t1 t2 r1 r2:Rat,(val x*t1+val y*t2)*(val x*r1+val y*r2)+(val x*t2-val y*t1)*(val x*r2-val y*r1)=t1*r1+t2*r2:=λt1 t2 r1 r2=>by grind
 have inw:∀t1 t2 r1 r2:Rat,(val x*t1+val y*t2)*(val x*r2-val y*r1)-(val x*t2-val y*t1)*(val x*r1+val y*r2)=t1*r2-t2*r1:=λt1 t2 r1 r2=>by grind
 rw[inv,inw,inv,inw]at s1;have s2:fD (val a1*val v1+val a2*val v2) (val a1*val v2-val a2*val v1)<=fD (val a1*val b1+val a2*val b2) (val a1*val b2-val a2*val b1):=by
  by_cases z:fD (val x*val v1+val y*val v2) (val x*val v2-val y*val v1)=fD (val x*val b1+val y*val b2) (val x*val b2-val y*val b1)
  ·have:=Zg E.h ⟨v1,v2,rfl,uv⟩ ⟨b1,b2,rfl,ub⟩ z;have:=congrArg cx this;rw[tM,tM]at this;cases this;exact Rat.le_refl
  ·have s3:=BR Oa Ov Ob (by grind) (show _<_ by grind);rw[inv,inw,inv,inw]at s3;exact Rat.le_of_lt s3
 have fin:=X6 (iV ua.one uu.one) (iV ua.one uv.one) (iV ua.one ub.one) s1 s2 c0 d0;have oa:=ua.one;have i1:(val a1*val u1+val a2*val u2)*(val a1*val v2-val a2*val v1)-(val a1*val u2-val a2*val u1)*(val a1*val v1+val a2*val v2)=val u1*val v2-val u2*val v1:=by grind
 have i2:(val a1*val u1+val a2*val u2)*(val a1*val v1+val a2*val v2)+(val a1*val u2-val a2*val u1)*(val a1*val v2-val a2*val v1)=val u1*val v1+val u2*val v2:=by grind
 rw[i1,i2]at fin;exact fin
def Tj:dF:=λas Q=>∃(x y p q:Fr)(e f:Nat),as=[.v (vc x y),.v (vc p q)]/\Nv x y e/\Nv p q f/\e+f<=3900/\Q (.v (vc (bH x p) (bH y q))) []
abbrev sZ(P w K mg base):=(~~~Fn) 4 "plus" oH (aI K Tj)
abbrev Po:fq:=top 11
theorem Z0:aF oH oH (aC Po):=dJ
theorem U1(F:cI K "plus" "plus" Po f fd)(TX:Txt mg)(oh: ~~~iB):(~~~aS) cL 4 f fd oH (aI K Tj):=by
 refine F.okU Z0 (λhr=>(aE (aG (aJ (f2 (fK oh (f2 (fQ 0) (fQ 1))) (fK oh (f2 (fQ 0) (fQ 1)))))))) ?_;rintro as Q ⟨x,y,p,q,e,f,rfl,h,k,he,z⟩;have:=h.sx;have:=h.sy;have:=k.sx;have:=k.sy;exact⟨_,_,rfl,h.x,k.x,⋯,_,_,rfl,h.y,k.y,⋯,rfl,z⟩
def xJ:dF:=λas Q=>∃(x y b:Fr)(e:Nat),as=[.v (vc x y),.v (fr b)]/\Nv x y e/\bI b/\e+sz b<=7000/\Q (.v (vc (aN x b) (aN y b))) []
abbrev l8(P w K mg base):=(~~~Fn) 4 "scaled" ["vector","by"] (aI K xJ)
abbrev zW:fq:=top 13
theorem Wm:aF ["vector","by"] ["vector","by"] (aC zW):=dJ
theorem Vv(F:cI K "scaled" "scaled" zW f fd)(TX:Txt mg)(oq: ~~~kI):(~~~aS) cL 4 f fd ["vector","by"] (aI K xJ):=by
 refine F.okU Wm (λhr=>(aE (aG (aJ (f2 (fK oq (f2 (fQ 0) (fv 1))) (fK oq (f2 (fQ 0) (fv 1)))))))) ?_;rintro as Q ⟨x,y,b,e,rfl,h,k,he,z⟩;have:=h.sx;have:=h.sy;exact⟨_,_,rfl,h.x,k,⋯,_,_,rfl,h.y,k,⋯,rfl,z⟩
def Lj(x y p q:Fr):Fr:=bH (1,1) (cS x y p q)
def L0(x p d:Fr):Fr:=aN (bH x p) (b7 (1,1) d)
theorem Qa:sz (1,1)=1:=∅
theorem Fs(h:Nv x y e)(k:Nv p q f):Nv (bH x p) (bH y q) (e+f+1):=by
 have:=h.sx;have:=h.sy;have:=k.sx;have:=k.sy;have s1:=gZ h.x k.x;have s2:=gZ h.y k.y;exact⟨cH h.x k.x,cH h.y k.y,⋯,⋯⟩
theorem kR(h:Nv x y e)(k:bI b):Nv (aN x b) (aN y b) (e+sz b):=by
 have:=h.sx;have:=h.sy;have s1:=cF h.x k;have s2:=cF h.y k;exact⟨aO h.x k,aO h.y k,⋯,⋯⟩
theorem vS(h:bW x y e)(k:bW p q f):bI (Lj x y p q)/\sz (Lj x y p q)<=e+f+3/\val (Lj x y p q)=1+(val x*val p+val y*val q):=by
 have s:=xI h k;have s2:=gZ (aM 1) (bG h.nv k.nv);have o:=Qa;refine⟨cH (aM 1) (bG h.nv k.nv),?_,?_⟩
 ·show sz (bH (1,1) (cS x y p q))<=_
  lia
 ·show val (bH (1,1) (cS x y p q))=_;rw[cN (aM 1) (bG h.nv k.nv),iR,eN h.nv k.nv]
theorem Et(h:bI d)(n:d.1≠0):bI (b7 (1,1) d)/\sz (b7 (1,1) d)<=sz d+1/\val (b7 (1,1) d)=1/val d:=by
 have s:=qV (aM 1) n;have o:=Qa;exact⟨gN (aM 1) n,⋯,by rw[jR (aM 1) h n,iR]⟩
theorem IP(h:bI d)(n:d.1≠0):val d≠0:=λz=>by
 have:=(Ak h).1 (by grind);have:=(fO h).1 (by grind)
 lia
def NV:dF:=λas Q=>∃(x y p q:Fr),as=[.v (vc x y),.v (vc p q)]/\bW x y 150/\bW p q 150/\(Lj x y p q).1≠0/\Q (.v (vc (L0 x p (Lj x y p q)) (L0 y q (Lj x y p q)))) []
abbrev Bn(P w K mg base):=(~~~Fn) 5 "tip_of" oH (aI K NV)
abbrev zX:fq:=top 44
theorem Wn:aF oH oH (aC zX):=dJ
theorem Vw(F:cI K "tip_of" "tip_of" zX f fd)(TX:Txt mg)(pj: ~~~l8)(qu: ~~~sZ)(sf: ~~~sY)(oh: ~~~iB)(qy: ~~~rO)(pf:nW mg K "ONE_turns" (.tup [.int 1,.int 1])):(~~~aS) cL 5 f fd oH (aI K NV):=by
 refine F.okU Wn (λhr=>(aE (aG (fK pj (f2 (fK qu (f2 (fv 0) (fv 1))) (fK sf (f2 (jA rfl pf) (fK oh (f2 (jA rfl pf) (fK qy (f2 (fv 0) (fv 1)))))))))))) ?_;rintro as Q ⟨x,y,p,q,rfl,h,k,n,z⟩;have s:=xI h k;have o:=Qa;obtain⟨u1,u2,_⟩:=vS h k;obtain⟨i1,i2,_⟩:=Et u1 n;refine⟨x,y,p,q,150,150,rfl,h.nv,k.nv,∅,?_⟩;refine⟨x,y,p,q,150,150,rfl,h.nv,k.nv,∅,(1,1),_,rfl,aM 1,bG h.nv k.nv,⋯,?_⟩;refine⟨(1,1),Lj x y p q,rfl,aM 1,u1,n,⋯,?_⟩;exact⟨_,_,_,_,rfl,Fs h.nv k.nv,i1,⋯,rfl,z⟩
def Ux(u v:L2.T):Fr:=cS (cx u).1 (cx u).2 (cx v).1 (cx v).2
def mn(a b:Fr):Fr:=if val b<val a then b else a
def q9(U:List L2.T):Nat->Fr
 |0=>Ux (U.getD 0 .non) (U.getD 1 .non)
 |i+1=>mn (q9 U i) (Ux (U.getD (i+1) .non) (U.getD (i+2) .non))
theorem Xu(h:Uv 150 u)(k:Uv 150 v):bI (Ux u v)/\sz (Ux u v)<=301:=by
 obtain⟨a,b,rfl,h⟩:=h;obtain⟨c,d,rfl,k⟩:=k;exact⟨bG h.nv k.nv,xI h k⟩
theorem Nh{U:List L2.T}(h:∀t∈U,Uv 150 t):∀i,i+2<=U.length->bI (q9 U i)/\sz (q9 U i)<=301:=by
 have g:∀i,i<U.length->Uv 150 (U.getD i .non):=λi hi=>by
  rw[VR,UP hi];exact h _ (XN hi)
 intro i
 induction i with
 |zero=>intro hi;exact Xu (g 0 ⋯) (g 1 ⋯)
 |succ i ih=>
  intro hi;show bI (mn _ _)/\sz (mn _ _)<=301;unfold mn
  split
  ·exact Xu (g (i+1) ⋯) (g (i+2) ⋯)
  ·exact ih ⋯
theorem eV(U:List L2.T)(k:Nat):gL U (oZ (k:Int)) none=U.drop k:=by
 unfold gL;rw[HT.sIx_nat,HT.sIx_none];obtain c|c:=Nat.le_total k U.length
 ·rw[Nat.min_eq_left c];exact XM (by rw[XI];exact VA _)
 ·rw[Nat.min_eq_right c,dr (VA _),dr c];simp
theorem AI{U:List L2.T}(h:∀t∈U,Uv 150 t)(hi:i<U.length):∃a b,U[i]?=oZ (vc a b)/\U.getD i .non=vc a b/\dX U (i:Int)=oZ (vc a b)/\bW a b 150:=by
 obtain⟨a,b,e,n⟩:=h _ (XN hi);have e1:U[i]?=oZ (vc a b):=by rw[UP hi,e]
 exact⟨a,b,e1,by rw[VR,e1];rfl,gR e1,n⟩
theorem SE{U:List L2.T}(h:∀t∈U,Uv 150 t)(hi:(eO (gL U (oZ 1) none) (gL U (oZ 2) none))[i]?=oZ t):∃a b c d,t = .tup [vc a b,vc c d]/\U.getD (i+1) .non=vc a b/\U.getD (i+2) .non=vc c d/\bW a b 150/\bW c d 150/\i+3<=U.length:=by
 obtain⟨u,v,h1,h2,rfl⟩:=mR hi;have e1:=eV U 1;have e2:=eV U 2;rw[show gL U (oZ 1) none=U.drop 1 from e1,YN]at h1;rw[show gL U (oZ 2) none=U.drop 2 from e2,YN]at h2;have l2:=(UO.mp h2).1;obtain⟨a,b,a1,a2,a3,a4⟩:=AI h (i:=i+1) ⋯;obtain⟨c,d,c1,c2,c3,c4⟩:=AI h (i:=i+2) ⋯;rw[YH 1 i]at h1;rw[YH 2 i]at h2;rw[a1]at h1;cases h1;rw[c1]at h2;cases h2;exact⟨a,b,c,d,rfl,a2,c2,a4,c4,⋯⟩
theorem M6(U:List L2.T):(eO (gL U (oZ 1) none) (gL U (oZ 2) none)).length=U.length-2:=by
 have e1:=eV U 1;have e2:=eV U 2;rw[i9,show gL U (oZ 1) none=U.drop 1 from e1,show gL U (oZ 2) none=U.drop 2 from e2,XI,XI]
 lia
def TB:dF:=λas Q=>∃U:List L2.T,as=[.v (.lst U)]/\2<=U.length/\U.length<=40/\(∀t∈U,Uv 150 t)/\Q (.v (fr (q9 U (U.length-2)))) []
abbrev sV(P w K mg base):=(~~~Fn) 5 "least_dot" ["units"] (aI K TB)
abbrev pV:fq:=top 43
theorem fY:aF ["units","least","one","other","found"] ["units"] (aC pV):=dJ
theorem Fy(F:cI K "least_dot" "least_dot" pV f fd)(TX:Txt mg)(qy: ~~~rO)(qk: ~~~lE):(~~~aS) cL 5 f fd ["units"] (aI K TB):=by
 refine F.okU fY (λhr=>(aB (fS 1 fY.nd (fK qy (f2 (fQ 0) (fQ 0)))) (aB (jS PassesOwn.never rfl (qQ rfl rfl TX.n_zip (f2 (dH rfl (fv 0) (dQ aA) iF) (dH rfl (fv 0) (dQ aA) iF))) (dA (n:=2) rfl rfl (aK (fG 2 fY.nd) (aK (fG 3 fY.nd) cA))) (aB (fS 4 fY.nd (fK qy (f2 (fv 2) (fv 3)))) (aE (bP (fP kT (fK qk (f2 (fv 4) (fv 1))) aA) (aE (fS 1 fY.nd (fv 4))) bE)))) (aE (aG (fv 1)))))) ?_;rintro as Q ⟨U,rfl,h2,h40,hU,z⟩;obtain⟨a,b,_,a2,a3,a4⟩:=AI hU (i:=0) ⋯;obtain⟨c,d,_,c2,c3,c4⟩:=AI hU (i:=1) ⋯;show o1 (dX U 0) _;rw[show dX U 0=_ from a3];show o1 (dX U 1) _;rw[show dX U 1=_ from c3];refine⟨a,b,c,d,150,150,rfl,a4.nv,c4.nv,∅,?_⟩;have e0:cS a b c d=q9 U 0:=by
  show _=Ux (U.getD 0 .non) (U.getD 1 .non);rw[a2,c2];rfl
 rw[e0];refine cK (λi E=>∃(v2 v3 v4:Option L2.U),E=[⇑(.lst U),⇑(fr (q9 U i)),v2,v3,v4]) ⟨none,none,none,rfl⟩ ?_ ?_
 ·rintro i t rest E hi ⟨v2,v3,v4,rfl⟩ KK;obtain⟨a,b,c,d,rfl,a2,c2,a4,c4,hl⟩:=SE hU hi;obtain⟨l1,l2⟩:=Nh hU i ⋯;have sd:=xI a4 c4;refine⟨a,b,c,d,150,150,rfl,a4.nv,c4.nv,∅,?_⟩;refine⟨_,_,rfl,bG a4.nv c4.nv,l1,⋯,⋯,λr hr=>?_⟩;have e1:q9 U (i+1)=mn (q9 U i) (cS a b c d):=by
   show mn _ (Ux (U.getD (i+1) .non) (U.getD (i+2) .non))=_;rw[a2,c2];rfl
  show if decide (r<0)=true then _ else _
  by_cases cc:r<0
  ·rw[oY cc,oV rfl];have:q9 U (i+1)=cS a b c d:=by rw[e1];unfold mn;rw[oV (hr.1 cc)]
   refine KK _ ⟨⇑(vc a b),⇑(vc c d),⇑(fr (cS a b c d)),?_⟩;rw[this];rfl
  ·rw[oX cc,oW ∅];have:q9 U (i+1)=q9 U i:=by rw[e1];unfold mn;rw[oW (λz=>cc (hr.2 z))]
   refine KK _ ⟨⇑(vc a b),⇑(vc c d),⇑(fr (cS a b c d)),?_⟩;rw[this]
 ·rintro E ⟨v2,v3,v4,rfl⟩;rw[M6];exact⟨rfl,z⟩
theorem Jl:∀ns:List Int,bM (bK ns)=true
 |[]=>rfl
 |_::ns=>by simp[bK,bM,noL];exact Jl ns
def Ta:dF:=λas Q=>∃(ns:List Int)(m:Nat),as=[.v (.lst (bK ns)),.v (.int (m:Int))]/\ns.length<=63/\2<=m/\m<=63/\∀cs:List Int,cs.length<=m->Q (.l (bK cs)) []
abbrev Bi(P w K mg base):=(~~~Fn) 1 "_law_folded" ["_law_script","_law_many"] (aI K Ta)
abbrev zN:fq:=top 71
theorem qT:aF ["_law_script","_law_many","_law_cells","_law_k","_law_cell"] ["_law_script","_law_many"] (aC zN):=dJ
theorem Vo(F:cI K "_law_folded" "_law_folded" zN f fd)(TX:Txt mg):(~~~aS) cL 1 f fd ["_law_script","_law_many"] (aI K Ta):=by
 refine F.okU qT (λhr=>(aB (fS 2 qT.nd (Va rfl rfl TX.n_list (f1 (dH rfl (fv 0) iF (dQ (fv 1)))))) (aB (jS PassesOwn.never rfl (Rh rfl rfl TX.n_enumerate (f1 (dH rfl (fv 0) (dQ (fv 1)) (dQ aA)))) (dA (n:=2) rfl rfl (aK (fG 3 qT.nd) (aK (fG 4 qT.nd) cA))) (aE (gG (a7 cE (fX (fv 2) (aR gX (fv 3) (fv 1))) (aR bA (fv 4) (a7 cE (fv 3) aA))) (Mq (fv 2) (aR gX (fv 3) (fv 1)))))) (aE (aG (fv 2)))))) ?_;rintro as Q ⟨ns,m,rfl,hl,hm2,hm,q⟩;refine cK (λi E=>∃(cs:List Int)(v3 v4:Option U),E=[⇑(.lst (bK ns)),↑(m:Int),↥(bK cs),v3,v4]/\cs.length=(ns.take m).length)
  ⟨ns.take m,none,none,by rw[<-O8],rfl⟩ ?_ ?_
 ·rintro i x rest E hi ⟨cs,v3,v4,rfl,hc⟩ K;obtain⟨y,hy,rfl⟩:=Qx hi;obtain⟨z,rfl⟩:∃z,y=T.int z:=by
   obtain⟨z,_,e⟩:=XF.mp (Xl (UR hy));exact⟨z,e.symm⟩
  have aC1:i<ns.length-m:=by
   have h1:=(UO.mp hy).1;have h2:=Xk (bK ns) m 63;simp[bK]at h2;exact VJ h1 h2
  have hcl:cs.length=m:=by rw[hc,WE];lia
  have em:((i:Int)%(m:Int))=((i%m:Nat):Int):=rfl;have hj:i%m<cs.length:=by rw[hcl];exact YV _ ⋯
  have hat:dX (bK cs) ((i:Int)%(m:Int))=oZ (T.int cs[i%m]):=by
   rw[em];exact gR (by rw[bK,UQ,UP hj];rfl)
  have hix:Lq (bK cs).length ((i:Int)%(m:Int))=oZ (i%m):=by
   rw[em];unfold Lq;rw[oV ⋯,oV (by simp[bK];lia),WO]
  have hmp:(λ(_ j:Int)=>0<j) (i:Int) (m:Int):=by show(0:Int)<(m:Int);lia
  refine⟨hmp,?_⟩;show o1 (dX (bK cs) ((i:Int)%(m:Int))) _;rw[hat];refine⟨Jk ⋯,hmp,?_⟩;show o1 (Lq (bK cs).length ((i:Int)%(m:Int))) _;rw[hix];have e:bK (cs.set (i%m) (cs[i%m]+z*((i:Int)+2)))=(bK cs).set (i%m) (.int (cs[i%m]+z*((i:Int)+2))):=by rw[bK,bK,List.map_set]
  exact K _ ⟨cs.set (i%m) (cs[i%m]+z*((i:Int)+2)),↑(i:Int),↑z,by rw[e];rfl,by rw[XS];exact hc⟩
 ·rintro E ⟨cs,v3,v4,rfl,hc⟩;have hcm:cs.length<=m:=by rw[hc,WE];lia
  exact⟨Jl _,q cs hcm⟩
abbrev o9(P w K mg base):=(~~~Fn) 1 "_law_frac" ["_law_n","_law_d"] (aI K AD)
abbrev Hc:fq:=top 72
theorem tX:aF ["_law_n","_law_d","_law_one","_law_other"] ["_law_n","_law_d"] (aC Hc):=dJ
theorem Zx(F:cI K "_law_frac" "_law_frac" Hc f fd)(TX:Txt mg):(~~~aS) cL 1 f fd ["_law_n","_law_d"] (aI K AD):=by
 refine F.okU tX (λhr=>(aB (dZ (i:=2) (j:=3) rfl tX.nd rfl rfl ∅ rfl rfl (f2 (uM rfl TX.n_abs (f1 (fv 0))) (uM rfl TX.n_abs (f1 (fv 1)))) rfl) (aB (pG PassesOwn.never (fP zB (fv 3) aA) (aE (dZ (i:=2) (j:=3) rfl tX.nd rfl rfl ∅ rfl rfl (f2 (fv 3) (aR gX (fv 2) (fv 3))) rfl))) (aB (fS 2 tX.nd (aR bA (fv 2) (pE (fP zB (fv 1) aA) aA (c7 aA)))) (aE (aG (aJ (f2 (aR dU (fv 0) (fv 2)) (aR dU (fv 1) (fv 2)))))))))) ?_;rintro as Q ⟨n,d,rfl,hd,hb,q⟩;refine⟨λm E=>∃(x y:Nat),E=[↑n,↑d,↑x,↑y]/\m=y/\WD x y=WD n.natAbs d.natAbs,⟨_,_,_,rfl,rfl,rfl⟩,?_⟩;rintro m E ⟨x,y,rfl,rfl,hg⟩;show if decide ((0:Int)<(m:Int))=true then _ else _
 by_cases hy:(0:Int)<(m:Int)
 ·rw[oY hy,oV rfl];exact⟨hy,x%m,YV _ ⋯,m,x%m,rfl,rfl,by rw[Jd];exact hg⟩
 ·rw[oX hy,oW ∅];obtain rfl:m=0:=⋯
  rw[Nat.gcd_zero_right]at hg;subst hg;have dn:((WD n.natAbs d.natAbs:Nat):Int)∣n:=XJ.mpr (YU _ _);have dd:((WD n.natAbs d.natAbs:Nat):Int)∣d:=XJ.mpr (YR _ _);have g0:((WD n.natAbs d.natAbs:Nat):Int)≠0:=(vZ (i:=0) (n:=n) hd hb).1;have aQ:∀{g m:Int},g≠0->g∣m->m.fdiv (-g)=(-m)/g:=λ{g m}h0 hm=>by
   obtain⟨k,rfl⟩:=hm;have e1:g*k=(-g)*(-k):=by grind
   have e2:-(g*k)=g*(-k):=by grind
   rw[e2,WZ _ h0,e1,cj _ ⋯]
  show if decide (0<d)=true then _ else _
  by_cases h:0<d
  ·rw[oY h,oV rfl];have e1:((WD n.natAbs d.natAbs:Nat):Int)*1=((WD n.natAbs d.natAbs:Nat):Int):=Int.mul_one _;refine⟨Jk ∅,?_⟩;rw[e1];refine⟨vZ hd hb,vZ hd hb,rfl,?_⟩;unfold jT tU pI at q;rw[oV h,oV h,<-Qz,<-Qz]at q;exact q
  ·rw[oX h,oW ∅];have e1:((WD n.natAbs d.natAbs:Nat):Int) * -1 = -((WD n.natAbs d.natAbs:Nat):Int):=⋯
   refine⟨Jk ∅,?_⟩;rw[e1];have cz:∀i:Int,Bf i (-((WD n.natAbs d.natAbs:Nat):Int)):=λi=>⟨⋯,by rw[ZI];exact(vZ (i:=i) (n:=n) hd hb).2⟩;refine⟨cz _,cz _,rfl,?_⟩;unfold jT tU pI at q;rw[oW h,oW h,<-aQ g0 dn,<-aQ g0 dd]at q;exact q
abbrev qN(P w K mg base):=(~~~Fn) 2 "_law_sum" oG (aI K (wR bH))
abbrev Pj:fq:=top 73
theorem Y8:aF oG oG (aC Pj):=dJ
theorem T7(F:cI K "_law_sum" "_law_sum" Pj f fd)(TX:Txt mg)(qr: ~~~o9):(~~~aS) cL 2 f fd oG (aI K (wR bH)):=by
 refine F.okU Y8 (λhr=>(aE (aG (fK qr (f2 (a7 cE (aR bA (fQ 0) (fQ 1)) (aR bA (fQ 1) (fQ 0))) (aR bA (fQ 0) (fQ 1))))))) ?_;rintro as Q ⟨x,y,rfl,hx,hy,hs,q⟩;have hd:(x.2*y.2).natAbs<2^8000:=uV (bL (b8 x) (b8 y)) ⋯;exact⟨jU (e:=7900) (pl (dW x) ⋯) (pl (b8 y) ⋯) ∅,jU (e:=7900) (pl (dW y) ⋯) (pl (b8 x) ⋯) ∅,jU (e:=7900) (pl (b8 x) ⋯) (pl (b8 y) ⋯) ∅,_,_,rfl,fF hx hy,hd,rfl,q⟩
abbrev sX(P w K mg base):=(~~~Fn) 2 "_law_less" oG (aI K (wR aT))
abbrev He:fq:=top 75
theorem G3:aF oG oG (aC He):=dJ
theorem Zz(F:cI K "_law_less" "_law_less" He f fd)(TX:Txt mg)(qr: ~~~o9):(~~~aS) cL 2 f fd oG (aI K (wR aT)):=by
 refine F.okU G3 (λhr=>(aE (aG (fK qr (f2 (a7 iY (aR bA (fQ 0) (fQ 1)) (aR bA (fQ 1) (fQ 0))) (aR bA (fQ 0) (fQ 1))))))) ?_;rintro as Q ⟨x,y,rfl,hx,hy,hs,q⟩;have hd:(x.2*y.2).natAbs<2^8000:=uV (bL (b8 x) (b8 y)) ⋯;exact⟨jU (e:=7900) (pl (dW x) ⋯) (pl (b8 y) ⋯) ∅,jU (e:=7900) (pl (dW y) ⋯) (pl (b8 x) ⋯) ∅,jU (e:=7900) (pl (b8 x) ⋯) (pl (b8 y) ⋯) ∅,_,_,rfl,fF hx hy,hd,rfl,q⟩
abbrev jI(P w K mg base):=(~~~Fn) 2 "_law_product" oG (aI K (wR aN))
abbrev sF:fq:=top 74
theorem Ko:aF oG oG (aC sF):=dJ
theorem Jx(F:cI K "_law_product" "_law_product" sF f fd)(TX:Txt mg)(qr: ~~~o9):(~~~aS) cL 2 f fd oG (aI K (wR aN)):=by
 refine F.okU Ko (λhr=>(aE (aG (fK qr (f2 (aR bA (fQ 0) (fQ 1)) (aR bA (fQ 0) (fQ 1))))))) ?_;rintro as Q ⟨x,y,rfl,hx,hy,hs,q⟩;have hd:(x.2*y.2).natAbs<2^8000:=uV (bL (b8 x) (b8 y)) ⋯;exact⟨jU (e:=7900) (pl (dW x) ⋯) (pl (dW y) ⋯) ∅,jU (e:=7900) (pl (b8 x) ⋯) (pl (b8 y) ⋯) ∅,_,_,rfl,fF hx hy,hd,rfl,q⟩
abbrev qL(P w K mg base):=(~~~Fn) 3 "_law_add" oG (aI K Tj)
abbrev Pe:fq:=top 76
theorem Y5:aF oG oG (aC Pe):=dJ
theorem T3(F:cI K "_law_add" "_law_add" Pe f fd)(TX:Txt mg)(qw: ~~~qN):(~~~aS) cL 3 f fd oG (aI K Tj):=by
 refine F.okU Y5 (λhr=>(aE (aG (aJ (f2 (fK qw (f2 (fQ 0) (fQ 1))) (fK qw (f2 (fQ 0) (fQ 1)))))))) ?_;rintro as Q ⟨x,y,p,q,e,f,rfl,h,k,hs,z⟩;have:=h.sx;have:=h.sy;have:=k.sx;have:=k.sy;exact⟨_,_,rfl,h.x,k.x,⋯,_,_,rfl,h.y,k.y,⋯,rfl,z⟩
abbrev Dr(P w K mg base):=(~~~Fn) 3 "_law_sub" oG (aI K AE)
abbrev Ph:fq:=top 77
theorem Y7:aF oG oG (aC Ph):=dJ
theorem T6(F:cI K "_law_sub" "_law_sub" Ph f fd)(TX:Txt mg)(rm: ~~~sX):(~~~aS) cL 3 f fd oG (aI K AE):=by
 refine F.okU Y7 (λhr=>(aE (aG (aJ (f2 (fK rm (f2 (fQ 0) (fQ 1))) (fK rm (f2 (fQ 0) (fQ 1)))))))) ?_;rintro as Q ⟨x,y,p,q,e,f,rfl,h,k,hs,z⟩;have:=h.sx;have:=h.sy;have:=k.sx;have:=k.sy;exact⟨_,_,rfl,h.x,k.x,⋯,_,_,rfl,h.y,k.y,⋯,rfl,z⟩
abbrev c8(P w K mg base):=(~~~Fn) 3 "_law_scaled_by" ["_law_vector","_law_share"] (aI K xJ)
abbrev nF:fq:=top 78
theorem Bd:aF ["_law_vector","_law_share"] ["_law_vector","_law_share"] (aC nF):=dJ
theorem Ba(F:cI K "_law_scaled_by" "_law_scaled_by" nF f fd)(TX:Txt mg)(nj: ~~~jI):(~~~aS) cL 3 f fd ["_law_vector","_law_share"] (aI K xJ):=by
 refine F.okU Bd (λhr=>(aE (aG (aJ (f2 (fK nj (f2 (fQ 0) (fv 1))) (fK nj (f2 (fQ 0) (fv 1)))))))) ?_;rintro as Q ⟨x,y,b,e,rfl,h,hb,hs,q⟩;have:=h.sx;have:=h.sy;exact⟨_,_,rfl,h.x,hb,⋯,_,_,rfl,h.y,hb,⋯,rfl,q⟩
abbrev Bj(P w K mg base):=(~~~Fn) 3 "_law_cross" oG (aI K (CY aU))
abbrev zP:fq:=top 79
theorem Wk:aF oG oG (aC zP):=dJ
theorem Vp(F:cI K "_law_cross" "_law_cross" zP f fd)(TX:Txt mg)(rm: ~~~sX)(nj: ~~~jI):(~~~aS) cL 3 f fd oG (aI K (CY aU)):=by
 refine F.okU Wk (λhr=>(aE (aG (fK rm (f2 (fK nj (f2 (fQ 0) (fQ 1))) (fK nj (f2 (fQ 0) (fQ 1)))))))) ?_;rintro as Q ⟨x,y,x',y',e,f,rfl,h,k,he,q⟩;have:=h.sx;have:=h.sy;have:=k.sx;have:=k.sy;have n1:=aO h.x k.y;have n2:=aO h.y k.x;have s1:=cF h.x k.y;have s2:=cF h.y k.x;exact⟨_,_,rfl,h.x,k.y,⋯,_,_,rfl,h.y,k.x,⋯,_,_,rfl,n1,n2,⋯,rfl,q⟩
abbrev Dp(P w K mg base):=(~~~Fn) 3 "_law_dot" oG (aI K (CY cS))
abbrev Pf:fq:=top 80
theorem Y6:aF oG oG (aC Pf):=dJ
theorem T4(F:cI K "_law_dot" "_law_dot" Pf f fd)(TX:Txt mg)(qw: ~~~qN)(nj: ~~~jI):(~~~aS) cL 3 f fd oG (aI K (CY cS)):=by
 refine F.okU Y6 (λhr=>(aE (aG (fK qw (f2 (fK nj (f2 (fQ 0) (fQ 1))) (fK nj (f2 (fQ 0) (fQ 1)))))))) ?_;rintro as Q ⟨x,y,x',y',e,f,rfl,h,k,he,q⟩;have:=h.sx;have:=h.sy;have:=k.sx;have:=k.sy;have n1:=aO h.x k.x;have n2:=aO h.y k.y;have s1:=cF h.x k.x;have s2:=cF h.y k.y;exact⟨_,_,rfl,h.x,k.x,⋯,_,_,rfl,h.y,k.y,⋯,_,_,rfl,n1,n2,⋯,rfl,q⟩
abbrev eT(P w K mg base):=(~~~Fn) 1 "_law_quarter" ["_law_vector"] (aI K Tc)
abbrev sG:fq:=top 81
theorem Kq:aF ["_law_vector"] ["_law_vector"] (aC sG):=dJ
theorem Jy(F:cI K "_law_quarter" "_law_quarter" sG f fd)(TX:Txt mg):(~~~aS) cL 1 f fd ["_law_vector"] (aI K Tc):=by
 refine F.okU Kq (λhr=>(aE (aG (aJ (f2 (aJ (f2 (c7 (fX (fQ 0) aA)) (fX (fQ 0) aA))) (fQ 0)))))) ?_;rintro as Q ⟨x,y,rfl,q⟩;exact⟨rfl,q⟩
def IJ(k:Nat):Fr×Fr:=match k with
 |0=>((1,1),(0,1))|1=>((4,5),(3,5))|2=>((3,5),(4,5))|3=>((12,13),(5,13))|_=>((5,13),(12,13))
def Wg:Nat->Fr×Fr->Fr×Fr
 |0,p=>p
 |n+1,p=>let q:=Wg n p;(aQ q.2,q.1)
def un(k:Nat):Fr×Fr:=Wg (k/5%4) (IJ (k%5))
def UN(k:Nat):L2.T:=vc (un k).1 (un k).2
theorem L9(k:Nat)(h:k<20):bW (un k).1 (un k).2 4:=by
 have n0:∀j,j<5->bW (IJ j).1 (IJ j).2 4:=λj hj=>by
  have:j=0\/j=1\/j=2\/j=3\/j=4:=⋯
  have mk:∀a b c:Int,0<c->WD a.natAbs c.natAbs=1->WD b.natAbs c.natAbs=1->a.natAbs<2^4->b.natAbs<2^4->c.natAbs<2^4->a*a+b*b=c*c->bW (a,c) (b,c) 4:=λa b c c0 g1 g2 a4 b4 c4 e=>by
   refine⟨⟨⟨c0,g1⟩,⟨c0,g2⟩,qI a4 c4 ∅,qI b4 c4 ∅⟩,?_⟩;show(a:Rat)/(c:Rat)*((a:Rat)/(c:Rat))+(b:Rat)/(c:Rat)*((b:Rat)/(c:Rat))=1;have nz:(c:Rat)≠0:=by exact_mod_cast (show c≠0 by lia)
   have e':(a:Rat)*a+b*b=c*c:=by exact_mod_cast e
   grind
  obtain rfl|rfl|rfl|rfl|rfl:=this
  ·exact mk 1 0 1 ∅ ∅ ∅ ∅ ∅ ∅ ∅
  ·exact mk 4 3 5 ∅ ∅ ∅ ∅ ∅ ∅ ∅
  ·exact mk 3 4 5 ∅ ∅ ∅ ∅ ∅ ∅ ∅
  ·exact mk 12 5 13 ∅ ∅ ∅ ∅ ∅ ∅ ∅
  ·exact mk 5 12 13 ∅ ∅ ∅ ∅ ∅ ∅ ∅
 have nr:∀n p,bW p.1 p.2 4->bW (Wg n p).1 (Wg n p).2 4:=λn p hp=>by
  induction n with
  |zero=>exact hp
  |succ n ih=>exact ih.left
 exact nr _ _ (n0 _ (YV _ ∅))
theorem OB:∀j k:Fin 20,j≠k->un j.1≠un k.1:=by decide +kernel
def tUnitOf':dF:=λas Q=>∃k:Nat,as=[.v (.int (k:Int))]/\k<20/\Q (.v (UN k)) []
abbrev vY(P w K mg base):=(~~~Fn) 2 "_law_unit_at" ["_law_k"] (aI K tUnitOf')
abbrev sI:fq:=top 82
theorem jO:aF ["_law_k","_law_some","_law_found","_law_turn"] ["_law_k"] (aC sI):=dJ
theorem Ka(F:cI K "_law_unit_at" "_law_unit_at" sI f fd)(TX:Txt mg)(mw: ~~~eT):(~~~aS) cL 2 f fd ["_law_k"] (aI K tUnitOf'):=by
 refine F.okU jO (λhr=>(aB (fS 1 jO.nd (bX (fc (aJ (f2 (aJ (f2 aA aA)) (aJ (f2 aA aA)))) (f4 (aJ (f2 (aJ (f2 aA aA)) (aJ (f2 aA aA)))) (aJ (f2 (aJ (f2 aA aA)) (aJ (f2 aA aA)))) (aJ (f2 (aJ (f2 aA aA)) (aJ (f2 aA aA)))) (aJ (f2 (aJ (f2 aA aA)) (aJ (f2 aA aA)))))))) (aB (fS 2 jO.nd (fX (fv 1) (aR gX (fv 0) aA))) (aB (jS PassesOwn.never rfl (g9 rfl TX.n_range (f1 (aR gX (aR dU (fv 0) aA) aA))) (fG 3 jO.nd) (aE (fS 2 jO.nd (fK mw (f1 (fv 2)))))) (aE (aG (fv 2))))))) ?_;rintro as Q ⟨k,rfl,hk,q⟩;refine⟨by show(0:Int)<5;decide,?_⟩;have at0:∀j:Nat,j<5->dX [L2.T.tup [.tup [.int 1,.int 1],.tup [.int 0,.int 1]],.tup [.tup [.int 4,.int 5],.tup [.int 3,.int 5]],.tup [.tup [.int 3,.int 5],.tup [.int 4,.int 5]],.tup [.tup [.int 12,.int 13],.tup [.int 5,.int 13]],.tup [.tup [.int 5,.int 13],.tup [.int 12,.int 13]]] (j:Int)=oZ (vc (IJ j).1 (IJ j).2):=λj hj=>by
  have:j=0\/j=1\/j=2\/j=3\/j=4:=⋯
  rcases this with rfl|rfl|rfl|rfl|rfl<;>rfl
 have em:((k:Int)%5)=((k%5:Nat):Int):=rfl;show o1 (dX [L2.T.tup [.tup [.int 1,.int 1],.tup [.int 0,.int 1]],.tup [.tup [.int 4,.int 5],.tup [.int 3,.int 5]],.tup [.tup [.int 3,.int 5],.tup [.int 4,.int 5]],.tup [.tup [.int 12,.int 13],.tup [.int 5,.int 13]],.tup [.tup [.int 5,.int 13],.tup [.int 12,.int 13]]] ((k:Int)%5)) _;rw[em,at0 _ (YV _ ∅)];have ek:((k:Int).fdiv 5%4)=((k/5%4:Nat):Int):=by
  rw[XE _ ∅]
  lia
 refine⟨⟨∅,∅⟩,by show(0:Int)<4;decide,?_⟩;rw[ek];refine⟨⟨⋯,⋯⟩,?_⟩;rw[WO];refine cK (λi E=>∃v1 v3:Option U,E=[↑(k:Int),v1,⇑(vc (Wg i (IJ (k%5))).1 (Wg i (IJ (k%5))).2),v3]) ⟨_,_,rfl⟩ ?_ ?_
 ·rintro i t rest E hi ⟨v1,v3,rfl⟩ KK;exact⟨_,_,rfl,KK _ ⟨_,_,rfl⟩⟩
 ·rintro E ⟨v1,v3,rfl⟩;have el:(kC 0 (k/5%4)).length=k/5%4:=by simp[kC]
  rw[el];exact⟨rfl,q⟩
inductive Mv where
 |side (x y m:Fr)|arc (x y u v r:Fr) (l:Bool)
def iP:Mv->L2.T
 |.side x y m=>.tup [.str "side",vc x y,fr m]
 |.arc x y u v r l=>.tup [.str "arc",vc x y,vc u v,fr r,.str (mN l)]
def Dv(B:Nat)(x:Fr):Prop:=∃k:Int,val x*65=(k:Rat)/\k.natAbs<=B
def Wh(W:Nat)(x:Fr):Prop:=∃k:Int,val x=(k:Rat)/\k.natAbs<=W
theorem Dv.neg(n:bI x)(h:Dv B x):Dv B (aQ x):=by
 obtain⟨k,e,b⟩:=h;exact⟨-k,by rw[bV n];push_cast;grind,⋯⟩
theorem Dv.up(h:Dv B x)(k:B<=C):Dv C x:=let⟨j,e,b⟩:=h;⟨j,e,⋯⟩
theorem Dv.add(nx:bI x)(ny:bI y)(h:Dv B x)(k:Dv C y):Dv (B+C) (bH x y):=by
 obtain⟨i,e1,b1⟩:=h;obtain⟨j,e2,b2⟩:=k;exact⟨i+j,by rw[cN nx ny];push_cast;grind,⋯⟩
theorem Dv.sub(nx:bI x)(ny:bI y)(h:Dv B x)(k:Dv C y):Dv (B+C) (aT x y):=by
 obtain⟨i,e1,b1⟩:=h;obtain⟨j,e2,b2⟩:=k;exact⟨i-j,by rw[dE nx ny];push_cast;grind,⋯⟩
theorem Dv.mul(nx:bI x)(ny:bI y)(h:Dv B x)(k:Wh W y):Dv (B*W) (aN x y):=by
 obtain⟨i,e1,b1⟩:=h;obtain⟨j,e2,b2⟩:=k;refine⟨i*j,by rw[bB nx ny];push_cast;grind,?_⟩;rw[WK];exact ZK b1 b2
theorem Ts(k:Nat)(h:k<20):Dv 65 (un k).1/\Dv 65 (un k).2:=by
 have fD:∀k:Fin 20,(65%(un k.1).1.2=0/\(un k.1).1.1.natAbs<=(un k.1).1.2.natAbs/\0<(un k.1).1.2)/\(65%(un k.1).2.2=0/\(un k.1).2.1.natAbs<=(un k.1).2.2.natAbs/\0<(un k.1).2.2):=by decide +kernel
 have mk:∀x:Fr,(65%x.2=0/\x.1.natAbs<=x.2.natAbs/\0<x.2)->Dv 65 x:=λx zZ=>by
  obtain⟨h1,h2,h3⟩:=zZ;obtain⟨c,hc⟩:x.2∣65:=Int.dvd_of_emod_eq_zero h1;have nz:(x.2:Rat)≠0:=by exact_mod_cast (show x.2≠0 by lia)
  have hc':(65:Rat)=(x.2:Rat)*(c:Rat):=by exact_mod_cast hc
  refine⟨x.1*c,?_,?_⟩
  ·show(x.1:Rat)/(x.2:Rat)*65=_;rw[hc'];push_cast;grind
  ·rw[WK];have e:x.2.natAbs*c.natAbs=65:=by rw[<-WK,<-hc];rfl
   exact VZ (Nat.mul_le_mul_right _ h2) ⋯
 exact⟨mk _ (fD ⟨k,h⟩).1,mk _ (fD ⟨k,h⟩).2⟩
theorem M4{k:Int}(h:k.natAbs<=W):Wh W (k,1):=⟨k,d6 k,h⟩
def gJ:Mv->Prop
 |.side x y m=>bW x y 4/\bI m/\sz m<=4/\0<val m/\Dv 65 x/\Dv 65 y/\Wh 11 m
 |.arc x y u v r _=>bW x y 4/\bW u v 4/\¬(x=u/\y=v)/\bI r/\sz r<=3/\0<val r/\(Dv 65 x/\Dv 65 y)/\(Dv 65 u/\Dv 65 v)/\Wh 6 r
theorem FW:∀m:Mv,noL (iP m)=true
 |.side _ _ _=>rfl
 |.arc _ _ _ _ _ _=>rfl
theorem pL:∀ms:List Mv,bM (ms.map iP)=true
 |[]=>rfl
 |m::ms=>by show(noL (iP m)&&bM (ms.map iP))=true;rw[FW,pL ms];rfl
theorem Lo{k:Int}(h1:1<=k)(he:k.natAbs<2^e)(e0:0<e):bI (k,1)/\sz (k,1)<=e/\0<val (k,1):=by
 refine⟨aM k,qI he (show(1:Int).natAbs<2^e from Nat.one_lt_two_pow ⋯) e0,?_⟩;rw[d6]
 exact_mod_cast (show 0<k by lia)
theorem uQ(h:bI x):aN x (-1,1)=aQ x:=by
 have n1:bI ((-1,1):Fr):=aM (-1);refine bQ (aO h n1) (d5 h) ?_;rw[bB h n1,bV h,d6];grind
def OZ:Mv->Mv
 |.side x y m=>.side (aQ x) (aQ y) m
 |.arc x y u v r l=>.arc (aQ x) (aQ y) (aQ u) (aQ v) r l
theorem Jc(h:aQ x=aQ y):x=y:=by
 have h1:=congrArg Prod.fst h;have h2:=congrArg Prod.snd h;simp only[aQ]at h1 h2;exact Prod.ext ⋯ h2
theorem gJ.back:∀{m:Mv},gJ m->gJ (OZ m)
 |.side _ _ _,⟨u,a,b,c,g1,g2,w⟩=>⟨u.neg,a,b,c,g1.neg u.nv.x,g2.neg u.nv.y,w⟩
 |.arc _ _ _ _ _ _,⟨u,v,ne,a,b,c,g,h,w⟩=>⟨u.neg,v.neg,λz=>ne ⟨Jc z.1,Jc z.2⟩,a,b,c,⟨g.1.neg u.nv.x,g.2.neg u.nv.y⟩,⟨h.1.neg v.nv.x,h.2.neg v.nv.y⟩,w⟩
theorem lG(k:Nv x y f)(hb:bI b)(hs:sz b<=e):Nv (aN x b) (aN y b) (f+e):=by
 have:=k.sx;have:=k.sy;have m1:=cF k.x hb;have m2:=cF k.y hb;exact⟨aO k.x hb,aO k.y hb,⋯,⋯⟩
theorem Ft(h:Nv p q e)(k:Nv x y f):Nv (aT p x) (aT q y) (e+f+1):=by
 have:=h.sx;have:=h.sy;have:=k.sx;have:=k.sy;have m1:=lX h.x k.x;have m2:=lX h.y k.y;exact⟨dD h.x k.x,dD h.y k.y,⋯,⋯⟩
theorem Np(h:Nv p q e)(k:Nv x y f):Nv (bH p x) (bH q y) (e+f+1):=by
 have:=h.sx;have:=h.sy;have:=k.sx;have:=k.sy;have m1:=gZ h.x k.x;have m2:=gZ h.y k.y;exact⟨cH h.x k.x,cH h.y k.y,⋯,⋯⟩
def rA(a b:Fr):Mv->Pc
 |.side x y m=>.side (bH a (aN x m)) (bH b (aN y m))
 |.arc x y u v r l=>.arc (aT a (aN x r)) (aT b (aN y r)) (bH (aT a (aN x r)) (aN u r)) (bH (aT b (aN y r)) (aN v r)) l
theorem Nm(h:Nv a b e):∀{m:Mv},gJ m->rX (e+16) a b (rA a b m)
 |.side x y m,⟨u,nm,sm,pm,_⟩=>by
  have s:=lG u.nv nm sm;refine⟨(Np h s).up ⋯,val m,pm,?_⟩;unfold Mn;rw[cN h.x s.x,cN h.y s.y,bB u.nv.x nm,bB u.nv.y nm];have:=u.one;have e1:(val a+val x*val m-val a)*(val a+val x*val m-val a)+(val b+val y*val m-val b)*(val b+val y*val m-val b)=(val x*val x+val y*val y)*(val m*val m):=by grind
  rw[e1,this];grind
 |.arc x y u v r l,⟨uu,uv,ne,nr,sr,pr,_⟩=>by
  have s:=lG uu.nv nr sr;have t:=lG uv.nv nr sr;have m:=Ft h s;have z:=Np m t;have o1:=uu.one;have o2:=uv.one;refine⟨m.up ⋯,z.up ⋯,λc=>?_,val r,pr,?_,?_⟩
  ·have c1:=congrArg val c.1;have c2:=congrArg val c.2;rw[cN m.x t.x,dE h.x s.x,bB uu.nv.x nr,bB uv.nv.x nr]at c1;rw[cN m.y t.y,dE h.y s.y,bB uu.nv.y nr,bB uv.nv.y nr]at c2;have r0:val r≠0:=by grind
   have e1:val x=val u:=by
    have:(val u-val x)*val r=0:=by grind
    rcases Rat.mul_eq_zero.mp this with q|q<;>grind
   have e2:val y=val v:=by
    have:(val v-val y)*val r=0:=by grind
    rcases Rat.mul_eq_zero.mp this with q|q<;>grind
   exact ne ⟨bQ uu.nv.x uv.nv.x e1,bQ uu.nv.y uv.nv.y e2⟩
  ·unfold Mn;rw[dE h.x s.x,dE h.y s.y,bB uu.nv.x nr,bB uu.nv.y nr];have e1:(val a-(val a-val x*val r))*(val a-(val a-val x*val r))+(val b-(val b-val y*val r))*(val b-(val b-val y*val r))=(val x*val x+val y*val y)*(val r*val r):=by grind
   rw[e1,o1];grind
  ·unfold Mn;rw[cN m.x t.x,cN m.y t.y,dE h.x s.x,dE h.y s.y,bB uu.nv.x nr,bB uu.nv.y nr,bB uv.nv.x nr,bB uv.nv.y nr];have e1:(val a-val x*val r+val u*val r-(val a-val x*val r))*(val a-val x*val r+val u*val r-(val a-val x*val r))+(val b-val y*val r+val v*val r-(val b-val y*val r))*(val b-val y*val r+val v*val r-(val b-val y*val r))=(val u*val u+val v*val v)*(val r*val r):=by grind
   rw[e1,o2];grind
theorem ND{D k:Int}(n:bI x)(hD:0<D)(q:val x*(D:Rat)=(k:Rat))(b1:D.natAbs<2^e)(b2:k.natAbs<2^e)(e0:0<e):sz x<=e:=by
 have v:=DC n;have q:x.1*D=k*x.2:=by
  have:((x.1:Rat))*(D:Rat)=(k:Rat)*(x.2:Rat):=by rw[<-v,<-q];grind
  exact_mod_cast this
 have d1:=n.d;have q':x.1.natAbs*D.natAbs=k.natAbs*x.2.natAbs:=by rw[<-WK,<-WK,q]
 have dv:x.2.natAbs∣D.natAbs:=by
  have:x.2.natAbs∣x.1.natAbs*D.natAbs:=⟨k.natAbs,by rw[q'];exact Nat.mul_comm _ _⟩;exact(YW.symm n.g).dvd_of_dvd_mul_left this
 have le:=Nat.le_of_dvd ⋯ dv;have l1:x.1.natAbs<=k.natAbs:=by
  obtain c|c:=WG k.natAbs x.1.natAbs
  ·have a1:(k.natAbs+1)*D.natAbs<=x.1.natAbs*D.natAbs:=Nat.mul_le_mul_right _ c;have a2:k.natAbs*x.2.natAbs<=k.natAbs*D.natAbs:=Nat.mul_le_mul_left _ le;have a3:(k.natAbs+1)*D.natAbs=k.natAbs*D.natAbs+D.natAbs:=by rw[Nat.add_mul,Nat.one_mul]
   have a4:0<D.natAbs:=⋯
   lia
  ·exact c
 exact qI (VT l1 b2) (VT le b1) e0
theorem Dv.sz(n:bI x)(h:Dv B x)(hB:B<2^14):sz x<=14:=by
 obtain⟨k,e,b⟩:=h;exact ND (D:=65) (k:=k) n ∅ (by rw[<-e];norm_cast) ∅ ⋯ ∅
def St(a b:Fr):Prop:=Nv a b 3/\Dv 260 a/\Dv 260 b
theorem FV(h:Nv a b e)(da:Dv B a)(db:Dv B b)(hB:B+800<2^14):∀{m:Mv},gJ m->rX 14 a b (rA a b m)/\Dv (B+780) (rA a b m).px/\Dv (B+780) (rA a b m).py
 |.side x y m,ok=>by
  obtain⟨u,nm,sm,pm,gx,gy,w⟩:=id ok;have o:=Nm h ok;have s:=lG u.nv nm sm;have d1:=(da.add h.x s.x (gx.mul u.nv.x nm w)).up (show _<=B+780 by lia);have d2:=(db.add h.y s.y (gy.mul u.nv.y nm w)).up (show _<=B+780 by lia);exact⟨⟨⟨o.1.x,o.1.y,d1.sz o.1.x ⋯,d2.sz o.1.y ⋯⟩,o.2⟩,d1,d2⟩
 |.arc x y u v r l,ok=>by
  obtain⟨uu,uv,ne,nr,sr,pr,gx,gu,w⟩:=id ok;have o:=Nm h ok;have s:=lG uu.nv nr sr;have t:=lG uv.nv nr sr;have m:=Ft h s;have c1:=da.sub h.x s.x (gx.1.mul uu.nv.x nr w);have c2:=db.sub h.y s.y (gx.2.mul uu.nv.y nr w);have d1:=(c1.add m.x t.x (gu.1.mul uv.nv.x nr w)).up (show _<=B+780 by lia);have d2:=(c2.add m.y t.y (gu.2.mul uv.nv.y nr w)).up (show _<=B+780 by lia);exact⟨⟨⟨o.1.x,o.1.y,c1.sz o.1.x ⋯,c2.sz o.1.y ⋯⟩,⟨o.2.1.x,o.2.1.y,d1.sz o.2.1.x ⋯,d2.sz o.2.1.y ⋯⟩,o.2.2⟩,d1,d2⟩
def CI:dF:=λas Q=>∃(xs:List L2.T)(n:Int)(w:Bool),as=[.b xs,.v (.bl w)]/\Bx xs n/\n<=900000/\∀m ys,gJ m->Bx ys (n+5)->bM ys=true->Q (.v (iP m)) ys
abbrev mW(P w K mg base):=(~~~Fn) 3 "_law_one_move" ["_law_box_here","_law_arcs"] (aI K CI)
abbrev pY:fq:=top 83
theorem kD:aF ["_law_box_here","_law_arcs","_law_turn","_law_kind","_law_many","_law_first","_law_more"] ["_law_box_here","_law_arcs"] (aC pY):=dJ
theorem Gb(F:cI K "_law_one_move" "_law_one_move" pY f fd)(TX:Txt mg)(og: ~~~qO)(tq: ~~~vY):(~~~aS) cL 3 f fd ["_law_box_here","_law_arcs"] (aI K CI):=by
 refine F.okU kD (λhr=>(aB (dZ (i:=3) (j:=4) rfl kD.nd rfl rfl ∅ rfl rfl (f2 (fB og (f2 (fv 0) aA)) (a7 cE aA (fB og (f2 (fv 0) aA)))) rfl) (aB (dZ (i:=5) (j:=6) rfl kD.nd rfl rfl ∅ rfl rfl (f2 (fB og (f2 (fv 0) aA)) (a7 cE aA (fB og (f2 (fv 0) aA)))) rfl) (aB (bP (Mu (yR (Yo (gH (fv 1))) (rS (fP zB (fv 3) aA)))) (aE (aG (aJ (f3 aY (fK tq (f1 (fv 5))) (aJ (f2 (fv 4) aA)))))) bE) (aB (fS 2 kD.nd (fX (bX (f2 aY aY)) (fB og (f2 (fv 0) aA)))) (aE (aG (aJ (fc aY (f4 (fK tq (f1 (fv 5))) (fK tq (f1 (aR gX (a7 cE (fv 5) (fv 6)) aA))) (aJ (f2 (a7 cE aA (aR dU (fv 4) aA)) aA)) (fv 2))))))))))) ?_;rintro as Q ⟨xs,n,w,rfl,hB,hn,q⟩;refine⟨xs,3,n,rfl,hB,⋯,∅,∅,λkd y1 k0 k1 b1=>?_⟩;refine⟨y1,11,n+1,rfl,b1,⋯,∅,∅,λmn y2 m0 m1 b2=>?_⟩;refine⟨y2,20,n+1+1,rfl,b2,⋯,∅,∅,λfs y3 f0 f1 b3=>?_⟩;refine⟨y3,19,n+1+1+1,rfl,b3,⋯,∅,∅,λmo y4 o0 o1' b4=>?_⟩;obtain⟨f,rfl⟩:∃f:Nat,fs=(f:Int):=⟨fs.toNat,⋯⟩;have hf:f<20:=⋯
 obtain⟨w1,w2,w3⟩:=Lo (k:=1+mn) (e:=4) ⋯ ⋯ ∅;obtain⟨A,B,C,rfl,_⟩:=id b4;have one:Q (.v (iP (.side (un f).1 (un f).2 (1+mn,1)))) [.int A,.int B,.int C]:=q (.side (un f).1 (un f).2 (1+mn,1)) _ ⟨L9 f hf,w1,w2,w3,(Ts f hf).1,(Ts f hf).2,M4 ⋯⟩ (b4.mono ⋯) rfl;cases w with
 |false=>
  exact⟨f,rfl,hf,rfl,one⟩
 |true=>
  show if decide (0<kd)=true then _ else _
  by_cases c:0<kd
  ·rw[oY c,oV rfl];exact⟨f,rfl,hf,rfl,one⟩
  ·rw[oX c,oW ∅];refine⟨_,2,n+1+1+1+1,rfl,b4,⋯,∅,∅,λtn y5 t0 t1 b5=>?_⟩;obtain⟨A,B,C,rfl,_⟩:=id b5;obtain⟨l,hl⟩:∃l,dX [L2.T.str (VW "left"),.str (VW "right")] tn=oZ (.str (mN l)):=by
    have:tn=0\/tn=1:=⋯
    obtain rfl|rfl:=this
    ·exact⟨true,rfl⟩
    ·exact⟨false,rfl⟩
   show o1 (dX [L2.T.str (VW "left"),.str (VW "right")] tn) _;rw[hl];refine⟨f,rfl,hf,by show(0:Int)<20;decide,?_⟩;obtain⟨g,hg⟩:∃g:Nat,((f:Int)+(1+mo))%20=(g:Int):=⟨(((f:Int)+(1+mo))%20).toNat,⋯⟩;have aC2:g<20:=⋯
   have hgf:f≠g:=⋯
   rw[hg];refine⟨g,rfl,aC2,⟨∅,∅⟩,?_⟩;have er:(1+mn).fdiv 2=(1+mn)/2:=XE _ ∅;rw[er];obtain⟨r1,r2,r3⟩:=Lo (k:=1+(1+mn)/2) (e:=3) ⋯ ⋯ ∅;exact⟨rfl,q (.arc (un f).1 (un f).2 (un g).1 (un g).2 (1+(1+mn)/2,1) l) _ ⟨L9 f hf,L9 g aC2,λz=>OB ⟨f,hf⟩ ⟨g,aC2⟩ (by simpa using hgf) (Prod.ext z.1 z.2),r1,r2,r3,Ts f hf,Ts g aC2,M4 ⋯⟩ (b5.mono ⋯) rfl⟩
def CJ:dF:=λas Q=>∃m:Mv,as=[.v (iP m)]/\gJ m/\Q (.v (iP (OZ m))) []
abbrev Ie(P w K mg base):=(~~~Fn) 4 "_law_back" ["_law_move"] (aI K CJ)
abbrev Ha:fq:=top 85
theorem G1:aF ["_law_move"] ["_law_move"] (aC Ha):=dJ
theorem Zv(F:cI K "_law_back" "_law_back" Ha f fd)(TX:Txt mg)(ml: ~~~c8):(~~~aS) cL 4 f fd ["_law_move"] (aI K CJ):=by
 refine F.okU G1 (λhr=>(aB (bP (eJ rfl hr (fQ 0) aY (aZ _)) (aE (aG (aJ (f3 aY (fK ml (f2 (fQ 0) (aJ (f2 (c7 aA) aA)))) (fQ 0))))) bE) (aE (aG (aJ (fc aY (f4 (fK ml (f2 (fQ 0) (aJ (f2 (c7 aA) aA)))) (fK ml (f2 (fQ 0) (aJ (f2 (c7 aA) aA)))) (fQ 0) (fQ 0)))))))) ?_;rintro as Q ⟨m,rfl,h,q⟩;have n1:bI ((-1,1):Fr):=aM (-1);have s1:sz ((-1,1):Fr)<=1:=qI (e:=1) ∅ ∅ ∅;cases m with
 |side x y m=>
  refine⟨UU _,?_⟩;refine⟨x,y,(-1,1),4,rfl,h.1.nv,n1,⋯,rfl,?_⟩;rw[uQ h.1.nv.x,uQ h.1.nv.y];exact q
 |arc x y u v r l=>
  refine⟨UU _,?_⟩;refine⟨x,y,(-1,1),4,rfl,h.1.nv,n1,⋯,u,v,(-1,1),4,rfl,h.2.1.nv,n1,⋯,rfl,?_⟩;rw[uQ h.1.nv.x,uQ h.1.nv.y,uQ h.2.1.nv.x,uQ h.2.1.nv.y];exact q
def cJ:Fr->Fr->List Mv->List Pc
 |_,_,[]=>[]
 |a,b,m::ms=>rA a b m::cJ (rA a b m).px (rA a b m).py ms
theorem fV:∀(ms:List Mv)(a b:Fr),(cJ a b ms).length=ms.length
 |[],_,_=>rfl
 |m::ms,a,b=>congrArg (· + 1) (fV ms _ _)
theorem Kc:∀(ms:List Mv)(a b:Fr)(m:Mv),cJ a b (ms++[m])=cJ a b ms++[rA (cV a (cJ a b ms)) (cW b (cJ a b ms)) m]
 |[],_,_,_=>rfl
 |n::ms,a,b,m=>congrArg (rA a b n::·) (Kc ms _ _ m)
def wM:Mv->Fr
 |.side _ _ m=>m
 |.arc _ _ _ _ r _=>r
def bU:Mv->Fr×Fr
 |.side x y _=>(x,y)
 |.arc x y _ _ _ l=>N4 l x y
def eU:Mv->Fr×Fr
 |.side x y _=>(x,y)
 |.arc _ _ u v _ l=>N4 l u v
def K2:dF:=λas Q=>∃(a b:Fr)(ms:List Mv),as=[.v (vc a b),.v (.lst (ms.map iP))]/\St a b/\(∀m∈ms,gJ m)/\ms.length<=12/\Q (.v (cG a b (cJ a b ms))) []
abbrev pA(P w K mg base):=(~~~Fn) 4 "_law_path_of" ["_law_start","_law_moves"] (aI K K2)
abbrev sE:fq:=top 84
theorem hJ:aF ["_law_start","_law_moves","_law_move","_law_at","_law_pieces","_law_middle"] ["_law_start","_law_moves"] (aC sE):=dJ
theorem Jw(F:cI K "_law_path_of" "_law_path_of" sE f fd)(TX:Txt mg)(qq: ~~~qL)(we: ~~~Dr)(ml: ~~~c8):(~~~aS) cL 4 f fd ["_law_start","_law_moves"] (aI K K2):=by
 refine F.okU hJ (λhr=>(aB (dZ (i:=3) (j:=4) rfl hJ.nd rfl rfl ∅ rfl rfl (f2 (fv 0) (bX bF)) rfl) (aB (jS PassesOwn.never rfl (gT rfl (fv 1)) (fG 2 hJ.nd) (aE (bP (eJ rfl hr (fQ 2) aY (aZ _)) (aB (fS 3 hJ.nd (fK qq (f2 (fv 3) (fK ml (f2 (fQ 2) (fQ 2)))))) (aE (dY (eB rfl (fv 4) (f1 (aJ (f2 aY (fv 3)))))))) (aB (fS 5 hJ.nd (fK we (f2 (fv 3) (fK ml (f2 (fQ 2) (fQ 2)))))) (aB (fS 3 hJ.nd (fK qq (f2 (fv 5) (fK ml (f2 (fQ 2) (fQ 2)))))) (aE (dY (eB rfl (fv 4) (f1 (aJ (f4 aY (fv 5) (fv 3) (fQ 2)))))))))))) (aE (aG (aJ (f2 (fv 0) (tR rfl rfl TX.n_tuple (f1 (fv 4)))))))))) ?_;rintro as Q ⟨a,b,ms,rfl,⟨nv,sa,sb⟩,hm,hl,q⟩;refine cK (λi E=>∃(v2 v5:Option U)(ps:List Pc)(hx hy:Fr),E=[⇑(vc a b),⇑(.lst (ms.map iP)),v2,⇑(vc hx hy),↥(ps.map kB),v5]/\ps=cJ a b (ms.take i)/\hx=cV a ps/\hy=cW b ps/\Nv hx hy (3+16*i)) ⟨_,_,[],a,b,rfl,rfl,rfl,rfl,nv⟩ ?_ ?_
 ·rintro i t rest E hi ⟨v2,v5,ps,hx,hy,rfl,hp,ex,ey,hv⟩ KK;rw[UQ]at hi;cases hq:ms[i]? with
  |none=>rw[hq]at hi;cases hi
  |some m=>
   rw[hq]at hi;cases hi;have aNN:i<ms.length:=(UO.mp hq).1;have ok:=hm m (UR hq);have op:=Nm hv ok;have nx:=(rX.nv op).up (show 3+16*i+16<=3+16*(i+1) by lia);have pl:ps.length<=12:=by rw[hp,fV,WE];lia
   have tk:cJ a b (ms.take (i+1))=ps++[rA hx hy m]:=by rw[XT,hq,YO,Kc,<-hp,<-ex,<-ey]
   have done:∀v2 v5,∃(v2' v5':Option U)(ps':List Pc)(hx' hy':Fr),[⇑(vc a b),⇑(.lst (ms.map iP)),v2,⇑(vc (rA hx hy m).px (rA hx hy m).py),↥(ps.map kB++[kB (rA hx hy m)]),v5]=[⇑(vc a b),⇑(.lst (ms.map iP)),v2',⇑(vc hx' hy'),oZ (U.o false (ps'.map kB)),v5']/\ps'=cJ a b (ms.take (i+1))/\hx'=cV a ps'/\hy'=cW b ps'/\Nv hx' hy' (3+16*(i+1)):=λv2 v5=>
    ⟨v2,v5,ps++[rA hx hy m],_,_,by rw[VE];rfl,tk.symm,(rV ps a _).symm,(rW ps b _).symm,nx⟩
   have lp:(ps.map kB++[kB (rA hx hy m)]).length<=9000:=by simp;lia
   cases m with
   |side x y m=>
    refine⟨UU _,?_⟩;have s:=lG ok.1.nv ok.2.1 ok.2.2.1;have sm:=ok.2.2.1;refine⟨x,y,m,4,rfl,ok.1.nv,ok.2.1,⋯,?_⟩;refine⟨hx,hy,_,_,3+16*i,4+4,rfl,hv,s,⋯,?_⟩;exact⟨lp,KK _ (done _ _)⟩
   |arc x y u v r l=>
    obtain⟨o1,o2,o3,o4,o5,o6⟩:=id ok;refine⟨UU _,?_⟩;have s:=lG o1.nv o4 o5;have t:=lG o2.nv o4 o5;refine⟨x,y,r,4,rfl,o1.nv,o4,⋯,?_⟩;refine⟨hx,hy,_,_,3+16*i,4+3,rfl,hv,s,⋯,?_⟩;refine⟨u,v,r,4,rfl,o2.nv,o4,⋯,?_⟩;refine⟨_,_,_,_,3+16*i+(4+3)+1,4+3,rfl,Ft hv s,t,⋯,?_⟩;exact⟨lp,KK _ (done _ _)⟩
 ·rintro E ⟨v2,v5,ps,hx,hy,rfl,hp,ex,ey,hv⟩;rw[UX,YJ]at hp;rw[<-hp]at q;exact⟨Zp a b ps (Jo ps),q⟩
theorem Q9{Fa Fb:FE}{κ:L2.R->En->Prop}(R:L2.R->Prop)(ha:c=true->∀κ',(∀u,R u->κ' u E)->Fa E κ')(hb:c=false->∀κ',(∀u,R u->κ' u E)->Fb E κ')(hk:∀u,R u->κ u E):if c=true then Fa E κ else Fb E κ:=by
 cases c with
 |true=>exact ha rfl κ hk
 |false=>exact hb rfl κ hk
theorem Jj(h:∀t∈L,∃m,t=iP m/\gJ m):∃ms:List Mv,L=ms.map iP/\∀m∈ms,gJ m:=by
 induction L with
 |nil=>exact⟨[],rfl,by simp⟩
 |cons t L ih=>
  obtain⟨m,e,ok⟩:=h t (by simp);obtain⟨ms,e2,ok2⟩:=ih λt ht=>h t (UW _ ht);refine⟨m::ms,by rw[e,e2];rfl,λm' hm'=>?_⟩;obtain rfl|hm':=UZ.mp hm'
  ·exact ok
  ·exact ok2 m' hm'
theorem xD(h:∀t∈L,∃m,t=iP m/\gJ m):bM L=true:=by
 obtain⟨ms,rfl,_⟩:=Jj h;exact pL ms
theorem Ku{s t:Int}(s0:0<=s)(s1:s<9)(t0:0<=t)(t1:t<9):St (s-4,1) (t-4,1):=
  ⟨⟨aM _,aM _,qI (show(s-4).natAbs<2^3 by lia) (show(1:Int).natAbs<2^3 by decide) ∅,qI (show(t-4).natAbs<2^3 by lia) (show(1:Int).natAbs<2^3 by decide) ∅⟩,
   ⟨(s-4)*65,by rw[d6];push_cast;grind,⋯⟩,⟨(t-4)*65,by rw[d6];push_cast;grind,⋯⟩⟩
structure Pm(a b:Fr)(ms:List Mv):Prop where
 st:St a b
 ok:∀m∈ms,gJ m
 ne:ms≠[]
 len:ms.length<=12
def BS:dF:=λas Q=>∃(xs:List L2.T)(n k:Int),as=[.b xs,.v (.int k)]/\Bx xs n/\n<=800000/\1<=k/\k<=9/\∀ms ys,(∀m∈ms,gJ m)->ms≠[]->ms.length<=10->Bx ys (n+70)->bM ys=true->Q (.l (ms.map iP)) ys
abbrev rF(P w K mg base):=(~~~Fn) 5 "_law_all_moves" ["_law_box_here","_law_most"] (aI K BS)
abbrev nE:fq:=top 86
theorem jE:aF ["_law_box_here","_law_most","_law_found","_law_rest","_law_way","_law_many"] ["_law_box_here","_law_most"] (aC nE):=dJ
theorem Az(F:cI K "_law_all_moves" "_law_all_moves" nE f fd)(TX:Txt mg)(og: ~~~qO)(rg: ~~~mW)(zp: ~~~Ie):(~~~aS) cL 5 f fd ["_law_box_here","_law_most"] (aI K BS):=by
 refine F.okU jE (λhr=>(aB (dZ (i:=4) (j:=5) rfl jE.nd rfl rfl ∅ rfl rfl (f2 (fB og (f2 (fv 0) aA)) (a7 cE aA (fB og (f2 (fv 0) (fv 1))))) rfl) (aB (xA (i:=2) (N':=["_law_turn","_law_box_here"]) (t:=1) (cap:=[(0,true)]) jE.nd rfl (WA rfl) rfl rfl (bD.of rfl) rfl ∅ (g9 rfl TX.n_range (f1 (pE (fP kT (fv 4) aA) (fv 5) (a7 cE aA (aR dU (fv 5) aA))))) (λ_ _ _ _=>(fH 0)) (λ_ _ _ _=>(fB rg (f2 (fv 1) (nZ rfl hr (fv 0) aA (aZ _)))))) (aB (bP (fP kT (fv 4) aA) (aE (aG (fv 2))) bE) (aB (fS 3 jE.nd (iW (fv 2) (fT (N':=["_law_move"]) (t:=1) (cap:=[]) rfl (bD.of rfl) rfl ∅ (gT rfl (fv 2)) (λ_ _ _ _=>(fH 0)) (λ_ _ _ _=>(fK zp (f1 (fv 0))))))) (aB (bP (eJ rfl hr (fv 4) aA (aZ _)) (aE (aG (fv 3))) bE) (aE (aG (Yd (N':=["_law_turn","_law_rest","_law_box_here"]) (t:=1) (cap:=[(3,true),(0,true)]) rfl (bD.of rfl) ∅ (g9 rfl TX.n_range (f1 (eD rfl rfl TX.n_len (f1 (fv 3))))) (λ_ _ _ _=>(Yh (i:=0) (show ZY (["_law_turn","_law_rest","_law_box_here"]:List Str) by decide +kernel) rfl (WA rfl) (WN rfl))) (λ_ _ _ _=>(EF rfl (fv 1) (f1 (fB og (f2 (fv 2) (eD rfl rfl TX.n_len (f1 (fv 1))))))))))))))))) ?_;rintro as Q ⟨xs,n,k,rfl,hB,hn,hk1,hk9,q⟩;refine⟨xs,4,n,rfl,hB,⋯,∅,∅,λway y1 w0 w1 b1=>?_⟩;refine⟨y1,k,n+1,rfl,b1,⋯,⋯,⋯,λmn y2 m0 m1 b2=>?_⟩;obtain⟨A0,B0,c0,rfl,_⟩:=id b2;have ef:(1+mn).fdiv 2=(1+mn)/2:=XE _ ∅;have xv:∀m:Nat,(kC 0 m).length=m:=λm=>by simp[kC]
 show if decide (way<2)=true then _ else _;refine Q9 (λu=>∃c:Int,vl [oZ (U.o true [L2.T.int A0,.int B0,.int c0]),↑k,none,none,↑way,↑(1+mn)] u=oZ (.int c)/\1<=c/\c<=9/\(¬way<2->c<=5)) ?_ ?_ ?_
 ·intro hw κ' J;exact J (.p (.int (1+mn))) ⟨1+mn,rfl,⋯,⋯,λz=>absurd (of_decide_eq_true hw) z⟩
 ·intro hw κ' J;refine⟨⟨∅,∅⟩,?_⟩;rw[ef];exact J _ ⟨1+(1+mn)/2,rfl,⋯,⋯,λ_=>⋯⟩
 rintro u ⟨c,hu,c1,c9,c5⟩;show i1 (vl [oZ (U.o true [L2.T.int A0,.int B0,.int c0]),↑k,none,none,↑way,↑(1+mn)] u) _;rw[hu];refine⟨⟨⋯,⋯⟩,rfl,?_⟩;refine b9 (λi E=>∃(w0:Option U)(A B c:Int)(L:List L2.T),E=[w0,oZ (.o true [.int A,.int B,.int c]),↥L]/\Bx [.int A,.int B,.int c] (n+4+5*i)/\L.length=i/\∀t∈L,∃m,t=iP m/\gJ m) ⟨none,A0,B0,c0,[],rfl,b2.mono ⋯,rfl,by simp⟩ ?_ ?_
 ·rintro i t rest E hi ⟨w0,A,B,c',L,rfl,hb,hL,hU⟩ KK;obtain⟨hin,rfl⟩:=pO hi;refine⟨UU _,_,_,_,rfl,hb,⋯,λm ys om b' nl'=>?_⟩;obtain⟨A',B',c'',rfl,_⟩:=id b';refine⟨by show L.length<9000;lia,KK _ ⟨_,A',B',c'',L++[iP m],rfl,b'.mono ⋯,by rw[UT,hL];rfl,λt ht=>?_⟩⟩;obtain ht|ht:=VX.mp ht
  ·exact hU t ht
  ·rw[VS]at ht;exact⟨m,ht,om⟩
 rintro E ⟨w0,A,B,cc,L,rfl,hb,hL,hU⟩;rw[xv]at hL hb;have hLc:(L.length:Int)=c:=⋯
 replace hb:=hb.mono (show n+4+5*(c.toNat:Int)<=n+50 by lia);refine⟨xD hU,?_⟩;show if decide (way<2)=true then _ else _
 by_cases hw:way<2
 ·rw[oY hw,oV rfl];obtain⟨ms,rfl,om⟩:=Jj hU;rw[UX]at hLc;exact⟨pL ms,q ms _ om (by intro z;rw[z]at hLc;simp at hLc;lia) ⋯ (hb.mono ⋯) rfl⟩
 ·rw[oX hw,oW ∅];refine⟨rfl,?_⟩;refine b9 (λi E=>∃(w0:Option U)(M:List L2.T),E=[w0,↥M]/\M.length=i/\∀t∈M,∃m,t=iP m/\gJ m) ⟨none,[],rfl,rfl,by simp⟩ ?_ ?_
  ·rintro i t rest E hi ⟨w0,M,rfl,hM,hV⟩ KK;obtain⟨m,rfl,om⟩:=hU t (UR hi);have rk:=(UO.mp hi).1;refine⟨m,rfl,om,by show M.length<9000;lia,KK _ ⟨_,M++[iP (OZ m)],rfl,by rw[UT,hM];rfl,λt ht=>?_⟩⟩;obtain ht|ht:=VX.mp ht
   ·exact hV t ht
   ·rw[VS]at ht;exact⟨OZ m,ht,om.back⟩
  rintro E ⟨w0,M,rfl,hM,hV⟩;refine⟨xD hV,by show L.length+M.length<=9000;lia,?_⟩;have hW:∀t∈L++M,∃m,t=iP m/\gJ m:=λt ht=>(VX.mp ht).elim (hU t) (hV t);have hN:(L++M).length<=10:=by rw[UT];have:=c5 hw;lia
  have hN1:1<=(L++M).length:=by rw[UT];lia
  generalize L++M=W at hW hN hN1⊢;refine⟨UU _,?_⟩;show if(way==3)=true then _ else _
  by_cases h3:way=3
  ·rw[oV (by simpa using h3)];obtain⟨ms,rfl,om⟩:=Jj hW;rw[UX]at hN hN1;exact⟨pL ms,q ms _ om (by intro z;rw[z]at hN1;simp at hN1) hN (hb.mono ⋯) rfl⟩
  ·rw[oW (by simpa using h3)];refine⟨⟨⋯,⋯⟩,rfl,?_⟩;refine b9 (λi E=>∃(w0:Option U)(A B c:Int)(Lf R:List L2.T),E=[w0,oZ (.o true Lf),oZ (.o true [.int A,.int B,.int c]),↥R]/\Bx [.int A,.int B,.int c] (n+50+i)/\Lf.length+i=W.length/\R.length=i/\(∀t∈Lf,∃m,t=iP m/\gJ m)/\∀t∈R,∃m,t=iP m/\gJ m) ⟨none,A,B,cc,W,[],rfl,by simpa using hb,rfl,rfl,hW,by simp⟩ ?_ ?_
   ·rintro i t rest E hi ⟨w0,A,B,c',Lf,R,rfl,hb,hl,hR,hU,hV⟩ KK;obtain⟨hin,rfl⟩:=pO hi;rw[WO]at hin;refine⟨_,(Lf.length:Int),_,rfl,hb,⋯,⋯,⋯,λr ys r0 r1 b'=>?_⟩;obtain⟨A',B',c'',rfl,_⟩:=id b';have hr:r.toNat<Lf.length:=⋯
    refine⟨r0,by show Lf.length<=9000;lia,?_⟩;show o1 (Lf[r.toNat]?) _;rw[UP hr];have he:(Lf.eraseIdx r.toNat).length+1=Lf.length:=by rw[List.length_eraseIdx_of_lt hr];lia
    refine⟨by show R.length<9000;lia,KK _ ⟨_,A',B',c'',Lf.eraseIdx r.toNat,R++[Lf[r.toNat]],rfl,b'.mono ⋯,⋯,by rw[UT,hR];rfl,λt ht=>hU t (List.mem_of_mem_eraseIdx ht),λt ht=>?_⟩⟩;obtain ht|ht:=VX.mp ht
    ·exact hV t ht
    ·rw[VS]at ht;rw[ht];exact hU _ (XN hr)
   rintro E ⟨w0,A,B,c',Lf,R,rfl,hb,hl,hR,hU,hV⟩;rw[WO,xv]at hl hR hb;obtain rfl:Lf=[]:=WX ⋯;refine⟨xD hV,?_⟩;obtain⟨ms,rfl,om⟩:=Jj hV;rw[UX]at hR;exact⟨pL ms,q ms _ om (by intro z;rw[z]at hR;simp at hR;lia) ⋯ (hb.mono ⋯) rfl⟩
def Qc:dF:=λas Q=>∃(xs:List L2.T)(n k:Int),as=[.b xs,.v (.int k)]/\Bx xs n/\n<=700000/\1<=k/\k<=9/\∀a b ms ys,Pm a b ms->Bx ys (n+80)->Q (.v (.tup [cG a b (cJ a b ms),.lst (ms.map iP)])) ys
abbrev zQ:fq:=top 87
theorem vL:aF ["_law_box_here","_law_most","_law_start","_law_found"] ["_law_box_here","_law_most"] (aC zQ):=dJ
theorem Vq(F:cI K "_law_drawn" "_law_drawn" zQ f fd)(TX:Txt mg)(og: ~~~qO)(um: ~~~rF)(sj: ~~~pA):(~~~aS) cL 6 f fd ["_law_box_here","_law_most"] (wF K Qc):=by
 refine F.okL vL ?len (λqp A outer s H E hr=>(aB (Ms (i:=2) vL.nd rfl (WA rfl) (aJ (fc (aJ (fc (a7 iY (fA og hr ⋯ rfl (fc (fv 0) (fc aA bF))) aA) (fc aA bF))) (fc (aJ (fc (a7 iY (fA og hr ⋯ rfl (fc (fv 0) (fc aA bF))) aA) (fc aA bF))) bF))))
 (aB (Ms (i:=3) vL.nd rfl (WA rfl) (fA um hr ⋯ rfl (fc (fv 0) (fc (fv 1) bF))))
 (aE (aG (Em (fc (tQ sj hr ⋯ rfl (fc (fv 2) (fc (fv 3) bF))) (fc (fv 3) bF)))))))) ?rd
 case len=>rintro as Q ⟨xs,n,k,rfl,_⟩;rfl
 case rd=>
  rintro as Q ⟨xs,n,k,rfl,hB,hn,hk1,hk9,q⟩;refine⟨xs,9,n,rfl,hB,⋯,∅,∅,λsx y1 s0 s1 b1=>?_⟩;refine⟨y1,9,n+1,rfl,b1,⋯,∅,∅,λsy y2 t0 t1 b2=>?_⟩;have nvs:=Ku s0 s1 t0 t1;refine⟨y2,n+1+1,k,rfl,b2,⋯,hk1,hk9,λms ys om nm lm b3 nl=>?_⟩;obtain⟨A,B,C,rfl,_⟩:=id b3;refine⟨_,_,ms,rfl,nvs,om,⋯,?_⟩;exact q _ _ ms _ ⟨nvs,om,nm,⋯⟩ (b3.mono ⋯)
structure Fw(p:Fr):Prop where
 n:bI p
 s:sz p<=14
 pos:0<val p
theorem Mx{n d:Int}(h1:1<=n)(h2:n<=9999)(h3:1<=d)(h4:d<=999):Fw (jT n d)/\d≠0/\d.natAbs<2^8000:=by
 have nz:d≠0:=⋯
 have b:∀{z:Int},z.natAbs<=9999->z.natAbs<2^14:=λh=>VT h ∅;refine⟨⟨iG nz,nT nz (b ⋯) (b ⋯) ∅,?_⟩,nz,uV (e:=14) (b ⋯) ∅⟩;rw[gV nz];have hn:(0:Rat)<(n:Rat):=by exact_mod_cast (show(0:Int)<n by lia)
 have hd:(0:Rat)<(d:Rat):=by exact_mod_cast (show(0:Int)<d by lia)
 exact bZ hd (by
   have:(n:Rat)/(d:Rat)*(d:Rat)=n:=by grind
   rw[this];exact hn)
def K8:dF:=λas Q=>∃(xs:List L2.T)(n:Int),as=[.b xs]/\Bx xs n/\n<=900000/\∀p ys,Fw p->Bx ys (n+5)->bM ys=true->Q (.v (fr p)) ys
abbrev Bm(P w K mg base):=(~~~Fn) 2 "_law_width" ["_law_box_here"] (aI K K8)
abbrev zU:fq:=top 88
theorem vN:aF ["_law_box_here","_law_way","_law_bottom"] ["_law_box_here"] (aC zU):=dJ
theorem Vu(F:cI K "_law_width" "_law_width" zU f fd)(TX:Txt mg)(og: ~~~qO)(qr: ~~~o9):(~~~aS) cL 2 f fd ["_law_box_here"] (aI K K8):=by
 refine F.okU vN (λhr=>(aB (fS 1 vN.nd (fB og (f2 (fv 0) aA))) (aB (bP (eJ rfl hr (fv 1) aA (aZ _)) (aB (fS 2 vN.nd (a7 cE aA (fB og (f2 (fv 0) aA)))) (aE (aG (fK qr (f2 (a7 cE aA (fB og (f2 (fv 0) (ED rfl rfl TX.n_min (f2 (aR bA aA (fv 2)) aA))))) (fv 2)))))) bE) (aB (bP (eJ rfl hr (fv 1) aA (aZ _)) (aE (aG (aJ (f2 (a7 cE aA (fB og (f2 (fv 0) aA))) aA)))) bE) (aE (aG (fK qr (f2 (a7 cE aA (fB og (f2 (fv 0) (fX (bX (f2 aA aA)) (fB og (f2 (fv 0) aA)))))) (fX (bX (f4 aA aA aA aA)) (fB og (f2 (fv 0) aA))))))))))) ?_;rintro as Q ⟨xs,n,rfl,hB,hn,q⟩;refine⟨xs,8,n,rfl,hB,⋯,∅,∅,λway y1 w0 w1 b1=>?_⟩;obtain⟨A,B,C,rfl,_⟩:=id b1;refine⟨UU _,?_⟩;show if(way==0)=true then _ else _
 by_cases h0:way=0
 ·rw[oV (by simpa using h0)];refine⟨_,995,n+1,rfl,b1,⋯,∅,∅,λbo y2 o0 o1' b2=>?_⟩;obtain⟨A,B,C,rfl,_⟩:=id b2;refine⟨Jk ⋯,?_⟩;refine⟨_,_,n+1+1,rfl,b2,⋯,?_,?_,λr ys r0 r1 b3=>?_⟩
  ·show 1<=if(9999:Int)<20*(5+bo)then(9999:Int)else 20*(5+bo)
   split<;>lia
  ·show(if(9999:Int)<20*(5+bo)then(9999:Int)else 20*(5+bo))<2^200
   split<;>lia
  replace r1:r<if(9999:Int)<20*(5+bo)then(9999:Int)else 20*(5+bo):=r1;have r2:r<9999:=by revert r1;split<;>lia
  obtain⟨A,B,C,rfl,_⟩:=id b3;obtain⟨f,nz,z8⟩:=Mx (n:=1+r) (d:=5+bo) ⋯ ⋯ ⋯ ⋯;exact⟨_,_,rfl,nz,z8,rfl,q _ _ f (b3.mono ⋯) rfl⟩
 ·rw[oW (by simpa using h0)];refine⟨UU _,?_⟩;show if(way==1)=true then _ else _
  by_cases h1:way=1
  ·rw[oV (by simpa using h1)];refine⟨_,26,n+1,rfl,b1,⋯,∅,∅,λr y2 r0 r1 b2=>?_⟩;obtain⟨A,B,C,rfl,_⟩:=id b2;obtain⟨f,_,_⟩:=Mx (n:=25+r) (d:=1) ⋯ ⋯ ∅ ∅;refine⟨rfl,q (25+r,1) _ ⟨aM _,?_,?_⟩ (b2.mono ⋯) rfl⟩
   ·exact qI (e:=14) (VT (show(25+r).natAbs<=50 by lia) ∅) (show(1:Int).natAbs<2^14 by decide) ∅
   ·rw[d6];exact_mod_cast (show 0<25+r by lia)
  ·rw[oW (by simpa using h1)];refine⟨_,2,n+1,rfl,b1,⋯,∅,∅,λpk y2 p0 p1 b2=>?_⟩;obtain⟨A,B,C,rfl,_⟩:=id b2;obtain⟨m,hm,m1,m2⟩:∃m:Int,dX [L2.T.int 4,.int 24] pk=oZ (.int m)/\1<=m/\m<=24:=by
    have:pk=0\/pk=1:=⋯
    obtain rfl|rfl:=this
    ·exact⟨4,rfl,∅,∅⟩
    ·exact⟨24,rfl,∅,∅⟩
   show o1 (dX [L2.T.int 4,.int 24] pk) _;rw[hm];refine⟨_,m,n+1+1,rfl,b2,⋯,m1,⋯,λr y3 r0 r1 b3=>?_⟩;refine⟨y3,4,n+1+1+1,rfl,b3,⋯,∅,∅,λpk y4 p0 p1 b4=>?_⟩;obtain⟨A,B,C,rfl,_⟩:=id b4;obtain⟨d,hd,d1,d2⟩:∃d:Int,dX [L2.T.int 1,.int 2,.int 3,.int 4] pk=oZ (.int d)/\1<=d/\d<=4:=by
    have:pk=0\/pk=1\/pk=2\/pk=3:=⋯
    obtain rfl|rfl|rfl|rfl:=this
    ·exact⟨1,rfl,∅,∅⟩
    ·exact⟨2,rfl,∅,∅⟩
    ·exact⟨3,rfl,∅,∅⟩
    ·exact⟨4,rfl,∅,∅⟩
   show o1 (dX [L2.T.int 1,.int 2,.int 3,.int 4] pk) _;rw[hd];obtain⟨f,nz,z8⟩:=Mx (n:=1+r) (d:=d) ⋯ ⋯ d1 ⋯;exact⟨_,_,rfl,nz,z8,rfl,q _ _ f (b4.mono ⋯) rfl⟩
end
def J5:dF:=λas Q=>∃(xs:List L2.T)(n:Int),as=[.b xs]/\Bx xs n/\n<=600000/\∀a b ms p(s:Int)ys,Pm a b ms->Fw p->(s=1\/s=2\/s=3)->Bx ys (n+100)->Q (.v (.tup [cG a b (cJ a b ms),.lst (ms.map iP),fr p,.int s])) ys
abbrev Hb:fq:=top 99
theorem jN:aF ["_law_box_here","_law_great","_law_arcs","_law_more","_law_far","_law_steps","_law_found","_law_path"] ["_law_box_here"] (aC Hb):=dJ
theorem Zw{P:fu}{w:gn}{K:W.Frag}{mg:Str->Option oA}{base:oE}{f:fk}{fd:ip}(F:cI K "_law_case" "_law_case" Hb f fd)(TX:Txt mg)(og: ~~~qO)(yc: ~~~Bm)(rg: ~~~mW)(sj: ~~~pA)(yd:Fn P w K mg base 6 "_law_drawn" ["_law_box_here","_law_most"] (wF K Qc)):(~~~aS) cL 7 f fd ["_law_box_here"] (wF K J5):=by
 refine F.okL jN ?len (λqp A outer s H E hr=>(aB (gG (aJ (fc (nZ rfl hr (fA og hr ⋯ rfl (fc (fv 0) (fc aA bF))) aA (aZ _)) (fc (nZ rfl hr (fA og hr ⋯ rfl (fc (fv 0) (fc aA bF))) aA (aZ _)) (fc (nZ rfl hr (fA og hr ⋯ rfl (fc (fv 0) (fc aA bF))) aA (aZ _)) bF)))) (dA (n:=3) rfl rfl (aK (jB (i:=1) jN.nd rfl (WA rfl)) (aK (jB (i:=2) jN.nd rfl (WN rfl)) (aK (jB (i:=3) jN.nd rfl (WA rfl)) cA)))))
 (aB (dZ (i:=4) (j:=5) rfl jN.nd rfl rfl ∅ rfl rfl (fc (fA yc hr ⋯ rfl (fc (fv 0) bF)) (fc (a7 cE aA (fA og hr ⋯ rfl (fc (fv 0) (fc aA bF)))) bF)) rfl)
 (aB (bP (gH (fv 1)) (aB (xA (i:=6) (N':=["_law_turn","_law_box_here","_law_arcs"]) (t:=1) (cap:=[(0,true),(2,false)]) jN.nd rfl (WA rfl) rfl rfl (bD.of rfl) rfl ∅ (g9 rfl TX.n_range (fc (a7 cE aA (fA og hr ⋯ rfl (fc (fv 0) (fc aA bF)))) bF)) (λ_ _ _ _=>(jB (i:=0) (show ZY (["_law_turn","_law_box_here","_law_arcs"]:List Str) by decide +kernel) rfl (WA rfl) (WN rfl))) (λ_ _ _ _=>(fA rg hr ⋯ rfl (fc (fv 1) (fc (fv 2) bF)))))
 (aE (aG (Em (fc (tQ sj hr ⋯ rfl (fc (aJ (fc (aJ (fc aA (fc aA bF))) (fc (aJ (fc aA (fc aA bF))) bF))) (fc (fv 6) bF))) (fc (fv 6) (fc (fv 4) (fc aA bF)))))))) bE)
 (aB (gG (Ja yd hr ⋯ rfl (fc (fv 0) (fc aA bF))) (dA (n:=2) rfl rfl (aK (jB (i:=7) jN.nd rfl (WA rfl)) (aK (jB (i:=6) jN.nd rfl (WA rfl)) cA))))
 (aE (aG (Em (fc (fv 7) (fc (fv 6) (fc (fv 4) (fc (pE (Mu (yR (AX kT (eD rfl rfl TX.n_len (fc (fv 6) bF)) aA (aZ _)) (rS (gH (fv 3))))) (fv 5) aA) bF)))))))))))) ?rd
 case len=>rintro as Q ⟨xs,n,rfl,_⟩;rfl
 case rd=>
  rintro as Q ⟨xs,n,rfl,hB,hn,q⟩;refine⟨xs,8,n,rfl,hB,⋯,∅,∅,λgr y1 g0 g1 b1=>?_⟩;refine⟨UU _,?_⟩;refine⟨y1,2,n+1,rfl,b1,⋯,∅,∅,λar y2 a0 a1 b2=>?_⟩;refine⟨UU _,?_⟩;refine⟨y2,8,n+1+1,rfl,b2,⋯,∅,∅,λmo y3 m0 m1 b3=>?_⟩;refine⟨UU _,?_⟩;refine⟨y3,n+1+1+1,rfl,b3,⋯,λp y4 fw b4 nl4=>?_⟩;refine⟨y4,3,n+1+1+1+5,rfl,b4,⋯,∅,∅,λst y5 s0 s1 b5=>?_⟩;obtain⟨A,B,C,rfl,_⟩:=id b5;have xv:∀m:Nat,(kC 0 m).length=m:=λm=>by simp[kC]
  have hs:1+st=1\/1+st=2\/1+st=3:=⋯
  show if(gr==0)=true then _ else _
  by_cases h0:gr=0
  ·rw[oV (by simpa using h0)];refine⟨_,6,n+1+1+1+5+1,rfl,b5,⋯,∅,∅,λmany y6 v0 v1 b6=>?_⟩;obtain⟨A1,B1,C1,rfl,_⟩:=id b6;refine⟨⟨⋯,⋯⟩,rfl,?_⟩;refine b9 (λi E=>∃(w0:Option U)(A B c:Int)(L:List L2.T),E=[w0,oZ (.o true [.int A,.int B,.int c]),⇑(.bl (ar==0)),↥L]/\Bx [.int A,.int B,.int c] (n+10+5*i)/\L.length=i/\∀t∈L,∃m,t=iP m/\gJ m) ⟨none,A1,B1,C1,[],rfl,b6.mono ⋯,rfl,by simp⟩ ?_ ?_
   ·rintro i t rest E hi ⟨w0,A,B,c',L,rfl,hb,hL,hU⟩ KK;obtain⟨hin,rfl⟩:=pO hi;refine⟨_,_,_,rfl,hb,⋯,λm ys om b' nl'=>?_⟩;obtain⟨A',B',c'',rfl,_⟩:=id b';refine⟨by show L.length<9000;lia,KK _ ⟨_,A',B',c'',L++[iP m],rfl,b'.mono ⋯,by rw[UT,hL];rfl,λt ht=>?_⟩⟩;obtain ht|ht:=VX.mp ht
    ·exact hU t ht
    ·rw[VS]at ht;exact⟨m,ht,om⟩
   rintro E ⟨w0,A,B,cc,L,rfl,hb,hL,hU⟩;rw[xv]at hL hb;refine⟨xD hU,?_⟩;obtain⟨ms,rfl,om⟩:=Jj hU;rw[UX]at hL;have st0:St (0,1) (0,1):=Ku (s:=4) (t:=4) ∅ ∅ ∅ ∅;refine⟨_,_,ms,rfl,st0,om,⋯,?_⟩;exact q _ _ ms p 1 _ ⟨st0,om,by intro z;rw[z]at hL;simp at hL;lia,⋯⟩ fw (.inl rfl) (hb.mono ⋯)
  ·rw[oW (by simpa using h0)];refine⟨_,n+1+1+1+5+1,4,rfl,b5,⋯,∅,∅,λa b ms y6 pm b6=>?_⟩;obtain⟨A1,B1,C1,rfl,_⟩:=id b6;show if decide ((((ms.map iP).length:Nat):Int)<3)=true then _ else _;have fin:∀s:Int,s=1\/s=2\/s=3->Q (.v (.tup [cG a b (cJ a b ms),.lst (ms.map iP),fr p,.int s])) [.int A1,.int B1,.int C1]:=λs hs=>q _ _ ms p s _ pm fw hs (b6.mono ⋯)
   by_cases c:(((ms.map iP).length:Nat):Int)<3
   ·rw[oV (oY c)];exact fin _ hs
   ·rw[oW (by rw[oX c];decide)];show if(mo==0)=true then _ else _
    by_cases c2:(mo==0)=true
    ·rw[oV c2];exact fin _ hs
    ·rw[oW c2];exact fin 1 (.inl rfl)
section
variable{P:fu}{w:gn}{K:W.Frag}{mg:Str->Option oA}{base:oE}
theorem jX:∀(ms:List Mv)(a b:Fr)(i:Nat)(m:Mv),ms[i]?=oZ m->(cJ a b ms)[i]?=oZ (rA (cV a ((cJ a b ms).take i)) (cW b ((cJ a b ms).take i)) m)
 |[],_,_,_,_,h=>by simp at h
 |n::ms,a,b,0,m,h=>by cases h;rfl
 |n::ms,a,b,i+1,m,h=>jX ms _ _ i m (by simpa using h)
theorem Ct:∀(ms:List Mv)(a b:Fr)(B:Nat),Nv a b 14->Dv B a->Dv B b->B+780*ms.length+20<2^14->(∀m∈ms,gJ m)->kO 14 a b (cJ a b ms)
 |[],_,_,_,_,_,_,_,_=>trivial
 |m::ms,a,b,B,nv,da,db,hB,ok=>by
  rw[VQ]at hB;obtain⟨o,dx,dy⟩:=FV nv da db ⋯ (ok m VB);exact⟨o,Ct ms _ _ (B+780) (rX.nv o) dx dy ⋯ λn hn=>ok n (UW _ hn)⟩
theorem tK(k:e<=f):∀{ps:List Pc}{a b:Fr},kO e a b ps->kO f a b ps
 |[],_,_,_=>trivial
 |_::_,_,_,h=>⟨rX.up k h.1,tK k h.2⟩
theorem Pm.chain(h:Pm a b ms):kO 14 a b (cJ a b ms):=
 Ct ms a b 260 (h.st.1.up ∅) h.st.2.1 h.st.2.2 (by have:=h.len;lia) h.ok
def px(a b:Fr)(ms:List Mv)(i:Nat):Fr:=cV a ((cJ a b ms).take i)
def py(a b:Fr)(ms:List Mv)(i:Nat):Fr:=cW b ((cJ a b ms).take i)
theorem Pm.nv(h:Pm a b ms)(i:Nat):Nv (px a b ms i) (py a b ms i) 14:=pB i (h.st.1.up ∅) h.chain
theorem qU(na:bI a)(nx:bI x):aT (bH a x) a=x:=bQ (dD (cH na nx) na) nx (by rw[dE (cH na nx) na,cN na nx];grind)
theorem sub_sub'(na:bI a)(nx:bI x):aT a (aT a x)=x:=bQ (dD na (dD na nx)) nx (by rw[dE na (dD na nx),dE na nx];grind)
theorem gP(nx:bI x)(nm:bI m)(h:0<val m):b7 (aN x m) m=x:=by
 have m1:m.1≠0:=by have:=(lY nm).1 h;lia
 refine bQ (gN (aO nx nm) m1) nx ?_;rw[jR (aO nx nm) nm m1,bB nx nm];have:val m≠0:=by grind
 grind
theorem tT(u:bW x y 4)(nm:bI m)(sm:sz m<=4)(h:0<val m):xX (aN x m) (aN y m) m:=by
 refine⟨(lG u.nv nm sm).up ∅,nm,h,?_⟩;rw[bB u.nv.x nm,bB u.nv.y nm];have:=u.one;have e:val x*val m*(val x*val m)+val y*val m*(val y*val m)=(val x*val x+val y*val y)*(val m*val m):=by grind
 rw[e,this];grind
theorem gJ.len(h:gJ m):bI (wM m)/\sz (wM m)<=4/\0<val (wM m):=by
 cases m with
 |side x y m=>exact⟨h.2.1,h.2.2.1,h.2.2.2.1⟩
 |arc x y u v r l=>exact⟨h.2.2.2.1,VZ h.2.2.2.2.1 ∅,h.2.2.2.2.2.1⟩
theorem gJ.bu(h:gJ m):bW (bU m).1 (bU m).2 4:=by
 cases m with
 |side x y m=>exact h.1
 |arc x y u v r l=>
  cases l with
  |true=>exact h.1.left
  |false=>
   have:=h.1;refine⟨⟨this.nv.y,d5 this.nv.x,this.nv.sy,by show sz (aQ x)<=4;rw[qJ];exact this.nv.sx⟩,?_⟩;show val y*val y+val (aQ x)*val (aQ x)=1;rw[bV this.nv.x];have:=this.one;grind
theorem gJ.eu(h:gJ m):bW (eU m).1 (eU m).2 4:=by
 cases m with
 |side x y m=>exact h.1
 |arc x y u v r l=>
  have u':=h.2.1;cases l with
  |true=>exact u'.left
  |false=>
   refine⟨⟨u'.nv.y,d5 u'.nv.x,u'.nv.sy,by show sz (aQ u)<=4;rw[qJ];exact u'.nv.sx⟩,?_⟩;show val v*val v+val (aQ u)*val (aQ u)=1;rw[bV u'.nv.x];have:=u'.one;grind
theorem yA(h:Nv a b e)(ok:gJ (.arc x y u v r l)):
  aT a (aT a (aN x r))=aN x r/\aT b (aT b (aN y r))=aN y r/\aT (bH (aT a (aN x r)) (aN u r)) (aT a (aN x r))=aN u r/\aT (bH (aT b (aN y r)) (aN v r)) (aT b (aN y r))=aN v r:=by
 obtain⟨o1,o2,_,nr,_⟩:=ok;have nx:=aO o1.nv.x nr;have ny:=aO o1.nv.y nr;have nu:=aO o2.nv.x nr;have nw:=aO o2.nv.y nr;exact⟨sub_sub' h.x nx,sub_sub' h.y ny,qU (dD h.x nx) nu,qU (dD h.y ny) nw⟩
theorem LK(h:Nv a b e)(ok:gJ m):Ln a b (wM m) (rA a b m):=by
 cases m with
 |side x y m=>
  obtain⟨n1,n2,n3⟩:bI m/\sz m<=4/\0<val m:=ok.len;have nx:=aO ok.1.nv.x n1;have ny:=aO ok.1.nv.y n1;show xX (aT (bH a (aN x m)) a) (aT (bH b (aN y m)) b) m;rw[qU h.x nx,qU h.y ny];exact tT ok.1 n1 n2 n3
 |arc x y u v r l=>
  obtain⟨n1,n2,n3⟩:bI r/\sz r<=4/\0<val r:=ok.len;obtain⟨e1,e2,e3,e4⟩:=yA h ok;show xX (aT a (aT a (aN x r))) (aT b (aT b (aN y r))) r/\xX (aT (bH (aT a (aN x r)) (aN u r)) (aT a (aN x r))) (aT (bH (aT b (aN y r)) (aN v r)) (aT b (aN y r))) r;rw[e1,e2,e3,e4];exact⟨tT ok.1 n1 n2 n3,tT ok.2.1 n1 n2 n3⟩
theorem Yp(h:Nv a b e)(ok:gJ m):hB a b (wM m) (rA a b m)=bU m/\hE a b (wM m) (rA a b m)=eU m:=by
 cases m with
 |side x y m=>
  obtain⟨n1,n2,n3⟩:bI m/\sz m<=4/\0<val m:=ok.len;have nx:=aO ok.1.nv.x n1;have ny:=aO ok.1.nv.y n1;have e:(b7 (aT (bH a (aN x m)) a) m,b7 (aT (bH b (aN y m)) b) m)=(x,y):=by
   rw[qU h.x nx,qU h.y ny];exact Prod.ext (gP ok.1.nv.x n1 n3) (gP ok.1.nv.y n1 n3)
  exact⟨e,e⟩
 |arc x y u v r l=>
  obtain⟨n1,n2,n3⟩:bI r/\sz r<=4/\0<val r:=ok.len;obtain⟨e1,e2,e3,e4⟩:=yA h ok;constructor
  ·show N4 l (b7 (aT a (aT a (aN x r))) r) (b7 (aT b (aT b (aN y r))) r)=N4 l x y;rw[e1,e2];rw[gP ok.1.nv.x n1 n3,gP ok.1.nv.y n1 n3]
  ·show N4 l (b7 (aT (bH (aT a (aN x r)) (aN u r)) (aT a (aN x r))) r) (b7 (aT (bH (aT b (aN y r)) (aN v r)) (aT b (aN y r))) r)=N4 l u v;rw[e3,e4];rw[gP ok.2.1.nv.x n1 n3,gP ok.2.1.nv.y n1 n3]
theorem Pm.at_(h:Pm a b ms)(hi:ms[i]?=oZ m):Xe a b (cJ a b ms) i (rA (px a b ms i) (py a b ms i) m) (wM m):=
 ⟨jX ms a b i m hi,h.st.1.up ∅,tK ∅ h.chain,LK (h.nv i) (h.ok m (UR hi))⟩
theorem Pm.head(h:Pm a b ms)(hi:ms[i]?=oZ m):Ys (cV a ((cJ a b ms).take i)) (cW b ((cJ a b ms).take i)) (wM m) (rA (px a b ms i) (py a b ms i) m) = .tup [aP (bU m),aP (eU m)]:=by
 rw[Ep];have:=Yp (h.nv i) (h.ok m (UR hi));unfold px py at this⊢;rw[this.1,this.2]
theorem xF(hi:ms[i]?=oZ m):px a b ms (i+1)=(rA (px a b ms i) (py a b ms i) m).px/\py a b ms (i+1)=(rA (px a b ms i) (py a b ms i) m).py:=
 ⟨yU (jX ms a b i m hi),yV (jX ms a b i m hi)⟩
def J0(i:Nat)(bx bY ex eY rx ry:Fr):L2.T:=.tup [.str "strip",.int (i:Int),.tup [vc (aT bx rx) (aT bY ry),vc (aT ex rx) (aT eY ry),vc (bH ex rx) (bH eY ry),vc (bH bx rx) (bH bY ry)],.str "r-l-"]
def K4:dF:=λas Q=>∃(a b:Fr)(ms:List Mv)(i:Nat)(x y m p:Fr),as=[.v (cG a b (cJ a b ms)),.v (.int (i:Int)),.v (fr p)]/\Pm a b ms/\ms[i]?=oZ (.side x y m)/\Fw p/\
 Q (.v (J0 i (px a b ms i) (py a b ms i) (px a b ms (i+1)) (py a b ms (i+1)) (aN (aQ y) p) (aN x p))) []
abbrev rG(P w K mg base):=(~~~Fn) 9 "side_strip" ["path","number","far"] (aI K K4)
abbrev nG:fq:=top 51
theorem jF:aF ["path","number","far","reach","outline","begin","to"] ["path","number","far"] (aC nG):=dJ
theorem Bb(F:cI K "side_strip" "side_strip" nG f fd)(TX:Txt mg)(ph: ~~~jG)(nq: ~~~g8)(pj: ~~~l8)(oi: ~~~iU)(pe: ~~~jH)(qe: ~~~lZ)(qu: ~~~sZ):(~~~aS) cL 9 f fd ["path","number","far"] (aI K K4):=by
 refine F.okU jF (λhr=>(aB (dZ (i:=5) (j:=6) rfl jF.nd rfl rfl ∅ rfl rfl (f2 (fK ph (f2 (fv 0) (fv 1))) (fK nq (f1 (fX (fQ 0) (fv 1))))) rfl) (aB (fS 3 jF.nd (fK pj (f2 (fK oi (f1 (fX (fK pe (f2 (fv 0) (fv 1))) aA))) (fv 2)))) (aB (fS 4 jF.nd (aJ (f4 (fK qe (f2 (fv 5) (fv 3))) (fK qe (f2 (fv 6) (fv 3))) (fK qu (f2 (fv 6) (fv 3))) (fK qu (f2 (fv 5) (fv 3)))))) (aE (aG (aJ (f4 aY (fv 1) (fv 4) aY)))))))) ?_;rintro as Q ⟨a,b,ms,i,x,y,m,p,rfl,h,hi,fw,q⟩;have hl:=(UO.mp hi).1;have hp:=jX ms a b i _ hi;have pa:=h.at_ hi;have ok:=h.ok _ (UR hi);have hd:=h.head hi;have n0:=h.nv i;have n1:=h.nv (i+1);obtain⟨ex,ey⟩:=xF (a:=a) (b:=b) hi;refine⟨a,b,_,i,rfl,by rw[fV];exact hl,?_⟩;show o1 (dX ((cJ a b ms).map kB) (i:Int)) _;rw[rM hp];refine⟨_,rfl,?_⟩;refine⟨a,b,_,i,_,_,rfl,pa,?_⟩;rw[hd];refine⟨x,y,rfl,?_⟩;have us:=ok.1.left;refine⟨_,_,p,4,rfl,us.nv,fw.n,by have:=fw.s;lia,?_⟩;have nr:=lG us.nv fw.n fw.s;have en:Nv (rA (px a b ms i) (py a b ms i) (.side x y m)).px (rA (px a b ms i) (py a b ms i) (.side x y m)).py 14:=by rw[<-ex,<-ey];exact n1
 rw[ex,ey]at q;exact⟨_,_,_,_,14,4+14,rfl,n0,nr,∅,_,_,_,_,14,4+14,rfl,en,nr,∅,_,_,_,_,14,4+14,rfl,en,nr,∅,_,_,_,_,14,4+14,rfl,n0,nr,∅,rfl,q⟩
theorem IM{s:Int}(h:bW x y 4)(k:bW p q 4)(hs:s=1\/s=2\/s=3)(r:wG p q m x y)(r':wG (aQ x) y m' (aQ p) q):∀u∈qW x y p q s m m',Uv 30 u:=by
 intro u hu;obtain hu|hu:=xC hu
 ·obtain rfl|hu:=UZ.mp hu
  ·exact⟨_,_,rfl,h.up ∅⟩
  ·exact(Tt k hs m x y h r u hu).up ∅
 ·obtain⟨z,hz,rfl⟩:=XF.mp hu;have hz:=ZO.mp hz;have uz:Uv 30 z:=by
   obtain rfl|hz:=UZ.mp hz
   ·exact⟨_,_,rfl,k.flip.up ∅⟩
   ·exact(Tt h.flip hs m' (aQ p) q k.flip r' z hz).up ∅
  obtain⟨a,b,rfl,n⟩:=uz;exact⟨aQ a,b,rfl,n.flip⟩
def vX(a b:Fr×Fr):Rat:=val a.1*val b.2-val a.2*val b.1
def vD(a b:Fr×Fr):Rat:=val a.1*val b.1+val a.2*val b.2
structure Us(u w:Fr×Fr)(us:List (Fr×Fr)):Prop where
 n2:2<=us.length
 n30:us.length<=30
 uv:∀a∈us,bW a.1 a.2 30
 hd:us[0]?=oZ u
 ls:us[us.length-1]?=oZ w
 nb:∀i a b,us[i]?=oZ a->us[i+1]?=oZ b->0<vX a b/\0<=vD a b
theorem xN(h:aP a=aP b):a=b:=by
 have h:=congrArg cx h;have e:∀c:Fr×Fr,cx (aP c)=c:=λc=>tM c.1 c.2
 rwa [e,e]at h
theorem HK(h:∀t∈L,Uv e t):∃us:List (Fr×Fr),L=us.map aP/\∀a∈us,bW a.1 a.2 e:=by
 induction L with
 |nil=>exact⟨[],rfl,by simp⟩
 |cons t L ih=>
  obtain⟨us,e1,h1⟩:=ih λt ht=>h t (UW _ ht);obtain⟨a,b,rfl,n⟩:=h t VB;refine⟨(a,b)::us,by rw[e1];rfl,λc hc=>?_⟩;obtain rfl|hc:=UZ.mp hc
  ·exact n
  ·exact h1 c hc
theorem OC{s:Int}(h:bW x y 4)(k:bW p q 4)(ne:¬(p=x/\q=y))(hs:s=1\/s=2\/s=3)(hm:m<=3)(hm':m'<=3)(r:wG p q m x y)(r':wG (aQ x) y m' (aQ p) q):
  ∃us,qW x y p q s m m'=us.map aP/\Us (x,y) (p,q) us:=by
 have E:cX x y p q 4 4 s m m':=⟨h,k,∅,∅,∅,hs,hm,hm',r,r'⟩;obtain⟨l1,l2⟩:=FR hs hm hm' ne;obtain⟨us,e,uv⟩:=HK (IM h k hs r r');have at_:∀{i a},us[i]?=oZ a->(qW x y p q s m m')[i]?=oZ (aP a):=λ{i a}h=>by rw[e,UQ,h];rfl
 have el:(qW x y p q s m m').length=us.length:=by rw[e,UX]
 have bk:∀{i:Nat}{a:Fr×Fr},(qW x y p q s m m')[i]?=oZ (aP a)->us[i]?=oZ a:=λ{i a}h=>by
  rw[e,UQ]at h;obtain⟨z,hz,ez⟩:=VP.mp h;rw[hz,xN ez]
 refine⟨us,e,⟨⋯,⋯,uv,?_,?_,?_⟩⟩
 ·obtain⟨L,eL⟩:=E.first;refine bk ?_;rw[eL];rfl
 ·obtain⟨L,eL⟩:=E.last;refine bk ?_;rw[<-el,eL];simp[aP]
 ·intro i a b ha hb;obtain⟨a1,a2,b1,b2,ea,eb,_,_,n1,n2⟩:=E.nbr (at_ ha) (at_ hb);have ea:a=(a1,a2):=xN ea;have eb:b=(b1,b2):=xN eb;rw[ea,eb];exact⟨n1,n2⟩
def uC(a b:Fr×Fr):Fr×Fr:=(L0 a.1 b.1 (Lj a.1 a.2 b.1 b.2),L0 a.2 b.2 (Lj a.1 a.2 b.1 b.2))
theorem xM(h:bW a.1 a.2 30)(k:bW b.1 b.2 30)(d:0<=vD a b):(Lj a.1 a.2 b.1 b.2).1≠0:=by
 obtain⟨u1,u2,u3⟩:=vS h k;have:0<val (Lj a.1 a.2 b.1 b.2):=by rw[u3];unfold vD at d;grind
 have:=(lY u1).1 this
 lia
theorem AF(h:bW a.1 a.2 30)(k:bW b.1 b.2 30)(d:0<=vD a b):Nv (uC a b).1 (uC a b).2 130:=by
 obtain⟨u1,u2,u3⟩:=vS h k;obtain⟨i1,i2,i3⟩:=Et u1 (xM h k d);exact(kR (Fs h.nv k.nv) i1).up ⋯
theorem L1(h:bW a.1 a.2 30)(k:bW b.1 b.2 30)(d:0<=vD a b):val (uC a b).1*(1+vD a b)=val a.1+val b.1/\val (uC a b).2*(1+vD a b)=val a.2+val b.2:=by
 obtain⟨u1,u2,u3⟩:=vS h k;have n0:=xM h k d;obtain⟨i1,i2,i3⟩:=Et u1 n0;have a':=Fs h.nv k.nv;have vn:=IP u1 n0;have e:1+vD a b=val (Lj a.1 a.2 b.1 b.2):=u3.symm;constructor
 ·show val (aN _ _)*_=_;rw[bB a'.x i1,i3,cN h.nv.x k.nv.x,e];grind
 ·show val (aN _ _)*_=_;rw[bB a'.y i1,i3,cN h.nv.y k.nv.y,e];grind
def Vi(a b:Fr×Fr):Rat:=vX a b/(1+vD a b)
theorem R4(x:0<vX a b)(d:0<=vD a b):0<Vi a b:=by
 have h1:0<1+vD a b:=by grind
 have e:Vi a b*(1+vD a b)=vX a b:=by
   unfold Vi;have:(1+vD a b)≠0:=by grind
   grind
 exact bZ h1 (by rw[e];exact x)
theorem L3(h:bW a.1 a.2 30)(k:bW b.1 b.2 30)(d:0<=vD a b):
  (val (uC a b).1=val a.1-Vi a b*val a.2/\val (uC a b).2=val a.2+Vi a b*val a.1)/\(val (uC a b).1=val b.1+Vi a b*val b.2/\val (uC a b).2=val b.2-Vi a b*val b.1):=by
 obtain⟨e1,e2⟩:=L1 h k d;have n:(1+vD a b)≠0:=by grind
 have el:Vi a b*(1+vD a b)=vX a b:=by unfold Vi;grind
 have o1:=h.one;have o2:=k.one;generalize val (uC a b).1=t1 at e1⊢;generalize val (uC a b).2=t2 at e2⊢;generalize Vi a b=l at el⊢;have c:∀z w:Rat,(z-w)*(1+vD a b)=0->z=w:=λz w h=>by
  obtain q|q:=Rat.mul_eq_zero.mp h
  ·grind
  ·exact absurd q n
 unfold vX vD at *;refine⟨⟨c _ _ ?_,c _ _ ?_⟩,⟨c _ _ ?_,c _ _ ?_⟩⟩<;>grind
structure UB(u w:Fr×Fr)(s:Int)(us:List (Fr×Fr)):Prop where
 U:Us u w us
 nd:us.Nodup
 ex:∃m m',wG w.1 w.2 m u.1 u.2/\wG (aQ u.1) u.2 m' (aQ w.1) w.2/\qW u.1 u.2 w.1 w.2 s m m'=us.map aP
theorem NX{u w:Fr×Fr}{s:Int}(h:bW u.1 u.2 4)(k:bW w.1 w.2 4)(ne:w≠u)(hs:s=1\/s=2\/s=3)(hm:m<=3)(hm':m'<=3)(r:wG w.1 w.2 m u.1 u.2)(r':wG (aQ u.1) u.2 m' (aQ w.1) w.2):
  ∃us,UB u w s us:=by
 have E:cX u.1 u.2 w.1 w.2 4 4 s m m':=⟨h,k,∅,∅,∅,hs,hm,hm',r,r'⟩;obtain⟨us,e,U⟩:=OC h k (λz=>ne (Prod.ext z.1 z.2)) hs hm hm' r r';have ss:=E.ub.1;rw[e]at ss;exact⟨us,U,(List.pairwise_map.mp ss).imp λ{a b}lt z=>by rw[z]at lt;exact absurd lt (Rat.lt_irrefl),m,m',r,r',e⟩
noncomputable def Wu (u w:Fr×Fr) (s:Int):List (Fr×Fr):=Classical.epsilon (UB u w s)
theorem eF{u:Fr×Fr}{w:Fr×Fr}{s:Int}(h:bW u.1 u.2 4)(k:bW w.1 w.2 4)(ne:w≠u)(hs:s=1\/s=2\/s=3):UB u w s (Wu u w s):=by
 obtain⟨m,hm,r⟩:=Gu h k;obtain⟨m',hm',r'⟩:=Gu k.flip h.flip;exact Classical.epsilon_spec (NX h k ne hs hm hm' r r')
theorem mO{u:Fr×Fr}{w:Fr×Fr}{s:Int}(h:bW u.1 u.2 4)(k:bW w.1 w.2 4)(ne:w≠u)(hs:s=1\/s=2\/s=3)(r:wG w.1 w.2 m u.1 u.2)(r':wG (aQ u.1) u.2 m' (aQ w.1) w.2):qW u.1 u.2 w.1 w.2 s m m'=(Wu u w s).map aP:=by
 obtain⟨_,_,n,n',t,t',f⟩:=eF h k ne hs;rw[zJ r t,zJ r' t',f]
def d0:Fr×Fr:=((0,1),(0,1))
def bp(P:Fr×Fr)(p:Fr)(r:Fr×Fr):Fr×Fr:=(bH P.1 (aN r.1 p),bH P.2 (aN r.2 p))
theorem DK{P r:Fr×Fr}(nP:Nv P.1 P.2 e)(nr:Nv r.1 r.2 f)(np:bI p):val (bp P p r).1=val P.1+val r.1*val p/\val (bp P p r).2=val P.2+val r.2*val p:=
 ⟨by show val (bH _ _)=_;rw[cN nP.x (aO nr.x np),bB nr.x np],by show val (bH _ _)=_;rw[cN nP.y (aO nr.y np),bB nr.y np]⟩
def gU(us:List (Fr×Fr))(i:Nat):Fr×Fr:=us.getD i d0
def Tr(us:List (Fr×Fr))(i:Nat):Fr×Fr:=uC (gU us i) (gU us (i+1))
def hX(us:List (Fr×Fr)):List (Fr×Fr):=(VC (us.length-1)).map (Tr us)
def d8(us:List (Fr×Fr)):List (Fr×Fr):=gU us 0::(hX us++[gU us (us.length-1)])
def cO(us:List (Fr×Fr))(j:Nat):Fr×Fr:=if j%2=0 then gU us (j/2)else Tr us (j/2)
def Hz(us:List (Fr×Fr)):List (Fr×Fr):=(VC (2*us.length-1)).map (cO us)
theorem Us.at_{u:Fr×Fr}{w:Fr×Fr}{us:List (Fr×Fr)}(U:Us u w us){i:Nat}(h:i<us.length):us[i]?=oZ (gU us i)/\bW (gU us i).1 (gU us i).2 30:=by
 have e:us[i]?=oZ (gU us i):=by unfold gU;rw[VR,UP h];rfl
 exact⟨e,U.uv _ (UR e)⟩
theorem Us.step{u:Fr×Fr}{w:Fr×Fr}{us:List (Fr×Fr)}(U:Us u w us){i:Nat}(h:i+1<us.length):0<=vD (gU us i) (gU us (i+1))/\Nv (Tr us i).1 (Tr us i).2 130/\0<Vi (gU us i) (gU us (i+1))/\
  (val (Tr us i).1=val (gU us i).1-Vi (gU us i) (gU us (i+1))*val (gU us i).2/\val (Tr us i).2=val (gU us i).2+Vi (gU us i) (gU us (i+1))*val (gU us i).1):=by
 obtain⟨a1,a2⟩:=U.at_ (i:=i) ⋯;obtain⟨b1,b2⟩:=U.at_ h;obtain⟨x,d⟩:=U.nb i _ _ a1 b1;exact⟨d,AF a2 b2 d,R4 x d,(L3 a2 b2 d).1⟩
theorem zH:(d8 us).length=us.length-1+2:=by unfold d8 hX;simp
theorem Us.rays{u:Fr×Fr}{w:Fr×Fr}{us:List (Fr×Fr)}(U:Us u w us):3<=(d8 us).length/\(d8 us).length<=40/\∀r∈d8 us,Nv r.1 r.2 130:=by
 have n2:=U.n2;have n30:=U.n30;have len:=zH (us:=us);refine⟨⋯,⋯,λr hr=>?_⟩;obtain rfl|hr:=UZ.mp hr
 ·exact(U.at_ ⋯).2.nv.up ∅
 ·obtain hr|hr:=VX.mp hr
  ·obtain⟨i,hi,rfl⟩:=XF.mp hr;have:=ZH.mp hi;exact(U.step (i:=i) ⋯).2.1
  ·rw[VS.mp hr];exact(U.at_ ⋯).2.nv.up ∅
theorem M5:(Hz us).length=2*us.length-1:=by unfold Hz;simp
theorem DE(h:j<2*us.length-1):(Hz us)[j]?=oZ (cO us j):=by unfold Hz;rw[UQ,WS h];rfl
theorem Us.wt{u:Fr×Fr}{w:Fr×Fr}{us:List (Fr×Fr)}(U:Us u w us){j:Nat}(h:j<2*us.length-1):Nv (cO us j).1 (cO us j).2 130:=by
 unfold cO
 split
 ·exact(U.at_ ⋯).2.nv.up ∅
 ·exact(U.step ⋯).2.1
theorem Us.atl{u:Fr×Fr}{w:Fr×Fr}{us:List (Fr×Fr)}(U:Us u w us):dX (us.map aP) (-1)=oZ (aP (gU us (us.length-1))):=by
 have n2:=U.n2;obtain⟨L,p,e⟩:∃L p,us=L++[p]:=⟨us.dropLast,us.getLast (by intro z;rw[z]at n2;simp at n2),(XY _).symm⟩;have g:gU us (us.length-1)=p:=by rw[e];unfold gU;simp[VR]
 rw[g,e,VE];exact My.kK _ _
theorem Us.at0{u:Fr×Fr}{w:Fr×Fr}{us:List (Fr×Fr)}(U:Us u w us):dX (us.map aP) 0=oZ (aP (gU us 0)):=by
 have n2:=U.n2;exact gR (j:=0) (show(us.map aP)[0]?=oZ (aP (gU us 0)) by rw[UQ,(U.at_ (i:=0) ⋯).1];rfl)
end
def lV(z:Str):List Nat:=z.cps.toList
def SU(c:Nat):Bool:=(VW "lrbe-").cps.contains c
structure Mk(n:Nat)(z:Str):Prop where
 len:z.length=n
 ok:∀c∈lV z,SU c=true
theorem Ho(z:Str):z.length=(lV z).length:=rfl
theorem Mk.of(h:((lV z).length==n&&(lV z).all SU)=true):Mk n z:=by
 rw[VN]at h;exact⟨(by simpa using h.1:(lV z).length=n),λc hc=>WM.mp h.2 c hc⟩
theorem Hn(a b:Str):lV (a++b)=lV a++lV b:=by
 show(a.cps++b.cps).toList=_;rw[Array.toList_append];rfl
theorem Mk.app(h:Mk n a)(k:Mk m b):Mk (n+m) (a++b):=
 ⟨by rw[Ho,Hn,UT,<-Ho,<-Ho,h.len,k.len],λc hc=>by
  rw[Hn]at hc;exact(VX.mp hc).elim (h.ok c) (k.ok c)⟩
theorem Cf(z:Array Nat):∀(n:Nat)(acc:Array Nat),(ZU (λx y=>x++y) acc (US n z)).toList=acc.toList++(US n z.toList).flatten
 |0,acc=>by simp
 |n+1,acc=>by rw[WI,List.foldl_cons,Cf z n,Array.toList_append,WI,XH,VH]
theorem Mk.mul(h:Mk 1 c)(k:Nat)(hk:1<=k):Mk k (Txt.mul c (k:Int)):=by
 unfold Txt.mul;rw[oW ⋯]
 split
 ·rename_i h1;have:k=1:=by
   rw[Bool.or_eq_true]at h1;obtain h1|h1:=h1
   ·have:(k:Int)=1:=by simpa using h1
    lia
   ·rw[h.len]at h1;cases h1
  rw[this];exact h
 ·have e:lV ⟨ZU (λx1 x2=>x1++x2) #[] (US (k:Int).toNat c.cps)⟩=(US k (lV c)).flatten:=by
   show fj (ZU (λx y=>x++y) #[] (US (k:Int).toNat c.cps))=_;rw[Cf,WO];rfl
  refine⟨?_,λx hx=>?_⟩
  ·rw[Ho,e];have h1:(lV c).length=1:=h.len;simp[h1]
  ·rw[e]at hx;obtain⟨l,hl,hx⟩:=List.mem_flatten.mp hx;rw[List.eq_of_mem_replicate hl]at hx;exact h.ok x hx
section
variable{P:fu}{w:gn}{K:W.Frag}{mg:Str->Option oA}{base:oE}
theorem Tv(h:(eO (us.map aP) (gL (us.map aP) (oZ 1) none))[i]?=oZ t):i+1<us.length/\t = .tup [aP (gU us i),aP (gU us (i+1))]:=by
 obtain⟨u,v,h1,h2,rfl⟩:=mR h;have e1:=eV (us.map aP) 1;rw[show gL (us.map aP) (oZ 1) none=(us.map aP).drop 1 from e1,YN,UQ]at h2;rw[UQ]at h1;obtain⟨a,ha,rfl⟩:=VP.mp h1;obtain⟨b,hb,rfl⟩:=VP.mp h2;rw[YH 1 i]at hb;have l:=(UO.mp hb).1;have ga:gU us i=a:=by unfold gU;rw[VR,ha];rfl
 have gb:gU us (i+1)=b:=by unfold gU;rw[VR,hb];rfl
 exact⟨l,by rw[ga,gb]⟩
theorem Hv(us:List (Fr×Fr)):(eO (us.map aP) (gL (us.map aP) (oZ 1) none)).length=us.length-1:=by
 have e1:=eV (us.map aP) 1;rw[i9,show gL (us.map aP) (oZ 1) none=(us.map aP).drop 1 from e1,XI,UX]
 lia
theorem dC:∀l:List (Fr×Fr),bM (l.map aP)=true
 |[]=>rfl
 |a::l=>by show(noL (aP a)&&bM (l.map aP))=true;rw[dC l];rfl
def CW:dF:=λas Q=>∃(u w:Fr×Fr)(us:List (Fr×Fr)),as=[.v (.lst (us.map aP))]/\Us u w us/\Q (.l ((hX us).map aP)) []
abbrev rP(P w K mg base):=(~~~Fn) 6 "tips_of" ["units"] (aI K CW)
abbrev vI:fq:=top 52
theorem Pw:aF ["units"] ["units"] (aC vI):=dJ
theorem Of(F:cI K "tips_of" "tips_of" vI f fd)(TX:Txt mg)(ye: ~~~Bn):(~~~aS) cL 6 f fd ["units"] (aI K CW):=by
 refine F.okU Pw (λhr=>(aE (aG (fT (N':=oH) (t:=2) (cap:=[]) rfl (bD.of rfl) rfl ∅ (qQ rfl rfl TX.n_zip (f2 (fv 0) (dH rfl (fv 0) (dQ aA) iF))) (λ_ _ _ _=>(dA (n:=2) rfl rfl (aK (fH 0) (aK (fH 1) cA)))) (λ_ _ _ _=>(fK ye (f2 (fv 0) (fv 1)))))))) ?_;rintro as Q ⟨u,w,us,rfl,U,q⟩;have n30:=U.n30;refine⟨rfl,?_⟩;refine b9 (λi E=>∃v0 v1,E=[v0,v1,↥(((VC i).map (Tr us)).map aP)]) ⟨none,none,rfl⟩ ?_ ?_
 ·rintro i t rest E hi ⟨v0,v1,rfl⟩ KK;obtain⟨l,rfl⟩:=Tv hi;obtain⟨a1,a2⟩:=U.at_ (i:=i) ⋯;obtain⟨b1,b2⟩:=U.at_ l;obtain⟨_,d⟩:=U.nb i _ _ a1 b1;refine⟨_,_,_,_,rfl,a2.up ∅,b2.up ∅,xM a2 b2 d,?_⟩;refine⟨by show(fh aP (fh (Tr us) (VC i))).length<9000;simp;lia,KK _ ⟨⇑(aP (gU us i)),⇑(aP (gU us (i+1))),?_⟩⟩;rw[XA,VE,VE];rfl
 ·rintro E ⟨v0,v1,rfl⟩;rw[Hv];exact⟨dC _,dC _,q⟩
def CP:dF:=λas Q=>∃(u w:Fr×Fr)(us:List (Fr×Fr)),as=[.v (.lst (us.map aP)),.v (.bl false)]/\Us u w us/\Q (.l ((d8 us).map aP)) []
abbrev mX(P w K mg base):=(~~~Fn) 7 "rays_of" ["units","is_least"] (aI K CP)
abbrev vE:fq:=top 53
theorem Pt:aF ["units","is_least"] ["units","is_least"] (aC vE):=dJ
theorem Nz(F:cI K "rays_of" "rays_of" vE f fd)(TX:Txt mg)(tj: ~~~rP):(~~~aS) cL 7 f fd ["units","is_least"] (aI K CP):=by
 refine F.okU Pt (λhr=>(aB (bP (gH (fv 1)) (aE (aG (fv 0))) bE) (aE (aG (iW (iW (bX (f1 (fQ 0))) (fK tj (f1 (fv 0)))) (bX (f1 (fX (fv 0) (c7 aA))))))))) ?_;rintro as Q ⟨u,w,us,rfl,U,q⟩;have n30:=U.n30;have n2:=U.n2;show o1 (dX (us.map aP) ((0:Nat):Int)) _;rw[gR (show(us.map aP)[0]?=oZ (aP (gU us 0)) by rw[UQ,(U.at_ (i:=0) ⋯).1];rfl)];refine⟨u,w,us,rfl,U,?_⟩;refine⟨by show 1+((hX us).map aP).length<=9000;unfold hX;simp;lia,?_⟩;show o1 (dX (us.map aP) (-1)) _;rw[U.atl];refine⟨by show(aP (gU us 0)::(hX us).map aP).length+1<=9000;unfold hX;simp;lia,?_⟩;have e:(aP (gU us 0)::(hX us).map aP)++[aP (gU us (us.length-1))]=(d8 us).map aP:=by
  unfold d8;rw[WQ,VE];rfl
 refine⟨?_,?_⟩
 ·show bM ((aP (gU us 0)::(hX us).map aP)++[aP (gU us (us.length-1))])=true;rw[e];exact dC _
 ·rw[<-e]at q;exact q
def AS(w:Str)(i:Nat)(V:List (Fr×Fr))(mk:Str):L2.T:=.tup [.str w,.int (i:Int),.tup (V.map aP),.str mk]
theorem jV(w:Str)(i:Nat)(V:List (Fr×Fr))(mk:Str):noL (AS w i V mk)=true:=by
 show(true&&(true&&(bM (V.map aP)&&(true&&true))))=true;rw[dC];rfl
def Yb(c:Str)(k:Nat):Str:=(VW "-"++Txt.mul c (k:Int))++VW "-"
def pD(wd:Str)(i:Nat)(P:Fr×Fr)(p:Fr)(us:List (Fr×Fr))(c:Str):L2.T:=AS wd i (P::(d8 us).map (bp P p)) (Yb c us.length)
def NI:dF:=λas Q=>∃(u w:Fr×Fr)(wd:Str)(i:Nat)(P:Fr×Fr)(p:Fr)(us:List (Fr×Fr))(c:Str),as=[.v (.str wd),.v (.int (i:Int)),.v (aP P),.v (fr p),.v (.lst ((d8 us).map aP)),.v (.str c)]/\Nv P.1 P.2 14/\Fw p/\Us u w us/\Mk 1 c/\Q (.v (pD wd i P p us c)) []
abbrev Dn(P w K mg base):=(~~~Fn) 5 "fan" ["word","number","point","far","rays","mark"] (aI K NI)
abbrev F6:fq:=top 54
theorem G0:aF ["word","number","point","far","rays","mark","outline"] ["word","number","point","far","rays","mark"] (aC F6):=dJ
theorem GB(F:cI K "fan" "fan" F6 f fd)(TX:Txt mg)(qu: ~~~sZ)(pj: ~~~l8):(~~~aS) cL 5 f fd ["word","number","point","far","rays","mark"] (aI K NI):=by
 refine F.okU G0 (λhr=>(aB (fS 6 G0.nd (iW (bX (f1 (fv 2))) (fT (N':=["ray","point","far"]) (t:=1) (cap:=[(2,false),(3,false)]) rfl (bD.of rfl) rfl ∅ (gT rfl (fv 4)) (λ_ _ _ _=>(fH 0)) (λ_ _ _ _=>(fK qu (f2 (fv 1) (fK pj (f2 (fv 0) (fv 2))))))))) (aE (aG (aJ (f4 (fv 0) (fv 1) (tR rfl rfl TX.n_tuple (f1 (fv 6))) (wZ (wZ aY (Rf (fv 5) (a7 iY (eD rfl rfl TX.n_len (f1 (fv 4))) aA))) aY))))))) ?_;rintro as Q ⟨u,w,wd,i,P,p,us,c,rfl,nP,fw,U,hc,q⟩;obtain⟨n3,n40,nv⟩:=U.rays;have rl:=zH (us:=us);have n2:=U.n2;refine⟨rfl,?_⟩;refine b9 (λi E=>∃v0,E=[v0,⇑(aP P),⇑(fr p),↥((((d8 us).take i).map (bp P p)).map aP)]) ⟨none,rfl⟩ ?_ ?_
 ·rintro i t rest E hi ⟨v0,rfl⟩ KK;rw[UQ]at hi;obtain⟨r,hr,rfl⟩:=VP.mp hi;have nr:=nv r (UR hr);have il:=(UO.mp hr).1;refine⟨r.1,r.2,p,130,rfl,nr,fw.n,by have:=fw.s;lia,?_⟩;refine⟨P.1,P.2,_,_,14,130+sz p,rfl,nP,kR nr fw.n,by have:=fw.s;lia,?_⟩;refine⟨by show((((d8 us).take i).map (bp P p)).map aP).length<9000;simp;lia,KK _ ⟨⇑(aP r),?_⟩⟩;rw[XT,hr,YO,VE,VE];rfl
 ·rintro E ⟨v0,rfl⟩;rw[UX,YJ];refine⟨dC _,by show 1+(((d8 us).map (bp P p)).map aP).length<=9000;simp;lia,?_⟩;have ej:((((d8 us).map aP).length:Nat):Int)-1=(us.length:Int):=by rw[UX];lia
  have bb:∀{k:Nat},k<=100->k<=big:=λh=>VZ h ∅;have m1:Mk 1 (VW "-"):=Mk.of (by decide +kernel);refine⟨⟨by rw[ej];lia,by rw[ej];exact Int.ofNat_le.mpr (bb ⋯),by rw[ej,WO,hc.len];exact bb ⋯⟩,?_⟩;rw[ej];rintro z1 rfl;have m2:=hc.mul us.length ⋯;refine⟨by rw[m1.len,m2.len];exact bb ⋯,?_⟩;rintro z2 rfl;have m3:=m1.app m2;refine⟨by rw[m3.len,m1.len];exact bb ⋯,?_⟩;rintro z3 rfl;exact⟨jV wd i (P::(d8 us).map (bp P p)) (Yb c us.length),q⟩
theorem Pm.nbr(h:Pm a b ms)(hi:ms[i]?=oZ m)(hk:ms[cY i ms.length]?=oZ mb):
  Nb a b (cJ a b ms) i (rA (px a b ms i) (py a b ms i) m) (rA (px a b ms (cY i ms.length)) (py a b ms (cY i ms.length)) mb) (wM m) (wM mb)/\
  uE a b (cJ a b ms) i (rA (px a b ms (cY i ms.length)) (py a b ms (cY i ms.length)) mb) (wM mb)=eU mb/\uB a b (cJ a b ms) i (rA (px a b ms i) (py a b ms i) m) (wM m)=bU m:=by
 refine⟨⟨h.at_ hi,by rw[fV];exact h.at_ hk⟩,?_,?_⟩
 ·show hE _ _ _ _=_;rw[fV];exact(Yp (h.nv _) (h.ok _ (UR hk))).2
 ·exact(Yp (h.nv _) (h.ok _ (UR hi))).1
theorem An(u w:Fr×Fr):bO u w = "straight"\/(bO u w = "left"/\0<(aU u.1 u.2 w.1 w.2).1)\/(bO u w = "right"/\(aU u.1 u.2 w.1 w.2).1<0)\/bO u w = "back":=by
 unfold bO
 split
 ·exact .inl rfl
 ·split
  ·rename_i h;exact .inr (.inl ⟨rfl,h⟩)
  ·split
   ·rename_i h;exact .inr (.inr (.inl ⟨rfl,h⟩))
   ·exact .inr (.inr (.inr rfl))
abbrev Gv(u:Fr×Fr):Fr×Fr:=(u.2,aQ u.1)
abbrev Aw(u:Fr×Fr):Fr×Fr:=(aQ u.2,u.1)
theorem n9(h:bW u.1 u.2 e):bW (Gv u).1 (Gv u).2 e/\bW (Aw u).1 (Aw u).2 e:=by
 refine⟨⟨⟨h.nv.y,d5 h.nv.x,h.nv.sy,by show sz (aQ u.1)<=e;rw[qJ];exact h.nv.sx⟩,?_⟩,h.left⟩;show val u.2*val u.2+val (aQ u.1)*val (aQ u.1)=1;rw[bV h.nv.x];have:=h.one;grind
theorem MS{u w:Fr×Fr}(h:bW u.1 u.2 e)(k:bW w.1 w.2 f):vX (Gv u) (Gv w)=vX u w/\vX (Aw u) (Aw w)=vX u w/\vX (Gv u) (Aw u)=0/\vX (Aw u) (Gv u)=0:=by
 have a:=bV h.nv.x;have b:=bV h.nv.y;have c:=bV k.nv.x;have d:=bV k.nv.y;unfold vX Gv Aw;simp only;rw[a,b,c,d];exact⟨by grind,by grind,by grind,by grind⟩
theorem pR(h:bW u.1 u.2 e):¬(Aw u=Gv u):=λz=>by
 have e1:aQ u.2=u.2:=congrArg Prod.fst z;have e2:u.1=aQ u.1:=congrArg Prod.snd z;have v1:=bV h.nv.y;rw[e1]at v1;have v2:=bV h.nv.x;rw[<-e2]at v2;have o:=h.one;have z1:val u.1=0:=by grind
 have z2:val u.2=0:=by grind
 rw[z1,z2]at o;grind
theorem OE(h:0<vX a b):¬(b=a):=λz=>by subst z;unfold vX at h;grind
noncomputable def wI (u w:Fr×Fr) (s:Int):List (Fr×Fr):=if bO u w = "left" then Wu (Gv u) (Gv w) s else if bO u w = "right" then Wu (Aw w) (Aw u) s else Wu (Gv u) (Aw u) s
def Uy(wd:Str):Str:=if wd = "left" then "r" else if wd = "right" then "l" else "b"
theorem uL{u w:Fr×Fr}{s:Int}(ue:bW u.1 u.2 4)(ub:bW w.1 w.2 4){G:Prop}(h1:u=w->bO u w = "straight"->G)(h2:bO u w = "left"->Gv w≠Gv u->wI u w s=Wu (Gv u) (Gv w) s->G)(h3:bO u w = "right"->Aw u≠Aw w->wI u w s=Wu (Aw w) (Aw u) s->G)(h4:bO u w = "back"->Aw u≠Gv u->wI u w s=Wu (Gv u) (Aw u) s->G):G:=by
 obtain⟨x1,_,_,_⟩:=MS ue ub;have y2:vX (Aw w) (Aw u)=vX w u:=(MS ub ue).2.1;have vx:val (aU u.1 u.2 w.1 w.2)=vX u w:=eC ue.nv ub.nv;have nx:=cU ue.nv ub.nv
 by_cases e:u=w
 ·exact h1 e (by unfold bO;rw[oV e])
 obtain c|⟨c,c0⟩|⟨c,c0⟩|c:=An u w
 ·refine absurd c ?_;unfold bO;rw[oW e]
  split
  ·decide
  ·split
   ·decide
   ·decide
 ·have p0:=(lY nx).2 c0;rw[vx,<-x1]at p0;exact h2 c (OE p0) (by unfold wI;rw[oV c])
 ·have p0:=(Al nx).2 c0;rw[vx]at p0;have p1:0<vX w u:=by unfold vX at *;grind
  rw[<-y2]at p1;exact h3 c (OE p1) (by unfold wI;rw[c,oW ∅,oV rfl])
 ·exact h4 c (pR ue) (by unfold wI;rw[c,oW ∅,oW ∅])
def CC:dF:=λas Q=>∃(a b:Fr)(ms:List Mv)(i:Nat)(m mb:Mv)(s:Int),as=[.v (cG a b (cJ a b ms)),.v (.int (i:Int)),.v (.str (bO (eU mb) (bU m))),.v (.int s)]/\Pm a b ms/\ms[i]?=oZ m/\ms[cY i ms.length]?=oZ mb/\
 bO (eU mb) (bU m)≠"straight"/\(s=1\/s=2\/s=3)/\∀x y,Us x y (wI (eU mb) (bU m) s)->Q (.l ((wI (eU mb) (bU m) s).map aP)) []
abbrev sU(P w K mg base):=(~~~Fn) 10 "fan_units" ["path","number","word","steps"] (aI K CC)
abbrev pT:fq:=top 55
theorem nK:aF ["path","number","word","steps","u","w"] ["path","number","word","steps"] (aC pT):=dJ
theorem Fv(F:cI K "fan_units" "fan_units" pT f fd)(TX:Txt mg)(pg: ~~~gW)(mj: ~~~cC)(oi: ~~~iU)(pb: ~~~jJ):(~~~aS) cL 10 f fd ["path","number","word","steps"] (aI K CC):=by
 refine F.okU nK (λhr=>(aB (gG (fK pg (f2 (fv 0) (fv 1))) (dA (n:=2) rfl rfl (aK (fG 4 nK.nd) (aK (fG 5 nK.nd) cA)))) (aB (bP (eJ rfl hr (fv 2) aY (aZ _)) (aE (aG (fK mj (f3 (fK pb (f1 (fv 4))) (fK pb (f1 (fv 5))) (fv 3))))) bE) (aB (bP (eJ rfl hr (fv 2) aY (aZ _)) (aE (aG (fK mj (f3 (fK oi (f1 (fv 5))) (fK oi (f1 (fv 4))) (fv 3))))) bE) (aE (aG (fK mj (f3 (fK pb (f1 (fv 4))) (fK oi (f1 (fv 4))) (fv 3))))))))) ?_;rintro as Q ⟨a,b,ms,i,m,mb,s,rfl,h,hi,hk,ns,hs,q⟩;obtain⟨nb,e1,e2⟩:=h.nbr hi hk;have ue:=(h.ok _ (UR hk)).eu;have ub:=(h.ok _ (UR hi)).bu;refine⟨a,b,_,i,_,_,_,_,rfl,nb,?_⟩;rw[e1,e2];generalize eU mb=u at *;generalize bU m=w at *;obtain⟨r1,l1⟩:=n9 ue;obtain⟨r2,l2⟩:=n9 ub;refine⟨UU _,?_⟩;refine uL (s:=s) ue ub (λ_ c=>absurd c ns) (λc n e=>?_) (λc n e=>?_) (λc n e=>?_)
 ·rw[c];rw[e]at q;refine⟨u.1,u.2,rfl,w.1,w.2,rfl,_,_,_,_,s,4,4,rfl,r1,r2,∅,∅,∅,hs,λk k' _ _ r r'=>?_⟩;rw[show qW _ _ _ _ s k k'=_ from mO r1 r2 n hs r r'];exact⟨dC _,q _ _ (eF r1 r2 n hs).U⟩
 ·rw[c];rw[e]at q;refine⟨UU _,w.1,w.2,rfl,u.1,u.2,rfl,_,_,_,_,s,4,4,rfl,l2,l1,∅,∅,∅,hs,λk k' _ _ r r'=>?_⟩;rw[show qW _ _ _ _ s k k'=_ from mO l2 l1 n hs r r'];exact⟨dC _,q _ _ (eF l2 l1 n hs).U⟩
 ·rw[c];rw[e]at q;refine⟨UU _,u.1,u.2,rfl,u.1,u.2,rfl,_,_,_,_,s,4,4,rfl,r1,l1,∅,∅,∅,hs,λk k' _ _ r r'=>?_⟩;rw[show qW _ _ _ _ s k k'=_ from mO r1 l1 n hs r r'];exact⟨dC _,q _ _ (eF r1 l1 n hs).U⟩
def BY:dF:=λas Q=>∃(a b:Fr)(ms:List Mv)(i:Nat)(m mb:Mv)(p:Fr)(s:Int),as=[.v (cG a b (cJ a b ms)),.v (.int (i:Int)),.v (.str (bO (eU mb) (bU m))),.v (fr p),.v (.int s),.v (.bl false)]/\Pm a b ms/\ms[i]?=oZ m/\ms[cY i ms.length]?=oZ mb/\
 bO (eU mb) (bU m)≠"straight"/\Fw p/\(s=1\/s=2\/s=3)/\Q (.v (pD "fan" i (px a b ms i,py a b ms i) p (wI (eU mb) (bU m) s) (Uy (bO (eU mb) (bU m))))) []
abbrev rE(P w K mg base):=(~~~Fn) 11 "corner_fan" ["path","number","word","far","steps","is_least"] (aI K BY)
abbrev nA:fq:=top 56
theorem rN:aF ["path","number","word","far","steps","is_least","rays"] ["path","number","word","far","steps","is_least"] (aC nA):=dJ
theorem Ay(F:cI K "corner_fan" "corner_fan" nA f fd)(TX:Txt mg)(qt: ~~~mX)(vf: ~~~sU)(wq: ~~~Dn)(ph: ~~~jG)(vg:uF mg w K "FAN_MARKS" "left" "r" "right" "l" "back" "b"):(~~~aS) cL 11 f fd ["path","number","word","far","steps","is_least"] (aI K BY):=by
 refine F.okU rN (λhr=>(aB (fS 6 rN.nd (fK qt (f2 (fK vf (f4 (fv 0) (fv 1) (fv 2) (fv 4))) (fv 5)))) (aE (aG (fK wq (fc aY (fc (fv 1) (f4 (fK ph (f2 (fv 0) (fv 1))) (fv 3) (fv 6) (Rb rfl rfl vg (fv 2) (λ_ _=>rfl)))))))))) ?_;rintro as Q ⟨a,b,ms,i,m,mb,p,s,rfl,h,hi,hk,ns,fw,hs,q⟩;have hl:=(UO.mp hi).1;refine⟨a,b,ms,i,m,mb,s,rfl,h,hi,hk,ns,hs,λx y U=>?_⟩;refine⟨x,y,_,rfl,U,?_⟩;refine⟨a,b,_,i,rfl,by rw[fV];exact hl,?_⟩;have mc:wC "left" "r" "right" "l" "back" "b" (bO (eU mb) (bU m))=oZ (Uy (bO (eU mb) (bU m)))/\Mk 1 (Uy (bO (eU mb) (bU m))):=by
  obtain c|⟨c,_⟩|⟨c,_⟩|c:=An (eU mb) (bU m)
  ·exact absurd c ns
  all_goals rw[c];exact⟨by decide +kernel,Mk.of (by decide +kernel)⟩
 obtain⟨ec,mc⟩:=mc;show o1 ((wC "left" "r" "right" "l" "back" "b" (bO (eU mb) (bU m))).map L2.T.str) _;rw[ec];exact⟨x,y,_,i,(px a b ms i,py a b ms i),p,_,_,rfl,h.nv i,fw,U,mc,jV ..,q⟩
noncomputable def Mb (a b:Fr) (ms:List Mv) (p:Fr) (s:Int) (m:Mv):L2.T:=pD "cap" 0 (a,b) p (Wu (Aw (bU m)) (Gv (bU m)) s) "e"
noncomputable def DM (a b:Fr) (ms:List Mv) (p:Fr) (s:Int) (m:Mv):L2.T:=pD "cap" (ms.length-1) (px a b ms ms.length,py a b ms ms.length) p (Wu (Gv (eU m)) (Aw (eU m)) s) "e"
def K3:dF:=λas Q=>∃(a b:Fr)(ms:List Mv)(m:Mv)(p:Fr)(s:Int),as=[.v (cG a b (cJ a b ms)),.v (fr p),.v (.int s),.v (.bl false)]/\Pm a b ms/\ms[0]?=oZ m/\Fw p/\(s=1\/s=2\/s=3)/\Q (.v (Mb a b ms p s m)) []
abbrev tE(P w K mg base):=(~~~Fn) 9 "start_cap" oJ (aI K K3)
abbrev qA:fq:=top 57
theorem nN:aF ["path","far","steps","is_least","u","rays"] oJ (aC qA):=dJ
theorem Ge(F:cI K "start_cap" "start_cap" qA f fd)(TX:Txt mg)(pe: ~~~jH)(qt: ~~~mX)(mj: ~~~cC)(oi: ~~~iU)(pb: ~~~jJ)(wq: ~~~Dn):(~~~aS) cL 9 f fd oJ (aI K K3):=by
 refine F.okU nN (λhr=>(aB (fS 4 nN.nd (fX (fK pe (f2 (fv 0) aA)) aA)) (aB (fS 5 nN.nd (fK qt (f2 (fK mj (f3 (fK oi (f1 (fv 4))) (fK pb (f1 (fv 4))) (fv 2))) (fv 3)))) (aE (aG (fK wq (fc aY (fc aA (f4 (fQ 0) (fv 1) (fv 5) aY))))))))) ?_;rintro as Q ⟨a,b,ms,m,p,s,rfl,h,hi,fw,hs,q⟩;have pa:=h.at_ hi;have hd:=h.head hi;have ub:=(h.ok _ (UR hi)).bu;refine⟨a,b,_,0,_,_,rfl,pa,?_⟩;rw[hd];unfold Mb at q;generalize bU m=u at *;obtain⟨r1,l1⟩:=n9 ub;refine⟨u.1,u.2,rfl,u.1,u.2,rfl,_,_,_,_,s,4,4,rfl,l1,r1,∅,∅,∅,hs,λk k' _ _ r r'=>?_⟩;rw[show qW _ _ _ _ s k k'=_ from mO l1 r1 (λz=>pR ub z.symm) hs r r'];have U:=(eF l1 r1 (λz=>pR ub z.symm) hs).U;exact⟨_,_,_,rfl,U,_,_,_,0,(a,b),p,_,_,rfl,h.nv 0,fw,U,Mk.of (by decide +kernel),jV ..,q⟩
def NH:dF:=λas Q=>∃(a b:Fr)(ms:List Mv)(m:Mv)(p:Fr)(s:Int),as=[.v (cG a b (cJ a b ms)),.v (fr p),.v (.int s),.v (.bl false)]/\Pm a b ms/\ms[ms.length-1]?=oZ m/\Fw p/\(s=1\/s=2\/s=3)/\Q (.v (DM a b ms p s m)) []
abbrev xP(P w K mg base):=(~~~Fn) 9 "end_cap" oJ (aI K NH)
abbrev u6:fq:=top 58
theorem nJ:aF ["path","far","steps","is_least","last","u","rays"] oJ (aC u6):=dJ
theorem Nr(F:cI K "end_cap" "end_cap" u6 f fd)(TX:Txt mg)(pe: ~~~jH)(qt: ~~~mX)(mj: ~~~cC)(oi: ~~~iU)(pb: ~~~jJ)(wq: ~~~Dn)(nq: ~~~g8):(~~~aS) cL 9 f fd oJ (aI K NH):=by
 refine F.okU nJ (λhr=>(aB (fS 4 nJ.nd (a7 iY (eD rfl rfl TX.n_len (f1 (fQ 0))) aA)) (aB (fS 5 nJ.nd (fX (fK pe (f2 (fv 0) (fv 4))) aA)) (aB (fS 6 nJ.nd (fK qt (f2 (fK mj (f3 (fK pb (f1 (fv 5))) (fK oi (f1 (fv 5))) (fv 2))) (fv 3)))) (aE (aG (fK wq (fc aY (fc (fv 4) (f4 (fK nq (f1 (fX (fQ 0) (fv 4)))) (fv 1) (fv 6) aY)))))))))) ?_;rintro as Q ⟨a,b,ms,m,p,s,rfl,h,hi,fw,hs,q⟩;have pa:=h.at_ hi;have hd:=h.head hi;have hp:=jX ms a b _ _ hi;have ub:=(h.ok _ (UR hi)).eu;have n1:=XX.mpr h.ne;obtain⟨ex,ey⟩:=xF (a:=a) (b:=b) hi;have nv:=h.nv (ms.length-1+1);have ej:((((cJ a b ms).map kB).length:Nat):Int)-1=((ms.length-1:Nat):Int):=by rw[UX,fV];lia
 refine⟨a,b,_,ms.length-1,_,_,?_,pa,?_⟩
 ·show[A.v (cG a b (cJ a b ms)),A.v (.int (((((cJ a b ms).map kB).length:Nat):Int)-1))]=_;rw[ej]
 rw[hd];unfold DM at q;generalize eU m=u at *;obtain⟨r1,l1⟩:=n9 ub;refine⟨u.1,u.2,rfl,u.1,u.2,rfl,_,_,_,_,s,4,4,rfl,r1,l1,∅,∅,∅,hs,λk k' _ _ r r'=>?_⟩;rw[show qW _ _ _ _ s k k'=_ from mO r1 l1 (pR ub) hs r r'];have U:=(eF r1 l1 (pR ub) hs).U;refine⟨_,_,_,rfl,U,?_⟩;show o1 (dX ((cJ a b ms).map kB) (((((cJ a b ms).map kB).length:Nat):Int)-1)) _;rw[ej,rM hp];refine⟨_,rfl,?_⟩;rw[show ms.length-1+1=ms.length by lia]at ex ey nv;rw[ex,ey]at nv q;exact⟨_,_,_,ms.length-1,(_,_),p,_,VW "e",rfl,nv,fw,U,Mk.of (by decide +kernel),jV ..,q⟩
def BX:dF:=λas Q=>∃(a b:Fr)(ms:List Mv)(i:Nat)(x y u v r:Fr)(l:Bool),as=[.v (cG a b (cJ a b ms)),.v (.int (i:Int))]/\Pm a b ms/\ms[i]?=oZ (.arc x y u v r l)/\
 Q (.v (if l=true then .tup [vc (aN x r) (aN y r),vc (aN u r) (aN v r)]else .tup [vc (aN u r) (aN v r),vc (aN x r) (aN y r)])) []
abbrev oS(P w K mg base):=(~~~Fn) 5 "arc_vectors" oI (aI K BX)
abbrev lO:fq:=top 27
theorem iI:aF ["path","number","piece","begin","to"] oI (aC lO):=dJ
theorem yZ(F:cI K "arc_vectors" "arc_vectors" lO f fd)(TX:Txt mg)(qe: ~~~lZ)(ph: ~~~jG)(nq: ~~~g8):(~~~aS) cL 5 f fd oI (aI K BX):=by
 refine F.okU iI (λhr=>(aB (fS 2 iI.nd (fX (fQ 0) (fv 1))) (aB (fS 3 iI.nd (fK qe (f2 (fK ph (f2 (fv 0) (fv 1))) (fQ 2)))) (aB (fS 4 iI.nd (fK qe (f2 (fK nq (f1 (fv 2))) (fQ 2)))) (aE (aG (pE (eJ rfl hr (fQ 2) aY (aZ _)) (aJ (f2 (fv 3) (fv 4))) (aJ (f2 (fv 4) (fv 3)))))))))) ?_;rintro as Q ⟨a,b,ms,i,x,y,u,v,r,l,rfl,h,hi,q⟩;have hl:=(UO.mp hi).1;have hp:=jX ms a b _ _ hi;have ok:=h.ok _ (UR hi);have n0:=h.nv i;obtain⟨e1,e2,e3,e4⟩:=yA n0 ok;obtain⟨o1,o2,_,nr,sr,_⟩:=id ok;have sx:=lG o1.nv nr (show sz r<=4 by lia);have su:=lG o2.nv nr (show sz r<=4 by lia);have nm:=Ft n0 sx;have ne:=Np nm su;show L2.o1 (dX ((cJ a b ms).map kB) (i:Int)) _;rw[rM hp]
 change Nv (cV a (XB i (cJ a b ms))) (cW b (XB i (cJ a b ms))) 14 at n0
 change aT (cV a (XB i (cJ a b ms))) (aT (cV a (XB i (cJ a b ms))) (aN x r))=aN x r at e1
 change aT (cW b (XB i (cJ a b ms))) (aT (cW b (XB i (cJ a b ms))) (aN y r))=aN y r at e2
 refine⟨a,b,_,i,rfl,by rw[fV];exact hl,?_⟩;refine⟨_,_,_,_,14,_,rfl,n0,nm,∅,?_⟩;refine⟨_,rfl,?_⟩;refine⟨_,_,_,_,_,_,rfl,ne,nm,∅,?_⟩
 change aT (bH (aT (cV a (XB i (cJ a b ms))) (aN x r)) (aN u r)) (aT (cV a (XB i (cJ a b ms))) (aN x r))=aN u r at e3
 change aT (bH (aT (cW b (XB i (cJ a b ms))) (aN y r)) (aN v r)) (aT (cW b (XB i (cJ a b ms))) (aN y r))=aN v r at e4
 rw[e1,e2];show told _ _ (.v (vc (aT (bH (aT (cV a (XB i (cJ a b ms))) (aN x r)) (aN u r)) (aT (cV a (XB i (cJ a b ms))) (aN x r))) (aT (bH (aT (cW b (XB i (cJ a b ms))) (aN y r)) (aN v r)) (aT (cW b (XB i (cJ a b ms))) (aN y r)))));rw[e3,e4];refine⟨UU _,?_⟩;cases l with
 |true=>exact⟨rfl,q⟩
 |false=>exact⟨rfl,q⟩
noncomputable def Aq (x y u v:Fr) (l:Bool) (s:Int):List (Fr×Fr):=if l=true then Wu (x,y) (u,v) s else Wu (u,v) (x,y) s
theorem Lx{s:Int}(ok:gJ (.arc x y u v r l))(hs:s=1\/s=2\/s=3):∃a b,UB a b s (Aq x y u v l s):=by
 obtain⟨o1,o2,ne,_⟩:=ok;cases l with
 |true=>exact⟨(x,y),(u,v),eF o1 o2 (λz=>ne ⟨(congrArg Prod.fst z).symm,(congrArg Prod.snd z).symm⟩) hs⟩
 |false=>exact⟨(u,v),(x,y),eF o2 o1 (λz=>ne ⟨congrArg Prod.fst z,congrArg Prod.snd z⟩) hs⟩
def BW:dF:=λas Q=>∃(a b:Fr)(ms:List Mv)(i:Nat)(x y u v r:Fr)(l:Bool)(s:Int),as=[.v (cG a b (cJ a b ms)),.v (.int (i:Int)),.v (.int s)]/\Pm a b ms/\ms[i]?=oZ (.arc x y u v r l)/\(s=1\/s=2\/s=3)/\Q (.l ((Aq x y u v l s).map aP)) []
abbrev sS(P w K mg base):=(~~~Fn) 8 "arc_units" ["path","number","steps"] (aI K BW)
abbrev pS:fq:=top 59
theorem nI:aF ["path","number","steps","first","last"] ["path","number","steps"] (aC pS):=dJ
theorem Fu(F:cI K "arc_units" "arc_units" pS f fd)(TX:Txt mg)(ui: ~~~oS)(mj: ~~~cC)(qo: ~~~mY):(~~~aS) cL 8 f fd ["path","number","steps"] (aI K BW):=by
 refine F.okU nI (λhr=>(aB (gG (fK ui (f2 (fv 0) (fv 1))) (dA (n:=2) rfl rfl (aK (fG 3 nI.nd) (aK (fG 4 nI.nd) cA)))) (aE (aG (fK mj (f3 (fK qo (f1 (fv 3))) (fK qo (f1 (fv 4))) (fv 2))))))) ?_;rintro as Q ⟨a,b,ms,i,x,y,u,v,r,l,s,rfl,h,hi,hs,q⟩;obtain⟨o1,o2,ne,nr,sr,r0,_⟩:=h.ok _ (UR hi);have l1:=tT o1 nr (show sz r<=4 by lia) r0;have l2:=tT o2 nr (show sz r<=4 by lia) r0;have ex:=gP o1.nv.x nr r0;have ey:=gP o1.nv.y nr r0;have eu:=gP o2.nv.x nr r0;have ev:=gP o2.nv.y nr r0;refine⟨a,b,ms,i,x,y,u,v,r,l,rfl,h,hi,?_⟩;cases l with
 |true=>
  refine⟨_,_,r,rfl,l1,_,_,r,rfl,l2,?_⟩;rw[ex,ey,eu,ev];refine⟨x,y,u,v,s,4,4,rfl,o1,o2,∅,∅,∅,hs,λk k' _ _ r1 r2=>?_⟩;rw[show qW _ _ _ _ s k k'=_ from mO (u:=(x,y)) (w:=(u,v)) o1 o2 (λz=>ne ⟨(congrArg Prod.fst z).symm,(congrArg Prod.snd z).symm⟩) hs r1 r2];exact⟨dC _,q⟩
 |false=>
  refine⟨_,_,r,rfl,l2,_,_,r,rfl,l1,?_⟩;rw[ex,ey,eu,ev];refine⟨u,v,x,y,s,4,4,rfl,o2,o1,∅,∅,∅,hs,λk k' _ _ r1 r2=>?_⟩;rw[show qW _ _ _ _ s k k'=_ from mO (u:=(u,v)) (w:=(x,y)) o2 o1 (λz=>ne ⟨congrArg Prod.fst z,congrArg Prod.snd z⟩) hs r1 r2];exact⟨dC _,q⟩
def uO(r p ls:Fr):Fr:=if val r<=val p then(0,1)else aN (aT r p) (b7 (bH (1,1) ls) (2,1))
theorem Yw(nr:bI r)(sr:sz r<=4)(fw:Fw p)(nl:bI ls)(sl:sz ls<=310)(l0:0<=val ls):bI (uO r p ls)/\sz (uO r p ls)<=340/\
  (uO r p ls=(0,1)↔val r<=val p)/\(val p<val r->val (uO r p ls)=(val r-val p)*((1+val ls)/2)):=by
 have sp:=fw.s;have p0:=fw.pos;have n1:=dD nr fw.n;have n2:=cH (aM 1) nl;have nt:bI ((2,1):Fr):=aM 2;have t0:((2,1):Fr).1≠0:=∅
 have s1:=lX nr fw.n;have s2:=gZ (aM 1) nl;have s3:=qV n2 t0;have o:=Qa;have st:sz ((2,1):Fr)=2:=∅
 have n3:=gN n2 t0;have s4:=cF n1 n3
 by_cases c:val r<=val p
 ·unfold uO;rw[oV c];refine⟨aM 0,∅,by simp[c],λz=>by grind⟩
 ·unfold uO;rw[oW c];have e:val (aN (aT r p) (b7 (bH (1,1) ls) (2,1)))=(val r-val p)*((1+val ls)/2):=by
   rw[bB n1 n3,dE nr fw.n,jR n2 nt t0,cN (aM 1) nl,iR,d6];rfl
  have h1:0<(1+val ls)/2:=by grind
  have h3:0<val r-val p:=by grind
  have pos:=Rat.mul_pos h3 h1;refine⟨aO n1 n3,⋯,⟨λz=>?_,λz=>absurd z c⟩,λ_=>e⟩;rw[z,mQ]at e;grind
def J8:dF:=λas Q=>∃r p ls:Fr,as=[.v (fr r),.v (fr p),.v (fr ls)]/\bI r/\sz r<=4/\Fw p/\bI ls/\sz ls<=310/\Q (.v (fr (uO r p ls))) []
abbrev vV(P w K mg base):=(~~~Fn) 4 "inner_of" ["radius","far","least"] (aI K J8)
abbrev sD:fq:=top 60
theorem Kn:aF ["radius","far","least"] ["radius","far","least"] (aC sD):=dJ
theorem Jv(F:cI K "inner_of" "inner_of" sD f fd)(TX:Txt mg)(qk: ~~~lE)(oq: ~~~kI)(qf: ~~~l9)(sf: ~~~sY)(oh: ~~~iB)(tu:nW mg K "NOUGHT" (.tup [.int 0,.int 1]))(uo:nW mg K "ONE_blocks" (.tup [.int 1,.int 1]))(aB8:nW mg K "TWO" (.tup [.int 2,.int 1])):(~~~aS) cL 4 f fd ["radius","far","least"] (aI K J8):=by
 refine F.okU Kn (λhr=>(aB (bP (fP Sa (fK qk (f2 (fv 1) (fv 0))) aA) (aE (aG (jA rfl tu))) bE) (aE (aG (fK oq (f2 (fK qf (f2 (fv 0) (fv 1))) (fK sf (f2 (fK oh (f2 (jA rfl uo) (fv 2))) (jA rfl aB8))))))))) ?_;rintro as Q ⟨r,p,ls,rfl,nr,sr,fw,nl,sl,q⟩;have sp:=fw.s;refine⟨p,r,rfl,fw.n,nr,⋯,⋯,λk hk=>?_⟩;show if decide (k>=0)=true then _ else _;unfold uO at q
 by_cases c:0<=k
 ·rw[oV (oY c)];rw[oV (by have:=hk.2;grind)]at q;exact⟨rfl,q⟩
 ·rw[oW (by simpa using c)];have lt:val p<val r:=hk.1 ⋯;rw[oW (by grind)]at q;have n1:=dD nr fw.n;have n2:=cH (aM 1) nl;have nt:bI ((2,1):Fr):=aM 2;have t0:((2,1):Fr).1≠0:=∅
  have s1:=lX nr fw.n;have s2:=gZ (aM 1) nl;have s3:=qV n2 t0;have o:=Qa;have st:sz ((2,1):Fr)=2:=∅
  have n3:=gN n2 t0;refine⟨r,p,rfl,nr,fw.n,⋯,?_⟩;refine⟨(1,1),ls,rfl,aM 1,nl,⋯,?_⟩;refine⟨_,(2,1),rfl,n2,nt,t0,⋯,?_⟩;exact⟨_,_,rfl,n1,n3,⋯,rfl,q⟩
theorem OQ{u w:Fr×Fr}{us:List (Fr×Fr)}(U:Us u w us){i:Nat}(h:(eO ((hX us).map aP) (gL (us.map aP) (oZ 1) none))[i]?=oZ t):i+1<us.length/\t = .tup [aP (Tr us i),aP (gU us (i+1))]:=by
 obtain⟨x,y,h1,h2,rfl⟩:=mR h;have e1:=eV (us.map aP) 1;rw[show gL (us.map aP) (oZ 1) none=(us.map aP).drop 1 from e1,YN,UQ,YH 1 i]at h2;obtain⟨b,hb,rfl⟩:=VP.mp h2;have l:=(UO.mp hb).1;rw[(U.at_ l).1]at hb;cases hb;unfold hX at h1;rw[UQ,UQ,WS ⋯]at h1;cases h1;exact⟨l,rfl⟩
theorem IQ(us:List (Fr×Fr)):(eO ((hX us).map aP) (gL (us.map aP) (oZ 1) none)).length=us.length-1:=by
 have e1:=eV (us.map aP) 1;rw[i9,show gL (us.map aP) (oZ 1) none=(us.map aP).drop 1 from e1,XI,UX];unfold hX;simp
def CZ:dF:=λas Q=>∃(u w:Fr×Fr)(us:List (Fr×Fr)),as=[.v (.lst (us.map aP))]/\Us u w us/\Q (.l ((Hz us).map aP)) []
abbrev tG(P w K mg base):=(~~~Fn) 7 "with_tips" ["units"] (aI K CZ)
abbrev qC:fq:=top 61
theorem kE:aF ["units","rays","tip","unit"] ["units"] (aC qC):=dJ
theorem Gg(F:cI K "with_tips" "with_tips" qC f fd)(TX:Txt mg)(tj: ~~~rP):(~~~aS) cL 7 f fd ["units"] (aI K CZ):=by
 refine F.okU kE (λhr=>(aB (fS 1 kE.nd (bX (f1 (fQ 0)))) (aB (jS PassesOwn.never rfl (qQ rfl rfl TX.n_zip (f2 (fK tj (f1 (fv 0))) (dH rfl (fv 0) (dQ aA) iF))) (dA (n:=2) rfl rfl (aK (fG 2 kE.nd) (aK (fG 3 kE.nd) cA))) (aB (dY (eB rfl (fv 1) (f1 (fv 2)))) (aE (dY (eB rfl (fv 1) (f1 (fv 3))))))) (aE (aG (fv 1)))))) ?_;rintro as Q ⟨u,w,us,rfl,U,q⟩;have n30:=U.n30;have n2:=U.n2;show o1 (dX (us.map aP) ((0:Nat):Int)) _;rw[gR (show(us.map aP)[0]?=oZ (aP (gU us 0)) by rw[UQ,(U.at_ (i:=0) ⋯).1];rfl)];refine⟨u,w,us,rfl,U,?_⟩;refine cK (λi E=>∃v2 v3:Option L2.U,E=[⇑(.lst (us.map aP)),↥(((VC (2*i+1)).map (cO us)).map aP),v2,v3]) ⟨none,none,rfl⟩ ?_ ?_
 ·rintro i t rest E hi ⟨v2,v3,rfl⟩ KK;obtain⟨l,rfl⟩:=OQ U hi;have e1:cO us (2*i+1)=Tr us i:=by unfold cO;rw[oW ⋯,show(2*i+1)/2=i by lia]
  have e2:cO us (2*i+2)=gU us (i+1):=by unfold cO;rw[oV ⋯,show(2*i+2)/2=i+1 by lia]
  refine⟨by simp;lia,by simp;lia,KK _ ⟨⇑(aP (Tr us i)),⇑(aP (gU us (i+1))),?_⟩⟩;have e3:((VC (2*(i+1)+1)).map (cO us)).map aP=(((VC (2*i+1)).map (cO us)).map aP++[aP (Tr us i)])++[aP (gU us (i+1))]:=by
   rw[show 2*(i+1)+1=2*i+1+1+1 by lia,XA (n:=2*i+1+1),XA (n:=2*i+1),VE,VE,VE,VE,<-e1,<-e2];rfl
  rw[e3];rfl
 ·rintro E ⟨v2,v3,rfl⟩;rw[IQ,show 2*(us.length-1)+1=2*us.length-1 by lia];exact⟨dC _,q⟩
theorem LD:∀l:List Str,lV (cg ⟨#[]⟩ l)=(l.map lV).flatten:=λl=>by
 show lV (Builtin.Str.glued ⟨#[]⟩ l)=_;rw[StrLaws.glued_eq_join]
 induction l with
 |nil=>rfl
 |cons a r ih=>
  cases r with
  |nil=>simp[Str.join,lV]
  |cons b r=>
   have:Str.join ⟨#[]⟩ (a::b::r)=a++⟨#[]⟩++Str.join ⟨#[]⟩ (b::r):=rfl;rw[this,Hn,Hn,ih];simp[lV]
theorem pM:∀l:List Str,bM (l.map L2.T.str)=true
 |[]=>rfl
 |a::l=>by show(true&&bM (l.map L2.T.str))=true;rw[pM l];rfl
theorem Jf{α:Type}{T:Prop}{G R:α->Prop}(h:(∀a,R a->G a)->T)(k:∀a,R a->G a):T:=h k
def RT(n:Nat)(l:Bool):Str:=(if l=true then["-r-","lr-l","-rll","-r-l"]else["-l-","rl-r","-lrr","-l-r"]:List Str).getD n ""
def Kj(w:Bool)(k j:Nat):Nat:=if w=true then 0 else if j=0 then 1 else if j+1=k then 2 else 3
theorem BP(w:Bool)(k j:Nat):Kj w k j=0\/Kj w k j=1\/Kj w k j=2\/Kj w k j=3:=by unfold Kj;grind
def d9(w l:Bool)(many j:Nat):Str:=RT (Kj w many j) l
def jM(w l:Bool)(k:Nat):List Str:=(VC k).map (d9 w l k)
def IY(c:Nat):Nat:=if c=108 then 114 else if c=114 then 108 else c
theorem Y3(w:Bool)(k j:Nat):(∀c∈lV (d9 w true k j),c=45\/c=108\/c=114)/\(lV (d9 w true k j)).length<=4/\lV (d9 w false k j)=(lV (d9 w true k j)).map IY:=by
 have fD:∀z y:Str,((lV z).all (λc=>c==45||c==108||c==114)&&decide ((lV z).length<=4)&&decide (lV y=(lV z).map IY))=true->(∀c∈lV z,c=45\/c=108\/c=114)/\(lV z).length<=4/\lV y=(lV z).map IY:=λz y h=>by
  rw[VN,VN]at h;refine⟨λc hc=>?_,of_decide_eq_true h.1.2,of_decide_eq_true h.2⟩;have:=WM.mp h.1.1 c hc
  simpa[or_assoc]using this
 unfold d9;rcases BP w k j with e|e|e|e<;>rw[e]<;>exact fD _ _ (by decide +kernel)
def uT(c:Nat):Str:=⟨#[c]⟩
theorem UH(c:Nat)(h:c=45\/c=108\/c=114):wC "l" "r" "r" "l" "-" "-" ⟨#[c]⟩=oZ (uT (IY c)):=by
 rcases h with rfl|rfl|rfl<;>decide +kernel
theorem IG(h:lV a=lV b):a=b:=by
 cases a;cases b;exact congrArg Str.mk (Array.toList_inj.mp h)
theorem Zd(l:List Nat)(hl:l.length<=100):JoinOk (VW "") (l.map uT)=true/\lV (cg (VW "") (l.map uT))=l:=by
 have fl:∀l:List Nat,((l.map uT).map (·.length)).sum=l.length/\((l.map uT).map lV).flatten=l:=λl=>by
  induction l with
  |nil=>exact⟨rfl,rfl⟩
  |cons a r ih=>
   rw[WQ,WQ,WQ,List.sum_cons,XH,ih.1,ih.2,VQ];exact⟨show 1+_=_ by lia,rfl⟩
 obtain⟨f1,f2⟩:=fl l;have z:(VW "").length=0:=rfl;have tl:Builtin.Str.tooLong (((l.map uT).map (·.length)).sum+(l.map uT).length*(VW "").length)=false:=by
  unfold Builtin.Str.tooLong;rw[f1,z,Nat.mul_zero,Nat.add_zero];exact oX (by have:=Xg (show l.length<=big from VZ hl ∅);lia)
 refine⟨?_,?_⟩
 ·unfold JoinOk;rw[StrLaws.joinTotal,tl];rfl
 ·show lV (cg ⟨#[]⟩ (l.map uT))=_;rw[LD,f2]
theorem pQ{w l:Bool}{k j:Nat}(h:j<k):(jM w l k)[j]?=oZ (d9 w l k j):=by unfold jM;rw[UQ,WS h];rfl
theorem E8(h:2<=k):jM false true k=VW "lr-l"::(US (k-2) (VW "-r-l")++[VW "-rll"]):=by
 refine aw λj=>?_;obtain c|c:=WG j k
 ·rw[pQ c];unfold d9 Kj;rw[oW ∅]
  by_cases z:j=0
  ·subst z;rfl
  ·obtain⟨i,rfl⟩:∃i,j=i+1:=⟨j-1,⋯⟩;rw[oW z,ZL]
   by_cases d:i+1+1=k
   ·rw[oV d,VU (by simp;lia),XR,show i-(k-2)=0 by lia];rfl
   ·rw[oW d,VO (by simp;lia),XW,oV ⋯];rfl
 ·rw[WT (by unfold jM;simp;lia),WT (by simp;lia)]
theorem Sm(k:Nat)(z:Str):D9 (k:Int) [L2.T.str z]=(US k z).map L2.T.str:=by
 unfold D9;rw[WO]
 induction k with
 |zero=>rfl
 |succ k ih=>rw[WI,XH,ih,WI];rfl
def NT:dF:=λas Q=>∃(k:Nat)(w l:Bool),as=[.v (.int (k:Int)),.v (.bl w),.v (.str (mN l))]/\2<=k/\k<=100/\Q (.l ((jM w l k).map L2.T.str)) []
abbrev nY(P w K mg base):=(~~~Fn) 1 "sector_marks" ["many","is_whole","turn"] (aI K NT)
abbrev kY:fq:=top 62
theorem j5:aF ["many","is_whole","turn","marks"] ["many","is_whole","turn"] (aC kY):=dJ
theorem wO(F:cI K "sector_marks" "sector_marks" kY f fd)(TX:Txt mg)(uq:uF mg w K "OTHER_MARK" "l" "r" "r" "l" "-" "-"):(~~~aS) cL 1 f fd ["many","is_whole","turn"] (aI K NT):=by
 refine F.okU j5 (λhr=>(aB (bP (gH (fv 1)) (aE (fS 3 j5.nd (Yg (bX (f1 aY)) (fv 0)))) (aE (fS 3 j5.nd (iW (iW (bX (f1 aY)) (Yg (bX (f1 aY)) (a7 iY (fv 0) aA))) (bX (f1 aY)))))) (aB (bP (eJ rfl hr (fv 2) aY (aZ _)) (aE (aG (fv 3))) bE) (aE (aG (fT (N':=["row"]) (t:=1) (cap:=[]) rfl (bD.of rfl) rfl ∅ (gT rfl (fv 3)) (λ_ _ _ _=>(fH 0)) (λ_ _ _ _=>(Q0 rfl aY (f1 (fT (N':=["sign"]) (t:=1) (cap:=[]) rfl (bD.of rfl) rfl ∅ (EH (fv 0)) (λ_ _ _ _=>(fH 0)) (λ_ _ _ _=>(Rb rfl rfl uq (fv 0) (λ_ _=>rfl))))))))))))) ?_;rintro as Q ⟨k,w,l,rfl,k2,aNS,q⟩;apply Jf (R:=λ(L:List L2.T)=>L=(jM w true k).map L2.T.str)
 case h=>
  intro J;show if w=true then _ else _
  by_cases hw:w=true
  ·rw[oV hw];refine⟨⟨⋯,⋯,by show 1*(k:Int).toNat<=9000;lia⟩,?_⟩;generalize hL:D9 (k:Int) _=L;refine J L ?_;rw[<-hL];refine(Sm k _).trans (congrArg _ ?_);refine aw λj=>?_;rw[hw];obtain c|c:=WG j k
   ·rw[pQ c,XW,oV c];rfl
   ·rw[WT (by simp;lia),WT (by unfold jM;simp;lia)]
  ·rw[oW hw];have ek:(k:Int)-2=((k-2:Nat):Int):=⋯
   have er:=Sm (k-2) "-r-l";refine⟨⟨⋯,⋯,by show 1*((k:Int)-2).toNat<=9000;lia⟩,?_⟩;rw[ek];generalize hM:D9 ((k-2:Nat):Int) _=M;have eM:M=(US (k-2) (VW "-r-l")).map L2.T.str:=hM.symm.trans er;have lM:M.length=k-2:=by rw[eM];simp
   refine⟨by show 1+M.length<=9000;lia,by show(L2.T.str "lr-l"::M).length+1<=9000;rw[VQ];lia,?_⟩;refine J ((L2.T.str "lr-l"::M)++[L2.T.str "-rll"]) ?_;rw[eM,show w=false by simpa using hw,E8 k2,WQ,VE];rfl
 rintro L rfl;have lr:∀l,(jM w l k).length=k:=λl=>by unfold jM;simp
 refine⟨UU _,?_⟩;cases l with
 |true=>exact⟨pM _,q⟩
 |false=>
  refine⟨rfl,?_⟩;refine b9 (λi E=>∃v0:Option L2.U,E=[v0,↥(((jM w false k).take i).map L2.T.str)]) ⟨none,rfl⟩ ?_ ?_
  ·rintro i t rest E hi ⟨v0,rfl⟩ KK;rw[UQ]at hi;obtain⟨z,hz,rfl⟩:=VP.mp hi;have il:=(UO.mp hz).1;rw[lr]at il;rw[pQ il]at hz;cases hz;obtain⟨cz,c4,sw⟩:=Y3 w k i;have tk:((jM w false k).take (i+1)).map L2.T.str=((jM w false k).take i).map L2.T.str++[.str (d9 w false k i)]:=by
    rw[XT,pQ il,YO,VE];rfl
   generalize d9 w true k i=z at *;refine⟨rfl,?_⟩;refine b9 (λj E=>∃v1:Option L2.U,E=[v1,↥(((((lV z).take j).map IY).map uT).map L2.T.str)]) ⟨none,rfl⟩ ?_ ?_
   ·rintro j t aKS E hj ⟨v1,rfl⟩ KK2;have hj':((lV z).map λc=>L2.T.str ⟨#[c]⟩)[j]?=oZ t:=hj;rw[UQ]at hj';obtain⟨c,hc,rfl⟩:=VP.mp hj';show o1 ((wC "l" "r" "r" "l" "-" "-" ⟨#[c]⟩).map L2.T.str) _;rw[UH c (cz c (UR hc))];refine⟨by show(((((lV z).take j).map IY).map uT).map L2.T.str).length<9000;simp;lia,KK2 _ ⟨⇑(.str ⟨#[c]⟩),?_⟩⟩;rw[XT,hc,YO,VE,VE,VE];rfl
   ·rintro E ⟨v1,rfl⟩;have e:XB (vQ z).length (lV z)=lV z:=by show XB ((lV z).map λc=>L2.T.str ⟨#[c]⟩).length _=_;rw[UX,YJ]
    rw[e,<-sw];refine⟨pM _,?_⟩;show o1 (lW (((lV (d9 w false k i)).map uT).map L2.T.str)) _;rw[show lW (((lV (d9 w false k i)).map uT).map L2.T.str)=oZ _ from Kv _];obtain⟨jo,jm⟩:=Zd (lV (d9 w false k i)) (by rw[sw,UX];lia);refine⟨jo,?_⟩;rintro m rfl;refine⟨by rw[UX,WE,lr];lia,KK _ ⟨⇑(.str z),?_⟩⟩;rw[tk];rw[show cg (VW "") ((lV (d9 w false k i)).map uT)=d9 w false k i from IG jm];rfl
  ·rintro E ⟨v0,rfl⟩;rw[UX,lr];have e:(jM w false k).take k=jM w false k:=XM (by rw[lr];exact VA _);rw[e];exact⟨pM _,pM _,q⟩
theorem DU(h:bW a.1 a.2 e)(k:bW b.1 b.2 f):vD a b<=1:=by
 have o1:=h.one;have o2:=k.one;have s1:0<=(val a.1-val b.1)*(val a.1-val b.1):=by
  rcases Rat.le_total (a:=0) (b:=val a.1-val b.1)with c|c
  ·exact Rat.mul_nonneg c c
  ·have:=Rat.mul_nonneg (a:=-(val a.1-val b.1)) (b:=-(val a.1-val b.1)) (by grind) (by grind);grind
 have s2:0<=(val a.2-val b.2)*(val a.2-val b.2):=by
  rcases Rat.le_total (a:=0) (b:=val a.2-val b.2)with c|c
  ·exact Rat.mul_nonneg c c
  ·have:=Rat.mul_nonneg (a:=-(val a.2-val b.2)) (b:=-(val a.2-val b.2)) (by grind) (by grind);grind
 unfold vD;grind
theorem Us.ld{u w:Fr×Fr}{us:List (Fr×Fr)}(U:Us u w us):∀i,i+2<=us.length->0<=val (q9 (us.map aP) i)/\val (q9 (us.map aP) i)<=1:=by
 have two:∀i,i+2<=us.length->0<=val (Ux ((us.map aP).getD i .non) ((us.map aP).getD (i+1) .non))/\val (Ux ((us.map aP).getD i .non) ((us.map aP).getD (i+1) .non))<=1:=λi hi=>by
  obtain⟨a1,a2⟩:=U.at_ (i:=i) ⋯;obtain⟨b1,b2⟩:=U.at_ (i:=i+1) ⋯;have ga:∀{j c},us[j]?=oZ c->(us.map aP).getD j .non=aP c:=λ{j c}h=>by rw[VR,UQ,h];rfl
  rw[ga a1,ga b1];have e:val (Ux (aP (gU us i)) (aP (gU us (i+1))))=vD (gU us i) (gU us (i+1)):=by
   unfold Ux;have c:∀c:Fr×Fr,cx (aP c)=c:=λc=>tM c.1 c.2;rw[c,c];exact eN a2.nv b2.nv
  rw[e];exact⟨(U.nb i _ _ a1 b1).2,DU a2 b2⟩
 intro i
 induction i with
 |zero=>intro hi;exact two 0 hi
 |succ i ih=>
  intro hi;show 0<=val (mn _ _)/\val (mn _ _)<=1;unfold mn
  split
  ·exact two (i+1) ⋯
  ·exact ih ⋯
theorem OF{us:List (Fr×Fr)}{MK:List Str}(h:(kA ((Hz us).map aP) (gL ((Hz us).map aP) (oZ 1) none) (MK.map L2.T.str))[j]?=oZ t):j+1<2*us.length-1/\∃m,MK[j]?=oZ m/\t = .tup [aP (cO us j),aP (cO us (j+1)),.str m]:=by
 obtain⟨x,y,z,h1,h2,h3,rfl⟩:=Ao h;have e1:=eV ((Hz us).map aP) 1;rw[show gL ((Hz us).map aP) (oZ 1) none=((Hz us).map aP).drop 1 from e1,YN,UQ,YH 1 j]at h2;rw[UQ]at h1 h3;obtain⟨b,hb,rfl⟩:=VP.mp h2;obtain⟨a,ha,rfl⟩:=VP.mp h1;obtain⟨m,hm,rfl⟩:=VP.mp h3;have l:=(UO.mp hb).1;rw[M5]at l;rw[DE l]at hb;cases hb;rw[DE ⋯]at ha;cases ha;exact⟨l,m,hm,rfl⟩
def Py(M:Fr×Fr)(R z:Fr)(a b:Fr×Fr):List (Fr×Fr):=if z=(0,1)then[M,bp M R a,bp M R b]else[bp M z a,bp M R a,bp M R b,bp M z b]
def vO(i:Nat)(M:Fr×Fr)(R z:Fr)(us:List (Fr×Fr))(l:Bool)(j:Nat):L2.T:=AS "sector" i (Py M R z (cO us j) (cO us (j+1))) (d9 (decide (z=(0,1))) l (2*us.length-2) j)
def Px(i:Nat)(M:Fr×Fr)(r p:Fr)(us:List (Fr×Fr))(l:Bool):List L2.T:=(VC (2*us.length-2)).map (vO i M (bH r p) (uO r p (q9 (us.map aP) (us.length-2))) us l)
def kJ(a b:Fr)(ms:List Mv)(i:Nat)(x y r:Fr):Fr×Fr:=(aT (px a b ms i) (aN x r),aT (py a b ms i) (aN y r))
theorem mJ(h:∀j,noL (f j)=true):∀n,bM ((VC n).map f)=true:=λn=>by
 have fD:∀l:List Nat,bM (l.map f)=true:=λl=>by
  induction l with
  |nil=>rfl
  |cons a l ih=>show(noL (f a)&&bM (l.map f))=true;rw[h,ih];rfl
 exact fD _
theorem Zq(i:Nat)(M:Fr×Fr)(r p:Fr)(us:List (Fr×Fr))(l:Bool):bM (Px i M r p us l)=true:=mJ (λ_=>jV ..) _
theorem Us.inn{u w:Fr×Fr}{us:List (Fr×Fr)}(U:Us u w us):(∀t∈us.map aP,Uv 150 t)/\bI (q9 (us.map aP) (us.length-2))/\sz (q9 (us.map aP) (us.length-2))<=301/\0<=val (q9 (us.map aP) (us.length-2)):=by
 have n2:=U.n2;have uv:∀t∈us.map aP,Uv 150 t:=λt ht=>by
  obtain⟨c,hc,rfl⟩:=XF.mp ht;exact⟨_,_,rfl,(U.uv c hc).up ∅⟩
 obtain⟨d1,d2⟩:=Nh uv (us.length-2) (by rw[UX];lia);exact⟨uv,d1,d2,(U.ld (us.length-2) ⋯).1⟩
def CU:dF:=λas Q=>∃(a b:Fr)(ms:List Mv)(i:Nat)(x y u v r:Fr)(l:Bool)(p:Fr)(s:Int),as=[.v (cG a b (cJ a b ms)),.v (.int (i:Int)),.v (fr p),.v (.int s)]/\Pm a b ms/\ms[i]?=oZ (.arc x y u v r l)/\Fw p/\(s=1\/s=2\/s=3)/\
 Q (.l (Px i (kJ a b ms i x y r) r p (Aq x y u v l s) l)) []
abbrev xU(P w K mg base):=(~~~Fn) 9 "sectors" ["path","number","far","steps"] (aI K CU)
abbrev vG:fq:=top 63
theorem cB:aF ["path","number","far","steps","radius","units","inner","outer","rays","marks","found","middle","turn","one","other","row","high","outline"] ["path","number","far","steps"] (aC vG):=dJ
theorem Od(F:cI K "sectors" "sectors" vG f fd)(TX:Txt mg)(vi: ~~~tD)(vj: ~~~sS)(wg: ~~~vV)(vm: ~~~sV)(oh: ~~~iB)(vo: ~~~tG)(tw: ~~~nY)(qu: ~~~sZ)(pj: ~~~l8)(tu:nW mg K "NOUGHT" (.tup [.int 0,.int 1])):(~~~aS) cL 9 f fd ["path","number","far","steps"] (aI K CU):=by
 refine F.okU cB (λhr=>(aB (dZ (i:=11) (j:=12) rfl cB.nd rfl rfl ∅ rfl rfl (f2 (fX (fX (fQ 0) (fv 1)) aA) (fX (fX (fQ 0) (fv 1)) aA)) rfl) (aB (fS 4 cB.nd (fK vi (f2 (fv 0) (fv 1)))) (aB (fS 5 cB.nd (fK vj (f3 (fv 0) (fv 1) (fv 3)))) (aB (fS 6 cB.nd (fK wg (f3 (fv 4) (fv 2) (fK vm (f1 (fv 5)))))) (aB (fS 7 cB.nd (fK oh (f2 (fv 4) (fv 2)))) (aB (fS 8 cB.nd (fK vo (f1 (fv 5)))) (aB (fS 9 cB.nd (fK tw (f3 (a7 iY (eD rfl rfl TX.n_len (f1 (fv 8))) aA) (nZ rfl hr (fv 6) (jA rfl tu) (aZ _)) (fv 12)))) (aB (fS 10 cB.nd (bX bF)) (aB (jS PassesOwn.never rfl (Q3 rfl rfl TX.n_zip (f3 (fv 8) (dH rfl (fv 8) (dQ aA) iF) (fv 9))) (dA (n:=3) rfl rfl (aK (fG 13 cB.nd) (aK (fG 14 cB.nd) (aK (fG 15 cB.nd) cA)))) (aB (fS 16 cB.nd (aJ (f2 (fK qu (f2 (fv 11) (fK pj (f2 (fv 13) (fv 7))))) (fK qu (f2 (fv 11) (fK pj (f2 (fv 14) (fv 7)))))))) (aB (bP (eJ rfl hr (fv 6) (jA rfl tu) (aZ _)) (aE (fS 17 cB.nd (Ek rfl (aJ (f1 (fv 11))) (fv 16)))) (aE (fS 17 cB.nd (Ek rfl (Ek rfl (aJ (f1 (fK qu (f2 (fv 11) (fK pj (f2 (fv 13) (fv 6))))))) (fv 16)) (aJ (f1 (fK qu (f2 (fv 11) (fK pj (f2 (fv 14) (fv 6))))))))))) (aE (dY (eB rfl (fv 10) (f1 (aJ (f4 aY (fv 1) (fv 17) (fv 15)))))))))) (aE (aG (fv 10))))))))))))) ?_;rintro as Q ⟨a,b,ms,i,x,y,u,v,r,l,p,s,rfl,h,hi,fw,hs,q⟩;have hp:=jX ms a b _ _ hi;have pa:=h.at_ hi;have ok:=h.ok _ (UR hi);obtain⟨nr,sr,r0⟩:bI r/\sz r<=4/\0<val r:=ok.len;have oc:=mB h.chain hp;have nM:Nv (kJ a b ms i x y r).1 (kJ a b ms i x y r).2 14:=oc.1;have sp:=fw.s;have p0:=fw.pos;show o1 (dX ((cJ a b ms).map kB) (i:Int)) _;rw[rM hp];show o1 (dX ((cJ a b ms).map kB) (i:Int)) _;rw[rM hp];refine⟨a,b,_,i,_,_,rfl,pa,?_⟩;refine⟨a,b,ms,i,x,y,u,v,r,l,s,rfl,h,hi,hs,?_⟩;obtain⟨U0,W0,B⟩:=Lx ok hs;have U:=B.U;generalize Aq x y u v l s=us at *;have n2:=U.n2;have n30:=U.n30;have lu:(us.map aP).length=us.length:=UX ..;obtain⟨uv,d1,d2,d3⟩:=U.inn;refine⟨us.map aP,rfl,⋯,⋯,uv,?_⟩;rw[lu];obtain⟨nz,sz',_⟩:=Yw nr sr fw d1 ⋯ d3;unfold Px at q;refine⟨r,p,_,rfl,nr,sr,fw,d1,⋯,?_⟩;generalize uO r p (q9 (us.map aP) (us.length-2))=z at *;refine⟨r,p,rfl,nr,fw.n,⋯,?_⟩;have nR:=cH nr fw.n;have sR:sz (bH r p)<=30:=by have:=gZ nr fw.n;lia
 refine⟨U0,W0,us,rfl,U,?_⟩;refine⟨dB rfl,?_⟩;have lw:=M5 (us:=us);have lw':((Hz us).map aP).length=2*us.length-1:=by rw[UX,lw]
 refine⟨2*us.length-2,decide (z=(0,1)),l,?_,⋯,⋯,?_⟩
 ·show[A.v (.int ((((Hz us).map aP).length:Nat)-1:Int)),A.v (.bl (L2.dG (fr z) (fr (0,1)))),A.v (.str (mN l))]=_;rw[Bz,lw',show(((2*us.length-1:Nat):Int)-1)=((2*us.length-2:Nat):Int) by lia]
 have vM:vc (aT (px a b ms i) (aN x r)) (aT (py a b ms i) (aN y r))=aP (kJ a b ms i x y r):=rfl;show uD _ (gF _ _ _ _);refine cK (λj E=>∃(yf v14 v15 v16 v17:Option L2.U),E=[⇑(cG a b (cJ a b ms)),↑(i:Int),⇑(fr p),↑s,⇑(fr r),↥(us.map aP),⇑(fr z),⇑(fr (bH r p)),⇑(.lst ((Hz us).map aP)),⇑(.lst ((jM (decide (z=(0,1))) l (2*us.length-2)).map L2.T.str)),↥((VC j).map (vO i (kJ a b ms i x y r) (bH r p) z us l)),⇑(aP (kJ a b ms i x y r)),⇑(.str (mN l)),yf,v14,v15,v16,v17]) ⟨none,none,none,none,none,rfl⟩ ?_ ?_
 ·rintro j t rest E hj ⟨yf,v14,v15,v16,v17,rfl⟩ KK;obtain⟨lj,m,hm,rfl⟩:=OF hj;rw[pQ ⋯]at hm;cases hm;have na:=U.wt (j:=j) ⋯;have nb:=U.wt lj;have lp:∀t:L2.T,((VC j).map (vO i (kJ a b ms i x y r) (bH r p) z us l)++[t]).length<=9000:=λt=>by simp;lia
  have rj:(VC (j+1)).map (vO i (kJ a b ms i x y r) (bH r p) z us l)=(VC j).map (vO i (kJ a b ms i x y r) (bH r p) z us l)++[AS "sector" i (Py (kJ a b ms i x y r) (bH r p) z (cO us j) (cO us (j+1))) (d9 (decide (z=(0,1))) l (2*us.length-2) j)]:=by
   rw[XA,VE];rfl
  refine⟨_,_,bH r p,130,rfl,na,nR,⋯,?_⟩;refine⟨_,_,_,_,14,130+sz (bH r p),rfl,nM,kR na nR,⋯,?_⟩;refine⟨_,_,bH r p,130,rfl,nb,nR,⋯,?_⟩;refine⟨_,_,_,_,14,130+sz (bH r p),rfl,nM,kR nb nR,⋯,?_⟩;refine⟨dB rfl,?_⟩;show if L2.dG (fr z) (fr (0,1))=true then _ else _;rw[Bz]
  by_cases cz:z=(0,1)
  ·rw[oV (oY cz)];refine⟨dB rfl,lp _,KK _ ⟨⇑(aP (cO us j)),⇑(aP (cO us (j+1))),⇑(.str (d9 (decide (z=(0,1))) l (2*us.length-2) j)),⇑(.tup [aP (bp (kJ a b ms i x y r) (bH r p) (cO us j)),aP (bp (kJ a b ms i x y r) (bH r p) (cO us (j+1)))]),⇑(.tup ([(kJ a b ms i x y r),bp (kJ a b ms i x y r) (bH r p) (cO us j),bp (kJ a b ms i x y r) (bH r p) (cO us (j+1))].map aP)),?_⟩⟩;rw[rj];unfold Py;rw[oV cz];rfl
  ·rw[oW (by simpa using cz)];refine⟨_,_,z,130,rfl,na,nz,⋯,?_⟩;refine⟨_,_,_,_,14,130+sz z,rfl,nM,kR na nz,⋯,?_⟩;refine⟨dB rfl,?_⟩;refine⟨_,_,z,130,rfl,nb,nz,⋯,?_⟩;refine⟨_,_,_,_,14,130+sz z,rfl,nM,kR nb nz,⋯,?_⟩;refine⟨dB rfl,lp _,KK _ ⟨⇑(aP (cO us j)),⇑(aP (cO us (j+1))),⇑(.str (d9 (decide (z=(0,1))) l (2*us.length-2) j)),⇑(.tup [aP (bp (kJ a b ms i x y r) (bH r p) (cO us j)),aP (bp (kJ a b ms i x y r) (bH r p) (cO us (j+1)))]),⇑(.tup ([bp (kJ a b ms i x y r) z (cO us j),bp (kJ a b ms i x y r) (bH r p) (cO us j),bp (kJ a b ms i x y r) (bH r p) (cO us (j+1)),bp (kJ a b ms i x y r) z (cO us (j+1))].map aP)),?_⟩⟩;rw[rj];unfold Py;rw[oW cz];rfl
 ·rintro E ⟨yf,v14,v15,v16,v17,rfl⟩;have lz:(kA ((Hz us).map aP) (gL ((Hz us).map aP) (oZ 1) none) ((jM (decide (z=(0,1))) l (2*us.length-2)).map L2.T.str)).length=2*us.length-2:=by
   have e1:=eV ((Hz us).map aP) 1;rw[qX,show gL ((Hz us).map aP) (oZ 1) none=((Hz us).map aP).drop 1 from e1,XI,lw',UX];unfold jM;simp
   lia
  rw[lz];exact⟨mJ (λ_=>jV ..) _,q⟩
def gM(ms:List Mv)(i:Nat):Mv:=ms.getD i (.side (0,1) (0,1) (0,1))
theorem d7(h:i<ms.length):ms[i]?=oZ (gM ms i):=by unfold gM;rw[VR,UP h];rfl
section
variable(a b:Fr)(ms:List Mv)(p:Fr)(s:Int)
noncomputable def gK (i:Nat):List L2.T:=match gM ms i with
 |.side x y _=>[J0 i (px a b ms i) (py a b ms i) (px a b ms (i+1)) (py a b ms (i+1)) (aN (aQ y) p) (aN x p)]
 |.arc x y u v r l=>Px i (kJ a b ms i x y r) r p (Aq x y u v l s) l
def O6(i:Nat):Str:=bO (eU (gM ms (cY i ms.length))) (bU (gM ms i))
noncomputable def lF (k:Nat):List L2.T:=if fst a b (cJ a b ms)<=k/\O6 ms k≠"straight" then[pD "fan" k (px a b ms k,py a b ms k) p (wI (eU (gM ms (cY k ms.length))) (bU (gM ms k)) s) (Uy (O6 ms k))]else[]
noncomputable def iM:Nat->List L2.T
 |0=>[]
 |j+1=>iM j++gK a b ms p s j++lF a b ms p s ((j+1)%ms.length)
noncomputable def rR:List L2.T:=if Md a b (cJ a b ms)=true then iM a b ms p s ms.length else[Mb a b ms p s (gM ms 0)]++iM a b ms p s ms.length++[DM a b ms p s (gM ms (ms.length-1))]
end
theorem Ru(h:Ln a b f p)(k:Ln a b g p):f=g:=by
 have fD:∀{x y f g:Fr},xX x y f->xX x y g->f=g:=λ{x y f g}h k=>by
  refine bQ h.nf k.nf ?_;have e:val f*val f=val g*val g:=by rw[<-h.sq,<-k.sq]
  have f0:=h.pos;have g0:=k.pos;have z:(val f-val g)*(val f+val g)=0:=by grind
  rcases Rat.mul_eq_zero.mp z with q|q<;>grind
 cases p with
 |side x y=>exact fD h k
 |arc m n x y l=>exact fD h.1 k.1
theorem Pm.cw(h:Pm a b ms)(hi:ms[i]?=oZ m)(hk:ms[cY i ms.length]?=oZ mb):My.cw a b (cJ a b ms) i=bO (eU mb) (bU m):=by
 obtain⟨nb,e1,e2⟩:=h.nbr hi hk;obtain⟨p,q,f,g,nb',e⟩:=BI (a:=a) (b:=b) (ps:=cJ a b ms) (i:=i) (h.st.1.up ∅) (tK ∅ h.chain) (by rw[fV];exact(UO.mp hi).1);have p1:=nb.one.at_;rw[nb'.one.at_]at p1;cases p1;have p2:=nb.two.at_;rw[nb'.two.at_]at p2;cases p2;have f1:=Ru nb'.one.ln nb.one.ln;have f2:=Ru nb'.two.ln nb.two.ln;subst f1;subst f2;rw[<-e,e1,e2]
theorem Pm.cr(h:Pm a b ms)(hi:i<ms.length):My.cw a b (cJ a b ms) i=O6 ms i:=h.cw (d7 hi) (d7 (tH hi))
theorem DI(h:Pm a b ms)(hi:i<ms.length)(e:gM ms i = .arc x y u v r l):gJ (.arc x y u v r l):=by
 rw[<-e];exact h.ok _ (UR (d7 hi))
theorem Pm.piece(h:Pm a b ms){s:Int}(hs:s=1\/s=2\/s=3)(hi:i<ms.length):bM (gK a b ms p s i)=true/\(gK a b ms p s i).length<=60:=by
 unfold gK;cases e:gM ms i with
 |side x y m=>exact⟨rfl,dB rfl⟩
 |arc x y u v r l=>
  obtain⟨_,_,B⟩:=Lx (DI h hi e) hs;refine⟨Zq ..,?_⟩;have:=B.U.n30;unfold Px;simp;lia
theorem Ql(a b:Fr)(ms:List Mv)(p:Fr)(s:Int)(k:Nat):bM (lF a b ms p s k)=true/\(lF a b ms p s k).length<=1:=by
 unfold lF
 split
 ·refine⟨?_,VA _⟩;show(L2.noL (pD _ _ _ _ _ _)&&true)=true;rw[show L2.noL (pD _ _ _ _ _ _)=true from jV ..];rfl
 ·exact⟨rfl,UU _⟩
theorem pJ:∀{xs ys:List L2.T},bM xs=true->bM ys=true->bM (xs++ys)=true
 |[],_,_,h=>h
 |x::xs,ys,h1,h2=>by
  have h1:(noL x&&bM xs)=true:=h1;rw[VN]at h1;show(noL x&&bM (xs++ys))=true;rw[h1.1,pJ h1.2 h2];rfl
theorem Pm.told(h:Pm a b ms){s:Int}(hs:s=1\/s=2\/s=3):∀{j:Nat},j<=ms.length->bM (iM a b ms p s j)=true/\(iM a b ms p s j).length<=61*j
 |0,_=>⟨rfl,UU _⟩
 |j+1,hj=>by
  obtain⟨i1,i2⟩:=Pm.told h (p:=p) hs (j:=j) ⋯;obtain⟨p1,p2⟩:=h.piece (p:=p) hs (i:=j) ⋯;obtain⟨b1,b2⟩:=Ql a b ms p s ((j+1)%ms.length);refine⟨pJ (pJ i1 p1) b1,?_⟩;show(iM a b ms p s j++gK a b ms p s j++lF a b ms p s ((j+1)%ms.length)).length<=_;rw[UT,UT];lia
theorem Pm.blk(h:Pm a b ms){s:Int}(hs:s=1\/s=2\/s=3):bM (rR a b ms p s)=true/\(rR a b ms p s).length<=800:=by
 obtain⟨i1,i2⟩:=h.told (p:=p) hs (VA _);have:=h.len;unfold rR
 split
 ·exact⟨i1,⋯⟩
 ·have nb:∀wd i P us c,bM [pD wd i P p us c]=true:=λwd i P us c=>by
   show(L2.noL (pD _ _ _ _ _ _)&&true)=true;rw[show L2.noL (pD _ _ _ _ _ _)=true from jV ..];rfl
  refine⟨pJ (pJ (nb ..) i1) (nb ..),?_⟩;rw[UT,UT];simp only[VL]
  lia
def Ti:dF:=λas Q=>∃(a b:Fr)(ms:List Mv)(i:Nat)(p:Fr)(s:Int),as=[.v (cG a b (cJ a b ms)),.v (.int (i:Int)),.v (fr p),.v (.int s)]/\Pm a b ms/\i<ms.length/\Fw p/\(s=1\/s=2\/s=3)/\Q (.l (gK a b ms p s i)) []
abbrev nX(P w K mg base):=(~~~Fn) 10 "piece_blocks" ["path","number","far","steps"] (aI K Ti)
abbrev kX:fq:=top 64
theorem wQ:aF ["path","number","far","steps"] ["path","number","far","steps"] (aC kX):=dJ
theorem wN(F:cI K "piece_blocks" "piece_blocks" kX f fd)(TX:Txt mg)(qd: ~~~kH)(ur: ~~~rG)(xb: ~~~xU):(~~~aS) cL 10 f fd ["path","number","far","steps"] (aI K Ti):=by
 refine F.okU wQ (λhr=>(aB (bP (gH (fK qd (f1 (fX (fQ 0) (fv 1))))) (aE (aG (bX (f1 (fK ur (f3 (fv 0) (fv 1) (fv 2))))))) bE) (aE (aG (fK xb (f4 (fv 0) (fv 1) (fv 2) (fv 3))))))) ?_;rintro as Q ⟨a,b,ms,i,p,s,rfl,h,il,fw,hs,q⟩;have hi:=d7 il;have hp:=jX ms a b _ _ hi;have nl:=(h.piece (p:=p) hs il).1;show o1 (dX ((cJ a b ms).map kB) (i:Int)) _;rw[rM hp];refine⟨_,rfl,?_⟩;unfold gK at q nl;cases e:gM ms i with
 |side x y m=>
  rw[e]at q hi;exact⟨a,b,ms,i,x,y,m,p,rfl,h,hi,fw,rfl,q⟩
 |arc x y u v r l=>
  rw[e]at q hi nl;exact⟨a,b,ms,i,x,y,u,v,r,l,p,s,rfl,h,hi,fw,hs,nl,q⟩
def J3:JG:=λas Q=>∃(a b:Fr)(ms:List Mv),as=[.v (cG a b (cJ a b ms))]/\Pm a b ms/\∀mr,(∀k:Nat,k<ms.length->j6 mr (Sum.inl (k:Int))=if fst a b (cJ a b ms)<=k/\O6 ms k≠"straight" then oZ (.str (O6 ms k))else none)->Q mr
theorem Mh{c:Str}{f:Nat}{W:Nat->Str}{k:Nat}:∀N:Nat,j6 (N2 c ((VC N).map λj=>(((f+j:Nat):Int),W (f+j))) []) (Sum.inl (k:Int))=if f<=k/\k<f+N/\W k≠c then oZ (.str (W k))else none
 |0=>by rw[oW ⋯];rfl
 |N+1=>by
  rw[XA,VE,List.map_singleton,tN]
  by_cases e:W (f+N)=c
  ·rw[oV e,Mh N]
   by_cases z:k=f+N
   ·subst z;rw[oW ⋯,oW (by simp[e])]
   ·have:(f<=k/\k<f+N/\W k≠c)↔(f<=k/\k<f+(N+1)/\W k≠c):=⟨λh=>⟨h.1,⋯,h.2.2⟩,λh=>⟨h.1,⋯,h.2.2⟩⟩;simp only[this]
  ·rw[oW e,M1,Mh N]
   by_cases z:k=f+N
   ·subst z;rw[oV rfl,oV ⟨⋯,⋯,e⟩]
   ·have:(f<=k/\k<f+N/\W k≠c)↔(f<=k/\k<f+(N+1)/\W k≠c):=⟨λh=>⟨h.1,⋯,h.2.2⟩,λh=>⟨h.1,⋯,h.2.2⟩⟩;rw[oW (λq=>z (by have:=Sum.inl.inj q;lia))];simp only[this]
abbrev Ic(P w K mg base):=(~~~Fn) 12 "bends" ["path"] (Sq K J3)
abbrev Gy:fq:=top 65
theorem F8:aF ["path"] ["path"] (aC Gy):=dJ
theorem Zt(F:cI K "bends" "bends" Gy f fd)(TX:Txt mg)(xc: ~~~xO):(~~~aS) cL 12 f fd ["path"] (Sq K J3):=by
 refine F.okD (c:="straight") (k:=11) F8 rfl (λas Q h=>?_) (λqp A outer s H E hr=>MJ rfl rfl (λ_ _ _ _=>hr) (tQ xc hr ⋯ rfl (fc (fv 0) bF)) (bD.of rfl)
  (λ_ _ _ _=>kW (m8 (i:=0) (show ZY (["number","word"]:List Str) by decide +kernel) rfl (WA rfl) (WN rfl)) (kW (m8 (i:=1) (show ZY (["number","word"]:List Str) by decide +kernel) rfl (WA rfl) (WN rfl)) xG))
  (h1:=λ_ _ _ _=>⟨uU rfl (by first|exact WA rfl|exact WN (WA rfl)|exact WN (WN rfl))⟩) (h2:=λ_ _ _ _=>⟨uU rfl (by first|exact WA rfl|exact WN (WA rfl)|exact WN (WN rfl))⟩) (h3:=λ_ _ _ _=>⟨uU rfl (by first|exact WA rfl|exact WN (WA rfl)|exact WN (WN rfl))⟩)) (λas Q h=>?_)
 ·obtain⟨a,b,ms,rfl,_⟩:=h;rfl
 ·obtain⟨a,b,ms,rfl,h,q⟩:=h;have l12:=h.len;have fl:=EM a b (cJ a b ms);have pl:=fV ms a b;have l1:=XX.mpr h.ne;refine⟨a,b,cJ a b ms,rfl,h.st.1.up ∅,λz=>h.ne (WX (by rw[<-pl,z];rfl)),by rw[pl];exact l12,tK ∅ h.chain,?_⟩;refine⟨(VC ((cJ a b ms).length-fst a b (cJ a b ms))).map λj=>(((fst a b (cJ a b ms)+j:Nat):Int),My.cw a b (cJ a b ms) (fst a b (cJ a b ms)+j)),?_,by simp;lia,q _ λk hk=>?_⟩
  ·rw[bq];rfl
  ·rw[Mh,h.cr hk,pl];have:(fst a b (cJ a b ms)<=k/\k<fst a b (cJ a b ms)+(ms.length-fst a b (cJ a b ms))/\O6 ms k≠VW "straight")↔(fst a b (cJ a b ms)<=k/\O6 ms k≠VW "straight"):=⟨λh=>⟨h.1,h.2.2⟩,λh=>⟨h.1,⋯,h.2⟩⟩;simp only[this]
theorem xK(a b:Fr)(ms:List Mv)(p:Fr)(s:Int)(j:Nat):iM a b ms p s (j+1)=iM a b ms p s j++gK a b ms p s j++lF a b ms p s ((j+1)%ms.length):=rfl
def CF:dF:=λas Q=>∃(a b:Fr)(ms:List Mv)(p:Fr)(s:Int),as=[.v (cG a b (cJ a b ms)),.v (fr p),.v (.int s),.v (.bl false)]/\Pm a b ms/\Fw p/\(s=1\/s=2\/s=3)/\Q (.l (rR a b ms p s)) []
abbrev o8(P w K mg base):=(~~~Fn) 13 "laid_blocks" oJ (aI K CF)
abbrev lU:fq:=top 66
theorem fJ:aF ["path","far","steps","is_least","words","found","number","behind"] oJ (aC lU):=dJ
theorem y9(F:cI K "laid_blocks" "laid_blocks" lU f fd)(TX:Txt mg)(zq: ~~~Ic)(tx: ~~~nX)(vd: ~~~rE)(rf: ~~~mT)(vp: ~~~tE)(xf: ~~~xP):(~~~aS) cL 13 f fd oJ (aI K CF):=by
 refine F.okU fJ (λhr=>(Xn (i:=4) zq hr ⋯ rfl (f1 (fv 0)) fJ.nd rfl (WA rfl) (λmr=>(tO (Xt (j:=5) fJ.nd rfl (WA rfl) (bX bF) ∅) (tO (DV (j:=6) PassesOwn.never rfl (g9 rfl TX.n_range (f1 (eD rfl rfl TX.n_len (f1 (fQ 0))))) fJ.nd rfl (WA rfl) (tO (P2 (mD rfl (fv 5) (f1 (fK tx (f4 (fv 0) (fv 6) (fv 1) (fv 2)))))) (tO (Xt (j:=7) fJ.nd rfl (WA rfl) (aR gX (a7 cE (fv 6) aA) (eD rfl rfl TX.n_len (f1 (fQ 0)))) ∅) (Ei (AU (EN hr rfl (by first|exact WA rfl|exact WN (WA rfl)|exact WN (WN rfl)) (fv 7)) (Ei (Xr (Mo rfl (fv 5) (DZ (Yc vd hr ⋯ rfl (DZ (QE.dd (fv 0)) (DZ (QE.dd (fv 7)) (DZ (Yf hr rfl (by first|exact WA rfl|exact WN (WA rfl)|exact WN (WN rfl)) (fv 7) (λ_ _=>rfl)) (DZ (QE.dd (fv 1)) (DZ (QE.dd (fv 2)) (DZ (QE.dd (fv 3)) (QA.dd bF)))))))) (QA.dd bF))))) Xo)))) ∅) (tO (AU (bd (gH (fK rf (f1 (fv 0))))) (Ei (Xs (fv 5))) Xo) (Ei (Xs (iW (iW (bX (f1 (fK vp (f4 (fv 0) (fv 1) (fv 2) (fv 3))))) (fv 5)) (bX (f1 (fK xf (f4 (fv 0) (fv 1) (fv 2) (fv 3)))))))))))))) ?_;rintro as Q ⟨a,b,ms,p,s,rfl,h,fw,hs,q⟩;have l12:=h.len;have l1:=XX.mpr h.ne;have pl:=fV ms a b;have em:((((cJ a b ms).map kB).length:Nat):Int)=(ms.length:Int):=by rw[UX,pl]
 have nl:=(h.blk (p:=p) hs).1;unfold rR at q nl;refine⟨a,b,ms,rfl,h,λmr hk=>?_⟩;refine⟨⟨by rw[em];lia,by rw[em];lia⟩,?_⟩;rw[em,WO];refine cK (λj E=>∃(v6 v7:Option L2.U),E=[⇑(cG a b (cJ a b ms)),⇑(fr p),↑s,⇑(.bl false),none,↥(iM a b ms p s j),v6,v7]) ⟨none,none,rfl⟩ ?_ ?_
 ·rintro j t rest E hj ⟨v6,v7,rfl⟩ KK;obtain⟨jl,rfl⟩:=pO hj;rw[Int.zero_add];have lT:=(h.told (p:=p) hs (WC jl)).2;have lP:=(h.piece (p:=p) hs jl).2;refine⟨a,b,ms,j,p,s,rfl,h,jl,fw,hs,?_⟩;refine⟨by show(iM a b ms p s j++gK a b ms p s j).length<=9000;rw[UT];lia,?_⟩;refine⟨by show(0:Int)<((((cJ a b ms).map kB).length:Nat):Int);rw[em];lia,?_⟩;have hk0:((j:Int)+1)%(ms.length:Int)=(((j+1)%ms.length:Nat):Int):=by push_cast;rfl
  have kl:(j+1)%ms.length<ms.length:=YV _ l1;show if(j6 mr (Sum.inl (((j:Int)+1)%((((cJ a b ms).map kB).length:Nat):Int)))).isSome=true then _ else _;rw[em,hk0,hk _ kl]
  by_cases c:fst a b (cJ a b ms)<=(j+1)%ms.length/\O6 ms ((j+1)%ms.length)≠"straight"
  ·have e:lF a b ms p s ((j+1)%ms.length)=[_]:=oV c;rw[oV c,oV (by rfl)];refine⟨_,by rw[hk _ kl,oV c],?_⟩;refine⟨a,b,ms,(j+1)%ms.length,_,_,p,s,rfl,h,d7 kl,d7 (tH kl),c.2,fw,hs,?_⟩;refine⟨by show((iM a b ms p s j++gK a b ms p s j)++[_]).length<=9000;rw[UT,UT,VL];lia,KK _ ⟨↑(j:Int),↑(((j+1)%ms.length:Nat):Int),?_⟩⟩;rw[xK,e];rfl
  ·have e:lF a b ms p s ((j+1)%ms.length)=[]:=oW c;rw[oW c,oW ∅];refine KK _ ⟨↑(j:Int),↑(((j+1)%ms.length:Nat):Int),?_⟩;rw[xK,e,WJ]
 ·rintro E ⟨v6,v7,rfl⟩;have lr:(kC 0 ms.length).length=ms.length:=by simp[kC]
  rw[lr];have lT:=(h.told (p:=p) hs (VA _)).2;refine⟨a,b,_,rfl,λz=>h.ne (WX (by rw[<-pl,z];rfl)),?_⟩;show if Md a b (cJ a b ms)=true then _ else _
  by_cases c:Md a b (cJ a b ms)=true
  ·rw[oV c]at q nl⊢;exact⟨nl,q⟩
  ·rw[oW c]at q nl⊢;refine⟨a,b,ms,_,p,s,rfl,h,d7 l1,fw,hs,?_⟩;refine⟨by show 1+(iM a b ms p s ms.length).length<=9000;lia,?_⟩;refine⟨a,b,ms,_,p,s,rfl,h,d7 ⋯,fw,hs,?_⟩;refine⟨by show(Mb a b ms p s (gM ms 0)::iM a b ms p s ms.length).length+1<=9000;rw[VQ];lia,?_⟩;exact⟨nl,q⟩
def Sx:dF:=λas Q=>∃(a b:Fr)(ms:List Mv)(p:Fr)(s:Int),as=[.v (cG a b (cJ a b ms)),.v (fr p),.v (.int s)]/\Pm a b ms/\Fw p/\(s=1\/s=2\/s=3)/\Q (.l (rR a b ms p s)) []
abbrev Bh(P w K mg base):=(~~~Fn) 14 "blocks" ["path","far","steps"] (aI K Sx)
abbrev zL:fq:=top 67
theorem Wi:aF ["path","far","steps"] ["path","far","steps"] (aC zL):=dJ
theorem Vm(F:cI K "blocks" "blocks" zL f fd)(TX:Txt mg)(uj: ~~~o8):(~~~aS) cL 14 f fd ["path","far","steps"] (aI K Sx):=by
 refine F.okU Wi (λhr=>(aE (aG (fK uj (f4 (fv 0) (fv 1) (fv 2) Ra))))) ?_;rintro as Q ⟨a,b,ms,p,s,rfl,h,fw,hs,q⟩;exact⟨a,b,ms,p,s,rfl,h,fw,hs,(h.blk hs).1,q⟩
def CT(n:Nat):dF:=λas Q=>∃x:L2.T,as=[.v x,.v x]/\dT x<=n/\dT x<=50/\wT x<900/\Q (.v (.bl true)) []
def Ag:Nat->dF
 |0=>λ_ _=>False
 |n+1=>CT n
abbrev N9(P w K mg base):=(~~~Fn) 7 "_law_same" ["_law_found","_law_due"] (aI K (Ag 7))
abbrev zV:fq:=top 98
theorem Z1:aF ["_law_found","_law_due"] ["_law_found","_law_due"] (aC zV):=⟨rfl,rfl,rfl,by decide +kernel,rfl,by decide +kernel,by decide +kernel⟩
theorem O9:∀{xs:List L2.T}{i:Nat}{t:L2.T},(eO xs xs)[i]?=oZ t->∃x,xs[i]?=oZ x/\t = .tup [x,x]:=λh=>by
 obtain⟨x,y,h1,h2,h3⟩:=mR h;rw[h1]at h2;cases h2;exact⟨x,h1,h3⟩
theorem yC:∀n:Nat,rJ (US n (.bl true))=oZ (US n true)
 |0=>rfl
 |n+1=>by rw[WI,rJ,yC n];rfl
theorem Fj:∀n:Nat,bM (US n (.bl true))=true
 |0=>rfl
 |n+1=>by rw[WI,bM,Fj n];rfl
theorem A3(F:cI K "_law_same" "_law_same" zV f fd)(TX:Txt mg)(g_same:Fn P w K mg base n "_law_same" ["_law_found","_law_due"] (aI K (Ag n))):(~~~aS) cL (n+1) f fd ["_law_found","_law_due"] (aI K (CT n)):=by
 refine F.okT Z1 ?len (λqp A outer s H E hr=>(aB (bP (gH (P9 Nf Ey rfl rfl TX.n_isinstance (fv 1) rfl TX.n_list Dz rfl TX.n_tuple yF ∅ ∅)) (aB (bP (Mu (yR (rL rfl hr (kQ Nf rfl rfl TX.n_isinstance (fv 0) rfl TX.n_list Dz ∅) (kQ Nf rfl rfl TX.n_isinstance (fv 1) rfl TX.n_list Dz ∅) (aZ _)) (rS (rL rfl hr (kQ Ey rfl rfl TX.n_isinstance (fv 0) rfl TX.n_tuple yF ∅) (kQ Ey rfl rfl TX.n_isinstance (fv 1) rfl TX.n_tuple yF ∅) (aZ _))))) (aE (aG Ra)) bE)
 (aE (aG (yP (nZ rfl hr (eD rfl rfl TX.n_len (fc (fv 0) bF)) (eD rfl rfl TX.n_len (fc (fv 1) bF)) (aZ _)) (yQ (EA rfl rfl rfl TX.n_all (fc (fT (N':=oG) (t:=2) (cap:=[]) rfl (bD.of rfl) rfl ∅ (qQ rfl rfl TX.n_zip (fc (fv 0) (fc (fv 1) bF))) (λ_ _ _ _=>(dA (n:=2) rfl rfl (aK (jB (i:=0) (show ZY (oG:List Str) by decide +kernel) rfl (WA rfl) (WN rfl)) (aK (jB (i:=1) (show ZY (oG:List Str) by decide +kernel) rfl (WA rfl) (WN rfl)) cA)))) (λ_ _ _ _=>(tQ g_same hr ⋯ rfl (fc (fv 0) (fc (fv 1) bF))))) bF))))))) bE)
 (aB (bP (Mu (yR (Yn (fv 1) (aZ _)) (rS (gH (kQ Ze rfl rfl TX.n_isinstance (fv 1) rfl TX.n_str Ma ∅))))) (aE (aG (yP (nZ rfl hr (fv 0) (fv 1) (aZ _)) (yQ (nZ rfl hr (kQ Ze rfl rfl TX.n_isinstance (fv 0) rfl TX.n_str Ma ∅) (kQ Ze rfl rfl TX.n_isinstance (fv 1) rfl TX.n_str Ma ∅) (aZ _)))))) bE)
 (aB (bP (gH (kQ Nd rfl rfl TX.n_isinstance (fv 1) rfl TX.n_bool Dy ∅)) (aE (aG (yP (kQ Nd rfl rfl TX.n_isinstance (fv 0) rfl TX.n_bool Dy ∅) (yQ (nZ rfl hr (fv 0) (fv 1) (aZ _)))))) bE)
 (aE (aG (yP (kQ LG rfl rfl TX.n_isinstance (fv 0) rfl TX.n_int DL ∅) (yP (EE (kQ Nd rfl rfl TX.n_isinstance (fv 0) rfl TX.n_bool Dy ∅)) (yQ (nZ rfl hr (fv 0) (fv 1) (aZ _))))))))))) ?rd
 case len=>rintro as Q ⟨x,rfl,_⟩;rfl
 case rd=>
  rintro as Q ⟨x,rfl,hd,hd2,hw,q⟩;have seq:∀(xs:List L2.T)(Q:En->Prop),xs.length<900->Wz xs<900->Uq xs+1<=n->Uq xs+1<=50->(∀v0 v1,Q [v0,v1,↥(US xs.length (.bl true))])->
    j9 (Nc 2 (mG (fZ 0) (mG (fZ 1) Na))) (Cb (Ag n) (iD (Iz 0) (iD (Iz 1) Dt))) (eO xs xs) [none,none,↥[]] Q:=λxs Q hl hw h1 h2 hQ=>by
   refine b9 (λi E=>∃v0 v1,E=[v0,v1,↥(US i (.bl true))]/\i<=xs.length) ⟨none,none,rfl,UU _⟩ ?_ ?_
   ·rintro i t rest E hi ⟨v0,v1,rfl,hil⟩ KK;obtain⟨x,hx,rfl⟩:=O9 hi;have rk:i<xs.length:=(UO.mp hx).1;have hm:=uI (UR hx);obtain⟨m,rfl⟩:∃m,n=m+1:=⟨n-1,⋯⟩;have hm2:=M3 (UR hx);refine⟨x,rfl,⋯,⋯,⋯,?_⟩;refine⟨by rw[XR];lia,KK _ ⟨⇑x,⇑x,?_,rk⟩⟩;rw[List.replicate_succ'];rfl
   ·rintro E ⟨v0,v1,rfl,_⟩;rw[i9,Nat.min_self];exact hQ v0 v1
  have fin:∀k:Nat,(US k true).all id=true:=λk=>by simp
  cases x with
  |int i=>exact⟨UU _,rfl,by rw[e7];exact q⟩
  |bl c=>exact⟨UU _,rfl,by rw[e7];exact q⟩
  |non=>exact⟨UU _,UU _,rfl,q⟩
  |str z=>
   refine⟨UU _,?_⟩;show if L2.dG (.str z) (.str z)=true then _ else _;rw[e7,oV rfl];exact⟨UU _,rfl,q⟩
  |tup xs=>
   have e1:L2.dG (.int (xs.length:Int)) (.int (xs.length:Int))=true:=e7 _;have hd':Uq xs+1<=n/\Uq xs+1<=50:=⟨hd,hd2⟩;have hw':af xs.length (Wz xs)<900:=hw;have hw1:xs.length<900:=VT (YY _ _) hw';have hw2:Wz xs<900:=VT (YT _ _) hw';refine⟨UU _,UU _,UU _,?_⟩;show if L2.dG (.int (xs.length:Int)) (.int (xs.length:Int))=true then _ else _;rw[e1,oV rfl];refine⟨rfl,seq xs _ hw1 hw2 hd'.1 hd'.2 λv0 v1=>⟨Fj _,?_⟩⟩;show o1 (rJ (US xs.length (.bl true))) _;rw[yC];refine⟨rfl,?_⟩;rw[fin];exact q
  |lst xs=>
   have e1:L2.dG (.int (xs.length:Int)) (.int (xs.length:Int))=true:=e7 _;have hd':Uq xs+1<=n/\Uq xs+1<=50:=⟨hd,hd2⟩;have hw':af xs.length (Wz xs)<900:=hw;have hw1:xs.length<900:=VT (YY _ _) hw';have hw2:Wz xs<900:=VT (YT _ _) hw';refine⟨UU _,UU _,UU _,?_⟩;show if L2.dG (.int (xs.length:Int)) (.int (xs.length:Int))=true then _ else _;rw[e1,oV rfl];refine⟨rfl,seq xs _ hw1 hw2 hd'.1 hd'.2 λv0 v1=>⟨Fj _,?_⟩⟩;show o1 (rJ (US xs.length (.bl true))) _;rw[yC];refine⟨rfl,?_⟩;rw[fin];exact q
theorem Rz(F:cI K "_law_same" "_law_same" zV f fd)(TX:Txt mg)(hm:mg "_law_same" = oZ (.ref f))(hk:W.keepIn K (.ref f)=true)(hb:kF K fd ["_law_found","_law_due"] []):
  ∀n,aS P w K mg base cL n f fd ["_law_found","_law_due"] (aI K (Ag n))
 |0=>⟨λ_ _ _ _ zZ=>by obtain⟨_,_,_,_,_,h,_⟩:=zZ;exact h.elim,λ_ _ _ _ _ _ _ _ _ _ _ _ _ zZ=>by obtain⟨_,_,_,_,_,h,_⟩:=zZ;exact h.elim⟩
 |n+1=>A3 F TX ⟨⟨f,fd,Rz F TX hm hk hb n,hm,hk,hb⟩⟩
theorem LL(h:bW x y e):aN (aQ y) (-1,1)=y/\aN x (-1,1)=aQ x:=by
 have n1:bI ((-1,1):Fr):=aM (-1);have v1:val ((-1,1):Fr) = -1:=by rw[d6];rfl
 exact⟨bQ (aO (d5 h.nv.y) n1) h.nv.y (by rw[bB (d5 h.nv.y) n1,bV h.nv.y,v1];grind),bQ (aO h.nv.x n1) (d5 h.nv.x) (by rw[bB h.nv.x n1,bV h.nv.x,v1];grind)⟩
def Tf:dF:=λas Q=>∃(x y:Fr),as=[.v (vc x y)]/\bW x y 4/\Q (.v (vc y (aQ x))) []
abbrev qM(P w K mg base):=(~~~Fn) 4 "_law_right" ["_law_vector"] (aI K Tf)
abbrev zT:fq:=top 89
theorem Wl:aF ["_law_vector"] ["_law_vector"] (aC zT):=dJ
theorem Vt(F:cI K "_law_right" "_law_right" zT f fd)(TX:Txt mg)(ml: ~~~c8)(mw: ~~~eT):(~~~aS) cL 4 f fd ["_law_vector"] (aI K Tf):=by
 refine F.okU Wl (λhr=>(aE (aG (fK ml (f2 (fK mw (f1 (fv 0))) (aJ (f2 (c7 aA) aA))))))) ?_;rintro as Q ⟨x,y,rfl,h,q⟩;obtain⟨e1,e2⟩:=LL h;refine⟨x,y,rfl,_,_,(-1,1),4,rfl,h.left.nv,aM (-1),∅,?_⟩;rw[e1,e2];exact⟨rfl,q⟩
def J9:dF:=λas Q=>∃m:Mv,as=[.v (iP m)]/\gJ m/\Q (.v (.tup [aP (bU m),aP (eU m)])) []
abbrev sW(P w K mg base):=(~~~Fn) 5 "_law_headings" ["_law_move"] (aI K J9)
abbrev pX:fq:=top 90
theorem Hk:aF ["_law_move"] ["_law_move"] (aC pX):=dJ
theorem Ga(F:cI K "_law_headings" "_law_headings" pX f fd)(TX:Txt mg)(qi: ~~~qM)(mw: ~~~eT):(~~~aS) cL 5 f fd ["_law_move"] (aI K J9):=by
 refine F.okU Hk (λhr=>(aB (bP (eJ rfl hr (fQ 0) aY (aZ _)) (aE (aG (aJ (f2 (fQ 0) (fQ 0))))) bE) (aB (bP (eJ rfl hr (fQ 0) aY (aZ _)) (aE (aG (aJ (f2 (fK mw (f1 (fQ 0))) (fK mw (f1 (fQ 0))))))) bE) (aE (aG (aJ (f2 (fK qi (f1 (fQ 0))) (fK qi (f1 (fQ 0)))))))))) ?_;rintro as Q ⟨m,rfl,ok,q⟩;cases m with
 |side x y m=>exact⟨UU _,rfl,q⟩
 |arc x y u v r l=>
  obtain⟨o1,o2,_⟩:=ok;refine⟨UU _,UU _,?_⟩;cases l with
  |true=>exact⟨_,_,rfl,_,_,rfl,rfl,q⟩
  |false=>exact⟨_,_,rfl,o1,_,_,rfl,o2,rfl,q⟩
theorem EU(h:bI d)(n:0<val d):b7 (1,1) d=(d.2,d.1)/\bI (d.2,d.1):=by
 have d1:=(lY h).1 n;have hd:=h.d;have k:bI (d.2,d.1):=⟨d1,by show WD d.2.natAbs d.1.natAbs=1;rw[ZD];exact h.g⟩;refine⟨bQ (gN (aM 1) ⋯) k ?_,k⟩;rw[jR (aM 1) h ⋯,d6];show((1:Int):Rat)/((d.1:Rat)/(d.2:Rat))=(d.2:Rat)/(d.1:Rat);have z1:(d.1:Rat)≠0:=by exact_mod_cast (show d.1≠0 by lia)
 have z2:(d.2:Rat)≠0:=by exact_mod_cast (show d.2≠0 by lia)
 grind
theorem IK(h:bW a.1 a.2 30)(k:bW b.1 b.2 30)(d:0<=vD a b):0<val (Lj a.1 a.2 b.1 b.2):=by
 obtain⟨u1,u2,u3⟩:=vS h k;rw[u3];unfold vD at d;grind
def CH:dF:=λas Q=>∃a b:Fr×Fr,as=[.v (aP a),.v (aP b)]/\bW a.1 a.2 30/\bW b.1 b.2 30/\0<=vD a b/\Q (.v (aP (uC a b))) []
abbrev Ds(P w K mg base):=(~~~Fn) 4 "_law_tip" oG (aI K CH)
abbrev Pk:fq:=top 91
theorem Sn:aF ["_law_one","_law_other","_law_share"] oG (aC Pk):=dJ
theorem T8(F:cI K "_law_tip" "_law_tip" Pk f fd)(TX:Txt mg)(qw: ~~~qN)(xg: ~~~Dp)(ml: ~~~c8)(qq: ~~~qL):(~~~aS) cL 4 f fd oG (aI K CH):=by
 refine F.okU Sn (λhr=>(aB (fS 2 Sn.nd (fK qw (f2 (aJ (f2 aA aA)) (fK xg (f2 (fv 0) (fv 1)))))) (aE (aG (fK ml (f2 (fK qq (f2 (fv 0) (fv 1))) (aJ (f2 (fQ 2) (fQ 2))))))))) ?_;rintro as Q ⟨a,b,rfl,h,k,d,q⟩;obtain⟨u1,u2,u3⟩:=vS h k;obtain⟨i1,i2⟩:=EU u1 (IK h k d);have o:=Qa;have sd:sz (cS a.1 a.2 b.1 b.2)<=121:=VZ (nS h.nv k.nv) ∅;have si:sz ((Lj a.1 a.2 b.1 b.2).2,(Lj a.1 a.2 b.1 b.2).1)<=200:=by
  have:=(Et u1 (xM h k d)).2.1;rw[i1]at this;lia
 refine⟨_,_,_,_,30,30,rfl,h.nv,k.nv,∅,?_⟩;refine⟨(1,1),_,rfl,aM 1,bG h.nv k.nv,⋯,?_⟩;refine⟨_,_,_,_,30,30,rfl,h.nv,k.nv,∅,?_⟩;refine⟨_,_,((Lj a.1 a.2 b.1 b.2).2,(Lj a.1 a.2 b.1 b.2).1),61,rfl,Fs h.nv k.nv,i2,⋯,rfl,?_⟩;unfold uC L0 at q;rw[i1]at q;exact q
def CG:dF:=λas Q=>∃(u w:Fr×Fr)(wd:Str)(i:Nat)(P:Fr×Fr)(us:List (Fr×Fr))(p:Fr)(c:Str),as=[.v (.str wd),.v (.int (i:Int)),.v (aP P),.v (.lst (us.map aP)),.v (fr p),.v (.str c)]/\Nv P.1 P.2 14/\Fw p/\Us u w us/\Mk 1 c/\Q (.v (pD wd i P p us c)) []
abbrev Dq(P w K mg base):=(~~~Fn) 5 "_law_fan" oN (aI K CG)
abbrev Pg:fq:=top 92
theorem Hj:aF ["_law_word","_law_number","_law_point","_law_units","_law_far","_law_mark","_law_ends","_law_spots"] oN (aC Pg):=dJ
theorem T5(F:cI K "_law_fan" "_law_fan" Pg f fd)(TX:Txt mg)(xh: ~~~Ds)(qq: ~~~qL)(ml: ~~~c8):(~~~aS) cL 5 f fd oN (aI K CG):=by
 refine F.okU Hj (λhr=>(aB (fS 6 Hj.nd (iW (iW (bX (f1 (fQ 3))) (fT (N':=oG) (t:=2) (cap:=[]) rfl (bD.of rfl) rfl ∅ (qQ rfl rfl TX.n_zip (f2 (fv 3) (dH rfl (fv 3) (dQ aA) iF))) (λ_ _ _ _=>(dA (n:=2) rfl rfl (aK (fH 0) (aK (fH 1) cA)))) (λ_ _ _ _=>(fK xh (f2 (fv 0) (fv 1)))))) (bX (f1 (fX (fv 3) (c7 aA)))))) (aB (fS 7 Hj.nd (iW (bX (f1 (fv 2))) (fT (N':=["_law_one","_law_point","_law_far"]) (t:=1) (cap:=[(2,false),(4,false)]) rfl (bD.of rfl) rfl ∅ (gT rfl (fv 6)) (λ_ _ _ _=>(fH 0)) (λ_ _ _ _=>(fK qq (f2 (fv 1) (fK ml (f2 (fv 0) (fv 2))))))))) (aE (aG (aJ (f4 (fv 0) (fv 1) (tR rfl rfl TX.n_tuple (f1 (fv 7))) (wZ (wZ aY (Rf (fv 5) (a7 iY (eD rfl rfl TX.n_len (f1 (fv 7))) aA))) aY)))))))) ?_;rintro as Q ⟨u,w,wd,i,P,us,p,c,rfl,nP,fw,U,hc,q⟩;obtain⟨n3,n40,nv⟩:=U.rays;have rl:=zH (us:=us);have n2:=U.n2;have n30:=U.n30;show o1 (dX (us.map aP) 0) _;rw[U.at0];refine⟨rfl,?_⟩;refine b9 (λi E=>∃v0 v1,E=[v0,v1,↥(((VC i).map (Tr us)).map aP)]) ⟨none,none,rfl⟩ ?_ ?_
 ·rintro i t rest E hi ⟨v0,v1,rfl⟩ KK;obtain⟨l,rfl⟩:=Tv hi;obtain⟨a1,a2⟩:=U.at_ (i:=i) ⋯;obtain⟨b1,b2⟩:=U.at_ l;obtain⟨_,d⟩:=U.nb i _ _ a1 b1;refine⟨_,_,rfl,a2,b2,d,?_⟩;refine⟨by show(fh aP (fh (Tr us) (VC i))).length<9000;simp;lia,KK _ ⟨⇑(aP (gU us i)),⇑(aP (gU us (i+1))),?_⟩⟩;rw[XA,VE,VE];rfl
 rintro E ⟨v0,v1,rfl⟩;rw[Hv];refine⟨dC _,by show 1+((hX us).map aP).length<=9000;unfold hX;simp;lia,?_⟩;show o1 (dX (us.map aP) (-1)) _;rw[U.atl];refine⟨by show(aP (gU us 0)::(hX us).map aP).length+1<=9000;unfold hX;simp;lia,?_⟩;have e:(aP (gU us 0)::(hX us).map aP)++[aP (gU us (us.length-1))]=(d8 us).map aP:=by
  unfold d8;rw[WQ,VE];rfl
 refine⟨rfl,?_⟩;refine b9 (λi E=>∃v0,E=[v0,⇑(aP P),⇑(fr p),↥((((d8 us).take i).map (bp P p)).map aP)]) ⟨none,rfl⟩ ?_ ?_
 ·rintro i t rest E hi ⟨v0,rfl⟩ KK
  change ((aP (gU us 0)::(hX us).map aP)++[aP (gU us (us.length-1))])[i]?=oZ t at hi
  rw[e,UQ]at hi;obtain⟨r,hr,rfl⟩:=VP.mp hi;have nr:=nv r (UR hr);have il:=(UO.mp hr).1;refine⟨r.1,r.2,p,130,rfl,nr,fw.n,by have:=fw.s;lia,?_⟩;refine⟨P.1,P.2,_,_,14,130+sz p,rfl,nP,kR nr fw.n,by have:=fw.s;lia,?_⟩;refine⟨by show((((d8 us).take i).map (bp P p)).map aP).length<9000;simp;lia,KK _ ⟨⇑(aP r),?_⟩⟩;rw[XT,hr,YO,VE,VE];rfl
 rintro E ⟨v0,rfl⟩;have el:∀n,n=(d8 us).length->XB n (d8 us)=d8 us:=λn h=>by rw[h,YJ]
 rw[el]
 rotate_left
 ·show((aP (gU us 0)::(hX us).map aP)++[aP (gU us (us.length-1))]).length=_;rw[e,UX]
 refine⟨dC _,by show 1+(((d8 us).map (bp P p)).map aP).length<=9000;simp;lia,?_⟩;have ej:((((λx=>aP P::x) []++((d8 us).map (bp P p)).map aP).length:Nat):Int)-2=(us.length:Int):=by simp;lia
 have bb:∀{k:Nat},k<=100->k<=big:=λh=>VZ h ∅;have m1:Mk 1 (VW "-"):=Mk.of (by decide +kernel);refine⟨⟨by rw[ej];lia,by rw[ej];exact Int.ofNat_le.mpr (bb ⋯),by rw[ej,WO,hc.len];exact bb ⋯⟩,?_⟩;rw[ej];rintro z1 rfl;have m2:=hc.mul us.length ⋯;refine⟨by rw[m1.len,m2.len];exact bb ⋯,?_⟩;rintro z2 rfl;have m3:=m1.app m2;refine⟨by rw[m3.len,m1.len];exact bb ⋯,?_⟩;rintro z3 rfl;exact⟨jV wd i (P::(d8 us).map (bp P p)) (Yb c us.length),q⟩
theorem AL(u w:Fr×Fr):(bO u w = "left"->0<(aU u.1 u.2 w.1 w.2).1)/\(bO u w = "right"->(aU u.1 u.2 w.1 w.2).1<0)/\(bO u w = "back"->(aU u.1 u.2 w.1 w.2).1=0/\u≠w):=by
 unfold bO
 split
 ·exact⟨λz=>absurd z ∅,λz=>absurd z ∅,λz=>absurd z ∅⟩
 ·rename_i n
  split
  ·rename_i h;exact⟨λ_=>h,λz=>absurd z ∅,λz=>absurd z ∅⟩
  ·split
   ·rename_i h;exact⟨λz=>absurd z ∅,λ_=>h,λz=>absurd z ∅⟩
   ·exact⟨λz=>absurd z ∅,λz=>absurd z ∅,λ_=>⟨⋯,n⟩⟩
def Lg:dF:=λas Q=>∃(i:Nat)(P u w:Fr×Fr)(p:Fr)(s:Int),as=[.v (.int (i:Int)),.v (aP P),.v (aP u),.v (aP w),.v (fr p),.v (.int s)]/\Nv P.1 P.2 14/\bW u.1 u.2 4/\bW w.1 w.2 4/\Fw p/\(s=1\/s=2\/s=3)/\
 Q (.l (if bO u w = "straight" then[]else[pD "fan" i P p (wI u w s) (Uy (bO u w))])) []
abbrev xS(P w K mg base):=(~~~Fn) 8 "_law_corner" oK (aI K Lg)
abbrev vC:fq:=top 93
theorem k5:aF ["_law_number","_law_point","_law_ahead","_law_behind","_law_far","_law_steps","_law_side","_law_units","_law_mark"] oK (aC vC):=dJ
theorem Ny(F:cI K "_law_corner" "_law_corner" vC f fd)(TX:Txt mg)(yg: ~~~Bj)(mj: ~~~cC)(qi: ~~~qM)(mw: ~~~eT)(wj: ~~~Dq):(~~~aS) cL 8 f fd oK (aI K Lg):=by
 refine F.okU k5 (λhr=>(aB (fS 6 k5.nd (fX (fK yg (f2 (fv 2) (fv 3))) aA)) (aB (bP (fP zB (fv 6) aA) (aE (dZ (i:=7) (j:=8) rfl k5.nd rfl rfl ∅ rfl rfl (f2 (fK mj (f3 (fK qi (f1 (fv 2))) (fK qi (f1 (fv 3))) (fv 5))) aY) rfl)) (aE (bP (fP kT (fv 6) aA) (aE (dZ (i:=7) (j:=8) rfl k5.nd rfl rfl ∅ rfl rfl (f2 (fK mj (f3 (fK mw (f1 (fv 3))) (fK mw (f1 (fv 2))) (fv 5))) aY) rfl)) (aE (bP (eJ rfl hr (fv 2) (fv 3) (aZ _)) (aE (aG (bX bF))) (aE (dZ (i:=7) (j:=8) rfl k5.nd rfl rfl ∅ rfl rfl (f2 (fK mj (f3 (fK qi (f1 (fv 2))) (fK mw (f1 (fv 2))) (fv 5))) aY) rfl))))))) (aE (aG (bX (f1 (fK wj (fc aY (fc (fv 0) (f4 (fv 1) (fv 7) (fv 4) (fv 8)))))))))))) ?_;rintro as Q ⟨i,P,u,w,p,s,rfl,nP,ue,uw,fw,hs,q⟩;obtain⟨r1,l1⟩:=n9 ue;obtain⟨r2,l2⟩:=n9 uw;refine⟨_,_,_,_,4,4,rfl,ue.nv,uw.nv,∅,?_⟩;have nx:=cU ue.nv uw.nv;obtain⟨g1,g2,g3⟩:=AL u w;have nl:∀(us:List (Fr×Fr))(c:Str),bM [pD "fan" i P p us c]=true:=λus c=>by
  show(L2.noL (pD _ _ _ _ _ _)&&true)=true;rw[show L2.noL (pD _ _ _ _ _ _)=true from jV ..];rfl
 show if decide ((aU u.1 u.2 w.1 w.2).1>0)=true then _ else _;refine uL (s:=s) ue uw (λe c=>?_) (λc n e=>?_) (λc n e=>?_) (λc n e=>?_)
 ·rw[c,oV rfl]at q;have z:(aU u.1 u.2 w.1 w.2).1=0:=by
   have vx:val (aU u.1 u.2 w.1 w.2)=val u.1*val w.2-val u.2*val w.1:=eC ue.nv uw.nv;have e:val (aU u.1 u.2 w.1 w.2)=0:=by rw[vx,e];grind
   have h1:¬0<(aU u.1 u.2 w.1 w.2).1:=λz=>by have:=(lY nx).2 z;grind
   have h2:¬(aU u.1 u.2 w.1 w.2).1<0:=λz=>by have:=(Al nx).2 z;grind
   lia
  rw[oX ⋯,oW ∅];show if decide ((aU u.1 u.2 w.1 w.2).1<0)=true then _ else _;rw[oX ⋯,oW ∅];refine⟨dB rfl,?_⟩;show if L2.dG (aP u) (aP w)=true then _ else _;rw[e,e7,oV rfl];exact⟨rfl,q⟩
 ·have k:=g1 c;rw[c,oW ∅,e]at q;rw[oY k,oV rfl];refine⟨u.1,u.2,rfl,ue,w.1,w.2,rfl,uw,_,_,_,_,s,4,4,rfl,r1,r2,∅,∅,∅,hs,λk k' _ _ r r'=>?_⟩;rw[show qW _ _ _ _ s k k'=_ from mO r1 r2 n hs r r'];exact⟨_,_,_,i,P,_,p,"r",rfl,nP,fw,(eF r1 r2 n hs).U,Mk.of (by decide +kernel),nl _ _,q⟩
 ·have k:=g2 c;rw[c,oW ∅,e]at q;rw[oX ⋯,oW ∅];show if decide ((aU u.1 u.2 w.1 w.2).1<0)=true then _ else _;rw[oY k,oV rfl];refine⟨w.1,w.2,rfl,u.1,u.2,rfl,_,_,_,_,s,4,4,rfl,l2,l1,∅,∅,∅,hs,λk k' _ _ r r'=>?_⟩;rw[show qW _ _ _ _ s k k'=_ from mO l2 l1 n hs r r'];exact⟨_,_,_,i,P,_,p,"l",rfl,nP,fw,(eF l2 l1 n hs).U,Mk.of (by decide +kernel),nl _ _,q⟩
 ·obtain⟨k,ne⟩:=g3 c;rw[c,oW ∅,e]at q;rw[oX ⋯,oW ∅];show if decide ((aU u.1 u.2 w.1 w.2).1<0)=true then _ else _;rw[oX ⋯,oW ∅];refine⟨dB rfl,?_⟩;show if L2.dG (aP u) (aP w)=true then _ else _;have eu:L2.dG (aP u) (aP w)=false:=by
   cases h:L2.dG (aP u) (aP w)with
   |false=>rfl
   |true=>exact absurd (xN ((Mj (e:=4) (f:=4) ⟨_,_,rfl,ue⟩ ⟨_,_,rfl,uw⟩).1 h)) ne
  rw[eu,oW ∅];refine⟨u.1,u.2,rfl,ue,u.1,u.2,rfl,_,_,_,_,s,4,4,rfl,r1,l1,∅,∅,∅,hs,λk k' _ _ r r'=>?_⟩;rw[show qW _ _ _ _ s k k'=_ from mO r1 l1 n hs r r'];exact⟨_,_,_,i,P,_,p,"b",rfl,nP,fw,(eF r1 l1 n hs).U,Mk.of (by decide +kernel),nl _ _,q⟩
theorem FT(h:bI a)(k:bI b):(aT a b).1<0↔val a<val b:=by
 rw[<-Al (dD h k),dE h k];constructor<;>intro z<;>grind
def oO(us:List (Fr×Fr))(j:Nat):Fr:=cS (gU us j).1 (gU us j).2 (gU us (j+1)).1 (gU us (j+1)).2
theorem JR(h:j+1<us.length):Ux ((us.map aP).getD j .non) ((us.map aP).getD (j+1) .non)=oO us j:=by
 have ga:∀{j},j<us.length->(us.map aP).getD j .non=aP (gU us j):=λ{j}h=>by
  unfold gU;rw[VR,VR,UQ,UP h];rfl
 rw[ga ⋯,ga h];unfold Ux oO;have c:∀c:Fr×Fr,cx (aP c)=c:=λc=>tM c.1 c.2;rw[c,c]
def Td:dF:=λas Q=>∃(u w:Fr×Fr)(us:List (Fr×Fr))(r p:Fr),as=[.v (.lst (us.map aP)),.v (fr r),.v (fr p)]/\Us u w us/\bI r/\sz r<=4/\Fw p/\Q (.v (fr (uO r p (q9 (us.map aP) (us.length-2))))) []
abbrev Bl(P w K mg base):=(~~~Fn) 4 "_law_inner" ["_law_units","_law_radius","_law_far"] (aI K Td)
abbrev zS:fq:=top 94
theorem mL:aF ["_law_units","_law_radius","_law_far","_law_dots","_law_least","_law_one"] ["_law_units","_law_radius","_law_far"] (aC zS):=dJ
theorem Vs(F:cI K "_law_inner" "_law_inner" zS f fd)(TX:Txt mg)(xg: ~~~Dp)(rm: ~~~sX)(nj: ~~~jI)(qw: ~~~qN):(~~~aS) cL 4 f fd ["_law_units","_law_radius","_law_far"] (aI K Td):=by
 refine F.okU mL (λhr=>(aB (bP (fP Sa (aR bA (fQ 2) (fQ 1)) (aR bA (fQ 1) (fQ 2))) (aE (aG (aJ (f2 aA aA)))) bE) (aB (xA (i:=3) (N':=oG) (t:=2) (cap:=[]) mL.nd rfl (WA rfl) rfl rfl (bD.of rfl) rfl ∅ (qQ rfl rfl TX.n_zip (f2 (fv 0) (dH rfl (fv 0) (dQ aA) iF))) (λ_ _ _ _=>(dA (n:=2) rfl rfl (aK (fH 0) (aK (fH 1) cA)))) (λ_ _ _ _=>(fK xg (f2 (fv 0) (fv 1))))) (aB (fS 4 mL.nd (fQ 3)) (aB (jS PassesOwn.never rfl (gT rfl (fv 3)) (fG 5 mL.nd) (aE (bP (fP kT (fX (fK rm (f2 (fv 5) (fv 4))) aA) aA) (aE (fS 4 mL.nd (fv 5))) bE))) (aE (aG (fK nj (f2 (fK nj (f2 (fK rm (f2 (fv 1) (fv 2))) (fK qw (f2 (aJ (f2 aA aA)) (fv 4))))) (aJ (f2 aA aA))))))))))) ?_;rintro as Q ⟨u,w,us,r,p,rfl,U,nr,sr,fw,q⟩;have sp:=fw.s;have n2:=U.n2;have n30:=U.n30;obtain⟨uv,l1,l2,l3⟩:=U.inn;have lu:(us.map aP).length=us.length:=UX ..;have c:=Qq fw.n nr;refine⟨jU (e:=30) (pl (dW p) ⋯) (pl (b8 r) ⋯) ∅,jU (e:=30) (pl (dW r) ⋯) (pl (b8 p) ⋯) ∅,?_⟩;show if decide (p.1*r.2>=r.1*p.2)=true then _ else _;unfold uO at q
 by_cases k:p.1*r.2>=r.1*p.2
 ·rw[oV (oY k)];rw[oV (by
    have:¬val p<val r:=λz=>by have:=c.2 z;lia
    grind)]at q
  exact⟨rfl,q⟩
 rw[oW (by simpa using k)];have lt:=c.1 ⋯;rw[oW (by grind)]at q;refine⟨rfl,?_⟩;refine b9 (λi E=>∃v0 v1:Option L2.U,E=[v0,v1,↥((VC i).map λj=>fr (oO us j))]) ⟨none,none,rfl⟩ ?_ ?_
 ·rintro i t rest E hi ⟨v0,v1,rfl⟩ KK;obtain⟨l,rfl⟩:=Tv hi;obtain⟨a1,a2⟩:=U.at_ (i:=i) ⋯;obtain⟨b1,b2⟩:=U.at_ l;refine⟨_,_,_,_,30,30,rfl,a2.nv,b2.nv,∅,?_⟩;refine⟨by show((VC i).map λj=>fr (oO us j)).length<9000;simp;lia,KK _ ⟨⇑(aP (gU us i)),⇑(aP (gU us (i+1))),?_⟩⟩;rw[XA,VE];rfl
 rintro E ⟨v0,v1,rfl⟩;rw[Hv];have nd:∀j,j+1<us.length->bI (oO us j)/\sz (oO us j)<=301:=λj hj=>by
  obtain⟨a1,a2⟩:=U.at_ (i:=j) ⋯;obtain⟨b1,b2⟩:=U.at_ hj;exact⟨bG a2.nv b2.nv,VZ (nS a2.nv b2.nv) ∅⟩
 have ldk:∀j,j+2<=us.length->bI (q9 (us.map aP) j)/\sz (q9 (us.map aP) j)<=301:=λj hj=>Nh uv j ⋯;have l0:q9 (us.map aP) 0=oO us 0:=JR ⋯;have ls:∀j,j+2<us.length->q9 (us.map aP) (j+1)=mn (q9 (us.map aP) j) (oO us (j+1)):=λj hj=>by
  show mn _ (Ux _ _)=_;rw[JR ⋯]
 refine⟨mJ (λ_=>rfl) _,?_⟩;show o1 (dX ((VC (us.length-1)).map λj=>fr (oO us j)) 0) _;rw[show dX ((VC (us.length-1)).map λj=>fr (oO us j)) 0=oZ (fr (oO us 0))from gR (j:=0) (by rw[UQ,WS ⋯];rfl),<-l0];refine cK (λi E=>∃v5:Option L2.U,E=[⇑(.lst (us.map aP)),⇑(fr r),⇑(fr p),⇑(.lst ((VC (us.length-1)).map λj=>fr (oO us j))),⇑(fr (q9 (us.map aP) (i-1))),v5]) ⟨none,rfl⟩ ?_ ?_
 ·rintro i t rest E hi ⟨v5,rfl⟩ KK;rw[UQ]at hi;obtain⟨i',xt,rfl⟩:=VP.mp hi;have il:=(UO.mp xt).1;rw[XU]at il;rw[WS il]at xt;cases xt;obtain⟨d1,d2⟩:=nd i ⋯;obtain⟨e1,e2⟩:=ldk (i-1) ⋯;refine⟨_,_,rfl,d1,e1,⋯,?_⟩;have sg:=FT d1 e1;have nx:q9 (us.map aP) (i+1-1)=if(aT (oO us i) (q9 (us.map aP) (i-1))).1<0 then oO us i else q9 (us.map aP) (i-1):=by
   cases i with
   |zero=>
    rw[oW (λz=>by have:=sg.1 z;rw[show(0:Nat)-1=0 from rfl,l0]at this;grind)]
   |succ i=>
    rw[show i+1+1-1=i+1 from rfl,show i+1-1=i from rfl]at *;rw[ls i ⋯];unfold mn;simp only[sg]
  show if decide ((aT (oO us i) (q9 (us.map aP) (i-1))).1<0)=true then _ else _
  by_cases z:(aT (oO us i) (q9 (us.map aP) (i-1))).1<0
  ·rw[oY z,oV rfl];rw[oV z]at nx;refine KK _ ⟨⇑(fr (oO us i)),?_⟩;rw[nx];rfl
  ·rw[oX z,oW ∅];rw[oW z]at nx;refine KK _ ⟨⇑(fr (oO us i)),?_⟩;rw[nx]
 ·rintro E ⟨v5,rfl⟩;rw[UX,XU,show us.length-1-1=us.length-2 by lia];have n1:=dD nr fw.n;have n2':=cH (aM 1) l1;have s1:=lX nr fw.n;have s2:=gZ (aM 1) l1;have o:=Qa;have nh:bI ((1,2):Fr):=⟨∅,∅⟩;have sh:sz ((1,2):Fr)=2:=∅
  have n3:=aO n1 n2';have s3:=cF n1 n2';have nt:bI ((2,1):Fr):=aM 2;have t0:((2,1):Fr).1≠0:=∅
  have e:aN (aN (aT r p) (bH (1,1) (q9 (us.map aP) (us.length-2)))) (1,2)=aN (aT r p) (b7 (bH (1,1) (q9 (us.map aP) (us.length-2))) (2,1)):=by
   refine bQ (aO n3 nh) (aO n1 (gN n2' t0)) ?_;rw[bB n3 nh,bB n1 n2',bB n1 (gN n2' t0),jR n2' nt t0,d6];have vh:val ((1,2):Fr)=1/2:=rfl;rw[vh];grind
  refine⟨r,p,rfl,nr,fw.n,⋯,(1,1),_,rfl,aM 1,l1,⋯,_,_,rfl,n1,n2',⋯,?_⟩;refine⟨_,(1,2),rfl,n3,nh,⋯,?_⟩;rw[e];exact⟨rfl,q⟩
theorem jD(h:l≠[]):okT (.lst (l.map aP))=true:=by
 cases l with
 |nil=>exact absurd rfl h
 |cons a l=>
  have t:∀l:List (Fr×Fr),(l.map aP).all Cj=true:=λl=>WM.mpr λx hx=>by
   obtain⟨c,_,rfl⟩:=XF.mp hx;rfl
  show(noL (.lst ((a::l).map aP))||(((a::l).map aP).all Cj&&bM ((a::l).map aP)))=true;rw[t,show bM ((a::l).map aP)=true from dC _];rfl
def G9(M:Fr×Fr)(R z:Fr)(a b:Fr×Fr):List (Fr×Fr):=if z=(0,1)then[bp M z a,bp M R a,bp M R b]else[bp M z a,bp M R a,bp M R b,bp M z b]
def qR(M:Fr×Fr)(R z:Fr)(us:List (Fr×Fr))(m:Nat->Str)(j:Nat):L2.T:=.lst [.lst ((G9 M R z (cO us j) (cO us (j+1))).map aP),.str (m j)]
def Hy(z:Fr)(_:Nat):Str:=if z=(0,1)then "-r-" else "-r-l"
theorem TQ(n:Nv M.1 M.2 e)(k:Nv a.1 a.2 f):bp M (0,1) a=M:=by
 have n0:bI ((0,1):Fr):=aM 0;obtain⟨v1,v2⟩:=DK n k n0;refine Prod.ext (bQ (cH n.x (aO k.x n0)) n.x ?_) (bQ (cH n.y (aO k.y n0)) n.y ?_)
 ·rw[v1,d6];show _+_*((0:Int):Rat)=_;grind
 ·rw[v2,d6];show _+_*((0:Int):Rat)=_;grind
theorem IF{M a b:Fr×Fr}{R z:Fr}{e f:Nat}(n:Nv M.1 M.2 e)(k:Nv a.1 a.2 f):G9 M R z a b=Py M R z a b:=by
 unfold G9 Py
 split
 ·rename_i h;subst h;rw[TQ n k]
 ·rfl
theorem NB{M a b:Fr×Fr}{R z:Fr}:G9 M R z a b≠[]:=by unfold G9;split<;>simp
theorem Za{M:Fr×Fr}{R z:Fr}{us:List (Fr×Fr)}{m:Nat->Str}{j:Nat}:Vl (qR M R z us m j)=true:=jD NB
theorem Zb{M:Fr×Fr}{R z:Fr}{us:List (Fr×Fr)}{k:Nat}(h:2<=k)(hz:z≠(0,1)):Ed (k-1) "-rll" (Ed 0 "lr-l" ((VC k).map (qR M R z us (Hy z))))=(VC k).map (qR M R z us (d9 false true k)):=by
 obtain⟨n,rfl⟩:∃n,k=n+2:=⟨k-2,⋯⟩;have g:∀(m:Nat->Str)(j:Nat),((VC (n+2)).map (qR M R z us m))[j]?=if j<n+2 then oZ (qR M R z us m j)else none:=λm j=>by
  rw[UQ]
  by_cases c:j<n+2
  ·rw[WS c,oV c];rfl
  ·rw[oW c,WT (by simp;lia)];rfl
 have c1:Ed 0 "lr-l" ((VC (n+2)).map (qR M R z us (Hy z)))=((VC (n+2)).map (qR M R z us (Hy z))).set 0 (qR M R z us (λ_=>"lr-l") 0):=by
  unfold Ed;rw[g,oV ⋯];rfl
 rw[c1];have c2:Ed (n+2-1) "-rll" (((VC (n+2)).map (qR M R z us (Hy z))).set 0 (qR M R z us (λ_=>"lr-l") 0))=(((VC (n+2)).map (qR M R z us (Hy z))).set 0 (qR M R z us (λ_=>"lr-l") 0)).set (n+1) (qR M R z us (λ_=>"-rll") (n+1)):=by
  unfold Ed;rw[VI ⋯,g,oV ⋯];rfl
 rw[c2];refine aw λj=>?_;rw[g,YF,YF,g];simp only[XS,UX,XU];have row:∀j,d9 false true (n+2) j=if j=0 then "lr-l" else if j=n+1 then "-rll" else "-r-l":=λj=>by
  unfold d9 Kj;rw[oW ∅]
  by_cases a:j=0
  ·rw[oV a,oV a];rfl
  ·rw[oW a,oW a]
   by_cases b:j=n+1
   ·rw[oV ⋯,oV b];rfl
   ·rw[oW ⋯,oW b];rfl
 have m0:Hy z=λ_=>VW "-r-l":=by funext j;unfold Hy;rw[oW hz]
 have eI:∀{m m':Nat->Str}{j:Nat},m j=m' j->qR M R z us m j=qR M R z us m' j:=λ{m m' j}e=>by unfold qR;rw[e]
 by_cases a:n+1=j
 ·subst a;rw[oV rfl,oV ⋯,oV ⋯];exact congrArg oZ (eI (by rw[row,oW ⋯,oV rfl]))
 ·rw[oW a]
  by_cases b:0=j
  ·subst b;rw[oV rfl,oV ⋯,oV ⋯];exact congrArg oZ (eI (by rw[row,oV rfl]))
  ·rw[oW b]
   split
   ·exact congrArg oZ (eI (by rw[m0,row,oW ⋯,oW ⋯]))
   ·rfl
theorem EV{M:Fr×Fr}{R z:Fr}{us:List (Fr×Fr)}{k:Nat}(hz:z=(0,1)):(VC k).map (qR M R z us (Hy z))=(VC k).map (qR M R z us (d9 true true k)):=by
 refine List.map_congr_left λj _=>?_;unfold qR Hy;rw[oV hz];rfl
theorem Y2(w:Bool)(k j:Nat):(d9 w true k j).length<=4/\XZ (d9 w true k j) "r" "x" = XZ (d9 w true k j) "r" "x"/\(XZ (d9 w true k j) "r" "x").length<=4/\(XZ (XZ (d9 w true k j) "r" "x") "l" "r").length<=4/\XZ (XZ (XZ (d9 w true k j) "r" "x") "l" "r") "x" "l" = d9 w false k j:=by
 unfold d9;rcases BP w k j with e|e|e|e<;>rw[e]<;>decide +kernel
theorem jW(h:okU u=true)(k:l.all okU=true):(u::l).all okU=true:=by rw[YD,h,k];rfl
theorem pP(h:t=f j):(VC j).map f++[t]=(VC (j+1)).map f:=by rw[XA,VE,h];rfl
def K0:dF:=λas Q=>∃(i:Nat)(x y u v r:Fr)(l:Bool)(M:Fr×Fr)(p:Fr)(s:Int),as=[.v (.int (i:Int)),.v (iP (.arc x y u v r l)),.v (aP M),.v (fr p),.v (.int s)]/\gJ (.arc x y u v r l)/\Nv M.1 M.2 14/\Fw p/\(s=1\/s=2\/s=3)/\
 Q (.l (Px i M r p (Aq x y u v l s) l)) []
abbrev vW(P w K mg base):=(~~~Fn) 9 "_law_sectors" ["_law_number","_law_move","_law_middle","_law_far","_law_steps"] (aI K K0)
abbrev sH:fq:=top 95
theorem cQ:aF ["_law_number","_law_move","_law_middle","_law_far","_law_steps","_law_ends","_law_units","_law_inner_here","_law_outer","_law_found","_law_one","_law_other","_law_some","_law_a","_law_b","_law_spokes","_law_spots"] ["_law_number","_law_move","_law_middle","_law_far","_law_steps"] (aC sH):=dJ
theorem Jz(F:cI K "_law_sectors" "_law_sectors" sH f fd)(TX:Txt mg)(mj: ~~~cC)(yh: ~~~Bl)(qw: ~~~qN)(xh: ~~~Ds)(ml: ~~~c8)(qq: ~~~qL):(~~~aS) cL 9 f fd ["_law_number","_law_move","_law_middle","_law_far","_law_steps"] (aI K K0):=by
 refine F.okU cQ (λhr=>(aB (fS 5 cQ.nd (pE (eJ rfl hr (fQ 1) aY (aZ _)) (Vb rfl (fv 1) (dQ aA) (dQ aA)) (aJ (f2 (fQ 1) (fQ 1))))) (aB (fS 6 cQ.nd (fK mj (f3 (fQ 5) (fQ 5) (fv 4)))) (aB (Yk (i:=7) (j:=8) (k:=9) rfl cQ.nd rfl rfl rfl ∅ ∅ ∅ rfl rfl rfl (f3 (fK yh (f3 (fv 6) (fQ 1) (fv 3))) (fK qw (f2 (fQ 1) (fv 3))) (bX bF)) rfl) (KP (i:=9) (C4 (j:=10) (k:=11) rfl PassesOwn.never rfl rfl TX.n_zip (f2 (fv 6) (dH rfl (fv 6) (dQ aA) iF)) cQ.nd rfl rfl (WA rfl) (WA rfl) (qb_cons' (Oq (j:=12) cQ.nd rfl (WA rfl) (bX (f3 (fv 10) (fK xh (f2 (fv 10) (fv 11))) (fv 11))) ∅) (pN (C4 (j:=13) (k:=14) rfl PassesOwn.never rfl rfl TX.n_zip (f2 (fv 12) (dH rfl (fv 12) (dQ aA) iF)) cQ.nd rfl rfl (WA rfl) (WA rfl) (qb_cons' (Oq (j:=15) cQ.nd rfl (WA rfl) (bX (f2 (fK ml (f2 (fv 13) (fv 7))) (fK ml (f2 (fv 13) (fv 8))))) ∅) (qb_cons' (Oq (j:=15) cQ.nd rfl (WA rfl) (iW (fv 15) (bX (f2 (fK ml (f2 (fv 14) (fv 8))) (fK ml (f2 (fv 14) (fv 7)))))) ∅) (qb_cons' (W2 (j:=16) (N':=["_law_reach","_law_middle"]) (t:=1) (cap:=[(2,false)]) cQ.nd rfl (WA rfl) rfl rfl (bD.of rfl) rfl ∅ (gT rfl (fv 15)) (λ_ _ _ _=>(fH 0)) (λ_ _ _ _=>(fK qq (f2 (fv 1) (fv 0)))) ∅) (pN (BL (eJ rfl hr (fv 7) (aJ (f2 aA aA)) (aZ _)) (pN (C3 (i:=9) rfl rfl (by first|exact WA rfl|exact WN (WA rfl)|exact WN (WN rfl)) (f1 (Rc (f2 (dH rfl (fv 16) iF (dQ aA)) aY))))) (pN (C3 (i:=9) rfl rfl (by first|exact WA rfl|exact WN (WA rfl)|exact WN (WN rfl)) (f1 (Rc (f2 (fv 16) aY)))))))))) ∅ ∅))) ∅ ∅) (BL (rL rfl hr (fv 7) (aJ (f2 aA aA)) (aZ _)) (pN (GZ (i:=9) rfl rfl (D0 Ex (qv 9) zF (λ_ _=>rfl)) (D0 Ex (qv 9) X0 (λ_ _=>rfl)))) GY) (aB (EL rfl hr (fQ 1) (Yl (i:=9) (N':=["_law_spots","_law_marks"]) (t:=2) cQ.nd rfl (WA rfl) rfl rfl (bD.of rfl) (gT rfl (fv 9)) (λ_ _ _ _=>(Rg (n:=2) rfl rfl (aK (fH 0) (aK (fH 1) cA)))) (λ_ _ _ _=>(KS (Q6 (Rj (QE.tk (fv 0)) (Rj (Eo (Eo (Eo (QE.tk (fv 1))))) EK))))))) (aE (aG (fT (N':=["_law_spots","_law_marks","_law_number"]) (t:=2) (cap:=[(0,false)]) rfl (bD.of rfl) rfl ∅ (gT rfl (fv 9)) (λ_ _ _ _=>(Rg (n:=2) rfl rfl (aK (fH 0) (aK (fH 1) cA)))) (λ_ _ _ _=>(aJ (f4 aY (fv 2) (tR rfl rfl TX.n_tuple (f1 (fv 0))) (fv 1))))))))))))) ?_;rintro as Q ⟨i,x,y,u,v,r,l,M,p,s,rfl,ok,nM,fw,hs,q⟩;obtain⟨U0,W0,B⟩:=Lx ok hs;have U:=B.U;obtain⟨o1,o2,ne,nr,sr,r0,_⟩:=ok;have sp:=fw.s;apply Jf (R:=λ(t:L2.T)=>∃c d:Fr×Fr,t = .tup [aP c,aP d]/\bW c.1 c.2 4/\bW d.1 d.2 4/\d≠c/\Wu c d s=Aq x y u v l s)
 case h=>
  intro J;refine⟨UU _,?_⟩;show if L2.dG (.str (mN l)) (.str "left")=true then _ else _;obtain hl|hl:=ck l
  ·rw[show L2.dG (.str (mN l)) (.str "left")=true from by rw[hl];decide +kernel,oV rfl];refine⟨λz=>absurd (show HT.sIx 5 0 (oZ 1)=0 from z.1) ∅,?_⟩;show uD [↑(i:Int),⇑(iP (.arc x y u v r l)),⇑(aP M),⇑(fr p),↑s,⇑(.tup [aP (x,y),aP (u,v)]),none,none,none,none,none,none,none,none,none,none,none] (Gw _ _ _);generalize hL:L2.T.tup _=t;refine J t ⟨(x,y),(u,v),hL.symm,o1,o2,λz=>ne ⟨(congrArg Prod.fst z).symm,(congrArg Prod.snd z).symm⟩,by unfold Aq;rw[oV hl]⟩
  ·rw[show L2.dG (.str (mN l)) (.str "left")=false from by rw[hl];decide +kernel,oW ∅];show uD [↑(i:Int),⇑(iP (.arc x y u v r l)),⇑(aP M),⇑(fr p),↑s,⇑(.tup [aP (u,v),aP (x,y)]),none,none,none,none,none,none,none,none,none,none,none] (Gw _ _ _);generalize hL:L2.T.tup _=t;refine J t ⟨(u,v),(x,y),hL.symm,o2,o1,λz=>ne ⟨congrArg Prod.fst z,congrArg Prod.snd z⟩,by unfold Aq;rw[oW (by rw[hl];decide)]⟩
 rintro t ⟨c,d,rfl,oc,od,nd,eu⟩;refine⟨_,_,_,_,s,4,4,rfl,oc,od,∅,∅,∅,hs,λk k' _ _ r1 r2=>?_⟩;rw[show qW _ _ _ _ s k k'=_ from mO oc od nd hs r1 r2,eu];generalize Aq x y u v l s=us at *;have n2:=U.n2;have n30:=U.n30;refine⟨U0,W0,us,r,p,rfl,U,nr,⋯,fw,?_⟩;obtain⟨uv,d1,d2,d3⟩:=U.inn;obtain⟨nz,sz',_⟩:=Yw nr (show sz r<=4 by lia) fw d1 ⋯ d3;unfold Px at q;generalize uO r p (q9 (us.map aP) (us.length-2))=z at *;refine⟨r,p,rfl,nr,fw.n,⋯,?_⟩;have nR:=cH nr fw.n;have sR:sz (bH r p)<=30:=by have:=gZ nr fw.n;lia
 generalize bH r p=R at *;refine⟨rfl,?_⟩;have une:us≠[]:=λz=>by rw[z]at n2;simp at n2
 refine⟨jD une,?_,?_⟩
 ·rw[show gL (us.map aP) (oZ 1) none=(us.map aP).drop 1 from eV (us.map aP) 1,<-List.map_drop];exact jD (λz=>by have:=congrArg List.length z;simp at this;lia)
 refine cK (λn E=>∃v10 v11 v12 yf v14 v15 v16:Option L2.U,[v10,v11,v12,yf,v14,v15,v16].all okU=true/\E=[↑(i:Int),⇑(iP (.arc x y u v r l)),⇑(aP M),⇑(fr p),↑s,⇑(.tup [aP c,aP d]),⇑(.lst (us.map aP)),⇑(fr z),⇑(fr R),⇑(.lst ((VC (2*n)).map (qR M R z us (Hy z)))),v10,v11,v12,yf,v14,v15,v16]) ⟨none,none,none,none,none,none,none,rfl,rfl⟩ ?_ ?_
 ·rintro n t rest E hi ⟨v10,v11,v12,yf,v14,v15,v16,hv,rfl⟩ KK;obtain⟨ln,rfl⟩:=Tv hi;obtain⟨a1,a2⟩:=U.at_ (i:=n) ⋯;obtain⟨b1,b2⟩:=U.at_ ln;obtain⟨_,dn⟩:=U.nb n _ _ a1 b1;refine⟨_,_,rfl,a2,b2,dn,?_⟩;have w0:gU us n=cO us (2*n):=by unfold cO;rw[oV ⋯,show(2*n)/2=n by lia]
  have w1:uC (gU us n) (gU us (n+1))=cO us (2*n+1):=by unfold cO;rw[oW ⋯,show(2*n+1)/2=n by lia];rfl
  have w2:gU us (n+1)=cO us (2*n+2):=by unfold cO;rw[oV ⋯,show(2*n+2)/2=n+1 by lia]
  have ok3:okT (.lst [aP (cO us (2*n)),aP (cO us (2*n+1)),aP (cO us (2*n+2))])=true:=jD (l:=[_,_,_]) (by simp);have ok2:okT (.lst [aP (cO us (2*n+1)),aP (cO us (2*n+2))])=true:=jD (l:=[_,_]) (by simp);have aF5:=ok3;rw[<-w0,<-w1,<-w2]at aF5;rw[<-w1,<-w2]at ok2;refine⟨aF5,ok2,?_⟩;refine cK (λe E=>∃yf v14 v15 v16:Option L2.U,[yf,v14,v15,v16].all okU=true/\E=[↑(i:Int),⇑(iP (.arc x y u v r l)),⇑(aP M),⇑(fr p),↑s,⇑(.tup [aP c,aP d]),⇑(.lst (us.map aP)),⇑(fr z),⇑(fr R),⇑(.lst ((VC (2*n+e)).map (qR M R z us (Hy z)))),⇑(aP (cO us (2*n))),⇑(aP (cO us (2*n+2))),⇑(.lst [aP (cO us (2*n)),aP (cO us (2*n+1)),aP (cO us (2*n+2))]),yf,v14,v15,v16]) ⟨yf,v14,v15,v16,?_,by rw[<-w0,<-w1,<-w2];rfl⟩ ?_ ?_
  ·simp only[YD,VN]at hv⊢;exact hv.2.2.2
  ·rintro e t rest E hi ⟨yf,v14,v15,v16,hv,rfl⟩ KK;obtain⟨le,ht⟩:e<2/\t = .tup [aP (cO us (2*n+e)),aP (cO us (2*n+e+1))]:=by
    match e,hi with
    |0,hi=>exact⟨∅,by rw[Nat.add_zero,<-w0,<-w1];exact(Option.some.inj hi).symm⟩
    |1,hi=>exact⟨∅,by rw[<-w1,<-w2];exact(Option.some.inj hi).symm⟩
    |_+2,hi=>cases hi
   subst ht;generalize hj:2*n+e=j at *;have na:=U.wt (j:=j) ⋯;have nb:=U.wt (j:=j+1) ⋯;refine⟨_,_,z,130,rfl,na,nz,⋯,?_⟩;refine⟨_,_,R,130,rfl,na,nR,⋯,?_⟩;refine⟨_,_,R,130,rfl,nb,nR,⋯,?_⟩;refine⟨_,_,z,130,rfl,nb,nz,⋯,?_⟩;refine⟨by show 2+2<=9000;decide,?_⟩;refine⟨rfl,?_⟩;refine⟨_,_,_,_,14,130+sz z,rfl,nM,kR na nz,⋯,by show 0<9000;decide,?_⟩;refine⟨_,_,_,_,14,130+sz R,rfl,nM,kR na nR,⋯,by show 1<9000;decide,?_⟩;refine⟨_,_,_,_,14,130+sz R,rfl,nM,kR nb nR,⋯,by show 2<9000;decide,?_⟩;refine⟨_,_,_,_,14,130+sz z,rfl,nM,kR nb nz,⋯,by show 3<9000;decide,?_⟩;refine⟨rfl,?_⟩;refine⟨dB rfl,?_⟩;show if L2.dG (fr z) (fr (0,1))=true then _ else _;rw[Bz];have lj:((VC j).map (qR M R z us (Hy z))).length<9000:=by simp;lia
   have oj:((VC j).map (qR M R z us (Hy z))).all Vl=true:=WM.mpr λt ht=>by
    obtain⟨q,_,rfl⟩:=XF.mp ht;exact Za
   have ej:∀(e:Nat),2*n+e=j->2*n+(e+1)=j+1:=λe h=>⋯
   by_cases cz:z=(0,1)
   ·rw[oV (oY cz)];have p3:okT (.lst ([bp M z (cO us j),bp M R (cO us j),bp M R (cO us (j+1))].map aP))=true:=jD (by simp);refine⟨p3,lj,oj,?_,KK _ ⟨⇑(aP (cO us j)),⇑(aP (cO us (j+1))),↥([aP (aN (cO us j).1 z,aN (cO us j).2 z),aP (aN (cO us j).1 R,aN (cO us j).2 R),aP (aN (cO us (j+1)).1 R,aN (cO us (j+1)).2 R),aP (aN (cO us (j+1)).1 z,aN (cO us (j+1)).2 z)]),↥([bp M z (cO us j),bp M R (cO us j),bp M R (cO us (j+1)),bp M z (cO us (j+1))].map aP),rfl,?_⟩⟩
    ·exact jW rfl (jW rfl (jW rfl (jW rfl (jW rfl (jW rfl (jW (jD une) (jW rfl (jW rfl (jW rfl (jW rfl (jW rfl (jW ok3 (jW rfl (jW rfl (jW rfl (jW rfl rfl))))))))))))))))
    ·rw[ej e hj,<-pP (j:=j) (t:=.lst [.lst ([bp M z (cO us j),bp M R (cO us j),bp M R (cO us (j+1))].map aP),.str "-r-"]) (by unfold qR G9 Hy;rw[oV cz,oV cz])];rfl
   ·rw[oW (by simpa using cz)];have p4:okT (.lst ([bp M z (cO us j),bp M R (cO us j),bp M R (cO us (j+1)),bp M z (cO us (j+1))].map aP))=true:=jD (by simp);refine⟨p4,lj,oj,?_,KK _ ⟨⇑(aP (cO us j)),⇑(aP (cO us (j+1))),↥([aP (aN (cO us j).1 z,aN (cO us j).2 z),aP (aN (cO us j).1 R,aN (cO us j).2 R),aP (aN (cO us (j+1)).1 R,aN (cO us (j+1)).2 R),aP (aN (cO us (j+1)).1 z,aN (cO us (j+1)).2 z)]),⇑(.lst ([bp M z (cO us j),bp M R (cO us j),bp M R (cO us (j+1)),bp M z (cO us (j+1))].map aP)),jW rfl (jW rfl (jW rfl (jW p4 rfl))),?_⟩⟩
    ·exact jW rfl (jW rfl (jW rfl (jW rfl (jW rfl (jW rfl (jW (jD une) (jW rfl (jW rfl (jW rfl (jW rfl (jW rfl (jW ok3 (jW rfl (jW rfl (jW rfl (jW p4 rfl))))))))))))))))
    ·rw[ej e hj,<-pP (j:=j) (t:=.lst [.lst ([bp M z (cO us j),bp M R (cO us j),bp M R (cO us (j+1)),bp M z (cO us (j+1))].map aP),.str "-r-l"]) (by unfold qR G9 Hy;rw[oW cz,oW cz])];rfl
  ·rintro E ⟨yf,v14,v15,v16,hv,rfl⟩;exact KK _ ⟨⇑(aP (cO us (2*n))),⇑(aP (cO us (2*n+2))),⇑(.lst [aP (cO us (2*n)),aP (cO us (2*n+1)),aP (cO us (2*n+2))]),yf,v14,v15,v16,jW rfl (jW rfl (jW ok3 hv)),rfl⟩
 ·rintro E ⟨v10,v11,v12,yf,v14,v15,v16,hv,rfl⟩;rw[Hv,show 2*(us.length-1)=2*us.length-2 by lia];have k2:2<=2*us.length-2:=⋯
  have k60:2*us.length-2<=60:=⋯
  have wt:∀j,j<=2*us.length-2->Nv (cO us j).1 (cO us j).2 130:=λj hj=>U.wt ⋯;generalize hk:2*us.length-2=k at *;refine⟨dB rfl,?_⟩;apply Jf (R:=λ(L:List L2.T)=>L=(VC k).map (qR M R z us (d9 (decide (z=(0,1))) true k)))
  case h=>
   intro J;show if(!L2.dG (fr z) (fr (0,1)))=true then _ else _;rw[Bz]
   by_cases cz:z=(0,1)
   ·rw[oW (by rw[oY cz];decide)];show uD [↑(i:Int),⇑(iP (.arc x y u v r l)),⇑(aP M),⇑(fr p),↑s,⇑(.tup [aP c,aP d]),⇑(.lst (us.map aP)),⇑(fr z),⇑(fr R),⇑(.lst ((VC k).map (qR M R z us (Hy z)))),v10,v11,v12,yf,v14,v15,v16] (Gw _ _ _);generalize hL:(VC k).map (qR M R z us (Hy z))=L;exact J L (by rw[<-hL,EV cz,oY cz])
   ·rw[oV (by rw[oX cz];rfl)];have lk:((VC k).map (qR M R z us (Hy z))).length=k:=by simp
    refine⟨by rw[lk];exact k2,WM.mpr λt ht=>?_,?_,?_⟩
    ·obtain⟨q,_,rfl⟩:=XF.mp ht;exact Za
    ·exact jW rfl (jW rfl (jW rfl (jW rfl (jW rfl (jW rfl (jW (jD une) (jW rfl (jW rfl (jW rfl hv)))))))))
    ·rw[lk,Zb k2 cz];exact J _ (by rw[oX cz])
  have itA:∀{m:Nat->Str}{j:Nat}{t:L2.T},((VC k).map (qR M R z us m))[j]?=oZ t->j<k/\t=qR M R z us m j:=λ{m j t}h=>by
   rw[UQ]at h;obtain⟨j',hj',rfl⟩:=VP.mp h;have lj:=(UO.mp hj').1;rw[XU]at lj;rw[WS lj]at hj';cases hj';exact⟨lj,rfl⟩
  have sT:∀j,j<k->AS "sector" i (G9 M R z (cO us j) (cO us (j+1))) (d9 (decide (z=(0,1))) l k j)=vO i M R z us l j:=λj hj=>by
   unfold vO;rw[hk,IF nM (wt j ⋯)]
  rintro L rfl;refine⟨UU _,?_⟩;show if L2.dG (.str (mN l)) (.str "right")=true then _ else _;obtain hl|hl:=ck l
  ·rw[show L2.dG (.str (mN l)) (.str "right")=false from by rw[hl];decide +kernel,oW ∅];refine⟨rfl,?_⟩;refine b9 (λj E=>∃v0 v1:Option L2.U,E=[v0,v1,↑(i:Int),↥((VC j).map (vO i M R z us l))]) ⟨none,none,rfl⟩ ?_ ?_
   ·rintro j t rest E hj ⟨v0,v1,rfl⟩ KK;obtain⟨lj,rfl⟩:=itA hj;refine⟨by simp;lia,KK _ ⟨⇑(.lst ((G9 M R z (cO us j) (cO us (j+1))).map aP)),⇑(.str (d9 (decide (z=(0,1))) true k j)),?_⟩⟩;rw[<-pP (j:=j) (f:=vO i M R z us l) (t:=_) (sT j lj)];rw[hl];rfl
   ·rintro E ⟨v0,v1,rfl⟩;rw[UX,XU];have nl:=mJ (f:=vO i M R z us l) (λ_=>jV ..) k;exact⟨nl,nl,q⟩
  ·rw[show L2.dG (.str (mN l)) (.str "right")=true from by rw[hl];decide +kernel,oV rfl];refine⟨rfl,?_⟩;refine b9 (λj E=>∃v0 v1:Option L2.U,E=[v0,v1,↥((VC j).map (qR M R z us (d9 (decide (z=(0,1))) false k)))]) ⟨none,none,rfl⟩ ?_ ?_
   ·rintro j t rest E hj ⟨v0,v1,rfl⟩ KK;obtain⟨lj,rfl⟩:=itA hj;obtain⟨r0,_,r1,r2,r3⟩:=Y2 (decide (z=(0,1))) k j;refine⟨⋯,⋯,⋯,by simp;lia,KK _ ⟨⇑(.lst ((G9 M R z (cO us j) (cO us (j+1))).map aP)),⇑(.str (d9 (decide (z=(0,1))) true k j)),?_⟩⟩;rw[<-pP (j:=j) (f:=qR M R z us (d9 (decide (z=(0,1))) false k)) (t:=_) rfl];unfold qR;rw[<-r3];rfl
   rintro E ⟨v0,v1,rfl⟩;rw[UX,XU];refine⟨rfl,?_⟩;refine b9 (λj E=>∃v0 v1:Option L2.U,E=[v0,v1,↑(i:Int),↥((VC j).map (vO i M R z us l))]) ⟨none,none,rfl⟩ ?_ ?_
   ·rintro j t rest E hj ⟨v0,v1,rfl⟩ KK;obtain⟨lj,rfl⟩:=itA hj;refine⟨by simp;lia,KK _ ⟨⇑(.lst ((G9 M R z (cO us j) (cO us (j+1))).map aP)),⇑(.str (d9 (decide (z=(0,1))) false k j)),?_⟩⟩;rw[<-pP (j:=j) (f:=vO i M R z us l) (t:=_) (sT j lj)];rw[hl];rfl
   ·rintro E ⟨v0,v1,rfl⟩;rw[UX,XU];have nl:=mJ (f:=vO i M R z us l) (λ_=>jV ..) k;exact⟨nl,nl,q⟩
def Te:dF:=λas Q=>∃(a b:Fr)(ms:List Mv)(i:Nat)(p:Fr)(s:Int),as=[.v (.int (i:Int)),.v (iP (gM ms i)),.v (vc (px a b ms i) (py a b ms i)),.v (kB (rA (px a b ms i) (py a b ms i) (gM ms i))),.v (fr p),.v (.int s)]/\Pm a b ms/\i<ms.length/\Fw p/\(s=1\/s=2\/s=3)/\Q (.l (gK a b ms p s i)) []
abbrev l7(P w K mg base):=(~~~Fn) 10 "_law_piece_blocks" oM (aI K Te)
abbrev jY:fq:=top 96
theorem i6:aF ["_law_number","_law_move","_law_begin","_law_piece","_law_far","_law_steps","_law_spots","_law_reach","_law_end"] oM (aC jY):=dJ
theorem uR(F:cI K "_law_piece_blocks" "_law_piece_blocks" jY f fd)(TX:Txt mg)(wk: ~~~vW)(ml: ~~~c8)(mw: ~~~eT)(qq: ~~~qL)(we: ~~~Dr):(~~~aS) cL 10 f fd oM (aI K Te):=by
 refine F.okU i6 (λhr=>(aB (bP (eJ rfl hr (fQ 1) aY (aZ _)) (aE (aG (fK wk (fc (fv 0) (f4 (fv 1) (fQ 3) (fv 4) (fv 5)))))) bE) (aB (dZ (i:=7) (j:=8) rfl i6.nd rfl rfl ∅ rfl rfl (f2 (fK ml (f2 (fK mw (f1 (fQ 1))) (fv 4))) (fQ 3)) rfl) (aB (fS 6 i6.nd (aJ (f4 (fK we (f2 (fv 2) (fv 7))) (fK we (f2 (fv 8) (fv 7))) (fK qq (f2 (fv 8) (fv 7))) (fK qq (f2 (fv 2) (fv 7)))))) (aE (aG (bX (f1 (aJ (f4 aY (fv 0) (fv 6) aY)))))))))) ?_;rintro as Q ⟨a,b,ms,i,p,s,rfl,h,il,fw,hs,q⟩;have hi:=d7 il;have ok:=h.ok _ (UR hi);have nl:=(h.piece (p:=p) hs il).1;have n0:=h.nv i;have n1:=h.nv (i+1);have oc:=mB h.chain (jX ms a b _ _ hi);obtain⟨ex,ey⟩:=xF (a:=a) (b:=b) hi;unfold gK at q nl;cases e:gM ms i with
 |side x y m=>
  rw[e]at q nl ok ex ey;simp only at q nl;have en:Nv (rA (px a b ms i) (py a b ms i) (.side x y m)).px (rA (px a b ms i) (py a b ms i) (.side x y m)).py 14:=by rw[<-ex,<-ey];exact n1
  rw[ex,ey]at q;have us:=ok.1.left;have nr:=lG us.nv fw.n fw.s;refine⟨UU _,?_⟩;refine⟨x,y,rfl,?_⟩;refine⟨_,_,p,4,rfl,us.nv,fw.n,by have:=fw.s;lia,?_⟩;refine⟨_,_,_,_,14,4+14,rfl,n0,nr,∅,_,_,_,_,14,4+14,rfl,en,nr,∅,_,_,_,_,14,4+14,rfl,en,nr,∅,_,_,_,_,14,4+14,rfl,n0,nr,∅,nl,q⟩
 |arc x y u v r l=>
  rw[e]at q nl ok oc;refine⟨UU _,?_⟩;refine⟨i,x,y,u,v,r,l,kJ a b ms i x y r,p,s,rfl,ok,oc.1,fw,hs,nl,q⟩
def lA(a b:Fr)(ms:List Mv):List L2.T:=(VC (ms.length+1)).map λj=>vc (px a b ms j) (py a b ms j)
theorem uJ{ms:List Mv}(h:j<=ms.length):dX (lA a b ms) (j:Int)=oZ (vc (px a b ms j) (py a b ms j)):=gR (by unfold lA;rw[UQ,WS ⋯];rfl)
theorem tP:dX (lA a b ms) (-1)=oZ (vc (px a b ms ms.length) (py a b ms ms.length)):=by
 unfold lA;rw[XA,VE];exact My.kK _ _
theorem xE:px a b ms ms.length=cV a (cJ a b ms)/\py a b ms ms.length=cW b (cJ a b ms):=by
 unfold px py;rw[<-fV ms a b,YJ];exact⟨rfl,rfl⟩
theorem Mi:L2.dG (vc (px a b ms 0) (py a b ms 0)) (vc (px a b ms ms.length) (py a b ms ms.length))=Md a b (cJ a b ms):=by
 rw[Ca,xE.1,xE.2];unfold Md;show decide (a=cV a (cJ a b ms)/\b=cW b (cJ a b ms))=_
 congr 1
 exact propext ⟨λzZ=>by obtain⟨x,y⟩:=zZ;exact⟨x.symm,y.symm⟩,λzZ=>by obtain⟨x,y⟩:=zZ;exact⟨x.symm,y.symm⟩⟩
theorem R9(h:ms≠[]):dX (ms.map iP) (-1)=oZ (iP (gM ms (ms.length-1))):=by
 obtain⟨L,m,e⟩:∃L m,ms=L++[m]:=⟨ms.dropLast,ms.getLast h,(XY h).symm⟩;have g:gM ms (ms.length-1)=m:=by rw[e];unfold gM;simp[VR]
 rw[g,e,VE];exact My.kK _ _
theorem BH{ms:List Mv}(h:i<ms.length):dX (ms.map iP) (i:Int)=oZ (iP (gM ms i)):=gR (by rw[UQ,d7 h];rfl)
theorem BF{X Y:Prop}(b:Bool)(h:b=c)(k:if b=true then X else Y):if c=true then X else Y:=h ▸ k
theorem Ym(h:fst a b ps<=0):Md a b ps=true:=by
 unfold fst at h;split at h
 ·assumption
 ·lia
theorem S5{s:Int}(h:j<ms.length)(g:fst a b (cJ a b ms)<=(j+1)%ms.length):
  (if bO (eU (gM ms j)) (bU (gM ms ((j+1)%ms.length))) = "straight" then[]else[pD "fan" ((j+1)%ms.length) (px a b ms (j+1),py a b ms (j+1)) p (wI (eU (gM ms j)) (bU (gM ms ((j+1)%ms.length))) s) (Uy (bO (eU (gM ms j)) (bU (gM ms ((j+1)%ms.length)))))])=lF a b ms p s ((j+1)%ms.length):=by
 have e:cY ((j+1)%ms.length) ms.length=j/\px a b ms (j+1)=px a b ms ((j+1)%ms.length)/\py a b ms (j+1)=py a b ms ((j+1)%ms.length):=by
  by_cases c:j+1=ms.length
  ·rw[c,Nat.mod_self]at g⊢;have cl:=of_decide_eq_true (Ym g);refine⟨by unfold cY;rw[oV rfl];lia,xE.1.trans cl.1,xE.2.trans cl.2⟩
  ·rw[Nat.mod_eq_of_lt (show j+1<ms.length by lia)];exact⟨by unfold cY;rw[oW ⋯];lia,rfl,rfl⟩
 unfold lF O6;rw[e.1,e.2.1,e.2.2]
 by_cases w:bO (eU (gM ms j)) (bU (gM ms ((j+1)%ms.length))) = "straight"
 ·rw[oV w,oW (λz=>z.2 w)]
 ·rw[oW w,oV ⟨g,w⟩]
noncomputable def As (a b:Fr) (ms:List Mv) (p:Fr) (s:Int):List L2.T:=if Md a b (cJ a b ms)=true then[]else[Mb a b ms p s (gM ms 0)]
def Le:dF:=λas Q=>∃(a b:Fr)(ms:List Mv)(p:Fr)(s:Int),as=[.v (cG a b (cJ a b ms)),.v (.lst (ms.map iP)),.v (fr p),.v (.int s)]/\Pm a b ms/\Fw p/\(s=1\/s=2\/s=3)/\Q (.l (rR a b ms p s)) []
abbrev xR(P w K mg base):=(~~~Fn) 11 "_law_blocks" ["_law_path","_law_found","_law_far","_law_steps"] (aI K Le)
abbrev vB:fq:=top 97
theorem dM:aF ["_law_path","_law_found","_law_far","_law_steps","_law_ends","_law_rows","_law_last","_law_first","_law_final","_law_units","_law_k","_law_move","_law_ahead","_law_behind"] ["_law_path","_law_found","_law_far","_law_steps"] (aC vB):=dJ
theorem Nx(F:cI K "_law_blocks" "_law_blocks" vB f fd)(TX:Txt mg)(rh: ~~~sW)(mw: ~~~eT)(qi: ~~~qM)(mj: ~~~cC)(wj: ~~~Dq)(sv: ~~~l7)(xi: ~~~xS):(~~~aS) cL 11 f fd ["_law_path","_law_found","_law_far","_law_steps"] (aI K Le):=by
 refine F.okU dM (λhr=>(aB (fS 4 dM.nd (iW (bX (f1 (fQ 0))) (fT (N':=["_law_piece"]) (t:=1) (cap:=[]) rfl (bD.of rfl) rfl ∅ (EI rfl (fQ 0)) (λ_ _ _ _=>(fH 0)) (λ_ _ _ _=>(pE (eJ rfl hr (fQ 0) aY (aZ _)) (fX (fv 0) (c7 aA)) (fQ 0)))))) (aB (dZ (i:=5) (j:=6) rfl dM.nd rfl rfl ∅ rfl rfl (f2 (bX bF) (a7 iY (eD rfl rfl TX.n_len (f1 (fv 1))) aA)) rfl) (aB (dZ (i:=7) (j:=8) rfl dM.nd rfl rfl ∅ rfl rfl (f2 (fX (fK rh (f1 (fQ 1))) aA) (fX (fK rh (f1 (fX (fv 1) (c7 aA)))) aA)) rfl) (aB (bP (rL rfl hr (fQ 4) (fX (fv 4) (c7 aA)) (aZ _)) (aB (fS 9 dM.nd (fK mj (f3 (fK mw (f1 (fv 7))) (fK qi (f1 (fv 7))) (fv 3)))) (aE (dY (eB rfl (fv 5) (f1 (fK wj (fc aY (fc aA (f4 (fQ 4) (fv 9) (fv 2) aY))))))))) bE) (aB (jS PassesOwn.never rfl (Rh rfl rfl TX.n_enumerate (f1 (fv 1))) (dA (n:=2) rfl rfl (aK (fG 10 dM.nd) (aK (fG 11 dM.nd) cA))) (aB (dY (mD rfl (fv 5) (f1 (fK sv (fc (fv 10) (fc (fv 11) (f4 (fX (fv 4) (fv 10)) (fX (fQ 0) (fv 10)) (fv 2) (fv 3)))))))) (aB (fS 12 dM.nd (fX (fK rh (f1 (fv 11))) aA)) (aB (fS 13 dM.nd (fX (fK rh (f1 (fX (fv 1) (aR gX (a7 cE (fv 10) aA) (eD rfl rfl TX.n_len (f1 (fv 1))))))) aA)) (aE (bP (Mu (yR (fP kT (fv 10) (fv 6)) (rS (eJ rfl hr (fQ 4) (fX (fv 4) (c7 aA)) (aZ _))))) (aE (dY (mD rfl (fv 5) (f1 (fK xi (fc (aR gX (a7 cE (fv 10) aA) (eD rfl rfl TX.n_len (f1 (fv 1)))) (fc (fX (fv 4) (a7 cE (fv 10) aA)) (f4 (fv 12) (fv 13) (fv 2) (fv 3))))))))) bE)))))) (aB (bP (rL rfl hr (fQ 4) (fX (fv 4) (c7 aA)) (aZ _)) (aB (fS 9 dM.nd (fK mj (f3 (fK qi (f1 (fv 8))) (fK mw (f1 (fv 8))) (fv 3)))) (aE (dY (eB rfl (fv 5) (f1 (fK wj (fc aY (fc (fv 6) (f4 (fX (fv 4) (c7 aA)) (fv 9) (fv 2) aY))))))))) bE) (aE (aG (fv 5)))))))))) ?_;rintro as Q ⟨a,b,ms,p,s,rfl,h,fw,hs,q⟩;have l12:=h.len;have l1:=XX.mpr h.ne;have pl:=fV ms a b;refine⟨rfl,?_⟩;refine b9 (λi E=>∃v0:Option L2.U,E=[v0,↥((VC i).map λj=>vc (px a b ms (j+1)) (py a b ms (j+1)))]) ⟨none,rfl⟩ ?_ ?_
 ·rintro i t rest E hi ⟨v0,rfl⟩ KK;rw[UQ]at hi;obtain⟨pc,hp,rfl⟩:=VP.mp hi;have il:=(UO.mp hp).1;rw[pl]at il;have hm:=d7 il;rw[jX ms a b _ _ hm]at hp;cases hp;obtain⟨ex,ey⟩:=xF (a:=a) (b:=b) hm;have lr:((VC i).map λj=>vc (px a b ms (j+1)) (py a b ms (j+1))).length<9000:=by simp;lia
  rw[show cV a ((cJ a b ms).take i)=px a b ms i from rfl,show cW b ((cJ a b ms).take i)=py a b ms i from rfl];have K1:=KK _ ⟨⇑(kB (rA (px a b ms i) (py a b ms i) (gM ms i))),rfl⟩;rw[XA,VE,List.map_singleton,ex,ey]at K1;clear KK ex ey hm;generalize gM ms i=m at *;cases m with
  |side x y m=>exact⟨UU _,lr,K1⟩
  |arc x y u v r l=>exact⟨UU _,lr,K1⟩
 ·rintro E ⟨v0,rfl⟩;rw[UX,pl];have eE:[vc a b]++((VC ms.length).map λj=>vc (px a b ms (j+1)) (py a b ms (j+1)))=lA a b ms:=by
   unfold lA;rw[dq,WQ,bq];rfl
  refine⟨mJ (λ_=>rfl) _,?_⟩;refine⟨by show 1+((VC ms.length).map λj=>vc (px a b ms (j+1)) (py a b ms (j+1))).length<=9000;simp;lia,?_⟩;show uD [⇑(cG a b (cJ a b ms)),⇑(.lst (ms.map iP)),⇑(fr p),↑s,↥([vc a b]++((VC ms.length).map λj=>vc (px a b ms (j+1)) (py a b ms (j+1)))),none,none,none,none,none,none,none,none,none] (Gw _ _ _);rw[eE];show o1 (dX (ms.map iP) ((0:Nat):Int)) _;rw[BH l1];refine⟨_,rfl,h.ok _ (UR (d7 l1)),?_⟩;show o1 (dX (ms.map iP) (-1)) _;rw[R9 h.ne];refine⟨_,rfl,h.ok _ (UR (d7 (show ms.length-1<ms.length by lia))),?_⟩;show o1 (dX (lA a b ms) ((0:Nat):Int)) _;rw[uJ (UU _)];show o1 (dX (lA a b ms) (-1)) _;rw[tP];refine⟨dB rfl,?_⟩;show if(!L2.dG (vc (px a b ms 0) (py a b ms 0)) (vc (px a b ms ms.length) (py a b ms ms.length)))=true then _ else _;have em:((((ms.map iP).length:Nat):Int))=(ms.length:Int):=by rw[UX]
  rw[Mi,em];have u0:=(h.ok _ (UR (d7 l1))).bu;have u1:=(h.ok _ (UR (d7 (show ms.length-1<ms.length by lia)))).eu;apply Jf (R:=λ(E:En)=>∃v9:Option L2.U,E=[⇑(cG a b (cJ a b ms)),⇑(.lst (ms.map iP)),⇑(fr p),↑s,↥(lA a b ms),↥(As a b ms p s),↑(((ms.length:Nat):Int)-1),⇑(aP (bU (gM ms 0))),⇑(aP (eU (gM ms (ms.length-1)))),v9,none,none,none,none])
  case h=>
   intro J
   by_cases c:Md a b (cJ a b ms)=true
   ·rw[oW (by rw[c];decide)];show uD [⇑(cG a b (cJ a b ms)),⇑(.lst (ms.map iP)),⇑(fr p),↑s,↥(lA a b ms),↥([]),↑(((ms.length:Nat):Int)-1),⇑(aP (bU (gM ms 0))),⇑(aP (eU (gM ms (ms.length-1)))),none,none,none,none,none] (Gw _ _ _);generalize hE:([⇑(cG a b (cJ a b ms)),⇑(.lst (ms.map iP)),⇑(fr p),↑s,↥(lA a b ms),↥([]),↑(((ms.length:Nat):Int)-1),⇑(aP (bU (gM ms 0))),⇑(aP (eU (gM ms (ms.length-1)))),none,none,none,none,none]:En)=E;exact J E ⟨none,hE.symm.trans (by unfold As;rw[oV c])⟩
   ·rw[oV (by simpa using c)];obtain⟨r1,l1'⟩:=n9 u0;refine⟨_,_,rfl,_,_,rfl,u0,_,_,_,_,s,4,4,rfl,l1',r1,∅,∅,∅,hs,λk k' _ _ r r'=>?_⟩;rw[show qW _ _ _ _ s k k'=_ from mO l1' r1 (λz=>pR u0 z.symm) hs r r'];have U:=(eF l1' r1 (λz=>pR u0 z.symm) hs).U;show o1 (dX (lA a b ms) ((0:Nat):Int)) _;rw[uJ (UU _)];refine⟨_,_,_,0,(a,b),_,p,"e",rfl,h.nv 0,fw,U,Mk.of (by decide +kernel),?_⟩;exact⟨dB rfl,J _ ⟨_,by unfold As;rw[oW c]⟩⟩
  rintro E ⟨v9,rfl⟩;have lc:(As a b ms p s).length<=1:=by unfold As;split<;>simp
  refine cK (λj E=>∃v9 v10 v11 v12 yf:Option L2.U,E=[⇑(cG a b (cJ a b ms)),⇑(.lst (ms.map iP)),⇑(fr p),↑s,↥(lA a b ms),↥(As a b ms p s++iM a b ms p s j),↑(((ms.length:Nat):Int)-1),⇑(aP (bU (gM ms 0))),⇑(aP (eU (gM ms (ms.length-1)))),v9,v10,v11,v12,yf]) ⟨v9,none,none,none,none,by rw[show iM a b ms p s 0=[]from rfl,WJ]⟩ ?_ ?_
  ·rintro j t rest E hj ⟨v9,v10,v11,v12,yf,rfl⟩ KK;obtain⟨y,hy,rfl⟩:=Qx hj;rw[UQ]at hy;obtain⟨m,hm,rfl⟩:=VP.mp hy;have jl:=(UO.mp hm).1;rw[d7 jl]at hm;cases hm;have lT:=(h.told (p:=p) hs (WC jl)).2;have lP:=(h.piece (p:=p) hs jl).2;show o1 (dX (lA a b ms) (j:Int)) _;rw[uJ (WC jl)];show o1 (dX ((cJ a b ms).map kB) (j:Int)) _;rw[rM (jX ms a b _ _ (d7 jl))];refine⟨a,b,ms,j,p,s,rfl,h,jl,fw,hs,?_⟩;refine⟨by show((As a b ms p s++iM a b ms p s j)++gK a b ms p s j).length<=9000;rw[UT,UT];lia,?_⟩;refine⟨_,rfl,h.ok _ (UR (d7 jl)),?_⟩;have kl:(j+1)%ms.length<ms.length:=YV _ l1;have hk0:((j:Int)+1)%(ms.length:Int)=(((j+1)%ms.length:Nat):Int):=by push_cast;rfl
   refine⟨by show(0:Int)<((((ms.map iP).length:Nat):Int));rw[em];lia,?_⟩;show o1 (dX (ms.map iP) (((j:Int)+1)%((((ms.map iP).length:Nat):Int)))) _;rw[em,hk0,BH kl];refine⟨_,rfl,h.ok _ (UR (d7 kl)),?_⟩;have lB:=(Ql a b ms p s ((j+1)%ms.length)).2;have K1:∀v12 yf,_:=λv12 yf=>KK _ ⟨v9,↑(j:Int),⇑(iP (gM ms j)),v12,yf,rfl⟩;rw[xK]at K1;have hf:fst a b (cJ a b ms)=if Md a b (cJ a b ms)=true then 0 else 1:=rfl;apply Jf (R:=λ(bb:Bool)=>bb=decide (fst a b (cJ a b ms)<=(j+1)%ms.length))
   case h=>
    intro J;show if decide ((j:Int)<((ms.length:Nat):Int)-1)=true then _ else _
    by_cases c1:(j:Int)<((ms.length:Nat):Int)-1
    ·rw[oV (oY c1)];obtain⟨bb,hb⟩:∃bb:Bool,bb=true:=⟨_,rfl⟩;refine BF bb hb (J bb ?_);rw[hb,Nat.mod_eq_of_lt (show j+1<ms.length by lia),oY (by rw[hf];split<;>lia)]
    ·rw[oW (by simpa using c1)];show o1 (dX (lA a b ms) ((0:Nat):Int)) _;rw[uJ (UU _)];show o1 (dX (lA a b ms) (-1)) _;rw[tP];refine⟨dB rfl,?_⟩;show if L2.dG (vc (px a b ms 0) (py a b ms 0)) (vc (px a b ms ms.length) (py a b ms ms.length))=true then _ else _;rw[Mi];obtain⟨bb,hb⟩:∃bb:Bool,bb=Md a b (cJ a b ms):=⟨_,rfl⟩;refine BF bb hb (J bb ?_);rw[hb,show j+1=ms.length by lia,Nat.mod_self,hf];cases Md a b (cJ a b ms)<;>rfl
   rintro bb rfl
   by_cases go:fst a b (cJ a b ms)<=(j+1)%ms.length
   ·rw[oV (oY go)];refine⟨by show(0:Int)<((((ms.map iP).length:Nat):Int));rw[em];lia,?_⟩;show o1 (dX (lA a b ms) ((j:Int)+1)) _;rw[show((j:Int)+1)=((j+1:Nat):Int) by push_cast;rfl,uJ jl];refine⟨(j+1)%ms.length,(px a b ms (j+1),py a b ms (j+1)),eU (gM ms j),bU (gM ms ((j+1)%ms.length)),p,s,?_,h.nv _,(h.ok _ (UR (d7 jl))).eu,(h.ok _ (UR (d7 kl))).bu,fw,hs,?_⟩
    ·show[A.v (.int (((j:Int)+1)%((((ms.map iP).length:Nat)):Int))),_,_,_,_,_]=_;rw[em,hk0];rfl
    ·rw[S5 jl go];rw[<-VH,<-VH]at K1;exact⟨by show((As a b ms p s++iM a b ms p s j++gK a b ms p s j)++lF a b ms p s ((j+1)%ms.length)).length<=9000;rw[UT,UT,UT];lia,K1 _ _⟩
   ·rw[oW (by simpa using go)];have e:lF a b ms p s ((j+1)%ms.length)=[]:=oW (λz=>go z.1);rw[e,WJ,<-VH]at K1;exact K1 _ _
  ·rintro E ⟨v9,v10,v11,v12,yf,rfl⟩;rw[UX,List.length_zipIdx,UX];have nl:=(h.blk (p:=p) hs).1;have lT:=(h.told (p:=p) hs (VA _)).2;unfold rR at q nl;show o1 (dX (lA a b ms) ((0:Nat):Int)) _;rw[uJ (UU _)];show o1 (dX (lA a b ms) (-1)) _;rw[tP];refine⟨dB rfl,?_⟩;show if(!L2.dG (vc (px a b ms 0) (py a b ms 0)) (vc (px a b ms ms.length) (py a b ms ms.length)))=true then _ else _;rw[Mi]
   by_cases c:Md a b (cJ a b ms)=true
   ·rw[oW (by rw[c];decide)];rw[oV c]at q nl;have e:As a b ms p s=[]:=oV c;rw[e,List.nil_append];exact⟨nl,q⟩
   ·rw[oV (by simpa using c)];rw[oW c]at q nl;have e:As a b ms p s=[Mb a b ms p s (gM ms 0)]:=oW c;obtain⟨r1,l1'⟩:=n9 u1;refine⟨_,_,rfl,u1,_,_,rfl,_,_,_,_,s,4,4,rfl,r1,l1',∅,∅,∅,hs,λk k' _ _ r r'=>?_⟩;rw[show qW _ _ _ _ s k k'=_ from mO r1 l1' (pR u1) hs r r'];have U:=(eF r1 l1' (pR u1) hs).U;show o1 (dX (lA a b ms) (-1)) _;rw[tP];refine⟨_,_,VW "cap",ms.length-1,(px a b ms ms.length,py a b ms ms.length),_,p,"e",?_,h.nv _,fw,U,Mk.of (by decide +kernel),?_⟩
    ·show[_,A.v (.int (((ms.length:Nat):Int)-1)),_,_,_,_]=_;rw[show(((ms.length:Nat):Int)-1)=((ms.length-1:Nat):Int) by lia];rfl
    ·rw[e];exact⟨by show(([Mb a b ms p s (gM ms 0)]++iM a b ms p s ms.length)++[_]).length<=9000;rw[UT,UT,VL,VL];lia,nl,q⟩
end
theorem HJ(l:List (Fr×Fr)):Uq (l.map aP)<=2/\Wz (l.map aP)<=2:=by
 induction l with
 |nil=>exact⟨UU _,UU _⟩
 |cons c l ih=>exact⟨XD.mpr ⟨VA 2,ih.1⟩,XD.mpr ⟨VA 2,ih.2⟩⟩
theorem JN(wd:Str)(i:Nat)(l:List (Fr×Fr))(m:Str)(h:l.length<=100):dT (AS wd i l m)<=4/\wT (AS wd i l m)<=100:=by
 obtain⟨d,w⟩:=HJ l;have ll:(l.map aP).length=l.length:=UX ..;have d2:dT (.tup (l.map aP))<=3:=YG d;have w2:wT (.tup (l.map aP))<=100:=XD.mpr ⟨⋯,⋯⟩;exact⟨YG (XD.mpr ⟨UU _,XD.mpr ⟨UU _,XD.mpr ⟨d2,XD.mpr ⟨UU _,UU _⟩⟩⟩⟩),
  XD.mpr ⟨show 4<=100 by decide,XD.mpr ⟨UU _,XD.mpr ⟨UU _,XD.mpr ⟨w2,XD.mpr ⟨UU _,UU _⟩⟩⟩⟩⟩⟩
def Tw(t:L2.T):Prop:=∃(wd:Str)(i:Nat)(l:List (Fr×Fr))(m:Str),t=AS wd i l m/\l.length<=100
theorem yN(wd:Str)(i:Nat)(P:Fr×Fr)(p:Fr)(U:Us u w us)(c:Str):Tw (pD wd i P p us c):=by
 have:=U.rays.2.1;exact⟨wd,i,_,_,rfl,by simp;lia⟩
theorem Pm.bl(h:Pm a b ms){s:Int}(hs:s=1\/s=2\/s=3):∀t∈rR a b ms p s,Tw t:=by
 have l1:=XX.mpr h.ne;have piece:∀j,j<ms.length->∀t∈gK a b ms p s j,Tw t:=λj hj t ht=>by
  unfold gK at ht;cases e:gM ms j with
  |side x y m=>
   rw[e]at ht;rw[VS.mp ht];exact⟨"strip",j,[(_,_),(_,_),(_,_),(_,_)],"r-l-",rfl,show 4<=100 by decide⟩
  |arc x y u v r l=>
   rw[e]at ht;obtain⟨k,_,rfl⟩:=XF.mp ht;refine⟨_,_,_,_,rfl,?_⟩;unfold Py
   split
   ·exact(show 3<=100 by decide)
   ·exact(show 4<=100 by decide)
 have aIW:∀k,k<ms.length->∀t∈lF a b ms p s k,Tw t:=λk hk t ht=>by
  unfold lF at ht;split at ht
  ·rename_i c;rw[VS.mp ht];have ue:=(h.ok _ (UR (d7 (tH hk)))).eu;have ub:=(h.ok _ (UR (d7 hk))).bu;obtain⟨r1,l1⟩:=n9 ue;obtain⟨r2,l2⟩:=n9 ub;refine uL (s:=s) ue ub (λ_ z=>absurd z c.2) (λ_ n e=>?_) (λ_ n e=>?_) (λ_ n e=>?_)
   ·rw[e];exact yN _ _ _ _ (eF r1 r2 n hs).U _
   ·rw[e];exact yN _ _ _ _ (eF l2 l1 n hs).U _
   ·rw[e];exact yN _ _ _ _ (eF r1 l1 n hs).U _
  ·cases ht
 have told:∀j,j<=ms.length->∀t∈iM a b ms p s j,Tw t:=λj=>by
  induction j with
  |zero=>intro _ t ht;cases ht
  |succ j ih=>
   intro hj t ht;rw[xK]at ht;obtain ht|ht:=VX.mp ht
   ·obtain ht|ht:=VX.mp ht
    ·exact ih ⋯ t ht
    ·exact piece j ⋯ t ht
   ·exact aIW _ (YV _ l1) t ht
 intro t ht;unfold rR at ht;split at ht
 ·exact told _ (VA _) t ht
 ·obtain ht|ht:=VX.mp ht
  ·obtain ht|ht:=VX.mp ht
   ·rw[VS.mp ht];have u0:=(h.ok _ (UR (d7 l1))).bu;obtain⟨r1,l1'⟩:=n9 u0;exact yN _ _ _ _ (eF l1' r1 (λz=>pR u0 z.symm) hs).U _
   ·exact told _ (VA _) t ht
  ·rw[VS.mp ht];have u1:=(h.ok _ (UR (d7 (show ms.length-1<ms.length by lia)))).eu;obtain⟨r1,l1'⟩:=n9 u1;exact yN _ _ _ _ (eF r1 l1' (pR u1) hs).U _
theorem Xh:∀l:List L2.T,(∀t∈l,Tw t)->Uq l<=4/\Wz l<=100
 |[],_=>⟨UU _,UU _⟩
 |t::l,h=>by
  obtain⟨wd,i,pts,m,rfl,hl⟩:=h _ VB;obtain⟨d,w⟩:=JN wd i pts m hl;obtain⟨d2,w2⟩:=Xh l λt ht=>h t (UW _ ht);exact⟨XD.mpr ⟨d,d2⟩,XD.mpr ⟨w,w2⟩⟩
def NM:dF:=λas Q=>∃ns:List Int,as=[.v (.lst (bK ns))]/\ns.length<=63/\Q (.v (.bl true)) []
abbrev zO:fq:=top 100
theorem j4:aF ["_law_script","_law_cells","_law_k","_law_box_here","_law_turn","_law_due","_law_again","_law_path","_law_found","_law_far","_law_steps","_law_told"] ["_law_script"] (aC zO):=dJ
theorem GC{P:fu}{w:gn}{K:W.Frag}{mg:Str->Option oA}{base:oE}{f:fk}{fd:ip}(F:cI K "law" "law" zO f fd)(TX:Txt mg)(yi: ~~~Bi)(aCA: ~~~Xc)(zr:Fn P w K mg base 7 "_law_case" ["_law_box_here"] (wF K J5))(xk: ~~~xR)(yj: ~~~Bh)(g_same: ~~~N9):(~~~aS) cL 16 f fd ["_law_script"] (aI K NM):=by
 refine F.okU j4 (λhr=>(aB (fS 1 j4.nd (fK yi (f2 (fv 0) aA))) (aB (jS PassesOwn.never rfl (g9 rfl TX.n_range (f1 (EB rfl rfl TX.n_max (f2 aA (eD rfl rfl TX.n_len (f1 (fv 1))))))) (fG 2 j4.nd) (aB (fS 3 j4.nd (fK aCA (f2 (fv 1) (fv 2)))) (aE (jS PassesOwn.never rfl (g9 rfl TX.n_range (f1 aA)) (fG 4 j4.nd) (aB (gG (Ja zr hr ⋯ rfl (f1 (fv 3))) (dA (n:=4) rfl rfl (aK (fG 7 j4.nd) (aK (fG 8 j4.nd) (aK (fG 9 j4.nd) (aK (fG 10 j4.nd) cA)))))) (aB (fS 5 j4.nd (fK xk (f4 (fv 7) (fv 8) (fv 9) (fv 10)))) (aE (jS PassesOwn.never rfl (g9 rfl TX.n_range (f1 aA)) (fG 6 j4.nd) (aB (fS 11 j4.nd (fK yj (f3 (fv 7) (fv 9) (fv 10)))) (aB (bP (Yo (gH (fK g_same (f2 (fv 11) (fv 5))))) (aE (aG Ra)) bE) (aB (dY (eB rfl (fv 11) (f1 aA))) (aE (dY (Mp rfl (fv 11))))))))))))))) (aE (aG Ra))))) ?_;rintro as Q ⟨ns,rfl,hl,q⟩;refine⟨ns,3,rfl,hl,∅,∅,λcs l6=>?_⟩;have lc:((bK cs).length:Int)=cs.length:=by simp[bK]
 obtain⟨m,hm⟩:∃m:Int,m=(if(2:Int)<((bK cs).length:Int)then((bK cs).length:Int)else 2):=⟨_,rfl⟩;have m5:m<=3/\0<=m:=by rw[hm];split<;>lia
 refine⟨⟨by show -(2^62:Int)<=(if(2:Int)<((bK cs).length:Int)then((bK cs).length:Int)else 2);rw[<-hm];lia,by show(if(2:Int)<((bK cs).length:Int)then((bK cs).length:Int)else 2)<2^62;rw[<-hm];lia⟩,?_⟩;show uD _ (gF _ _ _ (kC 0 (if(2:Int)<((bK cs).length:Int)then((bK cs).length:Int)else 2).toNat));rw[<-hm];refine cK (λi E=>∃v2 v3 v4 v5 v6 v7 v8 v9 v10 v11:Option U,E=[⇑(.lst (bK ns)),↥(bK cs),v2,v3,v4,v5,v6,v7,v8,v9,v10,v11]) ⟨_,_,_,_,_,_,_,_,_,_,rfl⟩ ?_ ?_
 ·rintro i t rest E hi ⟨v2,v3,v4,v5,v6,v7,v8,v9,v10,v11,rfl⟩ KK;obtain⟨hin,rfl⟩:=pO hi;refine⟨cs,_,rfl,⋯,⋯,λxs bx nl=>?_⟩;obtain⟨A0,B0,c0,rfl,_⟩:=id bx;refine⟨∅,?_⟩;show uD _ (gF _ _ _ (kC 0 2));refine cK (λj E=>∃(ys:List L2.T)(v4 v5 v6 v7 v8 v9 v10 v11:Option U),E=[⇑(.lst (bK ns)),↥(bK cs),↑(0+(i:Int)),↥ys,v4,v5,v6,v7,v8,v9,v10,v11]/\Bx ys (400*j)) ⟨_,_,_,_,_,_,_,_,_,rfl,bx.mono (by simp)⟩ ?_ ?_
  ·rintro j t aKU E hj ⟨ys,v4,v5,v6,v7,v8,v9,v10,v11,rfl,bj⟩ KJ;obtain⟨hjn,rfl⟩:=pO hj;obtain⟨A1,B1,c1,rfl,_⟩:=id bj;refine⟨_,_,rfl,bj,⋯,λa b ms p s y1 pm fw hs b1=>?_⟩;obtain⟨A2,B2,c2,rfl,_⟩:=id b1;refine⟨a,b,ms,p,s,rfl,pm,fw,hs,?_⟩;have bl:=pm.blk (p:=p) hs;obtain⟨d1,w1⟩:=Xh _ (pm.bl (p:=p) hs);have dd:dT (.lst (rR a b ms p s))<=6:=VZ (YG d1) ∅;have ww:wT (.lst (rR a b ms p s))<900:=VT (XD.mpr ⟨bl.2,VZ w1 ∅⟩) ∅;refine⟨∅,?_⟩;show uD _ (gF _ _ _ (kC 0 2));refine cK (λk E=>∃(v4 v6 v8 v11:Option U),E=[⇑(.lst (bK ns)),↥(bK cs),↑(0+(i:Int)),↥[.int A2,.int B2,.int c2],v4,↥(rR a b ms p s),v6,⇑(cG a b (cJ a b ms)),v8,⇑(fr p),↑s,v11]) ⟨_,_,_,_,rfl⟩ ?_ ?_
   ·rintro k t aIX E hk ⟨v4,v6,v8,v11,rfl⟩ KI;obtain⟨hkn,rfl⟩:=pO hk;refine⟨a,b,ms,p,s,rfl,pm,fw,hs,?_⟩;refine⟨.lst (rR a b ms p s),rfl,dd,⋯,ww,?_⟩;refine⟨by show(rR a b ms p s++[_]).length<=9000;rw[UT,VL];lia,KI _ ⟨_,_,_,_,rfl⟩⟩
   ·rintro E ⟨v4,v6,v8,v11,rfl⟩;exact KJ _ ⟨_,_,_,_,_,_,_,_,_,rfl,b1.mono (by push_cast;lia)⟩
  ·rintro E ⟨ys,v4,v5,v6,v7,v8,v9,v10,v11,rfl,bj⟩;exact KK _ ⟨_,_,_,_,_,_,_,_,_,_,rfl⟩
 ·rintro E ⟨v2,v3,v4,v5,v6,v7,v8,v9,v10,v11,rfl⟩;exact⟨rfl,q⟩
theorem RD{α:Type}{us:List α}(h:us.length=1):∃a0,us=[a0]:=by
 cases us with
 |nil=>simp at h
 |cons a0 us=>
 replace h:us.length=0:=by simpa using h
 cases us with
 |nil=>exact⟨a0,rfl⟩
 |cons a us=>simp at h
theorem LI{α:Type}{us:List α}(h:us.length=2):∃a0 a1,us=[a0,a1]:=by
 cases us with
 |nil=>simp at h
 |cons a0 us=>
 replace h:us.length=1:=by simpa using h
 cases us with
 |nil=>simp at h
 |cons a1 us=>
 replace h:us.length=0:=by simpa using h
 cases us with
 |nil=>exact⟨a0,a1,rfl⟩
 |cons a us=>simp at h
theorem RF{α:Type}{us:List α}(h:us.length=3):∃a0 a1 a2,us=[a0,a1,a2]:=by
 cases us with
 |nil=>simp at h
 |cons a0 us=>
 replace h:us.length=2:=by simpa using h
 cases us with
 |nil=>simp at h
 |cons a1 us=>
 replace h:us.length=1:=by simpa using h
 cases us with
 |nil=>simp at h
 |cons a2 us=>
 replace h:us.length=0:=by simpa using h
 cases us with
 |nil=>exact⟨a0,a1,a2,rfl⟩
 |cons a us=>simp at h
theorem RG{α:Type}{us:List α}(h:us.length=4):∃a0 a1 a2 a3,us=[a0,a1,a2,a3]:=by
 cases us with
 |nil=>simp at h
 |cons a0 us=>
 replace h:us.length=3:=by simpa using h
 cases us with
 |nil=>simp at h
 |cons a1 us=>
 replace h:us.length=2:=by simpa using h
 cases us with
 |nil=>simp at h
 |cons a2 us=>
 replace h:us.length=1:=by simpa using h
 cases us with
 |nil=>simp at h
 |cons a3 us=>
 replace h:us.length=0:=by simpa using h
 cases us with
 |nil=>exact⟨a0,a1,a2,a3,rfl⟩
 |cons a us=>simp at h
theorem RH{α:Type}{us:List α}(h:us.length=5):∃a0 a1 a2 a3 a4,us=[a0,a1,a2,a3,a4]:=by
 cases us with
 |nil=>simp at h
 |cons a0 us=>
 replace h:us.length=4:=by simpa using h
 cases us with
 |nil=>simp at h
 |cons a1 us=>
 replace h:us.length=3:=by simpa using h
 cases us with
 |nil=>simp at h
 |cons a2 us=>
 replace h:us.length=2:=by simpa using h
 cases us with
 |nil=>simp at h
 |cons a3 us=>
 replace h:us.length=1:=by simpa using h
 cases us with
 |nil=>simp at h
 |cons a4 us=>
 replace h:us.length=0:=by simpa using h
 cases us with
 |nil=>exact⟨a0,a1,a2,a3,a4,rfl⟩
 |cons a us=>simp at h
theorem RI{α:Type}{us:List α}(h:us.length=6):∃a0 a1 a2 a3 a4 a5,us=[a0,a1,a2,a3,a4,a5]:=by
 cases us with
 |nil=>simp at h
 |cons a0 us=>
 replace h:us.length=5:=by simpa using h
 cases us with
 |nil=>simp at h
 |cons a1 us=>
 replace h:us.length=4:=by simpa using h
 cases us with
 |nil=>simp at h
 |cons a2 us=>
 replace h:us.length=3:=by simpa using h
 cases us with
 |nil=>simp at h
 |cons a3 us=>
 replace h:us.length=2:=by simpa using h
 cases us with
 |nil=>simp at h
 |cons a4 us=>
 replace h:us.length=1:=by simpa using h
 cases us with
 |nil=>simp at h
 |cons a5 us=>
 replace h:us.length=0:=by simpa using h
 cases us with
 |nil=>exact⟨a0,a1,a2,a3,a4,a5,rfl⟩
 |cons a us=>simp at h
def So(K:W.Frag):Sp:=λvs H Q _=>∃(a:fk)(ns:List Int),vs=[.ref a]/\k9 K H a (ns.map V.int)/\ns.length<=63/\∀H',Q (.bl true) H'
theorem FQ{K:W.Frag}(vs:List V)(H:Hp)(Q:VK)(E:XK)(h:So K vs H Q E):aI K NM vs H Q E:=by
 obtain⟨a,ns,rfl,hs,hl,q⟩:=h;have no:∀b,¬Ow (λa=>(none:Option fk)=oZ a) [oZ (V.ref a)] [⇑(.lst (bK ns))] b:=λb z=>by
  obtain z|⟨i,k,xs,h1,_⟩:=z
  ·cases z
  ·match i,h1 with
   |0,h1=>simp at h1
   |_+1,h1=>simp at h1
 have ii:∀ns:List Int,cP K H (Ow (λa=>(none:Option fk)=oZ a) [oZ (V.ref a)] [⇑(.lst (bK ns))]) (bK ns) (ns.map V.int):=λns=>by
  have fD:∀(O:fk->Prop)(ms:List Int),cP K H O (bK ms) (ms.map V.int):=λO ms=>by
   induction ms with
   |nil=>rfl
   |cons m ms ih=>exact⟨_,_,rfl,rfl,ih⟩
  exact fD _ ns
 refine⟨[.v (.lst (bK ns))],λr _=>r = .v (.bl true),none,⟨rfl,λi t h=>?_,λi k xs h=>?_,λi j k l xs ys b h=>?_,λb z=>by cases z⟩,λ_=>rfl,⟨ns,rfl,hl,rfl⟩,λr xs v H' e _ _ rr=>?_⟩
 ·match i,h with
  |0,h=>
   simp[k8]at h;subst h;exact⟨_,rfl,a,_,rfl,hs.imp (λh=>⟨no a,h⟩) id,ii ns⟩
  |_+1,h=>simp[k8]at h
 ·match i,h with
  |0,h=>simp[k8]at h
  |_+1,h=>simp[k8]at h
 ·match i,h with
  |0,h=>simp[k8]at h
  |_+1,h=>simp[k8]at h
 ·subst e;cases rr;exact q H'
def Fc(K:W.Frag)(nm:Str)(st:fq)(f:fk):Prop:=∃(oc:oA)(od:Option fk)(kV dc pm:oA)(an:Option fk)(cd ct:oA)(sl:Array (Option oA)),
 W.nsIn K gj nm=oZ (oZ (.ref f))/\K.lookup f=oZ ⟨oc,od,.func (W.fnOf nm nm (fR st) (cZ st) (aC st) .none kV dc pm an cd ct),sl⟩/\W.codeIn K cd nm=true/\W.keepIn K (.ref f)=true
theorem fc{K:W.Frag}{nm:Str}{st:fq}{f:fk}{oc:oA}{od:Option fk}{kV dc pm:oA}{an:Option fk}{cd ct:oA}{sl:Array (Option oA)}(a:W.nsIn K gj nm=oZ (oZ (.ref f)))(l:K.lookup f=oZ ⟨oc,od,.func (W.fnOf nm nm (fR st) (cZ st) (aC st) .none kV dc pm an cd ct),sl⟩)(c:W.codeIn K cd nm=true)(k:W.keepIn K (.ref f)=true):Fc K nm st f:=⟨_,_,_,_,_,_,_,_,_,a,l,c,k⟩
theorem gm{P:fu}{w:gn}{K:W.Frag}{h base:oE}{mg:Str->Option oA}{nm:Str}{st:fq}{f:fk}{CX:Ia}{k:Nat}{ps:List Str}{sp:Sp}(X:K.In h)(G:h.Ns gj mg)(p:Fc K nm st f)(ok:∀{fd:ip},cI K nm nm st f fd->aS P w K mg base CX k f fd ps sp)
  (bd:∀{fd:ip},cI K nm nm st f fd->kF K fd ps []):∃f fd,aS P w K mg base CX k f fd ps sp/\mg nm=oZ (.ref f)/\W.keepIn K (.ref f)=true/\kF K fd ps []:=by
 obtain⟨_,_,_,_,_,_,_,_,_,a,l,c,k⟩:=p;have F:=Mw (st:=st) l c k;exact⟨f,_,ok F,W.mg_of X G a,k,bd F⟩
theorem yT{P:fu}{w:gn}{K:W.Frag}{h base:oE}{mg:Str->Option oA}{nm:Str}{st:fq}{f:fk}{CX:Ia}{k:Nat}{ps:List Str}{sp:Sp}(X:K.In h)(G:h.Ns gj mg)(p:Fc K nm st f)(ok:∀{fd:ip},cI K nm nm st f fd->aS P w K mg base CX k f fd ps sp)(hl:ps.length=1:=by rfl)
  (hb:∀(kV doc pm:oA)(an:Option fk)(qp ct a0:oA),bindArgs (W.fnOf nm nm (fR st) (cZ st) (aC st) .none kV doc pm an qp ct) ⟨[a0],[]⟩=pure (ps.zip [a0]):=by intros;rfl):∃f fd,aS P w K mg base CX k f fd ps sp/\mg nm=oZ (.ref f)/\W.keepIn K (.ref f)=true/\kF K fd ps []:=
 gm X G p ok λF=>F.binds λkV doc pm an qp ct us e=>by obtain⟨a0,rfl⟩:=RD (e.trans hl);exact hb ..
theorem mE{P:fu}{w:gn}{K:W.Frag}{h base:oE}{mg:Str->Option oA}{nm:Str}{st:fq}{f:fk}{CX:Ia}{k:Nat}{ps:List Str}{sp:Sp}(X:K.In h)(G:h.Ns gj mg)(p:Fc K nm st f)(ok:∀{fd:ip},cI K nm nm st f fd->aS P w K mg base CX k f fd ps sp)(hl:ps.length=2:=by rfl)
  (hb:∀(kV doc pm:oA)(an:Option fk)(qp ct a0 a1:oA),bindArgs (W.fnOf nm nm (fR st) (cZ st) (aC st) .none kV doc pm an qp ct) ⟨[a0,a1],[]⟩=pure (ps.zip [a0,a1]):=by intros;rfl):∃f fd,aS P w K mg base CX k f fd ps sp/\mg nm=oZ (.ref f)/\W.keepIn K (.ref f)=true/\kF K fd ps []:=
 gm X G p ok λF=>F.binds λkV doc pm an qp ct us e=>by obtain⟨a0,a1,rfl⟩:=LI (e.trans hl);exact hb ..
theorem N3{P:fu}{w:gn}{K:W.Frag}{h base:oE}{mg:Str->Option oA}{nm:Str}{st:fq}{f:fk}{CX:Ia}{k:Nat}{ps:List Str}{sp:Sp}(X:K.In h)(G:h.Ns gj mg)(p:Fc K nm st f)(ok:∀{fd:ip},cI K nm nm st f fd->aS P w K mg base CX k f fd ps sp)(hl:ps.length=3:=by rfl)
  (hb:∀(kV doc pm:oA)(an:Option fk)(qp ct a0 a1 a2:oA),bindArgs (W.fnOf nm nm (fR st) (cZ st) (aC st) .none kV doc pm an qp ct) ⟨[a0,a1,a2],[]⟩=pure (ps.zip [a0,a1,a2]):=by intros;rfl):∃f fd,aS P w K mg base CX k f fd ps sp/\mg nm=oZ (.ref f)/\W.keepIn K (.ref f)=true/\kF K fd ps []:=
 gm X G p ok λF=>F.binds λkV doc pm an qp ct us e=>by obtain⟨a0,a1,a2,rfl⟩:=RF (e.trans hl);exact hb ..
theorem ES{P:fu}{w:gn}{K:W.Frag}{h base:oE}{mg:Str->Option oA}{nm:Str}{st:fq}{f:fk}{CX:Ia}{k:Nat}{ps:List Str}{sp:Sp}(X:K.In h)(G:h.Ns gj mg)(p:Fc K nm st f)(ok:∀{fd:ip},cI K nm nm st f fd->aS P w K mg base CX k f fd ps sp)(hl:ps.length=4:=by rfl)
  (hb:∀(kV doc pm:oA)(an:Option fk)(qp ct a0 a1 a2 a3:oA),bindArgs (W.fnOf nm nm (fR st) (cZ st) (aC st) .none kV doc pm an qp ct) ⟨[a0,a1,a2,a3],[]⟩=pure (ps.zip [a0,a1,a2,a3]):=by intros;rfl):∃f fd,aS P w K mg base CX k f fd ps sp/\mg nm=oZ (.ref f)/\W.keepIn K (.ref f)=true/\kF K fd ps []:=
 gm X G p ok λF=>F.binds λkV doc pm an qp ct us e=>by obtain⟨a0,a1,a2,a3,rfl⟩:=RG (e.trans hl);exact hb ..
theorem UA{P:fu}{w:gn}{K:W.Frag}{h base:oE}{mg:Str->Option oA}{nm:Str}{st:fq}{f:fk}{CX:Ia}{k:Nat}{ps:List Str}{sp:Sp}(X:K.In h)(G:h.Ns gj mg)(p:Fc K nm st f)(ok:∀{fd:ip},cI K nm nm st f fd->aS P w K mg base CX k f fd ps sp)(hl:ps.length=5:=by rfl)
  (hb:∀(kV doc pm:oA)(an:Option fk)(qp ct a0 a1 a2 a3 a4:oA),bindArgs (W.fnOf nm nm (fR st) (cZ st) (aC st) .none kV doc pm an qp ct) ⟨[a0,a1,a2,a3,a4],[]⟩=pure (ps.zip [a0,a1,a2,a3,a4]):=by intros;rfl):∃f fd,aS P w K mg base CX k f fd ps sp/\mg nm=oZ (.ref f)/\W.keepIn K (.ref f)=true/\kF K fd ps []:=
 gm X G p ok λF=>F.binds λkV doc pm an qp ct us e=>by obtain⟨a0,a1,a2,a3,a4,rfl⟩:=RH (e.trans hl);exact hb ..
theorem KW{P:fu}{w:gn}{K:W.Frag}{h base:oE}{mg:Str->Option oA}{nm:Str}{st:fq}{f:fk}{CX:Ia}{k:Nat}{ps:List Str}{sp:Sp}(X:K.In h)(G:h.Ns gj mg)(p:Fc K nm st f)(ok:∀{fd:ip},cI K nm nm st f fd->aS P w K mg base CX k f fd ps sp)(hl:ps.length=6:=by rfl)
  (hb:∀(kV doc pm:oA)(an:Option fk)(qp ct a0 a1 a2 a3 a4 a5:oA),bindArgs (W.fnOf nm nm (fR st) (cZ st) (aC st) .none kV doc pm an qp ct) ⟨[a0,a1,a2,a3,a4,a5],[]⟩=pure (ps.zip [a0,a1,a2,a3,a4,a5]):=by intros;rfl):∃f fd,aS P w K mg base CX k f fd ps sp/\mg nm=oZ (.ref f)/\W.keepIn K (.ref f)=true/\kF K fd ps []:=
 gm X G p ok λF=>F.binds λkV doc pm an qp ct us e=>by obtain⟨a0,a1,a2,a3,a4,a5,rfl⟩:=RI (e.trans hl);exact hb ..
theorem DH{P:fu}{w:gn}{K:W.Frag}{h:oE}{mg:Str->Option oA}{fa f0 f1 f2 f3 f4 f5 f6 f7 f8 f9 f10 f11 f12 f13 f14 f15 f16 f17 f18 f19 f20 f21 f22 f23 f24 f25 f26 f27 f28 f29 f30 f31 f32 f33 f34 f35 f36 f37 f38 f39 f40 f41 f42 f43 f44 f45 f46 f47 f48 f49 f50 f51 f52 f53 f54 f55 f56 f57 f58 f59 f60 f61 f62 f63 f64 f65 f66 f67 f68 f69 f70 f71 f72 f73 f74 f75 f76 f77 f78 f79 f80 f81 f82 f83 f84 f85 f86 f87 f88:fk}(X:K.In h)(G:h.Ns gj mg)(hfa:mg "law" = oZ (.ref fa))
  (p0:Fc K "_law_take" Pp f0)
  (p1:Fc K "common_divisor" i4 f1)
  (p2:Fc K "fraction" sA f2)
  (p3:Fc K "added" Gx f3)
  (p4:Fc K "taken" Hf f4)
  (p5:Fc K "times" Hg f5)
  (p6:Fc K "dot" F3 f6)
  (p7:Fc K "left_of" vA f7)
  (p8:Fc K "over" Pn f8)
  (p9:Fc K "_law_box" F2 f9)
  (p10:Fc K "whole_root" nH f10)
  (p11:Fc K "root_of" vF f11)
  (p12:Fc K "minus" Hd f12)
  (p13:Fc K "length_of" pW f13)
  (p14:Fc K "unit_of" vK f14)
  (p15:Fc K "right_of" sJ f15)
  (p16:Fc K "is_side" u9 f16)
  (p17:Fc K "end_of" zM f17)
  (p18:Fc K "begin_of" r6 f18)
  (p19:Fc K "is_closed" pU f19)
  (p20:Fc K "arc_heading" lN f20)
  (p21:Fc K "headings" sC f21)
  (p22:Fc K "radius_of" pZ f22)
  (p23:Fc K "cross" Gz f23)
  (p24:Fc K "corner_headings" iH f24)
  (p25:Fc K "corner_word" lQ f25)
  (p26:Fc K "corners" uZ f26)
  (p27:Fc K "turned" zY f27)
  (p28:Fc K "turn_of" vJ f28)
  (p29:Fc K "stepped" vH f29)
  (p30:Fc K "has_quarter" lR f30)
  (p31:Fc K "quarters_between" gY f31)
  (p32:Fc K "compared" r8 f32)
  (p33:Fc K "turn_size" qB f33)
  (p34:Fc K "flipped" u7 f34)
  (p35:Fc K "merged" zR f35)
  (p36:Fc K "units_between" jZ f36)
  (p37:Fc K "plus" Po f37)
  (p38:Fc K "scaled" zW f38)
  (p39:Fc K "tip_of" zX f39)
  (p40:Fc K "least_dot" pV f40)
  (p41:Fc K "_law_folded" zN f41)
  (p42:Fc K "_law_frac" Hc f42)
  (p43:Fc K "_law_sum" Pj f43)
  (p44:Fc K "_law_less" He f44)
  (p45:Fc K "_law_product" sF f45)
  (p46:Fc K "_law_add" Pe f46)
  (p47:Fc K "_law_sub" Ph f47)
  (p48:Fc K "_law_scaled_by" nF f48)
  (p49:Fc K "_law_cross" zP f49)
  (p50:Fc K "_law_dot" Pf f50)
  (p51:Fc K "_law_quarter" sG f51)
  (p52:Fc K "_law_unit_at" sI f52)
  (p53:Fc K "_law_one_move" pY f53)
  (p54:Fc K "_law_back" Ha f54)
  (p55:Fc K "_law_path_of" sE f55)
  (p56:Fc K "_law_all_moves" nE f56)
  (p57:Fc K "_law_drawn" zQ f57)
  (p58:Fc K "_law_width" zU f58)
  (p59:Fc K "_law_case" Hb f59)
  (p60:Fc K "side_strip" nG f60)
  (p61:Fc K "tips_of" vI f61)
  (p62:Fc K "rays_of" vE f62)
  (p63:Fc K "fan" F6 f63)
  (p64:Fc K "fan_units" pT f64)
  (p65:Fc K "corner_fan" nA f65)
  (p66:Fc K "start_cap" qA f66)
  (p67:Fc K "end_cap" u6 f67)
  (p68:Fc K "arc_vectors" lO f68)
  (p69:Fc K "arc_units" pS f69)
  (p70:Fc K "inner_of" sD f70)
  (p71:Fc K "with_tips" qC f71)
  (p72:Fc K "sector_marks" kY f72)
  (p73:Fc K "sectors" vG f73)
  (p74:Fc K "piece_blocks" kX f74)
  (p75:Fc K "bends" Gy f75)
  (p76:Fc K "laid_blocks" lU f76)
  (p77:Fc K "blocks" zL f77)
  (p78:Fc K "_law_same" zV f78)
  (p79:Fc K "_law_right" zT f79)
  (p80:Fc K "_law_headings" pX f80)
  (p81:Fc K "_law_tip" Pk f81)
  (p82:Fc K "_law_fan" Pg f82)
  (p83:Fc K "_law_corner" vC f83)
  (p84:Fc K "_law_inner" zS f84)
  (p85:Fc K "_law_sectors" sH f85)
  (p86:Fc K "_law_piece_blocks" jY f86)
  (p87:Fc K "_law_blocks" vB f87)
  (p88:Fc K "law" zO f88)
  {xl:fk} {zu zw zx zy aAA aAB:Tok} {aAC:Nat} (aAU:W.nsIn K gj "FAN_MARKS" = oZ (oZ (.ref xl))) (aAV:K.lookup xl=oZ { cls:=.type "dict",data:=.dict #[⟨hashStr w "left",.str "left" zu,.str "r" zw⟩,⟨hashStr w "right",.str "right" zx,.str "l" zy⟩,⟨hashStr w "back",.str "back" aAA,.str "b" aAB⟩] aAC })
  {wx:fk} {yp yq yr yt yu yv:Tok} {yw:Nat} (aAD:W.nsIn K gj "OTHER_MARK" = oZ (oZ (.ref wx))) (aAE:K.lookup wx=oZ { cls:=.type "dict",data:=.dict #[⟨hashStr w "l",.str "l" yp,.str "r" yq⟩,⟨hashStr w "r",.str "r" yr,.str "l" yt⟩,⟨hashStr w "-",.str "-" yu,.str "-" yv⟩] yw })
  {aAW:fk} {aA7:Option fk} {aBK aBL:Tok} {aBM:Nat} {aA8:Array (Option oA)} (aCB:W.nsIn K gj "NOUGHT" = oZ (oZ (.ref aAW))) (aCC:K.lookup aAW=oZ ⟨.type "tuple",aA7,.seq #[.int 0 aBK,.int 1 aBL] aBM,aA8⟩)
  {wy:fk} {yk:Option fk} {yx yy:Tok} {yz:Nat} {ym:Array (Option oA)} (aAF:W.nsIn K gj "ONE_blocks" = oZ (oZ (.ref wy))) (aAG:K.lookup wy=oZ ⟨.type "tuple",yk,.seq #[.int 1 yx,.int 1 yy] yz,ym⟩)
  {xo:fk} {zc:Option fk} {aAH aAI:Tok} {aAJ:Nat} {zd:Array (Option oA)} (aAX:W.nsIn K gj "ONE_turns" = oZ (oZ (.ref xo))) (aAY:K.lookup xo=oZ ⟨.type "tuple",zc,.seq #[.int 1 aAH,.int 1 aAI] aAJ,zd⟩)
  {aDP:fk} {aC3:Option fk} {aED aEE:Tok} {aEF:Nat} {aC4:Array (Option oA)} (aF6:W.nsIn K gj "TWO" = oZ (oZ (.ref aDP))) (aF7:K.lookup aDP=oZ ⟨.type "tuple",aC3,.seq #[.int 2 aED,.int 1 aEE] aEF,aC4⟩)
  (aAK:W.nsIn K gj "isinstance" = oZ none) (aF8:W.nsIn K gj "abs" = oZ none) (aCD:W.nsIn K gj "divmod" = oZ none) (aF9:W.nsIn K gj "min" = oZ none) (aGA:W.nsIn K gj "max" = oZ none) (aGB:W.nsIn K gj "all" = oZ none) (M6:W.nsIn K gj "len" = oZ none) (aGC:W.nsIn K gj "int" = oZ none) (aEG:W.nsIn K gj "bool" = oZ none) (aC5:W.nsIn K gj "tuple" = oZ none) (aEH:W.nsIn K gj "list" = oZ none) (aGD:W.nsIn K gj "str" = oZ none) (aC6:W.nsIn K gj "range" = oZ none) (aAZ:W.nsIn K gj "enumerate" = oZ none) (aGE:W.nsIn K gj "zip" = oZ none) :
  ∃fd:ip,(∀(s:oB)(v:oA),BindsTo s fd ⟨[v],[]⟩ [("_law_script",v)])/\∀base:oE,K.In base->base.Ns gj mg->aS P w K mg base cL 16 fa fd ["_law_script"] (So K):=by
 obtain⟨_,_,_,_,_,_,_,_,_,a78,l78,c78,k78⟩:=p78;obtain⟨oc,od,kV,dc,pm,an,cd,ct,sl,a88,l88,c88,k88⟩:=p88;have e:=hfa.symm.trans (W.mg_of X G a88);cases e;have T:Txt mg:=⟨W.mg_none_of X G aAK,W.mg_none_of X G aF8,W.mg_none_of X G aCD,W.mg_none_of X G aF9,W.mg_none_of X G aGA,W.mg_none_of X G aGB,W.mg_none_of X G M6,W.mg_none_of X G aGC,W.mg_none_of X G aEG,W.mg_none_of X G aC5,W.mg_none_of X G aEH,W.mg_none_of X G aGD,W.mg_none_of X G aC6,W.mg_none_of X G aAZ,W.mg_none_of X G aGE⟩;have vg:uF mg w K "FAN_MARKS" "left" "r" "right" "l" "back" "b":=⟨⟨_,_,_,_,_,_,_,_,W.mg_of X G aAU,aAV⟩,∅⟩;have uq:uF mg w K "OTHER_MARK" "l" "r" "r" "l" "-" "-":=⟨⟨_,_,_,_,_,_,_,_,W.mg_of X G aAD,aAE⟩,∅⟩;have tu:nW mg K "NOUGHT" (.tup [.int 0,.int 1]):=⟨_,W.mg_of X G aCB,mZ aCC⟩;have uo:nW mg K "ONE_blocks" (.tup [.int 1,.int 1]):=⟨_,W.mg_of X G aAF,mZ aAG⟩;have pf:nW mg K "ONE_turns" (.tup [.int 1,.int 1]):=⟨_,W.mg_of X G aAX,mZ aAY⟩;have aB8:nW mg K "TWO" (.tup [.int 2,.int 1]):=⟨_,W.mg_of X G aF6,mZ aF7⟩;have F78:=Mw (st:=zV) l78 c78 k78;have b78:=F78.binds (ps:=["_law_found","_law_due"]) λ_ _ _ _ _ _ us hl=>by obtain⟨_,_,rfl⟩:=LI hl;rfl
 have F88:=Mw (st:=zO) l88 c88 k88;refine⟨W.fnOf "law" "law" (fR zO) (cZ zO) (aC zO) .none kV dc pm an cd ct,λs v=>.of_eq rfl,λbase _ _=>?_⟩;have og: ~~~qO:=⟨mE X G p0 (U2 · T )⟩;have se: ~~~lD:=⟨mE X G p1 (tV · T )⟩;have my: ~~~eR:=⟨mE X G p2 (Jt · T se)⟩;have oh: ~~~iB:=⟨mE X G p3 (Zs · T my)⟩;have qf: ~~~l9:=⟨mE X G p4 (A4 · T my)⟩;have oq: ~~~kI:=⟨mE X G p5 (A5 · T my)⟩;have qy: ~~~rO:=⟨mE X G p6 (GA · T oq oh)⟩;have oi: ~~~iU:=⟨yT X G p7 (Nw · T )⟩;have sf: ~~~sY:=⟨mE X G p8 (T9 · T my)⟩;have aCA: ~~~Xc:=⟨mE X G p9 (FZ · T )⟩;have tf: ~~~rH:=⟨yT X G p10 (Bc · T )⟩;have wz: ~~~xT:=⟨yT X G p11 (Oc · T tf)⟩;have qe: ~~~lZ:=⟨mE X G p12 (Zy · T qf)⟩;have qz: ~~~mV:=⟨yT X G p13 (Fz · T wz qy)⟩;have qo: ~~~mY:=⟨yT X G p14 (Oh · T qz sf)⟩;have pb: ~~~jJ:=⟨yT X G p15 (Kb · T )⟩;have qd: ~~~kH:=⟨yT X G p16 (Nu · T )⟩;have nq: ~~~g8:=⟨yT X G p17 (Vn · T qd)⟩;have ph: ~~~jG:=⟨mE X G p18 (Jr · T nq)⟩;have rf: ~~~mT:=⟨yT X G p19 (Fx · T nq)⟩;have so: ~~~oR:=⟨mE X G p20 (yY · T qo qe oi pb)⟩;have pe: ~~~jH:=⟨mE X G p21 (Ju · T ph nq qd qo qe so)⟩;have vi: ~~~tD:=⟨mE X G p22 (Gd · T qd qz qe nq)⟩;have qx: ~~~oU:=⟨mE X G p23 (Zu · T oq qf)⟩;have pg: ~~~gW:=⟨mE X G p24 (rY · T pe)⟩;have ug: ~~~oT:=⟨mE X G p25 (y0 · T pg qx)⟩;have xc: ~~~xO:=⟨yT X G p26 (Nq · T rf ug)⟩;have ya: ~~~Bo:=⟨mE X G p27 (Vx · T oq qf oh)⟩;have xa: ~~~xW:=⟨yT X G p28 (Og · T my)⟩;have vq: ~~~xV:=⟨N3 X G p29 (Oe · T xa oq my ya)⟩;have uh: ~~~o7:=⟨mE X G p30 (y8 · T qy qx)⟩;have qm: ~~~j8:=⟨N3 X G p31 (rB · T uh vq sf qx oh qy pf)⟩;have qk: ~~~lE:=⟨mE X G p32 (Js · T )⟩;have uf: ~~~tF:=⟨mE X G p33 (Gf · T qx qy qf oh pf)⟩;have uk: ~~~xQ:=⟨yT X G p34 (Nt · T )⟩;have yb: ~~~Bk:=⟨N3 X G p35 (Vr · T uf qk)⟩;have mj: ~~~cC:=⟨N3 X G p36 (uS · T qm uk yb)⟩;have qu: ~~~sZ:=⟨mE X G p37 (U1 · T oh)⟩;have pj: ~~~l8:=⟨mE X G p38 (Vv · T oq)⟩;have ye: ~~~Bn:=⟨mE X G p39 (Vw · T pj qu sf oh qy pf)⟩;have vm: ~~~sV:=⟨yT X G p40 (Fy · T qy qk)⟩;have yi: ~~~Bi:=⟨mE X G p41 (Vo · T )⟩;have qr: ~~~o9:=⟨mE X G p42 (Zx · T )⟩;have qw: ~~~qN:=⟨mE X G p43 (T7 · T qr)⟩;have rm: ~~~sX:=⟨mE X G p44 (Zz · T qr)⟩;have nj: ~~~jI:=⟨mE X G p45 (Jx · T qr)⟩;have qq: ~~~qL:=⟨mE X G p46 (T3 · T qw)⟩;have we: ~~~Dr:=⟨mE X G p47 (T6 · T rm)⟩;have ml: ~~~c8:=⟨mE X G p48 (Ba · T nj)⟩;have yg: ~~~Bj:=⟨mE X G p49 (Vp · T rm nj)⟩;have xg: ~~~Dp:=⟨mE X G p50 (T4 · T qw nj)⟩;have mw: ~~~eT:=⟨yT X G p51 (Jy · T )⟩;have tq: ~~~vY:=⟨yT X G p52 (Ka · T mw)⟩;have rg: ~~~mW:=⟨mE X G p53 (Gb · T og tq)⟩;have zp: ~~~Ie:=⟨yT X G p54 (Zv · T ml)⟩;have sj: ~~~pA:=⟨mE X G p55 (Jw · T qq we ml)⟩;have um: ~~~rF:=⟨mE X G p56 (Az · T og rg zp)⟩;have yd:Fn P w K mg base 6 "_law_drawn" ["_law_box_here","_law_most"] (wF K Qc):=⟨mE X G p57 (Vq · T og um sj)⟩;have yc: ~~~Bm:=⟨yT X G p58 (Vu · T og qr)⟩;have zr:Fn P w K mg base 7 "_law_case" ["_law_box_here"] (wF K J5):=⟨yT X G p59 (Zw · T og yc rg sj yd)⟩;have ur: ~~~rG:=⟨N3 X G p60 (Bb · T ph nq pj oi pe qe qu)⟩;have tj: ~~~rP:=⟨yT X G p61 (Of · T ye)⟩;have qt: ~~~mX:=⟨mE X G p62 (Nz · T tj)⟩;have wq: ~~~Dn:=⟨KW X G p63 (GB · T qu pj)⟩;have vf: ~~~sU:=⟨ES X G p64 (Fv · T pg mj oi pb)⟩;have vd: ~~~rE:=⟨KW X G p65 (Ay · T qt vf wq ph vg)⟩;have vp: ~~~tE:=⟨ES X G p66 (Ge · T pe qt mj oi pb wq)⟩;have xf: ~~~xP:=⟨ES X G p67 (Nr · T pe qt mj oi pb wq nq)⟩;have ui: ~~~oS:=⟨mE X G p68 (yZ · T qe ph nq)⟩;have vj: ~~~sS:=⟨N3 X G p69 (Fu · T ui mj qo)⟩;have wg: ~~~vV:=⟨N3 X G p70 (Jv · T qk oq qf sf oh tu uo aB8)⟩;have vo: ~~~tG:=⟨yT X G p71 (Gg · T tj)⟩;have tw: ~~~nY:=⟨N3 X G p72 (wO · T uq)⟩;have xb: ~~~xU:=⟨ES X G p73 (Od · T vi vj wg vm oh vo tw qu pj tu)⟩;have tx: ~~~nX:=⟨ES X G p74 (wN · T qd ur xb)⟩;have zq: ~~~Ic:=⟨yT X G p75 (Zt · T xc)⟩;have uj: ~~~o8:=⟨ES X G p76 (y9 · T zq tx vd rf vp xf)⟩;have yj: ~~~Bh:=⟨N3 X G p77 (Vm · T uj)⟩;have g_same:Fn P w K mg base 7 "_law_same" ["_law_found","_law_due"] (aI K (Ag 7)):=⟨⟨_,_,Rz F78 T (W.mg_of X G a78) k78 b78 7,W.mg_of X G a78,k78,b78⟩⟩;have qi: ~~~qM:=⟨yT X G p79 (Vt · T ml mw)⟩;have rh: ~~~sW:=⟨yT X G p80 (Ga · T qi mw)⟩;have xh: ~~~Ds:=⟨mE X G p81 (T8 · T qw xg ml qq)⟩;have wj: ~~~Dq:=⟨KW X G p82 (T5 · T xh qq ml)⟩;have xi: ~~~xS:=⟨KW X G p83 (Ny · T yg mj qi mw wj)⟩;have yh: ~~~Bl:=⟨N3 X G p84 (Vs · T xg rm nj qw)⟩;have wk: ~~~vW:=⟨UA X G p85 (Jz · T mj yh qw xh ml qq)⟩;have sv: ~~~l7:=⟨KW X G p86 (uR · T wk ml mw qq we)⟩;have xk: ~~~xR:=⟨ES X G p87 (Nx · T rh mw qi mj wj sv xi)⟩;exact(GC F88 T yi aCA zr xk yj g_same).imp FQ
theorem SD{l:W.OpenLaw}{XP:(Str->Option oA)->oE->Prop}{YP:gn->oE->Prop}{d:DefRec}{K:Params->W.Frag}(hn:l.most=oZ 63)(hdf:d.params.defaults=[])(hY:∀(w:gn)(h:oE),YP w h->(K w.params).In h)(F:∀(w:gn)(mg:Str->Option oA)(fa:fk)(h:oE),(K w.params).In h->h.Ns gj mg->mg d.name=oZ (.ref fa)->
   ∃fd:ip,(∀(s:oB)(u:oA),BindsTo s fd ⟨[u],[]⟩ [("_law_script",u)])/\∀base:oE,(K w.params).In base->base.Ns gj mg->aS l.prog w (K w.params) mg base cL 16 fa fd ["_law_script"] (So (K w.params))):
  W.WalkO q loose XP YP l.row.toRowW d [] (λf vs=>PySem.call f vs):=
 L2.AK (n:=63) (k:=16) (x:="_law_script") (CX:=λ_=>cL) (sp:=λw=>So (K w.params)) hn ∅ hdf ⟨rfl,∅,∅,rfl⟩ hY F (λ_ _ a ns hl _ hS=>⟨a,ns,rfl,hS,hl,λ_=>rfl⟩) λ_ _ _ _ _ z=>z
end My
namespace PySem.W.Fast
def tw18390212755562091651:=0
def tw7095076763494549503:=0
def tw12327610018076146624:=0
def tw17993335366545734524:=0
def tw10365873222889873754:=0
def tw13624441791511103223:=0
def tw14131573154097520464:=0
def tw16253703395424654148:=0
def tw11172567112566565839:=0
def tw11480369353274364280:=0
def tw16446517401698526087:=0
def tw1007935991464842070:=0
def tw1003033414700456575:=0
def tw3414532231077100351:=0
def tw4237078429953159014:=0
def tw10532155856116453192:=0
def tw18410293376880290561:=0
def tw6544011415415958157:=0
def tw3628810514295842917:=0
def tw5444412883191421747:=0
def tw1746621756665159678:=0
def tw7908465084014921969:=0
def tw14549131621325981777:=0
def tw14404438288638236895:=0
def tw7801828476352306748:=0
def tw9168341964821208510:=0
def tw3897333828994938015:=0
def tw8770651752909107437:=0
def tw5945863443339459578:=0
def tw1293460451382489522:=0
def tw15485055094998262341:=0
def tw2230484863452270999:=0
def tw15945853304295876129:=0
def tw6533979584844734864:=0
def tw897697576375918885:=0
def tw4207307922140921711:=0
def tw7739077689801658231:=0
def tw10993477389011704047:=0
def tw10600126761005724741:=0
def tw2856189990954905409:=0
def tw13008132316528174081:=0
def tw12747880941880870779:=0
def tw9663400721740928421:=0
def tw9440649153931155167:=0
def tw12959361763048716696:=0
def tw11877498195756748425:=0
def tw9200029146486938124:=0
def tw18118924903246678272:=0
def tw9295585931505290020:=0
def tw9298332157869270841:=0
def tw7311244202691927264:=0
def tw12953941811792237113:=0
def tw15008201890407585999:=0
def tw3155527332659366022:=0
def tw17549932682157780387:=0
def tw2029006708993853868:=0
def tw15837752735673999723:=0
def tw3499446819949845995:=0
def tw2479434650086469283:=0
def tw13550154721804352548:=0
def tw12459853205705081803:=0
def tw7797197743469954506:=0
def tw6805283559357558111:=0
def tw18059677084589802890:=0
def tw3947416875554465962:=0
def tw4004357302819495723:=0
def tw4415035084463544168:=0
def tw5332000367608312922:=0
def tw42178003023780094:=0
def tw14947936039274242851:=0
def tw4464405386518632524:=0
def tw1779825527985640005:=0
def tw414051593977584450:=0
def tw4460270018224642791:=0
def tw15539533812564986219:=0
def tw2397969273568091259:=0
def tw6009302681610448191:=0
def tw7941732208238401642:=0
def tw3910675072470065253:=0
def tw13166561274366408286:=0
def tw10576157700858515126:=0
def tw16994694058630393374:=0
def tw13881204512693637726:=0
def tw16379421447848766751:=0
def tw13016093985326561651:=0
def tw16213644787926660623:=0
def tw11255193735789297378:=0
def tw1529562523948780929:=0
def tw14474405225859303772:=0
def tw12904065971166529290:=0
def tw13166558071826811748:=0
def tw5797480818959248673:=0
def tw12311788813505709146:=0
def tw8894207533938425040:=0
def tw6907158217243154632:=0
def tw2074633409964600997:=0
def tw7338402070952098793:=0
def tw12488985989085879942:=0
def tw14792417382951714686:=0
def tw3370459729158973795:=0
def tw5821411778561459108:=0
def tw17158293989683248733:=0
def tw10826579865191433854:=0
def tw3253021287317178451:=0
def tw64771796987940227:=0
def tw899758686729519196:=0
def tw13071300140758822771:=0
def tw14126710048588124532:=0
def tw14590947160732107063:=0
def tw10643351441372571945:=0
def tw1171588360724000327:=0
def tw12180015961954572150:=0
def tw3517899122462359773:=0
def tw15193051018721617642:=0
def tw9312817708670421822:=0
def tw4239482616133817840:=0
def tw5024146180502719736:=0
def tw11768983014192613882:=0
def tw17349443521753525631:=0
def tw654308708984439699:=0
def tw10741976475823085729:=0
def tw14196761454262621194:=0
def tw11506558428391654372:=0
def tw18010465245907547721:=0
def tw1833777082700847608:=0
def tw1052029265923564185:=0
def tw2388966305971121201:=0
def tw13777484237521112271:=0
def tw4778387474010156558:=0
def tw3535535728836168105:=0
def tw11963126542863171777:=0
def tw592362257675423737:=0
def tw3766427600072895780:=0
def tw10399727777007372353:=0
def tw1163402780588857498:=0
def tw978242383446889707:=0
def tw13407751470395672163:=0
def tw4389601021147322651:=0
def tw15180260503666480868:=0
def tw349881865464669460:=0
def tw6175357253891832751:=0
def tw1065369957080867949:=0
def tw3805661742954749812:=0
def tw18282336268594450141:=0
def tw12575691379926421922:=0
def tw14569649037158197098:=0
def tw7428579854837937119:=0
def tw15842955440367853002:=0
def tw8063541413161447771:=0
def tw3349703861667298187:=0
def tw5089022859279758448:=0
def tw17848983192593451694:=0
def tw16063766930203008989:=0
def tw11888388776588863027:=0
def tw2556913553789573908:=0
def tw12568223044377358253:=0
def tw2170274857347151999:=0
def tw17435293740946005866:=0
def tw17607872668990674925:=0
def tw587066351824572114:=0
def tw18367340558453258258:=0
def tw12269027367769320507:=0
def tw12809382883646438503:=0
def tw4370961488235636002:=0
def tw14834713237309348028:=0
def tw5934039204218228856:=0
def tw9096984876305799826:=0
def tw7467218849912177681:=0
def tw806394337850025406:=0
def tw202896096331282446:=0
def tw4761031853430835525:=0
def tw10267240795960622601:=0
def tw9046827501457469606:=0
def tw17597358873950162534:=0
def tw12921942048264276555:=0
def tw15753329498093191188:=0
def tw18179727952703983402:=0
def tw5959426817241884700:=0
def tw14934883712236064498:=0
def tw12329518839946349456:=0
def tw242009765898947809:=0
def tw770105545111528718:=0
def tw15329666825180872418:=0
def tw8643186894628052019:=0
def tw7889472136024220217:=0
def tw10317563112737199967:=0
def tw9473322044518793239:=0
def tw17435668227636631984:=0
def tw6189162313706359399:=0
def tw11056620035336421063:=0
def tw2004780091536587310:=0
def tw12507514191511490220:=0
def tw1085368860763103208:=0
def tw11999087364026114781:=0
def tw7064992969215674201:=0
def tw14750538178399974479:=0
def tw11161063444164741464:=0
def tw5627576117838809480:=0
def tw17351287893551376251:=0
def tw3668749731071652103:=0
def tw2499174288076935988:=0
def tw16521264709234908600:=0
def tw10811279564894435541:=0
def tw12738721007079719593:=0
def tw10650890590075971014:=0
def tw12502349505963233781:=0
def tw8802777834725124713:=0
def tw13424015743501605838:=0
def tw13117651825971459743:=0
def tw17117175560639304915:=0
def tw11718083682929819263:=0
end PySem.W.Fast
open PySem PySem.W PyProof.Rows
set_option maxRecDepth 100000 in
set_option maxHeartbeats 0 in
theorem PySem.Challenge.cw_sidecut_k19_blocks_told_holds : PySem.Challenge.rw_sidecut_k19_blocks_told.Holds := by
 w_on; o_law; k_head; (case hw => w_witness2)
 k_fill
 refine My.SD (l := PySem.Challenge.rw_sidecut_k19_blocks_told) rfl rfl (λw h Y => PySem.W.kIn_of Y) ?F
 case F =>
  intro w mg fa h KX G hmg
  refine' My.DH KX G hmg ..
  any_goals exact My.fc rfl rfl rfl rfl
  any_goals k_is
  all_goals kernel_rfl
#print axioms PySem.Challenge.cw_sidecut_k19_blocks_told_holds
