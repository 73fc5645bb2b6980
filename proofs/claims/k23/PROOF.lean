import PyProof.Rows.All
import Wide.All
import OpenK.AllK
import Wide.FinOn
import Lean
import PyProof.EqAt
import PyProof.EqKinds
import PyProof.TupleCall
import PyProof.ListStr
import PyProof.Rows.CountFlat
import PyProof.ZipIter
import PyProof.ListMulRoad
import PyProof.FactsAll.tuple
import PyProof.Rows.StrJoin2
import KE.KRevIter
import PyProof.ConsumeWalk
import PyProof.RaisesMany
import PyProof.PassesOwn
import PyProof.ExcInit
import PyProof.ExcClass2
import PyProof.ExcClass3
import PyProof.InstStoreFacts
import PyProof.InstLoad
import PyProof.ExcArgsOwn
import PyProof.ExcAttrAll.ValueError
import PyProof.ExcBaseAll.ValueError
import OpenK.Peek
import PyProof.NsDelKeeps
import PyProof.RulesAs
import KE.KIsAll
import KE.KDictSum
import PyProof.SetNew
import PyProof.SetRoads
import PyProof.SetKind
import PyProof.SetScanFacts
import PyProof.FactsAll.set
import PyProof.StrCalls2
import KE.KIntText
import PyProof.EnumMake
import PyProof.StrLawsTight
import PyProof.StrLawsIn
import PyProof.Rows.StrSplitJoin
import KE.IntTextLaws
import PyProof.Rows.StrPins
import KE.KxText
import PyProof.Rows.CatFin
import PyProof.EqAt
import PyProof.FactsAll.range_2
import PySem.Challenge.RW_notekeep_k23_whole_beginnings
set_option compiler.extract_closed false
set_option genSizeOf false
set_option bootstrap.genMatcherCode false
local macro_rules|`(tactic|omega)=>`(tactic|lia)
section
open Lean
set_option hygiene false
def pO:Nat→Syntax→MacroM (TSyntax `rcasesPat)
|0,_=>Macro.throwUnsupported
|n+1,s=>do
 if s.isOfKind ``Parser.Term.anonymousCtor then
  let p←s[1].getSepArgs.mapM (pO n)
  `(rcasesPat|⟨$[$p],*⟩)
 else if s.isIdent then `(rcasesPat|$(⟨s⟩):ident)
 else if s.isOfKind ``Parser.Term.hole then `(rcasesPat|_)
 else if s.isOfKind ``Parser.Term.paren then pO n s[1]
 else Macro.throwUnsupported
def hI:Nat→Syntax→Nat
|0,_=>0
|n+1,s=>if s.isOfKind ``Parser.Term.syntheticHole then 1 else if s.isOfKind ``Parser.Term.byTactic then 0 else s.getArgs.foldl (λk x=>k+hI n x) 0
def iP (s:Syntax):=s.isOfKind ``Parser.Term.anonymousCtor
def fP (bs:Array Syntax) (b:Term):MacroM Term:=do
 match bs.findIdx? iP with
 |none=>Macro.throwUnsupported
 |some i=>
  if hI 99 b≠0 then Macro.throwUnsupported
  let p←pO 20 bs[i]!
  let m (xs:Array Syntax) (b:Term):MacroM Term:=if xs.isEmpty then pure b else do
   let ys:TSyntaxArray ``Parser.Term.funBinder:=xs.map (⟨·⟩)
   `(fun $ys*=>$b)
  let c←m (bs.extract (i+1) bs.size) b
  m (bs.extract 0 i) (←`(by rintro ($p);exact $c))
def lP (p:Syntax) (v b:Term):MacroM Term:=do
 if iP p&&hI 99 b==0 then
  let p←pO 20 p
  `(by obtain $p :=$v;exact $b)
 else Macro.throwUnsupported
def oP (h:Syntax):Nat→Syntax→StateM (Option (Array Syntax)) Syntax
|0,s=>pure s
|n+1,s=>do
 if s.isOfKind ``Parser.Term.byTactic then return s
 match s with
 |`(fun $bs*=>?_)=>
  let bs:=bs.map (·.raw)
  if bs.any iP then set (some bs);return h else return s
 |_=>return s.setArgs (←s.getArgs.mapM (oP h n))
def rP (t:Term):MacroM (TSyntax `tactic):=do
 if hI 99 t≠1 then Macro.throwUnsupported
 let (t,o):=(oP (←`(?_)) 99 t).run none
 match o with
 |none=>Macro.throwUnsupported
 |some bs=>
  let ps←bs.mapM λb=>do let p←pO 20 b;`(rintroPat|$p:rcasesPat)
  `(tactic|(refine $(⟨t⟩);rintro $ps*))
end
local macro_rules|`(fun $bs*=>$b)=>fP (bs.map (·.raw)) b
local macro_rules|`(let $p:term:=$v;$b)=>lP p v b
local macro_rules|`(tactic|refine $t)=>rP t
local macro_rules|`(tactic|let $p:term:=$v)=>do if iP p then `(tactic|obtain $(←pO 20 p):rcasesPat:=$v) else Lean.Macro.throwUnsupported
local macro_rules|`(tactic|lia)=>`(tactic|decide +kernel)
local macro_rules|`(tactic|exists $x,*)=>`(tactic|refine ⟨$x,*⟩)
local macro_rules|`(#v[$x,*])=>`(⟨$x,*⟩)
open PySem.Str renaming ofString → Aa, join → Es
open List renaming length_map → Ab, length_append → Ae, length_cons → Ah, map_append → Ai, mem_cons_self → Aj, mem_cons_of_mem → Ak, mem_singleton → Al, mem_cons → Am, mem_append → Aq, getElem?_map → Ar, map_cons → Au, size_toArray → Av, getElem?_eq_some_iff → Ax, append_assoc → Az, nil_append → A2, cons_append → A3, mem_map → A5, append_nil → A7, take_of_length_le → Bb, mem_of_getElem? → Bf, mem_append_right → Bg, not_mem_nil → Bi, mem_append_left → Bk, getElem?_eq_getElem → Bm, length_range → Bo, flatMap_cons → Bp, map_nil → Bq, nodup_cons → Br, length_take → Bt, replicate → Bw, take_length → Bx, map_map → By, getElem?_eq_none → B2, length_nil → B6, dropLast_concat_getLast → B7, take_succ_cons → B8, filter_eq_self → B9, range → Ca, take_append_of_le_length → Cc, getElem?_range → Ce, getElem?_append_right → Cg, lookup_cons → Cj, take_add_one → Cm, nodup_append → Cq, getElem?_append_left → Cu, mem_iff_getElem? → Cw, length_drop → Cy, getElem?_set_ne → C2, mem_of_mem_take → C3, length_eq_zero_iff → C4, drop_succ_cons → C7, flatMap_append → C8, length_pos_iff → C9, getElem?_set_self → Da, length_replicate → De, lookup → Dh, any_cons → Dj, sum_cons → Dk, getElem?_replicate → Dn, all_eq_true → Dp, getElem_mem → Dq, flatMap_nil → Dr, drop_of_length_le → Dt, find?_cons → Dv, getElem?_reverse → Dx, singleton_append → Dy, drop_zero → D4, map_reverse → D6, filterMap_cons → Ea, length_reverse → Eb, reverse_append → Ec, map_eq_nil_iff → Ed, take_nil → Ee, map_take → Ef, sum_append → Eh, pairwise_cons → Ei, mem_range → El, reverse_cons → Eo, foldl_append → Er, take_append → Ey, map_drop → Ez, eq_nil_of_length_eq_zero → E2, dropLast_concat → E3, mem_of_mem_drop → E5, foldl_cons → E7, mem_map_of_mem → E9, replicate_succ → Fb, takeWhile_cons → Fd, take_zero → Fg, ext_getElem? → Fm, all_cons → Fs, mem_flatMap → Fw, of_mem_zip → Fz, length → F2, take_succ → F3
open PySem renaming wpAny_bind → Ac, wpAny_pure → Ag, sizeLine → An, starEach → A0, foldedSetIterable → A9, wpAny_setState_of → Be, wpAny_ite_false → Bj, wpAny_newObj_type → Bs, wpAny_of_eq → B4, wpAny_mono → Cz, wpAny_standAt → Dl
open PySem.W renaming Frag → Ad, findIn → A6, nsIn → Bn, keepIn → B1, kia_one → Ci, emptyDict → Cn, fnOf → C1, instObj → C5, codeIn → Dd, mg_of → Dw, kitOne → D5, plainGet → D8, callWith_K → Ek, hasDictIn → Et, makesIn → E8, plainGet_of → Fe, isFn → Ff, lookIn → Fi, methodObj → Fp, plainOver → Fq, takerIn → F1
open PySem.Heap renaming get?_push_of_some → Af, get?_push_size → Ap, lt_size → As, get?_update_other → Ba, get?_update_self → Bc, size_push → Dz, get?_none_of_le → E1, get?_some_iff → Fh
open Nat renaming le_refl → Ao, lt_of_lt_of_le → Aw, le_trans → Ay, ne_of_lt → A1, mul_le_mul_right → Cb, lt_irrefl → Cd, le_of_ble_eq_true → Cf, zero_le → Cr, le_succ → Cs, min_eq_left → Dg, lt_succ_of_le → Di, ne_of_gt → Ds, toDigits → D7, le_of_lt → Em, le_of_eq → En, min_le_right → Eu, min_eq_right → Ew, lt_succ_of_lt → Fo, lt_succ_self → Ft, le_of_not_lt → Fu, lt_of_not_le → Fv, succ_mul → Fy
open Bool renaming false_ne_true → A4, and_eq_true → Bl, eq_iff_iff → E6
open PySem.Builtin.Range renaming rangeFitsLong → A8, rangeSize → Bv, small → F5
open Or renaming inl → Bh, inr → D0
open PySem.Builtin.Int renaming intBits → Bu
open Option renaming map_eq_some_iff → Bz, some → B3, isSome_iff_exists → C0
open PySem.Builtin.Str renaming partsBetween → B0, occurrences → B5, strKind → F4
open Array renaming getElem?_eq_getElem → Ck, getElem?_toList → Cv, length_toList → C6, getElem?_eq_some_iff → D2, getElem?_eq_none → Ep, eq_empty_of_size_eq_zero → Ex, toList_extract → E4, toList_append → Fc, toList_push → Fn, toList → Fx
open Int renaming eq_ofNat_of_zero_le → Co, toNat_natCast → Cp, natCast_nonneg → Dc, natAbs_natCast → Du, fmod_eq_emod_of_nonneg → D1, lt_or_gt_of_ne → Ej, fdiv_nonneg → F0
open PySem.Builtin.Slice renaming slicePlaces → Df, sliceAdjust → D9, sliceApplied → Fj
open PySem.Builtin.Tuple renaming tupleExact → Dm, tupleItemsOf → Fk, tupleIsExact → Fl
open PySem.Builtin.List renaming listTooLong → Eg
set_option Elab.async false
set_option linter.all false
set_option maxRecDepth 100000
namespace L2
open PySem PySem.Spec PyProof.Rows
abbrev Key:=Sum Int Str
def jE:Key->Value->Bool
 |.inl k,v=>Value.isInt k v
 |.inr x,v=>Value.isStrOf x v
def VD(w:World):Key->Int
 |.inl k=>hashInt k
 |.inr x=>hashStr w x
theorem I0:∀{k:Key} {v:Value},jE k v=true->(∃ i t,k=Sum.inl i/\v=Value.int i t)\/(∃ x t,k=Sum.inr x/\v=Value.str x t)
 |.inl i,v,h=>by
  let ⟨t,e⟩:=Value.isInt_shape (k:=i) (v:=v) h
  exact .inl #v[i,t,rfl,e]
 |.inr x,v,h=>by
  let ⟨t,e⟩:=Value.isStrOf_shape (x:=x) (v:=v) h
  exact .inr #v[x,t,rfl,e]
theorem zJ(i:Int)(t:Tok):jE (.inl i) (.int i t)=true:=by simp[jE,Value.isInt]
theorem zK(x:Str)(t:Tok):jE (.inr x) (.str x t)=true:=by simp[jE,Value.isStrOf]
theorem MK(a b:Int):decide ((Sum.inl a:Key)=Sum.inl b)=(a == b):=by
 by_cases e:a=b
 ·subst e;simp
 ·have h:¬ (Sum.inl a:Key)=Sum.inl b:=λq=>e (Sum.inl.inj q)
  rw[decide_eq_false h]
  exact (beq_eq_false_iff_ne.mpr e).symm
theorem BN(a b:Str):decide ((Sum.inr a:Key)=Sum.inr b)=decide (a=b):=by
 by_cases e:a=b
 ·subst e;simp
 ·have h:¬ (Sum.inr a:Key)=Sum.inr b:=λq=>e (Sum.inr.inj q)
  rw[decide_eq_false h,decide_eq_false e]
theorem ML(a:Int)(b:Str):decide ((Sum.inl a:Key)=Sum.inr b)=false:=decide_eq_false (λq=>nomatch q)
theorem MM(a:Str)(b:Int):decide ((Sum.inr a:Key)=Sum.inl b)=false:=decide_eq_false (λq=>nomatch q)
def bA(prog:Program)(w:World):PySem.KeyKind prog w Key where
 is:=jE
 hash:=VD w
 inj:=λv a b ha hb=>by
  rcases I0 ha with ⟨i,t,rfl,rfl⟩|⟨x,t,rfl,rfl⟩
  ·rcases I0 hb with ⟨j,u,rfl,e⟩|⟨y,u,rfl,e⟩
   ·injection e with e1 _;rw[e1]
   ·exact nomatch e
  ·rcases I0 hb with ⟨j,u,rfl,e⟩|⟨y,u,rfl,e⟩
   ·exact nomatch e
   ·injection e with e1 _;rw[e1]
 byValue:=λk v h=>by
  rcases I0 h with ⟨i,t,rfl,rfl⟩|⟨x,t,rfl,rfl⟩<;>rfl
 pyHash:=λhv h=>by
  rcases I0 hv with ⟨i,t,rfl,rfl⟩|⟨x,t,rfl,rfl⟩
  ·exact wpAny_pyHash_int h
  ·exact wpAny_pyHash_str h
 eqBool:=λhu hv h=>by
  rcases I0 hu with ⟨i,t,rfl,rfl⟩|⟨x,t,rfl,rfl⟩
  ·rcases I0 hv with ⟨j,u,rfl,rfl⟩|⟨y,u,rfl,rfl⟩
   ·rw[MK]at h;exact wpAny_eqBool_int h
   ·rw[ML]at h;exact SeqAt.EqAt.int_str i t y u _ _ _ _ h
  ·rcases I0 hv with ⟨j,u,rfl,rfl⟩|⟨y,u,rfl,rfl⟩
   ·rw[MM]at h;exact SeqAt.EqAt.str_int x t j u _ _ _ _ h
   ·rw[BN]at h;exact wpAny_eqBool_str h
 «strs»:=λk x t v h=>by
  rcases I0 h with ⟨i,u,rfl,e⟩|⟨y,u,rfl,e⟩
  ·exact nomatch e
  ·injection e with e1 _
   subst e1
   cases v<;>rfl
theorem sQ(prog:Program)(w:World)(i:Int)(t:Tok):(bA prog w).is (.inl i) (.int i t)=true:=zJ i t
theorem bD(prog:Program)(w:World)(x:Str)(t:Tok):(bA prog w).is (.inr x) (.str x t)=true:=zK x t
inductive V where
 |non|bl(b:Bool)|int(i:Int)|str(x:Str)|byt(b:Array UInt8)|flt(b:UInt64)|ref(a:Addr)|ty(n:String)
 deriving DecidableEq
def G5:V->Value->Prop
 |.non,u=>u=Value.none
 |.bl b,u=>u=Value.bool b
 |.int i,u=>∃ t,u=Value.int i t
 |.str x,u=>∃ t,u=Value.str x t
 |.byt b,u=>∃ t,u=Value.bytes b t
 |.flt b,u=>∃ t,u=Value.float b t
 |.ref a,u=>u=Value.ref a
 |.ty n,u=>u=Value.type n
abbrev Vals:List V->List Value->Prop:=Paired G5
theorem Vals.length{xs:List V}{us:List Value}(r:Vals xs us):xs.length=us.length:=Paired.length r
theorem Vals.get:∀{xs:List V} {us:List Value} {i:Nat} {x:V},Vals xs us->xs[i]?=some x->∃ u,us[i]?=some u/\G5 x u
 |_,_,_,_,.nil,e=>by simp at e
 |_,_,0,_,.cons r _,e=>by simp at e;subst e;exact #v[_,rfl,r]
 |_,_,i+1,x,.cons _ t,e=>by
  let ⟨u,h1,h2⟩:=Vals.get (i:=i) (x:=x) t (by simpa using e)
  exact #v[u,by simpa using h1,h2]
theorem Vals.set(r:G5 x u):∀{xs:List V} {us:List Value} (i:Nat),Vals xs us->Vals (xs.set i x) (us.set i u)
 |_,_,_,.nil=>.nil
 |_,_,0,.cons _ t=>.cons r t
 |_,_,i+1,.cons q t=>.cons q (Vals.set r i t)
theorem Vals.append:∀{xs ys:List V} {us ws:List Value},Vals xs us->Vals ys ws->Vals (xs++ys) (us++ws)
 |_,_,_,_,.nil,s=>s
 |_,_,_,_,.cons r t,s=>.cons r (Vals.append t s)
theorem Vals.take:∀{xs:List V} {us:List Value} (n:Nat),Vals xs us->Vals (xs.take n) (us.take n)
 |_,_,0,_=>.nil
 |_,_,_+1,.nil=>.nil
 |_,_,n+1,.cons r t=>.cons r (Vals.take n t)
theorem Vals.drop:∀{xs:List V} {us:List Value} (n:Nat),Vals xs us->Vals (xs.drop n) (us.drop n)
 |_,_,0,r=>r
 |_,_,_+1,.nil=>.nil
 |_,_,n+1,.cons _ t=>Vals.drop n t
def RelO:Option V->Option Value->Prop
 |some v,some u=>G5 v u
 |none,none=>True
 |_,_=>False
def KV:List (κ×V)->List (κ×Value)->Prop:=Paired λ(p:κ×V) (q:κ×Value)=>p.1=q.1/\G5 p.2 q.2
def kV:Key->V
 |.inl i=>.int i
 |.inr x=>.str x
inductive HO where
 |lst(xs:List V)
 |tup(xs:List V)
 |dK(kvs:List (Key×V))|dT(kvs:List (List Key×V))
 |set(S:Int->Bool)(n:Nat)
 |ins(C dx:Addr)(fs:List (Str×V))
 |own(x:Addr)
 |xd(fs:List (Str×V))
 |met(f x:Addr)
 |rng(lo hi:Int)
 |frz(o:Obj)(u:HO)
 |tbl(ps:Array Value)
 |ext(φ:Heap->Prop)
abbrev Hp:=Addr->Option HO
def upd(H:Hp)(a:Addr)(o:HO):Hp:=λb=>if b=a then some o else H b
theorem aI:upd H a o a=some o:=by unfold upd;rw[if_pos rfl]
theorem aL(h:b≠a):upd H a o b=H b:=by unfold upd;rw[if_neg h]
theorem QZ{H:Hp}{a b:Addr}{o u:HO}(h:H a=some o)(h':H b=some u)(d:o≠u):a≠b:=by
 intro e;subst e;rw[h]at h';exact d (B3.inj h')
theorem dP{H:Hp}{a b:Addr}{o:HO}(h:H a=some o)(h':H b=none):a≠b:=by
 intro e;subst e;rw[h]at h';cases h'
section
variable (P:Program)(w:World)
def G9(H:Hp)(h:Heap)(a:Addr):HO->Prop
 |.lst xs=>xs.length<=An/\∃(its:List Value) (n:Nat),Vals xs its/\h.get? a=some { cls:=.type "list",data:=.seq its.toArray n }
 |.tup xs=>(xs.length<=An/\∃ o,h.get? a=some o/\o.dict=none)/\∃ its:List Value,Vals xs its/\IsTup h a its.toArray
 |.dK kvs=>kvs.length<=An/\(a == sysModules)=false/\∃ vs,KV kvs vs/\h.DictOf (bA P w) a vs
 |.dT kvs=>kvs.length<=An/\(a == sysModules)=false/\∃ xs:List (List Key×Addr×Value),
   Paired (λ(p:List Key×V) (q:List Key×Addr×Value)=>p.1=q.1/\H q.2.1=some (.tup (p.1.map kV))/\G5 p.2 q.2.2) kvs xs /\
   ∃ o es ep,h.get? a=some o/\o.ExactDict/\o.data=.dict es ep/\es.toList=xs.map (entryOfKey (tupleKind (bA P w)))/\(xs.map (·.1)).Nodup
 |.set S n=>h.SetOf (intKind P w) a S n
 |.ins C dx fs=>H dx=some (.own a)/\fs.length<=1000/\dx≠a/\h.get? a=some (C5 C dx) /\
   ∃ mA,h.Ns1 dx mA/\(∀ f,RelO (fs.lookup f) (mA f))/\PySem.Within mA (fs.map (·.1))
 |.own _=>∃ o,h.get? a=some o
 |.xd fs=>∃ mA,h.Ns1 a mA/\∀ f,RelO (fs.lookup f) (mA f)
 |.rng lo hi=>∃ t u v,h.get? a=some { cls:=.type "range",data:=.fields #[.int lo t,.int hi u,.int 1 v] }
 |.frz o u=>h.get? a=some o/\G9 H h a u
 |.tbl ps=>h.get? a=some { cls:=.none,data:=.fields ps }
 |.met f x=>h.get? a=some (Fp (.ref f) (.ref x))
 |.ext φ=>φ h/\(∃ o,h.get? a=some o)/\∀ h1 h2:Heap,φ h1->(∀ o,h1.get? a=some o->h2.get? a=some o)->φ h2
def HOk(H:Hp)(h:Heap):Prop:=∀ a o,H a=some o->G9 P w H h a o
end
section
variable {P:Program}{w:World}{H H':Hp}{h h':Heap}{a:Addr}{o:HO}
theorem G9.lt(x:G9 P w H h a o):a<h.objs.size:=by
 cases o with
 |lst xs=>let ⟨_,_,_,_,e⟩:=x;exact As e
 |tup xs=>let ⟨_,_,_,p⟩:=x;exact p.lt
 |dK I=>let ⟨_,_,_,_,o,_,_,e,_⟩:=x;exact As e
 |dT I=>let ⟨_,_,_,_,o,_,_,e,_⟩:=x;exact As e
 |set S n=>let ⟨o,_,_,_,e,_⟩:=x;exact As e
 |ins C O fs=>let ⟨_,_,_,e,_⟩:=x;exact As e
 |own y=>let ⟨_,e⟩:=x;exact As e
 |xd fs=>let ⟨_,⟨_,_,_,e,_⟩,_⟩:=x;exact As e
 |rng V J=>let ⟨_,_,_,e⟩:=x;exact As e
 |frz L u=>let ⟨e,_⟩:=x;exact As e
 |tbl ps=>exact As (show h.get? a=some _ from x)
 |met f y=>exact As (show h.get? a=some _ from x)
 |ext φ=>let ⟨_,⟨_,e⟩,_⟩:=x;exact As e
theorem Paired.mapP:∀{l₁:List α} {l₂:List β},Paired F l₁ l₂->(∀ a b,F a b->G a b)->Paired G l₁ l₂
 |_,_,.nil,_=>.nil
 |_,_,.cons r t,f=>.cons (f _ _ r) (Paired.mapP t f)
theorem G9.stay(x:G9 P w H h a o)(k:∀ b u,(b=a\/H b=some (.own a))->h.get? b=some u->h'.get? b=some u)
  (Z:∀ b,H b=some (.own a)->H' b=some (.own a))(ht:∀ b xs,H b=some (.tup xs)->H' b=some (.tup xs)):G9 P w H' h' a o:=by
 induction o with
 |lst xs=>let ⟨z,J,n,r,e⟩:=x;exact #v[z,J,n,r,k _ _ (.inl rfl) e]
 |tup xs=>let ⟨⟨z,o2,e2,c2⟩,J,r,I,e,c⟩:=x;exact #v[#v[z,o2,k _ _ (.inl rfl) e2,c2],J,r,I,k _ _ (.inl rfl) e,c]
 |dK V=>let ⟨z,y,vs,r,I,es,ep,e,c⟩:=x;exact #v[z,y,vs,r,I,es,ep,k _ _ (.inl rfl) e,c]
 |dT V =>
  let ⟨z,y,xs,r,I,es,ep,e,c⟩:=x
  exact #v[z,y,xs,Paired.mapP r λp q z=>#v[z.1,ht _ _ z.2.1,z.2.2],I,es,ep,k _ _ (.inl rfl) e,c]
 |set S n=>let ⟨I,es,ep,t,e,c⟩:=x;exact #v[I,es,ep,t,k _ _ (.inl rfl) e,c]
 |ins C dx fs =>
  let ⟨d,z,ne,e,L,⟨O,es,ep,e2,c⟩,r⟩:=x
  exact #v[Z _ d,z,ne,k _ _ (.inl rfl) e,L,#v[O,es,ep,k _ _ (.inr d) e2,c],r]
 |own y=>let ⟨I,e⟩:=x;exact #v[I,k _ _ (.inl rfl) e]
 |xd fs=>let ⟨L,⟨O,es,ep,e,c⟩,r⟩:=x;exact #v[L,#v[O,es,ep,k _ _ (.inl rfl) e,c],r]
 |rng lo hi=>let ⟨t,u,v,e⟩:=x;exact #v[t,u,v,k _ _ (.inl rfl) e]
 |frz I u Y=>let ⟨e,q⟩:=x;exact #v[k _ _ (.inl rfl) e,Y q]
 |tbl ps =>
  have e:h.get? a=some { cls:=.none,data:=.fields ps }:=x
  show h'.get? a=some { cls:=.none,data:=.fields ps }
  exact k a _ (.inl rfl) e
 |met f y =>
  have e:h.get? a=some (Fp (.ref f) (.ref y)):=x
  show h'.get? a=some (Fp (.ref f) (.ref y))
  exact k a _ (.inl rfl) e
 |ext φ=>let ⟨p,⟨o,e⟩,st⟩:=x;exact #v[st _ _ p λo q=>k _ _ (.inl rfl) q,#v[o,k _ _ (.inl rfl) e],st]
theorem HOk.lt(x:HOk P w H h)(e:H a=some o):a<h.objs.size:=(x a o e).lt
theorem HOk.fresh(x:HOk P w H h)(e:h.objs.size<=a):H a=none:=by
 cases q:H a with
 |none=>rfl
 |some u=>exact absurd (Aw (x.lt q) e) (Cd _)
theorem HOk.kept(x:HOk P w H h)(k:∀ b u,h.get? b=some u->h'.get? b=some u):HOk P w H h':=λa o e =>
 (x a o e).stay (λb u _ q=>k b u q) (λ_ q=>q) λ_ _ q=>q
theorem HOk.laid(x:HOk P w H h)(k:∀ b u,h.get? b=some u->h'.get? b=some u)(L:h.objs.size<=a)(J:G9 P w (upd H a o) h' a o):HOk P w (upd H a o) h':=λb u e=>by
 have I:=x.fresh L
 by_cases hb:b=a
 ·subst hb;rw[aI]at e;cases e;exact J
 ·rw[aL hb]at e
  exact (x b u e).stay (λc v _ q=>k c v q) (λc q=>by rw[aL (dP q I)];exact q) λc xs q=>by rw[aL (dP q I)];exact q
end
def Rd(H:Hp)(a:Addr)(u:HO):Prop:=H a=some u\/∃ o,H a=some (.frz o u)
theorem Rd.ok(r:Rd H a u)(x:HOk P w H h):G9 P w H h a u:=by
 rcases r with r|⟨o,r⟩
 ·exact x a u r
 ·let ⟨_,q⟩:=x a _ r
  exact q
def Mut:Option HO->Prop
 |some (.lst _)=>True
 |some (.dK _)=>True
 |some (.dT _)=>True
 |some (.set _ _)=>True
 |some (.ins _ _ _)=>True
 |some (.ext _)=>True
 |_=>False
theorem HOk.write(ok:HOk P w H h)(O:Mut (H x))(V:e=x\/H e=some (.own x))(k:∀ b u,b≠e->h.get? b=some u->h'.get? b=some u)(b1:∃ u,h'.get? e=some u)
  (Y:G9 P w (upd H x o') h' x o'):HOk P w (upd H x o') h':=λb u q=>by
 have I:∀ c y,H c=some (.own y)->c≠x:=λc y r z=>by subst z;rw[r]at O;exact O
 have J:∀ c xs,H c=some (.tup xs)->c≠x:=λc xs r z=>by subst z;rw[r]at O;exact O
 by_cases hb:b=x
 ·subst hb;rw[aI]at q;cases q;exact Y
 ·rw[aL hb]at q
  by_cases hbe:b=e
  ·have S:H b=some (.own x):=by
    rcases V with z|z
    ·exact absurd (hbe.trans z) hb
    ·rw[hbe];exact z
   rw[q]at S;cases S
   let ⟨v,Z⟩:=b1
   exact #v[v,by rw[hbe];exact Z]
  ·refine (ok b u q).stay (λc v L r=>k c v ?_ r) (λc r=>by rw[aL (I c b r)];exact r) λc xs r=>by rw[aL (J c xs r)];exact r
   rcases L with rfl|L
   ·exact hbe
   ·rintro rfl
    rcases V with z|z
    ·exact I c b L z
    ·rw[L]at z;cases z;exact hb rfl
structure Un(fs ex:List Addr)(H H':Hp)(h h':Heap):Prop where
 keep:∀ b o,h.get? b=some o->H b=none->b∉fs->b∉ex->h'.get? b=some o
 slot:∀ b o,h.get? b=some o->H b=none->b∈fs->b∉ex->∃ sl,h'.get? b=some { o with slots:=sl }
 free:∀ b o,h.get? b=some o->H b=none->b∉ex->H' b=none
 there:∀ b o,h.get? b=some o->b∉ex->∃ o',h'.get? b=some o'
 tups:∀ b xs,H b=some (.tup xs)->H' b=some (.tup xs)
 frzs:∀ b o u,H b=some (.frz o u)->H' b=some (.frz o u)
 tbls:∀ b ps,H b=some (.tbl ps)->∃ more,H' b=some (.tbl (ps++more))
section
variable {fs fs' ex ex':List Addr}{H H1 H2:Hp}{h h1 h2 h':Heap}{a x e:Addr}{o:HO}
theorem Un.any(u:Un fs ex H H1 h h1){b:Addr}{I:Obj}(q:h.get? b=some I)(n:H b=none)(hx:b∉ex):∃ sl,h1.get? b=some { I with slots:=sl }:=by
 by_cases hb:b∈fs
 ·exact u.slot b I q n hb hx
 ·exact #v[I.slots,u.keep b I q n hb hx]
theorem Un.kept(k:∀ b u,h.get? b=some u->h'.get? b=some u):Un fs ex H H h h' :=
 #v[λb I q _ _ _=>k b I q,λb I q _ _ _=>#v[I.slots,k b I q],λ_ _ _ n _=>n,λb I q _=>#v[I,k b I q],λ_ _ q=>q,λ_ _ _ q=>q,λ_ ps q=>#v[#[],by rw[q];simp]]
theorem Un.refl:Un fs ex H H h h:=Un.kept λ_ _ q=>q
theorem Un.laid(k:∀ b u,h.get? b=some u->h'.get? b=some u)(J:h.objs.size<=a)(I:H a=none):Un fs ex H (upd H a o) h h' where
 keep:=λb u q _ _ _=>k b u q
 slot:=λb u q _ _ _=>#v[u.slots,k b u q]
 free:=λb u q n _=>by rw[aL (A1 (Aw (As q) J))];exact n
 there:=λb u q _=>#v[u,k b u q]
 tups:=λb xs q=>by rw[aL (dP q I)];exact q
 frzs:=λb u xs q=>by rw[aL (dP q I)];exact q
 tbls:=λb ps q=>#v[#[],by rw[aL (dP q I),q];simp]
theorem Un.write(I:Mut (H x))(O:e=x\/H e=some (.own x))(k:∀ b u,b≠e->h.get? b=some u->h'.get? b=some u)(L:∃ u,h'.get? e=some u):Un fs ex H (upd H x o) h h':=by
 have hx:∀ b,H b=none->b≠x:=λb n z=>by subst z;rw[n]at I;exact I
 have J:∀ b,H b=none->b≠e:=λb n z=>by
  subst z
  rcases O with r|r
  ·exact hx b n r
  ·rw[n]at r;cases r
 have hm:∀ b u,H b=some u->¬ Mut (some u)->b≠x:=λb u q nm z=>by subst z;rw[q]at I;exact nm I
 refine #v[λb u q n _ _=>k b u (J b n) q,λb u q n _ _=>#v[u.slots,k b u (J b n) q],λb u q n _=>by rw[aL (hx b n)];exact n,λb u q _=>?_,
  λb xs q=>by rw[aL (hm b _ q λz=>z)];exact q,λb u xs q=>by rw[aL (hm b _ q λz=>z)];exact q,λb ps q=>#v[#[],by rw[aL (hm b _ q λz=>z),q];simp]]
 by_cases hbe:b=e
 ·subst hbe;exact L
 ·exact #v[u,k b u hbe q]
end
def trk(h:Heap)(H:Hp):List Addr:=(Ca h.objs.size).filter λa=>(H a).isSome
def qT(h:Heap)(H:Hp):Heap:=PySem.W.hideAll h (trk h H)
theorem zL(h:Heap)(H:Hp):(qT h H).objs.size=h.objs.size:=PySem.W.hideAll_size _ _
theorem BO(e:h.get? b=some o)(n:H b=none):(qT h H).get? b=some o :=
 PySem.W.hideAll_get _ e λhm=>by
  have q:(H b).isSome=true:=(List.mem_filter.mp hm).2
  rw[n]at q;simp at q
theorem HQ(e:(qT h H).get? b=some o):h.get? b=some o/\H b=none:=by
 have I:h.get? b=some o:=PySem.W.of_hideAll (trk h H) e
 exists I,?_
 cases q:H b with
 |none=>rfl
 |some x =>
  have hm:b∈trk h H:=List.mem_filter.mpr #v[El.mpr (As I),by simp[q]]
  have z:(qT h H).get? b=none:=PySem.W.hideAll_none (trk h H) hm
  rw[z]at e;cases e
def HR(g h:Heap)(L:Addr):List (Addr×Obj):=(Ca h.objs.size).filterMap λa=>if a=L\/(g.get? a).isSome=true then none else (h.get? a).map λo=>(a,o)
def rest(g h:Heap)(L d:Addr):List (Addr×Obj):=(HR g h L).filter λp=>decide (p.1≠d)
structure Mod(K:Ad)(mg:Str->Option Value)(base:Heap):Prop where
 kin:K.In base
 glob:base.Ns mainGlobals mg
 blt:∃ mb,base.Ns builtinsNs mb/\∀ x:Str,x ≠ "__name__"->mb x=bootBuiltins x
 nolimit:base.NoLimit
structure Cx where
 prog:Program
 w:World
 K:Ad
 mg:Str->Option Value
 base:Heap
 A:Around
 N:List Str
 s₀:Shared
 H₀:Hp
 env:Env
 outer:List Env
 stack:List Env
 ex:List Addr
 fn:Str->Bool
 calm:Bool
 pn:List (Addr×Obj)
 xe:Value->Shared->Prop
abbrev HfX(X:Cx)(p:Pos)(e:Expr):Prop:=((backTo p (A0 [e] X.env)).all (λx=>!x.1)&&(backToKw p (keywordEach [] X.env)).all (λx=>x.1.isSome)&&decide (([e]:List Expr).length+([]:List Keyword).length+(if ([]:List Keyword).isEmpty then 0 else 1)<30))=true
abbrev NpX(X:Cx)(p:Pos):Prop:=(backTo p (A0 ([]:List Expr) X.env)).any (·.1)=false
abbrev SeX(X:Cx)(e:Expr):Prop:=A0 [e] X.env=(false,eval e X.env)::A0 [] X.env
def frs(l:List Env):List Addr:=l.filterMap (·.frame)
abbrev Cx.fs(X:Cx):List Addr:=frs X.outer
def Vis(sc:Scope)(x:Str):Prop:=sc.names.lookup x=some .local\/sc.names.lookup x=some .cell\/sc.names.lookup x=some .free
def Loc(sc:Scope)(x:Str):Prop:=sc.names.lookup x=some .local\/sc.names.lookup x=some .cell
def RA(env:Env)(h:Heap)(m:Str->Option Value)(x:Str)(u:Value):Prop :=
 (env.kindOf x=some .local/\m x=some u)\/((env.kindOf x=some .cell\/env.kindOf x=some .free)/\∃ c,env.cells.lookup x=some c/\h.IsCell c (some u))
structure Cx.Ok(X:Cx):Prop where
 mod:Mod X.K X.mg X.base
 kind:X.env.scope.kind=.function
 glob:X.env.globals=mainGlobals
 blt:X.env.builtins=builtinsNs
 above:X.s₀.heap.objs.size<=X.env.locals
 inj:∀ x y c,X.env.cells.lookup x=some c->X.env.cells.lookup y=some c->x=y
 has:∀ x,(X.env.kindOf x=some .cell\/X.env.kindOf x=some .free)->∃ c,X.env.cells.lookup x=some c
 cab:∀ x c,X.fn x=true->X.env.cells.lookup x=some c->X.s₀.heap.objs.size<=c
 hd:X.calm=true->X.A.handled=none
 frames:X.A.frames=some X.stack
 stk:X.stack=X.outer\/(X.stack=X.env::X.outer/\X.env.frame=some X.env.locals)
 exf:∀ b∈X.ex,b≠X.env.locals/\∀ x c,X.env.cells.lookup x=some c->c≠b
 bs:∀ b o,X.base.get? b=some o->X.s₀.heap.get? b=some o/\X.H₀ b=none
 bsz:X.base.objs.size<=X.s₀.heap.objs.size
 noex:∀ b o,X.base.get? b=some o->b∉X.ex
 exfs:∀ b∈X.ex,b∉X.fs
 funs:X.s₀.heap.FunFrames X.base X.outer
 frf:∀ b∈X.fs,X.H₀ b=none
structure Inv(X:Cx)(pins:List (Addr×Obj))(σ:List (Option V))(H:Hp)(s:Shared):Prop where
 ok:X.Ok
 os:s.os=X.s₀.os
 bare:AllBare s.gens
 base:Un X.fs X.ex X.H₀ H X.s₀.heap s.heap
 loc:∃ m,s.heap.Ns X.env.locals m/\∀(i:Nat) (x:Str) (v:V),X.N[i]?=some x->σ[i]?=some (some v)->Vis X.env.scope x->∃ u,G5 v u/\RA X.env s.heap m x u
 cell:∀ x c,X.env.cells.lookup x=some c->∃ v,s.heap.IsCell c v
 free:H X.env.locals=none
 freeC:∀ x c,X.env.cells.lookup x=some c->H c=none
 pin:∀ p∈X.pn++pins,s.heap.get? p.1=some p.2/\H p.1=none/\p.1≠X.env.locals/\p.1∉X.fs/\∀ v,p.2.data≠.cell v
 hok:HOk X.prog X.w H s.heap
 len:σ.length=X.N.length
section
variable {X:Cx}{pins:List (Addr×Obj)}{σ:List (Option V)}{H H':Hp}{s:Shared}{h':Heap}
theorem Cx.Ok.nofr(J:X.Ok)(e:X.base.get? b=some o):b∉X.fs:=λI=>by
 have:=(J.funs.mem I).1
 rw[e]at this;cases this
theorem Inv.bs(I:Inv X pins σ H s):∀ b o,X.base.get? b=some o->s.heap.get? b=some o/\H b=none:=λb o e =>
 #v[I.base.keep b o (I.ok.bs b o e).1 (I.ok.bs b o e).2 (I.ok.nofr e) (I.ok.noex b o e),I.base.free b o (I.ok.bs b o e).1 (I.ok.bs b o e).2 (I.ok.noex b o e)]
theorem Inv.bk(I:Inv X pins σ H s):∀ b o,X.base.get? b=some o->s.heap.get? b=some o:=λb o e=>(I.bs b o e).1
theorem Inv.mod(I:Inv X pins σ H s):Mod X.K X.mg X.base:=I.ok.mod
theorem Inv.kIn(I:Inv X pins σ H s):X.K.In s.heap:=I.ok.mod.kin.keeps I.bk
theorem Inv.lt(I:Inv X pins σ H s):X.env.locals<s.heap.objs.size:=let ⟨_,hn,_⟩:=I.loc;hn.lt
theorem Inv.sz(I:Inv X pins σ H s):X.s₀.heap.objs.size<=s.heap.objs.size:=Ay I.ok.above (Em I.lt)
theorem Inv.nofs(I:Inv X pins σ H s){a:Addr}(h:s.heap.objs.size<=a):a∉X.fs:=λL=>by
 let ⟨_,o,J,_⟩:=I.ok.funs.mem L
 exact absurd (Aw (As J) (Ay I.sz h)) (Cd _)
theorem Inv.cne(I:Inv X pins σ H s):∀ x c,X.env.cells.lookup x=some c->c≠X.env.locals:=λx c e z=>by
 let ⟨v,o,O,hd⟩:=I.cell x c e
 let ⟨m,⟨S,es,ep,J,L,_⟩,_⟩:=I.loc
 rw[z,J]at O;cases O;rw[L]at hd;cases hd
theorem Inv.funs(I:Inv X pins σ H s):s.heap.FunFrames X.base X.outer:=by
 have all:∀(l:List Env),(∀ b∈frs l,b∈X.fs)->X.s₀.heap.FunFrames X.base l->s.heap.FunFrames X.base l:=by
  intro l
  induction l with
  |nil=>intro _ _;trivial
  |cons env r Y =>
   intro hs hl
   let ⟨hk,⟨L,o,hf,V,S,hd⟩,hr⟩:=hl
   have J:L∈X.fs:=hs L (by unfold frs;rw[Ea,hf];exact Aj)
   let ⟨Z,e⟩:=I.base.slot L o S (I.ok.frf L J) J λz=>I.ok.exfs L z J
   exact #v[hk,#v[L,_,hf,V,e,hd],Y (λb O=>hs b (by unfold frs;rw[Ea,hf];exact Ak _ O)) hr]
 exact all X.outer (λ_ O=>O) I.ok.funs
theorem Inv.stack(I:Inv X pins σ H s):s.heap.FunFrames X.base X.stack:=by
 rcases I.ok.stk with e|⟨e,hf⟩
 ·rw[e];exact I.funs
 ·rw[e]
  let ⟨m,J,_⟩:=I.loc
  refine .cons (by rw[I.ok.kind];decide) hf J ?_ I.funs
  exact E1 (Ay I.ok.bsz I.ok.above)
theorem Inv.stkSub(I:Inv X pins σ H s):∀ b∈frs X.stack,b∈X.env.locals::X.fs:=λb J=>by
 rcases I.ok.stk with e|⟨e,hf⟩
 ·rw[e]at J;exact Ak _ J
 ·rw[e]at J
  unfold frs at J
  rw[Ea,hf]at J
  exact J
theorem Inv.stkFree(I:Inv X pins σ H s):∀ b∈frs X.stack,H b=none:=λb J=>by
 rcases Am.mp (I.stkSub b J) with e|J
 ·rw[e];exact I.free
 ·let ⟨_,o,L,_⟩:=I.ok.funs.mem J
  exact I.base.free b o L (I.ok.frf b J) λz=>I.ok.exfs b z J
theorem Inv.step{g':Array GenState}{t':Nat}{d':Drawn}{ch:List Addr}(I:Inv X pins σ H s)
  (S:∀ b∈ch,(b∈X.ex\/X.s₀.heap.objs.size<=b)/\b≠X.env.locals/\(∀ x c,X.env.cells.lookup x=some c->c≠b)/\∀ p∈X.pn++pins,p.1≠b)
  (keep:∀ b o,b≠X.env.locals->b∉X.fs->b∉ch->s.heap.get? b=some o->H b=none->h'.get? b=some o)
  (slot:∀ b o,b≠X.env.locals->b∈X.fs->b∉ch->s.heap.get? b=some o->H b=none->∃ sl,h'.get? b=some { o with slots:=sl })(free:∀ b o,b∉ch->s.heap.get? b=some o->H b=none->H' b=none)
  (there:∀ b o,b∉ch->s.heap.get? b=some o->∃ o',h'.get? b=some o')
  (tups:∀ b xs,H b=some (.tup xs)->H' b=some (.tup xs))(frzs:∀ b o u,H b=some (.frz o u)->H' b=some (.frz o u))(tbls:∀ b ps,H b=some (.tbl ps)->∃ more,H' b=some (.tbl (ps++more)))
  (ns:∀ m,s.heap.Ns X.env.locals m->h'.Ns X.env.locals m)(hok:HOk X.prog X.w H' h')(hg:AllBare g') :
  Inv X pins σ H' { s with heap:=h',gens:=g',drawn:=d',toks:=t' }:=by
 have Z:∀ b o,X.s₀.heap.get? b=some o->b≠X.env.locals:=λb o e=>A1 (Aw (As e) I.ok.above)
 have O:∀ b o,X.s₀.heap.get? b=some o->b∉X.ex->b∉ch:=λb o e hx V=>by
  rcases (S b V).1 with z|z
  ·exact hx z
  ·exact absurd (Aw (As e) z) (Cd _)
 have J:∀ x c,X.env.cells.lookup x=some c->∀ v,s.heap.IsCell c v->h'.IsCell c v:=λx c e v ⟨o,Y,hd⟩=>by
  have L:c∉ch:=λz=>(S c z).2.2.1 x c e rfl
  by_cases hc:c∈X.fs
  ·let ⟨sl,q⟩:=slot c o (I.cne x c e) hc L Y (I.freeC x c e)
   exact #v[_,q,hd]
  ·exact #v[o,keep c o (I.cne x c e) hc L Y (I.freeC x c e),hd]
 exists I.ok,I.os,hg,#v[λb o e n V hx=>?_,λb o e n V hx=>?_,λb o e n hx=>?_,λb o e hx=>?_,λb xs e=>tups b xs (I.base.tups b xs e),λb o xs e=>frzs b o xs (I.base.frzs b o xs e),λb ps e=>?_],?_,λx c e=>?_,?_,λx c e=>?_,λp hp=>?_,hok,I.len
 ·exact keep b o (Z b o e) V (O b o e hx) (I.base.keep b o e n V hx) (I.base.free b o e n hx)
 ·let ⟨sl,e1⟩:=I.base.slot b o e n V hx
  let ⟨b1,e2⟩:=slot b _ (Z b o e) V (O b o e hx) e1 (I.base.free b o e n hx)
  exact #v[b1,e2]
 ·let ⟨o',e1⟩:=I.base.there b o e hx
  exact free b o' (O b o e hx) e1 (I.base.free b o e n hx)
 ·let ⟨o',e1⟩:=I.base.there b o e hx
  exact there b o' (O b o e hx) e1
 ·let ⟨m1,e1⟩:=I.base.tbls b ps e
  let ⟨m2,e2⟩:=tbls b _ e1
  exact #v[m1++m2,by rw[e2,Array.append_assoc]]
 ·let ⟨m,hn,hl⟩:=I.loc
  exists m,ns m hn,λi x v e1 e2 e3=>?_
  let ⟨u,r,l⟩:=hl i x v e1 e2 e3
  exists u,r,?_
  rcases l with l|⟨k,c,e,z⟩
  ·exact .inl l
  ·exact .inr #v[k,c,e,J x c e _ z]
 ·let ⟨v,z⟩:=I.cell x c e
  exact #v[v,J x c e v z]
 ·let ⟨m,⟨o,_,_,Y,_⟩,_⟩:=I.loc
  exact free _ o (λz=>(S _ z).2.1 rfl) Y I.free
 ·let ⟨v,o,Y,hd⟩:=I.cell x c e
  exact free c o (λz=>(S c z).2.2.1 x c e rfl) Y (I.freeC x c e)
 ·let ⟨e,n,ne,nf,d⟩:=I.pin p hp
  have L:p.1∉ch:=λz=>(S p.1 z).2.2.2 p hp rfl
  exact #v[keep p.1 p.2 ne nf L e n,free p.1 p.2 L e n,ne,nf,d]
theorem Inv.un(I:Inv X pins σ H s)(u:Un X.fs [] H H' s.heap h')(hok:HOk X.prog X.w H' h'):Inv X pins σ H' { s with heap:=h',toks:=t' }:=by
 let ⟨m,⟨o,es,ep,V,r⟩,_⟩:=id I.loc
 let ⟨sl,Y⟩:=u.any V I.free (by simp)
 exact I.step (g':=s.gens) (d':=s.drawn) (ch:=[]) (λ_ z=>nomatch z) (λb o _ O _ e n=>u.keep b o e n O (by simp)) (λb o _ O _ e n=>u.slot b o e n O (by simp)) (λb o _ e n=>u.free b o e n (by simp)) (λb o _ e=>u.there b o e (by simp)) u.tups u.frzs u.tbls (λm' hm=>by
  let ⟨o',S,L,J,Z⟩:=hm
  rw[V]at J;cases J
  exact #v[_,S,L,Y,Z]) hok I.bare
theorem Inv.call(I:Inv X pins σ H s)(u:Un (frs X.stack) ch H H' s.heap h')(hok:HOk X.prog X.w H' h')(hg:AllBare g')
  (Y:∀ b∈ch,(b∈X.ex\/X.s₀.heap.objs.size<=b)/\b≠X.env.locals/\(∀ x c,X.env.cells.lookup x=some c->c≠b)/\∀ p∈X.pn++pins,p.1≠b) :
  Inv X pins σ H' { s with heap:=h',gens:=g',drawn:=d',toks:=t' }:=by
 let ⟨m,⟨o,es,ep,Z,r⟩,_⟩:=id I.loc
 let ⟨sl,O⟩:=u.any Z I.free λz=>(Y _ z).2.1 rfl
 exact I.step (ch:=ch) Y (λb o O hb J e n=>u.keep b o e n (λz=>(Am.mp (I.stkSub b z)).elim O hb) J) (λb o _ _ J e n=>u.any e n J) (λb o J e n=>u.free b o e n J) (λb o J e=>u.there b o e J) u.tups u.frzs u.tbls (λm' hm=>by
  let ⟨o',V,S,L,r'⟩:=hm
  rw[Z]at L;cases L
  exact #v[_,V,S,O,r']) hok hg
theorem Inv.turned(I:Inv X pins σ H s)(k:∀ b o,b≠it->s.heap.get? b=some o->h'.get? b=some o)(Z:H it=none)(S:it≠X.env.locals)
  (h1:it∈X.ex\/X.s₀.heap.objs.size<=it)(h2:∀ x c,X.env.cells.lookup x=some c->c≠it)(Y:∀ p∈X.pn++pins,p.1≠it):Inv X pins σ H { s with heap:=h',toks:=t' }:=by
 have L:∀ b u,H b=some u->b≠it:=λb u e z=>by rw[z,Z]at e;cases e
 refine I.step (g':=s.gens) (d':=s.drawn) (ch:=[it]) (λb V=>?_) (λb o _ _ J e _=>k b o (λz=>J (by simp[z])) e) (λb o _ _ J e _=>#v[o.slots,k b o (λz=>J (by simp[z])) e]) (λ_ _ _ _ n=>n)
  (λb o J e=>#v[o,k b o (λz=>J (by simp[z])) e]) (λ_ _ e=>e) (λ_ _ _ e=>e) (λb ps e=>#v[#[],by rw[e];simp]) (λm hm=>?_) (λb u e=>?_) I.bare
 ·have e:b=it:=by simpa using V
  subst e
  exact #v[h1,S,h2,Y]
 ·let ⟨o,es,ep,O,r⟩:=hm
  exact #v[o,es,ep,k _ o (Ne.symm S) O,r]
 ·refine (I.hok b u e).stay (λc v J q=>k c v ?_ q) (λ_ q=>q) λ_ _ q=>q
  rcases J with z|z
  ·rw[z];exact L b u e
  ·exact L c _ z
theorem Inv.tok(I:Inv X pins σ H s)(t:Nat):Inv X pins σ H { s with toks:=t }:=I.un (h':=s.heap) (t':=t) Un.refl I.hok
theorem Inv.kept(I:Inv X pins σ H s)(k:∀ b u,s.heap.get? b=some u->h'.get? b=some u):Inv X pins σ H { s with heap:=h',toks:=t' }:=I.un (Un.kept k) (I.hok.kept k)
theorem Inv.laid{a:Addr}{o:HO}{t':Nat}(I:Inv X pins σ H s)(k:∀ b u,s.heap.get? b=some u->h'.get? b=some u)(J:s.heap.objs.size<=a)(L:G9 X.prog X.w (upd H a o) h' a o) :
  Inv X pins σ (upd H a o) { s with heap:=h',toks:=t' }:=I.un (Un.laid k J (I.hok.fresh J)) (I.hok.laid k J L)
theorem Inv.write(I:Inv X pins σ H s)(S:Mut (H x))(L:e=x\/H e=some (.own x))(k:∀ b u,b≠e->s.heap.get? b=some u->h'.get? b=some u)(J:∃ u,h'.get? e=some u)
  (O:G9 X.prog X.w (upd H x o) h' x o):Inv X pins σ (upd H x o) { s with heap:=h',toks:=t' }:=I.un (Un.write S L k J) (I.hok.write S L k J O)
theorem Inv.pins_of(I:Inv X pins σ H s)(h:∀ p∈pins',s.heap.get? p.1=some p.2/\H p.1=none/\p.1≠X.env.locals/\p.1∉X.fs/\∀ v,p.2.data≠.cell v):Inv X pins' σ H s :=
 #v[I.ok,I.os,I.bare,I.base,I.loc,I.cell,I.free,I.freeC,λp J=>(Aq.mp J).elim (λz=>I.pin p (Bk _ z)) (h p),I.hok,I.len]
theorem mR{N:List Str}(hN:N.Nodup){i j:Nat}{x:Str}(a:N[i]?=some x)(b:N[j]?=some x):i=j:=by
 let ⟨h1,e1⟩:=Ax.mp a
 let ⟨h2,e2⟩:=Ax.mp b
 exact (List.getElem_inj hN).mp (e1.trans e2.symm)
theorem zM(I:Inv X pins σ H s)(hN:X.N.Nodup)(Y:X.N[i]?=some x)(hx:Loc X.env.scope x)(r:G5 v u)
  (h:∀ s',Inv X pins (σ.set i (some v)) H s'->(∃ a,Heap.SameBut a s.heap s'.heap/\(a=X.env.locals\/X.env.cells.lookup x=some a))->Q () s')(hf:X.fn x=true\/X.env.scope.names.lookup x=some .local:=by first|exact .inl rfl|exact .inr rfl|assumption):wpAny M A (storeName X.env x u) Q E s:=by
 let ⟨m,hn,hl⟩:=id I.loc
 have b2:(X.env.scope.kind == .class||(X.env.scope.kind == .module&&X.env.locals != X.env.globals))=false:=by rw[I.ok.kind];rfl
 have Yσ:i<σ.length:=by rw[I.len];exact (Ax.mp Y).1
 have cne:=I.cne
 have J:∀{a:Addr} {h':Heap},(∃ o,s.heap.get? a=some o/\H a=none)->Heap.SameBut a s.heap h'->HOk X.prog X.w H h':=λ{a h'} ha hs b ob e=>by
  let ⟨_,_,O⟩:=ha
  refine (I.hok b ob e).stay (λc w' L q=>(hs.2 c ?_).trans q) (λ_ q=>q) λ_ _ q=>q
  rintro rfl
  rcases L with rfl|L
  ·rw[O]at e;cases e
  ·rw[O]at L;cases L
 rcases hx with hk|hk
 ·refine wpAny_storeName_local hk hn (λh' b5 hs=>?_) b2
  let ⟨oL,_,_,b4,_⟩:=id hn
  refine h _ #v[I.ok,I.os,I.bare,#v[λb o e n S hx=>?_,λb o e n S hx=>?_,I.base.free,λb o e hx=>?_,I.base.tups,I.base.frzs,I.base.tbls],#v[_,b5,λj y v' e1 e2 e3=>?_],λy c e=>?_,I.free,I.freeC,λp hp=>?_,J #v[oL,b4,I.free] hs,by simpa using I.len] #v[_,hs,.inl rfl]
  ·exact (hs.2 b (A1 (Aw (As e) I.ok.above))).trans (I.base.keep b o e n S hx)
  ·let ⟨sl,e1⟩:=I.base.slot b o e n S hx
   exact #v[sl,(hs.2 b (A1 (Aw (As e) I.ok.above))).trans e1]
  ·let ⟨o',e1⟩:=I.base.there b o e hx
   exact #v[o',(hs.2 b (A1 (Aw (As e) I.ok.above))).trans e1]
  ·by_cases hj:j=i
   ·subst hj
    rw[Y]at e1;cases e1
    rw[Da Yσ]at e2
    cases e2
    exact #v[u,r,.inl #v[hk,by simp]]
   ·rw[C2 (Ne.symm hj)]at e2
    let ⟨u',r',q⟩:=hl j y v' e1 e2 e3
    exists u',r',?_
    rcases q with ⟨k,e⟩|⟨k,c,e,z⟩
    ·refine .inl #v[k,?_]
     have:y≠x:=λe=>hj (mR hN e1 (e▸Y))
     simp[this,e]
    ·exact .inr #v[k,c,e,z.sameBut hs (cne y c e)]
  ·let ⟨w',z⟩:=I.cell y c e
   exact #v[w',z.sameBut hs (cne y c e)]
  ·let ⟨e,n,ne,nf,d⟩:=I.pin p hp
   exact #v[(hs.2 p.1 ne).trans e,n,ne,nf,d]
 ·have V:X.fn x=true:=by
   rcases hf with z|z
   ·exact z
   ·rw[z]at hk;cases hk
  let ⟨c,L⟩:=I.ok.has x (.inl hk)
  let ⟨w',z⟩:=I.cell x c L
  refine wpAny_storeName_cell I.ok.kind hk L z (λh' b1 hs=>?_)
  let ⟨oc,Z,b3⟩:=id z
  refine h { s with heap:=h' } #v[I.ok,I.os,I.bare,#v[λb o e n S hx=>?_,λb o e n S hx=>?_,I.base.free,λb o e hx=>?_,I.base.tups,I.base.frzs,I.base.tbls],#v[m,hn.sameBut hs (Ne.symm (cne x c L)),λj y v' e1 e2 e3=>?_],λy c' e=>?_,I.free,I.freeC,λp hp=>?_,J #v[oc,Z,I.freeC x c L] hs,by simpa using I.len] #v[c,hs,.inr L]
  ·exact (hs.2 b (A1 (Aw (As e) (I.ok.cab x c V L)))).trans (I.base.keep b o e n S hx)
  ·let ⟨sl,e1⟩:=I.base.slot b o e n S hx
   exact #v[sl,(hs.2 b (A1 (Aw (As e) (I.ok.cab x c V L)))).trans e1]
  ·let ⟨o',e1⟩:=I.base.there b o e hx
   exact #v[o',(hs.2 b (A1 (Aw (As e) (I.ok.cab x c V L)))).trans e1]
  ·by_cases hj:j=i
   ·subst hj
    rw[Y]at e1;cases e1
    rw[Da Yσ]at e2
    cases e2
    exact #v[u,r,.inr #v[.inl hk,c,L,b1]]
   ·rw[C2 (Ne.symm hj)]at e2
    let ⟨u',r',q⟩:=hl j y v' e1 e2 e3
    exists u',r',?_
    rcases q with q|⟨k,c',e,z'⟩
    ·exact .inl q
    ·refine .inr #v[k,c',e,z'.sameBut hs ?_]
     rintro rfl
     exact hj (mR hN e1 (I.ok.inj _ _ _ e L▸Y))
  ·by_cases hcc:c'=c
   ·subst hcc;exact #v[_,b1]
   ·let ⟨w2,z2⟩:=I.cell y c' e
    exact #v[w2,z2.sameBut hs hcc]
  ·let ⟨e,n,ne,nf,d⟩:=I.pin p hp
   exists (hs.2 p.1 ?_).trans e,n,ne,nf,d
   intro q
   rw[q,Z]at e
   have q':oc=p.2:=B3.inj e
   exact d w' (by rw[<- q'];exact b3)
theorem jF(I:Inv X pins σ H s)(hN:X.N.Nodup)(L:X.N[i]?=some x)(hx:Loc X.env.scope x)(r:G5 v u)
  (h:∀ s',Inv X pins (σ.set i (some v)) H s'->Q () s')(hf:X.fn x=true\/X.env.scope.names.lookup x=some .local:=by first|exact .inl rfl|exact .inr rfl|assumption):wpAny M A (storeName X.env x u) Q E s :=
 zM I hN L hx r (λs' J _=>h s' J) hf
theorem Inv.call'(I:Inv X pins σ H s)(O:s'.os=s.os)(u:Un (frs X.stack) ch H H' s.heap s'.heap)(hok:HOk X.prog X.w H' s'.heap)(hg:AllBare s'.gens)
  (L:∀ b∈ch,(b∈X.ex\/X.s₀.heap.objs.size<=b)/\b≠X.env.locals/\(∀ x c,X.env.cells.lookup x=some c->c≠b)/\∀ p∈X.pn++pins,p.1≠b):Inv X pins σ H' s':=by
 let ⟨h',g',d',t',J⟩:=s'
 have e:J=s.os:=O
 subst e
 exact I.call (g':=g') (t':=t') (d':=d') u hok hg L
end
abbrev XK:=Value->Option Addr->Hp->Prop
abbrev St:=List (Option V)
abbrev VK:=V->Hp->Prop
abbrev TE:=St->Hp->VK->Prop
abbrev TT:=St->Hp->(Bool->Hp->Prop)->Prop
abbrev TA:=St->Hp->(List V->Hp->Prop)->Prop
structure Ends where
 nx:St->Hp->Prop
 rt:VK
 bk:St->Hp->Prop:=λ_ _=>False
 ct:St->Hp->Prop:=λ_ _=>False
abbrev TS:=Ends->St->Hp->Prop
def EP(X:Cx)(pins:List (Addr×Obj))(σ:St)(Q:VK)(u:Value)(s':Shared):Prop:=∃ v H',Inv X pins σ H' s'/\G5 v u/\Q v H'
def TP(X:Cx)(pins:List (Addr×Obj))(σ:St)(Q:Bool->Hp->Prop)(b:Bool)(s':Shared):Prop:=∃ H',Inv X pins σ H' s'/\Q b H'
def AP(X:Cx)(pins:List (Addr×Obj))(σ:St)(Q:List V->Hp->Prop)(us:List Value)(s':Shared):Prop:=∃ vs H',Inv X pins σ H' s'/\Vals vs us/\Q vs H'
def SP(X:Cx)(pins:List (Addr×Obj))(D:Ends)(f:Flow)(s':Shared):Prop :=
 match f with
 |.next=>∃ σ' H',Inv X pins σ' H' s'/\D.nx σ' H'
 |.brk=>∃ σ' H',Inv X pins σ' H' s'/\D.bk σ' H'
 |.cont=>∃ σ' H',Inv X pins σ' H' s'/\D.ct σ' H'
 |.ret u=>∃ v σ' H',Inv X pins σ' H' s'/\G5 v u/\D.rt v H'
def PE(X:Cx)(e:Expr)(t:TE):Prop :=
 ∀(pins:List (Addr×Obj)) (s:Shared) (σ:St) (H:Hp) (Q:VK),Inv X pins σ H s->t σ H Q->wpAny (model X.prog X.w) X.A (eval e X.env) (EP X pins σ Q) X.xe s
def PA(X:Cx)(es:List Expr)(t:TA):Prop :=
 ∀(pos:Pos) (pins:List (Addr×Obj)) (s:Shared) (σ:St) (H:Hp) (Q:List V->Hp->Prop),Inv X pins σ H s->t σ H Q->wpAny (model X.prog X.w) X.A (spliced (backTo pos (A0 es X.env))) (AP X pins σ Q) X.xe s
def PSs(X:Cx)(st:List Stmt)(t:TS):Prop :=
 ∀(pins:List (Addr×Obj)) (s:Shared) (σ:St) (H:Hp) (D:Ends),Inv X pins σ H s->t D σ H->wpAny (model X.prog X.w) X.A (execs st X.env) (SP X pins D) X.xe s
theorem thn{α:Type}{t:Sem α}{Q J:α->Shared->Prop}{M:Model}{A:Around}{E:Value->Shared->Prop}{s:Shared}(h:wpAny M A t Q E s)(I:∀ a s,Q a s->J a s):wpAny M A t J E s:=Cz h I λ_ _ x=>x
section
variable {X:Cx}
def VF(i:Nat):TE:=λσ H Q=>∃ v,σ[i]?=some (some v)/\Q v H
def tC(v:V):TE:=λ_ H Q=>Q v H
theorem MN{i:Nat}{x:Str}{pos:Pos}(hN:X.N[i]?=some x)(Y:Vis X.env.scope x)(hd:(x == ("__debug__":Str))=false:=by decide)(hcd:(x == ("__classdict__":Str))=false:=by decide):PE X (.Name x pos) (VF i):=by
 intro O s σ H Q I h
 let ⟨v,e,h⟩:=h
 let ⟨m,V,hl⟩:=I.loc
 let ⟨u,r,l⟩:=hl i x v hN e Y
 have L:EP X O σ Q u s:=#v[v,H,I,r,h]
 rcases l with ⟨hk,hm⟩|⟨hk,c,S,J⟩
 ·exact wpAny_Name (wpAny_loadName_local I.ok.kind hk V hm L) hd
 ·rcases hk with hk|hk
  ·exact wpAny_Name (wpAny_loadName_cell I.ok.kind hk S J L) hd
  ·exact wpAny_Name (wpAny_loadName_free I.ok.kind hk S J L hcd) hd
theorem MP{i j pos}:PE X (.Constant (.int i) j pos) (tC (.int i)):=λ_ _ _ H _ I h=>wpAny_Constant_int #v[.int i,H,I.tok _,#v[_,rfl],h]
theorem RB{b j pos}:PE X (.Constant (.bool b) j pos) (tC (.bl b)):=λ_ _ _ H _ I h=>Constant_bool #v[.bl b,H,I,rfl,h]
theorem MQ{j pos}:PE X (.Constant .none j pos) (tC .non):=λ_ _ _ H _ I h=>Constant_none #v[.non,H,I,rfl,h]
theorem MR{x j pos}:PE X (.Constant (.str x) j pos) (tC (.str x)):=λ_ _ _ H _ I h=>Calls.Constant_str #v[.str x,H,I.tok _,#v[_,rfl],h]
def Gl(X:Cx)(x:Str):Prop:=X.env.kindOf x=some .globalImplicit
theorem hJ{E:Value->Shared->Prop}{pins:List (Addr×Obj)}{s:Shared}{σ:St}{H:Hp}{x:Str}{u:Value}{pos:Pos}{Q:Value->Shared->Prop}(I:Inv X pins σ H s)(hg:Gl X x)(hm:X.mg x=some u)(h:Q u s)
  (hd:(x == ("__debug__":Str))=false:=by decide):wpAny (model X.prog X.w) X.A (eval (.Name x pos) X.env) Q E s :=
 Calls.Name_function_global I.ok.kind hg (Calls.loadGlobal_global (by rw[I.ok.glob];exact I.mod.glob.keeps I.bk) hm h) hd
theorem fW{E:Value->Shared->Prop}{pins:List (Addr×Obj)}{s:Shared}{σ:St}{H:Hp}{x:Str}{u:Value}{pos:Pos}{Q:Value->Shared->Prop}(I:Inv X pins σ H s)(hg:Gl X x)(hm:X.mg x=none)(L:bootBuiltins x=some u)(h:Q u s)
  (hn:x ≠ "__name__":= by decide)(hd:(x == ("__debug__":Str))=false:=by decide):wpAny (model X.prog X.w) X.A (eval (.Name x pos) X.env) Q E s:=by
 let ⟨J,h1,h2⟩:=I.mod.blt
 exact Calls.Name_function_global I.ok.kind hg (Calls.loadGlobal_builtin (by rw[I.ok.glob];exact I.mod.glob.keeps I.bk) hm (by rw[I.ok.blt];exact h1.keeps I.bk) ((h2 x hn).trans L) h) hd
theorem mD(hg:Gl X x)(hm:X.mg x=some u)(r:G5 v u)(hd:(x == ("__debug__":Str))=false:=by decide):PE X (.Name x pos) (tC v) :=
 λ_ _ _ H _ I h=>hJ I hg hm #v[v,H,I,r,h] hd
theorem HS{x:Str}{v:V}{u:Value}{pos:Pos}(hg:Gl X x)(hm:X.mg x=none)(J:bootBuiltins x=some u)(r:G5 v u)(hn:x ≠ "__name__":= by decide)(hd:(x == ("__debug__":Str))=false:=by decide):PE X (.Name x pos) (tC v) :=
 λ_ _ _ H _ I h=>fW I hg hm J #v[v,H,I,r,h] hn hd
end
def SqL(K:Ad)(H:Hp)(a:Addr)(xs:List V):Prop :=
 Rd H a (.lst xs) \/
  ∃(o:Obj) (its:Array Value) (n:Nat),K.lookup a=some o/\o.cls=.type "list"/\o.dict=none/\o.data=.seq its n/\its.size<=An/\Vals xs its.toList
def SqT(K:Ad)(H:Hp)(a:Addr)(xs:List V):Prop :=
 Rd H a (.tup xs) \/
  ∃(o:Obj) (its:Array Value) (n:Nat),K.lookup a=some o/\o.cls=.type "tuple"/\o.data=.seq its n/\its.size<=An/\Vals xs its.toList
def VG:Value->Option V
 |.none=>some .non
 |.bool b=>some (.bl b)
 |.int i _=>some (.int i)
 |.str x _=>some (.str x)
 |.bytes b _=>some (.byt b)
 |.float b _=>some (.flt b)
 |.ref a=>some (.ref a)
 |.type n=>some (.ty n)
 |_=>none
theorem G5.abs(r:G5 x u):VG u=some x:=by
 cases x with
 |non=>cases r;rfl
 |bl _=>cases r;rfl
 |int _=>let ⟨t,rfl⟩:=r;rfl
 |str _=>let ⟨t,rfl⟩:=r;rfl
 |byt _=>let ⟨t,rfl⟩:=r;rfl
 |flt _=>let ⟨t,rfl⟩:=r;rfl
 |ref _=>cases r;rfl
 |ty _=>cases r;rfl
theorem G5.inj{x y:V}{u:Value}(r:G5 x u)(q:G5 y u):x=y:=B3.inj (r.abs.symm.trans q.abs)
theorem Vals.inj:∀{xs ys:List V} {us:List Value},Vals xs us->Vals ys us->xs=ys
 |_,_,_,.nil,.nil=>rfl
 |_,_,_,.cons r t,.cons r' t'=>by rw[r.inj r',Vals.inj t t']
section
variable {X:Cx}{pins:List (Addr×Obj)}{σ:St}{H:Hp}{s:Shared}{a:Addr}{xs ys:List V}
theorem SqL.of{K:Ad}(h:H a=some (.lst xs)):SqL K H a xs:=.inl (.inl h)
theorem SqT.of{K:Ad}(h:H a=some (.tup xs)):SqT K H a xs:=.inl (.inl h)
theorem Inv.list(I:Inv X pins σ H s)(h:SqL X.K H a xs):∃ its:List Value,Vals xs its/\PlainL s.heap a its.toArray/\xs.length<=An:=by
 rcases h with h|⟨o,its,n,hk,J,hd,hs,L,r⟩
 ·let ⟨z,its,n,r,e⟩:=h.ok I.hok
  exact #v[its,r,#v[_,n,e,rfl,rfl,rfl],z]
 ·exists its.toList,r,#v[o,n,I.kIn a o hk,J,hd,by simpa using hs],?_
  have e:=r.length
  simp only[C6]at e
  lia
theorem Inv.tuple(I:Inv X pins σ H s)(h:SqT X.K H a xs):∃ its:List Value,Vals xs its/\IsTup s.heap a its.toArray/\xs.length<=An:=by
 rcases h with h|⟨o,its,n,hk,J,hs,L,r⟩
 ·let ⟨z,its,r,p⟩:=h.ok I.hok
  exact #v[its,r,p,z.1]
 ·exists its.toList,r,#v[o,I.kIn a o hk,J,n,by simpa using hs],?_
  have e:=r.length
  simp only[C6]at e
  lia
theorem Inv.list_inj(I:Inv X pins σ H s)(h:SqL X.K H a xs)(h':SqL X.K H a ys):xs=ys:=by
 let ⟨J,r,⟨o,n,e,_,_,d⟩,_⟩:=I.list h
 let ⟨its',O,⟨V,S,L,_,_,d'⟩,_⟩:=I.list h'
 rw[e]at L;cases L
 rw[d]at d'
 injection d' with d1 _
 have:J=its':=by simpa using congrArg Fx d1
 subst this
 exact r.inj O
theorem Inv.tuple_inj(I:Inv X pins σ H s)(h:SqT X.K H a xs)(h':SqT X.K H a ys):xs=ys:=by
 let ⟨J,r,⟨o,e,_,n,d⟩,_⟩:=I.tuple h
 let ⟨its',O,⟨V,L,_,S,d'⟩,_⟩:=I.tuple h'
 rw[e]at L;cases L
 rw[d]at d'
 injection d' with d1 _
 have:J=its':=by simpa using congrArg Fx d1
 subst this
 exact r.inj O
end
abbrev Cx.wish(X:Cx)(E:Value->Shared->Prop):Cx:={ X with xe:=E }
abbrev Cx.nox(X:Cx):Cx:=X.wish λ_ _=>False
theorem Cx.Ok.wish{X:Cx}(I:X.Ok)(E:Value->Shared->Prop):(X.wish E).Ok :=
 #v[I.mod,I.kind,I.glob,I.blt,I.above,I.inj,I.has,I.cab,I.hd,I.frames,I.stk,I.exf,I.bs,I.bsz,I.noex,I.exfs,I.funs,I.frf]
theorem Cx.Ok.unwish{X:Cx}(I:(X.wish E).Ok):X.Ok :=
 #v[I.mod,I.kind,I.glob,I.blt,I.above,I.inj,I.has,I.cab,I.hd,I.frames,I.stk,I.exf,I.bs,I.bsz,I.noex,I.exfs,I.funs,I.frf]
section
variable {X:Cx}{pins:List (Addr×Obj)}{σ:St}{H:Hp}{s:Shared}{E:Value->Shared->Prop}
theorem Inv.wish(I:Inv X pins σ H s)(E:Value->Shared->Prop):Inv (X.wish E) pins σ H s:=#v[I.ok.wish E,I.os,I.bare,I.base,I.loc,I.cell,I.free,I.freeC,I.pin,I.hok,I.len]
theorem Inv.unwish(I:Inv (X.wish E) pins σ H s):Inv X pins σ H s:=#v[I.ok.unwish,I.os,I.bare,I.base,I.loc,I.cell,I.free,I.freeC,I.pin,I.hok,I.len]
theorem SP.unwish(h:SP (X.wish E) pins D f s'):SP X pins D f s':=by
 cases f with
 |next=>let ⟨σ',H',I,q⟩:=h;exact #v[σ',H',I.unwish,q]
 |brk=>let ⟨σ',H',I,q⟩:=h;exact #v[σ',H',I.unwish,q]
 |cont=>let ⟨σ',H',I,q⟩:=h;exact #v[σ',H',I.unwish,q]
 |ret u=>let ⟨v,σ',H',I,r,q⟩:=h;exact #v[v,σ',H',I.unwish,r,q]
theorem PSs.nox{st:List Stmt}{t:TS}(h:PSs X.nox st t):PSs X st t:=λpins s σ H D I hw =>
 Cz (h pins s σ H D (I.wish _) hw) (λ_ _ q=>q.unwish) λ_ _ z=>False.elim z
end
section
variable {X:Cx}{st:Stmt}{rest:List Stmt}{t u:TS}{e:Expr}{te:TE}{pos:Pos}
theorem Inv.quiet{pins:List (Addr×Obj)}{σ:St}{H:Hp}{s:Shared}(I:Inv X pins σ H s):interactive X.env=false:=by simp[interactive,I.ok.kind]
end
abbrev VH:=V->V->V->Hp->(Hp->Prop)->Prop
def VI(X:Cx)(t:VH):Prop :=
 ∀(pins:List (Addr×Obj)) (s:Shared) (σ:St) (H:Hp) (o i v:V) (ov iv u:Value) (Q:Hp->Prop),Inv X pins σ H s->G5 o ov->G5 i iv->G5 v u->t o i v H Q ->
  wpAny (model X.prog X.w) X.A (setItem ov iv u) (λ_ s'=>∃ H',Inv X pins σ H' s'/\Q H') X.xe s
structure It where
 go:Nat->Hp->Prop
 yld:Nat->Hp->V->Hp->Prop
 stop:Nat->Hp->Prop
def kM(X:Cx)(pins:List (Addr×Obj))(H:Hp)(b:Addr):Prop :=
 H b=none/\b≠X.env.locals/\b∉X.fs/\(b∈X.ex\/X.s₀.heap.objs.size<=b)/\(∀ x c,X.env.cells.lookup x=some c->c≠b)/\∀ p∈X.pn++pins,p.1≠b
theorem Inv.fpOk{X:Cx}{pins:List (Addr×Obj)}{σ:St}{H H':Hp}{s:Shared}{b:Addr}(I:Inv X pins σ H s)(J:s.heap.objs.size<=b)(O:H' b=none):kM X pins H' b:=by
 exists O,Ds (Aw I.lt J),I.nofs J,.inr (Ay I.sz J),λx c e z=>?_,λp L z=>?_
 ·let ⟨v,q⟩:=I.cell x c e
  exact absurd (Aw q.lt (by rw[z];exact J)) (Cd _)
 ·exact absurd (Aw (As (I.pin p L).1) (by rw[z];exact J)) (Cd _)
structure Turn(P:Program)(w:World)(K:Ad)(tg:Expr)(J:It)(fp:List Addr)(it:Addr)(tn:Nat->Heap->Prop):Prop where
 mem:it∈fp
 obj:∀ i h,tn i h->∀ b∈fp,∃ o,h.get? b=some o/\∀ v,o.data≠.cell v
 keep:∀ i h h',tn i h->(∀ b∈fp,∀ o,h.get? b=some o->h'.get? b=some o)->tn i h'
 item:∀(X:Cx),X.prog=P->X.w=w->X.K=K->X.calm=true->∀(i:Nat) (pins:List (Addr×Obj)) (s:Shared) (σ:St) (H:Hp) (E:Value->Shared->Prop),Inv X pins σ H s->(∀ b∈fp,kM X pins H b)->tn i s.heap->J.go i H ->
  wpAny (model P w) X.A (pyNext (.ref it)) (λr s1=>∃ u,r=some u /\
   wpAny (model P w) X.A (letOwnedTupleGo tg (.ref it) u) (λ_ s2=>∃ x H',Inv X pins σ H' s2/\G5 x u/\J.yld i H x H'/\tn (i+1) s2.heap/\∀ b∈fp,H' b=none) E s1) E s
 done:∀(X:Cx),X.prog=P->X.w=w->X.K=K->X.calm=true->∀(i:Nat) (pins:List (Addr×Obj)) (s:Shared) (σ:St) (H:Hp) (E:Value->Shared->Prop),Inv X pins σ H s->(∀ b∈fp,kM X pins H b)->tn i s.heap->J.stop i H ->
  wpAny (model P w) X.A (pyNext (.ref it)) (λr s1=>r=none/\Inv X pins σ H s1) E s
 self:∀(A:Around) (i:Nat) (s:Shared) (Q:Value->Shared->Prop) (E:Value->Shared->Prop),tn i s.heap->Q (.ref it) s->wpAny (model P w) A (pyIter (.ref it)) Q E s
abbrev TI:=St->Hp->(It->Hp->Prop)->Prop
def PIE(X:Cx)(pins:List (Addr×Obj))(σ:St)(tg:Expr)(R:It->Hp->Prop)(itv:Value)(s2:Shared):Prop :=
 ∃(it:Addr) (fp:List Addr) (tn:Nat->Heap->Prop) (J:It) (H':Hp),itv=.ref it/\Inv X pins σ H' s2/\Turn X.prog X.w X.K tg J fp it tn/\tn 0 s2.heap/\(∀ b∈fp,kM X pins H' b)/\R J H'
def PI(X:Cx)(tg iter:Expr)(wi:TI):Prop :=
 ∀(pins:List (Addr×Obj)) (s:Shared) (σ:St) (H:Hp) (R:It->Hp->Prop),Inv X pins σ H s->wi σ H R ->
  wpAny (model X.prog X.w) X.A (eval iter X.env) (λv s1=>wpAny (model X.prog X.w) X.A (pyIter v) (PIE X pins σ tg R) X.xe s1) X.xe s
theorem mU(J : s.heap.get? it = some o)(L : o.cls = .type n)(hd : o.data = .fields vs)
    (O : ["enumerate", "zip", "dict_itemiterator", "dict_reverseitemiterator", "odict_iterator", "itertools.zip_longest", "itertools.pairwise"].contains n = false)(I : Q () s) : wpAny M A (letOwnedTupleGo tg (.ref it) u) Q E s := by
  unfold letOwnedTupleGo
  cases tg <;> first
    | exact wpAny_pure I
    | (cases u <;> first
        | exact wpAny_pure I
        | (refine wpAny_bind (wpAny_load J ?_)
           rw [L, hd]
           show wpAny M A (if (["enumerate", "zip", "dict_itemiterator", "dict_reverseitemiterator", "odict_iterator", "itertools.zip_longest", "itertools.pairwise"].contains n && vs[0]? == some (rawInt _)) = true then _ else _) Q E s
           rw [if_neg (by intro h; rw [O, Bool.false_and] at h; cases h)]
           exact wpAny_pure I))
def Itl(K:Ad)(a:Addr):It :=
 #v[λi H=>∃ xs x,SqL K H a xs/\xs[i]?=some x,λi H x H'=>H'=H/\∀ xs,SqL K H a xs->xs[i]?=some x,λi H=>∃ xs,SqL K H a xs/\xs.length<=i]
def Itt(K:Ad)(a:Addr):It :=
 #v[λi H=>∃ xs x,SqT K H a xs/\xs[i]?=some x,λi H x H'=>H'=H/\∀ xs,SqT K H a xs->xs[i]?=some x,λi H=>∃ xs,SqT K H a xs/\xs.length<=i]
def Itr(lo:Int)(n:Nat):It:=#v[λi _=>i<n,λi H x H'=>H'=H/\x=.int (lo+i),λi _=>n<=i]
theorem zN{P:Program}{w:World}{K:Ad}{tg:Expr}(a it:Addr):Turn P w K tg (Itl K a) [it] it (λi h=>h.IsListIter it a i) where
 mem:=by simp
 obj:=λi h st b L=>by
  have e:b=it:=by simpa using L
  subst e
  let ⟨o,e,c,d⟩:=st
  exact #v[o,e,λv z=>by rw[d]at z;cases z]
 keep:=λi h h' st k=>st.at λo e=>k it (by simp) o e
 item:=by
  intro X Z hw hK hc i J s σ H E I hf st hg
  subst Z hw hK
  let ⟨xs,x,V,hx⟩:=hg
  let ⟨b1,O,p,hz⟩:=I.list V
  let ⟨u,hu,ru⟩:=O.get hx
  let ⟨f0,f1,f2,f3,Y,f5⟩:=hf it (by simp)
  refine wpAny_pyNext_list_item st p.isList (x:=u) (by simpa using hu) λh' S sb=>?_
  have I1:Inv X J σ H { s with heap:=h' }:=I.turned (t':=s.toks) (λb o L e=>(sb.2 b L).trans e) f0 f1 f3 Y f5
  let ⟨o,e,c,d⟩:=id S
  exact #v[u,rfl,mU (s:={ s with heap:=h' }) e c d (by decide) #v[x,H,I1,ru,#v[rfl,λys hy=>by rw[I.list_inj hy V];exact hx],S,λb L=>(hf b L).1]]
 done:=by
  intro X Z hw hK hc i J s σ H E I hf st hg
  subst Z hw hK
  let ⟨xs,V,hx⟩:=hg
  let ⟨b1,O,p,hz⟩:=I.list V
  let ⟨f0,f1,f2,f3,Y,f5⟩:=hf it (by simp)
  have hl:=O.length
  exact wpAny_pyNext_list_end (I.ok.hd hc) st p.isList (by simp;lia) λh' eb=>#v[rfl,I.turned (t':=s.toks) (λb o L e=>eb b o L e) f0 f1 f3 Y f5]
 self:=λ_ _ _ _ _ st h=>wpAny_pyIter_listiter st h
theorem vA{P:Program}{w:World}{K:Ad}{tg:Expr}(a it:Addr):Turn P w K tg (Itt K a) [it] it (λi h=>h.IsTupleIter it a i) where
 mem:=by simp
 obj:=λi h st b O=>by
  have e:b=it:=by simpa using O
  subst e
  let ⟨o,e,c,d⟩:=st
  exact #v[o,e,λv z=>by rw[d]at z;cases z]
 keep:=λi h h' st k=>st.at λo e=>k it (by simp) o e
 item:=by
  intro X hP hw hK hc i L s σ H E I hf st hg
  subst hP hw hK
  let ⟨xs,x,Y,hx⟩:=hg
  let ⟨J,S,p,hz⟩:=I.tuple Y
  let ⟨u,hu,ru⟩:=S.get hx
  let ⟨f0,f1,f2,f3,Z,f5⟩:=hf it (by simp)
  refine wpAny_pyNext_tuple_item st (show s.heap.IsTuple a J.toArray from p) (x:=u) (by simpa using hu) λh' V sb=>?_
  have I1:Inv X L σ H { s with heap:=h' }:=I.turned (t':=s.toks) (λb o O e=>(sb.2 b O).trans e) f0 f1 f3 Z f5
  let ⟨o,e,c,d⟩:=id V
  exact #v[u,rfl,mU (s:={ s with heap:=h' }) e c d (by decide) #v[x,H,I1,ru,#v[rfl,λys hy=>by rw[I.tuple_inj hy Y];exact hx],V,λb O=>(hf b O).1]]
 done:=by
  intro X hP hw hK hc i L s σ H E I hf st hg
  subst hP hw hK
  let ⟨xs,Y,hx⟩:=hg
  let ⟨J,S,p,hz⟩:=I.tuple Y
  let ⟨f0,f1,f2,f3,Z,f5⟩:=hf it (by simp)
  have hl:=S.length
  exact wpAny_pyNext_tuple_end (I.ok.hd hc) st (show s.heap.IsTuple a J.toArray from p) (by simp;lia) λh' eb=>#v[rfl,I.turned (t':=s.toks) (λb o O e=>eb b o O e) f0 f1 f3 Z f5]
 self:=λ_ _ _ _ _ st h=>wpAny_pyIter_tupleiter st h
theorem vB{P:Program}{w:World}{K:Ad}{tg:Expr}(it:Addr)(lo:Int)(n:Nat):Turn P w K tg (Itr lo n) [it] it (λi h=>IsRangeIter h it (lo+(i:Nat)*1) ((n:Int)-(i:Nat)) 1) where
 mem:=by simp
 obj:=λi h st b L=>by
  have e:b=it:=by simpa using L
  subst e
  exact #v[_,st,λv z=>by
   have z':Data.fields _=Data.cell v:=z
   cases z']
 keep:=λi h h' st k=>k it (by simp) _ st
 item:=by
  intro X hP hw hK S i J s σ H E I hf st hg
  subst hP hw hK
  let ⟨f0,Y,f2,f3,Z,V⟩:=hf it (by simp)
  have W:=Walks.range (prog:=X.prog) (w:=X.w) (I.ok.hd S) it lo 1 n
  refine W.item i s _ _ hg st λv h' tk hv O kk=>?_
  let ⟨t,rfl⟩:=hv
  have I1:Inv X J σ H { s with heap:=h',toks:=tk }:=I.turned (λb o L e=>kk b o (by simpa using L) e) f0 Y f3 Z V
  exists _,rfl,mU (s:={ s with heap:=h',toks:=tk }) (n :="range_iterator") O rfl rfl (by decide) #v[.int (lo+i),H,I1,#v[t,?_],#v[rfl,rfl],O,λb L=>(hf b L).1]
  rw[Int.mul_one]
 done:=by
  intro X hP hw hK S i J s σ H E I hf st hg
  subst hP hw hK
  let ⟨f0,Y,f2,f3,Z,V⟩:=hf it (by simp)
  exact wpAny_pyNext_range_end (I.ok.hd S) st (by have:n<=i:=hg;lia) λh' eb=>#v[rfl,I.turned (t':=s.toks) (λb o L e=>eb b o L e) f0 Y f3 Z V]
 self:=λ_ _ _ _ _ st h=>wpAny_pyIter_rangeiter st h
section
variable {X:Cx}{tg:Expr}
def RE(K:Ad)(tl:TE):TI:=λσ H R=>tl σ H λx H1=>∃ a,x=.ref a/\(∃ xs,SqL K H1 a xs)/\R (Itl K a) H1
def VJ(K:Ad)(tl:TE):TI:=λσ H R=>tl σ H λx H1=>∃ a,x=.ref a/\(∃ xs,SqT K H1 a xs)/\R (Itt K a) H1
theorem qU(hl:PE X l tl):PI X tg l (RE X.K tl):=by
 intro J s σ H R I h
 refine thn (hl J s σ H _ I h) λv s1 ⟨x,H1,I1,r1,q1⟩=>?_
 let ⟨a,e,⟨xs,L⟩,q⟩:=q1
 subst e
 cases r1
 let ⟨S,V,p,Y⟩:=I1.list L
 refine wpAny_pyIter_list p.isList ?_
 exists s1.heap.objs.size,[s1.heap.objs.size],_,_,H1,rfl,I1.kept (t':=s1.toks) λb o e=>Af _ e,zN a _,#v[_,Ap _ rfl,rfl,rfl],λb O=>?_,q
 have e:b=s1.heap.objs.size:=by simpa using O
 subst e
 exact I1.fpOk (Ao _) (I1.hok.fresh (Ao _))
theorem qV(hl:PE X l tl):PI X tg l (VJ X.K tl):=by
 intro J s σ H R I h
 refine thn (hl J s σ H _ I h) λv s1 ⟨x,H1,I1,r1,q1⟩=>?_
 let ⟨a,e,⟨xs,O⟩,q⟩:=q1
 subst e
 cases r1
 let ⟨L,V,p,Y⟩:=I1.tuple O
 refine wpAny_pyIter_tuple (show s1.heap.IsTuple a L.toArray from p) ?_
 exists s1.heap.objs.size,[s1.heap.objs.size],_,_,H1,rfl,I1.kept (t':=s1.toks) λb o e=>Af _ e,vA a _,#v[_,Ap _ rfl,rfl,rfl],λb S=>?_,q
 have e:b=s1.heap.objs.size:=by simpa using S
 subst e
 exact I1.fpOk (Ao _) (I1.hok.fresh (Ao _))
theorem BP{pins:List (Addr×Obj)}{σ:St}{H:Hp}{s:Shared}{R:It->Hp->Prop}{E:Value->Shared->Prop}{J L:Int}{t u v:Tok}{tk:Nat}(I:Inv X pins σ H s)(h1:-(2^62)<=J)(h2:J<2^62)(V:-(2^62)<=L)(h4:L<2^62)
  (q:R (Itr J (L-J).toNat) H):wpAny (model X.prog X.w) X.A (pyIter (.ref s.heap.objs.size)) (PIE X pins σ tg R) E { s with heap:=s.heap.push { cls:=.type "range",data:=.fields #[.int J t,.int L u,.int 1 v] },toks:=tk }:=by
 refine wpAny_pyIter_range (IsRange.new ..) (small_one h1 h2 V h4) ?_
 have O:Inv X pins σ H { s with heap:=s.heap.push { cls:=.type "range",data:=.fields #[.int J t,.int L u,.int 1 v] },toks:=tk }:=I.kept λb o e=>Af _ e
 refine #v[(s.heap.push { cls:=.type "range",data:=.fields #[.int J t,.int L u,.int 1 v] }).objs.size,[(s.heap.push { cls:=.type "range",data:=.fields #[.int J t,.int L u,.int 1 v] }).objs.size],_,_,H,rfl,
  O.kept (t':=tk) λb o e=>Af _ e,vB _ J (L-J).toNat,?_,λb S=>?_,q]
 ·have e1:J+((0:Nat):Int)*1=J:=by simp
  have e2:(((L-J).toNat:Nat):Int)-((0:Nat):Int)=Bv J L 1:=by rw[rangeSize_one];split<;>lia
  show IsRangeIter _ _ (J+((0:Nat):Int)*1) ((((L-J).toNat:Nat):Int)-((0:Nat):Int)) 1
  rw[e1,e2]
  exact Ap _ rfl
 ·have e:b=(s.heap.push { cls:=.type "range",data:=.fields #[.int J t,.int L u,.int 1 v] }).objs.size:=by simpa using S
  subst e
  exact O.fpOk (Ao _) (O.hok.fresh (Ao _))
def RF(ta:TA):TI:=λσ H R=>ta σ H λvs H1=>∃ j:Int,vs=[.int j]/\-(2^62)<=j/\j<2^62/\R (Itr 0 j.toNat) H1
theorem hU(hg:Gl X "range")(hm:X.mg "range"=none)(V:PA X [a] ta)(hs:A0 [a] X.env=[(false,eval a X.env)]:=by rfl):PI X tg (.Call (.Name "range" p) [a] [] pos) (RF ta):=by
 intro J s σ H R I h
 refine Call_ (fW I hg hm boot_range (PyProof.Rows.callWith_type1 (thn (V pos J s σ H _ I h) λus s1 ⟨vs,H1,I1,r1,L⟩=>?_) hs rfl))
 let ⟨j,e,L,S,q⟩:=L
 subst e
 cases r1 with
 |cons r O =>
  cases O
  let ⟨t,rfl⟩:=r
  exact call_range_1 (BP I1 (by lia) (by lia) L S (by simpa using q))
def mV(fp:List Addr)(h:Heap):List (Addr×Obj):=fp.filterMap λb=>(h.get? b).map λo=>(b,o)
theorem fX(I:b∈fp)(e:h.get? b=some o):(b,o)∈mV fp h:=List.mem_filterMap.mpr #v[b,I,by rw[e];rfl]
theorem zO(L:p∈mV fp h):p.1∈fp/\h.get? p.1=some p.2:=by
 let ⟨b,I,e⟩:=List.mem_filterMap.mp L
 cases q:h.get? b with
 |none=>rw[q]at e;cases e
 |some o =>
  rw[q]at e
  have J:(b,o)=p:=B3.inj e
  subst J
  exact #v[I,q]
theorem Inv.pinned{pins:List (Addr×Obj)}{σ:St}{H:Hp}{s:Shared}{fp:List Addr}(I:Inv X pins σ H s)(hf:∀ b∈fp,kM X pins H b)(Z:∀ b∈fp,∃ o,s.heap.get? b=some o/\∀ v,o.data≠.cell v):Inv X (pins++mV fp s.heap) σ H s :=
 I.pins_of λp V=>(Aq.mp V).elim (λz=>I.pin p (Bg _ z)) λz=>by
  let ⟨L,e⟩:=zO z
  let ⟨Y,S,O,_⟩:=hf p.1 L
  let ⟨o,J,d⟩:=Z p.1 L
  rw[e]at J;cases J
  exact #v[e,Y,S,O,d]
theorem Inv.unpinned{pins pl:List (Addr×Obj)}{σ:St}{H:Hp}{s:Shared}(I:Inv X (pins++pl) σ H s):Inv X pins σ H s:=I.pins_of λp J=>I.pin p (Bg _ (Bk _ J))
end
abbrev R2:=V->V->Hp->VK->Prop
def OpR(X:Cx)(f:Value->Value->Sem Value)(r:R2):Prop :=
 ∀(pins:List (Addr×Obj)) (s:Shared) (σ:St) (H:Hp) (x y:V) (v u:Value) (Q:VK),Inv X pins σ H s->G5 x v->G5 y u->r x y H Q ->
  wpAny (model X.prog X.w) X.A (f v u) (EP X pins σ Q) X.xe s
def UnR(X:Cx)(f:Value->Sem Value)(r:V->Hp->VK->Prop):Prop :=
 ∀(pins:List (Addr×Obj)) (s:Shared) (σ:St) (H:Hp) (x:V) (v:Value) (Q:VK),Inv X pins σ H s->G5 x v->r x H Q ->
  wpAny (model X.prog X.w) X.A (f v) (EP X pins σ Q) X.xe s
def dY(X:Cx)(f:Value)(r:List V->Hp->VK->Prop):Prop :=
 ∀(pins:List (Addr×Obj)) (s:Shared) (σ:St) (H:Hp) (xs:List V) (us:List Value) (Q:VK),Inv X pins σ H s->Vals xs us->r xs H Q ->
  wpAny (model X.prog X.w) X.A (call f us) (EP X pins σ Q) X.xe s
def VL(X:Cx)(r:V->Hp->(Bool->Hp->Prop)->Prop):Prop :=
 ∀(pins:List (Addr×Obj)) (s:Shared) (σ:St) (H:Hp) (x:V) (v:Value) (Q:Bool->Hp->Prop),Inv X pins σ H s->G5 x v->r x H Q ->
  wpAny (model X.prog X.w) X.A (truthy v) (TP X pins σ Q) X.xe s
def rI(C:Int->Int->Prop)(g:Int->Int->V):R2:=λx y H Q=>∃ i j,x=.int i/\y=.int j/\C i j/\Q (g i j) H
def rI0(g:Int->Int->V):R2:=λx y H Q=>∃ i j,x=.int i/\y=.int j/\Q (g i j) H
def rU(g:Int->V):V->Hp->VK->Prop:=λx H Q=>∃ i,x=.int i/\Q (g i) H
section
variable {X:Cx}{a b c:Expr}{ta tb tc:TE}{pos:Pos}
theorem opI{f:Value->Value->Sem Value}{C:Int->Int->Prop}{g:Int->Int->Int}
  (rule:∀(i j:Int) (t u:Tok) (s:Shared) (Q:Value->Shared->Prop) (E:Value->Shared->Prop),C i j->Q (.int (g i j) s.toks) { s with toks:=s.toks+1 }->wpAny (model X.prog X.w) X.A (f (.int i t) (.int j u)) Q E s) :
  OpR X f (rI C λi j=>.int (g i j)):=by
 intro J s σ H x y v u Q I L S h
 let ⟨i,j,rfl,rfl,O,q⟩:=h
 let ⟨t,rfl⟩:=L
 let ⟨t',rfl⟩:=S
 exact rule i j t t' s _ _ O #v[.int (g i j),H,I.tok _,#v[_,rfl],q]
theorem RG{f:Value->Value->Sem Value}{g:Int->Int->Int}
  (rule:∀(i j:Int) (t u:Tok) (s:Shared) (Q:Value->Shared->Prop) (E:Value->Shared->Prop),Q (.int (g i j) s.toks) { s with toks:=s.toks+1 }->wpAny (model X.prog X.w) X.A (f (.int i t) (.int j u)) Q E s) :
  OpR X f (rI0 λi j=>.int (g i j)):=by
 intro J s σ H x y v u Q I L O h
 let ⟨i,j,rfl,rfl,q⟩:=h
 let ⟨t,rfl⟩:=L
 let ⟨t',rfl⟩:=O
 exact rule i j t t' s _ _ #v[.int (g i j),H,I.tok _,#v[_,rfl],q]
theorem MS{f:Value->Value->Sem Value}{g:Int->Int->Bool}
  (J:∀(i j:Int) (t u:Tok) (s:Shared) (Q:Value->Shared->Prop) (E:Value->Shared->Prop),Q (.bool (g i j)) s->wpAny (model X.prog X.w) X.A (f (.int i t) (.int j u)) Q E s) :
  OpR X f (rI0 λi j=>.bl (g i j)):=by
 intro L s σ H x y v u Q I O S h
 let ⟨i,j,rfl,rfl,q⟩:=h
 let ⟨t,rfl⟩:=O
 let ⟨t',rfl⟩:=S
 exact J i j t t' s _ _ #v[.bl (g i j),H,I,rfl,q]
def zP(i j:Int):Prop:=0<=j/\j<=1000000/\i.natAbs<2^64
theorem MT:OpR X (binaryOp .Add) (rI0 λi j=>.int (i+j)):=RG λ_ _ _ _ _ _ _ q=>add_int q
theorem MU:OpR X (binaryOp .Sub) (rI0 λi j=>.int (i-j)):=RG λ_ _ _ _ _ _ _ q=>sub_int q
theorem HU:OpR X (binaryOp .Mod) (rI (λ_ j=>j≠0) λi j=>.int (i.fmod j)):=opI λ_ _ _ _ _ _ _ I q=>mod_int' I q
theorem MV:OpR X (binaryOp .Pow) (rI zP λi j=>.int (i^j.toNat)):=opI λ_ _ _ _ _ _ _ I q=>pow_int_small I.1 I.2.1 I.2.2 q
theorem unI{f:Value->Sem Value}{g:Int->Int}
  (rule:∀(i:Int) (t:Tok) (s:Shared) (Q:Value->Shared->Prop) (E:Value->Shared->Prop),Q (.int (g i) s.toks) { s with toks:=s.toks+1 }->wpAny (model X.prog X.w) X.A (f (.int i t)) Q E s) :
  UnR X f (rU λi=>.int (g i)):=by
 intro J s σ H x v Q I L h
 let ⟨i,rfl,q⟩:=h
 let ⟨t,rfl⟩:=L
 exact rule i t s _ _ #v[.int (g i),H,I.tok _,#v[_,rfl],q]
theorem MW:UnR X (unaryOp .USub) (rU λi=>.int (-i)):=unI λ_ _ _ _ _ q=>neg_int q
end
def MX:V->V->Bool
 |.non,.non=>true|.non,.int _=>true|.int _,.non=>true|.non,.bl _=>true|.bl _,.non=>true|.non,.str _=>true|.str _,.non=>true
 |.int _,.int _=>true|.bl _,.bl _=>true|.str _,.str _=>true|.byt _,.byt _=>true
 |.int _,.str _=>true|.str _,.int _=>true|.bl _,.str _=>true|.str _,.bl _=>true
 |_,_=>false
def rEq:R2:=λx y H Q=>MX x y=true/\Q (.bl (decide (x=y))) H
def rNe:R2:=λx y H Q=>MX x y=true/\Q (.bl (!decide (x=y))) H
theorem xG:decide (V.int i=V.int j)=(i == j):=by
 rw[E6]
 simp
theorem BQ:decide (V.bl i=V.bl j)=(i == j):=by
 rw[E6]
 simp
theorem xH:decide (V.str i=V.str j)=(i == j):=by
 rw[E6]
 simp
theorem xI:decide (V.byt i=V.byt j)=(i.toList == j.toList):=by
 rw[E6]
 cases i
 cases j
 simp
section
variable {X:Cx}{a b c:Expr}{ta tb tc:TE}{pos:Pos}
theorem bF{pins:List (Addr×Obj)}{σ:St}{H:Hp}{s:Shared}{Q:VK}{k J:Bool}(I:Inv X pins σ H s)(q:Q (.bl k) H)(e:k=J):EP X pins σ Q (.bool J) s:=by
 subst e
 exact #v[.bl k,H,I,rfl,q]
theorem RH:OpR X (compareOp .Eq) rEq:=by
 intro O s σ H x y v u Q I L J h
 let ⟨hs,q⟩:=h
 cases x with
 |non =>
  cases L
  cases y with
  |non=>cases J;exact PySem.EqNone.eq_none_none (bF I q (by simp))
  |bl j=>cases J;exact PySem.EqNone.eq_none_bool (bF I q (by simp))
  |int j=>let ⟨t',rfl⟩:=J;exact PySem.EqNone.eq_none_int (bF I q (by simp))
  |str j=>let ⟨t',rfl⟩:=J;exact PySem.EqNone.eq_none_str (bF I q (by simp))
  |_=>exact absurd (show false=true from hs) A4
 |bl i =>
  cases L
  cases y with
  |non=>cases J;exact PySem.EqNone.eq_bool_none (bF I q (by simp))
  |bl j=>cases J;exact eq_bool (bF I q BQ)
  |str j=>let ⟨t',rfl⟩:=J;exact PySem.EqMixed.eq_bool_str (bF I q (by simp))
  |_=>exact absurd (show false=true from hs) A4
 |int i =>
  let ⟨t,rfl⟩:=L
  cases y with
  |non=>cases J;exact PySem.EqNone.eq_int_none (bF I q (by simp))
  |int j=>let ⟨t',rfl⟩:=J;exact eq_int (bF I q xG)
  |str j=>let ⟨t',rfl⟩:=J;exact PySem.EqMixed.eq_int_str (bF I q (by simp))
  |_=>exact absurd (show false=true from hs) A4
 |str i =>
  let ⟨t,rfl⟩:=L
  cases y with
  |non=>cases J;exact PySem.EqNone.eq_str_none (bF I q (by simp))
  |bl j=>cases J;exact PySem.EqMixed.eq_str_bool (bF I q (by simp))
  |int j=>let ⟨t',rfl⟩:=J;exact PySem.EqMixed.eq_str_int (bF I q (by simp))
  |str j=>let ⟨t',rfl⟩:=J;exact eq_str (bF I q xH)
  |_=>exact absurd (show false=true from hs) A4
 |byt i =>
  let ⟨t,rfl⟩:=L
  cases y with
  |byt j=>let ⟨t',rfl⟩:=J;exact PySem.W.eq_bytes (bF I q xI)
  |_=>exact absurd (show false=true from hs) A4
 |_=>cases y<;>exact absurd (show false=true from hs) A4
theorem RI:OpR X (compareOp .NotEq) rNe:=by
 intro O s σ H x y v u Q I L J h
 let ⟨hs,q⟩:=h
 cases x with
 |non =>
  cases L
  cases y with
  |non=>cases J;exact PySem.EqNone.ne_none_none (bF I q (by simp))
  |bl j=>cases J;exact PySem.EqNone.ne_none_bool (bF I q (by simp))
  |int j=>let ⟨t',rfl⟩:=J;exact PySem.EqNone.ne_none_int (bF I q (by simp))
  |str j=>let ⟨t',rfl⟩:=J;exact PySem.EqNone.ne_none_str (bF I q (by simp))
  |_=>exact absurd (show false=true from hs) A4
 |bl i =>
  cases L
  cases y with
  |non=>cases J;exact PySem.EqNone.ne_bool_none (bF I q (by simp))
  |bl j=>cases J;exact ne_bool (bF I q (congrArg not BQ))
  |str j=>let ⟨t',rfl⟩:=J;exact PySem.EqMixed.ne_bool_str (bF I q (by simp))
  |_=>exact absurd (show false=true from hs) A4
 |int i =>
  let ⟨t,rfl⟩:=L
  cases y with
  |non=>cases J;exact PySem.EqNone.ne_int_none (bF I q (by simp))
  |int j=>let ⟨t',rfl⟩:=J;exact ne_int (bF I q (congrArg not xG))
  |str j=>let ⟨t',rfl⟩:=J;exact PySem.EqMixed.ne_int_str (bF I q (by simp))
  |_=>exact absurd (show false=true from hs) A4
 |str i =>
  let ⟨t,rfl⟩:=L
  cases y with
  |non=>cases J;exact PySem.EqNone.ne_str_none (bF I q (by simp))
  |bl j=>cases J;exact PySem.EqMixed.ne_str_bool (bF I q (by simp))
  |int j=>let ⟨t',rfl⟩:=J;exact PySem.EqMixed.ne_str_int (bF I q (by simp))
  |str j=>let ⟨t',rfl⟩:=J;exact ne_str (bF I q (congrArg not xH))
  |_=>exact absurd (show false=true from hs) A4
 |byt i =>
  let ⟨t,rfl⟩:=L
  cases y with
  |byt j=>let ⟨t',rfl⟩:=J;exact PySem.W.ne_bytes (bF I q (congrArg not xI))
  |_=>exact absurd (show false=true from hs) A4
 |_=>cases y<;>exact absurd (show false=true from hs) A4
theorem LN:OpR X (compareOp .Lt) (rI0 λi j=>.bl (decide (i<j))):=MS λ_ _ _ _ _ _ _ q=>lt_int q
theorem RJ:OpR X (compareOp .LtE) (rI0 λi j=>.bl (decide (i<=j))):=MS λ_ _ _ _ _ _ _ q=>le_int q
theorem LO:OpR X (compareOp .Gt) (rI0 λi j=>.bl (decide (j<i))):=MS λ_ _ _ _ _ _ _ q=>gt_int q
theorem MY:OpR X (compareOp .Is) (λx y H Q=>y=.non/\Q (.bl (decide (x=.non))) H):=by
 intro L s σ H x y v u Q I J O h
 let ⟨rfl,q⟩:=h
 cases O
 refine is_none_gen (bF I q ?_)
 cases x<;>first
  |(cases J;rfl)
  |(let ⟨t,rfl⟩:=J;rfl)
theorem HV:OpR X (compareOp .IsNot) (λx y H Q=>y=.non/\Q (.bl (!decide (x=.non))) H):=by
 intro L s σ H x y v u Q I J O h
 let ⟨rfl,q⟩:=h
 cases O
 refine isnot_none_gen (bF I q ?_)
 cases x<;>first
  |(cases J;rfl)
  |(let ⟨t,rfl⟩:=J;rfl)
theorem OpR.or(h:OpR X f r)(h':OpR X f r'):OpR X f (λx y H Q=>r x y H Q\/r' x y H Q):=by
 intro J s σ H x y v u Q I L O q
 rcases q with q|q
 ·exact h J s σ H x y v u Q I L O q
 ·exact h' J s σ H x y v u Q I L O q
theorem cZ(b:Expr)(h:op≠.In:=by decide)(h2:op≠.NotIn:=by decide):behindInMarks op b=false:=by
 have e1:(op == CmpOp.In)=false:=by cases op<;>first|rfl|exact absurd rfl h
 have e2:(op == CmpOp.NotIn)=false:=by cases op<;>first|rfl|exact absurd rfl h2
 cases b<;>simp[behindInMarks,e1,e2]
def RK(K:Ad)(x:V)(H:Hp)(k:Bool):Prop :=
 match x with
 |.non=>k=false
 |.bl b=>k=b
 |.int i=>k=(i != 0)
 |.str y=>y.length<=An/\k=((y.length:Int) != 0)
 |.byt y=>y.size<=An/\k=((y.size:Int) != 0)
 |.ref p=>(∃ xs,SqL K H p xs/\k=!xs.isEmpty)\/(∃ xs,SqT K H p xs/\k=!xs.isEmpty)\/∃ kvs,H p=some (.dK kvs)/\k=!kvs.isEmpty
 |_=>False
theorem vC{κ:Type}{I:List (κ×V)}{vs:List (κ×Value)}(r:KV I vs):(!vs.isEmpty)=!I.isEmpty:=by
 cases r<;>rfl
theorem mX(r:Vals xs its):(!its.toArray.isEmpty)=!xs.isEmpty:=by
 cases r<;>simp
theorem kN:(An:Nat)<2^63:=by rw[sizeLine_eq];decide
theorem MZ:VL X (λx H Q=>∃ k,RK X.K x H k/\Q k H):=by
 intro Y s σ H x v Q I S h
 let ⟨k,e,q⟩:=h
 have hl:=kN
 have hs:An=16777216:=sizeLine_eq
 cases x with
 |non =>
  cases S
  have L:k=false:=e
  subst L
  exact truthy_none #v[H,I,q]
 |bl b =>
  cases S
  have L:k=b:=e
  subst L
  exact wpAny_truthy_bool #v[H,I,q]
 |int i =>
  let ⟨t,rfl⟩:=S
  have L:k=(i != 0):=e
  subst L
  exact PySem.P.truthy_int #v[H,I,q]
 |str y =>
  let ⟨t,rfl⟩:=S
  obtain ⟨hy,L⟩:y.length<=An/\k=((y.length:Int) != 0):=e
  subst L
  exact PySem.P.truthy_str (by lia) #v[H,I.tok _,q]
 |byt y =>
  let ⟨t,rfl⟩:=S
  obtain ⟨hy,L⟩:y.size<=An/\k=((y.size:Int) != 0):=e
  subst L
  exact PySem.W.truthy_bytes (by lia) #v[H,I.tok _,q]
 |ref p =>
  cases S
  have L:(∃ xs,SqL X.K H p xs/\k=!xs.isEmpty)\/(∃ xs,SqT X.K H p xs/\k=!xs.isEmpty)\/∃ J,H p=some (.dK J)/\k=!J.isEmpty:=e
  rcases L with ⟨xs,hx,L⟩|⟨xs,hx,L⟩|⟨J,hx,L⟩
  ·subst L
   let ⟨V,r,pl,Z⟩:=I.list hx
   have O:=r.length
   exact wpAny_truthy_list pl.isList (by simp only[Av];lia) #v[H,I.tok _,by rw[mX r];exact q]
  ·subst L
   let ⟨V,r,pl,Z⟩:=I.tuple hx
   have O:=r.length
   exact truthy_tuple pl (by simp only[Av];lia) #v[H,I.tok _,by rw[mX r];exact q]
  ·subst L
   obtain ⟨Z,hS,vs,r,m⟩:J.length<=An/\(p == sysModules)=false/\∃ vs,KV J vs/\s.heap.DictOf (bA X.prog X.w) p vs:=I.hok p _ hx
   have O:J.length=vs.length:=Paired.length r
   exact wpAny_truthy_dict hS m (by lia) #v[H,I.tok _,by rw[vC r];exact q]
 |_=>exact (show False from e).elim
theorem vD:OpR X (binaryOp .Add) (λx y H Q=>∃ i j,x=.str i/\y=.str j/\i.length+j.length<=An/\Q (.str (i++j)) H):=by
 intro J s σ H x y v u Q I L O h
 let ⟨i,j,rfl,rfl,S,q⟩:=h
 let ⟨t,rfl⟩:=L
 let ⟨t',rfl⟩:=O
 exact add_str (λt' tk=>#v[.str (i++j),H,I.tok _,#v[_,rfl],q]) S
theorem fG(r:Vals [x] us):∃ u,us=[u]/\G5 x u:=by
 cases r with
 |cons J I=>cases I;exact #v[_,rfl,J]
theorem LP(r:Vals [x,y] us):∃ u w',us=[u,w']/\G5 x u/\G5 y w':=by
 cases r with
 |cons I L =>
  cases L with
  |cons O J=>cases J;exact #v[_,_,rfl,I,O]
theorem BR:dY X (.builtin "abs") (λxs H Q=>∃ i,xs=[.int i]/\Q (.int (if i<0 then -i else i)) H):=by
 intro J s σ H xs us Q I r h
 let ⟨i,rfl,q⟩:=h
 let ⟨u,rfl,t,rfl⟩:=fG r
 exact call_abs_int λu tk=>#v[.int (if i<0 then -i else i),H,I.tok _,#v[_,rfl],q]
theorem zQ(L:X.calm=true):dY X (.builtin "min") (λxs H Q=>∃ i j,xs=[.int i,.int j]/\Q (.int (if j<i then j else i)) H):=by
 intro J s σ H xs us Q I r h
 let ⟨i,j,rfl,q⟩:=h
 let ⟨u,O,rfl,⟨t,rfl⟩,⟨t',rfl⟩⟩:=LP r
 refine min_two_ints (I.ok.hd L) λh' tk k=>#v[_,H,I.kept k,?_,q]
 by_cases hj:j<i
 ·rw[if_pos hj,if_pos hj];exact #v[_,rfl]
 ·rw[if_neg hj,if_neg hj];exact #v[_,rfl]
theorem zR:dY X (.type "int") (λxs H Q=>(∃ i,xs=[.int i]/\Q (.int i) H)\/∃ k,xs=[.bl k]/\Q (.int (if k then 1 else 0)) H):=by
 intro J s σ H xs us Q I r h
 rcases h with ⟨i,rfl,q⟩|⟨k,rfl,q⟩
 ·let ⟨u,rfl,t,rfl⟩:=fG r
  exact call_int_int #v[.int i,H,I,#v[_,rfl],q]
 ·let ⟨u,rfl,L⟩:=fG r
  cases L
  exact call_int_bool #v[.int (if k then 1 else 0),H,I.tok _,#v[_,rfl],q]
theorem qW:dY X (.type "str") (λxs H Q=>∃ i,xs=[.int i]/\i.natAbs.log2<1920/\Q (.str (toString i)) H):=by
 intro J s σ H xs us Q I r h
 let ⟨i,rfl,L,q⟩:=h
 let ⟨u,rfl,t,rfl⟩:=fG r
 exact PySem.P.str_of_int L #v[.str _,H,I.tok _,#v[_,rfl],q]
end
structure ObjM(h:Heap)(x dx C:Addr)(mA:Str->Option Value):Prop where
 obj:h.get? x=some (C5 C dx)
 ns:h.Ns1 dx mA
 ne:dx≠x
theorem zS{h:Heap}(n:h.Ns1 dx mA):∃ od,h.get? dx=some od/\∀ name,Fi name od=some (mA name):=by
 let ⟨o,es,ep,J,hd,hk,_,hm⟩:=n
 exists o,J,λname=>?_
 have e:=hm name
 unfold nsFind findBy at e
 rw[<- Array.find?_toList]at e
 unfold Fi
 rw[hd]
 dsimp only
 split
 ·rename_i y q
  rw[q]at e
  exact congrArg some e
 ·rename_i q
  rw[q]at e
  have a:es.toList.any (·.refKey)=false:=by
   rw[List.any_eq_false]
   intro y hy
   let ⟨z,t,I⟩:=hk y (Array.mem_toList_iff.mp hy)
   simp[DictEntry.refKey,I]
  have a':¬ es.toList.any (·.refKey)=true:=by rw[a];exact A4
  rw[if_neg a']
  exact congrArg some e
theorem ObjM.look(I:ObjM h x dx C mA):∃ od,PySem.W.InstAt h x (C5 C dx) C (some od)/\∀ name,Fi name od=some (mA name) :=
 let ⟨od,ho,hl⟩:=zS I.ns
 #v[od,#v[I.obj,rfl,rfl,ho],hl]
section
variable {w:World}{A:Around}{E:Value->Shared->Prop}{s:Shared}{K:Ad}{x dx C f:Addr}{v:Value}
theorem HW(X:K.In s.heap)(I:ObjM s.heap x dx C mA)(hg:D8 K C name=true)(Y:Et K C=true)
  (O:A6 K (.ref C) name=some none)(S:mA name=some v)(L:PySem.W.handedIn v=true)(h:Q v { s with toks:=s.toks+1 }) :
  wpAny (model prog w) A (getAttr (.ref x) name expr) Q E s:=by
 let ⟨V,J,hl⟩:=I.look
 exact PySem.W.get_value X J (Fe hg).1 (PySem.W.findObj_own Y O rfl (by rw[hl,S])) L h
theorem BS(X:K.In s.heap)(I:ObjM s.heap x dx C mA)(hg:D8 K C name=true)
  (hf:A6 K (.ref C) name=some (some (.ref f)))(O:Ff K (.ref f)=true)(S:mA name=none)(h:Q (.ref f,[.ref x]) s) :
  wpAny (model prog w) A (getMethod (.ref x) name pl) Q E s:=by
 let ⟨L,J,hl⟩:=I.look
 exact PySem.W.method_fn X J (Fe hg).1 (Fe hg).2 hf (beq_iff_eq.mp O) (by show (Fi name L).map (·.isSome)=some false;rw[hl,S];rfl) h
theorem HX{ns:List Str}(X:K.In s.heap)(I:ObjM s.heap x dx C mA)
  (hs:A6 K (.ref C) "__setattr__"=some (some (.builtin "object.__setattr__")))(hp:Fq K C=true)(ht:F1 K C name=some none)(hh:Et K C=true)
  (hw:PySem.Within mA ns)(hsz:ns.length<=An)
  (h:∀ h',ObjM h' x dx C (λy=>if y=name then some v else mA y)->Heap.SameBut dx s.heap h'->Q () { s with heap:=h',toks:=s.toks+2 }) :
  wpAny (model prog w) A (setAttr (.ref x) name v) Q E s:=by
 let ⟨od,J,hl⟩:=I.look
 refine PySem.W.set_plain X J hs (PySem.W.osa_open (s:={ s with toks:=s.toks+1 }) (r:=none) X J hp ht λb=>?_)
 let ⟨cd,hc,V⟩:=PySem.W.any_some hh
 have hx:s.heap.get? x=some #v[.ref C,some dx,.plain,#[]]:=I.obj
 refine Ac (Ag (Ac (Ac (wpAny_loadPart hx (Ac (PySem.W.Looks.here (s:={ s with toks:=s.toks+1 }) (PySem.W.looks_clsIn X hc) ?_))))))
 rw[V]
 refine Ag (a:=some dx) (Ac (Ag (Ac ?_)))
 refine wpAny_nsSet1 (s:={ s with toks:=s.toks+1 }) I.ns λh' L O=>?_
 let ⟨oD,b1,b2,Y,S,Z⟩:=L.count (PySem.Within.cons name v hw)
 refine Ac (wpAny_lookBehind Y (by rw[S];exact pastItsLine_dict (Ay Z (by rw[Ah];lia))) ?_)
 exact Ag (h _ #v[(O.2 _ (Ne.symm I.ne)).trans I.obj,L,I.ne] O)
theorem BU(X:K.In s.heap)(hm:E8 K C=true)
  (J:A6 K (.ref C) "__init__"=some (some (.ref f)))(hf:PySem.W.typeIn K (.ref f)=some (.type "function"))
  (h:codeAny (model prog w) (A.under (.builtin "type.__call__" #v[.ref C::vs,kw])) (.call (.ref f) #v[.ref (s.heap.objs.size+1)::vs,kw]) (PySem.W.InitBack (s.heap.objs.size+1) R)
   { s with heap:=(s.heap.push Cn).push (C5 C s.heap.objs.size) }) :
  codeAny (model prog w) A (.call (.ref C) #v[vs,kw]) R s:=by
 let ⟨L,g,d,t,I⟩:=s
 exact PySem.W.make_core (PySem.W.makes_of X hm) (PySem.W.looks_findIn X J) (λself=>PySem.W.bind_fn X self hf) (.inl rfl) h
end
def eQ(f:Str)(v:V):List (Str×V)->List (Str×V)
 |[]=>[(f,v)]
 |(g,x)::r=>if g=f then (g,v)::r else (g,x)::eQ f v r
theorem gK(f g:Str)(v:V):∀ fs:List (Str×V),(eQ f v fs).lookup g=if g=f then some v else fs.lookup g
 |[]=>by
  show Dh g [(f,v)]=_
  by_cases h:g=f
  ·have I:(g == f)=true:=beq_iff_eq.mpr h
   simp only[Dh,I,if_pos h]
  ·have I:(g == f)=false:=beq_eq_false_iff_ne.mpr h
   simp only[Dh,I,if_neg h]
 |(k,x)::r=>by
  have J:=gK f g v r
  rw[show eQ f v ((k,x)::r)=(if k=f then (k,v)::r else (k,x)::eQ f v r) from rfl]
  by_cases hk:k=f
  ·rw[if_pos hk]
   by_cases h:g=k
   ·have I:(g == k)=true:=beq_iff_eq.mpr h
    simp only[Dh,I,if_pos (h.trans hk)]
   ·have I:(g == k)=false:=beq_eq_false_iff_ne.mpr h
    simp only[Dh,I,if_neg (λe:g=f=>h (e.trans hk.symm))]
  ·rw[if_neg hk]
   by_cases h:g=k
   ·have I:(g == k)=true:=beq_iff_eq.mpr h
    simp only[Dh,I,if_neg (λe:g=f=>hk (h.symm.trans e))]
   ·have I:(g == k)=false:=beq_eq_false_iff_ne.mpr h
    simp only[Dh,I]
    exact J
theorem kO(f:Str)(v:V):∀ fs:List (Str×V),f∈(eQ f v fs).map (·.1)/\∀ g,g∈fs.map (·.1)->g∈(eQ f v fs).map (·.1)
 |[]=>#v[by simp[eQ],λg h=>by simp at h]
 |(k,x)::r=>by
  let ⟨i1,i2⟩:=kO f v r
  rw[show eQ f v ((k,x)::r)=(if k=f then (k,v)::r else (k,x)::eQ f v r) from rfl]
  by_cases hk:k=f
  ·rw[if_pos hk]
   subst hk
   exact #v[by simp,λg h=>by simpa using h]
  ·rw[if_neg hk]
   exists ?_,λg h=>?_
   ·rw[Au]
    exact Ak _ i1
   ·rw[Au]at h ⊢
    rcases Am.mp h with e|e
    ·exact Am.mpr (.inl e)
    ·exact Ak _ (i2 g e)
theorem lK(f:Str)(v:V):∀ fs:List (Str×V),(eQ f v fs).length<=fs.length+1
 |[]=>by simp[eQ]
 |(k,x)::r=>by
  have I:=lK f v r
  rw[show eQ f v ((k,x)::r)=(if k=f then (k,v)::r else (k,x)::eQ f v r) from rfl]
  by_cases hk:k=f
  ·rw[if_pos hk,Ah,Ah];lia
  ·rw[if_neg hk,Ah,Ah];lia
theorem RelO.some_of(r:RelO (some v) o):∃ u,o=some u/\G5 v u:=by
 cases o with
 |none=>exact (show False from r).elim
 |some u=>exact #v[u,rfl,r]
theorem RelO.none_of(r:RelO none o):o=none:=by
 cases o with
 |none=>rfl
 |some u=>exact (show False from r).elim
theorem zT(r:G5 v u):PySem.W.handedIn u=true:=by
 cases v with
 |non=>cases (show u=Value.none from r);rfl
 |bl b=>cases (show u=Value.bool b from r);rfl
 |int i=>let ⟨t,e⟩:=(show ∃ t,u=Value.int i t from r);cases e;rfl
 |str x=>let ⟨t,e⟩:=(show ∃ t,u=Value.str x t from r);cases e;rfl
 |byt b=>let ⟨t,e⟩:=(show ∃ t,u=Value.bytes b t from r);cases e;rfl
 |flt b=>let ⟨t,e⟩:=(show ∃ t,u=Value.float b t from r);cases e;rfl
 |ref a=>cases (show u=Value.ref a from r);rfl
 |ty n=>cases (show u=Value.type n from r);rfl
theorem mE(hok:HOk P w H h)(e:H a=some (.ins C dx fs)):∃ mA,ObjM h a dx C mA/\(∀ f,RelO (fs.lookup f) (mA f))/\PySem.Within mA (fs.map (·.1))/\fs.length<=1000/\H dx=some (.own a):=by
 let ⟨d,z,ne,I,mA,n,r,q⟩:=(show G9 P w H h a (.ins C dx fs) from hok a _ e)
 exact #v[mA,#v[I,n,ne],r,q,z,d]
structure Cls(K:Ad)(C:Addr):Prop where
 pg:D8 K C Str.empty=true
 hd:Et K C=true
 po:Fq K C=true
 sa:A6 K (.ref C) "__setattr__"=some (some (.builtin "object.__setattr__"))
theorem Cls.get{K:Ad}{C:Addr}(c:Cls K C)(f:Str):D8 K C f=true:=c.pg
def NoAttr(K:Ad)(C:Addr)(f:Str):Prop:=A6 K (.ref C) f=some none
theorem NoAttr.taker{K:Ad}{C:Addr}{f:Str}(n:NoAttr K C f):F1 K C f=some none:=by
 unfold F1
 rw[show A6 K (.ref C) f=some none from n]
 rfl
structure Meth(K:Ad)(C:Addr)(m:Str)(f:Addr):Prop where
 at_:A6 K (.ref C) m=some (some (.ref f))
 fn:Ff K (.ref f)=true
 kp:B1 K (.ref f)=true
section
variable {X:Cx}{pins:List (Addr×Obj)}{σ:St}{H:Hp}{s:Shared}{a C dx:Addr}{fs:List (Str×V)}{f:Str}{v:V}{A:Around}{E:Value->Shared->Prop}
theorem vE{b:Bool}{Q:Value->Shared->Prop}(I:Inv X pins σ H s)(e:H a=some (.ins C dx fs))(c:Cls X.K C)(n:NoAttr X.K C f)(l:fs.lookup f=some v)
  (h:∀ u s',Inv X pins σ H s'->G5 v u->Q u s'):wpAny (model X.prog X.w) A (getAttr (.ref a) f b) Q E s:=by
 let ⟨L,O,r,_,_,_⟩:=mE I.hok e
 let ⟨u,S,J⟩:=RelO.some_of (v:=v) (o:=L f) (by rw[<- l];exact r f)
 exact HW I.kIn O (c.get f) c.hd n S (zT J) (h u _ (I.tok _) J)
theorem vF{m:Str}{g:Addr}{pl:Sem Bool}{Q:Value×List Value->Shared->Prop}(I:Inv X pins σ H s)(e:H a=some (.ins C dx fs))(c:Cls X.K C)(k:Meth X.K C m g)(l:fs.lookup m=none)
  (h:Q (.ref g,[.ref a]) s):wpAny (model X.prog X.w) A (getMethod (.ref a) m pl) Q E s:=by
 let ⟨J,O,r,_,_,_⟩:=mE I.hok e
 have L:J m=none:=RelO.none_of (by rw[<- l];exact r m)
 exact BS I.kIn O (c.get m) k.at_ k.fn L h
theorem vG{y:V}{u:Value}{Q:Unit->Shared->Prop}(I:Inv X pins σ H s)(e:H a=some (.ins C dx fs))(c:Cls X.K C)(n:NoAttr X.K C f)(hl:fs.length<1000)(ry:G5 y u)
  (h:∀ s',Inv X pins σ (upd H a (.ins C dx (eQ f y fs))) s'->Q () s'):wpAny (model X.prog X.w) A (setAttr (.ref a) f u) Q E s:=by
 let ⟨S,O,r,Y,_,L⟩:=mE I.hok e
 have hz:(fs.map (·.1)).length<=An:=by rw[Ab,sizeLine_eq];lia
 refine HX I.kIn O c.sa c.po n.taker c.hd Y hz λh' J Z=>h _ ?_
 have hd:∃ o,h'.get? dx=some o:=let ⟨o,_,_,e',_⟩:=J.ns;#v[o,e']
 refine I.write (x:=a) (e:=dx) (by rw[e];exact True.intro) (.inr L) (λb q hb z=>(Z.2 b hb).trans z) hd ?_
 exists by rw[aL O.ne];exact L,?_,O.ne,J.obj,_,J.ns,λg=>?_,λg hg=>?_
 ·have:=lK f y fs;lia
 ·show RelO ((eQ f y fs).lookup g) (if g=f then some u else S g)
  rw[gK]
  by_cases q:g=f
  ·rw[if_pos q,if_pos q];exact ry
  ·rw[if_neg q,if_neg q];exact r g
 ·by_cases q:g=f
  ·rw[q];exact (kO f y fs).1
  ·refine (kO f y fs).2 g (Y g λz=>hg ?_)
   show (if g=f then some u else S g)=none
   rw[if_neg q];exact z
theorem Inv.made(I:Inv X pins σ H s):Inv X pins σ (upd (upd H s.heap.objs.size (.own (s.heap.objs.size+1))) (s.heap.objs.size+1) (.ins C s.heap.objs.size []))
  { s with heap:=(s.heap.push Cn).push (C5 C s.heap.objs.size) }:=by
 have e1:(s.heap.push Cn).get? s.heap.objs.size=some Cn:=Ap s.heap rfl
 have e2:((s.heap.push Cn).push (C5 C s.heap.objs.size)).get? (s.heap.objs.size+1)=some (C5 C s.heap.objs.size):=by
  have:=Ap (s.heap.push Cn) (o:=C5 C s.heap.objs.size) rfl
  rwa [Dz]at this
 have e3:(s.heap.push Cn).Ns s.heap.objs.size (λ_=>none):=#v[Cn,#[],_,e1,rfl,(λe L=>absurd L (by simp)),λ_=>rfl]
 have J:=I.laid (a:=s.heap.objs.size) (o:=.own (s.heap.objs.size+1)) (h':=s.heap.push Cn) (t':=s.toks) (λb u q=>Af _ q) (Ao _) #v[_,e1]
 refine J.laid (a:=s.heap.objs.size+1) (o:=.ins C s.heap.objs.size []) (t':=s.toks) (λb u q=>Af _ q) (En (Dz _ _)) ?_
 have ne:s.heap.objs.size≠s.heap.objs.size+1:=A1 (Ft _)
 exists by rw[aL ne,aI],Cr _,ne,e2,λ_=>none,(Heap.Ns1.of_empty e3).at λo q=>Af _ q,λ_=>True.intro,λy hy=>absurd rfl hy
theorem xJ(I:attributeBase e f env (eval e env)=eval e env)
  (h:wpAny (model prog w) A (eval e env) (λo s₁=>wpAny (model prog w) A (getAttr o f true) Q E s₁) E s):wpAny (model prog w) A (eval (.Attribute e f pos) env) Q E s :=
 Attribute_any_ h (by rw[arm_eval_Attribute,I])
end
def VM(K:Ad)(ta:TE)(f:Str):TE:=λσ H Q=>ta σ H λx H1=>∃ a C dx fs v,x=.ref a/\H1 a=some (.ins C dx fs)/\Cls K C/\NoAttr K C f/\fs.lookup f=some v/\Q v H1
theorem NA(S:PE X e ta)(Y:attributeBase e f X.env (eval e X.env)=eval e X.env):PE X (.Attribute e f pos) (VM X.K ta f):=by
 intro J s σ H Q I h
 refine xJ Y (thn (S J s σ H _ I h) λu s1 ⟨x,H1,I1,rx,a,C,dx,fs,v,ex,ea,c,n,l,q⟩=>?_)
 subst ex
 obtain rfl:u=Value.ref a:=rx
 exact vE I1 ea c n l λZ V L O=>#v[v,H1,L,O,q]
section
variable {X:Cx}{pins:List (Addr×Obj)}{σ:St}{H:Hp}{s:Shared}{A:Around}{E:Value->Shared->Prop}{Q:Value->Shared->Prop}{c:Value}{b:Bool}
inductive TyOf(K:Ad)(H:Hp):V->Value->Prop where
 |non:TyOf K H .non (.type "NoneType")
 |bl (x:Bool):TyOf K H (.bl x) (.type "bool")
 |int (i:Int):TyOf K H (.int i) (.type "int")
 |str (x:Str):TyOf K H (.str x) (.type "str")
 |flt (x:UInt64):TyOf K H (.flt x) (.type "float")
 |lst {a:Addr} {xs:List V} (e:H a=some (.lst xs)):TyOf K H (.ref a) (.type "list")
 |frz {a:Addr} {o:Obj} {xs:List V} (e:H a=some (.frz o (.lst xs))):TyOf K H (.ref a) (.type "list")
 |tup {a:Addr} {xs:List V} (e:H a=some (.tup xs)):TyOf K H (.ref a) (.type "tuple")
 |dK {a:Addr} {kvs:List (Key×V)} (e:H a=some (.dK kvs)):TyOf K H (.ref a) (.type "dict")
 |dT {a:Addr} {kvs:List (List Key×V)} (e:H a=some (.dT kvs)):TyOf K H (.ref a) (.type "dict")
 |ins {a C dx:Addr} {fs:List (Str×V)} (e:H a=some (.ins C dx fs)) (cl:Cls K C) (ha:A6 K (.ref C) "__class__"=some (some (.builtin "object.__class__")))
   (hn:PySem.W.specialIn K (.builtin "object.__class__") "__get__"=some (some (.builtin "getset_descriptor.__get__"))) (htk:PySem.W.takesIn K (.builtin "object.__class__")=some true)
   (hm:PySem.W.mroIn K C (.type "object")=some true):TyOf K H (.ref a) (.ref C)
theorem zU{x:V}{u t:Value}(I:Inv X pins σ H s)(L:G5 x u)(Z:TyOf X.K H x t)(e:D5 X.K t c=some b)(h:∀ tk,Q (.bool b) { s with toks:=tk }) :
  wpAny (model X.prog X.w) A (call (.builtin "isinstance") [u,c]) Q E s:=by
 cases Z with
 |non=>cases (show u=Value.none from L);exact Ci PySem.W.kitx_none I.kIn True.intro e (λz=>nomatch z) h
 |bl y=>cases (show u=Value.bool y from L);exact Ci PySem.W.kitx_bool I.kIn True.intro e (λz=>nomatch z) h
 |int i=>let ⟨t,q⟩:=(show ∃ t,u=Value.int i t from L);cases q;exact Ci PySem.W.kitx_int I.kIn True.intro e (λz=>nomatch z) h
 |str y=>let ⟨t,q⟩:=(show ∃ t,u=Value.str y t from L);cases q;exact Ci PySem.W.kitx_str I.kIn True.intro e (λz=>nomatch z) h
 |flt y=>let ⟨t,q⟩:=(show ∃ t,u=Value.float y t from L);cases q;exact Ci PySem.W.kitx_float I.kIn True.intro e (λz=>nomatch z) h
 |@lst a xs ea =>
  cases (show u=Value.ref a from L)
  let ⟨_,_,n,_,h1⟩:=(show G9 X.prog X.w H s.heap a (.lst xs) from I.hok a _ ea)
  exact Ci PySem.W.kitx_list I.kIn #v[_,h1,rfl] e (λz=>nomatch z) h
 |@frz a ob xs ea =>
  cases (show u=Value.ref a from L)
  let ⟨_,_,_,n,_,h1⟩:=(show G9 X.prog X.w H s.heap a (.frz ob (.lst xs)) from I.hok a _ ea)
  exact Ci PySem.W.kitx_list I.kIn #v[_,h1,rfl] e (λz=>nomatch z) h
 |@tup a xs ea =>
  cases (show u=Value.ref a from L)
  let ⟨_,_,_,p⟩:=(show G9 X.prog X.w H s.heap a (.tup xs) from I.hok a _ ea)
  let ⟨o,h1,h2,_⟩:=p
  exact Ci PySem.W.kitx_tuple I.kIn #v[o,h1,h2] e (λz=>nomatch z) h
 |@dK a kvs ea =>
  cases (show u=Value.ref a from L)
  let ⟨_,_,vs,_,p⟩:=(show G9 X.prog X.w H s.heap a (.dK kvs) from I.hok a _ ea)
  let ⟨o,es,ep,h1,h2,_⟩:=p
  exact Ci PySem.W.kitx_dict I.kIn #v[o,h1,h2.1] e (λz=>nomatch z) h
 |@dT a kvs ea =>
  cases (show u=Value.ref a from L)
  let ⟨_,_,xs,_,o,es,ep,h1,h2,_⟩:=(show G9 X.prog X.w H s.heap a (.dT kvs) from I.hok a _ ea)
  exact Ci PySem.W.kitx_dict I.kIn #v[o,h1,h2.1] e (λz=>nomatch z) h
 |@ins a C dx fs ea cl ha hn htk hm =>
  cases (show u=Value.ref a from L)
  let ⟨S,O,_⟩:=mE I.hok ea
  let ⟨Y,J,_⟩:=O.look
  exact Ci (PySem.W.kitx_own (cl.get _) cl.hd ha hn htk hm) I.kIn J e (λz=>nomatch z) h
end
structure Room(k:Nat)(A:Around):Prop where
 hd:A.handled=none
 dp:A.depth+3*k+5<recursionLimit
 un:A.units+16*k+200<cLine
theorem Room.mono(r:Room k A)(h:j<=k):Room j A:=#v[r.hd,by have:=r.dp;lia,by have:=r.un;lia]
theorem Room.deeper(r:Room (k+1) A)(env:Env):Room k (A.deeper env) :=
 #v[r.hd,by have:=r.dp;show A.depth+1+3*k+5<_;lia,by have:=r.un;show A.units+3+16*k+200<_;lia]
theorem vH{A:Around}:(A.under (.builtin "type.__call__" #v[.ref C::us,kw])).depth=A.depth+1:=by
 first|rfl|simp[Around.under,Code.weight,Code.isCreation,Code.isGuard,Code.isCaller,Code.frames,Code.isFrame,guardIds]
theorem vI{A:Around}:(A.under (.builtin "type.__call__" #v[.ref C::us,kw])).units=A.units+1:=by
 first|rfl|simp[Around.under,Code.cUnits,Code.frames,Code.isFrame]
theorem Room.make(r:Room (k+1) A)(C:Addr)(us:List Value)(I:List (Str×Value)):Room k (A.under (.builtin "type.__call__" #v[.ref C::us,I])) :=
 #v[r.hd,by have:=r.dp;rw[vH];lia,by have:=r.un;rw[vI];lia]
theorem Room.depth(r:Room k A):A.depth<recursionLimit:=by have:=r.dp;lia
theorem Room.units(r:Room k A):A.units+64<cLine:=by have:=r.un;lia
abbrev Sp:=List V->Hp->VK->XK->Prop
abbrev CXT:=List Env->Hp->Shared->XK->Value->Shared->Prop
structure Env0(P:Program)(w:World)(K:Ad)(mg:Str->Option Value)(base:Heap)(A:Around)(outer:List Env)(s:Shared)(H:Hp):Prop where
 frames:A.frames=some outer
 mod:Mod K mg base
 bs:∀ b o,base.get? b=some o->s.heap.get? b=some o/\H b=none
 bsz:base.objs.size<=s.heap.objs.size
 funs:s.heap.FunFrames base outer
 frf:∀ b∈frs outer,H b=none
 hok:HOk P w H s.heap
 bare:AllBare s.gens
def CE(outer:List Env)(P:Program)(w:World)(H:Hp)(s:Shared)(Q:VK)(u:Value)(s':Shared):Prop :=
 ∃ v H',s'.os=s.os/\AllBare s'.gens/\Un (frs outer) [] H H' s.heap s'.heap/\HOk P w H' s'.heap/\G5 v u/\Q v H'
def CR(CX:CXT)(outer:List Env)(P:Program)(w:World)(H:Hp)(s:Shared)(Q:VK)(E:XK)(r:Result)(s':Shared):Prop :=
 match r with
 |.ok (.ret u)=>CE outer P w H s Q u s'
 |.ok _=>False
 |.error e=>CX outer H s E e s'
structure F8(P:Program)(w:World)(K:Ad)(mg:Str->Option Value)(base:Heap)(CX:CXT)(k:Nat)(f:Addr)(fd:FuncData)(ps:List Str)(sp:Sp):Prop where
 len:∀ vs H Q E,sp vs H Q E->vs.length=ps.length
 run:∀(A:Around) (outer:List Env) (s:Shared) (H:Hp) (args:Args) (us:List Value) (vs:List V) (Q:VK) (E:XK),Room k A->Env0 P w K mg base A outer s H->BindsTo s fd args (ps.zip us)->Vals vs us->sp vs H Q E ->
  codeAny (model P w) A (.call (.ref f) args) (CR CX outer P w H s Q E) s
theorem F8.mono{P:Program}{w:World}{K:Ad}{mg:Str->Option Value}{base:Heap}{CX:CXT}{j k:Nat}{f:Addr}{fd:FuncData}{ps:List Str}{sp:Sp}(F:F8 P w K mg base CX j f fd ps sp)(h:j<=k) :
  F8 P w K mg base CX k f fd ps sp:=#v[F.len,λA outer s H args us vs Q E hr=>F.run A outer s H args us vs Q E (hr.mono h)]
theorem Env0.make{P:Program}{w:World}{K:Ad}{mg:Str->Option Value}{base:Heap}{A:Around}{outer:List Env}{s:Shared}{H:Hp}(e:Env0 P w K mg base A outer s H)(C:Addr)(us:List Value)(I:List (Str×Value)) :
  Env0 P w K mg base (A.under (.builtin "type.__call__" #v[.ref C::us,I])) outer s H:=#v[by first|exact e.frames|(simpa [Around.under,Code.envs,Code.isFrame,pushEnvs] using e.frames),e.mod,e.bs,e.bsz,e.funs,e.frf,e.hok,e.bare]
section
variable {X:Cx}{pins:List (Addr×Obj)}{σ:St}{H:Hp}{s s':Shared}
theorem Inv.env0(I:Inv X pins σ H s):Env0 X.prog X.w X.K X.mg X.base X.A X.stack s H :=
 #v[I.ok.frames,I.ok.mod,I.bs,Ay I.ok.bsz I.sz,I.stack,I.stkFree,I.hok,I.bare]
theorem Inv.after{Q:VK}{u:Value}(I:Inv X pins σ H s)(h:CE X.stack X.prog X.w H s Q u s'):EP X pins σ Q u s':=by
 let ⟨v,H',os,J,O,hok,r,q⟩:=h
 let ⟨S,g,d,t,L⟩:=s'
 obtain rfl:L=s.os:=os
 exact #v[v,H',I.call (h':=S) (g':=g) (d':=d) (t':=t) (ch:=[]) O hok J (λb z=>absurd z (by simp)),r,q]
end
def Binds(K:Ad)(fd:FuncData)(ps:List Str)(ds:List Value):Prop :=
 ∀(s:Shared) (us:List Value),K.In s.heap->(us++ds).length=ps.length->BindsTo s fd #v[us,[]] (ps.zip (us++ds))
theorem Binds.all{K:Ad}{fd:FuncData}{ps:List Str}(h:∀ us:List Value,us.length=ps.length->bindArgs fd #v[us,[]]=pure (ps.zip us)):Binds K fd ps []:=λs us _ hl=>by
 rw[A7]at hl ⊢
 exact .of_eq (h us hl)
def BV(CX:CXT)(X:Cx)(E:XK):Prop:=∀(pins:List (Addr×Obj)) (σ:St) (H:Hp) (s:Shared) (e:Value) (s':Shared),Inv X pins σ H s->CX X.stack H s E e s'->X.xe e s'
section
variable {X:Cx}{CX:CXT}{k:Nat}{f C:Addr}{fd:FuncData}{ps:List Str}{sp:Sp}{dvs:List V}{ds:List Value}{E:XK}{x m:Str}{p pos apos:Pos}{e o:Expr}{es:List Expr}{ta:TE}{t:TA}
theorem NB{pins:List (Addr×Obj)}{σ:St}{H:Hp}{s:Shared}{Q:VK}{us:List Value}{vs:List V}(F:F8 X.prog X.w X.K X.mg X.base CX k f fd ps sp)(hr:Room k X.A)(Y:Binds X.K fd ps ds)(hd:Vals dvs ds)(hx:BV CX X E)
  (I:Inv X pins σ H s)(r:Vals vs us)(h:sp (vs++dvs) H Q E):wpAny (model X.prog X.w) X.A (call (.ref f) us) (EP X pins σ Q) X.xe s:=by
 have L:Vals (vs++dvs) (us++ds):=r.append hd
 have hl:(us++ds).length=ps.length:=by rw[<- L.length];exact F.len _ _ _ _ h
 refine wpAny_call (codeAny_mono (F.run X.A X.stack s H #v[us,[]] (us++ds) (vs++dvs) Q E hr I.env0 (Y s us I.kIn hl) L h) λr O J=>?_)
 cases r with
 |error e=>exact hx pins σ H s e O I J
 |ok S =>
  cases S with
  |ret u=>exact I.after J
  |next=>exact False.elim J
  |brk=>exact False.elim J
  |cont=>exact False.elim J
structure Mk(K:Ad)(C f:Addr):Prop where
 makes:E8 K C=true
 init:A6 K (.ref C) "__init__"=some (some (.ref f))
 fn:Ff K (.ref f)=true
 kp:B1 K (.ref C)=true
end
structure FnScope(N P:List Str)(sc:Scope):Prop where
 kind:sc.kind=.function
 co:sc.isCoroutine=false
 gen:sc.isGenerator=false
 nd:N.Nodup
 pre:N.take P.length=P
 par:∀ x∈P,sc.names.lookup x=some .local\/sc.names.lookup x=some .cell
 nofree:∀ y∈sc.names,y.2≠.free
theorem pH{I:Str->Option NameKind}{x:Str}:∀{binds:List (Str×Value)} {m:Str->Option Value},(∀ v,(x,v)∉binds)->bindL I binds m x=m x
 |[],_,_=>rfl
 |(n,v)::r,m,h=>by
  unfold bindL
  rw[pH λw hw=>h w (Ak _ hw)]
  split
  ·have:x≠n:=by rintro rfl;exact h v Aj
   simp[this]
  ·rfl
theorem pI{I:Str->Option NameKind}{x:Str}:∀{binds:List (Str×Value)} {m:Str->Option Value},(∀ v,(x,v)∉binds)->bindC I binds m x=m x
 |[],_,_=>rfl
 |(n,v)::r,m,h=>by
  unfold bindC
  rw[pI λw hw=>h w (Ak _ hw)]
  split
  ·rfl
  ·have:x≠n:=by rintro rfl;exact h v Aj
   simp[this]
theorem pJ{I:Str->Option NameKind}{x:Str}{v:Value}:∀{P:List Str} {vs:List Value} {i:Nat} {m:Str->Option Value},P.Nodup->P[i]?=some x->vs[i]?=some v->I x=some .local ->
  bindL I (P.zip vs) m x=some v
 |[],_,_,_,_,h,_,_=>by simp at h
 |_::_,[],_,_,_,_,h,_=>by simp at h
 |p::P,w::vs,0,m,nd,h1,h2,hk=>by
  simp at h1 h2;subst h1;subst h2
  show bindL I ((p,w)::P.zip vs) m p=_
  unfold bindL
  rw[pH λv J=>(Br.mp nd).1 (Fz J).1,if_pos hk]
  simp
 |p::P,w::vs,i+1,m,nd,h1,h2,hk=>by
  show bindL I ((p,w)::P.zip vs) m x=_
  unfold bindL
  exact pJ (i:=i) (Br.mp nd).2 (by simpa using h1) (by simpa using h2) hk
theorem pL{I:Str->Option NameKind}{x:Str}{v:Value}:∀{P:List Str} {vs:List Value} {i:Nat} {m:Str->Option Value},P.Nodup->P[i]?=some x->vs[i]?=some v->I x≠some .local ->
  bindC I (P.zip vs) m x=some v
 |[],_,_,_,_,h,_,_=>by simp at h
 |_::_,[],_,_,_,_,h,_=>by simp at h
 |p::P,w::vs,0,m,nd,h1,h2,hk=>by
  simp at h1 h2;subst h1;subst h2
  show bindC I ((p,w)::P.zip vs) m p=_
  unfold bindC
  rw[pI λv J=>(Br.mp nd).1 (Fz J).1,if_neg hk]
  simp
 |p::P,w::vs,i+1,m,nd,h1,h2,hk=>by
  show bindC I ((p,w)::P.zip vs) m x=_
  unfold bindC
  exact pL (i:=i) (Br.mp nd).2 (by simpa using h1) (by simpa using h2) hk
def start(N:List Str)(vs:List V):St:=vs.map some++Bw (N.length-vs.length) none
def eX(CX:CXT)(P:Program)(w:World)(K:Ad)(mg:Str->Option Value)(base:Heap)(N:List Str)(qual:Str)(scope:Scope)(f:Addr)(cd:Value)(A:Around)(outer:List Env)(s:Shared)(H:Hp)(E:XK):Cx where
 prog:=P
 w:=w
 K:=K
 mg:=mg
 base:=base
 A:=A.deeper (envOfC qual scope s.heap.objs.size f cd)
 N:=N
 s₀:=s
 H₀:=H
 env:=envOfC qual scope s.heap.objs.size f cd
 outer:=outer
 stack:=envOfC qual scope s.heap.objs.size f cd::outer
 ex:=[]
 calm:=true
 fn:=λ_=>true
 pn:=[]
 xe:=λe s'=>wpAny (model P w) (A.deeper (envOfC qual scope s.heap.objs.size f cd)) (leaving (envOfC qual scope s.heap.objs.size f cd) e) (λ_ s''=>CX outer H s E e s'') (λe' s''=>CX outer H s E e' s'') s'
theorem sR{I:Scope}(h:I.names.lookup x=some .cell):∃ c,(cellsFrom n I.names []).lookup x=some c:=by
 have q:=PySem.W.cellsFrom_some I.names n [] (.inl h)
 exact C0.mp q
theorem zV{CX:CXT}{P:Program}{w:World}{K:Ad}{mg:Str->Option Value}{base:Heap}{N ps:List Str}{Y:Str}{scope:Scope}{f:Addr}{cd:Value}{A:Around}{outer:List Env}{s s1:Shared}{H:Hp}{E:XK}{us:List Value}{vs:List V}
  (S:FnScope N ps scope)(hd:A.handled=none)(e0:Env0 P w K mg base A outer s H)(hl:vs.length=ps.length)(r:Vals vs us)
  (x:InCallC s s.heap.objs.size (bindL (envOfC Y scope s.heap.objs.size f cd).kindOf (ps.zip us) λ_=>none) (cellsFrom (s.heap.objs.size+1) scope.names []) (bindC (envOfC Y scope s.heap.objs.size f cd).kindOf (ps.zip us) λ_=>none) s1) :
  Inv (eX CX P w K mg base N Y scope f cd A outer s H E) [] (start N vs) H s1:=by
 have b1:ps.length<=N.length:=by have:=congrArg F2 S.pre;rw[Bt]at this;lia
 let ⟨h1,tk,rfl,hk⟩:=x.done
 have I:∀ b:Addr,b∉(eX CX P w K mg base N Y scope f cd A outer s H E).ex:=λb z=>absurd (show b∈([]:List Addr) from z) (by simp)
 refine #v[#v[e0.mod,S.kind,rfl,rfl,Ao _,λy z c h1 h2=>?_,λy hy=>?_,λy c _ h=>?_,λ_=>hd,Around.frames_deeper e0.frames,.inr #v[rfl,rfl],λb z=>absurd z (I b),e0.bs,e0.bsz,λb _ _=>I b,λb z=>absurd z (I b),e0.funs,e0.frf],
  rfl,e0.bare,Un.kept hk,#v[_,x.toInCall.ns,λi y v h1 h2 h3=>?_],λy c h=>#v[_,x.cell y c h],e0.hok.fresh (Ao _),λy c h=>?_,λp J=>absurd (show p∈([]:List (Addr×Obj)) from J) (by simp),e0.hok.kept hk,?_]
 ·exact name_of_addr x.apart (PySem.mem_of_lookup h1) (PySem.mem_of_lookup h2)
 ·have hy:scope.names.lookup y=some .cell\/scope.names.lookup y=some .free:=hy
  rcases hy with hy|hy
  ·exact sR hy
  ·exact absurd rfl (S.nofree _ (PySem.mem_of_lookup hy))
 ·exact Em (x.above y c (PySem.mem_of_lookup h))
 ·have O:i<vs.length:=by
   unfold start at h2
   by_cases O:i<vs.length
   ·exact O
   ·rw[Cg (by simpa using O)]at h2
    rw[Dn]at h2
    split at h2<;>cases h2
  have ha:vs[i]?=some v:=by
   unfold start at h2
   rw[Cu (by simpa using O),Ar]at h2
   cases e:vs[i]? with
   |none=>rw[e]at h2;cases h2
   |some a=>rw[e]at h2;cases h2;rfl
  let ⟨u,Z,rv⟩:=r.get ha
  have J:ps[i]?=some y:=by
   rw[<- S.pre,List.getElem?_take_of_lt (by lia)];exact h1
  have L:ps.Nodup:=by rw[<- S.pre];exact S.nd.sublist (List.take_sublist _ _)
  exists u,rv,?_
  rcases S.par y (Bf J) with k|k
  ·exact .inl #v[k,pJ L J Z k]
  ·let ⟨c,e⟩:=sR (n:=s.heap.objs.size+1) k
   refine .inr #v[.inl k,c,e,?_]
   have q:=x.cell y c e
   rw[pL L J Z (by show scope.names.lookup y≠_;rw[k];decide)]at q
   exact q
 ·exact e0.hok.fresh (Em (x.above y c (PySem.mem_of_lookup h)))
 ·unfold start
  show _=N.length
  rw[Ae,Ab,De]
  lia
theorem LQ{CX:CXT}{P:Program}{w:World}{K:Ad}{mg:Str->Option Value}{base:Heap}{k:Nat}{f:Addr}{name b1:Str}{b3:Arguments}{body:List Stmt}{scope:Scope}{dV kV b5 pm cdv ct oc:Value}{an od:Option Addr}
  {b4:Array (Option Value)}{N ps:List Str}{sp:Sp}(lk:K.lookup f=some #v[oc,od,.func (C1 name b1 b3 body scope dV kV b5 pm an cdv ct),b4])(b2:Dd K cdv b1=true)(S:FnScope N ps scope)
  (len:∀ vs H Q E,sp vs H Q E->vs.length=ps.length)
  (hbody:∀(A:Around) (outer:List Env) (s:Shared) (H:Hp) (vs:List V) (Q:VK) (E:XK),Room k (A.deeper (envOfC b1 scope s.heap.objs.size f cdv))->sp vs H Q E ->
   ∃ t,PSs (eX CX P w K mg base N b1 scope f cdv A outer s H E) body t/\t { nx:=λ_ H'=>Q .non H',rt:=Q } (start N vs) H) :
  F8 P w K mg base CX (k+1) f (C1 name b1 b3 body scope dV kV b5 pm an cdv ct) ps sp:=by
 exists len,λA outer s H args us vs Q E hr e0 hb r O=>?_
 have hl:=len _ _ _ _ O
 have KX:K.In s.heap:=e0.mod.kin.keeps λb o e=>(e0.bs b o e).1
 have Z:s.heap.NoLimit:=e0.mod.nolimit.keeps λb o e=>(e0.bs b o e).1
 have L:∀ y∈ps.zip us,scope.names.lookup y.1=some .local\/(scope.names.lookup y.1=some .cell/\((cellsFrom (s.heap.objs.size+1) scope.names []).lookup y.1).isSome=true):=λ⟨n,v⟩ hy=>by
  rcases S.par n (Fz hy).1 with q|q
  ·exact .inl q
  ·exact .inr #v[q,PySem.W.cellsFrom_some _ _ _ (.inl q)]
 refine codeAny_call_function hr.depth (KX _ _ lk) rfl S.co S.gen rfl (PySem.W.codeRec_of KX b2) (hb _ _ _ _ ?_)
 refine wpAny_newFunctionEnv_cells S.kind L λenv he s1 x=>?_
 subst he
 exists Z.keeps x.toInCall.keep,codeAny_func ?_
 let ⟨t,ht,hq⟩:=hbody A outer s H vs Q E (hr.deeper _) O
 have I:Inv (eX CX P w K mg base N b1 scope f cdv A outer s H E) [] (start N vs) H s1:=zV S hr.hd e0 hl r x
 refine Cz (ht [] s1 (start N vs) H _ I hq) (λfl s' hs=>?_) λe s' hs=>hs
 have Y:∀{σ':St} {H':Hp} {v:V} {u:Value},Inv (eX CX P w K mg base N b1 scope f cdv A outer s H E) [] σ' H' s'->G5 v u->Q v H'->CE outer P w H s Q u s' :=
  λ{σ' H' v u} J rv q=>#v[v,H',J.os,J.bare,J.base,J.hok,rv,q]
 cases fl with
 |ret u =>
  let ⟨v,σ',H',J,rv,q⟩:=hs
  exact Y J rv q
 |next =>
  let ⟨σ',H',J,q⟩:=hs
  exact Y (v:=V.non) (u:=Value.none) J rfl q
 |brk =>
  let ⟨_,_,_,q⟩:=hs
  exact False.elim q
 |cont =>
  let ⟨_,_,_,q⟩:=hs
  exact False.elim q
end L2
namespace HT
open PySem PyProof.Rows
section
open PySem.SeqAt
open PySem.AutoSeq1 (wpAny_loadPart')
open PySem.MeetsSeq PySem.MeetsSeq2 PySem.MeetsSeq3
end
section
variable {prog:Program}{w:World}{A:Around}{E:Value->Shared->Prop}{s:Shared}
theorem HY(ht:IsTup s.heap t vs.toArray)(hb:IsTup s.heap b ws.toArray)(hv:vs≠[])
  (h1:ws=[]->Q (.ref t) s)(h2:ws≠[]->Q (.ref s.heap.objs.size) { s with heap:=s.heap.push { cls:=.type "tuple",data:=.seq (vs++ws).toArray } })
  (hsz:vs.length+ws.length<=An):wpAny (model prog w) A (binaryOp .Add (.ref t) (.ref b)) Q E s:=by
 let ⟨⟨cls,dd,data,sl⟩,V,Z,n,hd⟩:=id ht
 let ⟨⟨b1,S,Y,L⟩,I,J,n2,O⟩:=id hb
 simp only at Z hd J O
 subst Z hd J O
 have e:vs.toArray++ws.toArray=(vs++ws).toArray:=by simp
 by_cases hw:ws=[]
 ·exact concat_meets #v[_,V,rfl] #v[_,I,rfl] noFill_tuple_add seq_tuple_add PySem.F.slot_tuple_add PySem.F.entry_tuple_add (PySem.F.args_tuple_add_2 _ _)
   (tuple_addW1 t b vs.toArray ws.toArray n n2 dd S sl L (by simpa using hv) (by simp[hw])) #v[V,I,h1 hw]
 ·refine concat_meets #v[_,V,rfl] #v[_,I,rfl] noFill_tuple_add seq_tuple_add PySem.F.slot_tuple_add PySem.F.entry_tuple_add (PySem.F.args_tuple_add_2 _ _)
   (tuple_addW2 t b vs.toArray ws.toArray n n2 dd S sl L (by simpa using hv) (by simpa using hw) (by rw[Av,Av];exact hsz)) #v[V,I,?_]
  rw[e]
  exact h2 hw
def sIx(n d:Nat):Option Int->Nat
 |none=>d
 |some v=>if v<0 then (v+(n:Int)).toNat else min v.toNat n
theorem gN(n d:Nat):sIx n d none=d:=rfl
theorem fH(n d k:Nat):sIx n d (some (k:Int))=min k n:=by
 show (if (k:Int)<0 then ((k:Int)+(n:Int)).toNat else min (k:Int).toNat n)=min k n
 rw[if_neg (by lia),Cp]
theorem NC(n d:Nat)(hd:d<=n)(o:Option Int):sIx n d o<=n:=by
 cases o with
 |none=>exact hd
 |some v =>
  show (if v<0 then (v+(n:Int)).toNat else min v.toNat n)<=n
  by_cases hv:v<0
  ·rw[if_pos hv];lia
  ·rw[if_neg hv];exact Eu _ _
theorem xK(v:Int)(n d:Nat):(if v<0 then max (v+(n:Int)) 0 else min v (n:Int))=((sIx n d (some v):Nat):Int):=by
 show (if v<0 then max (v+(n:Int)) 0 else min v (n:Int))=(((if v<0 then (v+(n:Int)).toNat else min v.toNat n):Nat):Int)
 by_cases hv:v<0
 ·simp only[if_pos hv];lia
 ·simp only[if_neg hv];lia
theorem vJ(I J:Option Int)(n:Nat):D9 I J 1 (n:Int)=(((sIx n 0 I:Nat):Int),((sIx n n J:Nat):Int)):=by
 have h1:¬ ((1:Int)<0):=by lia
 unfold D9
 simp only[h1,if_false]
 refine Prod.ext ?_ ?_
 ·cases I with
  |none=>rfl
  |some v=>exact xK v n 0
 ·cases J with
  |none=>rfl
  |some v=>exact xK v n n
theorem vK(i j:Nat):Df (i:Int) (j:Int) 1=j-i:=by
 unfold Df
 have h1:(1:Int)>0:=by lia
 simp only[h1,if_true,Int.ediv_one]
 split<;>lia
theorem mY(p:IsPart v o)(h:Q o s):wpAny (model prog w) A (Builtin.Slice.slicePartIndex v) Q E s:=by
 cases p with
 |none=>exact slicePart_none h
 |int i t=>exact slicePart_int h
theorem fR{sl:Addr}{vl Y:Value}{L O:Option Int}{n:Nat}{Q:Int×Int×Nat->Shared->Prop}(hs:s.heap.IsSliceOf sl vl Y .none)(pl:IsPart vl L)(Z:IsPart Y O)
  (h:Q (((sIx n 0 L:Nat):Int),1,sIx n n O-sIx n 0 L) s):wpAny (model prog w) A (Fj (.ref sl) (pure (n:Int))) Q E s:=by
 let ⟨V,I,S,J⟩:=id hs
 unfold Fj Builtin.Slice.sliceFields
 refine Ac (Ac (wpAny_field I J (x:=vl) rfl (Ac (wpAny_field I J (x:=Y) rfl (Ac (wpAny_field I J (x:=.none) rfl (Ag ?_)))))))
 refine Ac (slicePart_none ?_)
 show wpAny _ _ (if ((1:Int) == 0)=true then _ else _) _ _ s
 rw[if_neg (by decide)]
 refine Ac (mY pl (Ac (mY Z (Ac (Ag ?_)))))
 show wpAny _ _ (match D9 L O 1 (n:Int) with|(L,O)=>pure (L,(1:Int),Df L O 1)) _ _ s
 rw[vJ L O n]
 show wpAny _ _ (pure (((sIx n 0 L:Nat):Int),(1:Int),Df ((sIx n 0 L:Nat):Int) ((sIx n n O:Nat):Int) 1)) _ _ s
 rw[vK]
 exact Ag h
theorem BW(xs:Array Value)(i k:Nat):((Ca k).filterMap λ(m:Nat)=>xs[((i:Int)+(m:Int)*1).toNat]?).toArray=((xs.toList.drop i).take k).toArray:=by
 have e:(λ(m:Nat)=>xs[((i:Int)+(m:Int)*1).toNat]?)=λm=>xs[i+m]?:=by
  funext m
  have:((i:Int)+(m:Int)*1).toNat=i+m:=by lia
  rw[this]
 rw[e]
 have:=pick_run xs i k
 rw[List.filterMap_map]at this
 have e2:((λx=>xs[x]?)∘λx=>i+x)=λm=>xs[i+m]?:=rfl
 rw[e2]at this
 rw[this]
theorem jG{t sl:Addr}{items:Array Value}{vl vu:Value}{J L:Option Int}{Q:Value->Shared->Prop}(O:IsTup s.heap t items)(hs:s.heap.IsSliceOf sl vl vu .none)(pl:IsPart vl J)(pu:IsPart vu L)
  (hw:¬ (sIx items.size 0 J=0/\sIx items.size items.size L=items.size))
  (h:Q (.ref s.heap.objs.size) { s with heap:=s.heap.push { cls:=.type "tuple",data:=.seq ((items.toList.drop (sIx items.size 0 J)).take (sIx items.size items.size L-sIx items.size 0 J)).toArray } })
  (hsz:items.size<=An):wpAny (model prog w) A (getItem (.ref t) (.ref sl)) Q E s:=by
 have I:sizeOk (.seq ((items.toList.drop (sIx items.size 0 J)).take (sIx items.size items.size L-sIx items.size 0 J)).toArray):=by
  show ((items.toList.drop (sIx items.size 0 J)).take (sIx items.size items.size L-sIx items.size 0 J)).toArray.size<=An
  rw[Av,Bt,Cy,C6]
  lia
 have hj:sIx items.size items.size L<=items.size:=NC _ _ (Ao _) L
 let ⟨os,Y,V,b1⟩:=id hs
 have S:s.TypeIs (.ref sl) "slice":= #v[os,Y,V]
 unfold getItem
 try with_reducible refine wpAny_holding ?_
 first|refine Ac (Ag ?_)|skip
 refine Ac (wpAny_sequenceKey O.typeIs (by decide) ?_)
 refine Ac (wpAny_callSpecial?_slot (name:=Aa "__getitem__") O.typeIs PyProof.Rows.slot_tuple_getitem
  (wpAny_call_entry PyProof.Rows.slot_tuple_getitem O.typeIs entry_tuple_getitem ?_ (args_tuple_getitem _ _)))
 show wpAny _ _ (Fk (.ref t) >>= _) _ _ s
 refine Ac (tupleItemsOf_ O ?_)
 refine Ac (wpAny_typeOf S ?_)
 rw[if_pos (by decide)]
 refine Ac (fR hs pl pu ?_)
 have Z:¬ ((((sIx items.size 0 J:Nat):Int) == 0&&(1:Int) == 1&&(sIx items.size items.size L-sIx items.size 0 J) == items.size)=true):=by
  intro q
  rw[Bl,Bl]at q
  have q1:((sIx items.size 0 J:Nat):Int)=0:=eq_of_beq q.1.1
  have q2:sIx items.size items.size L-sIx items.size 0 J=items.size:=eq_of_beq q.2
  exact hw #v[by lia,by lia]
 show wpAny _ _ (if (((sIx items.size 0 J:Nat):Int) == 0&&(1:Int) == 1&&(sIx items.size items.size L-sIx items.size 0 J) == items.size)=true then _ else _) _ _ s
 rw[if_neg Z,BW]
 first
  |exact Ac (m:=Dm _) (Bs (Ag #v[_,rfl,Ag h]) I)
  |exact Ac (m:=Dm _) (Bs (Ac (Ag (Ag #v[_,rfl,Ag h]))) I)
  |exact Ac (Ac (m:=Dm _) (Bs (Ag (Ag #v[_,rfl,Ag h])) I))
  |exact Ac (Ac (m:=Dm _) (Bs (Ag #v[_,rfl,Ag h]) I))
end
end HT
namespace L2
open PySem PySem.Spec PyProof.Rows
abbrev TO:=St->Hp->(Option Int->Hp->Prop)->Prop
def SlR(X:Cx)(r:V->Option Int->Option Int->Hp->VK->Prop):Prop :=
 ∀(pins:List (Addr×Obj)) (s:Shared) (σ:St) (H:Hp) (x:V) (v vl vu:Value) (lo hi:Option Int) (sl:Addr) (Q:VK),Inv X pins σ H s->G5 x v->s.heap.IsSliceOf sl vl vu .none->IsPart vl lo->IsPart vu hi->r x lo hi H Q ->
  ∃ T id,typeLookup (.type T) "__getitem__"=pure (some (.builtin id))/\s.TypeIs v T/\wpAny (model X.prog X.w) X.A (getItem v (.ref sl)) (EP X pins σ Q) X.xe s
def qX(xs:List V)(lo hi:Option Int):List V:=(xs.drop (HT.sIx xs.length 0 lo)).take (HT.sIx xs.length xs.length hi-HT.sIx xs.length 0 lo)
theorem lL(xs:List V)(I J:Option Int):(qX xs I J).length<=xs.length:=by
 unfold qX
 rw[Bt,Cy]
 lia
def VN(K:Ad):V->Option Int->Option Int->Hp->VK->Prop:=λx lo hi H Q=>∃ a xs,x=.ref a/\SqT K H a xs /\
 ¬ (HT.sIx xs.length 0 lo=0/\HT.sIx xs.length xs.length hi=xs.length)/\∀ p,H p=none->Q (.ref p) (upd H p (.tup (qX xs lo hi)))
theorem ND:SlR X (VN X.K):=by
 intro Y s σ H x v vl vu O S sl Q I rx hs pl pu h
 let ⟨a,xs,rfl,hx,hw,q⟩:=h
 cases rx
 let ⟨L,r,V,Z⟩:=I.tuple hx
 have J:L.toArray.size=xs.length:=by rw[Av];exact r.length.symm
 exists "tuple",_,PyProof.Rows.slot_tuple_getitem.lookup,V.typeIs,?_
 refine HT.jG V hs pl pu (by rw[J];exact hw) ?_ (by rw[J];exact Z)
 rw[J]
 exists .ref s.heap.objs.size,_,I.laid (t':=s.toks) (o:=.tup (qX xs O S)) (λb ob q=>Af _ q) (Ao _) ?_,rfl,q _ (I.hok.fresh (Ao _))
 exact #v[#v[Ay (lL xs O S) Z,_,Ap _ rfl,rfl],_,(r.drop (HT.sIx xs.length 0 O)).take (HT.sIx xs.length xs.length S-HT.sIx xs.length 0 O),IsTup.new _ _]
def BX(K:Ad):R2:=λx y H Q=>∃ a b xs ys,x=.ref a/\y=.ref b/\SqT K H a xs/\SqT K H b ys/\xs≠[]/\xs.length+ys.length<=An /\
 (ys=[]->Q (.ref a) H)/\(ys≠[]->∀ p,H p=none->Q (.ref p) (upd H p (.tup (xs++ys))))
theorem Vals.nil_iff(r:Vals xs us):us=[]↔xs=[]:=by
 cases r with
 |nil=>simp
 |cons _ _=>simp
theorem HZ:OpR X (binaryOp .Add) (BX X.K):=by
 intro O s σ H x y v u Q I rx Z h
 let ⟨a,b,xs,ys,rfl,rfl,Y,hb,hx,S,q1,q2⟩:=h
 cases rx
 cases Z
 let ⟨b1,L,p1,_⟩:=I.tuple Y
 let ⟨V,J,p2,_⟩:=I.tuple hb
 refine HT.HY p1 p2 (λz=>hx (L.nil_iff.mp z)) (λz=>#v[.ref a,H,I,rfl,q1 (J.nil_iff.mp z)]) (λz=>?_) (by rw[<- L.length,<- J.length];exact S)
 exists .ref s.heap.objs.size,_,I.laid (t':=s.toks) (o:=.tup (xs++ys)) (λb ob q=>Af _ q) (Ao _) ?_,rfl,q2 (λw=>z (J.nil_iff.mpr w)) _ (I.hok.fresh (Ao _))
 exact #v[#v[by rw[Ae];exact S,_,Ap _ rfl,rfl],_,L.append J,IsTup.new _ _]
def ixN(n:Nat)(i:Int):Option Nat:=if 0<=i then (if i<n then some i.toNat else none) else if -(n:Int)<=i then some (i+n).toNat else none
def atI(xs:List α)(i:Int):Option α:=(ixN xs.length i).bind λj=>xs[j]?
theorem xL(h:ixN n i=some j):seqIndex? i n=some j/\j<n/\-(n:Int)<=i/\i<n:=by
 unfold ixN at h
 by_cases h0:0<=i
 ·rw[if_pos h0]at h
  by_cases h1:i<n
  ·rw[if_pos h1]at h
   have e:i.toNat=j:=B3.inj h
   exact #v[by rw[seqIndex_of h0 h1,e],by lia,by lia,h1]
  ·rw[if_neg h1]at h;cases h
 ·rw[if_neg h0]at h
  by_cases h1:-(n:Int)<=i
  ·rw[if_pos h1]at h
   have e:(i+n).toNat=j:=B3.inj h
   exact #v[by rw[seqIndex_neg (by lia) h1,e],by lia,h1,by lia]
  ·rw[if_neg h1]at h;cases h
theorem mF{α:Type}{xs:List α}{i:Int}{v:α}(h:atI xs i=some v):∃ j,seqIndex? i xs.length=some j/\xs[j]?=some v/\j<xs.length/\-(xs.length:Int)<=i/\i<xs.length:=by
 unfold atI at h
 cases e:ixN xs.length i with
 |none=>rw[e]at h;cases h
 |some j =>
  rw[e]at h
  let ⟨h1,h2,I,h4⟩:=xL e
  exact #v[j,h1,h,h2,I,h4]
theorem aX{α:Type}{xs:List α}{j:Nat}{v:α}(h:xs[j]?=some v):atI xs (j:Int)=some v:=by
 have hj:j<xs.length:=(Ax.mp h).1
 have e:ixN xs.length (j:Int)=some j:=by
  unfold ixN
  rw[if_pos (by lia),if_pos (by lia)];simp
 unfold atI;rw[e];exact h
theorem eY{α:Type}(xs:List α)(v:α):atI (xs++[v]) (-1)=some v:=by
 have hl:(xs++[v]).length=xs.length+1:=by simp
 have e:ixN (xs++[v]).length (-1)=some xs.length:=by
  unfold ixN
  rw[hl,if_neg (by decide),if_pos (by lia)]
  congr 1
  lia
 unfold atI
 rw[e]
 show (xs++[v])[xs.length]?=some v
 simp
def qY(b:Expr):Prop:=∀ o i,subscripted b false o i=operate [o,i] (getItem o i)
def IxR(X:Cx)(r:R2):Prop :=
 ∀(value slice:Expr) (pins:List (Addr×Obj)) (s:Shared) (σ:St) (H:Hp) (x y:V) (v u:Value) (Q:VK),Inv X pins σ H s->G5 x v->G5 y u->r x y H Q ->
  subscripted slice false v u=operate [v,u] (getItem v u)->wpAny (model X.prog X.w) X.A (subscriptTail value slice v u) (EP X pins σ Q) X.xe s
def MtR(X:Cx)(id:String)(r:V->List V->Hp->VK->Prop):Prop :=
 ∀(pins:List (Addr×Obj)) (s:Shared) (σ:St) (H:Hp) (x:V) (xs:List V) (v:Value) (us:List Value) (Q:VK),Inv X pins σ H s->G5 x v->Vals xs us->r x xs H Q ->
  wpAny (model X.prog X.w) X.A (call (.builtin id) (v::us)) (EP X pins σ Q) X.xe s
section
variable {X:Cx}{a b:Expr}{ta tb:TE}{pos:Pos}
theorem IxR.or(h:IxR X r)(h':IxR X r'):IxR X (λx y H Q=>r x y H Q\/r' x y H Q):=by
 intro J slice L s σ H x y v u Q I O S q hs
 rcases q with q|q
 ·exact h J slice L s σ H x y v u Q I O S q hs
 ·exact h' J slice L s σ H x y v u Q I O S q hs
def RL(K:Ad):R2:=λx y H Q=>∃ p xs i v,x=.ref p/\y=.int i/\SqL K H p xs/\atI xs i=some v/\Q v H
def RM(K:Ad):R2:=λx y H Q=>∃ p xs i v,x=.ref p/\y=.int i/\SqT K H p xs/\atI xs i=some v/\Q v H
def RN:R2:=λx y H Q=>∃ z i c,x=.str z/\y=.int i/\z.length<=An/\atI z.cps.toList i=some c/\Q (.str #v[#[c]]) H
theorem IA:IxR X (RL X.K):=by
 intro S slice J s σ H x y v u Q I rx ry h hs
 let ⟨p,xs,i,z,rfl,rfl,hq,Z,q⟩:=h
 cases rx
 let ⟨t,rfl⟩:=ry
 let ⟨O,r,pl,hz⟩:=I.list hq
 let ⟨j,h1,h2,h3,h4,h5⟩:=mF Z
 let ⟨w,Y,V⟩:=r.get h2
 have hl:=r.length
 have hn:=kN
 have L:EP X J σ Q w s:=#v[z,H,I,V,q]
 by_cases h0:0<=i
 ·have hj:i.toNat=j:=by
   rw[seqIndex_of h0 h5]at h1
   exact B3.inj h1
  exact item_listR pl.isList h0 (by lia) (by rw[hj];simpa using Y) L hs
 ·have hj:(i+(O.toArray.size:Int)).toNat=j:=by
   rw[seqIndex_neg (by lia) h4]at h1
   rw[Av,<- hl]
   exact B3.inj h1
  exact subscriptTail_builtinR (x:=w) pl.isList.typeIs slot_list_getitem.lookup
   (wpAny_getItem_list_neg (Q:=λr s'=>r=w/\EP X J σ Q r s') pl.isList (by lia) (by rw[Av]<;>lia) (by lia) (by rw[hj];simpa using Y) #v[rfl,L]) hs
theorem NE:IxR X (RM X.K):=by
 intro O slice J s σ H x y v u Q I rx ry h hs
 let ⟨p,xs,i,z,rfl,rfl,Z,V,q⟩:=h
 cases rx
 let ⟨t,rfl⟩:=ry
 let ⟨b1,r,pl,hz⟩:=I.tuple Z
 let ⟨j,h1,h2,h3,h4,h5⟩:=mF V
 let ⟨w,ew,S⟩:=r.get h2
 have hl:=r.length
 have hn:=kN
 have L:EP X J σ Q w s:=#v[z,H,I,S,q]
 exact subscriptTail_builtinR (x:=w) pl.typeIs slot_tuple_getitem.lookup
  (getItem_tuple (j:=j) (Q:=λr Y=>r=w/\EP X J σ Q r Y) pl (by lia) (by lia) (by rw[Av,<- hl];exact h1) (by simpa using ew) #v[rfl,L]) hs
theorem NF:IxR X RN:=by
 intro J slice L s σ H x y v u Q I Y S h hs
 let ⟨z,i,c,rfl,rfl,Z,O,q⟩:=h
 let ⟨t,rfl⟩:=Y
 let ⟨t',rfl⟩:=S
 let ⟨j,h1,h2,h3,h4,V⟩:=mF O
 have hl:z.cps.toList.length=z.length:=by simp[Str.length]
 rw[hl]at h1 h4 V
 have hn:=kN
 exact tail_any (typeIs_str s z t) slot_str_getitem.lookup (getItem_str (c:=c) (by
  have e1:decide (i < -(2^63:Int))=false:=decide_eq_false (by lia)
  have e2:decide (i ≥ 2^63)=false:=decide_eq_false (by lia)
  rw[e1,e2,Bool.or_false]) (by rw[h1];simpa using h2) #v[.str #v[#[c]],H,I.tok _,#v[_,rfl],q]) hs
def rIx(K:Ad):R2:=λx y H Q=>RL K x y H Q\/RM K x y H Q\/RN x y H Q
theorem NG:IxR X (rIx X.K):=IA.or (NE.or NF)
theorem vL(I:List Value)(n j:Nat)(u:Value):Obj.mapSeq (·.setIfInBounds j u) { cls:=.type "list",data:=.seq I.toArray n }={ cls:=.type "list",data:=.seq (I.set j u).toArray n }:=by
 simp[Obj.mapSeq]
theorem Inv.lst{pins:List (Addr×Obj)}{σ:St}{H:Hp}{s:Shared}{p:Addr}{xs:List V}(I:Inv X pins σ H s)(h:H p=some (.lst xs)) :
  ∃(its:List Value) (n:Nat),Vals xs its/\s.heap.get? p=some { cls:=.type "list",data:=.seq its.toArray n }/\xs.length<=An:=by
 let ⟨z,its,n,r,e⟩:=I.hok p _ h
 exact #v[its,n,r,e,z]
theorem Inv.lstUpd{pins:List (Addr×Obj)}{σ:St}{H:Hp}{s:Shared}{p:Addr}{xs ys:List V}{S its':List Value}{n L:Nat}{f:Obj->Obj}(I:Inv X pins σ H s)(h:H p=some (.lst xs))
  (ho:s.heap.get? p=some { cls:=.type "list",data:=.seq S.toArray n })(hf:f { cls:=.type "list",data:=.seq S.toArray n }={ cls:=.type "list",data:=.seq its'.toArray L })(r:Vals ys its')(O:ys.length<=An)(t:Nat) :
  Inv X pins σ (upd H p (.lst ys)) { s with heap:=s.heap.update p f,toks:=t }:=by
 have e:(s.heap.update p f).get? p=some { cls:=.type "list",data:=.seq its'.toArray L }:=by
  rw[Bc f ho (by rw[hf]<;>rfl),hf]
 refine I.write (x:=p) (e:=p) (by rw[h];trivial) (.inl rfl) (λb u J q=>(Ba _ _ (Ne.symm J)).trans q) #v[_,e] ?_
 exact #v[O,its',L,r,e]
def RO:V->V->V->Hp->(Hp->Prop)->Prop:=λo i v H Q=>∃ p xs k j,o=.ref p/\i=.int k/\H p=some (.lst xs)/\ixN xs.length k=some j/\Q (upd H p (.lst (xs.set j v)))
theorem BY:VI X RO:=by
 intro L s σ H o i v ov iv u Q I Z ri rv h
 let ⟨p,xs,k,j,rfl,rfl,V,hj,q⟩:=h
 cases Z
 let ⟨t,rfl⟩:=ri
 let ⟨J,n,r,O,hz⟩:=I.lst V
 let ⟨h1,h2,Y,h4⟩:=xL hj
 have hl:=r.length
 have hn:=kN
 have S:Inv X L σ (upd H p (.lst (xs.set j v))) { s with heap:=s.heap.update p (Obj.mapSeq (·.setIfInBounds j u)) } :=
  I.lstUpd V O (vL J n j u) (r.set rv j) (by rw[List.length_set];exact hz) s.toks
 by_cases h0:0<=k
 ·have hk:k.toNat=j:=by
   rw[seqIndex_of h0 h4]at h1
   exact B3.inj h1
  exact PySem.W.ki_setAt O h0 (by lia) (by rw[Av,<- hl];exact h4) (by rw[hk];exact #v[_,S,q])
 ·have hk:(k+(J.toArray.size:Int)).toNat=j:=by
   rw[seqIndex_neg (by lia) Y]at h1
   rw[Av,<- hl]
   exact B3.inj h1
  exact PySem.W.ki_setBack O (by lia) (by rw[Av,<- hl];exact Y) (by lia) (by rw[hk];exact #v[_,S,q])
theorem qZ(I J:Option Int)(n:Nat):(sliceBounds I J none n).1=((HT.sIx n 0 I:Nat):Int)/\(sliceBounds I J none n).2.1=((HT.sIx n n J:Nat):Int)/\(sliceBounds I J none n).2.2=1:=by
 exists ?_,?_,rfl
 ·cases I with
  |none=>simp[sliceBounds,HT.sIx]
  |some i =>
   simp only[sliceBounds,HT.sIx,Option.getD_none,show (1:Int)>0 by decide,if_true]
   by_cases h:i<0
   ·simp only[h,if_true]<;>lia
   ·simp only[h,if_false]<;>lia
 ·cases J with
  |none=>simp[sliceBounds,HT.sIx]
  |some i =>
   simp only[sliceBounds,HT.sIx,Option.getD_none,show (1:Int)>0 by decide,if_true]
   by_cases h:i<0
   ·simp only[h,if_true]<;>lia
   ·simp only[h,if_false]<;>lia
theorem oV(I:List Value)(L O:Option Int):slicePick I.toArray L O none=((I.drop (HT.sIx I.length 0 L)).take (HT.sIx I.length I.length O-HT.sIx I.length 0 L)).toArray:=by
 let ⟨h1,h2,J⟩:=qZ L O I.toArray.size
 unfold slicePick
 rw[h1,h2,J]
 simp only[sliceRange_one,pick_run,Av]<;>rfl
def RP(K:Ad):V->Option Int->Option Int->Hp->VK->Prop:=λx lo hi H Q=>∃ a xs,x=.ref a/\SqL K H a xs/\∀ p,H p=none->Q (.ref p) (upd H p (.lst (qX xs lo hi)))
theorem bN:SlR X (RP X.K):=by
 intro V s σ H x v vl vu O S sl Q I Z hs pl pu h
 let ⟨a,xs,rfl,hx,q⟩:=h
 cases Z
 let ⟨b1,r,L,Y⟩:=I.list hx
 have J:=r.length
 exists "list",_,slot_list_getitem.lookup,L.isList.typeIs,?_
 refine wpAny_getItem_list_slice L.isList hs pl pu .none (by simp) ?_ (by rw[Av]<;>lia)
 rw[oV,<- J]
 exists .ref s.heap.objs.size,_,I.laid (t':=s.toks) (o:=.lst (qX xs O S)) (λb ob q=>Af _ q) (Ao _) ?_,rfl,q _ (I.hok.fresh (Ao _))
 exact #v[Ay (lL xs O S) Y,_,0,(r.drop (HT.sIx xs.length 0 O)).take (HT.sIx xs.length xs.length S-HT.sIx xs.length 0 O),Ap _ rfl]
def jH:V->Bool
 |.non=>true
 |.bl _=>true
 |.int _=>true
 |.str _=>true
 |_=>false
def eqV:V->V->Bool
 |.non,.non=>true
 |.bl a,.bl b=>a == b
 |.bl a,.int b=>(if a then 1 else 0) == b
 |.int a,.bl b=>a == (if b then 1 else 0)
 |.int a,.int b=>a == b
 |.str a,.str b=>a == b
 |_,_=>false
theorem NH(J:G5 y u)(I:G5 x v)(O:jH y=true)(L:jH x=true):SeqAt.EqAt A s u v (eqV y x):=by
 cases y with
 |non =>
  cases J
  cases x with
  |non=>cases I;exact SeqAt.EqAt.same _
  |bl b=>cases I;exact SeqAt.EqAt.none_bool b
  |int b=>let ⟨t,rfl⟩:=I;exact SeqAt.EqAt.none_int b t
  |str b=>let ⟨t,rfl⟩:=I;exact SeqAt.EqAt.none_str b t
  |_=>exact absurd (show false=true from L) A4
 |bl a =>
  cases J
  cases x with
  |non=>cases I;exact SeqAt.EqAt.bool_none a
  |bl b=>cases I;exact SeqAt.EqAt.bool_bool a b
  |int b=>let ⟨t,rfl⟩:=I;exact SeqAt.EqAt.bool_int a b t
  |str b=>let ⟨t,rfl⟩:=I;exact SeqAt.EqAt.bool_str a b t
  |_=>exact absurd (show false=true from L) A4
 |int a =>
  let ⟨t',rfl⟩:=J
  cases x with
  |non=>cases I;exact SeqAt.EqAt.int_none a t'
  |bl b=>cases I;exact SeqAt.EqAt.int_bool a t' b
  |int b=>let ⟨t,rfl⟩:=I;exact SeqAt.EqAt.int_int a t' b t
  |str b=>let ⟨t,rfl⟩:=I;exact SeqAt.EqAt.int_str a t' b t
  |_=>exact absurd (show false=true from L) A4
 |str a =>
  let ⟨t',rfl⟩:=J
  cases x with
  |non=>cases I;exact SeqAt.EqAt.str_none a t'
  |bl b=>cases I;exact SeqAt.EqAt.str_bool a t' b
  |int b=>let ⟨t,rfl⟩:=I;exact SeqAt.EqAt.str_int a t' b t
  |str b=>let ⟨t,rfl⟩:=I;exact SeqAt.EqAt.str_str a t' b t
  |_=>exact absurd (show false=true from L) A4
 |_=>exact absurd (show false=true from O) A4
def eqU(x:V)(u:Value):Bool:=match u with
 |.none=>eqV .non x
 |.bool b=>eqV (.bl b) x
 |.int i _=>eqV (.int i) x
 |.str z _=>eqV (.str z) x
 |_=>false
theorem BZ(r:G5 y u)(f:jH y=true):eqU x u=eqV y x:=by
 cases y with
 |non=>cases r;rfl
 |bl b=>cases r;rfl
 |int i=>let ⟨t,rfl⟩:=r;rfl
 |str z=>let ⟨t,rfl⟩:=r;rfl
 |_=>exact absurd (show false=true from f) A4
theorem rA:∀{xs:List V} {us:List Value},Vals xs us->xs.all jH=true->us.any (eqU x)=xs.any λy=>eqV y x
 |_,_,.nil,_=>rfl
 |y::xs,u::us,.cons r t,f=>by
  rw[Fs,Bl]at f
  rw[Dj,Dj,BZ r f.1,rA t f.2]
theorem mZ(O:G5 x v)(L:jH x=true):∀{xs:List V} {us:List Value},Vals xs us->xs.all jH=true->∀ u∈us,SeqAt.EqAt A s u v (eqU x u)
 |_,_,.nil,_=>λu I=>by cases I
 |y::xs,u::us,.cons r t,f=>λJ I=>by
  rw[Fs,Bl]at f
  rcases Am.mp I with rfl|I
  ·rw[BZ r f.1];exact NH r O f.1 L
  ·exact mZ O L t f.2 J I
def inV(x:V)(xs:List V):Bool:=xs.any λy=>eqV y x
def rIn(K:Ad)(neg:Bool):R2:=λx y H Q=>∃ p xs,y=.ref p/\(SqL K H p xs\/SqT K H p xs)/\jH x=true/\xs.all jH=true/\Q (.bl (if neg then !inV x xs else inV x xs)) H
theorem pM:OpR X (compareOp .In) (rIn X.K false):=by
 intro O s σ H x y v u Q I S Z h
 let ⟨p,xs,rfl,L,V,fs,q⟩:=h
 cases Z
 rcases L with L|L
 ·let ⟨J,r,pl,Y⟩:=I.list L
  refine SeqAt.in_listAt (eqU x) pl.isList (λw hw=>mZ S V r fs w (by simpa using hw)) #v[.bl _,H,I,rfl,?_]
  rw[show J.toArray.any (eqU x)=J.any (eqU x) by simp,rA r fs]
  exact q
 ·let ⟨J,r,pl,Y⟩:=I.tuple L
  refine SeqAt.in_tupleAt (eqU x) pl (λw hw=>mZ S V r fs w (by simpa using hw)) #v[.bl _,H,I,rfl,?_]
  rw[show J.toArray.any (eqU x)=J.any (eqU x) by simp,rA r fs]
  exact q
theorem rB:dY X (.builtin "len") (λxs H Q=>∃ p ys,xs=[.ref p]/\(SqL X.K H p ys\/SqT X.K H p ys)/\Q (.int ys.length) H):=by
 intro V s σ H xs us Q I r h
 let ⟨p,ys,rfl,L,q⟩:=h
 let ⟨u,rfl,Z⟩:=fG r
 cases Z
 have hn:=kN
 rcases L with L|L
 ·let ⟨S,O,pl,Y⟩:=I.list L
  have J:=O.length
  exact Calls.call_len_list pl.isList (by simp only[Av]<;>lia) #v[.int ys.length,H,I.tok _,#v[s.toks+1,by rw[Av,J]],q]
 ·let ⟨S,O,pl,Y⟩:=I.tuple L
  have J:=O.length
  exact len_tuple pl (by simp only[Av]<;>lia) #v[.int ys.length,H,I.tok _,#v[s.toks+1,by rw[Av,J]],q]
theorem rC:dY X (.type "list") (λxs H Q=>∃ p ys,xs=[.ref p]/\(SqL X.K H p ys\/SqT X.K H p ys)/\∀ l,H l=none->Q (.ref l) (upd H l (.lst ys))):=by
 intro S s σ H xs us Q I r h
 let ⟨p,ys,rfl,Z,q⟩:=h
 let ⟨u,rfl,rx⟩:=fG r
 cases rx
 have Y:∀(J:List Value),Vals ys J->ys.length<=An->∀(h':Heap) (O:Nat),(∀ b o',s.heap.get? b=some o'->h'.get? b=some o') ->
   h'.get? s.heap.objs.size=some { cls:=.type "list",dict:=none,data:=.seq J.toArray O,slots:=#[] }->EP X S σ Q (.ref s.heap.objs.size) { s with heap:=h' }:=λJ L V h' O kp e =>
  #v[.ref s.heap.objs.size,_,I.laid (t':=s.toks) kp (Ao _) (show G9 X.prog X.w _ h' _ (.lst ys) from #v[V,J,O,L,e]),rfl,q _ (I.hok.fresh (Ao _))]
 rcases Z with Z|Z
 ·let ⟨J,L,pl,V⟩:=I.list Z
  have b1:=L.length
  let ⟨o,ho,hc,n,hd⟩:=pl.isList
  exact call_list_seq p (.inl rfl) ho hc hd (λh' O kp e=>Y J L V h' O kp e) (by simp only[Av]<;>lia)
 ·let ⟨J,L,pl,V⟩:=I.tuple Z
  have b1:=L.length
  let ⟨o,ho,hc,n,hd⟩:=pl
  exact call_list_seq p (.inr rfl) ho hc hd (λh' O kp e=>Y J L V h' O kp e) (by simp only[Av]<;>lia)
theorem oW:dY X (.type "tuple") (λxs H Q=>∃ p ys,xs=[.ref p]/\((SqL X.K H p ys/\∀ l,H l=none->Q (.ref l) (upd H l (.tup ys)))\/(SqT X.K H p ys/\Q (.ref p) H))):=by
 intro L s σ H xs us Q I r h
 let ⟨p,ys,rfl,h⟩:=h
 let ⟨u,rfl,rx⟩:=fG r
 cases rx
 rcases h with ⟨V,q⟩|⟨V,q⟩
 ·let ⟨J,O,pl,Y⟩:=I.list V
  have Z:=O.length
  refine call_tuple_list pl.isList (λh' kp=>?_) (by simp only[Av]<;>lia)
  have S:Inv X L σ H { s with heap:=h' }:=I.kept (t':=s.toks) kp
  have I2:Inv X L σ (upd H h'.objs.size (.tup ys)) { s with heap:=h'.push { cls:=.type "tuple",data:=.seq J.toArray } } :=
   S.laid (t':=s.toks) (λb o e=>Af _ e) (Ao _) (show G9 X.prog X.w _ _ _ (.tup ys) from #v[#v[Y,_,Ap _ rfl,rfl],J,O,IsTup.new _ _])
  exact #v[.ref h'.objs.size,_,I2,rfl,q _ (S.hok.fresh (Ao _))]
 ·let ⟨J,O,pl,Y⟩:=I.tuple V
  exact call_tuple_same pl #v[.ref p,H,I,rfl,q]
def tyV(K:Ad)(T:String)(x:V)(H:Hp):Prop:=match x with
 |.str _=>T="str"
 |.int _=>T="int"
 |.ref p=>(T="list"/\∃ xs,SqL K H p xs)\/(T="tuple"/\∃ o,K.lookup p=some o/\o.cls=.type "tuple"/\o.dict=none) \/
   (T="dict"/\((∃ kvs,H p=some (.dK kvs))\/∃ kvs,H p=some (.dT kvs)))\/(T="set"/\∃ S n,H p=some (.set S n))
 |_=>False
theorem CA{pins:List (Addr×Obj)}{σ:St}{H:Hp}{s:Shared}{T:String}{x:V}{v:Value}(I:Inv X pins σ H s)(r:G5 x v)(L:tyV X.K T x H) :
  s.TypeIs v T/\∀ a,v=.ref a->∃ ob,s.heap.get? a=some ob/\ob.dict=none:=by
 cases x with
 |str z =>
  let ⟨t,rfl⟩:=r
  cases (show T="str" from L)
  exact #v[typeIs_str s z t,λ_ e=>nomatch e]
 |int i =>
  let ⟨t,rfl⟩:=r
  cases (show T="int" from L)
  exact #v[typeIs_int s i t,λ_ e=>nomatch e]
 |ref p =>
  cases r
  rcases L with ⟨rfl,xs,Y⟩|⟨rfl,o,hk,O,hd⟩|⟨rfl,hk⟩|⟨rfl,S,n,hk⟩
  ·let ⟨Z,_,pl,_⟩:=I.list Y
   exists pl.isList.typeIs,λa e=>?_
   cases e
   let ⟨o,n,e,c,hd,_⟩:=pl
   exact #v[o,e,hd]
  ·exists #v[o,I.kIn p o hk,O],λa e=>?_
   cases e
   exact #v[o,I.kIn _ o hk,hd]
  ·have z:∃ o,s.heap.get? p=some o/\o.ExactDict:=by
    rcases hk with ⟨J,hk⟩|⟨J,hk⟩
    ·let ⟨_,_,_,_,o,_,_,e,ex,_⟩:=I.hok p _ hk
     exact #v[o,e,ex]
    ·let ⟨_,_,_,_,o,_,_,e,ex,_⟩:=I.hok p _ hk
     exact #v[o,e,ex]
   let ⟨o,e,ex⟩:=z
   exists #v[o,e,ex.1],λa e2=>?_
   cases e2
   exact #v[o,e,ex.2.1]
  ·let ⟨o,_,_,_,e,ex,_⟩:=I.hok p _ hk
   exists #v[o,e,ex.1],λa e2=>?_
   cases e2
   exact #v[o,e,ex.2.1]
 |_=>exact False.elim L
def VO(K:Ad)(T:String)(r:V->List V->Hp->VK->Prop)(to:TE):TE:=λσ H Q=>to σ H λx H1=>tyV K T x H1/\r x [] H1 Q
def tBM(K:Ad)(T:String)(r:V->List V->Hp->VK->Prop)(to:TE)(t:TA):TE:=λσ H Q=>to σ H λx H1=>tyV K T x H1/\t σ H1 λxs H2=>r x xs H2 Q
variable {o e:Expr}{es:List Expr}{to:TE}{t:TA}{name:Str}{apos cpos:Pos}{T id:String}{r:V->List V->Hp->VK->Prop}
theorem vM(V:PlainAttrs T)(L:Slot T name id)(O:typeOf (.builtin id)=pure (.type "method_descriptor"))(hm:MtR X id r)(S:PE X o to)
  (hbase:attributeBase o name X.env (eval o X.env)=eval o X.env:=by rfl)(hline:(apos.endLine == cpos.line)=true:=by rfl):PE X (.Call (.Attribute o name apos) [] [] cpos) (VO X.K T r to):=by
 intro J s σ H Q I h
 refine wpAny_Call_method0_late hbase hline (thn (S J s σ H _ I h) λv s1 ⟨x,H1,I1,r1,ty,q1⟩=>?_)
 let ⟨h1,h2⟩:=CA I1 r1 ty
 exact #v[T,id,V,L,O,h1,h2,Calls.callWith_builtin rfl (PySem.evalArgs_none (hm J s1 σ H1 x [] v [] Q I1 r1 .nil q1))]
theorem nA(Z:PlainAttrs T)(O:Slot T name id)(S:typeOf (.builtin id)=pure (.type "method_descriptor"))(hm:MtR X id r)(V:PE X o to)(Y:PA X (e::es) t)
  (hbase:attributeBase o name X.env (eval o X.env)=eval o X.env:=by rfl)
  (hfew:((backTo cpos (A0 (e::es) X.env)).all (λx=>!x.1)&&(backToKw cpos (keywordEach [] X.env)).all (λx=>x.1.isSome)
   && decide ((e::es).length+([]:List Keyword).length+(if ([]:List Keyword).isEmpty then 0 else 1)<30))=true:=by rfl)
  (hline:(apos.endLine == cpos.line)=true:=by rfl)(hs:A0 (e::es) X.env=(false,eval e X.env)::A0 es X.env:=by rfl)(hplain:(backTo cpos (A0 es X.env)).any (·.1)=false:=by rfl) :
  PE X (.Call (.Attribute o name apos) (e::es) [] cpos) (tBM X.K T r to t):=by
 intro J s σ H Q I h
 refine wpAny_Call_method_late hbase hfew hline rfl (thn (V J s σ H _ I h) λv s1 ⟨x,H1,I1,r1,ty,q1⟩=>?_)
 let ⟨h1,h2⟩:=CA I1 r1 ty
 exists T,id,Z,O,S,h1,h2,?_
 have L:=Y cpos J s1 σ H1 _ I1 q1
 rw[hs]at L ⊢
 refine Calls.callWith_builtin (by show (false||(backTo cpos (A0 es X.env)).any (·.1))=false;rw[hplain]<;>rfl) (Calls.evalArgs_plain ?_)
 exact thn L λus s2 ⟨vs,H2,I2,r2,q2⟩=>hm J s2 σ H2 x vs v us Q I2 r1 r2 q2
end
def MtM(X:Cx)(id:String)(r:V->List V->Hp->VK->Prop):Prop :=
 ∀(pins:List (Addr×Obj)) (s:Shared) (σ:St) (H:Hp) (x:V) (xs:List V) (v:Value) (us:List Value) (Q:VK),Inv X pins σ H s->G5 x v->Vals xs us->r x xs H Q ->
  wpAny (model X.prog X.w) X.A (call (.builtin id) (v::us)) (EP X pins σ Q) X.xe s
theorem Vals.one:∀{x:V} {us:List Value},Vals [x] us->∃ u,us=[u]/\G5 x u
 |_,_,.cons r .nil=>#v[_,rfl,r]
theorem Vals.zero:∀{us:List Value},Vals [] us->us=[]
 |_,.nil=>rfl
theorem Vals.dropLast(h:Vals xs us):Vals xs.dropLast us.dropLast:=by
 induction h with
 |nil=>exact .nil
 |cons r t I =>
  cases t with
  |nil=>exact .nil
  |cons q t'=>exact .cons r I
theorem Vals.reverse(h:Vals xs us):Vals xs.reverse us.reverse:=by
 induction h with
 |nil=>exact .nil
 |cons r t I=>rw[Eo,Eo];exact Vals.append I (.cons r .nil)
theorem vN{α:Type}(l:List α):l.eraseIdx (l.length-1)=l.dropLast:=by
 induction l with
 |nil=>rfl
 |cons a r I =>
  cases r with
  |nil=>rfl
  |cons b r =>
   have e:(a::b::r).length-1=((b::r).length-1)+1:=by
    have h1:(a::b::r).length=r.length+2:=rfl
    have h2:(b::r).length=r.length+1:=rfl
    lia
   rw[e,List.eraseIdx_cons_succ,I]
   all_goals rfl
section
variable {X:Cx}{pins:List (Addr×Obj)}{σ:St}{H:Hp}{s:Shared}{l b:Addr}{xs ys zs:List V}
theorem Inv.lset{Z its':List Value}(I:Inv X pins σ H s)(V:H l=some (.lst xs))
  (e:s.heap.get? l=some { cls:=.type "list",data:=.seq Z.toArray n })(hf:f Z.toArray=its'.toArray)(S:Vals ys its')(O:ys.length<=An) :
  Inv X pins σ (upd H l (.lst ys)) { s with heap:=s.heap.update l (Obj.mapSeq f),toks:=t' }:=by
 have q:=PySem.IsL.update e f
 rw[hf]at q
 refine I.write (x:=l) (e:=l) (by rw[V];exact trivial) (.inl rfl) (λY u J L=>(Ba s.heap (Obj.mapSeq f) (Ne.symm J)).trans L) #v[_,q] ?_
 exact #v[O,its',_,S,q]
theorem Inv.lnew(I:Inv X pins σ H s)(J:Vals ys its)(L:ys.length<=An) :
  Inv X pins σ (upd H s.heap.objs.size (.lst ys)) { s with heap:=s.heap.push { cls:=.type "list",data:=.seq its.toArray },toks:=t' } :=
 I.laid (λ_ _ q=>Af _ q) (Ao _) #v[L,its,0,J,Ap _ rfl]
theorem Inv.fresh(I:Inv X pins σ H s):H s.heap.objs.size=none:=I.hok.fresh (Ao _)
theorem Inv.lstM(I:Inv X pins σ H s)(J:H l=some (.lst xs)):xs.length<=An/\∃(its:List Value) (n:Nat),Vals xs its/\xs.length=its.length/\s.heap.get? l=some { cls:=.type "list",data:=.seq its.toArray n }:=by
 let ⟨z,its,n,r,e⟩:=I.hok l _ J
 exact #v[z,its,n,r,r.length,e]
theorem CB(h:n<=An):Eg n=false:=by
 unfold Eg
 exact decide_eq_false (by lia)
end
def IB:V->List V->Hp->VK->Prop:=λx vs H Q=>∃ l xs y,x=.ref l/\vs=[y]/\H l=some (.lst xs)/\xs.length<An/\Q .non (upd H l (.lst (xs++[y])))
theorem pN:MtM X "list.append" IB:=by
 intro L s σ H x vs v us Q I Y O h
 let ⟨l,xs,y,rfl,rfl,S,Z,q⟩:=h
 cases Y
 let ⟨u,rfl,V⟩:=O.one
 let ⟨z,J,n,r,hl,e⟩:=I.lstM S
 refine call_meets F.slot_list_append #v[_,e,rfl] F.entry_list_append (F.args_list_append_2 _ _) (PySem.list_append l J.toArray n u (by rw[Av];lia)) #v[e,?_]
 exists .non,_,I.lset (its':=J++[u]) S e (by simp) (r.append (.cons V .nil)) ?_,rfl,q
 rw[Ae,List.length_singleton]
 lia
def IC:V->List V->Hp->VK->Prop:=λx vs H Q=>∃ l b xs zs,x=.ref l/\vs=[.ref b]/\H l=some (.lst xs)/\H b=some (.lst zs)/\xs.length+zs.length<=An/\Q .non (upd H l (.lst (xs++zs)))
theorem zW:MtM X "list.extend" IC:=by
 intro S s σ H x vs v us Q I rx V h
 let ⟨l,b,xs,zs,rfl,rfl,Y,hB,hz,q⟩:=h
 cases rx
 let ⟨u,rfl,Z⟩:=V.one
 cases Z
 let ⟨z,L,n,r,hl,e⟩:=I.lstM Y
 let ⟨z2,J,n2,r2,b1,e2⟩:=I.lstM hB
 have hsz:L.toArray.size+J.toArray.size<=An:=by rw[Av,Av];lia
 have O:¬ (!L.toArray.isEmpty&&Eg (L.toArray.size+J.toArray.size))=true:=by
  rw[CB hsz,Bool.and_false]
  exact A4
 refine call_meets F.slot_list_extend #v[_,e,rfl] F.entry_list_extend (F.args_list_extend_2 _ _)
  (AutoSeq1.list_extend_list_list_0 l L.toArray n b J.toArray n2 O (by rw[Av];lia) (by lia)) #v[e,e2,?_]
 exists .non,_,I.lset (its':=L++J) Y e (by simp) (r.append r2) ?_,rfl,q
 rw[Ae]
 lia
def VP:V->List V->Hp->VK->Prop:=λx vs H Q=>∃ l xs y,x=.ref l/\vs=[]/\H l=some (.lst xs)/\xs[xs.length-1]?=some y/\Q y (upd H l (.lst xs.dropLast))
theorem NI:MtM X "list.pop" VP:=by
 intro S s σ H x vs v us Q I rx V h
 let ⟨l,xs,y,rfl,rfl,Y,hy,q⟩:=h
 cases rx
 have O:=V.zero
 subst O
 let ⟨z,J,n,r,hl,e⟩:=I.lstM Y
 let ⟨u,hu,Z⟩:=r.get hy
 have L:J.toArray[J.toArray.size-1]?=some u:=by
  show J.toArray[J.length-1]?=some u
  rw[<- Cv,<- hl]
  exact hu
 refine call_meets F.slot_list_pop #v[_,e,rfl] F.entry_list_pop (F.args_list_pop_1 _) (MeetsSeq.list_pop_last l J.toArray n u L (by rw[Av];lia)) #v[e,?_]
 exists y,_,I.lset (its':=J.dropLast) Y e ?_ r.dropLast ?_,Z,q
 ·show J.toArray.eraseIdxIfInBounds (J.toArray.size-1)=J.dropLast.toArray
  rw[Av,List.eraseIdxIfInBounds_toArray,vN]
 ·rw[List.length_dropLast]
  lia
def CC:V->List V->Hp->VK->Prop:=λx vs H Q=>∃ l xs,x=.ref l/\vs=[]/\H l=some (.lst xs)/\Q .non (upd H l (.lst xs.reverse))
theorem vO:MtM X "list.reverse" CC:=by
 intro O s σ H x vs v us Q I Y S h
 let ⟨l,xs,rfl,rfl,V,q⟩:=h
 cases Y
 have L:=S.zero
 subst L
 let ⟨z,J,n,r,hl,e⟩:=I.lstM V
 refine call_meets F.slot_list_reverse #v[_,e,rfl] F.entry_list_reverse (F.args_list_reverse_1 _) (AutoSeq1.list_reverse_list_0 l J.toArray n (by rw[Av];lia)) #v[e,?_]
 exists .non,_,I.lset (its':=J.reverse) V e (by simp) r.reverse ?_,rfl,q
 rw[Eb]
 lia
def NJ:R2:=λx y H Q=>∃ l b xs zs,x=.ref l/\y=.ref b/\H l=some (.lst xs)/\H b=some (.lst zs)/\xs.length+zs.length<=An/\∀ p,H p=none->Q (.ref p) (upd H p (.lst (xs++zs)))
theorem NK:OpR X (binaryOp .Add) NJ:=by
 intro O s σ H x y v u Q I Z S h
 let ⟨l,b,xs,zs,rfl,rfl,Y,hB,hz,q⟩:=h
 cases Z
 cases S
 let ⟨z,L,n,r,hl,e⟩:=I.lstM Y
 let ⟨z2,J,n2,r2,b1,e2⟩:=I.lstM hB
 refine PySem.P.add_list e e2 ?_ (by rw[Av,Av];lia)
 have V:L.toArray++J.toArray=(L++J).toArray:=by simp
 rw[V]
 exact #v[.ref _,_,I.lnew (t':=s.toks) (r.append r2) (by rw[Ae];lia),rfl,q _ I.fresh]
end L2
namespace Att
open PySem PySem.W PySem.Calls PyProof.Rows
theorem lX:∀(ns:List Int) (vs:List Value),WellAll P h vs (ns.map WData.int)->IntsAre vs ns:=by
 intro ns
 induction ns with
 |nil =>
  intro vs w
  rw[Bq]at w
  cases w
  exact .nil
 |cons n ns I =>
  intro vs w
  rw[Au]at w
  cases w with
  |cons a b =>
   cases a
   exact .cons _ _ (I _ b)
theorem zX{l:OpenLaw}(hn:l.most=some n){h:Heap}
  (I:l.row.toRowW.claim.pre args=true)(b1:WellAll P h vals args) :
  ∃ a vs ns,vals=[Value.ref a]/\args=[WData.list (ns.map WData.int)]/\h.get? a=some { cls:=.type "list",data:=.seq vs.toArray }/\IntsAre vs ns/\ns.length<=n:=by
 have S:WShape.hasAll [] args [.list .int]=true:=(pre_splitW I).1
 have V:l.pre.holds [] { args:=args }=true:=(pre_splitW I).2
 let ⟨d,r,rfl,h1,h2⟩:=hasAllW_cons S
 obtain rfl:=hasAllW_nil h2
 let ⟨xs,rfl,h3⟩:=hasW_list h1
 let ⟨ns,rfl⟩:=items_int h3
 have L:ns.length<=n:=by
  unfold OpenLaw.pre at V
  have h4:(WTm.not (.lt (.lit (.int (n:Int))) (.len (.arg 0)))).holds [] { args:=[.list (ns.map .int)] }=true:=by
   have h4:=(holds_andW V).1
   rw[hn]at h4
   exact h4
  have O:=condW_of h4 (w_not (w_lt w_lit (w_len_list (w_arg rfl))))
  rw[Ab]at O
  refine Fu λq=>?_
  have Z:(n:Int)<((ns.length:Nat):Int):=by lia
  first
   |(rw[decide_eq_true Z]at O;exact absurd O (by decide))
   |(simp at O;lia)
 cases b1 with
 |cons w1 w2 =>
  cases w2
  cases w1 with
  |list Y J=>exact #v[_,_,ns,rfl,rfl,Y,lX ns _ J,L]
theorem zY(l:OpenLaw)(args:List WData):l.row.toRowW.claim.post args (.bool true) args=true :=
 postW_of (r:=l.row.toRowW) (X:=(true == true))
  (show WShape.has [] (.bool true) .bool=true by first|rfl|decide|simp[WShape.has,WShape.arms,WShape.armsAll])
  (show (WTm.eq .res (.lit (.bool true))).value [] { args:=args,res:=some (.bool true),after:=args }=some (.bool (true == true)) from w_eq_bool (w_res rfl) w_lit) rfl
def VQ(h:Heap)(L d:Addr):List (Addr×Obj):=(Ca h.objs.size).filterMap λa=>if a=L\/a=d then none else (h.get? a).map λo=>(a,o)
end Att
namespace L2
open PySem PySem.Spec PyProof.Rows
theorem pO:∀{vs:List Value} {ns:List Int},IntsAre vs ns->Vals (ns.map V.int) vs
 |_,_,.nil=>.nil
 |_,_,.cons n t h=>.cons #v[t,rfl] (pO h)
def RQ(H:Hp):Prop:=∀ b,H b=none\/∃ o xs,H b=some (.frz o (.lst xs))
theorem CD{K:Ad}{s₁:Shared}{vs:List Value}{ns:List Int}
  (KX:K.In s₁.heap)(b2:s₁.heap.Ns mainGlobals mg)(J:s₁.heap.Ns builtinsNs mb)(d6:∀ x:Str,x ≠ "__name__"->mb x=bootBuiltins x)(b5:s₁.heap.NoLimit)(hg:s₁.gens=#[])
  (ha:s₁.heap.get? a=some { cls:=.type "list",data:=.seq vs.toArray })(hi:IntsAre vs ns)(hl:ns.length<=An)(hr:Room k callerA)
  (F:∀ base:Heap,K.In base->base.Ns mainGlobals mg->F8 P w K mg base CX k fa fd [x] sp)(b4:∀(s:Shared) (u:Value),BindsTo s fd #v[[u],[]] [(x,u)])
  (b7:∀ H:Hp,RQ H->SqL K H a (ns.map V.int)->sp [.ref a] H (λv _=>v=.bl true) λ_ _ _=>False)
  (d7:∀ H e s',CX [] H s₁ (λ_ _ _=>False) e s'->False) :
  codeAny (model P w) callerA (.call (.ref fa) #v[[.ref a],[]]) (λr s'=>r=.ok (.ret (.bool true))/\OldK s₁.heap s'.heap/\s'.os=s₁.os/\AllBare s'.gens) s₁:=by
 have rv:=pO hi
 have S:=hi.length
 have O:∀ H:Hp,RQ H->SqL K H a (ns.map V.int)->HOk P w H s₁.heap->(∀ b,H b≠none->b=a)->(H a≠none->K.lookup a=none) ->
   codeAny (model P w) callerA (.call (.ref fa) #v[[.ref a],[]]) (λr s'=>r=.ok (.ret (.bool true))/\OldK s₁.heap s'.heap/\s'.os=s₁.os/\AllBare s'.gens) s₁:=by
  intro H hO hS hok hA hK
  have I:∀{b:Addr} {o:Obj},s₁.heap.get? b=some o->H b=none->(qT s₁.heap H).get? b=some o:=λe n=>BO e n
  have b3:∀{b:Addr} {o:Obj} {es:Array DictEntry} {ep:Nat},s₁.heap.get? b=some o->o.data=.dict es ep->H b=none:=λ{b o es ep} e d=>by
   cases q:H b with
   |none=>rfl
   |some u =>
    have e':b=a:=hA b (by rw[q];simp)
    subst e'
    rw[ha]at e;cases e
    have d':Data.seq vs.toArray _=Data.dict es ep:=d
    cases d'
  have L:∀{b:Addr} {m:Str->Option Value},s₁.heap.Ns b m->(qT s₁.heap H).Ns b m:=λ{b m} ⟨o,es,ep,e,d,r⟩=>#v[o,es,ep,I e (b3 e d),d,r]
  have b1:K.In (qT s₁.heap H):=λb o e=>I (KX b o e) (by
   cases q:H b with
   |none=>rfl
   |some u =>
    have e':b=a:=hA b (by rw[q];simp)
    subst e'
    rw[hK (by rw[q];simp)]at e;cases e)
  have hM:Mod K mg (qT s₁.heap H):=#v[b1,L b2,#v[mb,L J,d6],let ⟨mc,h1,h2⟩:=b5;#v[mc,L h1,h2]]
  have e0:Env0 P w K mg (qT s₁.heap H) callerA [] s₁ H:=#v[rfl,hM,λb o e=>HQ e,En (zL _ _),trivial,λb J=>absurd (show b∈([]:List Addr) from J) (by simp),hok,.of_eq hg]
  refine codeAny_mono ((F _ b1 (L b2)).run callerA [] s₁ H #v[[.ref a],[]] [.ref a] [.ref a] _ _ hr e0 (b4 s₁ (.ref a)) (.cons rfl .nil) (b7 H hO hS)) λr s' h=>?_
  cases r with
  |error e=>exact (d7 H e s' h).elim
  |ok fl =>
   cases fl with
   |next=>exact False.elim h
   |brk=>exact False.elim h
   |cont=>exact False.elim h
   |ret u =>
    let ⟨v,H',os,Z,un,Y,r',q⟩:=h
    have q':v=.bl true:=q
    subst q'
    obtain rfl:u=Value.bool true:=r'
    exists rfl,OldK.of_keep λb o e=>?_,os,Z
    cases q:H b with
    |none=>exact un.keep b o e q (by intro z;exact absurd (show b∈([]:List Addr) from z) (by simp)) (by simp)
    |some u =>
     rcases hO b with z|⟨ob,xs,z⟩
     ·rw[q]at z;cases z
     ·have z2:=un.frzs b ob _ z
      let ⟨e1,_⟩:=hok b _ z
      let ⟨e2,_⟩:=Y b _ z2
      rw[e]at e1;cases e1
      exact e2
 cases hk:K.lookup a with
 |some o =>
  have e:=KX a o hk
  rw[ha]at e
  cases e
  refine O (λ_=>none) (λ_=>.inl rfl) (.inr #v[_,vs.toArray,_,hk,rfl,rfl,rfl,by rw[Av,S];exact hl,by simpa using rv]) (λb u z=>by have z':(none:Option HO)=some u:=z;cases z') (λb z=>absurd rfl z) λz=>absurd rfl z
 |none =>
  refine O (λb=>if b=a then some (.frz { cls:=.type "list",data:=.seq vs.toArray } (.lst (ns.map V.int))) else none) (λb=>?_) (.inl (.inr #v[{ cls:=.type "list",data:=.seq vs.toArray },if_pos rfl])) (λb u z=>?_) (λb z=>?_) λ_=>hk
  ·by_cases J:b=a
   ·exact .inr #v[_,_,if_pos J]
   ·exact .inl (if_neg J)
  ·by_cases J:b=a
   ·have z':=(if_pos J).symm.trans z
    cases z'
    subst J
    exact #v[ha,by rw[Ab];exact hl,vs,_,rv,ha]
   ·have z':=(if_neg J).symm.trans z
    cases z'
  ·by_cases J:b=a
   ·exact J
   ·exact absurd (if_neg J) z
abbrev KOf{K:Ad}(_:K.In h):Ad:=K
def ID(s:Stmt)(j:Nat):Stmt:=match s with
 |.ClassDef _ _ _ body _ _ _ _ _ _ _=>body.getD j (.Pass #v[0,0,0,0])
 |_=>.Pass #v[0,0,0,0]
def eR(s:Stmt):Arguments:=match s with
 |.FunctionDef _ a _ _ _ _ _ _ _ _=>a
 |_=>{ posonlyargs:=[],args:=[],vararg:=none,kwonlyargs:=[],kw_defaults:=[],kwarg:=none,defaults:=[] }
def cI(s:Stmt):List Stmt:=match s with
 |.FunctionDef _ _ b _ _ _ _ _ _ _=>b
 |_=>[]
def aZ(s:Stmt):Scope:=match s with
 |.FunctionDef _ _ _ _ _ _ sc _ _ _=>sc
 |_=>{ kind:=.function,names:=[],isGenerator:=false,isCoroutine:=false }
abbrev CX0:CXT:=λ_ _ _ _ _ _=>False
abbrev E0:XK:=λ_ _ _=>False
theorem LR:BV CX0 X E0:=λ_ _ _ _ _ _ _ h=>h.elim
structure Fun(K:Ad)(x qual:Str)(st:Stmt)(f:Addr)(fd:FuncData):Prop where
 ex:∃(oc:Value) (od:Option Addr) (kV doc pm:Value) (an:Option Addr) (cdv ct:Value) (osl:Array (Option Value)),
  fd=C1 x qual (eR st) (cI st) (aZ st) .none kV doc pm an cdv ct/\K.lookup f=some #v[oc,od,.func fd,osl]/\Dd K cdv qual=true
 kp:B1 K (.ref f)=true
section
variable {P:Program}{w:World}{K:Ad}{mg:Str->Option Value}{base:Heap}
theorem Fun.ok{x b1:Str}{st:Stmt}{f:Addr}{fd:FuncData}{N ps:List Str}{k:Nat}{sp:Sp}(F:Fun K x b1 st f fd)(S:FnScope N ps (aZ st))(len:∀ vs H Q E,sp vs H Q E->vs.length=ps.length)
  (hbody:∀(cdv:Value) (A:Around) (outer:List Env) (s:Shared) (H:Hp) (vs:List V) (Q:VK) (E:XK),Room k (A.deeper (envOfC b1 (aZ st) s.heap.objs.size f cdv))->sp vs H Q E ->
   ∃ t,PSs (eX CX0 P w K mg base N b1 (aZ st) f cdv A outer s H E).nox (cI st) t/\t { nx:=λ_ H'=>Q .non H',rt:=Q } (start N vs) H):F8 P w K mg base CX0 (k+1) f fd ps sp:=by
 let ⟨oc,Z,kV,O,Y,an,cdv,ct,L,rfl,lk,J⟩:=F.ex
 refine LQ lk J S len λA outer s H vs Q E hr I=>?_
 let ⟨t,h,q⟩:=hbody cdv A outer s H vs Q E hr I
 exact #v[t,h.nox,q]
theorem Fun.binds{x S:Str}{st:Stmt}{f:Addr}{fd:FuncData}{ps:List Str}(F:Fun K x S st f fd)
  (h:∀(kV doc pm:Value) (an:Option Addr) (cdv ct:Value) (us:List Value),us.length=ps.length->bindArgs (C1 x S (eR st) (cI st) (aZ st) .none kV doc pm an cdv ct) #v[us,[]]=pure (ps.zip us)):Binds K fd ps []:=by
 let ⟨O,L,kV,doc,pm,an,cdv,ct,J,rfl,lk,I⟩:=F.ex
 exact .all (h kV doc pm an cdv ct)
theorem vP{x Z:Str}{st:Stmt}{f:Addr}{V:Value}{O Y:Option Addr}{I:Array (Option Value)}{S J L cdv ct:Value}(l:K.lookup f=some #v[V,O,.func (C1 x Z (eR st) (cI st) (aZ st) .none S J L Y cdv ct),I])
  (c:Dd K cdv Z=true)(k:B1 K (.ref f)=true):Fun K x Z st f (C1 x Z (eR st) (cI st) (aZ st) .none S J L Y cdv ct):=#v[#v[V,O,S,J,L,Y,cdv,ct,I,rfl,l,c],k]
end
theorem aT(h:n<=1000):n<An:=Nat.lt_of_le_of_lt h (by decide)
section
variable {κ:Type}[DecidableEq κ]
def gO(kvs:List (κ×V))(k:κ):Option V:=(kvs.find? λkv=>decide (kv.1=k)).map (·.2)
def jI(kvs:List (κ×V))(k:κ)(v:V):List (κ×V) :=
 if (kvs.any λkv=>decide (kv.1=k))=true then kvs.map (λkv=>if kv.1=k then (kv.1,v) else kv) else kvs++[(k,v)]
theorem CF{k:κ}:gO ([]:List (κ×V)) k=none:=rfl
theorem jJ{p:κ×V}{r:List (κ×V)}{k:κ}(e:p.1=k):gO (p::r) k=some p.2:=by simp[gO,Dv,e]
theorem jK{p:κ×V}{r:List (κ×V)}{k:κ}(e:¬ p.1=k):gO (p::r) k=gO r k:=by simp[gO,Dv,e]
theorem sS(k:κ):∀ kvs:List (κ×V),(kvs.any λkv=>decide (kv.1=k))=(gO kvs k).isSome
 |[]=>rfl
 |p::r=>by
  rw[Dj]
  by_cases e:p.1=k
  ·simp only[jJ e,decide_eq_true e,Bool.true_or,Option.isSome_some]
  ·rw[jK e,decide_eq_false e,Bool.false_or];exact sS k r
theorem lM(I:List (κ×V))(k:κ)(v:V):(jI I k v).length<=I.length+1:=by
 unfold jI
 split
 ·rw[Ab];lia
 ·rw[Ae,Ah,B6];lia
theorem RelO.isSome_eq(r:RelO o u):o.isSome=u.isSome:=by
 cases o with
 |none=>cases u with
  |none=>rfl
  |some _=>exact (show False from r).elim
 |some _=>cases u with
  |none=>exact (show False from r).elim
  |some _=>rfl
theorem KV.val{J:List (κ×V)}{vs:List (κ×Value)}(r:KV J vs)(k:κ):RelO (gO J k) (valueAt vs k):=by
 unfold KV at r
 induction r with
 |nil=>exact True.intro
 |@cons p q ps qs h t ih =>
  let ⟨h1,h2⟩:=h
  by_cases e:p.1=k
  ·have I:q.1=k:=h1.symm.trans e
   have b:valueAt (q::qs) k=some q.2:=by simp[valueAt,Dv,I]
   rw[jJ e,b];exact h2
  ·have I:¬ q.1=k:=λz=>e (h1.trans z)
   have b:valueAt (q::qs) k=valueAt qs k:=by simp[valueAt,Dv,I]
   rw[jK e,b];exact ih
theorem KV.any{J:List (κ×V)}{vs:List (κ×Value)}(r:KV J vs)(k:κ):(J.any λkv=>decide (kv.1=k))=vs.any λkv=>decide (kv.1=k):=by
 unfold KV at r
 induction r with
 |nil=>rfl
 |cons h t I=>rw[Dj,Dj,I,h.1]
theorem KV.repl{J:List (κ×V)}{vs:List (κ×Value)}(r:KV J vs)(k:κ){y:V}{u:Value}(I:G5 y u) :
  KV (J.map λkv=>if kv.1=k then (kv.1,y) else kv) (vs.map λkv=>if kv.1=k then (kv.1,u) else kv):=by
 unfold KV at r ⊢
 induction r with
 |nil=>exact .nil
 |@cons p q ps qs h t ih =>
  rw[Au,Au]
  refine .cons ?_ ih
  let ⟨h1,h2⟩:=h
  by_cases e:p.1=k
  ·rw[if_pos e,if_pos (h1.symm.trans e)];exact #v[h1,I]
  ·rw[if_neg e,if_neg (λz=>e (h1.trans z))];exact #v[h1,h2]
theorem KV.put{L:List (κ×V)}{vs:List (κ×Value)}(r:KV L vs)(k:κ){y:V}{u:Value}(J:G5 y u):KV (jI L k y) (stored vs k u):=by
 unfold jI stored
 rw[r.any k]
 by_cases e:(vs.any λI=>decide (I.1=k))=true
 ·rw[if_pos e,if_pos e];exact r.repl k J
 ·rw[if_neg e,if_neg e];exact Paired.snoc r #v[rfl,J]
theorem KV.length{I:List (κ×V)}{vs:List (κ×Value)}(r:KV I vs):I.length=vs.length:=Paired.length r
end
theorem xN(r:G5 (kV k) u):(bA P w).is k u=true:=by
 cases k with
 |inl i=>let ⟨t,e⟩:=(show ∃ t,u=Value.int i t from r);subst e;exact sQ P w i t
 |inr x=>let ⟨t,e⟩:=(show ∃ t,u=Value.str x t from r);subst e;exact bD P w x t
theorem pP:∀{ks:List Key} {us:List Value},Vals (ks.map kV) us->ItemsAre (bA P w) ks us
 |[],_,r=>by rw[Bq]at r;cases r;exact .nil
 |k::ks,_,r=>by
  rw[Au]at r
  cases r with
  |cons h t=>exact .cons (xN h) (pP t)
abbrev KT(H:Hp):List (List Key×V)->List (List Key×Addr×Value)->Prop:=Paired λp q=>p.1=q.1/\H q.2.1=some (.tup (p.1.map kV))/\G5 p.2 q.2.2
theorem KT.val{H:Hp}{J:List (List Key×V)}{xs:List (List Key×Addr×Value)}(r:KT H J xs)(k:List Key):RelO (gO J k) ((atKey xs k).map (·.2)):=by
 induction r with
 |nil=>exact True.intro
 |@cons p q ps qs h t ih =>
  let ⟨h1,_,h2⟩:=h
  by_cases e:p.1=k
  ·have I:q.1=k:=h1.symm.trans e
   have b:atKey (q::qs) k=some q.2:=by simp[atKey,Dv,I]
   rw[jJ e,b];exact h2
  ·have I:¬ q.1=k:=λz=>e (h1.trans z)
   have b:atKey (q::qs) k=atKey qs k:=by simp[atKey,Dv,I]
   rw[jK e,b];exact ih
theorem KT.repl{H:Hp}{L:List (List Key×V)}{xs:List (List Key×Addr×Value)}(r:KT H L xs)(k:List Key){y:V}{u:Value}(J:G5 y u) :
  KT H (L.map λkv=>if kv.1=k then (kv.1,y) else kv) (xs.map (putAt k u)):=by
 induction r with
 |nil=>exact .nil
 |@cons p q ps qs h t ih =>
  rw[Au,Au]
  refine .cons ?_ ih
  let ⟨h1,h2,I⟩:=h
  unfold putAt
  by_cases e:p.1=k
  ·rw[if_pos e,if_pos (h1.symm.trans e)];exact #v[h1,h2,J]
  ·rw[if_neg e,if_neg (λz=>e (h1.trans z))];exact #v[h1,h2,I]
theorem KT.put{H:Hp}{I:List (List Key×V)}{xs:List (List Key×Addr×Value)}(r:KT H I xs)(k:List Key){b:Addr}{y:V}{u:Value}(O:H b=some (.tup (k.map kV)))(L:G5 y u) :
  KT H (jI I k y) (storedH xs k b u):=by
 have e:(I.any λJ=>decide (J.1=k))=(atKey xs k).isSome:=by
  rw[sS,(r.val k).isSome_eq,Option.isSome_map]
 unfold jI storedH
 rw[e]
 by_cases q:(atKey xs k).isSome=true
 ·rw[if_pos q,if_pos q];exact r.repl k L
 ·rw[if_neg q,if_neg q];exact Paired.snoc r #v[rfl,O,L]
theorem KT.keeps(r:KT H kvs xs)(I:∀ b ys,H b=some (.tup ys)->H' b=some (.tup ys)):KT H' kvs xs :=
 Paired.mapP r λ_ _ z=>#v[z.1,I _ _ z.2.1,z.2.2]
theorem LS(ok:HOk P w H h)(e:Rd H a u):G9 P w H h a u:=e.ok ok
theorem xO(I:HOk P w H h)(e:Rd H a (.dK kvs)):kvs.length<=An/\(a == sysModules)=false/\∃ vs,KV kvs vs/\h.DictOf (bA P w) a vs :=
 show G9 P w H h a (.dK kvs) from LS I e
theorem RR(I:HOk P w H h)(e:H a=some (.dK kvs)):kvs.length<=An/\(a == sysModules)=false/\∃ vs,KV kvs vs/\h.DictOf (bA P w) a vs:=xO I (.inl e)
theorem rD(L:HOk P w H h)(e:H a=some (.tup (ks.map kV))):(tupleKind (bA P w)).is h ks a:=by
 let ⟨_,I,r,o,h1,h2,n,J⟩:=(show G9 P w H h a (.tup (ks.map kV)) from L a _ e)
 exact #v[o,I.toArray,n,h1,h2,J,by simpa using pP r]
theorem xP(J:HOk P w H h)(e:Rd H a (.dT kvs)):kvs.length<=An/\(a == sysModules)=false /\
  ∃ xs,KT H kvs xs/\h.DictOfH (tupleKind (bA P w)) a xs:=by
 let ⟨z,y,xs,r,o,es,ep,h1,h2,I,h4,L⟩:=(show G9 P w H h a (.dT kvs) from LS J e)
 exists z,y,xs,r,o,es,ep,h1,h2,I,h4,λx hx=>?_,L
 have all:∀{l:List (List Key×V)} {m:List (List Key×Addr×Value)},KT H l m->∀ x∈m,(tupleKind (bA P w)).is h x.1 x.2.1:=by
  intro l m q
  induction q with
  |nil=>intro x hx;exact nomatch hx
  |@cons p q ps qs hq t ih =>
   intro x hx
   rcases Am.mp hx with e|hx
   ·subst e
    exact rD J (by rw[<- hq.1];exact hq.2.1)
   ·exact ih x hx
 exact all r x hx
theorem RT(I:HOk P w H h)(e:H a=some (.dT kvs)):kvs.length<=An/\(a == sysModules)=false /\
  ∃ xs,KT H kvs xs/\h.DictOfH (tupleKind (bA P w)) a xs:=xP I (.inl e)
def DGet(H:Hp)(a:Addr)(y:V)(r:Option V):Prop :=
 (∃ kvs k,Rd H a (.dK kvs)/\y=kV k/\r=gO kvs k)\/∃ kvs k b,Rd H a (.dT kvs)/\y=.ref b/\H b=some (.tup (k.map kV))/\r=gO kvs k
def DPut(H:Hp)(a:Addr)(y v:V)(H':Hp):Prop :=
 (∃ kvs k,H a=some (.dK kvs)/\y=kV k/\kvs.length<An/\H'=upd H a (.dK (jI kvs k v))) \/
 ∃ kvs k b,H a=some (.dT kvs)/\y=.ref b/\H b=some (.tup (k.map kV))/\kvs.length<An/\H'=upd H a (.dT (jI kvs k v))
theorem DGet.k{H:Hp}{a:Addr}{I:List (Key×V)}{k:Key}(e:H a=some (.dK I)):DGet H a (kV k) (gO I k):=.inl #v[I,k,.inl e,rfl,rfl]
theorem DPut.k{H:Hp}{a:Addr}{I:List (Key×V)}{k:Key}{v:V}(e:H a=some (.dK I))(hl:I.length<An):DPut H a (kV k) v (upd H a (.dK (jI I k v))):=.inl #v[I,k,e,rfl,hl,rfl]
section
variable {X:Cx}{pins:List (Addr×Obj)}{σ:St}{H:Hp}{s:Shared}{a:Addr}{y v:V}{u r:Value}{o:Option V}{A:Around}{E:Value->Shared->Prop}
theorem Inv.big(I:Inv X pins σ H s):sysModules<s.heap.objs.size:=by
 have h:mainGlobals<s.heap.objs.size:=(I.mod.glob.keeps I.bk).lt
 exact Nat.lt_trans (by decide) h
theorem AA{Q:Value->Shared->Prop}(hu:A.units+1<cLine)(I:Inv X pins σ H s)(g:DGet H a y (some v))(Y:G5 y u)(h:∀ w' s',Inv X pins σ H s'->G5 v w'->Q w' s') :
  wpAny (model X.prog X.w) A (getItem (.ref a) u) Q E s:=by
 rcases g with ⟨O,k,e,V,l⟩|⟨O,k,b,e,V,eb,l⟩
 ·subst V
  let ⟨z,hd,vs,J,dd⟩:=xO I.hok e
  let ⟨w',hw,L⟩:=RelO.some_of (v:=v) (o:=valueAt vs k) (by rw[l];exact J.val k)
  exact wpAny_getItem_of (xN Y) dd.mapOf hw (h w' _ (I.tok _) L)
 ·subst V
  cases (show u=Value.ref b from Y)
  let ⟨z,hd,xs,J,dd⟩:=xP I.hok e
  let ⟨w',hw,L⟩:=RelO.some_of (v:=v) (o:=(atKey xs k).map (·.2)) (by rw[l];exact J.val k)
  let ⟨p,Z,S⟩:=Bz.mp hw
  refine wpAny_getItem_heap (tupleKind_room_in1 hu) (rD I.hok eb) dd Z ?_
  rw[S]
  exact h w' _ (I.tok _) L
theorem VR{Q:Value->Shared->Prop}(Y:A.units+1<cLine)(I:Inv X pins σ H s)(g:DGet H a y o)(S:G5 y u)(h:∀ s',Inv X pins σ H s'->Q (.bool o.isSome) s') :
  wpAny (model X.prog X.w) A (compareOp .In u (.ref a)) Q E s:=by
 rcases g with ⟨L,k,e,O,l⟩|⟨L,k,b,e,O,V,l⟩
 ·subst O
  let ⟨z,hd,vs,J,dd⟩:=xO I.hok e
  refine wpAny_in_of (xN S) hd dd.mapOf ?_
  rw[<- (J.val k).isSome_eq,<- l]
  exact h _ (I.tok _)
 ·subst O
  cases (show u=Value.ref b from S)
  let ⟨z,hd,xs,J,dd⟩:=xP I.hok e
  refine wpAny_in_heap (tupleKind_room_in1 Y) (rD I.hok V) hd dd ?_
  have q:=(J.val k).isSome_eq
  rw[Option.isSome_map]at q
  rw[<- q,<- l]
  exact h _ (I.tok _)
theorem xQ{h':Heap}{t':Nat}{V:HO}(I:Inv X pins σ H s)(S:Mut (H a))(hs:Heap.SameBut a s.heap h')(O:∃ q,h'.get? a=some q)(J:G9 X.prog X.w (upd H a V) h' a V) :
  Inv X pins σ (upd H a V) { s with heap:=h',toks:=t' } :=
 I.write (x:=a) (e:=a) S (.inl rfl) (λb q L z=>(hs.2 b L).trans z) O J
theorem NL(z:kvs.length<=An)(hd:(a == sysModules)=false)(I:KV kvs vs)(dd:h'.DictOf (bA P w) a vs) :
  G9 P w H' h' a (.dK kvs):=#v[z,hd,vs,I,dd]
theorem AB{H':Hp}{Q:Unit->Shared->Prop}(hu:A.units+1<cLine)(I:Inv X pins σ H s)(g:DPut H a y v H')(ry:G5 y u)(rv:G5 v r)(h:∀ s',Inv X pins σ H' s'->Q () s') :
  wpAny (model X.prog X.w) A (setItem (.ref a) u r) Q E s:=by
 rcases g with ⟨L,k,e,Z,l,Y⟩|⟨L,k,b,e,Z,eb,l,Y⟩
 ·subst Z Y
  let ⟨z,hd,vs,J,dd⟩:=RR I.hok e
  have V:vs.length<=An:=by rw[<- J.length];exact z
  have hl:(jI L k v).length<=An:=by have:=lM L k v;lia
  refine wpAny_setItem_pairs (hsz:=V) (xN ry) dd λh' O hs=>h _ ?_
  have he:∃ q,h'.get? a=some q:=let ⟨q,_,_,S,_⟩:=O;#v[q,S]
  exact xQ I (by rw[e];exact True.intro) hs he (NL hl hd (J.put k rv) O)
 ·subst Z Y
  cases (show u=Value.ref b from ry)
  let ⟨z,hd,xs,J,dd⟩:=RT I.hok e
  have V:xs.length<=An:=by rw[<- Paired.length J];exact z
  have hl:(jI L k v).length<=An:=by have:=lM L k v;lia
  refine wpAny_setItem_heap (hsz:=V) (tupleKind_room_in1 hu) (rD I.hok eb) dd λh' O hs=>h _ ?_
  let ⟨q,es,ep,S,h2,h3,h4,_,h5⟩:=O
  refine xQ I (by rw[e];exact True.intro) hs #v[q,S] #v[hl,hd,_,(J.put k eb rv).keeps λc ys ec=>?_,q,es,ep,S,h2,h3,h4,h5]
  rw[aL (QZ ec e (λz=>nomatch z))]
  exact ec
end
theorem sU{X:Cx}{pins:List (Addr×Obj)}{σ:St}{H:Hp}{s:Shared}{a:Addr}{y:V}{o:Option V}(I:Inv X pins σ H s)(g:DGet H a y o):s.TypeIs (.ref a) "dict":= by
 rcases g with ⟨J,k,e,_,_⟩|⟨J,k,b,e,_,_,_⟩
 ·let ⟨_,_,vs,_,dd⟩:=xO I.hok e
  exact dd.typeIs
 ·let ⟨_,_,xs,_,dd⟩:=xP I.hok e
  exact dd.typeIs
structure M1(X:Cx)(o:Expr)(m:Str)(apos:Pos)(e:Expr)(cpos:Pos):Prop where
 base:attributeBase o m X.env (eval o X.env)=eval o X.env
 few:((backTo cpos (A0 [e] X.env)).all (λx=>!x.1)&&(backToKw cpos (keywordEach [] X.env)).all (λx=>x.1.isSome)
  && decide (([e]:List Expr).length+([]:List Keyword).length+(if ([]:List Keyword).isEmpty then 0 else 1)<30))=true
 line:(apos.endLine == cpos.line)=true
 trees:backTo cpos (A0 [e] X.env)=[(false,eval e X.env)]
structure M2(X:Cx)(o:Expr)(m:Str)(apos:Pos)(e f:Expr)(cpos:Pos):Prop where
 base:attributeBase o m X.env (eval o X.env)=eval o X.env
 few:((backTo cpos (A0 [e,f] X.env)).all (λx=>!x.1)&&(backToKw cpos (keywordEach [] X.env)).all (λx=>x.1.isSome)
  && decide (([e,f]:List Expr).length+([]:List Keyword).length+(if ([]:List Keyword).isEmpty then 0 else 1)<30))=true
 line:(apos.endLine == cpos.line)=true
 trees:backTo cpos (A0 [e,f] X.env)=[(false,eval e X.env),(false,eval f X.env)]
end L2
set_option maxHeartbeats 4000000
namespace D3
open PySem PySem.Spec PyProof.Rows L2
abbrev St:=L2.St
inductive D where
 |non|bl(b:Bool)|int(i:Int)|str(x:Str)|ty(n:String)|tup(ds:List D)|ref(a:Addr)
mutual
def Is(H:Hp):D->V->Prop
 |.non,v=>v=.non
 |.bl b,v=>v=.bl b
 |.int i,v=>v=.int i
 |.str x,v=>v=.str x
 |.ty n,v=>v=.ty n
 |.tup ds,v=>∃ a xs,v=.ref a/\H a=some (.tup xs)/\IsL H ds xs
 |.ref a,v=>v=.ref a
def IsL(H:Hp):List D->List V->Prop
 |[],xs=>xs=[]
 |d::ds,xs=>∃ x r,xs=x::r/\Is H d x/\IsL H ds r
end
def F6(H H':Hp):Prop:=∀ b xs,H b=some (.tup xs)->H' b=some (.tup xs)
theorem F6.refl(H:Hp):F6 H H:=λ_ _ h=>h
theorem F6.trans(a:F6 H H1)(b:F6 H1 H2):F6 H H2:=λc o h=>b c o (a c o h)
theorem cH(h:∀ xs,H p≠some (.tup xs)):F6 H (upd H p o):=λb xs e=>by
 have:b≠p:=by intro z;subst z;exact h xs e
 rw[aL this];exact e
theorem aK(h:H p=none):F6 H (upd H p o):=cH (by intro xs e;rw[h]at e;cases e)
mutual
theorem Is.grow(g:F6 H H'):∀(d:D) (v:V),Is H d v->Is H' d v
 |.non,_,h=>by unfold Is at h ⊢;exact h
 |.bl _,_,h=>by unfold Is at h ⊢;exact h
 |.int _,_,h=>by unfold Is at h ⊢;exact h
 |.str _,_,h=>by unfold Is at h ⊢;exact h
 |.ty _,_,h=>by unfold Is at h ⊢;exact h
 |.ref _,_,h=>by unfold Is at h ⊢;exact h
 |.tup ds,v,h=>by
  unfold Is at h ⊢
  let ⟨a,xs,e,h1,h2⟩:=h
  exact #v[a,xs,e,g _ _ h1,IsL.grow g ds xs h2]
theorem IsL.grow(g:F6 H H'):∀(ds:List D) (vs:List V),IsL H ds vs->IsL H' ds vs
 |[],_,h=>by unfold IsL at h ⊢;exact h
 |d::ds,vs,h=>by
  unfold IsL at h ⊢
  let ⟨x,r,e,h1,h2⟩:=h
  exact #v[x,r,e,Is.grow g d x h1,IsL.grow g ds r h2]
end
theorem cJ:Is H .non v↔v=.non:=by unfold Is;exact Iff.rfl
theorem bL:Is H (.bl b) v↔v=.bl b:=by unfold Is;exact Iff.rfl
theorem aM:Is H (.int i) v↔v=.int i:=by unfold Is;exact Iff.rfl
theorem aR:Is H (.str x) v↔v=.str x:=by unfold Is;exact Iff.rfl
theorem LT:Is H (.ty x) v↔v=.ty x:=by unfold Is;exact Iff.rfl
theorem aH:Is H (.ref a) v↔v=.ref a:=by unfold Is;exact Iff.rfl
theorem bM:Is H (.tup ds) v↔∃ a xs,v=.ref a/\H a=some (.tup xs)/\IsL H ds xs:=by
 constructor
 ·intro h;unfold Is at h;exact h
 ·intro h;unfold Is;exact h
theorem aV:IsL H [] vs↔vs=[]:=by unfold IsL;exact Iff.rfl
theorem aG:IsL H (d::ds) vs↔∃ x r,vs=x::r/\Is H d x/\IsL H ds r:=by
 constructor
 ·intro h;unfold IsL at h;exact h
 ·intro h;unfold IsL;exact h
theorem IsL.len:∀{ds:List D} {vs:List V},IsL H ds vs->ds.length=vs.length
 |[],vs,h=>by rw[aV]at h;rw[h];rfl
 |d::ds,vs,h=>by
  rw[aG]at h
  let ⟨x,r,e,_,h2⟩:=h
  rw[e,Ah,Ah,IsL.len h2]
theorem IsL.get:∀{ds:List D} {vs:List V} {i:Nat} {d:D},IsL H ds vs->ds[i]?=some d->∃ v,vs[i]?=some v/\Is H d v
 |[],vs,i,d,_,e=>by simp at e
 |d'::ds,vs,0,d,h,e=>by
  rw[aG]at h
  let ⟨x,r,e1,h1,_⟩:=h
  simp at e;subst e;subst e1
  exact #v[x,rfl,h1]
 |d'::ds,vs,i+1,d,h,e=>by
  rw[aG]at h
  let ⟨x,r,e1,_,h2⟩:=h
  subst e1
  let ⟨v,e2,I⟩:=IsL.get (i:=i) h2 (by simpa using e)
  exact #v[v,by simpa using e2,I]
theorem IsL.get':∀{ds:List D} {vs:List V} {i:Nat} {v:V},IsL H ds vs->vs[i]?=some v->∃ d,ds[i]?=some d/\Is H d v
 |[],vs,i,d,h,e=>by rw[aV]at h;subst h;simp at e
 |d'::ds,vs,0,v,h,e=>by
  rw[aG]at h
  let ⟨x,r,e1,h1,_⟩:=h
  subst e1;simp at e;subst e
  exact #v[d',rfl,h1]
 |d'::ds,vs,i+1,v,h,e=>by
  rw[aG]at h
  let ⟨x,r,e1,_,h2⟩:=h
  subst e1
  let ⟨d,e2,I⟩:=IsL.get' (i:=i) h2 (by simpa using e)
  exact #v[d,by simpa using e2,I]
theorem IsL.app:∀{ds es:List D} {vs us:List V},IsL H ds vs->IsL H es us->IsL H (ds++es) (vs++us)
 |[],es,vs,us,h,k=>by rw[aV]at h;subst h;exact k
 |d::ds,es,vs,us,h,k=>by
  rw[aG]at h
  let ⟨x,r,e,h1,h2⟩:=h
  subst e
  show IsL H (d::(ds++es)) (x::(r++us))
  rw[aG]
  exact #v[x,r++us,rfl,h1,h2.app k]
theorem IsL.take:∀{ds:List D} {vs:List V} (n:Nat),IsL H ds vs->IsL H (ds.take n) (vs.take n)
 |_,_,0,_=>by rw[Fg,Fg,aV]
 |[],vs,n+1,h=>by rw[aV]at h;subst h;rw[Ee,Ee,aV]
 |d::ds,vs,n+1,h=>by
  rw[aG]at h
  let ⟨x,r,e,h1,h2⟩:=h
  subst e
  rw[B8,B8,aG]
  exact #v[x,r.take n,rfl,h1,h2.take n]
theorem IsL.drop:∀{ds:List D} {vs:List V} (n:Nat),IsL H ds vs->IsL H (ds.drop n) (vs.drop n)
 |_,_,0,h=>h
 |[],vs,n+1,h=>by rw[aV]at h;subst h;rw[List.drop_nil,List.drop_nil,aV]
 |d::ds,vs,n+1,h=>by
  rw[aG]at h
  let ⟨x,r,e,h1,h2⟩:=h
  subst e
  rw[C7,C7]
  exact h2.drop n
theorem IsL.ints:∀{ns:List Int},IsL H (ns.map D.int) (ns.map V.int)
 |[]=>by rw[Bq,Bq,aV]
 |n::ns=>by rw[Au,Au,aG];exact #v[_,_,rfl,aM.mpr rfl,IsL.ints]
inductive MO where
 |lst(ds:List D)|ro(ds:List D)|dic(kvs:List (Str×D))
 |exc(C:Addr)(dd:Option Addr)(fresh:Bool)|att(fs:List (Str×D))
 |rod(o:Obj)(kvs:List (Str×D))
 |raw(φ:Heap->Prop)
 |tkd(kvs:List (List Int×D))
 |ins(C:Addr)(fs:List (Str×D))
abbrev MH:=Addr->Option MO
def FF(M:MH)(a:Addr)(o:MO):MH:=λb=>if b=a then some o else M b
theorem FB:FF M a o a=some o:=by unfold FF;rw[if_pos rfl]
theorem aC(h:b≠a):FF M a o b=M b:=by unfold FF;rw[if_neg h]
theorem aJ(n:M a=none)(h:M b=some u):FF M a o b=some u:=by
 rw[aC];exact h
 intro z;subst z;rw[n]at h;cases h
def KvIs(H:Hp):List (Str×D)->List (Key×V)->Prop
 |[],ys=>ys=[]
 |(k,d)::r,ys=>∃ v ys',ys=(Sum.inr k,v)::ys'/\Is H d v/\KvIs H r ys'
def eZ(a C:Addr)(dd:Option Addr)(fresh:Bool)(h:Heap):Prop :=
 ∃ o vs,h.get? a=some o/\o.cls=.ref C/\o.dict=dd/\o.data=.fields vs/\(fresh=true->o.slots=#[]/\∃ t,vs=#[.ref t,.none,.none,.none,.bool false,.none])
def FsIs(H:Hp):List (Str×D)->List (Str×V)->Prop
 |[],ys=>ys=[]
 |(k,d)::r,ys=>∃ v ys',ys=(k,v)::ys'/\Is H d v/\FsIs H r ys'
def TkIs(H:Hp):List (List Int×D)->List (List Key×V)->Prop
 |[],ys=>ys=[]
 |(k,d)::r,ys=>∃ v ys',ys=(k.map Sum.inl,v)::ys'/\Is H d v/\TkIs H r ys'
theorem TkIs.grow(g:F6 H H'):∀{fs:List (List Int×D)} {ys:List (List Key×V)},TkIs H fs ys->TkIs H' fs ys
 |[],ys,h=>h
 |(k,d)::r,ys,h=>by
  let ⟨v,I,e,h1,h2⟩:=h
  exact #v[v,I,e,Is.grow g _ _ h1,TkIs.grow g h2]
def IsM(K:Ad)(H:Hp)(a:Addr):MO->Prop
 |.lst ds=>∃ xs,H a=some (.lst xs)/\IsL H ds xs
 |.ro ds=>∃ xs,SqL K H a xs/\IsL H ds xs
 |.dic kvs=>∃ ys,H a=some (.dK ys)/\KvIs H kvs ys
 |.exc C dd fr=>H a=some (.ext (eZ a C dd fr))
 |.att fs=>∃ ys,H a=some (.xd ys)/\FsIs H fs ys
 |.rod o kvs=>∃ ys,H a=some (.frz o (.dK ys))/\KvIs H kvs ys
 |.raw φ=>H a=some (.ext φ)
 |.tkd kvs=>∃ ys,H a=some (.dT ys)/\TkIs H kvs ys
 |.ins C fs=>∃ dx ys,H a=some (.ins C dx ys)/\FsIs H fs ys
theorem FsIs.grow(g:F6 H H'):∀{fs:List (Str×D)} {ys:List (Str×V)},FsIs H fs ys->FsIs H' fs ys
 |[],ys,h=>h
 |(k,d)::r,ys,h=>by
  let ⟨v,I,e,h1,h2⟩:=h
  exact #v[v,I,e,Is.grow g _ _ h1,FsIs.grow g h2]
theorem KvIs.grow(g:F6 H H'):∀{kvs:List (Str×D)} {ys:List (Key×V)},KvIs H kvs ys->KvIs H' kvs ys
 |[],ys,h=>h
 |(k,d)::r,ys,h=>by
  let ⟨v,I,e,h1,h2⟩:=h
  exact #v[v,I,e,Is.grow g _ _ h1,KvIs.grow g h2]
def F9(K:Ad)(M:MH)(H:Hp):Prop:=∀ a o,M a=some o->IsM K H a o
def KF(K:Ad)(H:Hp):Prop:=∀ a o,K.lookup a=some o->H a=none
theorem IsM.there{K:Ad}(h:IsM K H a o):(∃ u,H a=some u)\/∃ u,K.lookup a=some u:=by
 cases o with
 |lst ds=>let ⟨xs,e,_⟩:=h;exact .inl #v[_,e]
 |dic I=>let ⟨xs,e,_⟩:=h;exact .inl #v[_,e]
 |att fs=>let ⟨xs,e,_⟩:=h;exact .inl #v[_,e]
 |rod o I=>let ⟨xs,e,_⟩:=h;exact .inl #v[_,e]
 |exc C dd J=>exact .inl #v[_,h]
 |raw φ=>exact .inl #v[_,h]
 |tkd I=>let ⟨xs,e,_⟩:=h;exact .inl #v[_,e]
 |ins C fs=>let ⟨L,xs,e,_⟩:=h;exact .inl #v[_,e]
 |ro ds =>
  let ⟨xs,e,_⟩:=h
  rcases e with (e|⟨o,e⟩)|⟨o,_,_,e,_⟩
  ·exact .inl #v[_,e]
  ·exact .inl #v[_,e]
  ·exact .inr #v[_,e]
theorem F9.fresh{K:Ad}{M:MH}{H:Hp}{p:Addr}{o:HO}(m:F9 K M H)(I:H p=none)(J:KF K (upd H p o)):M p=none:=by
 cases e:M p with
 |none=>rfl
 |some u =>
  rcases (m p u e).there with ⟨u,h⟩|⟨u,h⟩
  ·rw[I]at h;cases h
  ·have:=J p u h
   rw[aI]at this;cases this
theorem IsM.stay{K:Ad}{H H':Hp}{a:Addr}{o:MO}(g:F6 H H')(I:∀ u,H a=some u->H' a=some u)(h:IsM K H a o):IsM K H' a o:=by
 cases o with
 |lst ds=>let ⟨xs,e,q⟩:=h;exact #v[xs,I _ e,q.grow g]
 |dic J=>let ⟨xs,e,q⟩:=h;exact #v[xs,I _ e,q.grow g]
 |att fs=>let ⟨xs,e,q⟩:=h;exact #v[xs,I _ e,q.grow g]
 |rod o J=>let ⟨xs,e,q⟩:=h;exact #v[xs,I _ e,q.grow g]
 |exc C dd O=>exact I _ h
 |raw φ=>exact I _ h
 |tkd J=>let ⟨xs,e,q⟩:=h;exact #v[xs,I _ e,q.grow g]
 |ins C fs=>let ⟨L,xs,e,q⟩:=h;exact #v[L,xs,I _ e,q.grow g]
 |ro ds =>
  let ⟨xs,e,q⟩:=h
  exists xs,?_,q.grow g
  rcases e with (e|⟨o,e⟩)|e
  ·exact .inl (.inl (I _ e))
  ·exact .inl (.inr #v[o,I _ e])
  ·exact .inr e
theorem F9.new{K:Ad}{M:MH}{H:Hp}{p:Addr}{o:HO}(m:F9 K M H)(I:H p=none):F9 K M (upd H p o):=λa u e =>
 (m a u e).stay (aK I) λv h=>by rw[aL (dP h I)];exact h
theorem F9.lay{K:Ad}{M:MH}{H:Hp}{p:Addr}{o:HO}{u:MO}(m:F9 K M H)(I:H p=none)(h:IsM K (upd H p o) p u):F9 K (FF M p u) (upd H p o):=λa v e=>by
 by_cases z:a=p
 ·subst z;rw[FB]at e;cases e;exact h
 ·rw[aC z]at e;exact m.new I a v e
theorem F9.put{K:Ad}{M:MH}{H:Hp}{p:Addr}{o:HO}{u:MO}(m:F9 K M H)(I:∀ xs,H p≠some (.tup xs))(h:IsM K (upd H p o) p u):F9 K (FF M p u) (upd H p o):=λa v e=>by
 by_cases z:a=p
 ·subst z;rw[FB]at e;cases e;exact h
 ·rw[aC z]at e
  exact (m a v e).stay (cH I) λw q=>by rw[aL z];exact q
abbrev Ga:=List (Option D)
abbrev DK:=D->MH->Prop
structure Rel(X:Cx)(G:Ga)(M:MH)(σ:St)(H:Hp):Prop where
 loc:∀(i:Nat) (d:D),G[i]?=some (some d)->∃ v,σ[i]?=some (some v)/\Is H d v
 mem:F9 X.K M H
theorem Rel.to(R:Rel X G M σ H)(g:F6 H H')(m:F9 X.K M' H'):Rel X G M' σ H' :=
 #v[λi d e=>let ⟨v,e1,h⟩:=R.loc i d e;#v[v,e1,Is.grow g _ _ h],m]
theorem Rel.set(R:Rel X G M σ H)(I:i<σ.length)(h:Is H d v):Rel X (G.set i (some d)) M (σ.set i (some v)) H :=
 #v[λj e q=>by
  by_cases z:i=j
  ·subst z
   by_cases hG:i<G.length
   ·rw[Da hG]at q
    cases q
    exact #v[v,Da I,h]
   ·rw[B2 (by rw[List.length_set];lia)]at q;cases q
  ·rw[C2 z]at q
   let ⟨w,e1,h1⟩:=R.loc j e q
   exact #v[w,by rw[C2 z];exact e1,h1],R.mem]
theorem dZ{X:Cx}{pins:List (Addr×Obj)}{σ:St}{H:Hp}{s:Shared}(I:Inv X pins σ H s):KF X.K H:=λa o e=>(I.bs a o (I.mod.kin a o e)).2
def EPD(X:Cx)(pins:List (Addr×Obj))(σ:St)(G:Ga)(H:Hp)(Q:DK)(u:Value)(s':Shared):Prop :=
 ∃ v H' d M',Inv X pins σ H' s'/\G5 v u/\F6 H H'/\Is H' d v/\Rel X G M' σ H'/\Q d M'
def EV(X:Cx)(G:Ga)(M:MH)(e:Expr)(Q:DK):Prop :=
 ∀(pins:List (Addr×Obj)) (s:Shared) (σ:St) (H:Hp),Inv X pins σ H s->Rel X G M σ H->wpAny (model X.prog X.w) X.A (eval e X.env) (EPD X pins σ G H Q) X.xe s
def TPD(X:Cx)(pins:List (Addr×Obj))(σ:St)(G:Ga)(H:Hp)(Q:Bool->MH->Prop)(b:Bool)(s':Shared):Prop :=
 ∃ H' M',Inv X pins σ H' s'/\F6 H H'/\Rel X G M' σ H'/\Q b M'
def TV(X:Cx)(G:Ga)(M:MH)(e:Expr)(Q:Bool->MH->Prop):Prop :=
 ∀(pins:List (Addr×Obj)) (s:Shared) (σ:St) (H:Hp),Inv X pins σ H s->Rel X G M σ H->wpAny (model X.prog X.w) X.A (isTrue e X.env (eval e X.env)) (TPD X pins σ G H Q) X.xe s
def TW(X:Cx)(G:Ga)(M:MH)(e:Expr)(Q:Bool->MH->Prop):Prop :=
 ∀(whole:Sem Value) (pins:List (Addr×Obj)) (s:Shared) (σ:St) (H:Hp),Inv X pins σ H s->Rel X G M σ H->wpAny (model X.prog X.w) X.A (isTrue e X.env whole) (TPD X pins σ G H Q) X.xe s
theorem TW.tv(h:TW X G M e Q):TV X G M e Q:=h _
def APD(X:Cx)(pins:List (Addr×Obj))(σ:St)(G:Ga)(H:Hp)(Q:List D->MH->Prop)(us:List Value)(s':Shared):Prop :=
 ∃ vs H' ds M',Inv X pins σ H' s'/\Vals vs us/\F6 H H'/\IsL H' ds vs/\Rel X G M' σ H'/\Q ds M'
def AV(X:Cx)(G:Ga)(M:MH)(es:List Expr)(Q:List D->MH->Prop):Prop :=
 ∀(pos:Pos) (pins:List (Addr×Obj)) (s:Shared) (σ:St) (H:Hp),Inv X pins σ H s->Rel X G M σ H->wpAny (model X.prog X.w) X.A (spliced (backTo pos (A0 es X.env))) (APD X pins σ G H Q) X.xe s
structure EndsD where
 nx:Ga->MH->Prop
 rt:DK
 bk:Ga->MH->Prop:=λ_ _=>False
 ct:Ga->MH->Prop:=λ_ _=>False
def SPD(X:Cx)(pins:List (Addr×Obj))(H:Hp)(E:EndsD)(f:Flow)(s':Shared):Prop :=
 match f with
 |.next=>∃ σ' H' G' M',Inv X pins σ' H' s'/\F6 H H'/\Rel X G' M' σ' H'/\E.nx G' M'
 |.brk=>∃ σ' H' G' M',Inv X pins σ' H' s'/\F6 H H'/\Rel X G' M' σ' H'/\E.bk G' M'
 |.cont=>∃ σ' H' G' M',Inv X pins σ' H' s'/\F6 H H'/\Rel X G' M' σ' H'/\E.ct G' M'
 |.ret u=>∃ v σ' H' d M',Inv X pins σ' H' s'/\G5 v u/\F6 H H'/\Is H' d v/\F9 X.K M' H'/\E.rt d M'
def EX(X:Cx)(G:Ga)(M:MH)(st:Stmt)(E:EndsD):Prop :=
 ∀(pins:List (Addr×Obj)) (s:Shared) (σ:St) (H:Hp),Inv X pins σ H s->Rel X G M σ H->wpAny (model X.prog X.w) X.A (exec st X.env) (SPD X pins H E) X.xe s
def EXs(X:Cx)(G:Ga)(M:MH)(st:List Stmt)(E:EndsD):Prop :=
 ∀(pins:List (Addr×Obj)) (s:Shared) (σ:St) (H:Hp),Inv X pins σ H s->Rel X G M σ H->wpAny (model X.prog X.w) X.A (execs st X.env) (SPD X pins H E) X.xe s
theorem EPD.grow(g:F6 H0 H)(h:EPD X pins σ G H Q u s'):EPD X pins σ G H0 Q u s' :=
 let ⟨v,H',d,M',I,r,g',i,R,q⟩:=h;#v[v,H',d,M',I,r,g.trans g',i,R,q]
theorem TPD.grow(g:F6 H0 H)(h:TPD X pins σ G H Q u s'):TPD X pins σ G H0 Q u s' :=
 let ⟨H',M',I,g',R,q⟩:=h;#v[H',M',I,g.trans g',R,q]
theorem SPD.grow(g:F6 H0 H)(h:SPD X pins H E f s'):SPD X pins H0 E f s':=by
 cases f with
 |next=>let ⟨σ',H',J,M',I,g',R,q⟩:=h;exact #v[σ',H',J,M',I,g.trans g',R,q]
 |brk=>let ⟨σ',H',J,M',I,g',R,q⟩:=h;exact #v[σ',H',J,M',I,g.trans g',R,q]
 |cont=>let ⟨σ',H',J,M',I,g',R,q⟩:=h;exact #v[σ',H',J,M',I,g.trans g',R,q]
 |ret u=>let ⟨v,σ',H',d,M',I,r,g',i,R,q⟩:=h;exact #v[v,σ',H',d,M',I,r,g.trans g',i,R,q]
section
variable {X:Cx}{G:Ga}{M:MH}{a b c e:Expr}{es rest:List Expr}{pos:Pos}{Q:DK}
theorem EV.mono(h:EV X G M e Q)(k:∀ d M',Q d M'->Q' d M'):EV X G M e Q':=λpins s σ H I R =>
 thn (h pins s σ H I R) λu s' ⟨v,H',d,M',I',r,g,i,R',q⟩=>#v[v,H',d,M',I',r,g,i,R',k _ _ q]
theorem EV.of(h:PE X e t)(k:∀ σ H,KF X.K H->Rel X G M σ H->t σ H λv H'=>KF X.K H'->F6 H H'/\∃ d M',Is H' d v/\F9 X.K M' H'/\Q d M'):EV X G M e Q:=λpins s σ H I R =>
 thn (h pins s σ H _ I (k σ H (dZ I) R)) λu s' ⟨v,H',I',r,q⟩ =>
  let ⟨g,d,M',i,m,q⟩:=q (dZ I')
  #v[v,H',d,M',I',r,g,i,R.to g m,q]
theorem aP(i:Nat)(q:Q d M)(hN:X.N[i]?=some x:=by rfl)(hG:G[i]?=some (some d):=by rfl)(hv:Vis X.env.scope x:=by first|exact Bh rfl|exact D0 (Bh rfl)|exact D0 (D0 rfl))
  (hd:(x == ("__debug__":Str))=false:=by decide)(hcd:(x == ("__classdict__":Str))=false:=by decide):EV X G M (.Name x pos) Q :=
 EV.of (MN hN hv hd hcd) λσ H kf R=>let ⟨v,e1,h⟩:=R.loc i d hG;#v[v,e1,λ_=>#v[F6.refl _,d,M,h,R.mem,q]]
theorem NM{j}(q:Q (.int i) M):EV X G M (.Constant (.int i) j pos) Q:=EV.of MP λσ H kf R=>show _ from λ_=>#v[F6.refl _,_,M,aM.mpr rfl,R.mem,q]
theorem RV{j}(q:Q (.bl i) M):EV X G M (.Constant (.bool i) j pos) Q:=EV.of RB λσ H kf R=>show _ from λ_=>#v[F6.refl _,_,M,bL.mpr rfl,R.mem,q]
theorem NN{j}(q:Q .non M):EV X G M (.Constant .none j pos) Q:=EV.of MQ λσ H kf R=>show _ from λ_=>#v[F6.refl _,_,M,cJ.mpr rfl,R.mem,q]
theorem NO{x}{j}(q:Q (.str x) M):EV X G M (.Constant (.str x) j pos) Q:=EV.of MR λσ H kf R=>show _ from λ_=>#v[F6.refl _,_,M,aR.mpr rfl,R.mem,q]
theorem IE(hm:X.mg x=some (.int i t))(q:Q (.int i) M)(hg:Gl X x:=by rfl)(hd:(x == ("__debug__":Str))=false:=by decide):EV X G M (.Name x pos) Q :=
 EV.of (mD (v:=.int i) hg hm #v[_,rfl] hd) λσ H kf R=>show _ from λ_=>#v[F6.refl _,_,M,aM.mpr rfl,R.mem,q]
theorem vQ(hm:X.mg x=none)(I:bootBuiltins x=some (.type n))(q:Q (.ty n) M)(hg:Gl X x:=by rfl)(hn:x ≠ "__name__":= by decide)(hd:(x == ("__debug__":Str))=false:=by decide):EV X G M (.Name x pos) Q :=
 EV.of (HS (v:=.ty n) hg hm I rfl hn hd) λσ H kf R=>show _ from λ_=>#v[F6.refl _,_,M,LT.mpr rfl,R.mem,q]
abbrev RDP(K:Ad)(H:Hp)(Q:DK):VK:=λv H'=>KF K H'->F6 H H'/\∃ d M',Is H' d v/\F9 K M' H'/\Q d M'
def RD(K:Ad)(r:R2)(da db:D)(M:MH)(Q:DK):Prop:=∀ H x y,KF K H->Is H da x->Is H db y->F9 K M H->r x y H (RDP K H Q)
def RU(K:Ad)(r:V->Hp->VK->Prop)(da:D)(M:MH)(Q:DK):Prop:=∀ H x,KF K H->Is H da x->F9 K M H->r x H (RDP K H Q)
def RC(K:Ad)(r:List V->Hp->VK->Prop)(ds:List D)(M:MH)(Q:DK):Prop:=∀ H xs,KF K H->IsL H ds xs->F9 K M H->r xs H (RDP K H Q)
theorem kP(I:F6 H0 H)(R:Rel X G M0 σ H)(h:EP X pins σ (RDP X.K H Q) u s'):EPD X pins σ G H0 Q u s' :=
 let ⟨v,H',I',r,q⟩:=h
 let ⟨g,d,M',i,m,q⟩:=q (dZ I')
 #v[v,H',d,M',I',r,I.trans g,i,R.to g m,q]
theorem ev2{f:Value->Value->Sem Value}{r:R2}(L:OpR X f r)(h:EV X G M a λda Ma=>EV X G Ma b λdb Mb=>RD X.K r da db Mb Q)
  {pins:List (Addr×Obj)}{s:Shared}{σ:St}{H:Hp}(I:Inv X pins σ H s)(R:Rel X G M σ H) :
  wpAny (model X.prog X.w) X.A (eval a X.env) (λv s1=>wpAny (model X.prog X.w) X.A (eval b X.env) (λu s2=>wpAny (model X.prog X.w) X.A (f v u) (EPD X pins σ G H Q) X.xe s2) X.xe s1) X.xe s:=by
 refine thn (h pins s σ H I R) λv s1 ⟨x,H1,da,Ma,I1,r1,g1,i1,R1,q1⟩=>?_
 refine thn (q1 pins s1 σ H1 I1 R1) λu s2 ⟨y,H2,db,Mb,I2,r2,g2,i2,R2,q2⟩=>?_
 exact thn (L pins s2 σ H2 x y v u _ I2 r1 r2 (q2 H2 x y (dZ I2) (Is.grow g2 _ _ i1) i2 R2.mem)) λw O J=>kP (g1.trans g2) R2 J
theorem lN(J:OpR X (binaryOp op) r)(h:EV X G M a λda Ma=>EV X G Ma b λdb Mb=>RD X.K r da db Mb Q):EV X G M (.BinOp a op b pos) Q :=
 λpins s σ H I R=>wpAny_BinOp (ev2 J h I R)
theorem RW(L:UnR X (unaryOp op) r)(h:EV X G M a λda Ma=>RU X.K r da Ma Q):EV X G M (.UnaryOp op a pos) Q :=
 λpins s σ H I R=>UnaryOp_ (thn (h pins s σ H I R) λv s1 ⟨x,H1,da,Ma,I1,r1,g1,i1,R1,q1⟩ =>
  thn (L pins s1 σ H1 x v _ I1 r1 (q1 H1 x (dZ I1) i1 R1.mem)) λw O J=>kP g1 R1 J)
theorem iS(J:OpR X (compareOp op) r)(hm:behindInMarks op b=false)(h:EV X G M a λda Ma=>EV X G Ma b λdb Mb=>RD X.K r da db Mb Q):EV X G M (.Compare a [op] [b] pos) Q :=
 λpins s σ H I R=>wpAny_Compare1 (ev2 J h I R) hm
theorem nB(S:OpR X (compareOp op) r)(hm:behindInMarks op b=false)
  (h:EV X G M a λda Ma=>EV X G Ma b λdb Mb=>RD X.K r da db Mb λd M'=>∃ k,d=.bl k/\Qb k M'):TV X G M (.Compare a [op] [b] pos) Qb:=by
 intro J s σ H I R
 refine wpAny_isTrue_Compare1 (thn (ev2 S h I R) λv L h1=>thn h1 λu O h2=>thn h2 λw s3 ⟨z,H3,d,M3,I3,r3,g3,i3,R3,k,e,q⟩=>?_) hm
 subst e
 rw[bL]at i3;subst i3
 cases r3
 exact wpAny_truthy_bool #v[H3,M3,I3,g3,R3,q]
def AC(K:Ad)(d:D)(M:MH)(k:Bool):Prop:=match d with
 |.non=>k=false
 |.bl b=>k=b
 |.int i=>k=(i != 0)
 |.tup ds=>k=!ds.isEmpty
 |.ref a=>(∃ ds,M a=some (.lst ds)/\k=!ds.isEmpty)\/(∃ ds,M a=some (.ro ds)/\k=!ds.isEmpty)
 |_=>False
theorem IsL.empty(h:IsL H ds vs):ds.isEmpty=vs.isEmpty:=by
 cases ds with
 |nil=>rw[aV]at h;subst h;rfl
 |cons d r=>rw[aG]at h;let ⟨_,_,e,_⟩:=h;subst e;rfl
theorem NP{K:Ad}{H:Hp}{d:D}{M:MH}{v:V}{k:Bool}(m:F9 K M H)(i:Is H d v)(t:AC K d M k):RK K v H k:=by
 cases d with
 |non=>rw[cJ]at i;subst i;exact t
 |bl b=>rw[bL]at i;subst i;exact t
 |int b=>rw[aM]at i;subst i;exact t
 |tup ds =>
  rw[bM]at i
  let ⟨a,xs,rfl,h1,h2⟩:=i
  exact .inr (.inl #v[xs,SqT.of h1,by rw[<- h2.empty];exact t])
 |ref a =>
  rw[aH]at i;subst i
  rcases t with ⟨ds,h,e⟩|⟨ds,h,e⟩
  ·let ⟨xs,h1,h2⟩:=m a _ h
   exact .inl #v[xs,SqL.of h1,by rw[<- h2.empty];exact e]
  ·let ⟨xs,h1,h2⟩:=m a _ h
   exact .inl #v[xs,h1,by rw[<- h2.empty];exact e]
 |str x=>exact t.elim
 |ty x=>exact t.elim
theorem xR(h:EV X G M e λd M'=>∃ k,AC X.K d M' k/\Qb k M')(he:∀ whole,isTrue e X.env whole=(do let v <- whole;standAt e.pos;holding [v] (truthy v)):=by intro _;rfl):TV X G M e Qb:=by
 intro J s σ H I R
 refine isTrue_plain (thn (h J s σ H I R) λv s1 ⟨x,H1,d,M1,I1,r1,g1,i1,R1,k,t,q⟩=>?_) (he _)
 exact thn (MZ J s1 σ H1 x v (λb H'=>b=k/\H'=H1) I1 r1 #v[k,NP R1.mem i1 t,rfl,rfl]) λb s2 ⟨H2,I2,e1,e2⟩=>by
  subst e1;subst e2
  exact #v[H2,M1,I2,g1,R1,q]
theorem NQ(h:TV X G M a λk M'=>Qb (!k) M'):TV X G M (.UnaryOp .Not a pos) Qb:=by
 intro J s σ H I R
 exact isTrue_not (thn (h J s σ H I R) λb L h1=>h1)
theorem IF(h:TV X G M a Qb):TW X G M (.BoolOp .And [a] pos) Qb:=by
 intro O J s σ H I R
 refine isTrue_and (thn (h J s σ H I R) λc L e=>?_)
 cases c with
 |true=>exact isTrue_and_nil e
 |false=>exact e
theorem vR(h:TV X G M a Qb):TW X G M (.BoolOp .Or [a] pos) Qb:=by
 intro O J s σ H I R
 refine isTrue_or (thn (h J s σ H I R) λc L e=>?_)
 cases c with
 |false=>exact isTrue_or_nil e
 |true=>exact e
theorem CG(h:TV X G M a λk M1=>if k=true then TW X G M1 (.BoolOp .And (b::rest) pos) Qb else Qb false M1):TW X G M (.BoolOp .And (a::b::rest) pos) Qb:=by
 intro L J s σ H I R
 refine isTrue_and (thn (h J s σ H I R) λc s1 ⟨H1,M1,I1,g1,R1,q1⟩=>?_)
 cases c with
 |true=>exact thn (q1 L J s1 σ H1 I1 R1) λb O h2=>h2.grow g1
 |false=>exact #v[H1,M1,I1,g1,R1,q1]
theorem LU(h:TV X G M a λk M1=>if k=true then Qb true M1 else TW X G M1 (.BoolOp .Or (b::rest) pos) Qb):TW X G M (.BoolOp .Or (a::b::rest) pos) Qb:=by
 intro L J s σ H I R
 refine isTrue_or (thn (h J s σ H I R) λc s1 ⟨H1,M1,I1,g1,R1,q1⟩=>?_)
 cases c with
 |true=>exact #v[H1,M1,I1,g1,R1,q1]
 |false=>exact thn (q1 L J s1 σ H1 I1 R1) λb O h2=>h2.grow g1
theorem NR{op}(h:EV X G M a Q):EV X G M (.BoolOp op [a] pos) Q:=λpins s σ H I R=>BoolOp_one (h pins s σ H I R)
theorem CH(h:EV X G M a λd M1=>∃ k,d=.bl k/\if k=true then EV X G M1 (.BoolOp .And (b::rest) pos) Q else Q (.bl false) M1):EV X G M (.BoolOp .And (a::b::rest) pos) Q:=by
 intro J s σ H I R
 refine BoolOp_and (thn (h J s σ H I R) λv s1 ⟨x,H1,d,M1,I1,r1,g1,i1,R1,k,e,q1⟩=>?_)
 subst e
 rw[bL]at i1;subst i1
 cases r1
 refine wpAny_truthy_bool ?_
 cases k with
 |true=>exact thn (q1 J s1 σ H1 I1 R1) λb L h2=>h2.grow g1
 |false=>exact #v[.bl false,H1,_,M1,I1,rfl,g1,bL.mpr rfl,R1,q1]
theorem RX(h:EV X G M a λd M1=>∃ k,d=.bl k/\if k=true then Q (.bl true) M1 else EV X G M1 (.BoolOp .Or (b::rest) pos) Q):EV X G M (.BoolOp .Or (a::b::rest) pos) Q:=by
 intro J s σ H I R
 refine BoolOp_or (thn (h J s σ H I R) λv s1 ⟨x,H1,d,M1,I1,r1,g1,i1,R1,k,e,q1⟩=>?_)
 subst e
 rw[bL]at i1;subst i1
 cases r1
 refine wpAny_truthy_bool ?_
 cases k with
 |false=>exact thn (q1 J s1 σ H1 I1 R1) λb L h2=>h2.grow g1
 |true=>exact #v[.bl true,H1,_,M1,I1,rfl,g1,bL.mpr rfl,R1,q1]
theorem CI(h:TV X G M c λk M1=>if k=true then EV X G M1 a Q else EV X G M1 b Q):EV X G M (.IfExp c a b pos) Q:=by
 intro J s σ H I R
 refine wpAny_IfExp (thn (h J s σ H I R) λd s1 ⟨H1,M1,I1,g1,R1,q1⟩=>?_)
 cases d with
 |true=>exact thn (q1 J s1 σ H1 I1 R1) λb L h2=>h2.grow g1
 |false=>exact thn (q1 J s1 σ H1 I1 R1) λb L h2=>h2.grow g1
theorem kQ(q:Qa [] M):AV X G M [] Qa:=λ_ pins s σ H I R=>Calls.spliced_nil #v[[],H,[],M,I,.nil,F6.refl _,aV.mpr rfl,R,q]
theorem fJ(h:EV X G M e λd M1=>AV X G M1 es λds M2=>Qa (d::ds) M2)(hs:A0 (e::es) X.env=(false,eval e X.env)::A0 es X.env:=by rfl):AV X G M (e::es) Qa:=by
 intro L J s σ H I R
 rw[hs]
 show wpAny _ _ (spliced ((false,eval e X.env)::backTo L (A0 es X.env))) _ _ s
 refine Calls.spliced_cons (thn (h J s σ H I R) λu s1 ⟨x,H1,d,M1,I1,r1,g1,i1,R1,q1⟩=>?_)
 exact thn (q1 L J s1 σ H1 I1 R1) λus s2 ⟨xs,H2,ds,M2,I2,r2,g2,i2,R2,q2⟩ =>
  #v[x::xs,H2,d::ds,M2,I2,.cons r1 r2,g1.trans g2,aG.mpr #v[x,xs,rfl,Is.grow g2 _ _ i1,i2],R2,q2]
theorem NS{k}(h:AV X G M es λds M1=>ds.length<=An/\Q (.tup ds) M1):EV X G M (.Tuple es k pos) Q:=by
 intro J s σ H I R
 refine wpAny_Tuple_spliced (thn (h pos J s σ H I R) λus s1 ⟨xs,H1,ds,M1,I1,r,g1,i1,R1,z,q⟩=>?_)
 have hl:=i1.len
 exists by rw[<- r.length,<- hl];exact z,?_
 have hf:H1 s1.heap.objs.size=none:=I1.hok.fresh (Ao _)
 exists .ref s1.heap.objs.size,upd H1 s1.heap.objs.size (.tup xs),.tup ds,M1,I1.laid (t':=s1.toks) (λb u e=>Af _ e) (Ao _) #v[#v[by rw[<- hl];exact z,_,Ap _ rfl,rfl],us,r,#v[_,Ap _ rfl,rfl,_,rfl]],rfl,g1.trans (aK hf),?_,R1.to (aK hf) (R1.mem.new hf),q
 exact bM.mpr #v[_,xs,rfl,aI,i1.grow (aK hf)]
theorem NT(h:AV X G M es λds M1=>ds.length<=An/\∀ p,M1 p=none->Q (.ref p) (FF M1 p (.lst ds))):EV X G M (.List es pos) Q:=by
 intro J s σ H I R
 refine wpAny_List_spliced (thn (h pos J s σ H I R) λus s1 ⟨xs,H1,ds,M1,I1,r,g1,i1,R1,z,q⟩=>?_)
 have hl:=i1.len
 exists by rw[<- r.length,<- hl];exact z,?_
 have hf:H1 s1.heap.objs.size=none:=I1.hok.fresh (Ao _)
 have L:=I1.laid (o:=.lst xs) (t':=s1.toks) (h':=s1.heap.push { cls:=.type "list",data:=.seq us.toArray }) (λb u e=>Af _ e) (Ao _) #v[by rw[<- hl];exact z,us,0,r,Ap _ rfl]
 exists .ref s1.heap.objs.size,upd H1 s1.heap.objs.size (.lst xs),.ref s1.heap.objs.size,FF M1 s1.heap.objs.size (.lst ds),L,rfl,g1.trans (aK hf),aH.mpr rfl,R1.to (aK hf) (R1.mem.lay hf #v[xs,aI,i1.grow (aK hf)]),q _ (R1.mem.fresh hf (dZ L))
theorem LV(hr:IxR X r)(hs:qY b)(h:EV X G M a λda Ma=>EV X G Ma b λdb Mb=>RD X.K r da db Mb Q):EV X G M (.Subscript a b pos) Q:=by
 intro J s σ H I R
 refine Subscript_ (thn (h J s σ H I R) λv s1 ⟨x,H1,da,Ma,I1,r1,g1,i1,R1,q1⟩=>?_)
 refine thn (q1 J s1 σ H1 I1 R1) λu s2 ⟨y,H2,db,Mb,I2,r2,g2,i2,R2,q2⟩=>?_
 exact thn (hr a b J s2 σ H2 x y v u _ I2 r1 r2 (q2 H2 x y (dZ I2) (Is.grow g2 _ _ i1) i2 R2.mem) (hs _ _)) λw O L=>kP (g1.trans g2) R2 L
def IxD(da:D)(i:Int)(M:MH)(Q:DK):Prop:=match da with
 |.tup ds=>∃ d,atI ds i=some d/\Q d M
 |.ref a=>(∃ ds d,M a=some (.lst ds)/\atI ds i=some d/\Q d M)\/(∃ ds d,M a=some (.ro ds)/\atI ds i=some d/\Q d M)
 |_=>False
theorem vS(h:IsL H ds vs)(e:atI ds i=some d):∃ v,atI vs i=some v/\Is H d v:=by
 let ⟨j,_,h2,_⟩:=mF e
 unfold atI at e ⊢
 rw[<- h.len]
 cases q:ixN ds.length i with
 |none=>rw[q]at e;cases e
 |some k =>
  rw[q]at e
  exact h.get (i:=k) e
theorem LW(h:IxD da i M Q):RD X.K (rIx X.K) da (.int i) M Q:=by
 intro H x y J hx hy m
 rw[aM]at hy;subst hy
 cases da with
 |tup ds =>
  rw[bM]at hx
  let ⟨a,xs,rfl,h1,h2⟩:=hx
  let ⟨d,e,q⟩:=h
  let ⟨v,e2,I⟩:=vS h2 e
  exact .inr (.inl #v[a,xs,i,v,rfl,rfl,SqT.of h1,e2,λ_=>#v[F6.refl _,d,M,I,m,q]])
 |ref a =>
  rw[aH]at hx;subst hx
  rcases h with ⟨ds,d,h1,e,q⟩|⟨ds,d,h1,e,q⟩
  ·let ⟨xs,h2,I⟩:=m a _ h1
   let ⟨v,e2,h4⟩:=vS I e
   exact .inl #v[a,xs,i,v,rfl,rfl,SqL.of h2,e2,λ_=>#v[F6.refl _,d,M,h4,m,q]]
  ·let ⟨xs,h2,I⟩:=m a _ h1
   let ⟨v,e2,h4⟩:=vS I e
   exact .inl #v[a,xs,i,v,rfl,rfl,h2,e2,λ_=>#v[F6.refl _,d,M,h4,m,q]]
 |non=>exact h.elim
 |bl _=>exact h.elim
 |int _=>exact h.elim
 |str _=>exact h.elim
 |ty _=>exact h.elim
end
section
variable {X:Cx}{G:Ga}{M:MH}{a b c e:Expr}{es rest:List Expr}{pos:Pos}{Q:DK}
def OV(X:Cx)(G:Ga)(M:MH)(e:Option Expr)(Q:Option Int->MH->Prop):Prop :=
 ∀(pins:List (Addr×Obj)) (s:Shared) (σ:St) (H:Hp),Inv X pins σ H s->Rel X G M σ H ->
  wpAny (model X.prog X.w) X.A (evalPart e X.env) (λu s'=>∃ o H' M',Inv X pins σ H' s'/\F6 H H'/\IsPart u o/\Rel X G M' σ H'/\Q o M') X.xe s
theorem bO(q:Qo none M):OV X G M none Qo:=by
 intro J s σ H I R
 rw[evalPart_none]
 exact Ag #v[none,H,M,I,F6.refl _,.none,R,q]
theorem bE(h:EV X G M e λd M1=>∃ i,d=.int i/\Qo (some i) M1):OV X G M (some e) Qo:=by
 intro J s σ H I R
 rw[evalPart_some]
 refine thn (h J s σ H I R) λu s1 ⟨x,H1,d,M1,I1,r1,g1,i1,R1,i,e,q⟩=>?_
 subst e
 rw[aM]at i1;subst i1
 let ⟨t,rfl⟩:=r1
 exact #v[some i,H1,M1,I1,g1,.int i t,R1,q]
def cK(xs:List D)(lo hi:Option Int):List D:=(xs.drop (HT.sIx xs.length 0 lo)).take (HT.sIx xs.length xs.length hi-HT.sIx xs.length 0 lo)
theorem IsL.cut(h:IsL H ds vs)(I J:Option Int):IsL H (cK ds I J) (qX vs I J):=by
 unfold cK qX
 rw[h.len]
 exact (h.drop _).take _
def RS(K:Ad)(r:V->Option Int->Option Int->Hp->VK->Prop)(da:D)(lo hi:Option Int)(M:MH)(Q:DK):Prop:=∀ H x,KF K H->Is H da x->F9 K M H->r x lo hi H (RDP K H Q)
theorem bB{r:V->Option Int->Option Int->Hp->VK->Prop}{lo Z:Option Expr}{p2:Pos}(hr:SlR X r)(h:EV X G M e λd M1=>OV X G M1 lo λl M2=>OV X G M2 Z λu M3=>RS X.K r d l u M3 Q) :
  EV X G M (.Subscript e (.Slice lo Z none p2) pos) Q:=by
 intro J s σ H I R
 refine Subscript_ (thn (h J s σ H I R) λv s1 ⟨x,H1,d,M1,I1,r1,g1,i1,R1,q1⟩=>?_)
 refine wpAny_Slice (thn (q1 J s1 σ H1 I1 R1) λvl s2 ⟨l,H2,M2,I2,g2,pl,R2,q2⟩=>thn (q2 J s2 σ H2 I2 R2) λvu s3 ⟨u,H3,M3,I3,g3,pu,R3,q3⟩=>?_)
 rw[evalPart_none]
 refine Ag ?_
 have Y:Inv X J σ H3 { s3 with heap:=s3.heap.push { cls:=.type "slice",data:=.fields #[vl,vu,.none] } }:=I3.kept (t':=s3.toks) λb ob q=>Af _ q
 let ⟨T,id,O,S,hg⟩:=hr J { s3 with heap:=s3.heap.push { cls:=.type "slice",data:=.fields #[vl,vu,.none] } } σ H3 x v vl vu l u s3.heap.objs.size _ Y r1 (Heap.IsSliceOf.new ..) pl pu (q3 H3 x (dZ I3) (Is.grow (g2.trans g3) _ _ i1) R3.mem)
 show wpAny (model X.prog X.w) X.A (subscriptTail e (.Slice lo Z none p2) v (.ref s3.heap.objs.size)) _ X.xe { s3 with heap:=s3.heap.push { cls:=.type "slice",data:=.fields #[vl,vu,.none] } }
 exact tail_any (ops:=[.ref s3.heap.objs.size,v]) S O (thn hg λw s5 L=>kP ((g1.trans g2).trans g3) R3 L) (by with_unfolding_all rfl)
theorem bP{Y:D}{S L:Option Int}{l:Addr}{ds:List D}(e:Y=.ref l)(hl:M l=some (.lst ds)\/M l=some (.ro ds))(h:∀ p,M p=none->Q (.ref p) (FF M p (.lst (cK ds S L)))):RS X.K (RP X.K) Y S L M Q:=by
 intro H x V hx m
 subst e
 rw[aH]at hx;subst hx
 have O:∃ xs,SqL X.K H l xs/\IsL H ds xs:=by
  rcases hl with hl|hl
  ·let ⟨xs,h1,h2⟩:=m l _ hl;exact #v[xs,SqL.of h1,h2]
  ·exact m l _ hl
 let ⟨xs,h1,h2⟩:=O
 exists l,xs,rfl,h1,λp I J=>#v[aK I,.ref p,FF M p (.lst (cK ds S L)),aH.mpr rfl,m.lay I #v[_,aI,(h2.cut S L).grow (aK I)],h p (m.fresh I J)]
theorem IG{C:Int->Int->Prop}{g:Int->Int->Int}{i j:Int}(c:C i j)(q:Q (.int (g i j)) M):RD X.K (rI C λi j=>.int (g i j)) (.int i) (.int j) M Q:=by
 intro H x y I hx hy m
 rw[aM]at hx hy;subst hx;subst hy
 exact #v[i,j,rfl,rfl,c,λ_=>#v[F6.refl _,_,M,aM.mpr rfl,m,q]]
theorem RY{g:Int->Int->Int}{i j:Int}(q:Q (.int (g i j)) M):RD X.K (rI0 λi j=>.int (g i j)) (.int i) (.int j) M Q:=by
 intro H x y I hx hy m
 rw[aM]at hx hy;subst hx;subst hy
 exact #v[i,j,rfl,rfl,λ_=>#v[F6.refl _,_,M,aM.mpr rfl,m,q]]
theorem sV{g:Int->Int->Bool}{i j:Int}(q:Q (.bl (g i j)) M):RD X.K (rI0 λi j=>.bl (g i j)) (.int i) (.int j) M Q:=by
 intro H x y I hx hy m
 rw[aM]at hx hy;subst hx;subst hy
 exact #v[i,j,rfl,rfl,λ_=>#v[F6.refl _,_,M,bL.mpr rfl,m,q]]
theorem IH:OpR X (binaryOp .Mult) (rI IntMulOk λi j=>.int (i*j)):=opI λ_ _ _ _ _ _ _ I q=>mul_int q I
def jL(i j:Int):Prop:=j≠0/\j.natAbs.log2<9000
theorem CJ:OpR X (binaryOp .FloorDiv) (rI jL λi j=>.int (i.fdiv j)):=opI λ_ _ _ _ _ _ _ I q=>floordiv_int I.1 q (.inl (PyProof.noPylong_of_log2 I.2))
def sW(da db:D)(M:MH)(Q:DK):Prop:=match da,db with
 |.int i,.int j=>Q (.int (i+j)) M
 |.tup xs,.tup ys=>xs≠[]/\xs.length+ys.length<=An/\Q (.tup (xs++ys)) M
 |.str x,.str y=>x.length+y.length<=An/\Q (.str (x++y)) M
 |.ref l,.ref k=>∃ xs ys,M l=some (.lst xs)/\M k=some (.lst ys)/\xs.length+ys.length<=An/\∀ p,M p=none->Q (.ref p) (FF M p (.lst (xs++ys)))
 |_,_=>False
theorem pQ:OpR X (binaryOp .Add) (λx y H Q=>rI0 (λi j=>.int (i+j)) x y H Q\/(BX X.K x y H Q\/((∃ i j,x=.str i/\y=.str j/\i.length+j.length<=An/\Q (.str (i++j)) H)\/NJ x y H Q))) :=
 MT.or (HZ.or (vD.or NK))
theorem CK(h:sW da db M Q):RD X.K (λx y H Q=>rI0 (λi j=>.int (i+j)) x y H Q\/(BX X.K x y H Q\/((∃ i j,x=.str i/\y=.str j/\i.length+j.length<=An/\Q (.str (i++j)) H)\/NJ x y H Q))) da db M Q:=by
 intro H x y Y hx hy m
 unfold sW at h
 split at h
 ·rw[aM]at hx hy;subst hx;subst hy
  exact .inl #v[_,_,rfl,rfl,λ_=>#v[F6.refl _,_,M,aM.mpr rfl,m,h]]
 ·rename_i xs ys
  let ⟨S,h1,q⟩:=h
  rw[bM]at hx hy
  let ⟨l,us,rfl,hl,J⟩:=hx
  let ⟨k,O,rfl,hk,hw⟩:=hy
  refine .inr (.inl #v[l,k,us,O,rfl,rfl,SqT.of hl,SqT.of hk,?_,by rw[<- J.len,<- hw.len];exact h1,?_,?_])
  ·intro z;subst z
   have:=J.len
   exact S (E2 (by simpa using this))
  ·intro z _
   subst z
   have hy:ys=[]:=E2 (by simpa using hw.len)
   subst hy
   rw[A7]at q
   exact #v[F6.refl _,_,M,bM.mpr #v[l,us,rfl,hl,J],m,q]
  ·intro _ p I _
   exact #v[aK I,_,M,bM.mpr #v[p,_,rfl,aI,(J.app hw).grow (aK I)],m.new I,q]
 ·rw[aR]at hx hy;subst hx;subst hy
  exact .inr (.inr (.inl #v[_,_,rfl,rfl,h.1,λ_=>#v[F6.refl _,_,M,aR.mpr rfl,m,h.2]]))
 ·rw[aH]at hx hy;subst hx;subst hy
  let ⟨xs,ys,h1,h2,V,q⟩:=h
  let ⟨us,e1,i1⟩:=m _ _ h1
  let ⟨O,e2,i2⟩:=m _ _ h2
  refine .inr (.inr (.inr #v[_,_,us,O,rfl,rfl,e1,e2,by rw[<- i1.len,<- i2.len];exact V,λp I L=>#v[aK I,.ref p,FF M p (.lst (xs++ys)),aH.mpr rfl,m.lay I #v[_,aI,(i1.app i2).grow (aK I)],q p (m.fresh I L)]]))
 ·exact h.elim
theorem NU(h:EV X G M a λda Ma=>EV X G Ma b λdb Mb=>sW da db Mb Q):EV X G M (.BinOp a .Add b pos) Q:=lN pQ (h.mono λ_ _ h1=>h1.mono λ_ _ h2=>CK h2)
theorem NV(h:EV X G M a λda Ma=>EV X G Ma b λdb Mb=>∃ i j,da=.int i/\db=.int j/\Q (.int (i-j)) Mb):EV X G M (.BinOp a .Sub b pos) Q :=
 lN MU (h.mono λ_ _ h1=>h1.mono λ_ _ ⟨i,j,e1,e2,q⟩=>by subst e1;subst e2;exact RY (g:=λi j=>i-j) q)
theorem NW(h:EV X G M a λda Ma=>EV X G Ma b λdb Mb=>∃ i j,da=.int i/\db=.int j/\IntMulOk i j/\Q (.int (i*j)) Mb):EV X G M (.BinOp a .Mult b pos) Q :=
 lN IH (h.mono λ_ _ h1=>h1.mono λ_ _ ⟨i,j,e1,e2,z,q⟩=>by subst e1;subst e2;exact IG (C:=IntMulOk) (g:=λi j=>i*j) z q)
theorem II(h:EV X G M a λda Ma=>EV X G Ma b λdb Mb=>∃ i j,da=.int i/\db=.int j/\jL i j/\Q (.int (i.fdiv j)) Mb):EV X G M (.BinOp a .FloorDiv b pos) Q :=
 lN CJ (h.mono λ_ _ h1=>h1.mono λ_ _ ⟨i,j,e1,e2,z,q⟩=>by subst e1;subst e2;exact IG (C:=jL) (g:=λi j=>i.fdiv j) z q)
theorem NX(h:EV X G M a λda Ma=>EV X G Ma b λdb Mb=>∃ i j,da=.int i/\db=.int j/\j≠0/\Q (.int (i.fmod j)) Mb):EV X G M (.BinOp a .Mod b pos) Q :=
 lN HU (h.mono λ_ _ h1=>h1.mono λ_ _ ⟨i,j,e1,e2,z,q⟩=>by subst e1;subst e2;exact IG (C:=λ_ j=>j≠0) (g:=λi j=>i.fmod j) z q)
theorem NY(h:EV X G M a λda Ma=>EV X G Ma b λdb Mb=>∃ i j,da=.int i/\db=.int j/\zP i j/\Q (.int (i^j.toNat)) Mb):EV X G M (.BinOp a .Pow b pos) Q :=
 lN MV (h.mono λ_ _ h1=>h1.mono λ_ _ ⟨i,j,e1,e2,z,q⟩=>by subst e1;subst e2;exact IG (C:=zP) (g:=λi j=>i^j.toNat) z q)
theorem NZ(h:EV X G M a λda Ma=>∃ i,da=.int i/\Q (.int (-i)) Ma):EV X G M (.UnaryOp .USub a pos) Q :=
 RW MW (h.mono λ_ Ma ⟨i,e1,q⟩=>by
  subst e1
  intro H x I hx m
  rw[aM]at hx;subst hx
  exact #v[i,rfl,λ_=>#v[F6.refl _,_,Ma,aM.mpr rfl,m,q]])
theorem RZ(h:EV X G M a λda Ma=>EV X G Ma b λdb Mb=>∃ i j,da=.int i/\db=.int j/\Q (.bl (decide (i<j))) Mb):EV X G M (.Compare a [.Lt] [b] pos) Q :=
 iS LN (cZ _) (h.mono λ_ _ h1=>h1.mono λ_ _ ⟨i,j,e1,e2,q⟩=>by subst e1;subst e2;exact sV (g:=λi j=>decide (i<j)) q)
theorem SA(h:EV X G M a λda Ma=>EV X G Ma b λdb Mb=>∃ i j,da=.int i/\db=.int j/\Q (.bl (decide (i<=j))) Mb):EV X G M (.Compare a [.LtE] [b] pos) Q :=
 iS RJ (cZ _) (h.mono λ_ _ h1=>h1.mono λ_ _ ⟨i,j,e1,e2,q⟩=>by subst e1;subst e2;exact sV (g:=λi j=>decide (i<=j)) q)
theorem SB(h:EV X G M a λda Ma=>EV X G Ma b λdb Mb=>∃ i j,da=.int i/\db=.int j/\Q (.bl (decide (j<i))) Mb):EV X G M (.Compare a [.Gt] [b] pos) Q :=
 iS LO (cZ _) (h.mono λ_ _ h1=>h1.mono λ_ _ ⟨i,j,e1,e2,q⟩=>by subst e1;subst e2;exact sV (g:=λi j=>decide (j<i)) q)
def EqD(da db:D)(k:Bool):Prop:=match da,db with
 |.int i,.int j=>k=decide (i=j)
 |.bl i,.bl j=>k=decide (i=j)
 |.str i,.str j=>k=decide (i=j)
 |_,_=>False
theorem IJ(h:EqD da db k)(hx:Is H da x)(hy:Is H db y):MX x y=true/\k=decide (x=y):=by
 unfold EqD at h
 split at h
 ·rw[aM]at hx hy;subst hx;subst hy;subst h
  exact #v[rfl,by simp]
 ·rw[bL]at hx hy;subst hx;subst hy;subst h
  exact #v[rfl,by simp]
 ·rw[aR]at hx hy;subst hx;subst hy;subst h
  exact #v[rfl,by simp]
 ·exact h.elim
theorem SD(h:EV X G M a λda Ma=>EV X G Ma b λdb Mb=>∃ i j,da=.int i/\db=.int j/\Qb (decide (i<j)) Mb):TV X G M (.Compare a [.Lt] [b] pos) Qb :=
 nB LN (cZ _) (h.mono λ_ _ h1=>h1.mono λ_ _ ⟨i,j,e1,e2,q⟩=>by subst e1;subst e2;exact sV (g:=λi j=>decide (i<j)) #v[_,rfl,q])
theorem SE(h:EV X G M a λda Ma=>EV X G Ma b λdb Mb=>∃ i j,da=.int i/\db=.int j/\Qb (decide (j<i)) Mb):TV X G M (.Compare a [.Gt] [b] pos) Qb :=
 nB LO (cZ _) (h.mono λ_ _ h1=>h1.mono λ_ _ ⟨i,j,e1,e2,q⟩=>by subst e1;subst e2;exact sV (g:=λi j=>decide (j<i)) #v[_,rfl,q])
theorem dG{x:Str}{p:Pos}{id:String}{r:List V->Hp->VK->Prop}(O:dY X (.builtin id) r)(hm:X.mg x=none)(S:bootBuiltins x=some (.builtin id))(h:AV X G M (e::es) λds M1=>RC X.K r ds M1 Q)(hg:Gl X x:=by rfl)
  (hn:x ≠ "__name__":= by decide)(hdb:(x == ("__debug__":Str))=false:=by decide)(he:A0 (e::es) X.env=(false,eval e X.env)::A0 es X.env:=by rfl)(hpl:(backTo pos (A0 es X.env)).any (·.1)=false:=by rfl) :
  EV X G M (.Call (.Name x p) (e::es) [] pos) Q:=by
 intro J s σ H I R
 refine wpAny_Call_Name_kw (fW I hg hm S ?_ hn hdb)
 exact PyProof.Rows.callWith_builtin1 (thn (h pos J s σ H I R) λus s1 ⟨vs,H1,ds,M1,I1,r1,g1,i1,R1,q1⟩ =>
  thn (O J s1 σ H1 vs us _ I1 r1 (q1 H1 vs (dZ I1) i1 R1.mem)) λw L h2=>kP g1 R1 h2) he hpl
theorem dQ{x:Str}{p:Pos}{T:String}{r:List V->Hp->VK->Prop}(O:dY X (.type T) r)(hm:X.mg x=none)(S:bootBuiltins x=some (.type T))(h:AV X G M (e::es) λds M1=>RC X.K r ds M1 Q)(hg:Gl X x:=by rfl)
  (hn:x ≠ "__name__":= by decide)(hdb:(x == ("__debug__":Str))=false:=by decide)(he:A0 (e::es) X.env=(false,eval e X.env)::A0 es X.env:=by rfl)(hpl:(backTo pos (A0 es X.env)).any (·.1)=false:=by rfl) :
  EV X G M (.Call (.Name x p) (e::es) [] pos) Q:=by
 intro J s σ H I R
 refine wpAny_Call_Name_kw (fW I hg hm S ?_ hn hdb)
 exact PyProof.Rows.callWith_type1 (thn (h pos J s σ H I R) λus s1 ⟨vs,H1,ds,M1,I1,r1,g1,i1,R1,q1⟩ =>
  thn (O J s1 σ H1 vs us _ I1 r1 (q1 H1 vs (dZ I1) i1 R1.mem)) λw L h2=>kP g1 R1 h2) he hpl
theorem dF(h:IsL H [d] vs):∃ v,vs=[v]/\Is H d v:=by
 rw[aG]at h
 let ⟨x,r,e,h1,h2⟩:=h
 rw[aV]at h2;subst h2
 exact #v[x,e,h1]
theorem SG(h:IsL H [d,d'] vs):∃ v v',vs=[v,v']/\Is H d v/\Is H d' v':=by
 rw[aG]at h
 let ⟨x,r,e,h1,h2⟩:=h
 let ⟨y,rfl,I⟩:=dF h2
 exact #v[x,y,e,h1,I]
theorem AV.mono(h:AV X G M es Qa)(k:∀ ds M',Qa ds M'->Qb ds M'):AV X G M es Qb:=λpos pins s σ H I R =>
 thn (h pos pins s σ H I R) λus s1 ⟨vs,H1,ds,M1,I1,r1,g1,i1,R1,q1⟩=>#v[vs,H1,ds,M1,I1,r1,g1,i1,R1,k _ _ q1]
theorem IK:bootBuiltins "abs"=some (.builtin "abs"):=by lia
theorem IL:bootBuiltins "min"=some (.builtin "min"):=by lia
theorem xS:bootBuiltins "len"=some (.builtin "len"):=by lia
theorem IM:bootBuiltins "isinstance"=some (.builtin "isinstance"):=by lia
theorem pR:bootBuiltins "tuple"=some (.type "tuple"):=by lia
theorem xU:bootBuiltins "int"=some (.type "int"):=by lia
theorem OA{p:Pos}(hm:X.mg "abs"=none)(h:AV X G M [e] λds M1=>∃ i:Int,ds=[.int i]/\Q (.int (if i<0 then -i else i)) M1)(hg:Gl X "abs":= by rfl)(he:SeX X e:=by rfl)(hpl:NpX X pos:=by rfl):EV X G M (.Call (.Name "abs" p) [e] [] pos) Q :=
 dG BR hm IK (h.mono λds M1 ⟨i,e1,q⟩=>λH xs J hx m=>by
  subst e1
  let ⟨v,rfl,I⟩:=dF hx
  rw[aM]at I;subst I
  exact #v[i,rfl,λ_=>#v[F6.refl _,_,M1,aM.mpr rfl,m,q]]) hg (by decide) (by decide) he hpl
theorem IN{p:Pos}{e2:Expr}(hm:X.mg "min"=none)(L:X.calm=true)(h:AV X G M [e,e2] λds M1=>∃ i j:Int,ds=[.int i,.int j]/\Q (.int (if j<i then j else i)) M1)(hg:Gl X "min":= by rfl)(he:A0 [e,e2] X.env=(false,eval e X.env)::A0 [e2] X.env:=by rfl)(hpl:(backTo pos (A0 [e2] X.env)).any (·.1)=false:=by rfl):EV X G M (.Call (.Name "min" p) [e,e2] [] pos) Q :=
 dG (zQ L) hm IL (h.mono λds M1 ⟨i,j,e1,q⟩=>λH xs J hx m=>by
  subst e1
  let ⟨v,w,rfl,I,hw⟩:=SG hx
  rw[aM]at I hw;subst I;subst hw
  exact #v[i,j,rfl,λ_=>#v[F6.refl _,_,M1,aM.mpr rfl,m,q]]) hg (by decide) (by decide) he hpl
def VS(d:D)(M:MH)(n:Nat):Prop:=match d with
 |.tup ds=>n=ds.length
 |.ref a=>(∃ ds,M a=some (.lst ds)/\n=ds.length)\/(∃ ds,M a=some (.ro ds)/\n=ds.length)
 |_=>False
theorem OC{p:Pos}(hm:X.mg "len"=none)(h:AV X G M [e] λds M1=>∃ d n,ds=[d]/\VS d M1 n/\Q (.int (n:Nat)) M1)(hg:Gl X "len":= by rfl)(he:SeX X e:=by rfl)(hpl:NpX X pos:=by rfl):EV X G M (.Call (.Name "len" p) [e] [] pos) Q :=
 dG rB hm xS (h.mono λds M1 ⟨d,n,e1,hl,q⟩=>λH xs L hx m=>by
  subst e1
  let ⟨v,rfl,I⟩:=dF hx
  cases d with
  |tup ds =>
   rw[bM]at I
   let ⟨a,ys,rfl,h1,h2⟩:=I
   have e2:n=ds.length:=hl
   exact #v[a,ys,rfl,.inr (SqT.of h1),λ_=>#v[F6.refl _,.int n,M1,aM.mpr (by rw[e2,h2.len]),m,q]]
  |ref a =>
   rw[aH]at I;subst I
   rcases hl with ⟨ds,h1,e2⟩|⟨ds,h1,e2⟩
   ·let ⟨ys,J,h4⟩:=m a _ h1
    exact #v[a,ys,rfl,.inl (SqL.of J),λ_=>#v[F6.refl _,.int n,M1,aM.mpr (by rw[e2,h4.len]),m,q]]
   ·let ⟨ys,J,h4⟩:=m a _ h1
    exact #v[a,ys,rfl,.inl J,λ_=>#v[F6.refl _,.int n,M1,aM.mpr (by rw[e2,h4.len]),m,q]]
  |non=>exact hl.elim
  |bl _=>exact hl.elim
  |int _=>exact hl.elim
  |str _=>exact hl.elim
  |ty _=>exact hl.elim) hg (by decide) (by decide) he hpl
def CL(d:D)(M:MH)(t:String):Prop:=match d with
 |.non=>t="NoneType"
 |.bl _=>t="bool"
 |.int _=>t="int"
 |.str _=>t="str"
 |.tup _=>t="tuple"
 |.ref a=>(∃ ds,M a=some (.lst ds))/\t="list"
 |.ty _=>False
theorem sX:dY X (.builtin "isinstance") (λxs H Q=>∃ x t c b,xs=[x,.ty c]/\TyOf X.K H x t/\D5 X.K t (.type c)=some b/\Q (.bl b) H):=by
 intro L s σ H xs us Q I r h
 let ⟨x,t,c,b,rfl,ty,e,q⟩:=h
 let ⟨u,S,rfl,O,J⟩:=LP r
 cases J
 exact zU I O ty e (λtk=>#v[.bl b,H,I.tok tk,rfl,q])
theorem IO{K:Ad}{H:Hp}{d:D}{M:MH}{v:V}{t:String}(m:F9 K M H)(i:Is H d v)(h:CL d M t):TyOf K H v (.type t):=by
 cases d with
 |non=>rw[cJ]at i;subst i;cases (show t=_ from h);exact .non
 |bl b=>rw[bL]at i;subst i;cases (show t=_ from h);exact .bl _
 |int b=>rw[aM]at i;subst i;cases (show t=_ from h);exact .int _
 |str b=>rw[aR]at i;subst i;cases (show t=_ from h);exact .str _
 |tup ds =>
  rw[bM]at i
  let ⟨a,xs,rfl,h1,h2⟩:=i
  cases (show t=_ from h)
  exact .tup h1
 |ref a =>
  rw[aH]at i;subst i
  let ⟨⟨ds,h1⟩,rfl⟩:=h
  let ⟨xs,h2,_⟩:=m a _ h1
  exact .lst h2
 |ty _=>exact h.elim
theorem OD{p:Pos}{e2:Expr}(hm:X.mg "isinstance"=none)(h:AV X G M [e,e2] λds M1=>∃ d t c b,ds=[d,.ty c]/\CL d M1 t/\D5 X.K (.type t) (.type c)=some b/\Q (.bl b) M1)(hg:Gl X "isinstance":= by rfl)(he:A0 [e,e2] X.env=(false,eval e X.env)::A0 [e2] X.env:=by rfl)(hpl:(backTo pos (A0 [e2] X.env)).any (·.1)=false:=by rfl) :
  EV X G M (.Call (.Name "isinstance" p) [e,e2] [] pos) Q :=
 dG sX hm IM (h.mono λds M1 ⟨d,t,c,b,e1,ht,hk,q⟩=>λH xs J hx m=>by
  subst e1
  let ⟨v,w,rfl,I,hw⟩:=SG hx
  rw[LT]at hw;subst hw
  exact #v[v,.type t,c,b,rfl,IO m I ht,hk,λ_=>#v[F6.refl _,.bl b,M1,bL.mpr rfl,m,q]]) hg (by decide) (by decide) he hpl
theorem OE:OpR X (compareOp .Is) (λx y H Q=>∃ i j,x=.bl i/\y=.bl j/\Q (.bl (i == j)) H):=by
 intro J s σ H x y v u Q I L O h
 let ⟨i,j,rfl,rfl,q⟩:=h
 cases L
 cases O
 exact is_bool #v[.bl _,H,I,rfl,q]
def AD(da db:D)(k:Bool):Prop:=match da,db with
 |.bl i,.bl j=>k=(i == j)
 |.non,.non=>k=true
 |.bl _,.non=>k=false
 |.int _,.non=>k=false
 |.str _,.non=>k=false
 |.tup _,.non=>k=false
 |.ref _,.non=>k=false
 |_,_=>False
theorem isD_val(h:AD da db k)(hx:Is H da x)(hy:Is H db y):(∃ i j,x=.bl i/\y=.bl j/\k=(i == j))\/(y=.non/\k=decide (x=.non)):=by
 unfold AD at h
 split at h
 ·rw[bL]at hx hy;subst hx;subst hy;subst h;exact .inl #v[_,_,rfl,rfl,rfl]
 ·rw[cJ]at hx hy;subst hx;subst hy;subst h;exact .inr #v[rfl,rfl]
 ·rw[bL]at hx;rw[cJ]at hy;subst hx;subst hy;subst h;exact .inr #v[rfl,by simp]
 ·rw[aM]at hx;rw[cJ]at hy;subst hx;subst hy;subst h;exact .inr #v[rfl,by simp]
 ·rw[aR]at hx;rw[cJ]at hy;subst hx;subst hy;subst h;exact .inr #v[rfl,by simp]
 ·rw[bM]at hx;rw[cJ]at hy;let ⟨a,xs,rfl,_⟩:=hx;subst hy;subst h;exact .inr #v[rfl,by simp]
 ·rw[aH]at hx;rw[cJ]at hy;subst hx;subst hy;subst h;exact .inr #v[rfl,by simp]
 ·exact h.elim
theorem sY:OpR X (compareOp .Is) (λx y H Q=>(∃ i j,x=.bl i/\y=.bl j/\Q (.bl (i == j)) H)\/(y=.non/\Q (.bl (decide (x=.non))) H)):=OE.or MY
theorem SH(h:EV X G M a λda Ma=>EV X G Ma b λdb Mb=>∃ k,AD da db k/\Q (.bl k) Mb):EV X G M (.Compare a [.Is] [b] pos) Q :=
 iS sY (cZ _) (h.mono λ_ _ h1=>h1.mono λ_ Mb ⟨k,e1,q⟩=>by
  intro H x y I hx hy m
  rcases isD_val e1 hx hy with ⟨i,j,rfl,rfl,e⟩|⟨rfl,e⟩
  ·exact .inl #v[i,j,rfl,rfl,λ_=>#v[F6.refl _,.bl k,Mb,bL.mpr (by rw[e]),m,q]]
  ·exact .inr #v[rfl,λ_=>#v[F6.refl _,.bl k,Mb,bL.mpr (by rw[e]),m,q]])
theorem SI(h:EV X G M a λda Ma=>EV X G Ma b λdb Mb=>∃ k,AD da db k/\Qb k Mb):TV X G M (.Compare a [.Is] [b] pos) Qb :=
 nB sY (cZ _) (h.mono λ_ _ h1=>h1.mono λ_ Mb ⟨k,e1,q⟩=>by
  intro H x y I hx hy m
  rcases isD_val e1 hx hy with ⟨i,j,rfl,rfl,e⟩|⟨rfl,e⟩
  ·exact .inl #v[i,j,rfl,rfl,λ_=>#v[F6.refl _,.bl k,Mb,bL.mpr (by rw[e]),m,k,rfl,q]]
  ·exact .inr #v[rfl,λ_=>#v[F6.refl _,.bl k,Mb,bL.mpr (by rw[e]),m,k,rfl,q]])
end
abbrev SpD:=List D->MH->DK->Prop
def aD(K:Ad)(sp:SpD):Sp:=λvs H Q _=>∃ ds M Qd,IsL H ds vs/\F9 K M H/\sp ds M Qd/\∀ v H' d M',F6 H H'->Is H' d v->F9 K M' H'->Qd d M'->Q v H'
structure Cal(P:Program)(w:World)(K:Ad)(mg:Str->Option Value)(base:Heap)(k:Nat)(x:Str)(sp:SpD):Prop where
 ex:∃(f:Addr) (fd:FuncData) (ps:List Str),F8 P w K mg base CX0 k f fd ps (aD K sp)/\mg x=some (.ref f)/\B1 K (.ref f)=true/\Binds K fd ps []
section
variable {X:Cx}{G:Ga}{M:MH}{a b c e:Expr}{es rest:List Expr}{pos:Pos}{Q:DK}
theorem xV{k:Nat}{f:Addr}{fd:FuncData}{ps:List Str}{sp:SpD}{pins:List (Addr×Obj)}{σ:St}{O H:Hp}{s:Shared}{us:List Value}{vs:List V}{ds:List D}(F:F8 X.prog X.w X.K X.mg X.base CX0 k f fd ps (aD X.K sp))(hr:Room k X.A)(L:Binds X.K fd ps [])
  (I:Inv X pins σ H s)(R:Rel X G M σ H)(J:F6 O H)(r:Vals vs us)(i:IsL H ds vs)(h:sp ds M Q):wpAny (model X.prog X.w) X.A (call (.ref f) us) (EPD X pins σ G O Q) X.xe s:=by
 have h':aD X.K sp (vs++[]) H (λv H'=>∃ d M',F6 H H'/\Is H' d v/\F9 X.K M' H'/\Q d M') E0 :=
  #v[ds,M,Q,by rw[A7];exact i,R.mem,h,λv H' d M' g i m q=>#v[d,M',g,i,m,q]]
 exact thn (NB (dvs:=[]) (ds:=[]) F hr L .nil LR I r h') λu s' ⟨v,H',I',r',d,M',g,i',m,q⟩=>#v[v,H',d,M',I',r',J.trans g,i',R.to g m,q]
theorem IP{k:Nat}{x:Str}{p:Pos}{sp:SpD}(C:Cal X.prog X.w X.K X.mg X.base k x sp)(hr:Room k X.A)(h:AV X G M (e::es) λds M1=>sp ds M1 Q)(hg:Gl X x:=by rfl)(hdb:(x == ("__debug__":Str))=false:=by decide)
  (he:A0 (e::es) X.env=(false,eval e X.env)::A0 es X.env:=by rfl)(hpl:(backTo pos (A0 es X.env)).any (·.1)=false:=by rfl):EV X G M (.Call (.Name x p) (e::es) [] pos) Q:=by
 intro J s σ H I R
 let ⟨f,O,ps,F,hm,hk,L⟩:=C.ex
 refine wpAny_Call_Name_kw (hJ I hg hm ?_ hdb)
 refine Ek (h₀:=X.base) I.ok.mod.kin hk (thn (h pos J s σ H I R) λus s1 ⟨vs,H1,ds,M1,I1,r1,g1,i1,R1,q1⟩=>#v[I1.kIn,?_]) he hpl
 exact xV F hr L I1 R1 g1 r1 i1 q1
variable {st:Stmt}{sts:List Stmt}{E:EndsD}
theorem sZ(h:let Y:=X;EXs Y G M sts E):EXs X G M sts E:=h
theorem fK(h:let F:=E;EXs X G M sts F):EXs X G M sts E:=h
theorem bQ(q:E.nx G M):EXs X G M [] E:=λpins s σ H I R=>wpAny_execs_nil #v[σ,H,G,M,I,F6.refl _,R,q]
theorem aA(h:EX X G M st { E with nx:=λG' M'=>EXs X G' M' sts E }):EXs X G M (st::sts) E:=by
 intro J s σ H I R
 refine wpAny_execs_cons (thn (h J s σ H I R) λf L q=>?_)
 cases f with
 |next =>
  let ⟨σ',H',G',M',S,g',O,q⟩:=q
  exact thn (q J L σ' H' S O) λf V h2=>h2.grow g'
 |ret v=>exact q
 |brk=>exact q
 |cont=>exact q
theorem bH(h:EX X G M st E):EXs X G M [st] E:=by
 intro J s σ H I R
 refine wpAny_execs_cons (thn (h J s σ H I R) λf L q=>?_)
 cases f with
 |next=>exact wpAny_execs_nil q
 |ret v=>exact q
 |brk=>exact q
 |cont=>exact q
theorem CM(h:EV X G M e E.rt):EX X G M (.Return (some e) pos) E:=λpins s σ H I R =>
 wpAny_Return_some (thn (h pins s σ H I R) λv s1 ⟨x,H1,d,M1,I1,r1,g1,i1,R1,q1⟩=>#v[x,σ,H1,d,M1,I1,r1,g1,i1,R1.mem,q1])
theorem IQ(h:EV X G M e λ_ M1=>E.nx G M1)(hs:swapsWith e none pos.line X.env=pure false:=by rfl):EX X G M (.Expr e pos) E:=λpins s σ H I R =>
 wpAny_Expr_any (thn (h pins s σ H I R) λv s1 ⟨x,H1,d,M1,I1,r1,g1,i1,R1,q1⟩=>#v[σ,H1,G,M1,I1,g1,R1,q1]) I.quiet hs
theorem SJ(h:TV X G M c λk M1=>if k=true then EXs X G M1 A E else EXs X G M1 B E):EX X G M (.If c A B pos) E:=by
 intro J s σ H I R
 refine wpAny_If (thn (h J s σ H I R) λd s1 ⟨H1,M1,I1,g1,R1,q1⟩=>?_)
 cases d with
 |true=>exact thn (q1 J s1 σ H1 I1 R1) λf L h2=>h2.grow g1
 |false=>exact thn (q1 J s1 σ H1 I1 R1) λf L h2=>h2.grow g1
theorem OF(i:Nat){x:Str}{pos':Pos}(hN:X.N.Nodup)(h:EV X G M e λd M1=>E.nx (G.set i (some d)) M1)(hi:X.N[i]?=some x:=by rfl)(hx:Loc X.env.scope x:=by exact Bh rfl)(hs:swapsWith e (some (.Name x pos')) pos.line X.env=pure false:=by rfl)
  (hf:X.fn x=true\/X.env.scope.names.lookup x=some .local:=by first|exact .inl rfl|exact .inr rfl|assumption):EX X G M (.Assign [.Name x pos'] e pos) E:=by
 intro J s σ H I R
 refine wpAny_Assign_Name (thn (h J s σ H I R) λv s1 ⟨y,H1,d,M1,I1,r1,g1,i1,R1,q1⟩=>?_) hs
 have hl:i<σ.length:=by rw[I1.len];exact (Ax.mp hi).1
 exact jF I1 hN hi hx r1 (λO L=>#v[_,H1,_,M1,L,g1,R1.set hl i1,q1]) hf
theorem CN(Iv:Ga->MH->Prop)(μ:Ga->MH->Nat)(hp:PassesOwn (model X.prog X.w) X.A X.env X.xe)(h0:Iv G M)
  (step:∀ G M,Iv G M->TV X G M c λk M1=>if k=true then EXs X G M1 body { nx:=λG' M'=>Iv G' M'/\μ G' M'<μ G M,ct:=λG' M'=>Iv G' M'/\μ G' M'<μ G M,bk:=E.nx,rt:=E.rt } else E.nx G M1) :
  EX X G M (.While c body [] pos) E:=by
 intro J s σ H I R
 refine wpAny_While (codeAny_whileLoop (λn s'=>∃ σ' H' G' M',Inv X J σ' H' s'/\F6 H H'/\Rel X G' M' σ' H'/\Iv G' M'/\n=μ G' M') ?_ (μ G M) #v[σ,H,G,M,I,F6.refl _,R,h0,rfl])
 rintro n s1 ⟨σ1,H1,G1,M1,I1,L,R1,w1,rfl⟩
 refine wpAny_passesOwn hp (thn (step G1 M1 w1 J s1 σ1 H1 I1 R1) λk s2 ⟨H2,M2,I2,g2,R2,q2⟩=>?_)
 cases k with
 |true =>
  rw[if_pos rfl]
  refine wpAny_passesOwn hp (thn (q2 J s2 σ1 H2 I2 R2) λf s3 O=>?_)
  cases f with
  |next =>
   let ⟨σ3,H3,G3,M3,V,S,Z,Y,lt⟩:=O
   exact #v[_,lt,σ3,H3,G3,M3,V,(L.trans g2).trans S,Z,Y,rfl]
  |cont =>
   let ⟨σ3,H3,G3,M3,V,S,Z,Y,lt⟩:=O
   exact #v[_,lt,σ3,H3,G3,M3,V,(L.trans g2).trans S,Z,Y,rfl]
  |brk=>exact SPD.grow (f:=.brk) (E:={ E with bk:=E.nx }) (L.trans g2) O
  |ret v=>exact SPD.grow (f:=.ret v) (E:=E) (L.trans g2) O
 |false =>
  rw[if_neg A4]
  exact wpAny_execs_nil #v[σ1,H2,G1,M2,I2,L.trans g2,R2,q2]
def GV(X:Cx)(G:Ga)(M:MH)(tg:Expr)(d:D)(Q:Ga->MH->Prop):Prop :=
 ∀(pins:List (Addr×Obj)) (s:Shared) (σ:St) (H:Hp) (v:V) (u:Value),Inv X pins σ H s->Rel X G M σ H->G5 v u->Is H d v ->
  wpAny (model X.prog X.w) X.A (assign tg X.env u) (λ_ s'=>∃ σ' H' G' M',Inv X pins σ' H' s'/\F6 H H'/\Rel X G' M' σ' H'/\Q G' M') X.xe s
theorem bC(i:Nat){x:Str}{d:D}{S:Ga->MH->Prop}(hN:X.N.Nodup)(q:S (G.set i (some d)) M)(hi:X.N[i]?=some x:=by rfl)(hx:Loc X.env.scope x:=by exact Bh rfl)(hf:X.fn x=true\/X.env.scope.names.lookup x=some .local:=by first|exact .inl rfl|exact .inr rfl|assumption) :
  GV X G M (.Name x pos) d S:=by
 intro J s σ H v u I R r i1
 have hl:i<σ.length:=by rw[I.len];exact (Ax.mp hi).1
 exact wpAny_assign_Name (jF I hN hi hx r (λO L=>#v[_,H,_,M,L,F6.refl _,R.set hl i1,q]) hf)
def GVs(X:Cx)(G:Ga)(M:MH)(ts:List Expr)(ds:List D)(Q:Ga->MH->Prop):Prop :=
 ∀(pins:List (Addr×Obj)) (s:Shared) (σ:St) (H:Hp) (vs:List V) (us:List Value),Inv X pins σ H s->Rel X G M σ H->Vals vs us->IsL H ds vs ->
  wpAny (model X.prog X.w) X.A (assignInOrder ((assignEach ts X.env).map (·.2)) us) (λ_ s'=>∃ σ' H' G' M',Inv X pins σ' H' s'/\F6 H H'/\Rel X G' M' σ' H'/\Q G' M') X.xe s
theorem jM(q:Qg G M):GVs X G M [] [] Qg:=by
 intro J s σ H vs us I R r i
 rw[aV]at i;subst i
 cases r
 exact assignInOrder_nil #v[σ,H,G,M,I,F6.refl _,R,q]
theorem dH(h:GV X G M tg d λG1 M1=>GVs X G1 M1 ts ds Qg)(hs:(assignEach (tg::ts) X.env).map (·.2)=assign tg X.env::(assignEach ts X.env).map (·.2):=by rfl):GVs X G M (tg::ts) (d::ds) Qg:=by
 intro J s σ H vs us I R r i
 rw[aG]at i
 let ⟨x,xs,rfl,i1,i2⟩:=i
 cases r with
 |cons r L =>
  rw[hs]
  refine assignInOrder_cons (thn (h J s σ H _ _ I R r i1) λ_ s1 ⟨σ1,H1,G1,M1,I1,g1,R1,q1⟩=>?_)
  exact thn (q1 J s1 σ1 H1 _ _ I1 R1 L (i2.grow g1)) λ_ s2 ⟨σ2,H2,G2,M2,I2,g2,R2,q2⟩=>#v[σ2,H2,G2,M2,I2,g1.trans g2,R2,q2]
theorem nC{ts:List Expr}{k:Nat}{ds:List D}{Qg:Ga->MH->Prop}(Y:X.calm=true)(h:GVs X G M ts ds Qg)(hn:(assignEach ts X.env).length=ds.length:=by rfl)(hst:(assignEach ts X.env).findIdx? (·.1)=none:=by rfl):GV X G M (.Tuple ts k pos) (.tup ds) Qg:=by
 intro J s σ H v u I R r i
 rw[bM]at i
 let ⟨a,xs,rfl,h1,h2⟩:=i
 cases r
 let ⟨S,L,O,Z⟩:=I.tuple (SqT.of h1)
 refine assign_Tuple_tuple (I.ok.hd Y) O (by simp[hn,h2.len,L.length]) hst λh' hx=>?_
 have V:Inv X J σ H { s with heap:=h' }:=I.kept (t':=s.toks) λb o e=>hx b o (A1 (As e)) e
 exact h J _ σ H xs _ V R (by simpa using L) h2
theorem CO(h:EV X G M e λd M1=>GV X G M1 tg d E.nx)(hs:swapsWithSole [tg] e pos.line X.env=pure false:=by rfl)(hw:swappedStores [tg] e X.env=pure none:=by rfl)
  (h1:(assignEach [tg] X.env).map (·.2)=[assign tg X.env]:=by rfl):EX X G M (.Assign [tg] e pos) E:=by
 intro J s σ H I R
 refine wpAny_Assign_stores (thn (h J s σ H I R) λv s1 ⟨x,H1,d,M1,I1,r1,g1,i1,R1,q1⟩=>?_) hs hw
 rw[h1]
 exact thn (q1 J s1 σ H1 x v I1 R1 r1 i1) λ_ s2 ⟨σ2,H2,G2,M2,I2,g2,R2,q2⟩=>#v[σ2,H2,G2,M2,I2,g1.trans g2,R2,q2]
theorem nD(hp:PassesOwn (model X.prog X.w) X.A X.env X.xe)(hc:X.calm=true)(hi:PI X tg iter wi)
  (h:∀ σ H,KF X.K H->Rel X G M σ H->wi σ H λJ H1=>F6 H H1/\∃(M1:MH) (n:Nat) (Iv:Nat->Ga->MH->Prop),Rel X G M1 σ H1/\Iv 0 G M1 /\
   ∀ i G' M',i<=n->Iv i G' M'->(i=n->E.nx G' M')/\(∀ σ' H',F6 H1 H'->Rel X G' M' σ' H'->(i=n->J.stop i H')/\(i<n->J.go i H'/\∀ x H2,J.yld i H' x H2->F6 H' H2/\∃ d M2,Is H2 d x/\F9 X.K M2 H2 /\
    GV X G' M2 tg d λG3 M3=>EXs X G3 M3 body { nx:=Iv (i+1),ct:=Iv (i+1),bk:=E.nx,rt:=E.rt })))
  (hs:∀ x,A9 iter X.env x=pure x:=by intro _;rfl):EX X G M (.For tg iter body [] pos) E:=by
 intro L s σ H I R
 refine wpAny_For (thn (hi L s σ H _ I (h σ H (dZ I) R)) λv s1 h1=>thn h1 λe7 s2 h2=>?_) hs
 let ⟨it,fp,tn,J,H2,e,I2,T,b5,f2,g2,M2,n,Iv,R2,w0,b2⟩:=h2
 subst e
 have S:∀{H':Hp},(∀ b∈fp,H' b=none)->∀ b∈fp,kM X L H' b:=λhn b hb=>#v[hn b hb,(f2 b hb).2]
 refine codeAny_forLoop_any (λm s'=>∃ i σ' H' G' M',Inv X L σ' H' s'/\F6 H2 H'/\Rel X G' M' σ' H'/\tn i s'.heap/\(∀ b∈fp,H' b=none)/\i<=n/\m=n-i/\Iv i G' M') ?_ n #v[0,σ,H2,G,M2,I2,F6.refl _,R2,b5,λb hb=>(f2 b hb).1,Cr _,rfl,w0]
 rintro m s3 ⟨i,σ3,H3,G3,M3,I3,g3,R3,b1,b3,b7,rfl,w3⟩
 let ⟨d8,d9⟩:=b2 i G3 M3 b7 w3
 let ⟨stop,go⟩:=d9 σ3 H3 g3 R3
 by_cases hlt:i<n
 ·let ⟨go,b4⟩:=go hlt
  refine wpAny_passesOwn hp (thn (T.item X rfl rfl rfl hc i L s3 σ3 H3 X.xe I3 (S b3) b1 go) λr s4 ⟨u,hr,h4⟩=>?_)
  subst hr
  refine wpAny_passesOwn hp (thn h4 λ_ s5 ⟨x,H5,I5,r5,y5,st5,fr5⟩=>?_)
  have d6:=I5.pinned (S fr5) (T.obj _ _ st5)
  let ⟨g5,d,M5,i5,m5,gv⟩:=b4 x H5 y5
  refine wpAny_passesOwn hp (thn (gv _ s5 σ3 H5 x u d6 (R3.to g5 m5) r5 i5) λ_ s6 ⟨σ6,H6,G6,M6,I6,g6,R6,q6⟩=>?_)
  refine wpAny_passesOwn hp (thn (q6 _ s6 σ6 H6 I6 R6) λf s7 q7=>?_)
  have gg:F6 H2 H6:=(g3.trans g5).trans g6
  have V:∀{σ7:St} {Y:Hp} {G7:Ga} {Z:MH},Inv X (L++mV fp s5.heap) σ7 Y s7->F6 H6 Y->Rel X G7 Z σ7 Y->Iv (i+1) G7 Z ->
    ∃ m,m<n-i/\∃ i σ' H' G' M',Inv X L σ' H' s7/\F6 H2 H'/\Rel X G' M' σ' H'/\tn i s7.heap/\(∀ b∈fp,H' b=none)/\i<=n/\m=n-i/\Iv i G' M':=λ{σ7 Y G7 Z} O g7 R7 n7=>by
   exists n-(i+1),by lia,i+1,σ7,Y,G7,Z,O.unpinned,gg.trans g7,R7,T.keep _ _ _ st5 λb hb o e=>(O.pin (b,o) (Bg _ (Bg _ (fX hb e)))).1,λb hb=>?_,hlt,rfl,n7
   let ⟨o,e,d⟩:=T.obj _ _ st5 b hb
   exact (O.pin (b,o) (Bg _ (Bg _ (fX hb e)))).2.1
  cases f with
  |next=>let ⟨σ7,Y,G7,Z,O,g7,R7,n7⟩:=q7;exact V O g7 R7 n7
  |cont=>let ⟨σ7,Y,G7,Z,O,g7,R7,n7⟩:=q7;exact V O g7 R7 n7
  |brk=>let ⟨σ7,Y,G7,Z,O,g7,R7,q7⟩:=q7;exact #v[σ7,Y,G7,Z,O.unpinned,g2.trans (gg.trans g7),R7,q7]
  |ret v=>let ⟨x7,σ7,Y,d7,Z,O,r7,g7,i7,R7,q7⟩:=q7;exact #v[x7,σ7,Y,d7,Z,O.unpinned,r7,g2.trans (gg.trans g7),i7,R7,q7]
 ·have e:i=n:=by lia
  subst e
  refine wpAny_passesOwn hp (thn (T.done X rfl rfl rfl hc i L s3 σ3 H3 X.xe I3 (S b3) b1 (stop rfl)) λr s4 ⟨hr,I4⟩=>?_)
  subst hr
  exact wpAny_execs_nil #v[σ3,H3,G3,M3,I4,g2.trans g3,R3,d8 rfl]
end
section
variable {X:Cx}{G:Ga}{M:MH}{a b c e tg iter:Expr}{es rest:List Expr}{body:List Stmt}{pos:Pos}{Q:DK}{E:EndsD}
def tD(X:Cx)(G:Ga)(e:Expr):TE:=λσ H Q=>∃ M Qd,Rel X G M σ H/\EV X G M e Qd/\∀ v H' d M',KF X.K H'->F6 H H'->Is H' d v->Rel X G M' σ H'->Qd d M'->Q v H'
theorem fY:PE X e (tD X G e):=by
 intro J s σ H Q I #v[M,L,R,h,k]
 exact thn (h J s σ H I R) λu s' ⟨v,H',d,M',I',r,g,i,R',q⟩=>#v[v,H',I',r,k v H' d M' (dZ I') g i R' q]
def tAD(X:Cx)(G:Ga)(es:List Expr):TA:=λσ H Q=>∃ M Qd,Rel X G M σ H/\AV X G M es Qd/\∀ vs H' ds M',KF X.K H'->F6 H H'->IsL H' ds vs->Rel X G M' σ H'->Qd ds M'->Q vs H'
theorem iU:PA X es (tAD X G es):=by
 intro L J s σ H Q I #v[M,O,R,h,k]
 exact thn (h L J s σ H I R) λu s' ⟨v,H',d,M',I',r,g,i,R',q⟩=>#v[v,H',I',r,k v H' d M' (dZ I') g i R' q]
theorem dC(hp:PassesOwn (model X.prog X.w) X.A X.env X.xe)(hc:X.calm=true)
  (h:EV X G M iter λd M1=>∃(l:Addr) (ds:List D) (Iv:Nat->Ga->MH->Prop),d=.ref l/\(M1 l=some (.lst ds)\/M1 l=some (.ro ds))/\Iv 0 G M1/\(∀ i G' M',i<=ds.length->Iv i G' M'->M' l=M1 l) /\
   (∀ i x G' M',ds[i]?=some x->Iv i G' M'->GV X G' M' tg x λG3 M3=>EXs X G3 M3 body { nx:=Iv (i+1),ct:=Iv (i+1),bk:=E.nx,rt:=E.rt })/\(∀ G' M',Iv ds.length G' M'->E.nx G' M'))
  (hs:∀ x,A9 iter X.env x=pure x:=by intro _;rfl):EX X G M (.For tg iter body [] pos) E:=by
 refine nD hp hc (qU (fY (G:=G))) (λσ H kf R=>?_) hs
 exists M,_,R,h,λv H' d M' b5 g i Z q=>?_
 let ⟨l,ds,Iv,e,hl,h0,keep,L,V⟩:=q
 subst e
 rw[aH]at i;subst i
 have sq:∀{H2:Hp} {J:MH},F9 X.K J H2->J l=M' l->∃ xs,SqL X.K H2 l xs/\IsL H2 ds xs:=λ{H2 J} m e=>by
  rcases hl with hl|hl
  ·let ⟨xs,h1,h2⟩:=m l _ (e.trans hl);exact #v[xs,SqL.of h1,h2]
  ·exact m l _ (e.trans hl)
 let ⟨Y,b1,b4⟩:=sq Z.mem rfl
 exists l,rfl,#v[Y,b1],g,M',ds.length,Iv,Z,h0,λi G2 J O S=>#v[λe=>V G2 J (by rw[<- e];exact S),λσ2 H2 _ R2=>?_]
 let ⟨xs,hx,I⟩:=sq R2.mem (keep i G2 J O S)
 have b2:=I.len
 exists λe=>#v[xs,hx,by lia],λb3=>#v[#v[xs,xs[i]'(by lia),hx,by simp],λx H3 y=>?_]
 let ⟨e,y⟩:=y
 subst e
 have e1:=y xs hx
 let ⟨d,e2,i2⟩:=I.get' e1
 exact #v[F6.refl _,d,J,i2,R2.mem,L i d G2 J e2 S]
theorem gB(hp:PassesOwn (model X.prog X.w) X.A X.env X.xe)(hc:X.calm=true)
  (h:EV X G M iter λd M1=>∃(ds:List D) (Iv:Nat->Ga->MH->Prop),d=.tup ds/\Iv 0 G M1 /\
   (∀ i x G' M',ds[i]?=some x->Iv i G' M'->GV X G' M' tg x λG3 M3=>EXs X G3 M3 body { nx:=Iv (i+1),ct:=Iv (i+1),bk:=E.nx,rt:=E.rt })/\(∀ G' M',Iv ds.length G' M'->E.nx G' M'))
  (hs:∀ x,A9 iter X.env x=pure x:=by intro _;rfl):EX X G M (.For tg iter body [] pos) E:=by
 refine nD hp hc (qV (fY (G:=G))) (λσ H kf R=>?_) hs
 exists M,_,R,h,λv H' d M' b1 g i R' q=>?_
 let ⟨ds,Iv,e,h0,L,O⟩:=q
 subst e
 rw[bM]at i
 let ⟨l,xs,rfl,hx,I⟩:=i
 have Z:=I.len
 exists l,rfl,#v[xs,SqT.of hx],g,M',ds.length,Iv,R',h0,λi Y S b3 V=>#v[λe=>O Y S (by rw[<- e];exact V),λσ2 H2 g2 R2=>?_]
 have J:SqT X.K H2 l xs:=SqT.of (g2 _ _ hx)
 exists λe=>#v[xs,J,by lia],λb2=>#v[#v[xs,xs[i]'(by lia),J,by simp],λx H3 y=>?_]
 let ⟨e,y⟩:=y
 subst e
 have e1:=y xs J
 let ⟨d,e2,i2⟩:=(I.grow g2).get' e1
 exact #v[F6.refl _,d,S,i2,R2.mem,L i d Y S e2 V]
theorem jN{p:Pos}(hp:PassesOwn (model X.prog X.w) X.A X.env X.xe)(hc:X.calm=true)(hm:X.mg "range"=none)
  (h:AV X G M [e] λds M1=>∃(n:Int) (Iv:Nat->Ga->MH->Prop),ds=[.int n]/\-(2^62)<=n/\n<2^62/\Iv 0 G M1 /\
   (∀(i:Nat) G' M',i<n.toNat->Iv i G' M'->GV X G' M' tg (.int i) λG3 M3=>EXs X G3 M3 body { nx:=Iv (i+1),ct:=Iv (i+1),bk:=E.nx,rt:=E.rt })/\(∀ G' M',Iv n.toNat G' M'->E.nx G' M'))
  (hg:Gl X "range":= by rfl)(hse:A0 [e] X.env=[(false,eval e X.env)]:=by rfl)(hs:∀ x,A9 (.Call (.Name "range" p) [e] [] pos) X.env x=pure x:=by intro _;rfl){pos':Pos}:EX X G M (.For tg (.Call (.Name "range" p) [e] [] pos) body [] pos') E:=by
 refine nD hp hc (hU hg hm (iU (G:=G)) hse) (λσ H kf R=>?_) hs
 exists M,_,R,h,λvs H' ds M' b1 g i Z q=>?_
 let ⟨n,Iv,e,h1,h2,h0,J,L⟩:=q
 subst e
 let ⟨v,rfl,S⟩:=dF i
 rw[aM]at S;subst S
 exists n,rfl,h1,h2,g,M',n.toNat,Iv,Z,h0,λi Y O b2 V=>#v[λe=>L Y O (by rw[<- e];exact V),λσ2 H2 _ R2=>#v[λe=>?_,λI=>#v[I,λx H3 y=>?_]]]
 ·show n.toNat<=i
  lia
 ·let ⟨e,y⟩:=y
  subst e;subst y
  exists F6.refl _,.int i,O,aM.mpr (by simp),R2.mem,J i Y O I V
def nE(N:List Str)(ds:List D):Ga:=ds.map some++Bw (N.length-ds.length) none
theorem kR(i:IsL H ds vs)(m:F9 X.K M H):Rel X (nE N ds) M (L2.start N vs) H:=by
 exists λj d e=>?_,m
 have hl:=i.len
 unfold nE at e
 unfold L2.start
 by_cases hj:j<ds.length
 ·rw[Cu (by simpa using hj),Ar]at e
  cases q:ds[j]? with
  |none=>rw[q]at e;cases e
  |some d' =>
   rw[q]at e
   have I:d'=d:=by simpa using e
   subst I
   let ⟨v,e2,h⟩:=i.get q
   exists v,?_,h
   rw[Cu (by simp;lia),Ar,e2]
   rfl
 ·rw[Cg (by simpa using hj),Dn]at e
  split at e<;>cases e
end
section
variable {P:Program}{w:World}{K:Ad}{mg:Str->Option Value}{base:Heap}
theorem SK{x b2:Str}{st:Stmt}{f:Addr}{fd:FuncData}{N ps:List Str}{k:Nat}{sp:SpD}(F:Fun K x b2 st f fd)(S:FnScope N ps (aZ st))(len:∀ ds M Q,sp ds M Q->ds.length=ps.length)
  (hbody:∀(cdv:Value) (A:Around) (outer:List Env) (s:Shared) (H:Hp) (EE:XK) (ds:List D) (M:MH) (Q:DK),Room k (A.deeper (envOfC b2 (aZ st) s.heap.objs.size f cdv))->sp ds M Q ->
   EXs (eX CX0 P w K mg base N b2 (aZ st) f cdv A outer s H EE).nox (nE N ds) M (cI st) { nx:=λ_ M'=>Q .non M',rt:=Q }):F8 P w K mg base CX0 (k+1) f fd ps (aD K sp):=by
 refine F.ok S (λvs H Q E h=>?_) (λcdv A outer s H vs Q E hr h=>?_)
 ·let ⟨ds,M,Qd,i,_,h,_⟩:=h
  rw[<- i.len];exact len _ _ _ h
 let ⟨ds,M,Qd,i,m,h,k⟩:=h
 have B:=hbody cdv A outer s H E ds M Qd hr h
 exists λD σ' H'=>σ'=L2.start N vs/\H'=H/\D.nx=(λ_ H'=>Q .non H')/\D.rt=Q,?_,rfl,rfl,rfl,rfl
 intro J s' σ' H' D I #v[e1,e2,e3,e4]
 subst e1;subst e2
 refine thn (B J s' _ _ I (kR i m)) λfl b1 q=>?_
 cases fl with
 |next =>
  let ⟨σ2,L,G2,Z,O,V,R2,Y⟩:=q
  exists σ2,L,O,?_
  rw[e3]
  exact k .non L .non Z V (cJ.mpr rfl) R2.mem Y
 |brk=>let ⟨_,_,_,_,_,_,_,z⟩:=q;exact z.elim
 |cont=>let ⟨_,_,_,_,_,_,_,z⟩:=q;exact z.elim
 |ret u =>
  let ⟨v,σ2,L,d,Z,O,r2,V,i2,m2,Y⟩:=q
  exists v,σ2,L,O,r2,?_
  rw[e4]
  exact k v L d Z V i2 m2 Y
theorem lO{x:Str}{st:Stmt}{f:Addr}{fd:FuncData}{ps:List Str}{k:Nat}{sp:SpD}(F:Fun K x x st f fd)(G:F8 P w K mg base CX0 k f fd ps (aD K sp))(b:Binds K fd ps [])(m:mg x=some (.ref f)):Cal P w K mg base k x sp :=
 #v[f,fd,ps,G,m,F.kp,b]
theorem Cal.mono(C:Cal P w K mg base j x sp)(h:j<=k):Cal P w K mg base k x sp :=
 let ⟨f,fd,ps,F,m,kp,b⟩:=C.ex;#v[f,fd,ps,F.mono h,m,kp,b]
end
theorem rE(I:Nat->Shared->Prop)
  (L:∀ n s,I n s->wpAny (model prog w) A (pyNext it) (λr s1=>match r with
   |none=>R (.ok .next) s1
   |some v=>wpAny (model prog w) A (letOwnedTupleGo target it v) (λ_ s2=>wpAny (model prog w) A (assign target env v) (λ_ s2 =>
     wpAny (model prog w) A (forIn ifs true λc r=>if r=true then do let ok <- isTrue c env (eval c env);pure (ForInStep.yield ok) else pure (ForInStep.yield r)) (λok s3 =>
      if ok=true then wpAny (model prog w) A (eval elt env) (λx s4 =>
       wpAny (model prog w) A (call (.builtin "list.append") [acc,x]) (λ_ s5=>∃ m,m<n/\I m s5) (λ_ _=>False) s4) (λ_ _=>False) s3
      else ∃ m,m<n/\I m s3) (λ_ _=>False) s2) (λ_ _=>False) s2) (λ_ _=>False) s1) (λ_ _=>False) s)
  (n:Nat)(h:I n s) :
  codeAny (model prog w) A (.compLoop (.ListComp elt [#v[target,iter,ifs,0]] scope pos) 0 it acc env) R s:=by
 refine codeAny_loop rfl I (λn s Y=>?_) n h
 show wpAny _ A ((compTurn (.ListComp elt [#v[target,iter,ifs,0]] scope pos) 0 it acc env).onRaise (λx=>do noteFrame x env;theTreesLotGoes x)) _ _ s
 refine wpAny_noted ?_
 rw[compTurn_list]
 have J:∀{α:Type} {t:Sem α} {Q:α->Shared->Prop} {E:Value->Shared->Prop} {s:Shared},wpAny (model prog w) A t Q (λ_ _=>False) s->wpAny (model prog w) A t Q E s:=λh=>Cz h (λ_ _ x=>x) λ_ _ x=>x.elim
 refine Ac (Dl (Ac (J (thn (L n s Y) λr s1 h1=>?_))))
 cases r with
 |none=>exact Ag h1
 |some v =>
  refine Ac (J (thn h1 λ_ s2 h2=>?_))
  refine Ac (J (thn h2 λ_ s3 V=>Ac (J (thn V λok s4 h4=>?_))))
  cases ok with
  |false=>exact Ag #v[rfl,h4]
  |true =>
   exact Ac (Ac (J (thn h4 λx s5 S=>Ac (J (thn S λ_ Z O=>Ag (Ag #v[rfl,O]))))))
def bR(X:Cx)(N:List Str)(scope:Scope)(cl:List (Str×Addr))(C:Addr)(s:Shared)(H:Hp)(ex:List Addr):Cx :=
 { X with N:=N,s₀:=s,H₀:=H,env:=compEnvC scope cl C X.env,outer:=X.stack,ex:=ex,fn:=λ_=>false,pn:=[] }
structure H4(X:Cx)(own:List Str)(js:List Nat)(N:List Str)(scope:Scope)(cl:List (Str×Addr)):Prop where
 clos:closureFor scope X.env=pure cl
 kind:scope.kind=.function
 names:∀ x∈scope.names,x.2=.local->scope.names.lookup x.1=some .local
 nocell:∀ x∈scope.names,x.2≠.cell
 cells:∀ x c,cl.lookup x=some c->X.env.cells.lookup x=some c
 has:∀ x,((relabel scope X.env).names.lookup x=some .cell\/(relabel scope X.env).names.lookup x=some .free)->∃ c,cl.lookup x=some c
 frees:∀(k j:Nat),js[k]?=some j->∃ x,N[own.length+k]?=some x/\X.N[j]?=some x/\Vis X.env.scope x/\(∀ m h u,RA X.env h m x u->∃ c,cl.lookup x=some c/\h.IsCell c (some u)) /\
  ((relabel scope X.env).names.lookup x=some .cell\/(relabel scope X.env).names.lookup x=some .free)
 len:N.length=own.length+js.length
def aN(own:List Str)(js:List Nat)(G:Ga):Ga:=Bw own.length none++js.map λj=>(G[j]?).getD none
def Sub(G G':Ga):Prop:=∀(i:Nat) (d:D),G[i]?=some (some d)->G'[i]?=some (some d)
theorem Rel.sub(R:Rel X G' M σ H)(s:Sub G G'):Rel X G M σ H:=#v[λi d e=>R.loc i d (s i d e),R.mem]
def TVs(X:Cx)(G:Ga)(M:MH)(cs:List Expr)(Q:Bool->MH->Prop):Prop:=match cs with
 |[]=>Q true M
 |[c]=>TV X G M c Q
 |_=>False
theorem IR{X:Cx}{G:Ga}{M:MH}{J:List Expr}{Q:Bool->MH->Prop}(h:TVs X G M J Q){pins:List (Addr×Obj)}{s:Shared}{σ:St}{H:Hp}(I:Inv X pins σ H s)(R:Rel X G M σ H) :
  wpAny (model X.prog X.w) X.A (forIn J true λc r=>if r=true then do let ok <- isTrue c X.env (eval c X.env);pure (ForInStep.yield ok) else pure (ForInStep.yield r)) (TPD X pins σ G H Q) X.xe s:=by
 unfold TVs at h
 split at h
 ·exact wpAny_tests_nil #v[H,M,I,F6.refl _,R,h]
 ·exact wpAny_tests_one (h pins s σ H I R)
 ·exact h.elim
section
variable {X:Cx}{G:Ga}{M:MH}{elt tg iter:Expr}{ifs:List Expr}{scope:Scope}{pos:Pos}{Q:DK}{own:List Str}{js:List Nat}{N:List Str}{cl:List (Str×Addr)}
def Walks(K:Ad)(M:MH)(J:It)(H:Hp)(ds:List D):Prop:=∀ H',F6 H H'->F9 K M H'->(∀ i,i=ds.length->J.stop i H') /\
 ∀ i,i<ds.length->J.go i H'/\∀ x H2,J.yld i H' x H2->F6 H' H2/\(∀ b o,H' b=some o->H2 b=some o)/\F9 K M H2/\∃ d,ds[i]?=some d/\Is H2 d x
theorem IS(T:H4 X own js N scope cl){pins:List (Addr×Obj)}{σ:St}{H:Hp}{s:Shared}{h1:Heap}{tk:Nat}{fp:List Addr}(I:Inv X pins σ H s)(hf:∀ b∈fp,kM X pins H b)(ht:∀ b∈fp,∃ o,s.heap.get? b=some o)
  (hn:h1.Ns s.heap.objs.size (λ_=>none))(hk:∀ b o,s.heap.get? b=some o->h1.get? b=some o)(R:Rel X G M σ H) :
  ∃ σc,Inv (bR X N scope cl s.heap.objs.size s H fp) [] σc H { s with heap:=h1,toks:=tk }/\Rel (bR X N scope cl s.heap.objs.size s H fp) (aN own js G) M σc H:=by
 let σc:St:=Bw own.length none++js.map λj=>(σ[j]?).getD none
 have O:∀ b∈fp,b<s.heap.objs.size:=λb L=>let ⟨o,e⟩:=ht b L;As e
 exists σc,#v[?_,rfl,I.bare,Un.kept hk,?_,?_,?_,?_,?_,I.hok.kept hk,?_],?_
 ·exact {
   mod:=I.ok.mod
   kind:=T.kind
   glob:=I.ok.glob
   blt:=I.ok.blt
   above:=Ao _
   inj:=λx y c h1 h2=>I.ok.inj x y c (T.cells x c h1) (T.cells y c h2)
   has:=λx hx=>T.has x hx
   cab:=λx c hx _=>nomatch hx
   hd:=I.ok.hd
   frames:=I.ok.frames
   stk:=.inl rfl
   exf:=λb L=>#v[A1 (O b L),λx c e=>(hf b L).2.2.2.2.1 x c (T.cells x c e)]
   bs:=I.bs
   bsz:=Ay I.ok.bsz I.sz
   noex:=λb o e L=>by
    rcases (hf b L).2.2.2.1 with z|z
    ·exact I.ok.noex b o e z
    ·exact absurd (Aw (As (I.ok.bs b o e).1) z) (Cd _)
   exfs:=λb L z=>by
    rcases Am.mp (I.stkSub b z) with e|e
    ·exact (hf b L).2.1 e
    ·exact (hf b L).2.2.1 e
   funs:=I.stack
   frf:=I.stkFree }
 ·exists _,hn,λi x v e1 e2 e3=>?_
  let ⟨m,hm,hl⟩:=I.loc
  have S:own.length<=i:=by
   refine Fu λz=>?_
   have J:(Bw own.length none++js.map λj=>(σ[j]?).getD none)[i]?=some (some v):=e2
   rw[Cu (by simpa using z),Dn]at J
   split at J<;>cases J
  have J:(Bw own.length none++js.map λj=>(σ[j]?).getD none)[i]?=some (some v):=e2
  rw[Cg (by simpa using S),Ar,De]at J
  cases q:js[i-own.length]? with
  |none=>rw[q]at J;cases J
  |some j =>
   rw[q]at J
   have e4:(σ[j]?).getD none=some v:=by simpa using J
   let ⟨y,n1,n2,n3,n4,n5⟩:=T.frees _ _ q
   have e5:own.length+(i-own.length)=i:=by lia
   rw[e5]at n1
   have e6:N[i]?=some x:=e1
   rw[e6]at n1;cases n1
   have Y:σ[j]?=some (some v):=by
    cases z:σ[j]? with
    |none=>rw[z]at e4;cases e4
    |some w=>rw[z]at e4;exact congrArg some e4
   let ⟨u,r,l⟩:=hl j x v n2 Y n3
   let ⟨c,c1,c2⟩:=n4 m s.heap u l
   exists u,r,.inr #v[n5,c,c1,?_]
   let ⟨o,V,hd⟩:=c2
   exact #v[o,hk _ _ V,hd]
 ·intro x c e
  let ⟨v,o,V,hd⟩:=I.cell x c (T.cells x c e)
  exact #v[v,o,hk _ _ V,hd]
 ·exact I.hok.fresh (Ao _)
 ·exact λx c e=>I.freeC x c (T.cells x c e)
 ·intro p hp
  exact absurd (show p∈([]:List (Addr×Obj)) from hp) (by simp)
 ·show (Bw own.length none++js.map λj=>(σ[j]?).getD none).length=N.length
  rw[Ae,De,Ab,T.len]
 ·exists λi d e=>?_,R.mem
  unfold aN at e
  have S:own.length<=i:=by
   refine Fu λz=>?_
   rw[Cu (by simpa using z),Dn]at e
   split at e<;>cases e
  rw[Cg (by simpa using S),Ar,De]at e
  cases q:js[i-own.length]? with
  |none=>rw[q]at e;cases e
  |some j =>
   rw[q]at e
   have e4:(G[j]?).getD none=some d:=by simpa using e
   have Y:G[j]?=some (some d):=by
    cases z:G[j]? with
    |none=>rw[z]at e4;cases e4
    |some w=>rw[z]at e4;exact congrArg some e4
   let ⟨v,v1,Z⟩:=R.loc j d Y
   exists v,?_,Z
   show (Bw own.length none++js.map λj=>(σ[j]?).getD none)[i]?=some (some v)
   rw[Cg (by simpa using S),Ar,De,q]
   show some ((σ[j]?).getD none)=some (some v)
   rw[v1];rfl
def Ext(M M':MH):Prop:=∀ a o,M a=some o->M' a=some o
theorem kS:FF (FF M a o) a u=FF M a u:=by
 funext b;unfold FF;split<;>rfl
theorem aB(h:M a=none):Ext M (FF M a o):=λb u e=>aJ h e
theorem F9.ext{K:Ad}{M M':MH}{H:Hp}(m:F9 K M' H)(e:Ext M M'):F9 K M H:=λa o h=>m a o (e a o h)
theorem Inv.unblock{pins:List (Addr×Obj)}{σ σc:St}{H3 H':Hp}{J s':Shared}{C:Addr}{h':Heap}{fp:List Addr}(Z:Inv X pins σ H3 J)(hf:∀ b∈fp,kM X pins H3 b)(I:Inv (bR X N scope cl C J H3 fp) [] σc H' s')
  (hC:C=J.heap.objs.size)(hs:Heap.SameBut C s'.heap h'):Inv X pins σ H' { s' with heap:=h' }:=by
 have ne:∀ b o,J.heap.get? b=some o->b≠C:=λb o e=>by rw[hC];exact A1 (As e)
 have B:Un (frs X.stack) fp H3 H' J.heap s'.heap:=I.base
 have L:H' C=none:=I.free
 refine Z.call' (ch:=fp) I.os ?_ ?_ I.bare ?_
 ·exact {
   keep:=λb o e n h1 h2=>(hs.2 b (ne b o e)).trans (B.keep b o e n h1 h2)
   slot:=λb o e n h1 h2=>let ⟨sl,q⟩:=B.slot b o e n h1 h2;#v[sl,(hs.2 b (ne b o e)).trans q]
   free:=B.free
   there:=λb o e h2=>let ⟨o',q⟩:=B.there b o e h2;#v[o',(hs.2 b (ne b o e)).trans q]
   tups:=B.tups
   frzs:=B.frzs
   tbls:=B.tbls }
 ·intro b u e
  refine (I.hok b u e).stay (λc v O q=>(hs.2 c ?_).trans q) (λ_ q=>q) λ_ _ q=>q
  rintro rfl
  rcases O with z|z
  ·rw[<- z,L]at e;cases e
  ·rw[L]at z;cases z
 ·intro b V
  let ⟨h0,h1,h2,Y,h4,S⟩:=hf b V
  exact #v[Y,h1,h4,S]
def CP(X:Cx)(G:Ga)(own:List Str)(js:List Nat)(N:List Str)(scope:Scope)(cl:List (Str×Addr))(tg elt:Expr)(ifs:List Expr)(σ:St)(F:Addr->MH->Prop)(J:It)(H1:Hp):Prop :=
 ∃(M1:MH) (ds:List D) (Iv:Addr->Nat->List D->MH->Prop),Rel X G M1 σ H1/\(∀ q i acc M' H',F6 H1 H'->F9 X.K M' H'->Iv q i acc M'->(i=ds.length->J.stop i H')/\(i<ds.length->J.go i H'/\∀ x H2,J.yld i H' x H2->F6 H' H2/\(∀ b o,H' b=some o->H2 b=some o)/\∃ d,ds[i]?=some d/\Is H2 d x))/\(∀ q,M1 q=none->Iv q 0 [] (FF M1 q (.lst []))) /\
  (∀ Y:Cx,(∃ C s H fp,Y=bR X N scope cl C s H fp)->∀ q i acc M' d,ds[i]?=some d->Iv q i acc M'->M' q=some (.lst acc)->GV Y (aN own js G) M' tg d λG3 M3=>M3=M'/\Sub (aN own js G) G3/\TVs Y G3 M' ifs λk M4=>M4=M'/\if k=true then EV Y G3 M' elt λo M5=>M5 q=some (.lst acc)/\acc.length<An/\Iv q (i+1) (acc++[o]) (FF M5 q (.lst (acc++[o]))) else Iv q (i+1) acc M') /\
  ∀ q acc M',Iv q ds.length acc M'->M' q=some (.lst acc)->F q M'
theorem pT{wi:TI}{Ψ:It->Hp->Prop}{F:Addr->MH->Prop}{use:Option (Value->Sem Unit)}{Qc:Value->Shared->Prop}{p0:Pos}{pins:List (Addr×Obj)}{s:Shared}{σ:St}{H:Hp}(T:H4 X own js N scope cl)(i8:X.xe=λ_ _=>False)(hc:X.calm=true)(hi:PI X tg iter wi)
  (hs:∀ x,A9 iter X.env x=pure x)(I:Inv X pins σ H s)(h:wi σ H Ψ)(k:∀ J H1,Ψ J H1->F6 H H1/\CP X G own js N scope cl tg elt ifs σ F J H1)
  (fe:∀ q M' C s3 H3 fp σ' H' s',F q M'->Inv X pins σ H3 s3->(∀ b∈fp,kM X pins H3 b)->C=s3.heap.objs.size->Inv (bR X N scope cl C s3 H3 fp) [] σ' H' s'->F6 H H'->Rel X G M' σ H'->compPost (model X.prog X.w) X.A X.xe use Qc (.ref q) C (.ok .next) s') :
  wpAny (model X.prog X.w) X.A (comprehension (.ListComp elt [#v[tg,iter,ifs,0]] scope pos) scope X.env p0 (newList []) false (eval iter X.env) use) Qc X.xe s:=by
 refine wpAny_comprehension_free (use:=use) rfl hs T.clos T.kind T.names (thn (hi pins s σ H _ I h) λv s1 h1=>thn h1 λi6 L h2=>?_)
 let ⟨it,fp,tn,J,H2,e,I2,O,d8,f2,f9⟩:=h2
 let ⟨g2,M1,ds,Iv,R2,e7,h7,block,g1⟩:=k J H2 f9
 subst e
 refine Bs ?_ (by show 0<=An;exact Cr _)
 have hq:H2 L.heap.objs.size=none:=I2.hok.fresh (Ao _)
 have I3:Inv X pins σ (upd H2 L.heap.objs.size (.lst [])) { L with heap:=L.heap.push { cls:=.type "list",dict:=none,data:=.seq ([]:List Value).toArray } } :=
  I2.laid (t':=L.toks) (λb u e=>Af _ e) (Ao _) #v[Cr _,[],0,.nil,Ap _ rfl]
 have gq:F6 H2 (upd H2 L.heap.objs.size (.lst [])):=aK hq
 have mq:M1 L.heap.objs.size=none:=R2.mem.fresh hq (dZ I3)
 have R3:Rel X G (FF M1 L.heap.objs.size (.lst [])) σ (upd H2 L.heap.objs.size (.lst [])):=R2.to gq (R2.mem.lay hq #v[[],aI,aV.mpr rfl])
 have f3:∀ b∈fp,kM X pins (upd H2 L.heap.objs.size (.lst [])) b:=λb V=>by
  exists ?_,(f2 b V).2
  rw[aL]
  ·exact (f2 b V).1
  ·intro z
   let ⟨o,e,_⟩:=O.obj _ _ d8 b V
   rw[z]at e
   exact absurd (As e) (Cd _)
 have ft:∀ b∈fp,∃ o,(L.heap.push { cls:=.type "list",dict:=none,data:=.seq ([]:List Value).toArray }).get? b=some o:=λb V=>by
  let ⟨o,e,_⟩:=O.obj _ _ d8 b V
  exact #v[o,Af _ e]
 have f8:tn 0 (L.heap.push { cls:=.type "list",dict:=none,data:=.seq ([]:List Value).toArray }):=O.keep _ _ _ d8 λb V o e=>Af _ e
 generalize L.heap.objs.size=q at hq I3 gq mq R3 f3 ⊢
 refine wpAny_newFunctionEnv (T.nocell) (by intro y hy;simp at hy) (λh1 b5 Z=>?_) T.kind
 generalize hH3:upd H2 q (.lst [])=H3 at I3 R3 f3 gq
 generalize hs3:({ L with heap:=L.heap.push { cls:=.type "list",dict:=none,data:=.seq ([]:List Value).toArray } }:Shared)=s3 at I3 b5 Z ⊢
 have h5:s3.heap=L.heap.push { cls:=.type "list",dict:=none,data:=.seq ([]:List Value).toArray }:=by rw[<- hs3]
 rw[<- h5]at f8 ft
 have f7:∀ b o,s3.heap.get? b=some o->h1.get? b=some o:=λb o e=>Z.extBut b o (A1 (As e)) (Af _ e)
 let ⟨σc,Ic,Rc⟩:=IS (tk:=s3.toks+([]:List (Str×Value)).length) T I3 f3 ft (by simpa using b5) f7 R3
 have f4:tn 0 h1:=O.keep _ _ _ f8 λb V o e=>f7 b o e
 have hC:∃ C,C=s3.heap.objs.size:=#v[_,rfl]
 let ⟨C,hC⟩:=hC
 rw[<- hC]at Ic Rc
 generalize hY:bR X N scope cl C s3 H3 fp=Y at Ic Rc
 have b1:=block Y #v[C,s3,H3,fp,hY.symm]
 have yA:Y.A=X.A:=by rw[<- hY];rfl
 have yp:Y.prog=X.prog:=by rw[<- hY];rfl
 have yw:Y.w=X.w:=by rw[<- hY];rfl
 have yK:Y.K=X.K:=by rw[<- hY];rfl
 have yc:Y.calm=true:=by rw[<- hY];exact hc
 have yx:Y.xe=λ_ _=>False:=by rw[<- hY];exact i8
 have ye:Y.env=compEnvC scope cl C X.env:=by rw[<- hY];rfl
 have g3:Y.pn=[]:=by rw[<- hY];rfl
 have d6:Y.ex=fp:=by rw[<- hY];rfl
 have d7:∀{H':Hp},(∀ b∈fp,H' b=none)->∀ b∈fp,kM Y [] H' b:=λ{H'} hn b V=>by
  have o1:=Ic.ok.exf b (by rw[d6];exact V)
  exists hn b V,o1.1,Ic.ok.exfs b (by rw[d6];exact V),.inl (by rw[d6];exact V),o1.2,λp hp=>?_
  rw[g3]at hp;exact absurd hp (by simp)
 have loop:∀ s4:Shared,s4={ s3 with heap:=h1,toks:=s3.toks+([]:List (Str×Value)).length } ->
   codeAny (model X.prog X.w) X.A (.compLoop (.ListComp elt [#v[tg,iter,ifs,0]] scope pos) 0 (.ref it) (.ref q) (compEnvC scope cl C X.env)) (compPost (model X.prog X.w) X.A X.xe use Qc (.ref q) C) s4:=by
  rintro s4 rfl
  refine rE (λm s'=>∃ i σ' H' S M',Inv Y [] σ' H' s'/\F6 H3 H'/\Rel Y (aN own js G) M' σ' H'/\M' q=some (.lst S)/\Iv q i S M'/\tn i s'.heap/\(∀ b∈fp,H' b=none)/\i<=ds.length/\m=ds.length-i) ?_ ds.length
   #v[0,σc,H3,[],FF M1 q (.lst []),Ic,F6.refl _,Rc,FB,h7 q mq,f4,λb V=>(f3 b V).1,Cr _,rfl]
  rintro m s5 ⟨i,σ5,H5,S,M5,I5,g5,R5,m5,v5,f6,f5,i5,rfl⟩
  let ⟨b7,h3⟩:=e7 q i S M5 H5 (gq.trans g5) (by rw[<- yK];exact R5.mem) v5
  by_cases hlt:i<ds.length
  ·let ⟨go,g6⟩:=h3 hlt
   have f1:=O.item Y yp yw yK yc i [] s5 σ5 H5 (λ_ _=>False) I5 (d7 f5) f6 go
   rw[yA]at f1
   refine thn f1 λr s6 ⟨u,hr,h6⟩=>?_
   subst hr
   refine thn h6 λ_ s7 ⟨x,H7,I7,r7,y7,st7,fr7⟩=>?_
   let ⟨g7,d9,d,ed,i7⟩:=g6 x H7 y7
   have g4:=I7.pinned (d7 fr7) (O.obj _ _ st7)
   have R7:Rel Y (aN own js G) M5 σ5 H7:=R5.to g7 λa o e=>(R5.mem a o e).stay g7 λu h=>d9 _ _ h
   have gv:=b1 q i S M5 d ed v5 m5 _ s7 σ5 H7 x u g4 R7 r7 i7
   rw[yp,yw,yA,yx,ye]at gv
   refine thn gv λ_ s8 ⟨σ8,H8,G8,M8,I8,g8,R8,e8,sub8,tests⟩=>?_
   subst e8
   have b4:∀{σ':St} {H':Hp} {s':Shared},Inv Y ([]++mV fp s7.heap) σ' H' s'->tn (i+1) s'.heap/\∀ b∈fp,H' b=none:=λ{σ' H' s'} I'=>by
    exists O.keep _ _ _ st7 λb V o e=>(I'.pin (b,o) (Bg _ (Bg _ (fX V e)))).1,λb V=>?_
    let ⟨o,e,_⟩:=O.obj _ _ st7 b V
    exact (I'.pin (b,o) (Bg _ (Bg _ (fX V e)))).2.1
   have tr:=IR tests I8 R8
   rw[yp,yw,yA,yx,ye]at tr
   refine thn tr λok s9 ⟨H9,M9,I9,g9,R9,e9,elt8⟩=>?_
   subst e9
   cases ok with
   |false =>
    rw[if_neg (by decide)]
    rw[if_neg (by decide)]at elt8
    let ⟨t1,t2⟩:=b4 I9
    exact #v[ds.length-(i+1),by lia,i+1,σ8,H9,S,_,I9.unpinned,((g5.trans g7).trans g8).trans g9,R9.sub sub8,m5,elt8,t1,t2,hlt,rfl]
   |true =>
    rw[if_pos rfl]
    rw[if_pos rfl]at elt8
    have ev:=elt8 _ s9 σ8 H9 I9 R9
    rw[yp,yw,yA,yx,ye]at ev
    refine thn ev λu9 s10 ⟨v10,H10,o10,M10,I10,r10,g10,i10,R10,e10,ez,eo⟩=>?_
    let ⟨xs,hx,b2⟩:=R10.mem q _ e10
    have h8:=b2.len
    have ap:=pN (X:=Y) _ s10 σ8 H10 (.ref q) [v10] (.ref q) [u9] (λ_ H'=>H'=upd H10 q (.lst (xs++[v10]))) I10 rfl (.cons r10 .nil) #v[q,xs,v10,rfl,rfl,hx,by lia,rfl]
    rw[yp,yw,yA,yx]at ap
    refine thn ap λ_ s11 ⟨_,H11,I11,_,e11⟩=>?_
    subst e11
    let ⟨t1,t2⟩:=b4 I11
    have nt:∀ ys,H10 q≠some (.tup ys):=λys z=>by rw[hx]at z;cases z
    have ga:F6 H10 (upd H10 q (.lst (xs++[v10]))):=cH nt
    have mm:=R10.mem.put (p:=q) (o:=.lst (xs++[v10])) (u:=.lst (S++[o10])) nt #v[_,aI,(b2.grow ga).app (aG.mpr #v[v10,[],rfl,Is.grow ga _ _ i10,aV.mpr rfl])]
    exact #v[ds.length-(i+1),by lia,i+1,σ8,_,S++[o10],_,I11.unpinned,((((g5.trans g7).trans g8).trans g9).trans g10).trans ga,(R10.to ga mm).sub sub8,FB,eo,t1,t2,hlt,rfl]
  ·have ei:i=ds.length:=by lia
   subst ei
   have dn:=O.done Y yp yw yK yc ds.length [] s5 σ5 H5 (λ_ _=>False) I5 (d7 f5) f6 (b7 rfl)
   rw[yA]at dn
   refine thn dn λr s6 ⟨hr,I6⟩=>?_
   subst hr
   exact fe q M5 C s3 H3 fp σ5 H5 s6 (g1 q S M5 v5 m5) I3 f3 hC (by rw[hY];exact I6) ((g2.trans gq).trans g5) (R3.to g5 (by rw[<- yK];exact R5.mem))
 have b3:=codeAny_compStart_list (R:=compPost (model X.prog X.w) X.A X.xe use Qc (.ref q) C) (loop _ rfl) (O.self _ 0 _ _ _ f4 (loop _ rfl))
 rw[hC]at b3
 exact b3
theorem nF(T:H4 X own js N scope cl)(Y:X.xe=λ_ _=>False)(Z:X.calm=true)(hi:PI X tg iter wi)
  (h:∀ σ H,KF X.K H->Rel X G M σ H->∃ Ψ,wi σ H Ψ/\∀ J H1,Ψ J H1->F6 H H1/\CP X G own js N scope cl tg elt ifs σ (λq=>Q (.ref q)) J H1)
  (hs:∀ x,A9 iter X.env x=pure x):EV X G M (.ListComp elt [#v[tg,iter,ifs,0]] scope pos) Q:=by
 intro S s σ H I R
 rw[eval_ListComp]
 let ⟨Ψ,h1,h2⟩:=h σ H (dZ I) R
 refine pT T Y Z hi hs I h1 h2 λq M' C s3 H3 fp σ' H' s' f I3 f3 hC I6 g R'=>?_
 let ⟨V,L,_⟩:=I6.loc
 exact #v[V,L,λh' O=>#v[.ref q,H',.ref q,_,Inv.unblock I3 f3 I6 hC O,rfl,g,aH.mpr rfl,R',f]]
theorem CQ{Y:Cx}{G:Ga}{M:MH}{J:List Expr}{Q L:Bool->MH->Prop}(h:TVs Y G M J Q)(k:∀ k M',Q k M'->L k M'):TVs Y G M J L:=by
 unfold TVs at h ⊢
 split at h
 ·exact k _ _ h
 ·exact λpins s σ H I R=>thn (h pins s σ H I R) λb s' ⟨H',M',I',g,R',q⟩=>#v[H',M',I',g,R',k _ _ q]
 ·exact h
theorem xW{Y:Cx}{G:Ga}{M:MH}{tg:Expr}{d:D}{Q J:Ga->MH->Prop}(h:GV Y G M tg d Q)(k:∀ G' M',Q G' M'->J G' M'):GV Y G M tg d J :=
 λpins s σ H v u I R r i=>thn (h pins s σ H v u I R r i) λ_ s2 ⟨σ2,H2,G2,M2,I2,g2,R2,q⟩=>#v[σ2,H2,G2,M2,I2,g2,R2,k _ _ q]
theorem iV{M1:MH}{ds:List D}{ifs:List Expr}{f:D->D}{J:D->Bool}(hz:ds.length<=An)
  (block:∀ Y:Cx,(∃ C s H fp,Y=bR X N scope cl C s H fp)->∀ M',Ext M1 M'->∀ d∈ds,GV Y (aN own js G) M' tg d λG3 M3=>M3=M'/\Sub (aN own js G) G3/\TVs Y G3 M' ifs (λk M4=>M4=M'/\k=J d)/\(J d=true->EV Y G3 M' elt λo M4=>M4=M'/\o=f d)) :
  ∀ Y:Cx,(∃ C s H fp,Y=bR X N scope cl C s H fp)->∀ q i acc M' d,ds[i]?=some d->(M1 q=none/\M'=FF M1 q (.lst acc)/\acc=((ds.take i).filter J).map f)->M' q=some (.lst acc)->GV Y (aN own js G) M' tg d λG3 M3=>M3=M'/\Sub (aN own js G) G3/\TVs Y G3 M' ifs λk M4=>M4=M'/\if k=true then EV Y G3 M' elt λo M5=>M5 q=some (.lst acc)/\acc.length<An/\(M1 q=none/\FF M5 q (.lst (acc++[o]))=FF M1 q (.lst (acc++[o]))/\acc++[o]=((ds.take (i+1)).filter J).map f) else (M1 q=none/\M'=FF M1 q (.lst acc)/\acc=((ds.take (i+1)).filter J).map f):=by
 intro Y S q i acc M' d hd #v[L,O,I] V
 have Z:i<ds.length:=(Ax.mp hd).1
 have tk:(ds.take (i+1)).filter J=(ds.take i).filter J++(if J d then [d] else []):=take_succ_filter J ds i d hd
 have hl:acc.length<=i:=by
  rw[I,Ab]
  exact Ay (List.length_filter_le _ _) (by rw[Bt];lia)
 refine xW (block Y S M' (by rw[O];exact aB L) d (Bf hd)) λG3 M3 ⟨e1,e2,e3,e4⟩=>#v[e1,e2,CQ e3 λk M4 ⟨e5,e6⟩=>#v[e5,?_]]
 subst e6
 cases hp:J d with
 |true =>
  rw[if_pos rfl]
  refine (e4 hp).mono λo M5 ⟨e7,e8⟩=>?_
  subst e7;subst e8
  exists V,by lia,L,by rw[O,kS],?_
  rw[tk,hp,if_pos rfl,Ai,<- I];rfl
 |false =>
  rw[if_neg (by decide)]
  exists L,O,?_
  rw[tk,hp,if_neg (by decide),A7];exact I
theorem OG{J:It}{σ:St}{H1:Hp}{M1:MH}{ds:List D}{f:D->D}{pr:D->Bool}{F:Addr->MH->Prop}(R1:Rel X G M1 σ H1)(V:Walks X.K M1 J H1 ds)(hz:ds.length<=An)
  (block:∀ Y:Cx,(∃ C s H fp,Y=bR X N scope cl C s H fp)->∀ M',Ext M1 M'->∀ d∈ds,GV Y (aN own js G) M' tg d λG3 M3=>M3=M'/\Sub (aN own js G) G3/\TVs Y G3 M' ifs (λk M4=>M4=M'/\k=pr d)/\(pr d=true->EV Y G3 M' elt λo M4=>M4=M'/\o=f d))
  (b1:∀ q,M1 q=none->F q (FF M1 q (.lst ((ds.filter pr).map f)))):CP X G own js N scope cl tg elt ifs σ F J H1:=by
 exists M1,ds,λq i I S=>M1 q=none/\S=FF M1 q (.lst I)/\I=((ds.take i).filter pr).map f,R1,λq i I S H2 g2 Z O=>?_,λq hq=>#v[hq,rfl,by simp],iV hz block,λq I S ⟨h1,h2,h3⟩ _=>by rw[h2,h3,Bx];exact b1 q h1
 let ⟨a,b⟩:=V H2 g2 (Z.ext (by rw[O.2.1];exact aB O.1))
 exact #v[a i,λL=>#v[(b i L).1,λx H3 y=>let ⟨c,d,_,e⟩:=(b i L).2 x H3 y;#v[c,d,e]]]
theorem mG(T:H4 X own js N scope cl)(I:X.xe=λ_ _=>False)(L:X.calm=true)(O:PI X tg iter wi)(f:D->D)(p:D->Bool)
  (h:∀ σ H,KF X.K H->Rel X G M σ H->wi σ H λJ H1=>F6 H H1/\∃(M1:MH) (ds:List D),Rel X G M1 σ H1/\Walks X.K M1 J H1 ds/\ds.length<=An /\
   (∀ Y:Cx,(∃ C s H fp,Y=bR X N scope cl C s H fp)->∀ M',Ext M1 M'->∀ d∈ds,GV Y (aN own js G) M' tg d λG3 M3=>M3=M'/\Sub (aN own js G) G3/\TVs Y G3 M' ifs (λk M4=>M4=M'/\k=p d)/\(p d=true->EV Y G3 M' elt λo M4=>M4=M'/\o=f d)) /\
   ∀ q,M1 q=none->Q (.ref q) (FF M1 q (.lst ((ds.filter p).map f))))
  (hs:∀ x,A9 iter X.env x=pure x:=by intro _;rfl):EV X G M (.ListComp elt [#v[tg,iter,ifs,0]] scope pos) Q :=
 nF T I L O (λσ H kf R=>#v[_,h σ H kf R,λJ H1 ⟨g,M1,ds,R1,w,hz,b,fin⟩=>#v[g,OG R1 w hz b fin]]) hs
end
theorem tA(T:H4 X own js N scope cl)(b3:X.xe=λ_ _=>False)(hc:X.calm=true)(f:D->D)(p:D->Bool)
  (h:EV X G M iter λd M1=>∃ ds:List D,d=.tup ds/\ds.length<=An /\
   (∀ Y:Cx,(∃ C s H fp,Y=bR X N scope cl C s H fp)->∀ M',Ext M1 M'->∀ d∈ds,GV Y (aN own js G) M' tg d λG3 M3=>M3=M'/\Sub (aN own js G) G3/\TVs Y G3 M' ifs (λk M4=>M4=M'/\k=p d)/\(p d=true->EV Y G3 M' elt λo M4=>M4=M'/\o=f d)) /\
   ∀ q,M1 q=none->Q (.ref q) (FF M1 q (.lst ((ds.filter p).map f))))
  (hs:∀ x,A9 iter X.env x=pure x:=by intro _;rfl):EV X G M (.ListComp elt [#v[tg,iter,ifs,0]] scope pos) Q:=by
 refine mG T b3 hc (qV (fY (G:=G))) f p (λσ H kf R=>?_) hs
 exists M,_,R,h,λv H' d M' b1 g i V q=>?_
 let ⟨ds,e,Z,block,L⟩:=q
 subst e
 rw[bM]at i
 let ⟨l,xs,rfl,hx,I⟩:=i
 have S:=I.len
 exists l,rfl,#v[xs,SqT.of hx],g,M',ds,V,λH2 O m2=>?_,Z,block,L
 have J:SqT X.K H2 l xs:=SqT.of (O _ _ hx)
 exists λi e=>#v[xs,J,by lia],λi b2=>#v[#v[xs,xs[i]'(by lia),J,by simp],λx H3 y=>?_]
 let ⟨e,y⟩:=y
 subst e
 have e1:=y xs J
 let ⟨d,e2,i2⟩:=(I.grow O).get' e1
 exact #v[F6.refl _,λ_ _ z=>z,m2,d,e2,i2]
theorem dI(T:H4 X own js N scope cl)(b4:X.xe=λ_ _=>False)(hc:X.calm=true)(f:D->D)(p:D->Bool)
  (h:EV X G M iter λd M1=>∃(l:Addr) (ds:List D),d=.ref l/\(M1 l=some (.lst ds)\/M1 l=some (.ro ds))/\ds.length<=An /\
   (∀ Y:Cx,(∃ C s H fp,Y=bR X N scope cl C s H fp)->∀ M',Ext M1 M'->∀ d∈ds,GV Y (aN own js G) M' tg d λG3 M3=>M3=M'/\Sub (aN own js G) G3/\TVs Y G3 M' ifs (λk M4=>M4=M'/\k=p d)/\(p d=true->EV Y G3 M' elt λo M4=>M4=M'/\o=f d)) /\
   ∀ q,M1 q=none->Q (.ref q) (FF M1 q (.lst ((ds.filter p).map f))))
  (hs:∀ x,A9 iter X.env x=pure x:=by intro _;rfl):EV X G M (.ListComp elt [#v[tg,iter,ifs,0]] scope pos) Q:=by
 refine mG T b4 hc (qU (fY (G:=G))) f p (λσ H kf R=>?_) hs
 exists M,_,R,h,λv H' d M' b2 g i O q=>?_
 let ⟨l,ds,e,hl,hz,block,V⟩:=q
 subst e
 rw[aH]at i;subst i
 have sq:∀{L:Hp},F9 X.K M' L->∃ xs,SqL X.K L l xs/\IsL L ds xs:=λ{L} m=>by
  rcases hl with hl|hl
  ·let ⟨xs,h1,h2⟩:=m l _ hl;exact #v[xs,SqL.of h1,h2]
  ·exact m l _ hl
 let ⟨Z,S,_⟩:=sq O.mem
 exists l,rfl,#v[Z,S],g,M',ds,O,λL g2 m2=>?_,hz,block,V
 let ⟨xs,J,I⟩:=sq m2
 have b1:=I.len
 exists λi e=>#v[xs,J,by lia],λi b3=>#v[#v[xs,xs[i]'(by lia),J,by simp],λx H3 y=>?_]
 let ⟨e,y⟩:=y
 subst e
 have e1:=y xs J
 let ⟨d,e2,i2⟩:=I.get' e1
 exact #v[F6.refl _,λ_ _ z=>z,m2,d,e2,i2]
theorem cA(I:∀ x∈scope.names,x.2≠.free)(J:∀ x∈scope.names,x.2≠.cell)(hk:scope.kind=.function)(O:∀ x∈scope.names,x.2=.local->scope.names.lookup x.1=some .local)(hN:N=own):H4 X own [] N scope []:=by
 have L:(relabel scope X.env).names=scope.names:=by
  unfold relabel
  exact map_eq_self (l:=scope.names) λx hx=>by
   let ⟨n,k⟩:=x
   have:(k == NameKind.free)=false:=by simpa using I _ hx
   simp[this]
 exists closureFor_none I,hk,O,J,λx c e=>by simp at e,λx h=>?_,λk j e=>by simp at e,by rw[hN];rfl
 rw[L]at h
 rcases h with h|h
 ·exact absurd rfl (J _ (PySem.mem_of_lookup h))
 ·exact absurd rfl (I _ (PySem.mem_of_lookup h))
theorem tB(n:Int):Bu n=PySem.W.WData.weight (.int n):=by
 unfold Bu PySem.W.WData.weight
 rfl
theorem lQ:∀(ns:List Int) (k:Nat),PySem.W.WData.weightAll (ns.map PySem.W.WData.int)<=k->∀ n∈ns,Bu n<=k
 |[],_,_,n,I=>nomatch I
 |m::ns,k,h,n,I=>by
  rw[Au]at h
  have h':PySem.W.WData.weight (.int m)+1+PySem.W.WData.weightAll (ns.map PySem.W.WData.int)<=k:=by
   unfold PySem.W.WData.weightAll at h
   exact h
  rcases Am.mp I with e|I
  ·subst e
   rw[tB]
   lia
  ·exact lQ ns k (by lia) n I
theorem tE{ns:List Int}(h:PySem.W.WData.layableAll [PySem.W.WData.list (ns.map PySem.W.WData.int)]=true):∀ n∈ns,Bu n<=2097152:=by
 unfold PySem.W.WData.layableAll at h
 rw[Fs,Bl]at h
 have h1:=h.1
 unfold PySem.W.WData.layable at h1
 rw[Bl]at h1
 have h2:=of_decide_eq_true h1.2
 have I:PySem.W.WData.weightAll (ns.map PySem.W.WData.int)<=2^20:=by
  unfold PySem.W.WData.weight at h2
  exact h2
 intro n J
 have:=lQ ns _ I n J
 lia
open PySem.W PySem.Calls
theorem rF{l:PySem.W.OpenLaw}{d:DefRec}
  (hn:l.most=some n)(b4:d.params.defaults=[])
  (call:∀(w:World) (s₀ s₁:Shared) (mg mb:Str->Option Value) (fa:Addr) (o:Obj) (pm cd doc:Value) (a:Addr) (vs:List Value) (ns:List Int),
   Ground q loose [] XP w s₀ mg mb s₁.heap->YP w s₁.heap ->
   s₁.heap.get? fa=some o->o.data=.func (docDef d.name d.params d.body d.scope pm cd doc)->s₁.heap.CodeRec cd d.name->mg d.name=some (.ref fa) ->
   s₁.heap.get? a=some { cls:=.type "list",data:=.seq vs.toArray }->IntsAre vs ns->ns.length<=n->(∀ n∈ns,Bu n<=2097152)->s₁.gens=#[] ->
   codeAny (model l.prog w) callerA (.call (.ref fa) #v[[.ref a],[]]) (λr s'=>r=.ok (.ret (.bool true))/\OldK s₁.heap s'.heap/\s'.os=s₁.os/\AllBare s'.gens) s₁) :
  PySem.W.WalkO q loose XP YP l.row.toRowW d [] (λf vs=>PySem.call f vs):=by
 intro w s₀ s₁ mg mb G Y fa o pm cd doc dV kV ho hd b1 hD Z hg args b2 as S O b3 V b5
 obtain rfl:dV=.none:=Dflts.none hD b4
 obtain rfl:kV=.none:=Dflts.noKw hD
 let ⟨a,vs,ns,rfl,rfl,J,I,L⟩:=Att.zX hn S V
 refine enter_call (codeAny_mono (call w s₀ s₁ mg mb fa o pm cd doc a vs ns G Y ho (fd_plain hd) b1 Z J I L (tE O) hg) λr s' hq=>?_)
 let ⟨rfl,h2,h3,h4⟩:=hq
 exact #v[.inl #v[.bool true,.bool true,[],rfl,λ_=>rfl,.bool true,Att.zY l _,λ_=>#v[List.Pairwise.nil,λ_ hm=>(nomatch hm)]],h2,h3,h4]
def LX(sp:SpD):Prop:=∀(l:Addr) (ns:List Int) (M:MH) (Q:DK),M l=some (.ro (ns.map D.int))->ns.length<=63->(∀ n∈ns,Bu n<=2097152)->(∀ M',Q (.bl true) M')->sp [.ref l] M Q
theorem OH{l:PySem.W.OpenLaw}{k:Nat}{q:Program}{b4:List Str}{XP:(Str->Option Value)->Heap->Prop}{YP:World->Heap->Prop}{d:DefRec}{K:Params->Ad}{sp:SpD}{x:Str}
  (hn:l.most=some 63)(b1:d.params.defaults=[])(hr:Room k callerA)(hs:LX sp)
  (hY:∀(w:World) (h:Heap),YP w h->(K w.params).In h)
  (F:∀(w:World) (mg:Str->Option Value) (fa:Addr) (h:Heap),(K w.params).In h->h.Ns mainGlobals mg->mg d.name=some (.ref fa) ->
   ∃ fd:FuncData,(∀(s:Shared) (u:Value),BindsTo s fd #v[[u],[]] [(x,u)]) /\
    ∀ base:Heap,(K w.params).In base->base.Ns mainGlobals mg->F8 l.prog w (K w.params) mg base CX0 k fa fd [x] (aD (K w.params) sp)) :
  PySem.W.WalkO q b4 XP YP l.row.toRowW d [] (λf vs=>PySem.call f vs):=by
 refine rF hn b1 λw s₀ s₁ mg mb fa o pm cd b3 a vs ns G Y ho hd b2 S O J I L hg=>?_
 have V:=hY w _ Y
 let ⟨fd,Z,hF⟩:=F w mg fa _ V G.T.g S
 refine CD V G.T.g G.T.b G.T.builtins G.T.nolimit hg O J (Ay I (by decide)) hr hF Z (λH hO hS=>?_) λH e s' z=>z
 exists [.ref a],λb=>if b=a then some (.ro (ns.map D.int)) else none,λd M'=>d=.bl true,aG.mpr #v[.ref a,[],rfl,aH.mpr rfl,aV.mpr rfl],λb o e=>?_,hs a ns _ _ (if_pos rfl) I L (λ_=>rfl),λv H' d M' _ i _ e=>?_
 ·have e:(if b=a then some (MO.ro (ns.map D.int)) else none)=some o:=e
  by_cases z:b=a
  ·rw[if_pos z]at e
   cases e
   subst z
   exact #v[_,hS,IsL.ints]
  ·rw[if_neg z]at e;cases e
 ·subst e
  rw[bL]at i
  exact i
mutual
def pd:D->PyData
 |.non=>.none
 |.bl b=>.bool b
 |.int i=>.int i
 |.str x=>.str x
 |.ty _=>.none
 |.tup ds=>.tuple (pdL ds)
 |.ref _=>.none
def pdL:List D->List PyData
 |[]=>[]
 |d::ds=>pd d::pdL ds
end
mutual
def imm:D->Bool
 |.non=>true
 |.bl _=>true
 |.int _=>true
 |.str x=>PyData.strOk x
 |.ty _=>false
 |.tup ds=>eF ds
 |.ref _=>false
def eF:List D->Bool
 |[]=>true
 |d::ds=>imm d&&eF ds
end
section
variable {X:Cx}{pins:List (Addr×Obj)}{σ:St}{H:Hp}{s:Shared}
mutual
theorem nG(I:L2.Inv X pins σ H s):∀(d:D) (v:V) (u:Value),Is H d v->G5 v u->imm d=true->∃ as,Reads s.heap u (pd d) as
 |.non,v,u,i,r,_=>by
  rw[cJ]at i;subst i;cases r
  unfold pd;exact #v[_,.none]
 |.bl b,v,u,i,r,_=>by
  rw[bL]at i;subst i;cases r
  unfold pd;exact #v[_,.bool b]
 |.int b,v,u,i,r,_=>by
  rw[aM]at i;subst i;let ⟨t,rfl⟩:=r
  unfold pd;exact #v[_,.int b t]
 |.str b,v,u,i,r,_=>by
  rw[aR]at i;subst i;let ⟨t,rfl⟩:=r
  unfold pd;exact #v[_,.str b t]
 |.ty _,_,_,_,_,h=>by unfold imm at h;cases h
 |.ref _,_,_,_,_,h=>by unfold imm at h;cases h
 |.tup ds,v,u,i,r,h=>by
  rw[bM]at i
  let ⟨a,xs,rfl,h1,h2⟩:=i
  cases r
  unfold imm at h
  let ⟨_,J,S,o,L,O,n,hd⟩:=I.hok a _ h1
  let ⟨as,q⟩:=gP I ds xs J h2 S h
  unfold pd
  exact #v[as,.tuple L O hd (by simpa using q)]
theorem gP(I:L2.Inv X pins σ H s):∀(ds:List D) (vs:List V) (us:List Value),IsL H ds vs->Vals vs us->eF ds=true->∃ as,ReadsAll s.heap us (pdL ds) as
 |[],vs,us,i,r,_=>by
  rw[aV]at i;subst i;cases r
  unfold pdL;exact #v[_,.nil]
 |d::ds,vs,us,i,r,h=>by
  rw[aG]at i
  let ⟨x,xs,rfl,i1,i2⟩:=i
  unfold eF at h
  rw[Bl]at h
  cases r with
  |cons S L =>
   let ⟨as,O⟩:=nG I d x _ i1 S h.1
   let ⟨bs,J⟩:=gP I ds xs _ i2 L h.2
   unfold pdL
   exact #v[_,.cons O J]
end
mutual
theorem dR:∀ d:D,imm d=true->(pd d).canLay0=true
 |.non,_=>by simp only[pd,PyData.canLay0]
 |.bl _,_=>by simp only[pd,PyData.canLay0]
 |.int _,_=>by simp only[pd,PyData.canLay0]
 |.str x,h=>by
  unfold imm at h
  simp only[pd,PyData.canLay0];exact h
 |.ty _,h=>by unfold imm at h;cases h
 |.ref _,h=>by unfold imm at h;cases h
 |.tup ds,h=>by
  unfold imm at h
  simp only[pd,PyData.canLay0]
  exact eG ds h
theorem eG:∀ ds:List D,eF ds=true->PyData.canLayAll0 (pdL ds)=true
 |[],_=>by simp only[pdL,PyData.canLayAll0]
 |d::ds,h=>by
  unfold eF at h
  rw[Bl]at h
  simp only[pdL,PyData.canLayAll0,dR d h.1,eG ds h.2,Bool.and_self]
end
end
section
variable {X:Cx}{G:Ga}{M:MH}{a b e:Expr}{pos:Pos}{Q:DK}
theorem mH(hm:behindInMarks op b=false)
  (h:∀(pins:List (Addr×Obj)) (s:Shared) (σ:St) (H:Hp),L2.Inv X pins σ H s->Rel X G M σ H->wpAny (model X.prog X.w) X.A (eval a X.env) (λv s1=>wpAny (model X.prog X.w) X.A (eval b X.env) (λu s2=>wpAny (model X.prog X.w) X.A (compareOp op v u) (EPD X pins σ G H λd M'=>∃ k,d=.bl k/\Qb k M') X.xe s2) X.xe s1) X.xe s):TV X G M (.Compare a [op] [b] pos) Qb:=by
 intro pins s σ H I R
 refine wpAny_isTrue_Compare1 (thn (h pins s σ H I R) λv s1 h1=>thn h1 λu s2 h2=>thn h2 λw s3 ⟨z,H3,d,M3,I3,r3,g3,i3,R3,k,e,q⟩=>?_) hm
 subst e
 rw[bL]at i3;subst i3
 cases r3
 exact wpAny_truthy_bool #v[H3,M3,I3,g3,R3,q]
theorem IsL.set:∀{ds:List D} {vs:List V} (j:Nat) {d:D} {v:V},IsL H ds vs->Is H d v->IsL H (ds.set j d) (vs.set j v)
 |[],vs,j,d,v,h,_=>by rw[aV]at h;subst h;rw[List.set_nil,List.set_nil,aV]
 |d'::ds,vs,0,d,v,h,k=>by
  rw[aG]at h
  let ⟨x,r,rfl,h1,h2⟩:=h
  rw[List.set_cons_zero,List.set_cons_zero,aG]
  exact #v[v,r,rfl,k,h2]
 |d'::ds,vs,j+1,d,v,h,k=>by
  rw[aG]at h
  let ⟨x,r,rfl,h1,h2⟩:=h
  rw[List.set_cons_succ,List.set_cons_succ,aG]
  exact #v[x,r.set j v,rfl,h1,h2.set j k]
theorem CS:bootBuiltins "int"=some (.type "int"):=by lia
theorem IT{p:Pos}(hm:X.mg "int"=none)(h:AV X G M [e] λds M1=>(∃ i,ds=[.int i]/\Q (.int i) M1)\/∃ k:Bool,ds=[.bl k]/\Q (.int (if k then 1 else 0)) M1)(hg:Gl X "int":= by rfl)
  (he:SeX X e:=by rfl)(hpl:NpX X pos:=by rfl):EV X G M (.Call (.Name "int" p) [e] [] pos) Q :=
 dQ zR hm CS (h.mono λds M1 J=>λH xs L hx m=>by
  rcases J with ⟨i,rfl,q⟩|⟨k,rfl,q⟩
  ·let ⟨v,rfl,I⟩:=dF hx
   rw[aM]at I;subst I
   exact .inl #v[i,rfl,λ_=>#v[F6.refl _,_,M1,aM.mpr rfl,m,q]]
  ·let ⟨v,rfl,I⟩:=dF hx
   rw[bL]at I;subst I
   exact .inr #v[k,rfl,λ_=>#v[F6.refl _,_,M1,aM.mpr rfl,m,q]]) hg (by decide) (by decide) he hpl
end
def SubL(da db:D)(M:MH)(Q:DK):Prop:=match da,db with
 |.int i,.int j=>Q (.int (i-j)) M
 |_,_=>False
def MulL(da db:D)(M:MH)(Q:DK):Prop:=match da,db with
 |.int i,.int j=>IntMulOk i j/\Q (.int (i*j)) M
 |_,_=>False
def DivL(da db:D)(M:MH)(Q:DK):Prop:=match da,db with
 |.int i,.int j=>jL i j/\Q (.int (i.fdiv j)) M
 |_,_=>False
def ModL(da db:D)(M:MH)(Q:DK):Prop:=match da,db with
 |.int i,.int j=>j≠0/\Q (.int (i.fmod j)) M
 |_,_=>False
def PowL(da db:D)(M:MH)(Q:DK):Prop:=match da,db with
 |.int i,.int j=>zP i j/\Q (.int (i^j.toNat)) M
 |_,_=>False
def NegL(da:D)(M:MH)(Q:DK):Prop:=match da with
 |.int i=>Q (.int (-i)) M
 |_=>False
def CmpL(p:Int->Int->Bool)(da db:D)(M:MH)(Qb:Bool->MH->Prop):Prop:=match da,db with
 |.int i,.int j=>Qb (p i j) M
 |_,_=>False
def eqB(da db:D):Bool:=match da,db with
 |.int i,.int j=>decide (i=j)
 |.bl i,.bl j=>decide (i=j)
 |.str i,.str j=>decide (i=j)
 |_,_=>PyData.eqv (pd da) (pd db)
def SL(da db:D):Prop:=match da,db with
 |.int _,.int _=>True
 |.bl _,.bl _=>True
 |.str _,.str _=>True
 |_,_=>imm da=true/\imm db=true/\(pd da).depth<=60
def EqL(da db:D)(M:MH)(Qb:Bool->MH->Prop):Prop:=SL da db/\Qb (eqB da db) M
section
variable {X:Cx}{G:Ga}{M:MH}{a b c e:Expr}{es rest:List Expr}{pos:Pos}{Q:DK}{Qb:Bool->MH->Prop}{i j:Int}
theorem OI(q:Q (.int (i+j)) M):sW (.int i) (.int j) M Q:=q
theorem OJ(h:xs≠[])(z:xs.length+ys.length<=An)(q:Q (.tup (xs++ys)) M):sW (.tup xs) (.tup ys) M Q:=#v[h,z,q]
theorem gQ(h:M l=some (.lst xs))(h':M k=some (.lst ys))(z:xs.length+ys.length<=An)(q:∀ p,M p=none->Q (.ref p) (FF M p (.lst (xs++ys)))):sW (.ref l) (.ref k) M Q:=#v[xs,ys,h,h',z,q]
theorem SM(q:Q (.int (i-j)) M):SubL (.int i) (.int j) M Q:=q
theorem SN(c:IntMulOk i j)(q:Q (.int (i*j)) M):MulL (.int i) (.int j) M Q:=#v[c,q]
theorem SO(c:jL i j)(q:Q (.int (i.fdiv j)) M):DivL (.int i) (.int j) M Q:=#v[c,q]
theorem SQ(c:j≠0)(q:Q (.int (i.fmod j)) M):ModL (.int i) (.int j) M Q:=#v[c,q]
theorem pU(e:i^j.toNat=k)(c:zP i j)(q:Q (.int k) M):PowL (.int i) (.int j) M Q:=#v[c,by rw[e];exact q]
theorem SR(q:Q (.int (-i)) M):NegL (.int i) M Q:=q
theorem SS(q:Qb (p i j) M):CmpL p (.int i) (.int j) M Qb:=q
theorem ST(q:Qb (decide (i=j)) M):EqL (.int i) (.int j) M Qb:=#v[trivial,q]
theorem SU{i j:Bool}(q:Qb (decide (i=j)) M):EqL (.bl i) (.bl j) M Qb:=#v[trivial,q]
theorem SV{i j:Str}(q:Qb (decide (i=j)) M):EqL (.str i) (.str j) M Qb:=#v[trivial,q]
theorem SW(h:eF xs=true)(h':eF ys=true)(z:(pd (.tup xs)).depth<=60)(q:Qb (PyData.eqv (pd (.tup xs)) (pd (.tup ys))) M):EqL (.tup xs) (.tup ys) M Qb:=#v[#v[by unfold imm;exact h,by unfold imm;exact h',z],q]
theorem SX(e:atI ds i=some d)(q:Q d M):IxD (.tup ds) i M Q:=#v[d,e,q]
theorem SY(h:M l=some (.lst ds))(e:atI ds i=some d)(q:Q d M):IxD (.ref l) i M Q:=.inl #v[ds,d,h,e,q]
theorem SZ(h:M l=some (.ro ds))(e:atI ds i=some d)(q:Q d M):IxD (.ref l) i M Q:=.inr #v[ds,d,h,e,q]
theorem SubL.ex(h:SubL da db M Q):∃ i j,da=.int i/\db=.int j/\Q (.int (i-j)) M:=by
 unfold SubL at h;split at h
 ·exact #v[_,_,rfl,rfl,h]
 ·exact h.elim
theorem MulL.ex(h:MulL da db M Q):∃ i j,da=.int i/\db=.int j/\IntMulOk i j/\Q (.int (i*j)) M:=by
 unfold MulL at h;split at h
 ·exact #v[_,_,rfl,rfl,h]
 ·exact h.elim
theorem DivL.ex(h:DivL da db M Q):∃ i j,da=.int i/\db=.int j/\jL i j/\Q (.int (i.fdiv j)) M:=by
 unfold DivL at h;split at h
 ·exact #v[_,_,rfl,rfl,h]
 ·exact h.elim
theorem ModL.ex(h:ModL da db M Q):∃ i j,da=.int i/\db=.int j/\j≠0/\Q (.int (i.fmod j)) M:=by
 unfold ModL at h;split at h
 ·exact #v[_,_,rfl,rfl,h]
 ·exact h.elim
theorem PowL.ex(h:PowL da db M Q):∃ i j,da=.int i/\db=.int j/\zP i j/\Q (.int (i^j.toNat)) M:=by
 unfold PowL at h;split at h
 ·exact #v[_,_,rfl,rfl,h]
 ·exact h.elim
theorem NegL.ex(h:NegL da M Q):∃ i,da=.int i/\Q (.int (-i)) M:=by
 unfold NegL at h;split at h
 ·exact #v[_,rfl,h]
 ·exact h.elim
theorem CmpL.ex(h:CmpL p da db M Qb):∃ i j,da=.int i/\db=.int j/\Qb (p i j) M:=by
 unfold CmpL at h;split at h
 ·exact #v[_,_,rfl,rfl,h]
 ·exact h.elim
theorem TB(h:EV X G M a λda Ma=>EV X G Ma b λdb Mb=>SubL da db Mb Q):EV X G M (.BinOp a .Sub b pos) Q:=NV (h.mono λ_ _ h1=>h1.mono λ_ _ h2=>h2.ex)
theorem TC(h:EV X G M a λda Ma=>EV X G Ma b λdb Mb=>MulL da db Mb Q):EV X G M (.BinOp a .Mult b pos) Q:=NW (h.mono λ_ _ h1=>h1.mono λ_ _ h2=>h2.ex)
theorem OL(h:EV X G M a λda Ma=>EV X G Ma b λdb Mb=>DivL da db Mb Q):EV X G M (.BinOp a .FloorDiv b pos) Q:=II (h.mono λ_ _ h1=>h1.mono λ_ _ h2=>h2.ex)
theorem TD(h:EV X G M a λda Ma=>EV X G Ma b λdb Mb=>ModL da db Mb Q):EV X G M (.BinOp a .Mod b pos) Q:=NX (h.mono λ_ _ h1=>h1.mono λ_ _ h2=>h2.ex)
theorem TF(h:EV X G M a λda Ma=>EV X G Ma b λdb Mb=>PowL da db Mb Q):EV X G M (.BinOp a .Pow b pos) Q:=NY (h.mono λ_ _ h1=>h1.mono λ_ _ h2=>h2.ex)
theorem TG(h:EV X G M a λda Ma=>NegL da Ma Q):EV X G M (.UnaryOp .USub a pos) Q:=NZ (h.mono λ_ _ h1=>h1.ex)
theorem VT(h:EV X G M a λda Ma=>EV X G Ma b λdb Mb=>CmpL (λi j=>decide (i<j)) da db Mb λk M'=>Q (.bl k) M'):EV X G M (.Compare a [.Lt] [b] pos) Q:=RZ (h.mono λ_ _ h1=>h1.mono λ_ _ h2=>h2.ex)
theorem VU(h:EV X G M a λda Ma=>EV X G Ma b λdb Mb=>CmpL (λi j=>decide (i<=j)) da db Mb λk M'=>Q (.bl k) M'):EV X G M (.Compare a [.LtE] [b] pos) Q:=SA (h.mono λ_ _ h1=>h1.mono λ_ _ h2=>h2.ex)
theorem VV(h:EV X G M a λda Ma=>EV X G Ma b λdb Mb=>CmpL (λi j=>decide (j<i)) da db Mb λk M'=>Q (.bl k) M'):EV X G M (.Compare a [.Gt] [b] pos) Q:=SB (h.mono λ_ _ h1=>h1.mono λ_ _ h2=>h2.ex)
theorem TH(h:EV X G M a λda Ma=>EV X G Ma b λdb Mb=>CmpL (λi j=>decide (i<j)) da db Mb Qb):TV X G M (.Compare a [.Lt] [b] pos) Qb:=SD (h.mono λ_ _ h1=>h1.mono λ_ _ h2=>h2.ex)
theorem TJ(h:EV X G M a λda Ma=>EV X G Ma b λdb Mb=>CmpL (λi j=>decide (j<i)) da db Mb Qb):TV X G M (.Compare a [.Gt] [b] pos) Qb:=SE (h.mono λ_ _ h1=>h1.mono λ_ _ h2=>h2.ex)
theorem eqL_cases(h:EqL da db M Qb):(∃ k,EqD da db k/\Qb k M)\/(imm da=true/\imm db=true/\(pd da).depth<=60/\Qb (PyData.eqv (pd da) (pd db)) M):=by
 let ⟨h,q⟩:=h
 unfold SL at h
 unfold eqB at q
 split at h
 ·exact .inl #v[_,rfl,q]
 ·exact .inl #v[_,rfl,q]
 ·exact .inl #v[_,rfl,q]
 ·rename_i h1 h2 h3
  split at q
  ·exact absurd rfl (λz=>h1 _ _ rfl z)
  ·exact absurd rfl (λz=>h2 _ _ rfl z)
  ·exact absurd rfl (λz=>h3 _ _ rfl z)
  ·exact .inr #v[h.1,h.2.1,h.2.2,q]
theorem jO{neg:Bool}{op:CmpOp}(ho:op=if neg then .NotEq else .Eq)(hu:X.A.units+64<cLine){pins:List (Addr×Obj)}{σ:St}{H:Hp}{s:Shared}{Z db:D}{x y:V}{v u:Value}(I:L2.Inv X pins σ H s)(R:Rel X G M σ H)(i1:Is H Z x)(i2:Is H db y)(r1:G5 x v)(r2:G5 y u)
  (h:EqL Z db M λk M'=>Q (.bl (if neg then !k else k)) M'):wpAny (model X.prog X.w) X.A (compareOp op v u) (EPD X pins σ G H Q) X.xe s:=by
 subst ho
 rcases eqL_cases h with ⟨k,e1,q⟩|⟨L,O,hd,q⟩
 ·let ⟨h2,h3⟩:=IJ e1 i1 i2
  cases neg with
  |false =>
   refine thn (RH pins s σ H x y v u (λz J=>z=.bl (decide (x=y))/\J=H) I r1 r2 #v[h2,rfl,rfl]) λw s3 hw=>?_
   let ⟨z,J,S,Y,e3,e4⟩:=hw
   subst e3;subst e4
   exact #v[_,J,.bl k,M,S,Y,F6.refl _,bL.mpr (by rw[h3]),R,q]
  |true =>
   refine thn (RI pins s σ H x y v u (λz J=>z=.bl (!decide (x=y))/\J=H) I r1 r2 #v[h2,rfl,rfl]) λw s3 hw=>?_
   let ⟨z,J,S,Y,e3,e4⟩:=hw
   subst e3;subst e4
   exact #v[_,J,.bl (!k),M,S,Y,F6.refl _,bL.mpr (by rw[h3]),R,q]
 ·let ⟨as,ra⟩:=nG I Z x v i1 r1 L
  let ⟨bs,rb⟩:=nG I db y u i2 r2 O
  have b1:min (pd Z).depth (pd db).depth<=(pd Z).depth:=Nat.min_le_left _ _
  cases neg with
  |false=>exact PySem.SeqAt.compareEq_reads ra rb (dR _ L) (dR _ O) (by lia) #v[.bl _,H,.bl _,M,I,rfl,F6.refl _,bL.mpr rfl,R,q]
  |true=>exact PySem.SeqAt.compareNe_reads ra rb (dR _ L) (dR _ O) (by lia) #v[.bl _,H,.bl _,M,I,rfl,F6.refl _,bL.mpr rfl,R,q]
theorem TK(L:X.A.units+64<cLine)(h:EV X G M a λda Ma=>EV X G Ma b λdb Mb=>EqL da db Mb λk M'=>Q (.bl k) M'):EV X G M (.Compare a [.Eq] [b] pos) Q:=by
 intro J s σ H I R
 refine wpAny_Compare1 ?_ (cZ _)
 refine thn (h J s σ H I R) λv s1 ⟨x,H1,da,Ma,I1,r1,g1,i1,R1,q1⟩=>?_
 refine thn (q1 J s1 σ H1 I1 R1) λu s2 ⟨y,H2,db,Mb,I2,r2,g2,i2,R2,q⟩=>?_
 exact thn (jO (neg:=false) rfl L I2 R2 (Is.grow g2 _ _ i1) i2 r1 r2 q) λ_ _ h=>h.grow (g1.trans g2)
theorem VW(L:X.A.units+64<cLine)(h:EV X G M a λda Ma=>EV X G Ma b λdb Mb=>EqL da db Mb λk M'=>Q (.bl (!k)) M'):EV X G M (.Compare a [.NotEq] [b] pos) Q:=by
 intro J s σ H I R
 refine wpAny_Compare1 ?_ (cZ _)
 refine thn (h J s σ H I R) λv s1 ⟨x,H1,da,Ma,I1,r1,g1,i1,R1,q1⟩=>?_
 refine thn (q1 J s1 σ H1 I1 R1) λu s2 ⟨y,H2,db,Mb,I2,r2,g2,i2,R2,q⟩=>?_
 exact thn (jO (neg:=true) rfl L I2 R2 (Is.grow g2 _ _ i1) i2 r1 r2 q) λ_ _ h=>h.grow (g1.trans g2)
theorem TL(J:X.A.units+64<cLine)(h:EV X G M a λda Ma=>EV X G Ma b λdb Mb=>EqL da db Mb Qb):TV X G M (.Compare a [.Eq] [b] pos) Qb:=by
 refine mH (cZ _) λpins s σ H I R=>?_
 refine thn (h pins s σ H I R) λv s1 ⟨x,H1,da,Ma,I1,r1,g1,i1,R1,q1⟩=>?_
 refine thn (q1 pins s1 σ H1 I1 R1) λu s2 ⟨y,H2,db,Mb,I2,r2,g2,i2,R2,q⟩=>?_
 exact thn (jO (neg:=false) rfl J I2 R2 (Is.grow g2 _ _ i1) i2 r1 r2 (Q:=λd M'=>∃ k,d=.bl k/\Qb k M') #v[q.1,_,rfl,q.2]) λ_ _ h=>h.grow (g1.trans g2)
theorem TM(J:X.A.units+64<cLine)(h:EV X G M a λda Ma=>EV X G Ma b λdb Mb=>EqL da db Mb λk M'=>Qb (!k) M'):TV X G M (.Compare a [.NotEq] [b] pos) Qb:=by
 refine mH (cZ _) λpins s σ H I R=>?_
 refine thn (h pins s σ H I R) λv s1 ⟨x,H1,da,Ma,I1,r1,g1,i1,R1,q1⟩=>?_
 refine thn (q1 pins s1 σ H1 I1 R1) λu s2 ⟨y,H2,db,Mb,I2,r2,g2,i2,R2,q⟩=>?_
 exact thn (jO (neg:=true) rfl J I2 R2 (Is.grow g2 _ _ i1) i2 r1 r2 (Q:=λd M'=>∃ k,d=.bl k/\Qb k M') #v[q.1,_,rfl,q.2]) λ_ _ h=>h.grow (g1.trans g2)
theorem IU(h:EV X G M (.Call f es kws pos) λd M'=>∃ k,AC X.K d M' k/\Qb k M')(he:∀ whole,isTrue (.Call f es kws pos) X.env whole=(do let v <- whole;standAt (Expr.Call f es kws pos).pos;holding [v] (truthy v)):=by intro _;rfl):TV X G M (.Call f es kws pos) Qb:=xR h he
theorem CT{j k:Nat}{x:Str}{p:Pos}{sp:SpD}(C:Cal X.prog X.w X.K X.mg X.base j x sp)(hr:Room k X.A)(hk:j<=k)(h:AV X G M (e::es) λds M1=>sp ds M1 Q)(hg:Gl X x:=by rfl)(hdb:(x == ("__debug__":Str))=false:=by decide)
  (he:A0 (e::es) X.env=(false,eval e X.env)::A0 es X.env:=by rfl)(hpl:(backTo pos (A0 es X.env)).any (·.1)=false:=by rfl):EV X G M (.Call (.Name x p) (e::es) [] pos) Q:=IP (C.mono hk) hr h hg hdb he hpl
theorem cW(h:Qb true M):TVs X G M [] Qb:=h
theorem bS{st:Stmt}{sts:List Stmt}{E:EndsD}(J:Ga->MH->Prop)(h:EX X G M st { E with nx:=J })(k:∀ G' M',J G' M'->EXs X G' M' sts E):EXs X G M (st::sts) E:=by
 refine aA ?_
 intro L s σ H I R
 refine thn (h L s σ H I R) λf V q=>?_
 cases f with
 |next=>let ⟨σ',H',G',M',S,g',O,q⟩:=q;exact #v[σ',H',G',M',S,g',O,k _ _ q]
 |ret v=>exact q
 |brk=>exact q
 |cont=>exact q
theorem ifD{c A B:Prop}[Decidable c](h1:c->A)(h2:¬ c->B):if decide c=true then A else B:=by
 by_cases h:c
 ·rw[if_pos (decide_eq_true h)];exact h1 h
 ·rw[if_neg (by simp[h])];exact h2 h
theorem ifN{c A B:Prop}[Decidable c](h1:¬ c->A)(h2:c->B):if (!decide c)=true then A else B:=by
 by_cases h:c
 ·rw[if_neg (by simp[h])];exact h2 h
 ·rw[if_pos (by simp[h])];exact h1 h
theorem ifT{A B:Prop}(h:A):if true=true then A else B:=by rw[if_pos rfl];exact h
theorem ifF{A B:Prop}(h:B):if false=true then A else B:=by rw[if_neg (by decide)];exact h
theorem OM{A B:Prop}(h:B):if (!true)=true then A else B:=by rw[if_neg (by decide)];exact h
theorem VX{A B:Prop}(h:A):if (!false)=true then A else B:=by rw[if_pos (by decide)];exact h
theorem cF{c A B:Prop}[Decidable c](h:c)(a:A):if decide c=true then A else B:=by rw[if_pos (decide_eq_true h)];exact a
theorem bZ{c A B:Prop}[Decidable c](h:¬ c)(b:B):if decide c=true then A else B:=by rw[if_neg (by simp[h])];exact b
theorem ON{c A B:Prop}[Decidable c](h:¬ c)(a:A):if (!decide c)=true then A else B:=by rw[if_pos (by simp[h])];exact a
theorem VY{c A B:Prop}[Decidable c](h:c)(b:B):if (!decide c)=true then A else B:=by rw[if_neg (by simp[h])];exact b
end
def lkD:List (Str×D)->Str->Option D
 |[],_=>none
 |(x,d)::r,k=>if x=k then some d else lkD r k
def CU(kvs:List (Str×D))(k:Str)(d:D):List (Str×D) :=
 if (kvs.any λkv=>decide (kv.1=k))=true then kvs.map (λkv=>if kv.1=k then (kv.1,d) else kv) else kvs++[(k,d)]
theorem CV(x:Str)(d:D)(r:List (Str×D))(k:Str):lkD ((x,d)::r) k=if x=k then some d else lkD r k:=rfl
theorem KvIs.len:∀{kvs:List (Str×D)} {ys:List (Key×V)},KvIs H kvs ys->kvs.length=ys.length
 |[],ys,h=>by rw[show ys=[] from h];rfl
 |(k,d)::r,ys,h=>by
  let ⟨v,I,rfl,_,h2⟩:=h
  rw[Ah,Ah,KvIs.len h2]
theorem KvIs.val{H:Hp}:∀{kvs:List (Str×D)} {ys:List (Key×V)} (k:Str),KvIs H kvs ys->match lkD kvs k with
  |some d=>∃ v,gO ys (Sum.inr k)=some v/\Is H d v
  |none=>gO ys (Sum.inr k)=none
 |[],ys,k,h=>by rw[show ys=[] from h];exact CF
 |(x,d)::r,ys,k,h=>by
  let ⟨v,J,rfl,h1,h2⟩:=h
  have L:=KvIs.val k h2
  rw[CV]
  by_cases e:x=k
  ·rw[if_pos e]
   exact #v[v,jJ (by rw[e]),h1]
  ·rw[if_neg e]
   have I:¬ (Sum.inr x:Key)=Sum.inr k:=λz=>e (Sum.inr.inj z)
   rw[jK (p:=(Sum.inr x,v)) I]
   exact L
theorem KvIs.get(h:KvIs H kvs ys)(e:lkD kvs k=some d):∃ v,gO ys (Sum.inr k)=some v/\Is H d v:=by
 have:=h.val k;rw[e]at this;exact this
theorem KvIs.some_eq(h:KvIs H kvs ys)(k:Str):(gO ys (Sum.inr k)).isSome=(lkD kvs k).isSome:=by
 have:=h.val k
 cases e:lkD kvs k with
 |none=>rw[e]at this;rw[show gO ys (Sum.inr k)=none from this];rfl
 |some d=>rw[e]at this;let ⟨v,h1,_⟩:=this;rw[h1];rfl
theorem KvIs.any{H:Hp}{k:Str}:∀{kvs:List (Str×D)} {ys:List (Key×V)},KvIs H kvs ys->(kvs.any λkv=>decide (kv.1=k))=ys.any λkv=>decide (kv.1=Sum.inr k)
 |[],ys,h=>by rw[show ys=[] from h];rfl
 |(x,d)::r,ys,h=>by
  let ⟨v,I,rfl,h1,h2⟩:=h
  rw[Dj,Dj,KvIs.any h2,BN]
theorem KvIs.repl{H:Hp}{k:Str}{d:D}{v:V}(i:Is H d v):∀{kvs:List (Str×D)} {ys:List (Key×V)},KvIs H kvs ys ->
  KvIs H (kvs.map λkv=>if kv.1=k then (kv.1,d) else kv) (ys.map λkv=>if kv.1=Sum.inr k then (kv.1,v) else kv)
 |[],ys,h=>by rw[show ys=[] from h];rfl
 |(x,e)::r,ys,h=>by
  let ⟨u,J,rfl,h1,h2⟩:=h
  have I:=KvIs.repl (k:=k) i h2
  rw[Au,Au]
  by_cases z:x=k
  ·rw[if_pos z,if_pos (by rw[z])]
   exact #v[v,_,rfl,i,I]
  ·rw[if_neg z,if_neg (λq=>z (Sum.inr.inj q))]
   exact #v[u,_,rfl,h1,I]
theorem KvIs.snoc(i:Is H d v):∀{kvs:List (Str×D)} {ys:List (Key×V)},KvIs H kvs ys->KvIs H (kvs++[(k,d)]) (ys++[(Sum.inr k,v)])
 |[],ys,h=>by rw[show ys=[] from h];exact #v[v,[],rfl,i,rfl]
 |(x,e)::r,ys,h=>by
  let ⟨u,I,rfl,h1,h2⟩:=h
  exact #v[u,_,rfl,h1,KvIs.snoc i h2]
theorem KvIs.put{H:Hp}{k:Str}{d:D}{v:V}(i:Is H d v){I:List (Str×D)}{ys:List (Key×V)}(h:KvIs H I ys):KvIs H (CU I k d) (jI ys (Sum.inr k) v):=by
 unfold CU jI
 rw[h.any]
 split
 ·exact h.repl i
 ·exact h.snoc i
section
variable {X:Cx}{G:Ga}{M:MH}{a b c e o i:Expr}{es rest:List Expr}{pos:Pos}{Q:DK}{Qb:Bool->MH->Prop}
def IxA(da db:D)(M:MH)(Q:DK):Prop:=match db with
 |.int i=>match da with
  |.str z=>∃ c,z.length<=An/\atI z.cps.toList i=some c/\Q (.str #v[#[c]]) M
  |_=>IxD da i M Q
 |.str k=>∃ p kvs d,da=.ref p/\M p=some (.dic kvs)/\lkD kvs k=some d/\Q d M
 |_=>False
theorem CW(e:atI ds j=some d)(q:Q d M):IxA (.tup ds) (.int j) M Q:=SX e q
theorem aF(h:M l=some (.lst ds))(e:atI ds j=some d)(q:Q d M):IxA (.ref l) (.int j) M Q:=SY h e q
theorem TN(h:M l=some (.ro ds))(e:atI ds j=some d)(q:Q d M):IxA (.ref l) (.int j) M Q:=SZ h e q
theorem LY{z:Str}{j:Int}{c:Nat}(h:z.length<=An)(e:atI z.cps.toList j=some c)(q:Q (.str #v[#[c]]) M):IxA (.str z) (.int j) M Q:=#v[c,h,e,q]
theorem IV(hu:X.A.units+1<cLine):IxR X (λx y H Q=>∃ a v,x=.ref a/\DGet H a y (some v)/\Q v H):=by
 intro J slice O s σ H x y v u Q I V S h hs
 let ⟨a,z,rfl,g,q⟩:=h
 cases V
 exact tail_any (sU I g) PySem.F.slot_dict_getitem.lookup (AA hu I g S λw' Z Y L=>#v[z,H,Y,L,q]) hs
theorem OO(h:IxA da db M Q):RD X.K (λx y H Q=>rIx X.K x y H Q\/∃ a v,x=.ref a/\DGet H a y (some v)/\Q v H) da db M Q:=by
 intro H x y I hx hy m
 unfold IxA at h
 cases db with
 |int i =>
  cases da with
  |str z =>
   let ⟨c,h1,h2,q⟩:=h
   rw[aM]at hy;subst hy
   rw[aR]at hx;subst hx
   exact .inl (.inr (.inr #v[z,i,c,rfl,rfl,h1,h2,λ_=>#v[F6.refl _,_,M,aR.mpr rfl,m,q]]))
  |non=>exact h.elim
  |bl _=>exact h.elim
  |int _=>exact h.elim
  |ty _=>exact h.elim
  |tup ds=>exact .inl (LW (X:=X) h H x y I hx hy m)
  |ref l=>exact .inl (LW (X:=X) h H x y I hx hy m)
 |str k =>
  let ⟨p,J,d,rfl,h1,h2,q⟩:=h
  rw[aH]at hx;subst hx
  rw[aR]at hy;subst hy
  let ⟨ys,e1,e2⟩:=m p _ h1
  let ⟨v,e3,e4⟩:=e2.get h2
  exact .inr #v[p,v,rfl,by rw[<- e3];exact DGet.k (k:=Sum.inr k) e1,λ_=>#v[F6.refl _,d,M,e4,m,q]]
 |non=>exact h.elim
 |bl _=>exact h.elim
 |ty _=>exact h.elim
 |tup _=>exact h.elim
 |ref _=>exact h.elim
theorem kT(I:X.A.units+64<cLine)(h:EV X G M a λda Ma=>EV X G Ma b λdb Mb=>IxA da db Mb Q)(hs:qY b):EV X G M (.Subscript a b pos) Q :=
 LV (NG.or (IV (by lia))) hs (h.mono λ_ _ h1=>h1.mono λ_ _ q=>OO q)
def SetL(d1 d2 d:D)(M:MH)(Qm:MH->Prop):Prop:=match d1,d2 with
 |.ref p,.int k=>∃ ds j,M p=some (.lst ds)/\ixN ds.length k=some j/\Qm (FF M p (.lst (ds.set j d)))
 |.ref p,.str k=>∃ kvs,M p=some (.dic kvs)/\kvs.length<An/\Qm (FF M p (.dic (CU kvs k d)))
 |_,_=>False
theorem dJ(h:M p=some (.lst ds))(e:ixN ds.length k=some j)(q:Qm (FF M p (.lst (ds.set j d)))):SetL (.ref p) (.int k) d M Qm:=#v[ds,j,h,e,q]
theorem SetL.cases(h:SetL d1 d2 d M Qm):(∃ p k ds j,d1=.ref p/\d2=.int k/\M p=some (.lst ds)/\ixN ds.length k=some j/\Qm (FF M p (.lst (ds.set j d))))\/∃ p k kvs,d1=.ref p/\d2=.str k/\M p=some (.dic kvs)/\kvs.length<An/\Qm (FF M p (.dic (CU kvs k d))):=by
 unfold SetL at h
 split at h
 ·let ⟨ds,j,h1,h2,I⟩:=h
  exact .inl #v[_,_,ds,j,rfl,rfl,h1,h2,I]
 ·let ⟨kvs,h1,h2,I⟩:=h
  exact .inr #v[_,_,kvs,rfl,rfl,h1,h2,I]
 ·exact h.elim
theorem OP(hu:X.A.units+64<cLine)(h:EV X G M o λd1 M1=>EV X G M1 i λd2 M2=>SetL d1 d2 d M2 λM3=>Qg G M3)
  (ha:∀ v,assign (.Subscript o i pos) X.env v=(do
   let ov <- holding [v] (eval o X.env)
   let iv <- holding [v,ov] (eval i X.env)
   standAt pos
   holding [v,ov,iv] (setItem ov iv v)
   release [v,ov,iv] [])):GV X G M (.Subscript o i pos) d Qg:=by
 intro L s σ H v u I R r iv
 rw[ha]
 refine Ac (wpAny_holding (thn (h L s σ H I R) λov s1 ⟨x,H1,d1,M1,I1,r1,g1,i1,R1,q1⟩=>?_))
 refine Ac (wpAny_holding (thn (q1 L s1 σ H1 I1 R1) λiv' s2 ⟨y,H2,d2,M2,I2,r2,g2,i2,R2,q2⟩=>?_))
 rcases SetL.cases q2 with ⟨p,k,ds,j,rfl,rfl,V,hj,q⟩|⟨p,k,Z,rfl,rfl,V,hz,q⟩
 ·skip
  rw[aH]at i1;subst i1
  rw[aM]at i2;subst i2
  let ⟨xs,hx,J⟩:=R2.mem p _ V
  have S:∀ ys,H2 p≠some (.tup ys):=λys z=>by rw[hx]at z;cases z
  have O:F6 H2 (upd H2 p (.lst (xs.set j v))):=cH S
  refine Ac (Dl (Ac (wpAny_holding (thn (BY L s2 σ H2 (.ref p) (.int k) v ov iv' u (λH'=>H'=upd H2 p (.lst (xs.set j v))) I2 r1 r2 r #v[p,xs,k,j,rfl,rfl,hx,by rw[<- J.len];exact hj,rfl]) λ_ s3 ⟨H3,Y,e3⟩=>?_))))
  subst e3
  refine wpAny_release #v[σ,_,G,_,Y,(g1.trans g2).trans O,R2.to O (R2.mem.put (u:=.lst (ds.set j d)) S #v[_,aI,(J.grow O).set j (Is.grow ((g1.trans g2).trans O) _ _ iv)]),q]
 ·skip
  rw[aH]at i1;subst i1
  rw[aR]at i2;subst i2
  let ⟨ys,hx,J⟩:=R2.mem p _ V
  cases r1
  have S:∀ zs,H2 p≠some (.tup zs):=λzs z=>by rw[hx]at z;cases z
  have O:F6 H2 (upd H2 p (.dK (jI ys (Sum.inr k) v))):=cH S
  refine Ac (Dl (Ac (wpAny_holding (AB (by lia) I2 (DPut.k (k:=Sum.inr k) hx (by rw[<- J.len];exact hz)) r2 r λs3 Y=>?_))))
  refine wpAny_release #v[σ,_,G,_,Y,(g1.trans g2).trans O,R2.to O (R2.mem.put (u:=.dic (CU Z k d)) S #v[_,aI,(J.grow O).put (Is.grow ((g1.trans g2).trans O) _ _ iv)]),q]
end
end D3
namespace K01
theorem cX{a b:Int}(I:0<b):0<=a.fmod b/\a.fmod b<b:=by
 rw[D1 a (Int.le_of_lt I)]
 exact #v[Int.emod_nonneg _ (by lia),Int.emod_lt_of_pos _ I]
def dv(t b:Int):Int:=if b<0 then -((Int.gcd t b:Nat):Int) else ((Int.gcd t b:Nat):Int)
def tp(t b:Int):Int:=t.fdiv (dv t b)
def bt(t b:Int):Int:=b.fdiv (dv t b)
theorem log2_lt(hk:0<k)(h:n<2^k):n.log2<k:=by
 rcases Nat.eq_zero_or_pos n with J|I
 ·rw[J,Nat.log2_zero];exact hk
 ·exact (Nat.log2_lt (Ds I)).mpr h
end K01
namespace KA
open PySem PySem.Spec PyProof.Rows L2 D3 K01
def Lim(x:Int):Prop:=x.natAbs<2^8000
def Cell(c:Int):Prop:=Bu c<=2097152
abbrev fr(t b:Int):D:=.tup [.int t,.int b]
def B(n:Nat)(x:Int):Prop:=x.natAbs<2^n
theorem rG(h:x.natAbs<2^n):Bu x<=n:=by
 unfold Bu
 split
 ·exact Cr _
 ·rename_i hx
  have:x.natAbs≠0:=by intro z;apply hx;simp;lia
  have:=(Nat.log2_lt this).mpr h
  lia
theorem OQ(hx:Bu x<=m)(hy:Bu y<=n)(h:m+n<=134217728):IntMulOk x y:=by
 unfold IntMulOk
 intro z
 rw[Bl]at z
 have z2:=z.2
 unfold Builtin.Int.intTooBig at z2
 rw[bitsLine_eq]at z2
 have:=of_decide_eq_true z2
 lia
theorem Lim.div(I:y≠0)(hy:Lim y):jL x y:=#v[I,Nat.lt_trans (log2_lt (by decide) hy) (by decide)]
theorem B.mulOk(hx:B m x)(hy:B n y)(h:m+n<=134217728):IntMulOk x y:=OQ (rG hx) (rG hy) h
theorem B.mul(hx:B m x)(hy:B n y):B (m+n) (x*y):=by
 unfold B
 rw[Int.natAbs_mul,Nat.pow_add]
 exact Nat.mul_lt_mul'' hx hy
theorem B.up(h:m<=n)(hx:B m x):B n x:=Aw hx (Nat.pow_le_pow_right (by decide) h)
theorem B.add(hx:B m x)(hy:B m y):B (m+1) (x+y):=by
 unfold B at *
 rw[Nat.pow_succ]
 have:=Int.natAbs_add_le x y
 lia
theorem B.lim(hx:B m x)(h:m<=8000):Lim x:=B.up (n:=8000) h hx
theorem CY(a:Int):(if a<0 then -a else a)=(a.natAbs:Int):=by split<;>lia
theorem small(h:n<=1000):n<=An:=Em (aT h)
theorem Ext.refl(M:MH):Ext M M:=λ_ _ h=>h
theorem Ext.trans{M I J:MH}(a:Ext M I)(b:Ext I J):Ext M J:=λx o h=>b x o (a x o h)
def At(K:Ad)(x:Str)(st:Stmt):Prop:=∃(f:Addr) (od an:Option Addr) (sl:Array (Option Value)) (oc kV dc pm cd ct:Value),Bn K mainGlobals x=some (some (.ref f))/\K.lookup f=some #v[oc,od,.func (C1 x x (eR st) (cI st) (aZ st) .none kV dc pm an cd ct),sl]/\Dd K cd x=true/\B1 K (.ref f)=true
theorem At.mk{K:Ad}{x:Str}{st:Stmt}{f:Addr}{L V:Option Addr}{Y:Array (Option Value)}{S O J I cd ct:Value}(a:Bn K mainGlobals x=some (some (.ref f)))(l:K.lookup f=some #v[S,L,.func (C1 x x (eR st) (cI st) (aZ st) .none O J I V cd ct),Y])
  (c:Dd K cd x=true)(k:B1 K (.ref f)=true):At K x st:=#v[f,L,V,Y,S,O,J,I,cd,ct,a,l,c,k]
theorem At.get{K:Ad}{x:Str}{st:Stmt}{h:Heap}{mg:Str->Option Value}(A:At K x st)(X:K.In h)(G:h.Ns mainGlobals mg):∃ f fd,Fun K x x st f fd/\mg x=some (.ref f):=by
 let ⟨f,L,V,Y,S,O,J,I,cd,ct,a,l,c,k⟩:=A
 exact #v[f,_,vP (st:=st) l c k,Dw X G a]
theorem xX(h:y∣x*b)(g:Int.gcd x y=1):y∣b:=by
 have h1:y.natAbs∣x.natAbs*b.natAbs:=by rw[<- Int.natAbs_mul];exact Int.natAbs_dvd_natAbs.mpr h
 have h2:Nat.Coprime y.natAbs x.natAbs:=by
  show Nat.gcd _ _=1
  rw[Nat.gcd_comm];exact g
 exact Int.natAbs_dvd_natAbs.mp (h2.dvd_of_dvd_mul_left h1)
theorem VZ(hy:0<y)(I:0<b)(h1:Int.gcd x y=1)(h2:Int.gcd a b=1)(h:x*b=a*y):x=a/\y=b:=by
 have d1:y∣b:=by
  have:y∣x*b:=by rw[h];exact Int.dvd_mul_left _ _
  exact xX this h1
 have d2:b∣y:=by
  have:b∣a*y:=by rw[<- h];exact Int.dvd_mul_left _ _
  exact xX this h2
 have e:y=b:=Int.le_antisymm (Int.le_of_dvd I d1) (Int.le_of_dvd hy d2)
 subst e
 exact #v[Int.eq_of_mul_eq_mul_right (by lia) h,rfl]
class Bd(x:Int)(n:outParam Nat):Prop where
 h:x.natAbs<2^n
theorem Bd.b(i:Bd x n):B n x:=i.h
instance bd_mul{x y:Int}{m n:Nat}[i:Bd x m][j:Bd y n]:Bd (x*y) (m+n):=#v[B.mul i.h j.h]
instance bd_add{x y:Int}{m n:Nat}[i:Bd x m][j:Bd y n]:Bd (x+y) (max m n+1):=#v[B.add (B.up (Nat.le_max_left ..) i.h) (B.up (Nat.le_max_right ..) j.h)]
instance (priority:=low) bd_any{x:Int}:Bd x (x.natAbs.log2+1):=#v[Nat.lt_log2_self]
theorem CZ(x y:Int):(x.fdiv y).natAbs<=x.natAbs:=Int.natAbs_fdiv_le_natAbs x y
instance bd_fdiv{x y:Int}{m:Nat}[i:Bd x m]:Bd (x.fdiv y) m:=#v[Nat.lt_of_le_of_lt (CZ x y) i.h]
theorem mulOk[i:Bd x m][j:Bd y n](h:m+n<=134217728:=by first|lia|lia):IntMulOk x y:=B.mulOk i.h j.h h
theorem lim[i:Bd x m](h:m<=8000:=by first|lia|lia):Lim x:=B.lim i.h h
theorem DA[i:Bd y m](I:y≠0)(h:m<=8000:=by first|lia|lia):jL x y:=Lim.div I (lim h)
theorem Bd.up'(i:Bd x m)(h:m<=n):Bd x n:=#v[B.up h i.h]
theorem Bd.rng(h1:-((2:Int)^n)<x)(h2:x<2^n):Bd x n:=#v[by
 have e:((2^n:Nat):Int)=(2:Int)^n:=by rw[Int.natCast_pow];rfl
 rw[<- e]at h1 h2
 lia]
theorem Cell.bd(h:Cell c):Bd c 2097152:=#v[by
 have h:Bu c<=2097152:=h
 by_cases z:c.natAbs=0
 ·rw[z];exact Nat.pow_pos (by decide)
 ·have e:Bu c=c.natAbs.log2+1:=by
   unfold Bu
   rw[if_neg (by simp;lia)]
  rw[e]at h
  exact Aw Nat.lt_log2_self (Nat.pow_le_pow_right (by decide) h)]
theorem Cell.of[i:Bd c n](h:n<=2097152:=by first|lia|lia):Cell c:=Ay (rG i.h) h
def Kp(S:List Addr)(M M':MH):Prop:=∀ b o,b∉S->M b=some o->M' b=some o
theorem Kp.refl(S:List Addr)(M:MH):Kp S M M:=λ_ _ _ h=>h
theorem Kp.trans{S:List Addr}{M I J:MH}(a:Kp S M I)(b:Kp S I J):Kp S M J:=λx o h e=>b x o h (a x o h e)
theorem Kp.mono{S J:List Addr}{M I:MH}(h:∀ x∈S,x∈J)(a:Kp S M I):Kp J M I:=λx o n e=>a x o (λz=>n (h x z)) e
theorem Kp.ext{S:List Addr}{M I:MH}(a:Ext M I):Kp S M I:=λx o _ e=>a x o e
theorem Kp.new(h:M p=none):Kp S M (FF M p o):=Kp.ext (aB h)
theorem Kp.put{S:List Addr}{M:MH}{p:Addr}{o:MO}(h:p∈S):Kp S M (FF M p o):=λx u n e=>by
 have hx:x≠p:=by intro z;subst z;exact n h
 rw[aC hx];exact e
theorem Kp.at(a:Kp S M M')(e:M b=some o)(n:b∉S):M' b=some o:=a b o n e
theorem aU{M:MH}{p q:Addr}{o:MO}(h:M q=some o)(n:M p=none):q≠p:=λz=>by rw[z,n]at h;cases h
def Pu(M:MH)(p:Addr):Prop:=∃ a b:Int,M p=some (.lst [.int a,.int b])/\0<=a/\0<=b
theorem Pu.kp(h:Pu M p)(k:Kp S M M')(n:p∉S):Pu M' p:=let ⟨a,b,e,ha,hb⟩:=h;#v[a,b,k p _ n e,ha,hb]
theorem Pu.ext(h:Pu M p)(k:Ext M M'):Pu M' p:=let ⟨a,b,e,ha,hb⟩:=h;#v[a,b,k p _ e,ha,hb]
theorem Pu.some(h:Pu M p):∃ o,M p=.some o:=let ⟨_,_,e,_⟩:=h;#v[_,e]
theorem Pu.ne(h:Pu M p)(n:M q=none):p≠q:=let ⟨_,e⟩:=h.some;aU e n
inductive spPurse(ds:List D)(M:MH)(Q:DK):Prop|mk:∀ c:Int,ds=[.int c]->Cell c->(∀ p M',M p=none->Pu M' p->Ext M M'->Q (.ref p) M')->spPurse ds M Q
inductive spTake(ds:List D)(M:MH)(Q:DK):Prop|mk:∀(p:Addr) (m:Int),ds=[.ref p,.int m]->Pu M p->0<m->Lim m->(∀(r:Int) M',0<=r->r<m->Pu M' p->Kp [p] M M'->Q (.int r) M')->spTake ds M Q
theorem xY(ns:List Int)(j k:Nat):D3.cK (ns.map D.int) (some (j:Int)) (some (k:Int))=((ns.take k).drop j).map D.int:=by
 unfold D3.cK
 rw[HT.fH,HT.fH,Ab,Ez,Ef,List.drop_take]
 by_cases h:k<=ns.length
 ·rw[Dg h]
  by_cases hj:j<=ns.length
  ·rw[Dg hj]
  ·rw[Ew (by lia),Dt (by simp),Dt (by simp;lia),Ee,Ee]
 ·rw[Ew (by lia)]
  by_cases hj:j<=ns.length
  ·rw[Dg hj,Bb (by simp),Bb (by simp;lia)]
  ·rw[Ew (by lia),Dt (by simp),Dt (by simp;lia),Ee,Ee]
end KA
namespace D3
open PySem PySem.Spec PyProof.Rows L2
section
variable {X:Cx}{G:Ga}{M:MH}{a b c e o i:Expr}{es rest:List Expr}{pos:Pos}{Q:DK}{Qb:Bool->MH->Prop}
def InL(da db:D)(M:MH)(Qb:Bool->MH->Prop):Prop:=match da,db with
 |.str k,.ref p=>(∃ kvs,M p=some (.dic kvs)/\Qb (lkD kvs k).isSome M)\/(∃ ss:List Str,M p=some (.lst (ss.map D.str))/\Qb (decide (k∈ss)) M)
 |.str k,.tup ds=>∃ ss:List Str,ds=ss.map D.str/\Qb (decide (k∈ss)) M
 |_,_=>False
theorem rH{ss:List Str}(q:Qb (decide (k∈ss)) M):InL (.str k) (.tup (ss.map D.str)) M Qb:=#v[ss,rfl,q]
theorem gR:∀{ss:List Str} {vs:List V},IsL H (ss.map D.str) vs->vs=ss.map V.str
 |[],vs,h=>by rw[Bq,aV]at h;exact h
 |s::r,vs,h=>by
  rw[Au,aG]at h
  let ⟨x,t,rfl,h1,h2⟩:=h
  rw[aR]at h1;subst h1
  rw[gR h2];rfl
theorem nH(k:Str):∀ ss:List Str,inV (.str k) (ss.map V.str)=decide (k∈ss)
 |[]=>by simp[inV]
 |s::r=>by
  have I:=nH k r
  unfold inV at I ⊢
  rw[Au,Dj,I]
  show ((s == k)||_)=_
  by_cases h:s=k
  ·subst h;simp
  ·have:¬ k=s:=λz=>h z.symm
   simp[h,this]
theorem pV(ss:List Str):(ss.map V.str).all jH=true:=by
 induction ss with
 |nil=>rfl
 |cons s r I=>rw[Au,Fs,I];rfl
theorem DB(Y:X.A.units+1<cLine):OpR X (compareOp .In) (λx y H Q=>∃ a o,y=.ref a/\DGet H a x o/\Q (.bl o.isSome) H):=by
 intro J s σ H x y v u Q I S O h
 let ⟨a,o,rfl,g,q⟩:=h
 cases O
 exact VR Y I g S λV L=>#v[.bl _,H,L,rfl,q]
theorem LZ(neg:Bool)(h:InL da db M λk M'=>Q (.bl (if neg then !k else k)) M'):RD X.K (λx y H Q=>rIn X.K neg x y H Q\/∃ a o,y=.ref a/\DGet H a x o/\Q (.bl (if neg then !o.isSome else o.isSome)) H) da db M Q:=by
 intro H x y J hx hy m
 unfold InL at h
 split at h
 ·rename_i k p
  rw[aR]at hx;subst hx
  rw[aH]at hy;subst hy
  rcases h with ⟨I,h1,q⟩|⟨ss,h1,q⟩
  ·let ⟨ys,e1,e2⟩:=m p _ h1
   refine .inr #v[p,_,rfl,DGet.k (k:=Sum.inr k) e1,λ_=>#v[F6.refl _,_,M,bL.mpr rfl,m,?_]]
   rw[e2.some_eq];exact q
  ·let ⟨ys,e1,e2⟩:=m p _ h1
   have e3:=gR e2;subst e3
   refine .inl #v[p,_,rfl,.inl (SqL.of e1),rfl,pV ss,λ_=>#v[F6.refl _,_,M,bL.mpr rfl,m,?_]]
   rw[nH];exact q
 ·rename_i k ds
  let ⟨ss,rfl,q⟩:=h
  rw[aR]at hx;subst hx
  rw[bM]at hy
  let ⟨p,xs,rfl,e1,e2⟩:=hy
  have e3:=gR e2;subst e3
  refine .inl #v[p,_,rfl,.inr (SqT.of e1),rfl,pV ss,λ_=>#v[F6.refl _,_,M,bL.mpr rfl,m,?_]]
  rw[nH];exact q
 ·exact h.elim
theorem WA(I:X.A.units+64<cLine)(h:EV X G M a λda Ma=>EV X G Ma b λdb Mb=>InL da db Mb λk M'=>Q (.bl k) M')(hm:behindInMarks .In b=false):EV X G M (.Compare a [.In] [b] pos) Q :=
 iS (pM.or (DB (by lia))) hm (h.mono λ_ _ h1=>h1.mono λ_ _ q=>LZ false q)
theorem InL.mono(h:InL da db M Qb)(k:∀ b,Qb b M->Qc b M):InL da db M Qc:=by
 unfold InL at h ⊢
 split at h
 ·rcases h with ⟨x,y,z⟩|⟨x,y,z⟩
  ·exact .inl #v[x,y,k _ z]
  ·exact .inr #v[x,y,k _ z]
 ·let ⟨x,y,z⟩:=h;exact #v[x,y,k _ z]
 ·exact h
theorem TQ(I:X.A.units+64<cLine)(h:EV X G M a λda Ma=>EV X G Ma b λdb Mb=>InL da db Mb Qb)(hm:behindInMarks .In b=false):TV X G M (.Compare a [.In] [b] pos) Qb :=
 nB (pM.or (DB (by lia))) hm (h.mono λ_ _ h1=>h1.mono λ_ _ q=>LZ false (InL.mono q λk q=>#v[k,rfl,q]))
theorem iW:bootBuiltins "sorted"=some (.builtin "sorted"):=by lia
theorem DC:bootBuiltins "list"=some (.type "list"):=by lia
theorem tyL{K:Ad}{H:Hp}{p:Addr}{xs:List V}(h:H p=some (.lst xs)):tyV K "list" (.ref p) H:=.inl #v[rfl,xs,SqL.of h]
theorem AE(h:EV X G M o λd M1=>∃ p,d=.ref p/\(∃ ds,M1 p=some (.lst ds))/\EV X G M1 e λd2 M2=>∃ ds,M2 p=some (.lst ds)/\ds.length<An/\Q .non (FF M2 p (.lst (ds++[d2]))))
  (V:attributeBase o "append" X.env (eval o X.env)=eval o X.env)
  (b4:HfX X cpos e)
  (b3:(apos.endLine == cpos.line)=true)(hs:SeX X e)(S:NpX X cpos) :
  EV X G M (.Call (.Attribute o "append" apos) [e] [] cpos) Q:=by
 refine EV.of (nA PySem.F.plainAttrs_list PySem.F.slot_list_append PySem.F.type_list_append pN (fY (G:=G)) (iU (G:=G) (es:=[e])) V b4 b3 hs S) λσ H kf R=>?_
 exists M,_,R,h,λv H' d M' b7 g i R' q=>?_
 let ⟨p,rfl,⟨ds,b2⟩,q⟩:=q
 rw[aH]at i;subst i
 let ⟨xs,hx,_⟩:=R'.mem p _ b2
 exists tyL hx,M',λJ M2=>∃ d2,J=[d2]/\∃ ds,M2 p=some (.lst ds)/\ds.length<An/\Q .non (FF M2 p (.lst (ds++[d2]))),R',fJ (q.mono λd2 M2 L=>kQ #v[d2,rfl,L]) hs,λvs Z J M2 b5 g2 i2 O L=>?_
 let ⟨d2,rfl,ds,hp,hz,L⟩:=L
 let ⟨v2,rfl,b1⟩:=dF i2
 let ⟨xs,hx,I⟩:=O.mem p _ hp
 have nt:∀ ys,Z p≠some (.tup ys):=λys z=>by rw[hx]at z;cases z
 have Y:F6 Z (upd Z p (.lst (xs++[v2]))):=cH nt
 exact #v[p,xs,v2,rfl,rfl,hx,by rw[<- I.len];exact hz,λ_=>#v[(g.trans g2).trans Y,.non,_,cJ.mpr rfl,O.mem.put (u:=.lst (ds++[d2])) nt #v[_,aI,(I.grow Y).app (aG.mpr #v[v2,[],rfl,Is.grow Y _ _ b1,aV.mpr rfl])],L]]
theorem AF(hm:X.mg "tuple"=none)(h:AV X G M [e] λds M1=>∃ d,ds=[d]/\match d with
   |.ref q=>∃ es,M1 q=some (.lst es)/\Q (.tup es) M1
   |.tup es=>Q (.tup es) M1
   |_=>False)(hg:Gl X "tuple")(Y:SeX X e)(V:NpX X pos) :
  EV X G M (.Call (.Name "tuple" p) [e] [] pos) Q :=
 dQ oW hm pR (h.mono λds M1 ⟨d,e1,q⟩=>λH xs Z hx m=>by
  subst e1
  let ⟨v,rfl,I⟩:=dF hx
  cases d with
  |ref a =>
   let ⟨es,O,q⟩:=q
   rw[aH]at I;subst I
   let ⟨ys,e1,e2⟩:=m a _ O
   exact #v[a,ys,rfl,.inl #v[SqL.of e1,λp J S=>#v[aK J,.tup es,M1,bM.mpr #v[p,ys,rfl,aI,e2.grow (aK J)],m.new J,q]]]
  |tup es =>
   have L:=I
   rw[bM]at I
   let ⟨a,ys,rfl,e1,e2⟩:=I
   exact #v[a,ys,rfl,.inr #v[SqT.of e1,λ_=>#v[F6.refl _,.tup es,M1,L,m,q]]]
  |non=>exact q.elim
  |bl _=>exact q.elim
  |int _=>exact q.elim
  |str _=>exact q.elim
  |ty _=>exact q.elim) hg (by decide) (by decide) Y V
theorem DD(hm:X.mg "list"=none)(h:AV X G M [e] λds M1=>∃ d,ds=[d]/\match d with
   |.ref q=>∃ es,M1 q=some (.lst es)/\∀ r,M1 r=none->Q (.ref r) (FF M1 r (.lst es))
   |.tup es=>∀ r,M1 r=none->Q (.ref r) (FF M1 r (.lst es))
   |_=>False)(hg:Gl X "list")(V:SeX X e)(S:NpX X pos) :
  EV X G M (.Call (.Name "list" p) [e] [] pos) Q :=
 dQ rC hm DC (h.mono λds M1 ⟨d,e1,q⟩=>λH xs Y hx m=>by
  subst e1
  let ⟨v,rfl,L⟩:=dF hx
  cases d with
  |ref a =>
   let ⟨es,O,q⟩:=q
   rw[aH]at L;subst L
   let ⟨ys,e1,e2⟩:=m a _ O
   exact #v[a,ys,rfl,.inl (SqL.of e1),λp I J=>#v[aK I,.ref p,FF M1 p (.lst es),aH.mpr rfl,m.lay I #v[ys,aI,e2.grow (aK I)],q p (m.fresh I J)]]
  |tup es =>
   rw[bM]at L
   let ⟨a,ys,rfl,e1,e2⟩:=L
   exact #v[a,ys,rfl,.inr (SqT.of e1),λp I J=>#v[aK I,.ref p,FF M1 p (.lst es),aH.mpr rfl,m.lay I #v[ys,aI,e2.grow (aK I)],q p (m.fresh I J)]]
  |non=>exact q.elim
  |bl _=>exact q.elim
  |int _=>exact q.elim
  |str _=>exact q.elim
  |ty _=>exact q.elim) hg (by decide) (by decide) V S
theorem IsL.strs:∀{ss:List Str},IsL H (ss.map D.str) (ss.map V.str)
 |[]=>aV.mpr rfl
 |s::r=>aG.mpr #v[.str s,r.map V.str,rfl,aR.mpr rfl,IsL.strs]
theorem jP:∀{ss:List Str} {us:List Value},Vals (ss.map V.str) us->StrsAre us ss
 |[],us,r=>by cases r;exact .nil
 |s::r,us,h=>by
  cases h with
  |cons h1 h2 =>
   let ⟨t,rfl⟩:=h1
   exact .cons s t (jP h2)
theorem gC:∀{ss:List Str} {us:List Value},StrsAre us ss->Vals (ss.map V.str) us
 |_,_,.nil=>.nil
 |_,_,.cons y t r=>.cons #v[t,rfl] (gC r)
theorem rJ:dY X (.builtin "sorted") (λxs H Q=>∃(a:Addr) (ss:List Str),xs=[.ref a]/\H a=some (.lst (ss.map V.str))/\ss.length<64/\∀ p ss',H p=none->ss'.Perm ss->PyProof.Rows.sortedS ss'=true->Q (.ref p) (upd H p (.lst (ss'.map V.str)))):=by
 intro L s σ H xs us Q I r h
 let ⟨a,ss,rfl,e,S,q⟩:=h
 let ⟨u,rfl,ru⟩:=fG r
 cases ru
 let ⟨z,J,n,rv,hl,O⟩:=I.lstM e
 have b1:J.length=ss.length:=by rw[<- hl,Ab]
 refine sorted_strs (l:=a) (vs:=J) #v[_,O,rfl,n,rfl] (jP rv) (by lia) λout ss' h1 h2 h3=>?_
 let ⟨Z,Y⟩:=sortedAll_at s.heap J out
 have hf:H (s.heap.objs.size+1)=none:=I.hok.fresh (Cs _)
 exists .ref (s.heap.objs.size+1),_,I.laid (a:=s.heap.objs.size+1) (o:=.lst (ss'.map V.str)) (t':=s.toks) (λb ob hb=>sortedAll_old hb) (Cs _) #v[?_,out.toList,Z,gC h1,?_],rfl,q _ ss' hf h2 h3
 ·rw[Ab,h2.length_eq];rw[Ab]at z;exact z
 ·rw[Y]
theorem vT(hm:X.mg "sorted"=none)(h:AV X G M [e] λds M1=>∃(q:Addr) (ss:List Str),ds=[.ref q]/\M1 q=some (.lst (ss.map D.str))/\ss.length<64/\∀ r ss',M1 r=none->ss'.Perm ss->PyProof.Rows.sortedS ss'=true->Q (.ref r) (FF M1 r (.lst (ss'.map D.str))))(hg:Gl X "sorted")(S:SeX X e)(O:NpX X pos) :
  EV X G M (.Call (.Name "sorted" p) [e] [] pos) Q :=
 dG rJ hm iW (h.mono λds M1 ⟨a,ss,e1,ha,h64,q⟩=>λH xs V hx m=>by
  subst e1
  let ⟨v,rfl,L⟩:=dF hx
  rw[aH]at L;subst L
  let ⟨ys,e1,e2⟩:=m a _ ha
  have e3:=gR e2;subst e3
  exists a,ss,rfl,e1,h64,λp ss' J h1 h2 I=>#v[aK J,.ref p,FF M1 p (.lst (ss'.map D.str)),aH.mpr rfl,m.lay J #v[_,aI,?_],q p ss' (m.fresh J I) h1 h2]
  exact IsL.strs) hg (by decide) (by decide) S O
end
def oX(env:Env):List (Str×NameKind)->List (Str×Addr)->List (Str×Addr)
 |[],acc=>acc
 |(n,k)::r,acc=>oX env r (if k == .free then (n,(env.cells.lookup n).getD 0)::acc else acc)
theorem jQ(env:Env):∀(names:List (Str×NameKind)) (acc:List (Str×Addr)),(∀ x∈names,x.2=.free->(env.cells.lookup x.1).isSome=true) ->
  (forIn names acc λ(x:Str×NameKind) (r:List (Str×Addr))=>(match x with
   |(name,kind)=>if (kind == NameKind.free)=true then do let c <- cellOf env name;pure (ForInStep.yield ((name,c)::r)) else pure (ForInStep.yield r):Sem (ForInStep (List (Str×Addr)))))=pure (oX env names acc)
 |[],acc,_=>rfl
 |(n,k)::r,acc,h=>by
  rw[List.forIn_cons]
  have L:=λJ=>jQ env r J λx hx=>h x (Ak _ hx)
  unfold oX
  by_cases e:(k == NameKind.free)=true
  ·have I:=h (n,k) (Aj ..) (by simpa using e)
   let ⟨c,I⟩:=C0.mp I
   have I:env.cells.lookup n=some c:=I
   rw[if_pos e,I]
   have:cellOf env n=pure c:=by unfold cellOf;rw[I]
   simp only[e,if_true,this]
   exact L _
  ·rw[if_neg e]
   simp only[e,if_false]
   exact L _
theorem oY(h:∀ x∈scope.names,x.2=.free->(env.cells.lookup x.1).isSome=true):closureFor scope env=pure (oX env scope.names []):=by
 have:=jQ env scope.names [] h
 simp only[closureFor]
 simpa using this
theorem nI(env:Env)(x:Str)(c:Addr):∀(names:List (Str×NameKind)) (acc:List (Str×Addr)),(∀ y∈names,y.2=.free->(env.cells.lookup y.1).isSome=true)->(∀ c,acc.lookup x=some c->env.cells.lookup x=some c)->(oX env names acc).lookup x=some c->env.cells.lookup x=some c
 |[],acc,_,ha,h=>ha c h
 |(n,k)::r,acc,hn,ha,h=>by
  unfold oX at h
  refine nI env x c r _ (λy hy=>hn y (Ak _ hy)) (λL I=>?_) h
  by_cases e:(k == NameKind.free)=true
  ·rw[if_pos e,Cj]at I
   by_cases hx:(x == n)=true
   ·rw[hx]at I
    have J:x=n:=by simpa using hx
    subst J
    let ⟨d,hd⟩:=C0.mp (hn (x,k) (Aj ..) (by simpa using e))
    have hd:env.cells.lookup x=some d:=hd
    rw[hd]at I ⊢
    simpa using I
   ·have hx:(x == n)=false:=by simpa using hx
    rw[hx]at I
    exact ha L I
  ·rw[if_neg e]at I
   exact ha L I
theorem nJ(env:Env)(x:Str):∀(names:List (Str×NameKind)) (acc:List (Str×Addr)),((x,NameKind.free)∈names\/(acc.lookup x).isSome=true)->((oX env names acc).lookup x).isSome=true
 |[],acc,h=>by rcases h with h|h;cases h;exact h
 |(n,k)::r,acc,h=>by
  unfold oX
  refine nJ env x r _ ?_
  rcases h with h|h
  ·rcases Am.mp h with h|h
   ·cases h
    refine .inr ?_
    rw[if_pos (show (NameKind.free == NameKind.free)=true from rfl),Cj,beq_self_eq_true];rfl
   ·exact .inl h
  ·refine .inr ?_
   split
   ·rw[Cj]
    cases x == n
    ·exact h
    ·rfl
   ·exact h
theorem dL{α β:Type}[BEq α][LawfulBEq α]{k:α}{v:β}:∀{l:List (α×β)},l.lookup k=some v->(k,v)∈l
 |[],h=>by cases h
 |(a,b)::r,h=>by
  rw[Cj]at h
  cases e:k == a with
  |true =>
   rw[e]at h
   have:k=a:=by simpa using e
   subst this
   cases h
   exact Aj ..
  |false=>rw[e]at h;exact Ak _ (dL h)
section
variable {X:Cx}{G:Ga}{M:MH}{elt tg iter e:Expr}{ifs:List Expr}{scope:Scope}{pos:Pos}{Q:DK}{own:List Str}{js:List Nat}{N:List Str}
theorem tG(hk:scope.kind=.function)(hn:∀ x∈scope.names,x.2=.local->scope.names.lookup x.1=some .local)(J:∀ x∈scope.names,x.2≠.cell)
  (hf:∀ x∈scope.names,x.2=.free->(X.env.cells.lookup x.1).isSome=true)
  (hN:N=own++fs)(hl:fs.length=js.length)(hj:∀(k j:Nat),js[k]?=some j->∃ x,fs[k]?=some x/\X.N[j]?=some x/\X.env.kindOf x=some .cell/\X.env.scope.names.lookup x=some .cell/\scope.names.lookup x=some .free)
  (Y:X.env.scope.kind=.function):H4 X own js N scope (oX X.env scope.names []):=by
 exists oY hf,hk,hn,J,λx c e=>nI X.env x c scope.names [] hf (λc z=>by cases z) e,λx h=>?_,λk j e=>?_,by rw[hN,Ae,hl]
 ·refine C0.mp (nJ X.env x scope.names [] (.inl ?_))
  have:∃ k,(x,k)∈(relabel scope X.env).names/\(k=.cell\/k=.free):=by
   rcases h with h|h
   ·exact #v[_,dL h,.inl rfl]
   ·exact #v[_,dL h,.inr rfl]
  let ⟨k,hm,hk⟩:=this
  unfold relabel at hm
  let ⟨⟨n,q⟩,S,L⟩:=A5.mp hm
  have L:(if (q == NameKind.free&&X.env.scope.kind == .function&&X.env.kindOf n == some .cell)=true then (n,NameKind.cell) else (n,q))=(x,k):=L
  split at L
  ·rename_i I
   injection L with e1 e2
   subst e1
   have:q=.free:=by
    rw[Bl,Bl]at I
    simpa using I.1.1
   rw[this]at S;exact S
  ·injection L with e1 e2
   subst e1;subst e2
   rcases hk with hk|hk
   ·exact absurd hk (J _ S)
   ·rw[hk]at S;exact S
 ·let ⟨x,h1,h2,h3,h4,Z⟩:=hj k j e
  exists x,?_,h2,.inr (.inl h4),λm h u lk=>?_,?_
  ·rw[hN,Cg (by lia),show own.length+k-own.length=k by lia];exact h1
  ·rcases lk with ⟨z,_⟩|⟨_,c,I,hi⟩
   ·rw[h3]at z;cases z
   ·let ⟨c',O⟩:=C0.mp (nJ X.env x scope.names [] (.inl (dL Z)))
    have:=nI X.env x c' scope.names [] hf (λc z=>by cases z) O
    rw[I]at this;cases this
    exact #v[c,O,hi]
  ·refine .inl ?_
   have:∀ names:List (Str×NameKind),names.lookup x=some .free->(names.map λ(y:Str×NameKind)=>match y with|(n,k)=>if (k == NameKind.free&&X.env.scope.kind == .function&&X.env.kindOf n == some .cell)=true then (n,NameKind.cell) else (n,k)).lookup x=some .cell:=by
    intro names hl
    induction names with
    |nil=>cases hl
    |cons y r V =>
     let ⟨n,q⟩:=y
     rw[Cj]at hl
     rw[Au]
     cases en:x == n with
     |true =>
      rw[en]at hl
      have hx:x=n:=by simpa using en
      subst hx
      injection hl with hl
      subst hl
      have I:(NameKind.free == NameKind.free&&X.env.scope.kind == .function&&X.env.kindOf x == some .cell)=true:=by rw[Y,h3];rfl
      simp only[I,if_true]
      rw[Cj,beq_self_eq_true]
     |false =>
      rw[en]at hl
      have V:=V hl
      simp only
      split
      ·rw[Cj,en];exact V
      ·rw[Cj,en];exact V
   exact this scope.names Z
theorem bW(hk:scope.kind=.function)(Y:(scope.names.all λx=>!(x.2 == .local)||scope.names.lookup x.1 == some .local)=true)(Z:(scope.names.all λx=>!(x.2 == .cell))=true)
  (L:(scope.names.all λx=>!(x.2 == .free)||(X.env.cells.lookup x.1).isSome)=true)
  (hN:N=own++fs)(hl:fs.length=js.length)(S:((fs.zip js).all λy=>(X.N[y.2]? == some y.1)&&(X.env.kindOf y.1 == some .cell)&&(X.env.scope.names.lookup y.1 == some .cell)&&(scope.names.lookup y.1 == some .free))=true)
  (J:X.env.scope.kind=.function):H4 X own js N scope (oX X.env scope.names []):=by
 refine tG (fs:=fs) hk (λx hx e=>?_) (λx hx e=>?_) (λx hx e=>?_) hN hl (λk j e=>?_) J
 ·have:=Dp.mp Y x hx
  rw[e]at this
  simpa using this
 ·have:=Dp.mp Z x hx
  rw[e]at this
  cases this
 ·have:=Dp.mp L x hx
  rw[e]at this
  simpa using this
 ·have I:k<fs.length:=by rw[hl];exact (Ax.mp e).1
  have O:(fs.zip js)[k]?=some (fs[k],j):=by
   rw[List.getElem?_zip_eq_some]
   exact #v[Bm I,e]
  have:=Dp.mp S _ (Bf O)
  rw[Bl,Bl,Bl]at this
  let ⟨⟨⟨h1,h2⟩,V⟩,h4⟩:=this
  exact #v[fs[k],Bm I,by simpa using h1,by simpa using h2,by simpa using V,by simpa using h4]
theorem oZ(T:H4 X own js N scope cl)(b2:X.xe=λ_ _=>False)(hc:X.calm=true)(hm:X.mg "range"=none)(f:D->D)(pr:D->Bool)
  (h:AV X G M [e] λas M1=>∃ n:Int,as=[.int n]/\0<=n/\n<1000 /\
   (∀ Y:Cx,(∃ C s H fp,Y=bR X N scope cl C s H fp)->∀ M',Ext M1 M'->∀ i:Nat,i<n.toNat->GV Y (aN own js G) M' tg (.int i) λG3 M3=>M3=M'/\Sub (aN own js G) G3/\TVs Y G3 M' ifs (λk M4=>M4=M'/\k=pr (.int i))/\(pr (.int i)=true->EV Y G3 M' elt λo M4=>M4=M'/\o=f (.int i))) /\
   ∀ q,M1 q=none->Q (.ref q) (FF M1 q (.lst ((((Ca n.toNat).map λi:Nat=>D.int i).filter pr).map f))))
  (hg:Gl X "range")(hse:A0 [e] X.env=[(false,eval e X.env)])(hs:∀ x,A9 (.Call (.Name "range" p) [e] [] p2) X.env x=pure x):EV X G M (.ListComp elt [#v[tg,.Call (.Name "range" p) [e] [] p2,ifs,0]] scope pos) Q:=by
 refine mG T b2 hc (hU hg hm (iU (G:=G)) hse) f pr (λσ H kf R=>?_) hs
 exists M,_,R,h,λvs H' ds M' b1 g i S q=>?_
 let ⟨n,e,h1,h2,block,L⟩:=q
 subst e
 let ⟨v,rfl,O⟩:=dF i
 rw[aM]at O;subst O
 exists n,rfl,by lia,by lia,g,M',(Ca n.toNat).map λi:Nat=>D.int i,S,λH2 g2 m2=>#v[λi e=>?_,λi I=>#v[?_,λx H3 y=>?_]],by rw[Ab,Bo];exact KA.small (by lia),λY Z M2 hM d hd=>?_,L
 ·show n.toNat<=i
  rw[e,Ab,Bo];exact Ao _
 ·show i<n.toNat
  simpa using I
 ·let ⟨e,y⟩:=y
  subst e;subst y
  have J:i<n.toNat:=by simpa using I
  exact #v[F6.refl _,λ_ _ z=>z,m2,.int i,by rw[Ar,Ce J];rfl,aM.mpr (by simp)]
 ·let ⟨i,V,e⟩:=A5.mp hd
  subst e
  exact block Y Z M2 hM i (El.mp V)
def Its(x:Str):It:=#v[λi _=>∃ c,x.cps[i]?=some c,λi H v H'=>H'=H/\∃ c,x.cps[i]?=some c/\v=.str #v[#[c]],λi _=>x.cps[i]?=none]
theorem DE{P:Program}{w:World}{K:Ad}{tg:Expr}(it:Addr)(x:Str)(t:Tok):Turn P w K tg (Its x) [it] it (λi h=>h.IsStrIter it "str_ascii_iterator" x t i) where
 mem:=by simp
 obj:=λi h st b L=>by
  have e:b=it:=by simpa using L
  subst e
  let ⟨o,e,c,d⟩:=st
  exact #v[o,e,λv z=>by rw[d]at z;cases z]
 keep:=λi h h' st k=>let ⟨o,e,c,d⟩:=st;#v[o,k it (by simp) o e,c,d]
 item:=by
  intro X hP hw hK hc i J s σ H E I hf st hg
  subst hP hw hK
  let ⟨c,hx⟩:=hg
  let ⟨f0,V,f2,Z,Y,S⟩:=hf it (by simp)
  refine wpAny_pyNext_ascii_item st hx λh' O sb=>?_
  have I1:L2.Inv X J σ H { s with heap:=h',toks:=s.toks+1 }:=I.turned (t':=s.toks+1) (λb o L e=>(sb.2 b L).trans e) f0 V Z Y S
  let ⟨o,e,c',d⟩:=id O
  exact #v[_,rfl,mU (s:={ s with heap:=h',toks:=s.toks+1 }) e c' d (by decide) #v[.str #v[#[c]],H,I1,#v[_,rfl],#v[rfl,c,hx,rfl],O,λb L=>(hf b L).1]]
 done:=by
  intro X hP hw hK hc i J s σ H E I hf st hg
  subst hP hw hK
  let ⟨f0,V,f2,Z,Y,S⟩:=hf it (by simp)
  exact wpAny_pyNext_ascii_end (I.ok.hd hc) st hg λh' eb=>#v[rfl,I.turned (t':=s.toks) (λb o L e=>eb b o L e) f0 V Z Y S]
 self:=λ_ _ _ _ _ st h=>wpAny_pyIter_striter_ascii st h
def WB(tl:TE):TI:=λσ H R=>tl σ H λx H1=>∃ z,x=.str z/\z.cps.all (· < 128)=true/\R (Its z) H1
theorem OR(hl:PE X l tl):PI X tg l (WB tl):=by
 intro J s σ H R I h
 refine thn (hl J s σ H _ I h) λv s1 ⟨x,H1,I1,r1,q1⟩=>?_
 let ⟨z,e,L,q⟩:=q1
 subst e
 let ⟨t,rfl⟩:=r1
 refine wpAny_pyIter_ascii L ?_
 exists s1.heap.objs.size,[s1.heap.objs.size],_,_,H1,rfl,I1.kept (t':=s1.toks) λb o e=>Af _ e,DE _ z t,#v[_,Ap _ rfl,rfl,rfl],λb O=>?_,q
 have e:b=s1.heap.objs.size:=by simpa using O
 subst e
 exact I1.fpOk (Ao _) (I1.hok.fresh (Ao _))
theorem tH(T:H4 X own js N scope cl)(b2:X.xe=λ_ _=>False)(hc:X.calm=true)(f:D->D)(pr:D->Bool)
  (h:EV X G M iter λd M1=>∃ z:Str,d=.str z/\z.cps.all (· < 128)=true/\z.cps.size<=1000 /\
   (∀ Y:Cx,(∃ C s H fp,Y=bR X N scope cl C s H fp)->∀ M',Ext M1 M'->∀ c∈z.cps.toList,GV Y (aN own js G) M' tg (.str #v[#[c]]) λG3 M3=>M3=M'/\Sub (aN own js G) G3/\TVs Y G3 M' ifs (λk M4=>M4=M'/\k=pr (.str #v[#[c]]))/\(pr (.str #v[#[c]])=true->EV Y G3 M' elt λo M4=>M4=M'/\o=f (.str #v[#[c]]))) /\
   ∀ q,M1 q=none->Q (.ref q) (FF M1 q (.lst (((z.cps.toList.map λc=>D.str #v[#[c]]).filter pr).map f))))
  (hs:∀ x,A9 iter X.env x=pure x):EV X G M (.ListComp elt [#v[tg,iter,ifs,0]] scope pos) Q:=by
 refine mG T b2 hc (OR (fY (G:=G))) f pr (λσ H kf R=>?_) hs
 exists M,_,R,h,λv H' d M' b1 g i S q=>?_
 let ⟨z,e,V,hz,block,L⟩:=q
 subst e
 rw[aR]at i;subst i
 exists z,rfl,V,g,M',z.cps.toList.map λc=>D.str #v[#[c]],S,λH2 g2 m2=>#v[λi e=>?_,λi O=>#v[?_,λx H3 y=>?_]],by rw[Ab,C6];exact KA.small hz,λY Z M2 hM d hd=>?_,L
 ·show z.cps[i]?=none
  rw[e,Ab,C6];simp
 ·show ∃ c,z.cps[i]?=some c
  have J:i<z.cps.size:=by simpa using O
  exact #v[z.cps[i],by simp[J]]
 ·let ⟨e,c,I,y⟩:=y
  subst e;subst y
  exact #v[F6.refl _,λ_ _ z=>z,m2,.str #v[#[c]],by rw[Ar,Cv,I];rfl,aR.mpr rfl]
 ·let ⟨c,I,e⟩:=A5.mp hd
  subst e
  exact block Y Z M2 hM c I
end
end D3
namespace KA
open PySem PySem.Spec PyProof.Rows L2 D3 K01
def tD(t:Str×Int):D:=.tup [.str t.1,.int t.2]
abbrev trm(ts:List (Str×Int)):D:=.tup (ts.map tD)
abbrev nms(ss:List Str):D:=.tup (ss.map D.str)
def F7(s:Str):Prop:=∃ c,97<=c/\c<=122/\s=#v[#[c]]
structure Names(ss:List Str):Prop where
 pos:1<=ss.length
 le:ss.length<=5
 nodup:ss.Nodup
 lett:∀ s∈ss,F7 s
structure Terms(ss:List Str)(ts:List (Str×Int)):Prop where
 sub:(ts.map (·.1)).Sublist ss
 wt:∀ t∈ts,t.2≠0/\B 64 t.2
theorem Terms.len(h:Terms ss ts):ts.length<=ss.length:=by
 have:=h.sub.length_le;rw[Ab]at this;exact this
theorem Terms.mem(h:Terms ss ts)(I:t∈ts):t.1∈ss:=h.sub.subset (E9 I)
inductive spCell(ds:List D)(M:MH)(Q:DK):Prop|mk:∀(l:Addr) (ns:List Int) (k:Int),ds=[.ref l,.int k]->M l=some (.ro (ns.map D.int))->(∀ n∈ns,Cell n)->ns.length<=63->0<=k->(∀ c,Cell c->Q (.int c) M)->spCell ds M Q
inductive spNumber(ds:List D)(M:MH)(Q:DK):Prop|mk:∀ p,ds=[.ref p]->Pu M p->(∀ n M',B 64 n->Pu M' p->Kp [p] M M'->Q (.int n) M')->spNumber ds M Q
inductive spTerms(ds:List D)(M:MH)(Q:DK):Prop|mk:∀ p ss,ds=[.ref p,nms ss]->Pu M p->ss.length<=5->(∀ ts M',Terms ss ts->Pu M' p->Kp [p] M M'->Q (trm ts) M')->spTerms ds M Q
inductive spSum(ds:List D)(M:MH)(Q:DK):Prop|mk:∀ p ss,ds=[.ref p,nms ss]->Pu M p->ss.length<=5->(∀ ts w b M',Terms ss ts->B 64 w->0<b->B 64 b->Pu M' p->Kp [p] M M'->Q (.tup [trm ts,.int w,.int b]) M')->spSum ds M Q
def word(k:Bool):Str:=if k then "least" else "more"
inductive spRow(ds:List D)(M:MH)(Q:DK):Prop|mk:∀ p ss,ds=[.ref p,nms ss]->Pu M p->ss.length<=5->(∀ k ts w M',Terms ss ts->B 64 w->Pu M' p->Kp [p] M M'->Q (.tup [.str (word k),trm ts,.int w]) M')->spRow ds M Q
inductive spNames(ds:List D)(M:MH)(Q:DK):Prop|mk:∀ c,ds=[.int c]->Cell c->(∀ ss M',Names ss->ss.length<=3->Ext M M'->Q (nms ss) M')->spNames ds M Q
abbrev IW(k:Bool)(ts:List (Str×Int))(b:Int):D:=.tup [.str (word k),trm ts,.int b]
end KA
namespace D3
open PySem PySem.Spec PyProof.Rows L2
section
variable {P:Program}{w:World}{B:Around}
theorem DF(far : l ≠ c)(m : Nat) : ∀ (a : Nat) (st : Shared) (R : List Value → Shared → Prop), st.heap.IsListIter c l a → st.heap.IsList l xs → a + m ≤ xs.size →
    (∀ g, g.IsListIter c l (a + m) → Heap.SameBut c st.heap g → R ((xs.toList.drop a).take m) { st with heap := g }) → wpAny (model P w) B (draw (.ref c) m) R Z st := by
  induction m with
  | zero =>
    intro a st R hi _ _ k
    have k0 := k st.heap hi (Heap.SameBut.refl ..)
    rw [List.take_zero] at k0
    exact wpAny_pure k0
  | succ m ih =>
    intro a st R hi hl hle k
    have lt : a < xs.size := by lia
    refine wpAny_bind (m := pyNext (.ref c)) (wpAny_pyNext_list_item hi hl (x := xs[a]) (by simp [lt]) fun g1 hi1 sb1 => ?_)
    refine wpAny_bind (wpAny_holding (ih (a + 1) _ _ hi1 (hl.extBut sb1.extBut far) (by lia) fun g2 hi2 sb2 => wpAny_pure ?_))
    have k2 := k g2 (by have e : a + (m + 1) = a + 1 + m := by lia
                        rw [e]; exact hi2) (sb1.trans sb2)
    have cut : xs.toList.drop a = xs[a] :: xs.toList.drop (a + 1) := by simp [List.drop_eq_getElem_cons, lt]
    rw [cut] at k2
    exact k2
theorem vU{st:Shared}{xs:Array Value}(calm:B.handled=none)(hl:st.heap.IsList l xs)(k:∀ g,Heap.ExtBut st.heap.objs.size st.heap g->R xs.toList { st with heap:=g }) :
  wpAny (model P w) B (unpackItems (.ref l) xs.size none) R Z st:=by
 have J:l≠st.heap.objs.size:=let ⟨_,e,_⟩:=hl;A1 (As e)
 unfold unpackItems
 refine Ac ?_
 unfold notIterableAtAll
 refine Ac (wpAny_specialOf hl.typeIs PySem.F.slot_list_iter.lookup (Ag ?_))
 rw[if_neg (by simp)]
 refine Ac (wpAny_holding (wpAny_pyIter_list hl ?_))
 refine Ac (wpAny_holding (DF J xs.size 0 _ _ #v[_,Ap _ rfl,rfl,rfl] (hl.push _) (by lia) λY L I=>?_))
 rw[show (xs.toList.drop 0).take xs.size=xs.toList from Bb (by simp),if_neg (by simp)]
 refine Ac (wpAny_holding (wpAny_pyNext_list_end calm L ((hl.push _).extBut I.extBut J) (by simp) λV O=>?_))
 rw[if_neg (by simp)]
 exact Ag (k V λb o S e=>O b o S (I.extBut b o S (Af _ e)))
theorem jR{n}{st:Shared}{xs:Array Value}(calm:B.handled=none)(hl:st.heap.IsList l xs)(I:(assignEach ts env).length=xs.size)(plain:(assignEach ts env).findIdx? (·.1)=none)
  (k:∀ g,Heap.ExtBut st.heap.objs.size st.heap g->wpAny (model P w) B (assignInOrder ((assignEach ts env).map (·.2)) xs.toList) R Z { st with heap:=g }):wpAny (model P w) B (assign (.Tuple ts n pos) env (.ref l)) R Z st:=by
 rw[assign_Tuple]
 refine Ac (Dl (show wpAny _ _ (unpack _ _) _ _ _ from ?_))
 unfold unpack
 rw[I,plain]
 exact Ac (wpAny_holding (vU calm hl k))
end
theorem vV(hl:M l=some (.lst ds))(hc:X.calm=true)(h:GVs X G M ts ds Qg)(hn:(assignEach ts X.env).length=ds.length)(Z:(assignEach ts X.env).findIdx? (·.1)=none):GV X G M (.Tuple ts k pos) (.ref l) Qg:=by
 intro J s σ H v u I R r i
 rw[aH]at i;subst i
 cases r
 let ⟨xs,e1,e2⟩:=R.mem l _ hl
 let ⟨z,O,n,V,L,S⟩:=I.lstM e1
 refine jR (I.ok.hd hc) (xs:=O.toArray) #v[_,S,rfl,n,rfl] (by rw[hn,e2.len,L];simp) Z λh' hx=>?_
 have Y:L2.Inv X J σ H { s with heap:=h' }:=I.kept (t':=s.toks) λb o e=>hx b o (A1 (As e)) e
 exact h J _ σ H xs _ Y R (by simpa using V) e2
theorem gT:∀{ds:List D},(∀ d∈ds,(pd d).depth<=n)->PyData.depthAll (pdL ds)<=n
 |[],_=>by simp[pdL,PyData.depthAll]
 |d::r,h=>by
  have h1:=h d (Aj ..)
  have h2:=gT (ds:=r) λx hx=>h x (Ak _ hx)
  simp only[pdL,PyData.depthAll]
  lia
theorem jS(h:∀ d∈ds,(pd d).depth<=n):(pd (.tup ds)).depth<=n+1:=by
 have:=gT h
 simp only[pd,PyData.depth]
 lia
theorem mI:∀{ds:List D},(∀ d∈ds,imm d=true)->eF ds=true
 |[],_=>by simp[eF]
 |d::r,h=>by
  simp only[eF]
  rw[h d (Aj ..),mI λx hx=>h x (Ak _ hx)];rfl
theorem mJ(h:∀ d∈ds,imm d=true):imm (.tup ds)=true:=by simp only[imm];exact mI h
end D3
namespace KA
open PySem PySem.Spec PyProof.Rows L2 D3 K01
theorem F7.ok(h:F7 s):PyData.strOk s=true:=by
 let ⟨c,h1,h2,rfl⟩:=h
 simp[PyData.strOk]
 lia
theorem OS(h:F7 t.1):imm (KA.tD t)=true:=by
 refine mJ λd hd=>?_
 rcases Am.mp hd with rfl|hd
 ·simp only[imm];exact h.ok
 ·rw[Al.mp hd];simp only[imm]
theorem DG(t:Str×Int):(pd (KA.tD t)).depth<=1:=jS λd hd=>by
 rcases Am.mp hd with rfl|hd
 ·simp[pd,PyData.depth]
 ·rw[Al.mp hd];simp[pd,PyData.depth]
theorem xZ(h:∀ t∈ts,F7 t.1):imm (trm ts)=true:=mJ λd hd=>by
 let ⟨t,I,rfl⟩:=A5.mp hd
 exact OS (h t I)
theorem pX(ts:List (Str×Int)):(pd (trm ts)).depth<=2:=jS λd hd=>by
 let ⟨t,I,rfl⟩:=A5.mp hd
 exact DG t
theorem IY(k:Bool):PyData.strOk (word k)=true:=by cases k<;>lia
theorem IZ(h:∀ t∈ts,F7 t.1):imm (IW k ts b)=true:=mJ λd hd=>by
 rcases Am.mp hd with rfl|hd
 ·simp only[imm];exact IY k
 ·rcases Am.mp hd with rfl|hd
  ·exact xZ h
  ·rw[Al.mp hd];simp only[imm]
theorem AG(k:Bool)(ts:List (Str×Int))(b:Int):(pd (IW k ts b)).depth<=3:=jS λd hd=>by
 rcases Am.mp hd with rfl|hd
 ·simp[pd,PyData.depth]
 ·rcases Am.mp hd with rfl|hd
  ·exact pX ts
  ·rw[Al.mp hd];simp[pd,PyData.depth]
abbrev Rw:=Bool×List (Str×Int)×Int
abbrev Sm:=List (Str×Int)×Int×Int
inductive Stm where
 |set(x:Str)(s:Sm)
 |any(x:Str)
 |note(rs:List Rw)
 |choose(a b:List Stm)
 |ite(r:Rw)(a b:List Stm)
 |whl(r:Rw)(rs:List Rw)(m:Option (Sm×Int))(b:List Stm)
def rwD(r:Rw):D:=IW r.1 r.2.1 r.2.2
def smD(s:Sm):D:=.tup [trm s.1,.int s.2.1,.int s.2.2]
def msD:Option (Sm×Int)->D
 |none=>.non
 |some m=>.tup [smD m.1,.int m.2]
mutual
def stD:Stm->D
 |.set x s=>.tup [.str "set",.str x,smD s]
 |.any x=>.tup [.str "any",.str x]
 |.note rs=>.tup [.str "note",.tup (rs.map rwD)]
 |.choose a b=>.tup [.str "choose",.tup (aO a),.tup (aO b)]
 |.ite r a b=>.tup [.str "if",rwD r,.tup (aO a),.tup (aO b)]
 |.whl r rs m b=>.tup [.str "while",rwD r,.tup (rs.map rwD),msD m,.tup (aO b)]
def aO:List Stm->List D
 |[]=>[]
 |s::r=>stD s::aO r
end
theorem cS:∀ b:List Stm,aO b=b.map stD
 |[]=>by simp only[aO,Bq]
 |s::r=>by simp only[aO,Au,cS r]
theorem pY(b:List Stm)(s:Stm):aO (b++[s])=aO b++[stD s]:=by rw[cS,cS,Ai];rfl
structure Cnt where
 s:Nat
 b:Nat
 l:Nat
 a:Nat
 n:Nat
def Cnt.add(x y:Cnt):Cnt:=#v[x.s+y.s,x.b+y.b,x.l+y.l,x.a+y.a,x.n+y.n]
mutual
def tt:Stm->Cnt
 |.set _ _=>#v[1,0,0,0,0]
 |.any _=>#v[1,0,0,1,0]
 |.note rs=>#v[1,0,0,0,rs.length]
 |.choose a b=>((tts a).add (tts b)).add #v[1,1,0,0,0]
 |.ite _ a b=>((tts a).add (tts b)).add #v[1,1,0,0,0]
 |.whl _ _ _ b=>(tts b).add #v[1,0,1,0,0]
def tts:List Stm->Cnt
 |[]=>#v[0,0,0,0,0]
 |s::r=>(tt s).add (tts r)
end
theorem Cnt.ext'{x y:Cnt}(h1:x.s=y.s)(h2:x.b=y.b)(I:x.l=y.l)(h4:x.a=y.a)(J:x.n=y.n):x=y:=by cases x;cases y;simp_all
theorem rK:∀ a b:List Stm,tts (a++b)=(tts a).add (tts b)
 |[],b=>by refine Cnt.ext' ?_ ?_ ?_ ?_ ?_<;>simp[tts,Cnt.add]
 |s::r,b=>by
  have I:=rK r b
  show tts (s::(r++b))=_
  simp only[tts,I]
  refine Cnt.ext' ?_ ?_ ?_ ?_ ?_<;>simp only[Cnt.add]<;>lia
def vW(n m c:Cnt):Prop:=n.s=m.s+c.s/\n.b=m.b+c.b/\n.l=m.l+c.l/\n.a=m.a+c.a/\n.n=m.n+c.n
mutual
def dp:Stm->Nat
 |.set _ _=>1
 |.any _=>1
 |.note _=>1
 |.choose a b=>max (dps a) (dps b)+1
 |.ite _ a b=>max (dps a) (dps b)+1
 |.whl _ _ _ b=>dps b+1
def dps:List Stm->Nat
 |[]=>0
 |s::r=>max (dp s) (dps r)
end
theorem iX:∀{b:List Stm},(∀ s∈b,dp s<=n)->dps b<=n
 |[],_=>by simp[dps]
 |s::r,h=>by
  have h1:=h s (Aj ..)
  have h2:=iX (b:=r) λx hx=>h x (Ak _ hx)
  simp only[dps];lia
structure WfR(ss:List Str)(r:Rw):Prop where
 ts:Terms ss r.2.1
 b:B 64 r.2.2
structure WfS(ss:List Str)(s:Sm):Prop where
 ts:Terms ss s.1
 w:B 64 s.2.1
 pos:0<s.2.2
 b:B 64 s.2.2
def WfM(ss:List Str)(b:List Stm):Option (Sm×Int)->Prop
 |none=>True
 |some m=>WfS ss m.1/\0<m.2/\B 65 m.2/\(tts b).l=0
mutual
def wf(ss:List Str):Stm->Prop
 |.set x s=>x∈ss/\WfS ss s
 |.any x=>x∈ss
 |.note rs=>(∀ r∈rs,WfR ss r)/\1<=rs.length/\rs.length<=2
 |.choose a b=>wfs ss a/\wfs ss b
 |.ite r a b=>WfR ss r/\wfs ss a/\wfs ss b
 |.whl r rs m b=>WfR ss r/\(∀ r∈rs,WfR ss r)/\rs.length<=2/\WfM ss b m/\wfs ss b
def wfs(ss:List Str):List Stm->Prop
 |[]=>True
 |s::r=>wf ss s/\wfs ss r
end
theorem nK:∀{b:List Stm},wfs ss b->wf ss s->wfs ss (b++[s])
 |[],_,h=>by simp only[A2,wfs];exact #v[h,trivial]
 |x::r,hb,h=>by
  simp only[wfs]at hb
  show wfs ss (x::(r++[s]))
  simp only[wfs]
  exact #v[hb.1,nK hb.2 h]
structure Stt(M:MH)(p c:Addr)(cs:List Int)(i:Nat)(n:Cnt):Prop where
 st:M p=some (.lst [.ref c,.int i,.int n.s,.int n.b,.int n.l,.int n.a,.int n.n])
 cl:M c=some (.lst (cs.map D.int))
theorem Stt.ne(h:Stt M p c cs i n):c≠p:=by
 intro z;subst z
 have:=h.st.symm.trans h.cl
 simp only[B3.injEq,MO.lst.injEq]at this
 cases cs with
 |nil=>cases this
 |cons x r=>injection this with h1 _;cases h1
theorem Stt.kp(h:Stt M p c cs i n)(k:Kp S M M')(h1:p∉S)(h2:c∉S):Stt M' p c cs i n:=#v[k.at h.st h1,k.at h.cl h2]
theorem Stt.ext(h:Stt M p c cs i n)(k:Ext M M'):Stt M' p c cs i n:=#v[k _ _ h.st,k _ _ h.cl]
theorem Stt.put{M:MH}{p c:Addr}{I:List Int}{i j:Nat}{n m:Cnt}(h:Stt M p c I i n):Stt (FF M p (.lst [.ref c,.int j,.int m.s,.int m.b,.int m.l,.int m.a,.int m.n])) p c I j m :=
 #v[FB,by rw[aC h.ne];exact h.cl]
theorem Stt.upd{M J:MH}{p c:Addr}{L:List Int}{i j:Nat}{n m:Cnt}{l:List D}(h:Stt M p c L i n)(e:FF M p (.lst l)=J)(hl:l=[.ref c,.int j,.int m.s,.int m.b,.int m.l,.int m.a,.int m.n]):Stt J p c L j m/\Kp [p] M J/\∀ q,J q=none->M q=none:=by
 subst e;subst hl
 exists h.put,Kp.put (by simp),λq I=>?_
 by_cases z:q=p
 ·subst z;rw[FB]at I;cases I
 ·rw[aC z]at I;exact I
theorem pZ{n:Nat}(h:0<n):(n:Int)-1=((n-1:Nat):Int):=by lia
def qA(cs:List Int):Prop:=cs.length<=63/\∀ x∈cs,Cell x
inductive spNext(ds:List D)(M:MH)(Q:DK):Prop|mk:∀ p c cs i n,ds=[.ref p]->Stt M p c cs i n->qA cs->(∀ q M',M q=none->Pu M' q->Stt M' p c cs (i+1) n->Kp [p] M M'->Q (.ref q) M')->spNext ds M Q
inductive spStmt(d:Nat)(ds:List D)(M:MH)(Q:DK):Prop|mk:∀ p c cs i n ss,ds=[.ref p,nms ss,.int d]->Stt M p c cs i n->qA cs->Names ss->(∀ st j m M',i<j->Stt M' p c cs j m->wf ss st->dp st+d<=5->vW #v[n.s+1,n.b,n.l,n.a,n.n] m (tt st)->Kp [p] M M'->Q (stD st) M')->spStmt d ds M Q
inductive spLoop(d:Nat)(ds:List D)(M:MH)(Q:DK):Prop|mk:∀ p c cs i n ss q,ds=[.ref p,nms ss,.int d,.ref q]->Stt M p c cs i n->qA cs->Names ss->Pu M q->q≠p->q≠c->0<n.l->(∀ st j m M',i<=j->Stt M' p c cs j m->wf ss st->dp st+d<=5->vW #v[n.s+1,n.b,n.l,n.a,n.n] m (tt st)->Kp [p,q] M M'->Q (stD st) M')->spLoop d ds M Q
inductive spBlock(d:Nat)(ds:List D)(M:MH)(Q:DK):Prop|mk:∀ p c cs i n ss,ds=[.ref p,nms ss,.int d]->Stt M p c cs i n->qA cs->Names ss->(∀ b j m M',i<=j->Stt M' p c cs j m->wfs ss b->(∀ s∈b,dp s+d<=5)->vW n m (tts b)->Kp [p] M M'->Q (.tup (aO b)) M')->spBlock d ds M Q
structure Plan where
 ss:List Str
 rs:List Rw
 bl:List Stm
def plD(p:Plan):D:=.tup [nms p.ss,.tup (p.rs.map rwD),.tup (aO p.bl)]
structure WfP(p:Plan):Prop where
 names:Names p.ss
 rs:∀ r∈p.rs,WfR p.ss r
 rl:p.rs.length<=2
 bl:wfs p.ss p.bl
 dp:∀ s∈p.bl,KA.dp s<=4
 cs:(tts p.bl).s<=24
 cb:(tts p.bl).b<=2
 cl:(tts p.bl).l<=2
 ca:(tts p.bl).a<=1
 cn:(tts p.bl).n<=2
inductive spPlan(ds:List D)(M:MH)(Q:DK):Prop|mk:∀ c cs first ss,ds=[.ref c,.int first,nms ss]->M c=some (.lst (cs.map D.int))->qA cs->Cell first->Names ss->(∀ p M',WfP p->p.ss=ss->Ext M M'->Q (plD p) M')->spPlan ds M Q
end KA
namespace D3
open PySem PySem.Spec PyProof.Rows L2
section
variable {X:Cx}{G:Ga}{M:MH}{elt tg iter e:Expr}{scope:Scope}{pos:Pos}{Q:DK}{own:List Str}{js:List Nat}{N:List Str}{cl:List (Str×Addr)}
def OT(J:It)(H:Hp)(ds:List D):Prop:=∀ H',F6 H H'->(∀ i,i=ds.length->J.stop i H')/\∀ i,i<ds.length->J.go i H'/\∀ x H2,J.yld i H' x H2->H2=H'/\∃ d,ds[i]?=some d/\Is H' d x
theorem qB{J:Addr->Nat->List D->MH->Prop}{ds:List D}(block:∀ Y:Cx,(∃ C s H fp,Y=bR X N scope cl C s H fp)->∀ q i acc M' d,ds[i]?=some d->J q i acc M'->M' q=some (.lst acc)->GV Y (aN own js G) M' tg d λG3 M3=>M3=M'/\Sub (aN own js G) G3/\EV Y G3 M' elt λo M4=>M4 q=some (.lst acc)/\acc.length<An/\J q (i+1) (acc++[o]) (FF M4 q (.lst (acc++[o])))) :
  ∀ Y:Cx,(∃ C s H fp,Y=bR X N scope cl C s H fp)->∀ q i acc M' d,ds[i]?=some d->J q i acc M'->M' q=some (.lst acc)->GV Y (aN own js G) M' tg d λG3 M3=>M3=M'/\Sub (aN own js G) G3/\TVs Y G3 M' [] λk M4=>M4=M'/\if k=true then EV Y G3 M' elt λo M5=>M5 q=some (.lst acc)/\acc.length<An/\J q (i+1) (acc++[o]) (FF M5 q (.lst (acc++[o]))) else J q (i+1) acc M' :=
 λY I q i acc M' d hd v m=>xW (block Y I q i acc M' d hd v m) λ_ _ ⟨e1,e2,e3⟩=>#v[e1,e2,rfl,by rw[if_pos rfl];exact e3]
theorem tI(T:H4 X own js N scope cl)(L:X.xe=λ_ _=>False)(S:X.calm=true)(V:PI X tg iter wi)
  (h:∀ σ H,KF X.K H->Rel X G M σ H->wi σ H λJ H1=>F6 H H1/\∃(M1:MH) (ds:List D) (Iv:Addr->Nat->List D->MH->Prop),Rel X G M1 σ H1/\OT J H1 ds/\(∀ q,M1 q=none->Iv q 0 [] (FF M1 q (.lst []))) /\
   (∀ Y:Cx,(∃ C s H fp,Y=bR X N scope cl C s H fp)->∀ q i acc M' d,ds[i]?=some d->Iv q i acc M'->M' q=some (.lst acc)->GV Y (aN own js G) M' tg d λG3 M3=>M3=M'/\Sub (aN own js G) G3/\EV Y G3 M' elt λo M4=>M4 q=some (.lst acc)/\acc.length<An/\Iv q (i+1) (acc++[o]) (FF M4 q (.lst (acc++[o])))) /\
   ∀ q acc M',Iv q ds.length acc M'->M' q=some (.lst acc)->Q (.ref q) M')
  (hs:∀ x,A9 iter X.env x=pure x:=by intro _;rfl):EV X G M (.ListComp elt [#v[tg,iter,[],0]] scope pos) Q :=
 nF T L S V (λσ H kf R=>#v[_,h σ H kf R,λJ H1 ⟨g,M1,ds,Iv,R1,w,iv0,b,fin⟩=>#v[g,M1,ds,Iv,R1,λq i acc M' H' g' _ _=>#v[(w H' g').1 i,λI=>#v[((w H' g').2 i I).1,λx O y=>by
  let ⟨rfl,z⟩:=((w H' g').2 i I).2 x O y
  exact #v[F6.refl _,λ_ _ z=>z,z]]],iv0,qB b,fin]]) hs
theorem DH(T:H4 X own js N scope cl)(b2:X.xe=λ_ _=>False)(hc:X.calm=true)(hm:X.mg "range"=none)
  (h:AV X G M [e] λas M1=>∃(n:Int) (Iv:Addr->Nat->List D->MH->Prop),as=[.int n]/\0<=n/\n<1000/\(∀ q,M1 q=none->Iv q 0 [] (FF M1 q (.lst []))) /\
   (∀ Y:Cx,(∃ C s H fp,Y=bR X N scope cl C s H fp)->∀ q i acc M',i<n.toNat->Iv q i acc M'->M' q=some (.lst acc)->GV Y (aN own js G) M' tg (.int (i:Nat)) λG3 M3=>M3=M'/\Sub (aN own js G) G3/\EV Y G3 M' elt λo M4=>M4 q=some (.lst acc)/\acc.length<An/\Iv q (i+1) (acc++[o]) (FF M4 q (.lst (acc++[o])))) /\
   ∀ q acc M',Iv q n.toNat acc M'->M' q=some (.lst acc)->Q (.ref q) M')
  (hg:Gl X "range")(hse:A0 [e] X.env=[(false,eval e X.env)])(hs:∀ x,A9 (.Call (.Name "range" p) [e] [] p2) X.env x=pure x):EV X G M (.ListComp elt [#v[tg,.Call (.Name "range" p) [e] [] p2,[],0]] scope pos) Q:=by
 refine tI T b2 hc (hU hg hm (iU (G:=G)) hse) (λσ H kf R=>?_) hs
 exists M,_,R,h,λvs H' ds M' b1 g i R' q=>?_
 let ⟨n,Iv,e,h1,h2,V,block,O⟩:=q
 subst e
 let ⟨v,rfl,hv⟩:=dF i
 rw[aM]at hv;subst hv
 exists n,rfl,by lia,by lia,g,M',(Ca n.toNat).map λi:Nat=>D.int i,Iv,R',λH2 g2=>#v[λi e=>?_,λi I=>#v[?_,λx H3 y=>?_]],V,λY hY q i acc Z d hd L S=>?_,λq acc Z L S=>O q acc Z (by rw[Ab,Bo]at L;exact L) S
 ·show n.toNat<=i
  rw[e,Ab,Bo];exact Ao _
 ·show i<n.toNat
  simpa using I
 ·let ⟨e,y⟩:=y
  subst e;subst y
  have J:i<n.toNat:=by simpa using I
  exact #v[rfl,.int i,by rw[Ar,Ce J];rfl,aM.mpr (by simp)]
 ·rw[Ar]at hd
  have hi:i<n.toNat:=by
   refine Fv λz=>?_
   rw[B2 (by rw[Bo];exact z)]at hd;cases hd
  rw[Ce hi]at hd
  have hd:D.int (i:Nat)=d:=by simpa using hd
  subst hd
  exact block Y hY q i acc Z hi L S
end
theorem jT(jj:Nat)(T:H4 X own js N scope cl)(d9:X.xe=λ_ _=>False)(hc:X.calm=true)(hi:PI X tg iter wi)(hN:X.N.Nodup)(hj:X.N[jj]?=some y)(hy:Loc X.env.scope y)(hyf:X.fn y=true\/X.env.scope.names.lookup y=some .local)
  (hsw:swapsWith (.ListComp elt [#v[tg,iter,ifs,0]] scope pos) (some (.Name y py)) spos.line X.env=pure true)
  (h:∀ σ H,KF X.K H->Rel X G M σ H->wi σ H λJ H1=>F6 H H1/\∃(M1:MH) (ds:List D) (Iv:Addr->Nat->List D->MH->Prop),Rel X G M1 σ H1 /\
   (∀ q i acc M' H',F6 H1 H'->F9 X.K M' H'->Iv q i acc M'->(i=ds.length->J.stop i H')/\(i<ds.length->J.go i H'/\∀ x H2,J.yld i H' x H2->F6 H' H2/\(∀ b o,H' b=some o->H2 b=some o)/\∃ d,ds[i]?=some d/\Is H2 d x))/\(∀ q,M1 q=none->Iv q 0 [] (FF M1 q (.lst []))) /\
   (∀ Y:Cx,(∃ C s H fp,Y=bR X N scope cl C s H fp)->∀ q i acc M' d,ds[i]?=some d->Iv q i acc M'->M' q=some (.lst acc)->GV Y (aN own js G) M' tg d λG3 M3=>M3=M'/\Sub (aN own js G) G3/\TVs Y G3 M' ifs λk M4=>M4=M'/\if k=true then EV Y G3 M' elt λo M5=>M5 q=some (.lst acc)/\acc.length<An/\Iv q (i+1) (acc++[o]) (FF M5 q (.lst (acc++[o]))) else Iv q (i+1) acc M') /\
   ∀ q acc M',Iv q ds.length acc M'->M' q=some (.lst acc)->E.nx (G.set jj (some (.ref q))) M')
  (hs:∀ x,A9 iter X.env x=pure x:=by intro _;rfl):EX X G M (.Assign [.Name y py] (.ListComp elt [#v[tg,iter,ifs,0]] scope pos) spos) E:=by
 intro L s σ H I R
 rw[exec_Assign_Name_used _ _ _ _ hsw]
 refine Ac (Dl (Ac ?_))
 show wpAny _ X.A (do let _ <- comprehension (.ListComp elt [#v[tg,iter,ifs,0]] scope pos) scope X.env _ (newList []) false (eval iter X.env) (some (assign (.Name y py) X.env))) _ _ s
 refine Ac (Cz (pT (use:=some (assign (.Name y py) X.env)) (Qc:=λ_ s'=>SPD X L H E .next s') (F:=λq=>E.nx (G.set jj (some (.ref q)))) T d9 hc hi hs I (h σ H (dZ I) R) (λJ H1 h=>h) λq M5 C s3 H3 fp σ5 H5 s6 f I3 f3 hC I6 g R5=>?_) (λ_ s' hq=>Ag (Ag hq)) λ_ _ e=>e)
 let ⟨mm,d7,_⟩:=id I6.loc
 have IX:Inv X L σ H5 s6:=Inv.unblock I3 f3 I6 hC (Heap.SameBut.refl C s6.heap)
 have O:H5 C=none:=I6.free
 have Z:C≠X.env.locals:=by rw[hC];exact Ds I3.lt
 have d8:C∉X.fs:=I3.nofs (by rw[hC];exact Ao _)
 let ⟨oC,b4,b5,b1,b3,b7⟩:=id d7
 have b1:s6.heap.get? C=some oC:=b1
 have d6:Inv X (L++[(C,oC)]) σ H5 s6:=IX.pins_of λz hz=>by
  rcases Aq.mp hz with hz|hz
  ·exact IX.pin z (Bg _ hz)
  ·rw[Al.mp hz]
   exact #v[b1,O,Z,d8,λv e=>by rw[b3]at e;cases e]
 have hl:jj<σ.length:=by rw[IX.len];exact (Ax.mp hj).1
 refine wpAny_assign_Name (jF d6 hN hj hy (v:=.ref q) rfl (λs7 I7=>?_) hyf)
 have pC:=I7.pin (C,oC) (Bg _ (Bg _ (Al.mpr rfl)))
 exists mm,#v[oC,b4,b5,pC.1,b3,b7],λh' b2=>?_
 have S:∀ p∈X.pn++L,p.1≠C:=λz hz e=>by
  have:=(I3.pin z hz).1
  exact absurd (As this) (by rw[e,hC];exact Cd _)
 have V:∀ x c,X.env.cells.lookup x=some c->c≠C:=λx c e z=>by
  let ⟨v,qc⟩:=I3.cell x c e
  exact absurd qc.lt (by rw[z,hC];exact Cd _)
 have I8:Inv X L (σ.set jj (some (.ref q))) H5 { s7 with heap:=h' }:=(I7.unpinned).turned (t':=s7.toks) (it:=C) (λb o hb e=>(b2.2 b hb).trans e) O Z (.inr (by rw[hC];exact I3.sz)) V S
 exact #v[_,H5,_,M5,I8,g,R5.set hl (aH.mpr rfl),f]
theorem tJ(jj:Nat)(T:H4 X own js N scope cl)(b4:X.xe=λ_ _=>False)(hc:X.calm=true)(hm:X.mg "range"=none)(hN:X.N.Nodup)(hj:X.N[jj]?=some y)(hy:Loc X.env.scope y)(hyf:X.fn y=true\/X.env.scope.names.lookup y=some .local)
  (hsw:swapsWith (.ListComp elt [#v[tg,.Call (.Name "range" p) [e] [] p2,[],0]] scope pos) (some (.Name y py)) spos.line X.env=pure true)
  (h:AV X G M [e] λas M1=>∃(n:Int) (Iv:Addr->Nat->List D->MH->Prop),as=[.int n]/\0<=n/\n<1000/\(∀ q,M1 q=none->Iv q 0 [] (FF M1 q (.lst []))) /\
   (∀ Y:Cx,(∃ C s H fp,Y=bR X N scope cl C s H fp)->∀ q i acc M',i<n.toNat->Iv q i acc M'->M' q=some (.lst acc)->GV Y (aN own js G) M' tg (.int (i:Nat)) λG3 M3=>M3=M'/\Sub (aN own js G) G3/\EV Y G3 M' elt λo M4=>M4 q=some (.lst acc)/\acc.length<An/\Iv q (i+1) (acc++[o]) (FF M4 q (.lst (acc++[o])))) /\
   ∀ q acc M',Iv q n.toNat acc M'->M' q=some (.lst acc)->E.nx (G.set jj (some (.ref q))) M')
  (hg:Gl X "range")(hse:A0 [e] X.env=[(false,eval e X.env)])(hs:∀ x,A9 (.Call (.Name "range" p) [e] [] p2) X.env x=pure x):EX X G M (.Assign [.Name y py] (.ListComp elt [#v[tg,.Call (.Name "range" p) [e] [] p2,[],0]] scope pos) spos) E:=by
 refine jT jj T b4 hc (hU hg hm (iU (G:=G)) hse) hN hj hy hyf hsw (λσ H kf R=>?_) hs
 exists M,_,R,h,λvs H' ds M' b3 g i R' q=>?_
 let ⟨n,Iv,e,h1,h2,b1,block,b2⟩:=q
 subst e
 let ⟨v,rfl,hv⟩:=dF i
 rw[aM]at hv;subst hv
 exists n,rfl,by lia,by lia,g,M',(Ca n.toNat).map λi:Nat=>D.int i,Iv,R',λq i acc Z H2 g2 V O=>#v[λe=>?_,λS=>#v[?_,λx H3 y=>?_]],b1,λY hY q i acc Z d hd O V=>?_,λq acc Z O V=>b2 q acc Z (by rw[Ab,Bo]at O;exact O) V
 ·show n.toNat<=i
  rw[e,Ab,Bo];exact Ao _
 ·show i<n.toNat
  simpa using S
 ·let ⟨e,y⟩:=y
  subst e;subst y
  have L:i<n.toNat:=by simpa using S
  exact #v[F6.refl _,λ_ _ z=>z,.int i,by rw[Ar,Ce L];rfl,aM.mpr (by simp)]
 ·rw[Ar]at hd
  have hi:i<n.toNat:=by
   refine Fv λz=>?_
   rw[B2 (by rw[Bo];exact z)]at hd;cases hd
  rw[Ce hi]at hd
  have hd:D.int (i:Nat)=d:=by simpa using hd
  subst hd
  have:=block Y hY q i acc Z hi O V
  intro J s σ H v u I R r i1
  refine thn (this J s σ H v u I R r i1) λ_ s2 h2=>?_
  let ⟨σ2,H2,G2,M3,I2,g2,R2,e1,e2,e3⟩:=h2
  exact #v[σ2,H2,G2,M3,I2,g2,R2,e1,e2,#v[rfl,by rw[if_pos rfl];exact e3]]
theorem lR(jj:Nat)(T:H4 X own js N scope cl)(b3:X.xe=λ_ _=>False)(hc:X.calm=true)(hN:X.N.Nodup)(hj:X.N[jj]?=some y)(hy:Loc X.env.scope y)(hyf:X.fn y=true\/X.env.scope.names.lookup y=some .local)
  (hsw:swapsWith (.ListComp elt [#v[tg,iter,ifs,0]] scope pos) (some (.Name y py)) spos.line X.env=pure true)(f:D->D)(pr:D->Bool)
  (h:EV X G M iter λd M1=>∃ ds:List D,d=.tup ds/\ds.length<=An /\
   (∀ Y:Cx,(∃ C s H fp,Y=bR X N scope cl C s H fp)->∀ M',Ext M1 M'->∀ d∈ds,GV Y (aN own js G) M' tg d λG3 M3=>M3=M'/\Sub (aN own js G) G3/\TVs Y G3 M' ifs (λk M4=>M4=M'/\k=pr d)/\(pr d=true->EV Y G3 M' elt λo M4=>M4=M'/\o=f d)) /\
   ∀ q,M1 q=none->E.nx (G.set jj (some (.ref q))) (FF M1 q (.lst ((ds.filter pr).map f))))
  (hs:∀ x,A9 iter X.env x=pure x):EX X G M (.Assign [.Name y py] (.ListComp elt [#v[tg,iter,ifs,0]] scope pos) spos) E:=by
 refine jT jj T b3 hc (qV (fY (G:=G))) hN hj hy hyf hsw (λσ H kf R=>?_) hs
 exists M,_,R,h,λv H' d M' b2 g i R' q=>?_
 let ⟨ds,e,hz,block,O⟩:=q
 subst e
 rw[bM]at i
 let ⟨l,xs,rfl,hx,J⟩:=i
 have Z:=J.len
 exists l,rfl,#v[xs,SqT.of hx],g,M',ds,λq i I S=>M' q=none/\S=FF M' q (.lst I)/\I=((ds.take i).filter pr).map f,R',λq i I S H2 V m2 v2=>?_,λq hq=>#v[hq,rfl,by simp],iV hz block,λq I S ⟨h1,h2,h3⟩ _=>by rw[h2,h3,Bx];exact O q h1
 have L:SqT X.K H2 l xs:=SqT.of (V _ _ hx)
 exists λe=>#v[xs,L,by lia],λb1=>#v[#v[xs,xs[i]'(by lia),L,by simp],λx H3 y=>?_]
 let ⟨e,y⟩:=y
 subst e
 have e1:=y xs L
 let ⟨d,e2,i2⟩:=(J.grow V).get' e1
 exact #v[F6.refl _,λ_ _ z=>z,d,e2,i2]
theorem tK:∀{ss:List Str} {us:List Value},Vals (ss.map V.str) us->StrsAre us ss
 |[],us,h=>by cases h;exact .nil
 |s::r,us,h=>by
  cases h with
  |cons h1 h2=>let ⟨t,rfl⟩:=h1;exact .cons _ _ (tK h2)
theorem qC:∀{ss:List Str} {xs:List V},IsL H (ss.map D.str) xs->xs=ss.map V.str
 |[],xs,h=>aV.mp h
 |s::r,xs,h=>by
  let ⟨x,I,rfl,h1,h2⟩:=aG.mp h
  rw[aR]at h1;subst h1
  rw[qC h2];rfl
open AutoSeq1 (wpAny_loadPart')
theorem JA{X:Cx}{pins:List (Addr×Obj)}{σ:St}{H:Hp}{s:Shared}{g:Heap}{e it:Addr}{tk:Nat}(I:L2.Inv X pins σ H s)(fe:kM X pins H e)(fi:kM X pins H it)(ne:e≠it)
  (he:∃ o,s.heap.get? e=some o)(hi:∃ o,s.heap.get? it=some o)(V:∃ o,g.get? e=some o)(Z:∃ o,g.get? it=some o)(k:∀ b o,b≠e->b≠it->s.heap.get? b=some o->g.get? b=some o) :
  ∃ m:Heap,L2.Inv X pins σ H { s with heap:=m,toks:=tk }/\m.objs.size=s.heap.objs.size/\∀ b o,m.get? b=some o->g.get? b=some o:=by
 let ⟨oe,he⟩:=he
 let ⟨oi,hi⟩:=hi
 let ⟨S,V⟩:=V
 let ⟨J,Z⟩:=Z
 let ⟨a0,a1,a2,a3,a4,a5⟩:=fi
 let ⟨b0,b1,b2,b3,b4,b5⟩:=fe
 have L:Heap.SameBut it s.heap (s.heap.update it λ_=>J):=Heap.SameBut.update ..
 have O:Heap.SameBut e (s.heap.update it λ_=>J) ((s.heap.update it λ_=>J).update e λ_=>S):=Heap.SameBut.update ..
 have g1:(s.heap.update it λ_=>J).get? it=some J:=Bc (λ_=>J) hi (Fh.mp Z).2
 have g2:((s.heap.update it λ_=>J).update e λ_=>S).get? e=some S:=Bc (λ_=>S) ((L.2 e ne).trans he) (Fh.mp V).2
 have I1:L2.Inv X pins σ H { s with heap:=s.heap.update it λ_=>J }:=I.turned (t':=s.toks) (λb o Y q=>(L.2 b Y).trans q) a0 a1 a3 a4 a5
 have I2:L2.Inv X pins σ H { s with heap:=(s.heap.update it λ_=>J).update e λ_=>S,toks:=tk }:=I1.turned (λb o Y q=>(O.2 b Y).trans q) b0 b1 b3 b4 b5
 exists _,I2,O.1.trans L.1,λb o q=>?_
 by_cases z:b=e
 ·subst z;rw[g2]at q;rw[<- q];exact V
 ·rw[O.2 b z]at q
  by_cases z':b=it
  ·subst z';rw[g1]at q;rw[<- q];exact Z
  ·rw[L.2 b z']at q
   exact k b o z z' q
section
variable {X:Cx}{G:Ga}{M:MH}{o e a b:Expr}{es:List Expr}{pos:Pos}{Q:DK}
theorem mK{x y:Str}{t:Tok}(hm:X.mg x=some (.str y t))(q:Q (.str y) M)(hg:Gl X x:=by rfl)(hd:(x == ("__debug__":Str))=false:=by decide):EV X G M (.Name x pos) Q :=
 EV.of (mD (v:=.str y) hg hm #v[_,rfl] hd) λσ H kf R=>show _ from λ_=>#v[F6.refl _,_,M,aR.mpr rfl,R.mem,q]
theorem tN:bootBuiltins "str"=some (.type "str"):=by lia
theorem JB{p:Pos}(hm:X.mg "str"=none)(h:AV X G M [e] λds M1=>∃ i:Int,ds=[.int i]/\i.natAbs.log2<1920/\Q (.str (toString i)) M1)(hg:Gl X "str":= by rfl)
  (he:SeX X e:=by rfl)(hpl:NpX X pos:=by rfl):EV X G M (.Call (.Name "str" p) [e] [] pos) Q :=
 dQ qW hm tN (h.mono λds M1 ⟨i,e1,hz,q⟩=>λH xs J hx m=>by
  subst e1
  let ⟨v,rfl,I⟩:=dF hx
  rw[aM]at I;subst I
  exact #v[i,rfl,hz,λ_=>#v[F6.refl _,_,M1,aR.mpr rfl,m,q]]) hg (by decide) (by decide) he hpl
def iK(z:Str)(n:Nat):Str:=#v[(Bw n z.cps).foldl (·++·) #[]]
theorem DI(z:Str):iK z 1=z:=by unfold iK;simp
def TR:R2:=λx y H Q=>∃(z:Str) (k:Int),x=.str z/\y=.int k/\0<=k/\1<=z.length/\k<=1000/\z.length<=1000/\Q (.str (iK z k.toNat)) H
theorem AH(n:Nat)(c:Array Nat):∀ acc:Array Nat,((Bw n c).foldl (·++·) acc).size=acc.size+n*c.size:=by
 induction n with
 |zero=>intro acc;simp
 |succ n I=>intro acc;rw[Fb,E7,I,Array.size_append,Fy];lia
theorem tO(z:Str)(n:Nat):(iK z n).length=n*z.length:=by
 show (iK z n).cps.size=n*z.cps.size
 unfold iK
 rw[AH];simp
theorem JC:OpR X (binaryOp .Mult) TR:=by
 intro J s σ H x y v u Q I S O h
 let ⟨z,k,rfl,rfl,V,h1,hk,L,q⟩:=h
 let ⟨t,rfl⟩:=(show ∃ t,v=Value.str z t from S)
 let ⟨t',rfl⟩:=(show ∃ t,u=Value.int k t from O)
 have hm:z.length*k.toNat<=1000000:=Ay (Nat.mul_le_mul L (show k.toNat<=1000 by lia)) (by decide)
 refine PySem.P.mul_str ?_ ?_ ?_ ?_
 ·rw[decide_eq_false (by lia),decide_eq_false (by lia)];rfl
 ·intro n1 _
  have:(1000:Int)<=(2^63-1) / k:=Int.le_ediv_of_mul_le (by lia) (by lia)
  lia
 ·intro _ _
  unfold Builtin.Str.tooLong
  exact decide_eq_false (by unfold An;lia)
 ·by_cases hk0:k<1
  ·have:k=0:=by lia
   subst this
   rw[if_pos (by decide)]
   exact #v[by decide,#v[.str _,H,I.tok _,#v[_,rfl],q]]
  ·rw[if_neg hk0]
   by_cases hk1:k=1
   ·subst hk1
    rw[if_pos (by simp)]
    exists .str z,H,I,#v[_,rfl],?_
    have:=q
    rw[show (1:Int).toNat=1 from rfl,DI]at this
    exact this
   ·rw[if_neg (by simp;exact #v[hk1,by lia])]
    exists ?_,#v[.str _,H,I.tok _,#v[_,rfl],q]
    have:=tO z k.toNat
    unfold iK at this
    rw[this]
    rw[Nat.mul_comm]
    unfold An
    lia
theorem rL(h:EV X G M a λda Ma=>EV X G Ma b λdb Mb=>∃(z:Str) (k:Int),da=.str z/\db=.int k/\0<=k/\1<=z.length/\k<=1000/\z.length<=1000/\Q (.str (iK z k.toNat)) Mb):EV X G M (.BinOp a .Mult b pos) Q :=
 lN JC (h.mono λda Ma I=>I.mono λdb Mb ⟨z,k,e1,e2,h0,h1,hk,hz,q⟩=>λH x y J hx hy m=>by
  subst e1;subst e2
  rw[aR]at hx;rw[aM]at hy;subst hx;subst hy
  exact #v[z,k,rfl,rfl,h0,h1,hk,hz,λ_=>#v[F6.refl _,_,Mb,aR.mpr rfl,m,q]])
def TU:V->List V->Hp->VK->Prop:=λx vs H Q=>∃(z:Str) (l:Addr) (ys:List Str),x=.str z/\vs=[.ref l]/\H l=some (.lst (ys.map V.str))/\(ys.map (·.length)).sum+ys.length*z.length<=16777216/\Q (.str (Txt.join z ys)) H
theorem nL:∀{ys:List Str} {its:List Value},Vals (ys.map V.str) its->StrsAre its ys
 |[],_,.nil=>.nil
 |y::ys,_,.cons r q=>by
  let ⟨t,rfl⟩:=(show ∃ t,_=Value.str y t from r)
  exact .cons y t (nL q)
theorem JD:MtR X "str.join" TU:=by
 intro L s σ H x vs v us Q I Z O h
 let ⟨z,l,ys,rfl,rfl,Y,S,q⟩:=h
 let ⟨t,rfl⟩:=(show ∃ t,v=Value.str z t from Z)
 let ⟨u,rfl,V⟩:=O.one
 cases V
 let ⟨_,J,n,r,hl,e⟩:=I.lstM Y
 exact join_list (items:=J.toArray) #v[_,e,rfl,n,rfl] (by simpa using nL r) S λt' k=>#v[.str _,H,I.tok _,#v[_,rfl],q]
theorem JE(h:EV X G M o λd M1=>∃ z,d=.str z/\EV X G M1 e λd2 M2=>∃(l:Addr) (ys:List Str),d2=.ref l/\M2 l=some (.lst (ys.map D.str))/\(ys.map (·.length)).sum+ys.length*z.length<=16777216/\Q (.str (Txt.join z ys)) M2)
  (V:attributeBase o "join" X.env (eval o X.env)=eval o X.env)
  (Z:HfX X cpos e)
  (Y:(apos.endLine == cpos.line)=true)(hs:SeX X e)(O:NpX X cpos) :
  EV X G M (.Call (.Attribute o "join" apos) [e] [] cpos) Q:=by
 refine EV.of (nA PySem.F.plainAttrs_str PySem.F.slot_str_join PySem.F.type_str_join JD (fY (G:=G)) (iU (G:=G) (es:=[e])) V Z Y hs O) λσ H kf R=>?_
 exists M,_,R,h,λv H' d M' b1 g i R' q=>?_
 let ⟨z,rfl,q⟩:=q
 rw[aR]at i;subst i
 exists rfl,M',λJ M2=>∃ d2,J=[d2]/\∃(l:Addr) (ys:List Str),d2=.ref l/\M2 l=some (.lst (ys.map D.str))/\(ys.map (·.length)).sum+ys.length*z.length<=16777216/\Q (.str (Txt.join z ys)) M2,R',fJ (q.mono λd2 M2 L=>kQ #v[d2,rfl,L]) hs,λvs H2 J M2 b2 g2 i2 S L=>?_
 let ⟨d2,rfl,l,ys,rfl,hl,hz,L⟩:=L
 let ⟨v2,rfl,I⟩:=dF i2
 rw[aH]at I;subst I
 let ⟨xs,hx,hi⟩:=S.mem l _ hl
 rw[gR hi]at hx
 exact #v[z,l,ys,rfl,rfl,hx,hz,λ_=>#v[g.trans g2,_,M2,aR.mpr rfl,S.mem,L]]
end
theorem rM:typeLookup (.type "tuple") "__reversed__"=pure none:=by rw[typeLookup_type,builtinLookup_eq_fast];kernel_rfl
theorem pA:Slot "reversed" "__init__" "object.__init__":=
 .of (owner :="object") (n :="__init__") (by rw[typeLookup_type,builtinLookup_eq_fast];kernel_rfl) (by lia) (by lia) (by lia)
  (by first|exact .inl (by lia)|exact .inr (by lia)) (by rw[isSubtype_type];kernel_rfl)
theorem vX:TypeCalled "reversed" "reversed.__new__" "object.__init__":=
 #v[by lia,by lia,#v[_,_,F.mro_reversed],F.made_reversed,by lia,F.sub_reversed_self,pA]
theorem rN:isSubtype (.type "tuple") (.type "dict")=pure false:=by rw[isSubtype_type];kernel_rfl
def JF(t:Addr)(i:Int):Obj:={ cls:=.type "reversed",data:=.fields #[.ref t,rawInt i] }
theorem JG(t:Addr)(xs:Array Value)(m:Nat)(L:Option Addr)(O:Array (Option Value))(J:xs.size<=An) :
  Meets (Builtin.«reversed.__new__» #v[[.type "reversed",.ref t],[]]) (λ_ R st=>st.heap.get? t=some { cls:=.type "tuple",dict:=L,data:=.seq xs m,slots:=O } /\
   ∀ tk,R (.ok (.ret (.ref st.heap.objs.size))) { st with heap:=st.heap.push (JF t ((xs.size:Int)-1)),toks:=tk }) :=
 .of_wp λP w B R st q=>by
  let ⟨e1,q⟩:=q
  have I:st.TypeIs (.ref t) "tuple":= #v[_,e1,rfl]
  unfold Builtin.«reversed.__new__»
  refine Ac (B4 (newClass_reversed _) ?_)
  try dsimp only
  refine Ac (B4 (a:=()) (by first|rfl|kernel_rfl) ?_)
  refine Ac (B4 (a:=()) (by first|rfl|kernel_rfl) ?_)
  try dsimp only
  refine Ac (wpAny_specialOf I rM ?_)
  try dsimp only
  refine Ac ?_
  show wpAny _ _ (isInstance (.ref t) (.type "dict") >>= _) _ _ _
  refine Ac (wpAny_isInstance I rN ?_)
  rw[if_neg (by decide)]
  refine Ac (wpAny_specialOf I PySem.F.slot_tuple_getitem.lookup ?_)
  dsimp only
  rw[if_pos (by lia)]
  refine Ag ?_
  rw[if_neg (by decide)]
  refine Ac (len_tuple (show IsTup st.heap t xs from #v[_,e1,rfl,m,rfl]) (by unfold An at J;lia) ?_)
  refine Ac (B4 (a:=some (xs.size:Int)) rfl ?_)
  try dsimp only
  show wpAny _ _ (Builtin.SmallTypes.newRecord (.type "reversed") [.ref t,rawInt ((xs.size:Int)-1)] >>= _) _ _ _
  refine Ac ?_
  show wpAny _ _ (newObj (.type "reversed") (.fields #[.ref t,rawInt ((xs.size:Int)-1)])) _ _ _
  refine Bs (Ag #v[_,rfl,q _]) (by size_fits)
theorem qD:Manifest.owners.lookup (String.ofList ['d','e','s','r','e','v','e','r'].reverse)=some Manifest.sig_reversed:=by kernel_rfl
theorem cU:Slot "reversed" "__next__" "reversed.__next__":=
 .of (owner :="reversed") (n :="__next__") (by rw[typeLookup_type,builtinLookup_eq_fast];kernel_rfl) (by lia) (by lia) (by lia)
  (by first|exact .inl (by lia)|exact .inr (by lia)) (by rw[isSubtype_type];kernel_rfl)
theorem gU:entryFor table "reversed.__next__"=some Builtin.«reversed.__next__»:=entryFor_of_tree (by kernel_rfl)
theorem iM(a:Value):argsOk "reversed.__next__" #v[[a],[]]:=by
 unfold argsOk;rw[signature?_of (id :="reversed.__next__") (n:=['_','_','t','x','e','n','_','_']) (o:=['d','e','s','r','e','v','e','r']) (by kernel_rfl) qD];kernel_rfl
theorem iN:Slot "reversed" "__iter__" "reversed.__iter__":=
 .of (owner :="reversed") (n :="__iter__") (by rw[typeLookup_type,builtinLookup_eq_fast];kernel_rfl) (by lia) (by lia) (by lia)
  (by first|exact .inl (by lia)|exact .inr (by lia)) (by rw[isSubtype_type];kernel_rfl)
theorem pB(a:Value):argsOk "reversed.__iter__" #v[[a],[]]:=by
 unfold argsOk;rw[signature?_of (id :="reversed.__iter__") (n:=['_','_','r','e','t','i','_','_']) (o:=['d','e','s','r','e','v','e','r']) (by kernel_rfl) qD];kernel_rfl
theorem nM:entryFor table "reversed.__iter__"=some Builtin.«dict_keyiterator.__iter__» :=
 entryFor_alias (id' :="dict_keyiterator.__iter__") (by kernel_rfl) (by first|rfl|lia|(unfold String.splitOn;simp +decide [String.splitOnAux])) (by lia) (by kernel_rfl)
def kU(h:Heap)(a t:Addr)(i:Int):Prop:=∃ o,h.get? a=some o/\o.cls=.type "reversed"/\o.data=.fields #[.ref t,rawInt i]
section
variable {P:Program}{w:World}{B:Around}{Z:Value->Shared->Prop}{st:Shared}{t it:Addr}{xs:Array Value}
theorem DJ(S:st.heap.IsTuple t xs)(O:xs.size<=An)
  (k:∀ tk,R (.ref st.heap.objs.size) { st with heap:=st.heap.push (JF t ((xs.size:Int)-1)),toks:=tk }):wpAny (model P w) B (call (.type "reversed") [.ref t]) R Z st:=by
 let ⟨⟨cl,J,I,L⟩,e1,e2,m,e3⟩:=S
 replace e2:cl=.type "tuple":= e2
 replace e3:I=.seq xs m:=e3
 subst e2 e3
 refine callType_new vX (by decide) (F.typeCall_reversed_1 _) (F.newCall_reversed_1 _) (λo=>F.args_object_init_2 o _) F.entry_reversed_new (JG t xs m J L O) #v[e1,λtk=>?_]
 exact #v[#v[_,Ap _ rfl,rfl],k tk]
theorem DL{i:Nat}{x:Value}{Q:Option Value->Shared->Prop}(Y:kU st.heap it t (i:Int))(S:st.heap.IsTuple t xs)(hx:xs[i]?=some x)(hsz:xs.size<=An)
  (hQ:∀ h' tk,kU h' it t ((i:Int)-1)->Heap.SameBut it st.heap h'->Q (some x) { st with heap:=h',toks:=tk }):wpAny (model P w) B (pyNext (.ref it)) Q Z st:=by
 let ⟨o,I,L,hd⟩:=id Y
 have O:st.TypeIs (.ref it) "reversed":= #v[o,I,L]
 have J:st.TypeIs (.ref t) "tuple":= by let ⟨V,h1,h2,_⟩:=S;exact #v[V,h1,h2]
 have hi:i<xs.size:=(D2.mp hx).1
 unfold pyNext
 refine Ac (wpAny_attempt (wpAny_callSpecial?_slot (name:=Aa "__next__") O cU
  (wpAny_call_entry cU O gU ?_ (iM _))))
 unfold Builtin.«reversed.__next__»
 refine Ac (B4 (a:=(Value.ref it,[])) rfl ?_)
 try dsimp only
 refine Ac (wpAny_field I hd (x:=.ref t) rfl ?_)
 refine Ac (wpAny_field I hd (x:=rawInt (i:Int)) rfl ?_)
 show wpAny _ _ (if (i:Int)<0 then _ else _) _ _ st
 rw[if_neg (by lia)]
 refine Ac (wpAny_specialOf J PySem.F.slot_tuple_getitem.lookup ?_)
 rw[if_neg (by decide)]
 refine Ac (wpAny_mkInt ?_)
 refine Ac (wpAny_attempt (getItem_tuple (j:=i) (show IsTup st.heap t xs from S) (by lia) (by unfold An at hsz;lia) (by unfold seqIndex?;simp;lia) hx ?_))
 dsimp only
 refine Ac (wpAny_field I hd (x:=rawInt (i:Int)) rfl ?_)
 show wpAny _ _ (setField (.ref it) 1 (rawInt ((i:Int)-1)) >>= _) _ _ _
 refine Ac (wpAny_setField I hd (by simp) ?_)
 refine Ag #v[x,rfl,Ag (hQ _ _ ?_ (Heap.SameBut.update ..))]
 exact #v[_,Bc _ I (Obj.isFreed_of_fields (Obj.data_mapFields hd _)),(Obj.cls_mapFields ..).trans L,by rw[Obj.data_mapFields hd];simp]
theorem JH(hh:B.handled=none)(b1:kU st.heap it t (-1))(hQ:∀ h',Heap.ExtBut it st.heap h'->Q none { st with heap:=h' }):wpAny (model P w) B (pyNext (.ref it)) Q Z st:=by
 let ⟨o,I,hc,hd⟩:=id b1
 have V:st.TypeIs (.ref it) "reversed":= #v[o,I,hc]
 unfold pyNext
 refine Ac (wpAny_attempt (wpAny_callSpecial?_slot (name:=Aa "__next__") V cU
  (wpAny_call_entry cU V gU ?_ (iM _))))
 unfold Builtin.«reversed.__next__»
 refine Ac (B4 (a:=(Value.ref it,[])) rfl ?_)
 try dsimp only
 refine Ac (wpAny_field I hd (x:=.ref t) rfl ?_)
 refine Ac (wpAny_field I hd (x:=rawInt (-1)) rfl ?_)
 show wpAny _ _ (if (-1:Int)<0 then _ else _) _ _ st
 rw[if_pos (by decide)]
 refine Ac (wpAny_rule ?_)
 refine Ac ?_
 show wpAny _ _ (setField (.ref it) 1 (rawInt (-1)) >>= _) _ _ _
 refine Ac (wpAny_setField I hd (by simp) ?_)
 have J:(Obj.mapFields (·.setIfInBounds 1 (rawInt (-1))) o).data=.fields (#[.ref t,rawInt (-1)].setIfInBounds 1 (rawInt (-1))):=Obj.data_mapFields hd _
 have O:Heap.SameBut it st.heap (st.heap.update it (Obj.mapFields (·.setIfInBounds 1 (rawInt (-1))))):=Heap.SameBut.update ..
 refine wpAny_setField (Bc _ I (Obj.isFreed_of_fields J)) J (by simp) ?_
 have S:Heap.SameBut it (st.heap.update it (Obj.mapFields (·.setIfInBounds 1 (rawInt (-1))))) ((st.heap.update it (Obj.mapFields (·.setIfInBounds 1 (rawInt (-1))))).update it (Obj.mapFields (·.setIfInBounds 0 .none))):=Heap.SameBut.update ..
 have L:Heap.ExtBut it st.heap ((st.heap.update it (Obj.mapFields (·.setIfInBounds 1 (rawInt (-1))))).update it (Obj.mapFields (·.setIfInBounds 0 .none))):=λb o Y e=>(S.2 b Y).trans ((O.2 b Y).trans e)
 generalize (st.heap.update it (Obj.mapFields (·.setIfInBounds 1 (rawInt (-1))))).update it (Obj.mapFields (·.setIfInBounds 0 .none))=h2 at L ⊢
 refine Ac ?_
 show wpAny _ _ (newExc (.type "StopIteration") [] >>= _) _ _ _
 refine Ac ?_
 simp only[newExc,newTuple]
 refine Ac (Bs ?_ (by size_fits))
 refine Ac (m:=firstArgMember _ _) (B4 (a:=Value.none) (by first|rfl|(simp only[firstArgMember];rfl)) ?_)
 refine Bs ?_ (by size_fits)
 simp only[raiseNew]
 refine Ac (wpAny_handled ?_)
 first|rw[show B.in1.handled=none from hh]|rw[hh]
 refine Ac (Ag (wpAny_throw ?_))
 refine Ac (wpAny_isInstance (T :="StopIteration") (b:=true) #v[_,Ap _ rfl,rfl] isSubtype_stop ?_)
 exact Ag (hQ _ ((L.push _).push _))
theorem tP(J:kU st.heap it t i)(h:Q (.ref it) st):wpAny (model P w) B (pyIter (.ref it)) Q Z st:=by
 have I:st.TypeIs (.ref it) "reversed":= let ⟨o,ho,hc,_⟩:=J;#v[o,ho,hc]
 refine wpAny_pyIter_slot I iN (wpAny_call_entry iN I nM ?_ (pB _))
 show wpAny _ _ (ret (.ref it)) _ _ st
 exact Ag #v[_,rfl,"reversed",_,I,cU.lookup,h]
end
def ItR(K:Ad)(a:Addr)(n:Nat):It :=
 #v[λi H=>∃ xs x,SqT K H a xs/\xs.length=n/\xs.reverse[i]?=some x,λi H v H'=>H'=H/\∀ xs,SqT K H a xs->xs.reverse[i]?=some v,λi H=>∃ xs,SqT K H a xs/\xs.length=n/\n=i]
theorem DM{P:Program}{w:World}{K:Ad}{tg:Expr}(a e:Addr)(n:Nat) :
  Turn P w K tg (ItR K a n) [e] e (λi h=>kU h e a ((n:Int)-1-i)) where
 mem:=by simp
 obj:=λi h st b L=>by
  have z:b=e:=by simpa using L
  subst z
  let ⟨o,h1,c,d⟩:=st
  exact #v[o,h1,λv z=>by rw[d]at z;cases z]
 keep:=λi h h' st k=>let ⟨o,h1,h2⟩:=st;#v[o,k e (by simp) o h1,h2]
 item:=by
  intro X Z hw hK hc i J s σ H E I hf st hg
  subst Z hw hK
  let ⟨xs,x,hq,hn,hx⟩:=hg
  let ⟨S,V,p,hz⟩:=I.tuple hq
  have hi:i<xs.length:=by
   have:=(Ax.mp hx).1
   simpa using this
  rw[Dx hi]at hx
  have b1:xs.reverse[i]?=some x:=by rw[Dx hi];exact hx
  rw[hn]at hx
  let ⟨u,hu,ru⟩:=V.get hx
  let ⟨f0,f1,f2,f3,Y,f5⟩:=hf e (by simp)
  have e1:(n:Int)-1-i=((n-1-i:Nat):Int):=by lia
  rw[e1]at st
  refine DL st (show s.heap.IsTuple a S.toArray from p) (x:=u) (by simpa using hu) (by simpa [<- V.length] using hz) λh' tk O sb=>?_
  have I1:L2.Inv X J σ H { s with heap:=h',toks:=tk }:=I.turned (t':=tk) (λb o L e=>(sb.2 b L).trans e) f0 f1 f3 Y f5
  let ⟨o,h1,c,d⟩:=id O
  have e2:((n-1-i:Nat):Int)-1=(n:Int)-1-((i+1:Nat):Int):=by lia
  rw[e2]at O
  exact #v[u,rfl,mU (s:={ s with heap:=h',toks:=tk }) h1 c d (by decide) #v[x,H,I1,ru,#v[rfl,λys hy=>by rw[I.tuple_inj hy hq];exact b1],O,λb L=>(hf b L).1]]
 done:=by
  intro X Z hw hK hc i J s σ H E I hf st hg
  subst Z hw hK
  let ⟨xs,hq,hn,hx⟩:=hg
  let ⟨f0,f1,f2,f3,Y,f5⟩:=hf e (by simp)
  have e1:(n:Int)-1-i=-1:=by lia
  rw[e1]at st
  exact JH (I.ok.hd hc) st λh' eb=>#v[rfl,I.turned (t':=s.toks) (λb o L e=>eb b o L e) f0 f1 f3 Y f5]
 self:=λ_ _ _ _ _ q h=>tP q h
def WC(K:Ad)(ta:TA):TI:=λσ H R=>ta σ H λvs H1=>∃ a xs,vs=[.ref a]/\SqT K H1 a xs/\R (ItR K a xs.length) H1
theorem OU(hg:Gl X "reversed")(hm:X.mg "reversed"=none)(ha:PA X [a] ta)(hs:A0 [a] X.env=[(false,eval a X.env)]:=by rfl):PI X tg (.Call (.Name "reversed" p) [a] [] pos) (WC X.K ta):=by
 intro L s σ H R I h
 refine Call_ (fW I hg hm boot_reversed (PyProof.Rows.callWith_type1 (thn (ha pos L s σ H _ I h) λus s1 ⟨vs,H1,I1,r1,q1⟩=>?_) hs rfl))
 let ⟨l,xs,e,Y,q⟩:=q1
 subst e
 cases r1 with
 |cons r Z =>
  cases Z
  have r':_=Value.ref l:=r
  subst r'
  let ⟨J,O,pt,V⟩:=I1.tuple Y
  have hl:J.toArray.size=xs.length:=by rw[O.length];simp
  refine DJ (show s1.heap.IsTuple l J.toArray from pt) (by rw[hl];exact V) λtk=>?_
  have S:kU (s1.heap.push (JF l ((J.toArray.size:Int)-1))) s1.heap.objs.size l ((xs.length:Int)-1-((0:Nat):Int)):=by
   rw[hl]
   exact #v[_,Ap _ rfl,rfl,by simp[JF]]
  refine tP S ?_
  exists s1.heap.objs.size,[s1.heap.objs.size],_,_,H1,rfl,I1.kept (t':=tk) λb o x=>Af _ x,DM l _ xs.length,S,λb hb=>?_,q
  rw[Al.mp hb];exact I1.fpOk (Ao _) (I1.hok.fresh (Ao _))
theorem tQ(jj:Nat)(T:H4 X own js N scope cl)(b4:X.xe=λ_ _=>False)(hc:X.calm=true)(hm:X.mg "reversed"=none)(hN:X.N.Nodup)(hj:X.N[jj]?=some y)(hy:Loc X.env.scope y)(hyf:X.fn y=true\/X.env.scope.names.lookup y=some .local)
  (hsw:swapsWith (.ListComp elt [#v[tg,.Call (.Name "reversed" p) [e] [] ep,ifs,0]] scope pos) (some (.Name y py)) spos.line X.env=pure true)(f:D->D)(pr:D->Bool)
  (h:AV X G M [e] λes M1=>∃ ds:List D,es=[.tup ds]/\ds.length<=An /\
   (∀ Y:Cx,(∃ C s H fp,Y=bR X N scope cl C s H fp)->∀ M',Ext M1 M'->∀ d∈ds.reverse,GV Y (aN own js G) M' tg d λG3 M3=>M3=M'/\Sub (aN own js G) G3/\TVs Y G3 M' ifs (λk M4=>M4=M'/\k=pr d)/\(pr d=true->EV Y G3 M' elt λo M4=>M4=M'/\o=f d)) /\
   ∀ q,M1 q=none->E.nx (G.set jj (some (.ref q))) (FF M1 q (.lst ((ds.reverse.filter pr).map f))))
  (hg:Gl X "reversed")(hse:A0 [e] X.env=[(false,eval e X.env)])(hs:∀ x,A9 (.Call (.Name "reversed" p) [e] [] ep) X.env x=pure x):EX X G M (.Assign [.Name y py] (.ListComp elt [#v[tg,.Call (.Name "reversed" p) [e] [] ep,ifs,0]] scope pos) spos) E:=by
 refine jT jj T b4 hc (OU hg hm (iU (G:=G)) hse) hN hj hy hyf hsw (λσ H kf R=>?_) hs
 exists M,_,R,h,λvs H' es M' b3 g i R' q=>?_
 let ⟨ds,e,hz,block,S⟩:=q
 subst e
 let ⟨v,rfl,Z⟩:=dF i
 rw[bM]at Z
 let ⟨l,xs,rfl,hx,J⟩:=Z
 have O:=J.len
 have b1:ds.reverse.length=ds.length:=Eb
 exists l,xs,rfl,SqT.of hx,g,M',ds.reverse,λq i I V=>M' q=none/\V=FF M' q (.lst I)/\I=((ds.reverse.take i).filter pr).map f,R',λq i I V H2 g2 m2 v2=>?_,λq hq=>#v[hq,rfl,by simp],iV (by lia) block,λq I V ⟨h1,h2,h3⟩ _=>by rw[h2,h3,Bx];exact S q h1
 have L:SqT X.K H2 l xs:=SqT.of (g2 _ _ hx)
 exists λe=>#v[xs,L,rfl,by lia],λb2=>#v[#v[xs,xs.reverse[i]'(by rw[Eb];lia),L,rfl,Bm _],λx H3 y=>?_]
 let ⟨e,y⟩:=y
 subst e
 have e1:=y xs L
 have hi:i<xs.length:=by lia
 rw[Dx hi]at e1
 let ⟨d,e2,i2⟩:=(J.grow g2).get' e1
 exact #v[F6.refl _,λ_ _ z=>z,d,by rw[Dx (by lia),<- e2,O],i2]
def Two(K:Ad)(w:World)(a:Addr)(k1 v1 k2 v2:Str):Prop:=∃ t1 u1 t2 u2 n,K.lookup a=some { cls:=.type "dict",data:=.dict #[#v[PyData.keyHash w.params k1,.str k1 t1,.str v1 u1],#v[PyData.keyHash w.params k2,.str k2 t2,.str v2 u2]] n }
theorem Two.mk'{K:Ad}{w:World}(h:K.lookup a=some { cls:=.type "dict",data:=.dict #[#v[PyData.keyHash w.params k1,.str k1 t1,.str v1 u1],#v[PyData.keyHash w.params k2,.str k2 t2,.str v2 u2]] n }):Two K w a k1 v1 k2 v2:=#v[t1,u1,t2,u2,n,h]
section
variable {X:Cx}{G:Ga}{M:MH}{e:Expr}{pos:Pos}{Q:DK}
theorem OW(hd:Two X.K X.w a k1 v1 k2 v2)(J:k1≠k2):IxR X (λx y H Q=>∃ k,x=.ref a/\y=.str k/\(k=k1\/k=k2)/\Q (.str (if k=k1 then v1 else v2)) H):=by
 intro L slice S s σ H x y v u Q I rx Z h hs
 let ⟨k,rfl,rfl,hk,q⟩:=h
 cases rx
 let ⟨t,rfl⟩:=(show ∃ t,u=Value.str k t from Z)
 let ⟨t1,Y,t2,V,n,hd⟩:=hd
 have hg:=I.kIn _ _ hd
 have dd:s.heap.DictOf (bA X.prog X.w) a [(.inr k1,.str v1 Y),(.inr k2,.str v2 V)]:=by
  exists _,_,n,hg,#v[rfl,rfl,rfl],rfl,?_,?_,?_
  ·intro e O
   simp at O
   rcases O with rfl|rfl
   ·exact #v[.inr k1,bD _ _ _ _,rfl]
   ·exact #v[.inr k2,bD _ _ _ _,rfl]
  ·exact .cons (bD _ _ _ _) rfl (.cons (bD _ _ _ _) rfl .nil)
  ·simp[J]
 by_cases e1:k=k1
 ·subst e1
  rw[if_pos rfl]at q
  exact tail_any dd.typeIs PySem.F.slot_dict_getitem.lookup (wpAny_getItem_of (bD _ _ k t) dd.mapOf (v:=.str v1 Y) (by simp[valueAt]) #v[.str v1,H,I.tok _,#v[_,rfl],q]) hs
 ·rw[if_neg e1]at q
  have e2:=hk.resolve_left e1
  subst e2
  exact tail_any dd.typeIs PySem.F.slot_dict_getitem.lookup (wpAny_getItem_of (bD _ _ k t) dd.mapOf (v:=.str v2 V) (by simp[valueAt,J]) #v[.str v2,H,I.tok _,#v[_,rfl],q]) hs
theorem DN{x:Str}{p:Pos}{a:Addr}{k1 O k2 L:Str}(hd:Two X.K X.w a k1 O k2 L)(I:k1≠k2)(hm:X.mg x=some (.ref a))(h:EV X G M e λd M1=>∃ k,d=.str k/\(k=k1\/k=k2)/\Q (.str (if k=k1 then O else L)) M1)
  (hg:Gl X x:=by rfl)(hdb:(x == ("__debug__":Str))=false:=by decide)(hs:qY e:=by intro _ _;rfl):EV X G M (.Subscript (.Name x p) e pos) Q:=by
 refine LV (OW hd I) hs ?_
 refine EV.of (mD (v:=.ref a) hg hm rfl hdb) λσ H J R=>show _ from λ_=>#v[F6.refl _,.ref a,M,aH.mpr rfl,R.mem,?_]
 refine h.mono λd M1 ⟨k,e1,hk,q⟩=>?_
 subst e1
 intro H x y J hx hy m
 rw[aH]at hx;rw[aR]at hy;subst hx;subst hy
 exact #v[k,rfl,rfl,hk,λ_=>#v[F6.refl _,_,M1,aR.mpr rfl,m,q]]
end
theorem DO(T:H4 X own js N scope cl)(b3:X.xe=λ_ _=>False)(hc:X.calm=true)
  (h:EV X G M iter λd M1=>∃(ds:List D) (Iv:Addr->Nat->List D->MH->Prop),d=.tup ds/\(∀ q,M1 q=none->Iv q 0 [] (FF M1 q (.lst []))) /\
   (∀ Y:Cx,(∃ C s H fp,Y=bR X N scope cl C s H fp)->∀ q i acc M' d,ds[i]?=some d->Iv q i acc M'->M' q=some (.lst acc)->GV Y (aN own js G) M' tg d λG3 M3=>M3=M'/\Sub (aN own js G) G3/\EV Y G3 M' elt λo M4=>M4 q=some (.lst acc)/\acc.length<An/\Iv q (i+1) (acc++[o]) (FF M4 q (.lst (acc++[o])))) /\
   ∀ q acc M',Iv q ds.length acc M'->M' q=some (.lst acc)->Q (.ref q) M')
  (hs:∀ x,A9 iter X.env x=pure x):EV X G M (.ListComp elt [#v[tg,iter,[],0]] scope pos) Q:=by
 refine tI T b3 hc (qV (fY (G:=G))) (λσ H kf R=>?_) hs
 exists M,_,R,h,λv H' d M' b1 g i Z q=>?_
 let ⟨ds,Iv,e,O,block,L⟩:=q
 subst e
 rw[bM]at i
 let ⟨l,xs,rfl,hx,I⟩:=i
 have V:=I.len
 exists l,rfl,#v[xs,SqT.of hx],g,M',ds,Iv,Z,λH2 S=>?_,O,block,L
 have J:SqT X.K H2 l xs:=SqT.of (S _ _ hx)
 exists λi e=>#v[xs,J,by lia],λi b2=>#v[#v[xs,xs[i]'(by lia),J,by simp],λx H3 y=>?_]
 let ⟨e,y⟩:=y
 subst e
 have e1:=y xs J
 let ⟨d,e2,i2⟩:=(I.grow S).get' e1
 exact #v[rfl,d,e2,i2]
theorem AI(Iv:Nat->Ga->MH->Prop)(n0:Nat)(hp:PassesOwn (model X.prog X.w) X.A X.env X.xe)(h0:Iv n0 G M)
  (step:∀ n G M,Iv n G M->TV X G M c λk M1=>if k=true then EXs X G M1 body { nx:=λG' M'=>∃ m,m<n/\Iv m G' M',ct:=λG' M'=>∃ m,m<n/\Iv m G' M',bk:=E.nx,rt:=E.rt } else E.nx G M1) :
  EX X G M (.While c body [] pos) E:=by
 intro J s σ H I R
 refine wpAny_While (codeAny_whileLoop (λn s'=>∃ σ' H' G' M',L2.Inv X J σ' H' s'/\F6 H H'/\Rel X G' M' σ' H'/\Iv n G' M') ?_ n0 #v[σ,H,G,M,I,F6.refl _,R,h0])
 rintro n s1 ⟨σ1,H1,G1,M1,I1,L,R1,w1⟩
 refine wpAny_passesOwn hp (thn (step n G1 M1 w1 J s1 σ1 H1 I1 R1) λk s2 ⟨H2,M2,I2,g2,R2,q2⟩=>?_)
 cases k with
 |true =>
  rw[if_pos rfl]
  refine wpAny_passesOwn hp (thn (q2 J s2 σ1 H2 I2 R2) λf s3 O=>?_)
  cases f with
  |next =>
   let ⟨σ3,H3,G3,M3,V,S,Z,m,lt,Y⟩:=O
   exact #v[m,lt,σ3,H3,G3,M3,V,(L.trans g2).trans S,Z,Y]
  |cont =>
   let ⟨σ3,H3,G3,M3,V,S,Z,m,lt,Y⟩:=O
   exact #v[m,lt,σ3,H3,G3,M3,V,(L.trans g2).trans S,Z,Y]
  |brk=>exact SPD.grow (f:=.brk) (E:={ E with bk:=E.nx }) (L.trans g2) O
  |ret v=>exact SPD.grow (f:=.ret v) (E:=E) (L.trans g2) O
 |false =>
  rw[if_neg A4]
  exact wpAny_execs_nil #v[σ1,H2,G1,M2,I2,L.trans g2,R2,q2]
theorem IsL.rev:∀{ds:List D} {vs:List V},IsL H ds vs->IsL H ds.reverse vs.reverse
 |[],vs,h=>by rw[aV]at h;subst h;exact aV.mpr rfl
 |d::ds,vs,h=>by
  rw[aG]at h
  let ⟨x,r,rfl,h1,h2⟩:=h
  rw[Eo,Eo]
  exact (IsL.rev h2).app (aG.mpr #v[x,[],rfl,h1,aV.mpr rfl])
theorem IsL.init(h:IsL H (ds++[d]) vs):∃ us u,vs=us++[u]/\IsL H ds us/\Is H d u:=by
 have h1:=h.rev
 rw[Ec]at h1
 let ⟨u,r,e,k1,k2⟩:=aG.mp h1
 exists r.reverse,u,?_,?_,k1
 ·have:=congrArg List.reverse e
  simpa using this
 ·have:=k2.rev
  simpa using this
theorem vY(h:EV X G M o λd M1=>∃ p ds,d=.ref p/\M1 p=some (.lst ds)/\Q .non (FF M1 p (.lst ds.reverse)))
  (L:attributeBase o "reverse" X.env (eval o X.env)=eval o X.env)(O:(apos.endLine == cpos.line)=true):EV X G M (.Call (.Attribute o "reverse" apos) [] [] cpos) Q:=by
 refine EV.of (vM PySem.F.plainAttrs_list PySem.F.slot_list_reverse PySem.F.type_list_reverse vO (fY (G:=G)) L O) λσ H kf R=>?_
 exists M,_,R,h,λv H' d M' Y g i J q=>?_
 let ⟨p,ds,rfl,Z,q⟩:=q
 rw[aH]at i;subst i
 let ⟨xs,hx,I⟩:=J.mem p _ Z
 have S:∀ ys,H' p≠some (.tup ys):=λys z=>by rw[hx]at z;cases z
 have V:F6 H' (upd H' p (.lst xs.reverse)):=cH S
 exact #v[tyL hx,p,xs,rfl,rfl,hx,λ_=>#v[g.trans V,.non,_,cJ.mpr rfl,J.mem.put (u:=.lst ds.reverse) S #v[_,aI,(I.grow V).rev],q]]
theorem OX(h:EV X G M o λd M1=>∃ p ds x,d=.ref p/\M1 p=some (.lst (ds++[x]))/\Q x (FF M1 p (.lst ds)))
  (L:attributeBase o "pop" X.env (eval o X.env)=eval o X.env)(S:(apos.endLine == cpos.line)=true):EV X G M (.Call (.Attribute o "pop" apos) [] [] cpos) Q:=by
 refine EV.of (vM PySem.F.plainAttrs_list PySem.F.slot_list_pop PySem.F.type_list_pop NI (fY (G:=G)) L S) λσ H kf R=>?_
 exists M,_,R,h,λv H' d M' Y g i J q=>?_
 let ⟨p,ds,x,rfl,Z,q⟩:=q
 rw[aH]at i;subst i
 let ⟨xs,hx,I⟩:=J.mem p _ Z
 let ⟨us,u,rfl,h1,h2⟩:=I.init
 have V:∀ ys,H' p≠some (.tup ys):=λys z=>by rw[hx]at z;cases z
 have O:F6 H' (upd H' p (.lst us)):=cH V
 exists tyL hx,p,us++[u],u,rfl,rfl,hx,by simp,?_
 rw[E3]
 exact λ_=>#v[g.trans O,x,_,Is.grow O _ _ h2,J.mem.put (u:=.lst ds) V #v[_,aI,h1.grow O],q]
theorem AJ(h:EV X G M o λd M1=>∃ p,d=.ref p/\(∃ ds,M1 p=some (.lst ds))/\EV X G M1 e λd2 M2=>∃ q ds es,d2=.ref q/\M2 p=some (.lst ds)/\M2 q=some (.lst es)/\ds.length+es.length<=An/\Q .non (FF M2 p (.lst (ds++es))))
  (Z:attributeBase o "extend" X.env (eval o X.env)=eval o X.env)
  (b3:HfX X cpos e)
  (b2:(apos.endLine == cpos.line)=true)(hs:SeX X e)(Y:NpX X cpos) :
  EV X G M (.Call (.Attribute o "extend" apos) [e] [] cpos) Q:=by
 refine EV.of (nA PySem.F.plainAttrs_list PySem.F.slot_list_extend PySem.F.type_list_extend zW (fY (G:=G)) (iU (G:=G) (es:=[e])) Z b3 b2 hs Y) λσ H kf R=>?_
 exists M,_,R,h,λv H' d M' b5 g i R' q=>?_
 let ⟨p,rfl,⟨ds,b1⟩,q⟩:=q
 rw[aH]at i;subst i
 let ⟨xs,hx,_⟩:=R'.mem p _ b1
 exists tyL hx,M',λS M2=>∃ d2,S=[d2]/\∃ q ds es,d2=.ref q/\M2 p=some (.lst ds)/\M2 q=some (.lst es)/\ds.length+es.length<=An/\Q .non (FF M2 p (.lst (ds++es))),R',fJ (q.mono λd2 M2 V=>kQ #v[d2,rfl,V]) hs,λvs H2 S M2 b4 g2 i2 L V=>?_
 let ⟨d2,rfl,b,ds,es,rfl,hp,hb,hz,V⟩:=V
 let ⟨v2,rfl,O⟩:=dF i2
 rw[aH]at O;subst O
 let ⟨xs,hx,J⟩:=L.mem p _ hp
 let ⟨ys,hy,I⟩:=L.mem b _ hb
 have nt:∀ ys,H2 p≠some (.tup ys):=λys z=>by rw[hx]at z;cases z
 have gu:F6 H2 (upd H2 p (.lst (xs++ys))):=cH nt
 exact #v[p,b,xs,ys,rfl,rfl,hx,hy,by rw[<- J.len,<- I.len];exact hz,λ_=>#v[(g.trans g2).trans gu,.non,_,cJ.mpr rfl,L.mem.put (u:=.lst (ds++es)) nt #v[_,aI,(J.grow gu).app (I.grow gu)],V]]
theorem DP(h:EV X G M a λda Ma=>EV X G Ma b λdb Mb=>∃ k,AD da db k/\db=.non/\Qb (!k) Mb):TV X G M (.Compare a [.IsNot] [b] pos) Qb :=
 nB HV (cZ _) (h.mono λ_ _ h1=>h1.mono λ_ Mb ⟨k,e1,e2,q⟩=>by
  intro H x y J hx hy m
  subst e2
  have I:=hy
  rw[cJ]at I
  rcases isD_val e1 hx hy with ⟨i,j,e3,e4,e⟩|⟨_,e⟩
  ·rw[I]at e4;cases e4
  ·exact #v[I,λ_=>#v[F6.refl _,.bl (!k),Mb,bL.mpr (by rw[e]),m,!k,rfl,q]])
theorem WD(h:IsL H [x,y,z] vs):∃ u v w,vs=[u,v,w]/\Is H x u/\Is H y v/\Is H z w:=by
 let ⟨u,r,rfl,h1,h⟩:=aG.mp h
 let ⟨v,r,rfl,h2,h⟩:=aG.mp h
 let ⟨w,r,rfl,I,h⟩:=aG.mp h
 rw[aV.mp h]
 exact #v[u,v,w,rfl,h1,h2,I]
section
variable {X:Cx}{G:Ga}{M:MH}{a b e:Expr}{pos:Pos}{Q:DK}{Qb:Bool->MH->Prop}{pins:List (Addr×Obj)}{σ:St}{H:Hp}{s:Shared}
theorem hV(I:L2.Inv X pins σ H s)(m:F9 X.K M H)(h:M l=some (.lst ds))(S:eF ds=true):∃ as,Reads s.heap (.ref l) (.list (pdL ds)) as:=by
 let ⟨xs,e1,e2⟩:=m l _ h
 let ⟨z,J,n,O,hl,L⟩:=I.lstM e1
 let ⟨as,q⟩:=gP I ds xs J e2 O S
 exact #v[_,.list L rfl rfl (by simpa using q)]
def EqX(da db:D)(M:MH)(Qb:Bool->MH->Prop):Prop:=match da,db with
 |.ref l,.ref k=>∃ xs ys,M l=some (.lst xs)/\M k=some (.lst ys)/\eF xs=true/\eF ys=true/\PyData.depthAll (pdL xs)<=59/\Qb (PyData.eqvAll (pdL xs) (pdL ys)) M
 |_,_=>EqL da db M Qb
theorem DQ(h1:M l=some (.lst xs))(h2:M k=some (.lst ys))(i1:eF xs=true)(i2:eF ys=true)(hd:PyData.depthAll (pdL xs)<=59)(q:Qb (PyData.eqvAll (pdL xs) (pdL ys)) M):EqX (.ref l) (.ref k) M Qb:=#v[xs,ys,h1,h2,i1,i2,hd,q]
theorem tR(h:eF xs=true):PyData.eqvAll (pdL xs) (pdL xs)=true:=by
 have:=PySem.SeqAt.eqv_refl (pd (.tup xs)) (dR _ (by simp only[imm];exact h))
 simp only[pd,PyData.eqv]at this
 exact this
theorem tU(h1:M l=some (.lst xs))(h2:M k=some (.lst xs))(i1:eF xs=true)(hd:PyData.depthAll (pdL xs)<=59)(q:Qb true M):EqX (.ref l) (.ref k) M Qb :=
 DQ h1 h2 i1 i1 hd (by rw[tR i1];exact q)
theorem yB{neg:Bool}{op:CmpOp}(ho:op=if neg then .NotEq else .Eq)(hu:X.A.units+64<cLine){da db:D}{x y:V}{v u:Value}(I:L2.Inv X pins σ H s)(R:Rel X G M σ H)(i1:Is H da x)(i2:Is H db y)(r1:G5 x v)(r2:G5 y u)
  (h:EqX da db M λk M'=>Q (.bl (if neg then !k else k)) M'):wpAny (model X.prog X.w) X.A (compareOp op v u) (EPD X pins σ G H Q) X.xe s:=by
 unfold EqX at h
 split at h
 ·rename_i l k
  let ⟨xs,ys,h1,h2,J,O,hd,q⟩:=h
  rw[aH]at i1 i2;subst i1;subst i2
  cases r1;cases r2
  let ⟨as,L⟩:=hV I R.mem h1 J
  let ⟨bs,S⟩:=hV I R.mem h2 O
  have c1:(PyData.list (pdL xs)).canLay0=true:=by simp only[PyData.canLay0];exact eG xs J
  have c2:(PyData.list (pdL ys)).canLay0=true:=by simp only[PyData.canLay0];exact eG ys O
  have b1:(PyData.list (pdL xs)).depth<=60:=by simp only[PyData.depth];lia
  have Y:min (PyData.list (pdL xs)).depth (PyData.list (pdL ys)).depth<=(PyData.list (pdL xs)).depth:=Nat.min_le_left _ _
  have Z:PyData.eqv (.list (pdL xs)) (.list (pdL ys))=PyData.eqvAll (pdL xs) (pdL ys):=by simp only[PyData.eqv]
  subst ho
  cases neg with
  |false=>exact PySem.SeqAt.compareEq_reads L S c1 c2 (by lia) #v[.bl _,H,.bl _,M,I,rfl,F6.refl _,bL.mpr rfl,R,by rw[Z];exact q]
  |true=>exact PySem.SeqAt.compareNe_reads L S c1 c2 (by lia) #v[.bl _,H,.bl _,M,I,rfl,F6.refl _,bL.mpr rfl,R,by rw[Z];exact q]
 ·exact jO ho hu I R i1 i2 r1 r2 h
theorem TX(L:X.A.units+64<cLine)(h:EV X G M a λda Ma=>EV X G Ma b λdb Mb=>EqX da db Mb λk M'=>Q (.bl k) M'):EV X G M (.Compare a [.Eq] [b] pos) Q:=by
 intro J s σ H I R
 refine wpAny_Compare1 ?_ (cZ _)
 refine thn (h J s σ H I R) λv s1 ⟨x,H1,da,Ma,I1,r1,g1,i1,R1,q1⟩=>?_
 refine thn (q1 J s1 σ H1 I1 R1) λu s2 ⟨y,H2,db,Mb,I2,r2,g2,i2,R2,q⟩=>?_
 exact thn (yB (neg:=false) rfl L I2 R2 (Is.grow g2 _ _ i1) i2 r1 r2 q) λ_ _ h=>h.grow (g1.trans g2)
theorem EqX.to(h:EqX da db M Qb)(k:∀ b M',Qb b M'->Qc b M'):EqX da db M Qc:=by
 unfold EqX at h ⊢
 split at h
 ·let ⟨xs,ys,h1,h2,I,J,hd,q⟩:=h
  exact #v[xs,ys,h1,h2,I,J,hd,k _ _ q]
 ·exact #v[h.1,k _ _ h.2]
theorem DR(J:X.A.units+64<cLine)(h:EV X G M a λda Ma=>EV X G Ma b λdb Mb=>EqX da db Mb Qb):TV X G M (.Compare a [.Eq] [b] pos) Qb:=by
 refine mH (cZ _) λpins s σ H I R=>?_
 refine thn (h pins s σ H I R) λv s1 ⟨x,H1,da,Ma,I1,r1,g1,i1,R1,q1⟩=>?_
 refine thn (q1 pins s1 σ H1 I1 R1) λu s2 ⟨y,H2,db,Mb,I2,r2,g2,i2,R2,q⟩=>?_
 exact thn (yB (neg:=false) rfl J I2 R2 (Is.grow g2 _ _ i1) i2 r1 r2 (Q:=λd M'=>∃ k,d=.bl k/\Qb k M') (q.to λb M' q=>#v[_,rfl,q])) λ_ _ h=>h.grow (g1.trans g2)
def TY:R2:=λx y H Q=>∃ a b,x=.ref a/\y=.ref b/\H a=some (.tup [])/\(∃ ys,H b=some (.tup ys))/\Q (.ref b) H
theorem JI:OpR X (binaryOp .Add) TY:=by
 intro Z s σ H x y v u Q I rx ry h
 let ⟨a,b,rfl,rfl,ha,⟨ys,hb⟩,q⟩:=h
 cases rx
 cases ry
 let ⟨b3,r1,p1,_⟩:=I.tuple (SqT.of ha)
 let ⟨b2,r2,p2,_⟩:=I.tuple (SqT.of hb)
 cases r1
 let ⟨⟨cls,dd,data,sl⟩,ho,hc,n,hd⟩:=id p1
 let ⟨⟨b1,S,Y,V⟩,J,L,n2,O⟩:=id p2
 simp only at hc hd L O
 subst hc hd L O
 exact concat_meets #v[_,ho,rfl] #v[_,J,rfl] noFill_tuple_add seq_tuple_add PySem.F.slot_tuple_add PySem.F.entry_tuple_add (PySem.F.args_tuple_add_2 _ _)
  (tuple_addW0 a b _ _ n n2 dd S sl V rfl) #v[ho,J,#v[.ref b,H,I,rfl,q]]
theorem yC(h:EV X G M a λda Ma=>EV X G Ma b λdb Mb=>∃ xs ys,da=.tup xs/\db=.tup ys/\xs.length+ys.length<=An/\Q (.tup (xs++ys)) Mb):EV X G M (.BinOp a .Add b pos) Q :=
 lN (JI.or pQ) (h.mono λ_ _ h1=>h1.mono λ_ Mb ⟨xs,ys,e1,e2,hz,q⟩=>by
  subst e1;subst e2
  by_cases hx:xs=[]
  ·subst hx
   intro H x y O hx hy m
   rw[bM]at hx hy
   let ⟨l,us,rfl,hl,S⟩:=hx
   let ⟨k,L,rfl,hk,hw⟩:=hy
   rw[aV]at S;subst S
   exact .inl #v[l,k,rfl,rfl,hl,#v[L,hk],λ_=>#v[F6.refl _,_,Mb,bM.mpr #v[k,L,rfl,hk,hw],m,q]]
  ·intro H x y O I J m
   exact .inr (CK (OJ hx hz q) H x y O I J m))
end
section
variable {X:Cx}{G:Ga}{M:MH}{o e f:Expr}{Q:DK}{apos cpos pos:Pos}
theorem JJ:bootBuiltins "all"=some (.builtin "all"):=by lia
theorem qE:∀{bs:List Bool} {vs:List V},IsL H (bs.map D.bl) vs->vs=bs.map V.bl
 |[],vs,h=>by rw[Bq,aV]at h;subst h;rfl
 |n::ns,vs,h=>by
  rw[Au,aG]at h
  let ⟨x,r,rfl,h1,h2⟩:=h
  rw[bL]at h1
  rw[h1,qE h2];rfl
theorem vZ{bs:List Bool}{us:List Value}{i:Nat}{u:Value}(r:Vals (bs.map V.bl) us)(h:us[i]?=some u):u=.bool ((bs[i]?).getD false):=by
 have hl:=r.length
 rw[Ab]at hl
 have J:i<bs.length:=by
  have:=(Ax.mp h).1
  lia
 let ⟨w,hw,I⟩:=r.get (i:=i) (x:=.bl bs[i]) (by simp[J])
 rw[h]at hw
 cases hw
 rw[show u=.bool bs[i] from I]
 simp[J]
theorem AK(bs:List Bool):((Ca bs.length).all λi=>(bs[i]?).getD false)=bs.all id:=by
 have:bs=(Ca bs.length).map λi=>(bs[i]?).getD false:=by
  apply Fm
  intro i
  rw[Ar]
  by_cases h:i<bs.length
  ·rw[Ce h];simp[h]
  ·rw[B2 (by lia),B2 (by simp;lia)];rfl
 conv=>rhs;rw[this]
 rw[List.all_map]
 rfl
theorem AL(hc:X.calm=true):dY X (.builtin "all") (λxs H Q=>∃(a:Addr) (bs:List Bool),xs=[.ref a]/\H a=some (.lst (bs.map V.bl))/\Q (.bl (bs.all id)) H):=by
 intro Y s σ H xs us Q I r h
 let ⟨a,bs,rfl,e,q⟩:=h
 let ⟨u,rfl,ru⟩:=fG r
 cases ru
 let ⟨z,J,n,Z,hl,S⟩:=I.lstM e
 have L:J.toArray.size=bs.length:=by
  rw[Ab]at hl
  simp[<- hl]
 have lt:a<s.heap.objs.size:=As S
 have O:s.heap.IsList a J.toArray:=#v[_,S,rfl,n,rfl]
 refine call_all_walk (wpAny_pyIter_list O ?_)
 exists _,_,_,_,_,_,λi=>(bs[i]?).getD false,rfl,Walks.list (A:=X.A.in1) (I.ok.hd hc) s.heap.objs.size a (A1 lt) J.toArray,#v[#v[_,Ap _ rfl,rfl,rfl],O.push _],?_,λh' tk hk=>?_
 ·intro i v s' Q' E' hv hq
  have ev:v=.bool ((bs[i]?).getD false):=vZ Z (by simpa using hv)
  subst ev
  exact Ag hq
 ·rw[L,AK]
  exact #v[.bl (bs.all id),H,I.kept λb o y=>hk b o (by simp;exact A1 (As y)) (Af _ y),rfl,q]
theorem yD(O:X.calm=true)(hm:X.mg "all"=none)(h:AV X G M [e] λds M1=>∃(q:Addr) (bs:List Bool),ds=[.ref q]/\M1 q=some (.lst (bs.map D.bl))/\Q (.bl (bs.all id)) M1)(hg:Gl X "all")(L:SeX X e)(J:NpX X pos) :
  EV X G M (.Call (.Name "all" p) [e] [] pos) Q :=
 dG (AL O) hm JJ (h.mono λds M1 ⟨a,bs,e1,ha,q⟩=>λH xs S hx m=>by
  subst e1
  let ⟨v,rfl,I⟩:=dF hx
  rw[aH]at I;subst I
  let ⟨ys,e1,e2⟩:=m a _ ha
  have e3:=qE e2;subst e3
  exact #v[a,bs,rfl,e1,λ_=>#v[F6.refl _,.bl _,M1,bL.mpr rfl,m,q]]) hg (by decide) (by decide) L J
end
end D3
namespace X1
open PySem
def lS(h:Heap)(e:Addr)(C:Value)(dd:Option Addr):Prop :=
 ∃ oe vs,h.get? e=some oe/\oe.cls=C/\oe.dict=dd/\oe.data=.fields vs/\1<vs.size /\
  (vs[1]?=some .none\/∃ T oT ts,vs[1]?=some (.ref T)/\T≠e/\h.get? T=some oT/\oT.data=.fields ts/\ts[3]?=some .none)
def rO(S:List Addr)(e:Addr)(h h':Heap):Prop :=
 (∀ b o,h.get? b=some o->b≠e->b∉S->h'.get? b=some o)/\∀ b o,h.get? b=some o->b≠e->∃ sl,h'.get? b=some { o with slots:=sl }
theorem entry
  (b3:A.frames=some (env::outer))(hl:s.heap.FunFrames base (env::outer))(hf:env.frame=some L)
  (he:s.heap.get? e=some oe)(hd:oe.data=.fields vs)(hsz:1<vs.size)
  (h:∀ h',rO ((env::outer).filterMap (·.frame)) e s.heap h'->lS h' e oe.cls oe.dict->Q () { s with heap:=h' }) :
  wpAny M A (do let a <- frameOf env;let pl <- entryPlaceOf L hadNext;let b <- EntryCells.newEntry head a .none (rawInt L) .none pl;setField (.ref e) 1 b) (λ_ s'=>wpAny M A (setFlight (.ref e) none) Q E s') E s:=by
 have Y:e∉(env::outer).filterMap (·.frame):=λhm=>by
  let ⟨_,o,ho,b2⟩:=hl.mem hm
  rw[he]at ho;cases ho;exact b2 vs hd
 refine Ac (wpAny_frameOf_fun b3 hl hf λh₁ hs₁=>Ac (wpAny_entryPlaceOf λpl S=>?_))
 unfold EntryCells.newEntry newFields
 refine Ac (Bs ?_ (S.sizeOk5 _ _ _ _ _))
 have he₁:h₁.get? e=some oe:=(hs₁.2.1 e Y).trans he
 generalize htb:({ cls:=.type "traceback",dict:=none,data:=.fields ([head,.ref L,.none,rawInt L,.none]++(if pl.isEmpty then Bw 6 Value.none else pl)).toArray }:Obj)=tb
 have J:tb.data=.fields ([head,.ref L,.none,rawInt L,.none]++(if pl.isEmpty then Bw 6 Value.none else pl)).toArray:=by rw[<- htb]
 have he₂:=Af tb he₁
 refine wpAny_setField he₂ hd hsz ?_
 have O:h₁.objs.size≠e:=Ds (As he₁)
 have hd₃:=Obj.data_mapFields hd (·.setIfInBounds 1 (Value.ref h₁.objs.size))
 have he₃:=Bc (Obj.mapFields (·.setIfInBounds 1 (Value.ref h₁.objs.size))) he₂ (Obj.isFreed_of_fields hd₃)
 have Z:tb.isFreed=false:=Obj.isFreed_of_fields J
 have hT₃:=(Ba (h₁.push tb) (Obj.mapFields (·.setIfInBounds 1 (Value.ref h₁.objs.size))) (Ne.symm O)).trans (Ap h₁ Z)
 unfold setFlight
 refine Ac (wpAny_field he₃ hd₃ (x:=.ref h₁.objs.size) (by simp[hsz]) ?_)
 rw[if_pos (show (Value.ref h₁.objs.size != Value.none)=true from by simp)]
 refine wpAny_setField hT₃ J (by simp only[Av,Ae,Ah,B6]<;>lia) (h _ ?_ ?_)
 ·have keep:∀ b o,b≠e->h₁.get? b=some o->(((h₁.push tb).update e (Obj.mapFields (·.setIfInBounds 1 (Value.ref h₁.objs.size)))).update h₁.objs.size
    (Obj.mapFields (·.setIfInBounds 3 ((none:Option Addr).elim Value.none λf=>rawInt f)))).get? b=some o:=λb o I V=>by
   rw[Ba _ _ (Ds (As V)),Ba _ _ (Ne.symm I)]
   exact Af _ V
  exists λb o V I b1=>keep b o I ((hs₁.2.1 b b1).trans V),λb o V I=>?_
  let ⟨sl,hs⟩:=hs₁.2.2 b o V
  exact #v[sl,keep b _ I hs]
 ·exists _,_,?_,Obj.cls_mapFields _ _,?_,hd₃,by simp[hsz],.inr #v[h₁.objs.size,_,_,by simp[hsz],O,Bc _ hT₃ (Obj.isFreed_of_fields (Obj.data_mapFields J _)),Obj.data_mapFields J _,?_]
  ·rw[Ba _ _ O];exact he₃
  ·let ⟨c,d,dt,sl⟩:=oe
   simp only at hd
   subst hd
   rfl
  ·first|(simp;done)|(rcases S with rfl|⟨_,_,_,_,_,_,_,rfl⟩<;>simp)
theorem note
  (S:A.frames=some (env::outer))(hl:s.heap.FunFrames base (env::outer))(hf:env.frame=some L)(hx:lS s.heap e C dd)
  (h:∀ h',rO ((env::outer).filterMap (·.frame)) e s.heap h'->lS h' e C dd->Q () { s with heap:=h' }):wpAny M A (noteFrame (.ref e) env) (λ_ s₂=>wpAny M A (setFlight (.ref e) none) Q E s₂) E s:=by
 let ⟨oe,vs,O,rfl,rfl,hd,hsz,Z⟩:=hx
 unfold noteFrame
 simp only[hf]
 rcases Z with h1|⟨T,oT,ts,h1,b1,V,I,Y⟩
 ·refine Ac (wpAny_field O hd h1 ?_)
  rw[if_neg (by decide)]
  exact entry S hl hf O hd hsz h
 ·refine Ac (wpAny_field O hd h1 ?_)
  rw[if_pos (show (Value.ref T != Value.none)=true from by simp)]
  refine Ac (wpAny_field V I Y ?_)
  rw[if_neg (show ¬ ((Value.none == rawInt L)=true) from by simp[rawInt])]
  refine Ac (wpAny_setField V I (D2.mp Y).1 ?_)
  have J:=Heap.update_setField_same s.heap T oT ts 3 .none V I Y
  rw[J]
  exact entry S hl hf O hd hsz h
theorem TZ
  (I:A.frames=some (env::outer))(hl:s.heap.FunFrames base (env::outer))(hf:env.frame=some L)(hx:lS s.heap e C dd)
  (h:∀ h',rO ((env::outer).filterMap (·.frame)) e s.heap h'->lS h' e C dd->Q () { s with heap:=h' }):wpAny M A (leaving env (.ref e)) Q E s:=by
 unfold leaving
 exact Ac (note I hl hf hx h)
theorem rest(hx:lS s.heap e C dd)(h:Q () s):wpAny M A (setFlight (.ref e) none) Q E s:=by
 let ⟨oe,vs,L,rfl,rfl,hd,hsz,V⟩:=hx
 unfold setFlight
 rcases V with h1|⟨T,Z,ts,h1,Y,O,J,S⟩
 ·refine Ac (wpAny_field L hd h1 ?_)
  rw[if_neg (by decide)]
  exact Ag h
 ·refine Ac (wpAny_field L hd h1 ?_)
  rw[if_pos (show (Value.ref T != Value.none)=true from by simp)]
  refine wpAny_setField O J (D2.mp S).1 ?_
  have I:=Heap.update_setField_same s.heap T Z ts 3 .none O J S
  show Q () { s with heap:=s.heap.update T (Obj.mapFields (·.setIfInBounds 3 Value.none)) }
  rw[I]
  exact h
open PySem.W Builtin Builtin.ObjectAttr
abbrev VE:List Value:=[.type "ValueError",.type "Exception",.type "BaseException",.type "object"]
structure Err(K:Frag)(C P:Addr):Prop where
 ex:∃ nm q N bs sn sub ab col dd k0 k1 k2 k3 k5,K.lookup C=some (excClassObj nm q C N bs (.ref P::VE) true sn sub ab col dd k0 k1 k2 k3 k5 "ValueError.__new__")
section
variable {K:Frag}{A:Around}{E:Value->Shared->Prop}{h:Heap}{g:Array GenState}{d:Drawn}{t:Nat}{os:OsState}{C P:Addr}
theorem look(X:K.In h)(hf:findIn K (.ref C) name=some y)(I:Q y #v[h,g,d,t,os]):wpAny M A (typeLookup (.ref C) name) Q E #v[h,g,d,t,os]:=(looks_findIn X hf).here I
end
section
variable {K:Frag}{prog:Program}{w:World}{A:Around}{E:Value->Shared->Prop}{h:Heap}{g:Array GenState}{d:Drawn}{t:Nat}{os:OsState}{C P x:Addr}{mA:Str->Option Value}{name:Str}{v:Value}
theorem AM{M:Model}{rest:List Value}{Q:Unit->Shared->Prop}(X:K.In h)(e:Err K C P)(S:Q () #v[h,g,d,t,os]):wpAny M A (checkBuiltinCall "ValueError.__new__" #v[.ref C::rest,[]]) Q E #v[h,g,d,t,os]:=by
 let ⟨nm,q,N,bs,sn,sub,ab,col,dd,k0,k1,k2,k3,k5,L⟩:=e.ex
 have L:=X _ _ L
 have I:=F.excBase_ValueError
 have J:(Value.ref C::.ref P::VE).contains (.type "ValueError")=true:=by simp[VE]
 have O:=I.noStar
 simp only[checkBuiltinCall,I.newKind,I.newSplit,I.newRow]
 repeat (first|(refine wpAny_isSubtype_exc L ?_;rw[J])|refine wpAny_loadPart_at L ?_|refine wpAny_madeBy_exc L ?_|refine wpAny_staticBase_exc L ?_|simp only[bne_self_eq_false,Bool.false_eq_true,if_false]|wp_step)
 exact S
theorem DS{rest:List Value}(X:K.In h)(e:Err K C P)
  (hq:R (.ok (.ret (.ref (h.objs.size+1)))) #v[(h.push { cls:=.type "tuple",data:=.seq rest.toArray }).push { cls:=.ref C,data:=.fields #[.ref h.objs.size,.none,.none,.none,.bool false,.none] },g,d,t,os])(Z:rest.length<=An) :
  codeAny (model prog w) A (.builtin "ValueError.__new__" #v[.ref C::rest,[]]) R #v[h,g,d,t,os]:=by
 let ⟨nm,q,N,bs,sn,sub,ab,col,dd,k0,k1,k2,k3,k5,J⟩:=e.ex
 have J:=X _ _ J
 have I:=F.excBase_ValueError
 have Y:=I.ends
 have V:(Value.ref C::.ref P::VE).contains (.type "ValueError")=true:=by simp[VE]
 have L:(Value.ref C::.ref P::VE).contains (.type "AttributeError")=false:=by simp[VE]
 have S:(Value.ref C::.ref P::VE).contains (.type "NameError")=false:=by simp[VE]
 refine codeAny_builtinAt I.entry ?_
 unfold Builtin.«BaseException.__new__»
 refine wpAt_bind ?_
 show wpAt _ _ _ (stack >>= _) _ _ _
 refine wpAt_bind (wpAt_stack λp O=>wpAt_of_wpAny ?_)
 wp_walk
 refine wpAt_of_wpAny ?_
 rw[I.owner]
 repeat (first|(with_reducible refine wpAny_isSubtype_exc J ?_;first|rw[V]|rw[L]|rw[S])|with_reducible refine wpAny_madeHere_exc I.canon J ?_|with_reducible refine wpAny_loadPart_at J ?_|wp_step)
 show R _ _
 rw[Dz]
 exact hq
theorem AN{rest:List Value}{oI:Obj}(X:K.In h)(e:Err K C P)(hi:findIn K (.ref C) "__init__"=some (some (.ref fI)))(Z:K.lookup fI=some oI)(b1:oI.cls=.type "function")
  (hq:∀ h',Heap.MadeExcOf h h' (h.objs.size+1) (.ref C) rest->wpAny (model prog w) A (call (.ref fI) (.ref (h.objs.size+1)::rest)) (λr s'=>r=.none/\Q (.done (.ret (.ref (h.objs.size+1)))) s') E #v[h',g,d,t,os])(S:rest.length<=An) :
  wpAny (model prog w) A (Builtin.«type.__call__» #v[.ref C::rest,[]]) Q E #v[h,g,d,t,os]:=by
 let ⟨nm,q,N,bs,sn,sub,ab,col,dd,k0,k1,k2,k3,k5,O⟩:=e.ex
 have L:=X _ _ O
 have Y:=F.excBase_ValueError
 repeat (first|with_reducible refine wpAny_madeBy_exc L ?_|with_reducible refine wpAny_loadPart_at L ?_|wp_step)
 refine codeAny_call_builtin_code (Code.quiet_builtin _ Y.quiet) (AM X e (DS X e ?_ S))
 show wpAny _ _ _ _ _ _
 generalize htp:({ cls:=.type "tuple",data:=.seq rest.toArray }:Obj)=tp
 generalize hex:({ cls:=.ref C,data:=.fields #[.ref h.objs.size,.none,.none,.none,.bool false,.none] }:Obj)=ex
 have keep:∀ b o,h.get? b=some o->((h.push tp).push ex).get? b=some o:=λb o hb=>Af _ (Af _ hb)
 have X₁:K.In ((h.push tp).push ex):=X.keeps keep
 have hC₁:=keep _ _ L
 have hfI₁:=X₁ _ _ Z
 have I:((h.push tp).push ex).get? (h.objs.size+1)=some ex:=by
  rw[<- Dz h tp]
  exact Ap _ (by rw[<- hex];rfl)
 have V:(Value.ref C::.ref P::VE).contains (.ref C)=true:=by simp
 have J:ex.cls=.ref C:=by rw[<- hex]
 unfold isInstance
 repeat (first|(with_reducible refine wpAny_isSubtype_exc hC₁ ?_;rw[V])|(with_reducible refine wpAny_loadPart_at I ?_;rw[J])|wp_step)
 show wpAny _ _ (typeLookup (.ref C) _) _ _ _
 refine look X₁ hi (wpAny_holding (Ac ?_))
 unfold bindSpecial
 refine Ac (wpAny_typeOf (T :="function") #v[_,hfI₁,b1] ?_)
 rw[if_pos (by decide)]
 refine Ag (Ac (Cz (hq _ #v[keep,E1 (Cs _),h.objs.size,by rw[I,<- hex],E1 (Ao _),?_]) (λr s' hr=>?_) λ_ _ x=>x))
 ·refine Af _ ?_
  rw[<- htp]
  exact Ap _ rfl
 ·let ⟨rfl,hQ⟩:=hr
  wp_walk
  exact hQ
theorem DT{rest:List Value}{oI:Obj}(X:K.In h)(e:Err K C P)(S:findIn K (.ref C) "__init__"=some (some (.ref fI)))(L:K.lookup fI=some oI)(O:oI.cls=.type "function")
  (Y:∀ h',Heap.MadeExcOf h h' (h.objs.size+1) (.ref C) rest ->
   wpAny (model prog w) (A.under (.builtin "type.__call__" #v[.ref C::rest,[]])) (call (.ref fI) (.ref (h.objs.size+1)::rest)) (λr s'=>r=.none/\Q (.ref (h.objs.size+1)) s') E #v[h',g,d,t,os])(J:rest.length<=An) :
  wpAny (model prog w) A (call (.ref C) rest) Q E #v[h,g,d,t,os]:=by
 let ⟨nm,q,N,bs,sn,sub,ab,col,dd,k0,k1,k2,k3,k5,I⟩:=e.ex
 have I:=X _ _ I
 have Z:=tc_lookup
 have V:=tc_bind (.ref C)
 have hT:(#v[h,g,d,t,os]:Shared).TypeIs (.ref C) "type":= #v[_,I,rfl]
 refine wpAny_call (codeAny_of_tree ?_)
 show wpAny _ _ (callAny (.ref C) _) _ _ _
 repeat (any_goals (first|assumption|with_reducible refine wpAny_loadPart_at I ?_|wp_step))
 exists rfl,codeAny_call_builtin_at (Code.quiet_builtin _ (by lia)) entry_typeCall (wpAny_check_type_call_sub I (AN X e S L O (λh' hm=>Y h' hm) J))
end
section
variable {M:Model}{A:Around}{E:Value->Shared->Prop}{env:Env}
variable {nm q:Str}{C N:Addr}{bs bm:List Value}{hdct:Bool}{sn:List Str}{sub:List Value}{ab:Bool}{col:Option Bool}{dd:Option Addr}{k0 k1 k2 k3 k5:Option Value}{newId:String}
theorem wA{s:Shared}{x:Sem Value}{Q:Flow->Shared->Prop}(I:bm.contains (.type "BaseException")=true)(Z:A.handled=none)
  (h:wpAny M A x (λv s₁=>∃ e t de,v=.ref e/\s₁.heap.get? C=some (excClassObj nm q C N bs bm hdct sn sub ab col dd k0 k1 k2 k3 k5 newId) /\
   s₁.heap.get? e=some { cls:=.ref C,dict:=de,data:=.fields #[.ref t,.none,.none,.none,.bool false,.none] }/\E (.ref e) s₁) E s) :
  wpAny M A (raiseStmt env (some x) none) Q E s:=by
 have J:(Value.ref C::bm).contains (.type "BaseException")=true:=by rw[List.contains_cons,I,Bool.or_true]
 unfold raiseStmt
 refine Ac (Cz h (λv s₁ h₁=>?_) λ_ _ x=>x)
 let ⟨e,t,de,rfl,L,O,S⟩:=h₁
 let ⟨V,g,d,tk,Y⟩:=s₁
 repeat (first|with_reducible refine wpAny_loadPart_at O ?_|with_reducible refine wpAny_loadPart_at L ?_|(with_reducible refine wpAny_isSubtype_exc L ?_;rw[J])|wp_step)
 exact wpAny_raiseNew_none Z S
end
section
variable {K:Frag}{w:World}{A:Around}{E:Value->Shared->Prop}{h:Heap}{g:Array GenState}{d:Drawn}{t:Nat}{os:OsState}{C P x:Addr}{v:Value}
theorem wC(self:Value):refuseLoop self "__setattr__" (.ref C::.ref P::VE)=pure ():=by
 rw[refuseLoop_ref,refuseLoop_ref]
 exact F.store_ValueError.passes self
theorem DU{o:Obj}(X:K.In h)(e:Err K C P)(hx:h.get? x=some o)(O:o.cls=.ref C)(S:Q () #v[h,g,d,t,os]) :
  wpAny M A (checkBuiltinCall "object.__setattr__" #v[[.ref x,nameV,v],[]]) Q E #v[h,g,d,t,os]:=by
 let ⟨nm,q,N,bs,sn,sub,ab,col,dd,k0,k1,k2,k3,k5,J⟩:=e.ex
 have J:=X _ _ J
 have I:=F.store_ValueError
 have L:(Value.ref C::.ref P::VE).contains (.type "object")=true:=by simp[VE]
 have V:=I.args (.ref x) nameV v
 simp only[checkBuiltinCall,I.kind,I.split]
 refine Ac ?_
 unfold isInstance
 repeat (first|(with_reducible refine wpAny_loadPart_at hx ?_;rw[O])|(with_reducible refine wpAny_isSubtype_exc J ?_;rw[L])|wp_step)
 exact S
theorem DV{ns:List Str}(X:K.In h)(e:Err K C P)(f3:findIn K (.ref C) name=some none)(I:h.Inst x C mA)
  (hq:∀ h' tk',h'.Inst x C (λy=>if y=name then some v else mA y) ->
   (∀ b o,b≠x->(∀ o₀ dx,h.get? x=some o₀->o₀.dict=some dx->b≠dx)->h.get? b=some o->h'.get? b=some o) ->
   (∀ o₀,h.get? x=some o₀->∃ o₁,h'.get? x=some o₁/\o₁.cls=o₀.cls/\o₁.data=o₀.data/\o₁.slots=o₀.slots/\(∀ dx,o₀.dict=some dx->o₁.dict=some dx)/\(o₀.dict=none->o₁.dict=some h.objs.size))->Q (.done (.ret .none)) #v[h',g,d,tk',os])(hw:Within mA ns)(hsz:ns.length<=An) :
  wpAny (model prog w) A (Builtin.«object.__setattr__» #v[[.ref x,.str name tk,v],[]]) Q E #v[h,g,d,t,os]:=by
 let ⟨nm,q,N,bs,sn,sub,ab,col,dd,k0,k1,k2,k3,k5,hC⟩:=e.ex
 have hC:=X _ _ hC
 let ⟨o,hx,hc,b2,hd⟩:=I
 have Z:=wC (C:=C) (P:=P) (.ref x)
 unfold Builtin.«object.__setattr__»
 repeat (first|rw[refuse_eq]|rw[Z]|(with_reducible refine wpAny_loadPart_at hx ?_;rw[hc])|with_reducible refine wpAny_mroOf_exc hC ?_|with_reducible refine look X f3 ?_|wp_step)
 rcases hd with ⟨b4,d8⟩|⟨dx,S,L,b5⟩
 ·rw[b4,if_neg (by simp[typeHasDict])]
  split
  ·rename_i hcd
   cases hcd
  split
  ·rename_i c hcd
   exact absurd hcd (b2 c)
  ·generalize hob:({ cls:=.type "dict",data:=.dict #[] }:Obj)=ob
   have hx₁:(h.push ob).get? x=some o:=Af _ hx
   have O:x≠h.objs.size:=A1 (As hx)
   refine Ac (wpAny_alloc' (Ac (wpAny_update' hx₁ (Ag ?_))))
   have d6:((h.push ob).update x λo=>{ cls:=o.cls,dict:=some h.objs.size,data:=o.data,slots:=o.slots }).get? h.objs.size=some ob :=
    (Heap.get?_update_ne _ _ _ _ O.symm).trans (Heap.get?_push_at rfl (by rw[<- hob];rfl))
   have e7:((h.push ob).update x λo=>{ cls:=o.cls,dict:=some h.objs.size,data:=o.data,slots:=o.slots }).Ns h.objs.size (λ_=>none) :=
    #v[_,#[],_,d6,by rw[<- hob],λe he=>absurd he (by simp),λ_=>rfl]
   show wpAny _ _ (storeInDict h.objs.size (.str name tk) name v) _ _ _
   unfold storeInDict newKeyGuard
   refine Ac (Ag (Ac (wpAny_nsSet1 (Heap.Ns1.of_empty e7) λh' J hs=>?_)))
   let ⟨oD,d9,e8,Y,b1,V⟩:=J.count (Within.cons name v Within.nil)
   refine Ac (wpAny_lookBehind Y (by rw[b1];exact pastItsLine_dict (Ay V (by rw[Ah,B6,sizeLine_eq];lia))) ?_)
   wp_walk
   have b3:h'.get? x=some { cls:=o.cls,dict:=some h.objs.size,data:=o.data,slots:=o.slots }:=by
    refine (hs.2 x O).trans (Bc _ hx₁ ?_)
    have b7:=(Fh.mp hx).2
    let ⟨oc,od,f1,f2⟩:=o
    cases f1<;>first|rfl|exact b7
   refine hq h' _ #v[_,b3,hc,b2,.inr #v[h.objs.size,rfl,O.symm,?_]] (λb ob e9 _ hb=>?_) (λo₀ h₀=>?_)
   ·let ⟨o',es,ep,e1,e2,e3,eu,e4⟩:=J
    exact #v[o',es,ep,e1,e2,e3,eu,λy=>by rw[e4 y];by_cases hy:y=name<;>simp[hy,d8]]
   ·exact (hs.2 b (A1 (As hb))).trans ((Heap.get?_update_ne _ _ _ _ e9).trans (Af _ hb))
   ·obtain rfl:o=o₀:=B3.inj (hx.symm.trans h₀)
    exact #v[_,b3,rfl,rfl,rfl,λdx e=>(by rw[b4]at e;cases e),λ_=>rfl]
 ·rw[S]
  refine Ag ?_
  show wpAny _ _ (storeInDict dx (.str name tk) name v) _ _ _
  unfold storeInDict newKeyGuard
  refine Ac (Ag (Ac (wpAny_nsSet1 b5 λh' J hs=>?_)))
  let ⟨oD,d9,e8,Y,b1,V⟩:=J.count (Within.cons name v hw)
  refine Ac (wpAny_lookBehind Y (by rw[b1];exact pastItsLine_dict (Ay V (by rw[Ah];lia))) ?_)
  wp_walk
  refine hq h' _ #v[o,(hs.2 x L.symm).trans hx,hc,b2,.inr #v[dx,S,L,J]] (λb ob _ d7 hb=>?_) (λo₀ h₀=>?_)
  ·exact (hs.2 b (d7 o dx hx S)).trans hb
  ·obtain rfl:o=o₀:=B3.inj (hx.symm.trans h₀)
   exact #v[o,(hs.2 x L.symm).trans h₀,rfl,rfl,rfl,λ_ e=>e,λe=>(by rw[S]at e;cases e)]
theorem yE{ns:List Str}(X:K.In h)(e:Err K C P)(V:findIn K (.ref C) "__setattr__"=some (some (.builtin "object.__setattr__")))(S:findIn K (.ref C) name=some none)(I:h.Inst x C mA)
  (Z:∀ h' tk',h'.Inst x C (λy=>if y=name then some v else mA y) ->
   (∀ b o,b≠x->(∀ o₀ dx,h.get? x=some o₀->o₀.dict=some dx->b≠dx)->h.get? b=some o->h'.get? b=some o) ->
   (∀ o₀,h.get? x=some o₀->∃ o₁,h'.get? x=some o₁/\o₁.cls=o₀.cls/\o₁.data=o₀.data/\o₁.slots=o₀.slots/\(∀ dx,o₀.dict=some dx->o₁.dict=some dx)/\(o₀.dict=none->o₁.dict=some h.objs.size))->Q () #v[h',g,d,tk',os])(hw:Within mA ns)(hsz:ns.length<=An) :
  wpAny (model prog w) A (setAttr (.ref x) name v) Q E #v[h,g,d,t,os]:=by
 let ⟨o,hx,O,_⟩:=id I
 have L:=F.store_ValueError
 have f3:=L.slot.bind (.ref x)
 unfold setAttr callSpecial? specialOf
 repeat (any_goals (first|assumption|(with_reducible refine wpAny_loadPart_at hx ?_;rw[O])|with_reducible refine look X V ?_|wp_step))
 refine codeAny_call_builtin L.slot.plain L.entry (DU X e hx O (DV X e S I (λh' tk' Y hk J=>?_) hw hsz))
 repeat (any_goals (first|assumption|wp_step))
 exact Z h' tk' Y hk J
end
section
variable {K:Frag}{w:World}{A:Around}{E:Value->Shared->Prop}{h:Heap}{g:Array GenState}{d:Drawn}{t:Nat}{os:OsState}{C P x:Addr}{v:Value}
theorem DW{o:Obj}(X:K.In h)(e:Err K C P)(hx:h.get? x=some o)(O:o.cls=.ref C)(S:Q () #v[h,g,d,t,os]) :
  wpAny M A (checkBuiltinCall "BaseException.__getattribute__" #v[[.ref x,nameV],[]]) Q E #v[h,g,d,t,os]:=by
 let ⟨nm,q,N,bs,sn,sub,ab,col,dd,k0,k1,k2,k3,k5,J⟩:=e.ex
 have J:=X _ _ J
 have hk:builtinKind "BaseException.__getattribute__"=some .slot:=by lia
 have I:splitId "BaseException.__getattribute__"=some ("BaseException", "__getattribute__"):=by lia
 have L:(Value.ref C::.ref P::VE).contains (.type "BaseException")=true:=by simp[VE]
 have V:=F.args_bexc_ga (.ref x) nameV
 simp only[checkBuiltinCall,hk,I]
 refine Ac ?_
 unfold isInstance
 repeat (first|(with_reducible refine wpAny_isSubtype_exc J ?_;rw[L])|(with_reducible refine wpAny_loadPart_at hx ?_;rw[O])|wp_step)
 exact S
theorem DX(X:K.In h)(e:Err K C P)(b1:findIn K (.ref C) name=some none)(I:h.Inst x C mA)(Z:mA name=some v)(hq:Q (.done (.ret v)) #v[h,g,d,t,os]) :
  wpAny (model prog w) A (Builtin.«object.__getattribute__» #v[[.ref x,.str name tk],[]]) Q E #v[h,g,d,t,os]:=by
 let ⟨nm,q,N,bs,sn,sub,ab,col,dd,k0,k1,k2,k3,k5,O⟩:=e.ex
 have O:=X _ _ O
 let ⟨o,hx,Y,S,hd⟩:=I
 rcases hd with ⟨_,V⟩|⟨dx,L,b2,J⟩
 ·rw[V name]at Z;cases Z
 unfold Builtin.«object.__getattribute__»
 repeat (first|with_reducible refine look X b1 ?_|(with_reducible refine wpAny_loadPart_at hx ?_;rw[Y])|wp_step)
 split
 ·rename_i c hcd
  exact absurd hcd (S c)
 unfold instanceDict
 repeat (first|with_reducible refine wpAny_loadPart_at O ?_|(with_reducible refine wpAny_loadPart_at hx ?_;rw[Y])|wp_step)
 rw[L]
 repeat (first|(with_reducible refine wpAny_nsGet J.ns ?_;rw[Z])|wp_step)
 exact hq
theorem OY(X:K.In h)(e:Err K C P)(b1:findIn K (.ref C) "__getattribute__"=some (some (.builtin "BaseException.__getattribute__")))(Y:findIn K (.ref C) "__getattr__"=some none)(S:findIn K (.ref C) name=some none)(I:h.Inst x C mA)(hv:mA name=some v)(hh:handedOut v=pure v)(hq:Q v #v[h,g,d,t+1,os]) :
  wpAny (model prog w) A (getAttr (.ref x) name expr) Q E #v[h,g,d,t,os]:=by
 let ⟨o,hx,O,_⟩:=id I
 have J:=F.attrBase_ValueError
 have f3:=J.ga.bind (.ref x)
 have V:(expr&&onTheHeap (Value.builtin "BaseException.__getattribute__"))=false:=by cases expr<;>rfl
 have L:(Value.builtin "BaseException.__getattribute__"== Value.builtin "object.__getattribute__")=false:=by lia
 have Z:(onTheHeap (Value.ref C)&&Value.builtin "BaseException.__getattribute__"== Value.builtin "object.__getattribute__")=false:=by rw[L];rfl
 unfold getAttr
 repeat (any_goals (first|assumption|with_reducible refine look X b1 ?_|with_reducible refine look X Y ?_|(with_reducible refine wpAny_loadPart_at hx ?_;rw[O])|wp_step))
 refine codeAny_call_builtin J.ga.plain F.entry_bexc_ga (DW X e hx O (DX X e S I hv ?_))
 repeat (any_goals (first|assumption|wp_step))
end
end X1
namespace D3
open PySem PySem.Spec PyProof.Rows L2 X1
abbrev XQ:=Addr->List (Str×D)->MH->Prop
structure Flies(H:Hp)(h:Heap)(a C dx:Addr)(fs:List (Str×V)):Prop where
 at_:lS h a (.ref C) (some dx)
 ne:dx≠a
 own:H dx=some (.xd fs)
 free:H a=none
def XCX(P:Program)(w:World):CXT:=λouter H s E e s'=>∃ a C dx fs H',e=.ref a/\s'.os=s.os/\AllBare s'.gens/\Un (frs outer) [] H H' s.heap s'.heap/\HOk P w H' s'.heap/\Flies H' s'.heap a C dx fs/\s.heap.objs.size<=a/\E (.ref C) (some dx) H'
def Thr(X:Cx)(R:Ga->XQ):Prop:=∀(pins:List (Addr×Obj)) (σ:St) (H:Hp) (s:Shared) (a C dx:Addr) (fs:List (Str×V)) (ds:List (Str×D)) (G:Ga) (M:MH),
 L2.Inv X pins σ H s->Flies H s.heap a C dx fs->X.s₀.heap.objs.size<=a->(∀ p∈X.pn++pins,p.1≠a)->Rel X G M σ H->FsIs H ds fs->R G C ds M->X.xe (.ref a) s
theorem rP(u:Un fs ex H H' h h'):F6 H H':=λb xs e=>u.tups b xs e
theorem OZ{P:Program}{w:World}{K:Ad}{mg:Str->Option Value}{base:Heap}{N:List Str}{J:Str}{scope:Scope}{f:Addr}{cdv:Value}{A:Around}{outer:List Env}{s₀:Shared}{H₀:Hp}{E:XK}{R:XQ}
  (hE:∀ C dx fs ds M H',F6 H₀ H'->H' dx=some (.xd fs)->F9 K M H'->FsIs H' ds fs->R C ds M->E (.ref C) (some dx) H'):Thr (eX (XCX P w) P w K mg base N J scope f cdv A outer s₀ H₀ E) (λ_=>R):=by
 intro b3 σ H s a C dx fs ds G M I S hsz _ Rl hf hr
 have g:F6 H₀ H:=rP I.base
 have m:F9 K M H:=Rl.mem
 have b5:frs (eX (XCX P w) P w K mg base N J scope f cdv A outer s₀ H₀ E).stack=(eX (XCX P w) P w K mg base N J scope f cdv A outer s₀ H₀ E).env.locals::frs outer:=rfl
 refine TZ (base:=base) I.ok.frames I.stack rfl S.at_ λh' Y hx=>?_
 have b4:(List.filterMap (λx:Env=>x.frame) (eX (XCX P w) P w K mg base N J scope f cdv A outer s₀ H₀ E).stack)=(eX (XCX P w) P w K mg base N J scope f cdv A outer s₀ H₀ E).env.locals::frs outer:=rfl
 have Z:∀ b o,s₀.heap.get? b=some o->b≠a/\b≠(eX (XCX P w) P w K mg base N J scope f cdv A outer s₀ H₀ E).env.locals:=λb o O=>by
  have h1:b<s₀.heap.objs.size:=As O
  have h2:s₀.heap.objs.size<=(eX (XCX P w) P w K mg base N J scope f cdv A outer s₀ H₀ E).env.locals:=I.ok.above
  have h3:s₀.heap.objs.size<=a:=hsz
  exact #v[A1 (Aw h1 h3),A1 (Aw h1 h2)]
 exists a,C,dx,fs,H,rfl,I.os,I.bare,#v[?_,?_,?_,?_,I.base.tups,I.base.frzs,I.base.tbls],λb o e=>?_,#v[hx,S.ne,S.own,S.free],hsz,hE C dx fs ds M H g S.own m hf hr
 ·intro b o O n V L
  let ⟨q1,q2⟩:=Z b o O
  refine Y.1 b o (I.base.keep b o O n V L) q1 λz=>?_
  rcases Am.mp (show b∈(eX (XCX P w) P w K mg base N J scope f cdv A outer s₀ H₀ E).env.locals::frs outer from z) with z|z
  ·exact q2 z
  ·exact V z
 ·intro b o O n V L
  let ⟨sl,e⟩:=I.base.slot b o O n V L
  let ⟨b1,e'⟩:=Y.2 b _ e (Z b o O).1
  exact #v[b1,e']
 ·exact λb o O n L=>I.base.free b o O n L
 ·intro b o O L
  let ⟨o',e⟩:=I.base.there b o O L
  let ⟨b1,e'⟩:=Y.2 b _ e (Z b o O).1
  exact #v[_,e']
 ·refine (I.hok b o e).stay (λc u hc hu=>?_) (λ_ z=>z) (λ_ _ z=>z)
  have b2:H c≠none:=by
   rcases hc with rfl|hc
   ·rw[e];simp
   ·rw[hc];simp
  refine Y.1 c u hu (λz=>b2 (by rw[z];exact S.free)) λz=>b2 (I.stkFree c z)
abbrev SpX:=List D->MH->DK->XQ->Prop
def nN(K:Ad)(sp:SpX):Sp:=λvs H Q E=>∃ ds M Qd R,IsL H ds vs/\F9 K M H/\sp ds M Qd R/\(∀ v H' d M',F6 H H'->Is H' d v->F9 K M' H'->Qd d M'->Q v H') /\
 ∀ C dx fs es M' H',F6 H H'->H' dx=some (.xd fs)->F9 K M' H'->FsIs H' es fs->R C es M'->E (.ref C) (some dx) H'
structure CalX(P:Program)(w:World)(K:Ad)(mg:Str->Option Value)(base:Heap)(k:Nat)(x:Str)(sp:SpX):Prop where
 ex:∃(f:Addr) (fd:FuncData) (ps:List Str),F8 P w K mg base (XCX P w) k f fd ps (nN K sp)/\mg x=some (.ref f)/\B1 K (.ref f)=true/\Binds K fd ps []
section
variable {X:Cx}{G:Ga}{M:MH}{e:Expr}{es:List Expr}{pos:Pos}{Q:DK}{R:Ga->XQ}
theorem JK{k:Nat}{f:Addr}{fd:FuncData}{ps:List Str}{sp:SpX}{pins:List (Addr×Obj)}{σ:St}{H0 H:Hp}{s:Shared}{us:List Value}{vs:List V}{ds:List D}(F:F8 X.prog X.w X.K X.mg X.base (XCX X.prog X.w) k f fd ps (nN X.K sp))(hr:Room k X.A)(hb:Binds X.K fd ps [])
  (T:Thr X R)(I:L2.Inv X pins σ H s)(L:Rel X G M σ H)(g0:F6 H0 H)(r:Vals vs us)(i:IsL H ds vs)(h:sp ds M Q (R G)):wpAny (model X.prog X.w) X.A (call (.ref f) us) (EPD X pins σ G H0 Q) X.xe s:=by
 have h':nN X.K sp vs H (λv H'=>∃ d M',F6 H H'/\Is H' d v/\F9 X.K M' H'/\Q d M') (λcv dd H'=>∃ C J fs es M',cv=.ref C/\dd=some J/\F6 H H'/\H' J=some (.xd fs)/\F9 X.K M' H'/\FsIs H' es fs/\R G C es M') :=
  #v[ds,M,Q,R G,i,L.mem,h,λv H' d M' g i m q=>#v[d,M',g,i,m,q],λC J fs es M' H' g h1 m h2 q=>#v[C,J,fs,es,M',rfl,rfl,g,h1,m,h2,q]]
 have hl:(us++[]).length=ps.length:=by rw[A7,<- r.length];exact F.len _ _ _ _ h'
 have Y:=hb s us I.kIn hl
 rw[A7]at Y
 refine wpAny_call (codeAny_mono (F.run X.A X.stack s H #v[us,[]] us vs _ _ hr I.env0 Y r h') λr s' S=>?_)
 cases r with
 |error e =>
  let ⟨a,C,J,fs,H',rfl,b2,b1,un,hok,O,hsz,C',b4,b3,es,M',e1,e3,g,h1,m,h2,q⟩:=S
  cases e1;cases e3
  have I3:=I.call' b2 un hok b1 (λb z=>absurd z (by simp))
  have Z:fs=b3:=by
   have:=O.own.symm.trans h1
   simpa using this
  subst Z
  exact T pins σ H' s' a C J fs es G M' I3 O (Ay I.sz hsz) (λp hp=>A1 (Aw (As (I.pin p hp).1) hsz)) (L.to g m) h2 q
 |ok O =>
  cases O with
  |ret u =>
   let ⟨v,H',I',r',d,M',g,i',m,q⟩:=I.after S
   exact #v[v,H',d,M',I',r',g0.trans g,i',L.to g m,q]
  |next=>exact False.elim S
  |brk=>exact False.elim S
  |cont=>exact False.elim S
theorem tV{j k:Nat}{x:Str}{p:Pos}{sp:SpX}(C:CalX X.prog X.w X.K X.mg X.base j x sp)(hr:Room k X.A)(hk:j<=k)(T:Thr X R)(h:AV X G M (e::es) λds M1=>sp ds M1 Q (R G))(hg:Gl X x:=by rfl)(hdb:(x == ("__debug__":Str))=false:=by decide)
  (he:A0 (e::es) X.env=(false,eval e X.env)::A0 es X.env:=by rfl)(hpl:(backTo pos (A0 es X.env)).any (·.1)=false:=by rfl):EV X G M (.Call (.Name x p) (e::es) [] pos) Q:=by
 intro J s σ H I O
 let ⟨f,V,ps,F,hm,L,S⟩:=C.ex
 refine wpAny_Call_Name_kw (hJ I hg hm ?_ hdb)
 refine Ek (h₀:=X.base) I.ok.mod.kin L (thn (h pos J s σ H I O) λus s1 ⟨vs,H1,ds,M1,I1,r1,g1,i1,R1,q1⟩=>#v[I1.kIn,?_]) he hpl
 exact JK (F.mono hk) hr S T I1 R1 g1 r1 i1 q1
end
section
variable {P:Program}{w:World}{K:Ad}{mg:Str->Option Value}{base:Heap}
theorem UA{x b4:Str}{st:Stmt}{f:Addr}{fd:FuncData}{N ps:List Str}{k:Nat}{sp:SpX}(F:Fun K x b4 st f fd)(S:FnScope N ps (aZ st))(len:∀ ds M Q R,sp ds M Q R->ds.length=ps.length)
  (hbody:∀(cdv:Value) (A:Around) (outer:List Env) (s:Shared) (H:Hp) (EE:XK) (ds:List D) (M:MH) (Q:DK) (R:XQ),Room k (A.deeper (envOfC b4 (aZ st) s.heap.objs.size f cdv))->sp ds M Q R->Thr (eX (XCX P w) P w K mg base N b4 (aZ st) f cdv A outer s H EE) (λ_=>R) ->
   EXs (eX (XCX P w) P w K mg base N b4 (aZ st) f cdv A outer s H EE) (nE N ds) M (cI st) { nx:=λ_ M'=>Q .non M',rt:=Q }):F8 P w K mg base (XCX P w) (k+1) f fd ps (nN K sp):=by
 let ⟨oc,od,kV,b3,pm,an,cdv,ct,b1,rfl,lk,Y⟩:=F.ex
 refine LQ lk Y S (λvs H Q E h=>?_) (λA outer s H vs Q E hr h=>?_)
 ·let ⟨ds,M,Qd,R,i,_,h,_⟩:=h
  rw[<- i.len];exact len _ _ _ _ h
 let ⟨ds,M,Qd,R,i,m,h,kq,kx⟩:=h
 have B:=hbody cdv A outer s H E ds M Qd R hr h (OZ kx)
 exists λD σ' H'=>σ'=L2.start N vs/\H'=H/\D.nx=(λ_ H'=>Q .non H')/\D.rt=Q,?_,rfl,rfl,rfl,rfl
 intro J s' σ' H' D I #v[e1,e2,e3,e4]
 subst e1;subst e2
 refine thn (B J s' _ _ I (kR i m)) λfl b2 q=>?_
 cases fl with
 |next =>
  let ⟨σ2,L,G2,M2,V,O,R2,Z⟩:=q
  exists σ2,L,V,?_
  rw[e3]
  exact kq .non L .non M2 O (cJ.mpr rfl) R2.mem Z
 |brk=>let ⟨_,_,_,_,_,_,_,z⟩:=q;exact z.elim
 |cont=>let ⟨_,_,_,_,_,_,_,z⟩:=q;exact z.elim
 |ret u =>
  let ⟨v,σ2,L,d,M2,V,r2,O,i2,m2,Z⟩:=q
  exists v,σ2,L,V,r2,?_
  rw[e4]
  exact kq v L d M2 O i2 m2 Z
theorem MA{x:Str}{st:Stmt}{f:Addr}{fd:FuncData}{ps:List Str}{k:Nat}{sp:SpX}(F:Fun K x x st f fd)(G:F8 P w K mg base (XCX P w) k f fd ps (nN K sp))(b:Binds K fd ps [])(m:mg x=some (.ref f)):CalX P w K mg base k x sp :=
 #v[f,fd,ps,G,m,F.kp,b]
theorem JL :
  PassesOwn (model P w) (eX (XCX P w) P w K mg base N qual scope f cdv A outer s₀ H₀ E).A (eX (XCX P w) P w K mg base N qual scope f cdv A outer s₀ H₀ E).env (eX (XCX P w) P w K mg base N qual scope f cdv A outer s₀ H₀ E).xe:=PassesOwn.leaving
end
def JM(f:Str)(d:D):List (Str×D)->List (Str×D)
 |[]=>[(f,d)]
 |(g,x)::r=>if g=f then (g,d)::r else (g,x)::JM f d r
theorem FsIs.put{H:Hp}{f:Str}{d:D}{y:V}(i:Is H d y):∀{fs:List (Str×D)} {ys:List (Str×V)},FsIs H fs ys->FsIs H (JM f d fs) (eQ f y ys)
 |[],ys,h=>by
  have h:ys=[]:=h
  subst h
  exact #v[y,[],rfl,i,rfl]
 |(g,x)::r,ys,h=>by
  let ⟨v,I,rfl,h1,h2⟩:=h
  unfold JM eQ
  by_cases c:g=f
  ·rw[if_pos c,if_pos c];exact #v[y,I,rfl,i,h2]
  ·rw[if_neg c,if_neg c];exact #v[v,_,rfl,h1,FsIs.put i h2]
theorem FsIs.get:∀{fs:List (Str×D)} {ys:List (Str×V)},FsIs H fs ys->fs.lookup f=some d->∃ y,ys.lookup f=some y/\Is H d y
 |[],_,_,e=>by cases e
 |(g,x)::r,ys,h,e=>by
  let ⟨v,J,rfl,h1,h2⟩:=h
  unfold Dh at e ⊢
  by_cases c:f=g
  ·have I:(f == g)=true:=beq_iff_eq.mpr c
   rw[I]at e ⊢
   cases e
   exact #v[v,rfl,h1]
  ·have I:(f == g)=false:=by simpa using c
   rw[I]at e ⊢
   exact FsIs.get h2 e
section
variable {X:Cx}{pins:List (Addr×Obj)}{σ:St}{H:Hp}{s:Shared}{h':Heap}
theorem mL(x:eZ a C dd fr h):G9 P w H h a (.ext (eZ a C dd fr)):=by
 let ⟨o,vs,e,h1,h2,I,h4⟩:=id x
 exact #v[x,#v[o,e],λh1 h2 ⟨o,vs,e,q⟩ k=>#v[o,vs,k o e,q]]
theorem MB{a dx:Addr}{o1 o2:HO}{t':Nat}(I:L2.Inv X pins σ H s)(Z:∃ φ,H a=some (.ext φ))(hD:(H dx=none/\s.heap.objs.size<=dx)\/∃ fs,H dx=some (.xd fs))(b1:dx≠a)
  (k:∀ b u,b≠a->b≠dx->s.heap.get? b=some u->h'.get? b=some u)(ta:∃ o,h'.get? a=some o)(td:∃ o,h'.get? dx=some o)(oa:G9 X.prog X.w (upd (upd H dx o1) a o2) h' a o2)(od:G9 X.prog X.w (upd (upd H dx o1) a o2) h' dx o1) :
  L2.Inv X pins σ (upd (upd H dx o1) a o2) { s with heap:=h',toks:=t' }:=by
 let ⟨φ,Z⟩:=Z
 have L:∀ b o,s.heap.get? b=some o->H b=none->b≠a/\b≠dx:=λb o J n=>by
  exists λz=>(by rw[z,Z]at n;cases n),λz=>?_
  rcases hD with ⟨_,h2⟩|⟨fs,h2⟩
  ·rw[z]at J;exact absurd (As J) (Nat.not_lt.mpr h2)
  ·rw[z,h2]at n;cases n
 have S:∀ b u,H b=some u->(∀ φ,u≠.ext φ)->(∀ fs,u≠.xd fs)->upd (upd H dx o1) a o2 b=some u:=λb u J n1 n2=>by
  have Y:b≠a:=λz=>by rw[z,Z]at J;cases J;exact n1 _ rfl
  have V:b≠dx:=λz=>by
   rcases hD with ⟨h2,_⟩|⟨fs,h2⟩
   ·rw[z,h2]at J;cases J
   ·rw[z,h2]at J;cases J;exact n2 _ rfl
  rw[aL Y,aL V];exact J
 refine I.un #v[λb o J n _ _=>k b o (L b o J n).1 (L b o J n).2 J,λb o J n _ _=>#v[o.slots,k b o (L b o J n).1 (L b o J n).2 J],λb o J n _=>?_,λb o J _=>?_,
  λb xs e=>S b _ e (λ_ z=>by cases z) (λ_ z=>by cases z),λb o u e=>S b _ e (λ_ z=>by cases z) (λ_ z=>by cases z),λb ps e=>#v[#[],by rw[S b _ e (λ_ z=>by cases z) (λ_ z=>by cases z)];simp]] ?_
 ·rw[aL (L b o J n).1,aL (L b o J n).2];exact n
 ·by_cases Y:b=a
  ·rw[Y];exact ta
  ·by_cases V:b=dx
   ·rw[V];exact td
   ·exact #v[o,k b o Y V J]
 ·intro b u e
  by_cases Y:b=a
  ·subst Y;rw[aI]at e;cases e;exact oa
  ·rw[aL Y]at e
   by_cases V:b=dx
   ·subst V;rw[aI]at e;cases e;exact od
   ·rw[aL V]at e
    refine (I.hok b u e).stay (λc v O hv=>?_) (λc O=>S c _ O (λ_ z=>by cases z) (λ_ z=>by cases z)) (λc xs O=>S c _ O (λ_ z=>by cases z) (λ_ z=>by cases z))
    rcases O with rfl|O
    ·exact k c v Y V hv
    ·refine k c v (λz=>?_) (λz=>?_) hv
     ·rw[z,Z]at O;cases O
     ·rcases hD with ⟨h2,_⟩|⟨fs,h2⟩
      ·rw[z,h2]at O;cases O
      ·rw[z,h2]at O;cases O
end
structure ErrF(K:Ad)(C P:Addr)(f:Str):Prop where
 cls:Err K C P
 sa:A6 K (.ref C) "__setattr__"=some (some (.builtin "object.__setattr__"))
 ga:A6 K (.ref C) "__getattribute__"=some (some (.builtin "BaseException.__getattribute__"))
 gh:A6 K (.ref C) "__getattr__"=some none
 no:A6 K (.ref C) f=some none
section
variable {X:Cx}{G:Ga}{o value:Expr}{pos pos':Pos}{E:EndsD}
theorem mM{K:Ad}{h:Heap}(m:F9 K M H)(I:K.In h)(h1:H dx=none)(h2:h.objs.size<=dx):M dx=none:=by
 cases e:M dx with
 |none=>rfl
 |some u =>
  rcases (m dx u e).there with ⟨v,q⟩|⟨v,q⟩
  ·rw[h1]at q;cases q
  ·exact absurd (As (I dx v q)) (Nat.not_lt.mpr h2)
theorem JN(F:ErrF X.K C P f)(h:EV X G M value λdv M1=>EV X G M1 o λdO M2=>∃ a,dO=.ref a /\
   ((M2 a=some (.exc C none true)/\∀ dx,M2 dx=none->dx≠a->E.nx G (FF (FF M2 dx (.att [(f,dv)])) a (.exc C (some dx) true))) \/
    ∃ dx fs,M2 a=some (.exc C (some dx) true)/\M2 dx=some (.att fs)/\dx≠a/\fs.length<100/\E.nx G (FF (FF M2 dx (.att (JM f dv fs))) a (.exc C (some dx) true))))
  (hs:swapsWith value (some (.Attribute o f pos')) pos.line X.env=pure false:=by rfl):EX X G M (.Assign [.Attribute o f pos'] value pos) E:=by
 intro b2 s σ H I R
 refine plainObj_wpAny_Assign_Attribute (thn (h b2 s σ H I R) λu s1 ⟨y,H1,dv,M1,I1,ry,g1,i1,R1,q1⟩=>thn (q1 b2 s1 σ H1 I1 R1) λov s2 ⟨x,H2,dO,M2,I2,rx,g2,i2,R2,a,e,q⟩=>?_) hs
 subst e
 rw[aH]at i2;subst i2
 obtain rfl:ov=Value.ref a:=rx
 have iv:=Is.grow g2 _ _ i1
 let ⟨h2,gg,dd,tt,oo⟩:=s2
 rcases q with ⟨ha,q⟩|⟨dx,fs,ha,d6,L,e7,q⟩
 ·have hA:H2 a=some (.ext (eZ a C none true)):=R2.mem a _ ha
  let ⟨⟨ob,vs,ho,hc,hd,Y,b3⟩,_,_⟩:=I2.hok a _ hA
  have d7:a<h2.objs.size:=As ho
  have Ix:h2.Inst a C (λ_=>none):=#v[ob,ho,hc,λc z=>(by rw[Y]at z;cases z),.inl #v[hd,λ_=>rfl]]
  refine yE (ns:=[]) I2.kIn F.cls F.sa F.no Ix (λh3 b4 I' hk S=>?_) Within.nil (by simp)
  let ⟨o1,e1,e2,e3,e4,e5,e6⟩:=S ob ho
  have e6:=e6 hd
  have O:H2 h2.objs.size=none:=I2.hok.fresh (Ao _)
  have L:h2.objs.size≠a:=(A1 d7).symm
  have hM:=mM R2.mem I2.kIn O (Ao _)
  let ⟨o2,f1,f2,f3,f4⟩:=I'
  have:o2=o1:=B3.inj (f1.symm.trans e1)
  subst this
  obtain ⟨d2,f5,f6,f7⟩:∃ d,o2.dict=some d/\d≠a/\h3.Ns1 d (λy=>if y=f then some u else none):=by
   rcases f4 with ⟨z,_⟩|z
   ·rw[e6]at z;cases z
   ·exact z
  have:d2=h2.objs.size:=by rw[e6]at f5;exact (B3.inj f5).symm
  subst this
  have b7:∀ Z,G9 X.prog X.w Z h3 a (.ext (eZ a C (some h2.objs.size) true)):=λZ=>mL #v[o2,vs,e1,by rw[e2];exact hc,e6,by rw[e3];exact Y,λz=>by rw[e4];exact b3 z]
  have b5:∀ Z,G9 X.prog X.w Z h3 h2.objs.size (.xd [(f,y)]):=λZ=>#v[_,f7,λg=>by
   by_cases c:g=f
   ·subst c
    simp only[Dh,beq_self_eq_true,if_true];exact ry
   ·have J:(g == f)=false:=by simpa using c
    simp only[Dh,J,if_neg c];exact trivial]
  have I3:=MB (t':=b4) (o1:=.xd [(f,y)]) (o2:=.ext (eZ a C (some h2.objs.size) true)) I2 #v[_,hA] (.inl #v[O,Ao _]) L (λb v q1 q2 J=>hk b v q1 (λo₀ dx hz b1 z=>by
   have:o₀=ob:=B3.inj (hz.symm.trans ho)
   subst this
   rw[hd]at b1;cases b1) J) #v[_,e1] (let ⟨o,_,_,e,_⟩:=f7;#v[o,e]) (b7 _) (b5 _)
  have gr:F6 H2 (upd (upd H2 h2.objs.size (.xd [(f,y)])) a (.ext (eZ a C (some h2.objs.size) true))):=(aK O).trans (cH λxs z=>by rw[aL L.symm,hA]at z;cases z)
  exists σ,_,G,_,I3,g1.trans (g2.trans gr),R2.to gr (λb v J=>?_),q _ hM L
  by_cases c1:b=a
  ·subst c1;rw[FB]at J;cases J;exact aI
  ·rw[aC c1]at J
   by_cases c2:b=h2.objs.size
   ·subst c2;rw[FB]at J;cases J
    exact #v[[(f,y)],by rw[aL c1,aI],y,[],rfl,Is.grow gr _ _ iv,rfl]
   ·rw[aC c2]at J
    exact (R2.mem b v J).stay gr λw hw=>by rw[aL c1,aL c2];exact hw
 ·have hA:H2 a=some (.ext (eZ a C (some dx) true)):=R2.mem a _ ha
  let ⟨ys,hX,hF⟩:=R2.mem dx _ d6
  let ⟨⟨ob,vs,ho,hc,hd,Y,b3⟩,_,_⟩:=I2.hok a _ hA
  let ⟨mA,hN,hR⟩:=I2.hok dx _ hX
  have Ix:h2.Inst a C mA:=#v[ob,ho,hc,λc z=>(by rw[Y]at z;cases z),.inr #v[dx,hd,L,hN]]
  have hW:PySem.Within mA (ys.map (·.1)):=λg hg=>by
   have:=hR g
   cases hl:ys.lookup g with
   |none =>
    rw[hl]at this
    cases hm:mA g with
    |none=>exact absurd hm hg
    |some v=>rw[hm]at this;exact this.elim
   |some v=>exact A5.mpr #v[(g,v),PySem.mem_of_lookup hl,rfl]
  have d9:ys.length=fs.length:=by
   have:∀{fs:List (Str×D)} {ys:List (Str×V)},FsIs H2 fs ys->ys.length=fs.length:=by
    intro fs
    induction fs with
    |nil=>intro ys h;have h:ys=[]:=h;rw[h];rfl
    |cons p r ih =>
     intro ys h
     let ⟨v,d8,rfl,_,h2⟩:=h
     rw[Ah,Ah,ih h2]
   exact this hF
  refine yE (ns:=ys.map (·.1)) I2.kIn F.cls F.sa F.no Ix (λh3 b4 I' hk S=>?_) hW (by rw[Ab,sizeLine_eq];lia)
  let ⟨o1,e1,e2,e3,e4,e5,e6⟩:=S ob ho
  have e5:=e5 dx hd
  let ⟨o2,f1,f2,f3,f4⟩:=I'
  have:o2=o1:=B3.inj (f1.symm.trans e1)
  subst this
  obtain ⟨d2,f5,f6,f7⟩:∃ d,o2.dict=some d/\d≠a/\h3.Ns1 d (λy=>if y=f then some u else mA y):=by
   rcases f4 with ⟨z,_⟩|z
   ·rw[e5]at z;cases z
   ·exact z
  have:d2=dx:=by rw[e5]at f5;exact (B3.inj f5).symm
  subst this
  have b7:∀ Z,G9 X.prog X.w Z h3 a (.ext (eZ a C (some d2) true)):=λZ=>mL #v[o2,vs,e1,by rw[e2];exact hc,e5,by rw[e3];exact Y,λz=>by rw[e4];exact b3 z]
  have b5:∀ Z,G9 X.prog X.w Z h3 d2 (.xd (eQ f y ys)):=λZ=>#v[_,f7,λg=>by
   rw[gK]
   by_cases c:g=f
   ·rw[if_pos c,if_pos c];exact ry
   ·rw[if_neg c,if_neg c];exact hR g]
  have I3:=MB (t':=b4) (o1:=.xd (eQ f y ys)) (o2:=.ext (eZ a C (some d2) true)) I2 #v[_,hA] (.inr #v[_,hX]) L (λb v q1 q2 J=>hk b v q1 (λo₀ dx hz b1 z=>by
   have:o₀=ob:=B3.inj (hz.symm.trans ho)
   subst this
   rw[hd]at b1;cases b1;exact q2 z) J) #v[_,e1] (let ⟨o,_,_,e,_⟩:=f7;#v[o,e]) (b7 _) (b5 _)
  have gr:F6 H2 (upd (upd H2 d2 (.xd (eQ f y ys))) a (.ext (eZ a C (some d2) true))):=(cH λxs z=>by rw[hX]at z;cases z).trans (cH λxs z=>by rw[aL L.symm,hA]at z;cases z)
  exists σ,_,G,_,I3,g1.trans (g2.trans gr),R2.to gr (λb v J=>?_),q
  by_cases c1:b=a
  ·subst c1;rw[FB]at J;cases J;exact aI
  ·rw[aC c1]at J
   by_cases c2:b=d2
   ·subst c2;rw[FB]at J;cases J
    exact #v[eQ f y ys,by rw[aL c1,aI],FsIs.put (Is.grow gr _ _ iv) (FsIs.grow gr hF)]
   ·rw[aC c2]at J
    exact (R2.mem b v J).stay gr λw hw=>by rw[aL c1,aL c2];exact hw
end
inductive spIni(C:Addr)(fs:List Str)(ds:List D)(M:MH)(Q:DK):Prop|mk:∀ a vs,ds=.ref a::vs->vs.length=fs.length->M a=some (.exc C none true)->(∀ dx,M dx=none->dx≠a->Q .non (FF (FF M dx (.att (fs.zip vs))) a (.exc C (some dx) true)))->spIni C fs ds M Q
structure Mkr(P:Program)(w:World)(K:Ad)(mg:Str->Option Value)(base:Heap)(k:Nat)(x:Str)(C P0:Addr)(fs:List Str):Prop where
 ex:∃(fI:Addr) (fd:FuncData) (ps:List Str) (oI:Obj),F8 P w K mg base CX0 k fI fd ps (aD K (spIni C fs))/\Binds K fd ps []/\A6 K (.ref C) "__init__"=some (some (.ref fI))/\K.lookup fI=some oI/\oI.cls=.type "function"
 mg:mg x=some (.ref C)
 kp:B1 K (.ref C)=true
 cls:Err K C P0
theorem wD(h:dx≠a):FF (FF (FF M a o1) dx o2) a o3=FF (FF M dx o2) a o3:=by
 funext b
 by_cases c:b=a
 ·subst c;rw[FB,FB]
 ·rw[aC c,aC c]
  by_cases c2:b=dx
  ·subst c2;rw[FB,FB]
  ·rw[aC c2,aC c2,aC c]
section
variable {X:Cx}{G:Ga}{M:MH}{e:Expr}{es:List Expr}{pos cpos:Pos}{E:EndsD}{Q:DK}{R:Ga->XQ}
theorem DY{k:Nat}{x:Str}{C P0:Addr}{fs:List Str}{pins:List (Addr×Obj)}{σ:St}{H:Hp}{s:Shared}{us:List Value}{vs:List V}{ds:List D}{Qv:Value->Shared->Prop}(m:Mkr X.prog X.w X.K X.mg X.base k x C P0 fs)(hr:Room (k+1) X.A)
  (I:L2.Inv X pins σ H s)(O:Rel X G M σ H)(r:Vals vs us)(i:IsL H ds vs)(hl:ds.length=fs.length)(hsz:fs.length<=100)
  (hQ:∀ a dx H' s',L2.Inv X pins σ H' s'->F6 H H'->Rel X G (FF (FF M dx (.att (fs.zip ds))) a (.exc C (some dx) true)) σ H'->s.heap.objs.size<=a->M a=none->M dx=none->dx≠a->Qv (.ref a) s') :
  wpAny (model X.prog X.w) X.A (call (.ref C) us) Qv X.xe s:=by
 let ⟨fI,fd,ps,oI,F,hb,hi,b3,b1⟩:=m.ex
 let ⟨h,g,d,t,os⟩:=s
 have b4:us.length=fs.length:=by rw[<- hl,i.len,r.length]
 refine DT I.kIn m.cls hi b3 b1 (λh' hm=>?_) (by rw[b4,sizeLine_eq];lia)
 let ⟨tt,he,_,_⟩:=hm.there
 have fresh:H (h.objs.size+1)=none:=I.hok.fresh (Cs _)
 have S:L2.Inv X pins σ (upd H (h.objs.size+1) (.ext (eZ (h.objs.size+1) C none true))) #v[h',g,d,t,os]:=I.laid (t':=t) hm.keeps (Cs _) (mL #v[_,_,he,rfl,rfl,rfl,λ_=>#v[rfl,tt,rfl]])
 have b7:=mM O.mem I.kIn fresh (Cs _)
 have R2:Rel X G (FF M (h.objs.size+1) (.exc C none true)) σ (upd H (h.objs.size+1) (.ext (eZ (h.objs.size+1) C none true))):=O.to (aK fresh) (O.mem.lay fresh aI)
 have i2:IsL (upd H (h.objs.size+1) (.ext (eZ (h.objs.size+1) C none true))) (.ref (h.objs.size+1)::ds) (.ref (h.objs.size+1)::vs):=aG.mpr #v[_,_,rfl,aH.mpr rfl,i.grow (aK fresh)]
 have Y:aD X.K (spIni C fs) (.ref (h.objs.size+1)::vs) (upd H (h.objs.size+1) (.ext (eZ (h.objs.size+1) C none true))) (λv H'=>∃ L M',F6 (upd H (h.objs.size+1) (.ext (eZ (h.objs.size+1) C none true))) H'/\Is H' L v/\F9 X.K M' H'/\L=.non/\∃ dx,FF M (h.objs.size+1) (.exc C none true) dx=none/\dx≠h.objs.size+1/\M'=FF (FF (FF M (h.objs.size+1) (.exc C none true)) dx (.att (fs.zip ds))) (h.objs.size+1) (.exc C (some dx) true)) E0 :=
  #v[_,_,λL M'=>L=.non/\∃ dx,FF M (h.objs.size+1) (.exc C none true) dx=none/\dx≠h.objs.size+1/\M'=FF (FF (FF M (h.objs.size+1) (.exc C none true)) dx (.att (fs.zip ds))) (h.objs.size+1) (.exc C (some dx) true),i2,R2.mem,
   #v[_,ds,rfl,hl,FB,λdx h1 h2=>#v[rfl,dx,h1,h2,rfl]],λv H' L M' g i m q=>#v[L,M',g,i,m,q]]
 have r2:Vals (V.ref (h.objs.size+1)::vs) (Value.ref (h.objs.size+1)::us):=.cons rfl r
 have b5:(Value.ref (h.objs.size+1)::us++[]).length=ps.length:=by
  rw[A7,<- r2.length]
  exact F.len _ _ _ _ Y
 have Z:=hb (#v[h',g,d,t,os]:Shared) (Value.ref (h.objs.size+1)::us) S.kIn b5
 rw[A7]at Z
 refine wpAny_call (codeAny_mono (F.run _ X.stack _ _ #v[Value.ref (h.objs.size+1)::us,[]] (Value.ref (h.objs.size+1)::us) _ _ E0 (hr.make C us []) (S.env0.make C us []) Z r2 Y) λr s' J=>?_)
 cases r with
 |error e=>exact J.elim
 |ok fl =>
  cases fl with
  |ret u =>
   let ⟨v,H',I3,rv,L,M',g3,i3,m3,rfl,dx,h1,h2,rfl⟩:=S.after J
   rw[cJ]at i3;subst i3
   cases rv
   have b2:M dx=none:=by rw[aC h2]at h1;exact h1
   rw[wD h2]at m3
   have g4:F6 H H':=(aK fresh).trans g3
   exact #v[rfl,hQ _ dx H' s' I3 g4 (O.to g4 m3) (Cs _) b7 b2 h2]
  |next=>exact False.elim J
  |brk=>exact False.elim J
  |cont=>exact False.elim J
def iY(H:Hp)(a:Addr):Hp:=λb=>if b=a then none else H b
theorem JO{pins:List (Addr×Obj)}{σ:St}{H:Hp}{s:Shared}{a:Addr}(I:L2.Inv X pins σ H s)(V:∃ φ,H a=some (.ext φ)):L2.Inv X pins σ (iY H a) s:=by
 let ⟨φ,V⟩:=V
 have J:∀ b,b≠a->iY H a b=H b:=λb L=>by unfold iY;rw[if_neg L]
 have keep:∀ b u,H b=some u->(∀ φ,u≠.ext φ)->iY H a b=some u:=λb u e n=>by
  rw[J b (λz=>by rw[z,V]at e;cases e;exact n _ rfl)];exact e
 have Y:∀ b,H b=none->iY H a b=none:=λb e=>by
  unfold iY
  split
  ·rfl
  ·exact e
 have:=I.un (H':=iY H a) (h':=s.heap) (t':=s.toks) #v[λb o L _ _ _=>L,λb o L _ _ _=>#v[o.slots,L],λb o _ n _=>Y b n,λb o L _=>#v[o,L],λb xs e=>keep b _ e (λ_ z=>by cases z),λb o u e=>keep b _ e (λ_ z=>by cases z),λb ps e=>#v[#[],by rw[keep b _ e (λ_ z=>by cases z)];simp]]
  (λb u e=>by
   have S:b≠a:=λz=>by unfold iY at e;rw[if_pos z]at e;cases e
   rw[J b S]at e
   exact (I.hok b u e).stay (λ_ _ _ z=>z) (λc O=>keep c _ O (λ_ z=>by cases z)) (λc xs O=>keep c _ O (λ_ z=>by cases z)))
 exact this
theorem DZ(I:∃ φ,H a=some (.ext φ)):F6 H (iY H a):=λb xs e=>by
 let ⟨φ,I⟩:=I
 unfold iY
 rw[if_neg (λz=>by rw[z,I]at e;cases e)];exact e
theorem EA{k:Nat}{x:Str}{p:Pos}{C P0:Addr}{fs:List Str}(m:Mkr X.prog X.w X.K X.mg X.base k x C P0 fs){j:Nat}(hr:Room j X.A)(hj:k+1<=j)(hc:X.calm=true)(T:Thr X R)(hsz:fs.length<=100)
  (h:AV X G M (e::es) λds M1=>ds.length=fs.length/\∀ dx,M1 dx=none->R G C (fs.zip ds) (FF M1 dx (.att (fs.zip ds))))(hg:Gl X x:=by rfl)(hdb:(x == ("__debug__":Str))=false:=by decide)
  (he:A0 (e::es) X.env=(false,eval e X.env)::A0 es X.env:=by rfl)(hpl:(backTo cpos (A0 es X.env)).any (·.1)=false:=by rfl):EX X G M (.Raise (some (.Call (.Name x p) (e::es) [] cpos)) none pos) E:=by
 intro J s σ H I Rl
 let ⟨nm,q,N,bs,sn,sub,ab,col,dd,k0,k1,k2,k3,k5,hC⟩:=m.cls.ex
 rw[arm_exec_Raise]
 refine Ac (Dl (wA (C:=C) (nm:=nm) (q:=q) (N:=N) (bs:=bs) (bm:=.ref P0::VE) (hdct:=true) (sn:=sn) (sub:=sub) (ab:=ab) (col:=col) (dd:=dd) (k0:=k0) (k1:=k1) (k2:=k2) (k3:=k3) (k5:=k5) (newId :="ValueError.__new__") (by simp[VE]) (I.ok.hd hc) ?_))
 refine Ac (Cz (Q:=λv s₁=>∃ e t de,v=.ref e/\s₁.heap.get? C=some (excClassObj nm q C N bs (.ref P0::VE) true sn sub ab col dd k0 k1 k2 k3 k5 "ValueError.__new__")/\s₁.heap.get? e=some { cls:=.ref C,dict:=de,data:=.fields #[.ref t,.none,.none,.none,.bool false,.none] }/\X.xe (.ref e) s₁) ?_ (λv s₃ h₃=>Ac (Dl (Ag h₃))) λ_ _ x=>x)
 refine wpAny_Call_Name_kw (hJ I hg m.mg ?_ hdb)
 refine Ek (h₀:=X.base) I.ok.mod.kin m.kp (thn (h cpos J s σ H I Rl) λus s1 ⟨vs,H1,ds,M1,I1,r1,g1,i1,R1,hl,q1⟩=>#v[I1.kIn,?_]) he hpl
 refine DY m (hr.mono hj) I1 R1 r1 i1 hl hsz λa dx H' s' I' g' L Y h1 h2 h3=>?_
 have hA:H' a=some (.ext (eZ a C (some dx) true)):=L.mem a _ FB
 let ⟨ys,hX,hF⟩:=L.mem dx (.att (fs.zip ds)) (by rw[aC h3,FB])
 let ⟨⟨ob,b4,ho,V,hd,O,b2⟩,_,_⟩:=I'.hok a _ hA
 let ⟨b1,tt,S⟩:=b2 rfl
 have b3:ob={ cls:=.ref C,dict:=some dx,data:=.fields #[.ref tt,.none,.none,.none,.bool false,.none] }:=by
  let ⟨c1,c2,c3,c4⟩:=ob
  simp only at V hd O b1
  rw[V,hd,O,b1,S]
 have gd:F6 H' (iY H' a):=DZ #v[_,hA]
 have I3:=JO I' #v[_,hA]
 exists a,tt,some dx,rfl,I'.kIn _ _ hC,by rw[<- b3];exact ho,?_
 refine T J σ (iY H' a) s' a C dx ys (fs.zip ds) G (FF M1 dx (.att (fs.zip ds))) I3 #v[#v[ob,b4,ho,V,hd,O,(by rw[S];show 1<6;lia),.inl (by rw[S];rfl)],h3,?_,?_] (Ay I1.sz Y) (λp hp=>A1 (Aw (As (I1.pin p hp).1) Y)) (L.to gd (λb v hb=>?_)) (FsIs.grow gd hF) (q1 dx h2)
 ·unfold iY;rw[if_neg h3];exact hX
 ·unfold iY;rw[if_pos rfl]
 ·have Z:b≠a:=λz=>by
   rw[z,aC (λz=>h3 z.symm),h1]at hb;cases hb
  refine (L.mem b v (by rw[aC Z];exact hb)).stay gd λw hw=>?_
  unfold iY;rw[if_neg Z];exact hw
end
structure Cth(K:Ad)(C P:Addr):Prop where
 run:∀{M:Model} {A:Around} {E:Value->Shared->Prop} {h:Heap} {g:Array GenState} {d:Drawn} {t:Nat} {os:OsState} {e:Addr} {oe:Obj} {Q:Bool->Shared->Prop},K.In h->h.get? e=some oe->oe.cls=.ref C->Q true #v[h,g,d,t,os]->wpAny M A (excMatches (.ref e) (.ref P)) Q E #v[h,g,d,t,os]
theorem Cth.self{K:Ad}{C P:Addr}(c:Err K C P):Cth K C C:=#v[λX L I O=>by
 let ⟨nm,q,N,bs,sn,sub,ab,col,dd,k0,k1,k2,k3,k5,J⟩:=c.ex
 have J:=X _ _ J
 have h1:(Value.ref P::VE).contains (.type "BaseException")=true:=by simp[VE]
 have h2:(Value.ref C::.ref P::VE).contains (.ref C)=true:=by simp[VE]
 have S:(Value.ref C::.ref P::VE).contains (.type "BaseException")=true:=by simp[VE]
 have f:=tc_notTuple
 unfold excMatches
 repeat (first|(with_reducible refine wpAny_loadPart_at L ?_;rw[I])|with_reducible refine wpAny_loadPart_at J ?_|(with_reducible refine wpAny_isSubtype_exc J ?_;first|rw[h2]|rw[S])|wp_step)
 exact O]
section
variable {X:Cx}{pins:List (Addr×Obj)}{σ:St}{H:Hp}{s:Shared}
theorem WE{M:Model}{A:Around}{E:Value->Shared->Prop}{i:Nat}{n:Str}{pos:Pos}{Q:Unit->Shared->Prop}(I:L2.Inv X pins σ H s)(hN:X.N.Nodup)(hi:X.N[i]?=some n)(hl:X.env.scope.names.lookup n=some .local)
  (h:∀ s',L2.Inv X pins (σ.set i none) H s'->Q () s'):wpAny M A (do bindName X.env n .none;unbindBehindTheSuite X.env n pos) Q E s:=by
 let ⟨m,hn,J⟩:=id I.loc
 have L:(X.env.scope.kind == .class||(X.env.scope.kind == .module&&X.env.locals != X.env.globals))=false:=by rw[I.ok.kind];rfl
 refine wpAny_nameGoes_keeps hl hn L λh' v Z hs=>h _ ?_
 have S:∀ b o,X.s₀.heap.get? b=some o->b≠X.env.locals:=λb o e=>A1 (Aw (As e) I.ok.above)
 exists I.ok,I.os,I.bare,#v[λb o e nb Y hx=>(hs.2 b (S b o e)).trans (I.base.keep b o e nb Y hx),λb o e nb Y hx=>?_,I.base.free,λb o e hx=>?_,I.base.tups,I.base.frzs,I.base.tbls],#v[_,Z,λj y v' e1 e2 e3=>?_],λy c e=>?_,I.free,I.freeC,λp hp=>?_,λb ob e=>?_,by simpa using I.len
 ·let ⟨sl,e1⟩:=I.base.slot b o e nb Y hx
  exact #v[sl,(hs.2 b (S b o e)).trans e1]
 ·let ⟨o',e1⟩:=I.base.there b o e hx
  exact #v[o',(hs.2 b (S b o e)).trans e1]
 ·by_cases hj:j=i
  ·subst hj
   have V:j<σ.length:=by rw[I.len];exact (Ax.mp hi).1
   rw[Da V]at e2
   cases e2
  ·rw[C2 (Ne.symm hj)]at e2
   let ⟨u',r',q⟩:=J j y v' e1 e2 e3
   exists u',r',?_
   rcases q with ⟨k,e⟩|⟨k,c,e,z⟩
   ·refine .inl #v[k,?_]
    have hy:y≠n:=λe=>hj (mR hN e1 (e▸hi))
    simp[hy,e]
   ·exact .inr #v[k,c,e,z.sameBut hs (I.cne y c e)]
 ·let ⟨w',z⟩:=I.cell y c e
  exact #v[w',z.sameBut hs (I.cne y c e)]
 ·let ⟨e,nb,ne,nf,d⟩:=I.pin p hp
  exact #v[(hs.2 p.1 ne).trans e,nb,ne,nf,d]
 ·refine (I.hok b ob e).stay (λc w' O q=>(hs.2 c ?_).trans q) (λ_ q=>q) λ_ _ q=>q
  rintro rfl
  rcases O with rfl|O
  ·rw[I.free]at e;cases e
  ·rw[I.free]at O;cases O
abbrev Cx.suite(X:Cx)(a:Addr):Cx:={ X with A:=X.A.mark (some (.ref a)),calm:=false,xe:=λ_ _=>False }
theorem Inv.suite(I:L2.Inv X pins σ H s)(a:Addr):L2.Inv (Cx.suite X a) pins σ H s :=
 #v[#v[I.ok.mod,I.ok.kind,I.ok.glob,I.ok.blt,I.ok.above,I.ok.inj,I.ok.has,I.ok.cab,λz=>(by cases z),I.ok.frames,I.ok.stk,I.ok.exf,I.ok.bs,I.ok.bsz,I.ok.noex,I.ok.exfs,I.ok.funs,I.ok.frf],I.os,I.bare,I.base,I.loc,I.cell,I.free,I.freeC,I.pin,I.hok,I.len]
theorem Inv.unsuite{a:Addr}(I:L2.Inv (Cx.suite X a) pins σ H s)(J:X.Ok):L2.Inv X pins σ H s:=#v[J,I.os,I.bare,I.base,I.loc,I.cell,I.free,I.freeC,I.pin,I.hok,I.len]
theorem UB{a C dx:Addr}{fs:List (Str×V)}{h':Heap}(I:L2.Inv X pins σ H s)(L:Flies H s.heap a C dx fs)(hsz:X.s₀.heap.objs.size<=a)(hp:∀ p∈X.pn++pins,p.1≠a)(e7:X.stack=X.env::X.outer)(d9:X.env.frame=some X.env.locals)
  (ps:X1.rO ((X.env::X.outer).filterMap (·.frame)) a s.heap h')(hx:lS h' a (.ref C) (some dx)):L2.Inv X pins σ (upd H a (.ext (eZ a C (some dx) false))) { s with heap:=h' }:=by
 let ⟨oe,vs,he,O,hd,Z,_,_⟩:=L.at_
 have b3:∀ b,b∈(X.env::X.outer).filterMap (·.frame)↔b=X.env.locals\/b∈X.fs:=λb=>by
  rw[Ea,d9]
  exact Am
 let ⟨m,hn,_⟩:=id I.loc
 have S:a≠X.env.locals:=λz=>by
  let ⟨o,es,ep,Y,J,_⟩:=hn
  rw[<- z,he]at Y
  cases Y
  rw[Z]at J;cases J
 have d8:∀ x c,X.env.cells.lookup x=some c->c≠a:=λx c e z=>by
  let ⟨v,o,Y,J⟩:=I.cell x c e
  rw[z,he]at Y
  cases Y
  rw[Z]at J;cases J
 have:=I.step (g':=s.gens) (t':=s.toks) (d':=s.drawn) (ch:=[a]) (h':=h') (H':=upd H a (.ext (eZ a C (some dx) false)))
  (λb hb=>by
   have e:b=a:=by simpa using hb
   subst e
   exact #v[.inr hsz,S,d8,hp])
  (λb o n1 n2 n3 e _=>ps.1 b o e (by simpa using n3) (by rw[b3];simp only[not_or];exact #v[n1,n2]))
  (λb o n1 n2 n3 e _=>ps.2 b o e (by simpa using n3))
  (λb o n3 e n=>by rw[aL (by simpa using n3)];exact n)
  (λb o n3 e=>let ⟨sl,q⟩:=ps.2 b o e (by simpa using n3);#v[_,q])
  (λb xs e=>by rw[aL (λz=>by rw[z,L.free]at e;cases e)];exact e)
  (λb o u e=>by rw[aL (λz=>by rw[z,L.free]at e;cases e)];exact e)
  (λb p e=>#v[#[],by rw[aL (λz=>by rw[z,L.free]at e;cases e),e];simp])
  (λm hm=>by
   let ⟨o,es,ep,Y,J,r⟩:=hm
   let ⟨sl,q⟩:=ps.2 _ o Y S.symm
   exact #v[_,es,ep,q,J,r])
  (λb u e=>by
   by_cases hb:b=a
   ·subst hb
    rw[aI]at e;cases e
    let ⟨b4,d7,b5,b7,d6,b1,_,_⟩:=hx
    exact mL #v[b4,d7,b5,b7,d6,b1,λz=>by cases z]
   ·rw[aL hb]at e
    refine (I.hok b u e).stay (λc v O hv=>?_) (λc O=>by rw[aL (λz=>by rw[z,L.free]at O;cases O)];exact O) (λc xs O=>by rw[aL (λz=>by rw[z,L.free]at O;cases O)];exact O)
    have b2:H c≠none:=by
     rcases O with rfl|O
     ·rw[e];simp
     ·rw[O];simp
    refine ps.1 c v hv (λz=>b2 (by rw[z];exact L.free)) λz=>b2 (I.stkFree c ?_)
    rw[e7];exact z) I.bare
 exact this
end
section
variable {X:Cx}{G:Ga}{M:MH}{body:List Stmt}{b0:Stmt}{suite:List Stmt}{pos np hpos:Pos}{E:EndsD}{R:Ga->XQ}
theorem Rel.drop(I:Rel X G M σ H):Rel X (G.set i none) M (σ.set i none) H:=by
 exists λj d e=>?_,I.mem
 by_cases hj:j=i
 ·subst hj
  rw[List.getElem?_set]at e
  rw[if_pos rfl]at e
  split at e<;>cases e
 ·rw[C2 (Ne.symm hj)]at e ⊢
  exact I.loc j d e
def SPT(X:Cx)(pins:List (Addr×Obj))(E:EndsD)(f:Flow)(s':Shared):Prop :=
 match f with
 |.next=>∃ σ' H' G' M',L2.Inv X pins σ' H' s'/\Rel X G' M' σ' H'/\E.nx G' M'
 |.ret u=>∃ v σ' H' d M',L2.Inv X pins σ' H' s'/\G5 v u/\Is H' d v/\F9 X.K M' H'/\E.rt d M'
 |_=>False
def EXt(X:Cx)(G:Ga)(M:MH)(st:List Stmt)(E:EndsD):Prop :=
 ∀(pins:List (Addr×Obj)) (s:Shared) (σ:St) (H:Hp),L2.Inv X pins σ H s->Rel X G M σ H->wpAny (model X.prog X.w) X.A (execs st X.env) (SPT X pins E) X.xe s
theorem EB{st:List Stmt}{nx:Ga->MH->Prop}{rt:DK}(h:EXs X G M st { nx:=nx,rt:=rt }):EXt X G M st { nx:=nx,rt:=rt }:=λpins s σ H I Rl=>thn (h pins s σ H I Rl) λf Y q=>by
 cases f with
 |next=>let ⟨σ',H',O,M',J,g',L,q⟩:=q;exact #v[σ',H',O,M',J,L,q]
 |brk=>let ⟨_,_,_,_,_,_,_,z⟩:=q;exact z.elim
 |cont=>let ⟨_,_,_,_,_,_,_,z⟩:=q;exact z.elim
 |ret u=>let ⟨v,σ',H',d,M',J,r,g',S,V,q⟩:=q;exact #v[v,σ',H',d,M',J,r,S,V,q]
theorem tW{st:Stmt}{sts:List Stmt}{nx:Ga->MH->Prop}{rt:DK}(h:EX X G M st { nx:=λG' M'=>EXt X G' M' sts { nx:=nx,rt:=rt },rt:=rt }):EXt X G M (st::sts) { nx:=nx,rt:=rt }:=λpins s σ H I Rl=>by
 refine wpAny_execs_cons (thn (h pins s σ H I Rl) λf O q=>?_)
 cases f with
 |next=>let ⟨σ',H',G',M',J,g',L,q⟩:=q;exact q pins O σ' H' J L
 |brk=>let ⟨_,_,_,_,_,_,_,z⟩:=q;exact z.elim
 |cont=>let ⟨_,_,_,_,_,_,_,z⟩:=q;exact z.elim
 |ret u=>let ⟨v,σ',H',d,M',J,r,g',S,V,q⟩:=q;exact #v[v,σ',H',d,M',J,r,S,V,q]
abbrev Cx.tried(X:Cx)(pins:List (Addr×Obj))(xe':Value->Shared->Prop):Cx:={ X with pn:=X.pn++pins,xe:=xe' }
theorem Inv.tried{pins:List (Addr×Obj)}{σ:St}{H:Hp}{s:Shared}(I:L2.Inv X pins σ H s)(L:Value->Shared->Prop):L2.Inv (Cx.tried X pins L) [] σ H s :=
 #v[#v[I.ok.mod,I.ok.kind,I.ok.glob,I.ok.blt,I.ok.above,I.ok.inj,I.ok.has,I.ok.cab,I.ok.hd,I.ok.frames,I.ok.stk,I.ok.exf,I.ok.bs,I.ok.bsz,I.ok.noex,I.ok.exfs,I.ok.funs,I.ok.frf],I.os,I.bare,I.base,I.loc,I.cell,I.free,I.freeC,λp J=>I.pin p (by simpa using J),I.hok,I.len]
theorem Inv.untried{pins S:List (Addr×Obj)}{σ:St}{H:Hp}{s:Shared}{O:Value->Shared->Prop}(I:L2.Inv (Cx.tried X pins O) S σ H s)(L:X.Ok):L2.Inv X pins σ H s :=
 #v[L,I.os,I.bare,I.base,I.loc,I.cell,I.free,I.freeC,λp J=>I.pin p (Bk _ J),I.hok,I.len]
def QT(X:Cx)(pins:List (Addr×Obj))(rest:List Stmt)(E:EndsD):Flow->Shared->Prop
 |.next,s'=>wpAny (model X.prog X.w) X.A (execs rest X.env) (SPT X pins E) X.xe s'
 |.ret u,s'=>SPT X pins E (.ret u) s'
 |_,_=>False
theorem EC{i:Nat}{n cn:Str}{P0:Addr}{rest:List Stmt}{nx:Ga->MH->Prop}{rt:DK}(hok:∀ pins xe',Thr (Cx.tried X pins xe') R->EXs (Cx.tried X pins xe') G M body { nx:=λG' M'=>EXt X G' M' rest { nx:=nx,rt:=rt },rt:=rt })(b2:X.stack=X.env::X.outer)(b4:X.env.frame=some X.env.locals)
  (hN:X.N.Nodup)(hi:X.N[i]?=some n)(hl:X.env.scope.names.lookup n=some .local)(hf:X.fn n=true)(hm:X.mg cn=some (.ref P0))(hg:Gl X cn)
  (hR:∀ G1 C fs M1,R G1 C fs M1->Cth X.K C P0/\∀ a dx,M1 a=none->(M1 dx=none\/∃ fs',M1 dx=some (.att fs'))->dx≠a ->
   EXs (Cx.suite X a) (G1.set i (some (.ref a))) (FF (FF M1 dx (.att fs)) a (.exc C (some dx) false)) (b0::suite) { nx:=λG2 M2=>EXt X (G2.set i none) M2 rest { nx:=nx,rt:=rt },rt:=λ_ _=>False })
  (hdb:(cn == ("__debug__":Str))=false:=by decide):EXt X G M (.Try body [.ExceptHandler (some (.Name cn np)) (some n) (b0::suite) hpos] [] [] pos::rest) { nx:=nx,rt:=rt }:=by
 intro pins s σ H I Rl
 have ok:=I.ok
 refine wpAny_execs_cons (Cz (Q:=QT X pins rest { nx:=nx,rt:=rt }) ?_ (λf s' h=>?_) λ_ _ x=>x)
 rotate_left
 ·cases f with
  |next=>exact h
  |brk=>exact h.elim
  |cont=>exact h.elim
  |ret u=>exact h
 refine wpAny_Try_except ?_
 generalize hxe:(λe s₁=>wpAny (model X.prog X.w) X.A (noteFrame e X.env) (λ_ s₂=>wpAny (model X.prog X.w) X.A (setFlight e none) (λ_ s₃=>wpAny (model X.prog X.w) X.A (handleBy e X.env [.ExceptHandler (some (.Name cn np)) (some n) (b0::suite) hpos]) (QT X pins rest { nx:=nx,rt:=rt }) X.xe s₃) X.xe s₂) X.xe s₁)=xe'
 have T:Thr (Cx.tried X pins xe') R:=by
  intro e7 σ1 H1 Z a C dx fs ds G1 M1 I1 L hsz hp O hF hr
  let ⟨b1,S⟩:=hR G1 C ds M1 hr
  have J:L2.Inv X pins σ1 H1 Z:=Inv.untried I1 ok
  have O:Rel X G1 M1 σ1 H1:=#v[O.loc,O.mem]
  show xe' (.ref a) Z
  rw[<- hxe]
  have hA:X.A.frames=some (X.env::X.outer):=by rw[<- b2];exact ok.frames
  have hS:Z.heap.FunFrames X.base (X.env::X.outer):=by rw[<- b2];exact J.stack
  refine note (base:=X.base) hA hS b4 L.at_ λh' ps hx=>?_
  have J2:=UB J L hsz (λp b3=>hp p (Bk _ b3)) b2 b4 ps hx
  have gr:F6 H1 (upd H1 a (.ext (eZ a C (some dx) false))):=aK L.free
  have d6:M1 a=none:=by
   cases e:M1 a with
   |none=>rfl
   |some u =>
    rcases (O.mem a u e).there with ⟨v,q⟩|⟨v,q⟩
    ·rw[L.free]at q;cases q
    ·have h1:=As (ok.mod.kin a v q)
     exact absurd (Aw h1 (Ay ok.bsz hsz)) (Cd _)
  have d7:M1 dx=none\/∃ fs',M1 dx=some (.att fs'):=by
   cases e:M1 dx with
   |none=>exact .inl rfl
   |some u =>
    have hu:=O.mem dx u e
    cases u with
    |att fs'=>exact .inr #v[fs',rfl]
    |lst _=>let ⟨_,z,_⟩:=hu;rw[L.own]at z;cases z
    |dic _=>let ⟨_,z,_⟩:=hu;rw[L.own]at z;cases z
    |rod _ _=>let ⟨_,z,_⟩:=hu;rw[L.own]at z;cases z
    |exc _ _ _=>have z:H1 dx=_:=hu;rw[L.own]at z;cases z
    |raw _=>have z:H1 dx=_:=hu;rw[L.own]at z;cases z
    |tkd _=>let ⟨_,z,_⟩:=hu;rw[L.own]at z;cases z
    |ins _ _=>let ⟨_,_,z,_⟩:=hu;rw[L.own]at z;cases z
    |ro _ =>
     let ⟨_,z,_⟩:=hu
     rcases z with (z|⟨o,z⟩)|⟨o,_,_,z,_⟩
     ·rw[L.own]at z;cases z
     ·rw[L.own]at z;cases z
     ·have:=dZ J dx _ z
      rw[L.own]at this;cases this
  have V:Rel X G1 (FF (FF M1 dx (.att ds)) a (.exc C (some dx) false)) σ1 (upd H1 a (.ext (eZ a C (some dx) false))):=O.to gr (λc v hc=>by
   by_cases c1:c=a
   ·subst c1;rw[FB]at hc;cases hc;exact aI
   ·rw[aC c1]at hc
    by_cases c2:c=dx
    ·subst c2;rw[FB]at hc;cases hc
     exact #v[fs,by rw[aL c1];exact L.own,FsIs.grow gr hF]
    ·rw[aC c2]at hc
     exact (O.mem c v hc).stay gr λw hw=>by rw[aL c1];exact hw)
  let ⟨hh,g,d,t,os⟩:=Z
  let ⟨e8,e9,b5,b7,_⟩:=id hx
  refine wpAny_handleBy_cons (codeAny_handlers_test (hJ (Inv.suite J2 a) hg hm (b1.run J2.kIn b5 b7 ?_) hdb)) (by intro q;cases q)
  refine codeAny_handlers_suite_as (X1.rest hx (jF J2 hN hi (Bh hl) (v:=.ref a) rfl (λs4 I4=>?_) (.inl hf)))
  have d9:i<σ1.length:=by rw[J.len];exact (Ax.mp hi).1
  have d8:Rel (Cx.suite X a) (G1.set i (some (.ref a))) (FF (FF M1 dx (.att ds)) a (.exc C (some dx) false)) (σ1.set i (some (.ref a))) (upd H1 a (.ext (eZ a C (some dx) false))):=Rel.set (X:=Cx.suite X a) #v[V.loc,V.mem] d9 (aH.mpr rfl)
  refine Cz (S a dx d6 d7 L.ne pins s4 _ _ (Inv.suite I4 a) d8) (λf s5 h5=>?_) λ_ _ z=>z.elim
  cases f with
  |next =>
   let ⟨σ',H',G',M',I',g',Y,q⟩:=h5
   refine WE (Inv.unsuite I' ok) hN hi hl λs6 I6=>?_
   exact q pins s6 _ H' I6 (Rel.drop (X:=X) #v[Y.loc,Y.mem])
  |brk=>let ⟨_,_,_,_,_,_,_,z⟩:=h5;exact z.elim
  |cont=>let ⟨_,_,_,_,_,_,_,z⟩:=h5;exact z.elim
  |ret u=>let ⟨_,_,_,_,_,_,_,_,_,_,z⟩:=h5;exact z.elim
 refine Cz (hok pins xe' T [] s σ H (Inv.tried I xe') #v[Rl.loc,Rl.mem]) (λf Z h1=>?_) λe Z h1=>h1
 cases f with
 |next =>
  let ⟨σ',H',G',M',I',g',Y,q⟩:=h1
  refine wpAny_execs_nil ?_
  exact q pins Z σ' H' (Inv.untried I' ok) #v[Y.loc,Y.mem]
 |brk=>let ⟨_,_,_,_,_,_,_,z⟩:=h1;exact z.elim
 |cont=>let ⟨_,_,_,_,_,_,_,z⟩:=h1;exact z.elim
 |ret u =>
  let ⟨v,σ',H',d,M',I',r,g',i',m',q⟩:=h1
  exact #v[v,σ',H',d,M',Inv.untried I' ok,r,i',m',q]
end
section
variable {P:Program}{w:World}{K:Ad}{mg:Str->Option Value}{base:Heap}
theorem WF{x b2:Str}{st:Stmt}{f:Addr}{fd:FuncData}{N ps:List Str}{k:Nat}{sp:SpD}(F:Fun K x b2 st f fd)(S:FnScope N ps (aZ st))(len:∀ ds M Q,sp ds M Q->ds.length=ps.length)
  (hbody:∀(cdv:Value) (A:Around) (outer:List Env) (s:Shared) (H:Hp) (EE:XK) (ds:List D) (M:MH) (Q:DK),Room k (A.deeper (envOfC b2 (aZ st) s.heap.objs.size f cdv))->sp ds M Q ->
   EXt (eX CX0 P w K mg base N b2 (aZ st) f cdv A outer s H EE).nox (nE N ds) M (cI st) { nx:=λ_ M'=>Q .non M',rt:=Q }):F8 P w K mg base CX0 (k+1) f fd ps (aD K sp):=by
 refine F.ok S (λvs H Q E h=>?_) (λcdv A outer s H vs Q E hr h=>?_)
 ·let ⟨ds,M,Z,i,_,h,_⟩:=h
  rw[<- i.len];exact len _ _ _ h
 let ⟨ds,M,Z,i,m,h,k⟩:=h
 have B:=hbody cdv A outer s H E ds M Z hr h
 exists λD σ' H'=>σ'=L2.start N vs/\H'=H/\D.nx=(λ_ H'=>Q .non H')/\D.rt=Q,?_,rfl,rfl,rfl,rfl
 intro L s' σ' H' D I #v[e1,e2,e3,e4]
 subst e1;subst e2
 refine thn (B L s' _ _ I (kR i m)) λfl b1 q=>?_
 cases fl with
 |next =>
  let ⟨σ2,O,G2,Y,J,R2,V⟩:=q
  exists σ2,O,J,?_
  rw[e3]
  exact k .non O .non Y (rP J.base) (cJ.mpr rfl) R2.mem V
 |brk=>exact q.elim
 |cont=>exact q.elim
 |ret u =>
  let ⟨v,σ2,O,d,Y,J,r2,i2,m2,V⟩:=q
  exists v,σ2,O,J,r2,?_
  rw[e4]
  exact k v O d Y (rP J.base) i2 m2 V
end
end D3
namespace X1
open PySem PySem.W PySem.Calls Builtin Builtin.ObjectAttr
end X1
namespace D3
open PySem PySem.Spec PyProof.Rows L2 X1
theorem ED(r:G5 v u):handedOut u=pure u:=by
 cases v<;>first|(let ⟨t,rfl⟩:=r;rfl)|(cases r;rfl)
theorem JP(h:EV X G M e λd M1=>∃ a C P dx fr fs d',d=.ref a/\M1 a=some (.exc C (some dx) fr)/\dx≠a/\M1 dx=some (.att fs)/\ErrF X.K C P f/\fs.lookup f=some d'/\Q d' M1)(hbase:attributeBase e f X.env (eval e X.env)=eval e X.env:=by rfl):EV X G M (.Attribute e f pos) Q:=by
 intro J s σ H I Rl
 refine xJ hbase (thn (h J s σ H I Rl) λu s1 ⟨x,H1,d,M1,I1,rx,g1,i1,R1,a,C,P,dx,fr,fs,d',e1,ha,hne,hd,F,hl,q⟩=>?_)
 subst e1
 rw[aH]at i1;subst i1
 obtain rfl:u=Value.ref a:=rx
 have hA:H1 a=some (.ext (eZ a C (some dx) fr)):=R1.mem a _ ha
 let ⟨ys,hX,S⟩:=R1.mem dx _ hd
 let ⟨⟨ob,vs,Z,hc,O,L,_⟩,_,_⟩:=I1.hok a _ hA
 let ⟨V,hN,hR⟩:=I1.hok dx _ hX
 let ⟨y,hy,iy⟩:=S.get hl
 let ⟨Y,gg,dd,tt,oo⟩:=s1
 have Ix:Y.Inst a C V:=#v[ob,Z,hc,λc z=>(by rw[L]at z;cases z),.inr #v[dx,O,hne,hN]]
 have hr:=hR f
 rw[hy]at hr
 cases hm:V f with
 |none=>rw[hm]at hr;exact hr.elim
 |some v =>
  rw[hm]at hr
  exact OY I1.kIn F.cls F.ga F.gh F.no Ix hm (ED hr) #v[y,H1,d',M1,I1.tok (tt+1),hr,g1,iy,R1,q]
theorem PB(x:G9 P w H h a o):∃ u,h.get? a=some u:=by
 induction o generalizing a with
 |lst xs=>let ⟨_,_,_,_,e⟩:=x;exact #v[_,e]
 |tup xs=>let ⟨_,_,_,o,e,_⟩:=x;exact #v[_,e]
 |dK I=>let ⟨_,_,_,_,o,_,_,e,_⟩:=x;exact #v[_,e]
 |dT I=>let ⟨_,_,_,_,o,_,_,e,_⟩:=x;exact #v[_,e]
 |set S n=>let ⟨o,_,_,_,e,_⟩:=x;exact #v[_,e]
 |ins C L fs=>let ⟨_,_,_,e,_⟩:=x;exact #v[_,e]
 |own _=>exact x
 |xd fs=>let ⟨_,⟨o,_,_,e,_⟩,_⟩:=x;exact #v[_,e]
 |rng V J=>let ⟨_,_,_,e⟩:=x;exact #v[_,e]
 |frz o u O=>exact #v[_,x.1]
 |tbl ps=>exact #v[_,x]
 |met f y=>exact #v[_,x]
 |ext φ=>exact x.2.1
end D3
namespace HT
open PySem PySem.Spec PyProof.Rows
section
variable {prog:Program}{w:World}{A:Around}{E:Value->Shared->Prop}{s:Shared}
theorem jU{t Z:Addr}{items:Array Value}{vl vu:Value}{lo hi:Option Int}{Q:Value->Shared->Prop}(I:IsTup s.heap t items)(hs:s.heap.IsSliceOf Z vl vu .none)(pl:IsPart vl lo)(Y:IsPart vu hi)
  (hw:sIx items.size 0 lo=0/\sIx items.size items.size hi=items.size)(h:Q (.ref t) s):wpAny (model prog w) A (getItem (.ref t) (.ref Z)) Q E s:=by
 let ⟨S,O,L,V⟩:=id hs
 have J:s.TypeIs (.ref Z) "slice":= #v[S,O,L]
 unfold getItem
 try with_reducible refine wpAny_holding ?_
 first|refine Ac (Ag ?_)|skip
 refine Ac (wpAny_sequenceKey I.typeIs (by decide) ?_)
 refine Ac (wpAny_callSpecial?_slot (name:=Aa "__getitem__") I.typeIs PyProof.Rows.slot_tuple_getitem
  (wpAny_call_entry PyProof.Rows.slot_tuple_getitem I.typeIs entry_tuple_getitem ?_ (args_tuple_getitem _ _)))
 show wpAny _ _ (Fk (.ref t) >>= _) _ _ s
 refine Ac (tupleItemsOf_ I ?_)
 refine Ac (wpAny_typeOf J ?_)
 rw[if_pos (by decide)]
 refine Ac (fR hs pl Y ?_)
 rw[hw.1,hw.2]
 show wpAny _ _ (if (((0:Nat):Int) == 0&&(1:Int) == 1&&(items.size-0) == items.size)=true then _ else _) _ _ s
 rw[if_pos (by simp)]
 refine Ac (m:=Fl _) ?_
 let ⟨o,e1,e2,_⟩:=id I
 unfold Fl
 refine Ac (wpAny_typeOf_ref e1 ?_)
 rw[e2]
 refine Ag ?_
 show wpAny _ _ (if ((Value.type "tuple"== Value.type "tuple")=true) then _ else _) _ _ s
 rw[if_pos (by decide)]
 refine Ac (wpAny_rule ?_)
 first
  |exact Ag #v[_,rfl,Ag h]
  |exact Ac (Ag (Ag #v[_,rfl,Ag h]))
end
end HT
namespace D3
open PySem PySem.Spec PyProof.Rows L2
def UC(K:Ad):V->Option Int->Option Int->Hp->VK->Prop:=λx lo hi H Q=>∃ a xs,x=.ref a/\SqT K H a xs /\
 ((HT.sIx xs.length 0 lo=0/\HT.sIx xs.length xs.length hi=xs.length)->Q (.ref a) H)/\(¬ (HT.sIx xs.length 0 lo=0/\HT.sIx xs.length xs.length hi=xs.length)->∀ p,H p=none->Q (.ref p) (upd H p (.tup (qX xs lo hi))))
section
variable {X:Cx}{G:Ga}{M:MH}{Q:DK}{a b:Expr}{pos:Pos}
theorem PC:SlR X (UC X.K):=by
 intro J s σ H x v vl vu lo V sl Q I Y hs pl Z h
 let ⟨a,xs,rfl,hx,q1,q2⟩:=h
 by_cases hw:HT.sIx xs.length 0 lo=0/\HT.sIx xs.length xs.length V=xs.length
 ·cases Y
  let ⟨O,r,S,hz⟩:=I.tuple hx
  have L:O.toArray.size=xs.length:=by rw[Av];exact r.length.symm
  exists "tuple",_,PyProof.Rows.slot_tuple_getitem.lookup,S.typeIs,?_
  refine HT.jU S hs pl Z (by rw[L];exact hw) ?_
  exact #v[.ref a,H,I,rfl,q1 hw]
 ·exact ND J s σ H (.ref a) v vl vu lo V sl Q I Y hs pl Z #v[a,xs,rfl,hx,hw,q2 hw]
theorem EF{ds:List D}{I J:Option Int}(hw:HT.sIx ds.length 0 I=0/\HT.sIx ds.length ds.length J=ds.length):cK ds I J=ds:=by
 unfold cK
 rw[hw.1,hw.2]
 simp
theorem yF{V:D}{S L:Option Int}{ds:List D}(e:V=.tup ds)(h:Q (.tup (cK ds S L)) M):RS X.K (UC X.K) V S L M Q:=by
 intro H x O hx m
 subst e
 rw[bM]at hx
 let ⟨a,xs,rfl,h1,h2⟩:=hx
 have J:=h2.cut S L
 have hl:=h2.len
 exists a,xs,rfl,SqT.of h1,λhw _=>?_,λhw p I _=>#v[aK I,.tup _,M,bM.mpr #v[p,_,rfl,aI,J.grow (aK I)],m.new I,h]
 rw[<- hl]at hw
 rw[EF hw]at h
 exact #v[F6.refl _,.tup ds,M,bM.mpr #v[a,xs,rfl,h1,h2],m,h]
end
theorem EG(T:H4 X own js N scope cl)(O:X.xe=λ_ _=>False)(S:X.calm=true)(V:PI X tg iter wi)
  (h:∀ σ H,KF X.K H->Rel X G M σ H->wi σ H λJ H1=>F6 H H1/\∃(M1:MH) (ds:List D) (Iv:Addr->Nat->List D->MH->Prop),Rel X G M1 σ H1/\(∀ q i acc M' H',F6 H1 H'->F9 X.K M' H'->Iv q i acc M'->(i=ds.length->J.stop i H')/\(i<ds.length->J.go i H'/\∀ x H2,J.yld i H' x H2->H2=H'/\∃ d,ds[i]?=some d/\Is H' d x))/\(∀ q,M1 q=none->Iv q 0 [] (FF M1 q (.lst []))) /\
   (∀ Y:Cx,(∃ C s H fp,Y=bR X N scope cl C s H fp)->∀ q i acc M' d,ds[i]?=some d->Iv q i acc M'->M' q=some (.lst acc)->GV Y (aN own js G) M' tg d λG3 M3=>M3=M'/\Sub (aN own js G) G3/\EV Y G3 M' elt λo M4=>M4 q=some (.lst acc)/\acc.length<An/\Iv q (i+1) (acc++[o]) (FF M4 q (.lst (acc++[o])))) /\
   ∀ q acc M',Iv q ds.length acc M'->M' q=some (.lst acc)->Q (.ref q) M')
  (hs:∀ x,A9 iter X.env x=pure x:=by intro _;rfl):EV X G M (.ListComp elt [#v[tg,iter,[],0]] scope pos) Q :=
 nF T O S V (λσ H kf R=>#v[_,h σ H kf R,λJ H1 ⟨g,M1,ds,Iv,R1,w,iv0,b,fin⟩=>#v[g,M1,ds,Iv,R1,λq i acc M' H' g' L v'=>#v[(w q i acc M' H' g' L v').1,λI=>#v[((w q i acc M' H' g' L v').2 I).1,λx H2 y=>by
  let ⟨rfl,z⟩:=((w q i acc M' H' g' L v').2 I).2 x H2 y
  exact #v[F6.refl _,λ_ _ z=>z,z]]],iv0,qB b,fin]]) hs
theorem AO(T:H4 X own js N scope cl)(b4:X.xe=λ_ _=>False)(hc:X.calm=true)
  (h:EV X G M iter λd M1=>∃(l:Addr) (ds:List D) (Iv:Addr->Nat->List D->MH->Prop),d=.ref l/\M1 l=some (.lst ds)/\(∀ q i acc M',Iv q i acc M'->M' l=some (.lst ds))/\(∀ q,M1 q=none->Iv q 0 [] (FF M1 q (.lst []))) /\
   (∀ Y:Cx,(∃ C s H fp,Y=bR X N scope cl C s H fp)->∀ q i acc M' d,ds[i]?=some d->Iv q i acc M'->M' q=some (.lst acc)->GV Y (aN own js G) M' tg d λG3 M3=>M3=M'/\Sub (aN own js G) G3/\EV Y G3 M' elt λo M4=>M4 q=some (.lst acc)/\acc.length<An/\Iv q (i+1) (acc++[o]) (FF M4 q (.lst (acc++[o])))) /\
   ∀ q acc M',Iv q ds.length acc M'->M' q=some (.lst acc)->Q (.ref q) M')
  (hs:∀ x,A9 iter X.env x=pure x):EV X G M (.ListComp elt [#v[tg,iter,[],0]] scope pos) Q:=by
 refine EG T b4 hc (qU (fY (G:=G))) (λσ H kf R=>?_) hs
 exists M,_,R,h,λv H' d M' b3 g i V q=>?_
 let ⟨l,ds,Iv,e,hl,keep,J,block,O⟩:=q
 subst e
 rw[aH]at i;subst i
 let ⟨S,Z,_⟩:=V.mem l _ hl
 exists l,rfl,#v[S,SqL.of Z],g,M',ds,Iv,V,λq i acc M2 H2 g2 m2 v2=>?_,J,block,O
 let ⟨xs,L,I⟩:=m2 l _ (keep q i acc M2 v2)
 have b1:=I.len
 have sq:SqL X.K H2 l xs:=SqL.of L
 exists λe=>#v[xs,sq,by lia],λb2=>#v[#v[xs,xs[i]'(by lia),sq,by simp],λx H3 y=>?_]
 let ⟨e,y⟩:=y
 subst e
 have e1:=y xs sq
 let ⟨d,e2,i2⟩:=I.get' e1
 exact #v[rfl,d,e2,i2]
def BT(w:World):Bool:=w.params.followText "set-order"
theorem hZ:∀{vs vs':List Value},vs'.Perm vs->∀{ss:List Str},StrsAre vs ss->∃ ss',ss'.Perm ss/\StrsAre vs' ss':=by
 intro vs vs' p
 induction p with
 |nil=>intro ss h;cases h;exact #v[[],.nil,.nil]
 |cons x p V =>
  intro ss h
  cases h with
  |cons s t h =>
   let ⟨ss',h1,h2⟩:=V h
   exact #v[s::ss',h1.cons s,.cons s t h2]
 |swap x y l =>
  intro ss h
  cases h with
  |cons s t h =>
   cases h with
   |cons I S h=>exact #v[I::s::_,.swap ..,.cons I S (.cons s t h)]
 |trans p1 Z J L =>
  intro ss h
  let ⟨Y,h1,h2⟩:=L h
  let ⟨I,O,h4⟩:=J h2
  exact #v[I,O.trans h1,h4]
theorem tX:∀{vs:List Value} {ss:List Str} (x:Str) (t:Tok),StrsAre vs ss->StrsAre (vs++[.str x t]) (ss++[x])
 |_,_,x,t,.nil=>.cons x t .nil
 |_,_,x,t,.cons s u h=>.cons s u (tX x t h)
theorem tY:∀{vs:List Value} {ss:List Str} {x:Str},StrsAre vs ss->(x∈ss↔∃ v∈vs,jE (Sum.inr x) v=true)
 |_,_,x,.nil=>by simp
 |_,_,x,.cons s u h=>by
  have I:=tY (x:=x) h
  rw[Am,I]
  constructor
  ·rintro (rfl|⟨v,h1,h2⟩)
   ·exact #v[_,Aj ..,by simp[jE,Value.isStrOf]]
   ·exact #v[v,Ak _ h1,h2]
  ·rintro ⟨v,h1,h2⟩
   rcases Am.mp h1 with rfl|h1
   ·left
    have:s=x:=by simpa [jE,Value.isStrOf] using h2
    exact this.symm
   ·exact .inr #v[v,h1,h2]
theorem jV:∀{vs:List Value} {ss:List Str},StrsAre vs ss->vs.length=ss.length
 |_,_,.nil=>rfl
 |_,_,.cons s u h=>by rw[Ah,Ah,jV h]
structure SetS(P:Program)(w:World)(h:Heap)(a:Addr)(ss:List Str)(o:Obj)(es:Array (Int×Value))(ep:Nat)(t:SetTable):Prop where
 at_:h.get? a=some o
 ex:o.ExactSet
 dat:o.data=.set es ep t
 fit:t.fits es.size=true
 elems:ElemsOf (bA P w) es.toList
 str_:StrsAre (es.toList.map (·.2)) ss
 plain:t.plain=false\/es.size=0
 led:BT w=false->t.led=true
theorem dU(q:Q (BT w) s):wpAny (model P w) A setsByText Q E s:=by
 show wpAny _ A (ask >>= _) _ _ s
 exact Ac (wpAny_askSetting (Ag q))
theorem tZ(t:SetTable)(es:Array (Int×Value))(n:Nat)(h:t.plain=false):(relayAll t es n).2.1.plain=false:=by
 unfold relayAll
 split
 ·rename_i t' order he
  have:t'.plain=false:=by
   unfold SetTable.relaid SetTable.laid at he
   cases hl:SetTable.layClean (SetTable.sizeAbove n-1) (Array.map (λx=>x.fst) es) with
   |none=>rw[hl]at he;cases he
   |some I =>
    rw[hl]at he
    injection he with he
    injection he with h1 h2
    rw[<- h1];exact h
  dsimp only
  split
  ·exact this
  ·rfl
 ·rfl
theorem AQ(t:SetTable)(es:Array (Int×Value))(n:Nat):(relayAll t es n).2.1.led=t.led:=by
 unfold relayAll
 split
 ·rename_i t' order he
  have:t'.led=t.led:=by
   unfold SetTable.relaid SetTable.laid at he
   cases hl:SetTable.layClean (SetTable.sizeAbove n-1) (Array.map (λx=>x.fst) es) with
   |none=>rw[hl]at he;cases he
   |some I =>
    rw[hl]at he
    injection he with he
    injection he with h1 h2
    rw[<- h1]
  dsimp only
  split
  ·exact this
  ·rfl
 ·rfl
theorem wE(t:SetTable)(es:Array (Int×Value))(h:Int)(x:Value):(layNew t es h x).2.1.led=t.led:=by
 unfold layNew
 split
 ·dsimp only
  unfold SetTable.orStandIn
  split
  ·rfl
  ·rfl
 ·rfl
theorem SetS.store(H:SetS P w h a ss o es ep t)(J:t'.fits es'.size=true)(V:ElemsOf (bA P w) es'.toList)(st:StrsAre (es'.toList.map (·.2)) ss')(pl:t'.plain=false\/es'.size=0)(O:BT w=false->t'.led=true) :
  SetS P w (h.update a (Obj.putSet es' t')) a ss' (Obj.putSet es' t' o) es' (ep+1) t':=by
 let ⟨Y,S,L,I⟩:=o
 have hd:=H.dat
 simp only at hd
 subst hd
 exact #v[Bc _ H.at_ rfl,H.ex,rfl,J,V,st,pl,O]
theorem JQ(h:SetS P w s.heap a ss o es ep t)(hz:es.size<200)
  (q:∀ b h' tk ss' o' es' ep' t',SetS P w h' a ss' o' es' ep' t'->(∀ b o,b≠a->s.heap.get? b=some o->h'.get? b=some o)->((x∈ss/\ss'=ss)\/(x∉ss/\ss'.Perm (ss++[x])))->Q b { s with heap:=h',toks:=tk }):wpAny (model P w) A (setAdd a (.str x tok)) Q E s:=by
 show wpAny _ A (holding [_] (pyHash _ >>= _)) _ _ s
 refine wpAny_holding (Ac ((bA P w).pyHash (k:=Sum.inr x) (bD P w x tok) ?_))
 show wpAny _ A (holding [_] (setAddHashedIn a _ _ 100000)) _ _ _
 refine wpAny_holding ?_
 rw[show (100000:Nat)=99999+1 from rfl,setAddHashedIn.eq_def]
 show wpAny _ A (setState a >>= _) _ _ _
 refine Ac (Be h.at_ h.dat h.fit ?_)
 show wpAny _ A (if byScan _ es=true then _ else _) _ _ _
 rw[if_pos (byScan_of (knd:=bA P w) rfl (by unfold scanBound;lia) h.elems)]
 refine Ac ?_
 show wpAny _ A (rule _ >>= _) _ _ _
 refine Ac (wpAny_rule (Ac (wpAny_setScan_of (knd:=bA P w) (k:=Sum.inr x) (bD P w x tok) h.at_ h.dat h.fit h.elems ?_)))
 have Y:x∈ss↔∃ e∈es.toList,(bA P w).is (Sum.inr x) e.2=true:=by
  rw[tY h.str_]
  constructor
  ·rintro ⟨v,h1,h2⟩
   let ⟨e,h3,rfl⟩:=A5.mp h1
   exact #v[e,h3,h2]
  ·rintro ⟨e,h1,h2⟩
   exact #v[e.2,A5.mpr #v[e,h1,rfl],h2]
 cases hf:List.findIdx? (λe=>(bA P w).is (Sum.inr x) e.snd) es.toList with
 |some j =>
  refine Ag (Ag (q _ _ _ ss o es ep t h (λb o _ e=>e) (.inl #v[Y.mpr ?_,rfl])))
  let ⟨hj,hp,_⟩:=List.findIdx?_eq_some_iff_getElem.mp hf
  exact #v[_,Dq hj,hp]
 |none =>
  have e8:x∉ss:=λz=>by
   let ⟨e,h1,h2⟩:=Y.mp z
   have:=List.findIdx?_eq_none_iff.mp hf e h1
   rw[h2]at this;cases this
  dsimp only
  have hp:=layNew_perm t es ((bA P w).hash (Sum.inr x)) (.str x tok)
  have V:=layNew_fits t es ((bA P w).hash (Sum.inr x)) (.str x tok)
  have d9:=wE t es ((bA P w).hash (Sum.inr x)) (.str x tok)
  generalize layNew t es ((bA P w).hash (Sum.inr x)) (.str x tok)=L at hp V d9 ⊢
  let ⟨I,O,wd,gv⟩:=L
  dsimp only at hp V d9 ⊢
  have b3:BT w=false->O.led=true:=λz=>by rw[d9];exact h.led z
  have f1:ElemsOf (bA P w) I.toList:=λe he=>by
   have:=hp.mem_iff.mp he
   rw[Fn,Aq]at this
   rcases this with this|this
   ·exact h.elems e this
   ·rw[Al.mp this]
    exact #v[#v[Sum.inr x,bD P w x tok,rfl],rfl]
  have f7:(I.toList.map (·.2)).Perm (es.toList.map (·.2)++[.str x tok]):=by
   have:=hp.map (·.2)
   rw[Fn,Ai]at this
   exact this
  let ⟨e9,f5,b5⟩:=hZ f7 (tX x tok h.str_)
  have b1:I.size=es.size+1:=by
   have:=hp.length_eq
   simpa using this
  have tail:∀(J:SetTable) (g:Bool->Sem Unit),J.plain=false->J.fits I.size=true->(BT w=false->J.led=true)->(∀(b:Bool) (Q:Unit->Shared->Prop) (s':Shared),Q () s'->wpAny (model P w) A (g b) Q E s') ->
    wpAny (model P w) A (storeSet a I J >>= λ_=>if (!wd&&J.tooFull)=true then (g (relayAll J I (SetTable.grown I.size)).2.2 >>= λ_=>storeSet a (relayAll J I (SetTable.grown I.size)).1 (relayAll J I (SetTable.grown I.size)).2.1 >>= λ_=>pure (some true)) else pure (some true))
     (λa_2 s'=>wpAny (model P w) A (match a_2 with|some added=>pure added|none=>setAddHashedIn a (Value.str x tok) ((bA P w).hash (Sum.inr x)) 99999) Q E s') E { s with toks:=s.toks+1 }:=by
   intro J g b2 d8 b4 hg
   have S1:SetS P w (s.heap.update a (Obj.putSet I J)) a e9 (Obj.putSet I J o) I (ep+1) J:=h.store d8 f1 b5 (.inl b2) b4
   have k1:∀ b o,b≠a->s.heap.get? b=some o->(s.heap.update a (Obj.putSet I J)).get? b=some o:=λb o hb e=>(Ba _ _ (Ne.symm hb)).trans e
   refine Ac (wpAny_storeSet_of h.at_ h.dat ?_ (by rw[b1,sizeLine_eq];lia))
   by_cases hc:(!wd&&J.tooFull)=true
   ·rw[if_pos hc]
    have S:=relayAll_perm J I (SetTable.grown I.size)
    have b7:=relayAll_fits J I (SetTable.grown I.size)
    have d7:=tZ J I (SetTable.grown I.size) b2
    have d6:=AQ J I (SetTable.grown I.size)
    generalize relayAll J I (SetTable.grown I.size)=L at S b7 d7 d6 ⊢
    let ⟨Z,t3,g3⟩:=L
    dsimp only at S b7 d7 d6 ⊢
    have f2:ElemsOf (bA P w) Z.toList:=λe he=>f1 e (S.mem_iff.mp he)
    let ⟨f6,e7,f3⟩:=hZ (S.map (·.2)) b5
    have f4:Z.size=I.size:=by have:=S.length_eq;simpa using this
    refine Ac (hg _ _ _ ?_)
    refine Ac (wpAny_storeSet_of S1.at_ S1.dat ?_ (by rw[f4,b1,sizeLine_eq];lia))
    refine Ag (Ag (q _ _ _ f6 _ Z _ t3 (S1.store b7 f2 f3 (.inl d7) λz=>by rw[d6];exact b4 z) (λb o hb e=>(Ba _ _ (Ne.symm hb)).trans (k1 b o hb e)) (.inr #v[e8,e7.trans f5])))
   ·rw[if_neg hc]
    exact Ag (Ag (q _ _ _ e9 _ I _ J S1 k1 (.inr #v[e8,f5])))
  refine Ac ?_
  have gw:∀(b:Bool) (Q:Unit->Shared->Prop) (s':Shared),Q () s'->wpAny (model P w) A (match b with|true=>rule "set.scan.the-table-gave-way"|false=>pure ()) Q E s':=λb Q s' q=>by
   cases b
   ·exact Ag q
   ·exact wpAny_rule q
  refine gw gv _ _ ?_
  cases hpl:O.plain with
  |true =>
   rw[if_pos rfl]
   refine Ac (B4 (hashByValue_scannable 8 rfl) ?_)
   exact tail { mask:=O.mask,place:=O.place,dummies:=O.dummies,finger:=O.finger,led:=O.led,moves:=O.moves,plain:=false } _ rfl V b3 gw
  |false =>
   rw[if_neg (by decide)]
   refine Ac (Ag ?_)
   exact tail O _ hpl V b3 gw
theorem SetS.keep(H:SetS P w h a ss o es ep t)(k:∀ o,h.get? a=some o->h'.get? a=some o):SetS P w h' a ss o es ep t :=
 #v[k _ H.at_,H.ex,H.dat,H.fit,H.elems,H.str_,H.plain,H.led]
theorem pD(a:Value)
  (h:Q₁ (.ref s.heap.objs.size) { s with heap:=s.heap.push { cls:=.type "set",dict:=none,data:=.set #[] 0 (.fresh 0 0 (!BT w)) } }) :
  codeAny (model prog w) A (.call (.builtin "set.__new__") #v[[.type "set",a],[]]) (wants Q₁ E) s:=by
 refine codeAny_of_tree ?_
 show wpAny _ A.in1 (do checkBuiltinCall "set.__new__" #v[[.type "set",a],[]];again (.builtin "set.__new__" #v[[.type "set",a],[]])) _ _ s
 refine Ac (B4 (PySem.F.newCall_set_1 a) (Ag #v[plainId_quiet PySem.F.plain_set_new _,codeAny_builtin PySem.F.entry_set_new ?_]))
 rw[Around.under_plainId PySem.F.plain_set_new _]
 unfold Builtin.«set.__new__» Builtin.Frozenset.newClass
 have I:=PySem.sub_set_self
 let ⟨J,g,d,tk,L⟩:=s
 dsimp only
 wp_walk
 refine wpAny_askSetting (Ag ?_)
 dsimp only
 simp only[newObj]
 refine Ac (wpAny_alloc (Ag ?_))
 exact Ag h
theorem SetS.size(H:SetS P w h a ss o es ep t):es.size=ss.length:=by
 have:=jV H.str_
 simpa using this
theorem yG:∀{vs:List Value} {ss:List Str},StrsAre vs ss->∀(i:Nat) v,vs[i]?=some v->∃ x t,ss[i]?=some x/\v=.str x t
 |_,_,.nil,i,v,h=>by simp at h
 |_,_,.cons s u h,i,v,hv=>by
  cases i with
  |zero=>cases hv;exact #v[s,u,rfl,rfl]
  |succ i=>exact yG h i v (by simpa using hv)
theorem nO:plainId "set.update.loop"=true:=by lia
section
variable {P:Program}{w:World}{B:Around}{R:Result->Shared->Prop}{I a:Addr}{fp wr:List Addr}{n:Nat}{Pi:Nat->Value->Prop}{St:Nat->Heap->Prop}
theorem EH(W:PySem.Walks P w B.in1 I fp wr n Pi St)(xs:List Str)(hv:∀ i v,Pi i v->∃ x t,xs[i]?=some x/\v=.str x t)(ha:a∉fp)(hn:n=xs.length)(f2:n<=100) :
  ∀(k j:Nat) (st:Shared) (ss:List Str) (o:Obj) (es:Array (Int×Value)) (ep:Nat) (t:SetTable),n-j=k->j<=n->St j st.heap->SetS P w st.heap a ss o es ep t->ss.length<=j->ss.Nodup->(∀ y,y∈ss↔y∈xs.take j) ->
  (∀ g tk ss' o' es' ep' t',SetS P w g a ss' o' es' ep' t'->ss'.Nodup->ss'.length<=n->(∀ y,y∈ss'↔y∈xs)->(∀ b o,b∉wr->b≠a->st.heap.get? b=some o->g.get? b=some o)->R (.ok (.ret .none)) { st with heap:=g,toks:=tk }) ->
  codeAny (model P w) B (.builtin "set.update.loop" #v[[.ref a,.ref I],[]]) R st:=by
 have Y:a∉wr:=λh=>ha (W.sub _ h)
 intro k
 induction k with
 |zero =>
  intro j st ss o es ep t hk hj S hS hl L hm q
  have e:j=n:=by lia
  subst e
  refine codeAny_builtin PyProof.Rows.F.entry_set_update_loop ?_
  rw[Around.under_plainId nO _]
  show wpAny _ B.in1 (pyNext (.ref I) >>= _) _ _ st
  refine Ac (W.done st _ _ S λg tk hg=>?_)
  refine Ag ?_
  refine q g tk ss o es ep t (hS.keep λo e=>hg a o Y e) L hl (λy=>by rw[hm y,hn,Bx]) λb o O _ e=>hg b o O e
 |succ k ih =>
  intro j st ss o es ep t hk hj S hS hl L hm q
  have lt:j<n:=by lia
  refine codeAny_builtin PyProof.Rows.F.entry_set_update_loop ?_
  rw[Around.under_plainId nO _]
  show wpAny _ B.in1 (pyNext (.ref I) >>= _) _ _ st
  refine Ac (W.item j st _ _ lt S λv g tk hP b1 hg=>?_)
  let ⟨x,f1,hx,rfl⟩:=hv j v hP
  have b4:=hS.keep (h':=g) λo e=>hg a o Y e
  show wpAny _ B.in1 (holding [_] (setAdd a _) >>= _) _ _ _
  refine Ac (wpAny_holding (JQ b4 (by rw[hS.size];lia) λb g2 e9 J o2 b5 d8 t2 e7 k2 hc=>?_))
  have htk:xs.take (j+1)=xs.take j++[x]:=by rw[Cm,hx];rfl
  have h1:J.length<=j+1/\J.Nodup/\∀ y,y∈J↔y∈xs.take (j+1):=by
   rcases hc with ⟨b3,rfl⟩|⟨d6,V⟩
   ·exists by lia,L,λy=>?_
    rw[hm y,htk,Aq,Al]
    constructor
    ·exact .inl
    ·rintro (z|rfl)
     ·exact z
     ·exact (hm y).mp b3
   ·exists by rw[V.length_eq,Ae];show _+1<=_;lia,V.nodup_iff.mpr ?_,λy=>?_
    ·rw[Cq]
     exact #v[L,by simp,λa ha b O=>by rw[Al.mp O];exact λz=>d6 (by rw[<- z];exact ha)]
    ·rw[V.mem_iff,htk,Aq,Aq,hm y]
  refine Ag #v[plainId_quiet nO _,ih (j+1) _ J o2 b5 d8 t2 (by lia) lt (W.frame _ _ _ b1 λb O o y=>k2 b o (λz=>ha (by rw[<- z];exact O)) y) e7 h1.1 h1.2.1 h1.2.2 λg3 b2 d7 o3 d9 e8 t3 b7 a1 a2 a3 k3=>q g3 b2 d7 o3 d9 e8 t3 b7 a1 a2 a3 λb o O Z e=>k3 b o O Z (k2 b o Z (hg b o O e))]
end
theorem qF(Y:tc="tuple" \/ tc="list")(hh:A.handled=none)(e:∃ o,s.heap.get? l=some o/\o.cls=.type tc/\o.data=.seq its.toArray n)(hx:StrsAre its xs)(hz:xs.length<=100)
  (q:∀ g tk ss o es ep t,SetS P w g s.heap.objs.size ss o es ep t->ss.Nodup->ss.length<=100->(∀ y,y∈ss↔y∈xs)->(∀ b o,s.heap.get? b=some o->g.get? b=some o)->Q (.ref s.heap.objs.size) { s with heap:=g,toks:=tk }) :
  wpAny (model P w) A (call (.type "set") [.ref l]) Q E s:=by
 let ⟨O,el,cl,Z⟩:=e
 refine wpAny_call (codeAny_of_tree (Ag #v[Code.quiet_builtin _ (by lia),codeAny_builtin PySem.F.entry_type_call ?_]))
 rw[Around.under_plain (weight_type_call_type _ _ _) rfl]
 unfold Builtin.«type.__call__»
 dsimp only
 refine Bj (by rw[PySem.F.called_set.notType];rfl) ?_
 refine Bj (by rw[PySem.F.called_set.canCreate];rfl) ?_
 refine Ac (B4 (PySem.F.typeCall_set_1 _) ?_)
 let ⟨c,tl,hm⟩:=PySem.F.called_set.mro
 refine Ac (B4 hm ?_)
 refine Bj rfl ?_
 refine Ac (B4 PySem.F.called_set.made ?_)
 refine Ac (Ag ?_)
 refine Ac (wpAny_holding (wpAny_call (pD (Q₁:=_) (E:=_) _ ?_)))
 have ed:(s.heap.push { cls:=.type "set",data:=.set #[] 0 (SetTable.fresh 0 0 (!BT w)) }).get? s.heap.objs.size=some { cls:=.type "set",data:=.set #[] 0 (SetTable.fresh 0 0 (!BT w)) }:=Ap _ rfl
 have I:(s.heap.push { cls:=.type "set",data:=.set #[] 0 (SetTable.fresh 0 0 (!BT w)) }).get? l=some O:=Af _ el
 have L:SetS P w (s.heap.push { cls:=.type "set",data:=.set #[] 0 (SetTable.fresh 0 0 (!BT w)) }) s.heap.objs.size [] { cls:=.type "set",data:=.set #[] 0 (SetTable.fresh 0 0 (!BT w)) } #[] 0 (SetTable.fresh 0 0 (!BT w)) :=
  #v[ed,#v[rfl,rfl,rfl],rfl,rfl,λe he=>by simp at he,.nil,.inr rfl,λz=>by show (!BT w)=true;rw[z];rfl]
 refine Ac (wpAny_isInstance (T :="set") #v[_,ed,rfl] PySem.F.called_set.sub ?_)
 refine Bj rfl ?_
 refine Ac (wpAny_holding (wpAny_callSpecial?_slot (T :="set") #v[_,ed,rfl] PySem.F.called_set.init ?_))
 refine wpAny_call (codeAny_call_builtin PySem.F.called_set.init.plain PySem.F.entry_set_init (check_set_init_1 #v[_,ed,rfl] ?_))
 show wpAny _ A.in1.in1 (noKeywords "set" _ >>= _) _ _ _
 refine Ac (Ag ?_)
 show wpAny _ A.in1.in1 (typeNameOfCut 200 (.ref s.heap.objs.size) >>= _) _ _ _
 refine Ac ?_
 show wpAny _ A.in1.in1 ((typeOf (.ref s.heap.objs.size) >>= _) >>= _) _ _ _
 refine Ac (Ac (wpAny_typeOf_ref ed ?_))
 refine Bj (show decide ((Value.type "set"== Value.type "builtin_function_or_method")=true)=false by decide) ?_
 refine Ag ?_
 show wpAny _ A.in1.in1 (typeName (.type "set")) _ _ _
 refine B4 (show typeName (.type "set")=pure "set" from by kernel_rfl) ?_
 show wpAny _ A.in1.in1 (checkCount "set" 0 1 1 >>= _) _ _ _
 refine Ac (B4 (show checkCount "set" 0 1 1=pure () from by kernel_rfl) ?_)
 refine Ac (Ag ?_)
 show wpAny _ A.in1.in1 ((setState s.heap.objs.size >>= _) >>= _) _ _ _
 refine Ac (Ac (Be L.at_ L.dat L.fit (Ag ?_)))
 refine Bj rfl ?_
 refine Ac ?_
 show wpAny _ A.in1.in1 (Builtin.Frozenset.isAnySet (.ref l) >>= _) _ _ _
 refine Ac ?_
 show wpAny _ A.in1.in1 (isInstance (.ref l) (.type "set") >>= _) _ _ _
 refine Ac (wpAny_isInstance (T:=tc) #v[O,I,cl] (show isSubtype (.type tc) (.type "set")=pure false from by rcases Y with rfl|rfl<;>kernel_rfl) ?_)
 show wpAny _ A.in1.in1 (isInstance (.ref l) (.type "frozenset")) _ _ _
 refine wpAny_isInstance (T:=tc) #v[O,I,cl] (show isSubtype (.type tc) (.type "frozenset")=pure false from by rcases Y with rfl|rfl<;>kernel_rfl) ?_
 refine Bj rfl ?_
 refine Ac (wpAny_typeOf_ref I ?_)
 rw[cl]
 refine Bj (by rcases Y with rfl|rfl<;>decide) ?_
 have V:l<(s.heap.push { cls:=.type "set",data:=.set #[] 0 (SetTable.fresh 0 0 (!BT w)) }).objs.size:=As I
 have S:s.heap.objs.size<(s.heap.push { cls:=.type "set",data:=.set #[] 0 (SetTable.fresh 0 0 (!BT w)) }).objs.size:=As ed
 rcases Y with rfl|rfl
 case' inl =>
  refine Ac (wpAny_pyIter_tuple #v[O,I,cl,n,Z] ?_)
  have W:=PySem.Walks.tuple (prog:=P) (w:=w) (A:=A.in1.in1.in1) hh (s.heap.push { cls:=.type "set",data:=.set #[] 0 (SetTable.fresh 0 0 (!BT w)) }).objs.size l (A1 V) its.toArray
 case' inr =>
  refine Ac (wpAny_pyIter_list #v[O,I,cl,n,Z] ?_)
  have W:=PySem.Walks.list (prog:=P) (w:=w) (A:=A.in1.in1.in1) hh (s.heap.push { cls:=.type "set",data:=.set #[] 0 (SetTable.fresh 0 0 (!BT w)) }).objs.size l (A1 V) its.toArray
 all_goals
  refine Ac (wpAny_runValue ?_)
  have J:its.toArray.size=xs.length:=by rw[Av];exact jV hx
  refine EH W xs (λi v hv=>?_) (λz=>?_) J (by rw[J];exact hz) _ 0 _ [] _ #[] 0 _ rfl (Cr _) #v[#v[_,Ap _ rfl,rfl,rfl],#v[O,Af _ I,cl,n,Z]] (L.keep λo e=>Af _ e) (Cr _) List.nodup_nil (λy=>by simp) λg tk ss o es ep t hS a1 a2 a3 kp=>?_
  ·let ⟨x,t,h1,h2⟩:=yG hx i v (by simpa using hv)
   exact #v[x,t,h1,h2]
  ·rcases Am.mp z with z|z
   ·exact absurd z (A1 S)
   ·exact absurd (Al.mp z) (Ds (As el))
  ·refine Ag (Ag ?_)
   refine Bj rfl ?_
   refine Ag (q g tk ss o es ep t hS a1 (by rw[J]at a2;lia) a3 λb o e=>kp b o (λz=>?_) (A1 (As e)) (Af _ (Af _ e)))
   have h1:=Al.mp z
   have h2:=As e
   rw[h1]at h2
   exact absurd (Nat.lt_trans S h2) (Cd _)
theorem AR:typeLookup (.type "set_iterator") (Aa "__next__")=pure (some (.builtin "set_iterator.__next__")):=by
 rw[typeLookup_type,builtinLookup_eq_fast]
 kernel_rfl
theorem MC:isSubtype (.type "set_iterator") (.type "set_iterator")=pure true:=by
 rw[isSubtype_type]
 kernel_rfl
theorem eP:Slot "set_iterator" (Aa "__next__") "set_iterator.__next__":= Slot.of (owner :="set_iterator") (n :="__next__") AR (by kernel_rfl) (by lia) (by lia) (.inl (by lia)) MC (by lia)
theorem iA:entryFor table "set_iterator.__next__"=some Builtin.«set_iterator.__next__»:=entryFor_of_tree (by kernel_rfl)
theorem EI:entryFor table "set.__iter__"=some Builtin.«frozenset.__iter__»:=entryFor_alias (id' :="frozenset.__iter__") (by kernel_rfl) rfl (by lia) (by kernel_rfl)
theorem kW(a:Value):argsOk "set_iterator.__next__" #v[[a],[]]:=by unfold argsOk;kernel_rfl
theorem WG:typeLookup (.type "set_iterator") (Aa "__iter__")=pure (some (.builtin "set_iterator.__iter__")):=by
 rw[typeLookup_type,builtinLookup_eq_fast]
 kernel_rfl
theorem EJ:Slot "set_iterator" (Aa "__iter__") "set_iterator.__iter__":= Slot.of (owner :="set_iterator") (n :="__iter__") WG (by kernel_rfl) (by lia) (by lia) (.inl (by lia)) MC (by lia)
theorem JR:entryFor table "set_iterator.__iter__"=some Builtin.«dict_keyiterator.__iter__»:=entryFor_alias (id' :="dict_keyiterator.__iter__") (by kernel_rfl) rfl (by lia) (by kernel_rfl)
theorem PD(a:Value):argsOk "set_iterator.__iter__" #v[[a],[]]:=by unfold argsOk;kernel_rfl
section
variable {P:Program}{w:World}{A:Around}{E:Value->Shared->Prop}
theorem nP{α:Type}{l:List α}{i:Nat}{x:α}(h:l[i]?=some x):(x::l.eraseIdx i).Perm l:=by
 let ⟨hk,I⟩:=Ax.mp h
 have e:l=l.take i++x::l.drop (i+1):=by
  conv=>lhs;rw[<- List.take_append_drop i l]
  congr 1
  rw[List.drop_eq_getElem_cons hk,I]
 rw[List.eraseIdx_eq_take_drop_succ]
 conv=>rhs;rw[e]
 exact (List.perm_middle).symm
theorem wp_choose(I:n≠0)(q:∀ i dr,i<n->Q i { s with drawn:=dr }):wpAny (model P w) A (choose src n) Q E s:=by
 intro Γ p hΓ
 unfold choose
 rw[Sem.wp_choose]
 exists I,?_
 exact q _ _ (Nat.mod_lt _ (Nat.pos_of_ne_zero I))
theorem jW:∀(n:Nat) {s:Shared} {xs:List Nat} {Q:List Nat->Shared->Prop},xs.length=n->(∀ ys dr,ys.Perm xs->Q ys { s with drawn:=dr })->wpAny (model P w) A (drawOrder n xs) Q E s
 |0,s,xs,Q,h,q=>by
  rw[drawOrder.eq_def]
  have:xs=[]:=C4.mp h
  subst this
  exact Ag (q [] s.drawn .nil)
 |n+1,s,[],Q,h,q=>by cases h
 |n+1,s,x::xs,Q,h,q=>by
  rw[drawOrder.eq_def]
  refine Ac (wp_choose (by simp) λi dr L=>?_)
  have hg:(x::xs)[i]?=some ((x::xs)[i]):=Bm L
  simp only[hg]
  refine Ac (jW n (by rw[List.length_eraseIdx,if_pos L,h];rfl) λys I J=>Ag (q _ I ?_))
  exact (J.cons _).trans (nP hg)
theorem yH(I:Nat->Nat):∀(fuel k:Nat) (left:List α) (out:Array α),left.length=fuel->(pickOrder.go I fuel k left out).toList.Perm (out.toList++left)
 |0,k,left,out,h=>by
  rw[pickOrder.go.eq_def]
  have:left=[]:=C4.mp h
  subst this
  simp
 |fuel+1,k,left,out,h=>by
  rw[pickOrder.go.eq_def]
  have J:I k%left.length<left.length:=Nat.mod_lt _ (by lia)
  have hg:left[I k%left.length]?=some (left[I k%left.length]):=Bm J
  simp only[hg]
  refine (yH I fuel (k+1) _ _ (by rw[List.length_eraseIdx,if_pos J,h];rfl)).trans ?_
  rw[Fn,Az]
  exact (nP hg).append_left _
theorem kX(I:Nat->Nat)(xs:Array α):(pickOrder I xs).toList.Perm xs.toList:=by
 unfold pickOrder
 exact (yH I xs.size 0 xs.toList #[] (by simp)).trans (by simp)
end
def siO(first:Value)(i:Nat)(a:Addr)(n ep:Nat):Obj:={ cls:=.type "set_iterator",data:=.fields #[first,.int i 0,.ref a,.int n 0,.int ep 0] }
section
variable {P:Program}{w:World}{A:Around}{E:Value->Shared->Prop}{s:Shared}{I a tp:Addr}{ss:List Str}{o:Obj}{es:Array (Int×Value)}{ep:Nat}{t:SetTable}{Q:Option Value->Shared->Prop}
theorem wF{J:List Nat}{e:Int×Value}(L:s.heap.get? I=some (siO (.ref tp) i a es.size ep))(htp:s.heap.get? tp=some { cls:=.type "tuple",data:=.seq (J.map λk:Nat=>rawInt (k:Int)).toArray m })(hS:SetS P w s.heap a ss o es ep t)(Y:J[i]?=some p)(V:es[p]?=some e)
  (q:∀ h',h'.get? I=some (siO (.ref tp) (i+1) a es.size ep)->(∀ b o,b≠I->s.heap.get? b=some o->h'.get? b=some o)->Q (some e.2) { s with heap:=h' }):wpAny (model P w) A (pyNext (.ref I)) Q E s:=by
 have O:s.TypeIs (.ref I) "set_iterator":= #v[_,L,rfl]
 unfold pyNext
 refine Ac (wpAny_attempt (wpAny_callSpecial?_slot (T :="set_iterator") (name:=Aa "__next__") O eP (wpAny_call_entry eP O iA ?_ (kW _))))
 show wpAny _ _ (slotArgs "__next__" 0 _ >>= _) _ _ s
 refine Ac (Ag ?_)
 show wpAny _ _ (fieldsOf (.ref I) >>= _) _ _ s
 refine Ac (wpAny_fieldsOf L rfl ?_)
 dsimp only
 refine Ac (Ac (Be hS.at_ hS.dat hS.fit (Ag ?_)))
 refine Bj (by simp) ?_
 refine Ac (wpAny_seqItems htp rfl ?_)
 have hx:((J.map λk:Nat=>rawInt (k:Int)).toArray)[(i:Int).toNat]?=some (.int (p:Int) 0):=by
  rw[Cp,List.getElem?_toArray,Ar,Y];rfl
 simp only[hx]
 refine Ac ?_
 show wpAny _ _ (setState a >>= _) _ _ _
 refine Ac (Be hS.at_ hS.dat hS.fit ?_)
 refine Bj (by simp) ?_
 simp only[Cp,V]
 refine Ag ?_
 refine Ac (wpAny_setField L rfl (by simp) (Ag #v[e.2,rfl,Ag (q _ ?_ λb o S z=>(Ba _ _ (Ne.symm S)).trans z)]))
 refine (Bc _ L rfl).trans ?_
 rfl
theorem wG{s:Shared}{e:Addr}{Q:Option Value->Shared->Prop}(h:∃ o,s.heap.get? e=some o/\o.cls=.type "StopIteration")(q:Q none s):wpAny (model P w) A (isInstance (.ref e) (.type "StopIteration") >>= λb=>if b=true then pure none else throw (.ref e)) Q E s:=by
 let ⟨o,h1,h2⟩:=h
 exact Ac (wpAny_isInstance (T :="StopIteration") #v[o,h1,h2] (show isSubtype (.type "StopIteration") (.type "StopIteration")=pure true from by kernel_rfl) (Ag q))
theorem nQ{R:PySem.Fin->Shared->Prop}{Z:Value->Shared->Prop}{j:Nat}{vs:Array Value}{S:Obj}(O:A.handled=none)(L:s.heap.get? I=some S)(hd:S.data=.fields vs)(hj:j<vs.size)(q:∀ g e,(∀ b o,b≠I->s.heap.get? b=some o->g.get? b=some o)->(∃ o,g.get? e=some o/\o.cls=.type "StopIteration")->Z (.ref e) { s with heap:=g }) :
  wpAny (model P w) A (setField (.ref I) j .none >>= λ_=>newExc (.type "StopIteration") [] >>= λe=>raiseNew e) R Z s:=by
 refine Ac (wpAny_setField L hd hj ?_)
 refine Ac ?_
 simp only[newExc,newTuple]
 refine Ac (Bs (Ac (m:=firstArgMember _ _) (B4 (a:=Value.none) (by first|rfl|(simp only[firstArgMember];rfl)) (Bs ?_ (by size_fits)))) (by size_fits))
 simp only[raiseNew]
 refine Ac (wpAny_handled ?_)
 rw[O]
 refine Ac (Ag (wpAny_throw (q _ _ (λb o J z=>?_) #v[_,Ap _ rfl,rfl])))
 exact Af _ (Af _ ((Ba _ _ (Ne.symm J)).trans z))
theorem AS{J:List Nat}(Z:A.handled=none)(L:s.heap.get? I=some (siO (.ref tp) i a es.size ep))(htp:s.heap.get? tp=some { cls:=.type "tuple",data:=.seq (J.map λk:Nat=>rawInt (k:Int)).toArray m })(hS:SetS P w s.heap a ss o es ep t)(Y:J[i]?=none)
  (q:∀ h',(∀ b o,b≠I->s.heap.get? b=some o->h'.get? b=some o)->Q none { s with heap:=h' }):wpAny (model P w) A (pyNext (.ref I)) Q E s:=by
 have S:s.TypeIs (.ref I) "set_iterator":= #v[_,L,rfl]
 unfold pyNext
 refine Ac (wpAny_attempt (wpAny_callSpecial?_slot (T :="set_iterator") (name:=Aa "__next__") S eP (wpAny_call_entry eP S iA ?_ (kW _))))
 show wpAny _ _ (slotArgs "__next__" 0 _ >>= _) _ _ s
 refine Ac (Ag ?_)
 show wpAny _ _ (fieldsOf (.ref I) >>= _) _ _ s
 refine Ac (wpAny_fieldsOf L rfl ?_)
 dsimp only
 refine Ac (Ac (Be hS.at_ hS.dat hS.fit (Ag ?_)))
 refine Bj (by simp) ?_
 refine Ac (wpAny_seqItems htp rfl ?_)
 have hx:((J.map λk:Nat=>rawInt (k:Int)).toArray)[(i:Int).toNat]?=none:=by
  rw[Cp,List.getElem?_toArray,Ar,Y];rfl
 simp only[hx]
 refine Ac (wpAny_setField L rfl (by simp) ?_)
 have O:=Bc (h:=s.heap) (a:=I) (f:=Obj.mapFields λx_1=>x_1.setIfInBounds 0 (rawInt 0)) L rfl
 refine nQ (s:={ s with heap:=s.heap.update I (Obj.mapFields λx_1=>x_1.setIfInBounds 0 (rawInt 0)) }) Z O rfl (by simp) λg e k h=>?_
 refine wG h (q g λb o V z=>k b o V ((Ba _ _ (Ne.symm V)).trans z))
theorem AT(L:BT w=true)(S:s.heap.get? I=some (siO (.int 0 0) i a es.size ep))(hS:SetS P w s.heap a ss o es ep t)(Y:(pickOrder (w.params.setOrder a ep) es)[i]?=some e)
  (q:∀ h',h'.get? I=some (siO (.int 0 0) (i+1) a es.size ep)->(∀ b o,b≠I->s.heap.get? b=some o->h'.get? b=some o)->Q (some e.2) { s with heap:=h' }):wpAny (model P w) A (pyNext (.ref I)) Q E s:=by
 have V:s.TypeIs (.ref I) "set_iterator":= #v[_,S,rfl]
 unfold pyNext
 refine Ac (wpAny_attempt (wpAny_callSpecial?_slot (T :="set_iterator") (name:=Aa "__next__") V eP (wpAny_call_entry eP V iA ?_ (kW _))))
 show wpAny _ _ (slotArgs "__next__" 0 _ >>= _) _ _ s
 refine Ac (Ag ?_)
 show wpAny _ _ (fieldsOf (.ref I) >>= _) _ _ s
 refine Ac (wpAny_fieldsOf S rfl ?_)
 dsimp only
 refine Ac (Ac (Be hS.at_ hS.dat hS.fit (Ag ?_)))
 refine Bj (by simp) ?_
 refine Ac ?_
 show wpAny _ _ (setState a >>= _) _ _ _
 refine Ac (Be hS.at_ hS.dat hS.fit ?_)
 refine Ac (dU ?_)
 rw[if_pos L]
 refine Bj (by simp) ?_
 refine Ac ?_
 show wpAny _ _ (setState a >>= _) _ _ _
 refine Ac (Be hS.at_ hS.dat hS.fit ?_)
 refine Ac (dU ?_)
 rw[if_pos L]
 refine Ac (wpAny_askSetting (Ag ?_))
 refine Ag ?_
 have O:(pickOrder ((model P w).w.params.setOrder a ep) es)[(i:Int).toNat]?=some e:=by rw[Cp];exact Y
 simp only[O,Option.map_some]
 refine Ac (wpAny_setField S rfl (by simp) ?_)
 have J:=Bc (h:=s.heap) (a:=I) (f:=Obj.mapFields λx_1=>x_1.setIfInBounds 0 (rawInt ↑(Int.toNat 0))) S rfl
 refine Ac (wpAny_setField J rfl (by simp) (Ag #v[e.2,rfl,Ag (q _ ?_ λb o L z=>(Ba _ _ (Ne.symm L)).trans ((Ba _ _ (Ne.symm L)).trans z))]))
 refine (Bc _ J rfl).trans ?_
 rfl
theorem EK(Y:A.handled=none)(S:BT w=true)(O:s.heap.get? I=some (siO (.int 0 0) i a es.size ep))(hS:SetS P w s.heap a ss o es ep t)(V:(pickOrder (w.params.setOrder a ep) es)[i]?=none)
  (q:∀ h',(∀ b o,b≠I->s.heap.get? b=some o->h'.get? b=some o)->Q none { s with heap:=h' }):wpAny (model P w) A (pyNext (.ref I)) Q E s:=by
 have L:s.TypeIs (.ref I) "set_iterator":= #v[_,O,rfl]
 unfold pyNext
 refine Ac (wpAny_attempt (wpAny_callSpecial?_slot (T :="set_iterator") (name:=Aa "__next__") L eP (wpAny_call_entry eP L iA ?_ (kW _))))
 show wpAny _ _ (slotArgs "__next__" 0 _ >>= _) _ _ s
 refine Ac (Ag ?_)
 show wpAny _ _ (fieldsOf (.ref I) >>= _) _ _ s
 refine Ac (wpAny_fieldsOf O rfl ?_)
 dsimp only
 refine Ac (Ac (Be hS.at_ hS.dat hS.fit (Ag ?_)))
 refine Bj (by simp) ?_
 refine Ac ?_
 show wpAny _ _ (setState a >>= _) _ _ _
 refine Ac (Be hS.at_ hS.dat hS.fit ?_)
 refine Ac (dU ?_)
 rw[if_pos S]
 refine Bj (by simp) ?_
 refine Ac ?_
 show wpAny _ _ (setState a >>= _) _ _ _
 refine Ac (Be hS.at_ hS.dat hS.fit ?_)
 refine Ac (dU ?_)
 rw[if_pos S]
 refine Ac (wpAny_askSetting (Ag ?_))
 refine Ag ?_
 have J:(pickOrder ((model P w).w.params.setOrder a ep) es)[(i:Int).toNat]?=none:=by rw[Cp];exact V
 simp only[J,Option.map_none]
 exact nQ Y O rfl (by simp) λg e k h=>wG h (q g k)
theorem EM(O:BT w=false)(h1:es.size<=1)(S:s.heap.get? I=some (siO (rawInt (sl:Nat)) i a es.size ep))(hS:SetS P w s.heap a ss o es ep t)(hw:SetTable.below t.place sl=0)(Y:es[0]?=some e)(hj:t.place[0]?=some j)
  (q:∀ h',h'.get? I=some (siO (rawInt ((j+1:Nat):Int)) (i+1) a es.size ep)->(∀ b o,b≠I->s.heap.get? b=some o->h'.get? b=some o)->Q (some e.2) { s with heap:=h' }):wpAny (model P w) A (pyNext (.ref I)) Q E s:=by
 have V:s.TypeIs (.ref I) "set_iterator":= #v[_,S,rfl]
 have L:=hS.led O
 unfold pyNext
 refine Ac (wpAny_attempt (wpAny_callSpecial?_slot (T :="set_iterator") (name:=Aa "__next__") V eP (wpAny_call_entry eP V iA ?_ (kW _))))
 show wpAny _ _ (slotArgs "__next__" 0 _ >>= _) _ _ s
 refine Ac (Ag ?_)
 show wpAny _ _ (fieldsOf (.ref I) >>= _) _ _ s
 refine Ac (wpAny_fieldsOf S rfl ?_)
 dsimp only
 refine Ac (Ac (Be hS.at_ hS.dat hS.fit (Ag ?_)))
 refine Bj (by simp) ?_
 refine Ac ?_
 show wpAny _ _ (setState a >>= _) _ _ _
 refine Ac (Be hS.at_ hS.dat hS.fit ?_)
 refine Ac (dU ?_)
 rw[if_neg (by rw[O];decide)]
 show wpAny _ _ (if (!t.plain&&decide (es.size>1))=true then _ else _) _ _ _
 rw[if_neg (by rw[decide_eq_false (by lia)];simp)]
 refine Ac ?_
 show wpAny _ _ (if (!t.led&&!es.isEmpty)=true then _ else _) _ _ _
 rw[if_neg (by rw[L];simp)]
 refine Ag ?_
 refine Ag ?_
 rw[Cp,hw]
 simp only[Y,hj]
 refine Ac (wpAny_setField S rfl (by simp) ?_)
 have J:=Bc (h:=s.heap) (a:=I) (f:=Obj.mapFields λx_1=>x_1.setIfInBounds 0 (rawInt ((j+1:Nat):Int))) S rfl
 refine Ac (wpAny_setField J rfl (by simp) (Ag #v[e.2,rfl,Ag (q _ ?_ λb o O z=>(Ba _ _ (Ne.symm O)).trans ((Ba _ _ (Ne.symm O)).trans z))]))
 refine (Bc _ J rfl).trans ?_
 rfl
theorem yI(Y:A.handled=none)(S:BT w=false)(h1:es.size<=1)(O:s.heap.get? I=some (siO (rawInt (sl:Nat)) i a es.size ep))(hS:SetS P w s.heap a ss o es ep t)(V:es[SetTable.below t.place sl]?=none)
  (q:∀ h',(∀ b o,b≠I->s.heap.get? b=some o->h'.get? b=some o)->Q none { s with heap:=h' }):wpAny (model P w) A (pyNext (.ref I)) Q E s:=by
 have L:s.TypeIs (.ref I) "set_iterator":= #v[_,O,rfl]
 have J:=hS.led S
 unfold pyNext
 refine Ac (wpAny_attempt (wpAny_callSpecial?_slot (T :="set_iterator") (name:=Aa "__next__") L eP (wpAny_call_entry eP L iA ?_ (kW _))))
 show wpAny _ _ (slotArgs "__next__" 0 _ >>= _) _ _ s
 refine Ac (Ag ?_)
 show wpAny _ _ (fieldsOf (.ref I) >>= _) _ _ s
 refine Ac (wpAny_fieldsOf O rfl ?_)
 dsimp only
 refine Ac (Ac (Be hS.at_ hS.dat hS.fit (Ag ?_)))
 refine Bj (by simp) ?_
 refine Ac ?_
 show wpAny _ _ (setState a >>= _) _ _ _
 refine Ac (Be hS.at_ hS.dat hS.fit ?_)
 refine Ac (dU ?_)
 rw[if_neg (by rw[S];decide)]
 show wpAny _ _ (if (!t.plain&&decide (es.size>1))=true then _ else _) _ _ _
 rw[if_neg (by rw[decide_eq_false (by lia)];simp)]
 refine Ac ?_
 show wpAny _ _ (if (!t.led&&!es.isEmpty)=true then _ else _) _ _ _
 rw[if_neg (by rw[J];simp)]
 refine Ag ?_
 refine Ag ?_
 rw[Cp]
 simp only[V]
 exact nQ Y O rfl (by simp) λg e k h=>wG h (q g k)
end
section
variable {P:Program}{w:World}{A:Around}{I a tp:Addr}{ss:List Str}{o:Obj}{es:Array (Int×Value)}{t:SetTable}
theorem iB(J:s.TypeIs (.ref I) "set_iterator")(q:Q (.ref I) s):wpAny (model P w) A (pyIter (.ref I)) Q E s :=
 wpAny_pyIter_slot J EJ (wpAny_call_entry EJ J JR (Ag #v[.ref I,rfl,"set_iterator",.builtin "set_iterator.__next__",J,AR,q]) (PD _))
theorem uA(hh:A.handled=none){L:List Nat}(b1:a≠I)(b2:tp≠I)(J:L.Perm (Ca es.size)) :
  PySem.Walks P w A I [I,tp,a] [I] es.size (λi v=>∃ p e,L[i]?=some p/\es[p]?=some e/\v=e.2) (λi h=>h.get? I=some (siO (.ref tp) i a es.size ep)/\h.get? tp=some { cls:=.type "tuple",data:=.seq (L.map λk:Nat=>rawInt (k:Int)).toArray m }/\SetS P w h a ss o es ep t) where
 sub:=by simp
 frame:=λi h h' ⟨h1,h2,h3⟩ k=>#v[k _ (by simp) _ h1,k _ (by simp) _ h2,h3.keep λo e=>k _ (by simp) o e]
 item:=λi s Q E hi ⟨h1,h2,h3⟩ q=>by
  have hl:L.length=es.size:=by rw[J.length_eq,Bo]
  have Z:L[i]?=some (L[i]'(by lia)):=Bm _
  have hm:L[i]'(by lia)∈Ca es.size:=J.mem_iff.mp (Dq _)
  have O:=El.mp hm
  have Y:es[L[i]'(by lia)]?=some (es[L[i]'(by lia)]):=Ck O
  exact wF h1 h2 h3 Z Y λh' g1 S=>q _ h' s.toks #v[_,_,Z,Y,rfl] #v[g1,S _ _ b2 h2,h3.keep λo e=>S _ _ b1 e] λb o V e=>S b o (λz=>V (by simp[z])) e
 done:=λs Q E ⟨h1,h2,h3⟩ q=>by
  have hl:L.length=es.size:=by rw[J.length_eq,Bo]
  exact AS hh h1 h2 h3 (B2 (by lia)) λh' k=>q h' s.toks λb o V e=>k b o (λz=>V (by simp[z])) e
 self:=λi s Q E ⟨h1,h2,h3⟩ q=>iB #v[_,h1,rfl] q
theorem wH(Y:A.handled=none)(J:BT w=true)(V:a≠I) :
  PySem.Walks P w A I [I,a] [I] es.size (λi v=>∃ e,(pickOrder (w.params.setOrder a ep) es)[i]?=some e/\v=e.2) (λi h=>h.get? I=some (siO (.int 0 0) i a es.size ep)/\SetS P w h a ss o es ep t) where
 sub:=by simp
 frame:=λi h h' ⟨h1,h3⟩ k=>#v[k _ (by simp) _ h1,h3.keep λo e=>k _ (by simp) o e]
 item:=λi s Q E hi ⟨h1,h3⟩ q=>by
  have hl:(pickOrder (w.params.setOrder a ep) es).size=es.size:=by have:=(kX (w.params.setOrder a ep) es).length_eq;simpa using this
  have L:(pickOrder (w.params.setOrder a ep) es)[i]?=some ((pickOrder (w.params.setOrder a ep) es)[i]'(by lia)):=Ck _
  exact AT J h1 h3 L λh' S O=>q _ h' s.toks #v[_,L,rfl] #v[S,h3.keep λo e=>O _ _ V e] λb o J e=>O b o (λz=>J (by simp[z])) e
 done:=λs Q E ⟨h1,h3⟩ q=>by
  have hl:(pickOrder (w.params.setOrder a ep) es).size=es.size:=by have:=(kX (w.params.setOrder a ep) es).length_eq;simpa using this
  exact EK Y J h1 h3 (Ep (by lia)) λh' k=>q h' s.toks λb o J e=>k b o (λz=>J (by simp[z])) e
 self:=λi s Q E ⟨h1,h3⟩ q=>iB #v[_,h1,rfl] q
theorem qG(h1:xs.size=1)(hj:xs[0]?=some j):SetTable.below xs 0=0/\SetTable.below xs (j+1)=1:=by
 let ⟨l⟩:=xs
 match l,h1 with
 |[x],_ =>
  have e:x=j:=by simpa using hj
  subst e
  constructor
  ·rfl
  ·show SetTable.below.go #[x] (x+1) 1 0 1=1
   simp[SetTable.below.go]
theorem AU(Y:A.handled=none)(J:BT w=false)(V:a≠I)(h1:es.size=1)(S:t.place.size=1)(hj:t.place[0]?=some j) :
  PySem.Walks P w A I [I,a] [I] es.size (λi v=>∃ e,es[i]?=some e/\v=e.2) (λi h=>h.get? I=some (siO (rawInt ((if i=0 then 0 else j+1:Nat):Int)) i a es.size ep)/\SetS P w h a ss o es ep t) where
 sub:=by simp
 frame:=λi h h' ⟨h1,h3⟩ k=>#v[k _ (by simp) _ h1,h3.keep λo e=>k _ (by simp) o e]
 item:=λi s Q E hi ⟨g1,h3⟩ q=>by
  have L:i=0:=by lia
  subst L
  have O:es[0]?=some (es[0]'(by lia)):=Ck _
  exact EM J (by lia) g1 h3 (qG S hj).1 O hj λh' a1 a2=>q _ h' s.toks #v[_,O,rfl] #v[a1,h3.keep λo e=>a2 _ _ V e] λb o J e=>a2 b o (λz=>J (by simp[z])) e
 done:=λs Q E ⟨g1,h3⟩ q=>by
  rw[if_neg (by lia)]at g1
  exact yI Y J (by lia) g1 h3 (by rw[(qG S hj).2];exact Ep (by lia)) λh' k=>q h' s.toks λb o J e=>k b o (λz=>J (by simp[z])) e
 self:=λi s Q E ⟨h1,h3⟩ q=>iB #v[_,h1,rfl] q
theorem wJ(L:A.handled=none)(J:BT w=false)(O:a≠I)(S:es.size=0) :
  PySem.Walks P w A I [I,a] [I] es.size (λi v=>∃ e,es[i]?=some e/\v=e.2) (λi h=>h.get? I=some (siO (rawInt ((0:Nat):Int)) i a es.size ep)/\SetS P w h a ss o es ep t) where
 sub:=by simp
 frame:=λi h h' ⟨h1,h3⟩ k=>#v[k _ (by simp) _ h1,h3.keep λo e=>k _ (by simp) o e]
 item:=λi s Q E hi ⟨g1,h3⟩ q=>absurd hi (by lia)
 done:=λs Q E ⟨g1,h3⟩ q=>by
  exact yI L J (by lia) g1 h3 (Ep (by lia)) λh' k=>q h' s.toks λb o J e=>k b o (λz=>J (by simp[z])) e
 self:=λi s Q E ⟨h1,h3⟩ q=>iB #v[_,h1,rfl] q
end
theorem iC(h:ItemsOf Pi acc n)(L:vs.length=n)(J:∀ i v,Pi i v->vs[i]?=some v):acc.toList=vs:=by
 refine Fm λi=>?_
 by_cases hi:i<n
 ·have I:i<acc.size:=by rw[h.1];exact hi
  rw[Cv,Ck I,J i _ (h.2 i _ (Ck I))]
 ·rw[B2 (by rw[C6,h.1];lia),B2 (by lia)]
theorem EN(hS:SetS P w s.heap a ss o es ep t)(hz:ss.length<=1000)
  (q:∀(I:Addr) (h':Heap) dr (fp:List Addr) (Pi:Nat->Value->Prop) (St:Nat->Heap->Prop),(∀ B:Around,B.handled=none->PySem.Walks P w B I fp [I] es.size Pi St)->St 0 h'->(∀ b∈fp,b=a\/s.heap.objs.size<=b)->I∈fp->s.heap.objs.size<=I->(∃ oI,h'.get? I=some oI/\oI.cls=.type "set_iterator") ->
   (∀ acc,ItemsOf Pi acc es.size->∃ ss',ss'.Perm ss/\StrsAre acc.toList ss')->(∀ b o,s.heap.get? b=some o->h'.get? b=some o)->Q (.ref I) { s with heap:=h',drawn:=dr }) :
  wpAny (model P w) A (pyIter (.ref a)) Q E s:=by
 have hT:s.TypeIs (.ref a) "set":= #v[o,hS.at_,hS.ex.1]
 have hsz:=hS.size
 have b1:a<s.heap.objs.size:=As hS.at_
 refine wpAny_pyIter_slot hT PySem.F.slot_set_iter (wpAny_call_entry PySem.F.slot_set_iter hT EI ?_ (PySem.F.args_set_iter_1 _))
 show wpAny _ _ (Builtin.Frozenset.slot0 "__iter__" _ >>= _) _ _ s
 refine Ac (Ag ?_)
 refine Ac ?_
 show wpAny _ _ ((setState a >>= _) >>= _) _ _ s
 refine Ac (Ac (Be hS.at_ hS.dat hS.fit (Ag (Ag ?_))))
 refine Ac ?_
 show wpAny _ _ (setState a >>= _) _ _ s
 refine Ac (Be hS.at_ hS.dat hS.fit ?_)
 refine Ac (dU (Ag ?_))
 cases S:BT w with
 |true =>
  refine Bj rfl ?_
  refine Ac (Ag ?_)
  refine Ac ?_
  show wpAny _ _ (setState a >>= _) _ _ s
  refine Ac (Be hS.at_ hS.dat hS.fit (Ag ?_))
  refine Ac (Bs ?_ (by size_fits))
  have V:(s.heap.push (siO (.int 0 0) 0 a es.size ep)).get? s.heap.objs.size=some (siO (.int 0 0) 0 a es.size ep):=Ap _ rfl
  refine Ag #v[.ref s.heap.objs.size,rfl,"set_iterator",.builtin "set_iterator.__next__",#v[_,V,rfl],AR,?_]
  refine q s.heap.objs.size (s.heap.push (siO (.int 0 0) 0 a es.size ep)) s.drawn _ _ _ (λB hB=>wH (ss:=ss) (o:=o) (t:=t) hB S (A1 b1)) #v[V,hS.keep λo e=>Af _ e] (λb S=>?_) (by simp) (Ao _) #v[_,V,rfl] (λacc O=>?_) λb o e=>Af _ e
  ·simp only[Am,Bi,or_false]at S
   rcases S with rfl|rfl
   ·exact .inr (Ao _)
   ·exact .inl rfl
  ·have Y:=kX (w.params.setOrder a ep) es
   have e:acc.toList=(pickOrder (w.params.setOrder a ep) es).toList.map (·.2):=iC O (by rw[Ab,Y.length_eq];simp) λi v ⟨x,h1,h2⟩=>by rw[Ar,Cv,h1,h2];rfl
   rw[e]
   exact hZ (Y.map (·.2)) hS.str_
 |false =>
  split
  ·refine Ac (jW es.size (by simp) λJ dr L=>?_)
   refine Ac (Bs ?_ (by show (J.map _).toArray.size<=An;rw[Av,Ab,L.length_eq,Bo,sizeLine_eq];show es.size<=_;lia))
   refine Ac ?_
   show wpAny _ _ (setState a >>= _) _ _ _
   refine Ac (Be (Af _ hS.at_) hS.dat hS.fit (Ag ?_))
   refine Ac (Bs ?_ (by size_fits))
   have L:J.Perm (Ca es.size):=L
   have b3:((s.heap.push { cls:=.type "tuple",data:=.seq (J.map λk:Nat=>rawInt (k:Int)).toArray }).push (siO (.ref s.heap.objs.size) 0 a es.size ep)).get? s.heap.objs.size=some { cls:=.type "tuple",data:=.seq (J.map λk:Nat=>rawInt (k:Int)).toArray }:=Af _ (Ap _ rfl)
   have V:((s.heap.push { cls:=.type "tuple",data:=.seq (J.map λk:Nat=>rawInt (k:Int)).toArray }).push (siO (.ref s.heap.objs.size) 0 a es.size ep)).get? (s.heap.push { cls:=.type "tuple",data:=.seq (J.map λk:Nat=>rawInt (k:Int)).toArray }).objs.size=some (siO (.ref s.heap.objs.size) 0 a es.size ep):=Ap _ rfl
   have Z:(s.heap.push { cls:=.type "tuple",data:=.seq (J.map λk:Nat=>rawInt (k:Int)).toArray }).objs.size=s.heap.objs.size+1:=Dz _ _
   refine Ag #v[_,rfl,"set_iterator",.builtin "set_iterator.__next__",#v[_,V,rfl],AR,?_]
   refine q _ ((s.heap.push { cls:=.type "tuple",data:=.seq (J.map λk:Nat=>rawInt (k:Int)).toArray }).push (siO (.ref s.heap.objs.size) 0 a es.size ep)) dr _ _ _ (λB hB=>uA (m:=0) (ss:=ss) (o:=o) (t:=t) (tp:=s.heap.objs.size) (ep:=ep) hB (by rw[Z];exact A1 (Fo b1)) (by rw[Z];exact A1 (Ft _)) L) #v[V,b3,hS.keep λo e=>Af _ (Af _ e)] (λb S=>?_) (by simp) (by rw[Z];exact Cs _) #v[_,V,rfl] (λacc O=>?_) λb o e=>Af _ (Af _ e)
   ·simp only[Am,Bi,or_false]at S
    rcases S with rfl|rfl|rfl
    ·rw[Z];exact .inr (Cs _)
    ·exact .inr (Ao _)
    ·exact .inl rfl
   ·have hf:∀(l:List Nat),(∀ p∈l,p<es.size)->True:=λ_ _=>trivial
    have e:acc.toList=J.map (λp=>((es[p]?).map (·.2)).getD .none):=iC O (by rw[Ab,L.length_eq,Bo]) λi v ⟨p,x,h1,h2,h3⟩=>by rw[Ar,h1,h3];simp[h2]
    have e2:(Ca es.size).map (λp=>((es[p]?).map (·.2)).getD .none)=es.toList.map (·.2):=by
     refine Fm λi=>?_
     rw[Ar,Ar]
     by_cases hi:i<es.size
     ·rw[Ce hi];simp[hi]
     ·rw[B2 (l:=Ca es.size) (by rw[Bo];lia)];simp[hi]
    rw[e]
    exact hZ (by rw[<- e2];exact L.map _) hS.str_
  ·rename_i hn
   by_cases h0:es.size=0
   ·refine Ac (Ag ?_)
    refine Ac ?_
    show wpAny _ _ (setState a >>= _) _ _ s
    refine Ac (Be hS.at_ hS.dat hS.fit (Ag ?_))
    refine Ac (Bs ?_ (by size_fits))
    have V:(s.heap.push (siO (.int 0 0) 0 a es.size ep)).get? s.heap.objs.size=some (siO (.int 0 0) 0 a es.size ep):=Ap _ rfl
    refine Ag #v[.ref s.heap.objs.size,rfl,"set_iterator",.builtin "set_iterator.__next__",#v[_,V,rfl],AR,?_]
    refine q s.heap.objs.size (s.heap.push (siO (.int 0 0) 0 a es.size ep)) s.drawn _ _ _ (λB hB=>wJ (ss:=ss) (o:=o) (t:=t) (ep:=ep) hB S (A1 b1) h0) #v[V,hS.keep λo e=>Af _ e] (λb S=>?_) (by simp) (Ao _) #v[_,V,rfl] (λacc O=>?_) λb o e=>Af _ e
    ·simp only[Am,Bi,or_false]at S
     rcases S with rfl|rfl
     ·exact .inr (Ao _)
     ·exact .inl rfl
    ·have e:acc.toList=es.toList.map (·.2):=iC O (by simp) λi v ⟨x,h1,h2⟩=>by rw[Ar,Cv,h1,h2];rfl
     rw[e]
     exact #v[ss,.refl _,hS.str_]
   ·have h1:es.size=1:=by
     have b2:¬ (!false&&(!t.plain&&decide (es.size>1)))=true:=hn
     rw[show t.plain=false from by rcases hS.plain with h|h;exact h;lia]at b2
     simp at b2
     lia
    have hp:t.place.size=1:=by
     have:=hS.fit
     unfold SetTable.fits at this
     simp at this
     lia
    have hj:t.place[0]?=some (t.place[0]'(by lia)):=Ck _
    refine Ac (Ag ?_)
    refine Ac ?_
    show wpAny _ _ (setState a >>= _) _ _ s
    refine Ac (Be hS.at_ hS.dat hS.fit (Ag ?_))
    refine Ac (Bs ?_ (by size_fits))
    have V:(s.heap.push (siO (.int 0 0) 0 a es.size ep)).get? s.heap.objs.size=some (siO (.int 0 0) 0 a es.size ep):=Ap _ rfl
    refine Ag #v[.ref s.heap.objs.size,rfl,"set_iterator",.builtin "set_iterator.__next__",#v[_,V,rfl],AR,?_]
    refine q s.heap.objs.size (s.heap.push (siO (.int 0 0) 0 a es.size ep)) s.drawn _ _ _ (λB hB=>AU (ss:=ss) (o:=o) (t:=t) (ep:=ep) hB S (A1 b1) h1 hp hj) #v[V,hS.keep λo e=>Af _ e] (λb S=>?_) (by simp) (Ao _) #v[_,V,rfl] (λacc O=>?_) λb o e=>Af _ e
    ·simp only[Am,Bi,or_false]at S
     rcases S with rfl|rfl
     ·exact .inr (Ao _)
     ·exact .inl rfl
    ·have e:acc.toList=es.toList.map (·.2):=iC O (by simp) λi v ⟨x,h1,h2⟩=>by rw[Ar,Cv,h1,h2];rfl
     rw[e]
     exact #v[ss,.refl _,hS.str_]
section
variable {P:Program}{w:World}{A:Around}{E:Value->Shared->Prop}{s:Shared}{a:Addr}{ss:List Str}{o:Obj}{es:Array (Int×Value)}{ep:Nat}{t:SetTable}
theorem PF{α:Type}{c:Prop}[Decidable c]{x y:Sem α}{Q:α->Shared->Prop}(h:c)(q:wpAny (model P w) A x Q E s):wpAny (model P w) A (if c then x else y) Q E s:=by rw[if_pos h];exact q
theorem EO(I:s.TypeIs (.ref a) "set")(q:Q false s):wpAny (model P w) A (Builtin.List.listLengthHint (.ref a)) Q E s:=by
 show wpAny _ A (specialOf (.ref a) "__len__" >>= _) _ _ s
 refine Ac (wpAny_specialOf I PySem.F.slot_set_len.lookup ?_)
 have e:splitId "set.__len__"=some ("set", "__len__"):=by lia
 dsimp only
 generalize splitId "set.__len__"=r at e ⊢
 subst e
 dsimp only
 refine Ac (wpAny_isInstance (T :="set") I PySem.F.called_set.sub ?_)
 refine Bj rfl ?_
 refine PF (by decide) ?_
 refine Ac (wpAny_typeOf I ?_)
 exact Ag q
theorem uB(hh:A.handled=none)(hS:SetS P w s.heap a ss o es ep t)(hz:ss.length<=1000)
  (q:∀ acc h' dr tk,(∃ ss',ss'.Perm ss/\StrsAre acc ss')->(∀ b o,s.heap.get? b=some o->h'.get? b=some o)->Q acc { s with heap:=h',drawn:=dr,toks:=tk }):wpAny (model P w) A (collect (.ref a)) Q E s:=by
 have hsz:=hS.size
 have V:a<s.heap.objs.size:=As hS.at_
 show wpAny _ A (runValue (.builtin "proto.collect" #v[[.ref a],[]]) >>= _) _ _ s
 refine Ac (wpAny_runValue (codeAny_builtin PySem.F.entry_proto_collect ?_))
 rw[Around.under_plainId PySem.F.plain_proto_collect _]
 show wpAny _ A.in1 (newList [] >>= _) _ _ s
 refine Ac (wpAny_newList ?_ (by simp))
 refine Ag #v[plainId_quiet PySem.F.plain_list_iadd _,codeAny_builtin PySem.F.entry_list_iadd ?_]
 rw[Around.under_plainId PySem.F.plain_list_iadd _]
 show wpAny _ A.in1 (slotArgs "__iadd__" 1 _ >>= _) _ _ _
 refine Ac (Ag ?_)
 have hL:(s.heap.push { cls:=.type "list",data:=.seq ([]:List Value).toArray }).get? s.heap.objs.size=some { cls:=.type "list",data:=.seq ([]:List Value).toArray }:=Ap _ rfl
 have J:=hS.keep (h':=s.heap.push { cls:=.type "list",data:=.seq ([]:List Value).toArray }) λo e=>Af _ e
 show wpAny _ A.in1 (typeOf (.ref a) >>= _) _ _ _
 refine Ac (wpAny_typeOf_ref J.at_ ?_)
 rw[hS.ex.1]
 have b3:Builtin.List.listSameRef (.ref s.heap.objs.size) (.ref a)=false:=by
  show (s.heap.objs.size == a)=false
  exact beq_eq_false_iff_ne.mpr (Ds V)
 refine Bj (by rw[b3];decide) ?_
 refine Ac (EN J hz λI h' dr fp Pi St W d6 b5 d8 b1 d9 items kp=>?_)
 refine Ac (wpAny_holding (EO #v[o,kp _ _ J.at_,hS.ex.1] ?_))
 split
 case isFalse hx=>exact absurd (by decide) hx
 ·refine Ac (wpAny_rule (Ac ?_))
  have eL:=kp _ _ hL
  have Y:(h'.update s.heap.objs.size (Obj.mapSeq λx=>x.push Value.none)).get? s.heap.objs.size=some { cls:=.type "list",data:=.seq #[Value.none] 1 }:=Bc _ eL rfl
  have b7:((h'.update s.heap.objs.size (Obj.mapSeq λx=>x.push Value.none)).update s.heap.objs.size (Obj.mapSeq λx=>x.pop)).get? s.heap.objs.size=some { cls:=.type "list",data:=.seq #[] 2 }:=Bc _ Y rfl
  show wpAny _ A.in1 (updateSeq s.heap.objs.size (λx=>x.push Value.none) >>= λ_=>updateSeq s.heap.objs.size (λx=>x.pop)) _ _ _
  refine Ac (wpAny_updateSeq eL rfl (wpAny_updateSeq Y rfl ?_ (by rw[sizeLine_eq];simp) (by rw[sizeLine_eq];simp)) (by rw[sizeLine_eq];simp) (by rw[sizeLine_eq];simp))
  have S:s.heap.objs.size<(s.heap.push { cls:=.type "list",data:=.seq ([]:List Value).toArray }).objs.size:=As hL
  have O:s.heap.objs.size∉fp:=λz=>by
   rcases b5 _ z with z|z
   ·exact absurd z (Ds V)
   ·exact absurd (Aw S z) (Cd _)
  have k2:∀ b o,b≠s.heap.objs.size->h'.get? b=some o->((h'.update s.heap.objs.size (Obj.mapSeq λx=>x.push Value.none)).update s.heap.objs.size (Obj.mapSeq λx=>x.pop)).get? b=some o:=λb o L e=>(Ba _ _ (Ne.symm L)).trans ((Ba _ _ (Ne.symm L)).trans e)
  refine Ag #v[plainId_quiet PySem.F.plain_extend_loop _,?_]
  refine codeAny_extend_loopS (W A.in1 hh).toS (by rw[hsz,sizeLine_eq];lia) s.heap.objs.size O (.ref s.heap.objs.size) _ 0 _ #[] 2 rfl (Cr _) ((W A.in1 hh).frame 0 _ _ d6 λb L o e=>k2 b o (λz=>O (by rw[<- z];exact L)) e) b7 #v[rfl,λj v h=>by simp at h] λs' acc c' mv b2 it=>?_
  refine Ac (wpAny_load b2 ?_)
  let ⟨h1,gs,Z,tk,os⟩:=s'
  let ⟨m1,m2,m3,m4,m5⟩:=mv
  have m3:Z=dr:=m3
  have m4:os=s.os:=m4
  subst m3;subst m4
  refine Ag ?_
  have d7:gs=s.gens:=m2
  subst d7
  refine q acc.toList h1 Z tk (items acc it) λb o e=>?_
  have L:b<s.heap.objs.size:=As e
  have b4:b≠I:=λz=>absurd (Aw S b1) (by rw[<- z];exact Nat.not_lt.mpr (Em L))
  exact m1 b o (by simp[b4,A1 L]) (k2 b o (A1 L) (kp b o (Af _ e)))
end
def SetW(P:Program)(w:World)(a:Addr)(ss:List Str)(h:Heap):Prop:=∃ o es ep t,SetS P w h a ss o es ep t
theorem SetW.ok(x:SetW P w a ss h):G9 P w H h a (.ext (SetW P w a ss)):=by
 exists x,?_,λh1 h2 ⟨o,es,ep,t,y⟩ k=>#v[o,es,ep,t,y.keep k]
 let ⟨o,es,ep,t,y⟩:=x
 exact #v[o,y.at_]
theorem JS{X:Cx}{pins:List (Addr×Obj)}{σ:St}{H:Hp}{s:Shared}{h':Heap}{a:Addr}{o:HO}{t':Nat}{dr:Drawn}(I:L2.Inv X pins σ H s)(k:∀ b u,s.heap.get? b=some u->h'.get? b=some u)(Y:s.heap.get? a=none)(V:G9 X.prog X.w (upd H a o) h' a o) :
  H a=none/\L2.Inv X pins σ (upd H a o) { s with heap:=h',drawn:=dr,toks:=t' }:=by
 have S:H a=none:=by
  cases e:H a with
  |none=>rfl
  |some u=>let ⟨v,q⟩:=PB (I.hok a u e);rw[Y]at q;cases q
 have J:∀ b u,H b=some u->upd H a o b=some u:=λb u e=>by rw[aL (λz=>by rw[z,S]at e;cases e)];exact e
 refine #v[S,I.step (g':=s.gens) (d':=dr) (ch:=[]) (λb L=>absurd L (by simp)) (λb o _ _ _ e _=>k b o e) (λb o _ _ _ e _=>#v[o.slots,k b o e]) (λb o _ e n=>by rw[aL (λz=>by rw[z,Y]at e;cases e)];exact n) (λb o _ e=>#v[o,k b o e])
  (λb xs e=>J b _ e) (λb o u e=>J b _ e) (λb p e=>#v[#[],by rw[J b _ e];simp]) (λm ⟨o,es,ep,ho,r⟩=>#v[o,es,ep,k _ _ ho,r]) (λb u e=>?_) I.bare]
 by_cases L:b=a
 ·subst L;rw[aI]at e;cases e;exact V
 ·rw[aL L]at e
  exact (I.hok b u e).stay (λc v _ Z=>k c v Z) (λc O=>J c _ O) (λc xs O=>J c _ O)
theorem kY:∀{ss:List Str} {us:List Value},Vals (ss.map V.str) us->StrsAre us ss
 |[],us,h=>by cases h;exact .nil
 |s::ss,us,h=>by
  cases h with
  |cons r t =>
   let ⟨tk,rfl⟩:=r
   exact .cons s tk (kY t)
theorem yJ:bootBuiltins "set"=some (.type "set"):=by lia
theorem AW(hc:X.calm=true):dY X (.type "set") (λxs H Q=>∃(a:Addr) (ys:List Str),xs=[.ref a]/\H a=some (.tup (ys.map V.str))/\ys.length<=100/\∀ p ss,H p=none->ss.Nodup->ss.length<=100->(∀ y,y∈ss↔y∈ys)->Q (.ref p) (upd H p (.ext (SetW X.prog X.w p ss)))):=by
 intro L s σ H xs us Q I r h
 let ⟨a,ys,rfl,e,S,q⟩:=h
 let ⟨u,rfl,Y⟩:=fG r
 cases Y
 let ⟨_,b1,O,o,e1,cl,n,J⟩:=(show G9 X.prog X.w H s.heap a (.tup (ys.map V.str)) from I.hok a _ e)
 refine qF (.inl rfl) (xs:=ys) (I.ok.hd hc) #v[o,e1,cl,J] (kY O) S λg tk ss o' es ep t hS a1 a2 a3 Z=>?_
 exact #v[.ref s.heap.objs.size,_,I.laid (t':=tk) (o:=.ext (SetW X.prog X.w s.heap.objs.size ss)) Z (Ao _) (SetW.ok #v[o',es,ep,t,hS]),rfl,q _ ss (I.hok.fresh (Ao _)) a1 a2 a3]
theorem nR:∀{ss:List Str} {vs:List V},IsL H (ss.map D.str) vs->vs=ss.map V.str
 |[],vs,h=>by rw[Bq,aV]at h;subst h;rfl
 |s::ss,vs,h=>by
  rw[Au,aG]at h
  let ⟨x,r,rfl,h1,h2⟩:=h
  rw[aR]at h1
  rw[h1,nR h2];rfl
theorem JT(Y:X.calm=true)(hm:X.mg "set"=none)(h:AV X G M [e] λds M1=>∃ ys:List Str,ds=[.tup (ys.map D.str)]/\ys.length<=100/\∀ r ss,M1 r=none->ss.Nodup->ss.length<=100->(∀ y,y∈ss↔y∈ys)->Q (.ref r) (FF M1 r (.raw (SetW X.prog X.w r ss))))(hg:Gl X "set")(V:SeX X e)(S:NpX X pos) :
  EV X G M (.Call (.Name "set" p) [e] [] pos) Q :=
 dQ (AW Y) hm yJ (h.mono λds M1 ⟨ys,e1,hz,q⟩=>λH xs Z hx m=>by
  subst e1
  let ⟨v,rfl,L⟩:=dF hx
  rw[bM]at L
  let ⟨a,vs,rfl,O,J⟩:=L
  have:=nR J;subst this
  exact #v[a,ys,rfl,O,hz,λr ss hr a1 a2 a3 I=>#v[aK hr,.ref r,FF M1 r (.raw (SetW X.prog X.w r ss)),aH.mpr rfl,m.lay (u:=.raw (SetW X.prog X.w r ss)) hr aI,q r ss (m.fresh hr I) a1 a2 a3]]) hg (by decide) (by decide) V S
theorem gV(hc:X.calm=true):dY X (.builtin "sorted") (λxs H Q=>∃(a:Addr) (ss:List Str),xs=[.ref a]/\H a=some (.ext (SetW X.prog X.w a ss))/\ss.length<64/\∀ p ss',H p=none->ss'.Perm ss->PyProof.Rows.sortedS ss'=true->Q (.ref p) (upd H p (.lst (ss'.map V.str)))):=by
 intro b5 s σ H xs us Q I r h
 let ⟨a,ss,rfl,e,b4,q⟩:=h
 let ⟨u,rfl,ru⟩:=fG r
 cases ru
 let ⟨⟨o,es,ep,t,hS⟩,_,_⟩:=(show G9 X.prog X.w H s.heap a (.ext (SetW X.prog X.w a ss)) from I.hok a _ e)
 have hh:X.A.in1.handled=none:=I.ok.hd hc
 refine Calls.call_function_entry kind_sorted plain_sorted entry_sorted (args_sorted1 _) ?_
 unfold Builtin.«sorted»
 refine Ac (m:=checkCount "sorted" 1 1 _) (Ag ?_)
 refine Ac (uB (A:=X.A.in1) hh hS (by lia) λacc h' dr tk ⟨ss1,hp1,hS1⟩ hkp=>?_)
 have S:acc.length=ss.length:=by rw[jV hS1,hp1.length_eq]
 refine Ac (wpAny_newList ?_ (by rw[S,sizeLine_eq];lia))
 have J:(h'.push (seqObj "list" acc.toArray 0)).get? h'.objs.size=some (seqObj "list" acc.toArray 0):=Ap _ rfl
 refine (show wpAny _ _ _ _ _ ({ s with heap:=h'.push (seqObj "list" acc.toArray 0),drawn:=dr,toks:=tk }:Shared) from ?_)
 refine Ac (wpAny_holding (wpAny_call_entry slot_list_sort #v[_,J,rfl] entry_list_sort (list_sort_treeK strKind_oneLt J hS1.keysOf (λv1 v2 b7 e=>keyKind_strs (by rw[<- e];exact hS1)) (by rw[S];exact b4) λO a1 a2=>#v[_,rfl,?_]) (args_list_sort _)))
 let ⟨ss',b1,b2,b3⟩:=sorted_out_str hS1 a1 a2
 let ⟨en,he⟩:=sortedHeap_at (out:=(arrOf O).map (·.2)) (vs:=acc) J
 have ha:s.heap.get? h'.objs.size=none:=by
  cases x:s.heap.get? h'.objs.size with
  |none=>rfl
  |some o=>exact absurd (As (hkp _ _ x)) (Cd _)
 have L:∀ b ob,s.heap.get? b=some ob->(sortedHeap (h'.push (seqObj "list" acc.toArray 0)) h'.objs.size acc ((arrOf O).map (·.2))).get? b=some ob:=λb ob hb=>by
  have Y:=hkp b ob hb
  have Z:=As Y
  rw[sortedHeap_old (A1 Z) (by rw[size_push'];exact Fo Z)]
  exact Af _ Y
 let ⟨hn,I2⟩:=JS (t':=tk) (dr:=dr) (o:=.lst (ss'.map V.str)) I L ha #v[by rw[Ab,b2.length_eq,hp1.length_eq,sizeLine_eq];lia,((arrOf O).map (·.2)).toList,en,gC b1,by rw[he]]
 exact Ag #v[_,rfl,.ref h'.objs.size,_,I2,rfl,q _ ss' hn (b2.trans hp1) b3]
theorem pE(V:X.calm=true)(hm:X.mg "sorted"=none)(h:AV X G M [e] λds M1=>∃(q:Addr) (ss:List Str),ds=[.ref q]/\M1 q=some (.raw (SetW X.prog X.w q ss))/\ss.length<64/\∀ r ss',M1 r=none->ss'.Perm ss->PyProof.Rows.sortedS ss'=true->Q (.ref r) (FF M1 r (.lst (ss'.map D.str))))(hg:Gl X "sorted")(S:SeX X e)(O:NpX X pos) :
  EV X G M (.Call (.Name "sorted" p) [e] [] pos) Q :=
 dG (gV V) hm iW (h.mono λds M1 ⟨a,ss,e1,ha,h64,q⟩=>λH xs Y hx m=>by
  subst e1
  let ⟨v,rfl,L⟩:=dF hx
  rw[aH]at L;subst L
  have e1:H a=some (.ext (SetW X.prog X.w a ss)):=m a _ ha
  exists a,ss,rfl,e1,h64,λp ss' J h1 h2 I=>#v[aK J,.ref p,FF M1 p (.lst (ss'.map D.str)),aH.mpr rfl,m.lay (u:=.lst (ss'.map D.str)) J #v[_,aI,?_],q p ss' (m.fresh J I) h1 h2]
  exact IsL.strs) hg (by decide) (by decide) S O
theorem rQ(V:X.calm=true)(hm:X.mg "sorted"=none)(h:AV X G M [e] λds M1=>∃(q:Addr) (ss:List Str),ds=[.ref q]/\M1 q=some (.raw (SetW X.prog X.w q ss))/\1<=ss.length/\ss.length<64/\∀ r ss',M1 r=none->ss'.Perm ss->PyProof.Rows.sortedS ss'=true->Q (.ref r) (FF M1 r (.lst (ss'.map D.str))))(hg:Gl X "sorted")(S:SeX X e)(O:NpX X pos) :
  EV X G M (.Call (.Name "sorted" p) [e] [] pos) Q :=
 dG (gV V) hm iW (h.mono λds M1 ⟨a,ss,e1,ha,h2,h64,q⟩=>λH xs Y hx m=>by
  subst e1
  let ⟨v,rfl,L⟩:=dF hx
  rw[aH]at L;subst L
  have e1:H a=some (.ext (SetW X.prog X.w a ss)):=m a _ ha
  exists a,ss,rfl,e1,h64,λp ss' J h1 h2 I=>#v[aK J,.ref p,FF M1 p (.lst (ss'.map D.str)),aH.mpr rfl,m.lay (u:=.lst (ss'.map D.str)) J #v[_,aI,?_],q p ss' (m.fresh J I) h1 h2]
  exact IsL.strs) hg (by decide) (by decide) S O
end D3
namespace KA
open PySem PySem.Spec PyProof.Rows L2 D3 K01
theorem jX{a b:Str}(h:a.cps=b.cps):a=b:=by cases a;cases b;cases h;rfl
theorem fA(a b c:Str):a++b++c=a++(b++c):=jX (Array.append_assoc ..)
theorem aQ(a b:Str):(a++b).length=a.length+b.length:=Array.size_append ..
theorem MD(a:Str):a++Aa ""=a:=jX (by show a.cps++#[]=a.cps;simp)
def nT(i:Int):Str:=Aa (toString i)
theorem fB(h:B n i)(I:n<=1900):i.natAbs.log2<1920:=by
 by_cases z:i.natAbs=0
 ·rw[z];lia
 ·have h2:i.natAbs<2^n:=h
  have:=(Nat.log2_lt z).mpr h2
  lia
theorem dA(h:B n i)(I:n<=1900):(nT i).length<=1921:=int_text_len_1921 (fB h I)
abbrev Pt:=Int×Str
def ptD(p:Pt):D:=.tup [.int p.1,.str p.2]
def sgT(k:Int):Str:=if 0<k then " + " else " - "
def onT(t:Str):List Pt->Str
 |[]=>t
 |p::r=>onT (t++sgT p.1++nT (p.1.natAbs:Nat)++p.2) r
theorem nS(p:Pt):∀(l:List Pt) (t:Str),onT t (l++[p])=onT t l++sgT p.1++nT (p.1.natAbs:Nat)++p.2
 |[],t=>rfl
 |q::l,t=>nS p l _
def gI(ts:List (Str×Int))(w:Int):List Pt:=(ts.map λt=>(t.2,Aa " "++t.1))++(if w≠0\/ts=[] then [(w,Aa "")] else [])
def JU:List Pt->Str
 |[]=>Aa ""
 |p::r=>onT (nT p.1++p.2) r
def nU(ts:List (Str×Int))(w:Int):Str:=JU (gI ts w)
structure TOk(ts:List (Str×Int))(w:Int):Prop where
 len:ts.length<=5
 wt:∀ t∈ts,t.2≠0/\B 64 t.2/\t.1.length=1/\F7 t.1
 w:B 64 w
structure PtsOk(l:List Pt):Prop where
 len:l.length<=6
 ne:l≠[]
 ok:∀ p∈l,B 64 p.1/\p.2.length<=2
 nz:∀ p∈l.drop 1,p.1≠0
theorem TOk.pts{ts:List (Str×Int)}{w:Int}(h:TOk ts w):PtsOk (gI ts w):=by
 have hl:=h.len
 exists ?_,?_,?_,?_
 ·unfold gI
  rw[Ae,Ab]
  split<;>simp<;>lia
 ·unfold gI
  by_cases z:ts=[]
  ·rw[if_pos (.inr z)];simp
  ·intro e
   simp at e
   exact z e.1
 ·intro p I
  unfold gI at I
  rcases Aq.mp I with I|I
  ·let ⟨t,O,rfl⟩:=A5.mp I
   let ⟨_,h2,L,_⟩:=h.wt t O
   exists h2,?_
   show (Aa " "++t.1).length<=2
   rw[aQ,L]
   lia
  ·split at I
   ·rw[Al.mp I]
    exact #v[h.w,by show (Aa "").length<=2;lia]
   ·cases I
 ·intro p I
  unfold gI at I
  cases hts:ts with
  |nil =>
   rw[hts]at I
   simp at I
  |cons t r =>
   rw[hts]at I
   simp only[Au,A3,C7,D4]at I
   rcases Aq.mp I with I|I
   ·let ⟨t',J,rfl⟩:=A5.mp I
    exact (h.wt t' (by rw[hts];exact Ak _ J)).1
   ·split at I
    ·rename_i z
     rw[Al.mp I]
     exact z.resolve_right (by simp)
    ·cases I
theorem mN:∀(l:List Pt) (t:Str),(∀ p∈l,B 64 p.1/\p.2.length<=2)->(onT t l).length<=t.length+l.length*1926
 |[],t,_=>by simp[onT]
 |p::l,t,h=>by
  have h1:=h p (Aj ..)
  have h2:=mN l (t++sgT p.1++nT (p.1.natAbs:Nat)++p.2) λq I=>h q (Ak _ I)
  have J:(nT (p.1.natAbs:Nat)).length<=1921:=dA (n:=64) (by show ((p.1.natAbs:Nat):Int).natAbs<2^64;rw[Du];exact h1.1) (by decide)
  have h4:(sgT p.1).length=3:=by unfold sgT;split<;>lia
  rw[aQ,aQ,aQ]at h2
  show (onT _ l).length<=_
  rw[Ah,Fy]
  lia
theorem PtsOk.add(h:PtsOk l):(JU l).length<=12000:=by
 cases l with
 |nil=>exact absurd rfl h.ne
 |cons p r =>
  have h1:=h.ok p (Aj ..)
  have h2:=mN r (nT p.1++p.2) λq I=>h.ok q (Ak _ I)
  have J:=dA h1.1 (by decide)
  have h4:=h.len
  rw[Ah]at h4
  rw[aQ]at h2
  show (onT _ r).length<=_
  have:r.length*1926<=5*1926:=Cb _ (by lia)
  lia
theorem TOk.al{ts:List (Str×Int)}{w:Int}(h:TOk ts w):(nU ts w).length<=12000:=h.pts.add
def kZ(k:Bool):Str:=if k then ">=" else ">"
def bV(r:Rw):Str:=nU r.2.1 0++Aa " "++kZ r.1++Aa " "++nT r.2.2
def ROk(r:Rw):Prop:=TOk r.2.1 0/\B 64 r.2.2
theorem ROk.al(h:ROk r):(bV r).length<=14000:=by
 have h1:=h.1.al
 have h2:=dA h.2 (by decide)
 have I:(kZ r.1).length<=2:=by unfold kZ;split<;>lia
 have h4:(Aa " ").length=1:=by lia
 unfold bV
 rw[aQ,aQ,aQ,aQ]
 lia
def iO(rs:List Rw):Str:=Txt.join " and " (rs.map bV)
def jY(s:Sm):Str:=if s.2.2>1 then nU s.1 s.2.1++Aa " over "++nT s.2.2 else nU s.1 s.2.1
def SOk(s:Sm):Prop:=TOk s.1 s.2.1/\0<s.2.2/\B 64 s.2.2
theorem SOk.al(h:SOk s):(jY s).length<=14000:=by
 have h1:=h.1.al
 have h2:=dA h.2.2 (by decide)
 have h4:(Aa " over ").length=6:=by lia
 unfold jY
 split
 ·rw[aQ,aQ];lia
 ·lia
def onJ(z:Str):Str->List Str->Str
 |t,[]=>t
 |t,y::r=>onJ z (t++z++y) r
theorem jZ(z:Str):∀(r:List Str) (t:Str),Txt.join z (t::r)=onJ z t r:=by
 have I:∀(r:List Str) (t:Str),(#v[r.foldl (λJ p=>J++z.cps++p.cps) t.cps]:Str)=onJ z t r:=by
  intro r
  induction r with
  |nil=>intro t;rfl
  |cons y r L=>intro t;exact L (t++z++y)
 exact λr t=>I r t
theorem EQ(z t:Str):Txt.join z [t]=t:=jZ z [] t
theorem rR(z:Str){B:Nat}:∀(r:List Str) (t:Str),(∀ y∈r,y.length<=B)->(onJ z t r).length<=t.length+r.length*(z.length+B)
 |[],t,_=>by simp[onJ]
 |y::r,t,h=>by
  have h1:=h y (Aj ..)
  have h2:=rR z r (t++z++y) λx hx=>h x (Ak _ hx)
  rw[aQ,aQ]at h2
  show (onJ z _ r).length<=_
  rw[Ah,Fy]
  lia
theorem nV(z:Str){B:Nat}(l:List Str)(h:∀ y∈l,y.length<=B):(Txt.join z l).length<=l.length*(z.length+B):=by
 cases l with
 |nil=>exact Cr _
 |cons t r =>
  rw[jZ]
  have h1:=h t (Aj ..)
  have h2:=rR z r t λx hx=>h x (Ak _ hx)
  rw[Ah,Fy]
  lia
theorem iD{B:Nat}(l:List Str)(h:∀ y∈l,y.length<=B):(l.map (·.length)).sum<=l.length*B:=StrLaws.sumLen_le l h
def RsOk5(rs:List Rw):Prop:=(∀ r∈rs,ROk r)/\rs.length<=3
theorem RsOk5.mem(h:RsOk5 rs):∀ y∈rs.map bV,y.length<=14000:=λy hy=>by
 let ⟨r,hr,rfl⟩:=A5.mp hy
 exact (h.1 r hr).al
theorem RsOk5.al(h:RsOk5 rs):(iO rs).length<=45000:=by
 have h1:=nV " and " (rs.map bV) h.mem
 have h2:(Aa " and ").length=5:=by lia
 have I:=h.2
 rw[Ab,h2]at h1
 have h4:rs.length*(5+14000)<=3*(5+14000):=Cb _ I
 exact Ay (Ay h1 h4) (by decide)
def fS:Stm->Str
 |.set x s=>Aa "set "++x++Aa " = "++jY s
 |.any x=>Aa "any "++x
 |.note rs=>Aa "note "++iO rs
 |_=>Aa ""
def LOk:Stm->Prop
 |.set x s=>x.length=1/\SOk s
 |.any x=>x.length=1
 |.note rs=>RsOk5 rs
 |_=>False
inductive spAdd(ds:List D)(M:MH)(Q:DK):Prop|mk:∀ ts w,ds=[trm ts,.int w]->TOk ts w->(∀ M',Ext M M'->Q (.str (nU ts w)) M')->spAdd ds M Q
inductive spShSum(ds:List D)(M:MH)(Q:DK):Prop|mk:∀ s,ds=[smD s]->SOk s->(∀ M',Ext M M'->Q (.str (jY s)) M')->spShSum ds M Q
inductive spShRow(ds:List D)(M:MH)(Q:DK):Prop|mk:∀ r,ds=[rwD r]->ROk r->(∀ M',Ext M M'->Q (.str (bV r)) M')->spShRow ds M Q
inductive spShRows(ds:List D)(M:MH)(Q:DK):Prop|mk:∀ rs:List Rw,ds=[.tup (rs.map rwD)]->RsOk5 rs->(∀ M',Ext M M'->Q (.str (iO rs)) M')->spShRows ds M Q
inductive spShLine(ds:List D)(M:MH)(Q:DK):Prop|mk:∀ s,ds=[stD s]->LOk s->(∀ M',Ext M M'->Q (.str (fS s)) M')->spShLine ds M Q
theorem aE(h:x.length+y.length<=10000000)(q:Q (.str (x++y)) M):sW (.str x) (.str y) M Q:=#v[Ay h (by unfold An;decide),q]
abbrev Vl:=Str ⊕ Stm
abbrev Itm:=Nat×Vl
def vlD:Vl->D
 |.inl t=>.str t
 |.inr s=>stD s
def bG(x:Itm):D:=.tup [.int x.1,vlD x.2]
def deeper(d:Nat)(xs:List Vl):List Itm:=xs.map λx=>(d+1,x)
def brI(d:Nat)(o:Str)(a:List Stm)(bt:Str)(b:List Stm):List Itm:=(d,.inl o)::(deeper d (a.map .inr)++((d,.inl bt)::(deeper d (b.map .inr)++[(d,.inl "end")])))
def fD(rs:List Rw):List Str:=if rs=[] then [] else [Aa "keep "++iO rs]
def nX:Option (Sm×Int)->List Str
 |none=>[]
 |some m=>[Aa "fall "++jY m.1++Aa " by "++nT m.2]
def hdT(rs:List Rw)(m:Option (Sm×Int)):List Str:=fD rs++nX m
theorem lB(rs:List Rw):(fD rs).length<=1:=by unfold fD;split<;>simp
theorem qH(m:Option (Sm×Int)):(nX m).length<=1:=by cases m<;>simp[nX]
def loI(d:Nat)(r:Rw)(rs:List Rw)(m:Option (Sm×Int))(b:List Stm):List Itm:=(d,.inl (Aa "while "++bV r))::(deeper d ((hdT rs m).map .inl)++(deeper d (b.map .inr)++[(d,.inl "end")]))
def ptI(d:Nat):Stm->List Itm
 |.choose a b=>brI d "choose" a "or" b
 |.ite r a b=>brI d (Aa "if "++bV r) a "else" b
 |.whl r rs m b=>loI d r rs m b
 |s=>[(d,.inl (fS s))]
def HOk:Stm->Prop
 |.choose a b=>a.length<=100/\b.length<=100
 |.ite r a b=>ROk r/\a.length<=100/\b.length<=100
 |.whl r rs m b=>ROk r/\RsOk5 rs/\(∀ x,m=some x->SOk x.1/\B 65 x.2)/\b.length<=100
 |s=>LOk s
theorem gD(d:Nat)(xs:List Vl):(deeper d xs).length=xs.length:=by simp[deeper]
theorem rS(rs:List Rw)(m:Option (Sm×Int)):(hdT rs m).length<=2:=by
 have h1:=lB rs
 have h2:=qH m
 unfold hdT
 rw[Ae]
 lia
inductive spDeeper(ds:List D)(M:MH)(Q:DK):Prop|mk:∀(d:Nat) (xs:List Vl) (e:D),ds=[.int d,e]->(e=.tup (xs.map vlD)\/∃ l,e=.ref l/\M l=some (.lst (xs.map vlD)))->xs.length<=100->(∀ q,M q=none->Q (.ref q) (FF M q (.lst ((deeper d xs).map bG))))->spDeeper ds M Q
inductive spBranch(ds:List D)(M:MH)(Q:DK):Prop|mk:∀(d:Nat) (o:Str) (a:List Stm) (bt:Str) (b:List Stm),ds=[.int d,.str o,.tup (aO a),.str bt,.tup (aO b)]->a.length<=100->b.length<=100->(∀ q M',M q=none->M' q=some (.lst ((brI d o a bt b).map bG))->Ext M M'->Q (.ref q) M')->spBranch ds M Q
inductive spLoopP(ds:List D)(M:MH)(Q:DK):Prop|mk:∀(d:Nat) (r:Rw) (rs:List Rw) (m:Option (Sm×Int)) (b:List Stm),ds=[.int d,stD (.whl r rs m b)]->HOk (.whl r rs m b)->(∀ q M',M q=none->M' q=some (.lst ((loI d r rs m b).map bG))->Ext M M'->Q (.ref q) M')->spLoopP ds M Q
inductive spPartsOf(ds:List D)(M:MH)(Q:DK):Prop|mk:∀(d:Nat) (s:Stm),ds=[.int d,stD s]->HOk s->(∀ q M',M q=none->M' q=some (.lst ((ptI d s).map bG))->Ext M M'->Q (.ref q) M')->spPartsOf ds M Q
theorem ER(b:List Stm):aO b=(b.map Sum.inr).map vlD:=by rw[cS,By];rfl
theorem bT{M I:MH}{p:Addr}(e:Ext M I)(h:I p=none):M p=none:=by
 cases hz:M p with
 |none=>rfl
 |some u=>rw[e _ _ hz]at h;cases h
theorem Ext.own{M J:MH}{p:Addr}{o:MO}(e:Ext M J)(h:M p=none):Ext M (FF J p o):=λb u I=>by
 rw[aC (λz=>by rw[z,h]at I;cases I)]
 exact e _ _ I
theorem PG(K:Ad):D5 K (.type "str") (.type "str")=some true:=rfl
theorem PH(K:Ad):D5 K (.type "tuple") (.type "str")=some false:=by
 unfold D5
 rw[if_neg (by decide)]
 show (if PySem.W.kitMeta "str"=true then PySem.W.subIn K (.type "tuple") (.type "str") else none)=_
 rw[if_pos (by lia)]
 rfl
def ind(d:Nat):Str:=iK (Aa "  ") d
theorem dM(d:Nat):(ind d).length=d*2:=by unfold ind;rw[tO];rfl
mutual
def lnS:Nat->Stm->List Str
 |d,.set x s=>[ind d++fS (.set x s)]
 |d,.any x=>[ind d++fS (.any x)]
 |d,.note rs=>[ind d++fS (.note rs)]
 |d,.choose a b=>(ind d++Aa "choose")::(lnB (d+1) a++((ind d++Aa "or")::(lnB (d+1) b++[ind d++Aa "end"])))
 |d,.ite r a b=>(ind d++(Aa "if "++bV r))::(lnB (d+1) a++((ind d++Aa "else")::(lnB (d+1) b++[ind d++Aa "end"])))
 |d,.whl r rs m b=>(ind d++(Aa "while "++bV r))::((hdT rs m).map (λt=>ind (d+1)++t)++(lnB (d+1) b++[ind d++Aa "end"]))
def lnB:Nat->List Stm->List Str
 |_,[]=>[]
 |d,s::r=>lnS d s++lnB d r
end
def lnI:Itm->List Str
 |(d,.inl t)=>[ind d++t]
 |(d,.inr s)=>lnS d s
mutual
def wS:Stm->Nat
 |.set _ _=>2
 |.any _=>2
 |.note _=>2
 |.choose a b=>4+wB a+wB b
 |.ite _ a b=>4+wB a+wB b
 |.whl _ _ _ b=>5+wB b
def wB:List Stm->Nat
 |[]=>0
 |s::r=>wS s+wB r
end
def wI:Itm->Nat
 |(_,.inl _)=>1
 |(_,.inr s)=>wS s
mutual
theorem UD:∀ s:Stm,wS s<=5*(tt s).s
 |.set _ _=>by simp[wS,tt]
 |.any _=>by simp[wS,tt]
 |.note _=>by simp[wS,tt]
 |.choose a b=>by have h1:=kA a;have h2:=kA b;simp only[wS,tt];show _<=5*((tts a).s+(tts b).s+1);lia
 |.ite _ a b=>by have h1:=kA a;have h2:=kA b;simp only[wS,tt];show _<=5*((tts a).s+(tts b).s+1);lia
 |.whl _ _ _ b=>by have h1:=kA b;simp only[wS,tt];show _<=5*((tts b).s+1);lia
theorem kA:∀ b:List Stm,wB b<=5*(tts b).s
 |[]=>by simp[wB]
 |s::r=>by have h1:=UD s;have h2:=kA r;simp only[wB,tts];show _<=5*((tt s).s+(tts r).s);lia
end
mutual
def gdS:Stm->Prop
 |.choose a b=>HOk (.choose a b)/\gdB a/\gdB b
 |.ite r a b=>HOk (.ite r a b)/\gdB a/\gdB b
 |.whl r rs m b=>HOk (.whl r rs m b)/\gdB b
 |.set x s=>HOk (.set x s)
 |.any x=>HOk (.any x)
 |.note rs=>HOk (.note rs)
def gdB:List Stm->Prop
 |[]=>True
 |s::r=>gdS s/\gdB r
end
theorem gdS.h(h:gdS s):HOk s:=by
 cases s<;>simp only[gdS]at h<;>first|exact h.1|exact h
theorem mO:∀{b:List Stm},gdB b->∀ s∈b,gdS s
 |[],_,s,h=>by cases h
 |t::r,hb,s,h=>by
  simp only[gdB]at hb
  rcases Am.mp h with rfl|h
  ·exact hb.1
  ·exact mO hb.2 s h
theorem mP:∀{b:List Stm},∀ s∈b,dp s<=dps b
 |t::r,s,h=>by
  simp only[dps]
  rcases Am.mp h with rfl|h
  ·lia
  ·have:=mP s h;lia
def IOk:Itm->Prop
 |(d,.inl t)=>d<=6/\t.length<=60000
 |(d,.inr s)=>gdS s/\d+dp s<=6
theorem fU(h:LOk s):(fS s).length<=60000:=by
 have e1:(Aa "set ").length=4:=by lia
 have e2:(Aa " = ").length=3:=by lia
 have e3:(Aa "any ").length=4:=by lia
 have e4:(Aa "note ").length=5:=by lia
 cases s with
 |set x s=>have h1:=h.1;have h2:=h.2.al;simp only[fS,aQ];lia
 |any x=>have h1:x.length=1:=h;simp only[fS,aQ];lia
 |note rs=>have h1:=RsOk5.al h;simp only[fS,aQ];lia
 |choose a b=>exact h.elim
 |ite r a b=>exact h.elim
 |whl r rs m b=>exact h.elim
theorem ES(h1:RsOk5 rs)(h2:∀ x,m=some x->SOk x.1/\B 65 x.2):∀ t∈hdT rs m,t.length<=60000:=by
 intro t I
 have e1:(Aa "keep ").length=5:=by lia
 have e2:(Aa "fall ").length=5:=by lia
 have e3:(Aa " by ").length=4:=by lia
 unfold hdT at I
 rcases Aq.mp I with I|I
 ·unfold fD at I
  split at I
  ·cases I
  ·rw[Al.mp I]
   have:=h1.al
   rw[aQ];lia
 ·cases m with
  |none=>cases I
  |some x =>
   let ⟨a1,a2⟩:=h2 x rfl
   have a3:=a1.al
   have a4:=dA a2 (by decide)
   rw[Al.mp I]
   rw[aQ,aQ,aQ];lia
theorem fV(h:gdB b)(hd:d+1+dps b<=6):∀ x∈deeper d (b.map .inr),IOk x:=λx hx=>by
 let ⟨y,hy,rfl⟩:=A5.mp hx
 let ⟨s,hs,rfl⟩:=A5.mp hy
 have:=mP s hs
 exact #v[mO h s hs,by lia]
theorem UE(h:gdS s)(hd:d+dp s<=6):∀ x∈ptI d s,IOk x:=by
 have e1:(Aa "choose").length<=60000:=by lia
 have e2:(Aa "or").length<=60000:=by lia
 have e3:(Aa "else").length<=60000:=by lia
 have e4:(Aa "end").length<=60000:=by lia
 have e5:(Aa "if ").length=3:=by lia
 have e6:(Aa "while ").length=6:=by lia
 intro x hx
 cases s with
 |set y s=>simp only[dp]at hd;rw[Al.mp hx];exact #v[by lia,fU h.h]
 |any y=>simp only[dp]at hd;rw[Al.mp hx];exact #v[by lia,fU h.h]
 |note rs=>simp only[dp]at hd;rw[Al.mp hx];exact #v[by lia,fU h.h]
 |choose a b =>
  simp only[gdS]at h
  simp only[dp]at hd
  simp only[ptI,brI,Am,Aq,Bi,or_false]at hx
  rcases hx with rfl|hx|rfl|hx|rfl
  ·exact #v[by lia,e1]
  ·exact fV h.2.1 (by lia) x hx
  ·exact #v[by lia,e2]
  ·exact fV h.2.2 (by lia) x hx
  ·exact #v[by lia,e4]
 |ite r a b =>
  simp only[gdS]at h
  simp only[dp]at hd
  have hr:=h.1.1.al
  simp only[ptI,brI,Am,Aq,Bi,or_false]at hx
  rcases hx with rfl|hx|rfl|hx|rfl
  ·exact #v[by lia,by rw[aQ];lia]
  ·exact fV h.2.1 (by lia) x hx
  ·exact #v[by lia,e3]
  ·exact fV h.2.2 (by lia) x hx
  ·exact #v[by lia,e4]
 |whl r rs m b =>
  simp only[gdS]at h
  simp only[dp]at hd
  let ⟨I,J,hm,O⟩:=(show ROk r/\RsOk5 rs/\(∀ x,m=some x->SOk x.1/\B 65 x.2)/\b.length<=100 from h.1)
  have hr:=I.al
  simp only[ptI,loI,Am,Aq,Bi,or_false]at hx
  rcases hx with rfl|hx|hx|rfl
  ·exact #v[by lia,by rw[aQ];lia]
  ·let ⟨y,hy,rfl⟩:=A5.mp hx
   let ⟨t,L,rfl⟩:=A5.mp hy
   exact #v[by show d+1<=6;lia,ES J hm t L]
  ·exact fV h.2 (by lia) x hx
  ·exact #v[by lia,e4]
theorem iE(d:Nat):∀ b:List Stm,(deeper d (b.map .inr)).flatMap lnI=lnB (d+1) b
 |[]=>by simp[deeper,lnB]
 |s::r=>by
  have:=iE d r
  simp only[deeper,Au,Bp,lnB]at this ⊢
  rw[this];rfl
theorem UF(d:Nat)(s:Stm):(ptI d s).flatMap lnI=lnS d s:=by
 cases s with
 |set y s=>simp only[ptI,Bp,Dr,lnI,lnS,A7]
 |any y=>simp only[ptI,Bp,Dr,lnI,lnS,A7]
 |note rs=>simp only[ptI,Bp,Dr,lnI,lnS,A7]
 |choose a b=>simp only[ptI,brI,Bp,C8,iE,Dr,lnI,lnS,A7,Dy]
 |ite r a b=>simp only[ptI,brI,Bp,C8,iE,Dr,lnI,lnS,A7,Dy]
 |whl r rs m b =>
  have e:(deeper d ((hdT rs m).map .inl)).flatMap lnI=(hdT rs m).map λt=>ind (d+1)++t:=by
   generalize hdT rs m=l
   induction l with
   |nil=>rfl
   |cons t r I=>simp only[deeper,Au,Bp]at I ⊢;rw[I];rfl
  simp only[ptI,loI,Bp,C8,iE,e,Dr,lnI,lnS,A7,Dy]
theorem kB(d:Nat):∀ b:List Stm,((deeper d (b.map .inr)).map wI).sum=wB b
 |[]=>by simp[deeper,wB]
 |s::r=>by
  have:=kB d r
  simp only[deeper,Au,Dk,wB]at this ⊢
  rw[this];rfl
theorem WH(d:Nat)(s:Stm):((ptI d s).map wI).sum<wS s:=by
 cases s with
 |set y s=>simp[ptI,wI,wS]
 |any y=>simp[ptI,wI,wS]
 |note rs=>simp[ptI,wI,wS]
 |choose a b=>simp only[ptI,brI,Au,Ai,Dk,Eh,kB,wI,wS,Bq,List.sum_nil];lia
 |ite r a b=>simp only[ptI,brI,Au,Ai,Dk,Eh,kB,wI,wS,Bq,List.sum_nil];lia
 |whl r rs m b =>
  have h:=rS rs m
  have e:((deeper d ((hdT rs m).map .inl)).map wI).sum=(hdT rs m).length:=by
   generalize hdT rs m=l
   induction l with
   |nil=>rfl
   |cons t r I=>simp only[deeper,Au,Dk,Ah]at I ⊢;rw[I];simp only[wI];lia
  simp only[ptI,loI,Au,Ai,Dk,Eh,kB,e,wI,wS,Bq,List.sum_nil];lia
structure ShOk(ss:List Str)(rs:List Rw)(b:List Stm):Prop where
 len:ss.length<=6
 one:∀ x∈ss,x.length=1
 rs:RsOk5 rs
 gd:gdB b
 dp:dps b<=4
 s:(tts b).s<=24
 bl:b.length<=24
def hdP(ss:List Str)(rs:List Rw):List Str:=Txt.join " " (Aa "plan":: ss)::(if rs=[] then [] else [Aa "given "++iO rs])
def ET(ss:List Str)(rs:List Rw)(b:List Stm):Str:=Txt.join "\n" (hdP ss rs++lnB 0 b)
inductive spShown(ds:List D)(M:MH)(Q:DK):Prop|mk:∀(ss:List Str) (rs:List Rw) (b:List Stm),ds=[.tup [nms ss,.tup (rs.map rwD),.tup (aO b)]]->ShOk ss rs b->(∀ M',Ext M M'->Q (.str (ET ss rs b)) M')->spShown ds M Q
theorem ShOk.hd{ss:List Str}{rs:List Rw}{b:List Stm}(h:ShOk ss rs b):∀ t∈hdP ss rs,t.length<=60100:=by
 intro t I
 unfold hdP at I
 have e1:(Aa "given ").length=6:=by lia
 have e2:(Aa " ").length=1:=by lia
 have e3:(Aa "plan").length=4:=by lia
 rcases Am.mp I with rfl|I
 ·have h1:=nV (Aa " ") (B:=4) (Aa "plan":: ss) (λy hy=>by
   rcases Am.mp hy with rfl|hy
   ·exact En e3
   ·rw[h.one y hy];decide)
  have h2:=h.len
  rw[e2,Ah]at h1
  refine Ay h1 ?_
  have:(ss.length+1)*(1+4)<=7*5:=Nat.mul_le_mul (by lia) (by decide)
  lia
 ·split at I
  ·cases I
  ·rw[Al.mp I,aQ]
   have:=h.rs.al
   lia
theorem yL(ss:List Str)(rs:List Rw):(hdP ss rs).length<=2:=by
 unfold hdP
 rw[Ah]
 split<;>simp
def fZ(v:D):D:=.tup [.int 0,v]
theorem PJ(b:List Stm):((aO b).reverse.filter λ_=>true).map fZ=((b.map λs=>((0,Sum.inr s):Itm)).reverse).map bG:=by
 rw[B9.mpr (by simp),cS,D6,D6,By,By]
 rfl
theorem JV(b:List Stm):(b.map λs=>((0,Sum.inr s):Itm)).flatMap lnI=lnB 0 b:=by
 induction b with
 |nil=>simp[lnB]
 |cons s r I=>simp only[Au,Bp,lnB,I];rfl
theorem PK(b:List Stm):((b.map λs=>((0,Sum.inr s):Itm)).map wI).sum=wB b:=by
 induction b with
 |nil=>simp[wB]
 |cons s r I=>simp only[Au,Dk,wB,I];rfl
theorem EU(ds:List D):PyData.eqv (pd (.tup ds)) (pd (.tup []))=decide (ds=[]):=by
 cases ds with
 |nil=>simp[pd,pdL,PyData.eqv,PyData.eqvAll]
 |cons d r=>simp[pd,pdL,PyData.eqv,PyData.eqvAll]
theorem wK(I:imm (.tup xs)=true)(hd:(pd (.tup xs)).depth<=60)(q:Qb (decide (xs=[])) M):EqL (.tup xs) (.tup []) M Qb:=by
 refine SW (by unfold imm at I;exact I) rfl hd ?_
 rw[EU]
 exact q
theorem TOk.imm{ts:List (Str×Int)}{w:Int}(h:TOk ts w):imm (trm ts)=true:=xZ λt I=>(h.wt t I).2.2.2
theorem ROk.imm(h:ROk r):imm (rwD r)=true:=IZ λt I=>(h.1.wt t I).2.2.2
theorem RsOk5.imm(h:RsOk5 rs):imm (.tup (rs.map rwD))=true:=mJ λd hd=>by
 let ⟨r,hr,rfl⟩:=A5.mp hd
 exact (h.1 r hr).imm
theorem EW(rs:List Rw):(pd (.tup (rs.map rwD))).depth<=60:=Ay (jS (n:=3) λd hd=>by
 let ⟨r,hr,rfl⟩:=A5.mp hd
 exact AG r.1 r.2.1 r.2.2) (by decide)
theorem eI(h:M l=some (.lst xs))(h':M k=some (.lst ys))(e:xs++ys=zs)(z:zs.length<=1000)(q:∀ p M',M p=none->M' p=some (.lst zs)->Ext M M'->Q (.ref p) M'):sW (.ref l) (.ref k) M Q :=
 gQ h h' (by rw[<- Ae,e];exact small z) λp I=>q p _ I (by rw[e];exact FB) (aB I)
mutual
theorem kC:∀(d:Nat) (s:Stm),(lnS d s).length<=wS s
 |d,.set _ _=>by simp[lnS,wS]
 |d,.any _=>by simp[lnS,wS]
 |d,.note _=>by simp[lnS,wS]
 |d,.choose a b=>by
  have h1:=cN (d+1) a;have h2:=cN (d+1) b
  simp only[lnS,wS,Ah,Ae,B6];lia
 |d,.ite _ a b=>by
  have h1:=cN (d+1) a;have h2:=cN (d+1) b
  simp only[lnS,wS,Ah,Ae,B6];lia
 |d,.whl _ rs m b=>by
  have h1:=cN (d+1) b;have h2:=rS rs m
  simp only[lnS,wS,Ah,Ae,B6,Ab];lia
theorem cN:∀(d:Nat) (b:List Stm),(lnB d b).length<=wB b
 |d,[]=>by simp[lnB]
 |d,s::r=>by
  have h1:=kC d s;have h2:=cN d r
  simp only[lnB,wB,Ae];lia
end
theorem nY(d:Nat):ind d++Aa "  "=ind (d+1):=by
 unfold ind iK
 rw[List.replicate_succ',Er]
 rfl
theorem uC(d:Nat)(s:Stm):∀ b:List Stm,lnB d (b++[s])=lnB d b++lnS d s
 |[]=>by simp[lnB]
 |t::r=>by simp only[A3,lnB,uC d s r,Az]
theorem JW(b:List Stm):∀ i,wB (b.take i)<=wB b:=by
 induction b with
 |nil=>intro i;simp[wB]
 |cons s r I =>
  intro i
  cases i with
  |zero=>simp[wB]
  |succ i=>rw[B8];simp only[wB];have:=I i;lia
inductive spLnB(n:Nat)(ds:List D)(M:MH)(Q:DK):Prop|mk:∀(b:List Stm) (d:Nat),ds=[.tup (aO b),.str (ind d)]->gdB b->dps b<=n->d+n<=10->wB b<=150->(∀ q M',M q=none->M' q=some (.lst ((lnB d b).map D.str))->Ext M M'->Q (.ref q) M')->spLnB n ds M Q
inductive spLnS(n:Nat)(ds:List D)(M:MH)(Q:DK):Prop|mk:∀(s:Stm) (d:Nat),ds=[stD s,.str (ind d)]->gdS s->dp s<=n->d+n<=10->wS s<=150->(∀ q M',M q=none->M' q=some (.lst ((lnS d s).map D.str))->Ext M M'->Q (.ref q) M')->spLnS n ds M Q
theorem uD(z y:Str):∀(l:List Str) (t:Str),onJ z t (l++[y])=onJ z t l++z++y
 |[],t=>rfl
 |x::l,t=>uD z y l _
inductive spAll(ds:List D)(M:MH)(Q:DK):Prop|mk:∀(ss:List Str) (rs:List Rw) (b:List Stm),ds=[.tup [nms ss,.tup (rs.map rwD),.tup (aO b)]]->ShOk ss rs b->(∀ q M',M q=none->M' q=some (.lst ((hdP ss rs++lnB 0 b).map D.str))->Ext M M'->Q (.ref q) M')->spAll ds M Q
theorem EY:ind 0=Aa "":= rfl
theorem iZ(h:ShOk ss rs b):(hdP ss rs++lnB 0 b).length<=130:=by
 have h1:=yL ss rs
 have h2:=cN 0 b
 have I:=kA b
 have h4:=h.s
 rw[Ae];lia
mutual
theorem EZ:∀(s:Stm) (d:Nat),gdS s->d+dp s<=6->∀ t∈lnS d s,t.length<=60100
 |.set x s,d,h,hd=>λt I=>by
  simp only[lnS,Am,Bi,or_false]at I
  have h1:=fU (s:=.set x s) h.h
  have h2:=dM d
  rw[I,aQ];lia
 |.any x,d,h,hd=>λt I=>by
  simp only[lnS,Am,Bi,or_false]at I
  have h1:=fU (s:=.any x) h.h
  have h2:=dM d
  rw[I,aQ];lia
 |.note x,d,h,hd=>λt I=>by
  simp only[lnS,Am,Bi,or_false]at I
  have h1:=fU (s:=.note x) h.h
  have h2:=dM d
  rw[I,aQ];lia
 |.choose a b,d,h,hd=>λt I=>by
  simp only[gdS]at h
  simp only[dp]at hd
  have h2:=dM d
  have e1:(Aa "choose").length<=60000:=by lia
  have e2:(Aa "or").length<=60000:=by lia
  have e4:(Aa "end").length<=60000:=by lia
  simp only[lnS,Am,Aq,Bi,or_false]at I
  rcases I with rfl|I|rfl|I|rfl
  ·rw[aQ];lia
  ·exact fE a (d+1) h.2.1 (by lia) t I
  ·rw[aQ];lia
  ·exact fE b (d+1) h.2.2 (by lia) t I
  ·rw[aQ];lia
 |.ite r a b,d,h,hd=>λt I=>by
  simp only[gdS]at h
  simp only[dp]at hd
  have h2:=dM d
  have hr:=h.1.1.al
  have e1:(Aa "if ").length=3:=by lia
  have e2:(Aa "else").length<=60000:=by lia
  have e4:(Aa "end").length<=60000:=by lia
  simp only[lnS,Am,Aq,Bi,or_false]at I
  rcases I with rfl|I|rfl|I|rfl
  ·rw[aQ,aQ];lia
  ·exact fE a (d+1) h.2.1 (by lia) t I
  ·rw[aQ];lia
  ·exact fE b (d+1) h.2.2 (by lia) t I
  ·rw[aQ];lia
 |.whl r rs m b,d,h,hd=>λt I=>by
  simp only[gdS]at h
  simp only[dp]at hd
  have h2:=dM d
  have O:=dM (d+1)
  let ⟨J,L,hm,S⟩:=(show ROk r/\RsOk5 rs/\(∀ x,m=some x->SOk x.1/\B 65 x.2)/\b.length<=100 from h.1)
  have hr:=J.al
  have e1:(Aa "while ").length=6:=by lia
  have e4:(Aa "end").length<=60000:=by lia
  simp only[lnS,Am,Aq,A5,Bi,or_false]at I
  rcases I with rfl|⟨x,hx,rfl⟩|I|rfl
  ·rw[aQ,aQ];lia
  ·have:=ES L hm x hx
   rw[aQ];lia
  ·exact fE b (d+1) h.2 (by lia) t I
  ·rw[aQ];lia
theorem fE:∀(b:List Stm) (d:Nat),gdB b->d+dps b<=6->∀ t∈lnB d b,t.length<=60100
 |[],d,_,_=>λt I=>by simp[lnB]at I
 |s::r,d,h,hd=>λt I=>by
  simp only[gdB]at h
  simp only[dps]at hd
  simp only[lnB,Aq]at I
  rcases I with I|I
  ·exact EZ s d h.1 (by lia) t I
  ·exact fE r d h.2 (by lia) t I
end
theorem ShOk.each{ss:List Str}{rs:List Rw}{b:List Stm}(h:ShOk ss rs b):∀ t∈hdP ss rs++lnB 0 b,t.length<=60100:=λt I=>by
 rcases Aq.mp I with I|I
 ·exact h.hd t I
 ·exact fE b 0 h.gd (by have:=h.dp;lia) t I
theorem F7.len(h:F7 s):s.length=1:=by
 let ⟨c,_,_,rfl⟩:=h
 rfl
theorem PL:B 64 (0:Int):=by unfold B;decide
theorem FA(I:Names ss)(h:Terms ss ts)(hw:B 64 w):TOk ts w :=
 #v[Ay h.len I.le,λt J=>#v[(h.wt t J).1,(h.wt t J).2,(I.lett _ (h.mem J)).len,I.lett _ (h.mem J)],hw]
theorem nZ(I:Names ss)(h:WfR ss r):ROk r:=#v[FA I h.ts PL,h.b]
theorem FC(I:Names ss)(h:WfS ss s):SOk s:=#v[FA I h.ts h.w,h.pos,h.b]
mutual
theorem PM:∀ s:Stm,1<=(tt s).s
 |.set _ _=>by simp[tt]
 |.any _=>by simp[tt]
 |.note _=>by simp[tt]
 |.choose a b=>by simp only[tt];show 1<=(tts a).s+(tts b).s+1;lia
 |.ite _ a b=>by simp only[tt];show 1<=(tts a).s+(tts b).s+1;lia
 |.whl _ _ _ b=>by simp only[tt];show 1<=(tts b).s+1;lia
end
theorem cY:∀ b:List Stm,b.length<=(tts b).s
 |[]=>Cr _
 |s::r=>by
  have h1:=PM s
  have h2:=cY r
  simp only[tts]
  show r.length+1<=(tt s).s+(tts r).s
  lia
mutual
theorem UG(I:Names ss):∀ s:Stm,wf ss s->(tt s).s<=100->gdS s
 |.set x s,h,_=>by simp only[wf]at h;simp only[gdS];exact #v[(I.lett _ h.1).len,FC I h.2]
 |.any x,h,_=>by simp only[wf]at h;simp only[gdS];exact (I.lett _ h).len
 |.note rs,h,_=>by simp only[wf]at h;simp only[gdS];exact #v[λr hr=>nZ I (h.1 r hr),by have:=h.2.2;lia]
 |.choose a b,h,hs=>by
  simp only[wf]at h
  have hs:(tts a).s+(tts b).s+1<=100:=by simp only[tt]at hs;exact hs
  have h1:=cY a
  have h2:=cY b
  simp only[gdS]
  exact #v[#v[by lia,by lia],jA I a h.1 (by lia),jA I b h.2 (by lia)]
 |.ite r a b,h,hs=>by
  simp only[wf]at h
  have hs:(tts a).s+(tts b).s+1<=100:=by simp only[tt]at hs;exact hs
  have h1:=cY a
  have h2:=cY b
  simp only[gdS]
  exact #v[#v[nZ I h.1,by lia,by lia],jA I a h.2.1 (by lia),jA I b h.2.2 (by lia)]
 |.whl r rs m b,h,hs=>by
  simp only[wf]at h
  have hs:(tts b).s+1<=100:=by simp only[tt]at hs;exact hs
  have h2:=cY b
  simp only[gdS]
  exists #v[nZ I h.1,#v[λr hr=>nZ I (h.2.1 r hr),by have:=h.2.2.1;lia],λx hx=>?_,by lia],jA I b h.2.2.2.2 (by lia)
  have hm:=h.2.2.2.1
  rw[hx]at hm
  exact #v[FC I hm.1,hm.2.2.1]
theorem jA(I:Names ss):∀ b:List Stm,wfs ss b->(tts b).s<=100->gdB b
 |[],_,_=>by simp only[gdB]
 |s::r,h,hs=>by
  simp only[wfs]at h
  have hs:(tt s).s+(tts r).s<=100:=by simp only[tts]at hs;exact hs
  simp only[gdB]
  exact #v[UG I s h.1 (by lia),jA I r h.2 (by lia)]
end
theorem UH(h:WfP p)(hl:ss.length<=6)(I:∀ x∈ss,x.length=1):ShOk ss p.rs p.bl:=by
 have h1:=h.cs
 have h2:=cY p.bl
 exact #v[hl,I,#v[λr hr=>nZ h.names (h.rs r hr),by have:=h.rl;lia],jA h.names p.bl h.bl (by lia),iX h.dp,h1,by lia]
theorem rT:∀{l m:List Str},l.Nodup->(∀ x∈l,x∈m)->l.length<=m.length
 |[],m,_,_=>Cr _
 |a::l,m,h,hs=>by
  have I:=hs a (Aj ..)
  rw[Br]at h
  have J:=rT (m:=m.erase a) h.2 λx hx=>(List.mem_erase_of_ne (λz=>h.1 (by rw[<- z];exact hx))).mpr (hs x (Ak _ hx))
  rw[List.length_erase_of_mem I]at J
  have:=List.length_pos_of_mem I
  rw[Ah]
  lia
theorem iF{Z Y O b1:List Str}(S:Names Z)(h3:Z.length<=3)(he:∀ x∈Y,F7 x)(hm:∀ y,y∈O↔y∈Z++Y)(V:O.Nodup)(J:b1.Perm O):1<=O.length/\O.length<=3+Y.length/\b1.Nodup/\(∀ x∈b1,F7 x)/\1<=b1.length/\b1.length<=3+Y.length:=by
 have L:O.length<=3+Y.length:=by
  have:=rT V λx hx=>(hm x).mp hx
  rw[Ae]at this
  lia
 have I:1<=O.length:=by
  have h1:=S.pos
  have hx:Z[0]'(by lia)∈O:=(hm _).mpr (Bk _ (Dq _))
  exact List.length_pos_of_mem hx
 exists I,L,J.nodup_iff.mpr V,λx hx=>?_,by rw[J.length_eq];exact I,by rw[J.length_eq];exact L
 rcases Aq.mp ((hm x).mp (J.mem_iff.mp hx)) with h|h
 ·exact S.lett x h
 ·exact he x h
theorem PN(xs:List D)(k:Nat):D3.cK xs none (some (k:Int))=xs.take k:=by
 unfold D3.cK
 rw[HT.gN,HT.fH,D4,Nat.sub_zero]
 by_cases h:k<=xs.length
 ·rw[Dg h]
 ·rw[Ew (by lia),Bb (Ao _),Bb (by lia)]
end KA
namespace D3
open PySem PySem.Spec PyProof.Rows L2
def lU(f:Str)(v:D):List (Str×D)->List (Str×D)
 |[]=>[(f,v)]
 |(g,x)::r=>if g=f then (g,v)::r else (g,x)::lU f v r
theorem FsIs.len:∀{fs:List (Str×D)} {ys:List (Str×V)},FsIs H fs ys->fs.length=ys.length
 |[],ys,h=>by rw[show ys=[] from h];rfl
 |(k,d)::r,ys,h=>by
  let ⟨v,I,rfl,_,h2⟩:=h
  rw[Ah,Ah,FsIs.len h2]
theorem FsIs.put9(i:Is H d v):∀{fs:List (Str×D)} {ys:List (Str×V)},FsIs H fs ys->FsIs H (lU f d fs) (eQ f v ys)
 |[],ys,h=>by rw[show ys=[] from h];exact #v[v,[],rfl,i,rfl]
 |(k,e)::r,ys,h=>by
  let ⟨u,I,rfl,h1,h2⟩:=h
  unfold lU eQ
  by_cases z:k=f
  ·rw[if_pos z,if_pos z];exact #v[v,I,rfl,i,h2]
  ·rw[if_neg z,if_neg z];exact #v[u,_,rfl,h1,h2.put9 i]
theorem FsIs.look:∀{fs:List (Str×D)} {ys:List (Str×V)},FsIs H fs ys->match fs.lookup f with
  |some d=>∃ v,ys.lookup f=some v/\Is H d v
  |none=>ys.lookup f=none
 |[],ys,h=>by rw[show ys=[] from h];rfl
 |(k,e)::r,ys,h=>by
  let ⟨u,I,rfl,h1,h2⟩:=h
  have J:=h2.look (f:=f)
  rw[Cj,Cj]
  cases hb:f == k with
  |true=>exact #v[u,rfl,h1]
  |false=>exact J
section
variable {X:Cx}{G:Ga}{M:MH}{o e value:Expr}{es:List Expr}{pos apos pos':Pos}{Q:DK}{E:EndsD}
theorem oA(h:EV X G M o λd M1=>∃ a C fs v,d=.ref a/\M1 a=some (.ins C fs)/\Cls X.K C/\NoAttr X.K C f/\fs.lookup f=some v/\Q v M1)(Y:attributeBase o f X.env (eval o X.env)=eval o X.env):EV X G M (.Attribute o f pos) Q:=by
 refine EV.of (NA (fY (G:=G)) Y) λσ H kf R=>?_
 exists M,_,R,h,λv H' d M' L g i I q=>?_
 let ⟨a,C,fs,v',rfl,J,c,n,hl,q⟩:=q
 rw[aH]at i;subst i
 let ⟨O,ys,e1,hy⟩:=I.mem a _ J
 have:=hy.look (f:=f)
 rw[hl]at this
 let ⟨u,V,S⟩:=this
 exact #v[a,C,O,ys,u,rfl,e1,c,n,V,λ_=>#v[g,v',M',S,I.mem,q]]
theorem FD(h:EV X G M value λdv M1=>EV X G M1 o λd M2=>∃ a C fs,d=.ref a/\M2 a=some (.ins C fs)/\Cls X.K C/\NoAttr X.K C f/\fs.length<1000/\E.nx G (FF M2 a (.ins C (lU f dv fs))))
  (hs:swapsWith value (some (.Attribute o f pos')) pos.line X.env=pure false):EX X G M (.Assign [.Attribute o f pos'] value pos) E:=by
 intro J s σ H I R
 refine plainObj_wpAny_Assign_Attribute (thn (h J s σ H I R) λu s1 ⟨y,H1,dv,M1,I1,ry,g1,i1,R1,q1⟩=>thn (q1 J s1 σ H1 I1 R1) λov s2 ⟨x,H2,dO,M2,I2,rx,g2,i2,R2,a,C,fs,e,ha,c,n,hl,q⟩=>?_) hs
 subst e
 rw[aH]at i2;subst i2
 obtain rfl:ov=Value.ref a:=rx
 let ⟨S,ys,e1,hy⟩:=R2.mem a _ ha
 have O:∀ zs,H2 a≠some (.tup zs):=λzs z=>by rw[e1]at z;cases z
 have L:F6 H2 (upd H2 a (.ins C S (eQ f y ys))):=cH O
 refine vG I2 e1 c n (by rw[<- hy.len];exact hl) ry λY V=>#v[σ,_,G,_,V,(g1.trans g2).trans L,R2.to L (R2.mem.put (u:=.ins C (lU f dv fs)) O #v[S,_,aI,?_]),q]
 exact (hy.grow L).put9 (Is.grow (g2.trans L) _ _ i1)
structure CalM(P:Program)(w:World)(K:Ad)(mg:Str->Option Value)(base:Heap)(k:Nat)(C:Addr)(m:Str)(sp:SpD):Prop where
 cls:Cls K C
 ex:∃(f:Addr) (fd:FuncData) (ps:List Str),F8 P w K mg base CX0 k f fd ps (aD K sp)/\Meth K C m f/\Binds K fd ps []
theorem oB(c:CalM X.prog X.w X.K X.mg X.base j C m sp)(hr:Room k X.A)(hk:j<=k)
  (h:EV X G M o λd M1=>∃ a fs,d=.ref a/\M1 a=some (.ins C fs)/\fs.lookup m=none/\sp [.ref a] M1 Q)
  (O:eval (.Call (.Attribute o m apos) [] [] pos) X.env=(do
   let ov <- eval o X.env
   standAt apos.atName
   let (f,first) <- holding [ov] (getMethod ov m pl)
   callWith pos f first (backTo pos (A0 [] X.env)) (backToKw pos (keywordEach [] X.env)))):EV X G M (.Call (.Attribute o m apos) [] [] pos) Q:=by
 intro J s σ H I R
 let ⟨f,V,ps,F,hm,L⟩:=c.ex
 refine PySem.W.methodCall_KW (pl:=pl) (thn (h J s σ H I R) λu s1 ⟨x,H1,d,M1,I1,rx,g1,i1,R1,a,fs,e1,ha,hl,q⟩=>?_) O
 subst e1
 rw[aH]at i1;subst i1
 obtain rfl:u=Value.ref a:=rx
 let ⟨S,ys,e2,hy⟩:=R1.mem a _ ha
 have:=hy.look (f:=m)
 rw[hl]at this
 refine vF I1 e2 c.cls hm this ?_
 exact PySem.W.callWith_K0 (first:=[.ref a]) I1.kIn hm.kp (xV (us:=[.ref a]) (vs:=[.ref a]) (ds:=[.ref a]) (F.mono hk) hr L I1 R1 g1 (.cons rfl .nil) (aG.mpr #v[_,_,rfl,aH.mpr rfl,aV.mpr rfl]) q)
structure Kls(P:Program)(w:World)(K:Ad)(mg:Str->Option Value)(base:Heap)(k:Nat)(x:Str)(C:Addr)(sp:SpD):Prop where
 ex:∃(f:Addr) (fd:FuncData) (ps:List Str),F8 P w K mg base CX0 k f fd ps (aD K sp)/\Mk K C f/\Binds K fd ps []
 mg:mg x=some (.ref C)
theorem FE{k:Nat}{x:Str}{C:Addr}{sp:SpD}{pins:List (Addr×Obj)}{σ:St}{H0 H:Hp}{s:Shared}{us:List Value}{vs:List V}{ds:List D}(m:Kls X.prog X.w X.K X.mg X.base k x C sp)(hr:Room (k+1) X.A)
  (I:L2.Inv X pins σ H s)(R:Rel X G M σ H)(g0:F6 H0 H)(r:Vals vs us)(i:IsL H ds vs)(h:∀ a,M a=none->sp (.ref a::ds) (FF M a (.ins C [])) λd M2=>d=.non/\Q (.ref a) M2) :
  wpAny (model X.prog X.w) X.A (call (.ref C) us) (EPD X pins σ G H0 Q) X.xe s:=by
 let ⟨f,fd,ps,F,S,hb⟩:=m.ex
 have hx:H (s.heap.objs.size+1)=none:=I.hok.fresh (Cs _)
 have hd:H s.heap.objs.size=none:=I.hok.fresh (Ao _)
 have hM:M (s.heap.objs.size+1)=none:=mM R.mem I.kIn hx (Cs _)
 have b1:M s.heap.objs.size=none:=mM R.mem I.kIn hd (Ao _)
 have L:s.heap.objs.size≠s.heap.objs.size+1:=A1 (Ft _)
 have O:=Inv.made (C:=C) I
 generalize hH2:upd (upd H s.heap.objs.size (.own (s.heap.objs.size+1))) (s.heap.objs.size+1) (.ins C s.heap.objs.size [])=H2 at O
 have gr:F6 H H2:=by
  rw[<- hH2]
  refine (aK hd).trans (aK ?_)
  rw[aL L.symm];exact hx
 have Z:F9 X.K (FF M (s.heap.objs.size+1) (.ins C [])) H2:=by
  rw[<- hH2]
  exact (R.mem.new hd).lay (by rw[aL L.symm];exact hx) #v[_,[],aI,rfl]
 have hq:aD X.K sp (V.ref (s.heap.objs.size+1)::vs) H2 (λv H'=>v=.non/\∃ M',F6 H2 H'/\F9 X.K M' H'/\Q (.ref (s.heap.objs.size+1)) M') E0 :=
  #v[.ref (s.heap.objs.size+1)::ds,_,_,aG.mpr #v[_,_,rfl,aH.mpr rfl,i.grow gr],Z,h _ hM,λv H' d M' g iv mm q=>#v[by rw[q.1,cJ]at iv;exact iv,M',g,mm,q.2]]
 have r2:Vals (V.ref (s.heap.objs.size+1)::vs) (Value.ref (s.heap.objs.size+1)::us):=.cons rfl r
 have hl:(Value.ref (s.heap.objs.size+1)::us++[]).length=ps.length:=by
  have e:=r2.length
  rw[F.len _ _ _ _ hq]at e
  rw[A7]
  exact e.symm
 have Y:=hb _ (Value.ref (s.heap.objs.size+1)::us) O.kIn hl
 rw[A7]at Y
 refine wpAny_call (BU (f:=f) I.kIn S.makes S.init (beq_iff_eq.mp S.fn) (codeAny_mono (F.run _ X.stack _ _ #v[Value.ref (s.heap.objs.size+1)::us,[]] (Value.ref (s.heap.objs.size+1)::us) _ _ E0 (hr.make C us []) (O.env0.make C us []) Y r2 hq) λr s' J=>?_))
 cases r with
 |error e=>exact LR pins σ _ _ e s' O J
 |ok fl =>
  cases fl with
  |ret u =>
   let ⟨v,H',I3,rv,ev,M',g3,m3,q3⟩:=O.after J
   subst ev
   exact #v[rv,#v[V.ref (s.heap.objs.size+1),H',.ref (s.heap.objs.size+1),M',I3,rfl,g0.trans (gr.trans g3),aH.mpr rfl,R.to (gr.trans g3) m3,q3]]
  |next=>exact False.elim J
  |brk=>exact False.elim J
  |cont=>exact False.elim J
theorem PO(m:Kls X.prog X.w X.K X.mg X.base k x C sp)(hr:Room j X.A)(hj:k+1<=j)
  (h:AV X G M (e::es) λds M1=>∀ a,M1 a=none->sp (.ref a::ds) (FF M1 a (.ins C [])) λd M2=>d=.non/\Q (.ref a) M2)(hg:Gl X x)(O:(x == ("__debug__":Str))=false)
  (V:A0 (e::es) X.env=(false,eval e X.env)::A0 es X.env)(S:(backTo pos (A0 es X.env)).any (·.1)=false):EV X G M (.Call (.Name x p) (e::es) [] pos) Q:=by
 intro J s σ H I R
 let ⟨f,Z,ps,F,L,Y⟩:=m.ex
 refine wpAny_Call_Name_kw (hJ I hg m.mg ?_ O)
 refine Ek (h₀:=X.base) I.ok.mod.kin L.kp (thn (h pos J s σ H I R) λus s1 ⟨vs,H1,ds,M1,I1,r1,g1,i1,R1,q1⟩=>#v[I1.kIn,?_]) V S
 exact FE m (hr.mono hj) I1 R1 g1 r1 i1 q1
end
theorem qI:∀ l:List (Str×Tok),Vals ((l.map (·.1)).map V.str) (strValues l)
 |[]=>.nil
 |(x,t)::l=>.cons #v[t,rfl] (qI l)
section
variable {X:Cx}{G:Ga}{M:MH}{o e:Expr}{pos apos cpos:Pos}{Q:DK}
theorem wL{J:D->MH->Prop}(h:EV X G M e J)(hs:SeX X e):AV X G M [e] (λds M2=>∃ d,ds=[d]/\J d M2):=fJ (h.mono λd2 M2 I=>kQ #v[d2,rfl,I]) hs
theorem oE{pins:List (Addr×Obj)}{σ:St}{H:Hp}{s:Shared}{k:Nat}{l:List (Str×Tok)}{Q:VK}(I:L2.Inv X pins σ H s)(J:l.length<=An)(q:∀ p,H p=none->Q (.ref p) (upd H p (.lst ((l.map (·.1)).map V.str)))) :
  EP X pins σ Q (.ref s.heap.objs.size) { s with heap:=s.heap.push { cls:=.type "list",data:=.seq (strValues l).toArray },toks:=k }:=by
 exists .ref s.heap.objs.size,_,I.laid (a:=s.heap.objs.size) (o:=.lst ((l.map (·.1)).map V.str)) (t':=k) (λ_ _ q=>Af _ q) (Ao _) ?_,rfl,q _ (I.hok.fresh (Ao _))
 exact #v[by rw[Ab,Ab];exact J,strValues l,0,qI l,Ap _ rfl]
def PP:V->List V->Hp->VK->Prop:=λx vs H Q=>∃ z y,x=.str z/\vs=[.str y]/\(y.length == 0)=false/\z.length<=An/\(B0 z (B5 z y 0 z.length (z.length+1)) y.length).length<=An/\∀ p,H p=none->Q (.ref p) (upd H p (.lst ((Txt.split z y).map V.str)))
theorem FG:MtR X "str.split" PP:=by
 intro O s σ H x vs v us Q I rx S h
 let ⟨z,y,rfl,rfl,hy,Y,J,q⟩:=h
 let ⟨t,rfl⟩:=(show ∃ t,v=Value.str z t from rx)
 let ⟨u',rfl,Z⟩:=S.one
 let ⟨u,rfl⟩:=(show ∃ u,u'=Value.str y u from Z)
 have L:∀ l:List (Str×Tok),l.map (·.1)=Txt.split z y->∀ p,H p=none->Q (.ref p) (upd H p (.lst ((l.map (·.1)).map V.str))):=λl e=>by rw[e];exact q
 cases h1:(decide (z.length<y.length)||decide (F4 z<F4 y))
 ·cases hf:(B5 z y 0 z.length (z.length+1)).isEmpty
  ·refine call_meets F.slot_str_split (typeIs_str _ _ _) F.entry_str_split (F.args_str_split_2 _ _) (meets_str_split_sep z y t u h1 hy hf Y J) ?_
   show wants _ _ _ { s with toks:=_,heap:=s.heap.push { cls:=.type "list",data:=.seq (strsFrom s.toks (B0 z (B5 z y 0 z.length (z.length+1)) y.length)).toArray } }
   rw[strsFrom_eq]
   have e0:Txt.split z y=B0 z (B5 z y 0 z.length (z.length+1)) y.length:=(if_neg (ne_true_of_eq_false h1)).trans (if_neg (ne_true_of_eq_false hf))
   have e:=(numbered_texts s.toks (B0 z (B5 z y 0 z.length (z.length+1)) y.length)).trans e0.symm
   refine oE I ?_ (L _ e)
   have:=congrArg F2 (numbered_texts s.toks (B0 z (B5 z y 0 z.length (z.length+1)) y.length))
   rw[Ab]at this
   rw[this];exact J
  ·exact call_meets F.slot_str_split (typeIs_str _ _ _) F.entry_str_split (F.args_str_split_2 _ _) (meets_str_split_not_found z y t u h1 hy hf)
    (oE (k:=s.toks) (l:=[(z,t)]) I (by rw[sizeLine_eq];exact Cf rfl) (L _ ((if_neg (ne_true_of_eq_false h1)).trans (if_pos hf)).symm))
 ·exact call_meets F.slot_str_split (typeIs_str _ _ _) F.entry_str_split (F.args_str_split_2 _ _) (meets_str_split_cannot_occur z y t u h1)
   (oE (k:=s.toks) (l:=[(z,t)]) I (by rw[sizeLine_eq];exact Cf rfl) (L _ (if_pos h1).symm))
theorem kD(h:EV X G M o λd M1=>∃ z,d=.str z/\EV X G M1 e λd2 M2=>∃ y,d2=.str y/\(y.length == 0)=false/\z.length<=An/\(B0 z (B5 z y 0 z.length (z.length+1)) y.length).length<=An/\∀ p,M2 p=none->Q (.ref p) (FF M2 p (.lst ((Txt.split z y).map D.str))))
  (S:attributeBase o "split" X.env (eval o X.env)=eval o X.env)
  (b2:HfX X cpos e)
  (b1:(apos.endLine == cpos.line)=true)(hs:SeX X e)(J:NpX X cpos) :
  EV X G M (.Call (.Attribute o "split" apos) [e] [] cpos) Q:=by
 refine EV.of (nA PySem.F.plainAttrs_str PySem.F.slot_str_split PySem.F.type_str_split FG (fY (G:=G)) (iU (G:=G) (es:=[e])) S b2 b1 hs J) λσ H kf R=>?_
 exists M,_,R,h,λv H' d M' b4 g i R' q=>?_
 let ⟨z,rfl,q⟩:=q
 rw[aR]at i;subst i
 exists rfl,M',_,R',wL q hs,λvs H2 b3 M2 b5 g2 i2 L Z=>?_
 let ⟨d2,rfl,y,rfl,hy,hz,O,Z⟩:=Z
 let ⟨v2,rfl,I⟩:=dF i2
 rw[aR]at I;subst I
 exact #v[z,y,rfl,rfl,hy,hz,O,λp V Y=>#v[(g.trans g2).trans (aK V),.ref p,_,aH.mpr rfl,L.mem.lay (u:=.lst ((Txt.split z y).map D.str)) V #v[_,aI,IsL.strs],Z p (L.mem.fresh V Y)]]
def JX:V->List V->Hp->VK->Prop:=λx vs H Q=>∃ z y,x=.str z/\vs=[.str y]/\z.length<=An/\Q (.str (Txt.lstripChars z y)) H
theorem AX:MtR X "str.lstrip" JX:=by
 intro J s σ H x vs v us Q I V L h
 let ⟨z,y,rfl,rfl,O,q⟩:=h
 let ⟨t,rfl⟩:=(show ∃ t,v=Value.str z t from V)
 let ⟨Y,rfl,S⟩:=L.one
 let ⟨u,rfl⟩:=(show ∃ u,Y=Value.str y u from S)
 exact SC.lstripChars (λt' k=>#v[.str _,H,I.tok _,#v[_,rfl],q]) O
theorem AY(h:EV X G M o λd M1=>∃ z,d=.str z/\EV X G M1 e λd2 M2=>∃ y,d2=.str y/\z.length<=An/\Q (.str (Txt.lstripChars z y)) M2)
  (L:attributeBase o "lstrip" X.env (eval o X.env)=eval o X.env)
  (V:HfX X cpos e)
  (S:(apos.endLine == cpos.line)=true)(hs:SeX X e)(J:NpX X cpos) :
  EV X G M (.Call (.Attribute o "lstrip" apos) [e] [] cpos) Q:=by
 refine EV.of (nA PySem.F.plainAttrs_str PySem.F.slot_str_lstrip PySem.F.type_str_lstrip AX (fY (G:=G)) (iU (G:=G) (es:=[e])) L V S hs J) λσ H kf R=>?_
 exists M,_,R,h,λv H' d M' b2 g i Z q=>?_
 let ⟨z,rfl,q⟩:=q
 rw[aR]at i;subst i
 exists rfl,M',_,Z,wL q hs,λvs H2 b1 M2 b3 g2 i2 Y O=>?_
 let ⟨d2,rfl,y,rfl,hz,O⟩:=O
 let ⟨v2,rfl,I⟩:=dF i2
 rw[aR]at I;subst I
 exact #v[z,y,rfl,rfl,hz,λ_=>#v[g.trans g2,_,M2,aR.mpr rfl,Y.mem,O]]
def JY:V->List V->Hp->VK->Prop:=λx vs H Q=>∃ z y,x=.str z/\vs=[.str y]/\Q (.bl (Txt.startswith z y)) H
theorem mt_starts:MtR X "str.startswith" JY:=by
 intro J s σ H x vs v us Q I S L h
 let ⟨z,y,rfl,rfl,q⟩:=h
 let ⟨t,rfl⟩:=(show ∃ t,v=Value.str z t from S)
 let ⟨V,rfl,O⟩:=L.one
 let ⟨u,rfl⟩:=(show ∃ u,V=Value.str y u from O)
 exact SC.startswith #v[.bl _,H,I,rfl,q]
theorem qJ(h:EV X G M o λd M1=>∃ z,d=.str z/\EV X G M1 e λd2 M2=>∃ y,d2=.str y/\Q (.bl (Txt.startswith z y)) M2)
  (L:attributeBase o "startswith" X.env (eval o X.env)=eval o X.env)
  (V:HfX X cpos e)
  (S:(apos.endLine == cpos.line)=true)(hs:SeX X e)(J:NpX X cpos) :
  EV X G M (.Call (.Attribute o "startswith" apos) [e] [] cpos) Q:=by
 refine EV.of (nA PySem.F.plainAttrs_str PySem.F.slot_str_startswith PySem.F.type_str_startswith mt_starts (fY (G:=G)) (iU (G:=G) (es:=[e])) L V S hs J) λσ H kf R=>?_
 exists M,_,R,h,λv H' d M' b2 g i Z q=>?_
 let ⟨z,rfl,q⟩:=q
 rw[aR]at i;subst i
 exists rfl,M',_,Z,wL q hs,λvs H2 b1 M2 b3 g2 i2 Y O=>?_
 let ⟨d2,rfl,y,rfl,O⟩:=O
 let ⟨v2,rfl,I⟩:=dF i2
 rw[aR]at I;subst I
 exact #v[z,y,rfl,rfl,λ_=>#v[g.trans g2,_,M2,bL.mpr rfl,Y.mem,O]]
theorem AZ:dY X (.type "int") (λxs H Q=>∃ z n,xs=[.str z]/\PySem.intText? z=some n/\z.length<=640/\Q (.int n) H):=by
 intro J s σ H xs us Q I r h
 let ⟨z,n,rfl,L,S,q⟩:=h
 let ⟨u,rfl,O⟩:=fG r
 let ⟨t,rfl⟩:=(show ∃ t,u=Value.str z t from O)
 exact PySem.W.KIN.call_text L S #v[.int n,H,I.tok _,#v[_,rfl],q]
theorem JZ(hm:X.mg "int"=none)(h:AV X G M [e] λds M1=>∃ z n,ds=[.str z]/\PySem.intText? z=some n/\z.length<=640/\Q (.int n) M1)(hg:Gl X "int")
  (O:SeX X e)(J:NpX X pos):EV X G M (.Call (.Name "int" p) [e] [] pos) Q :=
 dQ AZ hm xU (h.mono λds M1 ⟨z,n,e1,hn,hz,q⟩=>λH xs L hx m=>by
  subst e1
  let ⟨v,rfl,I⟩:=dF hx
  rw[aR]at I;subst I
  exact #v[z,n,rfl,hn,hz,λ_=>#v[F6.refl _,_,M1,aM.mpr rfl,m,q]]) hg (by decide) (by decide) O J
theorem PQ:OpR X (compareOp .In) (λx y H Q=>∃ a b,x=.str a/\y=.str b/\Q (.bl (Txt.contains b a)) H):=by
 intro J s σ H x y v u Q I L O h
 let ⟨a,b,rfl,rfl,q⟩:=h
 let ⟨t,rfl⟩:=(show ∃ t,v=Value.str a t from L)
 let ⟨t',rfl⟩:=(show ∃ t',u=Value.str b t' from O)
 exact PyProof.Rows.in_str #v[.bl _,H,I,rfl,q]
theorem FH(h:EV X G M a λda Ma=>EV X G Ma b λdb Mb=>∃ x y,da=.str x/\db=.str y/\Q (.bl (Txt.contains y x)) Mb)(hm:behindInMarks .In b=false):EV X G M (.Compare a [.In] [b] pos) Q :=
 iS PQ hm (h.mono λ_ _ h1=>h1.mono λ_ Mb ⟨x,y,e1,e2,q⟩=>λH L J I hx hy m=>by
  subst e1;subst e2
  rw[aR]at hx hy;subst hx;subst hy
  exact #v[x,y,rfl,rfl,λ_=>#v[F6.refl _,_,Mb,bL.mpr rfl,m,q]])
end
def FI(lo:Int)(n:Nat):It:=#v[λi _=>i<n,λi H x H'=>H'=H/\x=.int (lo+i*3),λi _=>n<=i]
theorem FJ{P:Program}{w:World}{K:Ad}{tg:Expr}(it:Addr)(lo:Int)(n:Nat):Turn P w K tg (FI lo n) [it] it (λi h=>IsRangeIter h it (lo+(i:Nat)*3) ((n:Int)-(i:Nat)) 3):=by
 exists by simp,?_,λi h h' st k=>k it (by simp) _ st,?_,?_,λ_ _ _ _ _ st h=>wpAny_pyIter_rangeiter st h
 ·intro i h st b L
  have e:b=it:=by simpa using L
  subst e
  exists _,st,λv z=>?_
  have z':Data.fields _=Data.cell v:=z
  cases z'
 ·intro X hP hw hK S i J s σ H E I hf st hg
  subst hP hw hK
  let ⟨f0,Y,f2,f3,Z,V⟩:=hf it (by simp)
  refine (Walks.range (prog:=X.prog) (w:=X.w) (I.ok.hd S) it lo 3 n).item i s _ _ hg st λv h' tk hv O kk=>?_
  let ⟨t,rfl⟩:=hv
  have I1:Inv X J σ H { s with heap:=h',toks:=tk }:=I.turned (λb o L e=>kk b o (by simpa using L) e) f0 Y f3 Z V
  exact #v[_,rfl,mU (s:={ s with heap:=h',toks:=tk }) (n :="range_iterator") O rfl rfl (by decide) #v[.int (lo+i*3),H,I1,#v[t,rfl],#v[rfl,rfl],O,λb L=>(hf b L).1]]
 ·intro X hP hw hK S i J s σ H E I hf st hg
  subst hP hw hK
  let ⟨f0,Y,f2,f3,Z,V⟩:=hf it (by simp)
  exact wpAny_pyNext_range_end (I.ok.hd S) st (by have:n<=i:=hg;lia) λh' eb=>#v[rfl,I.turned (t':=s.toks) (λb o L e=>eb b o L e) f0 Y f3 Z V]
theorem uE:Bv a b 3=if a<b then (b-a-1) / 3+1 else 0:=by
 unfold Bv;rw[if_pos (by decide)]
theorem BA(I:-(2^62)<=a)(L:a<2^62)(J:-(2^62)<=b)(O:b<2^62):F5 a b 3=true:=by
 unfold F5
 rw[uE]
 simp only[A8,Bl,Bool.or_eq_true,decide_eq_true_eq,beq_iff_eq,show (3:Int)>0 by decide,if_true]
 split<;>lia
def many3(lo hi:Int):Nat:=((hi-lo+2) / 3).toNat
section
variable {X:Cx}{tg:Expr}
theorem PR{pins:List (Addr×Obj)}{σ:St}{H:Hp}{s:Shared}{R:It->Hp->Prop}{E:Value->Shared->Prop}{J O:Int}{t u v:Tok}{tk:Nat}(I:Inv X pins σ H s)(h1:-(2^62)<=J)(h2:J<2^62)(V:-(2^62)<=O)(h4:O<2^62)
  (q:R (FI J (many3 J O)) H):wpAny (model X.prog X.w) X.A (pyIter (.ref s.heap.objs.size)) (PIE X pins σ tg R) E { s with heap:=s.heap.push { cls:=.type "range",data:=.fields #[.int J t,.int O u,.int 3 v] },toks:=tk }:=by
 refine wpAny_pyIter_range (IsRange.new ..) (BA h1 h2 V h4) ?_
 generalize hob:({ cls:=.type "range",data:=.fields #[.int J t,.int O u,.int 3 v] }:Obj)=ob
 have L:Inv X pins σ H { s with heap:=s.heap.push ob,toks:=tk }:=I.kept λb o e=>Af _ e
 exists (s.heap.push ob).objs.size,[(s.heap.push ob).objs.size],_,_,H,rfl,L.kept (t':=tk) λb o e=>Af _ e,FJ _ J (many3 J O),?_,λb S=>?_,q
 ·have e1:J+((0:Nat):Int)*3=J:=by simp
  have e2:((many3 J O:Nat):Int)-((0:Nat):Int)=Bv J O 3:=by rw[uE];unfold many3;split<;>lia
  show IsRangeIter _ _ (J+((0:Nat):Int)*3) (((many3 J O:Nat):Int)-((0:Nat):Int)) 3
  rw[e1,e2]
  exact Ap _ rfl
 ·have e:b=(s.heap.push ob).objs.size:=by simpa using S
  subst e
  exact L.fpOk (Ao _) (L.hok.fresh (Ao _))
def WI(ta:TA):TI:=λσ H R=>ta σ H λvs H1=>∃ i j:Int,vs=[.int i,.int j,.int 3]/\(-(2^62)<=i/\i<2^62/\-(2^62)<=j/\j<2^62)/\R (FI i (many3 i j)) H1
theorem PS{a b c:Expr}{ta:TA}{p pos:Pos}(hg:Gl X "range")(hm:X.mg "range"=none)(ha:PA X [a,b,c] ta)(hs:A0 [a,b,c] X.env=[(false,eval a X.env),(false,eval b X.env),(false,eval c X.env)]:=by rfl)(hs2:A0 [b,c] X.env=[(false,eval b X.env),(false,eval c X.env)]:=by rfl) :
  PI X tg (.Call (.Name "range" p) [a,b,c] [] pos) (WI ta):=by
 intro J s σ H R I h
 refine Call_ (fW I hg hm boot_range (PyProof.Rows.callWith_type1 (thn (ha pos J s σ H _ I h) λus s1 ⟨vs,H1,I1,r1,S⟩=>?_) (by rw[hs,hs2]) (by rw[hs2];rfl)))
 let ⟨i,j,e,⟨S,q2,Y,q4⟩,q⟩:=S
 subst e
 cases r1 with
 |cons r L =>
  cases L with
  |cons Z L =>
   cases L with
   |cons O L =>
    cases L
    let ⟨t,rfl⟩:=r
    let ⟨t',rfl⟩:=Z
    let ⟨V,rfl⟩:=O
    exact PySem.call_range_3 (by decide) (PR I1 S q2 Y q4 q) (Bh (PyProof.noPylong_small (by decide)))
end
theorem BB(jj:Nat)(T:H4 X own js N scope cl)(b4:X.xe=λ_ _=>False)(hc:X.calm=true)(hm:X.mg "range"=none)(hN:X.N.Nodup)(hj:X.N[jj]?=some y)(hy:Loc X.env.scope y)(hyf:X.fn y=true\/X.env.scope.names.lookup y=some .local)
  (hsw:swapsWith (.ListComp elt [#v[tg,.Call (.Name "range" p) [e1,e2,e3] [] p2,[],0]] scope pos) (some (.Name y py)) spos.line X.env=pure true)
  (h:AV X G M [e1,e2,e3] λas M1=>∃(hi:Int) (Iv:Addr->Nat->List D->MH->Prop),as=[.int 0,.int hi,.int 3]/\0<=hi/\hi<1000/\(∀ q,M1 q=none->Iv q 0 [] (FF M1 q (.lst []))) /\
   (∀ Y:Cx,(∃ C s H fp,Y=bR X N scope cl C s H fp)->∀ q i acc M',i<many3 0 hi->Iv q i acc M'->M' q=some (.lst acc)->GV Y (aN own js G) M' tg (.int (((3*i:Nat):Int))) λG3 M3=>M3=M'/\Sub (aN own js G) G3/\EV Y G3 M' elt λo M4=>M4 q=some (.lst acc)/\acc.length<An/\Iv q (i+1) (acc++[o]) (FF M4 q (.lst (acc++[o])))) /\
   ∀ q acc M',Iv q (many3 0 hi) acc M'->M' q=some (.lst acc)->E.nx (G.set jj (some (.ref q))) M')
  (hg:Gl X "range")(hse:A0 [e1,e2,e3] X.env=[(false,eval e1 X.env),(false,eval e2 X.env),(false,eval e3 X.env)])(hse2:A0 [e2,e3] X.env=[(false,eval e2 X.env),(false,eval e3 X.env)])(hs:∀ x,A9 (.Call (.Name "range" p) [e1,e2,e3] [] p2) X.env x=pure x):EX X G M (.Assign [.Name y py] (.ListComp elt [#v[tg,.Call (.Name "range" p) [e1,e2,e3] [] p2,[],0]] scope pos) spos) E:=by
 refine jT jj T b4 hc (PS hg hm (iU (G:=G)) hse hse2) hN hj hy hyf hsw (λσ H kf R=>?_) hs
 exists M,_,R,h,λvs H' ds M' b3 g i R' q=>?_
 let ⟨n,Iv,e,h1,h2,b1,block,b2⟩:=q
 subst e
 let ⟨u,v,w,rfl,i1,i2,i3⟩:=WD i
 rw[aM]at i1 i2 i3;subst i1;subst i2;subst i3
 exists 0,n,rfl,#v[by lia,by lia,by lia,by lia],g,M',(Ca (many3 0 n)).map λi:Nat=>D.int (((3*i:Nat):Int)),Iv,R',λq i acc Z H2 g2 V O=>#v[λe=>?_,λS=>#v[?_,λx H3 y=>?_]],b1,λY hY q i acc Z d hd O V=>?_,λq acc Z O V=>b2 q acc Z (by rw[Ab,Bo]at O;exact O) V
 ·show many3 0 n<=i
  rw[e,Ab,Bo];exact Ao _
 ·show i<many3 0 n
  simpa using S
 ·let ⟨e,y⟩:=y
  subst e;subst y
  have L:i<many3 0 n:=by simpa using S
  exact #v[F6.refl _,λ_ _ z=>z,.int (((3*i:Nat):Int)),by rw[Ar,Ce L];rfl,aM.mpr (by congr 1;lia)]
 ·rw[Ar]at hd
  have hi:i<many3 0 n:=by
   refine Fv λz=>?_
   rw[B2 (by rw[Bo];exact z)]at hd;cases hd
  rw[Ce hi]at hd
  have hd:D.int (((3*i:Nat):Int))=d:=by simpa using hd
  subst hd
  have:=block Y hY q i acc Z hi O V
  intro J s σ H v u I R r i1
  refine thn (this J s σ H v u I R r i1) λ_ s2 h2=>?_
  let ⟨σ2,H2,G2,M3,I2,g2,R2,e1,e2,e3⟩:=h2
  exact #v[σ2,H2,G2,M3,I2,g2,R2,e1,e2,#v[rfl,by rw[if_pos rfl];exact e3]]
section
variable {X:Cx}{G:Ga}{a e:Expr}{pos:Pos}
theorem FK{K:Ad}{h:Heap}(hd:Two K w d k1 v1 k2 v2)(J:k1≠k2)(hk:K.In h):∃ u1 u2,h.DictOf (bA P w) d [(.inr k1,.str v1 u1),(.inr k2,.str v2 u2)]:=by
 let ⟨L,u1,O,u2,n,hd⟩:=hd
 exists u1,u2,_,_,n,hk _ _ hd,#v[rfl,rfl,rfl],rfl,?_,?_,?_
 ·intro e I
  simp at I
  rcases I with rfl|rfl
  ·exact #v[.inr k1,bD _ _ _ _,rfl]
  ·exact #v[.inr k2,bD _ _ _ _,rfl]
 ·exact .cons (bD _ _ _ _) rfl (.cons (bD _ _ _ _) rfl .nil)
 ·simp[J]
theorem FL(hd:Two X.K X.w d k1 v1 k2 v2)(J:k1≠k2)(hs:(d == sysModules)=false):OpR X (compareOp .In) (λx y H Q=>∃ k,x=.str k/\y=.ref d/\Q (.bl (decide (k=k1)||decide (k=k2))) H):=by
 intro L s σ H x y v u Q I S O h
 let ⟨k,rfl,rfl,q⟩:=h
 let ⟨t,rfl⟩:=(show ∃ t,v=Value.str k t from S)
 cases O
 let ⟨Y,V,dd⟩:=FK (P:=X.prog) hd J I.kIn
 refine wpAny_in_of (bD _ _ k t) hs dd.mapOf ?_
 exists .bl _,H,I.tok _,?_,q
 show Value.bool _=Value.bool _
 congr 1
 by_cases e1:k=k1
 ·subst e1;simp[valueAt]
 ·by_cases e2:k=k2
  ·subst e2;simp[valueAt,J]
  ·have h1:¬ k1=k:=λz=>e1 z.symm
   have h2:¬ k2=k:=λz=>e2 z.symm
   simp[valueAt,e1,e2,h1,h2]
theorem FM(hd:Two X.K X.w d k1 v1 k2 v2)(I:k1≠k2)(hs:(d == sysModules)=false)(hm:X.mg x=some (.ref d))(h:EV X G M e λdk M1=>∃ k,dk=.str k/\Q (.bl (decide (k=k1)||decide (k=k2))) M1)
  (hg:Gl X x)(L:(x == ("__debug__":Str))=false)(O:behindInMarks .In (.Name x p)=false):EV X G M (.Compare e [.In] [.Name x p] pos) Q:=by
 refine iS (FL hd I hs) O (h.mono λdk M1 ⟨k,e1,q⟩=>?_)
 subst e1
 refine EV.of (mD (v:=.ref d) hg hm rfl L) λσ H J R=>show _ from λ_=>#v[F6.refl _,.ref d,M1,aH.mpr rfl,R.mem,?_]
 intro H x y J hx hy m
 rw[aR]at hx;rw[aH]at hy;subst hx;subst hy
 exact #v[k,rfl,rfl,λ_=>#v[F6.refl _,_,M1,bL.mpr rfl,m,q]]
def UI:V->Option Int->Option Int->Hp->VK->Prop:=λx lo hi H Q=>∃(z:Str) (i:Int),x=.str z/\lo=some i/\hi=none/\z.length<=An/\Q (.str (Txt.slice z (some i) none)) H
theorem FN:SlR X UI:=by
 intro J s σ H x v Z Y lo V sl Q I O hs pl S h
 let ⟨z,i,rfl,rfl,rfl,L,q⟩:=h
 let ⟨t,rfl⟩:=(show ∃ t,v=Value.str z t from O)
 cases pl
 cases S
 exact #v["str",_,F.slot_str_getitem.lookup,typeIs_str _ _ _,wpAny_getItem_str_slice (l:=some (i,_)) (u:=none) (st:=none) hs rfl (post_val_or_str #v[Ay (Txt.slice_le z _ _) L,λt' k=>#v[.str _,H,I.tok _,#v[_,rfl],q]])]
theorem FO{z:Str}(e:da=.str z)(J:z.length<=An)(h:Q (.str (Txt.slice z (some i) none)) M):RS X.K UI da (some i) none M Q:=by
 intro H x I hx m
 subst e
 rw[aR]at hx;subst hx
 exact #v[z,i,rfl,rfl,rfl,J,λ_=>#v[F6.refl _,_,M,aR.mpr rfl,m,h]]
end
open AutoSeq1 (wpAny_loadPart')
theorem BC(l:Addr)(items:Array Value)(n:Nat)(S:Option Addr)(V:Array (Option Value))(u:Tok) :
  Meets (Builtin.«enumerate.__new__» #v[[.type "enumerate",.ref l],[("start",.int 1 u)]]) (λ_ R s=>s.heap.get? l=some { cls:=.type "list",dict:=S,data:=.seq items n,slots:=V } /\
   R (.ok (.ret (.ref (s.heap.push { cls:=.type "list_iterator",data:=.fields #[.ref l,.int 0 0] }).objs.size)))
    { s with heap:=(s.heap.push { cls:=.type "list_iterator",data:=.fields #[.ref l,.int 0 0] }).push { cls:=.type "enumerate",data:=.fields #[.none,.bool false,.ref s.heap.objs.size,rawInt 1,.none,.none] } }) :=
 .of_wp λprog w A R s h=>by
  let ⟨L,g,d,tk,O⟩:=s;let ⟨hl,h⟩:=h
  have J:=sub_enumerate
  have I:Heap.IsList (Shared.heap #v[L,g,d,tk,O]) l items:=#v[_,hl,rfl,n,rfl]
  wp_walk using wpAny_loadPart' hl
  refine wpAny_stack_any λst=>Ag ?_
  split
  ·rename_i c _ _ _ _ _
   cases (c == Value.type "enumerate")<;>(wp_walk using wpAny_loadPart' hl,wpAny_pyIter_list I;exact #v[_,rfl,h])
  ·wp_walk using wpAny_loadPart' hl,wpAny_pyIter_list I
   exact #v[_,rfl,h]
theorem wM(a b:Value)(u:Tok):argsOk "object.__init__" #v[[a,b],[("start",.int 1 u)]]:=by unfold argsOk;kernel_rfl
theorem wN :
  Meets (Builtin.«object.__init__» #v[[self,.ref l],[("start",.int 1 u)]]) (λ_ R s=>s.TypeIs self "enumerate"/\R (.ok (.ret .none)) s):=by
 refine Meets.of_wp λprog w A R s hs=>?_
 let ⟨L,J⟩:=hs
 have hl:=F.called_enumerate.init.lookup
 have hm:=F.called_enumerate.made
 have I:(some "enumerate.__new__" != some "object.__new__")=true:=by decide
 repeat (any_goals (first|assumption|wp_step))
 exact #v[_,rfl,J]
theorem wO{s:Shared}{V:List Value}(hl:s.heap.get? l=some { cls:=.type "list",data:=.seq V.toArray n })
  (k:∀ g,IsEnum g (s.heap.objs.size+1) s.heap.objs.size 1 .none->g.IsListIter s.heap.objs.size l 0->(∀ b o,s.heap.get? b=some o->g.get? b=some o)->Q (.ref (s.heap.objs.size+1)) { s with heap:=g }) :
  wpAny (model P w) A (call (.type "enumerate") [.ref l] [("start",.int 1 u)]) Q E s:=by
 have I:=F.called_enumerate
 let ⟨c,tl,Y⟩:=I.mro
 have O:=I.made
 have b1:=I.sub
 have b3:checkTypeCall "enumerate" #v[[.ref l],[("start",.int 1 u)]]=pure ():=by kernel_rfl
 have S:checkBuiltinCall "enumerate.__new__" #v[[.type "enumerate",.ref l],[("start",.int 1 u)]]=pure ():=by kernel_rfl
 refine wpAny_call (codeAny_of_tree ?_)
 show wpAny _ _ (callAny (.type "enumerate") _) _ _ _
 refine Ag #v[Code.quiet_builtin _ (by lia),codeAny_builtin F.entry_type_call ?_]
 rw[Around.under_plain (weight_type_call_type _ _ _) (units_type_call_type _ _ _)]
 have h1:=I.notType
 have h2:=I.canCreate
 repeat (any_goals (first|assumption|wp_step))
 have sz:(s.heap.push { cls:=.type "list_iterator",data:=.fields #[.ref l,.int 0 0] }).objs.size=s.heap.objs.size+1:=Dz ..
 have hg:=BC l V.toArray n none #[] u P w A.in1
 refine codeAny_mono (codeAny_call_builtin (R:=wants (λJ L=>L.TypeIs J "enumerate"/\Q J L) E) I.plain F.entry_enumerate_new (B4 S (hg _ s #v[hl,?_]))) λr s₁ hr=>?_
 ·have Z:IsEnum ((s.heap.push { cls:=.type "list_iterator",data:=.fields #[.ref l,.int 0 0] }).push { cls:=.type "enumerate",data:=.fields #[.none,.bool false,.ref s.heap.objs.size,rawInt 1,.none,.none] }) (s.heap.objs.size+1) s.heap.objs.size 1 .none:=by
   rw[<- sz]
   exact Ap _ rfl
  show _/\_
  rw[sz]
  exact #v[#v[_,Z,rfl],k _ Z #v[_,Af _ (Ap _ rfl),rfl,rfl] λb o x=>Af _ (Af _ x)]
 ·cases r with
  |error e=>exact hr
  |ok fl =>
   cases fl with
   |ret J =>
    let ⟨hT,hq⟩:=(show s₁.TypeIs J "enumerate"/\Q J s₁ from hr)
    have b2:=I.init.lookup
    have b4:=I.init.bind J
    repeat (any_goals (first|assumption|wp_step))
    refine codeAny_mono (codeAny_call_builtin (R:=wants (λr s₂=>r=.none/\Q J s₂) E) I.init.plain F.entry_object_init (I.init.check _ _ _ _ _ _ _ _ hT (wM J _ u) (wN P w A.in1 _ s₁ #v[hT,rfl,hq]))) λr₂ s₂ hr₂=>?_
    cases r₂ with
    |error e=>exact hr₂
    |ok fl₂ =>
     cases fl₂ with
     |ret r =>
      let ⟨rfl,hq⟩:=hr₂
      repeat (any_goals (first|assumption|wp_step))
     |_=>exact hr₂.elim
   |_=>exact hr.elim
theorem FP{P:Program}{w:World}{B:Around}{it:Addr}{fp:List Addr}{n:Nat}{Pi:Nat->Value->Prop}{St:Nat->Heap->Prop}(D:Draws P w B it fp n Pi St) :
  Draws P w B it fp (n+1) (λi v=>Pi (i-1) v) (λi h=>1<=i/\St (i-1) h) where
 live:=λ_ _ q=>D.live _ _ q.2
 frame:=λ_ _ _ q k=>#v[q.1,D.frame _ _ _ q.2 k]
 item:=λi st R Z lt q k=>by
  obtain ⟨j,rfl⟩:∃ j,i=j+1:=#v[i-1,by have:=q.1;lia]
  exact D.item j st R Z (by lia) q.2 λx h' tk hx hs I=>k x h' tk hx #v[by lia,hs] I
 done:=λst R Z q k=>D.done st R Z q.2 k
def Itf(K:Ad)(a:Addr):It :=
 #v[λi H=>∃ xs x,SqL K H a xs/\xs[i]?=some x,λi H v H'=>∃ T x,v=.ref T/\H T=none/\H'=upd H T (.tup [.int ((i+1:Nat):Int),x])/\∀ xs,SqL K H a xs->xs[i]?=some x,λi H=>∃ xs,SqL K H a xs/\xs.length=i]
theorem wP{P:Program}{w:World}{K:Ad}{ts:List Expr}{n:Nat}{pos:Pos}(a e it:Addr)(ne:e≠it)(ha:a≠e)(hb:a≠it) :
  Turn P w K (.Tuple ts n pos) (Itf K a) [e,it] e (λi h=>(∃ old,IsEnum h e it ((i+1:Nat):Int) old)/\h.IsListIter it a i) where
 mem:=by simp
 obj:=λi h q b hb=>by
  let ⟨⟨old,L⟩,o,V,_,q3⟩:=q
  rcases Am.mp hb with z|z
  ·subst z;exact #v[_,L,λv z=>by
    have z':Data.fields _=Data.cell v:=z
    cases z']
  ·rw[Al.mp z];exact #v[o,V,λv z=>by rw[q3]at z;cases z]
 keep:=λi h h' q k=>#v[let ⟨old,L⟩:=q.1;#v[old,k e (by simp) _ L],q.2.at λo z=>k it (by simp) o z]
 item:=by
  intro X hP hw hK hc i Y s σ H E I hf q hg
  subst hP hw hK
  let ⟨xs,x,hq,hx⟩:=hg
  let ⟨J,rv,p,hz⟩:=I.list hq
  let ⟨u,hu,ru⟩:=rv.get hx
  let ⟨⟨old,L⟩,V⟩:=q
  have lt:i<J.toArray.size:=by
   have:=(Ax.mp hu).1
   simpa using this
  refine wpAny_pyNext_enum_itemD (i:=i+1) (FP (Draws.list (A:=X.A.in1) (I.ok.hd hc) it a hb J.toArray)) L #v[by lia,V,p.isList] (by lia) ne (by simp[ne,ha.symm]) λv g tk hv r1 r2 r3 r4 r5=>?_
  have ev:v=u:=by
   have h1:J[i]?=some v:=by simpa using hv
   rw[hu]at h1;exact (B3.inj h1).symm
  subst ev
  exists _,rfl,wpAny_letOwnedTupleGo_enum r1 λg' s1 s2=>?_
  have O:∀ b,b≠e->g'.get? b=g.get? b:=s2.2
  have Z:e≠s.heap.objs.size:=A1 (As L)
  have b1:it≠s.heap.objs.size:=by let ⟨o,z,_⟩:=V;exact A1 (As z)
  have S:g.IsListIter it a (i+1):=r2.2.1
  let ⟨oi,zi,_⟩:=id S
  let ⟨m,I1,sz,km⟩:=JA (tk:=tk+1) I (hf e (by simp)) (hf it (by simp)) ne #v[_,L] (let ⟨o,z,_⟩:=V;#v[o,z]) #v[_,s1] #v[oi,(O it ne.symm).trans zi] λb o h1 h2 z=>(O b h1).trans (r5 b o h1 h2 z)
  have fr:H s.heap.objs.size=none:=I.hok.fresh (Ao _)
  exists .ref s.heap.objs.size,upd H s.heap.objs.size (.tup [.int ((i+1:Nat):Int),x]),I1.laid (t':=tk+1) (o:=.tup [.int ((i+1:Nat):Int),x]) km (En sz) #v[#v[show 2<=An by decide,_,(O _ Z.symm).trans r3,rfl],[.int ((i+1:Nat):Int) tk,v],.cons #v[tk,rfl] (.cons ru .nil),#v[_,(O _ Z.symm).trans r3,rfl,_,rfl]],rfl,#v[_,x,rfl,fr,rfl,λys hy=>by rw[I.list_inj hy hq];exact hx],#v[#v[_,s1],S.at λo z=>(O it ne.symm).trans z],λb hb=>?_
  rcases Am.mp hb with z|z
  ·subst z;rw[aL Z];exact (hf b (by simp)).1
  ·rw[Al.mp z,aL b1];exact (hf it (by simp)).1
 done:=by
  intro X hP hw hK hc i Y s σ H E I hf q hg
  subst hP hw hK
  let ⟨xs,hq,hx⟩:=hg
  let ⟨J,rv,p,hz⟩:=I.list hq
  let ⟨⟨old,L⟩,V⟩:=q
  have hl:J.toArray.size=i:=by rw[<- hx,rv.length];simp
  subst hl
  let ⟨f0,f1,f2,f3,f4,f5⟩:=hf it (by simp)
  exact wpAny_pyNext_enum_endD (Draws.list (A:=X.A.in1) (I.ok.hd hc) it a hb J.toArray) L #v[V,p.isList] λg eb=>#v[rfl,I.turned (t':=s.toks) (λb o z y=>eb b o z y) f0 f1 f3 f4 f5]
 self:=λ_ _ _ _ _ q h=>let ⟨_,L⟩:=q.1;wpAny_pyIter_enum L h
theorem uF
  (h:wpAny M A (spliced (backTo pos (A0 [e] env))) (λvs s₁=>wpAny M A (evalAll ((backToKw pos (keywordEach kws env)).map (·.2)))
   (λkvs s₂=>wpAny M A (call (.type T) vs (((backToKw pos (keywordEach kws env)).filterMap (·.1)).zip kvs)) Q E s₂) E s₁) E s)
  (O:backTo pos (A0 [e] env)=(false,eval e env)::backTo pos (A0 [] env))(I:(backTo pos (A0 [e] env)).any (·.1)=false)
  (J:(backToKw pos (keywordEach kws env)).all (·.1.isSome)=true)(L:(backToKw pos (keywordEach kws env)).any (·.1.isNone)=false) :
  wpAny M A (callWith pos (.type T) [] (backTo pos (A0 [e] env)) (backToKw pos (keywordEach kws env))) Q E s:=by
 have h2:wpAny M A (evalArgs (.type T) true (backTo pos (A0 [e] env)) (backToKw pos (keywordEach kws env))) (λa s₁=>wpAny M A (call (.type T) a.pos a.kw) Q E s₁) E s:=by
  rw[O]at h ⊢
  exact PyProof.Rows.evalArgs_kwB J h
 unfold callWith
 refine Ac (wpAny_holding (Cz h2 (λa s₁ h₁=>Ac (Dl ?_)) λ_ _ x=>x))
 simp only[I,L,Bool.or_false]
 refine Ac (Ag ?_)
 exact Ac (Cz h₁ (λr s₂ hr=>Ac (wpAny_holding (wpAny_point (Ag hr)))) λ_ _ x=>x)
def PT(K:Ad)(ta:TA):TI:=λσ H R=>ta σ H λvs H1=>∃ a,vs=[.ref a]/\(∃ xs,H1 a=some (.lst xs))/\R (Itf K a) H1
theorem FQ(hg:Gl X "enumerate")(hm:X.mg "enumerate"=none)(ha:PA X [a] ta)
  (he:backTo pos (A0 [a] X.env)=(false,eval a X.env)::backTo pos (A0 [] X.env))(b1:(backTo pos (A0 [a] X.env)).any (·.1)=false) :
  PI X (.Tuple ts n tp) (.Call (.Name "enumerate" p) [a] [#v[some "start",.Constant (.int 1) j cp,kp]] pos) (PT X.K ta):=by
 intro J s σ H R I h
 refine wpAny_Call_Name_kw (fW I hg hm boot_enumerate ?_ (by decide) (by decide))
 refine uF (thn (ha pos J s σ H _ I h) λus s1 ⟨vs,H1,I1,r1,q1⟩=>?_) he b1 rfl rfl
 refine PyProof.Rows.kws_cons (wpAny_Constant_int (PyProof.Rows.kws_nil ?_))
 let ⟨l,e,⟨xs,S⟩,q⟩:=q1
 subst e
 cases r1 with
 |cons r V =>
  cases V
  have Y:_=Value.ref l:=r
  subst Y
  let ⟨hz,b2,m,rv,hl⟩:=(show G9 X.prog X.w H1 s1.heap l (.lst xs) from I1.hok l _ S)
  have lt:l<s1.heap.objs.size:=As hl
  refine wO (s:={ s1 with toks:=s1.toks+1 }) hl λg O L kp=>wpAny_pyIter_enum O ?_
  exists s1.heap.objs.size+1,[s1.heap.objs.size+1,s1.heap.objs.size],_,_,H1,rfl,I1.kept (t':=s1.toks+1) kp,wP l _ _ (Nat.succ_ne_self _) (A1 (Fo lt)) (A1 lt),#v[#v[_,O],L],λb Z=>?_,q
  rcases Am.mp Z with z|z
  ·subst z;exact I1.fpOk (Cs _) (I1.hok.fresh (Cs _))
  ·rw[Al.mp z];exact I1.fpOk (Ao _) (I1.hok.fresh (Ao _))
theorem rV(hp:PassesOwn (model X.prog X.w) X.A X.env X.xe)(hc:X.calm=true)(hm:X.mg "enumerate"=none)
  (h:AV X G M [e] λes M1=>∃(l:Addr) (ds:List D) (Iv:Nat->Ga->MH->Prop),es=[.ref l]/\M1 l=some (.lst ds)/\Iv 0 G M1/\(∀ i G' M',Iv i G' M'->M' l=some (.lst ds)) /\
   (∀(i:Nat) d G' M',ds[i]?=some d->Iv i G' M'->GV X G' M' (.Tuple ts n tp) (.tup [.int ((i+1:Nat):Int),d]) λG3 M3=>EXs X G3 M3 body { nx:=Iv (i+1),ct:=Iv (i+1),bk:=E.nx,rt:=E.rt })/\(∀ G' M',Iv ds.length G' M'->E.nx G' M'))
  (hg:Gl X "enumerate")(he:backTo pos (A0 [e] X.env)=(false,eval e X.env)::backTo pos (A0 [] X.env))(b5:(backTo pos (A0 [e] X.env)).any (·.1)=false)
  (hs:∀ x,A9 (.Call (.Name "enumerate" p) [e] [#v[some "start",.Constant (.int 1) j cp,kp]] pos) X.env x=pure x):EX X G M (.For (.Tuple ts n tp) (.Call (.Name "enumerate" p) [e] [#v[some "start",.Constant (.int 1) j cp,kp]] pos) body [] pos') E:=by
 refine nD hp hc (FQ hg hm (iU (G:=G)) he b5) (λσ H kf R=>?_) hs
 exists M,_,R,h,λvs H' es M' b7 g i Z q=>?_
 let ⟨l,ds,Iv,e,hl,h0,keep,L,V⟩:=q
 subst e
 let ⟨v,rfl,hv⟩:=dF i
 rw[aH]at hv;subst hv
 let ⟨Y,b1,_⟩:=Z.mem l _ hl
 exists l,rfl,#v[Y,b1],g,M',ds.length,Iv,Z,h0,λi G2 O b3 S=>#v[λe=>V G2 O (by rw[<- e];exact S),λσ2 H2 g2 R2=>?_]
 let ⟨xs,hx,I⟩:=R2.mem l _ (keep i G2 O S)
 have b2:=I.len
 have J:SqL X.K H2 l xs:=SqL.of hx
 exists λe=>#v[xs,J,by lia],λb4=>#v[#v[xs,xs[i]'(by lia),J,by simp],λx H3 y=>?_]
 let ⟨T,z,e1,e2,e3,e4⟩:=y
 subst e1;subst e3
 let ⟨d,e5,i5⟩:=I.get' (e4 xs J)
 have gr:=aK (o:=.tup [.int ((i+1:Nat):Int),z]) e2
 exact #v[gr,.tup [.int ((i+1:Nat):Int),d],O,bM.mpr #v[T,_,rfl,aI,aG.mpr #v[_,_,rfl,aM.mpr rfl,aG.mpr #v[_,_,rfl,i5.grow gr,aV.mpr rfl]]],R2.mem.new e2,L i d G2 O e5 S]
theorem wQ(hc:X.calm=true):dY X (.type "set") (λxs H Q=>∃(a:Addr) (ys:List Str),xs=[.ref a]/\H a=some (.lst (ys.map V.str))/\ys.length<=100/\∀ p ss,H p=none->ss.Nodup->ss.length<=100->(∀ y,y∈ss↔y∈ys)->Q (.ref p) (upd H p (.ext (SetW X.prog X.w p ss)))):=by
 intro J s σ H xs us Q I r h
 let ⟨a,ys,rfl,e,O,q⟩:=h
 let ⟨u,rfl,S⟩:=fG r
 cases S
 let ⟨_,Z,n,L,e1⟩:=(show G9 X.prog X.w H s.heap a (.lst (ys.map V.str)) from I.hok a _ e)
 refine qF (.inr rfl) (xs:=ys) (n:=n) (I.ok.hd hc) #v[_,e1,rfl,rfl] (kY L) O λg tk ss o' es ep t hS a1 a2 a3 Y=>?_
 exact #v[.ref s.heap.objs.size,_,I.laid (t':=tk) (o:=.ext (SetW X.prog X.w s.heap.objs.size ss)) Y (Ao _) (SetW.ok #v[o',es,ep,t,hS]),rfl,q _ ss (I.hok.fresh (Ao _)) a1 a2 a3]
theorem KB(Y:X.calm=true)(hm:X.mg "set"=none)(h:AV X G M [e] λds M1=>∃(l:Addr) (ys:List Str),ds=[.ref l]/\M1 l=some (.lst (ys.map D.str))/\ys.length<=100/\∀ r ss,M1 r=none->ss.Nodup->ss.length<=100->(∀ y,y∈ss↔y∈ys)->Q (.ref r) (FF M1 r (.raw (SetW X.prog X.w r ss))))(hg:Gl X "set")(V:SeX X e)(S:NpX X pos) :
  EV X G M (.Call (.Name "set" p) [e] [] pos) Q :=
 dQ (wQ Y) hm yJ (h.mono λds M1 ⟨l,ys,e1,hl,hz,q⟩=>λH xs Z hx m=>by
  subst e1
  let ⟨v,rfl,L⟩:=dF hx
  rw[aH]at L;subst L
  let ⟨vs,O,J⟩:=m l _ hl
  have:=nR J;subst this
  exact #v[l,ys,rfl,O,hz,λr ss hr a1 a2 a3 I=>#v[aK hr,.ref r,FF M1 r (.raw (SetW X.prog X.w r ss)),aH.mpr rfl,m.lay (u:=.raw (SetW X.prog X.w r ss)) hr aI,q r ss (m.fresh hr I) a1 a2 a3]]) hg (by decide) (by decide) V S
end D3
namespace KA
open PySem PySem.Spec PyProof.Rows L2 D3 K01
def NoC(c:Nat)(x:Str):Prop:=c∉x.cps.toList
theorem bU(a b:Str):(a++b).cps.toList=a.cps.toList++b.cps.toList:=by
 show (a.cps++b.cps).toList=_
 rw[Fc]
theorem iG{a b:Str}(h:a.cps.toList=b.cps.toList):a=b:=jX (Array.toList_inj.mp h)
theorem yM:∀{p q a b:List Nat},c∉p->c∉q->p++c::a=q++c::b->p=q/\a=b
 |[],[],a,b,_,_,h=>by
  simp only[A2,List.cons.injEq,true_and]at h
  exact #v[rfl,h]
 |[],y::q,a,b,_,hq,h=>by
  simp only[A2,A3,List.cons.injEq]at h
  exact absurd (h.1▸Aj ..) hq
 |x::p,[],a,b,hp,_,h=>by
  simp only[A2,A3,List.cons.injEq]at h
  exact absurd (h.1▸Aj ..) hp
 |x::p,y::q,a,b,hp,hq,h=>by
  simp only[A3,List.cons.injEq]at h
  let ⟨e1,e2⟩:=yM (λz=>hp (Ak _ z)) (λz=>hq (Ak _ z)) h.2
  exact #v[by rw[h.1,e1],e2]
theorem kE(c:Nat)(x y:Str)(r:List Str):(Es #v[#[c]] (x::y::r)).cps.toList=x.cps.toList++c::(Es #v[#[c]] (y::r)).cps.toList:=by
 show (x++#v[#[c]]++Es #v[#[c]] (y::r)).cps.toList=_
 rw[bU,bU,Az]
 rfl
theorem uG:∀{ps qs:List Str},ps≠[]->qs≠[]->(∀ t∈ps,NoC c t)->(∀ t∈qs,NoC c t)->Es #v[#[c]] ps=Es #v[#[c]] qs->ps=qs
 |[],_,h,_,_,_,_=>absurd rfl h
 |_,[],_,h,_,_,_=>absurd rfl h
 |[x],[y],_,_,_,_,h=>by
  have:x=y:=h
  rw[this]
 |[x],y::z::r,_,_,hx,_,h=>by
  have h':x.cps.toList=_:=(congrArg (λs:Str=>s.cps.toList) h).trans (kE c y z r)
  exact absurd (by rw[h'];simp) (hx x (Aj ..))
 |x::z::r,[y],_,_,_,hy,h=>by
  have h':y.cps.toList=_:=(congrArg (λs:Str=>s.cps.toList) h.symm).trans (kE c x z r)
  exact absurd (by rw[h'];simp) (hy y (Aj ..))
 |x::x'::r,y::y'::r',_,_,hx,hy,h=>by
  have h':=(kE c x x' r).symm.trans ((congrArg (λs:Str=>s.cps.toList) h).trans (kE c y y' r'))
  let ⟨e1,e2⟩:=yM (hx x (Aj ..)) (hy y (Aj ..)) h'
  rw[iG e1,uG (ps:=x'::r) (qs:=y'::r') (by simp) (by simp) (λt I=>hx t (Ak _ I)) (λt I=>hy t (Ak _ I)) (iG e2)]
theorem qK(x:Str)(I:List Nat)(w:Nat):(B0 x I w).length=I.length+1:=by
 simp[B0]
theorem oF(x:Str)(y:Str)(w:Nat):(B0 x (B5 x y 0 x.length (x.length+1)) w).length<=x.length+2:=by
 rw[qK]
 have:=StrLaws.occ_length_le x y 0 x.length (x.length+1)
 lia
theorem FR(x:Str)(c:Nat):Txt.split x #v[#[c]]≠[]:=by
 intro h
 unfold Txt.split at h
 split at h
 ·cases h
 ·split at h
  ·cases h
  ·have:=congrArg F2 h
   rw[qK]at this
   simp at this
theorem oG(J:ts≠[])(I:∀ t∈ts,NoC c t):Txt.split (Es #v[#[c]] ts) #v[#[c]]=ts :=
 uG (FR _ _) J (StrLaws.split_free _ c) I (StrLaws.join_split _ _)
theorem jB(m:Nat):(nT (m:Int)).cps.toList=(D7 10 m).map Char.toNat:=PySem.W.KIN.signs_num m
theorem cO(m:Nat):NumText.AllDigits (nT (m:Int)).cps.toList:=by
 intro c J
 rw[jB]at J
 let ⟨ch,I,e⟩:=A5.mp J
 have r:=digit_range (Nat.isDigit_of_mem_toDigits (by decide) (by decide) I)
 rw[<- e]
 exact r
theorem qL(m:Nat):(nT (m:Int)).cps.toList≠[]:=by
 rw[jB]
 intro e
 have h:=toDigits_len_ge 10 m
 rw[Ed.mp e]at h
 exact absurd h (by decide)
theorem kF{m:Nat}(h:0<m):nT (-(m:Int))=Aa "-"++nT (m:Int):=by
 refine iG ?_
 rw[bU]
 unfold nT
 rw[signs_ofString,signs_ofString,signs_ofString]
 obtain ⟨k,rfl⟩:∃ k,m=k+1:=#v[m-1,by lia]
 have e1:toString (-((k+1:Nat):Int))="-"++toString ((k+1:Nat):Int):=rfl
 rw[e1,String.toList_append,Ai]
theorem KC:∀ m:Nat,0<m->∃ c r,D7 10 m=c::r/\c≠'0':=by
 intro m
 induction m using Nat.strongRecOn with
 |_ m J =>
  intro hm
  by_cases h:m<10
  ·rw[Nat.toDigits_of_lt_base h]
   exists _,[],rfl,?_
   have:∀ d:Nat,d<10->0<d->Nat.digitChar d≠'0':=by decide
   exact this m h hm
  ·have hr:m%10<10:=Nat.mod_lt m (by decide)
   have t:D7 10 (m / 10)++D7 10 (m%10)=D7 10 (10*(m / 10)+m%10):=Nat.toDigits_append_toDigits (by decide) (by lia) hr
   rw[Nat.div_add_mod]at t
   let ⟨c,r,e,I⟩:=J (m / 10) (by lia) (by lia)
   exact #v[c,r++D7 10 (m%10),by rw[<- t,e];rfl,I]
theorem KD{m:Nat}(h:0<m):∃ c r,(nT (m:Int)).cps.toList=c::r/\c≠48:=by
 let ⟨c,r,e,I⟩:=KC m h
 exists c.toNat,r.map Char.toNat,by rw[jB,e];rfl,λz=>I ?_
 have:c=Char.ofNat 48:=by rw[<- z];exact (Char.ofNat_toNat c).symm
 exact this
theorem iH{m:Nat}(h:m<2^66):(nT (m:Int)).length<=30:=by
 have e:(nT (m:Int)).length=(D7 10 m).length:=by
  have:=congrArg F2 (jB m)
  rw[Ab]at this
  exact this
 rw[e]
 exact digits10_le (by decide) (Aw h (by decide))
theorem oH(h:B 65 i):(nT i).length<=31:=by
 have L:i.natAbs<2^65:=h
 rcases Int.le_total 0 i with J|J
 ·let ⟨m,rfl⟩:=Co J
  have:=iH (m:=m) (by have:((m:Int)).natAbs=m:=rfl;lia)
  lia
 ·by_cases hz:i=0
  ·subst hz;lia
  ·obtain ⟨m,hm⟩:∃ m:Nat,i=-(m:Int):=#v[i.natAbs,by lia]
   subst hm
   have I:0<m:=by lia
   rw[kF I,aQ]
   have:=iH (m:=m) (by lia)
   have e:(Aa "-").length=1:=by lia
   lia
theorem gX(h:B 65 i):PySem.intText? (nT i)=some i:=by
 have hl:=oH h
 rcases Int.le_total 0 i with J|J
 ·let ⟨m,rfl⟩:=Co J
  have e:=intText_digits (cO m) (qL m) (by lia)
  rw[jB,PySem.W.KIN.val_back]at e
  exact e
 ·by_cases hz:i=0
  ·subst hz
   have e:=intText_digits (cO 0) (qL 0) (by lia)
   rw[jB,PySem.W.KIN.val_back]at e
   exact e
  ·obtain ⟨m,hm⟩:∃ m:Nat,i=-(m:Int):=#v[i.natAbs,by lia]
   subst hm
   have I:0<m:=by lia
   have hx:(nT (-(m:Int))).cps.toList=45::(nT (m:Int)).cps.toList:=by
    rw[kF I,bU];rfl
   have e:=intText_neg hx (cO m) (qL m) (by lia)
   rw[jB,PySem.W.KIN.val_back]at e
   exact e
def spc:Str:=#v[#[32]]
theorem jC:Aa " "=spc:=by lia
def jn(ts:List Str):Str:=Es spc ts
theorem bI(a:Str):∀{ts:List Str},ts≠[]->jn (a::ts)=a++spc++jn ts
 |[],h=>absurd rfl h
 |b::r,_=>rfl
theorem fN(a:Str):jn [a]=a:=rfl
theorem lC(hy:ys≠[]):∀{xs:List Str},xs≠[]->jn (xs++ys)=jn xs++spc++jn ys
 |[],h=>absurd rfl h
 |[a],_=>bI a hy
 |a::b::r,_=>by
  show jn (a::(b::r++ys))=_
  rw[bI a (by simp),lC hy (xs:=b::r) (by simp),bI a (ts:=b::r) (by simp),fA,fA,fA,fA,fA]
abbrev Pn:=Int×Option Str
def sgn(k:Int):Str:=if 0<k then "+" else "-"
def abT(k:Int):Str:=nT (k.natAbs:Nat)
def sfx:Option Str->Str
 |none=>Aa ""
 |some x=>Aa " "++x
def tkP(p:Pn):List Str:=sgn p.1::abT p.1::p.2.toList
def ptO(ts:List (Str×Int))(w:Int):List Pn:=(ts.map λt=>(t.2,some t.1))++(if w≠0\/ts=[] then [(w,none)] else [])
theorem UJ(ts:List (Str×Int))(w:Int):gI ts w=(ptO ts w).map λp=>(p.1,sfx p.2):=by
 unfold gI ptO
 rw[Ai,By]
 congr 1
 split<;>rfl
def tkA(ts:List (Str×Int))(w:Int):List Str:=match ptO ts w with
 |[]=>[]
 |p::r=>(nT p.1::p.2.toList)++r.flatMap tkP
theorem UK(a b:Str)(o:Option Str):jn (a::b::o.toList)=a++spc++b++sfx o:=by
 cases o with
 |none=>rw[bI a (by simp)];show a++spc++jn [b]=_;rw[fN];exact (MD _).symm
 |some x =>
  rw[bI a (by simp)]
  show a++spc++jn [b,x]=_
  rw[bI b (by simp),fN]
  show _=a++spc++b++(Aa " "++x)
  rw[jC,fA (a++spc),fA b]
theorem PU(k:Int):sgT k=spc++sgn k++spc:=by
 unfold sgT sgn
 split<;>lia
theorem FS:∀(r:List Pn) (t:Str) (toks:List Str),toks≠[]->t=jn toks->onT t (r.map λp=>(p.1,sfx p.2))=jn (toks++r.flatMap tkP)
 |[],t,toks,_,h=>by simp[onT,h]
 |p::r,t,toks,h0,h=>by
  rw[Au]
  show onT (t++sgT p.1++nT (p.1.natAbs:Nat)++sfx p.2) _=_
  rw[FS r _ (toks++tkP p) (by simp[h0]) ?_,Bp,Az]
  unfold tkP
  rw[lC (by simp) h0,UK,<- h,PU]
  unfold abT
  simp only[fA]
theorem rW:nU ts w=jn (tkA ts w):=by
 unfold nU tkA
 rw[UJ]
 cases ptO ts w with
 |nil=>rfl
 |cons p r =>
  rw[Au]
  show onT (nT p.1++sfx p.2) _=_
  refine FS r _ (nT p.1::p.2.toList) (by simp) ?_
  cases p.2 with
  |none=>exact MD _
  |some x=>show nT p.1++(Aa " "++x)=jn [nT p.1,x];rw[bI _ (by simp),fN,jC,fA]
theorem PV(ts:List (Str×Int))(w:Int):ptO ts w≠[]:=by
 unfold ptO
 cases ts with
 |nil=>simp
 |cons t r=>simp
theorem rX(ts:List (Str×Int))(w:Int):tkA ts w≠[]:=by
 unfold tkA
 cases h:ptO ts w with
 |nil=>exact absurd h (PV ts w)
 |cons p r=>simp
def tkR(r:Rw):List Str:=tkA r.2.1 0++[kZ r.1,nT r.2.2]
theorem rY(r:Rw):bV r=jn (tkR r):=by
 unfold bV tkR
 rw[lC (by simp) (rX _ _),rW,jC,bI _ (by simp),fN]
 simp only[fA]
def tkS(s:Sm):List Str:=tkA s.1 s.2.1++(if s.2.2>1 then [Aa "over",nT s.2.2] else [])
theorem KG:Aa " over "=spc++Aa "over"++spc:=by lia
theorem yN(s:Sm):jY s=jn (tkS s):=by
 unfold jY tkS
 split
 ·rw[lC (by simp) (rX _ _),rW,bI _ (by simp),fN,KG]
  simp only[fA]
 ·rw[A7,rW]
theorem wR(r:Rw):tkR r≠[]:=by unfold tkR;simp
theorem rZ(s:Sm):tkS s≠[]:=by unfold tkS;simp[rX]
def dX:List Rw->List Str
 |[]=>[]
 |[r]=>tkR r
 |r::l=>tkR r++Aa "and":: dX l
theorem PW:Aa " and "=spc++Aa "and"++spc:=by lia
theorem mQ:∀{rs:List Rw},rs≠[]->dX rs≠[]
 |[],h=>absurd rfl h
 |[r],_=>wR r
 |r::s::l,_=>by simp[dX]
theorem oJ:∀{rs:List Rw},rs≠[]->iO rs=jn (dX rs):=by
 intro rs h
 show Txt.join " and " (rs.map bV)=_
 show Builtin.Str.glued _ _=_
 rw[StrLaws.glued_eq_join]
 have I:∀ rs:List Rw,rs≠[]->Es (Aa " and ") (rs.map bV)=jn (dX rs):=by
  intro rs
  induction rs with
  |nil=>intro h;exact absurd rfl h
  |cons r l J =>
   intro _
   cases l with
   |nil=>exact rY r
   |cons s l =>
    have:=J (by simp)
    show bV r++Aa " and "++Es (Aa " and ") ((s::l).map bV)=jn (tkR r++Aa "and":: dX (s::l))
    rw[this,rY,lC (by simp) (wR r),bI _ (mQ (by simp)),PW]
    simp only[fA]
 exact I rs h
structure Tok1(t:Str):Prop where
 ne:t.cps.toList≠[]
 ge:∀ c∈t.cps.toList,43<=c/\c<=126
theorem Tok1.noc(h:Tok1 t)(I:c<43):NoC c t:=λz=>by have:=h.ge c z;lia
theorem Tok1.num(i:Int):Tok1 (nT i):=by
 have I:∀ m:Nat,Tok1 (nT (m:Int)):=λm=>#v[qL m,λc J=>by have:=cO m c J;lia]
 rcases Int.le_total 0 i with O|O
 ·let ⟨m,rfl⟩:=Co O
  exact I m
 ·by_cases hz:i=0
  ·subst hz;exact I 0
  ·obtain ⟨m,hm⟩:∃ m:Nat,i=-(m:Int):=#v[i.natAbs,by lia]
   subst hm
   have L:0<m:=by lia
   rw[kF L]
   exists by rw[bU];simp[(I m).ne],λc J=>?_
   rw[bU]at J
   rcases Aq.mp J with J|J
   ·have:c∈[45]:=J
    simp at this
    lia
   ·exact (I m).ge c J
theorem Tok1.letter(h:F7 x):Tok1 x:=by
 let ⟨d,h1,h2,rfl⟩:=h
 exists by simp,λc I=>?_
 have:c∈[d]:=I
 simp at this
 lia
theorem Tok1.sgn(k:Int):Tok1 (sgn k):=by
 unfold KA.sgn
 split<;>exact #v[by lia,by lia]
theorem Tok1.sig(k:Bool):Tok1 (kZ k):=by
 cases k<;>exact #v[by lia,by lia]
def Toks(ts:List Str):Prop:=∀ t∈ts,Tok1 t
theorem Toks.app(h1:Toks a)(h2:Toks b):Toks (a++b):=λt I=>(Aq.mp I).elim (h1 t) (h2 t)
theorem Toks.cons{a:Str}{b:List Str}(h1:Tok1 a)(h2:Toks b):Toks (a::b):=λt I=>(Am.mp I).elim (λe=>e▸h1) (h2 t)
theorem Toks.nil:Toks []:=λt I=>by cases I
theorem FT(h:∀ x,p.2=some x->F7 x):Toks (tkP p):=by
 refine Toks.cons (Tok1.sgn _) (Toks.cons (Tok1.num _) λt I=>?_)
 cases e:p.2 with
 |none=>rw[e]at I;cases I
 |some x =>
  rw[e]at I
  rw[Al.mp I]
  exact Tok1.letter (h x e)
theorem jD(h:∀ t∈ts,F7 t.1):∀ p∈ptO ts w,∀ x,p.2=some x->F7 x:=by
 intro p I x hx
 unfold ptO at I
 rcases Aq.mp I with I|I
 ·let ⟨t,J,rfl⟩:=A5.mp I
  cases hx
  exact h t J
 ·split at I
  ·rw[Al.mp I]at hx;cases hx
  ·cases I
theorem FU(h:∀ t∈ts,F7 t.1):Toks (tkA ts w):=by
 unfold tkA
 have hl:=jD (w:=w) h
 cases e:ptO ts w with
 |nil=>exact Toks.nil
 |cons p r =>
  rw[e]at hl
  refine Toks.app (Toks.cons (Tok1.num _) λt I=>?_) λt I=>?_
  ·have:=FT (hl p (Aj ..)) t
   exact this (Ak _ (Ak _ I))
  ·let ⟨q,J,I⟩:=Fw.mp I
   exact FT (hl q (Ak _ J)) t I
theorem sA(h:∀ t∈r.2.1,F7 t.1):Toks (tkR r):=Toks.app (FU h) (Toks.cons (Tok1.sig _) (Toks.cons (Tok1.num _) Toks.nil))
theorem FV:Tok1 (Aa "over"):=#v[by lia,by lia]
theorem KH:Tok1 (Aa "and"):=#v[by lia,by lia]
theorem FW(h:∀ t∈s.1,F7 t.1):Toks (tkS s):=by
 unfold tkS
 refine Toks.app (FU h) ?_
 split
 ·exact Toks.cons FV (Toks.cons (Tok1.num _) Toks.nil)
 ·exact Toks.nil
theorem yO:∀{rs:List Rw},(∀ r∈rs,∀ t∈r.2.1,F7 t.1)->Toks (dX rs)
 |[],_=>Toks.nil
 |[r],h=>sA (h r (Aj ..))
 |r::s::l,h=>Toks.app (sA (h r (Aj ..))) (Toks.cons KH (yO λq I=>h q (Ak _ I)))
theorem oK(J:ts≠[])(h:Toks ts):Txt.split (jn ts) spc=ts:=oG J λt I=>(h t I).noc (by decide)
theorem jn_cps(h:Toks ts):∀ c∈(jn ts).cps.toList,c=32\/43<=c:=by
 induction ts with
 |nil=>intro c I;cases I
 |cons a r L =>
  intro c I
  cases r with
  |nil=>exact .inr ((h a (Aj ..)).ge c I).1
  |cons b r =>
   rw[bI a (by simp),bU,bU]at I
   rcases Aq.mp I with I|I
   ·rcases Aq.mp I with I|I
    ·exact .inr ((h a (Aj ..)).ge c I).1
    ·have:c∈[32]:=I
     exact .inl (Al.mp this)
   ·exact L (λt J=>h t (Ak _ J)) c I
theorem KI(L:ts≠[])(h:Toks ts):∃ c r,(jn ts).cps.toList=c::r/\c≠32:=by
 cases ts with
 |nil=>exact absurd rfl L
 |cons a r =>
  have I:=h a (Aj ..)
  obtain ⟨c,l,e⟩:∃ c l,a.cps.toList=c::l:=by
   cases e:a.cps.toList with
   |nil=>exact absurd e I.ne
   |cons c l=>exact #v[c,l,rfl]
  have J:=I.ge c (by rw[e];exact Aj ..)
  cases r with
  |nil=>exact #v[c,l,e,by lia]
  |cons b r =>
   rw[bI a (by simp),bU,bU,e]
   exact #v[c,_,rfl,by lia]
theorem qM:∀(l:List (Array Nat)) (a:Array Nat),(l.foldl (·++·) a).toList=a.toList++(l.map Fx).flatten
 |[],a=>by simp
 |x::l,a=>by
  rw[E7,qM l,Fc,Au,List.flatten_cons,Az]
theorem sB(d:Nat):∀ c∈(ind d).cps.toList,c=32:=by
 intro c I
 unfold ind iK at I
 have e:=qM (Bw d (Aa "  ").cps) #[]
 rw[show ((#v[(Bw d (Aa "  ").cps).foldl (·++·) #[]]:Str).cps.toList)=_ from e]at I
 simp only[A2,Array.toList_empty]at I
 let ⟨l,hl,I⟩:=List.mem_flatten.mp I
 let ⟨a,J,rfl⟩:=A5.mp hl
 rw[List.eq_of_mem_replicate J]at I
 have:c∈[32,32]:=I
 simp at this
 exact this
theorem fO:∀{a b:List Nat},(∀ c∈a,p c=true)->(∀ c r,b=c::r->p c=false)->(a++b).takeWhile p=a
 |[],b,_,h=>by
  cases b with
  |nil=>rfl
  |cons c r=>simp[Fd,h c r rfl]
 |x::a,b,h1,h2=>by
  rw[A3,Fd,if_pos (h1 x (Aj ..)),fO (λc I=>h1 c (Ak _ I)) h2]
theorem wT(hp:∀ c∈p.cps.toList,c=32)(hz:∃ c r,z.cps.toList=c::r/\c≠32):Txt.lstripChars (p++z) spc=z:=by
 have I:stripLo spc.cps.contains true (p++z)=p.length:=by
  have:stripLo spc.cps.contains true (p++z)=((p++z).cps.toList.takeWhile spc.cps.contains).length:=by simp[stripLo]
  rw[this,bU,fO]
  ·rfl
  ·intro c V
   rw[hp c V];lia
  ·intro c r e
   let ⟨Z,r',S,L⟩:=hz
   rw[e]at S
   cases S
   show spc.cps.contains c=false
   simp[spc,L]
 have J:stripHi spc.cps.contains false (p++z) (stripLo spc.cps.contains true (p++z))=(p++z).length:=by simp[stripHi]
 have hs:stripped spc.cps.contains true false (p++z)=z:=by
  unfold stripped
  rw[J,I]
  refine iG ?_
  show ((p++z).cps.extract p.length (p++z).length).toList=_
  rw[E4,bU]
  have hl:(p++z).length=p.cps.toList.length+z.cps.toList.length:=by rw[aQ];rfl
  have O:p.length=p.cps.toList.length:=rfl
  rw[hl,O]
  simp[List.extract]
  exact Bb (by simp)
 show Txt.stripBy _ true false _=_
 unfold Txt.stripBy
 split
 ·rename_i h
  unfold stripSame at h
  rw[Bl,I]at h
  have Y:p.length=0:=by simpa using h.1
  have:p=#v[#[]]:=jX (Ex Y)
  rw[this]
  exact jX (by show #[]++z.cps=z.cps;simp)
 ·exact hs
end KA
namespace D3
open PySem PySem.Spec PyProof.Rows L2
theorem BD:dY X (.builtin "len") (λxs H Q=>∃ z:Str,xs=[.str z]/\z.length<=An/\Q (.int (z.length:Nat)) H):=by
 intro J s σ H xs us Q I r h
 let ⟨z,rfl,O,q⟩:=h
 let ⟨u,rfl,L⟩:=fG r
 let ⟨t,rfl⟩:=(show ∃ t,u=Value.str z t from L)
 exact PyProof.Rows.len_str (by rw[sizeLine_eq]at O;lia) #v[.int _,H,(I.tok _),#v[_,rfl],q]
theorem KJ(hm:X.mg "len"=none)(h:AV X G M [e] λds M1=>∃ z:Str,ds=[.str z]/\z.length<=An/\Q (.int (z.length:Nat)) M1)(hg:Gl X "len")
  (O:SeX X e)(J:NpX X pos):EV X G M (.Call (.Name "len" p) [e] [] pos) Q :=
 dG BD hm xS (h.mono λds M1 ⟨z,e1,hz,q⟩=>λH xs L hx m=>by
  subst e1
  let ⟨v,rfl,I⟩:=dF hx
  rw[aR]at I;subst I
  exact #v[z,rfl,hz,λ_=>#v[F6.refl _,_,M1,aM.mpr rfl,m,q]]) hg (by decide) (by decide) O J
end D3
namespace KA
open PySem PySem.Spec PyProof.Rows L2 D3 K01
def cd1(x:Str):Nat:=x.cps.getD 0 0
theorem eW(h:F7 x):x=#v[#[cd1 x]]/\97<=cd1 x/\cd1 x<=122:=by
 let ⟨c,h1,h2,rfl⟩:=h
 exact #v[rfl,h1,h2]
theorem PX(a b:Nat):ltCps [a] [b]=decide (a<b):=by
 simp[ltCps]
theorem yP:∀{xs:List Str} {p:Str},F7 p->(∀ x∈xs,F7 x)->risingS p xs=true->(p::xs).Pairwise λa b=>cd1 a<=cd1 b
 |[],p,_,_,_=>by simp
 |x::r,p,hp,hx,h=>by
  have I:=hx x (Aj ..)
  unfold risingS at h
  rw[Bl]at h
  have J:=yP I (λy hy=>hx y (Ak _ hy)) h.2
  have h1:cd1 p<=cd1 x:=by
   have h1:=h.1
   rw[(eW hp).1,(eW I).1]at h1
   have:ltCps [cd1 x] [cd1 p]=false:=by simpa using h1
   rw[PX]at this
   simpa using this
  rw[Ei]
  exists λy hy=>?_,J
  rcases Am.mp hy with rfl|hy
  ·exact h1
  ·exact Ay h1 ((Ei.mp J).1 y hy)
theorem yQ(hx:∀ x∈xs,F7 x)(h:sortedS xs=true):xs.Pairwise λa b=>cd1 a<=cd1 b:=by
 cases xs with
 |nil=>simp
 |cons x r=>exact yP (hx x (Aj ..)) (λy hy=>hx y (Ak _ hy)) h
structure Up1(xs:List Str):Prop where
 lett:∀ x∈xs,F7 x
 up:xs.Pairwise λa b=>cd1 a<cd1 b
theorem Up1.nodup(h:Up1 xs):xs.Nodup:=h.up.imp λI e=>by rw[e]at I;exact Cd _ I
theorem yR:∀{xs ys:List Str},Up1 xs->(∀ y∈ys,F7 y)->ys.Nodup->ys.Pairwise (λa b=>cd1 a<=cd1 b)->(∀ z,z∈ys↔z∈xs)->ys=xs
 |[],[],_,_,_,_,_=>rfl
 |[],y::_,_,_,_,_,h=>by have:=(h y).mp (Aj ..);cases this
 |x::_,[],_,_,_,_,h=>by have:=(h x).mpr (Aj ..);cases this
 |x::xs,y::ys,hx,hy,hn,ho,h=>by
  have J:=Ei.mp hx.up
  have O:=Ei.mp ho
  have L:=Br.mp hn
  have e:y=x:=by
   have h1:cd1 x<=cd1 y:=by
    rcases Am.mp ((h y).mp (Aj ..)) with e|z
    ·rw[e];exact Ao _
    ·exact Em (J.1 y z)
   have h2:cd1 y<=cd1 x:=by
    rcases Am.mp ((h x).mpr (Aj ..)) with e|z
    ·rw[e];exact Ao _
    ·exact O.1 x z
   rw[(eW (hy y (Aj ..))).1,(eW (hx.lett x (Aj ..))).1,Nat.le_antisymm h2 h1]
  subst e
  have S:y∉xs:=(Br.mp hx.nodup).1
  rw[yR (xs:=xs) (ys:=ys) #v[λz I=>hx.lett z (Ak _ I),J.2] (λz I=>hy z (Ak _ I)) L.2 O.2 λz=>?_]
  constructor
  ·intro I
   rcases Am.mp ((h z).mp (Ak _ I)) with e|q
   ·rw[e]at I;exact absurd I L.1
   ·exact q
  ·intro I
   rcases Am.mp ((h z).mpr (Ak _ I)) with e|q
   ·rw[e]at I;exact absurd I S
   ·exact q
theorem BE(hx:Up1 xs)(J:ss.Nodup)(hm:∀ y,y∈ss↔y∈xs)(I:ss'.Perm ss)(hs:sortedS ss'=true):ss'=xs:=by
 have hl:∀ y∈ss',F7 y:=λy hy=>hx.lett y ((hm y).mp (I.mem_iff.mp hy))
 exact yR hx hl (I.nodup_iff.mpr J) (yQ hl hs) λz=>(I.mem_iff (a:=z)).trans (hm z)
theorem Up1.sub(h:Up1 ys)(k:xs.Sublist ys):Up1 xs:=#v[λx hx=>h.lett x (k.subset hx),h.up.sublist k]
theorem ME(hl:∀ x∈xs,F7 x)(I:xs.Nodup)(hs:sortedS xs=true):Up1 xs:=by
 exists hl,?_
 have h1:=yQ hl hs
 have h2:xs.Pairwise λa b=>a≠b:=I
 refine (h1.and h2).imp_of_mem λ{a b} ha hb ⟨q1,q2⟩=>?_
 rcases Nat.lt_or_ge (cd1 a) (cd1 b) with h|h
 ·exact h
 ·exact absurd (by rw[(eW (hl a ha)).1,(eW (hl b hb)).1,Nat.le_antisymm q1 h]) q2
structure RdT(ts:List (Str×Int)):Prop where
 up:Up1 (ts.map (·.1))
 wt:∀ t∈ts,t.2≠0/\B 64 t.2
 len:ts.length<=6
theorem RdT.lett(h:RdT ts):∀ t∈ts,F7 t.1:=λt I=>h.up.lett _ (E9 I)
def RdR(r:Rw):Prop:=RdT r.2.1/\B 64 r.2.2
def RdS(s:Sm):Prop:=RdT s.1/\B 64 s.2.1/\0<s.2.2/\B 64 s.2.2
def pF(rs:List Rw):Prop:=rs.length<=2/\∀ r∈rs,RdR r
def cE(ts:List Str):MO:=.lst (ts.map D.str)
inductive spMustR(ds:List D)(M:MH)(Q:DK):Prop|mk:∀ n:Int,ds=[.bl true,.int n]->Q .non M->spMustR ds M Q
inductive spIsName(ds:List D)(M:MH)(Q:DK):Prop|mk:∀ x,ds=[.str x]->F7 x->Q (.bl true) M->spIsName ds M Q
inductive spAbove(ds:List D)(M:MH)(Q:DK):Prop|mk:∀ m:Nat,ds=[.str (nT (m:Int))]->0<m->m<2^65->(∀ M',Ext M M'->Q (.bl true) M')->spAbove ds M Q
inductive spWholeR(ds:List D)(M:MH)(Q:DK):Prop|mk:∀ i n:Int,ds=[.str (nT i),.int n]->B 65 i->(∀ M',Ext M M'->Q (.int i) M')->spWholeR ds M Q
inductive spWeightR(ds:List D)(M:MH)(Q:DK):Prop|mk:∀(l:Addr) (k n:Int) (r:List Str),ds=[.ref l,.int n]->M l=some (cE (sgn k::abT k::r))->k≠0->B 64 k->(∀ M',Ext M M'->Q (.int k) M')->spWeightR ds M Q
inductive spTermR(ds:List D)(M:MH)(Q:DK):Prop|mk:∀(l:Addr) (t:Str×Int) (n:Int),ds=[.ref l,.int n]->M l=some (cE (tkP (t.2,some t.1)))->F7 t.1->t.2≠0->B 64 t.2->(∀ M',Ext M M'->Q (.tup [.str t.1,.int t.2]) M')->spTermR ds M Q
inductive spOrderR(ds:List D)(M:MH)(Q:DK):Prop|mk:∀(l:Addr) (xs:List Str) (n:Int),ds=[.ref l,.int n]->M l=some (cE xs)->Up1 xs->xs.length<=50->(∀ M',Ext M M'->Q .non M')->spOrderR ds M Q
inductive spAddedR(ds:List D)(M:MH)(Q:DK):Prop|mk:∀(l:Addr) (ts:List (Str×Int)) (w n:Int),ds=[.ref l,.int n]->M l=some (cE (tkA ts w))->RdT ts->B 64 w->(∀ M',Ext M M'->Q (.tup [trm ts,.int w]) M')->spAddedR ds M Q
inductive spSumR(ds:List D)(M:MH)(Q:DK):Prop|mk:∀(l:Addr) (s:Sm) (n:Int),ds=[.ref l,.int n]->M l=some (cE (tkS s))->RdS s->(∀ M',Ext M M'->Q (smD s) M')->spSumR ds M Q
inductive spRowR(ds:List D)(M:MH)(Q:DK):Prop|mk:∀(l:Addr) (r:Rw) (n:Int),ds=[.ref l,.int n]->M l=some (cE (tkR r))->RdR r->(∀ M',Ext M M'->Q (rwD r) M')->spRowR ds M Q
inductive spRowsR(ds:List D)(M:MH)(Q:DK):Prop|mk:∀(l:Addr) (rs:List Rw) (n:Int),ds=[.ref l,.int n]->M l=some (cE (dX rs))->rs≠[]->pF rs->(∀ M',Ext M M'->Q (.tup (rs.map rwD)) M')->spRowsR ds M Q
theorem sC:nT 0=Aa "0":= by lia
theorem yS(h:B 65 i)(I:i≠0):¬ nT i=Aa "0":= λz=>by
 have h1:=gX h
 rw[z,<- sC,gX (by show (0:Int).natAbs<2^65;decide)]at h1
 exact I (B3.inj h1).symm
theorem FX(e:x.cps.toList=c::r)(h:c≠45):Txt.startswith x (Aa "-")=false:=by
 show (decide (0+(Aa "-").length<=x.length)&&Builtin.Str.subAt x (Aa "-") 0)=false
 have:Builtin.Str.subAt x (Aa "-") 0=false:=by
  show ((x.cps.extract 0 (0+1)) == #[45])=false
  rw[beq_eq_false_iff_ne]
  intro z
  have h1:=congrArg Fx z
  rw[E4,e]at h1
  simp[List.extract]at h1
  exact h h1
 rw[this,Bool.and_false]
theorem qN(m:Nat):Txt.startswith (nT (m:Int)) (Aa "-")=false:=by
 obtain ⟨c,r,e⟩:∃ c r,(nT (m:Int)).cps.toList=c::r:=by
  cases e:(nT (m:Int)).cps.toList with
  |nil=>exact absurd e (qL m)
  |cons c r=>exact #v[c,r,rfl]
 have:=cO m c (by rw[e];exact Aj ..)
 exact FX e (by lia)
theorem qO(z:Str):Txt.startswith (Aa "-"++z) (Aa "-")=true:=PySem.W.KT.starts_app _ _
theorem yT(z:Str):Txt.slice (Aa "-"++z) (some 1) none=z:=by
 have hl:(Aa "-"++z).length=1+z.length:=by rw[aQ];rfl
 rw[slice_from_eq (b:=((Aa "-"++z).length:Int)) (by decide) (by rw[hl];lia) rfl]
 refine iG ?_
 rw[bU,hl]
 show ((([45]++z.cps.toList).drop 1).take (((1+z.length:Nat):Int)-1).toNat)=z.cps.toList
 have e:(((1+z.length:Nat):Int)-1).toNat=z.cps.toList.length:=by
  have:z.cps.toList.length=z.length:=rfl
  lia
 rw[e]
 simp
 exact Bb (by simp)
theorem iI(I:k≠0):(0<k->nT k=abT k)/\(k<0->nT k=Aa "-"++abT k):=by
 constructor
 ·intro h
  unfold abT
  rw[show ((k.natAbs:Nat):Int)=k from by lia]
 ·intro h
  unfold abT
  have:=kF (m:=k.natAbs) (by lia)
  rw[show -((k.natAbs:Nat):Int)=k from by lia]at this
  exact this
theorem cL(xs:List D)(k:Nat)(h:k<=xs.length):D3.cK xs (some (k:Int)) none=xs.drop k:=by
 unfold D3.cK
 rw[HT.gN,HT.fH,Dg h]
 exact Bb (by rw[Cy];exact Ao _)
theorem PY(xs:List D)(j k:Nat)(h:j+k<=xs.length):D3.cK xs (some (j:Int)) (some ((j+k:Nat):Int))=(xs.drop j).take k:=by
 unfold D3.cK
 rw[HT.fH,HT.fH,Dg (by lia),Dg (by lia),Nat.add_sub_cancel_left]
theorem sD(xs:List D)(a b:D):D3.cK (xs++[a,b]) none (some (-2))=xs:=by
 unfold D3.cK
 have e:HT.sIx (xs++[a,b]).length (xs++[a,b]).length (some (-2))=xs.length:=by
  show (if (-2:Int)<0 then ((-2:Int)+(((xs++[a,b]).length:Nat):Int)).toNat else min (-2:Int).toNat (xs++[a,b]).length)=xs.length
  rw[if_pos (by decide),Ae]
  simp only[Ah,B6]
  lia
 rw[HT.gN,e,D4,Nat.sub_zero,List.take_left]
theorem sE(xs:List D)(a b:D):atI (xs++[a,b]) (-1)=some b:=by
 have:=L2.eY (xs++[a]) b
 rwa [Az]at this
theorem kG(xs:List D)(a b:D):atI (xs++[a,b]) (-2)=some a:=by
 have h:ixN (xs++[a,b]).length (-2)=some xs.length:=by
  unfold ixN
  rw[if_neg (by decide),Ae]
  simp only[Ah,B6]
  rw[if_pos (by lia)]
  congr 1
  lia
 unfold atI
 rw[h]
 simp
def sgd(ts:List (Str×Int))(w:Int):List Str:=(ptO ts w).flatMap tkP
theorem FY(I:∀ t∈ts,t.2≠0)(J:¬ (ts=[]/\w=0)):∃ k r,k≠0/\tkA ts w=nT k::r/\sgd ts w=sgn k::abT k::r/\(k=w\/∃ t∈ts,k=t.2):=by
 unfold tkA sgd
 cases ts with
 |nil =>
  have hw:w≠0:=λz=>J #v[rfl,z]
  refine #v[w,[],hw,?_,?_,.inl rfl]<;>simp[ptO,tkP]
 |cons t r =>
  have e:ptO (t::r) w=(t.2,some t.1)::ptO r w\/ptO (t::r) w=(t.2,some t.1)::(r.map λt=>(t.2,some t.1)):=by
   unfold ptO
   by_cases hw:w=0
   ·right;simp[hw]
   ·left;simp[hw]
  rcases e with e|e<;>rw[e]<;>exact #v[t.2,_,I t (Aj ..),rfl,rfl,.inr #v[t,Aj ..,rfl]]
theorem sF(I:¬ (ts=[]/\w=0)):sgd ts w=ts.flatMap (λt=>tkP (t.2,some t.1))++(if w≠0 then [sgn w,abT w] else []):=by
 unfold sgd ptO
 rw[C8,List.flatMap_map]
 congr 1
 by_cases hw:w=0
 ·have:ts≠[]:=λz=>I #v[z,hw]
  simp[hw,this]
 ·simp[hw,tkP]
theorem yU(ts:List (Str×Int)):(ts.flatMap λt=>tkP (t.2,some t.1)).length=3*ts.length:=by
 induction ts with
 |nil=>rfl
 |cons t r I=>rw[Bp,Ae,I];show 3+_=_;rw[Ah];lia
theorem FZ:∀{ts:List (Str×Int)} {i:Nat} {t:Str×Int},ts[i]?=some t->∀ r:List Str,(((ts.flatMap λt=>tkP (t.2,some t.1))++r).drop (3*i)).take 3=tkP (t.2,some t.1)
 |[],_,_,h,_=>by cases h
 |x::ts,0,t,h,r=>by
  cases h
  rw[Bp,Az]
  rfl
 |x::ts,i+1,t,h,r=>by
  have I:=FZ (ts:=ts) (i:=i) (t:=t) (by simpa using h) r
  rw[Bp,Az,show 3*(i+1)=3+3*i from by lia]
  rw[<- List.drop_drop]
  exact I
theorem GA:tkA [] 0=[Aa "0"]:=by
 show [nT 0]=_
 rw[sC]
inductive spMeasR(ds:List D)(M:MH)(Q:DK):Prop|mk:∀(l:Addr) (m:Sm×Int) (n:Int),ds=[.ref l,.int n]->M l=some (cE (tkS m.1++[Aa "by",nT m.2]))->RdS m.1->0<m.2->B 65 m.2->(∀ M',Ext M M'->Q (.tup [smD m.1,.int m.2]) M')->spMeasR ds M Q
inductive spNamesR(ds:List D)(M:MH)(Q:DK):Prop|mk:∀(l:Addr) (ss:List Str) (n:Int),ds=[.ref l,.int n]->M l=some (cE ss)->Up1 ss->1<=ss.length->ss.length<=6->(∀ M',Ext M M'->Q (nms ss) M')->spNamesR ds M Q
def tkL:Stm->List Str
 |.set x s=>Aa "set":: x::Aa "=":: tkS s
 |.any x=>[Aa "any",x]
 |.note rs=>Aa "note":: dX rs
 |_=>[]
def RdL:Stm->Prop
 |.set x s=>F7 x/\RdS s
 |.any x=>F7 x
 |.note rs=>rs≠[]/\pF rs
 |_=>False
inductive spPlainR(ds:List D)(M:MH)(Q:DK):Prop|mk:∀(l:Addr) (s:Stm) (n:Int),ds=[.ref l,.int n]->M l=some (cE (tkL s))->RdL s->(∀ M',Ext M M'->Q (stD s) M')->spPlainR ds M Q
inductive Opn where
 |choose
 |ite(r:Rw)
 |whl(r:Rw)
def tkO:Opn->List Str
 |.choose=>[Aa "choose"]
 |.ite r=>Aa "if":: tkR r
 |.whl r=>Aa "while":: tkR r
def dN:Opn->List D
 |.choose=>[.str "choose"]
 |.ite r=>[.str "if",rwD r]
 |.whl r=>[.str "while",rwD r,.tup [],.non]
def RdO:Opn->Prop
 |.choose=>True
 |.ite r=>RdR r
 |.whl r=>RdR r
inductive spOpenR(ds:List D)(M:MH)(Q:DK):Prop|mk:∀(l:Addr) (o:Opn) (n:Int),ds=[.ref l,.int n]->M l=some (cE (tkO o))->RdO o->(∀ q M',M q=none->M' q=some (.lst (dN o))->Ext M M'->Q (.ref q) M')->spOpenR ds M Q
mutual
def cP:Stm->Prop
 |.set x s=>RdL (.set x s)
 |.any x=>RdL (.any x)
 |.note rs=>RdL (.note rs)
 |.choose a b=>dB a/\dB b/\a.length<=90/\b.length<=90
 |.ite r a b=>RdR r/\dB a/\dB b/\a.length<=90/\b.length<=90
 |.whl r rs m b=>RdR r/\pF rs/\(∀ x,m=some x->RdS x.1/\0<x.2/\B 65 x.2)/\dB b/\b.length<=90
def dB:List Stm->Prop
 |[]=>True
 |s::r=>cP s/\dB r
end
def tkK(d:Nat)(rs:List Rw):List (Nat×List Str):=if rs=[] then [] else [(d,Aa "keep":: dX rs)]
def tkF(d:Nat):Option (Sm×Int)->List (Nat×List Str)
 |none=>[]
 |some m=>[(d,Aa "fall":: (tkS m.1++[Aa "by",nT m.2]))]
mutual
def cG:Nat->Stm->List (Nat×List Str)
 |d,.set x s=>[(d,tkL (.set x s))]
 |d,.any x=>[(d,tkL (.any x))]
 |d,.note rs=>[(d,tkL (.note rs))]
 |d,.choose a b=>(d,tkO .choose)::(aY (d+1) a++((d,[Aa "or"])::(aY (d+1) b++[(d,[Aa "end"])])))
 |d,.ite r a b=>(d,tkO (.ite r))::(aY (d+1) a++((d,[Aa "else"])::(aY (d+1) b++[(d,[Aa "end"])])))
 |d,.whl r rs m b=>(d,tkO (.whl r))::(tkK (d+1) rs++(tkF (d+1) m++(aY (d+1) b++[(d,[Aa "end"])])))
def aY:Nat->List Stm->List (Nat×List Str)
 |_,[]=>[]
 |d,s::r=>cG d s++aY d r
end
abbrev LnT:=Nat×List Str
def lnT(x:LnT):Str:=ind x.1++jn x.2
theorem UL:Aa "set "=Aa "set"++spc:=by lia
theorem UM:Aa "any "=Aa "any"++spc:=by lia
theorem PZ:Aa "note "=Aa "note"++spc:=by lia
theorem WJ:Aa " = "=spc++Aa "="++spc:=by lia
theorem WK:Aa "if "=Aa "if"++spc:=by lia
theorem KK:Aa "while "=Aa "while"++spc:=by lia
theorem QA:Aa "keep "=Aa "keep"++spc:=by lia
theorem QB:Aa "fall "=Aa "fall"++spc:=by lia
theorem WL:Aa " by "=spc++Aa "by"++spc:=by lia
theorem KL:Aa "given "=Aa "given"++spc:=by lia
theorem sG(h:RdL s):fS s=jn (tkL s):=by
 cases s with
 |set x s =>
  show Aa "set "++x++Aa " = "++jY s=jn (Aa "set":: x::Aa "=":: tkS s)
  rw[bI _ (by simp),bI _ (by simp),bI _ (rZ s),yN,UL,WJ]
  simp only[fA]
 |any x =>
  show Aa "any "++x=jn [Aa "any",x]
  rw[bI _ (by simp),fN,UM]
 |note rs =>
  show Aa "note "++iO rs=jn (Aa "note":: dX rs)
  rw[bI _ (mQ h.1),oJ h.1,PZ]
 |choose a b=>exact h.elim
 |ite r a b=>exact h.elim
 |whl r rs m b=>exact h.elim
theorem KM(d:Nat)(rs:List Rw):(fD rs).map (λt=>ind d++t)=(tkK d rs).map lnT:=by
 unfold fD tkK
 by_cases h:rs=[]
 ·rw[if_pos h,if_pos h];rfl
 ·rw[if_neg h,if_neg h]
  show [ind d++(Aa "keep "++iO rs)]=[ind d++jn (Aa "keep":: dX rs)]
  rw[bI _ (mQ h),oJ h,QA]
theorem KN(d:Nat)(m:Option (Sm×Int)):(nX m).map (λt=>ind d++t)=(tkF d m).map lnT:=by
 cases m with
 |none=>rfl
 |some m =>
  show [ind d++(Aa "fall "++jY m.1++Aa " by "++nT m.2)]=[ind d++jn (Aa "fall":: (tkS m.1++[Aa "by",nT m.2]))]
  rw[bI _ (by simp),lC (by simp) (rZ _),bI _ (by simp),fN,yN,QB,WL]
  simp only[fA]
theorem yV(w I:Str)(e:I=w++spc)(r:Rw):I++bV r=jn (w::tkR r):=by
 rw[bI _ (wR r),rY,e]
mutual
theorem QC:∀(d:Nat) (s:Stm),cP s->lnS d s=(cG d s).map lnT
 |d,.set x s,h=>by simp only[cP]at h;simp only[lnS,cG,Au,Bq,lnT,sG h]
 |d,.any x,h=>by simp only[cP]at h;simp only[lnS,cG,Au,Bq,lnT,sG h]
 |d,.note rs,h=>by simp only[cP]at h;simp only[lnS,cG,Au,Bq,lnT,sG h]
 |d,.choose a b,h=>by
  simp only[cP]at h
  have h1:=gY (d+1) a h.1
  have h2:=gY (d+1) b h.2.1
  simp only[lnS,cG,Au,Ai,Bq,h1,h2,lnT,tkO,fN]
 |d,.ite r a b,h=>by
  simp only[cP]at h
  have h1:=gY (d+1) a h.2.1
  have h2:=gY (d+1) b h.2.2.1
  simp only[lnS,cG,Au,Ai,Bq,h1,h2,lnT,tkO,fN,yV _ _ WK]
 |d,.whl r rs m b,h=>by
  simp only[cP]at h
  have h1:=gY (d+1) b h.2.2.2.1
  have e:(hdT rs m).map (λt=>ind (d+1)++t)=(tkK (d+1) rs).map lnT++(tkF (d+1) m).map lnT:=by
   unfold hdT;rw[Ai,KM,KN]
  simp only[lnS,cG,Au,Ai,Bq,h1,e,tkO,Az]
  simp only[lnT,fN,yV _ _ KK]
theorem gY:∀(d:Nat) (b:List Stm),dB b->lnB d b=(aY d b).map lnT
 |d,[],_=>by simp only[lnB,aY,Bq]
 |d,s::r,h=>by
  simp only[dB]at h
  simp only[lnB,aY,Ai,QC d s h.1,gY d r h.2]
end
def fQ(ss:List Str)(rs:List Rw):List LnT:=(0,Aa "plan":: ss)::(if rs=[] then [] else [(0,Aa "given":: dX rs)])
theorem GB(z:Str):ind 0++z=z:=jX (by show #[]++z.cps=z.cps;simp)
theorem uH(z:Str)(l:List Str):Txt.join z l=Es z l:=by
 show Builtin.Str.glued _ _=_
 rw[StrLaws.glued_eq_join]
theorem MF(ss:List Str)(rs:List Rw):hdP ss rs=(fQ ss rs).map lnT:=by
 unfold hdP fQ
 have e:Txt.join " " (Aa "plan":: ss)=lnT (0,Aa "plan":: ss):=by
  show Txt.join (Aa " ") _=_
  rw[uH,jC]
  exact (GB _).symm
 rw[e]
 by_cases h:rs=[]
 ·rw[if_pos h,if_pos h];rfl
 ·rw[if_neg h,if_neg h]
  show _::[_]=_::[ind 0++jn (Aa "given":: dX rs)]
  rw[GB,bI _ (mQ h),oJ h,KL]
theorem GC{os:List Str}(u:Up1 os)(I:os.length<=6)(h:Terms os ts):RdT ts:=#v[u.sub h.sub,h.wt,by have:=h.len;lia]
theorem oM{os:List Str}(u:Up1 os)(I:os.length<=6)(h:WfR os r):RdR r:=#v[GC u I h.ts,h.b]
theorem GD{os:List Str}(u:Up1 os)(I:os.length<=6)(h:WfS os s):RdS s:=#v[GC u I h.ts,h.w,h.pos,h.b]
mutual
theorem KO{os:List Str}(u:Up1 os)(I:os.length<=6):∀ s:Stm,wf os s->(tt s).s<=90->cP s
 |.set x s,h,_=>by simp only[wf]at h;simp only[cP];exact #v[u.lett _ h.1,GD u I h.2]
 |.any x,h,_=>by simp only[wf]at h;simp only[cP];exact u.lett _ h
 |.note rs,h,_=>by simp only[wf]at h;simp only[cP];exact #v[λz=>by rw[z]at h;have:=h.2.1;simp at this,h.2.2,λr hr=>oM u I (h.1 r hr)]
 |.choose a b,h,hs=>by
  simp only[wf]at h
  have hs:(tts a).s+(tts b).s+1<=90:=by simp only[tt]at hs;exact hs
  have h1:=cY a
  have h2:=cY b
  simp only[cP]
  exact #v[gE u I a h.1 (by lia),gE u I b h.2 (by lia),by lia,by lia]
 |.ite r a b,h,hs=>by
  simp only[wf]at h
  have hs:(tts a).s+(tts b).s+1<=90:=by simp only[tt]at hs;exact hs
  have h1:=cY a
  have h2:=cY b
  simp only[cP]
  exact #v[oM u I h.1,gE u I a h.2.1 (by lia),gE u I b h.2.2 (by lia),by lia,by lia]
 |.whl r rs m b,h,hs=>by
  simp only[wf]at h
  have hs:(tts b).s+1<=90:=by simp only[tt]at hs;exact hs
  have h2:=cY b
  simp only[cP]
  exists oM u I h.1,#v[h.2.2.1,λr hr=>oM u I (h.2.1 r hr)],λx hx=>?_,gE u I b h.2.2.2.2 (by lia),by lia
  have hm:=h.2.2.2.1
  rw[hx]at hm
  exact #v[GD u I hm.1,hm.2.1,hm.2.2.1]
theorem gE{os:List Str}(u:Up1 os)(I:os.length<=6):∀ b:List Stm,wfs os b->(tts b).s<=90->dB b
 |[],_,_=>by simp only[dB]
 |s::r,h,hs=>by
  simp only[wfs]at h
  have hs:(tt s).s+(tts r).s<=90:=by simp only[tts]at hs;exact hs
  simp only[dB]
  exact #v[KO u I s h.1 (by lia),gE u I r h.2 (by lia)]
end
structure RdPl(ss:List Str)(rs:List Rw)(b:List Stm):Prop where
 up:Up1 ss
 pos:1<=ss.length
 rs:pF rs
 bk:dB b
theorem KP(h:WfP p)(u:Up1 p.ss)(us:Up1 ss)(I:1<=ss.length):RdPl ss p.rs p.bl :=
 #v[us,I,#v[h.rl,λr hr=>oM u (by have:=h.names.le;lia) (h.rs r hr)],gE u (by have:=h.names.le;lia) p.bl h.bl (by have:=h.cs;lia)]
end KA
namespace D3
open PySem PySem.Spec PyProof.Rows L2
def AtM(K:Ad)(C:Addr)(m qual:Str)(st:Stmt):Prop:=∃(f:Addr) (od an:Option Addr) (sl:Array (Option Value)) (oc kV dc pm cd ct:Value),A6 K (.ref C) m=some (some (.ref f))/\K.lookup f=some #v[oc,od,.func (C1 m qual (eR st) (cI st) (aZ st) .none kV dc pm an cd ct),sl]/\Dd K cd qual=true/\B1 K (.ref f)=true/\Ff K (.ref f)=true
theorem AtM.mk{K:Ad}{C:Addr}{m Z:Str}{st:Stmt}{f:Addr}{L V:Option Addr}{Y:Array (Option Value)}{S O J I cd ct:Value}(a:A6 K (.ref C) m=some (some (.ref f)))(l:K.lookup f=some #v[S,L,.func (C1 m Z (eR st) (cI st) (aZ st) .none O J I V cd ct),Y])
  (c:Dd K cd Z=true)(k:B1 K (.ref f)=true)(i:Ff K (.ref f)=true):AtM K C m Z st:=#v[f,L,V,Y,S,O,J,I,cd,ct,a,l,c,k,i]
theorem AtM.get{K:Ad}{C:Addr}{m Z:Str}{st:Stmt}(A:AtM K C m Z st):∃ f fd,Fun K m Z st f fd/\Meth K C m f:=by
 let ⟨f,L,V,Y,S,O,J,I,cd,ct,a,l,c,k,i⟩:=A
 exact #v[f,_,vP (st:=st) l c k,a,i,k]
structure ClsI(K:Ad)(x:Str)(C:Addr):Prop where
 ns:Bn K mainGlobals x=some (some (.ref C))
 cls:Cls K C
 makes:E8 K C=true
 kp:B1 K (.ref C)=true
theorem ClsI.mk'{K:Ad}{x:Str}{C:Addr}(a:Bn K mainGlobals x=some (some (.ref C)))(L:D8 K C Str.empty=true)(hd:Et K C=true)(I:Fq K C=true)
  (J:A6 K (.ref C) "__setattr__"=some (some (.builtin "object.__setattr__")))(m:E8 K C=true)(k:B1 K (.ref C)=true):ClsI K x C:=#v[a,#v[L,hd,I,J],m,k]
theorem ClsI.mk_{K:Ad}{x:Str}{C f:Addr}(c:ClsI K x C)(m:Meth K C "__init__" f):Mk K C f:=#v[c.makes,m.at_,m.fn,c.kp]
end D3
namespace KA
open PySem PySem.Spec PyProof.Rows L2 D3 K01
inductive Kd where
 |ch1|ch2(a:List Stm)|if1(r:Rw)|if2(r:Rw)(a:List Stm)|wh(r:Rw)(rs:List Rw)(m:Option (Sm×Int))
inductive OB where
 |done(b:List Stm)|opn(b:List Stm)(k:Kd)(i:OB)
def hdK(d:Nat):Kd->List LnT
 |.ch1=>[(d,tkO .choose)]
 |.ch2 a=>(d,tkO .choose)::(aY (d+1) a++[(d,[Aa "or"])])
 |.if1 r=>[(d,tkO (.ite r))]
 |.if2 r a=>(d,tkO (.ite r))::(aY (d+1) a++[(d,[Aa "else"])])
 |.wh r rs m=>(d,tkO (.whl r))::(tkK (d+1) rs++tkF (d+1) m)
def lfK:Kd->List Str
 |.ch1=>[Aa "or",Aa "end"]
 |.if1 _=>[Aa "else",Aa "end"]
 |_=>[Aa "end"]
def stK:Kd->List Stm->Stm
 |.ch1,b=>.choose b []
 |.ch2 a,b=>.choose a b
 |.if1 r,b=>.ite r b []
 |.if2 r a,b=>.ite r a b
 |.wh r rs m,b=>.whl r rs m b
def clW(d:Nat)(l:List Str):List LnT:=l.map λw=>(d,[w])
def cB:Nat->OB->List LnT
 |d,.done b=>aY d b
 |d,.opn b k i=>aY d b++(hdK d k++cB (d+1) i)
def eJ:OB->List (List Str)
 |.done _=>[]
 |.opn _ k i=>lfK k::eJ i
def czL:Nat->List (List Str)->List LnT
 |_,[]=>[]
 |d,l::r=>czL (d+1) r++clW d l
def bY:OB->List Stm
 |.done b=>b
 |.opn b k i=>b++[stK k (bY i)]
theorem uI(d:Nat):∀ a b:List Stm,aY d (a++b)=aY d a++aY d b
 |[],b=>by simp only[aY,A2]
 |s::r,b=>by simp only[A3,aY,uI d r b,Az]
theorem GE(d:Nat)(s:Stm):aY d [s]=cG d s:=by simp only[aY,A7]
theorem QD(d:Nat)(k:Kd)(b:List Stm):cG d (stK k b)=hdK d k++(aY (d+1) b++clW d (lfK k)):=by
 cases k<;>simp[stK,cG,hdK,lfK,clW,aY]
theorem GF:∀(o:OB) (d:Nat),aY d (bY o)=cB d o++czL d (eJ o)
 |.done b,d=>by simp[bY,cB,eJ,czL]
 |.opn b k i,d=>by
  simp only[bY,cB,eJ,czL,uI,GE,QD,GF i (d+1),Az]
structure Lss(o:OB)(b:List Stm):Prop where
 rd:dB b->dB (bY o)
 gd:gdB b->gdB (bY o)
 dp:dps (bY o)<=dps b
 s:(tts (bY o)).s<=(tts b).s
 bl:(bY o).length<=b.length
def qP(s:Stm):OB->OB
 |.done b=>.done (s::b)
 |.opn b k i=>.opn (s::b) k i
theorem GG(d:Nat)(s:Stm)(o:OB):cB d (qP s o)=cG d s++cB d o:=by
 cases o<;>simp only[qP,cB,aY,Az]
theorem gZ(s:Stm)(o:OB):bY (qP s o)=s::bY o:=by
 cases o<;>simp only[qP,bY,A3]
theorem Lss.cons{o:OB}{b:List Stm}(s:Stm)(h:Lss o b):Lss (qP s o) (s::b):=by
 exists λr=>?_,λr=>?_,?_,?_,?_
 ·rw[gZ];simp only[dB]at r ⊢;exact #v[r.1,h.rd r.2]
 ·rw[gZ];simp only[gdB]at r ⊢;exact #v[r.1,h.gd r.2]
 ·rw[gZ];simp only[dps];have:=h.dp;lia
 ·rw[gZ];simp only[tts];have:=h.s;show (tt s).s+_<=(tt s).s+_;lia
 ·rw[gZ];simp only[Ah];have:=h.bl;lia
theorem Lss.self(b:List Stm):Lss (.done b) b:=#v[id,id,Ao _,Ao _,Ao _]
theorem Lss.nil(b:List Stm):Lss (.done []) b:=#v[λ_=>by simp only[bY,dB],λ_=>by simp only[bY,gdB],by simp[bY,dps],by simp[bY,tts],by simp[bY]]
theorem Lss.more{o:OB}{s:Stm}(r:List Stm)(h:Lss o [s]):Lss o (s::r):=by
 exists λx=>h.rd ?_,λx=>h.gd ?_,?_,?_,?_
 ·simp only[dB]at x ⊢;exact #v[x.1,trivial]
 ·simp only[gdB]at x ⊢;exact #v[x.1,trivial]
 ·have:=h.dp;simp only[dps]at this ⊢;lia
 ·have:=h.s;simp only[tts]at this ⊢;have:_<=(tt s).s+0:=this;show _<=(tt s).s+(tts r).s;lia
 ·have:=h.bl;simp only[Ah,B6]at this ⊢;lia
theorem Lss.opn{k:Kd}{i:OB}{s:Stm}(J:cP s->cP (stK k (bY i)))(I:gdS s->gdS (stK k (bY i)))(hd:KA.dp (stK k (bY i))<=KA.dp s)(hs:(tt (stK k (bY i))).s<=(tt s).s):Lss (.opn [] k i) [s]:=by
 exists λr=>?_,λr=>?_,?_,?_,?_
 ·simp only[bY,A2,dB]at r ⊢;exact #v[J r.1,trivial]
 ·simp only[bY,A2,gdB]at r ⊢;exact #v[I r.1,trivial]
 ·simp only[bY,A2,dps];lia
 ·simp only[bY,A2,tts];show _+0<=_+0;lia
 ·simp[bY]
theorem take_two{α:Type}(x y z:α)(A C:List α)(k:Nat):(x::(A++(y::(C++[z])))).take k=[]\/(∃ j,(x::(A++(y::(C++[z])))).take k=x::A.take j)\/(∃ j,(x::(A++(y::(C++[z])))).take k=x::(A++(y::C.take j)))\/(x::(A++(y::(C++[z])))).take k=x::(A++(y::(C++[z]))):=by
 cases k with
 |zero=>exact .inl rfl
 |succ k =>
  right
  rw[B8]
  by_cases h:k<=A.length
  ·left;exact #v[k,by rw[Cc h]]
  ·right
   rw[Ey,Bb (by lia)]
   obtain ⟨j,hj⟩:∃ j,k-A.length=j+1:=#v[k-A.length-1,by lia]
   rw[hj,B8]
   by_cases h2:j<=C.length
   ·left;exact #v[j,by rw[Cc h2]]
   ·right;rw[Bb (by simp;lia)]
theorem take_thr{α:Type}(x z:α)(K F C:List α)(k:Nat):(x::(K++(F++(C++[z])))).take k=[]\/(∃ j,(x::(K++(F++(C++[z])))).take k=x::K.take j)\/(∃ j,(x::(K++(F++(C++[z])))).take k=x::(K++F.take j))\/(∃ j,(x::(K++(F++(C++[z])))).take k=x::(K++(F++C.take j)))\/(x::(K++(F++(C++[z])))).take k=x::(K++(F++(C++[z]))):=by
 cases k with
 |zero=>exact .inl rfl
 |succ k =>
  right
  rw[B8]
  by_cases h:k<=K.length
  ·left;exact #v[k,by rw[Cc h]]
  ·right
   rw[Ey,Bb (by lia)]
   generalize k-K.length=j
   by_cases h2:j<=F.length
   ·left;exact #v[j,by rw[Cc h2]]
   ·right
    rw[Ey,Bb (by lia)]
    generalize j-F.length=i
    by_cases h3:i<=C.length
    ·left;exact #v[i,by rw[Cc h3]]
    ·right;rw[Bb (by simp;lia)]
theorem QE(d:Nat)(rs:List Rw)(j:Nat):∃ rs',(tkK d rs).take j=tkK d rs'/\(rs'=[]\/rs'=rs):=by
 cases j with
 |zero=>exact #v[[],by simp[tkK],.inl rfl]
 |succ j=>exact #v[rs,Bb (by unfold tkK;split<;>simp),.inr rfl]
theorem QF(d:Nat)(m:Option (Sm×Int))(j:Nat):∃ m',(tkF d m).take j=tkF d m'/\(m'=none\/m'=m):=by
 cases j with
 |zero=>exact #v[none,by simp[tkF],.inl rfl]
 |succ j=>exact #v[m,Bb (by cases m<;>simp[tkF]),.inr rfl]
theorem Lss.whl(h:Lss i b)(h1:rs'=[]\/rs'=rs)(h2:m'=none\/m'=m):Lss (.opn [] (.wh r rs' m') i) [.whl r rs m b]:=by
 refine .opn (λx=>?_) (λx=>?_) ?_ ?_
 ·simp only[cP,stK]at x ⊢
  exists x.1,?_,?_,h.rd x.2.2.2.1,Ay h.bl x.2.2.2.2
  ·rcases h1 with rfl|rfl
   ·exact #v[by simp,λr hr=>by cases hr]
   ·exact x.2.1
  ·rcases h2 with rfl|rfl
   ·exact λy hy=>by cases hy
   ·exact x.2.2.1
 ·simp only[gdS,stK,HOk]at x ⊢
  exists #v[x.1.1,?_,?_,Ay h.bl x.1.2.2.2],h.gd x.2
  ·rcases h1 with rfl|rfl
   ·exact #v[λr hr=>(by cases hr),by simp]
   ·exact x.1.2.1
  ·rcases h2 with rfl|rfl
   ·exact λy hy=>by cases hy
   ·exact x.1.2.2.1
 ·simp only[KA.dp,stK];have:=h.dp;lia
 ·simp only[tt,stK];have:=h.s;show _+1<=_+1;lia
mutual
theorem UN:∀(s:Stm) (d k:Nat),∃ o,(cG d s).take k=cB d o/\Lss o [s]
 |.set x s,d,k=>by
  cases k with
  |zero=>exact #v[.done [],by simp[cB,aY],.nil _]
  |succ k=>exact #v[.done [.set x s],by simp[cB,aY,cG],.self _]
 |.any x,d,k=>by
  cases k with
  |zero=>exact #v[.done [],by simp[cB,aY],.nil _]
  |succ k=>exact #v[.done [.any x],by simp[cB,aY,cG],.self _]
 |.note x,d,k=>by
  cases k with
  |zero=>exact #v[.done [],by simp[cB,aY],.nil _]
  |succ k=>exact #v[.done [.note x],by simp[cB,aY,cG],.self _]
 |.choose a b,d,k=>by
  simp only[cG]
  rcases take_two (d,tkO .choose) (d,[Aa "or"]) (d,[Aa "end"]) (aY (d+1) a) (aY (d+1) b) k with e|⟨j,e⟩|⟨j,e⟩|e<;>rw[e]
  ·exact #v[.done [],by simp[cB,aY],.nil _]
  ·let ⟨i,e1,h⟩:=lV a (d+1) j
   exists .opn [] .ch1 i,by simp[cB,aY,hdK,e1],.opn (λx=>?_) (λx=>?_) ?_ ?_
   ·simp only[cP,stK,dB]at x ⊢;exact #v[h.rd x.1,trivial,Ay h.bl x.2.2.1,by simp]
   ·simp only[gdS,stK,gdB,HOk]at x ⊢;exact #v[#v[Ay h.bl x.1.1,by simp],h.gd x.2.1,trivial]
   ·simp only[dp,stK,dps];have:=h.dp;lia
   ·simp only[tt,stK,tts];have:=h.s;show _+0+1<=_+_+1;lia
  ·let ⟨i,e1,h⟩:=lV b (d+1) j
   exists .opn [] (.ch2 a) i,by simp[cB,aY,hdK,e1],.opn (λx=>?_) (λx=>?_) ?_ ?_
   ·simp only[cP,stK]at x ⊢;exact #v[x.1,h.rd x.2.1,x.2.2.1,Ay h.bl x.2.2.2]
   ·simp only[gdS,stK,HOk]at x ⊢;exact #v[#v[x.1.1,Ay h.bl x.1.2],x.2.1,h.gd x.2.2]
   ·simp only[dp,stK];have:=h.dp;lia
   ·simp only[tt,stK];have:=h.s;show _+_+1<=_+_+1;lia
  ·exact #v[.done [.choose a b],by simp[cB,aY,cG],.self _]
 |.ite r a b,d,k=>by
  simp only[cG]
  rcases take_two (d,tkO (.ite r)) (d,[Aa "else"]) (d,[Aa "end"]) (aY (d+1) a) (aY (d+1) b) k with e|⟨j,e⟩|⟨j,e⟩|e<;>rw[e]
  ·exact #v[.done [],by simp[cB,aY],.nil _]
  ·let ⟨i,e1,h⟩:=lV a (d+1) j
   exists .opn [] (.if1 r) i,by simp[cB,aY,hdK,e1],.opn (λx=>?_) (λx=>?_) ?_ ?_
   ·simp only[cP,stK,dB]at x ⊢;exact #v[x.1,h.rd x.2.1,trivial,Ay h.bl x.2.2.2.1,by simp]
   ·simp only[gdS,stK,gdB,HOk]at x ⊢;exact #v[#v[x.1.1,Ay h.bl x.1.2.1,by simp],h.gd x.2.1,trivial]
   ·simp only[dp,stK,dps];have:=h.dp;lia
   ·simp only[tt,stK,tts];have:=h.s;show _+0+1<=_+_+1;lia
  ·let ⟨i,e1,h⟩:=lV b (d+1) j
   exists .opn [] (.if2 r a) i,by simp[cB,aY,hdK,e1],.opn (λx=>?_) (λx=>?_) ?_ ?_
   ·simp only[cP,stK]at x ⊢;exact #v[x.1,x.2.1,h.rd x.2.2.1,x.2.2.2.1,Ay h.bl x.2.2.2.2]
   ·simp only[gdS,stK,HOk]at x ⊢;exact #v[#v[x.1.1,x.1.2.1,Ay h.bl x.1.2.2],x.2.1,h.gd x.2.2]
   ·simp only[dp,stK];have:=h.dp;lia
   ·simp only[tt,stK];have:=h.s;show _+_+1<=_+_+1;lia
  ·exact #v[.done [.ite r a b],by simp[cB,aY,cG],.self _]
 |.whl r rs m b,d,k=>by
  simp only[cG]
  rcases take_thr (d,tkO (.whl r)) (d,[Aa "end"]) (tkK (d+1) rs) (tkF (d+1) m) (aY (d+1) b) k with e|⟨j,e⟩|⟨j,e⟩|⟨j,e⟩|e<;>rw[e]
  ·exact #v[.done [],by simp[cB,aY],.nil _]
  ·let ⟨rs',e1,h1⟩:=QE (d+1) rs j
   exact #v[.opn [] (.wh r rs' none) (.done []),by simp[cB,aY,hdK,e1,tkF],.whl (.nil _) h1 (.inl rfl)]
  ·let ⟨I,e1,h1⟩:=QF (d+1) m j
   exact #v[.opn [] (.wh r rs I) (.done []),by simp[cB,aY,hdK,e1],.whl (.nil _) (.inr rfl) h1]
  ·let ⟨i,e1,h⟩:=lV b (d+1) j
   exact #v[.opn [] (.wh r rs m) i,by simp[cB,aY,hdK,e1],.whl h (.inr rfl) (.inr rfl)]
  ·exact #v[.done [.whl r rs m b],by simp[cB,aY,cG],.self _]
theorem lV:∀(b:List Stm) (d k:Nat),∃ o,(aY d b).take k=cB d o/\Lss o b
 |[],d,k=>#v[.done [],by simp[cB,aY],.self _]
 |s::r,d,k=>by
  simp only[aY]
  by_cases h:k<=(cG d s).length
  ·let ⟨o,e,h1⟩:=UN s d k
   exact #v[o,by rw[Cc h,e],h1.more r]
  ·let ⟨o,e,h1⟩:=lV r d (k-(cG d s).length)
   exact #v[qP s o,by rw[Ey,Bb (by lia),e,GG],h1.cons s]
end
theorem UO(ss:List Str)(rs:List Rw)(b:List Stm)(k:Nat):∃ rs' o,(fQ ss rs++aY 0 b).take (k+1)=fQ ss rs'++cB 0 o/\(rs'=[]\/rs'=rs)/\Lss o b:=by
 unfold fQ
 by_cases h:rs=[]
 ·let ⟨o,e,h1⟩:=lV b 0 k
  exists [],o,?_,.inl rfl,h1
  rw[if_pos h,if_pos rfl,A3,B8,A2,e];rfl
 ·cases k with
  |zero =>
   exists [],.done [],?_,.inl rfl,.nil _
   rw[if_pos rfl,A3,B8,Fg];simp[cB,aY]
  |succ k =>
   let ⟨o,e,h1⟩:=lV b 0 k
   exists rs,o,?_,.inr rfl,h1
   rw[if_neg h,A3,B8,A3,B8,A2,e];rfl
theorem Lss.sh(h:Lss o b)(h1:rs'=[]\/rs'=rs)(k:ShOk ss rs b):ShOk ss rs' (bY o):=by
 exists k.len,k.one,?_,h.gd k.gd,Ay h.dp k.dp,Ay h.s k.s,Ay h.bl k.bl
 rcases h1 with rfl|rfl
 ·exact #v[λr hr=>(by cases hr),by simp]
 ·exact k.rs
theorem Lss.pl(h:Lss o b)(h1:rs'=[]\/rs'=rs)(k:RdPl ss rs b):RdPl ss rs' (bY o):=by
 exists k.up,k.pos,?_,h.rd k.bk
 rcases h1 with rfl|rfl
 ·exact #v[by simp,λr hr=>by cases hr]
 ·exact k.rs
def wdT(x:LnT):Str:=x.2.headD (Aa "")
def opW(w:Str):Option (List Str) :=
 if w=Aa "choose" then some [Aa "or",Aa "end"]
 else if w=Aa "if" then some [Aa "else",Aa "end"]
 else if w=Aa "while" then some [Aa "end"] else none
def kH(L:List (List Str))(l:List Str):List (List Str):=if l.drop 1=[] then L else L++[l.drop 1]
def cR(L:List (List Str))(w:Str):List (List Str) :=
 match opW w with
 |some l=>L++[l]
 |none=>match L.getLast? with
  |some l=>if l.head?=some w then kH L.dropLast l else L
  |none=>L
def iP:List Str:=[Aa "or",Aa "else",Aa "end"]
def LfOk(L:List (List Str)):Prop:=∀ l∈L,∃ w r,l=w::r/\w∈iP
theorem LfOk.snoc(h:LfOk L)(hw:w∈iP):LfOk (L++[w::r]):=λl hl=>by
 rcases Aq.mp hl with z|z
 ·exact h l z
 ·exact #v[w,r,Al.mp z,hw]
theorem qQ:∀ w∈[Aa "plan",Aa "given",Aa "set",Aa "any",Aa "note",Aa "keep",Aa "fall"],opW w=none/\¬ w∈iP:=by lia
theorem GH:∀ w∈iP,opW w=none:=by lia
theorem sH:opW (Aa "choose")=some [Aa "or",Aa "end"]:=by lia
theorem sI:opW (Aa "if")=some [Aa "else",Aa "end"]:=by lia
theorem wU:opW (Aa "while")=some [Aa "end"]:=by lia
theorem wV(h:LfOk L)(h1:opW w=none)(h2:¬ w∈iP):cR L w=L:=by
 unfold cR
 rw[h1]
 cases e:L.getLast? with
 |none=>rfl
 |some l =>
  let ⟨I,r,rfl,hw⟩:=h l (List.mem_of_getLast? e)
  show (if (I::r).head?=some w then _ else L)=L
  rw[if_neg (λz=>h2 (by cases z;exact hw))]
theorem fL(h:LfOk L)(hw:w∈[Aa "plan",Aa "given",Aa "set",Aa "any",Aa "note",Aa "keep",Aa "fall"]):cR L w=L:=wV h (qQ w hw).1 (qQ w hw).2
theorem cQ(h:opW w=some l):cR L w=L++[l]:=by
 unfold cR
 rw[h]
theorem dE(hw:w∈iP):cR (L++[w::r]) w=kH L (w::r):=by
 unfold cR
 rw[GH w hw,List.getLast?_concat]
 show (if (w::r).head?=some w then kH (L++[w::r]).dropLast (w::r) else _)=_
 rw[if_pos (show (w::r).head?=some w from rfl),E3]
theorem BF:Aa "or"∈iP:=.head _
theorem lF:Aa "else"∈iP:=.tail _ (.head _)
theorem fM:Aa "end"∈iP:=.tail _ (.tail _ (.head _))
theorem iJ:kH L (a::b::r)=L++[b::r]:=by
 unfold kH;rw[if_neg (by simp)];rfl
theorem kI:kH L [a]=L:=by
 unfold kH;rw[if_pos (show [a].drop 1=[] from rfl)]
def fldW(L:List (List Str))(ls:List LnT):List (List Str):=(ls.map wdT).foldl cR L
theorem cV(L:List (List Str))(a b:List LnT):fldW L (a++b)=fldW (fldW L a) b:=by unfold fldW;rw[Ai,Er]
theorem cM(L:List (List Str))(x:LnT)(b:List LnT):fldW L (x::b)=fldW (cR L (wdT x)) b:=rfl
theorem fF(L:List (List Str)):fldW L []=L:=rfl
theorem MG(h:LfOk L)(d:Nat)(rs:List Rw):fldW L (tkK d rs)=L:=by
 unfold tkK
 split
 ·rfl
 ·exact fL h (.tail _ (.tail _ (.tail _ (.tail _ (.tail _ (.head _))))))
theorem MI(h:LfOk L)(d:Nat)(m:Option (Sm×Int)):fldW L (tkF d m)=L:=by
 cases m with
 |none=>rfl
 |some m=>exact fL h (.tail _ (.tail _ (.tail _ (.tail _ (.tail _ (.tail _ (.head _)))))))
theorem w_O(d:Nat):wdT (d,tkO .choose)=Aa "choose":= rfl
theorem w_I(d:Nat)(r:Rw):wdT (d,tkO (.ite r))=Aa "if":= rfl
theorem w_W(d:Nat)(r:Rw):wdT (d,tkO (.whl r))=Aa "while":= rfl
theorem w_1(d:Nat)(w:Str):wdT (d,[w])=w:=rfl
mutual
theorem UP:∀(s:Stm) (d:Nat) (L:List (List Str)),LfOk L->fldW L (cG d s)=L
 |.set x s,d,L,h=>by simp only[cG];exact fL h (.tail _ (.tail _ (.head _)))
 |.any x,d,L,h=>by simp only[cG];exact fL h (.tail _ (.tail _ (.tail _ (.head _))))
 |.note rs,d,L,h=>by simp only[cG];exact fL h (.tail _ (.tail _ (.tail _ (.tail _ (.head _)))))
 |.choose a b,d,L,h=>by
  simp only[cG,cM,cV,w_O,w_1,fF]
  rw[cQ sH,iQ a (d+1) _ (h.snoc BF),dE BF,iJ,iQ b (d+1) _ (h.snoc fM),dE fM,kI]
 |.ite r a b,d,L,h=>by
  simp only[cG,cM,cV,w_I,w_1,fF]
  rw[cQ sI,iQ a (d+1) _ (h.snoc lF),dE lF,iJ,iQ b (d+1) _ (h.snoc fM),dE fM,kI]
 |.whl r rs m b,d,L,h=>by
  simp only[cG,cM,cV,w_W,w_1,fF]
  rw[cQ wU,MG (h.snoc fM),MI (h.snoc fM),iQ b (d+1) _ (h.snoc fM),dE fM,kI]
theorem iQ:∀(b:List Stm) (d:Nat) (L:List (List Str)),LfOk L->fldW L (aY d b)=L
 |[],d,L,h=>by simp only[aY,fF]
 |s::r,d,L,h=>by simp only[aY,cV,UP s d L h];exact iQ r d L h
end
theorem GI(k:Kd):∃ w r,lfK k=w::r/\w∈iP:=by
 cases k
 ·exact #v[_,_,rfl,BF]
 ·exact #v[_,_,rfl,fM]
 ·exact #v[_,_,rfl,lF]
 ·exact #v[_,_,rfl,fM]
 ·exact #v[_,_,rfl,fM]
theorem UQ(h:LfOk L)(d:Nat)(k:Kd):fldW L (hdK d k)=L++[lfK k]:=by
 cases k with
 |ch1=>exact cQ sH
 |ch2 a =>
  simp only[hdK,cM,cV,w_O,w_1,fF]
  rw[cQ sH,iQ a (d+1) _ (h.snoc BF),dE BF,iJ];rfl
 |if1 r=>exact cQ sI
 |if2 r a =>
  simp only[hdK,cM,cV,w_I,w_1,fF]
  rw[cQ sI,iQ a (d+1) _ (h.snoc lF),dE lF,iJ];rfl
 |wh r rs m =>
  simp only[hdK,cM,cV,w_W]
  rw[cQ wU,MG (h.snoc fM),MI (h.snoc fM)];rfl
theorem GJ:∀(o:OB) (d:Nat) (L:List (List Str)),LfOk L->fldW L (cB d o)=L++eJ o
 |.done b,d,L,h=>by simp only[cB,eJ,A7];exact iQ b d L h
 |.opn b k i,d,L,h=>by
  let ⟨w,r,e,hw⟩:=GI k
  simp only[cB,eJ,cV]
  rw[iQ b d L h,UQ h,GJ i (d+1) _ (by rw[e];exact h.snoc hw),Az];rfl
theorem yW:∀ o:OB,LfOk (eJ o)
 |.done b=>λl hl=>by cases hl
 |.opn b k i=>λl hl=>by
  rcases Am.mp hl with rfl|hl
  ·exact GI k
  ·exact yW i l hl
theorem LfOk.nil:LfOk []:=λl hl=>by cases hl
theorem UR(ss:List Str)(rs:List Rw)(o:OB):fldW [] (fQ ss rs++cB 0 o)=eJ o:=by
 have e:fldW [] (fQ ss rs)=[]:=by
  unfold fQ
  rw[cM]
  have e1:cR [] (wdT (0,Aa "plan":: ss))=[]:=fL .nil (.head _)
  rw[e1]
  split
  ·rfl
  ·exact fL .nil (.tail _ (.head _))
 rw[cV,e,GJ o 0 [] .nil];rfl
def lf3:List (List Str):=[[Aa "or",Aa "end"],[Aa "else",Aa "end"],[Aa "end"]]
def Lf3(L:List (List Str)):Prop:=∀ l∈L,l∈lf3
theorem Lf3.ok(h:Lf3 L):LfOk L:=λl hl=>by
 have:=h l hl
 simp only[lf3,Am,Bi,or_false]at this
 rcases this with rfl|rfl|rfl
 ·exact #v[_,_,rfl,BF]
 ·exact #v[_,_,rfl,lF]
 ·exact #v[_,_,rfl,fM]
theorem Lf3.snoc(h:Lf3 L)(hl:l∈lf3):Lf3 (L++[l]):=λx hx=>by
 rcases Aq.mp hx with z|z
 ·exact h x z
 ·rw[Al.mp z];exact hl
theorem QG(h:opW w=some l):l∈lf3:=by
 unfold opW at h
 split at h
 ·cases h;exact .head _
 ·split at h
  ·cases h;exact .tail _ (.head _)
  ·split at h
   ·cases h;exact .tail _ (.tail _ (.head _))
   ·cases h
theorem Lf3.pop(h:Lf3 L)(hl:l∈lf3):Lf3 (kH L l):=by
 simp only[lf3,Am,Bi,or_false]at hl
 rcases hl with rfl|rfl|rfl
 ·rw[iJ];exact h.snoc (.tail _ (.tail _ (.head _)))
 ·rw[iJ];exact h.snoc (.tail _ (.tail _ (.head _)))
 ·rw[kI];exact h
theorem Lf3.step(h:Lf3 L)(w:Str):Lf3 (cR L w):=by
 unfold cR
 cases e:opW w with
 |some l=>exact h.snoc (QG e)
 |none =>
  cases e2:L.getLast? with
  |none=>exact h
  |some l =>
   show Lf3 (if l.head?=some w then kH L.dropLast l else L)
   split
   ·exact Lf3.pop (λx hx=>h x ((List.dropLast_sublist L).subset hx)) (h l (List.mem_of_getLast? e2))
   ·exact h
theorem GK(L:List (List Str))(l:List Str):(kH L l).length<=L.length+1:=by unfold kH;split<;>simp
theorem GL(L:List (List Str))(w:Str):(cR L w).length<=L.length+1:=by
 unfold cR
 cases e:opW w with
 |some l=>simp
 |none =>
  cases e2:L.getLast? with
  |none=>simp
  |some l =>
   show (if l.head?=some w then kH L.dropLast l else L).length<=_
   split
   ·have:=GK L.dropLast l;rw[List.length_dropLast]at this;lia
   ·simp
theorem uJ:∀(L:List (List Str)) (d k:Nat) (l:List Str),L[k]?=some l->czL (d+k) (L.drop k)=czL (d+(k+1)) (L.drop (k+1))++clW (d+k) l
 |[],d,k,l,h=>by simp at h
 |x::L,d,0,l,h=>by simp at h;subst h;simp[czL]
 |x::L,d,k+1,l,h=>by
  have:=uJ L (d+1) k l (by simpa using h)
  simp only[C7]
  rw[show d+(k+1)=d+1+k from by lia,this,show d+1+(k+1)=d+(k+1+1) from by lia]
theorem KQ(h:LfOk L)(d:Nat)(e:czL d L=[]):L=[]:=by
 cases L with
 |nil=>rfl
 |cons l r =>
  let ⟨w,q,rfl,_⟩:=h l (Aj ..)
  simp[czL,clW]at e
theorem GM:∀{o:OB},eJ o=[]->∃ b,o=.done b
 |.done b,_=>#v[b,rfl]
 |.opn b k i,h=>by simp[eJ]at h
end KA
namespace D3
open PySem PySem.Spec PyProof.Rows L2
def QH:V->List V->Hp->VK->Prop:=λx vs H Q=>∃ z,x=.str z/\vs=[]/\z.length<=An/\Q (.str (Txt.strip z)) H
theorem GN:MtR X "str.strip" QH:=by
 intro J s σ H x vs v us Q I L O h
 let ⟨z,rfl,rfl,S,q⟩:=h
 let ⟨t,rfl⟩:=(show ∃ t,v=Value.str z t from L)
 cases O
 exact SC.strip (λt' k=>#v[.str _,H,I.tok _,#v[_,rfl],q]) S
theorem GO(h:EV X G M o λd M1=>∃ z,d=.str z/\z.length<=An/\Q (.str (Txt.strip z)) M1)
  (I:attributeBase o "strip" X.env (eval o X.env)=eval o X.env)(J:(apos.endLine == cpos.line)=true):EV X G M (.Call (.Attribute o "strip" apos) [] [] cpos) Q:=by
 refine EV.of (vM PySem.F.plainAttrs_str PySem.F.slot_str_strip PySem.F.type_str_strip GN (fY (G:=G)) I J) λσ H kf R=>?_
 exists M,_,R,h,λv H' d M' S g i L q=>?_
 let ⟨z,rfl,O,q⟩:=q
 rw[aR]at i;subst i
 exact #v[rfl,z,rfl,rfl,O,λ_=>#v[g,_,M',aR.mpr rfl,L.mem,q]]
theorem lY{prog:Program}{w:World}{A:Around}{E:Value->Shared->Prop}{s:Shared}{l:Addr}{vs:List Value}{ys:List Str}{k:Str}{t:Tok}{j:Nat}{Q:Value->Shared->Prop}
  (hl:s.heap.IsList l vs.toArray)(Y:StrsAre vs ys)(hj:ys[j]?=some k)(Z:∀ m<j,ys[m]?≠some k)(hs:(j:Int)<2^63-1)
  (h:Q (.int j s.toks) { s with toks:=s.toks+1 }):wpAny (model prog w) A (call (.builtin "list.index") [.ref l,.str k t]) Q E s:=by
 let ⟨⟨cls,dd,data,sl⟩,S,V,n,hd⟩:=id hl
 simp only at V hd
 subst V hd
 have at_:∀(m:Nat) (hm:m<vs.toArray.size),∃ x u,vs.toArray[m]=.str x u/\ys[m]?=some x:=by
  intro m hm
  have:∀{vs:List Value} {ys:List Str},StrsAre vs ys->∀(m:Nat) (hm:m<vs.length),∃ x u,vs[m]=.str x u/\ys[m]?=some x:=by
   intro vs ys h
   induction h with
   |nil=>intro m hm;simp at hm
   |cons x u _ O =>
    intro m hm
    cases m with
    |zero=>exact #v[_,_,rfl,rfl]
    |succ m=>exact O m (by simpa using hm)
  exact this Y m (by simpa using hm)
 have J:vs.toArray.size=ys.length:=by
  have:∀{vs:List Value} {ys:List Str},StrsAre vs ys->vs.length=ys.length:=by
   intro vs ys h
   induction h with
   |nil=>rfl
   |cons x u _ O=>simp[O]
  simpa using this Y
 have I:j<vs.toArray.size:=by rw[J];exact (Ax.mp hj).1
 refine call_meets PySem.F.slot_list_index #v[_,S,rfl] PySem.F.entry_list_index (PySem.F.args_list_index_2 _ _) (PySem.SeqAt.list_indexAt l vs.toArray n dd sl (.str k t) (isStrOf k) j I hs ?_ ?_) #v[S,λy hy=>(eq_isStrOf k t Y y (by simpa using hy)).at _ _,h]
 ·let ⟨x,u,e1,e2⟩:=at_ j I
  rw[e1]
  rw[hj]at e2;cases e2
  simp[isStrOf]
 ·intro m hm L
  let ⟨x,u,e1,e2⟩:=at_ m hm
  rw[e1]
  have:x≠k:=λz=>Z m L (by rw[e2,z])
  simp[isStrOf,this]
def QI:V->List V->Hp->VK->Prop:=λx vs H Q=>∃ l,∃(ss:List Str) (k:Str) (j:Nat),x=.ref l/\vs=[.str k]/\H l=some (.lst (ss.map V.str))/\ss[j]?=some k/\(∀ m<j,ss[m]?≠some k)/\(j:Int)<2^63-1/\Q (.int (j:Nat)) H
theorem GP:MtM X "list.index" QI:=by
 intro L s σ H x vs v us Q I Y O h
 let ⟨l,ss,k,j,rfl,rfl,V,hj,J,hs,q⟩:=h
 cases Y
 let ⟨u,rfl,S⟩:=O.one
 let ⟨t,rfl⟩:=S
 let ⟨z,Z,n,r,hl,e⟩:=I.lstM V
 exact lY #v[_,e,rfl,n,rfl] (tK r) hj J hs #v[.int _,H,I.tok _,#v[_,rfl],q]
theorem GQ(h:EV X G M o λd M1=>∃ p,d=.ref p/\(∃ ds,M1 p=some (.lst ds))/\EV X G M1 e λd2 M2=>∃(ss:List Str) (k:Str) (j:Nat),d2=.str k/\M2 p=some (.lst (ss.map D.str))/\ss[j]?=some k/\(∀ m<j,ss[m]?≠some k)/\(j:Int)<2^63-1/\Q (.int (j:Nat)) M2)
  (V:attributeBase o "index" X.env (eval o X.env)=eval o X.env)
  (b5:HfX X cpos e)
  (b4:(apos.endLine == cpos.line)=true)(hs:SeX X e)(S:NpX X cpos) :
  EV X G M (.Call (.Attribute o "index" apos) [e] [] cpos) Q:=by
 refine EV.of (nA PySem.F.plainAttrs_list PySem.F.slot_list_index PySem.F.type_list_index GP (fY (G:=G)) (iU (G:=G) (es:=[e])) V b5 b4 hs S) λσ H kf R=>?_
 exists M,_,R,h,λv H' d M' d6 g i Z q=>?_
 let ⟨p,rfl,⟨ds,b2⟩,q⟩:=q
 rw[aH]at i;subst i
 let ⟨xs,hx,_⟩:=Z.mem p _ b2
 exists tyL hx,M',λJ M2=>∃ d2,J=[d2]/\∃(ss:List Str) (k:Str) (j:Nat),d2=.str k/\M2 p=some (.lst (ss.map D.str))/\ss[j]?=some k/\(∀ m<j,ss[m]?≠some k)/\(j:Int)<2^63-1/\Q (.int (j:Nat)) M2,Z,fJ (q.mono λd2 M2 L=>kQ #v[d2,rfl,L]) hs,λvs H2 J M2 b7 g2 i2 O L=>?_
 let ⟨d2,rfl,ss,k,j,rfl,hp,hj,Y,b1,L⟩:=L
 let ⟨v2,rfl,I⟩:=dF i2
 rw[aR]at I;subst I
 let ⟨xs,hx,b3⟩:=O.mem p _ hp
 have e1:=qC b3
 subst e1
 exact #v[p,ss,k,j,rfl,rfl,hx,hj,Y,b1,λ_=>#v[g.trans g2,_,M2,aM.mpr rfl,O.mem,L]]
section
variable {X:Cx}{G:Ga}{M:MH}{a b:Expr}{pos:Pos}{Qb:Bool->MH->Prop}{pins:List (Addr×Obj)}{σ:St}{H:Hp}{s:Shared}
theorem iR(I:L2.Inv X pins σ H s)(m:F9 X.K M H):∀(as:List Addr) (vs:List V) (us:List Value),IsL H (as.map D.ref) vs->Vals vs us->(∀ c∈as,∃ ds,M c=some (.lst ds)/\eF ds=true) ->
  ∃(xs:List PyData) (bs:List Addr),ReadsAll s.heap us xs bs/\PyData.canLayAll0 xs=true/\xs.length=as.length
 |[],vs,us,i,r,_=>by
  rw[Bq,aV]at i;subst i;cases r
  exact #v[[],_,.nil,rfl,rfl]
 |c::as,vs,us,i,r,h=>by
  rw[Au,aG]at i
  let ⟨x,xs,rfl,i1,i2⟩:=i
  rw[aH]at i1;subst i1
  cases r with
  |cons S Z =>
   have J:_=Value.ref c:=S
   subst J
   let ⟨ds,hm,L⟩:=h c (Aj ..)
   let ⟨O,q1⟩:=hV I m hm L
   let ⟨ys,bs,q2,h2,Y⟩:=iR I m as xs _ i2 Z λd hd=>h d (Ak _ hd)
   have c1:(PyData.list (pdL ds)).canLay0=true:=by simp only[PyData.canLay0];exact eG ds L
   exact #v[.list (pdL ds)::ys,_,.cons q1 q2,by simp only[PyData.canLayAll0,c1,h2,Bool.and_self],by simp[Y]]
theorem GR(hu:X.A.units+64<cLine)(h:EV X G M a λda Ma=>EV X G Ma b λdb Mb=>∃ l k as,da=.ref l/\db=.ref k/\Mb l=some (.lst (as.map D.ref))/\Mb k=some (.lst [])/\(∀ c∈as,∃ ds,Mb c=some (.lst ds)/\eF ds=true)/\Qb (!decide (as=[])) Mb):TV X G M (.Compare a [.NotEq] [b] pos) Qb:=by
 refine mH (cZ _) λpins s σ H I R=>?_
 refine thn (h pins s σ H I R) λv s1 ⟨x,H1,da,Ma,I1,r1,g1,i1,R1,V⟩=>?_
 refine thn (V pins s1 σ H1 I1 R1) λu s2 ⟨y,H2,db,Mb,I2,r2,g2,i2,R2,l,k,as,e1,e2,h1,h2,hall,q⟩=>?_
 subst e1;subst e2
 have L:=Is.grow g2 _ _ i1
 rw[aH]at L i2;subst L;subst i2
 cases r1;cases r2
 let ⟨xs,ex,hx⟩:=R2.mem l _ h1
 let ⟨z,S,n,Z,hl,Y⟩:=I2.lstM ex
 let ⟨ys,bs,V,c1,J⟩:=iR I2 R2.mem as xs S hx Z hall
 let ⟨b2,rb⟩:=hV I2 R2.mem h2 rfl
 have ra:Reads s2.heap (.ref l) (.list ys) (l::bs):=.list Y rfl rfl (by simpa using V)
 have O:(PyData.list ys).canLay0=true:=by simp only[PyData.canLay0];exact c1
 have ee:PyData.eqv (.list ys) (.list (pdL []))=decide (as=[]):=by
  cases as with
  |nil=>cases ys with
   |nil=>simp[PyData.eqv,pdL,PyData.eqvAll]
   |cons _ _=>simp at J
  |cons _ _=>cases ys with
   |nil=>simp at J
   |cons _ _=>simp[PyData.eqv,pdL,PyData.eqvAll]
 have hm:min (PyData.list ys).depth (PyData.list (pdL [])).depth<=(PyData.list (pdL [])).depth:=Eu _ _
 have b1:(PyData.list (pdL [])).depth<=5:=by simp[PyData.depth,pdL,PyData.depthAll]
 exact PySem.SeqAt.compareNe_reads ra rb O rfl (by lia) #v[.bl _,H2,.bl _,Mb,I2,rfl,g1.trans g2,bL.mpr rfl,R2,_,rfl,by rw[ee];exact q]
end
theorem lZ(r:Addr)(a b c:Int)(t u v:Tok)(hs:(A8 a&&A8 b&&A8 c&&A8 (-c)&&A8 (a-c)&&A8 (Bv a b c))=true) :
  Meets (Builtin.«range.__reversed__» #v[[.ref r],[]]) (λ_ R s=>IsRange s.heap r a b c t u v/\R (.ok (.ret (.ref s.heap.objs.size))) { s with heap:=s.heap.push { cls:=.type "range_iterator",data:=.fields #[rawInt (a+(Bv a b c-1)*c),rawInt (Bv a b c),rawInt (-c)] } }):=by
 intro prog w A R s h
 let ⟨I,g,d,tk,J⟩:=s;let ⟨hl,h⟩:=h
 wp_walk using wpAny_loadPart' hl
 simp only[hs]
 wp_walk
 exact h
theorem mB:isSubtype (.type "range_iterator") (.type "reversed")=pure false:=by rw[isSubtype_type];kernel_rfl
theorem iL(L:0<=n)(h1:n<2^62)(hr:IsRange s.heap r 0 n 1 t u v)
  (h:Q (.ref s.heap.objs.size) { s with heap:=s.heap.push { cls:=.type "range_iterator",data:=.fields #[rawInt (n-1),rawInt n,rawInt (-1)] } }):wpAny (model prog w) A (call (.type "reversed") [.ref r]) Q E s:=by
 have hsz:Bv 0 n 1=n:=by
  unfold Bv;rw[if_pos (by decide)];split<;>lia
 have hs:(A8 0&&A8 n&&A8 1&&A8 (-1)&&A8 (0-1)&&A8 (Bv 0 n 1))=true:=by
  rw[hsz]
  simp only[A8,Bl,decide_eq_true_eq]
  lia
 have J:s.TypeIs (.ref r) "range":= #v[_,hr,rfl]
 refine callType_other (U :="range_iterator") (Q₁:=λI s₁=>I=.ref s.heap.objs.size/\s₁={ s with heap:=s.heap.push { cls:=.type "range_iterator",data:=.fields #[rawInt (n-1),rawInt n,rawInt (-1)] } }) (by lia) F.create_reversed #v[_,_,F.mro_reversed] F.made_reversed mB (F.typeCall_reversed_1 _) ?_ ?_
 ·refine codeAny_of_tree ?_
  show wpAny _ _ (do checkBuiltinCall "reversed.__new__" #v[[.type "reversed",.ref r],[]];again (.builtin "reversed.__new__" #v[[.type "reversed",.ref r],[]])) _ _ s
  refine Ac (B4 (F.newCall_reversed_1 _) (Ag #v[plainId_quiet F.plain_reversed_new _,codeAny_builtin F.entry_reversed_new ?_]))
  rw[Around.under_plainId F.plain_reversed_new _]
  unfold Builtin.«reversed.__new__»
  refine Ac (B4 (newClass_reversed _) ?_)
  try dsimp only
  refine Ac (B4 (a:=()) (by first|rfl|kernel_rfl) ?_)
  refine Ac (B4 (a:=()) (by first|rfl|kernel_rfl) ?_)
  try dsimp only
  refine Ac (wpAny_specialOf J PySem.F.slot_range_reversed.lookup ?_)
  try dsimp only
  refine Ac (B4 (PySem.F.slot_range_reversed.bind _) ?_)
  try dsimp only
  first
  |rw[if_neg (show ¬ ((Value.builtin "range.__reversed__"== Value.none)=true) from A4)]
  |(show wpAny _ _ (if (Value.builtin "range.__reversed__"== Value.none)=true then _ else _) _ _ _;rw[if_neg (show ¬ ((Value.builtin "range.__reversed__"== Value.none)=true) from A4)])
  refine Ac (wpAny_rule ?_)
  refine Ac (m:=runValue (.call (.builtin "range.__reversed__") #v[[.ref r],[]])) (show wpAny _ _ (call (.builtin "range.__reversed__") [.ref r]) _ _ _ from call_meets PySem.F.slot_range_reversed J PySem.F.entry_range_reversed (PySem.F.args_range_reversed_1 _) (lZ r 0 n 1 t u v hs) #v[hr,?_])
  have e:(0:Int)+(Bv 0 n 1-1)*1=n-1:=by rw[hsz];lia
  rw[e,hsz]
  first
  |exact Ag #v[rfl,rfl]
  |exact Ac (Ag (Ag #v[rfl,rfl]))
 ·rintro I s₁ ⟨rfl,rfl⟩
  exact #v[#v[_,Ap _ rfl,rfl],h]
def US(n:Nat):It:=#v[λi _=>i<n,λi H x H'=>H'=H/\x=.int ((n:Int)-1-i),λi _=>n<=i]
theorem KR{P:Program}{w:World}{K:Ad}{tg:Expr}(it:Addr)(n:Nat):Turn P w K tg (US n) [it] it (λi h=>IsRangeIter h it (((n:Int)-1)+(i:Nat)*(-1)) ((n:Int)-(i:Nat)) (-1)):=by
 exists by simp,?_,λi h h' st k=>k it (by simp) _ st,?_,?_,λ_ _ _ _ _ st h=>wpAny_pyIter_rangeiter st h
 ·intro i h st b L
  have e:b=it:=by simpa using L
  subst e
  exists _,st,λv z=>?_
  have z':Data.fields _=Data.cell v:=z
  cases z'
 ·intro X hP hw hK S i J s σ H E I hf st hg
  subst hP hw hK
  let ⟨f0,Y,f2,f3,Z,V⟩:=hf it (by simp)
  refine (Walks.range (prog:=X.prog) (w:=X.w) (I.ok.hd S) it ((n:Int)-1) (-1) n).item i s _ _ hg st λv h' tk hv O kk=>?_
  let ⟨t,rfl⟩:=hv
  have I1:Inv X J σ H { s with heap:=h',toks:=tk }:=I.turned (λb o L e=>kk b o (by simpa using L) e) f0 Y f3 Z V
  exists _,rfl,mU (s:={ s with heap:=h',toks:=tk }) (n :="range_iterator") O rfl rfl (by decide) #v[.int ((n:Int)-1-i),H,I1,#v[t,?_],#v[rfl,rfl],O,λb L=>(hf b L).1]
  rw[show ((n:Int)-1)+(i:Nat)*(-1)=(n:Int)-1-i from by lia]
 ·intro X hP hw hK S i J s σ H E I hf st hg
  subst hP hw hK
  let ⟨f0,Y,f2,f3,Z,V⟩:=hf it (by simp)
  exact wpAny_pyNext_range_end (I.ok.hd S) st (by have:n<=i:=hg;lia) λh' eb=>#v[rfl,I.turned (t':=s.toks) (λb o L e=>eb b o L e) f0 Y f3 Z V]
def iDn(ta:TA):TI:=λσ H R=>ta σ H λvs H1=>∃ n:Nat,vs=[.int n]/\(n:Int)<2^62/\R (US n) H1
theorem UT(hg:Gl X "range")(hm:X.mg "range"=none)(V:Gl X "reversed")(b1:X.mg "reversed"=none)(ha:PA X [a] ta)(hs:A0 [a] X.env=[(false,eval a X.env)])
  (S:A0 [.Call (.Name "range" p) [a] [] pos] X.env=[(false,eval (.Call (.Name "range" p) [a] [] pos) X.env)]):PI X tg (.Call (.Name "reversed" p2) [.Call (.Name "range" p) [a] [] pos] [] pos2) (iDn ta):=by
 intro L s σ H R I h
 refine Call_ (fW I V b1 boot_reversed (PyProof.Rows.callWith_type1 ?_ S rfl))
 refine Cz (Q:=λus J=>∃ r,us=[.ref r]/\wpAny (model X.prog X.w) X.A (call (.type "reversed") [.ref r]) (λv Y=>wpAny (model X.prog X.w) X.A (pyIter v) (PIE X L σ tg R) X.xe Y) X.xe J) ?_ (λus J h1=>?_) λ_ _ x=>x
 ·rw[S]
  show wpAny _ _ (spliced ((false,eval (.Call (.Name "range" p) [a] [] pos) X.env)::backTo pos2 [])) _ _ s
  refine Calls.spliced_cons (Call_ (fW I hg hm boot_range (PyProof.Rows.callWith_type1 (thn (ha pos L s σ H _ I h) λus J ⟨vs,H1,I1,r1,q1⟩=>?_) hs rfl)))
  let ⟨n,e,hn,q⟩:=q1
  subst e
  cases r1 with
  |cons r Z =>
   cases Z
   let ⟨t,rfl⟩:=r
   refine call_range_1 ?_
   refine Calls.spliced_nil #v[_,rfl,?_]
   refine iL (n:=(n:Int)) (by lia) hn (IsRange.new ..) ?_
   refine wpAny_pyIter_rangeiter (Ap _ rfl) ?_
   generalize ({ cls:=.type "range",data:=.fields #[.int 0 J.toks,.int (n:Int) t,.int 1 (J.toks+1)] }:Obj)=ob
   have O:L2.Inv X L σ H1 { J with heap:=J.heap.push ob,toks:=J.toks+1+1 }:=I1.kept λb o e=>Af _ e
   exists (J.heap.push ob).objs.size,[(J.heap.push ob).objs.size],_,_,H1,rfl,O.kept (t':=J.toks+1+1) λb o e=>Af _ e,KR _ n,?_,λb hb=>?_,q
   ·show IsRangeIter _ _ ((n:Int)-1+((0:Nat):Int)*(-1)) ((n:Int)-((0:Nat):Int)) (-1)
    rw[show (n:Int)-1+((0:Nat):Int)*(-1)=(n:Int)-1 from by lia,show (n:Int)-((0:Nat):Int)=n from by lia]
    exact Ap _ rfl
   ·have e:b=(J.heap.push ob).objs.size:=by simpa using hb
    subst e
    exact O.fpOk (Ao _) (O.hok.fresh (Ao _))
 ·let ⟨r,rfl,h1⟩:=h1
  exact h1
theorem BG(hp:PassesOwn (model X.prog X.w) X.A X.env X.xe)(hc:X.calm=true)(hm:X.mg "range"=none)(b4:X.mg "reversed"=none)
  (h:AV X G M [e] λds M1=>∃(n:Nat) (Iv:Nat->Ga->MH->Prop),ds=[.int n]/\(n:Int)<2^62/\Iv 0 G M1 /\
   (∀(i:Nat) G' M',i<n->Iv i G' M'->GV X G' M' tg (.int ((n:Int)-1-i)) λG3 M3=>EXs X G3 M3 body { nx:=Iv (i+1),ct:=Iv (i+1),bk:=E.nx,rt:=E.rt })/\(∀ G' M',Iv n G' M'->E.nx G' M'))
  (hg:Gl X "range")(b1:Gl X "reversed")(hse:A0 [e] X.env=[(false,eval e X.env)])(hse2:A0 [.Call (.Name "range" p) [e] [] pos] X.env=[(false,eval (.Call (.Name "range" p) [e] [] pos) X.env)])
  (hs:∀ x,A9 (.Call (.Name "reversed" p2) [.Call (.Name "range" p) [e] [] pos] [] pos2) X.env x=pure x):EX X G M (.For tg (.Call (.Name "reversed" p2) [.Call (.Name "range" p) [e] [] pos] [] pos2) body [] pos') E:=by
 refine nD hp hc (UT hg hm b1 b4 (iU (G:=G)) hse hse2) (λσ H kf R=>?_) hs
 exists M,_,R,h,λvs H' ds M' b2 g i Z q=>?_
 let ⟨n,Iv,e,h1,h0,J,O⟩:=q
 subst e
 let ⟨v,rfl,S⟩:=dF i
 rw[aM]at S;subst S
 exists n,rfl,h1,g,M',n,Iv,Z,h0,λi Y L b3 V=>#v[λe=>O Y L (by rw[<- e];exact V),λσ2 H2 _ R2=>#v[λe=>?_,λI=>#v[I,λx H3 y=>?_]]]
 ·show n<=i
  lia
 ·let ⟨e,y⟩:=y
  subst e;subst y
  exact #v[F6.refl _,.int ((n:Int)-1-i),L,aM.mpr rfl,R2.mem,J i Y L I V]
end D3
namespace KA
open PySem PySem.Spec PyProof.Rows L2 D3 K01
structure ClsT(K:Ad)(x qual:Str)(st:Stmt)(C P0:Addr):Prop where
 ns:Bn K mainGlobals x=some (some (.ref C))
 er:X1.Err K C P0
 kp:B1 K (.ref C)=true
 fn:∃ fI fd oI,A6 K (.ref C) "__init__"=some (some (.ref fI))/\Fun K "__init__" qual st fI fd/\K.lookup fI=some oI/\oI.cls=.type "function"
 sa:A6 K (.ref C) "__setattr__"=some (some (.builtin "object.__setattr__"))
 ga:A6 K (.ref C) "__getattribute__"=some (some (.builtin "BaseException.__getattribute__"))
 gh:A6 K (.ref C) "__getattr__"=some none
theorem ClsT.mk'{K:Ad}{x b1:Str}{st:Stmt}{C P0 V N:Addr}{nm q:Str}{bs:List Value}{sn:List Str}{sub:List Value}{ab:Bool}{col:Option Bool}{dd od an:Option Addr}{k0 k1 k2 k3 k5:Option Value}{sl:Array (Option Value)}{oc kV dc pm cd ct:Value}
  (a:Bn K mainGlobals x=some (some (.ref C)))(l:K.lookup C=some (excClassObj nm q C N bs (.ref P0::X1.VE) true sn sub ab col dd k0 k1 k2 k3 k5 "ValueError.__new__"))(k:B1 K (.ref C)=true)(i:A6 K (.ref C) "__init__"=some (some (.ref V)))
  (I:K.lookup V=some #v[oc,od,.func (C1 "__init__" b1 (eR st) (cI st) (aZ st) .none kV dc pm an cd ct),sl])(J:Dd K cd b1=true)(O:B1 K (.ref V)=true)(S:oc=.type "function")
  (L:A6 K (.ref C) "__setattr__"=some (some (.builtin "object.__setattr__")))(Y:A6 K (.ref C) "__getattribute__"=some (some (.builtin "BaseException.__getattribute__")))(Z:A6 K (.ref C) "__getattr__"=some none):ClsT K x b1 st C P0 :=
 #v[a,#v[#v[_,_,_,_,_,_,_,_,_,_,_,_,_,_,l]],k,#v[V,_,_,i,vP I J O,I,S],L,Y,Z]
theorem ClsT.fld{K:Ad}{x I:Str}{st:Stmt}{C P0:Addr}(c:ClsT K x I st C P0){f:Str}(h:A6 K (.ref C) f=some none):ErrF K C P0 f:=#v[c.er,c.sa,c.ga,c.gh,h]
theorem ClsT.mkr{P:Program}{w:World}{K:Ad}{mg:Str->Option Value}{h base:Heap}{x O:Str}{st:Stmt}{C P0:Addr}{fs ps:List Str}(c:ClsT K x O st C P0)(X:K.In h)(G:h.Ns mainGlobals mg)(L:∀ fI fd,Fun K "__init__" O st fI fd->F8 P w K mg base CX0 1 fI fd ps (aD K (spIni C fs)))
  (b:∀ fI fd,Fun K "__init__" O st fI fd->Binds K fd ps []):Mkr P w K mg base 1 x C P0 fs:=by
 let ⟨fI,fd,J,h1,F,h2,I⟩:=c.fn
 exact #v[#v[fI,fd,ps,J,L fI fd F,b fI fd F,h1,h2,I],Dw X G c.ns,c.kp,c.er]
theorem uK(h1:43<=c)(h2:c<=126):Unicode.isSpace c=false:=by
 have:∀ d<84,Unicode.isSpace (43+d)=false:=by lia
 have:=this (c-43) (by lia)
 rwa [show 43+(c-43)=c from by lia]at this
theorem yX(Z:ts≠[])(h:Toks ts):(∃ c r,(jn ts).cps.toList=c::r/\Unicode.isSpace c=false)/\∃ r c,(jn ts).cps.toList=r++[c]/\Unicode.isSpace c=false:=by
 have one:∀{t:Str},Tok1 t->(∃ c r,t.cps.toList=c::r/\Unicode.isSpace c=false)/\∃ r c,t.cps.toList=r++[c]/\Unicode.isSpace c=false:=λ{t} I=>by
  have J:=I.ne
  exists ?_,?_
  ·cases e:t.cps.toList with
   |nil=>exact absurd e J
   |cons c r =>
    have:=I.ge c (by rw[e];exact Aj ..)
    exact #v[c,r,rfl,uK this.1 this.2]
  ·have e:=B7 J
   have:=I.ge _ (List.getLast_mem J)
   exact #v[_,_,e.symm,uK this.1 this.2]
 induction ts with
 |nil=>exact absurd rfl Z
 |cons a r Y =>
  have L:=one (h a (Aj ..))
  cases r with
  |nil=>exact L
  |cons b r =>
   let ⟨_,V,c2,e2,S⟩:=Y (by simp) λt I=>h t (Ak _ I)
   let ⟨⟨c1,r1,e1,O⟩,_⟩:=L
   rw[bI a (by simp),bU,bU]
   exists #v[c1,_,by rw[e1];rfl,O],#v[a.cps.toList++spc.cps.toList++V,c2,by rw[e2];simp,S]
theorem BH(hp:∀ c∈p.cps.toList,c=32)(hz:∃ c r,z.cps.toList=c::r/\Unicode.isSpace c=false)(Z:∃ r c,z.cps.toList=r++[c]/\Unicode.isSpace c=false):Txt.strip (p++z)=z:=by
 have J:stripLo Unicode.isSpace true (p++z)=p.length:=by
  have:stripLo Unicode.isSpace true (p++z)=((p++z).cps.toList.takeWhile Unicode.isSpace).length:=by simp[stripLo]
  rw[this,bU,fO]
  ·rfl
  ·intro c L
   rw[hp c L];lia
  ·intro c r e
   let ⟨c',r',V,S⟩:=hz
   rw[e]at V
   cases V
   exact S
 have O:stripHi Unicode.isSpace true (p++z) p.length=(p++z).length:=by
  unfold stripHi
  rw[if_pos rfl,bU]
  have I:p.length=p.cps.toList.length:=rfl
  rw[I,List.drop_left]
  let ⟨r,c,e,L⟩:=Z
  rw[e,Ec,List.reverse_singleton,Dy,Fd,L]
  rfl
 have hs:stripped Unicode.isSpace true true (p++z)=z:=by
  unfold stripped
  rw[J,O]
  refine iG ?_
  show ((p++z).cps.extract p.length (p++z).length).toList=_
  rw[E4,bU]
  have hl:(p++z).length=p.cps.toList.length+z.cps.toList.length:=by rw[aQ];rfl
  have I:p.length=p.cps.toList.length:=rfl
  rw[hl,I]
  simp[List.extract]
  exact Bb (by simp)
 show Txt.stripBy _ true true _=_
 unfold Txt.stripBy
 split
 ·rename_i h
  unfold stripSame at h
  rw[Bl,J]at h
  have Y:p.length=0:=by simpa using h.1
  have:p=#v[#[]]:=jX (Ex Y)
  rw[this]
  exact jX (by show #[]++z.cps=z.cps;simp)
 ·exact hs
theorem wW(I:x.2≠[])(h:Toks x.2):Txt.strip (lnT x)=jn x.2:=BH (sB x.1) (yX I h).1 (yX I h).2
theorem UU(I:x.2≠[]):∃ r,x.2=wdT x::r:=by
 unfold wdT
 cases e:x.2 with
 |nil=>exact absurd e I
 |cons a r=>exact #v[r,rfl]
theorem BI(L:List (List Str)){xs:List LnT}(h:xs[i]?=some x):fldW L (xs.take (i+1))=cR (fldW L (xs.take i)) (wdT x):=by
 rw[Cm,h,cV];rfl
theorem oN:∀(xs:List LnT) (L:List (List Str)),Lf3 L->Lf3 (fldW L xs)
 |[],L,h=>h
 |x::xs,L,h=>by rw[cM];exact oN xs _ (h.step _)
theorem oO:∀(xs:List LnT) (L:List (List Str)),(fldW L xs).length<=L.length+xs.length
 |[],L=>by simp[fF]
 |x::xs,L=>by
  rw[cM,Ah]
  have h1:=oO xs (cR L (wdT x))
  have h2:=GL L (wdT x)
  lia
def ExtB(M M':MH):Prop:=∀ b o,M b=some o->(∀ fs,o≠.att fs)->M' b=some o
theorem Ext.toB(h:Ext M M'):ExtB M M':=λb o e _=>h b o e
theorem ExtB.trans{M I J:MH}(h:ExtB M I)(k:ExtB I J):ExtB M J:=λb o e n=>k b o (h b o e n) n
theorem lG:∀{ss:List Str},(∀ s∈ss,PyData.strOk s=true)->eF (ss.map D.str)=true
 |[],_=>rfl
 |s::r,h=>by
  rw[Au]
  simp only[eF,imm,h s (Aj ..),Bool.true_and]
  exact lG λs hs=>h s (Ak _ hs)
theorem qR:∀(ss:List Str),PyData.depthAll (pdL (ss.map D.str))<=1
 |[]=>by simp[pdL,PyData.depthAll]
 |s::r=>by
  have:=qR r
  rw[Au]
  simp only[pdL,pd,PyData.depthAll,PyData.depth]
  lia
theorem sJ(ss:List Str):PyData.eqvAll (pdL (ss.map D.str)) (pdL [])=decide (ss=[]):=by
 cases ss with
 |nil=>simp[pdL,PyData.eqvAll]
 |cons s r=>simp[pdL,PyData.eqvAll]
theorem GS:∀ l∈lf3,∀ s∈l,PyData.strOk s=true:=by lia
inductive spClosedL(ds:List D)(M:MH)(Q:DK):Prop|mk:∀(l:Addr) (ls:List LnT),ds=[.ref l]->M l=some (.lst ((ls.map lnT).map D.str))->ls≠[]->(∀ x∈ls,x.2≠[]/\Toks x.2)->ls.length<=130->(∀ x∈ls,(lnT x).length<=60100)->(∀ q M',M q=none->M' q=some (.lst (((ls++czL 0 (fldW [] (ls.drop 1))).map lnT).map D.str))->Ext M M'->Q (.ref q) M')->spClosedL ds M Q
end KA
namespace K23
open KA.Ext renaming trans → b6
open KA.Toks renaming cons → b7
open KA.Ext renaming own → b8
open KA.ExtB renaming trans → b9
open KA.Ext renaming toB → d5
open PySem PySem.Spec PyProof.Rows L2 D3 K01 KA
section
set_option hygiene false
def oP (ts:List (Lean.TSyntax `tactic)):Lean.MacroM (Lean.TSyntax `tactic):=do
 let a:=ts.toArray
 `(tactic| first $[| $a:tactic]*)
def uL(s:String):Lean.TSyntax `str:=Lean.Syntax.mkStrLit s
def WM (s:Lean.TSyntax `str):Lean.MacroM (Lean.TSyntax `tactic):=do
 let t:=s.getString
 let all (c:String):Lean.MacroM (Lean.TSyntax `tactic):=do oP (<- (Ca 16).mapM fun i=>`(tactic| tm_at $(uL s!"{c}{i}")))
 if t =="var" then
  let f <- all "v"
  `(tactic| ((with_reducible show EV _ _ _ (Expr.Name _ _) _);$f))
 else if t =="asg" then
  let f <- all "a"
  `(tactic| ((with_reducible show EX _ _ _ (Stmt.Assign [Expr.Name _ _] _ _) _);$f))
 else if t =="gvn" then
  let f <- all "g"
  `(tactic| ((with_reducible show GV _ _ _ (Expr.Name _ _) _ _);$f))
 else match (t.drop 1).toNat? with
 |none=>Lean.Macro.throwUnsupported
 |some i =>
  let n:Lean.TSyntax `num:=Lean.Syntax.mkNumLit (toString i)
  if t.front == 'v' then `(tactic| ((with_reducible refine' aP $n ?_ ?n1 ?n2 ?n3 ?n4 ?n5);tm_at "tv"))
  else if t.front == 'a' then `(tactic| ((with_reducible refine' OF $n ?n0 ?_ ?n1 ?n2 ?n3 ?n4);tm_at "ta"))
  else if t.front == 'g' then `(tactic| ((with_reducible refine bC $n ?n0 ?_ ?n1 ?n2 ?n3);tm_at "tg";try (with_reducible refine fK ?_;intro EL)))
  else Lean.Macro.throwUnsupported
def bJ (xs:List String) (s:Lean.TSyntax `str):Lean.MacroM (Lean.TSyntax `tactic):=do
 let t:=s.getString
 if t =="var" then
  oP (<- xs.zipIdx.mapM fun (x,i)=>`(tactic| ((with_reducible show EV _ _ _ (Expr.Name $(uL x) _) _);tm_at $(uL s!"v{i}"))))
 else if t =="asg" then
  oP (<- xs.zipIdx.mapM fun (x,i)=>`(tactic| ((with_reducible show EX _ _ _ (Stmt.Assign [Expr.Name $(uL x) _] _ _) _);tm_at $(uL s!"a{i}"))))
 else if t =="gvn" then
  oP (<- xs.zipIdx.mapM fun (x,i)=>`(tactic| ((with_reducible show GV _ _ _ (Expr.Name $(uL x) _) _ _);tm_at $(uL s!"g{i}"))))
 else Lean.Macro.throwUnsupported
def UV (xs:List String):Lean.MacroM (Lean.TSyntax `tactic):=do
 oP (<- xs.mapM λx=>do
  let c:=Lean.mkIdent (Lean.Name.mkSimple (if "_law_".isPrefixOf x then "C_l_"++x.drop 5 else "C_"++x))
  `(tactic| ((with_reducible show EV _ _ _ (Expr.Call (Expr.Name $(uL x) _) _ _ _) _);tm_at "tC";(case n0=>exact $c);tm_at "tc")))
end
def top(i:Nat):Stmt:=PySem.Challenge.pw_notekeep_k23_whole_beginnings.main.body.getD i (.Pass #v[0,0,0,0])
section
open Lean
set_option hygiene false
def alN:Nat->(List PySem.Value->Prop)->Prop
 |0,P=>P []
 |n+1,P=>∀ x,alN n λl=>P (x::l)
@[elab_as_elim] theorem ul (n:Nat):∀{P:List PySem.Value->Prop} (us:List PySem.Value),us.length=n->alN n P->P us:=by
 induction n with
 |zero =>
  intro P us e h
  cases us
  ·exact h
  ·cases e
 |succ n ih =>
  intro P us e h
  cases us with
  |nil=>cases e
  |cons x us=>exact ih us (by simpa using e) (h x)
def lD(p:String):List String:=(p.splitOn " ").filter (· ≠ "")
def lT (l:List String):MacroM Term:=do
 let a:Array Term:=(l.map λs=>(Syntax.mkStrLit s:Term)).toArray
 `([$a,*])
def iT(a x:String):Ident:=mkIdent (.mkSimple (a++x))
def dT (t : String) (b : Term) (p n : String):MacroM Command := do
  let P := lD p
  let N := P ++ lD n
  return ⟨mkNullNode #[← `(command| noncomputable abbrev $(iT "s_" t) : Stmt := $b), ← `(command| noncomputable abbrev $(iT "N_" t) : List Str := $(← lT N)), ← `(command| noncomputable abbrev $(iT "P_" t) : List Str := $(← lT P)), ← `(command| theorem $(iT "sc_" t) : FnScope $(iT "N_" t) $(iT "P_" t) (aZ $(iT "s_" t)) := ⟨rfl, rfl, rfl, by decide +kernel, rfl, by decide +kernel, by decide +kernel⟩), ← `(command| def $(iT "n_" t) : List String := $(← lT N))]⟩
def tT (a : Array (TSyntax `num)):MacroM Command := do
  return ⟨mkNullNode (← a.mapM fun i => `(command| theorem $(mkIdent (.str `_root_.PySem.W.Fast s!"tw{i.getNat}")) : True := trivial))⟩
def sT (s:TSyntax `str):MacroM (TSyntax `tactic):=do
 match lD s.getString with
 |["F",t]=>`(tactic| (refine SK F $(iT "sc_" t) (by tm_at "ar") fun cdv A outer s H EE ds M Q hr h=>?_;have nd:=$(mkIdent (.str (.mkSimple ("sc_" ++ t)) "nd"));try (refine sZ ?_;intro X)))
 | "gA":: l =>
  let u <- l.toArray.mapM λs=>do
   let t:=(s.take 2).toString
   let i:=(s.drop 2).toString
   let n:=i.toNat?.getD 0
   let u:Array Term <- (Array.range n).mapM fun _=>`(_)
   let k:=Syntax.mkNumLit i
   `(tactic| (obtain ⟨$(iT "f_" t):ident,$(iT "d_" t):ident,$(iT "F_" t):ident,$(iT "m_" t):ident⟩:=T.$(iT "a_" t).get X G;have $(iT "b_" t):ident:=($(iT "F_" t)).binds (ps:=$(iT "P_" t)) fun _ _ _ _ _ _ us hl=>ul $k us hl $(<- if n=0 then `(rfl) else `(fun $u*=>rfl))))
  `(tactic| ($[$u]*))
 | "zZ":: l =>
  let u <- l.toArray.mapM fun x=>`(tactic| have $(iT "z_" x):ident:=PySem.W.mg_none_of X G T.$(iT "z_" x))
  `(tactic| ($[$u]*))
 | "gG":: l =>
  let u <- l.toArray.mapM fun x=>`(tactic| (obtain ⟨$(iT "v_" x):ident,$(iT "hv_" x):ident,$(iT "t_" x):ident,rfl⟩:=T.$(iT "g_" x);have $(iT "g_" x):ident:=Dw X G $(iT "hv_" x)))
  `(tactic| ($[$u]*))
 | "cC":: t::o::a =>
  let a:Array Term:=(a.map λs=>(iT s "":Term)).toArray
  `(tactic| have $(iT "C_" (o.drop 3).toString):ident:Cal P w K mg base _ _ _:=lO $(iT "F_" t) ($(iT o "") $(iT "F_" t) $a*) $(iT "b_" t) $(iT "m_" t))
 | "cD":: t::c::o::d::k::n::a =>
  let e <- (Array.range (n.toNat?.getD 0)).mapM fun _=>`(by decide)
  let na (s:String):MacroM (TSyntax ``Lean.Parser.Term.namedArgument):=`(Lean.Parser.Term.namedArgument| ($(iT (s.take 1).toString ""):ident:=$(Syntax.mkNumLit (s.drop 1).toString)))
  let nd <- na d
  let nk <- na k
  let a:Array Term <- a.toArray.mapM λs=>do
   if s == "-" then `(fun h=>absurd h (by decide))
   else if s.front == '^' then `(fun _=>$(iT (s.drop 1).toString ""))
   else if s.front == '~' then `(fun _=>($(iT (s.drop 1).toString "")).mono (by decide))
   else pure (iT s "":Term)
  `(tactic| have $(iT c ""):ident:Cal P w K mg base _ _ _:=lO $(iT "F_" t) ($(iT o "") $nd:namedArgument $nk:namedArgument $e* $(iT "F_" t) $a*) $(iT "b_" t) $(iT "m_" t))
 |["kK",i] =>
  let c (a:String) (i:Nat):MacroM (TSyntax `tactic):=do `(tactic| (case $(iT s!"{a}{i}" ""):ident=>k_is))
  let u <- (Array.range (i.toNat?.getD 0)).mapM fun i=>do `(tactic| ($(<- c "a" i);$(<- c "l" i);$(<- c "c" i);$(<- c "k" i)))
  `(tactic| ($[$u]*))
 | "kL":: l =>
  let u <- l.toArray.mapM fun i=>do `(tactic| (case $(iT i ""):ident=>k_is))
  `(tactic| ($[$u]*))
 |_=>Macro.throwUnsupported
end
local macro_rules
 | `(#check dD $x:ident $i:num $p:str $n:str)=>do dT x.getId.toString (<- `(top $i)) p.getString n.getString
 | `(#check dD $x:ident $i:num $j:num $p:str $n:str)=>do dT x.getId.toString (<- `(ID (top $i) $j)) p.getString n.getString
local macro_rules | `(tactic| tm_at $s:str)=>sT s
local macro_rules | `(tactic| tm_at "ar")=>`(tactic| (intro ds M Q h;first | (cases h;subst_vars;rfl) | (repeat first | (let ⟨e,_⟩:=h;subst e;rfl) | let ⟨_,h⟩:=h)))
local macro_rules | `(tactic| lk)=>`(tactic| repeat tm_at "d")
local macro_rules | `(tactic| walk)=>`(tactic| repeat first | tm_at "d" |refine aA ?_)
local macro_rules | `(tactic| k_go)=>`(tactic| tm_at "d")
#check dD aa 2 0 "self line" ""
#check dD ab 10 "plan" "lines waiting pair parts"
#check dD ac 11 "depth statement" "word"
#check dD ad 12 "depth opening first between second" "parts"
#check dD ae 13 "depth statement" "heading measure parts"
#check dD af 14 "depth parts" ""
#check dD ag 15 "statement" "word"
#check dD ah 16 "rows" ""
#check dD ai 17 "row" ""
#check dD aj 18 "one" "text"
#check dD ak 19 "terms whole" "parts text number name sign"
#check dD al 20 0 "self parts" ""
#check dD am 20 1 "self" ""
#check dD an 21 "text" "lines opened last number line"
#check dD ao 22 "holds number" ""
#check dD ap 23 "opened last line number" "content tokens word depth"
#check dD aq 24 "tokens number" ""
#check dD ar 25 "inner last tokens number" "word"
#check dD au 26 "tokens number" "word row"
#check dD av 27 "opened word number" "inner kind count"
#check dD aw 28 "tokens number" "word"
#check dD ax 29 "tokens number" "fall"
#check dD ay 30 "tokens number" "parts token"
#check dD az 31 "tokens number" "added"
#check dD ba 32 "tokens number" "by"
#check dD bb 33 "tokens number" "signed behind terms"
#check dD bc 34 "tokens number" ""
#check dD bd 35 "tokens number" "weight"
#check dD be 36 "token number" "figures"
#check dD bf 37 "token" ""
#check dD bg 38 "token" ""
#check dD bh 39 "names number" ""
#check dD bi 41 "_law_script _law_k" ""
#check dD bj 42 "_law_cell_here" "_law_number_here _law_found _law_k"
#check dD bk 43 "_law_purse_here _law_many" "_law_at _law_found"
#check dD bl 44 "_law_state" "_law_at"
#check dD bm 45 "_law_purse_here" ""
#check dD bn 46 "_law_purse_here _law_names_here" "_law_found _law_name _law_weight"
#check dD bo 47 "_law_purse_here _law_names_here" "_law_by _law_terms_here"
#check dD bp 48 "_law_purse_here _law_names_here" "_law_word _law_terms_here"
#check dD bq 49 "_law_state _law_names_here _law_depth" "_law_purse_here _law_sort _law_row_here _law_many _law_name"
#check dD br 50 "_law_state _law_names_here _law_depth _law_purse_here" "_law_row_here _law_rows _law_measure _law_left _law_block_here"
#check dD bs 51 "_law_state _law_names_here _law_depth" "_law_purse_here _law_found _law_k"
#check dD bt 52 "_law_cells _law_first _law_names_here" "_law_state _law_found _law_purse_here _law_rows"
#check dD bu 53 "_law_cell_here" "_law_letters"
#check dD bv 54 "_law_terms_here _law_whole" "_law_parts _law_line _law_weight _law_tail"
#check dD bw 55 "_law_total" ""
#check dD bx 56 "_law_rows" "_law_lines_here _law_row_here"
#check dD bz 57 "_law_block_here _law_ahead" "_law_found _law_one"
#check dD ca 58 "_law_one _law_ahead" "_law_within _law_found"
#check dD cb 59 "_law_plan_here" "_law_found _law_name"
#check dD cc 60 "_law_script _law_at" "_law_cell_here _law_names_here _law_others _law_plan_here"
#check dD cd 61 "_law_lines_here" "_law_left _law_line _law_word _law_found _law_k"
#check dD ce 62 "_law_lines_here" "_law_found _law_refused e"
#check dD cf 63 "_law_script" "_law_plan_here _law_lines_here _law_cell_here _law_some _law_full _law_found _law_line _law_whole"
set_option hygiene false
local macro_rules | `(tactic| tm_at $s:str)=>WM s
local macro_rules | `(tactic| tm_at "tv")=>`(tactic| ((case n1=>rfl);(case n2=>rfl);(case n3=>first | exact Bh rfl | exact D0 (Bh rfl) | exact D0 (D0 rfl));(case n4=>decide);(case n5=>decide)))
local macro_rules | `(tactic| tm_at "ta")=>`(tactic| ((case n0=>exact nd);(case n1=>rfl);(case n2=>first | exact Bh rfl | exact D0 rfl);(case n3=>kernel_rfl);(case n4=>first | exact .inl rfl | exact .inr rfl)))
local macro_rules | `(tactic| tm_at "tg")=>`(tactic| ((case n0=>exact nd);(case n1=>rfl);(case n2=>first | exact Bh rfl | exact D0 rfl);(case n3=>first | exact .inl rfl | exact .inr rfl)))
local macro_rules | `(tactic| tm_at "tc")=>`(tactic| ((case n1=>exact hr);(case n2=>first | decide | lia);(case n3=>rfl);(case n4=>decide);(case n5=>rfl);(case n6=>rfl)))
local macro_rules | `(tactic| tm_at "tC")=>`(tactic| ((with_reducible refine' CT ?n0 ?n1 ?n2 ?_ ?n3 ?n4 ?n5 ?n6)))
local macro_rules | `(tactic| tm_at "tb")=>`(tactic| ((case n1=>rfl);(case n2=>rfl);(case n3=>rfl)))
local macro_rules | `(tactic| tm_at "cl")=>UV ["shown", "parts_of", "branch_parts", "loop_parts", "one_deeper", "shown_line", "shown_rows", "shown_row", "shown_sum", "shown_added", "read", "must", "read_line", "read_names", "read_heading", "read_opening", "read_turning", "read_plain", "read_measure", "read_rows", "read_row", "read_sum", "read_added", "read_term", "read_weight", "read_whole", "is_above_nought", "is_name", "must_be_in_order", "_law_cell", "_law_purse", "_law_take", "_law_next", "_law_number", "_law_terms", "_law_sum", "_law_row", "_law_statement", "_law_loop", "_law_block", "_law_plan", "_law_names", "_law_joined", "_law_sum_line", "_law_rows_line", "_law_lines", "_law_lines_of", "_law_all_lines", "_law_wild", "_law_closed", "_law_tried", "law"]
local macro_rules | `(tactic| tm_at "side")=>`(tactic| first | assumption | decide | lia)
local macro_rules | `(tactic| tm_at "mulside")=>`(tactic| first | assumption | exact mulOk)
local macro_rules | `(tactic| tm_at "divside")=>`(tactic| first | assumption | exact DA (by decide) | exact DA (by assumption) | exact DA (by lia))
local macro_rules | `(tactic| tm_at "modside")=>`(tactic| first | assumption | decide | lia)
local macro_rules | `(tactic| tm_at "powside")=>`(tactic| first | assumption | exact ⟨by decide,by decide,by decide⟩)
local macro_rules | `(tactic| tm_at "szside")=>`(tactic| first | (exact small (Cf rfl)) | (exact small (by simp;lia)) | (exact small (by lia)))
local macro_rules | `(tactic| tm_at "eC")=>`(tactic| first | with_reducible refine NM ?_ | with_reducible refine RV ?_ | with_reducible refine NN ?_ | with_reducible refine NO ?_)
local macro_rules | `(tactic| tm_at "eN")=>`(tactic| first | tm_at "var" |((with_reducible show EV _ _ _ (Expr.Name "int" _) _);(with_reducible refine' vQ ?n0 ?n1 ?_ ?n2 ?n3 ?n4);(case n0=>exact h_int);(case n1=>exact xU);(case n2=>rfl);(case n3=>decide);(case n4=>decide))|((with_reducible show EV _ _ _ (Expr.Name "tuple" _) _);(with_reducible refine' vQ ?n0 ?n1 ?_ ?n2 ?n3 ?n4);(case n0=>exact h_tuple);(case n1=>exact pR);(case n2=>rfl);(case n3=>decide);(case n4=>decide)))
local macro_rules | `(tactic| tm_at "eK")=>`(tactic| first | ((with_reducible show EV _ _ _ (Expr.Call (Expr.Name "str" _) [_] _ _) _);(with_reducible refine' JB ?n0 ?_ ?n1 ?n2 ?n3);(case n0=>exact h_str);tm_at "tb")|((with_reducible show EV _ _ _ (Expr.Call (Expr.Name "tuple" _) [_] _ _) _);(with_reducible refine AF ?n0 ?_ ?n1 ?n2 ?n3);(case n0=>exact h_tuple);tm_at "tb")|((with_reducible show EV _ _ _ (Expr.Call (Expr.Name "sorted" _) [_] _ _) _);(with_reducible refine vT ?n0 ?_ ?n1 ?n2 ?n3);(case n0=>exact h_sorted);tm_at "tb")|((with_reducible show EV _ _ _ (Expr.Call (Expr.Name "list" _) [_] _ _) _);(with_reducible refine DD ?n0 ?_ ?n1 ?n2 ?n3);(case n0=>exact h_list);tm_at "tb")|((with_reducible show EV _ _ _ (Expr.Call (Expr.Name "abs" _) _ _ _) _);(with_reducible refine OA ?n0 ?_ ?n1 ?n2 ?n3);(case n0=>exact h_abs);tm_at "tb")|((with_reducible show EV _ _ _ (Expr.Call (Expr.Name "len" _) _ _ _) _);(with_reducible refine OC ?n0 ?_ ?n1 ?n2 ?n3);(case n0=>exact h_len);tm_at "tb")|((with_reducible show EV _ _ _ (Expr.Call (Expr.Name "int" _) _ _ _) _);(with_reducible refine IT ?n0 ?_ ?n1 ?n2 ?n3);(case n0=>exact h_int);tm_at "tb")|((with_reducible show EV _ _ _ (Expr.Call (Expr.Name "min" _) [_,_] _ _) _);(with_reducible refine IN ?n0 ?n9 ?_ ?n1 ?n2 ?n3);(case n0=>exact h_min);(case n9=>rfl);tm_at "tb")|((with_reducible show EV _ _ _ (Expr.Call (Expr.Name "isinstance" _) [_,_] _ _) _);(with_reducible refine OD ?n0 ?_ ?n1 ?n2 ?n3);(case n0=>exact h_isinstance);tm_at "tb"))
local macro_rules | `(tactic| tm_at "eA")=>`(tactic| first | ((with_reducible show EV _ _ _ (Expr.Call (Expr.Attribute _ "join" _) [_] [] _) _);(with_reducible refine' JE ?_ ?n1 ?n2 ?n3 ?n4 ?n5);tm_at "tb";(case n4=>rfl);(case n5=>rfl))|((with_reducible show EV _ _ _ (Expr.Call (Expr.Attribute _ "append" _) [_] [] _) _);(with_reducible refine AE ?_ ?n1 ?n2 ?n3 ?n4 ?n5);tm_at "tb";(case n4=>rfl);(case n5=>rfl))|((with_reducible show EV _ _ _ (Expr.Call (Expr.Attribute _ "extend" _) [_] [] _) _);(with_reducible refine AJ ?_ ?n1 ?n2 ?n3 ?n4 ?n5);tm_at "tb";(case n4=>rfl);(case n5=>rfl))|((with_reducible show EV _ _ _ (Expr.Call (Expr.Attribute _ "reverse" _) [] [] _) _);(with_reducible refine vY ?_ ?n1 ?n2);(case n1=>rfl);(case n2=>rfl))|((with_reducible show EV _ _ _ (Expr.Call (Expr.Attribute _ "pop" _) [] [] _) _);(with_reducible refine OX ?_ ?n1 ?n2);(case n1=>rfl);(case n2=>rfl)))
local macro_rules | `(tactic| tm_at "eB")=>`(tactic| first | with_reducible refine NU ?_ | with_reducible refine TB ?_ | with_reducible refine TC ?_ | with_reducible refine OL ?_ | with_reducible refine TD ?_ | with_reducible refine TF ?_)
local macro_rules | `(tactic| tm_at "eM")=>`(tactic| first | with_reducible refine VT ?_ | with_reducible refine VU ?_ | with_reducible refine VV ?_ | ((with_reducible show EV _ _ _ (Expr.Compare _ [CmpOp.Eq] _ _) _);(with_reducible refine TK ?n0 ?_);(case n0=>exact hr.units)) | ((with_reducible show EV _ _ _ (Expr.Compare _ [CmpOp.NotEq] _ _) _);(with_reducible refine VW ?n0 ?_);(case n0=>exact hr.units)) | ((with_reducible show EV _ _ _ (Expr.Compare _ [CmpOp.In] _ _) _);(with_reducible refine WA ?n1 ?_ ?n0);(case n1=>exact hr.units);(case n0=>rfl)) | with_reducible refine SH ?_)
local macro_rules | `(tactic| tm_at "eS")=>`(tactic| first | ((with_reducible show EV _ _ _ (Expr.Subscript _ (Expr.Constant _ _ _) _) _);(with_reducible refine kT ?n1 ?_ ?n0);(case n1=>exact hr.units);(case n0=>(intro _ _;rfl))) | ((with_reducible show EV _ _ _ (Expr.Subscript _ (Expr.UnaryOp _ _ _) _) _);(with_reducible refine kT ?n1 ?_ ?n0);(case n1=>exact hr.units);(case n0=>(intro _ _;rfl))) | ((with_reducible show EV _ _ _ (Expr.Subscript _ (Expr.Name _ _) _) _);(with_reducible refine kT ?n1 ?_ ?n0);(case n1=>exact hr.units);(case n0=>(intro _ _;rfl))) | ((with_reducible show EV _ _ _ (Expr.Subscript _ (Expr.BinOp _ _ _ _) _) _);(with_reducible refine kT ?n1 ?_ ?n0);(case n1=>exact hr.units);(case n0=>(intro _ _;rfl))) | ((with_reducible show EV _ _ _ (Expr.Subscript _ (Expr.Call _ _ _ _) _) _);(with_reducible refine kT ?n1 ?_ ?n0);(case n1=>exact hr.units);(case n0=>(intro _ _;rfl))) | ((with_reducible show EV _ _ _ (Expr.Subscript _ (Expr.Subscript _ _ _) _) _);(with_reducible refine kT ?n1 ?_ ?n0);(case n1=>exact hr.units);(case n0=>(intro _ _;rfl))))
local macro_rules | `(tactic| tm_at "eU")=>`(tactic| first | with_reducible refine TG ?_)
local macro_rules | `(tactic| tm_at "eL")=>`(tactic| first | with_reducible refine NR ?_ | with_reducible refine CH ?_ | with_reducible refine RX ?_)
local macro_rules | `(tactic| tm_at "eO")=>`(tactic| first | with_reducible refine CI ?_ | with_reducible refine NS ?_ | with_reducible refine NT ?_)
local macro_rules | `(tactic| tm_at "tv")=>`(tactic| first | with_reducible refine TH ?_ | with_reducible refine TJ ?_ | with_reducible refine NQ ?_ | ((with_reducible show TV _ _ _ (Expr.Compare _ [CmpOp.Eq] _ _) _);(with_reducible refine TL ?n0 ?_);(case n0=>exact hr.units)) | ((with_reducible show TV _ _ _ (Expr.Compare _ [CmpOp.NotEq] _ _) _);(with_reducible refine TM ?n0 ?_);(case n0=>exact hr.units)) | ((with_reducible show TV _ _ _ (Expr.Compare _ [CmpOp.In] _ _) _);(with_reducible refine TQ ?n1 ?_ ?n0);(case n1=>exact hr.units);(case n0=>rfl)) | with_reducible refine SI ?_ | with_reducible refine DP ?_ | ((with_reducible show TV _ _ _ (Expr.Call _ _ _ _) _);(with_reducible refine IU ?_ ?n0);(case n0=>(intro _;rfl))) | with_reducible refine TW.tv (CG ?_) | with_reducible refine TW.tv (LU ?_))
local macro_rules | `(tactic| tm_at "tw")=>`(tactic| first | with_reducible refine IF ?_ | with_reducible refine vR ?_ | with_reducible refine CG ?_ | with_reducible refine LU ?_)
local macro_rules | `(tactic| tm_at "av")=>`(tactic| first | with_reducible refine kQ ?_ | ((with_reducible show AV _ _ _ (_ :: _) _);(with_reducible refine fJ ?_ ?n0);(case n0=>rfl)))
local macro_rules | `(tactic| tm_at "xs")=>`(tactic| first | with_reducible refine bQ ?_ | with_reducible refine bH ?_ | ((with_reducible show EXs _ _ _ (Stmt.Assign _ _ _ :: _) _);with_reducible refine aA ?_) | ((with_reducible show EXs _ _ _ (Stmt.Expr _ _ :: _) _);with_reducible refine aA ?_))
local macro_rules | `(tactic| tm_at "ex")=>`(tactic| first | with_reducible refine SJ ?_ | with_reducible refine CM ?_ | ((with_reducible show EX _ _ _ (Stmt.Expr _ _) _);(with_reducible refine IQ ?_ ?n0);(case n0=>kernel_rfl)) | ((fail_if_success (with_reducible show EX _ _ _ (Stmt.Assign _ (Expr.ListComp _ _ _ _) _) _));tm_at "asg")|((with_reducible show EX _ _ _ (Stmt.Assign [Expr.Subscript _ _ _] _ _) _);(with_reducible refine CO ?_ ?n1 ?n2 ?n3);(case n1=>kernel_rfl);(case n2=>kernel_rfl);(case n3=>rfl))|((with_reducible show EX _ _ _ (Stmt.Assign [Expr.Tuple _ _ _] _ _) _);(with_reducible refine CO ?_ ?n1 ?n2 ?n3);(case n1=>kernel_rfl);(case n2=>kernel_rfl);(case n3=>rfl)))
local macro_rules | `(tactic| tm_at "gv")=>`(tactic| first | tm_at "gvn" |((with_reducible show GV _ _ _ (Expr.Subscript _ _ _) _ _);(with_reducible refine OP ?n1 ?_ ?n2);(case n1=>exact hr.units);(case n2=>(intro _;rfl)))|((with_reducible show GV _ _ _ (Expr.Tuple _ _ _) (D.tup _) _);(with_reducible refine nC ?n1 ?_ ?n2 ?n3);tm_at "tb"))
local macro_rules | `(tactic| tm_at "gs")=>`(tactic| first | ((with_reducible show GVs _ _ _ (_ :: _) (_ :: _) _);(with_reducible refine dH ?_ ?n1);(case n1=>rfl)) | with_reducible refine jM ?_)
local macro_rules | `(tactic| tm_at "ts")=>`(tactic| first | with_reducible refine cW ?_)
local macro_rules | `(tactic| tm_at "lI")=>`(tactic| first | ((with_reducible show ite (true=true) _ _);refine ifT ?_) | ((with_reducible show ite (false=true) _ _);refine ifF ?_) | ((with_reducible show ite ((!true)=true) _ _);refine OM ?_) | ((with_reducible show ite ((!false)=true) _ _);refine VX ?_))
local macro_rules | `(tactic| tm_at "lE")=>`(tactic| first | ((with_reducible show ∃ k,D.bl _=D.bl k/\_);refine ⟨_,rfl,?_⟩) | ((with_reducible show ∃ k,D.int _=D.int k/\_);refine ⟨_,rfl,?_⟩) | ((with_reducible show ∃ k,AC _ (D.bl _) _ k/\_);refine ⟨_,rfl,?_⟩) | ((with_reducible show ∃ k,AC _ (D.tup _) _ k/\_);refine ⟨_,rfl,?_⟩) | ((with_reducible show ∃ k,AC _ (D.int _) _ k/\_);refine ⟨_,rfl,?_⟩) | ((with_reducible show ∃ k,AD _ _ k/\_);refine ⟨_,rfl,?_⟩) | ((with_reducible show ∃ k,[D.int _]=[D.int k]/\_);refine ⟨_,rfl,?_⟩) | ((with_reducible show ∃ i j,[D.int _,D.int _]=[D.int i,D.int j]/\_);refine ⟨_,_,rfl,?_⟩))
local macro_rules | `(tactic| tm_at "lA")=>`(tactic| first | ((with_reducible show _<=An/\_);refine ⟨by tm_at "szside",?_⟩)|((with_reducible show D.non=D.non/\_);refine ⟨rfl,?_⟩))
local macro_rules | `(tactic| tm_at "lP")=>`(tactic| first | ((with_reducible show PowL (D.int 10) (D.int 12) _ _);refine pU (k:=1000000000000) (by decide +kernel) ⟨by decide,by decide,by decide⟩ ?_) | ((with_reducible show PowL (D.int 10) (D.int 18) _ _);refine pU (k:=1000000000000000000) (by decide +kernel) ⟨by decide,by decide,by decide⟩ ?_) | ((with_reducible show PowL (D.int 10) (D.int 19) _ _);refine pU (k:=10000000000000000000) (by decide +kernel) ⟨by decide,by decide,by decide⟩ ?_) | ((with_reducible show PowL (D.int 10) (D.int 40) _ _);refine pU (k:=10000000000000000000000000000000000000000) (by decide +kernel) ⟨by decide,by decide,by decide⟩ ?_) | ((with_reducible show PowL (D.int 10) (D.int 50) _ _);refine pU (k:=100000000000000000000000000000000000000000000000000) (by decide +kernel) ⟨by decide,by decide,by decide⟩ ?_) | ((with_reducible show PowL (D.int 10) (D.int 59) _ _);refine pU (k:=100000000000000000000000000000000000000000000000000000000000) (by decide +kernel) ⟨by decide,by decide,by decide⟩ ?_))
local macro_rules | `(tactic| tm_at "lf")=>`(tactic| first | with_reducible refine OI ?_ | with_reducible refine SM ?_ | with_reducible refine SR ?_ | with_reducible refine SS ?_ | with_reducible refine ST ?_ | with_reducible refine SV ?_ | with_reducible refine SU ?_ | ((with_reducible show MulL (D.int _) (D.int _) _ _);refine SN (by tm_at "mulside") ?_)|((with_reducible show DivL (D.int _) (D.int _) _ _);refine SO (by tm_at "divside") ?_)|((with_reducible show ModL (D.int _) (D.int _) _ _);refine SQ (by tm_at "modside") ?_)|((with_reducible show IxA (D.tup _) (D.int _) _ _);refine CW rfl ?_)|with_reducible refine rH ?_|((with_reducible show PowL _ _ _ _);tm_at "lP"))
local macro_rules | `(tactic| tm_at "eV")=>`(tactic| first | ((with_reducible show EV _ _ _ (Expr.Name _ _) _);tm_at "eN")|((with_reducible show EV _ _ _ (Expr.Constant _ _ _) _);tm_at "eC")|((with_reducible show EV _ _ _ (Expr.Call (Expr.Attribute _ _ _) _ _ _) _);tm_at "eA")|((with_reducible show EV _ _ _ (Expr.Call (Expr.Name _ _) _ _ _) _);first|tm_at "eK" |tm_at "cl")|((with_reducible show EV _ _ _ (Expr.Subscript _ _ _) _);tm_at "eS")|((with_reducible show EV _ _ _ (Expr.BinOp _ _ _ _) _);tm_at "eB")|((with_reducible show EV _ _ _ (Expr.Compare _ _ _ _) _);tm_at "eM")|((with_reducible show EV _ _ _ (Expr.UnaryOp _ _ _) _);tm_at "eU")|((with_reducible show EV _ _ _ (Expr.BoolOp _ _ _) _);tm_at "eL")|tm_at "eO")
local macro_rules | `(tactic| tm_at "d")=>`(tactic| first
 |((with_reducible show EV _ _ _ _ _);tm_at "eV")
 |((with_reducible show Exists _);tm_at "lE")
 |((with_reducible show ite _ _ _);tm_at "lI")
 |((with_reducible show TV _ _ _ _ _);tm_at "tv")
 |((with_reducible show And _ _);tm_at "lA")
 |((with_reducible show AV _ _ _ _ _);tm_at "av")
 |((with_reducible show EXs _ _ _ _ _);tm_at "xs")
 |((with_reducible show EX _ _ _ _ _);tm_at "ex")
 |tm_at "lf"
 |((with_reducible show GV _ _ _ _ _ _);tm_at "gv")
 |((with_reducible show GVs _ _ _ _ _ _);tm_at "gs")
 |((with_reducible show TW _ _ _ _ _);tm_at "tw")
 |((with_reducible show TVs _ _ _ _ _);tm_at "ts"))
section
variable {P:Program}{w:World}{K:Ad}{mg:Str->Option Value}{base:Heap}{f:Addr}{fd:FuncData}
local macro_rules | `(tactic| tm_at $s:str)=>bJ n_bj s
theorem ok_l_purse(F:Fun K "_law_purse" "_law_purse" s_bj f fd)(h_range:mg "range"=none)(h_abs:mg "abs"=none):F8 P w K mg base CX0 1 f fd P_bj (aD K spPurse):=by
 tm_at "F bj"
 let ⟨c,rfl,Z,q⟩:=h
 have:=Z.bd
 refine aA ?_
 lk
 have hl:=cX (a:=c) (b:=2147483647) (by decide)
 generalize c.fmod 2147483647=n0 at hl ⊢
 refine aA ?_
 refine jN PassesOwn.never rfl h_range ?_
 lk
 exists _,λi O M'=>∃(n g:Int) (r:Option D),O=[some (.int c),some (.int n),some (.int g),r]/\M'=M/\0<=n/\n<2147483647/\0<=g/\Bd g (40*i+1),rfl,by decide,by decide,#v[n0,1,none,rfl,rfl,hl.1,by lia,by decide,#v[by decide]],?_,?_
 ·rintro i O M' hi ⟨n,g,r,rfl,rfl,S,Y,hg,bg⟩
  refine bC 3 nd ?_
  try (refine fK ?_;intro EL)
  have hi:i<16:=hi
  have bn:Bd n 40:=.rng (by lia) (by lia)
  have b1:Bd g 700:=bg.up' (by lia)
  have bi:Bd (i:Int) 40:=.rng (by lia) (by lia)
  lk
  have I:=cX (a:=n*n+48271*(i:Int)*i+i+3) (b:=2147483629) (by decide)
  generalize (n*n+48271*(i:Int)*i+i+3).fmod 2147483629=n2 at I ⊢
  have bn2:Bd n2 40:=.rng (by lia) (by lia)
  lk
  have V:=cX (a:=n2*n2) (b:=2147483587) (by decide)
  generalize (n2*n2).fmod 2147483587=n3 at V ⊢
  exists n2,_,_,rfl,rfl,I.1,by lia,by lia,?_
  have L:Bd n3 31:=.rng (by lia) (by lia)
  exists ?_
  have h1:=bg.h
  have h2:=L.h
  have e:(2:Nat)^(40*(i+1)+1)=2^(40*i+1)*2^40:=by rw[<- Nat.pow_add];congr 1<;>lia
  rw[e]
  have h3:g.natAbs*2147483587+2^31<=2^(40*i+1)*2^40:=by
   have J:1<=2^(40*i+1):=Nat.pow_pos (by decide)
   lia
  have h4:(g*2147483587+n3).natAbs<=g.natAbs*2147483587+n3.natAbs:=by
   have:=Int.natAbs_add_le (g*2147483587) n3
   rw[Int.natAbs_mul]at this
   exact this
  lia
 ·rintro O M' ⟨n,g,r,rfl,rfl,S,Y,hg,bg⟩
  refine aA ?_
  lk
  refine ifD ?_ ?_
  ·intro _
   lk
   intro p J
   refine q p _ J #v[_,_,FB,?_,hg] (aB J)
   rw[CY]
   exact F0 (Dc _) (by decide)
  ·intro _
   lk
   intro p J
   exact q p _ J #v[_,_,FB,by decide,hg] (aB J)
local macro_rules | `(tactic| tm_at $s:str)=>bJ n_bk s
theorem ok_l_take(F:Fun K "_law_take" "_law_take" s_bk f fd)(h_int:mg "int"=none):F8 P w K mg base CX0 1 f fd P_bk (aD K spTake):=by
 tm_at "F bk"
 let ⟨p,m,rfl,⟨x,y,L,hx,hy⟩,hm,hl,q⟩:=h
 have O:∀ z,jL z m:=λz=>Lim.div (by lia) hl
 have J:∀(n:Int) (v:Int) (j:Nat),ixN 2 n=some j->atI [D.int x,D.int y] n=some (.int v)->0<=v->(∀ r M',0<=r->r<m->M'=FF M p (.lst ([D.int x,D.int y].set j (.int (v.fdiv m))))->Q (.int r) M') ->
   EXs (eX CX0 P w K mg base N_bk "_law_take" (aZ s_bk) f cdv A outer s H EE).nox [some (.ref p),some (.int m),some (.int n),none] M ((cI s_bk).drop 1) { nx:=λ_ M'=>Q .non M',rt:=Q }:=by
  intro n v j hj S V q
  refine aA ?_
  lk
  refine aF L S ?_
  have d1:=O v
  lk
  refine aF L S ?_
  lk
  refine dJ L hj ?_
  lk
  have I:=cX (a:=v) (b:=m) hm
  exact q _ _ I.1 I.2 rfl
 refine aA ?_
 lk
 refine aF L rfl ?_
 lk
 refine D0 #v[_,rfl,?_]
 by_cases c:x=0
 ·rw[decide_eq_true c]
  refine J 1 y 1 rfl rfl hy λr M' h1 h2 e=>?_
  subst e
  exact q r _ h1 h2 #v[_,_,FB,hx,F0 hy (by lia)] (Kp.put (by simp))
 ·rw[decide_eq_false c]
  refine J 0 x 0 rfl rfl hx λr M' h1 h2 e=>?_
  subst e
  exact q r _ h1 h2 #v[_,_,FB,F0 hx (by lia),hy] (Kp.put (by simp))
local macro_rules | `(tactic| tm_at $s:str)=>bJ n_bi s
theorem ok_l_cell(F:Fun K "_law_cell" "_law_cell" s_bi f fd)(h_len:mg "len"=none):F8 P w K mg base CX0 1 f fd P_bi (aD K spCell):=by
 tm_at "F bi"
 let ⟨l,ns,k,rfl,hl,L,S,hk,q⟩:=h
 refine aA ?_
 lk
 exists _,_,rfl,D0 #v[_,hl,rfl],?_
 lk
 rw[Ab]
 refine ifD ?_ ?_
 ·intro O
  lk
  let ⟨J,rfl⟩:=Co hk
  have I:J<ns.length:=by lia
  refine TN (d:=.int ns[J]) hl (aX (by rw[Ar,Bm I]<;>rfl)) ?_
  exact q _ (L _ (Dq I))
 ·intro _
  lk
  exact q _ Cell.of
local macro_rules | `(tactic| tm_at $s:str)=>bJ n_bm s
theorem ok_l_number(F:Fun K "_law_number" "_law_number" s_bm f fd)(C_l_take:Cal P w K mg base 1 "_law_take" spTake):F8 P w K mg base CX0 2 f fd P_bm (aD K spNumber):=by
 tm_at "F bm"
 let ⟨p,rfl,pu,q⟩:=h
 refine aA ?_
 lk
 exists _,_,rfl,pu,by decide,lim,λr M1 h1 h2 I k1=>?_
 lk
 refine ifD ?_ ?_
 ·intro _
  lk
  intro l hl
  lk
  exists _,_,rfl,I.ext (aB hl),by decide,lim,λJ O h3 h4 L k2=>?_
  have S:l≠p:=(I.ne hl).symm
  have V:O l=some (.lst [.int 0,.int 1,.int (-1),.int 2,.int (-3),.int 5,.int 1]):=k2.at FB (by simp[S])
  have Z:∃ b:Int,atI [D.int 0,.int 1,.int (-1),.int 2,.int (-3),.int 5,.int 1] J=some (.int b)/\B 64 b:=by
   have:J=0\/J=1\/J=2\/J=3\/J=4\/J=5\/J=6:=by lia
   rcases this with rfl|rfl|rfl|rfl|rfl|rfl|rfl
   ·exact #v[0,rfl,by unfold B;decide]
   ·exact #v[1,rfl,by unfold B;decide]
   ·exact #v[-1,rfl,by unfold B;decide]
   ·exact #v[2,rfl,by unfold B;decide]
   ·exact #v[-3,rfl,by unfold B;decide]
   ·exact #v[5,rfl,by unfold B;decide]
   ·exact #v[1,rfl,by unfold B;decide]
  let ⟨b,eb,Y⟩:=Z
  lk
  refine aF V eb ?_
  exact q b O Y L (k1.trans ((Kp.new hl).trans k2))
 ·intro _
  lk
  exists _,_,rfl,I,by lia,lim,λJ O h3 h4 L k2=>?_
  lk
  have bd:Bd (J-10000000000000000000) 64:=.rng (by lia) (by lia)
  exact q _ O bd.b L (k1.trans k2)
local macro_rules | `(tactic| tm_at $s:str)=>bJ n_bn s
theorem ok_l_terms(F:Fun K "_law_terms" "_law_terms" s_bn f fd)(h_tuple:mg "tuple"=none)(C_l_number:Cal P w K mg base 2 "_law_number" spNumber):F8 P w K mg base CX0 3 f fd P_bn (aD K spTerms):=by
 tm_at "F bn"
 let ⟨p,ss,rfl,Z,b2,q⟩:=h
 refine aA ?_
 lk
 intro l hl
 have L:l≠p:=(Z.ne hl).symm
 refine aA (gB PassesOwn.never rfl ?_)
 lk
 refine #v[ss.map D.str,λi G' M'=>∃(ts:List (Str×Int)) (r3 r4:Option D),G'=[some (.ref p),some (nms ss),some (.ref l),r3,r4]/\M' l=some (.lst (ts.map tD))/\Terms (ss.take i) ts/\Pu M' p/\Kp [p] M M',rfl,
  #v[[],none,none,rfl,FB,#v[by simp,by simp],Z.ext (aB hl),Kp.new hl],?_,?_]
 ·rintro i d G' M' hd ⟨ts,r3,r4,rfl,ml,J,S,V⟩
  rw[Ar]at hd
  cases hs:ss[i]? with
  |none=>rw[hs]at hd;cases hd
  |some x =>
   rw[hs]at hd
   have hd:D.str x=d:=by simpa using hd
   subst hd
   have b3:i<ss.length:=(Ax.mp hs).1
   have htk:ss.take (i+1)=ss.take i++[x]:=by rw[Cm,hs];rfl
   have b1:ts.length<=5:=by
    have:=J.len
    rw[Bt]at this;lia
   lk
   exists _,rfl,S,λn M2 ln Y k2=>?_
   have O:M2 l=some (.lst (ts.map tD)):=k2.at ml (by simp[L])
   lk
   refine ifN ?_ ?_
   ·intro hn
    lk
    exists l,rfl,#v[_,O],?_
    lk
    exists _,O,aT (by rw[Ab];lia),?_
    exists ts++[(x,n)],_,_,rfl,?_,#v[?_,?_],?_,?_
    ·rw[FB,Ai];rfl
    ·rw[htk,Ai]
     exact List.Sublist.append J.sub (List.Sublist.refl _)
    ·intro t I
     rcases Aq.mp I with I|I
     ·exact J.wt t I
     ·rw[Al.mp I];exact #v[hn,ln]
    ·let ⟨a,b,e,ha,hb⟩:=Y
     exact #v[a,b,by rw[aC L.symm];exact e,ha,hb]
    ·intro b o hb e
     rw[aC (aU e hl)]
     exact (V.trans k2) b o hb e
   ·intro hn
    refine bQ ?_
    exists ts,_,_,rfl,O,#v[?_,J.wt],Y,V.trans k2
    rw[htk]
    exact J.sub.trans (List.sublist_append_left _ _)
 ·rintro G' M' ⟨ts,r3,r4,rfl,ml,J,S,V⟩
  rw[Ab,Bx]at J
  lk
  exists _,rfl,_,ml,?_
  exact q ts M' J S V
end
section
variable {P:Program}{w:World}{K:Ad}{base:Heap}{f:Addr}
local macro_rules | `(tactic| tm_at $s:str)=>bJ n_bo s
theorem ok_l_sum(F:Fun K "_law_sum" "_law_sum" s_bo f fd)(C_l_take:Cal P w K mg base 1 "_law_take" spTake)(C_l_terms:Cal P w K mg base 3 "_law_terms" spTerms)(C_l_number:Cal P w K mg base 2 "_law_number" spNumber):F8 P w K mg base CX0 4 f fd P_bo (aD K spSum):=by
 tm_at "F bo"
 let ⟨p,ss,rfl,J,L,q⟩:=h
 refine aA ?_
 lk
 intro l hl
 lk
 exists _,_,rfl,J.ext (aB hl),by decide,lim,λr M1 h1 h2 O k1=>?_
 have V:l≠p:=(J.ne hl).symm
 have Y:M1 l=some (.lst [.int 1,.int 1,.int 2,.int 1,.int 3,.int 0]):=k1.at FB (by simp[V])
 have S:∃ b:Int,atI [D.int 1,.int 1,.int 2,.int 1,.int 3,.int 0] r=some (.int b)/\0<=b/\b<=3:=by
  have:r=0\/r=1\/r=2\/r=3\/r=4\/r=5:=by lia
  rcases this with rfl|rfl|rfl|rfl|rfl|rfl
  ·exact #v[1,rfl,by decide,by decide]
  ·exact #v[1,rfl,by decide,by decide]
  ·exact #v[2,rfl,by decide,by decide]
  ·exact #v[1,rfl,by decide,by decide]
  ·exact #v[3,rfl,by decide,by decide]
  ·exact #v[0,rfl,by decide,by decide]
 let ⟨b,eb,b1,b2⟩:=S
 have k2:Kp [p] M M1:=(Kp.new hl).trans k1
 lk
 refine aF Y eb ?_
 refine bS (λG' M'=>∃ b:Int,G'=[some (.ref p),some (nms ss),some (.int b),none]/\Kp [p] M M'/\Pu M' p/\0<b/\B 64 b) ?_ ?_
 ·lk
  refine ifD ?_ ?_
  ·intro _
   lk
   exists _,_,rfl,O,by lia,lim,λr2 M2 h3 h4 I k3=>?_
   lk
   have bd:Bd (1+r2) 64:=.rng (by lia) (by lia)
   exact #v[_,rfl,k2.trans k3,I,by lia,bd.b]
  ·intro _
   refine bQ ?_
   have bd:Bd b 64:=.rng (by lia) (by lia)
   exact #v[_,rfl,k2,O,by lia,bd.b]
 rintro G' M' ⟨b,rfl,k,J,S,lb⟩
 lk
 exists _,_,rfl,J,L,λts M2 ht I k3=>?_
 lk
 exists _,rfl,I,λn M3 ln Z k4=>?_
 lk
 exact q ts n b M3 ht ln S lb Z (k.trans (k3.trans k4))
end
theorem wX(r:Int)(I:0<=r)(h1:r<26):atI (Str.cps "abcdefghijklmnopqrstuvwxyz").toList r=some (97+r.toNat):=by
 let ⟨k,rfl⟩:=Co I
 refine aX ?_
 have hk:k<26:=by lia
 have:∀ k:Fin 26,(Str.cps "abcdefghijklmnopqrstuvwxyz").toList[k.val]?=some (97+k.val):=by lia
 exact this #v[k,hk]
def uM(c:Int)(k:Nat):Str:=#v[#[97+((c.fmod 26+7*(k:Int)).fmod 26).toNat]]
def MJ(c:Int):D->D
 |.int k=>.str (uM c k.toNat)
 |_=>.non
theorem uN(c:Int)(k:Nat):F7 (uM c k):=by
 have:=cX (a:=c.fmod 26+7*(k:Int)) (b:=26) (by decide)
 exact #v[_,by lia,by lia,rfl]
theorem GT(I:i<3)(hj:j<3)(h:uM c i=uM c j):i=j:=by
 have h1:=cX (a:=c.fmod 26+7*(i:Int)) (b:=26) (by decide)
 have h2:=cX (a:=c.fmod 26+7*(j:Int)) (b:=26) (by decide)
 have e:97+((c.fmod 26+7*(i:Int)).fmod 26).toNat=97+((c.fmod 26+7*(j:Int)).fmod 26).toNat:=by
  have:=congrArg (λs:Str=>s.cps[0]?) h
  simpa [uM] using this
 have e2:(c.fmod 26+7*(i:Int)).fmod 26=(c.fmod 26+7*(j:Int)).fmod 26:=by lia
 generalize c.fmod 26=a at *
 rw[D1 (a+7*(i:Int)) (by decide),D1 (a+7*(j:Int)) (by decide)]at e2
 lia
section
variable {P:Program}{w:World}{K:Ad}{base:Heap}{f:Addr}
local macro_rules | `(tactic| tm_at $s:str)=>bJ n_bu s
theorem ok_l_names(F:Fun K "_law_names" "_law_names" s_bu f fd)(h_tuple:mg "tuple"=none)(h_sorted:mg "sorted"=none)(h_range:mg "range"=none):F8 P w K mg base CX0 1 f fd P_bu (aD K spNames):=by
 tm_at "F bu"
 let ⟨c,rfl,hc,q⟩:=h
 have bc:=hc.bd
 refine aA ?_
 lk
 with_reducible refine' oZ (own:=["_law_k"]) (js:=[1,0]) (N:=["_law_k", "_law_letters", "_law_cell_here"]) ?T ?xe ?ca ?hm (MJ c) (λ_=>true) ?_ ?hg ?hse ?hs
 case T=>exact bW (fs:=["_law_letters", "_law_cell_here"]) rfl (by lia) (by lia) rfl rfl rfl rfl rfl
 case xe=>rfl
 case ca=>rfl
 case hm=>exact h_range
 case hg=>rfl
 case hse=>rfl
 case hs=>(intro _;rfl)
 lk
 have h3:=cX (a:=(c.fdiv 26)) (b:=3) (by decide)
 generalize hm:(c.fdiv 26).fmod 3=m at h3 ⊢
 exists by lia,by lia,?_,?_
 ·rintro Y ⟨C',s',H',fp,rfl⟩ M' hM i hi
  refine bC 0 (by show (["_law_k", "_law_letters", "_law_cell_here"]:List Str).Nodup;lia) ?_
  exists rfl,λi d e=>?_,cW #v[rfl,rfl],λ_=>?_
  ·rcases i with _|i
   ·simp[aN]at e
   ·exact e
  ·have b1:(i:Int)<3:=by lia
   have bi:Bd (i:Int) 40:=.rng (by lia) (by lia)
   repeat first|(refine aP 0 ?_)|(refine aP 1 ?_)|(refine aP 2 ?_)|k_go
   have J:=cX (a:=c.fmod 26+7*(i:Int)) (b:=26) (by decide)
   refine LY (by decide) (wX _ J.1 J.2) ?_
   exact #v[rfl,rfl]
 ·intro p0 hp0
  have O:((((Ca (1+m).toNat).map λi:Nat=>D.int i).filter λ_=>true).map (MJ c))=((Ca (1+m).toNat).map (uM c)).map D.str:=by
   rw[B9.mpr (by simp),By,By]
   rfl
  rw[O]
  have L:((Ca (1+m).toNat).map (uM c)).Nodup:=by
   have hb:(1+m).toNat<=3:=by lia
   unfold List.Nodup
   rw[List.pairwise_map]
   refine List.Pairwise.imp_of_mem (R:=λa b=>a≠b) (λ{a b} ha hb' hne e=>hne (GT (c:=c) (by have:=El.mp ha;lia) (by have:=El.mp hb';lia) e)) List.nodup_range
  generalize hss:(Ca (1+m).toNat).map (uM c)=ss at L
  have b2:ss.length=(1+m).toNat:=by rw[<- hss,Ab,Bo]
  lk
  exists p0,ss,rfl,FB,by lia,λp1 V Z I S=>?_
  lk
  exists _,rfl,_,FB,?_
  refine q V _ #v[by rw[I.length_eq];lia,by rw[I.length_eq];lia,I.nodup_iff.mpr L,λs hs=>?_] (by rw[I.length_eq];lia) (b6 (aB hp0) (aB Z))
  have:=I.mem_iff.mp hs
  rw[<- hss]at this
  let ⟨k,_,rfl⟩:=A5.mp this
  exact uN c k
local macro_rules | `(tactic| tm_at $s:str)=>bJ n_bp s
theorem ok_l_row(F:Fun K "_law_row" "_law_row" s_bp f fd)(C_l_take:Cal P w K mg base 1 "_law_take" spTake)(C_l_terms:Cal P w K mg base 3 "_law_terms" spTerms)(C_l_number:Cal P w K mg base 2 "_law_number" spNumber):F8 P w K mg base CX0 4 f fd P_bp (aD K spRow):=by
 tm_at "F bp"
 let ⟨p,ss,rfl,J,I,q⟩:=h
 refine aA ?_
 lk
 intro l hl
 lk
 exists _,_,rfl,J.ext (aB hl),by decide,lim,λr Z h1 h2 Y k1=>?_
 have S:l≠p:=(J.ne hl).symm
 have O:Z l=some (.lst [.str "least",.str "more"]):=k1.at FB (by simp[S])
 have hb:∃ k:Bool,atI [D.str "least",.str "more"] r=some (.str (word k)):=by
  have:r=0\/r=1:=by lia
  rcases this with rfl|rfl
  ·exact #v[true,rfl]
  ·exact #v[false,rfl]
 let ⟨k,eb⟩:=hb
 have k2:Kp [p] M Z:=(Kp.new hl).trans k1
 lk
 refine aF O eb ?_
 lk
 exists _,_,rfl,Y,I,λts M2 ht L k3=>?_
 lk
 exists _,rfl,L,λn M3 ln V k4=>?_
 lk
 exact q k ts n M3 ht ln V (k2.trans (k3.trans k4))
local macro_rules | `(tactic| tm_at $s:str)=>bJ n_bl s
theorem ok_l_next(F:Fun K "_law_next" "_law_next" s_bl f fd)(h_len:mg "len"=none)(C_l_purse:Cal P w K mg base 1 "_law_purse" spPurse):F8 P w K mg base CX0 2 f fd P_bl (aD K spNext):=by
 tm_at "F bl"
 let ⟨p,c,Y,i,n,rfl,st,O,q⟩:=h
 refine aA ?_
 lk
 refine aF st.st rfl ?_
 lk
 refine dJ st.st rfl ?_
 generalize hM2:FF M p _=M2
 let ⟨I,k2,L⟩:=st.upd (j:=i+1) (m:=n) hM2 rfl
 refine aA ?_
 lk
 refine aF I.st rfl ?_
 lk
 exists _,_,rfl,Bh #v[_,I.cl,rfl],?_
 rw[Ab]
 lk
 refine ifD ?_ ?_
 ·intro S
  have S:i<Y.length:=by lia
  lk
  refine aF I.st rfl ?_
  lk
  refine aF (d:=.int Y[i]) I.cl (aX (by rw[Ar,Bm S]<;>rfl)) ?_
  lk
  exists _,rfl,O.2 _ (Dq _),λV M3 J Z k3=>?_
  exact q V M3 (L _ J) Z (I.ext k3) (k2.trans (Kp.ext k3))
 ·intro _
  lk
  intro V J
  exact q V _ (L _ J) #v[0,0,FB,by decide,by decide] (I.ext (aB J)) (k2.trans (Kp.new J))
end
section
variable {P:Program}{w:World}{K:Ad}{mg:Str->Option Value}{base:Heap}{f:Addr}{fd:FuncData}
theorem yY{ss:List Str}(h:Names ss){r:Int}(I:0<=r)(h1:r<ss.length):∃ x,atI (ss.map D.str) r=some (.str x)/\x∈ss:=by
 let ⟨k,rfl⟩:=Co I
 have hk:k<ss.length:=by lia
 exact #v[ss[k],aX (by rw[Ar,Bm hk]<;>rfl),Dq hk]
local macro_rules | `(tactic| tm_at $s:str)=>bJ n_bq s
theorem ok_l_statement(f5:1<=d)(hd:d<=4)(hk:4<=k)(F:Fun K "_law_statement" "_law_statement" s_bq f fd)(h_len:mg "len"=none)(h_tuple:mg "tuple"=none)(h_range:mg "range"=none)(h_min:mg "min"=none)
  (C_l_next:Cal P w K mg base 2 "_law_next" spNext)(C_l_take:Cal P w K mg base 1 "_law_take" spTake)(C_l_row:Cal P w K mg base 4 "_law_row" spRow)(C_l_sum:Cal P w K mg base 4 "_law_sum" spSum)
  (hL:d<4->Cal P w K mg base k "_law_loop" (spLoop d))(hB:d<4->Cal P w K mg base k "_law_block" (spBlock (d+1))):F8 P w K mg base CX0 (k+1) f fd P_bq (aD K (spStmt d)):=by
 tm_at "F bq"
 let ⟨p,c,cs,i,n,ss,rfl,st,d7,J,q⟩:=h
 refine aA ?_
 lk
 exists p,c,cs,i,n,rfl,st,d7,λu M1 hu pu g2 k1=>?_
 have L:u≠p:=(aU st.st hu).symm
 have O:u≠c:=(aU st.cl hu).symm
 lk
 exists _,_,rfl,pu,by decide,lim,λr M2 h1 h2 b7 k2=>?_
 have I:=g2.kp k2 (by simp[L.symm]) (by simp[O.symm])
 have d6:∀{M3:MH},Kp [p,u] M2 M3->Kp [p] M M3:=λ{M3} k3=>by
  intro b o hb e
  have g3:b≠u:=aU e hu
  exact k3 b o (by simp at hb ⊢;exact #v[hb,g3]) (k2 b o (by simp[g3]) (k1 b o hb e))
 lk
 refine bS (λG' M'=>G'=[some (.ref p),some (nms ss),some (.int d),some (.ref u),some (.int r),none,none,none]/\M2=M') ?_ ?_
 ·lk
  refine ifD ?_ ?_
  ·intro _
   lk
   refine ifD ?_ ?_
   ·intro b4
    have b4:d<4:=by lia
    lk
    refine aF I.st rfl ?_
    lk
    refine ifD ?_ ?_
    ·intro hl
     have C_l_loop:=hL b4
     lk
     exists p,c,cs,i+1,n,ss,u,rfl,I,d7,J,b7,L,O,by lia,λh7 j m M3 hj s3 hw h5 htk k3=>?_
     exact q h7 j m M3 (by lia) s3 hw h5 htk (d6 k3)
    ·intro _
     refine bQ ?_
     exact #v[rfl,rfl]
   ·intro _
    refine bQ ?_
    exact #v[rfl,rfl]
  ·intro _
   refine bQ ?_
   exact #v[rfl,rfl]
 rintro G' M' ⟨rfl,rfl⟩
 refine bS (λG' M'=>G'=[some (.ref p),some (nms ss),some (.int d),some (.ref u),some (.int r),none,none,none]/\M2=M') ?_ ?_
 ·lk
  refine ifD ?_ ?_
  ·intro _
   lk
   refine ifD ?_ ?_
   ·intro b4
    have b4:d<4:=by lia
    lk
    refine aF I.st rfl ?_
    lk
    refine ifD ?_ ?_
    ·intro hl
     have C_l_block:=hB b4
     lk
     refine aF I.st rfl ?_
     lk
     refine dJ I.st rfl ?_
     rw[pZ (by lia)]
     generalize hM3:FF M2 p _=M3
     let ⟨S,k3,g4⟩:=I.upd (j:=i+1) (m:=#v[n.s,n.b-1,n.l,n.a,n.n]) hM3 rfl
     lk
     have Z:=S
     have d9:Kp [p,u] M2 M3:=k3.mono (by simp)
     exists p,c,cs,i+1,_,ss,rfl,Z,d7,J,λb1 j1 m1 M5 i5 b3 f2 f5 f6 k5=>?_
     lk
     exists p,c,cs,j1,_,ss,rfl,b3,d7,J,λb2 j2 m2 M6 g9 f7 e9 f9 f3 k6=>?_
     lk
     let ⟨a1,a2,a3,a4,a5⟩:=f6
     let ⟨c1,c2,c3,c4,c5⟩:=f3
     have e1:=iX (n:=4-d) λs hs=>by have:=f5 s hs;lia
     have e2:=iX (n:=4-d) λs hs=>by have:=f9 s hs;lia
     refine q (.choose b1 b2) j2 m2 M6 (by lia) f7 (by simp only[wf];exact #v[f2,e9]) (by simp only[dp];lia) ?_ (d6 (d9.trans ((k5.mono (by simp)).trans (k6.mono (by simp)))))
     simp only[vW,tt,Cnt.add]at *
     lia
    ·intro _
     refine bQ ?_
     exact #v[rfl,rfl]
   ·intro _
    refine bQ ?_
    exact #v[rfl,rfl]
  ·intro _
   refine bQ ?_
   exact #v[rfl,rfl]
 rintro G' M' ⟨rfl,rfl⟩
 refine bS (λG' M'=>G'=[some (.ref p),some (nms ss),some (.int d),some (.ref u),some (.int r),none,none,none]/\M2=M') ?_ ?_
 ·lk
  refine ifD ?_ ?_
  ·intro _
   lk
   refine ifD ?_ ?_
   ·intro b4
    have b4:d<4:=by lia
    lk
    refine aF I.st rfl ?_
    lk
    refine ifD ?_ ?_
    ·intro hl
     have C_l_block:=hB b4
     lk
     refine aF I.st rfl ?_
     lk
     refine dJ I.st rfl ?_
     rw[pZ (by lia)]
     generalize hM3:FF M2 p _=M3
     let ⟨S,k3,g4⟩:=I.upd (j:=i+1) (m:=#v[n.s,n.b-1,n.l,n.a,n.n]) hM3 rfl
     lk
     exists u,ss,rfl,b7.kp k3 (by simp[L]),J.le,λkk ts wb M4 ht bw b5 k4=>?_
     have Z:=S.kp k4 (by simp[L.symm]) (by simp[O.symm])
     have d9:Kp [p,u] M2 M4:=(k3.mono (by simp)).trans (k4.mono (by simp))
     lk
     exists p,c,cs,i+1,_,ss,rfl,Z,d7,J,λb1 j1 m1 M5 i5 b3 f2 f5 f6 k5=>?_
     lk
     exists p,c,cs,j1,_,ss,rfl,b3,d7,J,λb2 j2 m2 M6 g9 f7 e9 f9 f3 k6=>?_
     lk
     let ⟨a1,a2,a3,a4,a5⟩:=f6
     let ⟨c1,c2,c3,c4,c5⟩:=f3
     have e1:=iX (n:=4-d) λs hs=>by have:=f5 s hs;lia
     have e2:=iX (n:=4-d) λs hs=>by have:=f9 s hs;lia
     refine q (.ite (kk,ts,wb) b1 b2) j2 m2 M6 (by lia) f7 (by simp only[wf];exact #v[#v[ht,bw],f2,e9]) (by simp only[dp];lia) ?_ (d6 (d9.trans ((k5.mono (by simp)).trans (k6.mono (by simp)))))
     simp only[vW,tt,Cnt.add]at *
     lia
    ·intro _
     refine bQ ?_
     exact #v[rfl,rfl]
   ·intro _
    refine bQ ?_
    exact #v[rfl,rfl]
  ·intro _
   refine bQ ?_
   exact #v[rfl,rfl]
 rintro G' M' ⟨rfl,rfl⟩
 refine bS (λG' M'=>G'=[some (.ref p),some (nms ss),some (.int d),some (.ref u),some (.int r),none,none,none]/\M2=M') ?_ ?_
 ·lk
  refine ifD ?_ ?_
  ·intro _
   lk
   refine aF I.st rfl ?_
   lk
   refine ifD ?_ ?_
   ·intro hl
    lk
    refine aF I.st rfl ?_
    lk
    refine dJ I.st rfl ?_
    rw[pZ (by lia)]
    generalize hM3:FF M2 p _=M3
    let ⟨S,k3,g4⟩:=I.upd (j:=i+1) (m:=#v[n.s,n.b,n.l,n.a-1,n.n]) hM3 rfl
    lk
    exists _,_,rfl,rfl,?_
    rw[Ab]
    lk
    have h8:=J.pos
    have g7:=J.le
    have bl:Bd (ss.length:Int) 40:=.rng (by lia) (by lia)
    exists _,_,rfl,b7.kp k3 (by simp[L]),by lia,lim,λr2 M4 h3 h4 b5 k4=>?_
    let ⟨x,ex,hx⟩:=yY J h3 h4
    lk
    refine CW ex ?_
    lk
    refine q (.any x) (i+1) #v[n.s,n.b,n.l,n.a-1,n.n] M4 (by lia) (S.kp k4 (by simp[L.symm]) (by simp[O.symm])) (by simp only[wf];exact hx) (by simp only[dp];lia) ?_ (d6 ((k3.mono (by simp)).trans (k4.mono (by simp))))
    refine #v[?_,?_,?_,?_,?_]<;>simp only[tt]<;>lia
   ·intro _
    refine bQ ?_
    exact #v[rfl,rfl]
  ·intro _
   refine bQ ?_
   exact #v[rfl,rfl]
 rintro G' M' ⟨rfl,rfl⟩
 refine bS (λG' M'=>G'=[some (.ref p),some (nms ss),some (.int d),some (.ref u),some (.int r),none,none,none]/\M2=M') ?_ ?_
 ·lk
  refine ifD ?_ ?_
  ·intro _
   lk
   refine aF I.st rfl ?_
   lk
   refine ifD ?_ ?_
   ·intro hl
    lk
    refine aF I.st rfl ?_
    lk
    exists _,_,rfl,b7,by decide,lim,λr2 M3 h3 h4 e7 k3=>?_
    have S:=I.kp k3 (by simp[L.symm]) (by simp[O.symm])
    lk
    obtain ⟨many,hmany⟩:∃ many:Nat,(many:Int)=(if 1+r2<(n.n:Int) then 1+r2 else (n.n:Int)):=#v[(if 1+r2<(n.n:Int) then 1+r2 else (n.n:Int)).toNat,by split<;>lia]
    have i7:1<=many/\many<=2/\many<=n.n:=by split at hmany<;>lia
    rw[<- hmany]
    refine aF S.st rfl ?_
    lk
    refine dJ S.st rfl ?_
    have ec:(n.n:Int)-(many:Int)=((n.n-many:Nat):Int):=by lia
    rw[ec]
    generalize hM4:FF M3 p _=M4
    let ⟨Z,k4,i9⟩:=S.upd (j:=i+1) (m:=#v[n.s,n.b,n.l,n.a,n.n-many]) hM4 rfl
    have b5:=e7.kp k4 (by simp[L])
    lk
    with_reducible refine' DH (own:=["_law_k"]) (js:=[3,1]) (N:=["_law_k", "_law_purse_here", "_law_names_here"]) ?T ?xe ?ca ?hm ?_ ?hg ?hse ?hs
    case T=>exact bW (fs:=["_law_purse_here", "_law_names_here"]) rfl (by lia) (by lia) rfl rfl rfl rfl rfl
    case xe=>rfl
    case ca=>rfl
    case hm=>exact h_range
    case hg=>rfl
    case hse=>rfl
    case hs=>(intro _;rfl)
    lk
    exists _,λq2 i2 e8 M5=>∃ rs:List Rw,e8=rs.map rwD/\rs.length=i2/\(∀ x∈rs,WfR ss x)/\M4 q2=none/\Stt M5 p c cs (i+1) #v[n.s,n.b,n.l,n.a,n.n-many]/\Pu M5 u/\Kp [p,u] M4 M5,rfl,by lia,by lia,?_,?_,?_
    ·intro q2 V
     exact #v[[],rfl,rfl,by simp,V,Z.ext (aB V),b5.ext (aB V),Kp.new V]
    ·rintro Y ⟨C',s',H',fp,rfl⟩ q2 i2 e8 M5 i8 ⟨rs,rfl,f4,f1,V,b3,g1,k5⟩ d8
     refine bC 0 (by show (["_law_k", "_law_purse_here", "_law_names_here"]:List Str).Nodup;lia) ?_
     exists rfl,λi d e=>?_,?_
     ·rcases i with _|i
      ·simp[aN]at e
      ·exact e
     repeat first|(refine aP 1 ?_)|(refine aP 2 ?_)|k_go
     exists u,ss,rfl,g1,J.le,λkk ts wb M6 ht bw g8 k6=>?_
     have g5:q2≠p:=λz=>by rw[z,Z.st]at V;cases V
     have g6:q2≠c:=λz=>by rw[z,Z.cl]at V;cases V
     have f8:q2≠u:=(b5.ne V).symm
     have i6:rs.length<=2:=by lia
     exists k6.at d8 (by simp[f8]),aT (by rw[Ab];lia),rs++[(kk,ts,wb)],by rw[Ai];rfl,by rw[Ae,f4];rfl,λx hx=>?_,V,?_,?_,?_
     ·rcases Aq.mp hx with hx|hx
      ·exact f1 x hx
      ·rw[Al.mp hx];exact #v[ht,bw]
     ·have:=b3.kp k6 (by simp[L.symm]) (by simp[O.symm])
      exact #v[by rw[aC g5.symm];exact this.st,by rw[aC g6.symm];exact this.cl]
     ·let ⟨a,b,e,ha,hb⟩:=g8
      exact #v[a,b,by rw[aC f8.symm];exact e,ha,hb]
     ·intro b o hb e
      rw[aC (aU e V)]
      exact k6 b o (by simp at hb ⊢;exact hb.2) (k5 b o hb e)
    rintro q2 e8 M5 ⟨rs,rfl,f4,f1,V,b3,g1,k5⟩ d8
    have f4:rs.length=many:=by lia
    lk
    exists _,rfl,_,d8,?_
    lk
    refine q (.note rs) (i+1) #v[n.s,n.b,n.l,n.a,n.n-many] M5 (by lia) b3 (by simp only[wf];exact #v[f1,by lia,by lia]) (by simp only[dp];lia) ?_ (d6 ((k3.mono (by simp)).trans ((k4.mono (by simp)).trans k5)))
    refine #v[?_,?_,?_,?_,?_]<;>simp only[tt]<;>lia
   ·intro _
    refine bQ ?_
    exact #v[rfl,rfl]
  ·intro _
   refine bQ ?_
   exact #v[rfl,rfl]
 rintro G' M' ⟨rfl,rfl⟩
 lk
 exists _,_,rfl,rfl,?_
 rw[Ab]
 lk
 have h8:=J.pos
 have g7:=J.le
 have bl:Bd (ss.length:Int) 40:=.rng (by lia) (by lia)
 exists _,_,rfl,b7,by lia,lim,λr2 M3 h3 h4 e7 k3=>?_
 let ⟨x,ex,hx⟩:=yY J h3 h4
 lk
 refine CW ex ?_
 lk
 exists u,ss,rfl,e7,J.le,λts wb h6 M4 ht bw hb lb b5 k4=>?_
 lk
 have Z:=(I.kp k3 (by simp[L.symm]) (by simp[O.symm])).kp k4 (by simp[L.symm]) (by simp[O.symm])
 refine q (.set x (ts,wb,h6)) (i+1) n M4 (by lia) Z (by simp only[wf];exact #v[hx,ht,bw,hb,lb]) (by simp only[dp];lia) ?_ (d6 ((k3.mono (by simp)).trans (k4.mono (by simp))))
 refine #v[?_,?_,?_,?_,?_]<;>simp only[tt]<;>lia
end
section
variable {P:Program}{w:World}{K:Ad}{base:Heap}{f:Addr}
local macro_rules | `(tactic| tm_at $s:str)=>bJ n_br s
theorem ok_l_loop(h7:1<=d)(hd:d<4)(hk:4<=k)(F:Fun K "_law_loop" "_law_loop" s_br f fd)(h_tuple:mg "tuple"=none)(h_range:mg "range"=none)(h_abs:mg "abs"=none)
  (C_l_take:Cal P w K mg base 1 "_law_take" spTake)(C_l_row:Cal P w K mg base 4 "_law_row" spRow)(C_l_sum:Cal P w K mg base 4 "_law_sum" spSum)(C_l_number:Cal P w K mg base 2 "_law_number" spNumber)
  (C_l_block:Cal P w K mg base k "_law_block" (spBlock (d+1))):F8 P w K mg base CX0 (k+1) f fd P_br (aD K (spLoop d)):=by
 tm_at "F br"
 let ⟨p,c,cs,i,n,ss,u,rfl,st,g6,S,pu,J,L,g4,q⟩:=h
 refine aA ?_
 lk
 refine aF st.st rfl ?_
 lk
 refine dJ st.st rfl ?_
 rw[pZ g4]
 generalize hM1:FF M p _=M1
 let ⟨f4,k1,h6⟩:=st.upd (j:=i) (m:=#v[n.s,n.b,n.l-1,n.a,n.n]) hM1 rfl
 have g5:=pu.kp k1 (by simp[J])
 lk
 exists u,ss,rfl,g5,S.le,λf3 ts0 f5 M2 g1 f8 g2 k2=>?_
 have e9:=f4.kp k2 (by simp[J.symm]) (by simp[L.symm])
 lk
 with_reducible refine' tJ 5 (own:=["_law_k"]) (js:=[3,1]) (N:=["_law_k", "_law_purse_here", "_law_names_here"]) ?T ?xe ?ca ?hm ?hN ?hj ?hy ?hyf ?hsw ?_ ?hg ?hse ?hs
 case T=>exact bW (fs:=["_law_purse_here", "_law_names_here"]) rfl (by lia) (by lia) rfl rfl rfl rfl rfl
 case xe=>rfl
 case ca=>rfl
 case hm=>exact h_range
 case hN=>exact nd
 case hj=>rfl
 case hy=>first|exact Bh rfl|exact D0 rfl
 case hyf=>exact .inl rfl
 case hsw=>rfl
 case hg=>rfl
 case hse=>rfl
 case hs=>(intro _;rfl)
 lk
 exists _,_,rfl,g2,by decide,lim,λr M3 h1 h2 Z k3=>?_
 have O:=e9.kp k3 (by simp[J.symm]) (by simp[L.symm])
 lk
 exists _,λq2 i2 d6 M5=>∃ rs:List Rw,d6=rs.map rwD/\rs.length=i2/\(∀ x∈rs,WfR ss x)/\M3 q2=none/\Stt M5 p c cs i #v[n.s,n.b,n.l-1,n.a,n.n]/\Pu M5 u/\Kp [u] M3 M5,rfl,by lia,by lia,?_,?_,?_
 ·intro q2 I
  exact #v[[],rfl,rfl,by simp,I,O.ext (aB I),Z.ext (aB I),Kp.new I]
 ·rintro Y ⟨C',s',H',fp,rfl⟩ q2 i2 d6 M5 h5 ⟨rs,rfl,b5,d9,I,b2,d7,k5⟩ b1
  refine bC 0 (by show (["_law_k", "_law_purse_here", "_law_names_here"]:List Str).Nodup;lia) ?_
  exists rfl,λi d e=>?_,?_
  ·rcases i with _|i
   ·simp[aN]at e
   ·exact e
  repeat first|(refine aP 1 ?_)|(refine aP 2 ?_)|k_go
  exists u,ss,rfl,d7,S.le,λkk ts wb M6 ht bw d8 k6=>?_
  have b4:q2≠u:=(Z.ne I).symm
  have g8:rs.length<=2:=by lia
  exists k6.at b1 (by simp[b4]),aT (by rw[Ab];lia),rs++[(kk,ts,wb)],by rw[Ai];rfl,by rw[Ae,b5];rfl,λx hx=>?_,I,?_,?_,?_
  ·rcases Aq.mp hx with hx|hx
   ·exact d9 x hx
   ·rw[Al.mp hx];exact #v[ht,bw]
  ·have b7:q2≠p:=λz=>by rw[z,O.st]at I;cases I
   have f6:q2≠c:=λz=>by rw[z,O.cl]at I;cases I
   have:=b2.kp k6 (by simp[J.symm]) (by simp[L.symm])
   exact #v[by rw[aC b7.symm];exact this.st,by rw[aC f6.symm];exact this.cl]
  ·let ⟨a,b,e,ha,hb⟩:=d8
   exact #v[a,b,by rw[aC b4.symm];exact e,ha,hb]
  ·intro b o hb e
   rw[aC (aU e I)]
   exact k6 b o hb (k5 b o hb e)
 rintro q2 d6 M5 ⟨rs,rfl,b5,d9,I,b2,d7,k5⟩ b1
 have b5:rs.length<=2:=by lia
 have kq:∀{M6:MH},Kp [p,u] M5 M6->M6 q2=some (.lst (rs.map rwD)):=λ{M6} k6=>k6.at b1 (by
  have b7:q2≠p:=λz=>by rw[z,O.st]at I;cases I
  have b4:q2≠u:=(Z.ne I).symm
  simp[b7,b4])
 have f2:Kp [p,u] M M5:=(k1.mono (by simp)).trans ((k2.mono (by simp)).trans ((k3.mono (by simp)).trans (k5.mono (by simp))))
 lk
 refine bS (λG' M'=>∃ ms:Option (Sm×Int),G'=[some (.ref p),some (nms ss),some (.int d),some (.ref u),some (IW f3 ts0 f5),some (.ref q2),some (msD ms),none,none]/\(∀ m,ms=some m->WfS ss m.1/\0<m.2/\B 65 m.2)/\Stt M' p c cs i #v[n.s,n.b,n.l-1,n.a,n.n]/\Kp [p,u] M5 M') ?_ ?_
 ·lk
  exists _,_,rfl,d7,by decide,lim,λr2 M6 h3 h4 d8 k6=>?_
  have e8:=b2.kp k6 (by simp[J.symm]) (by simp[L.symm])
  lk
  refine ifD ?_ ?_
  ·intro _
   lk
   exists u,ss,rfl,d8,S.le,λts wb g3 M7 ht bw hb lb f9 k7=>?_
   have V:=e8.kp k7 (by simp[J.symm]) (by simp[L.symm])
   lk
   exists u,rfl,f9,λnn M8 ln g9 k8=>?_
   have b3:=V.kp k8 (by simp[J.symm]) (by simp[L.symm])
   lk
   rw[CY]
   have ln:nn.natAbs<2^64:=ln
   have bf:B 65 (1+(nn.natAbs:Int)):=by unfold B;lia
   exists some ((ts,wb,g3),1+(nn.natAbs:Int)),rfl,λm e=>?_,b3,(k6.mono (by simp)).trans ((k7.mono (by simp)).trans (k8.mono (by simp)))
   cases e
   exact #v[#v[ht,bw,hb,lb],by lia,bf]
  ·intro _
   refine bQ ?_
   exact #v[none,rfl,(λm e=>by cases e),e8,k6.mono (by simp)]
 rintro G' M' ⟨ms,rfl,f7,V,k7⟩
 lk
 refine aF V.st rfl ?_
 lk
 exists p,c,cs,i,_,ss,rfl,V,g6,S,λb j m M8 hj b3 hw g7 htk k8=>?_
 let ⟨a1,a2,a3,a4,a5⟩:=htk
 simp only at a1 a2 a3 a4 a5
 have e1:=iX (n:=4-d) λs hs=>by have:=g7 s hs;lia
 have e7:Kp [p,u] M5 M8:=k7.trans (k8.mono (by simp))
 have f1:∀ ms:Option (Sm×Int),WfM ss b ms->Q (stD (.whl (f3,ts0,f5) rs ms b)) M8:=by
  intro ms hm
  refine q _ j m M8 hj b3 (by simp only[wf];exact #v[#v[g1,f8],d9,b5,hm,hw]) (by simp only[dp];lia) ?_ (f2.trans e7)
  refine #v[?_,?_,?_,?_,?_]<;>simp only[tt,Cnt.add]<;>lia
 lk
 refine aA ?_
 lk
 refine aF b3.st rfl ?_
 lk
 refine ifD ?_ ?_
 ·intro _
  lk
  exists _,rfl,_,kq e7,?_
  lk
  exact f1 none trivial
 ·intro hl
  simp only at hl
  lk
  exists _,rfl,_,kq e7,?_
  lk
  refine f1 ms ?_
  cases ms with
  |none=>exact trivial
  |some m =>
   let ⟨h1,h2,h3⟩:=f7 m rfl
   exact #v[h1,h2,h3,by lia]
local macro_rules | `(tactic| tm_at $s:str)=>bJ n_bs s
theorem ok_l_block(hk:4<=k)(F:Fun K "_law_block" "_law_block" s_bs f fd)(h_tuple:mg "tuple"=none)(h_range:mg "range"=none)
  (C_l_next:Cal P w K mg base 2 "_law_next" spNext)(C_l_take:Cal P w K mg base 1 "_law_take" spTake)(C_l_statement:Cal P w K mg base k "_law_statement" (spStmt d)):F8 P w K mg base CX0 (k+1) f fd P_bs (aD K (spBlock d)):=by
 tm_at "F bs"
 let ⟨p,c,cs,i,n,ss,rfl,st,b7,f5,q⟩:=h
 refine aA ?_
 lk
 exists p,c,cs,i,n,rfl,st,b7,λu M1 hu pu O k1=>?_
 have d6:u≠p:=(aU st.st hu).symm
 have b5:u≠c:=(aU st.cl hu).symm
 lk
 intro S J
 have L:S≠p:=(aU O.st J).symm
 have b4:S≠u:=(pu.ne J).symm
 have b3:=O.ext (aB (o:=.lst []) J)
 refine aA (jN PassesOwn.never rfl h_range ?_)
 lk
 intro l hl
 lk
 have e9:=(pu.ext (aB (o:=.lst []) J)).ext (aB (o:=.lst [.int 0,.int 1,.int 2,.int 1,.int 3]) hl)
 exists _,_,rfl,e9,by decide,lim,λr M3 h1 h2 g6 k3=>?_
 have f4:l≠u:=((pu.ext (aB (o:=.lst []) J)).ne hl).symm
 have f8:M3 l=some (.lst [.int 0,.int 1,.int 2,.int 1,.int 3]):=k3.at FB (by simp[f4])
 have hb:∃ b:Nat,atI [D.int 0,.int 1,.int 2,.int 1,.int 3] r=some (.int (b:Int))/\b<=3:=by
  have:r=0\/r=1\/r=2\/r=3\/r=4:=by lia
  rcases this with rfl|rfl|rfl|rfl|rfl
  ·exact #v[0,rfl,by decide]
  ·exact #v[1,rfl,by decide]
  ·exact #v[2,rfl,by decide]
  ·exact #v[1,rfl,by decide]
  ·exact #v[3,rfl,by decide]
 let ⟨g1,eb,g5⟩:=hb
 have d9:Stt M3 p c cs (i+1) n:=(b3.ext (aB hl)).kp k3 (by simp[d6.symm]) (by simp[b5.symm])
 have e7:M3 S=some (.lst []):=k3.at (aJ hl FB) (by simp[b4])
 have f6:Kp [p] M M3:=λb o hb e=>k3 b o (by simp;exact aU e hu) (aB hl _ _ (aB J _ _ (k1 b o hb e)))
 lk
 refine aF f8 eb ?_
 lk
 refine #v[_,λi2 G' M'=>∃(b:List Stm) (j:Nat) (m:Cnt) (r5:Option D),G'=[some (.ref p),some (nms ss),some (.int d),some (.ref u),some (.ref S),r5]/\M' S=some (.lst (aO b))/\b.length<=i2/\i<=j/\Stt M' p c cs j m/\wfs ss b/\(∀ s∈b,dp s+d<=5)/\vW n m (tts b)/\Kp [p,S] M3 M',rfl,by lia,by lia,
  #v[[],i+1,n,none,rfl,by simp only[aO];exact e7,Cr _,by lia,d9,by simp only[wfs],by simp,by refine #v[?_,?_,?_,?_,?_]<;>simp only[tts]<;>lia,Kp.refl _ _],?_,?_]
 ·rintro i2 G' M' g4 ⟨b,j,m,r5,rfl,hf,f7,b2,I,Z,Y,htk,k4⟩
  have b1:S≠c:=by
   intro z;subst z
   exact absurd O.cl (by rw[J];intro z;cases z)
  lk
  refine aF I.st rfl ?_
  lk
  refine ifD ?_ ?_
  ·intro hs
   lk
   refine aF I.st rfl ?_
   lk
   refine dJ I.st rfl ?_
   rw[pZ (by lia)]
   generalize hM5:FF M' p _=M5
   let ⟨d8,k5,g2⟩:=I.upd (j:=j) (m:=#v[m.s-1,m.b,m.l,m.a,m.n]) hM5 rfl
   have d7:M5 S=some (.lst (aO b)):=k5.at hf (by simp[L])
   lk
   exists S,rfl,#v[_,d7],?_
   lk
   exists p,c,cs,j,_,ss,rfl,d8,b7,f5,λs' j' m' M6 g3 V f1 f2 e8 k6=>?_
   have f9:M6 S=some (.lst (aO b)):=k6.at d7 (by simp[L])
   exists _,f9,aT (by rw[cS,Ab];lia),?_
   let ⟨a1,a2,a3,a4,a5⟩:=htk
   let ⟨c1,c2,c3,c4,c5⟩:=e8
   simp only at c1 c2 c3 c4 c5
   exists b++[s'],j',m',_,rfl,by rw[FB,pY],by rw[Ae];show _+1<=_;lia,by lia,#v[by rw[aC L.symm];exact V.st,by rw[aC b1.symm];exact V.cl],nK Z f1,?_,?_,?_
   ·intro x hx
    rcases Aq.mp hx with hx|hx
    ·exact Y x hx
    ·rw[Al.mp hx];exact f2
   ·rw[rK]
    refine #v[?_,?_,?_,?_,?_]<;>simp only[tts,Cnt.add]<;>lia
   ·exact k4.trans ((k5.mono (by simp)).trans ((k6.mono (by simp)).trans (Kp.put (by simp))))
  ·intro hs
   refine bQ ?_
   exact #v[b,j,m,_,rfl,hf,by lia,b2,I,Z,Y,htk,k4]
 ·rintro G' M' ⟨b,j,m,r5,rfl,hf,f7,b2,I,Z,Y,htk,k4⟩
  lk
  exists _,rfl,_,hf,?_
  refine q b j m M' b2 I Z Y htk ?_
  intro x o hx e
  have f3:x≠S:=by
   intro z;subst z
   have:=k1 _ _ hx e
   rw[J]at this;cases this
  exact k4 x o (by simp at hx ⊢;exact #v[hx,f3]) (f6 x o hx e)
local macro_rules | `(tactic| tm_at $s:str)=>bJ n_bt s
theorem BJ(hk:4<=k)(F:Fun K "_law_plan" "_law_plan" s_bt f fd)(h_tuple:mg "tuple"=none)(h_range:mg "range"=none)(h_len:mg "len"=none)
  (C_l_purse:Cal P w K mg base 1 "_law_purse" spPurse)(C_l_take:Cal P w K mg base 1 "_law_take" spTake)(C_l_row:Cal P w K mg base 4 "_law_row" spRow)(C_l_statement:Cal P w K mg base k "_law_statement" (spStmt 1)):F8 P w K mg base CX0 (k+1) f fd P_bt (aD K spPlan):=by
 tm_at "F bt"
 let ⟨c,cs,first,ss,rfl,hc,g5,b2,b3,q⟩:=h
 refine aA ?_
 lk
 intro p hp
 have f8:c≠p:=aU hc hp
 lk
 intro O b1
 have S:Stt (FF M p (.lst [.ref c,.int 0,.int 24,.int 2,.int 2,.int 1,.int 2])) p c cs 0 #v[24,2,2,1,2]:=#v[FB,by rw[aC f8];exact hc]
 have J:O≠p:=(aU S.st b1).symm
 have b5:O≠c:=(aU S.cl b1).symm
 have f1:=S.ext (aB (o:=.lst []) b1)
 have e1:Ext M (FF (FF M p (.lst [.ref c,.int 0,.int 24,.int 2,.int 2,.int 1,.int 2])) O (.lst [])):=b6 (aB hp) (aB b1)
 have g4:∀ x o,M x=some o->x≠p/\x≠O:=λx o e=>#v[aU e hp,aU (aB hp _ _ e) b1]
 have f4:FF (FF M p (.lst [.ref c,.int 0,.int 24,.int 2,.int 2,.int 1,.int 2])) O (.lst []) O=some (.lst []):=FB
 generalize FF (FF M p (.lst [.ref c,.int 0,.int 24,.int 2,.int 2,.int 1,.int 2])) O (.lst [])=M1 at f1 e1 f4 ⊢
 refine aA (CN (λG' M'=>∃(b:List Stm) (j:Nat) (m:Cnt),G'=[some (.ref c),some (.int first),some (nms ss),some (.ref p),some (.ref O),none,none]/\M' O=some (.lst (aO b))/\b.length+m.s<=24/\Stt M' p c cs j m/\wfs ss b/\(∀ s∈b,dp s+1<=5)/\vW #v[24,2,2,1,2] m (tts b)/\Kp [p,O] M1 M')
  (λ_ M'=>match M' p with|some (.lst [_,.int a,_,_,_,_,_])=>cs.length-a.toNat|_=>0) PassesOwn.never
  #v[[],0,#v[24,2,2,1,2],rfl,by simp only[aO];exact f4,by decide,f1,by simp only[wfs],by simp,by refine #v[?_,?_,?_,?_,?_]<;>simp only[tts],Kp.refl _ _] ?_)
 rintro G' M' ⟨b,j,m,rfl,hf,h5,I,f6,f5,htk,k2⟩
 have e9:EXs (eX CX0 P w K mg base N_bt "_law_plan" (aZ s_bt) f cdv A outer s H EE).nox [some (.ref c),some (.int first),some (nms ss),some (.ref p),some (.ref O),none,none] M' ((cI s_bt).drop 3) { nx:=λ_ M'=>Q .non M',rt:=Q }:=by
  refine aA ?_
  lk
  exists _,rfl,b2,λu M2 hu g1 k3=>?_
  lk
  with_reducible refine' tJ 6 (own:=["_law_k"]) (js:=[5,2]) (N:=["_law_k", "_law_purse_here", "_law_names_here"]) ?T ?xe ?ca ?hm ?hN ?hj ?hy ?hyf ?hsw ?_ ?hg ?hse ?hs
  case T=>exact bW (fs:=["_law_purse_here", "_law_names_here"]) rfl (by lia) (by lia) rfl rfl rfl rfl rfl
  case xe=>rfl
  case ca=>rfl
  case hm=>exact h_range
  case hN=>exact nd
  case hj=>rfl
  case hy=>first|exact Bh rfl|exact D0 rfl
  case hyf=>exact .inl rfl
  case hsw=>rfl
  case hg=>rfl
  case hse=>rfl
  case hs=>(intro _;rfl)
  lk
  exists _,_,rfl,g1,by decide,lim,λr M3 h1 h2 b4 k4=>?_
  lk
  exists _,λq2 i2 b7 M5=>∃ rs:List Rw,b7=rs.map rwD/\rs.length=i2/\(∀ x∈rs,WfR ss x)/\M3 q2=none/\True/\Pu M5 u/\Kp [u] M3 M5,rfl,by lia,by lia,?_,?_,?_
  ·intro q2 L
   exact #v[[],rfl,rfl,by simp,L,trivial,b4.ext (aB L),Kp.new L]
  ·rintro Y ⟨C',s',H',fp,rfl⟩ q2 i2 b7 M5 h3 ⟨rs,rfl,f2,d7,L,d6,e8,k5⟩ Z
   refine bC 0 (by show (["_law_k", "_law_purse_here", "_law_names_here"]:List Str).Nodup;lia) ?_
   exists rfl,λi d e=>?_,?_
   ·rcases i with _|i
    ·simp[aN]at e
    ·exact e
   repeat first|(refine aP 1 ?_)|(refine aP 2 ?_)|k_go
   exists u,ss,rfl,e8,b3.le,λkk ts wb M6 ht bw f7 k6=>?_
   have d8:q2≠u:=(b4.ne L).symm
   have g6:rs.length<=2:=by lia
   exists k6.at Z (by simp[d8]),aT (by rw[Ab];lia),rs++[(kk,ts,wb)],by rw[Ai];rfl,by rw[Ae,f2];rfl,λx hx=>?_,L,?_,?_,?_
   ·rcases Aq.mp hx with hx|hx
    ·exact d7 x hx
    ·rw[Al.mp hx];exact #v[ht,bw]
   ·trivial
   ·let ⟨a,b,e,ha,hb⟩:=f7
    exact #v[a,b,by rw[aC d8.symm];exact e,ha,hb]
   ·intro b o hb e
    rw[aC (aU e L)]
    exact k6 b o hb (k5 b o hb e)
  rintro q2 b7 M5 ⟨rs,rfl,f2,d7,L,d6,e8,k5⟩ Z
  have d9:M5 O=some (.lst (aO b)):=k5.at (k4.at (k3 _ _ hf) (by simp[(aU hf hu)])) (by simp[(aU hf hu)])
  lk
  exists _,rfl,_,Z,?_
  lk
  exists _,rfl,_,d9,?_
  lk
  let ⟨a1,a2,a3,a4,a5⟩:=htk
  simp only at a1 a2 a3 a4 a5
  refine q #v[ss,rs,b] M5 #v[b3,d7,(by show rs.length<=2;lia),f6,(λs hs=>by have:=f5 s hs;lia),(by show (tts b).s<=24;lia),(by show (tts b).b<=2;lia),(by show (tts b).l<=2;lia),(by show (tts b).a<=1;lia),(by show (tts b).n<=2;lia)] rfl ?_
  intro x o e
  let ⟨x1,x2⟩:=g4 x o e
  have e2:M' x=some o:=k2 x o (by simp[x1,x2]) (e1 _ _ e)
  have e7:x≠u:=aU e2 hu
  exact k5 x o (by simp[e7]) (k4 x o (by simp[e7]) (k3 _ _ e2))
 lk
 refine aF I.st rfl ?_
 lk
 exists _,_,rfl,Bh #v[_,I.cl,rfl],?_
 rw[Ab]
 lk
 refine ifD ?_ ?_
 ·intro hj
  lk
  refine aF I.st rfl ?_
  lk
  refine ifD ?_ ?_
  ·intro hs
   lk
   refine aF I.st rfl ?_
   lk
   refine dJ I.st rfl ?_
   rw[pZ (by lia)]
   generalize hM5:FF M' p _=M5
   let ⟨d6,k5,g7⟩:=I.upd (j:=j) (m:=#v[m.s-1,m.b,m.l,m.a,m.n]) hM5 rfl
   have f3:M5 O=some (.lst (aO b)):=k5.at hf (by simp[J])
   lk
   exists O,rfl,#v[_,f3],?_
   lk
   exists p,c,cs,j,_,ss,rfl,d6,g5,b3,λs' j' m' M6 g9 V g3 g2 f9 k6=>?_
   have d9:M6 O=some (.lst (aO b)):=k6.at f3 (by simp[J])
   exists _,d9,aT (by rw[cS,Ab];lia),?_
   let ⟨a1,a2,a3,a4,a5⟩:=htk
   let ⟨c1,c2,c3,c4,c5⟩:=f9
   simp only at a1 a2 a3 a4 a5 c1 c2 c3 c4 c5
   have g8:1<=(tt s').s:=by cases s'<;>simp only[tt,Cnt.add]<;>lia
   exists #v[b++[s'],j',m',rfl,by rw[FB,pY],by rw[Ae];show _+1+_<=_;lia,#v[by rw[aC J.symm];exact V.st,by rw[aC b5.symm];exact V.cl],nK f6 g3,?_,?_,?_],?_
   ·intro x hx
    rcases Aq.mp hx with hx|hx
    ·exact f5 x hx
    ·rw[Al.mp hx];exact g2
   ·rw[rK]
    refine #v[?_,?_,?_,?_,?_]<;>simp only[tts,Cnt.add]<;>lia
   ·exact k2.trans ((k5.mono (by simp)).trans ((k6.mono (by simp)).trans (Kp.put (by simp))))
   ·rw[aC J.symm,V.st,I.st]
    show cs.length-Int.toNat (j':Int)<cs.length-Int.toNat (j:Int)
    lia
  ·intro _
   exact e9
 ·intro _
  exact e9
end
theorem wY(h1:97<=c)(h2:c<=122):c∈(Aa "abcdefghijklmnopqrstuvwxyz").cps.toList:=by
 have:∀ d<26,97+d∈(Aa "abcdefghijklmnopqrstuvwxyz").cps.toList:=by lia
 have:=this (c-97) (by lia)
 rwa [show 97+(c-97)=c from by lia]at this
theorem wZ(h1:48<=c)(h2:c<=57):c∈(Aa "0123456789").cps.toList:=by
 have:∀ d<10,48+d∈(Aa "0123456789").cps.toList:=by lia
 have:=this (c-48) (by lia)
 rwa [show 48+(c-48)=c from by lia]at this
theorem yZ(h:c∈x.cps.toList):Txt.contains x #v[#[c]]=true:=by
 show (!(B5 x #v[#[c]] 0 x.length 1).isEmpty)=true
 rw[StrLaws.found_one,decide_eq_true h]
section
variable {P:Program}{w:World}{K:Ad}{mg:Str->Option Value}{base:Heap}{f:Addr}{fd:FuncData}{tL tF:Tok}
local macro_rules | `(tactic| tm_at $s:str)=>bJ n_ao s
theorem KS(F:Fun K "must" "must" s_ao f fd):F8 P w K mg base CX0 1 f fd P_ao (aD K spMustR):=by
 tm_at "F ao"
 let ⟨n,rfl,q⟩:=h
 refine bH ?_
 lk
 refine xR ?_ (by intro _;rfl)
 lk
 exact q
local macro_rules | `(tactic| tm_at $s:str)=>bJ n_bf s
local macro_rules | `(tactic| tm_at "d")=>`(tactic| first
 |((with_reducible show EV _ _ _ (Expr.Name "LETTERS" _) _);(with_reducible refine' mK ?n0 ?_ ?n1 ?n2);(case n0=>exact gL);(case n1=>rfl);(case n2=>decide))
 |((with_reducible show EV _ _ _ (Expr.Name "FIGURES" _) _);(with_reducible refine' mK ?n0 ?_ ?n1 ?n2);(case n0=>exact gF);(case n1=>rfl);(case n2=>decide))
 |((with_reducible show EV _ _ _ (Expr.Compare _ [CmpOp.In] [Expr.Name "LETTERS" _] _) _);(with_reducible refine' FH ?_ ?n0);(case n0=>rfl))
 |((with_reducible show EV _ _ _ (Expr.Compare _ [CmpOp.In] [Expr.Name "FIGURES" _] _) _);(with_reducible refine' FH ?_ ?n0);(case n0=>rfl)))
theorem ok_is_name(F:Fun K "is_name" "is_name" s_bg f fd)(h_len:mg "len"=none)(gL:mg "LETTERS"=some (.str "abcdefghijklmnopqrstuvwxyz" tL)):F8 P w K mg base CX0 1 f fd P_bg (aD K spIsName):=by
 tm_at "F bg"
 let ⟨x,rfl,hx,q⟩:=h
 let ⟨c,h1,h2,rfl⟩:=hx
 refine bH ?_
 refine CM ?_
 with_reducible refine CH ?_
 with_reducible refine' TK ?n0 ?_
 case n0=>exact hr.units
 with_reducible refine' KJ ?n0 ?_ ?n1 ?n2 ?n3
 case n0=>exact h_len
 case n1=>rfl
 case n2=>rfl
 case n3=>rfl
 lk
 exists _,rfl,small (Cf rfl),?_
 repeat first|k_go|refine cF rfl ?_
 exists _,_,rfl,rfl,?_
 rw[yZ (wY h1 h2)]
 exact q
local macro_rules | `(tactic| tm_at $s:str)=>bJ n_bf s
theorem ok_is_above_nought(F:Fun K "is_above_nought" "is_above_nought" s_bf f fd)(h_all:mg "all"=none)(gF:mg "FIGURES"=some (.str "0123456789" tF)):F8 P w K mg base CX0 1 f fd P_bf (aD K spAbove):=by
 tm_at "F bf"
 let ⟨m,rfl,V,hm,q⟩:=h
 let ⟨c,r,ec,S⟩:=KD V
 have hl:=iH (m:=m) (by lia)
 have O:¬ nT (m:Int)=Aa "":= λz=>qL m (by rw[z];rfl)
 have Z:¬ (#v[#[c]]:Str)=Aa "0":= λz=>S (by
  have:=congrArg (λx:Str=>x.cps.toList) z
  have h:[c]=[48]:=this
  simpa using h)
 refine bH ?_
 repeat first|k_go|refine ON O ?_
 refine LY (small (by lia)) (by rw[ec];exact L2.aX (j:=0) rfl) ?_
 repeat first|k_go|refine ON Z ?_
 with_reducible refine' yD ?n0 ?n1 ?_ ?n2 ?n3 ?n4
 case n0=>rfl
 case n1=>exact h_all
 case n2=>rfl
 case n3=>rfl
 case n4=>rfl
 lk
 with_reducible refine' tH (own:=["sign"]) (js:=[]) (N:=["sign"]) (cl:=[]) ?T ?xe ?ca (λ_=>D.bl true) (λ_=>true) ?_ ?hs
 case T=>exact cA (by lia) (by lia) rfl (by lia) rfl
 case xe=>rfl
 case ca=>rfl
 case hs=>(intro _;rfl)
 lk
 exists nT (m:Int),rfl,?_,by show (nT (m:Int)).length<=1000;lia,?_,λq1 J=>?_
 ·rw[<- Array.all_toList,Dp]
  intro d hd
  have:=cO m d hd
  exact decide_eq_true (by lia)
 ·rintro Y ⟨C',s',H',fp,rfl⟩ M' hM d hd
  have I:=cO m d hd
  have L:(["sign"]:List Str).Nodup:=by lia
  refine bC 0 L ?_
  exists rfl,λi d e=>by rcases i with _|i<;>simp[aN]at e,cW #v[rfl,rfl],λ_=>?_
  repeat first|(refine aP 0 ?_)|k_go
  exists _,_,rfl,rfl,?_
  rw[yZ (wZ I.1 I.2)]
  exact #v[rfl,rfl]
 ·have e:(((nT (m:Int)).cps.toList.map λc=>D.str #v[#[c]]).filter λ_=>true).map (λ_=>D.bl true)=(Bw (nT (m:Int)).cps.toList.length true).map D.bl:=by
   rw[B9.mpr (by simp),By]
   generalize (nT (m:Int)).cps.toList=l
   induction l with
   |nil=>rfl
   |cons a l ih=>simp only[Au,Ah,Fb];rw[ih];rfl
  rw[e]
  lk
  exists q1,_,rfl,FB,?_
  have e2:(Bw (nT (m:Int)).cps.toList.length true).all id=true:=by simp
  rw[e2]
  exact q _ (aB J)
end
section
variable {P:Program}{w:World}{K:Ad}{mg:Str->Option Value}{base:Heap}{f:Addr}{fd:FuncData}
local macro_rules | `(tactic| tm_at $s:str)=>bJ n_be s
local macro_rules | `(tactic| tm_at "d")=>`(tactic| first
 |((with_reducible show EV _ _ _ (Expr.Call (Expr.Attribute _ "startswith" _) [_] [] _) _);(with_reducible refine' qJ ?_ ?n1 ?n2 ?n3 ?n4 ?n5);(case n1=>rfl);(case n2=>rfl);(case n3=>rfl);(case n4=>rfl);(case n5=>rfl))
 |((with_reducible show EV _ _ _ (Expr.Call (Expr.Name "int" _) [_] [] _) _);(with_reducible refine' JZ ?n0 ?_ ?n1 ?n2 ?n3);(case n0=>exact h_int);(case n1=>rfl);(case n2=>rfl);(case n3=>rfl)))
theorem ok_read_whole(F:Fun K "read_whole" "read_whole" s_be f fd)(h_int:mg "int"=none)(C_must:Cal P w K mg base 1 "must" spMustR)(C_is_above_nought:Cal P w K mg base 1 "is_above_nought" spAbove):F8 P w K mg base CX0 2 f fd P_be (aD K spWholeR):=by
 tm_at "F be"
 let ⟨i,n,rfl,L,q⟩:=h
 have O:i.natAbs<2^65:=L
 have hl:=oH L
 by_cases h0:i=0
 ·subst h0
  rw[sC]
  refine aA ?_
  repeat first|k_go|refine cF rfl ?_
  exact q M (Ext.refl _)
 ·refine aA ?_
  repeat first|k_go|refine bZ (yS L h0) ?_|refine aA ?_
  exists _,rfl,?_
  lk
  exists _,rfl,?_
  let ⟨I,J⟩:=iI h0
  rcases Ej h0 with Y|V
  ·have e:=J Y
   rw[e]at hl ⊢
   rw[qO]
   lk
   refine bB FN ?_
   lk
   refine bE ?_
   lk
   refine bO ?_
   refine FO rfl (small (by lia)) ?_
   rw[yT]
   lk
   exists i.natAbs,rfl,by lia,O,λZ x1=>?_
   lk
   exists n,rfl,?_
   lk
   exists _,i,rfl,by rw[<- e];exact gX L,by lia,?_
   exact q Z x1
  ·have e:=I V
   rw[e]at hl ⊢
   have S:PySem.intText? (abT i)=some i:=by rw[<- e];exact gX L
   unfold abT at S hl ⊢
   rw[qN]
   lk
   exists i.natAbs,rfl,by lia,O,λZ x1=>?_
   lk
   exists n,rfl,?_
   lk
   exists _,i,rfl,S,by lia,?_
   exact q Z x1
theorem KU:¬ Aa "-"=Aa "+":= by lia
theorem QJ:([D.str "+",D.str "-"]:List D)=[Aa "+",Aa "-"].map D.str:=rfl
local macro_rules | `(tactic| tm_at $s:str)=>bJ n_bd s
theorem ok_read_weight(F:Fun K "read_weight" "read_weight" s_bd f fd)(h_int:mg "int"=none)(C_must:Cal P w K mg base 1 "must" spMustR)(C_is_above_nought:Cal P w K mg base 1 "is_above_nought" spAbove):F8 P w K mg base CX0 2 f fd P_bd (aD K spWeightR):=by
 tm_at "F bd"
 let ⟨l,k,n,r,rfl,hl,h0,Y,q⟩:=h
 have Z:k.natAbs<2^64:=Y
 have i0:atI ((sgn k::abT k::r).map D.str) 0=some (.str (sgn k)):=L2.aX (j:=0) rfl
 have i1:atI ((sgn k::abT k::r).map D.str) 1=some (.str (abT k)):=L2.aX (j:=1) rfl
 have J:sgn k∈[Aa "+",Aa "-"]:=by unfold sgn;split<;>simp
 have L:PySem.intText? (abT k)=some ((k.natAbs:Nat):Int):=gX (by show ((k.natAbs:Nat):Int).natAbs<2^65;lia)
 have O:(abT k).length<=640:=by
  have:=iH (m:=k.natAbs) (by lia)
  unfold abT;lia
 refine aA ?_
 repeat first|k_go|refine aF hl i0 ?_|(rw[QJ];refine rH ?_)
 refine cF J ?_
 repeat first|k_go|refine aF hl i1 ?_
 exists k.natAbs,rfl,by lia,by lia,λV S=>?_
 have I:=S _ _ hl
 lk
 exists n,rfl,?_
 repeat first|k_go|refine aF I i1 ?_
 exists _,_,rfl,L,O,?_
 repeat first|k_go|refine aF I i0 ?_|refine aA ?_
 by_cases hp:0<k
 ·have e:sgn k=Aa "+":= by unfold sgn;rw[if_pos hp]
  rw[e]
  refine cF rfl ?_
  lk
  rw[show ((k.natAbs:Nat):Int)=k from by lia]
  exact q V S
 ·have e:sgn k=Aa "-":= by unfold sgn;rw[if_neg hp]
  rw[e]
  refine bZ KU ?_
  lk
  rw[show -((k.natAbs:Nat):Int)=k from by lia]
  exact q V S
local macro_rules | `(tactic| tm_at $s:str)=>bJ n_aq s
theorem ok_read_term(F:Fun K "read_term" "read_term" s_bc f fd)(C_must:Cal P w K mg base 1 "must" spMustR)(C_is_name:Cal P w K mg base 1 "is_name" spIsName)(C_read_weight:Cal P w K mg base 2 "read_weight" spWeightR):F8 P w K mg base CX0 3 f fd P_bc (aD K spTermR):=by
 tm_at "F bc"
 let ⟨l,t,n,rfl,hl,hx,L,I,q⟩:=h
 have i2:atI ((tkP (t.2,some t.1)).map D.str) 2=some (.str t.1):=L2.aX (j:=2) rfl
 refine aA ?_
 repeat first|k_go|refine aF hl i2 ?_
 exists _,rfl,hx,?_
 lk
 exists n,rfl,?_
 repeat first|k_go|refine aF hl i2 ?_
 exists l,t.2,n,[t.1],rfl,hl,L,I,λJ O=>?_
 lk
 exact q J O
theorem GU{xs:List Str}(h:∀ x∈xs,F7 x):eF (xs.map D.str)=true:=mI λd hd=>by
 let ⟨x,hx,rfl⟩:=A5.mp hd
 simp only[imm]
 exact (h x hx).ok
theorem uO(xs:List Str):PyData.depthAll (pdL (xs.map D.str))<=59:=Ay (gT (n:=0) λd hd=>by
 let ⟨x,hx,rfl⟩:=A5.mp hd
 simp[pd,PyData.depth]) (by decide)
local macro_rules | `(tactic| tm_at $s:str)=>bJ n_bh s
local macro_rules | `(tactic| tm_at "d")=>`(tactic| ((with_reducible show EV _ _ _ (Expr.Compare (Expr.Name "names" _) [CmpOp.Eq] _ _) _);(with_reducible refine' TX ?n0 ?_);(case n0=>exact hr.units)))
theorem ok_must_be_in_order(F:Fun K "must_be_in_order" "must_be_in_order" s_bh f fd)(hSorted:mg "sorted"=none)(hSet:mg "set"=none)(C_must:Cal P w K mg base 1 "must" spMustR):F8 P w K mg base CX0 2 f fd P_bh (aD K spOrderR):=by
 tm_at "F bh"
 let ⟨l,xs,n,rfl,hl,J,hz,q⟩:=h
 refine bH ?_
 lk
 with_reducible refine' pE ?n0 ?n1 ?_ ?n2 ?n3 ?n4
 case n0=>rfl
 case n1=>exact hSorted
 case n2=>rfl
 case n3=>rfl
 case n4=>rfl
 refine fJ ?_ rfl
 with_reducible refine' KB ?n0 ?n1 ?_ ?n2 ?n3 ?n4
 case n0=>rfl
 case n1=>exact hSet
 case n2=>rfl
 case n3=>rfl
 case n4=>rfl
 lk
 exists l,xs,rfl,hl,by lia,λr ss L S b1 hm=>?_
 lk
 have Y:=aB (o:=.raw (SetW P w r ss)) L
 have V:ss.length<=xs.length:=rT S λy hy=>(hm y).mp hy
 exists r,ss,rfl,FB,by lia,λr2 b2 I Z hs=>?_
 rw[BE J S hm Z hs]
 have O:=aB (o:=.lst (xs.map D.str)) I
 refine tU (O _ _ (Y _ _ hl)) FB (GU J.lett) (uO xs) ?_
 lk
 exists n,rfl,?_
 exact q _ (b6 Y O)
end
theorem UW(h:RdT ts):∀ t∈tkA ts w,PyData.strOk t=true:=by
 have V:∀ x:Str,(∀ c∈x.cps.toList,c<128)->PyData.strOk x=true:=λx hx=>by
  show x.cps.all (· < 0x110000)=true
  rw[<- Array.all_toList,Dp]
  intro c J
  have:=hx c J
  exact decide_eq_true (by lia)
 have num:∀ i:Int,PyData.strOk (nT i)=true:=λi=>by
  refine V _ λc J=>?_
  have O:∀ m:Nat,∀ c∈(nT (m:Int)).cps.toList,c<128:=λm c J=>by have:=cO m c J;lia
  by_cases h0:i=0
  ·subst h0;exact O 0 c J
  ·let ⟨Z,hn⟩:=iI h0
   rcases Ej h0 with Y|S
   ·rw[hn Y,bU]at J
    rcases Aq.mp J with J|J
    ·have:c∈[45]:=J
     simp at this
     lia
    ·exact O _ c J
   ·rw[Z S]at J;exact O _ c J
 have sg:∀ i:Int,PyData.strOk (sgn i)=true:=λi=>by unfold sgn;split<;>lia
 have L:∀ p∈ptO ts w,∀ t∈p.2.toList,PyData.strOk t=true:=λp Z t I=>by
  have:=jD h.lett p Z t (by cases e:p.2 with
   |none=>rw[e]at I;cases I
   |some x=>rw[e]at I;rw[Al.mp I])
  exact this.ok
 intro t I
 unfold tkA at I
 cases e:ptO ts w with
 |nil=>rw[e]at I;cases I
 |cons p r =>
  rw[e]at I L
  rcases Aq.mp I with I|I
  ·rcases Am.mp I with rfl|I
   ·exact num _
   ·exact L p (Aj ..) t I
  ·let ⟨q,hq,I⟩:=Fw.mp I
   rcases Am.mp I with rfl|I
   ·exact sg _
   ·rcases Am.mp I with rfl|I
    ·exact num _
    ·exact L q (Ak _ hq) t I
theorem GW{xs:List Str}(h:∀ x∈xs,PyData.strOk x=true):eF (xs.map D.str)=true:=mI λd hd=>by
 let ⟨x,hx,rfl⟩:=A5.mp hd
 simp only[imm]
 exact h x hx
def UX:D->D
 |.tup (d::_)=>d
 |d=>d
theorem KW(hk:0<k):Txt.startswith (nT k) (Aa "-")=false:=by
 rw[(iI (by lia)).1 hk];exact qN _
section
variable {P:Program}{w:World}{K:Ad}{base:Heap}{f:Addr}
local macro_rules | `(tactic| tm_at $s:str)=>bJ n_bb s
local macro_rules | `(tactic| tm_at "d")=>`(tactic| first
 |((with_reducible show TV _ _ _ (Expr.Compare (Expr.Name "tokens" _) [CmpOp.Eq] _ _) _);(with_reducible refine' DR ?n0 ?_);(case n0=>exact hr.units))
 |((with_reducible show EV _ _ _ (Expr.Call (Expr.Attribute _ "startswith" _) [_] [] _) _);(with_reducible refine' qJ ?_ ?n1 ?n2 ?n3 ?n4 ?n5);(case n1=>rfl);(case n2=>rfl);(case n3=>rfl);(case n4=>rfl);(case n5=>rfl)))
theorem ok_read_added(F:Fun K "read_added" "read_added" s_bb f fd)(h_len:mg "len"=none)(h_range:mg "range"=none)(h_tuple:mg "tuple"=none)(C_must:Cal P w K mg base 1 "must" spMustR)(C_read_weight:Cal P w K mg base 2 "read_weight" spWeightR)(C_read_term:Cal P w K mg base 3 "read_term" spTermR)(C_must_be_in_order:Cal P w K mg base 2 "must_be_in_order" spOrderR):F8 P w K mg base CX0 4 f fd P_bb (aD K spAddedR):=by
 tm_at "F bb"
 let ⟨l,ts,J,n,rfl,hl,L,hb,q⟩:=h
 have g1:=L.len
 by_cases hz:ts=[]/\J=0
 ·let ⟨rfl,rfl⟩:=hz
  rw[GA]at hl
  refine aA ?_
  lk
  intro p0 hp0
  have x0:=aB (o:=.lst [.str "0"]) hp0
  refine tU (x0 _ _ hl) FB (by lia) (by lia) ?_
  lk
  exact q _ x0
 ·let ⟨k,r,hk,eA,eS,f2⟩:=FY (λt h=>(L.wt t h).1) hz
  have d9:B 64 k:=by
   rcases f2 with rfl|⟨t,h1,rfl⟩
   ·exact hb
   ·exact (L.wt t h1).2
  rw[eA]at hl
  have i0:atI ((nT k::r).map D.str) 0=some (.str (nT k)):=L2.aX (j:=0) rfl
  refine aA ?_
  lk
  intro p0 hp0
  have x0:=aB (o:=.lst [.str "0"]) hp0
  refine DQ (ys:=[.str "0"]) (x0 _ _ hl) FB ?im1 (by lia) ?dep ?_
  case im1=>exact GW (by have:=UW (w:=J) L;rw[eA]at this;exact this)
  case dep=>exact uO _
  have f3:PyData.eqvAll (pdL ((nT k::r).map D.str)) (pdL [D.str "0"])=false:=by
   have h0:=yS (i:=k) (by have:k.natAbs<2^64:=d9;show k.natAbs<2^65;lia) hk
   simp[pdL,pd,PyData.eqvAll,PyData.eqv,h0]
  rw[f3]
  walk
  intro p1 f1
  have x1:=aB (o:=.lst [.str "+"]) f1
  lk
  have S:(sgd ts J).length=3*ts.length+(if J≠0 then 2 else 0):=by
   rw[sF hz,Ae,yU]
   split<;>rfl
  have f8:r.length<=30:=by
   have:(sgd ts J).length=r.length+2:=by rw[eS];rfl
   split at S<;>lia
  refine gQ FB (x1 _ _ (x0 _ _ hl)) (small (by rw[Ab];show 1+(_+1)<=_;lia)) λp2 f7=>?_
  have x2:=aB (o:=.lst ([D.str "+"]++(nT k::r).map D.str)) f7
  have xx:=b6 x0 (b6 x1 x2)
  have b4:=xx _ _ hl
  have b5:FF (FF (FF M p0 (.lst [.str "0"])) p1 (.lst [.str "+"])) p2 (.lst ([D.str "+"]++(nT k::r).map D.str)) p2=some (cE (Aa "+":: nT k::r)):=FB
  generalize FF (FF (FF M p0 (.lst [.str "0"])) p1 (.lst [.str "+"])) p2 (.lst ([D.str "+"]++(nT k::r).map D.str))=M2 at xx b4 b5 ⊢
  refine bS (λG' M'=>∃ p3,G'=[some (.ref l),some (.int n),some (.ref p3),none,none]/\M' p3=some (cE (sgd ts J))/\Ext M M') ?_ ?_
  ·repeat first|k_go|refine aF b4 i0 ?_
   exists _,rfl,?_
   lk
   exists _,rfl,?_
   rcases Ej hk with f5|d8
   ·have e:=(iI hk).2 f5
    have g2:(nT k).length<=31:=oH (by have:k.natAbs<2^64:=d9;show k.natAbs<2^65;lia)
    rw[e,qO]
    lk
    refine bB FN ?_
    repeat first|k_go|refine aF b4 i0 ?_
    refine bE ?_
    lk
    refine bO ?_
    refine FO rfl (small (by lia)) ?_
    rw[e,yT]
    lk
    intro p3 Z
    have x3:=aB (o:=.lst [.str "-",.str (abT k)]) Z
    refine bB bN ?_
    lk
    refine bE ?_
    lk
    refine bO ?_
    refine bP rfl (Bh (x3 _ _ b4)) λp4 f6=>?_
    have ec:D3.cK ((nT k::r).map D.str) (some 1) none=r.map D.str:=cL _ 1 (by simp)
    rw[ec]
    have x4:=aB (o:=.lst (r.map D.str)) f6
    refine gQ (x4 _ _ FB) FB (small (by rw[Ab];show 2+_<=_;lia)) λp5 hp5=>?_
    lk
    exists p5,rfl,?_,b6 xx (b6 x3 (b6 x4 (aB hp5)))
    rw[FB,eS]
    have es:sgn k=Aa "-":= by unfold sgn;rw[if_neg (by lia)]
    rw[es]
    all_goals (try rfl)
   ·rw[KW d8]
    lk
    exists p2,rfl,?_,xx
    rw[b5,eS]
    have es:sgn k=Aa "+":= by unfold sgn;rw[if_pos d8]
    rw[es,(iI hk).1 d8]
    all_goals (try rfl)
  ·rintro G' M3 ⟨p3,rfl,Z,x3⟩
   have hL:(sgd ts J).length<=40:=by split at S<;>lia
   have b1:Bd (((sgd ts J).map D.str).length:Nat) 10:=#v[by rw[Ab];show (((sgd ts J).length:Nat):Int).natAbs<2^10;lia]
   lk
   exists _,_,rfl,Bh #v[_,Z,rfl],?_
   lk
   have e3:((((sgd ts J).map D.str).length:Nat):Int).fdiv 3*3=((3*ts.length:Nat):Int):=by
    rw[Ab,S]
    rw[Int.fdiv_eq_ediv_of_nonneg _ (by decide)]
    split<;>lia
   rw[e3]
   lk
   with_reducible refine' BB 4 (own:=["at"]) (js:=[1,2]) (N:=["at", "number", "signed"]) ?T ?xe ?ca ?hm ?hN ?hj ?hy ?hyf ?hsw ?_ ?hg ?hse ?hse2 ?hs
   case T=>exact bW (fs:=["number", "signed"]) rfl (by lia) (by lia) rfl rfl rfl rfl rfl
   case xe=>rfl
   case ca=>rfl
   case hm=>exact h_range
   case hN=>exact nd
   case hj=>rfl
   case hy=>first|exact Bh rfl|exact D0 rfl
   case hyf=>exact .inl rfl
   case hsw=>rfl
   case hg=>rfl
   case hse=>rfl
   case hse2=>rfl
   case hs=>(intro _;rfl)
   lk
   have em:many3 0 ((3*ts.length:Nat):Int)=ts.length:=by unfold many3;lia
   exists _,λq2 i2 b7 M5=>b7=((ts.take i2).map λt=>D.tup [.str t.1,.int t.2])/\M3 q2=none/\∀ c o,M3 c=some o->M5 c=some o,rfl,by lia,by lia,?_,?_,?_
   ·intro q2 O
    exact #v[by simp,O,aB O]
   ·rintro Y ⟨C',s',H',fp,rfl⟩ q2 i2 b7 M5 hi ⟨rfl,O,b2⟩ I
    rw[em]at hi
    obtain ⟨t,hti⟩:∃ t,ts[i2]?=some t:=#v[_,Bm hi]
    have V:=Bf hti
    have d6:(["at", "number", "signed"]:List Str).Nodup:=by lia
    refine bC 0 d6 ?_
    exists rfl,λi d e=>?_,?_
    ·rcases i with _|i
     ·simp[aN]at e
     ·exact e
    repeat first|(refine aP 0 ?_)|(refine aP 1 ?_)|(refine aP 2 ?_)|k_go
    refine bB bN ?_
    repeat first|(refine aP 0 ?_)|(refine aP 1 ?_)|(refine aP 2 ?_)|k_go
    refine bE ?_
    repeat first|(refine aP 0 ?_)|(refine aP 1 ?_)|(refine aP 2 ?_)|k_go
    refine bE ?_
    repeat first|(refine aP 0 ?_)|(refine aP 1 ?_)|(refine aP 2 ?_)|k_go
    refine bP rfl (Bh (b2 _ _ Z)) λp6 e8=>?_
    have ec:D3.cK ((sgd ts J).map D.str) (some ((3*i2:Nat):Int)) (some (((3*i2:Nat):Int)+3))=(tkP (t.2,some t.1)).map D.str:=by
     rw[show ((3*i2:Nat):Int)+3=((3*i2+3:Nat):Int) from by lia,PY _ _ _ (by rw[Ab,S];lia),<- Ez,<- Ef,sF hz,FZ hti]
    rw[ec]
    repeat first|(refine aP 0 ?_)|(refine aP 1 ?_)|(refine aP 2 ?_)|k_go
    exists p6,t,n,rfl,FB,L.lett t V,(L.wt t V).1,(L.wt t V).2,λM7 x7=>?_
    exists x7 _ _ (aB e8 _ _ I),aT (by rw[Ab,Bt];lia),?_,O,λc o e=>by rw[aC (aU e O)];exact x7 _ _ (aB e8 _ _ (b2 c o e))
    rw[F3,hti,Ai]
    rfl
   ·rintro q2 b7 M5 ⟨rfl,O,b2⟩ I
    rw[em,Bx]at I
    have hp5:=b2 _ _ Z
    walk
    with_reducible refine' dI (own:=["term"]) (js:=[]) (N:=["term"]) (cl:=[]) ?T ?xe ?ca UX (λ_=>true) ?_ ?hs
    case T=>exact cA (by lia) (by lia) rfl (by lia) rfl
    case xe=>rfl
    case ca=>rfl
    case hs=>(intro _;rfl)
    lk
    exists q2,_,rfl,.inl I,small (by rw[Ab];lia),?_,λq6 f4=>?_
    ·rintro Y ⟨C',s',H',fp,rfl⟩ M' hM d hd
     let ⟨t,f9,rfl⟩:=A5.mp hd
     have d6:(["term"]:List Str).Nodup:=by lia
     refine bC 0 d6 ?_
     exists rfl,λi d e=>by rcases i with _|i<;>simp[aN]at e,cW #v[rfl,rfl],λ_=>?_
     repeat first|(refine aP 0 ?_)|k_go
     exact #v[rfl,rfl]
    have ef:(((ts.map λt=>D.tup [.str t.1,.int t.2]).filter λ_=>true).map UX)=(ts.map (·.1)).map D.str:=by
     rw[B9.mpr (by simp),By,By]
     rfl
    rw[ef]
    have x6:=aB (o:=.lst ((ts.map (·.1)).map D.str)) f4
    lk
    exists q6,ts.map (·.1),n,rfl,FB,L.up,by rw[Ab];lia,λM8 x8=>?_
    have y8:=b6 x6 x8
    have d7:=y8 _ _ hp5
    have e7:=y8 _ _ I
    have xM:Ext M M8:=λc o e=>y8 _ _ (b2 _ _ (x3 _ _ e))
    walk
    exists _,_,rfl,Bh #v[_,d7,rfl],?_
    lk
    by_cases hw:J=0
    ·refine cF (by rw[Ab,S,if_neg (by simp[hw])];rfl) ?_
     lk
     exists _,rfl,_,e7,?_
     lk
     rw[hw]at q
     exact q M8 xM
    ·have b3:(sgd ts J).length=3*ts.length+2:=by rw[S,if_pos hw]
     refine bZ (by rw[Ab,b3];lia) ?_
     walk
     exists _,_,rfl,Bh #v[_,d7,rfl],?_
     lk
     exists n,by rw[decide_eq_true (by rw[Ab,b3];lia)],?_
     walk
     exists _,rfl,_,e7,?_
     lk
     refine bB bN ?_
     lk
     refine bE ?_
     lk
     refine bO ?_
     refine bP rfl (Bh d7) λp9 e9=>?_
     have ec:D3.cK ((sgd ts J).map D.str) (some ((3*ts.length:Nat):Int)) none=[sgn J,abT J].map D.str:=by
      rw[cL _ _ (by rw[Ab,b3];lia),<- Ez,sF hz,if_pos hw]
      congr 1
      rw[<- yU ts,List.drop_left]
     rw[ec]
     lk
     exists p9,J,n,[],rfl,FB,hw,hb,λM9 x9=>?_
     lk
     exact q M9 (b6 xM (b6 (aB e9) x9))
end
theorem zA(i:Int):∀ c∈(nT i).cps.toList,c<58:=by
 have J:∀ m:Nat,∀ c∈(nT (m:Int)).cps.toList,c<58:=λm c I=>by have:=cO m c I;lia
 intro c I
 by_cases h0:i=0
 ·subst h0;exact J 0 c I
 ·let ⟨S,V⟩:=iI h0
  rcases Ej h0 with O|L
  ·rw[V O,bU]at I
   rcases Aq.mp I with I|I
   ·have:c∈[45]:=I
    simp at this
    lia
   ·exact J _ c I
  ·rw[S L]at I;exact J _ c I
theorem uP(h:∀ t∈ts,F7 t.1)(h1:2<=x.length)(h2:∃ c∈x.cps.toList,97<=c):∀ t∈tkA ts w,t≠x:=by
 let ⟨c,O,L⟩:=h2
 have num:∀ i:Int,nT i≠x:=λi z=>by
  have:=zA i c (by rw[z];exact O)
  lia
 have V:∀ i:Int,sgn i≠x:=λi z=>by
  have e:(sgn i).length=1:=by unfold sgn;split<;>lia
  rw[z]at e
  lia
 have J:∀ p∈ptO ts w,∀ t∈p.2.toList,t≠x:=λp Y t I=>by
  have:=jD h p Y t (by cases e:p.2 with
   |none=>rw[e]at I;cases I
   |some x=>rw[e]at I;rw[Al.mp I])
  let ⟨d,_,_,rfl⟩:=this
  intro z
  rw[<- z]at h1
  have Z:2<=1:=h1
  lia
 intro t I
 unfold tkA at I
 cases e:ptO ts w with
 |nil=>rw[e]at I;cases I
 |cons p r =>
  rw[e]at I J
  rcases Aq.mp I with I|I
  ·rcases Am.mp I with rfl|I
   ·exact num _
   ·exact J p (Aj ..) t I
  ·let ⟨q,S,I⟩:=Fw.mp I
   rcases Am.mp I with rfl|I
   ·exact V _
   ·rcases Am.mp I with rfl|I
    ·exact num _
    ·exact J q (Ak _ S) t I
theorem zB(h:ts.length<=6):(tkA ts w).length<=30:=by
 have I:(ptO ts w).length<=7:=by
  unfold ptO
  rw[Ae,Ab]
  split<;>simp<;>lia
 have J:∀ l:List Pn,(l.flatMap tkP).length<=3*l.length:=λl=>by
  induction l with
  |nil=>exact Ao _
  |cons p l L =>
   rw[Bp,Ae,Ah]
   have:(tkP p).length<=3:=by unfold tkP;cases p.2<;>simp
   lia
 unfold tkA
 cases e:ptO ts w with
 |nil=>simp
 |cons p r =>
  rw[e,Ah]at I
  have:=J r
  show (nT p.1::p.2.toList++r.flatMap tkP).length<=30
  rw[Ae,Ah]
  have:p.2.toList.length<=1:=by cases p.2<;>simp
  lia
theorem zC(ts:List (Str×Int))(w:Int):1<=(tkA ts w).length:=C9.mpr (rX ts w)
section
variable {P:Program}{w:World}{K:Ad}{mg:Str->Option Value}{base:Heap}{f:Addr}{fd:FuncData}{aW:Addr}
local macro_rules | `(tactic| tm_at "d")=>`(tactic| ((with_reducible show EV _ _ _ (Expr.BinOp _ Operator.Add (Expr.Tuple _ _ _) _) _);with_reducible refine yC ?_))
local macro_rules | `(tactic| tm_at $s:str)=>bJ n_ba s
theorem ok_read_sum(F:Fun K "read_sum" "read_sum" s_ba f fd)(h_len:mg "len"=none)(C_must:Cal P w K mg base 1 "must" spMustR)(C_read_whole:Cal P w K mg base 2 "read_whole" spWholeR)(C_read_added:Cal P w K mg base 4 "read_added" spAddedR):F8 P w K mg base CX0 5 f fd P_ba (aD K spSumR):=by
 tm_at "F ba"
 let ⟨l,I,n,rfl,hl,hs,q⟩:=h
 let ⟨L,hw,hp,hb⟩:=hs
 have hA:=zB (w:=I.2.1) L.len
 have b2:=zC I.1 I.2.1
 have b3:I.2.2.natAbs<2^64:=hb
 have eD:smD I=.tup [trm I.1,.int I.2.1,.int I.2.2]:=rfl
 by_cases h1:I.2.2>1
 ·have eT:tkS I=tkA I.1 I.2.1++[Aa "over",nT I.2.2]:=by unfold tkS;rw[if_pos h1]
  rw[eT]at hl
  have e2:cE (tkA I.1 I.2.1++[Aa "over",nT I.2.2])=.lst ((tkA I.1 I.2.1).map D.str++[.str "over",.str (nT I.2.2)]):=by unfold cE;rw[Ai];rfl
  rw[e2]at hl
  refine aA ?_
  lk
  exists _,_,rfl,Bh #v[_,hl,rfl],?_
  lk
  refine bZ (by rw[Ae,Ab];simp only[Ah,B6];lia) ?_
  repeat first|k_go|refine aF hl (kG _ _ _) ?_|refine VY rfl ?_|refine aA ?_|refine aF hl (sE _ _ _) ?_
  exists I.2.2,n,rfl,by show I.2.2.natAbs<2^65;lia,λM1 x1=>?_
  walk
  exists n,by rw[decide_eq_true h1],?_
  walk
  refine bB bN ?_
  lk
  refine bO ?_
  refine bE ?_
  lk
  refine bP rfl (Bh (x1 _ _ hl)) λp2 b1=>?_
  rw[sD]
  lk
  exists p2,I.1,I.2.1,n,rfl,FB,L,hw,λY S=>?_
  lk
  exists _,_,rfl,rfl,small (Cf rfl),?_
  exact q Y (b6 x1 (b6 (aB b1) S))
 ·have V:I.2.2=1:=by lia
  have eT:tkS I=tkA I.1 I.2.1:=by unfold tkS;rw[if_neg h1,A7]
  rw[eT]at hl
  refine aA ?_
  lk
  exists _,_,rfl,Bh #v[_,hl,rfl],?_
  lk
  rw[Ab]
  refine ifD ?_ ?_
  ·intro _
   lk
   exists l,I.1,I.2.1,n,rfl,hl,L,hw,λY S=>?_
   lk
   exists _,_,rfl,rfl,small (Cf rfl),?_
   rw[eD,V]at q
   exact q Y S
  ·intro b4
   obtain ⟨xs,a,b,e3⟩:∃ xs a b,tkA I.1 I.2.1=xs++[a,b]:=by
    have J:3<=(tkA I.1 I.2.1).length:=by lia
    generalize tkA I.1 I.2.1=ys at J
    obtain ⟨y1,b,rfl⟩:∃ y1 b,ys=y1++[b]:=#v[ys.dropLast,ys.getLast (by intro z;rw[z]at J;simp at J),(B7 _).symm]
    obtain ⟨y2,a,rfl⟩:∃ y2 a,y1=y2++[a]:=#v[y1.dropLast,y1.getLast (by intro z;rw[z]at J;simp at J),(B7 _).symm]
    exact #v[y2,a,b,by rw[Az];rfl]
   have Z:¬ a=Aa "over":= uP L.lett (by lia) #v[111,by lia,by decide] a (by rw[e3];simp)
   have O:=hl
   rw[e3]at O
   have e2:cE (xs++[a,b])=.lst (xs.map D.str++[.str a,.str b]):=by unfold cE;rw[Ai];rfl
   rw[e2]at O
   repeat first|k_go|refine aF O (kG _ _ _) ?_|refine ON Z ?_
   exists l,I.1,I.2.1,n,rfl,hl,L,hw,λY S=>?_
   lk
   exists _,_,rfl,rfl,small (Cf rfl),?_
   rw[eD,V]at q
   exact q Y S
local macro_rules | `(tactic| tm_at $s:str)=>bJ n_ax s
theorem ok_read_measure(F:Fun K "read_measure" "read_measure" s_ax f fd)(h_len:mg "len"=none)(C_must:Cal P w K mg base 1 "must" spMustR)(C_read_whole:Cal P w K mg base 2 "read_whole" spWholeR)(C_read_sum:Cal P w K mg base 5 "read_sum" spSumR):F8 P w K mg base CX0 6 f fd P_ax (aD K spMeasR):=by
 tm_at "F ax"
 let ⟨l,m,n,rfl,hl,hs,S,V,q⟩:=h
 have O:1<=(tkS m.1).length:=C9.mpr (rZ m.1)
 have e2:cE (tkS m.1++[Aa "by",nT m.2])=.lst ((tkS m.1).map D.str++[.str "by",.str (nT m.2)]):=by unfold cE;rw[Ai];rfl
 rw[e2]at hl
 refine aA ?_
 lk
 exists _,_,rfl,Bh #v[_,hl,rfl],?_
 lk
 refine cF (by rw[Ae,Ab];simp only[Ah,B6];lia) ?_
 repeat first|k_go|refine aF hl (kG _ _ _) ?_
 exists n,by rw[decide_eq_true rfl],?_
 repeat first|k_go|refine aA ?_|refine aF hl (sE _ _ _) ?_
 exists m.2,n,rfl,V,λM1 J=>?_
 walk
 exists n,by rw[decide_eq_true S],?_
 walk
 refine bB bN ?_
 lk
 refine bO ?_
 refine bE ?_
 lk
 refine bP rfl (Bh (J _ _ hl)) λL I=>?_
 rw[sD]
 lk
 exists L,m.1,n,rfl,FB,hs,λZ Y=>?_
 lk
 exact q Z (b6 J (b6 (aB I) Y))
local macro_rules | `(tactic| tm_at $s:str)=>bJ n_az s
local macro_rules | `(tactic| tm_at "d")=>`(tactic| first
 |((with_reducible show EV _ _ _ (Expr.Compare _ [CmpOp.In] [Expr.Name "WORDS" _] _) _);(with_reducible refine' FM ?n0 ?n1 ?n2 ?n3 ?_ ?n4 ?n5 ?n6);(case n0=>exact hW);(case n1=>lia);(case n2=>exact hsys);(case n3=>exact gW);(case n4=>rfl);(case n5=>decide);(case n6=>rfl))
 |((with_reducible show EV _ _ _ (Expr.Subscript (Expr.Name "WORDS" _) _ _) _);(with_reducible refine' DN ?n0 ?n1 ?n2 ?_ ?n3 ?n4 ?n5);(case n0=>exact hW);(case n1=>lia);(case n2=>exact gW);(case n3=>rfl);(case n4=>decide);(case n5=>(intro _ _;rfl))))
theorem uQ(F:Fun K "read_row" "read_row" s_az f fd)(h_len:mg "len"=none)(hW:Two K w aW ">=" "least" ">" "more")(hsys:(aW == sysModules)=false)(gW:mg "WORDS"=some (.ref aW))(C_must:Cal P w K mg base 1 "must" spMustR)(C_read_whole:Cal P w K mg base 2 "read_whole" spWholeR)(C_read_added:Cal P w K mg base 4 "read_added" spAddedR):F8 P w K mg base CX0 5 f fd P_az (aD K spRowR):=by
 tm_at "F az"
 let ⟨l,r,n,rfl,hl,⟨ht,Z⟩,q⟩:=h
 have V:=zC r.2.1 0
 have b1:r.2.2.natAbs<2^64:=Z
 have e2:cE (tkR r)=.lst ((tkA r.2.1 0).map D.str++[.str (kZ r.1),.str (nT r.2.2)]):=by unfold cE tkR;rw[Ai];rfl
 rw[e2]at hl
 have J:(decide (kZ r.1=Aa ">=")||decide (kZ r.1=Aa ">"))=true:=by cases r.1<;>lia
 refine aA ?_
 lk
 exists _,_,rfl,Bh #v[_,hl,rfl],?_
 lk
 refine cF (by rw[Ae,Ab];simp only[Ah,B6];lia) ?_
 repeat first|k_go|refine aF hl (kG _ _ _) ?_
 exists _,rfl,?_
 rw[J]
 lk
 exists n,rfl,?_
 walk
 refine bB bN ?_
 lk
 refine bO ?_
 refine bE ?_
 lk
 refine bP rfl (Bh hl) λS L=>?_
 rw[sD]
 lk
 exists S,r.2.1,0,n,rfl,FB,ht,by show (0:Int).natAbs<2^64;decide,λM3 x3=>?_
 have O:=b6 (aB (o:=.lst ((tkA r.2.1 0).map D.str)) L) x3
 have I:=O _ _ hl
 walk
 exists n,by rw[decide_eq_true rfl],?_
 repeat first|k_go|refine aA ?_|refine aF I (kG _ _ _) ?_
 exists _,rfl,?_,?_
 ·cases r.1
  ·exact .inr (by lia)
  ·exact .inl (by lia)
 have Y:(if kZ r.1=Aa ">=" then Aa "least" else Aa "more")=word r.1:=by cases r.1<;>lia
 rw[Y]
 repeat first|k_go|refine aF I (sE _ _ _) ?_
 exists r.2.2,n,rfl,by show r.2.2.natAbs<2^65;lia,λM4 x4=>?_
 lk
 exact q M4 (b6 O x4)
end
def ad(gs:List (List Str))(t:Str):List (List Str):=if t=Aa "and" then gs++[[]] else gs.dropLast++[gs.getLastD []++[t]]
theorem GX(gs:List (List Str)):ad gs (Aa "and")=gs++[[]]:=by unfold ad;rw[if_pos rfl]
theorem GY(h:t≠Aa "and"):ad (gs++[g]) t=gs++[g++[t]]:=by
 unfold ad
 rw[if_neg h,E3]
 simp
theorem xA:∀{xs:List Str},(∀ t∈xs,t≠Aa "and")->∀(gs:List (List Str)) (g:List Str),xs.foldl ad (gs++[g])=gs++[g++xs]
 |[],_,gs,g=>by simp
 |x::xs,h,gs,g=>by
  rw[E7,GY (h x (Aj ..)),xA (λt I=>h t (Ak _ I)),Az]
  rfl
theorem zD(h:RdR r):∀ t∈tkR r,t≠Aa "and":= by
 intro t I
 unfold tkR at I
 rcases Aq.mp I with I|I
 ·exact uP h.1.lett (by lia) #v[97,by lia,by decide] t I
 ·simp only[Am,Bi,or_false]at I
  rcases I with rfl|rfl
  ·cases r.1<;>lia
  ·intro z
   have:=zA r.2.2 97 (by rw[z];lia)
   lia
theorem zE:∀{rs:List Rw},rs≠[]->(∀ r∈rs,RdR r)->∀ gs:List (List Str),(dX rs).foldl ad (gs++[[]])=gs++rs.map tkR
 |[],h,_,_=>absurd rfl h
 |[r],_,h,gs=>xA (zD (h r (Aj ..))) gs []
 |r::s::l,_,h,gs=>by
  show (tkR r++Aa "and":: dX (s::l)).foldl ad (gs++[[]])=_
  rw[Er,xA (zD (h r (Aj ..))) gs [],E7,GX,A2,zE (by simp) (λq I=>h q (Ak _ I)),Az]
  rfl
theorem sK(h:RdR r):(tkR r).length<=32:=by
 have:=zB (w:=0) h.1.len
 unfold tkR
 rw[Ae]
 show _+2<=32
 lia
theorem GZ(h:pF rs):(dX rs).length<=70:=by
 let ⟨h1,h2⟩:=h
 match rs,h1,h2 with
 |[],_,_=>simp[dX]
 |[r],_,h2=>exact Ay (sK (h2 r (Aj ..))) (by decide)
 |[r,s],_,h2 =>
  have a:=sK (h2 r (Aj ..))
  have b:=sK (h2 s (by simp))
  show (tkR r++Aa "and":: tkR s).length<=70
  rw[Ae,Ah]
  lia
theorem gH(h:Ext M M')(e:M' p=none):M p=none:=by
 cases z:M p with
 |none=>rfl
 |some o=>rw[h _ _ z]at e;cases e
def Gz(M:MH):List Addr->List (List Str)->Prop
 |[],gs=>gs=[]
 |a::as,gs=>∃ g r,gs=g::r/\M a=some (cE g)/\Gz M as r
theorem Gz.len:∀{as:List Addr} {gs:List (List Str)},Gz M as gs->as.length=gs.length
 |[],gs,h=>by rw[show gs=[] from h];rfl
 |a::as,gs,h=>by
  let ⟨g,r,rfl,_,h2⟩:=h
  rw[Ah,Ah,h2.len]
theorem Gz.keep:∀{as:List Addr} {gs:List (List Str)},Gz M as gs->(∀ a∈as,∀ o,M a=some o->M' a=some o)->Gz M' as gs
 |[],gs,h,_=>h
 |a::as,gs,h,k=>by
  let ⟨g,r,rfl,h1,h2⟩:=h
  exact #v[g,r,rfl,k a (Aj ..) _ h1,h2.keep λb I=>k b (Ak _ I)]
theorem Gz.snoc(I:M a=some (cE g)):∀{as:List Addr} {gs:List (List Str)},Gz M as gs->Gz M (as++[a]) (gs++[g])
 |[],gs,h=>by rw[show gs=[] from h];exact #v[g,[],rfl,I,rfl]
 |b::as,gs,h=>by
  let ⟨g',r,rfl,h1,h2⟩:=h
  exact #v[g',_,rfl,h1,h2.snoc I]
theorem Gz.get:∀{as:List Addr} {gs:List (List Str)} {i:Nat} {a:Addr},Gz M as gs->as[i]?=some a->∃ g,gs[i]?=some g/\M a=some (cE g)
 |[],_,_,_,_,e=>by simp at e
 |b::as,gs,0,a,h,e=>by
  let ⟨g,r,rfl,h1,_⟩:=h
  simp at e;subst e
  exact #v[g,rfl,h1]
 |b::as,gs,i+1,a,h,e=>by
  let ⟨g,r,rfl,_,h2⟩:=h
  exact h2.get (by simpa using e)
theorem Gz.has(h:Gz M as gs):∀ a∈as,∃ o,M a=some o:=λa I=>by
 let ⟨i,J⟩:=Cw.mp I
 let ⟨g,_,e⟩:=h.get J
 exact #v[_,e]
section
variable {P:Program}{w:World}{K:Ad}{base:Heap}{f:Addr}
local macro_rules | `(tactic| tm_at $s:str)=>bJ n_ay s
local macro_rules | `(tactic| tm_at "d")=>`(tactic| ((with_reducible show EV _ _ _ (Expr.Name "MOST_ROWS" _) _);(with_reducible refine' IE ?n0 ?_ ?n1 ?n2);(case n0=>exact gM);(case n1=>rfl);(case n2=>decide)))
theorem ok_read_rows(F:Fun K "read_rows" "read_rows" s_ay f fd)(h_len:mg "len"=none)(h_tuple:mg "tuple"=none)(gM:mg "MOST_ROWS"=some (.int 2 tM))(C_must:Cal P w K mg base 1 "must" spMustR)(C_read_row:Cal P w K mg base 5 "read_row" spRowR):F8 P w K mg base CX0 6 f fd P_ay (aD K spRowsR):=by
 tm_at "F ay"
 let ⟨l,rs,n,rfl,hl,d9,L,q⟩:=h
 have f2:=GZ L
 refine aA ?_
 lk
 intro a0 d6
 lk
 intro p0 hp0
 have x0:=aB (o:=.lst []) d6
 have x1:=aB (o:=.lst [.ref a0]) hp0
 have e8:a0≠p0:=aU (FB (M:=M) (a:=a0) (o:=.lst [])) hp0
 refine aA ?_
 with_reducible refine' dC ?n0 ?n1 ?_ ?n2
 case n0=>exact PassesOwn.never
 case n1=>rfl
 case n2=>(intro _;rfl)
 lk
 exists l,(dX rs).map D.str,λi G' M'=>∃(as:List Addr) (a:Addr) (gs:List (List Str)) (g:List Str) (r3:Option D),G'=[some (.ref l),some (.int n),some (.ref p0),r3]/\M' p0=some (.lst ((as++[a]).map D.ref))/\Gz M' as gs/\M' a=some (cE g)/\((dX rs).take i).foldl ad [[]]=gs++[g]/\(∀ b∈as++[a],M b=none/\b≠p0)/\a∉as/\g.length+gs.length<=i+1/\∀ c o,M c=some o->M' c=some o,rfl,.inl (x1 _ _ (x0 _ _ hl)),?_,?_,?_,?_
 ·exact #v[[],a0,[],[],none,rfl,FB,rfl,x1 _ _ FB,rfl,λb J=>by rw[Al.mp J];exact #v[d6,e8],by simp,by simp,λc o e=>x1 _ _ (x0 _ _ e)]
 ·rintro i G' M' _ ⟨as,a,gs,g,r3,rfl,h1,h2,h3,h4,h5,h6,h7,h8⟩
  rw[h8 _ _ hl,x1 _ _ (x0 _ _ hl)]
 ·rintro i d G' M' hd ⟨as,a,gs,g,r3,rfl,h1,h2,h3,h4,h5,h6,h7,h8⟩
  rw[Ar]at hd
  let ⟨t,b7,rfl⟩:=Bz.mp hd
  have f5:=(Ax.mp b7).1
  have b5:M p0=none:=gH x0 hp0
  have f3:=h2.len
  have b2:((dX rs).take (i+1)).foldl ad [[]]=ad (gs++[g]) t:=by rw[F3,b7,Er,h4];rfl
  lk
  by_cases hand:t=Aa "and"
  ·refine cF hand ?_
   lk
   exists p0,rfl,#v[_,h1],?_
   lk
   intro a2 I
   have x2:=aB (o:=.lst []) I
   have S:p0≠a2:=aU h1 I
   exists _,x2 _ _ h1,aT (by rw[Ab,Ae];show _+1<=_;lia),?_
   exists as++[a],a2,gs++[g],[],_,rfl,?_,?_,?_,?_,?_,?_,?_,?_
   ·rw[FB,Ai (l₁:=as++[a])];rfl
   ·refine Gz.snoc ?_ (h2.keep λb J o e=>?_)
    ·rw[aC (h5 a (by simp)).2];exact x2 _ _ h3
    ·rw[aC (h5 b (by simp[J])).2];exact x2 _ _ e
   ·rw[aC S.symm];exact FB
   ·rw[b2,hand,GX]
   ·intro b J
    rcases Aq.mp J with J|J
    ·exact h5 b J
    ·rw[Al.mp J]
     exists ?_,S.symm
     cases e:M a2 with
     |none=>rfl
     |some o=>rw[h8 _ _ e]at I;cases I
   ·intro J
    rcases Aq.mp J with J|J
    ·let ⟨o,e⟩:=h2.has a2 J
     rw[e]at I;cases I
    ·rw[Al.mp J]at I
     rw[h3]at I;cases I
   ·rw[Ae];show 0+(_+1)<=_;lia
   ·intro c o e
    rw[aC (aU e b5)];exact x2 _ _ (h8 _ _ e)
  ·refine bZ hand ?_
   lk
   have el:atI ((as++[a]).map D.ref) (-1)=some (.ref a):=by rw[Ai];exact L2.eY _ _
   refine aF h1 el ?_
   exists a,rfl,#v[_,h3],?_
   lk
   exists _,h3,aT (by rw[Ab];lia),?_
   have f1:=(h5 a (by simp)).1
   have b1:=(h5 a (by simp)).2
   exists as,a,gs,g++[t],_,rfl,?_,?_,?_,?_,h5,h6,?_,?_
   ·rw[aC b1.symm];exact h1
   ·exact h2.keep λb J o e=>by rw[aC (λz=>h6 (by rw[<- z];exact J))];exact e
   ·rw[FB];unfold cE;rw[Ai];rfl
   ·rw[b2,GY hand]
   ·rw[Ae];show _+1+_<=_;lia
   ·intro c o e
    rw[aC (aU e f1)];exact h8 _ _ e
 ·rintro G' M' ⟨as,a,gs,g,r3,rfl,h1,h2,h3,h4,h5,h6,h7,h8⟩
  rw[Ab,Bx,show ([[]]:List (List Str))=[]++[[]] from rfl,zE d9 L.2,A2]at h4
  have hG:=Gz.snoc h3 h2
  rw[<- h4]at hG
  have b3:=hG.len
  rw[Ab]at b3
  have f4:=L.1
  walk
  exists _,_,rfl,Bh #v[_,h1,rfl],?_
  lk
  exists n,by rw[decide_eq_true (by rw[Ab,b3];lia)],?_
  walk
  with_reducible refine' AO (own:=["part"]) (js:=[1]) (N:=["part", "number"]) ?T ?xe ?ca ?_ ?hs
  case T=>exact bW (fs:=["number"]) rfl (by lia) (by lia) rfl rfl rfl rfl rfl
  case xe=>rfl
  case ca=>rfl
  case hs=>(intro _;rfl)
  lk
  exists p0,_,λq2 i2 Z M5=>Z=(rs.take i2).map rwD/\M' q2=none/\∀ c o,M' c=some o->M5 c=some o,rfl,h1,λq2 i2 Z M5 ⟨_,_,k5⟩=>k5 _ _ h1,λq2 V=>#v[by simp,V,aB V],?_,?_
  ·rintro Y ⟨C',s',H',fp,rfl⟩ q2 i2 Z M5 d hd ⟨rfl,V,k5⟩ O
   rw[Ar]at hd
   let ⟨ai,d7,rfl⟩:=Bz.mp hd
   let ⟨g2,b4,e7⟩:=hG.get d7
   rw[Ar]at b4
   let ⟨r,hri,rfl⟩:=Bz.mp b4
   have d8:(["part", "number"]:List Str).Nodup:=by lia
   refine bC 0 d8 ?_
   exists rfl,λi d e=>?_,?_
   ·rcases i with _|i
    ·simp[aN]at e
    ·exact e
   repeat first|(refine aP 0 ?_)|(refine aP 1 ?_)|k_go
   exists ai,r,n,rfl,k5 _ _ e7,L.2 r (Bf hri),λM7 x7=>?_
   exists x7 _ _ O,aT (by rw[Ab,Bt];lia),?_,V,λc o e=>by rw[aC (aU e V)];exact x7 _ _ (k5 c o e)
   rw[F3,hri,Ai]
   rfl
  ·rintro q2 Z M5 ⟨rfl,V,k5⟩ O
   have e9:rs.take ((as++[a]).map D.ref).length=rs:=by rw[Ab,b3,Bx]
   rw[e9]at O
   lk
   exists _,rfl,_,O,?_
   exact q M5 λc o e=>k5 _ _ (h8 _ _ e)
end
section
variable {P:Program}{w:World}{K:Ad}{mg:Str->Option Value}{base:Heap}{f:Addr}{fd:FuncData}
local macro_rules | `(tactic| tm_at $s:str)=>bJ n_aq s
theorem ok_read_names(F:Fun K "read_names" "read_names" s_aq f fd)(h_len:mg "len"=none)(h_all:mg "all"=none)(h_tuple:mg "tuple"=none)(C_must:Cal P w K mg base 1 "must" spMustR)(C_is_name:Cal P w K mg base 1 "is_name" spIsName)(C_must_be_in_order:Cal P w K mg base 2 "must_be_in_order" spOrderR):F8 P w K mg base CX0 3 f fd P_aq (aD K spNamesR):=by
 tm_at "F aq"
 let ⟨l,ss,n,rfl,hl,I,h1,V,q⟩:=h
 refine aA ?_
 lk
 exists _,_,rfl,Bh #v[_,hl,rfl],?_
 lk
 refine cF (by rw[Ab];lia) ?_
 lk
 with_reducible refine' yD ?n0 ?n1 ?_ ?n2 ?n3 ?n4
 case n0=>rfl
 case n1=>exact h_all
 case n2=>rfl
 case n3=>rfl
 case n4=>rfl
 lk
 with_reducible refine' dI (own:=["token"]) (js:=[]) (N:=["token"]) (cl:=[]) ?T ?xe ?ca (λ_=>D.bl true) (λ_=>true) ?_ ?hs
 case T=>exact cA (by lia) (by lia) rfl (by lia) rfl
 case xe=>rfl
 case ca=>rfl
 case hs=>(intro _;rfl)
 lk
 exists l,_,rfl,.inl hl,small (by rw[Ab];lia),?_,λq1 L=>?_
 ·rintro Y ⟨C',s',H',fp,rfl⟩ M' hM d hd
  let ⟨x,hx,rfl⟩:=A5.mp hd
  have O:(["token"]:List Str).Nodup:=by lia
  refine bC 0 O ?_
  exists rfl,λi d e=>by rcases i with _|i<;>simp[aN]at e,cW #v[rfl,rfl],λ_=>?_
  repeat first|(refine aP 0 ?_)|k_go
  exact #v[x,rfl,I.lett x hx,rfl,rfl]
 have e:((ss.map D.str).filter λ_=>true).map (λ_=>D.bl true)=(Bw ss.length true).map D.bl:=by
  rw[B9.mpr (by simp),By]
  clear hl I h1 V q
  induction ss with
  |nil=>rfl
  |cons a l Z=>simp only[Au,Ah,Fb];rw[Z];rfl
 rw[e]
 have J:=aB (o:=.lst ((Bw ss.length true).map D.bl)) L
 lk
 exists q1,_,rfl,FB,?_
 have e2:(Bw ss.length true).all id=true:=by simp
 rw[e2]
 lk
 exists n,rfl,?_
 walk
 exists l,ss,n,rfl,J _ _ hl,I,by lia,λM2 S=>?_
 walk
 exists _,rfl,_,S _ _ (J _ _ hl),?_
 exact q M2 (b6 J S)
theorem HA:([D.str "set",D.str "any"]:List D)=[Aa "set",Aa "any"].map D.str:=rfl
local macro_rules | `(tactic| tm_at $s:str)=>bJ n_aw s
theorem ok_read_plain(F:Fun K "read_plain" "read_plain" s_aw f fd)(h_len:mg "len"=none)(C_must:Cal P w K mg base 1 "must" spMustR)(C_is_name:Cal P w K mg base 1 "is_name" spIsName)(C_read_rows:Cal P w K mg base 6 "read_rows" spRowsR)(C_read_sum:Cal P w K mg base 5 "read_sum" spSumR):F8 P w K mg base CX0 7 f fd P_aw (aD K spPlainR):=by
 tm_at "F aw"
 let ⟨l,st,n,rfl,hl,hk,q⟩:=h
 cases st with
 |choose a b=>exact hk.elim
 |ite r a b=>exact hk.elim
 |whl r rs m b=>exact hk.elim
 |note rs =>
  let ⟨Z,O⟩:=hk
  have e0:stD (.note rs)=.tup [.str "note",.tup (rs.map rwD)]:=by simp only[stD]
  rw[e0]at q
  have i0:atI ((tkL (.note rs)).map D.str) 0=some (.str "note"):=L2.aX (j:=0) rfl
  refine aA ?_
  repeat first|k_go|refine aF hl i0 ?_|refine aA ?_|refine cF rfl ?_
  refine bB bN ?_
  lk
  refine bE ?_
  lk
  refine bO ?_
  refine bP rfl (Bh hl) λS L=>?_
  have ec:D3.cK ((tkL (.note rs)).map D.str) (some 1) none=(dX rs).map D.str:=cL _ 1 (by simp[tkL])
  rw[ec]
  lk
  exists S,rs,n,rfl,FB,Z,O,λV Y=>?_
  lk
  exact q V (b6 (aB L) Y)
 |any x =>
  have hx:F7 x:=hk
  have e0:stD (.any x)=.tup [.str "any",.str x]:=by simp only[stD]
  rw[e0]at q
  have i0:atI ((tkL (.any x)).map D.str) 0=some (.str "any"):=L2.aX (j:=0) rfl
  have i1:atI ((tkL (.any x)).map D.str) 1=some (.str x):=L2.aX (j:=1) rfl
  refine aA ?_
  repeat first|k_go|refine aF hl i0 ?_|refine aA ?_|refine bZ (by lia) ?_|(rw[HA];refine rH ?_)
  refine cF (by lia) ?_
  lk
  exists _,_,rfl,Bh #v[_,hl,rfl],?_
  lk
  refine cF (by simp[tkL]) ?_
  repeat first|k_go|refine aF hl i1 ?_
  exists x,rfl,hx,?_
  lk
  exists n,rfl,?_
  repeat first|k_go|refine aA ?_|refine cF rfl ?_
  exists _,_,rfl,Bh #v[_,hl,rfl],?_
  lk
  exists n,by rw[decide_eq_true (by simp[tkL])],?_
  repeat first|k_go|refine aA ?_|refine aF hl i1 ?_
  exact q M (Ext.refl _)
 |set x I =>
  let ⟨hx,hs⟩:=hk
  have e0:stD (.set x I)=.tup [.str "set",.str x,smD I]:=by simp only[stD]
  rw[e0]at q
  have b1:1<=(tkS I).length:=C9.mpr (rZ I)
  have i0:atI ((tkL (.set x I)).map D.str) 0=some (.str "set"):=L2.aX (j:=0) rfl
  have i1:atI ((tkL (.set x I)).map D.str) 1=some (.str x):=L2.aX (j:=1) rfl
  have i2:atI ((tkL (.set x I)).map D.str) 2=some (.str "="):=L2.aX (j:=2) rfl
  have J:((tkL (.set x I)).map D.str).length=(tkS I).length+3:=by rw[Ab];rfl
  refine aA ?_
  repeat first|k_go|refine aF hl i0 ?_|refine aA ?_|refine bZ (by lia) ?_|(rw[HA];refine rH ?_)
  refine cF (by lia) ?_
  lk
  exists _,_,rfl,Bh #v[_,hl,rfl],?_
  lk
  refine cF (by rw[J];lia) ?_
  repeat first|k_go|refine aF hl i1 ?_
  exists x,rfl,hx,?_
  lk
  exists n,rfl,?_
  repeat first|k_go|refine aA ?_|refine bZ (by lia) ?_
  exists _,_,rfl,Bh #v[_,hl,rfl],?_
  lk
  refine cF (by rw[J];lia) ?_
  repeat first|k_go|refine aF hl i2 ?_
  exists n,by rw[decide_eq_true rfl],?_
  repeat first|k_go|refine aA ?_|refine aF hl i1 ?_
  refine bB bN ?_
  lk
  refine bE ?_
  lk
  refine bO ?_
  refine bP rfl (Bh hl) λS L=>?_
  have ec:D3.cK ((tkL (.set x I)).map D.str) (some 3) none=(tkS I).map D.str:=cL _ 3 (by rw[J];lia)
  rw[ec]
  lk
  exists S,I,n,rfl,FB,hs,λV Y=>?_
  lk
  exact q V (b6 (aB L) Y)
local macro_rules | `(tactic| tm_at $s:str)=>bJ n_au s
theorem ok_read_opening(F:Fun K "read_opening" "read_opening" s_au f fd)(h_len:mg "len"=none)(C_must:Cal P w K mg base 1 "must" spMustR)(C_read_row:Cal P w K mg base 5 "read_row" spRowR):F8 P w K mg base CX0 6 f fd P_au (aD K spOpenR):=by
 tm_at "F au"
 let ⟨l,o,n,rfl,hl,hk,q⟩:=h
 cases o with
 |choose =>
  have i0:atI ((tkO .choose).map D.str) 0=some (.str "choose"):=L2.aX (j:=0) rfl
  refine aA ?_
  repeat first|k_go|refine aF hl i0 ?_|refine aA ?_|refine cF rfl ?_
  exists _,_,rfl,Bh #v[_,hl,rfl],?_
  lk
  exists n,by simp[tkO],?_
  walk
  intro p J
  exact q p _ J FB (aB J)
 |ite r =>
  have i0:atI ((tkO (.ite r)).map D.str) 0=some (.str "if"):=L2.aX (j:=0) rfl
  refine aA ?_
  repeat first|k_go|refine aF hl i0 ?_|refine aA ?_|refine bZ (by lia) ?_
  refine bB bN ?_
  lk
  refine bE ?_
  lk
  refine bO ?_
  refine bP rfl (Bh hl) λO I=>?_
  have S:D3.cK ((tkO (.ite r)).map D.str) (some 1) none=(tkR r).map D.str:=cL _ 1 (by simp[tkO])
  rw[S]
  lk
  exists O,r,n,rfl,FB,hk,λV L=>?_
  repeat first|k_go|refine aA ?_|refine cF rfl ?_
  intro p J
  exact q p _ (gH (b6 (aB I) L) J) FB (b6 (b6 (aB I) L) (aB J))
 |whl r =>
  have i0:atI ((tkO (.whl r)).map D.str) 0=some (.str "while"):=L2.aX (j:=0) rfl
  refine aA ?_
  repeat first|k_go|refine aF hl i0 ?_|refine aA ?_|refine bZ (by lia) ?_
  refine bB bN ?_
  lk
  refine bE ?_
  lk
  refine bO ?_
  refine bP rfl (Bh hl) λO I=>?_
  have S:D3.cK ((tkO (.whl r)).map D.str) (some 1) none=(tkR r).map D.str:=cL _ 1 (by simp[tkO])
  rw[S]
  lk
  exists O,r,n,rfl,FB,hk,λV L=>?_
  repeat first|k_go|refine aA ?_|refine bZ (by lia) ?_
  intro p J
  exact q p _ (gH (b6 (aB I) L) J) FB (b6 (b6 (aB I) L) (aB J))
end
abbrev Frm:=List D×List (List D)
structure FrA where
 o:Addr
 pp:Addr
 pb:Addr
 bs:List Addr
def FrA.fp(a:FrA):List Addr:=a.o::a.pp::a.pb::a.bs
def Lz(M:MH):List Addr->List (List D)->Prop
 |[],gs=>gs=[]
 |a::as,gs=>∃ g r,gs=g::r/\M a=some (.lst g)/\Lz M as r
theorem Lz.len:∀{as:List Addr} {gs:List (List D)},Lz M as gs->as.length=gs.length
 |[],gs,h=>by rw[show gs=[] from h];rfl
 |a::as,gs,h=>by
  let ⟨g,r,rfl,_,h2⟩:=h
  rw[Ah,Ah,h2.len]
theorem Lz.keep:∀{as:List Addr} {gs:List (List D)},Lz M as gs->(∀ a∈as,∀ o,M a=some o->M' a=some o)->Lz M' as gs
 |[],gs,h,_=>h
 |a::as,gs,h,k=>by
  let ⟨g,r,rfl,h1,h2⟩:=h
  exact #v[g,r,rfl,k a (Aj ..) _ h1,h2.keep λb I=>k b (Ak _ I)]
theorem Lz.snoc(I:M a=some (.lst g)):∀{as:List Addr} {gs:List (List D)},Lz M as gs->Lz M (as++[a]) (gs++[g])
 |[],gs,h=>by rw[show gs=[] from h];exact #v[g,[],rfl,I,rfl]
 |b::as,gs,h=>by
  let ⟨g',r,rfl,h1,h2⟩:=h
  exact #v[g',_,rfl,h1,h2.snoc I]
theorem Lz.split:∀{as:List Addr},Lz M (as++[a]) (gs++[g])->Lz M as gs/\M a=some (.lst g):=by
 intro as
 induction as generalizing gs with
 |nil =>
  rintro ⟨g',r,e,h1,h2⟩
  have hr:r=[]:=h2
  subst hr
  cases gs with
  |nil=>cases e;exact #v[rfl,h1]
  |cons x l=>simp at e
 |cons b as I =>
  rintro ⟨g',r,e,h1,h2⟩
  cases gs with
  |nil =>
   cases e
   have hl:(as++[a]).length=0:=h2.len
   rw[Ae]at hl
   simp at hl
  |cons x l =>
   rw[A3]at e
   injection e with e1 e2
   subst e1
   subst e2
   let ⟨k1,k2⟩:=I h2
   exact #v[#v[x,l,rfl,h1,k1],k2]
theorem Lz.get:∀{as:List Addr} {gs:List (List D)} {i:Nat} {a:Addr},Lz M as gs->as[i]?=some a->∃ g,gs[i]?=some g/\M a=some (.lst g)
 |[],_,_,_,_,e=>by simp at e
 |b::as,gs,0,a,h,e=>by
  let ⟨g,r,rfl,h1,_⟩:=h
  simp at e;subst e
  exact #v[g,rfl,h1]
 |b::as,gs,i+1,a,h,e=>by
  let ⟨g,r,rfl,_,h2⟩:=h
  exact h2.get (by simpa using e)
def gJ(a:FrA):List (Str×D):=[("parts",.ref a.pp),("blocks",.ref a.pb)]
structure FrOk(C:Addr)(M:MH)(a:FrA)(f:Frm):Prop where
 o:M a.o=some (.ins C (gJ a))
 pp:M a.pp=some (.lst f.1)
 pb:M a.pb=some (.lst (a.bs.map D.ref))
 bs:Lz M a.bs f.2
theorem FrOk.keep(h:FrOk C M a f)(k:∀ b∈a.fp,∀ o,M b=some o->M' b=some o):FrOk C M' a f :=
 #v[k _ (by simp[FrA.fp]) _ h.o,k _ (by simp[FrA.fp]) _ h.pp,k _ (by simp[FrA.fp]) _ h.pb,h.bs.keep λb I=>k b (by simp[FrA.fp,I])]
structure OpK(K:Ad)(C:Addr):Prop where
 cls:Cls K C
 p:NoAttr K C "parts"
 b:NoAttr K C "blocks"
inductive spInitO(C:Addr)(ds:List D)(M:MH)(Q:DK):Prop|mk:∀(a pp:Addr),ds=[.ref a,.ref pp]->M a=some (.ins C [])->(∀(b pb:Addr) M',M b=none->M pb=none->b≠pb->M' a=some (.ins C (gJ #v[a,pp,pb,[b]]))->M' pb=some (.lst [.ref b])->M' b=some (.lst [])->(∀ c o,c≠a->M c=some o->M' c=some o)->Q .non M')->spInitO C ds M Q
inductive spClosed(C:Addr)(ds:List D)(M:MH)(Q:DK):Prop|mk:∀(a:FrA) (f:Frm),ds=[.ref a.o]->FrOk C M a f->f.1.length<=10->f.2.length<=10->(∀ M',Ext M M'->Q (.tup (f.1++f.2.map D.tup)) M')->spClosed C ds M Q
section
variable {P:Program}{w:World}{K:Ad}{mg:Str->Option Value}{base:Heap}{f:Addr}{fd:FuncData}{C:Addr}
local macro_rules | `(tactic| tm_at $s:str)=>bJ n_al s
theorem oQ(F:Fun K "__init__" "Opened.__init__" s_al f fd)(k:OpK K C):F8 P w K mg base CX0 1 f fd P_al (aD K (spInitO C)):=by
 tm_at "F al"
 let ⟨a,Y,rfl,ha,q⟩:=h
 refine aA ?_
 with_reducible refine' FD ?_ ?n0
 case n0=>rfl
 lk
 exists a,C,[],rfl,ha,k.cls,k.p,by decide,?_
 refine bH ?_
 with_reducible refine' FD ?_ ?n0
 case n0=>rfl
 lk
 intro b hb
 lk
 intro V O
 have Z:=aB (o:=.lst []) hb
 have x2:=aB (o:=.lst [.ref b]) O
 have na:∀ c,FF M a (.ins C (lU "parts" (.ref Y) [])) c=none->M c=none/\c≠a:=λc L=>by
  by_cases z:c=a
  ·subst z;rw[FB]at L;cases L
  ·rw[aC z]at L;exact #v[L,z]
 have J:=na b hb
 have I:=na V (gH Z O)
 have S:b≠V:=aU (FB (M:=FF M a (.ins C (lU "parts" (.ref Y) []))) (a:=b) (o:=.lst [])) O
 lk
 exists a,C,lU "parts" (.ref Y) [],rfl,x2 _ _ (Z _ _ FB),k.cls,k.b,Cf rfl,?_
 refine q b V _ J.1 I.1 S ?_ ?_ ?_ ?_
 ·rw[FB];rfl
 ·rw[aC I.2,FB]
 ·rw[aC J.2,aC S,FB]
 ·intro c o L e
  rw[aC L]
  exact x2 _ _ (Z _ _ (by rw[aC L];exact e))
local macro_rules | `(tactic| tm_at $s:str)=>bJ n_am s
def uR(M:MH):D->D
 |.ref a=>match M a with
  |some (.lst ds)=>.tup ds
  |_=>.non
 |d=>d
theorem lH(F:Fun K "closed" "Opened.closed" s_am f fd)(h_tuple:mg "tuple"=none)(k:OpK K C):F8 P w K mg base CX0 1 f fd P_am (aD K (spClosed C)):=by
 tm_at "F am"
 let ⟨a,I,rfl,hf,h1,h2,q⟩:=h
 have Z:=hf.bs.len
 refine bH ?_
 lk
 with_reducible refine' oA ?_ ?n0
 case n0=>rfl
 lk
 exists a.o,C,gJ a,_,rfl,hf.o,k.cls,k.p,rfl,?_
 with_reducible refine' dI (own:=["block"]) (js:=[]) (N:=["block"]) (cl:=[]) ?T ?xe ?ca (uR M) (λ_=>true) ?_ ?hs
 case T=>exact cA (by lia) (by lia) rfl (by lia) rfl
 case xe=>rfl
 case ca=>rfl
 case hs=>(intro _;rfl)
 with_reducible refine' oA ?_ ?n0
 case n0=>rfl
 lk
 exists a.o,C,gJ a,_,rfl,hf.o,k.cls,k.b,rfl,?_
 exists a.pb,_,rfl,.inl hf.pb,small (by rw[Ab];lia),?_,λq1 L=>?_
 ·rintro Y ⟨C',s',H',fp,rfl⟩ M' hM d hd
  let ⟨b,hb,rfl⟩:=A5.mp hd
  let ⟨i,V⟩:=Cw.mp hb
  let ⟨g,hg,hm⟩:=hf.bs.get V
  have O:(["block"]:List Str).Nodup:=by lia
  refine bC 0 O ?_
  exists rfl,λi d e=>by rcases i with _|i<;>simp[aN]at e,cW #v[rfl,rfl],λ_=>?_
  repeat first|(refine aP 0 ?_)|k_go
  exists _,rfl,_,hM _ _ hm,?_
  exact #v[rfl,by simp only[uR,hm]]
 have e:((a.bs.map D.ref).filter λ_=>true).map (uR M)=I.2.map D.tup:=by
  rw[B9.mpr (by simp),By]
  have:∀(as:List Addr) (gs:List (List D)),Lz M as gs->as.map (uR M∘D.ref)=gs.map D.tup:=λas=>by
   induction as with
   |nil=>intro gs h;rw[show gs=[] from h];rfl
   |cons x l ih =>
    rintro gs ⟨g,r,rfl,h1,h2⟩
    rw[Au,Au,ih r h2]
    simp only[Function.comp,uR,h1]
  exact this _ _ hf.bs
 rw[e]
 have S:=aB (o:=.lst (I.2.map D.tup)) L
 refine gQ (S _ _ hf.pp) FB (small (by rw[Ab];lia)) λq2 J=>?_
 have x2:=aB (o:=.lst (I.1++I.2.map D.tup)) J
 lk
 exists _,rfl,_,FB,?_
 exact q _ (b6 S x2)
end
inductive Hdg where
 |given(rs:List Rw)
 |keep(rs:List Rw)
 |fall(m:Sm×Int)
def tkH:Hdg->List Str
 |.given rs=>Aa "given":: dX rs
 |.keep rs=>Aa "keep":: dX rs
 |.fall m=>Aa "fall":: (tkS m.1++[Aa "by",nT m.2])
def ixH:Hdg->Nat
 |.given _=>1
 |.keep _=>2
 |.fall _=>3
def vlH:Hdg->D
 |.given rs=>.tup (rs.map rwD)
 |.keep rs=>.tup (rs.map rwD)
 |.fall m=>.tup [smD m.1,.int m.2]
def wdH:Hdg->Str
 |.given _=>Aa "given"
 |.keep _=>Aa "keep"
 |.fall _=>Aa "fall"
def RdH:Hdg->Str->Prop
 |.given rs,last=>last=Aa "plan"/\rs≠[]/\pF rs
 |.keep rs,last=>last=Aa "while"/\rs≠[]/\pF rs
 |.fall m,last=>last∈[Aa "while",Aa "keep"]/\RdS m.1/\0<m.2/\B 65 m.2
inductive spHeading(C:Addr)(ds:List D)(M:MH)(Q:DK):Prop|mk:∀(a:FrA) (f:Frm) (h:Hdg) (last:Str) (l:Addr) (n:Int),ds=[.ref a.o,.str last,.ref l,.int n]->M l=some (cE (tkH h))->RdH h last->FrOk C M a f->ixH h<f.1.length->f.1.length<=10->(∀ M',M' a.pp=some (.lst (f.1.set (ixH h) (vlH h)))->Kp [a.pp] M M'->Q .non M')->spHeading C ds M Q
theorem sL(h:j<n):ixN n (j:Int)=some j:=by
 unfold ixN
 rw[if_pos (by lia),if_pos (by lia)]
 congr 1
section
variable {P:Program}{w:World}{K:Ad}{base:Heap}{f:Addr}{C:Addr}
theorem QK:([D.str "while",D.str "keep"]:List D)=[Aa "while",Aa "keep"].map D.str:=rfl
local macro_rules | `(tactic| tm_at $s:str)=>bJ n_ar s
local macro_rules | `(tactic| tm_at "d")=>`(tactic| ((with_reducible show EV _ _ _ (Expr.Attribute _ _ _) _);(with_reducible refine' oA ?_ ?n0);(case n0=>rfl)))
theorem ok_read_heading(F:Fun K "read_heading" "read_heading" s_ar f fd)(k:OpK K C)(C_must:Cal P w K mg base 1 "must" spMustR)(C_read_rows:Cal P w K mg base 6 "read_rows" spRowsR)(C_read_measure:Cal P w K mg base 6 "read_measure" spMeasR):F8 P w K mg base CX0 7 f fd P_ar (aD K (spHeading C)):=by
 tm_at "F ar"
 let ⟨a,fr,hd,last,l,n,rfl,hl,hk,hf,Y,b1,q⟩:=h
 have J:∀(M2:MH) (v:D),v=vlH hd->Ext M M2->Q .non (FF M2 a.pp (.lst (fr.1.set (ixH hd) v))):=λM2 v e x=>by
  subst e
  exact q _ FB λb o hb e=>by rw[aC (by simpa using hb)];exact x _ _ e
 cases hd with
 |given rs =>
  let ⟨rfl,Z,V⟩:=hk
  have i0:atI ((tkH (.given rs)).map D.str) 0=some (.str "given"):=L2.aX (j:=0) rfl
  refine aA ?_
  repeat first|k_go|refine aF hl i0 ?_|refine aA ?_|refine cF rfl ?_
  exists n,by rw[decide_eq_true rfl],?_
  walk
  refine bB bN ?_
  lk
  refine bE ?_
  lk
  refine bO ?_
  refine bP rfl (Bh hl) λp2 L=>?_
  have ec:D3.cK ((tkH (.given rs)).map D.str) (some 1) none=(dX rs).map D.str:=cL _ 1 (by simp[tkH])
  rw[ec]
  lk
  exists p2,rs,n,rfl,FB,Z,V,λO x3=>?_
  have I:=b6 (aB L) x3
  lk
  exists a.o,C,gJ a,_,rfl,I _ _ hf.o,k.cls,k.p,rfl,?_
  lk
  refine dJ (I _ _ hf.pp) (sL Y) ?_
  first|exact J O _ rfl I|exact bQ (J O _ rfl I)
 |keep rs =>
  let ⟨rfl,Z,V⟩:=hk
  have i0:atI ((tkH (.keep rs)).map D.str) 0=some (.str "keep"):=L2.aX (j:=0) rfl
  refine aA ?_
  repeat first|k_go|refine aF hl i0 ?_|refine aA ?_|refine cF rfl ?_|refine bZ (by lia) ?_
  exists n,by rw[decide_eq_true rfl],?_
  walk
  refine bB bN ?_
  lk
  refine bE ?_
  lk
  refine bO ?_
  refine bP rfl (Bh hl) λp2 L=>?_
  have ec:D3.cK ((tkH (.keep rs)).map D.str) (some 1) none=(dX rs).map D.str:=cL _ 1 (by simp[tkH])
  rw[ec]
  lk
  exists p2,rs,n,rfl,FB,Z,V,λO x3=>?_
  have I:=b6 (aB L) x3
  lk
  exists a.o,C,gJ a,_,rfl,I _ _ hf.o,k.cls,k.p,rfl,?_
  lk
  refine dJ (I _ _ hf.pp) (sL Y) ?_
  first|exact J O _ rfl I|exact bQ (J O _ rfl I)
 |fall m =>
  let ⟨S,hs,hp,hb⟩:=hk
  have i0:atI ((tkH (.fall m)).map D.str) 0=some (.str "fall"):=L2.aX (j:=0) rfl
  refine aA ?_
  repeat first|k_go|refine aF hl i0 ?_|refine aA ?_|refine bZ (by lia) ?_|(rw[QK];refine rH ?_)
  exists n,by rw[decide_eq_true S],?_
  walk
  refine bB bN ?_
  lk
  refine bE ?_
  lk
  refine bO ?_
  refine bP rfl (Bh hl) λp2 L=>?_
  have ec:D3.cK ((tkH (.fall m)).map D.str) (some 1) none=(tkS m.1++[Aa "by",nT m.2]).map D.str:=cL _ 1 (by simp[tkH])
  rw[ec]
  lk
  exists p2,m,n,rfl,FB,hs,hp,hb,λO x3=>?_
  have I:=b6 (aB L) x3
  lk
  exists a.o,C,gJ a,_,rfl,I _ _ hf.o,k.cls,k.p,rfl,?_
  lk
  refine dJ (I _ _ hf.pp) (sL Y) ?_
  first|exact J O _ rfl I|exact bQ (J O _ rfl I)
end
def Stk(C:Addr)(M:MH):List FrA->List Frm->Prop
 |[],fs=>fs=[]
 |a::as,fs=>∃ f r,fs=f::r/\FrOk C M a f/\Stk C M as r
def fpS(as:List FrA):List Addr:=as.flatMap FrA.fp
theorem Stk.len:∀{as:List FrA} {fs:List Frm},Stk C M as fs->as.length=fs.length
 |[],fs,h=>by rw[show fs=[] from h];rfl
 |a::as,fs,h=>by
  let ⟨g,r,rfl,_,h2⟩:=h
  rw[Ah,Ah,h2.len]
theorem Stk.keep:∀{as:List FrA} {fs:List Frm},Stk C M as fs->(∀ b∈fpS as,∀ o,M b=some o->M' b=some o)->Stk C M' as fs
 |[],fs,h,_=>h
 |a::as,fs,h,k=>by
  let ⟨g,r,rfl,h1,h2⟩:=h
  exact #v[g,r,rfl,h1.keep λb I=>k b (by simp[fpS,I]),h2.keep λb I=>k b (by simp only[fpS,Bp,Aq];exact .inr I)]
theorem Stk.snoc(I:FrOk C M a f):∀{as:List FrA} {fs:List Frm},Stk C M as fs->Stk C M (as++[a]) (fs++[f])
 |[],fs,h=>by rw[show fs=[] from h];exact #v[f,[],rfl,I,rfl]
 |b::as,fs,h=>by
  let ⟨g',r,rfl,h1,h2⟩:=h
  exact #v[g',_,rfl,h1,h2.snoc I]
theorem Stk.split:∀{as:List FrA},Stk C M (as++[a]) (gs++[g])->Stk C M as gs/\FrOk C M a g:=by
 intro as
 induction as generalizing gs with
 |nil =>
  rintro ⟨g',r,e,h1,h2⟩
  have hr:r=[]:=h2
  subst hr
  cases gs with
  |nil=>cases e;exact #v[rfl,h1]
  |cons x l=>simp at e
 |cons b as I =>
  rintro ⟨g',r,e,h1,h2⟩
  cases gs with
  |nil =>
   cases e
   have hl:(as++[a]).length=0:=h2.len
   rw[Ae]at hl
   simp at hl
  |cons x l =>
   rw[A3]at e
   injection e with e1 e2
   subst e1
   subst e2
   let ⟨k1,k2⟩:=I h2
   exact #v[#v[x,l,rfl,h1,k1],k2]
theorem bX(as:List FrA)(a:FrA):fpS (as++[a])=fpS as++a.fp:=by unfold fpS;rw[C8];simp
structure Rep(C:Addr)(M:MH)(p:Addr)(as:List FrA)(fs:List Frm):Prop where
 at_:M p=some (.lst (as.map λa=>D.ref a.o))
 st:Stk C M as fs
 nd:(p::fpS as).Nodup
theorem Rep.top(h:Rep C M p as (fs++[f])):∃ bs a,as=bs++[a]/\Stk C M bs fs/\FrOk C M a f:=by
 have hl:=h.st.len
 have I:as≠[]:=by intro z;rw[z]at hl;simp at hl
 obtain ⟨bs,a,rfl⟩:∃ bs a,as=bs++[a]:=#v[as.dropLast,as.getLast I,(B7 I).symm]
 let ⟨h1,h2⟩:=h.st.split
 exact #v[bs,a,rfl,h1,h2]
theorem Rep.last(h:Rep C M p (bs++[a]) fs):atI ((bs++[a]).map λa=>D.ref a.o) (-1)=some (.ref a.o):=by
 rw[Ai];exact L2.eY _ _
theorem Rep.put{C:Addr}{M M':MH}{p:Addr}{bs:List FrA}{a a':FrA}{f f':Frm}{fs:List Frm}(h:Rep C M p (bs++[a]) (fs++[f]))(ho:a'.o=a.o)(hf:FrOk C M' a' f')(hk:∀ b o,b∉a.fp->M b=some o->M' b=some o)(Z:∀ b∈a'.fp,b∈a.fp\/M b=none)(Y:a'.fp.Nodup):Rep C M' p (bs++[a']) (fs++[f']):=by
 let ⟨h1,h2⟩:=h.st.split
 have nd:=h.nd
 rw[bX,Br,Cq]at nd
 let ⟨np,n1,n2,n3⟩:=nd
 have O:p∉a.fp:=λz=>np (Bg _ z)
 have J:∀ b∈fpS bs,∃ o,M b=some o:=by
  clear n1 n3 np hk
  have L:∀{as:List FrA} {fs:List Frm},Stk C M as fs->∀ b∈fpS as,∃ o,M b=some o:=by
   intro as
   induction as with
   |nil=>intro fs _ b I;simp[fpS]at I
   |cons x l ih =>
    rintro fs ⟨g,r,rfl,k1,k2⟩ b I
    simp only[fpS,Bp,Aq]at I
    rcases I with I|I
    ·simp only[FrA.fp,Am]at I
     rcases I with rfl|rfl|rfl|I
     ·exact #v[_,k1.o]
     ·exact #v[_,k1.pp]
     ·exact #v[_,k1.pb]
     ·let ⟨i,V⟩:=Cw.mp I
      let ⟨g',_,e⟩:=k1.bs.get V
      exact #v[_,e]
    ·exact ih k2 b I
  exact L h1
 exists ?_,Stk.snoc hf (h1.keep λb I o e=>hk b o (λz=>n3 b I b z rfl) e),?_
 ·have:=hk p _ O h.at_
  rw[this]
  simp[ho]
 ·rw[bX,Br,Cq]
  exists λz=>?_,n1,Y,λb I c S e=>?_
  ·rcases Aq.mp z with z|z
   ·exact np (Bk _ z)
   ·rcases Z p z with z|z
    ·exact O z
    ·rw[h.at_]at z;cases z
  ·subst e
   rcases Z b S with z|z
   ·exact n3 b I b z rfl
   ·let ⟨o,e⟩:=J b I
    rw[e]at z;cases z
theorem FrOk.has(h:FrOk C M a f):∀ b∈a.fp,∃ o,M b=some o:=λb I=>by
 simp only[FrA.fp,Am]at I
 rcases I with rfl|rfl|rfl|I
 ·exact #v[_,h.o]
 ·exact #v[_,h.pp]
 ·exact #v[_,h.pb]
 ·let ⟨i,J⟩:=Cw.mp I
  let ⟨g',_,e⟩:=h.bs.get J
  exact #v[_,e]
theorem Rep.nd1(h:Rep C M p (bs++[a]) fs):a.fp.Nodup/\p∉a.fp:=by
 have nd:=h.nd
 rw[bX,Br,Cq]at nd
 exact #v[nd.2.2.1,λz=>nd.1 (Bg _ z)]
theorem FrOk.lastB(h:FrOk C M a (p1,bl++[lb])):∃ ds b,a.bs=ds++[b]/\Lz M ds bl/\M b=some (.lst lb):=by
 have hl:=h.bs.len
 have I:a.bs≠[]:=by intro z;rw[z]at hl;simp at hl
 have e:a.bs=a.bs.dropLast++[a.bs.getLast I]:=(B7 I).symm
 have J:=h.bs
 rw[e]at J
 exact #v[_,_,e,J.split]
theorem FrOk.putB(h:FrOk C M a (p1,bl++[lb]))(e:a.bs=ds++[b])(nd:a.fp.Nodup)(k:∀ c o,c≠b->M c=some o->M' c=some o)(O:M' b=some (.lst lb')):FrOk C M' a (p1,bl++[lb']):=by
 have nb:∀ c,c∈a.o::a.pp::a.pb::ds->c≠b:=by
  rw[FrA.fp,e,show a.o::a.pp::a.pb::(ds++[b])=(a.o::a.pp::a.pb::ds)++[b] from rfl,Cq]at nd
  exact λc I z=>nd.2.2 c I b (by simp) z
 have J:=h.bs
 rw[e]at J
 exists k _ _ (nb _ (by simp)) h.o,k _ _ (nb _ (by simp)) h.pp,k _ _ (nb _ (by simp)) h.pb,?_
 rw[e]
 exact Lz.snoc O (J.split.1.keep λc I o L=>k _ _ (nb _ (by simp[I])) L)
theorem Stk.has:∀{as:List FrA} {fs:List Frm},Stk C M as fs->∀ b∈fpS as,∃ o,M b=some o:=by
 intro as
 induction as with
 |nil=>intro fs _ b I;simp[fpS]at I
 |cons x l J =>
  rintro fs ⟨g,r,rfl,k1,k2⟩ b I
  simp only[fpS,Bp,Aq]at I
  rcases I with I|I
  ·exact k1.has b I
  ·exact J k2 b I
theorem Rep.pop(h:Rep C M p (bs++[a]) (fs++[f])):Rep C (FF M p (.lst (bs.map λa=>D.ref a.o))) p bs fs:=by
 have nd:=h.nd
 rw[bX,Br,Cq]at nd
 exists FB,h.st.split.1.keep λb I o e=>?_,?_
 ·rw[aC (λz=>nd.1 (by subst z;exact Bk _ I))];exact e
 ·exact Br.mpr #v[λz=>nd.1 (Bk _ z),nd.2.1]
structure Stp(C:Addr)(M M':MH)(p:Addr)(as:List FrA)(fs':List Frm):Prop where
 rep:∃ as',Rep C M' p as' fs'/\∀ b∈fpS as',b∈fpS as\/M b=none
 kp:∀ c o,c∉p::fpS as->M c=some o->M' c=some o
inductive spTurn(C:Addr)(ds:List D)(M:MH)(Q:DK):Prop|mk:∀(p:Addr) (wd:Str) (n:Int) (as:List FrA) (fs:List Frm) (f:Frm) (kind:Str) (pr:List D),ds=[.ref p,.str wd,.int n]->Rep C M p as (fs++[f])->f.1=.str kind::pr->f.1.length<=10->f.2.length<=5->as.length<=20->((wd=Aa "end"/\(kind=Aa "while" \/ (kind∈[Aa "choose",Aa "if"]/\f.2.length=2))/\∃ fs1 p1 bl lb,fs=fs1++[(p1,bl++[lb])]/\lb.length<=100/\∀ M',Stp C M M' p as (fs1++[(p1,bl++[lb++[.tup (f.1++f.2.map D.tup)]])])->Q .non M')\/(((wd=Aa "or"/\kind=Aa "choose")\/(wd=Aa "else"/\kind=Aa "if"))/\f.2.length=1/\∀ M',Stp C M M' p as (fs++[(f.1,f.2++[[]])])->Q .non M'))->spTurn C ds M Q
section
variable {P:Program}{w:World}{K:Ad}{base:Heap}{f:Addr}{C:Addr}
theorem QL:([D.str "choose",D.str "if"]:List D)=[Aa "choose",Aa "if"].map D.str:=rfl
local macro_rules | `(tactic| tm_at $s:str)=>bJ n_av s
local macro_rules | `(tactic| tm_at "d")=>`(tactic| first
 |((with_reducible show EV _ _ _ (Expr.Attribute _ _ _) _);(with_reducible refine' oA ?_ ?n0);(case n0=>rfl))
 |((with_reducible show EV _ _ _ (Expr.Call (Expr.Attribute _ "closed" _) [] [] _) _);(with_reducible refine' oB ?n0 ?n1 ?n2 ?_ ?n3);(case n0=>exact C_closed);(case n1=>exact hr);(case n2=>first|decide|lia);(case n3=>rfl)))
theorem ok_read_turning(F:Fun K "read_turning" "read_turning" s_av f fd)(k:OpK K C)(h_len:mg "len"=none)(C_must:Cal P w K mg base 1 "must" spMustR)(C_closed:CalM P w K mg base 1 C "closed" (spClosed C)):F8 P w K mg base CX0 2 f fd P_av (aD K (spTurn C)):=by
 tm_at "F av"
 let ⟨p,wd,n,as,fs,V,kind,pr,rfl,hR,e9,b5,h5,f6,Z⟩:=h
 let ⟨bs,a,rfl,hS,hf⟩:=hR.top
 have f1:=hf.bs.len
 let ⟨b4,e7⟩:=hR.nd1
 have i0:atI V.1 0=some (.str kind):=by rw[e9];exact L2.aX (j:=0) rfl
 refine aA ?_
 repeat first|k_go|refine aF hR.at_ hR.last ?_
 exists a.o,C,gJ a,_,rfl,hf.o,k.cls,k.p,rfl,?_
 repeat first|k_go|refine aF hf.pp i0 ?_|refine aA ?_
 exists a.o,C,gJ a,_,rfl,hf.o,k.cls,k.b,rfl,?_
 lk
 exists _,_,rfl,Bh #v[_,hf.pb,rfl],?_
 rw[Ab,f1]
 walk
 rcases Z with ⟨rfl,O,f3,p1,bl,lb,rfl,b7,q⟩|⟨b3,Y,q⟩
 ·refine cF rfl ?_
  have I:=hR.pop
  let ⟨cs,c,rfl,f5,J⟩:=I.top
  let ⟨d6,d9⟩:=I.nd1
  let ⟨ds,b,eb,hz,hb⟩:=J.lastB
  have f4:b≠p:=λz=>d9 (by subst z;simp[FrA.fp,eb])
  have L:FrOk C (FF M p (.lst ((cs++[c]).map λa=>D.ref a.o))) a V:=hf.keep λx hx o e=>by rw[aC (λz=>e7 (by subst z;exact hx))];exact e
  have S:∀ M2,Ext (FF M p (.lst ((cs++[c]).map λa=>D.ref a.o))) M2->Q .non (FF M2 b (.lst (lb++[.tup (V.1++V.2.map D.tup)]))):=λM2 x=>by
   refine q _ #v[#v[cs++[c],I.put rfl (J.putB eb d6 (λd o hd e=>?_) FB) (λd o hd e=>?_) (λd hd=>.inl hd) d6,λd hd=>.inl (by rw[bX];exact Bk _ hd)],λd o hd e=>?_]
   ·rw[aC hd];exact x _ _ e
   ·rw[aC (λz=>hd (by subst z;simp[FrA.fp,eb]))];exact x _ _ e
   ·have d1:d≠p:=λz=>hd (by subst z;simp)
    have d2:d≠b:=λz=>hd (by subst z;rw[bX,bX];simp[FrA.fp,eb])
    rw[aC d2]
    exact x _ _ (by rw[aC d1];exact e)
  have ib:atI (c.bs.map D.ref) (-1)=some (.ref b):=by rw[eb,Ai];exact L2.eY _ _
  have ep:M p=some (.lst (((cs++[c]).map λa=>D.ref a.o)++[.ref a.o])):=by rw[hR.at_];simp
  refine aA ?_
  by_cases hw:kind=Aa "while"
  ·repeat first|k_go|refine cF hw ?_
   exists n,by first|rfl|rw[decide_eq_true hw],?_
   walk
   exists p,_,_,rfl,ep,?_
   repeat first|k_go|refine aF I.at_ I.last ?_
   exists c.o,C,gJ c,_,rfl,J.o,k.cls,k.b,rfl,?_
   repeat first|k_go|refine aF J.pb ib ?_
   exists b,rfl,#v[_,hb],?_
   lk
   exact #v[a.o,gJ a,rfl,L.o,rfl,a,V,rfl,L,b5,by lia,λM2 x=>#v[_,x _ _ hb,Aw (Di b7) (small (by decide)),S M2 x]]
  ·let ⟨e8,d7⟩:=O.resolve_left hw
   repeat first|k_go|refine bZ hw ?_|(rw[QL];refine rH ?_)|refine cF e8 ?_
   exists n,by first|rfl|(rw[d7];rfl)|rw[decide_eq_true (by rw[d7];rfl)],?_
   walk
   exists p,_,_,rfl,ep,?_
   repeat first|k_go|refine aF I.at_ I.last ?_
   exists c.o,C,gJ c,_,rfl,J.o,k.cls,k.b,rfl,?_
   repeat first|k_go|refine aF J.pb ib ?_
   exists b,rfl,#v[_,hb],?_
   lk
   exact #v[a.o,gJ a,rfl,L.o,rfl,a,V,rfl,L,b5,by lia,λM2 x=>#v[_,x _ _ hb,Aw (Di b7) (small (by decide)),S M2 x]]
 ·have f2:¬ wd=Aa "end":= by rcases b3 with ⟨rfl,_⟩|⟨rfl,_⟩<;>lia
  refine bZ f2 ?_
  have S:∀ x,M x=none->Q .non (FF (FF M x (.lst [])) a.pb (.lst (a.bs.map D.ref++[.ref x]))):=λx hx=>by
   have xn:x∉a.fp:=λz=>by let ⟨o,e⟩:=hf.has x z;rw[e]at hx;cases hx
   have x1:=aB (o:=.lst []) hx
   have b2:∀ c∈a.o::a.pp::a.bs,c≠a.pb:=λc J z=>by
    subst z
    have nd:=b4
    simp only[FrA.fp,Br,Am,not_or]at nd J
    rcases J with e|e|e
    ·exact nd.1.2.1 e.symm
    ·exact nd.2.1.1 e.symm
    ·exact nd.2.2.1 e
   have d8:x≠a.pb:=λz=>xn (by subst z;simp[FrA.fp])
   have kp:∀ c o,c≠a.pb->M c=some o->FF (FF M x (.lst [])) a.pb (.lst (a.bs.map D.ref++[.ref x])) c=some o:=λc o J e=>by rw[aC J];exact x1 _ _ e
   have b1:(FrA.mk a.o a.pp a.pb (a.bs++[x])).fp=a.fp++[x]:=rfl
   refine q _ #v[#v[bs++[#v[a.o,a.pp,a.pb,a.bs++[x]]],hR.put rfl #v[kp _ _ (b2 _ (by simp)) hf.o,kp _ _ (b2 _ (by simp)) hf.pp,?_,?_] (λd o hd e=>kp _ _ (λz=>hd (by subst z;simp[FrA.fp])) e) (λd hd=>?_) ?_,λd hd=>?_],λd o hd e=>?_]
   ·rw[FB];simp
   ·exact Lz.snoc (by rw[aC d8,FB]) (hf.bs.keep λc J o e=>kp _ _ (b2 _ (by simp[J])) e)
   ·rw[b1]at hd
    rcases Aq.mp hd with z|z
    ·exact .inl z
    ·rw[Al.mp z];exact .inr hx
   ·rw[b1,Cq]
    exact #v[b4,by simp,λc J d hd z=>by rw[Al.mp hd]at z;subst z;exact xn J]
   ·rw[bX,b1]at hd
    rcases Aq.mp hd with z|z
    ·exact .inl (by rw[bX];exact Bk _ z)
    ·rcases Aq.mp z with z|z
     ·exact .inl (by rw[bX];exact Bg _ z)
     ·rw[Al.mp z];exact .inr hx
   ·exact kp _ _ (λz=>hd (by subst z;rw[bX];simp[FrA.fp])) e
  rcases b3 with ⟨rfl,rfl⟩|⟨rfl,rfl⟩
  all_goals
   repeat first|k_go|refine aA ?_|refine cF rfl ?_|refine bZ (by lia) ?_
   exists n,by first|rfl|(rw[Y];rfl)|rw[decide_eq_true (by rw[Y];rfl)],?_
   lk
   exists a.o,C,gJ a,_,rfl,hf.o,k.cls,k.b,rfl,?_
   exists a.pb,rfl,#v[_,hf.pb],?_
   lk
   intro x hx
   exists _,aB (o:=.lst []) hx _ _ hf.pb,Aw (Di (show _<=20 by rw[Ab];lia)) (small (by decide)),S x hx
end
theorem big{n:Nat}(h:n<=10000000):n<=An:=Ay h (by unfold An;decide)
def wdO:Opn->Str
 |.choose=>Aa "choose"
 |.ite _=>Aa "if"
 |.whl _=>Aa "while"
def wdL:Stm->Str
 |.set _ _=>Aa "set"
 |.any _=>Aa "any"
 |_=>Aa "note"
inductive Stx(last:Str)(fs:List Frm)(d:Nat)(tk:List Str)(wd:Str)(fs':List Frm):Prop
 |plan (ss:List Str) (hl:last=Aa "") (h0:fs=[]) (hd:d=0) (ht:tk=Aa "plan":: ss) (hw:wd=Aa "plan") (hu:Up1 ss) (h1:1<=ss.length) (h6:ss.length<=6) (e:fs'=[([nms ss,.tup []],[[]])])
 |head (h:Hdg) (gs:List Frm) (f:Frm) (hl:¬ last=Aa "") (e0:fs=gs++[f]) (hd:d=gs.length) (ht:tk=tkH h) (hw:wd=wdH h) (hr:RdH h last) (hi:ixH h<f.1.length) (h10:f.1.length<=10) (e:fs'=gs++[(f.1.set (ixH h) (vlH h),f.2)])
 |opn (o:Opn) (hl:¬ last=Aa "") (hd:d+1=fs.length) (ht:tk=tkO o) (hw:wd=wdO o) (hr:RdO o) (e:fs'=fs++[(dN o,[[]])])
 |turn (gs:List Frm) (f:Frm) (kind:Str) (pr:List D) (hl:¬ last=Aa "") (e0:fs=gs++[f]) (hd:d+1=gs.length) (ht:tk=[wd]) (hk:f.1=.str kind::pr) (h10:f.1.length<=10) (h5:f.2.length<=5)
  (hc:(wd=Aa "end"/\(kind=Aa "while" \/ (kind∈[Aa "choose",Aa "if"]/\f.2.length=2))/\∃ fs1 p1 bl lb,gs=fs1++[(p1,bl++[lb])]/\lb.length<=100/\fs'=fs1++[(p1,bl++[lb++[.tup (f.1++f.2.map D.tup)]])]) \/
   (((wd=Aa "or"/\kind=Aa "choose")\/(wd=Aa "else"/\kind=Aa "if"))/\f.2.length=1/\fs'=gs++[(f.1,f.2++[[]])]))
 |plain (s:Stm) (gs:List Frm) (p1:List D) (bl:List (List D)) (lb:List D) (hl:¬ last=Aa "") (e0:fs=gs++[(p1,bl++[lb])]) (hd:d=gs.length) (ht:tk=tkL s) (hw:wd=wdL s) (hr:RdL s) (hb:lb.length<=100) (h5:bl.length<=5) (e:fs'=gs++[(p1,bl++[lb++[stD s]])])
theorem HB:Tok1 (Aa "plan"):=#v[by lia,by lia]
theorem BK:Tok1 (Aa "given"):=#v[by lia,by lia]
theorem HC:Tok1 (Aa "keep"):=#v[by lia,by lia]
theorem HD:Tok1 (Aa "fall"):=#v[by lia,by lia]
theorem QM:Tok1 (Aa "by"):=#v[by lia,by lia]
theorem xB:Tok1 (Aa "choose"):=#v[by lia,by lia]
theorem QN:Tok1 (Aa "if"):=#v[by lia,by lia]
theorem BL:Tok1 (Aa "while"):=#v[by lia,by lia]
theorem QO:Tok1 (Aa "or"):=#v[by lia,by lia]
theorem HE:Tok1 (Aa "else"):=#v[by lia,by lia]
theorem KY:Tok1 (Aa "end"):=#v[by lia,by lia]
theorem KZ:Tok1 (Aa "set"):=#v[by lia,by lia]
theorem LA:Tok1 (Aa "any"):=#v[by lia,by lia]
theorem HF:Tok1 (Aa "note"):=#v[by lia,by lia]
theorem QP:Tok1 (Aa "="):=#v[by lia,by lia]
theorem Stx.tks(h:Stx last fs d tk wd fs'):Toks tk/\∃ r,tk=wd::r:=by
 have J:∀{rs:List Rw},pF rs->Toks (dX rs):=λhr=>yO λr L=>(hr.2 r L).1.lett
 cases h with
 |plan ss hl Z hd I hw O=>subst I;subst hw;exact #v[b7 HB λt h=>Tok1.letter (O.lett t h),_,rfl]
 |head h gs f hl e0 hd I hw hr =>
  subst I;subst hw
  cases h with
  |given rs=>exact #v[b7 BK (J hr.2.2),_,rfl]
  |keep rs=>exact #v[b7 HC (J hr.2.2),_,rfl]
  |fall m=>exact #v[b7 HD (Toks.app (FW hr.2.1.1.lett) (b7 QM (b7 (Tok1.num _) Toks.nil))),_,rfl]
 |opn o hl hd I hw hr =>
  subst I;subst hw
  cases o with
  |choose=>exact #v[b7 xB Toks.nil,_,rfl]
  |ite r=>exact #v[b7 QN (sA hr.1.lett),_,rfl]
  |whl r=>exact #v[b7 BL (sA hr.1.lett),_,rfl]
 |turn gs f kind Y hl e0 hd I hk V h5 S =>
  subst I
  exists b7 ?_ Toks.nil,_,rfl
  rcases S with ⟨rfl,_⟩|⟨⟨rfl,_⟩|⟨rfl,_⟩,_⟩
  ·exact KY
  ·exact QO
  ·exact HE
 |plain s gs p1 bl lb hl e0 hd I hw hr =>
  subst I;subst hw
  cases s with
  |set x s=>exact #v[b7 KZ (b7 (Tok1.letter hr.1) (b7 QP (FW hr.2.1.lett))),_,rfl]
  |any x=>exact #v[b7 LA (b7 (Tok1.letter hr) Toks.nil),_,rfl]
  |note rs=>exact #v[b7 HF (J hr.2),_,rfl]
  |choose a b=>exact hr.elim
  |ite r a b=>exact hr.elim
  |whl r rs m b=>exact hr.elim
inductive spLine(C:Addr)(ds:List D)(M:MH)(Q:DK):Prop|mk:∀(p:Addr) (last:Str) (d:Nat) (tk:List Str) (n:Int) (as:List FrA) (fs fs':List Frm) (wd:Str),ds=[.ref p,.str last,.str (ind d++jn tk),.int n]->Rep C M p as fs->Stx last fs d tk wd fs'->fs.length<=20->(ind d++jn tk).length<=100000->(∀ M',Stp C M M' p as fs'->Q (.str wd) M')->spLine C ds M Q
theorem Rep.push{C:Addr}{M V:MH}{p:Addr}{as:List FrA}{fs:List Frm}{a:FrA}{f:Frm}(h:Rep C M p as fs)(x:Ext M V)(hf:FrOk C V a f)(O:∀ b∈a.fp,M b=none)(nd:a.fp.Nodup):Stp C M (FF V p (.lst ((as.map λa=>D.ref a.o)++[.ref a.o]))) p as (fs++[f]):=by
 have S:p∉a.fp:=λz=>by have:=O p z;rw[h.at_]at this;cases this
 have np:=(Br.mp h.nd).1
 have L:=(Br.mp h.nd).2
 exists #v[as++[a],#v[by rw[FB];simp,Stk.snoc (hf.keep λb I o e=>by rw[aC (λz=>S (by subst z;exact I))];exact e) (h.st.keep λb I o e=>by rw[aC (λz=>np (by subst z;exact I))];exact x _ _ e),?_],λb I=>?_],λc o J e=>?_
 ·rw[bX,Br,Cq]
  exists λz=>(Aq.mp z).elim np S,L,nd,λb I c J e=>?_
  subst e
  let ⟨o,e⟩:=h.st.has b I
  rw[O b J]at e;cases e
 ·rw[bX]at I
  exact (Aq.mp I).elim .inl λz=>.inr (O b z)
 ·rw[aC (λz=>J (by subst z;simp))]
  exact x _ _ e
theorem BM{C:Addr}{M M1 M2:MH}{a pp pb b:Addr}{l:List D}(x:Ext M M1)(b2:M pp=none)(O:M1 pp=some (.lst l))(Y:M1 a=none)(hb:FF M1 a (.ins C []) b=none)(b4:FF M1 a (.ins C []) pb=none)(b3:b≠pb)(e1:M2 a=some (.ins C (gJ #v[a,pp,pb,[b]])))(e2:M2 pb=some (.lst [.ref b]))(e3:M2 b=some (.lst []))(k:∀ c o,c≠a->FF M1 a (.ins C []) c=some o->M2 c=some o) :
  Ext M M2/\FrOk C M2 #v[a,pp,pb,[b]] (l,[[]])/\(∀ c∈(FrA.mk a pp pb [b]).fp,M c=none)/\(FrA.mk a pp pb [b]).fp.Nodup:=by
 have na:∀ c,FF M1 a (.ins C []) c=none->M1 c=none/\c≠a:=λc L=>by
  by_cases z:c=a
  ·subst z;rw[FB]at L;cases L
  ·rw[aC z]at L;exact #v[L,z]
 have J:=na b hb
 have I:=na pb b4
 have S:pp≠a:=λz=>by subst z;rw[O]at Y;cases Y
 have b1:pp≠b:=λz=>by subst z;rw[O]at J;cases J.1
 have V:pp≠pb:=λz=>by subst z;rw[O]at I;cases I.1
 have Z:Ext M M2:=λc o e=>k c o (λz=>by subst z;have:=x _ _ e;rw[Y]at this;cases this) (by
  rw[aC (λz=>by subst z;have:=x _ _ e;rw[Y]at this;cases this)];exact x _ _ e)
 exists Z,#v[e1,k _ _ S (by rw[aC S];exact O),e2,#v[[],[],rfl,e3,rfl]],λc L=>?_,?_
 ·simp only[FrA.fp,Am,Bi,or_false]at L
  rcases L with rfl|rfl|rfl|rfl
  ·exact gH x Y
  ·exact b2
  ·exact gH x I.1
  ·exact gH x J.1
 ·simp only[FrA.fp,Br,Am,Bi,or_false,not_or,List.nodup_nil,and_true,not_false_eq_true]
  exact #v[#v[λz=>S z.symm,λz=>I.2 z.symm,λz=>J.2 z.symm],#v[V,b1],λz=>b3 z.symm]
section
variable {P:Program}{w:World}{K:Ad}{base:Heap}{f:Addr}{C:Addr}
theorem QQ:([D.str "or",D.str "else",D.str "end"]:List D)=[Aa "or",Aa "else",Aa "end"].map D.str:=rfl
theorem QR:([D.str "given",D.str "keep",D.str "fall"]:List D)=[Aa "given",Aa "keep",Aa "fall"].map D.str:=rfl
theorem QS:([D.str "choose",D.str "if",D.str "while"]:List D)=[Aa "choose",Aa "if",Aa "while"].map D.str:=rfl
def uS:List Str:=[Aa "or",Aa "else",Aa "end"]
def qS:List Str:=[Aa "given",Aa "keep",Aa "fall"]
def uT:List Str:=[Aa "choose",Aa "if",Aa "while"]
def xC:List Str:=[Aa "set",Aa "any",Aa "note"]
theorem LB:∀ x∈qS,¬ x=Aa "plan"/\¬ x∈uS:=by lia
theorem LC:∀ x∈uT,¬ x=Aa "plan"/\¬ x∈uS/\¬ x∈qS:=by lia
theorem LD:∀ x∈uS,¬ x=Aa "plan"/\¬ x∈qS/\¬ x∈uT:=by lia
theorem HG:∀ x∈xC,¬ x=Aa "plan"/\¬ x∈uS/\¬ x∈qS/\¬ x∈uT:=by lia
theorem LE(h:Hdg):wdH h∈qS:=by cases h with
 |given rs=>exact .head _
 |keep rs=>exact .tail _ (.head _)
 |fall m=>exact .tail _ (.tail _ (.head _))
theorem LF(h:Opn):wdO h∈uT:=by cases h with
 |choose=>exact .head _
 |ite r=>exact .tail _ (.head _)
 |whl r=>exact .tail _ (.tail _ (.head _))
theorem LG(r:RdL h):wdL h∈xC:=by
 cases h with
 |set x s=>exact .head _
 |any x=>exact .tail _ (.head _)
 |note rs=>exact .tail _ (.tail _ (.head _))
 |choose a b=>exact r.elim
 |ite q a b=>exact r.elim
 |whl q rs m b=>exact r.elim
local macro_rules | `(tactic| tm_at $s:str)=>bJ n_ap s
local macro_rules | `(tactic| tm_at "d")=>`(tactic| first
 |((with_reducible show EV _ _ _ (Expr.Attribute _ _ _) _);(with_reducible refine' oA ?_ ?n0);(case n0=>rfl))
 |((with_reducible show EV _ _ _ (Expr.Call (Expr.Attribute _ "lstrip" _) [_] [] _) _);(with_reducible refine' AY ?_ ?n1 ?n2 ?n3 ?n4 ?n5);(case n1=>rfl);(case n2=>rfl);(case n3=>rfl);(case n4=>rfl);(case n5=>rfl))
 |((with_reducible show EV _ _ _ (Expr.Call (Expr.Attribute _ "split" _) [_] [] _) _);(with_reducible refine' kD ?_ ?n1 ?n2 ?n3 ?n4 ?n5);(case n1=>rfl);(case n2=>rfl);(case n3=>rfl);(case n4=>rfl);(case n5=>rfl))
 |((with_reducible show EV _ _ _ (Expr.Name "STEP" _) _);(with_reducible refine' mK ?n0 ?_ ?n1 ?n2);(case n0=>exact gS);(case n1=>rfl);(case n2=>decide))
 |((with_reducible show EV _ _ _ (Expr.BinOp (Expr.Name "STEP" _) Operator.Mult _ _) _);(with_reducible refine rL ?_))
 |((with_reducible show EV _ _ _ (Expr.Call (Expr.Name "Opened" _) [_] [] _) _);(with_reducible refine' PO ?n0 ?n1 ?n2 ?_ ?n3 ?n4 ?n5 ?n6);(case n0=>exact hK);(case n1=>exact hr);(case n2=>first|decide|lia);(case n3=>rfl);(case n4=>decide);(case n5=>rfl);(case n6=>rfl))
 |(rw[QQ];with_reducible refine rH ?_)|(rw[QR];with_reducible refine rH ?_)|(rw[QS];with_reducible refine rH ?_))
theorem ok_read_line(F:Fun K "read_line" "read_line" s_ap f fd)(k:OpK K C)(h_len:mg "len"=none)(gS:mg "STEP"=some (.str "  " tS))(hK:Kls P w K mg base 1 "Opened" C (spInitO C))(C_must:Cal P w K mg base 1 "must" spMustR)(C_read_names:Cal P w K mg base 3 "read_names" spNamesR)(C_read_heading:Cal P w K mg base 7 "read_heading" (spHeading C))(C_read_opening:Cal P w K mg base 6 "read_opening" spOpenR)(C_read_turning:Cal P w K mg base 2 "read_turning" (spTurn C))(C_read_plain:Cal P w K mg base 7 "read_plain" spPlainR):F8 P w K mg base CX0 8 f fd P_ap (aD K (spLine C)):=by
 tm_at "F ap"
 let ⟨p,last,d,tk,n,as,fs,f2,wd,rfl,hR,hx,f7,f4,q⟩:=h
 let ⟨htk,r,er⟩:=hx.tks
 have Z:tk≠[]:=by rw[er];simp
 have es:Txt.lstripChars (ind d++jn tk) (Aa " ")=jn tk:=by rw[jC];exact wT (sB d) (KI Z htk)
 have f5:(jn tk).length<=100000:=by have:=aQ (ind d) (jn tk);lia
 have f1:Txt.split (jn tk) (Aa " ")=tk:=by rw[jC];exact oK Z htk
 refine aA ?_
 lk
 exists _,rfl,?_
 lk
 exists _,rfl,big (by lia),?_
 rw[es]
 walk
 exists _,rfl,?_
 lk
 exists _,rfl,by lia,big (by lia),big (Ay (oF ..) (by lia)),λt ht=>?_
 rw[f1]
 have x1:=aB (o:=.lst (tk.map D.str)) ht
 have V:FF M t (.lst (tk.map D.str)) t=some (cE tk):=FB
 have i0:atI (tk.map D.str) 0=some (.str wd):=by rw[er];exact L2.aX (j:=0) rfl
 generalize FF M t (.lst (tk.map D.str))=M1 at x1 V ⊢
 repeat first|k_go|refine aA ?_|refine aF V i0 ?_
 have b4:=hR.st.len
 have e7:∀ z:Str,ind 0++z=z:=λz=>jX (by show #[]++z.cps=z.cps;simp)
 have J:M1 p=some (.lst (as.map λa=>D.ref a.o)):=x1 _ _ hR.at_
 have d9:(as.map λa=>D.ref a.o).length<An:=Aw (Di (show _<=20 by rw[Ab];lia)) (small (by decide))
 have I:Rep C M1 p as fs:=#v[J,hR.st.keep λb _ o e=>x1 _ _ e,hR.nd]
 have O:∀{M':MH} {gs:List Frm},Stp C M1 M' p as gs->Stp C M M' p as gs:=λ{_ _} ⟨⟨as',h1,h2⟩,h3⟩=>#v[#v[as',h1,λb hb=>(h2 b hb).imp id λz=>gH x1 z],λc o L e=>h3 c o L (x1 _ _ e)]
 have b1:∀{M2 M3:MH} {a pp pb b:Addr} {l:List D},Ext M1 M2->M1 pp=none->M2 pp=some (.lst l)->M2 a=none->FF M2 a (.ins C []) b=none->FF M2 a (.ins C []) pb=none->b≠pb->M3 a=some (.ins C (gJ #v[a,pp,pb,[b]]))->M3 pb=some (.lst [.ref b])->M3 b=some (.lst [])->(∀ c o,c≠a->FF M2 a (.ins C []) c=some o->M3 c=some o)->f2=fs++[(l,[[]])]->∃ ds,M3 p=some (.lst ds)/\ds.length<An/\Q (.str wd) (FF M3 p (.lst (ds++[.ref a]))):=λx h1 h2 h3 h4 h5 h6 h7 h8 h9 hk e=>by
  let ⟨y1,y2,y3,y4⟩:=BM x h1 h2 h3 h4 h5 h6 h7 h8 h9 hk
  exists _,y1 _ _ J,d9,q _ (O ?_)
  rw[e]
  exact I.push y1 y2 y3 y4
 cases hx with
 |plan ss hl h0 hd ht hw hu h1 h6 e =>
  subst hd
  subst h0
  exists n,by rw[decide_eq_true (by rw[decide_eq_true hw,decide_eq_true hl])],?_
  repeat first|k_go|refine aA ?_|refine cF hw ?_
  exists n,by rw[decide_eq_true (e7 _)],?_
  walk
  exists p,rfl,#v[_,J],?_
  walk
  refine bB bN ?_
  lk
  refine bE ?_
  lk
  refine bO ?_
  refine bP rfl (Bh V) λp2 f3=>?_
  have ec:D3.cK (tk.map D.str) (some 1) none=ss.map D.str:=by rw[ht];exact cL _ 1 (by simp)
  rw[ec]
  lk
  exists p2,ss,n,rfl,FB,hu,h1,h6,λM3 x3=>?_
  have x4:=b6 (aB f3) x3
  lk
  intro pp b3
  lk
  intro a ha
  exists a,pp,rfl,FB,λb pb M5 hb b5 Z e1 e2 e3 kk=>#v[rfl,?_]
  have x5:=b6 x4 (aB (o:=.lst [nms ss,.tup []]) b3)
  let ⟨ds,z1,z2,z3⟩:=b1 x5 (gH x4 b3) FB ha hb b5 Z e1 e2 e3 kk e
  exists ds,z1,z2,?_
  lk
  exact z3
 |head h gs f hl e0 hd ht hw Y hi b7 e =>
  have w3:wd∈qS:=by rw[hw];exact LE h
  let ⟨w1,w2⟩:=LB _ w3
  have S:(fs.length:Int)-1=d:=by rw[e0,Ae,hd];simp
  exists n,by rw[decide_eq_true (by rw[decide_eq_false w1,decide_eq_false hl])],?_
  repeat first|k_go|refine aA ?_|refine bZ w1 ?_|refine bZ w2 ?_
  exists _,_,rfl,Bh #v[_,J,rfl],?_
  rw[Ab,b4]
  walk
  exists _,(d:Int),rfl,by rw[S],Dc d,by lia,by lia,by lia,?_
  lk
  refine aE (by have:=aQ (ind d) (jn tk);show (ind d).length+_<=_;lia) ?_
  lk
  exists n,by rw[decide_eq_true (show ind d++jn tk=iK (Aa "  ") (d:Int).toNat++jn tk from rfl)],?_
  subst e0
  let ⟨bs,a,rfl,hS,hf⟩:=I.top
  repeat first|k_go|refine aA ?_|refine cF w3 ?_|refine aF J I.last ?_
  exists a,f,h,last,t,n,rfl,by rw[V,ht],Y,hf,hi,b7,λM2 e2 k2=>?_
  lk
  let ⟨b2,d8⟩:=I.nd1
  have d6:∀ c∈a.o::a.pb::a.bs,c∉[a.pp]:=λc L z=>by
   rw[Al]at z
   subst z
   have nd:=b2
   simp only[FrA.fp,Br,Am,not_or]at nd L
   rcases L with e|e|e
   ·exact nd.1.1 e.symm
   ·exact nd.2.1.1 e
   ·exact nd.2.1.2 e
  refine q _ (O ?_)
  rw[e]
  exists #v[bs++[a],I.put rfl #v[k2 _ _ (d6 _ (by simp)) hf.o,e2,k2 _ _ (d6 _ (by simp)) hf.pb,hf.bs.keep λc L o eo=>k2 _ _ (d6 _ (by simp[L])) eo] (λc o L eo=>k2 _ _ (λz=>L (by rw[Al.mp z];simp[FrA.fp])) eo) (λc L=>.inl L) b2,λc L=>.inl L],λc o L eo=>k2 _ _ (λz=>L (by rw[Al.mp z,bX];simp[FrA.fp])) eo
 |opn o hl hd ht hw Y e =>
  have w4:wd∈uT:=by rw[hw];exact LF o
  let ⟨w1,w2,w3⟩:=LC _ w4
  have S:(fs.length:Int)-1=d:=by lia
  exists n,by rw[decide_eq_true (by rw[decide_eq_false w1,decide_eq_false hl])],?_
  repeat first|k_go|refine aA ?_|refine bZ w1 ?_|refine bZ w2 ?_
  exists _,_,rfl,Bh #v[_,J,rfl],?_
  rw[Ab,b4]
  walk
  exists _,(d:Int),rfl,by rw[S],Dc d,by lia,by lia,by lia,?_
  lk
  refine aE (by have:=aQ (ind d) (jn tk);show (ind d).length+_<=_;lia) ?_
  lk
  exists n,by rw[decide_eq_true (show ind d++jn tk=iK (Aa "  ") (d:Int).toNat++jn tk from rfl)],?_
  repeat first|k_go|refine aA ?_|refine bZ w3 ?_|refine cF w4 ?_
  exists p,rfl,#v[_,J],?_
  walk
  exists t,o,n,rfl,by rw[V,ht],Y,λpp M4 b3 e9 x4=>?_
  lk
  intro a ha
  exists a,pp,rfl,FB,λb pb M5 hb b5 Z e1 e2 e3 kk=>#v[rfl,?_]
  let ⟨ds,z1,z2,z3⟩:=b1 x4 b3 e9 ha hb b5 Z e1 e2 e3 kk e
  exists ds,z1,z2,?_
  lk
  exact z3
 |turn gs f kind pr hl e0 hd ht hk b7 h5 L =>
  have w2:wd∈uS:=by rcases L with ⟨rfl,_⟩|⟨⟨rfl,_⟩|⟨rfl,_⟩,_⟩<;>lia
  let ⟨w1,w3,w4⟩:=LD _ w2
  have S:(fs.length:Int)-2=d:=by rw[e0,Ae,<- hd];simp;lia
  exists n,by rw[decide_eq_true (by rw[decide_eq_false w1,decide_eq_false hl])],?_
  repeat first|k_go|refine aA ?_|refine bZ w1 ?_|refine cF w2 ?_
  exists _,_,rfl,Bh #v[_,J,rfl],?_
  rw[Ab,b4]
  walk
  exists _,(d:Int),rfl,by rw[S],Dc d,by lia,by lia,by lia,?_
  lk
  refine aE (by have:=aQ (ind d) (jn tk);show (ind d).length+_<=_;lia) ?_
  lk
  exists n,by rw[decide_eq_true (show ind d++jn tk=iK (Aa "  ") (d:Int).toNat++jn tk from rfl)],?_
  repeat first|k_go|refine aA ?_|refine bZ w3 ?_|refine bZ w4 ?_|refine cF w2 ?_
  exists _,_,rfl,Bh #v[_,V,rfl],?_
  rw[Ab]
  walk
  exists n,by rw[decide_eq_true (by rw[ht];rfl)],?_
  walk
  exists p,wd,n,as,gs,f,kind,pr,rfl,by rw[<- e0];exact I,hk,b7,h5,by lia,?_
  rcases L with ⟨c1,c2,e8,p1,bl,lb,c3,c4,c5⟩|⟨c1,c2,c3⟩
  ·refine .inl #v[c1,c2,e8,p1,bl,lb,c3,c4,λM' h=>?_]
   lk
   exact q _ (O (by rw[c5];exact h))
  ·refine .inr #v[c1,c2,λM' h=>?_]
   lk
   exact q _ (O (by rw[c3];exact h))
 |plain s gs p1 bl lb hl e0 hd ht hw Y hb h5 e =>
  have w0:wd∈xC:=by rw[hw];exact LG Y
  let ⟨w1,w2,w3,w4⟩:=HG _ w0
  have S:(fs.length:Int)-1=d:=by rw[e0,Ae,hd];simp
  exists n,by rw[decide_eq_true (by rw[decide_eq_false w1,decide_eq_false hl])],?_
  repeat first|k_go|refine aA ?_|refine bZ w1 ?_|refine bZ w2 ?_
  exists _,_,rfl,Bh #v[_,J,rfl],?_
  rw[Ab,b4]
  walk
  exists _,(d:Int),rfl,by rw[S],Dc d,by lia,by lia,by lia,?_
  lk
  refine aE (by have:=aQ (ind d) (jn tk);show (ind d).length+_<=_;lia) ?_
  lk
  exists n,by rw[decide_eq_true (show ind d++jn tk=iK (Aa "  ") (d:Int).toNat++jn tk from rfl)],?_
  subst e0
  let ⟨bs,a,rfl,hS,hf⟩:=I.top
  let ⟨b2,d8⟩:=I.nd1
  let ⟨ds,b,eb,hz,d7⟩:=hf.lastB
  have f8:=hf.bs.len
  have ib:atI (a.bs.map D.ref) (-1)=some (.ref b):=by rw[eb,Ai];exact L2.eY _ _
  repeat first|k_go|refine aA ?_|refine bZ w2 ?_|refine bZ w3 ?_|refine bZ w4 ?_|refine aF J I.last ?_
  exists a.o,C,gJ a,_,rfl,hf.o,k.cls,k.b,rfl,?_
  repeat first|k_go|refine aF hf.pb ib ?_
  exists b,rfl,#v[_,d7],?_
  lk
  exists t,s,n,rfl,by rw[V,ht],Y,λM2 x2=>?_
  exists _,x2 _ _ d7,Aw (Di hb) (small (by decide)),?_
  lk
  have f6:b≠p:=λz=>d8 (by subst z;simp[FrA.fp,eb])
  refine q _ (O ?_)
  rw[e]
  exists #v[bs++[a],I.put rfl (hf.putB eb b2 (λc o L eo=>by rw[aC L];exact x2 _ _ eo) FB) (λc o L eo=>by rw[aC (λz=>L (by subst z;simp[FrA.fp,eb]))];exact x2 _ _ eo) (λc L=>.inl L) b2,λc L=>.inl L],λc o L eo=>?_
  rw[aC (λz=>L (by subst z;rw[bX];simp[FrA.fp,eb]))]
  exact x2 _ _ eo
end
inductive Run:Str->List Frm->List LnT->List Frm->Prop
 |nil (last:Str) (fs:List Frm):Run last fs [] fs
 |cons {last wd:Str} {fs fs1 fs2:List Frm} {d:Nat} {tk:List Str} {r:List LnT} (h:Stx last fs d tk wd fs1) (hl:fs.length<=20) (k:Run wd fs1 r fs2):Run last fs ((d,tk)::r) fs2
theorem Run.toks(h:Run last fs ls fs2):∀ x∈ls,Toks x.2:=by
 induction h with
 |nil last fs=>exact λx hx=>by cases hx
 |cons h hl k I =>
  intro x hx
  rcases Am.mp hx with rfl|hx
  ·exact h.tks.1
  ·exact I x hx
theorem LH(h:Toks x.2):NoC 10 (lnT x):=λz=>by
 have e:(lnT x).cps.toList=(ind x.1).cps.toList++(jn x.2).cps.toList:=by
  show ((ind x.1).cps++(jn x.2).cps).toList=_
  rw[Fc]
 rw[e]at z
 rcases Aq.mp z with z|z
 ·have:=sB _ _ z;lia
 ·rcases jn_cps h _ z with z|z<;>lia
theorem UY:Aa "\n"=#v[#[10]]:=by lia
theorem uU(J:ls≠[])(h:∀ x∈ls,Toks x.2):Txt.split (Txt.join (Aa "\n") (ls.map lnT)) (Aa "\n")=ls.map lnT:=by
 rw[uH,UY]
 exact oG (by simpa using J) λt I=>by
  let ⟨x,hx,rfl⟩:=A5.mp I
  exact LH (h x hx)
section
local macro_rules | `(tactic| tm_at $s:str)=>bJ n_an s
local macro_rules | `(tactic| tm_at "d")=>`(tactic| first
 |((with_reducible show EV _ _ _ (Expr.Call (Expr.Attribute _ "split" _) [_] [] _) _);(with_reducible refine' kD ?_ ?n1 ?n2 ?n3 ?n4 ?n5);(case n1=>rfl);(case n2=>rfl);(case n3=>rfl);(case n4=>rfl);(case n5=>rfl))
 |((with_reducible show EV _ _ _ (Expr.Call (Expr.Attribute _ "closed" _) [] [] _) _);(with_reducible refine' oB ?n0 ?n1 ?n2 ?_ ?n3);(case n0=>exact C_closed);(case n1=>exact hr);(case n2=>first|decide|lia);(case n3=>rfl)))
end
theorem Stx.wd_ne(h:Stx last fs d tk wd fs'):¬ wd=Aa "":= λz=>by
 let ⟨h1,r,e⟩:=h.tks
 have:=(h1 wd (by rw[e];exact Aj ..)).ne
 rw[z]at this
 exact this rfl
def xD(b:List Stm)(d:Nat):Prop:=∀(gs:List Frm) (p1:List D) (bl:List (List D)) (lb:List D) (last:Str) (rest:List LnT) (fin:List Frm),gs.length=d->bl.length<=4->lb.length+b.length<=100->¬ last=Aa ""->
  (∀ wd,¬ wd=Aa ""->Run wd (gs++[(p1,bl++[lb++aO b])]) rest fin)->Run last (gs++[(p1,bl++[lb])]) (aY d b++rest) fin
theorem zF{o:Opn}{kind Y:Str}{pr:List D}{a b:List Stm}{d:Nat}{gs:List Frm}{J:List D}{bl:List (List D)}{I:List D}{last:Str}{rest:List LnT}{b7:List Frm}(ho:dN o=.str kind::pr)(b5:RdO o)(hm:(Y=Aa "or"/\kind=Aa "choose")\/(Y=Aa "else"/\kind=Aa "if"))(ra:xD a (d+1))(rb:xD b (d+1))(la:a.length<=90)(d6:b.length<=90)(b1:(dN o).length<=10)(hd:gs.length=d)(d7:d<=10)(h4:bl.length<=4)(b4:I.length<=100)(hl:¬ last=Aa "")
  (k:∀ wd,¬ wd=Aa ""->Run wd (gs++[(J,bl++[I++[.tup (dN o++[.tup (aO a),.tup (aO b)])]])]) rest b7):Run last (gs++[(J,bl++[I])]) ((d,tkO o)::(aY (d+1) a++((d,[Y])::(aY (d+1) b++((d,[Aa "end"])::rest))))) b7:=by
 have hg:(gs++[(J,bl++[I])]).length=d+1:=by rw[Ae,hd];rfl
 have V:∀ f:Frm,(gs++[(J,bl++[I])]++[f]).length<=20:=λf=>by rw[Ae,hg];show _+1<=_;lia
 have S:Stx last (gs++[(J,bl++[I])]) d (tkO o) (wdO o) (gs++[(J,bl++[I])]++[(dN o,[[]])]):=.opn o hl hg.symm rfl rfl b5 rfl
 refine .cons S (by lia) ?_
 refine ra (gs++[(J,bl++[I])]) (dN o) [] [] _ _ _ hg (by simp) (by simp;lia) S.wd_ne λw1 b2=>?_
 rw[A2,A2]
 have b3:kind∈[Aa "choose",Aa "if"]:=by rcases hm with ⟨_,rfl⟩|⟨_,rfl⟩<;>simp
 have L:Stx w1 (gs++[(J,bl++[I])]++[(dN o,[aO a])]) d [Y] Y (gs++[(J,bl++[I])]++[(dN o,[aO a]++[[]])]):=.turn _ _ kind pr b2 rfl hg.symm rfl ho b1 (by simp) (.inr #v[hm,rfl,rfl])
 refine .cons L (V _) ?_
 refine rb (gs++[(J,bl++[I])]) (dN o) [aO a] [] _ _ _ hg (by simp) (by simp;lia) L.wd_ne λw2 Z=>?_
 rw[A2]
 have O:Stx w2 (gs++[(J,bl++[I])]++[(dN o,[aO a]++[aO b])]) d [Aa "end"] (Aa "end") (gs++[(J,bl++[I++[.tup (dN o++[.tup (aO a),.tup (aO b)])]])]):=.turn _ _ kind pr Z rfl hg.symm rfl ho b1 (by simp) (.inl #v[rfl,.inr #v[b3,rfl],gs,J,bl,I,rfl,b4,rfl])
 exact .cons O (V _) (k _ O.wd_ne)
theorem LI{r:Rw}{rs:List Rw}{m:Option (Sm×Int)}{b:List Stm}{d:Nat}{gs:List Frm}{J:List D}{bl:List (List D)}{I:List D}{last:Str}{rest:List LnT}{b3:List Frm}(hr:RdR r)(b5:pF rs)(hm:∀ x,m=some x->RdS x.1/\0<x.2/\B 65 x.2)(rb:xD b (d+1))(b7:b.length<=90)(hd:gs.length=d)(d6:d<=10)(h4:bl.length<=4)(b4:I.length<=100)(hl:¬ last=Aa "")
  (k:∀ wd,¬ wd=Aa ""->Run wd (gs++[(J,bl++[I++[.tup [.str "while",rwD r,.tup (rs.map rwD),msD m,.tup (aO b)]]])]) rest b3):Run last (gs++[(J,bl++[I])]) ((d,tkO (.whl r))::(tkK (d+1) rs++(tkF (d+1) m++(aY (d+1) b++((d,[Aa "end"])::rest))))) b3:=by
 have hg:(gs++[(J,bl++[I])]).length=d+1:=by rw[Ae,hd];rfl
 have V:∀ f:Frm,(gs++[(J,bl++[I])]++[f]).length<=20:=λf=>by rw[Ae,hg];show _+1<=_;lia
 have Y:Stx last (gs++[(J,bl++[I])]) d (tkO (.whl r)) (wdO (.whl r)) (gs++[(J,bl++[I])]++[([.str "while",rwD r,.tup [],.non],[[]])]):=.opn (.whl r) hl hg.symm rfl rfl hr rfl
 refine .cons Y (by lia) ?_
 have b1:∀ O:Str,¬ O=Aa ""->Run O (gs++[(J,bl++[I])]++[([.str "while",rwD r,.tup (rs.map rwD),msD m],[[]])]) (aY (d+1) b++((d,[Aa "end"])::rest)) b3:=λO L=>by
  refine rb (gs++[(J,bl++[I])]) _ [] [] _ _ _ hg (by simp) (by simp;lia) L λw2 b2=>?_
  rw[A2,A2]
  have S:Stx w2 (gs++[(J,bl++[I])]++[([.str "while",rwD r,.tup (rs.map rwD),msD m],[aO b])]) d [Aa "end"] (Aa "end") (gs++[(J,bl++[I++[.tup [.str "while",rwD r,.tup (rs.map rwD),msD m,.tup (aO b)]]])]):=.turn _ _ (Aa "while") _ b2 rfl hg.symm rfl rfl (by simp) (by simp) (.inl #v[rfl,.inl rfl,gs,J,bl,I,rfl,b4,rfl])
  exact .cons S (V _) (k _ S.wd_ne)
 have fl:∀ O:Str,O∈[Aa "while",Aa "keep"]->Run O (gs++[(J,bl++[I])]++[([.str "while",rwD r,.tup (rs.map rwD),.non],[[]])]) (tkF (d+1) m++(aY (d+1) b++((d,[Aa "end"])::rest))) b3:=λO L=>by
  have Z:∀ w∈[Aa "while",Aa "keep"],¬ w=Aa "":= by lia
  cases m with
  |none=>exact b1 O (Z _ L)
  |some x =>
   let ⟨z1,z2,z3⟩:=hm x rfl
   have st:Stx O (gs++[(J,bl++[I])]++[([.str "while",rwD r,.tup (rs.map rwD),.non],[[]])]) (d+1) (tkH (.fall x)) (wdH (.fall x)) (gs++[(J,bl++[I])]++[([.str "while",rwD r,.tup (rs.map rwD),msD (some x)],[[]])]):=.head (.fall x) _ _ (Z _ L) rfl hg.symm rfl rfl #v[L,z1,z2,z3] (by simp[ixH]) (by simp) rfl
   exact .cons st (V _) (b1 _ st.wd_ne)
 unfold tkK
 by_cases h0:rs=[]
 ·rw[if_pos h0,A2]
  subst h0
  exact fl _ (.head _)
 ·rw[if_neg h0]
  have st:Stx (wdO (.whl r)) (gs++[(J,bl++[I])]++[([.str "while",rwD r,.tup [],.non],[[]])]) (d+1) (tkH (.keep rs)) (wdH (.keep rs)) (gs++[(J,bl++[I])]++[([.str "while",rwD r,.tup (rs.map rwD),.non],[[]])]):=.head (.keep rs) _ _ Y.wd_ne rfl hg.symm rfl rfl #v[rfl,h0,b5] (by simp[ixH]) (by simp) rfl
  exact .cons st (V _) (fl _ (.tail _ (.head _)))
mutual
theorem UZ:∀(s:Stm) (d:Nat) (gs:List Frm) (p1:List D) (bl:List (List D)) (lb:List D) (last:Str) (rest:List LnT) (fin:List Frm),cP s->gs.length=d->d+dp s<=10->bl.length<=4->lb.length<=100->¬ last=Aa ""->
  (∀ wd,¬ wd=Aa ""->Run wd (gs++[(p1,bl++[lb++[stD s]])]) rest fin)->Run last (gs++[(p1,bl++[lb])]) (cG d s++rest) fin
 |.set x s,d,gs,p1,bl,lb,last,rest,fin,hr,hd,hdp,h4,h100,hl,k=>by
  simp only[cP]at hr
  simp only[cG]
  have st:Stx last (gs++[(p1,bl++[lb])]) d (tkL (.set x s)) (wdL (.set x s)) _:=.plain (.set x s) gs p1 bl lb hl rfl hd.symm rfl rfl hr h100 (by lia) rfl
  exact .cons st (by rw[Ae,hd];simp;lia) (k _ st.wd_ne)
 |.any x,d,gs,p1,bl,lb,last,rest,fin,hr,hd,hdp,h4,h100,hl,k=>by
  simp only[cP]at hr
  simp only[cG]
  have st:Stx last (gs++[(p1,bl++[lb])]) d (tkL (.any x)) (wdL (.any x)) _:=.plain (.any x) gs p1 bl lb hl rfl hd.symm rfl rfl hr h100 (by lia) rfl
  exact .cons st (by rw[Ae,hd];simp;lia) (k _ st.wd_ne)
 |.note rs,d,gs,p1,bl,lb,last,rest,fin,hr,hd,hdp,h4,h100,hl,k=>by
  simp only[cP]at hr
  simp only[cG]
  have st:Stx last (gs++[(p1,bl++[lb])]) d (tkL (.note rs)) (wdL (.note rs)) _:=.plain (.note rs) gs p1 bl lb hl rfl hd.symm rfl rfl hr h100 (by lia) rfl
  exact .cons st (by rw[Ae,hd];simp;lia) (k _ st.wd_ne)
 |.choose a b,d,gs,p1,bl,lb,last,rest,fin,hr,hd,hdp,h4,h100,hl,k=>by
  simp only[cP]at hr
  simp only[dp]at hdp
  have e0:stD (.choose a b)=.tup [.str "choose",.tup (aO a),.tup (aO b)]:=by simp only[stD]
  have e1:cG d (.choose a b)++rest=(d,tkO .choose)::(aY (d+1) a++((d,[Aa "or"])::(aY (d+1) b++((d,[Aa "end"])::rest)))):=by simp only[cG,A3,Az,A2]
  rw[e0]at k
  rw[e1]
  exact zF (o:=.choose) rfl trivial (.inl #v[rfl,rfl]) (λgs p1 bl lb last rest fin S J I O L=>kJ a (d+1) gs p1 bl lb last rest fin hr.1 S (by lia) J I O L) (λgs p1 bl lb last rest fin S J I O L=>kJ b (d+1) gs p1 bl lb last rest fin hr.2.1 S (by lia) J I O L) hr.2.2.1 hr.2.2.2 (by simp[dN]) hd (by lia) h4 h100 hl k
 |.ite r a b,d,gs,p1,bl,lb,last,rest,fin,hr,hd,hdp,h4,h100,hl,k=>by
  simp only[cP]at hr
  simp only[dp]at hdp
  have e0:stD (.ite r a b)=.tup [.str "if",rwD r,.tup (aO a),.tup (aO b)]:=by simp only[stD]
  have e1:cG d (.ite r a b)++rest=(d,tkO (.ite r))::(aY (d+1) a++((d,[Aa "else"])::(aY (d+1) b++((d,[Aa "end"])::rest)))):=by simp only[cG,A3,Az,A2]
  rw[e0]at k
  rw[e1]
  exact zF (o:=.ite r) rfl hr.1 (.inr #v[rfl,rfl]) (λgs p1 bl lb last rest fin S J I O L=>kJ a (d+1) gs p1 bl lb last rest fin hr.2.1 S (by lia) J I O L) (λgs p1 bl lb last rest fin S J I O L=>kJ b (d+1) gs p1 bl lb last rest fin hr.2.2.1 S (by lia) J I O L) hr.2.2.2.1 hr.2.2.2.2 (by simp[dN]) hd (by lia) h4 h100 hl k
 |.whl r rs m b,d,gs,p1,bl,lb,last,rest,fin,hr,hd,hdp,h4,h100,hl,k=>by
  simp only[cP]at hr
  simp only[dp]at hdp
  have e0:stD (.whl r rs m b)=.tup [.str "while",rwD r,.tup (rs.map rwD),msD m,.tup (aO b)]:=by simp only[stD]
  have e1:cG d (.whl r rs m b)++rest=(d,tkO (.whl r))::(tkK (d+1) rs++(tkF (d+1) m++(aY (d+1) b++((d,[Aa "end"])::rest)))):=by simp only[cG,A3,Az,A2]
  rw[e0]at k
  rw[e1]
  exact LI hr.1 hr.2.1 hr.2.2.1 (λgs p1 bl lb last rest fin S J I O L=>kJ b (d+1) gs p1 bl lb last rest fin hr.2.2.2.1 S (by lia) J I O L) hr.2.2.2.2 hd (by lia) h4 h100 hl k
theorem kJ:∀(b:List Stm) (d:Nat) (gs:List Frm) (p1:List D) (bl:List (List D)) (lb:List D) (last:Str) (rest:List LnT) (fin:List Frm),dB b->gs.length=d->d+dps b<=10->bl.length<=4->lb.length+b.length<=100->¬ last=Aa ""->
  (∀ wd,¬ wd=Aa ""->Run wd (gs++[(p1,bl++[lb++aO b])]) rest fin)->Run last (gs++[(p1,bl++[lb])]) (aY d b++rest) fin
 |[],d,gs,p1,bl,lb,last,rest,fin,hr,hd,hdp,h4,h100,hl,k=>by
  simp only[aO,A7]at k
  simp only[aY,A2]
  exact k _ hl
 |s::r,d,gs,p1,bl,lb,last,rest,fin,hr,hd,hdp,h4,h100,hl,k=>by
  simp only[dB]at hr
  simp only[dps]at hdp
  rw[Ah]at h100
  have e:aY d (s::r)++rest=cG d s++(aY d r++rest):=by simp only[aY,Az]
  rw[e]
  refine UZ s d gs p1 bl lb last _ fin hr.1 hd (by lia) h4 (by lia) hl λwd hw=>?_
  refine kJ r d gs p1 bl (lb++[stD s]) wd _ fin hr.2 hd (by lia) h4 (by rw[Ae];show _+1+_<=_;lia) hw λI J=>?_
  have e2:lb++[stD s]++aO r=lb++aO (s::r):=by simp only[aO,Az,A3,A2]
  rw[e2]
  exact k I J
end
theorem Run.ne(h:Run last fs ls fs2):∀ x∈ls,x.2≠[]:=by
 induction h with
 |nil last fs=>exact λx hx=>by cases hx
 |cons h hl k I =>
  intro x hx
  rcases Am.mp hx with rfl|hx
  ·let ⟨_,r,e⟩:=h.tks
   show _≠[]
   rw[e];simp
  ·exact I x hx
theorem uV:∀{a b:List Stm},dB (a++b)->dB a/\dB b
 |[],b,h=>#v[by simp only[dB],h]
 |s::a,b,h=>by
  simp only[A3,dB]at h
  let ⟨h1,h2⟩:=uV h.2
  simp only[dB]
  exact #v[#v[h.1,h1],h2]
theorem zG:∀(a b:List Stm),dps (a++b)=max (dps a) (dps b)
 |[],b=>by simp[dps]
 |s::a,b=>by
  simp only[A3,dps,zG a b];lia
def pK:Kd->List D
 |.ch1=>dN .choose
 |.ch2 _=>dN .choose
 |.if1 r=>dN (.ite r)
 |.if2 r _=>dN (.ite r)
 |.wh r rs m=>[.str "while",rwD r,.tup (rs.map rwD),msD m]
def bK:Kd->List (List D)
 |.ch2 a=>[aO a]
 |.if2 _ a=>[aO a]
 |_=>[]
def sM:List Frm->List D->List (List D)->List D->OB->List Frm
 |gs,p1,bl,lb,.done b=>gs++[(p1,bl++[lb++aO b])]
 |gs,p1,bl,lb,.opn b k i=>sM (gs++[(p1,bl++[lb++aO b])]) (pK k) (bK k) [] i
theorem uW:∀(o:OB) (gs:List Frm) (p1:List D) (bl:List (List D)) (lb:List D),(sM gs p1 bl lb o).length=gs.length+1+(eJ o).length
 |.done b,gs,p1,bl,lb=>by simp[sM,eJ]
 |.opn b k i,gs,p1,bl,lb=>by
  simp only[sM,eJ,uW i,Ae,Ah,B6];lia
theorem uX{o:Opn}{kind L:Str}{pr:List D}{a:List Stm}{d:Nat}{gs:List Frm}{wd:Str}{rest:List LnT}{b1:List Frm}(ho:dN o=.str kind::pr)(V:RdO o)(hm:(L=Aa "or"/\kind=Aa "choose")\/(L=Aa "else"/\kind=Aa "if"))(ra:dB a)(da:d+1+dps a<=10)(la:a.length<=90)(Y:(dN o).length<=10)(hg:gs.length=d+1)(hl:¬ wd=Aa "")
  (k:∀ w,¬ w=Aa ""->Run w (gs++[(dN o,[aO a]++[[]])]) rest b1):Run wd gs ((d,tkO o)::(aY (d+1) a++((d,[L])::rest))) b1:=by
 have O:∀ f:Frm,(gs++[f]).length<=20:=λf=>by rw[Ae,hg];show _+1<=_;lia
 have J:Stx wd gs d (tkO o) (wdO o) (gs++[(dN o,[[]])]):=.opn o hl hg.symm rfl rfl V rfl
 refine .cons J (by lia) ?_
 refine kJ a (d+1) gs (dN o) [] [] _ _ _ ra hg da (by simp) (by simp;lia) J.wd_ne λZ S=>?_
 rw[A2,A2]
 have I:Stx Z (gs++[(dN o,[aO a])]) d [L] L (gs++[(dN o,[aO a]++[[]])]):=.turn _ _ kind pr S rfl hg.symm rfl ho Y (by simp) (.inr #v[hm,rfl,rfl])
 exact .cons I (O _) (k _ I.wd_ne)
theorem LJ{r:Rw}{rs:List Rw}{m:Option (Sm×Int)}{d:Nat}{gs:List Frm}{wd:Str}{rest:List LnT}{Y:List Frm}(hr:RdR r)(Z:pF rs)(hm:∀ x,m=some x->RdS x.1/\0<x.2/\B 65 x.2)(hg:gs.length=d+1)(b1:d<=10)(hl:¬ wd=Aa "")
  (k:∀ w,¬ w=Aa ""->Run w (gs++[([.str "while",rwD r,.tup (rs.map rwD),msD m],[[]])]) rest Y):Run wd gs ((d,tkO (.whl r))::(tkK (d+1) rs++(tkF (d+1) m++rest))) Y:=by
 have L:∀ f:Frm,(gs++[f]).length<=20:=λf=>by rw[Ae,hg];show _+1<=_;lia
 have J:Stx wd gs d (tkO (.whl r)) (wdO (.whl r)) (gs++[([.str "while",rwD r,.tup [],.non],[[]])]):=.opn (.whl r) hl hg.symm rfl rfl hr rfl
 refine .cons J (by lia) ?_
 have V:∀ S:Str,S∈[Aa "while",Aa "keep"]->Run S (gs++[([.str "while",rwD r,.tup (rs.map rwD),.non],[[]])]) (tkF (d+1) m++rest) Y:=λS I=>by
  have O:∀ w∈[Aa "while",Aa "keep"],¬ w=Aa "":= by lia
  cases m with
  |none=>exact k S (O _ I)
  |some x =>
   let ⟨z1,z2,z3⟩:=hm x rfl
   have st:Stx S (gs++[([.str "while",rwD r,.tup (rs.map rwD),.non],[[]])]) (d+1) (tkH (.fall x)) (wdH (.fall x)) (gs++[([.str "while",rwD r,.tup (rs.map rwD),msD (some x)],[[]])]):=.head (.fall x) _ _ (O _ I) rfl hg.symm rfl rfl #v[I,z1,z2,z3] (by simp[ixH]) (by simp) rfl
   exact .cons st (L _) (k _ st.wd_ne)
 unfold tkK
 by_cases h0:rs=[]
 ·rw[if_pos h0,A2]
  subst h0
  exact V _ (.head _)
 ·rw[if_neg h0]
  have st:Stx (wdO (.whl r)) (gs++[([.str "while",rwD r,.tup [],.non],[[]])]) (d+1) (tkH (.keep rs)) (wdH (.keep rs)) (gs++[([.str "while",rwD r,.tup (rs.map rwD),.non],[[]])]):=.head (.keep rs) _ _ J.wd_ne rfl hg.symm rfl rfl #v[rfl,h0,Z] (by simp[ixH]) (by simp) rfl
  exact .cons st (L _) (V _ (.tail _ (.head _)))
theorem lJ:∀(o:OB) (d:Nat) (gs:List Frm) (p1:List D) (bl:List (List D)) (lb:List D) (last:Str),dB (bY o)->gs.length=d->d+dps (bY o)<=10->bl.length<=4->lb.length+(bY o).length<=100->¬ last=Aa ""->Run last (gs++[(p1,bl++[lb])]) (cB d o) (sM gs p1 bl lb o)
 |.done b,d,gs,p1,bl,lb,last,hr,hd,hdp,h4,h100,hl=>by
  have:=kJ b d gs p1 bl lb last [] (gs++[(p1,bl++[lb++aO b])]) hr hd hdp h4 h100 hl λL hw=>.nil _ _
  rw[A7]at this
  exact this
 |.opn b k i,d,gs,p1,bl,lb,last,hr,hd,hdp,h4,h100,hl=>by
  simp only[bY]at hr hdp h100
  let ⟨O,hs⟩:=uV hr
  rw[zG]at hdp
  rw[Ae]at h100
  simp only[dB]at hs
  have hs:=hs.1
  simp only[cB]
  refine kJ b d gs p1 bl lb last _ _ O hd (by lia) h4 (by simp at h100;lia) hl λL hw=>?_
  have hg:(gs++[(p1,bl++[lb++aO b])]).length=d+1:=by rw[Ae,hd];rfl
  have I:(gs++[(p1,bl++[lb++aO b])]).length<=20:=by lia
  show Run L _ (hdK d k++cB (d+1) i) (sM (gs++[(p1,bl++[lb++aO b])]) (pK k) (bK k) [] i)
  generalize gs++[(p1,bl++[lb++aO b])]=gs' at hg I ⊢
  cases k with
  |ch1 =>
   simp only[KA.stK,cP,dps,KA.dp]at hs hdp
   have st:Stx L gs' d (tkO .choose) (wdO .choose) (gs'++[(dN .choose,[]++[[]])]):=.opn .choose hw hg.symm rfl rfl trivial rfl
   exact .cons st I (lJ i (d+1) gs' _ [] [] _ hs.1 hg (by lia) (by simp) (by simp;lia) st.wd_ne)
  |ch2 a =>
   simp only[KA.stK,cP,dps,KA.dp]at hs hdp
   simp only[hdK,A3,Az,A2]
   exact uX (o:=.choose) rfl trivial (.inl #v[rfl,rfl]) hs.1 (by lia) hs.2.2.1 (by simp[dN]) hg hw λw J=>lJ i (d+1) gs' _ [aO a] [] _ hs.2.1 hg (by lia) (by simp) (by simp;lia) J
  |if1 r =>
   simp only[KA.stK,cP,dps,KA.dp]at hs hdp
   have st:Stx L gs' d (tkO (.ite r)) (wdO (.ite r)) (gs'++[(dN (.ite r),[]++[[]])]):=.opn (.ite r) hw hg.symm rfl rfl hs.1 rfl
   exact .cons st I (lJ i (d+1) gs' _ [] [] _ hs.2.1 hg (by lia) (by simp) (by simp;lia) st.wd_ne)
  |if2 r a =>
   simp only[KA.stK,cP,dps,KA.dp]at hs hdp
   simp only[hdK,A3,Az,A2]
   exact uX (o:=.ite r) rfl hs.1 (.inr #v[rfl,rfl]) hs.2.1 (by lia) hs.2.2.2.1 (by simp[dN]) hg hw λw J=>lJ i (d+1) gs' _ [aO a] [] _ hs.2.2.1 hg (by lia) (by simp) (by simp;lia) J
  |wh r rs m =>
   simp only[KA.stK,cP,dps,KA.dp]at hs hdp
   simp only[hdK,A3,Az]
   exact LJ hs.1 hs.2.1 hs.2.2.1 hg (by lia) hw λw J=>lJ i (d+1) gs' _ [] [] _ hs.2.2.2.1 hg (by lia) (by simp) (by simp;lia) J
theorem LK(h:RdPl ss rs (bY o))(V:ss.length<=6)(hd:dps (bY o)<=4)(Y:(bY o).length<=24):Run (Aa "") [] (fQ ss rs++cB 0 o) (sM [] [nms ss,.tup (rs.map rwD)] [] [] o):=by
 have I:Stx (Aa "") [] 0 (Aa "plan":: ss) (Aa "plan") [([nms ss,.tup []],[[]])]:=.plan ss rfl rfl rfl rfl rfl h.up h.pos V rfl
 refine .cons I (by simp) ?_
 have L:∀ O:Str,¬ O=Aa ""->Run O [([nms ss,.tup (rs.map rwD)],[[]])] (cB 0 o) (sM [] [nms ss,.tup (rs.map rwD)] [] [] o):=λO S =>
  lJ o 0 [] [nms ss,.tup (rs.map rwD)] [] [] O h.bk rfl (by lia) (by simp) (by simp;lia) S
 by_cases h0:rs=[]
 ·rw[if_pos h0]
  subst h0
  exact L _ I.wd_ne
 ·rw[if_neg h0]
  have J:Stx (Aa "plan") [([nms ss,.tup []],[[]])] 0 (tkH (.given rs)) (wdH (.given rs)) [([nms ss,.tup (rs.map rwD)],[[]])]:=.head (.given rs) [] _ I.wd_ne rfl rfl rfl rfl #v[rfl,h0,h.rs] (by simp[ixH]) (by simp) rfl
  exact .cons J (by simp) (L _ J.wd_ne)
section
variable {P:Program}{w:World}{K:Ad}{base:Heap}{f:Addr}{C P0:Addr}
local macro_rules | `(tactic| tm_at $s:str)=>bJ n_aa s
theorem oR(F:Fun K "__init__" "NoText.__init__" s_aa f fd)(e:ErrF K C P0 "line"):F8 P w K mg base CX0 1 f fd P_aa (aD K (spIni C ["line"])):=by
 refine SK F sc_aa (λds M Q ⟨a,vs,h,hl,_⟩=>by subst h;show vs.length+1=_;rw[hl];rfl) λcdv A outer s H EE ds M Q hr h=>?_
 have nd:=sc_aa.nd
 try (refine sZ ?_;intro X)
 let ⟨a,vs,rfl,hl,I,q⟩:=h
 obtain ⟨v,rfl⟩:∃ v,vs=[v]:=match vs,hl with | [v],_=>⟨v,rfl⟩
 refine bH ?_
 with_reducible refine' JN (C:=C) (P:=P0) ?n1 ?_ ?n0
 case n1=>exact e
 case n0=>rfl
 lk
 exact #v[a,rfl,.inl #v[I,λJ h1 h2=>q J h1 h2]]
end
def sN(Ct:Addr):SpX:=λds M Q R=>∃(b:Bool) (n:Int),ds=[.bl b,.int n]/\(b=true->Q .non M)/\(b=false->∀ dx,M dx=none->R Ct [("line",.int n)] (FF M dx (.att [("line",.int n)])))
def sO(Ct:Addr):SpX:=λds M Q R=>∃(ls:List LnT) (fs:List Frm),ds=[.str (Txt.join (Aa "\n") (ls.map lnT))]/\ls≠[]/\ls.length<=130/\(∀ x∈ls,(lnT x).length<=60100)/\Run (Aa "") [] ls fs /\
 (∀ f,fs=[f]->f.1.length<=10/\f.2.length<=10/\∀ M',Ext M M'->Q (.tup (f.1++f.2.map D.tup)) M') /\
 (fs.length≠1->∀ M' dx,Ext M M'->M' dx=none->R Ct [("line",.int ((ls.length:Int)+1))] (FF M' dx (.att [("line",.int ((ls.length:Int)+1))])))
section
variable {P:Program}{w:World}{K:Ad}{mg:Str->Option Value}{base:Heap}{f:Addr}{fd:FuncData}{C Ct P0:Addr}{tS:Tok}
local macro_rules | `(tactic| tm_at $s:str)=>bJ n_ao s
theorem HH(F:Fun K "must" "must" s_ao f fd)(m:Mkr P w K mg base 1 "NoText" Ct P0 ["line"]):F8 P w K mg base (XCX P w) 3 f fd P_ao (nN K (sN Ct)):=by
 refine UA F sc_ao (λds M Q R ⟨a,b,e,_⟩=>by subst e;rfl) λcdv A outer s H EE ds M Q R hr h T=>?_
 have nd:=sc_ao.nd
 try (refine sZ ?_;intro X)
 let ⟨b,n,rfl,q,J⟩:=h
 refine bH ?_
 cases b with
 |true =>
  lk
  refine xR ?_ (by intro _;rfl)
  lk
  exact q rfl
 |false =>
  lk
  refine xR ?_ (by intro _;rfl)
  lk
  with_reducible refine' EA ?n0 ?n1 ?n2 ?n3 ?n4 ?n5 ?_ ?n6 ?n7 ?n8 ?n9
  case n0=>exact m
  case n1=>exact hr
  case n2=>lia
  case n3=>rfl
  case n4=>exact T
  case n5=>decide
  case n6=>rfl
  case n7=>decide
  case n8=>rfl
  case n9=>rfl
  lk
  exact #v[rfl,λL I=>J rfl L I]
local macro_rules | `(tactic| tm_at $s:str)=>bJ n_an s
local macro_rules | `(tactic| tm_at "d")=>`(tactic| first
 |((with_reducible show EV _ _ _ (Expr.Call (Expr.Attribute _ "split" _) [_] [] _) _);(with_reducible refine' kD ?_ ?n1 ?n2 ?n3 ?n4 ?n5);(case n1=>rfl);(case n2=>rfl);(case n3=>rfl);(case n4=>rfl);(case n5=>rfl))
 |((with_reducible show EV _ _ _ (Expr.Call (Expr.Attribute _ "closed" _) [] [] _) _);(with_reducible refine' oB ?n0 ?n1 ?n2 ?_ ?n3);(case n0=>exact C_closed);(case n1=>exact hr);(case n2=>first|decide|lia);(case n3=>rfl)))
theorem HI(F:Fun K "read" "read" s_an f fd)(k:OpK K C)(h_len:mg "len"=none)(h_enumerate:mg "enumerate"=none)(CX:CalX P w K mg base 3 "must" (sN Ct))(C_read_line:Cal P w K mg base 8 "read_line" (spLine C))(C_closed:CalM P w K mg base 1 C "closed" (spClosed C)):F8 P w K mg base (XCX P w) 9 f fd P_an (nN K (sO Ct)):=by
 refine UA F sc_an (λds M Q R ⟨a,b,h,_⟩=>by subst h;rfl) λcdv A outer s H EE ds M Q R hr h T=>?_
 have nd:=sc_an.nd
 try (refine sZ ?_;intro X)
 let ⟨I,fr,rfl,e8,f2,S,J,q,qr⟩:=h
 have b3:=uU e8 J.toks
 have Z:=nV (Aa "\n") (B:=60100) (I.map lnT) (λy hy=>by let ⟨x,hx,rfl⟩:=A5.mp hy;exact S x hx)
 have e1:(Aa "\n").length=1:=by lia
 rw[Ab,e1]at Z
 generalize ht:Txt.join (Aa "\n") (I.map lnT)=text at b3 Z
 refine aA ?_
 lk
 exists _,rfl,?_
 lk
 exists _,rfl,by lia,big (by lia),big (Ay (oF ..) (by lia)),λl hl=>?_
 rw[b3]
 have x1:=aB (o:=.lst ((I.map lnT).map D.str)) hl
 have Y:FF M l (.lst ((I.map lnT).map D.str)) l=some (.lst ((I.map lnT).map D.str)):=FB
 generalize FF M l (.lst ((I.map lnT).map D.str))=M1 at x1 Y ⊢
 walk
 intro p hp
 have x2:=aB (o:=.lst []) hp
 have b1:FF M1 p (.lst []) p=some (.lst []):=FB
 have L:=x2 _ _ Y
 have b2:l≠p:=λz=>by subst z;rw[Y]at hp;cases hp
 generalize FF M1 p (.lst [])=M2 at x2 b1 L ⊢
 walk
 with_reducible refine' rV ?n0 ?n1 ?n2 ?_ ?n3 ?n4 ?n5 ?n6
 case n0=>exact JL
 case n1=>rfl
 case n2=>exact h_enumerate
 case n3=>rfl
 case n4=>rfl
 case n5=>rfl
 case n6=>(intro _;rfl)
 lk
 exists l,_,λi G' M'=>∃(last:Str) (as:List FrA) (fs:List Frm) (r1 r2:Option D),G'=[some (.str text),some (.ref l),some (.ref p),some (.str last),r1,r2]/\Rep C M' p as fs/\Run last fs (I.drop i) fr/\(∀ b∈fpS as,M2 b=none)/\(∀ c o,c≠p->M2 c=some o->M' c=some o),rfl,L,?_,?_,?_,?_
 ·exact #v[_,[],[],_,_,rfl,#v[b1,rfl,by simp[fpS]],J,λb O=>by simp[fpS]at O,λc o _ e=>e]
 ·rintro i G' M' ⟨last,as,fs,r1,r2,rfl,h1,h2,h3,h4⟩
  exact h4 _ _ b2 L
 ·rintro i d G' M' hd ⟨last,as,fs,r1,r2,rfl,h1,h2,h3,h4⟩
  rw[Ar,Ar]at hd
  let ⟨t,d9,rfl⟩:=Bz.mp hd
  let ⟨x,V,rfl⟩:=Bz.mp d9
  have d7:=(Ax.mp V).1
  have e7:I.drop i=x::I.drop (i+1):=by
   rw[List.drop_eq_getElem_cons d7,(Ax.mp V).2]
  rw[e7]at h2
  lk
  let ⟨dd,tk⟩:=x
  have f4:(lnT (dd,tk)).length<=60100:=S _ (Bf V)
  cases h2 with
  |cons hs f1 hk =>
   exists p,last,dd,tk,_,as,fs,_,_,rfl,h1,hs,f1,by show (lnT (dd,tk)).length<=_;lia,λM3 ⟨⟨as',g1,g2⟩,g3⟩=>?_
   exists _,as',_,_,_,rfl,g1,hk,λb O=>?_,λc o hc e=>?_
   ·rcases g2 b O with z|z
    ·exact h3 b z
    ·cases e:M2 b with
     |none=>rfl
     |some o =>
      have e9:b≠p:=λz=>by subst z;exact (Br.mp g1.nd).1 O
      rw[h4 b o e9 e]at z;cases z
   ·refine g3 c o (λz=>?_) (h4 c o hc e)
    rcases Am.mp z with z|z
    ·exact hc z
    ·rw[h3 c z]at e;cases e
 ·rintro G' M' ⟨last,as,fs,r1,r2,rfl,h1,h2,h3,h4⟩
  rw[List.drop_eq_nil_of_le (by simp)]at h2
  cases h2
  have d6:M' l=some (.lst ((I.map lnT).map D.str)):=h4 _ _ b2 L
  have b7:=h1.st.len
  have xx:Ext M M':=λc o e=>h4 c o (λz=>by
   subst z
   have:=x1 _ _ e
   rw[hp]at this;cases this) (x2 _ _ (x1 _ _ e))
  walk
  with_reducible refine' tV ?n0 ?n1 ?n2 ?n3 ?_ ?n4 ?n5 ?n6 ?n7
  case n0=>exact CX
  case n1=>exact hr
  case n2=>lia
  case n3=>exact T
  case n4=>rfl
  case n5=>decide
  case n6=>rfl
  case n7=>rfl
  lk
  exists _,_,rfl,Bh #v[_,h1.at_,rfl],?_
  lk
  exists _,_,rfl,Bh #v[_,d6,rfl],?_
  lk
  rw[Ab,Ab,Ab]
  exists _,_,rfl,λO=>?_,λO dx d8=>qr (λz=>?_) _ dx xx d8
  ·have f3:as.length=1:=by have:=of_decide_eq_true O;lia
   have b4:fr.length=1:=by lia
   obtain ⟨g,hg⟩:∃ g,fr=[g]:=List.length_eq_one_iff.mp b4
   subst hg
   let ⟨q1,q2,q3⟩:=q g rfl
   let ⟨bs,a,rfl,hS,hf⟩:=Rep.top (fs:=[]) h1
   have b5:bs=[]:=by have:=hS.len;exact C4.mp (by simpa using this)
   subst b5
   have i0:atI (([]++[a]).map λa:FrA=>D.ref a.o) 0=some (.ref a.o):=L2.aX (j:=0) rfl
   repeat first|k_go|refine aA ?_|refine aF h1.at_ i0 ?_
   exists a.o,gJ a,rfl,hf.o,rfl,a,g,rfl,hf,q1,q2,λM4 x4=>?_
   exact q3 M4 (b6 xx x4)
  ·have:=of_decide_eq_false O
   exact this (by lia)
end
def fP:D->D
 |.tup [.str n,.int k]=>.tup [.int k,.str (Aa " "++n)]
 |d=>d
theorem QU(ts:List (Str×Int)):((ts.map KA.tD).filter λ_=>true).map fP=(ts.map λt=>(t.2,Aa " "++t.1)).map ptD:=by
 rw[B9.mpr (by simp),By,By]
 rfl
theorem WN(i:Int):(if i<0 then -i else i)=((i.natAbs:Nat):Int):=by split<;>lia
theorem WO(xs:List D):D3.cK xs (some 1) none=xs.drop 1:=by
 unfold D3.cK
 rw[HT.gN]
 have:HT.sIx xs.length 0 (some 1)=min 1 xs.length:=HT.fH ..
 rw[this]
 cases xs with
 |nil=>rfl
 |cons d r=>simp
section
variable {P:Program}{w:World}{K:Ad}{base:Heap}{f:Addr}
local macro_rules | `(tactic| tm_at $s:str)=>bJ n_ak s
theorem ok_shown_added(F:Fun K "shown_added" "shown_added" s_ak f fd)(h_len:mg "len"=none)(h_str:mg "str"=none)(h_abs:mg "abs"=none):F8 P w K mg base CX0 1 f fd P_ak (aD K spAdd):=by
 tm_at "F ak"
 let ⟨ts,O,rfl,hk,q⟩:=h
 have hl:=hk.len
 refine aA ?_
 with_reducible refine' lR 2 (own:=["name", "weight"]) (js:=[]) (N:=["name", "weight"]) (cl:=[]) ?T ?xe ?ca ?hN ?hj ?hy ?hyf ?hsw fP (λ_=>true) ?_ ?hs
 case T=>exact cA (by lia) (by lia) rfl (by lia) rfl
 case xe=>rfl
 case ca=>rfl
 case hN=>exact nd
 case hj=>rfl
 case hy=>first|exact Bh rfl|exact D0 rfl
 case hyf=>exact .inl rfl
 case hsw=>rfl
 case hs=>(intro _;rfl)
 lk
 exists _,rfl,small (by rw[Ab];lia),?_,λp0 hp0=>?_
 ·rintro Y ⟨C',s',H',fp,rfl⟩ M' hM d hd
  let ⟨t,ht,rfl⟩:=A5.mp hd
  have Z:(["name", "weight"]:List Str).Nodup:=by lia
  refine nC rfl ?_
  refine dH ?_
  refine bC 0 Z ?_
  refine dH ?_
  refine bC 1 Z ?_
  refine jM ?_
  exists rfl,λi d e=>by rcases i with _|_|i<;>simp[aN]at e,cW #v[rfl,rfl],λ_=>?_
  repeat first|(refine aP 0 ?_)|(refine aP 1 ?_)|k_go
  refine aE (by rw[(hk.wt t ht).2.2.1];lia) ?_
  lk
  exact #v[rfl,rfl]
 rw[QU]
 refine bS (λS M'=>S=[some (trm ts),some (.int O),some (.ref p0),none,none,none,none]/\M' p0=some (.lst ((gI ts O).map ptD))/\Ext M M') ?_ ?_
 ·lk
  refine ifN ?_ ?_
  ·intro hw
   refine ifT ?_
   lk
   exists p0,rfl,#v[_,FB],?_
   lk
   exists _,FB,aT (by rw[Ab,Ab];lia),?_
   rw[kS]
   exists rfl,?_,aB hp0
   rw[FB]
   unfold gI
   rw[if_pos (.inl hw),Ai]
   rfl
  ·intro hw
   refine vR ?_
   lk
   exists _,_,rfl,rfl,?_
   rw[Ab]
   lk
   refine ifD ?_ ?_
   ·intro h0
    have h0:ts=[]:=C4.mp (by lia)
    lk
    exists p0,rfl,#v[_,FB],?_
    lk
    exists _,FB,aT (by rw[Ab,Ab];lia),?_
    rw[kS]
    exists rfl,?_,aB hp0
    rw[FB]
    unfold gI
    rw[if_pos (.inr h0),Ai]
    rfl
   ·intro h0
    lk
    exists rfl,?_,aB hp0
    rw[FB]
    unfold gI
    rw[if_neg (λz=>z.elim (λy=>y hw) λy=>h0 (by rw[y];rfl)),A7]
 rintro G1 M1 ⟨rfl,h1,e1⟩
 have I:=hk.pts
 generalize hL:gI ts O=L at h1 I
 have hq:nU ts O=JU L:=by rw[<- hL];rfl
 rw[hq]at q
 clear hL hq
 obtain ⟨p,r,rfl⟩:∃ p r,L=p::r:=by
  cases L with
  |nil=>exact absurd rfl I.ne
  |cons p r=>exact #v[p,r,rfl]
 have J:=I.ok p (Aj ..)
 have b2:=I.len
 rw[Ah]at b2
 walk
 refine aF (d:=.tup [.int p.1,.str p.2]) h1 (aX (j:=0) rfl) ?_
 lk
 exists fB J.1 (by decide),?_
 lk
 refine aF (d:=.tup [.int p.1,.str p.2]) h1 (aX (j:=0) rfl) ?_
 lk
 have hn:=dA J.1 (by decide)
 refine aE (x:=nT p.1) (by lia) ?_
 lk
 refine aA ?_
 with_reducible refine' dC ?n0 ?n1 ?_ ?n2
 case n0=>exact PassesOwn.never
 case n1=>rfl
 case n2=>(intro _;rfl)
 refine bB bN ?_
 lk
 refine bE ?_
 lk
 refine bO ?_
 refine bP rfl (Bh h1) λp1 V=>?_
 rw[WO,Au,C7,D4]
 have e2:Ext M (FF M1 p1 (.lst (r.map ptD))):=b6 e1 (aB V)
 have h2:FF M1 p1 (.lst (r.map ptD)) p1=some (.lst (r.map ptD)):=FB
 generalize FF M1 p1 (.lst (r.map ptD))=M2 at e2 h2 ⊢
 clear V h1 e1
 exists p1,r.map ptD,λi S M'=>∃ r4 r5 r6:Option D,S=[some (trm ts),some (.int O),some (.ref p0),some (.str (onT (nT p.1++p.2) (r.take i))),r4,r5,r6]/\M'=M2,rfl,Bh h2,#v[none,none,none,rfl,rfl],?_,?_,?_
 ·rintro i S M' hi ⟨r4,r5,r6,rfl,rfl⟩
  rfl
 ·rintro i d S M' hd ⟨r4,r5,r6,rfl,rfl⟩
  rw[Ar]at hd
  cases hri:r[i]? with
  |none=>rw[hri]at hd;cases hd
  |some x =>
   rw[hri]at hd
   have hd:D.tup [.int x.1,.str x.2]=d:=by simpa [ptD] using hd
   subst hd
   have hx:=I.ok x (Ak _ (Bf hri))
   have bx:Bd x.1 64:=#v[hx.1]
   have b5:i<r.length:=(Ax.mp hri).1
   have b1:=mN (r.take i) (nT p.1++p.2) λy hy=>I.ok y (Ak _ (C3 hy))
   have h5:(r.take i).length*1926<=5*1926:=Cb _ (by rw[Bt];lia)
   rw[aQ]at b1
   have b3:(sgT x.1).length=3:=by unfold sgT;split<;>lia
   have b7:(nT ((x.1.natAbs:Nat):Int)).length<=1921:=dA (n:=64) (by show ((x.1.natAbs:Nat):Int).natAbs<2^64;rw[Du];exact hx.1) (by decide)
   have htk:r.take (i+1)=r.take i++[x]:=by rw[Cm,hri];rfl
   generalize hT:onT (nT p.1++p.2) (r.take i)=T at b1 ⊢
   refine nC rfl ?_
   refine dH ?_
   refine bC 4 nd ?_
   try (refine fK ?_;intro EL)
   refine dH ?_
   refine bC 5 nd ?_
   try (refine fK ?_;intro EL)
   refine jM ?_
   refine fK ?_
   intro EL
   refine bS (λG2 M3=>G2=[some (trm ts),some (.int O),some (.ref p0),some (.str T),some (.int x.1),some (.str x.2),some (.str (sgT x.1))]/\M3=M') ?_ ?_
   ·lk
    refine ifD ?_ ?_
    ·intro hc
     lk
     exists ?_,rfl
     unfold sgT
     rw[if_pos hc]
     rfl
    ·intro hc
     lk
     exists ?_,rfl
     unfold sgT
     rw[if_neg hc]
     rfl
   rintro G3 M3 ⟨rfl,rfl⟩
   lk
   refine aE (by lia) ?_
   lk
   rw[WN]
   exists fB (n:=64) (by show ((x.1.natAbs:Nat):Int).natAbs<2^64;rw[Du];exact hx.1) (by decide),?_
   refine aE (y:=nT ((x.1.natAbs:Nat):Int)) (by rw[aQ];lia) ?_
   lk
   have b4:=hx.2
   refine aE (by rw[aQ,aQ];lia) ?_
   lk
   exact #v[_,_,_,by rw[htk,nS,hT];rfl,rfl]
 ·rintro S M' ⟨r4,r5,r6,rfl,rfl⟩
  rw[Ab,Bx]
  lk
  exact q _ e2
end
section
variable {P:Program}{w:World}{K:Ad}{base:Heap}{f aS:Addr}
local macro_rules | `(tactic| tm_at $s:str)=>bJ n_ai s
local macro_rules | `(tactic| tm_at "d")=>`(tactic| ((with_reducible show EV _ _ _ (Expr.Subscript (Expr.Name "SIGNS" _) _ _) _);(with_reducible refine' DN ?n0 ?n1 ?n2 ?_ ?n3 ?n4 ?n5);(case n0=>exact hS);(case n1=>lia);(case n2=>exact mS);(case n3=>rfl);(case n4=>decide);(case n5=>(intro _ _;rfl))))
theorem sP(F:Fun K "shown_row" "shown_row" s_ai f fd)(h_str:mg "str"=none)(hS:Two K w aS "least" ">=" "more" ">")(mS:mg "SIGNS"=some (.ref aS))(C_shown_added:Cal P w K mg base 1 "shown_added" spAdd):F8 P w K mg base CX0 2 f fd P_ai (aD K spShRow):=by
 tm_at "F ai"
 let ⟨r,rfl,hk,q⟩:=h
 have e0:rwD r=.tup [.str (word r.1),trm r.2.1,.int r.2.2]:=rfl
 rw[e0]
 refine bH ?_
 lk
 exists r.2.1,0,rfl,hk.1,λJ e1=>?_
 have h1:=hk.1.al
 have h4:(Aa " ").length=1:=by lia
 have h2:=dA hk.2 (by decide)
 have I:(kZ r.1).length<=2:=by unfold kZ;split<;>lia
 lk
 refine aE (by lia) ?_
 lk
 exists _,rfl,by unfold word;cases r.1<;>simp,?_
 have e2:(if word r.1=Aa "least" then Aa ">=" else Aa ">")=kZ r.1:=by
  cases r.1
  ·rw[if_neg (by show ¬ (Aa "more"=Aa "least");lia)];rfl
  ·rw[if_pos (show word true=Aa "least" from rfl)];rfl
 rw[e2]
 refine aE (by rw[aQ];lia) ?_
 lk
 refine aE (by rw[aQ,aQ];lia) ?_
 lk
 exists fB hk.2 (by decide),?_
 refine aE (y:=nT r.2.2) (by rw[aQ,aQ,aQ];lia) ?_
 exact q _ e1
local macro_rules | `(tactic| tm_at $s:str)=>bJ n_aj s
theorem ok_shown_sum(F:Fun K "shown_sum" "shown_sum" s_aj f fd)(h_str:mg "str"=none)(C_shown_added:Cal P w K mg base 1 "shown_added" spAdd):F8 P w K mg base CX0 2 f fd P_aj (aD K spShSum):=by
 tm_at "F aj"
 let ⟨s,rfl,hk,q⟩:=h
 have e0:smD s=.tup [trm s.1,.int s.2.1,.int s.2.2]:=rfl
 rw[e0]
 refine aA ?_
 lk
 exists s.1,s.2.1,rfl,hk.1,λJ e1=>?_
 have h1:=hk.1.al
 have h4:(Aa " over ").length=6:=by lia
 have h2:=dA hk.2.2 (by decide)
 walk
 refine ifD ?_ ?_
 ·intro I
  lk
  refine aE (by lia) ?_
  lk
  exists fB hk.2.2 (by decide),?_
  refine aE (y:=nT s.2.2) (by rw[aQ];lia) ?_
  have q:=q J e1
  unfold jY at q
  rw[if_pos I]at q
  exact q
 ·intro I
  lk
  have q:=q J e1
  unfold jY at q
  rw[if_neg I]at q
  exact q
local macro_rules | `(tactic| tm_at $s:str)=>bJ n_ah s
theorem ok_shown_rows(F:Fun K "shown_rows" "shown_rows" s_ah f fd)(C_shown_row:Cal P w K mg base 2 "shown_row" spShRow):F8 P w K mg base CX0 3 f fd P_ah (aD K spShRows):=by
 tm_at "F ah"
 let ⟨rs,rfl,hk,q⟩:=h
 have hl:=hk.2
 refine bH ?_
 lk
 exists _,rfl,?_
 with_reducible refine' DO (own:=["row"]) (js:=[]) (N:=["row"]) (cl:=[]) ?T ?xe ?ca ?_ ?hs
 case T=>exact cA (by lia) (by lia) rfl (by lia) rfl
 case xe=>rfl
 case ca=>rfl
 case hs=>(intro _;rfl)
 lk
 exists rs.map rwD,λL i J M'=>M L=none/\J=((rs.take i).map bV).map D.str/\M' L=some (.lst J)/\Ext M M',rfl,λL I=>#v[I,rfl,FB,aB I],?_,?_
 ·rintro Y ⟨Z,s',H',fp,rfl⟩ L i J M' d hd ⟨I,rfl,O,hx⟩ _
  rw[Ar]at hd
  cases hri:rs[i]? with
  |none=>rw[hri]at hd;cases hd
  |some r =>
   rw[hri]at hd
   have hd:rwD r=d:=by simpa using hd
   subst hd
   have S:(["row"]:List Str).Nodup:=by lia
   refine bC 0 S ?_
   exists rfl,λi d e=>by rcases i with _|i<;>simp[aN]at e,?_
   repeat first|(refine aP 0 ?_)|k_go
   exists r,rfl,hk.1 r (Bf hri),λM4 e4=>?_
   have htk:rs.take (i+1)=rs.take i++[r]:=by rw[Cm,hri];rfl
   exists e4 _ _ O,aT (by rw[Ab,Ab,Bt];lia),I,by rw[htk,Ai,Ai];rfl,FB,λb o V=>?_
   rw[aC (aU V I)]
   exact e4 _ _ (hx _ _ V)
 ·rintro L J M' ⟨I,rfl,O,hx⟩ _
  rw[Ab,Bx]at O
  exists L,rs.map bV,rfl,O,?_,q _ hx
  have h1:=iD (rs.map bV) hk.mem
  have h2:(Aa " and ").length=5:=by lia
  rw[Ab]at h1 ⊢
  rw[h2]
  have h4:rs.length*14000<=3*14000:=Cb _ hl
  lia
local macro_rules | `(tactic| tm_at $s:str)=>bJ n_ag s
theorem ok_shown_line(F:Fun K "shown_line" "shown_line" s_ag f fd)(C_shown_sum:Cal P w K mg base 2 "shown_sum" spShSum)(C_shown_rows:Cal P w K mg base 3 "shown_rows" spShRows):F8 P w K mg base CX0 4 f fd P_ag (aD K spShLine):=by
 tm_at "F ag"
 let ⟨s,rfl,hk,q⟩:=h
 cases s with
 |set x s =>
  have e0:stD (.set x s)=.tup [.str "set",.str x,smD s]:=by simp only[stD]
  rw[e0]
  have h1:=hk.2.al
  have h2:=hk.1
  have I:(Aa "set ").length=4:=by lia
  have h4:(Aa " = ").length=3:=by lia
  refine aA ?_
  repeat first|k_go|refine cF rfl ?_|refine bZ (by decide) ?_|refine aA ?_
  refine aE (by lia) ?_
  lk
  refine aE (by rw[aQ];lia) ?_
  lk
  exists s,rfl,hk.2,λJ e1=>?_
  refine aE (by rw[aQ,aQ];lia) ?_
  exact q _ e1
 |any x =>
  have e0:stD (.any x)=.tup [.str "any",.str x]:=by simp only[stD]
  rw[e0]
  have h2:x.length=1:=hk
  have I:(Aa "any ").length=4:=by lia
  refine aA ?_
  repeat first|k_go|refine cF rfl ?_|refine bZ (by decide) ?_|refine aA ?_
  refine aE (by lia) ?_
  exact q _ λ_ _ e=>e
 |note rs =>
  have e0:stD (.note rs)=.tup [.str "note",.tup (rs.map rwD)]:=by simp only[stD]
  rw[e0]
  have h1:=RsOk5.al hk
  have I:(Aa "note ").length=5:=by lia
  refine aA ?_
  repeat first|k_go|refine cF rfl ?_|refine bZ (by decide) ?_|refine aA ?_
  exists rs,rfl,hk,λJ e1=>?_
  refine aE (by lia) ?_
  exact q _ e1
 |choose a b=>exact hk.elim
 |ite r a b=>exact hk.elim
 |whl r rs m b=>exact hk.elim
end
def fDp(d:Nat)(v:D):D:=.tup [.int (d+1:Nat),v]
theorem zH(d:Nat)(xs:List Vl):((xs.map vlD).filter λ_=>true).map (fDp d)=(deeper d xs).map bG:=by
 rw[B9.mpr (by simp),By,deeper,By]
 rfl
section
variable {P:Program}{w:World}{K:Ad}{base:Heap}{f:Addr}
local macro_rules | `(tactic| tm_at $s:str)=>bJ n_af s
theorem pG(F:Fun K "one_deeper" "one_deeper" s_af f fd):F8 P w K mg base CX0 1 f fd P_af (aD K spDeeper):=by
 tm_at "F af"
 let ⟨d,xs,e,rfl,O,hl,q⟩:=h
 refine bH ?_
 rcases O with rfl|⟨l,rfl,hm⟩
 ·lk
  with_reducible refine' tA (own:=["part"]) (js:=[0]) (N:=["part", "depth"]) ?T ?xe ?ca (fDp d) (λ_=>true) ?_ ?hs
  case T=>exact bW (fs:=["depth"]) rfl (by lia) (by lia) rfl rfl rfl rfl rfl
  case xe=>rfl
  case ca=>rfl
  case hs=>(intro _;rfl)
  lk
  exists _,rfl,small (by rw[Ab];lia),?_,λL I=>?_
  ·rintro Y ⟨S,Z,H',V,rfl⟩ M' hM v hv
   have J:(["part", "depth"]:List Str).Nodup:=by lia
   refine bC 0 J ?_
   exists rfl,λi d e=>?_,cW #v[rfl,rfl],λ_=>?_
   ·rcases i with _|i
    ·simp[aN]at e
    ·exact e
   ·repeat first|(refine aP 0 ?_)|(refine aP 1 ?_)|k_go
    exact #v[rfl,rfl]
  ·rw[zH]
   exact q L I
 ·lk
  with_reducible refine' dI (own:=["part"]) (js:=[0]) (N:=["part", "depth"]) ?T ?xe ?ca (fDp d) (λ_=>true) ?_ ?hs
  case T=>exact bW (fs:=["depth"]) rfl (by lia) (by lia) rfl rfl rfl rfl rfl
  case xe=>rfl
  case ca=>rfl
  case hs=>(intro _;rfl)
  lk
  exists l,_,rfl,.inl hm,small (by rw[Ab];lia),?_,λL I=>?_
  ·rintro Y ⟨S,Z,H',V,rfl⟩ M' hM v hv
   have J:(["part", "depth"]:List Str).Nodup:=by lia
   refine bC 0 J ?_
   exists rfl,λi d e=>?_,cW #v[rfl,rfl],λ_=>?_
   ·rcases i with _|i
    ·simp[aN]at e
    ·exact e
   ·repeat first|(refine aP 0 ?_)|(refine aP 1 ?_)|k_go
    exact #v[rfl,rfl]
  ·rw[zH]
   exact q L I
local macro_rules | `(tactic| tm_at $s:str)=>bJ n_ad s
theorem ok_branch_parts(F:Fun K "branch_parts" "branch_parts" s_ad f fd)(C_one_deeper:Cal P w K mg base 1 "one_deeper" spDeeper):F8 P w K mg base CX0 2 f fd P_ad (aD K spBranch):=by
 tm_at "F ad"
 let ⟨d,o,a,bt,b,rfl,ha,hb,q⟩:=h
 have S:=gD d (a.map .inr)
 have lb:=gD d (b.map .inr)
 rw[Ab]at S lb
 refine aA ?_
 lk
 intro p0 hp0
 lk
 exists d,a.map .inr,_,rfl,.inl (by rw[ER]),by rw[Ab];exact ha,λp1 J=>?_
 refine gQ (aJ J FB) FB (by rw[Ab,S];exact small (by show 1+_<=1000;lia)) λI V=>?_
 have x1:Ext M (FF (FF M p0 (.lst [.tup [.int d,.str o]])) p1 (.lst ((deeper d (a.map .inr)).map bG))):=b6 (aB hp0) (aB J)
 have O:=bT x1 V
 have h2:FF (FF (FF M p0 (.lst [.tup [.int d,.str o]])) p1 (.lst ((deeper d (a.map .inr)).map bG))) I (.lst ([.tup [.int d,.str o]]++(deeper d (a.map .inr)).map bG)) I=some (.lst (((d,.inl o)::deeper d (a.map .inr)).map bG)):=FB
 have x2:=b8 (o:=.lst ([.tup [.int d,.str o]]++(deeper d (a.map .inr)).map bG)) x1 O
 generalize FF (FF (FF M p0 (.lst [.tup [.int d,.str o]])) p1 (.lst ((deeper d (a.map .inr)).map bG))) I (.lst ([.tup [.int d,.str o]]++(deeper d (a.map .inr)).map bG))=M2 at h2 x2 ⊢
 clear x1 V J hp0
 lk
 exists I,rfl,#v[_,h2],?_
 lk
 exists _,h2,aT (by rw[Ab,Ah,S];lia),?_
 have Y:FF M2 I (.lst (((d,Sum.inl o)::deeper d (a.map .inr)).map bG++[.tup [.int d,.str bt]])) I=some (.lst (((d,Sum.inl o)::(deeper d (a.map .inr)++[(d,Sum.inl bt)])).map bG)):=by rw[FB,<- A3,Ai];rfl
 have x3:=b8 (o:=.lst (((d,Sum.inl o)::deeper d (a.map .inr)).map bG++[.tup [.int d,.str bt]])) x2 O
 generalize FF M2 I (.lst (((d,Sum.inl o)::deeper d (a.map .inr)).map bG++[.tup [.int d,.str bt]]))=M3 at Y x3 ⊢
 clear h2 x2
 walk
 exists I,rfl,#v[_,Y],?_
 lk
 exists d,b.map .inr,_,rfl,.inl (by rw[ER]),by rw[Ab];exact hb,λp4 L=>?_
 exists p4,_,_,rfl,aJ L Y,FB,small (by rw[Ab,Ab,Ah,Ae,S,lb];show _+1+1+_<=1000;lia),?_
 have Z:FF (FF M3 p4 (.lst ((deeper d (b.map .inr)).map bG))) I (.lst (((d,Sum.inl o)::(deeper d (a.map .inr)++[(d,Sum.inl bt)])).map bG++(deeper d (b.map .inr)).map bG)) I=some (.lst (((d,Sum.inl o)::(deeper d (a.map .inr)++[(d,Sum.inl bt)])++deeper d (b.map .inr)).map bG)):=by rw[FB,Ai]
 have x5:=b8 (o:=.lst (((d,Sum.inl o)::(deeper d (a.map .inr)++[(d,Sum.inl bt)])).map bG++(deeper d (b.map .inr)).map bG)) (b6 x3 (aB (o:=.lst ((deeper d (b.map .inr)).map bG)) L)) O
 generalize FF (FF M3 p4 (.lst ((deeper d (b.map .inr)).map bG))) I (.lst (((d,Sum.inl o)::(deeper d (a.map .inr)++[(d,Sum.inl bt)])).map bG++(deeper d (b.map .inr)).map bG))=M5 at Z x5 ⊢
 clear Y x3 L
 walk
 exists I,rfl,#v[_,Z],?_
 lk
 exists _,Z,aT (by rw[Ab,Ae,Ah,Ae,S,lb];show _+1+1+_<=1000;lia),?_
 lk
 refine q I _ O ?_ (b8 x5 O)
 rw[FB]
 unfold brI
 have e:[D.tup [D.int d,D.str "end"]]=[((d,Sum.inl "end"):Itm)].map bG:=rfl
 rw[e,<- Ai]
 simp only[A3,Az,A2]
local macro_rules | `(tactic| tm_at $s:str)=>bJ n_ae s
theorem ok_loop_parts(F:Fun K "loop_parts" "loop_parts" s_ae f fd)(h_len:mg "len"=none)(h_str:mg "str"=none)(C_one_deeper:Cal P w K mg base 1 "one_deeper" spDeeper)(C_shown_rows:Cal P w K mg base 3 "shown_rows" spShRows)(C_shown_sum:Cal P w K mg base 2 "shown_sum" spShSum)(C_shown_row:Cal P w K mg base 2 "shown_row" spShRow):F8 P w K mg base CX0 4 f fd P_ae (aD K spLoopP):=by
 tm_at "F ae"
 let ⟨d,r,rs,m,b,rfl,hk,q⟩:=h
 let ⟨Y,O,hm,hb⟩:=(show ROk r/\RsOk5 rs/\(∀ x,m=some x->SOk x.1/\B 65 x.2)/\b.length<=100 from hk)
 have e0:stD (.whl r rs m b)=.tup [.str "while",rwD r,.tup (rs.map rwD),msD m,.tup (aO b)]:=by simp only[stD]
 rw[e0]
 have a1:=Y.al
 have a2:=O.al
 have l5:(Aa "keep ").length=5:=by lia
 have l6:(Aa "fall ").length=5:=by lia
 have l7:(Aa " by ").length=4:=by lia
 have l8:(Aa "while ").length=6:=by lia
 refine aA ?_
 lk
 intro p0 hp0
 refine bS (λG' M'=>G'=[some (.int d),some (.tup [.str "while",rwD r,.tup (rs.map rwD),msD m,.tup (aO b)]),some (.ref p0),none,none]/\M' p0=some (.lst ((fD rs).map D.str))/\Ext M M') ?_ ?_
 ·lk
  exists _,_,rfl,rfl,?_
  rw[Ab]
  lk
  refine ifD ?_ ?_
  ·intro hc
   have S:rs≠[]:=λz=>by rw[z]at hc;exact absurd hc (by decide)
   lk
   exists p0,rfl,#v[_,FB],?_
   lk
   exists rs,rfl,O,λM1 e1=>?_
   refine aE (by lia) ?_
   exists _,e1 _ _ FB,by decide,?_
   exists rfl,?_,b8 (b6 (aB hp0) e1) hp0
   unfold fD
   rw[FB,if_neg S]
   rfl
  ·intro hc
   have S:rs=[]:=by
    cases rs with
    |nil=>rfl
    |cons x y=>exact absurd (by rw[Ah];lia) hc
   lk
   exists rfl,?_,aB hp0
   unfold fD
   rw[FB,if_pos S]
   rfl
 rintro G1 M1 ⟨rfl,h1,x1⟩
 lk
 refine bS (λG' M'=>G'=[some (.int d),some (.tup [.str "while",rwD r,.tup (rs.map rwD),msD m,.tup (aO b)]),some (.ref p0),some (msD m),none]/\M' p0=some (.lst ((hdT rs m).map D.str))/\Ext M M') ?_ ?_
 ·have lk:=lB rs
  unfold hdT
  cases m with
  |none =>
   have e1:msD none=.non:=rfl
   rw[e1]
   lk
   exists rfl,?_,x1
   show _=some (MO.lst ((fD rs++[]).map D.str))
   rw[A7]
   exact h1
  |some y =>
   let ⟨hs,hy⟩:=hm y rfl
   have e1:msD (some y)=.tup [smD y.1,.int y.2]:=rfl
   rw[e1]
   have a3:=hs.al
   have a4:=dA hy (by decide)
   lk
   exists p0,rfl,#v[_,h1],?_
   lk
   exists y.1,rfl,hs,λM2 e2=>?_
   refine aE (by lia) ?_
   lk
   refine aE (by rw[aQ];lia) ?_
   lk
   exists fB hy (by decide),?_
   refine aE (y:=nT y.2) (by rw[aQ,aQ];lia) ?_
   exists _,e2 _ _ h1,aT (by rw[Ab];lia),?_
   exists rfl,?_,b8 (b6 x1 e2) hp0
   rw[FB,Ai]
   rfl
 clear h1 x1
 rintro G2 M2 ⟨rfl,h2,x2⟩
 have lh:=rS rs m
 have ld:=gD d ((hdT rs m).map .inl)
 have lb:=gD d (b.map .inr)
 rw[Ab]at ld lb
 have b1:(hdT rs m).map D.str=((hdT rs m).map Sum.inl).map vlD:=by rw[By];rfl
 rw[b1]at h2
 lk
 exists r,rfl,Y,λM3 e3=>?_
 refine aE (by lia) ?_
 lk
 intro I J
 have Z:=bT (b6 x2 e3) J
 have h4:FF M3 I (.lst [.tup [.int d,.str (Aa "while "++bV r)]]) I=some (.lst ([((d,Sum.inl (Aa "while "++bV r)):Itm)].map bG)):=FB
 have x4:=b6 x2 (b6 e3 (aB (o:=.lst [.tup [.int d,.str (Aa "while "++bV r)]]) J))
 have L:=aJ (o:=.lst [.tup [.int d,.str (Aa "while "++bV r)]]) J (e3 _ _ h2)
 generalize FF M3 I (.lst [.tup [.int d,.str (Aa "while "++bV r)]])=M4 at h4 x4 L ⊢
 clear h2 x2 J e3
 lk
 exists I,rfl,#v[_,h4],?_
 lk
 exists d,(hdT rs m).map .inl,_,rfl,.inr #v[p0,rfl,L],by rw[Ab];lia,λp5 hp5=>?_
 exists p5,_,_,rfl,aJ hp5 h4,FB,small (by rw[Ab,Ab,ld];show 1+_<=1000;lia),?_
 have h6:FF (FF M4 p5 (.lst ((deeper d ((hdT rs m).map .inl)).map bG))) I (.lst ([((d,Sum.inl (Aa "while "++bV r)):Itm)].map bG++(deeper d ((hdT rs m).map .inl)).map bG)) I=some (.lst (((d,Sum.inl (Aa "while "++bV r))::deeper d ((hdT rs m).map .inl)).map bG)):=by rw[FB];rfl
 have x6:=b8 (o:=.lst ([((d,Sum.inl (Aa "while "++bV r)):Itm)].map bG++(deeper d ((hdT rs m).map .inl)).map bG)) (b6 x4 (aB (o:=.lst ((deeper d ((hdT rs m).map .inl)).map bG)) hp5)) Z
 generalize FF (FF M4 p5 (.lst ((deeper d ((hdT rs m).map .inl)).map bG))) I (.lst ([((d,Sum.inl (Aa "while "++bV r)):Itm)].map bG++(deeper d ((hdT rs m).map .inl)).map bG))=M6 at h6 x6 ⊢
 clear h4 x4 L hp5
 walk
 exists I,rfl,#v[_,h6],?_
 lk
 exists d,b.map .inr,_,rfl,.inl (by rw[ER]),by rw[Ab];exact hb,λp7 V=>?_
 exists p7,_,_,rfl,aJ V h6,FB,small (by rw[Ab,Ab,Ah,ld,lb];lia),?_
 have h8:FF (FF M6 p7 (.lst ((deeper d (b.map .inr)).map bG))) I (.lst (((d,Sum.inl (Aa "while "++bV r))::deeper d ((hdT rs m).map .inl)).map bG++(deeper d (b.map .inr)).map bG)) I=some (.lst (((d,Sum.inl (Aa "while "++bV r))::deeper d ((hdT rs m).map .inl)++deeper d (b.map .inr)).map bG)):=by rw[FB,Ai]
 have x8:=b8 (o:=.lst (((d,Sum.inl (Aa "while "++bV r))::deeper d ((hdT rs m).map .inl)).map bG++(deeper d (b.map .inr)).map bG)) (b6 x6 (aB (o:=.lst ((deeper d (b.map .inr)).map bG)) V)) Z
 generalize FF (FF M6 p7 (.lst ((deeper d (b.map .inr)).map bG))) I (.lst (((d,Sum.inl (Aa "while "++bV r))::deeper d ((hdT rs m).map .inl)).map bG++(deeper d (b.map .inr)).map bG))=M8 at h8 x8 ⊢
 clear h6 x6 V
 walk
 exists I,rfl,#v[_,h8],?_
 lk
 exists _,h8,aT (by rw[Ab,Ae,Ah,ld,lb];lia),?_
 lk
 refine q I _ Z ?_ (b8 x8 Z)
 rw[FB]
 unfold loI
 have e:[D.tup [D.int d,D.str "end"]]=[((d,Sum.inl "end"):Itm)].map bG:=rfl
 rw[e,<- Ai]
 simp only[A3,Az]
local macro_rules | `(tactic| tm_at $s:str)=>bJ n_ac s
theorem ok_parts_of(F:Fun K "parts_of" "parts_of" s_ac f fd)(C_branch_parts:Cal P w K mg base 2 "branch_parts" spBranch)(C_loop_parts:Cal P w K mg base 4 "loop_parts" spLoopP)(C_shown_row:Cal P w K mg base 2 "shown_row" spShRow)(C_shown_line:Cal P w K mg base 4 "shown_line" spShLine):F8 P w K mg base CX0 5 f fd P_ac (aD K spPartsOf):=by
 tm_at "F ac"
 let ⟨d,s,rfl,hk,q⟩:=h
 have l3:(Aa "if ").length=3:=by lia
 cases s with
 |set x s =>
  have e0:stD (.set x s)=.tup [.str "set",.str x,smD s]:=by simp only[stD]
  rw[e0]
  refine aA ?_
  repeat first|k_go|refine cF rfl ?_|refine bZ (by decide) ?_|refine aA ?_
  exists .set x s,by rw[e0],hk,λJ e1=>?_
  lk
  exact λp I=>q p _ (bT e1 I) FB (b6 e1 (aB I))
 |any x =>
  have e0:stD (.any x)=.tup [.str "any",.str x]:=by simp only[stD]
  rw[e0]
  refine aA ?_
  repeat first|k_go|refine cF rfl ?_|refine bZ (by decide) ?_|refine aA ?_
  exists .any x,by rw[e0],hk,λJ e1=>?_
  lk
  exact λp I=>q p _ (bT e1 I) FB (b6 e1 (aB I))
 |note rs =>
  have e0:stD (.note rs)=.tup [.str "note",.tup (rs.map rwD)]:=by simp only[stD]
  rw[e0]
  refine aA ?_
  repeat first|k_go|refine cF rfl ?_|refine bZ (by decide) ?_|refine aA ?_
  exists .note rs,by rw[e0],hk,λJ e1=>?_
  lk
  exact λp I=>q p _ (bT e1 I) FB (b6 e1 (aB I))
 |choose a b =>
  have e0:stD (.choose a b)=.tup [.str "choose",.tup (aO a),.tup (aO b)]:=by simp only[stD]
  rw[e0]
  refine aA ?_
  repeat first|k_go|refine cF rfl ?_|refine bZ (by decide) ?_|refine aA ?_
  exact #v[d,_,a,_,b,rfl,hk.1,hk.2,q]
 |ite r a b =>
  have e0:stD (.ite r a b)=.tup [.str "if",rwD r,.tup (aO a),.tup (aO b)]:=by simp only[stD]
  rw[e0]
  have a1:=hk.1.al
  refine aA ?_
  repeat first|k_go|refine cF rfl ?_|refine bZ (by decide) ?_|refine aA ?_
  exists r,rfl,hk.1,λJ e1=>?_
  refine aE (by lia) ?_
  lk
  exact #v[d,_,a,_,b,rfl,hk.2.1,hk.2.2,λp M' I h x=>q p M' (bT e1 I) h (b6 e1 x)]
 |whl r rs m b =>
  have e0:stD (.whl r rs m b)=.tup [.str "while",rwD r,.tup (rs.map rwD),msD m,.tup (aO b)]:=by simp only[stD]
  rw[e0]
  refine aA ?_
  repeat first|k_go|refine cF rfl ?_|refine bZ (by decide) ?_|refine aA ?_
  exact #v[d,r,rs,m,b,by rw[e0],hk,q]
end
theorem LL(s:Stm):∃ ds,stD s=.tup ds:=by
 cases s<;>exact #v[_,by simp only[stD];rfl]
theorem WP{M:MH}{C:MH->Prop}(p:MH->Prop)(h:p M)(k:∀ M2,p M2->C M2):C M:=k M h
section
variable {P:Program}{w:World}{K:Ad}{base:Heap}{f:Addr}
local macro_rules | `(tactic| tm_at $s:str)=>bJ n_ab s
local macro_rules | `(tactic| tm_at "d")=>`(tactic| first
 |((with_reducible show EV _ _ _ (Expr.Name "str" _) _);(with_reducible refine' vQ ?n0 ?n1 ?_ ?n2 ?n3 ?n4);(case n0=>exact h_str);(case n1=>exact tN);(case n2=>rfl);(case n3=>decide);(case n4=>decide))
 |((with_reducible show EV _ _ _ (Expr.Name "STEP" _) _);(with_reducible refine' mK ?n0 ?_ ?n1 ?n2);(case n0=>exact gS);(case n1=>rfl);(case n2=>decide))
 |((with_reducible show EV _ _ _ (Expr.BinOp (Expr.Name "STEP" _) Operator.Mult _ _) _);(with_reducible refine rL ?_)))
theorem ok_shown(F:Fun K "shown" "shown" s_ab f fd)(h_len:mg "len"=none)(h_list:mg "list"=none)(h_str:mg "str"=none)(h_isinstance:mg "isinstance"=none)(h_reversed:mg "reversed"=none)(gS:mg "STEP"=some (.str "  " tS))(C_shown_rows:Cal P w K mg base 3 "shown_rows" spShRows)(C_parts_of:Cal P w K mg base 5 "parts_of" spPartsOf):F8 P w K mg base CX0 6 f fd P_ab (aD K spShown):=by
 tm_at "F ab"
 let ⟨ss,rs,b,rfl,hk,q⟩:=h
 have g7:=hk.len
 refine aA ?_
 lk
 exists _,rfl,?_
 lk
 intro p0 hp0
 lk
 exists .tup (ss.map D.str),rfl,λp1 b7=>?_
 refine gQ (aJ b7 FB) FB (by rw[Ab];exact small (by show 1+_<=1000;lia)) λp2 f1=>?_
 have e1:(Aa " ").length=1:=by lia
 have e3:(Aa "plan").length=4:=by lia
 have e6:(Aa "given ").length=6:=by lia
 have a2:=hk.rs.al
 exists p2,Aa "plan":: ss,rfl,FB,?_,?_
 ·have h1:=iD (B:=4) (Aa "plan":: ss) (λy hy=>by
   rcases Am.mp hy with rfl|hy
   ·exact En e3
   ·rw[hk.one y hy];decide)
  rw[e1]
  rw[Ah]at h1 ⊢
  lia
 have x2:Ext M (FF (FF (FF M p0 (.lst [.str "plan"])) p1 (.lst (ss.map D.str))) p2 (.lst ([.str "plan"]++ss.map D.str))):=b6 (aB hp0) (b6 (aB b7) (aB f1))
 generalize FF (FF (FF M p0 (.lst [.str "plan"])) p1 (.lst (ss.map D.str))) p2 (.lst ([.str "plan"]++ss.map D.str))=M2 at x2 ⊢
 clear hp0 b7 f1
 lk
 intro l0 d8
 have f0:=bT x2 d8
 have x3:=b6 x2 (aB (o:=.lst [.str (Txt.join " " (Aa "plan":: ss))]) d8)
 have h3:FF M2 l0 (.lst [.str (Txt.join " " (Aa "plan":: ss))]) l0=some (.lst ([Txt.join " " (Aa "plan":: ss)].map D.str)):=FB
 generalize FF M2 l0 (.lst [.str (Txt.join " " (Aa "plan":: ss))])=M3 at x3 h3 ⊢
 clear x2 d8
 refine bS (λG' M'=>G'=[some (.tup [nms ss,.tup (rs.map rwD),.tup (aO b)]),some (.ref l0),none,none,none]/\M' l0=some (.lst ((hdP ss rs).map D.str))/\Ext M M') ?_ ?_
 ·lk
  exists _,_,rfl,rfl,?_
  rw[Ab]
  lk
  refine ifD ?_ ?_
  ·intro hc
   have d6:rs≠[]:=λz=>by rw[z]at hc;exact absurd hc (by decide)
   lk
   exists l0,rfl,#v[_,h3],?_
   lk
   exists rs,rfl,hk.rs,λM4 e4=>?_
   refine aE (by lia) ?_
   exists _,e4 _ _ h3,aT (by simp),?_
   exists rfl,?_,b8 (b6 x3 e4) f0
   unfold hdP
   rw[FB,if_neg d6]
   rfl
  ·intro hc
   have d6:rs=[]:=by
    cases rs with
    |nil=>rfl
    |cons x y=>exact absurd (by rw[Ah];lia) hc
   lk
   exists rfl,?_,x3
   unfold hdP
   rw[if_pos d6]
   exact h3
 clear h3 x3
 rintro G4 M4 ⟨rfl,h4,x4⟩
 refine aA ?_
 with_reducible refine' tQ 2 (own:=["statement"]) (js:=[]) (N:=["statement"]) (cl:=[]) ?T ?xe ?ca ?hm ?hN ?hj ?hy ?hyf ?hsw fZ (λ_=>true) ?_ ?hg ?hse ?hs
 case T=>exact cA (by lia) (by lia) rfl (by lia) rfl
 case xe=>rfl
 case ca=>rfl
 case hm=>exact h_reversed
 case hN=>exact nd
 case hj=>rfl
 case hy=>first|exact Bh rfl|exact D0 rfl
 case hyf=>exact .inl rfl
 case hsw=>rfl
 case hg=>rfl
 case hse=>rfl
 case hs=>(intro _;rfl)
 lk
 have g8:=hk.bl
 exists aO b,rfl,small (by rw[cS,Ab];lia),?_,λS b3=>?_
 ·rintro Y ⟨C',s',H',fp,rfl⟩ M' hM d hd
  have f3:(["statement"]:List Str).Nodup:=by lia
  refine bC 0 f3 ?_
  exists rfl,λi d e=>by rcases i with _|i<;>simp[aN]at e,cW #v[rfl,rfl],λ_=>?_
  repeat first|(refine aP 0 ?_)|k_go
  exact #v[rfl,rfl]
 rw[PJ]
 have b4:l0≠S:=λz=>by rw[z,b3]at h4;cases h4
 have fw:=bT x4 b3
 have g3:=kA b
 have g6:=hk.s
 have h5:FF M4 S (.lst ((b.map λs=>((0,Sum.inr s):Itm)).reverse.map bG)) S=some (.lst ((b.map λs=>((0,Sum.inr s):Itm)).reverse.map bG)):=FB
 have d7:=aJ (o:=.lst ((b.map λs=>((0,Sum.inr s):Itm)).reverse.map bG)) b3 h4
 have x5:=b6 x4 (aB (o:=.lst ((b.map λs=>((0,Sum.inr s):Itm)).reverse.map bG)) b3)
 generalize FF M4 S (.lst ((b.map λs=>((0,Sum.inr s):Itm)).reverse.map bG))=M5 at h5 d7 x5 ⊢
 clear h4 x4 b3
 have g4:=yL ss rs
 refine aA ?_
 with_reducible refine' AI (λn G' M'=>∃(J:List Str) (O:List Itm) (r3 r4:Option D),G'=[some (.tup [nms ss,.tup (rs.map rwD),.tup (aO b)]),some (.ref l0),some (.ref S),r3,r4]/\M' l0=some (.lst (J.map D.str))/\M' S=some (.lst (O.map bG))/\J++O.reverse.flatMap lnI=hdP ss rs++lnB 0 b/\n=(O.map wI).sum/\J.length+n<=130/\(∀ t∈J,t.length<=60100)/\(∀ x∈O,IOk x)/\Ext M M') (wB b) ?n0 ?n1 ?_
 case n0=>exact PassesOwn.never
 case n1 =>
  exists hdP ss rs,(b.map λs=>((0,Sum.inr s):Itm)).reverse,none,none,rfl,d7,h5,by rw[List.reverse_reverse,JV],?_,by lia,hk.hd,λx hx=>?_,x5
  ·rw[D6,List.sum_reverse,PK]
  ·let ⟨s,hs,rfl⟩:=A5.mp (List.mem_reverse.mp hx)
   have h1:=mP s hs
   have h2:=hk.dp
   exact #v[mO hk.gd s hs,by lia]
 clear h5 d7 x5
 rintro n G' M' ⟨J,O,r3,r4,rfl,hl,hw,I,hn,hsz,b2,hok,hx⟩
 have e7:J.length<=130:=by lia
 lk
 exists _,_,rfl,Bh #v[_,hw,rfl],?_
 rw[Ab]
 lk
 refine ifD ?_ ?_
 ·intro d9
  obtain ⟨wt',x,rfl⟩:∃ wt' x,O=wt'++[x]:=by
   have:O≠[]:=by intro z;subst z;simp at d9
   exact #v[O.dropLast,O.getLast this,(B7 this).symm]
  have L:=hok x (by simp)
  rw[Ai,Eh]at hn
  rw[Ai]at hw
  rw[Ec]at I
  have I:J++(lnI x++wt'.reverse.flatMap lnI)=hdP ss rs++lnB 0 b:=by simpa using I
  have hn:n=(wt'.map wI).sum+wI x:=by simpa using hn
  lk
  exists S,_,_,rfl,hw,?_
  have Z:FF M' S (.lst (wt'.map bG)) S=some (.lst (wt'.map bG)):=FB
  have V:FF M' S (.lst (wt'.map bG)) l0=some (.lst (J.map D.str)):=by rw[aC b4];exact hl
  have x6:=b8 (o:=.lst (wt'.map bG)) hx fw
  refine WP (C:=λM6=>EndsD.nx _ _ M6) (M:=FF M' S (.lst (wt'.map bG))) (λM6=>M6 S=some (.lst (wt'.map bG))/\M6 l0=some (.lst (J.map D.str))/\Ext M M6) #v[Z,V,x6] ?_
  rintro M6 ⟨Z,V,x6⟩
  let ⟨d,v⟩:=x
  have b5:∀ y∈wt',IOk y:=λy hy=>hok y (Bk _ hy)
  cases v with
  |inl t =>
   have e0:bG (d,.inl t)=.tup [.int d,.str t]:=rfl
   rw[e0]
   have f9:=L.1
   have ht:=L.2
   have g9:=dM d
   refine bH ?_
   lk
   exists _,_,_,_,rfl,rfl,PG K,?_
   lk
   exists l0,rfl,#v[_,V],?_
   lk
   exists _,_,rfl,rfl,by lia,by lia,by lia,by lia,?_
   lk
   have e1:iK (Aa "  ") ((d:Nat):Int).toNat=ind d:=rfl
   rw[e1]
   refine aE (by lia) ?_
   exists _,V,aT (by rw[Ab];lia),?_
   exists (wt'.map wI).sum,by rw[hn];simp only[wI];lia,J++[ind d++t],wt',_,_,rfl,by rw[FB,Ai];rfl,by rw[aC b4.symm];exact Z,?_,rfl,?_,?_,b5,b8 x6 f0
   ·rw[<- I,Az];rfl
   ·rw[Ae,List.length_singleton]
    have:wI (d,.inl t)=1:=rfl
    lia
   ·intro y hy
    rcases Aq.mp hy with hy|hy
    ·exact b2 y hy
    ·rw[Al.mp hy,aQ];lia
  |inr s =>
   have e0:bG (d,.inr s)=.tup [.int d,stD s]:=rfl
   rw[e0]
   let ⟨f8,es⟩:=LL s
   refine bH ?_
   lk
   exists stD s,"tuple",_,_,rfl,by rw[es];rfl,PH K,?_
   lk
   exists d,s,rfl,L.1.h,λq7 M7 b1 h7 x7=>?_
   have e8:=x7 _ _ Z
   have f4:=x7 _ _ V
   have f5:=b6 x6 x7
   have f7:=bT x6 b1
   have nw:q7≠S:=λz=>by rw[z,Z]at b1;cases b1
   have nl:q7≠l0:=λz=>by rw[z,V]at b1;cases b1
   have g2:=WH d s
   have g5:(ptI d s).length<=((ptI d s).map wI).sum:=by
    generalize ptI d s=l
    induction l with
    |nil=>exact Ao _
    |cons y r ih =>
     rw[Ah,Au,Dk]
     have:1<=wI y:=by
      let ⟨e,v⟩:=y
      cases v with
      |inl t=>exact Ao _
      |inr s=>show 1<=wS s;cases s<;>simp only[wS]<;>lia
     lia
   have f6:wI (d,.inr s)=wS s:=rfl
   have g1:wt'.length<=(wt'.map wI).sum:=by
    generalize wt'=l
    induction l with
    |nil=>exact Ao _
    |cons y r ih =>
     rw[Ah,Au,Dk]
     have:1<=wI y:=by
      let ⟨e,v⟩:=y
      cases v with
      |inl t=>exact Ao _
      |inr s=>show 1<=wS s;cases s<;>simp only[wS]<;>lia
     lia
   lk
   exists q7,_,rfl,h7,?_
   repeat first|k_go|refine bH ?_
   exists S,rfl,#v[_,by rw[aC nw.symm];exact e8],?_
   lk
   exists q7,_,_,rfl,by rw[aC nw.symm];exact e8,FB,small (by rw[Ab,Eb,Ab];lia),?_
   exists (wt'.map wI).sum+((ptI d s).map wI).sum,by rw[hn];lia,J,wt'++(ptI d s).reverse,_,_,rfl,by rw[aC b4,aC nl.symm];exact f4,by rw[FB,Ai,D6],?_,?_,by lia,b2,?_,b8 (b8 f5 f7) fw
   ·rw[<- I,Ec,List.reverse_reverse,C8,UF]
    rfl
   ·rw[Ai,Eh,D6,List.sum_reverse]
   ·intro y hy
    rcases Aq.mp hy with hy|hy
    ·exact b5 y hy
    ·exact UE L.1 L.2 y (List.mem_reverse.mp hy)
 ·intro hz
  have f2:O=[]:=by
   cases O with
   |nil=>rfl
   |cons x y=>exact absurd (by rw[Ah];lia) hz
  subst f2
  have I:J=hdP ss rs++lnB 0 b:=by simpa using I
  walk
  exists _,rfl,?_
  lk
  exists l0,J,rfl,hl,?_,?_
  ·have h1:=iD J b2
   have e9:(Aa "\n").length=1:=by lia
   rw[e9]
   have:J.length*60100<=130*60100:=Cb _ e7
   lia
  ·rw[I]
   exact q M' hx
end
inductive spLJoin(ds:List D)(M:MH)(Q:DK):Prop|mk:∀ ts w,ds=[trm ts,.int w]->TOk ts w->(∀ M',Ext M M'->Q (.str (nU ts w)) M')->spLJoin ds M Q
def fPl:D->D
 |.tup [.str n,.int k]=>.tup [.int k,.str (Aa " "++n)]
 |d=>d
theorem LM(ts:List (Str×Int)):((ts.map KA.tD).filter λ_=>true).map fPl=(ts.map λt=>(t.2,Aa " "++t.1)).map ptD:=by
 rw[B9.mpr (by simp),By,By]
 rfl
theorem WQ(i:Int):(if i<0 then -i else i)=((i.natAbs:Nat):Int):=by split<;>lia
theorem WR(xs:List D):D3.cK xs (some 1) none=xs.drop 1:=by
 unfold D3.cK
 rw[HT.gN]
 have:HT.sIx xs.length 0 (some 1)=min 1 xs.length:=HT.fH ..
 rw[this]
 cases xs with
 |nil=>rfl
 |cons d r=>simp
section
variable {P:Program}{w:World}{K:Ad}{base:Heap}{f:Addr}
local macro_rules | `(tactic| tm_at $s:str)=>bJ n_bv s
theorem ok_l_joined(F:Fun K "_law_joined" "_law_joined" s_bv f fd)(h_len:mg "len"=none)(h_str:mg "str"=none)(h_abs:mg "abs"=none)(h_int:mg "int"=none):F8 P w K mg base CX0 1 f fd P_bv (aD K spLJoin):=by
 tm_at "F bv"
 let ⟨ts,S,rfl,hk,q⟩:=h
 have hl:=hk.len
 refine aA ?_
 with_reducible refine' lR 2 (own:=["_law_name", "_law_weight"]) (js:=[]) (N:=["_law_name", "_law_weight"]) (cl:=[]) ?T ?xe ?ca ?hN ?hj ?hy ?hyf ?hsw fPl (λ_=>true) ?_ ?hs
 case T=>exact cA (by lia) (by lia) rfl (by lia) rfl
 case xe=>rfl
 case ca=>rfl
 case hN=>exact nd
 case hj=>rfl
 case hy=>first|exact Bh rfl|exact D0 rfl
 case hyf=>exact .inl rfl
 case hsw=>rfl
 case hs=>(intro _;rfl)
 lk
 exists _,rfl,small (by rw[Ab];lia),?_,λp0 hp0=>?_
 ·rintro Y ⟨C',s',H',fp,rfl⟩ M' hM d hd
  let ⟨t,ht,rfl⟩:=A5.mp hd
  have b3:(["_law_name", "_law_weight"]:List Str).Nodup:=by lia
  refine nC rfl ?_
  refine dH ?_
  refine bC 0 b3 ?_
  refine dH ?_
  refine bC 1 b3 ?_
  refine jM ?_
  exists rfl,λi d e=>by rcases i with _|_|i<;>simp[aN]at e,cW #v[rfl,rfl],λ_=>?_
  repeat first|(refine aP 0 ?_)|(refine aP 1 ?_)|k_go
  refine aE (by rw[(hk.wt t ht).2.2.1];lia) ?_
  lk
  exact #v[rfl,rfl]
 rw[LM]
 refine bS (λG' M'=>∃ I,G'=[some (trm ts),some (.int S),some (.ref I),none,none,none]/\M' I=some (.lst ((gI ts S).map ptD))/\Ext M M') ?_ ?_
 ·have b4:S≠0\/ts=[]->∀ I V,FF M p0 (.lst ((ts.map λt=>(t.2,Aa " "++t.1)).map ptD)) I=none->FF (FF M p0 (.lst ((ts.map λt=>(t.2,Aa " "++t.1)).map ptD))) I (.lst [.tup [.int S,.str ""]]) V=none->(FF (FF (FF M p0 (.lst ((ts.map λt=>(t.2,Aa " "++t.1)).map ptD))) I (.lst [.tup [.int S,.str ""]])) V (.lst ((ts.map λt=>(t.2,Aa " "++t.1)).map ptD++[.tup [.int S,.str ""]]))) V=some (.lst ((gI ts S).map ptD))/\Ext M (FF (FF (FF M p0 (.lst ((ts.map λt=>(t.2,Aa " "++t.1)).map ptD))) I (.lst [.tup [.int S,.str ""]])) V (.lst ((ts.map λt=>(t.2,Aa " "++t.1)).map ptD++[.tup [.int S,.str ""]]))):=λhc I V h1 h2=>by
   exists ?_,b6 (aB hp0) (b6 (aB h1) (aB h2))
   rw[FB]
   unfold gI
   rw[if_pos hc,Ai]
   rfl
  lk
  refine ifN ?_ ?_
  ·intro hw
   refine ifT ?_
   lk
   intro I J
   refine gQ (aJ J FB) FB (by rw[Ab,Ab];exact small (by show _+1<=1000;lia)) λV b2=>?_
   lk
   let ⟨g1,g2⟩:=b4 (.inl hw) I V J b2
   exact #v[V,rfl,g1,g2]
  ·intro hw
   refine vR ?_
   lk
   refine wK hk.imm (Ay (pX ts) (by decide)) ?_
   refine ifD ?_ ?_
   ·intro h0
    have h0:ts=[]:=Ed.mp h0
    lk
    intro I J
    refine gQ (aJ J FB) FB (by rw[Ab,Ab];exact small (by show _+1<=1000;lia)) λV b2=>?_
    lk
    let ⟨g1,g2⟩:=b4 (.inr h0) I V J b2
    exact #v[V,rfl,g1,g2]
   ·intro h0
    lk
    exists p0,rfl,?_,aB hp0
    rw[FB]
    unfold gI
    rw[if_neg (λz=>z.elim (λy=>y hw) λy=>h0 (by rw[y];rfl)),A7]
 rintro G1 M1 ⟨p0,rfl,h1,e1⟩
 have O:=hk.pts
 generalize hL:gI ts S=L at h1 O
 have hq:nU ts S=JU L:=by rw[<- hL];rfl
 rw[hq]at q
 clear hL hq
 obtain ⟨p,r,rfl⟩:∃ p r,L=p::r:=by
  cases L with
  |nil=>exact absurd rfl O.ne
  |cons p r=>exact #v[p,r,rfl]
 have Z:=O.ok p (Aj ..)
 have d6:=O.len
 rw[Ah]at d6
 walk
 refine aF (d:=.tup [.int p.1,.str p.2]) h1 (aX (j:=0) rfl) ?_
 lk
 exists fB Z.1 (by decide),?_
 lk
 refine aF (d:=.tup [.int p.1,.str p.2]) h1 (aX (j:=0) rfl) ?_
 lk
 have hn:=dA Z.1 (by decide)
 refine aE (x:=nT p.1) (by lia) ?_
 lk
 refine aA ?_
 with_reducible refine' dC ?n0 ?n1 ?_ ?n2
 case n0=>exact PassesOwn.never
 case n1=>rfl
 case n2=>(intro _;rfl)
 refine bB bN ?_
 lk
 refine bE ?_
 lk
 refine bO ?_
 refine bP rfl (Bh h1) λI J=>?_
 rw[WR,Au,C7,D4]
 have e2:Ext M (FF M1 I (.lst (r.map ptD))):=b6 e1 (aB J)
 have h2:FF M1 I (.lst (r.map ptD)) I=some (.lst (r.map ptD)):=FB
 generalize FF M1 I (.lst (r.map ptD))=M2 at e2 h2 ⊢
 clear J h1 e1
 exists I,r.map ptD,λi G' M'=>∃ r4 r5:Option D,G'=[some (trm ts),some (.int S),some (.ref p0),some (.str (onT (nT p.1++p.2) (r.take i))),r4,r5]/\M' I=some (.lst (r.map ptD))/\Ext M M',rfl,Bh h2,#v[none,none,rfl,h2,e2],?_,?_,?_
 ·rintro i G' M' hi ⟨r4,r5,rfl,h,_⟩
  rw[h,h2]
 ·rintro i d G' M' hd ⟨r4,r5,rfl,hm,b1⟩
  rw[Ar]at hd
  cases hri:r[i]? with
  |none=>rw[hri]at hd;cases hd
  |some x =>
   rw[hri]at hd
   have hd:D.tup [.int x.1,.str x.2]=d:=by simpa [ptD] using hd
   subst hd
   have hx:=O.ok x (Ak _ (Bf hri))
   have e8:=O.nz x (by simpa using Bf hri)
   have bx:Bd x.1 64:=#v[hx.1]
   have d9:i<r.length:=(Ax.mp hri).1
   have b5:=mN (r.take i) (nT p.1++p.2) λy hy=>O.ok y (Ak _ (C3 hy))
   have h5:(r.take i).length*1926<=5*1926:=Cb _ (by rw[Bt];lia)
   rw[aQ]at b5
   have d7:(sgT x.1).length=3:=by unfold sgT;split<;>lia
   have e7:(nT ((x.1.natAbs:Nat):Int)).length<=1921:=dA (n:=64) (by show ((x.1.natAbs:Nat):Int).natAbs<2^64;rw[Du];exact hx.1) (by decide)
   have htk:r.take (i+1)=r.take i++[x]:=by rw[Cm,hri];rfl
   generalize hT:onT (nT p.1++p.2) (r.take i)=T at b5 ⊢
   refine nC rfl ?_
   refine dH ?_
   refine bC 4 nd ?_
   try (refine fK ?_;intro EL)
   refine dH ?_
   refine bC 5 nd ?_
   try (refine fK ?_;intro EL)
   refine jM ?_
   refine fK ?_
   intro EL
   refine bH ?_
   lk
   intro p3 b7
   lk
   refine .inr #v[_,rfl,?_]
   refine aF (d:=.str (sgT x.1)) FB ?_ ?_
   ·by_cases hc:x.1<0
    ·have z:sgT x.1=Aa " - ":= if_neg (by lia)
     rw[decide_eq_true hc,z];rfl
    ·have z:sgT x.1=Aa " + ":= if_pos (by lia)
     rw[decide_eq_false hc,z];rfl
   refine aE (by lia) ?_
   lk
   rw[WQ]
   exists fB (n:=64) (by show ((x.1.natAbs:Nat):Int).natAbs<2^64;rw[Du];exact hx.1) (by decide),?_
   refine aE (y:=nT ((x.1.natAbs:Nat):Int)) (by rw[aQ];lia) ?_
   lk
   have d8:=hx.2
   refine aE (by rw[aQ,aQ];lia) ?_
   lk
   exact #v[_,_,by rw[htk,nS,hT];rfl,aJ b7 hm,b6 b1 (aB b7)]
 ·rintro G' M' ⟨r4,r5,rfl,_,b1⟩
  rw[Ab,Bx]
  lk
  exact q _ b1
end
inductive spLSum(ds:List D)(M:MH)(Q:DK):Prop|mk:∀ s,ds=[smD s]->SOk s->(∀ M',Ext M M'->Q (.str (jY s)) M')->spLSum ds M Q
inductive spLRows(ds:List D)(M:MH)(Q:DK):Prop|mk:∀(rs:List Rw) (d:D),ds=[d]->(d=.tup (rs.map rwD)\/∃ l,d=.ref l/\M l=some (.lst (rs.map rwD)))->RsOk5 rs->(∀ M',Ext M M'->Q (.str (iO rs)) M')->spLRows ds M Q
def sgL(k:Bool):Str:=if k then " >= " else " > "
theorem QV(r:Rw):nU r.2.1 0++sgL r.1++nT r.2.2=bV r:=by
 unfold bV sgL kZ
 have e1:Aa " "++(Aa ">="++Aa " ")=Aa " >= ":= by lia
 have e2:Aa " "++(Aa ">"++Aa " ")=Aa " > ":= by lia
 cases r.1
 ·rw[if_neg (by decide),if_neg (by decide),<- e2];simp only[fA]
 ·rw[if_pos rfl,if_pos rfl,<- e1];simp only[fA]
section
variable {P:Program}{w:World}{K:Ad}{base:Heap}{f:Addr}
local macro_rules | `(tactic| tm_at $s:str)=>bJ n_bw s
theorem ok_l_sum_line(F:Fun K "_law_sum_line" "_law_sum_line" s_bw f fd)(h_str:mg "str"=none)(C_l_joined:Cal P w K mg base 1 "_law_joined" spLJoin):F8 P w K mg base CX0 2 f fd P_bw (aD K spLSum):=by
 tm_at "F bw"
 let ⟨s,rfl,hk,q⟩:=h
 have e0:smD s=.tup [trm s.1,.int s.2.1,.int s.2.2]:=rfl
 rw[e0]
 have h1:=hk.1.al
 have h4:(Aa " over ").length=6:=by lia
 have h2:=dA hk.2.2 (by decide)
 have J:=hk.2.1
 refine aA ?_
 lk
 refine ifD ?_ ?_
 ·intro L
  lk
  exists s.1,s.2.1,rfl,hk.1,λI e1=>?_
  have q:=q I e1
  unfold jY at q
  rw[if_neg (by lia)]at q
  exact q
 ·intro L
  walk
  exists s.1,s.2.1,rfl,hk.1,λI e1=>?_
  lk
  refine aE (by lia) ?_
  lk
  exists fB hk.2.2 (by decide),?_
  refine aE (y:=nT s.2.2) (by rw[aQ];lia) ?_
  have q:=q I e1
  unfold jY at q
  rw[if_pos (by lia)]at q
  exact q
local macro_rules | `(tactic| tm_at $s:str)=>bJ n_bx s
local macro_rules | `(tactic| tm_at "bd")=>`(tactic| (
 rw[Ar]at hd
 cases hri:rs[i]? with
 |none=>rw[hri]at hd;cases hd
 |some r =>
  rw[hri]at hd
  have hd:rwD r=d:=by simpa using hd
  subst hd
  have e0:rwD r=.tup [.str (word r.1),trm r.2.1,.int r.2.2]:=rfl
  rw[e0]
  have hrk:=hk.1 r (Bf hri)
  have a1:=hrk.1.al
  have a2:=dA hrk.2 (by decide)
  have a3:(sgL r.1).length<=4:=by unfold sgL;split<;>lia
  have htk:rs.take (i+1)=rs.take i++[r]:=by rw[Cm,hri];rfl
  refine bC 2 nd ?_
  try (refine fK ?_;intro EL)
  refine fK ?_
  intro EL
  refine bH ?_
  lk
  exists p0,rfl,#v[_,hm],?_
  lk
  exists r.2.1,0,rfl,hrk.1,λM4 e4=>?_
  lk
  intro p5 hp5
  lk
  refine .inr #v[_,rfl,?_]
  refine aF (d:=.str (sgL r.1)) FB ?_ ?_
  ·cases hw:r.1
   ·have z:decide (word false=Aa "least")=false:=by lia
    rw[z];rfl
   ·have z:decide (word true=Aa "least")=true:=by lia
    rw[z];rfl
  refine aE (by lia) ?_
  lk
  exists fB hrk.2 (by decide),?_
  refine aE (y:=nT r.2.2) (by rw[aQ];lia) ?_
  rw[QV]
  exists _,aJ hp5 (e4 _ _ hm),aT (by rw[Ab,Ab,Bt];lia),?_
  exact #v[_,rfl,by rw[FB,htk,Ai,Ai];rfl,b8 (b6 hx (b6 e4 (aB hp5))) hp0]))
local macro_rules | `(tactic| tm_at "ed")=>`(tactic| (
 rw[Ab,Bx]at hm
 lk
 exists _,rfl,?_
 lk
 exists p0,rs.map bV,rfl,hm,?_,q _ hx
 have h1:=iD (rs.map bV) hk.mem
 have h2:(Aa " and ").length=5:=by lia
 rw[Ab]at h1 ⊢
 rw[h2]
 have h4:rs.length*14000<=3*14000:=Cb _ hl
 lia))
theorem ok_l_rows_line(F:Fun K "_law_rows_line" "_law_rows_line" s_bx f fd)(h_str:mg "str"=none)(h_int:mg "int"=none)(C_l_joined:Cal P w K mg base 1 "_law_joined" spLJoin):F8 P w K mg base CX0 2 f fd P_bx (aD K spLRows):=by
 tm_at "F bx"
 let ⟨rs,S,rfl,O,hk,q⟩:=h
 have hl:=hk.2
 refine aA ?_
 lk
 intro p0 hp0
 rcases O with rfl|⟨l,rfl,L⟩
 ·refine aA ?_
  with_reducible refine' gB ?n0 ?n1 ?_ ?n2
  case n0=>exact PassesOwn.never
  case n1=>rfl
  case n2=>(intro _;rfl)
  lk
  exists rs.map rwD,λi I M'=>∃ J:Option D,I=[some (.tup (rs.map rwD)),some (.ref p0),J]/\M' p0=some (.lst (((rs.take i).map bV).map D.str))/\Ext M M',rfl,#v[none,rfl,FB,aB hp0],?_,?_
  ·rintro i d I M' hd ⟨J,rfl,hm,hx⟩
   tm_at "bd"
  ·rintro I M' ⟨J,rfl,hm,hx⟩
   tm_at "ed"
 ·refine aA ?_
  with_reducible refine' dC ?n0 ?n1 ?_ ?n2
  case n0=>exact PassesOwn.never
  case n1=>rfl
  case n2=>(intro _;rfl)
  lk
  exists l,rs.map rwD,λi I M'=>∃ J:Option D,I=[some (.ref l),some (.ref p0),J]/\M' p0=some (.lst (((rs.take i).map bV).map D.str))/\Ext M M',rfl,Bh (aJ hp0 L),#v[none,rfl,FB,aB hp0],?_,?_,?_
  ·rintro i I M' V ⟨J,rfl,hm,hx⟩
   rw[aJ hp0 L]
   exact hx _ _ L
  ·rintro i d I M' hd ⟨J,rfl,hm,hx⟩
   tm_at "bd"
  ·rintro I M' ⟨J,rfl,hm,hx⟩
   tm_at "ed"
local macro_rules | `(tactic| tm_at $s:str)=>bJ n_bz s
theorem ok_l_lines(hk:1<=k)(F:Fun K "_law_lines" "_law_lines" s_bz f fd)(hC:0<n->Cal P w K mg base k "_law_lines_of" (spLnS n)):F8 P w K mg base CX0 (k+1) f fd P_bz (aD K (spLnB n)):=by
 tm_at "F bz"
 let ⟨b,d,rfl,hg,b1,J,hw,q⟩:=h
 refine aA ?_
 lk
 intro p0 hp0
 refine aA ?_
 with_reducible refine' gB ?n0 ?n1 ?_ ?n2
 case n0=>exact PassesOwn.never
 case n1=>rfl
 case n2=>(intro _;rfl)
 lk
 exists aO b,λi V M'=>∃(p:Addr) (L:Option D),V=[some (.tup (aO b)),some (.str (ind d)),some (.ref p),L]/\M p=none/\M' p=some (.lst ((lnB d (b.take i)).map D.str))/\Ext M M',rfl,#v[p0,none,rfl,hp0,by rw[FB,Fg];simp only[lnB,Bq],aB hp0],?_,?_
 ·rintro i v V M' I ⟨p,L,rfl,hp,hm,hx⟩
  rw[cS,Ar]at I
  cases hbi:b[i]? with
  |none=>rw[hbi]at I;cases I
  |some s =>
   rw[hbi]at I
   have I:stD s=v:=by simpa using I
   subst I
   have hs:=Bf hbi
   have h1:=mP s hs
   have h2:1<=dp s:=by cases s<;>simp only[dp]<;>lia
   have C_l_lines_of:=hC (by lia)
   have htk:b.take (i+1)=b.take i++[s]:=by rw[Cm,hbi];rfl
   have S:wB (b.take i++[s])<=wB b:=by rw[<- htk];exact JW b (i+1)
   have Y:∀ l:List Stm,wB (l++[s])=wB l+wS s:=by
    intro l
    induction l with
    |nil=>simp[wB]
    |cons t r ih=>simp only[A3,wB,ih];lia
   rw[Y]at S
   have b3:=cN d (b.take i)
   have b4:=kC d s
   refine bC 3 nd ?_
   try (refine fK ?_;intro EL)
   refine fK ?_
   intro EL
   refine bH ?_
   lk
   exists s,d,rfl,mO hg s hs,by lia,J,by lia,λq1 M1 b2 h1 O=>?_
   refine eI (O _ _ hm) h1 (zs:=(lnB d (b.take i)++lnS d s).map D.str) (by rw[Ai]) (by rw[Ab,Ae];lia) λp2 M2 Z h2 x2=>?_
   lk
   exact #v[p2,_,rfl,bT (b6 hx O) Z,by rw[h2,htk,uC],b6 hx (b6 O x2)]
 ·rintro V M' ⟨p,L,rfl,hp,hm,hx⟩
  have e:(aO b).length=b.length:=by rw[cS,Ab]
  rw[e,Bx]at hm
  lk
  exact q p M' hp hm hx
end
theorem uY(r:Rw):iO [r]=bV r:=KA.EQ _ _
theorem uZ(h:ROk r):RsOk5 [r]:=#v[λx hx=>by rw[Al.mp hx];exact h,by simp]
section
variable {P:Program}{w:World}{K:Ad}{base:Heap}{f:Addr}
local macro_rules | `(tactic| tm_at $s:str)=>bJ n_ca s
local macro_rules | `(tactic| tm_at "go")=>`(tactic| repeat first | tm_at "d" |refine cF rfl ?_|refine bZ (by decide) ?_|refine aA ?_)
theorem ok_l_lines_of(hk:2<=k)(F:Fun K "_law_lines_of" "_law_lines_of" s_ca f fd)(h_str:mg "str"=none)(C_l_sum_line:Cal P w K mg base 2 "_law_sum_line" spLSum)(C_l_rows_line:Cal P w K mg base 2 "_law_rows_line" spLRows)(C_l_lines:Cal P w K mg base k "_law_lines" (spLnB n)):F8 P w K mg base CX0 (k+1) f fd P_ca (aD K (spLnS (n+1))):=by
 tm_at "F ca"
 let ⟨s,d,rfl,hg,b2,d7,hw,q⟩:=h
 have hi:=dM d
 have f2:=dM (d+1)
 have e1:(Aa "set ").length=4:=by lia
 have e2:(Aa " = ").length=3:=by lia
 have e3:(Aa "any ").length=4:=by lia
 have e4:(Aa "note ").length=5:=by lia
 have e5:(Aa "  ").length=2:=by lia
 have e6:(Aa "choose").length=6:=by lia
 have e7:(Aa "or").length=2:=by lia
 have e8:(Aa "end").length=3:=by lia
 have e9:(Aa "if ").length=3:=by lia
 have f4:(Aa "else").length=4:=by lia
 have f6:(Aa "while ").length=6:=by lia
 have d8:(Aa "keep ").length=5:=by lia
 have f5:(Aa "fall ").length=5:=by lia
 have f3:(Aa " by ").length=4:=by lia
 cases s with
 |set x s =>
  have e0:stD (.set x s)=.tup [.str "set",.str x,smD s]:=by simp only[stD]
  rw[e0]
  have Z:=hg.h
  have h1:=Z.2.al
  have h2:=Z.1
  refine aA ?_
  tm_at "go"
  refine aE (by lia) ?_
  lk
  refine aE (by rw[aQ];lia) ?_
  lk
  refine aE (by rw[aQ,aQ];lia) ?_
  lk
  exists s,rfl,Z.2,λM1 x1=>?_
  refine aE (by rw[aQ,aQ,aQ];lia) ?_
  lk
  intro p hp
  refine q p _ (bT x1 hp) ?_ (b6 x1 (aB hp))
  rw[FB]
  simp only[lnS,fS,fA,Au,Bq]
 |any x =>
  have e0:stD (.any x)=.tup [.str "any",.str x]:=by simp only[stD]
  rw[e0]
  have h2:x.length=1:=hg.h
  refine aA ?_
  tm_at "go"
  refine aE (by lia) ?_
  lk
  refine aE (by rw[aQ];lia) ?_
  lk
  intro p hp
  refine q p _ hp ?_ (aB hp)
  rw[FB]
  simp only[lnS,fS,fA,Au,Bq]
 |note rs =>
  have e0:stD (.note rs)=.tup [.str "note",.tup (rs.map rwD)]:=by simp only[stD]
  rw[e0]
  have Z:RsOk5 rs:=hg.h
  have h1:=Z.al
  refine aA ?_
  tm_at "go"
  refine aE (by lia) ?_
  lk
  exists rs,_,rfl,.inl rfl,Z,λM1 x1=>?_
  refine aE (by rw[aQ];lia) ?_
  lk
  intro p hp
  refine q p _ (bT x1 hp) ?_ (b6 x1 (aB hp))
  rw[FB]
  simp only[lnS,fS,fA,Au,Bq]
 |choose a b =>
  have e0:stD (.choose a b)=.tup [.str "choose",.tup (aO a),.tup (aO b)]:=by simp only[stD]
  rw[e0]
  simp only[gdS]at hg
  simp only[dp]at b2
  simp only[wS]at hw
  have la:=cN (d+1) a
  have lb:=cN (d+1) b
  refine aA ?_
  tm_at "go"
  refine aE (by lia) ?_
  rw[nY]
  tm_at "go"
  refine aE (by lia) ?_
  lk
  intro Y I
  lk
  exists a,d+1,rfl,hg.2.1,by lia,by lia,by lia,λq2 M2 b3 h2 x2=>?_
  have y2:=b6 (aB (o:=.lst [.str (ind d++Aa "choose")]) I) x2
  refine eI (x2 _ _ FB) h2 (zs:=((ind d++Aa "choose")::lnB (d+1) a).map D.str) rfl (by rw[Ab,Ah];lia) λp3 M3 b4 h3 x3=>?_
  lk
  refine aE (by lia) ?_
  lk
  intro p4 O
  have y4:=b6 y2 (b6 x3 (aB (o:=.lst [.str (ind d++Aa "or")]) O))
  refine eI (aJ O h3) FB (zs:=((ind d++Aa "choose")::lnB (d+1) a++[ind d++Aa "or"]).map D.str) (by rw[Ai];rfl) (by rw[Ab,Ae,Ah];show _+1+1<=_;lia) λp5 M5 hp5 h5 x5=>?_
  have y5:=b6 y4 x5
  clear y4 x5 O hp5 x3 b4 h3 y2 x2 h2 b3 I
  lk
  exists b,d+1,rfl,hg.2.2,by lia,by lia,by lia,λq6 M6 d6 h6 x6=>?_
  refine eI (x6 _ _ h5) h6 (zs:=((ind d++Aa "choose")::lnB (d+1) a++[ind d++Aa "or"]++lnB (d+1) b).map D.str) (by rw[<- Ai]) (by rw[Ab,Ae,Ae,Ah];show _+1+1+_<=_;lia) λp7 M7 b7 h7 x7=>?_
  lk
  refine aE (by lia) ?_
  lk
  intro p8 J
  have y8:=b6 y5 (b6 x6 (b6 x7 (aB (o:=.lst [.str (ind d++Aa "end")]) J)))
  refine eI (aJ J h7) FB (zs:=(lnS d (.choose a b)).map D.str) (by simp[lnS]) (by have:=kC d (.choose a b);simp only[wS]at this;rw[Ab];lia) λp9 M9 S h9 x9=>?_
  exact q p9 M9 (bT y8 S) h9 (b6 y8 x9)
 |ite r a b =>
  have e0:stD (.ite r a b)=.tup [.str "if",rwD r,.tup (aO a),.tup (aO b)]:=by simp only[stD]
  rw[e0]
  simp only[gdS]at hg
  simp only[dp]at b2
  simp only[wS]at hw
  have la:=cN (d+1) a
  have lb:=cN (d+1) b
  have ar:=hg.1.1.al
  refine aA ?_
  tm_at "go"
  refine aE (by lia) ?_
  rw[nY]
  tm_at "go"
  refine aE (by lia) ?_
  lk
  intro p0 hp0
  lk
  exists [r],_,rfl,.inr #v[p0,rfl,FB],uZ hg.1.1,λM0 x0=>?_
  rw[uY]
  refine aE (by rw[aQ];lia) ?_
  lk
  intro Y I
  have y1:=b6 (aB (o:=.lst [rwD r]) hp0) (b6 x0 (aB (o:=.lst [.str (ind d++Aa "if "++bV r)]) I))
  lk
  exists a,d+1,rfl,hg.2.1,by lia,by lia,by lia,λq2 M2 b3 h2 x2=>?_
  have y2:=b6 y1 x2
  refine eI (x2 _ _ FB) h2 (zs:=((ind d++Aa "if "++bV r)::lnB (d+1) a).map D.str) rfl (by rw[Ab,Ah];lia) λp3 M3 b4 h3 x3=>?_
  have y3:=b6 y2 x3
  clear y2 x3 b4 x2 h2 b3 y1 I x0 hp0
  lk
  refine aE (by lia) ?_
  lk
  intro p4 O
  have y4:=b6 y3 (aB (o:=.lst [.str (ind d++Aa "else")]) O)
  refine eI (aJ O h3) FB (zs:=((ind d++Aa "if "++bV r)::lnB (d+1) a++[ind d++Aa "else"]).map D.str) (by rw[Ai];rfl) (by rw[Ab,Ae,Ah];show _+1+1<=_;lia) λp5 M5 hp5 h5 x5=>?_
  have y5:=b6 y4 x5
  clear y4 x5 O hp5 y3 h3
  lk
  exists b,d+1,rfl,hg.2.2,by lia,by lia,by lia,λq6 M6 d6 h6 x6=>?_
  refine eI (x6 _ _ h5) h6 (zs:=((ind d++Aa "if "++bV r)::lnB (d+1) a++[ind d++Aa "else"]++lnB (d+1) b).map D.str) (by rw[<- Ai]) (by rw[Ab,Ae,Ae,Ah];show _+1+1+_<=_;lia) λp7 M7 b7 h7 x7=>?_
  lk
  refine aE (by lia) ?_
  lk
  intro p8 J
  have y8:=b6 y5 (b6 x6 (b6 x7 (aB (o:=.lst [.str (ind d++Aa "end")]) J)))
  refine eI (aJ J h7) FB (zs:=(lnS d (.ite r a b)).map D.str) (by simp[lnS,fA]) (by have:=kC d (.ite r a b);simp only[wS]at this;rw[Ab];lia) λp9 M9 S h9 x9=>?_
  exact q p9 M9 (bT y8 S) h9 (b6 y8 x9)
 |whl r rs m b =>
  have e0:stD (.whl r rs m b)=.tup [.str "while",rwD r,.tup (rs.map rwD),msD m,.tup (aO b)]:=by simp only[stD]
  rw[e0]
  simp only[gdS]at hg
  simp only[dp]at b2
  simp only[wS]at hw
  let ⟨b5,V,hm,hb⟩:=(show ROk r/\RsOk5 rs/\(∀ x,m=some x->SOk x.1/\B 65 x.2)/\b.length<=100 from hg.1)
  have lb:=cN (d+1) b
  have ar:=b5.al
  have d9:=V.al
  have lk:=lB rs
  have lf:=qH m
  refine aA ?_
  tm_at "go"
  refine aE (by lia) ?_
  rw[nY]
  tm_at "go"
  refine aE (by lia) ?_
  lk
  intro p0 hp0
  lk
  exists [r],_,rfl,.inr #v[p0,rfl,FB],uZ b5,λM0 x0=>?_
  rw[uY]
  refine aE (by rw[aQ];lia) ?_
  lk
  intro Y I
  have y0:=b6 (aB (o:=.lst [rwD r]) hp0) x0
  have f1:=bT y0 I
  have y1:=b6 y0 (aB (o:=.lst [.str (ind d++Aa "while "++bV r)]) I)
  have h1:FF M0 Y (.lst [.str (ind d++Aa "while "++bV r)]) Y=some (.lst ([ind d++Aa "while "++bV r].map D.str)):=FB
  generalize FF M0 Y (.lst [.str (ind d++Aa "while "++bV r)])=M1 at h1 y1 ⊢
  clear y0 I x0 hp0
  lk
  refine bS (λG' M'=>G'=[some (.tup [.str "while",rwD r,.tup (rs.map rwD),msD m,.tup (aO b)]),some (.str (ind d)),some (.str (ind (d+1))),some (.ref Y)]/\M' Y=some (.lst (([ind d++Aa "while "++bV r]++(fD rs).map λt=>ind (d+1)++t).map D.str))/\Ext M M') ?_ ?_
  ·lk
   refine wK V.imm (EW rs) ?_
   refine ifN ?_ ?_
   ·intro hc
    have b1:rs≠[]:=λz=>hc (by rw[z];rfl)
    lk
    exists Y,rfl,#v[_,h1],?_
    lk
    refine aE (by lia) ?_
    lk
    exists rs,_,rfl,.inl rfl,V,λM2 x2=>?_
    refine aE (by rw[aQ];lia) ?_
    exists _,x2 _ _ h1,aT (by simp),?_
    exists rfl,?_,b8 (b6 y1 x2) f1
    unfold fD
    rw[FB,if_neg b1]
    simp only[fA,Au,Bq,A3,A2]
   ·intro hc
    have b1:rs=[]:=Ed.mp hc
    lk
    exists rfl,?_,y1
    unfold fD
    rw[if_pos b1]
    exact h1
  clear h1 y1
  rintro G2 M2 ⟨rfl,h2,y2⟩
  have hL:([ind d++Aa "while "++bV r]++(fD rs).map λt=>ind (d+1)++t).length<=2:=by
   rw[Ae,Ab];show 1+_<=2;lia
  generalize hLe:([ind d++Aa "while "++bV r]++(fD rs).map λt=>ind (d+1)++t)=L at h2 hL
  lk
  refine bS (λG' M'=>G'=[some (.tup [.str "while",rwD r,.tup (rs.map rwD),msD m,.tup (aO b)]),some (.str (ind d)),some (.str (ind (d+1))),some (.ref Y)]/\M' Y=some (.lst ((L++(nX m).map λt=>ind (d+1)++t).map D.str))/\Ext M M') ?_ ?_
  ·cases m with
   |none =>
    have e1:msD none=.non:=rfl
    rw[e1]
    lk
    exists rfl,?_,y2
    show _=some (MO.lst ((L++[]).map D.str))
    rw[A7]
    exact h2
   |some y =>
    let ⟨hs,hy⟩:=hm y rfl
    have e1:msD (some y)=.tup [smD y.1,.int y.2]:=rfl
    rw[e1]
    have a3:=hs.al
    have a4:=dA hy (by decide)
    lk
    exists Y,rfl,#v[_,h2],?_
    lk
    refine aE (by lia) ?_
    lk
    exists y.1,rfl,hs,λM3 x3=>?_
    refine aE (by rw[aQ];lia) ?_
    lk
    refine aE (by rw[aQ,aQ];lia) ?_
    lk
    exists fB hy (by decide),?_
    refine aE (y:=nT y.2) (by rw[aQ,aQ,aQ];lia) ?_
    exists _,x3 _ _ h2,aT (by rw[Ab];lia),?_
    exists rfl,?_,b8 (b6 y2 x3) f1
    rw[FB,Ai]
    simp only[nX,fA,Au,Bq]
  clear h2 y2
  rintro G3 M3 ⟨rfl,h3,y3⟩
  lk
  exists b,d+1,rfl,hg.2,by lia,by lia,by lia,λq6 M6 d6 h6 x6=>?_
  refine eI (x6 _ _ h3) h6 (zs:=(L++((nX m).map λt=>ind (d+1)++t)++lnB (d+1) b).map D.str) (by rw[<- Ai]) (by rw[Ab,Ae,Ae,Ab];lia) λp7 M7 b7 h7 x7=>?_
  lk
  refine aE (by lia) ?_
  lk
  intro p8 J
  have y8:=b6 y3 (b6 x6 (b6 x7 (aB (o:=.lst [.str (ind d++Aa "end")]) J)))
  refine eI (aJ J h7) FB (zs:=(lnS d (.whl r rs m b)).map D.str) (by rw[<- hLe];simp[lnS,fA,hdT]) (by have:=kC d (.whl r rs m b);simp only[wS]at this;rw[Ab];lia) λp9 M9 S h9 x9=>?_
  exact q p9 M9 (bT y8 S) h9 (b6 y8 x9)
local macro_rules | `(tactic| tm_at $s:str)=>bJ n_cb s
theorem ok_l_all_lines(F:Fun K "_law_all_lines" "_law_all_lines" s_cb f fd)(C_l_rows_line:Cal P w K mg base 2 "_law_rows_line" spLRows)(C_l_lines:Cal P w K mg base 11 "_law_lines" (spLnB 4)):F8 P w K mg base CX0 12 f fd P_cb (aD K spAll):=by
 tm_at "F cb"
 let ⟨ss,rs,b,rfl,hk,q⟩:=h
 have b7:=hk.len
 have e1:(Aa " ").length=1:=by lia
 have e2:(Aa "plan").length=4:=by lia
 have e6:(Aa "given ").length=6:=by lia
 have a2:=hk.rs.al
 refine aA ?_
 lk
 intro p0 hp0
 have en:nms ss=.tup (ss.map D.str):=rfl
 refine aA ?_
 with_reducible refine' gB ?n0 ?n1 ?_ ?n2
 case n0=>exact PassesOwn.never
 case n1=>rfl
 case n2=>(intro _;rfl)
 lk
 exists ss.map D.str,λi Z M'=>∃ O:Option D,Z=[some (.tup [nms ss,.tup (rs.map rwD),.tup (aO b)]),some (.ref p0),O]/\M' p0=some (.lst [.str (onJ (Aa " ") (Aa "plan") (ss.take i))])/\Ext M M',rfl,#v[none,rfl,FB,aB hp0],?_,?_
 ·rintro i v Z M' I ⟨O,rfl,hm,hx⟩
  rw[Ar]at I
  cases hsi:ss[i]? with
  |none=>rw[hsi]at I;cases I
  |some y =>
   rw[hsi]at I
   have I:D.str y=v:=by simpa using I
   subst I
   have hy:=hk.one y (Bf hsi)
   have htk:ss.take (i+1)=ss.take i++[y]:=by rw[Cm,hsi];rfl
   have b1:=rR (Aa " ") (B:=1) (ss.take i) (Aa "plan") λx hx=>En (hk.one x (C3 hx))
   have h5:(ss.take i).length*((Aa " ").length+1)<=6*2:=by
    rw[e1]
    exact Cb _ (by rw[Bt];lia)
   refine bC 2 nd ?_
   try (refine fK ?_;intro EL)
   refine fK ?_
   intro EL
   refine bH ?_
   lk
   refine aF (d:=.str (onJ (Aa " ") (Aa "plan") (ss.take i))) hm (aX (j:=0) rfl) ?_
   lk
   refine aE (by lia) ?_
   lk
   refine aE (by rw[aQ];lia) ?_
   lk
   refine dJ hm (j:=0) rfl ?_
   exact #v[_,rfl,by rw[FB,htk,uD];rfl,b8 hx hp0]
 ·rintro Z M' ⟨O,rfl,hm,hx⟩
  rw[Ab,Bx]at hm
  refine bS (λG2 S=>G2=[some (.tup [nms ss,.tup (rs.map rwD),.tup (aO b)]),some (.ref p0),O]/\S p0=some (.lst ((hdP ss rs).map D.str))/\Ext M S) ?_ ?_
  ·lk
   refine wK hk.rs.imm (EW rs) ?_
   refine ifN ?_ ?_
   ·intro hc
    have J:rs≠[]:=λz=>hc (by rw[z];rfl)
    lk
    exists p0,rfl,#v[_,hm],?_
    lk
    exists rs,_,rfl,.inl rfl,hk.rs,λS L=>?_
    refine aE (by lia) ?_
    exists _,L _ _ hm,aT (by simp),?_
    exists rfl,?_,b8 (b6 hx L) hp0
    unfold hdP
    rw[FB,if_neg J,jZ]
    rfl
   ·intro hc
    have J:rs=[]:=Ed.mp hc
    lk
    exists rfl,?_,hx
    unfold hdP
    rw[if_pos J,jZ]
    exact hm
  rintro G2 S ⟨rfl,h2,L⟩
  have b2:=kA b
  have b4:=hk.s
  have b5:=iZ hk
  lk
  exists b,0,by rw[EY],hk.gd,hk.dp,by decide,by lia,λq6 M6 b3 h6 V=>?_
  refine eI (V _ _ h2) h6 (zs:=(hdP ss rs++lnB 0 b).map D.str) (by rw[Ai]) (by rw[Ab];lia) λp7 M7 Y h7 x7=>?_
  exact q p7 M7 (bT (b6 L V) Y) h7 (b6 L (b6 V x7))
end
inductive spWildR(ds:List D)(M:MH)(Q:DK):Prop|mk:∀(l:Addr) (ns:List Int),ds=[.ref l,.int 3]->M l=some (.ro (ns.map D.int))->ns.length<=63->(∀ n∈ns,Cell n)->(∀ ss rs b M',ShOk ss rs b->RdPl ss rs b->Ext M M'->Q (.tup [nms ss,.tup (rs.map rwD),.tup (aO b)]) M')->spWildR ds M Q
theorem HJ:F7 (Aa "q"):=#v[113,by decide,by decide,by lia]
theorem HK:F7 (Aa "d"):=#v[100,by decide,by decide,by lia]
theorem HL:F7 (Aa "b"):=#v[98,by decide,by decide,by lia]
theorem HM:F7 (Aa "m"):=#v[109,by decide,by decide,by lia]
theorem HN:F7 (Aa "t"):=#v[116,by decide,by decide,by lia]
theorem oS(k:Nat):∀ x∈[Aa "q",Aa "d"].take k,F7 x:=λx hx=>by
 have:=C3 hx
 simp only[Am,Bi,or_false]at this
 rcases this with rfl|rfl
 ·exact HJ
 ·exact HK
theorem lW(k:Nat):∀ x∈[Aa "b",Aa "m",Aa "t"].take k,F7 x:=λx hx=>by
 have:=C3 hx
 simp only[Am,Bi,or_false]at this
 rcases this with rfl|rfl|rfl
 ·exact HL
 ·exact HM
 ·exact HN
section
variable {P:Program}{w:World}{K:Ad}{base:Heap}{f:Addr}
local macro_rules | `(tactic| tm_at $s:str)=>bJ n_cc s
local macro_rules | `(tactic| tm_at "sset")=>`(tactic| (
 with_reducible refine' rQ ?n0 ?n1 ?_ ?n2 ?n3 ?n4
 (case n0=>rfl)
 (case n1=>exact hSorted)
 (case n2=>rfl)
 (case n3=>rfl)
 (case n4=>rfl)
 refine fJ ?_ rfl
 with_reducible refine' JT ?n0 ?n1 ?_ ?n2 ?n3 ?n4
 (case n0=>rfl)
 (case n1=>exact hSet)
 (case n2=>rfl)
 (case n3=>rfl)
 (case n4=>rfl)
 repeat (first|(with_reducible refine yC ?_)|k_go)
 refine bB PC ?_
 lk
 refine bO ?_
 refine bE ?_
 lk))
theorem ok_l_wild(F:Fun K "_law_wild" "_law_wild" s_cc f fd)(h_tuple:mg "tuple"=none)(hSorted:mg "sorted"=none)(hSet:mg "set"=none)(C_l_cell:Cal P w K mg base 1 "_law_cell" spCell)(C_l_names:Cal P w K mg base 1 "_law_names" spNames)(C_l_plan:Cal P w K mg base 15 "_law_plan" spPlan):F8 P w K mg base CX0 16 f fd P_cc (aD K spWildR):=by
 tm_at "F cc"
 let ⟨l,ns,rfl,hl,d7,S,q⟩:=h
 refine aA ?_
 lk
 exists l,ns,_,rfl,hl,S,d7,by decide,λc0 b5=>?_
 have bc:=b5.bd
 lk
 exists _,rfl,b5,λV M1 Z h3 k1=>?_
 have f8:=Z.le
 lk
 tm_at "sset"
 have f5:=cX (a:=c0.fdiv 78) (b:=3) (by decide)
 obtain ⟨k,hk⟩:∃ k:Nat,(c0.fdiv 78).fmod 3=(k:Int):=#v[((c0.fdiv 78).fmod 3).toNat,by lia]
 rw[hk]
 refine yF rfl ?_
 rw[PN]
 have f6:([Aa "q",Aa "d"].take k).length<=2:=by rw[Bt];exact Eu ..
 have e8:[D.str "q",D.str "d"].take k=([Aa "q",Aa "d"].take k).map D.str:=by rw[Ef];rfl
 rw[e8]
 exists V.map D.str,_,rfl,rfl,small (by rw[Ab,Ab];lia),?_
 lk
 exists V++[Aa "q",Aa "d"].take k,by rw[Ai],by rw[Ae];lia,λr s2 d9 Y g1 J=>?_
 lk
 have b4:=iF Z h3 (oS k) J Y (List.Perm.refl s2)
 exists r,s2,rfl,FB,b4.1,by lia,λr2 O d8 b2 b1=>?_
 lk
 exists _,rfl,_,FB,?_
 have I:=iF Z h3 (oS k) J Y b2
 have U1:Up1 O:=ME I.2.2.2.1 I.2.2.1 b1
 have N1:Names O:=#v[I.2.2.2.2.1,by lia,I.2.2.1,I.2.2.2.1]
 have k2:=b6 k1 (b6 (aB d9) (aB (o:=.lst (O.map D.str)) d8))
 generalize FF (FF M1 r _) r2 (.lst (O.map D.str))=M2 at k2 ⊢
 clear k1 d9 d8 b2 b1 b4 Y J
 lk
 refine bB bN ?_
 lk
 refine bE ?_
 lk
 refine bE ?_
 lk
 refine bP rfl (D0 (k2 _ _ hl)) λp1 b3=>?_
 have ec:D3.cK (ns.map D.int) (some 3) (some (3+55))=((ns.take 58).drop 3).map D.int:=xY ns 3 58
 rw[ec]
 have f3:qA ((ns.take 58).drop 3):=#v[by rw[Cy,Bt];lia,λx hx=>S x (C3 (E5 hx))]
 lk
 exists l,ns,_,rfl,aJ b3 (k2 _ _ hl),S,d7,by decide,λc1 e9=>?_
 lk
 exists p1,_,c1,O,rfl,FB,f3,e9,N1,λp M3 hp f1 e3=>?_
 have k3:=b6 k2 (b6 (aB b3) e3)
 clear k2 b3 e3
 unfold plD
 lk
 tm_at "sset"
 have f9:=cX (a:=c0.fdiv 234) (b:=4) (by decide)
 obtain ⟨k',hk'⟩:∃ k:Nat,(c0.fdiv 234).fmod 4=(k:Int):=#v[((c0.fdiv 234).fmod 4).toNat,by lia]
 rw[hk']
 refine yF rfl ?_
 rw[PN]
 have g2:([Aa "b",Aa "m",Aa "t"].take k').length<=3:=by rw[Bt];exact Eu ..
 have b7:[D.str "b",D.str "m",D.str "t"].take k'=([Aa "b",Aa "m",Aa "t"].take k').map D.str:=by rw[Ef];rfl
 rw[b7]
 exists V.map D.str,_,rfl,rfl,small (by rw[Ab,Ab];lia),?_
 lk
 exists V++[Aa "b",Aa "m",Aa "t"].take k',by rw[Ai],by rw[Ae];lia,λr4 s4 f2 Y f7 J=>?_
 lk
 have d6:=iF Z h3 (lW k') J Y (List.Perm.refl s4)
 exists r4,s4,rfl,FB,d6.1,by lia,λr5 f4 e7 b2 b1=>?_
 lk
 exists _,rfl,_,FB,?_
 have L:=iF Z h3 (lW k') J Y b2
 lk
 exact q f4 p.rs p.bl _ (UH hp (by lia) λx hx=>(L.2.2.2.1 x hx).len) (KP hp (by rw[f1];exact U1) (ME L.2.2.2.1 L.2.2.1 b1) L.2.2.2.2.1) (b6 k3 (b6 (aB f2) (aB e7)))
end
def WS(G0:Ga)(M:MH)(Ct:Addr)(n:Int)(φ:Prop):Ga->XQ:=λG' C fs M'=>G'=G0/\φ/\C=Ct/\fs=([("line",.int n)]:List (Str×D))/\∃(M1:MH) (dx0:Addr),Ext M M1/\M1 dx0=none/\M'=FF M1 dx0 (.att [("line",.int n)])
inductive spTried(ds:List D)(M:MH)(Q:DK):Prop|mk:∀(l:Addr) (ls:List LnT) (fs:List Frm),ds=[.ref l]->M l=some (.lst ((ls.map lnT).map D.str))->ls≠[]->ls.length<=130->(∀ x∈ls,(lnT x).length<=60100)->Run (Aa "") [] ls fs->(∀ f,fs=[f]->f.1.length<=10/\f.2.length<=10/\∀ q M',M' q=some (.lst [.tup (f.1++f.2.map D.tup),.int 0])->ExtB M M'->Q (.ref q) M')->(fs.length≠1->∀ q M',M' q=some (.lst [.non,.int ((ls.length:Int)+1)])->ExtB M M'->Q (.ref q) M')->spTried ds M Q
section
variable {P:Program}{w:World}{K:Ad}{base:Heap}{f:Addr}
local macro_rules | `(tactic| tm_at $s:str)=>bJ n_ce s
theorem xE(F:Fun K "_law_tried" "_law_tried" s_ce f fd)(CX:CalX P w K mg base 9 "read" (sO Ct))(eE:X1.Err K Ct P0)(x1:ErrF K Ct P0 "line")(mT:mg "NoText"=some (.ref Ct)):F8 P w K mg base CX0 11 f fd P_ce (aD K spTried):=by
 refine WF F sc_ce (λds M Q ⟨a,b,c,h,_⟩=>by subst h;rfl) λcdv A outer s H EE ds M Q hr h=>?_
 have nd:=sc_ce.nd
 try (refine sZ ?_;intro X)
 let ⟨l,I,fs,rfl,hl,d7,b4,V,b3,q,qr⟩:=h
 refine tW ?_
 lk
 refine tW ?_
 lk
 generalize hG0:([some (.ref l),some .non,some .non,none]:Ga)=G0
 refine EC (i:=3) (R:=WS G0 M Ct ((I.length:Int)+1) (fs.length≠1)) ?hok rfl rfl nd rfl ?hl ?hf mT ?hg ?hR
 case hl=>rfl
 case hf=>rfl
 case hg=>rfl
 case hok =>
  subst hG0
  intro d8 d9 T
  refine bH ?_
  lk
  with_reducible refine' tV ?n0 ?n1 ?n2 ?n3 ?_ ?n4 ?n5 ?n6 ?n7
  case n0=>exact CX
  case n1=>exact hr
  case n2=>lia
  case n3=>exact T
  case n4=>rfl
  case n5=>decide
  case n6=>rfl
  case n7=>rfl
  lk
  exists _,rfl,?_
  lk
  exists l,_,rfl,hl,?_,?_
  ·have h1:=iD (I.map lnT) (B:=60100) (λy hy=>by let ⟨x,hx,rfl⟩:=A5.mp hy;exact V x hx)
   have e9:(Aa "\n").length=1:=by lia
   rw[Ab]at h1
   rw[Ab,e9]
   lia
  lk
  exists I,fs,rfl,d7,b4,V,b3,λg hg=>?_,λhn M' J x Y=>#v[rfl,hn,rfl,rfl,M',J,x,Y,rfl]
  let ⟨q1,q2,q3⟩:=q g hg
  exists q1,q2,λM' x=>?_
  lk
  refine EB ?_
  walk
  intro r Z
  exact q3 r _ FB (b9 (d5 x) (d5 (aB Z)))
 case hR =>
  rintro G1 C b2 M1 ⟨rfl,hn,rfl,rfl,M2,L,hx,b5,rfl⟩
  subst hG0
  exists Cth.self eE,λa J ha Y S=>?_
  have b1:ExtB M (FF (FF (FF M2 L (.att [("line",.int ((I.length:Int)+1))])) J (.att [("line",.int ((I.length:Int)+1))])) a (.exc C (some J) false)):=λb o hb ho=>by
   have hb:=hx _ _ hb
   have b7:b≠L:=λz=>by rw[z,b5]at hb;cases hb
   have O:FF M2 L (.att [("line",.int ((I.length:Int)+1))]) b=some o:=by rw[aC b7];exact hb
   have d6:b≠a:=λz=>by rw[z,ha]at O;cases O
   rw[aC d6]
   by_cases hbd:b=J
   ·subst hbd
    rcases Y with z|⟨b2,z⟩
    ·rw[O]at z;cases z
    ·rw[O]at z;cases z;exact absurd rfl (ho b2)
   ·rw[aC hbd];exact O
  have h1:(FF (FF (FF M2 L (.att [("line",.int ((I.length:Int)+1))])) J (.att [("line",.int ((I.length:Int)+1))])) a (.exc C (some J) false)) a=some (.exc C (some J) false):=FB
  have h2:(FF (FF (FF M2 L (.att [("line",.int ((I.length:Int)+1))])) J (.att [("line",.int ((I.length:Int)+1))])) a (.exc C (some J) false)) J=some (.att [("line",.int ((I.length:Int)+1))]):=by rw[aC S,FB]
  generalize FF (FF (FF M2 L (.att [("line",.int ((I.length:Int)+1))])) J (.att [("line",.int ((I.length:Int)+1))])) a (.exc C (some J) false)=M3 at b1 h1 h2 ⊢
  lk
  refine EB ?_
  walk
  with_reducible refine' JP ?_ ?n0
  case n0=>rfl
  lk
  exists a,C,P0,J,false,_,.int ((I.length:Int)+1),rfl,h1,S,h2,x1,rfl,?_
  lk
  intro r Z
  exact qr hn r _ FB (b9 b1 (d5 (aB Z)))
end
def VA(k:Nat):D->D
 |.str x=>.str (ind k++x)
 |d=>d
theorem HP(k:Nat)(lk:List Str):((lk.map D.str).filter λ_=>true).map (VA k)=((clW k lk).map lnT).map D.str:=by
 rw[B9.mpr (by simp),By,By]
 unfold clW
 rw[By]
 rfl
theorem zI:∀(L:List (List Str)) (d:Nat),Lf3 L->(czL d L).length<=2*L.length
 |[],d,_=>by simp[czL]
 |l::r,d,h=>by
  have h1:=zI r (d+1) λx hx=>h x (Ak _ hx)
  have h2:l.length<=2:=by
   have:∀ l∈lf3,l.length<=2:=by lia
   exact this l (h l (Aj ..))
  have I:(clW d l).length=l.length:=by unfold clW;rw[Ab]
  simp only[czL,Ae,Ah]
  lia
def LzS(M:MH)(as:List Addr)(L:List (List Str)):Prop:=Lz M as (L.map λl=>l.map D.str)
theorem LzS.keep(h:LzS M as L)(k:∀ a∈as,∀ o,M a=some o->M' a=some o):LzS M' as L:=Lz.keep h k
theorem LzS.snoc(h:LzS M as L)(I:M a=some (.lst (l.map D.str))):LzS M (as++[a]) (L++[l]):=by
 unfold LzS;rw[Ai];exact Lz.snoc I h
theorem LzS.last(h:LzS M as (L++[l])):∃ bs c,as=bs++[c]/\LzS M bs L/\M c=some (.lst (l.map D.str)):=by
 have hl:=Lz.len h
 have I:as≠[]:=by intro z;rw[z]at hl;simp at hl
 have e:as=as.dropLast++[as.getLast I]:=(B7 I).symm
 unfold LzS at h
 rw[e,Ai]at h
 exact #v[_,_,e,h.split]
theorem LzS.len(h:LzS M as L):as.length=L.length:=by have:=Lz.len h;simpa using this
theorem LzS.imm(h:LzS M as L)(O:Lf3 L):∀ c∈as,∃ ds,M c=some (.lst ds)/\eF ds=true:=λc I=>by
 let ⟨i,J⟩:=Cw.mp I
 let ⟨g,hg,hm⟩:=Lz.get h J
 rw[Ar]at hg
 let ⟨l,hl,rfl⟩:=Bz.mp hg
 exact #v[_,hm,lG (GS l (O l (Bf hl)))]
theorem LzS.none(h:LzS M as L)(O:M p=none):p∉as:=λI=>by
 let ⟨i,J⟩:=Cw.mp I
 let ⟨g,hg,hm⟩:=Lz.get h J
 rw[O]at hm;cases hm
section
variable {P:Program}{w:World}{K:Ad}{base:Heap}{f:Addr}
local macro_rules | `(tactic| tm_at $s:str)=>bJ n_cd s
local macro_rules | `(tactic| tm_at "d")=>`(tactic| first
 |((with_reducible show EV _ _ _ (Expr.Call (Expr.Attribute _ "strip" _) [] [] _) _);(with_reducible refine' GO ?_ ?n1 ?n2);(case n1=>rfl);(case n2=>rfl))
 |((with_reducible show EV _ _ _ (Expr.Call (Expr.Attribute _ "split" _) [_] [] _) _);(with_reducible refine' kD ?_ ?n1 ?n2 ?n3 ?n4 ?n5);(case n1=>rfl);(case n2=>rfl);(case n3=>rfl);(case n4=>rfl);(case n5=>rfl))
 |((with_reducible show EV _ _ _ (Expr.Call (Expr.Attribute _ "index" _) [_] [] _) _);(with_reducible refine' GQ ?_ ?n1 ?n2 ?n3 ?n4 ?n5);(case n1=>rfl);(case n2=>rfl);(case n3=>rfl);(case n4=>rfl);(case n5=>rfl))
 |((with_reducible show TV _ _ _ (Expr.Compare (Expr.Name "_law_left" _) [CmpOp.NotEq] _ _) _);(with_reducible refine' GR ?n0 ?_);(case n0=>exact hr.units))
 |((with_reducible show TV _ _ _ (Expr.Compare (Expr.Subscript (Expr.Name "_law_left" _) _ _) [CmpOp.Eq] _ _) _);(with_reducible refine' DR ?n0 ?_);(case n0=>exact hr.units)))
theorem ok_l_closed(F:Fun K "_law_closed" "_law_closed" s_cd f fd)(h_len:mg "len"=none)(h_list:mg "list"=none)(h_range:mg "range"=none)(h_reversed:mg "reversed"=none):F8 P w K mg base CX0 1 f fd P_cd (aD K spClosedL):=by
 tm_at "F cd"
 let ⟨l,I,rfl,hl,m9,htk,r8,m7,q⟩:=h
 refine aA ?_
 lk
 intro p hp
 have x1:=aB (o:=.lst []) hp
 have f5:FF M p (.lst []) p=some (.lst (([]:List Addr).map D.ref)):=FB
 have f4:=x1 _ _ hl
 have p7:l≠p:=λz=>by subst z;rw[hl]at hp;cases hp
 generalize FF M p (.lst [])=M1 at x1 f5 f4 ⊢
 refine aA ?_
 with_reducible refine' dC ?n0 ?n1 ?_ ?n2
 case n0=>exact PassesOwn.never
 case n1=>rfl
 case n2=>(intro _;rfl)
 refine bB bN ?_
 lk
 refine bE ?_
 lk
 refine bO ?_
 refine bP rfl (Bh f4) λp2 f3=>?_
 have ec:D3.cK ((I.map lnT).map D.str) (some 1) none=((I.drop 1).map lnT).map D.str:=by
  have h1:1<=((I.map lnT).map D.str).length:=by
   rw[Ab,Ab]
   exact C9.mpr m9
  show D3.cK _ (some ((1:Nat):Int)) none=_
  rw[cL _ 1 h1,Ez,Ez]
 rw[ec]
 have x2:=aB (o:=.lst (((I.drop 1).map lnT).map D.str)) f3
 have b5:FF M1 p2 (.lst (((I.drop 1).map lnT).map D.str)) p2=some (.lst (((I.drop 1).map lnT).map D.str)):=FB
 have j9:=x2 _ _ f4
 have m8:=x2 _ _ f5
 have r6:p2≠p:=λz=>by subst z;rw[f5]at f3;cases f3
 generalize FF M1 p2 (.lst (((I.drop 1).map lnT).map D.str))=M2 at x2 b5 j9 m8 ⊢
 have o4:=b6 x1 x2
 exists p2,_,λi G' M'=>∃(as:List Addr) (V S:Option D),G'=[some (.ref l),some (.ref p),V,S,none,none]/\M' p=some (.lst (as.map D.ref))/\LzS M' as (fldW [] ((I.drop 1).take i))/\p∉as/\(∀ c o,c≠p->M2 c=some o->M' c=some o),rfl,Bh b5,?_,?_,?_,?_
 ·exact #v[[],none,none,rfl,m8,rfl,by simp,λc o _ e=>e]
 ·rintro i G' M' _ ⟨as,V,S,rfl,h1,h2,h3,h4⟩
  rw[b5];exact h4 _ _ r6 b5
 ·rintro i d G' M' hd ⟨as,V,S,rfl,h1,h2,h3,h4⟩
  rw[Ar,Ar]at hd
  let ⟨t,r1,rfl⟩:=Bz.mp hd
  let ⟨x,j7,rfl⟩:=Bz.mp r1
  have j6:x∈I:=E5 (Bf j7)
  let ⟨i6,j8⟩:=htk x j6
  have s4:=m7 x j6
  have s2:(jn x.2).length<=60100:=by have:=aQ (ind x.1) (jn x.2);have:(lnT x).length=_:=this;lia
  have q8:Txt.split (jn x.2) (Aa " ")=x.2:=by rw[jC];exact oK i6 j8
  have J:=oN ((I.drop 1).take i) [] (λ_ h=>by cases h)
  have b2:=oO ((I.drop 1).take i) []
  have p1:((I.drop 1).take i).length<=130:=by rw[Bt,Cy];lia
  have f2:=BI [] j7
  let ⟨rr,er⟩:=UU i6
  have i0:atI (x.2.map D.str) 0=some (.str (wdT x)):=by rw[er];exact L2.aX (j:=0) rfl
  generalize wdT x=wd at f2 i0
  generalize fldW [] ((I.drop 1).take i)=L at h2 J b2 f2
  have h6:=h2.len
  walk
  exists _,rfl,big (by lia),?_
  rw[wW i6 j8]
  exists _,rfl,?_
  lk
  exists _,rfl,by lia,big (by lia),big (Ay (oF ..) (by lia)),λt ht=>?_
  rw[q8]
  have x3:=aB (o:=.lst (x.2.map D.str)) ht
  lk
  refine aF FB i0 ?_
  have b7:=x3 _ _ h1
  have b3:=h2.keep λa _ o e=>x3 _ _ e
  have i8:∀ c o,c≠p->M2 c=some o->FF M' t (.lst (x.2.map D.str)) c=some o:=λc o O e=>x3 _ _ (h4 c o O e)
  generalize FF M' t (.lst (x.2.map D.str))=M3 at b7 b3 i8 ⊢
  clear x3 ht h1 h2 h4
  have b1:∀{M5:MH} {bs:List Addr} {L':List (List Str)} {V S:Option D},(∀ c o,c≠p->M3 c=some o->M5 c=some o)->M5 p=some (.lst (bs.map D.ref))->LzS M5 bs L'->cR L wd=L'->p∉bs->∃(as:List Addr) (q2 q3:Option D),[some (.ref l),some (.ref p),V,S,none,none]=[some (.ref l),some (.ref p),q2,q3,none,none]/\M5 p=some (.lst (as.map D.ref))/\LzS M5 as (fldW [] ((I.drop 1).take (i+1)))/\p∉as/\(∀ c o,c≠p->M2 c=some o->M5 c=some o):=λ{M5 bs L' V S} x hp5 hz e hn=>#v[bs,V,S,rfl,hp5,by rw[f2,e];exact hz,hn,λc o O ec=>x _ _ O (i8 c o O ec)]
  have o6:∀{M5:MH} {bs:List Addr} {L':List (List Str)} {V S:Option D},Ext M3 M5->LzS (FF M5 p (.lst (bs.map D.ref))) bs L'->cR L wd=L'->p∉bs->∃(as:List Addr) (q2 q3:Option D),[some (.ref l),some (.ref p),V,S,none,none]=[some (.ref l),some (.ref p),q2,q3,none,none]/\FF M5 p (.lst (bs.map D.ref)) p=some (.lst (as.map D.ref))/\LzS (FF M5 p (.lst (bs.map D.ref))) as (fldW [] ((I.drop 1).take (i+1)))/\p∉as/\(∀ c o,c≠p->M2 c=some o->FF M5 p (.lst (bs.map D.ref)) c=some o):=λ{M5 bs L' V S} x hz e hn=>b1 (λc o O ec=>by rw[aC O];exact x _ _ ec) FB hz e hn
  by_cases hop:wd∈[Aa "choose",Aa "if",Aa "while"]
  ·have q7:wd=Aa "choose" \/ wd=Aa "if" \/ wd=Aa "while":= by simpa using hop
   have e7:∀{M5:MH} {r:Addr} {l0:List Str} {V S:Option D},Ext M3 M5->M3 r=none->M5 r=some (.lst (l0.map D.str))->opW wd=some l0->∃ ds,M5 p=some (.lst ds)/\ds.length<An/\∃(as:List Addr) (q2 q3:Option D),[some (.ref l),some (.ref p),V,S,none,none]=[some (.ref l),some (.ref p),q2,q3,none,none]/\FF M5 p (.lst (ds++[.ref r])) p=some (.lst (as.map D.ref))/\LzS (FF M5 p (.lst (ds++[.ref r]))) as (fldW [] ((I.drop 1).take (i+1)))/\p∉as/\(∀ c o,c≠p->M2 c=some o->FF M5 p (.lst (ds++[.ref r])) c=some o):=λ{M5 r l0 V S} x hr0 hr5 ho=>by
    have f8:r≠p:=λz=>by rw[z,b7]at hr0;cases hr0
    exists _,x _ _ b7,Aw (Di (show (as.map D.ref).length<=200 by rw[Ab];simp at b2;lia)) (small (by decide)),?_
    rw[show as.map D.ref++[.ref r]=(as++[r]).map D.ref by rw[Ai];rfl]
    refine o6 x (LzS.snoc (b3.keep λa ha o e=>?_) ?_) (cQ ho) ?_
    ·rw[aC (λz=>h3 (by rw[<- z];exact ha))];exact x _ _ e
    ·rw[aC f8];exact hr5
    ·simp[h3,f8.symm]
   rcases q7 with rfl|rfl|rfl
   all_goals
    repeat first|k_go|refine cF rfl ?_|refine bZ (by lia) ?_
    exists p,rfl,#v[_,b7],?_
    lk
    intro a1 g1
    lk
    intro a2 g2
    lk
    intro a3 g3
    lk
    intro a4 g4
    lk
    intro a5 g5
    lk
    exists a5,rfl,#v[_,FB],?_
    lk
    first
    |exists [Aa "choose",Aa "if",Aa "while"],_,0,rfl,FB,rfl,by lia,by decide,?_
    |exists [Aa "choose",Aa "if",Aa "while"],_,1,rfl,FB,rfl,by lia,by decide,?_
    |exists [Aa "choose",Aa "if",Aa "while"],_,2,rfl,FB,rfl,by lia,by decide,?_
    refine aF (aJ g5 FB) rfl ?_
    lk
    intro a6 g6
    have x6:=b6 (aB (o:=.lst [.str "or"]) g1) (b6 (aB g2) (b6 (aB g3) (b6 (aB g4) (b6 (aB g5) (aB (o:=.lst [.str "end"]) g6)))))
    first
    |refine eI (aJ g6 (aJ g5 (aJ g4 (aJ g3 (aJ g2 FB))))) FB rfl (by decide) λr M7 d8 h7 x7=>?_
    |refine eI (aJ g6 (aJ g5 (aJ g4 (aJ g3 FB)))) FB rfl (by decide) λr M7 d8 h7 x7=>?_
    |refine eI (aJ g6 (aJ g5 (aJ g4 FB))) FB rfl (by decide) λr M7 d8 h7 x7=>?_
    have i5:=gH x6 d8
    first
    |exact e7 (l0:=[Aa "or",Aa "end"]) (b6 x6 x7) i5 h7 sH
    |exact e7 (l0:=[Aa "else",Aa "end"]) (b6 x6 x7) i5 h7 sI
    |exact e7 (l0:=[Aa "end"]) (b6 x6 x7) i5 h7 wU
  ·have m2:¬ wd=Aa "choose"/\¬ wd=Aa "if"/\¬ wd=Aa "while":= by simpa using hop
   let ⟨c1,c2,c3⟩:=m2
   have j5:opW wd=none:=by unfold opW;rw[if_neg c1,if_neg c2,if_neg c3]
   repeat first|k_go|refine bZ c1 ?_|refine bZ c2 ?_|refine bZ c3 ?_
   intro a1 g1
   exists p,a1,as,rfl,rfl,aJ g1 b7,FB,λc O=>let ⟨ds,h,i⟩:=b3.imm J c O;#v[ds,aJ g1 h,i],?_
   have x4:=aB (o:=.lst []) g1
   have b4:=x4 _ _ b7
   have d7:=b3.keep λa _ o e=>x4 _ _ e
   generalize FF M3 a1 (.lst [])=M4 at x4 b4 d7 ⊢
   rcases List.eq_nil_or_concat L with rfl|⟨L',lst,eL⟩
   ·have o7:as=[]:=C4.mp (by simpa using h6)
    subst o7
    rw[show (!decide (([]:List Addr)=[]))=false from rfl]
    lk
    exact b1 (λc o _ e=>x4 _ _ e) b4 d7 (by unfold cR;rw[j5];rfl) h3
   ·rw[List.concat_eq_append]at eL
    subst eL
    let ⟨bs,c,rfl,hb,O⟩:=d7.last
    have Z:p∉bs/\p≠c:=by simpa using h3
    let ⟨v,r,el,hv⟩:=J.ok lst (by simp)
    have q5:=J lst (by simp)
    have d9:atI ((bs++[c]).map D.ref) (-1)=some (.ref c):=by rw[Ai];exact L2.eY _ _
    have iv:atI (lst.map D.str) 0=some (.str v):=by rw[el];exact L2.aX (j:=0) rfl
    rw[show (!decide ((bs++[c])=([]:List Addr)))=true by simp]
    repeat first|k_go|refine aF b4 d9 ?_|refine aF O iv ?_
    by_cases hwv:wd=v
    ·refine cF hwv ?_
     walk
     refine bB bN ?_
     repeat first|k_go|refine aF b4 d9 ?_
     refine bE ?_
     lk
     refine bO ?_
     refine bP rfl (Bh O) λp5 hp5=>?_
     have o8:D3.cK (lst.map D.str) (some 1) none=r.map D.str:=by
      show D3.cK _ (some ((1:Nat):Int)) none=_
      rw[el,cL _ 1 (by simp)];rfl
     rw[o8]
     have x5:=aB (o:=.lst (r.map D.str)) hp5
     have d6:=x5 _ _ b4
     have f6:=hb.keep λa _ o e=>x5 _ _ e
     have h5:FF M4 p5 (.lst (r.map D.str)) p5=some (.lst (r.map D.str)):=FB
     have g9:p5≠p:=λz=>by rw[z,b4]at hp5;cases hp5
     have s3:p5∉bs:=hb.none hp5
     have m3:=b6 x4 x5
     generalize FF M4 p5 (.lst (r.map D.str))=M5 at x5 d6 f6 h5 m3 ⊢
     lk
     have o5:ixN ((bs++[c]).map D.ref).length (-1)=some bs.length:=by
      unfold ixN
      rw[if_neg (by decide),Ab,Ae]
      simp only[Ah,B6]
      rw[if_pos (by lia)]
      congr 1
      lia
     have m1:((bs++[c]).map D.ref).set bs.length (.ref p5)=(bs++[p5]).map D.ref:=by
      rw[Ai,Ai]
      have:bs.length=(bs.map D.ref).length:=by rw[Ab]
      rw[this,List.set_append_right _ _ (Ao _),Nat.sub_self];rfl
     refine dJ d6 o5 ?_
     rw[m1]
     have q6:atI ((bs++[p5]).map D.ref) (-1)=some (.ref p5):=by rw[Ai];exact L2.eY _ _
     have h8:FF M5 p (.lst ((bs++[p5]).map D.ref)) p=some (.lst ((bs++[p5]).map D.ref)):=FB
     have i7:=f6.keep (M':=FF M5 p (.lst ((bs++[p5]).map D.ref))) λa ha o e=>by rw[aC (λz=>Z.1 (by rw[<- z];exact ha))];exact e
     have f7:FF M5 p (.lst ((bs++[p5]).map D.ref)) p5=some (.lst (r.map D.str)):=by rw[aC g9];exact h5
     have k6:∀ c o,c≠p->M3 c=some o->FF M5 p (.lst ((bs++[p5]).map D.ref)) c=some o:=λc o O e=>by rw[aC O];exact m3 _ _ e
     generalize FF M5 p (.lst ((bs++[p5]).map D.ref))=M6 at h8 i7 f7 k6 ⊢
     have e9:cR (L'++[lst]) wd=kH L' lst:=by
      subst hwv
      rw[el]
      exact dE hv
     have q4:eF (r.map D.str)=true:=lG λs hs=>GS lst q5 s (by rw[el];exact Ak _ hs)
     repeat first|k_go|refine aF h8 q6 ?_
     intro a7 g7
     refine DQ (aJ g7 f7) FB q4 rfl (Ay (qR r) (by decide)) ?_
     rw[sJ]
     have x7:=aB (o:=.lst []) g7
     have f1:=x7 _ _ h8
     have e8:=i7.keep λa _ o e=>x7 _ _ e
     have m5:=x7 _ _ f7
     have k7:∀ c o,c≠p->M3 c=some o->FF M6 a7 (.lst []) c=some o:=λc o O e=>x7 _ _ (k6 c o O e)
     generalize FF M6 a7 (.lst [])=M7 at f1 e8 m5 k7 ⊢
     by_cases hr0:r=[]
     ·refine cF hr0 ?_
      lk
      exists p,bs.map D.ref,.ref p5,rfl,by rw[f1,Ai];rfl,?_
      refine b1 (λc o O e=>by rw[aC O];exact k7 c o O e) FB (e8.keep λa ha o e=>by rw[aC (λz=>Z.1 (by rw[<- z];exact ha))];exact e) ?_ Z.1
      rw[e9,el,hr0,kI]
     ·refine bZ hr0 ?_
      lk
      refine b1 k7 f1 (LzS.snoc e8 m5) ?_ (by simp[Z.1,g9.symm])
      rw[e9,el]
      unfold kH
      rw[if_neg (by simpa using hr0)];rfl
    ·refine bZ hwv ?_
     lk
     refine b1 (λc o _ e=>x4 _ _ e) b4 d7 ?_ h3
     unfold cR
     rw[j5,List.getLast?_concat]
     show (if lst.head?=some wd then _ else _)=_
     rw[el,if_neg (λz=>hwv (by cases z;rfl))]
 ·rintro G' M' ⟨as,V,S,rfl,h1,h2,h3,h4⟩
  rw[Ab,Ab,Bx]at h2
  have b2:=oO (I.drop 1) []
  rw[Cy]at b2
  have J:=oN (I.drop 1) [] (λ_ h=>by cases h)
  generalize hL:fldW [] (I.drop 1)=L at h2 b2 J q
  have h6:=h2.len
  have b2:L.length<=130:=by simp at b2;lia
  have m6:=h4 _ _ p7 j9
  walk
  exists _,rfl,_,m6,λf0 f9=>?_
  have x5:=aB (o:=.lst ((I.map lnT).map D.str)) f9
  have xM:Ext M M':=λc o e=>h4 c o (λz=>by rw[z,hp]at e;cases e) (o4 _ _ e)
  have m4:FF M' f0 (.lst ((I.map lnT).map D.str)) f0=some (.lst ((I.map lnT).map D.str)):=FB
  have d6:=x5 _ _ h1
  have i9:=h2.keep λa _ o e=>x5 _ _ e
  have o3:=b6 xM x5
  have p9:=gH xM f9
  generalize FF M' f0 (.lst ((I.map lnT).map D.str))=M5 at m4 d6 i9 o3 ⊢
  clear x5 xM h1 h2 h4 m6 f9
  walk
  with_reducible refine' BG ?n0 ?n1 ?n2 ?n3 ?_ ?n4 ?n5 ?n6 ?n7 ?n8
  case n0=>exact PassesOwn.never
  case n1=>rfl
  case n2=>exact h_range
  case n3=>exact h_reversed
  case n4=>rfl
  case n5=>rfl
  case n6=>rfl
  case n7=>rfl
  case n8=>(intro _;rfl)
  lk
  exists _,_,rfl,Bh #v[_,d6,rfl],?_
  rw[Ab,h6]
  lk
  exists L.length,λi G' M'=>∃(fa:Addr) (V S r5:Option D),G'=[some (.ref l),some (.ref p),V,S,some (.ref fa),r5]/\M' fa=some (.lst (((I++czL (L.length-i) (L.drop (L.length-i))).map lnT).map D.str))/\M' p=some (.lst (as.map D.ref))/\LzS M' as L/\Ext M M'/\M fa=none,rfl,by lia,?_,?_,?_
  ·exists f0,_,_,_,rfl,?_,d6,i9,o3,p9
   rw[m4,Nat.sub_zero,List.drop_eq_nil_of_le (Ao _)]
   simp[czL]
  ·rintro i G' M' hi ⟨fa,V,S,r5,rfl,h1,h2,h3,h4,h5⟩
   obtain ⟨k,hk⟩:∃ k:Nat,k+1+i=L.length:=#v[L.length-1-i,by lia]
   have ek:((L.length:Int)-1-i)=(k:Int):=by lia
   have e1:L.length-i=k+1:=by lia
   have e2:L.length-(i+1)=k:=by lia
   rw[ek]
   rw[e1]at h1
   obtain ⟨lk,hlk⟩:∃ lk,L[k]?=some lk:=#v[L[k]'(by lia),Bm _]
   have r7:czL k (L.drop k)=czL (k+1) (L.drop (k+1))++clW k lk:=by
    have:=uJ L 0 k lk hlk
    rwa [Nat.zero_add,Nat.zero_add]at this
   obtain ⟨ck,hck⟩:∃ ck,as[k]?=some ck:=#v[as[k]'(by lia),Bm _]
   have r4:M' ck=some (.lst (lk.map D.str)):=by
    let ⟨g,hg,hm⟩:=Lz.get h3 hck
    rw[Ar,hlk]at hg
    cases hg
    exact hm
   repeat first|k_go|refine bH ?_
   with_reducible refine' dI (own:=["_law_word"]) (js:=[5]) (N:=["_law_word", "_law_k"]) ?T ?xe ?ca (VA k) (λ_=>true) ?_ ?hs
   case T=>exact bW (fs:=["_law_k"]) rfl (by lia) (by lia) rfl rfl rfl rfl rfl
   case xe=>rfl
   case ca=>rfl
   case hs=>(intro _;rfl)
   have o9:atI (as.map D.ref) (k:Int)=some (.ref ck):=L2.aX (by rw[Ar,hck];rfl)
   repeat first|k_go|refine aF h2 o9 ?_
   have r9:lk.length<=5:=by
    have:∀ l∈lf3,l.length<=5:=by lia
    exact this lk (J lk (Bf hlk))
   have p4:∀ y∈lk,y.length<=100:=by
    have:∀ l∈lf3,∀ y∈l,y.length<=100:=by lia
    exact this lk (J lk (Bf hlk))
   have p1:=dM k
   exists ck,_,rfl,.inl r4,small (by rw[Ab];lia),?_,λq1 p8=>?_
   ·rintro Y ⟨C',s',H',fp,rfl⟩ s1 hM d hd
    let ⟨y,hy,rfl⟩:=A5.mp hd
    have s5:=p4 y hy
    have p3:(["_law_word", "_law_k"]:List Str).Nodup:=by lia
    refine bC 0 p3 ?_
    exists rfl,λi d e=>?_,cW #v[rfl,rfl],λ_=>?_
    ·rcases i with _|i
     ·simp[aN]at e
     ·exact e
    ·repeat first|(refine aP 0 ?_)|(refine aP 1 ?_)|((with_reducible show EV _ _ _ (Expr.BinOp (Expr.Constant _ _ _) Operator.Mult _ _) _);with_reducible refine rL ?_)|k_go
     exists _,(k:Int),rfl,rfl,Dc k,by lia,by lia,by lia,?_
     repeat first|(refine aP 0 ?_)|k_go
     refine aE (by show (ind k).length+_<=_;lia) ?_
     exact #v[rfl,rfl]
   ·rw[HP]
    have x6:=aB (o:=.lst (((clW k lk).map lnT).map D.str)) p8
    refine eI (x6 _ _ h1) FB rfl ?_ λr M7 d8 h7 x7=>?_
    ·rw[Ae,Ab,Ab,Ae,Ab,Ab]
     have h1:=zI (L.drop (k+1)) (k+1) λx hx=>J x (E5 hx)
     have h2:(clW k lk).length=lk.length:=by unfold clW;rw[Ab]
     rw[Cy]at h1
     lia
    have g8:=b6 x6 x7
    exists r,_,_,_,rfl,?_,g8 _ _ h2,h3.keep λa _ o e=>g8 _ _ e,b6 h4 g8,gH (b6 h4 x6) d8
    rw[h7,e2,r7,<- Ai,<- Ai,Az]
  ·rintro G' M' ⟨fa,V,S,r5,rfl,h1,h2,h3,h4,h5⟩
   rw[Nat.sub_self,D4]at h1
   repeat first|k_go|refine bH ?_
   exact q fa M' h5 h1 h4
end
inductive spLaw(ds:List D)(M:MH)(Q:DK):Prop|mk:∀(l:Addr) (ns:List Int),ds=[.ref l]->M l=some (.ro (ns.map D.int))->ns.length<=63->(∀ n∈ns,Cell n)->(∀ M',Q (.bl true) M')->spLaw ds M Q
theorem QW(ss:List Str)(rs:List Rw)(o:OB):fldW [] ((fQ ss rs++cB 0 o).drop 1)=eJ o:=by
 have e:cR [] (wdT (0,Aa "plan":: ss))=[]:=fL .nil (.head _)
 have h:=UR ss rs o
 unfold fQ at h ⊢
 rw[A3,cM,e]at h
 exact h
structure Beg(ss:List Str)(rs:List Rw)(o:OB):Prop where
 sh:ShOk ss rs (bY o)
 pl:RdPl ss rs (bY o)
def Beg.sm(ss:List Str)(rs:List Rw)(o:OB):List LnT:=fQ ss rs++cB 0 o
theorem Beg.all(h:Beg ss rs o):hdP ss rs++lnB 0 (bY o)=(Beg.sm ss rs o++czL 0 (eJ o)).map lnT:=by
 unfold Beg.sm
 rw[MF,gY 0 _ h.pl.bk,GF,<- Ai,Az]
theorem Beg.run(h:Beg ss rs o):Run (Aa "") [] (Beg.sm ss rs o) (sM [] [nms ss,.tup (rs.map rwD)] [] [] o):=LK h.pl h.sh.len h.sh.dp h.sh.bl
theorem Beg.len(h:Beg ss rs o):(Beg.sm ss rs o++czL 0 (eJ o)).length<=130:=by
 have:=iZ h.sh
 rw[h.all,Ab]at this
 exact this
theorem Beg.each(h:Beg ss rs o):∀ x∈Beg.sm ss rs o++czL 0 (eJ o),(lnT x).length<=60100:=λx hx=>h.sh.each _ (by rw[h.all];exact E9 hx)
theorem Beg.ne:Beg.sm ss rs o≠[]:=by unfold Beg.sm fQ;simp
theorem Beg.shut(h:Beg ss rs o):Beg ss rs (.done (bY o))/\Beg.sm ss rs (.done (bY o))=Beg.sm ss rs o++czL 0 (eJ o):=by
 exists #v[h.sh,h.pl],?_
 unfold Beg.sm
 rw[show cB 0 (.done (bY o))=aY 0 (bY o) from rfl,GF,Az]
abbrev VB(ss:List Str)(rs:List Rw)(b:List Stm):D:=.tup [nms ss,.tup (rs.map rwD),.tup (aO b)]
theorem Beg.txt(h:Beg ss rs (.done b)):ET ss rs b=Txt.join (Aa "\n") ((Beg.sm ss rs (.done b)).map lnT):=by
 have e:=h.all
 rw[show czL 0 (eJ (.done b))=[] from rfl,A7]at e
 show Txt.join "\n" (hdP ss rs++lnB 0 (bY (.done b)))=_
 rw[e]
theorem Beg.bound(h:Beg ss rs o):(((Beg.sm ss rs o).map lnT).map (·.length)).sum+((Beg.sm ss rs o).map lnT).length*(Aa "\n").length<=16777216:=by
 have h1:=iD ((Beg.sm ss rs o).map lnT) (B:=60100) (λy hy=>by let ⟨x,hx,rfl⟩:=A5.mp hy;exact h.each x (Bk _ hx))
 have h2:=h.len
 rw[Ae]at h2
 have I:(Aa "\n").length=1:=by lia
 rw[Ab]at h1 ⊢
 rw[I]
 have:(Beg.sm ss rs o).length*60100<=130*60100:=Cb _ (by lia)
 lia
theorem oU(h:Beg ss rs (.done b))(hl:M l=some (.lst (((Beg.sm ss rs (.done b)).map lnT).map D.str)))(q:∀ q M',M' q=some (.lst [VB ss rs b,.int 0])->ExtB M M'->Q (.ref q) M'):spTried [.ref l] M Q:=by
 exists l,_,_,rfl,hl,Beg.ne,?_,λx hx=>h.each x (Bk _ hx),h.run,λf hf=>?_,λJ=>absurd rfl J
 ·have:=h.len;rw[Ae]at this;lia
 ·have hf:[([nms ss,.tup (rs.map rwD)],[[]++aO b])]=[f]:=hf
  cases hf
  exact #v[by simp,by simp,λI M' h1 h2=>q I M' h1 h2]
theorem xF(h:Beg ss rs o)(L:eJ o≠[])(hl:M l=some (.lst (((Beg.sm ss rs o).map lnT).map D.str)))(q:∀ q M',M' q=some (.lst [.non,.int (((Beg.sm ss rs o).length:Int)+1)])->ExtB M M'->Q (.ref q) M'):spTried [.ref l] M Q:=by
 have I:=uW o [] [nms ss,.tup (rs.map rwD)] [] []
 have J:0<(eJ o).length:=C9.mpr L
 exists l,_,_,rfl,hl,Beg.ne,?_,λx hx=>h.each x (Bk _ hx),h.run,λf hf=>?_,λO=>q
 ·have:=h.len;rw[Ae]at this;lia
 ·exfalso
  rw[hf]at I
  have I:1=0+1+(eJ o).length:=I
  lia
section
variable {P:Program}{w:World}{K:Ad}{base:Heap}{f:Addr}
local macro_rules | `(tactic| tm_at $s:str)=>bJ n_cf s
local macro_rules | `(tactic| tm_at "tail")=>`(tactic| (
 walk
 refine oU hS h68 λq9 M9 h9 x9=>?_
 have h69:=x9 _ _ h68 (λfs z=>by cases z)
 refine vV h9 rfl ?_ rfl rfl
 repeat first|k_go|refine bH ?_
 exists ss,rs',bY o,rfl,hB.sh,λM10 x10=>?_
 lk
 exists _,rfl,?_
 lk
 exists p6,_,rfl,x10 _ _ h69,hS.bound,?_
 lk
 rw[decide_eq_true hS.txt]
 lk
 exact #v[_,_,_,_,_,_,rfl,b9 x38 (b9 x9 (d5 x10))]))
theorem QX(F:Fun K "law" "law" s_cf f fd)(h_len:mg "len"=none)(C_l_wild:Cal P w K mg base 16 "_law_wild" spWildR)(C_l_all_lines:Cal P w K mg base 12 "_law_all_lines" spAll)(C_l_closed:Cal P w K mg base 1 "_law_closed" spClosedL)(C_l_tried:Cal P w K mg base 11 "_law_tried" spTried)(C_shown:Cal P w K mg base 6 "shown" spShown) :
  F8 P w K mg base CX0 17 f fd P_cf (aD K spLaw):=by
 tm_at "F cf"
 let ⟨l,ns,rfl,hl,b7,Y,q⟩:=h
 refine aA ?_
 lk
 exists l,ns,rfl,hl,b7,Y,λss rs b M1 hk L x1=>?_
 walk
 exists ss,rs,b,rfl,hk,λq1 M2 e9 h2 x2=>?_
 have y2:=b6 x1 x2
 have d9:=y2 _ _ hl
 have e8:Beg ss rs (.done b):=#v[hk,L]
 have e0:hdP ss rs++lnB 0 b=(fQ ss rs++aY 0 b).map lnT:=by rw[Ai,MF,gY 0 b L.bk]
 rw[e0]at h2
 have e7:(fQ ss rs++aY 0 b).length<=130:=by have:=iZ hk;rw[e0,Ab]at this;exact this
 have f3:1<=(fQ ss rs++aY 0 b).length:=by unfold fQ;simp
 clear x1 x2
 walk
 with_reducible refine' dC ?n0 ?n1 ?_ ?n2
 case n0=>exact PassesOwn.never
 case n1=>rfl
 case n2=>(intro _;rfl)
 lk
 intro p0 hp0
 refine bB bN ?_
 lk
 refine bE ?_
 lk
 refine bE ?_
 lk
 have x3:=aB (o:=.lst [.int 0,.int 3,.int 7]) hp0
 refine bP rfl (D0 (x3 _ _ d9)) λp1 Z=>?_
 have ec:D3.cK (ns.map D.int) (some 2) (some 10)=((ns.take 10).drop 2).map D.int:=xY ns 2 10
 rw[ec]
 refine eI (zs:=([0,3,7]++(ns.take 10).drop 2).map D.int) (aJ Z FB) FB (by rw[Ai];rfl) (by rw[Ab,Ae,Cy,Bt];simp;lia) λp3 M3 f2 h3 x4=>?_
 have b5:=b6 x3 (b6 (aB Z) x4)
 have d6:=b5 _ _ h2
 exists p3,_,λi G' M'=>∃ r3 r4 r5 r6 r7 r8:Option D,G'=[some (.ref l),some (VB ss rs b),some (.ref q1),r3,r4,r5,r6,r7,r8]/\ExtB M3 M',rfl,Bh h3,#v[_,_,_,_,_,_,rfl,d5 (Ext.refl _)],?_,?_,?_
 ·rintro i G' M' _ ⟨r3,r4,r5,r6,r7,r8,rfl,hx⟩
  rw[h3];exact hx _ _ h3 (λfs z=>by cases z)
 ·rintro i d G' M' hd ⟨r3,r4,r5,r6,r7,r8,rfl,hx⟩
  rw[Ar]at hd
  let ⟨c,hc,rfl⟩:=Bz.mp hd
  have hq:=hx _ _ d6 (λfs z=>by cases z)
  walk
  refine bB bN ?_
  lk
  refine bO ?_
  refine bE ?_
  lk
  exists _,_,rfl,Bh #v[_,hq,rfl],?_
  rw[Ab,Ab]
  lk
  have hm:=cX (a:=c) (b:=((fQ ss rs++aY 0 b).length:Int)) (by lia)
  obtain ⟨m,hm'⟩:∃ m:Nat,c.fmod ((fQ ss rs++aY 0 b).length:Int)=(m:Int):=#v[(c.fmod ((fQ ss rs++aY 0 b).length:Int)).toNat,by lia]
  rw[hm',show (1:Int)+(m:Int)=((m+1:Nat):Int) by lia]
  refine bP rfl (Bh hq) λp5 hp5=>?_
  let ⟨rs',o,e1,S,hL⟩:=UO ss rs b m
  have b2:D3.cK (((fQ ss rs++aY 0 b).map lnT).map D.str) none (some ((m+1:Nat):Int))=((Beg.sm ss rs' o).map lnT).map D.str:=by rw[PN,<- Ef,<- Ef,e1];rfl
  rw[b2]
  have hB:Beg ss rs' o:=#v[hL.sh S hk,hL.pl S L]
  have d8:=hB.len
  rw[Ae]at d8
  have x5:=b9 hx (d5 (aB (o:=.lst (((Beg.sm ss rs' o).map lnT).map D.str)) hp5))
  have h5:FF M' p5 (.lst (((Beg.sm ss rs' o).map lnT).map D.str)) p5=some (.lst (((Beg.sm ss rs' o).map lnT).map D.str)):=FB
  generalize FF M' p5 (.lst (((Beg.sm ss rs' o).map lnT).map D.str))=M5 at x5 h5 ⊢
  clear hx hq hp5 b2 e1
  walk
  exists p5,Beg.sm ss rs' o,rfl,h5,Beg.ne,λx hx=>#v[hB.run.ne x hx,hB.run.toks x hx],by lia,λx hx=>hB.each x (Bk _ hx),λp6 M6 f1 h6 x6=>?_
  have ef:fldW [] ((Beg.sm ss rs' o).drop 1)=eJ o:=QW ss rs' o
  rw[ef]at h6
  let ⟨hS,eS⟩:=hB.shut
  rw[<- eS]at h6
  have J:=x6 _ _ h5
  have b4:=b9 x5 (d5 x6)
  walk
  by_cases ho:eJ o=[]
  ·let ⟨b',eo⟩:=GM ho
   have I:Beg ss rs' (.done b'):=by rw[<- eo];exact hB
   refine oU I (by rw[<- eo];exact J) λq7 M7 h7 V=>?_
   have b1:=V _ _ J (λfs z=>by cases z)
   have b3:=V _ _ h6 (λfs z=>by cases z)
   have d7:=b9 b4 V
   refine vV h7 rfl ?_ rfl rfl
   walk
   exists _,_,rfl,Bh #v[_,b3,rfl],?_
   lk
   exists _,_,rfl,Bh #v[_,b1,rfl],?_
   lk
   have ed:decide ((((((Beg.sm ss rs' o).map lnT).map D.str).length:Nat):Int)<(((((Beg.sm ss rs' (.done (bY o))).map lnT).map D.str).length:Nat):Int))=false:=by
    rw[eS,ho]
    simp[czL]
   rw[ed]
   lk
   refine OM ?_
   walk
   exists ss,rs',b',rfl,I.sh,λM8 x8=>?_
   have O:=x8 _ _ b1
   have h68:=x8 _ _ b3
   have x38:=b9 d7 (d5 x8)
   lk
   exists _,rfl,?_
   lk
   exists p5,_,rfl,O,hB.bound,?_
   lk
   rw[decide_eq_true (show ET ss rs' b'=_ by rw[I.txt,eo])]
   tm_at "tail"
  ·refine xF hB ho J λq7 M8 h7 V=>?_
   have O:=V _ _ J (λfs z=>by cases z)
   have h68:=V _ _ h6 (λfs z=>by cases z)
   have x38:=b9 b4 V
   refine vV h7 rfl ?_ rfl rfl
   walk
   exists _,_,rfl,Bh #v[_,h68,rfl],?_
   lk
   exists _,_,rfl,Bh #v[_,O,rfl],?_
   lk
   have ed:decide ((((((Beg.sm ss rs' o).map lnT).map D.str).length:Nat):Int)<(((((Beg.sm ss rs' (.done (bY o))).map lnT).map D.str).length:Nat):Int))=true:=by
    have hz:(czL 0 (eJ o))≠[]:=λz=>ho (KQ (yW o) 0 z)
    have:=C9.mpr hz
    rw[eS]
    simp
    lia
   rw[ed]
   lk
   refine OM ?_
   walk
   exists _,_,rfl,Bh #v[_,O,rfl],?_
   lk
   rw[decide_eq_true (show ((Beg.sm ss rs' o).length:Int)+1=_ by rw[Ab,Ab])]
   tm_at "tail"
 ·rintro G' M' ⟨r3,r4,r5,r6,r7,r8,rfl,hx⟩
  lk
  exact q M'
end
theorem VC:LX spLaw:=λl ns M Q h1 h2 I q=>#v[l,ns,rfl,h1,h2,I,q]
structure Txt(K:Ad)(w:World)(aW C aS cT p0:Addr):Prop where
 a_bj:At K "_law_purse" s_bj
 a_bk:At K "_law_take" s_bk
 a_bi:At K "_law_cell" s_bi
 a_bm:At K "_law_number" s_bm
 a_bn:At K "_law_terms" s_bn
 a_bo:At K "_law_sum" s_bo
 a_bu:At K "_law_names" s_bu
 a_bp:At K "_law_row" s_bp
 a_bl:At K "_law_next" s_bl
 a_bq:At K "_law_statement" s_bq
 a_br:At K "_law_loop" s_br
 a_bs:At K "_law_block" s_bs
 a_bt:At K "_law_plan" s_bt
 a_ao:At K "must" s_ao
 a_bg:At K "is_name" s_bg
 a_bf:At K "is_above_nought" s_bf
 a_be:At K "read_whole" s_be
 a_bd:At K "read_weight" s_bd
 a_bc:At K "read_term" s_bc
 a_bh:At K "must_be_in_order" s_bh
 a_bb:At K "read_added" s_bb
 a_ba:At K "read_sum" s_ba
 a_ax:At K "read_measure" s_ax
 a_az:At K "read_row" s_az
 a_ay:At K "read_rows" s_ay
 a_aq:At K "read_names" s_aq
 a_aw:At K "read_plain" s_aw
 a_au:At K "read_opening" s_au
 a_ar:At K "read_heading" s_ar
 a_av:At K "read_turning" s_av
 a_ap:At K "read_line" s_ap
 a_an:At K "read" s_an
 a_ak:At K "shown_added" s_ak
 a_ai:At K "shown_row" s_ai
 a_aj:At K "shown_sum" s_aj
 a_ah:At K "shown_rows" s_ah
 a_ag:At K "shown_line" s_ag
 a_af:At K "one_deeper" s_af
 a_ad:At K "branch_parts" s_ad
 a_ae:At K "loop_parts" s_ae
 a_ac:At K "parts_of" s_ac
 a_ab:At K "shown" s_ab
 a_bv:At K "_law_joined" s_bv
 a_bw:At K "_law_sum_line" s_bw
 a_bx:At K "_law_rows_line" s_bx
 a_bz:At K "_law_lines" s_bz
 a_ca:At K "_law_lines_of" s_ca
 a_cb:At K "_law_all_lines" s_cb
 a_cc:At K "_law_wild" s_cc
 a_ce:At K "_law_tried" s_ce
 a_cd:At K "_law_closed" s_cd
 a_cf:At K "law" s_cf
 g_MOST_ROWS:∃ v,Bn K mainGlobals "MOST_ROWS"=some (some v)/\G5 (.int 2) v
 z_range:Bn K mainGlobals "range"=some none
 z_abs:Bn K mainGlobals "abs"=some none
 z_int:Bn K mainGlobals "int"=some none
 z_len:Bn K mainGlobals "len"=some none
 z_tuple:Bn K mainGlobals "tuple"=some none
 z_sorted:Bn K mainGlobals "sorted"=some none
 z_min:Bn K mainGlobals "min"=some none
 z_all:Bn K mainGlobals "all"=some none
 z_set:Bn K mainGlobals "set"=some none
 z_enumerate:Bn K mainGlobals "enumerate"=some none
 z_str:Bn K mainGlobals "str"=some none
 z_list:Bn K mainGlobals "list"=some none
 z_isinstance:Bn K mainGlobals "isinstance"=some none
 z_reversed:Bn K mainGlobals "reversed"=some none
 g_LETTERS:∃ v,Bn K mainGlobals "LETTERS"=some (some v)/\G5 (.str "abcdefghijklmnopqrstuvwxyz") v
 g_FIGURES:∃ v,Bn K mainGlobals "FIGURES"=some (some v)/\G5 (.str "0123456789") v
 g_STEP:∃ v,Bn K mainGlobals "STEP"=some (some v)/\G5 (.str "  ") v
 p_W:Bn K mainGlobals "WORDS"=some (some (.ref aW))
 d_W:Two K w aW ">=" "least" ">" "more"
 ne_W:(aW == sysModules)=false
 cl:ClsI K "Opened" C
 m_init:AtM K C "__init__" "Opened.__init__" s_al
 m_closed:AtM K C "closed" "Opened.closed" s_am
 n_p:A6 K (.ref C) "parts"=some none
 n_b:A6 K (.ref C) "blocks"=some none
 p_S:Bn K mainGlobals "SIGNS"=some (some (.ref aS))
 d_S:Two K w aS "least" ">=" "more" ">"
 k_T:ClsT K "NoText" "NoText.__init__" s_aa cT p0
 f_T:A6 K (.ref cT) "line"=some none
theorem QY{K:Ad}{h:Heap}(T:Txt K w aW C aS cT p0)(X:K.In h)(G:h.Ns mainGlobals mg)(I:mg "law"=some (.ref fa)) :
  ∃ fd:FuncData,(∀(s:Shared) (v:Value),BindsTo s fd #v[[v],[]] [("_law_script",v)])/\∀ base:Heap,K.In base->base.Ns mainGlobals mg->F8 P w K mg base CX0 17 fa fd P_cf (aD K spLaw):=by
 tm_at "gA bj1 bk2 bi2 bm1 bn2 bo2 bu1 bp2 bl1 bq3 br4 bs3 bt3 ao2 bg1 bf1 be2 bd2 bc2 bh2 bb2 ba2 ax2 az2 ay2 aq2 aw2 au2 ar4 av3 ap4 an1 ak2 ai1 aj1 ah1 ag1 af2 ad5 ae2 ac2 ab1 bv2 bw1 bx1 bz2 ca2 cb1 cc2 ce1 cd1"
 let ⟨f_cf,d_cf,F_cf,m_cf⟩:=T.a_cf.get X G
 have e:=I.symm.trans m_cf
 cases e
 tm_at "gG MOST_ROWS LETTERS FIGURES STEP"
 have V:mg "WORDS"=some (.ref aW):=Dw X G T.p_W
 have mS:mg "SIGNS"=some (.ref aS):=Dw X G T.p_S
 have L:mg "NoText"=some (.ref cT):=Dw X G T.k_T.ns
 have J:=T.k_T.fld T.f_T
 have O:mg "Opened"=some (.ref C):=Dw X G T.cl.ns
 have OK:OpK K C:=#v[T.cl.cls,T.n_p,T.n_b]
 let ⟨f_Oi,d_Oi,F_Oi,m_Oi⟩:=T.m_init.get
 let ⟨f_Oc,d_Oc,F_Oc,m_Oc⟩:=T.m_closed.get
 have b_Oi:=F_Oi.binds (ps:=P_al) λ_ _ _ _ _ _ us hl=>ul 2 us hl (λ_ _=>rfl)
 have b_Oc:=F_Oc.binds (ps:=P_am) λ_ _ _ _ _ _ us hl=>ul 1 us hl (λ_=>rfl)
 tm_at "zZ range abs int len tuple sorted min all set enumerate str list isinstance reversed"
 exists d_cf,?_,λbase _ _=>?_
 ·let ⟨oc,od,kV,Y,Z,an,cdv,ct,S,rfl,_,_⟩:=F_cf.ex
  exact λs v=>.of_eq rfl
 tm_at "cC bj ok_l_purse z_range z_abs"
 tm_at "cC bk ok_l_take z_int"
 tm_at "cC bi ok_l_cell z_len"
 tm_at "cC bm ok_l_number C_l_take"
 tm_at "cC bn ok_l_terms z_tuple C_l_number"
 tm_at "cC bo ok_l_sum C_l_take C_l_terms C_l_number"
 tm_at "cC bu ok_l_names z_tuple z_sorted z_range"
 tm_at "cC bp ok_l_row C_l_take C_l_terms C_l_number"
 tm_at "cC bl ok_l_next z_len C_l_purse"
 tm_at "cD bq C_l_statement4 ok_l_statement d4 k4 3 z_len z_tuple z_range z_min C_l_next C_l_take C_l_row C_l_sum - -"
 tm_at "cD bs C_l_block4 ok_l_block d4 k5 1 z_tuple z_range C_l_next C_l_take C_l_statement4"
 tm_at "cD br C_l_loop3 ok_l_loop d3 k6 3 z_tuple z_range z_abs C_l_take C_l_row C_l_sum C_l_number C_l_block4"
 tm_at "cD bq C_l_statement3 ok_l_statement d3 k7 3 z_len z_tuple z_range z_min C_l_next C_l_take C_l_row C_l_sum ^C_l_loop3 ~C_l_block4"
 tm_at "cD bs C_l_block3 ok_l_block d3 k8 1 z_tuple z_range C_l_next C_l_take C_l_statement3"
 tm_at "cD br C_l_loop2 ok_l_loop d2 k9 3 z_tuple z_range z_abs C_l_take C_l_row C_l_sum C_l_number C_l_block3"
 tm_at "cD bq C_l_statement2 ok_l_statement d2 k10 3 z_len z_tuple z_range z_min C_l_next C_l_take C_l_row C_l_sum ^C_l_loop2 ~C_l_block3"
 tm_at "cD bs C_l_block2 ok_l_block d2 k11 1 z_tuple z_range C_l_next C_l_take C_l_statement2"
 tm_at "cD br C_l_loop1 ok_l_loop d1 k12 3 z_tuple z_range z_abs C_l_take C_l_row C_l_sum C_l_number C_l_block2"
 tm_at "cD bq C_l_statement1 ok_l_statement d1 k13 3 z_len z_tuple z_range z_min C_l_next C_l_take C_l_row C_l_sum ^C_l_loop1 ~C_l_block2"
 have C_l_plan:Cal P w K mg base 15 "_law_plan" (spPlan):=lO F_bt (BJ (k:=14) (by decide) F_bt z_tuple z_range z_len C_l_purse C_l_take C_l_row C_l_statement1) b_bt m_bt
 have C_must:Cal P w K mg base 1 "must" (spMustR):=lO F_ao (KS F_ao ) b_ao m_ao
 tm_at "cC bg ok_is_name z_len g_LETTERS"
 tm_at "cC bf ok_is_above_nought z_all g_FIGURES"
 tm_at "cC be ok_read_whole z_int C_must C_is_above_nought"
 tm_at "cC bd ok_read_weight z_int C_must C_is_above_nought"
 tm_at "cC bc ok_read_term C_must C_is_name C_read_weight"
 tm_at "cC bh ok_must_be_in_order z_sorted z_set C_must"
 tm_at "cC bb ok_read_added z_len z_range z_tuple C_must C_read_weight C_read_term C_must_be_in_order"
 tm_at "cC ba ok_read_sum z_len C_must C_read_whole C_read_added"
 tm_at "cC ax ok_read_measure z_len C_must C_read_whole C_read_sum"
 have C_read_row:Cal P w K mg base 5 "read_row" (spRowR):=lO F_az (uQ F_az z_len T.d_W T.ne_W V C_must C_read_whole C_read_added) b_az m_az
 tm_at "cC ay ok_read_rows z_len z_tuple g_MOST_ROWS C_must C_read_row"
 tm_at "cC aq ok_read_names z_len z_all z_tuple C_must C_is_name C_must_be_in_order"
 tm_at "cC aw ok_read_plain z_len C_must C_is_name C_read_rows C_read_sum"
 tm_at "cC au ok_read_opening z_len C_must C_read_row"
 have K_Opened:Kls P w K mg base 1 "Opened" C (spInitO C):=#v[#v[f_Oi,d_Oi,P_al,oQ F_Oi OK,T.cl.mk_ m_Oi,b_Oi],O]
 have M_closed:CalM P w K mg base 1 C "closed" (spClosed C):=#v[T.cl.cls,f_Oc,d_Oc,P_am,lH F_Oc z_tuple OK,m_Oc,b_Oc]
 tm_at "cC ar ok_read_heading OK C_must C_read_rows C_read_measure"
 tm_at "cC av ok_read_turning OK z_len C_must M_closed"
 tm_at "cC ap ok_read_line OK z_len g_STEP K_Opened C_must C_read_names C_read_heading C_read_opening C_read_turning C_read_plain"
 have r_NoText:Mkr P w K mg base 1 "NoText" cT p0 ["line"]:=T.k_T.mkr (ps:=P_aa) X G (λ_ _ F=>oR F J) λ_ _ F=>F.binds λ_ _ _ _ _ _ us hl=>ul 2 us hl (λ_ _=>rfl)
 have D_must:CalX P w K mg base 3 "must" (sN cT):=MA F_ao (HH F_ao r_NoText) b_ao m_ao
 have D_read:CalX P w K mg base 9 "read" (sO cT):=MA F_an (HI F_an OK z_len z_enumerate D_must C_read_line M_closed) b_an m_an
 tm_at "cC ak ok_shown_added z_len z_str z_abs"
 have C_shown_row:Cal P w K mg base 2 "shown_row" (spShRow):=lO F_ai (sP F_ai z_str T.d_S mS C_shown_added) b_ai m_ai
 tm_at "cC aj ok_shown_sum z_str C_shown_added"
 tm_at "cC ah ok_shown_rows C_shown_row"
 tm_at "cC ag ok_shown_line C_shown_sum C_shown_rows"
 have C_one_deeper:Cal P w K mg base 1 "one_deeper" (spDeeper):=lO F_af (pG F_af ) b_af m_af
 tm_at "cC ad ok_branch_parts C_one_deeper"
 tm_at "cC ae ok_loop_parts z_len z_str C_one_deeper C_shown_rows C_shown_sum C_shown_row"
 tm_at "cC ac ok_parts_of C_branch_parts C_loop_parts C_shown_row C_shown_line"
 tm_at "cC ab ok_shown z_len z_list z_str z_isinstance z_reversed g_STEP C_shown_rows C_parts_of"
 tm_at "cC bv ok_l_joined z_len z_str z_abs z_int"
 tm_at "cC bw ok_l_sum_line z_str C_l_joined"
 tm_at "cC bx ok_l_rows_line z_str z_int C_l_joined"
 tm_at "cD bz C_l_lines0 ok_l_lines n0 k2 1 -"
 tm_at "cD ca C_l_lines_of1 ok_l_lines_of n0 k3 1 z_str C_l_sum_line C_l_rows_line C_l_lines0"
 tm_at "cD bz C_l_lines1 ok_l_lines n1 k4 1 ^C_l_lines_of1"
 tm_at "cD ca C_l_lines_of2 ok_l_lines_of n1 k5 1 z_str C_l_sum_line C_l_rows_line C_l_lines1"
 tm_at "cD bz C_l_lines2 ok_l_lines n2 k6 1 ^C_l_lines_of2"
 tm_at "cD ca C_l_lines_of3 ok_l_lines_of n2 k7 1 z_str C_l_sum_line C_l_rows_line C_l_lines2"
 tm_at "cD bz C_l_lines3 ok_l_lines n3 k8 1 ^C_l_lines_of3"
 tm_at "cD ca C_l_lines_of4 ok_l_lines_of n3 k9 1 z_str C_l_sum_line C_l_rows_line C_l_lines3"
 tm_at "cD bz C_l_lines4 ok_l_lines n4 k10 1 ^C_l_lines_of4"
 tm_at "cC cb ok_l_all_lines C_l_rows_line C_l_lines4"
 tm_at "cC cc ok_l_wild z_tuple z_sorted z_set C_l_cell C_l_names C_l_plan"
 have C_l_tried:Cal P w K mg base 11 "_law_tried" spTried:=lO F_ce (xE F_ce D_read T.k_T.er J L) b_ce m_ce
 tm_at "cC cd ok_l_closed z_len z_list z_range z_reversed"
 exact QX F_cf z_len C_l_wild C_l_all_lines C_l_closed C_l_tried C_shown
end K23
local macro_rules | `(tactic| tm_at $s:str)=>K23.sT s
local macro_rules | `(#check tT $a:num*)=>K23.tT a
#check tT 12696335685065918172 9835643526112623907 11717856371033656798 13913097962385795727 7894800296650366267 16846943738524414510 4564332504434920756 2894929859228758711 2941589108902158333 5997200200054202845 10984049297883176550 4761375866947815836 13263773506895473477 15699874693164131648 7013147382188629765 7288714066799569124 6810081820145399219 4025084811820990104 8494685552633935386 15834618174009533210 8941768873061727197 1036184764364581383 18187660682722144966 11291105949018614507 1029343289337091059 12299946457351639232 2850718282009444223 17129404255823676001 17199862743536501521 1178808151450467205 3598489432420108506 17654232925074722551 2180925482504857679 17171410384155324457 12055354137221000717 8486985995527613712 16771918215899126440 16638290027739287319 122468940357244461 18087288754680503552 16899416822036975873 11081453319415273459 4170004914629402883 12052292763508004220 444297904672774518 8535470161053677634 9208381030967931358 17510625218257539555 4504438414884886242 3842395796948166713 8285042378816903658 17904896225138265456 12426619074164383476 5687561367862420503 1013210084534543241 7499303209483257704 1458488833723032576 14803152327886783801 2287412281816959025 11241412631197574413 7098697933711051486 10187156221267562763 550130523412412390 13444196006238275693 16491261924354507269 14357202237974088628 14998608468954142405 5610030735670990311 5382701379605165807 220367499317187865 886724774285755822 6880800528768940937 5233697777770251829 16509568015451753664 13688150793541677472 17818283720185616886 2969449483906406057 3472540062899348538 1246404125909548005 15499056580697805434 6407230667754436705 2710035641543837315 9664555847901451883 325226215740111305 15837992672276066949 16066635795899839406 6757605322012665428 16797449212577764880 759143021535133692 6708795875864220675 17450567945615365754 11271212839925743680 11079418472347325 16764979071086546304 58321541333867831 5868070516165938926 16827857948693106603 4201806810296482047 992477383263443447 15973282530440950504 9438924630448691450 15578866380516283431 10727532698287604963 15647128442950146830 11879483714981810358 1223066838177079117 9080269664959644311 4524274495807773183 5265168525525661716 7222175073616779383 9095210331671760765 11489316144786565318 9651901304528707982 13520268390925361259 12363577264375600080 14895166638925275347 15205414905463030252 8583195256848172631 12663814963219597463 11328734053722260481 7683764565865303395 17532572268939149239 628545047160787108 9915998417283068437 5768548350015175594 15681607643436242934 5171006854585575418 16383887737262939964 18223261967027624500 17827015963986113749 9561118206508078721 11914015937863599250 17288905168671738039 3744910043781339325 16594700342050100856 6027864125804681332 16985675156848247144 8500720807138670456 8368512707691325814 16920847726263670095 18435695460553501104 2544181394503261988 2997773171908913570 10255774733465258558 4308549687549219381 11719600031579761827 13435831414657791440 15950554079193993299 10526731041079719098 13227892951171760378 17232130348028014716 2154704510758405327 8300873916673432960 15189130082104515090 5792919283832722578 697670366098971706 451743602715758952 3804041530864422129 1342002963408773103 379122375942451240 7772895305079084174 11716061411370301798 18230156922889454390 3321498649007589889 8395053950962184567 1378094745485082318 1599940552468117526 15056179030631055313 1931212836823482238 16902989801428723027 12588478691497354878 2284204879834632911 14833069217255717633 12419229789169374396 13784810518313769825 14299050279337771968 17995804063857022618 9536647735329498390 7596259514511986060 14720538760787571355 1263390499027829179 8426836972245241902 9177662530376655883 8418017347461555621 2616701656220190464 2559170177493387977 10595083464810861983 4754273507617524883 5222319147484381791 2616557679279397606 16721141006388809266 8931728659954830231 5560429999381690701 17948362145844063581 8311342326930468764 15116226903285543566 8896204729144838547 4366853276583873119 2314413658890882300 5994276007470707163 1767304050336186765 16975314677891035182 12630420647897021149 5270906841252122035 13414161612882969368 12924974397191456604 16451360970779533704 5149662240421394862 3169047581794884015 13009762057325633820 1766673108956148986 14268114410311628215 12631494901909857449 2323212085423265039 13106358055160822790 16436738838800386085 2946392832696835267 6772982692438159874 5169614111394880656 3746304284771081180 17068439727471747036 7035999792239220204 8181341616069706423 12146970449747774963 17704749298528005307 7044214184347608361 2909881461810682052 5888024673530284064 12779373505414140979 11509702463412200177 98664663246782205 8918268920736265812 927641233199054977 13598848932061313339 2833584743566705544 10296208494586340584 17981307664637984101 15843164368934421403 4811822915028294979 9407941822396084133 10908580761257185440 13060188932605342817 13430674710309159241 5007301040596112891 9728477522407641884 9277691653861361881 516175256004565453 2748325938879607907 2943286203689598407 10703063782925649130 12898695882391136060 7264101779921090541 301280588987727578 14414081590019853091 14573327217568523696 6794578152478923356 5216310794932711327
open PySem PySem.W PyProof.Rows
set_option maxRecDepth 100000 in
set_option maxHeartbeats 0 in
theorem PySem.Challenge.cw_notekeep_k23_whole_beginnings_holds : PySem.Challenge.rw_notekeep_k23_whole_beginnings.Holds := by
  w_on; o_law; k_head; (case hw => w_witness2)
  k_fill
  refine D3.OH (l := PySem.Challenge.rw_notekeep_k23_whole_beginnings) (k := 17) (sp := K23.spLaw) (x := "_law_script") rfl rfl ⟨rfl, by decide, by decide⟩ K23.VC (fun w h Y => PySem.W.kIn_of Y) ?F
  case F =>
    intro w mg fa h KX G hmg
    obtain ⟨aW, C, aS, cT, p0, T⟩ : ∃ aW C aS cT p0, K23.Txt (L2.KOf KX) w aW C aS cT p0 := by
     dsimp only [L2.KOf]
     refine' ⟨_,_,_,_,_,KA.At.mk ?a0 ?l0 ?c0 ?k0,KA.At.mk ?a1 ?l1 ?c1 ?k1,KA.At.mk ?a2 ?l2 ?c2 ?k2,KA.At.mk ?a3 ?l3 ?c3 ?k3,KA.At.mk ?a4 ?l4 ?c4 ?k4,KA.At.mk ?a5 ?l5 ?c5 ?k5,KA.At.mk ?a6 ?l6 ?c6 ?k6,KA.At.mk ?a7 ?l7 ?c7 ?k7,KA.At.mk ?a8 ?l8 ?c8 ?k8,KA.At.mk ?a9 ?l9 ?c9 ?k9,KA.At.mk ?a10 ?l10 ?c10 ?k10,KA.At.mk ?a11 ?l11 ?c11 ?k11,KA.At.mk ?a12 ?l12 ?c12 ?k12,KA.At.mk ?a13 ?l13 ?c13 ?k13,KA.At.mk ?a14 ?l14 ?c14 ?k14,KA.At.mk ?a15 ?l15 ?c15 ?k15,KA.At.mk ?a16 ?l16 ?c16 ?k16,KA.At.mk ?a17 ?l17 ?c17 ?k17,KA.At.mk ?a18 ?l18 ?c18 ?k18,KA.At.mk ?a19 ?l19 ?c19 ?k19,KA.At.mk ?a20 ?l20 ?c20 ?k20,KA.At.mk ?a21 ?l21 ?c21 ?k21,KA.At.mk ?a22 ?l22 ?c22 ?k22,KA.At.mk ?a23 ?l23 ?c23 ?k23,KA.At.mk ?a24 ?l24 ?c24 ?k24,KA.At.mk ?a25 ?l25 ?c25 ?k25,KA.At.mk ?a26 ?l26 ?c26 ?k26,KA.At.mk ?a27 ?l27 ?c27 ?k27,KA.At.mk ?a28 ?l28 ?c28 ?k28,KA.At.mk ?a29 ?l29 ?c29 ?k29,KA.At.mk ?a30 ?l30 ?c30 ?k30,KA.At.mk ?a31 ?l31 ?c31 ?k31,KA.At.mk ?a32 ?l32 ?c32 ?k32,KA.At.mk ?a33 ?l33 ?c33 ?k33,KA.At.mk ?a34 ?l34 ?c34 ?k34,KA.At.mk ?a35 ?l35 ?c35 ?k35,KA.At.mk ?a36 ?l36 ?c36 ?k36,KA.At.mk ?a37 ?l37 ?c37 ?k37,KA.At.mk ?a38 ?l38 ?c38 ?k38,KA.At.mk ?a39 ?l39 ?c39 ?k39,KA.At.mk ?a40 ?l40 ?c40 ?k40,KA.At.mk ?a41 ?l41 ?c41 ?k41,KA.At.mk ?a42 ?l42 ?c42 ?k42,KA.At.mk ?a43 ?l43 ?c43 ?k43,KA.At.mk ?a44 ?l44 ?c44 ?k44,KA.At.mk ?a45 ?l45 ?c45 ?k45,KA.At.mk ?a46 ?l46 ?c46 ?k46,KA.At.mk ?a47 ?l47 ?c47 ?k47,KA.At.mk ?a48 ?l48 ?c48 ?k48,KA.At.mk ?a49 ?l49 ?c49 ?k49,KA.At.mk ?a50 ?l50 ?c50 ?k50,KA.At.mk ?a51 ?l51 ?c51 ?k51,⟨?t0,?u0,?r0⟩,?z0,?z1,?z2,?z3,?z4,?z5,?z6,?z7,?z8,?z9,?z10,?z11,?z12,?z13,⟨?ts0,?us0,?rs0⟩,⟨?ts1,?us1,?rs1⟩,⟨?ts2,?us2,?rs2⟩,?pW,D3.Two.mk' ?dW,?nW,D3.ClsI.mk' ?e0 ?e1 ?e2 ?e3 ?e4 ?e5 ?e6,D3.AtM.mk ?i0 ?i1 ?i2 ?i3 ?i4,D3.AtM.mk ?j0 ?j1 ?j2 ?j3 ?j4,?np,?nb,?pS,D3.Two.mk' ?dS,KA.ClsT.mk' ?y0 ?y1 ?y2 ?y3 ?y4 ?y5 ?y6 ?y7 ?y8 ?y9 ?y10,?fT⟩
     tm_at "kK 52"
     (case u0 => (with_unfolding_all exact rfl)); (case r0 => exact ⟨_, rfl⟩)
     tm_at "kL z0 z1 z2 z3 z4 z5 z6 z7 z8 z9 z10 z11 z12 z13"
     (case us0 => (with_unfolding_all exact rfl)); (case rs0 => exact ⟨_, rfl⟩)
     (case us1 => (with_unfolding_all exact rfl)); (case rs1 => exact ⟨_, rfl⟩)
     (case us2 => (with_unfolding_all exact rfl)); (case rs2 => exact ⟨_, rfl⟩)
     tm_at "kL pW dW"; (case nW => decide)
     tm_at "kL e0 e1 e2 e3 e4 e5 e6 i0 i1 i2 i3 i4 j0 j1 j2 j3 j4 np nb pS dS y0 y1 y2 y3 y4 y5 y6"; (case y7 => rfl); tm_at "kL y8 y9 y10 fT"
    exact K23.QY T KX G hmg
