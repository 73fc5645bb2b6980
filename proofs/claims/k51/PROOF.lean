import PyProof.Rows.All
import Wide.All
import OpenK.AllK
import Wide.FinOn
import Lean
import PyProof.EqAt
import PyProof.EqKinds
import PyProof.TupleCall
import PyProof.ListStr
import PyProof.ZipIter
import PyProof.ListMulRoad
import PyProof.FactsAll.tuple
import PyProof.RaisesMany
import PyProof.PassesOwn
import PyProof.ExcInit
import PyProof.ExcClass2
import PyProof.ExcClass3
import PyProof.InstStoreFacts
import PyProof.InstLoad
import PyProof.ExcArgsOwn
import PyProof.ExcAttrAll.ValueError
import PyProof.ExcBaseAll.ValueError
import OpenK.Peek
import PyProof.NsDelKeeps
import PyProof.RulesAs
import KE.KIsAll
import KE.KDictSum
import PyProof.ConsumeWalk
import PyProof.EnumMake
import KE.KRevIter
import KE.KEqDict
import PySem.Challenge.RW_notekeep_k51_met
set_option compiler.extract_closed false
set_option genSizeOf false
set_option bootstrap.genMatcherCode false
local macro_rules|`(tactic|omega)=>`(tactic|lia)
section
open Lean
set_option hygiene false
def pO:Nat→Syntax→MacroM (TSyntax `rcasesPat)
|0,_=>Macro.throwUnsupported
|n+1,s=>do
 if s.isOfKind ``Parser.Term.anonymousCtor then
  let p←s[1].getSepArgs.mapM (pO n)
  `(rcasesPat|⟨$[$p],*⟩)
 else if s.isIdent then `(rcasesPat|$(⟨s⟩):ident)
 else if s.isOfKind ``Parser.Term.hole then `(rcasesPat|_)
 else if s.isOfKind ``Parser.Term.paren then pO n s[1]
 else Macro.throwUnsupported
def hI:Nat→Syntax→Nat
|0,_=>0
|n+1,s=>if s.isOfKind ``Parser.Term.syntheticHole then 1 else if s.isOfKind ``Parser.Term.byTactic then 0 else s.getArgs.foldl (λk x=>k+hI n x) 0
def iP (s:Syntax):=s.isOfKind ``Parser.Term.anonymousCtor
def fP (bs:Array Syntax) (b:Term):MacroM Term:=do
 match bs.findIdx? iP with
 |none=>Macro.throwUnsupported
 |some i=>
  if hI 99 b≠0 then Macro.throwUnsupported
  let p←pO 20 bs[i]!
  let m (xs:Array Syntax) (b:Term):MacroM Term:=if xs.isEmpty then pure b else do
   let ys:TSyntaxArray ``Parser.Term.funBinder:=xs.map (⟨·⟩)
   `(fun $ys*=>$b)
  let c←m (bs.extract (i+1) bs.size) b
  m (bs.extract 0 i) (←`(by rintro ($p);exact $c))
def lP (p:Syntax) (v b:Term):MacroM Term:=do
 if iP p&&hI 99 b==0 then
  let p←pO 20 p
  `(by obtain $p :=$v;exact $b)
 else Macro.throwUnsupported
def oP (h:Syntax):Nat→Syntax→StateM (Option (Array Syntax)) Syntax
|0,s=>pure s
|n+1,s=>do
 if s.isOfKind ``Parser.Term.byTactic then return s
 match s with
 |`(fun $bs*=>?_)=>
  let bs:=bs.map (·.raw)
  if bs.any iP then set (some bs);return h else return s
 |_=>return s.setArgs (←s.getArgs.mapM (oP h n))
def rP (t:Term):MacroM (TSyntax `tactic):=do
 if hI 99 t≠1 then Macro.throwUnsupported
 let (t,o):=(oP (←`(?_)) 99 t).run none
 match o with
 |none=>Macro.throwUnsupported
 |some bs=>
  let ps←bs.mapM λb=>do let p←pO 20 b;`(rintroPat|$p:rcasesPat)
  `(tactic|(refine $(⟨t⟩);rintro $ps*))
end
local macro_rules|`(fun $bs*=>$b)=>fP (bs.map (·.raw)) b
local macro_rules|`(let $p:term:=$v;$b)=>lP p v b
local macro_rules|`(tactic|refine $t)=>rP t
set_option Elab.async false
set_option linter.all false
set_option maxRecDepth 100000
namespace L2
open PySem PySem.Spec PyProof.Rows
abbrev Key:=Sum Int Str
def keyIs:Key->Value->Bool
 | .inl k,v=>Value.isInt k v
 | .inr x,v=>Value.isStrOf x v
def keyH (w:World):Key->Int
 | .inl k=>hashInt k
 | .inr x=>hashStr w x
theorem keyIs_shape:∀ {k:Key} {v:Value},keyIs k v=true->(∃ i t,k=Sum.inl i/\v=Value.int i t)\/(∃ x t,k=Sum.inr x/\v=Value.str x t)
 | .inl i,v,h=>by
  obtain ⟨t,e⟩:=Value.isInt_shape (k:=i) (v:=v) h
  exact .inl ⟨i,t,rfl,e⟩
 | .inr x,v,h=>by
  obtain ⟨t,e⟩:=Value.isStrOf_shape (x:=x) (v:=v) h
  exact .inr ⟨x,t,rfl,e⟩
theorem keyIs_int (i:Int) (t:Tok):keyIs (.inl i) (.int i t)=true:=by simp [keyIs,Value.isInt]
theorem keyIs_str (x:Str) (t:Tok):keyIs (.inr x) (.str x t)=true:=by simp [keyIs,Value.isStrOf]
theorem key_ll (a b:Int):decide ((Sum.inl a:Key)=Sum.inl b)=(a == b):=by
 by_cases e:a=b
 ·subst e;simp
 ·have h:¬ (Sum.inl a:Key)=Sum.inl b:=fun q=>e (Sum.inl.inj q)
  rw [decide_eq_false h]
  exact (beq_eq_false_iff_ne.mpr e).symm
theorem key_rr (a b:Str):decide ((Sum.inr a:Key)=Sum.inr b)=decide (a=b):=by
 by_cases e:a=b
 ·subst e;simp
 ·have h:¬ (Sum.inr a:Key)=Sum.inr b:=fun q=>e (Sum.inr.inj q)
  rw [decide_eq_false h,decide_eq_false e]
theorem key_lr (a:Int) (b:Str):decide ((Sum.inl a:Key)=Sum.inr b)=false:=decide_eq_false (fun q=>nomatch q)
theorem key_rl (a:Str) (b:Int):decide ((Sum.inr a:Key)=Sum.inl b)=false:=decide_eq_false (fun q=>nomatch q)
def mixKind (prog:Program) (w:World):PySem.KeyKind prog w Key where
 is:=keyIs
 hash:=keyH w
 inj:=fun v a b ha hb=>by
  rcases keyIs_shape ha with ⟨i,t,rfl,rfl⟩ | ⟨x,t,rfl,rfl⟩
  ·rcases keyIs_shape hb with ⟨j,u,rfl,e⟩ | ⟨y,u,rfl,e⟩
   ·injection e with e1 _;rw [e1]
   ·exact nomatch e
  ·rcases keyIs_shape hb with ⟨j,u,rfl,e⟩ | ⟨y,u,rfl,e⟩
   ·exact nomatch e
   ·injection e with e1 _;rw [e1]
 byValue:=fun k v h=>by
  rcases keyIs_shape h with ⟨i,t,rfl,rfl⟩ | ⟨x,t,rfl,rfl⟩<;>rfl
 pyHash:=fun hv h=>by
  rcases keyIs_shape hv with ⟨i,t,rfl,rfl⟩ | ⟨x,t,rfl,rfl⟩
  ·exact wpAny_pyHash_int h
  ·exact wpAny_pyHash_str h
 eqBool:=fun hu hv h=>by
  rcases keyIs_shape hu with ⟨i,t,rfl,rfl⟩ | ⟨x,t,rfl,rfl⟩
  ·rcases keyIs_shape hv with ⟨j,u,rfl,rfl⟩ | ⟨y,u,rfl,rfl⟩
   ·rw [key_ll] at h;exact wpAny_eqBool_int h
   ·rw [key_lr] at h;exact SeqAt.EqAt.int_str i t y u _ _ _ _ h
  ·rcases keyIs_shape hv with ⟨j,u,rfl,rfl⟩ | ⟨y,u,rfl,rfl⟩
   ·rw [key_rl] at h;exact SeqAt.EqAt.str_int x t j u _ _ _ _ h
   ·rw [key_rr] at h;exact wpAny_eqBool_str h
 «strs»:=fun k x t v h=>by
  rcases keyIs_shape h with ⟨i,u,rfl,e⟩ | ⟨y,u,rfl,e⟩
  ·exact nomatch e
  ·injection e with e1 _
   subst e1
   cases v<;>rfl
theorem mixKind_int (prog:Program) (w:World) (i:Int) (t:Tok):(mixKind prog w).is (.inl i) (.int i t)=true:=keyIs_int i t
theorem mixKind_str (prog:Program) (w:World) (x:Str) (t:Tok):(mixKind prog w).is (.inr x) (.str x t)=true:=keyIs_str x t
end L2
namespace L2
open PySem PySem.Spec PyProof.Rows
inductive V where
 | non | bl (b:Bool) | int (i:Int) | str (x:Str) | byt (b:Array UInt8) | flt (b:UInt64) | ref (a:Addr) | ty (n:String)
 deriving DecidableEq
def RelV:V->Value->Prop
 | .non,u=>u=Value.none
 | .bl b,u=>u=Value.bool b
 | .int i,u=>∃ t,u=Value.int i t
 | .str x,u=>∃ t,u=Value.str x t
 | .byt b,u=>∃ t,u=Value.bytes b t
 | .flt b,u=>∃ t,u=Value.float b t
 | .ref a,u=>u=Value.ref a
 | .ty n,u=>u=Value.type n
abbrev Vals:List V->List Value->Prop:=Paired RelV
theorem Vals.length {xs:List V} {us:List Value} (r:Vals xs us):xs.length=us.length:=Paired.length r
theorem Vals.get:∀ {xs:List V} {us:List Value} {i:Nat} {x:V},Vals xs us->xs[i]?=some x->∃ u,us[i]?=some u/\RelV x u
 | _,_,_,_,.nil,e=>by simp at e
 | _,_,0,_,.cons r _,e=>by simp at e;subst e;exact ⟨_,rfl,r⟩
 | _,_,i+1,x,.cons _ t,e=>by
  obtain ⟨u,h1,h2⟩:=Vals.get (i:=i) (x:=x) t (by simpa using e)
  exact ⟨u,by simpa using h1,h2⟩
theorem Vals.set {x:V} {u:Value} (r:RelV x u):∀ {xs:List V} {us:List Value} (i:Nat),Vals xs us->Vals (xs.set i x) (us.set i u)
 | _,_,_,.nil=>.nil
 | _,_,0,.cons _ t=>.cons r t
 | _,_,i+1,.cons q t=>.cons q (Vals.set r i t)
theorem Vals.append:∀ {xs ys:List V} {us ws:List Value},Vals xs us->Vals ys ws->Vals (xs++ys) (us++ws)
 | _,_,_,_,.nil,s=>s
 | _,_,_,_,.cons r t,s=>.cons r (Vals.append t s)
theorem Vals.take:∀ {xs:List V} {us:List Value} (n:Nat),Vals xs us->Vals (xs.take n) (us.take n)
 | _,_,0,_=>.nil
 | _,_,_+1,.nil=>.nil
 | _,_,n+1,.cons r t=>.cons r (Vals.take n t)
theorem Vals.drop:∀ {xs:List V} {us:List Value} (n:Nat),Vals xs us->Vals (xs.drop n) (us.drop n)
 | _,_,0,r=>r
 | _,_,_+1,.nil=>.nil
 | _,_,n+1,.cons _ t=>Vals.drop n t
def RelO:Option V->Option Value->Prop
 | some v,some u=>RelV v u
 | none,none=>True
 | _,_=>False
def KV {κ:Type}:List (κ × V)->List (κ × Value)->Prop:=Paired fun (p:κ × V) (q:κ × Value)=>p.1=q.1/\RelV p.2 q.2
def kV:Key->V
 | .inl i=>.int i
 | .inr x=>.str x
inductive HO where
 | lst (xs:List V)
 | tup (xs:List V)
 | dK (kvs:List (Key × V)) | dT (kvs:List (List Key × V))
 | set (S:Int->Bool) (n:Nat)
 | ins (C dx:Addr) (fs:List (Str × V))
 | own (x:Addr)
 | xd (fs:List (Str × V))
 | met (f x:Addr)
 | rng (lo hi:Int)
 | frz (o:Obj) (u:HO)
 | tbl (ps:Array Value)
 | ext (φ:Heap->Prop)
abbrev Hp:=Addr->Option HO
def upd (H:Hp) (a:Addr) (o:HO):Hp:=fun b=>if b=a then some o else H b
theorem upd_same {H:Hp} {a:Addr} {o:HO}:upd H a o a=some o:=by unfold upd;rw [if_pos rfl]
theorem upd_ne {H:Hp} {a b:Addr} {o:HO} (h:b≠a):upd H a o b=H b:=by unfold upd;rw [if_neg h]
theorem ne_of {H:Hp} {a b:Addr} {o u:HO} (h:H a=some o) (h':H b=some u) (d:o≠u):a≠b:=by
 intro e;subst e;rw [h] at h';exact d (Option.some.inj h')
theorem ne_of_none {H:Hp} {a b:Addr} {o:HO} (h:H a=some o) (h':H b=none):a≠b:=by
 intro e;subst e;rw [h] at h';cases h'
section
variable (P:Program) (w:World)
def ObjOk (H:Hp) (h:Heap) (a:Addr):HO->Prop
 | .lst xs=>xs.length<=sizeLine/\∃ (its:List Value) (n:Nat),Vals xs its/\h.get? a=some { cls:=.type "list",data:=.seq its.toArray n }
 | .tup xs=>(xs.length<=sizeLine/\∃ o,h.get? a=some o/\o.dict=none)/\∃ its:List Value,Vals xs its/\IsTup h a its.toArray
 | .dK kvs=>kvs.length<=sizeLine/\(a == sysModules)=false/\∃ vs,KV kvs vs/\h.DictOf (mixKind P w) a vs
 | .dT kvs=>kvs.length<=sizeLine/\(a == sysModules)=false/\∃ xs:List (List Key × Addr × Value),
   Paired (fun (p:List Key × V) (q:List Key × Addr × Value)=>p.1=q.1/\H q.2.1=some (.tup (p.1.map kV))/\RelV p.2 q.2.2) kvs xs /\
   ∃ o es ep,h.get? a=some o/\o.ExactDict/\o.data=.dict es ep/\es.toList=xs.map (entryOfKey (tupleKind (mixKind P w)))/\(xs.map (·.1)).Nodup
 | .set S n=>h.SetOf (intKind P w) a S n
 | .ins C dx fs=>H dx=some (.own a)/\fs.length<=1000/\dx≠a/\h.get? a=some (PySem.W.instObj C dx) /\
   ∃ mA,h.Ns1 dx mA/\(∀ f,RelO (fs.lookup f) (mA f))/\PySem.Within mA (fs.map (·.1))
 | .own _=>∃ o,h.get? a=some o
 | .xd fs=>∃ mA,h.Ns1 a mA/\∀ f,RelO (fs.lookup f) (mA f)
 | .rng lo hi=>∃ t u v,h.get? a=some { cls:=.type "range",data:=.fields #[.int lo t,.int hi u,.int 1 v] }
 | .frz o u=>h.get? a=some o/\ObjOk H h a u
 | .tbl ps=>h.get? a=some { cls:=.none,data:=.fields ps }
 | .met f x=>h.get? a=some (PySem.W.methodObj (.ref f) (.ref x))
 | .ext φ=>φ h/\(∃ o,h.get? a=some o)/\∀ h1 h2:Heap,φ h1->(∀ o,h1.get? a=some o->h2.get? a=some o)->φ h2
def HOk (H:Hp) (h:Heap):Prop:=∀ a o,H a=some o->ObjOk P w H h a o
end
section
variable {P:Program} {w:World} {H H':Hp} {h h':Heap} {a:Addr} {o:HO}
theorem ObjOk.lt (x:ObjOk P w H h a o):a < h.objs.size:=by
 cases o with
 | lst xs=>obtain ⟨_,_,_,_,e⟩:=x;exact Heap.lt_size e
 | tup xs=>obtain ⟨_,_,_,p⟩:=x;exact p.lt
 | dK kvs=>obtain ⟨_,_,_,_,o,_,_,e,_⟩:=x;exact Heap.lt_size e
 | dT kvs=>obtain ⟨_,_,_,_,o,_,_,e,_⟩:=x;exact Heap.lt_size e
 | set S n=>obtain ⟨o,_,_,_,e,_⟩:=x;exact Heap.lt_size e
 | ins C dx fs=>obtain ⟨_,_,_,e,_⟩:=x;exact Heap.lt_size e
 | own y=>obtain ⟨_,e⟩:=x;exact Heap.lt_size e
 | xd fs=>obtain ⟨_,⟨_,_,_,e,_⟩,_⟩:=x;exact Heap.lt_size e
 | rng lo hi=>obtain ⟨_,_,_,e⟩:=x;exact Heap.lt_size e
 | frz ob u=>obtain ⟨e,_⟩:=x;exact Heap.lt_size e
 | tbl ps=>exact Heap.lt_size (show h.get? a=some _ from x)
 | met f y=>exact Heap.lt_size (show h.get? a=some _ from x)
 | ext φ=>obtain ⟨_,⟨_,e⟩,_⟩:=x;exact Heap.lt_size e
theorem Paired.mapP {α β:Type} {F G:α->β->Prop}:∀ {l₁:List α} {l₂:List β},Paired F l₁ l₂->(∀ a b,F a b->G a b)->Paired G l₁ l₂
 | _,_,.nil,_=>.nil
 | _,_,.cons r t,f=>.cons (f _ _ r) (Paired.mapP t f)
theorem ObjOk.stay (x:ObjOk P w H h a o) (k:∀ b u,(b=a\/H b=some (.own a))->h.get? b=some u->h'.get? b=some u)
  (ho:∀ b,H b=some (.own a)->H' b=some (.own a)) (ht:∀ b xs,H b=some (.tup xs)->H' b=some (.tup xs)):ObjOk P w H' h' a o:=by
 induction o with
 | lst xs=>obtain ⟨z,its,n,r,e⟩:=x;exact ⟨z,its,n,r,k _ _ (.inl rfl) e⟩
 | tup xs=>obtain ⟨⟨z,o2,e2,c2⟩,its,r,ob,e,c⟩:=x;exact ⟨⟨z,o2,k _ _ (.inl rfl) e2,c2⟩,its,r,ob,k _ _ (.inl rfl) e,c⟩
 | dK kvs=>obtain ⟨z,y,vs,r,ob,es,ep,e,c⟩:=x;exact ⟨z,y,vs,r,ob,es,ep,k _ _ (.inl rfl) e,c⟩
 | dT kvs =>
  obtain ⟨z,y,xs,r,ob,es,ep,e,c⟩:=x
  exact ⟨z,y,xs,Paired.mapP r fun p q z=>⟨z.1,ht _ _ z.2.1,z.2.2⟩,ob,es,ep,k _ _ (.inl rfl) e,c⟩
 | set S n=>obtain ⟨ob,es,ep,t,e,c⟩:=x;exact ⟨ob,es,ep,t,k _ _ (.inl rfl) e,c⟩
 | ins C dx fs =>
  obtain ⟨d,z,ne,e,mA,⟨od,es,ep,e2,c⟩,r⟩:=x
  exact ⟨ho _ d,z,ne,k _ _ (.inl rfl) e,mA,⟨od,es,ep,k _ _ (.inr d) e2,c⟩,r⟩
 | own y=>obtain ⟨ob,e⟩:=x;exact ⟨ob,k _ _ (.inl rfl) e⟩
 | xd fs=>obtain ⟨mA,⟨od,es,ep,e,c⟩,r⟩:=x;exact ⟨mA,⟨od,es,ep,k _ _ (.inl rfl) e,c⟩,r⟩
 | rng lo hi=>obtain ⟨t,u,v,e⟩:=x;exact ⟨t,u,v,k _ _ (.inl rfl) e⟩
 | frz ob u ih=>obtain ⟨e,q⟩:=x;exact ⟨k _ _ (.inl rfl) e,ih q⟩
 | tbl ps =>
  have e:h.get? a=some { cls:=.none,data:=.fields ps }:=x
  show h'.get? a=some { cls:=.none,data:=.fields ps }
  exact k a _ (.inl rfl) e
 | met f y =>
  have e:h.get? a=some (PySem.W.methodObj (.ref f) (.ref y)):=x
  show h'.get? a=some (PySem.W.methodObj (.ref f) (.ref y))
  exact k a _ (.inl rfl) e
 | ext φ=>obtain ⟨p,⟨o,e⟩,st⟩:=x;exact ⟨st _ _ p fun o q=>k _ _ (.inl rfl) q,⟨o,k _ _ (.inl rfl) e⟩,st⟩
theorem HOk.lt (x:HOk P w H h) (e:H a=some o):a < h.objs.size:=(x a o e).lt
theorem HOk.fresh (x:HOk P w H h) (e:h.objs.size<=a):H a=none:=by
 cases q:H a with
 | none=>rfl
 | some u=>exact absurd (Nat.lt_of_lt_of_le (x.lt q) e) (Nat.lt_irrefl _)
theorem HOk.kept (x:HOk P w H h) (k:∀ b u,h.get? b=some u->h'.get? b=some u):HOk P w H h':=fun a o e =>
 (x a o e).stay (fun b u _ q=>k b u q) (fun _ q=>q) fun _ _ q=>q
theorem HOk.laid (x:HOk P w H h) (k:∀ b u,h.get? b=some u->h'.get? b=some u) (hp:h.objs.size<=a) (new:ObjOk P w (upd H a o) h' a o):HOk P w (upd H a o) h':=fun b u e=>by
 have hn:=x.fresh hp
 by_cases hb:b=a
 ·subst hb;rw [upd_same] at e;cases e;exact new
 ·rw [upd_ne hb] at e
  exact (x b u e).stay (fun c v _ q=>k c v q) (fun c q=>by rw [upd_ne (ne_of_none q hn)];exact q) fun c xs q=>by rw [upd_ne (ne_of_none q hn)];exact q
end
def Rd (H:Hp) (a:Addr) (u:HO):Prop:=H a=some u\/∃ o,H a=some (.frz o u)
theorem Rd.ok {P:Program} {w:World} {H:Hp} {h:Heap} {a:Addr} {u:HO} (r:Rd H a u) (x:HOk P w H h):ObjOk P w H h a u:=by
 rcases r with r | ⟨o,r⟩
 ·exact x a u r
 ·obtain ⟨_,q⟩:=x a _ r
  exact q
def Mut:Option HO->Prop
 | some (.lst _)=>True
 | some (.dK _)=>True
 | some (.dT _)=>True
 | some (.set _ _)=>True
 | some (.ins _ _ _)=>True
 | some (.ext _)=>True
 | _=>False
section
variable {P:Program} {w:World} {H:Hp} {h h':Heap} {x e:Addr} {o':HO}
theorem HOk.write (ok:HOk P w H h) (mu:Mut (H x)) (he:e=x\/H e=some (.own x)) (k:∀ b u,b≠e->h.get? b=some u->h'.get? b=some u) (heo:∃ u,h'.get? e=some u)
  (new:ObjOk P w (upd H x o') h' x o'):HOk P w (upd H x o') h':=fun b u q=>by
 have nown:∀ c y,H c=some (.own y)->c≠x:=fun c y r z=>by subst z;rw [r] at mu;exact mu
 have ntup:∀ c xs,H c=some (.tup xs)->c≠x:=fun c xs r z=>by subst z;rw [r] at mu;exact mu
 by_cases hb:b=x
 ·subst hb;rw [upd_same] at q;cases q;exact new
 ·rw [upd_ne hb] at q
  by_cases hbe:b=e
  ·have q':H b=some (.own x):=by
    rcases he with z | z
    ·exact absurd (hbe.trans z) hb
    ·rw [hbe];exact z
   rw [q] at q';cases q'
   obtain ⟨v,hv⟩:=heo
   exact ⟨v,by rw [hbe];exact hv⟩
  ·refine (ok b u q).stay (fun c v hc r=>k c v ?_ r) (fun c r=>by rw [upd_ne (nown c b r)];exact r) fun c xs r=>by rw [upd_ne (ntup c xs r)];exact r
   rcases hc with rfl | hc
   ·exact hbe
   ·rintro rfl
    rcases he with z | z
    ·exact nown c b hc z
    ·rw [hc] at z;cases z;exact hb rfl
end
structure Un (fs ex:List Addr) (H H':Hp) (h h':Heap):Prop where
 keep:∀ b o,h.get? b=some o->H b=none->b∉fs->b∉ex->h'.get? b=some o
 slot:∀ b o,h.get? b=some o->H b=none->b∈fs->b∉ex->∃ sl,h'.get? b=some { o with slots:=sl }
 free:∀ b o,h.get? b=some o->H b=none->b∉ex->H' b=none
 there:∀ b o,h.get? b=some o->b∉ex->∃ o',h'.get? b=some o'
 tups:∀ b xs,H b=some (.tup xs)->H' b=some (.tup xs)
 frzs:∀ b o u,H b=some (.frz o u)->H' b=some (.frz o u)
 tbls:∀ b ps,H b=some (.tbl ps)->∃ more,H' b=some (.tbl (ps++more))
section
variable {fs fs' ex ex':List Addr} {H H1 H2:Hp} {h h1 h2 h':Heap} {a x e:Addr} {o:HO}
theorem Un.any (u:Un fs ex H H1 h h1) {b:Addr} {ob:Obj} (q:h.get? b=some ob) (n:H b=none) (hx:b∉ex):∃ sl,h1.get? b=some { ob with slots:=sl }:=by
 by_cases hb:b∈fs
 ·exact u.slot b ob q n hb hx
 ·exact ⟨ob.slots,u.keep b ob q n hb hx⟩
theorem Un.kept (k:∀ b u,h.get? b=some u->h'.get? b=some u):Un fs ex H H h h' :=
 ⟨fun b ob q _ _ _=>k b ob q,fun b ob q _ _ _=>⟨ob.slots,k b ob q⟩,fun _ _ _ n _=>n,fun b ob q _=>⟨ob,k b ob q⟩,fun _ _ q=>q,fun _ _ _ q=>q,fun _ ps q=>⟨#[],by rw [q];simp⟩⟩
theorem Un.refl:Un fs ex H H h h:=Un.kept fun _ _ q=>q
theorem Un.laid (k:∀ b u,h.get? b=some u->h'.get? b=some u) (hp:h.objs.size<=a) (hn:H a=none):Un fs ex H (upd H a o) h h' where
 keep:=fun b u q _ _ _=>k b u q
 slot:=fun b u q _ _ _=>⟨u.slots,k b u q⟩
 free:=fun b u q n _=>by rw [upd_ne (Nat.ne_of_lt (Nat.lt_of_lt_of_le (Heap.lt_size q) hp))];exact n
 there:=fun b u q _=>⟨u,k b u q⟩
 tups:=fun b xs q=>by rw [upd_ne (ne_of_none q hn)];exact q
 frzs:=fun b u xs q=>by rw [upd_ne (ne_of_none q hn)];exact q
 tbls:=fun b ps q=>⟨#[],by rw [upd_ne (ne_of_none q hn),q];simp⟩
theorem Un.write (mu:Mut (H x)) (he:e=x\/H e=some (.own x)) (k:∀ b u,b≠e->h.get? b=some u->h'.get? b=some u) (heo:∃ u,h'.get? e=some u):Un fs ex H (upd H x o) h h':=by
 have hx:∀ b,H b=none->b≠x:=fun b n z=>by subst z;rw [n] at mu;exact mu
 have hb:∀ b,H b=none->b≠e:=fun b n z=>by
  subst z
  rcases he with r | r
  ·exact hx b n r
  ·rw [n] at r;cases r
 have hm:∀ b u,H b=some u->¬ Mut (some u)->b≠x:=fun b u q nm z=>by subst z;rw [q] at mu;exact nm mu
 refine ⟨fun b u q n _ _=>k b u (hb b n) q,fun b u q n _ _=>⟨u.slots,k b u (hb b n) q⟩,fun b u q n _=>by rw [upd_ne (hx b n)];exact n,fun b u q _=>?_,
  fun b xs q=>by rw [upd_ne (hm b _ q fun z=>z)];exact q,fun b u xs q=>by rw [upd_ne (hm b _ q fun z=>z)];exact q,fun b ps q=>⟨#[],by rw [upd_ne (hm b _ q fun z=>z),q];simp⟩⟩
 by_cases hbe:b=e
 ·subst hbe;exact heo
 ·exact ⟨u,k b u hbe q⟩
end
def trk (h:Heap) (H:Hp):List Addr:=(List.range h.objs.size).filter fun a=>(H a).isSome
def hidT (h:Heap) (H:Hp):Heap:=PySem.W.hideAll h (trk h H)
theorem hidT_size (h:Heap) (H:Hp):(hidT h H).objs.size=h.objs.size:=PySem.W.hideAll_size _ _
theorem hidT_get {h:Heap} {H:Hp} {b:Addr} {o:Obj} (e:h.get? b=some o) (n:H b=none):(hidT h H).get? b=some o :=
 PySem.W.hideAll_get _ e fun hm=>by
  have q:(H b).isSome=true:=(List.mem_filter.mp hm).2
  rw [n] at q;simp at q
theorem of_hidT {h:Heap} {H:Hp} {b:Addr} {o:Obj} (e:(hidT h H).get? b=some o):h.get? b=some o/\H b=none:=by
 have e':h.get? b=some o:=PySem.W.of_hideAll (trk h H) e
 refine ⟨e',?_⟩
 cases q:H b with
 | none=>rfl
 | some x =>
  have hm:b∈trk h H:=List.mem_filter.mpr ⟨List.mem_range.mpr (Heap.lt_size e'),by simp [q]⟩
  have z:(hidT h H).get? b=none:=PySem.W.hideAll_none (trk h H) hm
  rw [z] at e;cases e
def allNews (g h:Heap) (L:Addr):List (Addr × Obj):=(List.range h.objs.size).filterMap fun a=>if a=L\/(g.get? a).isSome=true then none else (h.get? a).map fun o=>(a,o)
def rest (g h:Heap) (L d:Addr):List (Addr × Obj):=(allNews g h L).filter fun p=>decide (p.1≠d)
end L2
namespace L2
open PySem PySem.Spec PyProof.Rows
structure Mod (K:PySem.W.Frag) (mg:Str->Option Value) (base:Heap):Prop where
 kin:K.In base
 glob:base.Ns mainGlobals mg
 blt:∃ mb,base.Ns builtinsNs mb/\∀ x:Str,x ≠ "__name__" -> mb x=bootBuiltins x
 nolimit:base.NoLimit
 seer:base.NoSeer
structure Cx where
 prog:Program
 w:World
 K:PySem.W.Frag
 mg:Str->Option Value
 base:Heap
 A:Around
 N:List Str
 s₀:Shared
 H₀:Hp
 env:Env
 outer:List Env
 stack:List Env
 ex:List Addr
 fn:Str->Bool
 calm:Bool
 pn:List (Addr × Obj)
 xe:Value->Shared->Prop
def frs (l:List Env):List Addr:=l.filterMap (·.frame)
abbrev Cx.fs (X:Cx):List Addr:=frs X.outer
def Vis (sc:Scope) (x:Str):Prop:=sc.names.lookup x=some .local\/sc.names.lookup x=some .cell\/sc.names.lookup x=some .free
def Loc (sc:Scope) (x:Str):Prop:=sc.names.lookup x=some .local\/sc.names.lookup x=some .cell
def Look (env:Env) (h:Heap) (m:Str->Option Value) (x:Str) (u:Value):Prop :=
 (env.kindOf x=some .local/\m x=some u)\/((env.kindOf x=some .cell\/env.kindOf x=some .free)/\∃ c,env.cells.lookup x=some c/\h.IsCell c (some u))
structure Cx.Ok (X:Cx):Prop where
 mod:Mod X.K X.mg X.base
 kind:X.env.scope.kind=.function
 glob:X.env.globals=mainGlobals
 blt:X.env.builtins=builtinsNs
 above:X.s₀.heap.objs.size<=X.env.locals
 inj:∀ x y c,X.env.cells.lookup x=some c->X.env.cells.lookup y=some c->x=y
 has:∀ x,(X.env.kindOf x=some .cell\/X.env.kindOf x=some .free)->∃ c,X.env.cells.lookup x=some c
 cab:∀ x c,X.fn x=true->X.env.cells.lookup x=some c->X.s₀.heap.objs.size<=c
 hd:X.calm=true->X.A.handled=none
 frames:X.A.frames=some X.stack
 stk:X.stack=X.outer\/(X.stack=X.env :: X.outer/\X.env.frame=some X.env.locals)
 exf:∀ b∈X.ex,b≠X.env.locals/\∀ x c,X.env.cells.lookup x=some c->c≠b
 bs:∀ b o,X.base.get? b=some o->X.s₀.heap.get? b=some o/\X.H₀ b=none
 bsz:X.base.objs.size<=X.s₀.heap.objs.size
 noex:∀ b o,X.base.get? b=some o->b∉X.ex
 exfs:∀ b∈X.ex,b∉X.fs
 funs:X.s₀.heap.FunFrames X.base X.outer
 frf:∀ b∈X.fs,X.H₀ b=none
structure Inv (X:Cx) (pins:List (Addr × Obj)) (σ:List (Option V)) (H:Hp) (s:Shared):Prop where
 ok:X.Ok
 os:s.os=X.s₀.os
 bare:AllBare s.gens
 base:Un X.fs X.ex X.H₀ H X.s₀.heap s.heap
 loc:∃ m,s.heap.Ns X.env.locals m/\∀ (i:Nat) (x:Str) (v:V),X.N[i]?=some x->σ[i]?=some (some v)->Vis X.env.scope x->∃ u,RelV v u/\Look X.env s.heap m x u
 cell:∀ x c,X.env.cells.lookup x=some c->∃ v,s.heap.IsCell c v
 free:H X.env.locals=none
 freeC:∀ x c,X.env.cells.lookup x=some c->H c=none
 pin:∀ p∈X.pn++pins,s.heap.get? p.1=some p.2/\H p.1=none/\p.1≠X.env.locals/\p.1∉X.fs/\∀ v,p.2.data≠.cell v
 hok:HOk X.prog X.w H s.heap
 len:σ.length=X.N.length
section
variable {X:Cx} {pins:List (Addr × Obj)} {σ:List (Option V)} {H H':Hp} {s:Shared} {h':Heap}
theorem Cx.Ok.nofr (ok:X.Ok) {b:Addr} {o:Obj} (e:X.base.get? b=some o):b∉X.fs:=fun hb=>by
 have:=(ok.funs.mem hb).1
 rw [e] at this;cases this
theorem Inv.bs (I:Inv X pins σ H s):∀ b o,X.base.get? b=some o->s.heap.get? b=some o/\H b=none:=fun b o e =>
 ⟨I.base.keep b o (I.ok.bs b o e).1 (I.ok.bs b o e).2 (I.ok.nofr e) (I.ok.noex b o e),I.base.free b o (I.ok.bs b o e).1 (I.ok.bs b o e).2 (I.ok.noex b o e)⟩
theorem Inv.bk (I:Inv X pins σ H s):∀ b o,X.base.get? b=some o->s.heap.get? b=some o:=fun b o e=>(I.bs b o e).1
theorem Inv.mod (I:Inv X pins σ H s):Mod X.K X.mg X.base:=I.ok.mod
theorem Inv.kIn (I:Inv X pins σ H s):X.K.In s.heap:=I.ok.mod.kin.keeps I.bk
theorem Inv.nolimit (I:Inv X pins σ H s):s.heap.NoLimit:=I.ok.mod.nolimit.keeps I.bk
theorem Inv.lt (I:Inv X pins σ H s):X.env.locals < s.heap.objs.size:=let ⟨_,hn,_⟩:=I.loc;hn.lt
theorem Inv.sz (I:Inv X pins σ H s):X.s₀.heap.objs.size<=s.heap.objs.size:=Nat.le_trans I.ok.above (Nat.le_of_lt I.lt)
theorem Inv.nofs (I:Inv X pins σ H s) {a:Addr} (h:s.heap.objs.size<=a):a∉X.fs:=fun hb=>by
 obtain ⟨_,o,ho,_⟩:=I.ok.funs.mem hb
 exact absurd (Nat.lt_of_lt_of_le (Heap.lt_size ho) (Nat.le_trans I.sz h)) (Nat.lt_irrefl _)
theorem Inv.cne (I:Inv X pins σ H s):∀ x c,X.env.cells.lookup x=some c->c≠X.env.locals:=fun x c e z=>by
 obtain ⟨v,o,ho,hd⟩:=I.cell x c e
 obtain ⟨m,⟨o',es,ep,ho',hd',_⟩,_⟩:=I.loc
 rw [z,ho'] at ho;cases ho;rw [hd'] at hd;cases hd
theorem Inv.funs (I:Inv X pins σ H s):s.heap.FunFrames X.base X.outer:=by
 have all:∀ (l:List Env),(∀ b∈frs l,b∈X.fs)->X.s₀.heap.FunFrames X.base l->s.heap.FunFrames X.base l:=by
  intro l
  induction l with
  | nil=>intro _ _;trivial
  | cons env r ih =>
   intro hs hl
   obtain ⟨hk,⟨L,o,hf,hn,ho,hd⟩,hr⟩:=hl
   have hL:L∈X.fs:=hs L (by unfold frs;rw [List.filterMap_cons,hf];exact List.mem_cons_self)
   obtain ⟨sl,e⟩:=I.base.slot L o ho (I.ok.frf L hL) hL fun z=>I.ok.exfs L z hL
   exact ⟨hk,⟨L,_,hf,hn,e,hd⟩,ih (fun b hb=>hs b (by unfold frs;rw [List.filterMap_cons,hf];exact List.mem_cons_of_mem _ hb)) hr⟩
 exact all X.outer (fun _ hb=>hb) I.ok.funs
theorem Inv.stack (I:Inv X pins σ H s):s.heap.FunFrames X.base X.stack:=by
 rcases I.ok.stk with e | ⟨e,hf⟩
 ·rw [e];exact I.funs
 ·rw [e]
  obtain ⟨m,hn,_⟩:=I.loc
  refine .cons (by rw [I.ok.kind];decide) hf hn ?_ I.funs
  exact Heap.get?_none_of_le (Nat.le_trans I.ok.bsz I.ok.above)
theorem Inv.stkSub (I:Inv X pins σ H s):∀ b∈frs X.stack,b∈X.env.locals :: X.fs:=fun b hb=>by
 rcases I.ok.stk with e | ⟨e,hf⟩
 ·rw [e] at hb;exact List.mem_cons_of_mem _ hb
 ·rw [e] at hb
  unfold frs at hb
  rw [List.filterMap_cons,hf] at hb
  exact hb
theorem Inv.stkFree (I:Inv X pins σ H s):∀ b∈frs X.stack,H b=none:=fun b hb=>by
 rcases List.mem_cons.mp (I.stkSub b hb) with e | hb
 ·rw [e];exact I.free
 ·obtain ⟨_,o,ho,_⟩:=I.ok.funs.mem hb
  exact I.base.free b o ho (I.ok.frf b hb) fun z=>I.ok.exfs b z hb
theorem Inv.step {g':Array GenState} {t':Nat} {d':Drawn} {ch:List Addr} (I:Inv X pins σ H s)
  (hch:∀ b∈ch,(b∈X.ex\/X.s₀.heap.objs.size<=b)/\b≠X.env.locals/\(∀ x c,X.env.cells.lookup x=some c->c≠b)/\∀ p∈X.pn++pins,p.1≠b)
  (keep:∀ b o,b≠X.env.locals->b∉X.fs->b∉ch->s.heap.get? b=some o->H b=none->h'.get? b=some o)
  (slot:∀ b o,b≠X.env.locals->b∈X.fs->b∉ch->s.heap.get? b=some o->H b=none->∃ sl,h'.get? b=some { o with slots:=sl }) (free:∀ b o,b∉ch->s.heap.get? b=some o->H b=none->H' b=none)
  (there:∀ b o,b∉ch->s.heap.get? b=some o->∃ o',h'.get? b=some o')
  (tups:∀ b xs,H b=some (.tup xs)->H' b=some (.tup xs)) (frzs:∀ b o u,H b=some (.frz o u)->H' b=some (.frz o u)) (tbls:∀ b ps,H b=some (.tbl ps)->∃ more,H' b=some (.tbl (ps++more)))
  (ns:∀ m,s.heap.Ns X.env.locals m->h'.Ns X.env.locals m) (hok:HOk X.prog X.w H' h') (hg:AllBare g') :
  Inv X pins σ H' { s with heap:=h',gens:=g',drawn:=d',toks:=t' }:=by
 have neL:∀ b o,X.s₀.heap.get? b=some o->b≠X.env.locals:=fun b o e=>Nat.ne_of_lt (Nat.lt_of_lt_of_le (Heap.lt_size e) I.ok.above)
 have neC:∀ b o,X.s₀.heap.get? b=some o->b∉X.ex->b∉ch:=fun b o e hx hb=>by
  rcases (hch b hb).1 with z | z
  ·exact hx z
  ·exact absurd (Nat.lt_of_lt_of_le (Heap.lt_size e) z) (Nat.lt_irrefl _)
 have cellK:∀ x c,X.env.cells.lookup x=some c->∀ v,s.heap.IsCell c v->h'.IsCell c v:=fun x c e v ⟨o,ho,hd⟩=>by
  have nch:c∉ch:=fun z=>(hch c z).2.2.1 x c e rfl
  by_cases hc:c∈X.fs
  ·obtain ⟨sl,q⟩:=slot c o (I.cne x c e) hc nch ho (I.freeC x c e)
   exact ⟨_,q,hd⟩
  ·exact ⟨o,keep c o (I.cne x c e) hc nch ho (I.freeC x c e),hd⟩
 refine ⟨I.ok,I.os,hg,⟨fun b o e n hb hx=>?_,fun b o e n hb hx=>?_,fun b o e n hx=>?_,fun b o e hx=>?_,fun b xs e=>tups b xs (I.base.tups b xs e),fun b o xs e=>frzs b o xs (I.base.frzs b o xs e),fun b ps e=>?_⟩,?_,fun x c e=>?_,?_,fun x c e=>?_,fun p hp=>?_,hok,I.len⟩
 ·exact keep b o (neL b o e) hb (neC b o e hx) (I.base.keep b o e n hb hx) (I.base.free b o e n hx)
 ·obtain ⟨sl,e1⟩:=I.base.slot b o e n hb hx
  obtain ⟨sl',e2⟩:=slot b _ (neL b o e) hb (neC b o e hx) e1 (I.base.free b o e n hx)
  exact ⟨sl',e2⟩
 ·obtain ⟨o',e1⟩:=I.base.there b o e hx
  exact free b o' (neC b o e hx) e1 (I.base.free b o e n hx)
 ·obtain ⟨o',e1⟩:=I.base.there b o e hx
  exact there b o' (neC b o e hx) e1
 ·obtain ⟨m1,e1⟩:=I.base.tbls b ps e
  obtain ⟨m2,e2⟩:=tbls b _ e1
  exact ⟨m1++m2,by rw [e2,Array.append_assoc]⟩
 ·obtain ⟨m,hn,hl⟩:=I.loc
  refine ⟨m,ns m hn,fun i x v e1 e2 e3=>?_⟩
  obtain ⟨u,r,l⟩:=hl i x v e1 e2 e3
  refine ⟨u,r,?_⟩
  rcases l with l | ⟨k,c,e,z⟩
  ·exact .inl l
  ·exact .inr ⟨k,c,e,cellK x c e _ z⟩
 ·obtain ⟨v,z⟩:=I.cell x c e
  exact ⟨v,cellK x c e v z⟩
 ·obtain ⟨m,⟨o,_,_,ho,_⟩,_⟩:=I.loc
  exact free _ o (fun z=>(hch _ z).2.1 rfl) ho I.free
 ·obtain ⟨v,o,ho,hd⟩:=I.cell x c e
  exact free c o (fun z=>(hch c z).2.2.1 x c e rfl) ho (I.freeC x c e)
 ·obtain ⟨e,n,ne,nf,d⟩:=I.pin p hp
  have nch:p.1∉ch:=fun z=>(hch p.1 z).2.2.2 p hp rfl
  exact ⟨keep p.1 p.2 ne nf nch e n,free p.1 p.2 nch e n,ne,nf,d⟩
theorem Inv.un {t':Nat} (I:Inv X pins σ H s) (u:Un X.fs [] H H' s.heap h') (hok:HOk X.prog X.w H' h'):Inv X pins σ H' { s with heap:=h',toks:=t' }:=by
 obtain ⟨m,⟨o,es,ep,ho,r⟩,_⟩:=id I.loc
 obtain ⟨sl,hL⟩:=u.any ho I.free (by simp)
 exact I.step (g':=s.gens) (d':=s.drawn) (ch:=[]) (fun _ z=>nomatch z) (fun b o _ hb _ e n=>u.keep b o e n hb (by simp)) (fun b o _ hb _ e n=>u.slot b o e n hb (by simp)) (fun b o _ e n=>u.free b o e n (by simp)) (fun b o _ e=>u.there b o e (by simp)) u.tups u.frzs u.tbls (fun m' hm=>by
  obtain ⟨o',es',ep',ho',r'⟩:=hm
  rw [ho] at ho';cases ho'
  exact ⟨_,es',ep',hL,r'⟩) hok I.bare
theorem Inv.call {g':Array GenState} {t':Nat} {d':Drawn} {ch:List Addr} (I:Inv X pins σ H s) (u:Un (frs X.stack) ch H H' s.heap h') (hok:HOk X.prog X.w H' h') (hg:AllBare g')
  (hch:∀ b∈ch,(b∈X.ex\/X.s₀.heap.objs.size<=b)/\b≠X.env.locals/\(∀ x c,X.env.cells.lookup x=some c->c≠b)/\∀ p∈X.pn++pins,p.1≠b) :
  Inv X pins σ H' { s with heap:=h',gens:=g',drawn:=d',toks:=t' }:=by
 obtain ⟨m,⟨o,es,ep,ho,r⟩,_⟩:=id I.loc
 obtain ⟨sl,hL⟩:=u.any ho I.free fun z=>(hch _ z).2.1 rfl
 exact I.step (ch:=ch) hch (fun b o hL hb hc e n=>u.keep b o e n (fun z=>(List.mem_cons.mp (I.stkSub b z)).elim hL hb) hc) (fun b o _ _ hc e n=>u.any e n hc) (fun b o hc e n=>u.free b o e n hc) (fun b o hc e=>u.there b o e hc) u.tups u.frzs u.tbls (fun m' hm=>by
  obtain ⟨o',es',ep',ho',r'⟩:=hm
  rw [ho] at ho';cases ho'
  exact ⟨_,es',ep',hL,r'⟩) hok hg
theorem Inv.turned {t':Nat} {it:Addr} (I:Inv X pins σ H s) (k:∀ b o,b≠it->s.heap.get? b=some o->h'.get? b=some o) (hn:H it=none) (hL:it≠X.env.locals)
  (h1:it∈X.ex\/X.s₀.heap.objs.size<=it) (h2:∀ x c,X.env.cells.lookup x=some c->c≠it) (h3:∀ p∈X.pn++pins,p.1≠it):Inv X pins σ H { s with heap:=h',toks:=t' }:=by
 have nit:∀ b u,H b=some u->b≠it:=fun b u e z=>by rw [z,hn] at e;cases e
 refine I.step (g':=s.gens) (d':=s.drawn) (ch:=[it]) (fun b hb=>?_) (fun b o _ _ hc e _=>k b o (fun z=>hc (by simp [z])) e) (fun b o _ _ hc e _=>⟨o.slots,k b o (fun z=>hc (by simp [z])) e⟩) (fun _ _ _ _ n=>n)
  (fun b o hc e=>⟨o,k b o (fun z=>hc (by simp [z])) e⟩) (fun _ _ e=>e) (fun _ _ _ e=>e) (fun b ps e=>⟨#[],by rw [e];simp⟩) (fun m hm=>?_) (fun b u e=>?_) I.bare
 ·have e:b=it:=by simpa using hb
  subst e
  exact ⟨h1,hL,h2,h3⟩
 ·obtain ⟨o,es,ep,ho,r⟩:=hm
  exact ⟨o,es,ep,k _ o (Ne.symm hL) ho,r⟩
 ·refine (I.hok b u e).stay (fun c v hc q=>k c v ?_ q) (fun _ q=>q) fun _ _ q=>q
  rcases hc with z | z
  ·rw [z];exact nit b u e
  ·exact nit c _ z
theorem Inv.tok (I:Inv X pins σ H s) (t:Nat):Inv X pins σ H { s with toks:=t }:=I.un (h':=s.heap) (t':=t) Un.refl I.hok
theorem Inv.kept {t':Nat} (I:Inv X pins σ H s) (k:∀ b u,s.heap.get? b=some u->h'.get? b=some u):Inv X pins σ H { s with heap:=h',toks:=t' }:=I.un (Un.kept k) (I.hok.kept k)
theorem Inv.laid {a:Addr} {o:HO} {t':Nat} (I:Inv X pins σ H s) (k:∀ b u,s.heap.get? b=some u->h'.get? b=some u) (hp:s.heap.objs.size<=a) (new:ObjOk X.prog X.w (upd H a o) h' a o) :
  Inv X pins σ (upd H a o) { s with heap:=h',toks:=t' }:=I.un (Un.laid k hp (I.hok.fresh hp)) (I.hok.laid k hp new)
theorem Inv.write {x e:Addr} {o:HO} {t':Nat} (I:Inv X pins σ H s) (mu:Mut (H x)) (he:e=x\/H e=some (.own x)) (k:∀ b u,b≠e->s.heap.get? b=some u->h'.get? b=some u) (heo:∃ u,h'.get? e=some u)
  (new:ObjOk X.prog X.w (upd H x o) h' x o):Inv X pins σ (upd H x o) { s with heap:=h',toks:=t' }:=I.un (Un.write mu he k heo) (I.hok.write mu he k heo new)
theorem Inv.pins_of {pins':List (Addr × Obj)} (I:Inv X pins σ H s) (h:∀ p∈pins',s.heap.get? p.1=some p.2/\H p.1=none/\p.1≠X.env.locals/\p.1∉X.fs/\∀ v,p.2.data≠.cell v):Inv X pins' σ H s :=
 ⟨I.ok,I.os,I.bare,I.base,I.loc,I.cell,I.free,I.freeC,fun p hp=>(List.mem_append.mp hp).elim (fun z=>I.pin p (List.mem_append_left _ z)) (h p),I.hok,I.len⟩
theorem nodup_ix {N:List Str} (hN:N.Nodup) {i j:Nat} {x:Str} (a:N[i]?=some x) (b:N[j]?=some x):i=j:=by
 obtain ⟨h1,e1⟩:=List.getElem?_eq_some_iff.mp a
 obtain ⟨h2,e2⟩:=List.getElem?_eq_some_iff.mp b
 exact (List.getElem_inj hN).mp (e1.trans e2.symm)
theorem store_ok2 {M:Model} {A:Around} {E:Value->Shared->Prop} {i:Nat} {x:Str} {v:V} {u:Value} {Q:Unit->Shared->Prop} (I:Inv X pins σ H s) (hN:X.N.Nodup) (hi:X.N[i]?=some x) (hx:Loc X.env.scope x) (r:RelV v u)
  (h:∀ s',Inv X pins (σ.set i (some v)) H s'->(∃ a,Heap.SameBut a s.heap s'.heap/\(a=X.env.locals\/X.env.cells.lookup x=some a))->Q () s') (hf:X.fn x=true\/X.env.scope.names.lookup x=some .local:=by first | exact .inl rfl | exact .inr rfl | assumption):wpAny M A (storeName X.env x u) Q E s:=by
 obtain ⟨m,hn,hl⟩:=id I.loc
 have hcls:(X.env.scope.kind == .class || (X.env.scope.kind == .module && X.env.locals != X.env.globals))=false:=by rw [I.ok.kind];rfl
 have hiσ:i < σ.length:=by rw [I.len];exact (List.getElem?_eq_some_iff.mp hi).1
 have cne:=I.cne
 have tracked:∀ {a:Addr} {h':Heap},(∃ o,s.heap.get? a=some o/\H a=none)->Heap.SameBut a s.heap h'->HOk X.prog X.w H h':=fun {a h'} ha hs b ob e=>by
  obtain ⟨_,_,hfree⟩:=ha
  refine (I.hok b ob e).stay (fun c w' hc q=>(hs.2 c ?_).trans q) (fun _ q=>q) fun _ _ q=>q
  rintro rfl
  rcases hc with rfl | hc
  ·rw [hfree] at e;cases e
  ·rw [hfree] at hc;cases hc
 rcases hx with hk | hk
 ·refine wpAny_storeName_local hk hn (fun h' hn' hs=>?_) hcls
  obtain ⟨oL,_,_,hoL,_⟩:=id hn
  refine h _ ⟨I.ok,I.os,I.bare,⟨fun b o e n hb hx=>?_,fun b o e n hb hx=>?_,I.base.free,fun b o e hx=>?_,I.base.tups,I.base.frzs,I.base.tbls⟩,⟨_,hn',fun j y v' e1 e2 e3=>?_⟩,fun y c e=>?_,I.free,I.freeC,fun p hp=>?_,tracked ⟨oL,hoL,I.free⟩ hs,by simpa using I.len⟩ ⟨_,hs,.inl rfl⟩
  ·exact (hs.2 b (Nat.ne_of_lt (Nat.lt_of_lt_of_le (Heap.lt_size e) I.ok.above))).trans (I.base.keep b o e n hb hx)
  ·obtain ⟨sl,e1⟩:=I.base.slot b o e n hb hx
   exact ⟨sl,(hs.2 b (Nat.ne_of_lt (Nat.lt_of_lt_of_le (Heap.lt_size e) I.ok.above))).trans e1⟩
  ·obtain ⟨o',e1⟩:=I.base.there b o e hx
   exact ⟨o',(hs.2 b (Nat.ne_of_lt (Nat.lt_of_lt_of_le (Heap.lt_size e) I.ok.above))).trans e1⟩
  ·by_cases hj:j=i
   ·subst hj
    rw [hi] at e1;cases e1
    rw [List.getElem?_set_self hiσ] at e2
    cases e2
    exact ⟨u,r,.inl ⟨hk,by simp⟩⟩
   ·rw [List.getElem?_set_ne (Ne.symm hj)] at e2
    obtain ⟨u',r',q⟩:=hl j y v' e1 e2 e3
    refine ⟨u',r',?_⟩
    rcases q with ⟨k,e⟩ | ⟨k,c,e,z⟩
    ·refine .inl ⟨k,?_⟩
     have:y≠x:=fun e=>hj (nodup_ix hN e1 (e ▸ hi))
     simp [this,e]
    ·exact .inr ⟨k,c,e,z.sameBut hs (cne y c e)⟩
  ·obtain ⟨w',z⟩:=I.cell y c e
   exact ⟨w',z.sameBut hs (cne y c e)⟩
  ·obtain ⟨e,n,ne,nf,d⟩:=I.pin p hp
   exact ⟨(hs.2 p.1 ne).trans e,n,ne,nf,d⟩
 ·have hfn:X.fn x=true:=by
   rcases hf with z | z
   ·exact z
   ·rw [z] at hk;cases hk
  obtain ⟨c,hc⟩:=I.ok.has x (.inl hk)
  obtain ⟨w',z⟩:=I.cell x c hc
  refine wpAny_storeName_cell I.ok.kind hk hc z (fun h' hc' hs=>?_)
  obtain ⟨oc,hoc,hocd⟩:=id z
  refine h { s with heap:=h' } ⟨I.ok,I.os,I.bare,⟨fun b o e n hb hx=>?_,fun b o e n hb hx=>?_,I.base.free,fun b o e hx=>?_,I.base.tups,I.base.frzs,I.base.tbls⟩,⟨m,hn.sameBut hs (Ne.symm (cne x c hc)),fun j y v' e1 e2 e3=>?_⟩,fun y c' e=>?_,I.free,I.freeC,fun p hp=>?_,tracked ⟨oc,hoc,I.freeC x c hc⟩ hs,by simpa using I.len⟩ ⟨c,hs,.inr hc⟩
  ·exact (hs.2 b (Nat.ne_of_lt (Nat.lt_of_lt_of_le (Heap.lt_size e) (I.ok.cab x c hfn hc)))).trans (I.base.keep b o e n hb hx)
  ·obtain ⟨sl,e1⟩:=I.base.slot b o e n hb hx
   exact ⟨sl,(hs.2 b (Nat.ne_of_lt (Nat.lt_of_lt_of_le (Heap.lt_size e) (I.ok.cab x c hfn hc)))).trans e1⟩
  ·obtain ⟨o',e1⟩:=I.base.there b o e hx
   exact ⟨o',(hs.2 b (Nat.ne_of_lt (Nat.lt_of_lt_of_le (Heap.lt_size e) (I.ok.cab x c hfn hc)))).trans e1⟩
  ·by_cases hj:j=i
   ·subst hj
    rw [hi] at e1;cases e1
    rw [List.getElem?_set_self hiσ] at e2
    cases e2
    exact ⟨u,r,.inr ⟨.inl hk,c,hc,hc'⟩⟩
   ·rw [List.getElem?_set_ne (Ne.symm hj)] at e2
    obtain ⟨u',r',q⟩:=hl j y v' e1 e2 e3
    refine ⟨u',r',?_⟩
    rcases q with q | ⟨k,c',e,z'⟩
    ·exact .inl q
    ·refine .inr ⟨k,c',e,z'.sameBut hs ?_⟩
     rintro rfl
     exact hj (nodup_ix hN e1 (I.ok.inj _ _ _ e hc ▸ hi))
  ·by_cases hcc:c'=c
   ·subst hcc;exact ⟨_,hc'⟩
   ·obtain ⟨w2,z2⟩:=I.cell y c' e
    exact ⟨w2,z2.sameBut hs hcc⟩
  ·obtain ⟨e,n,ne,nf,d⟩:=I.pin p hp
   refine ⟨(hs.2 p.1 ?_).trans e,n,ne,nf,d⟩
   intro q
   rw [q,hoc] at e
   have q':oc=p.2:=Option.some.inj e
   exact d w' (by rw [<- q'];exact hocd)
theorem store_ok {M:Model} {A:Around} {E:Value->Shared->Prop} {i:Nat} {x:Str} {v:V} {u:Value} {Q:Unit->Shared->Prop} (I:Inv X pins σ H s) (hN:X.N.Nodup) (hi:X.N[i]?=some x) (hx:Loc X.env.scope x) (r:RelV v u)
  (h:∀ s',Inv X pins (σ.set i (some v)) H s'->Q () s') (hf:X.fn x=true\/X.env.scope.names.lookup x=some .local:=by first | exact .inl rfl | exact .inr rfl | assumption):wpAny M A (storeName X.env x u) Q E s :=
 store_ok2 I hN hi hx r (fun s' I' _=>h s' I') hf
theorem Inv.call' {s':Shared} {ch:List Addr} (I:Inv X pins σ H s) (ho:s'.os=s.os) (u:Un (frs X.stack) ch H H' s.heap s'.heap) (hok:HOk X.prog X.w H' s'.heap) (hg:AllBare s'.gens)
  (hch:∀ b∈ch,(b∈X.ex\/X.s₀.heap.objs.size<=b)/\b≠X.env.locals/\(∀ x c,X.env.cells.lookup x=some c->c≠b)/\∀ p∈X.pn++pins,p.1≠b):Inv X pins σ H' s':=by
 obtain ⟨h',g',d',t',o'⟩:=s'
 have e:o'=s.os:=ho
 subst e
 exact I.call (g':=g') (t':=t') (d':=d') u hok hg hch
end
abbrev XK:=Value->Option Addr->Hp->Prop
abbrev St:=List (Option V)
abbrev VK:=V->Hp->Prop
abbrev TE:=St->Hp->VK->Prop
abbrev TT:=St->Hp->(Bool->Hp->Prop)->Prop
abbrev TA:=St->Hp->(List V->Hp->Prop)->Prop
structure Ends where
 nx:St->Hp->Prop
 rt:VK
 bk:St->Hp->Prop:=fun _ _=>False
 ct:St->Hp->Prop:=fun _ _=>False
abbrev TS:=Ends->St->Hp->Prop
def EP (X:Cx) (pins:List (Addr × Obj)) (σ:St) (Q:VK) (u:Value) (s':Shared):Prop:=∃ v H',Inv X pins σ H' s'/\RelV v u/\Q v H'
def TP (X:Cx) (pins:List (Addr × Obj)) (σ:St) (Q:Bool->Hp->Prop) (b:Bool) (s':Shared):Prop:=∃ H',Inv X pins σ H' s'/\Q b H'
def AP (X:Cx) (pins:List (Addr × Obj)) (σ:St) (Q:List V->Hp->Prop) (us:List Value) (s':Shared):Prop:=∃ vs H',Inv X pins σ H' s'/\Vals vs us/\Q vs H'
def SP (X:Cx) (pins:List (Addr × Obj)) (D:Ends) (f:Flow) (s':Shared):Prop :=
 match f with
 | .next=>∃ σ' H',Inv X pins σ' H' s'/\D.nx σ' H'
 | .brk=>∃ σ' H',Inv X pins σ' H' s'/\D.bk σ' H'
 | .cont=>∃ σ' H',Inv X pins σ' H' s'/\D.ct σ' H'
 | .ret u=>∃ v σ' H',Inv X pins σ' H' s'/\RelV v u/\D.rt v H'
def PE (X:Cx) (e:Expr) (t:TE):Prop :=
 ∀ (pins:List (Addr × Obj)) (s:Shared) (σ:St) (H:Hp) (Q:VK),Inv X pins σ H s->t σ H Q->wpAny (model X.prog X.w) X.A (eval e X.env) (EP X pins σ Q) X.xe s
def PA (X:Cx) (es:List Expr) (t:TA):Prop :=
 ∀ (pos:Pos) (pins:List (Addr × Obj)) (s:Shared) (σ:St) (H:Hp) (Q:List V->Hp->Prop),Inv X pins σ H s->t σ H Q->wpAny (model X.prog X.w) X.A (spliced (backTo pos (starEach es X.env))) (AP X pins σ Q) X.xe s
def PS (X:Cx) (st:Stmt) (t:TS):Prop :=
 ∀ (pins:List (Addr × Obj)) (s:Shared) (σ:St) (H:Hp) (D:Ends),Inv X pins σ H s->t D σ H->wpAny (model X.prog X.w) X.A (exec st X.env) (SP X pins D) X.xe s
def PSs (X:Cx) (st:List Stmt) (t:TS):Prop :=
 ∀ (pins:List (Addr × Obj)) (s:Shared) (σ:St) (H:Hp) (D:Ends),Inv X pins σ H s->t D σ H->wpAny (model X.prog X.w) X.A (execs st X.env) (SP X pins D) X.xe s
theorem thn {α:Type} {t:Sem α} {Q Q':α->Shared->Prop} {M:Model} {A:Around} {E:Value->Shared->Prop} {s:Shared} (h:wpAny M A t Q E s) (hQ:∀ a s,Q a s->Q' a s):wpAny M A t Q' E s:=wpAny_mono h hQ fun _ _ x=>x
end L2
namespace L2
open PySem PySem.Spec PyProof.Rows
section
variable {X:Cx}
def tVar (i:Nat):TE:=fun σ H Q=>∃ v,σ[i]?=some (some v)/\Q v H
def tC (v:V):TE:=fun _ H Q=>Q v H
theorem pe_var {i:Nat} {x:Str} {pos:Pos} (hN:X.N[i]?=some x) (hv:Vis X.env.scope x) (hd:(x == ("__debug__" : Str))=false:=by decide) (hcd:(x == ("__classdict__" : Str))=false:=by decide):PE X (.Name x pos) (tVar i):=by
 intro pins s σ H Q I h
 obtain ⟨v,e,h⟩:=h
 obtain ⟨m,hn,hl⟩:=I.loc
 obtain ⟨u,r,l⟩:=hl i x v hN e hv
 have fin:EP X pins σ Q u s:=⟨v,H,I,r,h⟩
 rcases l with ⟨hk,hm⟩ | ⟨hk,c,hc,hcell⟩
 ·exact wpAny_Name (wpAny_loadName_local I.ok.kind hk hn hm fin) hd
 ·rcases hk with hk | hk
  ·exact wpAny_Name (wpAny_loadName_cell I.ok.kind hk hc hcell fin) hd
  ·exact wpAny_Name (wpAny_loadName_free I.ok.kind hk hc hcell fin hcd) hd
theorem pe_int {i j pos}:PE X (.Constant (.int i) j pos) (tC (.int i)):=fun _ _ _ H _ I h=>wpAny_Constant_int ⟨.int i,H,I.tok _,⟨_,rfl⟩,h⟩
theorem pe_bl {b j pos}:PE X (.Constant (.bool b) j pos) (tC (.bl b)):=fun _ _ _ H _ I h=>Constant_bool ⟨.bl b,H,I,rfl,h⟩
theorem pe_non {j pos}:PE X (.Constant .none j pos) (tC .non):=fun _ _ _ H _ I h=>Constant_none ⟨.non,H,I,rfl,h⟩
theorem pe_str {x j pos}:PE X (.Constant (.str x) j pos) (tC (.str x)):=fun _ _ _ H _ I h=>Calls.Constant_str ⟨.str x,H,I.tok _,⟨_,rfl⟩,h⟩
def Gl (X:Cx) (x:Str):Prop:=X.env.kindOf x=some .globalImplicit
theorem ld_glob {E:Value->Shared->Prop} {pins:List (Addr × Obj)} {s:Shared} {σ:St} {H:Hp} {x:Str} {u:Value} {pos:Pos} {Q:Value->Shared->Prop} (I:Inv X pins σ H s) (hg:Gl X x) (hm:X.mg x=some u) (h:Q u s)
  (hd:(x == ("__debug__" : Str))=false:=by decide):wpAny (model X.prog X.w) X.A (eval (.Name x pos) X.env) Q E s :=
 Calls.Name_function_global I.ok.kind hg (Calls.loadGlobal_global (by rw [I.ok.glob];exact I.mod.glob.keeps I.bk) hm h) hd
theorem ld_blt {E:Value->Shared->Prop} {pins:List (Addr × Obj)} {s:Shared} {σ:St} {H:Hp} {x:Str} {u:Value} {pos:Pos} {Q:Value->Shared->Prop} (I:Inv X pins σ H s) (hg:Gl X x) (hm:X.mg x=none) (hv:bootBuiltins x=some u) (h:Q u s)
  (hn:x ≠ "__name__" := by decide) (hd:(x == ("__debug__" : Str))=false:=by decide):wpAny (model X.prog X.w) X.A (eval (.Name x pos) X.env) Q E s:=by
 obtain ⟨mb,h1,h2⟩:=I.mod.blt
 exact Calls.Name_function_global I.ok.kind hg (Calls.loadGlobal_builtin (by rw [I.ok.glob];exact I.mod.glob.keeps I.bk) hm (by rw [I.ok.blt];exact h1.keeps I.bk) ((h2 x hn).trans hv) h) hd
theorem pe_glob {x:Str} {v:V} {u:Value} {pos:Pos} (hg:Gl X x) (hm:X.mg x=some u) (r:RelV v u) (hd:(x == ("__debug__" : Str))=false:=by decide):PE X (.Name x pos) (tC v) :=
 fun _ _ _ H _ I h=>ld_glob I hg hm ⟨v,H,I,r,h⟩ hd
theorem pe_bltn {x:Str} {v:V} {u:Value} {pos:Pos} (hg:Gl X x) (hm:X.mg x=none) (hv:bootBuiltins x=some u) (r:RelV v u) (hn:x ≠ "__name__" := by decide) (hd:(x == ("__debug__" : Str))=false:=by decide):PE X (.Name x pos) (tC v) :=
 fun _ _ _ H _ I h=>ld_blt I hg hm hv ⟨v,H,I,r,h⟩ hn hd
variable {a b:Expr} {ta tb:TE} {pos:Pos}
variable {tA tB':TT} {rest:List Expr}
end
end L2
namespace L2
open PySem PySem.Spec PyProof.Rows
def SqL (K:PySem.W.Frag) (H:Hp) (a:Addr) (xs:List V):Prop :=
 Rd H a (.lst xs) \/
  ∃ (o:Obj) (its:Array Value) (n:Nat),K.lookup a=some o/\o.cls=.type "list" /\ o.dict=none/\o.data=.seq its n/\its.size<=sizeLine/\Vals xs its.toList
def SqT (K:PySem.W.Frag) (H:Hp) (a:Addr) (xs:List V):Prop :=
 Rd H a (.tup xs) \/
  ∃ (o:Obj) (its:Array Value) (n:Nat),K.lookup a=some o/\o.cls=.type "tuple" /\ o.data=.seq its n/\its.size<=sizeLine/\Vals xs its.toList
def absV:Value->Option V
 | .none=>some .non
 | .bool b=>some (.bl b)
 | .int i _=>some (.int i)
 | .str x _=>some (.str x)
 | .bytes b _=>some (.byt b)
 | .float b _=>some (.flt b)
 | .ref a=>some (.ref a)
 | .type n=>some (.ty n)
 | _=>none
theorem RelV.abs {x:V} {u:Value} (r:RelV x u):absV u=some x:=by
 cases x with
 | non=>cases r;rfl
 | bl _=>cases r;rfl
 | int _=>obtain ⟨t,rfl⟩:=r;rfl
 | str _=>obtain ⟨t,rfl⟩:=r;rfl
 | byt _=>obtain ⟨t,rfl⟩:=r;rfl
 | flt _=>obtain ⟨t,rfl⟩:=r;rfl
 | ref _=>cases r;rfl
 | ty _=>cases r;rfl
theorem RelV.inj {x y:V} {u:Value} (r:RelV x u) (q:RelV y u):x=y:=Option.some.inj (r.abs.symm.trans q.abs)
theorem Vals.inj:∀ {xs ys:List V} {us:List Value},Vals xs us->Vals ys us->xs=ys
 | _,_,_,.nil,.nil=>rfl
 | _,_,_,.cons r t,.cons r' t'=>by rw [r.inj r',Vals.inj t t']
section
variable {X:Cx} {pins:List (Addr × Obj)} {σ:St} {H:Hp} {s:Shared} {a:Addr} {xs ys:List V}
theorem SqL.of {K:PySem.W.Frag} (h:H a=some (.lst xs)):SqL K H a xs:=.inl (.inl h)
theorem SqT.of {K:PySem.W.Frag} (h:H a=some (.tup xs)):SqT K H a xs:=.inl (.inl h)
theorem Inv.list (I:Inv X pins σ H s) (h:SqL X.K H a xs):∃ its:List Value,Vals xs its/\PlainL s.heap a its.toArray/\xs.length<=sizeLine:=by
 rcases h with h | ⟨o,its,n,hk,hc,hd,hs,hz,r⟩
 ·obtain ⟨z,its,n,r,e⟩:=h.ok I.hok
  exact ⟨its,r,⟨_,n,e,rfl,rfl,rfl⟩,z⟩
 ·refine ⟨its.toList,r,⟨o,n,I.kIn a o hk,hc,hd,by simpa using hs⟩,?_⟩
  have e:=r.length
  simp only [Array.length_toList] at e
  omega
theorem Inv.tuple (I:Inv X pins σ H s) (h:SqT X.K H a xs):∃ its:List Value,Vals xs its/\IsTup s.heap a its.toArray/\xs.length<=sizeLine:=by
 rcases h with h | ⟨o,its,n,hk,hc,hs,hz,r⟩
 ·obtain ⟨z,its,r,p⟩:=h.ok I.hok
  exact ⟨its,r,p,z.1⟩
 ·refine ⟨its.toList,r,⟨o,I.kIn a o hk,hc,n,by simpa using hs⟩,?_⟩
  have e:=r.length
  simp only [Array.length_toList] at e
  omega
theorem Inv.list_inj (I:Inv X pins σ H s) (h:SqL X.K H a xs) (h':SqL X.K H a ys):xs=ys:=by
 obtain ⟨its,r,⟨o,n,e,_,_,d⟩,_⟩:=I.list h
 obtain ⟨its',r',⟨o',n',e',_,_,d'⟩,_⟩:=I.list h'
 rw [e] at e';cases e'
 rw [d] at d'
 injection d' with d1 _
 have:its=its':=by simpa using congrArg Array.toList d1
 subst this
 exact r.inj r'
theorem Inv.tuple_inj (I:Inv X pins σ H s) (h:SqT X.K H a xs) (h':SqT X.K H a ys):xs=ys:=by
 obtain ⟨its,r,⟨o,e,_,n,d⟩,_⟩:=I.tuple h
 obtain ⟨its',r',⟨o',e',_,n',d'⟩,_⟩:=I.tuple h'
 rw [e] at e';cases e'
 rw [d] at d'
 injection d' with d1 _
 have:its=its':=by simpa using congrArg Array.toList d1
 subst this
 exact r.inj r'
end
abbrev Cx.wish (X:Cx) (E:Value->Shared->Prop):Cx:={ X with xe:=E }
abbrev Cx.nox (X:Cx):Cx:=X.wish fun _ _=>False
theorem Cx.Ok.wish {X:Cx} (ok:X.Ok) (E:Value->Shared->Prop):(X.wish E).Ok :=
 ⟨ok.mod,ok.kind,ok.glob,ok.blt,ok.above,ok.inj,ok.has,ok.cab,ok.hd,ok.frames,ok.stk,ok.exf,ok.bs,ok.bsz,ok.noex,ok.exfs,ok.funs,ok.frf⟩
theorem Cx.Ok.unwish {X:Cx} {E:Value->Shared->Prop} (ok:(X.wish E).Ok):X.Ok :=
 ⟨ok.mod,ok.kind,ok.glob,ok.blt,ok.above,ok.inj,ok.has,ok.cab,ok.hd,ok.frames,ok.stk,ok.exf,ok.bs,ok.bsz,ok.noex,ok.exfs,ok.funs,ok.frf⟩
section
variable {X:Cx} {pins:List (Addr × Obj)} {σ:St} {H:Hp} {s:Shared} {E:Value->Shared->Prop}
theorem Inv.wish (I:Inv X pins σ H s) (E:Value->Shared->Prop):Inv (X.wish E) pins σ H s:=⟨I.ok.wish E,I.os,I.bare,I.base,I.loc,I.cell,I.free,I.freeC,I.pin,I.hok,I.len⟩
theorem Inv.unwish (I:Inv (X.wish E) pins σ H s):Inv X pins σ H s:=⟨I.ok.unwish,I.os,I.bare,I.base,I.loc,I.cell,I.free,I.freeC,I.pin,I.hok,I.len⟩
theorem SP.unwish {D:Ends} {f:Flow} {s':Shared} (h:SP (X.wish E) pins D f s'):SP X pins D f s':=by
 cases f with
 | next=>obtain ⟨σ',H',I,q⟩:=h;exact ⟨σ',H',I.unwish,q⟩
 | brk=>obtain ⟨σ',H',I,q⟩:=h;exact ⟨σ',H',I.unwish,q⟩
 | cont=>obtain ⟨σ',H',I,q⟩:=h;exact ⟨σ',H',I.unwish,q⟩
 | ret u=>obtain ⟨v,σ',H',I,r,q⟩:=h;exact ⟨v,σ',H',I.unwish,r,q⟩
theorem PSs.nox {st:List Stmt} {t:TS} (h:PSs X.nox st t):PSs X st t:=fun pins s σ H D I hw =>
 wpAny_mono (h pins s σ H D (I.wish _) hw) (fun _ _ q=>q.unwish) fun _ _ z=>False.elim z
end
section
variable {X:Cx} {st:Stmt} {rest:List Stmt} {t u:TS} {e:Expr} {te:TE} {pos:Pos}
theorem Inv.quiet {pins:List (Addr × Obj)} {σ:St} {H:Hp} {s:Shared} (I:Inv X pins σ H s):interactive X.env=false:=by simp [interactive,I.ok.kind]
end
abbrev TSet:=V->V->V->Hp->(Hp->Prop)->Prop
def PSet (X:Cx) (t:TSet):Prop :=
 ∀ (pins:List (Addr × Obj)) (s:Shared) (σ:St) (H:Hp) (o i v:V) (ov iv u:Value) (Q:Hp->Prop),Inv X pins σ H s->RelV o ov->RelV i iv->RelV v u->t o i v H Q ->
  wpAny (model X.prog X.w) X.A (setItem ov iv u) (fun _ s'=>∃ H',Inv X pins σ H' s'/\Q H') X.xe s
section
variable {X:Cx} {pos:Pos}
def tPar (i j:Nat) (ta:TA):TS:=fun D σ H=>ta σ H fun vs H1=>∃ v w,vs=[v,w]/\D.nx ((σ.set i (some v)).set j (some w)) H1
theorem ps_par {i j:Nat} {x y:Str} {a b:Expr} {ta:TA} {px py pt:Pos} {kt k2 pt2} (hc:X.calm=true) (hN:X.N.Nodup) (hi:X.N[i]?=some x) (hj:X.N[j]?=some y) (hij:i≠j)
  (hx:X.env.scope.names.lookup x=some .local) (hy:X.env.scope.names.lookup y=some .local) (ha:PA X [a,b] ta)
  (hw:swappedStores [.Tuple [.Name x px,.Name y py] kt pt] (.Tuple [a,b] k2 pt2) X.env=pure (some [x,y]))
  (hs:swapsWithSole [.Tuple [.Name x px,.Name y py] kt pt] (.Tuple [a,b] k2 pt2) pos.line X.env=pure false:=by rfl) :
  PS X (.Assign [.Tuple [.Name x px,.Name y py] kt pt] (.Tuple [a,b] k2 pt2) pos) (tPar i j ta):=by
 intro pins s σ H D I h
 rw [exec_Assign_arm]
 refine wpAny_bind (wpAny_standAt ?_)
 rw [hs]
 refine wpAny_bind (wpAny_pure ?_)
 rw [if_neg (by decide)]
 refine wpAny_bind (Tuple_ (thn (ha _ pins s σ H _ I h) fun us s1 ⟨vs,H1,I1,r1,q1⟩=>?_))
 obtain ⟨v,w,e1,q1⟩:=q1
 subst e1
 obtain ⟨u1,u2,rfl,rv,rw'⟩:∃ u1 u2,us=[u1,u2]/\RelV v u1/\RelV w u2:=by
  cases r1 with
  | cons p q =>
   cases q with
   | cons p' q' =>
    cases q'
    exact ⟨_,_,rfl,p,p'⟩
 refine wpAny_newObj_type ?_ (by show 2<=sizeLine;decide)
 have I2:Inv X pins σ H1 { s1 with heap:=s1.heap.push { cls:=.type "tuple",data:=.seq [u1,u2].toArray } }:=I1.kept (t':=s1.toks) fun b o e=>Heap.get?_push_of_some _ e
 rw [hw]
 refine wpAny_bind (wpAny_pure ?_)
 show wpAny (model X.prog X.w) X.A (do rule "assign.swapped-stores";let items <- unpackItems (.ref s1.heap.objs.size) 2 none;assignInOrder [fun v=>bindName X.env y v,fun v=>bindName X.env x v] items.reverse;pure Flow.next) _ _ _
 refine wpAny_bind (wpAny_rule (wpAny_bind (unpackItems_tuple (items:=#[u1,u2]) (I.ok.hd hc) (IsTup.new s1.heap _) fun h' hx'=>?_)))
 have I3:=I2.kept (h':=h') (t':=s1.toks) fun b o e=>hx' b o (Nat.ne_of_lt (Heap.lt_size e)) e
 show wpAny _ _ (assignInOrder [fun v=>bindName X.env y v,fun v=>bindName X.env x v] [u2,u1] >>= fun _=>pure Flow.next) _ _ _
 refine wpAny_bind (assignInOrder_cons (wpAny_bindName (store_ok I3 hN hj (.inl hy) rw' (fun s2 I4=>?_) (.inr hy))))
 refine assignInOrder_cons (wpAny_bindName (store_ok I4 hN hi (.inl hx) rv (fun s3 I5=>assignInOrder_nil (wpAny_pure ?_)) (.inr hx)))
 rw [List.set_comm _ _ (Ne.symm hij)] at I5
 exact ⟨_,H1,I5,q1⟩
end
section
variable {X:Cx} {pos:Pos}
end
structure It where
 go:Nat->Hp->Prop
 yld:Nat->Hp->V->Hp->Prop
 stop:Nat->Hp->Prop
def FpOk (X:Cx) (pins:List (Addr × Obj)) (H:Hp) (b:Addr):Prop :=
 H b=none/\b≠X.env.locals/\b∉X.fs/\(b∈X.ex\/X.s₀.heap.objs.size<=b)/\(∀ x c,X.env.cells.lookup x=some c->c≠b)/\∀ p∈X.pn++pins,p.1≠b
theorem Inv.fpOk {X:Cx} {pins:List (Addr × Obj)} {σ:St} {H H':Hp} {s:Shared} {b:Addr} (I:Inv X pins σ H s) (hb:s.heap.objs.size<=b) (hn:H' b=none):FpOk X pins H' b:=by
 refine ⟨hn,Nat.ne_of_gt (Nat.lt_of_lt_of_le I.lt hb),I.nofs hb,.inr (Nat.le_trans I.sz hb),fun x c e z=>?_,fun p hp z=>?_⟩
 ·obtain ⟨v,q⟩:=I.cell x c e
  exact absurd (Nat.lt_of_lt_of_le q.lt (by rw [z];exact hb)) (Nat.lt_irrefl _)
 ·exact absurd (Nat.lt_of_lt_of_le (Heap.lt_size (I.pin p hp).1) (by rw [z];exact hb)) (Nat.lt_irrefl _)
structure Turn (P:Program) (w:World) (K:PySem.W.Frag) (tg:Expr) (J:It) (fp:List Addr) (it:Addr) (tn:Nat->Heap->Prop):Prop where
 mem:it∈fp
 obj:∀ i h,tn i h->∀ b∈fp,∃ o,h.get? b=some o/\∀ v,o.data≠.cell v
 keep:∀ i h h',tn i h->(∀ b∈fp,∀ o,h.get? b=some o->h'.get? b=some o)->tn i h'
 item:∀ (X:Cx),X.prog=P->X.w=w->X.K=K->X.calm=true->∀ (i:Nat) (pins:List (Addr × Obj)) (s:Shared) (σ:St) (H:Hp) (E:Value->Shared->Prop),Inv X pins σ H s->(∀ b∈fp,FpOk X pins H b)->tn i s.heap->J.go i H ->
  wpAny (model P w) X.A (pyNext (.ref it)) (fun r s1=>∃ u,r=some u /\
   wpAny (model P w) X.A (letOwnedTupleGo tg (.ref it) u) (fun _ s2=>∃ x H',Inv X pins σ H' s2/\RelV x u/\J.yld i H x H'/\tn (i+1) s2.heap/\∀ b∈fp,H' b=none) E s1) E s
 done:∀ (X:Cx),X.prog=P->X.w=w->X.K=K->X.calm=true->∀ (i:Nat) (pins:List (Addr × Obj)) (s:Shared) (σ:St) (H:Hp) (E:Value->Shared->Prop),Inv X pins σ H s->(∀ b∈fp,FpOk X pins H b)->tn i s.heap->J.stop i H ->
  wpAny (model P w) X.A (pyNext (.ref it)) (fun r s1=>r=none/\Inv X pins σ H s1) E s
 self:∀ (A:Around) (i:Nat) (s:Shared) (Q:Value->Shared->Prop) (E:Value->Shared->Prop),tn i s.heap->Q (.ref it) s->wpAny (model P w) A (pyIter (.ref it)) Q E s
abbrev TI:=St->Hp->(It->Hp->Prop)->Prop
def PIE (X:Cx) (pins:List (Addr × Obj)) (σ:St) (tg:Expr) (R:It->Hp->Prop) (itv:Value) (s2:Shared):Prop :=
 ∃ (it:Addr) (fp:List Addr) (tn:Nat->Heap->Prop) (J:It) (H':Hp),itv=.ref it/\Inv X pins σ H' s2/\Turn X.prog X.w X.K tg J fp it tn/\tn 0 s2.heap/\(∀ b∈fp,FpOk X pins H' b)/\R J H'
def PI (X:Cx) (tg iter:Expr) (wi:TI):Prop :=
 ∀ (pins:List (Addr × Obj)) (s:Shared) (σ:St) (H:Hp) (R:It->Hp->Prop),Inv X pins σ H s->wi σ H R ->
  wpAny (model X.prog X.w) X.A (eval iter X.env) (fun v s1=>wpAny (model X.prog X.w) X.A (pyIter v) (PIE X pins σ tg R) X.xe s1) X.xe s
theorem go_of {M : Model} {A : Around} {E : Value → Shared → Prop} {s : Shared} {tg : Expr} {it : Addr} {u : Value} {o : Obj} {n : String} {vs : Array Value} {Q : Unit → Shared → Prop} (ho : s.heap.get? it = some o) (hc : o.cls = .type n) (hd : o.data = .fields vs)
    (hn : ["enumerate", "zip", "dict_itemiterator", "dict_reverseitemiterator", "odict_iterator", "itertools.zip_longest", "itertools.pairwise"].contains n = false) (hQ : Q () s) : wpAny M A (letOwnedTupleGo tg (.ref it) u) Q E s := by
  unfold letOwnedTupleGo
  cases tg <;> first
    | exact wpAny_pure hQ
    | (cases u <;> first
        | exact wpAny_pure hQ
        | (refine wpAny_bind (wpAny_load ho ?_)
           rw [hc, hd]
           show wpAny M A (if (["enumerate", "zip", "dict_itemiterator", "dict_reverseitemiterator", "odict_iterator", "itertools.zip_longest", "itertools.pairwise"].contains n && vs[0]? == some (rawInt _)) = true then _ else _) Q E s
           rw [if_neg (by intro h; rw [hn, Bool.false_and] at h; cases h)]
           exact wpAny_pure hQ))
 --odd
def Itl (K:PySem.W.Frag) (a:Addr):It :=
 ⟨fun i H=>∃ xs x,SqL K H a xs/\xs[i]?=some x,fun i H x H'=>H'=H/\∀ xs,SqL K H a xs->xs[i]?=some x,fun i H=>∃ xs,SqL K H a xs/\xs.length<=i⟩
def Itt (K:PySem.W.Frag) (a:Addr):It :=
 ⟨fun i H=>∃ xs x,SqT K H a xs/\xs[i]?=some x,fun i H x H'=>H'=H/\∀ xs,SqT K H a xs->xs[i]?=some x,fun i H=>∃ xs,SqT K H a xs/\xs.length<=i⟩
def Itr (lo:Int) (n:Nat):It:=⟨fun i _=>i < n,fun i H x H'=>H'=H/\x=.int (lo+i),fun i _=>n<=i⟩
theorem turn_list {P:Program} {w:World} {K:PySem.W.Frag} {tg:Expr} (a it:Addr):Turn P w K tg (Itl K a) [it] it (fun i h=>h.IsListIter it a i) where
 mem:=by simp
 obj:=fun i h st b hb=>by
  have e:b=it:=by simpa using hb
  subst e
  obtain ⟨o,e,c,d⟩:=st
  exact ⟨o,e,fun v z=>by rw [d] at z;cases z⟩
 keep:=fun i h h' st k=>st.at fun o e=>k it (by simp) o e
 item:=by
  intro X hP hw hK hc i pins s σ H E I hf st hg
  subst hP hw hK
  obtain ⟨xs,x,hq,hx⟩:=hg
  obtain ⟨its,rv,p,hz⟩:=I.list hq
  obtain ⟨u,hu,ru⟩:=rv.get hx
  obtain ⟨f0,f1,f2,f3,f4,f5⟩:=hf it (by simp)
  refine wpAny_pyNext_list_item st p.isList (x:=u) (by simpa using hu) fun h' st' sb=>?_
  have I1:Inv X pins σ H { s with heap:=h' }:=I.turned (t':=s.toks) (fun b o hb e=>(sb.2 b hb).trans e) f0 f1 f3 f4 f5
  obtain ⟨o,e,c,d⟩:=id st'
  exact ⟨u,rfl,go_of (s:={ s with heap:=h' }) e c d (by decide) ⟨x,H,I1,ru,⟨rfl,fun ys hy=>by rw [I.list_inj hy hq];exact hx⟩,st',fun b hb=>(hf b hb).1⟩⟩
 done:=by
  intro X hP hw hK hc i pins s σ H E I hf st hg
  subst hP hw hK
  obtain ⟨xs,hq,hx⟩:=hg
  obtain ⟨its,rv,p,hz⟩:=I.list hq
  obtain ⟨f0,f1,f2,f3,f4,f5⟩:=hf it (by simp)
  have hl:=rv.length
  exact wpAny_pyNext_list_end (I.ok.hd hc) st p.isList (by simp;omega) fun h' eb=>⟨rfl,I.turned (t':=s.toks) (fun b o hb e=>eb b o hb e) f0 f1 f3 f4 f5⟩
 self:=fun _ _ _ _ _ st h=>wpAny_pyIter_listiter st h
theorem turn_tuple {P:Program} {w:World} {K:PySem.W.Frag} {tg:Expr} (a it:Addr):Turn P w K tg (Itt K a) [it] it (fun i h=>h.IsTupleIter it a i) where
 mem:=by simp
 obj:=fun i h st b hb=>by
  have e:b=it:=by simpa using hb
  subst e
  obtain ⟨o,e,c,d⟩:=st
  exact ⟨o,e,fun v z=>by rw [d] at z;cases z⟩
 keep:=fun i h h' st k=>st.at fun o e=>k it (by simp) o e
 item:=by
  intro X hP hw hK hc i pins s σ H E I hf st hg
  subst hP hw hK
  obtain ⟨xs,x,hq,hx⟩:=hg
  obtain ⟨its,rv,p,hz⟩:=I.tuple hq
  obtain ⟨u,hu,ru⟩:=rv.get hx
  obtain ⟨f0,f1,f2,f3,f4,f5⟩:=hf it (by simp)
  refine wpAny_pyNext_tuple_item st (show s.heap.IsTuple a its.toArray from p) (x:=u) (by simpa using hu) fun h' st' sb=>?_
  have I1:Inv X pins σ H { s with heap:=h' }:=I.turned (t':=s.toks) (fun b o hb e=>(sb.2 b hb).trans e) f0 f1 f3 f4 f5
  obtain ⟨o,e,c,d⟩:=id st'
  exact ⟨u,rfl,go_of (s:={ s with heap:=h' }) e c d (by decide) ⟨x,H,I1,ru,⟨rfl,fun ys hy=>by rw [I.tuple_inj hy hq];exact hx⟩,st',fun b hb=>(hf b hb).1⟩⟩
 done:=by
  intro X hP hw hK hc i pins s σ H E I hf st hg
  subst hP hw hK
  obtain ⟨xs,hq,hx⟩:=hg
  obtain ⟨its,rv,p,hz⟩:=I.tuple hq
  obtain ⟨f0,f1,f2,f3,f4,f5⟩:=hf it (by simp)
  have hl:=rv.length
  exact wpAny_pyNext_tuple_end (I.ok.hd hc) st (show s.heap.IsTuple a its.toArray from p) (by simp;omega) fun h' eb=>⟨rfl,I.turned (t':=s.toks) (fun b o hb e=>eb b o hb e) f0 f1 f3 f4 f5⟩
 self:=fun _ _ _ _ _ st h=>wpAny_pyIter_tupleiter st h
theorem turn_range {P:Program} {w:World} {K:PySem.W.Frag} {tg:Expr} (it:Addr) (lo:Int) (n:Nat):Turn P w K tg (Itr lo n) [it] it (fun i h=>IsRangeIter h it (lo+(i:Nat) * 1) ((n:Int) - (i:Nat)) 1) where
 mem:=by simp
 obj:=fun i h st b hb=>by
  have e:b=it:=by simpa using hb
  subst e
  exact ⟨_,st,fun v z=>by
   have z':Data.fields _=Data.cell v:=z
   cases z'⟩
 keep:=fun i h h' st k=>k it (by simp) _ st
 item:=by
  intro X hP hw hK hc i pins s σ H E I hf st hg
  subst hP hw hK
  obtain ⟨f0,f1,f2,f3,f4,f5⟩:=hf it (by simp)
  have W:=Walks.range (prog:=X.prog) (w:=X.w) (I.ok.hd hc) it lo 1 n
  refine W.item i s _ _ hg st fun v h' tk hv st' kk=>?_
  obtain ⟨t,rfl⟩:=hv
  have I1:Inv X pins σ H { s with heap:=h',toks:=tk }:=I.turned (fun b o hb e=>kk b o (by simpa using hb) e) f0 f1 f3 f4 f5
  refine ⟨_,rfl,go_of (s:={ s with heap:=h',toks:=tk }) (n := "range_iterator") st' rfl rfl (by decide) ⟨.int (lo+i),H,I1,⟨t,?_⟩,⟨rfl,rfl⟩,st',fun b hb=>(hf b hb).1⟩⟩
  rw [Int.mul_one]
 done:=by
  intro X hP hw hK hc i pins s σ H E I hf st hg
  subst hP hw hK
  obtain ⟨f0,f1,f2,f3,f4,f5⟩:=hf it (by simp)
  exact wpAny_pyNext_range_end (I.ok.hd hc) st (by have:n<=i:=hg;omega) fun h' eb=>⟨rfl,I.turned (t':=s.toks) (fun b o hb e=>eb b o hb e) f0 f1 f3 f4 f5⟩
 self:=fun _ _ _ _ _ st h=>wpAny_pyIter_rangeiter st h
end L2
namespace L2
open PySem PySem.Spec PyProof.Rows
section
variable {X:Cx} {tg:Expr}
def iList (K:PySem.W.Frag) (tl:TE):TI:=fun σ H R=>tl σ H fun x H1=>∃ a,x=.ref a/\(∃ xs,SqL K H1 a xs)/\R (Itl K a) H1
def iTup (K:PySem.W.Frag) (tl:TE):TI:=fun σ H R=>tl σ H fun x H1=>∃ a,x=.ref a/\(∃ xs,SqT K H1 a xs)/\R (Itt K a) H1
theorem pi_list {l:Expr} {tl:TE} (hl:PE X l tl):PI X tg l (iList X.K tl):=by
 intro pins s σ H R I h
 refine thn (hl pins s σ H _ I h) fun v s1 ⟨x,H1,I1,r1,q1⟩=>?_
 obtain ⟨a,e,⟨xs,hq⟩,q⟩:=q1
 subst e
 cases r1
 obtain ⟨its,rv,p,hz⟩:=I1.list hq
 refine wpAny_pyIter_list p.isList ?_
 refine ⟨s1.heap.objs.size,[s1.heap.objs.size],_,_,H1,rfl,I1.kept (t':=s1.toks) fun b o e=>Heap.get?_push_of_some _ e,turn_list a _,⟨_,Heap.get?_push_size _ rfl,rfl,rfl⟩,fun b hb=>?_,q⟩
 have e:b=s1.heap.objs.size:=by simpa using hb
 subst e
 exact I1.fpOk (Nat.le_refl _) (I1.hok.fresh (Nat.le_refl _))
theorem pi_tup {l:Expr} {tl:TE} (hl:PE X l tl):PI X tg l (iTup X.K tl):=by
 intro pins s σ H R I h
 refine thn (hl pins s σ H _ I h) fun v s1 ⟨x,H1,I1,r1,q1⟩=>?_
 obtain ⟨a,e,⟨xs,hq⟩,q⟩:=q1
 subst e
 cases r1
 obtain ⟨its,rv,p,hz⟩:=I1.tuple hq
 refine wpAny_pyIter_tuple (show s1.heap.IsTuple a its.toArray from p) ?_
 refine ⟨s1.heap.objs.size,[s1.heap.objs.size],_,_,H1,rfl,I1.kept (t':=s1.toks) fun b o e=>Heap.get?_push_of_some _ e,turn_tuple a _,⟨_,Heap.get?_push_size _ rfl,rfl,rfl⟩,fun b hb=>?_,q⟩
 have e:b=s1.heap.objs.size:=by simpa using hb
 subst e
 exact I1.fpOk (Nat.le_refl _) (I1.hok.fresh (Nat.le_refl _))
theorem range_it {pins:List (Addr × Obj)} {σ:St} {H:Hp} {s:Shared} {R:It->Hp->Prop} {E:Value->Shared->Prop} {lo hi:Int} {t u v:Tok} {tk:Nat} (I:Inv X pins σ H s) (h1:-(2 ^ 62)<=lo) (h2:lo < 2 ^ 62) (h3:-(2 ^ 62)<=hi) (h4:hi < 2 ^ 62)
  (q:R (Itr lo (hi - lo).toNat) H):wpAny (model X.prog X.w) X.A (pyIter (.ref s.heap.objs.size)) (PIE X pins σ tg R) E { s with heap:=s.heap.push { cls:=.type "range",data:=.fields #[.int lo t,.int hi u,.int 1 v] },toks:=tk }:=by
 refine wpAny_pyIter_range (IsRange.new ..) (small_one h1 h2 h3 h4) ?_
 have I1:Inv X pins σ H { s with heap:=s.heap.push { cls:=.type "range",data:=.fields #[.int lo t,.int hi u,.int 1 v] },toks:=tk }:=I.kept fun b o e=>Heap.get?_push_of_some _ e
 refine ⟨(s.heap.push { cls:=.type "range",data:=.fields #[.int lo t,.int hi u,.int 1 v] }).objs.size,[(s.heap.push { cls:=.type "range",data:=.fields #[.int lo t,.int hi u,.int 1 v] }).objs.size],_,_,H,rfl,
  I1.kept (t':=tk) fun b o e=>Heap.get?_push_of_some _ e,turn_range _ lo (hi - lo).toNat,?_,fun b hb=>?_,q⟩
 ·have e1:lo+((0:Nat):Int) * 1=lo:=by simp
  have e2:(((hi - lo).toNat:Nat):Int) - ((0:Nat):Int)=Builtin.Range.rangeSize lo hi 1:=by rw [rangeSize_one];split<;>omega
  show IsRangeIter _ _ (lo+((0:Nat):Int) * 1) ((((hi - lo).toNat:Nat):Int) - ((0:Nat):Int)) 1
  rw [e1,e2]
  exact Heap.get?_push_size _ rfl
 ·have e:b=(s.heap.push { cls:=.type "range",data:=.fields #[.int lo t,.int hi u,.int 1 v] }).objs.size:=by simpa using hb
  subst e
  exact I1.fpOk (Nat.le_refl _) (I1.hok.fresh (Nat.le_refl _))
def iRng1 (ta:TA):TI:=fun σ H R=>ta σ H fun vs H1=>∃ j:Int,vs=[.int j]/\-(2 ^ 62)<=j/\j < 2 ^ 62/\R (Itr 0 j.toNat) H1
theorem pi_range1 {a:Expr} {ta:TA} {p pos:Pos} (hg:Gl X "range") (hm:X.mg "range" = none) (ha:PA X [a] ta) (hs:starEach [a] X.env=[(false,eval a X.env)]:=by rfl):PI X tg (.Call (.Name "range" p) [a] [] pos) (iRng1 ta):=by
 intro pins s σ H R I h
 refine Call_ (ld_blt I hg hm boot_range (PyProof.Rows.callWith_type1 (thn (ha pos pins s σ H _ I h) fun us s1 ⟨vs,H1,I1,r1,q1⟩=>?_) hs rfl))
 obtain ⟨j,e,q1,q2,q⟩:=q1
 subst e
 cases r1 with
 | cons r rr =>
  cases rr
  obtain ⟨t,rfl⟩:=r
  exact call_range_1 (range_it I1 (by omega) (by omega) q1 q2 (by simpa using q))
def pinsAt (fp:List Addr) (h:Heap):List (Addr × Obj):=fp.filterMap fun b=>(h.get? b).map fun o=>(b,o)
theorem mem_pinsAt {fp:List Addr} {h:Heap} {b:Addr} {o:Obj} (hb:b∈fp) (e:h.get? b=some o):(b,o)∈pinsAt fp h:=List.mem_filterMap.mpr ⟨b,hb,by rw [e];rfl⟩
theorem of_pinsAt {fp:List Addr} {h:Heap} {p:Addr × Obj} (hp:p∈pinsAt fp h):p.1∈fp/\h.get? p.1=some p.2:=by
 obtain ⟨b,hb,e⟩:=List.mem_filterMap.mp hp
 cases q:h.get? b with
 | none=>rw [q] at e;cases e
 | some o =>
  rw [q] at e
  have e':(b,o)=p:=Option.some.inj e
  subst e'
  exact ⟨hb,q⟩
theorem Inv.pinned {pins:List (Addr × Obj)} {σ:St} {H:Hp} {s:Shared} {fp:List Addr} (I:Inv X pins σ H s) (hf:∀ b∈fp,FpOk X pins H b) (ho:∀ b∈fp,∃ o,s.heap.get? b=some o/\∀ v,o.data≠.cell v):Inv X (pins++pinsAt fp s.heap) σ H s :=
 I.pins_of fun p hp=>(List.mem_append.mp hp).elim (fun z=>I.pin p (List.mem_append_right _ z)) fun z=>by
  obtain ⟨hb,e⟩:=of_pinsAt z
  obtain ⟨f0,f1,f2,_⟩:=hf p.1 hb
  obtain ⟨o,e',d⟩:=ho p.1 hb
  rw [e] at e';cases e'
  exact ⟨e,f0,f1,f2,d⟩
theorem Inv.unpinned {pins pl:List (Addr × Obj)} {σ:St} {H:Hp} {s:Shared} (I:Inv X (pins++pl) σ H s):Inv X pins σ H s:=I.pins_of fun p hp=>I.pin p (List.mem_append_right _ (List.mem_append_left _ hp))
end
end L2
namespace L2
open PySem PySem.Spec PyProof.Rows
abbrev R2:=V->V->Hp->VK->Prop
def OpR (X:Cx) (f:Value->Value->Sem Value) (r:R2):Prop :=
 ∀ (pins:List (Addr × Obj)) (s:Shared) (σ:St) (H:Hp) (x y:V) (v u:Value) (Q:VK),Inv X pins σ H s->RelV x v->RelV y u->r x y H Q ->
  wpAny (model X.prog X.w) X.A (f v u) (EP X pins σ Q) X.xe s
def UnR (X:Cx) (f:Value->Sem Value) (r:V->Hp->VK->Prop):Prop :=
 ∀ (pins:List (Addr × Obj)) (s:Shared) (σ:St) (H:Hp) (x:V) (v:Value) (Q:VK),Inv X pins σ H s->RelV x v->r x H Q ->
  wpAny (model X.prog X.w) X.A (f v) (EP X pins σ Q) X.xe s
def CallR (X:Cx) (f:Value) (r:List V->Hp->VK->Prop):Prop :=
 ∀ (pins:List (Addr × Obj)) (s:Shared) (σ:St) (H:Hp) (xs:List V) (us:List Value) (Q:VK),Inv X pins σ H s->Vals xs us->r xs H Q ->
  wpAny (model X.prog X.w) X.A (call f us) (EP X pins σ Q) X.xe s
def TruR (X:Cx) (r:V->Hp->(Bool->Hp->Prop)->Prop):Prop :=
 ∀ (pins:List (Addr × Obj)) (s:Shared) (σ:St) (H:Hp) (x:V) (v:Value) (Q:Bool->Hp->Prop),Inv X pins σ H s->RelV x v->r x H Q ->
  wpAny (model X.prog X.w) X.A (truthy v) (TP X pins σ Q) X.xe s
def rI (C:Int->Int->Prop) (g:Int->Int->V):R2:=fun x y H Q=>∃ i j,x=.int i/\y=.int j/\C i j/\Q (g i j) H
def rI0 (g:Int->Int->V):R2:=fun x y H Q=>∃ i j,x=.int i/\y=.int j/\Q (g i j) H
def rU (g:Int->V):V->Hp->VK->Prop:=fun x H Q=>∃ i,x=.int i/\Q (g i) H
section
variable {X:Cx} {a b c:Expr} {ta tb tc:TE} {pos:Pos}
theorem opI {f:Value->Value->Sem Value} {C:Int->Int->Prop} {g:Int->Int->Int}
  (rule:∀ (i j:Int) (t u:Tok) (s:Shared) (Q:Value->Shared->Prop) (E:Value->Shared->Prop),C i j->Q (.int (g i j) s.toks) { s with toks:=s.toks+1 }->wpAny (model X.prog X.w) X.A (f (.int i t) (.int j u)) Q E s) :
  OpR X f (rI C fun i j=>.int (g i j)):=by
 intro pins s σ H x y v u Q I rx ry h
 obtain ⟨i,j,rfl,rfl,hc,q⟩:=h
 obtain ⟨t,rfl⟩:=rx
 obtain ⟨t',rfl⟩:=ry
 exact rule i j t t' s _ _ hc ⟨.int (g i j),H,I.tok _,⟨_,rfl⟩,q⟩
theorem opI0 {f:Value->Value->Sem Value} {g:Int->Int->Int}
  (rule:∀ (i j:Int) (t u:Tok) (s:Shared) (Q:Value->Shared->Prop) (E:Value->Shared->Prop),Q (.int (g i j) s.toks) { s with toks:=s.toks+1 }->wpAny (model X.prog X.w) X.A (f (.int i t) (.int j u)) Q E s) :
  OpR X f (rI0 fun i j=>.int (g i j)):=by
 intro pins s σ H x y v u Q I rx ry h
 obtain ⟨i,j,rfl,rfl,q⟩:=h
 obtain ⟨t,rfl⟩:=rx
 obtain ⟨t',rfl⟩:=ry
 exact rule i j t t' s _ _ ⟨.int (g i j),H,I.tok _,⟨_,rfl⟩,q⟩
theorem opB0 {f:Value->Value->Sem Value} {g:Int->Int->Bool}
  (rule:∀ (i j:Int) (t u:Tok) (s:Shared) (Q:Value->Shared->Prop) (E:Value->Shared->Prop),Q (.bool (g i j)) s->wpAny (model X.prog X.w) X.A (f (.int i t) (.int j u)) Q E s) :
  OpR X f (rI0 fun i j=>.bl (g i j)):=by
 intro pins s σ H x y v u Q I rx ry h
 obtain ⟨i,j,rfl,rfl,q⟩:=h
 obtain ⟨t,rfl⟩:=rx
 obtain ⟨t',rfl⟩:=ry
 exact rule i j t t' s _ _ ⟨.bl (g i j),H,I,rfl,q⟩
def CPow (i j:Int):Prop:=0<=j/\j<=1000000/\i.natAbs < 2 ^ 64
theorem two_pow_nn (k:Nat):(0:Int)<=2 ^ k:=by
 rw [two_pow_cast]
 exact Int.natCast_nonneg _
theorem op_add:OpR X (binaryOp .Add) (rI0 fun i j=>.int (i+j)):=opI0 fun _ _ _ _ _ _ _ q=>add_int q
theorem op_sub:OpR X (binaryOp .Sub) (rI0 fun i j=>.int (i - j)):=opI0 fun _ _ _ _ _ _ _ q=>sub_int q
theorem op_modN:OpR X (binaryOp .Mod) (rI (fun _ j=>j≠0) fun i j=>.int (i.fmod j)):=opI fun _ _ _ _ _ _ _ hc q=>mod_int' hc q
theorem op_pow:OpR X (binaryOp .Pow) (rI CPow fun i j=>.int (i ^ j.toNat)):=opI fun _ _ _ _ _ _ _ hc q=>pow_int_small hc.1 hc.2.1 hc.2.2 q
theorem op_shl:OpR X (binaryOp .LShift) (rI CPow fun i j=>.int (i * 2 ^ j.toNat)):=opI fun _ _ _ _ _ _ _ hc q=>lshift_int_small hc.1 hc.2.1 hc.2.2 q
theorem op_shr:OpR X (binaryOp .RShift) (rI (fun _ j=>0<=j) fun i j=>.int (i / 2 ^ j.toNat)):=opI fun i j _ _ _ _ _ hc q =>
 rshift_int hc (by rw [Int.fdiv_eq_ediv_of_nonneg i (two_pow_nn _)];exact q)
theorem op_or:OpR X (binaryOp .BitOr) (rI0 fun i j=>.int (Builtin.bitOr i j)):=opI0 fun _ _ _ _ _ _ _ q=>or_int q
theorem unI {f:Value->Sem Value} {g:Int->Int}
  (rule:∀ (i:Int) (t:Tok) (s:Shared) (Q:Value->Shared->Prop) (E:Value->Shared->Prop),Q (.int (g i) s.toks) { s with toks:=s.toks+1 }->wpAny (model X.prog X.w) X.A (f (.int i t)) Q E s) :
  UnR X f (rU fun i=>.int (g i)):=by
 intro pins s σ H x v Q I rx h
 obtain ⟨i,rfl,q⟩:=h
 obtain ⟨t,rfl⟩:=rx
 exact rule i t s _ _ ⟨.int (g i),H,I.tok _,⟨_,rfl⟩,q⟩
theorem un_neg:UnR X (unaryOp .USub) (rU fun i=>.int (-i)):=unI fun _ _ _ _ _ q=>neg_int q
end
def scal:V->V->Bool
 | .non,.non=>true | .non,.int _=>true | .int _,.non=>true | .non,.bl _=>true | .bl _,.non=>true | .non,.str _=>true | .str _,.non=>true
 | .int _,.int _=>true | .bl _,.bl _=>true | .str _,.str _=>true | .byt _,.byt _=>true
 | .int _,.str _=>true | .str _,.int _=>true | .bl _,.str _=>true | .str _,.bl _=>true
 | _,_=>false
def rEq:R2:=fun x y H Q=>scal x y=true/\Q (.bl (decide (x=y))) H
def rNe:R2:=fun x y H Q=>scal x y=true/\Q (.bl (!decide (x=y))) H
theorem dec_int {i j:Int}:decide (V.int i=V.int j)=(i == j):=by
 rw [Bool.eq_iff_iff]
 simp
theorem dec_bl {i j:Bool}:decide (V.bl i=V.bl j)=(i == j):=by
 rw [Bool.eq_iff_iff]
 simp
theorem dec_str {i j:Str}:decide (V.str i=V.str j)=(i == j):=by
 rw [Bool.eq_iff_iff]
 simp
theorem dec_byt {i j:Array UInt8}:decide (V.byt i=V.byt j)=(i.toList == j.toList):=by
 rw [Bool.eq_iff_iff]
 cases i
 cases j
 simp
section
variable {X:Cx} {a b c:Expr} {ta tb tc:TE} {pos:Pos}
theorem fin_bl {pins:List (Addr × Obj)} {σ:St} {H:Hp} {s:Shared} {Q:VK} {k k':Bool} (I:Inv X pins σ H s) (q:Q (.bl k) H) (e:k=k'):EP X pins σ Q (.bool k') s:=by
 subst e
 exact ⟨.bl k,H,I,rfl,q⟩
theorem op_eq:OpR X (compareOp .Eq) rEq:=by
 intro pins s σ H x y v u Q I rx ry h
 obtain ⟨hs,q⟩:=h
 cases x with
 | non =>
  cases rx
  cases y with
  | non=>cases ry;exact PySem.EqNone.eq_none_none (fin_bl I q (by simp))
  | bl j=>cases ry;exact PySem.EqNone.eq_none_bool (fin_bl I q (by simp))
  | int j=>obtain ⟨t',rfl⟩:=ry;exact PySem.EqNone.eq_none_int (fin_bl I q (by simp))
  | str j=>obtain ⟨t',rfl⟩:=ry;exact PySem.EqNone.eq_none_str (fin_bl I q (by simp))
  | _=>exact absurd (show false=true from hs) Bool.false_ne_true
 | bl i =>
  cases rx
  cases y with
  | non=>cases ry;exact PySem.EqNone.eq_bool_none (fin_bl I q (by simp))
  | bl j=>cases ry;exact eq_bool (fin_bl I q dec_bl)
  | str j=>obtain ⟨t',rfl⟩:=ry;exact PySem.EqMixed.eq_bool_str (fin_bl I q (by simp))
  | _=>exact absurd (show false=true from hs) Bool.false_ne_true
 | int i =>
  obtain ⟨t,rfl⟩:=rx
  cases y with
  | non=>cases ry;exact PySem.EqNone.eq_int_none (fin_bl I q (by simp))
  | int j=>obtain ⟨t',rfl⟩:=ry;exact eq_int (fin_bl I q dec_int)
  | str j=>obtain ⟨t',rfl⟩:=ry;exact PySem.EqMixed.eq_int_str (fin_bl I q (by simp))
  | _=>exact absurd (show false=true from hs) Bool.false_ne_true
 | str i =>
  obtain ⟨t,rfl⟩:=rx
  cases y with
  | non=>cases ry;exact PySem.EqNone.eq_str_none (fin_bl I q (by simp))
  | bl j=>cases ry;exact PySem.EqMixed.eq_str_bool (fin_bl I q (by simp))
  | int j=>obtain ⟨t',rfl⟩:=ry;exact PySem.EqMixed.eq_str_int (fin_bl I q (by simp))
  | str j=>obtain ⟨t',rfl⟩:=ry;exact eq_str (fin_bl I q dec_str)
  | _=>exact absurd (show false=true from hs) Bool.false_ne_true
 | byt i =>
  obtain ⟨t,rfl⟩:=rx
  cases y with
  | byt j=>obtain ⟨t',rfl⟩:=ry;exact PySem.W.eq_bytes (fin_bl I q dec_byt)
  | _=>exact absurd (show false=true from hs) Bool.false_ne_true
 | _=>cases y<;>exact absurd (show false=true from hs) Bool.false_ne_true
theorem op_ne:OpR X (compareOp .NotEq) rNe:=by
 intro pins s σ H x y v u Q I rx ry h
 obtain ⟨hs,q⟩:=h
 cases x with
 | non =>
  cases rx
  cases y with
  | non=>cases ry;exact PySem.EqNone.ne_none_none (fin_bl I q (by simp))
  | bl j=>cases ry;exact PySem.EqNone.ne_none_bool (fin_bl I q (by simp))
  | int j=>obtain ⟨t',rfl⟩:=ry;exact PySem.EqNone.ne_none_int (fin_bl I q (by simp))
  | str j=>obtain ⟨t',rfl⟩:=ry;exact PySem.EqNone.ne_none_str (fin_bl I q (by simp))
  | _=>exact absurd (show false=true from hs) Bool.false_ne_true
 | bl i =>
  cases rx
  cases y with
  | non=>cases ry;exact PySem.EqNone.ne_bool_none (fin_bl I q (by simp))
  | bl j=>cases ry;exact ne_bool (fin_bl I q (congrArg not dec_bl))
  | str j=>obtain ⟨t',rfl⟩:=ry;exact PySem.EqMixed.ne_bool_str (fin_bl I q (by simp))
  | _=>exact absurd (show false=true from hs) Bool.false_ne_true
 | int i =>
  obtain ⟨t,rfl⟩:=rx
  cases y with
  | non=>cases ry;exact PySem.EqNone.ne_int_none (fin_bl I q (by simp))
  | int j=>obtain ⟨t',rfl⟩:=ry;exact ne_int (fin_bl I q (congrArg not dec_int))
  | str j=>obtain ⟨t',rfl⟩:=ry;exact PySem.EqMixed.ne_int_str (fin_bl I q (by simp))
  | _=>exact absurd (show false=true from hs) Bool.false_ne_true
 | str i =>
  obtain ⟨t,rfl⟩:=rx
  cases y with
  | non=>cases ry;exact PySem.EqNone.ne_str_none (fin_bl I q (by simp))
  | bl j=>cases ry;exact PySem.EqMixed.ne_str_bool (fin_bl I q (by simp))
  | int j=>obtain ⟨t',rfl⟩:=ry;exact PySem.EqMixed.ne_str_int (fin_bl I q (by simp))
  | str j=>obtain ⟨t',rfl⟩:=ry;exact ne_str (fin_bl I q (congrArg not dec_str))
  | _=>exact absurd (show false=true from hs) Bool.false_ne_true
 | byt i =>
  obtain ⟨t,rfl⟩:=rx
  cases y with
  | byt j=>obtain ⟨t',rfl⟩:=ry;exact PySem.W.ne_bytes (fin_bl I q (congrArg not dec_byt))
  | _=>exact absurd (show false=true from hs) Bool.false_ne_true
 | _=>cases y<;>exact absurd (show false=true from hs) Bool.false_ne_true
theorem op_lt:OpR X (compareOp .Lt) (rI0 fun i j=>.bl (decide (i < j))):=opB0 fun _ _ _ _ _ _ _ q=>lt_int q
theorem op_le:OpR X (compareOp .LtE) (rI0 fun i j=>.bl (decide (i<=j))):=opB0 fun _ _ _ _ _ _ _ q=>le_int q
theorem op_gt:OpR X (compareOp .Gt) (rI0 fun i j=>.bl (decide (j < i))):=opB0 fun _ _ _ _ _ _ _ q=>gt_int q
theorem op_isN:OpR X (compareOp .Is) (fun x y H Q=>y=.non/\Q (.bl (decide (x=.non))) H):=by
 intro pins s σ H x y v u Q I rx ry h
 obtain ⟨rfl,q⟩:=h
 cases ry
 refine is_none_gen (fin_bl I q ?_)
 cases x<;>first
  | (cases rx;rfl)
  | (obtain ⟨t,rfl⟩:=rx;rfl)
theorem OpR.or {f:Value->Value->Sem Value} {r r':R2} (h:OpR X f r) (h':OpR X f r'):OpR X f (fun x y H Q=>r x y H Q\/r' x y H Q):=by
 intro pins s σ H x y v u Q I rx ry q
 rcases q with q | q
 ·exact h pins s σ H x y v u Q I rx ry q
 ·exact h' pins s σ H x y v u Q I rx ry q
theorem nomark (b:Expr) {op:CmpOp} (h:op≠.In:=by decide) (h2:op≠.NotIn:=by decide):behindInMarks op b=false:=by
 have e1:(op == CmpOp.In)=false:=by cases op<;>first | rfl | exact absurd rfl h
 have e2:(op == CmpOp.NotIn)=false:=by cases op<;>first | rfl | exact absurd rfl h2
 cases b<;>simp [behindInMarks,e1,e2]
def TruV (K:PySem.W.Frag) (x:V) (H:Hp) (k:Bool):Prop :=
 match x with
 | .non=>k=false
 | .bl b=>k=b
 | .int i=>k=(i != 0)
 | .str y=>y.length<=sizeLine/\k=((y.length:Int) != 0)
 | .byt y=>y.size<=sizeLine/\k=((y.size:Int) != 0)
 | .ref p=>(∃ xs,SqL K H p xs/\k=!xs.isEmpty)\/(∃ xs,SqT K H p xs/\k=!xs.isEmpty)\/∃ kvs,H p=some (.dK kvs)/\k=!kvs.isEmpty
 | _=>False
theorem isEmpty_kv {κ:Type} {kvs:List (κ × V)} {vs:List (κ × Value)} (r:KV kvs vs):(!vs.isEmpty)=!kvs.isEmpty:=by
 cases r<;>rfl
theorem isEmpty_of {xs:List V} {its:List Value} (r:Vals xs its):(!its.toArray.isEmpty)=!xs.isEmpty:=by
 cases r<;>simp
theorem line63:(sizeLine:Nat) < 2 ^ 63:=by rw [sizeLine_eq];decide
theorem tru_ok:TruR X (fun x H Q=>∃ k,TruV X.K x H k/\Q k H):=by
 intro pins s σ H x v Q I rx h
 obtain ⟨k,e,q⟩:=h
 have hl:=line63
 have hs:sizeLine=16777216:=sizeLine_eq
 cases x with
 | non =>
  cases rx
  have e':k=false:=e
  subst e'
  exact truthy_none ⟨H,I,q⟩
 | bl b =>
  cases rx
  have e':k=b:=e
  subst e'
  exact wpAny_truthy_bool ⟨H,I,q⟩
 | int i =>
  obtain ⟨t,rfl⟩:=rx
  have e':k=(i != 0):=e
  subst e'
  exact PySem.P.truthy_int ⟨H,I,q⟩
 | str y =>
  obtain ⟨t,rfl⟩:=rx
  obtain ⟨hy,e'⟩:y.length<=sizeLine/\k=((y.length:Int) != 0):=e
  subst e'
  exact PySem.P.truthy_str (by omega) ⟨H,I.tok _,q⟩
 | byt y =>
  obtain ⟨t,rfl⟩:=rx
  obtain ⟨hy,e'⟩:y.size<=sizeLine/\k=((y.size:Int) != 0):=e
  subst e'
  exact PySem.W.truthy_bytes (by omega) ⟨H,I.tok _,q⟩
 | ref p =>
  cases rx
  have e':(∃ xs,SqL X.K H p xs/\k=!xs.isEmpty)\/(∃ xs,SqT X.K H p xs/\k=!xs.isEmpty)\/∃ kvs,H p=some (.dK kvs)/\k=!kvs.isEmpty:=e
  rcases e' with ⟨xs,hx,e'⟩ | ⟨xs,hx,e'⟩ | ⟨kvs,hx,e'⟩
  ·subst e'
   obtain ⟨its,r,pl,hz⟩:=I.list hx
   have hlen:=r.length
   exact wpAny_truthy_list pl.isList (by simp only [List.size_toArray];omega) ⟨H,I.tok _,by rw [isEmpty_of r];exact q⟩
  ·subst e'
   obtain ⟨its,r,pl,hz⟩:=I.tuple hx
   have hlen:=r.length
   exact truthy_tuple pl (by simp only [List.size_toArray];omega) ⟨H,I.tok _,by rw [isEmpty_of r];exact q⟩
  ·subst e'
   obtain ⟨hz,hS,vs,r,m⟩:kvs.length<=sizeLine/\(p == sysModules)=false/\∃ vs,KV kvs vs/\s.heap.DictOf (mixKind X.prog X.w) p vs:=I.hok p _ hx
   have hlen:kvs.length=vs.length:=Paired.length r
   exact wpAny_truthy_dict hS m (by omega) ⟨H,I.tok _,by rw [isEmpty_kv r];exact q⟩
 | _=>exact (show False from e).elim
theorem op_add_str:OpR X (binaryOp .Add) (fun x y H Q=>∃ i j,x=.str i/\y=.str j/\i.length+j.length<=sizeLine/\Q (.str (i++j)) H):=by
 intro pins s σ H x y v u Q I rx ry h
 obtain ⟨i,j,rfl,rfl,hz,q⟩:=h
 obtain ⟨t,rfl⟩:=rx
 obtain ⟨t',rfl⟩:=ry
 exact add_str (fun t' tk=>⟨.str (i++j),H,I.tok _,⟨_,rfl⟩,q⟩) hz
theorem vals1 {x:V} {us:List Value} (r:Vals [x] us):∃ u,us=[u]/\RelV x u:=by
 cases r with
 | cons r1 r2=>cases r2;exact ⟨_,rfl,r1⟩
theorem vals2 {x y:V} {us:List Value} (r:Vals [x,y] us):∃ u w',us=[u,w']/\RelV x u/\RelV y w':=by
 cases r with
 | cons r1 r2 =>
  cases r2 with
  | cons r3 r4=>cases r4;exact ⟨_,_,rfl,r1,r3⟩
theorem call_abs:CallR X (.builtin "abs") (fun xs H Q=>∃ i,xs=[.int i]/\Q (.int (if i < 0 then -i else i)) H):=by
 intro pins s σ H xs us Q I r h
 obtain ⟨i,rfl,q⟩:=h
 obtain ⟨u,rfl,t,rfl⟩:=vals1 r
 exact call_abs_int fun u tk=>⟨.int (if i < 0 then -i else i),H,I.tok _,⟨_,rfl⟩,q⟩
theorem call_max2 (hc:X.calm=true):CallR X (.builtin "max") (fun xs H Q=>∃ i j,xs=[.int i,.int j]/\Q (.int (if j > i then j else i)) H):=by
 intro pins s σ H xs us Q I r h
 obtain ⟨i,j,rfl,q⟩:=h
 obtain ⟨u,w',rfl,⟨t,rfl⟩,⟨t',rfl⟩⟩:=vals2 r
 refine max_two_ints (I.ok.hd hc) fun h' tk k=>⟨_,H,I.kept k,?_,q⟩
 by_cases hj:j > i
 ·rw [if_pos hj,if_pos hj];exact ⟨_,rfl⟩
 ·rw [if_neg hj,if_neg hj];exact ⟨_,rfl⟩
theorem call_min2 (hc:X.calm=true):CallR X (.builtin "min") (fun xs H Q=>∃ i j,xs=[.int i,.int j]/\Q (.int (if j < i then j else i)) H):=by
 intro pins s σ H xs us Q I r h
 obtain ⟨i,j,rfl,q⟩:=h
 obtain ⟨u,w',rfl,⟨t,rfl⟩,⟨t',rfl⟩⟩:=vals2 r
 refine min_two_ints (I.ok.hd hc) fun h' tk k=>⟨_,H,I.kept k,?_,q⟩
 by_cases hj:j < i
 ·rw [if_pos hj,if_pos hj];exact ⟨_,rfl⟩
 ·rw [if_neg hj,if_neg hj];exact ⟨_,rfl⟩
end
end L2
namespace L2
open PySem PySem.Spec PyProof.Rows
structure ObjM (h:Heap) (x dx C:Addr) (mA:Str->Option Value):Prop where
 obj:h.get? x=some (PySem.W.instObj C dx)
 ns:h.Ns1 dx mA
 ne:dx≠x
theorem lookIn_ns {h:Heap} {dx:Addr} {mA:Str->Option Value} (n:h.Ns1 dx mA):∃ od,h.get? dx=some od/\∀ name,PySem.W.lookIn name od=some (mA name):=by
 obtain ⟨o,es,ep,ho,hd,hk,_,hm⟩:=n
 refine ⟨o,ho,fun name=>?_⟩
 have e:=hm name
 unfold nsFind findBy at e
 rw [<- Array.find?_toList] at e
 unfold PySem.W.lookIn
 rw [hd]
 dsimp only
 split
 ·rename_i y q
  rw [q] at e
  exact congrArg some e
 ·rename_i q
  rw [q] at e
  have a:es.toList.any (·.refKey)=false:=by
   rw [List.any_eq_false]
   intro y hy
   obtain ⟨z,t,hkey⟩:=hk y (Array.mem_toList_iff.mp hy)
   simp [DictEntry.refKey,hkey]
  have a':¬ es.toList.any (·.refKey)=true:=by rw [a];exact Bool.false_ne_true
  rw [if_neg a']
  exact congrArg some e
theorem ObjM.look {h:Heap} {x dx C:Addr} {mA:Str->Option Value} (I:ObjM h x dx C mA):∃ od,PySem.W.InstAt h x (PySem.W.instObj C dx) C (some od)/\∀ name,PySem.W.lookIn name od=some (mA name) :=
 let ⟨od,ho,hl⟩:=lookIn_ns I.ns
 ⟨od,⟨I.obj,rfl,rfl,ho⟩,hl⟩
section
variable {prog:Program} {w:World} {A:Around} {E:Value->Shared->Prop} {s:Shared} {K:PySem.W.Frag} {x dx C f:Addr} {mA:Str->Option Value} {name:Str} {v:Value}
end
theorem RelO.some_of {v:V} {o:Option Value} (r:RelO (some v) o):∃ u,o=some u/\RelV v u:=by
 cases o with
 | none=>exact (show False from r).elim
 | some u=>exact ⟨u,rfl,r⟩
section
variable {P:Program} {w:World} {H H':Hp} {h h':Heap} {a C dx:Addr} {fs fs':List (Str × V)}
theorem ins_get (hok:HOk P w H h) (e:H a=some (.ins C dx fs)):∃ mA,ObjM h a dx C mA/\(∀ f,RelO (fs.lookup f) (mA f))/\PySem.Within mA (fs.map (·.1))/\fs.length<=1000/\H dx=some (.own a):=by
 obtain ⟨d,z,ne,ob,mA,n,r,q⟩:=(show ObjOk P w H h a (.ins C dx fs) from hok a _ e)
 exact ⟨mA,⟨ob,n,ne⟩,r,q,z,d⟩
end
structure Cls (K:PySem.W.Frag) (C:Addr):Prop where
 pg:PySem.W.plainGet K C Str.empty=true
 hd:PySem.W.hasDictIn K C=true
 po:PySem.W.plainOver K C=true
 sa:PySem.W.findIn K (.ref C) "__setattr__" = some (some (.builtin "object.__setattr__"))
theorem Cls.get {K:PySem.W.Frag} {C:Addr} (c:Cls K C) (f:Str):PySem.W.plainGet K C f=true:=c.pg
section
variable {X:Cx} {pins:List (Addr × Obj)} {σ:St} {H:Hp} {s:Shared} {a C dx:Addr} {fs:List (Str × V)} {f:Str} {v:V} {A:Around} {E:Value->Shared->Prop}
end
section
variable {X:Cx} {o e value:Expr} {f:Str} {pos pos' tpos:Pos} {ta tv:TE}
end
section
variable {X:Cx} {pins:List (Addr × Obj)} {σ:St} {H:Hp} {s:Shared} {A:Around} {E:Value->Shared->Prop} {Q:Value->Shared->Prop} {c:Value} {b:Bool}
inductive TyOf (K:PySem.W.Frag) (H:Hp):V->Value->Prop where
 | non:TyOf K H .non (.type "NoneType")
 | bl (x:Bool):TyOf K H (.bl x) (.type "bool")
 | int (i:Int):TyOf K H (.int i) (.type "int")
 | str (x:Str):TyOf K H (.str x) (.type "str")
 | flt (x:UInt64):TyOf K H (.flt x) (.type "float")
 | lst {a:Addr} {xs:List V} (e:H a=some (.lst xs)):TyOf K H (.ref a) (.type "list")
 | frz {a:Addr} {o:Obj} {xs:List V} (e:H a=some (.frz o (.lst xs))):TyOf K H (.ref a) (.type "list")
 | tup {a:Addr} {xs:List V} (e:H a=some (.tup xs)):TyOf K H (.ref a) (.type "tuple")
 | dK {a:Addr} {kvs:List (Key × V)} (e:H a=some (.dK kvs)):TyOf K H (.ref a) (.type "dict")
 | dT {a:Addr} {kvs:List (List Key × V)} (e:H a=some (.dT kvs)):TyOf K H (.ref a) (.type "dict")
 | ins {a C dx:Addr} {fs:List (Str × V)} (e:H a=some (.ins C dx fs)) (cl:Cls K C) (ha:PySem.W.findIn K (.ref C) "__class__" = some (some (.builtin "object.__class__")))
   (hn:PySem.W.specialIn K (.builtin "object.__class__") "__get__" = some (some (.builtin "getset_descriptor.__get__"))) (htk:PySem.W.takesIn K (.builtin "object.__class__")=some true)
   (hm:PySem.W.mroIn K C (.type "object")=some true):TyOf K H (.ref a) (.ref C)
theorem isinst_ok {x:V} {u t:Value} (I:Inv X pins σ H s) (rx:RelV x u) (ty:TyOf X.K H x t) (e:PySem.W.kitOne X.K t c=some b) (h:∀ tk,Q (.bool b) { s with toks:=tk }) :
  wpAny (model X.prog X.w) A (call (.builtin "isinstance") [u,c]) Q E s:=by
 cases ty with
 | non=>cases (show u=Value.none from rx);exact PySem.W.kia_one PySem.W.kitx_none I.kIn True.intro e (fun z=>nomatch z) h
 | bl y=>cases (show u=Value.bool y from rx);exact PySem.W.kia_one PySem.W.kitx_bool I.kIn True.intro e (fun z=>nomatch z) h
 | int i=>obtain ⟨t,q⟩:=(show ∃ t,u=Value.int i t from rx);cases q;exact PySem.W.kia_one PySem.W.kitx_int I.kIn True.intro e (fun z=>nomatch z) h
 | str y=>obtain ⟨t,q⟩:=(show ∃ t,u=Value.str y t from rx);cases q;exact PySem.W.kia_one PySem.W.kitx_str I.kIn True.intro e (fun z=>nomatch z) h
 | flt y=>obtain ⟨t,q⟩:=(show ∃ t,u=Value.float y t from rx);cases q;exact PySem.W.kia_one PySem.W.kitx_float I.kIn True.intro e (fun z=>nomatch z) h
 | @lst a xs ea =>
  cases (show u=Value.ref a from rx)
  obtain ⟨_,_,n,_,h1⟩:=(show ObjOk X.prog X.w H s.heap a (.lst xs) from I.hok a _ ea)
  exact PySem.W.kia_one PySem.W.kitx_list I.kIn ⟨_,h1,rfl⟩ e (fun z=>nomatch z) h
 | @frz a ob xs ea =>
  cases (show u=Value.ref a from rx)
  obtain ⟨_,_,_,n,_,h1⟩:=(show ObjOk X.prog X.w H s.heap a (.frz ob (.lst xs)) from I.hok a _ ea)
  exact PySem.W.kia_one PySem.W.kitx_list I.kIn ⟨_,h1,rfl⟩ e (fun z=>nomatch z) h
 | @tup a xs ea =>
  cases (show u=Value.ref a from rx)
  obtain ⟨_,_,_,p⟩:=(show ObjOk X.prog X.w H s.heap a (.tup xs) from I.hok a _ ea)
  obtain ⟨o,h1,h2,_⟩:=p
  exact PySem.W.kia_one PySem.W.kitx_tuple I.kIn ⟨o,h1,h2⟩ e (fun z=>nomatch z) h
 | @dK a kvs ea =>
  cases (show u=Value.ref a from rx)
  obtain ⟨_,_,vs,_,p⟩:=(show ObjOk X.prog X.w H s.heap a (.dK kvs) from I.hok a _ ea)
  obtain ⟨o,es,ep,h1,h2,_⟩:=p
  exact PySem.W.kia_one PySem.W.kitx_dict I.kIn ⟨o,h1,h2.1⟩ e (fun z=>nomatch z) h
 | @dT a kvs ea =>
  cases (show u=Value.ref a from rx)
  obtain ⟨_,_,xs,_,o,es,ep,h1,h2,_⟩:=(show ObjOk X.prog X.w H s.heap a (.dT kvs) from I.hok a _ ea)
  exact PySem.W.kia_one PySem.W.kitx_dict I.kIn ⟨o,h1,h2.1⟩ e (fun z=>nomatch z) h
 | @ins a C dx fs ea cl ha hn htk hm =>
  cases (show u=Value.ref a from rx)
  obtain ⟨mA,O,_⟩:=ins_get I.hok ea
  obtain ⟨od,J,_⟩:=O.look
  exact PySem.W.kia_one (PySem.W.kitx_own (cl.get _) cl.hd ha hn htk hm) I.kIn J e (fun z=>nomatch z) h
end
end L2
namespace L2
open PySem PySem.Spec PyProof.Rows
structure Room (k:Nat) (A:Around):Prop where
 hd:A.handled=none
 dp:A.depth+3 * k+5 < recursionLimit
 un:A.units+16 * k+200 < cLine
theorem Room.mono {j k:Nat} {A:Around} (r:Room k A) (h:j<=k):Room j A:=⟨r.hd,by have:=r.dp;omega,by have:=r.un;omega⟩
theorem Room.deeper {k:Nat} {A:Around} (r:Room (k+1) A) (env:Env):Room k (A.deeper env) :=
 ⟨r.hd,by have:=r.dp;show A.depth+1+3 * k+5 < _;omega,by have:=r.un;show A.units+3+16 * k+200 < _;omega⟩
theorem Room.depth {k:Nat} {A:Around} (r:Room k A):A.depth < recursionLimit:=by have:=r.dp;omega
theorem Room.units {k:Nat} {A:Around} (r:Room k A):A.units+64 < cLine:=by have:=r.un;omega
section
variable {X:Cx} {e:Expr} {es:List Expr} {te:TE} {t:TA} {pos:Pos}
end
abbrev Sp:=List V->Hp->VK->XK->Prop
abbrev CXT:=List Env->Hp->Shared->XK->Value->Shared->Prop
structure Env0 (P:Program) (w:World) (K:PySem.W.Frag) (mg:Str->Option Value) (base:Heap) (A:Around) (outer:List Env) (s:Shared) (H:Hp):Prop where
 frames:A.frames=some outer
 mod:Mod K mg base
 bs:∀ b o,base.get? b=some o->s.heap.get? b=some o/\H b=none
 bsz:base.objs.size<=s.heap.objs.size
 funs:s.heap.FunFrames base outer
 frf:∀ b∈frs outer,H b=none
 hok:HOk P w H s.heap
 bare:AllBare s.gens
def CE (outer:List Env) (P:Program) (w:World) (H:Hp) (s:Shared) (Q:VK) (u:Value) (s':Shared):Prop :=
 ∃ v H',s'.os=s.os/\AllBare s'.gens/\Un (frs outer) [] H H' s.heap s'.heap/\HOk P w H' s'.heap/\RelV v u/\Q v H'
def CR (CX:CXT) (outer:List Env) (P:Program) (w:World) (H:Hp) (s:Shared) (Q:VK) (E:XK) (r:Result) (s':Shared):Prop :=
 match r with
 | .ok (.ret u)=>CE outer P w H s Q u s'
 | .ok _=>False
 | .error e=>CX outer H s E e s'
structure FnOk (P:Program) (w:World) (K:PySem.W.Frag) (mg:Str->Option Value) (base:Heap) (CX:CXT) (k:Nat) (f:Addr) (fd:FuncData) (ps:List Str) (sp:Sp):Prop where
 len:∀ vs H Q E,sp vs H Q E->vs.length=ps.length
 run:∀ (A:Around) (outer:List Env) (s:Shared) (H:Hp) (args:Args) (us:List Value) (vs:List V) (Q:VK) (E:XK),Room k A->Env0 P w K mg base A outer s H->BindsTo s fd args (ps.zip us)->Vals vs us->sp vs H Q E ->
  codeAny (model P w) A (.call (.ref f) args) (CR CX outer P w H s Q E) s
theorem FnOk.mono {P:Program} {w:World} {K:PySem.W.Frag} {mg:Str->Option Value} {base:Heap} {CX:CXT} {j k:Nat} {f:Addr} {fd:FuncData} {ps:List Str} {sp:Sp} (F:FnOk P w K mg base CX j f fd ps sp) (h:j<=k) :
  FnOk P w K mg base CX k f fd ps sp:=⟨F.len,fun A outer s H args us vs Q E hr=>F.run A outer s H args us vs Q E (hr.mono h)⟩
section
variable {X:Cx} {pins:List (Addr × Obj)} {σ:St} {H:Hp} {s s':Shared}
theorem Inv.env0 (I:Inv X pins σ H s):Env0 X.prog X.w X.K X.mg X.base X.A X.stack s H :=
 ⟨I.ok.frames,I.ok.mod,I.bs,Nat.le_trans I.ok.bsz I.sz,I.stack,I.stkFree,I.hok,I.bare⟩
theorem Inv.after {Q:VK} {u:Value} (I:Inv X pins σ H s) (h:CE X.stack X.prog X.w H s Q u s'):EP X pins σ Q u s':=by
 obtain ⟨v,H',os,bare,un,hok,r,q⟩:=h
 obtain ⟨hh,g,d,t,os'⟩:=s'
 obtain rfl:os'=s.os:=os
 exact ⟨v,H',I.call (h':=hh) (g':=g) (d':=d) (t':=t) (ch:=[]) un hok bare (fun b z=>absurd z (by simp)),r,q⟩
end
def Binds (K:PySem.W.Frag) (fd:FuncData) (ps:List Str) (ds:List Value):Prop :=
 ∀ (s:Shared) (us:List Value),K.In s.heap->(us++ds).length=ps.length->BindsTo s fd ⟨us,[]⟩ (ps.zip (us++ds))
theorem Binds.all {K:PySem.W.Frag} {fd:FuncData} {ps:List Str} (h:∀ us:List Value,us.length=ps.length->bindArgs fd ⟨us,[]⟩=pure (ps.zip us)):Binds K fd ps []:=fun s us _ hl=>by
 rw [List.append_nil] at hl ⊢
 exact .of_eq (h us hl)
def Passes (CX:CXT) (X:Cx) (E:XK):Prop:=∀ (pins:List (Addr × Obj)) (σ:St) (H:Hp) (s:Shared) (e:Value) (s':Shared),Inv X pins σ H s->CX X.stack H s E e s'->X.xe e s'
section
variable {X:Cx} {CX:CXT} {k:Nat} {f C:Addr} {fd:FuncData} {ps:List Str} {sp:Sp} {dvs:List V} {ds:List Value} {E:XK} {x m:Str} {p pos apos:Pos} {e o:Expr} {es:List Expr} {ta:TE} {t:TA}
theorem run_fn {pins:List (Addr × Obj)} {σ:St} {H:Hp} {s:Shared} {Q:VK} {us:List Value} {vs:List V} (F:FnOk X.prog X.w X.K X.mg X.base CX k f fd ps sp) (hr:Room k X.A) (hb:Binds X.K fd ps ds) (hd:Vals dvs ds) (hx:Passes CX X E)
  (I:Inv X pins σ H s) (r:Vals vs us) (h:sp (vs++dvs) H Q E):wpAny (model X.prog X.w) X.A (call (.ref f) us) (EP X pins σ Q) X.xe s:=by
 have r2:Vals (vs++dvs) (us++ds):=r.append hd
 have hl:(us++ds).length=ps.length:=by rw [<- r2.length];exact F.len _ _ _ _ h
 refine wpAny_call (codeAny_mono (F.run X.A X.stack s H ⟨us,[]⟩ (us++ds) (vs++dvs) Q E hr I.env0 (hb s us I.kIn hl) r2 h) fun r s' hq=>?_)
 cases r with
 | error e=>exact hx pins σ H s e s' I hq
 | ok fl =>
  cases fl with
  | ret u=>exact I.after hq
  | next=>exact False.elim hq
  | brk=>exact False.elim hq
  | cont=>exact False.elim hq
end
section
variable {X:Cx} {CX:CXT} {k:Nat} {f C:Addr} {fd:FuncData} {ps ks:List Str} {sp:Sp} {E:XK} {x m:Str} {p pos apos kpos:Pos} {e o:Expr} {es:List Expr} {kws:List Keyword} {te ta:TE} {t tk:TA} {nm:Option Str}
variable {g:List Value->List Value->List Value} {gV:List V->List V->List V}
end
structure FnScope (N P:List Str) (sc:Scope):Prop where
 kind:sc.kind=.function
 co:sc.isCoroutine=false
 gen:sc.isGenerator=false
 nd:N.Nodup
 pre:N.take P.length=P
 par:∀ x∈P,sc.names.lookup x=some .local\/sc.names.lookup x=some .cell
 nofree:∀ y∈sc.names,y.2≠.free
theorem bindL_out {kindOf:Str->Option NameKind} {x:Str}:∀ {binds:List (Str × Value)} {m:Str->Option Value},(∀ v,(x,v)∉binds)->bindL kindOf binds m x=m x
 | [],_,_=>rfl
 | (n,v) :: r,m,h=>by
  unfold bindL
  rw [bindL_out fun w hw=>h w (List.mem_cons_of_mem _ hw)]
  split
  ·have:x≠n:=by rintro rfl;exact h v List.mem_cons_self
   simp [this]
  ·rfl
theorem bindC_out {kindOf:Str->Option NameKind} {x:Str}:∀ {binds:List (Str × Value)} {m:Str->Option Value},(∀ v,(x,v)∉binds)->bindC kindOf binds m x=m x
 | [],_,_=>rfl
 | (n,v) :: r,m,h=>by
  unfold bindC
  rw [bindC_out fun w hw=>h w (List.mem_cons_of_mem _ hw)]
  split
  ·rfl
  ·have:x≠n:=by rintro rfl;exact h v List.mem_cons_self
   simp [this]
theorem bindL_get {kindOf:Str->Option NameKind} {x:Str} {v:Value}:∀ {P:List Str} {vs:List Value} {i:Nat} {m:Str->Option Value},P.Nodup->P[i]?=some x->vs[i]?=some v->kindOf x=some .local ->
  bindL kindOf (P.zip vs) m x=some v
 | [],_,_,_,_,h,_,_=>by simp at h
 | _ :: _,[],_,_,_,_,h,_=>by simp at h
 | p :: P,w :: vs,0,m,nd,h1,h2,hk=>by
  simp at h1 h2;subst h1;subst h2
  show bindL kindOf ((p,w) :: P.zip vs) m p=_
  unfold bindL
  rw [bindL_out fun v hv=>(List.nodup_cons.mp nd).1 (List.of_mem_zip hv).1,if_pos hk]
  simp
 | p :: P,w :: vs,i+1,m,nd,h1,h2,hk=>by
  show bindL kindOf ((p,w) :: P.zip vs) m x=_
  unfold bindL
  exact bindL_get (i:=i) (List.nodup_cons.mp nd).2 (by simpa using h1) (by simpa using h2) hk
theorem bindC_get {kindOf:Str->Option NameKind} {x:Str} {v:Value}:∀ {P:List Str} {vs:List Value} {i:Nat} {m:Str->Option Value},P.Nodup->P[i]?=some x->vs[i]?=some v->kindOf x≠some .local ->
  bindC kindOf (P.zip vs) m x=some v
 | [],_,_,_,_,h,_,_=>by simp at h
 | _ :: _,[],_,_,_,_,h,_=>by simp at h
 | p :: P,w :: vs,0,m,nd,h1,h2,hk=>by
  simp at h1 h2;subst h1;subst h2
  show bindC kindOf ((p,w) :: P.zip vs) m p=_
  unfold bindC
  rw [bindC_out fun v hv=>(List.nodup_cons.mp nd).1 (List.of_mem_zip hv).1,if_neg hk]
  simp
 | p :: P,w :: vs,i+1,m,nd,h1,h2,hk=>by
  show bindC kindOf ((p,w) :: P.zip vs) m x=_
  unfold bindC
  exact bindC_get (i:=i) (List.nodup_cons.mp nd).2 (by simpa using h1) (by simpa using h2) hk
def start (N:List Str) (vs:List V):St:=vs.map some++List.replicate (N.length - vs.length) none
def cxOf (CX:CXT) (P:Program) (w:World) (K:PySem.W.Frag) (mg:Str->Option Value) (base:Heap) (N:List Str) (qual:Str) (scope:Scope) (f:Addr) (cd:Value) (A:Around) (outer:List Env) (s:Shared) (H:Hp) (E:XK):Cx where
 prog:=P
 w:=w
 K:=K
 mg:=mg
 base:=base
 A:=A.deeper (envOfC qual scope s.heap.objs.size f cd)
 N:=N
 s₀:=s
 H₀:=H
 env:=envOfC qual scope s.heap.objs.size f cd
 outer:=outer
 stack:=envOfC qual scope s.heap.objs.size f cd :: outer
 ex:=[]
 calm:=true
 fn:=fun _=>true
 pn:=[]
 xe:=fun e s'=>wpAny (model P w) (A.deeper (envOfC qual scope s.heap.objs.size f cd)) (leaving (envOfC qual scope s.heap.objs.size f cd) e) (fun _ s''=>CX outer H s E e s'') (fun e' s''=>CX outer H s E e' s'') s'
theorem cell_has {sc:Scope} {n:Nat} {x:Str} (h:sc.names.lookup x=some .cell):∃ c,(cellsFrom n sc.names []).lookup x=some c:=by
 have q:=PySem.W.cellsFrom_some sc.names n [] (.inl h)
 exact Option.isSome_iff_exists.mp q
theorem inv_start {CX:CXT} {P:Program} {w:World} {K:PySem.W.Frag} {mg:Str->Option Value} {base:Heap} {N ps:List Str} {qual:Str} {scope:Scope} {f:Addr} {cd:Value} {A:Around} {outer:List Env} {s s1:Shared} {H:Hp} {E:XK} {us:List Value} {vs:List V}
  (S:FnScope N ps scope) (hd:A.handled=none) (e0:Env0 P w K mg base A outer s H) (hl:vs.length=ps.length) (r:Vals vs us)
  (x:InCallC s s.heap.objs.size (bindL (envOfC qual scope s.heap.objs.size f cd).kindOf (ps.zip us) fun _=>none) (cellsFrom (s.heap.objs.size+1) scope.names []) (bindC (envOfC qual scope s.heap.objs.size f cd).kindOf (ps.zip us) fun _=>none) s1) :
  Inv (cxOf CX P w K mg base N qual scope f cd A outer s H E) [] (start N vs) H s1:=by
 have hpl:ps.length<=N.length:=by have:=congrArg List.length S.pre;rw [List.length_take] at this;omega
 obtain ⟨h1,tk,rfl,hk⟩:=x.done
 have noA:∀ b:Addr,b∉(cxOf CX P w K mg base N qual scope f cd A outer s H E).ex:=fun b z=>absurd (show b∈([] : List Addr) from z) (by simp)
 refine ⟨⟨e0.mod,S.kind,rfl,rfl,Nat.le_refl _,fun y z c h1 h2=>?_,fun y hy=>?_,fun y c _ h=>?_,fun _=>hd,Around.frames_deeper e0.frames,.inr ⟨rfl,rfl⟩,fun b z=>absurd z (noA b),e0.bs,e0.bsz,fun b _ _=>noA b,fun b z=>absurd z (noA b),e0.funs,e0.frf⟩,
  rfl,e0.bare,Un.kept hk,⟨_,x.toInCall.ns,fun i y v h1 h2 h3=>?_⟩,fun y c h=>⟨_,x.cell y c h⟩,e0.hok.fresh (Nat.le_refl _),fun y c h=>?_,fun p hp=>absurd (show p∈([] : List (Addr × Obj)) from hp) (by simp),e0.hok.kept hk,?_⟩
 ·exact name_of_addr x.apart (PySem.mem_of_lookup h1) (PySem.mem_of_lookup h2)
 ·have hy:scope.names.lookup y=some .cell\/scope.names.lookup y=some .free:=hy
  rcases hy with hy | hy
  ·exact cell_has hy
  ·exact absurd rfl (S.nofree _ (PySem.mem_of_lookup hy))
 ·exact Nat.le_of_lt (x.above y c (PySem.mem_of_lookup h))
 ·have hi:i < vs.length:=by
   unfold start at h2
   by_cases hi:i < vs.length
   ·exact hi
   ·rw [List.getElem?_append_right (by simpa using hi)] at h2
    rw [List.getElem?_replicate] at h2
    split at h2<;>cases h2
  have ha:vs[i]?=some v:=by
   unfold start at h2
   rw [List.getElem?_append_left (by simpa using hi),List.getElem?_map] at h2
   cases e:vs[i]? with
   | none=>rw [e] at h2;cases h2
   | some a=>rw [e] at h2;cases h2;rfl
  obtain ⟨u,hu,rv⟩:=r.get ha
  have hp:ps[i]?=some y:=by
   rw [<- S.pre,List.getElem?_take_of_lt (by omega)];exact h1
  have ndP:ps.Nodup:=by rw [<- S.pre];exact S.nd.sublist (List.take_sublist _ _)
  refine ⟨u,rv,?_⟩
  rcases S.par y (List.mem_of_getElem? hp) with k | k
  ·exact .inl ⟨k,bindL_get ndP hp hu k⟩
  ·obtain ⟨c,e⟩:=cell_has (n:=s.heap.objs.size+1) k
   refine .inr ⟨.inl k,c,e,?_⟩
   have q:=x.cell y c e
   rw [bindC_get ndP hp hu (by show scope.names.lookup y≠_;rw [k];decide)] at q
   exact q
 ·exact e0.hok.fresh (Nat.le_of_lt (x.above y c (PySem.mem_of_lookup h)))
 ·unfold start
  show _=N.length
  rw [List.length_append,List.length_map,List.length_replicate]
  omega
theorem fn_of {CX:CXT} {P:Program} {w:World} {K:PySem.W.Frag} {mg:Str->Option Value} {base:Heap} {k:Nat} {f:Addr} {name qual:Str} {params:Arguments} {body:List Stmt} {scope:Scope} {dV kV doc pm cdv ct oc:Value} {an od:Option Addr}
  {osl:Array (Option Value)} {N ps:List Str} {sp:Sp} (lk:K.lookup f=some ⟨oc,od,.func (PySem.W.fnOf name qual params body scope dV kV doc pm an cdv ct),osl⟩) (hcd:PySem.W.codeIn K cdv qual=true) (S:FnScope N ps scope)
  (len:∀ vs H Q E,sp vs H Q E->vs.length=ps.length)
  (hbody:∀ (A:Around) (outer:List Env) (s:Shared) (H:Hp) (vs:List V) (Q:VK) (E:XK),Room k (A.deeper (envOfC qual scope s.heap.objs.size f cdv))->sp vs H Q E ->
   ∃ t,PSs (cxOf CX P w K mg base N qual scope f cdv A outer s H E) body t/\t { nx:=fun _ H'=>Q .non H',rt:=Q } (start N vs) H) :
  FnOk P w K mg base CX (k+1) f (PySem.W.fnOf name qual params body scope dV kV doc pm an cdv ct) ps sp:=by
 refine ⟨len,fun A outer s H args us vs Q E hr e0 hb r hsp=>?_⟩
 have hl:=len _ _ _ _ hsp
 have KX:K.In s.heap:=e0.mod.kin.keeps fun b o e=>(e0.bs b o e).1
 have lim:s.heap.NoLimit:=e0.mod.nolimit.keeps fun b o e=>(e0.bs b o e).1
 have hkind:∀ y∈ps.zip us,scope.names.lookup y.1=some .local\/(scope.names.lookup y.1=some .cell/\((cellsFrom (s.heap.objs.size+1) scope.names []).lookup y.1).isSome=true):=fun ⟨n,v⟩ hy=>by
  rcases S.par n (List.of_mem_zip hy).1 with q | q
  ·exact .inl q
  ·exact .inr ⟨q,PySem.W.cellsFrom_some _ _ _ (.inl q)⟩
 refine codeAny_call_function hr.depth (KX _ _ lk) rfl S.co S.gen rfl (PySem.W.codeRec_of KX hcd) (hb _ _ _ _ ?_)
 refine wpAny_newFunctionEnv_cells S.kind hkind fun env he s1 x=>?_
 subst he
 refine ⟨lim.keeps x.toInCall.keep,codeAny_func ?_⟩
 obtain ⟨t,ht,hq⟩:=hbody A outer s H vs Q E (hr.deeper _) hsp
 have I:Inv (cxOf CX P w K mg base N qual scope f cdv A outer s H E) [] (start N vs) H s1:=inv_start S hr.hd e0 hl r x
 refine wpAny_mono (ht [] s1 (start N vs) H _ I hq) (fun fl s' hs=>?_) fun e s' hs=>hs
 have fin:∀ {σ':St} {H':Hp} {v:V} {u:Value},Inv (cxOf CX P w K mg base N qual scope f cdv A outer s H E) [] σ' H' s'->RelV v u->Q v H'->CE outer P w H s Q u s' :=
  fun {σ' H' v u} J rv q=>⟨v,H',J.os,J.bare,J.base,J.hok,rv,q⟩
 cases fl with
 | ret u =>
  obtain ⟨v,σ',H',J,rv,q⟩:=hs
  exact fin J rv q
 | next =>
  obtain ⟨σ',H',J,q⟩:=hs
  exact fin (v:=V.non) (u:=Value.none) J rfl q
 | brk =>
  obtain ⟨_,_,_,q⟩:=hs
  exact False.elim q
 | cont =>
  obtain ⟨_,_,_,q⟩:=hs
  exact False.elim q
end L2
namespace L2
open PySem PySem.Spec PyProof.Rows
section
variable {X:Cx} {x:Str} {p pos:Pos} {e:Expr} {es:List Expr} {t:TA} {id T:String} {r:List V->Hp->VK->Prop}
end
end L2
namespace HT
open PySem PyProof.Rows
section
open PySem.SeqAt
open PySem.AutoSeq1 (wpAny_loadPart')
open PySem.MeetsSeq PySem.MeetsSeq2 PySem.MeetsSeq3
end
section
variable {prog:Program} {w:World} {A:Around} {E:Value->Shared->Prop} {s:Shared}
theorem cat_tup {t b:Addr} {vs ws:List Value} {Q:Value->Shared->Prop} (ht:IsTup s.heap t vs.toArray) (hb:IsTup s.heap b ws.toArray) (hv:vs≠[])
  (h1:ws=[]->Q (.ref t) s) (h2:ws≠[]->Q (.ref s.heap.objs.size) { s with heap:=s.heap.push { cls:=.type "tuple",data:=.seq (vs++ws).toArray } })
  (hsz:vs.length+ws.length<=sizeLine):wpAny (model prog w) A (binaryOp .Add (.ref t) (.ref b)) Q E s:=by
 obtain ⟨⟨cls,dd,data,sl⟩,ho,hc,n,hd⟩:=id ht
 obtain ⟨⟨cls2,dd2,data2,sl2⟩,ho2,hc2,n2,hd2⟩:=id hb
 simp only at hc hd hc2 hd2
 subst hc hd hc2 hd2
 have e:vs.toArray++ws.toArray=(vs++ws).toArray:=by simp
 by_cases hw:ws=[]
 ·exact concat_meets ⟨_,ho,rfl⟩ ⟨_,ho2,rfl⟩ noFill_tuple_add seq_tuple_add PySem.F.slot_tuple_add PySem.F.entry_tuple_add (PySem.F.args_tuple_add_2 _ _)
   (tuple_addW1 t b vs.toArray ws.toArray n n2 dd dd2 sl sl2 (by simpa using hv) (by simp [hw])) ⟨ho,ho2,h1 hw⟩
 ·refine concat_meets ⟨_,ho,rfl⟩ ⟨_,ho2,rfl⟩ noFill_tuple_add seq_tuple_add PySem.F.slot_tuple_add PySem.F.entry_tuple_add (PySem.F.args_tuple_add_2 _ _)
   (tuple_addW2 t b vs.toArray ws.toArray n n2 dd dd2 sl sl2 (by simpa using hv) (by simpa using hw) (by rw [List.size_toArray,List.size_toArray];exact hsz)) ⟨ho,ho2,?_⟩
  rw [e]
  exact h2 hw
def sIx (n d:Nat):Option Int->Nat
 | none=>d
 | some v=>if v < 0 then (v+(n:Int)).toNat else min v.toNat n
theorem sIx_none (n d:Nat):sIx n d none=d:=rfl
theorem sIx_nat (n d k:Nat):sIx n d (some (k:Int))=min k n:=by
 show (if (k:Int) < 0 then ((k:Int)+(n:Int)).toNat else min (k:Int).toNat n)=min k n
 rw [if_neg (by omega),Int.toNat_natCast]
theorem sIx_le (n d:Nat) (hd:d<=n) (o:Option Int):sIx n d o<=n:=by
 cases o with
 | none=>exact hd
 | some v =>
  show (if v < 0 then (v+(n:Int)).toNat else min v.toNat n)<=n
  by_cases hv:v < 0
  ·rw [if_pos hv];omega
  ·rw [if_neg hv];exact Nat.min_le_right _ _
theorem clip_eq (v:Int) (n d:Nat):(if v < 0 then max (v+(n:Int)) 0 else min v (n:Int))=((sIx n d (some v):Nat):Int):=by
 show (if v < 0 then max (v+(n:Int)) 0 else min v (n:Int))=(((if v < 0 then (v+(n:Int)).toNat else min v.toNat n):Nat):Int)
 by_cases hv:v < 0
 ·simp only [if_pos hv];omega
 ·simp only [if_neg hv];omega
theorem adjust_gen (lo hi:Option Int) (n:Nat):Builtin.Slice.sliceAdjust lo hi 1 (n:Int)=(((sIx n 0 lo:Nat):Int),((sIx n n hi:Nat):Int)):=by
 have h1:¬ ((1:Int) < 0):=by omega
 unfold Builtin.Slice.sliceAdjust
 simp only [h1,if_false]
 refine Prod.ext ?_ ?_
 ·cases lo with
  | none=>rfl
  | some v=>exact clip_eq v n 0
 ·cases hi with
  | none=>rfl
  | some v=>exact clip_eq v n n
theorem places_gen (i j:Nat):Builtin.Slice.slicePlaces (i:Int) (j:Int) 1=j - i:=by
 unfold Builtin.Slice.slicePlaces
 have h1:(1:Int) > 0:=by omega
 simp only [h1,if_true,Int.ediv_one]
 split<;>omega
theorem slicePart_ {v:Value} {o:Option Int} {Q:Option Int->Shared->Prop} (p:IsPart v o) (h:Q o s):wpAny (model prog w) A (Builtin.Slice.slicePartIndex v) Q E s:=by
 cases p with
 | none=>exact slicePart_none h
 | int i t=>exact slicePart_int h
theorem sliceApplied_gen {sl:Addr} {vl vu:Value} {lo hi:Option Int} {n:Nat} {Q:Int × Int × Nat->Shared->Prop} (hs:s.heap.IsSliceOf sl vl vu .none) (pl:IsPart vl lo) (pu:IsPart vu hi)
  (h:Q (((sIx n 0 lo:Nat):Int),1,sIx n n hi - sIx n 0 lo) s):wpAny (model prog w) A (Builtin.Slice.sliceApplied (.ref sl) (pure (n:Int))) Q E s:=by
 obtain ⟨os,hos,hcs,hds⟩:=id hs
 unfold Builtin.Slice.sliceApplied Builtin.Slice.sliceFields
 refine wpAny_bind (wpAny_bind (wpAny_field hos hds (x:=vl) rfl (wpAny_bind (wpAny_field hos hds (x:=vu) rfl (wpAny_bind (wpAny_field hos hds (x:=.none) rfl (wpAny_pure ?_)))))))
 refine wpAny_bind (slicePart_none ?_)
 show wpAny _ _ (if ((1:Int) == 0)=true then _ else _) _ _ s
 rw [if_neg (by decide)]
 refine wpAny_bind (slicePart_ pl (wpAny_bind (slicePart_ pu (wpAny_bind (wpAny_pure ?_)))))
 show wpAny _ _ (match Builtin.Slice.sliceAdjust lo hi 1 (n:Int) with | (lo,hi)=>pure (lo,(1:Int),Builtin.Slice.slicePlaces lo hi 1)) _ _ s
 rw [adjust_gen lo hi n]
 show wpAny _ _ (pure (((sIx n 0 lo:Nat):Int),(1:Int),Builtin.Slice.slicePlaces ((sIx n 0 lo:Nat):Int) ((sIx n n hi:Nat):Int) 1)) _ _ s
 rw [places_gen]
 exact wpAny_pure h
theorem pick_gen (xs:Array Value) (i k:Nat):((List.range k).filterMap fun (m:Nat)=>xs[((i:Int)+(m:Int) * 1).toNat]?).toArray=((xs.toList.drop i).take k).toArray:=by
 have e:(fun (m:Nat)=>xs[((i:Int)+(m:Int) * 1).toNat]?)=fun m=>xs[i+m]?:=by
  funext m
  have:((i:Int)+(m:Int) * 1).toNat=i+m:=by omega
  rw [this]
 rw [e]
 have:=pick_run xs i k
 rw [List.filterMap_map] at this
 have e2:((fun x=>xs[x]?) ∘ fun x=>i+x)=fun m=>xs[i+m]?:=rfl
 rw [e2] at this
 rw [this]
theorem getItem_tuple_cut {t sl:Addr} {items:Array Value} {vl vu:Value} {lo hi:Option Int} {Q:Value->Shared->Prop} (ht:IsTup s.heap t items) (hs:s.heap.IsSliceOf sl vl vu .none) (pl:IsPart vl lo) (pu:IsPart vu hi)
  (hw:¬ (sIx items.size 0 lo=0/\sIx items.size items.size hi=items.size))
  (h:Q (.ref s.heap.objs.size) { s with heap:=s.heap.push { cls:=.type "tuple",data:=.seq ((items.toList.drop (sIx items.size 0 lo)).take (sIx items.size items.size hi - sIx items.size 0 lo)).toArray } })
  (hsz:items.size<=sizeLine):wpAny (model prog w) A (getItem (.ref t) (.ref sl)) Q E s:=by
 have htake:sizeOk (.seq ((items.toList.drop (sIx items.size 0 lo)).take (sIx items.size items.size hi - sIx items.size 0 lo)).toArray):=by
  show ((items.toList.drop (sIx items.size 0 lo)).take (sIx items.size items.size hi - sIx items.size 0 lo)).toArray.size<=sizeLine
  rw [List.size_toArray,List.length_take,List.length_drop,Array.length_toList]
  omega
 have hj:sIx items.size items.size hi<=items.size:=sIx_le _ _ (Nat.le_refl _) hi
 obtain ⟨os,hos,hcs,hds⟩:=id hs
 have hTs:s.TypeIs (.ref sl) "slice" := ⟨os,hos,hcs⟩
 unfold getItem
 try with_reducible refine wpAny_holding ?_
 first | refine wpAny_bind (wpAny_pure ?_) | skip
 refine wpAny_bind (wpAny_sequenceKey ht.typeIs (by decide) ?_)
 refine wpAny_bind (wpAny_callSpecial?_slot (name:=Str.ofString "__getitem__") ht.typeIs PyProof.Rows.slot_tuple_getitem
  (wpAny_call_entry PyProof.Rows.slot_tuple_getitem ht.typeIs entry_tuple_getitem ?_ (args_tuple_getitem _ _)))
 show wpAny _ _ (Builtin.Tuple.tupleItemsOf (.ref t) >>= _) _ _ s
 refine wpAny_bind (tupleItemsOf_ ht ?_)
 refine wpAny_bind (wpAny_typeOf hTs ?_)
 rw [if_pos (by decide)]
 refine wpAny_bind (sliceApplied_gen hs pl pu ?_)
 have hno:¬ ((((sIx items.size 0 lo:Nat):Int) == 0 && (1:Int) == 1 && (sIx items.size items.size hi - sIx items.size 0 lo) == items.size)=true):=by
  intro q
  rw [Bool.and_eq_true,Bool.and_eq_true] at q
  have q1:((sIx items.size 0 lo:Nat):Int)=0:=eq_of_beq q.1.1
  have q2:sIx items.size items.size hi - sIx items.size 0 lo=items.size:=eq_of_beq q.2
  exact hw ⟨by omega,by omega⟩
 show wpAny _ _ (if (((sIx items.size 0 lo:Nat):Int) == 0 && (1:Int) == 1 && (sIx items.size items.size hi - sIx items.size 0 lo) == items.size)=true then _ else _) _ _ s
 rw [if_neg hno,pick_gen]
 first
  | exact wpAny_bind (m:=Builtin.Tuple.tupleExact _) (wpAny_newObj_type (wpAny_pure ⟨_,rfl,wpAny_pure h⟩) htake)
  | exact wpAny_bind (m:=Builtin.Tuple.tupleExact _) (wpAny_newObj_type (wpAny_bind (wpAny_pure (wpAny_pure ⟨_,rfl,wpAny_pure h⟩))) htake)
  | exact wpAny_bind (wpAny_bind (m:=Builtin.Tuple.tupleExact _) (wpAny_newObj_type (wpAny_pure (wpAny_pure ⟨_,rfl,wpAny_pure h⟩)) htake))
  | exact wpAny_bind (wpAny_bind (m:=Builtin.Tuple.tupleExact _) (wpAny_newObj_type (wpAny_pure ⟨_,rfl,wpAny_pure h⟩) htake))
end
end HT
namespace L2
open PySem PySem.Spec PyProof.Rows
abbrev TO:=St->Hp->(Option Int->Hp->Prop)->Prop
section
variable {X:Cx} {e:Expr} {te:TE} {lo hi:Option Expr} {tl th:TO} {pos p2:Pos}
def SlR (X:Cx) (r:V->Option Int->Option Int->Hp->VK->Prop):Prop :=
 ∀ (pins:List (Addr × Obj)) (s:Shared) (σ:St) (H:Hp) (x:V) (v vl vu:Value) (lo hi:Option Int) (sl:Addr) (Q:VK),Inv X pins σ H s->RelV x v->s.heap.IsSliceOf sl vl vu .none->IsPart vl lo->IsPart vu hi->r x lo hi H Q ->
  ∃ T id,typeLookup (.type T) "__getitem__" = pure (some (.builtin id))/\s.TypeIs v T/\wpAny (model X.prog X.w) X.A (getItem v (.ref sl)) (EP X pins σ Q) X.xe s
def cutV (xs:List V) (lo hi:Option Int):List V:=(xs.drop (HT.sIx xs.length 0 lo)).take (HT.sIx xs.length xs.length hi - HT.sIx xs.length 0 lo)
theorem cutV_length (xs:List V) (lo hi:Option Int):(cutV xs lo hi).length<=xs.length:=by
 unfold cutV
 rw [List.length_take,List.length_drop]
 omega
def rSlT (K:PySem.W.Frag):V->Option Int->Option Int->Hp->VK->Prop:=fun x lo hi H Q=>∃ a xs,x=.ref a/\SqT K H a xs /\
 ¬ (HT.sIx xs.length 0 lo=0/\HT.sIx xs.length xs.length hi=xs.length)/\∀ p,H p=none->Q (.ref p) (upd H p (.tup (cutV xs lo hi)))
theorem sl_tup:SlR X (rSlT X.K):=by
 intro pins s σ H x v vl vu lo hi sl Q I rx hs pl pu h
 obtain ⟨a,xs,rfl,hx,hw,q⟩:=h
 cases rx
 obtain ⟨its,r,ht,hz⟩:=I.tuple hx
 have hlen:its.toArray.size=xs.length:=by rw [List.size_toArray];exact r.length.symm
 refine ⟨"tuple",_,PyProof.Rows.slot_tuple_getitem.lookup,ht.typeIs,?_⟩
 refine HT.getItem_tuple_cut ht hs pl pu (by rw [hlen];exact hw) ?_ (by rw [hlen];exact hz)
 rw [hlen]
 refine ⟨.ref s.heap.objs.size,_,I.laid (t':=s.toks) (o:=.tup (cutV xs lo hi)) (fun b ob q=>Heap.get?_push_of_some _ q) (Nat.le_refl _) ?_,rfl,q _ (I.hok.fresh (Nat.le_refl _))⟩
 exact ⟨⟨Nat.le_trans (cutV_length xs lo hi) hz,_,Heap.get?_push_size _ rfl,rfl⟩,_,(r.drop (HT.sIx xs.length 0 lo)).take (HT.sIx xs.length xs.length hi - HT.sIx xs.length 0 lo),IsTup.new _ _⟩
def rCatT (K:PySem.W.Frag):R2:=fun x y H Q=>∃ a b xs ys,x=.ref a/\y=.ref b/\SqT K H a xs/\SqT K H b ys/\xs≠[]/\xs.length+ys.length<=sizeLine /\
 (ys=[]->Q (.ref a) H)/\(ys≠[]->∀ p,H p=none->Q (.ref p) (upd H p (.tup (xs++ys))))
theorem Vals.nil_iff {xs:List V} {us:List Value} (r:Vals xs us):us=[] ↔ xs=[]:=by
 cases r with
 | nil=>simp
 | cons _ _=>simp
theorem op_catT:OpR X (binaryOp .Add) (rCatT X.K):=by
 intro pins s σ H x y v u Q I rx ry h
 obtain ⟨a,b,xs,ys,rfl,rfl,ha,hb,hx,hz,q1,q2⟩:=h
 cases rx
 cases ry
 obtain ⟨its,r1,p1,_⟩:=I.tuple ha
 obtain ⟨its2,r2,p2,_⟩:=I.tuple hb
 refine HT.cat_tup p1 p2 (fun z=>hx (r1.nil_iff.mp z)) (fun z=>⟨.ref a,H,I,rfl,q1 (r2.nil_iff.mp z)⟩) (fun z=>?_) (by rw [<- r1.length,<- r2.length];exact hz)
 refine ⟨.ref s.heap.objs.size,_,I.laid (t':=s.toks) (o:=.tup (xs++ys)) (fun b ob q=>Heap.get?_push_of_some _ q) (Nat.le_refl _) ?_,rfl,q2 (fun w=>z (r2.nil_iff.mpr w)) _ (I.hok.fresh (Nat.le_refl _))⟩
 exact ⟨⟨by rw [List.length_append];exact hz,_,Heap.get?_push_size _ rfl,rfl⟩,_,r1.append r2,IsTup.new _ _⟩
end
end L2
namespace L2
open PySem PySem.Spec PyProof.Rows
def ixN (n:Nat) (i:Int):Option Nat:=if 0<=i then (if i < n then some i.toNat else none) else if -(n:Int)<=i then some (i+n).toNat else none
def atI {α:Type} (xs:List α) (i:Int):Option α:=(ixN xs.length i).bind fun j=>xs[j]?
theorem ixN_seq {n:Nat} {i:Int} {j:Nat} (h:ixN n i=some j):seqIndex? i n=some j/\j < n/\-(n:Int)<=i/\i < n:=by
 unfold ixN at h
 by_cases h0:0<=i
 ·rw [if_pos h0] at h
  by_cases h1:i < n
  ·rw [if_pos h1] at h
   have e:i.toNat=j:=Option.some.inj h
   exact ⟨by rw [seqIndex_of h0 h1,e],by omega,by omega,h1⟩
  ·rw [if_neg h1] at h;cases h
 ·rw [if_neg h0] at h
  by_cases h1:-(n:Int)<=i
  ·rw [if_pos h1] at h
   have e:(i+n).toNat=j:=Option.some.inj h
   exact ⟨by rw [seqIndex_neg (by omega) h1,e],by omega,h1,by omega⟩
  ·rw [if_neg h1] at h;cases h
theorem atI_get {α:Type} {xs:List α} {i:Int} {v:α} (h:atI xs i=some v):∃ j,seqIndex? i xs.length=some j/\xs[j]?=some v/\j < xs.length/\-(xs.length:Int)<=i/\i < xs.length:=by
 unfold atI at h
 cases e:ixN xs.length i with
 | none=>rw [e] at h;cases h
 | some j =>
  rw [e] at h
  obtain ⟨h1,h2,h3,h4⟩:=ixN_seq e
  exact ⟨j,h1,h,h2,h3,h4⟩
theorem atI_nat {α:Type} {xs:List α} {j:Nat} {v:α} (h:xs[j]?=some v):atI xs (j:Int)=some v:=by
 have hj:j < xs.length:=(List.getElem?_eq_some_iff.mp h).1
 have e:ixN xs.length (j:Int)=some j:=by
  unfold ixN
  rw [if_pos (by omega),if_pos (by omega)];simp
 unfold atI;rw [e];exact h
theorem atI_last {α:Type} (xs:List α) (v:α):atI (xs++[v]) (-1)=some v:=by
 have hl:(xs++[v]).length=xs.length+1:=by simp
 have e:ixN (xs++[v]).length (-1)=some xs.length:=by
  unfold ixN
  rw [hl,if_neg (by decide),if_pos (by omega)]
  congr 1
  omega
 unfold atI
 rw [e]
 show (xs++[v])[xs.length]?=some v
 simp
def PlainIx (b:Expr):Prop:=∀ o i,subscripted b false o i=operate [o,i] (getItem o i)
def IxR (X:Cx) (r:R2):Prop :=
 ∀ (value slice:Expr) (pins:List (Addr × Obj)) (s:Shared) (σ:St) (H:Hp) (x y:V) (v u:Value) (Q:VK),Inv X pins σ H s->RelV x v->RelV y u->r x y H Q ->
  subscripted slice false v u=operate [v,u] (getItem v u)->wpAny (model X.prog X.w) X.A (subscriptTail value slice v u) (EP X pins σ Q) X.xe s
def MtR (X:Cx) (id:String) (r:V->List V->Hp->VK->Prop):Prop :=
 ∀ (pins:List (Addr × Obj)) (s:Shared) (σ:St) (H:Hp) (x:V) (xs:List V) (v:Value) (us:List Value) (Q:VK),Inv X pins σ H s->RelV x v->Vals xs us->r x xs H Q ->
  wpAny (model X.prog X.w) X.A (call (.builtin id) (v :: us)) (EP X pins σ Q) X.xe s
section
variable {X:Cx} {a b:Expr} {ta tb:TE} {pos:Pos}
theorem IxR.or {r r':R2} (h:IxR X r) (h':IxR X r'):IxR X (fun x y H Q=>r x y H Q\/r' x y H Q):=by
 intro value slice pins s σ H x y v u Q I rx ry q hs
 rcases q with q | q
 ·exact h value slice pins s σ H x y v u Q I rx ry q hs
 ·exact h' value slice pins s σ H x y v u Q I rx ry q hs
def rIxL (K:PySem.W.Frag):R2:=fun x y H Q=>∃ p xs i v,x=.ref p/\y=.int i/\SqL K H p xs/\atI xs i=some v/\Q v H
def rIxT (K:PySem.W.Frag):R2:=fun x y H Q=>∃ p xs i v,x=.ref p/\y=.int i/\SqT K H p xs/\atI xs i=some v/\Q v H
def rIxS:R2:=fun x y H Q=>∃ z i c,x=.str z/\y=.int i/\z.length<=sizeLine/\atI z.cps.toList i=some c/\Q (.str ⟨#[c]⟩) H
theorem ix_list:IxR X (rIxL X.K):=by
 intro value slice pins s σ H x y v u Q I rx ry h hs
 obtain ⟨p,xs,i,z,rfl,rfl,hq,he,q⟩:=h
 cases rx
 obtain ⟨t,rfl⟩:=ry
 obtain ⟨its,r,pl,hz⟩:=I.list hq
 obtain ⟨j,h1,h2,h3,h4,h5⟩:=atI_get he
 obtain ⟨w,ew,rw'⟩:=r.get h2
 have hl:=r.length
 have hn:=line63
 have fin:EP X pins σ Q w s:=⟨z,H,I,rw',q⟩
 by_cases h0:0<=i
 ·have hj:i.toNat=j:=by
   rw [seqIndex_of h0 h5] at h1
   exact Option.some.inj h1
  exact item_listR pl.isList h0 (by omega) (by rw [hj];simpa using ew) fin hs
 ·have hj:(i+(its.toArray.size:Int)).toNat=j:=by
   rw [seqIndex_neg (by omega) h4] at h1
   rw [List.size_toArray,<- hl]
   exact Option.some.inj h1
  exact subscriptTail_builtinR (x:=w) pl.isList.typeIs slot_list_getitem.lookup
   (wpAny_getItem_list_neg (Q:=fun r s'=>r=w/\EP X pins σ Q r s') pl.isList (by omega) (by rw [List.size_toArray]<;>omega) (by omega) (by rw [hj];simpa using ew) ⟨rfl,fin⟩) hs
theorem ix_tup:IxR X (rIxT X.K):=by
 intro value slice pins s σ H x y v u Q I rx ry h hs
 obtain ⟨p,xs,i,z,rfl,rfl,hq,he,q⟩:=h
 cases rx
 obtain ⟨t,rfl⟩:=ry
 obtain ⟨its,r,pl,hz⟩:=I.tuple hq
 obtain ⟨j,h1,h2,h3,h4,h5⟩:=atI_get he
 obtain ⟨w,ew,rw'⟩:=r.get h2
 have hl:=r.length
 have hn:=line63
 have fin:EP X pins σ Q w s:=⟨z,H,I,rw',q⟩
 exact subscriptTail_builtinR (x:=w) pl.typeIs slot_tuple_getitem.lookup
  (getItem_tuple (j:=j) (Q:=fun r s'=>r=w/\EP X pins σ Q r s') pl (by omega) (by omega) (by rw [List.size_toArray,<- hl];exact h1) (by simpa using ew) ⟨rfl,fin⟩) hs
theorem ix_str:IxR X rIxS:=by
 intro value slice pins s σ H x y v u Q I rx ry h hs
 obtain ⟨z,i,c,rfl,rfl,hz,he,q⟩:=h
 obtain ⟨t,rfl⟩:=rx
 obtain ⟨t',rfl⟩:=ry
 obtain ⟨j,h1,h2,h3,h4,h5⟩:=atI_get he
 have hl:z.cps.toList.length=z.length:=by simp [Str.length]
 rw [hl] at h1 h4 h5
 have hn:=line63
 exact tail_any (typeIs_str s z t) slot_str_getitem.lookup (getItem_str (c:=c) (by
  have e1:decide (i < -(2 ^ 63:Int))=false:=decide_eq_false (by omega)
  have e2:decide (i ≥ 2 ^ 63)=false:=decide_eq_false (by omega)
  rw [e1,e2,Bool.or_false]) (by rw [h1];simpa using h2) ⟨.str ⟨#[c]⟩,H,I.tok _,⟨_,rfl⟩,q⟩) hs
def rIx (K:PySem.W.Frag):R2:=fun x y H Q=>rIxL K x y H Q\/rIxT K x y H Q\/rIxS x y H Q
theorem ix_seq:IxR X (rIx X.K):=ix_list.or (ix_tup.or ix_str)
theorem mapSeq_set (its:List Value) (n j:Nat) (u:Value):Obj.mapSeq (·.setIfInBounds j u) { cls:=.type "list",data:=.seq its.toArray n }={ cls:=.type "list",data:=.seq (its.set j u).toArray n }:=by
 simp [Obj.mapSeq]
theorem Inv.lst {pins:List (Addr × Obj)} {σ:St} {H:Hp} {s:Shared} {p:Addr} {xs:List V} (I:Inv X pins σ H s) (h:H p=some (.lst xs)) :
  ∃ (its:List Value) (n:Nat),Vals xs its/\s.heap.get? p=some { cls:=.type "list",data:=.seq its.toArray n }/\xs.length<=sizeLine:=by
 obtain ⟨z,its,n,r,e⟩:=I.hok p _ h
 exact ⟨its,n,r,e,z⟩
theorem Inv.lstUpd {pins:List (Addr × Obj)} {σ:St} {H:Hp} {s:Shared} {p:Addr} {xs ys:List V} {its its':List Value} {n n':Nat} {f:Obj->Obj} (I:Inv X pins σ H s) (h:H p=some (.lst xs))
  (ho:s.heap.get? p=some { cls:=.type "list",data:=.seq its.toArray n }) (hf:f { cls:=.type "list",data:=.seq its.toArray n }={ cls:=.type "list",data:=.seq its'.toArray n' }) (r:Vals ys its') (hz:ys.length<=sizeLine) (t:Nat) :
  Inv X pins σ (upd H p (.lst ys)) { s with heap:=s.heap.update p f,toks:=t }:=by
 have e:(s.heap.update p f).get? p=some { cls:=.type "list",data:=.seq its'.toArray n' }:=by
  rw [Heap.get?_update_self f ho (by rw [hf]<;>rfl),hf]
 refine I.write (x:=p) (e:=p) (by rw [h];trivial) (.inl rfl) (fun b u hb q=>(Heap.get?_update_other _ _ (Ne.symm hb)).trans q) ⟨_,e⟩ ?_
 exact ⟨hz,its',n',r,e⟩
def rSetL:V->V->V->Hp->(Hp->Prop)->Prop:=fun o i v H Q=>∃ p xs k j,o=.ref p/\i=.int k/\H p=some (.lst xs)/\ixN xs.length k=some j/\Q (upd H p (.lst (xs.set j v)))
theorem set_list:PSet X rSetL:=by
 intro pins s σ H o i v ov iv u Q I ro ri rv h
 obtain ⟨p,xs,k,j,rfl,rfl,hp,hj,q⟩:=h
 cases ro
 obtain ⟨t,rfl⟩:=ri
 obtain ⟨its,n,r,ho,hz⟩:=I.lst hp
 obtain ⟨h1,h2,h3,h4⟩:=ixN_seq hj
 have hl:=r.length
 have hn:=line63
 have I':Inv X pins σ (upd H p (.lst (xs.set j v))) { s with heap:=s.heap.update p (Obj.mapSeq (·.setIfInBounds j u)) } :=
  I.lstUpd hp ho (mapSeq_set its n j u) (r.set rv j) (by rw [List.length_set];exact hz) s.toks
 by_cases h0:0<=k
 ·have hk:k.toNat=j:=by
   rw [seqIndex_of h0 h4] at h1
   exact Option.some.inj h1
  exact PySem.W.ki_setAt ho h0 (by omega) (by rw [List.size_toArray,<- hl];exact h4) (by rw [hk];exact ⟨_,I',q⟩)
 ·have hk:(k+(its.toArray.size:Int)).toNat=j:=by
   rw [seqIndex_neg (by omega) h3] at h1
   rw [List.size_toArray,<- hl]
   exact Option.some.inj h1
  exact PySem.W.ki_setBack ho (by omega) (by rw [List.size_toArray,<- hl];exact h3) (by omega) (by rw [hk];exact ⟨_,I',q⟩)
theorem slice_bounds (lo hi:Option Int) (n:Nat):(sliceBounds lo hi none n).1=((HT.sIx n 0 lo:Nat):Int)/\(sliceBounds lo hi none n).2.1=((HT.sIx n n hi:Nat):Int)/\(sliceBounds lo hi none n).2.2=1:=by
 refine ⟨?_,?_,rfl⟩
 ·cases lo with
  | none=>simp [sliceBounds,HT.sIx]
  | some i =>
   simp only [sliceBounds,HT.sIx,Option.getD_none,show (1:Int) > 0 by decide,if_true]
   by_cases h:i < 0
   ·simp only [h,if_true]<;>omega
   ·simp only [h,if_false]<;>omega
 ·cases hi with
  | none=>simp [sliceBounds,HT.sIx]
  | some i =>
   simp only [sliceBounds,HT.sIx,Option.getD_none,show (1:Int) > 0 by decide,if_true]
   by_cases h:i < 0
   ·simp only [h,if_true]<;>omega
   ·simp only [h,if_false]<;>omega
theorem slicePick_cut (its:List Value) (lo hi:Option Int):slicePick its.toArray lo hi none=((its.drop (HT.sIx its.length 0 lo)).take (HT.sIx its.length its.length hi - HT.sIx its.length 0 lo)).toArray:=by
 obtain ⟨h1,h2,h3⟩:=slice_bounds lo hi its.toArray.size
 unfold slicePick
 rw [h1,h2,h3]
 simp only [sliceRange_one,pick_run,List.size_toArray]<;>rfl
def rSlL (K:PySem.W.Frag):V->Option Int->Option Int->Hp->VK->Prop:=fun x lo hi H Q=>∃ a xs,x=.ref a/\SqL K H a xs/\∀ p,H p=none->Q (.ref p) (upd H p (.lst (cutV xs lo hi)))
theorem sl_list:SlR X (rSlL X.K):=by
 intro pins s σ H x v vl vu lo hi sl Q I rx hs pl pu h
 obtain ⟨a,xs,rfl,hx,q⟩:=h
 cases rx
 obtain ⟨its,r,ht,hz⟩:=I.list hx
 have hlen:=r.length
 refine ⟨"list",_,slot_list_getitem.lookup,ht.isList.typeIs,?_⟩
 refine wpAny_getItem_list_slice ht.isList hs pl pu .none (by simp) ?_ (by rw [List.size_toArray]<;>omega)
 rw [slicePick_cut,<- hlen]
 refine ⟨.ref s.heap.objs.size,_,I.laid (t':=s.toks) (o:=.lst (cutV xs lo hi)) (fun b ob q=>Heap.get?_push_of_some _ q) (Nat.le_refl _) ?_,rfl,q _ (I.hok.fresh (Nat.le_refl _))⟩
 exact ⟨Nat.le_trans (cutV_length xs lo hi) hz,_,0,(r.drop (HT.sIx xs.length 0 lo)).take (HT.sIx xs.length xs.length hi - HT.sIx xs.length 0 lo),Heap.get?_push_size _ rfl⟩
def flatV:V->Bool
 | .non=>true
 | .bl _=>true
 | .int _=>true
 | .str _=>true
 | _=>false
def eqV:V->V->Bool
 | .non,.non=>true
 | .bl a,.bl b=>a == b
 | .bl a,.int b=>(if a then 1 else 0) == b
 | .int a,.bl b=>a == (if b then 1 else 0)
 | .int a,.int b=>a == b
 | .str a,.str b=>a == b
 | _,_=>false
theorem eqAt_V {A:Around} {s:Shared} {y x:V} {u v:Value} (ry:RelV y u) (rx:RelV x v) (fy:flatV y=true) (fx:flatV x=true):SeqAt.EqAt A s u v (eqV y x):=by
 cases y with
 | non =>
  cases ry
  cases x with
  | non=>cases rx;exact SeqAt.EqAt.same _
  | bl b=>cases rx;exact SeqAt.EqAt.none_bool b
  | int b=>obtain ⟨t,rfl⟩:=rx;exact SeqAt.EqAt.none_int b t
  | str b=>obtain ⟨t,rfl⟩:=rx;exact SeqAt.EqAt.none_str b t
  | _=>exact absurd (show false=true from fx) Bool.false_ne_true
 | bl a =>
  cases ry
  cases x with
  | non=>cases rx;exact SeqAt.EqAt.bool_none a
  | bl b=>cases rx;exact SeqAt.EqAt.bool_bool a b
  | int b=>obtain ⟨t,rfl⟩:=rx;exact SeqAt.EqAt.bool_int a b t
  | str b=>obtain ⟨t,rfl⟩:=rx;exact SeqAt.EqAt.bool_str a b t
  | _=>exact absurd (show false=true from fx) Bool.false_ne_true
 | int a =>
  obtain ⟨t',rfl⟩:=ry
  cases x with
  | non=>cases rx;exact SeqAt.EqAt.int_none a t'
  | bl b=>cases rx;exact SeqAt.EqAt.int_bool a t' b
  | int b=>obtain ⟨t,rfl⟩:=rx;exact SeqAt.EqAt.int_int a t' b t
  | str b=>obtain ⟨t,rfl⟩:=rx;exact SeqAt.EqAt.int_str a t' b t
  | _=>exact absurd (show false=true from fx) Bool.false_ne_true
 | str a =>
  obtain ⟨t',rfl⟩:=ry
  cases x with
  | non=>cases rx;exact SeqAt.EqAt.str_none a t'
  | bl b=>cases rx;exact SeqAt.EqAt.str_bool a t' b
  | int b=>obtain ⟨t,rfl⟩:=rx;exact SeqAt.EqAt.str_int a t' b t
  | str b=>obtain ⟨t,rfl⟩:=rx;exact SeqAt.EqAt.str_str a t' b t
  | _=>exact absurd (show false=true from fx) Bool.false_ne_true
 | _=>exact absurd (show false=true from fy) Bool.false_ne_true
def eqU (x:V) (u:Value):Bool:=match u with
 | .none=>eqV .non x
 | .bool b=>eqV (.bl b) x
 | .int i _=>eqV (.int i) x
 | .str z _=>eqV (.str z) x
 | _=>false
theorem eqU_of {x y:V} {u:Value} (r:RelV y u) (f:flatV y=true):eqU x u=eqV y x:=by
 cases y with
 | non=>cases r;rfl
 | bl b=>cases r;rfl
 | int i=>obtain ⟨t,rfl⟩:=r;rfl
 | str z=>obtain ⟨t,rfl⟩:=r;rfl
 | _=>exact absurd (show false=true from f) Bool.false_ne_true
theorem any_eqU {x:V}:∀ {xs:List V} {us:List Value},Vals xs us->xs.all flatV=true->us.any (eqU x)=xs.any fun y=>eqV y x
 | _,_,.nil,_=>rfl
 | y :: xs,u :: us,.cons r t,f=>by
  rw [List.all_cons,Bool.and_eq_true] at f
  rw [List.any_cons,List.any_cons,eqU_of r f.1,any_eqU t f.2]
theorem mem_eqAt {A:Around} {s:Shared} {x:V} {v:Value} (rx:RelV x v) (fx:flatV x=true):∀ {xs:List V} {us:List Value},Vals xs us->xs.all flatV=true->∀ u∈us,SeqAt.EqAt A s u v (eqU x u)
 | _,_,.nil,_=>fun u hu=>by cases hu
 | y :: xs,u :: us,.cons r t,f=>fun u' hu=>by
  rw [List.all_cons,Bool.and_eq_true] at f
  rcases List.mem_cons.mp hu with rfl | hu
  ·rw [eqU_of r f.1];exact eqAt_V r rx f.1 fx
  ·exact mem_eqAt rx fx t f.2 u' hu
def inV (x:V) (xs:List V):Bool:=xs.any fun y=>eqV y x
def rIn (K:PySem.W.Frag) (neg:Bool):R2:=fun x y H Q=>∃ p xs,y=.ref p/\(SqL K H p xs\/SqT K H p xs)/\flatV x=true/\xs.all flatV=true/\Q (.bl (if neg then !inV x xs else inV x xs)) H
theorem op_notIn_seq:OpR X (compareOp .NotIn) (rIn X.K true):=by
 intro pins s σ H x y v u Q I rx ry h
 obtain ⟨p,xs,rfl,hq,fx,fs,q⟩:=h
 cases ry
 rcases hq with hq | hq
 ·obtain ⟨its,r,pl,hz⟩:=I.list hq
  refine SeqAt.notIn_listAt (eqU x) pl.isList (fun w hw=>mem_eqAt rx fx r fs w (by simpa using hw)) ⟨.bl _,H,I,rfl,?_⟩
  rw [show its.toArray.any (eqU x)=its.any (eqU x) by simp,any_eqU r fs]
  exact q
 ·obtain ⟨its,r,pl,hz⟩:=I.tuple hq
  refine SeqAt.notIn_tupleAt (eqU x) pl (fun w hw=>mem_eqAt rx fx r fs w (by simpa using hw)) ⟨.bl _,H,I,rfl,?_⟩
  rw [show its.toArray.any (eqU x)=its.any (eqU x) by simp,any_eqU r fs]
  exact q
theorem call_len_seq:CallR X (.builtin "len") (fun xs H Q=>∃ p ys,xs=[.ref p]/\(SqL X.K H p ys\/SqT X.K H p ys)/\Q (.int ys.length) H):=by
 intro pins s σ H xs us Q I r h
 obtain ⟨p,ys,rfl,hq,q⟩:=h
 obtain ⟨u,rfl,rx⟩:=vals1 r
 cases rx
 have hn:=line63
 rcases hq with hq | hq
 ·obtain ⟨its,r',pl,hz⟩:=I.list hq
  have hlen:=r'.length
  exact Calls.call_len_list pl.isList (by simp only [List.size_toArray]<;>omega) ⟨.int ys.length,H,I.tok _,⟨s.toks+1,by rw [List.size_toArray,hlen]⟩,q⟩
 ·obtain ⟨its,r',pl,hz⟩:=I.tuple hq
  have hlen:=r'.length
  exact len_tuple pl (by simp only [List.size_toArray]<;>omega) ⟨.int ys.length,H,I.tok _,⟨s.toks+1,by rw [List.size_toArray,hlen]⟩,q⟩
theorem call_list_of:CallR X (.type "list") (fun xs H Q=>∃ p ys,xs=[.ref p]/\(SqL X.K H p ys\/SqT X.K H p ys)/\∀ l,H l=none->Q (.ref l) (upd H l (.lst ys))):=by
 intro pins s σ H xs us Q I r h
 obtain ⟨p,ys,rfl,hq,q⟩:=h
 obtain ⟨u,rfl,rx⟩:=vals1 r
 cases rx
 have fin:∀ (its:List Value),Vals ys its->ys.length<=sizeLine->∀ (h':Heap) (c':Nat),(∀ b o',s.heap.get? b=some o'->h'.get? b=some o') ->
   h'.get? s.heap.objs.size=some { cls:=.type "list",dict:=none,data:=.seq its.toArray c',slots:=#[] }->EP X pins σ Q (.ref s.heap.objs.size) { s with heap:=h' }:=fun its r' hz h' c' kp e =>
  ⟨.ref s.heap.objs.size,_,I.laid (t':=s.toks) kp (Nat.le_refl _) (show ObjOk X.prog X.w _ h' _ (.lst ys) from ⟨hz,its,c',r',e⟩),rfl,q _ (I.hok.fresh (Nat.le_refl _))⟩
 rcases hq with hq | hq
 ·obtain ⟨its,r',pl,hz⟩:=I.list hq
  have hlen:=r'.length
  obtain ⟨o,ho,hc,n,hd⟩:=pl.isList
  exact call_list_seq p (.inl rfl) ho hc hd (fun h' c' kp e=>fin its r' hz h' c' kp e) (by simp only [List.size_toArray]<;>omega)
 ·obtain ⟨its,r',pl,hz⟩:=I.tuple hq
  have hlen:=r'.length
  obtain ⟨o,ho,hc,n,hd⟩:=pl
  exact call_list_seq p (.inr rfl) ho hc hd (fun h' c' kp e=>fin its r' hz h' c' kp e) (by simp only [List.size_toArray]<;>omega)
theorem call_tuple_of:CallR X (.type "tuple") (fun xs H Q=>∃ p ys,xs=[.ref p]/\((SqL X.K H p ys/\∀ l,H l=none->Q (.ref l) (upd H l (.tup ys)))\/(SqT X.K H p ys/\Q (.ref p) H))):=by
 intro pins s σ H xs us Q I r h
 obtain ⟨p,ys,rfl,h⟩:=h
 obtain ⟨u,rfl,rx⟩:=vals1 r
 cases rx
 rcases h with ⟨hq,q⟩ | ⟨hq,q⟩
 ·obtain ⟨its,r',pl,hz⟩:=I.list hq
  have hlen:=r'.length
  refine call_tuple_list pl.isList (fun h' kp=>?_) (by simp only [List.size_toArray]<;>omega)
  have I1:Inv X pins σ H { s with heap:=h' }:=I.kept (t':=s.toks) kp
  have I2:Inv X pins σ (upd H h'.objs.size (.tup ys)) { s with heap:=h'.push { cls:=.type "tuple",data:=.seq its.toArray } } :=
   I1.laid (t':=s.toks) (fun b o e=>Heap.get?_push_of_some _ e) (Nat.le_refl _) (show ObjOk X.prog X.w _ _ _ (.tup ys) from ⟨⟨hz,_,Heap.get?_push_size _ rfl,rfl⟩,its,r',IsTup.new _ _⟩)
  exact ⟨.ref h'.objs.size,_,I2,rfl,q _ (I1.hok.fresh (Nat.le_refl _))⟩
 ·obtain ⟨its,r',pl,hz⟩:=I.tuple hq
  exact call_tuple_same pl ⟨.ref p,H,I,rfl,q⟩
def tyV (K:PySem.W.Frag) (T:String) (x:V) (H:Hp):Prop:=match x with
 | .str _=>T = "str"
 | .int _=>T = "int"
 | .ref p=>(T = "list" /\ ∃ xs,SqL K H p xs)\/(T = "tuple" /\ ∃ o,K.lookup p=some o/\o.cls=.type "tuple" /\ o.dict=none) \/
   (T = "dict" /\ ((∃ kvs,H p=some (.dK kvs))\/∃ kvs,H p=some (.dT kvs)))\/(T = "set" /\ ∃ S n,H p=some (.set S n))
 | _=>False
theorem tyV_is {pins:List (Addr × Obj)} {σ:St} {H:Hp} {s:Shared} {T:String} {x:V} {v:Value} (I:Inv X pins σ H s) (r:RelV x v) (ty:tyV X.K T x H) :
  s.TypeIs v T/\∀ a,v=.ref a->∃ ob,s.heap.get? a=some ob/\ob.dict=none:=by
 cases x with
 | str z =>
  obtain ⟨t,rfl⟩:=r
  cases (show T = "str" from ty)
  exact ⟨typeIs_str s z t,fun _ e=>nomatch e⟩
 | int i =>
  obtain ⟨t,rfl⟩:=r
  cases (show T = "int" from ty)
  exact ⟨typeIs_int s i t,fun _ e=>nomatch e⟩
 | ref p =>
  cases r
  rcases ty with ⟨rfl,xs,hq⟩ | ⟨rfl,o,hk,hc,hd⟩ | ⟨rfl,hk⟩ | ⟨rfl,S,n,hk⟩
  ·obtain ⟨its,_,pl,_⟩:=I.list hq
   refine ⟨pl.isList.typeIs,fun a e=>?_⟩
   cases e
   obtain ⟨o,n,e,c,hd,_⟩:=pl
   exact ⟨o,e,hd⟩
  ·refine ⟨⟨o,I.kIn p o hk,hc⟩,fun a e=>?_⟩
   cases e
   exact ⟨o,I.kIn _ o hk,hd⟩
  ·have z:∃ o,s.heap.get? p=some o/\o.ExactDict:=by
    rcases hk with ⟨kvs,hk⟩ | ⟨kvs,hk⟩
    ·obtain ⟨_,_,_,_,o,_,_,e,ex,_⟩:=I.hok p _ hk
     exact ⟨o,e,ex⟩
    ·obtain ⟨_,_,_,_,o,_,_,e,ex,_⟩:=I.hok p _ hk
     exact ⟨o,e,ex⟩
   obtain ⟨o,e,ex⟩:=z
   refine ⟨⟨o,e,ex.1⟩,fun a e2=>?_⟩
   cases e2
   exact ⟨o,e,ex.2.1⟩
  ·obtain ⟨o,_,_,_,e,ex,_⟩:=I.hok p _ hk
   refine ⟨⟨o,e,ex.1⟩,fun a e2=>?_⟩
   cases e2
   exact ⟨o,e,ex.2.1⟩
 | _=>exact False.elim ty
def tBM0 (K:PySem.W.Frag) (T:String) (r:V->List V->Hp->VK->Prop) (to:TE):TE:=fun σ H Q=>to σ H fun x H1=>tyV K T x H1/\r x [] H1 Q
def tBM (K:PySem.W.Frag) (T:String) (r:V->List V->Hp->VK->Prop) (to:TE) (t:TA):TE:=fun σ H Q=>to σ H fun x H1=>tyV K T x H1/\t σ H1 fun xs H2=>r x xs H2 Q
variable {o e:Expr} {es:List Expr} {to:TE} {t:TA} {name:Str} {apos cpos:Pos} {T id:String} {r:V->List V->Hp->VK->Prop}
theorem pe_bm0 (pa:PlainAttrs T) (slot:Slot T name id) (hty:typeOf (.builtin id)=pure (.type "method_descriptor")) (hm:MtR X id r) (ho:PE X o to)
  (hbase:attributeBase o name X.env (eval o X.env)=eval o X.env:=by rfl) (hline:(apos.endLine == cpos.line)=true:=by rfl):PE X (.Call (.Attribute o name apos) [] [] cpos) (tBM0 X.K T r to):=by
 intro pins s σ H Q I h
 refine wpAny_Call_method0_late hbase hline (thn (ho pins s σ H _ I h) fun v s1 ⟨x,H1,I1,r1,ty,q1⟩=>?_)
 obtain ⟨h1,h2⟩:=tyV_is I1 r1 ty
 exact ⟨T,id,pa,slot,hty,h1,h2,Calls.callWith_builtin rfl (PySem.evalArgs_none (hm pins s1 σ H1 x [] v [] Q I1 r1 .nil q1))⟩
theorem pe_bm (pa:PlainAttrs T) (slot:Slot T name id) (hty:typeOf (.builtin id)=pure (.type "method_descriptor")) (hm:MtR X id r) (ho:PE X o to) (ha:PA X (e :: es) t)
  (hbase:attributeBase o name X.env (eval o X.env)=eval o X.env:=by rfl)
  (hfew:((backTo cpos (starEach (e :: es) X.env)).all (fun x=>!x.1) && (backToKw cpos (keywordEach [] X.env)).all (fun x=>x.1.isSome)
   && decide ((e :: es).length+([] : List Keyword).length+(if ([] : List Keyword).isEmpty then 0 else 1) < 30))=true:=by rfl)
  (hline:(apos.endLine == cpos.line)=true:=by rfl) (hs:starEach (e :: es) X.env=(false,eval e X.env) :: starEach es X.env:=by rfl) (hplain:(backTo cpos (starEach es X.env)).any (·.1)=false:=by rfl) :
  PE X (.Call (.Attribute o name apos) (e :: es) [] cpos) (tBM X.K T r to t):=by
 intro pins s σ H Q I h
 refine wpAny_Call_method_late hbase hfew hline rfl (thn (ho pins s σ H _ I h) fun v s1 ⟨x,H1,I1,r1,ty,q1⟩=>?_)
 obtain ⟨h1,h2⟩:=tyV_is I1 r1 ty
 refine ⟨T,id,pa,slot,hty,h1,h2,?_⟩
 have hA:=ha cpos pins s1 σ H1 _ I1 q1
 rw [hs] at hA ⊢
 refine Calls.callWith_builtin (by show (false || (backTo cpos (starEach es X.env)).any (·.1))=false;rw [hplain]<;>rfl) (Calls.evalArgs_plain ?_)
 exact thn hA fun us s2 ⟨vs,H2,I2,r2,q2⟩=>hm pins s2 σ H2 x vs v us Q I2 r1 r2 q2
end
end L2
namespace L2
open PySem PySem.Spec PyProof.Rows
def MtM (X:Cx) (id:String) (r:V->List V->Hp->VK->Prop):Prop :=
 ∀ (pins:List (Addr × Obj)) (s:Shared) (σ:St) (H:Hp) (x:V) (xs:List V) (v:Value) (us:List Value) (Q:VK),Inv X pins σ H s->RelV x v->Vals xs us->r x xs H Q ->
  wpAny (model X.prog X.w) X.A (call (.builtin id) (v :: us)) (EP X pins σ Q) X.xe s
theorem Vals.one:∀ {x:V} {us:List Value},Vals [x] us->∃ u,us=[u]/\RelV x u
 | _,_,.cons r .nil=>⟨_,rfl,r⟩
theorem Vals.zero:∀ {us:List Value},Vals [] us->us=[]
 | _,.nil=>rfl
theorem Vals.eraseIdx:∀ {xs:List V} {us:List Value} (i:Nat),Vals xs us->Vals (xs.eraseIdx i) (us.eraseIdx i)
 | _,_,_,.nil=>.nil
 | _,_,0,.cons _ t=>t
 | _,_,i+1,.cons r t=>.cons r (Vals.eraseIdx i t)
theorem len_erase {α:Type}:∀ (l:List α) (i:Nat),(l.eraseIdx i).length<=l.length
 | [],_=>Nat.le_refl _
 | _ :: _,0=>Nat.le_succ _
 | _ :: r,i+1=>Nat.succ_le_succ (len_erase r i)
section
variable {X:Cx} {pins:List (Addr × Obj)} {σ:St} {H:Hp} {s:Shared} {l b:Addr} {xs ys zs:List V}
theorem Inv.lset {its its':List Value} {n:Nat} {f:Array Value->Array Value} {t':Nat} (I:Inv X pins σ H s) (hH:H l=some (.lst xs))
  (e:s.heap.get? l=some { cls:=.type "list",data:=.seq its.toArray n }) (hf:f its.toArray=its'.toArray) (hv:Vals ys its') (hz:ys.length<=sizeLine) :
  Inv X pins σ (upd H l (.lst ys)) { s with heap:=s.heap.update l (Obj.mapSeq f),toks:=t' }:=by
 have q:=PySem.IsL.update e f
 rw [hf] at q
 refine I.write (x:=l) (e:=l) (by rw [hH];exact trivial) (.inl rfl) (fun b' u hb hu=>(Heap.get?_update_other s.heap (Obj.mapSeq f) (Ne.symm hb)).trans hu) ⟨_,q⟩ ?_
 exact ⟨hz,its',_,hv,q⟩
theorem Inv.lnew {its:List Value} {t':Nat} (I:Inv X pins σ H s) (hv:Vals ys its) (hz:ys.length<=sizeLine) :
  Inv X pins σ (upd H s.heap.objs.size (.lst ys)) { s with heap:=s.heap.push { cls:=.type "list",data:=.seq its.toArray },toks:=t' } :=
 I.laid (fun _ _ q=>Heap.get?_push_of_some _ q) (Nat.le_refl _) ⟨hz,its,0,hv,Heap.get?_push_size _ rfl⟩
theorem Inv.fresh (I:Inv X pins σ H s):H s.heap.objs.size=none:=I.hok.fresh (Nat.le_refl _)
theorem Inv.lstM (I:Inv X pins σ H s) (hH:H l=some (.lst xs)):xs.length<=sizeLine/\∃ (its:List Value) (n:Nat),Vals xs its/\xs.length=its.length/\s.heap.get? l=some { cls:=.type "list",data:=.seq its.toArray n }:=by
 obtain ⟨z,its,n,r,e⟩:=I.hok l _ hH
 exact ⟨z,its,n,r,r.length,e⟩
end
section
variable {X:Cx}
def rAppend:V->List V->Hp->VK->Prop:=fun x vs H Q=>∃ l xs y,x=.ref l/\vs=[y]/\H l=some (.lst xs)/\xs.length < sizeLine/\Q .non (upd H l (.lst (xs++[y])))
theorem mt_append:MtM X "list.append" rAppend:=by
 intro pins s σ H x vs v us Q I rx rv h
 obtain ⟨l,xs,y,rfl,rfl,hH,hz,q⟩:=h
 cases rx
 obtain ⟨u,rfl,ru⟩:=rv.one
 obtain ⟨z,its,n,r,hl,e⟩:=I.lstM hH
 refine call_meets F.slot_list_append ⟨_,e,rfl⟩ F.entry_list_append (F.args_list_append_2 _ _) (PySem.list_append l its.toArray n u (by rw [List.size_toArray];omega)) ⟨e,?_⟩
 refine ⟨.non,_,I.lset (its':=its++[u]) hH e (by simp) (r.append (.cons ru .nil)) ?_,rfl,q⟩
 rw [List.length_append,List.length_singleton]
 omega
def rPopAt:V->List V->Hp->VK->Prop:=fun x vs H Q=>∃ l xs i k y,x=.ref l/\vs=[.int i]/\H l=some (.lst xs)/\-(2 ^ 63)<=i/\i < 2 ^ 63/\seqIndex? i xs.length=some k/\xs[k]?=some y/\Q y (upd H l (.lst (xs.eraseIdx k)))
theorem mt_popAt:MtM X "list.pop" rPopAt:=by
 intro pins s σ H x vs v us Q I rx rv h
 obtain ⟨l,xs,i,k,y,rfl,rfl,hH,h1,h2,hk,hy,q⟩:=h
 cases rx
 obtain ⟨u,rfl,ru⟩:=rv.one
 obtain ⟨t,rfl⟩:=ru
 obtain ⟨z,its,n,r,hl,e⟩:=I.lstM hH
 obtain ⟨w,hw,rw'⟩:=r.get hy
 refine call_meets F.slot_list_pop ⟨_,e,rfl⟩ F.entry_list_pop (F.args_list_pop_2 _ _)
  (MeetsSeq.list_pop_at l its.toArray n i t k w (fitsIndex_both h1 h2) (by rw [List.size_toArray,<- hl];exact hk) (by rw [<- Array.getElem?_toList];exact hw) (by rw [List.size_toArray];omega)) ⟨e,?_⟩
 refine ⟨y,_,I.lset (its':=its.eraseIdx k) hH e ?_ (r.eraseIdx k) ?_,rw',q⟩
 ·show its.toArray.eraseIdxIfInBounds k=(its.eraseIdx k).toArray
  rw [List.eraseIdxIfInBounds_toArray]
 ·have:=len_erase xs k
  omega
def rCat:R2:=fun x y H Q=>∃ l b xs zs,x=.ref l/\y=.ref b/\H l=some (.lst xs)/\H b=some (.lst zs)/\xs.length+zs.length<=sizeLine/\∀ p,H p=none->Q (.ref p) (upd H p (.lst (xs++zs)))
theorem op_cat:OpR X (binaryOp .Add) rCat:=by
 intro pins s σ H x y v u Q I rx ry h
 obtain ⟨l,b,xs,zs,rfl,rfl,hH,hB,hz,q⟩:=h
 cases rx
 cases ry
 obtain ⟨z,its,n,r,hl,e⟩:=I.lstM hH
 obtain ⟨z2,its2,n2,r2,hl2,e2⟩:=I.lstM hB
 refine PySem.P.add_list e e2 ?_ (by rw [List.size_toArray,List.size_toArray];omega)
 have ea:its.toArray++its2.toArray=(its++its2).toArray:=by simp
 rw [ea]
 exact ⟨.ref _,_,I.lnew (t':=s.toks) (r.append r2) (by rw [List.length_append];omega),rfl,q _ I.fresh⟩
end
section
variable {prog:Program} {w:World} {A:Around} {E:Value->Shared->Prop} {s:Shared}
end
section
variable {X:Cx}
end
end L2
namespace Att
open PySem PySem.W PySem.Calls PyProof.Rows
theorem ints_of_wellAll {P:Params} {h:Heap}:∀ (ns:List Int) (vs:List Value),WellAll P h vs (ns.map WData.int)->IntsAre vs ns:=by
 intro ns
 induction ns with
 | nil =>
  intro vs w
  rw [List.map_nil] at w
  cases w
  exact .nil
 | cons n ns ih =>
  intro vs w
  rw [List.map_cons] at w
  cases w with
  | cons a b =>
   cases a
   exact .cons _ _ (ih _ b)
theorem script_of {l:OpenLaw} {n:Nat} (hn:l.most=some n) {P:Params} {h:Heap} {args:List WData} {vals:List Value}
  (hpre:l.row.toRowW.claim.pre args=true) (hwl:WellAll P h vals args) :
  ∃ a vs ns,vals=[Value.ref a]/\args=[WData.list (ns.map WData.int)]/\h.get? a=some { cls:=.type "list",data:=.seq vs.toArray }/\IntsAre vs ns/\ns.length<=n:=by
 have hsh:WShape.hasAll [] args [.list .int]=true:=(pre_splitW hpre).1
 have hc:l.pre.holds [] { args:=args }=true:=(pre_splitW hpre).2
 obtain ⟨d,r,rfl,h1,h2⟩:=hasAllW_cons hsh
 obtain rfl:=hasAllW_nil h2
 obtain ⟨xs,rfl,h3⟩:=hasW_list h1
 obtain ⟨ns,rfl⟩:=items_int h3
 have hlen:ns.length<=n:=by
  unfold OpenLaw.pre at hc
  have h4:(WTm.not (.lt (.lit (.int (n:Int))) (.len (.arg 0)))).holds [] { args:=[.list (ns.map .int)] }=true:=by
   have h4:=(holds_andW hc).1
   rw [hn] at h4
   exact h4
  have h5:=condW_of h4 (w_not (w_lt w_lit (w_len_list (w_arg rfl))))
  rw [List.length_map] at h5
  refine Nat.le_of_not_lt fun q=>?_
  have q':(n:Int) < ((ns.length:Nat):Int):=by omega
  first
   | (rw [decide_eq_true q'] at h5;exact absurd h5 (by decide))
   | (simp at h5;omega)
 cases hwl with
 | cons w1 w2 =>
  cases w2
  cases w1 with
  | list ho hall=>exact ⟨_,_,ns,rfl,rfl,ho,ints_of_wellAll ns _ hall,hlen⟩
theorem post_true (l:OpenLaw) (args:List WData):l.row.toRowW.claim.post args (.bool true) args=true :=
 postW_of (r:=l.row.toRowW) (X:=(true == true))
  (show WShape.has [] (.bool true) .bool=true by first | rfl | decide | simp [WShape.has,WShape.arms,WShape.armsAll])
  (show (WTm.eq .res (.lit (.bool true))).value [] { args:=args,res:=some (.bool true),after:=args }=some (.bool (true == true)) from w_eq_bool (w_res rfl) w_lit) rfl
section
variable {prog:Program} {w:World} {A:Around} {E:Value->Shared->Prop} {s:Shared} {K:Frag}
def ledger (h:Heap) (L d:Addr):List (Addr × Obj):=(List.range h.objs.size).filterMap fun a=>if a=L\/a=d then none else (h.get? a).map fun o=>(a,o)
end
end Att
namespace L2
open PySem PySem.Spec PyProof.Rows
theorem vals_ints:∀ {vs:List Value} {ns:List Int},IntsAre vs ns->Vals (ns.map V.int) vs
 | _,_,.nil=>.nil
 | _,_,.cons n t h=>.cons ⟨t,rfl⟩ (vals_ints h)
def Only (H:Hp):Prop:=∀ b,H b=none\/∃ o xs,H b=some (.frz o (.lst xs))
theorem law_call {P:Program} {w:World} {K:PySem.W.Frag} {mg mb:Str->Option Value} {CX:CXT} {k:Nat} {fa a:Addr} {fd:FuncData} {x:Str} {sp:Sp} {s₁:Shared} {vs:List Value} {ns:List Int}
  (KX:K.In s₁.heap) (hns:s₁.heap.Ns mainGlobals mg) (hb:s₁.heap.Ns builtinsNs mb) (hbb:∀ x:Str,x ≠ "__name__" -> mb x=bootBuiltins x) (hlim:s₁.heap.NoLimit) (hsr:s₁.heap.NoSeer) (hg:s₁.gens=#[])
  (ha:s₁.heap.get? a=some { cls:=.type "list",data:=.seq vs.toArray }) (hi:IntsAre vs ns) (hl:ns.length<=sizeLine) (hr:Room k callerA)
  (F:∀ base:Heap,K.In base->base.Ns mainGlobals mg->FnOk P w K mg base CX k fa fd [x] sp) (hbind:∀ (s:Shared) (u:Value),BindsTo s fd ⟨[u],[]⟩ [(x,u)])
  (hsp:∀ H:Hp,Only H->SqL K H a (ns.map V.int)->sp [.ref a] H (fun v _=>v=.bl true) fun _ _ _=>False)
  (hCX:∀ H e s',CX [] H s₁ (fun _ _ _=>False) e s'->False) :
  codeAny (model P w) callerA (.call (.ref fa) ⟨[.ref a],[]⟩) (fun r s'=>r=.ok (.ret (.bool true))/\OldK s₁.heap s'.heap/\s'.os=s₁.os/\AllBare s'.gens) s₁:=by
 have rv:=vals_ints hi
 have lenV:=hi.length
 have core:∀ H:Hp,Only H->SqL K H a (ns.map V.int)->HOk P w H s₁.heap->(∀ b,H b≠none->b=a)->(H a≠none->K.lookup a=none) ->
   codeAny (model P w) callerA (.call (.ref fa) ⟨[.ref a],[]⟩) (fun r s'=>r=.ok (.ret (.bool true))/\OldK s₁.heap s'.heap/\s'.os=s₁.os/\AllBare s'.gens) s₁:=by
  intro H hO hS hok hA hK
  have base_of:∀ {b:Addr} {o:Obj},s₁.heap.get? b=some o->H b=none->(hidT s₁.heap H).get? b=some o:=fun e n=>hidT_get e n
  have noA:∀ {b:Addr} {o:Obj} {es:Array DictEntry} {ep:Nat},s₁.heap.get? b=some o->o.data=.dict es ep->H b=none:=fun {b o es ep} e d=>by
   cases q:H b with
   | none=>rfl
   | some u =>
    have e':b=a:=hA b (by rw [q];simp)
    subst e'
    rw [ha] at e;cases e
    have d':Data.seq vs.toArray _=Data.dict es ep:=d
    cases d'
  have nsK:∀ {b:Addr} {m:Str->Option Value},s₁.heap.Ns b m->(hidT s₁.heap H).Ns b m:=fun {b m} ⟨o,es,ep,e,d,r⟩=>⟨o,es,ep,base_of e (noA e d),d,r⟩
  have hKb:K.In (hidT s₁.heap H):=fun b o e=>base_of (KX b o e) (by
   cases q:H b with
   | none=>rfl
   | some u =>
    have e':b=a:=hA b (by rw [q];simp)
    subst e'
    rw [hK (by rw [q];simp)] at e;cases e)
  have hM:Mod K mg (hidT s₁.heap H):=⟨hKb,nsK hns,⟨mb,nsK hb,hbb⟩,let ⟨mc,h1,h2⟩:=hlim;⟨mc,nsK h1,h2⟩,⟨let ⟨mc,h1,h2⟩:=hsr.statics;⟨mc,nsK h1,h2⟩,let ⟨mc,h1,h2⟩:=hsr.mods;⟨mc,nsK h1,h2⟩,let ⟨mc,h1,h2⟩:=hsr.imp;⟨mc,nsK h1,h2⟩,let ⟨mg',bm,ob,h1,h2,h3,h4,h5⟩:=hsr.main;⟨mg',bm,ob,nsK h1,h2,base_of h3 (by
   cases q:H bm with
   | none=>rfl
   | some u =>
    have e':bm=a:=hA bm (by rw [q];simp)
    subst e'
    rw [ha] at h3;cases h3
    simp at h4),h4,h5⟩⟩⟩
  have e0:Env0 P w K mg (hidT s₁.heap H) callerA [] s₁ H:=⟨rfl,hM,fun b o e=>of_hidT e,Nat.le_of_eq (hidT_size _ _),trivial,fun b hb=>absurd (show b∈([] : List Addr) from hb) (by simp),hok,.of_eq hg⟩
  refine codeAny_mono ((F _ hKb (nsK hns)).run callerA [] s₁ H ⟨[.ref a],[]⟩ [.ref a] [.ref a] _ _ hr e0 (hbind s₁ (.ref a)) (.cons rfl .nil) (hsp H hO hS)) fun r s' h=>?_
  cases r with
  | error e=>exact (hCX H e s' h).elim
  | ok fl =>
   cases fl with
   | next=>exact False.elim h
   | brk=>exact False.elim h
   | cont=>exact False.elim h
   | ret u =>
    obtain ⟨v,H',os,bare,un,hok',r',q⟩:=h
    have q':v=.bl true:=q
    subst q'
    obtain rfl:u=Value.bool true:=r'
    refine ⟨rfl,OldK.of_keep fun b o e=>?_,os,bare⟩
    cases q:H b with
    | none=>exact un.keep b o e q (by intro z;exact absurd (show b∈([] : List Addr) from z) (by simp)) (by simp)
    | some u =>
     rcases hO b with z | ⟨ob,xs,z⟩
     ·rw [q] at z;cases z
     ·have z2:=un.frzs b ob _ z
      obtain ⟨e1,_⟩:=hok b _ z
      obtain ⟨e2,_⟩:=hok' b _ z2
      rw [e] at e1;cases e1
      exact e2
 cases hk:K.lookup a with
 | some o =>
  have e:=KX a o hk
  rw [ha] at e
  cases e
  refine core (fun _=>none) (fun _=>.inl rfl) (.inr ⟨_,vs.toArray,_,hk,rfl,rfl,rfl,by rw [List.size_toArray,lenV];exact hl,by simpa using rv⟩) (fun b u z=>by have z':(none:Option HO)=some u:=z;cases z') (fun b z=>absurd rfl z) fun z=>absurd rfl z
 | none =>
  refine core (fun b=>if b=a then some (.frz { cls:=.type "list",data:=.seq vs.toArray } (.lst (ns.map V.int))) else none) (fun b=>?_) (.inl (.inr ⟨{ cls:=.type "list",data:=.seq vs.toArray },if_pos rfl⟩)) (fun b u z=>?_) (fun b z=>?_) fun _=>hk
  ·by_cases hb:b=a
   ·exact .inr ⟨_,_,if_pos hb⟩
   ·exact .inl (if_neg hb)
  ·by_cases hb:b=a
   ·have z':=(if_pos hb).symm.trans z
    cases z'
    subst hb
    exact ⟨ha,by rw [List.length_map];exact hl,vs,_,rv,ha⟩
   ·have z':=(if_neg hb).symm.trans z
    cases z'
  ·by_cases hb:b=a
   ·exact hb
   ·exact absurd (if_neg hb) z
end L2
namespace L2
open PySem PySem.Spec PyProof.Rows
abbrev KOf {K:PySem.W.Frag} {h:Heap} (_:K.In h):PySem.W.Frag:=K
end L2
namespace L2
open PySem PySem.Spec PyProof.Rows
def defArgs (s:Stmt):Arguments:=match s with
 | .FunctionDef _ a _ _ _ _ _ _ _ _=>a
 | _=>{ posonlyargs:=[],args:=[],vararg:=none,kwonlyargs:=[],kw_defaults:=[],kwarg:=none,defaults:=[] }
def defBody (s:Stmt):List Stmt:=match s with
 | .FunctionDef _ _ b _ _ _ _ _ _ _=>b
 | _=>[]
def defScope (s:Stmt):Scope:=match s with
 | .FunctionDef _ _ _ _ _ _ sc _ _ _=>sc
 | _=>{ kind:=.function,names:=[],isGenerator:=false,isCoroutine:=false }
abbrev CX0:CXT:=fun _ _ _ _ _ _=>False
abbrev E0:XK:=fun _ _ _=>False
theorem pass0 {X:Cx}:Passes CX0 X E0:=fun _ _ _ _ _ _ _ h=>h.elim
structure Fun (K:PySem.W.Frag) (x qual:Str) (st:Stmt) (f:Addr) (fd:FuncData):Prop where
 ex:∃ (oc:Value) (od:Option Addr) (kV doc pm:Value) (an:Option Addr) (cdv ct:Value) (osl:Array (Option Value)),
  fd=PySem.W.fnOf x qual (defArgs st) (defBody st) (defScope st) .none kV doc pm an cdv ct/\K.lookup f=some ⟨oc,od,.func fd,osl⟩/\PySem.W.codeIn K cdv qual=true
 kp:PySem.W.keepIn K (.ref f)=true
section
variable {P:Program} {w:World} {K:PySem.W.Frag} {mg:Str->Option Value} {base:Heap}
theorem Fun.ok {x qual:Str} {st:Stmt} {f:Addr} {fd:FuncData} {N ps:List Str} {k:Nat} {sp:Sp} (F:Fun K x qual st f fd) (S:FnScope N ps (defScope st)) (len:∀ vs H Q E,sp vs H Q E->vs.length=ps.length)
  (hbody:∀ (cdv:Value) (A:Around) (outer:List Env) (s:Shared) (H:Hp) (vs:List V) (Q:VK) (E:XK),Room k (A.deeper (envOfC qual (defScope st) s.heap.objs.size f cdv))->sp vs H Q E ->
   ∃ t,PSs (cxOf CX0 P w K mg base N qual (defScope st) f cdv A outer s H E).nox (defBody st) t/\t { nx:=fun _ H'=>Q .non H',rt:=Q } (start N vs) H):FnOk P w K mg base CX0 (k+1) f fd ps sp:=by
 obtain ⟨oc,od,kV,doc,pm,an,cdv,ct,osl,rfl,lk,hcd⟩:=F.ex
 refine fn_of lk hcd S len fun A outer s H vs Q E hr hsp=>?_
 obtain ⟨t,h,q⟩:=hbody cdv A outer s H vs Q E hr hsp
 exact ⟨t,h.nox,q⟩
theorem Fun.binds {x qual:Str} {st:Stmt} {f:Addr} {fd:FuncData} {ps:List Str} (F:Fun K x qual st f fd)
  (h:∀ (kV doc pm:Value) (an:Option Addr) (cdv ct:Value) (us:List Value),us.length=ps.length->bindArgs (PySem.W.fnOf x qual (defArgs st) (defBody st) (defScope st) .none kV doc pm an cdv ct) ⟨us,[]⟩=pure (ps.zip us)):Binds K fd ps []:=by
 obtain ⟨oc,od,kV,doc,pm,an,cdv,ct,osl,rfl,lk,hcd⟩:=F.ex
 exact .all (h kV doc pm an cdv ct)
theorem fun_mk {x qual:Str} {st:Stmt} {f:Addr} {oc:Value} {od an:Option Addr} {osl:Array (Option Value)} {kV doc pm cdv ct:Value} (l:K.lookup f=some ⟨oc,od,.func (PySem.W.fnOf x qual (defArgs st) (defBody st) (defScope st) .none kV doc pm an cdv ct),osl⟩)
  (c:PySem.W.codeIn K cdv qual=true) (k:PySem.W.keepIn K (.ref f)=true):Fun K x qual st f (PySem.W.fnOf x qual (defArgs st) (defBody st) (defScope st) .none kV doc pm an cdv ct):=⟨⟨oc,od,kV,doc,pm,an,cdv,ct,osl,rfl,l,c⟩,k⟩
end
theorem small1000 {n:Nat} (h:n<=1000):n < sizeLine:=Nat.lt_of_le_of_lt h (by decide)
section
variable {X:Cx}
theorem pv (i:Nat) {x:Str} {pos:Pos} (hN:X.N[i]?=some x:=by rfl) (hv:Vis X.env.scope x:=by first | exact Or.inl rfl | exact Or.inr (Or.inl rfl) | exact Or.inr (Or.inr rfl)) (hd:(x == ("__debug__" : Str))=false:=by decide)
  (hcd:(x == ("__classdict__" : Str))=false:=by decide):PE X (.Name x pos) (tVar i):=pe_var hN hv hd hcd
end
end L2
namespace L2
open PySem PySem.Spec PyProof.Rows
section
variable {κ:Type} [DecidableEq κ]
def valV (kvs:List (κ × V)) (k:κ):Option V:=(kvs.find? fun kv=>decide (kv.1=k)).map (·.2)
def putK (kvs:List (κ × V)) (k:κ) (v:V):List (κ × V) :=
 if (kvs.any fun kv=>decide (kv.1=k))=true then kvs.map (fun kv=>if kv.1=k then (kv.1,v) else kv) else kvs++[(k,v)]
theorem valV_nil {k:κ}:valV ([] : List (κ × V)) k=none:=rfl
theorem valV_pos {p:κ × V} {r:List (κ × V)} {k:κ} (e:p.1=k):valV (p :: r) k=some p.2:=by simp [valV,List.find?_cons,e]
theorem valV_neg {p:κ × V} {r:List (κ × V)} {k:κ} (e:¬ p.1=k):valV (p :: r) k=valV r k:=by simp [valV,List.find?_cons,e]
theorem valV_any (k:κ):∀ kvs:List (κ × V),(kvs.any fun kv=>decide (kv.1=k))=(valV kvs k).isSome
 | []=>rfl
 | p :: r=>by
  rw [List.any_cons]
  by_cases e:p.1=k
  ·simp only [valV_pos e,decide_eq_true e,Bool.true_or,Option.isSome_some]
  ·rw [valV_neg e,decide_eq_false e,Bool.false_or];exact valV_any k r
theorem length_putK (kvs:List (κ × V)) (k:κ) (v:V):(putK kvs k v).length<=kvs.length+1:=by
 unfold putK
 split
 ·rw [List.length_map];omega
 ·rw [List.length_append,List.length_cons,List.length_nil];omega
theorem RelO.isSome_eq {o:Option V} {u:Option Value} (r:RelO o u):o.isSome=u.isSome:=by
 cases o with
 | none=>cases u with
  | none=>rfl
  | some _=>exact (show False from r).elim
 | some _=>cases u with
  | none=>exact (show False from r).elim
  | some _=>rfl
theorem RelO.getD {o:Option V} {u:Option Value} {d:V} {d':Value} (r:RelO o u) (rd:RelV d d'):RelV (o.getD d) (u.getD d'):=by
 cases o with
 | none=>cases u with
  | none=>exact rd
  | some _=>exact (show False from r).elim
 | some _=>cases u with
  | none=>exact (show False from r).elim
  | some _=>exact r
theorem KV.val {kvs:List (κ × V)} {vs:List (κ × Value)} (r:KV kvs vs) (k:κ):RelO (valV kvs k) (valueAt vs k):=by
 unfold KV at r
 induction r with
 | nil=>exact True.intro
 | @cons p q ps qs h t ih =>
  obtain ⟨h1,h2⟩:=h
  by_cases e:p.1=k
  ·have e':q.1=k:=h1.symm.trans e
   have b:valueAt (q :: qs) k=some q.2:=by simp [valueAt,List.find?_cons,e']
   rw [valV_pos e,b];exact h2
  ·have e':¬ q.1=k:=fun z=>e (h1.trans z)
   have b:valueAt (q :: qs) k=valueAt qs k:=by simp [valueAt,List.find?_cons,e']
   rw [valV_neg e,b];exact ih
theorem KV.any {kvs:List (κ × V)} {vs:List (κ × Value)} (r:KV kvs vs) (k:κ):(kvs.any fun kv=>decide (kv.1=k))=vs.any fun kv=>decide (kv.1=k):=by
 unfold KV at r
 induction r with
 | nil=>rfl
 | cons h t ih=>rw [List.any_cons,List.any_cons,ih,h.1]
theorem KV.repl {kvs:List (κ × V)} {vs:List (κ × Value)} (r:KV kvs vs) (k:κ) {y:V} {u:Value} (ry:RelV y u) :
  KV (kvs.map fun kv=>if kv.1=k then (kv.1,y) else kv) (vs.map fun kv=>if kv.1=k then (kv.1,u) else kv):=by
 unfold KV at r ⊢
 induction r with
 | nil=>exact .nil
 | @cons p q ps qs h t ih =>
  rw [List.map_cons,List.map_cons]
  refine .cons ?_ ih
  obtain ⟨h1,h2⟩:=h
  by_cases e:p.1=k
  ·rw [if_pos e,if_pos (h1.symm.trans e)];exact ⟨h1,ry⟩
  ·rw [if_neg e,if_neg (fun z=>e (h1.trans z))];exact ⟨h1,h2⟩
theorem KV.put {kvs:List (κ × V)} {vs:List (κ × Value)} (r:KV kvs vs) (k:κ) {y:V} {u:Value} (ry:RelV y u):KV (putK kvs k y) (stored vs k u):=by
 unfold putK stored
 rw [r.any k]
 by_cases e:(vs.any fun kv=>decide (kv.1=k))=true
 ·rw [if_pos e,if_pos e];exact r.repl k ry
 ·rw [if_neg e,if_neg e];exact Paired.snoc r ⟨rfl,ry⟩
theorem KV.keys {kvs:List (κ × V)} {vs:List (κ × Value)} (r:KV kvs vs):kvs.map (·.1)=vs.map (·.1):=by
 unfold KV at r
 induction r with
 | nil=>rfl
 | cons h t ih=>rw [List.map_cons,List.map_cons,ih,h.1]
theorem KV.length {kvs:List (κ × V)} {vs:List (κ × Value)} (r:KV kvs vs):kvs.length=vs.length:=Paired.length r
end
theorem kV_is {P:Program} {w:World} {k:Key} {u:Value} (r:RelV (kV k) u):(mixKind P w).is k u=true:=by
 cases k with
 | inl i=>obtain ⟨t,e⟩:=(show ∃ t,u=Value.int i t from r);subst e;exact mixKind_int P w i t
 | inr x=>obtain ⟨t,e⟩:=(show ∃ t,u=Value.str x t from r);subst e;exact mixKind_str P w x t
theorem items_are {P:Program} {w:World}:∀ {ks:List Key} {us:List Value},Vals (ks.map kV) us->ItemsAre (mixKind P w) ks us
 | [],_,r=>by rw [List.map_nil] at r;cases r;exact .nil
 | k :: ks,_,r=>by
  rw [List.map_cons] at r
  cases r with
  | cons h t=>exact .cons (kV_is h) (items_are t)
abbrev KT (H:Hp):List (List Key × V)->List (List Key × Addr × Value)->Prop:=Paired fun p q=>p.1=q.1/\H q.2.1=some (.tup (p.1.map kV))/\RelV p.2 q.2.2
theorem KT.val {H:Hp} {kvs:List (List Key × V)} {xs:List (List Key × Addr × Value)} (r:KT H kvs xs) (k:List Key):RelO (valV kvs k) ((atKey xs k).map (·.2)):=by
 induction r with
 | nil=>exact True.intro
 | @cons p q ps qs h t ih =>
  obtain ⟨h1,_,h2⟩:=h
  by_cases e:p.1=k
  ·have e':q.1=k:=h1.symm.trans e
   have b:atKey (q :: qs) k=some q.2:=by simp [atKey,List.find?_cons,e']
   rw [valV_pos e,b];exact h2
  ·have e':¬ q.1=k:=fun z=>e (h1.trans z)
   have b:atKey (q :: qs) k=atKey qs k:=by simp [atKey,List.find?_cons,e']
   rw [valV_neg e,b];exact ih
theorem KT.repl {H:Hp} {kvs:List (List Key × V)} {xs:List (List Key × Addr × Value)} (r:KT H kvs xs) (k:List Key) {y:V} {u:Value} (ry:RelV y u) :
  KT H (kvs.map fun kv=>if kv.1=k then (kv.1,y) else kv) (xs.map (putAt k u)):=by
 induction r with
 | nil=>exact .nil
 | @cons p q ps qs h t ih =>
  rw [List.map_cons,List.map_cons]
  refine .cons ?_ ih
  obtain ⟨h1,h2,h3⟩:=h
  unfold putAt
  by_cases e:p.1=k
  ·rw [if_pos e,if_pos (h1.symm.trans e)];exact ⟨h1,h2,ry⟩
  ·rw [if_neg e,if_neg (fun z=>e (h1.trans z))];exact ⟨h1,h2,h3⟩
theorem KT.put {H:Hp} {kvs:List (List Key × V)} {xs:List (List Key × Addr × Value)} (r:KT H kvs xs) (k:List Key) {b:Addr} {y:V} {u:Value} (hb:H b=some (.tup (k.map kV))) (ry:RelV y u) :
  KT H (putK kvs k y) (storedH xs k b u):=by
 have e:(kvs.any fun kv=>decide (kv.1=k))=(atKey xs k).isSome:=by
  rw [valV_any,(r.val k).isSome_eq,Option.isSome_map]
 unfold putK storedH
 rw [e]
 by_cases q:(atKey xs k).isSome=true
 ·rw [if_pos q,if_pos q];exact r.repl k ry
 ·rw [if_neg q,if_neg q];exact Paired.snoc r ⟨rfl,hb,ry⟩
theorem KT.keeps {H H':Hp} {kvs:List (List Key × V)} {xs:List (List Key × Addr × Value)} (r:KT H kvs xs) (ht:∀ b ys,H b=some (.tup ys)->H' b=some (.tup ys)):KT H' kvs xs :=
 Paired.mapP r fun _ _ z=>⟨z.1,ht _ _ z.2.1,z.2.2⟩
section
variable {P:Program} {w:World} {H:Hp} {h:Heap} {a:Addr}
theorem rd_of {u:HO} (ok:HOk P w H h) (e:Rd H a u):ObjOk P w H h a u:=e.ok ok
theorem dk_rd {kvs:List (Key × V)} (ok:HOk P w H h) (e:Rd H a (.dK kvs)):kvs.length<=sizeLine/\(a == sysModules)=false/\∃ vs,KV kvs vs/\h.DictOf (mixKind P w) a vs :=
 show ObjOk P w H h a (.dK kvs) from rd_of ok e
theorem dk_of {kvs:List (Key × V)} (ok:HOk P w H h) (e:H a=some (.dK kvs)):kvs.length<=sizeLine/\(a == sysModules)=false/\∃ vs,KV kvs vs/\h.DictOf (mixKind P w) a vs:=dk_rd ok (.inl e)
theorem key_of {ks:List Key} (ok:HOk P w H h) (e:H a=some (.tup (ks.map kV))):(tupleKind (mixKind P w)).is h ks a:=by
 obtain ⟨_,its,r,o,h1,h2,n,h3⟩:=(show ObjOk P w H h a (.tup (ks.map kV)) from ok a _ e)
 exact ⟨o,its.toArray,n,h1,h2,h3,by simpa using items_are r⟩
theorem dt_rd {kvs:List (List Key × V)} (ok:HOk P w H h) (e:Rd H a (.dT kvs)):kvs.length<=sizeLine/\(a == sysModules)=false /\
  ∃ xs,KT H kvs xs/\h.DictOfH (tupleKind (mixKind P w)) a xs:=by
 obtain ⟨z,y,xs,r,o,es,ep,h1,h2,h3,h4,h5⟩:=(show ObjOk P w H h a (.dT kvs) from rd_of ok e)
 refine ⟨z,y,xs,r,o,es,ep,h1,h2,h3,h4,fun x hx=>?_,h5⟩
 have all:∀ {l:List (List Key × V)} {m:List (List Key × Addr × Value)},KT H l m->∀ x∈m,(tupleKind (mixKind P w)).is h x.1 x.2.1:=by
  intro l m q
  induction q with
  | nil=>intro x hx;exact nomatch hx
  | @cons p q ps qs hq t ih =>
   intro x hx
   rcases List.mem_cons.mp hx with e | hx
   ·subst e
    exact key_of ok (by rw [<- hq.1];exact hq.2.1)
   ·exact ih x hx
 exact all r x hx
theorem dt_of {kvs:List (List Key × V)} (ok:HOk P w H h) (e:H a=some (.dT kvs)):kvs.length<=sizeLine/\(a == sysModules)=false /\
  ∃ xs,KT H kvs xs/\h.DictOfH (tupleKind (mixKind P w)) a xs:=dt_rd ok (.inl e)
end
def DGet (H:Hp) (a:Addr) (y:V) (r:Option V):Prop :=
 (∃ kvs k,Rd H a (.dK kvs)/\y=kV k/\r=valV kvs k)\/∃ kvs k b,Rd H a (.dT kvs)/\y=.ref b/\H b=some (.tup (k.map kV))/\r=valV kvs k
def DPut (H:Hp) (a:Addr) (y v:V) (H':Hp):Prop :=
 (∃ kvs k,H a=some (.dK kvs)/\y=kV k/\kvs.length < sizeLine/\H'=upd H a (.dK (putK kvs k v))) \/
 ∃ kvs k b,H a=some (.dT kvs)/\y=.ref b/\H b=some (.tup (k.map kV))/\kvs.length < sizeLine/\H'=upd H a (.dT (putK kvs k v))
theorem DGet.k {H:Hp} {a:Addr} {kvs:List (Key × V)} {k:Key} (e:H a=some (.dK kvs)):DGet H a (kV k) (valV kvs k):=.inl ⟨kvs,k,.inl e,rfl,rfl⟩
theorem DPut.k {H:Hp} {a:Addr} {kvs:List (Key × V)} {k:Key} {v:V} (e:H a=some (.dK kvs)) (hl:kvs.length < sizeLine):DPut H a (kV k) v (upd H a (.dK (putK kvs k v))):=.inl ⟨kvs,k,e,rfl,hl,rfl⟩
section
variable {X:Cx} {pins:List (Addr × Obj)} {σ:St} {H:Hp} {s:Shared} {a:Addr} {y v:V} {u r:Value} {o:Option V} {A:Around} {E:Value->Shared->Prop}
theorem Inv.big (I:Inv X pins σ H s):sysModules < s.heap.objs.size:=by
 have h:mainGlobals < s.heap.objs.size:=(I.mod.glob.keeps I.bk).lt
 exact Nat.lt_trans (by decide) h
theorem d_getItem {Q:Value->Shared->Prop} (hu:A.units+1 < cLine) (I:Inv X pins σ H s) (g:DGet H a y (some v)) (ry:RelV y u) (h:∀ w' s',Inv X pins σ H s'->RelV v w'->Q w' s') :
  wpAny (model X.prog X.w) A (getItem (.ref a) u) Q E s:=by
 rcases g with ⟨kvs,k,e,ey,l⟩ | ⟨kvs,k,b,e,ey,eb,l⟩
 ·subst ey
  obtain ⟨z,hd,vs,rel,dd⟩:=dk_rd I.hok e
  obtain ⟨w',hw,rw'⟩:=RelO.some_of (v:=v) (o:=valueAt vs k) (by rw [l];exact rel.val k)
  exact wpAny_getItem_of (kV_is ry) dd.mapOf hw (h w' _ (I.tok _) rw')
 ·subst ey
  cases (show u=Value.ref b from ry)
  obtain ⟨z,hd,xs,rel,dd⟩:=dt_rd I.hok e
  obtain ⟨w',hw,rw'⟩:=RelO.some_of (v:=v) (o:=(atKey xs k).map (·.2)) (by rw [l];exact rel.val k)
  obtain ⟨p,hp,hp2⟩:=Option.map_eq_some_iff.mp hw
  refine wpAny_getItem_heap (tupleKind_room_in1 hu) (key_of I.hok eb) dd hp ?_
  rw [hp2]
  exact h w' _ (I.tok _) rw'
theorem d_notIn {Q:Value->Shared->Prop} (hu:A.units+1 < cLine) (I:Inv X pins σ H s) (g:DGet H a y o) (ry:RelV y u) (h:∀ s',Inv X pins σ H s'->Q (.bool (!o.isSome)) s') :
  wpAny (model X.prog X.w) A (compareOp .NotIn u (.ref a)) Q E s:=by
 rcases g with ⟨kvs,k,e,ey,l⟩ | ⟨kvs,k,b,e,ey,eb,l⟩
 ·subst ey
  obtain ⟨z,hd,vs,rel,dd⟩:=dk_rd I.hok e
  refine wpAny_notIn_of (kV_is ry) hd dd.mapOf ?_
  rw [<- (rel.val k).isSome_eq,<- l]
  exact h _ (I.tok _)
 ·subst ey
  cases (show u=Value.ref b from ry)
  obtain ⟨z,hd,xs,rel,dd⟩:=dt_rd I.hok e
  refine wpAny_notIn_heap (tupleKind_room_in1 hu) (key_of I.hok eb) hd dd ?_
  have q:=(rel.val k).isSome_eq
  rw [Option.isSome_map] at q
  rw [<- q,<- l]
  exact h _ (I.tok _)
theorem d_write {h':Heap} {t':Nat} {ob:HO} (I:Inv X pins σ H s) (mu:Mut (H a)) (hs:Heap.SameBut a s.heap h') (he:∃ q,h'.get? a=some q) (new:ObjOk X.prog X.w (upd H a ob) h' a ob) :
  Inv X pins σ (upd H a ob) { s with heap:=h',toks:=t' } :=
 I.write (x:=a) (e:=a) mu (.inl rfl) (fun b q hb z=>(hs.2 b hb).trans z) he new
theorem dk_new {P:Program} {w:World} {H':Hp} {h':Heap} {kvs:List (Key × V)} {vs:List (Key × Value)} (z:kvs.length<=sizeLine) (hd:(a == sysModules)=false) (rel:KV kvs vs) (dd:h'.DictOf (mixKind P w) a vs) :
  ObjOk P w H' h' a (.dK kvs):=⟨z,hd,vs,rel,dd⟩
theorem d_setItem {H':Hp} {Q:Unit->Shared->Prop} (hu:A.units+1 < cLine) (I:Inv X pins σ H s) (g:DPut H a y v H') (ry:RelV y u) (rv:RelV v r) (h:∀ s',Inv X pins σ H' s'->Q () s') :
  wpAny (model X.prog X.w) A (setItem (.ref a) u r) Q E s:=by
 rcases g with ⟨kvs,k,e,ey,l,eH⟩ | ⟨kvs,k,b,e,ey,eb,l,eH⟩
 ·subst ey eH
  obtain ⟨z,hd,vs,rel,dd⟩:=dk_of I.hok e
  have hz:vs.length<=sizeLine:=by rw [<- rel.length];exact z
  have hl:(putK kvs k v).length<=sizeLine:=by have:=length_putK kvs k v;omega
  refine wpAny_setItem_pairs (hsz:=hz) (kV_is ry) dd fun h' dd' hs=>h _ ?_
  have he:∃ q,h'.get? a=some q:=let ⟨q,_,_,hq,_⟩:=dd';⟨q,hq⟩
  exact d_write I (by rw [e];exact True.intro) hs he (dk_new hl hd (rel.put k rv) dd')
 ·subst ey eH
  cases (show u=Value.ref b from ry)
  obtain ⟨z,hd,xs,rel,dd⟩:=dt_of I.hok e
  have hz:xs.length<=sizeLine:=by rw [<- Paired.length rel];exact z
  have hl:(putK kvs k v).length<=sizeLine:=by have:=length_putK kvs k v;omega
  refine wpAny_setItem_heap (hsz:=hz) (tupleKind_room_in1 hu) (key_of I.hok eb) dd fun h' dd' hs=>h _ ?_
  obtain ⟨q,es,ep,hq,h2,h3,h4,_,h5⟩:=dd'
  refine d_write I (by rw [e];exact True.intro) hs ⟨q,hq⟩ ⟨hl,hd,_,(rel.put k eb rv).keeps fun c ys ec=>?_,q,es,ep,hq,h2,h3,h4,h5⟩
  rw [upd_ne (ne_of ec e (fun z=>nomatch z))]
  exact ec
end
section
variable {X:Cx} {pins:List (Addr × Obj)} {σ:St} {H:Hp} {s:Shared} {a:Addr} {kvs:List (Key × V)} {k:Key} {u:Value} {A:Around} {E:Value->Shared->Prop}
theorem d_clear {Q:Value->Shared->Prop} (I:Inv X pins σ H s) (e:H a=some (.dK kvs)) (h:∀ s',Inv X pins σ (upd H a (.dK [])) s'->Q .none s'):wpAny (model X.prog X.w) A (call (.builtin "dict.clear") [.ref a]) Q E s:=by
 obtain ⟨z,hd,vs,rel,dd⟩:=dk_of I.hok e
 refine call_meetsIn PySem.F.slot_dict_clear dd.typeIs PySem.F.entry_dict_clear (PySem.F.args_dict_clear_1 _) (meets_dict_clear (mixKind X.prog X.w) a) ⟨vs,dd,by rw [<- rel.length];exact z,fun h' dd' hs=>h _ ?_⟩
 have he:∃ q,h'.get? a=some q:=let ⟨q,_,_,hq,_⟩:=dd';⟨q,hq⟩
 exact d_write (t':=s.toks) I (by rw [e];exact True.intro) hs he (dk_new (Nat.zero_le _) hd .nil dd')
end
theorem dict_typeIs {X:Cx} {pins:List (Addr × Obj)} {σ:St} {H:Hp} {s:Shared} {a:Addr} {y:V} {o:Option V} (I:Inv X pins σ H s) (g:DGet H a y o):s.TypeIs (.ref a) "dict" := by
 rcases g with ⟨kvs,k,e,_,_⟩ | ⟨kvs,k,b,e,_,_,_⟩
 ·obtain ⟨_,_,vs,_,dd⟩:=dk_rd I.hok e
  exact dd.typeIs
 ·obtain ⟨_,_,xs,_,dd⟩:=dt_rd I.hok e
  exact dd.typeIs
section
variable {X:Cx} {o i e value:Expr} {pos pos' tpos:Pos} {td ty tv:TE}
end
theorem dk_empty {P:Program} {w:World} {H:Hp} (h:Heap) (hb:sysModules < h.objs.size):ObjOk P w H (h.push { cls:=.type "dict",data:=.dict #[] }) h.objs.size (.dK []) :=
 ⟨Nat.zero_le _,beq_eq_false_iff_ne.mpr (Ne.symm (Nat.ne_of_lt hb)),[],.nil,Heap.DictOf.new h⟩
def tDNewK:TE:=fun _ H Q=>∀ p,H p=none->Q (.ref p) (upd H p (.dK []))
section
variable {X:Cx} {pos:Pos}
theorem pe_dnewK:PE X (.Dict [] [] pos) tDNewK:=fun pins s σ H Q I h =>
 wpAny_Dict_empty ⟨.ref s.heap.objs.size,_,I.laid (a:=s.heap.objs.size) (o:=.dK []) (t':=s.toks) (fun _ _ q=>Heap.get?_push_of_some _ q) (Nat.le_refl _) (dk_empty s.heap I.big),rfl,h _ (I.hok.fresh (Nat.le_refl _))⟩
end
structure M1 (X:Cx) (o:Expr) (m:Str) (apos:Pos) (e:Expr) (cpos:Pos):Prop where
 base:attributeBase o m X.env (eval o X.env)=eval o X.env
 few:((backTo cpos (starEach [e] X.env)).all (fun x=>!x.1) && (backToKw cpos (keywordEach [] X.env)).all (fun x=>x.1.isSome)
  && decide (([e] : List Expr).length+([] : List Keyword).length+(if ([] : List Keyword).isEmpty then 0 else 1) < 30))=true
 line:(apos.endLine == cpos.line)=true
 trees:backTo cpos (starEach [e] X.env)=[(false,eval e X.env)]
structure M2 (X:Cx) (o:Expr) (m:Str) (apos:Pos) (e f:Expr) (cpos:Pos):Prop where
 base:attributeBase o m X.env (eval o X.env)=eval o X.env
 few:((backTo cpos (starEach [e,f] X.env)).all (fun x=>!x.1) && (backToKw cpos (keywordEach [] X.env)).all (fun x=>x.1.isSome)
  && decide (([e,f] : List Expr).length+([] : List Keyword).length+(if ([] : List Keyword).isEmpty then 0 else 1) < 30))=true
 line:(apos.endLine == cpos.line)=true
 trees:backTo cpos (starEach [e,f] X.env)=[(false,eval e X.env),(false,eval f X.env)]
def IsD (H:Hp) (a:Addr):Prop:=(∃ kvs,Rd H a (.dK kvs))\/∃ kvs,Rd H a (.dT kvs)
theorem isD_at {X:Cx} {pins:List (Addr × Obj)} {σ:St} {H:Hp} {s:Shared} {a:Addr} (I:Inv X pins σ H s) (d:IsD H a) :
  s.TypeIs (.ref a) "dict" /\ (∀ b,Value.ref a=.ref b->∃ ob,s.heap.get? b=some ob/\ob.dict=none)/\(a == sysModules)=false:=by
 rcases d with ⟨kvs,e⟩ | ⟨kvs,e⟩
 ·obtain ⟨_,hd,vs,_,dd⟩:=dk_rd I.hok e
  refine ⟨dd.typeIs,fun b q=>?_,hd⟩
  cases q
  obtain ⟨ob,_,_,h1,h2,_⟩:=dd
  exact ⟨ob,h1,h2.2.1⟩
 ·obtain ⟨_,hd,xs,_,dd⟩:=dt_rd I.hok e
  refine ⟨dd.typeIs,fun b q=>?_,hd⟩
  cases q
  obtain ⟨ob,_,_,h1,h2,_⟩:=dd
  exact ⟨ob,h1,h2.2.1⟩
section
variable {X:Cx} {pins:List (Addr × Obj)} {σ:St} {H:Hp} {s:Shared} {a:Addr} {y d:V} {u r:Value} {o:Option V} {A:Around} {E:Value->Shared->Prop}
theorem d_get2 {Q:Value->Shared->Prop} (hu:A.units+1 < cLine) (I:Inv X pins σ H s) (g:DGet H a y o) (ry:RelV y u) (rd:RelV d r) (h:∀ w' s',Inv X pins σ H s'->RelV (o.getD d) w'->Q w' s') :
  wpAny (model X.prog X.w) A (call (.builtin "dict.get") [.ref a,u,r]) Q E s:=by
 rcases g with ⟨kvs,k,e,ey,l⟩ | ⟨kvs,k,b,e,ey,eb,l⟩
 ·subst ey
  obtain ⟨z,hd,vs,rel,dd⟩:=dk_rd I.hok e
  refine call_meetsIn PySem.F.slot_dict_get dd.typeIs PySem.F.entry_dict_get (PySem.F.args_dict_get_3 _ _ _) (meets_dict_get_default (mixKind X.prog X.w) a (kV_is ry) hd r) ⟨_,dd.mapOf,h _ _ (I.tok _) ?_⟩
  rw [l]
  exact (rel.val k).getD rd
 ·subst ey
  cases (show u=Value.ref b from ry)
  obtain ⟨z,hd,xs,rel,dd⟩:=dt_rd I.hok e
  refine call_meetsIn PySem.F.slot_dict_get dd.typeIs PySem.F.entry_dict_get (PySem.F.args_dict_get_3 _ _ _) (meetsH_dict_get_default (tupleKind (mixKind X.prog X.w)) a b hd r) ⟨tupleKind_room_in1 hu,k,xs,key_of I.hok eb,dd,h _ _ (I.tok _) ?_⟩
  rw [l]
  exact (rel.val k).getD rd
end
def tDGet2 (td ty tx:TE):TE:=fun σ H Q=>td σ H fun x H1=>∃ a,x=.ref a/\IsD H1 a/\ty σ H1 fun y H2=>tx σ H2 fun z H3=>∃ o,DGet H3 a y o/\Q (o.getD z) H3
section
variable {X:Cx} {o e f:Expr} {apos cpos:Pos} {td ty tx:TE}
theorem pe_dget2 (hu:X.A.units+1 < cLine) (ho:PE X o td) (he:PE X e ty) (hf:PE X f tx) (m:M2 X o "get" apos e f cpos):PE X (.Call (.Attribute o "get" apos) [e,f] [] cpos) (tDGet2 td ty tx):=by
 intro pins s σ H Q I h
 refine wpAny_Call_method m.base m.few m.line PySem.F.plainAttrs_dict PySem.F.slot_dict_get PySem.F.type_dict_get (thn (ho pins s σ H _ I h) fun u s1 ⟨x,H1,I1,rx,a,ex,d,q1⟩=>?_)
 subst ex
 obtain rfl:u=Value.ref a:=rx
 obtain ⟨t1,t2,_⟩:=isD_at I1 d
 refine ⟨t1,t2,?_⟩
 rw [m.trees]
 refine Calls.callWith_builtin rfl (Calls.evalArgs_plain (Calls.spliced_cons (thn (he pins s1 σ H1 _ I1 q1) fun iv s2 ⟨y,H2,I2,ry,q2⟩ =>
  Calls.spliced_cons (thn (hf pins s2 σ H2 _ I2 q2) fun fv s3 ⟨z,H3,I3,rz,ov,g,q3⟩=>Calls.spliced_nil ?_))))
 exact d_get2 hu I3 g ry rz fun w' s4 I4 rw'=>⟨_,H3,I4,rw',q3⟩
end
section
variable {X:Cx} {pins:List (Addr × Obj)} {σ:St} {H:Hp} {s:Shared} {a:Addr} {kvs:List (Key × V)} {A:Around} {E:Value->Shared->Prop}
theorem d_copyOf {Q:Value->Shared->Prop} (I:Inv X pins σ H s) (e:Rd H a (.dK kvs)) (h:∀ p s',H p=none->Inv X pins σ (upd H p (.dK kvs)) s'->Q (.ref p) s'):wpAny (model X.prog X.w) A (call (.type "dict") [.ref a]) Q E s:=by
 obtain ⟨z,hd,vs,rel,dd⟩:=dk_rd I.hok e
 refine kt_call_dict hd dd (by rw [<- rel.length];exact z) fun h' dd' hs=>?_
 refine h _ _ (I.hok.fresh (Nat.le_refl _)) (I.laid (a:=s.heap.objs.size) (o:=.dK kvs) (t':=s.toks) (fun b q hq=>?_) (Nat.le_refl _) (dk_new z (beq_eq_false_iff_ne.mpr (Ne.symm (Nat.ne_of_lt I.big))) rel dd'))
 exact (hs.2 b (Nat.ne_of_lt (Heap.lt_size hq))).trans (Heap.get?_push_of_some _ hq)
end
section
variable {X:Cx} {pins:List (Addr × Obj)} {σ:St} {H:Hp} {s:Shared} {a:Addr} {y:V} {u:Value} {A:Around} {E:Value->Shared->Prop}
end
end L2
set_option maxHeartbeats 4000000
namespace D3
open PySem PySem.Spec PyProof.Rows L2
abbrev St:=L2.St
inductive D where
 | non | bl (b:Bool) | int (i:Int) | str (x:Str) | ty (n:String) | tup (ds:List D) | ref (a:Addr)
mutual
def Is (H:Hp):D->V->Prop
 | .non,v=>v=.non
 | .bl b,v=>v=.bl b
 | .int i,v=>v=.int i
 | .str x,v=>v=.str x
 | .ty n,v=>v=.ty n
 | .tup ds,v=>∃ a xs,v=.ref a/\H a=some (.tup xs)/\IsL H ds xs
 | .ref a,v=>v=.ref a
def IsL (H:Hp):List D->List V->Prop
 | [],xs=>xs=[]
 | d :: ds,xs=>∃ x r,xs=x :: r/\Is H d x/\IsL H ds r
end
def Grow (H H':Hp):Prop:=∀ b xs,H b=some (.tup xs)->H' b=some (.tup xs)
theorem Grow.refl (H:Hp):Grow H H:=fun _ _ h=>h
theorem Grow.trans {H H1 H2:Hp} (a:Grow H H1) (b:Grow H1 H2):Grow H H2:=fun c o h=>b c o (a c o h)
theorem grow_upd {H:Hp} {p:Addr} {o:HO} (h:∀ xs,H p≠some (.tup xs)):Grow H (upd H p o):=fun b xs e=>by
 have:b≠p:=by intro z;subst z;exact h xs e
 rw [upd_ne this];exact e
theorem grow_new {H:Hp} {p:Addr} {o:HO} (h:H p=none):Grow H (upd H p o):=grow_upd (by intro xs e;rw [h] at e;cases e)
mutual
theorem Is.grow {H H':Hp} (g:Grow H H'):∀ (d:D) (v:V),Is H d v->Is H' d v
 | .non,_,h=>by unfold Is at h ⊢;exact h
 | .bl _,_,h=>by unfold Is at h ⊢;exact h
 | .int _,_,h=>by unfold Is at h ⊢;exact h
 | .str _,_,h=>by unfold Is at h ⊢;exact h
 | .ty _,_,h=>by unfold Is at h ⊢;exact h
 | .ref _,_,h=>by unfold Is at h ⊢;exact h
 | .tup ds,v,h=>by
  unfold Is at h ⊢
  obtain ⟨a,xs,e,h1,h2⟩:=h
  exact ⟨a,xs,e,g _ _ h1,IsL.grow g ds xs h2⟩
theorem IsL.grow {H H':Hp} (g:Grow H H'):∀ (ds:List D) (vs:List V),IsL H ds vs->IsL H' ds vs
 | [],_,h=>by unfold IsL at h ⊢;exact h
 | d :: ds,vs,h=>by
  unfold IsL at h ⊢
  obtain ⟨x,r,e,h1,h2⟩:=h
  exact ⟨x,r,e,Is.grow g d x h1,IsL.grow g ds r h2⟩
end
theorem is_non {H:Hp} {v:V}:Is H .non v ↔ v=.non:=by unfold Is;exact Iff.rfl
theorem is_bl {H:Hp} {v:V} {b:Bool}:Is H (.bl b) v ↔ v=.bl b:=by unfold Is;exact Iff.rfl
theorem is_int {H:Hp} {v:V} {i:Int}:Is H (.int i) v ↔ v=.int i:=by unfold Is;exact Iff.rfl
theorem is_str {H:Hp} {v:V} {x:Str}:Is H (.str x) v ↔ v=.str x:=by unfold Is;exact Iff.rfl
theorem is_ty {H:Hp} {v:V} {x:String}:Is H (.ty x) v ↔ v=.ty x:=by unfold Is;exact Iff.rfl
theorem is_ref {H:Hp} {v:V} {a:Addr}:Is H (.ref a) v ↔ v=.ref a:=by unfold Is;exact Iff.rfl
theorem is_tup {H:Hp} {v:V} {ds:List D}:Is H (.tup ds) v ↔ ∃ a xs,v=.ref a/\H a=some (.tup xs)/\IsL H ds xs:=by
 constructor
 ·intro h;unfold Is at h;exact h
 ·intro h;unfold Is;exact h
theorem isl_nil {H:Hp} {vs:List V}:IsL H [] vs ↔ vs=[]:=by unfold IsL;exact Iff.rfl
theorem isl_cons {H:Hp} {vs:List V} {d:D} {ds:List D}:IsL H (d :: ds) vs ↔ ∃ x r,vs=x :: r/\Is H d x/\IsL H ds r:=by
 constructor
 ·intro h;unfold IsL at h;exact h
 ·intro h;unfold IsL;exact h
theorem IsL.len {H:Hp}:∀ {ds:List D} {vs:List V},IsL H ds vs->ds.length=vs.length
 | [],vs,h=>by rw [isl_nil] at h;rw [h];rfl
 | d :: ds,vs,h=>by
  rw [isl_cons] at h
  obtain ⟨x,r,e,_,h2⟩:=h
  rw [e,List.length_cons,List.length_cons,IsL.len h2]
theorem IsL.get {H:Hp}:∀ {ds:List D} {vs:List V} {i:Nat} {d:D},IsL H ds vs->ds[i]?=some d->∃ v,vs[i]?=some v/\Is H d v
 | [],vs,i,d,_,e=>by simp at e
 | d' :: ds,vs,0,d,h,e=>by
  rw [isl_cons] at h
  obtain ⟨x,r,e1,h1,_⟩:=h
  simp at e;subst e;subst e1
  exact ⟨x,rfl,h1⟩
 | d' :: ds,vs,i+1,d,h,e=>by
  rw [isl_cons] at h
  obtain ⟨x,r,e1,_,h2⟩:=h
  subst e1
  obtain ⟨v,e2,h3⟩:=IsL.get (i:=i) h2 (by simpa using e)
  exact ⟨v,by simpa using e2,h3⟩
theorem IsL.get' {H:Hp}:∀ {ds:List D} {vs:List V} {i:Nat} {v:V},IsL H ds vs->vs[i]?=some v->∃ d,ds[i]?=some d/\Is H d v
 | [],vs,i,d,h,e=>by rw [isl_nil] at h;subst h;simp at e
 | d' :: ds,vs,0,v,h,e=>by
  rw [isl_cons] at h
  obtain ⟨x,r,e1,h1,_⟩:=h
  subst e1;simp at e;subst e
  exact ⟨d',rfl,h1⟩
 | d' :: ds,vs,i+1,v,h,e=>by
  rw [isl_cons] at h
  obtain ⟨x,r,e1,_,h2⟩:=h
  subst e1
  obtain ⟨d,e2,h3⟩:=IsL.get' (i:=i) h2 (by simpa using e)
  exact ⟨d,by simpa using e2,h3⟩
theorem IsL.app {H:Hp}:∀ {ds es:List D} {vs us:List V},IsL H ds vs->IsL H es us->IsL H (ds++es) (vs++us)
 | [],es,vs,us,h,k=>by rw [isl_nil] at h;subst h;exact k
 | d :: ds,es,vs,us,h,k=>by
  rw [isl_cons] at h
  obtain ⟨x,r,e,h1,h2⟩:=h
  subst e
  show IsL H (d :: (ds++es)) (x :: (r++us))
  rw [isl_cons]
  exact ⟨x,r++us,rfl,h1,h2.app k⟩
theorem IsL.take {H:Hp}:∀ {ds:List D} {vs:List V} (n:Nat),IsL H ds vs->IsL H (ds.take n) (vs.take n)
 | _,_,0,_=>by rw [List.take_zero,List.take_zero,isl_nil]
 | [],vs,n+1,h=>by rw [isl_nil] at h;subst h;rw [List.take_nil,List.take_nil,isl_nil]
 | d :: ds,vs,n+1,h=>by
  rw [isl_cons] at h
  obtain ⟨x,r,e,h1,h2⟩:=h
  subst e
  rw [List.take_succ_cons,List.take_succ_cons,isl_cons]
  exact ⟨x,r.take n,rfl,h1,h2.take n⟩
theorem IsL.drop {H:Hp}:∀ {ds:List D} {vs:List V} (n:Nat),IsL H ds vs->IsL H (ds.drop n) (vs.drop n)
 | _,_,0,h=>h
 | [],vs,n+1,h=>by rw [isl_nil] at h;subst h;rw [List.drop_nil,List.drop_nil,isl_nil]
 | d :: ds,vs,n+1,h=>by
  rw [isl_cons] at h
  obtain ⟨x,r,e,h1,h2⟩:=h
  subst e
  rw [List.drop_succ_cons,List.drop_succ_cons]
  exact h2.drop n
theorem IsL.ints {H:Hp}:∀ {ns:List Int},IsL H (ns.map D.int) (ns.map V.int)
 | []=>by rw [List.map_nil,List.map_nil,isl_nil]
 | n :: ns=>by rw [List.map_cons,List.map_cons,isl_cons];exact ⟨_,_,rfl,is_int.mpr rfl,IsL.ints⟩
inductive MO where
 | lst (ds:List D) | ro (ds:List D) | dic (kvs:List (Str × D))
 | exc (C:Addr) (dd:Option Addr) (fresh:Bool) | att (fs:List (Str × D))
 | rod (o:Obj) (kvs:List (Str × D))
 | raw (φ:Heap->Prop)
 | tkd (kvs:List (List Int × D))
 | ins (C:Addr) (fs:List (Str × D))
abbrev MH:=Addr->Option MO
def mset (M:MH) (a:Addr) (o:MO):MH:=fun b=>if b=a then some o else M b
theorem mset_same {M:MH} {a:Addr} {o:MO}:mset M a o a=some o:=by unfold mset;rw [if_pos rfl]
theorem mset_ne {M:MH} {a b:Addr} {o:MO} (h:b≠a):mset M a o b=M b:=by unfold mset;rw [if_neg h]
theorem mset_old {M:MH} {a b:Addr} {o u:MO} (n:M a=none) (h:M b=some u):mset M a o b=some u:=by
 rw [mset_ne];exact h
 intro z;subst z;rw [n] at h;cases h
def KvIs (H:Hp):List (Str × D)->List (Key × V)->Prop
 | [],ys=>ys=[]
 | (k,d) :: r,ys=>∃ v ys',ys=(Sum.inr k,v) :: ys'/\Is H d v/\KvIs H r ys'
def ExcO (a C:Addr) (dd:Option Addr) (fresh:Bool) (h:Heap):Prop :=
 ∃ o vs,h.get? a=some o/\o.cls=.ref C/\o.dict=dd/\o.data=.fields vs/\(fresh=true->o.slots=#[]/\∃ t,vs=#[.ref t,.none,.none,.none,.bool false,.none])
def FsIs (H:Hp):List (Str × D)->List (Str × V)->Prop
 | [],ys=>ys=[]
 | (k,d) :: r,ys=>∃ v ys',ys=(k,v) :: ys'/\Is H d v/\FsIs H r ys'
def TkIs (H:Hp):List (List Int × D)->List (List Key × V)->Prop
 | [],ys=>ys=[]
 | (k,d) :: r,ys=>∃ v ys',ys=(k.map Sum.inl,v) :: ys'/\Is H d v/\TkIs H r ys'
theorem TkIs.grow {H H':Hp} (g:Grow H H'):∀ {fs:List (List Int × D)} {ys:List (List Key × V)},TkIs H fs ys->TkIs H' fs ys
 | [],ys,h=>h
 | (k,d) :: r,ys,h=>by
  obtain ⟨v,ys',e,h1,h2⟩:=h
  exact ⟨v,ys',e,Is.grow g _ _ h1,TkIs.grow g h2⟩
def IsM (K:PySem.W.Frag) (H:Hp) (a:Addr):MO->Prop
 | .lst ds=>∃ xs,H a=some (.lst xs)/\IsL H ds xs
 | .ro ds=>∃ xs,SqL K H a xs/\IsL H ds xs
 | .dic kvs=>∃ ys,H a=some (.dK ys)/\KvIs H kvs ys
 | .exc C dd fr=>H a=some (.ext (ExcO a C dd fr))
 | .att fs=>∃ ys,H a=some (.xd ys)/\FsIs H fs ys
 | .rod o kvs=>∃ ys,H a=some (.frz o (.dK ys))/\KvIs H kvs ys
 | .raw φ=>H a=some (.ext φ)
 | .tkd kvs=>∃ ys,H a=some (.dT ys)/\TkIs H kvs ys
 | .ins C fs=>∃ dx ys,H a=some (.ins C dx ys)/\FsIs H fs ys
theorem FsIs.grow {H H':Hp} (g:Grow H H'):∀ {fs:List (Str × D)} {ys:List (Str × V)},FsIs H fs ys->FsIs H' fs ys
 | [],ys,h=>h
 | (k,d) :: r,ys,h=>by
  obtain ⟨v,ys',e,h1,h2⟩:=h
  exact ⟨v,ys',e,Is.grow g _ _ h1,FsIs.grow g h2⟩
theorem KvIs.grow {H H':Hp} (g:Grow H H'):∀ {kvs:List (Str × D)} {ys:List (Key × V)},KvIs H kvs ys->KvIs H' kvs ys
 | [],ys,h=>h
 | (k,d) :: r,ys,h=>by
  obtain ⟨v,ys',e,h1,h2⟩:=h
  exact ⟨v,ys',e,Is.grow g _ _ h1,KvIs.grow g h2⟩
def MemOk (K:PySem.W.Frag) (M:MH) (H:Hp):Prop:=∀ a o,M a=some o->IsM K H a o
def KF (K:PySem.W.Frag) (H:Hp):Prop:=∀ a o,K.lookup a=some o->H a=none
theorem IsM.there {K:PySem.W.Frag} {H:Hp} {a:Addr} {o:MO} (h:IsM K H a o):(∃ u,H a=some u)\/∃ u,K.lookup a=some u:=by
 cases o with
 | lst ds=>obtain ⟨xs,e,_⟩:=h;exact .inl ⟨_,e⟩
 | dic kvs=>obtain ⟨xs,e,_⟩:=h;exact .inl ⟨_,e⟩
 | att fs=>obtain ⟨xs,e,_⟩:=h;exact .inl ⟨_,e⟩
 | rod o kvs=>obtain ⟨xs,e,_⟩:=h;exact .inl ⟨_,e⟩
 | exc C dd fr=>exact .inl ⟨_,h⟩
 | raw φ=>exact .inl ⟨_,h⟩
 | tkd kvs=>obtain ⟨xs,e,_⟩:=h;exact .inl ⟨_,e⟩
 | ins C fs=>obtain ⟨dx,xs,e,_⟩:=h;exact .inl ⟨_,e⟩
 | ro ds =>
  obtain ⟨xs,e,_⟩:=h
  rcases e with (e | ⟨o,e⟩) | ⟨o,_,_,e,_⟩
  ·exact .inl ⟨_,e⟩
  ·exact .inl ⟨_,e⟩
  ·exact .inr ⟨_,e⟩
theorem MemOk.fresh {K:PySem.W.Frag} {M:MH} {H:Hp} {p:Addr} {o:HO} (m:MemOk K M H) (hp:H p=none) (kf:KF K (upd H p o)):M p=none:=by
 cases e:M p with
 | none=>rfl
 | some u =>
  rcases (m p u e).there with ⟨u,h⟩ | ⟨u,h⟩
  ·rw [hp] at h;cases h
  ·have:=kf p u h
   rw [upd_same] at this;cases this
theorem IsM.stay {K:PySem.W.Frag} {H H':Hp} {a:Addr} {o:MO} (g:Grow H H') (same:∀ u,H a=some u->H' a=some u) (h:IsM K H a o):IsM K H' a o:=by
 cases o with
 | lst ds=>obtain ⟨xs,e,q⟩:=h;exact ⟨xs,same _ e,q.grow g⟩
 | dic kvs=>obtain ⟨xs,e,q⟩:=h;exact ⟨xs,same _ e,q.grow g⟩
 | att fs=>obtain ⟨xs,e,q⟩:=h;exact ⟨xs,same _ e,q.grow g⟩
 | rod o kvs=>obtain ⟨xs,e,q⟩:=h;exact ⟨xs,same _ e,q.grow g⟩
 | exc C dd fr=>exact same _ h
 | raw φ=>exact same _ h
 | tkd kvs=>obtain ⟨xs,e,q⟩:=h;exact ⟨xs,same _ e,q.grow g⟩
 | ins C fs=>obtain ⟨dx,xs,e,q⟩:=h;exact ⟨dx,xs,same _ e,q.grow g⟩
 | ro ds =>
  obtain ⟨xs,e,q⟩:=h
  refine ⟨xs,?_,q.grow g⟩
  rcases e with (e | ⟨o,e⟩) | e
  ·exact .inl (.inl (same _ e))
  ·exact .inl (.inr ⟨o,same _ e⟩)
  ·exact .inr e
theorem MemOk.new {K:PySem.W.Frag} {M:MH} {H:Hp} {p:Addr} {o:HO} (m:MemOk K M H) (hp:H p=none):MemOk K M (upd H p o):=fun a u e =>
 (m a u e).stay (grow_new hp) fun v h=>by rw [upd_ne (ne_of_none h hp)];exact h
theorem MemOk.lay {K:PySem.W.Frag} {M:MH} {H:Hp} {p:Addr} {o:HO} {u:MO} (m:MemOk K M H) (hp:H p=none) (h:IsM K (upd H p o) p u):MemOk K (mset M p u) (upd H p o):=fun a v e=>by
 by_cases z:a=p
 ·subst z;rw [mset_same] at e;cases e;exact h
 ·rw [mset_ne z] at e;exact m.new hp a v e
theorem MemOk.put {K:PySem.W.Frag} {M:MH} {H:Hp} {p:Addr} {o:HO} {u:MO} (m:MemOk K M H) (hp:∀ xs,H p≠some (.tup xs)) (h:IsM K (upd H p o) p u):MemOk K (mset M p u) (upd H p o):=fun a v e=>by
 by_cases z:a=p
 ·subst z;rw [mset_same] at e;cases e;exact h
 ·rw [mset_ne z] at e
  exact (m a v e).stay (grow_upd hp) fun w q=>by rw [upd_ne z];exact q
abbrev Ga:=List (Option D)
abbrev DK:=D->MH->Prop
structure Rel (X:Cx) (G:Ga) (M:MH) (σ:St) (H:Hp):Prop where
 loc:∀ (i:Nat) (d:D),G[i]?=some (some d)->∃ v,σ[i]?=some (some v)/\Is H d v
 mem:MemOk X.K M H
theorem Rel.to {X:Cx} {G:Ga} {M M':MH} {σ:St} {H H':Hp} (R:Rel X G M σ H) (g:Grow H H') (m:MemOk X.K M' H'):Rel X G M' σ H' :=
 ⟨fun i d e=>let ⟨v,e1,h⟩:=R.loc i d e;⟨v,e1,Is.grow g _ _ h⟩,m⟩
theorem Rel.set {X:Cx} {G:Ga} {M:MH} {σ:St} {H:Hp} {i:Nat} {d:D} {v:V} (R:Rel X G M σ H) (hi:i < σ.length) (h:Is H d v):Rel X (G.set i (some d)) M (σ.set i (some v)) H :=
 ⟨fun j e q=>by
  by_cases z:i=j
  ·subst z
   by_cases hG:i < G.length
   ·rw [List.getElem?_set_self hG] at q
    cases q
    exact ⟨v,List.getElem?_set_self hi,h⟩
   ·rw [List.getElem?_eq_none (by rw [List.length_set];omega)] at q;cases q
  ·rw [List.getElem?_set_ne z] at q
   obtain ⟨w,e1,h1⟩:=R.loc j e q
   exact ⟨w,by rw [List.getElem?_set_ne z];exact e1,h1⟩,R.mem⟩
theorem kf_of {X:Cx} {pins:List (Addr × Obj)} {σ:St} {H:Hp} {s:Shared} (I:Inv X pins σ H s):KF X.K H:=fun a o e=>(I.bs a o (I.mod.kin a o e)).2
def EPD (X:Cx) (pins:List (Addr × Obj)) (σ:St) (G:Ga) (H:Hp) (Q:DK) (u:Value) (s':Shared):Prop :=
 ∃ v H' d M',Inv X pins σ H' s'/\RelV v u/\Grow H H'/\Is H' d v/\Rel X G M' σ H'/\Q d M'
def EV (X:Cx) (G:Ga) (M:MH) (e:Expr) (Q:DK):Prop :=
 ∀ (pins:List (Addr × Obj)) (s:Shared) (σ:St) (H:Hp),Inv X pins σ H s->Rel X G M σ H->wpAny (model X.prog X.w) X.A (eval e X.env) (EPD X pins σ G H Q) X.xe s
def TPD (X:Cx) (pins:List (Addr × Obj)) (σ:St) (G:Ga) (H:Hp) (Q:Bool->MH->Prop) (b:Bool) (s':Shared):Prop :=
 ∃ H' M',Inv X pins σ H' s'/\Grow H H'/\Rel X G M' σ H'/\Q b M'
def TV (X:Cx) (G:Ga) (M:MH) (e:Expr) (Q:Bool->MH->Prop):Prop :=
 ∀ (pins:List (Addr × Obj)) (s:Shared) (σ:St) (H:Hp),Inv X pins σ H s->Rel X G M σ H->wpAny (model X.prog X.w) X.A (isTrue e X.env (eval e X.env)) (TPD X pins σ G H Q) X.xe s
def TW (X:Cx) (G:Ga) (M:MH) (e:Expr) (Q:Bool->MH->Prop):Prop :=
 ∀ (whole:Sem Value) (pins:List (Addr × Obj)) (s:Shared) (σ:St) (H:Hp),Inv X pins σ H s->Rel X G M σ H->wpAny (model X.prog X.w) X.A (isTrue e X.env whole) (TPD X pins σ G H Q) X.xe s
theorem TW.tv {X:Cx} {G:Ga} {M:MH} {e:Expr} {Q:Bool->MH->Prop} (h:TW X G M e Q):TV X G M e Q:=h _
def APD (X:Cx) (pins:List (Addr × Obj)) (σ:St) (G:Ga) (H:Hp) (Q:List D->MH->Prop) (us:List Value) (s':Shared):Prop :=
 ∃ vs H' ds M',Inv X pins σ H' s'/\Vals vs us/\Grow H H'/\IsL H' ds vs/\Rel X G M' σ H'/\Q ds M'
def AV (X:Cx) (G:Ga) (M:MH) (es:List Expr) (Q:List D->MH->Prop):Prop :=
 ∀ (pos:Pos) (pins:List (Addr × Obj)) (s:Shared) (σ:St) (H:Hp),Inv X pins σ H s->Rel X G M σ H->wpAny (model X.prog X.w) X.A (spliced (backTo pos (starEach es X.env))) (APD X pins σ G H Q) X.xe s
structure EndsD where
 nx:Ga->MH->Prop
 rt:DK
 bk:Ga->MH->Prop:=fun _ _=>False
 ct:Ga->MH->Prop:=fun _ _=>False
def SPD (X:Cx) (pins:List (Addr × Obj)) (H:Hp) (E:EndsD) (f:Flow) (s':Shared):Prop :=
 match f with
 | .next=>∃ σ' H' G' M',Inv X pins σ' H' s'/\Grow H H'/\Rel X G' M' σ' H'/\E.nx G' M'
 | .brk=>∃ σ' H' G' M',Inv X pins σ' H' s'/\Grow H H'/\Rel X G' M' σ' H'/\E.bk G' M'
 | .cont=>∃ σ' H' G' M',Inv X pins σ' H' s'/\Grow H H'/\Rel X G' M' σ' H'/\E.ct G' M'
 | .ret u=>∃ v σ' H' d M',Inv X pins σ' H' s'/\RelV v u/\Grow H H'/\Is H' d v/\MemOk X.K M' H'/\E.rt d M'
def EX (X:Cx) (G:Ga) (M:MH) (st:Stmt) (E:EndsD):Prop :=
 ∀ (pins:List (Addr × Obj)) (s:Shared) (σ:St) (H:Hp),Inv X pins σ H s->Rel X G M σ H->wpAny (model X.prog X.w) X.A (exec st X.env) (SPD X pins H E) X.xe s
def EXs (X:Cx) (G:Ga) (M:MH) (st:List Stmt) (E:EndsD):Prop :=
 ∀ (pins:List (Addr × Obj)) (s:Shared) (σ:St) (H:Hp),Inv X pins σ H s->Rel X G M σ H->wpAny (model X.prog X.w) X.A (execs st X.env) (SPD X pins H E) X.xe s
theorem EPD.grow {X:Cx} {pins:List (Addr × Obj)} {σ:St} {G:Ga} {H0 H:Hp} {Q:DK} {u:Value} {s':Shared} (g:Grow H0 H) (h:EPD X pins σ G H Q u s'):EPD X pins σ G H0 Q u s' :=
 let ⟨v,H',d,M',I,r,g',i,R,q⟩:=h;⟨v,H',d,M',I,r,g.trans g',i,R,q⟩
theorem TPD.grow {X:Cx} {pins:List (Addr × Obj)} {σ:St} {G:Ga} {H0 H:Hp} {Q:Bool->MH->Prop} {u:Bool} {s':Shared} (g:Grow H0 H) (h:TPD X pins σ G H Q u s'):TPD X pins σ G H0 Q u s' :=
 let ⟨H',M',I,g',R,q⟩:=h;⟨H',M',I,g.trans g',R,q⟩
theorem SPD.grow {X:Cx} {pins:List (Addr × Obj)} {H0 H:Hp} {E:EndsD} {f:Flow} {s':Shared} (g:Grow H0 H) (h:SPD X pins H E f s'):SPD X pins H0 E f s':=by
 cases f with
 | next=>obtain ⟨σ',H',G',M',I,g',R,q⟩:=h;exact ⟨σ',H',G',M',I,g.trans g',R,q⟩
 | brk=>obtain ⟨σ',H',G',M',I,g',R,q⟩:=h;exact ⟨σ',H',G',M',I,g.trans g',R,q⟩
 | cont=>obtain ⟨σ',H',G',M',I,g',R,q⟩:=h;exact ⟨σ',H',G',M',I,g.trans g',R,q⟩
 | ret u=>obtain ⟨v,σ',H',d,M',I,r,g',i,R,q⟩:=h;exact ⟨v,σ',H',d,M',I,r,g.trans g',i,R,q⟩
section
variable {X:Cx} {G:Ga} {M:MH} {a b c e:Expr} {es rest:List Expr} {pos:Pos} {Q:DK}
theorem EV.mono {Q':DK} (h:EV X G M e Q) (k:∀ d M',Q d M'->Q' d M'):EV X G M e Q':=fun pins s σ H I R =>
 thn (h pins s σ H I R) fun u s' ⟨v,H',d,M',I',r,g,i,R',q⟩=>⟨v,H',d,M',I',r,g,i,R',k _ _ q⟩
theorem EV.of {t:TE} (h:PE X e t) (k:∀ σ H,KF X.K H->Rel X G M σ H->t σ H fun v H'=>KF X.K H'->Grow H H'/\∃ d M',Is H' d v/\MemOk X.K M' H'/\Q d M'):EV X G M e Q:=fun pins s σ H I R =>
 thn (h pins s σ H _ I (k σ H (kf_of I) R)) fun u s' ⟨v,H',I',r,q⟩ =>
  let ⟨g,d,M',i,m,q⟩:=q (kf_of I')
  ⟨v,H',d,M',I',r,g,i,R.to g m,q⟩
theorem ev_var (i:Nat) {d:D} {x:Str} (q:Q d M) (hN:X.N[i]?=some x:=by rfl) (hG:G[i]?=some (some d):=by rfl) (hv:Vis X.env.scope x:=by first | exact Or.inl rfl | exact Or.inr (Or.inl rfl) | exact Or.inr (Or.inr rfl))
  (hd:(x == ("__debug__" : Str))=false:=by decide) (hcd:(x == ("__classdict__" : Str))=false:=by decide):EV X G M (.Name x pos) Q :=
 EV.of (pe_var hN hv hd hcd) fun σ H kf R=>let ⟨v,e1,h⟩:=R.loc i d hG;⟨v,e1,fun _=>⟨Grow.refl _,d,M,h,R.mem,q⟩⟩
theorem ev_int {i:Int} {j} (q:Q (.int i) M):EV X G M (.Constant (.int i) j pos) Q:=EV.of pe_int fun σ H kf R=>show _ from fun _=>⟨Grow.refl _,_,M,is_int.mpr rfl,R.mem,q⟩
theorem ev_bl {i:Bool} {j} (q:Q (.bl i) M):EV X G M (.Constant (.bool i) j pos) Q:=EV.of pe_bl fun σ H kf R=>show _ from fun _=>⟨Grow.refl _,_,M,is_bl.mpr rfl,R.mem,q⟩
theorem ev_non {j} (q:Q .non M):EV X G M (.Constant .none j pos) Q:=EV.of pe_non fun σ H kf R=>show _ from fun _=>⟨Grow.refl _,_,M,is_non.mpr rfl,R.mem,q⟩
theorem ev_str {x} {j} (q:Q (.str x) M):EV X G M (.Constant (.str x) j pos) Q:=EV.of pe_str fun σ H kf R=>show _ from fun _=>⟨Grow.refl _,_,M,is_str.mpr rfl,R.mem,q⟩
theorem ev_gint {x:Str} {i:Int} {t:Tok} (hm:X.mg x=some (.int i t)) (q:Q (.int i) M) (hg:Gl X x:=by rfl) (hd:(x == ("__debug__" : Str))=false:=by decide):EV X G M (.Name x pos) Q :=
 EV.of (pe_glob (v:=.int i) hg hm ⟨_,rfl⟩ hd) fun σ H kf R=>show _ from fun _=>⟨Grow.refl _,_,M,is_int.mpr rfl,R.mem,q⟩
theorem ev_gty {x:Str} {n:String} (hm:X.mg x=none) (hv:bootBuiltins x=some (.type n)) (q:Q (.ty n) M) (hg:Gl X x:=by rfl) (hn:x ≠ "__name__" := by decide) (hd:(x == ("__debug__" : Str))=false:=by decide):EV X G M (.Name x pos) Q :=
 EV.of (pe_bltn (v:=.ty n) hg hm hv rfl hn hd) fun σ H kf R=>show _ from fun _=>⟨Grow.refl _,_,M,is_ty.mpr rfl,R.mem,q⟩
abbrev RDP (K:PySem.W.Frag) (H:Hp) (Q:DK):VK:=fun v H'=>KF K H'->Grow H H'/\∃ d M',Is H' d v/\MemOk K M' H'/\Q d M'
def RD (K:PySem.W.Frag) (r:R2) (da db:D) (M:MH) (Q:DK):Prop:=∀ H x y,KF K H->Is H da x->Is H db y->MemOk K M H->r x y H (RDP K H Q)
def RU (K:PySem.W.Frag) (r:V->Hp->VK->Prop) (da:D) (M:MH) (Q:DK):Prop:=∀ H x,KF K H->Is H da x->MemOk K M H->r x H (RDP K H Q)
def RC (K:PySem.W.Frag) (r:List V->Hp->VK->Prop) (ds:List D) (M:MH) (Q:DK):Prop:=∀ H xs,KF K H->IsL H ds xs->MemOk K M H->r xs H (RDP K H Q)
theorem rd_fin {pins:List (Addr × Obj)} {σ:St} {H0 H:Hp} {u:Value} {s':Shared} (g0:Grow H0 H) {M0:MH} (R:Rel X G M0 σ H) (h:EP X pins σ (RDP X.K H Q) u s'):EPD X pins σ G H0 Q u s' :=
 let ⟨v,H',I',r,q⟩:=h
 let ⟨g,d,M',i,m,q⟩:=q (kf_of I')
 ⟨v,H',d,M',I',r,g0.trans g,i,R.to g m,q⟩
theorem ev2 {f:Value->Value->Sem Value} {r:R2} (ho:OpR X f r) (h:EV X G M a fun da Ma=>EV X G Ma b fun db Mb=>RD X.K r da db Mb Q)
  {pins:List (Addr × Obj)} {s:Shared} {σ:St} {H:Hp} (I:Inv X pins σ H s) (R:Rel X G M σ H) :
  wpAny (model X.prog X.w) X.A (eval a X.env) (fun v s1=>wpAny (model X.prog X.w) X.A (eval b X.env) (fun u s2=>wpAny (model X.prog X.w) X.A (f v u) (EPD X pins σ G H Q) X.xe s2) X.xe s1) X.xe s:=by
 refine thn (h pins s σ H I R) fun v s1 ⟨x,H1,da,Ma,I1,r1,g1,i1,R1,q1⟩=>?_
 refine thn (q1 pins s1 σ H1 I1 R1) fun u s2 ⟨y,H2,db,Mb,I2,r2,g2,i2,R2,q2⟩=>?_
 exact thn (ho pins s2 σ H2 x y v u _ I2 r1 r2 (q2 H2 x y (kf_of I2) (Is.grow g2 _ _ i1) i2 R2.mem)) fun w s3 h3=>rd_fin (g1.trans g2) R2 h3
theorem ev_op {op:Operator} {r:R2} (ho:OpR X (binaryOp op) r) (h:EV X G M a fun da Ma=>EV X G Ma b fun db Mb=>RD X.K r da db Mb Q):EV X G M (.BinOp a op b pos) Q :=
 fun pins s σ H I R=>wpAny_BinOp (ev2 ho h I R)
theorem ev_un {op:UnaryOp} {r:V->Hp->VK->Prop} (ho:UnR X (unaryOp op) r) (h:EV X G M a fun da Ma=>RU X.K r da Ma Q):EV X G M (.UnaryOp op a pos) Q :=
 fun pins s σ H I R=>UnaryOp_ (thn (h pins s σ H I R) fun v s1 ⟨x,H1,da,Ma,I1,r1,g1,i1,R1,q1⟩ =>
  thn (ho pins s1 σ H1 x v _ I1 r1 (q1 H1 x (kf_of I1) i1 R1.mem)) fun w s3 h3=>rd_fin g1 R1 h3)
theorem ev_cmp {op:CmpOp} {r:R2} (ho:OpR X (compareOp op) r) (hm:behindInMarks op b=false) (h:EV X G M a fun da Ma=>EV X G Ma b fun db Mb=>RD X.K r da db Mb Q):EV X G M (.Compare a [op] [b] pos) Q :=
 fun pins s σ H I R=>wpAny_Compare1 (ev2 ho h I R) hm
theorem tv_cmp {op:CmpOp} {r:R2} {Qb:Bool->MH->Prop} (ho:OpR X (compareOp op) r) (hm:behindInMarks op b=false)
  (h:EV X G M a fun da Ma=>EV X G Ma b fun db Mb=>RD X.K r da db Mb fun d M'=>∃ k,d=.bl k/\Qb k M'):TV X G M (.Compare a [op] [b] pos) Qb:=by
 intro pins s σ H I R
 refine wpAny_isTrue_Compare1 (thn (ev2 ho h I R) fun v s1 h1=>thn h1 fun u s2 h2=>thn h2 fun w s3 ⟨z,H3,d,M3,I3,r3,g3,i3,R3,k,e,q⟩=>?_) hm
 subst e
 rw [is_bl] at i3;subst i3
 cases r3
 exact wpAny_truthy_bool ⟨H3,M3,I3,g3,R3,q⟩
def TruD (K:PySem.W.Frag) (d:D) (M:MH) (k:Bool):Prop:=match d with
 | .non=>k=false
 | .bl b=>k=b
 | .int i=>k=(i != 0)
 | .tup ds=>k=!ds.isEmpty
 | .ref a=>(∃ ds,M a=some (.lst ds)/\k=!ds.isEmpty)\/(∃ ds,M a=some (.ro ds)/\k=!ds.isEmpty)
 | _=>False
theorem IsL.empty {H:Hp} {ds:List D} {vs:List V} (h:IsL H ds vs):ds.isEmpty=vs.isEmpty:=by
 cases ds with
 | nil=>rw [isl_nil] at h;subst h;rfl
 | cons d r=>rw [isl_cons] at h;obtain ⟨_,_,e,_⟩:=h;subst e;rfl
theorem tru_of {K:PySem.W.Frag} {H:Hp} {d:D} {M:MH} {v:V} {k:Bool} (m:MemOk K M H) (i:Is H d v) (t:TruD K d M k):TruV K v H k:=by
 cases d with
 | non=>rw [is_non] at i;subst i;exact t
 | bl b=>rw [is_bl] at i;subst i;exact t
 | int b=>rw [is_int] at i;subst i;exact t
 | tup ds =>
  rw [is_tup] at i
  obtain ⟨a,xs,rfl,h1,h2⟩:=i
  exact .inr (.inl ⟨xs,SqT.of h1,by rw [<- h2.empty];exact t⟩)
 | ref a =>
  rw [is_ref] at i;subst i
  rcases t with ⟨ds,h,e⟩ | ⟨ds,h,e⟩
  ·obtain ⟨xs,h1,h2⟩:=m a _ h
   exact .inl ⟨xs,SqL.of h1,by rw [<- h2.empty];exact e⟩
  ·obtain ⟨xs,h1,h2⟩:=m a _ h
   exact .inl ⟨xs,h1,by rw [<- h2.empty];exact e⟩
 | str x=>exact t.elim
 | ty x=>exact t.elim
theorem tv_of {Qb:Bool->MH->Prop} (h:EV X G M e fun d M'=>∃ k,TruD X.K d M' k/\Qb k M') (he:∀ whole,isTrue e X.env whole=(do let v <- whole;standAt e.pos;holding [v] (truthy v)):=by intro _;rfl):TV X G M e Qb:=by
 intro pins s σ H I R
 refine isTrue_plain (thn (h pins s σ H I R) fun v s1 ⟨x,H1,d,M1,I1,r1,g1,i1,R1,k,t,q⟩=>?_) (he _)
 exact thn (tru_ok pins s1 σ H1 x v (fun b H'=>b=k/\H'=H1) I1 r1 ⟨k,tru_of R1.mem i1 t,rfl,rfl⟩) fun b s2 ⟨H2,I2,e1,e2⟩=>by
  subst e1;subst e2
  exact ⟨H2,M1,I2,g1,R1,q⟩
theorem tv_not {Qb:Bool->MH->Prop} (h:TV X G M a fun k M'=>Qb (!k) M'):TV X G M (.UnaryOp .Not a pos) Qb:=by
 intro pins s σ H I R
 exact isTrue_not (thn (h pins s σ H I R) fun b s1 h1=>h1)
theorem tw_and1 {Qb:Bool->MH->Prop} (h:TV X G M a Qb):TW X G M (.BoolOp .And [a] pos) Qb:=by
 intro wh pins s σ H I R
 refine isTrue_and (thn (h pins s σ H I R) fun c s1 e=>?_)
 cases c with
 | true=>exact isTrue_and_nil e
 | false=>exact e
theorem tw_or1 {Qb:Bool->MH->Prop} (h:TV X G M a Qb):TW X G M (.BoolOp .Or [a] pos) Qb:=by
 intro wh pins s σ H I R
 refine isTrue_or (thn (h pins s σ H I R) fun c s1 e=>?_)
 cases c with
 | false=>exact isTrue_or_nil e
 | true=>exact e
theorem tw_and {Qb:Bool->MH->Prop} (h:TV X G M a fun k M1=>if k=true then TW X G M1 (.BoolOp .And (b :: rest) pos) Qb else Qb false M1):TW X G M (.BoolOp .And (a :: b :: rest) pos) Qb:=by
 intro wh pins s σ H I R
 refine isTrue_and (thn (h pins s σ H I R) fun c s1 ⟨H1,M1,I1,g1,R1,q1⟩=>?_)
 cases c with
 | true=>exact thn (q1 wh pins s1 σ H1 I1 R1) fun b s2 h2=>h2.grow g1
 | false=>exact ⟨H1,M1,I1,g1,R1,q1⟩
theorem tw_or {Qb:Bool->MH->Prop} (h:TV X G M a fun k M1=>if k=true then Qb true M1 else TW X G M1 (.BoolOp .Or (b :: rest) pos) Qb):TW X G M (.BoolOp .Or (a :: b :: rest) pos) Qb:=by
 intro wh pins s σ H I R
 refine isTrue_or (thn (h pins s σ H I R) fun c s1 ⟨H1,M1,I1,g1,R1,q1⟩=>?_)
 cases c with
 | true=>exact ⟨H1,M1,I1,g1,R1,q1⟩
 | false=>exact thn (q1 wh pins s1 σ H1 I1 R1) fun b s2 h2=>h2.grow g1
theorem ev_one {op} (h:EV X G M a Q):EV X G M (.BoolOp op [a] pos) Q:=fun pins s σ H I R=>BoolOp_one (h pins s σ H I R)
theorem ev_and (h:EV X G M a fun d M1=>∃ k,d=.bl k/\if k=true then EV X G M1 (.BoolOp .And (b :: rest) pos) Q else Q (.bl false) M1):EV X G M (.BoolOp .And (a :: b :: rest) pos) Q:=by
 intro pins s σ H I R
 refine BoolOp_and (thn (h pins s σ H I R) fun v s1 ⟨x,H1,d,M1,I1,r1,g1,i1,R1,k,e,q1⟩=>?_)
 subst e
 rw [is_bl] at i1;subst i1
 cases r1
 refine wpAny_truthy_bool ?_
 cases k with
 | true=>exact thn (q1 pins s1 σ H1 I1 R1) fun b s2 h2=>h2.grow g1
 | false=>exact ⟨.bl false,H1,_,M1,I1,rfl,g1,is_bl.mpr rfl,R1,q1⟩
theorem ev_or (h:EV X G M a fun d M1=>∃ k,d=.bl k/\if k=true then Q (.bl true) M1 else EV X G M1 (.BoolOp .Or (b :: rest) pos) Q):EV X G M (.BoolOp .Or (a :: b :: rest) pos) Q:=by
 intro pins s σ H I R
 refine BoolOp_or (thn (h pins s σ H I R) fun v s1 ⟨x,H1,d,M1,I1,r1,g1,i1,R1,k,e,q1⟩=>?_)
 subst e
 rw [is_bl] at i1;subst i1
 cases r1
 refine wpAny_truthy_bool ?_
 cases k with
 | false=>exact thn (q1 pins s1 σ H1 I1 R1) fun b s2 h2=>h2.grow g1
 | true=>exact ⟨.bl true,H1,_,M1,I1,rfl,g1,is_bl.mpr rfl,R1,q1⟩
theorem ev_not (h:EV X G M a fun d M1=>∃ k,d=.bl k/\Q (.bl (!k)) M1):EV X G M (.UnaryOp .Not a pos) Q:=by
 intro pins s σ H I R
 refine UnaryOp_ (thn (h pins s σ H I R) fun v s1 ⟨x,H1,d,M1,I1,r1,g1,i1,R1,k,e,q1⟩=>?_)
 subst e
 rw [is_bl] at i1;subst i1
 cases r1
 exact not_of (wpAny_truthy_bool ⟨.bl (!k),H1,_,M1,I1,rfl,g1,is_bl.mpr rfl,R1,q1⟩)
theorem ev_ifExp (h:TV X G M c fun k M1=>if k=true then EV X G M1 a Q else EV X G M1 b Q):EV X G M (.IfExp c a b pos) Q:=by
 intro pins s σ H I R
 refine wpAny_IfExp (thn (h pins s σ H I R) fun d s1 ⟨H1,M1,I1,g1,R1,q1⟩=>?_)
 cases d with
 | true=>exact thn (q1 pins s1 σ H1 I1 R1) fun b s2 h2=>h2.grow g1
 | false=>exact thn (q1 pins s1 σ H1 I1 R1) fun b s2 h2=>h2.grow g1
theorem av_nil {Qa:List D->MH->Prop} (q:Qa [] M):AV X G M [] Qa:=fun _ pins s σ H I R=>Calls.spliced_nil ⟨[],H,[],M,I,.nil,Grow.refl _,isl_nil.mpr rfl,R,q⟩
theorem av_cons {Qa:List D->MH->Prop} (h:EV X G M e fun d M1=>AV X G M1 es fun ds M2=>Qa (d :: ds) M2) (hs:starEach (e :: es) X.env=(false,eval e X.env) :: starEach es X.env:=by rfl):AV X G M (e :: es) Qa:=by
 intro pos pins s σ H I R
 rw [hs]
 show wpAny _ _ (spliced ((false,eval e X.env) :: backTo pos (starEach es X.env))) _ _ s
 refine Calls.spliced_cons (thn (h pins s σ H I R) fun u s1 ⟨x,H1,d,M1,I1,r1,g1,i1,R1,q1⟩=>?_)
 exact thn (q1 pos pins s1 σ H1 I1 R1) fun us s2 ⟨xs,H2,ds,M2,I2,r2,g2,i2,R2,q2⟩ =>
  ⟨x :: xs,H2,d :: ds,M2,I2,.cons r1 r2,g1.trans g2,isl_cons.mpr ⟨x,xs,rfl,Is.grow g2 _ _ i1,i2⟩,R2,q2⟩
theorem ev_tup {k} (h:AV X G M es fun ds M1=>ds.length<=sizeLine/\Q (.tup ds) M1):EV X G M (.Tuple es k pos) Q:=by
 intro pins s σ H I R
 refine wpAny_Tuple_spliced (thn (h pos pins s σ H I R) fun us s1 ⟨xs,H1,ds,M1,I1,r,g1,i1,R1,z,q⟩=>?_)
 have hl:=i1.len
 refine ⟨by rw [<- r.length,<- hl];exact z,?_⟩
 have hf:H1 s1.heap.objs.size=none:=I1.hok.fresh (Nat.le_refl _)
 refine ⟨.ref s1.heap.objs.size,upd H1 s1.heap.objs.size (.tup xs),.tup ds,M1,I1.laid (t':=s1.toks) (fun b u e=>Heap.get?_push_of_some _ e) (Nat.le_refl _) ⟨⟨by rw [<- hl];exact z,_,Heap.get?_push_size _ rfl,rfl⟩,us,r,⟨_,Heap.get?_push_size _ rfl,rfl,_,rfl⟩⟩,rfl,g1.trans (grow_new hf),?_,R1.to (grow_new hf) (R1.mem.new hf),q⟩
 exact is_tup.mpr ⟨_,xs,rfl,upd_same,i1.grow (grow_new hf)⟩
theorem ev_lst (h:AV X G M es fun ds M1=>ds.length<=sizeLine/\∀ p,M1 p=none->Q (.ref p) (mset M1 p (.lst ds))):EV X G M (.List es pos) Q:=by
 intro pins s σ H I R
 refine wpAny_List_spliced (thn (h pos pins s σ H I R) fun us s1 ⟨xs,H1,ds,M1,I1,r,g1,i1,R1,z,q⟩=>?_)
 have hl:=i1.len
 refine ⟨by rw [<- r.length,<- hl];exact z,?_⟩
 have hf:H1 s1.heap.objs.size=none:=I1.hok.fresh (Nat.le_refl _)
 have I2:=I1.laid (o:=.lst xs) (t':=s1.toks) (h':=s1.heap.push { cls:=.type "list",data:=.seq us.toArray }) (fun b u e=>Heap.get?_push_of_some _ e) (Nat.le_refl _) ⟨by rw [<- hl];exact z,us,0,r,Heap.get?_push_size _ rfl⟩
 refine ⟨.ref s1.heap.objs.size,upd H1 s1.heap.objs.size (.lst xs),.ref s1.heap.objs.size,mset M1 s1.heap.objs.size (.lst ds),I2,rfl,g1.trans (grow_new hf),is_ref.mpr rfl,R1.to (grow_new hf) (R1.mem.lay hf ⟨xs,upd_same,i1.grow (grow_new hf)⟩),q _ (R1.mem.fresh hf (kf_of I2))⟩
theorem ev_ix {r:R2} (hr:IxR X r) (hs:PlainIx b) (h:EV X G M a fun da Ma=>EV X G Ma b fun db Mb=>RD X.K r da db Mb Q):EV X G M (.Subscript a b pos) Q:=by
 intro pins s σ H I R
 refine Subscript_ (thn (h pins s σ H I R) fun v s1 ⟨x,H1,da,Ma,I1,r1,g1,i1,R1,q1⟩=>?_)
 refine thn (q1 pins s1 σ H1 I1 R1) fun u s2 ⟨y,H2,db,Mb,I2,r2,g2,i2,R2,q2⟩=>?_
 exact thn (hr a b pins s2 σ H2 x y v u _ I2 r1 r2 (q2 H2 x y (kf_of I2) (Is.grow g2 _ _ i1) i2 R2.mem) (hs _ _)) fun w s3 h3=>rd_fin (g1.trans g2) R2 h3
def IxD (da:D) (i:Int) (M:MH) (Q:DK):Prop:=match da with
 | .tup ds=>∃ d,atI ds i=some d/\Q d M
 | .ref a=>(∃ ds d,M a=some (.lst ds)/\atI ds i=some d/\Q d M)\/(∃ ds d,M a=some (.ro ds)/\atI ds i=some d/\Q d M)
 | _=>False
theorem atI_is {H:Hp} {ds:List D} {vs:List V} {i:Int} {d:D} (h:IsL H ds vs) (e:atI ds i=some d):∃ v,atI vs i=some v/\Is H d v:=by
 obtain ⟨j,_,h2,_⟩:=atI_get e
 unfold atI at e ⊢
 rw [<- h.len]
 cases q:ixN ds.length i with
 | none=>rw [q] at e;cases e
 | some k =>
  rw [q] at e
  exact h.get (i:=k) e
theorem rd_ix {da:D} {i:Int} (h:IxD da i M Q):RD X.K (rIx X.K) da (.int i) M Q:=by
 intro H x y kf hx hy m
 rw [is_int] at hy;subst hy
 cases da with
 | tup ds =>
  rw [is_tup] at hx
  obtain ⟨a,xs,rfl,h1,h2⟩:=hx
  obtain ⟨d,e,q⟩:=h
  obtain ⟨v,e2,h3⟩:=atI_is h2 e
  exact .inr (.inl ⟨a,xs,i,v,rfl,rfl,SqT.of h1,e2,fun _=>⟨Grow.refl _,d,M,h3,m,q⟩⟩)
 | ref a =>
  rw [is_ref] at hx;subst hx
  rcases h with ⟨ds,d,h1,e,q⟩ | ⟨ds,d,h1,e,q⟩
  ·obtain ⟨xs,h2,h3⟩:=m a _ h1
   obtain ⟨v,e2,h4⟩:=atI_is h3 e
   exact .inl ⟨a,xs,i,v,rfl,rfl,SqL.of h2,e2,fun _=>⟨Grow.refl _,d,M,h4,m,q⟩⟩
  ·obtain ⟨xs,h2,h3⟩:=m a _ h1
   obtain ⟨v,e2,h4⟩:=atI_is h3 e
   exact .inl ⟨a,xs,i,v,rfl,rfl,h2,e2,fun _=>⟨Grow.refl _,d,M,h4,m,q⟩⟩
 | non=>exact h.elim
 | bl _=>exact h.elim
 | int _=>exact h.elim
 | str _=>exact h.elim
 | ty _=>exact h.elim
end
end D3
namespace D3
open PySem PySem.Spec PyProof.Rows L2
section
variable {X:Cx} {G:Ga} {M:MH} {a b c e:Expr} {es rest:List Expr} {pos:Pos} {Q:DK}
def OV (X:Cx) (G:Ga) (M:MH) (e:Option Expr) (Q:Option Int->MH->Prop):Prop :=
 ∀ (pins:List (Addr × Obj)) (s:Shared) (σ:St) (H:Hp),Inv X pins σ H s->Rel X G M σ H ->
  wpAny (model X.prog X.w) X.A (evalPart e X.env) (fun u s'=>∃ o H' M',Inv X pins σ H' s'/\Grow H H'/\IsPart u o/\Rel X G M' σ H'/\Q o M') X.xe s
theorem ov_none {Qo:Option Int->MH->Prop} (q:Qo none M):OV X G M none Qo:=by
 intro pins s σ H I R
 rw [evalPart_none]
 exact wpAny_pure ⟨none,H,M,I,Grow.refl _,.none,R,q⟩
theorem ov_some {Qo:Option Int->MH->Prop} (h:EV X G M e fun d M1=>∃ i,d=.int i/\Qo (some i) M1):OV X G M (some e) Qo:=by
 intro pins s σ H I R
 rw [evalPart_some]
 refine thn (h pins s σ H I R) fun u s1 ⟨x,H1,d,M1,I1,r1,g1,i1,R1,i,e,q⟩=>?_
 subst e
 rw [is_int] at i1;subst i1
 obtain ⟨t,rfl⟩:=r1
 exact ⟨some i,H1,M1,I1,g1,.int i t,R1,q⟩
def cutD (xs:List D) (lo hi:Option Int):List D:=(xs.drop (HT.sIx xs.length 0 lo)).take (HT.sIx xs.length xs.length hi - HT.sIx xs.length 0 lo)
theorem IsL.cut {H:Hp} {ds:List D} {vs:List V} (h:IsL H ds vs) (lo hi:Option Int):IsL H (cutD ds lo hi) (cutV vs lo hi):=by
 unfold cutD cutV
 rw [h.len]
 exact (h.drop _).take _
def RS (K:PySem.W.Frag) (r:V->Option Int->Option Int->Hp->VK->Prop) (da:D) (lo hi:Option Int) (M:MH) (Q:DK):Prop:=∀ H x,KF K H->Is H da x->MemOk K M H->r x lo hi H (RDP K H Q)
theorem ev_slice {r:V->Option Int->Option Int->Hp->VK->Prop} {lo hi:Option Expr} {p2:Pos} (hr:SlR X r) (h:EV X G M e fun d M1=>OV X G M1 lo fun l M2=>OV X G M2 hi fun u M3=>RS X.K r d l u M3 Q) :
  EV X G M (.Subscript e (.Slice lo hi none p2) pos) Q:=by
 intro pins s σ H I R
 refine Subscript_ (thn (h pins s σ H I R) fun v s1 ⟨x,H1,d,M1,I1,r1,g1,i1,R1,q1⟩=>?_)
 refine wpAny_Slice (thn (q1 pins s1 σ H1 I1 R1) fun vl s2 ⟨l,H2,M2,I2,g2,pl,R2,q2⟩=>thn (q2 pins s2 σ H2 I2 R2) fun vu s3 ⟨u,H3,M3,I3,g3,pu,R3,q3⟩=>?_)
 rw [evalPart_none]
 refine wpAny_pure ?_
 have I4:Inv X pins σ H3 { s3 with heap:=s3.heap.push { cls:=.type "slice",data:=.fields #[vl,vu,.none] } }:=I3.kept (t':=s3.toks) fun b ob q=>Heap.get?_push_of_some _ q
 obtain ⟨T,id,hT,ht,hg⟩:=hr pins { s3 with heap:=s3.heap.push { cls:=.type "slice",data:=.fields #[vl,vu,.none] } } σ H3 x v vl vu l u s3.heap.objs.size _ I4 r1 (Heap.IsSliceOf.new ..) pl pu (q3 H3 x (kf_of I3) (Is.grow (g2.trans g3) _ _ i1) R3.mem)
 show wpAny (model X.prog X.w) X.A (subscriptTail e (.Slice lo hi none p2) v (.ref s3.heap.objs.size)) _ X.xe { s3 with heap:=s3.heap.push { cls:=.type "slice",data:=.fields #[vl,vu,.none] } }
 exact tail_any (ops:=[.ref s3.heap.objs.size,v]) ht hT (thn hg fun w s5 h5=>rd_fin ((g1.trans g2).trans g3) R3 h5) (by with_unfolding_all rfl)
theorem rs_list {da:D} {lo hi:Option Int} {l:Addr} {ds:List D} (e:da=.ref l) (hl:M l=some (.lst ds)\/M l=some (.ro ds)) (h:∀ p,M p=none->Q (.ref p) (mset M p (.lst (cutD ds lo hi)))):RS X.K (rSlL X.K) da lo hi M Q:=by
 intro H x kf hx m
 subst e
 rw [is_ref] at hx;subst hx
 have hq:∃ xs,SqL X.K H l xs/\IsL H ds xs:=by
  rcases hl with hl | hl
  ·obtain ⟨xs,h1,h2⟩:=m l _ hl;exact ⟨xs,SqL.of h1,h2⟩
  ·exact m l _ hl
 obtain ⟨xs,h1,h2⟩:=hq
 refine ⟨l,xs,rfl,h1,fun p hp kf'=>⟨grow_new hp,.ref p,mset M p (.lst (cutD ds lo hi)),is_ref.mpr rfl,m.lay hp ⟨_,upd_same,(h2.cut lo hi).grow (grow_new hp)⟩,h p (m.fresh hp kf')⟩⟩
theorem rd_I {C:Int->Int->Prop} {g:Int->Int->Int} {i j:Int} (c:C i j) (q:Q (.int (g i j)) M):RD X.K (rI C fun i j=>.int (g i j)) (.int i) (.int j) M Q:=by
 intro H x y kf hx hy m
 rw [is_int] at hx hy;subst hx;subst hy
 exact ⟨i,j,rfl,rfl,c,fun _=>⟨Grow.refl _,_,M,is_int.mpr rfl,m,q⟩⟩
theorem rd_I0 {g:Int->Int->Int} {i j:Int} (q:Q (.int (g i j)) M):RD X.K (rI0 fun i j=>.int (g i j)) (.int i) (.int j) M Q:=by
 intro H x y kf hx hy m
 rw [is_int] at hx hy;subst hx;subst hy
 exact ⟨i,j,rfl,rfl,fun _=>⟨Grow.refl _,_,M,is_int.mpr rfl,m,q⟩⟩
theorem rd_B0 {g:Int->Int->Bool} {i j:Int} (q:Q (.bl (g i j)) M):RD X.K (rI0 fun i j=>.bl (g i j)) (.int i) (.int j) M Q:=by
 intro H x y kf hx hy m
 rw [is_int] at hx hy;subst hx;subst hy
 exact ⟨i,j,rfl,rfl,fun _=>⟨Grow.refl _,_,M,is_bl.mpr rfl,m,q⟩⟩
theorem op_mulB:OpR X (binaryOp .Mult) (rI IntMulOk fun i j=>.int (i * j)):=opI fun _ _ _ _ _ _ _ hc q=>mul_int q hc
def CDivB (i j:Int):Prop:=j≠0/\j.natAbs.log2 < 9000
theorem op_fdivB:OpR X (binaryOp .FloorDiv) (rI CDivB fun i j=>.int (i.fdiv j)):=opI fun _ _ _ _ _ _ _ hc q=>floordiv_int hc.1 q (.inl (PyProof.noPylong_of_log2 hc.2))
def AddD (da db:D) (M:MH) (Q:DK):Prop:=match da,db with
 | .int i,.int j=>Q (.int (i+j)) M
 | .tup xs,.tup ys=>xs≠[]/\xs.length+ys.length<=sizeLine/\Q (.tup (xs++ys)) M
 | .str x,.str y=>x.length+y.length<=sizeLine/\Q (.str (x++y)) M
 | .ref l,.ref k=>∃ xs ys,M l=some (.lst xs)/\M k=some (.lst ys)/\xs.length+ys.length<=sizeLine/\∀ p,M p=none->Q (.ref p) (mset M p (.lst (xs++ys)))
 | _,_=>False
theorem op_addAll:OpR X (binaryOp .Add) (fun x y H Q=>rI0 (fun i j=>.int (i+j)) x y H Q\/(rCatT X.K x y H Q\/((∃ i j,x=.str i/\y=.str j/\i.length+j.length<=sizeLine/\Q (.str (i++j)) H)\/rCat x y H Q))) :=
 op_add.or (op_catT.or (op_add_str.or op_cat))
theorem rd_add {da db:D} (h:AddD da db M Q):RD X.K (fun x y H Q=>rI0 (fun i j=>.int (i+j)) x y H Q\/(rCatT X.K x y H Q\/((∃ i j,x=.str i/\y=.str j/\i.length+j.length<=sizeLine/\Q (.str (i++j)) H)\/rCat x y H Q))) da db M Q:=by
 intro H x y kf hx hy m
 unfold AddD at h
 split at h
 ·rw [is_int] at hx hy;subst hx;subst hy
  exact .inl ⟨_,_,rfl,rfl,fun _=>⟨Grow.refl _,_,M,is_int.mpr rfl,m,h⟩⟩
 ·rename_i xs ys
  obtain ⟨h0,h1,q⟩:=h
  rw [is_tup] at hx hy
  obtain ⟨l,us,rfl,hl,hu⟩:=hx
  obtain ⟨k,ws,rfl,hk,hw⟩:=hy
  refine .inr (.inl ⟨l,k,us,ws,rfl,rfl,SqT.of hl,SqT.of hk,?_,by rw [<- hu.len,<- hw.len];exact h1,?_,?_⟩)
  ·intro z;subst z
   have:=hu.len
   exact h0 (List.eq_nil_of_length_eq_zero (by simpa using this))
  ·intro z _
   subst z
   have hy:ys=[]:=List.eq_nil_of_length_eq_zero (by simpa using hw.len)
   subst hy
   rw [List.append_nil] at q
   exact ⟨Grow.refl _,_,M,is_tup.mpr ⟨l,us,rfl,hl,hu⟩,m,q⟩
  ·intro _ p hp _
   exact ⟨grow_new hp,_,M,is_tup.mpr ⟨p,_,rfl,upd_same,(hu.app hw).grow (grow_new hp)⟩,m.new hp,q⟩
 ·rw [is_str] at hx hy;subst hx;subst hy
  exact .inr (.inr (.inl ⟨_,_,rfl,rfl,h.1,fun _=>⟨Grow.refl _,_,M,is_str.mpr rfl,m,h.2⟩⟩))
 ·rw [is_ref] at hx hy;subst hx;subst hy
  obtain ⟨xs,ys,h1,h2,h3,q⟩:=h
  obtain ⟨us,e1,i1⟩:=m _ _ h1
  obtain ⟨ws,e2,i2⟩:=m _ _ h2
  refine .inr (.inr (.inr ⟨_,_,us,ws,rfl,rfl,e1,e2,by rw [<- i1.len,<- i2.len];exact h3,fun p hp kf'=>⟨grow_new hp,.ref p,mset M p (.lst (xs++ys)),is_ref.mpr rfl,m.lay hp ⟨_,upd_same,(i1.app i2).grow (grow_new hp)⟩,q p (m.fresh hp kf')⟩⟩))
 ·exact h.elim
theorem ev_add (h:EV X G M a fun da Ma=>EV X G Ma b fun db Mb=>AddD da db Mb Q):EV X G M (.BinOp a .Add b pos) Q:=ev_op op_addAll (h.mono fun _ _ h1=>h1.mono fun _ _ h2=>rd_add h2)
theorem ev_sub (h:EV X G M a fun da Ma=>EV X G Ma b fun db Mb=>∃ i j,da=.int i/\db=.int j/\Q (.int (i - j)) Mb):EV X G M (.BinOp a .Sub b pos) Q :=
 ev_op op_sub (h.mono fun _ _ h1=>h1.mono fun _ _ ⟨i,j,e1,e2,q⟩=>by subst e1;subst e2;exact rd_I0 (g:=fun i j=>i - j) q)
theorem ev_mul (h:EV X G M a fun da Ma=>EV X G Ma b fun db Mb=>∃ i j,da=.int i/\db=.int j/\IntMulOk i j/\Q (.int (i * j)) Mb):EV X G M (.BinOp a .Mult b pos) Q :=
 ev_op op_mulB (h.mono fun _ _ h1=>h1.mono fun _ _ ⟨i,j,e1,e2,z,q⟩=>by subst e1;subst e2;exact rd_I (C:=IntMulOk) (g:=fun i j=>i * j) z q)
theorem ev_fdiv (h:EV X G M a fun da Ma=>EV X G Ma b fun db Mb=>∃ i j,da=.int i/\db=.int j/\CDivB i j/\Q (.int (i.fdiv j)) Mb):EV X G M (.BinOp a .FloorDiv b pos) Q :=
 ev_op op_fdivB (h.mono fun _ _ h1=>h1.mono fun _ _ ⟨i,j,e1,e2,z,q⟩=>by subst e1;subst e2;exact rd_I (C:=CDivB) (g:=fun i j=>i.fdiv j) z q)
theorem ev_mod (h:EV X G M a fun da Ma=>EV X G Ma b fun db Mb=>∃ i j,da=.int i/\db=.int j/\j≠0/\Q (.int (i.fmod j)) Mb):EV X G M (.BinOp a .Mod b pos) Q :=
 ev_op op_modN (h.mono fun _ _ h1=>h1.mono fun _ _ ⟨i,j,e1,e2,z,q⟩=>by subst e1;subst e2;exact rd_I (C:=fun _ j=>j≠0) (g:=fun i j=>i.fmod j) z q)
theorem ev_pow (h:EV X G M a fun da Ma=>EV X G Ma b fun db Mb=>∃ i j,da=.int i/\db=.int j/\CPow i j/\Q (.int (i ^ j.toNat)) Mb):EV X G M (.BinOp a .Pow b pos) Q :=
 ev_op op_pow (h.mono fun _ _ h1=>h1.mono fun _ _ ⟨i,j,e1,e2,z,q⟩=>by subst e1;subst e2;exact rd_I (C:=CPow) (g:=fun i j=>i ^ j.toNat) z q)
theorem ev_neg (h:EV X G M a fun da Ma=>∃ i,da=.int i/\Q (.int (-i)) Ma):EV X G M (.UnaryOp .USub a pos) Q :=
 ev_un un_neg (h.mono fun _ Ma ⟨i,e1,q⟩=>by
  subst e1
  intro H x kf hx m
  rw [is_int] at hx;subst hx
  exact ⟨i,rfl,fun _=>⟨Grow.refl _,_,Ma,is_int.mpr rfl,m,q⟩⟩)
theorem ev_lt (h:EV X G M a fun da Ma=>EV X G Ma b fun db Mb=>∃ i j,da=.int i/\db=.int j/\Q (.bl (decide (i < j))) Mb):EV X G M (.Compare a [.Lt] [b] pos) Q :=
 ev_cmp op_lt (nomark _) (h.mono fun _ _ h1=>h1.mono fun _ _ ⟨i,j,e1,e2,q⟩=>by subst e1;subst e2;exact rd_B0 (g:=fun i j=>decide (i < j)) q)
theorem ev_gt (h:EV X G M a fun da Ma=>EV X G Ma b fun db Mb=>∃ i j,da=.int i/\db=.int j/\Q (.bl (decide (j < i))) Mb):EV X G M (.Compare a [.Gt] [b] pos) Q :=
 ev_cmp op_gt (nomark _) (h.mono fun _ _ h1=>h1.mono fun _ _ ⟨i,j,e1,e2,q⟩=>by subst e1;subst e2;exact rd_B0 (g:=fun i j=>decide (j < i)) q)
def EqD (da db:D) (k:Bool):Prop:=match da,db with
 | .int i,.int j=>k=decide (i=j)
 | .bl i,.bl j=>k=decide (i=j)
 | .str i,.str j=>k=decide (i=j)
 | _,_=>False
theorem eqD_val {H:Hp} {da db:D} {k:Bool} {x y:V} (h:EqD da db k) (hx:Is H da x) (hy:Is H db y):scal x y=true/\k=decide (x=y):=by
 unfold EqD at h
 split at h
 ·rw [is_int] at hx hy;subst hx;subst hy;subst h
  exact ⟨rfl,by simp⟩
 ·rw [is_bl] at hx hy;subst hx;subst hy;subst h
  exact ⟨rfl,by simp⟩
 ·rw [is_str] at hx hy;subst hx;subst hy;subst h
  exact ⟨rfl,by simp⟩
 ·exact h.elim
theorem tv_lt {Qb:Bool->MH->Prop} (h:EV X G M a fun da Ma=>EV X G Ma b fun db Mb=>∃ i j,da=.int i/\db=.int j/\Qb (decide (i < j)) Mb):TV X G M (.Compare a [.Lt] [b] pos) Qb :=
 tv_cmp op_lt (nomark _) (h.mono fun _ _ h1=>h1.mono fun _ _ ⟨i,j,e1,e2,q⟩=>by subst e1;subst e2;exact rd_B0 (g:=fun i j=>decide (i < j)) ⟨_,rfl,q⟩)
theorem tv_le {Qb:Bool->MH->Prop} (h:EV X G M a fun da Ma=>EV X G Ma b fun db Mb=>∃ i j,da=.int i/\db=.int j/\Qb (decide (i<=j)) Mb):TV X G M (.Compare a [.LtE] [b] pos) Qb :=
 tv_cmp op_le (nomark _) (h.mono fun _ _ h1=>h1.mono fun _ _ ⟨i,j,e1,e2,q⟩=>by subst e1;subst e2;exact rd_B0 (g:=fun i j=>decide (i<=j)) ⟨_,rfl,q⟩)
theorem tv_gt {Qb:Bool->MH->Prop} (h:EV X G M a fun da Ma=>EV X G Ma b fun db Mb=>∃ i j,da=.int i/\db=.int j/\Qb (decide (j < i)) Mb):TV X G M (.Compare a [.Gt] [b] pos) Qb :=
 tv_cmp op_gt (nomark _) (h.mono fun _ _ h1=>h1.mono fun _ _ ⟨i,j,e1,e2,q⟩=>by subst e1;subst e2;exact rd_B0 (g:=fun i j=>decide (j < i)) ⟨_,rfl,q⟩)
theorem ev_callB {x:Str} {p:Pos} {id:String} {r:List V->Hp->VK->Prop} (hc:CallR X (.builtin id) r) (hm:X.mg x=none) (hv:bootBuiltins x=some (.builtin id)) (h:AV X G M (e :: es) fun ds M1=>RC X.K r ds M1 Q) (hg:Gl X x:=by rfl)
  (hn:x ≠ "__name__" := by decide) (hdb:(x == ("__debug__" : Str))=false:=by decide) (he:starEach (e :: es) X.env=(false,eval e X.env) :: starEach es X.env:=by rfl) (hpl:(backTo pos (starEach es X.env)).any (·.1)=false:=by rfl) :
  EV X G M (.Call (.Name x p) (e :: es) [] pos) Q:=by
 intro pins s σ H I R
 refine wpAny_Call_Name_kw (ld_blt I hg hm hv ?_ hn hdb)
 exact PyProof.Rows.callWith_builtin1 (thn (h pos pins s σ H I R) fun us s1 ⟨vs,H1,ds,M1,I1,r1,g1,i1,R1,q1⟩ =>
  thn (hc pins s1 σ H1 vs us _ I1 r1 (q1 H1 vs (kf_of I1) i1 R1.mem)) fun w s2 h2=>rd_fin g1 R1 h2) he hpl
theorem ev_callTy {x:Str} {p:Pos} {T:String} {r:List V->Hp->VK->Prop} (hc:CallR X (.type T) r) (hm:X.mg x=none) (hv:bootBuiltins x=some (.type T)) (h:AV X G M (e :: es) fun ds M1=>RC X.K r ds M1 Q) (hg:Gl X x:=by rfl)
  (hn:x ≠ "__name__" := by decide) (hdb:(x == ("__debug__" : Str))=false:=by decide) (he:starEach (e :: es) X.env=(false,eval e X.env) :: starEach es X.env:=by rfl) (hpl:(backTo pos (starEach es X.env)).any (·.1)=false:=by rfl) :
  EV X G M (.Call (.Name x p) (e :: es) [] pos) Q:=by
 intro pins s σ H I R
 refine wpAny_Call_Name_kw (ld_blt I hg hm hv ?_ hn hdb)
 exact PyProof.Rows.callWith_type1 (thn (h pos pins s σ H I R) fun us s1 ⟨vs,H1,ds,M1,I1,r1,g1,i1,R1,q1⟩ =>
  thn (hc pins s1 σ H1 vs us _ I1 r1 (q1 H1 vs (kf_of I1) i1 R1.mem)) fun w s2 h2=>rd_fin g1 R1 h2) he hpl
theorem isl1 {H:Hp} {d:D} {vs:List V} (h:IsL H [d] vs):∃ v,vs=[v]/\Is H d v:=by
 rw [isl_cons] at h
 obtain ⟨x,r,e,h1,h2⟩:=h
 rw [isl_nil] at h2;subst h2
 exact ⟨x,e,h1⟩
theorem isl2 {H:Hp} {d d':D} {vs:List V} (h:IsL H [d,d'] vs):∃ v v',vs=[v,v']/\Is H d v/\Is H d' v':=by
 rw [isl_cons] at h
 obtain ⟨x,r,e,h1,h2⟩:=h
 obtain ⟨y,rfl,h3⟩:=isl1 h2
 exact ⟨x,y,e,h1,h3⟩
theorem AV.mono {Qa Qb:List D->MH->Prop} (h:AV X G M es Qa) (k:∀ ds M',Qa ds M'->Qb ds M'):AV X G M es Qb:=fun pos pins s σ H I R =>
 thn (h pos pins s σ H I R) fun us s1 ⟨vs,H1,ds,M1,I1,r1,g1,i1,R1,q1⟩=>⟨vs,H1,ds,M1,I1,r1,g1,i1,R1,k _ _ q1⟩
theorem bootAbs:bootBuiltins "abs" = some (.builtin "abs"):=by decide +kernel
theorem bootMax:bootBuiltins "max" = some (.builtin "max"):=by decide +kernel
theorem bootMin:bootBuiltins "min" = some (.builtin "min"):=by decide +kernel
theorem bootLen:bootBuiltins "len" = some (.builtin "len"):=by decide +kernel
theorem bootIsi:bootBuiltins "isinstance" = some (.builtin "isinstance"):=by decide +kernel
theorem bootTuple:bootBuiltins "tuple" = some (.type "tuple"):=by decide +kernel
theorem bootInt:bootBuiltins "int" = some (.type "int"):=by decide +kernel
theorem bootBool:bootBuiltins "bool" = some (.type "bool"):=by decide +kernel
theorem ev_abs {p:Pos} (hm:X.mg "abs" = none) (h:AV X G M [e] fun ds M1=>∃ i:Int,ds=[.int i]/\Q (.int (if i < 0 then -i else i)) M1) (hg:Gl X "abs" := by rfl) (he:starEach [e] X.env=(false,eval e X.env) :: starEach [] X.env:=by rfl) (hpl:(backTo pos (starEach ([] : List Expr) X.env)).any (·.1)=false:=by rfl):EV X G M (.Call (.Name "abs" p) [e] [] pos) Q :=
 ev_callB call_abs hm bootAbs (h.mono fun ds M1 ⟨i,e1,q⟩=>fun H xs kf hx m=>by
  subst e1
  obtain ⟨v,rfl,hv⟩:=isl1 hx
  rw [is_int] at hv;subst hv
  exact ⟨i,rfl,fun _=>⟨Grow.refl _,_,M1,is_int.mpr rfl,m,q⟩⟩) hg (by decide) (by decide) he hpl
theorem ev_max2 {p:Pos} {e2:Expr} (hm:X.mg "max" = none) (hc:X.calm=true) (h:AV X G M [e,e2] fun ds M1=>∃ i j:Int,ds=[.int i,.int j]/\Q (.int (if j > i then j else i)) M1) (hg:Gl X "max" := by rfl) (he:starEach [e,e2] X.env=(false,eval e X.env) :: starEach [e2] X.env:=by rfl) (hpl:(backTo pos (starEach [e2] X.env)).any (·.1)=false:=by rfl):EV X G M (.Call (.Name "max" p) [e,e2] [] pos) Q :=
 ev_callB (call_max2 hc) hm bootMax (h.mono fun ds M1 ⟨i,j,e1,q⟩=>fun H xs kf hx m=>by
  subst e1
  obtain ⟨v,w,rfl,hv,hw⟩:=isl2 hx
  rw [is_int] at hv hw;subst hv;subst hw
  exact ⟨i,j,rfl,fun _=>⟨Grow.refl _,_,M1,is_int.mpr rfl,m,q⟩⟩) hg (by decide) (by decide) he hpl
theorem ev_min2 {p:Pos} {e2:Expr} (hm:X.mg "min" = none) (hc:X.calm=true) (h:AV X G M [e,e2] fun ds M1=>∃ i j:Int,ds=[.int i,.int j]/\Q (.int (if j < i then j else i)) M1) (hg:Gl X "min" := by rfl) (he:starEach [e,e2] X.env=(false,eval e X.env) :: starEach [e2] X.env:=by rfl) (hpl:(backTo pos (starEach [e2] X.env)).any (·.1)=false:=by rfl):EV X G M (.Call (.Name "min" p) [e,e2] [] pos) Q :=
 ev_callB (call_min2 hc) hm bootMin (h.mono fun ds M1 ⟨i,j,e1,q⟩=>fun H xs kf hx m=>by
  subst e1
  obtain ⟨v,w,rfl,hv,hw⟩:=isl2 hx
  rw [is_int] at hv hw;subst hv;subst hw
  exact ⟨i,j,rfl,fun _=>⟨Grow.refl _,_,M1,is_int.mpr rfl,m,q⟩⟩) hg (by decide) (by decide) he hpl
def LenD (d:D) (M:MH) (n:Nat):Prop:=match d with
 | .tup ds=>n=ds.length
 | .ref a=>(∃ ds,M a=some (.lst ds)/\n=ds.length)\/(∃ ds,M a=some (.ro ds)/\n=ds.length)
 | _=>False
theorem ev_len {p:Pos} (hm:X.mg "len" = none) (h:AV X G M [e] fun ds M1=>∃ d n,ds=[d]/\LenD d M1 n/\Q (.int (n:Nat)) M1) (hg:Gl X "len" := by rfl) (he:starEach [e] X.env=(false,eval e X.env) :: starEach [] X.env:=by rfl) (hpl:(backTo pos (starEach ([] : List Expr) X.env)).any (·.1)=false:=by rfl):EV X G M (.Call (.Name "len" p) [e] [] pos) Q :=
 ev_callB call_len_seq hm bootLen (h.mono fun ds M1 ⟨d,n,e1,hl,q⟩=>fun H xs kf hx m=>by
  subst e1
  obtain ⟨v,rfl,hv⟩:=isl1 hx
  cases d with
  | tup ds =>
   rw [is_tup] at hv
   obtain ⟨a,ys,rfl,h1,h2⟩:=hv
   have e2:n=ds.length:=hl
   exact ⟨a,ys,rfl,.inr (SqT.of h1),fun _=>⟨Grow.refl _,.int n,M1,is_int.mpr (by rw [e2,h2.len]),m,q⟩⟩
  | ref a =>
   rw [is_ref] at hv;subst hv
   rcases hl with ⟨ds,h1,e2⟩ | ⟨ds,h1,e2⟩
   ·obtain ⟨ys,h3,h4⟩:=m a _ h1
    exact ⟨a,ys,rfl,.inl (SqL.of h3),fun _=>⟨Grow.refl _,.int n,M1,is_int.mpr (by rw [e2,h4.len]),m,q⟩⟩
   ·obtain ⟨ys,h3,h4⟩:=m a _ h1
    exact ⟨a,ys,rfl,.inl h3,fun _=>⟨Grow.refl _,.int n,M1,is_int.mpr (by rw [e2,h4.len]),m,q⟩⟩
  | non=>exact hl.elim
  | bl _=>exact hl.elim
  | int _=>exact hl.elim
  | str _=>exact hl.elim
  | ty _=>exact hl.elim) hg (by decide) (by decide) he hpl
def tyName (d:D) (M:MH) (t:String):Prop:=match d with
 | .non=>t = "NoneType"
 | .bl _=>t = "bool"
 | .int _=>t = "int"
 | .str _=>t = "str"
 | .tup _=>t = "tuple"
 | .ref a=>(∃ ds,M a=some (.lst ds))/\t = "list"
 | .ty _=>False
theorem call_isinst:CallR X (.builtin "isinstance") (fun xs H Q=>∃ x t c b,xs=[x,.ty c]/\TyOf X.K H x t/\PySem.W.kitOne X.K t (.type c)=some b/\Q (.bl b) H):=by
 intro pins s σ H xs us Q I r h
 obtain ⟨x,t,c,b,rfl,ty,e,q⟩:=h
 obtain ⟨u,w',rfl,ru,rw'⟩:=vals2 r
 cases rw'
 exact isinst_ok I ru ty e (fun tk=>⟨.bl b,H,I.tok tk,rfl,q⟩)
theorem tyOf_of {K:PySem.W.Frag} {H:Hp} {d:D} {M:MH} {v:V} {t:String} (m:MemOk K M H) (i:Is H d v) (h:tyName d M t):TyOf K H v (.type t):=by
 cases d with
 | non=>rw [is_non] at i;subst i;cases (show t=_ from h);exact .non
 | bl b=>rw [is_bl] at i;subst i;cases (show t=_ from h);exact .bl _
 | int b=>rw [is_int] at i;subst i;cases (show t=_ from h);exact .int _
 | str b=>rw [is_str] at i;subst i;cases (show t=_ from h);exact .str _
 | tup ds =>
  rw [is_tup] at i
  obtain ⟨a,xs,rfl,h1,h2⟩:=i
  cases (show t=_ from h)
  exact .tup h1
 | ref a =>
  rw [is_ref] at i;subst i
  obtain ⟨⟨ds,h1⟩,rfl⟩:=h
  obtain ⟨xs,h2,_⟩:=m a _ h1
  exact .lst h2
 | ty _=>exact h.elim
theorem ev_isi {p:Pos} {e2:Expr} (hm:X.mg "isinstance" = none) (h:AV X G M [e,e2] fun ds M1=>∃ d t c b,ds=[d,.ty c]/\tyName d M1 t/\PySem.W.kitOne X.K (.type t) (.type c)=some b/\Q (.bl b) M1) (hg:Gl X "isinstance" := by rfl) (he:starEach [e,e2] X.env=(false,eval e X.env) :: starEach [e2] X.env:=by rfl) (hpl:(backTo pos (starEach [e2] X.env)).any (·.1)=false:=by rfl) :
  EV X G M (.Call (.Name "isinstance" p) [e,e2] [] pos) Q :=
 ev_callB call_isinst hm bootIsi (h.mono fun ds M1 ⟨d,t,c,b,e1,ht,hk,q⟩=>fun H xs kf hx m=>by
  subst e1
  obtain ⟨v,w,rfl,hv,hw⟩:=isl2 hx
  rw [is_ty] at hw;subst hw
  exact ⟨v,.type t,c,b,rfl,tyOf_of m hv ht,hk,fun _=>⟨Grow.refl _,.bl b,M1,is_bl.mpr rfl,m,q⟩⟩) hg (by decide) (by decide) he hpl
theorem mt_bits:MtR X "int.bit_length" (fun x xs H Q=>∃ i,x=.int i/\xs=[]/\Q (.int (Builtin.Int.intBits i:Nat)) H):=by
 intro pins s σ H x xs v us Q I rx rv h
 obtain ⟨i,rfl,rfl,q⟩:=h
 obtain ⟨t,rfl⟩:=rx
 cases rv
 exact call_int_bit_length ⟨.int _,H,I.tok _,⟨_,rfl⟩,q⟩
theorem ev_bits {apos cpos:Pos} (pa:PlainAttrs "int") (h:EV X G M e fun d M1=>∃ i,d=.int i/\Q (.int (Builtin.Int.intBits i:Nat)) M1) (hbase:attributeBase e "bit_length" X.env (eval e X.env)=eval e X.env:=by rfl) (hline:(apos.endLine == cpos.line)=true:=by rfl) :
  EV X G M (.Call (.Attribute e "bit_length" apos) [] [] cpos) Q:=by
 intro pins s σ H I R
 refine wpAny_Call_method0_late hbase hline (thn (h pins s σ H I R) fun v s1 ⟨x,H1,d,M1,I1,r1,g1,i1,R1,i,e1,q1⟩=>?_)
 subst e1
 rw [is_int] at i1;subst i1
 obtain ⟨h1,h2⟩:=tyV_is (T := "int") I1 r1 rfl
 refine ⟨"int", "int.bit_length",pa,slot_int_bit_length,type_int_bit_length,h1,h2,Calls.callWith_builtin rfl (PySem.evalArgs_none ?_)⟩
 exact thn (mt_bits pins s1 σ H1 (.int i) [] v [] (fun v H'=>v=.int (Builtin.Int.intBits i:Nat)/\H'=H1) I1 r1 .nil ⟨i,rfl,rfl,rfl,rfl⟩) fun u s2 ⟨z,H2,I2,r2,e2,e3⟩=>by
  subst e2;subst e3
  exact ⟨_,H2,.int _,M1,I2,r2,g1,is_int.mpr rfl,R1,q1⟩
theorem op_isB:OpR X (compareOp .Is) (fun x y H Q=>∃ i j,x=.bl i/\y=.bl j/\Q (.bl (i == j)) H):=by
 intro pins s σ H x y v u Q I rx ry h
 obtain ⟨i,j,rfl,rfl,q⟩:=h
 cases rx
 cases ry
 exact is_bool ⟨.bl _,H,I,rfl,q⟩
def IsDv (da db:D) (k:Bool):Prop:=match da,db with
 | .bl i,.bl j=>k=(i == j)
 | .non,.non=>k=true
 | .bl _,.non=>k=false
 | .int _,.non=>k=false
 | .str _,.non=>k=false
 | .tup _,.non=>k=false
 | .ref _,.non=>k=false
 | _,_=>False
theorem isD_val {H:Hp} {da db:D} {k:Bool} {x y:V} (h:IsDv da db k) (hx:Is H da x) (hy:Is H db y):(∃ i j,x=.bl i/\y=.bl j/\k=(i == j))\/(y=.non/\k=decide (x=.non)):=by
 unfold IsDv at h
 split at h
 ·rw [is_bl] at hx hy;subst hx;subst hy;subst h;exact .inl ⟨_,_,rfl,rfl,rfl⟩
 ·rw [is_non] at hx hy;subst hx;subst hy;subst h;exact .inr ⟨rfl,rfl⟩
 ·rw [is_bl] at hx;rw [is_non] at hy;subst hx;subst hy;subst h;exact .inr ⟨rfl,by simp⟩
 ·rw [is_int] at hx;rw [is_non] at hy;subst hx;subst hy;subst h;exact .inr ⟨rfl,by simp⟩
 ·rw [is_str] at hx;rw [is_non] at hy;subst hx;subst hy;subst h;exact .inr ⟨rfl,by simp⟩
 ·rw [is_tup] at hx;rw [is_non] at hy;obtain ⟨a,xs,rfl,_⟩:=hx;subst hy;subst h;exact .inr ⟨rfl,by simp⟩
 ·rw [is_ref] at hx;rw [is_non] at hy;subst hx;subst hy;subst h;exact .inr ⟨rfl,by simp⟩
 ·exact h.elim
theorem op_isAll:OpR X (compareOp .Is) (fun x y H Q=>(∃ i j,x=.bl i/\y=.bl j/\Q (.bl (i == j)) H)\/(y=.non/\Q (.bl (decide (x=.non))) H)):=op_isB.or op_isN
theorem tv_is {Qb:Bool->MH->Prop} (h:EV X G M a fun da Ma=>EV X G Ma b fun db Mb=>∃ k,IsDv da db k/\Qb k Mb):TV X G M (.Compare a [.Is] [b] pos) Qb :=
 tv_cmp op_isAll (nomark _) (h.mono fun _ _ h1=>h1.mono fun _ Mb ⟨k,e1,q⟩=>by
  intro H x y kf hx hy m
  rcases isD_val e1 hx hy with ⟨i,j,rfl,rfl,e⟩ | ⟨rfl,e⟩
  ·exact .inl ⟨i,j,rfl,rfl,fun _=>⟨Grow.refl _,.bl k,Mb,is_bl.mpr (by rw [e]),m,k,rfl,q⟩⟩
  ·exact .inr ⟨rfl,fun _=>⟨Grow.refl _,.bl k,Mb,is_bl.mpr (by rw [e]),m,k,rfl,q⟩⟩)
end
end D3
namespace D3
open PySem PySem.Spec PyProof.Rows L2
abbrev SpD:=List D->MH->DK->Prop
def liftSp (K:PySem.W.Frag) (sp:SpD):Sp:=fun vs H Q _=>∃ ds M Qd,IsL H ds vs/\MemOk K M H/\sp ds M Qd/\∀ v H' d M',Grow H H'->Is H' d v->MemOk K M' H'->Qd d M'->Q v H'
structure Cal (P:Program) (w:World) (K:PySem.W.Frag) (mg:Str->Option Value) (base:Heap) (k:Nat) (x:Str) (sp:SpD):Prop where
 ex:∃ (f:Addr) (fd:FuncData) (ps:List Str),FnOk P w K mg base CX0 k f fd ps (liftSp K sp)/\mg x=some (.ref f)/\PySem.W.keepIn K (.ref f)=true/\Binds K fd ps []
section
variable {X:Cx} {G:Ga} {M:MH} {a b c e:Expr} {es rest:List Expr} {pos:Pos} {Q:DK}
theorem run_fnD {k:Nat} {f:Addr} {fd:FuncData} {ps:List Str} {sp:SpD} {pins:List (Addr × Obj)} {σ:St} {H0 H:Hp} {s:Shared} {us:List Value} {vs:List V} {ds:List D} (F:FnOk X.prog X.w X.K X.mg X.base CX0 k f fd ps (liftSp X.K sp)) (hr:Room k X.A) (hb:Binds X.K fd ps [])
  (I:Inv X pins σ H s) (R:Rel X G M σ H) (g0:Grow H0 H) (r:Vals vs us) (i:IsL H ds vs) (h:sp ds M Q):wpAny (model X.prog X.w) X.A (call (.ref f) us) (EPD X pins σ G H0 Q) X.xe s:=by
 have h':liftSp X.K sp (vs++[]) H (fun v H'=>∃ d M',Grow H H'/\Is H' d v/\MemOk X.K M' H'/\Q d M') E0 :=
  ⟨ds,M,Q,by rw [List.append_nil];exact i,R.mem,h,fun v H' d M' g i m q=>⟨d,M',g,i,m,q⟩⟩
 exact thn (run_fn (dvs:=[]) (ds:=[]) F hr hb .nil pass0 I r h') fun u s' ⟨v,H',I',r',d,M',g,i',m,q⟩=>⟨v,H',d,M',I',r',g0.trans g,i',R.to g m,q⟩
theorem ev_call {k:Nat} {x:Str} {p:Pos} {sp:SpD} (C:Cal X.prog X.w X.K X.mg X.base k x sp) (hr:Room k X.A) (h:AV X G M (e :: es) fun ds M1=>sp ds M1 Q) (hg:Gl X x:=by rfl) (hdb:(x == ("__debug__" : Str))=false:=by decide)
  (he:starEach (e :: es) X.env=(false,eval e X.env) :: starEach es X.env:=by rfl) (hpl:(backTo pos (starEach es X.env)).any (·.1)=false:=by rfl):EV X G M (.Call (.Name x p) (e :: es) [] pos) Q:=by
 intro pins s σ H I R
 obtain ⟨f,fd,ps,F,hm,hk,hb⟩:=C.ex
 refine wpAny_Call_Name_kw (ld_glob I hg hm ?_ hdb)
 refine PySem.W.callWith_K (h₀:=X.base) I.ok.mod.kin hk (thn (h pos pins s σ H I R) fun us s1 ⟨vs,H1,ds,M1,I1,r1,g1,i1,R1,q1⟩=>⟨I1.kIn,?_⟩) he hpl
 exact run_fnD F hr hb I1 R1 g1 r1 i1 q1
variable {st:Stmt} {sts:List Stmt} {E:EndsD}
theorem let_X {X:Cx} {G:Ga} {M:MH} {sts:List Stmt} {E:EndsD} (h:let Y:=X;EXs Y G M sts E):EXs X G M sts E:=h
theorem let_E {X:Cx} {G:Ga} {M:MH} {sts:List Stmt} {E:EndsD} (h:let F:=E;EXs X G M sts F):EXs X G M sts E:=h
theorem exs_nil (q:E.nx G M):EXs X G M [] E:=fun pins s σ H I R=>wpAny_execs_nil ⟨σ,H,G,M,I,Grow.refl _,R,q⟩
theorem exs_cons (h:EX X G M st { E with nx:=fun G' M'=>EXs X G' M' sts E }):EXs X G M (st :: sts) E:=by
 intro pins s σ H I R
 refine wpAny_execs_cons (thn (h pins s σ H I R) fun f s1 q=>?_)
 cases f with
 | next =>
  obtain ⟨σ',H',G',M',I',g',R',q⟩:=q
  exact thn (q pins s1 σ' H' I' R') fun f s2 h2=>h2.grow g'
 | ret v=>exact q
 | brk=>exact q
 | cont=>exact q
theorem exs_one (h:EX X G M st E):EXs X G M [st] E:=by
 intro pins s σ H I R
 refine wpAny_execs_cons (thn (h pins s σ H I R) fun f s1 q=>?_)
 cases f with
 | next=>exact wpAny_execs_nil q
 | ret v=>exact q
 | brk=>exact q
 | cont=>exact q
theorem ex_break (q:E.bk G M):EX X G M (.Break pos) E:=fun pins s σ H I R=>wpAny_Break ⟨σ,H,G,M,I,Grow.refl _,R,q⟩
theorem ex_ret (h:EV X G M e E.rt):EX X G M (.Return (some e) pos) E:=fun pins s σ H I R =>
 wpAny_Return_some (thn (h pins s σ H I R) fun v s1 ⟨x,H1,d,M1,I1,r1,g1,i1,R1,q1⟩=>⟨x,σ,H1,d,M1,I1,r1,g1,i1,R1.mem,q1⟩)
theorem ex_expr (h:EV X G M e fun _ M1=>E.nx G M1) (hs:swapsWith e none pos.line X.env=pure false:=by rfl):EX X G M (.Expr e pos) E:=fun pins s σ H I R =>
 wpAny_Expr_any (thn (h pins s σ H I R) fun v s1 ⟨x,H1,d,M1,I1,r1,g1,i1,R1,q1⟩=>⟨σ,H1,G,M1,I1,g1,R1,q1⟩) I.quiet hs
theorem ex_if {A B:List Stmt} (h:TV X G M c fun k M1=>if k=true then EXs X G M1 A E else EXs X G M1 B E):EX X G M (.If c A B pos) E:=by
 intro pins s σ H I R
 refine wpAny_If (thn (h pins s σ H I R) fun d s1 ⟨H1,M1,I1,g1,R1,q1⟩=>?_)
 cases d with
 | true=>exact thn (q1 pins s1 σ H1 I1 R1) fun f s2 h2=>h2.grow g1
 | false=>exact thn (q1 pins s1 σ H1 I1 R1) fun f s2 h2=>h2.grow g1
theorem ex_set (i:Nat) {x:Str} {pos':Pos} (hN:X.N.Nodup) (h:EV X G M e fun d M1=>E.nx (G.set i (some d)) M1) (hi:X.N[i]?=some x:=by rfl) (hx:Loc X.env.scope x:=by exact Or.inl rfl) (hs:swapsWith e (some (.Name x pos')) pos.line X.env=pure false:=by rfl)
  (hf:X.fn x=true\/X.env.scope.names.lookup x=some .local:=by first | exact .inl rfl | exact .inr rfl | assumption):EX X G M (.Assign [.Name x pos'] e pos) E:=by
 intro pins s σ H I R
 refine wpAny_Assign_Name (thn (h pins s σ H I R) fun v s1 ⟨y,H1,d,M1,I1,r1,g1,i1,R1,q1⟩=>?_) hs
 have hl:i < σ.length:=by rw [I1.len];exact (List.getElem?_eq_some_iff.mp hi).1
 exact store_ok I1 hN hi hx r1 (fun s2 I2=>⟨_,H1,_,M1,I2,g1,R1.set hl i1,q1⟩) hf
theorem ex_par (i j:Nat) {x y:Str} {px py pt:Pos} {kt k2 pt2} (hc:X.calm=true) (hN:X.N.Nodup) (h:AV X G M [a,b] fun ds M1=>∃ d d',ds=[d,d']/\E.nx ((G.set i (some d)).set j (some d')) M1)
  (hw:swappedStores [.Tuple [.Name x px,.Name y py] kt pt] (.Tuple [a,b] k2 pt2) X.env=pure (some [x,y]))
  (hi:X.N[i]?=some x:=by rfl) (hj:X.N[j]?=some y:=by rfl) (hij:i≠j:=by decide) (hx:X.env.scope.names.lookup x=some .local:=by rfl) (hy:X.env.scope.names.lookup y=some .local:=by rfl)
  (hs:swapsWithSole [.Tuple [.Name x px,.Name y py] kt pt] (.Tuple [a,b] k2 pt2) pos.line X.env=pure false:=by rfl) :
  EX X G M (.Assign [.Tuple [.Name x px,.Name y py] kt pt] (.Tuple [a,b] k2 pt2) pos) E:=by
 intro pins s σ H I R
 have key:PA X [a,b] (fun σ' H' Q'=>Rel X G M σ' H'/\∀ vs H1 ds M1,Grow H' H1->IsL H1 ds vs->Rel X G M1 σ' H1->(∃ d d',ds=[d,d']/\E.nx ((G.set i (some d)).set j (some d')) M1)->Q' vs H1):=by
  intro pos pins s σ H Q' I ⟨R,k⟩
  exact thn (h pos pins s σ H I R) fun us s1 ⟨vs,H1,ds,M1,I1,r1,g1,i1,R1,q1⟩=>⟨vs,H1,I1,r1,k vs H1 ds M1 g1 i1 R1 q1⟩
 have hl:∀ k x,X.N[k]?=some x->k < σ.length:=fun k x hk=>by rw [I.len];exact (List.getElem?_eq_some_iff.mp hk).1
 refine thn (ps_par (pos:=pos) hc hN hi hj hij hx hy key hw hs pins s σ H { nx:=fun σ' H'=>∃ G' M',Grow H H'/\Rel X G' M' σ' H'/\E.nx G' M',rt:=fun _ _=>False } I ⟨R,fun vs H1 ds M1 g1 i1 R1 ⟨d,d',e1,q⟩=>?_⟩) fun f s1 q=>?_
 ·subst e1
  obtain ⟨v,v',e2,h1,h2⟩:=isl2 i1
  refine ⟨v,v',e2,_,M1,g1,(R1.set (hl i x hi) h1).set (by rw [List.length_set];exact hl j y hj) h2,q⟩
 ·cases f with
  | next=>obtain ⟨σ',H',I',G',M',g,R',q⟩:=q;exact ⟨σ',H',G',M',I',g,R',q⟩
  | brk=>obtain ⟨_,_,_,z⟩:=q;exact z.elim
  | cont=>obtain ⟨_,_,_,z⟩:=q;exact z.elim
  | ret v=>obtain ⟨_,_,_,_,_,z⟩:=q;exact z.elim
theorem ex_while {body:List Stmt} (Iv:Ga->MH->Prop) (μ:Ga->MH->Nat) (hp:PassesOwn (model X.prog X.w) X.A X.env X.xe) (h0:Iv G M)
  (step:∀ G M,Iv G M->TV X G M c fun k M1=>if k=true then EXs X G M1 body { nx:=fun G' M'=>Iv G' M'/\μ G' M' < μ G M,ct:=fun G' M'=>Iv G' M'/\μ G' M' < μ G M,bk:=E.nx,rt:=E.rt } else E.nx G M1) :
  EX X G M (.While c body [] pos) E:=by
 intro pins s σ H I R
 refine wpAny_While (codeAny_whileLoop (fun n s'=>∃ σ' H' G' M',Inv X pins σ' H' s'/\Grow H H'/\Rel X G' M' σ' H'/\Iv G' M'/\n=μ G' M') ?_ (μ G M) ⟨σ,H,G,M,I,Grow.refl _,R,h0,rfl⟩)
 rintro n s1 ⟨σ1,H1,G1,M1,I1,g1,R1,w1,rfl⟩
 refine wpAny_passesOwn hp (thn (step G1 M1 w1 pins s1 σ1 H1 I1 R1) fun k s2 ⟨H2,M2,I2,g2,R2,q2⟩=>?_)
 cases k with
 | true =>
  rw [if_pos rfl]
  refine wpAny_passesOwn hp (thn (q2 pins s2 σ1 H2 I2 R2) fun f s3 q3=>?_)
  cases f with
  | next =>
   obtain ⟨σ3,H3,G3,M3,I3,g3,R3,w3,lt⟩:=q3
   exact ⟨_,lt,σ3,H3,G3,M3,I3,(g1.trans g2).trans g3,R3,w3,rfl⟩
  | cont =>
   obtain ⟨σ3,H3,G3,M3,I3,g3,R3,w3,lt⟩:=q3
   exact ⟨_,lt,σ3,H3,G3,M3,I3,(g1.trans g2).trans g3,R3,w3,rfl⟩
  | brk=>exact SPD.grow (f:=.brk) (E:={ E with bk:=E.nx }) (g1.trans g2) q3
  | ret v=>exact SPD.grow (f:=.ret v) (E:=E) (g1.trans g2) q3
 | false =>
  rw [if_neg Bool.false_ne_true]
  exact wpAny_execs_nil ⟨σ1,H2,G1,M2,I2,g1.trans g2,R2,q2⟩
def GV (X:Cx) (G:Ga) (M:MH) (tg:Expr) (d:D) (Q:Ga->MH->Prop):Prop :=
 ∀ (pins:List (Addr × Obj)) (s:Shared) (σ:St) (H:Hp) (v:V) (u:Value),Inv X pins σ H s->Rel X G M σ H->RelV v u->Is H d v ->
  wpAny (model X.prog X.w) X.A (assign tg X.env u) (fun _ s'=>∃ σ' H' G' M',Inv X pins σ' H' s'/\Grow H H'/\Rel X G' M' σ' H'/\Q G' M') X.xe s
theorem gv_name (i:Nat) {x:Str} {d:D} {Qg:Ga->MH->Prop} (hN:X.N.Nodup) (q:Qg (G.set i (some d)) M) (hi:X.N[i]?=some x:=by rfl) (hx:Loc X.env.scope x:=by exact Or.inl rfl) (hf:X.fn x=true\/X.env.scope.names.lookup x=some .local:=by first | exact .inl rfl | exact .inr rfl | assumption) :
  GV X G M (.Name x pos) d Qg:=by
 intro pins s σ H v u I R r i1
 have hl:i < σ.length:=by rw [I.len];exact (List.getElem?_eq_some_iff.mp hi).1
 exact wpAny_assign_Name (store_ok I hN hi hx r (fun s' I'=>⟨_,H,_,M,I',Grow.refl _,R.set hl i1,q⟩) hf)
def GVs (X:Cx) (G:Ga) (M:MH) (ts:List Expr) (ds:List D) (Q:Ga->MH->Prop):Prop :=
 ∀ (pins:List (Addr × Obj)) (s:Shared) (σ:St) (H:Hp) (vs:List V) (us:List Value),Inv X pins σ H s->Rel X G M σ H->Vals vs us->IsL H ds vs ->
  wpAny (model X.prog X.w) X.A (assignInOrder ((assignEach ts X.env).map (·.2)) us) (fun _ s'=>∃ σ' H' G' M',Inv X pins σ' H' s'/\Grow H H'/\Rel X G' M' σ' H'/\Q G' M') X.xe s
theorem gvs_nil {Qg:Ga->MH->Prop} (q:Qg G M):GVs X G M [] [] Qg:=by
 intro pins s σ H vs us I R r i
 rw [isl_nil] at i;subst i
 cases r
 exact assignInOrder_nil ⟨σ,H,G,M,I,Grow.refl _,R,q⟩
theorem gvs_cons {tg:Expr} {ts:List Expr} {d:D} {ds:List D} {Qg:Ga->MH->Prop} (h:GV X G M tg d fun G1 M1=>GVs X G1 M1 ts ds Qg) (hs:(assignEach (tg :: ts) X.env).map (·.2)=assign tg X.env :: (assignEach ts X.env).map (·.2):=by rfl):GVs X G M (tg :: ts) (d :: ds) Qg:=by
 intro pins s σ H vs us I R r i
 rw [isl_cons] at i
 obtain ⟨x,xs,rfl,i1,i2⟩:=i
 cases r with
 | cons r rr =>
  rw [hs]
  refine assignInOrder_cons (thn (h pins s σ H _ _ I R r i1) fun _ s1 ⟨σ1,H1,G1,M1,I1,g1,R1,q1⟩=>?_)
  exact thn (q1 pins s1 σ1 H1 _ _ I1 R1 rr (i2.grow g1)) fun _ s2 ⟨σ2,H2,G2,M2,I2,g2,R2,q2⟩=>⟨σ2,H2,G2,M2,I2,g1.trans g2,R2,q2⟩
theorem gv_tup {ts:List Expr} {k:Nat} {ds:List D} {Qg:Ga->MH->Prop} (hc:X.calm=true) (h:GVs X G M ts ds Qg) (hn:(assignEach ts X.env).length=ds.length:=by rfl) (hst:(assignEach ts X.env).findIdx? (·.1)=none:=by rfl):GV X G M (.Tuple ts k pos) (.tup ds) Qg:=by
 intro pins s σ H v u I R r i
 rw [is_tup] at i
 obtain ⟨a,xs,rfl,h1,h2⟩:=i
 cases r
 obtain ⟨its,rv,ht,hz⟩:=I.tuple (SqT.of h1)
 refine assign_Tuple_tuple (I.ok.hd hc) ht (by simp [hn,h2.len,rv.length]) hst fun h' hx=>?_
 have I1:Inv X pins σ H { s with heap:=h' }:=I.kept (t':=s.toks) fun b o e=>hx b o (Nat.ne_of_lt (Heap.lt_size e)) e
 exact h pins _ σ H xs _ I1 R (by simpa using rv) h2
theorem ex_asg {tg:Expr} (h:EV X G M e fun d M1=>GV X G M1 tg d E.nx) (hs:swapsWithSole [tg] e pos.line X.env=pure false:=by rfl) (hw:swappedStores [tg] e X.env=pure none:=by rfl)
  (h1:(assignEach [tg] X.env).map (·.2)=[assign tg X.env]:=by rfl):EX X G M (.Assign [tg] e pos) E:=by
 intro pins s σ H I R
 refine wpAny_Assign_stores (thn (h pins s σ H I R) fun v s1 ⟨x,H1,d,M1,I1,r1,g1,i1,R1,q1⟩=>?_) hs hw
 rw [h1]
 exact thn (q1 pins s1 σ H1 x v I1 R1 r1 i1) fun _ s2 ⟨σ2,H2,G2,M2,I2,g2,R2,q2⟩=>⟨σ2,H2,G2,M2,I2,g1.trans g2,R2,q2⟩
theorem ex_for {tg iter:Expr} {body:List Stmt} {wi:TI} (hp:PassesOwn (model X.prog X.w) X.A X.env X.xe) (hc:X.calm=true) (hi:PI X tg iter wi)
  (h:∀ σ H,KF X.K H->Rel X G M σ H->wi σ H fun J H1=>Grow H H1/\∃ (M1:MH) (n:Nat) (Iv:Nat->Ga->MH->Prop),Rel X G M1 σ H1/\Iv 0 G M1 /\
   ∀ i G' M',i<=n->Iv i G' M'->(i=n->E.nx G' M')/\(∀ σ' H',Grow H1 H'->Rel X G' M' σ' H'->(i=n->J.stop i H')/\(i < n->J.go i H'/\∀ x H2,J.yld i H' x H2->Grow H' H2/\∃ d M2,Is H2 d x/\MemOk X.K M2 H2 /\
    GV X G' M2 tg d fun G3 M3=>EXs X G3 M3 body { nx:=Iv (i+1),ct:=Iv (i+1),bk:=E.nx,rt:=E.rt })))
  (hs:∀ x,foldedSetIterable iter X.env x=pure x:=by intro _;rfl):EX X G M (.For tg iter body [] pos) E:=by
 intro pins s σ H I R
 refine wpAny_For (thn (hi pins s σ H _ I (h σ H (kf_of I) R)) fun v s1 h1=>thn h1 fun itv s2 h2=>?_) hs
 obtain ⟨it,fp,tn,J,H2,e,I2,T,st2,f2,g2,M2,n,Iv,R2,w0,turn⟩:=h2
 subst e
 have stat:∀ {H':Hp},(∀ b∈fp,H' b=none)->∀ b∈fp,FpOk X pins H' b:=fun hn b hb=>⟨hn b hb,(f2 b hb).2⟩
 refine codeAny_forLoop_any (fun m s'=>∃ i σ' H' G' M',Inv X pins σ' H' s'/\Grow H2 H'/\Rel X G' M' σ' H'/\tn i s'.heap/\(∀ b∈fp,H' b=none)/\i<=n/\m=n - i/\Iv i G' M') ?_ n ⟨0,σ,H2,G,M2,I2,Grow.refl _,R2,st2,fun b hb=>(f2 b hb).1,Nat.zero_le _,rfl,w0⟩
 rintro m s3 ⟨i,σ3,H3,G3,M3,I3,g3,R3,st3,fr3,hin,rfl,w3⟩
 obtain ⟨tn1,tn2⟩:=turn i G3 M3 hin w3
 obtain ⟨stop,go⟩:=tn2 σ3 H3 g3 R3
 by_cases hlt:i < n
 ·obtain ⟨go,step⟩:=go hlt
  refine wpAny_passesOwn hp (thn (T.item X rfl rfl rfl hc i pins s3 σ3 H3 X.xe I3 (stat fr3) st3 go) fun r s4 ⟨u,hr,h4⟩=>?_)
  subst hr
  refine wpAny_passesOwn hp (thn h4 fun _ s5 ⟨x,H5,I5,r5,y5,st5,fr5⟩=>?_)
  have I5':=I5.pinned (stat fr5) (T.obj _ _ st5)
  obtain ⟨g5,d,M5,i5,m5,gv⟩:=step x H5 y5
  refine wpAny_passesOwn hp (thn (gv _ s5 σ3 H5 x u I5' (R3.to g5 m5) r5 i5) fun _ s6 ⟨σ6,H6,G6,M6,I6,g6,R6,q6⟩=>?_)
  refine wpAny_passesOwn hp (thn (q6 _ s6 σ6 H6 I6 R6) fun f s7 q7=>?_)
  have gg:Grow H2 H6:=(g3.trans g5).trans g6
  have again:∀ {σ7:St} {H7:Hp} {G7:Ga} {M7:MH},Inv X (pins++pinsAt fp s5.heap) σ7 H7 s7->Grow H6 H7->Rel X G7 M7 σ7 H7->Iv (i+1) G7 M7 ->
    ∃ m,m < n - i/\∃ i σ' H' G' M',Inv X pins σ' H' s7/\Grow H2 H'/\Rel X G' M' σ' H'/\tn i s7.heap/\(∀ b∈fp,H' b=none)/\i<=n/\m=n - i/\Iv i G' M':=fun {σ7 H7 G7 M7} I7 g7 R7 n7=>by
   refine ⟨n - (i+1),by omega,i+1,σ7,H7,G7,M7,I7.unpinned,gg.trans g7,R7,T.keep _ _ _ st5 fun b hb o e=>(I7.pin (b,o) (List.mem_append_right _ (List.mem_append_right _ (mem_pinsAt hb e)))).1,fun b hb=>?_,hlt,rfl,n7⟩
   obtain ⟨o,e,d⟩:=T.obj _ _ st5 b hb
   exact (I7.pin (b,o) (List.mem_append_right _ (List.mem_append_right _ (mem_pinsAt hb e)))).2.1
  cases f with
  | next=>obtain ⟨σ7,H7,G7,M7,I7,g7,R7,n7⟩:=q7;exact again I7 g7 R7 n7
  | cont=>obtain ⟨σ7,H7,G7,M7,I7,g7,R7,n7⟩:=q7;exact again I7 g7 R7 n7
  | brk=>obtain ⟨σ7,H7,G7,M7,I7,g7,R7,q7⟩:=q7;exact ⟨σ7,H7,G7,M7,I7.unpinned,g2.trans (gg.trans g7),R7,q7⟩
  | ret v=>obtain ⟨x7,σ7,H7,d7,M7,I7,r7,g7,i7,R7,q7⟩:=q7;exact ⟨x7,σ7,H7,d7,M7,I7.unpinned,r7,g2.trans (gg.trans g7),i7,R7,q7⟩
 ·have e:i=n:=by omega
  subst e
  refine wpAny_passesOwn hp (thn (T.done X rfl rfl rfl hc i pins s3 σ3 H3 X.xe I3 (stat fr3) st3 (stop rfl)) fun r s4 ⟨hr,I4⟩=>?_)
  subst hr
  exact wpAny_execs_nil ⟨σ3,H3,G3,M3,I4,g2.trans g3,R3,tn1 rfl⟩
end
end D3
namespace D3
open PySem PySem.Spec PyProof.Rows L2
section
variable {X:Cx} {G:Ga} {M:MH} {a b c e tg iter:Expr} {es rest:List Expr} {body:List Stmt} {pos:Pos} {Q:DK} {E:EndsD}
def tD (X:Cx) (G:Ga) (e:Expr):TE:=fun σ H Q=>∃ M Qd,Rel X G M σ H/\EV X G M e Qd/\∀ v H' d M',KF X.K H'->Grow H H'->Is H' d v->Rel X G M' σ H'->Qd d M'->Q v H'
theorem pe_D:PE X e (tD X G e):=by
 intro pins s σ H Q I ⟨M,Qd,R,h,k⟩
 exact thn (h pins s σ H I R) fun u s' ⟨v,H',d,M',I',r,g,i,R',q⟩=>⟨v,H',I',r,k v H' d M' (kf_of I') g i R' q⟩
def tAD (X:Cx) (G:Ga) (es:List Expr):TA:=fun σ H Q=>∃ M Qd,Rel X G M σ H/\AV X G M es Qd/\∀ vs H' ds M',KF X.K H'->Grow H H'->IsL H' ds vs->Rel X G M' σ H'->Qd ds M'->Q vs H'
theorem pa_D:PA X es (tAD X G es):=by
 intro pos pins s σ H Q I ⟨M,Qd,R,h,k⟩
 exact thn (h pos pins s σ H I R) fun u s' ⟨v,H',d,M',I',r,g,i,R',q⟩=>⟨v,H',I',r,k v H' d M' (kf_of I') g i R' q⟩
theorem ex_for_list (hp:PassesOwn (model X.prog X.w) X.A X.env X.xe) (hc:X.calm=true)
  (h:EV X G M iter fun d M1=>∃ (l:Addr) (ds:List D) (Iv:Nat->Ga->MH->Prop),d=.ref l/\(M1 l=some (.lst ds)\/M1 l=some (.ro ds))/\Iv 0 G M1/\(∀ i G' M',i<=ds.length->Iv i G' M'->M' l=M1 l) /\
   (∀ i x G' M',ds[i]?=some x->Iv i G' M'->GV X G' M' tg x fun G3 M3=>EXs X G3 M3 body { nx:=Iv (i+1),ct:=Iv (i+1),bk:=E.nx,rt:=E.rt })/\(∀ G' M',Iv ds.length G' M'->E.nx G' M'))
  (hs:∀ x,foldedSetIterable iter X.env x=pure x:=by intro _;rfl):EX X G M (.For tg iter body [] pos) E:=by
 refine ex_for hp hc (pi_list (pe_D (G:=G))) (fun σ H kf R=>?_) hs
 refine ⟨M,_,R,h,fun v H' d M' kf' g i R' q=>?_⟩
 obtain ⟨l,ds,Iv,e,hl,h0,keep,step,fin⟩:=q
 subst e
 rw [is_ref] at i;subst i
 have sq:∀ {H2:Hp} {M2:MH},MemOk X.K M2 H2->M2 l=M' l->∃ xs,SqL X.K H2 l xs/\IsL H2 ds xs:=fun {H2 M2} m e=>by
  rcases hl with hl | hl
  ·obtain ⟨xs,h1,h2⟩:=m l _ (e.trans hl);exact ⟨xs,SqL.of h1,h2⟩
  ·exact m l _ (e.trans hl)
 obtain ⟨xs0,hx0,hi0⟩:=sq R'.mem rfl
 refine ⟨l,rfl,⟨xs0,hx0⟩,g,M',ds.length,Iv,R',h0,fun i G2 M2 hin w2=>⟨fun e=>fin G2 M2 (by rw [<- e];exact w2),fun σ2 H2 _ R2=>?_⟩⟩
 obtain ⟨xs,hx,hxi⟩:=sq R2.mem (keep i G2 M2 hin w2)
 have hlen:=hxi.len
 refine ⟨fun e=>⟨xs,hx,by omega⟩,fun hlt=>⟨⟨xs,xs[i]'(by omega),hx,by simp⟩,fun x H3 y=>?_⟩⟩
 obtain ⟨e,y⟩:=y
 subst e
 have e1:=y xs hx
 obtain ⟨d,e2,i2⟩:=hxi.get' e1
 exact ⟨Grow.refl _,d,M2,i2,R2.mem,step i d G2 M2 e2 w2⟩
theorem ex_for_tup (hp:PassesOwn (model X.prog X.w) X.A X.env X.xe) (hc:X.calm=true)
  (h:EV X G M iter fun d M1=>∃ (ds:List D) (Iv:Nat->Ga->MH->Prop),d=.tup ds/\Iv 0 G M1 /\
   (∀ i x G' M',ds[i]?=some x->Iv i G' M'->GV X G' M' tg x fun G3 M3=>EXs X G3 M3 body { nx:=Iv (i+1),ct:=Iv (i+1),bk:=E.nx,rt:=E.rt })/\(∀ G' M',Iv ds.length G' M'->E.nx G' M'))
  (hs:∀ x,foldedSetIterable iter X.env x=pure x:=by intro _;rfl):EX X G M (.For tg iter body [] pos) E:=by
 refine ex_for hp hc (pi_tup (pe_D (G:=G))) (fun σ H kf R=>?_) hs
 refine ⟨M,_,R,h,fun v H' d M' kf' g i R' q=>?_⟩
 obtain ⟨ds,Iv,e,h0,step,fin⟩:=q
 subst e
 rw [is_tup] at i
 obtain ⟨l,xs,rfl,hx,hxi⟩:=i
 have hlen:=hxi.len
 refine ⟨l,rfl,⟨xs,SqT.of hx⟩,g,M',ds.length,Iv,R',h0,fun i G2 M2 hin w2=>⟨fun e=>fin G2 M2 (by rw [<- e];exact w2),fun σ2 H2 g2 R2=>?_⟩⟩
 have hx2:SqT X.K H2 l xs:=SqT.of (g2 _ _ hx)
 refine ⟨fun e=>⟨xs,hx2,by omega⟩,fun hlt=>⟨⟨xs,xs[i]'(by omega),hx2,by simp⟩,fun x H3 y=>?_⟩⟩
 obtain ⟨e,y⟩:=y
 subst e
 have e1:=y xs hx2
 obtain ⟨d,e2,i2⟩:=(hxi.grow g2).get' e1
 exact ⟨Grow.refl _,d,M2,i2,R2.mem,step i d G2 M2 e2 w2⟩
theorem ex_for_range {p:Pos} (hp:PassesOwn (model X.prog X.w) X.A X.env X.xe) (hc:X.calm=true) (hm:X.mg "range" = none)
  (h:AV X G M [e] fun ds M1=>∃ (n:Int) (Iv:Nat->Ga->MH->Prop),ds=[.int n]/\-(2 ^ 62)<=n/\n < 2 ^ 62/\Iv 0 G M1 /\
   (∀ (i:Nat) G' M',i < n.toNat->Iv i G' M'->GV X G' M' tg (.int i) fun G3 M3=>EXs X G3 M3 body { nx:=Iv (i+1),ct:=Iv (i+1),bk:=E.nx,rt:=E.rt })/\(∀ G' M',Iv n.toNat G' M'->E.nx G' M'))
  (hg:Gl X "range" := by rfl) (hse:starEach [e] X.env=[(false,eval e X.env)]:=by rfl) (hs:∀ x,foldedSetIterable (.Call (.Name "range" p) [e] [] pos) X.env x=pure x:=by intro _;rfl) {pos':Pos}:EX X G M (.For tg (.Call (.Name "range" p) [e] [] pos) body [] pos') E:=by
 refine ex_for hp hc (pi_range1 hg hm (pa_D (G:=G)) hse) (fun σ H kf R=>?_) hs
 refine ⟨M,_,R,h,fun vs H' ds M' kf' g i R' q=>?_⟩
 obtain ⟨n,Iv,e,h1,h2,h0,step,fin⟩:=q
 subst e
 obtain ⟨v,rfl,hv⟩:=isl1 i
 rw [is_int] at hv;subst hv
 refine ⟨n,rfl,h1,h2,g,M',n.toNat,Iv,R',h0,fun i G2 M2 hin w2=>⟨fun e=>fin G2 M2 (by rw [<- e];exact w2),fun σ2 H2 _ R2=>⟨fun e=>?_,fun hlt=>⟨hlt,fun x H3 y=>?_⟩⟩⟩⟩
 ·show n.toNat<=i
  omega
 ·obtain ⟨e,y⟩:=y
  subst e;subst y
  refine ⟨Grow.refl _,.int i,M2,is_int.mpr (by simp),R2.mem,step i G2 M2 hlt w2⟩
def startG (N:List Str) (ds:List D):Ga:=ds.map some++List.replicate (N.length - ds.length) none
theorem rel_start {X:Cx} {N:List Str} {ds:List D} {vs:List V} {M:MH} {H:Hp} (i:IsL H ds vs) (m:MemOk X.K M H):Rel X (startG N ds) M (L2.start N vs) H:=by
 refine ⟨fun j d e=>?_,m⟩
 have hl:=i.len
 unfold startG at e
 unfold L2.start
 by_cases hj:j < ds.length
 ·rw [List.getElem?_append_left (by simpa using hj),List.getElem?_map] at e
  cases q:ds[j]? with
  | none=>rw [q] at e;cases e
  | some d' =>
   rw [q] at e
   have e':d'=d:=by simpa using e
   subst e'
   obtain ⟨v,e2,h⟩:=i.get q
   refine ⟨v,?_,h⟩
   rw [List.getElem?_append_left (by simp;omega),List.getElem?_map,e2]
   rfl
 ·rw [List.getElem?_append_right (by simpa using hj),List.getElem?_replicate] at e
  split at e<;>cases e
end
section
variable {P:Program} {w:World} {K:PySem.W.Frag} {mg:Str->Option Value} {base:Heap}
theorem fn_D {x qual:Str} {st:Stmt} {f:Addr} {fd:FuncData} {N ps:List Str} {k:Nat} {sp:SpD} (F:Fun K x qual st f fd) (S:FnScope N ps (defScope st)) (len:∀ ds M Q,sp ds M Q->ds.length=ps.length)
  (hbody:∀ (cdv:Value) (A:Around) (outer:List Env) (s:Shared) (H:Hp) (EE:XK) (ds:List D) (M:MH) (Q:DK),Room k (A.deeper (envOfC qual (defScope st) s.heap.objs.size f cdv))->sp ds M Q ->
   EXs (cxOf CX0 P w K mg base N qual (defScope st) f cdv A outer s H EE).nox (startG N ds) M (defBody st) { nx:=fun _ M'=>Q .non M',rt:=Q }):FnOk P w K mg base CX0 (k+1) f fd ps (liftSp K sp):=by
 refine F.ok S (fun vs H Q E h=>?_) (fun cdv A outer s H vs Q E hr h=>?_)
 ·obtain ⟨ds,M,Qd,i,_,h,_⟩:=h
  rw [<- i.len];exact len _ _ _ h
 obtain ⟨ds,M,Qd,i,m,h,k⟩:=h
 have B:=hbody cdv A outer s H E ds M Qd hr h
 refine ⟨fun D σ' H'=>σ'=L2.start N vs/\H'=H/\D.nx=(fun _ H'=>Q .non H')/\D.rt=Q,?_,rfl,rfl,rfl,rfl⟩
 intro pins s' σ' H' D I ⟨e1,e2,e3,e4⟩
 subst e1;subst e2
 refine thn (B pins s' _ _ I (rel_start i m)) fun fl s'' q=>?_
 cases fl with
 | next =>
  obtain ⟨σ2,H2,G2,M2,I2,g2,R2,q2⟩:=q
  refine ⟨σ2,H2,I2,?_⟩
  rw [e3]
  exact k .non H2 .non M2 g2 (is_non.mpr rfl) R2.mem q2
 | brk=>obtain ⟨_,_,_,_,_,_,_,z⟩:=q;exact z.elim
 | cont=>obtain ⟨_,_,_,_,_,_,_,z⟩:=q;exact z.elim
 | ret u =>
  obtain ⟨v,σ2,H2,d,M2,I2,r2,g2,i2,m2,q2⟩:=q
  refine ⟨v,σ2,H2,I2,r2,?_⟩
  rw [e4]
  exact k v H2 d M2 g2 i2 m2 q2
theorem cal_D {x:Str} {st:Stmt} {f:Addr} {fd:FuncData} {ps:List Str} {k:Nat} {sp:SpD} (F:Fun K x x st f fd) (G:FnOk P w K mg base CX0 k f fd ps (liftSp K sp)) (b:Binds K fd ps []) (m:mg x=some (.ref f)):Cal P w K mg base k x sp :=
 ⟨f,fd,ps,G,m,F.kp,b⟩
theorem Cal.mono {j k:Nat} {x:Str} {sp:SpD} (C:Cal P w K mg base j x sp) (h:j<=k):Cal P w K mg base k x sp :=
 let ⟨f,fd,ps,F,m,kp,b⟩:=C.ex;⟨f,fd,ps,F.mono h,m,kp,b⟩
end
end D3
namespace D3
open PySem PySem.Spec PyProof.Rows L2
theorem compLoop_own {prog:Program} {w:World} {A:Around} {R:Result->Shared->Prop} {s:Shared} {elt target iter:Expr} {ifs:List Expr} {scope:Scope} {pos:Pos} {it acc:Value} {env:Env} (I:Nat->Shared->Prop)
  (turn:∀ n s,I n s->wpAny (model prog w) A (pyNext it) (fun r s1=>match r with
   | none=>R (.ok .next) s1
   | some v=>wpAny (model prog w) A (letOwnedTupleGo target it v) (fun _ s2=>wpAny (model prog w) A (assign target env v) (fun _ s2 =>
     wpAny (model prog w) A (forIn ifs true fun c r=>if r=true then do let ok <- isTrue c env (eval c env);pure (ForInStep.yield ok) else pure (ForInStep.yield r)) (fun ok s3 =>
      if ok=true then wpAny (model prog w) A (eval elt env) (fun x s4 =>
       wpAny (model prog w) A (call (.builtin "list.append") [acc,x]) (fun _ s5=>∃ m,m < n/\I m s5) (fun _ _=>False) s4) (fun _ _=>False) s3
      else ∃ m,m < n/\I m s3) (fun _ _=>False) s2) (fun _ _=>False) s2) (fun _ _=>False) s1) (fun _ _=>False) s)
  (n:Nat) (h:I n s) :
  codeAny (model prog w) A (.compLoop (.ListComp elt [⟨target,iter,ifs,0⟩] scope pos) 0 it acc env) R s:=by
 refine codeAny_loop rfl I (fun n s hI=>?_) n h
 show wpAny _ A ((compTurn (.ListComp elt [⟨target,iter,ifs,0⟩] scope pos) 0 it acc env).onRaise (fun x=>do noteFrame x env;theTreesLotGoes x)) _ _ s
 refine wpAny_noted ?_
 rw [compTurn_list]
 have no:∀ {α:Type} {t:Sem α} {Q:α->Shared->Prop} {E:Value->Shared->Prop} {s:Shared},wpAny (model prog w) A t Q (fun _ _=>False) s->wpAny (model prog w) A t Q E s:=fun h=>wpAny_mono h (fun _ _ x=>x) fun _ _ x=>x.elim
 refine wpAny_bind (wpAny_standAt (wpAny_bind (no (thn (turn n s hI) fun r s1 h1=>?_))))
 cases r with
 | none=>exact wpAny_pure h1
 | some v =>
  refine wpAny_bind (no (thn h1 fun _ s2 h2=>?_))
  refine wpAny_bind (no (thn h2 fun _ s3 h3=>wpAny_bind (no (thn h3 fun ok s4 h4=>?_))))
  cases ok with
  | false=>exact wpAny_pure ⟨rfl,h4⟩
  | true =>
   exact wpAny_bind (wpAny_bind (no (thn h4 fun x s5 h5=>wpAny_bind (no (thn h5 fun _ s6 h6=>wpAny_pure (wpAny_pure ⟨rfl,h6⟩))))))
def compCx (X:Cx) (N:List Str) (scope:Scope) (cl:List (Str × Addr)) (C:Addr) (s:Shared) (H:Hp) (ex:List Addr):Cx :=
 { X with N:=N,s₀:=s,H₀:=H,env:=compEnvC scope cl C X.env,outer:=X.stack,ex:=ex,fn:=fun _=>false,pn:=[] }
structure CompOk (X:Cx) (own:List Str) (js:List Nat) (N:List Str) (scope:Scope) (cl:List (Str × Addr)):Prop where
 clos:closureFor scope X.env=pure cl
 kind:scope.kind=.function
 names:∀ x∈scope.names,x.2=.local->scope.names.lookup x.1=some .local
 nocell:∀ x∈scope.names,x.2≠.cell
 cells:∀ x c,cl.lookup x=some c->X.env.cells.lookup x=some c
 has:∀ x,((relabel scope X.env).names.lookup x=some .cell\/(relabel scope X.env).names.lookup x=some .free)->∃ c,cl.lookup x=some c
 frees:∀ (k j:Nat),js[k]?=some j->∃ x,N[own.length+k]?=some x/\X.N[j]?=some x/\Vis X.env.scope x/\(∀ m h u,Look X.env h m x u->∃ c,cl.lookup x=some c/\h.IsCell c (some u)) /\
  ((relabel scope X.env).names.lookup x=some .cell\/(relabel scope X.env).names.lookup x=some .free)
 len:N.length=own.length+js.length
def compG (own:List Str) (js:List Nat) (G:Ga):Ga:=List.replicate own.length none++js.map fun j=>(G[j]?).getD none
def Sub (G G':Ga):Prop:=∀ (i:Nat) (d:D),G[i]?=some (some d)->G'[i]?=some (some d)
theorem Rel.sub {X:Cx} {G G':Ga} {M:MH} {σ:St} {H:Hp} (R:Rel X G' M σ H) (s:Sub G G'):Rel X G M σ H:=⟨fun i d e=>R.loc i d (s i d e),R.mem⟩
def TVs (X:Cx) (G:Ga) (M:MH) (cs:List Expr) (Q:Bool->MH->Prop):Prop:=match cs with
 | []=>Q true M
 | [c]=>TV X G M c Q
 | _=>False
theorem tvs_run {X:Cx} {G:Ga} {M:MH} {cs:List Expr} {Q:Bool->MH->Prop} (h:TVs X G M cs Q) {pins:List (Addr × Obj)} {s:Shared} {σ:St} {H:Hp} (I:Inv X pins σ H s) (R:Rel X G M σ H) :
  wpAny (model X.prog X.w) X.A (forIn cs true fun c r=>if r=true then do let ok <- isTrue c X.env (eval c X.env);pure (ForInStep.yield ok) else pure (ForInStep.yield r)) (TPD X pins σ G H Q) X.xe s:=by
 unfold TVs at h
 split at h
 ·exact wpAny_tests_nil ⟨H,M,I,Grow.refl _,R,h⟩
 ·exact wpAny_tests_one (h pins s σ H I R)
 ·exact h.elim
section
variable {X:Cx} {G:Ga} {M:MH} {elt tg iter:Expr} {ifs:List Expr} {scope:Scope} {pos:Pos} {Q:DK} {own:List Str} {js:List Nat} {N:List Str} {cl:List (Str × Addr)}
def Walks (K:PySem.W.Frag) (M:MH) (J:It) (H:Hp) (ds:List D):Prop:=∀ H',Grow H H'->MemOk K M H'->(∀ i,i=ds.length->J.stop i H') /\
 ∀ i,i < ds.length->J.go i H'/\∀ x H2,J.yld i H' x H2->Grow H' H2/\(∀ b o,H' b=some o->H2 b=some o)/\MemOk K M H2/\∃ d,ds[i]?=some d/\Is H2 d x
theorem comp_ok (T:CompOk X own js N scope cl) {pins:List (Addr × Obj)} {σ:St} {H:Hp} {s:Shared} {h1:Heap} {tk:Nat} {fp:List Addr} (I:Inv X pins σ H s) (hf:∀ b∈fp,FpOk X pins H b) (ht:∀ b∈fp,∃ o,s.heap.get? b=some o)
  (hn:h1.Ns s.heap.objs.size (fun _=>none)) (hk:∀ b o,s.heap.get? b=some o->h1.get? b=some o) (R:Rel X G M σ H) :
  ∃ σc,Inv (compCx X N scope cl s.heap.objs.size s H fp) [] σc H { s with heap:=h1,toks:=tk }/\Rel (compCx X N scope cl s.heap.objs.size s H fp) (compG own js G) M σc H:=by
 let σc:St:=List.replicate own.length none++js.map fun j=>(σ[j]?).getD none
 have hlow:∀ b∈fp,b < s.heap.objs.size:=fun b hb=>let ⟨o,e⟩:=ht b hb;Heap.lt_size e
 refine ⟨σc,⟨?_,rfl,I.bare,Un.kept hk,?_,?_,?_,?_,?_,I.hok.kept hk,?_⟩,?_⟩
 ·exact {
   mod:=I.ok.mod
   kind:=T.kind
   glob:=I.ok.glob
   blt:=I.ok.blt
   above:=Nat.le_refl _
   inj:=fun x y c h1 h2=>I.ok.inj x y c (T.cells x c h1) (T.cells y c h2)
   has:=fun x hx=>T.has x hx
   cab:=fun x c hx _=>nomatch hx
   hd:=I.ok.hd
   frames:=I.ok.frames
   stk:=.inl rfl
   exf:=fun b hb=>⟨Nat.ne_of_lt (hlow b hb),fun x c e=>(hf b hb).2.2.2.2.1 x c (T.cells x c e)⟩
   bs:=I.bs
   bsz:=Nat.le_trans I.ok.bsz I.sz
   noex:=fun b o e hb=>by
    rcases (hf b hb).2.2.2.1 with z | z
    ·exact I.ok.noex b o e z
    ·exact absurd (Nat.lt_of_lt_of_le (Heap.lt_size (I.ok.bs b o e).1) z) (Nat.lt_irrefl _)
   exfs:=fun b hb z=>by
    rcases List.mem_cons.mp (I.stkSub b z) with e | e
    ·exact (hf b hb).2.1 e
    ·exact (hf b hb).2.2.1 e
   funs:=I.stack
   frf:=I.stkFree }
 ·refine ⟨_,hn,fun i x v e1 e2 e3=>?_⟩
  obtain ⟨m,hm,hl⟩:=I.loc
  have hi:own.length<=i:=by
   refine Nat.le_of_not_lt fun z=>?_
   have e2':(List.replicate own.length none++js.map fun j=>(σ[j]?).getD none)[i]?=some (some v):=e2
   rw [List.getElem?_append_left (by simpa using z),List.getElem?_replicate] at e2'
   split at e2'<;>cases e2'
  have e2':(List.replicate own.length none++js.map fun j=>(σ[j]?).getD none)[i]?=some (some v):=e2
  rw [List.getElem?_append_right (by simpa using hi),List.getElem?_map,List.length_replicate] at e2'
  cases q:js[i - own.length]? with
  | none=>rw [q] at e2';cases e2'
  | some j =>
   rw [q] at e2'
   have e4:(σ[j]?).getD none=some v:=by simpa using e2'
   obtain ⟨y,n1,n2,n3,n4,n5⟩:=T.frees _ _ q
   have e5:own.length+(i - own.length)=i:=by omega
   rw [e5] at n1
   have e6:N[i]?=some x:=e1
   rw [e6] at n1;cases n1
   have e7:σ[j]?=some (some v):=by
    cases z:σ[j]? with
    | none=>rw [z] at e4;cases e4
    | some w=>rw [z] at e4;exact congrArg some e4
   obtain ⟨u,r,l⟩:=hl j x v n2 e7 n3
   obtain ⟨c,c1,c2⟩:=n4 m s.heap u l
   refine ⟨u,r,.inr ⟨n5,c,c1,?_⟩⟩
   obtain ⟨o,ho,hd⟩:=c2
   exact ⟨o,hk _ _ ho,hd⟩
 ·intro x c e
  obtain ⟨v,o,ho,hd⟩:=I.cell x c (T.cells x c e)
  exact ⟨v,o,hk _ _ ho,hd⟩
 ·exact I.hok.fresh (Nat.le_refl _)
 ·exact fun x c e=>I.freeC x c (T.cells x c e)
 ·intro p hp
  exact absurd (show p∈([] : List (Addr × Obj)) from hp) (by simp)
 ·show (List.replicate own.length none++js.map fun j=>(σ[j]?).getD none).length=N.length
  rw [List.length_append,List.length_replicate,List.length_map,T.len]
 ·refine ⟨fun i d e=>?_,R.mem⟩
  unfold compG at e
  have hi:own.length<=i:=by
   refine Nat.le_of_not_lt fun z=>?_
   rw [List.getElem?_append_left (by simpa using z),List.getElem?_replicate] at e
   split at e<;>cases e
  rw [List.getElem?_append_right (by simpa using hi),List.getElem?_map,List.length_replicate] at e
  cases q:js[i - own.length]? with
  | none=>rw [q] at e;cases e
  | some j =>
   rw [q] at e
   have e4:(G[j]?).getD none=some d:=by simpa using e
   have e7:G[j]?=some (some d):=by
    cases z:G[j]? with
    | none=>rw [z] at e4;cases e4
    | some w=>rw [z] at e4;exact congrArg some e4
   obtain ⟨v,v1,v2⟩:=R.loc j d e7
   refine ⟨v,?_,v2⟩
   show (List.replicate own.length none++js.map fun j=>(σ[j]?).getD none)[i]?=some (some v)
   rw [List.getElem?_append_right (by simpa using hi),List.getElem?_map,List.length_replicate,q]
   show some ((σ[j]?).getD none)=some (some v)
   rw [v1];rfl
def Ext (M M':MH):Prop:=∀ a o,M a=some o->M' a=some o
theorem mset_mset {M:MH} {a:Addr} {o u:MO}:mset (mset M a o) a u=mset M a u:=by
 funext b;unfold mset;split<;>rfl
theorem ext_new {M:MH} {a:Addr} {o:MO} (h:M a=none):Ext M (mset M a o):=fun b u e=>mset_old h e
theorem MemOk.ext {K:PySem.W.Frag} {M M':MH} {H:Hp} (m:MemOk K M' H) (e:Ext M M'):MemOk K M H:=fun a o h=>m a o (e a o h)
theorem Inv.unblock {pins:List (Addr × Obj)} {σ σc:St} {H3 H':Hp} {s3 s':Shared} {C:Addr} {h':Heap} {fp:List Addr} (I3:Inv X pins σ H3 s3) (hf:∀ b∈fp,FpOk X pins H3 b) (I':Inv (compCx X N scope cl C s3 H3 fp) [] σc H' s')
  (hC:C=s3.heap.objs.size) (hs:Heap.SameBut C s'.heap h'):Inv X pins σ H' { s' with heap:=h' }:=by
 have ne:∀ b o,s3.heap.get? b=some o->b≠C:=fun b o e=>by rw [hC];exact Nat.ne_of_lt (Heap.lt_size e)
 have B:Un (frs X.stack) fp H3 H' s3.heap s'.heap:=I'.base
 have fC:H' C=none:=I'.free
 refine I3.call' (ch:=fp) I'.os ?_ ?_ I'.bare ?_
 ·exact {
   keep:=fun b o e n h1 h2=>(hs.2 b (ne b o e)).trans (B.keep b o e n h1 h2)
   slot:=fun b o e n h1 h2=>let ⟨sl,q⟩:=B.slot b o e n h1 h2;⟨sl,(hs.2 b (ne b o e)).trans q⟩
   free:=B.free
   there:=fun b o e h2=>let ⟨o',q⟩:=B.there b o e h2;⟨o',(hs.2 b (ne b o e)).trans q⟩
   tups:=B.tups
   frzs:=B.frzs
   tbls:=B.tbls }
 ·intro b u e
  refine (I'.hok b u e).stay (fun c v hc q=>(hs.2 c ?_).trans q) (fun _ q=>q) fun _ _ q=>q
  rintro rfl
  rcases hc with z | z
  ·rw [<- z,fC] at e;cases e
  ·rw [fC] at z;cases z
 ·intro b hb
  obtain ⟨h0,h1,h2,h3,h4,h5⟩:=hf b hb
  exact ⟨h3,h1,h4,h5⟩
def CompT (X:Cx) (G:Ga) (own:List Str) (js:List Nat) (N:List Str) (scope:Scope) (cl:List (Str × Addr)) (tg elt:Expr) (ifs:List Expr) (σ:St) (F:Addr->MH->Prop) (J:It) (H1:Hp):Prop :=
 ∃ (M1:MH) (ds:List D) (Iv:Addr->Nat->List D->MH->Prop),Rel X G M1 σ H1/\(∀ q i acc M' H',Grow H1 H'->MemOk X.K M' H'->Iv q i acc M'->(i=ds.length->J.stop i H')/\(i < ds.length->J.go i H'/\∀ x H2,J.yld i H' x H2->Grow H' H2/\(∀ b o,H' b=some o->H2 b=some o)/\∃ d,ds[i]?=some d/\Is H2 d x))/\(∀ q,M1 q=none->Iv q 0 [] (mset M1 q (.lst []))) /\
  (∀ Y:Cx,(∃ C s H fp,Y=compCx X N scope cl C s H fp)->∀ q i acc M' d,ds[i]?=some d->Iv q i acc M'->M' q=some (.lst acc)->GV Y (compG own js G) M' tg d fun G3 M3=>M3=M'/\Sub (compG own js G) G3/\TVs Y G3 M' ifs fun k M4=>M4=M'/\if k=true then EV Y G3 M' elt fun o M5=>M5 q=some (.lst acc)/\acc.length < sizeLine/\Iv q (i+1) (acc++[o]) (mset M5 q (.lst (acc++[o]))) else Iv q (i+1) acc M') /\
  ∀ q acc M',Iv q ds.length acc M'->M' q=some (.lst acc)->F q M'
theorem comp_core {wi:TI} {Ψ:It->Hp->Prop} {F:Addr->MH->Prop} {use:Option (Value->Sem Unit)} {Qc:Value->Shared->Prop} {p0:Pos} {pins:List (Addr × Obj)} {s:Shared} {σ:St} {H:Hp} (T:CompOk X own js N scope cl) (hxe:X.xe=fun _ _=>False) (hc:X.calm=true) (hi:PI X tg iter wi)
  (hs:∀ x,foldedSetIterable iter X.env x=pure x) (I:Inv X pins σ H s) (h:wi σ H Ψ) (k:∀ J H1,Ψ J H1->Grow H H1/\CompT X G own js N scope cl tg elt ifs σ F J H1)
  (fe:∀ q M' C s3 H3 fp σ' H' s',F q M'->Inv X pins σ H3 s3->(∀ b∈fp,FpOk X pins H3 b)->C=s3.heap.objs.size->Inv (compCx X N scope cl C s3 H3 fp) [] σ' H' s'->Grow H H'->Rel X G M' σ H'->compPost (model X.prog X.w) X.A X.xe use Qc (.ref q) C (.ok .next) s') :
  wpAny (model X.prog X.w) X.A (comprehension (.ListComp elt [⟨tg,iter,ifs,0⟩] scope pos) scope X.env p0 (newList []) false (eval iter X.env) use) Qc X.xe s:=by
 refine wpAny_comprehension_free (use:=use) rfl hs T.clos T.kind T.names (thn (hi pins s σ H _ I h) fun v s1 h1=>thn h1 fun itv s2 h2=>?_)
 obtain ⟨it,fp,tn,J,H2,e,I2,TT,st2,f2,psi⟩:=h2
 obtain ⟨g2,M1,ds,Iv,R2,walks,iv0,block,fin⟩:=k J H2 psi
 subst e
 refine wpAny_newObj_type ?_ (by show 0<=sizeLine;exact Nat.zero_le _)
 have hq:H2 s2.heap.objs.size=none:=I2.hok.fresh (Nat.le_refl _)
 have I3:Inv X pins σ (upd H2 s2.heap.objs.size (.lst [])) { s2 with heap:=s2.heap.push { cls:=.type "list",dict:=none,data:=.seq ([] : List Value).toArray } } :=
  I2.laid (t':=s2.toks) (fun b u e=>Heap.get?_push_of_some _ e) (Nat.le_refl _) ⟨Nat.zero_le _,[],0,.nil,Heap.get?_push_size _ rfl⟩
 have gq:Grow H2 (upd H2 s2.heap.objs.size (.lst [])):=grow_new hq
 have mq:M1 s2.heap.objs.size=none:=R2.mem.fresh hq (kf_of I3)
 have R3:Rel X G (mset M1 s2.heap.objs.size (.lst [])) σ (upd H2 s2.heap.objs.size (.lst [])):=R2.to gq (R2.mem.lay hq ⟨[],upd_same,isl_nil.mpr rfl⟩)
 have f3:∀ b∈fp,FpOk X pins (upd H2 s2.heap.objs.size (.lst [])) b:=fun b hb=>by
  refine ⟨?_,(f2 b hb).2⟩
  rw [upd_ne]
  ·exact (f2 b hb).1
  ·intro z
   obtain ⟨o,e,_⟩:=TT.obj _ _ st2 b hb
   rw [z] at e
   exact absurd (Heap.lt_size e) (Nat.lt_irrefl _)
 have ft:∀ b∈fp,∃ o,(s2.heap.push { cls:=.type "list",dict:=none,data:=.seq ([] : List Value).toArray }).get? b=some o:=fun b hb=>by
  obtain ⟨o,e,_⟩:=TT.obj _ _ st2 b hb
  exact ⟨o,Heap.get?_push_of_some _ e⟩
 have stq:tn 0 (s2.heap.push { cls:=.type "list",dict:=none,data:=.seq ([] : List Value).toArray }):=TT.keep _ _ _ st2 fun b hb o e=>Heap.get?_push_of_some _ e
 generalize s2.heap.objs.size=q at hq I3 gq mq R3 f3 ⊢
 refine wpAny_newFunctionEnv (T.nocell) (by intro y hy;simp at hy) (fun h1 hns1 hsb1=>?_) T.kind
 generalize hH3:upd H2 q (.lst [])=H3 at I3 R3 f3 gq
 generalize hs3:({ s2 with heap:=s2.heap.push { cls:=.type "list",dict:=none,data:=.seq ([] : List Value).toArray } }:Shared)=s3 at I3 hns1 hsb1 ⊢
 have es3:s3.heap=s2.heap.push { cls:=.type "list",dict:=none,data:=.seq ([] : List Value).toArray }:=by rw [<- hs3]
 rw [<- es3] at stq ft
 have hk1:∀ b o,s3.heap.get? b=some o->h1.get? b=some o:=fun b o e=>hsb1.extBut b o (Nat.ne_of_lt (Heap.lt_size e)) (Heap.get?_push_of_some _ e)
 obtain ⟨σc,Ic,Rc⟩:=comp_ok (tk:=s3.toks+([] : List (Str × Value)).length) T I3 f3 ft (by simpa using hns1) hk1 R3
 have stc:tn 0 h1:=TT.keep _ _ _ stq fun b hb o e=>hk1 b o e
 have hC:∃ C,C=s3.heap.objs.size:=⟨_,rfl⟩
 obtain ⟨C,hC⟩:=hC
 rw [<- hC] at Ic Rc
 generalize hY:compCx X N scope cl C s3 H3 fp=Y at Ic Rc
 have blockY:=block Y ⟨C,s3,H3,fp,hY.symm⟩
 have yA:Y.A=X.A:=by rw [<- hY];rfl
 have yp:Y.prog=X.prog:=by rw [<- hY];rfl
 have yw:Y.w=X.w:=by rw [<- hY];rfl
 have yK:Y.K=X.K:=by rw [<- hY];rfl
 have yc:Y.calm=true:=by rw [<- hY];exact hc
 have yx:Y.xe=fun _ _=>False:=by rw [<- hY];exact hxe
 have ye:Y.env=compEnvC scope cl C X.env:=by rw [<- hY];rfl
 have ypn:Y.pn=[]:=by rw [<- hY];rfl
 have yex:Y.ex=fp:=by rw [<- hY];rfl
 have fpY:∀ {H':Hp},(∀ b∈fp,H' b=none)->∀ b∈fp,FpOk Y [] H' b:=fun {H'} hn b hb=>by
  have o1:=Ic.ok.exf b (by rw [yex];exact hb)
  refine ⟨hn b hb,o1.1,Ic.ok.exfs b (by rw [yex];exact hb),.inl (by rw [yex];exact hb),o1.2,fun p hp=>?_⟩
  rw [ypn] at hp;exact absurd hp (by simp)
 have loop:∀ s4:Shared,s4={ s3 with heap:=h1,toks:=s3.toks+([] : List (Str × Value)).length } ->
   codeAny (model X.prog X.w) X.A (.compLoop (.ListComp elt [⟨tg,iter,ifs,0⟩] scope pos) 0 (.ref it) (.ref q) (compEnvC scope cl C X.env)) (compPost (model X.prog X.w) X.A X.xe use Qc (.ref q) C) s4:=by
  rintro s4 rfl
  refine compLoop_own (fun m s'=>∃ i σ' H' acc M',Inv Y [] σ' H' s'/\Grow H3 H'/\Rel Y (compG own js G) M' σ' H'/\M' q=some (.lst acc)/\Iv q i acc M'/\tn i s'.heap/\(∀ b∈fp,H' b=none)/\i<=ds.length/\m=ds.length - i) ?_ ds.length
   ⟨0,σc,H3,[],mset M1 q (.lst []),Ic,Grow.refl _,Rc,mset_same,iv0 q mq,stc,fun b hb=>(f3 b hb).1,Nat.zero_le _,rfl⟩
  rintro m s5 ⟨i,σ5,H5,acc,M5,I5,g5,R5,m5,v5,st5,fr5,hin,rfl⟩
  obtain ⟨wstop,wgo⟩:=walks q i acc M5 H5 (gq.trans g5) (by rw [<- yK];exact R5.mem) v5
  by_cases hlt:i < ds.length
  ·obtain ⟨go,yld⟩:=wgo hlt
   have it5:=TT.item Y yp yw yK yc i [] s5 σ5 H5 (fun _ _=>False) I5 (fpY fr5) st5 go
   rw [yA] at it5
   refine thn it5 fun r s6 ⟨u,hr,h6⟩=>?_
   subst hr
   refine thn h6 fun _ s7 ⟨x,H7,I7,r7,y7,st7,fr7⟩=>?_
   obtain ⟨g7,keep7,d,ed,i7⟩:=yld x H7 y7
   have I7':=I7.pinned (fpY fr7) (TT.obj _ _ st7)
   have R7:Rel Y (compG own js G) M5 σ5 H7:=R5.to g7 fun a o e=>(R5.mem a o e).stay g7 fun u h=>keep7 _ _ h
   have gv:=blockY q i acc M5 d ed v5 m5 _ s7 σ5 H7 x u I7' R7 r7 i7
   rw [yp,yw,yA,yx,ye] at gv
   refine thn gv fun _ s8 ⟨σ8,H8,G8,M8,I8,g8,R8,e8,sub8,tests⟩=>?_
   subst e8
   have back:∀ {σ':St} {H':Hp} {s':Shared},Inv Y ([]++pinsAt fp s7.heap) σ' H' s'->tn (i+1) s'.heap/\∀ b∈fp,H' b=none:=fun {σ' H' s'} I'=>by
    refine ⟨TT.keep _ _ _ st7 fun b hb o e=>(I'.pin (b,o) (List.mem_append_right _ (List.mem_append_right _ (mem_pinsAt hb e)))).1,fun b hb=>?_⟩
    obtain ⟨o,e,_⟩:=TT.obj _ _ st7 b hb
    exact (I'.pin (b,o) (List.mem_append_right _ (List.mem_append_right _ (mem_pinsAt hb e)))).2.1
   have tr:=tvs_run tests I8 R8
   rw [yp,yw,yA,yx,ye] at tr
   refine thn tr fun ok s9 ⟨H9,M9,I9,g9,R9,e9,elt8⟩=>?_
   subst e9
   cases ok with
   | false =>
    rw [if_neg (by decide)]
    rw [if_neg (by decide)] at elt8
    obtain ⟨t1,t2⟩:=back I9
    exact ⟨ds.length - (i+1),by omega,i+1,σ8,H9,acc,_,I9.unpinned,((g5.trans g7).trans g8).trans g9,R9.sub sub8,m5,elt8,t1,t2,hlt,rfl⟩
   | true =>
    rw [if_pos rfl]
    rw [if_pos rfl] at elt8
    have ev:=elt8 _ s9 σ8 H9 I9 R9
    rw [yp,yw,yA,yx,ye] at ev
    refine thn ev fun u9 s10 ⟨v10,H10,o10,M10,I10,r10,g10,i10,R10,e10,ez,eo⟩=>?_
    obtain ⟨xs,hx,hxi⟩:=R10.mem q _ e10
    have hlen:=hxi.len
    have ap:=mt_append (X:=Y) _ s10 σ8 H10 (.ref q) [v10] (.ref q) [u9] (fun _ H'=>H'=upd H10 q (.lst (xs++[v10]))) I10 rfl (.cons r10 .nil) ⟨q,xs,v10,rfl,rfl,hx,by omega,rfl⟩
    rw [yp,yw,yA,yx] at ap
    refine thn ap fun _ s11 ⟨_,H11,I11,_,e11⟩=>?_
    subst e11
    obtain ⟨t1,t2⟩:=back I11
    have nt:∀ ys,H10 q≠some (.tup ys):=fun ys z=>by rw [hx] at z;cases z
    have ga:Grow H10 (upd H10 q (.lst (xs++[v10]))):=grow_upd nt
    have mm:=R10.mem.put (p:=q) (o:=.lst (xs++[v10])) (u:=.lst (acc++[o10])) nt ⟨_,upd_same,(hxi.grow ga).app (isl_cons.mpr ⟨v10,[],rfl,Is.grow ga _ _ i10,isl_nil.mpr rfl⟩)⟩
    exact ⟨ds.length - (i+1),by omega,i+1,σ8,_,acc++[o10],_,I11.unpinned,((((g5.trans g7).trans g8).trans g9).trans g10).trans ga,(R10.to ga mm).sub sub8,mset_same,eo,t1,t2,hlt,rfl⟩
  ·have ei:i=ds.length:=by omega
   subst ei
   have dn:=TT.done Y yp yw yK yc ds.length [] s5 σ5 H5 (fun _ _=>False) I5 (fpY fr5) st5 (wstop rfl)
   rw [yA] at dn
   refine thn dn fun r s6 ⟨hr,I6⟩=>?_
   subst hr
   exact fe q M5 C s3 H3 fp σ5 H5 s6 (fin q acc M5 v5 m5) I3 f3 hC (by rw [hY];exact I6) ((g2.trans gq).trans g5) (R3.to g5 (by rw [<- yK];exact R5.mem))
 have fin0:=codeAny_compStart_list (R:=compPost (model X.prog X.w) X.A X.xe use Qc (.ref q) C) (loop _ rfl) (TT.self _ 0 _ _ _ stc (loop _ rfl))
 rw [hC] at fin0
 exact fin0
theorem ev_compK {wi:TI} (T:CompOk X own js N scope cl) (hxe:X.xe=fun _ _=>False) (hc:X.calm=true) (hi:PI X tg iter wi)
  (h:∀ σ H,KF X.K H->Rel X G M σ H->∃ Ψ,wi σ H Ψ/\∀ J H1,Ψ J H1->Grow H H1/\CompT X G own js N scope cl tg elt ifs σ (fun q=>Q (.ref q)) J H1)
  (hs:∀ x,foldedSetIterable iter X.env x=pure x):EV X G M (.ListComp elt [⟨tg,iter,ifs,0⟩] scope pos) Q:=by
 intro pins s σ H I R
 rw [eval_ListComp]
 obtain ⟨Ψ,h1,h2⟩:=h σ H (kf_of I) R
 refine comp_core T hxe hc hi hs I h1 h2 fun q M' C s3 H3 fp σ' H' s' f I3 f3 hC I6 g R'=>?_
 obtain ⟨mm,hmm,_⟩:=I6.loc
 exact ⟨mm,hmm,fun h' hsb=>⟨.ref q,H',.ref q,_,Inv.unblock I3 f3 I6 hC hsb,rfl,g,is_ref.mpr rfl,R',f⟩⟩
theorem tvs_mono {Y:Cx} {G:Ga} {M:MH} {cs:List Expr} {Q Q':Bool->MH->Prop} (h:TVs Y G M cs Q) (k:∀ k M',Q k M'->Q' k M'):TVs Y G M cs Q':=by
 unfold TVs at h ⊢
 split at h
 ·exact k _ _ h
 ·exact fun pins s σ H I R=>thn (h pins s σ H I R) fun b s' ⟨H',M',I',g,R',q⟩=>⟨H',M',I',g,R',k _ _ q⟩
 ·exact h
theorem gv_mono {Y:Cx} {G:Ga} {M:MH} {tg:Expr} {d:D} {Q Q':Ga->MH->Prop} (h:GV Y G M tg d Q) (k:∀ G' M',Q G' M'->Q' G' M'):GV Y G M tg d Q' :=
 fun pins s σ H v u I R r i=>thn (h pins s σ H v u I R r i) fun _ s2 ⟨σ2,H2,G2,M2,I2,g2,R2,q⟩=>⟨σ2,H2,G2,M2,I2,g2,R2,k _ _ q⟩
theorem pure_block {M1:MH} {ds:List D} {ifs:List Expr} {f:D->D} {pr:D->Bool} (hz:ds.length<=sizeLine)
  (block:∀ Y:Cx,(∃ C s H fp,Y=compCx X N scope cl C s H fp)->∀ M',Ext M1 M'->∀ d∈ds,GV Y (compG own js G) M' tg d fun G3 M3=>M3=M'/\Sub (compG own js G) G3/\TVs Y G3 M' ifs (fun k M4=>M4=M'/\k=pr d)/\(pr d=true->EV Y G3 M' elt fun o M4=>M4=M'/\o=f d)) :
  ∀ Y:Cx,(∃ C s H fp,Y=compCx X N scope cl C s H fp)->∀ q i acc M' d,ds[i]?=some d->(M1 q=none/\M'=mset M1 q (.lst acc)/\acc=((ds.take i).filter pr).map f)->M' q=some (.lst acc)->GV Y (compG own js G) M' tg d fun G3 M3=>M3=M'/\Sub (compG own js G) G3/\TVs Y G3 M' ifs fun k M4=>M4=M'/\if k=true then EV Y G3 M' elt fun o M5=>M5 q=some (.lst acc)/\acc.length < sizeLine/\(M1 q=none/\mset M5 q (.lst (acc++[o]))=mset M1 q (.lst (acc++[o]))/\acc++[o]=((ds.take (i+1)).filter pr).map f) else (M1 q=none/\M'=mset M1 q (.lst acc)/\acc=((ds.take (i+1)).filter pr).map f):=by
 intro Y hY q i acc M' d hd ⟨hq,hM,hacc⟩ mq
 have hi:i < ds.length:=(List.getElem?_eq_some_iff.mp hd).1
 have tk:(ds.take (i+1)).filter pr=(ds.take i).filter pr++(if pr d then [d] else []):=take_succ_filter pr ds i d hd
 have hl:acc.length<=i:=by
  rw [hacc,List.length_map]
  exact Nat.le_trans (List.length_filter_le _ _) (by rw [List.length_take];omega)
 refine gv_mono (block Y hY M' (by rw [hM];exact ext_new hq) d (List.mem_of_getElem? hd)) fun G3 M3 ⟨e1,e2,e3,e4⟩=>⟨e1,e2,tvs_mono e3 fun k M4 ⟨e5,e6⟩=>⟨e5,?_⟩⟩
 subst e6
 cases hp:pr d with
 | true =>
  rw [if_pos rfl]
  refine (e4 hp).mono fun o M5 ⟨e7,e8⟩=>?_
  subst e7;subst e8
  refine ⟨mq,by omega,hq,by rw [hM,mset_mset],?_⟩
  rw [tk,hp,if_pos rfl,List.map_append,<- hacc];rfl
 | false =>
  rw [if_neg (by decide)]
  refine ⟨hq,hM,?_⟩
  rw [tk,hp,if_neg (by decide),List.append_nil];exact hacc
theorem pure_T {J:It} {σ:St} {H1:Hp} {M1:MH} {ds:List D} {f:D->D} {pr:D->Bool} {F:Addr->MH->Prop} (R1:Rel X G M1 σ H1) (walks:Walks X.K M1 J H1 ds) (hz:ds.length<=sizeLine)
  (block:∀ Y:Cx,(∃ C s H fp,Y=compCx X N scope cl C s H fp)->∀ M',Ext M1 M'->∀ d∈ds,GV Y (compG own js G) M' tg d fun G3 M3=>M3=M'/\Sub (compG own js G) G3/\TVs Y G3 M' ifs (fun k M4=>M4=M'/\k=pr d)/\(pr d=true->EV Y G3 M' elt fun o M4=>M4=M'/\o=f d))
  (fin:∀ q,M1 q=none->F q (mset M1 q (.lst ((ds.filter pr).map f)))):CompT X G own js N scope cl tg elt ifs σ F J H1:=by
 refine ⟨M1,ds,fun q i acc M2=>M1 q=none/\M2=mset M1 q (.lst acc)/\acc=((ds.take i).filter pr).map f,R1,fun q i acc M2 H2 g2 m2 v2=>?_,fun q hq=>⟨hq,rfl,by simp⟩,pure_block hz block,fun q acc M2 ⟨h1,h2,h3⟩ _=>by rw [h2,h3,List.take_length];exact fin q h1⟩
 obtain ⟨a,b⟩:=walks H2 g2 (m2.ext (by rw [v2.2.1];exact ext_new v2.1))
 exact ⟨a i,fun hlt=>⟨(b i hlt).1,fun x H3 y=>let ⟨c,d,_,e⟩:=(b i hlt).2 x H3 y;⟨c,d,e⟩⟩⟩
theorem ev_comp {wi:TI} (T:CompOk X own js N scope cl) (hxe:X.xe=fun _ _=>False) (hc:X.calm=true) (hi:PI X tg iter wi) (f:D->D) (p:D->Bool)
  (h:∀ σ H,KF X.K H->Rel X G M σ H->wi σ H fun J H1=>Grow H H1/\∃ (M1:MH) (ds:List D),Rel X G M1 σ H1/\Walks X.K M1 J H1 ds/\ds.length<=sizeLine /\
   (∀ Y:Cx,(∃ C s H fp,Y=compCx X N scope cl C s H fp)->∀ M',Ext M1 M'->∀ d∈ds,GV Y (compG own js G) M' tg d fun G3 M3=>M3=M'/\Sub (compG own js G) G3/\TVs Y G3 M' ifs (fun k M4=>M4=M'/\k=p d)/\(p d=true->EV Y G3 M' elt fun o M4=>M4=M'/\o=f d)) /\
   ∀ q,M1 q=none->Q (.ref q) (mset M1 q (.lst ((ds.filter p).map f))))
  (hs:∀ x,foldedSetIterable iter X.env x=pure x:=by intro _;rfl):EV X G M (.ListComp elt [⟨tg,iter,ifs,0⟩] scope pos) Q :=
 ev_compK T hxe hc hi (fun σ H kf R=>⟨_,h σ H kf R,fun J H1 ⟨g,M1,ds,R1,w,hz,b,fin⟩=>⟨g,pure_T R1 w hz b fin⟩⟩) hs
end
end D3
namespace D3
open PySem PySem.Spec PyProof.Rows L2
section
variable {X:Cx} {G:Ga} {M:MH} {elt tg iter:Expr} {ifs:List Expr} {scope:Scope} {pos:Pos} {Q:DK} {own:List Str} {js:List Nat} {N:List Str} {cl:List (Str × Addr)}
theorem ev_comp_list (T:CompOk X own js N scope cl) (hxe:X.xe=fun _ _=>False) (hc:X.calm=true) (f:D->D) (p:D->Bool)
  (h:EV X G M iter fun d M1=>∃ (l:Addr) (ds:List D),d=.ref l/\(M1 l=some (.lst ds)\/M1 l=some (.ro ds))/\ds.length<=sizeLine /\
   (∀ Y:Cx,(∃ C s H fp,Y=compCx X N scope cl C s H fp)->∀ M',Ext M1 M'->∀ d∈ds,GV Y (compG own js G) M' tg d fun G3 M3=>M3=M'/\Sub (compG own js G) G3/\TVs Y G3 M' ifs (fun k M4=>M4=M'/\k=p d)/\(p d=true->EV Y G3 M' elt fun o M4=>M4=M'/\o=f d)) /\
   ∀ q,M1 q=none->Q (.ref q) (mset M1 q (.lst ((ds.filter p).map f))))
  (hs:∀ x,foldedSetIterable iter X.env x=pure x:=by intro _;rfl):EV X G M (.ListComp elt [⟨tg,iter,ifs,0⟩] scope pos) Q:=by
 refine ev_comp T hxe hc (pi_list (pe_D (G:=G))) f p (fun σ H kf R=>?_) hs
 refine ⟨M,_,R,h,fun v H' d M' kf' g i R' q=>?_⟩
 obtain ⟨l,ds,e,hl,hz,block,fin⟩:=q
 subst e
 rw [is_ref] at i;subst i
 have sq:∀ {H2:Hp},MemOk X.K M' H2->∃ xs,SqL X.K H2 l xs/\IsL H2 ds xs:=fun {H2} m=>by
  rcases hl with hl | hl
  ·obtain ⟨xs,h1,h2⟩:=m l _ hl;exact ⟨xs,SqL.of h1,h2⟩
  ·exact m l _ hl
 obtain ⟨xs0,hx0,_⟩:=sq R'.mem
 refine ⟨l,rfl,⟨xs0,hx0⟩,g,M',ds,R',fun H2 g2 m2=>?_,hz,block,fin⟩
 obtain ⟨xs,hx2,hxi⟩:=sq m2
 have hlen:=hxi.len
 refine ⟨fun i e=>⟨xs,hx2,by omega⟩,fun i hlt=>⟨⟨xs,xs[i]'(by omega),hx2,by simp⟩,fun x H3 y=>?_⟩⟩
 obtain ⟨e,y⟩:=y
 subst e
 have e1:=y xs hx2
 obtain ⟨d,e2,i2⟩:=hxi.get' e1
 exact ⟨Grow.refl _,fun _ _ z=>z,m2,d,e2,i2⟩
theorem compOk_plain (hfree:∀ x∈scope.names,x.2≠.free) (hcell:∀ x∈scope.names,x.2≠.cell) (hk:scope.kind=.function) (hn:∀ x∈scope.names,x.2=.local->scope.names.lookup x.1=some .local) (hN:N=own):CompOk X own [] N scope []:=by
 have key:(relabel scope X.env).names=scope.names:=by
  unfold relabel
  exact map_eq_self (l:=scope.names) fun x hx=>by
   obtain ⟨n,k⟩:=x
   have:(k == NameKind.free)=false:=by simpa using hfree _ hx
   simp [this]
 refine ⟨closureFor_none hfree,hk,hn,hcell,fun x c e=>by simp at e,fun x h=>?_,fun k j e=>by simp at e,by rw [hN];rfl⟩
 rw [key] at h
 rcases h with h | h
 ·exact absurd rfl (hcell _ (PySem.mem_of_lookup h))
 ·exact absurd rfl (hfree _ (PySem.mem_of_lookup h))
end
end D3
namespace D3
open PySem PySem.Spec PyProof.Rows L2
theorem bits_weight (n:Int):Builtin.Int.intBits n=PySem.W.WData.weight (.int n):=by
 unfold Builtin.Int.intBits PySem.W.WData.weight
 rfl
theorem bits_of_all:∀ (ns:List Int) (k:Nat),PySem.W.WData.weightAll (ns.map PySem.W.WData.int)<=k->∀ n∈ns,Builtin.Int.intBits n<=k
 | [],_,_,n,hn=>nomatch hn
 | m :: ns,k,h,n,hn=>by
  rw [List.map_cons] at h
  have h':PySem.W.WData.weight (.int m)+1+PySem.W.WData.weightAll (ns.map PySem.W.WData.int)<=k:=by
   unfold PySem.W.WData.weightAll at h
   exact h
  rcases List.mem_cons.mp hn with e | hn
  ·subst e
   rw [bits_weight]
   omega
  ·exact bits_of_all ns k (by omega) n hn
theorem bits_of_lay {ns:List Int} (h:PySem.W.WData.layableAll [PySem.W.WData.list (ns.map PySem.W.WData.int)]=true):∀ n∈ns,Builtin.Int.intBits n<=2097152:=by
 unfold PySem.W.WData.layableAll at h
 rw [List.all_cons,Bool.and_eq_true] at h
 have h1:=h.1
 unfold PySem.W.WData.layable at h1
 rw [Bool.and_eq_true] at h1
 have h2:=of_decide_eq_true h1.2
 have h3:PySem.W.WData.weightAll (ns.map PySem.W.WData.int)<=2 ^ 20:=by
  unfold PySem.W.WData.weight at h2
  exact h2
 intro n hn
 have:=bits_of_all ns _ h3 n hn
 omega
end D3
namespace D3
open PySem PySem.W PySem.Calls PyProof.Rows
theorem attach_callB {l:PySem.W.OpenLaw} {n:Nat} {q:Program} {loose:List Str} {XP:(Str->Option Value)->Heap->Prop} {YP:World->Heap->Prop} {d:DefRec}
  (hn:l.most=some n) (hdf:d.params.defaults=[])
  (call:∀ (w:World) (s₀ s₁:Shared) (mg mb:Str->Option Value) (fa:Addr) (o:Obj) (pm cd doc:Value) (a:Addr) (vs:List Value) (ns:List Int),
   Ground q loose [] XP w s₀ mg mb s₁.heap->YP w s₁.heap ->
   s₁.heap.get? fa=some o->o.data=.func (docDef d.name d.params d.body d.scope pm cd doc)->s₁.heap.CodeRec cd d.name->mg d.name=some (.ref fa) ->
   s₁.heap.get? a=some { cls:=.type "list",data:=.seq vs.toArray }->IntsAre vs ns->ns.length<=n->(∀ n∈ns,Builtin.Int.intBits n<=2097152)->s₁.gens=#[] ->
   codeAny (model l.prog w) callerA (.call (.ref fa) ⟨[.ref a],[]⟩) (fun r s'=>r=.ok (.ret (.bool true))/\OldK s₁.heap s'.heap/\s'.os=s₁.os/\AllBare s'.gens) s₁) :
  PySem.W.WalkO q loose XP YP l.row.toRowW d [] (fun f vs=>PySem.call f vs):=by
 intro w s₀ s₁ mg mb G Y fa o pm cd doc dV kV ho hd hcd hD hmg hg args vals as hpre hlay hrd hwl hlo
 obtain rfl:dV=.none:=Dflts.none hD hdf
 obtain rfl:kV=.none:=Dflts.noKw hD
 obtain ⟨a,vs,ns,rfl,rfl,hobj,hints,hlen⟩:=Att.script_of hn hpre hwl
 refine enter_call (codeAny_mono (call w s₀ s₁ mg mb fa o pm cd doc a vs ns G Y ho (fd_plain hd) hcd hmg hobj hints hlen (bits_of_lay hlay) hg) fun r s' hq=>?_)
 obtain ⟨rfl,h2,h3,h4⟩:=hq
 exact ⟨.inl ⟨.bool true,.bool true,[],rfl,fun _=>rfl,.bool true,Att.post_true l _,fun _=>⟨List.Pairwise.nil,fun _ hm=>(nomatch hm)⟩⟩,h2,h3,h4⟩
end D3
namespace D3
open PySem PySem.Spec PyProof.Rows L2
def LawSp (sp:SpD):Prop:=∀ (l:Addr) (ns:List Int) (M:MH) (Q:DK),M l=some (.ro (ns.map D.int))->ns.length<=63->(∀ n∈ns,Builtin.Int.intBits n<=2097152)->(∀ M',Q (.bl true) M')->sp [.ref l] M Q
theorem walk_D {l:PySem.W.OpenLaw} {k:Nat} {q:Program} {loose:List Str} {XP:(Str->Option Value)->Heap->Prop} {YP:World->Heap->Prop} {d:DefRec} {K:Params->PySem.W.Frag} {sp:SpD} {x:Str}
  (hn:l.most=some 63) (hdf:d.params.defaults=[]) (hr:Room k callerA) (hi:importsNone q=true) (hs:LawSp sp)
  (hY:∀ (w:World) (h:Heap),YP w h->(K w.params).In h)
  (F:∀ (w:World) (mg:Str->Option Value) (fa:Addr) (h:Heap),(K w.params).In h->h.Ns mainGlobals mg->mg d.name=some (.ref fa) ->
   ∃ fd:FuncData,(∀ (s:Shared) (u:Value),BindsTo s fd ⟨[u],[]⟩ [(x,u)]) /\
    ∀ base:Heap,(K w.params).In base->base.Ns mainGlobals mg->FnOk l.prog w (K w.params) mg base CX0 k fa fd [x] (liftSp (K w.params) sp)) :
  PySem.W.WalkO q loose XP YP l.row.toRowW d [] (fun f vs=>PySem.call f vs):=by
 refine attach_callB hn hdf fun w s₀ s₁ mg mb fa o pm cd doc a vs ns G Y ho hd hcd hmg hobj hints hlen hbits hg=>?_
 have KX:=hY w _ Y
 obtain ⟨fd,hb,hF⟩:=F w mg fa _ KX G.T.g hmg
 refine law_call KX G.T.g G.T.b G.T.builtins G.T.nolimit (G.T.seer hi) hg hobj hints (Nat.le_trans hlen (by decide)) hr hF hb (fun H hO hS=>?_) fun H e s' z=>z
 refine ⟨[.ref a],fun b=>if b=a then some (.ro (ns.map D.int)) else none,fun d M'=>d=.bl true,isl_cons.mpr ⟨.ref a,[],rfl,is_ref.mpr rfl,isl_nil.mpr rfl⟩,fun b o e=>?_,hs a ns _ _ (if_pos rfl) hlen hbits (fun _=>rfl),fun v H' d M' _ i _ e=>?_⟩
 ·have e:(if b=a then some (MO.ro (ns.map D.int)) else none)=some o:=e
  by_cases z:b=a
  ·rw [if_pos z] at e
   cases e
   subst z
   exact ⟨_,hS,IsL.ints⟩
  ·rw [if_neg z] at e;cases e
 ·subst e
  rw [is_bl] at i
  exact i
end D3
namespace D3
open PySem PySem.Spec PyProof.Rows L2
mutual
def pd:D->PyData
 | .non=>.none
 | .bl b=>.bool b
 | .int i=>.int i
 | .str x=>.str x
 | .ty _=>.none
 | .tup ds=>.tuple (pdL ds)
 | .ref _=>.none
def pdL:List D->List PyData
 | []=>[]
 | d :: ds=>pd d :: pdL ds
end
mutual
def imm:D->Bool
 | .non=>true
 | .bl _=>true
 | .int _=>true
 | .str x=>PyData.strOk x
 | .ty _=>false
 | .tup ds=>immL ds
 | .ref _=>false
def immL:List D->Bool
 | []=>true
 | d :: ds=>imm d && immL ds
end
section
variable {X:Cx} {pins:List (Addr × Obj)} {σ:St} {H:Hp} {s:Shared}
mutual
theorem reads_of (I:L2.Inv X pins σ H s):∀ (d:D) (v:V) (u:Value),Is H d v->RelV v u->imm d=true->∃ as,Reads s.heap u (pd d) as
 | .non,v,u,i,r,_=>by
  rw [is_non] at i;subst i;cases r
  unfold pd;exact ⟨_,.none⟩
 | .bl b,v,u,i,r,_=>by
  rw [is_bl] at i;subst i;cases r
  unfold pd;exact ⟨_,.bool b⟩
 | .int b,v,u,i,r,_=>by
  rw [is_int] at i;subst i;obtain ⟨t,rfl⟩:=r
  unfold pd;exact ⟨_,.int b t⟩
 | .str b,v,u,i,r,_=>by
  rw [is_str] at i;subst i;obtain ⟨t,rfl⟩:=r
  unfold pd;exact ⟨_,.str b t⟩
 | .ty _,_,_,_,_,h=>by unfold imm at h;cases h
 | .ref _,_,_,_,_,h=>by unfold imm at h;cases h
 | .tup ds,v,u,i,r,h=>by
  rw [is_tup] at i
  obtain ⟨a,xs,rfl,h1,h2⟩:=i
  cases r
  unfold imm at h
  obtain ⟨_,its,rv,o,ho,hc,n,hd⟩:=I.hok a _ h1
  obtain ⟨as,q⟩:=readsAll_of I ds xs its h2 rv h
  unfold pd
  exact ⟨as,.tuple ho hc hd (by simpa using q)⟩
theorem readsAll_of (I:L2.Inv X pins σ H s):∀ (ds:List D) (vs:List V) (us:List Value),IsL H ds vs->Vals vs us->immL ds=true->∃ as,ReadsAll s.heap us (pdL ds) as
 | [],vs,us,i,r,_=>by
  rw [isl_nil] at i;subst i;cases r
  unfold pdL;exact ⟨_,.nil⟩
 | d :: ds,vs,us,i,r,h=>by
  rw [isl_cons] at i
  obtain ⟨x,xs,rfl,i1,i2⟩:=i
  unfold immL at h
  rw [Bool.and_eq_true] at h
  cases r with
  | cons r1 r2 =>
   obtain ⟨as,q1⟩:=reads_of I d x _ i1 r1 h.1
   obtain ⟨bs,q2⟩:=readsAll_of I ds xs _ i2 r2 h.2
   unfold pdL
   exact ⟨_,.cons q1 q2⟩
end
mutual
theorem canLay_imm:∀ d:D,imm d=true->(pd d).canLay0=true
 | .non,_=>by simp only [pd,PyData.canLay0]
 | .bl _,_=>by simp only [pd,PyData.canLay0]
 | .int _,_=>by simp only [pd,PyData.canLay0]
 | .str x,h=>by
  unfold imm at h
  simp only [pd,PyData.canLay0];exact h
 | .ty _,h=>by unfold imm at h;cases h
 | .ref _,h=>by unfold imm at h;cases h
 | .tup ds,h=>by
  unfold imm at h
  simp only [pd,PyData.canLay0]
  exact canLayL_imm ds h
theorem canLayL_imm:∀ ds:List D,immL ds=true->PyData.canLayAll0 (pdL ds)=true
 | [],_=>by simp only [pdL,PyData.canLayAll0]
 | d :: ds,h=>by
  unfold immL at h
  rw [Bool.and_eq_true] at h
  simp only [pdL,PyData.canLayAll0,canLay_imm d h.1,canLayL_imm ds h.2,Bool.and_self]
end
end
section
variable {X:Cx} {G:Ga} {M:MH} {a b e:Expr} {pos:Pos} {Q:DK}
theorem tv_cval {op:CmpOp} {Qb:Bool->MH->Prop} (hm:behindInMarks op b=false)
  (h:∀ (pins:List (Addr × Obj)) (s:Shared) (σ:St) (H:Hp),L2.Inv X pins σ H s->Rel X G M σ H->wpAny (model X.prog X.w) X.A (eval a X.env) (fun v s1=>wpAny (model X.prog X.w) X.A (eval b X.env) (fun u s2=>wpAny (model X.prog X.w) X.A (compareOp op v u) (EPD X pins σ G H fun d M'=>∃ k,d=.bl k/\Qb k M') X.xe s2) X.xe s1) X.xe s):TV X G M (.Compare a [op] [b] pos) Qb:=by
 intro pins s σ H I R
 refine wpAny_isTrue_Compare1 (thn (h pins s σ H I R) fun v s1 h1=>thn h1 fun u s2 h2=>thn h2 fun w s3 ⟨z,H3,d,M3,I3,r3,g3,i3,R3,k,e,q⟩=>?_) hm
 subst e
 rw [is_bl] at i3;subst i3
 cases r3
 exact wpAny_truthy_bool ⟨H3,M3,I3,g3,R3,q⟩
theorem IsL.set {H:Hp}:∀ {ds:List D} {vs:List V} (j:Nat) {d:D} {v:V},IsL H ds vs->Is H d v->IsL H (ds.set j d) (vs.set j v)
 | [],vs,j,d,v,h,_=>by rw [isl_nil] at h;subst h;rw [List.set_nil,List.set_nil,isl_nil]
 | d' :: ds,vs,0,d,v,h,k=>by
  rw [isl_cons] at h
  obtain ⟨x,r,rfl,h1,h2⟩:=h
  rw [List.set_cons_zero,List.set_cons_zero,isl_cons]
  exact ⟨v,r,rfl,k,h2⟩
 | d' :: ds,vs,j+1,d,v,h,k=>by
  rw [isl_cons] at h
  obtain ⟨x,r,rfl,h1,h2⟩:=h
  rw [List.set_cons_succ,List.set_cons_succ,isl_cons]
  exact ⟨x,r.set j v,rfl,h1,h2.set j k⟩
end
end D3
namespace D3
open PySem PySem.Spec PyProof.Rows L2
def SubL (da db:D) (M:MH) (Q:DK):Prop:=match da,db with
 | .int i,.int j=>Q (.int (i - j)) M
 | _,_=>False
def MulL (da db:D) (M:MH) (Q:DK):Prop:=match da,db with
 | .int i,.int j=>IntMulOk i j/\Q (.int (i * j)) M
 | _,_=>False
def DivL (da db:D) (M:MH) (Q:DK):Prop:=match da,db with
 | .int i,.int j=>CDivB i j/\Q (.int (i.fdiv j)) M
 | _,_=>False
def ModL (da db:D) (M:MH) (Q:DK):Prop:=match da,db with
 | .int i,.int j=>j≠0/\Q (.int (i.fmod j)) M
 | _,_=>False
def PowL (da db:D) (M:MH) (Q:DK):Prop:=match da,db with
 | .int i,.int j=>CPow i j/\Q (.int (i ^ j.toNat)) M
 | _,_=>False
def NegL (da:D) (M:MH) (Q:DK):Prop:=match da with
 | .int i=>Q (.int (-i)) M
 | _=>False
def CmpL (p:Int->Int->Bool) (da db:D) (M:MH) (Qb:Bool->MH->Prop):Prop:=match da,db with
 | .int i,.int j=>Qb (p i j) M
 | _,_=>False
def eqB (da db:D):Bool:=match da,db with
 | .int i,.int j=>decide (i=j)
 | .bl i,.bl j=>decide (i=j)
 | .str i,.str j=>decide (i=j)
 | _,_=>PyData.eqv (pd da) (pd db)
def EqOk (da db:D):Prop:=match da,db with
 | .int _,.int _=>True
 | .bl _,.bl _=>True
 | .str _,.str _=>True
 | _,_=>imm da=true/\imm db=true/\(pd da).depth<=60
def EqL (da db:D) (M:MH) (Qb:Bool->MH->Prop):Prop:=EqOk da db/\Qb (eqB da db) M
section
variable {X:Cx} {G:Ga} {M:MH} {a b c e:Expr} {es rest:List Expr} {pos:Pos} {Q:DK} {Qb:Bool->MH->Prop} {i j:Int}
theorem add_ii (q:Q (.int (i+j)) M):AddD (.int i) (.int j) M Q:=q
theorem add_tt {xs ys:List D} (h:xs≠[]) (z:xs.length+ys.length<=sizeLine) (q:Q (.tup (xs++ys)) M):AddD (.tup xs) (.tup ys) M Q:=⟨h,z,q⟩
theorem add_ll {l k:Addr} {xs ys:List D} (h:M l=some (.lst xs)) (h':M k=some (.lst ys)) (z:xs.length+ys.length<=sizeLine) (q:∀ p,M p=none->Q (.ref p) (mset M p (.lst (xs++ys)))):AddD (.ref l) (.ref k) M Q:=⟨xs,ys,h,h',z,q⟩
theorem sub_l (q:Q (.int (i - j)) M):SubL (.int i) (.int j) M Q:=q
theorem mul_l (c:IntMulOk i j) (q:Q (.int (i * j)) M):MulL (.int i) (.int j) M Q:=⟨c,q⟩
theorem div_l (c:CDivB i j) (q:Q (.int (i.fdiv j)) M):DivL (.int i) (.int j) M Q:=⟨c,q⟩
theorem mod_l (c:j≠0) (q:Q (.int (i.fmod j)) M):ModL (.int i) (.int j) M Q:=⟨c,q⟩
theorem pow_n {k:Int} (e:i ^ j.toNat=k) (c:CPow i j) (q:Q (.int k) M):PowL (.int i) (.int j) M Q:=⟨c,by rw [e];exact q⟩
theorem neg_l (q:Q (.int (-i)) M):NegL (.int i) M Q:=q
theorem cmp_l {p:Int->Int->Bool} (q:Qb (p i j) M):CmpL p (.int i) (.int j) M Qb:=q
theorem eq_ii (q:Qb (decide (i=j)) M):EqL (.int i) (.int j) M Qb:=⟨trivial,q⟩
theorem eq_ss {i j:Str} (q:Qb (decide (i=j)) M):EqL (.str i) (.str j) M Qb:=⟨trivial,q⟩
theorem eq_tt {xs ys:List D} (h:immL xs=true) (h':immL ys=true) (z:(pd (.tup xs)).depth<=60) (q:Qb (PyData.eqv (pd (.tup xs)) (pd (.tup ys))) M):EqL (.tup xs) (.tup ys) M Qb:=⟨⟨by unfold imm;exact h,by unfold imm;exact h',z⟩,q⟩
theorem ix_tl {ds:List D} {d:D} (e:atI ds i=some d) (q:Q d M):IxD (.tup ds) i M Q:=⟨d,e,q⟩
theorem ix_ll {l:Addr} {ds:List D} {d:D} (h:M l=some (.lst ds)) (e:atI ds i=some d) (q:Q d M):IxD (.ref l) i M Q:=.inl ⟨ds,d,h,e,q⟩
theorem ix_rl {l:Addr} {ds:List D} {d:D} (h:M l=some (.ro ds)) (e:atI ds i=some d) (q:Q d M):IxD (.ref l) i M Q:=.inr ⟨ds,d,h,e,q⟩
theorem SubL.ex {da db:D} (h:SubL da db M Q):∃ i j,da=.int i/\db=.int j/\Q (.int (i - j)) M:=by
 unfold SubL at h;split at h
 ·exact ⟨_,_,rfl,rfl,h⟩
 ·exact h.elim
theorem MulL.ex {da db:D} (h:MulL da db M Q):∃ i j,da=.int i/\db=.int j/\IntMulOk i j/\Q (.int (i * j)) M:=by
 unfold MulL at h;split at h
 ·exact ⟨_,_,rfl,rfl,h⟩
 ·exact h.elim
theorem DivL.ex {da db:D} (h:DivL da db M Q):∃ i j,da=.int i/\db=.int j/\CDivB i j/\Q (.int (i.fdiv j)) M:=by
 unfold DivL at h;split at h
 ·exact ⟨_,_,rfl,rfl,h⟩
 ·exact h.elim
theorem ModL.ex {da db:D} (h:ModL da db M Q):∃ i j,da=.int i/\db=.int j/\j≠0/\Q (.int (i.fmod j)) M:=by
 unfold ModL at h;split at h
 ·exact ⟨_,_,rfl,rfl,h⟩
 ·exact h.elim
theorem PowL.ex {da db:D} (h:PowL da db M Q):∃ i j,da=.int i/\db=.int j/\CPow i j/\Q (.int (i ^ j.toNat)) M:=by
 unfold PowL at h;split at h
 ·exact ⟨_,_,rfl,rfl,h⟩
 ·exact h.elim
theorem NegL.ex {da:D} (h:NegL da M Q):∃ i,da=.int i/\Q (.int (-i)) M:=by
 unfold NegL at h;split at h
 ·exact ⟨_,rfl,h⟩
 ·exact h.elim
theorem CmpL.ex {p:Int->Int->Bool} {da db:D} (h:CmpL p da db M Qb):∃ i j,da=.int i/\db=.int j/\Qb (p i j) M:=by
 unfold CmpL at h;split at h
 ·exact ⟨_,_,rfl,rfl,h⟩
 ·exact h.elim
theorem l_sub (h:EV X G M a fun da Ma=>EV X G Ma b fun db Mb=>SubL da db Mb Q):EV X G M (.BinOp a .Sub b pos) Q:=ev_sub (h.mono fun _ _ h1=>h1.mono fun _ _ h2=>h2.ex)
theorem l_mul (h:EV X G M a fun da Ma=>EV X G Ma b fun db Mb=>MulL da db Mb Q):EV X G M (.BinOp a .Mult b pos) Q:=ev_mul (h.mono fun _ _ h1=>h1.mono fun _ _ h2=>h2.ex)
theorem l_fdiv (h:EV X G M a fun da Ma=>EV X G Ma b fun db Mb=>DivL da db Mb Q):EV X G M (.BinOp a .FloorDiv b pos) Q:=ev_fdiv (h.mono fun _ _ h1=>h1.mono fun _ _ h2=>h2.ex)
theorem l_mod (h:EV X G M a fun da Ma=>EV X G Ma b fun db Mb=>ModL da db Mb Q):EV X G M (.BinOp a .Mod b pos) Q:=ev_mod (h.mono fun _ _ h1=>h1.mono fun _ _ h2=>h2.ex)
theorem l_pow (h:EV X G M a fun da Ma=>EV X G Ma b fun db Mb=>PowL da db Mb Q):EV X G M (.BinOp a .Pow b pos) Q:=ev_pow (h.mono fun _ _ h1=>h1.mono fun _ _ h2=>h2.ex)
theorem l_neg (h:EV X G M a fun da Ma=>NegL da Ma Q):EV X G M (.UnaryOp .USub a pos) Q:=ev_neg (h.mono fun _ _ h1=>h1.ex)
theorem l_lt (h:EV X G M a fun da Ma=>EV X G Ma b fun db Mb=>CmpL (fun i j=>decide (i < j)) da db Mb fun k M'=>Q (.bl k) M'):EV X G M (.Compare a [.Lt] [b] pos) Q:=ev_lt (h.mono fun _ _ h1=>h1.mono fun _ _ h2=>h2.ex)
theorem l_gt (h:EV X G M a fun da Ma=>EV X G Ma b fun db Mb=>CmpL (fun i j=>decide (j < i)) da db Mb fun k M'=>Q (.bl k) M'):EV X G M (.Compare a [.Gt] [b] pos) Q:=ev_gt (h.mono fun _ _ h1=>h1.mono fun _ _ h2=>h2.ex)
theorem lt_lt (h:EV X G M a fun da Ma=>EV X G Ma b fun db Mb=>CmpL (fun i j=>decide (i < j)) da db Mb Qb):TV X G M (.Compare a [.Lt] [b] pos) Qb:=tv_lt (h.mono fun _ _ h1=>h1.mono fun _ _ h2=>h2.ex)
theorem lt_le (h:EV X G M a fun da Ma=>EV X G Ma b fun db Mb=>CmpL (fun i j=>decide (i<=j)) da db Mb Qb):TV X G M (.Compare a [.LtE] [b] pos) Qb:=tv_le (h.mono fun _ _ h1=>h1.mono fun _ _ h2=>h2.ex)
theorem lt_gt (h:EV X G M a fun da Ma=>EV X G Ma b fun db Mb=>CmpL (fun i j=>decide (j < i)) da db Mb Qb):TV X G M (.Compare a [.Gt] [b] pos) Qb:=tv_gt (h.mono fun _ _ h1=>h1.mono fun _ _ h2=>h2.ex)
theorem eqL_cases {da db:D} (h:EqL da db M Qb):(∃ k,EqD da db k/\Qb k M)\/(imm da=true/\imm db=true/\(pd da).depth<=60/\Qb (PyData.eqv (pd da) (pd db)) M):=by
 obtain ⟨h,q⟩:=h
 unfold EqOk at h
 unfold eqB at q
 split at h
 ·exact .inl ⟨_,rfl,q⟩
 ·exact .inl ⟨_,rfl,q⟩
 ·exact .inl ⟨_,rfl,q⟩
 ·rename_i h1 h2 h3
  split at q
  ·exact absurd rfl (fun z=>h1 _ _ rfl z)
  ·exact absurd rfl (fun z=>h2 _ _ rfl z)
  ·exact absurd rfl (fun z=>h3 _ _ rfl z)
  ·exact .inr ⟨h.1,h.2.1,h.2.2,q⟩
theorem eqL_run {neg:Bool} {op:CmpOp} (ho:op=if neg then .NotEq else .Eq) (hu:X.A.units+64 < cLine) {pins:List (Addr × Obj)} {σ:St} {H:Hp} {s:Shared} {da db:D} {x y:V} {v u:Value} (I:L2.Inv X pins σ H s) (R:Rel X G M σ H) (i1:Is H da x) (i2:Is H db y) (r1:RelV x v) (r2:RelV y u)
  (h:EqL da db M fun k M'=>Q (.bl (if neg then !k else k)) M'):wpAny (model X.prog X.w) X.A (compareOp op v u) (EPD X pins σ G H Q) X.xe s:=by
 subst ho
 rcases eqL_cases h with ⟨k,e1,q⟩ | ⟨m1,m2,hd,q⟩
 ·obtain ⟨h2,h3⟩:=eqD_val e1 i1 i2
  cases neg with
  | false =>
   refine thn (op_eq pins s σ H x y v u (fun z H3=>z=.bl (decide (x=y))/\H3=H) I r1 r2 ⟨h2,rfl,rfl⟩) fun w s3 hw=>?_
   obtain ⟨z,H3,I3,r3,e3,e4⟩:=hw
   subst e3;subst e4
   exact ⟨_,H3,.bl k,M,I3,r3,Grow.refl _,is_bl.mpr (by rw [h3]),R,q⟩
  | true =>
   refine thn (op_ne pins s σ H x y v u (fun z H3=>z=.bl (!decide (x=y))/\H3=H) I r1 r2 ⟨h2,rfl,rfl⟩) fun w s3 hw=>?_
   obtain ⟨z,H3,I3,r3,e3,e4⟩:=hw
   subst e3;subst e4
   exact ⟨_,H3,.bl (!k),M,I3,r3,Grow.refl _,is_bl.mpr (by rw [h3]),R,q⟩
 ·obtain ⟨as,ra⟩:=reads_of I da x v i1 r1 m1
  obtain ⟨bs,rb⟩:=reads_of I db y u i2 r2 m2
  have hmin:min (pd da).depth (pd db).depth<=(pd da).depth:=Nat.min_le_left _ _
  cases neg with
  | false=>exact PySem.SeqAt.compareEq_reads ra rb (canLay_imm _ m1) (canLay_imm _ m2) (by omega) ⟨.bl _,H,.bl _,M,I,rfl,Grow.refl _,is_bl.mpr rfl,R,q⟩
  | true=>exact PySem.SeqAt.compareNe_reads ra rb (canLay_imm _ m1) (canLay_imm _ m2) (by omega) ⟨.bl _,H,.bl _,M,I,rfl,Grow.refl _,is_bl.mpr rfl,R,q⟩
theorem l_eq (hu:X.A.units+64 < cLine) (h:EV X G M a fun da Ma=>EV X G Ma b fun db Mb=>EqL da db Mb fun k M'=>Q (.bl k) M'):EV X G M (.Compare a [.Eq] [b] pos) Q:=by
 intro pins s σ H I R
 refine wpAny_Compare1 ?_ (nomark _)
 refine thn (h pins s σ H I R) fun v s1 ⟨x,H1,da,Ma,I1,r1,g1,i1,R1,q1⟩=>?_
 refine thn (q1 pins s1 σ H1 I1 R1) fun u s2 ⟨y,H2,db,Mb,I2,r2,g2,i2,R2,q⟩=>?_
 exact thn (eqL_run (neg:=false) rfl hu I2 R2 (Is.grow g2 _ _ i1) i2 r1 r2 q) fun _ _ h=>h.grow (g1.trans g2)
theorem lt_eq (hu:X.A.units+64 < cLine) (h:EV X G M a fun da Ma=>EV X G Ma b fun db Mb=>EqL da db Mb Qb):TV X G M (.Compare a [.Eq] [b] pos) Qb:=by
 refine tv_cval (nomark _) fun pins s σ H I R=>?_
 refine thn (h pins s σ H I R) fun v s1 ⟨x,H1,da,Ma,I1,r1,g1,i1,R1,q1⟩=>?_
 refine thn (q1 pins s1 σ H1 I1 R1) fun u s2 ⟨y,H2,db,Mb,I2,r2,g2,i2,R2,q⟩=>?_
 exact thn (eqL_run (neg:=false) rfl hu I2 R2 (Is.grow g2 _ _ i1) i2 r1 r2 (Q:=fun d M'=>∃ k,d=.bl k/\Qb k M') ⟨q.1,_,rfl,q.2⟩) fun _ _ h=>h.grow (g1.trans g2)
theorem lt_ne (hu:X.A.units+64 < cLine) (h:EV X G M a fun da Ma=>EV X G Ma b fun db Mb=>EqL da db Mb fun k M'=>Qb (!k) M'):TV X G M (.Compare a [.NotEq] [b] pos) Qb:=by
 refine tv_cval (nomark _) fun pins s σ H I R=>?_
 refine thn (h pins s σ H I R) fun v s1 ⟨x,H1,da,Ma,I1,r1,g1,i1,R1,q1⟩=>?_
 refine thn (q1 pins s1 σ H1 I1 R1) fun u s2 ⟨y,H2,db,Mb,I2,r2,g2,i2,R2,q⟩=>?_
 exact thn (eqL_run (neg:=true) rfl hu I2 R2 (Is.grow g2 _ _ i1) i2 r1 r2 (Q:=fun d M'=>∃ k,d=.bl k/\Qb k M') ⟨q.1,_,rfl,q.2⟩) fun _ _ h=>h.grow (g1.trans g2)
theorem tv_call {f:Expr} {kws:List Keyword} (h:EV X G M (.Call f es kws pos) fun d M'=>∃ k,TruD X.K d M' k/\Qb k M') (he:∀ whole,isTrue (.Call f es kws pos) X.env whole=(do let v <- whole;standAt (Expr.Call f es kws pos).pos;holding [v] (truthy v)):=by intro _;rfl):TV X G M (.Call f es kws pos) Qb:=tv_of h he
theorem ev_callM {j k:Nat} {x:Str} {p:Pos} {sp:SpD} (C:Cal X.prog X.w X.K X.mg X.base j x sp) (hr:Room k X.A) (hk:j<=k) (h:AV X G M (e :: es) fun ds M1=>sp ds M1 Q) (hg:Gl X x:=by rfl) (hdb:(x == ("__debug__" : Str))=false:=by decide)
  (he:starEach (e :: es) X.env=(false,eval e X.env) :: starEach es X.env:=by rfl) (hpl:(backTo pos (starEach es X.env)).any (·.1)=false:=by rfl):EV X G M (.Call (.Name x p) (e :: es) [] pos) Q:=ev_call (C.mono hk) hr h hg hdb he hpl
theorem tvs_one (h:TV X G M c Qb):TVs X G M [c] Qb:=h
theorem tvs_nil (h:Qb true M):TVs X G M [] Qb:=h
theorem exs_join {st:Stmt} {sts:List Stmt} {E:EndsD} (J:Ga->MH->Prop) (h:EX X G M st { E with nx:=J }) (k:∀ G' M',J G' M'->EXs X G' M' sts E):EXs X G M (st :: sts) E:=by
 refine exs_cons ?_
 intro pins s σ H I R
 refine thn (h pins s σ H I R) fun f s1 q=>?_
 cases f with
 | next=>obtain ⟨σ',H',G',M',I',g',R',q⟩:=q;exact ⟨σ',H',G',M',I',g',R',k _ _ q⟩
 | ret v=>exact q
 | brk=>exact q
 | cont=>exact q
theorem ifD {c A B:Prop} [Decidable c] (h1:c->A) (h2:¬ c->B):if decide c=true then A else B:=by
 by_cases h:c
 ·rw [if_pos (decide_eq_true h)];exact h1 h
 ·rw [if_neg (by simp [h])];exact h2 h
theorem ifN {c A B:Prop} [Decidable c] (h1:¬ c->A) (h2:c->B):if (!decide c)=true then A else B:=by
 by_cases h:c
 ·rw [if_neg (by simp [h])];exact h2 h
 ·rw [if_pos (by simp [h])];exact h1 h
theorem ifT {A B:Prop} (h:A):if true=true then A else B:=by rw [if_pos rfl];exact h
theorem ifF {A B:Prop} (h:B):if false=true then A else B:=by rw [if_neg (by decide)];exact h
theorem ifNT {A B:Prop} (h:B):if (!true)=true then A else B:=by rw [if_neg (by decide)];exact h
theorem ifNF {A B:Prop} (h:A):if (!false)=true then A else B:=by rw [if_pos (by decide)];exact h
theorem ifDy {c A B:Prop} [Decidable c] (h:c) (a:A):if decide c=true then A else B:=by rw [if_pos (decide_eq_true h)];exact a
theorem ifDn {c A B:Prop} [Decidable c] (h:¬ c) (b:B):if decide c=true then A else B:=by rw [if_neg (by simp [h])];exact b
theorem ifNn {c A B:Prop} [Decidable c] (h:c) (b:B):if (!decide c)=true then A else B:=by rw [if_neg (by simp [h])];exact b
end
end D3
namespace D3
open PySem PySem.Spec PyProof.Rows L2
def lkD:List (Str × D)->Str->Option D
 | [],_=>none
 | (x,d) :: r,k=>if x=k then some d else lkD r k
def putD (kvs:List (Str × D)) (k:Str) (d:D):List (Str × D) :=
 if (kvs.any fun kv=>decide (kv.1=k))=true then kvs.map (fun kv=>if kv.1=k then (kv.1,d) else kv) else kvs++[(k,d)]
theorem lkD_cons (x:Str) (d:D) (r:List (Str × D)) (k:Str):lkD ((x,d) :: r) k=if x=k then some d else lkD r k:=rfl
theorem KvIs.len {H:Hp}:∀ {kvs:List (Str × D)} {ys:List (Key × V)},KvIs H kvs ys->kvs.length=ys.length
 | [],ys,h=>by rw [show ys=[] from h];rfl
 | (k,d) :: r,ys,h=>by
  obtain ⟨v,ys',rfl,_,h2⟩:=h
  rw [List.length_cons,List.length_cons,KvIs.len h2]
theorem KvIs.val {H:Hp}:∀ {kvs:List (Str × D)} {ys:List (Key × V)} (k:Str),KvIs H kvs ys->match lkD kvs k with
  | some d=>∃ v,valV ys (Sum.inr k)=some v/\Is H d v
  | none=>valV ys (Sum.inr k)=none
 | [],ys,k,h=>by rw [show ys=[] from h];exact valV_nil
 | (x,d) :: r,ys,k,h=>by
  obtain ⟨v,ys',rfl,h1,h2⟩:=h
  have ih:=KvIs.val k h2
  rw [lkD_cons]
  by_cases e:x=k
  ·rw [if_pos e]
   exact ⟨v,valV_pos (by rw [e]),h1⟩
  ·rw [if_neg e]
   have hne:¬ (Sum.inr x:Key)=Sum.inr k:=fun z=>e (Sum.inr.inj z)
   rw [valV_neg (p:=(Sum.inr x,v)) hne]
   exact ih
theorem KvIs.get {H:Hp} {kvs:List (Str × D)} {ys:List (Key × V)} {k:Str} {d:D} (h:KvIs H kvs ys) (e:lkD kvs k=some d):∃ v,valV ys (Sum.inr k)=some v/\Is H d v:=by
 have:=h.val k;rw [e] at this;exact this
theorem KvIs.some_eq {H:Hp} {kvs:List (Str × D)} {ys:List (Key × V)} (h:KvIs H kvs ys) (k:Str):(valV ys (Sum.inr k)).isSome=(lkD kvs k).isSome:=by
 have:=h.val k
 cases e:lkD kvs k with
 | none=>rw [e] at this;rw [show valV ys (Sum.inr k)=none from this];rfl
 | some d=>rw [e] at this;obtain ⟨v,h1,_⟩:=this;rw [h1];rfl
theorem KvIs.any {H:Hp} {k:Str}:∀ {kvs:List (Str × D)} {ys:List (Key × V)},KvIs H kvs ys->(kvs.any fun kv=>decide (kv.1=k))=ys.any fun kv=>decide (kv.1=Sum.inr k)
 | [],ys,h=>by rw [show ys=[] from h];rfl
 | (x,d) :: r,ys,h=>by
  obtain ⟨v,ys',rfl,h1,h2⟩:=h
  rw [List.any_cons,List.any_cons,KvIs.any h2,key_rr]
theorem KvIs.repl {H:Hp} {k:Str} {d:D} {v:V} (i:Is H d v):∀ {kvs:List (Str × D)} {ys:List (Key × V)},KvIs H kvs ys ->
  KvIs H (kvs.map fun kv=>if kv.1=k then (kv.1,d) else kv) (ys.map fun kv=>if kv.1=Sum.inr k then (kv.1,v) else kv)
 | [],ys,h=>by rw [show ys=[] from h];rfl
 | (x,e) :: r,ys,h=>by
  obtain ⟨u,ys',rfl,h1,h2⟩:=h
  have ih:=KvIs.repl (k:=k) i h2
  rw [List.map_cons,List.map_cons]
  by_cases z:x=k
  ·rw [if_pos z,if_pos (by rw [z])]
   exact ⟨v,_,rfl,i,ih⟩
  ·rw [if_neg z,if_neg (fun q=>z (Sum.inr.inj q))]
   exact ⟨u,_,rfl,h1,ih⟩
theorem KvIs.snoc {H:Hp} {k:Str} {d:D} {v:V} (i:Is H d v):∀ {kvs:List (Str × D)} {ys:List (Key × V)},KvIs H kvs ys->KvIs H (kvs++[(k,d)]) (ys++[(Sum.inr k,v)])
 | [],ys,h=>by rw [show ys=[] from h];exact ⟨v,[],rfl,i,rfl⟩
 | (x,e) :: r,ys,h=>by
  obtain ⟨u,ys',rfl,h1,h2⟩:=h
  exact ⟨u,_,rfl,h1,KvIs.snoc i h2⟩
theorem KvIs.put {H:Hp} {k:Str} {d:D} {v:V} (i:Is H d v) {kvs:List (Str × D)} {ys:List (Key × V)} (h:KvIs H kvs ys):KvIs H (putD kvs k d) (putK ys (Sum.inr k) v):=by
 unfold putD putK
 rw [h.any]
 split
 ·exact h.repl i
 ·exact h.snoc i
theorem lkD_snoc (k j:Str) (d:D):∀ kvs:List (Str × D),lkD kvs k=none->lkD (kvs++[(k,d)]) j=if k=j then some d else lkD kvs j
 | [],_=>rfl
 | (x,e) :: r,h=>by
  rw [lkD_cons] at h
  by_cases hx:x=k
  ·rw [if_pos hx] at h;cases h
  ·rw [if_neg hx] at h
   show lkD ((x,e) :: (r++[(k,d)])) j=_
   rw [lkD_cons,lkD_cons]
   rw [lkD_snoc k j d r h]
   by_cases hj:x=j
   ·rw [if_pos hj,if_pos hj,if_neg (by intro z;exact hx (hj.trans z.symm))]
   ·rw [if_neg hj,if_neg hj]
theorem any_lkD (k:Str):∀ kvs:List (Str × D),(kvs.any fun kv=>decide (kv.1=k))=(lkD kvs k).isSome
 | []=>rfl
 | (x,e) :: r=>by
  rw [List.any_cons,any_lkD k r,lkD_cons]
  by_cases h:x=k
  ·rw [if_pos h,decide_eq_true h];rfl
  ·rw [if_neg h,decide_eq_false h];rfl
theorem lkD_repl (k j:Str) (d:D):∀ kvs:List (Str × D),lkD (kvs.map fun kv=>if kv.1=k then (kv.1,d) else kv) j=(lkD kvs j).map fun x=>if j=k then d else x
 | []=>rfl
 | (x,e) :: r=>by
  rw [List.map_cons]
  by_cases hx:x=k
  ·rw [if_pos hx]
   rw [lkD_cons,lkD_cons]
   by_cases hj:x=j
   ·rw [if_pos hj,if_pos hj,Option.map_some,if_pos (hj.symm.trans hx)]
   ·rw [if_neg hj,if_neg hj];exact lkD_repl k j d r
  ·rw [if_neg hx]
   rw [lkD_cons,lkD_cons]
   by_cases hj:x=j
   ·rw [if_pos hj,if_pos hj,Option.map_some,if_neg (by intro z;exact hx (hj.trans z))]
   ·rw [if_neg hj,if_neg hj];exact lkD_repl k j d r
theorem lkD_put (kvs:List (Str × D)) (k j:Str) (d:D):lkD (putD kvs k d) j=if k=j then some d else lkD kvs j:=by
 unfold putD
 rw [any_lkD]
 cases e:lkD kvs k with
 | none =>
  rw [if_neg (by simp)]
  exact lkD_snoc k j d kvs e
 | some x =>
  rw [if_pos (show (some x).isSome=true from rfl),lkD_repl]
  by_cases h:k=j
  ·subst h;rw [if_pos rfl,e,Option.map_some,if_pos rfl]
  ·rw [if_neg h]
   cases lkD kvs j with
   | none=>rfl
   | some y=>rw [Option.map_some,if_neg (fun z=>h z.symm)]
theorem putD_len (kvs:List (Str × D)) (k:Str) (d:D):(putD kvs k d).length<=kvs.length+1:=by
 unfold putD;split<;>simp
section
variable {X:Cx} {G:Ga} {M:MH} {a b c e o i:Expr} {es rest:List Expr} {pos:Pos} {Q:DK} {Qb:Bool->MH->Prop}
theorem ev_dnew (h:∀ p,M p=none->Q (.ref p) (mset M p (.dic []))):EV X G M (.Dict [] [] pos) Q :=
 EV.of pe_dnewK fun σ H kf R=>fun p hp kf'=>⟨grow_new hp,.ref p,mset M p (.dic []),is_ref.mpr rfl,R.mem.lay hp ⟨[],upd_same,rfl⟩,h p (R.mem.fresh hp kf')⟩
def IxA (da db:D) (M:MH) (Q:DK):Prop:=match db with
 | .int i=>match da with
  | .str z=>∃ c,z.length<=sizeLine/\atI z.cps.toList i=some c/\Q (.str ⟨#[c]⟩) M
  | _=>IxD da i M Q
 | .str k=>∃ p kvs d,da=.ref p/\M p=some (.dic kvs)/\lkD kvs k=some d/\Q d M
 | _=>False
theorem ix_at {ds:List D} {j:Int} {d:D} (e:atI ds j=some d) (q:Q d M):IxA (.tup ds) (.int j) M Q:=ix_tl e q
theorem ix_al {l:Addr} {ds:List D} {j:Int} {d:D} (h:M l=some (.lst ds)) (e:atI ds j=some d) (q:Q d M):IxA (.ref l) (.int j) M Q:=ix_ll h e q
theorem ix_ar {l:Addr} {ds:List D} {j:Int} {d:D} (h:M l=some (.ro ds)) (e:atI ds j=some d) (q:Q d M):IxA (.ref l) (.int j) M Q:=ix_rl h e q
theorem ix_ad {p:Addr} {kvs:List (Str × D)} {k:Str} {d:D} (h:M p=some (.dic kvs)) (e:lkD kvs k=some d) (q:Q d M):IxA (.ref p) (.str k) M Q:=⟨p,kvs,d,rfl,h,e,q⟩
theorem ix_dict (hu:X.A.units+1 < cLine):IxR X (fun x y H Q=>∃ a v,x=.ref a/\DGet H a y (some v)/\Q v H):=by
 intro value slice pins s σ H x y v u Q I rx ry h hs
 obtain ⟨a,z,rfl,g,q⟩:=h
 cases rx
 exact tail_any (dict_typeIs I g) PySem.F.slot_dict_getitem.lookup (d_getItem hu I g ry fun w' s3 I3 rw'=>⟨z,H,I3,rw',q⟩) hs
theorem rd_ixA {da db:D} (h:IxA da db M Q):RD X.K (fun x y H Q=>rIx X.K x y H Q\/∃ a v,x=.ref a/\DGet H a y (some v)/\Q v H) da db M Q:=by
 intro H x y kf hx hy m
 unfold IxA at h
 cases db with
 | int i =>
  cases da with
  | str z =>
   obtain ⟨c,h1,h2,q⟩:=h
   rw [is_int] at hy;subst hy
   rw [is_str] at hx;subst hx
   exact .inl (.inr (.inr ⟨z,i,c,rfl,rfl,h1,h2,fun _=>⟨Grow.refl _,_,M,is_str.mpr rfl,m,q⟩⟩))
  | non=>exact h.elim
  | bl _=>exact h.elim
  | int _=>exact h.elim
  | ty _=>exact h.elim
  | tup ds=>exact .inl (rd_ix (X:=X) h H x y kf hx hy m)
  | ref l=>exact .inl (rd_ix (X:=X) h H x y kf hx hy m)
 | str k =>
  obtain ⟨p,kvs,d,rfl,h1,h2,q⟩:=h
  rw [is_ref] at hx;subst hx
  rw [is_str] at hy;subst hy
  obtain ⟨ys,e1,e2⟩:=m p _ h1
  obtain ⟨v,e3,e4⟩:=e2.get h2
  exact .inr ⟨p,v,rfl,by rw [<- e3];exact DGet.k (k:=Sum.inr k) e1,fun _=>⟨Grow.refl _,d,M,e4,m,q⟩⟩
 | non=>exact h.elim
 | bl _=>exact h.elim
 | ty _=>exact h.elim
 | tup _=>exact h.elim
 | ref _=>exact h.elim
theorem l_item (hu:X.A.units+64 < cLine) (h:EV X G M a fun da Ma=>EV X G Ma b fun db Mb=>IxA da db Mb Q) (hs:PlainIx b):EV X G M (.Subscript a b pos) Q :=
 ev_ix (ix_seq.or (ix_dict (by omega))) hs (h.mono fun _ _ h1=>h1.mono fun _ _ q=>rd_ixA q)
def SetL (d1 d2 d:D) (M:MH) (Qm:MH->Prop):Prop:=match d1,d2 with
 | .ref p,.int k=>∃ ds j,M p=some (.lst ds)/\ixN ds.length k=some j/\Qm (mset M p (.lst (ds.set j d)))
 | .ref p,.str k=>∃ kvs,M p=some (.dic kvs)/\kvs.length < sizeLine/\Qm (mset M p (.dic (putD kvs k d)))
 | _,_=>False
theorem set_ll {p:Addr} {k:Int} {d:D} {ds:List D} {j:Nat} {Qm:MH->Prop} (h:M p=some (.lst ds)) (e:ixN ds.length k=some j) (q:Qm (mset M p (.lst (ds.set j d)))):SetL (.ref p) (.int k) d M Qm:=⟨ds,j,h,e,q⟩
theorem set_dl {p:Addr} {k:Str} {d:D} {kvs:List (Str × D)} {Qm:MH->Prop} (h:M p=some (.dic kvs)) (e:kvs.length < sizeLine) (q:Qm (mset M p (.dic (putD kvs k d)))):SetL (.ref p) (.str k) d M Qm:=⟨kvs,h,e,q⟩
theorem SetL.cases {d1 d2 d:D} {Qm:MH->Prop} (h:SetL d1 d2 d M Qm):(∃ p k ds j,d1=.ref p/\d2=.int k/\M p=some (.lst ds)/\ixN ds.length k=some j/\Qm (mset M p (.lst (ds.set j d))))\/∃ p k kvs,d1=.ref p/\d2=.str k/\M p=some (.dic kvs)/\kvs.length < sizeLine/\Qm (mset M p (.dic (putD kvs k d))):=by
 unfold SetL at h
 split at h
 ·obtain ⟨ds,j,h1,h2,h3⟩:=h
  exact .inl ⟨_,_,ds,j,rfl,rfl,h1,h2,h3⟩
 ·obtain ⟨kvs,h1,h2,h3⟩:=h
  exact .inr ⟨_,_,kvs,rfl,rfl,h1,h2,h3⟩
 ·exact h.elim
theorem gv_set {d:D} {Qg:Ga->MH->Prop} (hu:X.A.units+64 < cLine) (h:EV X G M o fun d1 M1=>EV X G M1 i fun d2 M2=>SetL d1 d2 d M2 fun M3=>Qg G M3)
  (ha:∀ v,assign (.Subscript o i pos) X.env v=(do
   let ov <- holding [v] (eval o X.env)
   let iv <- holding [v,ov] (eval i X.env)
   standAt pos
   holding [v,ov,iv] (setItem ov iv v)
   release [v,ov,iv] [])):GV X G M (.Subscript o i pos) d Qg:=by
 intro pins s σ H v u I R r iv
 rw [ha]
 refine wpAny_bind (wpAny_holding (thn (h pins s σ H I R) fun ov s1 ⟨x,H1,d1,M1,I1,r1,g1,i1,R1,q1⟩=>?_))
 refine wpAny_bind (wpAny_holding (thn (q1 pins s1 σ H1 I1 R1) fun iv' s2 ⟨y,H2,d2,M2,I2,r2,g2,i2,R2,q2⟩=>?_))
 rcases SetL.cases q2 with ⟨p,k,ds,j,rfl,rfl,hp,hj,q⟩ | ⟨p,k,kvs,rfl,rfl,hp,hz,q⟩
 ·skip
  rw [is_ref] at i1;subst i1
  rw [is_int] at i2;subst i2
  obtain ⟨xs,hx,hxi⟩:=R2.mem p _ hp
  have nt:∀ ys,H2 p≠some (.tup ys):=fun ys z=>by rw [hx] at z;cases z
  have gu:Grow H2 (upd H2 p (.lst (xs.set j v))):=grow_upd nt
  refine wpAny_bind (wpAny_standAt (wpAny_bind (wpAny_holding (thn (set_list pins s2 σ H2 (.ref p) (.int k) v ov iv' u (fun H'=>H'=upd H2 p (.lst (xs.set j v))) I2 r1 r2 r ⟨p,xs,k,j,rfl,rfl,hx,by rw [<- hxi.len];exact hj,rfl⟩) fun _ s3 ⟨H3,I3,e3⟩=>?_))))
  subst e3
  refine wpAny_release ⟨σ,_,G,_,I3,(g1.trans g2).trans gu,R2.to gu (R2.mem.put (u:=.lst (ds.set j d)) nt ⟨_,upd_same,(hxi.grow gu).set j (Is.grow ((g1.trans g2).trans gu) _ _ iv)⟩),q⟩
 ·skip
  rw [is_ref] at i1;subst i1
  rw [is_str] at i2;subst i2
  obtain ⟨ys,hx,hxi⟩:=R2.mem p _ hp
  cases r1
  have nt:∀ zs,H2 p≠some (.tup zs):=fun zs z=>by rw [hx] at z;cases z
  have gu:Grow H2 (upd H2 p (.dK (putK ys (Sum.inr k) v))):=grow_upd nt
  refine wpAny_bind (wpAny_standAt (wpAny_bind (wpAny_holding (d_setItem (by omega) I2 (DPut.k (k:=Sum.inr k) hx (by rw [<- hxi.len];exact hz)) r2 r fun s3 I3=>?_))))
  refine wpAny_release ⟨σ,_,G,_,I3,(g1.trans g2).trans gu,R2.to gu (R2.mem.put (u:=.dic (putD kvs k d)) nt ⟨_,upd_same,(hxi.grow gu).put (Is.grow ((g1.trans g2).trans gu) _ _ iv)⟩),q⟩
end
end D3
namespace K01
theorem gcd_step {a b:Int} (hb:0 < b):Int.gcd b (a.fmod b)=Int.gcd a b:=by
 rw [Int.fmod_eq_emod_of_nonneg a (Int.le_of_lt hb)]
 have h:=Int.mul_ediv_add_emod a b
 apply Nat.dvd_antisymm
 ·apply Int.dvd_gcd
  ·have h1:((Int.gcd b (a % b):Nat):Int) ∣ b:=Int.gcd_dvd_left ..
   have h2:((Int.gcd b (a % b):Nat):Int) ∣ a % b:=Int.gcd_dvd_right ..
   have h3:=Int.dvd_add (Int.dvd_trans h1 (Int.dvd_mul_right b (a / b))) h2
   rw [h] at h3
   exact h3
  ·exact Int.gcd_dvd_left ..
 ·apply Int.dvd_gcd
  ·exact Int.gcd_dvd_right ..
  ·have h1:((Int.gcd a b:Nat):Int) ∣ a:=Int.gcd_dvd_left ..
   have h2:((Int.gcd a b:Nat):Int) ∣ b:=Int.gcd_dvd_right ..
   rw [Int.emod_def]
   exact Int.dvd_sub h1 (Int.dvd_trans h2 (Int.dvd_mul_right ..))
theorem fmod_lt {a b:Int} (hb:0 < b):0<=a.fmod b/\a.fmod b < b:=by
 rw [Int.fmod_eq_emod_of_nonneg a (Int.le_of_lt hb)]
 exact ⟨Int.emod_nonneg _ (by omega),Int.emod_lt_of_pos _ hb⟩
theorem gcd_zero_right' {a:Int} (h:0<=a):((Int.gcd a 0:Nat):Int)=a:=by
 rw [Int.gcd_zero_right];omega
def dv (t b:Int):Int:=if b < 0 then -((Int.gcd t b:Nat):Int) else ((Int.gcd t b:Nat):Int)
def tp (t b:Int):Int:=t.fdiv (dv t b)
def bt (t b:Int):Int:=b.fdiv (dv t b)
theorem gcd_pos {t b:Int} (h:b≠0):0 < Int.gcd t b:=Int.gcd_pos_of_ne_zero_right t h
theorem dv_ne {t b:Int} (h:b≠0):dv t b≠0:=by
 have:=gcd_pos (t:=t) h
 unfold dv;split<;>omega
theorem dv_dvd_left (t b:Int):dv t b ∣ t:=by
 unfold dv;split
 ·exact Int.neg_dvd.mpr (Int.gcd_dvd_left ..)
 ·exact Int.gcd_dvd_left ..
theorem dv_dvd_right (t b:Int):dv t b ∣ b:=by
 unfold dv;split
 ·exact Int.neg_dvd.mpr (Int.gcd_dvd_right ..)
 ·exact Int.gcd_dvd_right ..
theorem tp_eq (t b:Int):tp t b * dv t b=t:=Int.fdiv_mul_cancel_of_dvd (dv_dvd_left t b)
theorem bt_eq (t b:Int):bt t b * dv t b=b:=Int.fdiv_mul_cancel_of_dvd (dv_dvd_right t b)
theorem bt_pos {t b:Int} (h:b≠0):0 < bt t b:=by
 have e:=bt_eq t b
 have g:=gcd_pos (t:=t) h
 unfold dv at e
 split at e
 ·rename_i hb
  refine Int.lt_of_not_ge fun z=>?_
  have:0<=bt t b * -((Int.gcd t b:Nat):Int):=by
   have:=Int.mul_nonneg_of_nonpos_of_nonpos (a:=bt t b) (b:=-((Int.gcd t b:Nat):Int)) z (by omega)
   exact this
  omega
 ·rename_i hb
  refine Int.lt_of_not_ge fun z=>?_
  have:bt t b * ((Int.gcd t b:Nat):Int)<=0:=Int.mul_nonpos_of_nonpos_of_nonneg z (by omega)
  omega
theorem cross (t b:Int):tp t b * b=t * bt t b:=by
 have h1:=tp_eq t b
 have h2:=bt_eq t b
 calc tp t b * b=tp t b * (bt t b * dv t b):=by rw [h2]
  _=(tp t b * dv t b) * bt t b:=by rw [Int.mul_comm (bt t b),<- Int.mul_assoc]
  _=t * bt t b:=by rw [h1]
theorem coprime {t b:Int} (h:b≠0):Int.gcd (tp t b) (bt t b)=1:=by
 have h1:=tp_eq t b
 have h2:=bt_eq t b
 have h3:Int.gcd (tp t b * dv t b) (bt t b * dv t b)=Int.gcd (tp t b) (bt t b) * (dv t b).natAbs:=Int.gcd_mul_right ..
 rw [h1,h2] at h3
 have h4:(dv t b).natAbs=Int.gcd t b:=by unfold dv;split<;>omega
 rw [h4] at h3
 have g:=gcd_pos (t:=t) h
 exact Nat.eq_of_mul_eq_mul_right g (by rw [Nat.one_mul];exact h3.symm)
theorem abs_le_of_mul {x y z:Int} (h:x * y=z) (hy:y≠0):x.natAbs<=z.natAbs:=by
 rw [<- h,Int.natAbs_mul]
 exact Nat.le_mul_of_pos_right _ (by omega)
theorem tp_le {t b:Int} (h:b≠0):(tp t b).natAbs<=t.natAbs:=abs_le_of_mul (tp_eq t b) (dv_ne h)
theorem bt_le {t b:Int} (h:b≠0):(bt t b).natAbs<=b.natAbs:=abs_le_of_mul (bt_eq t b) (dv_ne h)
theorem log2_lt {n k:Nat} (hk:0 < k) (h:n < 2 ^ k):n.log2 < k:=by
 rcases Nat.eq_zero_or_pos n with h0 | hp
 ·rw [h0,Nat.log2_zero];exact hk
 ·exact (Nat.log2_lt (Nat.ne_of_gt hp)).mpr h
end K01
namespace KA
open PySem PySem.Spec PyProof.Rows L2 D3 K01
def Lim (x:Int):Prop:=x.natAbs < 2 ^ 8000
def Cell (c:Int):Prop:=Builtin.Int.intBits c<=2097152
abbrev fr (t b:Int):D:=.tup [.int t,.int b]
def B (n:Nat) (x:Int):Prop:=x.natAbs < 2 ^ n
theorem bits_le {x:Int} {n:Nat} (h:x.natAbs < 2 ^ n):Builtin.Int.intBits x<=n:=by
 unfold Builtin.Int.intBits
 split
 ·exact Nat.zero_le _
 ·rename_i hx
  have:x.natAbs≠0:=by intro z;apply hx;simp;omega
  have:=(Nat.log2_lt this).mpr h
  omega
theorem mul_ok {x y:Int} {m n:Nat} (hx:Builtin.Int.intBits x<=m) (hy:Builtin.Int.intBits y<=n) (h:m+n<=134217728):IntMulOk x y:=by
 unfold IntMulOk
 intro z
 rw [Bool.and_eq_true] at z
 have z2:=z.2
 unfold Builtin.Int.intTooBig at z2
 rw [bitsLine_eq] at z2
 have:=of_decide_eq_true z2
 omega
theorem Lim.div {x y:Int} (h0:y≠0) (hy:Lim y):CDivB x y:=⟨h0,Nat.lt_trans (log2_lt (by decide) hy) (by decide)⟩
theorem B.mulOk {x y:Int} {m n:Nat} (hx:B m x) (hy:B n y) (h:m+n<=134217728):IntMulOk x y:=mul_ok (bits_le hx) (bits_le hy) h
theorem B.mul {x y:Int} {m n:Nat} (hx:B m x) (hy:B n y):B (m+n) (x * y):=by
 unfold B
 rw [Int.natAbs_mul,Nat.pow_add]
 exact Nat.mul_lt_mul'' hx hy
theorem B.up {x:Int} {m n:Nat} (h:m<=n) (hx:B m x):B n x:=Nat.lt_of_lt_of_le hx (Nat.pow_le_pow_right (by decide) h)
theorem B.add {x y:Int} {m:Nat} (hx:B m x) (hy:B m y):B (m+1) (x+y):=by
 unfold B at *
 rw [Nat.pow_succ]
 have:=Int.natAbs_add_le x y
 omega
theorem B.neg {x:Int} {m:Nat} (hx:B m x):B m (-x):=by unfold B;rw [Int.natAbs_neg];exact hx
theorem B.sub {x y:Int} {m:Nat} (hx:B m x) (hy:B m y):B (m+1) (x - y):=by
 have:=hx.add hy.neg
 rw [<- Int.sub_eq_add_neg] at this
 exact this
theorem B.le {x y:Int} {m:Nat} (h:x.natAbs<=y.natAbs) (hy:B m y):B m x:=Nat.lt_of_le_of_lt h hy
theorem B.lim {x:Int} {m:Nat} (hx:B m x) (h:m<=8000):Lim x:=B.up (n:=8000) h hx
theorem abs_eq (a:Int):(if a < 0 then -a else a)=(a.natAbs:Int):=by split<;>omega
theorem kit_tt (K:PySem.W.Frag):PySem.W.kitOne K (.type "tuple") (.type "tuple")=some true:=rfl
theorem kit_ii (K:PySem.W.Frag):PySem.W.kitOne K (.type "int") (.type "int")=some true:=rfl
theorem kit_ib (K:PySem.W.Frag):PySem.W.kitOne K (.type "int") (.type "bool")=some false:=by
 show (if ((Value.type "int" == Value.type "bool")=true) then some true else (if PySem.W.kitMeta "bool" = true then (PySem.fastBuiltinMro "int").map (·.contains (.type "bool")) else none))=some false
 decide +kernel
theorem bits_mono {x y:Int} (h:x.natAbs<=y.natAbs):Builtin.Int.intBits x<=Builtin.Int.intBits y:=by
 by_cases hy:y.natAbs=0
 ·have hx:x=0:=by omega
  subst hx
  have:Builtin.Int.intBits 0=0:=by decide
  omega
 ·refine bits_le (Nat.lt_of_le_of_lt h ?_)
  have e:Builtin.Int.intBits y=y.natAbs.log2+1:=by
   unfold Builtin.Int.intBits
   rw [if_neg (by simp;omega)]
  rw [e]
  exact Nat.lt_log2_self
theorem small {n:Nat} (h:n<=1000):n<=sizeLine:=Nat.le_of_lt (small1000 h)
theorem Ext.refl (M:MH):Ext M M:=fun _ _ h=>h
theorem Ext.trans {M M1 M2:MH} (a:Ext M M1) (b:Ext M1 M2):Ext M M2:=fun x o h=>b x o (a x o h)
def At (K:PySem.W.Frag) (x:Str) (st:Stmt):Prop:=∃ (f:Addr) (od an:Option Addr) (sl:Array (Option Value)) (oc kV dc pm cd ct:Value),PySem.W.nsIn K mainGlobals x=some (some (.ref f))/\K.lookup f=some ⟨oc,od,.func (PySem.W.fnOf x x (defArgs st) (defBody st) (defScope st) .none kV dc pm an cd ct),sl⟩/\PySem.W.codeIn K cd x=true/\PySem.W.keepIn K (.ref f)=true
theorem At.mk {K:PySem.W.Frag} {x:Str} {st:Stmt} {f:Addr} {od an:Option Addr} {sl:Array (Option Value)} {oc kV dc pm cd ct:Value} (a:PySem.W.nsIn K mainGlobals x=some (some (.ref f))) (l:K.lookup f=some ⟨oc,od,.func (PySem.W.fnOf x x (defArgs st) (defBody st) (defScope st) .none kV dc pm an cd ct),sl⟩)
  (c:PySem.W.codeIn K cd x=true) (k:PySem.W.keepIn K (.ref f)=true):At K x st:=⟨f,od,an,sl,oc,kV,dc,pm,cd,ct,a,l,c,k⟩
theorem At.get {K:PySem.W.Frag} {x:Str} {st:Stmt} {h:Heap} {mg:Str->Option Value} (A:At K x st) (X:K.In h) (G:h.Ns mainGlobals mg):∃ f fd,Fun K x x st f fd/\mg x=some (.ref f):=by
 obtain ⟨f,od,an,sl,oc,kV,dc,pm,cd,ct,a,l,c,k⟩:=A
 exact ⟨f,_,fun_mk (st:=st) l c k,PySem.W.mg_of X G a⟩
theorem eq_fr (a b c d:Int):PyData.eqv (pd (fr a b)) (pd (fr c d))=(decide (a=c) && decide (b=d)):=by
 show (a == c && (b == d && true))=_
 rw [Bool.and_true,Bool.beq_eq_decide_eq,Bool.beq_eq_decide_eq]
theorem dvd_cop {y x b:Int} (h:y ∣ x * b) (g:Int.gcd x y=1):y ∣ b:=by
 have h1:y.natAbs ∣ x.natAbs * b.natAbs:=by rw [<- Int.natAbs_mul];exact Int.natAbs_dvd_natAbs.mpr h
 have h2:Nat.Coprime y.natAbs x.natAbs:=by
  show Nat.gcd _ _=1
  rw [Nat.gcd_comm];exact g
 exact Int.natAbs_dvd_natAbs.mp (h2.dvd_of_dvd_mul_left h1)
theorem lowest {x y a b:Int} (hy:0 < y) (hb:0 < b) (h1:Int.gcd x y=1) (h2:Int.gcd a b=1) (h:x * b=a * y):x=a/\y=b:=by
 have d1:y ∣ b:=by
  have:y ∣ x * b:=by rw [h];exact Int.dvd_mul_left _ _
  exact dvd_cop this h1
 have d2:b ∣ y:=by
  have:b ∣ a * y:=by rw [<- h];exact Int.dvd_mul_left _ _
  exact dvd_cop this h2
 have e:y=b:=Int.le_antisymm (Int.le_of_dvd hb d1) (Int.le_of_dvd hy d2)
 subst e
 exact ⟨Int.eq_of_mul_eq_mul_right (by omega) h,rfl⟩
theorem made_is {t b x y:Int} (hb:b≠0) (hy:0 < y) (h1:Int.gcd x y=1) (h:x * b=t * y):tp t b=x/\bt t b=y:=by
 have c:=cross t b
 refine lowest (bt_pos hb) hy (coprime hb) h1 ?_
 have hb':b≠0:=hb
 apply Int.eq_of_mul_eq_mul_right hb'
 calc tp t b * y * b=(tp t b * b) * y:=by rw [Int.mul_right_comm]
  _=t * bt t b * y:=by rw [c]
  _=(t * y) * bt t b:=by rw [Int.mul_right_comm]
  _=x * b * bt t b:=by rw [h]
  _=x * bt t b * b:=by rw [Int.mul_right_comm]
end KA
namespace KA
open PySem PySem.Spec PyProof.Rows L2 D3 K01
class Bd (x:Int) (n:outParam Nat):Prop where
 h:x.natAbs < 2 ^ n
theorem Bd.b {x:Int} {n:Nat} (i:Bd x n):B n x:=i.h
theorem Bd.of {x:Int} {n:Nat} (i:B n x):Bd x n:=⟨i⟩
instance bd_mul {x y:Int} {m n:Nat} [i:Bd x m] [j:Bd y n] : Bd (x * y) (m+n):=⟨B.mul i.h j.h⟩
instance bd_add {x y:Int} {m n:Nat} [i:Bd x m] [j:Bd y n] : Bd (x+y) (max m n+1):=⟨B.add (B.up (Nat.le_max_left ..) i.h) (B.up (Nat.le_max_right ..) j.h)⟩
instance (priority:=low) bd_any {x:Int}:Bd x (x.natAbs.log2+1):=⟨Nat.lt_log2_self⟩
theorem fdiv_abs (x y:Int):(x.fdiv y).natAbs<=x.natAbs:=Int.natAbs_fdiv_le_natAbs x y
instance bd_fdiv {x y:Int} {m:Nat} [i:Bd x m] : Bd (x.fdiv y) m:=⟨Nat.lt_of_le_of_lt (fdiv_abs x y) i.h⟩
theorem mulOk {x y:Int} {m n:Nat} [i:Bd x m] [j:Bd y n] (h:m+n<=134217728:=by first | decide +kernel | omega):IntMulOk x y:=B.mulOk i.h j.h h
theorem lim {x:Int} {m:Nat} [i:Bd x m] (h:m<=8000:=by first | decide +kernel | omega):Lim x:=B.lim i.h h
theorem divOk {x y:Int} {m:Nat} [i:Bd y m] (h0:y≠0) (h:m<=8000:=by first | decide +kernel | omega):CDivB x y:=Lim.div h0 (lim h)
theorem Bd.rng {x:Int} {n:Nat} (h1:-((2:Int) ^ n) < x) (h2:x < 2 ^ n):Bd x n:=⟨by
 have e:((2 ^ n:Nat):Int)=(2:Int) ^ n:=by rw [Int.natCast_pow];rfl
 rw [<- e] at h1 h2
 omega⟩
theorem Cell.bd {c:Int} (h:Cell c):Bd c 2097152:=⟨by
 have h:Builtin.Int.intBits c<=2097152:=h
 by_cases z:c.natAbs=0
 ·rw [z];exact Nat.pow_pos (by decide)
 ·have e:Builtin.Int.intBits c=c.natAbs.log2+1:=by
   unfold Builtin.Int.intBits
   rw [if_neg (by simp;omega)]
  rw [e] at h
  exact Nat.lt_of_lt_of_le Nat.lt_log2_self (Nat.pow_le_pow_right (by decide) h)⟩
theorem Cell.of {c:Int} {n:Nat} [i:Bd c n] (h:n<=2097152:=by first | decide +kernel | omega):Cell c:=Nat.le_trans (bits_le i.h) h
def Kp (S:List Addr) (M M':MH):Prop:=∀ b o,b∉S->M b=some o->M' b=some o
theorem Kp.refl (S:List Addr) (M:MH):Kp S M M:=fun _ _ _ h=>h
theorem Kp.trans {S:List Addr} {M M1 M2:MH} (a:Kp S M M1) (b:Kp S M1 M2):Kp S M M2:=fun x o h e=>b x o h (a x o h e)
theorem Kp.ext {S:List Addr} {M M1:MH} (a:Ext M M1):Kp S M M1:=fun x o _ e=>a x o e
theorem Kp.toExt {M M1:MH} (a:Kp [] M M1):Ext M M1:=fun x o e=>a x o (by simp) e
theorem Kp.new {S:List Addr} {M:MH} {p:Addr} {o:MO} (h:M p=none):Kp S M (mset M p o):=Kp.ext (ext_new h)
theorem Kp.put {S:List Addr} {M:MH} {p:Addr} {o:MO} (h:p∈S):Kp S M (mset M p o):=fun x u n e=>by
 have hx:x≠p:=by intro z;subst z;exact n h
 rw [mset_ne hx];exact e
theorem Kp.drop {S:List Addr} {M M':MH} {p:Addr} (a:Kp (p :: S) M M') (h:M p=none):Kp S M M':=fun x o n e=>a x o (fun z=>by
 rcases List.mem_cons.mp z with z | z
 ·rw [z,h] at e;cases e
 ·exact n z) e
theorem Kp.one {M M':MH} {p:Addr} (a:Kp [p] M M') (h:M p=none):Ext M M':=(a.drop h).toExt
theorem Kp.at {S:List Addr} {M M':MH} {b:Addr} {o:MO} (a:Kp S M M') (e:M b=some o) (n:b∉S):M' b=some o:=a b o n e
theorem ne_fresh {M:MH} {p q:Addr} {o:MO} (h:M q=some o) (n:M p=none):q≠p:=fun z=>by rw [z,n] at h;cases h
theorem cut_mid (ns:List Int) (j k:Nat):D3.cutD (ns.map D.int) (some (j:Int)) (some (k:Int))=((ns.take k).drop j).map D.int:=by
 unfold D3.cutD
 rw [HT.sIx_nat,HT.sIx_nat,List.length_map,List.map_drop,List.map_take,List.drop_take]
 by_cases h:k<=ns.length
 ·rw [Nat.min_eq_left h]
  by_cases hj:j<=ns.length
  ·rw [Nat.min_eq_left hj]
  ·rw [Nat.min_eq_right (by omega),List.drop_of_length_le (by simp),List.drop_of_length_le (by simp;omega),List.take_nil,List.take_nil]
 ·rw [Nat.min_eq_right (by omega)]
  by_cases hj:j<=ns.length
  ·rw [Nat.min_eq_left hj,List.take_of_length_le (by simp),List.take_of_length_le (by simp;omega)]
  ·rw [Nat.min_eq_right (by omega),List.drop_of_length_le (by simp),List.drop_of_length_le (by simp;omega),List.take_nil,List.take_nil]
end KA
namespace D3
open PySem PySem.Spec PyProof.Rows L2
section
variable {X:Cx} {G:Ga} {M:MH} {a b c e o i:Expr} {es rest:List Expr} {pos:Pos} {Q:DK} {Qb:Bool->MH->Prop}
def InL (da db:D) (M:MH) (Qb:Bool->MH->Prop):Prop:=match da,db with
 | .str k,.ref p=>(∃ kvs,M p=some (.dic kvs)/\Qb (lkD kvs k).isSome M)\/(∃ ss:List Str,M p=some (.lst (ss.map D.str))/\Qb (decide (k∈ss)) M)
 | .str k,.tup ds=>∃ ss:List Str,ds=ss.map D.str/\Qb (decide (k∈ss)) M
 | _,_=>False
theorem in_d {k:Str} {p:Addr} {kvs:List (Str × D)} (h:M p=some (.dic kvs)) (q:Qb (lkD kvs k).isSome M):InL (.str k) (.ref p) M Qb:=.inl ⟨kvs,h,q⟩
theorem isl_strs {H:Hp}:∀ {ss:List Str} {vs:List V},IsL H (ss.map D.str) vs->vs=ss.map V.str
 | [],vs,h=>by rw [List.map_nil,isl_nil] at h;exact h
 | s :: r,vs,h=>by
  rw [List.map_cons,isl_cons] at h
  obtain ⟨x,t,rfl,h1,h2⟩:=h
  rw [is_str] at h1;subst h1
  rw [isl_strs h2];rfl
theorem inV_strs (k:Str):∀ ss:List Str,inV (.str k) (ss.map V.str)=decide (k∈ss)
 | []=>by simp [inV]
 | s :: r=>by
  have ih:=inV_strs k r
  unfold inV at ih ⊢
  rw [List.map_cons,List.any_cons,ih]
  show ((s == k) || _)=_
  by_cases h:s=k
  ·subst h;simp
  ·have:¬ k=s:=fun z=>h z.symm
   simp [h,this]
theorem flat_strs (ss:List Str):(ss.map V.str).all flatV=true:=by
 induction ss with
 | nil=>rfl
 | cons s r ih=>rw [List.map_cons,List.all_cons,ih];rfl
theorem op_dNotIn (hu:X.A.units+1 < cLine):OpR X (compareOp .NotIn) (fun x y H Q=>∃ a o,y=.ref a/\DGet H a x o/\Q (.bl (!o.isSome)) H):=by
 intro pins s σ H x y v u Q I rx ry h
 obtain ⟨a,o,rfl,g,q⟩:=h
 cases ry
 exact d_notIn hu I g rx fun s' I'=>⟨.bl _,H,I',rfl,q⟩
theorem rd_in (neg:Bool) {da db:D} (h:InL da db M fun k M'=>Q (.bl (if neg then !k else k)) M'):RD X.K (fun x y H Q=>rIn X.K neg x y H Q\/∃ a o,y=.ref a/\DGet H a x o/\Q (.bl (if neg then !o.isSome else o.isSome)) H) da db M Q:=by
 intro H x y kf hx hy m
 unfold InL at h
 split at h
 ·rename_i k p
  rw [is_str] at hx;subst hx
  rw [is_ref] at hy;subst hy
  rcases h with ⟨kvs,h1,q⟩ | ⟨ss,h1,q⟩
  ·obtain ⟨ys,e1,e2⟩:=m p _ h1
   refine .inr ⟨p,_,rfl,DGet.k (k:=Sum.inr k) e1,fun _=>⟨Grow.refl _,_,M,is_bl.mpr rfl,m,?_⟩⟩
   rw [e2.some_eq];exact q
  ·obtain ⟨ys,e1,e2⟩:=m p _ h1
   have e3:=isl_strs e2;subst e3
   refine .inl ⟨p,_,rfl,.inl (SqL.of e1),rfl,flat_strs ss,fun _=>⟨Grow.refl _,_,M,is_bl.mpr rfl,m,?_⟩⟩
   rw [inV_strs];exact q
 ·rename_i k ds
  obtain ⟨ss,rfl,q⟩:=h
  rw [is_str] at hx;subst hx
  rw [is_tup] at hy
  obtain ⟨p,xs,rfl,e1,e2⟩:=hy
  have e3:=isl_strs e2;subst e3
  refine .inl ⟨p,_,rfl,.inr (SqT.of e1),rfl,flat_strs ss,fun _=>⟨Grow.refl _,_,M,is_bl.mpr rfl,m,?_⟩⟩
  rw [inV_strs];exact q
 ·exact h.elim
theorem InL.mono {da db:D} {Qc:Bool->MH->Prop} (h:InL da db M Qb) (k:∀ b,Qb b M->Qc b M):InL da db M Qc:=by
 unfold InL at h ⊢
 split at h
 ·rcases h with ⟨x,y,z⟩ | ⟨x,y,z⟩
  ·exact .inl ⟨x,y,k _ z⟩
  ·exact .inr ⟨x,y,k _ z⟩
 ·obtain ⟨x,y,z⟩:=h;exact ⟨x,y,k _ z⟩
 ·exact h
theorem lt_notin (hu:X.A.units+64 < cLine) (h:EV X G M a fun da Ma=>EV X G Ma b fun db Mb=>InL da db Mb fun k M'=>Qb (!k) M') (hm:behindInMarks .NotIn b=false):TV X G M (.Compare a [.NotIn] [b] pos) Qb :=
 tv_cmp (op_notIn_seq.or (op_dNotIn (by omega))) hm (h.mono fun _ _ h1=>h1.mono fun _ _ q=>rd_in true (InL.mono q fun k q=>⟨_,rfl,q⟩))
theorem bootDict:bootBuiltins "dict" = some (.type "dict"):=by decide +kernel
theorem bootSorted:bootBuiltins "sorted" = some (.builtin "sorted"):=by decide +kernel
theorem bootList:bootBuiltins "list" = some (.type "list"):=by decide +kernel
theorem call_dcopy:CallR X (.type "dict") (fun xs H Q=>∃ a kvs,xs=[.ref a]/\H a=some (.dK kvs)/\∀ p,H p=none->Q (.ref p) (upd H p (.dK kvs))):=by
 intro pins s σ H xs us Q I r h
 obtain ⟨a,kvs,rfl,e,q⟩:=h
 obtain ⟨u,rfl,ru⟩:=vals1 r
 cases ru
 exact d_copyOf I (.inl e) fun p s' hp I'=>⟨.ref p,_,I',rfl,q p hp⟩
theorem ev_dictC {p:Pos} (hm:X.mg "dict" = none) (h:AV X G M [e] fun ds M1=>∃ q kvs,ds=[.ref q]/\M1 q=some (.dic kvs)/\∀ r,M1 r=none->Q (.ref r) (mset M1 r (.dic kvs))) (hg:Gl X "dict") (he:starEach [e] X.env=(false,eval e X.env) :: starEach [] X.env) (hpl:(backTo pos (starEach ([] : List Expr) X.env)).any (·.1)=false) :
  EV X G M (.Call (.Name "dict" p) [e] [] pos) Q :=
 ev_callTy call_dcopy hm bootDict (h.mono fun ds M1 ⟨a,kvs,e1,ha,q⟩=>fun H xs kf hx m=>by
  subst e1
  obtain ⟨v,rfl,hv⟩:=isl1 hx
  rw [is_ref] at hv;subst hv
  obtain ⟨ys,e1,e2⟩:=m a _ ha
  exact ⟨a,ys,rfl,e1,fun p hp kf'=>⟨grow_new hp,.ref p,mset M1 p (.dic kvs),is_ref.mpr rfl,m.lay hp ⟨ys,upd_same,e2.grow (grow_new hp)⟩,q p (m.fresh hp kf')⟩⟩) hg (by decide) (by decide) he hpl
theorem tyL {K:PySem.W.Frag} {H:Hp} {p:Addr} {xs:List V} (h:H p=some (.lst xs)):tyV K "list" (.ref p) H:=.inl ⟨rfl,xs,SqL.of h⟩
theorem ev_append {apos cpos:Pos} (h:EV X G M o fun d M1=>∃ p,d=.ref p/\(∃ ds,M1 p=some (.lst ds))/\EV X G M1 e fun d2 M2=>∃ ds,M2 p=some (.lst ds)/\ds.length < sizeLine/\Q .non (mset M2 p (.lst (ds++[d2]))))
  (hbase:attributeBase o "append" X.env (eval o X.env)=eval o X.env)
  (hfew:((backTo cpos (starEach [e] X.env)).all (fun x=>!x.1) && (backToKw cpos (keywordEach [] X.env)).all (fun x=>x.1.isSome) && decide (([e] : List Expr).length+([] : List Keyword).length+(if ([] : List Keyword).isEmpty then 0 else 1) < 30))=true)
  (hline:(apos.endLine == cpos.line)=true) (hs:starEach [e] X.env=(false,eval e X.env) :: starEach [] X.env) (hplain:(backTo cpos (starEach ([] : List Expr) X.env)).any (·.1)=false) :
  EV X G M (.Call (.Attribute o "append" apos) [e] [] cpos) Q:=by
 refine EV.of (pe_bm PySem.F.plainAttrs_list PySem.F.slot_list_append PySem.F.type_list_append mt_append (pe_D (G:=G)) (pa_D (G:=G) (es:=[e])) hbase hfew hline hs hplain) fun σ H kf R=>?_
 refine ⟨M,_,R,h,fun v H' d M' kf' g i R' q=>?_⟩
 obtain ⟨p,rfl,⟨ds,hds⟩,q⟩:=q
 rw [is_ref] at i;subst i
 obtain ⟨xs,hx,_⟩:=R'.mem p _ hds
 refine ⟨tyL hx,M',fun ds2 M2=>∃ d2,ds2=[d2]/\∃ ds,M2 p=some (.lst ds)/\ds.length < sizeLine/\Q .non (mset M2 p (.lst (ds++[d2]))),R',av_cons (q.mono fun d2 M2 q2=>av_nil ⟨d2,rfl,q2⟩) hs,fun vs H2 ds2 M2 kf2 g2 i2 R2 q2=>?_⟩
 obtain ⟨d2,rfl,ds,hp,hz,q2⟩:=q2
 obtain ⟨v2,rfl,hv2⟩:=isl1 i2
 obtain ⟨xs,hx,hxi⟩:=R2.mem p _ hp
 have nt:∀ ys,H2 p≠some (.tup ys):=fun ys z=>by rw [hx] at z;cases z
 have gu:Grow H2 (upd H2 p (.lst (xs++[v2]))):=grow_upd nt
 exact ⟨p,xs,v2,rfl,rfl,hx,by rw [<- hxi.len];exact hz,fun _=>⟨(g.trans g2).trans gu,.non,_,is_non.mpr rfl,R2.mem.put (u:=.lst (ds++[d2])) nt ⟨_,upd_same,(hxi.grow gu).app (isl_cons.mpr ⟨v2,[],rfl,Is.grow gu _ _ hv2,isl_nil.mpr rfl⟩)⟩,q2⟩⟩
theorem ev_tupleC {p:Pos} (hm:X.mg "tuple" = none) (h:AV X G M [e] fun ds M1=>∃ d,ds=[d]/\match d with
   | .ref q=>∃ es,M1 q=some (.lst es)/\Q (.tup es) M1
   | .tup es=>Q (.tup es) M1
   | _=>False) (hg:Gl X "tuple") (he:starEach [e] X.env=(false,eval e X.env) :: starEach [] X.env) (hpl:(backTo pos (starEach ([] : List Expr) X.env)).any (·.1)=false) :
  EV X G M (.Call (.Name "tuple" p) [e] [] pos) Q :=
 ev_callTy call_tuple_of hm bootTuple (h.mono fun ds M1 ⟨d,e1,q⟩=>fun H xs kf hx m=>by
  subst e1
  obtain ⟨v,rfl,hv⟩:=isl1 hx
  cases d with
  | ref a =>
   obtain ⟨es,ha,q⟩:=q
   rw [is_ref] at hv;subst hv
   obtain ⟨ys,e1,e2⟩:=m a _ ha
   exact ⟨a,ys,rfl,.inl ⟨SqL.of e1,fun p hp kf'=>⟨grow_new hp,.tup es,M1,is_tup.mpr ⟨p,ys,rfl,upd_same,e2.grow (grow_new hp)⟩,m.new hp,q⟩⟩⟩
  | tup es =>
   have hv':=hv
   rw [is_tup] at hv
   obtain ⟨a,ys,rfl,e1,e2⟩:=hv
   exact ⟨a,ys,rfl,.inr ⟨SqT.of e1,fun _=>⟨Grow.refl _,.tup es,M1,hv',m,q⟩⟩⟩
  | non=>exact q.elim
  | bl _=>exact q.elim
  | int _=>exact q.elim
  | str _=>exact q.elim
  | ty _=>exact q.elim) hg (by decide) (by decide) he hpl
theorem ev_listC {p:Pos} (hm:X.mg "list" = none) (h:AV X G M [e] fun ds M1=>∃ d,ds=[d]/\match d with
   | .ref q=>∃ es,M1 q=some (.lst es)/\∀ r,M1 r=none->Q (.ref r) (mset M1 r (.lst es))
   | .tup es=>∀ r,M1 r=none->Q (.ref r) (mset M1 r (.lst es))
   | _=>False) (hg:Gl X "list") (he:starEach [e] X.env=(false,eval e X.env) :: starEach [] X.env) (hpl:(backTo pos (starEach ([] : List Expr) X.env)).any (·.1)=false) :
  EV X G M (.Call (.Name "list" p) [e] [] pos) Q :=
 ev_callTy call_list_of hm bootList (h.mono fun ds M1 ⟨d,e1,q⟩=>fun H xs kf hx m=>by
  subst e1
  obtain ⟨v,rfl,hv⟩:=isl1 hx
  cases d with
  | ref a =>
   obtain ⟨es,ha,q⟩:=q
   rw [is_ref] at hv;subst hv
   obtain ⟨ys,e1,e2⟩:=m a _ ha
   exact ⟨a,ys,rfl,.inl (SqL.of e1),fun p hp kf'=>⟨grow_new hp,.ref p,mset M1 p (.lst es),is_ref.mpr rfl,m.lay hp ⟨ys,upd_same,e2.grow (grow_new hp)⟩,q p (m.fresh hp kf')⟩⟩
  | tup es =>
   rw [is_tup] at hv
   obtain ⟨a,ys,rfl,e1,e2⟩:=hv
   exact ⟨a,ys,rfl,.inr (SqT.of e1),fun p hp kf'=>⟨grow_new hp,.ref p,mset M1 p (.lst es),is_ref.mpr rfl,m.lay hp ⟨ys,upd_same,e2.grow (grow_new hp)⟩,q p (m.fresh hp kf')⟩⟩
  | non=>exact q.elim
  | bl _=>exact q.elim
  | int _=>exact q.elim
  | str _=>exact q.elim
  | ty _=>exact q.elim) hg (by decide) (by decide) he hpl
theorem IsL.strs {H:Hp}:∀ {ss:List Str},IsL H (ss.map D.str) (ss.map V.str)
 | []=>isl_nil.mpr rfl
 | s :: r=>isl_cons.mpr ⟨.str s,r.map V.str,rfl,is_str.mpr rfl,IsL.strs⟩
theorem strs_of_vals:∀ {ss:List Str} {us:List Value},Vals (ss.map V.str) us->StrsAre us ss
 | [],us,r=>by cases r;exact .nil
 | s :: r,us,h=>by
  cases h with
  | cons h1 h2 =>
   obtain ⟨t,rfl⟩:=h1
   exact .cons s t (strs_of_vals h2)
theorem vals_of_strs:∀ {ss:List Str} {us:List Value},StrsAre us ss->Vals (ss.map V.str) us
 | _,_,.nil=>.nil
 | _,_,.cons y t r=>.cons ⟨t,rfl⟩ (vals_of_strs r)
theorem call_sortedS:CallR X (.builtin "sorted") (fun xs H Q=>∃ (a:Addr) (ss:List Str),xs=[.ref a]/\H a=some (.lst (ss.map V.str))/\ss.length < 64/\∀ p ss',H p=none->ss'.Perm ss->PyProof.Rows.sortedS ss'=true->Q (.ref p) (upd H p (.lst (ss'.map V.str)))):=by
 intro pins s σ H xs us Q I r h
 obtain ⟨a,ss,rfl,e,h64,q⟩:=h
 obtain ⟨u,rfl,ru⟩:=vals1 r
 cases ru
 obtain ⟨z,its,n,rv,hl,eo⟩:=I.lstM e
 have hl2:its.length=ss.length:=by rw [<- hl,List.length_map]
 refine sorted_strs (l:=a) (vs:=its) ⟨_,eo,rfl,n,rfl⟩ (strs_of_vals rv) (by omega) fun out ss' h1 h2 h3=>?_
 obtain ⟨en,he⟩:=sortedAll_at s.heap its out
 have hf:H (s.heap.objs.size+1)=none:=I.hok.fresh (Nat.le_succ _)
 refine ⟨.ref (s.heap.objs.size+1),_,I.laid (a:=s.heap.objs.size+1) (o:=.lst (ss'.map V.str)) (t':=s.toks) (fun b ob hb=>sortedAll_old hb) (Nat.le_succ _) ⟨?_,out.toList,en,vals_of_strs h1,?_⟩,rfl,q _ ss' hf h2 h3⟩
 ·rw [List.length_map,h2.length_eq];rw [List.length_map] at z;exact z
 ·rw [he]
theorem ev_sortedS {p:Pos} (hm:X.mg "sorted" = none) (h:AV X G M [e] fun ds M1=>∃ (q:Addr) (ss:List Str),ds=[.ref q]/\M1 q=some (.lst (ss.map D.str))/\ss.length < 64/\∀ r ss',M1 r=none->ss'.Perm ss->PyProof.Rows.sortedS ss'=true->Q (.ref r) (mset M1 r (.lst (ss'.map D.str)))) (hg:Gl X "sorted") (he:starEach [e] X.env=(false,eval e X.env) :: starEach [] X.env) (hpl:(backTo pos (starEach ([] : List Expr) X.env)).any (·.1)=false) :
  EV X G M (.Call (.Name "sorted" p) [e] [] pos) Q :=
 ev_callB call_sortedS hm bootSorted (h.mono fun ds M1 ⟨a,ss,e1,ha,h64,q⟩=>fun H xs kf hx m=>by
  subst e1
  obtain ⟨v,rfl,hv⟩:=isl1 hx
  rw [is_ref] at hv;subst hv
  obtain ⟨ys,e1,e2⟩:=m a _ ha
  have e3:=isl_strs e2;subst e3
  refine ⟨a,ss,rfl,e1,h64,fun p ss' hp h1 h2 kf'=>⟨grow_new hp,.ref p,mset M1 p (.lst (ss'.map D.str)),is_ref.mpr rfl,m.lay hp ⟨_,upd_same,?_⟩,q p ss' (m.fresh hp kf') h1 h2⟩⟩
  exact IsL.strs) hg (by decide) (by decide) he hpl
end
end D3
namespace D3
open PySem PySem.Spec PyProof.Rows L2
def clOf (env:Env):List (Str × NameKind)->List (Str × Addr)->List (Str × Addr)
 | [],acc=>acc
 | (n,k) :: r,acc=>clOf env r (if k == .free then (n,(env.cells.lookup n).getD 0) :: acc else acc)
theorem closure_loop (env:Env):∀ (names:List (Str × NameKind)) (acc:List (Str × Addr)),(∀ x∈names,x.2=.free->(env.cells.lookup x.1).isSome=true) ->
  (forIn names acc fun (x:Str × NameKind) (r:List (Str × Addr))=>(match x with
   | (name,kind)=>if (kind == NameKind.free)=true then do let c <- cellOf env name;pure (ForInStep.yield ((name,c) :: r)) else pure (ForInStep.yield r):Sem (ForInStep (List (Str × Addr)))))=pure (clOf env names acc)
 | [],acc,_=>rfl
 | (n,k) :: r,acc,h=>by
  rw [List.forIn_cons]
  have ih:=fun acc'=>closure_loop env r acc' fun x hx=>h x (List.mem_cons_of_mem _ hx)
  unfold clOf
  by_cases e:(k == NameKind.free)=true
  ·have hc:=h (n,k) (List.mem_cons_self ..) (by simpa using e)
   obtain ⟨c,hc⟩:=Option.isSome_iff_exists.mp hc
   have hc:env.cells.lookup n=some c:=hc
   rw [if_pos e,hc]
   have:cellOf env n=pure c:=by unfold cellOf;rw [hc]
   simp only [e,if_true,this]
   exact ih _
  ·rw [if_neg e]
   simp only [e,if_false]
   exact ih _
theorem closureFor_of {scope:Scope} {env:Env} (h:∀ x∈scope.names,x.2=.free->(env.cells.lookup x.1).isSome=true):closureFor scope env=pure (clOf env scope.names []):=by
 have:=closure_loop env scope.names [] h
 simp only [closureFor]
 simpa using this
theorem clOf_sub (env:Env) (x:Str) (c:Addr):∀ (names:List (Str × NameKind)) (acc:List (Str × Addr)),(∀ y∈names,y.2=.free->(env.cells.lookup y.1).isSome=true)->(∀ c,acc.lookup x=some c->env.cells.lookup x=some c)->(clOf env names acc).lookup x=some c->env.cells.lookup x=some c
 | [],acc,_,ha,h=>ha c h
 | (n,k) :: r,acc,hn,ha,h=>by
  unfold clOf at h
  refine clOf_sub env x c r _ (fun y hy=>hn y (List.mem_cons_of_mem _ hy)) (fun c' hc'=>?_) h
  by_cases e:(k == NameKind.free)=true
  ·rw [if_pos e,List.lookup_cons] at hc'
   by_cases hx:(x == n)=true
   ·rw [hx] at hc'
    have hx':x=n:=by simpa using hx
    subst hx'
    obtain ⟨d,hd⟩:=Option.isSome_iff_exists.mp (hn (x,k) (List.mem_cons_self ..) (by simpa using e))
    have hd:env.cells.lookup x=some d:=hd
    rw [hd] at hc' ⊢
    simpa using hc'
   ·have hx:(x == n)=false:=by simpa using hx
    rw [hx] at hc'
    exact ha c' hc'
  ·rw [if_neg e] at hc'
   exact ha c' hc'
theorem clOf_has (env:Env) (x:Str):∀ (names:List (Str × NameKind)) (acc:List (Str × Addr)),((x,NameKind.free)∈names\/(acc.lookup x).isSome=true)->((clOf env names acc).lookup x).isSome=true
 | [],acc,h=>by rcases h with h | h;cases h;exact h
 | (n,k) :: r,acc,h=>by
  unfold clOf
  refine clOf_has env x r _ ?_
  rcases h with h | h
  ·rcases List.mem_cons.mp h with h | h
   ·cases h
    refine .inr ?_
    rw [if_pos (show (NameKind.free == NameKind.free)=true from rfl),List.lookup_cons,beq_self_eq_true];rfl
   ·exact .inl h
  ·refine .inr ?_
   split
   ·rw [List.lookup_cons]
    cases x == n
    ·exact h
    ·rfl
   ·exact h
theorem mem_of_lookup' {α β:Type} [BEq α] [LawfulBEq α] {k:α} {v:β}:∀ {l:List (α × β)},l.lookup k=some v->(k,v)∈l
 | [],h=>by cases h
 | (a,b) :: r,h=>by
  rw [List.lookup_cons] at h
  cases e:k == a with
  | true =>
   rw [e] at h
   have:k=a:=by simpa using e
   subst this
   cases h
   exact List.mem_cons_self ..
  | false=>rw [e] at h;exact List.mem_cons_of_mem _ (mem_of_lookup' h)
section
variable {X:Cx} {G:Ga} {M:MH} {elt tg iter e:Expr} {ifs:List Expr} {scope:Scope} {pos:Pos} {Q:DK} {own:List Str} {js:List Nat} {N:List Str}
theorem compOk_free {fs:List Str} (hk:scope.kind=.function) (hn:∀ x∈scope.names,x.2=.local->scope.names.lookup x.1=some .local) (hcell:∀ x∈scope.names,x.2≠.cell)
  (hf:∀ x∈scope.names,x.2=.free->(X.env.cells.lookup x.1).isSome=true)
  (hN:N=own++fs) (hl:fs.length=js.length) (hj:∀ (k j:Nat),js[k]?=some j->∃ x,fs[k]?=some x/\X.N[j]?=some x/\X.env.kindOf x=some .cell/\X.env.scope.names.lookup x=some .cell/\scope.names.lookup x=some .free)
  (hfun:X.env.scope.kind=.function):CompOk X own js N scope (clOf X.env scope.names []):=by
 refine ⟨closureFor_of hf,hk,hn,hcell,fun x c e=>clOf_sub X.env x c scope.names [] hf (fun c z=>by cases z) e,fun x h=>?_,fun k j e=>?_,by rw [hN,List.length_append,hl]⟩
 ·refine Option.isSome_iff_exists.mp (clOf_has X.env x scope.names [] (.inl ?_))
  have:∃ k,(x,k)∈(relabel scope X.env).names/\(k=.cell\/k=.free):=by
   rcases h with h | h
   ·exact ⟨_,mem_of_lookup' h,.inl rfl⟩
   ·exact ⟨_,mem_of_lookup' h,.inr rfl⟩
  obtain ⟨k,hm,hk⟩:=this
  unfold relabel at hm
  obtain ⟨⟨n,q⟩,hq,he⟩:=List.mem_map.mp hm
  have he:(if (q == NameKind.free && X.env.scope.kind == .function && X.env.kindOf n == some .cell)=true then (n,NameKind.cell) else (n,q))=(x,k):=he
  split at he
  ·rename_i hc
   injection he with e1 e2
   subst e1
   have:q=.free:=by
    rw [Bool.and_eq_true,Bool.and_eq_true] at hc
    simpa using hc.1.1
   rw [this] at hq;exact hq
  ·injection he with e1 e2
   subst e1;subst e2
   rcases hk with hk | hk
   ·exact absurd hk (hcell _ hq)
   ·rw [hk] at hq;exact hq
 ·obtain ⟨x,h1,h2,h3,h4,h5⟩:=hj k j e
  refine ⟨x,?_,h2,.inr (.inl h4),fun m h u lk=>?_,?_⟩
  ·rw [hN,List.getElem?_append_right (by omega),show own.length+k - own.length=k by omega];exact h1
  ·rcases lk with ⟨z,_⟩ | ⟨_,c,hc,hi⟩
   ·rw [h3] at z;cases z
   ·obtain ⟨c',hc'⟩:=Option.isSome_iff_exists.mp (clOf_has X.env x scope.names [] (.inl (mem_of_lookup' h5)))
    have:=clOf_sub X.env x c' scope.names [] hf (fun c z=>by cases z) hc'
    rw [hc] at this;cases this
    exact ⟨c,hc',hi⟩
  ·refine .inl ?_
   have:∀ names:List (Str × NameKind),names.lookup x=some .free->(names.map fun (y:Str × NameKind)=>match y with | (n,k)=>if (k == NameKind.free && X.env.scope.kind == .function && X.env.kindOf n == some .cell)=true then (n,NameKind.cell) else (n,k)).lookup x=some .cell:=by
    intro names hl
    induction names with
    | nil=>cases hl
    | cons y r ih =>
     obtain ⟨n,q⟩:=y
     rw [List.lookup_cons] at hl
     rw [List.map_cons]
     cases en:x == n with
     | true =>
      rw [en] at hl
      have hx:x=n:=by simpa using en
      subst hx
      injection hl with hl
      subst hl
      have hc:(NameKind.free == NameKind.free && X.env.scope.kind == .function && X.env.kindOf x == some .cell)=true:=by rw [hfun,h3];rfl
      simp only [hc,if_true]
      rw [List.lookup_cons,beq_self_eq_true]
     | false =>
      rw [en] at hl
      have ih:=ih hl
      simp only
      split
      ·rw [List.lookup_cons,en];exact ih
      ·rw [List.lookup_cons,en];exact ih
   exact this scope.names h5
theorem compOk_freeB {fs:List Str} (hk:scope.kind=.function) (hnB:(scope.names.all fun x=>!(x.2 == .local) || scope.names.lookup x.1 == some .local)=true) (hcB:(scope.names.all fun x=>!(x.2 == .cell))=true)
  (hfB:(scope.names.all fun x=>!(x.2 == .free) || (X.env.cells.lookup x.1).isSome)=true)
  (hN:N=own++fs) (hl:fs.length=js.length) (hjB:((fs.zip js).all fun y=>(X.N[y.2]? == some y.1) && (X.env.kindOf y.1 == some .cell) && (X.env.scope.names.lookup y.1 == some .cell) && (scope.names.lookup y.1 == some .free))=true)
  (hfun:X.env.scope.kind=.function):CompOk X own js N scope (clOf X.env scope.names []):=by
 refine compOk_free (fs:=fs) hk (fun x hx e=>?_) (fun x hx e=>?_) (fun x hx e=>?_) hN hl (fun k j e=>?_) hfun
 ·have:=List.all_eq_true.mp hnB x hx
  rw [e] at this
  simpa using this
 ·have:=List.all_eq_true.mp hcB x hx
  rw [e] at this
  cases this
 ·have:=List.all_eq_true.mp hfB x hx
  rw [e] at this
  simpa using this
 ·have hkl:k < fs.length:=by rw [hl];exact (List.getElem?_eq_some_iff.mp e).1
  have hz:(fs.zip js)[k]?=some (fs[k],j):=by
   rw [List.getElem?_zip_eq_some]
   exact ⟨List.getElem?_eq_getElem hkl,e⟩
  have:=List.all_eq_true.mp hjB _ (List.mem_of_getElem? hz)
  rw [Bool.and_eq_true,Bool.and_eq_true,Bool.and_eq_true] at this
  obtain ⟨⟨⟨h1,h2⟩,h3⟩,h4⟩:=this
  exact ⟨fs[k],List.getElem?_eq_getElem hkl,by simpa using h1,by simpa using h2,by simpa using h3,by simpa using h4⟩
theorem ev_comp_range {cl:List (Str × Addr)} {p p2:Pos} (T:CompOk X own js N scope cl) (hxe:X.xe=fun _ _=>False) (hc:X.calm=true) (hm:X.mg "range" = none) (f:D->D) (pr:D->Bool)
  (h:AV X G M [e] fun as M1=>∃ n:Int,as=[.int n]/\0<=n/\n < 1000 /\
   (∀ Y:Cx,(∃ C s H fp,Y=compCx X N scope cl C s H fp)->∀ M',Ext M1 M'->∀ i:Nat,i < n.toNat->GV Y (compG own js G) M' tg (.int i) fun G3 M3=>M3=M'/\Sub (compG own js G) G3/\TVs Y G3 M' ifs (fun k M4=>M4=M'/\k=pr (.int i))/\(pr (.int i)=true->EV Y G3 M' elt fun o M4=>M4=M'/\o=f (.int i))) /\
   ∀ q,M1 q=none->Q (.ref q) (mset M1 q (.lst ((((List.range n.toNat).map fun i:Nat=>D.int i).filter pr).map f))))
  (hg:Gl X "range") (hse:starEach [e] X.env=[(false,eval e X.env)]) (hs:∀ x,foldedSetIterable (.Call (.Name "range" p) [e] [] p2) X.env x=pure x):EV X G M (.ListComp elt [⟨tg,.Call (.Name "range" p) [e] [] p2,ifs,0⟩] scope pos) Q:=by
 refine ev_comp T hxe hc (pi_range1 hg hm (pa_D (G:=G)) hse) f pr (fun σ H kf R=>?_) hs
 refine ⟨M,_,R,h,fun vs H' ds M' kf' g i R' q=>?_⟩
 obtain ⟨n,e,h1,h2,block,fin⟩:=q
 subst e
 obtain ⟨v,rfl,hv⟩:=isl1 i
 rw [is_int] at hv;subst hv
 refine ⟨n,rfl,by omega,by omega,g,M',(List.range n.toNat).map fun i:Nat=>D.int i,R',fun H2 g2 m2=>⟨fun i e=>?_,fun i hlt=>⟨?_,fun x H3 y=>?_⟩⟩,by rw [List.length_map,List.length_range];exact KA.small (by omega),fun Y hY M2 hM d hd=>?_,fin⟩
 ·show n.toNat<=i
  rw [e,List.length_map,List.length_range];exact Nat.le_refl _
 ·show i < n.toNat
  simpa using hlt
 ·obtain ⟨e,y⟩:=y
  subst e;subst y
  have hlt':i < n.toNat:=by simpa using hlt
  exact ⟨Grow.refl _,fun _ _ z=>z,m2,.int i,by rw [List.getElem?_map,List.getElem?_range hlt'];rfl,is_int.mpr (by simp)⟩
 ·obtain ⟨i,hi,e⟩:=List.mem_map.mp hd
  subst e
  exact block Y hY M2 hM i (List.mem_range.mp hi)
end
end D3
namespace KA
open PySem PySem.Spec PyProof.Rows L2 D3 K01
def tD (t:Str × Int):D:=.tup [.str t.1,.int t.2]
abbrev trm (ts:List (Str × Int)):D:=.tup (ts.map tD)
abbrev nms (ss:List Str):D:=.tup (ss.map D.str)
def Letter (s:Str):Prop:=∃ c,97<=c/\c<=122/\s=⟨#[c]⟩
structure Names (ss:List Str):Prop where
 pos:1<=ss.length
 le:ss.length<=3
 nodup:ss.Nodup
 lett:∀ s∈ss,Letter s
structure Terms (ss:List Str) (ts:List (Str × Int)):Prop where
 sub:(ts.map (·.1)).Sublist ss
 wt:∀ t∈ts,t.2≠0/\B 64 t.2
theorem Terms.len {ss:List Str} {ts:List (Str × Int)} (h:Terms ss ts):ts.length<=ss.length:=by
 have:=h.sub.length_le;rw [List.length_map] at this;exact this
theorem Terms.mem {ss:List Str} {ts:List (Str × Int)} (h:Terms ss ts) {t:Str × Int} (ht:t∈ts):t.1∈ss:=h.sub.subset (List.mem_map_of_mem ht)
def atP (kvs:List (Str × D)) (s:Str):Int × Int:=match lkD kvs s with
 | some (.tup [.int x,.int y])=>(x,y)
 | _=>(0,1)
def addUp (kvs:List (Str × D)):List (Str × Int)->Int->Int->Int × Int
 | [],t,b=>(t,b)
 | u :: r,t,b=>addUp kvs r (t * (atP kvs u.1).2+u.2 * (atP kvs u.1).1 * b) (b * (atP kvs u.1).2)
theorem addUp_snoc (kvs:List (Str × D)) (u:Str × Int):∀ (r:List (Str × Int)) (t b:Int),addUp kvs (r++[u]) t b=((addUp kvs r t b).1 * (atP kvs u.1).2+u.2 * (atP kvs u.1).1 * (addUp kvs r t b).2,(addUp kvs r t b).2 * (atP kvs u.1).2)
 | [],t,b=>rfl
 | v :: r,t,b=>addUp_snoc kvs u r _ _
def word (k:Bool):Str:=if k then "least" else "more"
def spNames:SpD:=fun ds M Q=>∃ c,ds=[.int c]/\Cell c/\∀ ss M',Names ss->Ext M M'->Q (nms ss) M'
theorem lkD_mem {k:Str} {d:D}:∀ {kvs:List (Str × D)},(kvs.map (·.1)).Nodup->(k,d)∈kvs->lkD kvs k=some d
 | [],_,h=>by cases h
 | (x,e) :: r,nd,h=>by
  rw [lkD_cons]
  rw [List.map_cons,List.nodup_cons] at nd
  rcases List.mem_cons.mp h with h | h
  ·cases h;rw [if_pos rfl]
  ·rw [if_neg (fun z=>nd.1 (by subst z;exact List.mem_map_of_mem (f:=(·.1)) h))]
   exact lkD_mem nd.2 h
theorem lkD_some {k:Str}:∀ {kvs:List (Str × D)},k∈kvs.map (·.1)->∃ d,lkD kvs k=some d/\(k,d)∈kvs
 | [],h=>by cases h
 | (x,e) :: r,h=>by
  rw [lkD_cons]
  by_cases z:x=k
  ·subst z;rw [if_pos rfl];exact ⟨e,rfl,List.mem_cons_self ..⟩
  ·rw [if_neg z]
   rw [List.map_cons] at h
   rcases List.mem_cons.mp h with h | h
   ·exact absurd h.symm z
   ·obtain ⟨d,h1,h2⟩:=lkD_some h
    exact ⟨d,h1,List.mem_cons_of_mem _ h2⟩
theorem lkD_none {k:Str}:∀ {kvs:List (Str × D)},k∉kvs.map (·.1)->lkD kvs k=none
 | [],h=>rfl
 | (x,e) :: r,h=>by
  rw [List.map_cons] at h
  rw [lkD_cons,if_neg (fun z=>h (by subst z;exact List.mem_cons_self ..))]
  exact lkD_none fun z=>h (List.mem_cons_of_mem _ z)
end KA
namespace KA
open PySem PySem.Spec PyProof.Rows L2 D3 K01
abbrev rowD (k:Bool) (ts:List (Str × Int)) (b:Int):D:=.tup [.str (word k),trm ts,.int b]
end KA
namespace D3
open PySem PySem.Spec PyProof.Rows L2
section
variable {P:Program} {w:World} {B:Around} {Z:Value->Shared->Prop}
end
section
variable {X:Cx} {G:Ga} {M:MH} {pos:Pos}
end
end D3
namespace D3
open PySem PySem.Spec PyProof.Rows L2
theorem depthAll_le {n:Nat}:∀ {ds:List D},(∀ d∈ds,(pd d).depth<=n)->PyData.depthAll (pdL ds)<=n
 | [],_=>by simp [pdL,PyData.depthAll]
 | d :: r,h=>by
  have h1:=h d (List.mem_cons_self ..)
  have h2:=depthAll_le (ds:=r) fun x hx=>h x (List.mem_cons_of_mem _ hx)
  simp only [pdL,PyData.depthAll]
  omega
theorem depth_le {n:Nat} {ds:List D} (h:∀ d∈ds,(pd d).depth<=n):(pd (.tup ds)).depth<=n+1:=by
 have:=depthAll_le h
 simp only [pd,PyData.depth]
 omega
theorem immL_of:∀ {ds:List D},(∀ d∈ds,imm d=true)->immL ds=true
 | [],_=>by simp [immL]
 | d :: r,h=>by
  simp only [immL]
  rw [h d (List.mem_cons_self ..),immL_of fun x hx=>h x (List.mem_cons_of_mem _ hx)];rfl
theorem imm_tup {ds:List D} (h:∀ d∈ds,imm d=true):imm (.tup ds)=true:=by simp only [imm];exact immL_of h
end D3
namespace KA
open PySem PySem.Spec PyProof.Rows L2 D3 K01
theorem Letter.ok {s:Str} (h:Letter s):PyData.strOk s=true:=by
 obtain ⟨c,h1,h2,rfl⟩:=h
 simp [PyData.strOk]
 omega
theorem depth_tD (t:Str × Int):(pd (KA.tD t)).depth<=1:=depth_le fun d hd=>by
 rcases List.mem_cons.mp hd with rfl | hd
 ·simp [pd,PyData.depth]
 ·rw [List.mem_singleton.mp hd];simp [pd,PyData.depth]
theorem depth_trm (ts:List (Str × Int)):(pd (trm ts)).depth<=2:=depth_le fun d hd=>by
 obtain ⟨t,ht,rfl⟩:=List.mem_map.mp hd
 exact depth_tD t
theorem depth_row (k:Bool) (ts:List (Str × Int)) (b:Int):(pd (rowD k ts b)).depth<=3:=depth_le fun d hd=>by
 rcases List.mem_cons.mp hd with rfl | hd
 ·simp [pd,PyData.depth]
 ·rcases List.mem_cons.mp hd with rfl | hd
  ·exact depth_trm ts
  ·rw [List.mem_singleton.mp hd];simp [pd,PyData.depth]
end KA
namespace KA
open PySem PySem.Spec PyProof.Rows L2 D3 K01
structure Lh (N g0 s0 g s u0 u1 l0 l1:Int):Prop where
 eg:g=u0 * g0+u1 * s0
 es:s=l0 * g0+l1 * s0
 a0:0<=g+u0
 a1:0<=g+u1
 b0:0<=s+l0
 b1:0<=s+l1
 c0:g+u0<=N
 c1:g+u1<=N
 d0:s+l0<=N
 d1:s+l1<=N
 sg:(0<=u0/\u1<=0/\l0<=0/\0<=l1)\/(u0<=0/\0<=u1/\0<=l0/\l1<=0)
 o0:s+l0<=g+u0
 nz:l1≠0
theorem Lh.start {N g0 s0:Int} (h1:0<=s0) (h2:s0<=g0) (hN:g0+1<=N):Lh N g0 s0 g0 s0 1 0 0 1:=by
 constructor<;>omega
theorem Lh.small {N g0 s0 g s u0 u1 l0 l1:Int} (h:Lh N g0 s0 g s u0 u1 l0 l1):(0<=g/\g<=N)/\(0<=s/\s<=N)/\(-N<=u0/\u0<=N)/\(-N<=u1/\u1<=N)/\(-N<=l0/\l0<=N)/\(-N<=l1/\l1<=N):=by
 obtain ⟨_,_,a0,a1,b0,b1,c0,c1,d0,d1,sg,_,_⟩:=h
 rcases sg with sg | sg<;>omega
theorem fdiv_rem {a b:Int} (hb:0 < b):0<=a - a.fdiv b * b/\a - a.fdiv b * b < b:=by
 have e:a - a.fdiv b * b=a.fmod b:=by rw [Int.fmod_def,Int.mul_comm]
 rw [e]
 exact fmod_lt hb
theorem fdiv_nn {a b:Int} (ha:0<=a) (hb:0 < b):0<=a.fdiv b:=by
 rw [Int.fdiv_eq_ediv_of_nonneg a (by omega)]
 exact Int.ediv_nonneg ha (by omega)
theorem Lh.step {N g0 s0 g s u0 u1 l0 l1 q:Int} (h:Lh N g0 s0 g s u0 u1 l0 l1) (n0:s+l0≠0) (n1:s+l1≠0) (e0:q=(g+u0).fdiv (s+l0)) (e1:q=(g+u1).fdiv (s+l1)) :
  Lh N g0 s0 s (g - q * s) l0 l1 (u0 - q * l0) (u1 - q * l1)/\(g - q * s)+(u0 - q * l0) < s+l0/\0<=q/\q<=N:=by
 obtain ⟨eg,es,a0,a1,b0,b1,c0,c1,d0,d1,sg,o0,nz⟩:=h
 have p0:0 < s+l0:=by omega
 have p1:0 < s+l1:=by omega
 obtain ⟨r0,r1⟩:=fdiv_rem (a:=g+u0) p0
 obtain ⟨t0,t1⟩:=fdiv_rem (a:=g+u1) p1
 have qn:=fdiv_nn a0 p0
 rw [<- e0] at r0 r1 qn
 rw [<- e1] at t0 t1
 have x0:g - q * s+(u0 - q * l0)=g+u0 - q * (s+l0):=by grind
 have x1:g - q * s+(u1 - q * l1)=g+u1 - q * (s+l1):=by grind
 have qN:q<=N:=by
  have:q * 1<=q * (s+l0):=Int.mul_le_mul_of_nonneg_left (by omega) qn
  omega
 have q1:1<=q:=by
  rcases Int.lt_or_le q 1 with z | z
  ·have:q=0:=by omega
   rw [this,Int.zero_mul] at r1
   omega
  ·exact z
 refine ⟨⟨es,?_,b0,b1,by omega,by omega,d0,d1,by omega,by omega,?_,by omega,?_⟩,by omega,qn,qN⟩
 ·rw [eg,es];grind
 ·rcases sg with ⟨s1,s2,s3,s4⟩ | ⟨s1,s2,s3,s4⟩
  ·right
   have m0:q * l0<=0:=Int.mul_nonpos_of_nonneg_of_nonpos qn s3
   have m1:0<=q * l1:=Int.mul_nonneg qn s4
   omega
  ·left
   have m0:0<=q * l0:=Int.mul_nonneg qn s3
   have m1:q * l1<=0:=Int.mul_nonpos_of_nonneg_of_nonpos qn s4
   omega
 ·rcases sg with ⟨s1,s2,s3,s4⟩ | ⟨s1,s2,s3,s4⟩
  ·have m1:1 * l1<=q * l1:=Int.mul_le_mul_of_nonneg_right q1 s4
   omega
  ·have m1:q * l1<=1 * l1:=Int.mul_le_mul_of_nonpos_right q1 s4
   omega
theorem gcd_sub (a b q:Int):Int.gcd b (a - q * b)=Int.gcd a b:=by
 have:a - q * b=a+(-q) * b:=by grind
 rw [this,Int.gcd_add_mul_right_right,Int.gcd_comm]
def LhT (g0 s0 u0 u1 l0 l1:Int):Prop:=∀ G S W:Int,0 < W->0<=G - g0 * W->G - g0 * W < W->0<=S - s0 * W->S - s0 * W < W ->
 (u0=1/\u1=0/\l0=0/\l1=1)\/(u1≠0/\0<=l0 * G+l1 * S/\l0 * G+l1 * S < u0 * G+u1 * S/\u0 * G+u1 * S<=S/\Int.gcd (u0 * G+u1 * S) (l0 * G+l1 * S)=Int.gcd G S)
theorem LhT.start (g0 s0:Int):LhT g0 s0 1 0 0 1:=fun _ _ _ _ _ _ _ _=>.inl ⟨rfl,rfl,rfl,rfl⟩
theorem between_lo {c0 c1 X Y W v:Int} (hX:0<=X) (hX':X < W) (hY:0<=Y) (hY':Y < W) (h0:c0<=0) (h1:0<=c1) (e:v=c0 * X+c1 * Y):c0 * W<=v/\v<=c1 * W:=by
 have m1:c0 * W<=c0 * X:=Int.mul_le_mul_of_nonpos_left h0 (by omega)
 have m2:c0 * X<=0:=Int.mul_nonpos_of_nonpos_of_nonneg h0 hX
 have m3:0<=c1 * Y:=Int.mul_nonneg h1 hY
 have m4:c1 * Y<=c1 * W:=Int.mul_le_mul_of_nonneg_left (by omega) h1
 omega
theorem LhT.step {N g0 s0 g s u0 u1 l0 l1 q:Int} (h:Lh N g0 s0 g s u0 u1 l0 l1) (n0:s+l0≠0) (n1:s+l1≠0) (e0:q=(g+u0).fdiv (s+l0)) (e1:q=(g+u1).fdiv (s+l1)) (t:LhT g0 s0 u0 u1 l0 l1) :
  LhT g0 s0 l0 l1 (u0 - q * l0) (u1 - q * l1):=by
 intro G S W hW x1 x2 y1 y2
 obtain ⟨h',hlt,qn,_⟩:=h.step n0 n1 e0 e1
 have hlt1:(g - q * s)+(u1 - q * l1) < s+l1:=by
  have p1:0 < s+l1:=by have:=h.b1;omega
  obtain ⟨t0,t1⟩:=fdiv_rem (a:=g+u1) p1
  rw [<- e1] at t1
  have:g - q * s+(u1 - q * l1)=g+u1 - q * (s+l1):=by grind
  omega
 have es:=h.es
 have es':=h'.es
 generalize hX:G - g0 * W=X at x1 x2
 generalize hY:S - s0 * W=Y at y1 y2
 have eG:G=g0 * W+X:=by omega
 have eS:S=s0 * W+Y:=by omega
 have v:l0 * G+l1 * S=s * W+(l0 * X+l1 * Y):=by rw [eG,eS,es];grind
 generalize hL0:u0 - q * l0=L0 at *
 generalize hL1:u1 - q * l1=L1 at *
 generalize hs':g - q * s=s' at *
 have v':L0 * G+L1 * S=s' * W+(L0 * X+L1 * Y):=by rw [eG,eS,es'];grind
 have vq:L0 * G+L1 * S=(u0 * G+u1 * S) - q * (l0 * G+l1 * S):=by rw [<- hL0,<- hL1];grind
 have key:0<=L0 * G+L1 * S/\L0 * G+L1 * S < l0 * G+l1 * S:=by
  have b0':=h'.b0
  have b1':=h'.b1
  rcases h.sg with ⟨s1,s2,s3,s4⟩ | ⟨s1,s2,s3,s4⟩
  ·have r:=between_lo (v:=l0 * X+l1 * Y) x1 x2 y1 y2 s3 s4 rfl
   have m0:q * l0<=0:=Int.mul_nonpos_of_nonneg_of_nonpos qn s3
   have m1:0<=q * l1:=Int.mul_nonneg qn s4
   have r':=between_lo (v:=L0 * X+L1 * Y) y1 y2 x1 x2 (show L1<=0 by omega) (show 0<=L0 by omega) (by omega)
   have z1:0<=(s'+L1) * W:=Int.mul_nonneg b1' (by omega)
   have z2:(s'+L0) * W < (s+l0) * W:=Int.mul_lt_mul_of_pos_right hlt hW
   rw [Int.add_mul] at z1 z2
   rw [Int.add_mul] at z2
   omega
  ·have r:=between_lo (v:=l0 * X+l1 * Y) y1 y2 x1 x2 s4 s3 (by omega)
   have m0:0<=q * l0:=Int.mul_nonneg qn s3
   have m1:q * l1<=0:=Int.mul_nonpos_of_nonneg_of_nonpos qn s4
   have r':=between_lo (v:=L0 * X+L1 * Y) x1 x2 y1 y2 (show L0<=0 by omega) (show 0<=L1 by omega) rfl
   have z1:0<=(s'+L0) * W:=Int.mul_nonneg b0' (by omega)
   have z2:(s'+L1) * W < (s+l1) * W:=Int.mul_lt_mul_of_pos_right hlt1 hW
   rw [Int.add_mul] at z1 z2
   rw [Int.add_mul] at z2
   omega
 right
 have hg:Int.gcd (l0 * G+l1 * S) (L0 * G+L1 * S)=Int.gcd (u0 * G+u1 * S) (l0 * G+l1 * S):=by rw [vq];exact gcd_sub _ _ _
 rcases t G S W hW (by omega) (by omega) (by omega) (by omega) with ⟨z0,z1,z2,z3⟩ | ⟨z0,z1,z2,z3,z4⟩
 ·have k1:l0 * G+l1 * S=S:=by rw [z2,z3];omega
  refine ⟨by omega,key.1,key.2,by omega,?_⟩
  rw [hg,z0,z1,z2,z3]
  simp
 ·exact ⟨h.nz,key.1,key.2,by omega,by rw [hg,z4]⟩
end KA
namespace KA
open PySem PySem.Spec PyProof.Rows L2 D3 K01
theorem Lh.bits {g0 s0 g s u0 u1 l0 l1:Int} (h:Lh (2 ^ 258) g0 s0 g s u0 u1 l0 l1):B 259 g/\B 259 s/\B 259 u0/\B 259 u1/\B 259 l0/\B 259 l1:=by
 have:=h.small
 have e:(2:Int) ^ 258=463168356949264781694283940034751631413079938662562256157830336031652518559744:=by decide +kernel
 have e2:(2:Nat) ^ 259=926336713898529563388567880069503262826159877325124512315660672063305037119488:=by decide +kernel
 rw [e] at this
 unfold B
 rw [e2]
 omega
def LB:Nat:=30000000
def spSure:SpD:=fun ds M Q=>∃ g s:Int,ds=[.int g,.int s]/\0<=s/\s<=g/\B 257 g/\∀ u0 u1 l0 l1:Int,LhT g s u0 u1 l0 l1->B 259 u0->B 259 u1->B 259 l0->B 259 l1->Q (.tup [.tup [.int u0,.int u1],.tup [.int l0,.int l1]]) M
def spMany:SpD:=fun ds M Q=>∃ g s:Int,ds=[.int g,.int s]/\8192 < Builtin.Int.intBits s/\0<=s/\s<=g/\B LB g/\∀ g' s':Int,0<=s'->s' < g'->g'<=s->Int.gcd g' s'=Int.gcd g s->Q (.tup [.int g',.int s']) M
def spCdL:SpD:=fun ds M Q=>∃ a b:Int,ds=[.int a,.int b]/\0<=a/\0<=b/\B LB a/\B LB b/\Q (.int (Int.gcd a b:Nat)) M
def spMadeL:SpD:=fun ds M Q=>∃ t b:Int,ds=[.int t,.int b]/\b≠0/\B LB t/\B LB b/\Q (fr (tp t b) (bt t b)) M
theorem bits_eq {x:Int} (h:0 < x):(2:Int) ^ (Builtin.Int.intBits x - 1)<=x/\x < 2 ^ Builtin.Int.intBits x/\0 < Builtin.Int.intBits x:=by
 have hx:x.natAbs≠0:=by omega
 have e:Builtin.Int.intBits x=x.natAbs.log2+1:=by
  unfold Builtin.Int.intBits
  rw [if_neg (by simp;omega)]
 have h1:=Nat.log2_self_le hx
 have h2:x.natAbs < 2 ^ (x.natAbs.log2+1):=Nat.lt_log2_self
 rw [e,Nat.add_sub_cancel]
 have c1:((2 ^ x.natAbs.log2:Nat):Int)=2 ^ x.natAbs.log2:=by rw [Int.natCast_pow];rfl
 have c2:((2 ^ (x.natAbs.log2+1):Nat):Int)=2 ^ (x.natAbs.log2+1):=by rw [Int.natCast_pow];rfl
 rw [<- c1,<- c2]
 omega
theorem shr_lt {x:Int} {k m:Nat} (h:x < 2 ^ (k+m)):x / 2 ^ k < 2 ^ m:=by
 refine Int.ediv_lt_of_lt_mul (Int.pow_pos (by decide)) ?_
 rw [<- Int.pow_add,Nat.add_comm];exact h
theorem shr_rem {x:Int} {k:Nat}:0<=x - x / 2 ^ k * 2 ^ k/\x - x / 2 ^ k * 2 ^ k < 2 ^ k:=by
 have hp:(0:Int) < 2 ^ k:=Int.pow_pos (by decide)
 have e:x - x / 2 ^ k * 2 ^ k=x % 2 ^ k:=by rw [Int.emod_def,Int.mul_comm]
 rw [e]
 exact ⟨Int.emod_nonneg _ (by omega),Int.emod_lt_of_pos _ hp⟩
end KA
namespace KA
abbrev Vec:=Nat->Int
inductive Cone (G:Vec->Prop):Vec->Prop
 | zero:Cone G (fun _=>0)
 | mem {r:Vec}:G r->Cone G r
 | add {u v:Vec}:Cone G u->Cone G v->Cone G (fun i=>u i+v i)
 | scale {v w:Vec} (c d:Int):0 < c->0 < d->(∀ i,c * w i=d * v i)->Cone G v->Cone G w
def Nn (u:Vec):Prop:=∀ i,0<=u i
def Bn (n:Nat) (u:Vec):Prop:=∀ i,n<=i->u i=0
def Wi (u v:Vec):Prop:=∀ i,0 < u i->0 < v i
def Lin (A:Vec->Int):Prop:=∀ (a b:Int) (u v:Vec),A (fun i=>a * u i+b * v i)=a * A u+b * A v
def Spc (C:Vec->Prop):Prop:=∀ (a b:Int) (u v:Vec),C u->C v->C (fun i=>a * u i+b * v i)
theorem Lin.mul {A:Vec->Int} (h:Lin A) {c d:Int} {u v:Vec} (e:∀ i,c * u i=d * v i):c * A u=d * A v:=by
 have h1:=h c 0 u u
 have h2:=h d 0 v v
 have:(fun i=>c * u i+0 * u i)=fun i=>d * v i+0 * v i:=funext fun i=>by rw [e i];omega
 rw [this,h2] at h1
 omega
theorem Lin.zero {A:Vec->Int} (h:Lin A):A (fun _=>0)=0:=by
 have h1:=h 0 0 (fun _=>0) (fun _=>0)
 have:(fun i:Nat=>(0:Int) * 0+0 * 0)=fun _=>0:=funext fun i=>by omega
 rw [this] at h1
 omega
theorem Lin.add {A:Vec->Int} (h:Lin A) (u v:Vec):A (fun i=>u i+v i)=A u+A v:=by
 have h1:=h 1 1 u v
 have:(fun i:Nat=>1 * u i+1 * v i)=fun i=>u i+v i:=funext fun i=>by omega
 rw [this] at h1
 omega
theorem Cone.nn {G:Vec->Prop} (hG:∀ r,G r->Nn r) {w:Vec} (h:Cone G w):Nn w:=by
 induction h with
 | zero=>exact fun _=>Int.le_refl _
 | mem h=>exact hG _ h
 | add _ _ h1 h2=>exact fun i=>Int.add_nonneg (h1 i) (h2 i)
 | scale c d hc hd e _ ih =>
  intro i
  have h1:0<=c * _:=(e i) ▸ Int.mul_nonneg (Int.le_of_lt hd) (ih i)
  exact Int.nonneg_of_mul_nonneg_right h1 hc
theorem Cone.within {G:Vec->Prop} (hG:∀ r,G r->Nn r) {w:Vec} (h:Cone G w):∀ s:Vec,Wi w s->Cone (fun r=>G r/\Wi r s) w:=by
 induction h with
 | zero=>exact fun _ _=>.zero
 | mem h=>exact fun s hs=>.mem ⟨h,hs⟩
 | add h1 h2 i1 i2 =>
  intro s hs
  have n1:=h1.nn hG
  have n2:=h2.nn hG
  exact .add (i1 s fun i hi=>hs i (by have:=n2 i;show 0 < _+_;omega)) (i2 s fun i hi=>hs i (by have:=n1 i;show 0 < _+_;omega))
 | scale c d hc hd e _ ih =>
  intro s hs
  exact .scale c d hc hd e (ih s fun i hi=>hs i (by
   have:0 < c * _:=(e i) ▸ Int.mul_pos hd hi
   exact Int.pos_of_mul_pos_right this hc))
theorem Cone.pos {G:Vec->Prop} {A:Vec->Int} (hA:Lin A) {w:Vec} (h:Cone G w):0 < A w->∃ r,G r/\0 < A r:=by
 induction h with
 | zero=>intro h;rw [hA.zero] at h;omega
 | mem h=>exact fun p=>⟨_,h,p⟩
 | add _ _ i1 i2 =>
  intro h
  rw [hA.add] at h
  rename_i u v _ _
  by_cases z:0 < A u
  ·exact i1 z
  ·exact i2 (by omega)
 | scale c d hc hd e _ ih =>
  intro h
  have e2:=hA.mul e
  refine ih (Int.pos_of_mul_pos_right (e2 ▸ Int.mul_pos hc h) hd)
def cnt:Nat->Vec->Nat
 | 0,_=>0
 | n+1,w=>cnt n w+if 0 < w n then 1 else 0
theorem cnt_le {u v:Vec} (h:Wi u v):∀ n,cnt n u<=cnt n v
 | 0=>Nat.le_refl _
 | n+1=>by
  have ih:=cnt_le h n
  have:=h n
  unfold cnt
  split<;>split<;>first | omega | (rename_i a b;exact absurd (this a) b)
theorem cnt_lt {u v:Vec} (h:Wi u v) {k:Nat} (hk:0 < v k) (hu:¬ 0 < u k):∀ n,k < n->cnt n u < cnt n v
 | 0,h=>absurd h (Nat.not_lt_zero _)
 | n+1,hn=>by
  by_cases z:k=n
  ·subst z
   have:=cnt_le h k
   unfold cnt
   rw [if_neg hu,if_pos hk];omega
  ·have ih:=cnt_lt h hk hu n (by omega)
   have:=h n
   unfold cnt
   split<;>split<;>first | omega | (rename_i a b;exact absurd (this a) b)
theorem least_share {w v:Vec}:∀ n,(∃ i,i < n/\0 < v i)->∃ k,k < n/\0 < v k/\∀ i,i < n->0 < v i->w k * v i<=w i * v k
 | 0,⟨_,h,_⟩=>absurd h (Nat.not_lt_zero _)
 | n+1,⟨j,hj,hv⟩=>by
  by_cases z:∃ i,i < n/\0 < v i
  ·obtain ⟨k,h1,h2,h3⟩:=least_share n z
   by_cases hn:0 < v n/\w n * v k < w k * v n
   ·refine ⟨n,by omega,hn.1,fun i hi vi=>?_⟩
    by_cases e:i=n
    ·subst e;exact Int.le_refl _
    ·have a:=h3 i (by omega) vi
     have b:w n * v k * v i<=w k * v n * v i:=Int.mul_le_mul_of_nonneg_right (Int.le_of_lt hn.2) (Int.le_of_lt vi)
     have c:w k * v i * v n<=w i * v k * v n:=Int.mul_le_mul_of_nonneg_right a (Int.le_of_lt hn.1)
     refine Int.le_of_mul_le_mul_right (a:=v k) ?_ h2
     have e1:w n * v k * v i=w n * v i * v k:=by grind
     have e2:w k * v n * v i=w k * v i * v n:=by grind
     have e3:w i * v k * v n=w i * v n * v k:=by grind
     omega
   ·refine ⟨k,by omega,h2,fun i hi vi=>?_⟩
    by_cases e:i=n
    ·subst e
     exact Int.not_lt.mp fun z=>hn ⟨vi,z⟩
    ·exact h3 i (by omega) vi
  ·have e:j=n:=Nat.le_antisymm (by omega) (Nat.not_lt.mp fun h=>z ⟨j,h,hv⟩)
   subst e
   refine ⟨j,by omega,hv,fun i hi vi=>?_⟩
   by_cases e:i=j
   ·subst e;exact Int.le_refl _
   ·exact absurd ⟨i,by omega,vi⟩ z
structure Pos (n:Nat) (w:Vec):Prop where
 nn:Nn w
 bn:Bn n w
theorem cut {n:Nat} {w v:Vec} (hw:Pos n w) (hv:Pos n v) (hs:Wi v w) (hne:∃ i,0 < v i):∃ a b:Int,0 < a/\0 < b/\Pos n (fun i=>a * w i+(-b) * v i)/\Wi (fun i=>a * w i+(-b) * v i) w/\cnt n (fun i=>a * w i+(-b) * v i) < cnt n w:=by
 obtain ⟨j,hj⟩:=hne
 have hjn:j < n:=Nat.not_le.mp fun z=>by rw [hv.bn j z] at hj;omega
 obtain ⟨k,h1,h2,h3⟩:=least_share (w:=w) (v:=v) n ⟨j,hjn,hj⟩
 have hwk:=hs k h2
 have wi:Wi (fun i=>v k * w i+(-(w k)) * v i) w:=fun i hi=>by
  rcases Int.lt_or_le 0 (w i) with z | z
  ·exact z
  ·have e:w i=0:=Int.le_antisymm z (hw.nn i)
   have e2:v i=0:=Int.le_antisymm (Int.not_lt.mp fun y=>by have:=hs i y;omega) (hv.nn i)
   have hi:0 < v k * w i+(-(w k)) * v i:=hi
   rw [e,e2] at hi
   simp at hi
 refine ⟨v k,w k,h2,hwk,⟨fun i=>?_,fun i hi=>?_⟩,wi,cnt_lt wi (k:=k) hwk ?_ n h1⟩
 ·show 0<=v k * w i+(-(w k)) * v i
  rcases Int.lt_or_le 0 (v i) with z | z
  ·have:=h3 i (Nat.not_le.mp fun y=>by rw [hv.bn i y] at z;omega) z
   have e:v k * w i=w i * v k:=Int.mul_comm _ _
   have e2:(-(w k)) * v i=-(w k * v i):=Int.neg_mul _ _
   omega
  ·have e:v i=0:=Int.le_antisymm z (hv.nn i)
   rw [e,Int.mul_zero,Int.add_zero]
   exact Int.mul_nonneg (Int.le_of_lt h2) (hw.nn i)
 ·show v k * w i+(-(w k)) * v i=0
  rw [hw.bn i hi,hv.bn i hi];omega
 ·show ¬ 0 < v k * w k+(-(w k)) * v k
  have e:(-(w k)) * v k=-(w k * v k):=Int.neg_mul _ _
  have e2:v k * w k=w k * v k:=Int.mul_comm _ _
  omega
def Need (G:Vec->Prop) (l u:Vec):Prop:=∀ t,G t->(∀ i,0 < t i->0 < l i\/0 < u i)->t=l\/t=u
def join (A:Vec->Int) (l u:Vec):Vec:=fun i=>(-A u) * l i+A l * u i
def Nxt (G:Vec->Prop) (A:Vec->Int) (r:Vec):Prop:=(G r/\A r=0)\/∃ l u,G l/\G u/\0 < A l/\A u < 0/\Need G l u/\r=join A l u
structure Stage (n:Nat) (G:Vec->Prop) (C:Vec->Prop):Prop where
 ok:∀ r,G r->Pos n r/\(∃ i,0 < r i)/\C r
 anti:∀ r t,G r->G t->Wi r t->r=t
 gen:∀ w,Pos n w->C w->Cone G w
theorem join_pos {n:Nat} {A:Vec->Int} {l u:Vec} (hl:Pos n l) (hu:Pos n u) (h1:0 < A l) (h2:A u < 0):Pos n (join A l u) :=
 ⟨fun i=>Int.add_nonneg (Int.mul_nonneg (by omega) (hl.nn i)) (Int.mul_nonneg (by omega) (hu.nn i)),fun i hi=>by unfold join;rw [hl.bn i hi,hu.bn i hi];omega⟩
theorem join_at {n:Nat} {A:Vec->Int} {l u:Vec} (hl:Pos n l) (hu:Pos n u) (h1:0 < A l) (h2:A u < 0) (i:Nat):0 < join A l u i ↔ 0 < l i\/0 < u i:=by
 have a:=hl.nn i
 have b:=hu.nn i
 unfold join
 constructor
 ·intro h
  rcases Int.lt_or_le 0 (l i) with z | z
  ·exact .inl z
  ·rcases Int.lt_or_le 0 (u i) with y | y
   ·exact .inr y
   ·rw [Int.le_antisymm z a,Int.le_antisymm y b] at h
    omega
 ·rintro (h | h)
  ·have:=Int.mul_pos (show 0 < -A u by omega) h
   have:=Int.mul_nonneg (show 0<=A l by omega) b
   omega
  ·have:=Int.mul_nonneg (show 0<=-A u by omega) a
   have:=Int.mul_pos h1 h
   omega
theorem join_zero {A:Vec->Int} (hA:Lin A) {l u:Vec}:A (join A l u)=0:=by
 show A (fun i=>(-A u) * l i+A l * u i)=0
 rw [hA]
 grind
theorem Stage.inj {n:Nat} {G C:Vec->Prop} {A:Vec->Int} (S:Stage n G C) {l u l' u':Vec} (h1:G l) (h2:G u) (h3:0 < A l) (h4:A u < 0) (h5:Need G l u) (k1:G l') (k2:G u') (k3:0 < A l') (k4:A u' < 0) (h:Wi (join A l' u') (join A l u)):l'=l/\u'=u:=by
 have e:=fun i=>join_at (S.ok _ h1).1 (S.ok _ h2).1 h3 h4 i
 have e':=fun i=>join_at (S.ok _ k1).1 (S.ok _ k2).1 k3 k4 i
 refine ⟨(h5 l' k1 fun i hi=>(e i).mp (h i ((e' i).mpr (.inl hi)))).resolve_right fun z=>?_,(h5 u' k2 fun i hi=>(e i).mp (h i ((e' i).mpr (.inr hi)))).resolve_left fun z=>?_⟩
 ·rw [z] at k3;omega
 ·rw [z] at k4;omega
theorem mult {p q g:Int} {x y z:Vec} (hp:0 < p) (hq:0 < q) (ny:Nn y) (nx:Nn x) (nz:Nn z) (e:∀ i,p * x i=q * y i+g * z i):Wi y x\/Wi z y:=by
 rcases Int.lt_or_le g 0 with h | h
 ·refine .inr fun i hi=>Int.not_le.mp fun k=>?_
  have e:=e i
  rw [Int.le_antisymm k (ny i)] at e
  have:=Int.mul_nonneg (Int.le_of_lt hp) (nx i)
  have:=Int.mul_neg_of_neg_of_pos h hi
  omega
 ·refine .inl fun i hi=>Int.pos_of_mul_pos_right (a:=p) (b:=x i) ?_ hp
  rw [e i]
  have:=Int.mul_pos hq hi
  have:=Int.mul_nonneg h (nz i)
  omega
theorem Stage.next {n:Nat} {G C:Vec->Prop} {A:Vec->Int} (hA:Lin A) (hC:Spc C) (S:Stage n G C):Stage n (Nxt G A) (fun w=>C w/\A w=0):=by
 have ok:∀ r,Nxt G A r->Pos n r/\(∃ i,0 < r i)/\C r/\A r=0:=by
  rintro r (⟨h1,h2⟩ | ⟨l,u,h1,h2,h3,h4,h5,rfl⟩)
  ·exact ⟨(S.ok r h1).1,(S.ok r h1).2.1,(S.ok r h1).2.2,h2⟩
  ·obtain ⟨a,⟨i,b⟩,c⟩:=S.ok l h1
   obtain ⟨a',_,c'⟩:=S.ok u h2
   exact ⟨join_pos a a' h3 h4,⟨i,(join_at a a' h3 h4 i).mpr (.inl b)⟩,hC _ _ _ _ c c',join_zero hA⟩
 refine ⟨ok,?_,?_⟩
 ·rintro r t (⟨h1,h2⟩ | ⟨l,u,h1,h2,h3,h4,h5,rfl⟩) (⟨k1,k2⟩ | ⟨l',u',k1,k2,k3,k4,k5,rfl⟩) h
  ·exact S.anti r t h1 k1 h
  ·have e:=fun i=>join_at (S.ok _ k1).1 (S.ok _ k2).1 k3 k4 i
   rcases k5 r h1 fun i hi=>(e i).mp (h i hi) with z | z
   ·rw [z] at h2;omega
   ·rw [z] at h2;omega
  ·have e:=fun i=>join_at (S.ok _ h1).1 (S.ok _ h2).1 h3 h4 i
   have:=S.anti l t h1 k1 fun i hi=>h i ((e i).mpr (.inl hi))
   rw [this] at h3;omega
  ·obtain ⟨a,b⟩:=S.inj k1 k2 k3 k4 k5 h1 h2 h3 h4 h
   rw [a,b]
 ·have nnG:∀ r,G r->Nn r:=fun r h=>(S.ok r h).1.nn
  have key:∀ m w,cnt n w<=m->Pos n w->C w->A w=0->Cone (Nxt G A) w:=by
   intro m
   induction m with
   | zero =>
    intro w hm hw _ _
    have z:w=fun _=>0:=funext fun i=>by
     rcases Int.lt_or_le 0 (w i) with z | z
     ·have hi:i < n:=Nat.not_le.mp fun y=>by rw [hw.bn i y] at z;omega
      have:=cnt_lt (u:=fun _=>0) (v:=w) (fun i hi=>absurd hi (Int.lt_irrefl 0)) z (Int.lt_irrefl 0) n hi
      omega
     ·exact Int.le_antisymm z (hw.nn i)
    rw [z];exact .zero
   | succ m ih =>
    intro w hm hw cw aw
    have away:∀ v,Pos n v->C v->A v=0->(∃ i,0 < v i)->Wi v w->Cone (Nxt G A) v->Cone (Nxt G A) w:=by
     intro v hv cv av nv wv kv
     obtain ⟨a,b,ha,hb,p,wi,lt⟩:=cut hw hv wv nv
     have k:=ih _ (by omega) p (hC a (-b) w v cw cv) (by rw [hA];rw [aw,av];omega)
     refine .scale a 1 ha (by decide) (v:=fun i=>(a * w i+-b * v i)+b * v i) (fun i=>by show a * w i=1 * (a * w i+-b * v i+b * v i);rw [Int.neg_mul];omega) (.add k ?_)
     exact .scale 1 b (by decide) hb (fun i=>by show 1 * (b * v i)=b * v i;omega) kv
    have away':∀ v,Pos n v->C v->A v=0->(∃ i,0 < v i)->Wi v w->(∃ i,0 < w i/\¬ 0 < v i)->Cone (Nxt G A) w:=by
     intro v hv cv av nv wv ⟨i,wi,vi⟩
     have hi:i < n:=Nat.not_le.mp fun y=>by rw [hw.bn i y] at wi;omega
     exact away v hv cv av nv wv (ih v (by have:=cnt_lt wv wi vi n hi;omega) hv cv av)
    by_cases z:∃ i,0 < w i
    ·
     have hin:=(S.gen w hw cw).within nnG w fun i h=>h
     by_cases k0:∃ r,G r/\Wi r w/\A r=0
     ·obtain ⟨r,h1,h2,h3⟩:=k0
      obtain ⟨p,q,c⟩:=S.ok r h1
      exact away r p c h3 q h2 (.mem (.inl ⟨h1,h3⟩))
     ·
      obtain ⟨r,hr,hrw⟩:∃ r,G r/\Wi r w:=by
       obtain ⟨i,hi⟩:=z
       have li:Lin (fun v:Vec=>v i):=fun a b u v=>rfl
       obtain ⟨r,⟨a,b⟩,_⟩:=hin.pos li hi
       exact ⟨r,a,b⟩
      have hrA:A r≠0:=fun h=>k0 ⟨r,hr,hrw,h⟩
      have other:∃ t,G t/\Wi t w/\A t * A r < 0:=by
       obtain ⟨p,q,c⟩:=S.ok r hr
       obtain ⟨a,b,ha,hb,pz,wz,_⟩:=cut hw p hrw q
       have kz:=(S.gen _ pz (hC a (-b) w r cw c)).within nnG w wz
       have az:A (fun i=>a * w i+-b * r i)=-b * A r:=by rw [hA,aw];omega
       have lin':Lin (fun v=>-(A r) * A v):=fun a b u v=>by show -(A r) * A _=_;rw [hA];grind
       have:0 < -(A r) * A (fun i=>a * w i+-b * r i):=by
        rw [az]
        have h0:0 < A r * A r:=by
         rcases Int.lt_or_gt_of_ne hrA with y | y
         ·exact Int.mul_pos_of_neg_of_neg y y
         ·exact Int.mul_pos y y
        have:=Int.mul_pos hb h0
        grind
       obtain ⟨t,⟨h1,h2⟩,h3⟩:=kz.pos lin' this
       refine ⟨t,h1,h2,?_⟩
       have e:-(A r) * A t=-(A t * A r):=by grind
       omega
      obtain ⟨l,u,hl,hu,lw,uw,al,au⟩:∃ l u,G l/\G u/\Wi l w/\Wi u w/\0 < A l/\A u < 0:=by
       obtain ⟨t,h1,h2,h3⟩:=other
       rcases Int.lt_or_gt_of_ne hrA with y | y
       ·exact ⟨t,r,h1,hr,h2,hrw,Int.not_le.mp fun x=>by have:=Int.mul_nonneg_of_nonpos_of_nonpos x (Int.le_of_lt y);omega,y⟩
       ·exact ⟨r,t,hr,h1,hrw,h2,y,Int.not_le.mp fun x=>by have:=Int.mul_nonneg x (Int.le_of_lt y);omega⟩
      obtain ⟨pl,ql,cl⟩:=S.ok l hl
      obtain ⟨pu,qu,cu⟩:=S.ok u hu
      have jat:=fun i=>join_at pl pu al au i
      have jw:Wi (join A l u) w:=fun i h=>((jat i).mp h).elim (lw i) (uw i)
      have jn:∃ i,0 < join A l u i:=ql.elim fun i h=>⟨i,(jat i).mpr (.inl h)⟩
      have jc:C (join A l u):=hC _ _ _ _ cl cu
      have jp:=join_pos pl pu al au
      by_cases full:∃ i,0 < w i/\¬ 0 < join A l u i
      ·exact away' _ jp jc (join_zero hA) jn jw full
      ·have wj:Wi w (join A l u):=fun i h=>Decidable.byContradiction fun y=>full ⟨i,h,y⟩
       by_cases nd:Need G l u
       ·
        exact away _ jp jc (join_zero hA) jn jw (.mem (.inr ⟨l,u,hl,hu,al,au,nd,rfl⟩))
       ·
        obtain ⟨t,ht,htw,tl,tu⟩:∃ t,G t/\Wi t w/\t≠l/\t≠u:=by
         refine Classical.byContradiction fun y=>nd fun t h1 h2=>Classical.byContradiction fun x=>y ⟨t,h1,fun i hi=>(h2 i hi).elim (lw i) (uw i),fun e=>x (.inl e),fun e=>x (.inr e)⟩
        obtain ⟨pt,qt,ct⟩:=S.ok t ht
        have atn:A t≠0:=fun h=>k0 ⟨t,ht,htw,h⟩
        have again:∀ v,Pos n v->C v->A v=0->(∃ i,0 < v i)->Wi v w->((∃ a b:Int,0 < a/\0 < b/\∀ i,a * join A l u i=b * v i)->False)->Cone (Nxt G A) w:=by
         intro v hv cv av nv wv no
         by_cases fv:∃ i,0 < w i/\¬ 0 < v i
         ·exact away' v hv cv av nv wv fv
         ·have wv':Wi w v:=fun i h=>Decidable.byContradiction fun y=>fv ⟨i,h,y⟩
          obtain ⟨a,b,ha,hb,pz,wz,lt⟩:=cut jp hv (fun i h=>wj i (wv i h)) nv
          by_cases nz:∃ i,0 < a * join A l u i+-b * v i
          ·refine away' _ pz (hC a (-b) _ _ jc cv) (by rw [hA,join_zero hA,av];omega) nz (fun i h=>jw i (wz i h)) (Classical.byContradiction fun y=>?_)
           have:=cnt_le (u:=w) (v:=fun i=>a * join A l u i+-b * v i) (fun i h=>Decidable.byContradiction fun x=>y ⟨i,h,x⟩) n
           have:=cnt_le jw n
           omega
          ·refine (no ⟨a,b,ha,hb,fun i=>?_⟩).elim
           have h0:a * join A l u i+-b * v i=0:=Int.le_antisymm (Int.not_lt.mp fun h=>nz ⟨i,h⟩) (pz.nn i)
           rw [Int.neg_mul] at h0
           omega
        rcases Int.lt_or_gt_of_ne atn with y | y
        ·have hat:=fun i=>join_at pl pt al y i
         refine again (join A l t) (join_pos pl pt al y) (hC _ _ _ _ cl ct) (join_zero hA) (ql.elim fun i h=>⟨i,(hat i).mpr (.inl h)⟩) (fun i h=>((hat i).mp h).elim (lw i) (htw i)) fun ⟨a,b,ha,hb,e⟩=>?_
         rcases mult (p:=a * A l) (q:=b * A l) (g:=-(b * A t)+a * A u) (x:=u) (y:=t) (z:=l) (Int.mul_pos ha al) (Int.mul_pos hb al) pt.nn pu.nn pl.nn (fun i=>by
          have e:=e i
          unfold join at e
          grind) with k | k
         ·exact tu (S.anti t u ht hu k)
         ·exact tl (S.anti l t hl ht k).symm
        ·have hat:=fun i=>join_at pt pu y au i
         refine again (join A t u) (join_pos pt pu y au) (hC _ _ _ _ ct cu) (join_zero hA) (qt.elim fun i h=>⟨i,(hat i).mpr (.inl h)⟩) (fun i h=>((hat i).mp h).elim (htw i) (uw i)) fun ⟨a,b,ha,hb,e⟩=>?_
         rcases mult (p:=-(A u) * a) (q:=-(A u) * b) (g:=b * A t - a * A l) (x:=l) (y:=t) (z:=u) (Int.mul_pos (by omega) ha) (Int.mul_pos (by omega) hb) pt.nn pl.nn pu.nn (fun i=>by
          have e:=e i
          unfold join at e
          grind) with k | k
         ·exact tl (S.anti t l ht hl k)
         ·exact tu (S.anti u t hu ht k).symm
    ·have z':w=fun _=>0:=funext fun i=>Int.le_antisymm (Int.not_lt.mp fun h=>z ⟨i,h⟩) (hw.nn i)
     rw [z'];exact .zero
  exact fun w hw hc=>key _ w (Nat.le_refl _) hw hc.1 hc.2
end KA
namespace KA
open PySem PySem.Spec PyProof.Rows L2 D3 K01
end KA
namespace D3
open PySem PySem.Spec PyProof.Rows L2
section
variable {X:Cx} {G:Ga} {M:MH} {elt tg iter e:Expr} {scope:Scope} {pos:Pos} {Q:DK} {own:List Str} {js:List Nat} {N:List Str} {cl:List (Str × Addr)}
end
end D3
namespace D3
open PySem PySem.Spec PyProof.Rows L2
section
variable {X:Cx} {G:Ga} {M:MH} {elt tg iter e:Expr} {scope:Scope} {pos:Pos} {Q:DK} {own:List Str} {js:List Nat} {N:List Str} {cl:List (Str × Addr)}
theorem ex_compI {wi:TI} {ifs:List Expr} {E:EndsD} {y:Str} {py spos:Pos} (jj:Nat) (T:CompOk X own js N scope cl) (hxe:X.xe=fun _ _=>False) (hc:X.calm=true) (hi:PI X tg iter wi) (hN:X.N.Nodup) (hj:X.N[jj]?=some y) (hy:Loc X.env.scope y) (hyf:X.fn y=true\/X.env.scope.names.lookup y=some .local)
  (hsw:swapsWith (.ListComp elt [⟨tg,iter,ifs,0⟩] scope pos) (some (.Name y py)) spos.line X.env=pure true)
  (h:∀ σ H,KF X.K H->Rel X G M σ H->wi σ H fun J H1=>Grow H H1/\∃ (M1:MH) (ds:List D) (Iv:Addr->Nat->List D->MH->Prop),Rel X G M1 σ H1 /\
   (∀ q i acc M' H',Grow H1 H'->MemOk X.K M' H'->Iv q i acc M'->(i=ds.length->J.stop i H')/\(i < ds.length->J.go i H'/\∀ x H2,J.yld i H' x H2->Grow H' H2/\(∀ b o,H' b=some o->H2 b=some o)/\∃ d,ds[i]?=some d/\Is H2 d x))/\(∀ q,M1 q=none->Iv q 0 [] (mset M1 q (.lst []))) /\
   (∀ Y:Cx,(∃ C s H fp,Y=compCx X N scope cl C s H fp)->∀ q i acc M' d,ds[i]?=some d->Iv q i acc M'->M' q=some (.lst acc)->GV Y (compG own js G) M' tg d fun G3 M3=>M3=M'/\Sub (compG own js G) G3/\TVs Y G3 M' ifs fun k M4=>M4=M'/\if k=true then EV Y G3 M' elt fun o M5=>M5 q=some (.lst acc)/\acc.length < sizeLine/\Iv q (i+1) (acc++[o]) (mset M5 q (.lst (acc++[o]))) else Iv q (i+1) acc M') /\
   ∀ q acc M',Iv q ds.length acc M'->M' q=some (.lst acc)->E.nx (G.set jj (some (.ref q))) M')
  (hs:∀ x,foldedSetIterable iter X.env x=pure x:=by intro _;rfl):EX X G M (.Assign [.Name y py] (.ListComp elt [⟨tg,iter,ifs,0⟩] scope pos) spos) E:=by
 intro pins s σ H I R
 rw [exec_Assign_Name_used _ _ _ _ hsw]
 refine wpAny_bind (wpAny_standAt (wpAny_bind ?_))
 show wpAny _ X.A (do let _ <- comprehension (.ListComp elt [⟨tg,iter,ifs,0⟩] scope pos) scope X.env _ (newList []) false (eval iter X.env) (some (assign (.Name y py) X.env))) _ _ s
 refine wpAny_bind (wpAny_mono (comp_core (use:=some (assign (.Name y py) X.env)) (Qc:=fun _ s'=>SPD X pins H E .next s') (F:=fun q=>E.nx (G.set jj (some (.ref q)))) T hxe hc hi hs I (h σ H (kf_of I) R) (fun J H1 h=>h) fun q M5 C s3 H3 fp σ5 H5 s6 f I3 f3 hC I6 g R5=>?_) (fun _ s' hq=>wpAny_pure (wpAny_pure hq)) fun _ _ e=>e)
 obtain ⟨mm,hmm,_⟩:=id I6.loc
 have IX:Inv X pins σ H5 s6:=Inv.unblock I3 f3 I6 hC (Heap.SameBut.refl C s6.heap)
 have freeC:H5 C=none:=I6.free
 have CneL:C≠X.env.locals:=by rw [hC];exact Nat.ne_of_gt I3.lt
 have CnF:C∉X.fs:=I3.nofs (by rw [hC];exact Nat.le_refl _)
 obtain ⟨oC,esC,epC,hoC,hdC,hrC⟩:=id hmm
 have hoC:s6.heap.get? C=some oC:=hoC
 have IXp:Inv X (pins++[(C,oC)]) σ H5 s6:=IX.pins_of fun z hz=>by
  rcases List.mem_append.mp hz with hz | hz
  ·exact IX.pin z (List.mem_append_right _ hz)
  ·rw [List.mem_singleton.mp hz]
   exact ⟨hoC,freeC,CneL,CnF,fun v e=>by rw [hdC] at e;cases e⟩
 have hl:jj < σ.length:=by rw [IX.len];exact (List.getElem?_eq_some_iff.mp hj).1
 refine wpAny_assign_Name (store_ok IXp hN hj hy (v:=.ref q) rfl (fun s7 I7=>?_) hyf)
 have pC:=I7.pin (C,oC) (List.mem_append_right _ (List.mem_append_right _ (List.mem_singleton.mpr rfl)))
 refine ⟨mm,⟨oC,esC,epC,pC.1,hdC,hrC⟩,fun h' hsb=>?_⟩
 have pinsne:∀ p∈X.pn++pins,p.1≠C:=fun z hz e=>by
  have:=(I3.pin z hz).1
  exact absurd (Heap.lt_size this) (by rw [e,hC];exact Nat.lt_irrefl _)
 have cellne:∀ x c,X.env.cells.lookup x=some c->c≠C:=fun x c e z=>by
  obtain ⟨v,qc⟩:=I3.cell x c e
  exact absurd qc.lt (by rw [z,hC];exact Nat.lt_irrefl _)
 have I8:Inv X pins (σ.set jj (some (.ref q))) H5 { s7 with heap:=h' }:=(I7.unpinned).turned (t':=s7.toks) (it:=C) (fun b o hb e=>(hsb.2 b hb).trans e) freeC CneL (.inr (by rw [hC];exact I3.sz)) cellne pinsne
 exact ⟨_,H5,_,M5,I8,g,R5.set hl (is_ref.mpr rfl),f⟩
theorem ex_compR {E:EndsD} {y:Str} {py spos p p2:Pos} (jj:Nat) (T:CompOk X own js N scope cl) (hxe:X.xe=fun _ _=>False) (hc:X.calm=true) (hm:X.mg "range" = none) (hN:X.N.Nodup) (hj:X.N[jj]?=some y) (hy:Loc X.env.scope y) (hyf:X.fn y=true\/X.env.scope.names.lookup y=some .local)
  (hsw:swapsWith (.ListComp elt [⟨tg,.Call (.Name "range" p) [e] [] p2,[],0⟩] scope pos) (some (.Name y py)) spos.line X.env=pure true)
  (h:AV X G M [e] fun as M1=>∃ (n:Int) (Iv:Addr->Nat->List D->MH->Prop),as=[.int n]/\0<=n/\n < 1000/\(∀ q,M1 q=none->Iv q 0 [] (mset M1 q (.lst []))) /\
   (∀ Y:Cx,(∃ C s H fp,Y=compCx X N scope cl C s H fp)->∀ q i acc M',i < n.toNat->Iv q i acc M'->M' q=some (.lst acc)->GV Y (compG own js G) M' tg (.int (i:Nat)) fun G3 M3=>M3=M'/\Sub (compG own js G) G3/\EV Y G3 M' elt fun o M4=>M4 q=some (.lst acc)/\acc.length < sizeLine/\Iv q (i+1) (acc++[o]) (mset M4 q (.lst (acc++[o])))) /\
   ∀ q acc M',Iv q n.toNat acc M'->M' q=some (.lst acc)->E.nx (G.set jj (some (.ref q))) M')
  (hg:Gl X "range") (hse:starEach [e] X.env=[(false,eval e X.env)]) (hs:∀ x,foldedSetIterable (.Call (.Name "range" p) [e] [] p2) X.env x=pure x):EX X G M (.Assign [.Name y py] (.ListComp elt [⟨tg,.Call (.Name "range" p) [e] [] p2,[],0⟩] scope pos) spos) E:=by
 refine ex_compI jj T hxe hc (pi_range1 hg hm (pa_D (G:=G)) hse) hN hj hy hyf hsw (fun σ H kf R=>?_) hs
 refine ⟨M,_,R,h,fun vs H' ds M' kf' g i R' q=>?_⟩
 obtain ⟨n,Iv,e,h1,h2,iv0,block,fin⟩:=q
 subst e
 obtain ⟨v,rfl,hv⟩:=isl1 i
 rw [is_int] at hv;subst hv
 refine ⟨n,rfl,by omega,by omega,g,M',(List.range n.toNat).map fun i:Nat=>D.int i,Iv,R',fun q i acc M2 H2 g2 m2 v2=>⟨fun e=>?_,fun hlt=>⟨?_,fun x H3 y=>?_⟩⟩,iv0,fun Y hY q i acc M2 d hd v2 m2=>?_,fun q acc M2 v2 m2=>fin q acc M2 (by rw [List.length_map,List.length_range] at v2;exact v2) m2⟩
 ·show n.toNat<=i
  rw [e,List.length_map,List.length_range];exact Nat.le_refl _
 ·show i < n.toNat
  simpa using hlt
 ·obtain ⟨e,y⟩:=y
  subst e;subst y
  have hlt':i < n.toNat:=by simpa using hlt
  exact ⟨Grow.refl _,fun _ _ z=>z,.int i,by rw [List.getElem?_map,List.getElem?_range hlt'];rfl,is_int.mpr (by simp)⟩
 ·rw [List.getElem?_map] at hd
  have hi:i < n.toNat:=by
   refine Nat.lt_of_not_le fun z=>?_
   rw [List.getElem?_eq_none (by rw [List.length_range];exact z)] at hd;cases hd
  rw [List.getElem?_range hi] at hd
  have hd:D.int (i:Nat)=d:=by simpa using hd
  subst hd
  have:=block Y hY q i acc M2 hi v2 m2
  intro pins s σ H v u I R r i1
  refine thn (this pins s σ H v u I R r i1) fun _ s2 h2=>?_
  obtain ⟨σ2,H2,G2,M3,I2,g2,R2,e1,e2,e3⟩:=h2
  exact ⟨σ2,H2,G2,M3,I2,g2,R2,e1,e2,⟨rfl,by rw [if_pos rfl];exact e3⟩⟩
theorem ex_comp_list {E:EndsD} {ifs:List Expr} {y:Str} {py spos:Pos} (jj:Nat) (T:CompOk X own js N scope cl) (hxe:X.xe=fun _ _=>False) (hc:X.calm=true) (hN:X.N.Nodup) (hj:X.N[jj]?=some y) (hy:Loc X.env.scope y) (hyf:X.fn y=true\/X.env.scope.names.lookup y=some .local)
  (hsw:swapsWith (.ListComp elt [⟨tg,iter,ifs,0⟩] scope pos) (some (.Name y py)) spos.line X.env=pure true) (f:D->D) (pr:D->Bool)
  (h:EV X G M iter fun d M1=>∃ (l:Addr) (ds:List D),d=.ref l/\(M1 l=some (.lst ds)\/M1 l=some (.ro ds))/\ds.length<=sizeLine /\
   (∀ Y:Cx,(∃ C s H fp,Y=compCx X N scope cl C s H fp)->∀ M',Ext M1 M'->∀ d∈ds,GV Y (compG own js G) M' tg d fun G3 M3=>M3=M'/\Sub (compG own js G) G3/\TVs Y G3 M' ifs (fun k M4=>M4=M'/\k=pr d)/\(pr d=true->EV Y G3 M' elt fun o M4=>M4=M'/\o=f d)) /\
   ∀ q,M1 q=none->E.nx (G.set jj (some (.ref q))) (mset M1 q (.lst ((ds.filter pr).map f))))
  (hs:∀ x,foldedSetIterable iter X.env x=pure x):EX X G M (.Assign [.Name y py] (.ListComp elt [⟨tg,iter,ifs,0⟩] scope pos) spos) E:=by
 refine ex_compI jj T hxe hc (pi_list (pe_D (G:=G))) hN hj hy hyf hsw (fun σ H kf R=>?_) hs
 refine ⟨M,_,R,h,fun v H' d M' kf' g i R' q=>?_⟩
 obtain ⟨l,ds,e,hl,hz,block,fin⟩:=q
 subst e
 rw [is_ref] at i;subst i
 have sq:∀ {H2:Hp},MemOk X.K M' H2->∃ xs,SqL X.K H2 l xs/\IsL H2 ds xs:=fun {H2} m=>by
  rcases hl with hl | hl
  ·obtain ⟨xs,h1,h2⟩:=m l _ hl;exact ⟨xs,SqL.of h1,h2⟩
  ·exact m l _ hl
 obtain ⟨xs0,hx0,_⟩:=sq R'.mem
 refine ⟨l,rfl,⟨xs0,hx0⟩,g,M',ds,fun q i acc M2=>M' q=none/\M2=mset M' q (.lst acc)/\acc=((ds.take i).filter pr).map f,R',fun q i acc M2 H2 g2 m2 v2=>?_,fun q hq=>⟨hq,rfl,by simp⟩,pure_block hz block,fun q acc M2 ⟨h1,h2,h3⟩ _=>by rw [h2,h3,List.take_length];exact fin q h1⟩
 obtain ⟨xs,hx2,hxi⟩:=sq (m2.ext (by rw [v2.2.1];exact ext_new v2.1))
 have hlen:=hxi.len
 refine ⟨fun e=>⟨xs,hx2,by omega⟩,fun hlt=>⟨⟨xs,xs[i]'(by omega),hx2,by simp⟩,fun x H3 y=>?_⟩⟩
 obtain ⟨e,y⟩:=y
 subst e
 have e1:=y xs hx2
 obtain ⟨d,e2,i2⟩:=hxi.get' e1
 exact ⟨Grow.refl _,fun _ _ z=>z,d,e2,i2⟩
end
end D3
namespace D3
open PySem PySem.Spec PyProof.Rows L2
section
variable {P:Program} {w:World} {B:Around} {Z:Value->Shared->Prop} {c t:Addr} {a:Nat} {xs:Array Value} {st:Shared} {R:Value->Shared->Prop}
theorem off_tuple {x:Value} (hi:st.heap.IsTupleIter c t a) (ht:st.heap.IsTuple t xs) (hx:xs[a]?=some x)
  (k:∀ g,g.IsTupleIter c t (a+1)->Heap.SameBut c st.heap g->R x { st with heap:=g }):wpAny (model P w) B (Builtin.SmallTypes.nextOf (.ref c)) R Z st:=by
 obtain ⟨oc,e1,e2,e3⟩:=id hi
 obtain ⟨ot,f1,f2,m,f3⟩:=ht
 unfold Builtin.SmallTypes.nextOf
 refine wpAny_bind (wpAny_callSpecial?_slot (name:=Str.ofString "__next__") hi.typeIs F.slot_tuple_iterator_next (wpAny_call_entry F.slot_tuple_iterator_next hi.typeIs F.entry_tuple_iterator_next ?_ (F.args_tuple_iterator_next_1 _)))
 show wpAny _ _ (field (.ref c) 0 >>= _) _ _ st
 refine wpAny_bind (wpAny_field e1 e3 (x:=.ref t) rfl ?_)
 have far:¬ ((Value.ref t == Value.none)=true):=Bool.false_ne_true
 show wpAny _ _ (if (Value.ref t == Value.none)=true then _ else _) _ _ st
 rw [if_neg far]
 show wpAny _ _ (field (.ref c) 1 >>= _) _ _ st
 refine wpAny_bind (wpAny_field e1 e3 (x:=.int a 0) rfl ?_)
 show wpAny _ _ (seqItems? (.ref t) >>= _) _ _ st
 refine wpAny_bind (wpAny_seqItems f1 f3 ?_)
 simp only [Int.toNat_natCast,hx]
 refine wpAny_bind (wpAny_setField e1 e3 (by simp) (wpAny_pure ⟨x,rfl,wpAny_pure (k _ ⟨_,Heap.get?_update_self _ e1 (Obj.isFreed_of_fields (Obj.data_mapFields e3 _)),(Obj.cls_mapFields ..).trans e2,?_⟩ (Heap.SameBut.update ..))⟩))
 rw [Obj.data_mapFields e3];simp [rawInt]
theorem out_tuple (calm:B.handled=none) (hi:st.heap.IsTupleIter c t a) (ht:st.heap.IsTuple t xs) (hx:xs[a]?=none)
  (k:∀ g e,Heap.ExtBut c st.heap g->(∃ o,g.get? e=some o/\o.cls=.type "StopIteration")->Z (.ref e) { st with heap:=g }):wpAny (model P w) B (Builtin.SmallTypes.nextOf (.ref c)) R Z st:=by
 obtain ⟨oc,e1,e2,e3⟩:=id hi
 obtain ⟨ot,f1,f2,m,f3⟩:=ht
 unfold Builtin.SmallTypes.nextOf
 refine wpAny_bind (wpAny_callSpecial?_slot (name:=Str.ofString "__next__") hi.typeIs F.slot_tuple_iterator_next (wpAny_call_entry F.slot_tuple_iterator_next hi.typeIs F.entry_tuple_iterator_next ?_ (F.args_tuple_iterator_next_1 _)))
 show wpAny _ _ (field (.ref c) 0 >>= _) _ _ st
 refine wpAny_bind (wpAny_field e1 e3 (x:=.ref t) rfl ?_)
 have far:¬ ((Value.ref t == Value.none)=true):=Bool.false_ne_true
 show wpAny _ _ (if (Value.ref t == Value.none)=true then _ else _) _ _ st
 rw [if_neg far]
 show wpAny _ _ (field (.ref c) 1 >>= _) _ _ st
 refine wpAny_bind (wpAny_field e1 e3 (x:=.int a 0) rfl ?_)
 show wpAny _ _ (seqItems? (.ref t) >>= _) _ _ st
 refine wpAny_bind (wpAny_seqItems f1 f3 ?_)
 simp only [Int.toNat_natCast,hx]
 refine wpAny_bind (wpAny_rule (wpAny_bind (wpAny_setField e1 e3 (by simp) (show wpAny _ _ (newExc (.type "StopIteration") [] >>= _) _ _ _ from wpAny_bind ?_))))
 simp only [newExc,newTuple]
 refine wpAny_bind (wpAny_newObj_type (wpAny_bind (m:=firstArgMember _ _) (wpAny_of_eq (a:=Value.none) (by first | rfl | (simp only [firstArgMember];rfl)) (wpAny_newObj_type ?_ (by size_fits)))) (by size_fits))
 simp only [raiseNew]
 refine wpAny_bind (wpAny_handled ?_)
 first | rw [show B.in1.handled=none from calm] | rw [calm]
 exact wpAny_bind (wpAny_pure (wpAny_throw (k _ _ (((Heap.SameBut.update ..).extBut.push _).push _) ⟨_,Heap.get?_push_size _ rfl,rfl⟩)))
end
theorem draws_tuple {P:Program} {w:World} {B:Around} (calm:B.handled=none) (c t:Addr) (far:t≠c) (xs:Array Value) :
  Draws P w B c [c,t] xs.size (fun i v=>xs[i]?=some v) (fun i h=>h.IsTupleIter c t i/\h.IsTuple t xs) where
 live:=fun _ _ q=>let ⟨o,e,_⟩:=q.1;⟨o,e⟩
 frame:=fun _ _ _ q k=>⟨q.1.at fun o e=>k c (by simp) o e,let ⟨o,e,r⟩:=q.2;⟨o,k t (by simp) o e,r⟩⟩
 item:=fun i st R Z lt q k=>by
  refine off_tuple q.1 q.2 (x:=xs[i]) (by simp [lt]) fun g h1 h2=>k _ g st.toks (by simp [lt]) ⟨h1,q.2.extBut h2.extBut far⟩ h2
 done:=fun st R Z q k=>out_tuple calm q.1 q.2 (by simp) k
end D3
namespace D3
open PySem PySem.Spec PyProof.Rows L2
open AutoSeq1 (wpAny_loadPart')
theorem turned2 {X:Cx} {pins:List (Addr × Obj)} {σ:St} {H:Hp} {s:Shared} {g:Heap} {e it:Addr} {tk:Nat} (I:L2.Inv X pins σ H s) (fe:FpOk X pins H e) (fi:FpOk X pins H it) (ne:e≠it)
  (he:∃ o,s.heap.get? e=some o) (hi:∃ o,s.heap.get? it=some o) (ke:∃ o,g.get? e=some o) (ki:∃ o,g.get? it=some o) (k:∀ b o,b≠e->b≠it->s.heap.get? b=some o->g.get? b=some o) :
  ∃ m:Heap,L2.Inv X pins σ H { s with heap:=m,toks:=tk }/\m.objs.size=s.heap.objs.size/\∀ b o,m.get? b=some o->g.get? b=some o:=by
 obtain ⟨oe,he⟩:=he
 obtain ⟨oi,hi⟩:=hi
 obtain ⟨ue,ke⟩:=ke
 obtain ⟨ui,ki⟩:=ki
 obtain ⟨a0,a1,a2,a3,a4,a5⟩:=fi
 obtain ⟨b0,b1,b2,b3,b4,b5⟩:=fe
 have s1:Heap.SameBut it s.heap (s.heap.update it fun _=>ui):=Heap.SameBut.update ..
 have s2:Heap.SameBut e (s.heap.update it fun _=>ui) ((s.heap.update it fun _=>ui).update e fun _=>ue):=Heap.SameBut.update ..
 have g1:(s.heap.update it fun _=>ui).get? it=some ui:=Heap.get?_update_self (fun _=>ui) hi (Heap.get?_some_iff.mp ki).2
 have g2:((s.heap.update it fun _=>ui).update e fun _=>ue).get? e=some ue:=Heap.get?_update_self (fun _=>ue) ((s1.2 e ne).trans he) (Heap.get?_some_iff.mp ke).2
 have I1:L2.Inv X pins σ H { s with heap:=s.heap.update it fun _=>ui }:=I.turned (t':=s.toks) (fun b o hb q=>(s1.2 b hb).trans q) a0 a1 a3 a4 a5
 have I2:L2.Inv X pins σ H { s with heap:=(s.heap.update it fun _=>ui).update e fun _=>ue,toks:=tk }:=I1.turned (fun b o hb q=>(s2.2 b hb).trans q) b0 b1 b3 b4 b5
 refine ⟨_,I2,s2.1.trans s1.1,fun b o q=>?_⟩
 by_cases z:b=e
 ·subst z;rw [g2] at q;rw [<- q];exact ke
 ·rw [s2.2 b z] at q
  by_cases z':b=it
  ·subst z';rw [g1] at q;rw [<- q];exact ki
  ·rw [s1.2 b z'] at q
   exact k b o z z' q
section
variable {X:Cx} {ts:List Expr} {n:Nat} {tp:Pos}
end
section
variable {X:Cx} {G:Ga} {M:MH} {ts:List Expr} {n:Nat} {tp pos:Pos} {e:Expr} {body:List Stmt} {E:EndsD}
end
section
variable {X:Cx} {G:Ga} {M:MH} {elt e:Expr} {ts ifs:List Expr} {n:Nat} {tp p ep:Pos} {scope:Scope} {pos:Pos} {Q:DK} {own:List Str} {js:List Nat} {N:List Str} {cl:List (Str × Addr)}
end
end D3
namespace D3
open PySem PySem.Spec PyProof.Rows L2
theorem IsL.erase {H:Hp}:∀ {ds:List D} {vs:List V} (k:Nat),IsL H ds vs->IsL H (ds.eraseIdx k) (vs.eraseIdx k)
 | [],vs,k,h=>by rw [isl_nil] at h;subst h;exact isl_nil.mpr rfl
 | d :: ds,vs,k,h=>by
  obtain ⟨x,r,rfl,h1,h2⟩:=isl_cons.mp h
  cases k with
  | zero=>exact h2
  | succ k=>exact isl_cons.mpr ⟨x,_,rfl,h1,IsL.erase k h2⟩
section
variable {X:Cx} {G:Ga} {M:MH} {o e:Expr} {Q:DK} {apos cpos pos:Pos}
theorem ev_popAt (h:EV X G M o fun d M1=>∃ p,d=.ref p/\(∃ ds,M1 p=some (.lst ds))/\EV X G M1 e fun d2 M2=>∃ ds,∃ (i:Int) (k:Nat) (x:D),d2=.int i/\M2 p=some (.lst ds)/\ds.length<=sizeLine/\ixN ds.length i=some k/\ds[k]?=some x/\Q x (mset M2 p (.lst (ds.eraseIdx k))))
  (hbase:attributeBase o "pop" X.env (eval o X.env)=eval o X.env)
  (hfew:((backTo cpos (starEach [e] X.env)).all (fun x=>!x.1) && (backToKw cpos (keywordEach [] X.env)).all (fun x=>x.1.isSome) && decide (([e] : List Expr).length+([] : List Keyword).length+(if ([] : List Keyword).isEmpty then 0 else 1) < 30))=true)
  (hline:(apos.endLine == cpos.line)=true) (hs:starEach [e] X.env=(false,eval e X.env) :: starEach [] X.env) (hplain:(backTo cpos (starEach ([] : List Expr) X.env)).any (·.1)=false) :
  EV X G M (.Call (.Attribute o "pop" apos) [e] [] cpos) Q:=by
 refine EV.of (pe_bm PySem.F.plainAttrs_list PySem.F.slot_list_pop PySem.F.type_list_pop mt_popAt (pe_D (G:=G)) (pa_D (G:=G) (es:=[e])) hbase hfew hline hs hplain) fun σ H kf R=>?_
 refine ⟨M,_,R,h,fun v H' d M' kf' g i R' q=>?_⟩
 obtain ⟨p,rfl,⟨ds,hds⟩,q⟩:=q
 rw [is_ref] at i;subst i
 obtain ⟨xs,hx,_⟩:=R'.mem p _ hds
 refine ⟨tyL hx,M',fun ds2 M2=>∃ d2,ds2=[d2]/\∃ ds,∃ (i:Int) (k:Nat) (x:D),d2=.int i/\M2 p=some (.lst ds)/\ds.length<=sizeLine/\ixN ds.length i=some k/\ds[k]?=some x/\Q x (mset M2 p (.lst (ds.eraseIdx k))),R',av_cons (q.mono fun d2 M2 q2=>av_nil ⟨d2,rfl,q2⟩) hs,fun vs H2 ds2 M2 kf2 g2 i2 R2 q2=>?_⟩
 obtain ⟨d2,rfl,ds,i,k,x,rfl,hp,hz,hk,hx',q2⟩:=q2
 obtain ⟨v2,rfl,hv2⟩:=isl1 i2
 rw [is_int] at hv2;subst hv2
 obtain ⟨xs,hx,hxi⟩:=R2.mem p _ hp
 have nt:∀ ys,H2 p≠some (.tup ys):=fun ys z=>by rw [hx] at z;cases z
 have gu:Grow H2 (upd H2 p (.lst (xs.eraseIdx k))):=grow_upd nt
 have hlen:=hxi.len
 obtain ⟨s1,s2,s3,s4⟩:=ixN_seq hk
 obtain ⟨y,hy,iy⟩:=hxi.get hx'
 have l63:=line63
 refine ⟨p,xs,i,k,y,rfl,rfl,hx,by omega,by omega,by rw [<- hlen];exact s1,hy,fun _=>⟨(g.trans g2).trans gu,x,_,Is.grow gu _ _ iy,R2.mem.put (u:=.lst (ds.eraseIdx k)) nt ⟨_,upd_same,(hxi.grow gu).erase k⟩,q2⟩⟩
theorem vals_get:∀ {xs:List V} {us:List Value},xs.length=us.length->(∀ (j:Nat) x u,xs[j]?=some x->us[j]?=some u->RelV x u)->Vals xs us
 | [],[],_,_=>.nil
 | [],_ :: _,h,_=>by cases h
 | _ :: _,[],h,_=>by cases h
 | x :: xs,u :: us,h,k=>.cons (k 0 x u rfl rfl) (vals_get (by simpa using h) fun j a b ha hb=>k (j+1) a b (by simpa using ha) (by simpa using hb))
abbrev chD (z:Str):List D:=z.cps.toList.map fun c=>D.str ⟨#[c]⟩
theorem isl_ch {H:Hp}:∀ cs:List Nat,IsL H (cs.map fun c=>D.str ⟨#[c]⟩) (cs.map fun c=>V.str ⟨#[c]⟩)
 | []=>isl_nil.mpr rfl
 | c :: r=>isl_cons.mpr ⟨_,_,rfl,is_str.mpr rfl,isl_ch r⟩
theorem call_listS (hc:X.calm=true):CallR X (.type "list") (fun xs H Q=>∃ z:Str,xs=[.str z]/\z.cps.size<=sizeLine/\∀ l,H l=none->Q (.ref l) (upd H l (.lst (z.cps.toList.map fun c=>V.str ⟨#[c]⟩)))):=by
 intro pins s σ H xs us Q I r h
 obtain ⟨z,rfl,hz,q⟩:=h
 obtain ⟨u,rfl,t,rfl⟩:=vals1 r
 refine call_list_str (I.ok.hd hc) z t (fun h' tk acc c' kp e hit=>?_) hz
 obtain ⟨h1,h2⟩:=hit
 refine ⟨.ref s.heap.objs.size,_,I.laid (t':=tk) kp (Nat.le_refl _) (show ObjOk X.prog X.w _ h' _ (.lst _) from ⟨?_,acc.toList,c',vals_get ?_ (fun j x u hx hu=>?_),by rw [Array.toArray_toList];exact e⟩),rfl,q _ (I.hok.fresh (Nat.le_refl _))⟩
 ·rw [List.length_map,Array.length_toList];exact hz
 ·rw [List.length_map,Array.length_toList,Array.length_toList,h1]
 ·obtain ⟨c,tk',hc',rfl⟩:=h2 j u (by rw [<- Array.getElem?_toList];exact hu)
  rw [List.getElem?_map,Array.getElem?_toList,hc'] at hx
  cases hx
  exact ⟨tk',rfl⟩
theorem ev_listS {p:Pos} (hm:X.mg "list" = none) (hc:X.calm=true) (h:AV X G M [e] fun ds M1=>∃ z:Str,ds=[.str z]/\z.cps.size<=sizeLine/\∀ r,M1 r=none->Q (.ref r) (mset M1 r (.lst (chD z)))) (hg:Gl X "list") (he:starEach [e] X.env=(false,eval e X.env) :: starEach [] X.env) (hpl:(backTo pos (starEach ([] : List Expr) X.env)).any (·.1)=false) :
  EV X G M (.Call (.Name "list" p) [e] [] pos) Q :=
 ev_callTy (call_listS hc) hm bootList (h.mono fun ds M1 ⟨z,e1,hz,q⟩=>fun H xs kf hx m=>by
  subst e1
  obtain ⟨v,rfl,hv⟩:=isl1 hx
  rw [is_str] at hv;subst hv
  exact ⟨z,rfl,hz,fun r hr kf'=>⟨grow_new hr,.ref r,_,is_ref.mpr rfl,m.lay (u:=.lst (chD z)) hr ⟨_,upd_same,isl_ch _⟩,q r (m.fresh hr kf')⟩⟩) hg (by decide) (by decide) he hpl
end
end D3
namespace D3
open PySem PySem.Spec PyProof.Rows L2
structure ZAp (z TI TO i1 i2:Addr) (f1 f2:List Addr):Prop where
 a1:TI≠z
 a2:TO≠z
 a3:i1≠z
 a4:i2≠z
 a5:TI≠TO
 a6:TO≠i1
 a7:TO≠i2
 a8:i1≠i2
 a9:TI≠i1
 a10:TI≠i2
 b1:z∉f1
 b2:TO∉f1
 b3:i2∉f1
 c1:z∉f2
 c2:TO∉f2
 c3:i1∉f2
section
variable {P:Program} {w:World} {B:Around} {Z:Value->Shared->Prop} {st:Shared} {z TI TO i1 i2:Addr} {f1 f2:List Addr} {n1 n2 k:Nat} {p1 p2:Nat->Value->Prop} {S1 S2:Nat->Heap->Prop} {a b:Value}
theorem zip_item {R:Value->Shared->Prop} (D1:Draws P w B i1 f1 n1 p1 S1) (D2:Draws P w B i2 f2 n2 p2 S2) (ap:ZAp z TI TO i1 i2 f1 f2) (hz:IsZip st.heap z TI TO .none) (hTI:IsPair st.heap TI (.ref i1) (.ref i2)) (hTO:IsPair st.heap TO a b)
  (s1:S1 k st.heap) (s2:S2 k st.heap) (l1:k < n1) (l2:k < n2)
  (q:∀ x y h' tk,p1 k x->p2 k y->IsZip h' z TI TO (rawInt st.heap.objs.size)->IsPair h' TO x y->S1 (k+1) h'->S2 (k+1) h'->IsPair h' st.heap.objs.size x y->h'.objs.size=st.heap.objs.size+1 ->
   (∀ c o,c≠z->c≠TO->c≠i1->c≠i2->st.heap.get? c=some o->h'.get? c=some o)->R (.ref st.heap.objs.size) { st with heap:=h',toks:=tk }) :
  wpAny (model P w) B (Builtin.«zip.__next__» ⟨[.ref z],[]⟩) (fun fin s'=>∃ v,fin=.done (.ret v)/\R v s') Z st:=by
 show wpAny _ _ (field (.ref z) 2 >>= _) _ _ st
 refine wpAny_bind (wpAny_field hz rfl (x:=.bool false) rfl (show wpAny _ _ (field (.ref z) 3 >>= _) _ _ st from ?_))
 refine wpAny_bind (wpAny_field hz rfl (x:=.ref TI) rfl (wpAny_bind (wpAny_seqItems hTI rfl ?_)))
 refine (show wpAny _ _ (Builtin.SmallTypes.ownedTupleIsFree (.ref z) >>= _) _ _ st from wpAny_bind ?_)
 unfold Builtin.SmallTypes.ownedTupleIsFree
 refine wpAny_bind (wpAny_field hz rfl (x:=.none) rfl (wpAny_pure ?_))
 simp only [if_true]
 refine wpAny_bind (wpAny_rule (wpAny_bind (wpAny_field hz rfl (x:=.ref TO) rfl ?_)))
 refine wpAny_bind (wpAny_setField_rec hz (by simp) fun g1 y1 e1=>?_)
 replace y1:IsZip g1 z TI TO .ellipsis:=y1
 refine wpAny_bind ?_
 simp only [List.zipIdx_cons,List.zipIdx_nil,List.forIn_cons,List.forIn_nil]
 refine wpAny_bind (wpAny_bind (wpAny_onRaise (show wpAny _ _ (Builtin.SmallTypes.nextOf (.ref i1) >>= _) _ _ _ from wpAny_bind ?_)))
 refine D1.item k _ _ _ l1 (D1.frame k _ _ s1 fun c hc o e=>e1.extBut _ _ (fun v=>ap.b1 (v ▸ hc)) e) fun x g2 t2 hx s1' e2=>wpAny_pure ?_
 have hTO2:IsPair g2 TO a b:=e2.extBut _ _ ap.a6 (e1.extBut _ _ ap.a2 hTO)
 refine wpAny_bind (wpAny_seqItems hTO2 rfl (wpAny_bind (wpAny_updateSeq_pair hTO2 fun g3 y3 e3=>?_)))
 replace y3:IsPair g3 TO x b:=y3
 refine wpAny_bind (wpAny_letGo (wpAny_pure (wpAny_bind (wpAny_bind (wpAny_onRaise (show wpAny _ _ (Builtin.SmallTypes.nextOf (.ref i2) >>= _) _ _ _ from wpAny_bind ?_))))))
 refine D2.item k _ _ _ l2 (D2.frame k _ _ s2 fun c hc o e=>e3.extBut _ _ (fun v=>ap.c2 (v ▸ hc)) (e2.extBut _ _ (fun v=>ap.c3 (v ▸ hc)) (e1.extBut _ _ (fun v=>ap.c1 (v ▸ hc)) e))) fun y g4 t4 hy s2' e4=>wpAny_pure ?_
 have hTO4:IsPair g4 TO x b:=e4.extBut _ _ ap.a7 y3
 refine wpAny_bind (wpAny_seqItems hTO4 rfl (wpAny_bind (wpAny_updateSeq_pair hTO4 fun g5 y5 e5=>?_)))
 replace y5:IsPair g5 TO x y:=y5
 refine wpAny_bind (wpAny_letGo (wpAny_pure (wpAny_pure (wpAny_bind (wpAny_seqItems y5 rfl (wpAny_bind (wpAny_newTuple ?_)))))))
 have sz:g5.objs.size=st.heap.objs.size:=by rw [e5.1,e4.1,e3.1,e2.1,e1.1]
 have z5:IsZip g5 z TI TO .ellipsis:=e5.extBut _ _ ap.a2.symm (e4.extBut _ _ ap.a4.symm (e3.extBut _ _ ap.a2.symm (e2.extBut _ _ ap.a3.symm y1)))
 have k5:∀ c o,c≠z->c≠TO->c≠i1->c≠i2->st.heap.get? c=some o->g5.get? c=some o:=fun c o v1 v2 v3 v4 e=>e5.extBut _ _ v2 (e4.extBut _ _ v4 (e3.extBut _ _ v2 (e2.extBut _ _ v3 (e1.extBut _ _ v1 e))))
 have s15:S1 (k+1) g5:=D1.frame _ _ _ s1' fun c hc o e=>e5.extBut _ _ (fun v=>ap.b2 (v ▸ hc)) (e4.extBut _ _ (fun v=>ap.b3 (v ▸ hc)) (e3.extBut _ _ (fun v=>ap.b2 (v ▸ hc)) e))
 have s25:S2 (k+1) g5:=D2.frame _ _ _ s2' fun c hc o e=>e5.extBut _ _ (fun v=>ap.c2 (v ▸ hc)) e
 have zl:z < g5.objs.size:=Heap.lt_size z5
 refine (show wpAny _ _ (Builtin.SmallTypes.ownedTupleHandOut (.ref z) (.ref g5.objs.size) >>= _) _ _ _ from wpAny_bind ?_)
 unfold Builtin.SmallTypes.ownedTupleHandOut
 have z6:IsZip (g5.push { cls:=.type "tuple",data:=.seq #[x,y] }) z TI TO .ellipsis:=Heap.get?_push_of_some _ z5
 refine wpAny_bind (wpAny_setField_rec z6 (by simp) fun g7 y7 e7=>?_)
 replace y7:IsZip g7 z TI TO (rawInt g5.objs.size):=y7
 refine wpAny_setField_rec y7 (by simp) fun g8 y8 e8=>?_
 replace y8:IsZip g8 z TI TO (rawInt g5.objs.size):=y8
 have up:∀ c o,c≠z->g5.get? c=some o->g8.get? c=some o:=fun c o v e=>e8.extBut _ _ v (e7.extBut _ _ v (Heap.get?_push_of_some _ e))
 have T8:IsPair g8 g5.objs.size x y:=e8.extBut _ _ (Nat.ne_of_gt zl) (e7.extBut _ _ (Nat.ne_of_gt zl) (Heap.get?_push_size _ rfl))
 have n8:g8.objs.size=g5.objs.size+1:=by rw [e8.1,e7.1,Heap.size_push]
 rw [sz] at y8 T8 n8
 refine wpAny_pure ⟨_,rfl,(show R (.ref g5.objs.size) _ from ?_)⟩
 rw [sz]
 exact q x y g8 _ hx hy y8 (up _ _ ap.a2 y5) (D1.frame _ _ _ s15 fun c hc o e=>up c o (fun v=>ap.b1 (v ▸ hc)) e) (D2.frame _ _ _ s25 fun c hc o e=>up c o (fun v=>ap.c1 (v ▸ hc)) e) T8 n8 fun c o v1 v2 v3 v4 e=>up c o v1 (k5 c o v1 v2 v3 v4 e)
theorem zip_out {Q:Fin->Shared->Prop} (D1:Draws P w B i1 f1 n1 p1 S1) (D2:Draws P w B i2 f2 n2 p2 S2) (ap:ZAp z TI TO i1 i2 f1 f2) (hz:IsZip st.heap z TI TO .none) (hTI:IsPair st.heap TI (.ref i1) (.ref i2)) (hTO:IsPair st.heap TO a b)
  (s1:S1 k st.heap) (s2:S2 k st.heap) (he:k=n1\/k < n1/\k=n2)
  (q:∀ h' tk e,(∀ c o,c≠z->c≠TO->c≠i1->c≠i2->st.heap.get? c=some o->h'.get? c=some o)->(∃ o,h'.get? e=some o/\o.cls=.type "StopIteration")->Z (.ref e) { st with heap:=h',toks:=tk }) :
  wpAny (model P w) B (Builtin.«zip.__next__» ⟨[.ref z],[]⟩) Q Z st:=by
 show wpAny _ _ (field (.ref z) 2 >>= _) _ _ st
 refine wpAny_bind (wpAny_field hz rfl (x:=.bool false) rfl (show wpAny _ _ (field (.ref z) 3 >>= _) _ _ st from ?_))
 refine wpAny_bind (wpAny_field hz rfl (x:=.ref TI) rfl (wpAny_bind (wpAny_seqItems hTI rfl ?_)))
 refine (show wpAny _ _ (Builtin.SmallTypes.ownedTupleIsFree (.ref z) >>= _) _ _ st from wpAny_bind ?_)
 unfold Builtin.SmallTypes.ownedTupleIsFree
 refine wpAny_bind (wpAny_field hz rfl (x:=.none) rfl (wpAny_pure ?_))
 simp only [if_true]
 refine wpAny_bind (wpAny_rule (wpAny_bind (wpAny_field hz rfl (x:=.ref TO) rfl ?_)))
 refine wpAny_bind (wpAny_setField_rec hz (by simp) fun g1 y1 e1=>?_)
 replace y1:IsZip g1 z TI TO .ellipsis:=y1
 refine wpAny_bind ?_
 simp only [List.zipIdx_cons,List.zipIdx_nil,List.forIn_cons,List.forIn_nil]
 refine wpAny_bind (wpAny_bind (wpAny_onRaise (show wpAny _ _ (Builtin.SmallTypes.nextOf (.ref i1) >>= _) _ _ _ from wpAny_bind ?_)))
 have s1g:S1 k g1:=D1.frame k _ _ s1 fun c hc o e=>e1.extBut _ _ (fun v=>ap.b1 (v ▸ hc)) e
 rcases he with e0 | ⟨l1,e0⟩
 ·rw [e0] at s1g
  refine D1.done _ _ _ s1g fun g2 e x2 hx=>?_
  obtain ⟨oe,h1,h2⟩:=hx
  have y2:IsZip g2 z TI TO .ellipsis:=x2 _ _ ap.a3.symm y1
  have ez:e≠z:=fun v=>by subst v;rw [y2] at h1;cases h1;simp at h2
  exact wpAny_setField_rec y2 (by simp) fun g3 _ e3=>q g3 _ e (fun c o v1 _ v3 _ x=>e3.extBut _ _ v1 (x2 _ _ v3 (e1.extBut _ _ v1 x))) ⟨oe,e3.extBut _ _ ez h1,h2⟩
 ·refine D1.item k _ _ _ l1 s1g fun x g2 t2 hx s1' e2=>wpAny_pure ?_
  have hTO2:IsPair g2 TO a b:=e2.extBut _ _ ap.a6 (e1.extBut _ _ ap.a2 hTO)
  refine wpAny_bind (wpAny_seqItems hTO2 rfl (wpAny_bind (wpAny_updateSeq_pair hTO2 fun g3 y3 e3=>?_)))
  refine wpAny_bind (wpAny_letGo (wpAny_pure (wpAny_bind (wpAny_bind (wpAny_onRaise (show wpAny _ _ (Builtin.SmallTypes.nextOf (.ref i2) >>= _) _ _ _ from wpAny_bind ?_))))))
  have s2g:S2 k g3:=D2.frame k _ _ s2 fun c hc o e=>e3.extBut _ _ (fun v=>ap.c2 (v ▸ hc)) (e2.extBut _ _ (fun v=>ap.c3 (v ▸ hc)) (e1.extBut _ _ (fun v=>ap.c1 (v ▸ hc)) e))
  rw [e0] at s2g
  refine D2.done _ _ _ s2g fun g4 e x4 hx=>?_
  obtain ⟨oe,h1,h2⟩:=hx
  have y4:IsZip g4 z TI TO .ellipsis:=x4 _ _ ap.a4.symm (e3.extBut _ _ ap.a2.symm (e2.extBut _ _ ap.a3.symm y1))
  have ez:e≠z:=fun v=>by subst v;rw [y4] at h1;cases h1;simp at h2
  exact wpAny_setField_rec y4 (by simp) fun g5 _ e5=>q g5 _ e (fun c o v1 v2 v3 v4 x=>e5.extBut _ _ v1 (x4 _ _ v4 (e3.extBut _ _ v2 (e2.extBut _ _ v3 (e1.extBut _ _ v1 x))))) ⟨oe,e5.extBut _ _ ez h1,h2⟩
theorem next_zip {R:Option Value->Shared->Prop} (D1:Draws P w B.in1 i1 f1 n1 p1 S1) (D2:Draws P w B.in1 i2 f2 n2 p2 S2) (ap:ZAp z TI TO i1 i2 f1 f2) (hz:IsZip st.heap z TI TO .none) (hTI:IsPair st.heap TI (.ref i1) (.ref i2)) (hTO:IsPair st.heap TO a b)
  (s1:S1 k st.heap) (s2:S2 k st.heap) (l1:k < n1) (l2:k < n2)
  (q:∀ x y h' tk,p1 k x->p2 k y->IsZip h' z TI TO (rawInt st.heap.objs.size)->IsPair h' TO x y->S1 (k+1) h'->S2 (k+1) h'->IsPair h' st.heap.objs.size x y->h'.objs.size=st.heap.objs.size+1 ->
   (∀ c o,c≠z->c≠TO->c≠i1->c≠i2->st.heap.get? c=some o->h'.get? c=some o)->R (some (.ref st.heap.objs.size)) { st with heap:=h',toks:=tk }):wpAny (model P w) B (pyNext (.ref z)) R Z st:=by
 have hT:st.TypeIs (.ref z) "zip" := ⟨_,hz,rfl⟩
 unfold pyNext
 refine wpAny_bind (wpAny_attempt (wpAny_callSpecial?_slot (name:=Str.ofString "__next__") hT F.slot_zip_next (wpAny_call_entry F.slot_zip_next hT F.entry_zip_next ?_ (F.args_zip_next_1 _))))
 exact zip_item D1 D2 ap hz hTI hTO s1 s2 l1 l2 fun x y h' tk v1 v2 v3 v4 v5 v6 v7 v8 v9=>wpAny_pure (q x y h' tk v1 v2 v3 v4 v5 v6 v7 v8 v9)
theorem last_zip {R:Option Value->Shared->Prop} (D1:Draws P w B.in1 i1 f1 n1 p1 S1) (D2:Draws P w B.in1 i2 f2 n2 p2 S2) (ap:ZAp z TI TO i1 i2 f1 f2) (hz:IsZip st.heap z TI TO .none) (hTI:IsPair st.heap TI (.ref i1) (.ref i2)) (hTO:IsPair st.heap TO a b)
  (s1:S1 k st.heap) (s2:S2 k st.heap) (he:k=n1\/k < n1/\k=n2) (q:∀ h' tk,(∀ c o,c≠z->c≠TO->c≠i1->c≠i2->st.heap.get? c=some o->h'.get? c=some o)->R none { st with heap:=h',toks:=tk }):wpAny (model P w) B (pyNext (.ref z)) R Z st:=by
 have hT:st.TypeIs (.ref z) "zip" := ⟨_,hz,rfl⟩
 unfold pyNext
 refine wpAny_bind (wpAny_attempt (wpAny_callSpecial?_slot (name:=Str.ofString "__next__") hT F.slot_zip_next (wpAny_call_entry F.slot_zip_next hT F.entry_zip_next ?_ (F.args_zip_next_1 _))))
 refine zip_out D1 D2 ap hz hTI hTO s1 s2 he fun h' tk e hk hx=>?_
 obtain ⟨o,ho,hc⟩:=hx
 exact wpAny_bind (wpAny_isInstance (T := "StopIteration") (b:=true) ⟨o,ho,hc⟩ isSubtype_stop (wpAny_pure (q _ _ hk)))
end
abbrev itL (l:Addr):Obj:={ cls:=.type "list_iterator",data:=.fields #[.ref l,.int 0 0] }
abbrev itT (l:Addr):Obj:={ cls:=.type "tuple_iterator",data:=.fields #[.ref l,.int 0 0] }
abbrev zA (h:Heap) (o1 o2:Obj):Heap:=(((h.push o1).push o2).push { cls:=.type "tuple",data:=.seq #[.ref h.objs.size,.ref (h.push o1).objs.size] }).push { cls:=.type "tuple",data:=.seq #[.none,.none] }
abbrev zB (h:Heap) (o1 o2:Obj):Heap:=(zA h o1 o2).push { cls:=.type "zip",data:=.fields #[.none,.bool false,.bool false,.ref ((h.push o1).push o2).objs.size,.ref (((h.push o1).push o2).push { cls:=.type "tuple",data:=.seq #[.ref h.objs.size,.ref (h.push o1).objs.size] }).objs.size] }
theorem new_zipLT (l1 l2:Addr) (xs ys:Array Value):Meets (Builtin.«zip.__new__» ⟨[.type "zip",.ref l1,.ref l2],[]⟩) (fun _ R st=>st.heap.IsList l1 xs/\st.heap.IsTuple l2 ys/\R (.ok (.ret (.ref (zA st.heap (itL l1) (itT l2)).objs.size))) { st with heap:=zB st.heap (itL l1) (itT l2) }) :=
 .of_wp fun P w B R st q=>by
  obtain ⟨hp,gs,dr,tk,os⟩:=st
  obtain ⟨h1,h2,q⟩:=q
  have sub:=sub_zip
  have H1:Heap.IsList (Shared.heap ⟨hp,gs,dr,tk,os⟩) l1 xs:=h1
  have H2:Heap.IsTuple (Shared.heap ⟨hp.push (itL l1),gs,dr,tk,os⟩) l2 ys:=let ⟨o,e,r⟩:=h2;⟨o,Heap.get?_push_of_some _ e,r⟩
  wp_walk using wpAny_pyIter_list H1,wpAny_pyIter_tuple H2
  exact ⟨_,rfl,q⟩
theorem new_zipTT (l1 l2:Addr) (xs ys:Array Value):Meets (Builtin.«zip.__new__» ⟨[.type "zip",.ref l1,.ref l2],[]⟩) (fun _ R st=>st.heap.IsTuple l1 xs/\st.heap.IsTuple l2 ys/\R (.ok (.ret (.ref (zA st.heap (itT l1) (itT l2)).objs.size))) { st with heap:=zB st.heap (itT l1) (itT l2) }) :=
 .of_wp fun P w B R st q=>by
  obtain ⟨hp,gs,dr,tk,os⟩:=st
  obtain ⟨h1,h2,q⟩:=q
  have sub:=sub_zip
  have H1:Heap.IsTuple (Shared.heap ⟨hp,gs,dr,tk,os⟩) l1 xs:=h1
  have H2:Heap.IsTuple (Shared.heap ⟨hp.push (itT l1),gs,dr,tk,os⟩) l2 ys:=let ⟨o,e,r⟩:=h2;⟨o,Heap.get?_push_of_some _ e,r⟩
  wp_walk using wpAny_pyIter_tuple H1,wpAny_pyIter_tuple H2
  exact ⟨_,rfl,q⟩
theorem made_zip {h:Heap} {o1 o2:Obj} (f1:o1.isFreed=false) (f2:o2.isFreed=false) :
  (zA h o1 o2).objs.size=h.objs.size+4/\IsZip (zB h o1 o2) (h.objs.size+4) (h.objs.size+2) (h.objs.size+3) .none/\IsPair (zB h o1 o2) (h.objs.size+2) (.ref h.objs.size) (.ref (h.objs.size+1))/\IsPair (zB h o1 o2) (h.objs.size+3) .none .none /\
   (zB h o1 o2).get? h.objs.size=some o1/\(zB h o1 o2).get? (h.objs.size+1)=some o2/\∀ c o,h.get? c=some o->(zB h o1 o2).get? c=some o:=by
 have z1:(h.push o1).objs.size=h.objs.size+1:=Heap.size_push ..
 have z2:((h.push o1).push o2).objs.size=h.objs.size+2:=by rw [Heap.size_push,z1]
 have z3:(((h.push o1).push o2).push { cls:=.type "tuple",data:=.seq #[.ref h.objs.size,.ref (h.push o1).objs.size] }).objs.size=h.objs.size+3:=by rw [Heap.size_push,z2]
 have z4:(zA h o1 o2).objs.size=h.objs.size+4:=by rw [Heap.size_push,z3]
 refine ⟨z4,?_,?_,?_,?_,?_,fun c o e=>?_⟩
 ·have g:=Heap.get?_push_size (zA h o1 o2) (o:={ cls:=.type "zip",data:=.fields #[.none,.bool false,.bool false,.ref ((h.push o1).push o2).objs.size,.ref (((h.push o1).push o2).push { cls:=.type "tuple",data:=.seq #[.ref h.objs.size,.ref (h.push o1).objs.size] }).objs.size] }) rfl
  rw [z4] at g
  show (zB h o1 o2).get? _=_
  rw [g,z2,z3]
 ·have g:=Heap.get?_push_size ((h.push o1).push o2) (o:={ cls:=.type "tuple",data:=.seq #[.ref h.objs.size,.ref (h.push o1).objs.size] }) rfl
  rw [z2] at g
  show (zB h o1 o2).get? _=_
  rw [Heap.get?_push_of_some _ (Heap.get?_push_of_some _ g),z1]
 ·have g:=Heap.get?_push_size (((h.push o1).push o2).push { cls:=.type "tuple",data:=.seq #[.ref h.objs.size,.ref (h.push o1).objs.size] }) (o:={ cls:=.type "tuple",data:=.seq #[.none,.none] }) rfl
  rw [z3] at g
  exact Heap.get?_push_of_some _ g
 ·exact Heap.get?_push_of_some _ (Heap.get?_push_of_some _ (Heap.get?_push_of_some _ (Heap.get?_push_of_some _ (Heap.get?_push_size _ f1))))
 ·have g:=Heap.get?_push_size (h.push o1) f2
  rw [z1] at g
  exact Heap.get?_push_of_some _ (Heap.get?_push_of_some _ (Heap.get?_push_of_some _ g))
 ·exact Heap.get?_push_of_some _ (Heap.get?_push_of_some _ (Heap.get?_push_of_some _ (Heap.get?_push_of_some _ (Heap.get?_push_of_some _ e))))
def SqB (K:PySem.W.Frag) (b:Bool) (H:Hp) (a:Addr) (xs:List V):Prop:=match b with
 | true=>SqT K H a xs
 | false=>SqL K H a xs
def ItB (b:Bool) (h:Heap) (i a:Addr) (k:Nat):Prop:=match b with
 | true=>h.IsTupleIter i a k
 | false=>h.IsListIter i a k
def HasB (b:Bool) (h:Heap) (a:Addr) (its:List Value):Prop:=match b with
 | true=>h.IsTuple a its.toArray
 | false=>h.IsList a its.toArray
theorem ItB.at {b:Bool} {h h':Heap} {i a:Addr} {k:Nat} (x:ItB b h i a k) (e:∀ o,h.get? i=some o->h'.get? i=some o):ItB b h' i a k:=by
 cases b with
 | true=>obtain ⟨o,h1,h2⟩:=x;exact ⟨o,e o h1,h2⟩
 | false=>obtain ⟨o,h1,h2⟩:=x;exact ⟨o,e o h1,h2⟩
theorem ItB.obj {b:Bool} {h:Heap} {i a:Addr} {k:Nat} (x:ItB b h i a k):∃ o,h.get? i=some o/\∀ v,o.data≠.cell v:=by
 cases b with
 | true=>obtain ⟨o,h1,_,h2⟩:=x;exact ⟨o,h1,fun v z=>by rw [h2] at z;cases z⟩
 | false=>obtain ⟨o,h1,_,h2⟩:=x;exact ⟨o,h1,fun v z=>by rw [h2] at z;cases z⟩
theorem draws_B {P:Program} {w:World} {B:Around} (calm:B.handled=none) (b:Bool) (i a:Addr) (far:a≠i) (its:List Value) :
  Draws P w B i [i,a] its.toArray.size (fun j v=>its.toArray[j]?=some v) (fun j h=>ItB b h i a j/\HasB b h a its):=by
 cases b with
 | true=>exact draws_tuple calm i a far its.toArray
 | false=>exact Draws.list calm i a far its.toArray
theorem sq_B {X:Cx} {pins:List (Addr × Obj)} {σ:St} {H:Hp} {s:Shared} {b:Bool} {a:Addr} {xs:List V} (I:L2.Inv X pins σ H s) (h:SqB X.K b H a xs):∃ its,Vals xs its/\HasB b s.heap a its/\a < s.heap.objs.size:=by
 cases b with
 | true =>
  obtain ⟨its,rv,p,hz⟩:=I.tuple h
  exact ⟨its,rv,p,by obtain ⟨o,z,_⟩:=id p;exact Heap.lt_size z⟩
 | false =>
  obtain ⟨its,rv,p,hz⟩:=I.list h
  exact ⟨its,rv,p.isList,by obtain ⟨o,z,_⟩:=p.isList;exact Heap.lt_size z⟩
theorem sq_inj {X:Cx} {pins:List (Addr × Obj)} {σ:St} {H:Hp} {s:Shared} {b:Bool} {a:Addr} {xs ys:List V} (I:L2.Inv X pins σ H s) (h:SqB X.K b H a xs) (h':SqB X.K b H a ys):xs=ys:=by
 cases b with
 | true=>exact I.tuple_inj h h'
 | false=>exact I.list_inj h h'
end D3
namespace D3
open PySem PySem.Spec PyProof.Rows L2
theorem turnedL {X:Cx} {pins:List (Addr × Obj)} {σ:St} {H:Hp} {g:Heap} {tk:Nat}:∀ (L:List Addr) {s:Shared},L2.Inv X pins σ H s->(∀ a∈L,FpOk X pins H a)->(∀ a∈L,∃ o,s.heap.get? a=some o)->(∀ a∈L,∃ o,g.get? a=some o)->(∀ b o,b∉L->s.heap.get? b=some o->g.get? b=some o) ->
  ∃ m:Heap,L2.Inv X pins σ H { s with heap:=m,toks:=tk }/\m.objs.size=s.heap.objs.size/\∀ b o,m.get? b=some o->g.get? b=some o
 | [],s,I,_,_,_,k=>⟨s.heap,I.tok tk,rfl,fun b o e=>k b o (by simp) e⟩
 | a :: L,s,I,fp,h0,h1,k=>by
  obtain ⟨oa,ha⟩:=h0 a (List.mem_cons_self ..)
  obtain ⟨ua,ka⟩:=h1 a (List.mem_cons_self ..)
  obtain ⟨a0,a1,a2,a3,a4,a5⟩:=fp a (List.mem_cons_self ..)
  have s1:Heap.SameBut a s.heap (s.heap.update a fun _=>ua):=Heap.SameBut.update ..
  have g1:(s.heap.update a fun _=>ua).get? a=some ua:=Heap.get?_update_self (fun _=>ua) ha (Heap.get?_some_iff.mp ka).2
  have I1:L2.Inv X pins σ H { s with heap:=s.heap.update a fun _=>ua }:=I.turned (t':=s.toks) (fun b o hb q=>(s1.2 b hb).trans q) a0 a1 a3 a4 a5
  obtain ⟨m,I2,sz,km⟩:=turnedL (tk:=tk) (g:=g) L I1 (fun c hc=>fp c (List.mem_cons_of_mem _ hc)) (fun c hc=>by
   by_cases z:c=a
   ·subst z;exact ⟨_,g1⟩
   ·obtain ⟨o,e⟩:=h0 c (List.mem_cons_of_mem _ hc)
    exact ⟨o,(s1.2 c z).trans e⟩) (fun c hc=>h1 c (List.mem_cons_of_mem _ hc)) (fun b o hb e=>by
   by_cases z:b=a
   ·subst z
    have e:(s.heap.update b fun _=>ua).get? b=some o:=e
    rw [g1] at e;cases e;exact ka
   ·exact k b o (fun y=>by rcases List.mem_cons.mp y with y | y;exact z y;exact hb y) ((s1.2 b z).symm.trans e))
  exact ⟨m,I2,sz.trans s1.1,km⟩
theorem turnedC {X:Cx} {pins:List (Addr × Obj)} {σ:St} {H:Hp} {s:Shared} {h':Heap} {t':Nat} {ch:List Addr} (I:L2.Inv X pins σ H s) (fp:∀ b∈ch,FpOk X pins H b) (k:∀ b o,b∉ch->s.heap.get? b=some o->h'.get? b=some o):L2.Inv X pins σ H { s with heap:=h',toks:=t' }:=by
 have nit:∀ b u,H b=some u->b∉ch:=fun b u e z=>by rw [(fp b z).1] at e;cases e
 refine I.step (g':=s.gens) (d':=s.drawn) (ch:=ch) (fun b hb=>?_) (fun b o _ _ hc e _=>k b o hc e) (fun b o _ _ hc e _=>⟨o.slots,k b o hc e⟩) (fun _ _ _ _ n=>n)
  (fun b o hc e=>⟨o,k b o hc e⟩) (fun _ _ e=>e) (fun _ _ _ e=>e) (fun b ps e=>⟨#[],by rw [e];simp⟩) (fun m hm=>?_) (fun b u e=>?_) I.bare
 ·obtain ⟨a0,a1,a2,a3,a4,a5⟩:=fp b hb
  exact ⟨a3,a1,a4,a5⟩
 ·obtain ⟨o,es,ep,h1,h2⟩:=hm
  exact ⟨o,es,ep,k _ _ (fun z=>(fp _ z).2.1 rfl) h1,h2⟩
 ·refine (I.hok b u e).stay (fun c v hc hv=>k c v (fun z=>?_) hv) (fun _ z=>z) (fun _ _ z=>z)
  rcases hc with rfl | hc
  ·exact nit _ _ e z
  ·exact nit _ _ hc z
def ItZ (K:PySem.W.Frag) (b1 b2:Bool) (a1 a2:Addr):It :=
 ⟨fun i H=>∃ xs ys x y,SqB K b1 H a1 xs/\SqB K b2 H a2 ys/\xs[i]?=some x/\ys[i]?=some y,
  fun i H v H'=>∃ T x y,v=.ref T/\H T=none/\H'=upd H T (.tup [x,y])/\(∀ xs,SqB K b1 H a1 xs->xs[i]?=some x)/\∀ ys,SqB K b2 H a2 ys->ys[i]?=some y,
  fun i H=>∃ xs ys,SqB K b1 H a1 xs/\SqB K b2 H a2 ys/\(i=xs.length\/i < xs.length/\i=ys.length)⟩
theorem turn_zip {P:Program} {w:World} {K:PySem.W.Frag} {ts:List Expr} {n:Nat} {pos:Pos} (b1 b2:Bool) {a1 a2 z TI TO i1 i2:Addr} (ap:ZAp z TI TO i1 i2 [i1,a1] [i2,a2]) (n1:a1≠i1) (n2:a2≠i2) :
  Turn P w K (.Tuple ts n pos) (ItZ K b1 b2 a1 a2) [z,TI,TO,i1,i2] z (fun i h=>IsZip h z TI TO .none/\IsPair h TI (.ref i1) (.ref i2)/\(∃ a b,IsPair h TO a b)/\ItB b1 h i1 a1 i/\ItB b2 h i2 a2 i) where
 mem:=by simp
 obj:=fun i h q b hb=>by
  obtain ⟨q1,q2,⟨x,y,q3⟩,q4,q5⟩:=q
  simp only [List.mem_cons,List.not_mem_nil,or_false] at hb
  rcases hb with rfl | rfl | rfl | rfl | rfl
  ·exact ⟨_,q1,fun v z=>by have z':Data.fields _=Data.cell v:=z;cases z'⟩
  ·exact ⟨_,q2,fun v z=>by have z':Data.seq _ _=Data.cell v:=z;cases z'⟩
  ·exact ⟨_,q3,fun v z=>by have z':Data.seq _ _=Data.cell v:=z;cases z'⟩
  ·exact q4.obj
  ·exact q5.obj
 keep:=fun i h h' q k=>by
  obtain ⟨q1,q2,⟨x,y,q3⟩,q4,q5⟩:=q
  exact ⟨k z (by simp) _ q1,k TI (by simp) _ q2,⟨x,y,k TO (by simp) _ q3⟩,q4.at fun o e=>k i1 (by simp) o e,q5.at fun o e=>k i2 (by simp) o e⟩
 item:=by
  intro X hP hw hK hc i pins s σ H E I hf q hg
  subst hP hw hK
  obtain ⟨xs,ys,x,y,hq1,hq2,hx,hy⟩:=hg
  obtain ⟨its1,rv1,p1,_⟩:=sq_B I hq1
  obtain ⟨its2,rv2,p2,_⟩:=sq_B I hq2
  obtain ⟨u1,hu1,ru1⟩:=rv1.get hx
  obtain ⟨u2,hu2,ru2⟩:=rv2.get hy
  obtain ⟨q1,q2,⟨x0,y0,q3⟩,q4,q5⟩:=q
  have lt1:i < its1.toArray.size:=by have:=(List.getElem?_eq_some_iff.mp hu1).1;simpa using this
  have lt2:i < its2.toArray.size:=by have:=(List.getElem?_eq_some_iff.mp hu2).1;simpa using this
  refine next_zip (draws_B (B:=X.A.in1) (I.ok.hd hc) b1 i1 a1 n1 its1) (draws_B (B:=X.A.in1) (I.ok.hd hc) b2 i2 a2 n2 its2) ap q1 q2 q3 ⟨q4,p1⟩ ⟨q5,p2⟩ lt1 lt2 fun v1 v2 g tk hv1 hv2 r1 r2 r3 r4 r5 r6 r7=>?_
  have ev1:v1=u1:=by
   have h1:its1[i]?=some v1:=by simpa using hv1
   rw [hu1] at h1;exact (Option.some.inj h1).symm
  have ev2:v2=u2:=by
   have h1:its2[i]?=some v2:=by simpa using hv2
   rw [hu2] at h1;exact (Option.some.inj h1).symm
  subst ev1;subst ev2
  refine ⟨_,rfl,wpAny_letOwnedTupleGo_zip r1 fun g' s1 s2=>?_⟩
  have s2':∀ b,b≠z->g'.get? b=g.get? b:=s2.2
  have old:∀ b o,s.heap.get? b=some o->b≠s.heap.objs.size:=fun b o e=>Nat.ne_of_lt (Heap.lt_size e)
  obtain ⟨o1,z1,_⟩:=q4.obj
  obtain ⟨o2,z2,_⟩:=q5.obj
  obtain ⟨w1,y1,_⟩:=r3.1.obj
  obtain ⟨w2,y2,_⟩:=r4.1.obj
  obtain ⟨m,I1,sz,km⟩:=turnedL (tk:=tk) (g:=g') [z,TO,i1,i2] I (fun c hc=>hf c (by simp only [List.mem_cons,List.not_mem_nil,or_false] at hc ⊢;rcases hc with h | h | h | h<;>simp [h])) (fun c hc=>by
    simp only [List.mem_cons,List.not_mem_nil,or_false] at hc
    rcases hc with rfl | rfl | rfl | rfl
    ·exact ⟨_,q1⟩
    ·exact ⟨_,q3⟩
    ·exact ⟨_,z1⟩
    ·exact ⟨_,z2⟩) (fun c hc=>by
    simp only [List.mem_cons,List.not_mem_nil,or_false] at hc
    rcases hc with rfl | rfl | rfl | rfl
    ·exact ⟨_,s1⟩
    ·exact ⟨_,(s2' _ ap.a2).trans r2⟩
    ·exact ⟨_,(s2' _ ap.a3).trans y1⟩
    ·exact ⟨_,(s2' _ ap.a4).trans y2⟩) (fun b o hb e=>by
    simp only [List.mem_cons,List.not_mem_nil,or_false,not_or] at hb
    exact (s2' b hb.1).trans (r7 b o hb.1 hb.2.1 hb.2.2.1 hb.2.2.2 e))
  have fr:H s.heap.objs.size=none:=I.hok.fresh (Nat.le_refl _)
  have hzs:s.heap.objs.size≠z:=(old _ _ q1).symm
  refine ⟨.ref s.heap.objs.size,upd H s.heap.objs.size (.tup [x,y]),I1.laid (t':=tk) (o:=.tup [x,y]) km (Nat.le_of_eq sz) ⟨⟨show 2<=sizeLine by decide,_,(s2' _ hzs).trans r5,rfl⟩,[v1,v2],.cons ru1 (.cons ru2 .nil),⟨_,(s2' _ hzs).trans r5,rfl,_,rfl⟩⟩,rfl,
   ⟨_,x,y,rfl,fr,rfl,fun zs hz=>by rw [sq_inj I hz hq1];exact hx,fun zs hz=>by rw [sq_inj I hz hq2];exact hy⟩,⟨s1,?_,⟨_,_,(s2' _ ap.a2).trans r2⟩,r3.1.at fun o e=>(s2' _ ap.a3).trans e,r4.1.at fun o e=>(s2' _ ap.a4).trans e⟩,fun b hb=>?_⟩
  ·exact (s2' _ ap.a1).trans (r7 _ _ ap.a1 ap.a5 ap.a9 ap.a10 q2)
  ·have hbo:∃ o,s.heap.get? b=some o:=by
    simp only [List.mem_cons,List.not_mem_nil,or_false] at hb
    rcases hb with rfl | rfl | rfl | rfl | rfl
    ·exact ⟨_,q1⟩
    ·exact ⟨_,q2⟩
    ·exact ⟨_,q3⟩
    ·exact ⟨_,z1⟩
    ·exact ⟨_,z2⟩
   obtain ⟨o,e⟩:=hbo
   rw [upd_ne (old _ _ e)];exact (hf b hb).1
 done:=by
  intro X hP hw hK hc i pins s σ H E I hf q hg
  subst hP hw hK
  obtain ⟨xs,ys,hq1,hq2,he⟩:=hg
  obtain ⟨its1,rv1,p1,_⟩:=sq_B I hq1
  obtain ⟨its2,rv2,p2,_⟩:=sq_B I hq2
  obtain ⟨q1,q2,⟨x0,y0,q3⟩,q4,q5⟩:=q
  have l1:=rv1.length
  have l2:=rv2.length
  refine last_zip (k:=i) (draws_B (B:=X.A.in1) (I.ok.hd hc) b1 i1 a1 n1 its1) (draws_B (B:=X.A.in1) (I.ok.hd hc) b2 i2 a2 n2 its2) ap q1 q2 q3 ⟨q4,p1⟩ ⟨q5,p2⟩ (by rw [List.size_toArray,List.size_toArray];omega) fun g tk k=>⟨rfl,?_⟩
  refine turnedC (ch:=[z,TO,i1,i2]) I (fun c hc=>hf c (by simp only [List.mem_cons,List.not_mem_nil,or_false] at hc ⊢;rcases hc with h | h | h | h<;>simp [h])) fun b o hb e=>?_
  simp only [List.mem_cons,List.not_mem_nil,or_false,not_or] at hb
  exact k b o hb.1 hb.2.1 hb.2.2.1 hb.2.2.2 e
 self:=fun _ _ _ _ _ q h=>wpAny_pyIter_zip q.1 h
theorem ne_a {x y:Nat} (h:x < y\/y < x):(x:Addr)≠y:=fun e=>by
 have e:x=y:=e
 omega
theorem nin_a {x y u:Nat} (h:x≠y) (h':x≠u):(x:Addr)∉([y,u] : List Addr):=fun e=>by
 rcases List.mem_cons.mp e with e | e
 ·exact h e
 ·exact h' (List.mem_singleton.mp e)
theorem zap (m a1 a2:Nat) (h1:a1 < m) (h2:a2 < m):ZAp (m+4) (m+2) (m+3) m (m+1) [m,a1] [m+1,a2] :=
 ⟨ne_a (by omega),ne_a (by omega),ne_a (by omega),ne_a (by omega),ne_a (by omega),ne_a (by omega),ne_a (by omega),ne_a (by omega),ne_a (by omega),ne_a (by omega),nin_a (by omega) (by omega),nin_a (by omega) (by omega),nin_a (by omega) (by omega),nin_a (by omega) (by omega),nin_a (by omega) (by omega),nin_a (by omega) (by omega)⟩
section
variable {X:Cx} {ts:List Expr} {n:Nat} {tp:Pos}
def iZip (K:PySem.W.Frag) (b:Bool) (ta:TA):TI:=fun σ H R=>ta σ H fun vs H1=>∃ a1 a2,vs=[.ref a1,.ref a2]/\(∃ xs,SqB K b H1 a1 xs)/\(∃ ys,SqB K true H1 a2 ys)/\R (ItZ K b true a1 a2) H1
theorem boot_zip':bootBuiltins "zip" = some (.type "zip"):=by decide +kernel
theorem pi_zip {b:Bool} {e1 e2:Expr} {ta:TA} {p pos:Pos} (hg:Gl X "zip") (hm:X.mg "zip" = none) (ha:PA X [e1,e2] ta) (hs:starEach [e1,e2] X.env=(false,eval e1 X.env) :: starEach [e2] X.env) (hp:(backTo pos (starEach [e2] X.env)).any (·.1)=false):PI X (.Tuple ts n tp) (.Call (.Name "zip" p) [e1,e2] [] pos) (iZip X.K b ta):=by
 intro pins s σ H R I h
 refine Call_ (ld_blt I hg hm boot_zip' (PyProof.Rows.callWith_type1 (thn (ha pos pins s σ H _ I h) fun us s1 ⟨vs,H1,I1,r1,q1⟩=>?_) hs hp))
 obtain ⟨a1,a2,e,⟨xs,hq1⟩,⟨ys,hq2⟩,q⟩:=q1
 subst e
 obtain ⟨u1,u2,rfl,c1,c2⟩:=vals2 r1
 obtain rfl:u1=Value.ref a1:=c1
 obtain rfl:u2=Value.ref a2:=c2
 obtain ⟨its1,rv1,p1,lt1⟩:=sq_B I1 hq1
 obtain ⟨its2,rv2,p2,lt2⟩:=sq_B I1 hq2
 have key:∀ o1 o2:Obj,o1.isFreed=false->o2.isFreed=false->ItB b (zB s1.heap o1 o2) s1.heap.objs.size a1 0->ItB true (zB s1.heap o1 o2) (s1.heap.objs.size+1) a2 0->wpAny (model X.prog X.w) X.A (pyIter (.ref (zA s1.heap o1 o2).objs.size)) (PIE X pins σ (.Tuple ts n tp) R) X.xe { s1 with heap:=zB s1.heap o1 o2 }:=by
  intro o1 o2 f1 f2 i1 i2
  obtain ⟨z4,hz,hTI,hTO,g1,g2,kp⟩:=made_zip (h:=s1.heap) f1 f2
  rw [z4]
  refine wpAny_pyIter_zip hz ?_
  have ap:=zap s1.heap.objs.size a1 a2 lt1 lt2
  refine ⟨s1.heap.objs.size+4,[s1.heap.objs.size+4,s1.heap.objs.size+2,s1.heap.objs.size+3,s1.heap.objs.size,s1.heap.objs.size+1],_,_,H1,rfl,I1.kept (t':=s1.toks) kp,turn_zip b true ap (Nat.ne_of_lt lt1) (Nat.ne_of_lt (Nat.lt_succ_of_lt lt2)),⟨hz,hTI,⟨_,_,hTO⟩,i1,i2⟩,fun c hc=>?_,q⟩
  have:s1.heap.objs.size<=c:=by
   simp only [List.mem_cons,List.not_mem_nil,or_false] at hc
   rcases hc with h | h | h | h | h<;>rw [h]
   ·exact Nat.le_add_right _ _
   ·exact Nat.le_add_right _ _
   ·exact Nat.le_add_right _ _
   ·exact Nat.le_refl _
   ·exact Nat.le_add_right _ _
  exact I1.fpOk this (I1.hok.fresh this)
 cases b with
 | true =>
  refine callType_new F.called_zip (by decide) (F.typeCall_zip_2 _ _) (F.newCall_zip_2 _ _) (fun o=>F.args_object_init_3 o _ _) F.entry_zip_new (new_zipTT a1 a2 its1.toArray its2.toArray) ⟨p1,p2,?_⟩
  obtain ⟨z4,hz,hTI,hTO,g1,g2,kp⟩:=made_zip (h:=s1.heap) (o1:=itT a1) (o2:=itT a2) rfl rfl
  refine ⟨⟨_,by rw [z4];exact hz,rfl⟩,key (itT a1) (itT a2) rfl rfl ⟨_,g1,rfl,rfl⟩ ⟨_,g2,rfl,rfl⟩⟩
 | false =>
  refine callType_new F.called_zip (by decide) (F.typeCall_zip_2 _ _) (F.newCall_zip_2 _ _) (fun o=>F.args_object_init_3 o _ _) F.entry_zip_new (new_zipLT a1 a2 its1.toArray its2.toArray) ⟨p1,p2,?_⟩
  obtain ⟨z4,hz,hTI,hTO,g1,g2,kp⟩:=made_zip (h:=s1.heap) (o1:=itL a1) (o2:=itT a2) rfl rfl
  refine ⟨⟨_,by rw [z4];exact hz,rfl⟩,key (itL a1) (itT a2) rfl rfl ⟨_,g1,rfl,rfl⟩ ⟨_,g2,rfl,rfl⟩⟩
end
end D3
namespace D3
open PySem PySem.Spec PyProof.Rows L2
def SqD (d:D) (M:MH) (ds:List D) (b:Bool):Prop:=match b with
 | true=>d=.tup ds
 | false=>∃ l,d=.ref l/\M l=some (.lst ds)
theorem sqd_of {K:PySem.W.Frag} {H:Hp} {M:MH} {d:D} {v:V} {ds:List D} {b:Bool} (i:Is H d v) (m:MemOk K M H) (h:SqD d M ds b):∃ a xs,v=.ref a/\SqB K b H a xs/\IsL H ds xs:=by
 cases b with
 | true =>
  have h:d=.tup ds:=h
  subst h
  rw [is_tup] at i
  obtain ⟨a,xs,rfl,h1,h2⟩:=i
  exact ⟨a,xs,rfl,SqT.of h1,h2⟩
 | false =>
  obtain ⟨l,rfl,e⟩:=h
  rw [is_ref] at i;subst i
  obtain ⟨xs,h1,h2⟩:=m l _ e
  exact ⟨l,xs,rfl,SqL.of h1,h2⟩
def twos (ds es:List D):List D:=List.zipWith (fun a b=>.tup [a,b]) ds es
theorem twos_len (ds es:List D):(twos ds es).length=min ds.length es.length:=List.length_zipWith
theorem twos_get {ds es:List D} {i:Nat} {x y:D} (hx:ds[i]?=some x) (hy:es[i]?=some y):(twos ds es)[i]?=some (.tup [x,y]):=by
 unfold twos
 rw [List.getElem?_zipWith,hx,hy]
section
variable {X:Cx} {G:Ga} {M:MH} {ts:List Expr} {n:Nat} {tp pos:Pos} {e1 e2:Expr} {body:List Stmt} {E:EndsD}
theorem ex_for_zip {p:Pos} (b:Bool) (hp:PassesOwn (model X.prog X.w) X.A X.env X.xe) (hc:X.calm=true) (hm:X.mg "zip" = none)
  (h:AV X G M [e1,e2] fun vs M1=>∃ (d1:D) (ds es:List D) (Iv:Nat->Ga->MH->Prop),vs=[d1,.tup es]/\SqD d1 M1 ds b/\Iv 0 G M1/\(∀ i G' M',i<=min ds.length es.length->Iv i G' M'->SqD d1 M' ds b) /\
   (∀ (i:Nat) x y G' M',ds[i]?=some x->es[i]?=some y->Iv i G' M'->GV X G' M' (.Tuple ts n tp) (.tup [x,y]) fun G3 M3=>EXs X G3 M3 body { nx:=Iv (i+1),ct:=Iv (i+1),bk:=E.nx,rt:=E.rt })/\(∀ G' M',Iv (min ds.length es.length) G' M'->E.nx G' M'))
  (hg:Gl X "zip") (hse:starEach [e1,e2] X.env=(false,eval e1 X.env) :: starEach [e2] X.env) (hpl:(backTo pos (starEach [e2] X.env)).any (·.1)=false) (hs:∀ x,foldedSetIterable (.Call (.Name "zip" p) [e1,e2] [] pos) X.env x=pure x) {pos':Pos}:EX X G M (.For (.Tuple ts n tp) (.Call (.Name "zip" p) [e1,e2] [] pos) body [] pos') E:=by
 refine ex_for hp hc (pi_zip (b:=b) hg hm (pa_D (G:=G)) hse hpl) (fun σ H kf R=>?_) hs
 refine ⟨M,_,R,h,fun vs H' es' M' kf' g i R' q=>?_⟩
 obtain ⟨d1,ds,es,Iv,e,hsq,h0,keep,step,fin⟩:=q
 subst e
 obtain ⟨v1,v2,rfl,hv1,hv2⟩:=isl2 i
 obtain ⟨a1,xs,rfl,hx,hxi⟩:=sqd_of hv1 R'.mem hsq
 obtain ⟨a2,ys,rfl,hy,hyi⟩:=sqd_of (b:=true) (M:=M') hv2 R'.mem rfl
 refine ⟨a1,a2,rfl,⟨xs,hx⟩,⟨ys,hy⟩,g,M',min ds.length es.length,Iv,R',h0,fun i G2 M2 hin w2=>⟨fun e=>fin G2 M2 (by rw [<- e];exact w2),fun σ2 H2 g2 R2=>?_⟩⟩
 obtain ⟨b1,xs2,eb1,hx2,hxi2⟩:=sqd_of (Is.grow g2 _ _ hv1) R2.mem (keep i G2 M2 hin w2)
 cases eb1
 obtain ⟨b2,ys2,eb2,hy2,hyi2⟩:=sqd_of (b:=true) (M:=M2) (Is.grow g2 _ _ hv2) R2.mem rfl
 cases eb2
 have l1:=hxi2.len
 have l2:=hyi2.len
 refine ⟨fun e=>⟨xs2,ys2,hx2,hy2,by omega⟩,fun hlt=>⟨⟨xs2,ys2,xs2[i]'(by omega),ys2[i]'(by omega),hx2,hy2,by simp,by simp⟩,fun x H3 y=>?_⟩⟩
 obtain ⟨T,x1,y1,e1,e2,e3,e4,e5⟩:=y
 subst e1;subst e3
 obtain ⟨dx,f1,j1⟩:=hxi2.get' (e4 xs2 hx2)
 obtain ⟨dy,f2,j2⟩:=hyi2.get' (e5 ys2 hy2)
 have gr:=grow_new (o:=.tup [x1,y1]) e2
 exact ⟨gr,.tup [dx,dy],M2,is_tup.mpr ⟨T,_,rfl,upd_same,isl_cons.mpr ⟨_,_,rfl,j1.grow gr,isl_cons.mpr ⟨_,_,rfl,j2.grow gr,isl_nil.mpr rfl⟩⟩⟩,R2.mem.new e2,step i dx dy G2 M2 f1 f2 w2⟩
end
section
variable {X:Cx} {G:Ga} {M:MH} {elt e1 e2:Expr} {ts ifs:List Expr} {n:Nat} {tp p ep:Pos} {scope:Scope} {pos:Pos} {Q:DK} {own:List Str} {js:List Nat} {N:List Str} {cl:List (Str × Addr)}
theorem ev_comp_zip (b:Bool) (T:CompOk X own js N scope cl) (hxe:X.xe=fun _ _=>False) (hc:X.calm=true) (hm:X.mg "zip" = none) (f:D->D) (pr:D->Bool)
  (h:AV X G M [e1,e2] fun vs M1=>∃ (d1:D) (ds es:List D),vs=[d1,.tup es]/\SqD d1 M1 ds b/\ds.length<=sizeLine /\
   (∀ Y:Cx,(∃ C s H fp,Y=compCx X N scope cl C s H fp)->∀ M',Ext M1 M'->∀ d∈twos ds es,GV Y (compG own js G) M' (.Tuple ts n tp) d fun G3 M3=>M3=M'/\Sub (compG own js G) G3/\TVs Y G3 M' ifs (fun k M4=>M4=M'/\k=pr d)/\(pr d=true->EV Y G3 M' elt fun o M4=>M4=M'/\o=f d)) /\
   ∀ q,M1 q=none->Q (.ref q) (mset M1 q (.lst (((twos ds es).filter pr).map f))))
  (hg:Gl X "zip") (hse:starEach [e1,e2] X.env=(false,eval e1 X.env) :: starEach [e2] X.env) (hpl:(backTo ep (starEach [e2] X.env)).any (·.1)=false) (hs:∀ x,foldedSetIterable (.Call (.Name "zip" p) [e1,e2] [] ep) X.env x=pure x):EV X G M (.ListComp elt [⟨.Tuple ts n tp,.Call (.Name "zip" p) [e1,e2] [] ep,ifs,0⟩] scope pos) Q:=by
 refine ev_comp T hxe hc (pi_zip (b:=b) hg hm (pa_D (G:=G)) hse hpl) f pr (fun σ H kf R=>?_) hs
 refine ⟨M,_,R,h,fun vs H' es' M' kf' g i R' q=>?_⟩
 obtain ⟨d1,ds,es,e,hsq,hz,block,fin⟩:=q
 subst e
 obtain ⟨v1,v2,rfl,hv1,hv2⟩:=isl2 i
 obtain ⟨a1,xs,rfl,hx,hxi⟩:=sqd_of hv1 R'.mem hsq
 obtain ⟨a2,ys,rfl,hy,hyi⟩:=sqd_of (b:=true) (M:=M') hv2 R'.mem rfl
 have hnl:=twos_len ds es
 refine ⟨a1,a2,rfl,⟨xs,hx⟩,⟨ys,hy⟩,g,M',twos ds es,R',fun H2 g2 m2=>?_,by omega,block,fin⟩
 obtain ⟨b1,xs2,eb1,hx2,hxi2⟩:=sqd_of (Is.grow g2 _ _ hv1) m2 hsq
 cases eb1
 obtain ⟨b2,ys2,eb2,hy2,hyi2⟩:=sqd_of (b:=true) (M:=M') (Is.grow g2 _ _ hv2) m2 rfl
 cases eb2
 have l1:=hxi2.len
 have l2:=hyi2.len
 refine ⟨fun i e=>⟨xs2,ys2,hx2,hy2,by omega⟩,fun i hlt=>⟨⟨xs2,ys2,xs2[i]'(by omega),ys2[i]'(by omega),hx2,hy2,by simp,by simp⟩,fun x H3 y=>?_⟩⟩
 obtain ⟨T,x1,y1,e1,e2,e3,e4,e5⟩:=y
 subst e1;subst e3
 obtain ⟨dx,f1,j1⟩:=hxi2.get' (e4 xs2 hx2)
 obtain ⟨dy,f2,j2⟩:=hyi2.get' (e5 ys2 hy2)
 have gr:=grow_new (o:=.tup [x1,y1]) e2
 exact ⟨gr,fun b o w=>by rw [upd_ne (fun w'=>by rw [w',e2] at w;cases w)];exact w,m2.new e2,_,twos_get f1 f2,is_tup.mpr ⟨T,_,rfl,upd_same,isl_cons.mpr ⟨_,_,rfl,j1.grow gr,isl_cons.mpr ⟨_,_,rfl,j2.grow gr,isl_nil.mpr rfl⟩⟩⟩⟩
end
end D3
namespace D3
open PySem PySem.Spec PyProof.Rows L2
section
variable {X:Cx} {G:Ga} {M:MH} {a b:Expr} {pos:Pos} {Q:DK}
end
end D3
namespace D3
open PySem PySem.Spec PyProof.Rows L2
section
variable {X:Cx} {G:Ga} {M:MH} {a b e:Expr} {pos:Pos} {Q:DK} {Qb:Bool->MH->Prop} {pins:List (Addr × Obj)} {σ:St} {H:Hp} {s:Shared}
theorem reads_lst (I:L2.Inv X pins σ H s) (m:MemOk X.K M H) {l:Addr} {ds:List D} (h:M l=some (.lst ds)) (hi:immL ds=true):∃ as,Reads s.heap (.ref l) (.list (pdL ds)) as:=by
 obtain ⟨xs,e1,e2⟩:=m l _ h
 obtain ⟨z,its,n,rv,hl,eo⟩:=I.lstM e1
 obtain ⟨as,q⟩:=readsAll_of I ds xs its e2 rv hi
 exact ⟨_,.list eo rfl rfl (by simpa using q)⟩
def EqX (da db:D) (M:MH) (Qb:Bool->MH->Prop):Prop:=match da,db with
 | .ref l,.ref k=>∃ xs ys,M l=some (.lst xs)/\M k=some (.lst ys)/\immL xs=true/\immL ys=true/\PyData.depthAll (pdL xs)<=59/\Qb (PyData.eqvAll (pdL xs) (pdL ys)) M
 | _,_=>EqL da db M Qb
theorem eqx_l {l k:Addr} {xs ys:List D} (h1:M l=some (.lst xs)) (h2:M k=some (.lst ys)) (i1:immL xs=true) (i2:immL ys=true) (hd:PyData.depthAll (pdL xs)<=59) (q:Qb (PyData.eqvAll (pdL xs) (pdL ys)) M):EqX (.ref l) (.ref k) M Qb:=⟨xs,ys,h1,h2,i1,i2,hd,q⟩
theorem eqvAll_refl {xs:List D} (h:immL xs=true):PyData.eqvAll (pdL xs) (pdL xs)=true:=by
 have:=PySem.SeqAt.eqv_refl (pd (.tup xs)) (canLay_imm _ (by simp only [imm];exact h))
 simp only [pd,PyData.eqv] at this
 exact this
theorem eqx_same {l k:Addr} {xs:List D} (h1:M l=some (.lst xs)) (h2:M k=some (.lst xs)) (i1:immL xs=true) (hd:PyData.depthAll (pdL xs)<=59) (q:Qb true M):EqX (.ref l) (.ref k) M Qb :=
 eqx_l h1 h2 i1 i1 hd (by rw [eqvAll_refl i1];exact q)
theorem eqX_run {neg:Bool} {op:CmpOp} (ho:op=if neg then .NotEq else .Eq) (hu:X.A.units+64 < cLine) {da db:D} {x y:V} {v u:Value} (I:L2.Inv X pins σ H s) (R:Rel X G M σ H) (i1:Is H da x) (i2:Is H db y) (r1:RelV x v) (r2:RelV y u)
  (h:EqX da db M fun k M'=>Q (.bl (if neg then !k else k)) M'):wpAny (model X.prog X.w) X.A (compareOp op v u) (EPD X pins σ G H Q) X.xe s:=by
 unfold EqX at h
 split at h
 ·rename_i l k
  obtain ⟨xs,ys,h1,h2,m1,m2,hd,q⟩:=h
  rw [is_ref] at i1 i2;subst i1;subst i2
  cases r1;cases r2
  obtain ⟨as,ra⟩:=reads_lst I R.mem h1 m1
  obtain ⟨bs,rb⟩:=reads_lst I R.mem h2 m2
  have c1:(PyData.list (pdL xs)).canLay0=true:=by simp only [PyData.canLay0];exact canLayL_imm xs m1
  have c2:(PyData.list (pdL ys)).canLay0=true:=by simp only [PyData.canLay0];exact canLayL_imm ys m2
  have hdp:(PyData.list (pdL xs)).depth<=60:=by simp only [PyData.depth];omega
  have hmin:min (PyData.list (pdL xs)).depth (PyData.list (pdL ys)).depth<=(PyData.list (pdL xs)).depth:=Nat.min_le_left _ _
  have ee:PyData.eqv (.list (pdL xs)) (.list (pdL ys))=PyData.eqvAll (pdL xs) (pdL ys):=by simp only [PyData.eqv]
  subst ho
  cases neg with
  | false=>exact PySem.SeqAt.compareEq_reads ra rb c1 c2 (by omega) ⟨.bl _,H,.bl _,M,I,rfl,Grow.refl _,is_bl.mpr rfl,R,by rw [ee];exact q⟩
  | true=>exact PySem.SeqAt.compareNe_reads ra rb c1 c2 (by omega) ⟨.bl _,H,.bl _,M,I,rfl,Grow.refl _,is_bl.mpr rfl,R,by rw [ee];exact q⟩
 ·exact eqL_run ho hu I R i1 i2 r1 r2 h
theorem EqX.to {da db:D} (h:EqX da db M Qb) {Qc:Bool->MH->Prop} (k:∀ b M',Qb b M'->Qc b M'):EqX da db M Qc:=by
 unfold EqX at h ⊢
 split at h
 ·obtain ⟨xs,ys,h1,h2,m1,m2,hd,q⟩:=h
  exact ⟨xs,ys,h1,h2,m1,m2,hd,k _ _ q⟩
 ·exact ⟨h.1,k _ _ h.2⟩
theorem lxt_ne (hu:X.A.units+64 < cLine) (h:EV X G M a fun da Ma=>EV X G Ma b fun db Mb=>EqX da db Mb fun k M'=>Qb (!k) M'):TV X G M (.Compare a [.NotEq] [b] pos) Qb:=by
 refine tv_cval (nomark _) fun pins s σ H I R=>?_
 refine thn (h pins s σ H I R) fun v s1 ⟨x,H1,da,Ma,I1,r1,g1,i1,R1,q1⟩=>?_
 refine thn (q1 pins s1 σ H1 I1 R1) fun u s2 ⟨y,H2,db,Mb,I2,r2,g2,i2,R2,q⟩=>?_
 exact thn (eqX_run (neg:=true) rfl hu I2 R2 (Is.grow g2 _ _ i1) i2 r1 r2 (Q:=fun d M'=>∃ k,d=.bl k/\Qb k M') (q.to fun b M' q=>⟨_,rfl,q⟩)) fun _ _ h=>h.grow (g1.trans g2)
end
end D3
namespace D3
open PySem PySem.Spec PyProof.Rows L2
section
variable {X:Cx} {G:Ga} {M:MH} {a b e:Expr} {pos:Pos} {Q:DK} {Qb:Bool->MH->Prop} {pins:List (Addr × Obj)} {σ:St} {H:Hp} {s:Shared}
theorem reads_ro (I:L2.Inv X pins σ H s) (m:MemOk X.K M H) {l:Addr} {ds:List D} (h:M l=some (.ro ds)) (hi:immL ds=true):∃ as,Reads s.heap (.ref l) (.list (pdL ds)) as:=by
 obtain ⟨xs,e1,e2⟩:=m l _ h
 obtain ⟨its,rv,p,hz⟩:=I.list e1
 obtain ⟨o,ho,hc,n,hd⟩:=p.isList
 obtain ⟨as,q⟩:=readsAll_of I ds xs its e2 rv hi
 exact ⟨_,.list ho hc hd (by simpa using q)⟩
theorem lxt_neR (h:EV X G M a fun da Ma=>EV X G Ma b fun db Mb=>∃ l k xs,da=.ref l/\db=.ref k/\Mb l=some (.ro xs)/\Mb k=some (.lst [])/\immL xs=true/\PyData.depthAll (pdL xs)<=59/\Qb (!PyData.eqvAll (pdL xs) (pdL [])) Mb) (hu:X.A.units+64 < cLine):TV X G M (.Compare a [.NotEq] [b] pos) Qb:=by
 refine tv_cval (nomark _) fun pins s σ H I R=>?_
 refine thn (h pins s σ H I R) fun v s1 ⟨x,H1,da,Ma,I1,r1,g1,i1,R1,q1⟩=>?_
 refine thn (q1 pins s1 σ H1 I1 R1) fun u s2 ⟨y,H2,db,Mb,I2,r2,g2,i2,R2,l,k,xs,e1,e2,h1,h2,m1,hd,q⟩=>?_
 subst e1;subst e2
 have i1':=Is.grow g2 _ _ i1
 rw [is_ref] at i1' i2;subst i1';subst i2
 cases r1;cases r2
 obtain ⟨as,ra⟩:=reads_ro I2 R2.mem h1 m1
 obtain ⟨bs,rb⟩:=reads_lst I2 R2.mem h2 rfl
 have c1:(PyData.list (pdL xs)).canLay0=true:=by simp only [PyData.canLay0];exact canLayL_imm xs m1
 have hdp:(PyData.list (pdL xs)).depth<=60:=by simp only [PyData.depth];omega
 have hmin:min (PyData.list (pdL xs)).depth (PyData.list (pdL [])).depth<=(PyData.list (pdL xs)).depth:=Nat.min_le_left _ _
 have ee:PyData.eqv (.list (pdL xs)) (.list (pdL []))=PyData.eqvAll (pdL xs) (pdL []):=by simp only [PyData.eqv]
 exact PySem.SeqAt.compareNe_reads ra rb c1 rfl (by omega) ⟨.bl _,H2,.bl _,Mb,I2,rfl,g1.trans g2,is_bl.mpr rfl,R2,_,rfl,by rw [ee];exact q⟩
end
end D3
namespace X1
open PySem
section
variable {M:Model} {A:Around} {E:Value->Shared->Prop} {s:Shared}
def ExcAt (h:Heap) (e:Addr) (C:Value) (dd:Option Addr):Prop :=
 ∃ oe vs,h.get? e=some oe/\oe.cls=C/\oe.dict=dd/\oe.data=.fields vs/\1 < vs.size /\
  (vs[1]?=some .none\/∃ T oT ts,vs[1]?=some (.ref T)/\T≠e/\h.get? T=some oT/\oT.data=.fields ts/\ts[3]?=some .none)
def Passed (S:List Addr) (e:Addr) (h h':Heap):Prop :=
 (∀ b o,h.get? b=some o->b≠e->b∉S->h'.get? b=some o)/\∀ b o,h.get? b=some o->b≠e->∃ sl,h'.get? b=some { o with slots:=sl }
theorem entry {base:Heap} {env:Env} {outer:List Env} {L e:Addr} {oe:Obj} {vs:Array Value} {head:Value} {hadNext:Bool} {Q:Unit->Shared->Prop}
  (hfr:A.frames=some (env :: outer)) (hl:s.heap.FunFrames base (env :: outer)) (hf:env.frame=some L)
  (he:s.heap.get? e=some oe) (hd:oe.data=.fields vs) (hsz:1 < vs.size)
  (h:∀ h',Passed ((env :: outer).filterMap (·.frame)) e s.heap h'->ExcAt h' e oe.cls oe.dict->Q () { s with heap:=h' }) :
  wpAny M A (do let a <- frameOf env;let pl <- entryPlaceOf L hadNext;let b <- EntryCells.newEntry head a .none (rawInt L) .none pl;setField (.ref e) 1 b) (fun _ s'=>wpAny M A (setFlight (.ref e) none) Q E s') E s:=by
 have hene:e∉(env :: outer).filterMap (·.frame):=fun hm=>by
  obtain ⟨_,o,ho,hnf⟩:=hl.mem hm
  rw [he] at ho;cases ho;exact hnf vs hd
 refine wpAny_bind (wpAny_frameOf_fun hfr hl hf fun h₁ hs₁=>wpAny_bind (wpAny_entryPlaceOf fun pl hpl=>?_))
 unfold EntryCells.newEntry newFields
 refine wpAny_bind (wpAny_newObj_type ?_ (hpl.sizeOk5 _ _ _ _ _))
 have he₁:h₁.get? e=some oe:=(hs₁.2.1 e hene).trans he
 generalize htb:({ cls:=.type "traceback",dict:=none,data:=.fields ([head,.ref L,.none,rawInt L,.none]++(if pl.isEmpty then List.replicate 6 Value.none else pl)).toArray }:Obj)=tb
 have htd:tb.data=.fields ([head,.ref L,.none,rawInt L,.none]++(if pl.isEmpty then List.replicate 6 Value.none else pl)).toArray:=by rw [<- htb]
 have he₂:=Heap.get?_push_of_some tb he₁
 refine wpAny_setField he₂ hd hsz ?_
 have hTe:h₁.objs.size≠e:=Nat.ne_of_gt (Heap.lt_size he₁)
 have hd₃:=Obj.data_mapFields hd (·.setIfInBounds 1 (Value.ref h₁.objs.size))
 have he₃:=Heap.get?_update_self (Obj.mapFields (·.setIfInBounds 1 (Value.ref h₁.objs.size))) he₂ (Obj.isFreed_of_fields hd₃)
 have hfr':tb.isFreed=false:=Obj.isFreed_of_fields htd
 have hT₃:=(Heap.get?_update_other (h₁.push tb) (Obj.mapFields (·.setIfInBounds 1 (Value.ref h₁.objs.size))) (Ne.symm hTe)).trans (Heap.get?_push_size h₁ hfr')
 unfold setFlight
 refine wpAny_bind (wpAny_field he₃ hd₃ (x:=.ref h₁.objs.size) (by simp [hsz]) ?_)
 rw [if_pos (show (Value.ref h₁.objs.size != Value.none)=true from by simp)]
 refine wpAny_setField hT₃ htd (by simp only [List.size_toArray,List.length_append,List.length_cons,List.length_nil]<;>omega) (h _ ?_ ?_)
 ·have keep:∀ b o,b≠e->h₁.get? b=some o->(((h₁.push tb).update e (Obj.mapFields (·.setIfInBounds 1 (Value.ref h₁.objs.size)))).update h₁.objs.size
    (Obj.mapFields (·.setIfInBounds 3 ((none:Option Addr).elim Value.none fun f=>rawInt f)))).get? b=some o:=fun b o hbe hb=>by
   rw [Heap.get?_update_other _ _ (Nat.ne_of_gt (Heap.lt_size hb)),Heap.get?_update_other _ _ (Ne.symm hbe)]
   exact Heap.get?_push_of_some _ hb
  refine ⟨fun b o hb hbe hbS=>keep b o hbe ((hs₁.2.1 b hbS).trans hb),fun b o hb hbe=>?_⟩
  obtain ⟨sl,hs⟩:=hs₁.2.2 b o hb
  exact ⟨sl,keep b _ hbe hs⟩
 ·refine ⟨_,_,?_,Obj.cls_mapFields _ _,?_,hd₃,by simp [hsz],.inr ⟨h₁.objs.size,_,_,by simp [hsz],hTe,Heap.get?_update_self _ hT₃ (Obj.isFreed_of_fields (Obj.data_mapFields htd _)),Obj.data_mapFields htd _,?_⟩⟩
  ·rw [Heap.get?_update_other _ _ hTe];exact he₃
  ·obtain ⟨c,d,dt,sl⟩:=oe
   simp only at hd
   subst hd
   rfl
  ·first | (simp;done) | (rcases hpl with rfl | ⟨_,_,_,_,_,_,_,rfl⟩<;>simp)
theorem note {base:Heap} {env:Env} {outer:List Env} {L e:Addr} {C:Value} {dd:Option Addr} {Q:Unit->Shared->Prop}
  (hfr:A.frames=some (env :: outer)) (hl:s.heap.FunFrames base (env :: outer)) (hf:env.frame=some L) (hx:ExcAt s.heap e C dd)
  (h:∀ h',Passed ((env :: outer).filterMap (·.frame)) e s.heap h'->ExcAt h' e C dd->Q () { s with heap:=h' }):wpAny M A (noteFrame (.ref e) env) (fun _ s₂=>wpAny M A (setFlight (.ref e) none) Q E s₂) E s:=by
 obtain ⟨oe,vs,he,rfl,rfl,hd,hsz,hv⟩:=hx
 unfold noteFrame
 simp only [hf]
 rcases hv with h1 | ⟨T,oT,ts,h1,hTe,hT,hdT,h3⟩
 ·refine wpAny_bind (wpAny_field he hd h1 ?_)
  rw [if_neg (by decide)]
  exact entry hfr hl hf he hd hsz h
 ·refine wpAny_bind (wpAny_field he hd h1 ?_)
  rw [if_pos (show (Value.ref T != Value.none)=true from by simp)]
  refine wpAny_bind (wpAny_field hT hdT h3 ?_)
  rw [if_neg (show ¬ ((Value.none == rawInt L)=true) from by simp [rawInt])]
  refine wpAny_bind (wpAny_setField hT hdT (Array.getElem?_eq_some_iff.mp h3).1 ?_)
  have same:=Heap.update_setField_same s.heap T oT ts 3 .none hT hdT h3
  rw [same]
  exact entry hfr hl hf he hd hsz h
theorem leave {base:Heap} {env:Env} {outer:List Env} {L e:Addr} {C:Value} {dd:Option Addr} {Q:Unit->Shared->Prop}
  (hfr:A.frames=some (env :: outer)) (hl:s.heap.FunFrames base (env :: outer)) (hf:env.frame=some L) (hx:ExcAt s.heap e C dd)
  (h:∀ h',Passed ((env :: outer).filterMap (·.frame)) e s.heap h'->ExcAt h' e C dd->Q () { s with heap:=h' }):wpAny M A (leaving env (.ref e)) Q E s:=by
 unfold leaving
 exact wpAny_bind (note hfr hl hf hx h)
theorem rest {e:Addr} {C:Value} {dd:Option Addr} {Q:Unit->Shared->Prop} (hx:ExcAt s.heap e C dd) (h:Q () s):wpAny M A (setFlight (.ref e) none) Q E s:=by
 obtain ⟨oe,vs,he,rfl,rfl,hd,hsz,hv⟩:=hx
 unfold setFlight
 rcases hv with h1 | ⟨T,oT,ts,h1,hTe,hT,hdT,h3⟩
 ·refine wpAny_bind (wpAny_field he hd h1 ?_)
  rw [if_neg (by decide)]
  exact wpAny_pure h
 ·refine wpAny_bind (wpAny_field he hd h1 ?_)
  rw [if_pos (show (Value.ref T != Value.none)=true from by simp)]
  refine wpAny_setField hT hdT (Array.getElem?_eq_some_iff.mp h3).1 ?_
  have same:=Heap.update_setField_same s.heap T oT ts 3 .none hT hdT h3
  show Q () { s with heap:=s.heap.update T (Obj.mapFields (·.setIfInBounds 3 Value.none)) }
  rw [same]
  exact h
end
end X1
namespace X1
open PySem PySem.W Builtin Builtin.ObjectAttr
section
variable {K:Frag} {M:Model} {A:Around} {E:Value->Shared->Prop} {h:Heap} {g:Array GenState} {d:Drawn} {t:Nat} {os:OsState} {C P:Addr}
end
section
variable {K:Frag} {prog:Program} {w:World} {A:Around} {E:Value->Shared->Prop} {h:Heap} {g:Array GenState} {d:Drawn} {t:Nat} {os:OsState} {C P x:Addr} {mA:Str->Option Value} {name:Str} {v:Value}
end
section
variable {M:Model} {A:Around} {E:Value->Shared->Prop} {env:Env}
variable {nm q:Str} {C N:Addr} {bs bm:List Value} {hdct:Bool} {sn:List Str} {sub:List Value} {ab:Bool} {col:Option Bool} {dd:Option Addr} {k0 k1 k2 k3 k5:Option Value} {newId:String}
end
section
variable {K:Frag} {prog:Program} {w:World} {A:Around} {E:Value->Shared->Prop} {h:Heap} {g:Array GenState} {d:Drawn} {t:Nat} {os:OsState} {C P x:Addr} {mA:Str->Option Value} {name:Str} {v:Value}
end
section
variable {K:Frag} {prog:Program} {w:World} {A:Around} {E:Value->Shared->Prop} {h:Heap} {g:Array GenState} {d:Drawn} {t:Nat} {os:OsState} {C P x:Addr} {mA:Str->Option Value} {name:Str} {v:Value}
end
section
variable {K:Frag} {M:Model} {A:Around} {E:Value->Shared->Prop} {h:Heap} {g:Array GenState} {d:Drawn} {t:Nat} {os:OsState} {C P e:Addr} {oe:Obj} {Q:Bool->Shared->Prop}
end
end X1
namespace D3
open PySem PySem.Spec PyProof.Rows L2 X1
abbrev XQ:=Addr->List (Str × D)->MH->Prop
section
variable {X:Cx} {G:Ga} {M:MH} {e:Expr} {es:List Expr} {pos:Pos} {Q:DK} {R:Ga->XQ}
end
section
variable {P:Program} {w:World} {K:PySem.W.Frag} {mg:Str->Option Value} {base:Heap}
end
end D3
namespace D3
open PySem PySem.Spec PyProof.Rows L2 X1
section
variable {X:Cx} {pins:List (Addr × Obj)} {σ:St} {H:Hp} {s:Shared} {h':Heap}
end
section
variable {X:Cx} {G:Ga} {M:MH} {o value:Expr} {pos pos':Pos} {E:EndsD} {Q:DK}
end
end D3
namespace D3
open PySem PySem.Spec PyProof.Rows L2 X1
section
variable {X:Cx} {G:Ga} {M:MH} {e:Expr} {es:List Expr} {pos cpos:Pos} {E:EndsD} {Q:DK} {R:Ga->XQ}
end
end D3
namespace D3
open PySem PySem.Spec PyProof.Rows L2 X1
section
variable {X:Cx} {pins:List (Addr × Obj)} {σ:St} {H:Hp} {s:Shared}
theorem goes {M:Model} {A:Around} {E:Value->Shared->Prop} {i:Nat} {n:Str} {pos:Pos} {Q:Unit->Shared->Prop} (I:L2.Inv X pins σ H s) (hN:X.N.Nodup) (hi:X.N[i]?=some n) (hl:X.env.scope.names.lookup n=some .local)
  (h:∀ s',L2.Inv X pins (σ.set i none) H s'->Q () s'):wpAny M A (do bindName X.env n .none;unbindBehindTheSuite X.env n pos) Q E s:=by
 obtain ⟨m,hn,hloc⟩:=id I.loc
 have hcls:(X.env.scope.kind == .class || (X.env.scope.kind == .module && X.env.locals != X.env.globals))=false:=by rw [I.ok.kind];rfl
 refine wpAny_nameGoes_keeps hl hn hcls fun h' v hn' hs=>h _ ?_
 have nl:∀ b o,X.s₀.heap.get? b=some o->b≠X.env.locals:=fun b o e=>Nat.ne_of_lt (Nat.lt_of_lt_of_le (Heap.lt_size e) I.ok.above)
 refine ⟨I.ok,I.os,I.bare,⟨fun b o e nb hb hx=>(hs.2 b (nl b o e)).trans (I.base.keep b o e nb hb hx),fun b o e nb hb hx=>?_,I.base.free,fun b o e hx=>?_,I.base.tups,I.base.frzs,I.base.tbls⟩,⟨_,hn',fun j y v' e1 e2 e3=>?_⟩,fun y c e=>?_,I.free,I.freeC,fun p hp=>?_,fun b ob e=>?_,by simpa using I.len⟩
 ·obtain ⟨sl,e1⟩:=I.base.slot b o e nb hb hx
  exact ⟨sl,(hs.2 b (nl b o e)).trans e1⟩
 ·obtain ⟨o',e1⟩:=I.base.there b o e hx
  exact ⟨o',(hs.2 b (nl b o e)).trans e1⟩
 ·by_cases hj:j=i
  ·subst hj
   have hlt:j < σ.length:=by rw [I.len];exact (List.getElem?_eq_some_iff.mp hi).1
   rw [List.getElem?_set_self hlt] at e2
   cases e2
  ·rw [List.getElem?_set_ne (Ne.symm hj)] at e2
   obtain ⟨u',r',q⟩:=hloc j y v' e1 e2 e3
   refine ⟨u',r',?_⟩
   rcases q with ⟨k,e⟩ | ⟨k,c,e,z⟩
   ·refine .inl ⟨k,?_⟩
    have hy:y≠n:=fun e=>hj (nodup_ix hN e1 (e ▸ hi))
    simp [hy,e]
   ·exact .inr ⟨k,c,e,z.sameBut hs (I.cne y c e)⟩
 ·obtain ⟨w',z⟩:=I.cell y c e
  exact ⟨w',z.sameBut hs (I.cne y c e)⟩
 ·obtain ⟨e,nb,ne,nf,d⟩:=I.pin p hp
  exact ⟨(hs.2 p.1 ne).trans e,nb,ne,nf,d⟩
 ·refine (I.hok b ob e).stay (fun c w' hc q=>(hs.2 c ?_).trans q) (fun _ q=>q) fun _ _ q=>q
  rintro rfl
  rcases hc with rfl | hc
  ·rw [I.free] at e;cases e
  ·rw [I.free] at hc;cases hc
end
section
variable {X:Cx} {G:Ga} {M:MH} {body:List Stmt} {b0:Stmt} {suite:List Stmt} {pos np hpos:Pos} {E:EndsD} {R:Ga->XQ}
end
section
variable {P:Program} {w:World} {K:PySem.W.Frag} {mg:Str->Option Value} {base:Heap}
end
end D3
namespace X1
open PySem PySem.W PySem.Calls Builtin Builtin.ObjectAttr
section
variable {K:Frag} {prog:Program} {w:World} {A:Around} {E:Value->Shared->Prop} {h:Heap} {g:Array GenState} {d:Drawn} {t:Nat} {os:OsState} {C P x:Addr} {ox:Obj} {od:Option Obj}
end
end X1
namespace D3
open PySem PySem.Spec PyProof.Rows L2 X1
section
variable {X:Cx} {G:Ga} {M:MH} {e e2:Expr} {es:List Expr} {pos:Pos} {Q:DK}
theorem obj_in {P:Program} {w:World} {H:Hp} {h:Heap} {a:Addr} {o:HO} (x:ObjOk P w H h a o):∃ u,h.get? a=some u:=by
 induction o generalizing a with
 | lst xs=>obtain ⟨_,_,_,_,e⟩:=x;exact ⟨_,e⟩
 | tup xs=>obtain ⟨_,_,_,o,e,_⟩:=x;exact ⟨_,e⟩
 | dK kvs=>obtain ⟨_,_,_,_,o,_,_,e,_⟩:=x;exact ⟨_,e⟩
 | dT kvs=>obtain ⟨_,_,_,_,o,_,_,e,_⟩:=x;exact ⟨_,e⟩
 | set S n=>obtain ⟨o,_,_,_,e,_⟩:=x;exact ⟨_,e⟩
 | ins C dx fs=>obtain ⟨_,_,_,e,_⟩:=x;exact ⟨_,e⟩
 | own _=>exact x
 | xd fs=>obtain ⟨_,⟨o,_,_,e,_⟩,_⟩:=x;exact ⟨_,e⟩
 | rng lo hi=>obtain ⟨_,_,_,e⟩:=x;exact ⟨_,e⟩
 | frz o u ih=>exact ⟨_,x.1⟩
 | tbl ps=>exact ⟨_,x⟩
 | met f y=>exact ⟨_,x⟩
 | ext φ=>exact x.2.1
end
end D3
namespace D3
open PySem PySem.Spec PyProof.Rows L2
theorem strs_items:∀ {ss:List Str} {us:List Value},us.length=ss.length->(∀ (j:Nat) u,us[j]?=some u->∃ x t,ss[j]?=some x/\u=.str x t)->StrsAre us ss
 | [],[],_,_=>.nil
 | [],_ :: _,h,_=>by cases h
 | _ :: _,[],h,_=>by cases h
 | y :: ss,u :: us,h,k=>by
  obtain ⟨x,t,e1,e2⟩:=k 0 u rfl
  cases e1
  subst e2
  exact .cons y t (strs_items (by simpa using h) fun j v hv=>by
   obtain ⟨x,t,a1,a2⟩:=k (j+1) v (by simpa using hv)
   exact ⟨x,t,by simpa using a1,a2⟩)
theorem laid_n {X:Cx} {pins:List (Addr × Obj)} {σ:St} {H:Hp} {s:Shared} {h':Heap} {a:Addr} {o:HO} {t':Nat} (I:L2.Inv X pins σ H s) (k:∀ b u,s.heap.get? b=some u->h'.get? b=some u) (ha:s.heap.get? a=none) (new:ObjOk X.prog X.w (upd H a o) h' a o) :
  H a=none/\L2.Inv X pins σ (upd H a o) { s with heap:=h',toks:=t' }:=by
 have hn:H a=none:=by
  cases e:H a with
  | none=>rfl
  | some u=>obtain ⟨v,q⟩:=obj_in (I.hok a u e);rw [ha] at q;cases q
 have old:∀ b u,H b=some u->upd H a o b=some u:=fun b u e=>by rw [upd_ne (fun z=>by rw [z,hn] at e;cases e)];exact e
 refine ⟨hn,I.step (g':=s.gens) (d':=s.drawn) (ch:=[]) (fun b hb=>absurd hb (by simp)) (fun b o _ _ _ e _=>k b o e) (fun b o _ _ _ e _=>⟨o.slots,k b o e⟩) (fun b o _ e n=>by rw [upd_ne (fun z=>by rw [z,ha] at e;cases e)];exact n) (fun b o _ e=>⟨o,k b o e⟩)
  (fun b xs e=>old b _ e) (fun b o u e=>old b _ e) (fun b p e=>⟨#[],by rw [old b _ e];simp⟩) (fun m ⟨o,es,ep,ho,r⟩=>⟨o,es,ep,k _ _ ho,r⟩) (fun b u e=>?_) I.bare⟩
 by_cases hb:b=a
 ·subst hb;rw [upd_same] at e;cases e;exact new
 ·rw [upd_ne hb] at e
  exact (I.hok b u e).stay (fun c v _ hv=>k c v hv) (fun c hc=>old c _ hc) (fun c xs hc=>old c _ hc)
section
variable {X:Cx} {G:Ga} {M:MH} {e:Expr} {pos:Pos} {Q:DK}
theorem kv_keys {ss:List Str}:∀ {ys:List (Key × V)} {vs:List (Key × Value)},KV ys vs->ys.map (·.1)=ss.map Sum.inr->vs.map (·.1)=ss.map Sum.inr:=by
 intro ys vs r h
 rw [<- h]
 unfold KV at r
 induction r generalizing ss with
 | nil=>rfl
 | @cons p q ps qs a t ih =>
  cases ss with
  | nil=>cases h
  | cons s ss =>
   rw [List.map_cons,List.map_cons,a.1,ih (ss:=ss) (by simpa using (List.cons.inj h).2)]
theorem call_sortedDk (hc:X.calm=true):CallR X (.builtin "sorted") (fun xs H Q=>∃ (a:Addr) (ys:List (Key × V)) (ss:List Str),xs=[.ref a]/\H a=some (.dK ys)/\ys.map (·.1)=ss.map Sum.inr/\ss.length < 64/\∀ p ss',H p=none->ss'.Perm ss->PyProof.Rows.sortedS ss'=true->Q (.ref p) (upd H p (.lst (ss'.map V.str)))):=by
 intro pins s σ H xs us Q I r h
 obtain ⟨a,ys,ss,rfl,e,hk,h64,q⟩:=h
 obtain ⟨u,rfl,ru⟩:=vals1 r
 cases ru
 obtain ⟨z,hd,vs,rel,dd⟩:=dk_of I.hok e
 obtain ⟨ep,hat⟩:=dd.dictAt
 have hkv:=kv_keys rel hk
 have hvl:vs.length=ss.length:=by have:=congrArg List.length hkv;simpa using this
 have hh:X.A.in1.handled=none:=I.ok.hd hc
 refine Calls.call_function_entry kind_sorted plain_sorted entry_sorted (args_sorted1 _) ?_
 unfold Builtin.«sorted»
 refine wpAny_bind (m:=checkCount "sorted" 1 1 _) (wpAny_pure ?_)
 refine wpAny_bind (PySem.W.kdu_collect (A:=X.A.in1) (PySem.W.kdl_dict (knd:=mixKind X.prog X.w) (kvs:=vs) (ep:=ep) hd) hh hat (by rw [hvl,sizeLine_eq];omega) fun h' tk acc hkp hacc=>?_)
 have hS:StrsAre acc.toList ss:=strs_items (by rw [Array.length_toList,hacc.1,hvl]) fun j u hu=>by
  obtain ⟨k,x,h1,h2⟩:=hacc.2 j u (by rw [<- Array.getElem?_toList];exact hu)
  have hj:(vs.map (·.1))[j]?=some k:=by rw [List.getElem?_map,h1];rfl
  rw [hkv,List.getElem?_map] at hj
  cases hs:ss[j]? with
  | none=>rw [hs] at hj;cases hj
  | some x0 =>
   rw [hs] at hj
   cases hj
   rcases keyIs_shape (show keyIs (Sum.inr x0) u=true from h2) with ⟨i,t,e1,e2⟩ | ⟨y,t,e1,e2⟩
   ·cases e1
   ·cases e1;exact ⟨_,t,rfl,e2⟩
 have hal:acc.toList.length=ss.length:=by rw [Array.length_toList,hacc.1,hvl]
 refine wpAny_bind (wpAny_newList ?_ (by rw [hal,sizeLine_eq];omega))
 have hoL:(h'.push (seqObj "list" acc.toList.toArray 0)).get? h'.objs.size=some (seqObj "list" acc.toList.toArray 0):=Heap.get?_push_size _ rfl
 refine (show wpAny _ _ _ _ _ ({ s with heap:=h'.push (seqObj "list" acc.toList.toArray 0),toks:=tk }:Shared) from ?_)
 refine wpAny_bind (wpAny_holding (wpAny_call_entry slot_list_sort ⟨_,hoL,rfl⟩ entry_list_sort (list_sort_treeK strKind_oneLt hoL hS.keysOf (fun v1 v2 rest e=>keyKind_strs (by rw [<- e];exact hS)) (by rw [hal];exact h64) fun st' a1 a2=>⟨_,rfl,?_⟩) (args_list_sort _)))
 obtain ⟨ss',b1,b2,b3⟩:=sorted_out_str hS a1 a2
 obtain ⟨en,he⟩:=sortedHeap_at (out:=(arrOf st').map (·.2)) (vs:=acc.toList) hoL
 have ha:s.heap.get? h'.objs.size=none:=by
  cases x:s.heap.get? h'.objs.size with
  | none=>rfl
  | some o=>exact absurd (Heap.lt_size (hkp _ _ x)) (Nat.lt_irrefl _)
 have hkeep:∀ b ob,s.heap.get? b=some ob->(sortedHeap (h'.push (seqObj "list" acc.toList.toArray 0)) h'.objs.size acc.toList ((arrOf st').map (·.2))).get? b=some ob:=fun b ob hb=>by
  have hb':=hkp b ob hb
  have hlt:=Heap.lt_size hb'
  rw [sortedHeap_old (Nat.ne_of_lt hlt) (by rw [size_push'];exact Nat.lt_succ_of_lt hlt)]
  exact Heap.get?_push_of_some _ hb'
 obtain ⟨hn,I2⟩:=laid_n (t':=tk) (o:=.lst (ss'.map V.str)) I hkeep ha ⟨by rw [List.length_map,b2.length_eq,sizeLine_eq];omega,((arrOf st').map (·.2)).toList,en,vals_of_strs b1,by rw [he]⟩
 exact wpAny_pure ⟨_,rfl,.ref h'.objs.size,_,I2,rfl,q _ ss' hn b2 b3⟩
theorem ev_sortedD {p:Pos} (hc:X.calm=true) (hm:X.mg "sorted" = none) (h:AV X G M [e] fun ds M1=>∃ (q:Addr) (kvs:List (Str × D)),ds=[.ref q]/\M1 q=some (.dic kvs)/\kvs.length < 64/\∀ r ss',M1 r=none->ss'.Perm (kvs.map (·.1))->PyProof.Rows.sortedS ss'=true->Q (.ref r) (mset M1 r (.lst (ss'.map D.str)))) (hg:Gl X "sorted") (he:starEach [e] X.env=(false,eval e X.env) :: starEach [] X.env) (hpl:(backTo pos (starEach ([] : List Expr) X.env)).any (·.1)=false) :
  EV X G M (.Call (.Name "sorted" p) [e] [] pos) Q :=
 ev_callB (call_sortedDk hc) hm bootSorted (h.mono fun ds M1 ⟨a,kvs,e1,ha,h64,q⟩=>fun H xs kf hx m=>by
  subst e1
  obtain ⟨v,rfl,hv⟩:=isl1 hx
  rw [is_ref] at hv;subst hv
  obtain ⟨ys,e1,e2⟩:=m a _ ha
  have hk:∀ {kvs:List (Str × D)} {ys:List (Key × V)},KvIs H kvs ys->ys.map (·.1)=(kvs.map (·.1)).map Sum.inr:=by
   intro kvs
   induction kvs with
   | nil=>intro ys h;rw [show ys=[] from h];rfl
   | cons kv r ih =>
    intro ys h
    obtain ⟨k,d⟩:=kv
    obtain ⟨v,ys',rfl,_,h2⟩:=h
    rw [List.map_cons,List.map_cons,List.map_cons,ih h2]
  refine ⟨a,ys,kvs.map (·.1),rfl,e1,hk e2,by rw [List.length_map];exact h64,fun p ss' hp h1 h2 kf'=>⟨grow_new hp,.ref p,mset M1 p (.lst (ss'.map D.str)),is_ref.mpr rfl,m.lay (u:=.lst (ss'.map D.str)) hp ⟨_,upd_same,?_⟩,q p ss' (m.fresh hp kf') h1 h2⟩⟩
  exact IsL.strs) hg (by decide) (by decide) he hpl
end
end D3
namespace D3
open PySem PySem.Spec PyProof.Rows L2
section
variable {X:Cx} {G:Ga} {M:MH} {o e f:Expr} {Q:DK} {apos cpos pos:Pos}
theorem ev_dget2 (hu:X.A.units+64 < cLine) (h:EV X G M o fun d M1=>∃ p,d=.ref p/\(∃ kvs,M1 p=some (.dic kvs))/\EV X G M1 e fun d2 M2=>EV X G M2 f fun d3 M3=>∃ sk kvs,d2=.str sk/\M3 p=some (.dic kvs)/\Q ((lkD kvs sk).getD d3) M3)
  (m:L2.M2 X o "get" apos e f cpos):EV X G M (.Call (.Attribute o "get" apos) [e,f] [] cpos) Q:=by
 refine EV.of (pe_dget2 (Nat.lt_of_le_of_lt (by omega) hu) (pe_D (G:=G)) (pe_D (G:=G)) (pe_D (G:=G)) m) fun σ H kf R=>?_
 refine ⟨M,_,R,h,fun v H1 d M1 kf1 g1 i1 R1 q=>?_⟩
 obtain ⟨p,rfl,⟨kvs0,h0⟩,q⟩:=q
 rw [is_ref] at i1;subst i1
 obtain ⟨ys0,e0,_⟩:=R1.mem p _ h0
 refine ⟨p,rfl,.inl ⟨ys0,.inl e0⟩,M1,_,R1,q,fun y H2 d2 M2 kf2 g2 i2 R2 q=>?_⟩
 refine ⟨M2,_,R2,q,fun z H3 d3 M3 kf3 g3 i3 R3 q=>?_⟩
 obtain ⟨sk,kvs,rfl,hp,q⟩:=q
 rw [is_str] at i2;subst i2
 obtain ⟨ys,e1,ky⟩:=R3.mem p _ hp
 refine ⟨valV ys (Sum.inr sk),DGet.k (k:=Sum.inr sk) e1,fun _=>⟨(g1.trans g2).trans g3,(lkD kvs sk).getD d3,M3,?_,R3.mem,q⟩⟩
 have:=ky.val sk
 cases hl:lkD kvs sk with
 | none =>
  rw [hl] at this
  rw [show valV ys (Sum.inr sk)=none from this];exact i3
 | some d =>
  rw [hl] at this
  obtain ⟨v,h1,h2⟩:=this
  rw [h1];exact h2
theorem bootAny:bootBuiltins "any" = some (.builtin "any"):=by decide +kernel
theorem isl_bools {H:Hp}:∀ {bs:List Bool} {vs:List V},IsL H (bs.map D.bl) vs->vs=bs.map V.bl
 | [],vs,h=>by rw [List.map_nil,isl_nil] at h;subst h;rfl
 | n :: ns,vs,h=>by
  rw [List.map_cons,isl_cons] at h
  obtain ⟨x,r,rfl,h1,h2⟩:=h
  rw [is_bl] at h1
  rw [h1,isl_bools h2];rfl
theorem vals_bools {bs:List Bool} {us:List Value} {i:Nat} {u:Value} (r:Vals (bs.map V.bl) us) (h:us[i]?=some u):u=.bool ((bs[i]?).getD false):=by
 have hl:=r.length
 rw [List.length_map] at hl
 have hi:i < bs.length:=by
  have:=(List.getElem?_eq_some_iff.mp h).1
  omega
 obtain ⟨w,hw,rw'⟩:=r.get (i:=i) (x:=.bl bs[i]) (by simp [hi])
 rw [h] at hw
 cases hw
 rw [show u=.bool bs[i] from rw']
 simp [hi]
theorem range_any (bs:List Bool):((List.range bs.length).any fun i=>(bs[i]?).getD false)=bs.any id:=by
 conv=>rhs;rw [<- List.map_id bs]
 have:bs=(List.range bs.length).map fun i=>(bs[i]?).getD false:=by
  apply List.ext_getElem?
  intro i
  rw [List.getElem?_map]
  by_cases h:i < bs.length
  ·rw [List.getElem?_range h];simp [h]
  ·rw [List.getElem?_eq_none (by omega),List.getElem?_eq_none (by simp;omega)];rfl
 conv=>rhs;rw [this]
 rw [List.map_id,List.any_map]
 rfl
theorem call_anyL (hc:X.calm=true):CallR X (.builtin "any") (fun xs H Q=>∃ (a:Addr) (bs:List Bool),xs=[.ref a]/\H a=some (.lst (bs.map V.bl))/\Q (.bl (bs.any id)) H):=by
 intro pins s σ H xs us Q I r h
 obtain ⟨a,bs,rfl,e,q⟩:=h
 obtain ⟨u,rfl,ru⟩:=vals1 r
 cases ru
 obtain ⟨z,its,n,rv,hl,eo⟩:=I.lstM e
 have hlen:its.toArray.size=bs.length:=by
  rw [List.length_map] at hl
  simp [<- hl]
 have lt:a < s.heap.objs.size:=Heap.lt_size eo
 have hL:s.heap.IsList a its.toArray:=⟨_,eo,rfl,n,rfl⟩
 refine call_any_walk (wpAny_pyIter_list hL ?_)
 refine ⟨_,_,_,_,_,_,fun i=>(bs[i]?).getD false,rfl,Walks.list (A:=X.A.in1) (I.ok.hd hc) s.heap.objs.size a (Nat.ne_of_lt lt) its.toArray,⟨⟨_,Heap.get?_push_size _ rfl,rfl,rfl⟩,hL.push _⟩,?_,fun h' tk hk=>?_⟩
 ·intro i v s' Q' E' hv hq
  have ev:v=.bool ((bs[i]?).getD false):=vals_bools rv (by simpa using hv)
  subst ev
  exact wpAny_pure hq
 ·rw [hlen,range_any]
  exact ⟨.bl (bs.any id),H,I.kept fun b o y=>hk b o (by simp;exact Nat.ne_of_lt (Heap.lt_size y)) (Heap.get?_push_of_some _ y),rfl,q⟩
theorem ev_anyL {p:Pos} (hc:X.calm=true) (hm:X.mg "any" = none) (h:AV X G M [e] fun ds M1=>∃ (q:Addr) (bs:List Bool),ds=[.ref q]/\M1 q=some (.lst (bs.map D.bl))/\Q (.bl (bs.any id)) M1) (hg:Gl X "any") (he:starEach [e] X.env=(false,eval e X.env) :: starEach [] X.env) (hpl:(backTo pos (starEach ([] : List Expr) X.env)).any (·.1)=false) :
  EV X G M (.Call (.Name "any" p) [e] [] pos) Q :=
 ev_callB (call_anyL hc) hm bootAny (h.mono fun ds M1 ⟨a,bs,e1,ha,q⟩=>fun H xs kf hx m=>by
  subst e1
  obtain ⟨v,rfl,hv⟩:=isl1 hx
  rw [is_ref] at hv;subst hv
  obtain ⟨ys,e1,e2⟩:=m a _ ha
  have e3:=isl_bools e2;subst e3
  exact ⟨a,bs,rfl,e1,fun _=>⟨Grow.refl _,.bl _,M1,is_bl.mpr rfl,m,q⟩⟩) hg (by decide) (by decide) he hpl
end
end D3
namespace KA
open PySem PySem.Spec PyProof.Rows L2 D3 K01
def Pv (M:MH) (p q:Addr) (n:Nat):Prop:=∃ (cs:List Int) (k c:Int),M p=some (.lst [.ref q,.int k,.int c])/\M q=some (.lst (cs.map D.int))/\q≠p/\cs.length<=62/\(∀ x∈cs,Cell x)/\Cell c/\0<=k/\k<=n
theorem Pv.up {M:MH} {p q:Addr} {n m:Nat} (h:Pv M p q n) (hm:n<=m):Pv M p q m:=by
 obtain ⟨cs,k,c,h1,h2,h3,h4,h5,h6,h7,h8⟩:=h
 exact ⟨cs,k,c,h1,h2,h3,h4,h5,h6,h7,by omega⟩
theorem Pv.ext {M M':MH} {p q:Addr} {n:Nat} (h:Pv M p q n) (e:Ext M M'):Pv M' p q n:=by
 obtain ⟨cs,k,c,h1,h2,h3⟩:=h
 exact ⟨cs,k,c,e _ _ h1,e _ _ h2,h3⟩
theorem Pv.ne {M:MH} {p q l:Addr} {n:Nat} (h:Pv M p q n) (hl:M l=none):p≠l/\q≠l:=let ⟨_,_,_,e,e',_⟩:=h;⟨ne_fresh e hl,ne_fresh e' hl⟩
theorem Pv.put {M:MH} {p q l:Addr} {n:Nat} {o:MO} (h:Pv M p q n) (h1:p≠l/\q≠l):Pv (mset M l o) p q n:=by
 obtain ⟨cs,k,c,e1,e2,r⟩:=h
 exact ⟨cs,k,c,by rw [mset_ne h1.1];exact e1,by rw [mset_ne h1.2];exact e2,r⟩
def spTake2:SpD:=fun ds M Q=>∃ p q n,ds=[.ref p]/\Pv M p q n/\n<=100000/\∀ c M',Cell c->Pv M' p q (n+1)->Kp [p] M M'->Q (.int c) M'
def spNumber2:SpD:=fun ds M Q=>∃ c:Int,ds=[.int c]/\Cell c/\∀ n,B 64 n->Q (.int n) M
def spTerms2:SpD:=fun ds M Q=>∃ p ss q n,ds=[.ref p,nms ss]/\Pv M p q n/\ss.length<=4/\n<=90000/\∀ ts M',Terms ss ts->Pv M' p q (n+4)->Kp [p] M M'->Q (trm ts) M'
def spRow2:SpD:=fun ds M Q=>∃ p ss q n,ds=[.ref p,nms ss]/\Pv M p q n/\ss.length<=4/\n<=80000/\∀ k ts w M',Terms ss ts->B 64 w->Pv M' p q (n+6)->Kp [p] M M'->Q (rowD k ts w) M'
structure Out (L F:List Str) (i:Nat):Prop where
 nd:(L++F).Nodup
 lett:∀ s∈L++F,Letter s
 len:L.length=26 - i
 out:F.length=i
theorem Out.step {L F:List Str} {i k:Nat} {x:Str} (h:Out L F i) (hx:L[k]?=some x) (hi:i < 26):Out (L.eraseIdx k) (F++[x]) (i+1):=by
 obtain ⟨hk,he⟩:=List.getElem?_eq_some_iff.mp hx
 have hp:(L.eraseIdx k++(F++[x])).Perm (L++F):=by
  have p1:(x :: L.eraseIdx k).Perm L:=by
   have e:L=L.take k++x :: L.drop (k+1):=by
    conv=>lhs;rw [<- List.take_append_drop k L]
    congr 1
    rw [List.drop_eq_getElem_cons hk,he]
   rw [List.eraseIdx_eq_take_drop_succ]
   conv=>rhs;rw [e]
   exact (List.perm_middle).symm
  refine List.Perm.trans ?_ (List.Perm.append_right F p1)
  rw [<- List.append_assoc]
  refine (List.perm_append_comm).trans ?_
  exact List.Perm.refl _
 refine ⟨hp.nodup_iff.mpr h.nd,fun s hs=>h.lett s (hp.mem_iff.mp hs),?_,?_⟩
 ·rw [List.length_eraseIdx,if_pos hk,h.len];omega
 ·rw [List.length_append,h.out];rfl
theorem erase_map {α β:Type} (f:α->β):∀ (l:List α) (k:Nat),(l.map f).eraseIdx k=(l.eraseIdx k).map f
 | [],_=>rfl
 | a :: l,0=>rfl
 | a :: l,k+1=>by rw [List.map_cons,List.eraseIdx_cons_succ,List.eraseIdx_cons_succ,List.map_cons,erase_map f l k]
def abc:List Str:=(Str.cps "abcdefghijklmnopqrstuvwxyz").toList.map fun c=>⟨#[c]⟩
theorem abc_out:Out abc [] 0:=by
 refine ⟨by rw [List.append_nil];decide +kernel,fun s hs=>?_,by decide +kernel,rfl⟩
 rw [List.append_nil] at hs
 obtain ⟨c,hc,rfl⟩:=List.mem_map.mp hs
 have:∀ c∈(Str.cps "abcdefghijklmnopqrstuvwxyz").toList,97<=c/\c<=122:=by decide +kernel
 exact ⟨c,(this c hc).1,(this c hc).2,rfl⟩
theorem abc_D:chD "abcdefghijklmnopqrstuvwxyz" = abc.map D.str:=by
 unfold abc chD
 rw [List.map_map]
 rfl
structure Row3 where
 k:Bool
 ts:List (Str × Int)
 b:Int
abbrev Row3.d (r:Row3):D:=rowD r.k r.ts r.b
def Named (rows:List Row3) (s:Str):Prop:=∃ r∈rows,s∈r.ts.map (·.1)
def spNamesIn:SpD:=fun ds M Q=>∃ l rows,ds=[.ref l]/\M l=some (.lst (rows.map Row3.d))/\rows.length<=10/\(∀ r∈rows,r.ts.length<=5)/\∀ p ss M',M p=none->M' p=some (.lst (ss.map D.str))->ss.Nodup->PyProof.Rows.sortedS ss=true->ss.length<=50->(∀ s,s∈ss ↔ Named rows s)->Ext M M'->Q (.ref p) M'
theorem mem_put {kvs:List (Str × D)} {k:Str} {d:D}:∀ s,s∈(putD kvs k d).map (·.1) ↔ s∈kvs.map (·.1)\/s=k:=by
 intro s
 unfold putD
 split
 ·rename_i h
  have e:(kvs.map fun kv=>if kv.1=k then (kv.1,d) else kv).map (·.1)=kvs.map (·.1):=by
   rw [List.map_map]
   refine List.map_congr_left fun kv _=>?_
   show (if kv.1=k then (kv.1,d) else kv).1=kv.1
   split<;>rfl
  rw [e]
  refine ⟨.inl,fun h'=>h'.elim id fun z=>?_⟩
  obtain ⟨kv,h1,h2⟩:=List.any_eq_true.mp h
  rw [z]
  exact List.mem_map.mpr ⟨kv,h1,of_decide_eq_true h2⟩
 ·rw [List.map_append,List.mem_append]
  simp
theorem nodup_put {kvs:List (Str × D)} {k:Str} {d:D} (h:(kvs.map (·.1)).Nodup):((putD kvs k d).map (·.1)).Nodup:=by
 unfold putD
 split
 ·have e:(kvs.map fun kv=>if kv.1=k then (kv.1,d) else kv).map (·.1)=kvs.map (·.1):=by
   rw [List.map_map]
   refine List.map_congr_left fun kv _=>?_
   show (if kv.1=k then (kv.1,d) else kv).1=kv.1
   split<;>rfl
  rw [e];exact h
 ·rename_i hn
  rw [List.map_append,List.nodup_append]
  refine ⟨h,by simp,fun a ha b hb z=>hn ?_⟩
  have hb:b=k:=by simpa using hb
  subst hb;subst z
  obtain ⟨kv,h1,h2⟩:=List.mem_map.mp ha
  exact List.any_eq_true.mpr ⟨kv,h1,decide_eq_true h2⟩
def putL (a b:Int) (xs ys:List Int):List Int:=List.zipWith (fun x y=>a * x+b * y) xs ys
def spPut:SpD:=fun ds M Q=>∃ a b xs ys,ds=[.int a,.tup (xs.map D.int),.int b,.tup (ys.map D.int)]/\xs.length<=60/\B 3000 a/\B 3000 b/\(∀ x∈xs,B 3000 x)/\(∀ y∈ys,B 3000 y)/\∀ M',Ext M M'->Q (.tup ((putL a b xs ys).map D.int)) M'
def putF2 (a b:Int):D->D
 | .tup [.int x,.int y]=>.int (a * x+b * y)
 | d=>d
theorem put_map (a b:Int):∀ xs ys:List Int,((twos (xs.map D.int) (ys.map D.int)).filter fun _=>true).map (putF2 a b)=(putL a b xs ys).map D.int
 | [],_=>rfl
 | _ :: _,[]=>rfl
 | x :: xs,y :: ys=>by
  have ih:=put_map a b xs ys
  rw [List.filter_eq_self.mpr (by simp)] at ih ⊢
  show putF2 a b _ :: List.map (putF2 a b) (twos (xs.map D.int) (ys.map D.int))=_
  rw [ih]
  rfl
theorem twos_mem {xs ys:List Int} {d:D} (h:d∈twos (xs.map D.int) (ys.map D.int)):∃ x y,d=.tup [.int x,.int y]/\x∈xs/\y∈ys:=by
 unfold twos at h
 rw [List.zipWith_map] at h
 obtain ⟨i,hi⟩:=List.mem_iff_getElem?.mp h
 rw [List.getElem?_zipWith] at hi
 cases hx:xs[i]? with
 | none=>rw [hx] at hi;simp at hi
 | some x =>
  cases hy:ys[i]? with
  | none=>rw [hx,hy] at hi;simp at hi
  | some y =>
   rw [hx,hy] at hi
   cases hi
   exact ⟨x,y,rfl,List.mem_of_getElem? hx,List.mem_of_getElem? hy⟩
def anyMore (rows:List Row3) (ws:List Int):Bool:=(List.zipWith (fun (r:Row3) (w:Int)=>!r.k && decide (w > 0)) rows ws).any id
def barred (rows:List Row3) (ws:List Int) (bd:Int):Bool:=decide (bd > 0) || (anyMore rows ws && decide (bd=0))
def spBarred:SpD:=fun ds M Q=>∃ l rows ws bd,ds=[.ref l,.tup (ws.map D.int),.int bd]/\M l=some (.lst (rows.map Row3.d))/\rows.length<=60/\∀ M',Ext M M'->Q (.bl (barred rows ws bd)) M'
def barF:D->D
 | .tup [.tup (.str w :: _),.int n]=>.bl (decide (w = "more") && decide (n > 0))
 | d=>d
theorem bar_map:∀ (rows:List Row3) (ws:List Int),((twos (rows.map Row3.d) (ws.map D.int)).filter fun _=>true).map barF=(List.zipWith (fun (r:Row3) (w:Int)=>!r.k && decide (w > 0)) rows ws).map D.bl
 | [],_=>rfl
 | _ :: _,[]=>rfl
 | r :: rows,w :: ws=>by
  have ih:=bar_map rows ws
  rw [List.filter_eq_self.mpr (by simp)] at ih ⊢
  show barF _ :: List.map barF (twos (rows.map Row3.d) (ws.map D.int))=_
  rw [ih]
  show D.bl (decide (word r.k = "more") && decide (w > 0)) :: _=D.bl (!r.k && decide (w > 0)) :: _
  have e:decide (word r.k = "more")=!r.k:=by cases r.k<;>decide
  rw [e]
theorem twos_mem2 {rows:List Row3} {ws:List Int} {d:D} (h:d∈twos (rows.map Row3.d) (ws.map D.int)):∃ r w,d=.tup [Row3.d r,.int w]:=by
 unfold twos at h
 rw [List.zipWith_map] at h
 obtain ⟨i,hi⟩:=List.mem_iff_getElem?.mp h
 rw [List.getElem?_zipWith] at hi
 cases hx:rows[i]? with
 | none=>rw [hx] at hi;simp at hi
 | some x =>
  cases hy:ws[i]? with
  | none=>rw [hx,hy] at hi;simp at hi
  | some y=>rw [hx,hy] at hi;cases hi;exact ⟨x,y,rfl⟩
end KA
namespace D3
open PySem PySem.Spec PyProof.Rows L2
section
variable {X:Cx} {G:Ga} {M:MH} {Q:DK}
end
end D3
namespace D3
open PySem PySem.Spec PyProof.Rows L2
section
variable {P:Program} {w:World} {A:Around} {E:Value->Shared->Prop} {s:Shared}
theorem keys_none:typeLookup (.type "tuple") (Str.ofString "keys")=pure none:=by kernel_rfl
theorem attrQ_miss {a:Addr} {xs:Array Value} {k:Nat} {sl:Array (Option Value)} {Q:Option Value->Shared->Prop} (e:s.heap.get? a=some { cls:=.type "tuple",data:=.seq xs k,slots:=sl }) (hh:A.handled=none)
  (q:∀ h' tk,(∀ b o,s.heap.get? b=some o->h'.get? b=some o)->Q none { s with heap:=h',toks:=tk }) :
  wpAny (model P w) A (getAttr? (.ref a) (Str.ofString "keys")) Q E s:=by
 show wpAny _ A (mkText _ >>= _) _ _ s
 refine wpAny_bind (wpAny_mkText ?_)
 show wpAny _ A (Sem.attempt (getAttrBy _ _ false) >>= _) _ _ _
 refine wpAny_bind (wpAny_attempt ?_)
 show wpAny _ A (holding _ (typeOf _ >>= _)) _ _ _
 refine wpAny_holding (wpAny_bind (wpAny_typeOf_ref e ?_))
 refine wpAny_bind (wpAny_of_eq PySem.F.slot_tuple_getattribute.lookup ?_)
 show wpAny _ A (getAttrByItsOwn _ _ (.type "tuple") (.builtin "tuple.__getattribute__") false false) _ _ _
 show wpAny _ A (hookBefore (.type "tuple") >>= _) _ _ _
 refine wpAny_bind (wpAny_of_eq (show hookBefore (.type "tuple")=pure none from by kernel_rfl) ?_)
 show wpAny _ A (Sem.attempt (holding [] (callGetattribute _ _ _ false)) >>= _) _ _ _
 refine wpAny_bind (wpAny_attempt (wpAny_holding ?_))
 show wpAny _ A (bindSpecial (.builtin "tuple.__getattribute__") (.ref a) >>= _) _ _ _
 refine wpAny_bind (wpAny_of_eq (PySem.F.slot_tuple_getattribute.bind _) ?_)
 refine call_meets PySem.F.slot_tuple_getattribute ⟨_,e,rfl⟩ am_entry_tuple_getattribute (PySem.F.args_tuple_getattribute_2 _ _) (meets_getattribute_miss_tuple a xs k sl _ _ keys_none (by decide +kernel)) ⟨e,hh,fun h' tk ex ne=>?_⟩
 obtain ⟨t,u,et⟩:=ne.there
 show wpAny _ A (isInstance _ _ >>= _) _ _ _
 refine wpAny_bind (wpAny_isInstance (T := "AttributeError") ⟨_,et,rfl⟩ sub_AttributeError ?_)
 show wpAny _ A (hookBehind (.type "tuple") none >>= _) _ _ _
 refine wpAny_bind (wpAny_of_eq am_tuple_getattr_none ?_)
 show wpAny _ A (throw _ >>= _) _ _ _
 refine wpAny_bind (wpAny_throw ?_)
 show wpAny _ A (isInstance _ _ >>= _) _ _ _
 refine wpAny_bind (wpAny_isInstance (T := "AttributeError") ⟨_,et,rfl⟩ sub_AttributeError ?_)
 exact wpAny_pure (q h' tk ne.keeps)
end
theorem entryDul:entryFor table "dict.update.loop" = some Builtin.«dict.update.loop»:=by kernel_rfl
theorem plainDul:plainId "dict.update.loop" = true:=by decide +kernel
theorem dict_keep {P:Program} {w:World} {h h':Heap} {d:Addr} {kvs:List (Key × Value)} (hd:h.DictOf (mixKind P w) d kvs) (k:∀ o,h.get? d=some o->h'.get? d=some o):h'.DictOf (mixKind P w) d kvs:=by
 obtain ⟨o,es,ep,h1,h2⟩:=hd
 exact ⟨o,es,ep,k o h1,h2⟩
theorem stored_new {kvs:List (Key × Value)} {k:Key} {v:Value} (h:∀ x∈kvs,x.1≠k):stored kvs k v=kvs++[(k,v)]:=by
 unfold stored
 rw [if_neg]
 intro z
 obtain ⟨x,h1,h2⟩:=List.any_eq_true.mp z
 exact h x h1 (of_decide_eq_true h2)
def PairAt (P:Program) (w:World) (h:Heap) (v:Value) (kv:Key × Value):Prop:=∃ a o k0 n,v=.ref a/\h.get? a=some o/\o.cls=.type "tuple" /\ o.data=.seq #[k0,kv.2] n/\(mixKind P w).is kv.1 k0=true
section
variable {P:Program} {w:World} {B:Around} {R:Result->Shared->Prop} {I d:Addr} {fp wr:List Addr} {n:Nat} {Pi:Nat->Value->Prop} {St:Nat->Heap->Prop} {hp:Heap}
theorem pairs_loop (W:PySem.Walks P w B.in1 I fp wr n Pi St) (kv:Nat->Key × Value) (hv:∀ i v,Pi i v->PairAt P w hp v (kv i)) (hd:d∉fp) (hb:hp.get? d=none) (hw:∀ x∈wr,hp.get? x=none)
  (hnd:∀ i j,i < j->j < n->(kv i).1≠(kv j).1) (hn:n<=sizeLine) :
  ∀ (k j:Nat) (st:Shared) (tok:Tok) (i:Int),n - j=k->j<=n->St j st.heap->(∀ b o,hp.get? b=some o->st.heap.get? b=some o)->st.heap.DictOf (mixKind P w) d ((List.range j).map kv) ->
  (∀ g tk,g.DictOf (mixKind P w) d ((List.range n).map kv)->(∀ b o,hp.get? b=some o->g.get? b=some o)->R (.ok (.ret .none)) { st with heap:=g,toks:=tk }) ->
  codeAny (model P w) B (.builtin "dict.update.loop" ⟨[.ref d,.ref I,.int i tok,.none],[]⟩) R st:=by
 have off:d∉wr:=fun h=>hd (W.sub _ h)
 intro k
 induction k with
 | zero =>
  intro j st tok i hk hj hst hkp hdd q
  have e:j=n:=by omega
  subst e
  refine codeAny_builtin entryDul ?_
  rw [Around.under_plainId plainDul _]
  show wpAny _ B.in1 (pyNext (.ref I) >>= _) _ _ st
  refine wpAny_bind (W.done st _ _ hst fun g tk hg=>?_)
  show wpAny _ B.in1 (pure _ >>= _) _ _ _
  refine wpAny_bind (wpAny_pure (wpAny_pure ?_))
  refine q g tk (dict_keep hdd fun o e=>hg d o off e) fun b o e=>hg b o (fun z=>?_) (hkp b o e)
  rw [hw b z] at e;cases e
 | succ k ih =>
  intro j st tok i hk hj hst hkp hdd q
  have lt:j < n:=by omega
  refine codeAny_builtin entryDul ?_
  rw [Around.under_plainId plainDul _]
  show wpAny _ B.in1 (pyNext (.ref I) >>= _) _ _ st
  refine wpAny_bind (W.item j st _ _ lt hst fun v g tk hP hst' hg=>?_)
  obtain ⟨a,o,k0,nn,rfl,ea,ec,ed,hk0⟩:=hv j v hP
  have ea':g.get? a=some o:=hg a o (fun z=>by rw [hw a z] at ea;cases ea) (hkp a o ea)
  show wpAny _ B.in1 (holding [.ref a] (tryCatch (Builtin.Dict.pairItems (.ref a)) _ >>= _) >>= _) _ _ _
  refine wpAny_bind (wpAny_holding (wpAny_bind (wpAny_tryCatch ?_)))
  show wpAny _ B.in1 (typeOf (.ref a) >>= _) _ _ _
  refine wpAny_bind (wpAny_typeOf_ref ea' ?_)
  rw [ec]
  show wpAny _ B.in1 (seqItems? (.ref a) >>= _) _ _ _
  refine wpAny_bind (wpAny_seqItems ea' ed (wpAny_pure ?_))
  show wpAny _ B.in1 (holding [k0,(kv j).2] (dictSet d k0 (kv j).2)) _ _ _
  have hdd':=dict_keep hdd fun o e=>hg d o off e
  refine wpAny_holding (wpAny_dictSet_pairs hk0 hdd' (fun g2 dd2 hs=>?_) (by simp;omega))
  have es:stored ((List.range j).map kv) (kv j).1 (kv j).2=(List.range (j+1)).map kv:=by
   rw [stored_new,List.range_succ,List.map_append]
   ·rfl
   ·intro x hx
    obtain ⟨i',h1,rfl⟩:=List.mem_map.mp hx
    exact hnd i' j (List.mem_range.mp h1) lt
  rw [es] at dd2
  refine wpAny_pure ⟨plainId_quiet plainDul _,ih (j+1) _ _ _ (by omega) lt (W.frame _ _ _ hst' fun b hb' o y=>?_) (fun b o e=>?_) dd2 fun g3 tk3 dd3 k3=>q g3 tk3 dd3 k3⟩
  ·exact (hs.2 b (fun z=>hd (by rw [<- z];exact hb'))).trans y
  ·exact (hs.2 b (fun z=>by rw [z,hb] at e;cases e)).trans (hg b o (fun z=>by rw [hw b z] at e;cases e) (hkp b o e))
end
section
variable {P:Program} {w:World} {A:Around} {E:Value->Shared->Prop} {s:Shared}
theorem call_pairs {a:Addr} {its:List Value} {n:Nat} {sl:Array (Option Value)} {kv:Nat->Key × Value} {Q:Value->Shared->Prop} (hh:A.handled=none) (e:s.heap.get? a=some { cls:=.type "tuple",data:=.seq its.toArray n,slots:=sl }) (hz:its.length<=sizeLine)
  (hv:∀ i v,its[i]?=some v->PairAt P w s.heap v (kv i)) (hnd:∀ i j,i < j->j < its.length->(kv i).1≠(kv j).1)
  (q:∀ g tk,g.DictOf (mixKind P w) s.heap.objs.size ((List.range its.length).map kv)->(∀ b o,s.heap.get? b=some o->g.get? b=some o)->Q (.ref s.heap.objs.size) { s with heap:=g,toks:=tk }) :
  wpAny (model P w) A (call (.type "dict") [.ref a]) Q E s:=by
 refine callType_codes PySem.F.kt_called_dict (show checkTypeCall "dict" ⟨[.ref a],[]⟩=pure () from by kernel_rfl) PySem.F.entry_dict_init (kt_code_dict_new (Q₁:=fun obj s1=>obj=.ref s.heap.objs.size/\s1={ s with heap:=s.heap.push { cls:=.type "dict",data:=.dict #[] } }) _ ⟨rfl,rfl⟩) ?_
 rintro obj s1 ⟨rfl,rfl⟩
 have ed:(s.heap.push { cls:=.type "dict",data:=.dict #[] }).get? s.heap.objs.size=some { cls:=.type "dict",data:=.dict #[] }:=Heap.get?_push_size _ rfl
 refine ⟨⟨_,ed,rfl⟩,PySem.F.args_dict_init_2 _ _,?_⟩
 show wpAny _ A.in1.in1 (Builtin.Dict.selfAndRest "__init__" _ >>= _) _ _ _
 show wpAny _ A.in1.in1 ((Builtin.Dict.notOrdered "__init__" _ >>= _) >>= _) _ _ _
 refine wpAny_bind (wpAny_bind ?_)
 show wpAny _ A.in1.in1 (typeOf (.ref s.heap.objs.size) >>= _) _ _ _
 refine wpAny_bind (wpAny_typeOf_ref ed ?_)
 refine wpAny_pure ?_
 show wpAny _ A.in1.in1 (Builtin.Dict.addrOf (.ref s.heap.objs.size) >>= _) _ _ _
 refine wpAny_bind (wpAny_pure (wpAny_pure ?_))
 have ea:(s.heap.push { cls:=.type "dict",data:=.dict #[] }).get? a=some { cls:=.type "tuple",data:=.seq its.toArray n,slots:=sl }:=Heap.get?_push_of_some _ e
 show wpAny _ A.in1.in1 (typeOf (.ref a) >>= _) _ _ _
 refine wpAny_bind (wpAny_typeOf_ref ea ?_)
 show wpAny _ A.in1.in1 (getAttr? (.ref a) "keys" >>= _) _ _ _
 refine wpAny_bind (attrQ_miss ea hh fun h1 tk1 k1=>?_)
 show wpAny _ A.in1.in1 (rule _ >>= _) _ _ _
 refine wpAny_bind (wpAny_rule ?_)
 show wpAny _ A.in1.in1 (pyIter (.ref a) >>= _) _ _ _
 refine wpAny_bind (wpAny_pyIter_tuple ⟨_,k1 _ _ ea,rfl,n,rfl⟩ ?_)
 have ltA:a < h1.objs.size:=Heap.lt_size (k1 _ _ ea)
 have ltD:s.heap.objs.size < h1.objs.size:=Heap.lt_size (k1 _ _ ed)
 have W:=PySem.Walks.tuple (prog:=P) (w:=w) (A:=A.in1.in1) hh h1.objs.size a (Nat.ne_of_lt ltA) its.toArray
 have hs0:∀ b o,s.heap.get? b=some o->h1.get? b=some o:=fun b o z=>k1 _ _ (Heap.get?_push_of_some _ z)
 refine wpAny_pure ⟨plainId_quiet plainDul _,?_⟩
 refine pairs_loop (hp:=s.heap) (d:=s.heap.objs.size) W kv (fun i v hx=>hv i v (by simpa using hx)) (fun z=>?_) (Heap.get?_none_of_le (Nat.le_refl _)) (fun x hx=>?_) (fun i j h1 h2=>hnd i j h1 (by simpa using h2)) (by simpa using hz) _ 0 _ 0 0 rfl (Nat.zero_le _) ⟨⟨_,Heap.get?_push_size _ rfl,rfl,rfl⟩,⟨_,Heap.get?_push_of_some _ (k1 _ _ ea),rfl,n,rfl⟩⟩ (fun b o z=>Heap.get?_push_of_some _ (hs0 b o z)) ?_ fun g tk dd kp=>⟨rfl,?_⟩
 ·rcases List.mem_cons.mp z with z | z
  ·exact absurd z (Nat.ne_of_lt ltD)
  ·exact absurd (List.mem_singleton.mp z) (Nat.ne_of_gt (Heap.lt_size e))
 ·rw [List.mem_singleton.mp hx]
  exact Heap.get?_none_of_le (Nat.le_of_lt ltD)
 ·exact dict_keep (show (s.heap.push { cls:=.type "dict",data:=.dict #[] }).DictOf (mixKind P w) s.heap.objs.size [] from Heap.DictOf.new _) fun o z=>Heap.get?_push_of_some _ (k1 _ _ z)
 ·have:=q g tk (by simpa using dd) kp
  exact this
end
theorem kv_of_ix:∀ {ys:List (Key × V)} {kv:Nat->Key × Value},(∀ i y,ys[i]?=some y->y.1=(kv i).1/\RelV y.2 (kv i).2)->KV ys ((List.range ys.length).map kv)
 | [],kv,_=>.nil
 | y :: ys,kv,h=>by
  rw [List.length_cons,List.range_succ_eq_map,List.map_cons,List.map_map]
  exact .cons (h 0 y rfl) (kv_of_ix (kv:=kv ∘ Nat.succ) fun i z e=>h (i+1) z (by simpa using e))
theorem nodup_inr:∀ {l:List Str},l.Nodup->(l.map (Sum.inr:Str->Key)).Nodup
 | [],_=>List.nodup_nil
 | a :: l,h=>by
  rw [List.nodup_cons] at h
  rw [List.map_cons,List.nodup_cons]
  exact ⟨fun z=>by
   obtain ⟨b,hb,e⟩:=List.mem_map.mp z
   cases e
   exact h.1 hb,nodup_inr h.2⟩
section
variable {X:Cx} {G:Ga} {M:MH} {e:Expr} {pos:Pos} {Q:DK}
theorem call_dictT (hc:X.calm=true):CallR X (.type "dict") (fun xs H Q=>∃ (a:Addr) (vs:List V) (ys:List (Key × V)),xs=[.ref a]/\H a=some (.tup vs)/\vs.length=ys.length/\(∀ (i:Nat) v y,vs[i]?=some v->ys[i]?=some y->∃ b,v=.ref b/\H b=some (.tup [kV y.1,y.2]))/\(ys.map (·.1)).Nodup/\∀ p,H p=none->Q (.ref p) (upd H p (.dK ys))):=by
 intro pins s σ H xs us Q I r h
 obtain ⟨a,vs,ys,rfl,e,hlen,hp,hnd,q⟩:=h
 obtain ⟨u,rfl,ru⟩:=vals1 r
 cases ru
 obtain ⟨⟨z,o2,e2,c2⟩,its,rv,o,e1,cl,n,dat⟩:=(show ObjOk X.prog X.w H s.heap a (.tup vs) from I.hok a _ e)
 rw [e1] at e2;cases e2
 obtain ⟨oc,od,odt,osl⟩:=o2
 simp only at cl dat c2
 subst cl;subst dat;subst c2
 have hl:=rv.length
 have hit:∀ i:Nat,∃ kv:Key × Value,∀ y,ys[i]?=some y->y.1=kv.1/\RelV y.2 kv.2/\∀ u,its[i]?=some u->PairAt X.prog X.w s.heap u kv:=fun i=>by
  cases hy:ys[i]? with
  | none=>exact ⟨(Sum.inl 0,.none),fun y z=>by cases z⟩
  | some y =>
   have hi:i < vs.length:=by rw [hlen];exact (List.getElem?_eq_some_iff.mp hy).1
   obtain ⟨b,hb,hB⟩:=hp i vs[i] y (List.getElem?_eq_getElem hi) hy
   obtain ⟨u,hu,ru⟩:=rv.get (List.getElem?_eq_getElem hi)
   rw [hb] at ru
   cases (show u=Value.ref b from ru)
   obtain ⟨_,its2,rv2,o',e',cl',n',dat'⟩:=(show ObjOk X.prog X.w H s.heap b (.tup [kV y.1,y.2]) from I.hok b _ hB)
   cases rv2 with
   | cons r1 t1 =>
    cases t1 with
    | cons r2 t2 =>
     cases t2
     rename_i k0 v0
     refine ⟨(y.1,v0),fun y' hy'=>?_⟩
     cases hy'
     refine ⟨rfl,r2,fun u' hu'=>?_⟩
     rw [hu] at hu';cases hu'
     exact ⟨b,o',k0,n',rfl,e',cl',dat',kV_is r1⟩
 let kv:Nat->Key × Value:=fun i=>Classical.choose (hit i)
 have hkv:∀ i y,ys[i]?=some y->y.1=(kv i).1/\RelV y.2 (kv i).2/\∀ u,its[i]?=some u->PairAt X.prog X.w s.heap u (kv i):=fun i=>Classical.choose_spec (hit i)
 have hil:its.length=ys.length:=by rw [<- hl];exact hlen
 have hnone:s.heap.get? s.heap.objs.size=none:=Heap.get?_none_of_le (Nat.le_refl _)
 refine call_pairs (kv:=kv) (I.ok.hd hc) e1 (by rw [<- hl];exact z) (fun i v hv=>?_) (fun i j h1 h2 z=>?_) fun g tk dd kp=>?_
 ·have hi:i < ys.length:=by rw [<- hil];exact (List.getElem?_eq_some_iff.mp hv).1
  exact (hkv i ys[i] (List.getElem?_eq_getElem hi)).2.2 v hv
 ·have hj:j < ys.length:=by rw [<- hil];exact h2
  have hi:i < ys.length:=Nat.lt_trans h1 hj
  rw [<- (hkv i ys[i] (List.getElem?_eq_getElem hi)).1,<- (hkv j ys[j] (List.getElem?_eq_getElem hj)).1] at z
  have:=List.pairwise_iff_getElem.mp hnd i j (by rw [List.length_map];exact hi) (by rw [List.length_map];exact hj) h1
  rw [List.getElem_map,List.getElem_map] at this
  exact this z
 ·rw [hil] at dd
  have I2:=I.laid (a:=s.heap.objs.size) (o:=.dK ys) (h':=g) (t':=tk) kp (Nat.le_refl _) (dk_new (by rw [<- hlen];exact z) (beq_eq_false_iff_ne.mpr (Ne.symm (Nat.ne_of_lt I.big))) (kv_of_ix fun i y hy=>⟨(hkv i y hy).1,(hkv i y hy).2.1⟩) dd)
  exact ⟨.ref s.heap.objs.size,_,I2,rfl,q _ (I.hok.fresh (Nat.le_refl _))⟩
abbrev pairD (t:Str × D):D:=.tup [.str t.1,t.2]
theorem pairs_is {H:Hp}:∀ {ps:List (Str × D)} {vs:List V},IsL H (ps.map pairD) vs->∃ ys,KvIs H ps ys/\vs.length=ys.length/\ys.map (·.1)=ps.map (fun t=>Sum.inr t.1)/\∀ (i:Nat) v y,vs[i]?=some v->ys[i]?=some y->∃ b,v=.ref b/\H b=some (.tup [kV y.1,y.2])
 | [],vs,h=>by
  rw [List.map_nil,isl_nil] at h;subst h
  exact ⟨[],rfl,rfl,rfl,fun i v y e=>by simp at e⟩
 | p :: ps,vs,h=>by
  rw [List.map_cons,isl_cons] at h
  obtain ⟨x,r,rfl,h1,h2⟩:=h
  obtain ⟨ys,k1,k2,k3,k4⟩:=pairs_is h2
  rw [is_tup] at h1
  obtain ⟨b,xs,rfl,hb,hx⟩:=h1
  rw [isl_cons] at hx
  obtain ⟨x1,r1,rfl,i1,hx⟩:=hx
  rw [isl_cons] at hx
  obtain ⟨x2,r2,rfl,i2,hx⟩:=hx
  rw [isl_nil] at hx;subst hx
  rw [is_str] at i1;subst i1
  refine ⟨(Sum.inr p.1,x2) :: ys,⟨x2,ys,rfl,i2,k1⟩,by simp [k2],by simp [k3],fun i v y e1 e2=>?_⟩
  cases i with
  | zero=>cases e1;cases e2;exact ⟨b,rfl,hb⟩
  | succ i=>exact k4 i v y (by simpa using e1) (by simpa using e2)
theorem ev_dictT {p:Pos} (hc:X.calm=true) (hm:X.mg "dict" = none) (h:AV X G M [e] fun ds M1=>∃ ps:List (Str × D),ds=[.tup (ps.map pairD)]/\(ps.map (·.1)).Nodup/\∀ r,M1 r=none->Q (.ref r) (mset M1 r (.dic ps))) (hg:Gl X "dict") (he:starEach [e] X.env=(false,eval e X.env) :: starEach [] X.env) (hpl:(backTo pos (starEach ([] : List Expr) X.env)).any (·.1)=false) :
  EV X G M (.Call (.Name "dict" p) [e] [] pos) Q :=
 ev_callTy (call_dictT hc) hm bootDict (h.mono fun ds M1 ⟨ps,e1,hnd,q⟩=>fun H xs kf hx m=>by
  subst e1
  obtain ⟨v,rfl,hv⟩:=isl1 hx
  rw [is_tup] at hv
  obtain ⟨a,vs,rfl,ha,hvs⟩:=hv
  obtain ⟨ys,k1,k2,k3,k4⟩:=pairs_is hvs
  refine ⟨a,vs,ys,rfl,ha,k2,k4,?_,fun r hr kf'=>⟨grow_new hr,.ref r,mset M1 r (.dic ps),is_ref.mpr rfl,m.lay hr ⟨ys,upd_same,k1.grow (grow_new hr)⟩,q r (m.fresh hr kf')⟩⟩
  rw [k3]
  have:ps.map (fun t=>(Sum.inr t.1:Key))=(ps.map (·.1)).map Sum.inr:=by rw [List.map_map];rfl
  rw [this]
  exact nodup_inr hnd) hg (by decide) (by decide) he hpl
end
end D3
namespace D3
open PySem PySem.Spec PyProof.Rows L2
theorem inv_frz {X:Cx} {pins:List (Addr × Obj)} {σ:St} {H:Hp} {s:Shared} {a:Addr} {o:Obj} {ys:List (Key × V)} (I:L2.Inv X pins σ H s) (e:H a=some (.dK ys)) (eo:s.heap.get? a=some o):L2.Inv X pins σ (upd H a (.frz o (.dK ys))) s:=by
 have old:∀ b u,b≠a->H b=some u->upd H a (.frz o (.dK ys)) b=some u:=fun b u n e=>by rw [upd_ne n];exact e
 have I1:=I.step (h':=s.heap) (t':=s.toks) (g':=s.gens) (d':=s.drawn) (H':=upd H a (.frz o (.dK ys))) (ch:=[]) (fun b hb=>absurd hb (by simp)) (fun b o _ _ _ e _=>e) (fun b o _ _ _ e _=>⟨o.slots,e⟩) (fun b o' _ e' n=>by rw [upd_ne (fun z=>by rw [z,e] at n;cases n)];exact n) (fun b o _ e=>⟨o,e⟩)
  (fun b xs e'=>old b _ (fun z=>by rw [z,e] at e';cases e') e') (fun b o u e'=>old b _ (fun z=>by rw [z,e] at e';cases e') e') (fun b p e'=>⟨#[],by rw [old b _ (fun z=>by rw [z,e] at e';cases e') e'];simp⟩) (fun m z=>z) (fun b u e'=>?_) I.bare
 ·exact I1
 ·by_cases hb:b=a
  ·subst hb;rw [upd_same] at e';cases e'
   exact ⟨eo,(show ObjOk X.prog X.w _ s.heap b (.dK ys) from I.hok b _ e)⟩
  ·rw [upd_ne hb] at e'
   exact (I.hok b u e').stay (fun c v _ hv=>hv) (fun c hc=>old c _ (fun z=>by rw [z,e] at hc;cases hc) hc) (fun c xs hc=>old c _ (fun z=>by rw [z,e] at hc;cases hc) hc)
theorem rel_of_is {P : Program} {w : World} {k : Key} {u : Value} (h : (mixKind P w).is k u = true) : RelV (kV k) u := by
  have h : keyIs k u = true := h
  cases k with
  | inl i =>
    cases u with
    | int j t => have : j = i := by simpa [keyIs, Value.isInt] using h
                 subst this; exact ⟨t, rfl⟩
    | _ => simp [keyIs, Value.isInt] at h
  | inr x =>
    cases u with
    | str y t => have : y = x := by simpa [keyIs, Value.isStrOf] using h
                 subst this; exact ⟨t, rfl⟩
    | _ => simp [keyIs, Value.isStrOf] at h
 --odd
def Itd (o:Obj) (a:Addr) (n:Nat):It:=⟨fun i H=>∃ ys kv,H a=some (.frz o (.dK ys))/\ys.length=n/\ys[i]?=some kv,fun i H v H'=>H'=H/\∀ ys,H a=some (.frz o (.dK ys))->∃ kv,ys[i]?=some kv/\v=kV kv.1,fun i H=>∃ ys,H a=some (.frz o (.dK ys))/\ys.length=n/\ys[i]?=none⟩
theorem frz_at {X:Cx} {pins:List (Addr × Obj)} {σ:St} {H:Hp} {s:Shared} {a:Addr} {o:Obj} {ys:List (Key × V)} {es:Array DictEntry} {ep:Nat} (I:L2.Inv X pins σ H s) (e:H a=some (.frz o (.dK ys))) (hd:o.data=.dict es ep):∃ vs,KV ys vs/\s.heap.DictAt (mixKind X.prog X.w) a vs ep:=by
 obtain ⟨eo,z,hs,vs,rel,o',es',ep',h1,h2,h3,h4⟩:=(show ObjOk X.prog X.w H s.heap a (.frz o (.dK ys)) from I.hok a _ e)
 rw [eo] at h1;cases h1
 rw [hd] at h3;cases h3
 exact ⟨vs,rel,o,es,eo,h2,hd,h4⟩
theorem turn_dict {P:Program} {w:World} {K:PySem.W.Frag} {tg:Expr} {es:Array DictEntry} {o:Obj} {ep n:Nat} (hd:o.data=.dict es ep) (a it:Addr):Turn P w K tg (Itd o a n) [it] it (fun i h=>h.IsKeyIter it a i n ep) where
 mem:=by simp
 obj:=fun i h st b hb=>by
  have e:b=it:=by simpa using hb
  subst e
  obtain ⟨o,e,c,d⟩:=st
  exact ⟨o,e,fun v z=>by rw [d] at z;cases z⟩
 keep:=fun i h h' st k=>let ⟨o,e,c,d⟩:=st;⟨o,k it (by simp) o e,c,d⟩
 item:=by
  intro X hP hw hK hc i pins s σ H E I hf st hg
  subst hP hw hK
  obtain ⟨ys,kv,hq,hn,hx⟩:=hg
  obtain ⟨vs,rel,hat⟩:=frz_at I hq hd
  have hl:vs.length=n:=by rw [<- hn];exact rel.length.symm
  obtain ⟨f0,f1,f2,f3,f4,f5⟩:=hf it (by simp)
  have hlt:i < vs.length:=by rw [hl,<- hn];exact (List.getElem?_eq_some_iff.mp hx).1
  have hk:(vs[i]).1=kv.1:=by
   have hlt':i < ys.length:=by rw [hn,<- hl];exact hlt
   have e1:ys.map (·.1)=vs.map (·.1):=by
    clear hx hlt hl hat hq hn hlt'
    unfold KV at rel
    induction rel with
    | nil=>rfl
    | cons a t ih=>rw [List.map_cons,List.map_cons,a.1,ih]
   have e2:(ys.map (·.1))[i]?=some kv.1:=by rw [List.getElem?_map,hx];rfl
   rw [e1,List.getElem?_map,List.getElem?_eq_getElem hlt] at e2
   simpa using e2
  refine wpAny_pyNext_dict_item (knd:=mixKind X.prog X.w) (k:=kv.1) (v:=(vs[i]).2) (by rw [hl];exact st) hat (by rw [List.getElem?_eq_getElem hlt,<- hk]) fun key h' hi st' sb=>?_
  have I1:L2.Inv X pins σ H { s with heap:=h' }:=I.turned (t':=s.toks) (fun b o hb e=>(sb.2 b hb).trans e) f0 f1 f3 f4 f5
  rw [hl] at st'
  obtain ⟨o,e,c,d⟩:=id st'
  exact ⟨key,rfl,go_of (s:={ s with heap:=h' }) e c d (by decide) ⟨kV kv.1,H,I1,rel_of_is hi,⟨rfl,fun ys' hy=>by rw [hq] at hy;cases hy;exact ⟨kv,hx,rfl⟩⟩,st',fun b hb=>(hf b hb).1⟩⟩
 done:=by
  intro X hP hw hK hc i pins s σ H E I hf st hg
  subst hP hw hK
  obtain ⟨ys,hq,hn,hx⟩:=hg
  obtain ⟨vs,rel,hat⟩:=frz_at I hq hd
  have hl:vs.length=n:=by rw [<- hn];exact rel.length.symm
  obtain ⟨f0,f1,f2,f3,f4,f5⟩:=hf it (by simp)
  have hge:vs.length<=i:=by rw [hl,<- hn];exact List.getElem?_eq_none_iff.mp hx
  exact wpAny_pyNext_dict_end (knd:=mixKind X.prog X.w) (I.ok.hd hc) (by rw [hl];exact st) hat (List.getElem?_eq_none_iff.mpr hge) fun h' eb=>⟨rfl,I.turned (t':=s.toks) (fun b o hb e=>eb b o hb e) f0 f1 f3 f4 f5⟩
 self:=fun _ _ _ _ _ st h=>wpAny_pyIter_keyiter st h
section
variable {X:Cx} {tg:Expr} {G:Ga} {M:MH} {iter elt:Expr} {ifs:List Expr} {Q:DK} {own N:List Str} {js:List Nat} {scope:Scope} {pos:Pos}
def iDic (tl:TE):TI:=fun σ H R=>tl σ H fun x H1=>∃ a ys,x=.ref a/\H1 a=some (.dK ys)/\∀ o,R (Itd o a ys.length) (upd H1 a (.frz o (.dK ys)))
theorem pi_dic {l:Expr} {tl:TE} (hl:PE X l tl):PI X tg l (iDic tl):=by
 intro pins s σ H R I h
 refine thn (hl pins s σ H _ I h) fun v s1 ⟨x,H1,I1,r1,q1⟩=>?_
 obtain ⟨a,ys,e,hq,q⟩:=q1
 subst e
 cases r1
 obtain ⟨z,hd,vs,rel,o,es,ep,h1,h2,h3,h4⟩:=dk_of I1.hok hq
 have I2:=inv_frz I1 hq h1
 refine wpAny_pyIter_dict (knd:=mixKind X.prog X.w) (kvs:=vs) (ep:=ep) hd ⟨o,es,h1,h2,h3,h4⟩ ?_
 have hn:upd H1 a (.frz o (.dK ys)) s1.heap.objs.size=none:=I2.hok.fresh (Nat.le_refl _)
 refine ⟨s1.heap.objs.size,[s1.heap.objs.size],_,_,upd H1 a (.frz o (.dK ys)),rfl,I2.kept (t':=s1.toks) fun b o e=>Heap.get?_push_of_some _ e,turn_dict (n:=ys.length) h3 a _,⟨_,Heap.get?_push_size _ rfl,rfl,by rw [rel.length];rfl⟩,fun b hb=>?_,q o⟩
 have e:b=s1.heap.objs.size:=by simpa using hb
 subst e
 exact I2.fpOk (Nat.le_refl _) hn
theorem kv_ix {H:Hp}:∀ {kvs:List (Str × D)} {ys:List (Key × V)} {i:Nat} {kv:Key × V},KvIs H kvs ys->ys[i]?=some kv->∃ k d,kvs[i]?=some (k,d)/\kv.1=Sum.inr k
 | [],ys,i,kv,h,e=>by
  have h:ys=[]:=h
  subst h;simp at e
 | (k,d) :: r,ys,i,kv,h,e=>by
  obtain ⟨v,ys',rfl,h1,h2⟩:=h
  cases i with
  | zero=>cases e;exact ⟨k,d,rfl,rfl⟩
  | succ i=>exact kv_ix (kvs:=r) h2 (by simpa using e)
theorem ev_comp_dic {cl:List (Str × Addr)} (T:CompOk X own js N scope cl) (hxe:X.xe=fun _ _=>False) (hc:X.calm=true) (f:D->D) (pr:D->Bool)
  (h:EV X G M iter fun d M1=>∃ (p:Addr) (kvs:List (Str × D)),d=.ref p/\M1 p=some (.dic kvs)/\kvs.length<=sizeLine/\∀ o,
   (∀ Y:Cx,(∃ C s H fp,Y=compCx X N scope cl C s H fp)->∀ M',Ext (mset M1 p (.rod o kvs)) M'->∀ k∈kvs.map (·.1),GV Y (compG own js G) M' tg (.str k) fun G3 M3=>M3=M'/\Sub (compG own js G) G3/\TVs Y G3 M' ifs (fun k' M4=>M4=M'/\k'=pr (.str k))/\(pr (.str k)=true->EV Y G3 M' elt fun o M4=>M4=M'/\o=f (.str k))) /\
   ∀ q,mset M1 p (.rod o kvs) q=none->Q (.ref q) (mset (mset M1 p (.rod o kvs)) q (.lst (((kvs.map fun kv=>D.str kv.1).filter pr).map f))))
  (hs:∀ x,foldedSetIterable iter X.env x=pure x):EV X G M (.ListComp elt [⟨tg,iter,ifs,0⟩] scope pos) Q:=by
 refine ev_comp T hxe hc (pi_dic (pe_D (G:=G))) f pr (fun σ H kf R=>?_) hs
 refine ⟨M,_,R,h,fun v H' d M' kf' g i R' q=>?_⟩
 obtain ⟨p,kvs,e,hp,hz,q⟩:=q
 subst e
 rw [is_ref] at i;subst i
 obtain ⟨ys,hy,hk⟩:=R'.mem p _ hp
 have nt:∀ xs,H' p≠some (.tup xs):=fun xs z=>by rw [hy] at z;cases z
 refine ⟨p,ys,rfl,hy,fun o=>?_⟩
 obtain ⟨block,fin⟩:=q o
 have gu:Grow H' (upd H' p (.frz o (.dK ys))):=grow_upd nt
 refine ⟨g.trans gu,mset M' p (.rod o kvs),kvs.map fun kv=>D.str kv.1,R'.to gu (R'.mem.put (u:=.rod o kvs) nt ⟨ys,upd_same,hk.grow gu⟩),fun H2 g2 m2=>?_,by rw [List.length_map];exact hz,fun Y hY M2 hM d hd=>?_,fin⟩
 ·obtain ⟨ys2,hy2,hk2⟩:=m2 p _ mset_same
  have hlen:=hk2.len
  have hlen1:=hk.len
  refine ⟨fun i e=>⟨ys2,hy2,by omega,List.getElem?_eq_none_iff.mpr (by rw [List.length_map] at e;omega)⟩,fun i hlt=>⟨⟨ys2,ys2[i]'(by rw [List.length_map] at hlt;omega),hy2,by omega,by simp⟩,fun x H3 y=>?_⟩⟩
  obtain ⟨e,y⟩:=y
  subst e
  obtain ⟨kv,e1,e2⟩:=y ys2 hy2
  obtain ⟨k,d,e3,e4⟩:=kv_ix hk2 e1
  refine ⟨Grow.refl _,fun _ _ z=>z,m2,.str k,by rw [List.getElem?_map,e3];rfl,?_⟩
  rw [e2,e4];exact is_str.mpr rfl
 ·obtain ⟨kv,hkv,e⟩:=List.mem_map.mp hd
  subst e
  exact block Y hY M2 hM kv.1 (List.mem_map.mpr ⟨kv,hkv,rfl⟩)
theorem ev_ixF {a b:Expr} (hu:X.A.units+64 < cLine) (h:EV X G M a fun da Ma=>EV X G Ma b fun db Mb=>∃ p o kvs k d,da=.ref p/\db=.str k/\Mb p=some (.rod o kvs)/\lkD kvs k=some d/\Q d Mb) (hs:PlainIx b):EV X G M (.Subscript a b pos) Q :=
 ev_ix (ix_dict (Nat.lt_of_le_of_lt (by omega) hu)) hs (h.mono fun _ _ h1=>h1.mono fun _ Mb ⟨p,o,kvs,k,d,e1,e2,hp,hl,q⟩=>by
  subst e1;subst e2
  intro H x y kf hx hy m
  rw [is_ref] at hx;subst hx
  rw [is_str] at hy;subst hy
  obtain ⟨ys,hys,hk⟩:=m p _ hp
  obtain ⟨v,h1,h2⟩:=hk.get hl
  exact ⟨p,v,rfl,.inl ⟨ys,Sum.inr k,.inr ⟨o,hys⟩,rfl,h1.symm⟩,fun _=>⟨Grow.refl _,d,Mb,h2,m,q⟩⟩)
end
end D3
namespace HT
open PySem PySem.Spec PyProof.Rows
section
variable {prog:Program} {w:World} {A:Around} {E:Value->Shared->Prop} {s:Shared}
theorem getItem_tuple_all {t sl:Addr} {items:Array Value} {vl vu:Value} {lo hi:Option Int} {Q:Value->Shared->Prop} (ht:IsTup s.heap t items) (hs:s.heap.IsSliceOf sl vl vu .none) (pl:IsPart vl lo) (pu:IsPart vu hi)
  (hw:sIx items.size 0 lo=0/\sIx items.size items.size hi=items.size) (h:Q (.ref t) s):wpAny (model prog w) A (getItem (.ref t) (.ref sl)) Q E s:=by
 obtain ⟨os,hos,hcs,hds⟩:=id hs
 have hTs:s.TypeIs (.ref sl) "slice" := ⟨os,hos,hcs⟩
 unfold getItem
 try with_reducible refine wpAny_holding ?_
 first | refine wpAny_bind (wpAny_pure ?_) | skip
 refine wpAny_bind (wpAny_sequenceKey ht.typeIs (by decide) ?_)
 refine wpAny_bind (wpAny_callSpecial?_slot (name:=Str.ofString "__getitem__") ht.typeIs PyProof.Rows.slot_tuple_getitem
  (wpAny_call_entry PyProof.Rows.slot_tuple_getitem ht.typeIs entry_tuple_getitem ?_ (args_tuple_getitem _ _)))
 show wpAny _ _ (Builtin.Tuple.tupleItemsOf (.ref t) >>= _) _ _ s
 refine wpAny_bind (tupleItemsOf_ ht ?_)
 refine wpAny_bind (wpAny_typeOf hTs ?_)
 rw [if_pos (by decide)]
 refine wpAny_bind (sliceApplied_gen hs pl pu ?_)
 rw [hw.1,hw.2]
 show wpAny _ _ (if (((0:Nat):Int) == 0 && (1:Int) == 1 && (items.size - 0) == items.size)=true then _ else _) _ _ s
 rw [if_pos (by simp)]
 refine wpAny_bind (m:=Builtin.Tuple.tupleIsExact _) ?_
 obtain ⟨o,e1,e2,_⟩:=id ht
 unfold Builtin.Tuple.tupleIsExact
 refine wpAny_bind (wpAny_typeOf_ref e1 ?_)
 rw [e2]
 refine wpAny_pure ?_
 show wpAny _ _ (if ((Value.type "tuple" == Value.type "tuple")=true) then _ else _) _ _ s
 rw [if_pos (by decide)]
 refine wpAny_bind (wpAny_rule ?_)
 first
  | exact wpAny_pure ⟨_,rfl,wpAny_pure h⟩
  | exact wpAny_bind (wpAny_pure (wpAny_pure ⟨_,rfl,wpAny_pure h⟩))
end
end HT
namespace D3
open PySem PySem.Spec PyProof.Rows L2
def rSlA (K:PySem.W.Frag):V->Option Int->Option Int->Hp->VK->Prop:=fun x lo hi H Q=>∃ a xs,x=.ref a/\SqT K H a xs /\
 ((HT.sIx xs.length 0 lo=0/\HT.sIx xs.length xs.length hi=xs.length)->Q (.ref a) H)/\(¬ (HT.sIx xs.length 0 lo=0/\HT.sIx xs.length xs.length hi=xs.length)->∀ p,H p=none->Q (.ref p) (upd H p (.tup (cutV xs lo hi))))
section
variable {X:Cx} {G:Ga} {M:MH} {Q:DK} {a b:Expr} {pos:Pos}
theorem sl_all:SlR X (rSlA X.K):=by
 intro pins s σ H x v vl vu lo hi sl Q I rx hs pl pu h
 obtain ⟨a,xs,rfl,hx,q1,q2⟩:=h
 by_cases hw:HT.sIx xs.length 0 lo=0/\HT.sIx xs.length xs.length hi=xs.length
 ·cases rx
  obtain ⟨its,r,ht,hz⟩:=I.tuple hx
  have hlen:its.toArray.size=xs.length:=by rw [List.size_toArray];exact r.length.symm
  refine ⟨"tuple",_,PyProof.Rows.slot_tuple_getitem.lookup,ht.typeIs,?_⟩
  refine HT.getItem_tuple_all ht hs pl pu (by rw [hlen];exact hw) ?_
  exact ⟨.ref a,H,I,rfl,q1 hw⟩
 ·exact sl_tup pins s σ H (.ref a) v vl vu lo hi sl Q I rx hs pl pu ⟨a,xs,rfl,hx,hw,q2 hw⟩
theorem cutD_all {ds:List D} {lo hi:Option Int} (hw:HT.sIx ds.length 0 lo=0/\HT.sIx ds.length ds.length hi=ds.length):cutD ds lo hi=ds:=by
 unfold cutD
 rw [hw.1,hw.2]
 simp
theorem rs_tupA {da:D} {lo hi:Option Int} {ds:List D} (e:da=.tup ds) (h:Q (.tup (cutD ds lo hi)) M):RS X.K (rSlA X.K) da lo hi M Q:=by
 intro H x kf hx m
 subst e
 rw [is_tup] at hx
 obtain ⟨a,xs,rfl,h1,h2⟩:=hx
 have hc:=h2.cut lo hi
 have hl:=h2.len
 refine ⟨a,xs,rfl,SqT.of h1,fun hw _=>?_,fun hw p hp _=>⟨grow_new hp,.tup _,M,is_tup.mpr ⟨p,_,rfl,upd_same,hc.grow (grow_new hp)⟩,m.new hp,h⟩⟩
 rw [<- hl] at hw
 rw [cutD_all hw] at h
 exact ⟨Grow.refl _,.tup ds,M,is_tup.mpr ⟨a,xs,rfl,h1,h2⟩,m,h⟩
end
end D3
namespace D3
open PySem PySem.Spec PyProof.Rows L2
section
variable {X:Cx} {G:Ga} {M:MH} {elt tg iter e:Expr} {scope:Scope} {pos:Pos} {Q:DK} {own:List Str} {js:List Nat} {N:List Str} {cl:List (Str × Addr)}
end
end D3
namespace KA
open PySem PySem.Spec PyProof.Rows L2 D3 K01
def cf:List (Str × Int)->Str->Int
 | [],_=>0
 | t :: r,s=>(if t.1=s then t.2 else 0)+cf r s
theorem cf_append (s:Str):∀ a b:List (Str × Int),cf (a++b) s=cf a s+cf b s
 | [],b=>by show cf b s=0+cf b s;omega
 | t :: a,b=>by
  show (if t.1=s then t.2 else 0)+cf (a++b) s=(if t.1=s then t.2 else 0)+cf a s+cf b s
  rw [cf_append s a b];omega
theorem cf_none (s:Str):∀ ts:List (Str × Int),s∉ts.map (·.1)->cf ts s=0
 | [],_=>rfl
 | t :: r,h=>by
  show (if t.1=s then t.2 else 0)+cf r s=0
  rw [if_neg (fun z=>h (by rw [<- z];exact List.mem_cons_self ..)),cf_none s r (fun z=>h (List.mem_cons_of_mem _ z))];rfl
def sumC:List Row3->List Int->Str->Int
 | r :: rows,w :: ws,s=>w * cf r.ts s+sumC rows ws s
 | _,_,_=>0
def sumB:List Row3->List Int->Int
 | r :: rows,w :: ws=>w * r.b+sumB rows ws
 | _,_=>0
theorem sumC_snoc {r:Row3} {w:Int} {s:Str}:∀ {rows:List Row3} {ws:List Int},rows.length=ws.length->sumC (rows++[r]) (ws++[w]) s=sumC rows ws s+w * cf r.ts s
 | [],[],_=>by show w * cf r.ts s+0=0+w * cf r.ts s;omega
 | [],_ :: _,h=>by cases h
 | _ :: _,[],h=>by cases h
 | a :: rows,b :: ws,h=>by
  show b * cf a.ts s+sumC (rows++[r]) (ws++[w]) s=b * cf a.ts s+sumC rows ws s+w * cf r.ts s
  rw [sumC_snoc (by simpa using h)];omega
theorem sumB_snoc {r:Row3} {w:Int}:∀ {rows:List Row3} {ws:List Int},rows.length=ws.length->sumB (rows++[r]) (ws++[w])=sumB rows ws+w * r.b
 | [],[],_=>by show w * r.b+0=0+w * r.b;omega
 | [],_ :: _,h=>by cases h
 | _ :: _,[],h=>by cases h
 | a :: rows,b :: ws,h=>by
  show b * a.b+sumB (rows++[r]) (ws++[w])=b * a.b+sumB rows ws+w * r.b
  rw [sumB_snoc (by simpa using h)];omega
theorem anyMore_snoc {r:Row3} {w:Int} {rows:List Row3} {ws:List Int} (h:rows.length=ws.length):anyMore (rows++[r]) (ws++[w])=(anyMore rows ws || (!r.k && decide (w > 0))):=by
 unfold anyMore
 rw [List.zipWith_append h,List.any_append]
 simp
structure RowOk (r:Row3):Prop where
 nd:(r.ts.map (·.1)).Nodup
 len:r.ts.length<=5
 wt:∀ t∈r.ts,B 84 t.2
 bb:B 84 r.b
 ok:∀ t∈r.ts,PyData.strOk t.1=true
theorem cf_le {s:Str}:∀ {ts:List (Str × Int)},(∀ t∈ts,B 84 t.2)->(cf ts s).natAbs<=ts.length * 2 ^ 84
 | [],_=>Nat.zero_le _
 | t :: r,h=>by
  have ih:=cf_le (s:=s) fun x hx=>h x (List.mem_cons_of_mem _ hx)
  have h1:t.2.natAbs < 2 ^ 84:=h t (List.mem_cons_self ..)
  show ((if t.1=s then t.2 else 0)+cf r s).natAbs<=(r.length+1) * 2 ^ 84
  have e:(2:Nat) ^ 84=19342813113834066795298816:=by decide +kernel
  rw [e] at *
  split<;>omega
theorem RowOk.cf {r:Row3} (h:RowOk r) (s:Str):B 87 (cf r.ts s):=by
 have h1:=cf_le (s:=s) h.wt
 have h2:=h.len
 have e:(2:Nat) ^ 84=19342813113834066795298816:=by decide +kernel
 have e3:(2:Nat) ^ 87=154742504910672534362390528:=by decide +kernel
 unfold B
 rw [e] at h1;rw [e3]
 omega
abbrev valsD (ts:List (Str × Int)):List (Str × D):=ts.map fun t=>(t.1,D.int t.2)
theorem trm_pairs (ts:List (Str × Int)):trm ts=.tup ((valsD ts).map pairD):=by
 unfold trm valsD
 rw [List.map_map]
 rfl
theorem vals_keys (ts:List (Str × Int)):(valsD ts).map (·.1)=ts.map (·.1):=by
 unfold valsD
 rw [List.map_map]
 rfl
theorem lk_cf (s:Str):∀ ts:List (Str × Int),(ts.map (·.1)).Nodup->(lkD (valsD ts) s).getD (.int 0)=.int (cf ts s)
 | [],_=>rfl
 | t :: r,h=>by
  rw [List.map_cons,List.nodup_cons] at h
  have ih:=lk_cf s r h.2
  show (lkD ((t.1,D.int t.2) :: valsD r) s).getD (.int 0)=.int ((if t.1=s then t.2 else 0)+cf r s)
  by_cases z:t.1=s
  ·subst z
   have e:lkD ((t.1,D.int t.2) :: valsD r) t.1=some (.int t.2):=by unfold lkD;simp
   rw [e,if_pos rfl,cf_none _ _ h.1]
   show D.int t.2=_
   congr 1;omega
  ·have e:lkD ((t.1,D.int t.2) :: valsD r) s=lkD (valsD r) s:=by show (if t.1=s then some (D.int t.2) else lkD (valsD r) s)=_;rw [if_neg z]
   rw [e,if_neg z,ih]
   congr 1;omega
def Good (rows:List Row3) (ws:List Int):Prop:=ws.length=rows.length/\(∀ w∈ws,0<=w)/\(∀ s,sumC rows ws s=0)/\barred rows ws (sumB rows ws)=true
open Classical in
noncomputable def showsB (rows:List Row3) (ws:List Int):Bool:=decide (Good rows ws)
open Classical in
theorem showsF {rows:List Row3} {ws:List Int} (h:¬ Good rows ws):showsB rows ws=false:=by unfold showsB;exact decide_eq_false h
open Classical in
theorem showsEq {rows:List Row3} {ws:List Int} (h1:ws.length=rows.length) (h2:∀ w∈ws,0<=w) (h3:∀ s,sumC rows ws s=0):showsB rows ws=barred rows ws (sumB rows ws):=by
 unfold showsB
 cases e:barred rows ws (sumB rows ws) with
 | true=>exact decide_eq_true ⟨h1,h2,h3,e⟩
 | false=>exact decide_eq_false fun z=>by rw [z.2.2.2] at e;cases e
def sides (rows:List Row3) (ws:List Int) (ss:List Str):List Int:=ss.map (sumC rows ws)++[sumB rows ws]
theorem sumC_named {rows:List Row3} {ws:List Int} {s:Str} (h:¬ Named rows s):sumC rows ws s=0:=by
 induction rows generalizing ws with
 | nil=>rfl
 | cons r rows ih =>
  cases ws with
  | nil=>rfl
  | cons w ws =>
   show w * cf r.ts s+sumC rows ws s=0
   rw [cf_none s r.ts (fun z=>h ⟨r,List.mem_cons_self ..,z⟩),ih (fun ⟨r',h1,h2⟩=>h ⟨r',List.mem_cons_of_mem _ h1,h2⟩)]
   omega
def spSides:SpD:=fun ds M Q=>∃ (r:Row3) (p:Addr) (ss:List Str),ds=[r.d,.ref p]/\M p=some (.lst (ss.map D.str))/\RowOk r/\ss.length<=100/\∀ M',Ext M M'->Q (.tup ((ss.map (cf r.ts)++[r.b]).map D.int)) M'
def spWhole:SpD:=fun ds M Q=>∃ n:Int,ds=[.int n]/\Q (.bl true) M
def sideF (ts:List (Str × Int)):D->D
 | .str s=>.int (cf ts s)
 | d=>d
theorem side_map (ts:List (Str × Int)) (ss:List Str):((ss.map D.str).filter fun _=>true).map (sideF ts)=(ss.map (cf ts)).map D.int:=by
 rw [List.filter_eq_self.mpr (by simp),List.map_map,List.map_map]
 rfl
theorem cutT (ds:List D) (k:Nat):D3.cutD ds none (some (k:Int))=ds.take k:=by
 unfold D3.cutD
 rw [HT.sIx_nat,HT.sIx_none]
 rw [List.drop_zero,Nat.sub_zero]
 by_cases h:k<=ds.length
 ·rw [Nat.min_eq_left h]
 ·rw [Nat.min_eq_right (by omega),List.take_length,List.take_of_length_le (by omega)]
theorem cutR (ds:List D) (k:Nat):D3.cutD ds (some (k:Int)) none=ds.drop k:=by
 unfold D3.cutD
 rw [HT.sIx_nat,HT.sIx_none]
 by_cases h:k<=ds.length
 ·rw [Nat.min_eq_left h,List.take_of_length_le (by rw [List.length_drop];omega)]
 ·rw [Nat.min_eq_right (by omega),Nat.sub_self,List.take_zero,List.drop_of_length_le (by omega)]
def Sums (kvs:List (Str × D)) (f:Str->Int):Prop:=∀ s,(lkD kvs s).getD (.int 0)=.int (f s)
theorem Sums.put {kvs:List (Str × D)} {f g:Str->Int} (h:Sums kvs f) (k:Str) (y:Int) (e:∀ s,g s=if k=s then y else f s):Sums (putD kvs k (.int y)) g:=fun s=>by
 rw [lkD_put,e s]
 split
 ·rfl
 ·exact h s
theorem Sums.congr {kvs:List (Str × D)} {f g:Str->Int} (h:Sums kvs f) (e:∀ s,f s=g s):Sums kvs g:=fun s=>by rw [h s,e s]
def neP (f:Str->Int):D->Bool
 | .str s=>!decide (f s=0)
 | _=>false
theorem Sums.none {kvs:List (Str × D)} {f:Str->Int} (h:Sums kvs f):(((kvs.map fun kv=>D.str kv.1).filter (neP f)).map fun d=>d).length=0 ↔ ∀ s,f s=0:=by
 rw [List.length_map,List.length_eq_zero_iff,List.filter_eq_nil_iff]
 constructor
 ·intro hf s
  by_cases hs:s∈kvs.map (·.1)
  ·obtain ⟨kv,h1,h2⟩:=List.mem_map.mp hs
   have:=hf (.str kv.1) (List.mem_map.mpr ⟨kv,h1,rfl⟩)
   rw [h2] at this
   simpa [neP] using this
  ·have:=h s
   rw [lkD_none hs] at this
   have:D.int 0=D.int (f s):=this
   injection this with this
   exact this.symm
 ·intro hf d hd
  obtain ⟨kv,h1,rfl⟩:=List.mem_map.mp hd
  simp [neP,hf kv.1]
theorem barred_law (bd:Int) (mo:Bool):(decide (bd > 0) || (mo && decide (bd=0)))=(decide (bd > 0) || (decide (bd=0) && mo)):=by rw [Bool.and_comm mo]
def vI (kvs:List (Str × D)) (s:Str):Int:=match lkD kvs s with
 | some (.int x)=>x
 | _=>0
def pairF (kvs:List (Str × D)):D->D
 | .str s=>tD (s,vI kvs s)
 | d=>d
def turnedT (kvs:List (Str × D)) (ss:List Str):List (Str × Int):=(ss.filter fun s=>!decide (vI kvs s=0)).map fun s=>(s,vI kvs s)
theorem turned_map (kvs:List (Str × D)):∀ ss:List Str,((ss.map D.str).filter (neP (vI kvs))).map (pairF kvs)=(turnedT kvs ss).map tD
 | []=>rfl
 | s :: ss=>by
  have ih:=turned_map kvs ss
  unfold turnedT at ih ⊢
  rw [List.map_cons,List.filter_cons,List.filter_cons]
  show List.map (pairF kvs) (if (!decide (vI kvs s=0))=true then _ else _)=_
  split
  ·rw [List.map_cons,ih];rfl
  ·exact ih
theorem len_sub:∀ {l m:List Str},l.Nodup->(∀ x∈l,x∈m)->l.length<=m.length
 | [],_,_,_=>Nat.zero_le _
 | a :: l,m,h,hs=>by
  rw [List.nodup_cons] at h
  have ha:=hs a (List.mem_cons_self ..)
  have ih:=len_sub (m:=m.erase a) h.2 fun x hx=>(List.mem_erase_of_ne (fun z=>h.1 (by rw [<- z];exact hx))).mpr (hs x (List.mem_cons_of_mem _ hx))
  rw [List.length_erase_of_mem ha] at ih
  have:=List.length_pos_of_mem ha
  rw [List.length_cons];omega
structure DicOk (kvs:List (Str × D)) (ss:List Str) (n:Nat):Prop where
 nd:(kvs.map (·.1)).Nodup
 all:∀ kv∈kvs,kv.1∈ss/\∃ x:Int,kv.2=.int x/\x.natAbs<=n * 2 ^ 72
theorem mem_putD {kvs:List (Str × D)} {k:Str} {d:D} {kv:Str × D} (h:kv∈putD kvs k d):kv=(k,d)\/kv∈kvs:=by
 unfold putD at h
 split at h
 ·obtain ⟨x,hx,e⟩:=List.mem_map.mp h
  split at e
  ·rename_i z;left;rw [<- e,z]
  ·right;rw [<- e];exact hx
 ·rcases List.mem_append.mp h with h | h
  ·exact .inr h
  ·exact .inl (List.mem_singleton.mp h)
theorem DicOk.put {kvs:List (Str × D)} {ss:List Str} {n m:Nat} (h:DicOk kvs ss n) {k:Str} {y:Int} (hk:k∈ss) (hy:y.natAbs<=m * 2 ^ 72) (hm:n<=m):DicOk (putD kvs k (.int y)) ss m:=by
 refine ⟨nodup_put h.nd,fun kv hkv=>?_⟩
 rcases mem_putD hkv with rfl | hkv
 ·exact ⟨hk,y,rfl,hy⟩
 ·obtain ⟨h1,x,h2,h3⟩:=h.all kv hkv
  exact ⟨h1,x,h2,Nat.le_trans h3 (Nat.mul_le_mul_right _ hm)⟩
theorem DicOk.get {kvs:List (Str × D)} {ss:List Str} {n:Nat} (h:DicOk kvs ss n) (k:Str):(lkD kvs k).getD (.int 0)=.int (vI kvs k)/\(vI kvs k).natAbs<=n * 2 ^ 72:=by
 unfold vI
 by_cases hk:k∈kvs.map (·.1)
 ·obtain ⟨d,e,hm⟩:=lkD_some hk
  obtain ⟨_,x,h2,h3⟩:=h.all _ hm
  have h2:d=.int x:=h2
  rw [e,h2]
  exact ⟨rfl,h3⟩
 ·rw [lkD_none hk]
  exact ⟨rfl,Nat.zero_le _⟩
theorem DicOk.mono {kvs:List (Str × D)} {ss:List Str} {n m:Nat} (h:DicOk kvs ss n) (hm:n<=m):DicOk kvs ss m :=
 ⟨h.nd,fun kv hkv=>by obtain ⟨h1,x,h2,h3⟩:=h.all kv hkv;exact ⟨h1,x,h2,Nat.le_trans h3 (Nat.mul_le_mul_right _ hm)⟩⟩
theorem DicOk.len {kvs:List (Str × D)} {ss:List Str} {n:Nat} (h:DicOk kvs ss n):kvs.length<=ss.length:=by
 have:=len_sub h.nd (m:=ss) fun x hx=>by
  obtain ⟨kv,h1,rfl⟩:=List.mem_map.mp hx
  exact (h.all kv h1).1
 rwa [List.length_map] at this
theorem DicOk.row {kvs:List (Str × D)} {ss ss':List Str} {n:Nat} (h:DicOk kvs ss n) (hso:∀ s∈ss,PyData.strOk s=true) (hs:ss.length<=4) (hn:n<=50) (hp:ss'.Perm (kvs.map (·.1))) {b:Int} (hb:B 84 b) (k:Bool):RowOk ⟨k,turnedT kvs ss',b⟩:=by
 have e:(turnedT kvs ss').map (·.1)=ss'.filter fun s=>!decide (vI kvs s=0):=by
  unfold turnedT
  rw [List.map_map]
  exact List.map_id' _
 have hl:=h.len
 have hl2:=hp.length_eq
 rw [List.length_map] at hl2
 refine ⟨by rw [e];exact (hp.nodup_iff.mpr h.nd).sublist List.filter_sublist,?_,fun t ht=>?_,hb,fun t ht=>?_⟩
 ·show (turnedT kvs ss').length<=5
  unfold turnedT
  rw [List.length_map]
  have:=List.length_filter_le (fun s=>!decide (vI kvs s=0)) ss'
  omega
 ·obtain ⟨s,_,rfl⟩:=List.mem_map.mp ht
  have:=(h.get s).2
  show B 84 (vI kvs s)
  unfold B
  have e1:(2:Nat) ^ 72=4722366482869645213696:=by decide +kernel
  have e2:(2:Nat) ^ 84=19342813113834066795298816:=by decide +kernel
  rw [e1] at this;rw [e2];omega
 ·obtain ⟨s,hs',rfl⟩:=List.mem_map.mp ht
  obtain ⟨kv,h1,h2⟩:=List.mem_map.mp (hp.mem_iff.mp (List.mem_filter.mp hs').1)
  have:=(h.all kv h1).1
  rw [h2] at this
  exact hso s this
theorem imm_row' {k:Bool} {ts:List (Str × Int)} {b:Int} (h:∀ t∈ts,PyData.strOk t.1=true):imm (rowD k ts b)=true:=imm_tup fun d hd=>by
 simp only [List.mem_cons,List.not_mem_nil,or_false] at hd
 rcases hd with rfl | rfl | rfl
 ·cases k<;>decide +kernel
 ·refine imm_tup fun d hd=>?_
  obtain ⟨t,ht,rfl⟩:=List.mem_map.mp hd
  refine imm_tup fun d hd=>?_
  simp only [List.mem_cons,List.not_mem_nil,or_false] at hd
  rcases hd with rfl | rfl
  ·exact h t ht
  ·rfl
 ·rfl
theorem imm_rows {rows:List Row3} (h:∀ r∈rows,RowOk r):immL (rows.map Row3.d)=true:=immL_of fun d hd=>by
 obtain ⟨r,hr,rfl⟩:=List.mem_map.mp hd
 exact imm_row' (h r hr).ok
theorem depth_rows (rows:List Row3):PyData.depthAll (pdL (rows.map Row3.d))<=59:=Nat.le_trans (depthAll_le (n:=3) fun d hd=>by
 obtain ⟨r,hr,rfl⟩:=List.mem_map.mp hd
 exact depth_row r.k r.ts r.b) (by decide)
theorem step72 {x y:Int} {n:Nat} (h:x.natAbs<=n * 2 ^ 72) (hy:B 70 y):(x - y).natAbs<=(n+1) * 2 ^ 72:=by
 have hy:y.natAbs < 2 ^ 70:=hy
 have e1:(2:Nat) ^ 72=4722366482869645213696:=by decide +kernel
 have e2:(2:Nat) ^ 70=1180591620717411303424:=by decide +kernel
 rw [e1] at h ⊢;rw [e2] at hy
 omega
end KA
namespace KA
open PySem PySem.Spec PyProof.Rows L2 D3 K01
def wv (w:List Int):Vec:=fun i=>w.getD i 0
theorem wv_inj {u v:List Int} (h:u.length=v.length) (e:wv u=wv v):u=v :=
 List.ext_getElem h fun i h1 h2=>by
  have:=congrFun e i
  unfold wv at this
  rw [List.getD_eq_getElem?_getD,List.getD_eq_getElem?_getD,List.getElem?_eq_getElem h1,List.getElem?_eq_getElem h2] at this
  exact this
theorem wv_put {a b:Int} {l u:List Int} (h:l.length=u.length):wv (putL a b l u)=fun i=>a * wv l i+b * wv u i:=funext fun i=>by
 unfold wv putL
 rw [List.getD_eq_getElem?_getD,List.getD_eq_getElem?_getD,List.getD_eq_getElem?_getD,List.getElem?_zipWith]
 by_cases hi:i < l.length
 ·rw [List.getElem?_eq_getElem hi,List.getElem?_eq_getElem (h ▸ hi)];rfl
 ·rw [List.getElem?_eq_none (by omega),List.getElem?_eq_none (by omega)];simp
theorem put_len {a b:Int} {l u:List Int} (h:l.length=u.length):(putL a b l u).length=l.length:=by unfold putL;rw [List.length_zipWith];omega
def mask:List Int->Nat
 | []=>0
 | x :: r=>(if 0 < x then 1 else 0)+2 * mask r
theorem mask_bit:∀ (w:List Int) (i:Nat),(mask w).testBit i=decide (0 < wv w i)
 | [],i=>by unfold mask wv;simp
 | x :: r,0=>by
  unfold mask wv
  rw [Nat.testBit_zero]
  show decide (_ % 2=1)=decide (0 < x)
  by_cases h:0 < x
  ·rw [if_pos h,decide_eq_true h];exact decide_eq_true (by omega)
  ·rw [if_neg h,decide_eq_false h];exact decide_eq_false (by omega)
 | x :: r,i+1=>by
  have ih:=mask_bit r i
  unfold mask
  rw [Nat.testBit_succ]
  have e:((if 0 < x then 1 else 0)+2 * mask r) / 2=mask r:=by split<;>omega
  rw [e,ih]
  rfl
theorem mask_lt:∀ w:List Int,mask w < 2 ^ w.length
 | []=>by decide
 | x :: r=>by
  have:=mask_lt r
  unfold mask
  rw [List.length_cons,Nat.pow_succ]
  split<;>omega
theorem mask_sub {u v:List Int} {m:Nat}:mask u ||| m=m ↔ ∀ i,0 < wv u i->m.testBit i=true:=by
 constructor
 ·intro h i hi
  have:=congrArg (fun x=>Nat.testBit x i) h
  simp only [Nat.testBit_or,mask_bit,decide_eq_true hi,Bool.true_or] at this
  exact this.symm
 ·intro h
  refine Nat.eq_of_testBit_eq fun i=>?_
  rw [Nat.testBit_or,mask_bit]
  by_cases hi:0 < wv u i
  ·rw [h i hi,Bool.or_true]
  ·rw [decide_eq_false hi,Bool.false_or]
theorem mask_or {l u:List Int} (i:Nat):(mask l ||| mask u).testBit i=true ↔ 0 < wv l i\/0 < wv u i:=by
 rw [Nat.testBit_or,mask_bit,mask_bit,Bool.or_eq_true,decide_eq_true_iff,decide_eq_true_iff]
def withinB (m:Nat) (r:List Int):Bool:=decide (mask r ||| m=m)
def needB (st:List (List Int)) (l u:List Int):Bool:=decide ((st.filter (withinB (mask l ||| mask u))).length=2)
def joinsL (A:List Int->Int) (st:List (List Int)) (l:List Int):List (List Int):=((st.filter fun u=>decide (A u < 0)).filter (needB st l)).map fun u=>putL (-A u) (A l) l u
def nextL (A:List Int->Int) (st:List (List Int)):List (List Int):=(st.filter fun r=>decide (A r=0))++(st.filter fun l=>decide (0 < A l)).flatMap (joinsL A st)
theorem len_subG {α:Type} [DecidableEq α] : ∀ {l m:List α},l.Nodup->(∀ x∈l,x∈m)->l.length<=m.length
 | [],_,_,_=>Nat.zero_le _
 | a :: l,m,h,hs=>by
  rw [List.nodup_cons] at h
  have ha:=hs a (List.mem_cons_self ..)
  have ih:=len_subG (m:=m.erase a) h.2 fun x hx=>(List.mem_erase_of_ne (fun z=>h.1 (by rw [<- z];exact hx))).mpr (hs x (List.mem_cons_of_mem _ hx))
  rw [List.length_erase_of_mem ha] at ih
  have:=List.length_pos_of_mem ha
  rw [List.length_cons];omega
def gOf (st:List (List Int)) (r:Vec):Prop:=∃ w∈st,r=wv w
structure StL (n:Nat) (st:List (List Int)) (C:Vec->Prop):Prop where
 len:∀ w∈st,w.length=n
 nd:st.Nodup
 sg:Stage n (gOf st) C
theorem need_iff {n:Nat} {st:List (List Int)} {C:Vec->Prop} (S:StL n st C) {l u:List Int} (hl:l∈st) (hu:u∈st) (ne:l≠u):needB st l u=true ↔ Need (gOf st) (wv l) (wv u):=by
 unfold needB
 rw [decide_eq_true_iff]
 have fn:=S.nd.sublist (List.filter_sublist (l:=st) (p:=withinB (mask l ||| mask u)))
 have mf:∀ t,t∈st.filter (withinB (mask l ||| mask u)) ↔ t∈st/\∀ i,0 < wv t i->0 < wv l i\/0 < wv u i:=fun t=>by
  rw [List.mem_filter]
  unfold withinB
  rw [decide_eq_true_iff,mask_sub (v:=t)]
  exact and_congr_right fun _=>forall_congr' fun i=>imp_congr_right fun _=>mask_or i
 have l1:l∈st.filter (withinB (mask l ||| mask u)):=(mf l).mpr ⟨hl,fun i h=>.inl h⟩
 have u1:u∈st.filter (withinB (mask l ||| mask u)):=(mf u).mpr ⟨hu,fun i h=>.inr h⟩
 constructor
 ·rintro h t ⟨w,hw,rfl⟩ ht
  by_cases z:w=l
  ·exact .inl (by rw [z])
  by_cases y:w=u
  ·exact .inr (by rw [y])
  have:=len_subG (l:=[l,u,w]) (m:=st.filter (withinB (mask l ||| mask u))) (by simp [ne,Ne.symm z,Ne.symm y]) (by
   intro x hx
   simp only [List.mem_cons,List.not_mem_nil,or_false] at hx
   rcases hx with rfl | rfl | rfl
   ·exact l1
   ·exact u1
   ·exact (mf _).mpr ⟨hw,ht⟩)
  rw [h] at this
  simp at this
 ·intro h
  have a:=len_subG (l:=[l,u]) (m:=st.filter (withinB (mask l ||| mask u))) (by simp [ne]) (by
   intro x hx
   simp only [List.mem_cons,List.not_mem_nil,or_false] at hx
   rcases hx with rfl | rfl
   ·exact l1
   ·exact u1)
  have b:=len_subG (m:=[l,u]) fn fun x hx=>by
   obtain ⟨h1,h2⟩:=(mf x).mp hx
   have hx:=S.len x h1
   rcases h _ ⟨x,h1,rfl⟩ h2 with e | e
   ·rw [wv_inj (by rw [hx,S.len l hl]) e];simp
   ·rw [wv_inj (by rw [hx,S.len u hu]) e];simp
  simp at a b
  omega
theorem mem_next {A:List Int->Int} {st:List (List Int)} {w:List Int}:w∈nextL A st ↔ (w∈st/\A w=0)\/∃ l u,l∈st/\u∈st/\0 < A l/\A u < 0/\needB st l u=true/\putL (-A u) (A l) l u=w:=by
 unfold nextL joinsL
 simp only [List.mem_append,List.mem_filter,List.mem_flatMap,List.mem_map,decide_eq_true_iff]
 constructor
 ·rintro (h | ⟨l,⟨h1,h2⟩,u,⟨⟨h3,h4⟩,h5⟩,h6⟩)
  ·exact .inl h
  ·exact .inr ⟨l,u,h1,h3,h2,h4,h5,h6⟩
 ·rintro (h | ⟨l,u,h1,h3,h2,h4,h5,h6⟩)
  ·exact .inl h
  ·exact .inr ⟨l,⟨h1,h2⟩,u,⟨⟨h3,h4⟩,h5⟩,h6⟩
theorem StL.next {n:Nat} {st:List (List Int)} {C:Vec->Prop} {A:List Int->Int} {A':Vec->Int} (S:StL n st C) (hA:Lin A') (hC:Spc C) (e:∀ w,w.length=n->A w=A' (wv w)):StL n (nextL A st) (fun w=>C w/\A' w=0):=by
 have jn:∀ {l u},l∈st->u∈st->wv (putL (-A u) (A l) l u)=join A' (wv l) (wv u):=fun {l u} hl hu=>by
  rw [wv_put (by rw [S.len l hl,S.len u hu]),e l (S.len l hl),e u (S.len u hu)];rfl
 have eq:gOf (nextL A st)=Nxt (gOf st) A':=funext fun r=>propext <| by
  constructor
  ·rintro ⟨w,hw,rfl⟩
   rcases mem_next.mp hw with ⟨h1,h2⟩ | ⟨l,u,h1,h2,h3,h4,h5,rfl⟩
   ·exact .inl ⟨⟨w,h1,rfl⟩,by rw [<- e w (S.len w h1)];exact h2⟩
   ·refine .inr ⟨wv l,wv u,⟨l,h1,rfl⟩,⟨u,h2,rfl⟩,by rw [<- e l (S.len l h1)];exact h3,by rw [<- e u (S.len u h2)];exact h4,(need_iff S h1 h2 fun z=>by rw [z] at h3;omega).mp h5,jn h1 h2⟩
  ·rintro (⟨⟨w,hw,rfl⟩,h⟩ | ⟨_,_,⟨l,hl,rfl⟩,⟨u,hu,rfl⟩,h3,h4,h5,rfl⟩)
   ·exact ⟨w,mem_next.mpr (.inl ⟨hw,by rw [e w (S.len w hw)];exact h⟩),rfl⟩
   ·rw [<- e l (S.len l hl)] at h3
    rw [<- e u (S.len u hu)] at h4
    exact ⟨_,mem_next.mpr (.inr ⟨l,u,hl,hu,h3,h4,(need_iff S hl hu fun z=>by rw [z] at h3;omega).mpr h5,rfl⟩),(jn hl hu).symm⟩
 have lenN:∀ w∈nextL A st,w.length=n:=fun w hw=>by
  rcases mem_next.mp hw with ⟨h1,_⟩ | ⟨l,u,h1,h2,_,_,_,rfl⟩
  ·exact S.len w h1
  ·rw [put_len (by rw [S.len l h1,S.len u h2]),S.len l h1]
 have inj:∀ {l u l' u'},l∈st->u∈st->0 < A l->A u < 0->needB st l u=true->l'∈st->u'∈st->0 < A l'->A u' < 0->putL (-A u') (A l') l' u'=putL (-A u) (A l) l u->l'=l/\u'=u:=by
  intro l u l' u' h1 h2 h3 h4 h5 k1 k2 k3 k4 he
  have hv:=congrArg wv he
  rw [jn h1 h2,jn k1 k2] at hv
  have q:=S.sg.inj (A:=A') ⟨l,h1,rfl⟩ ⟨u,h2,rfl⟩ (by rw [<- e l (S.len l h1)];exact h3) (by rw [<- e u (S.len u h2)];exact h4) ((need_iff S h1 h2 fun z=>by rw [z] at h3;omega).mp h5) ⟨l',k1,rfl⟩ ⟨u',k2,rfl⟩ (by rw [<- e l' (S.len l' k1)];exact k3) (by rw [<- e u' (S.len u' k2)];exact k4) (by rw [hv];exact fun i h=>h)
  exact ⟨wv_inj (by rw [S.len l h1,S.len l' k1]) q.1,wv_inj (by rw [S.len u h2,S.len u' k2]) q.2⟩
 refine ⟨lenN,?_,eq ▸ S.sg.next hA hC⟩
 unfold nextL
 rw [List.nodup_append]
 refine ⟨S.nd.sublist List.filter_sublist,?_,?_⟩
 ·unfold List.Nodup
  rw [List.pairwise_flatMap]
  refine ⟨fun l hl=>?_,?_⟩
  ·obtain ⟨h1,h3⟩:=List.mem_filter.mp hl
   unfold joinsL
   rw [List.pairwise_map]
   refine List.Pairwise.imp_of_mem (R:=fun a b=>a≠b) (fun {a b} ha hb ne z=>ne ?_) ((S.nd.sublist List.filter_sublist).sublist List.filter_sublist)
   obtain ⟨a1,a2⟩:=List.mem_filter.mp ha
   obtain ⟨b1,b2⟩:=List.mem_filter.mp hb
   obtain ⟨a3,a4⟩:=List.mem_filter.mp a1
   obtain ⟨b3,b4⟩:=List.mem_filter.mp b1
   exact (inj h1 b3 (of_decide_eq_true h3) (of_decide_eq_true b4) b2 h1 a3 (of_decide_eq_true h3) (of_decide_eq_true a4) z).2
  ·refine List.Pairwise.imp_of_mem (R:=fun a b=>a≠b) (fun {a b} ha hb ne x hx y hy z=>ne ?_) (S.nd.sublist List.filter_sublist)
   obtain ⟨a1,a2⟩:=List.mem_filter.mp ha
   obtain ⟨b1,b2⟩:=List.mem_filter.mp hb
   unfold joinsL at hx hy
   obtain ⟨u,hu,rfl⟩:=List.mem_map.mp hx
   obtain ⟨v,hv,rfl⟩:=List.mem_map.mp hy
   obtain ⟨u1,u2⟩:=List.mem_filter.mp hu
   obtain ⟨v1,v2⟩:=List.mem_filter.mp hv
   obtain ⟨u3,u4⟩:=List.mem_filter.mp u1
   obtain ⟨v3,v4⟩:=List.mem_filter.mp v1
   exact (inj b1 v3 (of_decide_eq_true b2) (of_decide_eq_true v4) v2 a1 u3 (of_decide_eq_true a2) (of_decide_eq_true u4) z).1
 ·intro a ha b hb z
  subst z
  obtain ⟨h1,h2⟩:=List.mem_filter.mp ha
  obtain ⟨l,hl,hb⟩:=List.mem_flatMap.mp hb
  unfold joinsL at hb
  obtain ⟨u,hu,e2⟩:=List.mem_map.mp hb
  obtain ⟨u1,u2⟩:=List.mem_filter.mp hu
  obtain ⟨u3,u4⟩:=List.mem_filter.mp u1
  obtain ⟨l1,l2⟩:=List.mem_filter.mp hl
  have l2:=of_decide_eq_true l2
  have u4:=of_decide_eq_true u4
  have hne:l≠u:=fun z=>by rw [z] at l2;omega
  have nd:=(need_iff S l1 u3 hne).mp u2
  rcases nd (wv a) ⟨a,h1,rfl⟩ fun i hi=>by
   rw [<- e2,jn l1 u3] at hi
   exact (join_at (S.sg.ok _ ⟨l,l1,rfl⟩).1 (S.sg.ok _ ⟨u,u3,rfl⟩).1 (by rw [<- e l (S.len l l1)];exact l2) (by rw [<- e u (S.len u u3)];exact u4) i).mp hi with z | z
  ·rw [wv_inj (by rw [S.len a h1,S.len l l1]) z] at h2
   have:=of_decide_eq_true h2;omega
  ·rw [wv_inj (by rw [S.len a h1,S.len u u3]) z] at h2
   have:=of_decide_eq_true h2;omega
end KA
namespace KA
open PySem PySem.Spec PyProof.Rows L2 D3 K01
def unitL (n i:Nat):List Int:=(List.range n).map fun j=>if j=i then 1 else 0
def firstL (n:Nat):List (List Int):=(List.range n).map (unitL n)
theorem wv_unit {n i:Nat} (h:i < n) (j:Nat):wv (unitL n i) j=if j=i then 1 else 0:=by
 unfold wv unitL
 rw [List.getD_eq_getElem?_getD,List.getElem?_map]
 by_cases hj:j < n
 ·rw [List.getElem?_range hj];rfl
 ·rw [List.getElem?_eq_none (by rw [List.length_range];omega),if_neg (by omega)];rfl
theorem first_st (n:Nat):StL n (firstL n) (fun _=>True):=by
 have mem:∀ {w},w∈firstL n->∃ i,i < n/\w=unitL n i:=fun hw=>by
  obtain ⟨i,hi,rfl⟩:=List.mem_map.mp hw
  exact ⟨i,List.mem_range.mp hi,rfl⟩
 have inj:∀ {i j},i < n->j < n->Wi (wv (unitL n i)) (wv (unitL n j))->i=j:=fun {i j} hi hj h=>by
  have:=h i (by rw [wv_unit hi,if_pos rfl];decide)
  rw [wv_unit hj] at this
  split at this
  ·assumption
  ·omega
 refine ⟨fun w hw=>?_,?_,⟨?_,?_,fun w hw _=>?_⟩⟩
 ·obtain ⟨i,_,rfl⟩:=mem hw
  unfold unitL;rw [List.length_map,List.length_range]
 ·unfold List.Nodup firstL
  rw [List.pairwise_map]
  exact List.Pairwise.imp_of_mem (R:=fun a b=>a≠b) (fun {a b} ha hb ne z=>ne (inj (List.mem_range.mp ha) (List.mem_range.mp hb) (by rw [z];exact fun i h=>h))) List.nodup_range
 ·rintro r ⟨w,hw,rfl⟩
  obtain ⟨i,hi,rfl⟩:=mem hw
  refine ⟨⟨fun j=>?_,fun j hj=>?_⟩,⟨i,by rw [wv_unit hi,if_pos rfl];decide⟩,trivial⟩
  ·rw [wv_unit hi];split<;>decide
  ·rw [wv_unit hi,if_neg (by omega)]
 ·rintro r t ⟨w,hw,rfl⟩ ⟨u,hu,rfl⟩ h
  obtain ⟨i,hi,rfl⟩:=mem hw
  obtain ⟨j,hj,rfl⟩:=mem hu
  rw [inj hi hj h]
 ·have key:∀ k,k<=n->Cone (gOf (firstL n)) (fun i=>if i < k then w i else 0):=by
   intro k
   induction k with
   | zero =>
    intro _
    have:(fun i:Nat=>if i < 0 then w i else 0)=fun _=>0:=funext fun i=>if_neg (Nat.not_lt_zero i)
    rw [this];exact .zero
   | succ k ih =>
    intro hk
    have ih:=ih (by omega)
    have e:(fun i:Nat=>if i < k+1 then w i else 0)=fun i=>(if i < k then w i else 0)+(if i=k then w k else 0):=funext fun i=>by
     by_cases h:i=k
     ·subst h;rw [if_pos (by omega),if_neg (by omega),if_pos rfl];omega
     ·by_cases h2:i < k
      ·rw [if_pos (by omega),if_pos h2,if_neg h];omega
      ·rw [if_neg (by omega),if_neg h2,if_neg h];rfl
    rw [e]
    refine .add ih ?_
    rcases Int.lt_or_le 0 (w k) with z | z
    ·refine .scale 1 (w k) (by decide) z (v:=wv (unitL n k)) (fun i=>?_) (.mem ⟨_,List.mem_map.mpr ⟨k,List.mem_range.mpr (by omega),rfl⟩,rfl⟩)
     rw [wv_unit (by omega)]
     split<;>omega
    ·have z:w k=0:=Int.le_antisymm z (hw.nn k)
     have:(fun i:Nat=>if i=k then w k else 0)=fun _=>0:=funext fun i=>by rw [z];split<;>rfl
     rw [this];exact .zero
  have e:(fun i:Nat=>if i < n then w i else 0)=w:=funext fun i=>by
   split
   ·rfl
   ·exact (hw.bn i (by omega)).symm
  exact e ▸ key n (Nat.le_refl _)
def lin:List Int->Vec->Int
 | [],_=>0
 | x :: xs,v=>v 0 * x+lin xs fun i=>v (i+1)
theorem lin_lin:∀ xs,Lin (lin xs)
 | []=>fun a b u v=>by show (0:Int)=a * 0+b * 0;omega
 | x :: xs=>fun a b u v=>by
  have:=lin_lin xs a b (fun i=>u (i+1)) (fun i=>v (i+1))
  show (a * u 0+b * v 0) * x+lin xs (fun i=>a * u (i+1)+b * v (i+1))=a * (u 0 * x+lin xs fun i=>u (i+1))+b * (v 0 * x+lin xs fun i=>v (i+1))
  rw [this]
  grind
theorem sumC_lin {s:Str}:∀ {rows:List Row3} {ws:List Int},ws.length=rows.length->sumC rows ws s=lin (rows.map fun r=>cf r.ts s) (wv ws)
 | [],[],_=>rfl
 | [],_ :: _,h=>by cases h
 | _ :: _,[],h=>by cases h
 | r :: rows,w :: ws,h=>by
  show w * cf r.ts s+sumC rows ws s=w * cf r.ts s+lin (rows.map fun r=>cf r.ts s) (wv ws)
  rw [sumC_lin (by simpa using h)]
theorem sumB_lin:∀ {rows:List Row3} {ws:List Int},ws.length=rows.length->sumB rows ws=lin (rows.map fun r=>r.b) (wv ws)
 | [],[],_=>rfl
 | [],_ :: _,h=>by cases h
 | _ :: _,[],h=>by cases h
 | r :: rows,w :: ws,h=>by
  show w * r.b+sumB rows ws=w * r.b+lin (rows.map fun r=>r.b) (wv ws)
  rw [sumB_lin (by simpa using h)]
def stg (rows:List Row3) (ss:List Str):List (List Int):=ss.foldl (fun st s=>nextL (fun w=>sumC rows w s) st) (firstL rows.length)
theorem stg_snoc {rows:List Row3} {ss:List Str} {s:Str}:stg rows (ss++[s])=nextL (fun w=>sumC rows w s) (stg rows ss):=by
 unfold stg;rw [List.foldl_append];rfl
theorem Stage.congr {n:Nat} {G C C':Vec->Prop} (h:Stage n G C) (e:∀ v,C v ↔ C' v):Stage n G C' :=
 ⟨fun r hr=>⟨(h.ok r hr).1,(h.ok r hr).2.1,(e r).mp (h.ok r hr).2.2⟩,h.anti,fun w p c=>h.gen w p ((e w).mpr c)⟩
def Out0 (rows:List Row3) (ss:List Str) (v:Vec):Prop:=∀ s∈ss,lin (rows.map fun r=>cf r.ts s) v=0
theorem stg_go {rows:List Row3}:∀ {ss:List Str} {st:List (List Int)} {C:Vec->Prop},Spc C->StL rows.length st C->StL rows.length (ss.foldl (fun st s=>nextL (fun w=>sumC rows w s) st) st) (fun v=>C v/\Out0 rows ss v)
 | [],st,C,_,h=>⟨h.len,h.nd,h.sg.congr fun v=>⟨fun c=>⟨c,fun s hs=>by cases hs⟩,fun c=>c.1⟩⟩
 | s :: ss,st,C,hC,h=>by
  have h1:=h.next (A:=fun w=>sumC rows w s) (lin_lin (rows.map fun r=>cf r.ts s)) hC fun w hw=>sumC_lin hw
  have hC1:Spc fun w=>C w/\lin (rows.map fun r=>cf r.ts s) w=0:=fun a b u v hu hv=>⟨hC a b u v hu.1 hv.1,by rw [lin_lin,hu.2,hv.2];omega⟩
  have h2:=stg_go (ss:=ss) hC1 h1
  refine ⟨h2.len,h2.nd,h2.sg.congr fun v=>⟨fun ⟨⟨a,b⟩,c⟩=>⟨a,fun t ht=>?_⟩,fun ⟨a,b⟩=>⟨⟨a,b s (List.mem_cons_self ..)⟩,fun t ht=>b t (List.mem_cons_of_mem _ ht)⟩⟩⟩
  rcases List.mem_cons.mp ht with rfl | ht
  ·exact b
  ·exact c t ht
theorem stg_ok (rows:List Row3) (ss:List Str):StL rows.length (stg rows ss) (Out0 rows ss):=by
 have h:=stg_go (rows:=rows) (ss:=ss) (C:=fun _=>True) (fun _ _ _ _ _ _=>trivial) (first_st rows.length)
 exact ⟨h.len,h.nd,h.sg.congr fun v=>⟨fun c=>c.2,fun c=>⟨trivial,c⟩⟩⟩
def Bar (rows:List Row3) (v:Vec):Prop:=0 < lin (rows.map fun r=>r.b) v\/lin (rows.map fun r=>r.b) v=0/\∃ i r,rows[i]?=some r/\r.k=false/\0 < v i
theorem any_more {rows:List Row3} {ws:List Int}:anyMore rows ws=true ↔ ∃ i r,rows[i]?=some r/\r.k=false/\0 < wv ws i:=by
 unfold anyMore wv
 rw [List.any_eq_true]
 constructor
 ·rintro ⟨x,hx,rfl⟩
  obtain ⟨i,hi⟩:=List.mem_iff_getElem?.mp hx
  rw [List.getElem?_zipWith] at hi
  cases hr:rows[i]? with
  | none=>rw [hr] at hi;simp at hi
  | some r =>
   cases hw:ws[i]? with
   | none=>rw [hr,hw] at hi;simp at hi
   | some w =>
    rw [hr,hw] at hi
    have hi:(!r.k && decide (w > 0))=true:=by simpa using hi
    rw [Bool.and_eq_true,decide_eq_true_iff] at hi
    refine ⟨i,r,hr,by simpa using hi.1,?_⟩
    rw [List.getD_eq_getElem?_getD,hw];exact hi.2
 ·rintro ⟨i,r,h1,h2,h3⟩
  rw [List.getD_eq_getElem?_getD] at h3
  cases hw:ws[i]? with
  | none=>rw [hw] at h3;simp at h3
  | some w =>
   rw [hw] at h3
   have h3:0 < w:=h3
   refine ⟨true,List.mem_iff_getElem?.mpr ⟨i,?_⟩,rfl⟩
   rw [List.getElem?_zipWith,h1,hw]
   simp [h2,h3]
theorem bar_iff {rows:List Row3} {ws:List Int} (h:ws.length=rows.length):barred rows ws (sumB rows ws)=true ↔ Bar rows (wv ws):=by
 unfold barred Bar
 rw [Bool.or_eq_true,Bool.and_eq_true,any_more,decide_eq_true_iff,decide_eq_true_iff,sumB_lin h]
 exact or_congr_right and_comm
theorem cone_bar {rows:List Row3} {G:Vec->Prop} (hG:∀ r,G r->Nn r) {v:Vec} (h:Cone G v):Bar rows v->∃ r,G r/\Bar rows r:=by
 have hL:=lin_lin (rows.map fun r=>r.b)
 induction h with
 | zero =>
  rintro (h | ⟨_,_,_,_,_,h⟩)
  ·rw [hL.zero] at h;omega
  ·exact absurd h (Int.lt_irrefl 0)
 | mem h=>exact fun b=>⟨_,h,b⟩
 | @add u v _ _ i1 i2 =>
  rintro (h | ⟨h,i,r,h1,h2,h3⟩)
  ·rw [hL.add] at h
   by_cases z:0 < lin (rows.map fun r=>r.b) u
   ·exact i1 (.inl z)
   ·exact i2 (.inl (by omega))
  ·rw [hL.add] at h
   by_cases z:0 < lin (rows.map fun r=>r.b) u
   ·exact i1 (.inl z)
   by_cases y:0 < lin (rows.map fun r=>r.b) v
   ·exact i2 (.inl y)
   by_cases x:0 < u i
   ·exact i1 (.inr ⟨by omega,i,r,h1,h2,x⟩)
   ·exact i2 (.inr ⟨by omega,i,r,h1,h2,by have h3:0 < u i+v i:=h3;omega⟩)
 | @scale v w c d hc hd e _ ih =>
  have e2:=hL.mul e
  rintro (h | ⟨h,i,r,h1,h2,h3⟩)
  ·exact ih (.inl (Int.pos_of_mul_pos_right (e2 ▸ Int.mul_pos hc h) hd))
  ·refine ih (.inr ⟨?_,i,r,h1,h2,Int.pos_of_mul_pos_right (e i ▸ Int.mul_pos hc h3) hd⟩)
   rw [h,Int.mul_zero] at e2
   rcases Int.mul_eq_zero.mp e2.symm with z | z
   ·omega
   ·exact z
theorem pos_wv {n:Nat} {ws:List Int} (h:ws.length=n) (hn:∀ w∈ws,0<=w):Pos n (wv ws):=by
 refine ⟨fun i=>?_,fun i hi=>?_⟩
 ·unfold wv
  rw [List.getD_eq_getElem?_getD]
  cases e:ws[i]? with
  | none=>exact Int.le_refl _
  | some w=>exact hn w (List.mem_of_getElem? e)
 ·unfold wv
  rw [List.getD_eq_getElem?_getD,List.getElem?_eq_none (by omega)];rfl
theorem wv_nn {ws:List Int} (h:Nn (wv ws)):∀ w∈ws,0<=w:=fun w hw=>by
 obtain ⟨i,hi⟩:=List.mem_iff_getElem?.mp hw
 have:=h i
 unfold wv at this
 rw [List.getD_eq_getElem?_getD,hi] at this
 exact this
def Never (rows:List Row3):Prop:=∃ ws,Good rows ws
theorem stg_good {rows:List Row3} {ss:List Str} (hs:∀ s,s∈ss ↔ Named rows s) {w:List Int} (hw:w∈stg rows ss):w.length=rows.length/\(∀ x∈w,0<=x)/\∀ s,sumC rows w s=0:=by
 have S:=stg_ok rows ss
 obtain ⟨p,_,c⟩:=S.sg.ok _ ⟨w,hw,rfl⟩
 refine ⟨S.len w hw,wv_nn p.nn,fun s=>?_⟩
 by_cases z:s∈ss
 ·rw [sumC_lin (S.len w hw)];exact c s z
 ·exact sumC_named fun y=>z ((hs s).mpr y)
theorem never_iff {rows:List Row3} {ss:List Str} (hs:∀ s,s∈ss ↔ Named rows s):(∃ w∈stg rows ss,barred rows w (sumB rows w)=true) ↔ Never rows:=by
 have S:=stg_ok rows ss
 constructor
 ·rintro ⟨w,hw,hb⟩
  obtain ⟨a,b,c⟩:=stg_good hs hw
  exact ⟨w,a,b,c,hb⟩
 ·rintro ⟨ws,h1,h2,h3,h4⟩
  have k:=S.sg.gen (wv ws) (pos_wv h1 h2) fun s _=>by rw [<- sumC_lin h1];exact h3 s
  obtain ⟨_,⟨w,hw,rfl⟩,hb⟩:=cone_bar (rows:=rows) (fun r hr=>(S.sg.ok r hr).1.nn) k ((bar_iff h1).mp h4)
  exact ⟨w,hw,(bar_iff (S.len w hw)).mpr hb⟩
end KA
namespace KA
open PySem PySem.Spec PyProof.Rows L2 D3 K01
def pc (s:Str):List (Row3 × Int)->Int
 | []=>0
 | p :: ps=>p.2 * cf p.1.ts s+pc s ps
def often (c:Int) (r:Row3):Row3:=⟨r.k,r.ts.map fun t=>(t.1,c * t.2),c * r.b⟩
end KA
namespace D3
open PySem PySem.Spec PyProof.Rows L2
section
variable {X:Cx} {G:Ga} {M:MH} {a b e:Expr} {Q:DK} {pos:Pos}
theorem op_fdivL {k:Nat} (hT:X.prog.given.tree=none) (hr:Room k X.A) (hk:32<=k) (hst:X.stack=X.env :: X.outer) (hg:X.env.scope.isGenerator=false) (hc:X.env.scope.isCoroutine=false) :
  OpR X (binaryOp .FloorDiv) (rI (fun _ j=>j≠0) fun i j=>.int (i.fdiv j)):=by
 intro pins s σ H x y v u Q I rx ry h
 obtain ⟨i,j,rfl,rfl,hj,q⟩:=h
 obtain ⟨t,rfl⟩:=rx
 obtain ⟨t',rfl⟩:=ry
 refine floordiv_int hj ⟨.int (i.fdiv j),H,I.tok _,⟨_,rfl⟩,q⟩ (.inr ?_)
 refine PySem.PylongRoom.of I.nolimit ?_ ?_
 ·show X.A.depth+100 < recursionLimit
  have:=hr.dp
  omega
 ·exact PySem.SeerAt.of (I.ok.mod.seer.keeps I.bk) hT (I.ok.frames.trans (congrArg some hst)) hg hc I.ok.blt I.ok.glob
theorem ev_fdivL {k:Nat} (hT:X.prog.given.tree=none) (hr:Room k X.A) (hk:32<=k) (hst:X.stack=X.env :: X.outer) (hg:X.env.scope.isGenerator=false) (hc:X.env.scope.isCoroutine=false)
  (h:EV X G M a fun da Ma=>EV X G Ma b fun db Mb=>∃ i j,da=.int i/\db=.int j/\j≠0/\Q (.int (i.fdiv j)) Mb):EV X G M (.BinOp a .FloorDiv b pos) Q :=
 ev_op (op_fdivL hT hr hk hst hg hc) (h.mono fun _ _ h1=>h1.mono fun _ _ ⟨i,j,e1,e2,z,q⟩=>by subst e1;subst e2;exact rd_I (C:=fun _ j=>j≠0) (g:=fun i j=>i.fdiv j) z q)
theorem ev_bor (h:EV X G M a fun da Ma=>EV X G Ma b fun db Mb=>∃ i j,da=.int i/\db=.int j/\Q (.int (Builtin.bitOr i j)) Mb):EV X G M (.BinOp a .BitOr b pos) Q :=
 ev_op op_or (h.mono fun _ _ h1=>h1.mono fun _ _ ⟨i,j,e1,e2,q⟩=>by subst e1;subst e2;exact rd_I0 (g:=fun i j=>Builtin.bitOr i j) q)
theorem ev_shl (h:EV X G M a fun da Ma=>EV X G Ma b fun db Mb=>∃ i j,da=.int i/\db=.int j/\CPow i j/\Q (.int (i * 2 ^ j.toNat)) Mb):EV X G M (.BinOp a .LShift b pos) Q :=
 ev_op op_shl (h.mono fun _ _ h1=>h1.mono fun _ _ ⟨i,j,e1,e2,z,q⟩=>by subst e1;subst e2;exact rd_I (C:=CPow) (g:=fun i j=>i * 2 ^ j.toNat) z q)
theorem ev_shr (h:EV X G M a fun da Ma=>EV X G Ma b fun db Mb=>∃ i j,da=.int i/\db=.int j/\0<=j/\Q (.int (i / 2 ^ j.toNat)) Mb):EV X G M (.BinOp a .RShift b pos) Q :=
 ev_op op_shr (h.mono fun _ _ h1=>h1.mono fun _ _ ⟨i,j,e1,e2,z,q⟩=>by subst e1;subst e2;exact rd_I (C:=fun _ j=>0<=j) (g:=fun i j=>i / 2 ^ j.toNat) z q)
end
end D3
namespace KA
open PySem PySem.Spec PyProof.Rows L2 D3 K01
theorem rpos {c a:Rat} (hc:0 < c) (h:0 < c * a):0 < a:=Rat.not_le.mp fun z=>by
 have:c * a<=c * 0:=Rat.mul_le_mul_of_nonneg_left z (Rat.le_of_lt hc)
 grind
theorem rnn {c a:Rat} (hc:0 < c) (h:0<=c * a):0<=a:=Rat.not_lt.mp fun z=>by
 have:c * a < c * 0:=Rat.mul_lt_mul_of_pos_left z hc
 grind
def dot (x:Str->Rat) (c:Str->Int):List Str->Rat
 | []=>0
 | s :: ss=>(c s:Rat) * x s+dot x c ss
theorem dot_lin (x:Str->Rat) (c d e:Str->Int) (a b:Int):∀ ss:List Str,(∀ s,e s=a * c s+b * d s)->dot x e ss=a * dot x c ss+b * dot x d ss
 | [],_=>by show (0:Rat)=a * 0+b * 0;grind
 | s :: ss,h=>by
  show (e s:Rat) * x s+dot x e ss=a * ((c s:Rat) * x s+dot x c ss)+b * ((d s:Rat) * x s+dot x d ss)
  rw [dot_lin x c d e a b ss h,h s,Rat.intCast_add,Rat.intCast_mul,Rat.intCast_mul]
  grind
theorem dot_congr {x y:Str->Rat} {c:Str->Int}:∀ {ss:List Str},(∀ s∈ss,(c s:Rat) * x s=(c s:Rat) * y s)->dot x c ss=dot y c ss
 | [],_=>rfl
 | s :: ss,h=>by
  show (c s:Rat) * x s+dot x c ss=(c s:Rat) * y s+dot y c ss
  rw [h s (List.mem_cons_self ..),dot_congr fun t ht=>h t (List.mem_cons_of_mem _ ht)]
def upX (x:Str->Rat) (s:Str) (v:Rat):Str->Rat:=fun t=>if t=s then v else x t
theorem dot_up {x:Str->Rat} {c:Str->Int} {s:Str} {v:Rat}:∀ {ss:List Str},ss.Nodup->s∈ss->dot (upX x s v) c ss=(c s:Rat) * v+dot (upX x s 0) c ss
 | [],_,h=>by cases h
 | t :: ss,hn,h=>by
  rw [List.nodup_cons] at hn
  show (c t:Rat) * upX x s v t+dot (upX x s v) c ss=(c s:Rat) * v+((c t:Rat) * upX x s 0 t+dot (upX x s 0) c ss)
  by_cases z:t=s
  ·subst z
   have e:dot (upX x t v) c ss=dot (upX x t 0) c ss:=dot_congr fun u hu=>by
    have:u≠t:=fun z=>hn.1 (by rw [<- z];exact hu)
    unfold upX;rw [if_neg this,if_neg this]
   rw [e]
   unfold upX
   rw [if_pos rfl,if_pos rfl]
   grind
  ·rcases List.mem_cons.mp h with rfl | h
   ·exact absurd rfl z
   ·rw [dot_up hn.2 h]
    unfold upX
    rw [if_neg z,if_neg z]
    grind
def sl (rows:List Row3) (ss:List Str) (x:Str->Rat) (v:Vec):Rat:=dot x (fun s=>lin (rows.map fun r=>cf r.ts s) v) ss - (lin (rows.map fun r=>r.b) v:Rat)
theorem sl_lin {rows:List Row3} {ss:List Str} {x:Str->Rat} (a b:Int) (u v:Vec):sl rows ss x (fun i=>a * u i+b * v i)=a * sl rows ss x u+b * sl rows ss x v:=by
 unfold sl
 rw [dot_lin x (fun s=>lin (rows.map fun r=>cf r.ts s) u) (fun s=>lin (rows.map fun r=>cf r.ts s) v) _ a b ss (fun s=>lin_lin _ a b u v),lin_lin,Rat.intCast_add,Rat.intCast_mul,Rat.intCast_mul]
 grind
theorem sl_mul {rows:List Row3} {ss:List Str} {x:Str->Rat} {c d:Int} {u v:Vec} (e:∀ i,c * u i=d * v i):(c:Rat) * sl rows ss x u=d * sl rows ss x v:=by
 have h1:=sl_lin (rows:=rows) (ss:=ss) (x:=x) c 0 u u
 have h2:=sl_lin (rows:=rows) (ss:=ss) (x:=x) d 0 v v
 have:(fun i=>c * u i+0 * u i)=fun i=>d * v i+0 * v i:=funext fun i=>by rw [e i];omega
 rw [this,h2] at h1
 have z:((0:Int):Rat)=0:=rfl
 rw [z] at h1
 grind
theorem sl_zero {rows:List Row3} {ss:List Str} {x:Str->Rat}:sl rows ss x (fun _=>0)=0:=by
 have h1:=sl_lin (rows:=rows) (ss:=ss) (x:=x) 0 0 (fun _=>0) (fun _=>0)
 have:(fun i:Nat=>(0:Int) * 0+0 * 0)=fun _=>0:=funext fun i=>by omega
 rw [this] at h1
 have z:((0:Int):Rat)=0:=rfl
 rw [z] at h1
 grind
theorem sl_add {rows:List Row3} {ss:List Str} {x:Str->Rat} (u v:Vec):sl rows ss x (fun i=>u i+v i)=sl rows ss x u+sl rows ss x v:=by
 have h1:=sl_lin (rows:=rows) (ss:=ss) (x:=x) 1 1 u v
 have:(fun i:Nat=>1 * u i+1 * v i)=fun i=>u i+v i:=funext fun i=>by omega
 rw [this] at h1
 have z:((1:Int):Rat)=1:=rfl
 rw [z] at h1
 grind
def Strict (rows:List Row3) (v:Vec):Prop:=∃ i r,rows[i]?=some r/\r.k=false/\0 < v i
structure Sat (rows:List Row3) (ss:List Str) (x:Str->Rat) (v:Vec):Prop where
 le:0<=sl rows ss x v
 lt:Strict rows v->0 < sl rows ss x v
theorem Sat.cone {rows:List Row3} {ss:List Str} {x:Str->Rat} {G:Vec->Prop} (hG:∀ r,G r->Nn r) (hS:∀ r,G r->Sat rows ss x r) {v:Vec} (h:Cone G v):Sat rows ss x v:=by
 induction h with
 | zero=>exact ⟨by rw [sl_zero];exact Rat.le_refl,fun ⟨_,_,_,_,z⟩=>absurd z (Int.lt_irrefl 0)⟩
 | mem h=>exact hS _ h
 | @add u v _ _ i1 i2 =>
  refine ⟨by rw [sl_add];have:=i1.le;have:=i2.le;grind,fun ⟨i,r,h1,h2,h3⟩=>?_⟩
  rw [sl_add]
  have a:=i1.le
  have b:=i2.le
  by_cases z:0 < u i
  ·have:=i1.lt ⟨i,r,h1,h2,z⟩;grind
  ·have:=i2.lt ⟨i,r,h1,h2,by have h3:0 < u i+v i:=h3;omega⟩;grind
 | @scale v w c d hc hd e _ ih =>
  have e2:=sl_mul (rows:=rows) (ss:=ss) (x:=x) e
  have c0:(0:Rat) < c:=Rat.intCast_pos.mpr hc
  have d0:(0:Rat) < d:=Rat.intCast_pos.mpr hd
  refine ⟨rnn c0 ?_,fun ⟨i,r,h1,h2,h3⟩=>rpos c0 ?_⟩
  ·rw [e2];exact Rat.mul_nonneg (Rat.le_of_lt d0) ih.le
  ·rw [e2];exact Rat.mul_pos d0 (ih.lt ⟨i,r,h1,h2,Int.pos_of_mul_pos_right (e i ▸ Int.mul_pos hc h3) hd⟩)
theorem sl_up {rows:List Row3} {ss:List Str} {x:Str->Rat} {s:Str} {v:Rat} {w:Vec} (hn:ss.Nodup) (hs:s∈ss):sl rows ss (upX x s v) w=(lin (rows.map fun r=>cf r.ts s) w:Rat) * v+sl rows ss (upX x s 0) w:=by
 unfold sl
 rw [dot_up hn hs]
 grind
theorem upX_self (x:Str->Rat) (s:Str):upX x s (x s)=x:=funext fun t=>by
 unfold upX
 split
 ·rename_i h;rw [h]
 ·rfl
def Btw (rows:List Row3) (ss:List Str) (x:Str->Rat) (s:Str) (st:List (List Int)) (v:Rat):Prop :=
 ((∀ l∈st,0 < sumC rows l s->0 < (sumC rows l s:Rat) * v+sl rows ss (upX x s 0) (wv l))/\∀ u∈st,sumC rows u s < 0->0 < (sumC rows u s:Rat) * v+sl rows ss (upX x s 0) (wv u)) \/
 ∃ l0∈st,∃ u0∈st,0 < sumC rows l0 s/\sumC rows u0 s < 0/\(sumC rows l0 s:Rat) * v+sl rows ss (upX x s 0) (wv l0)=0/\(sumC rows u0 s:Rat) * v+sl rows ss (upX x s 0) (wv u0)<=0/\∀ l∈st,0 < sumC rows l s->0<=(sumC rows l s:Rat) * v+sl rows ss (upX x s 0) (wv l)
theorem back {rows:List Row3} {ss:List Str} {k:Nat} {s:Str} {x:Str->Rat} {v:Rat} (hn:ss.Nodup) (hk:ss[k]?=some s) (h:∀ w∈stg rows (ss.take (k+1)),Sat rows ss x (wv w)) (b:Btw rows ss x s (stg rows (ss.take k)) v) :
  ∀ w∈stg rows (ss.take k),Sat rows ss (upX x s v) (wv w):=by
 have hs:s∈ss:=List.mem_of_getElem? hk
 have tk:ss.take (k+1)=ss.take k++[s]:=by rw [List.take_add_one,hk];rfl
 have S:=stg_ok rows (ss.take k)
 have S':=stg_ok rows (ss.take (k+1))
 have eA:∀ {w},w∈stg rows (ss.take k)->sumC rows w s=lin (rows.map fun r=>cf r.ts s) (wv w):=fun hw=>sumC_lin (S.len _ hw)
 have eR:∀ {w} (y:Rat),w∈stg rows (ss.take k)->sl rows ss (upX x s y) (wv w)=(sumC rows w s:Rat) * y+sl rows ss (upX x s 0) (wv w):=fun y hw=>by rw [eA hw];exact sl_up hn hs
 have ex:∀ {w},w∈stg rows (ss.take k)->sl rows ss x (wv w)=(sumC rows w s:Rat) * x s+sl rows ss (upX x s 0) (wv w):=fun hw=>by
  have:=eR (x s) hw
  rw [upX_self] at this
  exact this
 have pr:∀ l∈stg rows (ss.take k),∀ u∈stg rows (ss.take k),0 < sumC rows l s->sumC rows u s < 0 ->
   0<=-(sumC rows u s:Rat) * sl rows ss (upX x s 0) (wv l)+(sumC rows l s:Rat) * sl rows ss (upX x s 0) (wv u) /\
   (Strict rows (wv l)\/Strict rows (wv u)->0 < -(sumC rows u s:Rat) * sl rows ss (upX x s 0) (wv l)+(sumC rows l s:Rat) * sl rows ss (upX x s 0) (wv u)):=by
  intro l hl u hu pl nu
  obtain ⟨ol,_,cl⟩:=S.sg.ok _ ⟨l,hl,rfl⟩
  obtain ⟨ou,_,cu⟩:=S.sg.ok _ ⟨u,hu,rfl⟩
  have pl':0 < lin (rows.map fun r=>cf r.ts s) (wv l):=by rw [<- eA hl];exact pl
  have nu':lin (rows.map fun r=>cf r.ts s) (wv u) < 0:=by rw [<- eA hu];exact nu
  have c:=S'.sg.gen _ (join_pos ol ou pl' nu') (fun t ht=>by
   rw [tk] at ht
   rcases List.mem_append.mp ht with ht | ht
   ·unfold join
    rw [lin_lin,cl t ht,cu t ht];omega
   ·rw [List.mem_singleton.mp ht]
    exact join_zero (lin_lin _))
  have sat:=Sat.cone (rows:=rows) (ss:=ss) (x:=x) (fun r hr=>(S'.sg.ok r hr).1.nn) (fun r ⟨w,hw,e⟩=>by rw [e];exact h w hw) c
  have e:sl rows ss x (join (lin (rows.map fun r=>cf r.ts s)) (wv l) (wv u))=-(sumC rows u s:Rat) * sl rows ss (upX x s 0) (wv l)+(sumC rows l s:Rat) * sl rows ss (upX x s 0) (wv u):=by
   unfold join
   rw [sl_lin,ex hl,ex hu,<- eA hl,<- eA hu,Rat.intCast_neg]
   grind
  refine ⟨by rw [<- e];exact sat.le,fun z=>?_⟩
  rw [<- e]
  refine sat.lt ?_
  rcases z with ⟨i,r,h1,h2,h3⟩ | ⟨i,r,h1,h2,h3⟩
  ·exact ⟨i,r,h1,h2,(join_at ol ou pl' nu' i).mpr (.inl h3)⟩
  ·exact ⟨i,r,h1,h2,(join_at ol ou pl' nu' i).mpr (.inr h3)⟩
 intro w hw
 have cast:∀ {a:Int},0 < a->(0:Rat) < a:=fun h=>Rat.intCast_pos.mpr h
 have castn:∀ {a:Int},a < 0->(0:Rat) < -(a:Rat):=fun {a} h=>by
  have:(0:Rat) < ((-a:Int):Rat):=Rat.intCast_pos.mpr (by omega)
  rwa [Rat.intCast_neg] at this
 rcases Int.lt_trichotomy (sumC rows w s) 0 with z | z | z
 ·have e:=eR v hw
  rcases b with ⟨_,b2⟩ | ⟨l0,hl,u0,hu,p1,p2,p3,p4,p5⟩
  ·have:=b2 w hw z
   exact ⟨by rw [e];exact Rat.le_of_lt this,fun _=>by rw [e];exact this⟩
  ·obtain ⟨q1,q2⟩:=pr l0 hl w hw p1 z
   have c0:=cast p1
   have k1:-(sumC rows w s:Rat) * sl rows ss (upX x s 0) (wv l0)+(sumC rows l0 s:Rat) * sl rows ss (upX x s 0) (wv w)=(sumC rows l0 s:Rat) * ((sumC rows w s:Rat) * v+sl rows ss (upX x s 0) (wv w)):=by
    have:sl rows ss (upX x s 0) (wv l0)=-((sumC rows l0 s:Rat) * v):=by grind
    rw [this];grind
   rw [k1] at q1 q2
   exact ⟨by rw [e];exact rnn c0 q1,fun y=>by rw [e];exact rpos c0 (q2 (.inr y))⟩
 ·
  have hw':w∈stg rows (ss.take (k+1)):=by
   rw [tk,stg_snoc]
   exact mem_next.mpr (.inl ⟨hw,z⟩)
  have o:=h w hw'
  have e1:=ex hw
  have e2:=eR v hw
  rw [z] at e1 e2
  have e:sl rows ss (upX x s v) (wv w)=sl rows ss x (wv w):=by
   rw [e1,e2,show ((0:Int):Rat)=0 from rfl];grind
  exact ⟨by rw [e];exact o.le,fun y=>by rw [e];exact o.lt y⟩
 ·have e:=eR v hw
  rcases b with ⟨b1,_⟩ | ⟨l0,hl,u0,hu,p1,p2,p3,p4,p5⟩
  ·have:=b1 w hw z
   exact ⟨by rw [e];exact Rat.le_of_lt this,fun _=>by rw [e];exact this⟩
  ·refine ⟨by rw [e];exact p5 w hw z,fun y=>?_⟩
   rw [e]
   have d0:=castn p2
   have c0:=cast p1
   obtain ⟨q1,_⟩:=pr l0 hl u0 hu p1 p2
   obtain ⟨_,q2⟩:=pr w hw u0 hu z p2
   have q2:=q2 (.inl y)
   have k1:-(sumC rows u0 s:Rat) * sl rows ss (upX x s 0) (wv l0)+(sumC rows l0 s:Rat) * sl rows ss (upX x s 0) (wv u0)=(sumC rows l0 s:Rat) * ((sumC rows u0 s:Rat) * v+sl rows ss (upX x s 0) (wv u0)):=by
    have:sl rows ss (upX x s 0) (wv l0)=-((sumC rows l0 s:Rat) * v):=by grind
    rw [this];grind
   rw [k1] at q1
   have k2:=rnn c0 q1
   have k3:sl rows ss (upX x s 0) (wv u0)=-((sumC rows u0 s:Rat) * v):=by grind
   have k4:-(sumC rows u0 s:Rat) * sl rows ss (upX x s 0) (wv w)+(sumC rows w s:Rat) * sl rows ss (upX x s 0) (wv u0)=-(sumC rows u0 s:Rat) * ((sumC rows w s:Rat) * v+sl rows ss (upX x s 0) (wv w)):=by
    rw [k3];grind
   rw [k4] at q2
   exact rpos d0 q2
theorem sat_last {rows:List Row3} {ss:List Str} {x:Str->Rat} {w:List Int} (hw:w.length=rows.length) (h0:∀ s∈ss,sumC rows w s=0) (hb:¬ barred rows w (sumB rows w)=true):Sat rows ss x (wv w):=by
 rw [bar_iff hw] at hb
 have e:sl rows ss x (wv w)=-(lin (rows.map fun r=>r.b) (wv w):Rat):=by
  unfold sl
  have:dot x (fun s=>lin (rows.map fun r=>cf r.ts s) (wv w)) ss=0:=by
   have key:∀ l:List Str,(∀ s∈l,sumC rows w s=0)->dot x (fun s=>lin (rows.map fun r=>cf r.ts s) (wv w)) l=0:=by
    intro l
    induction l with
    | nil=>intro _;rfl
    | cons s l ih =>
     intro hl
     show (lin (rows.map fun r=>cf r.ts s) (wv w):Rat) * x s+dot x _ l=0
     rw [ih fun t ht=>hl t (List.mem_cons_of_mem _ ht),<- sumC_lin hw,hl s (List.mem_cons_self ..),show ((0:Int):Rat)=0 from rfl]
     grind
   exact key ss h0
  rw [this];grind
 unfold Bar at hb
 generalize lin (rows.map fun r=>r.b) (wv w)=b at *
 have hb1:¬ 0 < b:=fun z=>hb (.inl z)
 have c1:(b:Rat)<=0:=by
  have:(b:Rat)<=((0:Int):Rat):=Rat.intCast_le_intCast.mpr (by omega)
  exact this
 refine ⟨by rw [e];grind,fun y=>?_⟩
 have hb2:b≠0:=fun z=>hb (.inr ⟨z,y⟩)
 have:(b:Rat) < ((0:Int):Rat):=Rat.intCast_lt_intCast.mpr (by omega)
 rw [e]
 have z:((0:Int):Rat)=0:=rfl
 rw [z] at this
 grind
end KA
namespace D3
open PySem PySem.Spec PyProof.Rows L2
section
variable {X:Cx} {G:Ga} {M:MH} {o e:Expr} {Q:DK} {apos cpos:Pos}
end
end D3
namespace D3
open PySem PySem.Spec PyProof.Rows L2
section
variable {X:Cx} {G:Ga} {M:MH} {e:Expr} {Q:DK} {pos:Pos}
end
end D3
namespace D3
open PySem PySem.Spec PyProof.Rows L2
section
variable {P:Program} {w:World} {B:Around} {R:Result->Shared->Prop} {I:Addr} {fp wr:List Addr} {n:Nat} {Pi:Nat->Value->Prop} {St:Nat->Heap->Prop}
end
section
variable {P:Program} {w:World} {B:Around} {Z:Value->Shared->Prop} {st:Shared} {Q:Value->Shared->Prop}
end
section
variable {X:Cx} {G:Ga} {M:MH} {e:Expr} {Q:DK} {pos p kp np:Pos}
end
end D3
namespace D3
open PySem PySem.Spec PyProof.Rows L2
section
variable {X:Cx} {G:Ga} {M:MH} {a b:Expr} {pos:Pos}
end
end D3
namespace D3
open PySem PySem.Spec PyProof.Rows L2
section
variable {X:Cx} {tg:Expr}
end
section
variable {X:Cx} {G:Ga} {M:MH} {a b c:Expr} {tg:Expr} {body:List Stmt} {pos:Pos} {E:EndsD}
theorem isl3 {H:Hp} {x y z:D} {vs:List V} (h:IsL H [x,y,z] vs):∃ u v w,vs=[u,v,w]/\Is H x u/\Is H y v/\Is H z w:=by
 obtain ⟨u,r,rfl,h1,h⟩:=isl_cons.mp h
 obtain ⟨v,r,rfl,h2,h⟩:=isl_cons.mp h
 obtain ⟨w,r,rfl,h3,h⟩:=isl_cons.mp h
 rw [isl_nil.mp h]
 exact ⟨u,v,w,rfl,h1,h2,h3⟩
end
end D3
namespace D3
open PySem PySem.Spec PyProof.Rows L2
def IteL (K:PySem.W.Frag) (a:Addr):It :=
 ⟨fun i H=>∃ xs x,SqL K H a xs/\xs[i]?=some x,fun i H v H'=>∃ T x,v=.ref T/\H T=none/\H'=upd H T (.tup [.int i,x])/\∀ xs,SqL K H a xs->xs[i]?=some x,fun i H=>∃ xs,SqL K H a xs/\xs.length=i⟩
theorem turn_enumL {P:Program} {w:World} {K:PySem.W.Frag} {ts:List Expr} {n:Nat} {pos:Pos} (a e it:Addr) (ne:e≠it) (ha:a≠e) (hb:a≠it) :
  Turn P w K (.Tuple ts n pos) (IteL K a) [e,it] e (fun i h=>(∃ old,IsEnum h e it i old)/\h.IsListIter it a i) where
 mem:=by simp
 obj:=fun i h q b hb=>by
  obtain ⟨⟨old,q1⟩,o,q2,_,q3⟩:=q
  rcases List.mem_cons.mp hb with z | z
  ·subst z;exact ⟨_,q1,fun v z=>by
    have z':Data.fields _=Data.cell v:=z
    cases z'⟩
  ·rw [List.mem_singleton.mp z];exact ⟨o,q2,fun v z=>by rw [q3] at z;cases z⟩
 keep:=fun i h h' q k=>⟨let ⟨old,q1⟩:=q.1;⟨old,k e (by simp) _ q1⟩,q.2.at fun o z=>k it (by simp) o z⟩
 item:=by
  intro X hP hw hK hc i pins s σ H E I hf q hg
  subst hP hw hK
  obtain ⟨xs,x,hq,hx⟩:=hg
  obtain ⟨its,rv,p,hz⟩:=I.list hq
  obtain ⟨u,hu,ru⟩:=rv.get hx
  obtain ⟨⟨old,q1⟩,q2⟩:=q
  have lt:i < its.toArray.size:=by
   have:=(List.getElem?_eq_some_iff.mp hu).1
   simpa using this
  refine wpAny_pyNext_enum_itemD (Draws.list (A:=X.A.in1) (I.ok.hd hc) it a hb its.toArray) q1 ⟨q2,p.isList⟩ lt ne (by simp [ne,ha.symm]) fun v g tk hv r1 r2 r3 r4 r5=>?_
  have ev:v=u:=by
   have h1:its[i]?=some v:=by simpa using hv
   rw [hu] at h1;exact (Option.some.inj h1).symm
  subst ev
  refine ⟨_,rfl,wpAny_letOwnedTupleGo_enum r1 fun g' s1 s2=>?_⟩
  have s2':∀ b,b≠e->g'.get? b=g.get? b:=s2.2
  have hT:e≠s.heap.objs.size:=Nat.ne_of_lt (Heap.lt_size q1)
  have hT':it≠s.heap.objs.size:=by obtain ⟨o,z,_⟩:=q2;exact Nat.ne_of_lt (Heap.lt_size z)
  obtain ⟨oi,zi,_⟩:=id r2.1
  obtain ⟨m,I1,sz,km⟩:=turned2 (tk:=tk+1) I (hf e (by simp)) (hf it (by simp)) ne ⟨_,q1⟩ (let ⟨o,z,_⟩:=q2;⟨o,z⟩) ⟨_,s1⟩ ⟨oi,(s2' it ne.symm).trans zi⟩ fun b o h1 h2 z=>(s2' b h1).trans (r5 b o h1 h2 z)
  have fr:H s.heap.objs.size=none:=I.hok.fresh (Nat.le_refl _)
  refine ⟨.ref s.heap.objs.size,upd H s.heap.objs.size (.tup [.int i,x]),I1.laid (t':=tk+1) (o:=.tup [.int i,x]) km (Nat.le_of_eq sz) ⟨⟨show 2<=sizeLine by decide,_,(s2' _ hT.symm).trans r3,rfl⟩,[.int i tk,v],.cons ⟨tk,rfl⟩ (.cons ru .nil),⟨_,(s2' _ hT.symm).trans r3,rfl,_,rfl⟩⟩,rfl,⟨_,x,rfl,fr,rfl,fun ys hy=>by rw [I.list_inj hy hq];exact hx⟩,⟨⟨_,s1⟩,r2.1.at fun o z=>(s2' it ne.symm).trans z⟩,fun b hb=>?_⟩
  rcases List.mem_cons.mp hb with z | z
  ·subst z;rw [upd_ne hT];exact (hf b (by simp)).1
  ·rw [List.mem_singleton.mp z,upd_ne hT'];exact (hf it (by simp)).1
 done:=by
  intro X hP hw hK hc i pins s σ H E I hf q hg
  subst hP hw hK
  obtain ⟨xs,hq,hx⟩:=hg
  obtain ⟨its,rv,p,hz⟩:=I.list hq
  obtain ⟨⟨old,q1⟩,q2⟩:=q
  have hl:its.toArray.size=i:=by rw [<- hx,rv.length];simp
  subst hl
  obtain ⟨f0,f1,f2,f3,f4,f5⟩:=hf it (by simp)
  exact wpAny_pyNext_enum_endD (Draws.list (A:=X.A.in1) (I.ok.hd hc) it a hb its.toArray) q1 ⟨q2,p.isList⟩ fun g eb=>⟨rfl,I.turned (t':=s.toks) (fun b o z y=>eb b o z y) f0 f1 f3 f4 f5⟩
 self:=fun _ _ _ _ _ q h=>let ⟨_,q1⟩:=q.1;wpAny_pyIter_enum q1 h
section
variable {X:Cx} {ts:List Expr} {n:Nat} {tp:Pos}
def iEnumL (K:PySem.W.Frag) (ta:TA):TI:=fun σ H R=>ta σ H fun vs H1=>∃ a,vs=[.ref a]/\(∃ xs,H1 a=some (.lst xs))/\R (IteL K a) H1
theorem pi_enumL {a:Expr} {ta:TA} {p pos:Pos} (hg:Gl X "enumerate") (hm:X.mg "enumerate" = none) (ha:PA X [a] ta) (hs:starEach [a] X.env=[(false,eval a X.env)]):PI X (.Tuple ts n tp) (.Call (.Name "enumerate" p) [a] [] pos) (iEnumL X.K ta):=by
 intro pins s σ H R I h
 refine Call_ (ld_blt I hg hm boot_enumerate (PyProof.Rows.callWith_type1 (thn (ha pos pins s σ H _ I h) fun us s1 ⟨vs,H1,I1,r1,q1⟩=>?_) hs rfl))
 obtain ⟨l,e,⟨xs,hq⟩,q⟩:=q1
 subst e
 cases r1 with
 | cons r rr =>
  cases rr
  have r':_=Value.ref l:=r
  subst r'
  obtain ⟨hz,its,m,rv,hl⟩:=(show ObjOk X.prog X.w H1 s1.heap l (.lst xs) from I1.hok l _ hq)
  have lt:l < s1.heap.objs.size:=Heap.lt_size hl
  have hL:s1.heap.IsList l its.toArray:=⟨_,hl,rfl,m,rfl⟩
  refine call_enumerate_list hL fun g en itr _ kp=>wpAny_pyIter_enum en ?_
  refine ⟨s1.heap.objs.size+1,[s1.heap.objs.size+1,s1.heap.objs.size],_,_,H1,rfl,I1.kept (t':=s1.toks) kp,turn_enumL l _ _ (Nat.succ_ne_self _) (Nat.ne_of_lt (Nat.lt_succ_of_lt lt)) (Nat.ne_of_lt lt),⟨⟨_,en⟩,itr⟩,fun b hb=>?_,q⟩
  rcases List.mem_cons.mp hb with z | z
  ·subst z;exact I1.fpOk (Nat.le_succ _) (I1.hok.fresh (Nat.le_succ _))
  ·rw [List.mem_singleton.mp z];exact I1.fpOk (Nat.le_refl _) (I1.hok.fresh (Nat.le_refl _))
end
section
variable {X:Cx} {G:Ga} {M:MH} {ts:List Expr} {n:Nat} {tp pos:Pos} {e:Expr} {body:List Stmt} {E:EndsD}
theorem ex_for_enumL {p:Pos} (hp:PassesOwn (model X.prog X.w) X.A X.env X.xe) (hc:X.calm=true) (hm:X.mg "enumerate" = none)
  (h:AV X G M [e] fun es M1=>∃ (l:Addr) (ds:List D) (Iv:Nat->Ga->MH->Prop),es=[.ref l]/\M1 l=some (.lst ds)/\Iv 0 G M1/\(∀ i G' M',Iv i G' M'->M' l=some (.lst ds)) /\
   (∀ (i:Nat) d G' M',ds[i]?=some d->Iv i G' M'->GV X G' M' (.Tuple ts n tp) (.tup [.int i,d]) fun G3 M3=>EXs X G3 M3 body { nx:=Iv (i+1),ct:=Iv (i+1),bk:=E.nx,rt:=E.rt })/\(∀ G' M',Iv ds.length G' M'->E.nx G' M'))
  (hg:Gl X "enumerate") (hse:starEach [e] X.env=[(false,eval e X.env)])
  (hs:∀ x,foldedSetIterable (.Call (.Name "enumerate" p) [e] [] pos) X.env x=pure x) {pos':Pos}:EX X G M (.For (.Tuple ts n tp) (.Call (.Name "enumerate" p) [e] [] pos) body [] pos') E:=by
 refine ex_for hp hc (pi_enumL hg hm (pa_D (G:=G)) hse) (fun σ H kf R=>?_) hs
 refine ⟨M,_,R,h,fun vs H' es M' kf' g i R' q=>?_⟩
 obtain ⟨l,ds,Iv,e,hl,h0,keep,step,fin⟩:=q
 subst e
 obtain ⟨v,rfl,hv⟩:=isl1 i
 rw [is_ref] at hv;subst hv
 obtain ⟨xs0,hx0,_⟩:=R'.mem l _ hl
 refine ⟨l,rfl,⟨xs0,hx0⟩,g,M',ds.length,Iv,R',h0,fun i G2 M2 hin w2=>⟨fun e=>fin G2 M2 (by rw [<- e];exact w2),fun σ2 H2 g2 R2=>?_⟩⟩
 obtain ⟨xs,hx,hxi⟩:=R2.mem l _ (keep i G2 M2 w2)
 have hlen:=hxi.len
 have hx2:SqL X.K H2 l xs:=SqL.of hx
 refine ⟨fun e=>⟨xs,hx2,by omega⟩,fun hlt=>⟨⟨xs,xs[i]'(by omega),hx2,by simp⟩,fun x H3 y=>?_⟩⟩
 obtain ⟨T,z,e1,e2,e3,e4⟩:=y
 subst e1;subst e3
 obtain ⟨d,e5,i5⟩:=hxi.get' (e4 xs hx2)
 have gr:=grow_new (o:=.tup [.int i,z]) e2
 exact ⟨gr,.tup [.int i,d],M2,is_tup.mpr ⟨T,_,rfl,upd_same,isl_cons.mpr ⟨_,_,rfl,is_int.mpr rfl,isl_cons.mpr ⟨_,_,rfl,i5.grow gr,isl_nil.mpr rfl⟩⟩⟩,R2.mem.new e2,step i d G2 M2 e5 w2⟩
end
def ItDd (n:Nat):It:=⟨fun i _=>i < n,fun i H x H'=>H'=H/\x=.int ((n:Int) - 1 - i),fun i _=>n<=i⟩
theorem turn_dd {P:Program} {w:World} {K:PySem.W.Frag} {tg:Expr} (it:Addr) (n:Nat):Turn P w K tg (ItDd n) [it] it (fun i h=>IsRangeIter h it (((n:Int) - 1)+(i:Nat) * (-1)) ((n:Int) - (i:Nat)) (-1)):=by
 refine ⟨by simp,?_,fun i h h' st k=>k it (by simp) _ st,?_,?_,fun _ _ _ _ _ st h=>wpAny_pyIter_rangeiter st h⟩
 ·intro i h st b hb
  have e:b=it:=by simpa using hb
  subst e
  refine ⟨_,st,fun v z=>?_⟩
  have z':Data.fields _=Data.cell v:=z
  cases z'
 ·intro X hP hw hK hc i pins s σ H E I hf st hg
  subst hP hw hK
  obtain ⟨f0,f1,f2,f3,f4,f5⟩:=hf it (by simp)
  refine (Walks.range (prog:=X.prog) (w:=X.w) (I.ok.hd hc) it ((n:Int) - 1) (-1) n).item i s _ _ hg st fun v h' tk hv st' kk=>?_
  obtain ⟨t,rfl⟩:=hv
  have I1:Inv X pins σ H { s with heap:=h',toks:=tk }:=I.turned (fun b o hb e=>kk b o (by simpa using hb) e) f0 f1 f3 f4 f5
  refine ⟨_,rfl,go_of (s:={ s with heap:=h',toks:=tk }) (n := "range_iterator") st' rfl rfl (by decide) ⟨.int ((n:Int) - 1 - i),H,I1,⟨t,?_⟩,⟨rfl,rfl⟩,st',fun b hb=>(hf b hb).1⟩⟩
  rw [show ((n:Int) - 1)+(i:Nat) * (-1)=(n:Int) - 1 - i from by omega]
 ·intro X hP hw hK hc i pins s σ H E I hf st hg
  subst hP hw hK
  obtain ⟨f0,f1,f2,f3,f4,f5⟩:=hf it (by simp)
  exact wpAny_pyNext_range_end (I.ok.hd hc) st (by have:n<=i:=hg;omega) fun h' eb=>⟨rfl,I.turned (t':=s.toks) (fun b o hb e=>eb b o hb e) f0 f1 f3 f4 f5⟩
theorem size_dd {n:Nat}:Builtin.Range.rangeSize ((n:Int) - 1) (-1) (-1)=n:=by
 unfold Builtin.Range.rangeSize
 rw [if_neg (by decide)]
 by_cases h:(n:Int) - 1 > -1
 ·rw [if_pos h]
  first | omega | (simp;done) | (simp;omega)
 ·rw [if_neg h]
  omega
theorem small_dd {n:Nat} (h:(n:Int) < 2 ^ 62):Builtin.Range.small ((n:Int) - 1) (-1) (-1)=true:=by
 unfold Builtin.Range.small
 rw [size_dd]
 simp only [Builtin.Range.rangeFitsLong,Bool.and_eq_true,Bool.or_eq_true,decide_eq_true_eq,beq_iff_eq]
 simp
 omega
section
variable {X:Cx} {tg:Expr}
def iDd (ta:TA):TI:=fun σ H R=>ta σ H fun vs H1=>∃ n:Nat,vs=[.int ((n:Int) - 1),.int (-1),.int (-1)]/\(n:Int) < 2 ^ 62/\R (ItDd n) H1
theorem pi_dd {a b c:Expr} {ta:TA} {p pos:Pos} (hg:Gl X "range") (hm:X.mg "range" = none) (ha:PA X [a,b,c] ta) (hs:starEach [a,b,c] X.env=[(false,eval a X.env),(false,eval b X.env),(false,eval c X.env)]) (hs2:starEach [b,c] X.env=[(false,eval b X.env),(false,eval c X.env)]) :
  PI X tg (.Call (.Name "range" p) [a,b,c] [] pos) (iDd ta):=by
 intro pins s σ H R I h
 refine Call_ (ld_blt I hg hm boot_range (PyProof.Rows.callWith_type1 (thn (ha pos pins s σ H _ I h) fun us s1 ⟨vs,H1,I1,r1,q1⟩=>?_) (by rw [hs,hs2]) (by rw [hs2];rfl)))
 obtain ⟨n,e,hn,q⟩:=q1
 subst e
 cases r1 with
 | cons r rr =>
  cases rr with
  | cons r' rr =>
   cases rr with
   | cons r'' rr =>
    cases rr
    obtain ⟨t,rfl⟩:=r
    obtain ⟨t',rfl⟩:=r'
    obtain ⟨t'',rfl⟩:=r''
    refine PySem.call_range_3 (by decide) ?_ (Or.inl (PyProof.noPylong_small (by decide)))
    refine wpAny_pyIter_range (IsRange.new ..) (small_dd hn) ?_
    generalize hob:({ cls:=.type "range",data:=.fields #[.int ((n:Int) - 1) t,.int (-1) t',.int (-1) t''] }:Obj)=ob
    have I2:L2.Inv X pins σ H1 { s1 with heap:=s1.heap.push ob }:=I1.kept fun b o e=>Heap.get?_push_of_some _ e
    refine ⟨(s1.heap.push ob).objs.size,[(s1.heap.push ob).objs.size],_,_,H1,rfl,I2.kept (t':=s1.toks) fun b o e=>Heap.get?_push_of_some _ e,turn_dd _ n,?_,fun b hb=>?_,q⟩
    ·have e2:((n:Nat):Int) - ((0:Nat):Int)=Builtin.Range.rangeSize ((n:Int) - 1) (-1) (-1):=by rw [size_dd];omega
     show IsRangeIter _ _ ((n:Int) - 1+((0:Nat):Int) * (-1)) ((n:Int) - ((0:Nat):Int)) (-1)
     rw [show (n:Int) - 1+((0:Nat):Int) * (-1)=(n:Int) - 1 from by omega,e2]
     exact Heap.get?_push_size _ rfl
    ·have e:b=(s1.heap.push ob).objs.size:=by simpa using hb
     subst e
     exact I2.fpOk (Nat.le_refl _) (I2.hok.fresh (Nat.le_refl _))
end
section
variable {X:Cx} {G:Ga} {M:MH} {e1 e2 e3:Expr} {tg:Expr} {body:List Stmt} {pos:Pos} {E:EndsD}
theorem ex_for_dd {p:Pos} (hp:PassesOwn (model X.prog X.w) X.A X.env X.xe) (hc:X.calm=true) (hm:X.mg "range" = none)
  (h:AV X G M [e1,e2,e3] fun ds M1=>∃ (n:Nat) (Iv:Nat->Ga->MH->Prop),ds=[.int ((n:Int) - 1),.int (-1),.int (-1)]/\(n:Int) < 2 ^ 62/\Iv 0 G M1 /\
   (∀ (i:Nat) G' M',i < n->Iv i G' M'->GV X G' M' tg (.int ((n:Int) - 1 - i)) fun G3 M3=>EXs X G3 M3 body { nx:=Iv (i+1),ct:=Iv (i+1),bk:=E.nx,rt:=E.rt })/\(∀ G' M',Iv n G' M'->E.nx G' M'))
  (hg:Gl X "range") (hse:starEach [e1,e2,e3] X.env=[(false,eval e1 X.env),(false,eval e2 X.env),(false,eval e3 X.env)]) (hse2:starEach [e2,e3] X.env=[(false,eval e2 X.env),(false,eval e3 X.env)])
  (hs:∀ x,foldedSetIterable (.Call (.Name "range" p) [e1,e2,e3] [] pos) X.env x=pure x) {pos':Pos}:EX X G M (.For tg (.Call (.Name "range" p) [e1,e2,e3] [] pos) body [] pos') E:=by
 refine ex_for hp hc (pi_dd hg hm (pa_D (G:=G)) hse hse2) (fun σ H kf R=>?_) hs
 refine ⟨M,_,R,h,fun vs H' ds M' kf' g i R' q=>?_⟩
 obtain ⟨n,Iv,e,h1,h0,step,fin⟩:=q
 subst e
 obtain ⟨v,v2,v3,rfl,hv,hv2,hv3⟩:=isl3 i
 rw [is_int] at hv hv2 hv3;subst hv;subst hv2;subst hv3
 refine ⟨n,rfl,h1,g,M',n,Iv,R',h0,fun i G2 M2 hin w2=>⟨fun e=>fin G2 M2 (by rw [<- e];exact w2),fun σ2 H2 _ R2=>⟨fun e=>?_,fun hlt=>⟨hlt,fun x H3 y=>?_⟩⟩⟩⟩
 ·show n<=i
  omega
 ·obtain ⟨e,y⟩:=y
  subst e;subst y
  exact ⟨Grow.refl _,.int ((n:Int) - 1 - i),M2,is_int.mpr rfl,R2.mem,step i G2 M2 hlt w2⟩
end
section
variable {X:Cx} {G:Ga} {M:MH} {elt e1 e2:Expr} {ts ifs:List Expr} {n:Nat} {tp p ep:Pos} {scope:Scope} {pos:Pos} {own:List Str} {js:List Nat} {N:List Str} {cl:List (Str × Addr)}
theorem ex_comp_zip {E:EndsD} {y:Str} {py spos:Pos} (jj:Nat) (b:Bool) (T:CompOk X own js N scope cl) (hxe:X.xe=fun _ _=>False) (hc:X.calm=true) (hm:X.mg "zip" = none) (hN:X.N.Nodup) (hj:X.N[jj]?=some y) (hy:Loc X.env.scope y) (hyf:X.fn y=true\/X.env.scope.names.lookup y=some .local)
  (hsw:swapsWith (.ListComp elt [⟨.Tuple ts n tp,.Call (.Name "zip" p) [e1,e2] [] ep,ifs,0⟩] scope pos) (some (.Name y py)) spos.line X.env=pure true) (f:D->D) (pr:D->Bool)
  (h:AV X G M [e1,e2] fun vs M1=>∃ (d1:D) (ds es:List D),vs=[d1,.tup es]/\SqD d1 M1 ds b/\ds.length<=sizeLine /\
   (∀ Y:Cx,(∃ C s H fp,Y=compCx X N scope cl C s H fp)->∀ M',Ext M1 M'->∀ d∈twos ds es,GV Y (compG own js G) M' (.Tuple ts n tp) d fun G3 M3=>M3=M'/\Sub (compG own js G) G3/\TVs Y G3 M' ifs (fun k M4=>M4=M'/\k=pr d)/\(pr d=true->EV Y G3 M' elt fun o M4=>M4=M'/\o=f d)) /\
   ∀ q,M1 q=none->E.nx (G.set jj (some (.ref q))) (mset M1 q (.lst (((twos ds es).filter pr).map f))))
  (hg:Gl X "zip") (hse:starEach [e1,e2] X.env=(false,eval e1 X.env) :: starEach [e2] X.env) (hpl:(backTo ep (starEach [e2] X.env)).any (·.1)=false) (hs:∀ x,foldedSetIterable (.Call (.Name "zip" p) [e1,e2] [] ep) X.env x=pure x):EX X G M (.Assign [.Name y py] (.ListComp elt [⟨.Tuple ts n tp,.Call (.Name "zip" p) [e1,e2] [] ep,ifs,0⟩] scope pos) spos) E:=by
 refine ex_compI jj T hxe hc (pi_zip (b:=b) hg hm (pa_D (G:=G)) hse hpl) hN hj hy hyf hsw (fun σ H kf R=>?_) hs
 refine ⟨M,_,R,h,fun vs H' es' M' kf' g i R' q=>?_⟩
 obtain ⟨d1,ds,es,e,hsq,hz,block,fin⟩:=q
 subst e
 obtain ⟨v1,v2,rfl,hv1,hv2⟩:=isl2 i
 obtain ⟨a1,xs,rfl,hx,hxi⟩:=sqd_of hv1 R'.mem hsq
 obtain ⟨a2,ys,rfl,hy,hyi⟩:=sqd_of (b:=true) (M:=M') hv2 R'.mem rfl
 have hnl:=twos_len ds es
 refine ⟨a1,a2,rfl,⟨xs,hx⟩,⟨ys,hy⟩,g,M',twos ds es,fun q i acc M2=>M' q=none/\M2=mset M' q (.lst acc)/\acc=(((twos ds es).take i).filter pr).map f,R',fun q i acc M2 H2 g2 m2 v2=>?_,fun q hq=>⟨hq,rfl,by simp⟩,pure_block (by omega) block,fun q acc M2 ⟨h1,h2,h3⟩ _=>by rw [h2,h3,List.take_length];exact fin q h1⟩
 have hsq2:SqD d1 M2 ds b:=by
  cases b with
  | true=>exact hsq
  | false=>obtain ⟨l,e,hl⟩:=hsq;exact ⟨l,e,by rw [v2.2.1,mset_old v2.1 hl]⟩
 obtain ⟨b1,xs2,eb1,hx2,hxi2⟩:=sqd_of (Is.grow g2 _ _ hv1) m2 hsq2
 cases eb1
 obtain ⟨b2,ys2,eb2,hy2,hyi2⟩:=sqd_of (b:=true) (M:=M2) (Is.grow g2 _ _ hv2) m2 rfl
 cases eb2
 have l1:=hxi2.len
 have l2:=hyi2.len
 refine ⟨fun e=>⟨xs2,ys2,hx2,hy2,by omega⟩,fun hlt=>⟨⟨xs2,ys2,xs2[i]'(by omega),ys2[i]'(by omega),hx2,hy2,by simp,by simp⟩,fun x H3 y=>?_⟩⟩
 obtain ⟨T,x1,y1,e1,e2,e3,e4,e5⟩:=y
 subst e1;subst e3
 obtain ⟨dx,f1,j1⟩:=hxi2.get' (e4 xs2 hx2)
 obtain ⟨dy,f2,j2⟩:=hyi2.get' (e5 ys2 hy2)
 have gr:=grow_new (o:=.tup [x1,y1]) e2
 exact ⟨gr,fun b o w=>by rw [upd_ne (fun w'=>by rw [w',e2] at w;cases w)];exact w,_,twos_get f1 f2,is_tup.mpr ⟨T,_,rfl,upd_same,isl_cons.mpr ⟨_,_,rfl,j1.grow gr,isl_cons.mpr ⟨_,_,rfl,j2.grow gr,isl_nil.mpr rfl⟩⟩⟩⟩
end
end D3
namespace D3
open PySem PySem.Spec PyProof.Rows L2
section
variable {X:Cx} {G:Ga} {M:MH} {elt tg iter e:Expr} {ifs:List Expr} {scope:Scope} {pos:Pos} {Q:DK} {own:List Str} {js:List Nat} {N:List Str} {cl:List (Str × Addr)}
theorem ev_compLF (T:CompOk X own js N scope cl) (hxe:X.xe=fun _ _=>False) (hc:X.calm=true)
  (h:EV X G M iter fun d M1=>∃ (l:Addr) (ds:List D) (Iv:Addr->Nat->List D->MH->Prop),d=.ref l/\M1 l=some (.lst ds)/\(∀ q i acc M',Iv q i acc M'->M' l=some (.lst ds))/\(∀ q,M1 q=none->Iv q 0 [] (mset M1 q (.lst []))) /\
   (∀ Y:Cx,(∃ C s H fp,Y=compCx X N scope cl C s H fp)->∀ q i acc M' d,ds[i]?=some d->Iv q i acc M'->M' q=some (.lst acc)->GV Y (compG own js G) M' tg d fun G3 M3=>M3=M'/\Sub (compG own js G) G3/\TVs Y G3 M' ifs fun k M4=>M4=M'/\if k=true then EV Y G3 M' elt fun o M5=>M5 q=some (.lst acc)/\acc.length < sizeLine/\Iv q (i+1) (acc++[o]) (mset M5 q (.lst (acc++[o]))) else Iv q (i+1) acc M') /\
   ∀ q acc M',Iv q ds.length acc M'->M' q=some (.lst acc)->Q (.ref q) M')
  (hs:∀ x,foldedSetIterable iter X.env x=pure x):EV X G M (.ListComp elt [⟨tg,iter,ifs,0⟩] scope pos) Q:=by
 refine ev_compK T hxe hc (pi_list (pe_D (G:=G))) (fun σ H kf R=>⟨fun J H1=>Grow H H1/\CompT X G own js N scope cl tg elt ifs σ (fun q=>Q (.ref q)) J H1,?_,fun J H1 z=>z⟩) hs
 refine ⟨M,_,R,h,fun v H' d M' kf' g i R' q=>?_⟩
 obtain ⟨l,ds,Iv,e,hl,keep,iv0,block,fin⟩:=q
 subst e
 rw [is_ref] at i;subst i
 obtain ⟨xs0,hx0,_⟩:=R'.mem l _ hl
 refine ⟨l,rfl,⟨xs0,SqL.of hx0⟩,g,M',ds,Iv,R',fun q i acc M2 H2 g2 m2 v2=>?_,iv0,block,fin⟩
 obtain ⟨xs,hx2,hxi⟩:=m2 l _ (keep q i acc M2 v2)
 have hlen:=hxi.len
 have sq:SqL X.K H2 l xs:=SqL.of hx2
 refine ⟨fun e=>⟨xs,sq,by omega⟩,fun hlt=>⟨⟨xs,xs[i]'(by omega),sq,by simp⟩,fun x H3 y=>?_⟩⟩
 obtain ⟨e,y⟩:=y
 subst e
 have e1:=y xs sq
 obtain ⟨d,e2,i2⟩:=hxi.get' e1
 exact ⟨Grow.refl _,fun _ _ z=>z,d,e2,i2⟩
end
end D3
namespace KA
open PySem PySem.Spec PyProof.Rows L2 D3 K01
theorem lin_none:∀ (xs:List Int) (v:Vec),(∀ j,v j=0)->lin xs v=0
 | [],_,_=>rfl
 | x :: xs,v,h=>by
  show v 0 * x+lin xs (fun i=>v (i+1))=0
  rw [h 0,lin_none xs _ fun j=>h (j+1)]
  omega
theorem lin_unit:∀ (xs:List Int) (v:Vec) (i:Nat) (x:Int),(∀ j,v j=if j=i then 1 else 0)->xs[i]?=some x->lin xs v=x
 | [],_,_,_,_,h=>by simp at h
 | y :: xs,v,0,x,h,e=>by
  show v 0 * y+lin xs (fun i=>v (i+1))=x
  rw [h 0,lin_none xs _ fun j=>by rw [h (j+1),if_neg (by omega)]]
  have e:y=x:=by simpa using e
  rw [if_pos rfl,e];omega
 | y :: xs,v,i+1,x,h,e=>by
  show v 0 * y+lin xs (fun i=>v (i+1))=x
  rw [h 0,if_neg (by omega),lin_unit xs _ i x (fun j=>by rw [h (j+1)];by_cases z:j=i<;>simp [z]) (by simpa using e)]
  omega
theorem unit_len (n i:Nat):(unitL n i).length=n:=by unfold unitL;simp
theorem sumC_unit {rows:List Row3} {i:Nat} {r:Row3} (h:rows[i]?=some r) (s:Str):sumC rows (unitL rows.length i) s=cf r.ts s:=by
 have hi:i < rows.length:=(List.getElem?_eq_some_iff.mp h).1
 rw [sumC_lin (unit_len _ _)]
 exact lin_unit _ _ i _ (wv_unit hi) (by rw [List.getElem?_map,h];rfl)
theorem sumB_unit {rows:List Row3} {i:Nat} {r:Row3} (h:rows[i]?=some r):sumB rows (unitL rows.length i)=r.b:=by
 have hi:i < rows.length:=(List.getElem?_eq_some_iff.mp h).1
 rw [sumB_lin (unit_len _ _)]
 exact lin_unit _ _ i _ (wv_unit hi) (by rw [List.getElem?_map,h];rfl)
theorem mask_unit {n i:Nat} (h:i < n):mask (unitL n i)=2 ^ i:=Nat.eq_of_testBit_eq fun j=>by
 rw [mask_bit,wv_unit h,Nat.testBit_two_pow]
 by_cases z:i=j
 ·subst z;simp
 ·rw [if_neg (fun y=>z y.symm)]
  simp [z]
theorem sumC_put {rows:List Row3} {l u:List Int} {a b:Int} (hl:l.length=rows.length) (hu:u.length=rows.length) (s:Str):sumC rows (putL a b l u) s=a * sumC rows l s+b * sumC rows u s:=by
 rw [sumC_lin (by rw [put_len (by omega)];exact hl),sumC_lin hl,sumC_lin hu,wv_put (by omega),lin_lin]
theorem sumB_put {rows:List Row3} {l u:List Int} {a b:Int} (hl:l.length=rows.length) (hu:u.length=rows.length):sumB rows (putL a b l u)=a * sumB rows l+b * sumB rows u:=by
 rw [sumB_lin (by rw [put_len (by omega)];exact hl),sumB_lin hl,sumB_lin hu,wv_put (by omega),lin_lin]
theorem sides_put {rows:List Row3} {l u:List Int} {a b:Int} {ss:List Str} (hl:l.length=rows.length) (hu:u.length=rows.length):putL a b (sides rows l ss) (sides rows u ss)=sides rows (putL a b l u) ss:=by
 unfold sides
 have e:∀ ss:List Str,putL a b (ss.map (sumC rows l)) (ss.map (sumC rows u))=ss.map (sumC rows (putL a b l u)):=by
  intro ss
  induction ss with
  | nil=>rfl
  | cons s ss ih =>
   show (a * sumC rows l s+b * sumC rows u s) :: putL a b (ss.map (sumC rows l)) (ss.map (sumC rows u))=_
   rw [ih,<- sumC_put hl hu];rfl
 show List.zipWith _ _ _=_
 rw [List.zipWith_append (by simp),sumB_put hl hu]
 congr 1
 exact e ss
theorem mask_put {l u:List Int} {a b:Int} (hl:l.length=u.length) (ha:0 < a) (hb:0 < b) (nl:∀ x∈l,0<=x) (nu:∀ x∈u,0<=x):mask (putL a b l u)=mask l ||| mask u:=Nat.eq_of_testBit_eq fun j=>by
 rw [Nat.testBit_or,mask_bit,mask_bit,mask_bit,wv_put hl,<- Bool.decide_or]
 have n1:=(pos_wv rfl nl).nn j
 have n2:=(pos_wv rfl nu).nn j
 show decide (0 < a * wv l j+b * wv u j)=_
 refine decide_eq_decide.mpr ⟨fun h=>?_,fun h=>?_⟩
 ·rcases Int.lt_or_le 0 (wv l j) with z | z
  ·exact .inl z
  ·rcases Int.lt_or_le 0 (wv u j) with y | y
   ·exact .inr y
   ·rw [Int.le_antisymm z n1,Int.le_antisymm y n2] at h
    omega
 ·rcases h with h | h
  ·have:=Int.mul_pos ha h
   have:=Int.mul_nonneg (Int.le_of_lt hb) n2
   omega
  ·have:=Int.mul_nonneg (Int.le_of_lt ha) n1
   have:=Int.mul_pos hb h
   omega
theorem bitOr_nat (m n:Nat):Builtin.bitOr (m:Int) (n:Int)=((m ||| n:Nat):Int):=by
 have h1:¬ (0:Int)<=-(m:Int) - 1:=by omega
 have h2:¬ (0:Int)<=-(n:Int) - 1:=by omega
 show Spec.bitNot (Spec.bitAnd (-(m:Int) - 1) (-(n:Int) - 1))=_
 unfold Spec.bitAnd
 rw [decide_eq_false h1,decide_eq_false h2]
 show Spec.bitNot (Spec.bitNot (((Spec.bitNot (-(m:Int) - 1)).toNat ||| (Spec.bitNot (-(n:Int) - 1)).toNat:Nat):Int))=_
 have e:∀ k:Nat,(Spec.bitNot (-(k:Int) - 1)).toNat=k:=fun k=>by unfold Spec.bitNot;omega
 rw [e,e]
 unfold Spec.bitNot
 omega
abbrev mrD (rows:List Row3) (ss:List Str) (w:List Int):D:=.tup [.int (mask w:Nat),.tup (w.map D.int),.tup ((sides rows w ss).map D.int)]
def sB:Nat->Nat
 | 0=>87
 | k+1=>2 * sB k+1
def wB:Nat->Nat
 | 0=>1
 | k+1=>sB k+wB k+1
structure StB (rows:List Row3) (st:List (List Int)) (k:Nat):Prop where
 w:∀ w∈st,∀ x∈w,B (wB k) x
 c:∀ w∈st,∀ s,B (sB k) (sumC rows w s)
 b:∀ w∈st,B (sB k) (sumB rows w)
theorem put_mem {a b x:Int}:∀ {l u:List Int},x∈putL a b l u->∃ y∈l,∃ z∈u,x=a * y+b * z
 | [],_,h=>by cases h
 | _ :: _,[],h=>by cases h
 | y :: l,z :: u,h=>by
  rcases List.mem_cons.mp (show x∈(a * y+b * z) :: putL a b l u from h) with e | h
  ·exact ⟨y,List.mem_cons_self ..,z,List.mem_cons_self ..,e⟩
  ·obtain ⟨y',h1,z',h2,e⟩:=put_mem h
   exact ⟨y',List.mem_cons_of_mem _ h1,z',List.mem_cons_of_mem _ h2,e⟩
theorem StB.first {rows:List Row3} (h:∀ r∈rows,RowOk r):StB rows (firstL rows.length) 0:=by
 have key:∀ w∈firstL rows.length,∃ i r,rows[i]?=some r/\w=unitL rows.length i:=fun w hw=>by
  obtain ⟨i,hi,rfl⟩:=List.mem_map.mp hw
  have hi:=List.mem_range.mp hi
  exact ⟨i,rows[i],List.getElem?_eq_getElem hi,rfl⟩
 refine ⟨fun w hw x hx=>?_,fun w hw s=>?_,fun w hw=>?_⟩
 ·obtain ⟨i,r,hr,rfl⟩:=key w hw
  obtain ⟨j,_,rfl⟩:=List.mem_map.mp hx
  unfold B
  split<;>decide
 ·obtain ⟨i,r,hr,rfl⟩:=key w hw
  rw [sumC_unit hr]
  exact (h r (List.mem_of_getElem? hr)).cf s
 ·obtain ⟨i,r,hr,rfl⟩:=key w hw
  rw [sumB_unit hr]
  exact B.up (by decide) (h r (List.mem_of_getElem? hr)).bb
theorem StB.next {rows:List Row3} {st:List (List Int)} {k:Nat} {s:Str} (S:StB rows st k) (hl:∀ w∈st,w.length=rows.length):StB rows (nextL (fun w=>sumC rows w s) st) (k+1):=by
 have u1:∀ {x},B (wB k) x->B (wB (k+1)) x:=fun h=>B.up (by show wB k<=sB k+wB k+1;omega) h
 have u2:∀ {x},B (sB k) x->B (sB (k+1)) x:=fun h=>B.up (by show sB k<=2 * sB k+1;omega) h
 have m2:∀ {a x b y:Int},B (sB k) a->B (sB k) x->B (sB k) b->B (sB k) y->B (sB (k+1)) (a * x+b * y):=fun h1 h2 h3 h4=>by
  have:=B.add (B.mul h1 h2) (B.mul h3 h4)
  exact B.up (by show sB k+sB k+1<=2 * sB k+1;omega) this
 refine ⟨fun w hw x hx=>?_,fun w hw t=>?_,fun w hw=>?_⟩
 ·rcases mem_next.mp hw with ⟨h,_⟩ | ⟨l,u,h1,h2,h3,h4,_,rfl⟩
  ·exact u1 (S.w w h x hx)
  ·obtain ⟨y,hy,z,hz,rfl⟩:=put_mem hx
   have:=B.add (B.mul (B.neg (S.c u h2 s)) (S.w l h1 y hy)) (B.mul (S.c l h1 s) (S.w u h2 z hz))
   exact this
 ·rcases mem_next.mp hw with ⟨h,_⟩ | ⟨l,u,h1,h2,h3,h4,_,rfl⟩
  ·exact u2 (S.c w h t)
  ·rw [sumC_put (hl l h1) (hl u h2)]
   exact m2 (B.neg (S.c u h2 s)) (S.c l h1 t) (S.c l h1 s) (S.c u h2 t)
 ·rcases mem_next.mp hw with ⟨h,_⟩ | ⟨l,u,h1,h2,h3,h4,_,rfl⟩
  ·exact u2 (S.b w h)
  ·rw [sumB_put (hl l h1) (hl u h2)]
   exact m2 (B.neg (S.c u h2 s)) (S.b l h1) (S.c l h1 s) (S.b u h2)
theorem stg_bd {rows:List Row3} {ss:List Str} (h:∀ r∈rows,RowOk r):∀ k,k<=ss.length->StB rows (stg rows (ss.take k)) k
 | 0,_=>StB.first h
 | k+1,hk=>by
  have hs:ss[k]?=some ss[k]:=List.getElem?_eq_getElem (by omega)
  have tk:ss.take (k+1)=ss.take k++[ss[k]]:=by rw [List.take_add_one,hs];rfl
  rw [tk,stg_snoc]
  exact (stg_bd h k (by omega)).next (stg_ok rows (ss.take k)).len
theorem stg_size {n:Nat} {st:List (List Int)} {C:Vec->Prop} (S:StL n st C):st.length<=2 ^ n:=by
 have hn:(st.map mask).Nodup:=by
  refine (List.pairwise_map).mpr (S.nd.imp_of_mem fun {a b} ha hb ne=>fun z=>ne ?_)
  have wi:∀ {a b:List Int},mask a=mask b->Wi (wv a) (wv b):=fun {a b} e i h=>by
   have:=mask_bit b i
   rw [<- e,mask_bit] at this
   exact of_decide_eq_true (this ▸ decide_eq_true h)
  exact wv_inj (by rw [S.len a ha,S.len b hb]) (S.sg.anti _ _ ⟨a,ha,rfl⟩ ⟨b,hb,rfl⟩ (wi z))
 have:=len_subG (m:=List.range (2 ^ n)) hn fun x hx=>by
  obtain ⟨w,hw,rfl⟩:=List.mem_map.mp hx
  have:=mask_lt w
  rw [S.len w hw] at this
  exact List.mem_range.mpr this
 rw [List.length_map,List.length_range] at this
 exact this
end KA
namespace KA
open PySem PySem.Spec PyProof.Rows L2 D3 K01
theorem side_at {rows:List Row3} {ss:List Str} {k:Nat} {s:Str} (w:List Int) (hk:ss[k]?=some s):((sides rows w ss).map D.int)[k]?=some (.int (sumC rows w s)):=by
 have hl:k < ss.length:=(List.getElem?_eq_some_iff.mp hk).1
 unfold sides
 rw [List.getElem?_map,List.getElem?_append_left (by simpa using hl),List.getElem?_map,hk]
 rfl
def sideP (k:Nat) (f:Int->Bool):D->Bool
 | .tup [_,_,.tup xs]=>match xs[k]? with
  | some (.int n)=>f n
  | _=>false
 | _=>false
theorem sideP_mr {rows:List Row3} {ss:List Str} {k:Nat} {s:Str} {f:Int->Bool} (w:List Int) (hk:ss[k]?=some s):sideP k f (mrD rows ss w)=f (sumC rows w s):=by
 show (match ((sides rows w ss).map D.int)[k]? with
  | some (.int n)=>f n
  | _=>false)=_
 rw [side_at w hk]
theorem filt_mr {rows:List Row3} {ss:List Str} {p:D->Bool} {q:List Int->Bool} (h:∀ w,p (mrD rows ss w)=q w) (st:List (List Int)):((st.map (mrD rows ss)).filter p).map (fun d=>d)=(st.filter q).map (mrD rows ss):=by
 rw [List.map_id',List.filter_map]
 congr 1
 exact List.filter_congr fun w _=>h w
def withinP (m:Nat):D->Bool
 | .tup (.int n :: _)=>decide (Builtin.bitOr n m=m)
 | _=>false
theorem withinP_mr {rows:List Row3} {ss:List Str} {m:Nat} (w:List Int):withinP m (mrD rows ss w)=withinB m w:=by
 show decide (Builtin.bitOr ((mask w:Nat):Int) m=m)=decide (mask w ||| m=m)
 rw [bitOr_nat]
 exact decide_eq_decide.mpr (by omega)
def unitF (i:Nat):D->D
 | .int n=>.int (if n=(i:Int) then 1 else 0)
 | d=>d
theorem unit_map (n i:Nat):((((List.range n).map fun i:Nat=>D.int i).filter fun _=>true).map (unitF i))=(unitL n i).map D.int:=by
 rw [List.filter_eq_self.mpr (by simp),List.map_map]
 unfold unitL
 rw [List.map_map]
 refine List.map_congr_left fun j _=>?_
 show D.int (if (j:Int)=(i:Int) then 1 else 0)=D.int (if j=i then 1 else 0)
 by_cases z:j=i
 ·rw [if_pos z,if_pos (by omega)]
 ·rw [if_neg z,if_neg (by omega)]
theorem first_get {n i:Nat} (h:i < n):(firstL n)[i]?=some (unitL n i):=by
 unfold firstL
 rw [List.getElem?_map,List.getElem?_range h];rfl
theorem mr_unit {rows:List Row3} {ss:List Str} {i:Nat} {r:Row3} (h:rows[i]?=some r):mrD rows ss (unitL rows.length i)=.tup [.int (2 ^ i:Nat),.tup ((unitL rows.length i).map D.int),.tup ((ss.map (cf r.ts)++[r.b]).map D.int)]:=by
 have hi:i < rows.length:=(List.getElem?_eq_some_iff.mp h).1
 unfold mrD sides
 rw [mask_unit hi,sumB_unit h]
 have:ss.map (sumC rows (unitL rows.length i))=ss.map (cf r.ts):=List.map_congr_left fun s _=>sumC_unit h s
 rw [this]
theorem mr_join {rows:List Row3} {ss:List Str} {l u:List Int} {a b:Int} (hl:l.length=rows.length) (hu:u.length=rows.length) (ha:0 < a) (hb:0 < b) (nl:∀ x∈l,0<=x) (nu:∀ x∈u,0<=x) :
  mrD rows ss (putL a b l u)=.tup [.int (mask l ||| mask u:Nat),.tup ((putL a b l u).map D.int),.tup ((putL a b (sides rows l ss) (sides rows u ss)).map D.int)]:=by
 unfold mrD
 rw [mask_put (by omega) ha hb nl nu,sides_put hl hu]
theorem side_B {rows:List Row3} {ss:List Str} {w:List Int} {n:Nat} (h1:∀ s,B n (sumC rows w s)) (h2:B n (sumB rows w)):∀ x∈sides rows w ss,B n x:=fun x hx=>by
 unfold sides at hx
 rcases List.mem_append.mp hx with hx | hx
 ·obtain ⟨s,_,rfl⟩:=List.mem_map.mp hx;exact h1 s
 ·rw [List.mem_singleton.mp hx];exact h2
theorem side_len (rows:List Row3) (ss:List Str) (w:List Int):(sides rows w ss).length=ss.length+1:=by unfold sides;simp
structure MrOk (rows:List Row3) (w:List Int):Prop where
 len:w.length=rows.length
 nn:∀ x∈w,0<=x
 wt:∀ x∈w,B 1400 x
 c:∀ s,B 1400 (sumC rows w s)
 b:B 1400 (sumB rows w)
def spFirst:SpD:=fun ds M Q=>∃ (l p:Addr) (rows:List Row3) (ss:List Str),ds=[.ref l,.ref p]/\M l=some (.lst (rows.map Row3.d))/\M p=some (.lst (ss.map D.str))/\rows.length<=8/\(∀ r∈rows,RowOk r)/\ss.length<=50 /\
 ∀ q M',M q=none->M' q=some (.lst ((firstL rows.length).map (mrD rows ss)))->Ext M M'->Q (.ref q) M'
def spNeeded:SpD:=fun ds M Q=>∃ (q:Addr) (m:Nat) (rows:List Row3) (ss:List Str) (st:List (List Int)),ds=[.ref q,.int m]/\M q=some (.lst (st.map (mrD rows ss)))/\st.length<=300/\∀ M',Ext M M'->Q (.bl (decide ((st.filter (withinB m)).length=2))) M'
def spJoined:SpD:=fun ds M Q=>∃ (rows:List Row3) (ss:List Str) (l u:List Int) (k:Nat) (s:Str),ds=[mrD rows ss l,mrD rows ss u,.int k]/\ss[k]?=some s/\ss.length<=50/\rows.length<=8/\MrOk rows l/\MrOk rows u/\0 < sumC rows l s/\sumC rows u s < 0 /\
 ∀ M',Ext M M'->Q (mrD rows ss (putL (-sumC rows u s) (sumC rows l s) l u)) M'
def spWithout:SpD:=fun ds M Q=>∃ (q:Addr) (k:Nat) (rows:List Row3) (ss:List Str) (st:List (List Int)) (s:Str),ds=[.ref q,.int k]/\M q=some (.lst (st.map (mrD rows ss)))/\ss[k]?=some s/\ss.length<=50/\rows.length<=8/\st.length<=300/\(nextL (fun w=>sumC rows w s) st).length<=300/\(∀ w∈st,MrOk rows w) /\
 ∀ q' M',M q'=none->M' q'=some (.lst ((nextL (fun w=>sumC rows w s) st).map (mrD rows ss)))->Ext M M'->Q (.ref q') M'
theorem atK {ds:List D} {k:Nat} {d:D} (h:ds[k]?=some d):atI ds (k:Int)=some d:=atI_nat h
theorem next_len {A:List Int->Int} {st:List (List Int)} {i j:Nat} {l:List Int} (h:(st.filter fun l=>decide (0 < A l))[i]?=some l) :
  (st.filter fun r=>decide (A r=0)).length+(((st.filter fun l=>decide (0 < A l)).take i).flatMap (joinsL A st)).length+(((st.filter fun u=>decide (A u < 0)).take j).filter (needB st l)).length<=(nextL A st).length:=by
 unfold nextL
 rw [List.length_append]
 generalize st.filter (fun l=>decide (0 < A l))=LB at h ⊢
 have e:LB=LB.take i++(l :: LB.drop (i+1)):=by
  obtain ⟨hi,he⟩:=List.getElem?_eq_some_iff.mp h
  conv=>lhs;rw [<- List.take_append_drop i LB]
  rw [List.drop_eq_getElem_cons hi,he]
 have e2:(LB.flatMap (joinsL A st)).length=((LB.take i).flatMap (joinsL A st)).length+((joinsL A st l).length+((LB.drop (i+1)).flatMap (joinsL A st)).length):=by
  conv=>lhs;rw [e]
  rw [List.flatMap_append,List.length_append,List.flatMap_cons,List.length_append]
 have e3:(((st.filter fun u=>decide (A u < 0)).take j).filter (needB st l)).length<=(joinsL A st l).length:=by
  unfold joinsL
  rw [List.length_map]
  exact ((List.take_sublist j _).filter _).length_le
 omega
theorem take_snoc {α:Type} {l:List α} {i:Nat} {x:α} (h:l[i]?=some x):l.take (i+1)=l.take i++[x]:=by rw [List.take_add_one,h];rfl
end KA
namespace KA
open PySem PySem.Spec PyProof.Rows L2 D3 K01
def rq (p:Int × Int):Rat:=(p.1:Rat) / (p.2:Rat)
abbrev frP (p:Int × Int):D:=fr p.1 p.2
theorem cpos {b:Int} (h:0 < b):(0:Rat) < b:=Rat.intCast_pos.mpr h
theorem rq_lt {p q:Int × Int} (hp:0 < p.2) (hq:0 < q.2):rq p < rq q ↔ p.1 * q.2 < q.1 * p.2:=by
 have h1:=cpos hp
 have h2:=cpos hq
 unfold rq
 rw [Rat.div_lt_iff h1,<- Rat.intCast_lt_intCast (a:=p.1 * q.2),Rat.intCast_mul,Rat.intCast_mul]
 have e:(q.1:Rat) / q.2 * p.2=(q.1 * p.2) / q.2:=by grind
 rw [e,Rat.lt_div_iff h2]
theorem rq_le {p q:Int × Int} (hp:0 < p.2) (hq:0 < q.2):rq p<=rq q ↔ p.1 * q.2<=q.1 * p.2:=by
 have:=rq_lt hq hp
 rw [<- Rat.not_lt,this]
 omega
theorem rq_made {t b:Int} (h:b≠0):rq (tp t b,bt t b)=(t:Rat) / (b:Rat):=by
 have hb:(b:Rat)≠0:=fun z=>h (Rat.intCast_inj.mp (by rw [z];rfl))
 have h1:=cpos (bt_pos (t:=t) h)
 have c:=cross t b
 have c2:(tp t b:Rat) * b=t * bt t b:=by rw [<- Rat.intCast_mul,c,Rat.intCast_mul]
 unfold rq
 show (tp t b:Rat) / (bt t b:Rat)=_
 have h2:(bt t b:Rat)≠0:=by grind
 generalize (tp t b:Rat)=x at *
 generalize (bt t b:Rat)=y at *
 generalize (t:Rat)=u at *
 generalize (b:Rat)=v at *
 grind
def maxO:List (Int × Int)->Option (Int × Int)->Option (Int × Int)
 | [],f=>f
 | b :: bs,none=>maxO bs (some b)
 | b :: bs,some f=>maxO bs (if f.1 * b.2 < b.1 * f.2 then some b else some f)
abbrev optD:Option (Int × Int)->D
 | none=>.non
 | some p=>frP p
theorem maxO_snoc:∀ (bs:List (Int × Int)) (b:Int × Int) (f:Option (Int × Int)),maxO (bs++[b]) f=maxO [b] (maxO bs f)
 | [],_,_=>rfl
 | c :: bs,b,none=>maxO_snoc bs b (some c)
 | c :: bs,b,some f=>maxO_snoc bs b _
theorem maxO_some:∀ {bs:List (Int × Int)} {f m:Option (Int × Int)},maxO bs f=m->(∀ b∈bs,0 < b.2)->(∀ b,f=some b->0 < b.2)->(m=none->bs=[]/\f=none)/\∀ x,m=some x->(x∈bs\/f=some x)/\(∀ b∈bs,rq b<=rq x)/\∀ b,f=some b->rq b<=rq x
 | [],f,m,h,_,hf=>by
  subst h
  refine ⟨fun e=>⟨rfl,e⟩,fun x e=>⟨.inr e,by simp,fun b eb=>?_⟩⟩
  have e:f=some x:=e
  rw [e] at eb;cases eb;exact Rat.le_refl
 | c :: bs,none,m,h,hb,_=>by
  have ih:=maxO_some (f:=some c) (show maxO bs (some c)=m from h) (fun b hx=>hb b (List.mem_cons_of_mem _ hx)) (fun b e=>by cases e;exact hb _ (List.mem_cons_self ..))
  refine ⟨fun e=>absurd (ih.1 e).2 (by simp),fun x e=>?_⟩
  obtain ⟨h1,h2,h3⟩:=ih.2 x e
  refine ⟨.inl ?_,fun b hx=>?_,fun b e=>by cases e⟩
  ·rcases h1 with h1 | h1
   ·exact List.mem_cons_of_mem _ h1
   ·cases h1;exact List.mem_cons_self ..
  ·rcases List.mem_cons.mp hx with rfl | hx
   ·exact h3 b rfl
   ·exact h2 b hx
 | c :: bs,some f,m,h,hb,hf=>by
  have pc:=hb c (List.mem_cons_self ..)
  have pf:=hf f rfl
  have h:maxO bs (if f.1 * c.2 < c.1 * f.2 then some c else some f)=m:=h
  by_cases z:f.1 * c.2 < c.1 * f.2
  ·rw [if_pos z] at h
   have ih:=maxO_some h (fun b hx=>hb b (List.mem_cons_of_mem _ hx)) (fun b e=>by cases e;exact pc)
   refine ⟨fun e=>absurd (ih.1 e).2 (by simp),fun x e=>?_⟩
   obtain ⟨h1,h2,h3⟩:=ih.2 x e
   have hc:=h3 c rfl
   refine ⟨.inl ?_,fun b hx=>?_,fun b e=>?_⟩
   ·rcases h1 with h1 | h1
    ·exact List.mem_cons_of_mem _ h1
    ·cases h1;exact List.mem_cons_self ..
   ·rcases List.mem_cons.mp hx with rfl | hx
    ·exact hc
    ·exact h2 b hx
   ·cases e
    exact Rat.le_trans (Rat.le_of_lt ((rq_lt pf pc).mpr z)) hc
  ·rw [if_neg z] at h
   have ih:=maxO_some h (fun b hx=>hb b (List.mem_cons_of_mem _ hx)) (fun b e=>by cases e;exact pf)
   refine ⟨fun e=>absurd (ih.1 e).2 (by simp),fun x e=>?_⟩
   obtain ⟨h1,h2,h3⟩:=ih.2 x e
   have hf':=h3 f rfl
   refine ⟨?_,fun b hx=>?_,h3⟩
   ·rcases h1 with h1 | h1
    ·exact .inl (List.mem_cons_of_mem _ h1)
    ·exact .inr h1
   ·rcases List.mem_cons.mp hx with rfl | hx
    ·exact Rat.le_trans ((rq_le pc pf).mpr (by omega)) hf'
    ·exact h2 b hx
def BtwO (lo hi:Option (Int × Int)) (v:Rat):Prop :=
 ((∀ l,lo=some l->rq l < v)/\∀ h,hi=some h->v < rq h)\/∃ l h,lo=some l/\hi=some h/\v=rq l/\rq h<=rq l
def negP (p:Int × Int):Int × Int:=(-p.1,p.2)
theorem rq_neg (p:Int × Int):rq (negP p)=-rq p:=by
 unfold rq negP
 show ((-p.1:Int):Rat) / p.2=_
 rw [Rat.intCast_neg]
 grind
theorem fdiv_up {p q:Int} (hq:0 < q):p < (p.fdiv q+1) * q/\p.fdiv q * q<=p:=by
 obtain ⟨h1,h2⟩:=fdiv_rem (a:=p) hq
 rw [Int.add_mul]
 omega
theorem short_end {p q r s b:Int} (hq:0 < q) (hs:0 < s) (hb:0 < b) (h:p * s < r * q) (n:¬ ((p * b).fdiv q+1) * s < r * b):b<=q * s:=by
 refine Int.not_lt.mp fun z=>n ?_
 obtain ⟨_,h2⟩:=fdiv_up (p:=p * b) hq
 generalize (p * b).fdiv q=k at *
 have a1:k * q * s<=p * b * s:=Int.mul_le_mul_of_nonneg_right h2 (by omega)
 have a2:(p * s+1) * b<=(r * q) * b:=Int.mul_le_mul_of_nonneg_right (by omega) (by omega)
 have a3:(k+1) * s * q < r * b * q:=by
  have e1:(k+1) * s * q=k * q * s+q * s:=by grind
  have e2:p * b * s=p * s * b:=by grind
  have e3:(p * s+1) * b=p * s * b+b:=by grind
  have e4:r * b * q=(r * q) * b:=by grind
  omega
 exact Int.lt_of_mul_lt_mul_right a3 (by omega)
theorem sq_B {q s b:Int} {m:Nat} (hq:0 < q) (hs:0 < s) (hb:0 < b) (bq:B m q) (bs:B m s) (h:b<=q * s):B (4 * m+2) (b * b):=by
 have h1:B (m+m) b:=B.le (y:=q * s) (by have:=Int.mul_pos hq hs;omega) (B.mul bq bs)
 exact B.up (by omega) (B.mul h1 h1)
def HasT (kvs:List (Str × D)) (T:Nat) (s:Str):Prop:=∃ a b:Int,lkD kvs s=some (fr a b)/\0 < b/\Int.gcd a b=1/\B T a/\B T b
theorem HasT.at {kvs:List (Str × D)} {T:Nat} {s:Str} (h:HasT kvs T s):lkD kvs s=some (fr (atP kvs s).1 (atP kvs s).2)/\0 < (atP kvs s).2/\Int.gcd (atP kvs s).1 (atP kvs s).2=1/\B T (atP kvs s).1/\B T (atP kvs s).2:=by
 obtain ⟨x,y,h1,h2,h3,h4,h5⟩:=h
 have e:atP kvs s=(x,y):=by unfold atP;rw [h1]
 rw [e]
 exact ⟨h1,h2,h3,h4,h5⟩
theorem HasT.up {kvs:List (Str × D)} {T U:Nat} {s:Str} (h:HasT kvs T s) (hu:T<=U):HasT kvs U s :=
 let ⟨a,b,h1,h2,h3,h4,h5⟩:=h;⟨a,b,h1,h2,h3,h4.up hu,h5.up hu⟩
def valR (kvs:List (Str × D)) (s:Str):Rat:=rq (atP kvs s)
def tsum (x:Str->Rat):List (Str × Int)->Rat
 | []=>0
 | u :: r=>(u.2:Rat) * x u.1+tsum x r
theorem addUp_val {kvs:List (Str × D)} {T:Nat}:∀ (ts:List (Str × Int)) (t b:Int),(∀ u∈ts,HasT kvs T u.1)->0 < b->0 < (addUp kvs ts t b).2/\rq (addUp kvs ts t b)=rq (t,b)+tsum (valR kvs) ts
 | [],t,b,_,hb=>⟨hb,by show rq (t,b)=rq (t,b)+0;grind⟩
 | u :: r,t,b,h,hb=>by
  obtain ⟨_,py,_⟩:=(h u (List.mem_cons_self ..)).at
  have ih:=addUp_val r (t * (atP kvs u.1).2+u.2 * (atP kvs u.1).1 * b) (b * (atP kvs u.1).2) (fun v hv=>h v (List.mem_cons_of_mem _ hv)) (Int.mul_pos hb py)
  refine ⟨ih.1,?_⟩
  show rq (addUp kvs r _ _)=rq (t,b)+((u.2:Rat) * valR kvs u.1+tsum (valR kvs) r)
  rw [ih.2]
  unfold valR rq
  generalize (atP kvs u.1).1=x at *
  generalize (atP kvs u.1).2=y at *
  show ((t * y+u.2 * x * b:Int):Rat) / ((b * y:Int):Rat)+_=(t:Rat) / b+((u.2:Rat) * ((x:Rat) / y)+_)
  have hy:=cpos py
  have hb':=cpos hb
  rw [Rat.intCast_add,Rat.intCast_mul,Rat.intCast_mul,Rat.intCast_mul,Rat.intCast_mul]
  have hy0:(y:Rat)≠0:=by grind
  have hb0:(b:Rat)≠0:=by grind
  grind
theorem addUp_B {kvs:List (Str × D)} {T S:Nat}:∀ (ts:List (Str × Int)) (t b:Int) (i:Nat),(∀ u∈ts,HasT kvs T u.1/\B S u.2)->B (i * (T+S+2)+S+1) t->B (i * T+1) b->B ((i+ts.length) * (T+S+2)+S+1) (addUp kvs ts t b).1/\B ((i+ts.length) * T+1) (addUp kvs ts t b).2
 | [],t,b,i,_,ht,hb=>⟨ht,hb⟩
 | u :: r,t,b,i,h,ht,hb=>by
  obtain ⟨⟨_,_,_,bx,by'⟩,bu⟩:=show _/\_ from ⟨(h u (List.mem_cons_self ..)).1.at,(h u (List.mem_cons_self ..)).2⟩
  have ih:=addUp_B (kvs:=kvs) (T:=T) (S:=S) r (t * (atP kvs u.1).2+u.2 * (atP kvs u.1).1 * b) (b * (atP kvs u.1).2) (i+1) (fun v hv=>h v (List.mem_cons_of_mem _ hv)) ?_ ?_
  ·have e:i+(u :: r).length=i+1+r.length:=by rw [List.length_cons];omega
   rw [e]
   exact ih
  ·have m1:=B.mul ht by'
   have m2:=B.mul (B.mul bu bx) hb
   have e1:(i+1) * (T+S+2)=i * (T+S+2)+(T+S+2):=by rw [Nat.add_mul,Nat.one_mul]
   have e2:i * (T+S+2)=i * T+i * (S+2):=by rw [<- Nat.mul_add,Nat.add_assoc]
   refine B.up ?_ (B.add (m:=i * (T+S+2)+S+1+T) m1 (B.up ?_ m2))
   ·omega
   ·rw [e2];have:=Nat.zero_le (i * (S+2));omega
  ·have m1:=B.mul hb by'
   refine B.up ?_ m1
   rw [Nat.add_mul,Nat.one_mul];omega
def behindT (rows:List Row3) (ss:List Str) (k:Nat) (w:List Int):List (Str × Int):=((ss.drop (k+1)).map fun s=>(s,sumC rows w s)).filter fun t=>!decide (t.2=0)
theorem tsum_filter (x:Str->Rat):∀ ts:List (Str × Int),tsum x (ts.filter fun t=>!decide (t.2=0))=tsum x ts
 | []=>rfl
 | u :: r=>by
  have ih:=tsum_filter x r
  rw [List.filter_cons]
  by_cases z:u.2=0
  ·rw [decide_eq_true z]
   show tsum x (r.filter _)=(u.2:Rat) * x u.1+tsum x r
   rw [ih,z,show ((0:Int):Rat)=0 from rfl];grind
  ·rw [decide_eq_false z]
   show (u.2:Rat) * x u.1+tsum x (r.filter _)=(u.2:Rat) * x u.1+tsum x r
   rw [ih]
theorem tsum_map (x:Str->Rat) (c:Str->Int):∀ ss:List Str,tsum x (ss.map fun s=>(s,c s))=dot x c ss
 | []=>rfl
 | s :: ss=>by
  show (c s:Rat) * x s+tsum x (ss.map fun s=>(s,c s))=(c s:Rat) * x s+dot x c ss
  rw [tsum_map x c ss]
theorem dot_append (x:Str->Rat) (c:Str->Int):∀ a b:List Str,dot x c (a++b)=dot x c a+dot x c b
 | [],b=>by show dot x c b=0+dot x c b;grind
 | s :: a,b=>by
  show (c s:Rat) * x s+dot x c (a++b)=(c s:Rat) * x s+dot x c a+dot x c b
  rw [dot_append x c a b];grind
theorem dot_zero {x:Str->Rat} {c:Str->Int}:∀ {a:List Str},(∀ s∈a,(c s:Rat) * x s=0)->dot x c a=0
 | [],_=>rfl
 | s :: a,h=>by
  show (c s:Rat) * x s+dot x c a=0
  rw [h s (List.mem_cons_self ..),dot_zero fun t ht=>h t (List.mem_cons_of_mem _ ht)];grind
theorem rest_eq {rows:List Row3} {ss:List Str} {k:Nat} {s:Str} {x:Str->Rat} {w:List Int} (hn:ss.Nodup) (hk:ss[k]?=some s) (hw:w.length=rows.length) (h0:∀ t∈ss.take k,sumC rows w t=0) :
  sl rows ss (upX x s 0) (wv w)=tsum x (behindT rows ss k w) - (sumB rows w:Rat):=by
 obtain ⟨hi,he⟩:=List.getElem?_eq_some_iff.mp hk
 unfold sl behindT
 rw [tsum_filter,tsum_map,sumB_lin hw]
 congr 1
 have ec:dot (upX x s 0) (fun s=>lin (rows.map fun r=>cf r.ts s) (wv w)) ss=dot (upX x s 0) (sumC rows w) ss:=by
  have:(fun s=>lin (rows.map fun r=>cf r.ts s) (wv w))=sumC rows w:=funext fun t=>(sumC_lin hw).symm
  rw [this]
 rw [ec]
 have es:ss=ss.take k++(s :: ss.drop (k+1)):=by
  conv=>lhs;rw [<- List.take_append_drop k ss]
  rw [List.drop_eq_getElem_cons hi,he]
 have hn2:=hn
 rw [es] at hn2
 have hnd:=List.nodup_append.mp hn2
 have hns:s∉ss.drop (k+1):=(List.nodup_cons.mp hnd.2.1).1
 conv=>lhs;rw [es]
 rw [dot_append,dot_zero (a:=ss.take k) fun t ht=>by rw [h0 t ht,show ((0:Int):Rat)=0 from rfl];grind]
 show 0+((sumC rows w s:Rat) * upX x s 0 s+dot (upX x s 0) (sumC rows w) (ss.drop (k+1)))=_
 have e1:upX x s 0 s=0:=by unfold upX;rw [if_pos rfl]
 have e2:dot (upX x s 0) (sumC rows w) (ss.drop (k+1))=dot x (sumC rows w) (ss.drop (k+1)):=dot_congr fun t ht=>by
  have:t≠s:=fun z=>hns (by rw [<- z];exact ht)
  unfold upX;rw [if_neg this]
 rw [e1,e2];grind
def bnd (kvs:List (Str × D)) (rows:List Row3) (ss:List Str) (k:Nat) (s:Str) (w:List Int):Int × Int :=
 (sumB rows w * (addUp kvs (behindT rows ss k w) 0 1).2 - (addUp kvs (behindT rows ss k w) 0 1).1,(addUp kvs (behindT rows ss k w) 0 1).2 * ((sumC rows w s).natAbs:Int))
theorem behind_mem {rows:List Row3} {ss:List Str} {k:Nat} {w:List Int} {u:Str × Int} (h:u∈behindT rows ss k w):u.1∈ss.drop (k+1)/\u.2=sumC rows w u.1:=by
 obtain ⟨t,ht,rfl⟩:=List.mem_map.mp (List.mem_filter.mp h).1
 exact ⟨ht,rfl⟩
theorem behind_len {rows:List Row3} {ss:List Str} {k:Nat} {w:List Int}:(behindT rows ss k w).length<=ss.length - (k+1):=by
 unfold behindT
 refine Nat.le_trans (List.length_filter_le _ _) ?_
 rw [List.length_map,List.length_drop]
 exact Nat.le_refl _
theorem bnd_B {kvs:List (Str × D)} {rows:List Row3} {ss:List Str} {k T S:Nat} {s:Str} {w:List Int} (h4:ss.length<=4) (hv:∀ t∈ss.drop (k+1),HasT kvs T t) (hc:∀ s,B S (sumC rows w s)) (hb:B S (sumB rows w)) :
  B (3 * T+4 * S+9) (bnd kvs rows ss k s w).1/\B (3 * T+S+1) (bnd kvs rows ss k s w).2:=by
 have hl:=behind_len (rows:=rows) (ss:=ss) (k:=k) (w:=w)
 obtain ⟨b1,b2⟩:=addUp_B (kvs:=kvs) (T:=T) (S:=S) (behindT rows ss k w) 0 1 0 (fun u hu=>⟨hv _ (behind_mem hu).1,by rw [(behind_mem hu).2];exact hc _⟩) (by unfold B;exact Nat.pow_pos (by decide)) (by unfold B;rw [Nat.zero_mul];decide)
 have hn:0+(behindT rows ss k w).length<=3:=by omega
 have c1:B (3 * (T+S+2)+S+1) (addUp kvs (behindT rows ss k w) 0 1).1:=B.up (by have:=Nat.mul_le_mul_right (T+S+2) hn;omega) b1
 have c2:B (3 * T+1) (addUp kvs (behindT rows ss k w) 0 1).2:=B.up (by have:=Nat.mul_le_mul_right T hn;omega) b2
 constructor
 ·have m:=B.mul hb c2
  exact B.up (by omega) (B.sub (m:=3 * T+4 * S+8) (B.up (by omega) m) (B.up (by omega) c1))
 ·have a:B S ((sumC rows w s).natAbs:Int):=by unfold B;rw [Int.natAbs_natCast];exact hc s
  exact B.up (by omega) (B.mul c2 a)
theorem bnd_val {kvs:List (Str × D)} {rows:List Row3} {ss:List Str} {k T:Nat} {s:Str} {w:List Int} (hn:ss.Nodup) (hk:ss[k]?=some s) (hw:w.length=rows.length) (h0:∀ t∈ss.take k,sumC rows w t=0) (hv:∀ t∈ss.drop (k+1),HasT kvs T t) (ha:sumC rows w s≠0) :
  0 < (bnd kvs rows ss k s w).2/\((sumC rows w s).natAbs:Rat) * rq (bnd kvs rows ss k s w)=-sl rows ss (upX (valR kvs) s 0) (wv w):=by
 obtain ⟨h1,h2⟩:=addUp_val (kvs:=kvs) (T:=T) (behindT rows ss k w) 0 1 (fun u hu=>hv _ (behind_mem hu).1) (by decide)
 have hp:(0:Int) < ((sumC rows w s).natAbs:Int):=by omega
 refine ⟨Int.mul_pos h1 hp,?_⟩
 rw [rest_eq hn hk hw h0]
 have e:tsum (valR kvs) (behindT rows ss k w)=rq (addUp kvs (behindT rows ss k w) 0 1):=by
  rw [h2]
  have:rq (0,1)=0:=by unfold rq;show ((0:Int):Rat) / ((1:Int):Rat)=0;rw [show ((0:Int):Rat)=0 from rfl];grind
  rw [this];grind
 rw [e]
 unfold bnd rq
 generalize (addUp kvs (behindT rows ss k w) 0 1).1=t at *
 generalize (addUp kvs (behindT rows ss k w) 0 1).2=b at *
 have c1:=cpos h1
 have c2:=cpos hp
 have ea:(((sumC rows w s).natAbs:Nat):Rat)=(((sumC rows w s).natAbs:Int):Rat):=rfl
 rw [ea]
 generalize ((sumC rows w s).natAbs:Int)=a at *
 generalize sumB rows w=B0 at *
 show (a:Rat) * (((B0 * b - t:Int):Rat) / ((b * a:Int):Rat))=-((t:Rat) / b - B0)
 rw [Rat.intCast_sub,Rat.intCast_mul,Rat.intCast_mul]
 have n1:(b:Rat)≠0:=by grind
 have n2:(a:Rat)≠0:=by grind
 grind
end KA
namespace KA
open PySem PySem.Spec PyProof.Rows L2 D3 K01
theorem btw_of {kvs:List (Str × D)} {rows:List Row3} {ss:List Str} {k T:Nat} {s:Str} {st:List (List Int)} {v:Rat} (hn:ss.Nodup) (hk:ss[k]?=some s) (hst:∀ w∈st,w.length=rows.length/\∀ t∈ss.take k,sumC rows w t=0) (hv:∀ t∈ss.drop (k+1),HasT kvs T t)
  (h:BtwO (maxO ((st.filter fun w=>decide (0 < sumC rows w s)).map (bnd kvs rows ss k s)) none) ((maxO ((st.filter fun w=>decide (sumC rows w s < 0)).map (bnd kvs rows ss k s)) none).map negP) v):Btw rows ss (valR kvs) s st v:=by
 have bv:∀ w∈st,sumC rows w s≠0->0 < (bnd kvs rows ss k s w).2/\((sumC rows w s).natAbs:Rat) * rq (bnd kvs rows ss k s w)=-sl rows ss (upX (valR kvs) s 0) (wv w):=fun w hw ha=>bnd_val hn hk (hst w hw).1 (hst w hw).2 hv ha
 have lo:∀ w∈st,0 < sumC rows w s->(0:Rat) < sumC rows w s/\(sumC rows w s:Rat) * rq (bnd kvs rows ss k s w)=-sl rows ss (upX (valR kvs) s 0) (wv w):=fun w hw ha=>by
  have:=(bv w hw (by omega)).2
  have e:((sumC rows w s).natAbs:Rat)=(sumC rows w s:Rat):=by
   have:((sumC rows w s).natAbs:Int)=sumC rows w s:=by omega
   show (((sumC rows w s).natAbs:Int):Rat)=_
   rw [this]
  rw [e] at this
  exact ⟨cpos ha,this⟩
 have hi:∀ w∈st,sumC rows w s < 0->(0:Rat) < -(sumC rows w s:Rat)/\-(sumC rows w s:Rat) * rq (bnd kvs rows ss k s w)=-sl rows ss (upX (valR kvs) s 0) (wv w):=fun w hw ha=>by
  have:=(bv w hw (by omega)).2
  have e:((sumC rows w s).natAbs:Rat)=-(sumC rows w s:Rat):=by
   have:((sumC rows w s).natAbs:Int)=-sumC rows w s:=by omega
   show (((sumC rows w s).natAbs:Int):Rat)=_
   rw [this,Rat.intCast_neg]
  rw [e] at this
  have c:=cpos (b:=-sumC rows w s) (by omega)
  rw [Rat.intCast_neg] at c
  exact ⟨c,this⟩
 have pL:∀ b∈(st.filter fun w=>decide (0 < sumC rows w s)).map (bnd kvs rows ss k s),0 < b.2:=fun b hb=>by
  obtain ⟨w,hw,rfl⟩:=List.mem_map.mp hb
  have:=of_decide_eq_true (List.mem_filter.mp hw).2
  exact (bv w (List.mem_filter.mp hw).1 (by omega)).1
 have pU:∀ b∈(st.filter fun w=>decide (sumC rows w s < 0)).map (bnd kvs rows ss k s),0 < b.2:=fun b hb=>by
  obtain ⟨w,hw,rfl⟩:=List.mem_map.mp hb
  have:=of_decide_eq_true (List.mem_filter.mp hw).2
  exact (bv w (List.mem_filter.mp hw).1 (by omega)).1
 have mL:∀ w∈st,0 < sumC rows w s->bnd kvs rows ss k s w∈(st.filter fun w=>decide (0 < sumC rows w s)).map (bnd kvs rows ss k s):=fun w hw ha=>List.mem_map.mpr ⟨w,List.mem_filter.mpr ⟨hw,decide_eq_true ha⟩,rfl⟩
 have mU:∀ w∈st,sumC rows w s < 0->bnd kvs rows ss k s w∈(st.filter fun w=>decide (sumC rows w s < 0)).map (bnd kvs rows ss k s):=fun w hw ha=>List.mem_map.mpr ⟨w,List.mem_filter.mpr ⟨hw,decide_eq_true ha⟩,rfl⟩
 obtain ⟨nL,sL⟩:=maxO_some rfl pL (f:=none) (by simp)
 obtain ⟨nU,sU⟩:=maxO_some rfl pU (f:=none) (by simp)
 generalize maxO ((st.filter fun w=>decide (0 < sumC rows w s)).map (bnd kvs rows ss k s)) none=oL at *
 generalize maxO ((st.filter fun w=>decide (sumC rows w s < 0)).map (bnd kvs rows ss k s)) none=oU at *
 have getL:∀ w∈st,0 < sumC rows w s->∃ m,oL=some m/\rq (bnd kvs rows ss k s w)<=rq m:=fun w hw ha=>by
  cases oL with
  | none=>have:=(nL rfl).1;have m:=mL w hw ha;rw [this] at m;cases m
  | some m=>exact ⟨m,rfl,(sL m rfl).2.1 _ (mL w hw ha)⟩
 have getU:∀ w∈st,sumC rows w s < 0->∃ m,oU=some m/\rq (bnd kvs rows ss k s w)<=rq m:=fun w hw ha=>by
  cases oU with
  | none=>have:=(nU rfl).1;have m:=mU w hw ha;rw [this] at m;cases m
  | some m=>exact ⟨m,rfl,(sU m rfl).2.1 _ (mU w hw ha)⟩
 rcases h with ⟨h1,h2⟩ | ⟨l,h0,e1,e2,e3,e4⟩
 ·refine .inl ⟨fun w hw ha=>?_,fun w hw ha=>?_⟩
  ·obtain ⟨m,em,le⟩:=getL w hw ha
   obtain ⟨c,e⟩:=lo w hw ha
   have lt:=h1 m em
   have:(sumC rows w s:Rat) * rq (bnd kvs rows ss k s w) < (sumC rows w s:Rat) * v:=Rat.mul_lt_mul_of_pos_left (by grind) c
   grind
  ·obtain ⟨m,em,le⟩:=getU w hw ha
   obtain ⟨c,e⟩:=hi w hw ha
   have lt:=h2 (negP m) (by rw [em];rfl)
   rw [rq_neg] at lt
   have:-(sumC rows w s:Rat) * v < -(sumC rows w s:Rat) * (-rq (bnd kvs rows ss k s w)):=Rat.mul_lt_mul_of_pos_left (by grind) c
   grind
 ·cases oU with
  | none=>cases e2
  | some m =>
   have e2:negP m=h0:=by simpa using e2
   subst e2
   rcases (sL l e1).1 with ml | z
   ·rcases (sU m rfl).1 with mu | z
    ·obtain ⟨l0,hl0,el⟩:=List.mem_map.mp ml
     obtain ⟨u0,hu0,eu⟩:=List.mem_map.mp mu
     have al:=of_decide_eq_true (List.mem_filter.mp hl0).2
     have au:=of_decide_eq_true (List.mem_filter.mp hu0).2
     have hl1:=(List.mem_filter.mp hl0).1
     have hu1:=(List.mem_filter.mp hu0).1
     obtain ⟨c1,k1⟩:=lo l0 hl1 al
     obtain ⟨c2,k2⟩:=hi u0 hu1 au
     refine .inr ⟨l0,hl1,u0,hu1,al,au,?_,?_,fun w hw ha=>?_⟩
     ·rw [e3,<- el];grind
     ·rw [rq_neg,<- eu] at e4
      rw [<- e3] at e4
      have:-(sumC rows u0 s:Rat) * (-rq (bnd kvs rows ss k s u0))<=-(sumC rows u0 s:Rat) * v:=Rat.mul_le_mul_of_nonneg_left e4 (Rat.le_of_lt c2)
      grind
     ·obtain ⟨m',em,le⟩:=getL w hw ha
      obtain ⟨c,e⟩:=lo w hw ha
      rw [e1] at em
      cases em
      rw [<- e3] at le
      have:(sumC rows w s:Rat) * rq (bnd kvs rows ss k s w)<=(sumC rows w s:Rat) * v:=Rat.mul_le_mul_of_nonneg_left le (Rat.le_of_lt c)
      grind
    ·cases z
   ·cases z
theorem valR_put {kvs:List (Str × D)} {s:Str} {t b:Int}:valR (putD kvs s (fr t b))=upX (valR kvs) s (rq (t,b)):=funext fun u=>by
 unfold valR upX atP
 rw [lkD_put]
 by_cases z:u=s
 ·rw [if_pos z,if_pos z.symm]
 ·rw [if_neg z,if_neg fun y=>z y.symm]
theorem HasT.put {kvs:List (Str × D)} {T U:Nat} {s:Str} {t b:Int} (hb:0 < b) (hg:Int.gcd t b=1) (bt':B U t) (bb:B U b) (hu:T<=U) (u:Str) (h:u=s\/HasT kvs T u):HasT (putD kvs s (fr t b)) U u:=by
 by_cases z:u=s
 ·exact ⟨t,b,by rw [lkD_put,if_pos z.symm],hb,hg,bt',bb⟩
 ·obtain ⟨x,y,h1,h2,h3,h4,h5⟩:=h.resolve_left z
  exact ⟨x,y,by rw [lkD_put,if_neg fun y=>z y.symm];exact h1,h2,h3,h4.up hu,h5.up hu⟩
def tb:Nat->Nat
 | 0=>0
 | k+1=>15 * tb k+6000
def spMustL:SpD:=fun ds M Q=>∃ (l d:Addr) (ts:List (Str × Int)) (kvs:List (Str × D)),ds=[.ref l,.ref d]/\M l=some (.lst (ts.map tD))/\M d=some (.dic kvs)/\(∀ t∈ts,(lkD kvs t.1).isSome=true)/\Q .non M
def spAddedL:SpD:=fun ds M Q=>∃ (l d:Addr) (ts:List (Str × Int)) (kvs:List (Str × D)) (T:Nat),ds=[.ref l,.ref d]/\M l=some (.lst (ts.map tD))/\M d=some (.dic kvs)/\ts.length<=3/\T<=2000000/\(∀ t∈ts,HasT kvs T t.1/\B 710 t.2)/\Q (frP (addUp kvs ts 0 1)) M
def spLessL:SpD:=fun ds M Q=>∃ a b c d:Int,ds=[fr a b,fr c d]/\B LB a/\B LB b/\B LB c/\B LB d/\Q (.bl (decide (a * d < c * b))) M
def spBound:SpD:=fun ds M Q=>∃ (rows:List Row3) (ss:List Str) (w:List Int) (p d:Addr) (k T:Nat) (s:Str) (kvs:List (Str × D)),ds=[.tup ((sides rows w ss).map D.int),.ref p,.int k,.ref d]/\M p=some (.lst (ss.map D.str))/\M d=some (.dic kvs)/\ss[k]?=some s/\ss.length<=4/\T<=2000000/\(∀ t∈ss.drop (k+1),HasT kvs T t)/\(∀ s,B 710 (sumC rows w s))/\B 710 (sumB rows w) /\
 ∀ M',Ext M M'->Q (frP (bnd kvs rows ss k s w)) M'
def spGreatest:SpD:=fun ds M Q=>∃ (q:Addr) (bs:List (Int × Int)),ds=[.ref q]/\M q=some (.lst (bs.map frP))/\(∀ b∈bs,B LB b.1/\B LB b.2)/\Q (optD (maxO bs none)) M
def spSign:SpD:=fun ds M Q=>∃ o:Option (Int × Int),ds=[optD o]/\Q (optD (o.map negP)) M
def OkO (n m:Nat) (o:Option (Int × Int)):Prop:=∀ x,o=some x->0 < x.2/\B n x.1/\B m x.2
def shB:Nat->Int
 | 0=>1
 | i+1=>if shB i * shB i > 2 then shB i * shB i else 2
def shDone (l h:Int × Int) (i:Nat):Prop:=((l.1 * shB i).fdiv l.2+1) * h.2 < h.1 * shB i
def ShortR (l h v:Int × Int):Prop:=∃ i,shDone l h i/\(∀ j,j < i->¬ shDone l h j)/\v=(tp ((l.1 * shB i).fdiv l.2+1) (shB i),bt ((l.1 * shB i).fdiv l.2+1) (shB i))
theorem ShortR.det {l h v w:Int × Int} (a:ShortR l h v) (b:ShortR l h w):v=w:=by
 obtain ⟨i,a1,a2,a3⟩:=a
 obtain ⟨j,b1,b2,b3⟩:=b
 have:i=j:=by
  rcases Nat.lt_trichotomy i j with z | z | z
  ·exact absurd a1 (b2 i z)
  ·exact z
  ·exact absurd b1 (a2 j z)
 subst this
 rw [a3,b3]
def BtwR (lo hi:Option (Int × Int)) (v:Int × Int):Prop:=match lo,hi with
 | none,none=>v=(0,1)
 | some l,none=>v=(l.1.fdiv l.2+1,1)
 | none,some h=>v=(-((-h.1).fdiv h.2) - 1,1)
 | some l,some h=>(l.1 * h.2 < h.1 * l.2/\ShortR l h v)\/(¬ l.1 * h.2 < h.1 * l.2/\v=(tp l.1 l.2,bt l.1 l.2))
theorem BtwR.det {lo hi:Option (Int × Int)} {v w:Int × Int} (a:BtwR lo hi v) (b:BtwR lo hi w):v=w:=by
 cases lo with
 | none =>
  cases hi with
  | none=>exact a.trans b.symm
  | some h=>exact a.trans b.symm
 | some l =>
  cases hi with
  | none=>exact a.trans b.symm
  | some h =>
   rcases a with ⟨a1,a2⟩ | ⟨a1,a2⟩<;>rcases b with ⟨b1,b2⟩ | ⟨b1,b2⟩
   ·exact a2.det b2
   ·exact absurd a1 b1
   ·exact absurd b1 a1
   ·exact a2.trans b2.symm
def spShort:SpD:=fun ds M Q=>∃ (l h:Int × Int) (n m:Nat),ds=[frP l,frP h]/\OkO n m (some l)/\OkO n m (some h)/\n+4 * m+10<=LB/\l.1 * h.2 < h.1 * l.2/\∀ t b:Int,0 < b->Int.gcd t b=1->B (n+4 * m+4) t->B (n+4 * m+4) b->rq l < rq (t,b)->rq (t,b) < rq h->ShortR l h (t,b)->Q (fr t b) M
def spBetween:SpD:=fun ds M Q=>∃ (l h:Option (Int × Int)) (n m:Nat),ds=[optD l,optD h]/\OkO n m l/\OkO n m h/\n+4 * m+10<=LB/\∀ t b:Int,0 < b->Int.gcd t b=1->B (n+4 * m+4) t->B (n+4 * m+4) b->BtwO l h (rq (t,b))->BtwR l h (t,b)->Q (fr t b) M
def pairP:D->Bool
 | .tup [_,.int n]=>!decide (n=0)
 | _=>false
theorem sides_drop {rows:List Row3} {ss:List Str} {w:List Int} {k:Nat} (h:k+1<=ss.length):((sides rows w ss).map D.int).drop (k+1)=((ss.drop (k+1)).map (fun s=>D.int (sumC rows w s)))++[D.int (sumB rows w)]:=by
 unfold sides
 rw [List.map_append,List.map_map,List.drop_append_of_le_length (by simpa using h),<- List.map_drop]
 rfl
theorem behind_map {rows:List Row3} {ss:List Str} {w:List Int} {k:Nat} (h:k+1<=ss.length):((twos ((ss.map D.str).drop (k+1)) (((sides rows w ss).map D.int).drop (k+1))).filter pairP).map (fun d=>d)=(behindT rows ss k w).map tD:=by
 rw [sides_drop h,<- List.map_drop,List.map_id']
 unfold behindT
 generalize ss.drop (k+1)=l
 have e:twos (l.map D.str) (l.map (fun s=>D.int (sumC rows w s))++[D.int (sumB rows w)])=(l.map fun s=>(s,sumC rows w s)).map tD:=by
  induction l with
  | nil=>rfl
  | cons s l ih =>
   show D.tup [.str s,.int (sumC rows w s)] :: twos (l.map D.str) (l.map (fun s=>D.int (sumC rows w s))++[D.int (sumB rows w)])=_
   rw [ih];rfl
 rw [e,List.filter_map]
 rfl
theorem twos_str {l:List Str} {xs:List Int} {d:D} (h:d∈twos (l.map D.str) (xs.map D.int)):∃ s n,d=.tup [.str s,.int n]:=by
 unfold twos at h
 rw [List.zipWith_map] at h
 obtain ⟨i,hi⟩:=List.mem_iff_getElem?.mp h
 rw [List.getElem?_zipWith] at hi
 cases hx:l[i]? with
 | none=>rw [hx] at hi;simp at hi
 | some x =>
  cases hy:xs[i]? with
  | none=>rw [hx,hy] at hi;simp at hi
  | some y=>rw [hx,hy] at hi;cases hi;exact ⟨x,y,rfl⟩
theorem cutS (ds:List D) (k:Nat):D3.cutD ds (some ((k:Int)+1)) none=ds.drop (k+1):=by
 have:=cutR ds (k+1)
 rw [<- this];rfl
theorem maxO_B {bs:List (Int × Int)} {N:Nat}:∀ {f m:Option (Int × Int)},maxO bs f=m->(∀ b∈bs,B N b.1/\B N b.2)->(∀ b,f=some b->B N b.1/\B N b.2)->∀ x,m=some x->B N x.1/\B N x.2:=by
 induction bs with
 | nil=>intro f m h _ hf x e;subst h;exact hf x e
 | cons c bs ih =>
  intro f m h hb hf x e
  cases f with
  | none=>exact ih (f:=some c) h (fun b hx=>hb b (List.mem_cons_of_mem _ hx)) (fun b e=>by cases e;exact hb _ (List.mem_cons_self ..)) x e
  | some f =>
   refine ih h (fun b hx=>hb b (List.mem_cons_of_mem _ hx)) (fun b e=>?_) x e
   split at e
   ·cases e;exact hb _ (List.mem_cons_self ..)
   ·exact hf b e
end KA
namespace KA
open PySem PySem.Spec PyProof.Rows L2 D3 K01
structure PtOk (rows:List Row3) (ss:List Str) (kvs:List (Str × D)):Prop where
 nd:(kvs.map (·.1)).Nodup
 keys:∀ s,s∈kvs.map (·.1) ↔ s∈ss
 has:∀ s∈ss,HasT kvs (tb 4) s
 so:∀ w∈firstL rows.length,Sat rows ss (valR kvs) (wv w)
def PtS (rows:List Row3) (ss:List Str):Nat->List (Str × D)->Prop
 | 0,kvs=>kvs=[]
 | i+1,kvs'=>∃ (kvs:List (Str × D)) (t b:Int) (k:Nat) (s:Str),PtS rows ss i kvs/\ss.length=k+1+i/\ss[k]?=some s /\
   BtwR (maxO (((stg rows (ss.take k)).filter fun w=>decide (0 < sumC rows w s)).map (bnd kvs rows ss k s)) none) ((maxO (((stg rows (ss.take k)).filter fun w=>decide (sumC rows w s < 0)).map (bnd kvs rows ss k s)) none).map negP) (t,b)/\kvs'=putD kvs s (fr t b)
theorem PtS.det {rows:List Row3} {ss:List Str}:∀ {i:Nat} {a b:List (Str × D)},PtS rows ss i a->PtS rows ss i b->a=b
 | 0,_,_,h,k=>h.trans k.symm
 | i+1,_,_,⟨kvs,t,b,k,s,h1,h2,h3,h4,h5⟩,⟨kvs',t',b',k',s',g1,g2,g3,g4,g5⟩=>by
  obtain rfl:=PtS.det h1 g1
  have:k=k':=by omega
  subst this
  rw [h3] at g3
  cases g3
  have e:=h4.det g4
  cases e
  rw [h5,g5]
def spThrough:SpD:=fun ds M Q=>∃ (q p:Addr) (qs:List Addr) (rows:List Row3) (ss:List Str),ds=[.ref q,.ref p]/\M q=some (.lst (qs.map D.ref))/\M p=some (.lst (ss.map D.str))/\qs.length=ss.length+1/\(∀ (j:Nat) (a:Addr),qs[j]?=some a->M a=some (.lst ((stg rows (ss.take j)).map (mrD rows ss)))) /\
 ss.length<=4/\ss.Nodup/\rows.length<=8/\(∀ r∈rows,RowOk r)/\(∀ w∈stg rows ss,¬ barred rows w (sumB rows w)=true)/\∀ d kvs M',M d=none->M' d=some (.dic kvs)->PtOk rows ss kvs->PtS rows ss ss.length kvs->Ext M M'->Q (.ref d) M'
def sideOf:D->D
 | .tup [_,_,d]=>d
 | d=>d
abbrev sdD (rows:List Row3) (ss:List Str) (w:List Int):D:=.tup ((sides rows w ss).map D.int)
theorem sideOf_map {rows:List Row3} {ss:List Str} (st:List (List Int)):((st.map (mrD rows ss)).filter fun _=>true).map sideOf=st.map (sdD rows ss):=by
 rw [List.filter_eq_self.mpr (by simp),List.map_map]
 rfl
theorem tb_le:∀ {i:Nat},i<=3->tb i<=1446000
 | 0,_=>by decide
 | 1,_=>by decide
 | 2,_=>by decide
 | 3,_=>by decide
 | i+4,h=>by omega
theorem tb_mono (i:Nat):tb i<=tb (i+1):=by show tb i<=15 * tb i+6000;omega
theorem tb_up:∀ {i:Nat},i<=4->tb i<=tb 4
 | 0,_=>by decide
 | 1,_=>by decide
 | 2,_=>by decide
 | 3,_=>by decide
 | 4,_=>by decide
 | i+5,h=>by omega
theorem sB_le:∀ {i:Nat},i<=3->sB i<=710
 | 0,_=>by decide
 | 1,_=>by decide
 | 2,_=>by decide
 | 3,_=>by decide
 | i+4,h=>by omega
theorem stg_le {rows:List Row3} {ss:List Str} (h:rows.length<=8):(stg rows ss).length<=300:=by
 have:=stg_size (stg_ok rows ss)
 have h2:2 ^ rows.length<=2 ^ 8:=Nat.pow_le_pow_right (by decide) h
 have:(2:Nat) ^ 8=256:=by decide
 omega
theorem stg_zero {rows:List Row3} {ss:List Str} {w:List Int} (h:w∈stg rows ss):w.length=rows.length/\∀ t∈ss,sumC rows w t=0:=by
 have S:=stg_ok rows ss
 obtain ⟨_,_,c⟩:=S.sg.ok _ ⟨w,h,rfl⟩
 exact ⟨S.len w h,fun t ht=>by rw [sumC_lin (S.len w h)];exact c t ht⟩
theorem filt_snoc {α β:Type} (p:α->Bool) (g:α->β) {l:List α} {i:Nat} {x:α} (h:l[i]?=some x):((l.take (i+1)).filter p).map g=((l.take i).filter p).map g++(if p x=true then [g x] else []):=by
 rw [take_snoc h,List.filter_append,List.map_append]
 congr 1
 rw [List.filter_cons]
 cases p x<;>rfl
structure Srt (rows:List Row3) (ss:List Str):Prop where
 mem:∀ s,s∈ss ↔ Named rows s
 nd:ss.Nodup
 sorted:PyProof.Rows.sortedS ss=true
def spMet:SpD:=fun ds M Q=>∃ (l:Addr) (rows:List Row3) (nm:List Str),ds=[.ref l]/\M l=some (.lst (rows.map Row3.d))/\rows.length<=8/\(∀ r∈rows,RowOk r)/\nm.length<=4/\(∀ s,Named rows s->s∈nm) /\
 (∀ ss ws M',Srt rows ss->(stg rows ss).find? (fun w=>barred rows w (sumB rows w))=some ws->Good rows ws->(∀ x∈ws,B 1400 x)->Ext M M'->Q (.tup [.str "weights",.tup (ws.map D.int)]) M') /\
 ∀ d ss kvs M',¬ Never rows->M d=none->M' d=some (.dic kvs)->Srt rows ss->PtOk rows ss kvs->PtS rows ss ss.length kvs->Ext M M'->Q (.tup [.str "point",.ref d]) M'
theorem find_take {α:Type} {p:α->Bool}:∀ {l:List α} {i:Nat} {x:α},l[i]?=some x->(∀ w∈l.take i,¬ p w=true)->p x=true->l.find? p=some x
 | [],_,_,h,_,_=>by simp at h
 | y :: l,0,x,h,_,hp=>by
  have:y=x:=by simpa using h
  subst this
  rw [List.find?_cons,hp]
 | y :: l,i+1,x,h,hb,hp=>by
  have hy:p y=false:=by simpa using hb y (by simp)
  rw [List.find?_cons,hy]
  exact find_take (i:=i) (by simpa using h) (fun w hw=>hb w (by rw [List.take_succ_cons];exact List.mem_cons_of_mem _ hw)) hp
theorem wB_le:∀ {i:Nat},i<=4->wB i<=1400
 | 0,_=>by decide
 | 1,_=>by decide
 | 2,_=>by decide
 | 3,_=>by decide
 | 4,_=>by decide
 | i+5,h=>by omega
theorem stg_mr {rows:List Row3} {ss:List Str} {k:Nat} (h:∀ r∈rows,RowOk r) (hk:k<=ss.length) (h3:k<=3):∀ w∈stg rows (ss.take k),MrOk rows w:=fun w hw=>by
 have b:=stg_bd (ss:=ss) h k hk
 have S:=stg_ok rows (ss.take k)
 exact ⟨S.len w hw,wv_nn (S.sg.ok _ ⟨w,hw,rfl⟩).1.nn,fun x hx=>B.up (wB_le (by omega)) (b.w w hw x hx),fun s=>B.up (Nat.le_trans (sB_le h3) (by decide)) (b.c w hw s),B.up (Nat.le_trans (sB_le h3) (by decide)) (b.b w hw)⟩
end KA
namespace D3
open PySem PySem.Spec PyProof.Rows L2
section
variable {prog:Program} {w:World} {A:Around} {E:Value->Shared->Prop} {s:Shared}
end
section
variable {X:Cx} {G:Ga} {M:MH} {e:Expr} {pos pos2:Pos} {Q:DK}
end
end D3
namespace D3
open PySem PySem.Spec PyProof.Rows L2
section
variable {prog:Program} {w:World} {A:Around} {E:Value->Shared->Prop} {s:Shared}
end
section
variable {X:Cx} {G:Ga} {M:MH} {e:Expr} {pos:Pos} {Q:DK}
end
end D3
namespace D3
open PySem PySem.Spec PyProof.Rows L2
section
variable {X:Cx} {G:Ga} {M:MH} {pos:Pos} {Q:DK}
end
end D3
namespace D3
open PySem PySem.Spec PyProof.Rows L2
section
variable {X:Cx} {G:Ga} {M:MH} {a b c e f o i:Expr} {pos apos cpos:Pos} {Q:DK}
end
end D3
namespace D3
open PySem PySem.Spec PyProof.Rows L2
section
variable {X:Cx} {G:Ga} {M:MH} {o e:Expr} {Q:DK} {apos cpos pos:Pos}
def rClearD:V->List V->Hp->VK->Prop:=fun x vs H Q=>∃ l ys,x=.ref l/\vs=[]/\H l=some (.dK ys)/\Q .non (upd H l (.dK []))
theorem mt_clearD:MtM X "dict.clear" rClearD:=by
 intro pins s σ H x vs v us Q I rx rv h
 obtain ⟨l,ys,rfl,rfl,hH,q⟩:=h
 cases rx
 have:=rv.zero
 subst this
 exact d_clear I hH fun s' I'=>⟨.non,_,I',rfl,q⟩
theorem tyDK {K:PySem.W.Frag} {H:Hp} {p:Addr} {xs:List (Key × V)} (h:H p=some (.dK xs)):tyV K "dict" (.ref p) H:=.inr (.inr (.inl ⟨rfl,.inl ⟨xs,h⟩⟩))
theorem ev_dclear (h:EV X G M o fun d M1=>∃ p kvs,d=.ref p/\M1 p=some (.dic kvs)/\Q .non (mset M1 p (.dic [])))
  (hbase:attributeBase o "clear" X.env (eval o X.env)=eval o X.env) (hline:(apos.endLine == cpos.line)=true):EV X G M (.Call (.Attribute o "clear" apos) [] [] cpos) Q:=by
 refine EV.of (pe_bm0 PySem.F.plainAttrs_dict PySem.F.slot_dict_clear PySem.F.type_dict_clear mt_clearD (pe_D (G:=G)) hbase hline) fun σ H kf R=>?_
 refine ⟨M,_,R,h,fun v H' d M' kf' g i R' q=>?_⟩
 obtain ⟨p,ds,rfl,hp,q⟩:=q
 rw [is_ref] at i;subst i
 obtain ⟨xs,hx,hxi⟩:=R'.mem p _ hp
 have nt:∀ ys,H' p≠some (.tup ys):=fun ys z=>by rw [hx] at z;cases z
 have gu:Grow H' (upd H' p (.dK [])):=grow_upd nt
 exact ⟨tyDK hx,p,xs,rfl,rfl,hx,fun _=>⟨g.trans gu,.non,_,is_non.mpr rfl,R'.mem.put (u:=.dic []) nt ⟨[],upd_same,rfl⟩,q⟩⟩
end
end D3
namespace D3
open PySem PySem.Spec PyProof.Rows L2
section
variable {X:Cx} {G:Ga} {M:MH} {elt tg iter e:Expr} {scope:Scope} {pos:Pos} {Q:DK} {own:List Str} {js:List Nat} {N:List Str} {cl:List (Str × Addr)}
end
end D3
namespace KA
open PySem PySem.Spec PyProof.Rows L2 D3 K01
theorem DicOk.b80 {kvs:List (Str × D)} {ss:List Str} {n:Nat} (h:DicOk kvs ss n) (hn:n<=50) (s:Str):B 80 (vI kvs s):=by
 have:=(h.get s).2
 have e1:(2:Nat) ^ 72=4722366482869645213696:=by decide +kernel
 have e2:(2:Nat) ^ 80=1208925819614629174706176:=by decide +kernel
 unfold B
 rw [e1] at this;rw [e2];omega
structure R80 (sa:List Str) (r:Row3):Prop where
 ok:RowOk r
 mem:∀ t∈r.ts,t.1∈sa
 wt:∀ t∈r.ts,B 80 t.2
 bb:B 80 r.b
theorem R80.terms {sa:List Str} {r:Row3} (hn:sa.Nodup) (h4:sa.length<=4) (ho:∀ s∈sa,PyData.strOk s=true) (ht:Terms sa r.ts) (hb:B 64 r.b):R80 sa r :=
 ⟨⟨ht.sub.nodup hn,by have:=ht.len;omega,fun t hm=>B.up (by decide) (ht.wt t hm).2,B.up (by decide) hb,fun t hm=>ho _ (ht.sub.subset (List.mem_map.mpr ⟨t,hm,rfl⟩))⟩,fun t hm=>ht.mem hm,fun t hm=>B.up (by decide) (ht.wt t hm).2,B.up (by decide) hb⟩
theorem R80.named {sa:List Str} {rows:List Row3} (h:∀ r∈rows,R80 sa r):∀ s,Named rows s->s∈sa:=fun s ⟨r,hr,hs⟩=>by
 obtain ⟨t,ht,rfl⟩:=List.mem_map.mp hs
 exact (h r hr).mem t ht
theorem DicOk.r80 {kvs:List (Str × D)} {ss ss':List Str} {n:Nat} (h:DicOk kvs ss n) (hso:∀ s∈ss,PyData.strOk s=true) (hs:ss.length<=4) (hn:n<=50) (hp:ss'.Perm (kvs.map (·.1))) {b:Int} (hb:B 80 b) (k:Bool):R80 ss ⟨k,turnedT kvs ss',b⟩:=by
 refine ⟨h.row hso hs hn hp (B.up (by decide) hb) k,fun t ht=>?_,fun t ht=>?_,hb⟩
 ·obtain ⟨s,hs',rfl⟩:=List.mem_map.mp ht
  obtain ⟨kv,h1,h2⟩:=List.mem_map.mp (hp.mem_iff.mp (List.mem_filter.mp hs').1)
  have:=(h.all kv h1).1
  rw [h2] at this
  exact this
 ·obtain ⟨s,_,rfl⟩:=List.mem_map.mp ht
  exact h.b80 hn s
def spTurned3:SpD:=fun ds M Q=>∃ (l p q:Addr) (rows:List Row3) (ss:List Str) (n:Nat),ds=[.ref l,.ref p]/\M l=some (.lst (rows.map Row3.d))/\l≠p/\rows.length<=7/\ss.length<=4/\(∀ s∈ss,PyData.strOk s=true)/\(∀ r∈rows,Terms ss r.ts/\B 64 r.b)/\Pv M p q n/\n<=80000/\∀ r M',R80 ss r->Pv M' p q (n+20)->Kp [p] M M'->Q r.d M'
end KA
namespace D3
open PySem PySem.Spec PyProof.Rows L2
theorem inv_thaw {X:Cx} {pins:List (Addr × Obj)} {σ:St} {H:Hp} {s:Shared} {a:Addr} {o:Obj} {ys:List (Key × V)} (I:L2.Inv X pins σ H s) (e:H a=some (.frz o (.dK ys))) (n0:∀ o u,X.H₀ a≠some (.frz o u)):L2.Inv X pins σ (upd H a (.dK ys)) s:=by
 have old:∀ b u,b≠a->H b=some u->upd H a (.dK ys) b=some u:=fun b u n e=>by rw [upd_ne n];exact e
 have oldn:∀ b,H b=none->upd H a (.dK ys) b=none:=fun b n=>by rw [upd_ne (fun z=>by rw [z,e] at n;cases n)];exact n
 refine ⟨I.ok,I.os,I.bare,⟨I.base.keep,I.base.slot,fun b o h1 h2 h3=>oldn b (I.base.free b o h1 h2 h3),I.base.there,fun b xs h=>?_,fun b o' u h=>?_,fun b ps h=>?_⟩,I.loc,I.cell,oldn _ I.free,fun x c h=>oldn c (I.freeC x c h),fun p hp=>?_,fun b u e'=>?_,I.len⟩
 ·have:=I.base.tups b xs h
  exact old b _ (fun z=>by rw [z,e] at this;cases this) this
 ·have:=I.base.frzs b o' u h
  exact old b _ (fun z=>n0 o' u (by rw [<- z];exact h)) this
 ·obtain ⟨m,hm⟩:=I.base.tbls b ps h
  exact ⟨m,old b _ (fun z=>by rw [z,e] at hm;cases hm) hm⟩
 ·obtain ⟨h1,h2,h3⟩:=I.pin p hp
  exact ⟨h1,oldn _ h2,h3⟩
 ·by_cases hb:b=a
  ·subst hb;rw [upd_same] at e';cases e'
   exact ((show ObjOk X.prog X.w H s.heap b (.frz o (.dK ys)) from I.hok b _ e).2).stay (fun c v _ hv=>hv) (fun c hc=>old c _ (fun z=>by rw [z,e] at hc;cases hc) hc) (fun c xs hc=>old c _ (fun z=>by rw [z,e] at hc;cases hc) hc)
  ·rw [upd_ne hb] at e'
   exact (I.hok b u e').stay (fun c v _ hv=>hv) (fun c hc=>old c _ (fun z=>by rw [z,e] at hc;cases hc) hc) (fun c xs hc=>old c _ (fun z=>by rw [z,e] at hc;cases hc) hc)
section
variable {X:Cx} {tg:Expr} {G:Ga} {M:MH} {iter:Expr} {body:List Stmt} {E:EndsD} {pos:Pos} {st:Stmt}
theorem ex_thaw {p:Addr} {kvs:List (Str × D)} (hp:M p=some (.dic kvs)) (h:EX X G M st { E with nx:=fun G' M'=>∃ o kvs',M' p=some (.rod o kvs')/\E.nx G' (mset M' p (.dic kvs')) }):EX X G M st E:=by
 intro pins s σ H I R
 obtain ⟨ys,hy,_⟩:=R.mem p _ hp
 have n0:∀ o u,X.H₀ p≠some (.frz o u):=fun o u z=>by
  have:=I.base.frzs p o u z
  rw [hy] at this;cases this
 refine thn (h pins s σ H I R) fun f s' q=>?_
 cases f with
 | next =>
  obtain ⟨σ2,H2,G2,M2,I2,g2,R2,o,kvs',hm,q⟩:=q
  obtain ⟨ys2,hy2,hk2⟩:=R2.mem p _ hm
  have nt:∀ xs,H2 p≠some (.tup xs):=fun xs z=>by rw [hy2] at z;cases z
  have gu:Grow H2 (upd H2 p (.dK ys2)):=grow_upd nt
  exact ⟨σ2,upd H2 p (.dK ys2),G2,mset M2 p (.dic kvs'),inv_thaw I2 hy2 n0,g2.trans gu,R2.to gu (R2.mem.put (u:=.dic kvs') nt ⟨ys2,upd_same,hk2.grow gu⟩),q⟩
 | brk=>exact q
 | cont=>exact q
 | ret u=>exact q
theorem ex_for_dic (hp:PassesOwn (model X.prog X.w) X.A X.env X.xe) (hc:X.calm=true)
  (h:EV X G M iter fun d M1=>∃ (p:Addr) (kvs:List (Str × D)) (Iv:Obj->Nat->Ga->MH->Prop),d=.ref p/\M1 p=some (.dic kvs)/\∀ o,Iv o 0 G (mset M1 p (.rod o kvs))/\(∀ i G' M',i<=kvs.length->Iv o i G' M'->M' p=some (.rod o kvs)) /\
   (∀ i k d G' M',kvs[i]?=some (k,d)->Iv o i G' M'->GV X G' M' tg (.str k) fun G3 M3=>EXs X G3 M3 body { nx:=Iv o (i+1),ct:=Iv o (i+1),bk:=E.nx,rt:=E.rt })/\(∀ G' M',Iv o kvs.length G' M'->E.nx G' M'))
  (hs:∀ x,foldedSetIterable iter X.env x=pure x):EX X G M (.For tg iter body [] pos) E:=by
 refine ex_for hp hc (pi_dic (pe_D (G:=G))) (fun σ H kf R=>?_) hs
 refine ⟨M,_,R,h,fun v H' d M' kf' g i R' q=>?_⟩
 obtain ⟨p,kvs,Iv,e,hp',q⟩:=q
 subst e
 rw [is_ref] at i;subst i
 obtain ⟨ys,hy,hk⟩:=R'.mem p _ hp'
 have nt:∀ xs,H' p≠some (.tup xs):=fun xs z=>by rw [hy] at z;cases z
 refine ⟨p,ys,rfl,hy,fun o=>?_⟩
 obtain ⟨h0,keep,step,fin⟩:=q o
 have gu:Grow H' (upd H' p (.frz o (.dK ys))):=grow_upd nt
 have hl1:=hk.len
 refine ⟨g.trans gu,mset M' p (.rod o kvs),kvs.length,Iv o,R'.to gu (R'.mem.put (u:=.rod o kvs) nt ⟨ys,upd_same,hk.grow gu⟩),h0,fun i G2 M2 hin w2=>⟨fun e=>fin G2 M2 (by rw [<- e];exact w2),fun σ2 H2 _ R2=>?_⟩⟩
 obtain ⟨ys2,hy2,hk2⟩:=R2.mem p _ (keep i G2 M2 hin w2)
 have hl2:=hk2.len
 refine ⟨fun e=>⟨ys2,hy2,by omega,List.getElem?_eq_none_iff.mpr (by omega)⟩,fun hlt=>⟨⟨ys2,ys2[i]'(by omega),hy2,by omega,by simp⟩,fun x H3 y=>?_⟩⟩
 obtain ⟨e,y⟩:=y
 subst e
 obtain ⟨kv,e1,e2⟩:=y ys2 hy2
 obtain ⟨k,d,e3,e4⟩:=kv_ix hk2 e1
 refine ⟨Grow.refl _,.str k,M2,?_,R2.mem,step i k d G2 M2 e3 w2⟩
 rw [e2,e4];exact is_str.mpr rfl
theorem ev_isiD {p p2:Pos} {e:Expr} {Q:DK} (hm:X.mg "isinstance" = none) (hm2:X.mg "dict" = none) (h:EV X G M e fun d M1=>∃ q kvs,d=.ref q/\M1 q=some (.dic kvs)/\Q (.bl true) M1) (hg:Gl X "isinstance") (hg2:Gl X "dict") (he:starEach [e,.Name "dict" p2] X.env=(false,eval e X.env) :: starEach [.Name "dict" p2] X.env) (he2:starEach [.Name "dict" p2] X.env=(false,eval (.Name "dict" p2) X.env) :: starEach [] X.env) (hpl:(backTo pos (starEach [.Name "dict" p2] X.env)).any (·.1)=false) :
  EV X G M (.Call (.Name "isinstance" p) [e,.Name "dict" p2] [] pos) Q :=
 ev_callB call_isinst hm bootIsi (show AV X G M [e,.Name "dict" p2] _ from av_cons (h.mono fun d M1 ⟨q,kvs,e1,hq,z⟩=>av_cons (ev_gty hm2 bootDict (show AV X G M1 [] _ from av_nil fun H xs kf hx m=>by
  subst e1
  obtain ⟨v,w,rfl,hv,hw⟩:=isl2 hx
  rw [is_ty] at hw;subst hw
  rw [is_ref] at hv;subst hv
  obtain ⟨ys,hy,_⟩:=m q _ hq
  exact ⟨.ref q,.type "dict", "dict",true,rfl,.dK hy,rfl,fun _=>⟨Grow.refl _,.bl true,M1,is_bl.mpr rfl,m,z⟩⟩) hg2 (by decide) (by decide)) he2) he) hg (by decide) (by decide) he hpl
end
end D3
namespace D3
open PySem PySem.Spec PyProof.Rows L2
section
variable {X:Cx} {G:Ga} {M:MH} {c:Expr} {pos:Pos} {E:EndsD}
end
end D3
namespace D3
open PySem PySem.Spec PyProof.Rows L2
section
variable {X:Cx} {G:Ga} {M:MH} {e o:Expr} {apos cpos:Pos} {Q:DK}
end
end D3
namespace D3
open PySem PySem.Spec PyProof.Rows L2
section
variable {prog:Program} {w:World} {K:Type} [DecidableEq K] {knd:HeapKind prog w K} {A:Around} {E:Value->Shared->Prop} {s:Shared}
theorem erase_map {α β:Type} (f:α->β):∀ (l:List α) (j:Nat),(l.map f).eraseIdx j=(l.eraseIdx j).map f
 | [],_=>rfl
 | _ :: _,0=>rfl
 | _ :: l,j+1=>congrArg _ (erase_map f l j)
end
section
variable {X:Cx} {G:Ga} {M:MH} {e o i:Expr} {apos cpos pos:Pos} {Q:DK}
end
end D3
namespace D3
open PySem PySem.Spec PyProof.Rows L2
section
variable {X:Cx} {pins:List (Addr × Obj)} {σ:St} {H:Hp} {s:Shared} {M:MH} {K:PySem.W.Frag}
end
section
variable {X:Cx} {G:Ga} {M:MH} {a b e:Expr} {pos:Pos} {Q:DK}
end
end D3
namespace D3
open PySem PySem.Spec PyProof.Rows L2 PySem.SeqAt PySem.MeetsSeq PySem.MeetsSeq2 PySem.MeetsSeq3 PySem.SeqRoads2
open PySem.AutoSeq1 (wpAny_loadPart')
def EqW (p:Program) (w:World) (A:Around) (s:Shared) (y x:Value):Prop :=
 ∀ (E:Value->Shared->Prop) (Q:Bool->Shared->Prop),Q true s->wpAny (model p w) A (eqBool y x) Q E s
def RcW (p:Program) (w:World) (A:Around) (s:Shared) (y x:Value):Prop :=
 ∀ (E:Value->Shared->Prop) (Q:Value->Shared->Prop),Q (.bool true) s->wpAny (model p w) A (compareOp .Eq y x) Q E s
def Each (p:Program) (w:World) (A:Around) (s:Shared) (xs ys:Array Value):Prop:=xs.size=ys.size/\∀ j (h1:j < xs.size) (h2:j < ys.size),EqW p w A s xs[j] ys[j]
abbrev ob (T:String) (d:Option Addr) (xs:Array Value) (n:Nat) (sl:Array (Option Value)):Obj:={ cls:=.type T,dict:=d,data:=.seq xs n,slots:=sl }
theorem eqw_loop {p:Program} {w:World} (a b:Addr) (xs ys:Array Value) (n m:Nat) (d e:Option Addr) (sl tl:Array (Option Value)):∀ (k i:Nat),xs.size - i=k ->
  MeetsIn p w (Builtin.«list.__eq__.loop» ⟨[.ref a,.ref b,rawInt i,rawInt 2],[]⟩) (fun A R s=>s.heap.get? a=some (ob "list" d xs n sl)/\s.heap.get? b=some (ob "list" e ys m tl)/\Each p w A.in1 s xs ys/\R (.ok (.ret (.bool true))) s):=by
 intro k
 induction k with
 | zero =>
  intro i hk A R s h
  obtain ⟨hp,g,d0,tk,os⟩:=s
  obtain ⟨ha,hb,⟨sz,_⟩,q⟩:=h
  wp_walk using wpAny_loadPart' ha,wpAny_loadPart' hb
  rw [show xs[((i:Nat):Int).toNat]?=none by simp;omega,show ys[((i:Nat):Int).toNat]?=none by simp;omega]
  wp_walk using wpAny_loadPart' ha,wpAny_loadPart' hb
  show R (.ok (.ret (.bool (xs.size == ys.size)))) _
  rw [sz,beq_self_eq_true]
  exact q
 | succ k ih =>
  intro i hk A R s h
  obtain ⟨hp,g,d0,tk,os⟩:=s
  obtain ⟨ha,hb,⟨sz,he⟩,q⟩:=h
  wp_walk using wpAny_loadPart' ha,wpAny_loadPart' hb
  have l1:i < xs.size:=by omega
  have l2:i < ys.size:=by omega
  rw [show xs[((i:Nat):Int).toNat]?=some xs[i] by simp [l1],show ys[((i:Nat):Int).toNat]?=some ys[i] by simp [l2]]
  refine wpAny_bind (he i l1 l2 _ _ ?_)
  wp_walk
  rw [show ((i:Int)+1)=((i+1:Nat):Int) by omega]
  refine ⟨plainId_quiet plain_eq_loop _,codeAny_builtin entry_eq_loop ?_⟩
  rw [Around.under_plainId plain_eq_loop _]
  exact ih (i+1) (by omega) A R _ ⟨ha,hb,⟨sz,he⟩,q⟩
theorem eqw_list {p:Program} {w:World} (a b:Addr) (xs ys:Array Value) (n m:Nat) (d e:Option Addr) (sl tl:Array (Option Value)) :
  MeetsIn p w (Builtin.«list.__eq__» ⟨[.ref a,.ref b],[]⟩) (fun A R s=>s.heap.get? a=some (ob "list" d xs n sl)/\s.heap.get? b=some (ob "list" e ys m tl)/\Each p w A.in1 s xs ys/\R (.ok (.ret (.bool true))) s):=by
 intro A R s h
 obtain ⟨hp,g,d0,tk,os⟩:=s
 obtain ⟨ha,hb,⟨sz,he⟩,q⟩:=h
 have f3:=AutoSeq1.sub_list_list
 have hn:¬ (xs.size != ys.size)=true:=by simp [sz]
 wp_walk using wpAny_loadPart' ha,wpAny_loadPart' hb
 refine ⟨plainId_quiet plain_eq_loop _,codeAny_builtin entry_eq_loop ?_⟩
 rw [Around.under_plainId plain_eq_loop _]
 exact eqw_loop a b xs ys n m d e sl tl _ 0 rfl A R _ ⟨ha,hb,⟨sz,he⟩,q⟩
theorem eqw_tup {p:Program} {w:World} (a b:Addr) (xs ys:Array Value) (n m:Nat) (d e:Option Addr) (sl tl:Array (Option Value)) :
  MeetsIn p w (Builtin.«tuple.__eq__» ⟨[.ref a,.ref b],[]⟩) (fun A R s=>s.heap.get? a=some (ob "tuple" d xs n sl)/\s.heap.get? b=some (ob "tuple" e ys m tl)/\Each p w A.in1 s xs ys/\R (.ok (.ret (.bool true))) s) :=
 .of_wp fun A R s h=>by
  obtain ⟨hp,g,d0,tk,os⟩:=s
  obtain ⟨ha,hb,⟨sz,he⟩,q⟩:=h
  have f2:=AutoSeq1.sub_tuple_tuple
  wp_walk using wpAny_loadPart' ha,wpAny_loadPart' hb,wpAny_forIn_list _ (fun rest r s'=>r.1=none/\s'=⟨hp,g,d0,tk,os⟩/\∃ i,rest=(xs.toList.zip ys.toList).drop i) _
  case turn =>
   rintro ⟨y,x⟩ rest r s' ⟨hr,rfl,i,hz⟩
   have hlt:i < (xs.toList.zip ys.toList).length:=by
    rcases Nat.lt_or_ge i (xs.toList.zip ys.toList).length with z | z
    ·exact z
    ·rw [List.drop_of_length_le z] at hz;cases hz
   have hm:i < min xs.size ys.size:=by simpa using hlt
   have l1:i < xs.size:=by omega
   have l2:i < ys.size:=by omega
   rw [List.drop_eq_getElem_cons hlt] at hz
   injection hz with z1 z2
   have e1:y=xs[i]:=by simpa using congrArg Prod.fst z1
   have e2:x=ys[i]:=by simpa using congrArg Prod.snd z1
   subst e1 e2
   refine wpAny_bind (he i l1 l2 _ _ ?_)
   wp_walk
   exact ⟨rfl,rfl,i+1,z2⟩
  case fin =>
   rintro ⟨b1,b2⟩ s' ⟨hr,rfl,i,hz⟩
   simp only at hr
   subst hr
   wp_walk
   refine ⟨_,rfl,?_⟩
   simpa [Builtin.Tuple.tupleCompareSizes,sz] using q
  case h=>exact ⟨rfl,rfl,0,rfl⟩
theorem EqW.same {p:Program} {w:World} {A:Around} {s:Shared} (v:Value):EqW p w A s v v:=fun E Q q=>EqAt.same v p w E Q q
theorem EqW.refs {p:Program} {w:World} {A:Around} {s:Shared} {a b:Addr} (h:RcW p w A s (.ref a) (.ref b)):EqW p w A s (.ref a) (.ref b):=fun E Q q=>by
 by_cases z:a=b
 ·subst z;exact EqW.same _ E Q q
 ·unfold eqBool
  refine wpAny_holding (wpAny_ite_split (fun y=>absurd (Value.ref.inj (eq_of_beq y)) z) (fun _=>?_))
  exact wpAny_bind (h E _ (wpAny_truthy_bool q))
theorem RcW.lists {p:Program} {w:World} {A:Around} {s:Shared} {a b:Addr} {xs ys:Array Value} (ha:s.heap.IsList a xs) (hb:s.heap.IsList b ys) (hu:A.units < cLine) (he:Each p w A.in1 s xs ys):RcW p w A s (.ref a) (.ref b):=fun E Q q=>by
 obtain ⟨⟨c1,d1,x1,s1⟩,h1,hc1,n1,hd1⟩:=id ha
 obtain ⟨⟨c2,d2,x2,s2⟩,h2,hc2,n2,hd2⟩:=id hb
 simp only at hc1 hd1 hc2 hd2
 subst hc1 hd1 hc2 hd2
 exact wpAny_richCompare_same_room (op:=.Eq) ⟨_,h1,rfl⟩ ⟨_,h2,rfl⟩ F.slot_list_eq (call_meetsIn F.slot_list_eq ⟨_,h1,rfl⟩ F.entry_list_eq (F.args_list_eq_2 _ _) (eqw_list a b xs ys n1 n2 d1 d2 s1 s2) ⟨h1,h2,he,(fun z=>nomatch z),q⟩) hu
theorem RcW.tups {p:Program} {w:World} {A:Around} {s:Shared} {a b:Addr} {xs ys:Array Value} (ha:s.heap.IsTuple a xs) (hb:s.heap.IsTuple b ys) (hu:A.units < cLine) (he:Each p w A.in1 s xs ys):RcW p w A s (.ref a) (.ref b):=fun E Q q=>by
 obtain ⟨⟨c1,d1,x1,s1⟩,h1,hc1,n1,hd1⟩:=id ha
 obtain ⟨⟨c2,d2,x2,s2⟩,h2,hc2,n2,hd2⟩:=id hb
 simp only at hc1 hd1 hc2 hd2
 subst hc1 hd1 hc2 hd2
 exact wpAny_richCompare_same_room (op:=.Eq) ⟨_,h1,rfl⟩ ⟨_,h2,rfl⟩ F.slot_tuple_eq (call_meetsIn F.slot_tuple_eq ⟨_,h1,rfl⟩ F.entry_tuple_eq (F.args_tuple_eq_2 _ _) (eqw_tup a b xs ys n1 n2 d1 d2 s1 s2) ⟨h1,h2,he,(fun z=>nomatch z),q⟩) hu
end D3
namespace D3
open PySem PySem.Spec PyProof.Rows L2 PySem.SeqAt PySem.W
mutual
inductive SmD (M:MH):Nat->D->D->Prop
 | im {n:Nat} {d:D}:imm d=true->(pd d).depth<=20->SmD M n d d
 | tup {n:Nat} {ds es:List D}:SmL M n ds es->SmD M (n+1) (.tup ds) (.tup es)
 | lst {n:Nat} {a b:Addr} {ds es:List D}:M a=some (.lst ds)->M b=some (.lst es)->SmL M n ds es->SmD M (n+1) (.ref a) (.ref b)
 | dic {n:Nat} {a b:Addr} {kvs:List (Str × D)}:M a=some (.dic kvs)->M b=some (.dic kvs)->(∀ kv∈kvs,imm kv.2=true/\(pd kv.2).depth<=20)->SmD M (n+1) (.ref a) (.ref b)
inductive SmL (M:MH):Nat->List D->List D->Prop
 | nil {n:Nat}:SmL M n [] []
 | cons {n:Nat} {d e:D} {ds es:List D}:SmD M n d e->SmL M n ds es->SmL M n (d :: ds) (e :: es)
end
section
variable {X:Cx} {pins:List (Addr × Obj)} {σ:St} {H:Hp} {s:Shared} {M:MH} {K:PySem.W.Frag} {A:Around}
theorem eqAt_imm (I:L2.Inv X pins σ H s) {d:D} {x y:V} {u v:Value} (h:imm d=true) (hz:(pd d).depth<=20) (hx:Is H d x) (ru:RelV x u) (hy:Is H d y) (rv:RelV y v) (hu:A.units+20 < cLine):EqAt A s u v true:=by
 obtain ⟨as,ra⟩:=reads_of I d x u hx ru h
 obtain ⟨bs,rb⟩:=reads_of I d y v hy rv h
 have:=eqAt_reads (pd d) (pd d) A s u v as bs ra rb (canLay_imm d h) (canLay_imm d h) (by rw [Nat.min_self];omega)
 rwa [eqv_refl _ (canLay_imm d h)] at this
theorem lkD_mem {x:Str} {d:D}:∀ {kvs:List (Str × D)},(kvs.map (·.1)).Nodup->(x,d)∈kvs->lkD kvs x=some d
 | [],_,h=>by cases h
 | (y,e) :: r,hn,h=>by
  rw [lkD_cons]
  rw [List.map_cons,List.nodup_cons] at hn
  rcases List.mem_cons.mp h with z | z
  ·cases z;rw [if_pos rfl]
  ·rw [if_neg (fun q=>hn.1 (by rw [q];exact List.mem_map.mpr ⟨_,z,rfl⟩))];exact lkD_mem hn.2 z
theorem KvIs.keys {H:Hp}:∀ {kvs:List (Str × D)} {ys:List (Key × V)},KvIs H kvs ys->ys.map (·.1)=kvs.map fun kv=>(Sum.inr kv.1:Key)
 | [],ys,h=>by rw [show ys=[] from h];rfl
 | (k,d) :: r,ys,h=>by
  obtain ⟨v,t,rfl,_,h2⟩:=h
  rw [List.map_cons,List.map_cons,KvIs.keys h2]
theorem hits_of (I:L2.Inv X pins σ H s) {all:List (Str × D)} {yb:List (Key × V)} {vb:List (Key × Value)} (hn:(all.map (·.1)).Nodup) (hb:KvIs H all yb) (rb:KV yb vb) (hi:∀ kv∈all,imm kv.2=true/\(pd kv.2).depth<=20) (hu:A.units+20 < cLine) :
  ∀ {kvs:List (Str × D)} {ya:List (Key × V)} {va:List (Key × Value)},(∀ kv∈kvs,kv∈all)->KvIs H kvs ya->KV ya va->KeqHits A s vb va true
 | [],ya,va,_,h,r=>by
  rw [show ya=[] from h] at r;cases r;exact .nil
 | (k,d) :: t,ya,va,hs,h,r=>by
  obtain ⟨x,yt,rfl,h1,h2⟩:=h
  cases r with
  | cons r1 r2 =>
   rename_i q vt
   obtain ⟨q1,q2⟩:=q
   obtain ⟨e1,e2⟩:=r1
   simp only at e1 e2
   subst e1
   have hm:=hs (k,d) (.head _)
   obtain ⟨y,hy,iy⟩:=hb.get (lkD_mem hn hm)
   have hv:=rb.val (Sum.inr k)
   rw [hy] at hv
   obtain ⟨w',hw,rw'⟩:=RelO.some_of hv
   obtain ⟨i1,i2⟩:=hi _ hm
   exact .hit (e:=true) (b:=true) hw (eqAt_imm I i1 i2 h1 e2 iy rw' hu) (hits_of I hn hb rb hi hu (fun kv z=>hs kv (.tail _ z)) h2 r2)
theorem isl_each {A:Around}:∀ {us vs:List Value},us.length=vs.length->(∀ j (h1:j < us.length) (h2:j < vs.length),EqW X.prog X.w A s us[j] vs[j])->Each X.prog X.w A s us.toArray vs.toArray:=fun e h =>
 ⟨by simpa using e,fun j h1 h2=>by simpa using h j (by simpa using h1) (by simpa using h2)⟩
theorem dic_of (I:L2.Inv X pins σ H s) (m:MemOk K M H) {a b:Addr} {kvs:List (Str × D)} (ha:M a=some (.dic kvs)) (hb:M b=some (.dic kvs)) (hi:∀ kv∈kvs,imm kv.2=true/\(pd kv.2).depth<=20) (hu:A.units+25 < cLine) :
  ∃ va vb,(a == sysModules)=false/\(b == sysModules)=false/\s.heap.DictOf (mixKind X.prog X.w) a va/\s.heap.DictOf (mixKind X.prog X.w) b vb/\(va.length == vb.length)=true/\KeqHits A.in1 s vb va true:=by
 obtain ⟨ya,h1,i1⟩:=m a _ ha
 obtain ⟨yb,h2,i2⟩:=m b _ hb
 obtain ⟨_,na,va,ra,da⟩:=dk_of I.hok h1
 obtain ⟨_,nb,vb,rb,db⟩:=dk_of I.hok h2
 have hn:(kvs.map (·.1)).Nodup:=by
  obtain ⟨o1,es1,ep1,a1,a2,a3,a4,a5,hn⟩:=id db
  rw [<- KV.keys rb,KvIs.keys i2] at hn
  exact List.pairwise_map.mpr ((List.pairwise_map.mp hn).imp fun h e=>h (by rw [e]))
 refine ⟨va,vb,na,nb,da,db,?_,hits_of I hn i2 rb hi (by show A.units+1+20 < cLine;omega) (fun _ h=>h) i1 ra⟩
 rw [<- KV.length ra,<- KV.length rb,<- i1.len,<- i2.len]
 exact beq_self_eq_true _
mutual
theorem SmD.eqw (I:L2.Inv X pins σ H s) (m:MemOk K M H):∀ {n:Nat} {A:Around} {da db:D} {x y:V} {u v:Value},SmD M n da db->Is H da x->RelV x u->Is H db y->RelV y v->A.units+n+25 < cLine->EqW X.prog X.w A s u v
 | n,A,_,_,x,y,u,v,.im h z,i1,r1,i2,r2,hu=>fun E Q q=>eqAt_imm I h z i1 r1 i2 r2 (by omega) X.prog X.w E Q q
 | _,A,_,_,x,y,u,v,.tup h,i1,r1,i2,r2,hu=>by
  rw [is_tup] at i1 i2
  obtain ⟨a,xs,rfl,h1,l1⟩:=i1
  obtain ⟨b,ys,rfl,h2,l2⟩:=i2
  cases r1;cases r2
  obtain ⟨_,its,rv,o,ho,hc,k,hd⟩:=I.hok a _ h1
  obtain ⟨_,jts,sv,o',ho',hc',k',hd'⟩:=I.hok b _ h2
  obtain ⟨e,he⟩:=SmL.each I m (A:=A.in1) h l1 rv l2 sv (by show A.units+1+_+25 < cLine;omega)
  exact EqW.refs (RcW.tups ⟨o,ho,hc,k,hd⟩ ⟨o',ho',hc',k',hd'⟩ (by omega) (isl_each e he))
 | _,A,_,_,x,y,u,v,.lst (a:=a) (b:=b) ha hb h,i1,r1,i2,r2,hu=>by
  rw [is_ref] at i1 i2;subst i1;subst i2
  cases r1;cases r2
  obtain ⟨xs,h1,l1⟩:=m a _ ha
  obtain ⟨ys,h2,l2⟩:=m b _ hb
  obtain ⟨_,its,k,rv,ho⟩:=I.hok a _ h1
  obtain ⟨_,jts,k',sv,ho'⟩:=I.hok b _ h2
  obtain ⟨e,he⟩:=SmL.each I m (A:=A.in1) h l1 rv l2 sv (by show A.units+1+_+25 < cLine;omega)
  exact EqW.refs (RcW.lists ⟨_,ho,rfl,k,rfl⟩ ⟨_,ho',rfl,k',rfl⟩ (by omega) (isl_each e he))
 | _,A,_,_,x,y,u,v,.dic (a:=a) (b:=b) ha hb hi,i1,r1,i2,r2,hu=>by
  rw [is_ref] at i1 i2;subst i1;subst i2
  cases r1;cases r2
  obtain ⟨va,vb,na,nb,d1,d2,el,hh⟩:=dic_of I m ha hb hi (A:=A) (by omega)
  exact EqW.refs fun E Q q=>keq_eq na nb d1 d2 (by omega) (fun _=>hh) (by rw [el];exact q)
theorem SmL.each (I:L2.Inv X pins σ H s) (m:MemOk K M H):∀ {n:Nat} {A:Around} {ds es:List D} {xs ys:List V} {us vs:List Value},SmL M n ds es->IsL H ds xs->Vals xs us->IsL H es ys->Vals ys vs->A.units+n+25 < cLine->us.length=vs.length/\∀ j (h1:j < us.length) (h2:j < vs.length),EqW X.prog X.w A s us[j] vs[j]
 | _,A,_,_,xs,ys,us,vs,.nil,i1,r1,i2,r2,hu=>by
  rw [isl_nil] at i1 i2;subst i1;subst i2;cases r1;cases r2
  exact ⟨rfl,fun j h1=>absurd h1 (Nat.not_lt_zero _)⟩
 | _,A,_,_,xs,ys,us,vs,.cons h t,i1,r1,i2,r2,hu=>by
  rw [isl_cons] at i1 i2
  obtain ⟨x,xs',rfl,a1,a2⟩:=i1
  obtain ⟨y,ys',rfl,b1,b2⟩:=i2
  cases r1 with
  | cons p1 p2 =>
   cases r2 with
   | cons q1 q2 =>
    have e:=SmD.eqw I m h a1 p1 b1 q1 hu
    obtain ⟨e1,e2⟩:=SmL.each I m t a2 p2 b2 q2 hu
    refine ⟨by rw [List.length_cons,List.length_cons,e1],fun j h1 h2=>?_⟩
    cases j with
    | zero=>exact e
    | succ j=>exact e2 j (Nat.lt_of_succ_lt_succ h1) (Nat.lt_of_succ_lt_succ h2)
end
theorem SmD.rcw (I:L2.Inv X pins σ H s) (m:MemOk K M H) {n:Nat} {A:Around} {da db:D} {x y:V} {u v:Value} (h:SmD M n da db) (i1:Is H da x) (r1:RelV x u) (i2:Is H db y) (r2:RelV y v) (hu:A.units+n+25 < cLine):RcW X.prog X.w A s u v:=by
 cases h with
 | im h z =>
  obtain ⟨as,ra⟩:=reads_of I _ x u i1 r1 h
  obtain ⟨bs,rb⟩:=reads_of I _ y v i2 r2 h
  exact fun E Q q=>compareEq_reads ra rb (canLay_imm _ h) (canLay_imm _ h) (by rw [Nat.min_self];omega) (by rw [eqv_refl _ (canLay_imm _ h)];exact q)
 | tup h =>
  rw [is_tup] at i1 i2
  obtain ⟨a,xs,rfl,h1,l1⟩:=i1
  obtain ⟨b,ys,rfl,h2,l2⟩:=i2
  cases r1;cases r2
  obtain ⟨_,its,rv,o,ho,hc,k,hd⟩:=I.hok a _ h1
  obtain ⟨_,jts,sv,o',ho',hc',k',hd'⟩:=I.hok b _ h2
  obtain ⟨e,he⟩:=SmL.each I m (A:=A.in1) h l1 rv l2 sv (by show A.units+1+_+25 < cLine;omega)
  exact RcW.tups ⟨o,ho,hc,k,hd⟩ ⟨o',ho',hc',k',hd'⟩ (by omega) (isl_each e he)
 | lst ha hb h =>
  rename_i a b ds es
  rw [is_ref] at i1 i2;subst i1;subst i2
  cases r1;cases r2
  obtain ⟨xs,h1,l1⟩:=m a _ ha
  obtain ⟨ys,h2,l2⟩:=m b _ hb
  obtain ⟨_,its,k,rv,ho⟩:=I.hok a _ h1
  obtain ⟨_,jts,k',sv,ho'⟩:=I.hok b _ h2
  obtain ⟨e,he⟩:=SmL.each I m (A:=A.in1) h l1 rv l2 sv (by show A.units+1+_+25 < cLine;omega)
  exact RcW.lists ⟨_,ho,rfl,k,rfl⟩ ⟨_,ho',rfl,k',rfl⟩ (by omega) (isl_each e he)
 | dic ha hb hi =>
  rename_i a b kvs
  rw [is_ref] at i1 i2;subst i1;subst i2
  cases r1;cases r2
  obtain ⟨va,vb,na,nb,d1,d2,el,hh⟩:=dic_of I m ha hb hi (A:=A) (by omega)
  exact fun E Q q=>keq_eq na nb d1 d2 (by omega) (fun _=>hh) (by rw [el];exact q)
variable {G:Ga} {a b:Expr} {pos:Pos} {Q:DK}
theorem ev_eqS (hu:X.A.units+64 < cLine) (h:EV X G M a fun da Ma=>EV X G Ma b fun db Mb=>∃ n,n<=30/\SmD Mb n da db/\Q (.bl true) Mb):EV X G M (.Compare a [.Eq] [b] pos) Q:=by
 intro pins s σ H I R
 refine wpAny_Compare1 ?_ (nomark _)
 refine thn (h pins s σ H I R) fun v s1 ⟨x,H1,da,Ma,I1,r1,g1,i1,R1,q1⟩=>?_
 refine thn (q1 pins s1 σ H1 I1 R1) fun u s2 ⟨y,H2,db,Mb,I2,r2,g2,i2,R2,n,hn,hs,q⟩=>?_
 exact hs.rcw I2 R2.mem (Is.grow g2 _ _ i1) r1 i2 r2 (by omega) _ _ ⟨.bl _,H2,.bl _,Mb,I2,rfl,g1.trans g2,is_bl.mpr rfl,R2,q⟩
end
end D3
namespace D3
open PySem PySem.Spec PyProof.Rows L2
section
variable {X:Cx} {G:Ga} {M:MH} {a b c:Expr} {pos:Pos}
theorem tv_chain {op op':CmpOp} {g g':Int->Int->Bool} {Qb:Bool->MH->Prop} (ho:OpR X (compareOp op) (rI0 fun i j=>.bl (g i j))) (ho':OpR X (compareOp op') (rI0 fun i j=>.bl (g' i j)))
  (h:EV X G M a fun da Ma=>EV X G Ma b fun db Mb=>∃ i j,da=.int i/\db=.int j/\if g i j=true then EV X G Mb c fun dc Mc=>∃ k,dc=.int k/\Qb (g' j k) Mc else Qb false Mb)
  (hm:lastMarks [op,op'] [b,c]=false:=by with_unfolding_all rfl):TV X G M (.Compare a [op,op'] [b,c] pos) Qb:=by
 intro pins s σ H I R
 refine isTrue_chain (thn (h pins s σ H I R) fun v s1 ⟨x,H1,da,M1,I1,r1,g1,i1,R1,q1⟩=>test_link (thn (q1 pins s1 σ H1 I1 R1) fun u s2 ⟨y,H2,db,M2,I2,r2,g2,i2,R2,i,j,e1,e2,q2⟩=>?_)) hm
 subst e1;subst e2
 rw [is_int] at i1 i2
 subst i1;subst i2
 refine thn (ho pins s2 σ H2 _ _ v u (fun z H'=>z=.bl (g i j)/\H'=H2) I2 r1 r2 ⟨i,j,rfl,rfl,rfl,rfl⟩) fun d s3 ⟨z,H3,I3,r3,e3,e4⟩=>?_
 subst e3;subst e4
 cases r3
 refine wpAny_truthy_bool ?_
 cases hg:g i j with
 | false =>
  rw [hg,if_neg (by decide)] at q2
  exact ite_ff ⟨H3,M2,I3,g1.trans g2,R2,q2⟩
 | true =>
  rw [hg,if_pos rfl] at q2
  refine ite_tt (test_last (thn (q2 pins s3 σ H3 I3 R2) fun w' s4 ⟨z',H4,dc,M4,I4,r4,g4,i4,R4,k,e5,q4⟩=>?_))
  subst e5
  rw [is_int] at i4
  subst i4
  refine thn (ho' pins s4 σ H4 _ _ u w' (fun z H'=>z=.bl (g' j k)/\H'=H4) I4 r2 r4 ⟨j,k,rfl,rfl,rfl,rfl⟩) fun d' s5 ⟨z2,H5,I5,r5,e6,e7⟩=>?_
  subst e6;subst e7
  cases r5
  exact wpAny_truthy_bool ⟨H5,M4,I5,(g1.trans g2).trans g4,R4,q4⟩
end
end D3
namespace KA
open PySem PySem.Spec PyProof.Rows L2 D3 K01
theorem lt_anti:∀ {a b:List Nat},ltCps a b=false->ltCps b a=false->a=b
 | [],[],_,_=>rfl
 | [],_ :: _,h,_=>by cases h
 | _ :: _,[],_,h=>by cases h
 | a :: r,b :: t,h,k=>by
  simp only [ltCps,Bool.or_eq_false_iff,Bool.and_eq_false_iff,decide_eq_false_iff_not] at h k
  have e:a=b:=by omega
  subst e
  have h2:ltCps r t=false:=by simpa using h.2
  have k2:ltCps t r=false:=by simpa using k.2
  rw [lt_anti h2 k2]
theorem le_tran:∀ {a b c:List Nat},ltCps b a=false->ltCps c b=false->ltCps c a=false
 | [],_,[],_,_=>rfl
 | [],_,_ :: _,_,_=>rfl
 | _ :: _,[],_,h,_=>by cases h
 | _ :: _,_ :: _,[],_,h=>by cases h
 | a :: r,b :: t,c :: u,h,k=>by
  simp only [ltCps,Bool.or_eq_false_iff,Bool.and_eq_false_iff,decide_eq_false_iff_not] at h k ⊢
  refine ⟨by omega,?_⟩
  by_cases z:c=a
  ·right
   have e1:b=a:=by omega
   have e2:c=b:=by omega
   have h2:ltCps t r=false:=by
    rcases h.2 with y | y
    ·simp [e1] at y
    ·exact y
   have k2:ltCps u t=false:=by
    rcases k.2 with y | y
    ·simp [e2] at y
    ·exact y
   exact le_tran h2 k2
  ·left;simpa using z
def leS (a b:Str):Prop:=ltCps b.cps.toList a.cps.toList=false
theorem leS.anti {a b:Str} (h:leS a b) (k:leS b a):a=b:=by
 have e:=lt_anti k h
 cases a with
 | mk x =>
  cases b with
  | mk y =>
   have:x=y:=Array.ext' e
   rw [this]
theorem rise_leS:∀ {xs:List Str} {p:Str},risingS p xs=true->(p :: xs).Pairwise leS
 | [],p,_=>by simp
 | x :: r,p,h=>by
  unfold risingS at h
  rw [Bool.and_eq_true] at h
  have ih:=rise_leS h.2
  have h1:leS p x:=by
   unfold leS
   simpa using h.1
  rw [List.pairwise_cons]
  refine ⟨fun y hy=>?_,ih⟩
  rcases List.mem_cons.mp hy with rfl | hy
  ·exact h1
  ·exact le_tran h1 ((List.pairwise_cons.mp ih).1 y hy)
theorem sort_leS {xs:List Str} (h:sortedS xs=true):xs.Pairwise leS:=by
 cases xs with
 | nil=>simp
 | cons x r=>exact rise_leS h
theorem sort_one:∀ {xs ys:List Str},xs.Nodup->ys.Nodup->xs.Pairwise leS->ys.Pairwise leS->(∀ z,z∈ys ↔ z∈xs)->ys=xs
 | [],[],_,_,_,_,_=>rfl
 | [],y :: _,_,_,_,_,h=>by have:=(h y).mp (List.mem_cons_self ..);cases this
 | x :: _,[],_,_,_,_,h=>by have:=(h x).mpr (List.mem_cons_self ..);cases this
 | x :: xs,y :: ys,nx,ny,hx,hy,h=>by
  have hxp:=List.pairwise_cons.mp hx
  have hyp:=List.pairwise_cons.mp hy
  have hnx:=List.nodup_cons.mp nx
  have hny:=List.nodup_cons.mp ny
  have e:y=x:=by
   rcases List.mem_cons.mp ((h y).mp (List.mem_cons_self ..)) with e | z
   ·exact e
   ·rcases List.mem_cons.mp ((h x).mpr (List.mem_cons_self ..)) with e | q
    ·exact e.symm
    ·exact (hyp.1 x q).anti (hxp.1 y z)
  subst e
  rw [sort_one (xs:=xs) (ys:=ys) hnx.2 hny.2 hxp.2 hyp.2 fun z=>?_]
  constructor
  ·intro hz
   rcases List.mem_cons.mp ((h z).mp (List.mem_cons_of_mem _ hz)) with e | q
   ·rw [e] at hz;exact absurd hz hny.1
   ·exact q
  ·intro hz
   rcases List.mem_cons.mp ((h z).mpr (List.mem_cons_of_mem _ hz)) with e | q
   ·rw [e] at hz;exact absurd hz hnx.1
   ·exact q
theorem Srt.one {rows:List Row3} {a b:List Str} (h:Srt rows a) (k:Srt rows b):a=b:=sort_one k.nd h.nd (sort_leS k.sorted) (sort_leS h.sorted) fun z=>(h.mem z).trans (k.mem z).symm
def SoR (r:Row3) (x:Str->Rat):Prop:=0<=tsum x r.ts - r.b/\(r.k=false->0 < tsum x r.ts - r.b)
theorem dot_one {x:Str->Rat} {s0:Str} {n:Int}:∀ {ss:List Str},ss.Nodup->s0∈ss->dot x (fun s=>if s0=s then n else 0) ss=(n:Rat) * x s0
 | [],_,h=>by cases h
 | s :: ss,hn,h=>by
  rw [List.nodup_cons] at hn
  show (((if s0=s then n else 0:Int)):Rat) * x s+dot x (fun s=>if s0=s then n else 0) ss=_
  by_cases z:s0=s
  ·subst z
   rw [if_pos rfl,dot_zero (a:=ss) fun t ht=>by
    have:s0≠t:=fun z=>hn.1 (by rw [z];exact ht)
    rw [if_neg this,show ((0:Int):Rat)=0 from rfl];grind]
   grind
  ·rw [if_neg z,show ((0:Int):Rat)=0 from rfl,dot_one hn.2 ((List.mem_cons.mp h).resolve_left z)]
   grind
theorem dot_cf {x:Str->Rat} {ss:List Str} (hn:ss.Nodup):∀ {ts:List (Str × Int)},(∀ t∈ts,t.1∈ss)->dot x (cf ts) ss=tsum x ts
 | [],_=>dot_zero fun s _=>by show ((0:Int):Rat) * x s=0;rw [show ((0:Int):Rat)=0 from rfl];grind
 | t :: ts,h=>by
  have ih:=dot_cf (x:=x) hn (ts:=ts) fun u hu=>h u (List.mem_cons_of_mem _ hu)
  have e:=dot_lin x (fun s=>if t.1=s then t.2 else 0) (cf ts) (cf (t :: ts)) 1 1 ss (fun s=>by show (if t.1=s then t.2 else 0)+cf ts s=_;omega)
  rw [e,dot_one hn (h t (List.mem_cons_self ..)),ih,show ((1:Int):Rat)=1 from rfl]
  show 1 * ((t.2:Rat) * x t.1)+1 * tsum x ts=(t.2:Rat) * x t.1+tsum x ts
  grind
theorem PtOk.row {rows:List Row3} {ss:List Str} {kvs:List (Str × D)} (h:PtOk rows ss kvs) (hs:Srt rows ss) {r:Row3} (hr:r∈rows):SoR r (valR kvs)/\∀ t∈r.ts,HasT kvs (tb 4) t.1:=by
 have hm:∀ t∈r.ts,t.1∈ss:=fun t ht=>(hs.mem _).mpr ⟨r,hr,List.mem_map.mpr ⟨t,ht,rfl⟩⟩
 refine ⟨?_,fun t ht=>h.has _ (hm t ht)⟩
 obtain ⟨i,hi⟩:=List.mem_iff_getElem?.mp hr
 have hil:i < rows.length:=(List.getElem?_eq_some_iff.mp hi).1
 have S:=h.so (unitL rows.length i) (List.mem_map.mpr ⟨i,List.mem_range.mpr hil,rfl⟩)
 have e:sl rows ss (valR kvs) (wv (unitL rows.length i))=tsum (valR kvs) r.ts - r.b:=by
  unfold sl
  have e1:(fun s=>lin (rows.map fun r=>cf r.ts s) (wv (unitL rows.length i)))=cf r.ts:=funext fun s=>by rw [<- sumC_lin (unit_len _ _),sumC_unit hi]
  rw [e1,dot_cf hs.nd hm,<- sumB_lin (unit_len _ _),sumB_unit hi]
 have a:=S.le
 have b:=S.lt
 rw [e] at a b
 exact ⟨a,fun hk=>b ⟨i,r,hi,hk,by rw [wv_unit hil,if_pos rfl];decide⟩⟩
theorem tp_gcdL {t b:Int} (hb:0 < b):tp t b=t.fdiv (Int.gcd t b:Nat)/\bt t b=b.fdiv (Int.gcd t b:Nat):=by
 unfold tp bt dv
 rw [if_neg (by omega)]
 exact ⟨rfl,rfl⟩
theorem addUp_B4 {kvs:List (Str × D)} {T:Nat} {ts:List (Str × Int)} {wh:Int} (hT:T<=21696000) (h4:ts.length<=4) (h:∀ t∈ts,HasT kvs T t.1/\B 84 t.2) (hw:B 84 wh):B 90000000 (addUp kvs ts wh 1).1/\B 90000000 (addUp kvs ts wh 1).2:=by
 obtain ⟨b1,b2⟩:=addUp_B (kvs:=kvs) (T:=T) (S:=84) ts wh 1 0 h (B.up (by omega) hw) (by unfold B;rw [Nat.zero_mul];decide)
 have hi4:0+ts.length<=4:=by omega
 refine ⟨B.up ?_ b1,B.up ?_ b2⟩
 ·have:=Nat.mul_le_mul_right (T+84+2) hi4
  omega
 ·have:=Nat.mul_le_mul_right T hi4
  omega
theorem tb4:tb 4<=21696000:=by decide
def spMadeX:SpD:=fun ds M Q=>∃ t b:Int,ds=[.int t,.int b]/\0 < b/\Q (fr (tp t b) (bt t b)) M
def spTotalL:SpD:=fun ds M Q=>∃ (ts:List (Str × Int)) (wh:Int) (q:Addr) (kvs:List (Str × D)),ds=[trm ts,.int wh,.ref q]/\M q=some (.dic kvs)/\ts.length<=5/\(∀ t∈ts,HasT kvs (tb 4) t.1/\B 84 t.2)/\B 84 wh/\Q (frP (addUp kvs ts wh 1)) M
def spSoL:SpD:=fun ds M Q=>∃ (r:Row3) (q:Addr) (kvs:List (Str × D)),ds=[r.d,.ref q]/\M q=some (.dic kvs)/\RowOk r/\(∀ t∈r.ts,HasT kvs (tb 4) t.1)/\SoR r (valR kvs)/\Q (.bl true) M
def spAllSoL:SpD:=fun ds M Q=>∃ (l:Addr) (rows:List Row3) (q:Addr) (kvs:List (Str × D)),ds=[.ref l,.ref q]/\M l=some (.lst (rows.map Row3.d))/\M q=some (.dic kvs)/\rows.length<=8/\(∀ r∈rows,RowOk r/\SoR r (valR kvs)/\∀ t∈r.ts,HasT kvs (tb 4) t.1)/\∀ M',Ext M M'->Q (.bl true) M'
def spShowsL:SpD:=fun ds M Q=>∃ (l:Addr) (rows:List Row3) (ws:List Int),ds=[.ref l,.tup (ws.map D.int)]/\M l=some (.lst (rows.map Row3.d))/\rows.length<=10/\(∀ r∈rows,RowOk r)/\(∀ w∈ws,B 1400 w)/\ws.length<=60/\∀ M',Ext M M'->Q (.bl (showsB rows ws)) M'
def spFracL:SpD:=fun ds M Q=>∃ a b:Int,ds=[fr a b]/\0 < b/\Int.gcd a b=1/\Q (.bl true) M
def spPtGood:SpD:=fun ds M Q=>∃ (l:Addr) (rows:List Row3) (ss:List Str) (q:Addr) (kvs:List (Str × D)),ds=[.ref l,.ref q]/\M l=some (.lst (rows.map Row3.d))/\M q=some (.dic kvs)/\rows.length<=8/\(∀ r∈rows,RowOk r)/\ss.length<=4/\Srt rows ss/\PtOk rows ss kvs/\∀ M',Ext M M'->Q (.bl true) M'
def spHanded:SpD:=fun ds M Q=>∃ (l:Addr) (ns:List Int),ds=[.ref l]/\M l=some (.ro (ns.map D.int))/\ns.length<=63/\(∀ n∈ns,Cell n)/\∀ (q:Addr) (rs:List Row3) (sa:List Str) (M':MH),M' q=some (.lst (rs.map Row3.d))->rs.length<=8->(∀ r∈rs,R80 sa r)->sa.length<=4->Q (.ref q) M'
open Classical in
theorem showsT {rows:List Row3} {ws:List Int} (h:Good rows ws):showsB rows ws=true:=by unfold showsB;exact decide_eq_true h
theorem sm_i {M:MH} {n:Nat} (i:Int):SmD M n (.int i) (.int i):=.im (by unfold imm;rfl) (by simp only [pd,PyData.depth];decide)
theorem sm_s {M:MH} {n:Nat} {x:Str} (h:PyData.strOk x=true):SmD M n (.str x) (.str x):=.im (by unfold imm;exact h) (by simp only [pd,PyData.depth];decide)
theorem sml_ints {M:MH} {n:Nat}:∀ ws:List Int,SmL M n (ws.map D.int) (ws.map D.int)
 | []=>.nil
 | w :: ws=>.cons (sm_i w) (sml_ints ws)
theorem lkD_memN {k:Str} {d:D}:∀ {kvs:List (Str × D)},(kvs.map (·.1)).Nodup->(k,d)∈kvs->lkD kvs k=some d
 | [],_,h=>by cases h
 | (x,e) :: r,hn,h=>by
  rw [List.map_cons,List.nodup_cons] at hn
  rw [lkD_cons]
  rcases List.mem_cons.mp h with h | h
  ·cases h;rw [if_pos rfl]
  ·rw [if_neg (fun z=>hn.1 (by rw [z];exact List.mem_map.mpr ⟨_,h,rfl⟩)),lkD_memN hn.2 h]
theorem PtOk.imm {rows:List Row3} {ss:List Str} {kvs:List (Str × D)} (h:PtOk rows ss kvs):∀ kv∈kvs,imm kv.2=true/\(pd kv.2).depth<=20:=fun kv hkv=>by
 obtain ⟨k,d⟩:=kv
 have e:=lkD_memN h.nd hkv
 obtain ⟨a,b,h1,_⟩:=h.has k ((h.keys k).mp (List.mem_map.mpr ⟨_,hkv,rfl⟩))
 rw [h1] at e
 cases e
 exact ⟨rfl,Nat.le_of_ble_eq_true rfl⟩
end KA
namespace K51
open PySem PySem.Spec PyProof.Rows L2 D3 K01 KA
section
set_option hygiene false
def firstT (ts:List (Lean.TSyntax `tactic)):Lean.MacroM (Lean.TSyntax `tactic):=do
 let a:=ts.toArray
 `(tactic| first $[| $a:tactic]*)
def strT (s:String):Lean.TSyntax `str:=Lean.Syntax.mkStrLit s
def oneT (s:Lean.TSyntax `str):Lean.MacroM (Lean.TSyntax `tactic):=do
 let t:=s.getString
 let all (c:String):Lean.MacroM (Lean.TSyntax `tactic):=do firstT (<- (List.range 16).mapM fun i=>`(tactic| tm_at $(strT s!"{c}{i}")))
 if t == "var" then
  let f <- all "v"
  `(tactic| ((with_reducible show EV _ _ _ (Expr.Name _ _) _);$f))
 else if t == "asg" then
  let f <- all "a"
  `(tactic| ((with_reducible show EX _ _ _ (Stmt.Assign [Expr.Name _ _] _ _) _);$f))
 else if t == "gvn" then
  let f <- all "g"
  `(tactic| ((with_reducible show GV _ _ _ (Expr.Name _ _) _ _);$f))
 else match (t.drop 1).toNat? with
 | none=>Lean.Macro.throwUnsupported
 | some i =>
  let n:Lean.TSyntax `num:=Lean.Syntax.mkNumLit (toString i)
  if t.front == 'v' then `(tactic| ((with_reducible refine' ev_var $n ?_ ?n1 ?n2 ?n3 ?n4 ?n5);tm_at "tv"))
  else if t.front == 'a' then `(tactic| ((with_reducible refine' ex_set $n ?n0 ?_ ?n1 ?n2 ?n3 ?n4);tm_at "ta"))
  else if t.front == 'g' then `(tactic| ((with_reducible refine gv_name $n ?n0 ?_ ?n1 ?n2 ?n3);tm_at "tg";try (with_reducible refine let_E ?_;intro EL)))
  else Lean.Macro.throwUnsupported
def namT (xs:List String) (s:Lean.TSyntax `str):Lean.MacroM (Lean.TSyntax `tactic):=do
 let t:=s.getString
 if t == "var" then
  firstT (<- xs.zipIdx.mapM fun (x,i)=>`(tactic| ((with_reducible show EV _ _ _ (Expr.Name $(strT x) _) _);tm_at $(strT s!"v{i}"))))
 else if t == "asg" then
  firstT (<- xs.zipIdx.mapM fun (x,i)=>`(tactic| ((with_reducible show EX _ _ _ (Stmt.Assign [Expr.Name $(strT x) _] _ _) _);tm_at $(strT s!"a{i}"))))
 else if t == "gvn" then
  firstT (<- xs.zipIdx.mapM fun (x,i)=>`(tactic| ((with_reducible show GV _ _ _ (Expr.Name $(strT x) _) _ _);tm_at $(strT s!"g{i}"))))
 else Lean.Macro.throwUnsupported
def callT (xs:List String):Lean.MacroM (Lean.TSyntax `tactic):=do
 firstT (<- xs.mapM fun x=>do
  let c:=Lean.mkIdent (Lean.Name.mkSimple (if "_law_".isPrefixOf x then "C_l_" ++ x.drop 5 else "C_" ++ x))
  `(tactic| ((with_reducible show EV _ _ _ (Expr.Call (Expr.Name $(strT x) _) _ _ _) _);tm_at "tC";(case n0=>exact $c);tm_at "tc")))
end
def top (i:Nat):Stmt:=PySem.Challenge.pw_notekeep_k51_met.main.body.getD i (.Pass ⟨0,0,0,0⟩)
abbrev s_made:Stmt:=top 6
abbrev N_made:List Str:=["top", "bottom", "divisor"]
abbrev P_made:List Str:=["top", "bottom"]
theorem sc_made:FnScope N_made P_made (defScope s_made):=⟨rfl,rfl,rfl,by decide +kernel,rfl,by decide +kernel,by decide +kernel⟩
abbrev s_less:Stmt:=top 7
abbrev N_less:List Str:=["one", "other"]
abbrev P_less:List Str:=["one", "other"]
theorem sc_less:FnScope N_less P_less (defScope s_less):=⟨rfl,rfl,rfl,by decide +kernel,rfl,by decide +kernel,by decide +kernel⟩
abbrev s_added_up:Stmt:=top 8
abbrev N_added_up:List Str:=["terms", "point", "top", "bottom", "name", "weight", "value"]
abbrev P_added_up:List Str:=["terms", "point"]
theorem sc_added_up:FnScope N_added_up P_added_up (defScope s_added_up):=⟨rfl,rfl,rfl,by decide +kernel,rfl,by decide +kernel,by decide +kernel⟩
abbrev s_must_have_names:Stmt:=top 9
abbrev N_must_have_names:List Str:=["terms", "point", "term"]
abbrev P_must_have_names:List Str:=["terms", "point"]
theorem sc_must_have_names:FnScope N_must_have_names P_must_have_names (defScope s_must_have_names):=⟨rfl,rfl,rfl,by decide +kernel,rfl,by decide +kernel,by decide +kernel⟩
abbrev s_common_divisor:Stmt:=top 10
abbrev N_common_divisor:List Str:=["one", "other", "greater", "smaller", "pair", "rest"]
abbrev P_common_divisor:List Str:=["one", "other"]
theorem sc_common_divisor:FnScope N_common_divisor P_common_divisor (defScope s_common_divisor):=⟨rfl,rfl,rfl,by decide +kernel,rfl,by decide +kernel,by decide +kernel⟩
abbrev s_many_steps:Stmt:=top 11
abbrev N_many_steps:List Str:=["greater", "smaller", "behind", "shares", "upper", "lower"]
abbrev P_many_steps:List Str:=["greater", "smaller"]
theorem sc_many_steps:FnScope N_many_steps P_many_steps (defScope s_many_steps):=⟨rfl,rfl,rfl,by decide +kernel,rfl,by decide +kernel,by decide +kernel⟩
abbrev s_sure_steps:Stmt:=top 12
abbrev N_sure_steps:List Str:=["greater", "smaller", "upper", "lower", "quotient", "rest", "left"]
abbrev P_sure_steps:List Str:=["greater", "smaller"]
theorem sc_sure_steps:FnScope N_sure_steps P_sure_steps (defScope s_sure_steps):=⟨rfl,rfl,rfl,by decide +kernel,rfl,by decide +kernel,by decide +kernel⟩
abbrev s_met:Stmt:=top 14
abbrev N_met:List Str:=["rows", "names", "stages", "index", "support", "weights", "sides"]
abbrev P_met:List Str:=["rows"]
theorem sc_met:FnScope N_met P_met (defScope s_met):=⟨rfl,rfl,rfl,by decide +kernel,rfl,by decide +kernel,by decide +kernel⟩
abbrev s_names_in:Stmt:=top 15
abbrev N_names_in:List Str:=["rows", "found", "row", "term"]
abbrev P_names_in:List Str:=["rows"]
theorem sc_names_in:FnScope N_names_in P_names_in (defScope s_names_in):=⟨rfl,rfl,rfl,by decide +kernel,rfl,by decide +kernel,by decide +kernel⟩
abbrev s_sides_of:Stmt:=top 16
abbrev N_sides_of:List Str:=["row", "names", "weights"]
abbrev P_sides_of:List Str:=["row", "names"]
theorem sc_sides_of:FnScope N_sides_of P_sides_of (defScope s_sides_of):=⟨rfl,rfl,rfl,by decide +kernel,rfl,by decide +kernel,by decide +kernel⟩
abbrev s_put_together:Stmt:=top 17
abbrev N_put_together:List Str:=["often", "one", "other_often", "other"]
abbrev P_put_together:List Str:=["often", "one", "other_often", "other"]
theorem sc_put_together:FnScope N_put_together P_put_together (defScope s_put_together):=⟨rfl,rfl,rfl,by decide +kernel,rfl,by decide +kernel,by decide +kernel⟩
abbrev s_is_barred:Stmt:=top 18
abbrev N_is_barred:List Str:=["rows", "weights", "bound", "more"]
abbrev P_is_barred:List Str:=["rows", "weights", "bound"]
theorem sc_is_barred:FnScope N_is_barred P_is_barred (defScope s_is_barred):=⟨rfl,rfl,rfl,by decide +kernel,rfl,by decide +kernel,by decide +kernel⟩
abbrev s_first_made:Stmt:=top 19
abbrev N_first_made:List Str:=["rows", "names", "found", "number", "row", "weights"]
abbrev P_first_made:List Str:=["rows", "names"]
theorem sc_first_made:FnScope N_first_made P_first_made (defScope s_first_made):=⟨rfl,rfl,rfl,by decide +kernel,rfl,by decide +kernel,by decide +kernel⟩
abbrev s_without_name:Stmt:=top 20
abbrev N_without_name:List Str:=["stage", "index", "kept", "from_below", "from_above", "lower", "upper"]
abbrev P_without_name:List Str:=["stage", "index"]
theorem sc_without_name:FnScope N_without_name P_without_name (defScope s_without_name):=⟨rfl,rfl,rfl,by decide +kernel,rfl,by decide +kernel,by decide +kernel⟩
abbrev s_is_needed:Stmt:=top 21
abbrev N_is_needed:List Str:=["stage", "support", "within"]
abbrev P_is_needed:List Str:=["stage", "support"]
theorem sc_is_needed:FnScope N_is_needed P_is_needed (defScope s_is_needed):=⟨rfl,rfl,rfl,by decide +kernel,rfl,by decide +kernel,by decide +kernel⟩
abbrev s_joined:Stmt:=top 22
abbrev N_joined:List Str:=["lower", "upper", "index", "often", "other_often", "weights", "sides"]
abbrev P_joined:List Str:=["lower", "upper", "index"]
theorem sc_joined:FnScope N_joined P_joined (defScope s_joined):=⟨rfl,rfl,rfl,by decide +kernel,rfl,by decide +kernel,by decide +kernel⟩
abbrev s_point_through:Stmt:=top 23
abbrev N_point_through:List Str:=["stages", "names", "point", "index", "all_sides", "low", "high"]
abbrev P_point_through:List Str:=["stages", "names"]
theorem sc_point_through:FnScope N_point_through P_point_through (defScope s_point_through):=⟨rfl,rfl,rfl,by decide +kernel,rfl,by decide +kernel,by decide +kernel⟩
abbrev s_bound_of:Stmt:=top 24
abbrev N_bound_of:List Str:=["sides", "names", "index", "point", "behind", "added"]
abbrev P_bound_of:List Str:=["sides", "names", "index", "point"]
theorem sc_bound_of:FnScope N_bound_of P_bound_of (defScope s_bound_of):=⟨rfl,rfl,rfl,by decide +kernel,rfl,by decide +kernel,by decide +kernel⟩
abbrev s_greatest_of:Stmt:=top 25
abbrev N_greatest_of:List Str:=["bounds", "found", "bound"]
abbrev P_greatest_of:List Str:=["bounds"]
theorem sc_greatest_of:FnScope N_greatest_of P_greatest_of (defScope s_greatest_of):=⟨rfl,rfl,rfl,by decide +kernel,rfl,by decide +kernel,by decide +kernel⟩
abbrev s_changed_sign:Stmt:=top 26
abbrev N_changed_sign:List Str:=["bound"]
abbrev P_changed_sign:List Str:=["bound"]
theorem sc_changed_sign:FnScope N_changed_sign P_changed_sign (defScope s_changed_sign):=⟨rfl,rfl,rfl,by decide +kernel,rfl,by decide +kernel,by decide +kernel⟩
abbrev s_between:Stmt:=top 27
abbrev N_between:List Str:=["low", "high"]
abbrev P_between:List Str:=["low", "high"]
theorem sc_between:FnScope N_between P_between (defScope s_between):=⟨rfl,rfl,rfl,by decide +kernel,rfl,by decide +kernel,by decide +kernel⟩
abbrev s_short_between:Stmt:=top 28
abbrev N_short_between:List Str:=["low", "high", "top", "bottom"]
abbrev P_short_between:List Str:=["low", "high"]
theorem sc_short_between:FnScope N_short_between P_short_between (defScope s_short_between):=⟨rfl,rfl,rfl,by decide +kernel,rfl,by decide +kernel,by decide +kernel⟩
abbrev s_l_take:Stmt:=top 31
abbrev N_l_take:List Str:=["_law_purse", "_law_mixed"]
abbrev P_l_take:List Str:=["_law_purse"]
theorem sc_l_take:FnScope N_l_take P_l_take (defScope s_l_take):=⟨rfl,rfl,rfl,by decide +kernel,rfl,by decide +kernel,by decide +kernel⟩
abbrev s_l_number:Stmt:=top 32
abbrev N_l_number:List Str:=["_law_cell_here"]
abbrev P_l_number:List Str:=["_law_cell_here"]
theorem sc_l_number:FnScope N_l_number P_l_number (defScope s_l_number):=⟨rfl,rfl,rfl,by decide +kernel,rfl,by decide +kernel,by decide +kernel⟩
abbrev s_l_names:Stmt:=top 33
abbrev N_l_names:List Str:=["_law_cell_here", "_law_letters", "_law_found", "_law_k"]
abbrev P_l_names:List Str:=["_law_cell_here"]
theorem sc_l_names:FnScope N_l_names P_l_names (defScope s_l_names):=⟨rfl,rfl,rfl,by decide +kernel,rfl,by decide +kernel,by decide +kernel⟩
abbrev s_l_terms:Stmt:=top 34
abbrev N_l_terms:List Str:=["_law_purse", "_law_names_here", "_law_found", "_law_name", "_law_weight"]
abbrev P_l_terms:List Str:=["_law_purse", "_law_names_here"]
theorem sc_l_terms:FnScope N_l_terms P_l_terms (defScope s_l_terms):=⟨rfl,rfl,rfl,by decide +kernel,rfl,by decide +kernel,by decide +kernel⟩
abbrev s_l_row:Stmt:=top 36
abbrev N_l_row:List Str:=["_law_purse", "_law_names_here", "_law_terms_here"]
abbrev P_l_row:List Str:=["_law_purse", "_law_names_here"]
theorem sc_l_row:FnScope N_l_row P_l_row (defScope s_l_row):=⟨rfl,rfl,rfl,by decide +kernel,rfl,by decide +kernel,by decide +kernel⟩
abbrev s_l_made:Stmt:=top 38
abbrev N_l_made:List Str:=["_law_top", "_law_low", "_law_one", "_law_other"]
abbrev P_l_made:List Str:=["_law_top", "_law_low"]
theorem sc_l_made:FnScope N_l_made P_l_made (defScope s_l_made):=⟨rfl,rfl,rfl,by decide +kernel,rfl,by decide +kernel,by decide +kernel⟩
abbrev s_l_total:Stmt:=top 39
abbrev N_l_total:List Str:=["_law_terms_here", "_law_whole_here", "_law_point", "_law_top", "_law_low", "_law_name", "_law_weight", "_law_value"]
abbrev P_l_total:List Str:=["_law_terms_here", "_law_whole_here", "_law_point"]
theorem sc_l_total:FnScope N_l_total P_l_total (defScope s_l_total):=⟨rfl,rfl,rfl,by decide +kernel,rfl,by decide +kernel,by decide +kernel⟩
abbrev s_l_so:Stmt:=top 41
abbrev N_l_so:List Str:=["_law_row_here", "_law_point", "_law_top", "_law_low"]
abbrev P_l_so:List Str:=["_law_row_here", "_law_point"]
theorem sc_l_so:FnScope N_l_so P_l_so (defScope s_l_so):=⟨rfl,rfl,rfl,by decide +kernel,rfl,by decide +kernel,by decide +kernel⟩
abbrev s_l_all_so:Stmt:=top 42
abbrev N_l_all_so:List Str:=["_law_rows_here", "_law_point"]
abbrev P_l_all_so:List Str:=["_law_rows_here", "_law_point"]
theorem sc_l_all_so:FnScope N_l_all_so P_l_all_so (defScope s_l_all_so):=⟨rfl,rfl,rfl,by decide +kernel,rfl,by decide +kernel,by decide +kernel⟩
abbrev s_l_whole:Stmt:=top 43
abbrev N_l_whole:List Str:=["_law_found"]
abbrev P_l_whole:List Str:=["_law_found"]
theorem sc_l_whole:FnScope N_l_whole P_l_whole (defScope s_l_whole):=⟨rfl,rfl,rfl,by decide +kernel,rfl,by decide +kernel,by decide +kernel⟩
abbrev s_l_weights_good:Stmt:=top 44
abbrev N_l_weights_good:List Str:=["_law_rows_here", "_law_weights", "_law_sums", "_law_bound", "_law_strict", "_law_row_here", "_law_many", "_law_name", "_law_weight"]
abbrev P_l_weights_good:List Str:=["_law_rows_here", "_law_weights"]
theorem sc_l_weights_good:FnScope N_l_weights_good P_l_weights_good (defScope s_l_weights_good):=⟨rfl,rfl,rfl,by decide +kernel,rfl,by decide +kernel,by decide +kernel⟩
abbrev s_l_is_fraction:Stmt:=top 45
abbrev N_l_is_fraction:List Str:=["_law_found"]
abbrev P_l_is_fraction:List Str:=["_law_found"]
theorem sc_l_is_fraction:FnScope N_l_is_fraction P_l_is_fraction (defScope s_l_is_fraction):=⟨rfl,rfl,rfl,by decide +kernel,rfl,by decide +kernel,by decide +kernel⟩
abbrev s_l_point_good:Stmt:=top 46
abbrev N_l_point_good:List Str:=["_law_rows_here", "_law_point", "_law_names_here", "_law_row_here", "_law_name", "_law_weight"]
abbrev P_l_point_good:List Str:=["_law_rows_here", "_law_point"]
theorem sc_l_point_good:FnScope N_l_point_good P_l_point_good (defScope s_l_point_good):=⟨rfl,rfl,rfl,by decide +kernel,rfl,by decide +kernel,by decide +kernel⟩
abbrev s_l_turned:Stmt:=top 47
abbrev N_l_turned:List Str:=["_law_rows_here", "_law_purse", "_law_sums", "_law_bound", "_law_sort", "_law_row_here", "_law_many", "_law_name", "_law_weight", "_law_terms_here"]
abbrev P_l_turned:List Str:=["_law_rows_here", "_law_purse"]
theorem sc_l_turned:FnScope N_l_turned P_l_turned (defScope s_l_turned):=⟨rfl,rfl,rfl,by decide +kernel,rfl,by decide +kernel,by decide +kernel⟩
abbrev s_l_handed:Stmt:=top 48
abbrev N_l_handed:List Str:=["_law_script", "_law_first", "_law_purse", "_law_names_here", "_law_rows_here"]
abbrev P_l_handed:List Str:=["_law_script"]
theorem sc_l_handed:FnScope N_l_handed P_l_handed (defScope s_l_handed):=⟨rfl,rfl,rfl,by decide +kernel,rfl,by decide +kernel,by decide +kernel⟩
abbrev s_law:Stmt:=top 49
abbrev N_law:List Str:=["_law_script", "_law_rows_here", "_law_handed_here", "_law_found", "_law_kept"]
abbrev P_law:List Str:=["_law_script"]
theorem sc_law:FnScope N_law P_law (defScope s_law):=⟨rfl,rfl,rfl,by decide +kernel,rfl,by decide +kernel,by decide +kernel⟩
end K51
namespace K51
open PySem PySem.Spec PyProof.Rows L2 D3 K01 KA
set_option hygiene false
local macro_rules | `(tactic| tm_at $s:str)=>oneT s
local macro_rules | `(tactic| tm_at "tv")=>`(tactic| ((case n1=>rfl);(case n2=>rfl);(case n3=>first | exact Or.inl rfl | exact Or.inr (Or.inl rfl) | exact Or.inr (Or.inr rfl));(case n4=>decide);(case n5=>decide)))
local macro_rules | `(tactic| tm_at "ta")=>`(tactic| ((case n0=>exact nd);(case n1=>rfl);(case n2=>first | exact Or.inl rfl | exact Or.inr rfl);(case n3=>kernel_rfl);(case n4=>first | exact .inl rfl | exact .inr rfl)))
local macro_rules | `(tactic| tm_at "tg")=>`(tactic| ((case n0=>exact nd);(case n1=>rfl);(case n2=>first | exact Or.inl rfl | exact Or.inr rfl);(case n3=>first | exact .inl rfl | exact .inr rfl)))
local macro_rules | `(tactic| tm_at "tc")=>`(tactic| ((case n1=>exact hr);(case n2=>first | decide | omega);(case n3=>rfl);(case n4=>decide);(case n5=>rfl);(case n6=>rfl)))
local macro_rules | `(tactic| tm_at "tC")=>`(tactic| ((with_reducible refine' ev_callM ?n0 ?n1 ?n2 ?_ ?n3 ?n4 ?n5 ?n6)))
local macro_rules | `(tactic| tm_at "tb")=>`(tactic| ((case n1=>rfl);(case n2=>rfl);(case n3=>rfl)))
local macro_rules | `(tactic| tm_at "cl")=>callT ["made", "less", "added_up", "must_have_names", "common_divisor", "many_steps", "sure_steps", "met", "names_in", "sides_of", "put_together", "is_barred", "first_made", "without_name", "is_needed", "joined", "point_through", "bound_of", "greatest_of", "changed_sign", "between", "short_between", "_law_cell", "_law_take", "_law_number", "_law_names", "_law_terms", "_law_sum", "_law_row", "_law_rows", "_law_made", "_law_total", "_law_worth", "_law_so", "_law_all_so", "_law_whole", "_law_weights_good", "_law_is_fraction", "_law_point_good", "_law_turned", "_law_handed", "law"]
local macro_rules | `(tactic| tm_at "side")=>`(tactic| first | assumption | decide | omega)
local macro_rules | `(tactic| tm_at "mulside")=>`(tactic| first | assumption | exact mulOk)
local macro_rules | `(tactic| tm_at "divside")=>`(tactic| first | assumption | exact divOk (by decide) | exact divOk (by assumption) | exact divOk (by omega))
local macro_rules | `(tactic| tm_at "modside")=>`(tactic| first | assumption | decide | omega)
local macro_rules | `(tactic| tm_at "powside")=>`(tactic| first | assumption | exact ⟨by decide,by decide,by decide⟩)
local macro_rules | `(tactic| tm_at "szside")=>`(tactic| first | (exact small (Nat.le_of_ble_eq_true rfl)) | (exact small (by simp;omega)) | (exact small (by omega)))
local macro_rules | `(tactic| tm_at "eC")=>`(tactic| first | with_reducible refine ev_int ?_ | with_reducible refine ev_bl ?_ | with_reducible refine ev_non ?_ | with_reducible refine ev_str ?_)
local macro_rules | `(tactic| tm_at "eN")=>`(tactic| first | tm_at "var" | ((with_reducible show EV _ _ _ (Expr.Name "int" _) _);(with_reducible refine' ev_gty ?n0 ?n1 ?_ ?n2 ?n3 ?n4);(case n0=>exact h_int);(case n1=>exact bootInt);(case n2=>rfl);(case n3=>decide);(case n4=>decide)) | ((with_reducible show EV _ _ _ (Expr.Name "bool" _) _);(with_reducible refine' ev_gty ?n0 ?n1 ?_ ?n2 ?n3 ?n4);(case n0=>exact h_bool);(case n1=>exact bootBool);(case n2=>rfl);(case n3=>decide);(case n4=>decide)) | ((with_reducible show EV _ _ _ (Expr.Name "tuple" _) _);(with_reducible refine' ev_gty ?n0 ?n1 ?_ ?n2 ?n3 ?n4);(case n0=>exact h_tuple);(case n1=>exact bootTuple);(case n2=>rfl);(case n3=>decide);(case n4=>decide)))
local macro_rules | `(tactic| tm_at "eK")=>`(tactic| first | ((with_reducible show EV _ _ _ (Expr.Call (Expr.Name "tuple" _) [_] _ _) _);(with_reducible refine ev_tupleC ?n0 ?_ ?n1 ?n2 ?n3);(case n0=>exact h_tuple);tm_at "tb") | ((with_reducible show EV _ _ _ (Expr.Call (Expr.Name "dict" _) [_] _ _) _);(with_reducible refine ev_dictC ?n0 ?_ ?n1 ?n2 ?n3);(case n0=>exact h_dict);tm_at "tb") | ((with_reducible show EV _ _ _ (Expr.Call (Expr.Name "sorted" _) [_] _ _) _);(with_reducible refine ev_sortedS ?n0 ?_ ?n1 ?n2 ?n3);(case n0=>exact h_sorted);tm_at "tb") | ((with_reducible show EV _ _ _ (Expr.Call (Expr.Name "list" _) [_] _ _) _);(with_reducible refine ev_listC ?n0 ?_ ?n1 ?n2 ?n3);(case n0=>exact h_list);tm_at "tb") | ((with_reducible show EV _ _ _ (Expr.Call (Expr.Name "abs" _) _ _ _) _);(with_reducible refine ev_abs ?n0 ?_ ?n1 ?n2 ?n3);(case n0=>exact h_abs);tm_at "tb") | ((with_reducible show EV _ _ _ (Expr.Call (Expr.Name "len" _) _ _ _) _);(with_reducible refine ev_len ?n0 ?_ ?n1 ?n2 ?n3);(case n0=>exact h_len);tm_at "tb") | ((with_reducible show EV _ _ _ (Expr.Call (Expr.Name "max" _) [_,_] _ _) _);(with_reducible refine ev_max2 ?n0 ?n9 ?_ ?n1 ?n2 ?n3);(case n0=>exact h_max);(case n9=>rfl);tm_at "tb") | ((with_reducible show EV _ _ _ (Expr.Call (Expr.Name "min" _) [_,_] _ _) _);(with_reducible refine ev_min2 ?n0 ?n9 ?_ ?n1 ?n2 ?n3);(case n0=>exact h_min);(case n9=>rfl);tm_at "tb") | ((with_reducible show EV _ _ _ (Expr.Call (Expr.Name "isinstance" _) [_,_] _ _) _);(with_reducible refine ev_isi ?n0 ?_ ?n1 ?n2 ?n3);(case n0=>exact h_isinstance);tm_at "tb"))
local macro_rules | `(tactic| tm_at "eA")=>`(tactic| first | ((with_reducible show EV _ _ _ (Expr.Call (Expr.Attribute _ "append" _) [_] [] _) _);(with_reducible refine ev_append ?_ ?n1 ?n2 ?n3 ?n4 ?n5);tm_at "tb";(case n4=>rfl);(case n5=>rfl)))
local macro_rules | `(tactic| tm_at "eB")=>`(tactic| first | with_reducible refine ev_add ?_ | with_reducible refine l_sub ?_ | with_reducible refine l_mul ?_ | with_reducible refine l_fdiv ?_ | with_reducible refine l_mod ?_ | with_reducible refine l_pow ?_)
local macro_rules | `(tactic| tm_at "eM")=>`(tactic| first | with_reducible refine l_lt ?_ | with_reducible refine l_gt ?_ | ((with_reducible show EV _ _ _ (Expr.Compare _ [CmpOp.Eq] _ _) _);(with_reducible refine l_eq ?n0 ?_);(case n0=>exact hr.units)))
local macro_rules | `(tactic| tm_at "eS")=>`(tactic| first | ((with_reducible show EV _ _ _ (Expr.Subscript _ (Expr.Constant _ _ _) _) _);(with_reducible refine l_item ?n1 ?_ ?n0);(case n1=>exact hr.units);(case n0=>(intro _ _;rfl))) | ((with_reducible show EV _ _ _ (Expr.Subscript _ (Expr.UnaryOp _ _ _) _) _);(with_reducible refine l_item ?n1 ?_ ?n0);(case n1=>exact hr.units);(case n0=>(intro _ _;rfl))) | ((with_reducible show EV _ _ _ (Expr.Subscript _ (Expr.Name _ _) _) _);(with_reducible refine l_item ?n1 ?_ ?n0);(case n1=>exact hr.units);(case n0=>(intro _ _;rfl))) | ((with_reducible show EV _ _ _ (Expr.Subscript _ (Expr.BinOp _ _ _ _) _) _);(with_reducible refine l_item ?n1 ?_ ?n0);(case n1=>exact hr.units);(case n0=>(intro _ _;rfl))) | ((with_reducible show EV _ _ _ (Expr.Subscript _ (Expr.Call _ _ _ _) _) _);(with_reducible refine l_item ?n1 ?_ ?n0);(case n1=>exact hr.units);(case n0=>(intro _ _;rfl))) | ((with_reducible show EV _ _ _ (Expr.Subscript _ (Expr.Subscript _ _ _) _) _);(with_reducible refine l_item ?n1 ?_ ?n0);(case n1=>exact hr.units);(case n0=>(intro _ _;rfl))))
local macro_rules | `(tactic| tm_at "eU")=>`(tactic| first | with_reducible refine l_neg ?_ | with_reducible refine ev_not ?_)
local macro_rules | `(tactic| tm_at "eL")=>`(tactic| first | with_reducible refine ev_one ?_ | with_reducible refine ev_and ?_ | with_reducible refine ev_or ?_)
local macro_rules | `(tactic| tm_at "eO")=>`(tactic| first | with_reducible refine ev_dnew ?_ | with_reducible refine ev_ifExp ?_ | with_reducible refine ev_tup ?_ | with_reducible refine ev_lst ?_)
local macro_rules | `(tactic| tm_at "tv")=>`(tactic| first | with_reducible refine lt_lt ?_ | with_reducible refine lt_le ?_ | with_reducible refine lt_gt ?_ | with_reducible refine tv_not ?_ | ((with_reducible show TV _ _ _ (Expr.Compare _ [CmpOp.Eq] _ _) _);(with_reducible refine lt_eq ?n0 ?_);(case n0=>exact hr.units)) | ((with_reducible show TV _ _ _ (Expr.Compare _ [CmpOp.NotEq] _ _) _);(with_reducible refine lt_ne ?n0 ?_);(case n0=>exact hr.units)) | ((with_reducible show TV _ _ _ (Expr.Compare _ [CmpOp.NotIn] _ _) _);(with_reducible refine lt_notin ?n1 ?_ ?n0);(case n1=>exact hr.units);(case n0=>rfl)) | with_reducible refine tv_is ?_ | ((with_reducible show TV _ _ _ (Expr.Call _ _ _ _) _);(with_reducible refine tv_call ?_ ?n0);(case n0=>(intro _;rfl))) | with_reducible refine TW.tv (tw_and ?_) | with_reducible refine TW.tv (tw_or ?_))
local macro_rules | `(tactic| tm_at "tw")=>`(tactic| first | with_reducible refine tw_and1 ?_ | with_reducible refine tw_or1 ?_ | with_reducible refine tw_and ?_ | with_reducible refine tw_or ?_)
local macro_rules | `(tactic| tm_at "av")=>`(tactic| first | with_reducible refine av_nil ?_ | ((with_reducible show AV _ _ _ (_ :: _) _);(with_reducible refine av_cons ?_ ?n0);(case n0=>rfl)))
local macro_rules | `(tactic| tm_at "xs")=>`(tactic| first | with_reducible refine exs_nil ?_ | with_reducible refine exs_one ?_ | ((with_reducible show EXs _ _ _ (Stmt.Assign _ _ _ :: _) _);with_reducible refine exs_cons ?_) | ((with_reducible show EXs _ _ _ (Stmt.Expr _ _ :: _) _);with_reducible refine exs_cons ?_))
local macro_rules | `(tactic| tm_at "ex")=>`(tactic| first | with_reducible refine ex_if ?_ | with_reducible refine ex_ret ?_ | ((with_reducible show EX _ _ _ (Stmt.Expr _ _) _);(with_reducible refine ex_expr ?_ ?n0);(case n0=>kernel_rfl)) | ((fail_if_success (with_reducible show EX _ _ _ (Stmt.Assign _ (Expr.ListComp _ _ _ _) _) _));tm_at "asg") | ((with_reducible show EX _ _ _ (Stmt.Assign [Expr.Subscript _ _ _] _ _) _);(with_reducible refine ex_asg ?_ ?n1 ?n2 ?n3);(case n1=>kernel_rfl);(case n2=>kernel_rfl);(case n3=>rfl)) | ((with_reducible show EX _ _ _ (Stmt.Assign [Expr.Tuple _ _ _] _ _) _);(with_reducible refine ex_asg ?_ ?n1 ?n2 ?n3);(case n1=>kernel_rfl);(case n2=>kernel_rfl);(case n3=>rfl)))
local macro_rules | `(tactic| tm_at "gv")=>`(tactic| first | tm_at "gvn" | ((with_reducible show GV _ _ _ (Expr.Subscript _ _ _) _ _);(with_reducible refine gv_set ?n1 ?_ ?n2);(case n1=>exact hr.units);(case n2=>(intro _;rfl))) | ((with_reducible show GV _ _ _ (Expr.Tuple _ _ _) (D.tup _) _);(with_reducible refine gv_tup ?n1 ?_ ?n2 ?n3);tm_at "tb"))
local macro_rules | `(tactic| tm_at "gs")=>`(tactic| first | ((with_reducible show GVs _ _ _ (_ :: _) (_ :: _) _);(with_reducible refine gvs_cons ?_ ?n1);(case n1=>rfl)) | with_reducible refine gvs_nil ?_)
local macro_rules | `(tactic| tm_at "ts")=>`(tactic| first | with_reducible refine tvs_one ?_ | with_reducible refine tvs_nil ?_)
local macro_rules | `(tactic| tm_at "lI")=>`(tactic| first | ((with_reducible show ite (true=true) _ _);refine ifT ?_) | ((with_reducible show ite (false=true) _ _);refine ifF ?_) | ((with_reducible show ite ((!true)=true) _ _);refine ifNT ?_) | ((with_reducible show ite ((!false)=true) _ _);refine ifNF ?_))
local macro_rules | `(tactic| tm_at "lE")=>`(tactic| first | ((with_reducible show ∃ k,D.bl _=D.bl k/\_);refine ⟨_,rfl,?_⟩) | ((with_reducible show ∃ k,D.int _=D.int k/\_);refine ⟨_,rfl,?_⟩) | ((with_reducible show ∃ k,TruD _ (D.bl _) _ k/\_);refine ⟨_,rfl,?_⟩) | ((with_reducible show ∃ k,TruD _ (D.tup _) _ k/\_);refine ⟨_,rfl,?_⟩) | ((with_reducible show ∃ k,TruD _ (D.int _) _ k/\_);refine ⟨_,rfl,?_⟩) | ((with_reducible show ∃ k,IsDv _ _ k/\_);refine ⟨_,rfl,?_⟩) | ((with_reducible show ∃ k,[D.int _]=[D.int k]/\_);refine ⟨_,rfl,?_⟩) | ((with_reducible show ∃ i j,[D.int _,D.int _]=[D.int i,D.int j]/\_);refine ⟨_,_,rfl,?_⟩))
local macro_rules | `(tactic| tm_at "lA")=>`(tactic| first | ((with_reducible show _<=sizeLine/\_);refine ⟨by tm_at "szside",?_⟩) | ((with_reducible show D.non=D.non/\_);refine ⟨rfl,?_⟩))
local macro_rules | `(tactic| tm_at "lP")=>`(tactic| first | ((with_reducible show PowL (D.int 10) (D.int 12) _ _);refine pow_n (k:=1000000000000) (by decide +kernel) ⟨by decide,by decide,by decide⟩ ?_) | ((with_reducible show PowL (D.int 10) (D.int 18) _ _);refine pow_n (k:=1000000000000000000) (by decide +kernel) ⟨by decide,by decide,by decide⟩ ?_) | ((with_reducible show PowL (D.int 10) (D.int 19) _ _);refine pow_n (k:=10000000000000000000) (by decide +kernel) ⟨by decide,by decide,by decide⟩ ?_) | ((with_reducible show PowL (D.int 10) (D.int 40) _ _);refine pow_n (k:=10000000000000000000000000000000000000000) (by decide +kernel) ⟨by decide,by decide,by decide⟩ ?_) | ((with_reducible show PowL (D.int 10) (D.int 50) _ _);refine pow_n (k:=100000000000000000000000000000000000000000000000000) (by decide +kernel) ⟨by decide,by decide,by decide⟩ ?_) | ((with_reducible show PowL (D.int 10) (D.int 59) _ _);refine pow_n (k:=100000000000000000000000000000000000000000000000000000000000) (by decide +kernel) ⟨by decide,by decide,by decide⟩ ?_))
local macro_rules | `(tactic| tm_at "lf")=>`(tactic| first | with_reducible refine add_ii ?_ | with_reducible refine sub_l ?_ | with_reducible refine neg_l ?_ | with_reducible refine cmp_l ?_ | with_reducible refine eq_ii ?_ | with_reducible refine eq_ss ?_ | ((with_reducible show MulL (D.int _) (D.int _) _ _);refine mul_l (by tm_at "mulside") ?_) | ((with_reducible show DivL (D.int _) (D.int _) _ _);refine div_l (by tm_at "divside") ?_) | ((with_reducible show ModL (D.int _) (D.int _) _ _);refine mod_l (by tm_at "modside") ?_) | ((with_reducible show IxA (D.tup _) (D.int _) _ _);refine ix_at rfl ?_) | ((with_reducible show PowL _ _ _ _);tm_at "lP"))
local macro_rules | `(tactic| tm_at "eV")=>`(tactic| first | ((with_reducible show EV _ _ _ (Expr.Name _ _) _);tm_at "eN") | ((with_reducible show EV _ _ _ (Expr.Constant _ _ _) _);tm_at "eC") | ((with_reducible show EV _ _ _ (Expr.Call (Expr.Attribute _ _ _) _ _ _) _);tm_at "eA") | ((with_reducible show EV _ _ _ (Expr.Call (Expr.Name _ _) _ _ _) _);first | tm_at "eK" | tm_at "cl") | ((with_reducible show EV _ _ _ (Expr.Subscript _ _ _) _);tm_at "eS") | ((with_reducible show EV _ _ _ (Expr.BinOp _ _ _ _) _);tm_at "eB") | ((with_reducible show EV _ _ _ (Expr.Compare _ _ _ _) _);tm_at "eM") | ((with_reducible show EV _ _ _ (Expr.UnaryOp _ _ _) _);tm_at "eU") | ((with_reducible show EV _ _ _ (Expr.BoolOp _ _ _) _);tm_at "eL") | tm_at "eO")
local macro_rules | `(tactic| tm_at "d")=>`(tactic| first
 | ((with_reducible show EV _ _ _ _ _);tm_at "eV")
 | ((with_reducible show Exists _);tm_at "lE")
 | ((with_reducible show ite _ _ _);tm_at "lI")
 | ((with_reducible show TV _ _ _ _ _);tm_at "tv")
 | ((with_reducible show And _ _);tm_at "lA")
 | ((with_reducible show AV _ _ _ _ _);tm_at "av")
 | ((with_reducible show EXs _ _ _ _ _);tm_at "xs")
 | ((with_reducible show EX _ _ _ _ _);tm_at "ex")
 | tm_at "lf"
 | ((with_reducible show GV _ _ _ _ _ _);tm_at "gv")
 | ((with_reducible show GVs _ _ _ _ _ _);tm_at "gs")
 | ((with_reducible show TW _ _ _ _ _);tm_at "tw")
 | ((with_reducible show TVs _ _ _ _ _);tm_at "ts"))
section
variable {P:Program} {w:World} {K:PySem.W.Frag} {mg:Str->Option Value} {base:Heap} {f:Addr} {fd:FuncData}
local macro_rules | `(tactic| tm_at $s:str)=>namT ["_law_purse", "_law_mixed"] s
theorem ok_l_take (F:Fun K "_law_take" "_law_take" s_l_take f fd) (h_len:mg "len" = none):FnOk P w K mg base CX0 1 f fd P_l_take (liftSp K spTake2):=by
 refine fn_D F sc_l_take (fun ds M Q ⟨a,b,c,e,_⟩=>by subst e;rfl) fun cdv A outer s H EE ds M Q hr h=>?_
 have nd:=sc_l_take.nd
 try (refine let_X ?_;intro X)
 obtain ⟨p,q0,n,rfl,⟨cs,k,c,h1,h2,h3,h4,h5,h6,h7,h8⟩,hn,q⟩:=h
 refine exs_cons ?_
 repeat tm_at "d"
 refine ix_al (d:=.int k) h1 rfl ?_
 repeat tm_at "d"
 refine set_ll h1 (j:=1) rfl ?_
 have m1:mset M p (.lst ([D.ref q0,.int k,.int c].set 1 (.int (k+1)))) p=some (.lst [.ref q0,.int (k+1),.int c]):=mset_same
 have m2:mset M p (.lst ([D.ref q0,.int k,.int c].set 1 (.int (k+1)))) q0=some (.lst (cs.map D.int)):=by rw [mset_ne h3];exact h2
 have k1:Kp [p] M (mset M p (.lst ([D.ref q0,.int k,.int c].set 1 (.int (k+1))))):=Kp.put (by simp)
 generalize mset M p (.lst ([D.ref q0,.int k,.int c].set 1 (.int (k+1))))=M1 at m1 m2 k1 ⊢
 have pv:Pv M1 p q0 (n+1):=⟨cs,k+1,c,m1,m2,h3,h4,h5,h6,by omega,by omega⟩
 repeat first | tm_at "d" | refine exs_cons ?_
 refine ix_al (d:=.int (k+1)) m1 rfl ?_
 repeat tm_at "d"
 refine ix_al (d:=.ref q0) m1 rfl ?_
 repeat tm_at "d"
 refine ⟨_,_,rfl,Or.inl ⟨_,m2,rfl⟩,?_⟩
 rw [List.length_map]
 repeat tm_at "d"
 refine ifD ?_ ?_
 ·intro hle
  repeat tm_at "d"
  refine ix_al (d:=.ref q0) m1 rfl ?_
  repeat tm_at "d"
  refine ix_al (d:=.int (k+1)) m1 rfl ?_
  repeat tm_at "d"
  obtain ⟨j,rfl⟩:=Int.eq_ofNat_of_zero_le h7
  have hj:j < cs.length:=by omega
  have ej:(j:Int)+1 - 1=(j:Int):=by omega
  rw [ej]
  refine ix_al (d:=.int cs[j]) m2 (atI_nat (by rw [List.getElem?_map,List.getElem?_eq_getElem hj]<;>rfl)) ?_
  exact q _ M1 (h5 _ (List.getElem_mem hj)) pv k1
 ·intro _
  have bk:Bd (k+1) 40:=.rng (by omega) (by omega)
  have bc:=h6.bd
  repeat tm_at "d"
  refine ix_al (d:=.int c) m1 rfl ?_
  repeat tm_at "d"
  refine ix_al (d:=.int (k+1)) m1 rfl ?_
  repeat tm_at "d"
  obtain ⟨z1,z2⟩:=fmod_lt (a:=c+31 * (k+1)) (b:=2147483629) (by decide)
  generalize (c+31 * (k+1)).fmod 2147483629=y at *
  have by':Bd y 40:=.rng (by omega) (by omega)
  repeat tm_at "d"
  refine ix_al (d:=.int (k+1)) m1 rfl ?_
  repeat tm_at "d"
  obtain ⟨z3,z4⟩:=fmod_lt (a:=y * y+(k+1)) (b:=2147483629) (by decide)
  generalize (y * y+(k+1)).fmod 2147483629=x at *
  have bx:Bd x 40:=.rng (by omega) (by omega)
  repeat tm_at "d"
  obtain ⟨z5,z6⟩:=fmod_lt (a:=x * x) (b:=2147483587) (by decide)
  generalize (x * x).fmod 2147483587=v at *
  have bv:Bd v 40:=.rng (by omega) (by omega)
  exact q _ M1 Cell.of pv k1
local macro_rules | `(tactic| tm_at $s:str)=>namT ["_law_cell_here"] s
theorem ok_l_number (F:Fun K "_law_number" "_law_number" s_l_number f fd):FnOk P w K mg base CX0 1 f fd P_l_number (liftSp K spNumber2):=by
 refine fn_D F sc_l_number (fun ds M Q ⟨a,e,_⟩=>by subst e;rfl) fun cdv A outer s H EE ds M Q hr h=>?_
 have nd:=sc_l_number.nd
 try (refine let_X ?_;intro X)
 obtain ⟨c,rfl,hc,q⟩:=h
 have bc:=hc.bd
 refine exs_cons ?_
 repeat tm_at "d"
 refine ifD ?_ ?_
 ·intro _
  repeat tm_at "d"
  obtain ⟨z1,z2⟩:=fmod_lt (a:=c.fdiv 16) (b:=2000000000000000001) (by decide)
  have bd:Bd ((c.fdiv 16).fmod 2000000000000000001 - 1000000000000000000) 64:=.rng (by omega) (by omega)
  exact q _ bd.b
 ·intro _
  repeat tm_at "d"
  obtain ⟨z1,z2⟩:=fmod_lt (a:=c.fdiv 16) (b:=7) (by decide)
  have bd:Bd ((c.fdiv 16).fmod 7 - 3) 64:=.rng (by omega) (by omega)
  exact q _ bd.b
end
section
variable {P:Program} {w:World} {K:PySem.W.Frag} {mg:Str->Option Value} {base:Heap} {f:Addr} {fd:FuncData}
local macro_rules | `(tactic| tm_at $s:str)=>namT ["_law_cell_here", "_law_letters", "_law_found", "_law_k"] s
theorem ok_l_names (F:Fun K "_law_names" "_law_names" s_l_names f fd) (h_tuple:mg "tuple" = none) (h_sorted:mg "sorted" = none) (h_range:mg "range" = none) (hList:mg "list" = none) (h_len:mg "len" = none):FnOk P w K mg base CX0 1 f fd P_l_names (liftSp K spNames):=by
 refine fn_D F sc_l_names (fun ds M Q ⟨a,e,_⟩=>by subst e;rfl) fun cdv A outer s H EE ds M Q hr h=>?_
 have nd:=sc_l_names.nd
 try (refine let_X ?_;intro X)
 obtain ⟨c,rfl,hc,q⟩:=h
 have bc:=hc.bd
 refine exs_cons ?_
 repeat tm_at "d"
 with_reducible refine' ev_listS ?n0 ?n1 ?_ ?n2 ?n3 ?n4
 case n0=>exact hList
 case n1=>rfl
 case n2=>rfl
 case n3=>rfl
 case n4=>rfl
 repeat tm_at "d"
 refine ⟨_,rfl,by decide,fun lp hlp=>?_⟩
 rw [abc_D]
 repeat tm_at "d"
 intro fp hfp
 have hne:lp≠fp:=ne_fresh (M:=mset M lp (.lst (abc.map D.str))) mset_same hfp
 refine exs_cons (ex_for_range PassesOwn.never rfl h_range ?_)
 repeat tm_at "d"
 have h3:=fmod_lt (a:=c) (b:=3) (by decide)
 generalize c.fmod 3=m at h3 ⊢
 have hfp0:M fp=none:=by rw [mset_ne hne.symm] at hfp;exact hfp
 refine ⟨_,fun i G' M'=>∃ (cc:Int) (L F:List Str) (r3:Option D),G'=[some (.int cc),some (.ref lp),some (.ref fp),r3]/\Bd cc (2097152+i)/\M' lp=some (.lst (L.map D.str))/\M' fp=some (.lst (F.map D.str))/\Out L F i/\Ext M M',rfl,by omega,by omega,
  ⟨c,abc,[],none,rfl,bc,by rw [mset_ne hne,mset_same],mset_same,abc_out,Ext.trans (ext_new hlp) (ext_new hfp)⟩,?_,?_⟩
 ·rintro i G' M' hi ⟨cc,L,F,r3,rfl,bcc,ml,mf,ho,hM⟩
  have hi3:i < 3:=by omega
  repeat tm_at "d"
  refine ⟨fp,rfl,⟨_,mf⟩,?_⟩
  with_reducible refine' ev_popAt ?_ ?n0 ?n1 ?n2 ?n3 ?n4
  case n0=>rfl
  case n1=>rfl
  case n2=>rfl
  case n3=>rfl
  case n4=>rfl
  repeat tm_at "d"
  refine ⟨lp,rfl,⟨_,ml⟩,?_⟩
  repeat tm_at "d"
  refine ⟨_,_,rfl,Or.inl ⟨_,ml,rfl⟩,?_⟩
  rw [List.length_map]
  have hL:=ho.len
  have hpos:(0:Int) < (L.length:Nat):=by omega
  refine mod_l (by omega) ?_
  obtain ⟨z1,z2⟩:=fmod_lt (a:=cc.fdiv 3) hpos
  generalize (cc.fdiv 3).fmod (L.length:Nat)=r at *
  obtain ⟨k,rfl⟩:=Int.eq_ofNat_of_zero_le z1
  have hk:k < L.length:=by omega
  have hF:=ho.out
  have ek:ixN (L.map D.str).length (k:Int)=some k:=by unfold ixN;rw [List.length_map,if_pos (by omega),if_pos (by omega)];rfl
  refine ⟨L.map D.str,k,k,.str L[k],rfl,ml,small (by rw [List.length_map];omega),ek,by rw [List.getElem?_map,List.getElem?_eq_getElem hk];rfl,F.map D.str,by rw [mset_ne hne.symm];exact mf,small1000 (by rw [List.length_map];omega),?_⟩
  repeat tm_at "d"
  refine ⟨_,L.eraseIdx k,F++[L[k]],_,rfl,?_,?_,?_,ho.step (List.getElem?_eq_getElem hk) (by omega),fun b o e=>?_⟩
  ·have b5:Bd (cc.fdiv 5) (2097152+i):=inferInstance
   have b7:B (2097152+i) 7:=B.up (show 3<=2097152+i by omega) (show B 3 7 by unfold B;decide)
   exact Bd.of (B.add b5.b b7)
  ·rw [mset_ne hne,mset_same,KA.erase_map]
  ·rw [mset_same,List.map_append];rfl
  ·rw [mset_ne (ne_fresh e hfp0),mset_ne (ne_fresh e hlp)];exact hM b o e
 ·rintro G' M' ⟨cc,L,F,r3,rfl,bcc,ml,mf,ho,hM⟩
  repeat tm_at "d"
  refine ⟨fp,F,rfl,mf,by have:=ho.out;omega,fun p1 ss' hp1 hperm hsort=>?_⟩
  repeat tm_at "d"
  refine ⟨_,rfl,_,mset_same,?_⟩
  have h1:=ho.out
  refine q ss' _ ⟨by rw [hperm.length_eq];omega,by rw [hperm.length_eq];omega,hperm.nodup_iff.mpr (List.nodup_append.mp ho.nd).2.1,fun s hs=>ho.lett s (List.mem_append_right _ (hperm.mem_iff.mp hs))⟩ (Ext.trans hM (ext_new hp1))
local macro_rules | `(tactic| tm_at $s:str)=>namT ["_law_purse", "_law_names_here", "_law_found", "_law_name", "_law_weight"] s
theorem ok_l_terms (F:Fun K "_law_terms" "_law_terms" s_l_terms f fd) (h_tuple:mg "tuple" = none) (C_l_number:Cal P w K mg base 1 "_law_number" spNumber2) (C_l_take:Cal P w K mg base 1 "_law_take" spTake2):FnOk P w K mg base CX0 2 f fd P_l_terms (liftSp K spTerms2):=by
 refine fn_D F sc_l_terms (fun ds M Q ⟨a,b,c,d,e,_⟩=>by subst e;rfl) fun cdv A outer s H EE ds M Q hr h=>?_
 have nd:=sc_l_terms.nd
 try (refine let_X ?_;intro X)
 obtain ⟨p,ss,q0,n0,rfl,pu,hlen,hn0,q⟩:=h
 refine exs_cons ?_
 repeat tm_at "d"
 intro l hl
 have hlq:=pu.ne hl
 have hlp:l≠p:=hlq.1.symm
 refine exs_cons (ex_for_tup PassesOwn.never rfl ?_)
 repeat tm_at "d"
 refine ⟨ss.map D.str,fun i G' M'=>∃ (ts:List (Str × Int)) (r3 r4:Option D),G'=[some (.ref p),some (nms ss),some (.ref l),r3,r4]/\M' l=some (.lst (ts.map tD))/\Terms (ss.take i) ts/\Pv M' p q0 (n0+i)/\Kp [p] M M',rfl,
  ⟨[],none,none,rfl,mset_same,⟨by simp,by simp⟩,pu.ext (ext_new hl),Kp.new hl⟩,?_,?_⟩
 ·rintro i d G' M' hd ⟨ts,r3,r4,rfl,ml,ht,pu',k'⟩
  rw [List.getElem?_map] at hd
  cases hs:ss[i]? with
  | none=>rw [hs] at hd;cases hd
  | some x =>
   rw [hs] at hd
   have hd:D.str x=d:=by simpa using hd
   subst hd
   have hil:i < ss.length:=(List.getElem?_eq_some_iff.mp hs).1
   have htk:ss.take (i+1)=ss.take i++[x]:=by rw [List.take_add_one,hs];rfl
   have hlen2:ts.length<=4:=by
    have:=ht.len
    rw [List.length_take] at this;omega
   repeat tm_at "d"
   refine ⟨_,_,_,rfl,pu',by omega,fun cx M2 hcx pu2 k2=>?_⟩
   repeat tm_at "d"
   refine ⟨_,rfl,hcx,fun n ln=>?_⟩
   have ml2:M2 l=some (.lst (ts.map tD)):=k2.at ml (by simp [hlp])
   repeat tm_at "d"
   refine ifN ?_ ?_
   ·intro hn
    repeat tm_at "d"
    refine ⟨l,rfl,⟨_,ml2⟩,?_⟩
    repeat tm_at "d"
    refine ⟨_,ml2,small1000 (by rw [List.length_map];omega),?_⟩
    refine ⟨ts++[(x,n)],_,_,rfl,?_,⟨?_,?_⟩,?_,?_⟩
    ·rw [mset_same,List.map_append];rfl
    ·rw [htk,List.map_append]
     exact List.Sublist.append ht.sub (List.Sublist.refl _)
    ·intro t hmem
     rcases List.mem_append.mp hmem with hmem | hmem
     ·exact ht.wt t hmem
     ·rw [List.mem_singleton.mp hmem];exact ⟨hn,ln⟩
    ·exact pu2.put hlq
    ·intro b o hb e
     rw [mset_ne (ne_fresh e hl)]
     exact (k'.trans k2) b o hb e
   ·intro hn
    refine exs_nil ?_
    refine ⟨ts,_,_,rfl,ml2,⟨?_,ht.wt⟩,pu2,k'.trans k2⟩
    rw [htk]
    exact ht.sub.trans (List.sublist_append_left _ _)
 ·rintro G' M' ⟨ts,r3,r4,rfl,ml,ht,pu',k'⟩
  rw [List.length_map,List.take_length] at ht
  repeat tm_at "d"
  refine ⟨_,rfl,_,ml,?_⟩
  exact q ts M' ht (pu'.up (by rw [List.length_map];omega)) k'
local macro_rules | `(tactic| tm_at $s:str)=>namT ["_law_purse", "_law_names_here", "_law_terms_here"] s
theorem ok_l_row (F:Fun K "_law_row" "_law_row" s_l_row f fd) (C_l_take:Cal P w K mg base 1 "_law_take" spTake2) (C_l_terms:Cal P w K mg base 2 "_law_terms" spTerms2) (C_l_number:Cal P w K mg base 1 "_law_number" spNumber2):FnOk P w K mg base CX0 3 f fd P_l_row (liftSp K spRow2):=by
 refine fn_D F sc_l_row (fun ds M Q ⟨a,b,c,d,e,_⟩=>by subst e;rfl) fun cdv A outer s H EE ds M Q hr h=>?_
 have nd:=sc_l_row.nd
 try (refine let_X ?_;intro X)
 obtain ⟨p,ss,q0,n0,rfl,pu,hlen,hn0,q⟩:=h
 refine exs_cons ?_
 repeat tm_at "d"
 refine ⟨p,ss,q0,n0,rfl,pu,hlen,by omega,fun ts M1 ht pu1 k1=>?_⟩
 repeat tm_at "d"
 intro l hl
 repeat tm_at "d"
 refine ⟨p,q0,_,rfl,pu1.ext (ext_new hl),by omega,fun r M2 hr2 pu2 k2=>?_⟩
 have hl2:M2 l=some (.lst [.str "least",.str "more"]):=k2.at mset_same (by simp [(pu1.ne hl).1.symm])
 repeat tm_at "d"
 have z:=fmod_lt (a:=r) (b:=2) (by decide)
 generalize r.fmod 2=m at *
 have hb:∃ k:Bool,atI [D.str "least",.str "more"] m=some (.str (word k)):=by
  have:m=0\/m=1:=by omega
  rcases this with rfl | rfl
  ·exact ⟨true,rfl⟩
  ·exact ⟨false,rfl⟩
 obtain ⟨k,eb⟩:=hb
 refine ix_al hl2 eb ?_
 repeat tm_at "d"
 refine ⟨p,q0,_,rfl,pu2,by omega,fun c3 M3 hc3 pu3 k3=>?_⟩
 repeat tm_at "d"
 refine ⟨_,rfl,hc3,fun n ln=>?_⟩
 repeat tm_at "d"
 exact q k ts n M3 ht ln pu3 (k1.trans ((Kp.new hl).trans (k2.trans k3)))
end
section
variable {P:Program} {w:World} {K:PySem.W.Frag} {mg:Str->Option Value} {base:Heap} {f:Addr} {fd:FuncData}
local macro_rules | `(tactic| tm_at $s:str)=>namT ["rows", "found", "row", "term"] s
theorem ok_names_in (F:Fun K "names_in" "names_in" s_names_in f fd) (hSorted:mg "sorted" = none):FnOk P w K mg base CX0 1 f fd P_names_in (liftSp K spNamesIn):=by
 refine fn_D F sc_names_in (fun ds M Q ⟨a,b,e,_⟩=>by subst e;rfl) fun cdv A outer s H EE ds M Q hr h=>?_
 have nd:=sc_names_in.nd
 try (refine let_X ?_;intro X)
 obtain ⟨l,rows,rfl,hl,h10,h5,q⟩:=h
 refine exs_cons ?_
 repeat tm_at "d"
 intro d0 hd0
 have hld:l≠d0:=ne_fresh hl hd0
 refine exs_cons (ex_for_list PassesOwn.never rfl ?_)
 repeat tm_at "d"
 refine ⟨l,rows.map KA.Row3.d,fun i G' M'=>∃ (kvs:List (Str × D)) (r2 r3:Option D),G'=[some (.ref l),some (.ref d0),r2,r3]/\M' d0=some (.dic kvs)/\(kvs.map (·.1)).Nodup/\kvs.length<=5 * i/\(∀ s,s∈kvs.map (·.1) ↔ Named (rows.take i) s)/\Ext M M',rfl,Or.inl (mset_old hd0 hl),
  ⟨[],none,none,rfl,mset_same,by simp,by simp,fun s=>⟨fun z=>by simp at z,fun ⟨r,z,_⟩=>by simp at z⟩,ext_new hd0⟩,?_,?_,?_⟩
 ·rintro i G' M' hi ⟨kvs,r2,r3,rfl,_,_,_,_,hM⟩
  rw [mset_old hd0 hl];exact hM _ _ hl
 ·rintro i d G' M' hd ⟨kvs,r2,r3,rfl,md,hnd,hlen,hmem,hM⟩
  rw [List.getElem?_map] at hd
  cases ht:rows[i]? with
  | none=>rw [ht] at hd;cases hd
  | some r =>
   rw [ht] at hd
   have hd:r.d=d:=by simpa using hd
   subst hd
   have htk:rows.take (i+1)=rows.take i++[r]:=by rw [List.take_add_one,ht];rfl
   have hil:i < rows.length:=(List.getElem?_eq_some_iff.mp ht).1
   have hr5:=h5 r (List.mem_of_getElem? ht)
   refine gv_name 2 nd ?_
   try (refine let_E ?_;intro EL)
   refine exs_one (ex_for_tup PassesOwn.never rfl ?_)
   repeat tm_at "d"
   refine ⟨r.ts.map KA.tD,fun j G2 M2=>∃ (kvs2:List (Str × D)) (r3:Option D),G2=[some (.ref l),some (.ref d0),some r.d,r3]/\M2 d0=some (.dic kvs2)/\(kvs2.map (·.1)).Nodup/\kvs2.length<=5 * i+j/\(∀ s,s∈kvs2.map (·.1) ↔ Named (rows.take i) s\/s∈(r.ts.take j).map (·.1))/\Ext M M2,rfl,
    ⟨kvs,_,rfl,md,hnd,by omega,fun s=>by rw [hmem s];simp,hM⟩,?_,?_⟩
   ·rintro j d2 G2 M2 hd2 ⟨kvs2,r3,rfl,md2,hnd2,hlen2,hmem2,hM2⟩
    rw [List.getElem?_map] at hd2
    cases ht2:r.ts[j]? with
    | none=>rw [ht2] at hd2;cases hd2
    | some t =>
     rw [ht2] at hd2
     have hd2:KA.tD t=d2:=by simpa using hd2
     subst hd2
     have htk2:r.ts.take (j+1)=r.ts.take j++[t]:=by rw [List.take_add_one,ht2];rfl
     have hjl:j < r.ts.length:=(List.getElem?_eq_some_iff.mp ht2).1
     unfold KA.tD
     refine gv_name 3 nd ?_
     try (refine let_E ?_;intro EL)
     repeat tm_at "d"
     refine set_dl md2 (small1000 (by omega)) ?_
     refine ⟨putD kvs2 t.1 (.bl true),_,rfl,mset_same,nodup_put hnd2,by have:=putD_len kvs2 t.1 (.bl true);omega,fun s=>?_,fun b o e=>by rw [mset_ne (ne_fresh e hd0)];exact hM2 _ _ e⟩
     rw [mem_put,hmem2 s,htk2,List.map_append]
     simp [or_assoc]
   ·rintro G2 M2 ⟨kvs2,r3,rfl,md2,hnd2,hlen2,hmem2,hM2⟩
    rw [List.length_map] at hlen2 hmem2
    rw [List.take_length] at hmem2
    refine ⟨kvs2,_,_,rfl,md2,hnd2,by omega,fun s=>?_,hM2⟩
    rw [hmem2 s,htk]
    constructor
    ·rintro (⟨r',h1,h2⟩ | h)
     ·exact ⟨r',List.mem_append_left _ h1,h2⟩
     ·exact ⟨r,by simp,h⟩
    ·rintro ⟨r',h1,h2⟩
     rcases List.mem_append.mp h1 with h1 | h1
     ·exact .inl ⟨r',h1,h2⟩
     ·rw [List.mem_singleton.mp h1] at h2;exact .inr h2
 ·rintro G' M' ⟨kvs,r2,r3,rfl,md,hnd,hlen,hmem,hM⟩
  rw [List.length_map] at hlen hmem
  rw [List.take_length] at hmem
  repeat tm_at "d"
  with_reducible refine' ev_sortedD ?n0 ?n1 ?_ ?n2 ?n3 ?n4
  case n0=>rfl
  case n1=>exact hSorted
  case n2=>rfl
  case n3=>rfl
  case n4=>rfl
  repeat tm_at "d"
  refine ⟨d0,kvs,rfl,md,by omega,fun p ss hp hperm hsort=>?_⟩
  have hMp:M p=none:=by
   cases e:M p with
   | none=>rfl
   | some o=>rw [hM _ _ e] at hp;cases hp
  exact q p ss _ hMp mset_same (hperm.nodup_iff.mpr hnd) hsort (by rw [hperm.length_eq,List.length_map];omega) (fun s=>by rw [hperm.mem_iff,hmem s]) (Ext.trans hM (ext_new hp))
end
section
variable {P:Program} {w:World} {K:PySem.W.Frag} {mg:Str->Option Value} {base:Heap} {f:Addr} {fd:FuncData}
local macro_rules | `(tactic| tm_at $s:str)=>namT ["often", "one", "other_often", "other"] s
theorem ok_put_together (F:Fun K "put_together" "put_together" s_put_together f fd) (h_tuple:mg "tuple" = none) (hZip:mg "zip" = none):FnOk P w K mg base CX0 1 f fd P_put_together (liftSp K spPut):=by
 refine fn_D F sc_put_together (fun ds M Q ⟨a,b,c,d,e,_⟩=>by subst e;rfl) fun cdv A outer s H EE ds M Q hr h=>?_
 have nd:=sc_put_together.nd
 try (refine let_X ?_;intro X)
 obtain ⟨a,b,xs,ys,rfl,h60,la,lb,lx,ly,q⟩:=h
 refine exs_one ?_
 repeat tm_at "d"
 with_reducible refine' ev_comp_zip true (own:=["left", "right"]) (js:=[0,2]) (N:=["left", "right", "often", "other_often"]) ?T ?xe ?ca ?hm (putF2 a b) (fun _=>true) ?_ ?hg ?hse ?hpl ?hs
 case T=>exact compOk_freeB (fs:=["often", "other_often"]) rfl (by decide +kernel) (by decide +kernel) rfl rfl rfl rfl rfl
 case xe=>rfl
 case ca=>rfl
 case hm=>exact hZip
 case hg=>rfl
 case hse=>rfl
 case hpl=>rfl
 case hs=>(intro _;rfl)
 repeat tm_at "d"
 refine ⟨_,xs.map D.int,ys.map D.int,rfl,rfl,small (by rw [List.length_map];omega),?_,fun p0 hp0=>?_⟩
 ·rintro Y ⟨C',s',H',fp,rfl⟩ M' hM d hd
  obtain ⟨x,y,rfl,hx,hy⟩:=twos_mem hd
  have nd2:(["left", "right", "often", "other_often"] : List Str).Nodup:=by decide +kernel
  have i1:=Bd.of la
  have i2:=Bd.of lb
  have i3:=Bd.of (lx x hx)
  have i4:=Bd.of (ly y hy)
  refine gv_tup rfl ?_
  refine gvs_cons ?_
  refine gv_name 0 nd2 ?_
  refine gvs_cons ?_
  refine gv_name 1 nd2 ?_
  refine gvs_nil ?_
  refine ⟨rfl,fun i d e=>?_,tvs_nil ⟨rfl,rfl⟩,fun _=>?_⟩
  ·rcases i with _ | _ | i
   ·simp [compG] at e
   ·simp [compG] at e
   ·exact e
  ·repeat first | (refine ev_var 0 ?_) | (refine ev_var 1 ?_) | (refine ev_var 2 ?_) | (refine ev_var 3 ?_) | tm_at "d"
   exact ⟨rfl,rfl⟩
 rw [put_map]
 repeat tm_at "d"
 refine ⟨_,rfl,_,mset_same,?_⟩
 exact q _ (ext_new hp0)
local macro_rules | `(tactic| tm_at $s:str)=>namT ["rows", "weights", "bound", "more"] s
theorem ok_is_barred (F:Fun K "is_barred" "is_barred" s_is_barred f fd) (hAny:mg "any" = none) (hZip:mg "zip" = none):FnOk P w K mg base CX0 1 f fd P_is_barred (liftSp K spBarred):=by
 refine fn_D F sc_is_barred (fun ds M Q ⟨a,b,c,d,e,_⟩=>by subst e;rfl) fun cdv A outer s H EE ds M Q hr h=>?_
 have nd:=sc_is_barred.nd
 try (refine let_X ?_;intro X)
 obtain ⟨l,rows,ws,bd,rfl,hl,h60,q⟩:=h
 refine exs_cons ?_
 repeat tm_at "d"
 with_reducible refine' ev_anyL ?n0 ?n1 ?_ ?n2 ?n3 ?n4
 case n0=>rfl
 case n1=>exact hAny
 case n2=>rfl
 case n3=>rfl
 case n4=>rfl
 repeat tm_at "d"
 with_reducible refine' ev_comp_zip false (own:=["row", "weight"]) (js:=[]) (N:=["row", "weight"]) (cl:=[]) ?T ?xe ?ca ?hm barF (fun _=>true) ?_ ?hg ?hse ?hpl ?hs
 case T=>exact compOk_plain (by decide +kernel) (by decide +kernel) rfl (by decide +kernel) rfl
 case xe=>rfl
 case ca=>rfl
 case hm=>exact hZip
 case hg=>rfl
 case hse=>rfl
 case hpl=>rfl
 case hs=>(intro _;rfl)
 repeat tm_at "d"
 refine ⟨_,rows.map KA.Row3.d,ws.map D.int,rfl,⟨l,rfl,hl⟩,small (by rw [List.length_map];omega),?_,fun p0 hp0=>?_⟩
 ·rintro Y ⟨C',s',H',fp,rfl⟩ M' hM d hd
  obtain ⟨r,w0,rfl⟩:=twos_mem2 hd
  have nd2:(["row", "weight"] : List Str).Nodup:=by decide +kernel
  refine gv_tup rfl ?_
  refine gvs_cons ?_
  refine gv_name 0 nd2 ?_
  refine gvs_cons ?_
  refine gv_name 1 nd2 ?_
  refine gvs_nil ?_
  refine ⟨rfl,fun i d e=>by rcases i with _ | _ | i<;>simp [compG] at e,tvs_nil ⟨rfl,rfl⟩,fun _=>?_⟩
  repeat first | (refine ev_var 0 ?_) | (refine ev_var 1 ?_) | tm_at "d"
  have eb:barF (.tup [r.d,.int w0])=.bl (decide (word r.k = "more") && decide (w0 > 0)):=rfl
  rw [eb]
  refine ifD ?_ ?_
  ·intro hm
   repeat first | (refine ev_var 1 ?_) | tm_at "d"
   exact ⟨rfl,by rw [decide_eq_true hm];rfl⟩
  ·intro hm
   exact ⟨rfl,by rw [decide_eq_false hm];rfl⟩
 rw [bar_map]
 repeat tm_at "d"
 refine ⟨p0,_,rfl,mset_same,?_⟩
 repeat tm_at "d"
 have e1:=ext_new (o:=.lst (List.map D.bl (List.zipWith (fun (r:KA.Row3) (w:Int)=>!r.k && decide (w > 0)) rows ws))) hp0
 have q1:=q _ e1
 unfold barred anyMore at q1
 generalize hm:(List.zipWith (fun (r:KA.Row3) (w:Int)=>!r.k && decide (w > 0)) rows ws).any id=mo at q1 ⊢
 refine ifD ?_ ?_
 ·intro hb
  rw [decide_eq_true (show bd > 0 from hb),Bool.true_or] at q1
  exact q1
 ·intro hb
  rw [decide_eq_false (show ¬ bd > 0 from hb),Bool.false_or] at q1
  repeat tm_at "d"
  cases mo with
  | true =>
   refine ifT ?_
   repeat tm_at "d"
   rw [Bool.true_and] at q1
   exact q1
  | false =>
   refine ifF ?_
   rw [Bool.false_and] at q1
   exact q1
end
section
variable {P:Program} {w:World} {K:PySem.W.Frag} {mg:Str->Option Value} {base:Heap} {f:Addr} {fd:FuncData}
local macro_rules | `(tactic| tm_at $s:str)=>namT ["row", "names", "weights"] s
theorem ok_sides_of (F:Fun K "sides_of" "sides_of" s_sides_of f fd) (h_tuple:mg "tuple" = none) (hDict:mg "dict" = none):FnOk P w K mg base CX0 1 f fd P_sides_of (liftSp K spSides):=by
 refine fn_D F sc_sides_of (fun ds M Q ⟨a,b,c,e,_⟩=>by subst e;rfl) fun cdv A outer s H EE ds M Q hr h=>?_
 have nd:=sc_sides_of.nd
 try (refine let_X ?_;intro X)
 obtain ⟨r,p,ss,rfl,hp,ho,h100,q⟩:=h
 refine exs_cons ?_
 repeat tm_at "d"
 with_reducible refine' ev_dictT ?n0 ?n1 ?_ ?n2 ?n3 ?n4
 case n0=>rfl
 case n1=>exact hDict
 case n2=>rfl
 case n3=>rfl
 case n4=>rfl
 repeat tm_at "d"
 refine ⟨valsD r.ts,by rw [trm_pairs],by rw [vals_keys];exact ho.nd,fun d0 hd0=>?_⟩
 have hp1:mset M d0 (.dic (valsD r.ts)) p=some (.lst (ss.map D.str)):=mset_old hd0 hp
 refine exs_one ?_
 repeat tm_at "d"
 with_reducible refine' ev_comp_list (own:=["name"]) (js:=[2]) (N:=["name", "weights"]) ?T ?xe ?ca (sideF r.ts) (fun _=>true) ?_ ?hs
 case T=>exact compOk_freeB (fs:=["weights"]) rfl (by decide +kernel) (by decide +kernel) rfl rfl rfl rfl rfl
 case xe=>rfl
 case ca=>rfl
 case hs=>(intro _;rfl)
 repeat tm_at "d"
 refine ⟨p,ss.map D.str,rfl,Or.inl hp1,small (by rw [List.length_map];omega),?_,fun p0 hp0=>?_⟩
 ·rintro Y ⟨C',s',H',fp,rfl⟩ M' hM d hd
  obtain ⟨x,hx,rfl⟩:=List.mem_map.mp hd
  have nd2:(["name", "weights"] : List Str).Nodup:=by decide +kernel
  have hd1:M' d0=some (.dic (valsD r.ts)):=hM _ _ mset_same
  refine gv_name 0 nd2 ?_
  refine ⟨rfl,fun i d e=>?_,tvs_nil ⟨rfl,rfl⟩,fun _=>?_⟩
  ·rcases i with _ | i
   ·simp [compG] at e
   ·exact e
  ·with_reducible refine' ev_dget2 ?n0 ?_ ?n1
   case n0=>exact hr.units
   case n1=>exact ⟨rfl,rfl,rfl,rfl⟩
   refine ev_var 1 ?_
   refine ⟨d0,rfl,⟨_,hd1⟩,?_⟩
   refine ev_var 0 ?_
   repeat tm_at "d"
   exact ⟨x,_,rfl,hd1,rfl,lk_cf x r.ts ho.nd⟩
 rw [side_map]
 repeat tm_at "d"
 intro p1 hp1
 repeat tm_at "d"
 refine add_ll (mset_old hp1 mset_same) mset_same (small (by simp;omega)) fun p2 hp2=>?_
 repeat tm_at "d"
 refine ⟨_,rfl,_,mset_same,?_⟩
 have e:(List.map D.int (List.map (cf r.ts) ss)++[D.int r.b])=(ss.map (cf r.ts)++[r.b]).map D.int:=by simp
 rw [e]
 exact q _ (Ext.trans (ext_new hd0) (Ext.trans (ext_new hp0) (Ext.trans (ext_new hp1) (ext_new hp2))))
end
section
variable {P:Program} {w:World} {K:PySem.W.Frag} {mg:Str->Option Value} {base:Heap} {f:Addr} {fd:FuncData}
local macro_rules | `(tactic| tm_at $s:str)=>namT ["greater", "smaller", "upper", "lower", "quotient", "rest", "left"] s
theorem ok_sure_steps (F:Fun K "sure_steps" "sure_steps" s_sure_steps f fd):FnOk P w K mg base CX0 1 f fd P_sure_steps (liftSp K spSure):=by
 refine fn_D F sc_sure_steps (fun ds M Q ⟨a,b,e,_⟩=>by subst e;rfl) fun cdv A outer s H EE ds M Q hr h=>?_
 have nd:=sc_sure_steps.nd
 try (refine let_X ?_;intro X)
 obtain ⟨g0,s0,rfl,h0,h1,hb,q⟩:=h
 refine exs_cons ?_
 repeat tm_at "d"
 have st:Lh (2 ^ 258) g0 s0 g0 s0 1 0 0 1:=.start h0 h1 (by
  have hb:g0.natAbs < 2 ^ 257:=hb
  have e:(2:Nat) ^ 257=231584178474632390847141970017375815706539969331281128078915168015826259279872:=by decide +kernel
  have e2:(2:Int) ^ 258=463168356949264781694283940034751631413079938662562256157830336031652518559744:=by decide +kernel
  rw [e] at hb;rw [e2];omega)
 refine exs_cons (ex_while (fun G' M'=>∃ (g s u0 u1 l0 l1:Int) (r4 r5 r6:Option D),G'=[some (.int g),some (.int s),some (.tup [.int u0,.int u1]),some (.tup [.int l0,.int l1]),r4,r5,r6]/\M'=M/\Lh (2 ^ 258) g0 s0 g s u0 u1 l0 l1/\LhT g0 s0 u0 u1 l0 l1)
  (fun G' _=>match G' with | [_,some (.int s),_,some (.tup [.int l0,_]),_,_,_]=>(s+l0).toNat | _=>0) PassesOwn.never ⟨g0,s0,1,0,0,1,none,none,none,rfl,rfl,st,LhT.start _ _⟩ ?_)
 rintro G' M' ⟨g,s,u0,u1,l0,l1,r4,r5,r6,rfl,rfl,lh,lt⟩
 obtain ⟨b1,b2,b3,b4,b5,b6⟩:=lh.bits
 have i1:=Bd.of b1
 have i2:=Bd.of b2
 have i3:=Bd.of b3
 have i4:=Bd.of b4
 have i5:=Bd.of b5
 have i6:=Bd.of b6
 have fin:=q _ _ _ _ lt b3 b4 b5 b6
 repeat tm_at "d"
 refine ifN ?_ ?_
 ·intro n0
  repeat tm_at "d"
  refine ifN ?_ ?_
  ·intro n1
   have dv0:CDivB (g+u0) (s+l0):=divOk n0
   have dv1:CDivB (g+u1) (s+l1):=divOk n1
   repeat tm_at "d"
   refine exs_cons ?_
   repeat tm_at "d"
   generalize hqq:(g+u0).fdiv (s+l0)=qq
   refine ifN ?_ ?_
   ·intro _
    repeat first | tm_at "d" | (refine ex_break ?_)
    exact fin
   ·intro hq
    obtain ⟨lh',hlt,q0,qN⟩:=lh.step n0 n1 hqq.symm hq
    have bq:Bd qq 259:=Bd.of (by
     have e:(2:Int) ^ 258=463168356949264781694283940034751631413079938662562256157830336031652518559744:=by decide +kernel
     have e2:(2:Nat) ^ 259=926336713898529563388567880069503262826159877325124512315660672063305037119488:=by decide +kernel
     rw [e] at qN;unfold B;rw [e2];omega)
    repeat tm_at "d"
    refine ⟨⟨_,_,_,_,_,_,_,_,_,rfl,rfl,lh',LhT.step lh n0 n1 hqq.symm hq lt⟩,?_⟩
    show (g - qq * s+(u0 - qq * l0)).toNat < (s+l0).toNat
    have:=lh'.b0
    omega
  ·intro n1
   repeat tm_at "d"
   exact fin
 ·intro n0
  repeat tm_at "d"
  exact fin
local macro_rules | `(tactic| tm_at $s:str)=>namT ["greater", "smaller", "behind", "shares", "upper", "lower"] s
theorem ok_many_steps {t:Tok} (F:Fun K "many_steps" "many_steps" s_many_steps f fd) (hD:mg "LEADING" = some (.int 256 t)) (C_sure_steps:Cal P w K mg base 1 "sure_steps" spSure):FnOk P w K mg base CX0 2 f fd P_many_steps (liftSp K spMany):=by
 refine fn_D F sc_many_steps (fun ds M Q ⟨a,b,e,_⟩=>by subst e;rfl) fun cdv A outer s H EE ds M Q hr h=>?_
 have nd:=sc_many_steps.nd
 try (refine let_X ?_;intro X)
 obtain ⟨g,s,rfl,hbits,h0,h1,hb,q⟩:=h
 have hs:0 < s:=by
  rcases Int.lt_or_le 0 s with z | z
  ·exact z
  ·have:s=0:=by omega
   subst this
   have:Builtin.Int.intBits 0=0:=by decide
   omega
 have hg:0 < g:=by omega
 have hbg:8192 < Builtin.Int.intBits g:=Nat.lt_of_lt_of_le hbits (bits_mono (by omega))
 have hlt:=(bits_eq hg).2.1
 refine exs_cons ?_
 repeat tm_at "d"
 refine ev_bits PySem.F.plainAttrs_int ?_
 repeat tm_at "d"
 refine ev_gint hD ?_
 repeat tm_at "d"
 refine ev_shr ?_
 repeat tm_at "d"
 refine ⟨_,_,rfl,rfl,by omega,?_⟩
 repeat tm_at "d"
 refine ev_shr ?_
 repeat tm_at "d"
 refine ⟨_,_,rfl,rfl,by omega,?_⟩
 generalize hk:((Builtin.Int.intBits g:Nat) - 256:Int).toNat=k
 have hkn:Builtin.Int.intBits g=k+256:=by omega
 rw [hkn] at hlt
 have hp:(0:Int) < 2 ^ k:=Int.pow_pos (by decide)
 have a1:0<=s / 2 ^ k:=Int.ediv_nonneg h0 (by omega)
 have a2:s / 2 ^ k<=g / 2 ^ k:=Int.ediv_le_ediv hp h1
 have a3:g / 2 ^ k < 2 ^ 256:=shr_lt hlt
 have a4:B 257 (g / 2 ^ k):=by
  have e:(2:Int) ^ 256=115792089237316195423570985008687907853269984665640564039457584007913129639936:=by decide +kernel
  have e2:(2:Nat) ^ 257=231584178474632390847141970017375815706539969331281128078915168015826259279872:=by decide +kernel
  rw [e] at a3;unfold B;rw [e2];omega
 repeat tm_at "d"
 refine ⟨_,_,rfl,a1,a2,a4,fun u0 u1 l0 l1 lt b3 b4 b5 b6=>?_⟩
 have bs:B LB s:=B.le (by omega) hb
 have i1:Bd g 30000000:=Bd.of hb
 have i2:Bd s 30000000:=Bd.of bs
 have i3:=Bd.of b3
 have i4:=Bd.of b4
 have i5:=Bd.of b5
 have i6:=Bd.of b6
 have lt:=lt g s (2 ^ k) hp shr_rem.1 shr_rem.2 shr_rem.1 shr_rem.2
 repeat tm_at "d"
 refine exs_cons ?_
 repeat tm_at "d"
 refine ifD ?_ ?_
 ·intro z
  have hm:=fmod_lt (a:=g) hs
  repeat tm_at "d"
  exact q _ _ hm.1 hm.2 (Int.le_refl _) (gcd_step hs)
 ·intro z
  rcases lt with lt | lt
  ·exact absurd lt.2.1 z
  ·repeat tm_at "d"
   exact q _ _ lt.2.1 lt.2.2.1 lt.2.2.2.1 lt.2.2.2.2
local macro_rules | `(tactic| tm_at $s:str)=>namT ["one", "other", "greater", "smaller", "pair", "rest"] s
theorem ok_common_divisor {t:Tok} (F:Fun K "common_divisor" "common_divisor" s_common_divisor f fd) (h_max:mg "max" = none) (h_min:mg "min" = none) (hL:mg "LONG" = some (.int 8192 t)) (C_many_steps:Cal P w K mg base 2 "many_steps" spMany):FnOk P w K mg base CX0 3 f fd P_common_divisor (liftSp K spCdL):=by
 refine fn_D F sc_common_divisor (fun ds M Q ⟨a,b,e,_⟩=>by subst e;rfl) fun cdv A outer s H EE ds M Q hr h=>?_
 have nd:=sc_common_divisor.nd
 try (refine let_X ?_;intro X)
 obtain ⟨a,b,rfl,ha,hb,la,lb,q⟩:=h
 refine exs_cons ?_
 repeat tm_at "d"
 refine exs_cons ?_
 generalize hg:(if b > a then b else a)=g
 generalize hs:(if b < a then b else a)=s
 have hgs:0<=s/\s<=g/\Int.gcd g s=Int.gcd a b/\B LB g:=by
  by_cases c:b > a
  ·have c2:¬ b < a:=by omega
   rw [if_pos c] at hg
   rw [if_neg c2] at hs
   subst hg;subst hs
   exact ⟨ha,by omega,Int.gcd_comm ..,lb⟩
  ·rw [if_neg c] at hg
   by_cases c2:b < a
   ·rw [if_pos c2] at hs
    subst hg;subst hs
    exact ⟨hb,by omega,rfl,la⟩
   ·rw [if_neg c2] at hs
    have e:a=b:=by omega
    subst hg;subst hs;subst e
    exact ⟨ha,Int.le_refl _,rfl,la⟩
 clear hg hs
 refine (ex_while (fun G' M'=>∃ (g s:Int) (r4:Option D),G'=[some (.int a),some (.int b),some (.int g),some (.int s),r4,none]/\M'=M/\0<=s/\s<=g/\Int.gcd g s=Int.gcd a b/\B LB g) (fun G' _=>match G' with | [_,_,_,some (.int s),_,_]=>s.toNat | _=>0) PassesOwn.never ⟨g,s,none,rfl,rfl,hgs⟩ ?_)
 rintro G' M' ⟨g,s,r4,rfl,rfl,h1,h2,h3,h4⟩
 refine lt_gt ?_
 refine ev_bits PySem.F.plainAttrs_int ?_
 repeat tm_at "d"
 refine ev_gint hL ?_
 refine cmp_l ?_
 refine ifD ?_ ?_
 ·intro hbits
  repeat tm_at "d"
  refine ⟨g,s,rfl,by omega,h1,h2,h4,fun g' s' z1 z2 z3 z4=>?_⟩
  repeat tm_at "d"
  refine ⟨⟨g',s',_,rfl,rfl,z1,by omega,z4.trans h3,B.le (by omega) h4⟩,?_⟩
  show s'.toNat < s.toNat
  omega
 intro _
 refine exs_cons (ex_while (fun G' M''=>∃ (g s:Int) (r:Option D),G'=[some (.int a),some (.int b),some (.int g),some (.int s),r4,r]/\M''=M'/\0<=g/\0<=s/\Int.gcd g s=Int.gcd a b)
  (fun G' _=>match G' with | [_,_,_,some (.int s),_,_]=>s.toNat | _=>0) PassesOwn.never ⟨g,s,none,rfl,rfl,by omega,h1,h3⟩ ?_)
 rintro G' M'' ⟨g,s,r,rfl,rfl,hg,hs,e⟩
 repeat tm_at "d"
 refine ifN ?_ ?_
 ·intro hs0
  repeat tm_at "d"
  have hlt:=fmod_lt (a:=g) (b:=s) (by omega)
  refine ⟨⟨s,g.fmod s,some (.int (g.fmod s)),rfl,rfl,hs,hlt.1,?_⟩,?_⟩
  ·rw [gcd_step (by omega)];exact e
  ·show (g.fmod s).toNat < s.toNat
   omega
 ·intro hs0
  subst hs0
  repeat tm_at "d"
  rw [<- e,gcd_zero_right' hg] at q
  exact q
local macro_rules | `(tactic| tm_at $s:str)=>namT ["top", "bottom", "divisor"] s
local macro_rules | `(tactic| tm_at "d")=>`(tactic| ((with_reducible refine' ev_fdivL ?n0 ?n1 ?n2 ?n3 ?n4 ?n5 ?_);(case n0=>exact hT);(case n1=>exact hr);(case n2=>decide);(case n3=>rfl);(case n4=>rfl);(case n5=>rfl)))
theorem ok_made (F:Fun K "made" "made" s_made f fd) (hT:P.given.tree=none) (h_abs:mg "abs" = none) (C_common_divisor:Cal P w K mg base 3 "common_divisor" spCdL):FnOk P w K mg base CX0 33 f fd P_made (liftSp K spMadeL):=by
 refine fn_D F sc_made (fun ds M Q ⟨a,b,e,_⟩=>by subst e;rfl) fun cdv A outer s H EE ds M Q hr h=>?_
 have nd:=sc_made.nd
 try (refine let_X ?_;intro X)
 obtain ⟨t,b,rfl,hb,lt,lb,q⟩:=h
 refine exs_cons ?_
 repeat tm_at "d"
 rw [abs_eq,abs_eq]
 have la:B LB (t.natAbs:Int):=by unfold B;rw [Int.natAbs_natCast];exact lt
 have lc:B LB (b.natAbs:Int):=by unfold B;rw [Int.natAbs_natCast];exact lb
 refine ⟨_,_,rfl,Int.natCast_nonneg _,Int.natCast_nonneg _,la,lc,?_⟩
 have eg:Int.gcd (t.natAbs:Int) (b.natAbs:Int)=Int.gcd t b:=by
  show Nat.gcd _ _=Nat.gcd _ _
  rw [Int.natAbs_natCast,Int.natAbs_natCast]
 rw [eg]
 have dn:=dv_ne (t:=t) hb
 have e1:tp t b=t.fdiv (dv t b):=rfl
 have e2:bt t b=b.fdiv (dv t b):=rfl
 repeat tm_at "d"
 refine exs_cons ?_
 repeat tm_at "d"
 refine ifD ?_ ?_
 ·intro c
  repeat tm_at "d"
  have e:-((Int.gcd t b:Nat):Int)=dv t b:=by unfold dv;rw [if_pos c]
  rw [e]
  repeat first | tm_at "d" | (refine ⟨_,_,rfl,rfl,dn,?_⟩)
  exact q
 ·intro c
  have e:((Int.gcd t b:Nat):Int)=dv t b:=by unfold dv;rw [if_neg c]
  rw [e]
  repeat first | tm_at "d" | (refine ⟨_,_,rfl,rfl,dn,?_⟩)
  exact q
end
section
variable {P:Program} {w:World} {K:PySem.W.Frag} {mg:Str->Option Value} {base:Heap} {f:Addr} {fd:FuncData}
local macro_rules | `(tactic| tm_at $s:str)=>namT ["rows", "names", "found", "number", "row", "weights"] s
theorem ok_first_made (F:Fun K "first_made" "first_made" s_first_made f fd) (h_tuple:mg "tuple" = none) (hEnum:mg "enumerate" = none) (h_range:mg "range" = none) (h_len:mg "len" = none) (C_sides_of:Cal P w K mg base 1 "sides_of" spSides):FnOk P w K mg base CX0 2 f fd P_first_made (liftSp K spFirst):=by
 refine fn_D F sc_first_made (fun ds M Q ⟨a,b,c,d,e,_⟩=>by subst e;rfl) fun cdv A outer s H EE ds M Q hr h=>?_
 have nd:=sc_first_made.nd
 try (refine let_X ?_;intro X)
 obtain ⟨l,p,rows,ss,rfl,hl,hp,h8,hro,hss,q⟩:=h
 refine exs_cons ?_
 repeat tm_at "d"
 intro f0 hf0
 refine exs_cons ?_
 with_reducible refine' ex_for_enumL ?n0 ?n1 ?n2 ?_ ?n3 ?n4 ?n5
 case n0=>exact PassesOwn.never
 case n1=>rfl
 case n2=>exact hEnum
 case n3=>rfl
 case n4=>rfl
 case n5=>(intro _;rfl)
 repeat tm_at "d"
 refine ⟨l,rows.map KA.Row3.d,fun i G' M'=>∃ (r3 r4 r5:Option D),G'=[some (.ref l),some (.ref p),some (.ref f0),r3,r4,r5]/\M' f0=some (.lst (((firstL rows.length).take i).map (mrD rows ss)))/\Ext M M',rfl,mset_old hf0 hl,⟨none,none,none,rfl,mset_same,ext_new hf0⟩,?_,?_,?_⟩
 ·rintro i G' M' ⟨r3,r4,r5,rfl,_,e⟩
  exact e _ _ hl
 ·rintro i d G' M' hd ⟨r3,r4,r5,rfl,mf,eM⟩
  rw [List.getElem?_map] at hd
  obtain ⟨r,hri,rfl⟩:=Option.map_eq_some_iff.mp hd
  have hi:i < rows.length:=(List.getElem?_eq_some_iff.mp hri).1
  repeat tm_at "d"
  with_reducible refine' ev_comp_range (own:=["other"]) (js:=[3]) (N:=["other", "number"]) ?T ?xe ?ca ?hm (unitF i) (fun _=>true) ?_ ?hg ?hse ?hs
  case T=>exact compOk_freeB (fs:=["number"]) rfl (by decide +kernel) (by decide +kernel) rfl rfl rfl rfl rfl
  case xe=>rfl
  case ca=>rfl
  case hm=>exact h_range
  case hg=>rfl
  case hse=>rfl
  case hs=>(intro _;rfl)
  repeat tm_at "d"
  refine ⟨_,_,rfl,Or.inl ⟨_,eM _ _ hl,rfl⟩,?_⟩
  rw [List.length_map]
  repeat tm_at "d"
  refine ⟨by omega,by omega,?_,?_⟩
  ·rintro Y ⟨C',s',H',fp,rfl⟩ M2 hM j hj
   refine gv_name 0 (by show (["other", "number"] : List Str).Nodup;decide +kernel) ?_
   refine ⟨rfl,fun i d e=>?_,tvs_nil ⟨rfl,rfl⟩,fun _=>?_⟩
   ·rcases i with _ | i
    ·simp [compG] at e
    ·exact e
   ·repeat first | (refine ev_var 0 ?_) | (refine ev_var 1 ?_) | tm_at "d"
    refine ifD ?_ ?_
    ·intro z
     repeat tm_at "d"
     exact ⟨rfl,by show D.int 1=.int (if (j:Int)=(i:Int) then 1 else 0);rw [if_pos z]⟩
    ·intro z
     repeat tm_at "d"
     exact ⟨rfl,by show D.int 0=.int (if (j:Int)=(i:Int) then 1 else 0);rw [if_neg z]⟩
  intro p0 hp0
  rw [show (rows.length:Int).toNat=rows.length from rfl,unit_map]
  repeat tm_at "d"
  refine ⟨_,rfl,_,mset_same,?_⟩
  have e0:=ext_new (o:=.lst ((unitL rows.length i).map D.int)) hp0
  generalize mset M' p0 (.lst ((unitL rows.length i).map D.int))=M0 at e0 ⊢
  repeat tm_at "d"
  refine ⟨f0,rfl,⟨_,e0 _ _ mf⟩,?_⟩
  repeat tm_at "d"
  refine ev_shl ?_
  repeat tm_at "d"
  refine ⟨_,_,rfl,rfl,⟨by omega,by omega,by decide⟩,?_⟩
  repeat tm_at "d"
  refine ⟨r,p,ss,rfl,e0 _ _ (eM _ _ hp),hro r (List.mem_of_getElem? hri),by omega,fun M1 e1=>?_⟩
  repeat tm_at "d"
  refine ⟨_,e1 _ _ (e0 _ _ mf),small1000 (by rw [List.length_map,List.length_take];omega),?_⟩
  refine ⟨_,_,_,rfl,?_,?_⟩
  ·have et:((firstL rows.length).take (i+1)).map (mrD rows ss)=((firstL rows.length).take i).map (mrD rows ss)++[mrD rows ss (unitL rows.length i)]:=by rw [List.take_add_one,first_get hi,List.map_append];rfl
   have e2:(1 * 2 ^ ((i:Nat):Int).toNat:Int)=((2 ^ i:Nat):Int):=by rw [Int.toNat_natCast,Int.one_mul,Int.natCast_pow];rfl
   rw [mset_same,et,mr_unit hri,e2]
  ·intro b o e
   rw [mset_ne (ne_fresh e hf0)]
   exact e1 _ _ (e0 _ _ (eM _ _ e))
 ·rintro G' M' ⟨r3,r4,r5,rfl,mf,eM⟩
  rw [List.length_map] at mf
  have el:(firstL rows.length).take rows.length=firstL rows.length:=List.take_of_length_le (by unfold firstL;simp)
  rw [el] at mf
  repeat tm_at "d"
  exact q f0 M' hf0 mf eM
local macro_rules | `(tactic| tm_at $s:str)=>namT ["stage", "support", "within"] s
theorem ok_is_needed (F:Fun K "is_needed" "is_needed" s_is_needed f fd) (h_len:mg "len" = none):FnOk P w K mg base CX0 1 f fd P_is_needed (liftSp K spNeeded):=by
 refine fn_D F sc_is_needed (fun ds M Q ⟨a,b,c,d,d2,e,_⟩=>by subst e;rfl) fun cdv A outer s H EE ds M Q hr h=>?_
 have nd:=sc_is_needed.nd
 try (refine let_X ?_;intro X)
 obtain ⟨q0,m,rows,ss,st,rfl,hq,h300,q⟩:=h
 refine exs_cons ?_
 with_reducible refine' ex_comp_list 2 (own:=["row"]) (js:=[1]) (N:=["row", "support"]) ?T ?xe ?ca ?hN ?hj ?hy ?hyf ?hsw (fun d=>d) (withinP m) ?_ ?hs
 case T=>exact compOk_freeB (fs:=["support"]) rfl (by decide +kernel) (by decide +kernel) rfl rfl rfl rfl rfl
 case xe=>rfl
 case ca=>rfl
 case hN=>exact nd
 case hj=>rfl
 case hy=>first | exact Or.inl rfl | exact Or.inr rfl
 case hyf=>exact .inl rfl
 case hsw=>rfl
 case hs=>(intro _;rfl)
 repeat tm_at "d"
 refine ⟨q0,_,rfl,Or.inl hq,small (by rw [List.length_map];omega),?_,fun p0 hp0=>?_⟩
 ·rintro Y ⟨C',s',H',fp,rfl⟩ M4 hM d hd
  obtain ⟨x,hx,rfl⟩:=List.mem_map.mp hd
  have nd2:(["row", "support"] : List Str).Nodup:=by decide +kernel
  refine gv_name 0 nd2 ?_
  refine ⟨rfl,fun i d e=>?_,?_,fun _=>?_⟩
  ·rcases i with _ | i
   ·simp [compG] at e
   ·exact e
  ·refine tvs_one ?_
   refine lt_eq hr.units ?_
   refine ev_bor ?_
   repeat first | (refine ev_var 0 ?_) | (refine ev_var 1 ?_) | tm_at "d"
   refine ⟨_,_,rfl,rfl,?_⟩
   repeat first | (refine ev_var 0 ?_) | (refine ev_var 1 ?_) | tm_at "d"
   exact ⟨rfl,rfl⟩
  ·repeat first | (refine ev_var 0 ?_) | tm_at "d"
   exact ⟨rfl,rfl⟩
 rw [filt_mr (fun w=>withinP_mr w)]
 repeat tm_at "d"
 refine ⟨_,_,rfl,Or.inl ⟨_,mset_same,rfl⟩,?_⟩
 rw [List.length_map]
 repeat tm_at "d"
 have:=q _ (ext_new (o:=.lst ((st.filter (withinB m)).map (mrD rows ss))) hp0)
 have e:decide (((st.filter (withinB m)).length:Int)=2)=decide ((st.filter (withinB m)).length=2):=decide_eq_decide.mpr (by omega)
 rw [<- e] at this
 exact this
local macro_rules | `(tactic| tm_at $s:str)=>namT ["lower", "upper", "index", "often", "other_often", "weights", "sides"] s
theorem ok_joined (F:Fun K "joined" "joined" s_joined f fd) (C_put_together:Cal P w K mg base 1 "put_together" spPut):FnOk P w K mg base CX0 2 f fd P_joined (liftSp K spJoined):=by
 refine fn_D F sc_joined (fun ds M Q ⟨a,b,c,d,d2,d3,e,_⟩=>by subst e;rfl) fun cdv A outer s H EE ds M Q hr h=>?_
 have nd:=sc_joined.nd
 try (refine let_X ?_;intro X)
 obtain ⟨rows,ss,l,u,k,s,rfl,hk,h50,h8,ol,ou,pl,nu,q⟩:=h
 have al:=atK (side_at (rows:=rows) l hk)
 have au:=atK (side_at (rows:=rows) u hk)
 refine exs_cons ?_
 repeat tm_at "d"
 refine ix_at au ?_
 repeat tm_at "d"
 refine ix_at al ?_
 repeat tm_at "d"
 have n3:∀ {x:Int},B 1400 x->B 3000 x:=fun h=>B.up (by decide) h
 refine ⟨_,_,l,u,rfl,by have:=ol.len;omega,n3 (B.neg (ou.c s)),n3 (ol.c s),fun x hx=>n3 (ol.wt x hx),fun x hx=>n3 (ou.wt x hx),fun M1 e1=>?_⟩
 repeat tm_at "d"
 refine ⟨_,_,sides rows l ss,sides rows u ss,rfl,by rw [side_len];omega,n3 (B.neg (ou.c s)),n3 (ol.c s),fun x hx=>n3 (side_B ol.c ol.b x hx),fun x hx=>n3 (side_B ou.c ou.b x hx),fun M2 e2=>?_⟩
 repeat tm_at "d"
 refine ev_bor ?_
 repeat tm_at "d"
 refine ⟨_,_,rfl,rfl,?_⟩
 rw [bitOr_nat]
 repeat tm_at "d"
 have:=q M2 (Ext.trans e1 e2)
 rw [mr_join ol.len ou.len (by omega) pl ol.nn ou.nn] at this
 exact this
end
section
variable {P:Program} {w:World} {K:PySem.W.Frag} {mg:Str->Option Value} {base:Heap} {f:Addr} {fd:FuncData}
local macro_rules | `(tactic| tm_at $s:str)=>namT ["stage", "index", "kept", "from_below", "from_above", "lower", "upper"] s
theorem ok_without_name (F:Fun K "without_name" "without_name" s_without_name f fd) (C_is_needed:Cal P w K mg base 1 "is_needed" spNeeded) (C_joined:Cal P w K mg base 2 "joined" spJoined):FnOk P w K mg base CX0 3 f fd P_without_name (liftSp K spWithout):=by
 refine fn_D F sc_without_name (fun ds M Q ⟨a,b,c,d,d2,d3,e,_⟩=>by subst e;rfl) fun cdv A outer s H EE ds M Q hr h=>?_
 have nd:=sc_without_name.nd
 try (refine let_X ?_;intro X)
 obtain ⟨q0,k,rows,ss,st,s,rfl,hq,hk,h50,h8,h300,hn300,hok,q⟩:=h
 have nd2:(["row", "index"] : List Str).Nodup:=by decide +kernel
 refine exs_cons ?_
 with_reducible refine' ex_comp_list 2 (own:=["row"]) (js:=[1]) (N:=["row", "index"]) ?T ?xe ?ca ?hN ?hj ?hy ?hyf ?hsw (fun d=>d) (sideP k fun n=>decide (n=0)) ?_ ?hs
 case T=>exact compOk_freeB (fs:=["index"]) rfl (by decide +kernel) (by decide +kernel) rfl rfl rfl rfl rfl
 case xe=>rfl
 case ca=>rfl
 case hN=>exact nd
 case hj=>rfl
 case hy=>first | exact Or.inl rfl | exact Or.inr rfl
 case hyf=>exact .inl rfl
 case hsw=>rfl
 case hs=>(intro _;rfl)
 repeat tm_at "d"
 refine ⟨q0,_,rfl,Or.inl hq,small (by rw [List.length_map];omega),?_,fun p0 hp0=>?_⟩
 ·rintro Y ⟨C',s',H',fp,rfl⟩ M4 hM d hd
  obtain ⟨x,hx,rfl⟩:=List.mem_map.mp hd
  refine gv_name 0 nd2 ?_
  refine ⟨rfl,fun i d e=>?_,?_,fun _=>?_⟩
  ·rcases i with _ | i
   ·simp [compG] at e
   ·exact e
  ·refine tvs_one ?_
   repeat first | (refine ev_var 0 ?_) | (refine ev_var 1 ?_) | tm_at "d"
   refine ix_at (atK (side_at (rows:=rows) x hk)) ?_
   repeat tm_at "d"
   exact ⟨rfl,by rw [sideP_mr x hk]⟩
  ·repeat first | (refine ev_var 0 ?_) | tm_at "d"
   exact ⟨rfl,rfl⟩
 rw [filt_mr (q:=fun r=>decide (sumC rows r s=0)) (fun w=>sideP_mr w hk)]
 have e0:=ext_new (o:=.lst ((st.filter fun r=>decide (sumC rows r s=0)).map (mrD rows ss))) hp0
 have m0:mset M p0 (.lst ((st.filter fun r=>decide (sumC rows r s=0)).map (mrD rows ss))) p0=_:=mset_same
 generalize mset M p0 (.lst ((st.filter fun r=>decide (sumC rows r s=0)).map (mrD rows ss)))=M0 at e0 m0 ⊢
 refine exs_cons ?_
 with_reducible refine' ex_comp_list 3 (own:=["row"]) (js:=[1]) (N:=["row", "index"]) ?T ?xe ?ca ?hN ?hj ?hy ?hyf ?hsw (fun d=>d) (sideP k fun n=>decide (0 < n)) ?_ ?hs
 case T=>exact compOk_freeB (fs:=["index"]) rfl (by decide +kernel) (by decide +kernel) rfl rfl rfl rfl rfl
 case xe=>rfl
 case ca=>rfl
 case hN=>exact nd
 case hj=>rfl
 case hy=>first | exact Or.inl rfl | exact Or.inr rfl
 case hyf=>exact .inl rfl
 case hsw=>rfl
 case hs=>(intro _;rfl)
 repeat tm_at "d"
 refine ⟨q0,_,rfl,Or.inl (e0 _ _ hq),small (by rw [List.length_map];omega),?_,fun p1 hp1=>?_⟩
 ·rintro Y ⟨C',s',H',fp,rfl⟩ M4 hM d hd
  obtain ⟨x,hx,rfl⟩:=List.mem_map.mp hd
  refine gv_name 0 nd2 ?_
  refine ⟨rfl,fun i d e=>?_,?_,fun _=>?_⟩
  ·rcases i with _ | i
   ·simp [compG] at e
   ·exact e
  ·refine tvs_one ?_
   repeat first | (refine ev_var 0 ?_) | (refine ev_var 1 ?_) | tm_at "d"
   refine ix_at (atK (side_at (rows:=rows) x hk)) ?_
   repeat tm_at "d"
   exact ⟨rfl,by rw [sideP_mr x hk]⟩
  ·repeat first | (refine ev_var 0 ?_) | tm_at "d"
   exact ⟨rfl,rfl⟩
 rw [filt_mr (q:=fun r=>decide (0 < sumC rows r s)) (fun w=>sideP_mr w hk)]
 have e1:=ext_new (o:=.lst ((st.filter fun r=>decide (0 < sumC rows r s)).map (mrD rows ss))) hp1
 have m1:mset M0 p1 (.lst ((st.filter fun r=>decide (0 < sumC rows r s)).map (mrD rows ss))) p1=_:=mset_same
 have m0':=e1 _ _ m0
 generalize mset M0 p1 (.lst ((st.filter fun r=>decide (0 < sumC rows r s)).map (mrD rows ss)))=M1 at e1 m1 m0' ⊢
 refine exs_cons ?_
 with_reducible refine' ex_comp_list 4 (own:=["row"]) (js:=[1]) (N:=["row", "index"]) ?T ?xe ?ca ?hN ?hj ?hy ?hyf ?hsw (fun d=>d) (sideP k fun n=>decide (n < 0)) ?_ ?hs
 case T=>exact compOk_freeB (fs:=["index"]) rfl (by decide +kernel) (by decide +kernel) rfl rfl rfl rfl rfl
 case xe=>rfl
 case ca=>rfl
 case hN=>exact nd
 case hj=>rfl
 case hy=>first | exact Or.inl rfl | exact Or.inr rfl
 case hyf=>exact .inl rfl
 case hsw=>rfl
 case hs=>(intro _;rfl)
 repeat tm_at "d"
 refine ⟨q0,_,rfl,Or.inl (e1 _ _ (e0 _ _ hq)),small (by rw [List.length_map];omega),?_,fun p2 hp2=>?_⟩
 ·rintro Y ⟨C',s',H',fp,rfl⟩ M4 hM d hd
  obtain ⟨x,hx,rfl⟩:=List.mem_map.mp hd
  refine gv_name 0 nd2 ?_
  refine ⟨rfl,fun i d e=>?_,?_,fun _=>?_⟩
  ·rcases i with _ | i
   ·simp [compG] at e
   ·exact e
  ·refine tvs_one ?_
   repeat first | (refine ev_var 0 ?_) | (refine ev_var 1 ?_) | tm_at "d"
   refine ix_at (atK (side_at (rows:=rows) x hk)) ?_
   repeat tm_at "d"
   exact ⟨rfl,by rw [sideP_mr x hk]⟩
  ·repeat first | (refine ev_var 0 ?_) | tm_at "d"
   exact ⟨rfl,rfl⟩
 rw [filt_mr (q:=fun r=>decide (sumC rows r s < 0)) (fun w=>sideP_mr w hk)]
 have e2:=ext_new (o:=.lst ((st.filter fun r=>decide (sumC rows r s < 0)).map (mrD rows ss))) hp2
 have m2:mset M1 p2 (.lst ((st.filter fun r=>decide (sumC rows r s < 0)).map (mrD rows ss))) p2=_:=mset_same
 have m1':=e2 _ _ m1
 have m0'':=e2 _ _ m0'
 generalize mset M1 p2 (.lst ((st.filter fun r=>decide (sumC rows r s < 0)).map (mrD rows ss)))=M2 at e2 m2 m1' m0'' ⊢
 have n01:p1≠p0:=(ne_fresh m0 hp1).symm
 have n02:p2≠p0:=(ne_fresh m0' hp2).symm
 have eA:Ext M M2:=Ext.trans e0 (Ext.trans e1 e2)
 have hq2:=eA _ _ hq
 have nq:q0≠p0:=ne_fresh hq hp0
 generalize hLB:(st.filter fun r=>decide (0 < sumC rows r s))=LB at m1' ⊢
 generalize hUB:(st.filter fun r=>decide (sumC rows r s < 0))=UB at m2 ⊢
 generalize hK0:(st.filter fun r=>decide (sumC rows r s=0))=K0 at m0'' ⊢
 have oLB:∀ l∈LB,MrOk rows l/\0 < sumC rows l s:=fun l hl=>by
  rw [<- hLB] at hl
  exact ⟨hok l (List.mem_filter.mp hl).1,of_decide_eq_true (List.mem_filter.mp hl).2⟩
 have oUB:∀ u∈UB,MrOk rows u/\sumC rows u s < 0:=fun u hu=>by
  rw [<- hUB] at hu
  exact ⟨hok u (List.mem_filter.mp hu).1,of_decide_eq_true (List.mem_filter.mp hu).2⟩
 refine exs_cons ?_
 with_reducible refine' ex_for_list ?n0 ?n1 ?_ ?n2
 case n0=>exact PassesOwn.never
 case n1=>rfl
 case n2=>(intro _;rfl)
 repeat tm_at "d"
 refine ⟨p1,_,fun i G' M'=>∃ (r5 r6:Option D),G'=[some (.ref q0),some (.int k),some (.ref p0),some (.ref p1),some (.ref p2),r5,r6]/\M' p0=some (.lst ((K0++(LB.take i).flatMap (joinsL (fun w=>sumC rows w s) st)).map (mrD rows ss)))/\Kp [p0] M2 M',rfl,Or.inl m1',⟨none,none,rfl,by rw [List.take_zero,List.flatMap_nil,List.append_nil];exact m0'',Kp.refl _ _⟩,?_,?_,?_⟩
 ·rintro i G' M' _ ⟨r5,r6,rfl,_,kM⟩
  rw [m1'];exact kM.at m1' (by simp [n01])
 ·rintro i d G' M' hd ⟨r5,r6,rfl,mk,kM⟩
  rw [List.getElem?_map] at hd
  obtain ⟨l,hli,rfl⟩:=Option.map_eq_some_iff.mp hd
  obtain ⟨ol,pl⟩:=oLB l (List.mem_of_getElem? hli)
  refine gv_name 5 nd ?_
  try (refine let_E ?_;intro EL)
  refine exs_one ?_
  with_reducible refine' ex_for_list ?n0 ?n1 ?_ ?n2
  case n0=>exact PassesOwn.never
  case n1=>rfl
  case n2=>(intro _;rfl)
  repeat tm_at "d"
  refine ⟨p2,_,fun j G2 M3=>∃ (r6:Option D),G2=[some (.ref q0),some (.int k),some (.ref p0),some (.ref p1),some (.ref p2),some (mrD rows ss l),r6]/\M3 p0=some (.lst ((K0++(LB.take i).flatMap (joinsL (fun w=>sumC rows w s) st)++((UB.take j).filter (needB st l)).map fun u=>putL (-sumC rows u s) (sumC rows l s) l u).map (mrD rows ss)))/\Kp [p0] M2 M3,rfl,Or.inl (kM.at m2 (by simp [n02])),⟨_,rfl,by rw [List.take_zero,List.filter_nil,List.map_nil,List.append_nil];exact mk,kM⟩,?_,?_,?_⟩
  ·rintro j G2 M3 _ ⟨r6,rfl,_,kM3⟩
   rw [kM.at m2 (by simp [n02])];exact kM3.at m2 (by simp [n02])
  ·rintro j d G2 M3 hd ⟨r6,rfl,mk3,kM3⟩
   rw [List.getElem?_map] at hd
   obtain ⟨u,huj,rfl⟩:=Option.map_eq_some_iff.mp hd
   obtain ⟨ou,nu⟩:=oUB u (List.mem_of_getElem? huj)
   refine gv_name 6 nd ?_
   try (refine let_E ?_;intro EL)
   refine exs_one ?_
   repeat tm_at "d"
   refine ev_bor ?_
   repeat tm_at "d"
   refine ⟨_,_,rfl,rfl,?_⟩
   rw [bitOr_nat]
   repeat tm_at "d"
   refine ⟨q0,mask l ||| mask u,rows,ss,st,rfl,kM3.at hq2 (by simp [nq]),h300,fun M4 e4=>?_⟩
   have et:=take_snoc huj
   have hb:decide ((st.filter (withinB (mask l ||| mask u))).length=2)=needB st l u:=rfl
   rw [hb]
   repeat tm_at "d"
   cases hnb:needB st l u with
   | true =>
    refine ifT ?_
    repeat tm_at "d"
    refine ⟨p0,rfl,⟨_,e4 _ _ mk3⟩,?_⟩
    repeat tm_at "d"
    refine ⟨rows,ss,l,u,k,s,rfl,hk,h50,h8,ol,ou,pl,nu,fun M5 e5=>?_⟩
    repeat tm_at "d"
    refine ⟨_,e5 _ _ (e4 _ _ mk3),small1000 ?_,?_⟩
    ·have:=next_len (A:=fun w=>sumC rows w s) (st:=st) (i:=i) (j:=j) (l:=l) (by rw [hLB];exact hli)
     rw [hLB,hUB,hK0] at this
     simp only [List.length_map,List.length_append]
     omega
    ·refine ⟨_,rfl,?_,?_⟩
     ·have:[u].filter (needB st l)=[u]:=by rw [List.filter_cons,hnb];rfl
      rw [mset_same,et,List.filter_append,this]
      simp only [List.map_append,List.append_assoc]
      rfl
     ·intro b o hb e
      have nb:b≠p0:=fun z=>hb (by rw [z];simp)
      rw [mset_ne nb]
      exact e5 _ _ (e4 _ _ (kM3 b o hb e))
   | false =>
    refine ifF ?_
    refine exs_nil ?_
    refine ⟨_,rfl,?_,kM3.trans (Kp.ext e4)⟩
    rw [et,List.filter_append]
    have:[u].filter (needB st l)=[]:=by rw [List.filter_cons,hnb];rfl
    rw [this,List.append_nil]
    exact e4 _ _ mk3
  ·rintro G2 M3 ⟨r6,rfl,mk3,kM3⟩
   rw [List.length_map,List.take_length] at mk3
   refine ⟨_,_,rfl,?_,kM3⟩
   rw [take_snoc hli,List.flatMap_append,List.flatMap_singleton,<- List.append_assoc]
   have ej:joinsL (fun w=>sumC rows w s) st l=(UB.filter (needB st l)).map fun u=>putL (-sumC rows u s) (sumC rows l s) l u:=by rw [<- hUB];rfl
   rw [ej]
   exact mk3
 ·rintro G' M' ⟨r5,r6,rfl,mk,kM⟩
  rw [List.length_map,List.take_length] at mk
  repeat tm_at "d"
  refine q p0 M' hp0 ?_ ?_
  ·rw [mk]
   have en:nextL (fun w=>sumC rows w s) st=K0++LB.flatMap (joinsL (fun w=>sumC rows w s) st):=by rw [<- hK0,<- hLB];rfl
   rw [en]
  ·exact ((Kp.ext eA).trans kM).one hp0
end
section
variable {P:Program} {w:World} {K:PySem.W.Frag} {mg:Str->Option Value} {base:Heap} {f:Addr} {fd:FuncData}
local macro_rules | `(tactic| tm_at $s:str)=>namT ["terms", "point", "term"] s
theorem ok_must_have_names (F:Fun K "must_have_names" "must_have_names" s_must_have_names f fd):FnOk P w K mg base CX0 1 f fd P_must_have_names (liftSp K spMustL):=by
 refine fn_D F sc_must_have_names (fun ds M Q ⟨a,b,c,d,e,_⟩=>by subst e;rfl) fun cdv A outer s H EE ds M Q hr h=>?_
 have nd:=sc_must_have_names.nd
 try (refine let_X ?_;intro X)
 obtain ⟨l,d0,ts,kvs,rfl,hl,hd,hall,q⟩:=h
 refine exs_cons ?_
 with_reducible refine' ex_for_list ?n0 ?n1 ?_ ?n2
 case n0=>exact PassesOwn.never
 case n1=>rfl
 case n2=>(intro _;rfl)
 repeat tm_at "d"
 refine ⟨l,ts.map tD,fun i G' M'=>∃ r2:Option D,G'=[some (.ref l),some (.ref d0),r2]/\M'=M,rfl,Or.inl hl,⟨none,rfl,rfl⟩,?_,?_,?_⟩
 ·rintro i G' M' _ ⟨r2,rfl,rfl⟩;rfl
 ·rintro i d G' M' hx ⟨r2,rfl,rfl⟩
  rw [List.getElem?_map] at hx
  obtain ⟨t,ht,rfl⟩:=Option.map_eq_some_iff.mp hx
  have hh:=hall t (List.mem_of_getElem? ht)
  unfold KA.tD
  repeat tm_at "d"
  refine in_d hd ?_
  rw [hh]
  refine ifNT ?_
  repeat tm_at "d"
  exact ⟨_,rfl,rfl⟩
 ·rintro G' M' ⟨r2,rfl,rfl⟩
  refine exs_nil ?_
  exact q
local macro_rules | `(tactic| tm_at $s:str)=>namT ["terms", "point", "top", "bottom", "name", "weight", "value"] s
theorem ok_added_up (F:Fun K "added_up" "added_up" s_added_up f fd) (C_must_have_names:Cal P w K mg base 1 "must_have_names" spMustL):FnOk P w K mg base CX0 2 f fd P_added_up (liftSp K spAddedL):=by
 refine fn_D F sc_added_up (fun ds M Q ⟨a,b,c,d,d2,e,_⟩=>by subst e;rfl) fun cdv A outer s H EE ds M Q hr h=>?_
 have nd:=sc_added_up.nd
 try (refine let_X ?_;intro X)
 obtain ⟨l,d0,ts,kvs,T,rfl,hl,hd,h3,hT2,hall,q⟩:=h
 refine exs_cons ?_
 repeat tm_at "d"
 refine ⟨l,d0,ts,kvs,rfl,hl,hd,fun t ht=>by rw [((hall t ht).1.at).1];rfl,?_⟩
 repeat tm_at "d"
 refine exs_cons ?_
 with_reducible refine' ex_for_list ?n0 ?n1 ?_ ?n2
 case n0=>exact PassesOwn.never
 case n1=>rfl
 case n2=>(intro _;rfl)
 repeat tm_at "d"
 refine ⟨l,ts.map tD,fun i G' M'=>∃ r4 r5 r6:Option D,G'=[some (.ref l),some (.ref d0),some (.int (addUp kvs (ts.take i) 0 1).1),some (.int (addUp kvs (ts.take i) 0 1).2),r4,r5,r6]/\M'=M,rfl,Or.inl hl,⟨none,none,none,rfl,rfl⟩,?_,?_,?_⟩
 ·rintro i G' M' _ ⟨r4,r5,r6,rfl,rfl⟩;rfl
 ·rintro i d G' M' hx ⟨r4,r5,r6,rfl,rfl⟩
  rw [List.getElem?_map] at hx
  obtain ⟨t,ht,rfl⟩:=Option.map_eq_some_iff.mp hx
  obtain ⟨hh,bw⟩:=hall t (List.mem_of_getElem? ht)
  obtain ⟨h1,_,_,bx,by'⟩:=hh.at
  obtain ⟨b1,b2⟩:=addUp_B (kvs:=kvs) (T:=T) (S:=710) (ts.take i) 0 1 0 (fun u hu=>hall u (List.mem_of_mem_take hu)) (by unfold B;exact Nat.pow_pos (by decide)) (by unfold B;rw [Nat.zero_mul];decide)
  have e:=addUp_snoc kvs t (ts.take i) 0 1
  rw [<- take_snoc ht] at e
  have hi3:0+(ts.take i).length<=3:=by rw [List.length_take];omega
  have c1:B 10000000 (addUp kvs (ts.take i) 0 1).1:=B.up (by have:=Nat.mul_le_mul_right (T+710+2) hi3;omega) b1
  have c2:B 10000000 (addUp kvs (ts.take i) 0 1).2:=B.up (by have:=Nat.mul_le_mul_right T hi3;omega) b2
  generalize (addUp kvs (ts.take i) 0 1).1=T1 at *
  generalize (addUp kvs (ts.take i) 0 1).2=U at *
  have i1:=Bd.of c1
  have i2:=Bd.of c2
  have i3:=Bd.of bw
  have i4:=Bd.of (B.up hT2 bx)
  have i5:=Bd.of (B.up hT2 by')
  unfold KA.tD
  repeat tm_at "d"
  refine ix_ad hd h1 ?_
  repeat tm_at "d"
  exact ⟨_,_,_,by rw [e];rfl,rfl⟩
 ·rintro G' M' ⟨r4,r5,r6,rfl,rfl⟩
  rw [List.length_map,List.take_length]
  repeat tm_at "d"
  exact q
local macro_rules | `(tactic| tm_at $s:str)=>namT ["one", "other"] s
theorem ok_less (F:Fun K "less" "less" s_less f fd):FnOk P w K mg base CX0 1 f fd P_less (liftSp K spLessL):=by
 refine fn_D F sc_less (fun ds M Q ⟨a,b,c,d,e,_⟩=>by subst e;rfl) fun cdv A outer s H EE ds M Q hr h=>?_
 have nd:=sc_less.nd
 try (refine let_X ?_;intro X)
 obtain ⟨a,b,c,d,rfl,la,lb,lc,ld,q⟩:=h
 have i1:Bd a 30000000:=Bd.of la
 have i2:Bd b 30000000:=Bd.of lb
 have i3:Bd c 30000000:=Bd.of lc
 have i4:Bd d 30000000:=Bd.of ld
 refine exs_one ?_
 repeat tm_at "d"
 exact q
local macro_rules | `(tactic| tm_at $s:str)=>namT ["sides", "names", "index", "point", "behind", "added"] s
theorem ok_bound_of (F:Fun K "bound_of" "bound_of" s_bound_of f fd) (h_abs:mg "abs" = none) (hZip:mg "zip" = none) (C_added_up:Cal P w K mg base 2 "added_up" spAddedL):FnOk P w K mg base CX0 3 f fd P_bound_of (liftSp K spBound):=by
 refine fn_D F sc_bound_of (fun ds M Q ⟨a,b,c,d,d2,d3,d4,d5,d6,e,_⟩=>by subst e;rfl) fun cdv A outer s H EE ds M Q hr h=>?_
 have nd:=sc_bound_of.nd
 try (refine let_X ?_;intro X)
 obtain ⟨rows,ss,w0,p,d0,k,T,s,kvs,rfl,hp,hd,hk,h4,hT2,hv,hc,hb,q⟩:=h
 have hkl:k < ss.length:=(List.getElem?_eq_some_iff.mp hk).1
 refine exs_cons ?_
 with_reducible refine' ex_comp_zip 4 false (own:=["name", "side"]) (js:=[]) (N:=["name", "side"]) (cl:=[]) ?T ?xe ?ca ?hm ?hN ?hj ?hy ?hyf ?hsw (fun d=>d) pairP ?_ ?hg ?hse ?hpl ?hs
 case T=>exact compOk_plain (by decide +kernel) (by decide +kernel) rfl (by decide +kernel) rfl
 case xe=>rfl
 case ca=>rfl
 case hm=>exact hZip
 case hN=>exact nd
 case hj=>rfl
 case hy=>first | exact Or.inl rfl | exact Or.inr rfl
 case hyf=>exact .inl rfl
 case hsw=>rfl
 case hg=>rfl
 case hse=>rfl
 case hpl=>rfl
 case hs=>(intro _;rfl)
 repeat tm_at "d"
 refine ev_slice sl_list ?_
 repeat tm_at "d"
 refine ov_some ?_
 repeat tm_at "d"
 refine ov_none ?_
 refine rs_list rfl (Or.inl hp) fun p1 hp1=>?_
 rw [cutS]
 have x1:=ext_new (o:=.lst ((ss.map D.str).drop (k+1))) hp1
 have m1:mset M p1 (.lst ((ss.map D.str).drop (k+1))) p1=_:=mset_same
 generalize mset M p1 (.lst ((ss.map D.str).drop (k+1)))=M1 at x1 m1 ⊢
 repeat tm_at "d"
 refine ev_slice sl_all ?_
 repeat tm_at "d"
 refine ov_some ?_
 repeat tm_at "d"
 refine ov_none ?_
 refine rs_tupA rfl ?_
 rw [cutS]
 repeat tm_at "d"
 refine ⟨.ref p1,_,_,rfl,⟨p1,rfl,m1⟩,small (by rw [List.length_drop,List.length_map];omega),?_,fun p2 hp2=>?_⟩
 ·rintro Y ⟨C',s',H',fp,rfl⟩ M' hM d hd2
  rw [<- List.map_drop,<- List.map_drop] at hd2
  obtain ⟨s1,n1,rfl⟩:=twos_str hd2
  have nd2:(["name", "side"] : List Str).Nodup:=by decide +kernel
  refine gv_tup rfl ?_
  refine gvs_cons ?_
  refine gv_name 0 nd2 ?_
  refine gvs_cons ?_
  refine gv_name 1 nd2 ?_
  refine gvs_nil ?_
  refine ⟨rfl,fun i d e=>by rcases i with _ | _ | i<;>simp [compG] at e,?_,fun _=>?_⟩
  ·refine tvs_one ?_
   repeat first | (refine ev_var 1 ?_) | tm_at "d"
   exact ⟨rfl,rfl⟩
  ·repeat first | (refine ev_var 0 ?_) | (refine ev_var 1 ?_) | tm_at "d"
   exact ⟨rfl,rfl⟩
 rw [behind_map (by omega)]
 have x2:=ext_new (o:=.lst ((behindT rows ss k w0).map tD)) hp2
 have m2:mset M1 p2 (.lst ((behindT rows ss k w0).map tD)) p2=_:=mset_same
 generalize mset M1 p2 (.lst ((behindT rows ss k w0).map tD))=M2 at x2 m2 ⊢
 have xA:=Ext.trans x1 x2
 have hbl:=behind_len (rows:=rows) (ss:=ss) (k:=k) (w:=w0)
 have hbm:∀ u∈behindT rows ss k w0,HasT kvs T u.1/\B 710 u.2:=fun u hu=>⟨hv _ (behind_mem hu).1,by rw [(behind_mem hu).2];exact hc _⟩
 repeat tm_at "d"
 refine ⟨p2,d0,behindT rows ss k w0,kvs,T,rfl,m2,xA _ _ hd,by omega,hT2,hbm,?_⟩
 obtain ⟨b1,b2⟩:=addUp_B (kvs:=kvs) (T:=T) (S:=710) (behindT rows ss k w0) 0 1 0 hbm (by unfold B;exact Nat.pow_pos (by decide)) (by unfold B;rw [Nat.zero_mul];decide)
 have hi3:0+(behindT rows ss k w0).length<=3:=by omega
 have c1:B 10000000 (addUp kvs (behindT rows ss k w0) 0 1).1:=B.up (by have:=Nat.mul_le_mul_right (T+710+2) hi3;omega) b1
 have c2:B 10000000 (addUp kvs (behindT rows ss k w0) 0 1).2:=B.up (by have:=Nat.mul_le_mul_right T hi3;omega) b2
 have q:=q M2 xA
 unfold bnd at q
 clear b1 b2
 generalize addUp kvs (behindT rows ss k w0) 0 1=AU at *
 obtain ⟨T1,U⟩:=AU
 have i1:Bd T1 10000000:=Bd.of c1
 have i2:Bd U 10000000:=Bd.of c2
 have i3:=Bd.of hb
 have i4:Bd ((sumC rows w0 s).natAbs:Int) 710:=Bd.of (by unfold B;rw [Int.natAbs_natCast];exact hc s)
 repeat tm_at "d"
 refine ix_at (d:=.int (sumB rows w0)) ?_ ?_
 ·unfold sides;rw [List.map_append];exact atI_last _ _
 repeat tm_at "d"
 refine ix_at (atK (side_at (rows:=rows) w0 hk)) ?_
 repeat tm_at "d"
 rw [abs_eq]
 repeat tm_at "d"
 exact q
local macro_rules | `(tactic| tm_at $s:str)=>namT ["bounds", "found", "bound"] s
theorem ok_greatest_of (F:Fun K "greatest_of" "greatest_of" s_greatest_of f fd) (C_less:Cal P w K mg base 1 "less" spLessL):FnOk P w K mg base CX0 2 f fd P_greatest_of (liftSp K spGreatest):=by
 refine fn_D F sc_greatest_of (fun ds M Q ⟨a,b,e,_⟩=>by subst e;rfl) fun cdv A outer s H EE ds M Q hr h=>?_
 have nd:=sc_greatest_of.nd
 try (refine let_X ?_;intro X)
 obtain ⟨l,bs,rfl,hl,hB,q⟩:=h
 refine exs_cons ?_
 repeat tm_at "d"
 refine exs_cons ?_
 with_reducible refine' ex_for_list ?n0 ?n1 ?_ ?n2
 case n0=>exact PassesOwn.never
 case n1=>rfl
 case n2=>(intro _;rfl)
 repeat tm_at "d"
 refine ⟨l,bs.map frP,fun i G' M'=>∃ r2:Option D,G'=[some (.ref l),some (optD (maxO (bs.take i) none)),r2]/\M'=M,rfl,Or.inl hl,⟨none,rfl,rfl⟩,?_,?_,?_⟩
 ·rintro i G' M' _ ⟨r2,rfl,rfl⟩;rfl
 ·rintro i d G' M' hx ⟨r2,rfl,rfl⟩
  rw [List.getElem?_map] at hx
  obtain ⟨b,hb,rfl⟩:=Option.map_eq_some_iff.mp hx
  have bb:=hB b (List.mem_of_getElem? hb)
  have bf:=maxO_B (bs:=bs.take i) (N:=LB) (f:=none) rfl (fun b hb=>hB b (List.mem_of_mem_take hb)) (by simp)
  have es:maxO (bs.take (i+1)) none=maxO [b] (maxO (bs.take i) none):=by rw [take_snoc hb,maxO_snoc]
  generalize maxO (bs.take i) none=o at *
  cases o with
  | none =>
   repeat tm_at "d"
   exact ⟨_,by rw [es];rfl,rfl⟩
  | some m =>
   have bm:=bf m rfl
   repeat tm_at "d"
   refine ⟨m.1,m.2,b.1,b.2,rfl,bm.1,bm.2,bb.1,bb.2,?_⟩
   repeat tm_at "d"
   have es2:maxO [b] (some m)=if m.1 * b.2 < b.1 * m.2 then some b else some m:=rfl
   refine ifD ?_ ?_
   ·intro z
    rw [if_pos z] at es2
    repeat tm_at "d"
    exact ⟨_,by rw [es,es2];rfl,rfl⟩
   ·intro z
    rw [if_neg z] at es2
    refine exs_nil ?_
    exact ⟨_,by rw [es,es2];rfl,rfl⟩
 ·rintro G' M' ⟨r2,rfl,rfl⟩
  rw [List.length_map,List.take_length]
  repeat tm_at "d"
  exact q
local macro_rules | `(tactic| tm_at $s:str)=>namT ["bound"] s
theorem ok_changed_sign (F:Fun K "changed_sign" "changed_sign" s_changed_sign f fd):FnOk P w K mg base CX0 1 f fd P_changed_sign (liftSp K spSign):=by
 refine fn_D F sc_changed_sign (fun ds M Q ⟨a,e,_⟩=>by subst e;rfl) fun cdv A outer s H EE ds M Q hr h=>?_
 have nd:=sc_changed_sign.nd
 try (refine let_X ?_;intro X)
 obtain ⟨o,rfl,q⟩:=h
 cases o with
 | none =>
  refine exs_one ?_
  repeat tm_at "d"
  exact q
 | some m =>
  refine exs_one ?_
  repeat tm_at "d"
  exact q
end
section
variable {P:Program} {w:World} {K:PySem.W.Frag} {mg:Str->Option Value} {base:Heap} {f:Addr} {fd:FuncData}
local macro_rules | `(tactic| tm_at $s:str)=>namT ["low", "high", "top", "bottom"] s
local macro_rules | `(tactic| tm_at "d")=>`(tactic| ((with_reducible refine' ev_fdivL ?n0 ?n1 ?n2 ?n3 ?n4 ?n5 ?_);(case n0=>exact hT);(case n1=>exact hr);(case n2=>decide);(case n3=>rfl);(case n4=>rfl);(case n5=>rfl)))
theorem ok_short_between (F:Fun K "short_between" "short_between" s_short_between f fd) (hT:P.given.tree=none) (h_max:mg "max" = none) (C_made:Cal P w K mg base 33 "made" spMadeL) (C_less:Cal P w K mg base 1 "less" spLessL):FnOk P w K mg base CX0 34 f fd P_short_between (liftSp K spShort):=by
 refine fn_D F sc_short_between (fun ds M Q ⟨a,b,c,d,e,_⟩=>by subst e;rfl) fun cdv A outer s H EE ds M Q hr h=>?_
 have nd:=sc_short_between.nd
 try (refine let_X ?_;intro X)
 obtain ⟨l,h,n,m,rfl,ol,oh,hN,hlt,q⟩:=h
 obtain ⟨p,pq⟩:=l
 obtain ⟨r,rs⟩:=h
 obtain ⟨q1,bp,bq⟩:0 < pq/\B n p/\B m pq:=ol _ rfl
 obtain ⟨s1,br,bs⟩:0 < rs/\B n r/\B m rs:=oh _ rfl
 have hlt:p * rs < r * pq:=hlt
 have ne:pq≠0:=by omega
 have hLB:LB=30000000:=rfl
 refine exs_cons ?_
 repeat first | tm_at "d" | (refine ⟨_,_,rfl,rfl,ne,?_⟩)
 have e1:p.fdiv pq+1=(p * 1).fdiv pq+1:=by rw [Int.mul_one]
 rw [e1]
 refine exs_cons (ex_while (fun G' M'=>∃ (b:Int) (i:Nat),G'=[some (fr p pq),some (fr r rs),some (.int ((p * b).fdiv pq+1)),some (.int b)]/\M'=M/\0 < b/\B (4 * m+2) b/\b=shB i/\∀ j,j < i->¬ shDone (p,pq) (r,rs) j) (fun G' _=>match G' with | [_,_,_,some (.int b)]=>(pq * rs+1 - b).toNat | _=>0) PassesOwn.never ⟨1,0,rfl,rfl,by decide,B.up (m:=1) (by omega) (by unfold B;decide),rfl,fun j hj=>absurd hj (Nat.not_lt_zero j)⟩ ?_)
 rintro G' M' ⟨b,i,rfl,rfl,b0,bb,eb,hbef⟩
 have bpb:B (n+(4 * m+2)) (p * b):=B.mul bp bb
 have bt0:B (n+4 * m+3) ((p * b).fdiv pq+1):=B.up (by omega) (B.add (m:=n+(4 * m+2)) (B.le (fdiv_abs _ _) bpb) (B.up (m:=1) (by omega) (by unfold B;decide)))
 repeat tm_at "d"
 refine ⟨_,b,r,rs,rfl,B.up (by omega) bt0,B.up (by omega) bb,B.up (by omega) br,B.up (by omega) bs,?_⟩
 repeat tm_at "d"
 refine ifN ?_ ?_
 ·intro z
  have hbe:b<=pq * rs:=short_end q1 s1 b0 hlt z
  have i1:Bd b 30000000:=Bd.of (B.up (by omega) bb)
  have i2:Bd p 30000000:=Bd.of (B.up (by omega) bp)
  repeat tm_at "d"
  have bsq:=sq_B q1 s1 b0 bq bs hbe
  have enb:shB (i+1)=if b * b > 2 then b * b else 2:=by rw [eb];rfl
  generalize hnb:(if b * b > 2 then b * b else 2)=nb at enb
  have nb1:b < nb/\B (4 * m+2) nb:=by
   have hb2:b * b=b * b:=rfl
   by_cases c:b * b > 2
   ·rw [if_pos c] at hnb
    subst hnb
    have:b≠1:=fun z=>by subst z;omega
    have:1 * b < b * b:=Int.mul_lt_mul_of_pos_right (by omega) b0
    exact ⟨by omega,bsq⟩
   ·rw [if_neg c] at hnb
    subst hnb
    have:b=1:=by
     rcases Int.lt_or_le 1 b with y | y
     ·have:2 * 2<=b * b:=Int.mul_le_mul (by omega) (by omega) (by decide) (by omega)
      omega
     ·omega
    exact ⟨by omega,B.up (m:=2) (by omega) (by unfold B;decide)⟩
  have i3:Bd nb 30000000:=Bd.of (B.up (by omega) nb1.2)
  repeat first | tm_at "d" | (refine ⟨_,_,rfl,rfl,ne,?_⟩)
  refine ⟨⟨nb,i+1,rfl,rfl,by omega,nb1.2,enb.symm,fun j hj=>?_⟩,?_⟩
  ·rcases Nat.lt_or_ge j i with y | y
   ·exact hbef j y
   ·have:j=i:=by omega
    subst this
    unfold shDone
    rw [<- eb]
    exact z
  show (pq * rs+1 - nb).toNat < (pq * rs+1 - b).toNat
  omega
 ·intro z
  have hsr:ShortR (p,pq) (r,rs) (tp ((p * b).fdiv pq+1) b,bt ((p * b).fdiv pq+1) b):=⟨i,by unfold shDone;rw [<- eb];exact z,hbef,by rw [<- eb]⟩
  generalize ht:(p * b).fdiv pq+1=t at *
  have hup:=(fdiv_up (p:=p * b) q1).1
  rw [ht] at hup
  have hb0:b≠0:=by omega
  repeat tm_at "d"
  refine ⟨t,b,rfl,hb0,B.up (by omega) bt0,B.up (by omega) bb,?_⟩
  have er:rq (tp t b,bt t b)=rq (t,b):=rq_made hb0
  refine q _ _ (bt_pos hb0) (coprime hb0) (B.le (tp_le hb0) (B.up (by omega) bt0)) (B.le (bt_le hb0) (B.up (by omega) bb)) ?_ ?_ hsr
  ·rw [er]
   exact (rq_lt (p:=(p,pq)) (q:=(t,b)) q1 b0).mpr hup
  ·rw [er]
   exact (rq_lt (p:=(t,b)) (q:=(r,rs)) b0 s1).mpr z
local macro_rules | `(tactic| tm_at $s:str)=>namT ["low", "high"] s
theorem ok_between (F:Fun K "between" "between" s_between f fd) (hT:P.given.tree=none) (C_made:Cal P w K mg base 33 "made" spMadeL) (C_less:Cal P w K mg base 1 "less" spLessL) (C_short_between:Cal P w K mg base 34 "short_between" spShort):FnOk P w K mg base CX0 35 f fd P_between (liftSp K spBetween):=by
 refine fn_D F sc_between (fun ds M Q ⟨a,b,c,d,e,_⟩=>by subst e;rfl) fun cdv A outer s H EE ds M Q hr h=>?_
 have nd:=sc_between.nd
 try (refine let_X ?_;intro X)
 obtain ⟨lo,hi,n,m,rfl,ol,oh,hN,q⟩:=h
 have hLB:LB=30000000:=rfl
 have one:∀ N:Nat,B (N+1) 1:=fun N=>B.up (m:=1) (by omega) (by unfold B;decide)
 have g1:∀ t:Int,Int.gcd t 1=1:=fun t=>by simp
 cases lo with
 | none =>
  cases hi with
  | none =>
   refine exs_cons ?_
   repeat tm_at "d"
   exact q 0 1 (by decide) (by decide) (by unfold B;exact Nat.pow_pos (by decide)) (B.up (by omega) (one 0)) (.inl ⟨by simp,by simp⟩) rfl
  | some h =>
   obtain ⟨r,rs⟩:=h
   obtain ⟨s1,br,bs⟩:0 < rs/\B n r/\B m rs:=oh _ rfl
   have ne:rs≠0:=by omega
   refine exs_cons ?_
   repeat tm_at "d"
   refine exs_cons ?_
   repeat tm_at "d"
   refine exs_cons ?_
   repeat first | tm_at "d" | (refine ⟨_,_,rfl,rfl,ne,?_⟩)
   have hup:=(fdiv_up (p:=-r) s1).1
   have bf:B n ((-r).fdiv rs):=B.le (fdiv_abs _ _) (B.neg br)
   generalize hgg:(-r).fdiv rs=g at *
   refine q (-g - 1) 1 (by decide) (g1 _) (B.up (by omega) (B.sub (m:=n+1) (B.up (by omega) (B.neg bf)) (one n))) (B.up (by omega) (one 0)) (.inl ⟨by simp,fun h eh=>?_⟩) (by rw [<- hgg];rfl)
   cases eh
   refine (rq_lt (p:=(-g - 1,1)) (q:=(r,rs)) (show (0:Int) < 1 by decide) s1).mpr ?_
   show (-g - 1) * rs < r * 1
   have:(-g - 1) * rs=-((g+1) * rs):=by grind
   omega
 | some l =>
  obtain ⟨p,pq⟩:=l
  obtain ⟨q1,bp,bq⟩:0 < pq/\B n p/\B m pq:=ol _ rfl
  have ne:pq≠0:=by omega
  cases hi with
  | none =>
   refine exs_cons ?_
   repeat tm_at "d"
   refine exs_cons ?_
   repeat first | tm_at "d" | (refine ⟨_,_,rfl,rfl,ne,?_⟩)
   have hup:=(fdiv_up (p:=p) q1).1
   have bf:B n (p.fdiv pq):=B.le (fdiv_abs _ _) bp
   generalize hgg:p.fdiv pq=g at *
   refine q (g+1) 1 (by decide) (g1 _) (B.up (by omega) (B.add (m:=n+1) (B.up (by omega) bf) (one n))) (B.up (by omega) (one 0)) (.inl ⟨fun l el=>?_,by simp⟩) (by rw [<- hgg];rfl)
   cases el
   refine (rq_lt (p:=(p,pq)) (q:=(g+1,1)) q1 (show (0:Int) < 1 by decide)).mpr ?_
   show p * 1 < (g+1) * pq
   omega
  | some h =>
   obtain ⟨r,rs⟩:=h
   obtain ⟨s1,br,bs⟩:0 < rs/\B n r/\B m rs:=oh _ rfl
   refine exs_cons ?_
   repeat tm_at "d"
   refine exs_cons ?_
   repeat tm_at "d"
   refine exs_cons ?_
   repeat tm_at "d"
   refine exs_cons ?_
   repeat tm_at "d"
   refine ⟨p,pq,r,rs,rfl,B.up (by omega) bp,B.up (by omega) bq,B.up (by omega) br,B.up (by omega) bs,?_⟩
   repeat tm_at "d"
   refine ifN ?_ ?_
   ·intro z
    repeat tm_at "d"
    refine ⟨p,pq,rfl,ne,B.up (by omega) bp,B.up (by omega) bq,?_⟩
    have er:rq (tp p pq,bt p pq)=rq (p,pq):=rq_made ne
    refine q _ _ (bt_pos ne) (coprime ne) (B.le (tp_le ne) (B.up (by omega) bp)) (B.le (bt_le ne) (B.up (by omega) bq)) (.inr ⟨(p,pq),(r,rs),rfl,rfl,er,?_⟩) (.inr ⟨z,rfl⟩)
    refine (rq_le (p:=(r,rs)) (q:=(p,pq)) s1 q1).mpr ?_
    show r * pq<=p * rs
    omega
   ·intro z
    repeat tm_at "d"
    refine ⟨(p,pq),(r,rs),n,m,rfl,ol,oh,hN,z,fun t b h1 h2 h3 h4 h5 h6 h7=>?_⟩
    exact q t b h1 h2 h3 h4 (.inl ⟨fun l el=>by cases el;exact h5,fun h eh=>by cases eh;exact h6⟩) (.inl ⟨z,h7⟩)
end
section
variable {P:Program} {w:World} {K:PySem.W.Frag} {mg:Str->Option Value} {base:Heap} {f:Addr} {fd:FuncData}
local macro_rules | `(tactic| tm_at $s:str)=>namT ["stages", "names", "point", "index", "all_sides", "low", "high"] s
theorem ok_point_through (F:Fun K "point_through" "point_through" s_point_through f fd) (h_range:mg "range" = none) (h_len:mg "len" = none) (C_bound_of:Cal P w K mg base 3 "bound_of" spBound) (C_greatest_of:Cal P w K mg base 2 "greatest_of" spGreatest) (C_changed_sign:Cal P w K mg base 1 "changed_sign" spSign) (C_between:Cal P w K mg base 35 "between" spBetween):FnOk P w K mg base CX0 36 f fd P_point_through (liftSp K spThrough):=by
 refine fn_D F sc_point_through (fun ds M Q ⟨a,b,c,d,d2,e,_⟩=>by subst e;rfl) fun cdv A outer s H EE ds M Q hr h=>?_
 have nd:=sc_point_through.nd
 try (refine let_X ?_;intro X)
 obtain ⟨q0,p,qs,rows,ss,rfl,hq,hp,hql,hqs,h4,hnd,h8,hro,hnb,q⟩:=h
 refine exs_cons ?_
 repeat tm_at "d"
 intro d0 hd0
 refine exs_cons ?_
 with_reducible refine' ex_for_dd ?n0 ?n1 ?n2 ?_ ?n3 ?n4 ?n5 ?n6
 case n0=>exact PassesOwn.never
 case n1=>rfl
 case n2=>exact h_range
 case n3=>rfl
 case n4=>rfl
 case n5=>rfl
 case n6=>(intro _;rfl)
 repeat tm_at "d"
 refine ⟨_,_,rfl,Or.inl ⟨_,mset_old hd0 hp,rfl⟩,?_⟩
 rw [List.length_map]
 repeat tm_at "d"
 refine ⟨ss.length,fun i G' M'=>∃ (kvs:List (Str × D)) (r3 r4 r5 r6:Option D),G'=[some (.ref q0),some (.ref p),some (.ref d0),r3,r4,r5,r6]/\M' d0=some (.dic kvs)/\(kvs.map (·.1)).Nodup/\(∀ s,s∈kvs.map (·.1) ↔ s∈ss.drop (ss.length - i))/\(∀ s∈ss.drop (ss.length - i),HasT kvs (tb i) s)/\(∀ w∈stg rows (ss.take (ss.length - i)),Sat rows ss (valR kvs) (wv w))/\PtS rows ss i kvs/\Ext M M',rfl,by omega,
  ⟨[],none,none,none,none,rfl,mset_same,List.nodup_nil,by simp,by simp,fun w hw=>?_,rfl,ext_new hd0⟩,?_,?_⟩
 ·rw [Nat.sub_zero,List.take_length] at hw
  exact sat_last (stg_zero hw).1 (stg_zero hw).2 (hnb w hw)
 ·rintro i G' M' hi ⟨kvs,r3,r4,r5,r6,rfl,md,hkn,hkk,hhas,hsat,hpts,eM⟩
  obtain ⟨k,hk1⟩:∃ k,ss.length=k+1+i:=⟨ss.length - 1 - i,by omega⟩
  have ei:(ss.length:Int) - 1 - i=(k:Nat):=by omega
  have e1:ss.length - i=k+1:=by omega
  rw [ei]
  rw [e1] at hkk hhas hsat
  have hkl:k < ss.length:=by omega
  obtain ⟨s,hks⟩:∃ s,ss[k]?=some s:=⟨ss[k],List.getElem?_eq_getElem hkl⟩
  obtain ⟨a,hqa⟩:∃ a,qs[k]?=some a:=⟨qs[k]'(by omega),List.getElem?_eq_getElem (by omega)⟩
  have ha:=hqs k a hqa
  have h300:=stg_le (rows:=rows) (ss:=ss.take k) h8
  have hbd:=stg_bd (ss:=ss) hro k (by omega)
  have hz:=fun w (hw:w∈stg rows (ss.take k))=>stg_zero hw
  have hT:=tb_le (i:=i) (by omega)
  have bc:∀ w∈stg rows (ss.take k),∀ s,B 710 (sumC rows w s):=fun w hw s=>B.up (sB_le (by omega)) (hbd.c w hw s)
  have bb:∀ w∈stg rows (ss.take k),B 710 (sumB rows w):=fun w hw=>B.up (sB_le (by omega)) (hbd.b w hw)
  have bbn:∀ w∈stg rows (ss.take k),B (3 * tb i+4 * 710+9) (bnd kvs rows ss k s w).1/\B (3 * tb i+710+1) (bnd kvs rows ss k s w).2:=fun w hw=>bnd_B (T:=tb i) (S:=710) h4 hhas (bc w hw) (bb w hw)
  have hLB:LB=30000000:=rfl
  generalize hst:stg rows (ss.take k)=st at *
  tm_at "gvn"
  refine exs_cons ?_
  with_reducible refine' ex_comp_list 4 (own:=["row"]) (js:=[]) (N:=["row"]) (cl:=[]) ?T ?xe ?ca ?hN ?hj ?hy ?hyf ?hsw sideOf (fun _=>true) ?_ ?hs
  case T=>exact compOk_plain (by decide +kernel) (by decide +kernel) rfl (by decide +kernel) rfl
  case xe=>rfl
  case ca=>rfl
  case hN=>exact nd
  case hj=>rfl
  case hy=>first | exact Or.inl rfl | exact Or.inr rfl
  case hyf=>exact .inl rfl
  case hsw=>rfl
  case hs=>(intro _;rfl)
  repeat tm_at "d"
  refine ix_al (d:=.ref a) (eM _ _ hq) (atK (by rw [List.getElem?_map,hqa];rfl)) ?_
  refine ⟨a,_,rfl,Or.inl (eM _ _ ha),small (by rw [List.length_map];omega),?_,fun p1 hp1=>?_⟩
  ·rintro Y ⟨C',s',H',fp,rfl⟩ M4 hM d hd
   obtain ⟨x,hx,rfl⟩:=List.mem_map.mp hd
   refine gv_name 0 (by show (["row"] : List Str).Nodup;decide +kernel) ?_
   refine ⟨rfl,fun i d e=>by rcases i with _ | i<;>simp [compG] at e,tvs_nil ⟨rfl,rfl⟩,fun _=>?_⟩
   repeat first | (refine ev_var 0 ?_) | tm_at "d"
   exact ⟨rfl,rfl⟩
  rw [sideOf_map]
  have x1:=ext_new (o:=.lst (st.map (sdD rows ss))) hp1
  have m1:mset M' p1 (.lst (st.map (sdD rows ss))) p1=_:=mset_same
  generalize mset M' p1 (.lst (st.map (sdD rows ss)))=M1 at x1 m1 ⊢
  have nd4:(["sides", "names", "index", "point"] : List Str).Nodup:=by decide +kernel
  repeat tm_at "d"
  with_reducible refine' ev_compLF (own:=["sides"]) (js:=[1,3,2]) (N:=["sides", "names", "index", "point"]) ?T ?xe ?ca ?_ ?hs
  case T=>exact compOk_freeB (fs:=["names", "index", "point"]) rfl (by decide +kernel) (by decide +kernel) rfl rfl rfl rfl rfl
  case xe=>rfl
  case ca=>rfl
  case hs=>(intro _;rfl)
  repeat tm_at "d"
  refine ⟨p1,st.map (sdD rows ss),fun q2 j acc M2=>acc=(((st.take j).filter fun w=>decide (0 < sumC rows w s)).map (bnd kvs rows ss k s)).map frP/\M1 q2=none/\Ext M1 M2,rfl,m1,fun q2 j acc M2 ⟨_,_,x2⟩=>x2 _ _ m1,fun q2 hq2=>⟨by simp,hq2,ext_new hq2⟩,?_,?_⟩
  ·rintro Y ⟨C',s',H',fp,rfl⟩ q2 j acc M2 d hd ⟨rfl,hq2,x2⟩ hacc
   rw [List.getElem?_map] at hd
   obtain ⟨w1,hw1,rfl⟩:=Option.map_eq_some_iff.mp hd
   have hwm:=List.mem_of_getElem? hw1
   have es:=filt_snoc (fun w=>decide (0 < sumC rows w s)) (bnd kvs rows ss k s) hw1
   refine gv_name 0 nd4 ?_
   refine ⟨rfl,fun i d e=>?_,?_⟩
   ·rcases i with _ | i
    ·simp [compG] at e
    ·exact e
   refine tvs_one ?_
   repeat first | (refine ev_var 0 ?_) | (refine ev_var 2 ?_) | tm_at "d"
   refine ix_at (atK (side_at (rows:=rows) w1 hks)) ?_
   repeat tm_at "d"
   refine ⟨rfl,?_⟩
   refine ifD ?_ ?_
   ·intro z
    have z:0 < sumC rows w1 s:=z
    rw [if_pos (decide_eq_true z)] at es
    repeat first | (refine ev_var 0 ?_) | (refine ev_var 1 ?_) | (refine ev_var 2 ?_) | (refine ev_var 3 ?_) | tm_at "d"
    refine ⟨rows,ss,w1,p,d0,k,tb i,s,kvs,rfl,x2 _ _ (x1 _ _ (eM _ _ hp)),x2 _ _ (x1 _ _ md),hks,h4,by omega,hhas,bc w1 hwm,bb w1 hwm,fun M3 x3=>?_⟩
    refine ⟨x3 _ _ hacc,small1000 ?_,?_,hq2,?_⟩
    ·simp only [List.length_map]
     have:=List.length_filter_le (fun w=>decide (0 < sumC rows w s)) (st.take j)
     rw [List.length_take] at this
     omega
    ·rw [es,List.map_append];rfl
    ·intro b o e
     rw [mset_ne (ne_fresh e hq2)]
     exact x3 _ _ (x2 _ _ e)
   ·intro z
    have z:¬ 0 < sumC rows w1 s:=z
    rw [if_neg (by rw [decide_eq_false z];decide),List.append_nil] at es
    exact ⟨by rw [es],hq2,x2⟩
  rintro q2 acc M2 ⟨rfl,hq2,x2⟩ hacc
  rw [List.length_map,List.take_length] at hacc
  have bLo:∀ b∈(st.filter fun w=>decide (0 < sumC rows w s)).map (bnd kvs rows ss k s),B (3 * tb i+4 * 710+9) b.1/\B (3 * tb i+710+1) b.2:=fun b hb=>by
   obtain ⟨w1,hw1,rfl⟩:=List.mem_map.mp hb
   exact bbn w1 (List.mem_filter.mp hw1).1
  have bHi:∀ b∈(st.filter fun w=>decide (sumC rows w s < 0)).map (bnd kvs rows ss k s),B (3 * tb i+4 * 710+9) b.1/\B (3 * tb i+710+1) b.2:=fun b hb=>by
   obtain ⟨w1,hw1,rfl⟩:=List.mem_map.mp hb
   exact bbn w1 (List.mem_filter.mp hw1).1
  repeat tm_at "d"
  refine ⟨q2,_,rfl,hacc,fun b hb=>⟨B.up (by omega) (bLo b hb).1,B.up (by omega) (bLo b hb).2⟩,?_⟩
  have xB:=Ext.trans x1 x2
  have m1b:=x2 _ _ m1
  clear hacc x1 x2 m1
  repeat tm_at "d"
  with_reducible refine' ev_compLF (own:=["sides"]) (js:=[1,3,2]) (N:=["sides", "names", "index", "point"]) ?T ?xe ?ca ?_ ?hs
  case T=>exact compOk_freeB (fs:=["names", "index", "point"]) rfl (by decide +kernel) (by decide +kernel) rfl rfl rfl rfl rfl
  case xe=>rfl
  case ca=>rfl
  case hs=>(intro _;rfl)
  repeat tm_at "d"
  refine ⟨p1,st.map (sdD rows ss),fun q3 j acc M3=>acc=(((st.take j).filter fun w=>decide (sumC rows w s < 0)).map (bnd kvs rows ss k s)).map frP/\M2 q3=none/\Ext M2 M3,rfl,m1b,fun q3 j acc M3 ⟨_,_,x3⟩=>x3 _ _ m1b,fun q3 hq3=>⟨by simp,hq3,ext_new hq3⟩,?_,?_⟩
  ·rintro Y ⟨C',s',H',fp,rfl⟩ q3 j acc M3 d hd ⟨rfl,hq3,x3⟩ hacc
   rw [List.getElem?_map] at hd
   obtain ⟨w1,hw1,rfl⟩:=Option.map_eq_some_iff.mp hd
   have hwm:=List.mem_of_getElem? hw1
   have es:=filt_snoc (fun w=>decide (sumC rows w s < 0)) (bnd kvs rows ss k s) hw1
   refine gv_name 0 nd4 ?_
   refine ⟨rfl,fun i d e=>?_,?_⟩
   ·rcases i with _ | i
    ·simp [compG] at e
    ·exact e
   refine tvs_one ?_
   repeat first | (refine ev_var 0 ?_) | (refine ev_var 2 ?_) | tm_at "d"
   refine ix_at (atK (side_at (rows:=rows) w1 hks)) ?_
   repeat tm_at "d"
   refine ⟨rfl,?_⟩
   refine ifD ?_ ?_
   ·intro z
    have z:sumC rows w1 s < 0:=z
    rw [if_pos (decide_eq_true z)] at es
    repeat first | (refine ev_var 0 ?_) | (refine ev_var 1 ?_) | (refine ev_var 2 ?_) | (refine ev_var 3 ?_) | tm_at "d"
    refine ⟨rows,ss,w1,p,d0,k,tb i,s,kvs,rfl,x3 _ _ (xB _ _ (eM _ _ hp)),x3 _ _ (xB _ _ md),hks,h4,by omega,hhas,bc w1 hwm,bb w1 hwm,fun M4 x4=>?_⟩
    refine ⟨x4 _ _ hacc,small1000 ?_,?_,hq3,?_⟩
    ·simp only [List.length_map]
     have:=List.length_filter_le (fun w=>decide (sumC rows w s < 0)) (st.take j)
     rw [List.length_take] at this
     omega
    ·rw [es,List.map_append];rfl
    ·intro b o e
     rw [mset_ne (ne_fresh e hq3)]
     exact x4 _ _ (x3 _ _ e)
   ·intro z
    have z:¬ sumC rows w1 s < 0:=z
    rw [if_neg (by rw [decide_eq_false z];decide),List.append_nil] at es
    exact ⟨by rw [es],hq3,x3⟩
  rintro q3 acc M3 ⟨rfl,hq3,x3⟩ hacc
  rw [List.length_map,List.take_length] at hacc
  repeat tm_at "d"
  refine ⟨q3,_,rfl,hacc,fun b hb=>⟨B.up (by omega) (bHi b hb).1,B.up (by omega) (bHi b hb).2⟩,?_⟩
  have xC:=Ext.trans xB x3
  have md3:=xC _ _ md
  repeat tm_at "d"
  refine ⟨_,rfl,?_⟩
  repeat tm_at "d"
  have pos:∀ w∈st,sumC rows w s≠0->0 < (bnd kvs rows ss k s w).2:=fun w hw hne=>(bnd_val hnd hks (hz w hw).1 (hz w hw).2 hhas hne).1
  have pLo:∀ b∈(st.filter fun w=>decide (0 < sumC rows w s)).map (bnd kvs rows ss k s),0 < b.2:=fun b hb=>by
   obtain ⟨w1,hw1,rfl⟩:=List.mem_map.mp hb
   have:=of_decide_eq_true (List.mem_filter.mp hw1).2
   exact pos w1 (List.mem_filter.mp hw1).1 (by omega)
  have pHi:∀ b∈(st.filter fun w=>decide (sumC rows w s < 0)).map (bnd kvs rows ss k s),0 < b.2:=fun b hb=>by
   obtain ⟨w1,hw1,rfl⟩:=List.mem_map.mp hb
   have:=of_decide_eq_true (List.mem_filter.mp hw1).2
   exact pos w1 (List.mem_filter.mp hw1).1 (by omega)
  have oLo:OkO (3 * tb i+4 * 710+9) (3 * tb i+710+1) (maxO ((st.filter fun w=>decide (0 < sumC rows w s)).map (bnd kvs rows ss k s)) none):=fun x ex=>by
   rcases ((maxO_some rfl pLo (f:=none) (by simp)).2 x ex).1 with y | y
   ·exact ⟨pLo x y,bLo x y⟩
   ·cases y
  have oHi:OkO (3 * tb i+4 * 710+9) (3 * tb i+710+1) ((maxO ((st.filter fun w=>decide (sumC rows w s < 0)).map (bnd kvs rows ss k s)) none).map negP):=fun x ex=>by
   obtain ⟨y,ey,rfl⟩:=Option.map_eq_some_iff.mp ex
   rcases ((maxO_some rfl pHi (f:=none) (by simp)).2 y ey).1 with z | z
   ·exact ⟨pHi y z,B.neg (bHi y z).1,(bHi y z).2⟩
   ·cases z
  refine ⟨_,_,_,_,rfl,oLo,oHi,by omega,fun t b hb hg bt' bb' hbtw hbr=>?_⟩
  have hbw:=btw_of (T:=tb i) hnd hks hz hhas hbtw
  have hbk:=back (x:=valR kvs) (v:=rq (t,b)) hnd hks (by exact hsat) (by rw [hst];exact hbw)
  have up:3 * tb i+4 * 710+9+4 * (3 * tb i+710+1)+4<=tb (i+1):=by show _<=15 * tb i+6000;omega
  repeat tm_at "d"
  refine ix_al (d:=.str s) (xC _ _ (eM _ _ hp)) (atK (by rw [List.getElem?_map,hks];rfl)) ?_
  have hlen:kvs.length < 1000:=by
   have:=len_sub hkn (m:=ss) fun x hx=>List.mem_of_mem_drop ((hkk x).mp hx)
   rw [List.length_map] at this
   omega
  refine set_dl md3 (small1000 (by omega)) ?_
  have e2:ss.length - (i+1)=k:=by omega
  have ed:ss.drop k=s :: ss.drop (k+1):=by
   obtain ⟨hi',he⟩:=List.getElem?_eq_some_iff.mp hks
   rw [List.drop_eq_getElem_cons hi',he]
  refine ⟨putD kvs s (fr t b),_,_,_,_,rfl,mset_same,nodup_put hkn,fun x=>?_,fun x hx=>?_,fun w hw=>?_,⟨kvs,t,b,k,s,hpts,hk1,hks,by rw [hst];exact hbr,rfl⟩,fun b o e=>?_⟩
  ·rw [e2,ed,mem_put,hkk,List.mem_cons]
   exact Or.comm
  ·rw [e2,ed] at hx
   exact HasT.put hb hg (B.up up bt') (B.up up bb') (tb_mono i) x ((List.mem_cons.mp hx).imp id fun h=>hhas x h)
  ·rw [e2] at hw
   rw [valR_put]
   exact hbk w hw
  ·rw [mset_ne (ne_fresh e hd0)]
   exact xC _ _ (eM _ _ e)
 ·rintro G' M' ⟨kvs,r3,r4,r5,r6,rfl,md,hkn,hkk,hhas,hsat,hpts,eM⟩
  rw [Nat.sub_self] at hkk hhas hsat
  repeat tm_at "d"
  exact q d0 kvs M' hd0 md ⟨hkn,hkk,fun s hs=>(hhas s hs).up (tb_up h4),fun w hw=>hsat w hw⟩ hpts eM
end
section
variable {P:Program} {w:World} {K:PySem.W.Frag} {mg:Str->Option Value} {base:Heap} {f:Addr} {fd:FuncData}
local macro_rules | `(tactic| tm_at $s:str)=>namT ["rows", "names", "stages", "index", "support", "weights", "sides"] s
theorem ok_met (F:Fun K "met" "met" s_met f fd) (h_range:mg "range" = none) (h_len:mg "len" = none) (C_names_in:Cal P w K mg base 1 "names_in" spNamesIn) (C_first_made:Cal P w K mg base 2 "first_made" spFirst) (C_without_name:Cal P w K mg base 3 "without_name" spWithout) (C_is_barred:Cal P w K mg base 1 "is_barred" spBarred) (C_point_through:Cal P w K mg base 36 "point_through" spThrough):FnOk P w K mg base CX0 37 f fd P_met (liftSp K spMet):=by
 refine fn_D F sc_met (fun ds M Q ⟨a,b,c,e,_⟩=>by subst e;rfl) fun cdv A outer s H EE ds M Q hr h=>?_
 have nd:=sc_met.nd
 try (refine let_X ?_;intro X)
 obtain ⟨l,rows,nm,rfl,hl,h8,hro,hnm,hnames,qw,qp⟩:=h
 refine exs_cons ?_
 repeat tm_at "d"
 refine ⟨l,rows,rfl,hl,by omega,fun r hr=>(hro r hr).len,fun p ss M1 hp hp1 hnd hsort h50 hmem e1=>?_⟩
 have h4:ss.length<=4:=Nat.le_trans (len_sub hnd fun x hx=>hnames x ((hmem x).mp hx)) hnm
 repeat tm_at "d"
 refine ⟨l,p,rows,ss,rfl,e1 _ _ hl,hp1,h8,hro,h50,fun q0 M2 hq0 m2 e2=>?_⟩
 repeat tm_at "d"
 intro s0 hs0
 have xA:=Ext.trans e1 e2
 have m2':mset M2 s0 (.lst [.ref q0]) q0=some (.lst ((firstL rows.length).map (mrD rows ss))):=mset_old hs0 m2
 refine exs_cons (ex_for_range PassesOwn.never rfl h_range ?_)
 repeat tm_at "d"
 refine ⟨_,_,rfl,Or.inl ⟨_,mset_old hs0 (e2 _ _ hp1),rfl⟩,?_⟩
 rw [List.length_map]
 repeat tm_at "d"
 refine ⟨_,fun i G' M'=>∃ (qs:List Addr) (r3:Option D),G'=[some (.ref l),some (.ref p),some (.ref s0),r3,none,none,none]/\M' s0=some (.lst (qs.map D.ref))/\qs.length=i+1/\(∀ (j:Nat) (a:Addr),qs[j]?=some a->a≠s0/\M' a=some (.lst ((stg rows (ss.take j)).map (mrD rows ss))))/\Ext M2 M',rfl,by omega,by omega,
  ⟨[q0],none,rfl,mset_same,rfl,fun j a hj=>?_,ext_new hs0⟩,?_,?_⟩
 ·rcases j with _ | j
  ·cases hj;exact ⟨ne_fresh m2 hs0,m2'⟩
  ·simp at hj
 ·rintro i G' M' hi ⟨qs,r3,rfl,ms,hql,hqs,eM⟩
  have hi:i < ss.length:=by omega
  obtain ⟨a,hqa⟩:∃ a,qs[i]?=some a:=⟨qs[i]'(by omega),List.getElem?_eq_getElem (by omega)⟩
  obtain ⟨s,hs⟩:∃ s,ss[i]?=some s:=⟨ss[i],List.getElem?_eq_getElem hi⟩
  have eq:qs=qs.take i++[a]:=by
   have:=take_snoc hqa
   rw [List.take_of_length_le (by omega)] at this
   exact this
  have h300:=stg_le (rows:=rows) (ss:=ss.take i) h8
  have en:nextL (fun w=>sumC rows w s) (stg rows (ss.take i))=stg rows (ss.take (i+1)):=by rw [take_snoc hs,stg_snoc]
  repeat tm_at "d"
  refine ⟨s0,rfl,⟨_,ms⟩,?_⟩
  repeat tm_at "d"
  refine ix_al (d:=.ref a) ms ?_ ?_
  ·rw [eq,List.map_append];exact atI_last _ _
  repeat tm_at "d"
  refine ⟨a,i,rows,ss,stg rows (ss.take i),s,rfl,(hqs i a hqa).2,hs,h50,h8,h300,by rw [en];exact stg_le h8,stg_mr hro (by omega) (by omega),fun a' M3 ha' m3 x3=>?_⟩
  rw [en] at m3
  have ms3:=x3 _ _ ms
  repeat tm_at "d"
  refine ⟨_,ms3,small1000 (by rw [List.length_map];omega),?_⟩
  have na':a'≠s0:=(ne_fresh ms ha').symm
  refine ⟨qs++[a'],_,rfl,by rw [mset_same,List.map_append];rfl,by rw [List.length_append,hql];rfl,fun j b hj=>?_,fun b o e=>?_⟩
  ·by_cases z:j < qs.length
   ·rw [List.getElem?_append_left z] at hj
    obtain ⟨n1,k1⟩:=hqs j b hj
    exact ⟨n1,by rw [mset_ne n1];exact x3 _ _ k1⟩
   ·have hjl:=(List.getElem?_eq_some_iff.mp hj).1
    rw [List.length_append] at hjl
    have ej:j=i+1:=by simp at hjl;omega
    subst ej
    rw [List.getElem?_append_right (by omega),hql,Nat.sub_self] at hj
    cases hj
    exact ⟨na',by rw [mset_ne na'];exact m3⟩
  ·rw [mset_ne (ne_fresh e hs0)]
   exact x3 _ _ (eM _ _ e)
 ·rintro G' M' ⟨qs,r3,rfl,ms,hql,hqs,eM⟩
  have eln:((ss.length:Nat):Int).toNat=ss.length:=Int.toNat_natCast _
  rw [eln] at hql
  obtain ⟨a,hqa⟩:∃ a,qs[ss.length]?=some a:=⟨qs[ss.length]'(by omega),List.getElem?_eq_getElem (by omega)⟩
  have eq:qs=qs.take ss.length++[a]:=by
   have:=take_snoc hqa
   rw [List.take_of_length_le (by omega)] at this
   exact this
  have ma:=(hqs ss.length a hqa).2
  rw [List.take_length] at ma
  have xB:=Ext.trans xA eM
  have hl1:=xB _ _ hl
  refine exs_cons ?_
  with_reducible refine' ex_for_list ?n0 ?n1 ?_ ?n2
  case n0=>exact PassesOwn.never
  case n1=>rfl
  case n2=>(intro _;rfl)
  repeat tm_at "d"
  refine ix_al (d:=.ref a) ms ?_ ?_
  ·rw [eq,List.map_append];exact atI_last _ _
  refine ⟨a,_,fun i G2 M2'=>∃ (r4 r5 r6:Option D),G2=[some (.ref l),some (.ref p),some (.ref s0),r3,r4,r5,r6]/\(∀ w∈(stg rows ss).take i,¬ barred rows w (sumB rows w)=true)/\Ext M' M2',rfl,Or.inl ma,⟨none,none,none,rfl,by simp,Ext.refl _⟩,?_,?_,?_⟩
  ·rintro i G2 M3 _ ⟨r4,r5,r6,rfl,_,x3⟩
   rw [ma];exact x3 _ _ ma
  ·rintro i d G2 M3 hd ⟨r4,r5,r6,rfl,hnb,x3⟩
   rw [List.getElem?_map] at hd
   obtain ⟨w1,hw1,rfl⟩:=Option.map_eq_some_iff.mp hd
   have hwm:=List.mem_of_getElem? hw1
   repeat tm_at "d"
   refine ix_at (d:=.int (sumB rows w1)) ?_ ?_
   ·unfold sides;rw [List.map_append];exact atI_last _ _
   repeat tm_at "d"
   refine ⟨l,rows,w1,sumB rows w1,rfl,x3 _ _ hl1,by omega,fun M4 x4=>?_⟩
   repeat tm_at "d"
   cases hb:barred rows w1 (sumB rows w1) with
   | true =>
    refine ifT ?_
    repeat tm_at "d"
    obtain ⟨g1,g2,g3⟩:=stg_good hmem hwm
    have bw:=stg_bd (ss:=ss) hro ss.length (Nat.le_refl _)
    rw [List.take_length] at bw
    exact qw ss w1 M4 ⟨hmem,hnd,hsort⟩ (find_take hw1 hnb hb) ⟨g1,g2,g3,hb⟩ (fun x hx=>B.up (wB_le h4) (bw.w w1 hwm x hx)) (Ext.trans xB (Ext.trans x3 x4))
   | false =>
    refine ifF ?_
    refine exs_nil ?_
    refine ⟨_,_,_,rfl,fun w hw=>?_,Ext.trans x3 x4⟩
    rw [take_snoc hw1] at hw
    rcases List.mem_append.mp hw with hw | hw
    ·exact hnb w hw
    ·rw [List.mem_singleton.mp hw,hb];decide
  ·rintro G2 M3 ⟨r4,r5,r6,rfl,hnb,x3⟩
   rw [List.length_map,List.take_length] at hnb
   have xC:=Ext.trans xB x3
   repeat tm_at "d"
   refine ⟨s0,p,qs,rows,ss,rfl,x3 _ _ ms,x3 _ _ (eM _ _ (e2 _ _ hp1)),hql,fun j b hj=>x3 _ _ (hqs j b hj).2,h4,hnd,h8,hro,hnb,fun d kvs M4 hd md hpt hpts x4=>?_⟩
   repeat tm_at "d"
   have hnev:¬ Never rows:=fun z=>by
    obtain ⟨w1,hw1,hb⟩:=(never_iff hmem).mpr z
    exact hnb w1 hw1 hb
   refine qp d ss kvs M4 hnev ?_ md ⟨hmem,hnd,hsort⟩ hpt hpts (Ext.trans xC x4)
   cases hMd:M d with
   | none=>rfl
   | some o=>have:=xC _ _ hMd;rw [hd] at this;cases this
end
section
variable {P:Program} {w:World} {K:PySem.W.Frag} {mg:Str->Option Value} {base:Heap} {f:Addr} {fd:FuncData}
local macro_rules | `(tactic| tm_at $s:str)=>namT ["_law_rows_here", "_law_purse", "_law_sums", "_law_bound", "_law_sort", "_law_row_here", "_law_many", "_law_name", "_law_weight", "_law_terms_here"] s
theorem ok_l_turned (F:Fun K "_law_turned" "_law_turned" s_l_turned f fd) (h_tuple:mg "tuple" = none) (hSorted:mg "sorted" = none) (C_l_take:Cal P w K mg base 1 "_law_take" spTake2):FnOk P w K mg base CX0 2 f fd P_l_turned (liftSp K spTurned3):=by
 refine fn_D F sc_l_turned (fun ds M Q ⟨a,b,c,d1,d2,d3,e,_⟩=>by subst e;rfl) fun cdv A outer s H EE ds M Q hr h=>?_
 have nd:=sc_l_turned.nd
 try (refine let_X ?_;intro X)
 obtain ⟨l,p,q0,rows,ss,n0,rfl,hl,hlp,h7,hss,hso,hro,pu,hn0,q⟩:=h
 refine exs_cons ?_
 repeat tm_at "d"
 intro d0 hd0
 have hpd:=pu.ne hd0
 have hld:l≠d0:=ne_fresh hl hd0
 repeat tm_at "d"
 refine exs_cons ?_
 with_reducible refine' ex_for_list ?n0 ?n1 ?_ ?n2
 case n0=>exact PassesOwn.never
 case n1=>rfl
 case n2=>(intro _;rfl)
 repeat tm_at "d"
 have hl1:mset M d0 (.dic []) l=some (.lst (rows.map KA.Row3.d)):=mset_old hd0 hl
 refine ⟨l,rows.map KA.Row3.d,fun i G' M'=>∃ (kvs:List (Str × D)) (b:Int) (k:Bool) (r5 r6 r7 r8:Option D),G'=[some (.ref l),some (.ref p),some (.ref d0),some (.int b),some (.str (word k)),r5,r6,r7,r8,none]/\M' d0=some (.dic kvs)/\DicOk kvs ss (5 * i)/\b.natAbs<=i * 2 ^ 72/\Pv M' p q0 (n0+2 * i)/\Kp [p] M M',rfl,Or.inl hl1,⟨[],0,true,none,none,none,none,rfl,mset_same,⟨List.nodup_nil,by simp⟩,Nat.zero_le _,pu.ext (ext_new hd0),Kp.new hd0⟩,?_,?_,?_⟩
 ·rintro i G' M' _ ⟨kvs,b,k,r5,r6,r7,r8,rfl,_,_,_,_,eM⟩
  rw [hl1];exact eM.at hl (by simp [hlp])
 ·rintro i x G' M' hx ⟨kvs,b,k,r5,r6,r7,r8,rfl,md,hdk,hb,pv,eM⟩
  rw [List.getElem?_map] at hx
  obtain ⟨r,hxr,rfl⟩:=Option.map_eq_some_iff.mp hx
  have hi:i < rows.length:=(List.getElem?_eq_some_iff.mp hxr).1
  obtain ⟨ht,hrb⟩:=hro r (List.mem_of_getElem? hxr)
  have i2:=Bd.of hrb
  have htl:=ht.len
  tm_at "gvn"
  refine exs_cons ?_
  repeat tm_at "d"
  refine ⟨p,q0,_,rfl,pv,by omega,fun c1 M1 hc1 pv1 k1=>?_⟩
  have bc1:=hc1.bd
  have md1:M1 d0=some (.dic kvs):=k1.at md (by simp [hpd.1.symm])
  have eM1:=eM.trans k1
  repeat tm_at "d"
  have h4:=fmod_lt (a:=c1) (b:=4) (by decide)
  generalize c1.fmod 4=w0 at h4 ⊢
  have wo:B 3 w0:=by unfold B;show _ < 8;omega
  have i1:=Bd.of wo
  refine exs_cons (ex_for_tup PassesOwn.never rfl ?_)
  repeat tm_at "d"
  refine ⟨r.ts.map KA.tD,fun j G2 M2=>∃ (kvs2:List (Str × D)) (r7 r8:Option D),G2=[some (.ref l),some (.ref p),some (.ref d0),some (.int b),some (.str (word k)),some r.d,some (.int w0),r7,r8,none]/\M2 d0=some (.dic kvs2)/\DicOk kvs2 ss (5 * i+j)/\Pv M2 p q0 (n0+2 * i+1)/\Kp [p] M M2,rfl,
    ⟨kvs,_,_,rfl,md1,hdk,pv1,eM1⟩,?_,?_⟩
  ·rintro j d2 G2 M2 hd2 ⟨kvs2,r7,r8,rfl,md2,hdk2,pv2,eM2⟩
   rw [List.getElem?_map] at hd2
   obtain ⟨t,ht2,rfl⟩:=Option.map_eq_some_iff.mp hd2
   have hjl:j < r.ts.length:=(List.getElem?_eq_some_iff.mp ht2).1
   have htm:=List.mem_of_getElem? ht2
   have i3:=Bd.of (ht.wt t htm).2
   have hkl:=hdk2.len
   unfold KA.tD
   repeat tm_at "d"
   with_reducible refine' ev_dget2 ?n0 ?_ ?n1
   case n0=>exact hr.units
   case n1=>exact ⟨rfl,rfl,rfl,rfl⟩
   repeat tm_at "d"
   refine ⟨d0,rfl,⟨_,md2⟩,?_⟩
   repeat tm_at "d"
   refine ⟨t.1,kvs2,rfl,md2,?_⟩
   rw [(hdk2.get t.1).1]
   repeat tm_at "d"
   refine set_dl md2 (small1000 (by omega)) ?_
   refine ⟨putD kvs2 t.1 (.int (vI kvs2 t.1 - w0 * t.2)),_,_,rfl,mset_same,hdk2.put (ht.sub.subset (List.mem_map.mpr ⟨t,htm,rfl⟩)) (step72 (hdk2.get t.1).2 (B.up (by decide) (B.mul wo (ht.wt t htm).2))) (by omega),pv2.put hpd,fun b o hbn e=>by rw [mset_ne (ne_fresh e hd0)];exact eM2 _ _ hbn e⟩
  ·rintro G2 M2 ⟨kvs2,r7,r8,rfl,md2,hdk2,pv2,eM2⟩
   rw [List.length_map] at hdk2
   have hdk3:DicOk kvs2 ss (5 * (i+1)):=hdk2.mono (by omega)
   have hb3:(b - w0 * r.b).natAbs<=(i+1) * 2 ^ 72:=step72 hb (B.up (by decide) (B.mul wo hrb))
   repeat tm_at "d"
   refine ifD ?_ ?_
   ·intro _
    repeat tm_at "d"
    refine ifD ?_ ?_
    ·intro _
     repeat tm_at "d"
     refine ⟨p,q0,_,rfl,pv2,by omega,fun c3 M3 hc3 pv3 k3=>?_⟩
     have bc3:=hc3.bd
     have md3:M3 d0=some (.dic kvs2):=k3.at md2 (by simp [hpd.1.symm])
     repeat tm_at "d"
     refine ifD ?_ ?_
     ·intro _
      repeat tm_at "d"
      exact ⟨kvs2,_,false,_,_,_,_,rfl,md3,hdk3,hb3,pv3.up (by omega),eM2.trans k3⟩
     ·intro _
      refine exs_nil ?_
      exact ⟨kvs2,_,k,_,_,_,_,rfl,md3,hdk3,hb3,pv3.up (by omega),eM2.trans k3⟩
    ·intro _
     repeat tm_at "d"
     exact ⟨kvs2,_,k,_,_,_,_,rfl,md2,hdk3,hb3,pv2.up (by omega),eM2⟩
   ·intro _
    repeat tm_at "d"
    exact ⟨kvs2,_,k,_,_,_,_,rfl,md2,hdk3,hb3,pv2.up (by omega),eM2⟩
 ·rintro G' M' ⟨kvs,b,k,r5,r6,r7,r8,rfl,md,hdk,hb,pv,eM⟩
  rw [List.length_map] at hdk hb pv
  have hkl:=hdk.len
  refine exs_cons ?_
  with_reducible refine' ex_comp_list 9 (own:=["_law_name"]) (js:=[2]) (N:=["_law_name", "_law_sums"]) ?T ?xe ?ca ?hN ?hj ?hy ?hyf ?hsw (pairF kvs) (neP (vI kvs)) ?_ ?hs
  case T=>exact compOk_freeB (fs:=["_law_sums"]) rfl (by decide +kernel) (by decide +kernel) rfl rfl rfl rfl rfl
  case xe=>rfl
  case ca=>rfl
  case hN=>exact nd
  case hj=>rfl
  case hy=>first | exact Or.inl rfl | exact Or.inr rfl
  case hyf=>exact .inl rfl
  case hsw=>rfl
  case hs=>(intro _;rfl)
  with_reducible refine' ev_sortedD ?n0 ?n1 ?_ ?n2 ?n3 ?n4
  case n0=>rfl
  case n1=>exact hSorted
  case n2=>rfl
  case n3=>rfl
  case n4=>rfl
  repeat tm_at "d"
  refine ⟨d0,kvs,rfl,md,by omega,fun p4 ss' hp4 hperm hsort=>?_⟩
  have hsl:ss'.length<=4:=by rw [hperm.length_eq,List.length_map];omega
  refine ⟨p4,ss'.map D.str,rfl,Or.inl mset_same,small (by rw [List.length_map];omega),?_,fun p5 hp5=>?_⟩
  ·rintro Y ⟨C',s',H',fp,rfl⟩ M4 hM d hd
   obtain ⟨x,hx,rfl⟩:=List.mem_map.mp hd
   have nd2:(["_law_name", "_law_sums"] : List Str).Nodup:=by decide +kernel
   have md4:M4 d0=some (.dic kvs):=hM _ _ (mset_old hp4 md)
   obtain ⟨d,hd,_⟩:=lkD_some (hperm.mem_iff.mp hx)
   have hdv:d=.int (vI kvs x):=by have:=(hdk.get x).1;rw [hd] at this;exact this
   subst hdv
   refine gv_name 0 nd2 ?_
   refine ⟨rfl,fun i d e=>?_,?_,fun _=>?_⟩
   ·rcases i with _ | i
    ·simp [compG] at e
    ·exact e
   ·refine tvs_one ?_
    repeat first | (refine ev_var 0 ?_) | (refine ev_var 1 ?_) | tm_at "d"
    refine ix_ad md4 hd ?_
    repeat tm_at "d"
    exact ⟨rfl,rfl⟩
   ·repeat first | (refine ev_var 0 ?_) | (refine ev_var 1 ?_) | tm_at "d"
    refine ix_ad md4 hd ?_
    repeat tm_at "d"
    exact ⟨rfl,rfl⟩
  rw [turned_map]
  repeat tm_at "d"
  refine ⟨_,rfl,_,mset_same,?_⟩
  repeat tm_at "d"
  refine ⟨p,q0,_,rfl,(pv.ext (ext_new hp4)).ext (ext_new hp5),by omega,fun c3 M3 hc3 pu3 k3=>?_⟩
  have bc3:=hc3.bd
  repeat tm_at "d"
  have h3:=fmod_lt (a:=c3) (b:=3) (by decide)
  generalize c3.fmod 3=m3 at h3 ⊢
  have hbb:B 80 (b+m3 - 1):=by
   have e1:(2:Nat) ^ 72=4722366482869645213696:=by decide +kernel
   have e2:(2:Nat) ^ 80=1208925819614629174706176:=by decide +kernel
   unfold B
   rw [e1] at hb;rw [e2];omega
  have kk:Kp [p] M M3:=eM.trans ((Kp.new hp4).trans ((Kp.new hp5).trans k3))
  exact q ⟨k,turnedT kvs ss',b+m3 - 1⟩ M3 (hdk.r80 hso hss (by omega) hperm hbb k) (pu3.up (by omega)) kk
end
section
variable {P:Program} {w:World} {K:PySem.W.Frag} {mg:Str->Option Value} {base:Heap} {f:Addr} {fd:FuncData}
local macro_rules | `(tactic| tm_at $s:str)=>namT ["_law_top", "_law_low", "_law_one", "_law_other"] s
local macro_rules | `(tactic| tm_at "d")=>`(tactic| ((with_reducible refine' ev_fdivL ?n0 ?n1 ?n2 ?n3 ?n4 ?n5 ?_);(case n0=>exact hT);(case n1=>exact hr);(case n2=>decide);(case n3=>rfl);(case n4=>rfl);(case n5=>rfl)))
local macro_rules | `(tactic| tm_at "go")=>`(tactic| repeat first | ((with_reducible show TV _ _ _ (Expr.Compare _ [CmpOp.Lt,CmpOp.Lt] _ _) _);refine tv_chain op_lt op_lt ?_) | ((with_reducible show TV _ _ _ (Expr.Compare _ [CmpOp.Gt,CmpOp.Gt] _ _) _);refine tv_chain op_gt op_gt ?_) | tm_at "d" | refine exs_cons ?_ | refine exs_nil ?_)
theorem ok_l_made (F:Fun K "_law_made" "_law_made" s_l_made f fd) (hT:P.given.tree=none):FnOk P w K mg base CX0 33 f fd P_l_made (liftSp K spMadeX):=by
 refine fn_D F sc_l_made (fun ds M Q ⟨a,b,e,_⟩=>by subst e;rfl) fun cdv A outer s H EE ds M Q hr h=>?_
 have nd:=sc_l_made.nd
 try (refine let_X ?_;intro X)
 obtain ⟨t,b,rfl,hb,q⟩:=h
 refine exs_cons (ex_par 2 3 rfl nd ?_ rfl)
 repeat tm_at "d"
 refine ⟨_,_,rfl,?_⟩
 refine exs_cons (ex_while (fun G' M'=>∃ x y:Int,G'=[some (.int t),some (.int b),some (.int x),some (.int y)]/\M'=M/\0<=y/\y<=b/\Int.gcd x y=Int.gcd t b/\(y=0->0 < x/\x<=b)) (fun G' _=>match G' with | [_,_,_,some (.int s)]=>s.toNat | _=>0) PassesOwn.never ⟨t,b,rfl,rfl,by omega,by omega,rfl,fun z=>by omega⟩ ?_)
 rintro G' M' ⟨x,y,rfl,rfl,hy,hyb,e,h0⟩
 repeat tm_at "d"
 refine ifN ?_ ?_
 ·intro hy0
  refine exs_one (ex_par 2 3 rfl nd ?_ rfl)
  repeat tm_at "d"
  refine ⟨_,_,rfl,?_⟩
  have hlt:=fmod_lt (a:=x) (b:=y) (by omega)
  refine ⟨⟨y,x.fmod y,rfl,rfl,hlt.1,by omega,?_,fun _=>⟨by omega,hyb⟩⟩,?_⟩
  ·rw [gcd_step (by omega)];exact e
  ·show (x.fmod y).toNat < y.toNat
   omega
 ·intro hy0
  subst hy0
  obtain ⟨x0,xb⟩:=h0 rfl
  have ex:x=(Int.gcd t b:Nat):=by rw [<- e,gcd_zero_right' (by omega)]
  have xn:x≠0:=by omega
  obtain ⟨t1,t2⟩:=tp_gcdL (t:=t) hb
  rw [t1,t2,<- ex] at q
  tm_at "go"
  refine ⟨_,_,rfl,rfl,Eq.mpr (if_neg (by rw [decide_eq_false (by omega)];decide)) ?_⟩
  tm_at "go"
  refine ⟨_,_,rfl,rfl,Eq.mpr (if_pos (by rw [decide_eq_true (by omega)])) ?_⟩
  tm_at "go"
  rw [decide_eq_false (by omega)]
  tm_at "go"
  refine ⟨_,_,rfl,rfl,xn,?_⟩
  tm_at "go"
  refine ⟨_,_,rfl,rfl,xn,?_⟩
  tm_at "go"
  exact q
local macro_rules | `(tactic| tm_at $s:str)=>namT ["_law_terms_here", "_law_whole_here", "_law_point", "_law_top", "_law_low", "_law_name", "_law_weight", "_law_value"] s
theorem ok_l_total (F:Fun K "_law_total" "_law_total" s_l_total f fd):FnOk P w K mg base CX0 1 f fd P_l_total (liftSp K spTotalL):=by
 refine fn_D F sc_l_total (fun ds M Q ⟨a,b,c,d,h,_⟩=>by subst h;rfl) fun cdv A outer s H EE ds M Q hr h=>?_
 have nd:=sc_l_total.nd
 try (refine let_X ?_;intro X)
 obtain ⟨ts,wh,d0,kvs,rfl,hd,h5,hall,bw,q⟩:=h
 refine exs_cons ?_
 repeat tm_at "d"
 refine exs_cons (ex_for_tup PassesOwn.never rfl ?_)
 repeat tm_at "d"
 refine ⟨ts.map KA.tD,fun i G' M'=>∃ r5 r6 r7:Option D,G'=[some (trm ts),some (.int wh),some (.ref d0),some (.int (addUp kvs (ts.take i) wh 1).1),some (.int (addUp kvs (ts.take i) wh 1).2),r5,r6,r7]/\M'=M,rfl,⟨none,none,none,rfl,rfl⟩,?_,?_⟩
 ·rintro i d G' M' hx ⟨r5,r6,r7,rfl,rfl⟩
  rw [List.getElem?_map] at hx
  obtain ⟨t,ht,rfl⟩:=Option.map_eq_some_iff.mp hx
  have hi5:i < ts.length:=(List.getElem?_eq_some_iff.mp ht).1
  obtain ⟨hh,bt'⟩:=hall t (List.mem_of_getElem? ht)
  obtain ⟨h1,_,_,bx,by'⟩:=hh.at
  obtain ⟨c1,c2⟩:=addUp_B4 (kvs:=kvs) (ts:=ts.take i) (wh:=wh) tb4 (by rw [List.length_take];omega) (fun u hu=>hall u (List.mem_of_mem_take hu)) bw
  have e:=addUp_snoc kvs t (ts.take i) wh 1
  rw [<- take_snoc ht] at e
  generalize (addUp kvs (ts.take i) wh 1).1=T at *
  generalize (addUp kvs (ts.take i) wh 1).2=U at *
  have i1:=Bd.of c1
  have i2:=Bd.of c2
  have i3:=Bd.of bt'
  have i4:=Bd.of (B.up tb4 bx)
  have i5:=Bd.of (B.up tb4 by')
  unfold KA.tD
  repeat tm_at "d"
  refine ix_ad hd h1 ?_
  repeat tm_at "d"
  exact ⟨_,_,_,by rw [e];rfl,rfl⟩
 ·rintro G' M' ⟨r5,r6,r7,rfl,rfl⟩
  rw [List.length_map,List.take_length]
  repeat tm_at "d"
  exact q
local macro_rules | `(tactic| tm_at $s:str)=>namT ["_law_row_here", "_law_point", "_law_top", "_law_low"] s
theorem ok_l_so (F:Fun K "_law_so" "_law_so" s_l_so f fd) (C_l_total:Cal P w K mg base 1 "_law_total" spTotalL):FnOk P w K mg base CX0 2 f fd P_l_so (liftSp K spSoL):=by
 refine fn_D F sc_l_so (fun ds M Q ⟨a,b,c,h,_⟩=>by subst h;rfl) fun cdv A outer s H EE ds M Q hr h=>?_
 have nd:=sc_l_so.nd
 try (refine let_X ?_;intro X)
 obtain ⟨r,d0,kvs,rfl,hd,ro,hall,hso,q⟩:=h
 have bb:B 84 (0 - r.b):=by rw [Int.zero_sub];exact B.neg ro.bb
 refine exs_cons ?_
 repeat tm_at "d"
 refine ⟨r.ts,0 - r.b,d0,kvs,rfl,hd,ro.len,fun t ht=>⟨hall t ht,ro.wt t ht⟩,bb,?_⟩
 obtain ⟨h1,h2⟩:=addUp_val (kvs:=kvs) (T:=tb 4) r.ts (0 - r.b) 1 hall (by decide)
 have ev:rq (addUp kvs r.ts (0 - r.b) 1)=tsum (valR kvs) r.ts - r.b:=by
  rw [h2]
  unfold rq
  show ((0 - r.b:Int):Rat) / ((1:Int):Rat)+_=_
  rw [Int.zero_sub,Rat.intCast_neg,show ((1:Int):Rat)=1 from rfl]
  grind
 unfold SoR at hso
 rw [<- ev] at hso
 generalize addUp kvs r.ts (0 - r.b) 1=AU at *
 obtain ⟨T,U⟩:=AU
 have h1:0 < U:=h1
 have s0:rq (0,1)=0:=by unfold rq;show ((0:Int):Rat) / ((1:Int):Rat)=0;rw [show ((0:Int):Rat)=0 from rfl];grind
 have p0:0<=T:=by
  have:=hso.1
  rw [<- s0,rq_le (p:=(0,1)) (q:=(T,U)) (show (0:Int) < 1 by decide) h1] at this
  have:(0:Int) * U<=T * 1:=this
  omega
 have p1:r.k=false->0 < T:=fun hk=>by
  have:=hso.2 hk
  rw [<- s0,rq_lt (p:=(0,1)) (q:=(T,U)) (show (0:Int) < 1 by decide) h1] at this
  have:(0:Int) * U < T * 1:=this
  omega
 repeat tm_at "d"
 by_cases c:T > 0
 ·refine ifDy c ?_
  exact q
 ·refine ifDn c ?_
  have ez:T=0:=by omega
  repeat tm_at "d"
  refine ifDy ez ?_
  repeat tm_at "d"
  cases hk:r.k with
  | true=>exact q
  | false=>exact absurd (p1 hk) c
local macro_rules | `(tactic| tm_at $s:str)=>namT ["_law_rows_here", "_law_point"] s
theorem ok_l_all_so (F:Fun K "_law_all_so" "_law_all_so" s_l_all_so f fd) (h_len:mg "len" = none) (C_l_so:Cal P w K mg base 2 "_law_so" spSoL):FnOk P w K mg base CX0 3 f fd P_l_all_so (liftSp K spAllSoL):=by
 refine fn_D F sc_l_all_so (fun ds M Q ⟨a,b,c,d,h,_⟩=>by subst h;rfl) fun cdv A outer s H EE ds M Q hr h=>?_
 have nd:=sc_l_all_so.nd
 try (refine let_X ?_;intro X)
 obtain ⟨l,rows,d0,kvs,rfl,hl,hd,h8,hall,q⟩:=h
 refine exs_one ?_
 repeat tm_at "d"
 with_reducible refine' ev_comp_list (own:=["_law_row_here"]) (js:=[1]) (N:=["_law_row_here", "_law_point"]) ?T ?xe ?ca (fun d=>d) (fun _=>false) ?_ ?hs
 case T=>exact compOk_freeB (fs:=["_law_point"]) rfl (by decide +kernel) (by decide +kernel) rfl rfl rfl rfl rfl
 case xe=>rfl
 case ca=>rfl
 case hs=>(intro _;rfl)
 repeat tm_at "d"
 refine ⟨l,_,rfl,Or.inl hl,small (by rw [List.length_map];omega),?_,fun q1 hq1=>?_⟩
 ·rintro Y ⟨C',s',H',fp,rfl⟩ M' hM d hd'
  obtain ⟨r,hr',rfl⟩:=List.mem_map.mp hd'
  obtain ⟨r1,r2,r3⟩:=hall r hr'
  have nd2:(["_law_row_here", "_law_point"] : List Str).Nodup:=by decide +kernel
  refine gv_name 0 nd2 ?_
  refine ⟨rfl,fun i d e=>?_,?_,fun z=>by cases z⟩
  ·rcases i with _ | i
   ·simp [compG] at e
   ·exact e
  ·refine tvs_one ?_
   repeat first | (refine ev_var 0 ?_) | (refine ev_var 1 ?_) | tm_at "d"
   refine ⟨r,d0,kvs,rfl,hM _ _ hd,r1,r3,r2,?_⟩
   repeat tm_at "d"
   exact ⟨rfl,rfl⟩
 ·have e0:((rows.map KA.Row3.d).filter fun _=>false).map (fun d=>d)=[]:=by rw [List.filter_eq_nil_iff.mpr (by simp)];rfl
  rw [e0]
  repeat tm_at "d"
  refine ⟨_,_,rfl,Or.inl ⟨_,mset_same,rfl⟩,?_⟩
  repeat tm_at "d"
  exact q _ (ext_new hq1)
end
section
variable {P:Program} {w:World} {K:PySem.W.Frag} {mg:Str->Option Value} {base:Heap} {f:Addr} {fd:FuncData}
local macro_rules | `(tactic| tm_at $s:str)=>namT ["_law_found"] s
theorem ok_l_whole (F:Fun K "_law_whole" "_law_whole" s_l_whole f fd) (h_isinstance:mg "isinstance" = none) (h_int:mg "int" = none) (h_bool:mg "bool" = none):FnOk P w K mg base CX0 1 f fd P_l_whole (liftSp K spWhole):=by
 refine fn_D F sc_l_whole (fun ds M Q ⟨a,e,_⟩=>by subst e;rfl) fun cdv A outer s H EE ds M Q hr h=>?_
 have nd:=sc_l_whole.nd
 try (refine let_X ?_;intro X)
 obtain ⟨n,rfl,q⟩:=h
 refine exs_one ?_
 repeat tm_at "d"
 refine ⟨_,_,_,_,rfl,rfl,kit_ii K,?_⟩
 repeat tm_at "d"
 refine ⟨_,_,_,_,rfl,rfl,kit_ib K,?_⟩
 repeat tm_at "d"
 exact q
local macro_rules | `(tactic| tm_at $s:str)=>namT ["_law_rows_here", "_law_weights", "_law_sums", "_law_bound", "_law_strict", "_law_row_here", "_law_many", "_law_name", "_law_weight"] s
theorem ok_l_weights_good (F:Fun K "_law_weights_good" "_law_weights_good" s_l_weights_good f fd) (h_isinstance:mg "isinstance" = none) (h_tuple:mg "tuple" = none) (h_len:mg "len" = none) (hZip:mg "zip" = none) (C_l_whole:Cal P w K mg base 1 "_law_whole" spWhole):FnOk P w K mg base CX0 2 f fd P_l_weights_good (liftSp K spShowsL):=by
 refine fn_D F sc_l_weights_good (fun ds M Q ⟨a,b,c,e,_⟩=>by subst e;rfl) fun cdv A outer s H EE ds M Q hr h=>?_
 have nd:=sc_l_weights_good.nd
 try (refine let_X ?_;intro X)
 obtain ⟨l,rows,ws,rfl,hl,h10,hro,hwo,h60,q⟩:=h
 refine exs_cons ?_
 repeat tm_at "d"
 refine ⟨_,_,_,_,rfl,rfl,kit_tt K,?_⟩
 repeat tm_at "d"
 refine ⟨_,_,rfl,rfl,?_⟩
 repeat tm_at "d"
 refine ⟨_,_,rfl,Or.inl ⟨_,hl,rfl⟩,?_⟩
 rw [List.length_map,List.length_map]
 repeat tm_at "d"
 refine ifN ?_ ?_
 ·intro hne
  repeat tm_at "d"
  have:=q M (Ext.refl M)
  rw [showsF (fun z=>hne (by rw [z.1]))] at this
  exact this
 intro heq
 have hlen:ws.length=rows.length:=by omega
 repeat tm_at "d"
 intro d0 hd0
 repeat tm_at "d"
 refine exs_cons ?_
 with_reducible refine' ex_for_zip false ?n0 ?n1 ?n2 ?_ ?n3 ?n4 ?n5 ?n6
 case n0=>exact PassesOwn.never
 case n1=>rfl
 case n2=>exact hZip
 case n3=>rfl
 case n4=>rfl
 case n5=>rfl
 case n6=>(intro _;rfl)
 repeat tm_at "d"
 have hl1:mset M d0 (.dic []) l=some (.lst (rows.map KA.Row3.d)):=mset_old hd0 hl
 refine ⟨.ref l,rows.map KA.Row3.d,ws.map D.int,fun i G' M'=>∃ (kvs:List (Str × D)) (r5 r6 r7 r8:Option D),G'=[some (.ref l),some (.tup (ws.map D.int)),some (.ref d0),some (.int (sumB (rows.take i) (ws.take i))),some (.bl (anyMore (rows.take i) (ws.take i))),r5,r6,r7,r8]/\M' d0=some (.dic kvs)/\Sums kvs (sumC (rows.take i) (ws.take i))/\kvs.length<=5 * i/\(∀ w∈ws.take i,0<=w)/\Ext M M',rfl,⟨l,rfl,hl1⟩,⟨[],none,none,none,none,by rw [List.take_zero,List.take_zero];rfl,mset_same,fun s=>rfl,by simp,by simp,ext_new hd0⟩,?_,?_,?_⟩
 ·rintro i G' M' _ ⟨kvs,r5,r6,r7,r8,rfl,_,_,_,_,eM⟩
  exact ⟨l,rfl,eM _ _ hl⟩
 ·rintro i x y G' M' hx hy ⟨kvs,r5,r6,r7,r8,rfl,md,hsu,hkl,hpos,eM⟩
  rw [List.getElem?_map] at hx hy
  cases hxr:rows[i]? with
  | none=>rw [hxr] at hx;cases hx
  | some r =>
  cases hyr:ws[i]? with
  | none=>rw [hyr] at hy;cases hy
  | some w0 =>
  rw [hxr] at hx;rw [hyr] at hy
  have hx:r.d=x:=by simpa using hx
  have hy:D.int w0=y:=by simpa using hy
  subst hx;subst hy
  have hi:i < rows.length:=(List.getElem?_eq_some_iff.mp hxr).1
  have ro:=hro r (List.mem_of_getElem? hxr)
  have wo:=hwo w0 (List.mem_of_getElem? hyr)
  have i1:=Bd.of wo
  have i2:=Bd.of ro.bb
  have tk1:rows.take (i+1)=rows.take i++[r]:=by rw [List.take_add_one,hxr];rfl
  have tk2:ws.take (i+1)=ws.take i++[w0]:=by rw [List.take_add_one,hyr];rfl
  have htl:(rows.take i).length=(ws.take i).length:=by rw [List.length_take,List.length_take,hlen]
  repeat tm_at "d"
  refine exs_cons ?_
  repeat tm_at "d"
  refine ⟨w0,rfl,?_⟩
  repeat tm_at "d"
  refine ifD ?_ ?_
  ·intro hneg
   repeat tm_at "d"
   have:=q M' eM
   rw [showsF (fun z=>by have:=z.2.1 w0 (List.mem_of_getElem? hyr);omega)] at this
   exact this
  intro hnn
  repeat tm_at "d"
  refine exs_cons (ex_for_tup PassesOwn.never rfl ?_)
  repeat tm_at "d"
  refine ⟨r.ts.map KA.tD,fun j G2 M2=>∃ (kvs2:List (Str × D)) (r7 r8:Option D),G2=[some (.ref l),some (.tup (ws.map D.int)),some (.ref d0),some (.int (sumB (rows.take i) (ws.take i))),some (.bl (anyMore (rows.take i) (ws.take i))),some r.d,some (.int w0),r7,r8]/\M2 d0=some (.dic kvs2)/\Sums kvs2 (fun s=>sumC (rows.take i) (ws.take i) s+w0 * cf (r.ts.take j) s)/\kvs2.length<=5 * i+j/\Ext M M2,rfl,
    ⟨kvs,_,_,rfl,md,hsu.congr fun s=>by show _=_+w0 * 0;omega,by omega,eM⟩,?_,?_⟩
  ·rintro j d2 G2 M2 hd2 ⟨kvs2,r7,r8,rfl,md2,hsu2,hkl2,eM2⟩
   rw [List.getElem?_map] at hd2
   cases ht2:r.ts[j]? with
   | none=>rw [ht2] at hd2;cases hd2
   | some t =>
    rw [ht2] at hd2
    have hd2:KA.tD t=d2:=by simpa using hd2
    subst hd2
    have htk2:r.ts.take (j+1)=r.ts.take j++[t]:=by rw [List.take_add_one,ht2];rfl
    have hjl:j < r.ts.length:=(List.getElem?_eq_some_iff.mp ht2).1
    have i3:=Bd.of (ro.wt t (List.mem_of_getElem? ht2))
    unfold KA.tD
    repeat tm_at "d"
    with_reducible refine' ev_dget2 ?n0 ?_ ?n1
    case n0=>exact hr.units
    case n1=>exact ⟨rfl,rfl,rfl,rfl⟩
    repeat tm_at "d"
    refine ⟨d0,rfl,⟨_,md2⟩,?_⟩
    repeat tm_at "d"
    refine ⟨t.1,kvs2,rfl,md2,?_⟩
    rw [hsu2 t.1]
    repeat tm_at "d"
    refine set_dl md2 (small1000 (by have:=ro.len;omega)) ?_
    refine ⟨putD kvs2 t.1 (.int (sumC (rows.take i) (ws.take i) t.1+w0 * cf (r.ts.take j) t.1+w0 * t.2)),_,_,rfl,mset_same,hsu2.put _ _ fun s=>?_,by have:=putD_len kvs2 t.1 (.int (sumC (rows.take i) (ws.take i) t.1+w0 * cf (r.ts.take j) t.1+w0 * t.2));omega,fun b o e=>by rw [mset_ne (ne_fresh e hd0)];exact eM2 _ _ e⟩
    rw [htk2,cf_append]
    show _+w0 * (_+((if t.1=s then t.2 else 0)+0))=_
    split
    ·rename_i z;subst z;rw [Int.add_zero,Int.mul_add];omega
    ·rw [Int.add_zero,Int.add_zero]
  ·rintro G2 M2 ⟨kvs2,r7,r8,rfl,md2,hsu2,hkl2,eM2⟩
   rw [List.length_map] at hkl2 hsu2
   rw [List.take_length] at hsu2
   repeat tm_at "d"
   have hsB:sumB (rows.take (i+1)) (ws.take (i+1))=sumB (rows.take i) (ws.take i)+w0 * r.b:=by rw [tk1,tk2,sumB_snoc htl]
   have hsC:∀ s,sumC (rows.take i) (ws.take i) s+w0 * cf r.ts s=sumC (rows.take (i+1)) (ws.take (i+1)) s:=fun s=>by rw [tk1,tk2,sumC_snoc htl]
   have hsM:anyMore (rows.take (i+1)) (ws.take (i+1))=(anyMore (rows.take i) (ws.take i) || (!r.k && decide (w0 > 0))):=by rw [tk1,tk2,anyMore_snoc htl]
   have hpos':∀ w∈ws.take (i+1),0<=w:=fun w hw=>by
    rw [tk2] at hw
    rcases List.mem_append.mp hw with hw | hw
    ·exact hpos w hw
    ·rw [List.mem_singleton.mp hw];omega
   have fin:∀ b,b=(anyMore (rows.take i) (ws.take i) || (!r.k && decide (w0 > 0)))->(∃ (kvs:List (Str × D)) (a5 a6 a7 a8:Option D),[some (D.ref l),some (.tup (ws.map D.int)),some (.ref d0),some (.int (sumB (rows.take i) (ws.take i)+w0 * r.b)),some (.bl b),some r.d,some (.int w0),r7,r8]=[some (.ref l),some (.tup (ws.map D.int)),some (.ref d0),some (.int (sumB (rows.take (i+1)) (ws.take (i+1)))),some (.bl (anyMore (rows.take (i+1)) (ws.take (i+1)))),a5,a6,a7,a8]/\M2 d0=some (.dic kvs)/\Sums kvs (sumC (rows.take (i+1)) (ws.take (i+1)))/\kvs.length<=5 * (i+1)/\(∀ w∈ws.take (i+1),0<=w)/\Ext M M2):=fun b hb=>by
    rw [hsB,hsM,<- hb]
    exact ⟨kvs2,_,_,_,_,rfl,md2,hsu2.congr hsC,by have:=ro.len;omega,hpos',eM2⟩
   cases ham:anyMore (rows.take i) (ws.take i) with
   | true =>
    refine ifT ?_
    exact fin true (by rw [ham];rfl)
   | false =>
    refine ifF ?_
    repeat tm_at "d"
    refine ifD ?_ ?_
    ·intro hm
     have hk:r.k=false:=by
      cases hk:r.k with
      | false=>rfl
      | true=>rw [hk] at hm;exact absurd hm (by decide)
     repeat tm_at "d"
     exact fin (decide (w0 > 0)) (by rw [ham,hk];rfl)
    ·intro hm
     have hk:r.k=true:=by
      cases hk:r.k with
      | true=>rfl
      | false=>rw [hk] at hm;exact absurd rfl hm
     exact fin false (by rw [ham,hk];rfl)
 ·rintro G' M' ⟨kvs,r5,r6,r7,r8,rfl,md,hsu,hkl,hpos,eM⟩
  have em:min (rows.map KA.Row3.d).length (ws.map D.int).length=rows.length:=by rw [List.length_map,List.length_map];omega
  rw [em] at hsu hkl hpos ⊢
  rw [List.take_length,<- hlen,List.take_length] at hsu ⊢
  rw [<- hlen,List.take_length] at hpos
  refine exs_cons ?_
  repeat tm_at "d"
  with_reducible refine' ev_comp_dic (own:=["_law_name"]) (js:=[2]) (N:=["_law_name", "_law_sums"]) ?T ?xe ?ca (fun d=>d) (neP (sumC rows ws)) ?_ ?hs
  case T=>exact compOk_freeB (fs:=["_law_sums"]) rfl (by decide +kernel) (by decide +kernel) rfl rfl rfl rfl rfl
  case xe=>rfl
  case ca=>rfl
  case hs=>(intro _;rfl)
  repeat tm_at "d"
  refine ⟨d0,kvs,rfl,md,small (by omega),fun o=>⟨?_,fun p6 hp6=>?_⟩⟩
  ·rintro Y ⟨C',s',H',fp,rfl⟩ M2 hM k hk
   have nd2:(["_law_name", "_law_sums"] : List Str).Nodup:=by decide +kernel
   have hd2:M2 d0=some (.rod o kvs):=hM _ _ mset_same
   obtain ⟨d,hd,_⟩:=lkD_some hk
   have hdv:d=.int (sumC rows ws k):=by have:=hsu k;rw [hd] at this;exact this
   subst hdv
   refine gv_name 0 nd2 ?_
   refine ⟨rfl,fun i d e=>?_,?_,fun _=>?_⟩
   ·rcases i with _ | i
    ·simp [compG] at e
    ·exact e
   ·refine tvs_one ?_
    with_reducible refine lt_ne ?n0 ?_
    case n0=>exact hr.units
    with_reducible refine' ev_ixF ?n0 ?_ ?n1
    case n0=>exact hr.units
    case n1=>(intro _ _;rfl)
    refine ev_var 1 ?_
    refine ev_var 0 ?_
    refine ⟨d0,o,kvs,k,_,rfl,rfl,hd2,hd,?_⟩
    repeat tm_at "d"
    exact ⟨rfl,rfl⟩
   ·refine ev_var 0 ?_
    exact ⟨rfl,rfl⟩
  repeat tm_at "d"
  refine ⟨_,_,rfl,Or.inl ⟨_,mset_same,rfl⟩,?_⟩
  have eA:Ext M (mset (mset M' d0 (.rod o kvs)) p6 (.lst (((kvs.map fun kv=>D.str kv.1).filter (neP (sumC rows ws))).map fun d=>d))):=fun b ob e=>by
   have h1:mset M' d0 (.rod o kvs) b=some ob:=by rw [mset_ne (ne_fresh e hd0)];exact eM _ _ e
   exact mset_old hp6 h1
  have hn:=hsu.none
  generalize (((kvs.map fun kv=>D.str kv.1).filter (neP (sumC rows ws))).map fun d=>d).length=n at hn ⊢
  generalize mset (mset M' d0 (.rod o kvs)) p6 (.lst (((kvs.map fun kv=>D.str kv.1).filter (neP (sumC rows ws))).map fun d=>d))=M6 at eA ⊢
  repeat tm_at "d"
  have q6:=q M6 eA
  refine ifD ?_ ?_
  ·intro hgt
   repeat tm_at "d"
   rw [showsF (fun z=>by have:=hn.mpr z.2.2.1;omega)] at q6
   exact q6
  ·intro hle
   rw [showsEq hlen hpos (hn.mp (by omega))] at q6
   unfold barred at q6
   rw [barred_law] at q6
   repeat tm_at "d"
   refine ifD ?_ ?_
   ·intro hb
    rw [decide_eq_true (show sumB rows ws > 0 from hb),Bool.true_or] at q6
    exact q6
   ·intro hb
    rw [decide_eq_false (show ¬ sumB rows ws > 0 from hb),Bool.false_or] at q6
    repeat tm_at "d"
    refine ifD ?_ ?_
    ·intro h0
     rw [decide_eq_true h0,Bool.true_and] at q6
     repeat tm_at "d"
     exact q6
    ·intro h0
     rw [decide_eq_false h0,Bool.false_and] at q6
     exact q6
end
section
variable {P:Program} {w:World} {K:PySem.W.Frag} {mg:Str->Option Value} {base:Heap} {f:Addr} {fd:FuncData}
local macro_rules | `(tactic| tm_at $s:str)=>namT ["_law_found"] s
theorem ok_l_is_fraction (F:Fun K "_law_is_fraction" "_law_is_fraction" s_l_is_fraction f fd) (h_isinstance:mg "isinstance" = none) (h_tuple:mg "tuple" = none) (h_len:mg "len" = none) (C_l_whole:Cal P w K mg base 1 "_law_whole" spWhole) (C_l_made:Cal P w K mg base 33 "_law_made" spMadeX):FnOk P w K mg base CX0 34 f fd P_l_is_fraction (liftSp K spFracL):=by
 refine fn_D F sc_l_is_fraction (fun ds M Q ⟨a,b,e,_⟩=>by subst e;rfl) fun cdv A outer s H EE ds M Q hr h=>?_
 have nd:=sc_l_is_fraction.nd
 try (refine let_X ?_;intro X)
 obtain ⟨a,b,rfl,hb,hg,q⟩:=h
 refine exs_cons ?_
 repeat tm_at "d"
 refine ⟨_,_,_,_,rfl,rfl,kit_tt K,?_⟩
 repeat tm_at "d"
 refine ⟨_,_,rfl,rfl,?_⟩
 repeat tm_at "d"
 refine ifNn rfl ?_
 repeat tm_at "d"
 refine ⟨a,rfl,?_⟩
 repeat tm_at "d"
 refine ⟨b,rfl,?_⟩
 repeat tm_at "d"
 refine ifDy hb ?_
 repeat tm_at "d"
 refine ⟨a,b,rfl,hb,?_⟩
 obtain ⟨e1,e2⟩:=made_is (t:=a) (b:=b) (x:=a) (y:=b) (by omega) hb hg rfl
 rw [e1,e2]
 repeat tm_at "d"
 refine eq_tt rfl rfl (Nat.le_of_ble_eq_true rfl) ?_
 rw [eq_fr,decide_eq_true rfl,decide_eq_true rfl]
 exact q
local macro_rules | `(tactic| tm_at $s:str)=>namT ["_law_rows_here", "_law_point", "_law_names_here", "_law_row_here", "_law_name", "_law_weight"] s
theorem ok_l_point_good (F:Fun K "_law_point_good" "_law_point_good" s_l_point_good f fd) (hIsi:mg "isinstance" = none) (hDict:mg "dict" = none) (hSorted:mg "sorted" = none) (C_l_is_fraction:Cal P w K mg base 34 "_law_is_fraction" spFracL) (C_l_all_so:Cal P w K mg base 3 "_law_all_so" spAllSoL):FnOk P w K mg base CX0 35 f fd P_l_point_good (liftSp K spPtGood):=by
 refine fn_D F sc_l_point_good (fun ds M Q ⟨a,b,c,d,d2,e,_⟩=>by subst e;rfl) fun cdv A outer s H EE ds M Q hr h=>?_
 have nd:=sc_l_point_good.nd
 try (refine let_X ?_;intro X)
 obtain ⟨l,rows,ss,d1,kvs,rfl,hl,hd,h8,hro,h4,hsrt,hpt,q⟩:=h
 refine exs_cons ?_
 repeat tm_at "d"
 intro d0 hd0
 have hld:l≠d0:=ne_fresh hl hd0
 refine exs_cons ?_
 with_reducible refine' ex_for_list ?n0 ?n1 ?_ ?n2
 case n0=>exact PassesOwn.never
 case n1=>rfl
 case n2=>(intro _;rfl)
 repeat tm_at "d"
 have hl1:mset M d0 (.dic []) l=some (.lst (rows.map KA.Row3.d)):=mset_old hd0 hl
 refine ⟨l,rows.map KA.Row3.d,fun i G' M'=>∃ (kn:List (Str × D)) (r3 r4 r5:Option D),G'=[some (.ref l),some (.ref d1),some (.ref d0),r3,r4,r5]/\M' d0=some (.dic kn)/\(kn.map (·.1)).Nodup/\(∀ s,s∈kn.map (·.1) ↔ Named (rows.take i) s)/\kn.length<=5 * i/\Ext M M',rfl,Or.inl hl1,⟨[],none,none,none,rfl,mset_same,List.nodup_nil,fun s=>by simp [Named],by simp,ext_new hd0⟩,?_,?_,?_⟩
 ·rintro i G' M' _ ⟨kn,r3,r4,r5,rfl,_,_,_,_,eM⟩
  rw [hl1];exact eM _ _ hl
 ·rintro i x G' M' hx ⟨kn,r3,r4,r5,rfl,mk,hkn,hkm,hkl,eM⟩
  rw [List.getElem?_map] at hx
  obtain ⟨r,hri,rfl⟩:=Option.map_eq_some_iff.mp hx
  have hi:i < rows.length:=(List.getElem?_eq_some_iff.mp hri).1
  have h5:=(hro r (List.mem_of_getElem? hri)).len
  have en:∀ s,Named (rows.take (i+1)) s ↔ Named (rows.take i) s\/s∈r.ts.map (·.1):=fun s=>by
   rw [take_snoc hri]
   constructor
   ·rintro ⟨r',h1,h2⟩
    rcases List.mem_append.mp h1 with h1 | h1
    ·exact .inl ⟨r',h1,h2⟩
    ·rw [List.mem_singleton.mp h1] at h2;exact .inr h2
   ·rintro (⟨r',h1,h2⟩ | h2)
    ·exact ⟨r',List.mem_append_left _ h1,h2⟩
    ·exact ⟨r,List.mem_append_right _ (List.mem_singleton.mpr rfl),h2⟩
  tm_at "gvn"
  refine exs_one (ex_for_tup PassesOwn.never rfl ?_)
  repeat tm_at "d"
  refine ⟨r.ts.map KA.tD,fun j G2 M2=>∃ (kn2:List (Str × D)) (r4 r5:Option D),G2=[some (.ref l),some (.ref d1),some (.ref d0),some r.d,r4,r5]/\M2 d0=some (.dic kn2)/\(kn2.map (·.1)).Nodup/\(∀ s,s∈kn2.map (·.1) ↔ Named (rows.take i) s\/s∈(r.ts.take j).map (·.1))/\kn2.length<=5 * i+j/\Ext M M2,rfl,
    ⟨kn,_,_,rfl,mk,hkn,fun s=>by rw [hkm];simp,hkl,eM⟩,?_,?_⟩
  ·rintro j d2 G2 M2 hd2 ⟨kn2,r4,r5,rfl,mk2,hkn2,hkm2,hkl2,eM2⟩
   rw [List.getElem?_map] at hd2
   obtain ⟨t,ht2,rfl⟩:=Option.map_eq_some_iff.mp hd2
   have hjl:j < r.ts.length:=(List.getElem?_eq_some_iff.mp ht2).1
   unfold KA.tD
   repeat tm_at "d"
   refine set_dl mk2 (small1000 (by omega)) ?_
   refine ⟨putD kn2 t.1 (.bl true),_,_,rfl,mset_same,nodup_put hkn2,fun s=>?_,by have:=putD_len kn2 t.1 (.bl true);omega,fun b o e=>by rw [mset_ne (ne_fresh e hd0)];exact eM2 _ _ e⟩
   rw [mem_put,hkm2,take_snoc ht2,List.map_append,List.mem_append]
   simp only [List.map_cons,List.map_nil,List.mem_singleton]
   exact or_assoc
  ·rintro G2 M2 ⟨kn2,r4,r5,rfl,mk2,hkn2,hkm2,hkl2,eM2⟩
   rw [List.length_map] at hkm2 hkl2
   rw [List.take_length] at hkm2
   exact ⟨kn2,_,_,_,rfl,mk2,hkn2,fun s=>by rw [hkm2,en],by omega,eM2⟩
 ·rintro G' M' ⟨kn,r3,r4,r5,rfl,mk,hkn,hkm,hkl,eM⟩
  rw [List.length_map,List.take_length] at hkm
  rw [List.length_map] at hkl
  have hkl4:kn.length<=4:=by
   have:=len_sub hkn (m:=ss) fun s hs=>(hsrt.mem s).mpr ((hkm s).mp hs)
   rw [List.length_map] at this
   omega
  have hvl4:kvs.length<=4:=by
   have:=len_sub hpt.nd (m:=ss) fun s hs=>(hpt.keys s).mp hs
   rw [List.length_map] at this
   omega
  have md:=eM _ _ hd
  refine exs_cons ?_
  refine ex_if ?_
  with_reducible refine TW.tv (tw_or ?_)
  with_reducible refine tv_not ?_
  with_reducible refine' tv_call ?_ ?h0
  case h0=>(intro _;rfl)
  with_reducible refine' ev_isiD ?n0 ?n1 ?_ ?n2 ?n3 ?n4 ?n5 ?n6
  case n0=>exact hIsi
  case n1=>exact hDict
  case n2=>rfl
  case n3=>rfl
  case n4=>rfl
  case n5=>rfl
  case n6=>rfl
  repeat tm_at "d"
  refine ⟨d1,kvs,rfl,md,?_⟩
  refine ⟨true,rfl,?_⟩
  refine ifNT ?_
  with_reducible refine tw_or1 ?_
  with_reducible refine' lxt_ne ?n0 ?_
  case n0=>exact hr.units
  with_reducible refine' ev_sortedD ?n0 ?n1 ?_ ?n2 ?n3 ?n4
  case n0=>rfl
  case n1=>exact hSorted
  case n2=>rfl
  case n3=>rfl
  case n4=>rfl
  repeat tm_at "d"
  refine ⟨d1,kvs,rfl,md,by omega,fun p4 s4 hp4 hperm4 hsort4=>?_⟩
  with_reducible refine' ev_sortedD ?n0 ?n1 ?_ ?n2 ?n3 ?n4
  case n0=>rfl
  case n1=>exact hSorted
  case n2=>rfl
  case n3=>rfl
  case n4=>rfl
  repeat tm_at "d"
  refine ⟨d0,kn,rfl,mset_old hp4 mk,by omega,fun p5 s5 hp5 hperm5 hsort5=>?_⟩
  have e45:s4=s5:=sort_one (hperm5.nodup_iff.mpr hkn) (hperm4.nodup_iff.mpr hpt.nd) (sort_leS hsort5) (sort_leS hsort4) fun z=>by
   rw [hperm4.mem_iff,hperm5.mem_iff,hpt.keys,hkm,hsrt.mem]
  have hso4:∀ s∈s4,PyData.strOk s=true:=fun s hs=>by
   obtain ⟨r,hr,hs⟩:=(hsrt.mem s).mp ((hpt.keys s).mp (hperm4.mem_iff.mp hs))
   obtain ⟨t,ht,rfl⟩:=List.mem_map.mp hs
   exact (hro r hr).ok t ht
  subst e45
  refine eqx_same (mset_old hp5 mset_same) mset_same (immL_of fun d hd=>by obtain ⟨s,hs,rfl⟩:=List.mem_map.mp hd;exact hso4 s hs) (depthAll_le (fun d hd=>by obtain ⟨s,hs,rfl⟩:=List.mem_map.mp hd;exact Nat.zero_le _)) ?_
  have x5:Ext M' (mset (mset M' p4 (.lst (s4.map D.str))) p5 (.lst (s4.map D.str))):=Ext.trans (ext_new hp4) (ext_new hp5)
  generalize mset (mset M' p4 (.lst (s4.map D.str))) p5 (.lst (s4.map D.str))=M5 at x5 ⊢
  have xA:=Ext.trans eM x5
  have md5:=x5 _ _ md
  repeat tm_at "d"
  refine exs_cons ?_
  refine ex_thaw (p:=d1) md5 ?_
  with_reducible refine' ex_for_dic ?n0 ?n1 ?_ ?n2
  case n0=>exact PassesOwn.never
  case n1=>rfl
  case n2=>(intro _;rfl)
  repeat tm_at "d"
  refine ⟨d1,kvs,fun o i G2 M2=>∃ r4:Option D,G2=[some (.ref l),some (.ref d1),some (.ref d0),r3,r4,r5]/\M2 d1=some (.rod o kvs)/\Kp [d1] M5 M2,rfl,md5,fun o=>⟨⟨_,rfl,mset_same,Kp.put (by simp)⟩,?_,?_,?_⟩⟩
  ·rintro i G2 M2 _ ⟨r4,rfl,hm,_⟩
   exact hm
  ·rintro i k d G2 M2 hkd ⟨r4',rfl,hm,kM⟩
   have hks:k∈kvs.map (·.1):=List.mem_map.mpr ⟨(k,d),List.mem_of_getElem? hkd,rfl⟩
   obtain ⟨a,b,h1,h2,h3,_,_⟩:=hpt.has k ((hpt.keys k).mp hks)
   tm_at "gvn"
   refine exs_one ?_
   refine ex_if ?_
   with_reducible refine tv_not ?_
   with_reducible refine' tv_call ?_ ?h0
   case h0=>(intro _;rfl)
   tm_at "cl"
   refine av_cons ?_ rfl
   with_reducible refine' ev_ixF ?n0 ?_ ?n1
   case n0=>exact hr.units
   case n1=>(intro _ _;rfl)
   repeat tm_at "d"
   refine ⟨d1,o,kvs,k,_,rfl,rfl,hm,h1,?_⟩
   repeat tm_at "d"
   refine ⟨a,b,rfl,h2,h3,?_⟩
   repeat tm_at "d"
   exact ⟨_,rfl,hm,kM⟩
  ·rintro G2 M2 ⟨r4',rfl,hm,kM⟩
   refine ⟨o,kvs,hm,?_⟩
   have xT:Ext M5 (mset M2 d1 (.dic kvs)):=fun b u e=>by
    by_cases z:b=d1
    ·subst z;rw [md5] at e;cases e;exact mset_same
    ·rw [mset_ne z];exact kM b u (by simp [z]) e
   have mdT:mset M2 d1 (.dic kvs) d1=some (.dic kvs):=mset_same
   generalize mset M2 d1 (.dic kvs)=MT at xT mdT ⊢
   have xB:=Ext.trans xA xT
   refine exs_one ?_
   refine ex_ret ?_
   tm_at "cl"
   repeat tm_at "d"
   refine ⟨l,rows,d1,kvs,rfl,xB _ _ hl,mdT,h8,fun r hr=>⟨hro r hr,hpt.row hsrt hr⟩,fun M6 x6=>?_⟩
   exact q M6 (Ext.trans xB x6)
end
section
variable {P:Program} {w:World} {K:PySem.W.Frag} {mg:Str->Option Value} {base:Heap} {f:Addr} {fd:FuncData}
local macro_rules | `(tactic| tm_at $s:str)=>namT ["_law_script", "_law_first", "_law_purse", "_law_names_here", "_law_rows_here"] s
theorem ok_l_handed (F:Fun K "_law_handed" "_law_handed" s_l_handed f fd) (h_range:mg "range" = none) (C_l_names:Cal P w K mg base 1 "_law_names" spNames) (C_l_row:Cal P w K mg base 3 "_law_row" spRow2) (C_l_take:Cal P w K mg base 1 "_law_take" spTake2) (C_l_turned:Cal P w K mg base 2 "_law_turned" spTurned3):FnOk P w K mg base CX0 4 f fd P_l_handed (liftSp K spHanded):=by
 refine fn_D F sc_l_handed (fun ds M Q ⟨a,b,e,_⟩=>by subst e;rfl) fun cdv A outer s H EE ds M Q hr h=>?_
 have nd:=sc_l_handed.nd
 try (refine let_X ?_;intro X)
 obtain ⟨l,ns,rfl,hl,h63,hcell,q⟩:=h
 refine exs_cons ?_
 repeat tm_at "d"
 refine exs_join (fun G' M'=>∃ c0:Int,G'=[some (.ref l),some (.int c0),none,none,none]/\Cell c0/\Ext M M') ?_ ?_
 ·refine ex_if ?_
  with_reducible refine' lxt_neR ?_ ?n0
  case n0=>exact hr.units
  repeat tm_at "d"
  intro p0 hp0
  refine ⟨l,p0,ns.map D.int,rfl,rfl,mset_old hp0 hl,mset_same,immL_of (fun d hd=>by obtain ⟨n,_,rfl⟩:=List.mem_map.mp hd;rfl),depthAll_le (fun d hd=>by obtain ⟨n,_,rfl⟩:=List.mem_map.mp hd;exact Nat.zero_le _),?_⟩
  cases ns with
  | nil =>
   refine ifF ?_
   repeat tm_at "d"
   exact ⟨0,rfl,Cell.of,ext_new hp0⟩
  | cons n r =>
   refine ifT ?_
   repeat tm_at "d"
   refine ix_ar (mset_old hp0 hl) (atI_nat (j:=0) rfl) ?_
   repeat tm_at "d"
   exact ⟨n,rfl,hcell n (List.mem_cons_self ..),ext_new hp0⟩
 rintro G' M1 ⟨c0,rfl,hc0,e1⟩
 have bc0:=hc0.bd
 refine exs_cons ?_
 repeat tm_at "d"
 refine ev_slice sl_list ?_
 repeat tm_at "d"
 refine ov_some ?_
 repeat tm_at "d"
 refine ov_some ?_
 repeat tm_at "d"
 refine rs_list rfl (Or.inr (e1 _ _ hl)) fun p1 hp1=>?_
 have ec:D3.cutD (ns.map D.int) (some 1) (some 63)=((ns.take 63).drop 1).map D.int:=cut_mid ns 1 63
 rw [ec]
 repeat tm_at "d"
 intro p2 hp2
 have pv2:Pv (mset (mset M1 p1 (.lst (((ns.take 63).drop 1).map D.int))) p2 (.lst [.ref p1,.int 0,.int c0])) p2 p1 0 :=
  ⟨(ns.take 63).drop 1,0,c0,mset_same,mset_old hp2 mset_same,ne_fresh (M:=mset M1 p1 (.lst (((ns.take 63).drop 1).map D.int))) mset_same hp2,by rw [List.length_drop,List.length_take];omega,fun x hx=>hcell x (List.mem_of_mem_take (List.mem_of_mem_drop hx)),hc0,by omega,by omega⟩
 generalize mset (mset M1 p1 (.lst (((ns.take 63).drop 1).map D.int))) p2 (.lst [.ref p1,.int 0,.int c0])=M2 at pv2 ⊢
 repeat tm_at "d"
 refine ⟨c0,rfl,hc0,fun ss M3 hss e3=>?_⟩
 refine add_tt (by simp) (small (by have:=hss.le;simp;omega)) ?_
 rw [show [D.str "A"]++ss.map D.str=(("A" : Str) :: ss).map D.str from rfl]
 have hs4:(("A" : Str) :: ss).length<=4:=by have:=hss.le;simp;omega
 have hsn:(("A" : Str) :: ss).Nodup:=by
  rw [List.nodup_cons]
  refine ⟨fun z=>?_,hss.nodup⟩
  obtain ⟨c,h1,h2,h3⟩:=hss.lett _ z
  have h4:(Str.cps "A").toList=[c]:=by rw [h3]
  have h5:(Str.cps "A").toList=[65]:=by decide +kernel
  rw [h5] at h4
  injection h4 with h4
  omega
 have hso:∀ x∈(("A" : Str) :: ss),PyData.strOk x=true:=fun x hx=>by
  rcases List.mem_cons.mp hx with rfl | hx
  ·decide +kernel
  ·exact (hss.lett x hx).ok
 generalize (("A" : Str) :: ss)=sa at hs4 hsn hso ⊢
 have pv3:=pv2.ext e3
 repeat tm_at "d"
 with_reducible refine' ex_compR 4 (own:=["_law_k"]) (js:=[2,3]) (N:=["_law_k", "_law_purse", "_law_names_here"]) ?T ?xe ?ca ?hm ?hN ?hj ?hy ?hyf ?hsw ?_ ?hg ?hse ?hs
 case T=>exact compOk_freeB (fs:=["_law_purse", "_law_names_here"]) rfl (by decide +kernel) (by decide +kernel) rfl rfl rfl rfl rfl
 case xe=>rfl
 case ca=>rfl
 case hm=>exact h_range
 case hN=>exact nd
 case hj=>rfl
 case hy=>first | exact Or.inl rfl | exact Or.inr rfl
 case hyf=>exact .inl rfl
 case hsw=>rfl
 case hg=>rfl
 case hse=>rfl
 case hs=>(intro _;rfl)
 repeat tm_at "d"
 have h8:=fmod_lt (a:=c0.fdiv 3) (b:=8) (by decide)
 generalize (c0.fdiv 3).fmod 8=m8 at h8 ⊢
 refine ⟨_,fun q2 i2 acc M5=>∃ rows:List KA.Row3,acc=rows.map KA.Row3.d/\rows.length=i2/\(∀ r∈rows,Terms sa r.ts/\B 64 r.b)/\M3 q2=none/\Pv M5 p2 p1 (6 * i2)/\Kp [p2] M3 M5,rfl,by omega,by omega,?_,?_,?_⟩
 ·intro q2 hq2
  exact ⟨[],rfl,rfl,by simp,hq2,pv3.ext (ext_new hq2),Kp.new hq2⟩
 ·rintro Y ⟨C',s',H',fp,rfl⟩ q2 i2 acc M5 hi2 ⟨rows,rfl,hrl,hrw,hq2,pv5,k5⟩ hacc
  refine gv_name 0 (by show (["_law_k", "_law_purse", "_law_names_here"] : List Str).Nodup;decide +kernel) ?_
  refine ⟨rfl,fun i d e=>?_,?_⟩
  ·rcases i with _ | i
   ·simp [compG] at e
   ·exact e
  repeat first | (refine ev_var 1 ?_) | (refine ev_var 2 ?_) | tm_at "d"
  refine ⟨p2,sa,p1,_,rfl,pv5,hs4,by omega,fun kk ts wb M6 ht bw pv6 k6=>?_⟩
  have hqp:=pv3.ne hq2
  refine ⟨k6.at hacc (by simp [hqp.1.symm]),small1000 (by rw [List.length_map];omega),rows++[⟨kk,ts,wb⟩],by rw [List.map_append];rfl,by rw [List.length_append,hrl];rfl,fun x hx=>?_,hq2,?_,?_⟩
  ·rcases List.mem_append.mp hx with hx | hx
   ·exact hrw x hx
   ·rw [List.mem_singleton.mp hx];exact ⟨ht,bw⟩
  ·exact pv6.put hqp
  ·intro b o hb e
   rw [mset_ne (ne_fresh e hq2)]
   exact k6 b o hb (k5 b o hb e)
 rintro q2 acc M5 ⟨rows,rfl,hrl,hrw,hq2,pv5,k5⟩ hacc
 have hr7:rows.length<=7:=by omega
 have hqp:=pv3.ne hq2
 have hqd:q2≠p2:=hqp.1.symm
 refine exs_join (fun G' M'=>∃ (rs:List KA.Row3),G'=[some (.ref l),some (.int c0),some (.ref p2),some (.tup (sa.map D.str)),some (.ref q2)]/\M' q2=some (.lst (rs.map KA.Row3.d))/\rs.length<=8/\(∀ r∈rs,R80 sa r)) ?_ ?_
 ·repeat tm_at "d"
  have h80:∀ r∈rows,R80 sa r:=fun r hr=>.terms hsn hs4 hso (hrw r hr).1 (hrw r hr).2
  refine ifD ?_ ?_
  ·intro _
   repeat tm_at "d"
   refine ⟨q2,rfl,⟨_,hacc⟩,?_⟩
   repeat tm_at "d"
   refine ⟨q2,p2,p1,rows,sa,_,rfl,hacc,hqd,by omega,hs4,hso,hrw,pv5,by omega,fun rT M7 hrT pv7 k7=>?_⟩
   have hacc7:M7 q2=some (.lst (rows.map KA.Row3.d)):=k7.at hacc (by simp [hqd])
   repeat tm_at "d"
   refine ⟨_,hacc7,small1000 (by rw [List.length_map];omega),?_⟩
   refine ⟨rows++[rT],rfl,by rw [mset_same,List.map_append];rfl,by rw [List.length_append];show _+1<=8;omega,fun r hr=>?_⟩
   rcases List.mem_append.mp hr with hr | hr
   ·exact h80 r hr
   ·rw [List.mem_singleton.mp hr];exact hrT
  ·intro _
   repeat tm_at "d"
   exact ⟨rows,rfl,hacc,by omega,h80⟩
 rintro G' M6 ⟨rs,rfl,m6,hrs,h80⟩
 have hro:∀ r∈rs,RowOk r:=fun r hr=>(h80 r hr).ok
 refine exs_cons ?_
 refine ex_if ?_
 with_reducible refine TW.tv (tw_and ?_)
 with_reducible refine' lt_eq ?n0 ?_
 case n0=>exact hr.units
 repeat tm_at "d"
 refine ifD ?_ ?_
 ·intro _
  with_reducible refine tw_and1 ?_
  with_reducible refine' lxt_ne ?n0 ?_
  case n0=>exact hr.units
  repeat tm_at "d"
  intro p0 hp0
  refine eqx_l (mset_old hp0 m6) mset_same (imm_rows hro) rfl (depth_rows _) ?_
  have m6':mset M6 p0 (.lst []) q2=some (.lst (rs.map KA.Row3.d)):=mset_old hp0 m6
  generalize mset M6 p0 (.lst [])=M7 at m6' ⊢
  cases rs with
  | nil =>
   refine ifNT ?_
   repeat tm_at "d"
   exact q q2 [] sa M7 m6' (by simp) h80 hs4
  | cons r0 rs =>
   refine ifNF ?_
   repeat tm_at "d"
   refine ev_slice sl_list ?_
   repeat tm_at "d"
   refine ev_slice sl_list ?_
   repeat tm_at "d"
   refine ov_none ?_
   refine ov_some ?_
   repeat tm_at "d"
   refine rs_list rfl (Or.inl m6') fun a5 ha5=>?_
   rw [show D3.cutD ((r0 :: rs).map KA.Row3.d) none (some 1)=((r0 :: rs).map KA.Row3.d).take 1 from cutT _ 1,<- List.map_take]
   have e5:mset M7 a5 (.lst (((r0 :: rs).take 1).map KA.Row3.d)) a5=_:=mset_same
   have m7:mset M7 a5 (.lst (((r0 :: rs).take 1).map KA.Row3.d)) q2=_:=mset_old ha5 m6'
   generalize mset M7 a5 (.lst (((r0 :: rs).take 1).map KA.Row3.d))=M8 at e5 m7 ⊢
   refine add_ll m7 e5 (small (by simp at hrs ⊢;omega)) fun a6 ha6=>?_
   rw [<- List.map_append]
   have e6:mset M8 a6 (.lst (((r0 :: rs)++(r0 :: rs).take 1).map KA.Row3.d)) a6=_:=mset_same
   generalize mset M8 a6 (.lst (((r0 :: rs)++(r0 :: rs).take 1).map KA.Row3.d))=M9 at e6 ⊢
   repeat tm_at "d"
   refine ov_none ?_
   refine ov_some ?_
   repeat tm_at "d"
   refine rs_list rfl (Or.inl e6) fun a7 ha7=>?_
   rw [show D3.cutD (((r0 :: rs)++(r0 :: rs).take 1).map KA.Row3.d) none (some 8)=(((r0 :: rs)++(r0 :: rs).take 1).map KA.Row3.d).take 8 from cutT _ 8,<- List.map_take]
   repeat tm_at "d"
   refine q a7 (((r0 :: rs)++(r0 :: rs).take 1).take 8) sa _ mset_same (by rw [List.length_take];omega) (fun r hr=>h80 r ?_) hs4
   rcases List.mem_append.mp (List.mem_of_mem_take hr) with hr | hr
   ·exact hr
   ·exact List.mem_of_mem_take hr
 ·intro _
  repeat tm_at "d"
  exact q q2 rs sa M6 m6 hrs h80 hs4
end
def spLaw:SpD:=fun ds M Q=>∃ (l:Addr) (ns:List Int),ds=[.ref l]/\M l=some (.ro (ns.map D.int))/\ns.length<=63/\(∀ n∈ns,Cell n)/\∀ M',Q (.bl true) M'
section
variable {P:Program} {w:World} {K:PySem.W.Frag} {mg:Str->Option Value} {base:Heap} {f:Addr} {fd:FuncData}
local macro_rules | `(tactic| tm_at $s:str)=>namT ["_law_script", "_law_rows_here", "_law_handed_here", "_law_found", "_law_kept"] s
theorem ok_law (F:Fun K "law" "law" s_law f fd) (h_list:mg "list" = none) (h_len:mg "len" = none) (h_isinstance:mg "isinstance" = none) (h_tuple:mg "tuple" = none) (h_dict:mg "dict" = none) (C_l_handed:Cal P w K mg base 4 "_law_handed" spHanded) (C_l_weights_good:Cal P w K mg base 2 "_law_weights_good" spShowsL) (C_l_point_good:Cal P w K mg base 35 "_law_point_good" spPtGood) (C_met:Cal P w K mg base 37 "met" spMet) :
  FnOk P w K mg base CX0 38 f fd P_law (liftSp K spLaw):=by
 refine fn_D F sc_law (fun ds M Q ⟨a,b,e,_⟩=>by subst e;rfl) fun cdv A outer s H EE ds M Q hr h=>?_
 have nd:=sc_law.nd
 try (refine let_X ?_;intro X)
 obtain ⟨l,ns,rfl,hl,h63,hcell,q⟩:=h
 refine exs_cons ?_
 repeat tm_at "d"
 refine ⟨l,ns,rfl,hl,h63,hcell,fun q2 rs sa M1 m1 h8 h80 hs4=>?_⟩
 have hro:∀ r∈rs,RowOk r:=fun r hr=>(h80 r hr).ok
 have hnm:=R80.named h80
 repeat tm_at "d"
 refine ⟨_,rfl,_,m1,fun h0 hh0=>?_⟩
 have x1:=ext_new (o:=.lst (rs.map KA.Row3.d)) hh0
 have e1:mset M1 h0 (.lst (rs.map KA.Row3.d)) h0=_:=mset_same
 have m2:=x1 _ _ m1
 generalize mset M1 h0 (.lst (rs.map KA.Row3.d))=M2 at x1 e1 m2 ⊢
 repeat tm_at "d"
 refine ⟨h0,rs,sa,rfl,e1,h8,hro,hs4,hnm,fun ss ws M3 hsrt hfind hgood hbw x3=>?_,fun d ss kvs M3 hnev hdn md hsrt hpt hpts x3=>?_⟩
 ·
  have m3:=x3 _ _ m2
  have e3:=x3 _ _ e1
  repeat tm_at "d"
  refine exs_cons ?_
  refine ex_if ?_
  with_reducible refine TW.tv (tw_or ?_)
  with_reducible refine tv_not ?_
  with_reducible refine' tv_call ?_ ?h0
  case h0=>(intro _;rfl)
  repeat tm_at "d"
  refine ⟨_,_,_,_,rfl,rfl,kit_tt K,?_⟩
  refine ⟨true,rfl,?_⟩
  refine ifNT ?_
  with_reducible refine tw_or ?_
  with_reducible refine' lt_ne ?n0 ?_
  case n0=>exact hr.units
  repeat tm_at "d"
  refine ⟨_,_,rfl,rfl,?_⟩
  repeat tm_at "d"
  refine ifNn rfl ?_
  with_reducible refine tw_or1 ?_
  with_reducible refine' lxt_ne ?n0 ?_
  case n0=>exact hr.units
  repeat tm_at "d"
  refine eqx_same e3 m3 (imm_rows hro) (depth_rows _) ?_
  repeat tm_at "d"
  refine exs_cons ?_
  repeat tm_at "d"
  refine ifDy rfl ?_
  refine exs_one ?_
  refine ex_ret ?_
  with_reducible refine ev_and ?_
  repeat tm_at "d"
  refine ⟨q2,rs,ws,rfl,m3,by omega,hro,hbw,by rw [hgood.1];omega,fun M4 x4=>?_⟩
  rw [showsT hgood]
  refine ⟨true,rfl,?_⟩
  refine ifT ?_
  with_reducible refine ev_one ?_
  with_reducible refine' ev_eqS ?n0 ?_
  case n0=>exact hr.units
  repeat tm_at "d"
  refine ⟨h0,rs,sa,rfl,x4 _ _ e3,h8,hro,hs4,hnm,fun ss' ws' M5 hsrt' hfind' hgood' hbw' x5=>?_,fun d' ss' kvs' M5 hnev' _ _ _ _ _ _=>absurd ⟨ws,hgood⟩ hnev'⟩
  obtain rfl:=hsrt.one hsrt'
  rw [hfind] at hfind'
  cases hfind'
  repeat tm_at "d"
  exact ⟨3,by decide,.tup (.cons (sm_s (by decide +kernel)) (.cons (.tup (sml_ints ws)) .nil)),q _⟩
 ·
  have m3:=x3 _ _ m2
  have e3:=x3 _ _ e1
  have hs4':ss.length<=4:=Nat.le_trans (len_sub hsrt.nd fun x hx=>hnm x ((hsrt.mem x).mp hx)) hs4
  repeat tm_at "d"
  refine exs_cons ?_
  refine ex_if ?_
  with_reducible refine TW.tv (tw_or ?_)
  with_reducible refine tv_not ?_
  with_reducible refine' tv_call ?_ ?h0
  case h0=>(intro _;rfl)
  repeat tm_at "d"
  refine ⟨_,_,_,_,rfl,rfl,kit_tt K,?_⟩
  refine ⟨true,rfl,?_⟩
  refine ifNT ?_
  with_reducible refine tw_or ?_
  with_reducible refine' lt_ne ?n0 ?_
  case n0=>exact hr.units
  repeat tm_at "d"
  refine ⟨_,_,rfl,rfl,?_⟩
  repeat tm_at "d"
  refine ifNn rfl ?_
  with_reducible refine tw_or1 ?_
  with_reducible refine' lxt_ne ?n0 ?_
  case n0=>exact hr.units
  repeat tm_at "d"
  refine eqx_same e3 m3 (imm_rows hro) (depth_rows _) ?_
  repeat tm_at "d"
  refine exs_cons ?_
  repeat tm_at "d"
  refine ifDn (by decide) ?_
  refine exs_nil ?_
  refine exs_cons ?_
  repeat tm_at "d"
  refine ifNn rfl ?_
  repeat tm_at "d"
  refine ⟨q2,rs,ss,d,kvs,rfl,m3,md,h8,hro,hs4',hsrt,hpt,fun M4 x4=>?_⟩
  have md4:=x4 _ _ md
  repeat tm_at "d"
  refine ⟨d,kvs,rfl,md4,fun k0 hk0=>?_⟩
  have nk:d≠k0:=ne_fresh md4 hk0
  have nh:h0≠k0:=ne_fresh (x4 _ _ e3) hk0
  have ndh:h0≠d:=fun z=>by rw [z] at e1;rw [hdn] at e1;cases e1
  have k1:mset M4 k0 (.dic kvs) k0=some (.dic kvs):=mset_same
  have d1:mset M4 k0 (.dic kvs) d=some (.dic kvs):=mset_old hk0 md4
  have hh1:mset M4 k0 (.dic kvs) h0=some (.lst (rs.map KA.Row3.d)):=mset_old hk0 (x4 _ _ e3)
  generalize mset M4 k0 (.dic kvs)=M5 at k1 d1 hh1 ⊢
  repeat tm_at "d"
  with_reducible refine' ev_dclear ?_ ?n1 ?n2
  case n1=>rfl
  case n2=>rfl
  repeat tm_at "d"
  refine ⟨d,kvs,rfl,d1,?_⟩
  have k2:mset M5 d (.dic []) k0=some (.dic kvs):=by rw [mset_ne nk.symm];exact k1
  have hh2:mset M5 d (.dic []) h0=some (.lst (rs.map KA.Row3.d)):=by rw [mset_ne ndh];exact hh1
  generalize mset M5 d (.dic [])=M6 at k2 hh2 ⊢
  refine exs_one ?_
  refine ex_ret ?_
  with_reducible refine' ev_eqS ?n0 ?_
  case n0=>exact hr.units
  repeat tm_at "d"
  refine ⟨h0,rs,sa,rfl,hh2,h8,hro,hs4,hnm,fun ss' ws' M7 _ _ hgood' _ _=>absurd ⟨ws',hgood'⟩ hnev,fun d' ss' kvs' M7 hnev' hdn' md' hsrt' hpt' hpts' x7=>?_⟩
  obtain rfl:=hsrt.one hsrt'
  obtain rfl:=hpts.det hpts'
  repeat tm_at "d"
  exact ⟨2,by decide,.tup (.cons (sm_s (by decide +kernel)) (.cons (.dic md' (x7 _ _ k2) hpt.imm) .nil)),q _⟩
theorem lawSp:LawSp spLaw:=fun l ns M Q h1 h2 h3 q=>⟨l,ns,rfl,h1,h2,h3,q⟩
end
end K51
namespace K51
open PySem PySem.Spec PyProof.Rows L2 D3 K01 KA
structure Txt (K:PySem.W.Frag):Prop where
 a_l_take:At K "_law_take" s_l_take
 a_l_number:At K "_law_number" s_l_number
 a_l_names:At K "_law_names" s_l_names
 a_l_terms:At K "_law_terms" s_l_terms
 a_l_row:At K "_law_row" s_l_row
 a_names_in:At K "names_in" s_names_in
 a_put_together:At K "put_together" s_put_together
 a_is_barred:At K "is_barred" s_is_barred
 a_sides_of:At K "sides_of" s_sides_of
 a_sure_steps:At K "sure_steps" s_sure_steps
 a_many_steps:At K "many_steps" s_many_steps
 a_common_divisor:At K "common_divisor" s_common_divisor
 a_made:At K "made" s_made
 a_first_made:At K "first_made" s_first_made
 a_is_needed:At K "is_needed" s_is_needed
 a_joined:At K "joined" s_joined
 a_without_name:At K "without_name" s_without_name
 a_must_have_names:At K "must_have_names" s_must_have_names
 a_added_up:At K "added_up" s_added_up
 a_less:At K "less" s_less
 a_bound_of:At K "bound_of" s_bound_of
 a_greatest_of:At K "greatest_of" s_greatest_of
 a_changed_sign:At K "changed_sign" s_changed_sign
 a_short_between:At K "short_between" s_short_between
 a_between:At K "between" s_between
 a_point_through:At K "point_through" s_point_through
 a_met:At K "met" s_met
 a_l_turned:At K "_law_turned" s_l_turned
 a_l_made:At K "_law_made" s_l_made
 a_l_total:At K "_law_total" s_l_total
 a_l_so:At K "_law_so" s_l_so
 a_l_all_so:At K "_law_all_so" s_l_all_so
 a_l_whole:At K "_law_whole" s_l_whole
 a_l_weights_good:At K "_law_weights_good" s_l_weights_good
 a_l_is_fraction:At K "_law_is_fraction" s_l_is_fraction
 a_l_point_good:At K "_law_point_good" s_l_point_good
 a_l_handed:At K "_law_handed" s_l_handed
 a_law:At K "law" s_law
 g_LEADING:∃ v,PySem.W.nsIn K mainGlobals "LEADING" = some (some v)/\RelV (.int 256) v
 g_LONG:∃ v,PySem.W.nsIn K mainGlobals "LONG" = some (some v)/\RelV (.int 8192) v
 z_len:PySem.W.nsIn K mainGlobals "len" = some none
 z_tuple:PySem.W.nsIn K mainGlobals "tuple" = some none
 z_sorted:PySem.W.nsIn K mainGlobals "sorted" = some none
 z_range:PySem.W.nsIn K mainGlobals "range" = some none
 z_list:PySem.W.nsIn K mainGlobals "list" = some none
 z_zip:PySem.W.nsIn K mainGlobals "zip" = some none
 z_any:PySem.W.nsIn K mainGlobals "any" = some none
 z_dict:PySem.W.nsIn K mainGlobals "dict" = some none
 z_max:PySem.W.nsIn K mainGlobals "max" = some none
 z_min:PySem.W.nsIn K mainGlobals "min" = some none
 z_abs:PySem.W.nsIn K mainGlobals "abs" = some none
 z_enumerate:PySem.W.nsIn K mainGlobals "enumerate" = some none
 z_isinstance:PySem.W.nsIn K mainGlobals "isinstance" = some none
 z_int:PySem.W.nsIn K mainGlobals "int" = some none
 z_bool:PySem.W.nsIn K mainGlobals "bool" = some none
theorem all_mk {P:Program} {w:World} {K:PySem.W.Frag} {h:Heap} {mg:Str->Option Value} {fa:Addr} (T:Txt K) (X:K.In h) (G:h.Ns mainGlobals mg) (hfa:mg "law" = some (.ref fa)) (hT:P.given.tree=none) :
  ∃ fd:FuncData,(∀ (s:Shared) (v:Value),BindsTo s fd ⟨[v],[]⟩ [("_law_script",v)])/\∀ base:Heap,K.In base->base.Ns mainGlobals mg->FnOk P w K mg base CX0 38 fa fd P_law (liftSp K spLaw):=by
 obtain ⟨f_l_take,d_l_take,F_l_take,m_l_take⟩:=T.a_l_take.get X G
 obtain ⟨f_l_number,d_l_number,F_l_number,m_l_number⟩:=T.a_l_number.get X G
 obtain ⟨f_l_names,d_l_names,F_l_names,m_l_names⟩:=T.a_l_names.get X G
 obtain ⟨f_l_terms,d_l_terms,F_l_terms,m_l_terms⟩:=T.a_l_terms.get X G
 obtain ⟨f_l_row,d_l_row,F_l_row,m_l_row⟩:=T.a_l_row.get X G
 obtain ⟨f_names_in,d_names_in,F_names_in,m_names_in⟩:=T.a_names_in.get X G
 obtain ⟨f_put_together,d_put_together,F_put_together,m_put_together⟩:=T.a_put_together.get X G
 obtain ⟨f_is_barred,d_is_barred,F_is_barred,m_is_barred⟩:=T.a_is_barred.get X G
 obtain ⟨f_sides_of,d_sides_of,F_sides_of,m_sides_of⟩:=T.a_sides_of.get X G
 obtain ⟨f_sure_steps,d_sure_steps,F_sure_steps,m_sure_steps⟩:=T.a_sure_steps.get X G
 obtain ⟨f_many_steps,d_many_steps,F_many_steps,m_many_steps⟩:=T.a_many_steps.get X G
 obtain ⟨f_common_divisor,d_common_divisor,F_common_divisor,m_common_divisor⟩:=T.a_common_divisor.get X G
 obtain ⟨f_made,d_made,F_made,m_made⟩:=T.a_made.get X G
 obtain ⟨f_first_made,d_first_made,F_first_made,m_first_made⟩:=T.a_first_made.get X G
 obtain ⟨f_is_needed,d_is_needed,F_is_needed,m_is_needed⟩:=T.a_is_needed.get X G
 obtain ⟨f_joined,d_joined,F_joined,m_joined⟩:=T.a_joined.get X G
 obtain ⟨f_without_name,d_without_name,F_without_name,m_without_name⟩:=T.a_without_name.get X G
 obtain ⟨f_must_have_names,d_must_have_names,F_must_have_names,m_must_have_names⟩:=T.a_must_have_names.get X G
 obtain ⟨f_added_up,d_added_up,F_added_up,m_added_up⟩:=T.a_added_up.get X G
 obtain ⟨f_less,d_less,F_less,m_less⟩:=T.a_less.get X G
 obtain ⟨f_bound_of,d_bound_of,F_bound_of,m_bound_of⟩:=T.a_bound_of.get X G
 obtain ⟨f_greatest_of,d_greatest_of,F_greatest_of,m_greatest_of⟩:=T.a_greatest_of.get X G
 obtain ⟨f_changed_sign,d_changed_sign,F_changed_sign,m_changed_sign⟩:=T.a_changed_sign.get X G
 obtain ⟨f_short_between,d_short_between,F_short_between,m_short_between⟩:=T.a_short_between.get X G
 obtain ⟨f_between,d_between,F_between,m_between⟩:=T.a_between.get X G
 obtain ⟨f_point_through,d_point_through,F_point_through,m_point_through⟩:=T.a_point_through.get X G
 obtain ⟨f_met,d_met,F_met,m_met⟩:=T.a_met.get X G
 obtain ⟨f_l_turned,d_l_turned,F_l_turned,m_l_turned⟩:=T.a_l_turned.get X G
 obtain ⟨f_l_made,d_l_made,F_l_made,m_l_made⟩:=T.a_l_made.get X G
 obtain ⟨f_l_total,d_l_total,F_l_total,m_l_total⟩:=T.a_l_total.get X G
 obtain ⟨f_l_so,d_l_so,F_l_so,m_l_so⟩:=T.a_l_so.get X G
 obtain ⟨f_l_all_so,d_l_all_so,F_l_all_so,m_l_all_so⟩:=T.a_l_all_so.get X G
 obtain ⟨f_l_whole,d_l_whole,F_l_whole,m_l_whole⟩:=T.a_l_whole.get X G
 obtain ⟨f_l_weights_good,d_l_weights_good,F_l_weights_good,m_l_weights_good⟩:=T.a_l_weights_good.get X G
 obtain ⟨f_l_is_fraction,d_l_is_fraction,F_l_is_fraction,m_l_is_fraction⟩:=T.a_l_is_fraction.get X G
 obtain ⟨f_l_point_good,d_l_point_good,F_l_point_good,m_l_point_good⟩:=T.a_l_point_good.get X G
 obtain ⟨f_l_handed,d_l_handed,F_l_handed,m_l_handed⟩:=T.a_l_handed.get X G
 obtain ⟨f_law,d_law,F_law,m_law⟩:=T.a_law.get X G
 have e:=hfa.symm.trans m_law
 cases e
 obtain ⟨v_LEADING,hv_LEADING,t_LEADING,rfl⟩:=T.g_LEADING
 have g_LEADING:mg "LEADING" = some (.int 256 t_LEADING):=PySem.W.mg_of X G hv_LEADING
 obtain ⟨v_LONG,hv_LONG,t_LONG,rfl⟩:=T.g_LONG
 have g_LONG:mg "LONG" = some (.int 8192 t_LONG):=PySem.W.mg_of X G hv_LONG
 have z_len:mg "len" = none:=PySem.W.mg_none_of X G T.z_len
 have z_tuple:mg "tuple" = none:=PySem.W.mg_none_of X G T.z_tuple
 have z_sorted:mg "sorted" = none:=PySem.W.mg_none_of X G T.z_sorted
 have z_range:mg "range" = none:=PySem.W.mg_none_of X G T.z_range
 have z_list:mg "list" = none:=PySem.W.mg_none_of X G T.z_list
 have z_zip:mg "zip" = none:=PySem.W.mg_none_of X G T.z_zip
 have z_any:mg "any" = none:=PySem.W.mg_none_of X G T.z_any
 have z_dict:mg "dict" = none:=PySem.W.mg_none_of X G T.z_dict
 have z_max:mg "max" = none:=PySem.W.mg_none_of X G T.z_max
 have z_min:mg "min" = none:=PySem.W.mg_none_of X G T.z_min
 have z_abs:mg "abs" = none:=PySem.W.mg_none_of X G T.z_abs
 have z_enumerate:mg "enumerate" = none:=PySem.W.mg_none_of X G T.z_enumerate
 have z_isinstance:mg "isinstance" = none:=PySem.W.mg_none_of X G T.z_isinstance
 have z_int:mg "int" = none:=PySem.W.mg_none_of X G T.z_int
 have z_bool:mg "bool" = none:=PySem.W.mg_none_of X G T.z_bool
 have b_l_take:=F_l_take.binds (ps:=P_l_take) fun _ _ _ _ _ _ us hl=>match us,hl with | [_],_=>rfl
 have b_l_number:=F_l_number.binds (ps:=P_l_number) fun _ _ _ _ _ _ us hl=>match us,hl with | [_],_=>rfl
 have b_l_names:=F_l_names.binds (ps:=P_l_names) fun _ _ _ _ _ _ us hl=>match us,hl with | [_],_=>rfl
 have b_l_terms:=F_l_terms.binds (ps:=P_l_terms) fun _ _ _ _ _ _ us hl=>match us,hl with | [_,_],_=>rfl
 have b_l_row:=F_l_row.binds (ps:=P_l_row) fun _ _ _ _ _ _ us hl=>match us,hl with | [_,_],_=>rfl
 have b_names_in:=F_names_in.binds (ps:=P_names_in) fun _ _ _ _ _ _ us hl=>match us,hl with | [_],_=>rfl
 have b_put_together:=F_put_together.binds (ps:=P_put_together) fun _ _ _ _ _ _ us hl=>match us,hl with | [_,_,_,_],_=>rfl
 have b_is_barred:=F_is_barred.binds (ps:=P_is_barred) fun _ _ _ _ _ _ us hl=>match us,hl with | [_,_,_],_=>rfl
 have b_sides_of:=F_sides_of.binds (ps:=P_sides_of) fun _ _ _ _ _ _ us hl=>match us,hl with | [_,_],_=>rfl
 have b_sure_steps:=F_sure_steps.binds (ps:=P_sure_steps) fun _ _ _ _ _ _ us hl=>match us,hl with | [_,_],_=>rfl
 have b_many_steps:=F_many_steps.binds (ps:=P_many_steps) fun _ _ _ _ _ _ us hl=>match us,hl with | [_,_],_=>rfl
 have b_common_divisor:=F_common_divisor.binds (ps:=P_common_divisor) fun _ _ _ _ _ _ us hl=>match us,hl with | [_,_],_=>rfl
 have b_made:=F_made.binds (ps:=P_made) fun _ _ _ _ _ _ us hl=>match us,hl with | [_,_],_=>rfl
 have b_first_made:=F_first_made.binds (ps:=P_first_made) fun _ _ _ _ _ _ us hl=>match us,hl with | [_,_],_=>rfl
 have b_is_needed:=F_is_needed.binds (ps:=P_is_needed) fun _ _ _ _ _ _ us hl=>match us,hl with | [_,_],_=>rfl
 have b_joined:=F_joined.binds (ps:=P_joined) fun _ _ _ _ _ _ us hl=>match us,hl with | [_,_,_],_=>rfl
 have b_without_name:=F_without_name.binds (ps:=P_without_name) fun _ _ _ _ _ _ us hl=>match us,hl with | [_,_],_=>rfl
 have b_must_have_names:=F_must_have_names.binds (ps:=P_must_have_names) fun _ _ _ _ _ _ us hl=>match us,hl with | [_,_],_=>rfl
 have b_added_up:=F_added_up.binds (ps:=P_added_up) fun _ _ _ _ _ _ us hl=>match us,hl with | [_,_],_=>rfl
 have b_less:=F_less.binds (ps:=P_less) fun _ _ _ _ _ _ us hl=>match us,hl with | [_,_],_=>rfl
 have b_bound_of:=F_bound_of.binds (ps:=P_bound_of) fun _ _ _ _ _ _ us hl=>match us,hl with | [_,_,_,_],_=>rfl
 have b_greatest_of:=F_greatest_of.binds (ps:=P_greatest_of) fun _ _ _ _ _ _ us hl=>match us,hl with | [_],_=>rfl
 have b_changed_sign:=F_changed_sign.binds (ps:=P_changed_sign) fun _ _ _ _ _ _ us hl=>match us,hl with | [_],_=>rfl
 have b_short_between:=F_short_between.binds (ps:=P_short_between) fun _ _ _ _ _ _ us hl=>match us,hl with | [_,_],_=>rfl
 have b_between:=F_between.binds (ps:=P_between) fun _ _ _ _ _ _ us hl=>match us,hl with | [_,_],_=>rfl
 have b_point_through:=F_point_through.binds (ps:=P_point_through) fun _ _ _ _ _ _ us hl=>match us,hl with | [_,_],_=>rfl
 have b_met:=F_met.binds (ps:=P_met) fun _ _ _ _ _ _ us hl=>match us,hl with | [_],_=>rfl
 have b_l_turned:=F_l_turned.binds (ps:=P_l_turned) fun _ _ _ _ _ _ us hl=>match us,hl with | [_,_],_=>rfl
 have b_l_made:=F_l_made.binds (ps:=P_l_made) fun _ _ _ _ _ _ us hl=>match us,hl with | [_,_],_=>rfl
 have b_l_total:=F_l_total.binds (ps:=P_l_total) fun _ _ _ _ _ _ us hl=>match us,hl with | [_,_,_],_=>rfl
 have b_l_so:=F_l_so.binds (ps:=P_l_so) fun _ _ _ _ _ _ us hl=>match us,hl with | [_,_],_=>rfl
 have b_l_all_so:=F_l_all_so.binds (ps:=P_l_all_so) fun _ _ _ _ _ _ us hl=>match us,hl with | [_,_],_=>rfl
 have b_l_whole:=F_l_whole.binds (ps:=P_l_whole) fun _ _ _ _ _ _ us hl=>match us,hl with | [_],_=>rfl
 have b_l_weights_good:=F_l_weights_good.binds (ps:=P_l_weights_good) fun _ _ _ _ _ _ us hl=>match us,hl with | [_,_],_=>rfl
 have b_l_is_fraction:=F_l_is_fraction.binds (ps:=P_l_is_fraction) fun _ _ _ _ _ _ us hl=>match us,hl with | [_],_=>rfl
 have b_l_point_good:=F_l_point_good.binds (ps:=P_l_point_good) fun _ _ _ _ _ _ us hl=>match us,hl with | [_,_],_=>rfl
 have b_l_handed:=F_l_handed.binds (ps:=P_l_handed) fun _ _ _ _ _ _ us hl=>match us,hl with | [_],_=>rfl
 refine ⟨d_law,?_,fun base _ _=>?_⟩
 ·obtain ⟨oc,od,kV,doc,pm,an,cdv,ct,osl,rfl,_,_⟩:=F_law.ex
  exact fun s v=>.of_eq rfl
 have C_l_take:Cal P w K mg base 1 "_law_take" (spTake2):=cal_D F_l_take (ok_l_take F_l_take z_len) b_l_take m_l_take
 have C_l_number:Cal P w K mg base 1 "_law_number" (spNumber2):=cal_D F_l_number (ok_l_number F_l_number ) b_l_number m_l_number
 have C_l_names:Cal P w K mg base 1 "_law_names" (spNames):=cal_D F_l_names (ok_l_names F_l_names z_tuple z_sorted z_range z_list z_len) b_l_names m_l_names
 have C_l_terms:Cal P w K mg base 2 "_law_terms" (spTerms2):=cal_D F_l_terms (ok_l_terms F_l_terms z_tuple C_l_number C_l_take) b_l_terms m_l_terms
 have C_l_row:Cal P w K mg base 3 "_law_row" (spRow2):=cal_D F_l_row (ok_l_row F_l_row C_l_take C_l_terms C_l_number) b_l_row m_l_row
 have C_names_in:Cal P w K mg base 1 "names_in" (spNamesIn):=cal_D F_names_in (ok_names_in F_names_in z_sorted) b_names_in m_names_in
 have C_put_together:Cal P w K mg base 1 "put_together" (spPut):=cal_D F_put_together (ok_put_together F_put_together z_tuple z_zip) b_put_together m_put_together
 have C_is_barred:Cal P w K mg base 1 "is_barred" (spBarred):=cal_D F_is_barred (ok_is_barred F_is_barred z_any z_zip) b_is_barred m_is_barred
 have C_sides_of:Cal P w K mg base 1 "sides_of" (spSides):=cal_D F_sides_of (ok_sides_of F_sides_of z_tuple z_dict) b_sides_of m_sides_of
 have C_sure_steps:Cal P w K mg base 1 "sure_steps" (spSure):=cal_D F_sure_steps (ok_sure_steps F_sure_steps ) b_sure_steps m_sure_steps
 have C_many_steps:Cal P w K mg base 2 "many_steps" (spMany):=cal_D F_many_steps (ok_many_steps F_many_steps g_LEADING C_sure_steps) b_many_steps m_many_steps
 have C_common_divisor:Cal P w K mg base 3 "common_divisor" (spCdL):=cal_D F_common_divisor (ok_common_divisor F_common_divisor z_max z_min g_LONG C_many_steps) b_common_divisor m_common_divisor
 have C_made:Cal P w K mg base 33 "made" (spMadeL):=cal_D F_made (ok_made F_made hT z_abs C_common_divisor) b_made m_made
 have C_first_made:Cal P w K mg base 2 "first_made" (spFirst):=cal_D F_first_made (ok_first_made F_first_made z_tuple z_enumerate z_range z_len C_sides_of) b_first_made m_first_made
 have C_is_needed:Cal P w K mg base 1 "is_needed" (spNeeded):=cal_D F_is_needed (ok_is_needed F_is_needed z_len) b_is_needed m_is_needed
 have C_joined:Cal P w K mg base 2 "joined" (spJoined):=cal_D F_joined (ok_joined F_joined C_put_together) b_joined m_joined
 have C_without_name:Cal P w K mg base 3 "without_name" (spWithout):=cal_D F_without_name (ok_without_name F_without_name C_is_needed C_joined) b_without_name m_without_name
 have C_must_have_names:Cal P w K mg base 1 "must_have_names" (spMustL):=cal_D F_must_have_names (ok_must_have_names F_must_have_names ) b_must_have_names m_must_have_names
 have C_added_up:Cal P w K mg base 2 "added_up" (spAddedL):=cal_D F_added_up (ok_added_up F_added_up C_must_have_names) b_added_up m_added_up
 have C_less:Cal P w K mg base 1 "less" (spLessL):=cal_D F_less (ok_less F_less ) b_less m_less
 have C_bound_of:Cal P w K mg base 3 "bound_of" (spBound):=cal_D F_bound_of (ok_bound_of F_bound_of z_abs z_zip C_added_up) b_bound_of m_bound_of
 have C_greatest_of:Cal P w K mg base 2 "greatest_of" (spGreatest):=cal_D F_greatest_of (ok_greatest_of F_greatest_of C_less) b_greatest_of m_greatest_of
 have C_changed_sign:Cal P w K mg base 1 "changed_sign" (spSign):=cal_D F_changed_sign (ok_changed_sign F_changed_sign ) b_changed_sign m_changed_sign
 have C_short_between:Cal P w K mg base 34 "short_between" (spShort):=cal_D F_short_between (ok_short_between F_short_between hT z_max C_made C_less) b_short_between m_short_between
 have C_between:Cal P w K mg base 35 "between" (spBetween):=cal_D F_between (ok_between F_between hT C_made C_less C_short_between) b_between m_between
 have C_point_through:Cal P w K mg base 36 "point_through" (spThrough):=cal_D F_point_through (ok_point_through F_point_through z_range z_len C_bound_of C_greatest_of C_changed_sign C_between) b_point_through m_point_through
 have C_met:Cal P w K mg base 37 "met" (spMet):=cal_D F_met (ok_met F_met z_range z_len C_names_in C_first_made C_without_name C_is_barred C_point_through) b_met m_met
 have C_l_turned:Cal P w K mg base 2 "_law_turned" (spTurned3):=cal_D F_l_turned (ok_l_turned F_l_turned z_tuple z_sorted C_l_take) b_l_turned m_l_turned
 have C_l_made:Cal P w K mg base 33 "_law_made" (spMadeX):=cal_D F_l_made (ok_l_made F_l_made hT) b_l_made m_l_made
 have C_l_total:Cal P w K mg base 1 "_law_total" (spTotalL):=cal_D F_l_total (ok_l_total F_l_total ) b_l_total m_l_total
 have C_l_so:Cal P w K mg base 2 "_law_so" (spSoL):=cal_D F_l_so (ok_l_so F_l_so C_l_total) b_l_so m_l_so
 have C_l_all_so:Cal P w K mg base 3 "_law_all_so" (spAllSoL):=cal_D F_l_all_so (ok_l_all_so F_l_all_so z_len C_l_so) b_l_all_so m_l_all_so
 have C_l_whole:Cal P w K mg base 1 "_law_whole" (spWhole):=cal_D F_l_whole (ok_l_whole F_l_whole z_isinstance z_int z_bool) b_l_whole m_l_whole
 have C_l_weights_good:Cal P w K mg base 2 "_law_weights_good" (spShowsL):=cal_D F_l_weights_good (ok_l_weights_good F_l_weights_good z_isinstance z_tuple z_len z_zip C_l_whole) b_l_weights_good m_l_weights_good
 have C_l_is_fraction:Cal P w K mg base 34 "_law_is_fraction" (spFracL):=cal_D F_l_is_fraction (ok_l_is_fraction F_l_is_fraction z_isinstance z_tuple z_len C_l_whole C_l_made) b_l_is_fraction m_l_is_fraction
 have C_l_point_good:Cal P w K mg base 35 "_law_point_good" (spPtGood):=cal_D F_l_point_good (ok_l_point_good F_l_point_good z_isinstance z_dict z_sorted C_l_is_fraction C_l_all_so) b_l_point_good m_l_point_good
 have C_l_handed:Cal P w K mg base 4 "_law_handed" (spHanded):=cal_D F_l_handed (ok_l_handed F_l_handed z_range C_l_names C_l_row C_l_take C_l_turned) b_l_handed m_l_handed
 exact ok_law F_law z_list z_len z_isinstance z_tuple z_dict C_l_handed C_l_weights_good C_l_point_good C_met
end K51
def PySem.W.Fast.tw13685844862758333025:Unit:=()
def PySem.W.Fast.tw1131381665028920097:Unit:=()
def PySem.W.Fast.tw8128047602009850649:Unit:=()
def PySem.W.Fast.tw16511203464911664604:Unit:=()
def PySem.W.Fast.tw16855450786494493471:Unit:=()
def PySem.W.Fast.tw12748623458905234611:Unit:=()
def PySem.W.Fast.tw15923151221010045062:Unit:=()
def PySem.W.Fast.tw5039666864776126706:Unit:=()
def PySem.W.Fast.tw8813569089059290479:Unit:=()
def PySem.W.Fast.tw10181983437020187979:Unit:=()
def PySem.W.Fast.tw4738279654880859000:Unit:=()
def PySem.W.Fast.tw9027792988639298170:Unit:=()
def PySem.W.Fast.tw7112094150268147062:Unit:=()
def PySem.W.Fast.tw3017839788457308998:Unit:=()
def PySem.W.Fast.tw517212493551412276:Unit:=()
def PySem.W.Fast.tw14334395229083339805:Unit:=()
def PySem.W.Fast.tw17958571607872403320:Unit:=()
def PySem.W.Fast.tw11234824007272772273:Unit:=()
def PySem.W.Fast.tw220382846673169207:Unit:=()
def PySem.W.Fast.tw12279296367254339365:Unit:=()
def PySem.W.Fast.tw10847242054104431581:Unit:=()
def PySem.W.Fast.tw8927749633120232630:Unit:=()
def PySem.W.Fast.tw7331328893687063487:Unit:=()
def PySem.W.Fast.tw6790616460208376805:Unit:=()
def PySem.W.Fast.tw10157891626505219188:Unit:=()
def PySem.W.Fast.tw13881037198707681523:Unit:=()
def PySem.W.Fast.tw5616700460166765182:Unit:=()
def PySem.W.Fast.tw9974679872142412786:Unit:=()
def PySem.W.Fast.tw3594090444891039334:Unit:=()
def PySem.W.Fast.tw10292291979529656640:Unit:=()
def PySem.W.Fast.tw5392148010341981290:Unit:=()
def PySem.W.Fast.tw10540046379455012975:Unit:=()
def PySem.W.Fast.tw13548484527028808701:Unit:=()
def PySem.W.Fast.tw13296865360236486361:Unit:=()
def PySem.W.Fast.tw8632454591615493676:Unit:=()
def PySem.W.Fast.tw3254425496138292393:Unit:=()
def PySem.W.Fast.tw15489358074663245726:Unit:=()
def PySem.W.Fast.tw944776610527531836:Unit:=()
def PySem.W.Fast.tw11879595118829821220:Unit:=()
def PySem.W.Fast.tw7376004577786065719:Unit:=()
def PySem.W.Fast.tw1952127315560300012:Unit:=()
def PySem.W.Fast.tw7820078723927636049:Unit:=()
def PySem.W.Fast.tw16301504684755204453:Unit:=()
def PySem.W.Fast.tw372946032607949209:Unit:=()
def PySem.W.Fast.tw8768149087945047890:Unit:=()
def PySem.W.Fast.tw1284618441269872027:Unit:=()
def PySem.W.Fast.tw6764658608494013540:Unit:=()
def PySem.W.Fast.tw11771812014453831421:Unit:=()
def PySem.W.Fast.tw2298264543233191223:Unit:=()
def PySem.W.Fast.tw17200058332149231655:Unit:=()
def PySem.W.Fast.tw13320247842742657767:Unit:=()
def PySem.W.Fast.tw14121015134205298852:Unit:=()
def PySem.W.Fast.tw8546244307819496478:Unit:=()
def PySem.W.Fast.tw7224164407847433464:Unit:=()
def PySem.W.Fast.tw8405837879603937887:Unit:=()
def PySem.W.Fast.tw17187556001514884433:Unit:=()
def PySem.W.Fast.tw15594789483382736759:Unit:=()
def PySem.W.Fast.tw1997878978605890099:Unit:=()
def PySem.W.Fast.tw1490179054878145525:Unit:=()
def PySem.W.Fast.tw10390758501184559989:Unit:=()
def PySem.W.Fast.tw1805651618703410230:Unit:=()
def PySem.W.Fast.tw16089436712180257975:Unit:=()
def PySem.W.Fast.tw4516164465031198066:Unit:=()
def PySem.W.Fast.tw18170322670759133461:Unit:=()
def PySem.W.Fast.tw14833289748446457766:Unit:=()
def PySem.W.Fast.tw3954508605397722734:Unit:=()
def PySem.W.Fast.tw8427897231637860203:Unit:=()
def PySem.W.Fast.tw8665629093512918782:Unit:=()
def PySem.W.Fast.tw895554423126423578:Unit:=()
def PySem.W.Fast.tw4250802608983819763:Unit:=()
def PySem.W.Fast.tw4180888721408918264:Unit:=()
def PySem.W.Fast.tw1802504840836200684:Unit:=()
def PySem.W.Fast.tw4635991939149176371:Unit:=()
def PySem.W.Fast.tw4526082136333804022:Unit:=()
def PySem.W.Fast.tw6910472228805171117:Unit:=()
def PySem.W.Fast.tw3452942136532657034:Unit:=()
def PySem.W.Fast.tw12615791032440634479:Unit:=()
def PySem.W.Fast.tw5249570635163588902:Unit:=()
def PySem.W.Fast.tw13497637743787768092:Unit:=()
def PySem.W.Fast.tw2140341018486637804:Unit:=()
def PySem.W.Fast.tw11697730027465813703:Unit:=()
def PySem.W.Fast.tw13828036126221186775:Unit:=()
def PySem.W.Fast.tw10300000011827096241:Unit:=()
def PySem.W.Fast.tw5309635336820374668:Unit:=()
def PySem.W.Fast.tw4810155222049222861:Unit:=()
def PySem.W.Fast.tw1225783288208902309:Unit:=()
def PySem.W.Fast.tw5335926707527895951:Unit:=()
def PySem.W.Fast.tw3003525230849446101:Unit:=()
def PySem.W.Fast.tw10459905551709085853:Unit:=()
def PySem.W.Fast.tw3744778423619060429:Unit:=()
def PySem.W.Fast.tw16624475718792960014:Unit:=()
def PySem.W.Fast.tw17530911905611403031:Unit:=()
def PySem.W.Fast.tw6890013754565336812:Unit:=()
def PySem.W.Fast.tw11320878545839865677:Unit:=()
def PySem.W.Fast.tw3067002743955501999:Unit:=()
def PySem.W.Fast.tw3098700412819619246:Unit:=()
def PySem.W.Fast.tw1807786400823989797:Unit:=()
def PySem.W.Fast.tw7388958028431168765:Unit:=()
def PySem.W.Fast.tw1976789935630848648:Unit:=()
def PySem.W.Fast.tw6031520321638909029:Unit:=()
def PySem.W.Fast.tw9001076634490696269:Unit:=()
def PySem.W.Fast.tw1277264737969438780:Unit:=()
def PySem.W.Fast.tw2622638884947940401:Unit:=()
def PySem.W.Fast.tw12728466248767598015:Unit:=()
def PySem.W.Fast.tw8743054366471331141:Unit:=()
def PySem.W.Fast.tw4927845693317742801:Unit:=()
def PySem.W.Fast.tw3913343790307714819:Unit:=()
def PySem.W.Fast.tw1713160308174813089:Unit:=()
def PySem.W.Fast.tw17652304391646981511:Unit:=()
def PySem.W.Fast.tw6428960462509103188:Unit:=()
def PySem.W.Fast.tw17912104500862840834:Unit:=()
def PySem.W.Fast.tw18268141168360992825:Unit:=()
def PySem.W.Fast.tw14584163594657940705:Unit:=()
def PySem.W.Fast.tw11838542685045817161:Unit:=()
def PySem.W.Fast.tw304375430659673380:Unit:=()
def PySem.W.Fast.tw16275146598858029708:Unit:=()
def PySem.W.Fast.tw12213031874896708642:Unit:=()
def PySem.W.Fast.tw14743380591721808142:Unit:=()
def PySem.W.Fast.tw15883385603631933924:Unit:=()
def PySem.W.Fast.tw13760385362100530060:Unit:=()
def PySem.W.Fast.tw2407353352101313085:Unit:=()
def PySem.W.Fast.tw7868014070212518538:Unit:=()
def PySem.W.Fast.tw6753134040129543657:Unit:=()
def PySem.W.Fast.tw8516331802380495109:Unit:=()
def PySem.W.Fast.tw6553845052154217753:Unit:=()
def PySem.W.Fast.tw11640555205744335611:Unit:=()
def PySem.W.Fast.tw17485177917123106293:Unit:=()
def PySem.W.Fast.tw4189229582397869531:Unit:=()
def PySem.W.Fast.tw13122664146792849397:Unit:=()
def PySem.W.Fast.tw12005482916122118593:Unit:=()
def PySem.W.Fast.tw8121216014871960588:Unit:=()
def PySem.W.Fast.tw17781671338399181080:Unit:=()
def PySem.W.Fast.tw6786382283160410578:Unit:=()
def PySem.W.Fast.tw3431632659403850808:Unit:=()
def PySem.W.Fast.tw6833254499920756702:Unit:=()
def PySem.W.Fast.tw14474303467431043627:Unit:=()
def PySem.W.Fast.tw14199635889490023918:Unit:=()
def PySem.W.Fast.tw7941641167676937182:Unit:=()
def PySem.W.Fast.tw6033700190280482315:Unit:=()
def PySem.W.Fast.tw1513618303842306494:Unit:=()
def PySem.W.Fast.tw5106032145368068940:Unit:=()
def PySem.W.Fast.tw2011195245149142437:Unit:=()
def PySem.W.Fast.tw13179701532546400635:Unit:=()
def PySem.W.Fast.tw5763515722812799398:Unit:=()
def PySem.W.Fast.tw11576666931786814455:Unit:=()
def PySem.W.Fast.tw14176725113030170473:Unit:=()
def PySem.W.Fast.tw17560329578898444657:Unit:=()
def PySem.W.Fast.tw1623717187204925862:Unit:=()
def PySem.W.Fast.tw1196373987655413763:Unit:=()
def PySem.W.Fast.tw7635354956965136229:Unit:=()
def PySem.W.Fast.tw12748158601452118905:Unit:=()
def PySem.W.Fast.tw12081148788523591162:Unit:=()
def PySem.W.Fast.tw3148223904988916032:Unit:=()
def PySem.W.Fast.tw644028396276342835:Unit:=()
def PySem.W.Fast.tw17830236340209777965:Unit:=()
def PySem.W.Fast.tw16842249393619981248:Unit:=()
def PySem.W.Fast.tw17623957946913451180:Unit:=()
def PySem.W.Fast.tw18020757755445976748:Unit:=()
def PySem.W.Fast.tw1391357881340422392:Unit:=()
def PySem.W.Fast.tw3963723786863324266:Unit:=()
def PySem.W.Fast.tw14568117179129597939:Unit:=()
def PySem.W.Fast.tw9059441464465016577:Unit:=()
def PySem.W.Fast.tw3094104841348368088:Unit:=()
def PySem.W.Fast.tw17386394566899581067:Unit:=()
def PySem.W.Fast.tw1681838897633964119:Unit:=()
def PySem.W.Fast.tw17609206388453246508:Unit:=()
def PySem.W.Fast.tw2252374237839225625:Unit:=()
def PySem.W.Fast.tw3340313888429930995:Unit:=()
def PySem.W.Fast.tw15170323446243216501:Unit:=()
def PySem.W.Fast.tw11243964470485969362:Unit:=()
def PySem.W.Fast.tw15069795591580391267:Unit:=()
def PySem.W.Fast.tw13007469125986876920:Unit:=()
def PySem.W.Fast.tw4911656572677563026:Unit:=()
def PySem.W.Fast.tw6987360138788011838:Unit:=()
def PySem.W.Fast.tw5993765809946076741:Unit:=()
def PySem.W.Fast.tw1010311246673363026:Unit:=()
def PySem.W.Fast.tw8077127066821487543:Unit:=()
def PySem.W.Fast.tw3209484402505342860:Unit:=()
def PySem.W.Fast.tw4772270786614357108:Unit:=()
def PySem.W.Fast.tw17129988744932905424:Unit:=()
def PySem.W.Fast.tw5275220078316340601:Unit:=()
def PySem.W.Fast.tw676640026702796770:Unit:=()
def PySem.W.Fast.tw4499286015616589553:Unit:=()
def PySem.W.Fast.tw265238655772097212:Unit:=()
def PySem.W.Fast.tw1840744868867599634:Unit:=()
def PySem.W.Fast.tw6614393751460647265:Unit:=()
def PySem.W.Fast.tw4584426330441845992:Unit:=()
def PySem.W.Fast.tw2007753091384506344:Unit:=()
def PySem.W.Fast.tw6444968490979467659:Unit:=()
def PySem.W.Fast.tw5396085973003470063:Unit:=()
def PySem.W.Fast.tw8830016598290706644:Unit:=()
def PySem.W.Fast.tw11969730415646624033:Unit:=()
open PySem PySem.W PyProof.Rows
set_option maxRecDepth 100000 in
set_option maxHeartbeats 0 in
theorem PySem.Challenge.cw_notekeep_k51_met_holds : PySem.Challenge.rw_notekeep_k51_met.Holds := by
  w_on; o_law; k_head; (case hw => w_witness2)
  k_fill
  refine D3.walk_D (l := PySem.Challenge.rw_notekeep_k51_met) (k := 38) (sp := K51.spLaw) (x := "_law_script") rfl rfl ⟨rfl, by decide, by decide⟩ (by decide +kernel) K51.lawSp (fun w h Y => PySem.W.kIn_of Y) ?F
  case F =>
    intro w mg fa h KX G hmg
    have T : K51.Txt (L2.KOf KX) := by
      dsimp only [L2.KOf]
      refine' ⟨KA.At.mk ?a0 ?l0 ?c0 ?k0, KA.At.mk ?a1 ?l1 ?c1 ?k1, KA.At.mk ?a2 ?l2 ?c2 ?k2, KA.At.mk ?a3 ?l3 ?c3 ?k3, KA.At.mk ?a4 ?l4 ?c4 ?k4, KA.At.mk ?a5 ?l5 ?c5 ?k5, KA.At.mk ?a6 ?l6 ?c6 ?k6, KA.At.mk ?a7 ?l7 ?c7 ?k7, KA.At.mk ?a8 ?l8 ?c8 ?k8, KA.At.mk ?a9 ?l9 ?c9 ?k9, KA.At.mk ?a10 ?l10 ?c10 ?k10, KA.At.mk ?a11 ?l11 ?c11 ?k11, KA.At.mk ?a12 ?l12 ?c12 ?k12, KA.At.mk ?a13 ?l13 ?c13 ?k13, KA.At.mk ?a14 ?l14 ?c14 ?k14, KA.At.mk ?a15 ?l15 ?c15 ?k15, KA.At.mk ?a16 ?l16 ?c16 ?k16, KA.At.mk ?a17 ?l17 ?c17 ?k17, KA.At.mk ?a18 ?l18 ?c18 ?k18, KA.At.mk ?a19 ?l19 ?c19 ?k19, KA.At.mk ?a20 ?l20 ?c20 ?k20, KA.At.mk ?a21 ?l21 ?c21 ?k21, KA.At.mk ?a22 ?l22 ?c22 ?k22, KA.At.mk ?a23 ?l23 ?c23 ?k23, KA.At.mk ?a24 ?l24 ?c24 ?k24, KA.At.mk ?a25 ?l25 ?c25 ?k25, KA.At.mk ?a26 ?l26 ?c26 ?k26, KA.At.mk ?a27 ?l27 ?c27 ?k27, KA.At.mk ?a28 ?l28 ?c28 ?k28, KA.At.mk ?a29 ?l29 ?c29 ?k29, KA.At.mk ?a30 ?l30 ?c30 ?k30, KA.At.mk ?a31 ?l31 ?c31 ?k31, KA.At.mk ?a32 ?l32 ?c32 ?k32, KA.At.mk ?a33 ?l33 ?c33 ?k33, KA.At.mk ?a34 ?l34 ?c34 ?k34, KA.At.mk ?a35 ?l35 ?c35 ?k35, KA.At.mk ?a36 ?l36 ?c36 ?k36, KA.At.mk ?a37 ?l37 ?c37 ?k37, ⟨?t0, ?u0, ?r0⟩, ⟨?t1, ?u1, ?r1⟩, ?z0, ?z1, ?z2, ?z3, ?z4, ?z5, ?z6, ?z7, ?z8, ?z9, ?z10, ?z11, ?z12, ?z13, ?z14⟩
      (case a0 => k_is); (case l0 => k_is); (case c0 => k_is); (case k0 => k_is)
      (case a1 => k_is); (case l1 => k_is); (case c1 => k_is); (case k1 => k_is)
      (case a2 => k_is); (case l2 => k_is); (case c2 => k_is); (case k2 => k_is)
      (case a3 => k_is); (case l3 => k_is); (case c3 => k_is); (case k3 => k_is)
      (case a4 => k_is); (case l4 => k_is); (case c4 => k_is); (case k4 => k_is)
      (case a5 => k_is); (case l5 => k_is); (case c5 => k_is); (case k5 => k_is)
      (case a6 => k_is); (case l6 => k_is); (case c6 => k_is); (case k6 => k_is)
      (case a7 => k_is); (case l7 => k_is); (case c7 => k_is); (case k7 => k_is)
      (case a8 => k_is); (case l8 => k_is); (case c8 => k_is); (case k8 => k_is)
      (case a9 => k_is); (case l9 => k_is); (case c9 => k_is); (case k9 => k_is)
      (case a10 => k_is); (case l10 => k_is); (case c10 => k_is); (case k10 => k_is)
      (case a11 => k_is); (case l11 => k_is); (case c11 => k_is); (case k11 => k_is)
      (case a12 => k_is); (case l12 => k_is); (case c12 => k_is); (case k12 => k_is)
      (case a13 => k_is); (case l13 => k_is); (case c13 => k_is); (case k13 => k_is)
      (case a14 => k_is); (case l14 => k_is); (case c14 => k_is); (case k14 => k_is)
      (case a15 => k_is); (case l15 => k_is); (case c15 => k_is); (case k15 => k_is)
      (case a16 => k_is); (case l16 => k_is); (case c16 => k_is); (case k16 => k_is)
      (case a17 => k_is); (case l17 => k_is); (case c17 => k_is); (case k17 => k_is)
      (case a18 => k_is); (case l18 => k_is); (case c18 => k_is); (case k18 => k_is)
      (case a19 => k_is); (case l19 => k_is); (case c19 => k_is); (case k19 => k_is)
      (case a20 => k_is); (case l20 => k_is); (case c20 => k_is); (case k20 => k_is)
      (case a21 => k_is); (case l21 => k_is); (case c21 => k_is); (case k21 => k_is)
      (case a22 => k_is); (case l22 => k_is); (case c22 => k_is); (case k22 => k_is)
      (case a23 => k_is); (case l23 => k_is); (case c23 => k_is); (case k23 => k_is)
      (case a24 => k_is); (case l24 => k_is); (case c24 => k_is); (case k24 => k_is)
      (case a25 => k_is); (case l25 => k_is); (case c25 => k_is); (case k25 => k_is)
      (case a26 => k_is); (case l26 => k_is); (case c26 => k_is); (case k26 => k_is)
      (case a27 => k_is); (case l27 => k_is); (case c27 => k_is); (case k27 => k_is)
      (case a28 => k_is); (case l28 => k_is); (case c28 => k_is); (case k28 => k_is)
      (case a29 => k_is); (case l29 => k_is); (case c29 => k_is); (case k29 => k_is)
      (case a30 => k_is); (case l30 => k_is); (case c30 => k_is); (case k30 => k_is)
      (case a31 => k_is); (case l31 => k_is); (case c31 => k_is); (case k31 => k_is)
      (case a32 => k_is); (case l32 => k_is); (case c32 => k_is); (case k32 => k_is)
      (case a33 => k_is); (case l33 => k_is); (case c33 => k_is); (case k33 => k_is)
      (case a34 => k_is); (case l34 => k_is); (case c34 => k_is); (case k34 => k_is)
      (case a35 => k_is); (case l35 => k_is); (case c35 => k_is); (case k35 => k_is)
      (case a36 => k_is); (case l36 => k_is); (case c36 => k_is); (case k36 => k_is)
      (case a37 => k_is); (case l37 => k_is); (case c37 => k_is); (case k37 => k_is)
      (case u0 => (with_unfolding_all exact rfl)); (case r0 => exact ⟨_, rfl⟩)
      (case u1 => (with_unfolding_all exact rfl)); (case r1 => exact ⟨_, rfl⟩)
      (case z0 => k_is)
      (case z1 => k_is)
      (case z2 => k_is)
      (case z3 => k_is)
      (case z4 => k_is)
      (case z5 => k_is)
      (case z6 => k_is)
      (case z7 => k_is)
      (case z8 => k_is)
      (case z9 => k_is)
      (case z10 => k_is)
      (case z11 => k_is)
      (case z12 => k_is)
      (case z13 => k_is)
      (case z14 => k_is)
    exact K51.all_mk T KX G hmg rfl
