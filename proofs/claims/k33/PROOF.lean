import PyProof.Rows.All
import Wide.All
import OpenK.AllK
import Wide.FinOn
import Lean
import PyProof.EqAt
import PyProof.EqKinds
import PyProof.TupleCall
import PyProof.ListStr
import PyProof.ZipIter
import PyProof.ListMulRoad
import PyProof.FactsAll.tuple
import PyProof.RaisesMany
import PyProof.PassesOwn
import PyProof.ExcInit
import PyProof.ExcClass2
import PyProof.ExcClass3
import PyProof.InstStoreFacts
import PyProof.InstLoad
import PyProof.ExcArgsOwn
import PyProof.ExcAttrAll.ValueError
import PyProof.ExcBaseAll.ValueError
import OpenK.Peek
import PyProof.NsDelKeeps
import PyProof.RulesAs
import KE.KIsAll
import KE.KDictSum
import PyProof.ConsumeWalk
import PyProof.SetNew
import PyProof.SetRoads
import PyProof.SetKind
import PyProof.SetScanFacts
import PyProof.FactsAll.set
import KE.KEqDict
import PySem.Challenge.RW_notekeep_k33_whole_longer_runs
local macro_rules|`(tactic|omega)=>`(tactic|lia)
set_option compiler.extract_closed false
section
open Lean
set_option hygiene false
def pO:Nat→Syntax→MacroM (TSyntax `rcasesPat)
|0,_=>Macro.throwUnsupported
|n+1,s=>do
 if s.isOfKind ``Parser.Term.anonymousCtor then
  let p←s[1].getSepArgs.mapM (pO n)
  `(rcasesPat|⟨$[$p],*⟩)
 else if s.isIdent then `(rcasesPat|$(⟨s⟩):ident)
 else if s.isOfKind ``Parser.Term.hole then `(rcasesPat|_)
 else if s.isOfKind ``Parser.Term.paren then pO n s[1]
 else Macro.throwUnsupported
def hI:Nat→Syntax→Nat
|0,_=>0
|n+1,s=>if s.isOfKind ``Parser.Term.syntheticHole then 1 else if s.isOfKind ``Parser.Term.byTactic then 0 else s.getArgs.foldl (λk x=>k+hI n x) 0
def iP (s:Syntax):=s.isOfKind ``Parser.Term.anonymousCtor
def fP (bs:Array Syntax) (b:Term):MacroM Term:=do
 match bs.findIdx? iP with
 |none=>Macro.throwUnsupported
 |some i=>
  if hI 99 b≠0 then Macro.throwUnsupported
  let p←pO 20 bs[i]!
  let m (xs:Array Syntax) (b:Term):MacroM Term:=if xs.isEmpty then pure b else do
   let ys:TSyntaxArray ``Parser.Term.funBinder:=xs.map (⟨·⟩)
   `(fun $ys*=>$b)
  let c←m (bs.extract (i+1) bs.size) b
  m (bs.extract 0 i) (←`(by rintro ($p);exact $c))
def lP (p:Syntax) (v b:Term):MacroM Term:=do
 if iP p&&hI 99 b==0 then
  let p←pO 20 p
  `(by obtain $p :=$v;exact $b)
 else Macro.throwUnsupported
def oP (h:Syntax):Nat→Syntax→StateM (Option (Array Syntax)) Syntax
|0,s=>pure s
|n+1,s=>do
 if s.isOfKind ``Parser.Term.byTactic then return s
 match s with
 |`(fun $bs*=>?_)=>
  let bs:=bs.map (·.raw)
  if bs.any iP then set (some bs);return h else return s
 |_=>return s.setArgs (←s.getArgs.mapM (oP h n))
def rP (t:Term):MacroM (TSyntax `tactic):=do
 if hI 99 t≠1 then Macro.throwUnsupported
 let (t,o):=(oP (←`(?_)) 99 t).run none
 match o with
 |none=>Macro.throwUnsupported
 |some bs=>
  let ps←bs.mapM λb=>do let p←pO 20 b;`(rintroPat|$p:rcasesPat)
  `(tactic|(refine $(⟨t⟩);rintro $ps*))
end
local macro_rules|`(fun $bs*=>$b)=>fP (bs.map (·.raw)) b
local macro_rules|`(let $p:term:=$v;$b)=>lP p v b
local macro_rules|`(tactic|refine $t)=>rP t
set_option Elab.async false
set_option linter.all false
set_option maxRecDepth 100000
namespace L2
open PySem PySem.Spec PyProof.Rows
abbrev Key:=Sum Int Str
def keyIs:Key->Value->Bool
 | .inl k,v=>Value.isInt k v
 | .inr x,v=>Value.isStrOf x v
def keyH (w:World):Key->Int
 | .inl k=>hashInt k
 | .inr x=>hashStr w x
theorem keyIs_shape:∀ {k:Key} {v:Value},keyIs k v=true->(∃ i t,k=Sum.inl i/\v=Value.int i t)\/(∃ x t,k=Sum.inr x/\v=Value.str x t)
 | .inl i,v,h=>by
  obtain ⟨t,e⟩:=Value.isInt_shape (k:=i) (v:=v) h
  exact .inl ⟨i,t,rfl,e⟩
 | .inr x,v,h=>by
  obtain ⟨t,e⟩:=Value.isStrOf_shape (x:=x) (v:=v) h
  exact .inr ⟨x,t,rfl,e⟩
theorem keyIs_int (i:Int) (t:Tok):keyIs (.inl i) (.int i t)=true:=by simp [keyIs,Value.isInt]
theorem keyIs_str (x:Str) (t:Tok):keyIs (.inr x) (.str x t)=true:=by simp [keyIs,Value.isStrOf]
theorem key_ll (a b:Int):decide ((Sum.inl a:Key)=Sum.inl b)=(a == b):=by
 by_cases e:a=b
 ·subst e;simp
 ·have h:¬ (Sum.inl a:Key)=Sum.inl b:=fun q=>e (Sum.inl.inj q)
  rw [decide_eq_false h]
  exact (beq_eq_false_iff_ne.mpr e).symm
theorem key_rr (a b:Str):decide ((Sum.inr a:Key)=Sum.inr b)=decide (a=b):=by
 by_cases e:a=b
 ·subst e;simp
 ·have h:¬ (Sum.inr a:Key)=Sum.inr b:=fun q=>e (Sum.inr.inj q)
  rw [decide_eq_false h,decide_eq_false e]
theorem key_lr (a:Int) (b:Str):decide ((Sum.inl a:Key)=Sum.inr b)=false:=decide_eq_false (fun q=>nomatch q)
theorem key_rl (a:Str) (b:Int):decide ((Sum.inr a:Key)=Sum.inl b)=false:=decide_eq_false (fun q=>nomatch q)
def mixKind (prog:Program) (w:World):PySem.KeyKind prog w Key where
 is:=keyIs
 hash:=keyH w
 inj:=fun v a b ha hb=>by
  rcases keyIs_shape ha with ⟨i,t,rfl,rfl⟩ | ⟨x,t,rfl,rfl⟩
  ·rcases keyIs_shape hb with ⟨j,u,rfl,e⟩ | ⟨y,u,rfl,e⟩
   ·injection e with e1 _;rw [e1]
   ·exact nomatch e
  ·rcases keyIs_shape hb with ⟨j,u,rfl,e⟩ | ⟨y,u,rfl,e⟩
   ·exact nomatch e
   ·injection e with e1 _;rw [e1]
 byValue:=fun k v h=>by
  rcases keyIs_shape h with ⟨i,t,rfl,rfl⟩ | ⟨x,t,rfl,rfl⟩<;>rfl
 pyHash:=fun hv h=>by
  rcases keyIs_shape hv with ⟨i,t,rfl,rfl⟩ | ⟨x,t,rfl,rfl⟩
  ·exact wpAny_pyHash_int h
  ·exact wpAny_pyHash_str h
 eqBool:=fun hu hv h=>by
  rcases keyIs_shape hu with ⟨i,t,rfl,rfl⟩ | ⟨x,t,rfl,rfl⟩
  ·rcases keyIs_shape hv with ⟨j,u,rfl,rfl⟩ | ⟨y,u,rfl,rfl⟩
   ·rw [key_ll] at h;exact wpAny_eqBool_int h
   ·rw [key_lr] at h;exact SeqAt.EqAt.int_str i t y u _ _ _ _ h
  ·rcases keyIs_shape hv with ⟨j,u,rfl,rfl⟩ | ⟨y,u,rfl,rfl⟩
   ·rw [key_rl] at h;exact SeqAt.EqAt.str_int x t j u _ _ _ _ h
   ·rw [key_rr] at h;exact wpAny_eqBool_str h
 «strs»:=fun k x t v h=>by
  rcases keyIs_shape h with ⟨i,u,rfl,e⟩ | ⟨y,u,rfl,e⟩
  ·exact nomatch e
  ·injection e with e1 _
   subst e1
   cases v<;>rfl
theorem mixKind_int (prog:Program) (w:World) (i:Int) (t:Tok):(mixKind prog w).is (.inl i) (.int i t)=true:=keyIs_int i t
theorem mixKind_str (prog:Program) (w:World) (x:Str) (t:Tok):(mixKind prog w).is (.inr x) (.str x t)=true:=keyIs_str x t
inductive V where
 | non | bl (b:Bool) | int (i:Int) | str (x:Str) | byt (b:Array UInt8) | flt (b:UInt64) | ref (a:Addr) | ty (n:String)
 deriving DecidableEq
def RelV:V->Value->Prop
 | .non,u=>u=Value.none
 | .bl b,u=>u=Value.bool b
 | .int i,u=>∃ t,u=Value.int i t
 | .str x,u=>∃ t,u=Value.str x t
 | .byt b,u=>∃ t,u=Value.bytes b t
 | .flt b,u=>∃ t,u=Value.float b t
 | .ref a,u=>u=Value.ref a
 | .ty n,u=>u=Value.type n
abbrev Vals:List V->List Value->Prop:=Paired RelV
theorem Vals.length {xs:List V} {us:List Value} (r:Vals xs us):xs.length=us.length:=Paired.length r
theorem Vals.get:∀ {xs:List V} {us:List Value} {i:Nat} {x:V},Vals xs us->xs[i]?=some x->∃ u,us[i]?=some u/\RelV x u
 | _,_,_,_,.nil,e=>by simp at e
 | _,_,0,_,.cons r _,e=>by simp at e;subst e;exact ⟨_,rfl,r⟩
 | _,_,i+1,x,.cons _ t,e=>by
  obtain ⟨u,h1,h2⟩:=Vals.get (i:=i) (x:=x) t (by simpa using e)
  exact ⟨u,by simpa using h1,h2⟩
theorem Vals.set {x:V} {u:Value} (r:RelV x u):∀ {xs:List V} {us:List Value} (i:Nat),Vals xs us->Vals (xs.set i x) (us.set i u)
 | _,_,_,.nil=>.nil
 | _,_,0,.cons _ t=>.cons r t
 | _,_,i+1,.cons q t=>.cons q (Vals.set r i t)
theorem Vals.append:∀ {xs ys:List V} {us ws:List Value},Vals xs us->Vals ys ws->Vals (xs++ys) (us++ws)
 | _,_,_,_,.nil,s=>s
 | _,_,_,_,.cons r t,s=>.cons r (Vals.append t s)
theorem Vals.take:∀ {xs:List V} {us:List Value} (n:Nat),Vals xs us->Vals (xs.take n) (us.take n)
 | _,_,0,_=>.nil
 | _,_,_+1,.nil=>.nil
 | _,_,n+1,.cons r t=>.cons r (Vals.take n t)
theorem Vals.drop:∀ {xs:List V} {us:List Value} (n:Nat),Vals xs us->Vals (xs.drop n) (us.drop n)
 | _,_,0,r=>r
 | _,_,_+1,.nil=>.nil
 | _,_,n+1,.cons _ t=>Vals.drop n t
def RelO:Option V->Option Value->Prop
 | some v,some u=>RelV v u
 | none,none=>True
 | _,_=>False
def KV {κ:Type}:List (κ × V)->List (κ × Value)->Prop:=Paired fun (p:κ × V) (q:κ × Value)=>p.1=q.1/\RelV p.2 q.2
def kV:Key->V
 | .inl i=>.int i
 | .inr x=>.str x
inductive HO where
 | lst (xs:List V)
 | tup (xs:List V)
 | dK (kvs:List (Key × V)) | dT (kvs:List (List Key × V))
 | set (S:Int->Bool) (n:Nat)
 | ins (C dx:Addr) (fs:List (Str × V))
 | own (x:Addr)
 | xd (fs:List (Str × V))
 | met (f x:Addr)
 | rng (lo hi:Int)
 | frz (o:Obj) (u:HO)
 | tbl (ps:Array Value)
 | ext (φ:Heap->Prop)
abbrev Hp:=Addr->Option HO
def upd (H:Hp) (a:Addr) (o:HO):Hp:=fun b=>if b=a then some o else H b
theorem upd_same {H:Hp} {a:Addr} {o:HO}:upd H a o a=some o:=by unfold upd;rw [if_pos rfl]
theorem upd_ne {H:Hp} {a b:Addr} {o:HO} (h:b≠a):upd H a o b=H b:=by unfold upd;rw [if_neg h]
theorem ne_of {H:Hp} {a b:Addr} {o u:HO} (h:H a=some o) (h':H b=some u) (d:o≠u):a≠b:=by
 intro e;subst e;rw [h] at h';exact d (Option.some.inj h')
theorem ne_of_none {H:Hp} {a b:Addr} {o:HO} (h:H a=some o) (h':H b=none):a≠b:=by
 intro e;subst e;rw [h] at h';cases h'
section
variable (P:Program) (w:World)
def ObjOk (H:Hp) (h:Heap) (a:Addr):HO->Prop
 | .lst xs=>xs.length<=sizeLine/\∃ (its:List Value) (n:Nat),Vals xs its/\h.get? a=some { cls:=.type "list",data:=.seq its.toArray n }
 | .tup xs=>(xs.length<=sizeLine/\∃ o,h.get? a=some o/\o.dict=none)/\∃ its:List Value,Vals xs its/\IsTup h a its.toArray
 | .dK kvs=>kvs.length<=sizeLine/\(a == sysModules)=false/\∃ vs,KV kvs vs/\h.DictOf (mixKind P w) a vs
 | .dT kvs=>kvs.length<=sizeLine/\(a == sysModules)=false/\∃ xs:List (List Key × Addr × Value),
   Paired (fun (p:List Key × V) (q:List Key × Addr × Value)=>p.1=q.1/\H q.2.1=some (.tup (p.1.map kV))/\RelV p.2 q.2.2) kvs xs /\
   ∃ o es ep,h.get? a=some o/\o.ExactDict/\o.data=.dict es ep/\es.toList=xs.map (entryOfKey (tupleKind (mixKind P w)))/\(xs.map (·.1)).Nodup
 | .set S n=>h.SetOf (intKind P w) a S n
 | .ins C dx fs=>H dx=some (.own a)/\fs.length<=1000/\dx≠a/\h.get? a=some (PySem.W.instObj C dx) /\
   ∃ mA,h.Ns1 dx mA/\(∀ f,RelO (fs.lookup f) (mA f))/\PySem.Within mA (fs.map (·.1))
 | .own _=>∃ o,h.get? a=some o
 | .xd fs=>∃ mA,h.Ns1 a mA/\∀ f,RelO (fs.lookup f) (mA f)
 | .rng lo hi=>∃ t u v,h.get? a=some { cls:=.type "range",data:=.fields #[.int lo t,.int hi u,.int 1 v] }
 | .frz o u=>h.get? a=some o/\ObjOk H h a u
 | .tbl ps=>h.get? a=some { cls:=.none,data:=.fields ps }
 | .met f x=>h.get? a=some (PySem.W.methodObj (.ref f) (.ref x))
 | .ext φ=>φ h/\(∃ o,h.get? a=some o)/\∀ h1 h2:Heap,φ h1->(∀ o,h1.get? a=some o->h2.get? a=some o)->φ h2
def HOk (H:Hp) (h:Heap):Prop:=∀ a o,H a=some o->ObjOk P w H h a o
end
section
variable {P:Program} {w:World} {H H':Hp} {h h':Heap} {a:Addr} {o:HO}
theorem ObjOk.lt (x:ObjOk P w H h a o):a < h.objs.size:=by
 cases o with
 | lst xs=>obtain ⟨_,_,_,_,e⟩:=x;exact Heap.lt_size e
 | tup xs=>obtain ⟨_,_,_,p⟩:=x;exact p.lt
 | dK kvs=>obtain ⟨_,_,_,_,o,_,_,e,_⟩:=x;exact Heap.lt_size e
 | dT kvs=>obtain ⟨_,_,_,_,o,_,_,e,_⟩:=x;exact Heap.lt_size e
 | set S n=>obtain ⟨o,_,_,_,e,_⟩:=x;exact Heap.lt_size e
 | ins C dx fs=>obtain ⟨_,_,_,e,_⟩:=x;exact Heap.lt_size e
 | own y=>obtain ⟨_,e⟩:=x;exact Heap.lt_size e
 | xd fs=>obtain ⟨_,⟨_,_,_,e,_⟩,_⟩:=x;exact Heap.lt_size e
 | rng lo hi=>obtain ⟨_,_,_,e⟩:=x;exact Heap.lt_size e
 | frz ob u=>obtain ⟨e,_⟩:=x;exact Heap.lt_size e
 | tbl ps=>exact Heap.lt_size (show h.get? a=some _ from x)
 | met f y=>exact Heap.lt_size (show h.get? a=some _ from x)
 | ext φ=>obtain ⟨_,⟨_,e⟩,_⟩:=x;exact Heap.lt_size e
theorem Paired.mapP {α β:Type} {F G:α->β->Prop}:∀ {l₁:List α} {l₂:List β},Paired F l₁ l₂->(∀ a b,F a b->G a b)->Paired G l₁ l₂
 | _,_,.nil,_=>.nil
 | _,_,.cons r t,f=>.cons (f _ _ r) (Paired.mapP t f)
theorem ObjOk.stay (x:ObjOk P w H h a o) (k:∀ b u,(b=a\/H b=some (.own a))->h.get? b=some u->h'.get? b=some u)
  (ho:∀ b,H b=some (.own a)->H' b=some (.own a)) (ht:∀ b xs,H b=some (.tup xs)->H' b=some (.tup xs)):ObjOk P w H' h' a o:=by
 induction o with
 | lst xs=>obtain ⟨z,its,n,r,e⟩:=x;exact ⟨z,its,n,r,k _ _ (.inl rfl) e⟩
 | tup xs=>obtain ⟨⟨z,o2,e2,c2⟩,its,r,ob,e,c⟩:=x;exact ⟨⟨z,o2,k _ _ (.inl rfl) e2,c2⟩,its,r,ob,k _ _ (.inl rfl) e,c⟩
 | dK kvs=>obtain ⟨z,y,vs,r,ob,es,ep,e,c⟩:=x;exact ⟨z,y,vs,r,ob,es,ep,k _ _ (.inl rfl) e,c⟩
 | dT kvs =>
  obtain ⟨z,y,xs,r,ob,es,ep,e,c⟩:=x
  exact ⟨z,y,xs,Paired.mapP r fun p q z=>⟨z.1,ht _ _ z.2.1,z.2.2⟩,ob,es,ep,k _ _ (.inl rfl) e,c⟩
 | set S n=>obtain ⟨ob,es,ep,t,e,c⟩:=x;exact ⟨ob,es,ep,t,k _ _ (.inl rfl) e,c⟩
 | ins C dx fs =>
  obtain ⟨d,z,ne,e,mA,⟨od,es,ep,e2,c⟩,r⟩:=x
  exact ⟨ho _ d,z,ne,k _ _ (.inl rfl) e,mA,⟨od,es,ep,k _ _ (.inr d) e2,c⟩,r⟩
 | own y=>obtain ⟨ob,e⟩:=x;exact ⟨ob,k _ _ (.inl rfl) e⟩
 | xd fs=>obtain ⟨mA,⟨od,es,ep,e,c⟩,r⟩:=x;exact ⟨mA,⟨od,es,ep,k _ _ (.inl rfl) e,c⟩,r⟩
 | rng lo hi=>obtain ⟨t,u,v,e⟩:=x;exact ⟨t,u,v,k _ _ (.inl rfl) e⟩
 | frz ob u ih=>obtain ⟨e,q⟩:=x;exact ⟨k _ _ (.inl rfl) e,ih q⟩
 | tbl ps =>
  have e:h.get? a=some { cls:=.none,data:=.fields ps }:=x
  show h'.get? a=some { cls:=.none,data:=.fields ps }
  exact k a _ (.inl rfl) e
 | met f y =>
  have e:h.get? a=some (PySem.W.methodObj (.ref f) (.ref y)):=x
  show h'.get? a=some (PySem.W.methodObj (.ref f) (.ref y))
  exact k a _ (.inl rfl) e
 | ext φ=>obtain ⟨p,⟨o,e⟩,st⟩:=x;exact ⟨st _ _ p fun o q=>k _ _ (.inl rfl) q,⟨o,k _ _ (.inl rfl) e⟩,st⟩
theorem HOk.lt (x:HOk P w H h) (e:H a=some o):a < h.objs.size:=(x a o e).lt
theorem HOk.fresh (x:HOk P w H h) (e:h.objs.size<=a):H a=none:=by
 cases q:H a with
 | none=>rfl
 | some u=>exact absurd (Nat.lt_of_lt_of_le (x.lt q) e) (Nat.lt_irrefl _)
theorem HOk.kept (x:HOk P w H h) (k:∀ b u,h.get? b=some u->h'.get? b=some u):HOk P w H h':=fun a o e =>
 (x a o e).stay (fun b u _ q=>k b u q) (fun _ q=>q) fun _ _ q=>q
theorem HOk.laid (x:HOk P w H h) (k:∀ b u,h.get? b=some u->h'.get? b=some u) (hp:h.objs.size<=a) (new:ObjOk P w (upd H a o) h' a o):HOk P w (upd H a o) h':=fun b u e=>by
 have hn:=x.fresh hp
 by_cases hb:b=a
 ·subst hb;rw [upd_same] at e;cases e;exact new
 ·rw [upd_ne hb] at e
  exact (x b u e).stay (fun c v _ q=>k c v q) (fun c q=>by rw [upd_ne (ne_of_none q hn)];exact q) fun c xs q=>by rw [upd_ne (ne_of_none q hn)];exact q
end
def Rd (H:Hp) (a:Addr) (u:HO):Prop:=H a=some u\/∃ o,H a=some (.frz o u)
theorem Rd.ok {P:Program} {w:World} {H:Hp} {h:Heap} {a:Addr} {u:HO} (r:Rd H a u) (x:HOk P w H h):ObjOk P w H h a u:=by
 rcases r with r | ⟨o,r⟩
 ·exact x a u r
 ·obtain ⟨_,q⟩:=x a _ r
  exact q
def Mut:Option HO->Prop
 | some (.lst _)=>True
 | some (.dK _)=>True
 | some (.dT _)=>True
 | some (.set _ _)=>True
 | some (.ins _ _ _)=>True
 | some (.ext _)=>True
 | _=>False
section
variable {P:Program} {w:World} {H:Hp} {h h':Heap} {x e:Addr} {o':HO}
theorem HOk.write (ok:HOk P w H h) (mu:Mut (H x)) (he:e=x\/H e=some (.own x)) (k:∀ b u,b≠e->h.get? b=some u->h'.get? b=some u) (heo:∃ u,h'.get? e=some u)
  (new:ObjOk P w (upd H x o') h' x o'):HOk P w (upd H x o') h':=fun b u q=>by
 have nown:∀ c y,H c=some (.own y)->c≠x:=fun c y r z=>by subst z;rw [r] at mu;exact mu
 have ntup:∀ c xs,H c=some (.tup xs)->c≠x:=fun c xs r z=>by subst z;rw [r] at mu;exact mu
 by_cases hb:b=x
 ·subst hb;rw [upd_same] at q;cases q;exact new
 ·rw [upd_ne hb] at q
  by_cases hbe:b=e
  ·have q':H b=some (.own x):=by
    rcases he with z | z
    ·exact absurd (hbe.trans z) hb
    ·rw [hbe];exact z
   rw [q] at q';cases q'
   obtain ⟨v,hv⟩:=heo
   exact ⟨v,by rw [hbe];exact hv⟩
  ·refine (ok b u q).stay (fun c v hc r=>k c v ?_ r) (fun c r=>by rw [upd_ne (nown c b r)];exact r) fun c xs r=>by rw [upd_ne (ntup c xs r)];exact r
   rcases hc with rfl | hc
   ·exact hbe
   ·rintro rfl
    rcases he with z | z
    ·exact nown c b hc z
    ·rw [hc] at z;cases z;exact hb rfl
end
structure Un (fs ex:List Addr) (H H':Hp) (h h':Heap):Prop where
 keep:∀ b o,h.get? b=some o->H b=none->b∉fs->b∉ex->h'.get? b=some o
 slot:∀ b o,h.get? b=some o->H b=none->b∈fs->b∉ex->∃ sl,h'.get? b=some { o with slots:=sl }
 free:∀ b o,h.get? b=some o->H b=none->b∉ex->H' b=none
 there:∀ b o,h.get? b=some o->b∉ex->∃ o',h'.get? b=some o'
 tups:∀ b xs,H b=some (.tup xs)->H' b=some (.tup xs)
 frzs:∀ b o u,H b=some (.frz o u)->H' b=some (.frz o u)
 tbls:∀ b ps,H b=some (.tbl ps)->∃ more,H' b=some (.tbl (ps++more))
section
variable {fs fs' ex ex':List Addr} {H H1 H2:Hp} {h h1 h2 h':Heap} {a x e:Addr} {o:HO}
theorem Un.any (u:Un fs ex H H1 h h1) {b:Addr} {ob:Obj} (q:h.get? b=some ob) (n:H b=none) (hx:b∉ex):∃ sl,h1.get? b=some { ob with slots:=sl }:=by
 by_cases hb:b∈fs
 ·exact u.slot b ob q n hb hx
 ·exact ⟨ob.slots,u.keep b ob q n hb hx⟩
theorem Un.kept (k:∀ b u,h.get? b=some u->h'.get? b=some u):Un fs ex H H h h' :=
 ⟨fun b ob q _ _ _=>k b ob q,fun b ob q _ _ _=>⟨ob.slots,k b ob q⟩,fun _ _ _ n _=>n,fun b ob q _=>⟨ob,k b ob q⟩,fun _ _ q=>q,fun _ _ _ q=>q,fun _ ps q=>⟨#[],by rw [q];simp⟩⟩
theorem Un.refl:Un fs ex H H h h:=Un.kept fun _ _ q=>q
theorem Un.laid (k:∀ b u,h.get? b=some u->h'.get? b=some u) (hp:h.objs.size<=a) (hn:H a=none):Un fs ex H (upd H a o) h h' where
 keep:=fun b u q _ _ _=>k b u q
 slot:=fun b u q _ _ _=>⟨u.slots,k b u q⟩
 free:=fun b u q n _=>by rw [upd_ne (Nat.ne_of_lt (Nat.lt_of_lt_of_le (Heap.lt_size q) hp))];exact n
 there:=fun b u q _=>⟨u,k b u q⟩
 tups:=fun b xs q=>by rw [upd_ne (ne_of_none q hn)];exact q
 frzs:=fun b u xs q=>by rw [upd_ne (ne_of_none q hn)];exact q
 tbls:=fun b ps q=>⟨#[],by rw [upd_ne (ne_of_none q hn),q];simp⟩
theorem Un.write (mu:Mut (H x)) (he:e=x\/H e=some (.own x)) (k:∀ b u,b≠e->h.get? b=some u->h'.get? b=some u) (heo:∃ u,h'.get? e=some u):Un fs ex H (upd H x o) h h':=by
 have hx:∀ b,H b=none->b≠x:=fun b n z=>by subst z;rw [n] at mu;exact mu
 have hb:∀ b,H b=none->b≠e:=fun b n z=>by
  subst z
  rcases he with r | r
  ·exact hx b n r
  ·rw [n] at r;cases r
 have hm:∀ b u,H b=some u->¬ Mut (some u)->b≠x:=fun b u q nm z=>by subst z;rw [q] at mu;exact nm mu
 refine ⟨fun b u q n _ _=>k b u (hb b n) q,fun b u q n _ _=>⟨u.slots,k b u (hb b n) q⟩,fun b u q n _=>by rw [upd_ne (hx b n)];exact n,fun b u q _=>?_,
  fun b xs q=>by rw [upd_ne (hm b _ q fun z=>z)];exact q,fun b u xs q=>by rw [upd_ne (hm b _ q fun z=>z)];exact q,fun b ps q=>⟨#[],by rw [upd_ne (hm b _ q fun z=>z),q];simp⟩⟩
 by_cases hbe:b=e
 ·subst hbe;exact heo
 ·exact ⟨u,k b u hbe q⟩
end
def trk (h:Heap) (H:Hp):List Addr:=(List.range h.objs.size).filter fun a=>(H a).isSome
def hidT (h:Heap) (H:Hp):Heap:=PySem.W.hideAll h (trk h H)
theorem hidT_size (h:Heap) (H:Hp):(hidT h H).objs.size=h.objs.size:=PySem.W.hideAll_size _ _
theorem hidT_get {h:Heap} {H:Hp} {b:Addr} {o:Obj} (e:h.get? b=some o) (n:H b=none):(hidT h H).get? b=some o :=
 PySem.W.hideAll_get _ e fun hm=>by
  have q:(H b).isSome=true:=(List.mem_filter.mp hm).2
  rw [n] at q;simp at q
theorem of_hidT {h:Heap} {H:Hp} {b:Addr} {o:Obj} (e:(hidT h H).get? b=some o):h.get? b=some o/\H b=none:=by
 have e':h.get? b=some o:=PySem.W.of_hideAll (trk h H) e
 refine ⟨e',?_⟩
 cases q:H b with
 | none=>rfl
 | some x =>
  have hm:b∈trk h H:=List.mem_filter.mpr ⟨List.mem_range.mpr (Heap.lt_size e'),by simp [q]⟩
  have z:(hidT h H).get? b=none:=PySem.W.hideAll_none (trk h H) hm
  rw [z] at e;cases e
def allNews (g h:Heap) (L:Addr):List (Addr × Obj):=(List.range h.objs.size).filterMap fun a=>if a=L\/(g.get? a).isSome=true then none else (h.get? a).map fun o=>(a,o)
def rest (g h:Heap) (L d:Addr):List (Addr × Obj):=(allNews g h L).filter fun p=>decide (p.1≠d)
structure Mod (K:PySem.W.Frag) (mg:Str->Option Value) (base:Heap):Prop where
 kin:K.In base
 glob:base.Ns mainGlobals mg
 blt:∃ mb,base.Ns builtinsNs mb/\∀ x:Str,x ≠ "__name__" -> mb x=bootBuiltins x
 nolimit:base.NoLimit
structure Cx where
 prog:Program
 w:World
 K:PySem.W.Frag
 mg:Str->Option Value
 base:Heap
 A:Around
 N:List Str
 s₀:Shared
 H₀:Hp
 env:Env
 outer:List Env
 stack:List Env
 ex:List Addr
 fn:Str->Bool
 calm:Bool
 pn:List (Addr × Obj)
 xe:Value->Shared->Prop
abbrev HfX (X:Cx) (p:Pos) (e:Expr):Prop:=((backTo p (starEach [e] X.env)).all (fun x=>!x.1) && (backToKw p (keywordEach [] X.env)).all (fun x=>x.1.isSome) && decide (([e] : List Expr).length+([] : List Keyword).length+(if ([] : List Keyword).isEmpty then 0 else 1) < 30))=true
abbrev NpX (X:Cx) (p:Pos):Prop:=(backTo p (starEach ([] : List Expr) X.env)).any (·.1)=false
abbrev SeX (X:Cx) (e:Expr):Prop:=starEach [e] X.env=(false,eval e X.env) :: starEach [] X.env
def frs (l:List Env):List Addr:=l.filterMap (·.frame)
abbrev Cx.fs (X:Cx):List Addr:=frs X.outer
def Vis (sc:Scope) (x:Str):Prop:=sc.names.lookup x=some .local\/sc.names.lookup x=some .cell\/sc.names.lookup x=some .free
def Loc (sc:Scope) (x:Str):Prop:=sc.names.lookup x=some .local\/sc.names.lookup x=some .cell
def Look (env:Env) (h:Heap) (m:Str->Option Value) (x:Str) (u:Value):Prop :=
 (env.kindOf x=some .local/\m x=some u)\/((env.kindOf x=some .cell\/env.kindOf x=some .free)/\∃ c,env.cells.lookup x=some c/\h.IsCell c (some u))
structure Cx.Ok (X:Cx):Prop where
 mod:Mod X.K X.mg X.base
 kind:X.env.scope.kind=.function
 glob:X.env.globals=mainGlobals
 blt:X.env.builtins=builtinsNs
 above:X.s₀.heap.objs.size<=X.env.locals
 inj:∀ x y c,X.env.cells.lookup x=some c->X.env.cells.lookup y=some c->x=y
 has:∀ x,(X.env.kindOf x=some .cell\/X.env.kindOf x=some .free)->∃ c,X.env.cells.lookup x=some c
 cab:∀ x c,X.fn x=true->X.env.cells.lookup x=some c->X.s₀.heap.objs.size<=c
 hd:X.calm=true->X.A.handled=none
 frames:X.A.frames=some X.stack
 stk:X.stack=X.outer\/(X.stack=X.env :: X.outer/\X.env.frame=some X.env.locals)
 exf:∀ b∈X.ex,b≠X.env.locals/\∀ x c,X.env.cells.lookup x=some c->c≠b
 bs:∀ b o,X.base.get? b=some o->X.s₀.heap.get? b=some o/\X.H₀ b=none
 bsz:X.base.objs.size<=X.s₀.heap.objs.size
 noex:∀ b o,X.base.get? b=some o->b∉X.ex
 exfs:∀ b∈X.ex,b∉X.fs
 funs:X.s₀.heap.FunFrames X.base X.outer
 frf:∀ b∈X.fs,X.H₀ b=none
structure Inv (X:Cx) (pins:List (Addr × Obj)) (σ:List (Option V)) (H:Hp) (s:Shared):Prop where
 ok:X.Ok
 os:s.os=X.s₀.os
 bare:AllBare s.gens
 base:Un X.fs X.ex X.H₀ H X.s₀.heap s.heap
 loc:∃ m,s.heap.Ns X.env.locals m/\∀ (i:Nat) (x:Str) (v:V),X.N[i]?=some x->σ[i]?=some (some v)->Vis X.env.scope x->∃ u,RelV v u/\Look X.env s.heap m x u
 cell:∀ x c,X.env.cells.lookup x=some c->∃ v,s.heap.IsCell c v
 free:H X.env.locals=none
 freeC:∀ x c,X.env.cells.lookup x=some c->H c=none
 pin:∀ p∈X.pn++pins,s.heap.get? p.1=some p.2/\H p.1=none/\p.1≠X.env.locals/\p.1∉X.fs/\∀ v,p.2.data≠.cell v
 hok:HOk X.prog X.w H s.heap
 len:σ.length=X.N.length
section
variable {X:Cx} {pins:List (Addr × Obj)} {σ:List (Option V)} {H H':Hp} {s:Shared} {h':Heap}
theorem Cx.Ok.nofr (ok:X.Ok) {b:Addr} {o:Obj} (e:X.base.get? b=some o):b∉X.fs:=fun hb=>by
 have:=(ok.funs.mem hb).1
 rw [e] at this;cases this
theorem Inv.bs (I:Inv X pins σ H s):∀ b o,X.base.get? b=some o->s.heap.get? b=some o/\H b=none:=fun b o e =>
 ⟨I.base.keep b o (I.ok.bs b o e).1 (I.ok.bs b o e).2 (I.ok.nofr e) (I.ok.noex b o e),I.base.free b o (I.ok.bs b o e).1 (I.ok.bs b o e).2 (I.ok.noex b o e)⟩
theorem Inv.bk (I:Inv X pins σ H s):∀ b o,X.base.get? b=some o->s.heap.get? b=some o:=fun b o e=>(I.bs b o e).1
theorem Inv.mod (I:Inv X pins σ H s):Mod X.K X.mg X.base:=I.ok.mod
theorem Inv.kIn (I:Inv X pins σ H s):X.K.In s.heap:=I.ok.mod.kin.keeps I.bk
theorem Inv.lt (I:Inv X pins σ H s):X.env.locals < s.heap.objs.size:=let ⟨_,hn,_⟩:=I.loc;hn.lt
theorem Inv.sz (I:Inv X pins σ H s):X.s₀.heap.objs.size<=s.heap.objs.size:=Nat.le_trans I.ok.above (Nat.le_of_lt I.lt)
theorem Inv.nofs (I:Inv X pins σ H s) {a:Addr} (h:s.heap.objs.size<=a):a∉X.fs:=fun hb=>by
 obtain ⟨_,o,ho,_⟩:=I.ok.funs.mem hb
 exact absurd (Nat.lt_of_lt_of_le (Heap.lt_size ho) (Nat.le_trans I.sz h)) (Nat.lt_irrefl _)
theorem Inv.cne (I:Inv X pins σ H s):∀ x c,X.env.cells.lookup x=some c->c≠X.env.locals:=fun x c e z=>by
 obtain ⟨v,o,ho,hd⟩:=I.cell x c e
 obtain ⟨m,⟨o',es,ep,ho',hd',_⟩,_⟩:=I.loc
 rw [z,ho'] at ho;cases ho;rw [hd'] at hd;cases hd
theorem Inv.funs (I:Inv X pins σ H s):s.heap.FunFrames X.base X.outer:=by
 have all:∀ (l:List Env),(∀ b∈frs l,b∈X.fs)->X.s₀.heap.FunFrames X.base l->s.heap.FunFrames X.base l:=by
  intro l
  induction l with
  | nil=>intro _ _;trivial
  | cons env r ih =>
   intro hs hl
   obtain ⟨hk,⟨L,o,hf,hn,ho,hd⟩,hr⟩:=hl
   have hL:L∈X.fs:=hs L (by unfold frs;rw [List.filterMap_cons,hf];exact List.mem_cons_self)
   obtain ⟨sl,e⟩:=I.base.slot L o ho (I.ok.frf L hL) hL fun z=>I.ok.exfs L z hL
   exact ⟨hk,⟨L,_,hf,hn,e,hd⟩,ih (fun b hb=>hs b (by unfold frs;rw [List.filterMap_cons,hf];exact List.mem_cons_of_mem _ hb)) hr⟩
 exact all X.outer (fun _ hb=>hb) I.ok.funs
theorem Inv.stack (I:Inv X pins σ H s):s.heap.FunFrames X.base X.stack:=by
 rcases I.ok.stk with e | ⟨e,hf⟩
 ·rw [e];exact I.funs
 ·rw [e]
  obtain ⟨m,hn,_⟩:=I.loc
  refine .cons (by rw [I.ok.kind];decide) hf hn ?_ I.funs
  exact Heap.get?_none_of_le (Nat.le_trans I.ok.bsz I.ok.above)
theorem Inv.stkSub (I:Inv X pins σ H s):∀ b∈frs X.stack,b∈X.env.locals :: X.fs:=fun b hb=>by
 rcases I.ok.stk with e | ⟨e,hf⟩
 ·rw [e] at hb;exact List.mem_cons_of_mem _ hb
 ·rw [e] at hb
  unfold frs at hb
  rw [List.filterMap_cons,hf] at hb
  exact hb
theorem Inv.stkFree (I:Inv X pins σ H s):∀ b∈frs X.stack,H b=none:=fun b hb=>by
 rcases List.mem_cons.mp (I.stkSub b hb) with e | hb
 ·rw [e];exact I.free
 ·obtain ⟨_,o,ho,_⟩:=I.ok.funs.mem hb
  exact I.base.free b o ho (I.ok.frf b hb) fun z=>I.ok.exfs b z hb
theorem Inv.step {g':Array GenState} {t':Nat} {d':Drawn} {ch:List Addr} (I:Inv X pins σ H s)
  (hch:∀ b∈ch,(b∈X.ex\/X.s₀.heap.objs.size<=b)/\b≠X.env.locals/\(∀ x c,X.env.cells.lookup x=some c->c≠b)/\∀ p∈X.pn++pins,p.1≠b)
  (keep:∀ b o,b≠X.env.locals->b∉X.fs->b∉ch->s.heap.get? b=some o->H b=none->h'.get? b=some o)
  (slot:∀ b o,b≠X.env.locals->b∈X.fs->b∉ch->s.heap.get? b=some o->H b=none->∃ sl,h'.get? b=some { o with slots:=sl }) (free:∀ b o,b∉ch->s.heap.get? b=some o->H b=none->H' b=none)
  (there:∀ b o,b∉ch->s.heap.get? b=some o->∃ o',h'.get? b=some o')
  (tups:∀ b xs,H b=some (.tup xs)->H' b=some (.tup xs)) (frzs:∀ b o u,H b=some (.frz o u)->H' b=some (.frz o u)) (tbls:∀ b ps,H b=some (.tbl ps)->∃ more,H' b=some (.tbl (ps++more)))
  (ns:∀ m,s.heap.Ns X.env.locals m->h'.Ns X.env.locals m) (hok:HOk X.prog X.w H' h') (hg:AllBare g') :
  Inv X pins σ H' { s with heap:=h',gens:=g',drawn:=d',toks:=t' }:=by
 have neL:∀ b o,X.s₀.heap.get? b=some o->b≠X.env.locals:=fun b o e=>Nat.ne_of_lt (Nat.lt_of_lt_of_le (Heap.lt_size e) I.ok.above)
 have neC:∀ b o,X.s₀.heap.get? b=some o->b∉X.ex->b∉ch:=fun b o e hx hb=>by
  rcases (hch b hb).1 with z | z
  ·exact hx z
  ·exact absurd (Nat.lt_of_lt_of_le (Heap.lt_size e) z) (Nat.lt_irrefl _)
 have cellK:∀ x c,X.env.cells.lookup x=some c->∀ v,s.heap.IsCell c v->h'.IsCell c v:=fun x c e v ⟨o,ho,hd⟩=>by
  have nch:c∉ch:=fun z=>(hch c z).2.2.1 x c e rfl
  by_cases hc:c∈X.fs
  ·obtain ⟨sl,q⟩:=slot c o (I.cne x c e) hc nch ho (I.freeC x c e)
   exact ⟨_,q,hd⟩
  ·exact ⟨o,keep c o (I.cne x c e) hc nch ho (I.freeC x c e),hd⟩
 refine ⟨I.ok,I.os,hg,⟨fun b o e n hb hx=>?_,fun b o e n hb hx=>?_,fun b o e n hx=>?_,fun b o e hx=>?_,fun b xs e=>tups b xs (I.base.tups b xs e),fun b o xs e=>frzs b o xs (I.base.frzs b o xs e),fun b ps e=>?_⟩,?_,fun x c e=>?_,?_,fun x c e=>?_,fun p hp=>?_,hok,I.len⟩
 ·exact keep b o (neL b o e) hb (neC b o e hx) (I.base.keep b o e n hb hx) (I.base.free b o e n hx)
 ·obtain ⟨sl,e1⟩:=I.base.slot b o e n hb hx
  obtain ⟨sl',e2⟩:=slot b _ (neL b o e) hb (neC b o e hx) e1 (I.base.free b o e n hx)
  exact ⟨sl',e2⟩
 ·obtain ⟨o',e1⟩:=I.base.there b o e hx
  exact free b o' (neC b o e hx) e1 (I.base.free b o e n hx)
 ·obtain ⟨o',e1⟩:=I.base.there b o e hx
  exact there b o' (neC b o e hx) e1
 ·obtain ⟨m1,e1⟩:=I.base.tbls b ps e
  obtain ⟨m2,e2⟩:=tbls b _ e1
  exact ⟨m1++m2,by rw [e2,Array.append_assoc]⟩
 ·obtain ⟨m,hn,hl⟩:=I.loc
  refine ⟨m,ns m hn,fun i x v e1 e2 e3=>?_⟩
  obtain ⟨u,r,l⟩:=hl i x v e1 e2 e3
  refine ⟨u,r,?_⟩
  rcases l with l | ⟨k,c,e,z⟩
  ·exact .inl l
  ·exact .inr ⟨k,c,e,cellK x c e _ z⟩
 ·obtain ⟨v,z⟩:=I.cell x c e
  exact ⟨v,cellK x c e v z⟩
 ·obtain ⟨m,⟨o,_,_,ho,_⟩,_⟩:=I.loc
  exact free _ o (fun z=>(hch _ z).2.1 rfl) ho I.free
 ·obtain ⟨v,o,ho,hd⟩:=I.cell x c e
  exact free c o (fun z=>(hch c z).2.2.1 x c e rfl) ho (I.freeC x c e)
 ·obtain ⟨e,n,ne,nf,d⟩:=I.pin p hp
  have nch:p.1∉ch:=fun z=>(hch p.1 z).2.2.2 p hp rfl
  exact ⟨keep p.1 p.2 ne nf nch e n,free p.1 p.2 nch e n,ne,nf,d⟩
theorem Inv.un {t':Nat} (I:Inv X pins σ H s) (u:Un X.fs [] H H' s.heap h') (hok:HOk X.prog X.w H' h'):Inv X pins σ H' { s with heap:=h',toks:=t' }:=by
 obtain ⟨m,⟨o,es,ep,ho,r⟩,_⟩:=id I.loc
 obtain ⟨sl,hL⟩:=u.any ho I.free (by simp)
 exact I.step (g':=s.gens) (d':=s.drawn) (ch:=[]) (fun _ z=>nomatch z) (fun b o _ hb _ e n=>u.keep b o e n hb (by simp)) (fun b o _ hb _ e n=>u.slot b o e n hb (by simp)) (fun b o _ e n=>u.free b o e n (by simp)) (fun b o _ e=>u.there b o e (by simp)) u.tups u.frzs u.tbls (fun m' hm=>by
  obtain ⟨o',es',ep',ho',r'⟩:=hm
  rw [ho] at ho';cases ho'
  exact ⟨_,es',ep',hL,r'⟩) hok I.bare
theorem Inv.call {g':Array GenState} {t':Nat} {d':Drawn} {ch:List Addr} (I:Inv X pins σ H s) (u:Un (frs X.stack) ch H H' s.heap h') (hok:HOk X.prog X.w H' h') (hg:AllBare g')
  (hch:∀ b∈ch,(b∈X.ex\/X.s₀.heap.objs.size<=b)/\b≠X.env.locals/\(∀ x c,X.env.cells.lookup x=some c->c≠b)/\∀ p∈X.pn++pins,p.1≠b) :
  Inv X pins σ H' { s with heap:=h',gens:=g',drawn:=d',toks:=t' }:=by
 obtain ⟨m,⟨o,es,ep,ho,r⟩,_⟩:=id I.loc
 obtain ⟨sl,hL⟩:=u.any ho I.free fun z=>(hch _ z).2.1 rfl
 exact I.step (ch:=ch) hch (fun b o hL hb hc e n=>u.keep b o e n (fun z=>(List.mem_cons.mp (I.stkSub b z)).elim hL hb) hc) (fun b o _ _ hc e n=>u.any e n hc) (fun b o hc e n=>u.free b o e n hc) (fun b o hc e=>u.there b o e hc) u.tups u.frzs u.tbls (fun m' hm=>by
  obtain ⟨o',es',ep',ho',r'⟩:=hm
  rw [ho] at ho';cases ho'
  exact ⟨_,es',ep',hL,r'⟩) hok hg
theorem Inv.turned {t':Nat} {it:Addr} (I:Inv X pins σ H s) (k:∀ b o,b≠it->s.heap.get? b=some o->h'.get? b=some o) (hn:H it=none) (hL:it≠X.env.locals)
  (h1:it∈X.ex\/X.s₀.heap.objs.size<=it) (h2:∀ x c,X.env.cells.lookup x=some c->c≠it) (h3:∀ p∈X.pn++pins,p.1≠it):Inv X pins σ H { s with heap:=h',toks:=t' }:=by
 have nit:∀ b u,H b=some u->b≠it:=fun b u e z=>by rw [z,hn] at e;cases e
 refine I.step (g':=s.gens) (d':=s.drawn) (ch:=[it]) (fun b hb=>?_) (fun b o _ _ hc e _=>k b o (fun z=>hc (by simp [z])) e) (fun b o _ _ hc e _=>⟨o.slots,k b o (fun z=>hc (by simp [z])) e⟩) (fun _ _ _ _ n=>n)
  (fun b o hc e=>⟨o,k b o (fun z=>hc (by simp [z])) e⟩) (fun _ _ e=>e) (fun _ _ _ e=>e) (fun b ps e=>⟨#[],by rw [e];simp⟩) (fun m hm=>?_) (fun b u e=>?_) I.bare
 ·have e:b=it:=by simpa using hb
  subst e
  exact ⟨h1,hL,h2,h3⟩
 ·obtain ⟨o,es,ep,ho,r⟩:=hm
  exact ⟨o,es,ep,k _ o (Ne.symm hL) ho,r⟩
 ·refine (I.hok b u e).stay (fun c v hc q=>k c v ?_ q) (fun _ q=>q) fun _ _ q=>q
  rcases hc with z | z
  ·rw [z];exact nit b u e
  ·exact nit c _ z
theorem Inv.tok (I:Inv X pins σ H s) (t:Nat):Inv X pins σ H { s with toks:=t }:=I.un (h':=s.heap) (t':=t) Un.refl I.hok
theorem Inv.kept {t':Nat} (I:Inv X pins σ H s) (k:∀ b u,s.heap.get? b=some u->h'.get? b=some u):Inv X pins σ H { s with heap:=h',toks:=t' }:=I.un (Un.kept k) (I.hok.kept k)
theorem Inv.laid {a:Addr} {o:HO} {t':Nat} (I:Inv X pins σ H s) (k:∀ b u,s.heap.get? b=some u->h'.get? b=some u) (hp:s.heap.objs.size<=a) (new:ObjOk X.prog X.w (upd H a o) h' a o) :
  Inv X pins σ (upd H a o) { s with heap:=h',toks:=t' }:=I.un (Un.laid k hp (I.hok.fresh hp)) (I.hok.laid k hp new)
theorem Inv.write {x e:Addr} {o:HO} {t':Nat} (I:Inv X pins σ H s) (mu:Mut (H x)) (he:e=x\/H e=some (.own x)) (k:∀ b u,b≠e->s.heap.get? b=some u->h'.get? b=some u) (heo:∃ u,h'.get? e=some u)
  (new:ObjOk X.prog X.w (upd H x o) h' x o):Inv X pins σ (upd H x o) { s with heap:=h',toks:=t' }:=I.un (Un.write mu he k heo) (I.hok.write mu he k heo new)
theorem Inv.pins_of {pins':List (Addr × Obj)} (I:Inv X pins σ H s) (h:∀ p∈pins',s.heap.get? p.1=some p.2/\H p.1=none/\p.1≠X.env.locals/\p.1∉X.fs/\∀ v,p.2.data≠.cell v):Inv X pins' σ H s :=
 ⟨I.ok,I.os,I.bare,I.base,I.loc,I.cell,I.free,I.freeC,fun p hp=>(List.mem_append.mp hp).elim (fun z=>I.pin p (List.mem_append_left _ z)) (h p),I.hok,I.len⟩
theorem nodup_ix {N:List Str} (hN:N.Nodup) {i j:Nat} {x:Str} (a:N[i]?=some x) (b:N[j]?=some x):i=j:=by
 obtain ⟨h1,e1⟩:=List.getElem?_eq_some_iff.mp a
 obtain ⟨h2,e2⟩:=List.getElem?_eq_some_iff.mp b
 exact (List.getElem_inj hN).mp (e1.trans e2.symm)
theorem store_ok2 {M:Model} {A:Around} {E:Value->Shared->Prop} {i:Nat} {x:Str} {v:V} {u:Value} {Q:Unit->Shared->Prop} (I:Inv X pins σ H s) (hN:X.N.Nodup) (hi:X.N[i]?=some x) (hx:Loc X.env.scope x) (r:RelV v u)
  (h:∀ s',Inv X pins (σ.set i (some v)) H s'->(∃ a,Heap.SameBut a s.heap s'.heap/\(a=X.env.locals\/X.env.cells.lookup x=some a))->Q () s') (hf:X.fn x=true\/X.env.scope.names.lookup x=some .local:=by first | exact .inl rfl | exact .inr rfl | assumption):wpAny M A (storeName X.env x u) Q E s:=by
 obtain ⟨m,hn,hl⟩:=id I.loc
 have hcls:(X.env.scope.kind == .class || (X.env.scope.kind == .module && X.env.locals != X.env.globals))=false:=by rw [I.ok.kind];rfl
 have hiσ:i < σ.length:=by rw [I.len];exact (List.getElem?_eq_some_iff.mp hi).1
 have cne:=I.cne
 have tracked:∀ {a:Addr} {h':Heap},(∃ o,s.heap.get? a=some o/\H a=none)->Heap.SameBut a s.heap h'->HOk X.prog X.w H h':=fun {a h'} ha hs b ob e=>by
  obtain ⟨_,_,hfree⟩:=ha
  refine (I.hok b ob e).stay (fun c w' hc q=>(hs.2 c ?_).trans q) (fun _ q=>q) fun _ _ q=>q
  rintro rfl
  rcases hc with rfl | hc
  ·rw [hfree] at e;cases e
  ·rw [hfree] at hc;cases hc
 rcases hx with hk | hk
 ·refine wpAny_storeName_local hk hn (fun h' hn' hs=>?_) hcls
  obtain ⟨oL,_,_,hoL,_⟩:=id hn
  refine h _ ⟨I.ok,I.os,I.bare,⟨fun b o e n hb hx=>?_,fun b o e n hb hx=>?_,I.base.free,fun b o e hx=>?_,I.base.tups,I.base.frzs,I.base.tbls⟩,⟨_,hn',fun j y v' e1 e2 e3=>?_⟩,fun y c e=>?_,I.free,I.freeC,fun p hp=>?_,tracked ⟨oL,hoL,I.free⟩ hs,by simpa using I.len⟩ ⟨_,hs,.inl rfl⟩
  ·exact (hs.2 b (Nat.ne_of_lt (Nat.lt_of_lt_of_le (Heap.lt_size e) I.ok.above))).trans (I.base.keep b o e n hb hx)
  ·obtain ⟨sl,e1⟩:=I.base.slot b o e n hb hx
   exact ⟨sl,(hs.2 b (Nat.ne_of_lt (Nat.lt_of_lt_of_le (Heap.lt_size e) I.ok.above))).trans e1⟩
  ·obtain ⟨o',e1⟩:=I.base.there b o e hx
   exact ⟨o',(hs.2 b (Nat.ne_of_lt (Nat.lt_of_lt_of_le (Heap.lt_size e) I.ok.above))).trans e1⟩
  ·by_cases hj:j=i
   ·subst hj
    rw [hi] at e1;cases e1
    rw [List.getElem?_set_self hiσ] at e2
    cases e2
    exact ⟨u,r,.inl ⟨hk,by simp⟩⟩
   ·rw [List.getElem?_set_ne (Ne.symm hj)] at e2
    obtain ⟨u',r',q⟩:=hl j y v' e1 e2 e3
    refine ⟨u',r',?_⟩
    rcases q with ⟨k,e⟩ | ⟨k,c,e,z⟩
    ·refine .inl ⟨k,?_⟩
     have:y≠x:=fun e=>hj (nodup_ix hN e1 (e ▸ hi))
     simp [this,e]
    ·exact .inr ⟨k,c,e,z.sameBut hs (cne y c e)⟩
  ·obtain ⟨w',z⟩:=I.cell y c e
   exact ⟨w',z.sameBut hs (cne y c e)⟩
  ·obtain ⟨e,n,ne,nf,d⟩:=I.pin p hp
   exact ⟨(hs.2 p.1 ne).trans e,n,ne,nf,d⟩
 ·have hfn:X.fn x=true:=by
   rcases hf with z | z
   ·exact z
   ·rw [z] at hk;cases hk
  obtain ⟨c,hc⟩:=I.ok.has x (.inl hk)
  obtain ⟨w',z⟩:=I.cell x c hc
  refine wpAny_storeName_cell I.ok.kind hk hc z (fun h' hc' hs=>?_)
  obtain ⟨oc,hoc,hocd⟩:=id z
  refine h { s with heap:=h' } ⟨I.ok,I.os,I.bare,⟨fun b o e n hb hx=>?_,fun b o e n hb hx=>?_,I.base.free,fun b o e hx=>?_,I.base.tups,I.base.frzs,I.base.tbls⟩,⟨m,hn.sameBut hs (Ne.symm (cne x c hc)),fun j y v' e1 e2 e3=>?_⟩,fun y c' e=>?_,I.free,I.freeC,fun p hp=>?_,tracked ⟨oc,hoc,I.freeC x c hc⟩ hs,by simpa using I.len⟩ ⟨c,hs,.inr hc⟩
  ·exact (hs.2 b (Nat.ne_of_lt (Nat.lt_of_lt_of_le (Heap.lt_size e) (I.ok.cab x c hfn hc)))).trans (I.base.keep b o e n hb hx)
  ·obtain ⟨sl,e1⟩:=I.base.slot b o e n hb hx
   exact ⟨sl,(hs.2 b (Nat.ne_of_lt (Nat.lt_of_lt_of_le (Heap.lt_size e) (I.ok.cab x c hfn hc)))).trans e1⟩
  ·obtain ⟨o',e1⟩:=I.base.there b o e hx
   exact ⟨o',(hs.2 b (Nat.ne_of_lt (Nat.lt_of_lt_of_le (Heap.lt_size e) (I.ok.cab x c hfn hc)))).trans e1⟩
  ·by_cases hj:j=i
   ·subst hj
    rw [hi] at e1;cases e1
    rw [List.getElem?_set_self hiσ] at e2
    cases e2
    exact ⟨u,r,.inr ⟨.inl hk,c,hc,hc'⟩⟩
   ·rw [List.getElem?_set_ne (Ne.symm hj)] at e2
    obtain ⟨u',r',q⟩:=hl j y v' e1 e2 e3
    refine ⟨u',r',?_⟩
    rcases q with q | ⟨k,c',e,z'⟩
    ·exact .inl q
    ·refine .inr ⟨k,c',e,z'.sameBut hs ?_⟩
     rintro rfl
     exact hj (nodup_ix hN e1 (I.ok.inj _ _ _ e hc ▸ hi))
  ·by_cases hcc:c'=c
   ·subst hcc;exact ⟨_,hc'⟩
   ·obtain ⟨w2,z2⟩:=I.cell y c' e
    exact ⟨w2,z2.sameBut hs hcc⟩
  ·obtain ⟨e,n,ne,nf,d⟩:=I.pin p hp
   refine ⟨(hs.2 p.1 ?_).trans e,n,ne,nf,d⟩
   intro q
   rw [q,hoc] at e
   have q':oc=p.2:=Option.some.inj e
   exact d w' (by rw [<- q'];exact hocd)
theorem store_ok {M:Model} {A:Around} {E:Value->Shared->Prop} {i:Nat} {x:Str} {v:V} {u:Value} {Q:Unit->Shared->Prop} (I:Inv X pins σ H s) (hN:X.N.Nodup) (hi:X.N[i]?=some x) (hx:Loc X.env.scope x) (r:RelV v u)
  (h:∀ s',Inv X pins (σ.set i (some v)) H s'->Q () s') (hf:X.fn x=true\/X.env.scope.names.lookup x=some .local:=by first | exact .inl rfl | exact .inr rfl | assumption):wpAny M A (storeName X.env x u) Q E s :=
 store_ok2 I hN hi hx r (fun s' I' _=>h s' I') hf
theorem Inv.call' {s':Shared} {ch:List Addr} (I:Inv X pins σ H s) (ho:s'.os=s.os) (u:Un (frs X.stack) ch H H' s.heap s'.heap) (hok:HOk X.prog X.w H' s'.heap) (hg:AllBare s'.gens)
  (hch:∀ b∈ch,(b∈X.ex\/X.s₀.heap.objs.size<=b)/\b≠X.env.locals/\(∀ x c,X.env.cells.lookup x=some c->c≠b)/\∀ p∈X.pn++pins,p.1≠b):Inv X pins σ H' s':=by
 obtain ⟨h',g',d',t',o'⟩:=s'
 have e:o'=s.os:=ho
 subst e
 exact I.call (g':=g') (t':=t') (d':=d') u hok hg hch
end
abbrev XK:=Value->Option Addr->Hp->Prop
abbrev St:=List (Option V)
abbrev VK:=V->Hp->Prop
abbrev TE:=St->Hp->VK->Prop
abbrev TT:=St->Hp->(Bool->Hp->Prop)->Prop
abbrev TA:=St->Hp->(List V->Hp->Prop)->Prop
structure Ends where
 nx:St->Hp->Prop
 rt:VK
 bk:St->Hp->Prop:=fun _ _=>False
 ct:St->Hp->Prop:=fun _ _=>False
abbrev TS:=Ends->St->Hp->Prop
def EP (X:Cx) (pins:List (Addr × Obj)) (σ:St) (Q:VK) (u:Value) (s':Shared):Prop:=∃ v H',Inv X pins σ H' s'/\RelV v u/\Q v H'
def TP (X:Cx) (pins:List (Addr × Obj)) (σ:St) (Q:Bool->Hp->Prop) (b:Bool) (s':Shared):Prop:=∃ H',Inv X pins σ H' s'/\Q b H'
def AP (X:Cx) (pins:List (Addr × Obj)) (σ:St) (Q:List V->Hp->Prop) (us:List Value) (s':Shared):Prop:=∃ vs H',Inv X pins σ H' s'/\Vals vs us/\Q vs H'
def SP (X:Cx) (pins:List (Addr × Obj)) (D:Ends) (f:Flow) (s':Shared):Prop :=
 match f with
 | .next=>∃ σ' H',Inv X pins σ' H' s'/\D.nx σ' H'
 | .brk=>∃ σ' H',Inv X pins σ' H' s'/\D.bk σ' H'
 | .cont=>∃ σ' H',Inv X pins σ' H' s'/\D.ct σ' H'
 | .ret u=>∃ v σ' H',Inv X pins σ' H' s'/\RelV v u/\D.rt v H'
def PE (X:Cx) (e:Expr) (t:TE):Prop :=
 ∀ (pins:List (Addr × Obj)) (s:Shared) (σ:St) (H:Hp) (Q:VK),Inv X pins σ H s->t σ H Q->wpAny (model X.prog X.w) X.A (eval e X.env) (EP X pins σ Q) X.xe s
def PA (X:Cx) (es:List Expr) (t:TA):Prop :=
 ∀ (pos:Pos) (pins:List (Addr × Obj)) (s:Shared) (σ:St) (H:Hp) (Q:List V->Hp->Prop),Inv X pins σ H s->t σ H Q->wpAny (model X.prog X.w) X.A (spliced (backTo pos (starEach es X.env))) (AP X pins σ Q) X.xe s
def PS (X:Cx) (st:Stmt) (t:TS):Prop :=
 ∀ (pins:List (Addr × Obj)) (s:Shared) (σ:St) (H:Hp) (D:Ends),Inv X pins σ H s->t D σ H->wpAny (model X.prog X.w) X.A (exec st X.env) (SP X pins D) X.xe s
def PSs (X:Cx) (st:List Stmt) (t:TS):Prop :=
 ∀ (pins:List (Addr × Obj)) (s:Shared) (σ:St) (H:Hp) (D:Ends),Inv X pins σ H s->t D σ H->wpAny (model X.prog X.w) X.A (execs st X.env) (SP X pins D) X.xe s
theorem thn {α:Type} {t:Sem α} {Q Q':α->Shared->Prop} {M:Model} {A:Around} {E:Value->Shared->Prop} {s:Shared} (h:wpAny M A t Q E s) (hQ:∀ a s,Q a s->Q' a s):wpAny M A t Q' E s:=wpAny_mono h hQ fun _ _ x=>x
section
variable {X:Cx}
def tVar (i:Nat):TE:=fun σ H Q=>∃ v,σ[i]?=some (some v)/\Q v H
def tC (v:V):TE:=fun _ H Q=>Q v H
theorem pe_var {i:Nat} {x:Str} {pos:Pos} (hN:X.N[i]?=some x) (hv:Vis X.env.scope x) (hd:(x == ("__debug__" : Str))=false:=by decide) (hcd:(x == ("__classdict__" : Str))=false:=by decide):PE X (.Name x pos) (tVar i):=by
 intro pins s σ H Q I h
 obtain ⟨v,e,h⟩:=h
 obtain ⟨m,hn,hl⟩:=I.loc
 obtain ⟨u,r,l⟩:=hl i x v hN e hv
 have fin:EP X pins σ Q u s:=⟨v,H,I,r,h⟩
 rcases l with ⟨hk,hm⟩ | ⟨hk,c,hc,hcell⟩
 ·exact wpAny_Name (wpAny_loadName_local I.ok.kind hk hn hm fin) hd
 ·rcases hk with hk | hk
  ·exact wpAny_Name (wpAny_loadName_cell I.ok.kind hk hc hcell fin) hd
  ·exact wpAny_Name (wpAny_loadName_free I.ok.kind hk hc hcell fin hcd) hd
theorem pe_int {i j pos}:PE X (.Constant (.int i) j pos) (tC (.int i)):=fun _ _ _ H _ I h=>wpAny_Constant_int ⟨.int i,H,I.tok _,⟨_,rfl⟩,h⟩
theorem pe_bl {b j pos}:PE X (.Constant (.bool b) j pos) (tC (.bl b)):=fun _ _ _ H _ I h=>Constant_bool ⟨.bl b,H,I,rfl,h⟩
theorem pe_non {j pos}:PE X (.Constant .none j pos) (tC .non):=fun _ _ _ H _ I h=>Constant_none ⟨.non,H,I,rfl,h⟩
theorem pe_str {x j pos}:PE X (.Constant (.str x) j pos) (tC (.str x)):=fun _ _ _ H _ I h=>Calls.Constant_str ⟨.str x,H,I.tok _,⟨_,rfl⟩,h⟩
def Gl (X:Cx) (x:Str):Prop:=X.env.kindOf x=some .globalImplicit
theorem ld_glob {E:Value->Shared->Prop} {pins:List (Addr × Obj)} {s:Shared} {σ:St} {H:Hp} {x:Str} {u:Value} {pos:Pos} {Q:Value->Shared->Prop} (I:Inv X pins σ H s) (hg:Gl X x) (hm:X.mg x=some u) (h:Q u s)
  (hd:(x == ("__debug__" : Str))=false:=by decide):wpAny (model X.prog X.w) X.A (eval (.Name x pos) X.env) Q E s :=
 Calls.Name_function_global I.ok.kind hg (Calls.loadGlobal_global (by rw [I.ok.glob];exact I.mod.glob.keeps I.bk) hm h) hd
theorem ld_blt {E:Value->Shared->Prop} {pins:List (Addr × Obj)} {s:Shared} {σ:St} {H:Hp} {x:Str} {u:Value} {pos:Pos} {Q:Value->Shared->Prop} (I:Inv X pins σ H s) (hg:Gl X x) (hm:X.mg x=none) (hv:bootBuiltins x=some u) (h:Q u s)
  (hn:x ≠ "__name__" := by decide) (hd:(x == ("__debug__" : Str))=false:=by decide):wpAny (model X.prog X.w) X.A (eval (.Name x pos) X.env) Q E s:=by
 obtain ⟨mb,h1,h2⟩:=I.mod.blt
 exact Calls.Name_function_global I.ok.kind hg (Calls.loadGlobal_builtin (by rw [I.ok.glob];exact I.mod.glob.keeps I.bk) hm (by rw [I.ok.blt];exact h1.keeps I.bk) ((h2 x hn).trans hv) h) hd
theorem pe_glob {x:Str} {v:V} {u:Value} {pos:Pos} (hg:Gl X x) (hm:X.mg x=some u) (r:RelV v u) (hd:(x == ("__debug__" : Str))=false:=by decide):PE X (.Name x pos) (tC v) :=
 fun _ _ _ H _ I h=>ld_glob I hg hm ⟨v,H,I,r,h⟩ hd
variable {a b:Expr} {ta tb:TE} {pos:Pos}
variable {tA tB':TT} {rest:List Expr}
end
def SqL (K:PySem.W.Frag) (H:Hp) (a:Addr) (xs:List V):Prop :=
 Rd H a (.lst xs) \/
  ∃ (o:Obj) (its:Array Value) (n:Nat),K.lookup a=some o/\o.cls=.type "list" /\ o.dict=none/\o.data=.seq its n/\its.size<=sizeLine/\Vals xs its.toList
def SqT (K:PySem.W.Frag) (H:Hp) (a:Addr) (xs:List V):Prop :=
 Rd H a (.tup xs) \/
  ∃ (o:Obj) (its:Array Value) (n:Nat),K.lookup a=some o/\o.cls=.type "tuple" /\ o.data=.seq its n/\its.size<=sizeLine/\Vals xs its.toList
def absV:Value->Option V
 | .none=>some .non
 | .bool b=>some (.bl b)
 | .int i _=>some (.int i)
 | .str x _=>some (.str x)
 | .bytes b _=>some (.byt b)
 | .float b _=>some (.flt b)
 | .ref a=>some (.ref a)
 | .type n=>some (.ty n)
 | _=>none
theorem RelV.abs {x:V} {u:Value} (r:RelV x u):absV u=some x:=by
 cases x with
 | non=>cases r;rfl
 | bl _=>cases r;rfl
 | int _=>obtain ⟨t,rfl⟩:=r;rfl
 | str _=>obtain ⟨t,rfl⟩:=r;rfl
 | byt _=>obtain ⟨t,rfl⟩:=r;rfl
 | flt _=>obtain ⟨t,rfl⟩:=r;rfl
 | ref _=>cases r;rfl
 | ty _=>cases r;rfl
theorem RelV.inj {x y:V} {u:Value} (r:RelV x u) (q:RelV y u):x=y:=Option.some.inj (r.abs.symm.trans q.abs)
theorem Vals.inj:∀ {xs ys:List V} {us:List Value},Vals xs us->Vals ys us->xs=ys
 | _,_,_,.nil,.nil=>rfl
 | _,_,_,.cons r t,.cons r' t'=>by rw [r.inj r',Vals.inj t t']
section
variable {X:Cx} {pins:List (Addr × Obj)} {σ:St} {H:Hp} {s:Shared} {a:Addr} {xs ys:List V}
theorem SqL.of {K:PySem.W.Frag} (h:H a=some (.lst xs)):SqL K H a xs:=.inl (.inl h)
theorem SqT.of {K:PySem.W.Frag} (h:H a=some (.tup xs)):SqT K H a xs:=.inl (.inl h)
theorem Inv.list (I:Inv X pins σ H s) (h:SqL X.K H a xs):∃ its:List Value,Vals xs its/\PlainL s.heap a its.toArray/\xs.length<=sizeLine:=by
 rcases h with h | ⟨o,its,n,hk,hc,hd,hs,hz,r⟩
 ·obtain ⟨z,its,n,r,e⟩:=h.ok I.hok
  exact ⟨its,r,⟨_,n,e,rfl,rfl,rfl⟩,z⟩
 ·refine ⟨its.toList,r,⟨o,n,I.kIn a o hk,hc,hd,by simpa using hs⟩,?_⟩
  have e:=r.length
  simp only [Array.length_toList] at e
  omega
theorem Inv.tuple (I:Inv X pins σ H s) (h:SqT X.K H a xs):∃ its:List Value,Vals xs its/\IsTup s.heap a its.toArray/\xs.length<=sizeLine:=by
 rcases h with h | ⟨o,its,n,hk,hc,hs,hz,r⟩
 ·obtain ⟨z,its,r,p⟩:=h.ok I.hok
  exact ⟨its,r,p,z.1⟩
 ·refine ⟨its.toList,r,⟨o,I.kIn a o hk,hc,n,by simpa using hs⟩,?_⟩
  have e:=r.length
  simp only [Array.length_toList] at e
  omega
theorem Inv.list_inj (I:Inv X pins σ H s) (h:SqL X.K H a xs) (h':SqL X.K H a ys):xs=ys:=by
 obtain ⟨its,r,⟨o,n,e,_,_,d⟩,_⟩:=I.list h
 obtain ⟨its',r',⟨o',n',e',_,_,d'⟩,_⟩:=I.list h'
 rw [e] at e';cases e'
 rw [d] at d'
 injection d' with d1 _
 have:its=its':=by simpa using congrArg Array.toList d1
 subst this
 exact r.inj r'
theorem Inv.tuple_inj (I:Inv X pins σ H s) (h:SqT X.K H a xs) (h':SqT X.K H a ys):xs=ys:=by
 obtain ⟨its,r,⟨o,e,_,n,d⟩,_⟩:=I.tuple h
 obtain ⟨its',r',⟨o',e',_,n',d'⟩,_⟩:=I.tuple h'
 rw [e] at e';cases e'
 rw [d] at d'
 injection d' with d1 _
 have:its=its':=by simpa using congrArg Array.toList d1
 subst this
 exact r.inj r'
end
abbrev Cx.wish (X:Cx) (E:Value->Shared->Prop):Cx:={ X with xe:=E }
abbrev Cx.nox (X:Cx):Cx:=X.wish fun _ _=>False
theorem Cx.Ok.wish {X:Cx} (ok:X.Ok) (E:Value->Shared->Prop):(X.wish E).Ok :=
 ⟨ok.mod,ok.kind,ok.glob,ok.blt,ok.above,ok.inj,ok.has,ok.cab,ok.hd,ok.frames,ok.stk,ok.exf,ok.bs,ok.bsz,ok.noex,ok.exfs,ok.funs,ok.frf⟩
theorem Cx.Ok.unwish {X:Cx} {E:Value->Shared->Prop} (ok:(X.wish E).Ok):X.Ok :=
 ⟨ok.mod,ok.kind,ok.glob,ok.blt,ok.above,ok.inj,ok.has,ok.cab,ok.hd,ok.frames,ok.stk,ok.exf,ok.bs,ok.bsz,ok.noex,ok.exfs,ok.funs,ok.frf⟩
section
variable {X:Cx} {pins:List (Addr × Obj)} {σ:St} {H:Hp} {s:Shared} {E:Value->Shared->Prop}
theorem Inv.wish (I:Inv X pins σ H s) (E:Value->Shared->Prop):Inv (X.wish E) pins σ H s:=⟨I.ok.wish E,I.os,I.bare,I.base,I.loc,I.cell,I.free,I.freeC,I.pin,I.hok,I.len⟩
theorem Inv.unwish (I:Inv (X.wish E) pins σ H s):Inv X pins σ H s:=⟨I.ok.unwish,I.os,I.bare,I.base,I.loc,I.cell,I.free,I.freeC,I.pin,I.hok,I.len⟩
theorem SP.unwish {D:Ends} {f:Flow} {s':Shared} (h:SP (X.wish E) pins D f s'):SP X pins D f s':=by
 cases f with
 | next=>obtain ⟨σ',H',I,q⟩:=h;exact ⟨σ',H',I.unwish,q⟩
 | brk=>obtain ⟨σ',H',I,q⟩:=h;exact ⟨σ',H',I.unwish,q⟩
 | cont=>obtain ⟨σ',H',I,q⟩:=h;exact ⟨σ',H',I.unwish,q⟩
 | ret u=>obtain ⟨v,σ',H',I,r,q⟩:=h;exact ⟨v,σ',H',I.unwish,r,q⟩
theorem PSs.nox {st:List Stmt} {t:TS} (h:PSs X.nox st t):PSs X st t:=fun pins s σ H D I hw =>
 wpAny_mono (h pins s σ H D (I.wish _) hw) (fun _ _ q=>q.unwish) fun _ _ z=>False.elim z
end
section
variable {X:Cx} {st:Stmt} {rest:List Stmt} {t u:TS} {e:Expr} {te:TE} {pos:Pos}
theorem Inv.quiet {pins:List (Addr × Obj)} {σ:St} {H:Hp} {s:Shared} (I:Inv X pins σ H s):interactive X.env=false:=by simp [interactive,I.ok.kind]
end
abbrev TSet:=V->V->V->Hp->(Hp->Prop)->Prop
def PSet (X:Cx) (t:TSet):Prop :=
 ∀ (pins:List (Addr × Obj)) (s:Shared) (σ:St) (H:Hp) (o i v:V) (ov iv u:Value) (Q:Hp->Prop),Inv X pins σ H s->RelV o ov->RelV i iv->RelV v u->t o i v H Q ->
  wpAny (model X.prog X.w) X.A (setItem ov iv u) (fun _ s'=>∃ H',Inv X pins σ H' s'/\Q H') X.xe s
section
variable {X:Cx} {pos:Pos}
def tPar (i j:Nat) (ta:TA):TS:=fun D σ H=>ta σ H fun vs H1=>∃ v w,vs=[v,w]/\D.nx ((σ.set i (some v)).set j (some w)) H1
theorem ps_par {i j:Nat} {x y:Str} {a b:Expr} {ta:TA} {px py pt:Pos} {kt k2 pt2} (hc:X.calm=true) (hN:X.N.Nodup) (hi:X.N[i]?=some x) (hj:X.N[j]?=some y) (hij:i≠j)
  (hx:X.env.scope.names.lookup x=some .local) (hy:X.env.scope.names.lookup y=some .local) (ha:PA X [a,b] ta)
  (hw:swappedStores [.Tuple [.Name x px,.Name y py] kt pt] (.Tuple [a,b] k2 pt2) X.env=pure (some [x,y]))
  (hs:swapsWithSole [.Tuple [.Name x px,.Name y py] kt pt] (.Tuple [a,b] k2 pt2) pos.line X.env=pure false:=by rfl) :
  PS X (.Assign [.Tuple [.Name x px,.Name y py] kt pt] (.Tuple [a,b] k2 pt2) pos) (tPar i j ta):=by
 intro pins s σ H D I h
 rw [exec_Assign_arm]
 refine wpAny_bind (wpAny_standAt ?_)
 rw [hs]
 refine wpAny_bind (wpAny_pure ?_)
 rw [if_neg (by decide)]
 refine wpAny_bind (Tuple_ (thn (ha _ pins s σ H _ I h) fun us s1 ⟨vs,H1,I1,r1,q1⟩=>?_))
 obtain ⟨v,w,e1,q1⟩:=q1
 subst e1
 obtain ⟨u1,u2,rfl,rv,rw'⟩:∃ u1 u2,us=[u1,u2]/\RelV v u1/\RelV w u2:=by
  cases r1 with
  | cons p q =>
   cases q with
   | cons p' q' =>
    cases q'
    exact ⟨_,_,rfl,p,p'⟩
 refine wpAny_newObj_type ?_ (by show 2<=sizeLine;decide)
 have I2:Inv X pins σ H1 { s1 with heap:=s1.heap.push { cls:=.type "tuple",data:=.seq [u1,u2].toArray } }:=I1.kept (t':=s1.toks) fun b o e=>Heap.get?_push_of_some _ e
 rw [hw]
 refine wpAny_bind (wpAny_pure ?_)
 show wpAny (model X.prog X.w) X.A (do rule "assign.swapped-stores";let items <- unpackItems (.ref s1.heap.objs.size) 2 none;assignInOrder [fun v=>bindName X.env y v,fun v=>bindName X.env x v] items.reverse;pure Flow.next) _ _ _
 refine wpAny_bind (wpAny_rule (wpAny_bind (unpackItems_tuple (items:=#[u1,u2]) (I.ok.hd hc) (IsTup.new s1.heap _) fun h' hx'=>?_)))
 have I3:=I2.kept (h':=h') (t':=s1.toks) fun b o e=>hx' b o (Nat.ne_of_lt (Heap.lt_size e)) e
 show wpAny _ _ (assignInOrder [fun v=>bindName X.env y v,fun v=>bindName X.env x v] [u2,u1] >>= fun _=>pure Flow.next) _ _ _
 refine wpAny_bind (assignInOrder_cons (wpAny_bindName (store_ok I3 hN hj (.inl hy) rw' (fun s2 I4=>?_) (.inr hy))))
 refine assignInOrder_cons (wpAny_bindName (store_ok I4 hN hi (.inl hx) rv (fun s3 I5=>assignInOrder_nil (wpAny_pure ?_)) (.inr hx)))
 rw [List.set_comm _ _ (Ne.symm hij)] at I5
 exact ⟨_,H1,I5,q1⟩
end
section
variable {X:Cx} {pos:Pos}
end
structure It where
 go:Nat->Hp->Prop
 yld:Nat->Hp->V->Hp->Prop
 stop:Nat->Hp->Prop
def FpOk (X:Cx) (pins:List (Addr × Obj)) (H:Hp) (b:Addr):Prop :=
 H b=none/\b≠X.env.locals/\b∉X.fs/\(b∈X.ex\/X.s₀.heap.objs.size<=b)/\(∀ x c,X.env.cells.lookup x=some c->c≠b)/\∀ p∈X.pn++pins,p.1≠b
theorem Inv.fpOk {X:Cx} {pins:List (Addr × Obj)} {σ:St} {H H':Hp} {s:Shared} {b:Addr} (I:Inv X pins σ H s) (hb:s.heap.objs.size<=b) (hn:H' b=none):FpOk X pins H' b:=by
 refine ⟨hn,Nat.ne_of_gt (Nat.lt_of_lt_of_le I.lt hb),I.nofs hb,.inr (Nat.le_trans I.sz hb),fun x c e z=>?_,fun p hp z=>?_⟩
 ·obtain ⟨v,q⟩:=I.cell x c e
  exact absurd (Nat.lt_of_lt_of_le q.lt (by rw [z];exact hb)) (Nat.lt_irrefl _)
 ·exact absurd (Nat.lt_of_lt_of_le (Heap.lt_size (I.pin p hp).1) (by rw [z];exact hb)) (Nat.lt_irrefl _)
structure Turn (P:Program) (w:World) (K:PySem.W.Frag) (tg:Expr) (J:It) (fp:List Addr) (it:Addr) (tn:Nat->Heap->Prop):Prop where
 mem:it∈fp
 obj:∀ i h,tn i h->∀ b∈fp,∃ o,h.get? b=some o/\∀ v,o.data≠.cell v
 keep:∀ i h h',tn i h->(∀ b∈fp,∀ o,h.get? b=some o->h'.get? b=some o)->tn i h'
 item:∀ (X:Cx),X.prog=P->X.w=w->X.K=K->X.calm=true->∀ (i:Nat) (pins:List (Addr × Obj)) (s:Shared) (σ:St) (H:Hp) (E:Value->Shared->Prop),Inv X pins σ H s->(∀ b∈fp,FpOk X pins H b)->tn i s.heap->J.go i H ->
  wpAny (model P w) X.A (pyNext (.ref it)) (fun r s1=>∃ u,r=some u /\
   wpAny (model P w) X.A (letOwnedTupleGo tg (.ref it) u) (fun _ s2=>∃ x H',Inv X pins σ H' s2/\RelV x u/\J.yld i H x H'/\tn (i+1) s2.heap/\∀ b∈fp,H' b=none) E s1) E s
 done:∀ (X:Cx),X.prog=P->X.w=w->X.K=K->X.calm=true->∀ (i:Nat) (pins:List (Addr × Obj)) (s:Shared) (σ:St) (H:Hp) (E:Value->Shared->Prop),Inv X pins σ H s->(∀ b∈fp,FpOk X pins H b)->tn i s.heap->J.stop i H ->
  wpAny (model P w) X.A (pyNext (.ref it)) (fun r s1=>r=none/\Inv X pins σ H s1) E s
 self:∀ (A:Around) (i:Nat) (s:Shared) (Q:Value->Shared->Prop) (E:Value->Shared->Prop),tn i s.heap->Q (.ref it) s->wpAny (model P w) A (pyIter (.ref it)) Q E s
abbrev TI:=St->Hp->(It->Hp->Prop)->Prop
def PIE (X:Cx) (pins:List (Addr × Obj)) (σ:St) (tg:Expr) (R:It->Hp->Prop) (itv:Value) (s2:Shared):Prop :=
 ∃ (it:Addr) (fp:List Addr) (tn:Nat->Heap->Prop) (J:It) (H':Hp),itv=.ref it/\Inv X pins σ H' s2/\Turn X.prog X.w X.K tg J fp it tn/\tn 0 s2.heap/\(∀ b∈fp,FpOk X pins H' b)/\R J H'
def PI (X:Cx) (tg iter:Expr) (wi:TI):Prop :=
 ∀ (pins:List (Addr × Obj)) (s:Shared) (σ:St) (H:Hp) (R:It->Hp->Prop),Inv X pins σ H s->wi σ H R ->
  wpAny (model X.prog X.w) X.A (eval iter X.env) (fun v s1=>wpAny (model X.prog X.w) X.A (pyIter v) (PIE X pins σ tg R) X.xe s1) X.xe s
theorem go_of {M : Model} {A : Around} {E : Value → Shared → Prop} {s : Shared} {tg : Expr} {it : Addr} {u : Value} {o : Obj} {n : String} {vs : Array Value} {Q : Unit → Shared → Prop} (ho : s.heap.get? it = some o) (hc : o.cls = .type n) (hd : o.data = .fields vs)
    (hn : ["enumerate", "zip", "dict_itemiterator", "dict_reverseitemiterator", "odict_iterator", "itertools.zip_longest", "itertools.pairwise"].contains n = false) (hQ : Q () s) : wpAny M A (letOwnedTupleGo tg (.ref it) u) Q E s := by
  unfold letOwnedTupleGo
  cases tg <;> first
    | exact wpAny_pure hQ
    | (cases u <;> first
        | exact wpAny_pure hQ
        | (refine wpAny_bind (wpAny_load ho ?_)
           rw [hc, hd]
           show wpAny M A (if (["enumerate", "zip", "dict_itemiterator", "dict_reverseitemiterator", "odict_iterator", "itertools.zip_longest", "itertools.pairwise"].contains n && vs[0]? == some (rawInt _)) = true then _ else _) Q E s
           rw [if_neg (by intro h; rw [hn, Bool.false_and] at h; cases h)]
           exact wpAny_pure hQ))
 --odd
def Itl (K:PySem.W.Frag) (a:Addr):It :=
 ⟨fun i H=>∃ xs x,SqL K H a xs/\xs[i]?=some x,fun i H x H'=>H'=H/\∀ xs,SqL K H a xs->xs[i]?=some x,fun i H=>∃ xs,SqL K H a xs/\xs.length<=i⟩
def Itt (K:PySem.W.Frag) (a:Addr):It :=
 ⟨fun i H=>∃ xs x,SqT K H a xs/\xs[i]?=some x,fun i H x H'=>H'=H/\∀ xs,SqT K H a xs->xs[i]?=some x,fun i H=>∃ xs,SqT K H a xs/\xs.length<=i⟩
def Itr (lo:Int) (n:Nat):It:=⟨fun i _=>i < n,fun i H x H'=>H'=H/\x=.int (lo+i),fun i _=>n<=i⟩
theorem turn_list {P:Program} {w:World} {K:PySem.W.Frag} {tg:Expr} (a it:Addr):Turn P w K tg (Itl K a) [it] it (fun i h=>h.IsListIter it a i) where
 mem:=by simp
 obj:=fun i h st b hb=>by
  have e:b=it:=by simpa using hb
  subst e
  obtain ⟨o,e,c,d⟩:=st
  exact ⟨o,e,fun v z=>by rw [d] at z;cases z⟩
 keep:=fun i h h' st k=>st.at fun o e=>k it (by simp) o e
 item:=by
  intro X hP hw hK hc i pins s σ H E I hf st hg
  subst hP hw hK
  obtain ⟨xs,x,hq,hx⟩:=hg
  obtain ⟨its,rv,p,hz⟩:=I.list hq
  obtain ⟨u,hu,ru⟩:=rv.get hx
  obtain ⟨f0,f1,f2,f3,f4,f5⟩:=hf it (by simp)
  refine wpAny_pyNext_list_item st p.isList (x:=u) (by simpa using hu) fun h' st' sb=>?_
  have I1:Inv X pins σ H { s with heap:=h' }:=I.turned (t':=s.toks) (fun b o hb e=>(sb.2 b hb).trans e) f0 f1 f3 f4 f5
  obtain ⟨o,e,c,d⟩:=id st'
  exact ⟨u,rfl,go_of (s:={ s with heap:=h' }) e c d (by decide) ⟨x,H,I1,ru,⟨rfl,fun ys hy=>by rw [I.list_inj hy hq];exact hx⟩,st',fun b hb=>(hf b hb).1⟩⟩
 done:=by
  intro X hP hw hK hc i pins s σ H E I hf st hg
  subst hP hw hK
  obtain ⟨xs,hq,hx⟩:=hg
  obtain ⟨its,rv,p,hz⟩:=I.list hq
  obtain ⟨f0,f1,f2,f3,f4,f5⟩:=hf it (by simp)
  have hl:=rv.length
  exact wpAny_pyNext_list_end (I.ok.hd hc) st p.isList (by simp;omega) fun h' eb=>⟨rfl,I.turned (t':=s.toks) (fun b o hb e=>eb b o hb e) f0 f1 f3 f4 f5⟩
 self:=fun _ _ _ _ _ st h=>wpAny_pyIter_listiter st h
theorem turn_tuple {P:Program} {w:World} {K:PySem.W.Frag} {tg:Expr} (a it:Addr):Turn P w K tg (Itt K a) [it] it (fun i h=>h.IsTupleIter it a i) where
 mem:=by simp
 obj:=fun i h st b hb=>by
  have e:b=it:=by simpa using hb
  subst e
  obtain ⟨o,e,c,d⟩:=st
  exact ⟨o,e,fun v z=>by rw [d] at z;cases z⟩
 keep:=fun i h h' st k=>st.at fun o e=>k it (by simp) o e
 item:=by
  intro X hP hw hK hc i pins s σ H E I hf st hg
  subst hP hw hK
  obtain ⟨xs,x,hq,hx⟩:=hg
  obtain ⟨its,rv,p,hz⟩:=I.tuple hq
  obtain ⟨u,hu,ru⟩:=rv.get hx
  obtain ⟨f0,f1,f2,f3,f4,f5⟩:=hf it (by simp)
  refine wpAny_pyNext_tuple_item st (show s.heap.IsTuple a its.toArray from p) (x:=u) (by simpa using hu) fun h' st' sb=>?_
  have I1:Inv X pins σ H { s with heap:=h' }:=I.turned (t':=s.toks) (fun b o hb e=>(sb.2 b hb).trans e) f0 f1 f3 f4 f5
  obtain ⟨o,e,c,d⟩:=id st'
  exact ⟨u,rfl,go_of (s:={ s with heap:=h' }) e c d (by decide) ⟨x,H,I1,ru,⟨rfl,fun ys hy=>by rw [I.tuple_inj hy hq];exact hx⟩,st',fun b hb=>(hf b hb).1⟩⟩
 done:=by
  intro X hP hw hK hc i pins s σ H E I hf st hg
  subst hP hw hK
  obtain ⟨xs,hq,hx⟩:=hg
  obtain ⟨its,rv,p,hz⟩:=I.tuple hq
  obtain ⟨f0,f1,f2,f3,f4,f5⟩:=hf it (by simp)
  have hl:=rv.length
  exact wpAny_pyNext_tuple_end (I.ok.hd hc) st (show s.heap.IsTuple a its.toArray from p) (by simp;omega) fun h' eb=>⟨rfl,I.turned (t':=s.toks) (fun b o hb e=>eb b o hb e) f0 f1 f3 f4 f5⟩
 self:=fun _ _ _ _ _ st h=>wpAny_pyIter_tupleiter st h
theorem turn_range {P:Program} {w:World} {K:PySem.W.Frag} {tg:Expr} (it:Addr) (lo:Int) (n:Nat):Turn P w K tg (Itr lo n) [it] it (fun i h=>IsRangeIter h it (lo+(i:Nat) * 1) ((n:Int) - (i:Nat)) 1) where
 mem:=by simp
 obj:=fun i h st b hb=>by
  have e:b=it:=by simpa using hb
  subst e
  exact ⟨_,st,fun v z=>by
   have z':Data.fields _=Data.cell v:=z
   cases z'⟩
 keep:=fun i h h' st k=>k it (by simp) _ st
 item:=by
  intro X hP hw hK hc i pins s σ H E I hf st hg
  subst hP hw hK
  obtain ⟨f0,f1,f2,f3,f4,f5⟩:=hf it (by simp)
  have W:=Walks.range (prog:=X.prog) (w:=X.w) (I.ok.hd hc) it lo 1 n
  refine W.item i s _ _ hg st fun v h' tk hv st' kk=>?_
  obtain ⟨t,rfl⟩:=hv
  have I1:Inv X pins σ H { s with heap:=h',toks:=tk }:=I.turned (fun b o hb e=>kk b o (by simpa using hb) e) f0 f1 f3 f4 f5
  refine ⟨_,rfl,go_of (s:={ s with heap:=h',toks:=tk }) (n := "range_iterator") st' rfl rfl (by decide) ⟨.int (lo+i),H,I1,⟨t,?_⟩,⟨rfl,rfl⟩,st',fun b hb=>(hf b hb).1⟩⟩
  rw [Int.mul_one]
 done:=by
  intro X hP hw hK hc i pins s σ H E I hf st hg
  subst hP hw hK
  obtain ⟨f0,f1,f2,f3,f4,f5⟩:=hf it (by simp)
  exact wpAny_pyNext_range_end (I.ok.hd hc) st (by have:n<=i:=hg;omega) fun h' eb=>⟨rfl,I.turned (t':=s.toks) (fun b o hb e=>eb b o hb e) f0 f1 f3 f4 f5⟩
 self:=fun _ _ _ _ _ st h=>wpAny_pyIter_rangeiter st h
section
variable {X:Cx} {tg:Expr}
def iList (K:PySem.W.Frag) (tl:TE):TI:=fun σ H R=>tl σ H fun x H1=>∃ a,x=.ref a/\(∃ xs,SqL K H1 a xs)/\R (Itl K a) H1
def iTup (K:PySem.W.Frag) (tl:TE):TI:=fun σ H R=>tl σ H fun x H1=>∃ a,x=.ref a/\(∃ xs,SqT K H1 a xs)/\R (Itt K a) H1
theorem pi_list {l:Expr} {tl:TE} (hl:PE X l tl):PI X tg l (iList X.K tl):=by
 intro pins s σ H R I h
 refine thn (hl pins s σ H _ I h) fun v s1 ⟨x,H1,I1,r1,q1⟩=>?_
 obtain ⟨a,e,⟨xs,hq⟩,q⟩:=q1
 subst e
 cases r1
 obtain ⟨its,rv,p,hz⟩:=I1.list hq
 refine wpAny_pyIter_list p.isList ?_
 refine ⟨s1.heap.objs.size,[s1.heap.objs.size],_,_,H1,rfl,I1.kept (t':=s1.toks) fun b o e=>Heap.get?_push_of_some _ e,turn_list a _,⟨_,Heap.get?_push_size _ rfl,rfl,rfl⟩,fun b hb=>?_,q⟩
 have e:b=s1.heap.objs.size:=by simpa using hb
 subst e
 exact I1.fpOk (Nat.le_refl _) (I1.hok.fresh (Nat.le_refl _))
theorem pi_tup {l:Expr} {tl:TE} (hl:PE X l tl):PI X tg l (iTup X.K tl):=by
 intro pins s σ H R I h
 refine thn (hl pins s σ H _ I h) fun v s1 ⟨x,H1,I1,r1,q1⟩=>?_
 obtain ⟨a,e,⟨xs,hq⟩,q⟩:=q1
 subst e
 cases r1
 obtain ⟨its,rv,p,hz⟩:=I1.tuple hq
 refine wpAny_pyIter_tuple (show s1.heap.IsTuple a its.toArray from p) ?_
 refine ⟨s1.heap.objs.size,[s1.heap.objs.size],_,_,H1,rfl,I1.kept (t':=s1.toks) fun b o e=>Heap.get?_push_of_some _ e,turn_tuple a _,⟨_,Heap.get?_push_size _ rfl,rfl,rfl⟩,fun b hb=>?_,q⟩
 have e:b=s1.heap.objs.size:=by simpa using hb
 subst e
 exact I1.fpOk (Nat.le_refl _) (I1.hok.fresh (Nat.le_refl _))
theorem range_it {pins:List (Addr × Obj)} {σ:St} {H:Hp} {s:Shared} {R:It->Hp->Prop} {E:Value->Shared->Prop} {lo hi:Int} {t u v:Tok} {tk:Nat} (I:Inv X pins σ H s) (h1:-(2 ^ 62)<=lo) (h2:lo < 2 ^ 62) (h3:-(2 ^ 62)<=hi) (h4:hi < 2 ^ 62)
  (q:R (Itr lo (hi - lo).toNat) H):wpAny (model X.prog X.w) X.A (pyIter (.ref s.heap.objs.size)) (PIE X pins σ tg R) E { s with heap:=s.heap.push { cls:=.type "range",data:=.fields #[.int lo t,.int hi u,.int 1 v] },toks:=tk }:=by
 refine wpAny_pyIter_range (IsRange.new ..) (small_one h1 h2 h3 h4) ?_
 have I1:Inv X pins σ H { s with heap:=s.heap.push { cls:=.type "range",data:=.fields #[.int lo t,.int hi u,.int 1 v] },toks:=tk }:=I.kept fun b o e=>Heap.get?_push_of_some _ e
 refine ⟨(s.heap.push { cls:=.type "range",data:=.fields #[.int lo t,.int hi u,.int 1 v] }).objs.size,[(s.heap.push { cls:=.type "range",data:=.fields #[.int lo t,.int hi u,.int 1 v] }).objs.size],_,_,H,rfl,
  I1.kept (t':=tk) fun b o e=>Heap.get?_push_of_some _ e,turn_range _ lo (hi - lo).toNat,?_,fun b hb=>?_,q⟩
 ·have e1:lo+((0:Nat):Int) * 1=lo:=by simp
  have e2:(((hi - lo).toNat:Nat):Int) - ((0:Nat):Int)=Builtin.Range.rangeSize lo hi 1:=by rw [rangeSize_one];split<;>omega
  show IsRangeIter _ _ (lo+((0:Nat):Int) * 1) ((((hi - lo).toNat:Nat):Int) - ((0:Nat):Int)) 1
  rw [e1,e2]
  exact Heap.get?_push_size _ rfl
 ·have e:b=(s.heap.push { cls:=.type "range",data:=.fields #[.int lo t,.int hi u,.int 1 v] }).objs.size:=by simpa using hb
  subst e
  exact I1.fpOk (Nat.le_refl _) (I1.hok.fresh (Nat.le_refl _))
def iRng1 (ta:TA):TI:=fun σ H R=>ta σ H fun vs H1=>∃ j:Int,vs=[.int j]/\-(2 ^ 62)<=j/\j < 2 ^ 62/\R (Itr 0 j.toNat) H1
theorem pi_range1 {a:Expr} {ta:TA} {p pos:Pos} (hg:Gl X "range") (hm:X.mg "range" = none) (ha:PA X [a] ta) (hs:starEach [a] X.env=[(false,eval a X.env)]:=by rfl):PI X tg (.Call (.Name "range" p) [a] [] pos) (iRng1 ta):=by
 intro pins s σ H R I h
 refine Call_ (ld_blt I hg hm boot_range (PyProof.Rows.callWith_type1 (thn (ha pos pins s σ H _ I h) fun us s1 ⟨vs,H1,I1,r1,q1⟩=>?_) hs rfl))
 obtain ⟨j,e,q1,q2,q⟩:=q1
 subst e
 cases r1 with
 | cons r rr =>
  cases rr
  obtain ⟨t,rfl⟩:=r
  exact call_range_1 (range_it I1 (by omega) (by omega) q1 q2 (by simpa using q))
def pinsAt (fp:List Addr) (h:Heap):List (Addr × Obj):=fp.filterMap fun b=>(h.get? b).map fun o=>(b,o)
theorem mem_pinsAt {fp:List Addr} {h:Heap} {b:Addr} {o:Obj} (hb:b∈fp) (e:h.get? b=some o):(b,o)∈pinsAt fp h:=List.mem_filterMap.mpr ⟨b,hb,by rw [e];rfl⟩
theorem of_pinsAt {fp:List Addr} {h:Heap} {p:Addr × Obj} (hp:p∈pinsAt fp h):p.1∈fp/\h.get? p.1=some p.2:=by
 obtain ⟨b,hb,e⟩:=List.mem_filterMap.mp hp
 cases q:h.get? b with
 | none=>rw [q] at e;cases e
 | some o =>
  rw [q] at e
  have e':(b,o)=p:=Option.some.inj e
  subst e'
  exact ⟨hb,q⟩
theorem Inv.pinned {pins:List (Addr × Obj)} {σ:St} {H:Hp} {s:Shared} {fp:List Addr} (I:Inv X pins σ H s) (hf:∀ b∈fp,FpOk X pins H b) (ho:∀ b∈fp,∃ o,s.heap.get? b=some o/\∀ v,o.data≠.cell v):Inv X (pins++pinsAt fp s.heap) σ H s :=
 I.pins_of fun p hp=>(List.mem_append.mp hp).elim (fun z=>I.pin p (List.mem_append_right _ z)) fun z=>by
  obtain ⟨hb,e⟩:=of_pinsAt z
  obtain ⟨f0,f1,f2,_⟩:=hf p.1 hb
  obtain ⟨o,e',d⟩:=ho p.1 hb
  rw [e] at e';cases e'
  exact ⟨e,f0,f1,f2,d⟩
theorem Inv.unpinned {pins pl:List (Addr × Obj)} {σ:St} {H:Hp} {s:Shared} (I:Inv X (pins++pl) σ H s):Inv X pins σ H s:=I.pins_of fun p hp=>I.pin p (List.mem_append_right _ (List.mem_append_left _ hp))
end
abbrev R2:=V->V->Hp->VK->Prop
def OpR (X:Cx) (f:Value->Value->Sem Value) (r:R2):Prop :=
 ∀ (pins:List (Addr × Obj)) (s:Shared) (σ:St) (H:Hp) (x y:V) (v u:Value) (Q:VK),Inv X pins σ H s->RelV x v->RelV y u->r x y H Q ->
  wpAny (model X.prog X.w) X.A (f v u) (EP X pins σ Q) X.xe s
def UnR (X:Cx) (f:Value->Sem Value) (r:V->Hp->VK->Prop):Prop :=
 ∀ (pins:List (Addr × Obj)) (s:Shared) (σ:St) (H:Hp) (x:V) (v:Value) (Q:VK),Inv X pins σ H s->RelV x v->r x H Q ->
  wpAny (model X.prog X.w) X.A (f v) (EP X pins σ Q) X.xe s
def CallR (X:Cx) (f:Value) (r:List V->Hp->VK->Prop):Prop :=
 ∀ (pins:List (Addr × Obj)) (s:Shared) (σ:St) (H:Hp) (xs:List V) (us:List Value) (Q:VK),Inv X pins σ H s->Vals xs us->r xs H Q ->
  wpAny (model X.prog X.w) X.A (call f us) (EP X pins σ Q) X.xe s
def TruR (X:Cx) (r:V->Hp->(Bool->Hp->Prop)->Prop):Prop :=
 ∀ (pins:List (Addr × Obj)) (s:Shared) (σ:St) (H:Hp) (x:V) (v:Value) (Q:Bool->Hp->Prop),Inv X pins σ H s->RelV x v->r x H Q ->
  wpAny (model X.prog X.w) X.A (truthy v) (TP X pins σ Q) X.xe s
def rI (C:Int->Int->Prop) (g:Int->Int->V):R2:=fun x y H Q=>∃ i j,x=.int i/\y=.int j/\C i j/\Q (g i j) H
def rI0 (g:Int->Int->V):R2:=fun x y H Q=>∃ i j,x=.int i/\y=.int j/\Q (g i j) H
def rU (g:Int->V):V->Hp->VK->Prop:=fun x H Q=>∃ i,x=.int i/\Q (g i) H
section
variable {X:Cx} {a b c:Expr} {ta tb tc:TE} {pos:Pos}
theorem opI {f:Value->Value->Sem Value} {C:Int->Int->Prop} {g:Int->Int->Int}
  (rule:∀ (i j:Int) (t u:Tok) (s:Shared) (Q:Value->Shared->Prop) (E:Value->Shared->Prop),C i j->Q (.int (g i j) s.toks) { s with toks:=s.toks+1 }->wpAny (model X.prog X.w) X.A (f (.int i t) (.int j u)) Q E s) :
  OpR X f (rI C fun i j=>.int (g i j)):=by
 intro pins s σ H x y v u Q I rx ry h
 obtain ⟨i,j,rfl,rfl,hc,q⟩:=h
 obtain ⟨t,rfl⟩:=rx
 obtain ⟨t',rfl⟩:=ry
 exact rule i j t t' s _ _ hc ⟨.int (g i j),H,I.tok _,⟨_,rfl⟩,q⟩
theorem opI0 {f:Value->Value->Sem Value} {g:Int->Int->Int}
  (rule:∀ (i j:Int) (t u:Tok) (s:Shared) (Q:Value->Shared->Prop) (E:Value->Shared->Prop),Q (.int (g i j) s.toks) { s with toks:=s.toks+1 }->wpAny (model X.prog X.w) X.A (f (.int i t) (.int j u)) Q E s) :
  OpR X f (rI0 fun i j=>.int (g i j)):=by
 intro pins s σ H x y v u Q I rx ry h
 obtain ⟨i,j,rfl,rfl,q⟩:=h
 obtain ⟨t,rfl⟩:=rx
 obtain ⟨t',rfl⟩:=ry
 exact rule i j t t' s _ _ ⟨.int (g i j),H,I.tok _,⟨_,rfl⟩,q⟩
theorem opB0 {f:Value->Value->Sem Value} {g:Int->Int->Bool}
  (rule:∀ (i j:Int) (t u:Tok) (s:Shared) (Q:Value->Shared->Prop) (E:Value->Shared->Prop),Q (.bool (g i j)) s->wpAny (model X.prog X.w) X.A (f (.int i t) (.int j u)) Q E s) :
  OpR X f (rI0 fun i j=>.bl (g i j)):=by
 intro pins s σ H x y v u Q I rx ry h
 obtain ⟨i,j,rfl,rfl,q⟩:=h
 obtain ⟨t,rfl⟩:=rx
 obtain ⟨t',rfl⟩:=ry
 exact rule i j t t' s _ _ ⟨.bl (g i j),H,I,rfl,q⟩
def CPow (i j:Int):Prop:=0<=j/\j<=1000000/\i.natAbs < 2 ^ 64
theorem op_add:OpR X (binaryOp .Add) (rI0 fun i j=>.int (i+j)):=opI0 fun _ _ _ _ _ _ _ q=>add_int q
theorem op_sub:OpR X (binaryOp .Sub) (rI0 fun i j=>.int (i - j)):=opI0 fun _ _ _ _ _ _ _ q=>sub_int q
theorem op_modN:OpR X (binaryOp .Mod) (rI (fun _ j=>j≠0) fun i j=>.int (i.fmod j)):=opI fun _ _ _ _ _ _ _ hc q=>mod_int' hc q
theorem op_pow:OpR X (binaryOp .Pow) (rI CPow fun i j=>.int (i ^ j.toNat)):=opI fun _ _ _ _ _ _ _ hc q=>pow_int_small hc.1 hc.2.1 hc.2.2 q
theorem unI {f:Value->Sem Value} {g:Int->Int}
  (rule:∀ (i:Int) (t:Tok) (s:Shared) (Q:Value->Shared->Prop) (E:Value->Shared->Prop),Q (.int (g i) s.toks) { s with toks:=s.toks+1 }->wpAny (model X.prog X.w) X.A (f (.int i t)) Q E s) :
  UnR X f (rU fun i=>.int (g i)):=by
 intro pins s σ H x v Q I rx h
 obtain ⟨i,rfl,q⟩:=h
 obtain ⟨t,rfl⟩:=rx
 exact rule i t s _ _ ⟨.int (g i),H,I.tok _,⟨_,rfl⟩,q⟩
theorem un_neg:UnR X (unaryOp .USub) (rU fun i=>.int (-i)):=unI fun _ _ _ _ _ q=>neg_int q
end
def scal:V->V->Bool
 | .non,.non=>true | .non,.int _=>true | .int _,.non=>true | .non,.bl _=>true | .bl _,.non=>true | .non,.str _=>true | .str _,.non=>true
 | .int _,.int _=>true | .bl _,.bl _=>true | .str _,.str _=>true | .byt _,.byt _=>true
 | .int _,.str _=>true | .str _,.int _=>true | .bl _,.str _=>true | .str _,.bl _=>true
 | _,_=>false
def rEq:R2:=fun x y H Q=>scal x y=true/\Q (.bl (decide (x=y))) H
def rNe:R2:=fun x y H Q=>scal x y=true/\Q (.bl (!decide (x=y))) H
theorem dec_int {i j:Int}:decide (V.int i=V.int j)=(i == j):=by
 rw [Bool.eq_iff_iff]
 simp
theorem dec_bl {i j:Bool}:decide (V.bl i=V.bl j)=(i == j):=by
 rw [Bool.eq_iff_iff]
 simp
theorem dec_str {i j:Str}:decide (V.str i=V.str j)=(i == j):=by
 rw [Bool.eq_iff_iff]
 simp
theorem dec_byt {i j:Array UInt8}:decide (V.byt i=V.byt j)=(i.toList == j.toList):=by
 rw [Bool.eq_iff_iff]
 cases i
 cases j
 simp
section
variable {X:Cx} {a b c:Expr} {ta tb tc:TE} {pos:Pos}
theorem fin_bl {pins:List (Addr × Obj)} {σ:St} {H:Hp} {s:Shared} {Q:VK} {k k':Bool} (I:Inv X pins σ H s) (q:Q (.bl k) H) (e:k=k'):EP X pins σ Q (.bool k') s:=by
 subst e
 exact ⟨.bl k,H,I,rfl,q⟩
theorem op_eq:OpR X (compareOp .Eq) rEq:=by
 intro pins s σ H x y v u Q I rx ry h
 obtain ⟨hs,q⟩:=h
 cases x with
 | non =>
  cases rx
  cases y with
  | non=>cases ry;exact PySem.EqNone.eq_none_none (fin_bl I q (by simp))
  | bl j=>cases ry;exact PySem.EqNone.eq_none_bool (fin_bl I q (by simp))
  | int j=>obtain ⟨t',rfl⟩:=ry;exact PySem.EqNone.eq_none_int (fin_bl I q (by simp))
  | str j=>obtain ⟨t',rfl⟩:=ry;exact PySem.EqNone.eq_none_str (fin_bl I q (by simp))
  | _=>exact absurd (show false=true from hs) Bool.false_ne_true
 | bl i =>
  cases rx
  cases y with
  | non=>cases ry;exact PySem.EqNone.eq_bool_none (fin_bl I q (by simp))
  | bl j=>cases ry;exact eq_bool (fin_bl I q dec_bl)
  | str j=>obtain ⟨t',rfl⟩:=ry;exact PySem.EqMixed.eq_bool_str (fin_bl I q (by simp))
  | _=>exact absurd (show false=true from hs) Bool.false_ne_true
 | int i =>
  obtain ⟨t,rfl⟩:=rx
  cases y with
  | non=>cases ry;exact PySem.EqNone.eq_int_none (fin_bl I q (by simp))
  | int j=>obtain ⟨t',rfl⟩:=ry;exact eq_int (fin_bl I q dec_int)
  | str j=>obtain ⟨t',rfl⟩:=ry;exact PySem.EqMixed.eq_int_str (fin_bl I q (by simp))
  | _=>exact absurd (show false=true from hs) Bool.false_ne_true
 | str i =>
  obtain ⟨t,rfl⟩:=rx
  cases y with
  | non=>cases ry;exact PySem.EqNone.eq_str_none (fin_bl I q (by simp))
  | bl j=>cases ry;exact PySem.EqMixed.eq_str_bool (fin_bl I q (by simp))
  | int j=>obtain ⟨t',rfl⟩:=ry;exact PySem.EqMixed.eq_str_int (fin_bl I q (by simp))
  | str j=>obtain ⟨t',rfl⟩:=ry;exact eq_str (fin_bl I q dec_str)
  | _=>exact absurd (show false=true from hs) Bool.false_ne_true
 | byt i =>
  obtain ⟨t,rfl⟩:=rx
  cases y with
  | byt j=>obtain ⟨t',rfl⟩:=ry;exact PySem.W.eq_bytes (fin_bl I q dec_byt)
  | _=>exact absurd (show false=true from hs) Bool.false_ne_true
 | _=>cases y<;>exact absurd (show false=true from hs) Bool.false_ne_true
theorem op_ne:OpR X (compareOp .NotEq) rNe:=by
 intro pins s σ H x y v u Q I rx ry h
 obtain ⟨hs,q⟩:=h
 cases x with
 | non =>
  cases rx
  cases y with
  | non=>cases ry;exact PySem.EqNone.ne_none_none (fin_bl I q (by simp))
  | bl j=>cases ry;exact PySem.EqNone.ne_none_bool (fin_bl I q (by simp))
  | int j=>obtain ⟨t',rfl⟩:=ry;exact PySem.EqNone.ne_none_int (fin_bl I q (by simp))
  | str j=>obtain ⟨t',rfl⟩:=ry;exact PySem.EqNone.ne_none_str (fin_bl I q (by simp))
  | _=>exact absurd (show false=true from hs) Bool.false_ne_true
 | bl i =>
  cases rx
  cases y with
  | non=>cases ry;exact PySem.EqNone.ne_bool_none (fin_bl I q (by simp))
  | bl j=>cases ry;exact ne_bool (fin_bl I q (congrArg not dec_bl))
  | str j=>obtain ⟨t',rfl⟩:=ry;exact PySem.EqMixed.ne_bool_str (fin_bl I q (by simp))
  | _=>exact absurd (show false=true from hs) Bool.false_ne_true
 | int i =>
  obtain ⟨t,rfl⟩:=rx
  cases y with
  | non=>cases ry;exact PySem.EqNone.ne_int_none (fin_bl I q (by simp))
  | int j=>obtain ⟨t',rfl⟩:=ry;exact ne_int (fin_bl I q (congrArg not dec_int))
  | str j=>obtain ⟨t',rfl⟩:=ry;exact PySem.EqMixed.ne_int_str (fin_bl I q (by simp))
  | _=>exact absurd (show false=true from hs) Bool.false_ne_true
 | str i =>
  obtain ⟨t,rfl⟩:=rx
  cases y with
  | non=>cases ry;exact PySem.EqNone.ne_str_none (fin_bl I q (by simp))
  | bl j=>cases ry;exact PySem.EqMixed.ne_str_bool (fin_bl I q (by simp))
  | int j=>obtain ⟨t',rfl⟩:=ry;exact PySem.EqMixed.ne_str_int (fin_bl I q (by simp))
  | str j=>obtain ⟨t',rfl⟩:=ry;exact ne_str (fin_bl I q (congrArg not dec_str))
  | _=>exact absurd (show false=true from hs) Bool.false_ne_true
 | byt i =>
  obtain ⟨t,rfl⟩:=rx
  cases y with
  | byt j=>obtain ⟨t',rfl⟩:=ry;exact PySem.W.ne_bytes (fin_bl I q (congrArg not dec_byt))
  | _=>exact absurd (show false=true from hs) Bool.false_ne_true
 | _=>cases y<;>exact absurd (show false=true from hs) Bool.false_ne_true
theorem op_lt:OpR X (compareOp .Lt) (rI0 fun i j=>.bl (decide (i < j))):=opB0 fun _ _ _ _ _ _ _ q=>lt_int q
theorem op_le:OpR X (compareOp .LtE) (rI0 fun i j=>.bl (decide (i<=j))):=opB0 fun _ _ _ _ _ _ _ q=>le_int q
theorem op_gt:OpR X (compareOp .Gt) (rI0 fun i j=>.bl (decide (j < i))):=opB0 fun _ _ _ _ _ _ _ q=>gt_int q
theorem op_ge:OpR X (compareOp .GtE) (rI0 fun i j=>.bl (decide (j<=i))):=opB0 fun _ _ _ _ _ _ _ q=>ge_int q
theorem op_isN:OpR X (compareOp .Is) (fun x y H Q=>y=.non/\Q (.bl (decide (x=.non))) H):=by
 intro pins s σ H x y v u Q I rx ry h
 obtain ⟨rfl,q⟩:=h
 cases ry
 refine is_none_gen (fin_bl I q ?_)
 cases x<;>first
  | (cases rx;rfl)
  | (obtain ⟨t,rfl⟩:=rx;rfl)
theorem op_notN:OpR X (compareOp .IsNot) (fun x y H Q=>y=.non/\Q (.bl (!decide (x=.non))) H):=by
 intro pins s σ H x y v u Q I rx ry h
 obtain ⟨rfl,q⟩:=h
 cases ry
 refine isnot_none_gen (fin_bl I q ?_)
 cases x<;>first
  | (cases rx;rfl)
  | (obtain ⟨t,rfl⟩:=rx;rfl)
theorem OpR.or {f:Value->Value->Sem Value} {r r':R2} (h:OpR X f r) (h':OpR X f r'):OpR X f (fun x y H Q=>r x y H Q\/r' x y H Q):=by
 intro pins s σ H x y v u Q I rx ry q
 rcases q with q | q
 ·exact h pins s σ H x y v u Q I rx ry q
 ·exact h' pins s σ H x y v u Q I rx ry q
theorem nomark (b:Expr) {op:CmpOp} (h:op≠.In:=by decide) (h2:op≠.NotIn:=by decide):behindInMarks op b=false:=by
 have e1:(op == CmpOp.In)=false:=by cases op<;>first | rfl | exact absurd rfl h
 have e2:(op == CmpOp.NotIn)=false:=by cases op<;>first | rfl | exact absurd rfl h2
 cases b<;>simp [behindInMarks,e1,e2]
def TruV (K:PySem.W.Frag) (x:V) (H:Hp) (k:Bool):Prop :=
 match x with
 | .non=>k=false
 | .bl b=>k=b
 | .int i=>k=(i != 0)
 | .str y=>y.length<=sizeLine/\k=((y.length:Int) != 0)
 | .byt y=>y.size<=sizeLine/\k=((y.size:Int) != 0)
 | .ref p=>(∃ xs,SqL K H p xs/\k=!xs.isEmpty)\/(∃ xs,SqT K H p xs/\k=!xs.isEmpty)\/∃ kvs,H p=some (.dK kvs)/\k=!kvs.isEmpty
 | _=>False
theorem isEmpty_kv {κ:Type} {kvs:List (κ × V)} {vs:List (κ × Value)} (r:KV kvs vs):(!vs.isEmpty)=!kvs.isEmpty:=by
 cases r<;>rfl
theorem isEmpty_of {xs:List V} {its:List Value} (r:Vals xs its):(!its.toArray.isEmpty)=!xs.isEmpty:=by
 cases r<;>simp
theorem line63:(sizeLine:Nat) < 2 ^ 63:=by rw [sizeLine_eq];decide
theorem tru_ok:TruR X (fun x H Q=>∃ k,TruV X.K x H k/\Q k H):=by
 intro pins s σ H x v Q I rx h
 obtain ⟨k,e,q⟩:=h
 have hl:=line63
 have hs:sizeLine=16777216:=sizeLine_eq
 cases x with
 | non =>
  cases rx
  have e':k=false:=e
  subst e'
  exact truthy_none ⟨H,I,q⟩
 | bl b =>
  cases rx
  have e':k=b:=e
  subst e'
  exact wpAny_truthy_bool ⟨H,I,q⟩
 | int i =>
  obtain ⟨t,rfl⟩:=rx
  have e':k=(i != 0):=e
  subst e'
  exact PySem.P.truthy_int ⟨H,I,q⟩
 | str y =>
  obtain ⟨t,rfl⟩:=rx
  obtain ⟨hy,e'⟩:y.length<=sizeLine/\k=((y.length:Int) != 0):=e
  subst e'
  exact PySem.P.truthy_str (by omega) ⟨H,I.tok _,q⟩
 | byt y =>
  obtain ⟨t,rfl⟩:=rx
  obtain ⟨hy,e'⟩:y.size<=sizeLine/\k=((y.size:Int) != 0):=e
  subst e'
  exact PySem.W.truthy_bytes (by omega) ⟨H,I.tok _,q⟩
 | ref p =>
  cases rx
  have e':(∃ xs,SqL X.K H p xs/\k=!xs.isEmpty)\/(∃ xs,SqT X.K H p xs/\k=!xs.isEmpty)\/∃ kvs,H p=some (.dK kvs)/\k=!kvs.isEmpty:=e
  rcases e' with ⟨xs,hx,e'⟩ | ⟨xs,hx,e'⟩ | ⟨kvs,hx,e'⟩
  ·subst e'
   obtain ⟨its,r,pl,hz⟩:=I.list hx
   have hlen:=r.length
   exact wpAny_truthy_list pl.isList (by simp only [List.size_toArray];omega) ⟨H,I.tok _,by rw [isEmpty_of r];exact q⟩
  ·subst e'
   obtain ⟨its,r,pl,hz⟩:=I.tuple hx
   have hlen:=r.length
   exact truthy_tuple pl (by simp only [List.size_toArray];omega) ⟨H,I.tok _,by rw [isEmpty_of r];exact q⟩
  ·subst e'
   obtain ⟨hz,hS,vs,r,m⟩:kvs.length<=sizeLine/\(p == sysModules)=false/\∃ vs,KV kvs vs/\s.heap.DictOf (mixKind X.prog X.w) p vs:=I.hok p _ hx
   have hlen:kvs.length=vs.length:=Paired.length r
   exact wpAny_truthy_dict hS m (by omega) ⟨H,I.tok _,by rw [isEmpty_kv r];exact q⟩
 | _=>exact (show False from e).elim
theorem op_add_str:OpR X (binaryOp .Add) (fun x y H Q=>∃ i j,x=.str i/\y=.str j/\i.length+j.length<=sizeLine/\Q (.str (i++j)) H):=by
 intro pins s σ H x y v u Q I rx ry h
 obtain ⟨i,j,rfl,rfl,hz,q⟩:=h
 obtain ⟨t,rfl⟩:=rx
 obtain ⟨t',rfl⟩:=ry
 exact add_str (fun t' tk=>⟨.str (i++j),H,I.tok _,⟨_,rfl⟩,q⟩) hz
theorem vals1 {x:V} {us:List Value} (r:Vals [x] us):∃ u,us=[u]/\RelV x u:=by
 cases r with
 | cons r1 r2=>cases r2;exact ⟨_,rfl,r1⟩
theorem vals2 {x y:V} {us:List Value} (r:Vals [x,y] us):∃ u w',us=[u,w']/\RelV x u/\RelV y w':=by
 cases r with
 | cons r1 r2 =>
  cases r2 with
  | cons r3 r4=>cases r4;exact ⟨_,_,rfl,r1,r3⟩
theorem call_abs:CallR X (.builtin "abs") (fun xs H Q=>∃ i,xs=[.int i]/\Q (.int (if i < 0 then -i else i)) H):=by
 intro pins s σ H xs us Q I r h
 obtain ⟨i,rfl,q⟩:=h
 obtain ⟨u,rfl,t,rfl⟩:=vals1 r
 exact call_abs_int fun u tk=>⟨.int (if i < 0 then -i else i),H,I.tok _,⟨_,rfl⟩,q⟩
theorem call_max2 (hc:X.calm=true):CallR X (.builtin "max") (fun xs H Q=>∃ i j,xs=[.int i,.int j]/\Q (.int (if j > i then j else i)) H):=by
 intro pins s σ H xs us Q I r h
 obtain ⟨i,j,rfl,q⟩:=h
 obtain ⟨u,w',rfl,⟨t,rfl⟩,⟨t',rfl⟩⟩:=vals2 r
 refine max_two_ints (I.ok.hd hc) fun h' tk k=>⟨_,H,I.kept k,?_,q⟩
 by_cases hj:j > i
 ·rw [if_pos hj,if_pos hj];exact ⟨_,rfl⟩
 ·rw [if_neg hj,if_neg hj];exact ⟨_,rfl⟩
theorem call_min2 (hc:X.calm=true):CallR X (.builtin "min") (fun xs H Q=>∃ i j,xs=[.int i,.int j]/\Q (.int (if j < i then j else i)) H):=by
 intro pins s σ H xs us Q I r h
 obtain ⟨i,j,rfl,q⟩:=h
 obtain ⟨u,w',rfl,⟨t,rfl⟩,⟨t',rfl⟩⟩:=vals2 r
 refine min_two_ints (I.ok.hd hc) fun h' tk k=>⟨_,H,I.kept k,?_,q⟩
 by_cases hj:j < i
 ·rw [if_pos hj,if_pos hj];exact ⟨_,rfl⟩
 ·rw [if_neg hj,if_neg hj];exact ⟨_,rfl⟩
theorem call_int1:CallR X (.type "int") (fun xs H Q=>(∃ i,xs=[.int i]/\Q (.int i) H)\/∃ k,xs=[.bl k]/\Q (.int (if k then 1 else 0)) H):=by
 intro pins s σ H xs us Q I r h
 rcases h with ⟨i,rfl,q⟩ | ⟨k,rfl,q⟩
 ·obtain ⟨u,rfl,t,rfl⟩:=vals1 r
  exact call_int_int ⟨.int i,H,I,⟨_,rfl⟩,q⟩
 ·obtain ⟨u,rfl,r1⟩:=vals1 r
  cases r1
  exact call_int_bool ⟨.int (if k then 1 else 0),H,I.tok _,⟨_,rfl⟩,q⟩
end
structure ObjM (h:Heap) (x dx C:Addr) (mA:Str->Option Value):Prop where
 obj:h.get? x=some (PySem.W.instObj C dx)
 ns:h.Ns1 dx mA
 ne:dx≠x
theorem lookIn_ns {h:Heap} {dx:Addr} {mA:Str->Option Value} (n:h.Ns1 dx mA):∃ od,h.get? dx=some od/\∀ name,PySem.W.lookIn name od=some (mA name):=by
 obtain ⟨o,es,ep,ho,hd,hk,_,hm⟩:=n
 refine ⟨o,ho,fun name=>?_⟩
 have e:=hm name
 unfold nsFind findBy at e
 rw [<- Array.find?_toList] at e
 unfold PySem.W.lookIn
 rw [hd]
 dsimp only
 split
 ·rename_i y q
  rw [q] at e
  exact congrArg some e
 ·rename_i q
  rw [q] at e
  have a:es.toList.any (·.refKey)=false:=by
   rw [List.any_eq_false]
   intro y hy
   obtain ⟨z,t,hkey⟩:=hk y (Array.mem_toList_iff.mp hy)
   simp [DictEntry.refKey,hkey]
  have a':¬ es.toList.any (·.refKey)=true:=by rw [a];exact Bool.false_ne_true
  rw [if_neg a']
  exact congrArg some e
theorem ObjM.look {h:Heap} {x dx C:Addr} {mA:Str->Option Value} (I:ObjM h x dx C mA):∃ od,PySem.W.InstAt h x (PySem.W.instObj C dx) C (some od)/\∀ name,PySem.W.lookIn name od=some (mA name) :=
 let ⟨od,ho,hl⟩:=lookIn_ns I.ns
 ⟨od,⟨I.obj,rfl,rfl,ho⟩,hl⟩
section
variable {prog:Program} {w:World} {A:Around} {E:Value->Shared->Prop} {s:Shared} {K:PySem.W.Frag} {x dx C f:Addr} {mA:Str->Option Value} {name:Str} {v:Value}
theorem get_map {expr:Bool} {Q:Value->Shared->Prop} (X:K.In s.heap) (I:ObjM s.heap x dx C mA) (hg:PySem.W.plainGet K C name=true) (hh:PySem.W.hasDictIn K C=true)
  (ha:PySem.W.findIn K (.ref C) name=some none) (hv:mA name=some v) (hv':PySem.W.handedIn v=true) (h:Q v { s with toks:=s.toks+1 }) :
  wpAny (model prog w) A (getAttr (.ref x) name expr) Q E s:=by
 obtain ⟨od,J,hl⟩:=I.look
 exact PySem.W.get_value X J (PySem.W.plainGet_of hg).1 (PySem.W.findObj_own hh ha rfl (by rw [hl,hv])) hv' h
theorem get_meth {pl:Sem Bool} {Q:Value × List Value->Shared->Prop} (X:K.In s.heap) (I:ObjM s.heap x dx C mA) (hg:PySem.W.plainGet K C name=true)
  (hf:PySem.W.findIn K (.ref C) name=some (some (.ref f))) (ht:PySem.W.isFn K (.ref f)=true) (hv:mA name=none) (h:Q (.ref f,[.ref x]) s) :
  wpAny (model prog w) A (getMethod (.ref x) name pl) Q E s:=by
 obtain ⟨od,J,hl⟩:=I.look
 exact PySem.W.method_fn X J (PySem.W.plainGet_of hg).1 (PySem.W.plainGet_of hg).2 hf (beq_iff_eq.mp ht) (by show (PySem.W.lookIn name od).map (·.isSome)=some false;rw [hl,hv];rfl) h
theorem set_map {ns:List Str} {Q:Unit->Shared->Prop} (X:K.In s.heap) (I:ObjM s.heap x dx C mA)
  (hs:PySem.W.findIn K (.ref C) "__setattr__" = some (some (.builtin "object.__setattr__"))) (hp:PySem.W.plainOver K C=true) (ht:PySem.W.takerIn K C name=some none) (hh:PySem.W.hasDictIn K C=true)
  (hw:PySem.Within mA ns) (hsz:ns.length<=sizeLine)
  (h:∀ h',ObjM h' x dx C (fun y=>if y=name then some v else mA y)->Heap.SameBut dx s.heap h'->Q () { s with heap:=h',toks:=s.toks+2 }) :
  wpAny (model prog w) A (setAttr (.ref x) name v) Q E s:=by
 obtain ⟨od,J,hl⟩:=I.look
 refine PySem.W.set_plain X J hs (PySem.W.osa_open (s:={ s with toks:=s.toks+1 }) (r:=none) X J hp ht fun b=>?_)
 obtain ⟨cd,hc,hd'⟩:=PySem.W.any_some hh
 have hx:s.heap.get? x=some ⟨.ref C,some dx,.plain,#[]⟩:=I.obj
 refine wpAny_bind (wpAny_pure (wpAny_bind (wpAny_bind (wpAny_loadPart hx (wpAny_bind (PySem.W.Looks.here (s:={ s with toks:=s.toks+1 }) (PySem.W.looks_clsIn X hc) ?_))))))
 rw [hd']
 refine wpAny_pure (a:=some dx) (wpAny_bind (wpAny_pure (wpAny_bind ?_)))
 refine wpAny_nsSet1 (s:={ s with toks:=s.toks+1 }) I.ns fun h' hn2 hs2=>?_
 obtain ⟨oD,esD,epD,hoD,hdD,hcD⟩:=hn2.count (PySem.Within.cons name v hw)
 refine wpAny_bind (wpAny_lookBehind hoD (by rw [hdD];exact pastItsLine_dict (Nat.le_trans hcD (by rw [List.length_cons];omega))) ?_)
 exact wpAny_pure (h _ ⟨(hs2.2 _ (Ne.symm I.ne)).trans I.obj,hn2,I.ne⟩ hs2)
theorem make_map {R:Result->Shared->Prop} {vs:List Value} {kw:List (Str × Value)} (X:K.In s.heap) (hm:PySem.W.makesIn K C=true)
  (hi:PySem.W.findIn K (.ref C) "__init__" = some (some (.ref f))) (hf:PySem.W.typeIn K (.ref f)=some (.type "function"))
  (h:codeAny (model prog w) (A.under (.builtin "type.__call__" ⟨.ref C :: vs,kw⟩)) (.call (.ref f) ⟨.ref (s.heap.objs.size+1) :: vs,kw⟩) (PySem.W.InitBack (s.heap.objs.size+1) R)
   { s with heap:=(s.heap.push PySem.W.emptyDict).push (PySem.W.instObj C s.heap.objs.size) }) :
  codeAny (model prog w) A (.call (.ref C) ⟨vs,kw⟩) R s:=by
 obtain ⟨hh,g,d,t,os⟩:=s
 exact PySem.W.make_core (PySem.W.makes_of X hm) (PySem.W.looks_findIn X hi) (fun self=>PySem.W.bind_fn X self hf) (.inl rfl) h
end
def putF (f:Str) (v:V):List (Str × V)->List (Str × V)
 | []=>[(f,v)]
 | (g,x) :: r=>if g=f then (g,v) :: r else (g,x) :: putF f v r
theorem lookup_putF (f g:Str) (v:V):∀ fs:List (Str × V),(putF f v fs).lookup g=if g=f then some v else fs.lookup g
 | []=>by
  show List.lookup g [(f,v)]=_
  by_cases h:g=f
  ·have hb:(g == f)=true:=beq_iff_eq.mpr h
   simp only [List.lookup,hb,if_pos h]
  ·have hb:(g == f)=false:=beq_eq_false_iff_ne.mpr h
   simp only [List.lookup,hb,if_neg h]
 | (k,x) :: r=>by
  have ih:=lookup_putF f g v r
  rw [show putF f v ((k,x) :: r)=(if k=f then (k,v) :: r else (k,x) :: putF f v r) from rfl]
  by_cases hk:k=f
  ·rw [if_pos hk]
   by_cases h:g=k
   ·have hb:(g == k)=true:=beq_iff_eq.mpr h
    simp only [List.lookup,hb,if_pos (h.trans hk)]
   ·have hb:(g == k)=false:=beq_eq_false_iff_ne.mpr h
    simp only [List.lookup,hb,if_neg (fun e:g=f=>h (e.trans hk.symm))]
  ·rw [if_neg hk]
   by_cases h:g=k
   ·have hb:(g == k)=true:=beq_iff_eq.mpr h
    simp only [List.lookup,hb,if_neg (fun e:g=f=>hk (h.symm.trans e))]
   ·have hb:(g == k)=false:=beq_eq_false_iff_ne.mpr h
    simp only [List.lookup,hb]
    exact ih
theorem keys_putF (f:Str) (v:V):∀ fs:List (Str × V),f∈(putF f v fs).map (·.1)/\∀ g,g∈fs.map (·.1)->g∈(putF f v fs).map (·.1)
 | []=>⟨by simp [putF],fun g h=>by simp at h⟩
 | (k,x) :: r=>by
  obtain ⟨i1,i2⟩:=keys_putF f v r
  rw [show putF f v ((k,x) :: r)=(if k=f then (k,v) :: r else (k,x) :: putF f v r) from rfl]
  by_cases hk:k=f
  ·rw [if_pos hk]
   subst hk
   exact ⟨by simp,fun g h=>by simpa using h⟩
  ·rw [if_neg hk]
   refine ⟨?_,fun g h=>?_⟩
   ·rw [List.map_cons]
    exact List.mem_cons_of_mem _ i1
   ·rw [List.map_cons] at h ⊢
    rcases List.mem_cons.mp h with e | e
    ·exact List.mem_cons.mpr (.inl e)
    ·exact List.mem_cons_of_mem _ (i2 g e)
theorem length_putF (f:Str) (v:V):∀ fs:List (Str × V),(putF f v fs).length<=fs.length+1
 | []=>by simp [putF]
 | (k,x) :: r=>by
  have ih:=length_putF f v r
  rw [show putF f v ((k,x) :: r)=(if k=f then (k,v) :: r else (k,x) :: putF f v r) from rfl]
  by_cases hk:k=f
  ·rw [if_pos hk,List.length_cons,List.length_cons];omega
  ·rw [if_neg hk,List.length_cons,List.length_cons];omega
theorem RelO.some_of {v:V} {o:Option Value} (r:RelO (some v) o):∃ u,o=some u/\RelV v u:=by
 cases o with
 | none=>exact (show False from r).elim
 | some u=>exact ⟨u,rfl,r⟩
theorem RelO.none_of {o:Option Value} (r:RelO none o):o=none:=by
 cases o with
 | none=>rfl
 | some u=>exact (show False from r).elim
theorem handed_of {v:V} {u:Value} (r:RelV v u):PySem.W.handedIn u=true:=by
 cases v with
 | non=>cases (show u=Value.none from r);rfl
 | bl b=>cases (show u=Value.bool b from r);rfl
 | int i=>obtain ⟨t,e⟩:=(show ∃ t,u=Value.int i t from r);cases e;rfl
 | str x=>obtain ⟨t,e⟩:=(show ∃ t,u=Value.str x t from r);cases e;rfl
 | byt b=>obtain ⟨t,e⟩:=(show ∃ t,u=Value.bytes b t from r);cases e;rfl
 | flt b=>obtain ⟨t,e⟩:=(show ∃ t,u=Value.float b t from r);cases e;rfl
 | ref a=>cases (show u=Value.ref a from r);rfl
 | ty n=>cases (show u=Value.type n from r);rfl
section
variable {P:Program} {w:World} {H H':Hp} {h h':Heap} {a C dx:Addr} {fs fs':List (Str × V)}
theorem ins_get (hok:HOk P w H h) (e:H a=some (.ins C dx fs)):∃ mA,ObjM h a dx C mA/\(∀ f,RelO (fs.lookup f) (mA f))/\PySem.Within mA (fs.map (·.1))/\fs.length<=1000/\H dx=some (.own a):=by
 obtain ⟨d,z,ne,ob,mA,n,r,q⟩:=(show ObjOk P w H h a (.ins C dx fs) from hok a _ e)
 exact ⟨mA,⟨ob,n,ne⟩,r,q,z,d⟩
end
structure Cls (K:PySem.W.Frag) (C:Addr):Prop where
 pg:PySem.W.plainGet K C Str.empty=true
 hd:PySem.W.hasDictIn K C=true
 po:PySem.W.plainOver K C=true
 sa:PySem.W.findIn K (.ref C) "__setattr__" = some (some (.builtin "object.__setattr__"))
theorem Cls.get {K:PySem.W.Frag} {C:Addr} (c:Cls K C) (f:Str):PySem.W.plainGet K C f=true:=c.pg
def NoAttr (K:PySem.W.Frag) (C:Addr) (f:Str):Prop:=PySem.W.findIn K (.ref C) f=some none
theorem NoAttr.taker {K:PySem.W.Frag} {C:Addr} {f:Str} (n:NoAttr K C f):PySem.W.takerIn K C f=some none:=by
 unfold PySem.W.takerIn
 rw [show PySem.W.findIn K (.ref C) f=some none from n]
 rfl
structure Meth (K:PySem.W.Frag) (C:Addr) (m:Str) (f:Addr):Prop where
 at_:PySem.W.findIn K (.ref C) m=some (some (.ref f))
 fn:PySem.W.isFn K (.ref f)=true
 kp:PySem.W.keepIn K (.ref f)=true
section
variable {X:Cx} {pins:List (Addr × Obj)} {σ:St} {H:Hp} {s:Shared} {a C dx:Addr} {fs:List (Str × V)} {f:Str} {v:V} {A:Around} {E:Value->Shared->Prop}
theorem getattr_ok {b:Bool} {Q:Value->Shared->Prop} (I:Inv X pins σ H s) (e:H a=some (.ins C dx fs)) (c:Cls X.K C) (n:NoAttr X.K C f) (l:fs.lookup f=some v)
  (h:∀ u s',Inv X pins σ H s'->RelV v u->Q u s'):wpAny (model X.prog X.w) A (getAttr (.ref a) f b) Q E s:=by
 obtain ⟨mA,O,r,_,_,_⟩:=ins_get I.hok e
 obtain ⟨u,hu,ru⟩:=RelO.some_of (v:=v) (o:=mA f) (by rw [<- l];exact r f)
 exact get_map I.kIn O (c.get f) c.hd n hu (handed_of ru) (h u _ (I.tok _) ru)
theorem getmeth_ok {m:Str} {g:Addr} {pl:Sem Bool} {Q:Value × List Value->Shared->Prop} (I:Inv X pins σ H s) (e:H a=some (.ins C dx fs)) (c:Cls X.K C) (k:Meth X.K C m g) (l:fs.lookup m=none)
  (h:Q (.ref g,[.ref a]) s):wpAny (model X.prog X.w) A (getMethod (.ref a) m pl) Q E s:=by
 obtain ⟨mA,O,r,_,_,_⟩:=ins_get I.hok e
 have hn:mA m=none:=RelO.none_of (by rw [<- l];exact r m)
 exact get_meth I.kIn O (c.get m) k.at_ k.fn hn h
theorem setattr_ok {y:V} {u:Value} {Q:Unit->Shared->Prop} (I:Inv X pins σ H s) (e:H a=some (.ins C dx fs)) (c:Cls X.K C) (n:NoAttr X.K C f) (hl:fs.length < 1000) (ry:RelV y u)
  (h:∀ s',Inv X pins σ (upd H a (.ins C dx (putF f y fs))) s'->Q () s'):wpAny (model X.prog X.w) A (setAttr (.ref a) f u) Q E s:=by
 obtain ⟨mA,O,r,wi,_,ho⟩:=ins_get I.hok e
 have hz:(fs.map (·.1)).length<=sizeLine:=by rw [List.length_map,sizeLine_eq];omega
 refine set_map I.kIn O c.sa c.po n.taker c.hd wi hz fun h' O' sb=>h _ ?_
 have hd:∃ o,h'.get? dx=some o:=let ⟨o,_,_,e',_⟩:=O'.ns;⟨o,e'⟩
 refine I.write (x:=a) (e:=dx) (by rw [e];exact True.intro) (.inr ho) (fun b q hb z=>(sb.2 b hb).trans z) hd ?_
 refine ⟨by rw [upd_ne O.ne];exact ho,?_,O.ne,O'.obj,_,O'.ns,fun g=>?_,fun g hg=>?_⟩
 ·have:=length_putF f y fs;omega
 ·show RelO ((putF f y fs).lookup g) (if g=f then some u else mA g)
  rw [lookup_putF]
  by_cases q:g=f
  ·rw [if_pos q,if_pos q];exact ry
  ·rw [if_neg q,if_neg q];exact r g
 ·by_cases q:g=f
  ·rw [q];exact (keys_putF f y fs).1
  ·refine (keys_putF f y fs).2 g (wi g fun z=>hg ?_)
   show (if g=f then some u else mA g)=none
   rw [if_neg q];exact z
theorem Inv.made (I:Inv X pins σ H s):Inv X pins σ (upd (upd H s.heap.objs.size (.own (s.heap.objs.size+1))) (s.heap.objs.size+1) (.ins C s.heap.objs.size []))
  { s with heap:=(s.heap.push PySem.W.emptyDict).push (PySem.W.instObj C s.heap.objs.size) }:=by
 have e1:(s.heap.push PySem.W.emptyDict).get? s.heap.objs.size=some PySem.W.emptyDict:=Heap.get?_push_size s.heap rfl
 have e2:((s.heap.push PySem.W.emptyDict).push (PySem.W.instObj C s.heap.objs.size)).get? (s.heap.objs.size+1)=some (PySem.W.instObj C s.heap.objs.size):=by
  have:=Heap.get?_push_size (s.heap.push PySem.W.emptyDict) (o:=PySem.W.instObj C s.heap.objs.size) rfl
  rwa [Heap.size_push] at this
 have e3:(s.heap.push PySem.W.emptyDict).Ns s.heap.objs.size (fun _=>none):=⟨PySem.W.emptyDict,#[],_,e1,rfl,(fun e he=>absurd he (by simp)),fun _=>rfl⟩
 have I1:=I.laid (a:=s.heap.objs.size) (o:=.own (s.heap.objs.size+1)) (h':=s.heap.push PySem.W.emptyDict) (t':=s.toks) (fun b u q=>Heap.get?_push_of_some _ q) (Nat.le_refl _) ⟨_,e1⟩
 refine I1.laid (a:=s.heap.objs.size+1) (o:=.ins C s.heap.objs.size []) (t':=s.toks) (fun b u q=>Heap.get?_push_of_some _ q) (Nat.le_of_eq (Heap.size_push _ _)) ?_
 have ne:s.heap.objs.size≠s.heap.objs.size+1:=Nat.ne_of_lt (Nat.lt_succ_self _)
 refine ⟨by rw [upd_ne ne,upd_same],Nat.zero_le _,ne,e2,fun _=>none,(Heap.Ns1.of_empty e3).at fun o q=>Heap.get?_push_of_some _ q,fun _=>True.intro,fun y hy=>absurd rfl hy⟩
theorem attr_of {prog:Program} {w:World} {env:Env} {e:Expr} {f:Str} {pos:Pos} {s:Shared} {Q:Value->Shared->Prop} (hb:attributeBase e f env (eval e env)=eval e env)
  (h:wpAny (model prog w) A (eval e env) (fun o s₁=>wpAny (model prog w) A (getAttr o f true) Q E s₁) E s):wpAny (model prog w) A (eval (.Attribute e f pos) env) Q E s :=
 Attribute_any_ h (by rw [arm_eval_Attribute,hb])
end
def tFld (K:PySem.W.Frag) (ta:TE) (f:Str):TE:=fun σ H Q=>ta σ H fun x H1=>∃ a C dx fs v,x=.ref a/\H1 a=some (.ins C dx fs)/\Cls K C/\NoAttr K C f/\fs.lookup f=some v/\Q v H1
section
variable {X:Cx} {o e value:Expr} {f:Str} {pos pos' tpos:Pos} {ta tv:TE}
theorem pe_fld (he:PE X e ta) (hb:attributeBase e f X.env (eval e X.env)=eval e X.env):PE X (.Attribute e f pos) (tFld X.K ta f):=by
 intro pins s σ H Q I h
 refine attr_of hb (thn (he pins s σ H _ I h) fun u s1 ⟨x,H1,I1,rx,a,C,dx,fs,v,ex,ea,c,n,l,q⟩=>?_)
 subst ex
 obtain rfl:u=Value.ref a:=rx
 exact getattr_ok I1 ea c n l fun u' s2 I2 ru=>⟨v,H1,I2,ru,q⟩
end
section
variable {X:Cx} {pins:List (Addr × Obj)} {σ:St} {H:Hp} {s:Shared} {A:Around} {E:Value->Shared->Prop} {Q:Value->Shared->Prop} {c:Value} {b:Bool}
end
structure Room (k:Nat) (A:Around):Prop where
 hd:A.handled=none
 dp:A.depth+3 * k+5 < recursionLimit
 un:A.units+16 * k+200 < cLine
theorem Room.mono {j k:Nat} {A:Around} (r:Room k A) (h:j<=k):Room j A:=⟨r.hd,by have:=r.dp;omega,by have:=r.un;omega⟩
theorem Room.deeper {k:Nat} {A:Around} (r:Room (k+1) A) (env:Env):Room k (A.deeper env) :=
 ⟨r.hd,by have:=r.dp;show A.depth+1+3 * k+5 < _;omega,by have:=r.un;show A.units+3+16 * k+200 < _;omega⟩
theorem make_depth {A:Around} {C:Addr} {us:List Value} {kw:List (Str × Value)}:(A.under (.builtin "type.__call__" ⟨.ref C :: us,kw⟩)).depth=A.depth+1:=by
 first | rfl | simp [Around.under,Code.weight,Code.isCreation,Code.isGuard,Code.isCaller,Code.frames,Code.isFrame,guardIds]
theorem make_units {A:Around} {C:Addr} {us:List Value} {kw:List (Str × Value)}:(A.under (.builtin "type.__call__" ⟨.ref C :: us,kw⟩)).units=A.units+1:=by
 first | rfl | simp [Around.under,Code.cUnits,Code.frames,Code.isFrame]
theorem Room.make {k:Nat} {A:Around} (r:Room (k+1) A) (C:Addr) (us:List Value) (kw:List (Str × Value)):Room k (A.under (.builtin "type.__call__" ⟨.ref C :: us,kw⟩)) :=
 ⟨r.hd,by have:=r.dp;rw [make_depth];omega,by have:=r.un;rw [make_units];omega⟩
theorem Room.depth {k:Nat} {A:Around} (r:Room k A):A.depth < recursionLimit:=by have:=r.dp;omega
theorem Room.units {k:Nat} {A:Around} (r:Room k A):A.units+64 < cLine:=by have:=r.un;omega
section
variable {X:Cx} {e:Expr} {es:List Expr} {te:TE} {t:TA} {pos:Pos}
end
abbrev Sp:=List V->Hp->VK->XK->Prop
abbrev CXT:=List Env->Hp->Shared->XK->Value->Shared->Prop
structure Env0 (P:Program) (w:World) (K:PySem.W.Frag) (mg:Str->Option Value) (base:Heap) (A:Around) (outer:List Env) (s:Shared) (H:Hp):Prop where
 frames:A.frames=some outer
 mod:Mod K mg base
 bs:∀ b o,base.get? b=some o->s.heap.get? b=some o/\H b=none
 bsz:base.objs.size<=s.heap.objs.size
 funs:s.heap.FunFrames base outer
 frf:∀ b∈frs outer,H b=none
 hok:HOk P w H s.heap
 bare:AllBare s.gens
def CE (outer:List Env) (P:Program) (w:World) (H:Hp) (s:Shared) (Q:VK) (u:Value) (s':Shared):Prop :=
 ∃ v H',s'.os=s.os/\AllBare s'.gens/\Un (frs outer) [] H H' s.heap s'.heap/\HOk P w H' s'.heap/\RelV v u/\Q v H'
def CR (CX:CXT) (outer:List Env) (P:Program) (w:World) (H:Hp) (s:Shared) (Q:VK) (E:XK) (r:Result) (s':Shared):Prop :=
 match r with
 | .ok (.ret u)=>CE outer P w H s Q u s'
 | .ok _=>False
 | .error e=>CX outer H s E e s'
structure FnOk (P:Program) (w:World) (K:PySem.W.Frag) (mg:Str->Option Value) (base:Heap) (CX:CXT) (k:Nat) (f:Addr) (fd:FuncData) (ps:List Str) (sp:Sp):Prop where
 len:∀ vs H Q E,sp vs H Q E->vs.length=ps.length
 run:∀ (A:Around) (outer:List Env) (s:Shared) (H:Hp) (args:Args) (us:List Value) (vs:List V) (Q:VK) (E:XK),Room k A->Env0 P w K mg base A outer s H->BindsTo s fd args (ps.zip us)->Vals vs us->sp vs H Q E ->
  codeAny (model P w) A (.call (.ref f) args) (CR CX outer P w H s Q E) s
theorem FnOk.mono {P:Program} {w:World} {K:PySem.W.Frag} {mg:Str->Option Value} {base:Heap} {CX:CXT} {j k:Nat} {f:Addr} {fd:FuncData} {ps:List Str} {sp:Sp} (F:FnOk P w K mg base CX j f fd ps sp) (h:j<=k) :
  FnOk P w K mg base CX k f fd ps sp:=⟨F.len,fun A outer s H args us vs Q E hr=>F.run A outer s H args us vs Q E (hr.mono h)⟩
theorem Env0.make {P:Program} {w:World} {K:PySem.W.Frag} {mg:Str->Option Value} {base:Heap} {A:Around} {outer:List Env} {s:Shared} {H:Hp} (e:Env0 P w K mg base A outer s H) (C:Addr) (us:List Value) (kw:List (Str × Value)) :
  Env0 P w K mg base (A.under (.builtin "type.__call__" ⟨.ref C :: us,kw⟩)) outer s H:=⟨by first | exact e.frames | (simpa [Around.under,Code.envs,Code.isFrame,pushEnvs] using e.frames),e.mod,e.bs,e.bsz,e.funs,e.frf,e.hok,e.bare⟩
section
variable {X:Cx} {pins:List (Addr × Obj)} {σ:St} {H:Hp} {s s':Shared}
theorem Inv.env0 (I:Inv X pins σ H s):Env0 X.prog X.w X.K X.mg X.base X.A X.stack s H :=
 ⟨I.ok.frames,I.ok.mod,I.bs,Nat.le_trans I.ok.bsz I.sz,I.stack,I.stkFree,I.hok,I.bare⟩
theorem Inv.after {Q:VK} {u:Value} (I:Inv X pins σ H s) (h:CE X.stack X.prog X.w H s Q u s'):EP X pins σ Q u s':=by
 obtain ⟨v,H',os,bare,un,hok,r,q⟩:=h
 obtain ⟨hh,g,d,t,os'⟩:=s'
 obtain rfl:os'=s.os:=os
 exact ⟨v,H',I.call (h':=hh) (g':=g) (d':=d) (t':=t) (ch:=[]) un hok bare (fun b z=>absurd z (by simp)),r,q⟩
end
def Binds (K:PySem.W.Frag) (fd:FuncData) (ps:List Str) (ds:List Value):Prop :=
 ∀ (s:Shared) (us:List Value),K.In s.heap->(us++ds).length=ps.length->BindsTo s fd ⟨us,[]⟩ (ps.zip (us++ds))
theorem Binds.all {K:PySem.W.Frag} {fd:FuncData} {ps:List Str} (h:∀ us:List Value,us.length=ps.length->bindArgs fd ⟨us,[]⟩=pure (ps.zip us)):Binds K fd ps []:=fun s us _ hl=>by
 rw [List.append_nil] at hl ⊢
 exact .of_eq (h us hl)
def Passes (CX:CXT) (X:Cx) (E:XK):Prop:=∀ (pins:List (Addr × Obj)) (σ:St) (H:Hp) (s:Shared) (e:Value) (s':Shared),Inv X pins σ H s->CX X.stack H s E e s'->X.xe e s'
section
variable {X:Cx} {CX:CXT} {k:Nat} {f C:Addr} {fd:FuncData} {ps:List Str} {sp:Sp} {dvs:List V} {ds:List Value} {E:XK} {x m:Str} {p pos apos:Pos} {e o:Expr} {es:List Expr} {ta:TE} {t:TA}
theorem run_fn {pins:List (Addr × Obj)} {σ:St} {H:Hp} {s:Shared} {Q:VK} {us:List Value} {vs:List V} (F:FnOk X.prog X.w X.K X.mg X.base CX k f fd ps sp) (hr:Room k X.A) (hb:Binds X.K fd ps ds) (hd:Vals dvs ds) (hx:Passes CX X E)
  (I:Inv X pins σ H s) (r:Vals vs us) (h:sp (vs++dvs) H Q E):wpAny (model X.prog X.w) X.A (call (.ref f) us) (EP X pins σ Q) X.xe s:=by
 have r2:Vals (vs++dvs) (us++ds):=r.append hd
 have hl:(us++ds).length=ps.length:=by rw [<- r2.length];exact F.len _ _ _ _ h
 refine wpAny_call (codeAny_mono (F.run X.A X.stack s H ⟨us,[]⟩ (us++ds) (vs++dvs) Q E hr I.env0 (hb s us I.kIn hl) r2 h) fun r s' hq=>?_)
 cases r with
 | error e=>exact hx pins σ H s e s' I hq
 | ok fl =>
  cases fl with
  | ret u=>exact I.after hq
  | next=>exact False.elim hq
  | brk=>exact False.elim hq
  | cont=>exact False.elim hq
structure Mk (K:PySem.W.Frag) (C f:Addr):Prop where
 makes:PySem.W.makesIn K C=true
 init:PySem.W.findIn K (.ref C) "__init__" = some (some (.ref f))
 fn:PySem.W.isFn K (.ref f)=true
 kp:PySem.W.keepIn K (.ref C)=true
end
section
variable {X:Cx} {CX:CXT} {k:Nat} {f C:Addr} {fd:FuncData} {ps ks:List Str} {sp:Sp} {E:XK} {x m:Str} {p pos apos kpos:Pos} {e o:Expr} {es:List Expr} {kws:List Keyword} {te ta:TE} {t tk:TA} {nm:Option Str}
variable {g:List Value->List Value->List Value} {gV:List V->List V->List V}
end
structure FnScope (N P:List Str) (sc:Scope):Prop where
 kind:sc.kind=.function
 co:sc.isCoroutine=false
 gen:sc.isGenerator=false
 nd:N.Nodup
 pre:N.take P.length=P
 par:∀ x∈P,sc.names.lookup x=some .local\/sc.names.lookup x=some .cell
 nofree:∀ y∈sc.names,y.2≠.free
theorem bindL_out {kindOf:Str->Option NameKind} {x:Str}:∀ {binds:List (Str × Value)} {m:Str->Option Value},(∀ v,(x,v)∉binds)->bindL kindOf binds m x=m x
 | [],_,_=>rfl
 | (n,v) :: r,m,h=>by
  unfold bindL
  rw [bindL_out fun w hw=>h w (List.mem_cons_of_mem _ hw)]
  split
  ·have:x≠n:=by rintro rfl;exact h v List.mem_cons_self
   simp [this]
  ·rfl
theorem bindC_out {kindOf:Str->Option NameKind} {x:Str}:∀ {binds:List (Str × Value)} {m:Str->Option Value},(∀ v,(x,v)∉binds)->bindC kindOf binds m x=m x
 | [],_,_=>rfl
 | (n,v) :: r,m,h=>by
  unfold bindC
  rw [bindC_out fun w hw=>h w (List.mem_cons_of_mem _ hw)]
  split
  ·rfl
  ·have:x≠n:=by rintro rfl;exact h v List.mem_cons_self
   simp [this]
theorem bindL_get {kindOf:Str->Option NameKind} {x:Str} {v:Value}:∀ {P:List Str} {vs:List Value} {i:Nat} {m:Str->Option Value},P.Nodup->P[i]?=some x->vs[i]?=some v->kindOf x=some .local ->
  bindL kindOf (P.zip vs) m x=some v
 | [],_,_,_,_,h,_,_=>by simp at h
 | _ :: _,[],_,_,_,_,h,_=>by simp at h
 | p :: P,w :: vs,0,m,nd,h1,h2,hk=>by
  simp at h1 h2;subst h1;subst h2
  show bindL kindOf ((p,w) :: P.zip vs) m p=_
  unfold bindL
  rw [bindL_out fun v hv=>(List.nodup_cons.mp nd).1 (List.of_mem_zip hv).1,if_pos hk]
  simp
 | p :: P,w :: vs,i+1,m,nd,h1,h2,hk=>by
  show bindL kindOf ((p,w) :: P.zip vs) m x=_
  unfold bindL
  exact bindL_get (i:=i) (List.nodup_cons.mp nd).2 (by simpa using h1) (by simpa using h2) hk
theorem bindC_get {kindOf:Str->Option NameKind} {x:Str} {v:Value}:∀ {P:List Str} {vs:List Value} {i:Nat} {m:Str->Option Value},P.Nodup->P[i]?=some x->vs[i]?=some v->kindOf x≠some .local ->
  bindC kindOf (P.zip vs) m x=some v
 | [],_,_,_,_,h,_,_=>by simp at h
 | _ :: _,[],_,_,_,_,h,_=>by simp at h
 | p :: P,w :: vs,0,m,nd,h1,h2,hk=>by
  simp at h1 h2;subst h1;subst h2
  show bindC kindOf ((p,w) :: P.zip vs) m p=_
  unfold bindC
  rw [bindC_out fun v hv=>(List.nodup_cons.mp nd).1 (List.of_mem_zip hv).1,if_neg hk]
  simp
 | p :: P,w :: vs,i+1,m,nd,h1,h2,hk=>by
  show bindC kindOf ((p,w) :: P.zip vs) m x=_
  unfold bindC
  exact bindC_get (i:=i) (List.nodup_cons.mp nd).2 (by simpa using h1) (by simpa using h2) hk
def start (N:List Str) (vs:List V):St:=vs.map some++List.replicate (N.length - vs.length) none
def cxOf (CX:CXT) (P:Program) (w:World) (K:PySem.W.Frag) (mg:Str->Option Value) (base:Heap) (N:List Str) (qual:Str) (scope:Scope) (f:Addr) (cd:Value) (A:Around) (outer:List Env) (s:Shared) (H:Hp) (E:XK):Cx where
 prog:=P
 w:=w
 K:=K
 mg:=mg
 base:=base
 A:=A.deeper (envOfC qual scope s.heap.objs.size f cd)
 N:=N
 s₀:=s
 H₀:=H
 env:=envOfC qual scope s.heap.objs.size f cd
 outer:=outer
 stack:=envOfC qual scope s.heap.objs.size f cd :: outer
 ex:=[]
 calm:=true
 fn:=fun _=>true
 pn:=[]
 xe:=fun e s'=>wpAny (model P w) (A.deeper (envOfC qual scope s.heap.objs.size f cd)) (leaving (envOfC qual scope s.heap.objs.size f cd) e) (fun _ s''=>CX outer H s E e s'') (fun e' s''=>CX outer H s E e' s'') s'
theorem cell_has {sc:Scope} {n:Nat} {x:Str} (h:sc.names.lookup x=some .cell):∃ c,(cellsFrom n sc.names []).lookup x=some c:=by
 have q:=PySem.W.cellsFrom_some sc.names n [] (.inl h)
 exact Option.isSome_iff_exists.mp q
theorem inv_start {CX:CXT} {P:Program} {w:World} {K:PySem.W.Frag} {mg:Str->Option Value} {base:Heap} {N ps:List Str} {qual:Str} {scope:Scope} {f:Addr} {cd:Value} {A:Around} {outer:List Env} {s s1:Shared} {H:Hp} {E:XK} {us:List Value} {vs:List V}
  (S:FnScope N ps scope) (hd:A.handled=none) (e0:Env0 P w K mg base A outer s H) (hl:vs.length=ps.length) (r:Vals vs us)
  (x:InCallC s s.heap.objs.size (bindL (envOfC qual scope s.heap.objs.size f cd).kindOf (ps.zip us) fun _=>none) (cellsFrom (s.heap.objs.size+1) scope.names []) (bindC (envOfC qual scope s.heap.objs.size f cd).kindOf (ps.zip us) fun _=>none) s1) :
  Inv (cxOf CX P w K mg base N qual scope f cd A outer s H E) [] (start N vs) H s1:=by
 have hpl:ps.length<=N.length:=by have:=congrArg List.length S.pre;rw [List.length_take] at this;omega
 obtain ⟨h1,tk,rfl,hk⟩:=x.done
 have noA:∀ b:Addr,b∉(cxOf CX P w K mg base N qual scope f cd A outer s H E).ex:=fun b z=>absurd (show b∈([] : List Addr) from z) (by simp)
 refine ⟨⟨e0.mod,S.kind,rfl,rfl,Nat.le_refl _,fun y z c h1 h2=>?_,fun y hy=>?_,fun y c _ h=>?_,fun _=>hd,Around.frames_deeper e0.frames,.inr ⟨rfl,rfl⟩,fun b z=>absurd z (noA b),e0.bs,e0.bsz,fun b _ _=>noA b,fun b z=>absurd z (noA b),e0.funs,e0.frf⟩,
  rfl,e0.bare,Un.kept hk,⟨_,x.toInCall.ns,fun i y v h1 h2 h3=>?_⟩,fun y c h=>⟨_,x.cell y c h⟩,e0.hok.fresh (Nat.le_refl _),fun y c h=>?_,fun p hp=>absurd (show p∈([] : List (Addr × Obj)) from hp) (by simp),e0.hok.kept hk,?_⟩
 ·exact name_of_addr x.apart (PySem.mem_of_lookup h1) (PySem.mem_of_lookup h2)
 ·have hy:scope.names.lookup y=some .cell\/scope.names.lookup y=some .free:=hy
  rcases hy with hy | hy
  ·exact cell_has hy
  ·exact absurd rfl (S.nofree _ (PySem.mem_of_lookup hy))
 ·exact Nat.le_of_lt (x.above y c (PySem.mem_of_lookup h))
 ·have hi:i < vs.length:=by
   unfold start at h2
   by_cases hi:i < vs.length
   ·exact hi
   ·rw [List.getElem?_append_right (by simpa using hi)] at h2
    rw [List.getElem?_replicate] at h2
    split at h2<;>cases h2
  have ha:vs[i]?=some v:=by
   unfold start at h2
   rw [List.getElem?_append_left (by simpa using hi),List.getElem?_map] at h2
   cases e:vs[i]? with
   | none=>rw [e] at h2;cases h2
   | some a=>rw [e] at h2;cases h2;rfl
  obtain ⟨u,hu,rv⟩:=r.get ha
  have hp:ps[i]?=some y:=by
   rw [<- S.pre,List.getElem?_take_of_lt (by omega)];exact h1
  have ndP:ps.Nodup:=by rw [<- S.pre];exact S.nd.sublist (List.take_sublist _ _)
  refine ⟨u,rv,?_⟩
  rcases S.par y (List.mem_of_getElem? hp) with k | k
  ·exact .inl ⟨k,bindL_get ndP hp hu k⟩
  ·obtain ⟨c,e⟩:=cell_has (n:=s.heap.objs.size+1) k
   refine .inr ⟨.inl k,c,e,?_⟩
   have q:=x.cell y c e
   rw [bindC_get ndP hp hu (by show scope.names.lookup y≠_;rw [k];decide)] at q
   exact q
 ·exact e0.hok.fresh (Nat.le_of_lt (x.above y c (PySem.mem_of_lookup h)))
 ·unfold start
  show _=N.length
  rw [List.length_append,List.length_map,List.length_replicate]
  omega
theorem fn_of {CX:CXT} {P:Program} {w:World} {K:PySem.W.Frag} {mg:Str->Option Value} {base:Heap} {k:Nat} {f:Addr} {name qual:Str} {params:Arguments} {body:List Stmt} {scope:Scope} {dV kV doc pm cdv ct oc:Value} {an od:Option Addr}
  {osl:Array (Option Value)} {N ps:List Str} {sp:Sp} (lk:K.lookup f=some ⟨oc,od,.func (PySem.W.fnOf name qual params body scope dV kV doc pm an cdv ct),osl⟩) (hcd:PySem.W.codeIn K cdv qual=true) (S:FnScope N ps scope)
  (len:∀ vs H Q E,sp vs H Q E->vs.length=ps.length)
  (hbody:∀ (A:Around) (outer:List Env) (s:Shared) (H:Hp) (vs:List V) (Q:VK) (E:XK),Room k (A.deeper (envOfC qual scope s.heap.objs.size f cdv))->sp vs H Q E ->
   ∃ t,PSs (cxOf CX P w K mg base N qual scope f cdv A outer s H E) body t/\t { nx:=fun _ H'=>Q .non H',rt:=Q } (start N vs) H) :
  FnOk P w K mg base CX (k+1) f (PySem.W.fnOf name qual params body scope dV kV doc pm an cdv ct) ps sp:=by
 refine ⟨len,fun A outer s H args us vs Q E hr e0 hb r hsp=>?_⟩
 have hl:=len _ _ _ _ hsp
 have KX:K.In s.heap:=e0.mod.kin.keeps fun b o e=>(e0.bs b o e).1
 have lim:s.heap.NoLimit:=e0.mod.nolimit.keeps fun b o e=>(e0.bs b o e).1
 have hkind:∀ y∈ps.zip us,scope.names.lookup y.1=some .local\/(scope.names.lookup y.1=some .cell/\((cellsFrom (s.heap.objs.size+1) scope.names []).lookup y.1).isSome=true):=fun ⟨n,v⟩ hy=>by
  rcases S.par n (List.of_mem_zip hy).1 with q | q
  ·exact .inl q
  ·exact .inr ⟨q,PySem.W.cellsFrom_some _ _ _ (.inl q)⟩
 refine codeAny_call_function hr.depth (KX _ _ lk) rfl S.co S.gen rfl (PySem.W.codeRec_of KX hcd) (hb _ _ _ _ ?_)
 refine wpAny_newFunctionEnv_cells S.kind hkind fun env he s1 x=>?_
 subst he
 refine ⟨lim.keeps x.toInCall.keep,codeAny_func ?_⟩
 obtain ⟨t,ht,hq⟩:=hbody A outer s H vs Q E (hr.deeper _) hsp
 have I:Inv (cxOf CX P w K mg base N qual scope f cdv A outer s H E) [] (start N vs) H s1:=inv_start S hr.hd e0 hl r x
 refine wpAny_mono (ht [] s1 (start N vs) H _ I hq) (fun fl s' hs=>?_) fun e s' hs=>hs
 have fin:∀ {σ':St} {H':Hp} {v:V} {u:Value},Inv (cxOf CX P w K mg base N qual scope f cdv A outer s H E) [] σ' H' s'->RelV v u->Q v H'->CE outer P w H s Q u s' :=
  fun {σ' H' v u} J rv q=>⟨v,H',J.os,J.bare,J.base,J.hok,rv,q⟩
 cases fl with
 | ret u =>
  obtain ⟨v,σ',H',J,rv,q⟩:=hs
  exact fin J rv q
 | next =>
  obtain ⟨σ',H',J,q⟩:=hs
  exact fin (v:=V.non) (u:=Value.none) J rfl q
 | brk =>
  obtain ⟨_,_,_,q⟩:=hs
  exact False.elim q
 | cont =>
  obtain ⟨_,_,_,q⟩:=hs
  exact False.elim q
section
variable {X:Cx} {x:Str} {p pos:Pos} {e:Expr} {es:List Expr} {t:TA} {id T:String} {r:List V->Hp->VK->Prop}
end
end L2
namespace HT
open PySem PyProof.Rows
section
open PySem.SeqAt
open PySem.AutoSeq1 (wpAny_loadPart')
open PySem.MeetsSeq PySem.MeetsSeq2 PySem.MeetsSeq3
end
section
variable {prog:Program} {w:World} {A:Around} {E:Value->Shared->Prop} {s:Shared}
theorem cat_tup {t b:Addr} {vs ws:List Value} {Q:Value->Shared->Prop} (ht:IsTup s.heap t vs.toArray) (hb:IsTup s.heap b ws.toArray) (hv:vs≠[])
  (h1:ws=[]->Q (.ref t) s) (h2:ws≠[]->Q (.ref s.heap.objs.size) { s with heap:=s.heap.push { cls:=.type "tuple",data:=.seq (vs++ws).toArray } })
  (hsz:vs.length+ws.length<=sizeLine):wpAny (model prog w) A (binaryOp .Add (.ref t) (.ref b)) Q E s:=by
 obtain ⟨⟨cls,dd,data,sl⟩,ho,hc,n,hd⟩:=id ht
 obtain ⟨⟨cls2,dd2,data2,sl2⟩,ho2,hc2,n2,hd2⟩:=id hb
 simp only at hc hd hc2 hd2
 subst hc hd hc2 hd2
 have e:vs.toArray++ws.toArray=(vs++ws).toArray:=by simp
 by_cases hw:ws=[]
 ·exact concat_meets ⟨_,ho,rfl⟩ ⟨_,ho2,rfl⟩ noFill_tuple_add seq_tuple_add PySem.F.slot_tuple_add PySem.F.entry_tuple_add (PySem.F.args_tuple_add_2 _ _)
   (tuple_addW1 t b vs.toArray ws.toArray n n2 dd dd2 sl sl2 (by simpa using hv) (by simp [hw])) ⟨ho,ho2,h1 hw⟩
 ·refine concat_meets ⟨_,ho,rfl⟩ ⟨_,ho2,rfl⟩ noFill_tuple_add seq_tuple_add PySem.F.slot_tuple_add PySem.F.entry_tuple_add (PySem.F.args_tuple_add_2 _ _)
   (tuple_addW2 t b vs.toArray ws.toArray n n2 dd dd2 sl sl2 (by simpa using hv) (by simpa using hw) (by rw [List.size_toArray,List.size_toArray];exact hsz)) ⟨ho,ho2,?_⟩
  rw [e]
  exact h2 hw
def sIx (n d:Nat):Option Int->Nat
 | none=>d
 | some v=>if v < 0 then (v+(n:Int)).toNat else min v.toNat n
theorem sIx_none (n d:Nat):sIx n d none=d:=rfl
theorem sIx_nat (n d k:Nat):sIx n d (some (k:Int))=min k n:=by
 show (if (k:Int) < 0 then ((k:Int)+(n:Int)).toNat else min (k:Int).toNat n)=min k n
 rw [if_neg (by omega),Int.toNat_natCast]
theorem sIx_le (n d:Nat) (hd:d<=n) (o:Option Int):sIx n d o<=n:=by
 cases o with
 | none=>exact hd
 | some v =>
  show (if v < 0 then (v+(n:Int)).toNat else min v.toNat n)<=n
  by_cases hv:v < 0
  ·rw [if_pos hv];omega
  ·rw [if_neg hv];exact Nat.min_le_right _ _
theorem clip_eq (v:Int) (n d:Nat):(if v < 0 then max (v+(n:Int)) 0 else min v (n:Int))=((sIx n d (some v):Nat):Int):=by
 show (if v < 0 then max (v+(n:Int)) 0 else min v (n:Int))=(((if v < 0 then (v+(n:Int)).toNat else min v.toNat n):Nat):Int)
 by_cases hv:v < 0
 ·simp only [if_pos hv];omega
 ·simp only [if_neg hv];omega
theorem adjust_gen (lo hi:Option Int) (n:Nat):Builtin.Slice.sliceAdjust lo hi 1 (n:Int)=(((sIx n 0 lo:Nat):Int),((sIx n n hi:Nat):Int)):=by
 have h1:¬ ((1:Int) < 0):=by omega
 unfold Builtin.Slice.sliceAdjust
 simp only [h1,if_false]
 refine Prod.ext ?_ ?_
 ·cases lo with
  | none=>rfl
  | some v=>exact clip_eq v n 0
 ·cases hi with
  | none=>rfl
  | some v=>exact clip_eq v n n
theorem places_gen (i j:Nat):Builtin.Slice.slicePlaces (i:Int) (j:Int) 1=j - i:=by
 unfold Builtin.Slice.slicePlaces
 have h1:(1:Int) > 0:=by omega
 simp only [h1,if_true,Int.ediv_one]
 split<;>omega
theorem slicePart_ {v:Value} {o:Option Int} {Q:Option Int->Shared->Prop} (p:IsPart v o) (h:Q o s):wpAny (model prog w) A (Builtin.Slice.slicePartIndex v) Q E s:=by
 cases p with
 | none=>exact slicePart_none h
 | int i t=>exact slicePart_int h
theorem sliceApplied_gen {sl:Addr} {vl vu:Value} {lo hi:Option Int} {n:Nat} {Q:Int × Int × Nat->Shared->Prop} (hs:s.heap.IsSliceOf sl vl vu .none) (pl:IsPart vl lo) (pu:IsPart vu hi)
  (h:Q (((sIx n 0 lo:Nat):Int),1,sIx n n hi - sIx n 0 lo) s):wpAny (model prog w) A (Builtin.Slice.sliceApplied (.ref sl) (pure (n:Int))) Q E s:=by
 obtain ⟨os,hos,hcs,hds⟩:=id hs
 unfold Builtin.Slice.sliceApplied Builtin.Slice.sliceFields
 refine wpAny_bind (wpAny_bind (wpAny_field hos hds (x:=vl) rfl (wpAny_bind (wpAny_field hos hds (x:=vu) rfl (wpAny_bind (wpAny_field hos hds (x:=.none) rfl (wpAny_pure ?_)))))))
 refine wpAny_bind (slicePart_none ?_)
 show wpAny _ _ (if ((1:Int) == 0)=true then _ else _) _ _ s
 rw [if_neg (by decide)]
 refine wpAny_bind (slicePart_ pl (wpAny_bind (slicePart_ pu (wpAny_bind (wpAny_pure ?_)))))
 show wpAny _ _ (match Builtin.Slice.sliceAdjust lo hi 1 (n:Int) with | (lo,hi)=>pure (lo,(1:Int),Builtin.Slice.slicePlaces lo hi 1)) _ _ s
 rw [adjust_gen lo hi n]
 show wpAny _ _ (pure (((sIx n 0 lo:Nat):Int),(1:Int),Builtin.Slice.slicePlaces ((sIx n 0 lo:Nat):Int) ((sIx n n hi:Nat):Int) 1)) _ _ s
 rw [places_gen]
 exact wpAny_pure h
theorem pick_gen (xs:Array Value) (i k:Nat):((List.range k).filterMap fun (m:Nat)=>xs[((i:Int)+(m:Int) * 1).toNat]?).toArray=((xs.toList.drop i).take k).toArray:=by
 have e:(fun (m:Nat)=>xs[((i:Int)+(m:Int) * 1).toNat]?)=fun m=>xs[i+m]?:=by
  funext m
  have:((i:Int)+(m:Int) * 1).toNat=i+m:=by omega
  rw [this]
 rw [e]
 have:=pick_run xs i k
 rw [List.filterMap_map] at this
 have e2:((fun x=>xs[x]?) ∘ fun x=>i+x)=fun m=>xs[i+m]?:=rfl
 rw [e2] at this
 rw [this]
theorem getItem_tuple_cut {t sl:Addr} {items:Array Value} {vl vu:Value} {lo hi:Option Int} {Q:Value->Shared->Prop} (ht:IsTup s.heap t items) (hs:s.heap.IsSliceOf sl vl vu .none) (pl:IsPart vl lo) (pu:IsPart vu hi)
  (hw:¬ (sIx items.size 0 lo=0/\sIx items.size items.size hi=items.size))
  (h:Q (.ref s.heap.objs.size) { s with heap:=s.heap.push { cls:=.type "tuple",data:=.seq ((items.toList.drop (sIx items.size 0 lo)).take (sIx items.size items.size hi - sIx items.size 0 lo)).toArray } })
  (hsz:items.size<=sizeLine):wpAny (model prog w) A (getItem (.ref t) (.ref sl)) Q E s:=by
 have htake:sizeOk (.seq ((items.toList.drop (sIx items.size 0 lo)).take (sIx items.size items.size hi - sIx items.size 0 lo)).toArray):=by
  show ((items.toList.drop (sIx items.size 0 lo)).take (sIx items.size items.size hi - sIx items.size 0 lo)).toArray.size<=sizeLine
  rw [List.size_toArray,List.length_take,List.length_drop,Array.length_toList]
  omega
 have hj:sIx items.size items.size hi<=items.size:=sIx_le _ _ (Nat.le_refl _) hi
 obtain ⟨os,hos,hcs,hds⟩:=id hs
 have hTs:s.TypeIs (.ref sl) "slice" := ⟨os,hos,hcs⟩
 unfold getItem
 try with_reducible refine wpAny_holding ?_
 first | refine wpAny_bind (wpAny_pure ?_) | skip
 refine wpAny_bind (wpAny_sequenceKey ht.typeIs (by decide) ?_)
 refine wpAny_bind (wpAny_callSpecial?_slot (name:=Str.ofString "__getitem__") ht.typeIs PyProof.Rows.slot_tuple_getitem
  (wpAny_call_entry PyProof.Rows.slot_tuple_getitem ht.typeIs entry_tuple_getitem ?_ (args_tuple_getitem _ _)))
 show wpAny _ _ (Builtin.Tuple.tupleItemsOf (.ref t) >>= _) _ _ s
 refine wpAny_bind (tupleItemsOf_ ht ?_)
 refine wpAny_bind (wpAny_typeOf hTs ?_)
 rw [if_pos (by decide)]
 refine wpAny_bind (sliceApplied_gen hs pl pu ?_)
 have hno:¬ ((((sIx items.size 0 lo:Nat):Int) == 0 && (1:Int) == 1 && (sIx items.size items.size hi - sIx items.size 0 lo) == items.size)=true):=by
  intro q
  rw [Bool.and_eq_true,Bool.and_eq_true] at q
  have q1:((sIx items.size 0 lo:Nat):Int)=0:=eq_of_beq q.1.1
  have q2:sIx items.size items.size hi - sIx items.size 0 lo=items.size:=eq_of_beq q.2
  exact hw ⟨by omega,by omega⟩
 show wpAny _ _ (if (((sIx items.size 0 lo:Nat):Int) == 0 && (1:Int) == 1 && (sIx items.size items.size hi - sIx items.size 0 lo) == items.size)=true then _ else _) _ _ s
 rw [if_neg hno,pick_gen]
 first
  | exact wpAny_bind (m:=Builtin.Tuple.tupleExact _) (wpAny_newObj_type (wpAny_pure ⟨_,rfl,wpAny_pure h⟩) htake)
  | exact wpAny_bind (m:=Builtin.Tuple.tupleExact _) (wpAny_newObj_type (wpAny_bind (wpAny_pure (wpAny_pure ⟨_,rfl,wpAny_pure h⟩))) htake)
  | exact wpAny_bind (wpAny_bind (m:=Builtin.Tuple.tupleExact _) (wpAny_newObj_type (wpAny_pure (wpAny_pure ⟨_,rfl,wpAny_pure h⟩)) htake))
  | exact wpAny_bind (wpAny_bind (m:=Builtin.Tuple.tupleExact _) (wpAny_newObj_type (wpAny_pure ⟨_,rfl,wpAny_pure h⟩) htake))
end
end HT
namespace L2
open PySem PySem.Spec PyProof.Rows
abbrev TO:=St->Hp->(Option Int->Hp->Prop)->Prop
section
variable {X:Cx} {e:Expr} {te:TE} {lo hi:Option Expr} {tl th:TO} {pos p2:Pos}
def SlR (X:Cx) (r:V->Option Int->Option Int->Hp->VK->Prop):Prop :=
 ∀ (pins:List (Addr × Obj)) (s:Shared) (σ:St) (H:Hp) (x:V) (v vl vu:Value) (lo hi:Option Int) (sl:Addr) (Q:VK),Inv X pins σ H s->RelV x v->s.heap.IsSliceOf sl vl vu .none->IsPart vl lo->IsPart vu hi->r x lo hi H Q ->
  ∃ T id,typeLookup (.type T) "__getitem__" = pure (some (.builtin id))/\s.TypeIs v T/\wpAny (model X.prog X.w) X.A (getItem v (.ref sl)) (EP X pins σ Q) X.xe s
def cutV (xs:List V) (lo hi:Option Int):List V:=(xs.drop (HT.sIx xs.length 0 lo)).take (HT.sIx xs.length xs.length hi - HT.sIx xs.length 0 lo)
theorem cutV_length (xs:List V) (lo hi:Option Int):(cutV xs lo hi).length<=xs.length:=by
 unfold cutV
 rw [List.length_take,List.length_drop]
 omega
def rSlT (K:PySem.W.Frag):V->Option Int->Option Int->Hp->VK->Prop:=fun x lo hi H Q=>∃ a xs,x=.ref a/\SqT K H a xs /\
 ¬ (HT.sIx xs.length 0 lo=0/\HT.sIx xs.length xs.length hi=xs.length)/\∀ p,H p=none->Q (.ref p) (upd H p (.tup (cutV xs lo hi)))
theorem sl_tup:SlR X (rSlT X.K):=by
 intro pins s σ H x v vl vu lo hi sl Q I rx hs pl pu h
 obtain ⟨a,xs,rfl,hx,hw,q⟩:=h
 cases rx
 obtain ⟨its,r,ht,hz⟩:=I.tuple hx
 have hlen:its.toArray.size=xs.length:=by rw [List.size_toArray];exact r.length.symm
 refine ⟨"tuple",_,PyProof.Rows.slot_tuple_getitem.lookup,ht.typeIs,?_⟩
 refine HT.getItem_tuple_cut ht hs pl pu (by rw [hlen];exact hw) ?_ (by rw [hlen];exact hz)
 rw [hlen]
 refine ⟨.ref s.heap.objs.size,_,I.laid (t':=s.toks) (o:=.tup (cutV xs lo hi)) (fun b ob q=>Heap.get?_push_of_some _ q) (Nat.le_refl _) ?_,rfl,q _ (I.hok.fresh (Nat.le_refl _))⟩
 exact ⟨⟨Nat.le_trans (cutV_length xs lo hi) hz,_,Heap.get?_push_size _ rfl,rfl⟩,_,(r.drop (HT.sIx xs.length 0 lo)).take (HT.sIx xs.length xs.length hi - HT.sIx xs.length 0 lo),IsTup.new _ _⟩
def rCatT (K:PySem.W.Frag):R2:=fun x y H Q=>∃ a b xs ys,x=.ref a/\y=.ref b/\SqT K H a xs/\SqT K H b ys/\xs≠[]/\xs.length+ys.length<=sizeLine /\
 (ys=[]->Q (.ref a) H)/\(ys≠[]->∀ p,H p=none->Q (.ref p) (upd H p (.tup (xs++ys))))
theorem Vals.nil_iff {xs:List V} {us:List Value} (r:Vals xs us):us=[] ↔ xs=[]:=by
 cases r with
 | nil=>simp
 | cons _ _=>simp
theorem op_catT:OpR X (binaryOp .Add) (rCatT X.K):=by
 intro pins s σ H x y v u Q I rx ry h
 obtain ⟨a,b,xs,ys,rfl,rfl,ha,hb,hx,hz,q1,q2⟩:=h
 cases rx
 cases ry
 obtain ⟨its,r1,p1,_⟩:=I.tuple ha
 obtain ⟨its2,r2,p2,_⟩:=I.tuple hb
 refine HT.cat_tup p1 p2 (fun z=>hx (r1.nil_iff.mp z)) (fun z=>⟨.ref a,H,I,rfl,q1 (r2.nil_iff.mp z)⟩) (fun z=>?_) (by rw [<- r1.length,<- r2.length];exact hz)
 refine ⟨.ref s.heap.objs.size,_,I.laid (t':=s.toks) (o:=.tup (xs++ys)) (fun b ob q=>Heap.get?_push_of_some _ q) (Nat.le_refl _) ?_,rfl,q2 (fun w=>z (r2.nil_iff.mpr w)) _ (I.hok.fresh (Nat.le_refl _))⟩
 exact ⟨⟨by rw [List.length_append];exact hz,_,Heap.get?_push_size _ rfl,rfl⟩,_,r1.append r2,IsTup.new _ _⟩
end
def ixN (n:Nat) (i:Int):Option Nat:=if 0<=i then (if i < n then some i.toNat else none) else if -(n:Int)<=i then some (i+n).toNat else none
def atI {α:Type} (xs:List α) (i:Int):Option α:=(ixN xs.length i).bind fun j=>xs[j]?
theorem ixN_seq {n:Nat} {i:Int} {j:Nat} (h:ixN n i=some j):seqIndex? i n=some j/\j < n/\-(n:Int)<=i/\i < n:=by
 unfold ixN at h
 by_cases h0:0<=i
 ·rw [if_pos h0] at h
  by_cases h1:i < n
  ·rw [if_pos h1] at h
   have e:i.toNat=j:=Option.some.inj h
   exact ⟨by rw [seqIndex_of h0 h1,e],by omega,by omega,h1⟩
  ·rw [if_neg h1] at h;cases h
 ·rw [if_neg h0] at h
  by_cases h1:-(n:Int)<=i
  ·rw [if_pos h1] at h
   have e:(i+n).toNat=j:=Option.some.inj h
   exact ⟨by rw [seqIndex_neg (by omega) h1,e],by omega,h1,by omega⟩
  ·rw [if_neg h1] at h;cases h
theorem atI_get {α:Type} {xs:List α} {i:Int} {v:α} (h:atI xs i=some v):∃ j,seqIndex? i xs.length=some j/\xs[j]?=some v/\j < xs.length/\-(xs.length:Int)<=i/\i < xs.length:=by
 unfold atI at h
 cases e:ixN xs.length i with
 | none=>rw [e] at h;cases h
 | some j =>
  rw [e] at h
  obtain ⟨h1,h2,h3,h4⟩:=ixN_seq e
  exact ⟨j,h1,h,h2,h3,h4⟩
theorem atI_nat {α:Type} {xs:List α} {j:Nat} {v:α} (h:xs[j]?=some v):atI xs (j:Int)=some v:=by
 have hj:j < xs.length:=(List.getElem?_eq_some_iff.mp h).1
 have e:ixN xs.length (j:Int)=some j:=by
  unfold ixN
  rw [if_pos (by omega),if_pos (by omega)];simp
 unfold atI;rw [e];exact h
def PlainIx (b:Expr):Prop:=∀ o i,subscripted b false o i=operate [o,i] (getItem o i)
def IxR (X:Cx) (r:R2):Prop :=
 ∀ (value slice:Expr) (pins:List (Addr × Obj)) (s:Shared) (σ:St) (H:Hp) (x y:V) (v u:Value) (Q:VK),Inv X pins σ H s->RelV x v->RelV y u->r x y H Q ->
  subscripted slice false v u=operate [v,u] (getItem v u)->wpAny (model X.prog X.w) X.A (subscriptTail value slice v u) (EP X pins σ Q) X.xe s
def MtR (X:Cx) (id:String) (r:V->List V->Hp->VK->Prop):Prop :=
 ∀ (pins:List (Addr × Obj)) (s:Shared) (σ:St) (H:Hp) (x:V) (xs:List V) (v:Value) (us:List Value) (Q:VK),Inv X pins σ H s->RelV x v->Vals xs us->r x xs H Q ->
  wpAny (model X.prog X.w) X.A (call (.builtin id) (v :: us)) (EP X pins σ Q) X.xe s
section
variable {X:Cx} {a b:Expr} {ta tb:TE} {pos:Pos}
theorem IxR.or {r r':R2} (h:IxR X r) (h':IxR X r'):IxR X (fun x y H Q=>r x y H Q\/r' x y H Q):=by
 intro value slice pins s σ H x y v u Q I rx ry q hs
 rcases q with q | q
 ·exact h value slice pins s σ H x y v u Q I rx ry q hs
 ·exact h' value slice pins s σ H x y v u Q I rx ry q hs
def rIxL (K:PySem.W.Frag):R2:=fun x y H Q=>∃ p xs i v,x=.ref p/\y=.int i/\SqL K H p xs/\atI xs i=some v/\Q v H
def rIxT (K:PySem.W.Frag):R2:=fun x y H Q=>∃ p xs i v,x=.ref p/\y=.int i/\SqT K H p xs/\atI xs i=some v/\Q v H
def rIxS:R2:=fun x y H Q=>∃ z i c,x=.str z/\y=.int i/\z.length<=sizeLine/\atI z.cps.toList i=some c/\Q (.str ⟨#[c]⟩) H
theorem ix_list:IxR X (rIxL X.K):=by
 intro value slice pins s σ H x y v u Q I rx ry h hs
 obtain ⟨p,xs,i,z,rfl,rfl,hq,he,q⟩:=h
 cases rx
 obtain ⟨t,rfl⟩:=ry
 obtain ⟨its,r,pl,hz⟩:=I.list hq
 obtain ⟨j,h1,h2,h3,h4,h5⟩:=atI_get he
 obtain ⟨w,ew,rw'⟩:=r.get h2
 have hl:=r.length
 have hn:=line63
 have fin:EP X pins σ Q w s:=⟨z,H,I,rw',q⟩
 by_cases h0:0<=i
 ·have hj:i.toNat=j:=by
   rw [seqIndex_of h0 h5] at h1
   exact Option.some.inj h1
  exact item_listR pl.isList h0 (by omega) (by rw [hj];simpa using ew) fin hs
 ·have hj:(i+(its.toArray.size:Int)).toNat=j:=by
   rw [seqIndex_neg (by omega) h4] at h1
   rw [List.size_toArray,<- hl]
   exact Option.some.inj h1
  exact subscriptTail_builtinR (x:=w) pl.isList.typeIs slot_list_getitem.lookup
   (wpAny_getItem_list_neg (Q:=fun r s'=>r=w/\EP X pins σ Q r s') pl.isList (by omega) (by rw [List.size_toArray]<;>omega) (by omega) (by rw [hj];simpa using ew) ⟨rfl,fin⟩) hs
theorem ix_tup:IxR X (rIxT X.K):=by
 intro value slice pins s σ H x y v u Q I rx ry h hs
 obtain ⟨p,xs,i,z,rfl,rfl,hq,he,q⟩:=h
 cases rx
 obtain ⟨t,rfl⟩:=ry
 obtain ⟨its,r,pl,hz⟩:=I.tuple hq
 obtain ⟨j,h1,h2,h3,h4,h5⟩:=atI_get he
 obtain ⟨w,ew,rw'⟩:=r.get h2
 have hl:=r.length
 have hn:=line63
 have fin:EP X pins σ Q w s:=⟨z,H,I,rw',q⟩
 exact subscriptTail_builtinR (x:=w) pl.typeIs slot_tuple_getitem.lookup
  (getItem_tuple (j:=j) (Q:=fun r s'=>r=w/\EP X pins σ Q r s') pl (by omega) (by omega) (by rw [List.size_toArray,<- hl];exact h1) (by simpa using ew) ⟨rfl,fin⟩) hs
theorem ix_str:IxR X rIxS:=by
 intro value slice pins s σ H x y v u Q I rx ry h hs
 obtain ⟨z,i,c,rfl,rfl,hz,he,q⟩:=h
 obtain ⟨t,rfl⟩:=rx
 obtain ⟨t',rfl⟩:=ry
 obtain ⟨j,h1,h2,h3,h4,h5⟩:=atI_get he
 have hl:z.cps.toList.length=z.length:=by simp [Str.length]
 rw [hl] at h1 h4 h5
 have hn:=line63
 exact tail_any (typeIs_str s z t) slot_str_getitem.lookup (getItem_str (c:=c) (by
  have e1:decide (i < -(2 ^ 63:Int))=false:=decide_eq_false (by omega)
  have e2:decide (i ≥ 2 ^ 63)=false:=decide_eq_false (by omega)
  rw [e1,e2,Bool.or_false]) (by rw [h1];simpa using h2) ⟨.str ⟨#[c]⟩,H,I.tok _,⟨_,rfl⟩,q⟩) hs
def rIx (K:PySem.W.Frag):R2:=fun x y H Q=>rIxL K x y H Q\/rIxT K x y H Q\/rIxS x y H Q
theorem ix_seq:IxR X (rIx X.K):=ix_list.or (ix_tup.or ix_str)
theorem mapSeq_set (its:List Value) (n j:Nat) (u:Value):Obj.mapSeq (·.setIfInBounds j u) { cls:=.type "list",data:=.seq its.toArray n }={ cls:=.type "list",data:=.seq (its.set j u).toArray n }:=by
 simp [Obj.mapSeq]
theorem Inv.lst {pins:List (Addr × Obj)} {σ:St} {H:Hp} {s:Shared} {p:Addr} {xs:List V} (I:Inv X pins σ H s) (h:H p=some (.lst xs)) :
  ∃ (its:List Value) (n:Nat),Vals xs its/\s.heap.get? p=some { cls:=.type "list",data:=.seq its.toArray n }/\xs.length<=sizeLine:=by
 obtain ⟨z,its,n,r,e⟩:=I.hok p _ h
 exact ⟨its,n,r,e,z⟩
theorem Inv.lstUpd {pins:List (Addr × Obj)} {σ:St} {H:Hp} {s:Shared} {p:Addr} {xs ys:List V} {its its':List Value} {n n':Nat} {f:Obj->Obj} (I:Inv X pins σ H s) (h:H p=some (.lst xs))
  (ho:s.heap.get? p=some { cls:=.type "list",data:=.seq its.toArray n }) (hf:f { cls:=.type "list",data:=.seq its.toArray n }={ cls:=.type "list",data:=.seq its'.toArray n' }) (r:Vals ys its') (hz:ys.length<=sizeLine) (t:Nat) :
  Inv X pins σ (upd H p (.lst ys)) { s with heap:=s.heap.update p f,toks:=t }:=by
 have e:(s.heap.update p f).get? p=some { cls:=.type "list",data:=.seq its'.toArray n' }:=by
  rw [Heap.get?_update_self f ho (by rw [hf]<;>rfl),hf]
 refine I.write (x:=p) (e:=p) (by rw [h];trivial) (.inl rfl) (fun b u hb q=>(Heap.get?_update_other _ _ (Ne.symm hb)).trans q) ⟨_,e⟩ ?_
 exact ⟨hz,its',n',r,e⟩
def rSetL:V->V->V->Hp->(Hp->Prop)->Prop:=fun o i v H Q=>∃ p xs k j,o=.ref p/\i=.int k/\H p=some (.lst xs)/\ixN xs.length k=some j/\Q (upd H p (.lst (xs.set j v)))
theorem set_list:PSet X rSetL:=by
 intro pins s σ H o i v ov iv u Q I ro ri rv h
 obtain ⟨p,xs,k,j,rfl,rfl,hp,hj,q⟩:=h
 cases ro
 obtain ⟨t,rfl⟩:=ri
 obtain ⟨its,n,r,ho,hz⟩:=I.lst hp
 obtain ⟨h1,h2,h3,h4⟩:=ixN_seq hj
 have hl:=r.length
 have hn:=line63
 have I':Inv X pins σ (upd H p (.lst (xs.set j v))) { s with heap:=s.heap.update p (Obj.mapSeq (·.setIfInBounds j u)) } :=
  I.lstUpd hp ho (mapSeq_set its n j u) (r.set rv j) (by rw [List.length_set];exact hz) s.toks
 by_cases h0:0<=k
 ·have hk:k.toNat=j:=by
   rw [seqIndex_of h0 h4] at h1
   exact Option.some.inj h1
  exact PySem.W.ki_setAt ho h0 (by omega) (by rw [List.size_toArray,<- hl];exact h4) (by rw [hk];exact ⟨_,I',q⟩)
 ·have hk:(k+(its.toArray.size:Int)).toNat=j:=by
   rw [seqIndex_neg (by omega) h3] at h1
   rw [List.size_toArray,<- hl]
   exact Option.some.inj h1
  exact PySem.W.ki_setBack ho (by omega) (by rw [List.size_toArray,<- hl];exact h3) (by omega) (by rw [hk];exact ⟨_,I',q⟩)
theorem slice_bounds (lo hi:Option Int) (n:Nat):(sliceBounds lo hi none n).1=((HT.sIx n 0 lo:Nat):Int)/\(sliceBounds lo hi none n).2.1=((HT.sIx n n hi:Nat):Int)/\(sliceBounds lo hi none n).2.2=1:=by
 refine ⟨?_,?_,rfl⟩
 ·cases lo with
  | none=>simp [sliceBounds,HT.sIx]
  | some i =>
   simp only [sliceBounds,HT.sIx,Option.getD_none,show (1:Int) > 0 by decide,if_true]
   by_cases h:i < 0
   ·simp only [h,if_true]<;>omega
   ·simp only [h,if_false]<;>omega
 ·cases hi with
  | none=>simp [sliceBounds,HT.sIx]
  | some i =>
   simp only [sliceBounds,HT.sIx,Option.getD_none,show (1:Int) > 0 by decide,if_true]
   by_cases h:i < 0
   ·simp only [h,if_true]<;>omega
   ·simp only [h,if_false]<;>omega
theorem slicePick_cut (its:List Value) (lo hi:Option Int):slicePick its.toArray lo hi none=((its.drop (HT.sIx its.length 0 lo)).take (HT.sIx its.length its.length hi - HT.sIx its.length 0 lo)).toArray:=by
 obtain ⟨h1,h2,h3⟩:=slice_bounds lo hi its.toArray.size
 unfold slicePick
 rw [h1,h2,h3]
 simp only [sliceRange_one,pick_run,List.size_toArray]<;>rfl
def rSlL (K:PySem.W.Frag):V->Option Int->Option Int->Hp->VK->Prop:=fun x lo hi H Q=>∃ a xs,x=.ref a/\SqL K H a xs/\∀ p,H p=none->Q (.ref p) (upd H p (.lst (cutV xs lo hi)))
theorem sl_list:SlR X (rSlL X.K):=by
 intro pins s σ H x v vl vu lo hi sl Q I rx hs pl pu h
 obtain ⟨a,xs,rfl,hx,q⟩:=h
 cases rx
 obtain ⟨its,r,ht,hz⟩:=I.list hx
 have hlen:=r.length
 refine ⟨"list",_,slot_list_getitem.lookup,ht.isList.typeIs,?_⟩
 refine wpAny_getItem_list_slice ht.isList hs pl pu .none (by simp) ?_ (by rw [List.size_toArray]<;>omega)
 rw [slicePick_cut,<- hlen]
 refine ⟨.ref s.heap.objs.size,_,I.laid (t':=s.toks) (o:=.lst (cutV xs lo hi)) (fun b ob q=>Heap.get?_push_of_some _ q) (Nat.le_refl _) ?_,rfl,q _ (I.hok.fresh (Nat.le_refl _))⟩
 exact ⟨Nat.le_trans (cutV_length xs lo hi) hz,_,0,(r.drop (HT.sIx xs.length 0 lo)).take (HT.sIx xs.length xs.length hi - HT.sIx xs.length 0 lo),Heap.get?_push_size _ rfl⟩
def flatV:V->Bool
 | .non=>true
 | .bl _=>true
 | .int _=>true
 | .str _=>true
 | _=>false
def eqV:V->V->Bool
 | .non,.non=>true
 | .bl a,.bl b=>a == b
 | .bl a,.int b=>(if a then 1 else 0) == b
 | .int a,.bl b=>a == (if b then 1 else 0)
 | .int a,.int b=>a == b
 | .str a,.str b=>a == b
 | _,_=>false
theorem eqAt_V {A:Around} {s:Shared} {y x:V} {u v:Value} (ry:RelV y u) (rx:RelV x v) (fy:flatV y=true) (fx:flatV x=true):SeqAt.EqAt A s u v (eqV y x):=by
 cases y with
 | non =>
  cases ry
  cases x with
  | non=>cases rx;exact SeqAt.EqAt.same _
  | bl b=>cases rx;exact SeqAt.EqAt.none_bool b
  | int b=>obtain ⟨t,rfl⟩:=rx;exact SeqAt.EqAt.none_int b t
  | str b=>obtain ⟨t,rfl⟩:=rx;exact SeqAt.EqAt.none_str b t
  | _=>exact absurd (show false=true from fx) Bool.false_ne_true
 | bl a =>
  cases ry
  cases x with
  | non=>cases rx;exact SeqAt.EqAt.bool_none a
  | bl b=>cases rx;exact SeqAt.EqAt.bool_bool a b
  | int b=>obtain ⟨t,rfl⟩:=rx;exact SeqAt.EqAt.bool_int a b t
  | str b=>obtain ⟨t,rfl⟩:=rx;exact SeqAt.EqAt.bool_str a b t
  | _=>exact absurd (show false=true from fx) Bool.false_ne_true
 | int a =>
  obtain ⟨t',rfl⟩:=ry
  cases x with
  | non=>cases rx;exact SeqAt.EqAt.int_none a t'
  | bl b=>cases rx;exact SeqAt.EqAt.int_bool a t' b
  | int b=>obtain ⟨t,rfl⟩:=rx;exact SeqAt.EqAt.int_int a t' b t
  | str b=>obtain ⟨t,rfl⟩:=rx;exact SeqAt.EqAt.int_str a t' b t
  | _=>exact absurd (show false=true from fx) Bool.false_ne_true
 | str a =>
  obtain ⟨t',rfl⟩:=ry
  cases x with
  | non=>cases rx;exact SeqAt.EqAt.str_none a t'
  | bl b=>cases rx;exact SeqAt.EqAt.str_bool a t' b
  | int b=>obtain ⟨t,rfl⟩:=rx;exact SeqAt.EqAt.str_int a t' b t
  | str b=>obtain ⟨t,rfl⟩:=rx;exact SeqAt.EqAt.str_str a t' b t
  | _=>exact absurd (show false=true from fx) Bool.false_ne_true
 | _=>exact absurd (show false=true from fy) Bool.false_ne_true
def eqU (x:V) (u:Value):Bool:=match u with
 | .none=>eqV .non x
 | .bool b=>eqV (.bl b) x
 | .int i _=>eqV (.int i) x
 | .str z _=>eqV (.str z) x
 | _=>false
theorem eqU_of {x y:V} {u:Value} (r:RelV y u) (f:flatV y=true):eqU x u=eqV y x:=by
 cases y with
 | non=>cases r;rfl
 | bl b=>cases r;rfl
 | int i=>obtain ⟨t,rfl⟩:=r;rfl
 | str z=>obtain ⟨t,rfl⟩:=r;rfl
 | _=>exact absurd (show false=true from f) Bool.false_ne_true
theorem any_eqU {x:V}:∀ {xs:List V} {us:List Value},Vals xs us->xs.all flatV=true->us.any (eqU x)=xs.any fun y=>eqV y x
 | _,_,.nil,_=>rfl
 | y :: xs,u :: us,.cons r t,f=>by
  rw [List.all_cons,Bool.and_eq_true] at f
  rw [List.any_cons,List.any_cons,eqU_of r f.1,any_eqU t f.2]
theorem mem_eqAt {A:Around} {s:Shared} {x:V} {v:Value} (rx:RelV x v) (fx:flatV x=true):∀ {xs:List V} {us:List Value},Vals xs us->xs.all flatV=true->∀ u∈us,SeqAt.EqAt A s u v (eqU x u)
 | _,_,.nil,_=>fun u hu=>by cases hu
 | y :: xs,u :: us,.cons r t,f=>fun u' hu=>by
  rw [List.all_cons,Bool.and_eq_true] at f
  rcases List.mem_cons.mp hu with rfl | hu
  ·rw [eqU_of r f.1];exact eqAt_V r rx f.1 fx
  ·exact mem_eqAt rx fx t f.2 u' hu
def inV (x:V) (xs:List V):Bool:=xs.any fun y=>eqV y x
def rIn (K:PySem.W.Frag) (neg:Bool):R2:=fun x y H Q=>∃ p xs,y=.ref p/\(SqL K H p xs\/SqT K H p xs)/\flatV x=true/\xs.all flatV=true/\Q (.bl (if neg then !inV x xs else inV x xs)) H
theorem op_in_seq:OpR X (compareOp .In) (rIn X.K false):=by
 intro pins s σ H x y v u Q I rx ry h
 obtain ⟨p,xs,rfl,hq,fx,fs,q⟩:=h
 cases ry
 rcases hq with hq | hq
 ·obtain ⟨its,r,pl,hz⟩:=I.list hq
  refine SeqAt.in_listAt (eqU x) pl.isList (fun w hw=>mem_eqAt rx fx r fs w (by simpa using hw)) ⟨.bl _,H,I,rfl,?_⟩
  rw [show its.toArray.any (eqU x)=its.any (eqU x) by simp,any_eqU r fs]
  exact q
 ·obtain ⟨its,r,pl,hz⟩:=I.tuple hq
  refine SeqAt.in_tupleAt (eqU x) pl (fun w hw=>mem_eqAt rx fx r fs w (by simpa using hw)) ⟨.bl _,H,I,rfl,?_⟩
  rw [show its.toArray.any (eqU x)=its.any (eqU x) by simp,any_eqU r fs]
  exact q
theorem op_notIn_seq:OpR X (compareOp .NotIn) (rIn X.K true):=by
 intro pins s σ H x y v u Q I rx ry h
 obtain ⟨p,xs,rfl,hq,fx,fs,q⟩:=h
 cases ry
 rcases hq with hq | hq
 ·obtain ⟨its,r,pl,hz⟩:=I.list hq
  refine SeqAt.notIn_listAt (eqU x) pl.isList (fun w hw=>mem_eqAt rx fx r fs w (by simpa using hw)) ⟨.bl _,H,I,rfl,?_⟩
  rw [show its.toArray.any (eqU x)=its.any (eqU x) by simp,any_eqU r fs]
  exact q
 ·obtain ⟨its,r,pl,hz⟩:=I.tuple hq
  refine SeqAt.notIn_tupleAt (eqU x) pl (fun w hw=>mem_eqAt rx fx r fs w (by simpa using hw)) ⟨.bl _,H,I,rfl,?_⟩
  rw [show its.toArray.any (eqU x)=its.any (eqU x) by simp,any_eqU r fs]
  exact q
theorem call_len_seq:CallR X (.builtin "len") (fun xs H Q=>∃ p ys,xs=[.ref p]/\(SqL X.K H p ys\/SqT X.K H p ys)/\Q (.int ys.length) H):=by
 intro pins s σ H xs us Q I r h
 obtain ⟨p,ys,rfl,hq,q⟩:=h
 obtain ⟨u,rfl,rx⟩:=vals1 r
 cases rx
 have hn:=line63
 rcases hq with hq | hq
 ·obtain ⟨its,r',pl,hz⟩:=I.list hq
  have hlen:=r'.length
  exact Calls.call_len_list pl.isList (by simp only [List.size_toArray]<;>omega) ⟨.int ys.length,H,I.tok _,⟨s.toks+1,by rw [List.size_toArray,hlen]⟩,q⟩
 ·obtain ⟨its,r',pl,hz⟩:=I.tuple hq
  have hlen:=r'.length
  exact len_tuple pl (by simp only [List.size_toArray]<;>omega) ⟨.int ys.length,H,I.tok _,⟨s.toks+1,by rw [List.size_toArray,hlen]⟩,q⟩
theorem call_list_of:CallR X (.type "list") (fun xs H Q=>∃ p ys,xs=[.ref p]/\(SqL X.K H p ys\/SqT X.K H p ys)/\∀ l,H l=none->Q (.ref l) (upd H l (.lst ys))):=by
 intro pins s σ H xs us Q I r h
 obtain ⟨p,ys,rfl,hq,q⟩:=h
 obtain ⟨u,rfl,rx⟩:=vals1 r
 cases rx
 have fin:∀ (its:List Value),Vals ys its->ys.length<=sizeLine->∀ (h':Heap) (c':Nat),(∀ b o',s.heap.get? b=some o'->h'.get? b=some o') ->
   h'.get? s.heap.objs.size=some { cls:=.type "list",dict:=none,data:=.seq its.toArray c',slots:=#[] }->EP X pins σ Q (.ref s.heap.objs.size) { s with heap:=h' }:=fun its r' hz h' c' kp e =>
  ⟨.ref s.heap.objs.size,_,I.laid (t':=s.toks) kp (Nat.le_refl _) (show ObjOk X.prog X.w _ h' _ (.lst ys) from ⟨hz,its,c',r',e⟩),rfl,q _ (I.hok.fresh (Nat.le_refl _))⟩
 rcases hq with hq | hq
 ·obtain ⟨its,r',pl,hz⟩:=I.list hq
  have hlen:=r'.length
  obtain ⟨o,ho,hc,n,hd⟩:=pl.isList
  exact call_list_seq p (.inl rfl) ho hc hd (fun h' c' kp e=>fin its r' hz h' c' kp e) (by simp only [List.size_toArray]<;>omega)
 ·obtain ⟨its,r',pl,hz⟩:=I.tuple hq
  have hlen:=r'.length
  obtain ⟨o,ho,hc,n,hd⟩:=pl
  exact call_list_seq p (.inr rfl) ho hc hd (fun h' c' kp e=>fin its r' hz h' c' kp e) (by simp only [List.size_toArray]<;>omega)
theorem call_tuple_of:CallR X (.type "tuple") (fun xs H Q=>∃ p ys,xs=[.ref p]/\((SqL X.K H p ys/\∀ l,H l=none->Q (.ref l) (upd H l (.tup ys)))\/(SqT X.K H p ys/\Q (.ref p) H))):=by
 intro pins s σ H xs us Q I r h
 obtain ⟨p,ys,rfl,h⟩:=h
 obtain ⟨u,rfl,rx⟩:=vals1 r
 cases rx
 rcases h with ⟨hq,q⟩ | ⟨hq,q⟩
 ·obtain ⟨its,r',pl,hz⟩:=I.list hq
  have hlen:=r'.length
  refine call_tuple_list pl.isList (fun h' kp=>?_) (by simp only [List.size_toArray]<;>omega)
  have I1:Inv X pins σ H { s with heap:=h' }:=I.kept (t':=s.toks) kp
  have I2:Inv X pins σ (upd H h'.objs.size (.tup ys)) { s with heap:=h'.push { cls:=.type "tuple",data:=.seq its.toArray } } :=
   I1.laid (t':=s.toks) (fun b o e=>Heap.get?_push_of_some _ e) (Nat.le_refl _) (show ObjOk X.prog X.w _ _ _ (.tup ys) from ⟨⟨hz,_,Heap.get?_push_size _ rfl,rfl⟩,its,r',IsTup.new _ _⟩)
  exact ⟨.ref h'.objs.size,_,I2,rfl,q _ (I1.hok.fresh (Nat.le_refl _))⟩
 ·obtain ⟨its,r',pl,hz⟩:=I.tuple hq
  exact call_tuple_same pl ⟨.ref p,H,I,rfl,q⟩
def tyV (K:PySem.W.Frag) (T:String) (x:V) (H:Hp):Prop:=match x with
 | .str _=>T = "str"
 | .int _=>T = "int"
 | .ref p=>(T = "list" /\ ∃ xs,SqL K H p xs)\/(T = "tuple" /\ ∃ o,K.lookup p=some o/\o.cls=.type "tuple" /\ o.dict=none) \/
   (T = "dict" /\ ((∃ kvs,H p=some (.dK kvs))\/∃ kvs,H p=some (.dT kvs)))\/(T = "set" /\ ∃ S n,H p=some (.set S n))
 | _=>False
theorem tyV_is {pins:List (Addr × Obj)} {σ:St} {H:Hp} {s:Shared} {T:String} {x:V} {v:Value} (I:Inv X pins σ H s) (r:RelV x v) (ty:tyV X.K T x H) :
  s.TypeIs v T/\∀ a,v=.ref a->∃ ob,s.heap.get? a=some ob/\ob.dict=none:=by
 cases x with
 | str z =>
  obtain ⟨t,rfl⟩:=r
  cases (show T = "str" from ty)
  exact ⟨typeIs_str s z t,fun _ e=>nomatch e⟩
 | int i =>
  obtain ⟨t,rfl⟩:=r
  cases (show T = "int" from ty)
  exact ⟨typeIs_int s i t,fun _ e=>nomatch e⟩
 | ref p =>
  cases r
  rcases ty with ⟨rfl,xs,hq⟩ | ⟨rfl,o,hk,hc,hd⟩ | ⟨rfl,hk⟩ | ⟨rfl,S,n,hk⟩
  ·obtain ⟨its,_,pl,_⟩:=I.list hq
   refine ⟨pl.isList.typeIs,fun a e=>?_⟩
   cases e
   obtain ⟨o,n,e,c,hd,_⟩:=pl
   exact ⟨o,e,hd⟩
  ·refine ⟨⟨o,I.kIn p o hk,hc⟩,fun a e=>?_⟩
   cases e
   exact ⟨o,I.kIn _ o hk,hd⟩
  ·have z:∃ o,s.heap.get? p=some o/\o.ExactDict:=by
    rcases hk with ⟨kvs,hk⟩ | ⟨kvs,hk⟩
    ·obtain ⟨_,_,_,_,o,_,_,e,ex,_⟩:=I.hok p _ hk
     exact ⟨o,e,ex⟩
    ·obtain ⟨_,_,_,_,o,_,_,e,ex,_⟩:=I.hok p _ hk
     exact ⟨o,e,ex⟩
   obtain ⟨o,e,ex⟩:=z
   refine ⟨⟨o,e,ex.1⟩,fun a e2=>?_⟩
   cases e2
   exact ⟨o,e,ex.2.1⟩
  ·obtain ⟨o,_,_,_,e,ex,_⟩:=I.hok p _ hk
   refine ⟨⟨o,e,ex.1⟩,fun a e2=>?_⟩
   cases e2
   exact ⟨o,e,ex.2.1⟩
 | _=>exact False.elim ty
def tBM0 (K:PySem.W.Frag) (T:String) (r:V->List V->Hp->VK->Prop) (to:TE):TE:=fun σ H Q=>to σ H fun x H1=>tyV K T x H1/\r x [] H1 Q
def tBM (K:PySem.W.Frag) (T:String) (r:V->List V->Hp->VK->Prop) (to:TE) (t:TA):TE:=fun σ H Q=>to σ H fun x H1=>tyV K T x H1/\t σ H1 fun xs H2=>r x xs H2 Q
variable {o e:Expr} {es:List Expr} {to:TE} {t:TA} {name:Str} {apos cpos:Pos} {T id:String} {r:V->List V->Hp->VK->Prop}
theorem pe_bm0 (pa:PlainAttrs T) (slot:Slot T name id) (hty:typeOf (.builtin id)=pure (.type "method_descriptor")) (hm:MtR X id r) (ho:PE X o to)
  (hbase:attributeBase o name X.env (eval o X.env)=eval o X.env:=by rfl) (hline:(apos.endLine == cpos.line)=true:=by rfl):PE X (.Call (.Attribute o name apos) [] [] cpos) (tBM0 X.K T r to):=by
 intro pins s σ H Q I h
 refine wpAny_Call_method0_late hbase hline (thn (ho pins s σ H _ I h) fun v s1 ⟨x,H1,I1,r1,ty,q1⟩=>?_)
 obtain ⟨h1,h2⟩:=tyV_is I1 r1 ty
 exact ⟨T,id,pa,slot,hty,h1,h2,Calls.callWith_builtin rfl (PySem.evalArgs_none (hm pins s1 σ H1 x [] v [] Q I1 r1 .nil q1))⟩
theorem pe_bm (pa:PlainAttrs T) (slot:Slot T name id) (hty:typeOf (.builtin id)=pure (.type "method_descriptor")) (hm:MtR X id r) (ho:PE X o to) (ha:PA X (e :: es) t)
  (hbase:attributeBase o name X.env (eval o X.env)=eval o X.env:=by rfl)
  (hfew:((backTo cpos (starEach (e :: es) X.env)).all (fun x=>!x.1) && (backToKw cpos (keywordEach [] X.env)).all (fun x=>x.1.isSome)
   && decide ((e :: es).length+([] : List Keyword).length+(if ([] : List Keyword).isEmpty then 0 else 1) < 30))=true:=by rfl)
  (hline:(apos.endLine == cpos.line)=true:=by rfl) (hs:starEach (e :: es) X.env=(false,eval e X.env) :: starEach es X.env:=by rfl) (hplain:(backTo cpos (starEach es X.env)).any (·.1)=false:=by rfl) :
  PE X (.Call (.Attribute o name apos) (e :: es) [] cpos) (tBM X.K T r to t):=by
 intro pins s σ H Q I h
 refine wpAny_Call_method_late hbase hfew hline rfl (thn (ho pins s σ H _ I h) fun v s1 ⟨x,H1,I1,r1,ty,q1⟩=>?_)
 obtain ⟨h1,h2⟩:=tyV_is I1 r1 ty
 refine ⟨T,id,pa,slot,hty,h1,h2,?_⟩
 have hA:=ha cpos pins s1 σ H1 _ I1 q1
 rw [hs] at hA ⊢
 refine Calls.callWith_builtin (by show (false || (backTo cpos (starEach es X.env)).any (·.1))=false;rw [hplain]<;>rfl) (Calls.evalArgs_plain ?_)
 exact thn hA fun us s2 ⟨vs,H2,I2,r2,q2⟩=>hm pins s2 σ H2 x vs v us Q I2 r1 r2 q2
end
def MtM (X:Cx) (id:String) (r:V->List V->Hp->VK->Prop):Prop :=
 ∀ (pins:List (Addr × Obj)) (s:Shared) (σ:St) (H:Hp) (x:V) (xs:List V) (v:Value) (us:List Value) (Q:VK),Inv X pins σ H s->RelV x v->Vals xs us->r x xs H Q ->
  wpAny (model X.prog X.w) X.A (call (.builtin id) (v :: us)) (EP X pins σ Q) X.xe s
theorem Vals.one:∀ {x:V} {us:List Value},Vals [x] us->∃ u,us=[u]/\RelV x u
 | _,_,.cons r .nil=>⟨_,rfl,r⟩
theorem Vals.zero:∀ {us:List Value},Vals [] us->us=[]
 | _,.nil=>rfl
theorem Vals.dropLast {xs:List V} {us:List Value} (h:Vals xs us):Vals xs.dropLast us.dropLast:=by
 induction h with
 | nil=>exact .nil
 | cons r t ih =>
  cases t with
  | nil=>exact .nil
  | cons q t'=>exact .cons r ih
theorem Vals.eraseIdx:∀ {xs:List V} {us:List Value} (i:Nat),Vals xs us->Vals (xs.eraseIdx i) (us.eraseIdx i)
 | _,_,_,.nil=>.nil
 | _,_,0,.cons _ t=>t
 | _,_,i+1,.cons r t=>.cons r (Vals.eraseIdx i t)
theorem Vals.reverse {xs:List V} {us:List Value} (h:Vals xs us):Vals xs.reverse us.reverse:=by
 induction h with
 | nil=>exact .nil
 | cons r t ih=>rw [List.reverse_cons,List.reverse_cons];exact Vals.append ih (.cons r .nil)
theorem Vals.rep {xs:List V} {us:List Value} (h:Vals xs us):∀ k:Nat,Vals (List.replicate k xs).flatten (List.replicate k us).flatten
 | 0=>.nil
 | k+1=>by
  rw [List.replicate_succ,List.replicate_succ,List.flatten_cons,List.flatten_cons]
  exact Vals.append h (Vals.rep h k)
theorem erase_last {α:Type} (l:List α):l.eraseIdx (l.length - 1)=l.dropLast:=by
 induction l with
 | nil=>rfl
 | cons a r ih =>
  cases r with
  | nil=>rfl
  | cons b r =>
   have e:(a :: b :: r).length - 1=((b :: r).length - 1)+1:=by
    have h1:(a :: b :: r).length=r.length+2:=rfl
    have h2:(b :: r).length=r.length+1:=rfl
    omega
   rw [e,List.eraseIdx_cons_succ,ih]
   all_goals rfl
theorem len_erase {α:Type}:∀ (l:List α) (i:Nat),(l.eraseIdx i).length<=l.length
 | [],_=>Nat.le_refl _
 | _ :: _,0=>Nat.le_succ _
 | _ :: r,i+1=>Nat.succ_le_succ (len_erase r i)
theorem foldl_rep (its:List Value):∀ (k:Nat) (acc:List Value),
  List.foldl (fun x1 x2=>x1++x2) acc.toArray (List.replicate k its.toArray)=(acc++(List.replicate k its).flatten).toArray
 | 0,acc=>by simp
 | k+1,acc=>by
  have e:acc.toArray++its.toArray=(acc++its).toArray:=by simp
  have e2:(acc++its)++(List.replicate k its).flatten=acc++(List.replicate (k+1) its).flatten:=by
   rw [List.replicate_succ,List.flatten_cons,List.append_assoc]
  rw [<- e2,<- foldl_rep its k (acc++its),<- e,List.replicate_succ,List.foldl_cons]
section
variable {X:Cx} {pins:List (Addr × Obj)} {σ:St} {H:Hp} {s:Shared} {l b:Addr} {xs ys zs:List V}
theorem Inv.lset {its its':List Value} {n:Nat} {f:Array Value->Array Value} {t':Nat} (I:Inv X pins σ H s) (hH:H l=some (.lst xs))
  (e:s.heap.get? l=some { cls:=.type "list",data:=.seq its.toArray n }) (hf:f its.toArray=its'.toArray) (hv:Vals ys its') (hz:ys.length<=sizeLine) :
  Inv X pins σ (upd H l (.lst ys)) { s with heap:=s.heap.update l (Obj.mapSeq f),toks:=t' }:=by
 have q:=PySem.IsL.update e f
 rw [hf] at q
 refine I.write (x:=l) (e:=l) (by rw [hH];exact trivial) (.inl rfl) (fun b' u hb hu=>(Heap.get?_update_other s.heap (Obj.mapSeq f) (Ne.symm hb)).trans hu) ⟨_,q⟩ ?_
 exact ⟨hz,its',_,hv,q⟩
theorem Inv.lnew {its:List Value} {t':Nat} (I:Inv X pins σ H s) (hv:Vals ys its) (hz:ys.length<=sizeLine) :
  Inv X pins σ (upd H s.heap.objs.size (.lst ys)) { s with heap:=s.heap.push { cls:=.type "list",data:=.seq its.toArray },toks:=t' } :=
 I.laid (fun _ _ q=>Heap.get?_push_of_some _ q) (Nat.le_refl _) ⟨hz,its,0,hv,Heap.get?_push_size _ rfl⟩
theorem Inv.fresh (I:Inv X pins σ H s):H s.heap.objs.size=none:=I.hok.fresh (Nat.le_refl _)
theorem Inv.lstM (I:Inv X pins σ H s) (hH:H l=some (.lst xs)):xs.length<=sizeLine/\∃ (its:List Value) (n:Nat),Vals xs its/\xs.length=its.length/\s.heap.get? l=some { cls:=.type "list",data:=.seq its.toArray n }:=by
 obtain ⟨z,its,n,r,e⟩:=I.hok l _ hH
 exact ⟨z,its,n,r,r.length,e⟩
theorem notLongL {n:Nat} (h:n<=sizeLine):Builtin.List.listTooLong n=false:=by
 unfold Builtin.List.listTooLong
 exact decide_eq_false (by omega)
end
section
variable {X:Cx}
def rAppend:V->List V->Hp->VK->Prop:=fun x vs H Q=>∃ l xs y,x=.ref l/\vs=[y]/\H l=some (.lst xs)/\xs.length < sizeLine/\Q .non (upd H l (.lst (xs++[y])))
theorem mt_append:MtM X "list.append" rAppend:=by
 intro pins s σ H x vs v us Q I rx rv h
 obtain ⟨l,xs,y,rfl,rfl,hH,hz,q⟩:=h
 cases rx
 obtain ⟨u,rfl,ru⟩:=rv.one
 obtain ⟨z,its,n,r,hl,e⟩:=I.lstM hH
 refine call_meets F.slot_list_append ⟨_,e,rfl⟩ F.entry_list_append (F.args_list_append_2 _ _) (PySem.list_append l its.toArray n u (by rw [List.size_toArray];omega)) ⟨e,?_⟩
 refine ⟨.non,_,I.lset (its':=its++[u]) hH e (by simp) (r.append (.cons ru .nil)) ?_,rfl,q⟩
 rw [List.length_append,List.length_singleton]
 omega
def rExtend:V->List V->Hp->VK->Prop:=fun x vs H Q=>∃ l b xs zs,x=.ref l/\vs=[.ref b]/\H l=some (.lst xs)/\H b=some (.lst zs)/\xs.length+zs.length<=sizeLine/\Q .non (upd H l (.lst (xs++zs)))
theorem mt_extend:MtM X "list.extend" rExtend:=by
 intro pins s σ H x vs v us Q I rx rv h
 obtain ⟨l,b,xs,zs,rfl,rfl,hH,hB,hz,q⟩:=h
 cases rx
 obtain ⟨u,rfl,ru⟩:=rv.one
 cases ru
 obtain ⟨z,its,n,r,hl,e⟩:=I.lstM hH
 obtain ⟨z2,its2,n2,r2,hl2,e2⟩:=I.lstM hB
 have hsz:its.toArray.size+its2.toArray.size<=sizeLine:=by rw [List.size_toArray,List.size_toArray];omega
 have hlong:¬ (!its.toArray.isEmpty && Builtin.List.listTooLong (its.toArray.size+its2.toArray.size))=true:=by
  rw [notLongL hsz,Bool.and_false]
  exact Bool.false_ne_true
 refine call_meets F.slot_list_extend ⟨_,e,rfl⟩ F.entry_list_extend (F.args_list_extend_2 _ _)
  (AutoSeq1.list_extend_list_list_0 l its.toArray n b its2.toArray n2 hlong (by rw [List.size_toArray];omega) (by omega)) ⟨e,e2,?_⟩
 refine ⟨.non,_,I.lset (its':=its++its2) hH e (by simp) (r.append r2) ?_,rfl,q⟩
 rw [List.length_append]
 omega
def rPop:V->List V->Hp->VK->Prop:=fun x vs H Q=>∃ l xs y,x=.ref l/\vs=[]/\H l=some (.lst xs)/\xs[xs.length - 1]?=some y/\Q y (upd H l (.lst xs.dropLast))
theorem mt_pop:MtM X "list.pop" rPop:=by
 intro pins s σ H x vs v us Q I rx rv h
 obtain ⟨l,xs,y,rfl,rfl,hH,hy,q⟩:=h
 cases rx
 have hus:=rv.zero
 subst hus
 obtain ⟨z,its,n,r,hl,e⟩:=I.lstM hH
 obtain ⟨u,hu,ru⟩:=r.get hy
 have hy':its.toArray[its.toArray.size - 1]?=some u:=by
  show its.toArray[its.length - 1]?=some u
  rw [<- Array.getElem?_toList,<- hl]
  exact hu
 refine call_meets F.slot_list_pop ⟨_,e,rfl⟩ F.entry_list_pop (F.args_list_pop_1 _) (MeetsSeq.list_pop_last l its.toArray n u hy' (by rw [List.size_toArray];omega)) ⟨e,?_⟩
 refine ⟨y,_,I.lset (its':=its.dropLast) hH e ?_ r.dropLast ?_,ru,q⟩
 ·show its.toArray.eraseIdxIfInBounds (its.toArray.size - 1)=its.dropLast.toArray
  rw [List.size_toArray,List.eraseIdxIfInBounds_toArray,erase_last]
 ·rw [List.length_dropLast]
  omega
def rPopAt:V->List V->Hp->VK->Prop:=fun x vs H Q=>∃ l xs i k y,x=.ref l/\vs=[.int i]/\H l=some (.lst xs)/\-(2 ^ 63)<=i/\i < 2 ^ 63/\seqIndex? i xs.length=some k/\xs[k]?=some y/\Q y (upd H l (.lst (xs.eraseIdx k)))
theorem mt_popAt:MtM X "list.pop" rPopAt:=by
 intro pins s σ H x vs v us Q I rx rv h
 obtain ⟨l,xs,i,k,y,rfl,rfl,hH,h1,h2,hk,hy,q⟩:=h
 cases rx
 obtain ⟨u,rfl,ru⟩:=rv.one
 obtain ⟨t,rfl⟩:=ru
 obtain ⟨z,its,n,r,hl,e⟩:=I.lstM hH
 obtain ⟨w,hw,rw'⟩:=r.get hy
 refine call_meets F.slot_list_pop ⟨_,e,rfl⟩ F.entry_list_pop (F.args_list_pop_2 _ _)
  (MeetsSeq.list_pop_at l its.toArray n i t k w (fitsIndex_both h1 h2) (by rw [List.size_toArray,<- hl];exact hk) (by rw [<- Array.getElem?_toList];exact hw) (by rw [List.size_toArray];omega)) ⟨e,?_⟩
 refine ⟨y,_,I.lset (its':=its.eraseIdx k) hH e ?_ (r.eraseIdx k) ?_,rw',q⟩
 ·show its.toArray.eraseIdxIfInBounds k=(its.eraseIdx k).toArray
  rw [List.eraseIdxIfInBounds_toArray]
 ·have:=len_erase xs k
  omega
def rReverse:V->List V->Hp->VK->Prop:=fun x vs H Q=>∃ l xs,x=.ref l/\vs=[]/\H l=some (.lst xs)/\Q .non (upd H l (.lst xs.reverse))
theorem mt_reverse:MtM X "list.reverse" rReverse:=by
 intro pins s σ H x vs v us Q I rx rv h
 obtain ⟨l,xs,rfl,rfl,hH,q⟩:=h
 cases rx
 have hus:=rv.zero
 subst hus
 obtain ⟨z,its,n,r,hl,e⟩:=I.lstM hH
 refine call_meets F.slot_list_reverse ⟨_,e,rfl⟩ F.entry_list_reverse (F.args_list_reverse_1 _) (AutoSeq1.list_reverse_list_0 l its.toArray n (by rw [List.size_toArray];omega)) ⟨e,?_⟩
 refine ⟨.non,_,I.lset (its':=its.reverse) hH e (by simp) r.reverse ?_,rfl,q⟩
 rw [List.length_reverse]
 omega
def rCat:R2:=fun x y H Q=>∃ l b xs zs,x=.ref l/\y=.ref b/\H l=some (.lst xs)/\H b=some (.lst zs)/\xs.length+zs.length<=sizeLine/\∀ p,H p=none->Q (.ref p) (upd H p (.lst (xs++zs)))
theorem op_cat:OpR X (binaryOp .Add) rCat:=by
 intro pins s σ H x y v u Q I rx ry h
 obtain ⟨l,b,xs,zs,rfl,rfl,hH,hB,hz,q⟩:=h
 cases rx
 cases ry
 obtain ⟨z,its,n,r,hl,e⟩:=I.lstM hH
 obtain ⟨z2,its2,n2,r2,hl2,e2⟩:=I.lstM hB
 refine PySem.P.add_list e e2 ?_ (by rw [List.size_toArray,List.size_toArray];omega)
 have ea:its.toArray++its2.toArray=(its++its2).toArray:=by simp
 rw [ea]
 exact ⟨.ref _,_,I.lnew (t':=s.toks) (r.append r2) (by rw [List.length_append];omega),rfl,q _ I.fresh⟩
def rRep:R2:=fun x y H Q=>∃ l k xs,x=.ref l/\y=.int k/\H l=some (.lst xs)/\-(2 ^ 63)<=k/\k < 2 ^ 63/\xs.length * k.toNat<=sizeLine /\
 ∀ p,H p=none->Q (.ref p) (upd H p (.lst (List.replicate k.toNat xs).flatten))
theorem len_rep {α:Type} (xs:List α) (k:Nat):(List.replicate k xs).flatten.length=k * xs.length:=by
 induction k with
 | zero=>simp
 | succ k ih=>rw [List.replicate_succ,List.flatten_cons,List.length_append,ih,Nat.succ_mul,Nat.add_comm]
theorem op_rep:OpR X (binaryOp .Mult) rRep:=by
 intro pins s σ H x y v u Q I rx ry h
 obtain ⟨l,k,xs,rfl,rfl,hH,h1,h2,hz,q⟩:=h
 cases rx
 obtain ⟨t,rfl⟩:=ry
 obtain ⟨z,its,n,r,hl,e⟩:=I.lstM hH
 have hlen:its.toArray.size * k.toNat<=sizeLine:=by rw [List.size_toArray,<- hl];exact hz
 have hcap:¬ its.toArray.size * k.toNat > (2 ^ 63 - 1) / 8:=by
  have:(sizeLine:Nat)<=(2 ^ 63 - 1) / 8:=by decide
  omega
 have hfit:¬ (!Builtin.List.listFitsIndex k)=true:=by
  rw [fitsIndex_both h1 h2]
  exact Bool.false_ne_true
 have hlong:¬ Builtin.List.listTooLong (its.toArray.size * k.toNat)=true:=by
  rw [notLongL hlen]
  exact Bool.false_ne_true
 have hnew:List.foldl (fun x1 x2=>x1++x2) #[] (List.replicate (if its.toArray.isEmpty=true then 0 else k.toNat) its.toArray)=(List.replicate k.toNat its).flatten.toArray:=by
  have f0:∀ m:Nat,List.foldl (fun x1 x2=>x1++x2) #[] (List.replicate m its.toArray)=(List.replicate m its).flatten.toArray:=fun m=>by
   have:=foldl_rep its m []
   rw [List.nil_append] at this
   exact this
  rw [f0]
  cases its with
  | nil=>simp
  | cons a r'=>rw [if_neg (by simp)]
 refine wpAny_binaryOp_repeat_ref (T := "list") (U := "int") (by decide) ⟨_,e,rfl⟩ (fun s'=>typeIs_int s' k t) noFill_list_mul F.fills_int_mul F.slot_int_rmul repeat_list F.slot_int_index.lookup
  (call_meets F.slot_int_rmul (typeIs_int s k t) F.entry_int_rmul (F.args_int_rmul_2 _ _) (int___rmul___int_list k t l its.toArray n)
   ⟨e,rfl,⟨_,e,rfl⟩,call_meets F.slot_list_mul ⟨_,e,rfl⟩ F.entry_list_mul (F.args_list_mul_2 _ _) (AutoListH.list___mul___list_int_3 l its.toArray n k t hfit hcap hlong) ⟨e,?_⟩⟩)
 rw [hnew]
 exact ⟨.ref _,_,I.lnew (t':=s.toks) (r.rep k.toNat) (by rw [len_rep,Nat.mul_comm];exact hz),rfl,q _ I.fresh⟩
end
section
variable {prog:Program} {w:World} {A:Around} {E:Value->Shared->Prop} {s:Shared}
end
section
variable {X:Cx}
end
end L2
namespace Att
open PySem PySem.W PySem.Calls PyProof.Rows
theorem ints_of_wellAll {P:Params} {h:Heap}:∀ (ns:List Int) (vs:List Value),WellAll P h vs (ns.map WData.int)->IntsAre vs ns:=by
 intro ns
 induction ns with
 | nil =>
  intro vs w
  rw [List.map_nil] at w
  cases w
  exact .nil
 | cons n ns ih =>
  intro vs w
  rw [List.map_cons] at w
  cases w with
  | cons a b =>
   cases a
   exact .cons _ _ (ih _ b)
theorem script_of {l:OpenLaw} {n:Nat} (hn:l.most=some n) {P:Params} {h:Heap} {args:List WData} {vals:List Value}
  (hpre:l.row.toRowW.claim.pre args=true) (hwl:WellAll P h vals args) :
  ∃ a vs ns,vals=[Value.ref a]/\args=[WData.list (ns.map WData.int)]/\h.get? a=some { cls:=.type "list",data:=.seq vs.toArray }/\IntsAre vs ns/\ns.length<=n:=by
 have hsh:WShape.hasAll [] args [.list .int]=true:=(pre_splitW hpre).1
 have hc:l.pre.holds [] { args:=args }=true:=(pre_splitW hpre).2
 obtain ⟨d,r,rfl,h1,h2⟩:=hasAllW_cons hsh
 obtain rfl:=hasAllW_nil h2
 obtain ⟨xs,rfl,h3⟩:=hasW_list h1
 obtain ⟨ns,rfl⟩:=items_int h3
 have hlen:ns.length<=n:=by
  unfold OpenLaw.pre at hc
  have h4:(WTm.not (.lt (.lit (.int (n:Int))) (.len (.arg 0)))).holds [] { args:=[.list (ns.map .int)] }=true:=by
   have h4:=(holds_andW hc).1
   rw [hn] at h4
   exact h4
  have h5:=condW_of h4 (w_not (w_lt w_lit (w_len_list (w_arg rfl))))
  rw [List.length_map] at h5
  refine Nat.le_of_not_lt fun q=>?_
  have q':(n:Int) < ((ns.length:Nat):Int):=by omega
  first
   | (rw [decide_eq_true q'] at h5;exact absurd h5 (by decide))
   | (simp at h5;omega)
 cases hwl with
 | cons w1 w2 =>
  cases w2
  cases w1 with
  | list ho hall=>exact ⟨_,_,ns,rfl,rfl,ho,ints_of_wellAll ns _ hall,hlen⟩
theorem post_true (l:OpenLaw) (args:List WData):l.row.toRowW.claim.post args (.bool true) args=true :=
 postW_of (r:=l.row.toRowW) (X:=(true == true))
  (show WShape.has [] (.bool true) .bool=true by first | rfl | decide | simp [WShape.has,WShape.arms,WShape.armsAll])
  (show (WTm.eq .res (.lit (.bool true))).value [] { args:=args,res:=some (.bool true),after:=args }=some (.bool (true == true)) from w_eq_bool (w_res rfl) w_lit) rfl
section
variable {prog:Program} {w:World} {A:Around} {E:Value->Shared->Prop} {s:Shared} {K:Frag}
def ledger (h:Heap) (L d:Addr):List (Addr × Obj):=(List.range h.objs.size).filterMap fun a=>if a=L\/a=d then none else (h.get? a).map fun o=>(a,o)
end
end Att
namespace L2
open PySem PySem.Spec PyProof.Rows
theorem vals_ints:∀ {vs:List Value} {ns:List Int},IntsAre vs ns->Vals (ns.map V.int) vs
 | _,_,.nil=>.nil
 | _,_,.cons n t h=>.cons ⟨t,rfl⟩ (vals_ints h)
def Only (H:Hp):Prop:=∀ b,H b=none\/∃ o xs,H b=some (.frz o (.lst xs))
theorem law_call {P:Program} {w:World} {K:PySem.W.Frag} {mg mb:Str->Option Value} {CX:CXT} {k:Nat} {fa a:Addr} {fd:FuncData} {x:Str} {sp:Sp} {s₁:Shared} {vs:List Value} {ns:List Int}
  (KX:K.In s₁.heap) (hns:s₁.heap.Ns mainGlobals mg) (hb:s₁.heap.Ns builtinsNs mb) (hbb:∀ x:Str,x ≠ "__name__" -> mb x=bootBuiltins x) (hlim:s₁.heap.NoLimit) (hg:s₁.gens=#[])
  (ha:s₁.heap.get? a=some { cls:=.type "list",data:=.seq vs.toArray }) (hi:IntsAre vs ns) (hl:ns.length<=sizeLine) (hr:Room k callerA)
  (F:∀ base:Heap,K.In base->base.Ns mainGlobals mg->FnOk P w K mg base CX k fa fd [x] sp) (hbind:∀ (s:Shared) (u:Value),BindsTo s fd ⟨[u],[]⟩ [(x,u)])
  (hsp:∀ H:Hp,Only H->SqL K H a (ns.map V.int)->sp [.ref a] H (fun v _=>v=.bl true) fun _ _ _=>False)
  (hCX:∀ H e s',CX [] H s₁ (fun _ _ _=>False) e s'->False) :
  codeAny (model P w) callerA (.call (.ref fa) ⟨[.ref a],[]⟩) (fun r s'=>r=.ok (.ret (.bool true))/\OldK s₁.heap s'.heap/\s'.os=s₁.os/\AllBare s'.gens) s₁:=by
 have rv:=vals_ints hi
 have lenV:=hi.length
 have core:∀ H:Hp,Only H->SqL K H a (ns.map V.int)->HOk P w H s₁.heap->(∀ b,H b≠none->b=a)->(H a≠none->K.lookup a=none) ->
   codeAny (model P w) callerA (.call (.ref fa) ⟨[.ref a],[]⟩) (fun r s'=>r=.ok (.ret (.bool true))/\OldK s₁.heap s'.heap/\s'.os=s₁.os/\AllBare s'.gens) s₁:=by
  intro H hO hS hok hA hK
  have base_of:∀ {b:Addr} {o:Obj},s₁.heap.get? b=some o->H b=none->(hidT s₁.heap H).get? b=some o:=fun e n=>hidT_get e n
  have noA:∀ {b:Addr} {o:Obj} {es:Array DictEntry} {ep:Nat},s₁.heap.get? b=some o->o.data=.dict es ep->H b=none:=fun {b o es ep} e d=>by
   cases q:H b with
   | none=>rfl
   | some u =>
    have e':b=a:=hA b (by rw [q];simp)
    subst e'
    rw [ha] at e;cases e
    have d':Data.seq vs.toArray _=Data.dict es ep:=d
    cases d'
  have nsK:∀ {b:Addr} {m:Str->Option Value},s₁.heap.Ns b m->(hidT s₁.heap H).Ns b m:=fun {b m} ⟨o,es,ep,e,d,r⟩=>⟨o,es,ep,base_of e (noA e d),d,r⟩
  have hKb:K.In (hidT s₁.heap H):=fun b o e=>base_of (KX b o e) (by
   cases q:H b with
   | none=>rfl
   | some u =>
    have e':b=a:=hA b (by rw [q];simp)
    subst e'
    rw [hK (by rw [q];simp)] at e;cases e)
  have hM:Mod K mg (hidT s₁.heap H):=⟨hKb,nsK hns,⟨mb,nsK hb,hbb⟩,let ⟨mc,h1,h2⟩:=hlim;⟨mc,nsK h1,h2⟩⟩
  have e0:Env0 P w K mg (hidT s₁.heap H) callerA [] s₁ H:=⟨rfl,hM,fun b o e=>of_hidT e,Nat.le_of_eq (hidT_size _ _),trivial,fun b hb=>absurd (show b∈([] : List Addr) from hb) (by simp),hok,.of_eq hg⟩
  refine codeAny_mono ((F _ hKb (nsK hns)).run callerA [] s₁ H ⟨[.ref a],[]⟩ [.ref a] [.ref a] _ _ hr e0 (hbind s₁ (.ref a)) (.cons rfl .nil) (hsp H hO hS)) fun r s' h=>?_
  cases r with
  | error e=>exact (hCX H e s' h).elim
  | ok fl =>
   cases fl with
   | next=>exact False.elim h
   | brk=>exact False.elim h
   | cont=>exact False.elim h
   | ret u =>
    obtain ⟨v,H',os,bare,un,hok',r',q⟩:=h
    have q':v=.bl true:=q
    subst q'
    obtain rfl:u=Value.bool true:=r'
    refine ⟨rfl,OldK.of_keep fun b o e=>?_,os,bare⟩
    cases q:H b with
    | none=>exact un.keep b o e q (by intro z;exact absurd (show b∈([] : List Addr) from z) (by simp)) (by simp)
    | some u =>
     rcases hO b with z | ⟨ob,xs,z⟩
     ·rw [q] at z;cases z
     ·have z2:=un.frzs b ob _ z
      obtain ⟨e1,_⟩:=hok b _ z
      obtain ⟨e2,_⟩:=hok' b _ z2
      rw [e] at e1;cases e1
      exact e2
 cases hk:K.lookup a with
 | some o =>
  have e:=KX a o hk
  rw [ha] at e
  cases e
  refine core (fun _=>none) (fun _=>.inl rfl) (.inr ⟨_,vs.toArray,_,hk,rfl,rfl,rfl,by rw [List.size_toArray,lenV];exact hl,by simpa using rv⟩) (fun b u z=>by have z':(none:Option HO)=some u:=z;cases z') (fun b z=>absurd rfl z) fun z=>absurd rfl z
 | none =>
  refine core (fun b=>if b=a then some (.frz { cls:=.type "list",data:=.seq vs.toArray } (.lst (ns.map V.int))) else none) (fun b=>?_) (.inl (.inr ⟨{ cls:=.type "list",data:=.seq vs.toArray },if_pos rfl⟩)) (fun b u z=>?_) (fun b z=>?_) fun _=>hk
  ·by_cases hb:b=a
   ·exact .inr ⟨_,_,if_pos hb⟩
   ·exact .inl (if_neg hb)
  ·by_cases hb:b=a
   ·have z':=(if_pos hb).symm.trans z
    cases z'
    subst hb
    exact ⟨ha,by rw [List.length_map];exact hl,vs,_,rv,ha⟩
   ·have z':=(if_neg hb).symm.trans z
    cases z'
  ·by_cases hb:b=a
   ·exact hb
   ·exact absurd (if_neg hb) z
abbrev KOf {K:PySem.W.Frag} {h:Heap} (_:K.In h):PySem.W.Frag:=K
def inClass (s:Stmt) (j:Nat):Stmt:=match s with
 | .ClassDef _ _ _ body _ _ _ _ _ _ _=>body.getD j (.Pass ⟨0,0,0,0⟩)
 | _=>.Pass ⟨0,0,0,0⟩
def defArgs (s:Stmt):Arguments:=match s with
 | .FunctionDef _ a _ _ _ _ _ _ _ _=>a
 | _=>{ posonlyargs:=[],args:=[],vararg:=none,kwonlyargs:=[],kw_defaults:=[],kwarg:=none,defaults:=[] }
def defBody (s:Stmt):List Stmt:=match s with
 | .FunctionDef _ _ b _ _ _ _ _ _ _=>b
 | _=>[]
def defScope (s:Stmt):Scope:=match s with
 | .FunctionDef _ _ _ _ _ _ sc _ _ _=>sc
 | _=>{ kind:=.function,names:=[],isGenerator:=false,isCoroutine:=false }
abbrev CX0:CXT:=fun _ _ _ _ _ _=>False
abbrev E0:XK:=fun _ _ _=>False
theorem pass0 {X:Cx}:Passes CX0 X E0:=fun _ _ _ _ _ _ _ h=>h.elim
structure Fun (K:PySem.W.Frag) (x qual:Str) (st:Stmt) (f:Addr) (fd:FuncData):Prop where
 ex:∃ (oc:Value) (od:Option Addr) (kV doc pm:Value) (an:Option Addr) (cdv ct:Value) (osl:Array (Option Value)),
  fd=PySem.W.fnOf x qual (defArgs st) (defBody st) (defScope st) .none kV doc pm an cdv ct/\K.lookup f=some ⟨oc,od,.func fd,osl⟩/\PySem.W.codeIn K cdv qual=true
 kp:PySem.W.keepIn K (.ref f)=true
section
variable {P:Program} {w:World} {K:PySem.W.Frag} {mg:Str->Option Value} {base:Heap}
theorem Fun.ok {x qual:Str} {st:Stmt} {f:Addr} {fd:FuncData} {N ps:List Str} {k:Nat} {sp:Sp} (F:Fun K x qual st f fd) (S:FnScope N ps (defScope st)) (len:∀ vs H Q E,sp vs H Q E->vs.length=ps.length)
  (hbody:∀ (cdv:Value) (A:Around) (outer:List Env) (s:Shared) (H:Hp) (vs:List V) (Q:VK) (E:XK),Room k (A.deeper (envOfC qual (defScope st) s.heap.objs.size f cdv))->sp vs H Q E ->
   ∃ t,PSs (cxOf CX0 P w K mg base N qual (defScope st) f cdv A outer s H E).nox (defBody st) t/\t { nx:=fun _ H'=>Q .non H',rt:=Q } (start N vs) H):FnOk P w K mg base CX0 (k+1) f fd ps sp:=by
 obtain ⟨oc,od,kV,doc,pm,an,cdv,ct,osl,rfl,lk,hcd⟩:=F.ex
 refine fn_of lk hcd S len fun A outer s H vs Q E hr hsp=>?_
 obtain ⟨t,h,q⟩:=hbody cdv A outer s H vs Q E hr hsp
 exact ⟨t,h.nox,q⟩
theorem Fun.binds {x qual:Str} {st:Stmt} {f:Addr} {fd:FuncData} {ps:List Str} (F:Fun K x qual st f fd)
  (h:∀ (kV doc pm:Value) (an:Option Addr) (cdv ct:Value) (us:List Value),us.length=ps.length->bindArgs (PySem.W.fnOf x qual (defArgs st) (defBody st) (defScope st) .none kV doc pm an cdv ct) ⟨us,[]⟩=pure (ps.zip us)):Binds K fd ps []:=by
 obtain ⟨oc,od,kV,doc,pm,an,cdv,ct,osl,rfl,lk,hcd⟩:=F.ex
 exact .all (h kV doc pm an cdv ct)
theorem fun_mk {x qual:Str} {st:Stmt} {f:Addr} {oc:Value} {od an:Option Addr} {osl:Array (Option Value)} {kV doc pm cdv ct:Value} (l:K.lookup f=some ⟨oc,od,.func (PySem.W.fnOf x qual (defArgs st) (defBody st) (defScope st) .none kV doc pm an cdv ct),osl⟩)
  (c:PySem.W.codeIn K cdv qual=true) (k:PySem.W.keepIn K (.ref f)=true):Fun K x qual st f (PySem.W.fnOf x qual (defArgs st) (defBody st) (defScope st) .none kV doc pm an cdv ct):=⟨⟨oc,od,kV,doc,pm,an,cdv,ct,osl,rfl,l,c⟩,k⟩
end
theorem small1000 {n:Nat} (h:n<=1000):n < sizeLine:=Nat.lt_of_le_of_lt h (by decide)
section
variable {X:Cx}
theorem pv (i:Nat) {x:Str} {pos:Pos} (hN:X.N[i]?=some x:=by rfl) (hv:Vis X.env.scope x:=by first | exact Or.inl rfl | exact Or.inr (Or.inl rfl) | exact Or.inr (Or.inr rfl)) (hd:(x == ("__debug__" : Str))=false:=by decide)
  (hcd:(x == ("__classdict__" : Str))=false:=by decide):PE X (.Name x pos) (tVar i):=pe_var hN hv hd hcd
end
section
variable {κ:Type} [DecidableEq κ]
def valV (kvs:List (κ × V)) (k:κ):Option V:=(kvs.find? fun kv=>decide (kv.1=k)).map (·.2)
def putK (kvs:List (κ × V)) (k:κ) (v:V):List (κ × V) :=
 if (kvs.any fun kv=>decide (kv.1=k))=true then kvs.map (fun kv=>if kv.1=k then (kv.1,v) else kv) else kvs++[(k,v)]
theorem valV_nil {k:κ}:valV ([] : List (κ × V)) k=none:=rfl
theorem valV_pos {p:κ × V} {r:List (κ × V)} {k:κ} (e:p.1=k):valV (p :: r) k=some p.2:=by simp [valV,List.find?_cons,e]
theorem valV_neg {p:κ × V} {r:List (κ × V)} {k:κ} (e:¬ p.1=k):valV (p :: r) k=valV r k:=by simp [valV,List.find?_cons,e]
theorem valV_any (k:κ):∀ kvs:List (κ × V),(kvs.any fun kv=>decide (kv.1=k))=(valV kvs k).isSome
 | []=>rfl
 | p :: r=>by
  rw [List.any_cons]
  by_cases e:p.1=k
  ·simp only [valV_pos e,decide_eq_true e,Bool.true_or,Option.isSome_some]
  ·rw [valV_neg e,decide_eq_false e,Bool.false_or];exact valV_any k r
theorem length_putK (kvs:List (κ × V)) (k:κ) (v:V):(putK kvs k v).length<=kvs.length+1:=by
 unfold putK
 split
 ·rw [List.length_map];omega
 ·rw [List.length_append,List.length_cons,List.length_nil];omega
theorem RelO.isSome_eq {o:Option V} {u:Option Value} (r:RelO o u):o.isSome=u.isSome:=by
 cases o with
 | none=>cases u with
  | none=>rfl
  | some _=>exact (show False from r).elim
 | some _=>cases u with
  | none=>exact (show False from r).elim
  | some _=>rfl
theorem RelO.getD {o:Option V} {u:Option Value} {d:V} {d':Value} (r:RelO o u) (rd:RelV d d'):RelV (o.getD d) (u.getD d'):=by
 cases o with
 | none=>cases u with
  | none=>exact rd
  | some _=>exact (show False from r).elim
 | some _=>cases u with
  | none=>exact (show False from r).elim
  | some _=>exact r
theorem KV.val {kvs:List (κ × V)} {vs:List (κ × Value)} (r:KV kvs vs) (k:κ):RelO (valV kvs k) (valueAt vs k):=by
 unfold KV at r
 induction r with
 | nil=>exact True.intro
 | @cons p q ps qs h t ih =>
  obtain ⟨h1,h2⟩:=h
  by_cases e:p.1=k
  ·have e':q.1=k:=h1.symm.trans e
   have b:valueAt (q :: qs) k=some q.2:=by simp [valueAt,List.find?_cons,e']
   rw [valV_pos e,b];exact h2
  ·have e':¬ q.1=k:=fun z=>e (h1.trans z)
   have b:valueAt (q :: qs) k=valueAt qs k:=by simp [valueAt,List.find?_cons,e']
   rw [valV_neg e,b];exact ih
theorem KV.any {kvs:List (κ × V)} {vs:List (κ × Value)} (r:KV kvs vs) (k:κ):(kvs.any fun kv=>decide (kv.1=k))=vs.any fun kv=>decide (kv.1=k):=by
 unfold KV at r
 induction r with
 | nil=>rfl
 | cons h t ih=>rw [List.any_cons,List.any_cons,ih,h.1]
theorem KV.repl {kvs:List (κ × V)} {vs:List (κ × Value)} (r:KV kvs vs) (k:κ) {y:V} {u:Value} (ry:RelV y u) :
  KV (kvs.map fun kv=>if kv.1=k then (kv.1,y) else kv) (vs.map fun kv=>if kv.1=k then (kv.1,u) else kv):=by
 unfold KV at r ⊢
 induction r with
 | nil=>exact .nil
 | @cons p q ps qs h t ih =>
  rw [List.map_cons,List.map_cons]
  refine .cons ?_ ih
  obtain ⟨h1,h2⟩:=h
  by_cases e:p.1=k
  ·rw [if_pos e,if_pos (h1.symm.trans e)];exact ⟨h1,ry⟩
  ·rw [if_neg e,if_neg (fun z=>e (h1.trans z))];exact ⟨h1,h2⟩
theorem KV.put {kvs:List (κ × V)} {vs:List (κ × Value)} (r:KV kvs vs) (k:κ) {y:V} {u:Value} (ry:RelV y u):KV (putK kvs k y) (stored vs k u):=by
 unfold putK stored
 rw [r.any k]
 by_cases e:(vs.any fun kv=>decide (kv.1=k))=true
 ·rw [if_pos e,if_pos e];exact r.repl k ry
 ·rw [if_neg e,if_neg e];exact Paired.snoc r ⟨rfl,ry⟩
theorem KV.keys {kvs:List (κ × V)} {vs:List (κ × Value)} (r:KV kvs vs):kvs.map (·.1)=vs.map (·.1):=by
 unfold KV at r
 induction r with
 | nil=>rfl
 | cons h t ih=>rw [List.map_cons,List.map_cons,ih,h.1]
theorem KV.length {kvs:List (κ × V)} {vs:List (κ × Value)} (r:KV kvs vs):kvs.length=vs.length:=Paired.length r
end
theorem kV_is {P:Program} {w:World} {k:Key} {u:Value} (r:RelV (kV k) u):(mixKind P w).is k u=true:=by
 cases k with
 | inl i=>obtain ⟨t,e⟩:=(show ∃ t,u=Value.int i t from r);subst e;exact mixKind_int P w i t
 | inr x=>obtain ⟨t,e⟩:=(show ∃ t,u=Value.str x t from r);subst e;exact mixKind_str P w x t
theorem items_are {P:Program} {w:World}:∀ {ks:List Key} {us:List Value},Vals (ks.map kV) us->ItemsAre (mixKind P w) ks us
 | [],_,r=>by rw [List.map_nil] at r;cases r;exact .nil
 | k :: ks,_,r=>by
  rw [List.map_cons] at r
  cases r with
  | cons h t=>exact .cons (kV_is h) (items_are t)
abbrev KT (H:Hp):List (List Key × V)->List (List Key × Addr × Value)->Prop:=Paired fun p q=>p.1=q.1/\H q.2.1=some (.tup (p.1.map kV))/\RelV p.2 q.2.2
theorem KT.val {H:Hp} {kvs:List (List Key × V)} {xs:List (List Key × Addr × Value)} (r:KT H kvs xs) (k:List Key):RelO (valV kvs k) ((atKey xs k).map (·.2)):=by
 induction r with
 | nil=>exact True.intro
 | @cons p q ps qs h t ih =>
  obtain ⟨h1,_,h2⟩:=h
  by_cases e:p.1=k
  ·have e':q.1=k:=h1.symm.trans e
   have b:atKey (q :: qs) k=some q.2:=by simp [atKey,List.find?_cons,e']
   rw [valV_pos e,b];exact h2
  ·have e':¬ q.1=k:=fun z=>e (h1.trans z)
   have b:atKey (q :: qs) k=atKey qs k:=by simp [atKey,List.find?_cons,e']
   rw [valV_neg e,b];exact ih
theorem KT.repl {H:Hp} {kvs:List (List Key × V)} {xs:List (List Key × Addr × Value)} (r:KT H kvs xs) (k:List Key) {y:V} {u:Value} (ry:RelV y u) :
  KT H (kvs.map fun kv=>if kv.1=k then (kv.1,y) else kv) (xs.map (putAt k u)):=by
 induction r with
 | nil=>exact .nil
 | @cons p q ps qs h t ih =>
  rw [List.map_cons,List.map_cons]
  refine .cons ?_ ih
  obtain ⟨h1,h2,h3⟩:=h
  unfold putAt
  by_cases e:p.1=k
  ·rw [if_pos e,if_pos (h1.symm.trans e)];exact ⟨h1,h2,ry⟩
  ·rw [if_neg e,if_neg (fun z=>e (h1.trans z))];exact ⟨h1,h2,h3⟩
theorem KT.put {H:Hp} {kvs:List (List Key × V)} {xs:List (List Key × Addr × Value)} (r:KT H kvs xs) (k:List Key) {b:Addr} {y:V} {u:Value} (hb:H b=some (.tup (k.map kV))) (ry:RelV y u) :
  KT H (putK kvs k y) (storedH xs k b u):=by
 have e:(kvs.any fun kv=>decide (kv.1=k))=(atKey xs k).isSome:=by
  rw [valV_any,(r.val k).isSome_eq,Option.isSome_map]
 unfold putK storedH
 rw [e]
 by_cases q:(atKey xs k).isSome=true
 ·rw [if_pos q,if_pos q];exact r.repl k ry
 ·rw [if_neg q,if_neg q];exact Paired.snoc r ⟨rfl,hb,ry⟩
theorem KT.keeps {H H':Hp} {kvs:List (List Key × V)} {xs:List (List Key × Addr × Value)} (r:KT H kvs xs) (ht:∀ b ys,H b=some (.tup ys)->H' b=some (.tup ys)):KT H' kvs xs :=
 Paired.mapP r fun _ _ z=>⟨z.1,ht _ _ z.2.1,z.2.2⟩
section
variable {P:Program} {w:World} {H:Hp} {h:Heap} {a:Addr}
theorem rd_of {u:HO} (ok:HOk P w H h) (e:Rd H a u):ObjOk P w H h a u:=e.ok ok
theorem dk_rd {kvs:List (Key × V)} (ok:HOk P w H h) (e:Rd H a (.dK kvs)):kvs.length<=sizeLine/\(a == sysModules)=false/\∃ vs,KV kvs vs/\h.DictOf (mixKind P w) a vs :=
 show ObjOk P w H h a (.dK kvs) from rd_of ok e
theorem dk_of {kvs:List (Key × V)} (ok:HOk P w H h) (e:H a=some (.dK kvs)):kvs.length<=sizeLine/\(a == sysModules)=false/\∃ vs,KV kvs vs/\h.DictOf (mixKind P w) a vs:=dk_rd ok (.inl e)
theorem key_of {ks:List Key} (ok:HOk P w H h) (e:H a=some (.tup (ks.map kV))):(tupleKind (mixKind P w)).is h ks a:=by
 obtain ⟨_,its,r,o,h1,h2,n,h3⟩:=(show ObjOk P w H h a (.tup (ks.map kV)) from ok a _ e)
 exact ⟨o,its.toArray,n,h1,h2,h3,by simpa using items_are r⟩
theorem dt_rd {kvs:List (List Key × V)} (ok:HOk P w H h) (e:Rd H a (.dT kvs)):kvs.length<=sizeLine/\(a == sysModules)=false /\
  ∃ xs,KT H kvs xs/\h.DictOfH (tupleKind (mixKind P w)) a xs:=by
 obtain ⟨z,y,xs,r,o,es,ep,h1,h2,h3,h4,h5⟩:=(show ObjOk P w H h a (.dT kvs) from rd_of ok e)
 refine ⟨z,y,xs,r,o,es,ep,h1,h2,h3,h4,fun x hx=>?_,h5⟩
 have all:∀ {l:List (List Key × V)} {m:List (List Key × Addr × Value)},KT H l m->∀ x∈m,(tupleKind (mixKind P w)).is h x.1 x.2.1:=by
  intro l m q
  induction q with
  | nil=>intro x hx;exact nomatch hx
  | @cons p q ps qs hq t ih =>
   intro x hx
   rcases List.mem_cons.mp hx with e | hx
   ·subst e
    exact key_of ok (by rw [<- hq.1];exact hq.2.1)
   ·exact ih x hx
 exact all r x hx
theorem dt_of {kvs:List (List Key × V)} (ok:HOk P w H h) (e:H a=some (.dT kvs)):kvs.length<=sizeLine/\(a == sysModules)=false /\
  ∃ xs,KT H kvs xs/\h.DictOfH (tupleKind (mixKind P w)) a xs:=dt_rd ok (.inl e)
end
def DGet (H:Hp) (a:Addr) (y:V) (r:Option V):Prop :=
 (∃ kvs k,Rd H a (.dK kvs)/\y=kV k/\r=valV kvs k)\/∃ kvs k b,Rd H a (.dT kvs)/\y=.ref b/\H b=some (.tup (k.map kV))/\r=valV kvs k
def DPut (H:Hp) (a:Addr) (y v:V) (H':Hp):Prop :=
 (∃ kvs k,H a=some (.dK kvs)/\y=kV k/\kvs.length < sizeLine/\H'=upd H a (.dK (putK kvs k v))) \/
 ∃ kvs k b,H a=some (.dT kvs)/\y=.ref b/\H b=some (.tup (k.map kV))/\kvs.length < sizeLine/\H'=upd H a (.dT (putK kvs k v))
theorem DGet.k {H:Hp} {a:Addr} {kvs:List (Key × V)} {k:Key} (e:H a=some (.dK kvs)):DGet H a (kV k) (valV kvs k):=.inl ⟨kvs,k,.inl e,rfl,rfl⟩
theorem DGet.t {H:Hp} {a b:Addr} {kvs:List (List Key × V)} {k:List Key} (e:H a=some (.dT kvs)) (eb:H b=some (.tup (k.map kV))):DGet H a (.ref b) (valV kvs k):=.inr ⟨kvs,k,b,.inl e,rfl,eb,rfl⟩
theorem DPut.k {H:Hp} {a:Addr} {kvs:List (Key × V)} {k:Key} {v:V} (e:H a=some (.dK kvs)) (hl:kvs.length < sizeLine):DPut H a (kV k) v (upd H a (.dK (putK kvs k v))):=.inl ⟨kvs,k,e,rfl,hl,rfl⟩
theorem DPut.t {H:Hp} {a b:Addr} {kvs:List (List Key × V)} {k:List Key} {v:V} (e:H a=some (.dT kvs)) (eb:H b=some (.tup (k.map kV))) (hl:kvs.length < sizeLine) :
  DPut H a (.ref b) v (upd H a (.dT (putK kvs k v))):=.inr ⟨kvs,k,b,e,rfl,eb,hl,rfl⟩
section
variable {X:Cx} {pins:List (Addr × Obj)} {σ:St} {H:Hp} {s:Shared} {a:Addr} {y v:V} {u r:Value} {o:Option V} {A:Around} {E:Value->Shared->Prop}
theorem Inv.big (I:Inv X pins σ H s):sysModules < s.heap.objs.size:=by
 have h:mainGlobals < s.heap.objs.size:=(I.mod.glob.keeps I.bk).lt
 exact Nat.lt_trans (by decide) h
theorem d_getItem {Q:Value->Shared->Prop} (hu:A.units+1 < cLine) (I:Inv X pins σ H s) (g:DGet H a y (some v)) (ry:RelV y u) (h:∀ w' s',Inv X pins σ H s'->RelV v w'->Q w' s') :
  wpAny (model X.prog X.w) A (getItem (.ref a) u) Q E s:=by
 rcases g with ⟨kvs,k,e,ey,l⟩ | ⟨kvs,k,b,e,ey,eb,l⟩
 ·subst ey
  obtain ⟨z,hd,vs,rel,dd⟩:=dk_rd I.hok e
  obtain ⟨w',hw,rw'⟩:=RelO.some_of (v:=v) (o:=valueAt vs k) (by rw [l];exact rel.val k)
  exact wpAny_getItem_of (kV_is ry) dd.mapOf hw (h w' _ (I.tok _) rw')
 ·subst ey
  cases (show u=Value.ref b from ry)
  obtain ⟨z,hd,xs,rel,dd⟩:=dt_rd I.hok e
  obtain ⟨w',hw,rw'⟩:=RelO.some_of (v:=v) (o:=(atKey xs k).map (·.2)) (by rw [l];exact rel.val k)
  obtain ⟨p,hp,hp2⟩:=Option.map_eq_some_iff.mp hw
  refine wpAny_getItem_heap (tupleKind_room_in1 hu) (key_of I.hok eb) dd hp ?_
  rw [hp2]
  exact h w' _ (I.tok _) rw'
theorem d_in {Q:Value->Shared->Prop} (hu:A.units+1 < cLine) (I:Inv X pins σ H s) (g:DGet H a y o) (ry:RelV y u) (h:∀ s',Inv X pins σ H s'->Q (.bool o.isSome) s') :
  wpAny (model X.prog X.w) A (compareOp .In u (.ref a)) Q E s:=by
 rcases g with ⟨kvs,k,e,ey,l⟩ | ⟨kvs,k,b,e,ey,eb,l⟩
 ·subst ey
  obtain ⟨z,hd,vs,rel,dd⟩:=dk_rd I.hok e
  refine wpAny_in_of (kV_is ry) hd dd.mapOf ?_
  rw [<- (rel.val k).isSome_eq,<- l]
  exact h _ (I.tok _)
 ·subst ey
  cases (show u=Value.ref b from ry)
  obtain ⟨z,hd,xs,rel,dd⟩:=dt_rd I.hok e
  refine wpAny_in_heap (tupleKind_room_in1 hu) (key_of I.hok eb) hd dd ?_
  have q:=(rel.val k).isSome_eq
  rw [Option.isSome_map] at q
  rw [<- q,<- l]
  exact h _ (I.tok _)
theorem d_notIn {Q:Value->Shared->Prop} (hu:A.units+1 < cLine) (I:Inv X pins σ H s) (g:DGet H a y o) (ry:RelV y u) (h:∀ s',Inv X pins σ H s'->Q (.bool (!o.isSome)) s') :
  wpAny (model X.prog X.w) A (compareOp .NotIn u (.ref a)) Q E s:=by
 rcases g with ⟨kvs,k,e,ey,l⟩ | ⟨kvs,k,b,e,ey,eb,l⟩
 ·subst ey
  obtain ⟨z,hd,vs,rel,dd⟩:=dk_rd I.hok e
  refine wpAny_notIn_of (kV_is ry) hd dd.mapOf ?_
  rw [<- (rel.val k).isSome_eq,<- l]
  exact h _ (I.tok _)
 ·subst ey
  cases (show u=Value.ref b from ry)
  obtain ⟨z,hd,xs,rel,dd⟩:=dt_rd I.hok e
  refine wpAny_notIn_heap (tupleKind_room_in1 hu) (key_of I.hok eb) hd dd ?_
  have q:=(rel.val k).isSome_eq
  rw [Option.isSome_map] at q
  rw [<- q,<- l]
  exact h _ (I.tok _)
theorem d_write {h':Heap} {t':Nat} {ob:HO} (I:Inv X pins σ H s) (mu:Mut (H a)) (hs:Heap.SameBut a s.heap h') (he:∃ q,h'.get? a=some q) (new:ObjOk X.prog X.w (upd H a ob) h' a ob) :
  Inv X pins σ (upd H a ob) { s with heap:=h',toks:=t' } :=
 I.write (x:=a) (e:=a) mu (.inl rfl) (fun b q hb z=>(hs.2 b hb).trans z) he new
theorem dk_new {P:Program} {w:World} {H':Hp} {h':Heap} {kvs:List (Key × V)} {vs:List (Key × Value)} (z:kvs.length<=sizeLine) (hd:(a == sysModules)=false) (rel:KV kvs vs) (dd:h'.DictOf (mixKind P w) a vs) :
  ObjOk P w H' h' a (.dK kvs):=⟨z,hd,vs,rel,dd⟩
theorem d_setItem {H':Hp} {Q:Unit->Shared->Prop} (hu:A.units+1 < cLine) (I:Inv X pins σ H s) (g:DPut H a y v H') (ry:RelV y u) (rv:RelV v r) (h:∀ s',Inv X pins σ H' s'->Q () s') :
  wpAny (model X.prog X.w) A (setItem (.ref a) u r) Q E s:=by
 rcases g with ⟨kvs,k,e,ey,l,eH⟩ | ⟨kvs,k,b,e,ey,eb,l,eH⟩
 ·subst ey eH
  obtain ⟨z,hd,vs,rel,dd⟩:=dk_of I.hok e
  have hz:vs.length<=sizeLine:=by rw [<- rel.length];exact z
  have hl:(putK kvs k v).length<=sizeLine:=by have:=length_putK kvs k v;omega
  refine wpAny_setItem_pairs (hsz:=hz) (kV_is ry) dd fun h' dd' hs=>h _ ?_
  have he:∃ q,h'.get? a=some q:=let ⟨q,_,_,hq,_⟩:=dd';⟨q,hq⟩
  exact d_write I (by rw [e];exact True.intro) hs he (dk_new hl hd (rel.put k rv) dd')
 ·subst ey eH
  cases (show u=Value.ref b from ry)
  obtain ⟨z,hd,xs,rel,dd⟩:=dt_of I.hok e
  have hz:xs.length<=sizeLine:=by rw [<- Paired.length rel];exact z
  have hl:(putK kvs k v).length<=sizeLine:=by have:=length_putK kvs k v;omega
  refine wpAny_setItem_heap (hsz:=hz) (tupleKind_room_in1 hu) (key_of I.hok eb) dd fun h' dd' hs=>h _ ?_
  obtain ⟨q,es,ep,hq,h2,h3,h4,_,h5⟩:=dd'
  refine d_write I (by rw [e];exact True.intro) hs ⟨q,hq⟩ ⟨hl,hd,_,(rel.put k eb rv).keeps fun c ys ec=>?_,q,es,ep,hq,h2,h3,h4,h5⟩
  rw [upd_ne (ne_of ec e (fun z=>nomatch z))]
  exact ec
end
section
variable {X:Cx} {pins:List (Addr × Obj)} {σ:St} {H:Hp} {s:Shared} {a:Addr} {kvs:List (Key × V)} {k:Key} {u:Value} {A:Around} {E:Value->Shared->Prop}
end
theorem dict_typeIs {X:Cx} {pins:List (Addr × Obj)} {σ:St} {H:Hp} {s:Shared} {a:Addr} {y:V} {o:Option V} (I:Inv X pins σ H s) (g:DGet H a y o):s.TypeIs (.ref a) "dict" := by
 rcases g with ⟨kvs,k,e,_,_⟩ | ⟨kvs,k,b,e,_,_,_⟩
 ·obtain ⟨_,_,vs,_,dd⟩:=dk_rd I.hok e
  exact dd.typeIs
 ·obtain ⟨_,_,xs,_,dd⟩:=dt_rd I.hok e
  exact dd.typeIs
section
variable {X:Cx} {o i e value:Expr} {pos pos' tpos:Pos} {td ty tv:TE}
end
theorem dk_empty {P:Program} {w:World} {H:Hp} (h:Heap) (hb:sysModules < h.objs.size):ObjOk P w H (h.push { cls:=.type "dict",data:=.dict #[] }) h.objs.size (.dK []) :=
 ⟨Nat.zero_le _,beq_eq_false_iff_ne.mpr (Ne.symm (Nat.ne_of_lt hb)),[],.nil,Heap.DictOf.new h⟩
theorem dt_empty {P:Program} {w:World} {H:Hp} (h:Heap) (hb:sysModules < h.objs.size):ObjOk P w H (h.push { cls:=.type "dict",data:=.dict #[] }) h.objs.size (.dT []) :=
 ⟨Nat.zero_le _,beq_eq_false_iff_ne.mpr (Ne.symm (Nat.ne_of_lt hb)),[],.nil,_,#[],0,Heap.get?_push_size _ rfl,⟨rfl,rfl,rfl⟩,rfl,rfl,List.nodup_nil⟩
def tDNewK:TE:=fun _ H Q=>∀ p,H p=none->Q (.ref p) (upd H p (.dK []))
def tDNewT:TE:=fun _ H Q=>∀ p,H p=none->Q (.ref p) (upd H p (.dT []))
section
variable {X:Cx} {pos:Pos}
theorem pe_dnewK:PE X (.Dict [] [] pos) tDNewK:=fun pins s σ H Q I h =>
 wpAny_Dict_empty ⟨.ref s.heap.objs.size,_,I.laid (a:=s.heap.objs.size) (o:=.dK []) (t':=s.toks) (fun _ _ q=>Heap.get?_push_of_some _ q) (Nat.le_refl _) (dk_empty s.heap I.big),rfl,h _ (I.hok.fresh (Nat.le_refl _))⟩
theorem pe_dnewT:PE X (.Dict [] [] pos) tDNewT:=fun pins s σ H Q I h =>
 wpAny_Dict_empty ⟨.ref s.heap.objs.size,_,I.laid (a:=s.heap.objs.size) (o:=.dT []) (t':=s.toks) (fun _ _ q=>Heap.get?_push_of_some _ q) (Nat.le_refl _) (dt_empty s.heap I.big),rfl,h _ (I.hok.fresh (Nat.le_refl _))⟩
end
structure M1 (X:Cx) (o:Expr) (m:Str) (apos:Pos) (e:Expr) (cpos:Pos):Prop where
 base:attributeBase o m X.env (eval o X.env)=eval o X.env
 few:((backTo cpos (starEach [e] X.env)).all (fun x=>!x.1) && (backToKw cpos (keywordEach [] X.env)).all (fun x=>x.1.isSome)
  && decide (([e] : List Expr).length+([] : List Keyword).length+(if ([] : List Keyword).isEmpty then 0 else 1) < 30))=true
 line:(apos.endLine == cpos.line)=true
 trees:backTo cpos (starEach [e] X.env)=[(false,eval e X.env)]
structure M2 (X:Cx) (o:Expr) (m:Str) (apos:Pos) (e f:Expr) (cpos:Pos):Prop where
 base:attributeBase o m X.env (eval o X.env)=eval o X.env
 few:((backTo cpos (starEach [e,f] X.env)).all (fun x=>!x.1) && (backToKw cpos (keywordEach [] X.env)).all (fun x=>x.1.isSome)
  && decide (([e,f] : List Expr).length+([] : List Keyword).length+(if ([] : List Keyword).isEmpty then 0 else 1) < 30))=true
 line:(apos.endLine == cpos.line)=true
 trees:backTo cpos (starEach [e,f] X.env)=[(false,eval e X.env),(false,eval f X.env)]
def IsD (H:Hp) (a:Addr):Prop:=(∃ kvs,Rd H a (.dK kvs))\/∃ kvs,Rd H a (.dT kvs)
theorem isD_at {X:Cx} {pins:List (Addr × Obj)} {σ:St} {H:Hp} {s:Shared} {a:Addr} (I:Inv X pins σ H s) (d:IsD H a) :
  s.TypeIs (.ref a) "dict" /\ (∀ b,Value.ref a=.ref b->∃ ob,s.heap.get? b=some ob/\ob.dict=none)/\(a == sysModules)=false:=by
 rcases d with ⟨kvs,e⟩ | ⟨kvs,e⟩
 ·obtain ⟨_,hd,vs,_,dd⟩:=dk_rd I.hok e
  refine ⟨dd.typeIs,fun b q=>?_,hd⟩
  cases q
  obtain ⟨ob,_,_,h1,h2,_⟩:=dd
  exact ⟨ob,h1,h2.2.1⟩
 ·obtain ⟨_,hd,xs,_,dd⟩:=dt_rd I.hok e
  refine ⟨dd.typeIs,fun b q=>?_,hd⟩
  cases q
  obtain ⟨ob,_,_,h1,h2,_⟩:=dd
  exact ⟨ob,h1,h2.2.1⟩
section
variable {X:Cx} {pins:List (Addr × Obj)} {σ:St} {H:Hp} {s:Shared} {a:Addr} {y d:V} {u r:Value} {o:Option V} {A:Around} {E:Value->Shared->Prop}
theorem d_get1 {Q:Value->Shared->Prop} (hu:A.units+1 < cLine) (I:Inv X pins σ H s) (g:DGet H a y o) (ry:RelV y u) (h:∀ w' s',Inv X pins σ H s'->RelV (o.getD .non) w'->Q w' s') :
  wpAny (model X.prog X.w) A (call (.builtin "dict.get") [.ref a,u]) Q E s:=by
 rcases g with ⟨kvs,k,e,ey,l⟩ | ⟨kvs,k,b,e,ey,eb,l⟩
 ·subst ey
  obtain ⟨z,hd,vs,rel,dd⟩:=dk_rd I.hok e
  refine call_meetsIn PySem.F.slot_dict_get dd.typeIs PySem.F.entry_dict_get (PySem.F.args_dict_get_2 _ _) (meets_dict_get (mixKind X.prog X.w) a (kV_is ry) hd) ⟨_,dd.mapOf,h _ _ (I.tok _) ?_⟩
  rw [l]
  exact (rel.val k).getD rfl
 ·subst ey
  cases (show u=Value.ref b from ry)
  obtain ⟨z,hd,xs,rel,dd⟩:=dt_rd I.hok e
  refine call_meetsIn PySem.F.slot_dict_get dd.typeIs PySem.F.entry_dict_get (PySem.F.args_dict_get_2 _ _) (meetsH_dict_get (tupleKind (mixKind X.prog X.w)) a b hd) ⟨tupleKind_room_in1 hu,k,xs,key_of I.hok eb,dd,h _ _ (I.tok _) ?_⟩
  rw [l]
  exact (rel.val k).getD rfl
end
def tDGet1 (td ty:TE):TE:=fun σ H Q=>td σ H fun x H1=>∃ a,x=.ref a/\IsD H1 a/\ty σ H1 fun y H2=>∃ o,DGet H2 a y o/\Q (o.getD .non) H2
section
variable {X:Cx} {o e f:Expr} {apos cpos:Pos} {td ty tx:TE}
theorem pe_dget1 (hu:X.A.units+1 < cLine) (ho:PE X o td) (he:PE X e ty) (m:M1 X o "get" apos e cpos):PE X (.Call (.Attribute o "get" apos) [e] [] cpos) (tDGet1 td ty):=by
 intro pins s σ H Q I h
 refine wpAny_Call_method m.base m.few m.line PySem.F.plainAttrs_dict PySem.F.slot_dict_get PySem.F.type_dict_get (thn (ho pins s σ H _ I h) fun u s1 ⟨x,H1,I1,rx,a,ex,d,q1⟩=>?_)
 subst ex
 obtain rfl:u=Value.ref a:=rx
 obtain ⟨t1,t2,_⟩:=isD_at I1 d
 refine ⟨t1,t2,?_⟩
 rw [m.trees]
 refine Calls.callWith_builtin rfl (Calls.evalArgs_plain (Calls.spliced_cons (thn (he pins s1 σ H1 _ I1 q1) fun iv s2 ⟨y,H2,I2,ry,ov,g,q2⟩=>Calls.spliced_nil ?_)))
 exact d_get1 hu I2 g ry fun w' s3 I3 rw'=>⟨_,H2,I3,rw',q2⟩
end
section
variable {X:Cx} {pins:List (Addr × Obj)} {σ:St} {H:Hp} {s:Shared} {a:Addr} {kvs:List (Key × V)} {A:Around} {E:Value->Shared->Prop}
theorem d_copyOf {Q:Value->Shared->Prop} (I:Inv X pins σ H s) (e:Rd H a (.dK kvs)) (h:∀ p s',H p=none->Inv X pins σ (upd H p (.dK kvs)) s'->Q (.ref p) s'):wpAny (model X.prog X.w) A (call (.type "dict") [.ref a]) Q E s:=by
 obtain ⟨z,hd,vs,rel,dd⟩:=dk_rd I.hok e
 refine kt_call_dict hd dd (by rw [<- rel.length];exact z) fun h' dd' hs=>?_
 refine h _ _ (I.hok.fresh (Nat.le_refl _)) (I.laid (a:=s.heap.objs.size) (o:=.dK kvs) (t':=s.toks) (fun b q hq=>?_) (Nat.le_refl _) (dk_new z (beq_eq_false_iff_ne.mpr (Ne.symm (Nat.ne_of_lt I.big))) rel dd'))
 exact (hs.2 b (Nat.ne_of_lt (Heap.lt_size hq))).trans (Heap.get?_push_of_some _ hq)
end
section
variable {X:Cx} {pins:List (Addr × Obj)} {σ:St} {H:Hp} {s:Shared} {a:Addr} {y:V} {u:Value} {A:Around} {E:Value->Shared->Prop}
end
end L2
set_option maxHeartbeats 4000000
namespace D3
open PySem PySem.Spec PyProof.Rows L2
abbrev St:=L2.St
inductive D where
 | non | bl (b:Bool) | int (i:Int) | str (x:Str) | ty (n:String) | tup (ds:List D) | ref (a:Addr)
mutual
def Is (H:Hp):D->V->Prop
 | .non,v=>v=.non
 | .bl b,v=>v=.bl b
 | .int i,v=>v=.int i
 | .str x,v=>v=.str x
 | .ty n,v=>v=.ty n
 | .tup ds,v=>∃ a xs,v=.ref a/\H a=some (.tup xs)/\IsL H ds xs
 | .ref a,v=>v=.ref a
def IsL (H:Hp):List D->List V->Prop
 | [],xs=>xs=[]
 | d :: ds,xs=>∃ x r,xs=x :: r/\Is H d x/\IsL H ds r
end
def Grow (H H':Hp):Prop:=∀ b xs,H b=some (.tup xs)->H' b=some (.tup xs)
theorem Grow.refl (H:Hp):Grow H H:=fun _ _ h=>h
theorem Grow.trans {H H1 H2:Hp} (a:Grow H H1) (b:Grow H1 H2):Grow H H2:=fun c o h=>b c o (a c o h)
theorem grow_upd {H:Hp} {p:Addr} {o:HO} (h:∀ xs,H p≠some (.tup xs)):Grow H (upd H p o):=fun b xs e=>by
 have:b≠p:=by intro z;subst z;exact h xs e
 rw [upd_ne this];exact e
theorem grow_new {H:Hp} {p:Addr} {o:HO} (h:H p=none):Grow H (upd H p o):=grow_upd (by intro xs e;rw [h] at e;cases e)
mutual
theorem Is.grow {H H':Hp} (g:Grow H H'):∀ (d:D) (v:V),Is H d v->Is H' d v
 | .non,_,h=>by unfold Is at h ⊢;exact h
 | .bl _,_,h=>by unfold Is at h ⊢;exact h
 | .int _,_,h=>by unfold Is at h ⊢;exact h
 | .str _,_,h=>by unfold Is at h ⊢;exact h
 | .ty _,_,h=>by unfold Is at h ⊢;exact h
 | .ref _,_,h=>by unfold Is at h ⊢;exact h
 | .tup ds,v,h=>by
  unfold Is at h ⊢
  obtain ⟨a,xs,e,h1,h2⟩:=h
  exact ⟨a,xs,e,g _ _ h1,IsL.grow g ds xs h2⟩
theorem IsL.grow {H H':Hp} (g:Grow H H'):∀ (ds:List D) (vs:List V),IsL H ds vs->IsL H' ds vs
 | [],_,h=>by unfold IsL at h ⊢;exact h
 | d :: ds,vs,h=>by
  unfold IsL at h ⊢
  obtain ⟨x,r,e,h1,h2⟩:=h
  exact ⟨x,r,e,Is.grow g d x h1,IsL.grow g ds r h2⟩
end
theorem is_non {H:Hp} {v:V}:Is H .non v ↔ v=.non:=by unfold Is;exact Iff.rfl
theorem is_bl {H:Hp} {v:V} {b:Bool}:Is H (.bl b) v ↔ v=.bl b:=by unfold Is;exact Iff.rfl
theorem is_int {H:Hp} {v:V} {i:Int}:Is H (.int i) v ↔ v=.int i:=by unfold Is;exact Iff.rfl
theorem is_str {H:Hp} {v:V} {x:Str}:Is H (.str x) v ↔ v=.str x:=by unfold Is;exact Iff.rfl
theorem is_ref {H:Hp} {v:V} {a:Addr}:Is H (.ref a) v ↔ v=.ref a:=by unfold Is;exact Iff.rfl
theorem is_tup {H:Hp} {v:V} {ds:List D}:Is H (.tup ds) v ↔ ∃ a xs,v=.ref a/\H a=some (.tup xs)/\IsL H ds xs:=by
 constructor
 ·intro h;unfold Is at h;exact h
 ·intro h;unfold Is;exact h
theorem isl_nil {H:Hp} {vs:List V}:IsL H [] vs ↔ vs=[]:=by unfold IsL;exact Iff.rfl
theorem isl_cons {H:Hp} {vs:List V} {d:D} {ds:List D}:IsL H (d :: ds) vs ↔ ∃ x r,vs=x :: r/\Is H d x/\IsL H ds r:=by
 constructor
 ·intro h;unfold IsL at h;exact h
 ·intro h;unfold IsL;exact h
theorem IsL.len {H:Hp}:∀ {ds:List D} {vs:List V},IsL H ds vs->ds.length=vs.length
 | [],vs,h=>by rw [isl_nil] at h;rw [h];rfl
 | d :: ds,vs,h=>by
  rw [isl_cons] at h
  obtain ⟨x,r,e,_,h2⟩:=h
  rw [e,List.length_cons,List.length_cons,IsL.len h2]
theorem IsL.get {H:Hp}:∀ {ds:List D} {vs:List V} {i:Nat} {d:D},IsL H ds vs->ds[i]?=some d->∃ v,vs[i]?=some v/\Is H d v
 | [],vs,i,d,_,e=>by simp at e
 | d' :: ds,vs,0,d,h,e=>by
  rw [isl_cons] at h
  obtain ⟨x,r,e1,h1,_⟩:=h
  simp at e;subst e;subst e1
  exact ⟨x,rfl,h1⟩
 | d' :: ds,vs,i+1,d,h,e=>by
  rw [isl_cons] at h
  obtain ⟨x,r,e1,_,h2⟩:=h
  subst e1
  obtain ⟨v,e2,h3⟩:=IsL.get (i:=i) h2 (by simpa using e)
  exact ⟨v,by simpa using e2,h3⟩
theorem IsL.get' {H:Hp}:∀ {ds:List D} {vs:List V} {i:Nat} {v:V},IsL H ds vs->vs[i]?=some v->∃ d,ds[i]?=some d/\Is H d v
 | [],vs,i,d,h,e=>by rw [isl_nil] at h;subst h;simp at e
 | d' :: ds,vs,0,v,h,e=>by
  rw [isl_cons] at h
  obtain ⟨x,r,e1,h1,_⟩:=h
  subst e1;simp at e;subst e
  exact ⟨d',rfl,h1⟩
 | d' :: ds,vs,i+1,v,h,e=>by
  rw [isl_cons] at h
  obtain ⟨x,r,e1,_,h2⟩:=h
  subst e1
  obtain ⟨d,e2,h3⟩:=IsL.get' (i:=i) h2 (by simpa using e)
  exact ⟨d,by simpa using e2,h3⟩
theorem IsL.app {H:Hp}:∀ {ds es:List D} {vs us:List V},IsL H ds vs->IsL H es us->IsL H (ds++es) (vs++us)
 | [],es,vs,us,h,k=>by rw [isl_nil] at h;subst h;exact k
 | d :: ds,es,vs,us,h,k=>by
  rw [isl_cons] at h
  obtain ⟨x,r,e,h1,h2⟩:=h
  subst e
  show IsL H (d :: (ds++es)) (x :: (r++us))
  rw [isl_cons]
  exact ⟨x,r++us,rfl,h1,h2.app k⟩
theorem IsL.take {H:Hp}:∀ {ds:List D} {vs:List V} (n:Nat),IsL H ds vs->IsL H (ds.take n) (vs.take n)
 | _,_,0,_=>by rw [List.take_zero,List.take_zero,isl_nil]
 | [],vs,n+1,h=>by rw [isl_nil] at h;subst h;rw [List.take_nil,List.take_nil,isl_nil]
 | d :: ds,vs,n+1,h=>by
  rw [isl_cons] at h
  obtain ⟨x,r,e,h1,h2⟩:=h
  subst e
  rw [List.take_succ_cons,List.take_succ_cons,isl_cons]
  exact ⟨x,r.take n,rfl,h1,h2.take n⟩
theorem IsL.drop {H:Hp}:∀ {ds:List D} {vs:List V} (n:Nat),IsL H ds vs->IsL H (ds.drop n) (vs.drop n)
 | _,_,0,h=>h
 | [],vs,n+1,h=>by rw [isl_nil] at h;subst h;rw [List.drop_nil,List.drop_nil,isl_nil]
 | d :: ds,vs,n+1,h=>by
  rw [isl_cons] at h
  obtain ⟨x,r,e,h1,h2⟩:=h
  subst e
  rw [List.drop_succ_cons,List.drop_succ_cons]
  exact h2.drop n
theorem IsL.ints {H:Hp}:∀ {ns:List Int},IsL H (ns.map D.int) (ns.map V.int)
 | []=>by rw [List.map_nil,List.map_nil,isl_nil]
 | n :: ns=>by rw [List.map_cons,List.map_cons,isl_cons];exact ⟨_,_,rfl,is_int.mpr rfl,IsL.ints⟩
inductive MO where
 | lst (ds:List D) | ro (ds:List D) | dic (kvs:List (Str × D))
 | exc (C:Addr) (dd:Option Addr) (fresh:Bool) | att (fs:List (Str × D))
 | rod (o:Obj) (kvs:List (Str × D))
 | raw (φ:Heap->Prop)
 | tkd (kvs:List (List Int × D))
 | ins (C:Addr) (fs:List (Str × D))
abbrev MH:=Addr->Option MO
def mset (M:MH) (a:Addr) (o:MO):MH:=fun b=>if b=a then some o else M b
theorem mset_same {M:MH} {a:Addr} {o:MO}:mset M a o a=some o:=by unfold mset;rw [if_pos rfl]
theorem mset_ne {M:MH} {a b:Addr} {o:MO} (h:b≠a):mset M a o b=M b:=by unfold mset;rw [if_neg h]
theorem mset_old {M:MH} {a b:Addr} {o u:MO} (n:M a=none) (h:M b=some u):mset M a o b=some u:=by
 rw [mset_ne];exact h
 intro z;subst z;rw [n] at h;cases h
def KvIs (H:Hp):List (Str × D)->List (Key × V)->Prop
 | [],ys=>ys=[]
 | (k,d) :: r,ys=>∃ v ys',ys=(Sum.inr k,v) :: ys'/\Is H d v/\KvIs H r ys'
def ExcO (a C:Addr) (dd:Option Addr) (fresh:Bool) (h:Heap):Prop :=
 ∃ o vs,h.get? a=some o/\o.cls=.ref C/\o.dict=dd/\o.data=.fields vs/\(fresh=true->o.slots=#[]/\∃ t,vs=#[.ref t,.none,.none,.none,.bool false,.none])
def FsIs (H:Hp):List (Str × D)->List (Str × V)->Prop
 | [],ys=>ys=[]
 | (k,d) :: r,ys=>∃ v ys',ys=(k,v) :: ys'/\Is H d v/\FsIs H r ys'
def TkIs (H:Hp):List (List Int × D)->List (List Key × V)->Prop
 | [],ys=>ys=[]
 | (k,d) :: r,ys=>∃ v ys',ys=(k.map Sum.inl,v) :: ys'/\Is H d v/\TkIs H r ys'
theorem TkIs.grow {H H':Hp} (g:Grow H H'):∀ {fs:List (List Int × D)} {ys:List (List Key × V)},TkIs H fs ys->TkIs H' fs ys
 | [],ys,h=>h
 | (k,d) :: r,ys,h=>by
  obtain ⟨v,ys',e,h1,h2⟩:=h
  exact ⟨v,ys',e,Is.grow g _ _ h1,TkIs.grow g h2⟩
def IsM (K:PySem.W.Frag) (H:Hp) (a:Addr):MO->Prop
 | .lst ds=>∃ xs,H a=some (.lst xs)/\IsL H ds xs
 | .ro ds=>∃ xs,SqL K H a xs/\IsL H ds xs
 | .dic kvs=>∃ ys,H a=some (.dK ys)/\KvIs H kvs ys
 | .exc C dd fr=>H a=some (.ext (ExcO a C dd fr))
 | .att fs=>∃ ys,H a=some (.xd ys)/\FsIs H fs ys
 | .rod o kvs=>∃ ys,H a=some (.frz o (.dK ys))/\KvIs H kvs ys
 | .raw φ=>H a=some (.ext φ)
 | .tkd kvs=>∃ ys,H a=some (.dT ys)/\TkIs H kvs ys
 | .ins C fs=>∃ dx ys,H a=some (.ins C dx ys)/\FsIs H fs ys
theorem FsIs.grow {H H':Hp} (g:Grow H H'):∀ {fs:List (Str × D)} {ys:List (Str × V)},FsIs H fs ys->FsIs H' fs ys
 | [],ys,h=>h
 | (k,d) :: r,ys,h=>by
  obtain ⟨v,ys',e,h1,h2⟩:=h
  exact ⟨v,ys',e,Is.grow g _ _ h1,FsIs.grow g h2⟩
theorem KvIs.grow {H H':Hp} (g:Grow H H'):∀ {kvs:List (Str × D)} {ys:List (Key × V)},KvIs H kvs ys->KvIs H' kvs ys
 | [],ys,h=>h
 | (k,d) :: r,ys,h=>by
  obtain ⟨v,ys',e,h1,h2⟩:=h
  exact ⟨v,ys',e,Is.grow g _ _ h1,KvIs.grow g h2⟩
def MemOk (K:PySem.W.Frag) (M:MH) (H:Hp):Prop:=∀ a o,M a=some o->IsM K H a o
def KF (K:PySem.W.Frag) (H:Hp):Prop:=∀ a o,K.lookup a=some o->H a=none
theorem IsM.there {K:PySem.W.Frag} {H:Hp} {a:Addr} {o:MO} (h:IsM K H a o):(∃ u,H a=some u)\/∃ u,K.lookup a=some u:=by
 cases o with
 | lst ds=>obtain ⟨xs,e,_⟩:=h;exact .inl ⟨_,e⟩
 | dic kvs=>obtain ⟨xs,e,_⟩:=h;exact .inl ⟨_,e⟩
 | att fs=>obtain ⟨xs,e,_⟩:=h;exact .inl ⟨_,e⟩
 | rod o kvs=>obtain ⟨xs,e,_⟩:=h;exact .inl ⟨_,e⟩
 | exc C dd fr=>exact .inl ⟨_,h⟩
 | raw φ=>exact .inl ⟨_,h⟩
 | tkd kvs=>obtain ⟨xs,e,_⟩:=h;exact .inl ⟨_,e⟩
 | ins C fs=>obtain ⟨dx,xs,e,_⟩:=h;exact .inl ⟨_,e⟩
 | ro ds =>
  obtain ⟨xs,e,_⟩:=h
  rcases e with (e | ⟨o,e⟩) | ⟨o,_,_,e,_⟩
  ·exact .inl ⟨_,e⟩
  ·exact .inl ⟨_,e⟩
  ·exact .inr ⟨_,e⟩
theorem MemOk.fresh {K:PySem.W.Frag} {M:MH} {H:Hp} {p:Addr} {o:HO} (m:MemOk K M H) (hp:H p=none) (kf:KF K (upd H p o)):M p=none:=by
 cases e:M p with
 | none=>rfl
 | some u =>
  rcases (m p u e).there with ⟨u,h⟩ | ⟨u,h⟩
  ·rw [hp] at h;cases h
  ·have:=kf p u h
   rw [upd_same] at this;cases this
theorem IsM.stay {K:PySem.W.Frag} {H H':Hp} {a:Addr} {o:MO} (g:Grow H H') (same:∀ u,H a=some u->H' a=some u) (h:IsM K H a o):IsM K H' a o:=by
 cases o with
 | lst ds=>obtain ⟨xs,e,q⟩:=h;exact ⟨xs,same _ e,q.grow g⟩
 | dic kvs=>obtain ⟨xs,e,q⟩:=h;exact ⟨xs,same _ e,q.grow g⟩
 | att fs=>obtain ⟨xs,e,q⟩:=h;exact ⟨xs,same _ e,q.grow g⟩
 | rod o kvs=>obtain ⟨xs,e,q⟩:=h;exact ⟨xs,same _ e,q.grow g⟩
 | exc C dd fr=>exact same _ h
 | raw φ=>exact same _ h
 | tkd kvs=>obtain ⟨xs,e,q⟩:=h;exact ⟨xs,same _ e,q.grow g⟩
 | ins C fs=>obtain ⟨dx,xs,e,q⟩:=h;exact ⟨dx,xs,same _ e,q.grow g⟩
 | ro ds =>
  obtain ⟨xs,e,q⟩:=h
  refine ⟨xs,?_,q.grow g⟩
  rcases e with (e | ⟨o,e⟩) | e
  ·exact .inl (.inl (same _ e))
  ·exact .inl (.inr ⟨o,same _ e⟩)
  ·exact .inr e
theorem MemOk.new {K:PySem.W.Frag} {M:MH} {H:Hp} {p:Addr} {o:HO} (m:MemOk K M H) (hp:H p=none):MemOk K M (upd H p o):=fun a u e =>
 (m a u e).stay (grow_new hp) fun v h=>by rw [upd_ne (ne_of_none h hp)];exact h
theorem MemOk.lay {K:PySem.W.Frag} {M:MH} {H:Hp} {p:Addr} {o:HO} {u:MO} (m:MemOk K M H) (hp:H p=none) (h:IsM K (upd H p o) p u):MemOk K (mset M p u) (upd H p o):=fun a v e=>by
 by_cases z:a=p
 ·subst z;rw [mset_same] at e;cases e;exact h
 ·rw [mset_ne z] at e;exact m.new hp a v e
theorem MemOk.put {K:PySem.W.Frag} {M:MH} {H:Hp} {p:Addr} {o:HO} {u:MO} (m:MemOk K M H) (hp:∀ xs,H p≠some (.tup xs)) (h:IsM K (upd H p o) p u):MemOk K (mset M p u) (upd H p o):=fun a v e=>by
 by_cases z:a=p
 ·subst z;rw [mset_same] at e;cases e;exact h
 ·rw [mset_ne z] at e
  exact (m a v e).stay (grow_upd hp) fun w q=>by rw [upd_ne z];exact q
abbrev Ga:=List (Option D)
abbrev DK:=D->MH->Prop
structure Rel (X:Cx) (G:Ga) (M:MH) (σ:St) (H:Hp):Prop where
 loc:∀ (i:Nat) (d:D),G[i]?=some (some d)->∃ v,σ[i]?=some (some v)/\Is H d v
 mem:MemOk X.K M H
theorem Rel.to {X:Cx} {G:Ga} {M M':MH} {σ:St} {H H':Hp} (R:Rel X G M σ H) (g:Grow H H') (m:MemOk X.K M' H'):Rel X G M' σ H' :=
 ⟨fun i d e=>let ⟨v,e1,h⟩:=R.loc i d e;⟨v,e1,Is.grow g _ _ h⟩,m⟩
theorem Rel.set {X:Cx} {G:Ga} {M:MH} {σ:St} {H:Hp} {i:Nat} {d:D} {v:V} (R:Rel X G M σ H) (hi:i < σ.length) (h:Is H d v):Rel X (G.set i (some d)) M (σ.set i (some v)) H :=
 ⟨fun j e q=>by
  by_cases z:i=j
  ·subst z
   by_cases hG:i < G.length
   ·rw [List.getElem?_set_self hG] at q
    cases q
    exact ⟨v,List.getElem?_set_self hi,h⟩
   ·rw [List.getElem?_eq_none (by rw [List.length_set];omega)] at q;cases q
  ·rw [List.getElem?_set_ne z] at q
   obtain ⟨w,e1,h1⟩:=R.loc j e q
   exact ⟨w,by rw [List.getElem?_set_ne z];exact e1,h1⟩,R.mem⟩
theorem kf_of {X:Cx} {pins:List (Addr × Obj)} {σ:St} {H:Hp} {s:Shared} (I:Inv X pins σ H s):KF X.K H:=fun a o e=>(I.bs a o (I.mod.kin a o e)).2
def EPD (X:Cx) (pins:List (Addr × Obj)) (σ:St) (G:Ga) (H:Hp) (Q:DK) (u:Value) (s':Shared):Prop :=
 ∃ v H' d M',Inv X pins σ H' s'/\RelV v u/\Grow H H'/\Is H' d v/\Rel X G M' σ H'/\Q d M'
def EV (X:Cx) (G:Ga) (M:MH) (e:Expr) (Q:DK):Prop :=
 ∀ (pins:List (Addr × Obj)) (s:Shared) (σ:St) (H:Hp),Inv X pins σ H s->Rel X G M σ H->wpAny (model X.prog X.w) X.A (eval e X.env) (EPD X pins σ G H Q) X.xe s
def TPD (X:Cx) (pins:List (Addr × Obj)) (σ:St) (G:Ga) (H:Hp) (Q:Bool->MH->Prop) (b:Bool) (s':Shared):Prop :=
 ∃ H' M',Inv X pins σ H' s'/\Grow H H'/\Rel X G M' σ H'/\Q b M'
def TV (X:Cx) (G:Ga) (M:MH) (e:Expr) (Q:Bool->MH->Prop):Prop :=
 ∀ (pins:List (Addr × Obj)) (s:Shared) (σ:St) (H:Hp),Inv X pins σ H s->Rel X G M σ H->wpAny (model X.prog X.w) X.A (isTrue e X.env (eval e X.env)) (TPD X pins σ G H Q) X.xe s
def TW (X:Cx) (G:Ga) (M:MH) (e:Expr) (Q:Bool->MH->Prop):Prop :=
 ∀ (whole:Sem Value) (pins:List (Addr × Obj)) (s:Shared) (σ:St) (H:Hp),Inv X pins σ H s->Rel X G M σ H->wpAny (model X.prog X.w) X.A (isTrue e X.env whole) (TPD X pins σ G H Q) X.xe s
theorem TW.tv {X:Cx} {G:Ga} {M:MH} {e:Expr} {Q:Bool->MH->Prop} (h:TW X G M e Q):TV X G M e Q:=h _
def APD (X:Cx) (pins:List (Addr × Obj)) (σ:St) (G:Ga) (H:Hp) (Q:List D->MH->Prop) (us:List Value) (s':Shared):Prop :=
 ∃ vs H' ds M',Inv X pins σ H' s'/\Vals vs us/\Grow H H'/\IsL H' ds vs/\Rel X G M' σ H'/\Q ds M'
def AV (X:Cx) (G:Ga) (M:MH) (es:List Expr) (Q:List D->MH->Prop):Prop :=
 ∀ (pos:Pos) (pins:List (Addr × Obj)) (s:Shared) (σ:St) (H:Hp),Inv X pins σ H s->Rel X G M σ H->wpAny (model X.prog X.w) X.A (spliced (backTo pos (starEach es X.env))) (APD X pins σ G H Q) X.xe s
structure EndsD where
 nx:Ga->MH->Prop
 rt:DK
 bk:Ga->MH->Prop:=fun _ _=>False
 ct:Ga->MH->Prop:=fun _ _=>False
def SPD (X:Cx) (pins:List (Addr × Obj)) (H:Hp) (E:EndsD) (f:Flow) (s':Shared):Prop :=
 match f with
 | .next=>∃ σ' H' G' M',Inv X pins σ' H' s'/\Grow H H'/\Rel X G' M' σ' H'/\E.nx G' M'
 | .brk=>∃ σ' H' G' M',Inv X pins σ' H' s'/\Grow H H'/\Rel X G' M' σ' H'/\E.bk G' M'
 | .cont=>∃ σ' H' G' M',Inv X pins σ' H' s'/\Grow H H'/\Rel X G' M' σ' H'/\E.ct G' M'
 | .ret u=>∃ v σ' H' d M',Inv X pins σ' H' s'/\RelV v u/\Grow H H'/\Is H' d v/\MemOk X.K M' H'/\E.rt d M'
def EX (X:Cx) (G:Ga) (M:MH) (st:Stmt) (E:EndsD):Prop :=
 ∀ (pins:List (Addr × Obj)) (s:Shared) (σ:St) (H:Hp),Inv X pins σ H s->Rel X G M σ H->wpAny (model X.prog X.w) X.A (exec st X.env) (SPD X pins H E) X.xe s
def EXs (X:Cx) (G:Ga) (M:MH) (st:List Stmt) (E:EndsD):Prop :=
 ∀ (pins:List (Addr × Obj)) (s:Shared) (σ:St) (H:Hp),Inv X pins σ H s->Rel X G M σ H->wpAny (model X.prog X.w) X.A (execs st X.env) (SPD X pins H E) X.xe s
theorem EPD.grow {X:Cx} {pins:List (Addr × Obj)} {σ:St} {G:Ga} {H0 H:Hp} {Q:DK} {u:Value} {s':Shared} (g:Grow H0 H) (h:EPD X pins σ G H Q u s'):EPD X pins σ G H0 Q u s' :=
 let ⟨v,H',d,M',I,r,g',i,R,q⟩:=h;⟨v,H',d,M',I,r,g.trans g',i,R,q⟩
theorem TPD.grow {X:Cx} {pins:List (Addr × Obj)} {σ:St} {G:Ga} {H0 H:Hp} {Q:Bool->MH->Prop} {u:Bool} {s':Shared} (g:Grow H0 H) (h:TPD X pins σ G H Q u s'):TPD X pins σ G H0 Q u s' :=
 let ⟨H',M',I,g',R,q⟩:=h;⟨H',M',I,g.trans g',R,q⟩
theorem SPD.grow {X:Cx} {pins:List (Addr × Obj)} {H0 H:Hp} {E:EndsD} {f:Flow} {s':Shared} (g:Grow H0 H) (h:SPD X pins H E f s'):SPD X pins H0 E f s':=by
 cases f with
 | next=>obtain ⟨σ',H',G',M',I,g',R,q⟩:=h;exact ⟨σ',H',G',M',I,g.trans g',R,q⟩
 | brk=>obtain ⟨σ',H',G',M',I,g',R,q⟩:=h;exact ⟨σ',H',G',M',I,g.trans g',R,q⟩
 | cont=>obtain ⟨σ',H',G',M',I,g',R,q⟩:=h;exact ⟨σ',H',G',M',I,g.trans g',R,q⟩
 | ret u=>obtain ⟨v,σ',H',d,M',I,r,g',i,R,q⟩:=h;exact ⟨v,σ',H',d,M',I,r,g.trans g',i,R,q⟩
section
variable {X:Cx} {G:Ga} {M:MH} {a b c e:Expr} {es rest:List Expr} {pos:Pos} {Q:DK}
theorem EV.mono {Q':DK} (h:EV X G M e Q) (k:∀ d M',Q d M'->Q' d M'):EV X G M e Q':=fun pins s σ H I R =>
 thn (h pins s σ H I R) fun u s' ⟨v,H',d,M',I',r,g,i,R',q⟩=>⟨v,H',d,M',I',r,g,i,R',k _ _ q⟩
theorem EV.of {t:TE} (h:PE X e t) (k:∀ σ H,KF X.K H->Rel X G M σ H->t σ H fun v H'=>KF X.K H'->Grow H H'/\∃ d M',Is H' d v/\MemOk X.K M' H'/\Q d M'):EV X G M e Q:=fun pins s σ H I R =>
 thn (h pins s σ H _ I (k σ H (kf_of I) R)) fun u s' ⟨v,H',I',r,q⟩ =>
  let ⟨g,d,M',i,m,q⟩:=q (kf_of I')
  ⟨v,H',d,M',I',r,g,i,R.to g m,q⟩
theorem ev_var (i:Nat) {d:D} {x:Str} (q:Q d M) (hN:X.N[i]?=some x:=by rfl) (hG:G[i]?=some (some d):=by rfl) (hv:Vis X.env.scope x:=by first | exact Or.inl rfl | exact Or.inr (Or.inl rfl) | exact Or.inr (Or.inr rfl))
  (hd:(x == ("__debug__" : Str))=false:=by decide) (hcd:(x == ("__classdict__" : Str))=false:=by decide):EV X G M (.Name x pos) Q :=
 EV.of (pe_var hN hv hd hcd) fun σ H kf R=>let ⟨v,e1,h⟩:=R.loc i d hG;⟨v,e1,fun _=>⟨Grow.refl _,d,M,h,R.mem,q⟩⟩
theorem ev_int {i:Int} {j} (q:Q (.int i) M):EV X G M (.Constant (.int i) j pos) Q:=EV.of pe_int fun σ H kf R=>show _ from fun _=>⟨Grow.refl _,_,M,is_int.mpr rfl,R.mem,q⟩
theorem ev_bl {i:Bool} {j} (q:Q (.bl i) M):EV X G M (.Constant (.bool i) j pos) Q:=EV.of pe_bl fun σ H kf R=>show _ from fun _=>⟨Grow.refl _,_,M,is_bl.mpr rfl,R.mem,q⟩
theorem ev_non {j} (q:Q .non M):EV X G M (.Constant .none j pos) Q:=EV.of pe_non fun σ H kf R=>show _ from fun _=>⟨Grow.refl _,_,M,is_non.mpr rfl,R.mem,q⟩
theorem ev_str {x} {j} (q:Q (.str x) M):EV X G M (.Constant (.str x) j pos) Q:=EV.of pe_str fun σ H kf R=>show _ from fun _=>⟨Grow.refl _,_,M,is_str.mpr rfl,R.mem,q⟩
theorem ev_gint {x:Str} {i:Int} {t:Tok} (hm:X.mg x=some (.int i t)) (q:Q (.int i) M) (hg:Gl X x:=by rfl) (hd:(x == ("__debug__" : Str))=false:=by decide):EV X G M (.Name x pos) Q :=
 EV.of (pe_glob (v:=.int i) hg hm ⟨_,rfl⟩ hd) fun σ H kf R=>show _ from fun _=>⟨Grow.refl _,_,M,is_int.mpr rfl,R.mem,q⟩
abbrev RDP (K:PySem.W.Frag) (H:Hp) (Q:DK):VK:=fun v H'=>KF K H'->Grow H H'/\∃ d M',Is H' d v/\MemOk K M' H'/\Q d M'
def RD (K:PySem.W.Frag) (r:R2) (da db:D) (M:MH) (Q:DK):Prop:=∀ H x y,KF K H->Is H da x->Is H db y->MemOk K M H->r x y H (RDP K H Q)
def RU (K:PySem.W.Frag) (r:V->Hp->VK->Prop) (da:D) (M:MH) (Q:DK):Prop:=∀ H x,KF K H->Is H da x->MemOk K M H->r x H (RDP K H Q)
def RC (K:PySem.W.Frag) (r:List V->Hp->VK->Prop) (ds:List D) (M:MH) (Q:DK):Prop:=∀ H xs,KF K H->IsL H ds xs->MemOk K M H->r xs H (RDP K H Q)
theorem rd_fin {pins:List (Addr × Obj)} {σ:St} {H0 H:Hp} {u:Value} {s':Shared} (g0:Grow H0 H) {M0:MH} (R:Rel X G M0 σ H) (h:EP X pins σ (RDP X.K H Q) u s'):EPD X pins σ G H0 Q u s' :=
 let ⟨v,H',I',r,q⟩:=h
 let ⟨g,d,M',i,m,q⟩:=q (kf_of I')
 ⟨v,H',d,M',I',r,g0.trans g,i,R.to g m,q⟩
theorem ev2 {f:Value->Value->Sem Value} {r:R2} (ho:OpR X f r) (h:EV X G M a fun da Ma=>EV X G Ma b fun db Mb=>RD X.K r da db Mb Q)
  {pins:List (Addr × Obj)} {s:Shared} {σ:St} {H:Hp} (I:Inv X pins σ H s) (R:Rel X G M σ H) :
  wpAny (model X.prog X.w) X.A (eval a X.env) (fun v s1=>wpAny (model X.prog X.w) X.A (eval b X.env) (fun u s2=>wpAny (model X.prog X.w) X.A (f v u) (EPD X pins σ G H Q) X.xe s2) X.xe s1) X.xe s:=by
 refine thn (h pins s σ H I R) fun v s1 ⟨x,H1,da,Ma,I1,r1,g1,i1,R1,q1⟩=>?_
 refine thn (q1 pins s1 σ H1 I1 R1) fun u s2 ⟨y,H2,db,Mb,I2,r2,g2,i2,R2,q2⟩=>?_
 exact thn (ho pins s2 σ H2 x y v u _ I2 r1 r2 (q2 H2 x y (kf_of I2) (Is.grow g2 _ _ i1) i2 R2.mem)) fun w s3 h3=>rd_fin (g1.trans g2) R2 h3
theorem ev_op {op:Operator} {r:R2} (ho:OpR X (binaryOp op) r) (h:EV X G M a fun da Ma=>EV X G Ma b fun db Mb=>RD X.K r da db Mb Q):EV X G M (.BinOp a op b pos) Q :=
 fun pins s σ H I R=>wpAny_BinOp (ev2 ho h I R)
theorem ev_un {op:UnaryOp} {r:V->Hp->VK->Prop} (ho:UnR X (unaryOp op) r) (h:EV X G M a fun da Ma=>RU X.K r da Ma Q):EV X G M (.UnaryOp op a pos) Q :=
 fun pins s σ H I R=>UnaryOp_ (thn (h pins s σ H I R) fun v s1 ⟨x,H1,da,Ma,I1,r1,g1,i1,R1,q1⟩ =>
  thn (ho pins s1 σ H1 x v _ I1 r1 (q1 H1 x (kf_of I1) i1 R1.mem)) fun w s3 h3=>rd_fin g1 R1 h3)
theorem ev_cmp {op:CmpOp} {r:R2} (ho:OpR X (compareOp op) r) (hm:behindInMarks op b=false) (h:EV X G M a fun da Ma=>EV X G Ma b fun db Mb=>RD X.K r da db Mb Q):EV X G M (.Compare a [op] [b] pos) Q :=
 fun pins s σ H I R=>wpAny_Compare1 (ev2 ho h I R) hm
theorem tv_cmp {op:CmpOp} {r:R2} {Qb:Bool->MH->Prop} (ho:OpR X (compareOp op) r) (hm:behindInMarks op b=false)
  (h:EV X G M a fun da Ma=>EV X G Ma b fun db Mb=>RD X.K r da db Mb fun d M'=>∃ k,d=.bl k/\Qb k M'):TV X G M (.Compare a [op] [b] pos) Qb:=by
 intro pins s σ H I R
 refine wpAny_isTrue_Compare1 (thn (ev2 ho h I R) fun v s1 h1=>thn h1 fun u s2 h2=>thn h2 fun w s3 ⟨z,H3,d,M3,I3,r3,g3,i3,R3,k,e,q⟩=>?_) hm
 subst e
 rw [is_bl] at i3;subst i3
 cases r3
 exact wpAny_truthy_bool ⟨H3,M3,I3,g3,R3,q⟩
def TruD (K:PySem.W.Frag) (d:D) (M:MH) (k:Bool):Prop:=match d with
 | .non=>k=false
 | .bl b=>k=b
 | .int i=>k=(i != 0)
 | .tup ds=>k=!ds.isEmpty
 | .ref a=>(∃ ds,M a=some (.lst ds)/\k=!ds.isEmpty)\/(∃ ds,M a=some (.ro ds)/\k=!ds.isEmpty)
 | _=>False
theorem IsL.empty {H:Hp} {ds:List D} {vs:List V} (h:IsL H ds vs):ds.isEmpty=vs.isEmpty:=by
 cases ds with
 | nil=>rw [isl_nil] at h;subst h;rfl
 | cons d r=>rw [isl_cons] at h;obtain ⟨_,_,e,_⟩:=h;subst e;rfl
theorem tru_of {K:PySem.W.Frag} {H:Hp} {d:D} {M:MH} {v:V} {k:Bool} (m:MemOk K M H) (i:Is H d v) (t:TruD K d M k):TruV K v H k:=by
 cases d with
 | non=>rw [is_non] at i;subst i;exact t
 | bl b=>rw [is_bl] at i;subst i;exact t
 | int b=>rw [is_int] at i;subst i;exact t
 | tup ds =>
  rw [is_tup] at i
  obtain ⟨a,xs,rfl,h1,h2⟩:=i
  exact .inr (.inl ⟨xs,SqT.of h1,by rw [<- h2.empty];exact t⟩)
 | ref a =>
  rw [is_ref] at i;subst i
  rcases t with ⟨ds,h,e⟩ | ⟨ds,h,e⟩
  ·obtain ⟨xs,h1,h2⟩:=m a _ h
   exact .inl ⟨xs,SqL.of h1,by rw [<- h2.empty];exact e⟩
  ·obtain ⟨xs,h1,h2⟩:=m a _ h
   exact .inl ⟨xs,h1,by rw [<- h2.empty];exact e⟩
 | str x=>exact t.elim
 | ty x=>exact t.elim
theorem tv_of {Qb:Bool->MH->Prop} (h:EV X G M e fun d M'=>∃ k,TruD X.K d M' k/\Qb k M') (he:∀ whole,isTrue e X.env whole=(do let v <- whole;standAt e.pos;holding [v] (truthy v)):=by intro _;rfl):TV X G M e Qb:=by
 intro pins s σ H I R
 refine isTrue_plain (thn (h pins s σ H I R) fun v s1 ⟨x,H1,d,M1,I1,r1,g1,i1,R1,k,t,q⟩=>?_) (he _)
 exact thn (tru_ok pins s1 σ H1 x v (fun b H'=>b=k/\H'=H1) I1 r1 ⟨k,tru_of R1.mem i1 t,rfl,rfl⟩) fun b s2 ⟨H2,I2,e1,e2⟩=>by
  subst e1;subst e2
  exact ⟨H2,M1,I2,g1,R1,q⟩
theorem tv_not {Qb:Bool->MH->Prop} (h:TV X G M a fun k M'=>Qb (!k) M'):TV X G M (.UnaryOp .Not a pos) Qb:=by
 intro pins s σ H I R
 exact isTrue_not (thn (h pins s σ H I R) fun b s1 h1=>h1)
theorem tw_and1 {Qb:Bool->MH->Prop} (h:TV X G M a Qb):TW X G M (.BoolOp .And [a] pos) Qb:=by
 intro wh pins s σ H I R
 refine isTrue_and (thn (h pins s σ H I R) fun c s1 e=>?_)
 cases c with
 | true=>exact isTrue_and_nil e
 | false=>exact e
theorem tw_or1 {Qb:Bool->MH->Prop} (h:TV X G M a Qb):TW X G M (.BoolOp .Or [a] pos) Qb:=by
 intro wh pins s σ H I R
 refine isTrue_or (thn (h pins s σ H I R) fun c s1 e=>?_)
 cases c with
 | false=>exact isTrue_or_nil e
 | true=>exact e
theorem tw_and {Qb:Bool->MH->Prop} (h:TV X G M a fun k M1=>if k=true then TW X G M1 (.BoolOp .And (b :: rest) pos) Qb else Qb false M1):TW X G M (.BoolOp .And (a :: b :: rest) pos) Qb:=by
 intro wh pins s σ H I R
 refine isTrue_and (thn (h pins s σ H I R) fun c s1 ⟨H1,M1,I1,g1,R1,q1⟩=>?_)
 cases c with
 | true=>exact thn (q1 wh pins s1 σ H1 I1 R1) fun b s2 h2=>h2.grow g1
 | false=>exact ⟨H1,M1,I1,g1,R1,q1⟩
theorem tw_or {Qb:Bool->MH->Prop} (h:TV X G M a fun k M1=>if k=true then Qb true M1 else TW X G M1 (.BoolOp .Or (b :: rest) pos) Qb):TW X G M (.BoolOp .Or (a :: b :: rest) pos) Qb:=by
 intro wh pins s σ H I R
 refine isTrue_or (thn (h pins s σ H I R) fun c s1 ⟨H1,M1,I1,g1,R1,q1⟩=>?_)
 cases c with
 | true=>exact ⟨H1,M1,I1,g1,R1,q1⟩
 | false=>exact thn (q1 wh pins s1 σ H1 I1 R1) fun b s2 h2=>h2.grow g1
theorem ev_ifExp (h:TV X G M c fun k M1=>if k=true then EV X G M1 a Q else EV X G M1 b Q):EV X G M (.IfExp c a b pos) Q:=by
 intro pins s σ H I R
 refine wpAny_IfExp (thn (h pins s σ H I R) fun d s1 ⟨H1,M1,I1,g1,R1,q1⟩=>?_)
 cases d with
 | true=>exact thn (q1 pins s1 σ H1 I1 R1) fun b s2 h2=>h2.grow g1
 | false=>exact thn (q1 pins s1 σ H1 I1 R1) fun b s2 h2=>h2.grow g1
theorem av_nil {Qa:List D->MH->Prop} (q:Qa [] M):AV X G M [] Qa:=fun _ pins s σ H I R=>Calls.spliced_nil ⟨[],H,[],M,I,.nil,Grow.refl _,isl_nil.mpr rfl,R,q⟩
theorem av_cons {Qa:List D->MH->Prop} (h:EV X G M e fun d M1=>AV X G M1 es fun ds M2=>Qa (d :: ds) M2) (hs:starEach (e :: es) X.env=(false,eval e X.env) :: starEach es X.env:=by rfl):AV X G M (e :: es) Qa:=by
 intro pos pins s σ H I R
 rw [hs]
 show wpAny _ _ (spliced ((false,eval e X.env) :: backTo pos (starEach es X.env))) _ _ s
 refine Calls.spliced_cons (thn (h pins s σ H I R) fun u s1 ⟨x,H1,d,M1,I1,r1,g1,i1,R1,q1⟩=>?_)
 exact thn (q1 pos pins s1 σ H1 I1 R1) fun us s2 ⟨xs,H2,ds,M2,I2,r2,g2,i2,R2,q2⟩ =>
  ⟨x :: xs,H2,d :: ds,M2,I2,.cons r1 r2,g1.trans g2,isl_cons.mpr ⟨x,xs,rfl,Is.grow g2 _ _ i1,i2⟩,R2,q2⟩
theorem ev_tup {k} (h:AV X G M es fun ds M1=>ds.length<=sizeLine/\Q (.tup ds) M1):EV X G M (.Tuple es k pos) Q:=by
 intro pins s σ H I R
 refine wpAny_Tuple_spliced (thn (h pos pins s σ H I R) fun us s1 ⟨xs,H1,ds,M1,I1,r,g1,i1,R1,z,q⟩=>?_)
 have hl:=i1.len
 refine ⟨by rw [<- r.length,<- hl];exact z,?_⟩
 have hf:H1 s1.heap.objs.size=none:=I1.hok.fresh (Nat.le_refl _)
 refine ⟨.ref s1.heap.objs.size,upd H1 s1.heap.objs.size (.tup xs),.tup ds,M1,I1.laid (t':=s1.toks) (fun b u e=>Heap.get?_push_of_some _ e) (Nat.le_refl _) ⟨⟨by rw [<- hl];exact z,_,Heap.get?_push_size _ rfl,rfl⟩,us,r,⟨_,Heap.get?_push_size _ rfl,rfl,_,rfl⟩⟩,rfl,g1.trans (grow_new hf),?_,R1.to (grow_new hf) (R1.mem.new hf),q⟩
 exact is_tup.mpr ⟨_,xs,rfl,upd_same,i1.grow (grow_new hf)⟩
theorem ev_lst (h:AV X G M es fun ds M1=>ds.length<=sizeLine/\∀ p,M1 p=none->Q (.ref p) (mset M1 p (.lst ds))):EV X G M (.List es pos) Q:=by
 intro pins s σ H I R
 refine wpAny_List_spliced (thn (h pos pins s σ H I R) fun us s1 ⟨xs,H1,ds,M1,I1,r,g1,i1,R1,z,q⟩=>?_)
 have hl:=i1.len
 refine ⟨by rw [<- r.length,<- hl];exact z,?_⟩
 have hf:H1 s1.heap.objs.size=none:=I1.hok.fresh (Nat.le_refl _)
 have I2:=I1.laid (o:=.lst xs) (t':=s1.toks) (h':=s1.heap.push { cls:=.type "list",data:=.seq us.toArray }) (fun b u e=>Heap.get?_push_of_some _ e) (Nat.le_refl _) ⟨by rw [<- hl];exact z,us,0,r,Heap.get?_push_size _ rfl⟩
 refine ⟨.ref s1.heap.objs.size,upd H1 s1.heap.objs.size (.lst xs),.ref s1.heap.objs.size,mset M1 s1.heap.objs.size (.lst ds),I2,rfl,g1.trans (grow_new hf),is_ref.mpr rfl,R1.to (grow_new hf) (R1.mem.lay hf ⟨xs,upd_same,i1.grow (grow_new hf)⟩),q _ (R1.mem.fresh hf (kf_of I2))⟩
theorem ev_ix {r:R2} (hr:IxR X r) (hs:PlainIx b) (h:EV X G M a fun da Ma=>EV X G Ma b fun db Mb=>RD X.K r da db Mb Q):EV X G M (.Subscript a b pos) Q:=by
 intro pins s σ H I R
 refine Subscript_ (thn (h pins s σ H I R) fun v s1 ⟨x,H1,da,Ma,I1,r1,g1,i1,R1,q1⟩=>?_)
 refine thn (q1 pins s1 σ H1 I1 R1) fun u s2 ⟨y,H2,db,Mb,I2,r2,g2,i2,R2,q2⟩=>?_
 exact thn (hr a b pins s2 σ H2 x y v u _ I2 r1 r2 (q2 H2 x y (kf_of I2) (Is.grow g2 _ _ i1) i2 R2.mem) (hs _ _)) fun w s3 h3=>rd_fin (g1.trans g2) R2 h3
def IxD (da:D) (i:Int) (M:MH) (Q:DK):Prop:=match da with
 | .tup ds=>∃ d,atI ds i=some d/\Q d M
 | .ref a=>(∃ ds d,M a=some (.lst ds)/\atI ds i=some d/\Q d M)\/(∃ ds d,M a=some (.ro ds)/\atI ds i=some d/\Q d M)
 | _=>False
theorem atI_is {H:Hp} {ds:List D} {vs:List V} {i:Int} {d:D} (h:IsL H ds vs) (e:atI ds i=some d):∃ v,atI vs i=some v/\Is H d v:=by
 obtain ⟨j,_,h2,_⟩:=atI_get e
 unfold atI at e ⊢
 rw [<- h.len]
 cases q:ixN ds.length i with
 | none=>rw [q] at e;cases e
 | some k =>
  rw [q] at e
  exact h.get (i:=k) e
theorem rd_ix {da:D} {i:Int} (h:IxD da i M Q):RD X.K (rIx X.K) da (.int i) M Q:=by
 intro H x y kf hx hy m
 rw [is_int] at hy;subst hy
 cases da with
 | tup ds =>
  rw [is_tup] at hx
  obtain ⟨a,xs,rfl,h1,h2⟩:=hx
  obtain ⟨d,e,q⟩:=h
  obtain ⟨v,e2,h3⟩:=atI_is h2 e
  exact .inr (.inl ⟨a,xs,i,v,rfl,rfl,SqT.of h1,e2,fun _=>⟨Grow.refl _,d,M,h3,m,q⟩⟩)
 | ref a =>
  rw [is_ref] at hx;subst hx
  rcases h with ⟨ds,d,h1,e,q⟩ | ⟨ds,d,h1,e,q⟩
  ·obtain ⟨xs,h2,h3⟩:=m a _ h1
   obtain ⟨v,e2,h4⟩:=atI_is h3 e
   exact .inl ⟨a,xs,i,v,rfl,rfl,SqL.of h2,e2,fun _=>⟨Grow.refl _,d,M,h4,m,q⟩⟩
  ·obtain ⟨xs,h2,h3⟩:=m a _ h1
   obtain ⟨v,e2,h4⟩:=atI_is h3 e
   exact .inl ⟨a,xs,i,v,rfl,rfl,h2,e2,fun _=>⟨Grow.refl _,d,M,h4,m,q⟩⟩
 | non=>exact h.elim
 | bl _=>exact h.elim
 | int _=>exact h.elim
 | str _=>exact h.elim
 | ty _=>exact h.elim
end
section
variable {X:Cx} {G:Ga} {M:MH} {a b c e:Expr} {es rest:List Expr} {pos:Pos} {Q:DK}
def OV (X:Cx) (G:Ga) (M:MH) (e:Option Expr) (Q:Option Int->MH->Prop):Prop :=
 ∀ (pins:List (Addr × Obj)) (s:Shared) (σ:St) (H:Hp),Inv X pins σ H s->Rel X G M σ H ->
  wpAny (model X.prog X.w) X.A (evalPart e X.env) (fun u s'=>∃ o H' M',Inv X pins σ H' s'/\Grow H H'/\IsPart u o/\Rel X G M' σ H'/\Q o M') X.xe s
theorem ov_none {Qo:Option Int->MH->Prop} (q:Qo none M):OV X G M none Qo:=by
 intro pins s σ H I R
 rw [evalPart_none]
 exact wpAny_pure ⟨none,H,M,I,Grow.refl _,.none,R,q⟩
theorem ov_some {Qo:Option Int->MH->Prop} (h:EV X G M e fun d M1=>∃ i,d=.int i/\Qo (some i) M1):OV X G M (some e) Qo:=by
 intro pins s σ H I R
 rw [evalPart_some]
 refine thn (h pins s σ H I R) fun u s1 ⟨x,H1,d,M1,I1,r1,g1,i1,R1,i,e,q⟩=>?_
 subst e
 rw [is_int] at i1;subst i1
 obtain ⟨t,rfl⟩:=r1
 exact ⟨some i,H1,M1,I1,g1,.int i t,R1,q⟩
def cutD (xs:List D) (lo hi:Option Int):List D:=(xs.drop (HT.sIx xs.length 0 lo)).take (HT.sIx xs.length xs.length hi - HT.sIx xs.length 0 lo)
theorem IsL.cut {H:Hp} {ds:List D} {vs:List V} (h:IsL H ds vs) (lo hi:Option Int):IsL H (cutD ds lo hi) (cutV vs lo hi):=by
 unfold cutD cutV
 rw [h.len]
 exact (h.drop _).take _
def RS (K:PySem.W.Frag) (r:V->Option Int->Option Int->Hp->VK->Prop) (da:D) (lo hi:Option Int) (M:MH) (Q:DK):Prop:=∀ H x,KF K H->Is H da x->MemOk K M H->r x lo hi H (RDP K H Q)
theorem ev_slice {r:V->Option Int->Option Int->Hp->VK->Prop} {lo hi:Option Expr} {p2:Pos} (hr:SlR X r) (h:EV X G M e fun d M1=>OV X G M1 lo fun l M2=>OV X G M2 hi fun u M3=>RS X.K r d l u M3 Q) :
  EV X G M (.Subscript e (.Slice lo hi none p2) pos) Q:=by
 intro pins s σ H I R
 refine Subscript_ (thn (h pins s σ H I R) fun v s1 ⟨x,H1,d,M1,I1,r1,g1,i1,R1,q1⟩=>?_)
 refine wpAny_Slice (thn (q1 pins s1 σ H1 I1 R1) fun vl s2 ⟨l,H2,M2,I2,g2,pl,R2,q2⟩=>thn (q2 pins s2 σ H2 I2 R2) fun vu s3 ⟨u,H3,M3,I3,g3,pu,R3,q3⟩=>?_)
 rw [evalPart_none]
 refine wpAny_pure ?_
 have I4:Inv X pins σ H3 { s3 with heap:=s3.heap.push { cls:=.type "slice",data:=.fields #[vl,vu,.none] } }:=I3.kept (t':=s3.toks) fun b ob q=>Heap.get?_push_of_some _ q
 obtain ⟨T,id,hT,ht,hg⟩:=hr pins { s3 with heap:=s3.heap.push { cls:=.type "slice",data:=.fields #[vl,vu,.none] } } σ H3 x v vl vu l u s3.heap.objs.size _ I4 r1 (Heap.IsSliceOf.new ..) pl pu (q3 H3 x (kf_of I3) (Is.grow (g2.trans g3) _ _ i1) R3.mem)
 show wpAny (model X.prog X.w) X.A (subscriptTail e (.Slice lo hi none p2) v (.ref s3.heap.objs.size)) _ X.xe { s3 with heap:=s3.heap.push { cls:=.type "slice",data:=.fields #[vl,vu,.none] } }
 exact tail_any (ops:=[.ref s3.heap.objs.size,v]) ht hT (thn hg fun w s5 h5=>rd_fin ((g1.trans g2).trans g3) R3 h5) (by with_unfolding_all rfl)
theorem rs_list {da:D} {lo hi:Option Int} {l:Addr} {ds:List D} (e:da=.ref l) (hl:M l=some (.lst ds)\/M l=some (.ro ds)) (h:∀ p,M p=none->Q (.ref p) (mset M p (.lst (cutD ds lo hi)))):RS X.K (rSlL X.K) da lo hi M Q:=by
 intro H x kf hx m
 subst e
 rw [is_ref] at hx;subst hx
 have hq:∃ xs,SqL X.K H l xs/\IsL H ds xs:=by
  rcases hl with hl | hl
  ·obtain ⟨xs,h1,h2⟩:=m l _ hl;exact ⟨xs,SqL.of h1,h2⟩
  ·exact m l _ hl
 obtain ⟨xs,h1,h2⟩:=hq
 refine ⟨l,xs,rfl,h1,fun p hp kf'=>⟨grow_new hp,.ref p,mset M p (.lst (cutD ds lo hi)),is_ref.mpr rfl,m.lay hp ⟨_,upd_same,(h2.cut lo hi).grow (grow_new hp)⟩,h p (m.fresh hp kf')⟩⟩
theorem rd_I {C:Int->Int->Prop} {g:Int->Int->Int} {i j:Int} (c:C i j) (q:Q (.int (g i j)) M):RD X.K (rI C fun i j=>.int (g i j)) (.int i) (.int j) M Q:=by
 intro H x y kf hx hy m
 rw [is_int] at hx hy;subst hx;subst hy
 exact ⟨i,j,rfl,rfl,c,fun _=>⟨Grow.refl _,_,M,is_int.mpr rfl,m,q⟩⟩
theorem rd_I0 {g:Int->Int->Int} {i j:Int} (q:Q (.int (g i j)) M):RD X.K (rI0 fun i j=>.int (g i j)) (.int i) (.int j) M Q:=by
 intro H x y kf hx hy m
 rw [is_int] at hx hy;subst hx;subst hy
 exact ⟨i,j,rfl,rfl,fun _=>⟨Grow.refl _,_,M,is_int.mpr rfl,m,q⟩⟩
theorem rd_B0 {g:Int->Int->Bool} {i j:Int} (q:Q (.bl (g i j)) M):RD X.K (rI0 fun i j=>.bl (g i j)) (.int i) (.int j) M Q:=by
 intro H x y kf hx hy m
 rw [is_int] at hx hy;subst hx;subst hy
 exact ⟨i,j,rfl,rfl,fun _=>⟨Grow.refl _,_,M,is_bl.mpr rfl,m,q⟩⟩
theorem op_mulB:OpR X (binaryOp .Mult) (rI IntMulOk fun i j=>.int (i * j)):=opI fun _ _ _ _ _ _ _ hc q=>mul_int q hc
def CDivB (i j:Int):Prop:=j≠0/\j.natAbs.log2 < 9000
theorem op_fdivB:OpR X (binaryOp .FloorDiv) (rI CDivB fun i j=>.int (i.fdiv j)):=opI fun _ _ _ _ _ _ _ hc q=>floordiv_int hc.1 q (.inl (PyProof.noPylong_of_log2 hc.2))
def AddD (da db:D) (M:MH) (Q:DK):Prop:=match da,db with
 | .int i,.int j=>Q (.int (i+j)) M
 | .tup xs,.tup ys=>xs≠[]/\xs.length+ys.length<=sizeLine/\Q (.tup (xs++ys)) M
 | .str x,.str y=>x.length+y.length<=sizeLine/\Q (.str (x++y)) M
 | .ref l,.ref k=>∃ xs ys,M l=some (.lst xs)/\M k=some (.lst ys)/\xs.length+ys.length<=sizeLine/\∀ p,M p=none->Q (.ref p) (mset M p (.lst (xs++ys)))
 | _,_=>False
theorem op_addAll:OpR X (binaryOp .Add) (fun x y H Q=>rI0 (fun i j=>.int (i+j)) x y H Q\/(rCatT X.K x y H Q\/((∃ i j,x=.str i/\y=.str j/\i.length+j.length<=sizeLine/\Q (.str (i++j)) H)\/rCat x y H Q))) :=
 op_add.or (op_catT.or (op_add_str.or op_cat))
theorem rd_add {da db:D} (h:AddD da db M Q):RD X.K (fun x y H Q=>rI0 (fun i j=>.int (i+j)) x y H Q\/(rCatT X.K x y H Q\/((∃ i j,x=.str i/\y=.str j/\i.length+j.length<=sizeLine/\Q (.str (i++j)) H)\/rCat x y H Q))) da db M Q:=by
 intro H x y kf hx hy m
 unfold AddD at h
 split at h
 ·rw [is_int] at hx hy;subst hx;subst hy
  exact .inl ⟨_,_,rfl,rfl,fun _=>⟨Grow.refl _,_,M,is_int.mpr rfl,m,h⟩⟩
 ·rename_i xs ys
  obtain ⟨h0,h1,q⟩:=h
  rw [is_tup] at hx hy
  obtain ⟨l,us,rfl,hl,hu⟩:=hx
  obtain ⟨k,ws,rfl,hk,hw⟩:=hy
  refine .inr (.inl ⟨l,k,us,ws,rfl,rfl,SqT.of hl,SqT.of hk,?_,by rw [<- hu.len,<- hw.len];exact h1,?_,?_⟩)
  ·intro z;subst z
   have:=hu.len
   exact h0 (List.eq_nil_of_length_eq_zero (by simpa using this))
  ·intro z _
   subst z
   have hy:ys=[]:=List.eq_nil_of_length_eq_zero (by simpa using hw.len)
   subst hy
   rw [List.append_nil] at q
   exact ⟨Grow.refl _,_,M,is_tup.mpr ⟨l,us,rfl,hl,hu⟩,m,q⟩
  ·intro _ p hp _
   exact ⟨grow_new hp,_,M,is_tup.mpr ⟨p,_,rfl,upd_same,(hu.app hw).grow (grow_new hp)⟩,m.new hp,q⟩
 ·rw [is_str] at hx hy;subst hx;subst hy
  exact .inr (.inr (.inl ⟨_,_,rfl,rfl,h.1,fun _=>⟨Grow.refl _,_,M,is_str.mpr rfl,m,h.2⟩⟩))
 ·rw [is_ref] at hx hy;subst hx;subst hy
  obtain ⟨xs,ys,h1,h2,h3,q⟩:=h
  obtain ⟨us,e1,i1⟩:=m _ _ h1
  obtain ⟨ws,e2,i2⟩:=m _ _ h2
  refine .inr (.inr (.inr ⟨_,_,us,ws,rfl,rfl,e1,e2,by rw [<- i1.len,<- i2.len];exact h3,fun p hp kf'=>⟨grow_new hp,.ref p,mset M p (.lst (xs++ys)),is_ref.mpr rfl,m.lay hp ⟨_,upd_same,(i1.app i2).grow (grow_new hp)⟩,q p (m.fresh hp kf')⟩⟩))
 ·exact h.elim
theorem ev_add (h:EV X G M a fun da Ma=>EV X G Ma b fun db Mb=>AddD da db Mb Q):EV X G M (.BinOp a .Add b pos) Q:=ev_op op_addAll (h.mono fun _ _ h1=>h1.mono fun _ _ h2=>rd_add h2)
theorem ev_sub (h:EV X G M a fun da Ma=>EV X G Ma b fun db Mb=>∃ i j,da=.int i/\db=.int j/\Q (.int (i - j)) Mb):EV X G M (.BinOp a .Sub b pos) Q :=
 ev_op op_sub (h.mono fun _ _ h1=>h1.mono fun _ _ ⟨i,j,e1,e2,q⟩=>by subst e1;subst e2;exact rd_I0 (g:=fun i j=>i - j) q)
theorem ev_mul (h:EV X G M a fun da Ma=>EV X G Ma b fun db Mb=>∃ i j,da=.int i/\db=.int j/\IntMulOk i j/\Q (.int (i * j)) Mb):EV X G M (.BinOp a .Mult b pos) Q :=
 ev_op op_mulB (h.mono fun _ _ h1=>h1.mono fun _ _ ⟨i,j,e1,e2,z,q⟩=>by subst e1;subst e2;exact rd_I (C:=IntMulOk) (g:=fun i j=>i * j) z q)
theorem ev_fdiv (h:EV X G M a fun da Ma=>EV X G Ma b fun db Mb=>∃ i j,da=.int i/\db=.int j/\CDivB i j/\Q (.int (i.fdiv j)) Mb):EV X G M (.BinOp a .FloorDiv b pos) Q :=
 ev_op op_fdivB (h.mono fun _ _ h1=>h1.mono fun _ _ ⟨i,j,e1,e2,z,q⟩=>by subst e1;subst e2;exact rd_I (C:=CDivB) (g:=fun i j=>i.fdiv j) z q)
theorem ev_mod (h:EV X G M a fun da Ma=>EV X G Ma b fun db Mb=>∃ i j,da=.int i/\db=.int j/\j≠0/\Q (.int (i.fmod j)) Mb):EV X G M (.BinOp a .Mod b pos) Q :=
 ev_op op_modN (h.mono fun _ _ h1=>h1.mono fun _ _ ⟨i,j,e1,e2,z,q⟩=>by subst e1;subst e2;exact rd_I (C:=fun _ j=>j≠0) (g:=fun i j=>i.fmod j) z q)
theorem ev_pow (h:EV X G M a fun da Ma=>EV X G Ma b fun db Mb=>∃ i j,da=.int i/\db=.int j/\CPow i j/\Q (.int (i ^ j.toNat)) Mb):EV X G M (.BinOp a .Pow b pos) Q :=
 ev_op op_pow (h.mono fun _ _ h1=>h1.mono fun _ _ ⟨i,j,e1,e2,z,q⟩=>by subst e1;subst e2;exact rd_I (C:=CPow) (g:=fun i j=>i ^ j.toNat) z q)
theorem ev_neg (h:EV X G M a fun da Ma=>∃ i,da=.int i/\Q (.int (-i)) Ma):EV X G M (.UnaryOp .USub a pos) Q :=
 ev_un un_neg (h.mono fun _ Ma ⟨i,e1,q⟩=>by
  subst e1
  intro H x kf hx m
  rw [is_int] at hx;subst hx
  exact ⟨i,rfl,fun _=>⟨Grow.refl _,_,Ma,is_int.mpr rfl,m,q⟩⟩)
theorem ev_lt (h:EV X G M a fun da Ma=>EV X G Ma b fun db Mb=>∃ i j,da=.int i/\db=.int j/\Q (.bl (decide (i < j))) Mb):EV X G M (.Compare a [.Lt] [b] pos) Q :=
 ev_cmp op_lt (nomark _) (h.mono fun _ _ h1=>h1.mono fun _ _ ⟨i,j,e1,e2,q⟩=>by subst e1;subst e2;exact rd_B0 (g:=fun i j=>decide (i < j)) q)
theorem ev_gt (h:EV X G M a fun da Ma=>EV X G Ma b fun db Mb=>∃ i j,da=.int i/\db=.int j/\Q (.bl (decide (j < i))) Mb):EV X G M (.Compare a [.Gt] [b] pos) Q :=
 ev_cmp op_gt (nomark _) (h.mono fun _ _ h1=>h1.mono fun _ _ ⟨i,j,e1,e2,q⟩=>by subst e1;subst e2;exact rd_B0 (g:=fun i j=>decide (j < i)) q)
theorem ev_ge (h:EV X G M a fun da Ma=>EV X G Ma b fun db Mb=>∃ i j,da=.int i/\db=.int j/\Q (.bl (decide (j<=i))) Mb):EV X G M (.Compare a [.GtE] [b] pos) Q :=
 ev_cmp op_ge (nomark _) (h.mono fun _ _ h1=>h1.mono fun _ _ ⟨i,j,e1,e2,q⟩=>by subst e1;subst e2;exact rd_B0 (g:=fun i j=>decide (j<=i)) q)
def EqD (da db:D) (k:Bool):Prop:=match da,db with
 | .int i,.int j=>k=decide (i=j)
 | .bl i,.bl j=>k=decide (i=j)
 | .str i,.str j=>k=decide (i=j)
 | _,_=>False
theorem eqD_val {H:Hp} {da db:D} {k:Bool} {x y:V} (h:EqD da db k) (hx:Is H da x) (hy:Is H db y):scal x y=true/\k=decide (x=y):=by
 unfold EqD at h
 split at h
 ·rw [is_int] at hx hy;subst hx;subst hy;subst h
  exact ⟨rfl,by simp⟩
 ·rw [is_bl] at hx hy;subst hx;subst hy;subst h
  exact ⟨rfl,by simp⟩
 ·rw [is_str] at hx hy;subst hx;subst hy;subst h
  exact ⟨rfl,by simp⟩
 ·exact h.elim
theorem tv_lt {Qb:Bool->MH->Prop} (h:EV X G M a fun da Ma=>EV X G Ma b fun db Mb=>∃ i j,da=.int i/\db=.int j/\Qb (decide (i < j)) Mb):TV X G M (.Compare a [.Lt] [b] pos) Qb :=
 tv_cmp op_lt (nomark _) (h.mono fun _ _ h1=>h1.mono fun _ _ ⟨i,j,e1,e2,q⟩=>by subst e1;subst e2;exact rd_B0 (g:=fun i j=>decide (i < j)) ⟨_,rfl,q⟩)
theorem tv_le {Qb:Bool->MH->Prop} (h:EV X G M a fun da Ma=>EV X G Ma b fun db Mb=>∃ i j,da=.int i/\db=.int j/\Qb (decide (i<=j)) Mb):TV X G M (.Compare a [.LtE] [b] pos) Qb :=
 tv_cmp op_le (nomark _) (h.mono fun _ _ h1=>h1.mono fun _ _ ⟨i,j,e1,e2,q⟩=>by subst e1;subst e2;exact rd_B0 (g:=fun i j=>decide (i<=j)) ⟨_,rfl,q⟩)
theorem tv_gt {Qb:Bool->MH->Prop} (h:EV X G M a fun da Ma=>EV X G Ma b fun db Mb=>∃ i j,da=.int i/\db=.int j/\Qb (decide (j < i)) Mb):TV X G M (.Compare a [.Gt] [b] pos) Qb :=
 tv_cmp op_gt (nomark _) (h.mono fun _ _ h1=>h1.mono fun _ _ ⟨i,j,e1,e2,q⟩=>by subst e1;subst e2;exact rd_B0 (g:=fun i j=>decide (j < i)) ⟨_,rfl,q⟩)
theorem ev_callB {x:Str} {p:Pos} {id:String} {r:List V->Hp->VK->Prop} (hc:CallR X (.builtin id) r) (hm:X.mg x=none) (hv:bootBuiltins x=some (.builtin id)) (h:AV X G M (e :: es) fun ds M1=>RC X.K r ds M1 Q) (hg:Gl X x:=by rfl)
  (hn:x ≠ "__name__" := by decide) (hdb:(x == ("__debug__" : Str))=false:=by decide) (he:starEach (e :: es) X.env=(false,eval e X.env) :: starEach es X.env:=by rfl) (hpl:(backTo pos (starEach es X.env)).any (·.1)=false:=by rfl) :
  EV X G M (.Call (.Name x p) (e :: es) [] pos) Q:=by
 intro pins s σ H I R
 refine wpAny_Call_Name_kw (ld_blt I hg hm hv ?_ hn hdb)
 exact PyProof.Rows.callWith_builtin1 (thn (h pos pins s σ H I R) fun us s1 ⟨vs,H1,ds,M1,I1,r1,g1,i1,R1,q1⟩ =>
  thn (hc pins s1 σ H1 vs us _ I1 r1 (q1 H1 vs (kf_of I1) i1 R1.mem)) fun w s2 h2=>rd_fin g1 R1 h2) he hpl
theorem ev_callTy {x:Str} {p:Pos} {T:String} {r:List V->Hp->VK->Prop} (hc:CallR X (.type T) r) (hm:X.mg x=none) (hv:bootBuiltins x=some (.type T)) (h:AV X G M (e :: es) fun ds M1=>RC X.K r ds M1 Q) (hg:Gl X x:=by rfl)
  (hn:x ≠ "__name__" := by decide) (hdb:(x == ("__debug__" : Str))=false:=by decide) (he:starEach (e :: es) X.env=(false,eval e X.env) :: starEach es X.env:=by rfl) (hpl:(backTo pos (starEach es X.env)).any (·.1)=false:=by rfl) :
  EV X G M (.Call (.Name x p) (e :: es) [] pos) Q:=by
 intro pins s σ H I R
 refine wpAny_Call_Name_kw (ld_blt I hg hm hv ?_ hn hdb)
 exact PyProof.Rows.callWith_type1 (thn (h pos pins s σ H I R) fun us s1 ⟨vs,H1,ds,M1,I1,r1,g1,i1,R1,q1⟩ =>
  thn (hc pins s1 σ H1 vs us _ I1 r1 (q1 H1 vs (kf_of I1) i1 R1.mem)) fun w s2 h2=>rd_fin g1 R1 h2) he hpl
theorem isl1 {H:Hp} {d:D} {vs:List V} (h:IsL H [d] vs):∃ v,vs=[v]/\Is H d v:=by
 rw [isl_cons] at h
 obtain ⟨x,r,e,h1,h2⟩:=h
 rw [isl_nil] at h2;subst h2
 exact ⟨x,e,h1⟩
theorem isl2 {H:Hp} {d d':D} {vs:List V} (h:IsL H [d,d'] vs):∃ v v',vs=[v,v']/\Is H d v/\Is H d' v':=by
 rw [isl_cons] at h
 obtain ⟨x,r,e,h1,h2⟩:=h
 obtain ⟨y,rfl,h3⟩:=isl1 h2
 exact ⟨x,y,e,h1,h3⟩
theorem AV.mono {Qa Qb:List D->MH->Prop} (h:AV X G M es Qa) (k:∀ ds M',Qa ds M'->Qb ds M'):AV X G M es Qb:=fun pos pins s σ H I R =>
 thn (h pos pins s σ H I R) fun us s1 ⟨vs,H1,ds,M1,I1,r1,g1,i1,R1,q1⟩=>⟨vs,H1,ds,M1,I1,r1,g1,i1,R1,k _ _ q1⟩
theorem bootAbs:bootBuiltins "abs" = some (.builtin "abs"):=by decide +kernel
theorem bootMax:bootBuiltins "max" = some (.builtin "max"):=by decide +kernel
theorem bootMin:bootBuiltins "min" = some (.builtin "min"):=by decide +kernel
theorem bootLen:bootBuiltins "len" = some (.builtin "len"):=by decide +kernel
theorem bootTuple:bootBuiltins "tuple" = some (.type "tuple"):=by decide +kernel
theorem ev_abs {p:Pos} (hm:X.mg "abs" = none) (h:AV X G M [e] fun ds M1=>∃ i:Int,ds=[.int i]/\Q (.int (if i < 0 then -i else i)) M1) (hg:Gl X "abs" := by rfl) (he:SeX X e:=by rfl) (hpl:NpX X pos:=by rfl):EV X G M (.Call (.Name "abs" p) [e] [] pos) Q :=
 ev_callB call_abs hm bootAbs (h.mono fun ds M1 ⟨i,e1,q⟩=>fun H xs kf hx m=>by
  subst e1
  obtain ⟨v,rfl,hv⟩:=isl1 hx
  rw [is_int] at hv;subst hv
  exact ⟨i,rfl,fun _=>⟨Grow.refl _,_,M1,is_int.mpr rfl,m,q⟩⟩) hg (by decide) (by decide) he hpl
theorem ev_max2 {p:Pos} {e2:Expr} (hm:X.mg "max" = none) (hc:X.calm=true) (h:AV X G M [e,e2] fun ds M1=>∃ i j:Int,ds=[.int i,.int j]/\Q (.int (if j > i then j else i)) M1) (hg:Gl X "max" := by rfl) (he:starEach [e,e2] X.env=(false,eval e X.env) :: starEach [e2] X.env:=by rfl) (hpl:(backTo pos (starEach [e2] X.env)).any (·.1)=false:=by rfl):EV X G M (.Call (.Name "max" p) [e,e2] [] pos) Q :=
 ev_callB (call_max2 hc) hm bootMax (h.mono fun ds M1 ⟨i,j,e1,q⟩=>fun H xs kf hx m=>by
  subst e1
  obtain ⟨v,w,rfl,hv,hw⟩:=isl2 hx
  rw [is_int] at hv hw;subst hv;subst hw
  exact ⟨i,j,rfl,fun _=>⟨Grow.refl _,_,M1,is_int.mpr rfl,m,q⟩⟩) hg (by decide) (by decide) he hpl
theorem ev_min2 {p:Pos} {e2:Expr} (hm:X.mg "min" = none) (hc:X.calm=true) (h:AV X G M [e,e2] fun ds M1=>∃ i j:Int,ds=[.int i,.int j]/\Q (.int (if j < i then j else i)) M1) (hg:Gl X "min" := by rfl) (he:starEach [e,e2] X.env=(false,eval e X.env) :: starEach [e2] X.env:=by rfl) (hpl:(backTo pos (starEach [e2] X.env)).any (·.1)=false:=by rfl):EV X G M (.Call (.Name "min" p) [e,e2] [] pos) Q :=
 ev_callB (call_min2 hc) hm bootMin (h.mono fun ds M1 ⟨i,j,e1,q⟩=>fun H xs kf hx m=>by
  subst e1
  obtain ⟨v,w,rfl,hv,hw⟩:=isl2 hx
  rw [is_int] at hv hw;subst hv;subst hw
  exact ⟨i,j,rfl,fun _=>⟨Grow.refl _,_,M1,is_int.mpr rfl,m,q⟩⟩) hg (by decide) (by decide) he hpl
def LenD (d:D) (M:MH) (n:Nat):Prop:=match d with
 | .tup ds=>n=ds.length
 | .ref a=>(∃ ds,M a=some (.lst ds)/\n=ds.length)\/(∃ ds,M a=some (.ro ds)/\n=ds.length)
 | _=>False
theorem ev_len {p:Pos} (hm:X.mg "len" = none) (h:AV X G M [e] fun ds M1=>∃ d n,ds=[d]/\LenD d M1 n/\Q (.int (n:Nat)) M1) (hg:Gl X "len" := by rfl) (he:SeX X e:=by rfl) (hpl:NpX X pos:=by rfl):EV X G M (.Call (.Name "len" p) [e] [] pos) Q :=
 ev_callB call_len_seq hm bootLen (h.mono fun ds M1 ⟨d,n,e1,hl,q⟩=>fun H xs kf hx m=>by
  subst e1
  obtain ⟨v,rfl,hv⟩:=isl1 hx
  cases d with
  | tup ds =>
   rw [is_tup] at hv
   obtain ⟨a,ys,rfl,h1,h2⟩:=hv
   have e2:n=ds.length:=hl
   exact ⟨a,ys,rfl,.inr (SqT.of h1),fun _=>⟨Grow.refl _,.int n,M1,is_int.mpr (by rw [e2,h2.len]),m,q⟩⟩
  | ref a =>
   rw [is_ref] at hv;subst hv
   rcases hl with ⟨ds,h1,e2⟩ | ⟨ds,h1,e2⟩
   ·obtain ⟨ys,h3,h4⟩:=m a _ h1
    exact ⟨a,ys,rfl,.inl (SqL.of h3),fun _=>⟨Grow.refl _,.int n,M1,is_int.mpr (by rw [e2,h4.len]),m,q⟩⟩
   ·obtain ⟨ys,h3,h4⟩:=m a _ h1
    exact ⟨a,ys,rfl,.inl h3,fun _=>⟨Grow.refl _,.int n,M1,is_int.mpr (by rw [e2,h4.len]),m,q⟩⟩
  | non=>exact hl.elim
  | bl _=>exact hl.elim
  | int _=>exact hl.elim
  | str _=>exact hl.elim
  | ty _=>exact hl.elim) hg (by decide) (by decide) he hpl
theorem mt_bits:MtR X "int.bit_length" (fun x xs H Q=>∃ i,x=.int i/\xs=[]/\Q (.int (Builtin.Int.intBits i:Nat)) H):=by
 intro pins s σ H x xs v us Q I rx rv h
 obtain ⟨i,rfl,rfl,q⟩:=h
 obtain ⟨t,rfl⟩:=rx
 cases rv
 exact call_int_bit_length ⟨.int _,H,I.tok _,⟨_,rfl⟩,q⟩
theorem ev_bits {apos cpos:Pos} (pa:PlainAttrs "int") (h:EV X G M e fun d M1=>∃ i,d=.int i/\Q (.int (Builtin.Int.intBits i:Nat)) M1) (hbase:attributeBase e "bit_length" X.env (eval e X.env)=eval e X.env:=by rfl) (hline:(apos.endLine == cpos.line)=true:=by rfl) :
  EV X G M (.Call (.Attribute e "bit_length" apos) [] [] cpos) Q:=by
 intro pins s σ H I R
 refine wpAny_Call_method0_late hbase hline (thn (h pins s σ H I R) fun v s1 ⟨x,H1,d,M1,I1,r1,g1,i1,R1,i,e1,q1⟩=>?_)
 subst e1
 rw [is_int] at i1;subst i1
 obtain ⟨h1,h2⟩:=tyV_is (T := "int") I1 r1 rfl
 refine ⟨"int", "int.bit_length",pa,slot_int_bit_length,type_int_bit_length,h1,h2,Calls.callWith_builtin rfl (PySem.evalArgs_none ?_)⟩
 exact thn (mt_bits pins s1 σ H1 (.int i) [] v [] (fun v H'=>v=.int (Builtin.Int.intBits i:Nat)/\H'=H1) I1 r1 .nil ⟨i,rfl,rfl,rfl,rfl⟩) fun u s2 ⟨z,H2,I2,r2,e2,e3⟩=>by
  subst e2;subst e3
  exact ⟨_,H2,.int _,M1,I2,r2,g1,is_int.mpr rfl,R1,q1⟩
theorem op_isB:OpR X (compareOp .Is) (fun x y H Q=>∃ i j,x=.bl i/\y=.bl j/\Q (.bl (i == j)) H):=by
 intro pins s σ H x y v u Q I rx ry h
 obtain ⟨i,j,rfl,rfl,q⟩:=h
 cases rx
 cases ry
 exact is_bool ⟨.bl _,H,I,rfl,q⟩
def IsDv (da db:D) (k:Bool):Prop:=match da,db with
 | .bl i,.bl j=>k=(i == j)
 | .non,.non=>k=true
 | .bl _,.non=>k=false
 | .int _,.non=>k=false
 | .str _,.non=>k=false
 | .tup _,.non=>k=false
 | .ref _,.non=>k=false
 | _,_=>False
theorem isD_val {H:Hp} {da db:D} {k:Bool} {x y:V} (h:IsDv da db k) (hx:Is H da x) (hy:Is H db y):(∃ i j,x=.bl i/\y=.bl j/\k=(i == j))\/(y=.non/\k=decide (x=.non)):=by
 unfold IsDv at h
 split at h
 ·rw [is_bl] at hx hy;subst hx;subst hy;subst h;exact .inl ⟨_,_,rfl,rfl,rfl⟩
 ·rw [is_non] at hx hy;subst hx;subst hy;subst h;exact .inr ⟨rfl,rfl⟩
 ·rw [is_bl] at hx;rw [is_non] at hy;subst hx;subst hy;subst h;exact .inr ⟨rfl,by simp⟩
 ·rw [is_int] at hx;rw [is_non] at hy;subst hx;subst hy;subst h;exact .inr ⟨rfl,by simp⟩
 ·rw [is_str] at hx;rw [is_non] at hy;subst hx;subst hy;subst h;exact .inr ⟨rfl,by simp⟩
 ·rw [is_tup] at hx;rw [is_non] at hy;obtain ⟨a,xs,rfl,_⟩:=hx;subst hy;subst h;exact .inr ⟨rfl,by simp⟩
 ·rw [is_ref] at hx;rw [is_non] at hy;subst hx;subst hy;subst h;exact .inr ⟨rfl,by simp⟩
 ·exact h.elim
theorem op_isAll:OpR X (compareOp .Is) (fun x y H Q=>(∃ i j,x=.bl i/\y=.bl j/\Q (.bl (i == j)) H)\/(y=.non/\Q (.bl (decide (x=.non))) H)):=op_isB.or op_isN
theorem tv_is {Qb:Bool->MH->Prop} (h:EV X G M a fun da Ma=>EV X G Ma b fun db Mb=>∃ k,IsDv da db k/\Qb k Mb):TV X G M (.Compare a [.Is] [b] pos) Qb :=
 tv_cmp op_isAll (nomark _) (h.mono fun _ _ h1=>h1.mono fun _ Mb ⟨k,e1,q⟩=>by
  intro H x y kf hx hy m
  rcases isD_val e1 hx hy with ⟨i,j,rfl,rfl,e⟩ | ⟨rfl,e⟩
  ·exact .inl ⟨i,j,rfl,rfl,fun _=>⟨Grow.refl _,.bl k,Mb,is_bl.mpr (by rw [e]),m,k,rfl,q⟩⟩
  ·exact .inr ⟨rfl,fun _=>⟨Grow.refl _,.bl k,Mb,is_bl.mpr (by rw [e]),m,k,rfl,q⟩⟩)
end
abbrev SpD:=List D->MH->DK->Prop
def liftSp (K:PySem.W.Frag) (sp:SpD):Sp:=fun vs H Q _=>∃ ds M Qd,IsL H ds vs/\MemOk K M H/\sp ds M Qd/\∀ v H' d M',Grow H H'->Is H' d v->MemOk K M' H'->Qd d M'->Q v H'
structure Cal (P:Program) (w:World) (K:PySem.W.Frag) (mg:Str->Option Value) (base:Heap) (k:Nat) (x:Str) (sp:SpD):Prop where
 ex:∃ (f:Addr) (fd:FuncData) (ps:List Str),FnOk P w K mg base CX0 k f fd ps (liftSp K sp)/\mg x=some (.ref f)/\PySem.W.keepIn K (.ref f)=true/\Binds K fd ps []
section
variable {X:Cx} {G:Ga} {M:MH} {a b c e:Expr} {es rest:List Expr} {pos:Pos} {Q:DK}
theorem run_fnD {k:Nat} {f:Addr} {fd:FuncData} {ps:List Str} {sp:SpD} {pins:List (Addr × Obj)} {σ:St} {H0 H:Hp} {s:Shared} {us:List Value} {vs:List V} {ds:List D} (F:FnOk X.prog X.w X.K X.mg X.base CX0 k f fd ps (liftSp X.K sp)) (hr:Room k X.A) (hb:Binds X.K fd ps [])
  (I:Inv X pins σ H s) (R:Rel X G M σ H) (g0:Grow H0 H) (r:Vals vs us) (i:IsL H ds vs) (h:sp ds M Q):wpAny (model X.prog X.w) X.A (call (.ref f) us) (EPD X pins σ G H0 Q) X.xe s:=by
 have h':liftSp X.K sp (vs++[]) H (fun v H'=>∃ d M',Grow H H'/\Is H' d v/\MemOk X.K M' H'/\Q d M') E0 :=
  ⟨ds,M,Q,by rw [List.append_nil];exact i,R.mem,h,fun v H' d M' g i m q=>⟨d,M',g,i,m,q⟩⟩
 exact thn (run_fn (dvs:=[]) (ds:=[]) F hr hb .nil pass0 I r h') fun u s' ⟨v,H',I',r',d,M',g,i',m,q⟩=>⟨v,H',d,M',I',r',g0.trans g,i',R.to g m,q⟩
theorem ev_call {k:Nat} {x:Str} {p:Pos} {sp:SpD} (C:Cal X.prog X.w X.K X.mg X.base k x sp) (hr:Room k X.A) (h:AV X G M (e :: es) fun ds M1=>sp ds M1 Q) (hg:Gl X x:=by rfl) (hdb:(x == ("__debug__" : Str))=false:=by decide)
  (he:starEach (e :: es) X.env=(false,eval e X.env) :: starEach es X.env:=by rfl) (hpl:(backTo pos (starEach es X.env)).any (·.1)=false:=by rfl):EV X G M (.Call (.Name x p) (e :: es) [] pos) Q:=by
 intro pins s σ H I R
 obtain ⟨f,fd,ps,F,hm,hk,hb⟩:=C.ex
 refine wpAny_Call_Name_kw (ld_glob I hg hm ?_ hdb)
 refine PySem.W.callWith_K (h₀:=X.base) I.ok.mod.kin hk (thn (h pos pins s σ H I R) fun us s1 ⟨vs,H1,ds,M1,I1,r1,g1,i1,R1,q1⟩=>⟨I1.kIn,?_⟩) he hpl
 exact run_fnD F hr hb I1 R1 g1 r1 i1 q1
variable {st:Stmt} {sts:List Stmt} {E:EndsD}
theorem let_X {X:Cx} {G:Ga} {M:MH} {sts:List Stmt} {E:EndsD} (h:let Y:=X;EXs Y G M sts E):EXs X G M sts E:=h
theorem let_E {X:Cx} {G:Ga} {M:MH} {sts:List Stmt} {E:EndsD} (h:let F:=E;EXs X G M sts F):EXs X G M sts E:=h
theorem exs_nil (q:E.nx G M):EXs X G M [] E:=fun pins s σ H I R=>wpAny_execs_nil ⟨σ,H,G,M,I,Grow.refl _,R,q⟩
theorem exs_cons (h:EX X G M st { E with nx:=fun G' M'=>EXs X G' M' sts E }):EXs X G M (st :: sts) E:=by
 intro pins s σ H I R
 refine wpAny_execs_cons (thn (h pins s σ H I R) fun f s1 q=>?_)
 cases f with
 | next =>
  obtain ⟨σ',H',G',M',I',g',R',q⟩:=q
  exact thn (q pins s1 σ' H' I' R') fun f s2 h2=>h2.grow g'
 | ret v=>exact q
 | brk=>exact q
 | cont=>exact q
theorem exs_one (h:EX X G M st E):EXs X G M [st] E:=by
 intro pins s σ H I R
 refine wpAny_execs_cons (thn (h pins s σ H I R) fun f s1 q=>?_)
 cases f with
 | next=>exact wpAny_execs_nil q
 | ret v=>exact q
 | brk=>exact q
 | cont=>exact q
theorem ex_ret (h:EV X G M e E.rt):EX X G M (.Return (some e) pos) E:=fun pins s σ H I R =>
 wpAny_Return_some (thn (h pins s σ H I R) fun v s1 ⟨x,H1,d,M1,I1,r1,g1,i1,R1,q1⟩=>⟨x,σ,H1,d,M1,I1,r1,g1,i1,R1.mem,q1⟩)
theorem ex_expr (h:EV X G M e fun _ M1=>E.nx G M1) (hs:swapsWith e none pos.line X.env=pure false:=by rfl):EX X G M (.Expr e pos) E:=fun pins s σ H I R =>
 wpAny_Expr_any (thn (h pins s σ H I R) fun v s1 ⟨x,H1,d,M1,I1,r1,g1,i1,R1,q1⟩=>⟨σ,H1,G,M1,I1,g1,R1,q1⟩) I.quiet hs
theorem ex_if {A B:List Stmt} (h:TV X G M c fun k M1=>if k=true then EXs X G M1 A E else EXs X G M1 B E):EX X G M (.If c A B pos) E:=by
 intro pins s σ H I R
 refine wpAny_If (thn (h pins s σ H I R) fun d s1 ⟨H1,M1,I1,g1,R1,q1⟩=>?_)
 cases d with
 | true=>exact thn (q1 pins s1 σ H1 I1 R1) fun f s2 h2=>h2.grow g1
 | false=>exact thn (q1 pins s1 σ H1 I1 R1) fun f s2 h2=>h2.grow g1
theorem ex_set (i:Nat) {x:Str} {pos':Pos} (hN:X.N.Nodup) (h:EV X G M e fun d M1=>E.nx (G.set i (some d)) M1) (hi:X.N[i]?=some x:=by rfl) (hx:Loc X.env.scope x:=by exact Or.inl rfl) (hs:swapsWith e (some (.Name x pos')) pos.line X.env=pure false:=by rfl)
  (hf:X.fn x=true\/X.env.scope.names.lookup x=some .local:=by first | exact .inl rfl | exact .inr rfl | assumption):EX X G M (.Assign [.Name x pos'] e pos) E:=by
 intro pins s σ H I R
 refine wpAny_Assign_Name (thn (h pins s σ H I R) fun v s1 ⟨y,H1,d,M1,I1,r1,g1,i1,R1,q1⟩=>?_) hs
 have hl:i < σ.length:=by rw [I1.len];exact (List.getElem?_eq_some_iff.mp hi).1
 exact store_ok I1 hN hi hx r1 (fun s2 I2=>⟨_,H1,_,M1,I2,g1,R1.set hl i1,q1⟩) hf
theorem ex_par (i j:Nat) {x y:Str} {px py pt:Pos} {kt k2 pt2} (hc:X.calm=true) (hN:X.N.Nodup) (h:AV X G M [a,b] fun ds M1=>∃ d d',ds=[d,d']/\E.nx ((G.set i (some d)).set j (some d')) M1)
  (hw:swappedStores [.Tuple [.Name x px,.Name y py] kt pt] (.Tuple [a,b] k2 pt2) X.env=pure (some [x,y]))
  (hi:X.N[i]?=some x:=by rfl) (hj:X.N[j]?=some y:=by rfl) (hij:i≠j:=by decide) (hx:X.env.scope.names.lookup x=some .local:=by rfl) (hy:X.env.scope.names.lookup y=some .local:=by rfl)
  (hs:swapsWithSole [.Tuple [.Name x px,.Name y py] kt pt] (.Tuple [a,b] k2 pt2) pos.line X.env=pure false:=by rfl) :
  EX X G M (.Assign [.Tuple [.Name x px,.Name y py] kt pt] (.Tuple [a,b] k2 pt2) pos) E:=by
 intro pins s σ H I R
 have key:PA X [a,b] (fun σ' H' Q'=>Rel X G M σ' H'/\∀ vs H1 ds M1,Grow H' H1->IsL H1 ds vs->Rel X G M1 σ' H1->(∃ d d',ds=[d,d']/\E.nx ((G.set i (some d)).set j (some d')) M1)->Q' vs H1):=by
  intro pos pins s σ H Q' I ⟨R,k⟩
  exact thn (h pos pins s σ H I R) fun us s1 ⟨vs,H1,ds,M1,I1,r1,g1,i1,R1,q1⟩=>⟨vs,H1,I1,r1,k vs H1 ds M1 g1 i1 R1 q1⟩
 have hl:∀ k x,X.N[k]?=some x->k < σ.length:=fun k x hk=>by rw [I.len];exact (List.getElem?_eq_some_iff.mp hk).1
 refine thn (ps_par (pos:=pos) hc hN hi hj hij hx hy key hw hs pins s σ H { nx:=fun σ' H'=>∃ G' M',Grow H H'/\Rel X G' M' σ' H'/\E.nx G' M',rt:=fun _ _=>False } I ⟨R,fun vs H1 ds M1 g1 i1 R1 ⟨d,d',e1,q⟩=>?_⟩) fun f s1 q=>?_
 ·subst e1
  obtain ⟨v,v',e2,h1,h2⟩:=isl2 i1
  refine ⟨v,v',e2,_,M1,g1,(R1.set (hl i x hi) h1).set (by rw [List.length_set];exact hl j y hj) h2,q⟩
 ·cases f with
  | next=>obtain ⟨σ',H',I',G',M',g,R',q⟩:=q;exact ⟨σ',H',G',M',I',g,R',q⟩
  | brk=>obtain ⟨_,_,_,z⟩:=q;exact z.elim
  | cont=>obtain ⟨_,_,_,z⟩:=q;exact z.elim
  | ret v=>obtain ⟨_,_,_,_,_,z⟩:=q;exact z.elim
theorem ex_while {body:List Stmt} (Iv:Ga->MH->Prop) (μ:Ga->MH->Nat) (hp:PassesOwn (model X.prog X.w) X.A X.env X.xe) (h0:Iv G M)
  (step:∀ G M,Iv G M->TV X G M c fun k M1=>if k=true then EXs X G M1 body { nx:=fun G' M'=>Iv G' M'/\μ G' M' < μ G M,ct:=fun G' M'=>Iv G' M'/\μ G' M' < μ G M,bk:=E.nx,rt:=E.rt } else E.nx G M1) :
  EX X G M (.While c body [] pos) E:=by
 intro pins s σ H I R
 refine wpAny_While (codeAny_whileLoop (fun n s'=>∃ σ' H' G' M',Inv X pins σ' H' s'/\Grow H H'/\Rel X G' M' σ' H'/\Iv G' M'/\n=μ G' M') ?_ (μ G M) ⟨σ,H,G,M,I,Grow.refl _,R,h0,rfl⟩)
 rintro n s1 ⟨σ1,H1,G1,M1,I1,g1,R1,w1,rfl⟩
 refine wpAny_passesOwn hp (thn (step G1 M1 w1 pins s1 σ1 H1 I1 R1) fun k s2 ⟨H2,M2,I2,g2,R2,q2⟩=>?_)
 cases k with
 | true =>
  rw [if_pos rfl]
  refine wpAny_passesOwn hp (thn (q2 pins s2 σ1 H2 I2 R2) fun f s3 q3=>?_)
  cases f with
  | next =>
   obtain ⟨σ3,H3,G3,M3,I3,g3,R3,w3,lt⟩:=q3
   exact ⟨_,lt,σ3,H3,G3,M3,I3,(g1.trans g2).trans g3,R3,w3,rfl⟩
  | cont =>
   obtain ⟨σ3,H3,G3,M3,I3,g3,R3,w3,lt⟩:=q3
   exact ⟨_,lt,σ3,H3,G3,M3,I3,(g1.trans g2).trans g3,R3,w3,rfl⟩
  | brk=>exact SPD.grow (f:=.brk) (E:={ E with bk:=E.nx }) (g1.trans g2) q3
  | ret v=>exact SPD.grow (f:=.ret v) (E:=E) (g1.trans g2) q3
 | false =>
  rw [if_neg Bool.false_ne_true]
  exact wpAny_execs_nil ⟨σ1,H2,G1,M2,I2,g1.trans g2,R2,q2⟩
def GV (X:Cx) (G:Ga) (M:MH) (tg:Expr) (d:D) (Q:Ga->MH->Prop):Prop :=
 ∀ (pins:List (Addr × Obj)) (s:Shared) (σ:St) (H:Hp) (v:V) (u:Value),Inv X pins σ H s->Rel X G M σ H->RelV v u->Is H d v ->
  wpAny (model X.prog X.w) X.A (assign tg X.env u) (fun _ s'=>∃ σ' H' G' M',Inv X pins σ' H' s'/\Grow H H'/\Rel X G' M' σ' H'/\Q G' M') X.xe s
theorem gv_name (i:Nat) {x:Str} {d:D} {Qg:Ga->MH->Prop} (hN:X.N.Nodup) (q:Qg (G.set i (some d)) M) (hi:X.N[i]?=some x:=by rfl) (hx:Loc X.env.scope x:=by exact Or.inl rfl) (hf:X.fn x=true\/X.env.scope.names.lookup x=some .local:=by first | exact .inl rfl | exact .inr rfl | assumption) :
  GV X G M (.Name x pos) d Qg:=by
 intro pins s σ H v u I R r i1
 have hl:i < σ.length:=by rw [I.len];exact (List.getElem?_eq_some_iff.mp hi).1
 exact wpAny_assign_Name (store_ok I hN hi hx r (fun s' I'=>⟨_,H,_,M,I',Grow.refl _,R.set hl i1,q⟩) hf)
def GVs (X:Cx) (G:Ga) (M:MH) (ts:List Expr) (ds:List D) (Q:Ga->MH->Prop):Prop :=
 ∀ (pins:List (Addr × Obj)) (s:Shared) (σ:St) (H:Hp) (vs:List V) (us:List Value),Inv X pins σ H s->Rel X G M σ H->Vals vs us->IsL H ds vs ->
  wpAny (model X.prog X.w) X.A (assignInOrder ((assignEach ts X.env).map (·.2)) us) (fun _ s'=>∃ σ' H' G' M',Inv X pins σ' H' s'/\Grow H H'/\Rel X G' M' σ' H'/\Q G' M') X.xe s
theorem gvs_nil {Qg:Ga->MH->Prop} (q:Qg G M):GVs X G M [] [] Qg:=by
 intro pins s σ H vs us I R r i
 rw [isl_nil] at i;subst i
 cases r
 exact assignInOrder_nil ⟨σ,H,G,M,I,Grow.refl _,R,q⟩
theorem gvs_cons {tg:Expr} {ts:List Expr} {d:D} {ds:List D} {Qg:Ga->MH->Prop} (h:GV X G M tg d fun G1 M1=>GVs X G1 M1 ts ds Qg) (hs:(assignEach (tg :: ts) X.env).map (·.2)=assign tg X.env :: (assignEach ts X.env).map (·.2):=by rfl):GVs X G M (tg :: ts) (d :: ds) Qg:=by
 intro pins s σ H vs us I R r i
 rw [isl_cons] at i
 obtain ⟨x,xs,rfl,i1,i2⟩:=i
 cases r with
 | cons r rr =>
  rw [hs]
  refine assignInOrder_cons (thn (h pins s σ H _ _ I R r i1) fun _ s1 ⟨σ1,H1,G1,M1,I1,g1,R1,q1⟩=>?_)
  exact thn (q1 pins s1 σ1 H1 _ _ I1 R1 rr (i2.grow g1)) fun _ s2 ⟨σ2,H2,G2,M2,I2,g2,R2,q2⟩=>⟨σ2,H2,G2,M2,I2,g1.trans g2,R2,q2⟩
theorem gv_tup {ts:List Expr} {k:Nat} {ds:List D} {Qg:Ga->MH->Prop} (hc:X.calm=true) (h:GVs X G M ts ds Qg) (hn:(assignEach ts X.env).length=ds.length:=by rfl) (hst:(assignEach ts X.env).findIdx? (·.1)=none:=by rfl):GV X G M (.Tuple ts k pos) (.tup ds) Qg:=by
 intro pins s σ H v u I R r i
 rw [is_tup] at i
 obtain ⟨a,xs,rfl,h1,h2⟩:=i
 cases r
 obtain ⟨its,rv,ht,hz⟩:=I.tuple (SqT.of h1)
 refine assign_Tuple_tuple (I.ok.hd hc) ht (by simp [hn,h2.len,rv.length]) hst fun h' hx=>?_
 have I1:Inv X pins σ H { s with heap:=h' }:=I.kept (t':=s.toks) fun b o e=>hx b o (Nat.ne_of_lt (Heap.lt_size e)) e
 exact h pins _ σ H xs _ I1 R (by simpa using rv) h2
theorem ex_asg {tg:Expr} (h:EV X G M e fun d M1=>GV X G M1 tg d E.nx) (hs:swapsWithSole [tg] e pos.line X.env=pure false:=by rfl) (hw:swappedStores [tg] e X.env=pure none:=by rfl)
  (h1:(assignEach [tg] X.env).map (·.2)=[assign tg X.env]:=by rfl):EX X G M (.Assign [tg] e pos) E:=by
 intro pins s σ H I R
 refine wpAny_Assign_stores (thn (h pins s σ H I R) fun v s1 ⟨x,H1,d,M1,I1,r1,g1,i1,R1,q1⟩=>?_) hs hw
 rw [h1]
 exact thn (q1 pins s1 σ H1 x v I1 R1 r1 i1) fun _ s2 ⟨σ2,H2,G2,M2,I2,g2,R2,q2⟩=>⟨σ2,H2,G2,M2,I2,g1.trans g2,R2,q2⟩
theorem ex_for {tg iter:Expr} {body:List Stmt} {wi:TI} (hp:PassesOwn (model X.prog X.w) X.A X.env X.xe) (hc:X.calm=true) (hi:PI X tg iter wi)
  (h:∀ σ H,KF X.K H->Rel X G M σ H->wi σ H fun J H1=>Grow H H1/\∃ (M1:MH) (n:Nat) (Iv:Nat->Ga->MH->Prop),Rel X G M1 σ H1/\Iv 0 G M1 /\
   ∀ i G' M',i<=n->Iv i G' M'->(i=n->E.nx G' M')/\(∀ σ' H',Grow H1 H'->Rel X G' M' σ' H'->(i=n->J.stop i H')/\(i < n->J.go i H'/\∀ x H2,J.yld i H' x H2->Grow H' H2/\∃ d M2,Is H2 d x/\MemOk X.K M2 H2 /\
    GV X G' M2 tg d fun G3 M3=>EXs X G3 M3 body { nx:=Iv (i+1),ct:=Iv (i+1),bk:=E.nx,rt:=E.rt })))
  (hs:∀ x,foldedSetIterable iter X.env x=pure x:=by intro _;rfl):EX X G M (.For tg iter body [] pos) E:=by
 intro pins s σ H I R
 refine wpAny_For (thn (hi pins s σ H _ I (h σ H (kf_of I) R)) fun v s1 h1=>thn h1 fun itv s2 h2=>?_) hs
 obtain ⟨it,fp,tn,J,H2,e,I2,T,st2,f2,g2,M2,n,Iv,R2,w0,turn⟩:=h2
 subst e
 have stat:∀ {H':Hp},(∀ b∈fp,H' b=none)->∀ b∈fp,FpOk X pins H' b:=fun hn b hb=>⟨hn b hb,(f2 b hb).2⟩
 refine codeAny_forLoop_any (fun m s'=>∃ i σ' H' G' M',Inv X pins σ' H' s'/\Grow H2 H'/\Rel X G' M' σ' H'/\tn i s'.heap/\(∀ b∈fp,H' b=none)/\i<=n/\m=n - i/\Iv i G' M') ?_ n ⟨0,σ,H2,G,M2,I2,Grow.refl _,R2,st2,fun b hb=>(f2 b hb).1,Nat.zero_le _,rfl,w0⟩
 rintro m s3 ⟨i,σ3,H3,G3,M3,I3,g3,R3,st3,fr3,hin,rfl,w3⟩
 obtain ⟨tn1,tn2⟩:=turn i G3 M3 hin w3
 obtain ⟨stop,go⟩:=tn2 σ3 H3 g3 R3
 by_cases hlt:i < n
 ·obtain ⟨go,step⟩:=go hlt
  refine wpAny_passesOwn hp (thn (T.item X rfl rfl rfl hc i pins s3 σ3 H3 X.xe I3 (stat fr3) st3 go) fun r s4 ⟨u,hr,h4⟩=>?_)
  subst hr
  refine wpAny_passesOwn hp (thn h4 fun _ s5 ⟨x,H5,I5,r5,y5,st5,fr5⟩=>?_)
  have I5':=I5.pinned (stat fr5) (T.obj _ _ st5)
  obtain ⟨g5,d,M5,i5,m5,gv⟩:=step x H5 y5
  refine wpAny_passesOwn hp (thn (gv _ s5 σ3 H5 x u I5' (R3.to g5 m5) r5 i5) fun _ s6 ⟨σ6,H6,G6,M6,I6,g6,R6,q6⟩=>?_)
  refine wpAny_passesOwn hp (thn (q6 _ s6 σ6 H6 I6 R6) fun f s7 q7=>?_)
  have gg:Grow H2 H6:=(g3.trans g5).trans g6
  have again:∀ {σ7:St} {H7:Hp} {G7:Ga} {M7:MH},Inv X (pins++pinsAt fp s5.heap) σ7 H7 s7->Grow H6 H7->Rel X G7 M7 σ7 H7->Iv (i+1) G7 M7 ->
    ∃ m,m < n - i/\∃ i σ' H' G' M',Inv X pins σ' H' s7/\Grow H2 H'/\Rel X G' M' σ' H'/\tn i s7.heap/\(∀ b∈fp,H' b=none)/\i<=n/\m=n - i/\Iv i G' M':=fun {σ7 H7 G7 M7} I7 g7 R7 n7=>by
   refine ⟨n - (i+1),by omega,i+1,σ7,H7,G7,M7,I7.unpinned,gg.trans g7,R7,T.keep _ _ _ st5 fun b hb o e=>(I7.pin (b,o) (List.mem_append_right _ (List.mem_append_right _ (mem_pinsAt hb e)))).1,fun b hb=>?_,hlt,rfl,n7⟩
   obtain ⟨o,e,d⟩:=T.obj _ _ st5 b hb
   exact (I7.pin (b,o) (List.mem_append_right _ (List.mem_append_right _ (mem_pinsAt hb e)))).2.1
  cases f with
  | next=>obtain ⟨σ7,H7,G7,M7,I7,g7,R7,n7⟩:=q7;exact again I7 g7 R7 n7
  | cont=>obtain ⟨σ7,H7,G7,M7,I7,g7,R7,n7⟩:=q7;exact again I7 g7 R7 n7
  | brk=>obtain ⟨σ7,H7,G7,M7,I7,g7,R7,q7⟩:=q7;exact ⟨σ7,H7,G7,M7,I7.unpinned,g2.trans (gg.trans g7),R7,q7⟩
  | ret v=>obtain ⟨x7,σ7,H7,d7,M7,I7,r7,g7,i7,R7,q7⟩:=q7;exact ⟨x7,σ7,H7,d7,M7,I7.unpinned,r7,g2.trans (gg.trans g7),i7,R7,q7⟩
 ·have e:i=n:=by omega
  subst e
  refine wpAny_passesOwn hp (thn (T.done X rfl rfl rfl hc i pins s3 σ3 H3 X.xe I3 (stat fr3) st3 (stop rfl)) fun r s4 ⟨hr,I4⟩=>?_)
  subst hr
  exact wpAny_execs_nil ⟨σ3,H3,G3,M3,I4,g2.trans g3,R3,tn1 rfl⟩
end
section
variable {X:Cx} {G:Ga} {M:MH} {a b c e tg iter:Expr} {es rest:List Expr} {body:List Stmt} {pos:Pos} {Q:DK} {E:EndsD}
def tD (X:Cx) (G:Ga) (e:Expr):TE:=fun σ H Q=>∃ M Qd,Rel X G M σ H/\EV X G M e Qd/\∀ v H' d M',KF X.K H'->Grow H H'->Is H' d v->Rel X G M' σ H'->Qd d M'->Q v H'
theorem pe_D:PE X e (tD X G e):=by
 intro pins s σ H Q I ⟨M,Qd,R,h,k⟩
 exact thn (h pins s σ H I R) fun u s' ⟨v,H',d,M',I',r,g,i,R',q⟩=>⟨v,H',I',r,k v H' d M' (kf_of I') g i R' q⟩
def tAD (X:Cx) (G:Ga) (es:List Expr):TA:=fun σ H Q=>∃ M Qd,Rel X G M σ H/\AV X G M es Qd/\∀ vs H' ds M',KF X.K H'->Grow H H'->IsL H' ds vs->Rel X G M' σ H'->Qd ds M'->Q vs H'
theorem pa_D:PA X es (tAD X G es):=by
 intro pos pins s σ H Q I ⟨M,Qd,R,h,k⟩
 exact thn (h pos pins s σ H I R) fun u s' ⟨v,H',d,M',I',r,g,i,R',q⟩=>⟨v,H',I',r,k v H' d M' (kf_of I') g i R' q⟩
theorem ex_for_list (hp:PassesOwn (model X.prog X.w) X.A X.env X.xe) (hc:X.calm=true)
  (h:EV X G M iter fun d M1=>∃ (l:Addr) (ds:List D) (Iv:Nat->Ga->MH->Prop),d=.ref l/\(M1 l=some (.lst ds)\/M1 l=some (.ro ds))/\Iv 0 G M1/\(∀ i G' M',i<=ds.length->Iv i G' M'->M' l=M1 l) /\
   (∀ i x G' M',ds[i]?=some x->Iv i G' M'->GV X G' M' tg x fun G3 M3=>EXs X G3 M3 body { nx:=Iv (i+1),ct:=Iv (i+1),bk:=E.nx,rt:=E.rt })/\(∀ G' M',Iv ds.length G' M'->E.nx G' M'))
  (hs:∀ x,foldedSetIterable iter X.env x=pure x:=by intro _;rfl):EX X G M (.For tg iter body [] pos) E:=by
 refine ex_for hp hc (pi_list (pe_D (G:=G))) (fun σ H kf R=>?_) hs
 refine ⟨M,_,R,h,fun v H' d M' kf' g i R' q=>?_⟩
 obtain ⟨l,ds,Iv,e,hl,h0,keep,step,fin⟩:=q
 subst e
 rw [is_ref] at i;subst i
 have sq:∀ {H2:Hp} {M2:MH},MemOk X.K M2 H2->M2 l=M' l->∃ xs,SqL X.K H2 l xs/\IsL H2 ds xs:=fun {H2 M2} m e=>by
  rcases hl with hl | hl
  ·obtain ⟨xs,h1,h2⟩:=m l _ (e.trans hl);exact ⟨xs,SqL.of h1,h2⟩
  ·exact m l _ (e.trans hl)
 obtain ⟨xs0,hx0,hi0⟩:=sq R'.mem rfl
 refine ⟨l,rfl,⟨xs0,hx0⟩,g,M',ds.length,Iv,R',h0,fun i G2 M2 hin w2=>⟨fun e=>fin G2 M2 (by rw [<- e];exact w2),fun σ2 H2 _ R2=>?_⟩⟩
 obtain ⟨xs,hx,hxi⟩:=sq R2.mem (keep i G2 M2 hin w2)
 have hlen:=hxi.len
 refine ⟨fun e=>⟨xs,hx,by omega⟩,fun hlt=>⟨⟨xs,xs[i]'(by omega),hx,by simp⟩,fun x H3 y=>?_⟩⟩
 obtain ⟨e,y⟩:=y
 subst e
 have e1:=y xs hx
 obtain ⟨d,e2,i2⟩:=hxi.get' e1
 exact ⟨Grow.refl _,d,M2,i2,R2.mem,step i d G2 M2 e2 w2⟩
theorem ex_for_tup (hp:PassesOwn (model X.prog X.w) X.A X.env X.xe) (hc:X.calm=true)
  (h:EV X G M iter fun d M1=>∃ (ds:List D) (Iv:Nat->Ga->MH->Prop),d=.tup ds/\Iv 0 G M1 /\
   (∀ i x G' M',ds[i]?=some x->Iv i G' M'->GV X G' M' tg x fun G3 M3=>EXs X G3 M3 body { nx:=Iv (i+1),ct:=Iv (i+1),bk:=E.nx,rt:=E.rt })/\(∀ G' M',Iv ds.length G' M'->E.nx G' M'))
  (hs:∀ x,foldedSetIterable iter X.env x=pure x:=by intro _;rfl):EX X G M (.For tg iter body [] pos) E:=by
 refine ex_for hp hc (pi_tup (pe_D (G:=G))) (fun σ H kf R=>?_) hs
 refine ⟨M,_,R,h,fun v H' d M' kf' g i R' q=>?_⟩
 obtain ⟨ds,Iv,e,h0,step,fin⟩:=q
 subst e
 rw [is_tup] at i
 obtain ⟨l,xs,rfl,hx,hxi⟩:=i
 have hlen:=hxi.len
 refine ⟨l,rfl,⟨xs,SqT.of hx⟩,g,M',ds.length,Iv,R',h0,fun i G2 M2 hin w2=>⟨fun e=>fin G2 M2 (by rw [<- e];exact w2),fun σ2 H2 g2 R2=>?_⟩⟩
 have hx2:SqT X.K H2 l xs:=SqT.of (g2 _ _ hx)
 refine ⟨fun e=>⟨xs,hx2,by omega⟩,fun hlt=>⟨⟨xs,xs[i]'(by omega),hx2,by simp⟩,fun x H3 y=>?_⟩⟩
 obtain ⟨e,y⟩:=y
 subst e
 have e1:=y xs hx2
 obtain ⟨d,e2,i2⟩:=(hxi.grow g2).get' e1
 exact ⟨Grow.refl _,d,M2,i2,R2.mem,step i d G2 M2 e2 w2⟩
theorem ex_for_range {p:Pos} (hp:PassesOwn (model X.prog X.w) X.A X.env X.xe) (hc:X.calm=true) (hm:X.mg "range" = none)
  (h:AV X G M [e] fun ds M1=>∃ (n:Int) (Iv:Nat->Ga->MH->Prop),ds=[.int n]/\-(2 ^ 62)<=n/\n < 2 ^ 62/\Iv 0 G M1 /\
   (∀ (i:Nat) G' M',i < n.toNat->Iv i G' M'->GV X G' M' tg (.int i) fun G3 M3=>EXs X G3 M3 body { nx:=Iv (i+1),ct:=Iv (i+1),bk:=E.nx,rt:=E.rt })/\(∀ G' M',Iv n.toNat G' M'->E.nx G' M'))
  (hg:Gl X "range" := by rfl) (hse:starEach [e] X.env=[(false,eval e X.env)]:=by rfl) (hs:∀ x,foldedSetIterable (.Call (.Name "range" p) [e] [] pos) X.env x=pure x:=by intro _;rfl) {pos':Pos}:EX X G M (.For tg (.Call (.Name "range" p) [e] [] pos) body [] pos') E:=by
 refine ex_for hp hc (pi_range1 hg hm (pa_D (G:=G)) hse) (fun σ H kf R=>?_) hs
 refine ⟨M,_,R,h,fun vs H' ds M' kf' g i R' q=>?_⟩
 obtain ⟨n,Iv,e,h1,h2,h0,step,fin⟩:=q
 subst e
 obtain ⟨v,rfl,hv⟩:=isl1 i
 rw [is_int] at hv;subst hv
 refine ⟨n,rfl,h1,h2,g,M',n.toNat,Iv,R',h0,fun i G2 M2 hin w2=>⟨fun e=>fin G2 M2 (by rw [<- e];exact w2),fun σ2 H2 _ R2=>⟨fun e=>?_,fun hlt=>⟨hlt,fun x H3 y=>?_⟩⟩⟩⟩
 ·show n.toNat<=i
  omega
 ·obtain ⟨e,y⟩:=y
  subst e;subst y
  refine ⟨Grow.refl _,.int i,M2,is_int.mpr (by simp),R2.mem,step i G2 M2 hlt w2⟩
def startG (N:List Str) (ds:List D):Ga:=ds.map some++List.replicate (N.length - ds.length) none
theorem rel_start {X:Cx} {N:List Str} {ds:List D} {vs:List V} {M:MH} {H:Hp} (i:IsL H ds vs) (m:MemOk X.K M H):Rel X (startG N ds) M (L2.start N vs) H:=by
 refine ⟨fun j d e=>?_,m⟩
 have hl:=i.len
 unfold startG at e
 unfold L2.start
 by_cases hj:j < ds.length
 ·rw [List.getElem?_append_left (by simpa using hj),List.getElem?_map] at e
  cases q:ds[j]? with
  | none=>rw [q] at e;cases e
  | some d' =>
   rw [q] at e
   have e':d'=d:=by simpa using e
   subst e'
   obtain ⟨v,e2,h⟩:=i.get q
   refine ⟨v,?_,h⟩
   rw [List.getElem?_append_left (by simp;omega),List.getElem?_map,e2]
   rfl
 ·rw [List.getElem?_append_right (by simpa using hj),List.getElem?_replicate] at e
  split at e<;>cases e
end
section
variable {P:Program} {w:World} {K:PySem.W.Frag} {mg:Str->Option Value} {base:Heap}
theorem fn_D {x qual:Str} {st:Stmt} {f:Addr} {fd:FuncData} {N ps:List Str} {k:Nat} {sp:SpD} (F:Fun K x qual st f fd) (S:FnScope N ps (defScope st)) (len:∀ ds M Q,sp ds M Q->ds.length=ps.length)
  (hbody:∀ (cdv:Value) (A:Around) (outer:List Env) (s:Shared) (H:Hp) (EE:XK) (ds:List D) (M:MH) (Q:DK),Room k (A.deeper (envOfC qual (defScope st) s.heap.objs.size f cdv))->sp ds M Q ->
   EXs (cxOf CX0 P w K mg base N qual (defScope st) f cdv A outer s H EE).nox (startG N ds) M (defBody st) { nx:=fun _ M'=>Q .non M',rt:=Q }):FnOk P w K mg base CX0 (k+1) f fd ps (liftSp K sp):=by
 refine F.ok S (fun vs H Q E h=>?_) (fun cdv A outer s H vs Q E hr h=>?_)
 ·obtain ⟨ds,M,Qd,i,_,h,_⟩:=h
  rw [<- i.len];exact len _ _ _ h
 obtain ⟨ds,M,Qd,i,m,h,k⟩:=h
 have B:=hbody cdv A outer s H E ds M Qd hr h
 refine ⟨fun D σ' H'=>σ'=L2.start N vs/\H'=H/\D.nx=(fun _ H'=>Q .non H')/\D.rt=Q,?_,rfl,rfl,rfl,rfl⟩
 intro pins s' σ' H' D I ⟨e1,e2,e3,e4⟩
 subst e1;subst e2
 refine thn (B pins s' _ _ I (rel_start i m)) fun fl s'' q=>?_
 cases fl with
 | next =>
  obtain ⟨σ2,H2,G2,M2,I2,g2,R2,q2⟩:=q
  refine ⟨σ2,H2,I2,?_⟩
  rw [e3]
  exact k .non H2 .non M2 g2 (is_non.mpr rfl) R2.mem q2
 | brk=>obtain ⟨_,_,_,_,_,_,_,z⟩:=q;exact z.elim
 | cont=>obtain ⟨_,_,_,_,_,_,_,z⟩:=q;exact z.elim
 | ret u =>
  obtain ⟨v,σ2,H2,d,M2,I2,r2,g2,i2,m2,q2⟩:=q
  refine ⟨v,σ2,H2,I2,r2,?_⟩
  rw [e4]
  exact k v H2 d M2 g2 i2 m2 q2
theorem cal_D {x:Str} {st:Stmt} {f:Addr} {fd:FuncData} {ps:List Str} {k:Nat} {sp:SpD} (F:Fun K x x st f fd) (G:FnOk P w K mg base CX0 k f fd ps (liftSp K sp)) (b:Binds K fd ps []) (m:mg x=some (.ref f)):Cal P w K mg base k x sp :=
 ⟨f,fd,ps,G,m,F.kp,b⟩
theorem Cal.mono {j k:Nat} {x:Str} {sp:SpD} (C:Cal P w K mg base j x sp) (h:j<=k):Cal P w K mg base k x sp :=
 let ⟨f,fd,ps,F,m,kp,b⟩:=C.ex;⟨f,fd,ps,F.mono h,m,kp,b⟩
end
theorem compLoop_own {prog:Program} {w:World} {A:Around} {R:Result->Shared->Prop} {s:Shared} {elt target iter:Expr} {ifs:List Expr} {scope:Scope} {pos:Pos} {it acc:Value} {env:Env} (I:Nat->Shared->Prop)
  (turn:∀ n s,I n s->wpAny (model prog w) A (pyNext it) (fun r s1=>match r with
   | none=>R (.ok .next) s1
   | some v=>wpAny (model prog w) A (letOwnedTupleGo target it v) (fun _ s2=>wpAny (model prog w) A (assign target env v) (fun _ s2 =>
     wpAny (model prog w) A (forIn ifs true fun c r=>if r=true then do let ok <- isTrue c env (eval c env);pure (ForInStep.yield ok) else pure (ForInStep.yield r)) (fun ok s3 =>
      if ok=true then wpAny (model prog w) A (eval elt env) (fun x s4 =>
       wpAny (model prog w) A (call (.builtin "list.append") [acc,x]) (fun _ s5=>∃ m,m < n/\I m s5) (fun _ _=>False) s4) (fun _ _=>False) s3
      else ∃ m,m < n/\I m s3) (fun _ _=>False) s2) (fun _ _=>False) s2) (fun _ _=>False) s1) (fun _ _=>False) s)
  (n:Nat) (h:I n s) :
  codeAny (model prog w) A (.compLoop (.ListComp elt [⟨target,iter,ifs,0⟩] scope pos) 0 it acc env) R s:=by
 refine codeAny_loop rfl I (fun n s hI=>?_) n h
 show wpAny _ A ((compTurn (.ListComp elt [⟨target,iter,ifs,0⟩] scope pos) 0 it acc env).onRaise (fun x=>do noteFrame x env;theTreesLotGoes x)) _ _ s
 refine wpAny_noted ?_
 rw [compTurn_list]
 have no:∀ {α:Type} {t:Sem α} {Q:α->Shared->Prop} {E:Value->Shared->Prop} {s:Shared},wpAny (model prog w) A t Q (fun _ _=>False) s->wpAny (model prog w) A t Q E s:=fun h=>wpAny_mono h (fun _ _ x=>x) fun _ _ x=>x.elim
 refine wpAny_bind (wpAny_standAt (wpAny_bind (no (thn (turn n s hI) fun r s1 h1=>?_))))
 cases r with
 | none=>exact wpAny_pure h1
 | some v =>
  refine wpAny_bind (no (thn h1 fun _ s2 h2=>?_))
  refine wpAny_bind (no (thn h2 fun _ s3 h3=>wpAny_bind (no (thn h3 fun ok s4 h4=>?_))))
  cases ok with
  | false=>exact wpAny_pure ⟨rfl,h4⟩
  | true =>
   exact wpAny_bind (wpAny_bind (no (thn h4 fun x s5 h5=>wpAny_bind (no (thn h5 fun _ s6 h6=>wpAny_pure (wpAny_pure ⟨rfl,h6⟩))))))
def compCx (X:Cx) (N:List Str) (scope:Scope) (cl:List (Str × Addr)) (C:Addr) (s:Shared) (H:Hp) (ex:List Addr):Cx :=
 { X with N:=N,s₀:=s,H₀:=H,env:=compEnvC scope cl C X.env,outer:=X.stack,ex:=ex,fn:=fun _=>false,pn:=[] }
structure CompOk (X:Cx) (own:List Str) (js:List Nat) (N:List Str) (scope:Scope) (cl:List (Str × Addr)):Prop where
 clos:closureFor scope X.env=pure cl
 kind:scope.kind=.function
 names:∀ x∈scope.names,x.2=.local->scope.names.lookup x.1=some .local
 nocell:∀ x∈scope.names,x.2≠.cell
 cells:∀ x c,cl.lookup x=some c->X.env.cells.lookup x=some c
 has:∀ x,((relabel scope X.env).names.lookup x=some .cell\/(relabel scope X.env).names.lookup x=some .free)->∃ c,cl.lookup x=some c
 frees:∀ (k j:Nat),js[k]?=some j->∃ x,N[own.length+k]?=some x/\X.N[j]?=some x/\Vis X.env.scope x/\(∀ m h u,Look X.env h m x u->∃ c,cl.lookup x=some c/\h.IsCell c (some u)) /\
  ((relabel scope X.env).names.lookup x=some .cell\/(relabel scope X.env).names.lookup x=some .free)
 len:N.length=own.length+js.length
def compG (own:List Str) (js:List Nat) (G:Ga):Ga:=List.replicate own.length none++js.map fun j=>(G[j]?).getD none
def Sub (G G':Ga):Prop:=∀ (i:Nat) (d:D),G[i]?=some (some d)->G'[i]?=some (some d)
theorem Rel.sub {X:Cx} {G G':Ga} {M:MH} {σ:St} {H:Hp} (R:Rel X G' M σ H) (s:Sub G G'):Rel X G M σ H:=⟨fun i d e=>R.loc i d (s i d e),R.mem⟩
def TVs (X:Cx) (G:Ga) (M:MH) (cs:List Expr) (Q:Bool->MH->Prop):Prop:=match cs with
 | []=>Q true M
 | [c]=>TV X G M c Q
 | _=>False
theorem tvs_run {X:Cx} {G:Ga} {M:MH} {cs:List Expr} {Q:Bool->MH->Prop} (h:TVs X G M cs Q) {pins:List (Addr × Obj)} {s:Shared} {σ:St} {H:Hp} (I:Inv X pins σ H s) (R:Rel X G M σ H) :
  wpAny (model X.prog X.w) X.A (forIn cs true fun c r=>if r=true then do let ok <- isTrue c X.env (eval c X.env);pure (ForInStep.yield ok) else pure (ForInStep.yield r)) (TPD X pins σ G H Q) X.xe s:=by
 unfold TVs at h
 split at h
 ·exact wpAny_tests_nil ⟨H,M,I,Grow.refl _,R,h⟩
 ·exact wpAny_tests_one (h pins s σ H I R)
 ·exact h.elim
section
variable {X:Cx} {G:Ga} {M:MH} {elt tg iter:Expr} {ifs:List Expr} {scope:Scope} {pos:Pos} {Q:DK} {own:List Str} {js:List Nat} {N:List Str} {cl:List (Str × Addr)}
def Walks (K:PySem.W.Frag) (M:MH) (J:It) (H:Hp) (ds:List D):Prop:=∀ H',Grow H H'->MemOk K M H'->(∀ i,i=ds.length->J.stop i H') /\
 ∀ i,i < ds.length->J.go i H'/\∀ x H2,J.yld i H' x H2->Grow H' H2/\(∀ b o,H' b=some o->H2 b=some o)/\MemOk K M H2/\∃ d,ds[i]?=some d/\Is H2 d x
theorem comp_ok (T:CompOk X own js N scope cl) {pins:List (Addr × Obj)} {σ:St} {H:Hp} {s:Shared} {h1:Heap} {tk:Nat} {fp:List Addr} (I:Inv X pins σ H s) (hf:∀ b∈fp,FpOk X pins H b) (ht:∀ b∈fp,∃ o,s.heap.get? b=some o)
  (hn:h1.Ns s.heap.objs.size (fun _=>none)) (hk:∀ b o,s.heap.get? b=some o->h1.get? b=some o) (R:Rel X G M σ H) :
  ∃ σc,Inv (compCx X N scope cl s.heap.objs.size s H fp) [] σc H { s with heap:=h1,toks:=tk }/\Rel (compCx X N scope cl s.heap.objs.size s H fp) (compG own js G) M σc H:=by
 let σc:St:=List.replicate own.length none++js.map fun j=>(σ[j]?).getD none
 have hlow:∀ b∈fp,b < s.heap.objs.size:=fun b hb=>let ⟨o,e⟩:=ht b hb;Heap.lt_size e
 refine ⟨σc,⟨?_,rfl,I.bare,Un.kept hk,?_,?_,?_,?_,?_,I.hok.kept hk,?_⟩,?_⟩
 ·exact {
   mod:=I.ok.mod
   kind:=T.kind
   glob:=I.ok.glob
   blt:=I.ok.blt
   above:=Nat.le_refl _
   inj:=fun x y c h1 h2=>I.ok.inj x y c (T.cells x c h1) (T.cells y c h2)
   has:=fun x hx=>T.has x hx
   cab:=fun x c hx _=>nomatch hx
   hd:=I.ok.hd
   frames:=I.ok.frames
   stk:=.inl rfl
   exf:=fun b hb=>⟨Nat.ne_of_lt (hlow b hb),fun x c e=>(hf b hb).2.2.2.2.1 x c (T.cells x c e)⟩
   bs:=I.bs
   bsz:=Nat.le_trans I.ok.bsz I.sz
   noex:=fun b o e hb=>by
    rcases (hf b hb).2.2.2.1 with z | z
    ·exact I.ok.noex b o e z
    ·exact absurd (Nat.lt_of_lt_of_le (Heap.lt_size (I.ok.bs b o e).1) z) (Nat.lt_irrefl _)
   exfs:=fun b hb z=>by
    rcases List.mem_cons.mp (I.stkSub b z) with e | e
    ·exact (hf b hb).2.1 e
    ·exact (hf b hb).2.2.1 e
   funs:=I.stack
   frf:=I.stkFree }
 ·refine ⟨_,hn,fun i x v e1 e2 e3=>?_⟩
  obtain ⟨m,hm,hl⟩:=I.loc
  have hi:own.length<=i:=by
   refine Nat.le_of_not_lt fun z=>?_
   have e2':(List.replicate own.length none++js.map fun j=>(σ[j]?).getD none)[i]?=some (some v):=e2
   rw [List.getElem?_append_left (by simpa using z),List.getElem?_replicate] at e2'
   split at e2'<;>cases e2'
  have e2':(List.replicate own.length none++js.map fun j=>(σ[j]?).getD none)[i]?=some (some v):=e2
  rw [List.getElem?_append_right (by simpa using hi),List.getElem?_map,List.length_replicate] at e2'
  cases q:js[i - own.length]? with
  | none=>rw [q] at e2';cases e2'
  | some j =>
   rw [q] at e2'
   have e4:(σ[j]?).getD none=some v:=by simpa using e2'
   obtain ⟨y,n1,n2,n3,n4,n5⟩:=T.frees _ _ q
   have e5:own.length+(i - own.length)=i:=by omega
   rw [e5] at n1
   have e6:N[i]?=some x:=e1
   rw [e6] at n1;cases n1
   have e7:σ[j]?=some (some v):=by
    cases z:σ[j]? with
    | none=>rw [z] at e4;cases e4
    | some w=>rw [z] at e4;exact congrArg some e4
   obtain ⟨u,r,l⟩:=hl j x v n2 e7 n3
   obtain ⟨c,c1,c2⟩:=n4 m s.heap u l
   refine ⟨u,r,.inr ⟨n5,c,c1,?_⟩⟩
   obtain ⟨o,ho,hd⟩:=c2
   exact ⟨o,hk _ _ ho,hd⟩
 ·intro x c e
  obtain ⟨v,o,ho,hd⟩:=I.cell x c (T.cells x c e)
  exact ⟨v,o,hk _ _ ho,hd⟩
 ·exact I.hok.fresh (Nat.le_refl _)
 ·exact fun x c e=>I.freeC x c (T.cells x c e)
 ·intro p hp
  exact absurd (show p∈([] : List (Addr × Obj)) from hp) (by simp)
 ·show (List.replicate own.length none++js.map fun j=>(σ[j]?).getD none).length=N.length
  rw [List.length_append,List.length_replicate,List.length_map,T.len]
 ·refine ⟨fun i d e=>?_,R.mem⟩
  unfold compG at e
  have hi:own.length<=i:=by
   refine Nat.le_of_not_lt fun z=>?_
   rw [List.getElem?_append_left (by simpa using z),List.getElem?_replicate] at e
   split at e<;>cases e
  rw [List.getElem?_append_right (by simpa using hi),List.getElem?_map,List.length_replicate] at e
  cases q:js[i - own.length]? with
  | none=>rw [q] at e;cases e
  | some j =>
   rw [q] at e
   have e4:(G[j]?).getD none=some d:=by simpa using e
   have e7:G[j]?=some (some d):=by
    cases z:G[j]? with
    | none=>rw [z] at e4;cases e4
    | some w=>rw [z] at e4;exact congrArg some e4
   obtain ⟨v,v1,v2⟩:=R.loc j d e7
   refine ⟨v,?_,v2⟩
   show (List.replicate own.length none++js.map fun j=>(σ[j]?).getD none)[i]?=some (some v)
   rw [List.getElem?_append_right (by simpa using hi),List.getElem?_map,List.length_replicate,q]
   show some ((σ[j]?).getD none)=some (some v)
   rw [v1];rfl
def Ext (M M':MH):Prop:=∀ a o,M a=some o->M' a=some o
theorem mset_mset {M:MH} {a:Addr} {o u:MO}:mset (mset M a o) a u=mset M a u:=by
 funext b;unfold mset;split<;>rfl
theorem ext_new {M:MH} {a:Addr} {o:MO} (h:M a=none):Ext M (mset M a o):=fun b u e=>mset_old h e
theorem MemOk.ext {K:PySem.W.Frag} {M M':MH} {H:Hp} (m:MemOk K M' H) (e:Ext M M'):MemOk K M H:=fun a o h=>m a o (e a o h)
theorem Inv.unblock {pins:List (Addr × Obj)} {σ σc:St} {H3 H':Hp} {s3 s':Shared} {C:Addr} {h':Heap} {fp:List Addr} (I3:Inv X pins σ H3 s3) (hf:∀ b∈fp,FpOk X pins H3 b) (I':Inv (compCx X N scope cl C s3 H3 fp) [] σc H' s')
  (hC:C=s3.heap.objs.size) (hs:Heap.SameBut C s'.heap h'):Inv X pins σ H' { s' with heap:=h' }:=by
 have ne:∀ b o,s3.heap.get? b=some o->b≠C:=fun b o e=>by rw [hC];exact Nat.ne_of_lt (Heap.lt_size e)
 have B:Un (frs X.stack) fp H3 H' s3.heap s'.heap:=I'.base
 have fC:H' C=none:=I'.free
 refine I3.call' (ch:=fp) I'.os ?_ ?_ I'.bare ?_
 ·exact {
   keep:=fun b o e n h1 h2=>(hs.2 b (ne b o e)).trans (B.keep b o e n h1 h2)
   slot:=fun b o e n h1 h2=>let ⟨sl,q⟩:=B.slot b o e n h1 h2;⟨sl,(hs.2 b (ne b o e)).trans q⟩
   free:=B.free
   there:=fun b o e h2=>let ⟨o',q⟩:=B.there b o e h2;⟨o',(hs.2 b (ne b o e)).trans q⟩
   tups:=B.tups
   frzs:=B.frzs
   tbls:=B.tbls }
 ·intro b u e
  refine (I'.hok b u e).stay (fun c v hc q=>(hs.2 c ?_).trans q) (fun _ q=>q) fun _ _ q=>q
  rintro rfl
  rcases hc with z | z
  ·rw [<- z,fC] at e;cases e
  ·rw [fC] at z;cases z
 ·intro b hb
  obtain ⟨h0,h1,h2,h3,h4,h5⟩:=hf b hb
  exact ⟨h3,h1,h4,h5⟩
def CompT (X:Cx) (G:Ga) (own:List Str) (js:List Nat) (N:List Str) (scope:Scope) (cl:List (Str × Addr)) (tg elt:Expr) (ifs:List Expr) (σ:St) (F:Addr->MH->Prop) (J:It) (H1:Hp):Prop :=
 ∃ (M1:MH) (ds:List D) (Iv:Addr->Nat->List D->MH->Prop),Rel X G M1 σ H1/\(∀ q i acc M' H',Grow H1 H'->MemOk X.K M' H'->Iv q i acc M'->(i=ds.length->J.stop i H')/\(i < ds.length->J.go i H'/\∀ x H2,J.yld i H' x H2->Grow H' H2/\(∀ b o,H' b=some o->H2 b=some o)/\∃ d,ds[i]?=some d/\Is H2 d x))/\(∀ q,M1 q=none->Iv q 0 [] (mset M1 q (.lst []))) /\
  (∀ Y:Cx,(∃ C s H fp,Y=compCx X N scope cl C s H fp)->∀ q i acc M' d,ds[i]?=some d->Iv q i acc M'->M' q=some (.lst acc)->GV Y (compG own js G) M' tg d fun G3 M3=>M3=M'/\Sub (compG own js G) G3/\TVs Y G3 M' ifs fun k M4=>M4=M'/\if k=true then EV Y G3 M' elt fun o M5=>M5 q=some (.lst acc)/\acc.length < sizeLine/\Iv q (i+1) (acc++[o]) (mset M5 q (.lst (acc++[o]))) else Iv q (i+1) acc M') /\
  ∀ q acc M',Iv q ds.length acc M'->M' q=some (.lst acc)->F q M'
theorem comp_core {wi:TI} {Ψ:It->Hp->Prop} {F:Addr->MH->Prop} {use:Option (Value->Sem Unit)} {Qc:Value->Shared->Prop} {p0:Pos} {pins:List (Addr × Obj)} {s:Shared} {σ:St} {H:Hp} (T:CompOk X own js N scope cl) (hxe:X.xe=fun _ _=>False) (hc:X.calm=true) (hi:PI X tg iter wi)
  (hs:∀ x,foldedSetIterable iter X.env x=pure x) (I:Inv X pins σ H s) (h:wi σ H Ψ) (k:∀ J H1,Ψ J H1->Grow H H1/\CompT X G own js N scope cl tg elt ifs σ F J H1)
  (fe:∀ q M' C s3 H3 fp σ' H' s',F q M'->Inv X pins σ H3 s3->(∀ b∈fp,FpOk X pins H3 b)->C=s3.heap.objs.size->Inv (compCx X N scope cl C s3 H3 fp) [] σ' H' s'->Grow H H'->Rel X G M' σ H'->compPost (model X.prog X.w) X.A X.xe use Qc (.ref q) C (.ok .next) s') :
  wpAny (model X.prog X.w) X.A (comprehension (.ListComp elt [⟨tg,iter,ifs,0⟩] scope pos) scope X.env p0 (newList []) false (eval iter X.env) use) Qc X.xe s:=by
 refine wpAny_comprehension_free (use:=use) rfl hs T.clos T.kind T.names (thn (hi pins s σ H _ I h) fun v s1 h1=>thn h1 fun itv s2 h2=>?_)
 obtain ⟨it,fp,tn,J,H2,e,I2,TT,st2,f2,psi⟩:=h2
 obtain ⟨g2,M1,ds,Iv,R2,walks,iv0,block,fin⟩:=k J H2 psi
 subst e
 refine wpAny_newObj_type ?_ (by show 0<=sizeLine;exact Nat.zero_le _)
 have hq:H2 s2.heap.objs.size=none:=I2.hok.fresh (Nat.le_refl _)
 have I3:Inv X pins σ (upd H2 s2.heap.objs.size (.lst [])) { s2 with heap:=s2.heap.push { cls:=.type "list",dict:=none,data:=.seq ([] : List Value).toArray } } :=
  I2.laid (t':=s2.toks) (fun b u e=>Heap.get?_push_of_some _ e) (Nat.le_refl _) ⟨Nat.zero_le _,[],0,.nil,Heap.get?_push_size _ rfl⟩
 have gq:Grow H2 (upd H2 s2.heap.objs.size (.lst [])):=grow_new hq
 have mq:M1 s2.heap.objs.size=none:=R2.mem.fresh hq (kf_of I3)
 have R3:Rel X G (mset M1 s2.heap.objs.size (.lst [])) σ (upd H2 s2.heap.objs.size (.lst [])):=R2.to gq (R2.mem.lay hq ⟨[],upd_same,isl_nil.mpr rfl⟩)
 have f3:∀ b∈fp,FpOk X pins (upd H2 s2.heap.objs.size (.lst [])) b:=fun b hb=>by
  refine ⟨?_,(f2 b hb).2⟩
  rw [upd_ne]
  ·exact (f2 b hb).1
  ·intro z
   obtain ⟨o,e,_⟩:=TT.obj _ _ st2 b hb
   rw [z] at e
   exact absurd (Heap.lt_size e) (Nat.lt_irrefl _)
 have ft:∀ b∈fp,∃ o,(s2.heap.push { cls:=.type "list",dict:=none,data:=.seq ([] : List Value).toArray }).get? b=some o:=fun b hb=>by
  obtain ⟨o,e,_⟩:=TT.obj _ _ st2 b hb
  exact ⟨o,Heap.get?_push_of_some _ e⟩
 have stq:tn 0 (s2.heap.push { cls:=.type "list",dict:=none,data:=.seq ([] : List Value).toArray }):=TT.keep _ _ _ st2 fun b hb o e=>Heap.get?_push_of_some _ e
 generalize s2.heap.objs.size=q at hq I3 gq mq R3 f3 ⊢
 refine wpAny_newFunctionEnv (T.nocell) (by intro y hy;simp at hy) (fun h1 hns1 hsb1=>?_) T.kind
 generalize hH3:upd H2 q (.lst [])=H3 at I3 R3 f3 gq
 generalize hs3:({ s2 with heap:=s2.heap.push { cls:=.type "list",dict:=none,data:=.seq ([] : List Value).toArray } }:Shared)=s3 at I3 hns1 hsb1 ⊢
 have es3:s3.heap=s2.heap.push { cls:=.type "list",dict:=none,data:=.seq ([] : List Value).toArray }:=by rw [<- hs3]
 rw [<- es3] at stq ft
 have hk1:∀ b o,s3.heap.get? b=some o->h1.get? b=some o:=fun b o e=>hsb1.extBut b o (Nat.ne_of_lt (Heap.lt_size e)) (Heap.get?_push_of_some _ e)
 obtain ⟨σc,Ic,Rc⟩:=comp_ok (tk:=s3.toks+([] : List (Str × Value)).length) T I3 f3 ft (by simpa using hns1) hk1 R3
 have stc:tn 0 h1:=TT.keep _ _ _ stq fun b hb o e=>hk1 b o e
 have hC:∃ C,C=s3.heap.objs.size:=⟨_,rfl⟩
 obtain ⟨C,hC⟩:=hC
 rw [<- hC] at Ic Rc
 generalize hY:compCx X N scope cl C s3 H3 fp=Y at Ic Rc
 have blockY:=block Y ⟨C,s3,H3,fp,hY.symm⟩
 have yA:Y.A=X.A:=by rw [<- hY];rfl
 have yp:Y.prog=X.prog:=by rw [<- hY];rfl
 have yw:Y.w=X.w:=by rw [<- hY];rfl
 have yK:Y.K=X.K:=by rw [<- hY];rfl
 have yc:Y.calm=true:=by rw [<- hY];exact hc
 have yx:Y.xe=fun _ _=>False:=by rw [<- hY];exact hxe
 have ye:Y.env=compEnvC scope cl C X.env:=by rw [<- hY];rfl
 have ypn:Y.pn=[]:=by rw [<- hY];rfl
 have yex:Y.ex=fp:=by rw [<- hY];rfl
 have fpY:∀ {H':Hp},(∀ b∈fp,H' b=none)->∀ b∈fp,FpOk Y [] H' b:=fun {H'} hn b hb=>by
  have o1:=Ic.ok.exf b (by rw [yex];exact hb)
  refine ⟨hn b hb,o1.1,Ic.ok.exfs b (by rw [yex];exact hb),.inl (by rw [yex];exact hb),o1.2,fun p hp=>?_⟩
  rw [ypn] at hp;exact absurd hp (by simp)
 have loop:∀ s4:Shared,s4={ s3 with heap:=h1,toks:=s3.toks+([] : List (Str × Value)).length } ->
   codeAny (model X.prog X.w) X.A (.compLoop (.ListComp elt [⟨tg,iter,ifs,0⟩] scope pos) 0 (.ref it) (.ref q) (compEnvC scope cl C X.env)) (compPost (model X.prog X.w) X.A X.xe use Qc (.ref q) C) s4:=by
  rintro s4 rfl
  refine compLoop_own (fun m s'=>∃ i σ' H' acc M',Inv Y [] σ' H' s'/\Grow H3 H'/\Rel Y (compG own js G) M' σ' H'/\M' q=some (.lst acc)/\Iv q i acc M'/\tn i s'.heap/\(∀ b∈fp,H' b=none)/\i<=ds.length/\m=ds.length - i) ?_ ds.length
   ⟨0,σc,H3,[],mset M1 q (.lst []),Ic,Grow.refl _,Rc,mset_same,iv0 q mq,stc,fun b hb=>(f3 b hb).1,Nat.zero_le _,rfl⟩
  rintro m s5 ⟨i,σ5,H5,acc,M5,I5,g5,R5,m5,v5,st5,fr5,hin,rfl⟩
  obtain ⟨wstop,wgo⟩:=walks q i acc M5 H5 (gq.trans g5) (by rw [<- yK];exact R5.mem) v5
  by_cases hlt:i < ds.length
  ·obtain ⟨go,yld⟩:=wgo hlt
   have it5:=TT.item Y yp yw yK yc i [] s5 σ5 H5 (fun _ _=>False) I5 (fpY fr5) st5 go
   rw [yA] at it5
   refine thn it5 fun r s6 ⟨u,hr,h6⟩=>?_
   subst hr
   refine thn h6 fun _ s7 ⟨x,H7,I7,r7,y7,st7,fr7⟩=>?_
   obtain ⟨g7,keep7,d,ed,i7⟩:=yld x H7 y7
   have I7':=I7.pinned (fpY fr7) (TT.obj _ _ st7)
   have R7:Rel Y (compG own js G) M5 σ5 H7:=R5.to g7 fun a o e=>(R5.mem a o e).stay g7 fun u h=>keep7 _ _ h
   have gv:=blockY q i acc M5 d ed v5 m5 _ s7 σ5 H7 x u I7' R7 r7 i7
   rw [yp,yw,yA,yx,ye] at gv
   refine thn gv fun _ s8 ⟨σ8,H8,G8,M8,I8,g8,R8,e8,sub8,tests⟩=>?_
   subst e8
   have back:∀ {σ':St} {H':Hp} {s':Shared},Inv Y ([]++pinsAt fp s7.heap) σ' H' s'->tn (i+1) s'.heap/\∀ b∈fp,H' b=none:=fun {σ' H' s'} I'=>by
    refine ⟨TT.keep _ _ _ st7 fun b hb o e=>(I'.pin (b,o) (List.mem_append_right _ (List.mem_append_right _ (mem_pinsAt hb e)))).1,fun b hb=>?_⟩
    obtain ⟨o,e,_⟩:=TT.obj _ _ st7 b hb
    exact (I'.pin (b,o) (List.mem_append_right _ (List.mem_append_right _ (mem_pinsAt hb e)))).2.1
   have tr:=tvs_run tests I8 R8
   rw [yp,yw,yA,yx,ye] at tr
   refine thn tr fun ok s9 ⟨H9,M9,I9,g9,R9,e9,elt8⟩=>?_
   subst e9
   cases ok with
   | false =>
    rw [if_neg (by decide)]
    rw [if_neg (by decide)] at elt8
    obtain ⟨t1,t2⟩:=back I9
    exact ⟨ds.length - (i+1),by omega,i+1,σ8,H9,acc,_,I9.unpinned,((g5.trans g7).trans g8).trans g9,R9.sub sub8,m5,elt8,t1,t2,hlt,rfl⟩
   | true =>
    rw [if_pos rfl]
    rw [if_pos rfl] at elt8
    have ev:=elt8 _ s9 σ8 H9 I9 R9
    rw [yp,yw,yA,yx,ye] at ev
    refine thn ev fun u9 s10 ⟨v10,H10,o10,M10,I10,r10,g10,i10,R10,e10,ez,eo⟩=>?_
    obtain ⟨xs,hx,hxi⟩:=R10.mem q _ e10
    have hlen:=hxi.len
    have ap:=mt_append (X:=Y) _ s10 σ8 H10 (.ref q) [v10] (.ref q) [u9] (fun _ H'=>H'=upd H10 q (.lst (xs++[v10]))) I10 rfl (.cons r10 .nil) ⟨q,xs,v10,rfl,rfl,hx,by omega,rfl⟩
    rw [yp,yw,yA,yx] at ap
    refine thn ap fun _ s11 ⟨_,H11,I11,_,e11⟩=>?_
    subst e11
    obtain ⟨t1,t2⟩:=back I11
    have nt:∀ ys,H10 q≠some (.tup ys):=fun ys z=>by rw [hx] at z;cases z
    have ga:Grow H10 (upd H10 q (.lst (xs++[v10]))):=grow_upd nt
    have mm:=R10.mem.put (p:=q) (o:=.lst (xs++[v10])) (u:=.lst (acc++[o10])) nt ⟨_,upd_same,(hxi.grow ga).app (isl_cons.mpr ⟨v10,[],rfl,Is.grow ga _ _ i10,isl_nil.mpr rfl⟩)⟩
    exact ⟨ds.length - (i+1),by omega,i+1,σ8,_,acc++[o10],_,I11.unpinned,((((g5.trans g7).trans g8).trans g9).trans g10).trans ga,(R10.to ga mm).sub sub8,mset_same,eo,t1,t2,hlt,rfl⟩
  ·have ei:i=ds.length:=by omega
   subst ei
   have dn:=TT.done Y yp yw yK yc ds.length [] s5 σ5 H5 (fun _ _=>False) I5 (fpY fr5) st5 (wstop rfl)
   rw [yA] at dn
   refine thn dn fun r s6 ⟨hr,I6⟩=>?_
   subst hr
   exact fe q M5 C s3 H3 fp σ5 H5 s6 (fin q acc M5 v5 m5) I3 f3 hC (by rw [hY];exact I6) ((g2.trans gq).trans g5) (R3.to g5 (by rw [<- yK];exact R5.mem))
 have fin0:=codeAny_compStart_list (R:=compPost (model X.prog X.w) X.A X.xe use Qc (.ref q) C) (loop _ rfl) (TT.self _ 0 _ _ _ stc (loop _ rfl))
 rw [hC] at fin0
 exact fin0
theorem ev_compK {wi:TI} (T:CompOk X own js N scope cl) (hxe:X.xe=fun _ _=>False) (hc:X.calm=true) (hi:PI X tg iter wi)
  (h:∀ σ H,KF X.K H->Rel X G M σ H->∃ Ψ,wi σ H Ψ/\∀ J H1,Ψ J H1->Grow H H1/\CompT X G own js N scope cl tg elt ifs σ (fun q=>Q (.ref q)) J H1)
  (hs:∀ x,foldedSetIterable iter X.env x=pure x):EV X G M (.ListComp elt [⟨tg,iter,ifs,0⟩] scope pos) Q:=by
 intro pins s σ H I R
 rw [eval_ListComp]
 obtain ⟨Ψ,h1,h2⟩:=h σ H (kf_of I) R
 refine comp_core T hxe hc hi hs I h1 h2 fun q M' C s3 H3 fp σ' H' s' f I3 f3 hC I6 g R'=>?_
 obtain ⟨mm,hmm,_⟩:=I6.loc
 exact ⟨mm,hmm,fun h' hsb=>⟨.ref q,H',.ref q,_,Inv.unblock I3 f3 I6 hC hsb,rfl,g,is_ref.mpr rfl,R',f⟩⟩
theorem tvs_mono {Y:Cx} {G:Ga} {M:MH} {cs:List Expr} {Q Q':Bool->MH->Prop} (h:TVs Y G M cs Q) (k:∀ k M',Q k M'->Q' k M'):TVs Y G M cs Q':=by
 unfold TVs at h ⊢
 split at h
 ·exact k _ _ h
 ·exact fun pins s σ H I R=>thn (h pins s σ H I R) fun b s' ⟨H',M',I',g,R',q⟩=>⟨H',M',I',g,R',k _ _ q⟩
 ·exact h
theorem gv_mono {Y:Cx} {G:Ga} {M:MH} {tg:Expr} {d:D} {Q Q':Ga->MH->Prop} (h:GV Y G M tg d Q) (k:∀ G' M',Q G' M'->Q' G' M'):GV Y G M tg d Q' :=
 fun pins s σ H v u I R r i=>thn (h pins s σ H v u I R r i) fun _ s2 ⟨σ2,H2,G2,M2,I2,g2,R2,q⟩=>⟨σ2,H2,G2,M2,I2,g2,R2,k _ _ q⟩
theorem pure_block {M1:MH} {ds:List D} {ifs:List Expr} {f:D->D} {pr:D->Bool} (hz:ds.length<=sizeLine)
  (block:∀ Y:Cx,(∃ C s H fp,Y=compCx X N scope cl C s H fp)->∀ M',Ext M1 M'->∀ d∈ds,GV Y (compG own js G) M' tg d fun G3 M3=>M3=M'/\Sub (compG own js G) G3/\TVs Y G3 M' ifs (fun k M4=>M4=M'/\k=pr d)/\(pr d=true->EV Y G3 M' elt fun o M4=>M4=M'/\o=f d)) :
  ∀ Y:Cx,(∃ C s H fp,Y=compCx X N scope cl C s H fp)->∀ q i acc M' d,ds[i]?=some d->(M1 q=none/\M'=mset M1 q (.lst acc)/\acc=((ds.take i).filter pr).map f)->M' q=some (.lst acc)->GV Y (compG own js G) M' tg d fun G3 M3=>M3=M'/\Sub (compG own js G) G3/\TVs Y G3 M' ifs fun k M4=>M4=M'/\if k=true then EV Y G3 M' elt fun o M5=>M5 q=some (.lst acc)/\acc.length < sizeLine/\(M1 q=none/\mset M5 q (.lst (acc++[o]))=mset M1 q (.lst (acc++[o]))/\acc++[o]=((ds.take (i+1)).filter pr).map f) else (M1 q=none/\M'=mset M1 q (.lst acc)/\acc=((ds.take (i+1)).filter pr).map f):=by
 intro Y hY q i acc M' d hd ⟨hq,hM,hacc⟩ mq
 have hi:i < ds.length:=(List.getElem?_eq_some_iff.mp hd).1
 have tk:(ds.take (i+1)).filter pr=(ds.take i).filter pr++(if pr d then [d] else []):=take_succ_filter pr ds i d hd
 have hl:acc.length<=i:=by
  rw [hacc,List.length_map]
  exact Nat.le_trans (List.length_filter_le _ _) (by rw [List.length_take];omega)
 refine gv_mono (block Y hY M' (by rw [hM];exact ext_new hq) d (List.mem_of_getElem? hd)) fun G3 M3 ⟨e1,e2,e3,e4⟩=>⟨e1,e2,tvs_mono e3 fun k M4 ⟨e5,e6⟩=>⟨e5,?_⟩⟩
 subst e6
 cases hp:pr d with
 | true =>
  rw [if_pos rfl]
  refine (e4 hp).mono fun o M5 ⟨e7,e8⟩=>?_
  subst e7;subst e8
  refine ⟨mq,by omega,hq,by rw [hM,mset_mset],?_⟩
  rw [tk,hp,if_pos rfl,List.map_append,<- hacc];rfl
 | false =>
  rw [if_neg (by decide)]
  refine ⟨hq,hM,?_⟩
  rw [tk,hp,if_neg (by decide),List.append_nil];exact hacc
theorem pure_T {J:It} {σ:St} {H1:Hp} {M1:MH} {ds:List D} {f:D->D} {pr:D->Bool} {F:Addr->MH->Prop} (R1:Rel X G M1 σ H1) (walks:Walks X.K M1 J H1 ds) (hz:ds.length<=sizeLine)
  (block:∀ Y:Cx,(∃ C s H fp,Y=compCx X N scope cl C s H fp)->∀ M',Ext M1 M'->∀ d∈ds,GV Y (compG own js G) M' tg d fun G3 M3=>M3=M'/\Sub (compG own js G) G3/\TVs Y G3 M' ifs (fun k M4=>M4=M'/\k=pr d)/\(pr d=true->EV Y G3 M' elt fun o M4=>M4=M'/\o=f d))
  (fin:∀ q,M1 q=none->F q (mset M1 q (.lst ((ds.filter pr).map f)))):CompT X G own js N scope cl tg elt ifs σ F J H1:=by
 refine ⟨M1,ds,fun q i acc M2=>M1 q=none/\M2=mset M1 q (.lst acc)/\acc=((ds.take i).filter pr).map f,R1,fun q i acc M2 H2 g2 m2 v2=>?_,fun q hq=>⟨hq,rfl,by simp⟩,pure_block hz block,fun q acc M2 ⟨h1,h2,h3⟩ _=>by rw [h2,h3,List.take_length];exact fin q h1⟩
 obtain ⟨a,b⟩:=walks H2 g2 (m2.ext (by rw [v2.2.1];exact ext_new v2.1))
 exact ⟨a i,fun hlt=>⟨(b i hlt).1,fun x H3 y=>let ⟨c,d,_,e⟩:=(b i hlt).2 x H3 y;⟨c,d,e⟩⟩⟩
theorem ev_comp {wi:TI} (T:CompOk X own js N scope cl) (hxe:X.xe=fun _ _=>False) (hc:X.calm=true) (hi:PI X tg iter wi) (f:D->D) (p:D->Bool)
  (h:∀ σ H,KF X.K H->Rel X G M σ H->wi σ H fun J H1=>Grow H H1/\∃ (M1:MH) (ds:List D),Rel X G M1 σ H1/\Walks X.K M1 J H1 ds/\ds.length<=sizeLine /\
   (∀ Y:Cx,(∃ C s H fp,Y=compCx X N scope cl C s H fp)->∀ M',Ext M1 M'->∀ d∈ds,GV Y (compG own js G) M' tg d fun G3 M3=>M3=M'/\Sub (compG own js G) G3/\TVs Y G3 M' ifs (fun k M4=>M4=M'/\k=p d)/\(p d=true->EV Y G3 M' elt fun o M4=>M4=M'/\o=f d)) /\
   ∀ q,M1 q=none->Q (.ref q) (mset M1 q (.lst ((ds.filter p).map f))))
  (hs:∀ x,foldedSetIterable iter X.env x=pure x:=by intro _;rfl):EV X G M (.ListComp elt [⟨tg,iter,ifs,0⟩] scope pos) Q :=
 ev_compK T hxe hc hi (fun σ H kf R=>⟨_,h σ H kf R,fun J H1 ⟨g,M1,ds,R1,w,hz,b,fin⟩=>⟨g,pure_T R1 w hz b fin⟩⟩) hs
end
section
variable {X:Cx} {G:Ga} {M:MH} {elt tg iter:Expr} {ifs:List Expr} {scope:Scope} {pos:Pos} {Q:DK} {own:List Str} {js:List Nat} {N:List Str} {cl:List (Str × Addr)}
theorem ev_comp_tup (T:CompOk X own js N scope cl) (hxe:X.xe=fun _ _=>False) (hc:X.calm=true) (f:D->D) (p:D->Bool)
  (h:EV X G M iter fun d M1=>∃ ds:List D,d=.tup ds/\ds.length<=sizeLine /\
   (∀ Y:Cx,(∃ C s H fp,Y=compCx X N scope cl C s H fp)->∀ M',Ext M1 M'->∀ d∈ds,GV Y (compG own js G) M' tg d fun G3 M3=>M3=M'/\Sub (compG own js G) G3/\TVs Y G3 M' ifs (fun k M4=>M4=M'/\k=p d)/\(p d=true->EV Y G3 M' elt fun o M4=>M4=M'/\o=f d)) /\
   ∀ q,M1 q=none->Q (.ref q) (mset M1 q (.lst ((ds.filter p).map f))))
  (hs:∀ x,foldedSetIterable iter X.env x=pure x:=by intro _;rfl):EV X G M (.ListComp elt [⟨tg,iter,ifs,0⟩] scope pos) Q:=by
 refine ev_comp T hxe hc (pi_tup (pe_D (G:=G))) f p (fun σ H kf R=>?_) hs
 refine ⟨M,_,R,h,fun v H' d M' kf' g i R' q=>?_⟩
 obtain ⟨ds,e,hz,block,fin⟩:=q
 subst e
 rw [is_tup] at i
 obtain ⟨l,xs,rfl,hx,hxi⟩:=i
 have hlen:=hxi.len
 refine ⟨l,rfl,⟨xs,SqT.of hx⟩,g,M',ds,R',fun H2 g2 m2=>?_,hz,block,fin⟩
 have hx2:SqT X.K H2 l xs:=SqT.of (g2 _ _ hx)
 refine ⟨fun i e=>⟨xs,hx2,by omega⟩,fun i hlt=>⟨⟨xs,xs[i]'(by omega),hx2,by simp⟩,fun x H3 y=>?_⟩⟩
 obtain ⟨e,y⟩:=y
 subst e
 have e1:=y xs hx2
 obtain ⟨d,e2,i2⟩:=(hxi.grow g2).get' e1
 exact ⟨Grow.refl _,fun _ _ z=>z,m2,d,e2,i2⟩
theorem ev_comp_list (T:CompOk X own js N scope cl) (hxe:X.xe=fun _ _=>False) (hc:X.calm=true) (f:D->D) (p:D->Bool)
  (h:EV X G M iter fun d M1=>∃ (l:Addr) (ds:List D),d=.ref l/\(M1 l=some (.lst ds)\/M1 l=some (.ro ds))/\ds.length<=sizeLine /\
   (∀ Y:Cx,(∃ C s H fp,Y=compCx X N scope cl C s H fp)->∀ M',Ext M1 M'->∀ d∈ds,GV Y (compG own js G) M' tg d fun G3 M3=>M3=M'/\Sub (compG own js G) G3/\TVs Y G3 M' ifs (fun k M4=>M4=M'/\k=p d)/\(p d=true->EV Y G3 M' elt fun o M4=>M4=M'/\o=f d)) /\
   ∀ q,M1 q=none->Q (.ref q) (mset M1 q (.lst ((ds.filter p).map f))))
  (hs:∀ x,foldedSetIterable iter X.env x=pure x:=by intro _;rfl):EV X G M (.ListComp elt [⟨tg,iter,ifs,0⟩] scope pos) Q:=by
 refine ev_comp T hxe hc (pi_list (pe_D (G:=G))) f p (fun σ H kf R=>?_) hs
 refine ⟨M,_,R,h,fun v H' d M' kf' g i R' q=>?_⟩
 obtain ⟨l,ds,e,hl,hz,block,fin⟩:=q
 subst e
 rw [is_ref] at i;subst i
 have sq:∀ {H2:Hp},MemOk X.K M' H2->∃ xs,SqL X.K H2 l xs/\IsL H2 ds xs:=fun {H2} m=>by
  rcases hl with hl | hl
  ·obtain ⟨xs,h1,h2⟩:=m l _ hl;exact ⟨xs,SqL.of h1,h2⟩
  ·exact m l _ hl
 obtain ⟨xs0,hx0,_⟩:=sq R'.mem
 refine ⟨l,rfl,⟨xs0,hx0⟩,g,M',ds,R',fun H2 g2 m2=>?_,hz,block,fin⟩
 obtain ⟨xs,hx2,hxi⟩:=sq m2
 have hlen:=hxi.len
 refine ⟨fun i e=>⟨xs,hx2,by omega⟩,fun i hlt=>⟨⟨xs,xs[i]'(by omega),hx2,by simp⟩,fun x H3 y=>?_⟩⟩
 obtain ⟨e,y⟩:=y
 subst e
 have e1:=y xs hx2
 obtain ⟨d,e2,i2⟩:=hxi.get' e1
 exact ⟨Grow.refl _,fun _ _ z=>z,m2,d,e2,i2⟩
theorem compOk_plain (hfree:∀ x∈scope.names,x.2≠.free) (hcell:∀ x∈scope.names,x.2≠.cell) (hk:scope.kind=.function) (hn:∀ x∈scope.names,x.2=.local->scope.names.lookup x.1=some .local) (hN:N=own):CompOk X own [] N scope []:=by
 have key:(relabel scope X.env).names=scope.names:=by
  unfold relabel
  exact map_eq_self (l:=scope.names) fun x hx=>by
   obtain ⟨n,k⟩:=x
   have:(k == NameKind.free)=false:=by simpa using hfree _ hx
   simp [this]
 refine ⟨closureFor_none hfree,hk,hn,hcell,fun x c e=>by simp at e,fun x h=>?_,fun k j e=>by simp at e,by rw [hN];rfl⟩
 rw [key] at h
 rcases h with h | h
 ·exact absurd rfl (hcell _ (PySem.mem_of_lookup h))
 ·exact absurd rfl (hfree _ (PySem.mem_of_lookup h))
end
theorem bits_weight (n:Int):Builtin.Int.intBits n=PySem.W.WData.weight (.int n):=by
 unfold Builtin.Int.intBits PySem.W.WData.weight
 rfl
theorem bits_of_all:∀ (ns:List Int) (k:Nat),PySem.W.WData.weightAll (ns.map PySem.W.WData.int)<=k->∀ n∈ns,Builtin.Int.intBits n<=k
 | [],_,_,n,hn=>nomatch hn
 | m :: ns,k,h,n,hn=>by
  rw [List.map_cons] at h
  have h':PySem.W.WData.weight (.int m)+1+PySem.W.WData.weightAll (ns.map PySem.W.WData.int)<=k:=by
   unfold PySem.W.WData.weightAll at h
   exact h
  rcases List.mem_cons.mp hn with e | hn
  ·subst e
   rw [bits_weight]
   omega
  ·exact bits_of_all ns k (by omega) n hn
theorem bits_of_lay {ns:List Int} (h:PySem.W.WData.layableAll [PySem.W.WData.list (ns.map PySem.W.WData.int)]=true):∀ n∈ns,Builtin.Int.intBits n<=2097152:=by
 unfold PySem.W.WData.layableAll at h
 rw [List.all_cons,Bool.and_eq_true] at h
 have h1:=h.1
 unfold PySem.W.WData.layable at h1
 rw [Bool.and_eq_true] at h1
 have h2:=of_decide_eq_true h1.2
 have h3:PySem.W.WData.weightAll (ns.map PySem.W.WData.int)<=2 ^ 20:=by
  unfold PySem.W.WData.weight at h2
  exact h2
 intro n hn
 have:=bits_of_all ns _ h3 n hn
 omega
open PySem.W PySem.Calls
theorem attach_callB {l:PySem.W.OpenLaw} {n:Nat} {q:Program} {loose:List Str} {XP:(Str->Option Value)->Heap->Prop} {YP:World->Heap->Prop} {d:DefRec}
  (hn:l.most=some n) (hdf:d.params.defaults=[])
  (call:∀ (w:World) (s₀ s₁:Shared) (mg mb:Str->Option Value) (fa:Addr) (o:Obj) (pm cd doc:Value) (a:Addr) (vs:List Value) (ns:List Int),
   Ground q loose [] XP w s₀ mg mb s₁.heap->YP w s₁.heap ->
   s₁.heap.get? fa=some o->o.data=.func (docDef d.name d.params d.body d.scope pm cd doc)->s₁.heap.CodeRec cd d.name->mg d.name=some (.ref fa) ->
   s₁.heap.get? a=some { cls:=.type "list",data:=.seq vs.toArray }->IntsAre vs ns->ns.length<=n->(∀ n∈ns,Builtin.Int.intBits n<=2097152)->s₁.gens=#[] ->
   codeAny (model l.prog w) callerA (.call (.ref fa) ⟨[.ref a],[]⟩) (fun r s'=>r=.ok (.ret (.bool true))/\OldK s₁.heap s'.heap/\s'.os=s₁.os/\AllBare s'.gens) s₁) :
  PySem.W.WalkO q loose XP YP l.row.toRowW d [] (fun f vs=>PySem.call f vs):=by
 intro w s₀ s₁ mg mb G Y fa o pm cd doc dV kV ho hd hcd hD hmg hg args vals as hpre hlay hrd hwl hlo
 obtain rfl:dV=.none:=Dflts.none hD hdf
 obtain rfl:kV=.none:=Dflts.noKw hD
 obtain ⟨a,vs,ns,rfl,rfl,hobj,hints,hlen⟩:=Att.script_of hn hpre hwl
 refine enter_call (codeAny_mono (call w s₀ s₁ mg mb fa o pm cd doc a vs ns G Y ho (fd_plain hd) hcd hmg hobj hints hlen (bits_of_lay hlay) hg) fun r s' hq=>?_)
 obtain ⟨rfl,h2,h3,h4⟩:=hq
 exact ⟨.inl ⟨.bool true,.bool true,[],rfl,fun _=>rfl,.bool true,Att.post_true l _,fun _=>⟨List.Pairwise.nil,fun _ hm=>(nomatch hm)⟩⟩,h2,h3,h4⟩
def LawSp (sp:SpD):Prop:=∀ (l:Addr) (ns:List Int) (M:MH) (Q:DK),M l=some (.ro (ns.map D.int))->ns.length<=63->(∀ n∈ns,Builtin.Int.intBits n<=2097152)->(∀ M',Q (.bl true) M')->sp [.ref l] M Q
theorem walk_D {l:PySem.W.OpenLaw} {k:Nat} {q:Program} {loose:List Str} {XP:(Str->Option Value)->Heap->Prop} {YP:World->Heap->Prop} {d:DefRec} {K:Params->PySem.W.Frag} {sp:SpD} {x:Str}
  (hn:l.most=some 63) (hdf:d.params.defaults=[]) (hr:Room k callerA) (hs:LawSp sp)
  (hY:∀ (w:World) (h:Heap),YP w h->(K w.params).In h)
  (F:∀ (w:World) (mg:Str->Option Value) (fa:Addr) (h:Heap),(K w.params).In h->h.Ns mainGlobals mg->mg d.name=some (.ref fa) ->
   ∃ fd:FuncData,(∀ (s:Shared) (u:Value),BindsTo s fd ⟨[u],[]⟩ [(x,u)]) /\
    ∀ base:Heap,(K w.params).In base->base.Ns mainGlobals mg->FnOk l.prog w (K w.params) mg base CX0 k fa fd [x] (liftSp (K w.params) sp)) :
  PySem.W.WalkO q loose XP YP l.row.toRowW d [] (fun f vs=>PySem.call f vs):=by
 refine attach_callB hn hdf fun w s₀ s₁ mg mb fa o pm cd doc a vs ns G Y ho hd hcd hmg hobj hints hlen hbits hg=>?_
 have KX:=hY w _ Y
 obtain ⟨fd,hb,hF⟩:=F w mg fa _ KX G.T.g hmg
 refine law_call KX G.T.g G.T.b G.T.builtins G.T.nolimit hg hobj hints (Nat.le_trans hlen (by decide)) hr hF hb (fun H hO hS=>?_) fun H e s' z=>z
 refine ⟨[.ref a],fun b=>if b=a then some (.ro (ns.map D.int)) else none,fun d M'=>d=.bl true,isl_cons.mpr ⟨.ref a,[],rfl,is_ref.mpr rfl,isl_nil.mpr rfl⟩,fun b o e=>?_,hs a ns _ _ (if_pos rfl) hlen hbits (fun _=>rfl),fun v H' d M' _ i _ e=>?_⟩
 ·have e:(if b=a then some (MO.ro (ns.map D.int)) else none)=some o:=e
  by_cases z:b=a
  ·rw [if_pos z] at e
   cases e
   subst z
   exact ⟨_,hS,IsL.ints⟩
  ·rw [if_neg z] at e;cases e
 ·subst e
  rw [is_bl] at i
  exact i
mutual
def pd:D->PyData
 | .non=>.none
 | .bl b=>.bool b
 | .int i=>.int i
 | .str x=>.str x
 | .ty _=>.none
 | .tup ds=>.tuple (pdL ds)
 | .ref _=>.none
def pdL:List D->List PyData
 | []=>[]
 | d :: ds=>pd d :: pdL ds
end
mutual
def imm:D->Bool
 | .non=>true
 | .bl _=>true
 | .int _=>true
 | .str x=>PyData.strOk x
 | .ty _=>false
 | .tup ds=>immL ds
 | .ref _=>false
def immL:List D->Bool
 | []=>true
 | d :: ds=>imm d && immL ds
end
section
variable {X:Cx} {pins:List (Addr × Obj)} {σ:St} {H:Hp} {s:Shared}
mutual
theorem reads_of (I:L2.Inv X pins σ H s):∀ (d:D) (v:V) (u:Value),Is H d v->RelV v u->imm d=true->∃ as,Reads s.heap u (pd d) as
 | .non,v,u,i,r,_=>by
  rw [is_non] at i;subst i;cases r
  unfold pd;exact ⟨_,.none⟩
 | .bl b,v,u,i,r,_=>by
  rw [is_bl] at i;subst i;cases r
  unfold pd;exact ⟨_,.bool b⟩
 | .int b,v,u,i,r,_=>by
  rw [is_int] at i;subst i;obtain ⟨t,rfl⟩:=r
  unfold pd;exact ⟨_,.int b t⟩
 | .str b,v,u,i,r,_=>by
  rw [is_str] at i;subst i;obtain ⟨t,rfl⟩:=r
  unfold pd;exact ⟨_,.str b t⟩
 | .ty _,_,_,_,_,h=>by unfold imm at h;cases h
 | .ref _,_,_,_,_,h=>by unfold imm at h;cases h
 | .tup ds,v,u,i,r,h=>by
  rw [is_tup] at i
  obtain ⟨a,xs,rfl,h1,h2⟩:=i
  cases r
  unfold imm at h
  obtain ⟨_,its,rv,o,ho,hc,n,hd⟩:=I.hok a _ h1
  obtain ⟨as,q⟩:=readsAll_of I ds xs its h2 rv h
  unfold pd
  exact ⟨as,.tuple ho hc hd (by simpa using q)⟩
theorem readsAll_of (I:L2.Inv X pins σ H s):∀ (ds:List D) (vs:List V) (us:List Value),IsL H ds vs->Vals vs us->immL ds=true->∃ as,ReadsAll s.heap us (pdL ds) as
 | [],vs,us,i,r,_=>by
  rw [isl_nil] at i;subst i;cases r
  unfold pdL;exact ⟨_,.nil⟩
 | d :: ds,vs,us,i,r,h=>by
  rw [isl_cons] at i
  obtain ⟨x,xs,rfl,i1,i2⟩:=i
  unfold immL at h
  rw [Bool.and_eq_true] at h
  cases r with
  | cons r1 r2 =>
   obtain ⟨as,q1⟩:=reads_of I d x _ i1 r1 h.1
   obtain ⟨bs,q2⟩:=readsAll_of I ds xs _ i2 r2 h.2
   unfold pdL
   exact ⟨_,.cons q1 q2⟩
end
mutual
theorem canLay_imm:∀ d:D,imm d=true->(pd d).canLay0=true
 | .non,_=>by simp only [pd,PyData.canLay0]
 | .bl _,_=>by simp only [pd,PyData.canLay0]
 | .int _,_=>by simp only [pd,PyData.canLay0]
 | .str x,h=>by
  unfold imm at h
  simp only [pd,PyData.canLay0];exact h
 | .ty _,h=>by unfold imm at h;cases h
 | .ref _,h=>by unfold imm at h;cases h
 | .tup ds,h=>by
  unfold imm at h
  simp only [pd,PyData.canLay0]
  exact canLayL_imm ds h
theorem canLayL_imm:∀ ds:List D,immL ds=true->PyData.canLayAll0 (pdL ds)=true
 | [],_=>by simp only [pdL,PyData.canLayAll0]
 | d :: ds,h=>by
  unfold immL at h
  rw [Bool.and_eq_true] at h
  simp only [pdL,PyData.canLayAll0,canLay_imm d h.1,canLayL_imm ds h.2,Bool.and_self]
end
end
section
variable {X:Cx} {G:Ga} {M:MH} {a b e:Expr} {pos:Pos} {Q:DK}
theorem tv_cval {op:CmpOp} {Qb:Bool->MH->Prop} (hm:behindInMarks op b=false)
  (h:∀ (pins:List (Addr × Obj)) (s:Shared) (σ:St) (H:Hp),L2.Inv X pins σ H s->Rel X G M σ H->wpAny (model X.prog X.w) X.A (eval a X.env) (fun v s1=>wpAny (model X.prog X.w) X.A (eval b X.env) (fun u s2=>wpAny (model X.prog X.w) X.A (compareOp op v u) (EPD X pins σ G H fun d M'=>∃ k,d=.bl k/\Qb k M') X.xe s2) X.xe s1) X.xe s):TV X G M (.Compare a [op] [b] pos) Qb:=by
 intro pins s σ H I R
 refine wpAny_isTrue_Compare1 (thn (h pins s σ H I R) fun v s1 h1=>thn h1 fun u s2 h2=>thn h2 fun w s3 ⟨z,H3,d,M3,I3,r3,g3,i3,R3,k,e,q⟩=>?_) hm
 subst e
 rw [is_bl] at i3;subst i3
 cases r3
 exact wpAny_truthy_bool ⟨H3,M3,I3,g3,R3,q⟩
theorem IsL.set {H:Hp}:∀ {ds:List D} {vs:List V} (j:Nat) {d:D} {v:V},IsL H ds vs->Is H d v->IsL H (ds.set j d) (vs.set j v)
 | [],vs,j,d,v,h,_=>by rw [isl_nil] at h;subst h;rw [List.set_nil,List.set_nil,isl_nil]
 | d' :: ds,vs,0,d,v,h,k=>by
  rw [isl_cons] at h
  obtain ⟨x,r,rfl,h1,h2⟩:=h
  rw [List.set_cons_zero,List.set_cons_zero,isl_cons]
  exact ⟨v,r,rfl,k,h2⟩
 | d' :: ds,vs,j+1,d,v,h,k=>by
  rw [isl_cons] at h
  obtain ⟨x,r,rfl,h1,h2⟩:=h
  rw [List.set_cons_succ,List.set_cons_succ,isl_cons]
  exact ⟨x,r.set j v,rfl,h1,h2.set j k⟩
theorem bootIntT:bootBuiltins "int" = some (.type "int"):=by decide +kernel
theorem ev_intC {p:Pos} (hm:X.mg "int" = none) (h:AV X G M [e] fun ds M1=>(∃ i,ds=[.int i]/\Q (.int i) M1)\/∃ k:Bool,ds=[.bl k]/\Q (.int (if k then 1 else 0)) M1) (hg:Gl X "int" := by rfl)
  (he:SeX X e:=by rfl) (hpl:NpX X pos:=by rfl):EV X G M (.Call (.Name "int" p) [e] [] pos) Q :=
 ev_callTy call_int1 hm bootIntT (h.mono fun ds M1 hq=>fun H xs kf hx m=>by
  rcases hq with ⟨i,rfl,q⟩ | ⟨k,rfl,q⟩
  ·obtain ⟨v,rfl,hv⟩:=isl1 hx
   rw [is_int] at hv;subst hv
   exact .inl ⟨i,rfl,fun _=>⟨Grow.refl _,_,M1,is_int.mpr rfl,m,q⟩⟩
  ·obtain ⟨v,rfl,hv⟩:=isl1 hx
   rw [is_bl] at hv;subst hv
   exact .inr ⟨k,rfl,fun _=>⟨Grow.refl _,_,M1,is_int.mpr rfl,m,q⟩⟩) hg (by decide) (by decide) he hpl
end
def SubL (da db:D) (M:MH) (Q:DK):Prop:=match da,db with
 | .int i,.int j=>Q (.int (i - j)) M
 | _,_=>False
def MulL (da db:D) (M:MH) (Q:DK):Prop:=match da,db with
 | .int i,.int j=>IntMulOk i j/\Q (.int (i * j)) M
 | _,_=>False
def DivL (da db:D) (M:MH) (Q:DK):Prop:=match da,db with
 | .int i,.int j=>CDivB i j/\Q (.int (i.fdiv j)) M
 | _,_=>False
def ModL (da db:D) (M:MH) (Q:DK):Prop:=match da,db with
 | .int i,.int j=>j≠0/\Q (.int (i.fmod j)) M
 | _,_=>False
def PowL (da db:D) (M:MH) (Q:DK):Prop:=match da,db with
 | .int i,.int j=>CPow i j/\Q (.int (i ^ j.toNat)) M
 | _,_=>False
def NegL (da:D) (M:MH) (Q:DK):Prop:=match da with
 | .int i=>Q (.int (-i)) M
 | _=>False
def CmpL (p:Int->Int->Bool) (da db:D) (M:MH) (Qb:Bool->MH->Prop):Prop:=match da,db with
 | .int i,.int j=>Qb (p i j) M
 | _,_=>False
def eqB (da db:D):Bool:=match da,db with
 | .int i,.int j=>decide (i=j)
 | .bl i,.bl j=>decide (i=j)
 | .str i,.str j=>decide (i=j)
 | _,_=>PyData.eqv (pd da) (pd db)
def EqOk (da db:D):Prop:=match da,db with
 | .int _,.int _=>True
 | .bl _,.bl _=>True
 | .str _,.str _=>True
 | _,_=>imm da=true/\imm db=true/\(pd da).depth<=60
def EqL (da db:D) (M:MH) (Qb:Bool->MH->Prop):Prop:=EqOk da db/\Qb (eqB da db) M
section
variable {X:Cx} {G:Ga} {M:MH} {a b c e:Expr} {es rest:List Expr} {pos:Pos} {Q:DK} {Qb:Bool->MH->Prop} {i j:Int}
theorem add_ii (q:Q (.int (i+j)) M):AddD (.int i) (.int j) M Q:=q
theorem add_tt {xs ys:List D} (h:xs≠[]) (z:xs.length+ys.length<=sizeLine) (q:Q (.tup (xs++ys)) M):AddD (.tup xs) (.tup ys) M Q:=⟨h,z,q⟩
theorem add_ll {l k:Addr} {xs ys:List D} (h:M l=some (.lst xs)) (h':M k=some (.lst ys)) (z:xs.length+ys.length<=sizeLine) (q:∀ p,M p=none->Q (.ref p) (mset M p (.lst (xs++ys)))):AddD (.ref l) (.ref k) M Q:=⟨xs,ys,h,h',z,q⟩
theorem sub_l (q:Q (.int (i - j)) M):SubL (.int i) (.int j) M Q:=q
theorem mul_l (c:IntMulOk i j) (q:Q (.int (i * j)) M):MulL (.int i) (.int j) M Q:=⟨c,q⟩
theorem div_l (c:CDivB i j) (q:Q (.int (i.fdiv j)) M):DivL (.int i) (.int j) M Q:=⟨c,q⟩
theorem mod_l (c:j≠0) (q:Q (.int (i.fmod j)) M):ModL (.int i) (.int j) M Q:=⟨c,q⟩
theorem pow_n {k:Int} (e:i ^ j.toNat=k) (c:CPow i j) (q:Q (.int k) M):PowL (.int i) (.int j) M Q:=⟨c,by rw [e];exact q⟩
theorem neg_l (q:Q (.int (-i)) M):NegL (.int i) M Q:=q
theorem cmp_l {p:Int->Int->Bool} (q:Qb (p i j) M):CmpL p (.int i) (.int j) M Qb:=q
theorem eq_ii (q:Qb (decide (i=j)) M):EqL (.int i) (.int j) M Qb:=⟨trivial,q⟩
theorem eq_ss {i j:Str} (q:Qb (decide (i=j)) M):EqL (.str i) (.str j) M Qb:=⟨trivial,q⟩
theorem ix_tl {ds:List D} {d:D} (e:atI ds i=some d) (q:Q d M):IxD (.tup ds) i M Q:=⟨d,e,q⟩
theorem ix_ll {l:Addr} {ds:List D} {d:D} (h:M l=some (.lst ds)) (e:atI ds i=some d) (q:Q d M):IxD (.ref l) i M Q:=.inl ⟨ds,d,h,e,q⟩
theorem ix_rl {l:Addr} {ds:List D} {d:D} (h:M l=some (.ro ds)) (e:atI ds i=some d) (q:Q d M):IxD (.ref l) i M Q:=.inr ⟨ds,d,h,e,q⟩
theorem SubL.ex {da db:D} (h:SubL da db M Q):∃ i j,da=.int i/\db=.int j/\Q (.int (i - j)) M:=by
 unfold SubL at h;split at h
 ·exact ⟨_,_,rfl,rfl,h⟩
 ·exact h.elim
theorem MulL.ex {da db:D} (h:MulL da db M Q):∃ i j,da=.int i/\db=.int j/\IntMulOk i j/\Q (.int (i * j)) M:=by
 unfold MulL at h;split at h
 ·exact ⟨_,_,rfl,rfl,h⟩
 ·exact h.elim
theorem DivL.ex {da db:D} (h:DivL da db M Q):∃ i j,da=.int i/\db=.int j/\CDivB i j/\Q (.int (i.fdiv j)) M:=by
 unfold DivL at h;split at h
 ·exact ⟨_,_,rfl,rfl,h⟩
 ·exact h.elim
theorem ModL.ex {da db:D} (h:ModL da db M Q):∃ i j,da=.int i/\db=.int j/\j≠0/\Q (.int (i.fmod j)) M:=by
 unfold ModL at h;split at h
 ·exact ⟨_,_,rfl,rfl,h⟩
 ·exact h.elim
theorem PowL.ex {da db:D} (h:PowL da db M Q):∃ i j,da=.int i/\db=.int j/\CPow i j/\Q (.int (i ^ j.toNat)) M:=by
 unfold PowL at h;split at h
 ·exact ⟨_,_,rfl,rfl,h⟩
 ·exact h.elim
theorem NegL.ex {da:D} (h:NegL da M Q):∃ i,da=.int i/\Q (.int (-i)) M:=by
 unfold NegL at h;split at h
 ·exact ⟨_,rfl,h⟩
 ·exact h.elim
theorem CmpL.ex {p:Int->Int->Bool} {da db:D} (h:CmpL p da db M Qb):∃ i j,da=.int i/\db=.int j/\Qb (p i j) M:=by
 unfold CmpL at h;split at h
 ·exact ⟨_,_,rfl,rfl,h⟩
 ·exact h.elim
theorem l_sub (h:EV X G M a fun da Ma=>EV X G Ma b fun db Mb=>SubL da db Mb Q):EV X G M (.BinOp a .Sub b pos) Q:=ev_sub (h.mono fun _ _ h1=>h1.mono fun _ _ h2=>h2.ex)
theorem l_mul (h:EV X G M a fun da Ma=>EV X G Ma b fun db Mb=>MulL da db Mb Q):EV X G M (.BinOp a .Mult b pos) Q:=ev_mul (h.mono fun _ _ h1=>h1.mono fun _ _ h2=>h2.ex)
theorem l_fdiv (h:EV X G M a fun da Ma=>EV X G Ma b fun db Mb=>DivL da db Mb Q):EV X G M (.BinOp a .FloorDiv b pos) Q:=ev_fdiv (h.mono fun _ _ h1=>h1.mono fun _ _ h2=>h2.ex)
theorem l_mod (h:EV X G M a fun da Ma=>EV X G Ma b fun db Mb=>ModL da db Mb Q):EV X G M (.BinOp a .Mod b pos) Q:=ev_mod (h.mono fun _ _ h1=>h1.mono fun _ _ h2=>h2.ex)
theorem l_pow (h:EV X G M a fun da Ma=>EV X G Ma b fun db Mb=>PowL da db Mb Q):EV X G M (.BinOp a .Pow b pos) Q:=ev_pow (h.mono fun _ _ h1=>h1.mono fun _ _ h2=>h2.ex)
theorem l_neg (h:EV X G M a fun da Ma=>NegL da Ma Q):EV X G M (.UnaryOp .USub a pos) Q:=ev_neg (h.mono fun _ _ h1=>h1.ex)
theorem l_lt (h:EV X G M a fun da Ma=>EV X G Ma b fun db Mb=>CmpL (fun i j=>decide (i < j)) da db Mb fun k M'=>Q (.bl k) M'):EV X G M (.Compare a [.Lt] [b] pos) Q:=ev_lt (h.mono fun _ _ h1=>h1.mono fun _ _ h2=>h2.ex)
theorem l_gt (h:EV X G M a fun da Ma=>EV X G Ma b fun db Mb=>CmpL (fun i j=>decide (j < i)) da db Mb fun k M'=>Q (.bl k) M'):EV X G M (.Compare a [.Gt] [b] pos) Q:=ev_gt (h.mono fun _ _ h1=>h1.mono fun _ _ h2=>h2.ex)
theorem l_ge (h:EV X G M a fun da Ma=>EV X G Ma b fun db Mb=>CmpL (fun i j=>decide (j<=i)) da db Mb fun k M'=>Q (.bl k) M'):EV X G M (.Compare a [.GtE] [b] pos) Q:=ev_ge (h.mono fun _ _ h1=>h1.mono fun _ _ h2=>h2.ex)
theorem lt_lt (h:EV X G M a fun da Ma=>EV X G Ma b fun db Mb=>CmpL (fun i j=>decide (i < j)) da db Mb Qb):TV X G M (.Compare a [.Lt] [b] pos) Qb:=tv_lt (h.mono fun _ _ h1=>h1.mono fun _ _ h2=>h2.ex)
theorem lt_le (h:EV X G M a fun da Ma=>EV X G Ma b fun db Mb=>CmpL (fun i j=>decide (i<=j)) da db Mb Qb):TV X G M (.Compare a [.LtE] [b] pos) Qb:=tv_le (h.mono fun _ _ h1=>h1.mono fun _ _ h2=>h2.ex)
theorem lt_gt (h:EV X G M a fun da Ma=>EV X G Ma b fun db Mb=>CmpL (fun i j=>decide (j < i)) da db Mb Qb):TV X G M (.Compare a [.Gt] [b] pos) Qb:=tv_gt (h.mono fun _ _ h1=>h1.mono fun _ _ h2=>h2.ex)
theorem eqL_cases {da db:D} (h:EqL da db M Qb):(∃ k,EqD da db k/\Qb k M)\/(imm da=true/\imm db=true/\(pd da).depth<=60/\Qb (PyData.eqv (pd da) (pd db)) M):=by
 obtain ⟨h,q⟩:=h
 unfold EqOk at h
 unfold eqB at q
 split at h
 ·exact .inl ⟨_,rfl,q⟩
 ·exact .inl ⟨_,rfl,q⟩
 ·exact .inl ⟨_,rfl,q⟩
 ·rename_i h1 h2 h3
  split at q
  ·exact absurd rfl (fun z=>h1 _ _ rfl z)
  ·exact absurd rfl (fun z=>h2 _ _ rfl z)
  ·exact absurd rfl (fun z=>h3 _ _ rfl z)
  ·exact .inr ⟨h.1,h.2.1,h.2.2,q⟩
theorem eqL_run {neg:Bool} {op:CmpOp} (ho:op=if neg then .NotEq else .Eq) (hu:X.A.units+64 < cLine) {pins:List (Addr × Obj)} {σ:St} {H:Hp} {s:Shared} {da db:D} {x y:V} {v u:Value} (I:L2.Inv X pins σ H s) (R:Rel X G M σ H) (i1:Is H da x) (i2:Is H db y) (r1:RelV x v) (r2:RelV y u)
  (h:EqL da db M fun k M'=>Q (.bl (if neg then !k else k)) M'):wpAny (model X.prog X.w) X.A (compareOp op v u) (EPD X pins σ G H Q) X.xe s:=by
 subst ho
 rcases eqL_cases h with ⟨k,e1,q⟩ | ⟨m1,m2,hd,q⟩
 ·obtain ⟨h2,h3⟩:=eqD_val e1 i1 i2
  cases neg with
  | false =>
   refine thn (op_eq pins s σ H x y v u (fun z H3=>z=.bl (decide (x=y))/\H3=H) I r1 r2 ⟨h2,rfl,rfl⟩) fun w s3 hw=>?_
   obtain ⟨z,H3,I3,r3,e3,e4⟩:=hw
   subst e3;subst e4
   exact ⟨_,H3,.bl k,M,I3,r3,Grow.refl _,is_bl.mpr (by rw [h3]),R,q⟩
  | true =>
   refine thn (op_ne pins s σ H x y v u (fun z H3=>z=.bl (!decide (x=y))/\H3=H) I r1 r2 ⟨h2,rfl,rfl⟩) fun w s3 hw=>?_
   obtain ⟨z,H3,I3,r3,e3,e4⟩:=hw
   subst e3;subst e4
   exact ⟨_,H3,.bl (!k),M,I3,r3,Grow.refl _,is_bl.mpr (by rw [h3]),R,q⟩
 ·obtain ⟨as,ra⟩:=reads_of I da x v i1 r1 m1
  obtain ⟨bs,rb⟩:=reads_of I db y u i2 r2 m2
  have hmin:min (pd da).depth (pd db).depth<=(pd da).depth:=Nat.min_le_left _ _
  cases neg with
  | false=>exact PySem.SeqAt.compareEq_reads ra rb (canLay_imm _ m1) (canLay_imm _ m2) (by omega) ⟨.bl _,H,.bl _,M,I,rfl,Grow.refl _,is_bl.mpr rfl,R,q⟩
  | true=>exact PySem.SeqAt.compareNe_reads ra rb (canLay_imm _ m1) (canLay_imm _ m2) (by omega) ⟨.bl _,H,.bl _,M,I,rfl,Grow.refl _,is_bl.mpr rfl,R,q⟩
theorem l_eq (hu:X.A.units+64 < cLine) (h:EV X G M a fun da Ma=>EV X G Ma b fun db Mb=>EqL da db Mb fun k M'=>Q (.bl k) M'):EV X G M (.Compare a [.Eq] [b] pos) Q:=by
 intro pins s σ H I R
 refine wpAny_Compare1 ?_ (nomark _)
 refine thn (h pins s σ H I R) fun v s1 ⟨x,H1,da,Ma,I1,r1,g1,i1,R1,q1⟩=>?_
 refine thn (q1 pins s1 σ H1 I1 R1) fun u s2 ⟨y,H2,db,Mb,I2,r2,g2,i2,R2,q⟩=>?_
 exact thn (eqL_run (neg:=false) rfl hu I2 R2 (Is.grow g2 _ _ i1) i2 r1 r2 q) fun _ _ h=>h.grow (g1.trans g2)
theorem lt_eq (hu:X.A.units+64 < cLine) (h:EV X G M a fun da Ma=>EV X G Ma b fun db Mb=>EqL da db Mb Qb):TV X G M (.Compare a [.Eq] [b] pos) Qb:=by
 refine tv_cval (nomark _) fun pins s σ H I R=>?_
 refine thn (h pins s σ H I R) fun v s1 ⟨x,H1,da,Ma,I1,r1,g1,i1,R1,q1⟩=>?_
 refine thn (q1 pins s1 σ H1 I1 R1) fun u s2 ⟨y,H2,db,Mb,I2,r2,g2,i2,R2,q⟩=>?_
 exact thn (eqL_run (neg:=false) rfl hu I2 R2 (Is.grow g2 _ _ i1) i2 r1 r2 (Q:=fun d M'=>∃ k,d=.bl k/\Qb k M') ⟨q.1,_,rfl,q.2⟩) fun _ _ h=>h.grow (g1.trans g2)
theorem lt_ne (hu:X.A.units+64 < cLine) (h:EV X G M a fun da Ma=>EV X G Ma b fun db Mb=>EqL da db Mb fun k M'=>Qb (!k) M'):TV X G M (.Compare a [.NotEq] [b] pos) Qb:=by
 refine tv_cval (nomark _) fun pins s σ H I R=>?_
 refine thn (h pins s σ H I R) fun v s1 ⟨x,H1,da,Ma,I1,r1,g1,i1,R1,q1⟩=>?_
 refine thn (q1 pins s1 σ H1 I1 R1) fun u s2 ⟨y,H2,db,Mb,I2,r2,g2,i2,R2,q⟩=>?_
 exact thn (eqL_run (neg:=true) rfl hu I2 R2 (Is.grow g2 _ _ i1) i2 r1 r2 (Q:=fun d M'=>∃ k,d=.bl k/\Qb k M') ⟨q.1,_,rfl,q.2⟩) fun _ _ h=>h.grow (g1.trans g2)
theorem tv_call {f:Expr} {kws:List Keyword} (h:EV X G M (.Call f es kws pos) fun d M'=>∃ k,TruD X.K d M' k/\Qb k M') (he:∀ whole,isTrue (.Call f es kws pos) X.env whole=(do let v <- whole;standAt (Expr.Call f es kws pos).pos;holding [v] (truthy v)):=by intro _;rfl):TV X G M (.Call f es kws pos) Qb:=tv_of h he
theorem ev_callM {j k:Nat} {x:Str} {p:Pos} {sp:SpD} (C:Cal X.prog X.w X.K X.mg X.base j x sp) (hr:Room k X.A) (hk:j<=k) (h:AV X G M (e :: es) fun ds M1=>sp ds M1 Q) (hg:Gl X x:=by rfl) (hdb:(x == ("__debug__" : Str))=false:=by decide)
  (he:starEach (e :: es) X.env=(false,eval e X.env) :: starEach es X.env:=by rfl) (hpl:(backTo pos (starEach es X.env)).any (·.1)=false:=by rfl):EV X G M (.Call (.Name x p) (e :: es) [] pos) Q:=ev_call (C.mono hk) hr h hg hdb he hpl
theorem tvs_one (h:TV X G M c Qb):TVs X G M [c] Qb:=h
theorem tvs_nil (h:Qb true M):TVs X G M [] Qb:=h
theorem exs_join {st:Stmt} {sts:List Stmt} {E:EndsD} (J:Ga->MH->Prop) (h:EX X G M st { E with nx:=J }) (k:∀ G' M',J G' M'->EXs X G' M' sts E):EXs X G M (st :: sts) E:=by
 refine exs_cons ?_
 intro pins s σ H I R
 refine thn (h pins s σ H I R) fun f s1 q=>?_
 cases f with
 | next=>obtain ⟨σ',H',G',M',I',g',R',q⟩:=q;exact ⟨σ',H',G',M',I',g',R',k _ _ q⟩
 | ret v=>exact q
 | brk=>exact q
 | cont=>exact q
theorem ifD {c A B:Prop} [Decidable c] (h1:c->A) (h2:¬ c->B):if decide c=true then A else B:=by
 by_cases h:c
 ·rw [if_pos (decide_eq_true h)];exact h1 h
 ·rw [if_neg (by simp [h])];exact h2 h
theorem ifN {c A B:Prop} [Decidable c] (h1:¬ c->A) (h2:c->B):if (!decide c)=true then A else B:=by
 by_cases h:c
 ·rw [if_neg (by simp [h])];exact h2 h
 ·rw [if_pos (by simp [h])];exact h1 h
theorem ifT {A B:Prop} (h:A):if true=true then A else B:=by rw [if_pos rfl];exact h
theorem ifF {A B:Prop} (h:B):if false=true then A else B:=by rw [if_neg (by decide)];exact h
theorem ifNT {A B:Prop} (h:B):if (!true)=true then A else B:=by rw [if_neg (by decide)];exact h
theorem ifNF {A B:Prop} (h:A):if (!false)=true then A else B:=by rw [if_pos (by decide)];exact h
theorem ifDy {c A B:Prop} [Decidable c] (h:c) (a:A):if decide c=true then A else B:=by rw [if_pos (decide_eq_true h)];exact a
theorem ifDn {c A B:Prop} [Decidable c] (h:¬ c) (b:B):if decide c=true then A else B:=by rw [if_neg (by simp [h])];exact b
theorem ifNn {c A B:Prop} [Decidable c] (h:c) (b:B):if (!decide c)=true then A else B:=by rw [if_neg (by simp [h])];exact b
end
def lkD:List (Str × D)->Str->Option D
 | [],_=>none
 | (x,d) :: r,k=>if x=k then some d else lkD r k
def putD (kvs:List (Str × D)) (k:Str) (d:D):List (Str × D) :=
 if (kvs.any fun kv=>decide (kv.1=k))=true then kvs.map (fun kv=>if kv.1=k then (kv.1,d) else kv) else kvs++[(k,d)]
theorem lkD_cons (x:Str) (d:D) (r:List (Str × D)) (k:Str):lkD ((x,d) :: r) k=if x=k then some d else lkD r k:=rfl
theorem KvIs.len {H:Hp}:∀ {kvs:List (Str × D)} {ys:List (Key × V)},KvIs H kvs ys->kvs.length=ys.length
 | [],ys,h=>by rw [show ys=[] from h];rfl
 | (k,d) :: r,ys,h=>by
  obtain ⟨v,ys',rfl,_,h2⟩:=h
  rw [List.length_cons,List.length_cons,KvIs.len h2]
theorem KvIs.val {H:Hp}:∀ {kvs:List (Str × D)} {ys:List (Key × V)} (k:Str),KvIs H kvs ys->match lkD kvs k with
  | some d=>∃ v,valV ys (Sum.inr k)=some v/\Is H d v
  | none=>valV ys (Sum.inr k)=none
 | [],ys,k,h=>by rw [show ys=[] from h];exact valV_nil
 | (x,d) :: r,ys,k,h=>by
  obtain ⟨v,ys',rfl,h1,h2⟩:=h
  have ih:=KvIs.val k h2
  rw [lkD_cons]
  by_cases e:x=k
  ·rw [if_pos e]
   exact ⟨v,valV_pos (by rw [e]),h1⟩
  ·rw [if_neg e]
   have hne:¬ (Sum.inr x:Key)=Sum.inr k:=fun z=>e (Sum.inr.inj z)
   rw [valV_neg (p:=(Sum.inr x,v)) hne]
   exact ih
theorem KvIs.get {H:Hp} {kvs:List (Str × D)} {ys:List (Key × V)} {k:Str} {d:D} (h:KvIs H kvs ys) (e:lkD kvs k=some d):∃ v,valV ys (Sum.inr k)=some v/\Is H d v:=by
 have:=h.val k;rw [e] at this;exact this
theorem KvIs.some_eq {H:Hp} {kvs:List (Str × D)} {ys:List (Key × V)} (h:KvIs H kvs ys) (k:Str):(valV ys (Sum.inr k)).isSome=(lkD kvs k).isSome:=by
 have:=h.val k
 cases e:lkD kvs k with
 | none=>rw [e] at this;rw [show valV ys (Sum.inr k)=none from this];rfl
 | some d=>rw [e] at this;obtain ⟨v,h1,_⟩:=this;rw [h1];rfl
theorem KvIs.any {H:Hp} {k:Str}:∀ {kvs:List (Str × D)} {ys:List (Key × V)},KvIs H kvs ys->(kvs.any fun kv=>decide (kv.1=k))=ys.any fun kv=>decide (kv.1=Sum.inr k)
 | [],ys,h=>by rw [show ys=[] from h];rfl
 | (x,d) :: r,ys,h=>by
  obtain ⟨v,ys',rfl,h1,h2⟩:=h
  rw [List.any_cons,List.any_cons,KvIs.any h2,key_rr]
theorem KvIs.repl {H:Hp} {k:Str} {d:D} {v:V} (i:Is H d v):∀ {kvs:List (Str × D)} {ys:List (Key × V)},KvIs H kvs ys ->
  KvIs H (kvs.map fun kv=>if kv.1=k then (kv.1,d) else kv) (ys.map fun kv=>if kv.1=Sum.inr k then (kv.1,v) else kv)
 | [],ys,h=>by rw [show ys=[] from h];rfl
 | (x,e) :: r,ys,h=>by
  obtain ⟨u,ys',rfl,h1,h2⟩:=h
  have ih:=KvIs.repl (k:=k) i h2
  rw [List.map_cons,List.map_cons]
  by_cases z:x=k
  ·rw [if_pos z,if_pos (by rw [z])]
   exact ⟨v,_,rfl,i,ih⟩
  ·rw [if_neg z,if_neg (fun q=>z (Sum.inr.inj q))]
   exact ⟨u,_,rfl,h1,ih⟩
theorem KvIs.snoc {H:Hp} {k:Str} {d:D} {v:V} (i:Is H d v):∀ {kvs:List (Str × D)} {ys:List (Key × V)},KvIs H kvs ys->KvIs H (kvs++[(k,d)]) (ys++[(Sum.inr k,v)])
 | [],ys,h=>by rw [show ys=[] from h];exact ⟨v,[],rfl,i,rfl⟩
 | (x,e) :: r,ys,h=>by
  obtain ⟨u,ys',rfl,h1,h2⟩:=h
  exact ⟨u,_,rfl,h1,KvIs.snoc i h2⟩
theorem KvIs.put {H:Hp} {k:Str} {d:D} {v:V} (i:Is H d v) {kvs:List (Str × D)} {ys:List (Key × V)} (h:KvIs H kvs ys):KvIs H (putD kvs k d) (putK ys (Sum.inr k) v):=by
 unfold putD putK
 rw [h.any]
 split
 ·exact h.repl i
 ·exact h.snoc i
section
variable {X:Cx} {G:Ga} {M:MH} {a b c e o i:Expr} {es rest:List Expr} {pos:Pos} {Q:DK} {Qb:Bool->MH->Prop}
theorem ev_dnew (h:∀ p,M p=none->Q (.ref p) (mset M p (.dic []))):EV X G M (.Dict [] [] pos) Q :=
 EV.of pe_dnewK fun σ H kf R=>fun p hp kf'=>⟨grow_new hp,.ref p,mset M p (.dic []),is_ref.mpr rfl,R.mem.lay hp ⟨[],upd_same,rfl⟩,h p (R.mem.fresh hp kf')⟩
def IxA (da db:D) (M:MH) (Q:DK):Prop:=match db with
 | .int i=>match da with
  | .str z=>∃ c,z.length<=sizeLine/\atI z.cps.toList i=some c/\Q (.str ⟨#[c]⟩) M
  | _=>IxD da i M Q
 | .str k=>∃ p kvs d,da=.ref p/\M p=some (.dic kvs)/\lkD kvs k=some d/\Q d M
 | _=>False
theorem ix_at {ds:List D} {j:Int} {d:D} (e:atI ds j=some d) (q:Q d M):IxA (.tup ds) (.int j) M Q:=ix_tl e q
theorem ix_al {l:Addr} {ds:List D} {j:Int} {d:D} (h:M l=some (.lst ds)) (e:atI ds j=some d) (q:Q d M):IxA (.ref l) (.int j) M Q:=ix_ll h e q
theorem ix_ar {l:Addr} {ds:List D} {j:Int} {d:D} (h:M l=some (.ro ds)) (e:atI ds j=some d) (q:Q d M):IxA (.ref l) (.int j) M Q:=ix_rl h e q
theorem ix_ad {p:Addr} {kvs:List (Str × D)} {k:Str} {d:D} (h:M p=some (.dic kvs)) (e:lkD kvs k=some d) (q:Q d M):IxA (.ref p) (.str k) M Q:=⟨p,kvs,d,rfl,h,e,q⟩
theorem ix_dict (hu:X.A.units+1 < cLine):IxR X (fun x y H Q=>∃ a v,x=.ref a/\DGet H a y (some v)/\Q v H):=by
 intro value slice pins s σ H x y v u Q I rx ry h hs
 obtain ⟨a,z,rfl,g,q⟩:=h
 cases rx
 exact tail_any (dict_typeIs I g) PySem.F.slot_dict_getitem.lookup (d_getItem hu I g ry fun w' s3 I3 rw'=>⟨z,H,I3,rw',q⟩) hs
theorem rd_ixA {da db:D} (h:IxA da db M Q):RD X.K (fun x y H Q=>rIx X.K x y H Q\/∃ a v,x=.ref a/\DGet H a y (some v)/\Q v H) da db M Q:=by
 intro H x y kf hx hy m
 unfold IxA at h
 cases db with
 | int i =>
  cases da with
  | str z =>
   obtain ⟨c,h1,h2,q⟩:=h
   rw [is_int] at hy;subst hy
   rw [is_str] at hx;subst hx
   exact .inl (.inr (.inr ⟨z,i,c,rfl,rfl,h1,h2,fun _=>⟨Grow.refl _,_,M,is_str.mpr rfl,m,q⟩⟩))
  | non=>exact h.elim
  | bl _=>exact h.elim
  | int _=>exact h.elim
  | ty _=>exact h.elim
  | tup ds=>exact .inl (rd_ix (X:=X) h H x y kf hx hy m)
  | ref l=>exact .inl (rd_ix (X:=X) h H x y kf hx hy m)
 | str k =>
  obtain ⟨p,kvs,d,rfl,h1,h2,q⟩:=h
  rw [is_ref] at hx;subst hx
  rw [is_str] at hy;subst hy
  obtain ⟨ys,e1,e2⟩:=m p _ h1
  obtain ⟨v,e3,e4⟩:=e2.get h2
  exact .inr ⟨p,v,rfl,by rw [<- e3];exact DGet.k (k:=Sum.inr k) e1,fun _=>⟨Grow.refl _,d,M,e4,m,q⟩⟩
 | non=>exact h.elim
 | bl _=>exact h.elim
 | ty _=>exact h.elim
 | tup _=>exact h.elim
 | ref _=>exact h.elim
theorem l_item (hu:X.A.units+64 < cLine) (h:EV X G M a fun da Ma=>EV X G Ma b fun db Mb=>IxA da db Mb Q) (hs:PlainIx b):EV X G M (.Subscript a b pos) Q :=
 ev_ix (ix_seq.or (ix_dict (by omega))) hs (h.mono fun _ _ h1=>h1.mono fun _ _ q=>rd_ixA q)
def SetL (d1 d2 d:D) (M:MH) (Qm:MH->Prop):Prop:=match d1,d2 with
 | .ref p,.int k=>∃ ds j,M p=some (.lst ds)/\ixN ds.length k=some j/\Qm (mset M p (.lst (ds.set j d)))
 | .ref p,.str k=>∃ kvs,M p=some (.dic kvs)/\kvs.length < sizeLine/\Qm (mset M p (.dic (putD kvs k d)))
 | _,_=>False
theorem set_ll {p:Addr} {k:Int} {d:D} {ds:List D} {j:Nat} {Qm:MH->Prop} (h:M p=some (.lst ds)) (e:ixN ds.length k=some j) (q:Qm (mset M p (.lst (ds.set j d)))):SetL (.ref p) (.int k) d M Qm:=⟨ds,j,h,e,q⟩
theorem set_dl {p:Addr} {k:Str} {d:D} {kvs:List (Str × D)} {Qm:MH->Prop} (h:M p=some (.dic kvs)) (e:kvs.length < sizeLine) (q:Qm (mset M p (.dic (putD kvs k d)))):SetL (.ref p) (.str k) d M Qm:=⟨kvs,h,e,q⟩
theorem SetL.cases {d1 d2 d:D} {Qm:MH->Prop} (h:SetL d1 d2 d M Qm):(∃ p k ds j,d1=.ref p/\d2=.int k/\M p=some (.lst ds)/\ixN ds.length k=some j/\Qm (mset M p (.lst (ds.set j d))))\/∃ p k kvs,d1=.ref p/\d2=.str k/\M p=some (.dic kvs)/\kvs.length < sizeLine/\Qm (mset M p (.dic (putD kvs k d))):=by
 unfold SetL at h
 split at h
 ·obtain ⟨ds,j,h1,h2,h3⟩:=h
  exact .inl ⟨_,_,ds,j,rfl,rfl,h1,h2,h3⟩
 ·obtain ⟨kvs,h1,h2,h3⟩:=h
  exact .inr ⟨_,_,kvs,rfl,rfl,h1,h2,h3⟩
 ·exact h.elim
theorem gv_set {d:D} {Qg:Ga->MH->Prop} (hu:X.A.units+64 < cLine) (h:EV X G M o fun d1 M1=>EV X G M1 i fun d2 M2=>SetL d1 d2 d M2 fun M3=>Qg G M3)
  (ha:∀ v,assign (.Subscript o i pos) X.env v=(do
   let ov <- holding [v] (eval o X.env)
   let iv <- holding [v,ov] (eval i X.env)
   standAt pos
   holding [v,ov,iv] (setItem ov iv v)
   release [v,ov,iv] [])):GV X G M (.Subscript o i pos) d Qg:=by
 intro pins s σ H v u I R r iv
 rw [ha]
 refine wpAny_bind (wpAny_holding (thn (h pins s σ H I R) fun ov s1 ⟨x,H1,d1,M1,I1,r1,g1,i1,R1,q1⟩=>?_))
 refine wpAny_bind (wpAny_holding (thn (q1 pins s1 σ H1 I1 R1) fun iv' s2 ⟨y,H2,d2,M2,I2,r2,g2,i2,R2,q2⟩=>?_))
 rcases SetL.cases q2 with ⟨p,k,ds,j,rfl,rfl,hp,hj,q⟩ | ⟨p,k,kvs,rfl,rfl,hp,hz,q⟩
 ·skip
  rw [is_ref] at i1;subst i1
  rw [is_int] at i2;subst i2
  obtain ⟨xs,hx,hxi⟩:=R2.mem p _ hp
  have nt:∀ ys,H2 p≠some (.tup ys):=fun ys z=>by rw [hx] at z;cases z
  have gu:Grow H2 (upd H2 p (.lst (xs.set j v))):=grow_upd nt
  refine wpAny_bind (wpAny_standAt (wpAny_bind (wpAny_holding (thn (set_list pins s2 σ H2 (.ref p) (.int k) v ov iv' u (fun H'=>H'=upd H2 p (.lst (xs.set j v))) I2 r1 r2 r ⟨p,xs,k,j,rfl,rfl,hx,by rw [<- hxi.len];exact hj,rfl⟩) fun _ s3 ⟨H3,I3,e3⟩=>?_))))
  subst e3
  refine wpAny_release ⟨σ,_,G,_,I3,(g1.trans g2).trans gu,R2.to gu (R2.mem.put (u:=.lst (ds.set j d)) nt ⟨_,upd_same,(hxi.grow gu).set j (Is.grow ((g1.trans g2).trans gu) _ _ iv)⟩),q⟩
 ·skip
  rw [is_ref] at i1;subst i1
  rw [is_str] at i2;subst i2
  obtain ⟨ys,hx,hxi⟩:=R2.mem p _ hp
  cases r1
  have nt:∀ zs,H2 p≠some (.tup zs):=fun zs z=>by rw [hx] at z;cases z
  have gu:Grow H2 (upd H2 p (.dK (putK ys (Sum.inr k) v))):=grow_upd nt
  refine wpAny_bind (wpAny_standAt (wpAny_bind (wpAny_holding (d_setItem (by omega) I2 (DPut.k (k:=Sum.inr k) hx (by rw [<- hxi.len];exact hz)) r2 r fun s3 I3=>?_))))
  refine wpAny_release ⟨σ,_,G,_,I3,(g1.trans g2).trans gu,R2.to gu (R2.mem.put (u:=.dic (putD kvs k d)) nt ⟨_,upd_same,(hxi.grow gu).put (Is.grow ((g1.trans g2).trans gu) _ _ iv)⟩),q⟩
end
end D3
namespace K01
theorem gcd_step {a b:Int} (hb:0 < b):Int.gcd b (a.fmod b)=Int.gcd a b:=by
 rw [Int.fmod_eq_emod_of_nonneg a (Int.le_of_lt hb)]
 have h:=Int.mul_ediv_add_emod a b
 apply Nat.dvd_antisymm
 ·apply Int.dvd_gcd
  ·have h1:((Int.gcd b (a % b):Nat):Int) ∣ b:=Int.gcd_dvd_left ..
   have h2:((Int.gcd b (a % b):Nat):Int) ∣ a % b:=Int.gcd_dvd_right ..
   have h3:=Int.dvd_add (Int.dvd_trans h1 (Int.dvd_mul_right b (a / b))) h2
   rw [h] at h3
   exact h3
  ·exact Int.gcd_dvd_left ..
 ·apply Int.dvd_gcd
  ·exact Int.gcd_dvd_right ..
  ·have h1:((Int.gcd a b:Nat):Int) ∣ a:=Int.gcd_dvd_left ..
   have h2:((Int.gcd a b:Nat):Int) ∣ b:=Int.gcd_dvd_right ..
   rw [Int.emod_def]
   exact Int.dvd_sub h1 (Int.dvd_trans h2 (Int.dvd_mul_right ..))
theorem fmod_lt {a b:Int} (hb:0 < b):0<=a.fmod b/\a.fmod b < b:=by
 rw [Int.fmod_eq_emod_of_nonneg a (Int.le_of_lt hb)]
 exact ⟨Int.emod_nonneg _ (by omega),Int.emod_lt_of_pos _ hb⟩
theorem gcd_zero_right' {a:Int} (h:0<=a):((Int.gcd a 0:Nat):Int)=a:=by
 rw [Int.gcd_zero_right];omega
def dv (t b:Int):Int:=if b < 0 then -((Int.gcd t b:Nat):Int) else ((Int.gcd t b:Nat):Int)
def tp (t b:Int):Int:=t.fdiv (dv t b)
def bt (t b:Int):Int:=b.fdiv (dv t b)
theorem gcd_pos {t b:Int} (h:b≠0):0 < Int.gcd t b:=Int.gcd_pos_of_ne_zero_right t h
theorem dv_ne {t b:Int} (h:b≠0):dv t b≠0:=by
 have:=gcd_pos (t:=t) h
 unfold dv;split<;>omega
theorem dv_dvd_left (t b:Int):dv t b ∣ t:=by
 unfold dv;split
 ·exact Int.neg_dvd.mpr (Int.gcd_dvd_left ..)
 ·exact Int.gcd_dvd_left ..
theorem dv_dvd_right (t b:Int):dv t b ∣ b:=by
 unfold dv;split
 ·exact Int.neg_dvd.mpr (Int.gcd_dvd_right ..)
 ·exact Int.gcd_dvd_right ..
theorem tp_eq (t b:Int):tp t b * dv t b=t:=Int.fdiv_mul_cancel_of_dvd (dv_dvd_left t b)
theorem bt_eq (t b:Int):bt t b * dv t b=b:=Int.fdiv_mul_cancel_of_dvd (dv_dvd_right t b)
theorem bt_pos {t b:Int} (h:b≠0):0 < bt t b:=by
 have e:=bt_eq t b
 have g:=gcd_pos (t:=t) h
 unfold dv at e
 split at e
 ·rename_i hb
  refine Int.lt_of_not_ge fun z=>?_
  have:0<=bt t b * -((Int.gcd t b:Nat):Int):=by
   have:=Int.mul_nonneg_of_nonpos_of_nonpos (a:=bt t b) (b:=-((Int.gcd t b:Nat):Int)) z (by omega)
   exact this
  omega
 ·rename_i hb
  refine Int.lt_of_not_ge fun z=>?_
  have:bt t b * ((Int.gcd t b:Nat):Int)<=0:=Int.mul_nonpos_of_nonpos_of_nonneg z (by omega)
  omega
theorem cross (t b:Int):tp t b * b=t * bt t b:=by
 have h1:=tp_eq t b
 have h2:=bt_eq t b
 calc tp t b * b=tp t b * (bt t b * dv t b):=by rw [h2]
  _=(tp t b * dv t b) * bt t b:=by rw [Int.mul_comm (bt t b),<- Int.mul_assoc]
  _=t * bt t b:=by rw [h1]
theorem coprime {t b:Int} (h:b≠0):Int.gcd (tp t b) (bt t b)=1:=by
 have h1:=tp_eq t b
 have h2:=bt_eq t b
 have h3:Int.gcd (tp t b * dv t b) (bt t b * dv t b)=Int.gcd (tp t b) (bt t b) * (dv t b).natAbs:=Int.gcd_mul_right ..
 rw [h1,h2] at h3
 have h4:(dv t b).natAbs=Int.gcd t b:=by unfold dv;split<;>omega
 rw [h4] at h3
 have g:=gcd_pos (t:=t) h
 exact Nat.eq_of_mul_eq_mul_right g (by rw [Nat.one_mul];exact h3.symm)
theorem abs_le_of_mul {x y z:Int} (h:x * y=z) (hy:y≠0):x.natAbs<=z.natAbs:=by
 rw [<- h,Int.natAbs_mul]
 exact Nat.le_mul_of_pos_right _ (by omega)
theorem tp_le {t b:Int} (h:b≠0):(tp t b).natAbs<=t.natAbs:=abs_le_of_mul (tp_eq t b) (dv_ne h)
theorem bt_le {t b:Int} (h:b≠0):(bt t b).natAbs<=b.natAbs:=abs_le_of_mul (bt_eq t b) (dv_ne h)
theorem log2_lt {n k:Nat} (hk:0 < k) (h:n < 2 ^ k):n.log2 < k:=by
 rcases Nat.eq_zero_or_pos n with h0 | hp
 ·rw [h0,Nat.log2_zero];exact hk
 ·exact (Nat.log2_lt (Nat.ne_of_gt hp)).mpr h
end K01
namespace KA
open PySem PySem.Spec PyProof.Rows L2 D3 K01
def Lim (x:Int):Prop:=x.natAbs < 2 ^ 8000
def Cell (c:Int):Prop:=Builtin.Int.intBits c<=2097152
inductive spCd (ds:List D) (M:MH) (Q:DK):Prop | mk:∀ a b:Int,ds=[.int a,.int b]->0<=a->0<=b->Lim b->Q (.int (Int.gcd a b:Nat)) M->spCd ds M Q
abbrev fr (t b:Int):D:=.tup [.int t,.int b]
def B (n:Nat) (x:Int):Prop:=x.natAbs < 2 ^ n
theorem bits_le {x:Int} {n:Nat} (h:x.natAbs < 2 ^ n):Builtin.Int.intBits x<=n:=by
 unfold Builtin.Int.intBits
 split
 ·exact Nat.zero_le _
 ·rename_i hx
  have:x.natAbs≠0:=by intro z;apply hx;simp;omega
  have:=(Nat.log2_lt this).mpr h
  omega
theorem mul_ok {x y:Int} {m n:Nat} (hx:Builtin.Int.intBits x<=m) (hy:Builtin.Int.intBits y<=n) (h:m+n<=134217728):IntMulOk x y:=by
 unfold IntMulOk
 intro z
 rw [Bool.and_eq_true] at z
 have z2:=z.2
 unfold Builtin.Int.intTooBig at z2
 rw [bitsLine_eq] at z2
 have:=of_decide_eq_true z2
 omega
theorem Lim.le {x y:Int} (h:x.natAbs<=y.natAbs) (hy:Lim y):Lim x:=Nat.lt_of_le_of_lt h hy
theorem Lim.div {x y:Int} (h0:y≠0) (hy:Lim y):CDivB x y:=⟨h0,Nat.lt_trans (log2_lt (by decide) hy) (by decide)⟩
theorem B.mulOk {x y:Int} {m n:Nat} (hx:B m x) (hy:B n y) (h:m+n<=134217728):IntMulOk x y:=mul_ok (bits_le hx) (bits_le hy) h
theorem B.mul {x y:Int} {m n:Nat} (hx:B m x) (hy:B n y):B (m+n) (x * y):=by
 unfold B
 rw [Int.natAbs_mul,Nat.pow_add]
 exact Nat.mul_lt_mul'' hx hy
theorem B.up {x:Int} {m n:Nat} (h:m<=n) (hx:B m x):B n x:=Nat.lt_of_lt_of_le hx (Nat.pow_le_pow_right (by decide) h)
theorem B.add {x y:Int} {m:Nat} (hx:B m x) (hy:B m y):B (m+1) (x+y):=by
 unfold B at *
 rw [Nat.pow_succ]
 have:=Int.natAbs_add_le x y
 omega
theorem B.neg {x:Int} {m:Nat} (hx:B m x):B m (-x):=by unfold B;rw [Int.natAbs_neg];exact hx
theorem B.sub {x y:Int} {m:Nat} (hx:B m x) (hy:B m y):B (m+1) (x - y):=by
 have:=hx.add hy.neg
 rw [<- Int.sub_eq_add_neg] at this
 exact this
theorem B.le {x y:Int} {m:Nat} (h:x.natAbs<=y.natAbs) (hy:B m y):B m x:=Nat.lt_of_le_of_lt h hy
theorem B.lim {x:Int} {m:Nat} (hx:B m x) (h:m<=8000):Lim x:=B.up (n:=8000) h hx
theorem abs_eq (a:Int):(if a < 0 then -a else a)=(a.natAbs:Int):=by split<;>omega
theorem small {n:Nat} (h:n<=1000):n<=sizeLine:=Nat.le_of_lt (small1000 h)
theorem Ext.refl (M:MH):Ext M M:=fun _ _ h=>h
theorem Ext.trans {M M1 M2:MH} (a:Ext M M1) (b:Ext M1 M2):Ext M M2:=fun x o h=>b x o (a x o h)
def At (K:PySem.W.Frag) (x:Str) (st:Stmt):Prop:=∃ (f:Addr) (od an:Option Addr) (sl:Array (Option Value)) (oc kV dc pm cd ct:Value),PySem.W.nsIn K mainGlobals x=some (some (.ref f))/\K.lookup f=some ⟨oc,od,.func (PySem.W.fnOf x x (defArgs st) (defBody st) (defScope st) .none kV dc pm an cd ct),sl⟩/\PySem.W.codeIn K cd x=true/\PySem.W.keepIn K (.ref f)=true
theorem At.mk {K:PySem.W.Frag} {x:Str} {st:Stmt} {f:Addr} {od an:Option Addr} {sl:Array (Option Value)} {oc kV dc pm cd ct:Value} (a:PySem.W.nsIn K mainGlobals x=some (some (.ref f))) (l:K.lookup f=some ⟨oc,od,.func (PySem.W.fnOf x x (defArgs st) (defBody st) (defScope st) .none kV dc pm an cd ct),sl⟩)
  (c:PySem.W.codeIn K cd x=true) (k:PySem.W.keepIn K (.ref f)=true):At K x st:=⟨f,od,an,sl,oc,kV,dc,pm,cd,ct,a,l,c,k⟩
theorem At.get {K:PySem.W.Frag} {x:Str} {st:Stmt} {h:Heap} {mg:Str->Option Value} (A:At K x st) (X:K.In h) (G:h.Ns mainGlobals mg):∃ f fd,Fun K x x st f fd/\mg x=some (.ref f):=by
 obtain ⟨f,od,an,sl,oc,kV,dc,pm,cd,ct,a,l,c,k⟩:=A
 exact ⟨f,_,fun_mk (st:=st) l c k,PySem.W.mg_of X G a⟩
theorem dvd_cop {y x b:Int} (h:y ∣ x * b) (g:Int.gcd x y=1):y ∣ b:=by
 have h1:y.natAbs ∣ x.natAbs * b.natAbs:=by rw [<- Int.natAbs_mul];exact Int.natAbs_dvd_natAbs.mpr h
 have h2:Nat.Coprime y.natAbs x.natAbs:=by
  show Nat.gcd _ _=1
  rw [Nat.gcd_comm];exact g
 exact Int.natAbs_dvd_natAbs.mp (h2.dvd_of_dvd_mul_left h1)
theorem lowest {x y a b:Int} (hy:0 < y) (hb:0 < b) (h1:Int.gcd x y=1) (h2:Int.gcd a b=1) (h:x * b=a * y):x=a/\y=b:=by
 have d1:y ∣ b:=by
  have:y ∣ x * b:=by rw [h];exact Int.dvd_mul_left _ _
  exact dvd_cop this h1
 have d2:b ∣ y:=by
  have:b ∣ a * y:=by rw [<- h];exact Int.dvd_mul_left _ _
  exact dvd_cop this h2
 have e:y=b:=Int.le_antisymm (Int.le_of_dvd hb d1) (Int.le_of_dvd hy d2)
 subst e
 exact ⟨Int.eq_of_mul_eq_mul_right (by omega) h,rfl⟩
theorem made_is {t b x y:Int} (hb:b≠0) (hy:0 < y) (h1:Int.gcd x y=1) (h:x * b=t * y):tp t b=x/\bt t b=y:=by
 have c:=cross t b
 refine lowest (bt_pos hb) hy (coprime hb) h1 ?_
 have hb':b≠0:=hb
 apply Int.eq_of_mul_eq_mul_right hb'
 calc tp t b * y * b=(tp t b * b) * y:=by rw [Int.mul_right_comm]
  _=t * bt t b * y:=by rw [c]
  _=(t * y) * bt t b:=by rw [Int.mul_right_comm]
  _=x * b * bt t b:=by rw [h]
  _=x * bt t b * b:=by rw [Int.mul_right_comm]
class Bd (x:Int) (n:outParam Nat):Prop where
 h:x.natAbs < 2 ^ n
theorem Bd.b {x:Int} {n:Nat} (i:Bd x n):B n x:=i.h
theorem Bd.of {x:Int} {n:Nat} (i:B n x):Bd x n:=⟨i⟩
instance bd_mul {x y:Int} {m n:Nat} [i:Bd x m] [j:Bd y n] : Bd (x * y) (m+n):=⟨B.mul i.h j.h⟩
instance bd_add {x y:Int} {m n:Nat} [i:Bd x m] [j:Bd y n] : Bd (x+y) (max m n+1):=⟨B.add (B.up (Nat.le_max_left ..) i.h) (B.up (Nat.le_max_right ..) j.h)⟩
instance (priority:=low) bd_any {x:Int}:Bd x (x.natAbs.log2+1):=⟨Nat.lt_log2_self⟩
theorem fdiv_abs (x y:Int):(x.fdiv y).natAbs<=x.natAbs:=Int.natAbs_fdiv_le_natAbs x y
instance bd_fdiv {x y:Int} {m:Nat} [i:Bd x m] : Bd (x.fdiv y) m:=⟨Nat.lt_of_le_of_lt (fdiv_abs x y) i.h⟩
theorem mulOk {x y:Int} {m n:Nat} [i:Bd x m] [j:Bd y n] (h:m+n<=134217728:=by first | decide +kernel | omega):IntMulOk x y:=B.mulOk i.h j.h h
theorem lim {x:Int} {m:Nat} [i:Bd x m] (h:m<=8000:=by first | decide +kernel | omega):Lim x:=B.lim i.h h
theorem divOk {x y:Int} {m:Nat} [i:Bd y m] (h0:y≠0) (h:m<=8000:=by first | decide +kernel | omega):CDivB x y:=Lim.div h0 (lim h)
theorem Bd.up {x:Int} {m n:Nat} [i:Bd x m] (h:m<=n:=by first | decide +kernel | omega):Bd x n:=⟨B.up h i.h⟩
theorem Bd.le {x y:Int} {m:Nat} (h:x.natAbs<=y.natAbs) (i:Bd y m):Bd x m:=⟨Nat.lt_of_le_of_lt h i.h⟩
theorem Bd.rng {x:Int} {n:Nat} (h1:-((2:Int) ^ n) < x) (h2:x < 2 ^ n):Bd x n:=⟨by
 have e:((2 ^ n:Nat):Int)=(2:Int) ^ n:=by rw [Int.natCast_pow];rfl
 rw [<- e] at h1 h2
 omega⟩
theorem Cell.bd {c:Int} (h:Cell c):Bd c 2097152:=⟨by
 have h:Builtin.Int.intBits c<=2097152:=h
 by_cases z:c.natAbs=0
 ·rw [z];exact Nat.pow_pos (by decide)
 ·have e:Builtin.Int.intBits c=c.natAbs.log2+1:=by
   unfold Builtin.Int.intBits
   rw [if_neg (by simp;omega)]
  rw [e] at h
  exact Nat.lt_of_lt_of_le Nat.lt_log2_self (Nat.pow_le_pow_right (by decide) h)⟩
theorem Cell.of {c:Int} {n:Nat} [i:Bd c n] (h:n<=2097152:=by first | decide +kernel | omega):Cell c:=Nat.le_trans (bits_le i.h) h
def Kp (S:List Addr) (M M':MH):Prop:=∀ b o,b∉S->M b=some o->M' b=some o
theorem Kp.refl (S:List Addr) (M:MH):Kp S M M:=fun _ _ _ h=>h
theorem Kp.trans {S:List Addr} {M M1 M2:MH} (a:Kp S M M1) (b:Kp S M1 M2):Kp S M M2:=fun x o h e=>b x o h (a x o h e)
theorem Kp.mono {S S':List Addr} {M M1:MH} (h:∀ x∈S,x∈S') (a:Kp S M M1):Kp S' M M1:=fun x o n e=>a x o (fun z=>n (h x z)) e
theorem Kp.ext {S:List Addr} {M M1:MH} (a:Ext M M1):Kp S M M1:=fun x o _ e=>a x o e
theorem Kp.new {S:List Addr} {M:MH} {p:Addr} {o:MO} (h:M p=none):Kp S M (mset M p o):=Kp.ext (ext_new h)
theorem Kp.put {S:List Addr} {M:MH} {p:Addr} {o:MO} (h:p∈S):Kp S M (mset M p o):=fun x u n e=>by
 have hx:x≠p:=by intro z;subst z;exact n h
 rw [mset_ne hx];exact e
theorem Kp.at {S:List Addr} {M M':MH} {b:Addr} {o:MO} (a:Kp S M M') (e:M b=some o) (n:b∉S):M' b=some o:=a b o n e
theorem ne_fresh {M:MH} {p q:Addr} {o:MO} (h:M q=some o) (n:M p=none):q≠p:=fun z=>by rw [z,n] at h;cases h
def gPlus (a b c d:Int):Int × Int:=(a * d+c * b,b * d)
def gMinus (a b c d:Int):Int × Int:=(a * d - c * b,b * d)
def gTimes (a b c d:Int):Int × Int:=(a * c,b * d)
theorem cut_mid (ns:List Int) (j k:Nat):D3.cutD (ns.map D.int) (some (j:Int)) (some (k:Int))=((ns.take k).drop j).map D.int:=by
 unfold D3.cutD
 rw [HT.sIx_nat,HT.sIx_nat,List.length_map,List.map_drop,List.map_take,List.drop_take]
 by_cases h:k<=ns.length
 ·rw [Nat.min_eq_left h]
  by_cases hj:j<=ns.length
  ·rw [Nat.min_eq_left hj]
  ·rw [Nat.min_eq_right (by omega),List.drop_of_length_le (by simp),List.drop_of_length_le (by simp;omega),List.take_nil,List.take_nil]
 ·rw [Nat.min_eq_right (by omega)]
  by_cases hj:j<=ns.length
  ·rw [Nat.min_eq_left hj,List.take_of_length_le (by simp),List.take_of_length_le (by simp;omega)]
  ·rw [Nat.min_eq_right (by omega),List.drop_of_length_le (by simp),List.drop_of_length_le (by simp;omega),List.take_nil,List.take_nil]
end KA
namespace D3
open PySem PySem.Spec PyProof.Rows L2
section
variable {X:Cx} {G:Ga} {M:MH} {a b c e o i:Expr} {es rest:List Expr} {pos:Pos} {Q:DK} {Qb:Bool->MH->Prop}
def InL (da db:D) (M:MH) (Qb:Bool->MH->Prop):Prop:=match da,db with
 | .str k,.ref p=>(∃ kvs,M p=some (.dic kvs)/\Qb (lkD kvs k).isSome M)\/(∃ ss:List Str,M p=some (.lst (ss.map D.str))/\Qb (decide (k∈ss)) M)
 | .str k,.tup ds=>∃ ss:List Str,ds=ss.map D.str/\Qb (decide (k∈ss)) M
 | _,_=>False
theorem in_d {k:Str} {p:Addr} {kvs:List (Str × D)} (h:M p=some (.dic kvs)) (q:Qb (lkD kvs k).isSome M):InL (.str k) (.ref p) M Qb:=.inl ⟨kvs,h,q⟩
theorem in_l {k:Str} {p:Addr} {ss:List Str} (h:M p=some (.lst (ss.map D.str))) (q:Qb (decide (k∈ss)) M):InL (.str k) (.ref p) M Qb:=.inr ⟨ss,h,q⟩
theorem in_t {k:Str} {ss:List Str} (q:Qb (decide (k∈ss)) M):InL (.str k) (.tup (ss.map D.str)) M Qb:=⟨ss,rfl,q⟩
theorem isl_strs {H:Hp}:∀ {ss:List Str} {vs:List V},IsL H (ss.map D.str) vs->vs=ss.map V.str
 | [],vs,h=>by rw [List.map_nil,isl_nil] at h;exact h
 | s :: r,vs,h=>by
  rw [List.map_cons,isl_cons] at h
  obtain ⟨x,t,rfl,h1,h2⟩:=h
  rw [is_str] at h1;subst h1
  rw [isl_strs h2];rfl
theorem inV_strs (k:Str):∀ ss:List Str,inV (.str k) (ss.map V.str)=decide (k∈ss)
 | []=>by simp [inV]
 | s :: r=>by
  have ih:=inV_strs k r
  unfold inV at ih ⊢
  rw [List.map_cons,List.any_cons,ih]
  show ((s == k) || _)=_
  by_cases h:s=k
  ·subst h;simp
  ·have:¬ k=s:=fun z=>h z.symm
   simp [h,this]
theorem flat_strs (ss:List Str):(ss.map V.str).all flatV=true:=by
 induction ss with
 | nil=>rfl
 | cons s r ih=>rw [List.map_cons,List.all_cons,ih];rfl
theorem op_dIn (hu:X.A.units+1 < cLine):OpR X (compareOp .In) (fun x y H Q=>∃ a o,y=.ref a/\DGet H a x o/\Q (.bl o.isSome) H):=by
 intro pins s σ H x y v u Q I rx ry h
 obtain ⟨a,o,rfl,g,q⟩:=h
 cases ry
 exact d_in hu I g rx fun s' I'=>⟨.bl _,H,I',rfl,q⟩
theorem op_dNotIn (hu:X.A.units+1 < cLine):OpR X (compareOp .NotIn) (fun x y H Q=>∃ a o,y=.ref a/\DGet H a x o/\Q (.bl (!o.isSome)) H):=by
 intro pins s σ H x y v u Q I rx ry h
 obtain ⟨a,o,rfl,g,q⟩:=h
 cases ry
 exact d_notIn hu I g rx fun s' I'=>⟨.bl _,H,I',rfl,q⟩
theorem rd_in (neg:Bool) {da db:D} (h:InL da db M fun k M'=>Q (.bl (if neg then !k else k)) M'):RD X.K (fun x y H Q=>rIn X.K neg x y H Q\/∃ a o,y=.ref a/\DGet H a x o/\Q (.bl (if neg then !o.isSome else o.isSome)) H) da db M Q:=by
 intro H x y kf hx hy m
 unfold InL at h
 split at h
 ·rename_i k p
  rw [is_str] at hx;subst hx
  rw [is_ref] at hy;subst hy
  rcases h with ⟨kvs,h1,q⟩ | ⟨ss,h1,q⟩
  ·obtain ⟨ys,e1,e2⟩:=m p _ h1
   refine .inr ⟨p,_,rfl,DGet.k (k:=Sum.inr k) e1,fun _=>⟨Grow.refl _,_,M,is_bl.mpr rfl,m,?_⟩⟩
   rw [e2.some_eq];exact q
  ·obtain ⟨ys,e1,e2⟩:=m p _ h1
   have e3:=isl_strs e2;subst e3
   refine .inl ⟨p,_,rfl,.inl (SqL.of e1),rfl,flat_strs ss,fun _=>⟨Grow.refl _,_,M,is_bl.mpr rfl,m,?_⟩⟩
   rw [inV_strs];exact q
 ·rename_i k ds
  obtain ⟨ss,rfl,q⟩:=h
  rw [is_str] at hx;subst hx
  rw [is_tup] at hy
  obtain ⟨p,xs,rfl,e1,e2⟩:=hy
  have e3:=isl_strs e2;subst e3
  refine .inl ⟨p,_,rfl,.inr (SqT.of e1),rfl,flat_strs ss,fun _=>⟨Grow.refl _,_,M,is_bl.mpr rfl,m,?_⟩⟩
  rw [inV_strs];exact q
 ·exact h.elim
theorem l_in (hu:X.A.units+64 < cLine) (h:EV X G M a fun da Ma=>EV X G Ma b fun db Mb=>InL da db Mb fun k M'=>Q (.bl k) M') (hm:behindInMarks .In b=false):EV X G M (.Compare a [.In] [b] pos) Q :=
 ev_cmp (op_in_seq.or (op_dIn (by omega))) hm (h.mono fun _ _ h1=>h1.mono fun _ _ q=>rd_in false q)
theorem InL.mono {da db:D} {Qc:Bool->MH->Prop} (h:InL da db M Qb) (k:∀ b,Qb b M->Qc b M):InL da db M Qc:=by
 unfold InL at h ⊢
 split at h
 ·rcases h with ⟨x,y,z⟩ | ⟨x,y,z⟩
  ·exact .inl ⟨x,y,k _ z⟩
  ·exact .inr ⟨x,y,k _ z⟩
 ·obtain ⟨x,y,z⟩:=h;exact ⟨x,y,k _ z⟩
 ·exact h
theorem lt_in (hu:X.A.units+64 < cLine) (h:EV X G M a fun da Ma=>EV X G Ma b fun db Mb=>InL da db Mb Qb) (hm:behindInMarks .In b=false):TV X G M (.Compare a [.In] [b] pos) Qb :=
 tv_cmp (op_in_seq.or (op_dIn (by omega))) hm (h.mono fun _ _ h1=>h1.mono fun _ _ q=>rd_in false (InL.mono q fun k q=>⟨k,rfl,q⟩))
theorem lt_notin (hu:X.A.units+64 < cLine) (h:EV X G M a fun da Ma=>EV X G Ma b fun db Mb=>InL da db Mb fun k M'=>Qb (!k) M') (hm:behindInMarks .NotIn b=false):TV X G M (.Compare a [.NotIn] [b] pos) Qb :=
 tv_cmp (op_notIn_seq.or (op_dNotIn (by omega))) hm (h.mono fun _ _ h1=>h1.mono fun _ _ q=>rd_in true (InL.mono q fun k q=>⟨_,rfl,q⟩))
theorem bootDict:bootBuiltins "dict" = some (.type "dict"):=by decide +kernel
theorem bootSorted:bootBuiltins "sorted" = some (.builtin "sorted"):=by decide +kernel
theorem bootList:bootBuiltins "list" = some (.type "list"):=by decide +kernel
theorem call_dcopy:CallR X (.type "dict") (fun xs H Q=>∃ a kvs,xs=[.ref a]/\H a=some (.dK kvs)/\∀ p,H p=none->Q (.ref p) (upd H p (.dK kvs))):=by
 intro pins s σ H xs us Q I r h
 obtain ⟨a,kvs,rfl,e,q⟩:=h
 obtain ⟨u,rfl,ru⟩:=vals1 r
 cases ru
 exact d_copyOf I (.inl e) fun p s' hp I'=>⟨.ref p,_,I',rfl,q p hp⟩
theorem ev_dictC {p:Pos} (hm:X.mg "dict" = none) (h:AV X G M [e] fun ds M1=>∃ q kvs,ds=[.ref q]/\M1 q=some (.dic kvs)/\∀ r,M1 r=none->Q (.ref r) (mset M1 r (.dic kvs))) (hg:Gl X "dict") (he:SeX X e) (hpl:NpX X pos) :
  EV X G M (.Call (.Name "dict" p) [e] [] pos) Q :=
 ev_callTy call_dcopy hm bootDict (h.mono fun ds M1 ⟨a,kvs,e1,ha,q⟩=>fun H xs kf hx m=>by
  subst e1
  obtain ⟨v,rfl,hv⟩:=isl1 hx
  rw [is_ref] at hv;subst hv
  obtain ⟨ys,e1,e2⟩:=m a _ ha
  exact ⟨a,ys,rfl,e1,fun p hp kf'=>⟨grow_new hp,.ref p,mset M1 p (.dic kvs),is_ref.mpr rfl,m.lay hp ⟨ys,upd_same,e2.grow (grow_new hp)⟩,q p (m.fresh hp kf')⟩⟩) hg (by decide) (by decide) he hpl
theorem tyL {K:PySem.W.Frag} {H:Hp} {p:Addr} {xs:List V} (h:H p=some (.lst xs)):tyV K "list" (.ref p) H:=.inl ⟨rfl,xs,SqL.of h⟩
theorem ev_append {apos cpos:Pos} (h:EV X G M o fun d M1=>∃ p,d=.ref p/\(∃ ds,M1 p=some (.lst ds))/\EV X G M1 e fun d2 M2=>∃ ds,M2 p=some (.lst ds)/\ds.length < sizeLine/\Q .non (mset M2 p (.lst (ds++[d2]))))
  (hbase:attributeBase o "append" X.env (eval o X.env)=eval o X.env)
  (hfew:HfX X cpos e)
  (hline:(apos.endLine == cpos.line)=true) (hs:SeX X e) (hplain:NpX X cpos) :
  EV X G M (.Call (.Attribute o "append" apos) [e] [] cpos) Q:=by
 refine EV.of (pe_bm PySem.F.plainAttrs_list PySem.F.slot_list_append PySem.F.type_list_append mt_append (pe_D (G:=G)) (pa_D (G:=G) (es:=[e])) hbase hfew hline hs hplain) fun σ H kf R=>?_
 refine ⟨M,_,R,h,fun v H' d M' kf' g i R' q=>?_⟩
 obtain ⟨p,rfl,⟨ds,hds⟩,q⟩:=q
 rw [is_ref] at i;subst i
 obtain ⟨xs,hx,_⟩:=R'.mem p _ hds
 refine ⟨tyL hx,M',fun ds2 M2=>∃ d2,ds2=[d2]/\∃ ds,M2 p=some (.lst ds)/\ds.length < sizeLine/\Q .non (mset M2 p (.lst (ds++[d2]))),R',av_cons (q.mono fun d2 M2 q2=>av_nil ⟨d2,rfl,q2⟩) hs,fun vs H2 ds2 M2 kf2 g2 i2 R2 q2=>?_⟩
 obtain ⟨d2,rfl,ds,hp,hz,q2⟩:=q2
 obtain ⟨v2,rfl,hv2⟩:=isl1 i2
 obtain ⟨xs,hx,hxi⟩:=R2.mem p _ hp
 have nt:∀ ys,H2 p≠some (.tup ys):=fun ys z=>by rw [hx] at z;cases z
 have gu:Grow H2 (upd H2 p (.lst (xs++[v2]))):=grow_upd nt
 exact ⟨p,xs,v2,rfl,rfl,hx,by rw [<- hxi.len];exact hz,fun _=>⟨(g.trans g2).trans gu,.non,_,is_non.mpr rfl,R2.mem.put (u:=.lst (ds++[d2])) nt ⟨_,upd_same,(hxi.grow gu).app (isl_cons.mpr ⟨v2,[],rfl,Is.grow gu _ _ hv2,isl_nil.mpr rfl⟩)⟩,q2⟩⟩
theorem ev_tupleC {p:Pos} (hm:X.mg "tuple" = none) (h:AV X G M [e] fun ds M1=>∃ d,ds=[d]/\match d with
   | .ref q=>∃ es,M1 q=some (.lst es)/\Q (.tup es) M1
   | .tup es=>Q (.tup es) M1
   | _=>False) (hg:Gl X "tuple") (he:SeX X e) (hpl:NpX X pos) :
  EV X G M (.Call (.Name "tuple" p) [e] [] pos) Q :=
 ev_callTy call_tuple_of hm bootTuple (h.mono fun ds M1 ⟨d,e1,q⟩=>fun H xs kf hx m=>by
  subst e1
  obtain ⟨v,rfl,hv⟩:=isl1 hx
  cases d with
  | ref a =>
   obtain ⟨es,ha,q⟩:=q
   rw [is_ref] at hv;subst hv
   obtain ⟨ys,e1,e2⟩:=m a _ ha
   exact ⟨a,ys,rfl,.inl ⟨SqL.of e1,fun p hp kf'=>⟨grow_new hp,.tup es,M1,is_tup.mpr ⟨p,ys,rfl,upd_same,e2.grow (grow_new hp)⟩,m.new hp,q⟩⟩⟩
  | tup es =>
   have hv':=hv
   rw [is_tup] at hv
   obtain ⟨a,ys,rfl,e1,e2⟩:=hv
   exact ⟨a,ys,rfl,.inr ⟨SqT.of e1,fun _=>⟨Grow.refl _,.tup es,M1,hv',m,q⟩⟩⟩
  | non=>exact q.elim
  | bl _=>exact q.elim
  | int _=>exact q.elim
  | str _=>exact q.elim
  | ty _=>exact q.elim) hg (by decide) (by decide) he hpl
theorem ev_listC {p:Pos} (hm:X.mg "list" = none) (h:AV X G M [e] fun ds M1=>∃ d,ds=[d]/\match d with
   | .ref q=>∃ es,M1 q=some (.lst es)/\∀ r,M1 r=none->Q (.ref r) (mset M1 r (.lst es))
   | .tup es=>∀ r,M1 r=none->Q (.ref r) (mset M1 r (.lst es))
   | _=>False) (hg:Gl X "list") (he:SeX X e) (hpl:NpX X pos) :
  EV X G M (.Call (.Name "list" p) [e] [] pos) Q :=
 ev_callTy call_list_of hm bootList (h.mono fun ds M1 ⟨d,e1,q⟩=>fun H xs kf hx m=>by
  subst e1
  obtain ⟨v,rfl,hv⟩:=isl1 hx
  cases d with
  | ref a =>
   obtain ⟨es,ha,q⟩:=q
   rw [is_ref] at hv;subst hv
   obtain ⟨ys,e1,e2⟩:=m a _ ha
   exact ⟨a,ys,rfl,.inl (SqL.of e1),fun p hp kf'=>⟨grow_new hp,.ref p,mset M1 p (.lst es),is_ref.mpr rfl,m.lay hp ⟨ys,upd_same,e2.grow (grow_new hp)⟩,q p (m.fresh hp kf')⟩⟩
  | tup es =>
   rw [is_tup] at hv
   obtain ⟨a,ys,rfl,e1,e2⟩:=hv
   exact ⟨a,ys,rfl,.inr (SqT.of e1),fun p hp kf'=>⟨grow_new hp,.ref p,mset M1 p (.lst es),is_ref.mpr rfl,m.lay hp ⟨ys,upd_same,e2.grow (grow_new hp)⟩,q p (m.fresh hp kf')⟩⟩
  | non=>exact q.elim
  | bl _=>exact q.elim
  | int _=>exact q.elim
  | str _=>exact q.elim
  | ty _=>exact q.elim) hg (by decide) (by decide) he hpl
theorem IsL.strs {H:Hp}:∀ {ss:List Str},IsL H (ss.map D.str) (ss.map V.str)
 | []=>isl_nil.mpr rfl
 | s :: r=>isl_cons.mpr ⟨.str s,r.map V.str,rfl,is_str.mpr rfl,IsL.strs⟩
theorem strs_of_vals:∀ {ss:List Str} {us:List Value},Vals (ss.map V.str) us->StrsAre us ss
 | [],us,r=>by cases r;exact .nil
 | s :: r,us,h=>by
  cases h with
  | cons h1 h2 =>
   obtain ⟨t,rfl⟩:=h1
   exact .cons s t (strs_of_vals h2)
theorem vals_of_strs:∀ {ss:List Str} {us:List Value},StrsAre us ss->Vals (ss.map V.str) us
 | _,_,.nil=>.nil
 | _,_,.cons y t r=>.cons ⟨t,rfl⟩ (vals_of_strs r)
theorem call_sortedS:CallR X (.builtin "sorted") (fun xs H Q=>∃ (a:Addr) (ss:List Str),xs=[.ref a]/\H a=some (.lst (ss.map V.str))/\ss.length < 64/\∀ p ss',H p=none->ss'.Perm ss->PyProof.Rows.sortedS ss'=true->Q (.ref p) (upd H p (.lst (ss'.map V.str)))):=by
 intro pins s σ H xs us Q I r h
 obtain ⟨a,ss,rfl,e,h64,q⟩:=h
 obtain ⟨u,rfl,ru⟩:=vals1 r
 cases ru
 obtain ⟨z,its,n,rv,hl,eo⟩:=I.lstM e
 have hl2:its.length=ss.length:=by rw [<- hl,List.length_map]
 refine sorted_strs (l:=a) (vs:=its) ⟨_,eo,rfl,n,rfl⟩ (strs_of_vals rv) (by omega) fun out ss' h1 h2 h3=>?_
 obtain ⟨en,he⟩:=sortedAll_at s.heap its out
 have hf:H (s.heap.objs.size+1)=none:=I.hok.fresh (Nat.le_succ _)
 refine ⟨.ref (s.heap.objs.size+1),_,I.laid (a:=s.heap.objs.size+1) (o:=.lst (ss'.map V.str)) (t':=s.toks) (fun b ob hb=>sortedAll_old hb) (Nat.le_succ _) ⟨?_,out.toList,en,vals_of_strs h1,?_⟩,rfl,q _ ss' hf h2 h3⟩
 ·rw [List.length_map,h2.length_eq];rw [List.length_map] at z;exact z
 ·rw [he]
theorem ev_sortedS {p:Pos} (hm:X.mg "sorted" = none) (h:AV X G M [e] fun ds M1=>∃ (q:Addr) (ss:List Str),ds=[.ref q]/\M1 q=some (.lst (ss.map D.str))/\ss.length < 64/\∀ r ss',M1 r=none->ss'.Perm ss->PyProof.Rows.sortedS ss'=true->Q (.ref r) (mset M1 r (.lst (ss'.map D.str)))) (hg:Gl X "sorted") (he:SeX X e) (hpl:NpX X pos) :
  EV X G M (.Call (.Name "sorted" p) [e] [] pos) Q :=
 ev_callB call_sortedS hm bootSorted (h.mono fun ds M1 ⟨a,ss,e1,ha,h64,q⟩=>fun H xs kf hx m=>by
  subst e1
  obtain ⟨v,rfl,hv⟩:=isl1 hx
  rw [is_ref] at hv;subst hv
  obtain ⟨ys,e1,e2⟩:=m a _ ha
  have e3:=isl_strs e2;subst e3
  refine ⟨a,ss,rfl,e1,h64,fun p ss' hp h1 h2 kf'=>⟨grow_new hp,.ref p,mset M1 p (.lst (ss'.map D.str)),is_ref.mpr rfl,m.lay hp ⟨_,upd_same,?_⟩,q p ss' (m.fresh hp kf') h1 h2⟩⟩
  exact IsL.strs) hg (by decide) (by decide) he hpl
end
def clOf (env:Env):List (Str × NameKind)->List (Str × Addr)->List (Str × Addr)
 | [],acc=>acc
 | (n,k) :: r,acc=>clOf env r (if k == .free then (n,(env.cells.lookup n).getD 0) :: acc else acc)
theorem closure_loop (env:Env):∀ (names:List (Str × NameKind)) (acc:List (Str × Addr)),(∀ x∈names,x.2=.free->(env.cells.lookup x.1).isSome=true) ->
  (forIn names acc fun (x:Str × NameKind) (r:List (Str × Addr))=>(match x with
   | (name,kind)=>if (kind == NameKind.free)=true then do let c <- cellOf env name;pure (ForInStep.yield ((name,c) :: r)) else pure (ForInStep.yield r):Sem (ForInStep (List (Str × Addr)))))=pure (clOf env names acc)
 | [],acc,_=>rfl
 | (n,k) :: r,acc,h=>by
  rw [List.forIn_cons]
  have ih:=fun acc'=>closure_loop env r acc' fun x hx=>h x (List.mem_cons_of_mem _ hx)
  unfold clOf
  by_cases e:(k == NameKind.free)=true
  ·have hc:=h (n,k) (List.mem_cons_self ..) (by simpa using e)
   obtain ⟨c,hc⟩:=Option.isSome_iff_exists.mp hc
   have hc:env.cells.lookup n=some c:=hc
   rw [if_pos e,hc]
   have:cellOf env n=pure c:=by unfold cellOf;rw [hc]
   simp only [e,if_true,this]
   exact ih _
  ·rw [if_neg e]
   simp only [e,if_false]
   exact ih _
theorem closureFor_of {scope:Scope} {env:Env} (h:∀ x∈scope.names,x.2=.free->(env.cells.lookup x.1).isSome=true):closureFor scope env=pure (clOf env scope.names []):=by
 have:=closure_loop env scope.names [] h
 simp only [closureFor]
 simpa using this
theorem clOf_sub (env:Env) (x:Str) (c:Addr):∀ (names:List (Str × NameKind)) (acc:List (Str × Addr)),(∀ y∈names,y.2=.free->(env.cells.lookup y.1).isSome=true)->(∀ c,acc.lookup x=some c->env.cells.lookup x=some c)->(clOf env names acc).lookup x=some c->env.cells.lookup x=some c
 | [],acc,_,ha,h=>ha c h
 | (n,k) :: r,acc,hn,ha,h=>by
  unfold clOf at h
  refine clOf_sub env x c r _ (fun y hy=>hn y (List.mem_cons_of_mem _ hy)) (fun c' hc'=>?_) h
  by_cases e:(k == NameKind.free)=true
  ·rw [if_pos e,List.lookup_cons] at hc'
   by_cases hx:(x == n)=true
   ·rw [hx] at hc'
    have hx':x=n:=by simpa using hx
    subst hx'
    obtain ⟨d,hd⟩:=Option.isSome_iff_exists.mp (hn (x,k) (List.mem_cons_self ..) (by simpa using e))
    have hd:env.cells.lookup x=some d:=hd
    rw [hd] at hc' ⊢
    simpa using hc'
   ·have hx:(x == n)=false:=by simpa using hx
    rw [hx] at hc'
    exact ha c' hc'
  ·rw [if_neg e] at hc'
   exact ha c' hc'
theorem clOf_has (env:Env) (x:Str):∀ (names:List (Str × NameKind)) (acc:List (Str × Addr)),((x,NameKind.free)∈names\/(acc.lookup x).isSome=true)->((clOf env names acc).lookup x).isSome=true
 | [],acc,h=>by rcases h with h | h;cases h;exact h
 | (n,k) :: r,acc,h=>by
  unfold clOf
  refine clOf_has env x r _ ?_
  rcases h with h | h
  ·rcases List.mem_cons.mp h with h | h
   ·cases h
    refine .inr ?_
    rw [if_pos (show (NameKind.free == NameKind.free)=true from rfl),List.lookup_cons,beq_self_eq_true];rfl
   ·exact .inl h
  ·refine .inr ?_
   split
   ·rw [List.lookup_cons]
    cases x == n
    ·exact h
    ·rfl
   ·exact h
theorem mem_of_lookup' {α β:Type} [BEq α] [LawfulBEq α] {k:α} {v:β}:∀ {l:List (α × β)},l.lookup k=some v->(k,v)∈l
 | [],h=>by cases h
 | (a,b) :: r,h=>by
  rw [List.lookup_cons] at h
  cases e:k == a with
  | true =>
   rw [e] at h
   have:k=a:=by simpa using e
   subst this
   cases h
   exact List.mem_cons_self ..
  | false=>rw [e] at h;exact List.mem_cons_of_mem _ (mem_of_lookup' h)
section
variable {X:Cx} {G:Ga} {M:MH} {elt tg iter e:Expr} {ifs:List Expr} {scope:Scope} {pos:Pos} {Q:DK} {own:List Str} {js:List Nat} {N:List Str}
theorem compOk_free {fs:List Str} (hk:scope.kind=.function) (hn:∀ x∈scope.names,x.2=.local->scope.names.lookup x.1=some .local) (hcell:∀ x∈scope.names,x.2≠.cell)
  (hf:∀ x∈scope.names,x.2=.free->(X.env.cells.lookup x.1).isSome=true)
  (hN:N=own++fs) (hl:fs.length=js.length) (hj:∀ (k j:Nat),js[k]?=some j->∃ x,fs[k]?=some x/\X.N[j]?=some x/\X.env.kindOf x=some .cell/\X.env.scope.names.lookup x=some .cell/\scope.names.lookup x=some .free)
  (hfun:X.env.scope.kind=.function):CompOk X own js N scope (clOf X.env scope.names []):=by
 refine ⟨closureFor_of hf,hk,hn,hcell,fun x c e=>clOf_sub X.env x c scope.names [] hf (fun c z=>by cases z) e,fun x h=>?_,fun k j e=>?_,by rw [hN,List.length_append,hl]⟩
 ·refine Option.isSome_iff_exists.mp (clOf_has X.env x scope.names [] (.inl ?_))
  have:∃ k,(x,k)∈(relabel scope X.env).names/\(k=.cell\/k=.free):=by
   rcases h with h | h
   ·exact ⟨_,mem_of_lookup' h,.inl rfl⟩
   ·exact ⟨_,mem_of_lookup' h,.inr rfl⟩
  obtain ⟨k,hm,hk⟩:=this
  unfold relabel at hm
  obtain ⟨⟨n,q⟩,hq,he⟩:=List.mem_map.mp hm
  have he:(if (q == NameKind.free && X.env.scope.kind == .function && X.env.kindOf n == some .cell)=true then (n,NameKind.cell) else (n,q))=(x,k):=he
  split at he
  ·rename_i hc
   injection he with e1 e2
   subst e1
   have:q=.free:=by
    rw [Bool.and_eq_true,Bool.and_eq_true] at hc
    simpa using hc.1.1
   rw [this] at hq;exact hq
  ·injection he with e1 e2
   subst e1;subst e2
   rcases hk with hk | hk
   ·exact absurd hk (hcell _ hq)
   ·rw [hk] at hq;exact hq
 ·obtain ⟨x,h1,h2,h3,h4,h5⟩:=hj k j e
  refine ⟨x,?_,h2,.inr (.inl h4),fun m h u lk=>?_,?_⟩
  ·rw [hN,List.getElem?_append_right (by omega),show own.length+k - own.length=k by omega];exact h1
  ·rcases lk with ⟨z,_⟩ | ⟨_,c,hc,hi⟩
   ·rw [h3] at z;cases z
   ·obtain ⟨c',hc'⟩:=Option.isSome_iff_exists.mp (clOf_has X.env x scope.names [] (.inl (mem_of_lookup' h5)))
    have:=clOf_sub X.env x c' scope.names [] hf (fun c z=>by cases z) hc'
    rw [hc] at this;cases this
    exact ⟨c,hc',hi⟩
  ·refine .inl ?_
   have:∀ names:List (Str × NameKind),names.lookup x=some .free->(names.map fun (y:Str × NameKind)=>match y with | (n,k)=>if (k == NameKind.free && X.env.scope.kind == .function && X.env.kindOf n == some .cell)=true then (n,NameKind.cell) else (n,k)).lookup x=some .cell:=by
    intro names hl
    induction names with
    | nil=>cases hl
    | cons y r ih =>
     obtain ⟨n,q⟩:=y
     rw [List.lookup_cons] at hl
     rw [List.map_cons]
     cases en:x == n with
     | true =>
      rw [en] at hl
      have hx:x=n:=by simpa using en
      subst hx
      injection hl with hl
      subst hl
      have hc:(NameKind.free == NameKind.free && X.env.scope.kind == .function && X.env.kindOf x == some .cell)=true:=by rw [hfun,h3];rfl
      simp only [hc,if_true]
      rw [List.lookup_cons,beq_self_eq_true]
     | false =>
      rw [en] at hl
      have ih:=ih hl
      simp only
      split
      ·rw [List.lookup_cons,en];exact ih
      ·rw [List.lookup_cons,en];exact ih
   exact this scope.names h5
theorem compOk_freeB {fs:List Str} (hk:scope.kind=.function) (hnB:(scope.names.all fun x=>!(x.2 == .local) || scope.names.lookup x.1 == some .local)=true) (hcB:(scope.names.all fun x=>!(x.2 == .cell))=true)
  (hfB:(scope.names.all fun x=>!(x.2 == .free) || (X.env.cells.lookup x.1).isSome)=true)
  (hN:N=own++fs) (hl:fs.length=js.length) (hjB:((fs.zip js).all fun y=>(X.N[y.2]? == some y.1) && (X.env.kindOf y.1 == some .cell) && (X.env.scope.names.lookup y.1 == some .cell) && (scope.names.lookup y.1 == some .free))=true)
  (hfun:X.env.scope.kind=.function):CompOk X own js N scope (clOf X.env scope.names []):=by
 refine compOk_free (fs:=fs) hk (fun x hx e=>?_) (fun x hx e=>?_) (fun x hx e=>?_) hN hl (fun k j e=>?_) hfun
 ·have:=List.all_eq_true.mp hnB x hx
  rw [e] at this
  simpa using this
 ·have:=List.all_eq_true.mp hcB x hx
  rw [e] at this
  cases this
 ·have:=List.all_eq_true.mp hfB x hx
  rw [e] at this
  simpa using this
 ·have hkl:k < fs.length:=by rw [hl];exact (List.getElem?_eq_some_iff.mp e).1
  have hz:(fs.zip js)[k]?=some (fs[k],j):=by
   rw [List.getElem?_zip_eq_some]
   exact ⟨List.getElem?_eq_getElem hkl,e⟩
  have:=List.all_eq_true.mp hjB _ (List.mem_of_getElem? hz)
  rw [Bool.and_eq_true,Bool.and_eq_true,Bool.and_eq_true] at this
  obtain ⟨⟨⟨h1,h2⟩,h3⟩,h4⟩:=this
  exact ⟨fs[k],List.getElem?_eq_getElem hkl,by simpa using h1,by simpa using h2,by simpa using h3,by simpa using h4⟩
end
end D3
namespace KA
open PySem PySem.Spec PyProof.Rows L2 D3 K01
def tD (t:Str × Int):D:=.tup [.str t.1,.int t.2]
abbrev trm (ts:List (Str × Int)):D:=.tup (ts.map tD)
abbrev nms (ss:List Str):D:=.tup (ss.map D.str)
def Letter (s:Str):Prop:=∃ c,97<=c/\c<=122/\s=⟨#[c]⟩
structure Names (ss:List Str):Prop where
 pos:1<=ss.length
 le:ss.length<=3
 nodup:ss.Nodup
 lett:∀ s∈ss,Letter s
structure Terms (ss:List Str) (ts:List (Str × Int)):Prop where
 sub:(ts.map (·.1)).Sublist ss
 wt:∀ t∈ts,t.2≠0/\B 60 t.2
theorem Terms.len {ss:List Str} {ts:List (Str × Int)} (h:Terms ss ts):ts.length<=ss.length:=by
 have:=h.sub.length_le;rw [List.length_map] at this;exact this
theorem Terms.mem {ss:List Str} {ts:List (Str × Int)} (h:Terms ss ts) {t:Str × Int} (ht:t∈ts):t.1∈ss:=h.sub.subset (List.mem_map_of_mem ht)
def Frn (d:D) (x y:Int):Prop:=d=fr x y/\0 < y/\Int.gcd x y=1/\B 19700 x/\B 910 y
def atP (kvs:List (Str × D)) (s:Str):Int × Int:=match lkD kvs s with
 | some (.tup [.int x,.int y])=>(x,y)
 | _=>(0,1)
def Has (kvs:List (Str × D)) (s:Str):Prop:=∃ d x y,lkD kvs s=some d/\Frn d x y
theorem Has.at {kvs:List (Str × D)} {s:Str} (h:Has kvs s):lkD kvs s=some (fr (atP kvs s).1 (atP kvs s).2)/\0 < (atP kvs s).2/\B 19700 (atP kvs s).1/\B 910 (atP kvs s).2:=by
 obtain ⟨d,x,y,h1,rfl,h2,h3,h4,h5⟩:=h
 have e:atP kvs s=(x,y):=by unfold atP;rw [h1]
 rw [e]
 exact ⟨h1,h2,h4,h5⟩
def addUp (kvs:List (Str × D)):List (Str × Int)->Int->Int->Int × Int
 | [],t,b=>(t,b)
 | u :: r,t,b=>addUp kvs r (t * (atP kvs u.1).2+u.2 * (atP kvs u.1).1 * b) (b * (atP kvs u.1).2)
theorem addUp_snoc (kvs:List (Str × D)) (u:Str × Int):∀ (r:List (Str × Int)) (t b:Int),addUp kvs (r++[u]) t b=((addUp kvs r t b).1 * (atP kvs u.1).2+u.2 * (atP kvs u.1).1 * (addUp kvs r t b).2,(addUp kvs r t b).2 * (atP kvs u.1).2)
 | [],t,b=>rfl
 | v :: r,t,b=>addUp_snoc kvs u r _ _
theorem addUp_whole (kvs:List (Str × D)) (w:Int):∀ (r:List (Str × Int)) (t b:Int),(addUp kvs r (t+w * b) b).2=(addUp kvs r t b).2/\(addUp kvs r (t+w * b) b).1=(addUp kvs r t b).1+w * (addUp kvs r t b).2
 | [],t,b=>⟨rfl,rfl⟩
 | u :: r,t,b=>by
  have ih:=addUp_whole kvs w r (t * (atP kvs u.1).2+u.2 * (atP kvs u.1).1 * b) (b * (atP kvs u.1).2)
  have e:(t+w * b) * (atP kvs u.1).2+u.2 * (atP kvs u.1).1 * b=t * (atP kvs u.1).2+u.2 * (atP kvs u.1).1 * b+w * (b * (atP kvs u.1).2):=by grind
  show (addUp kvs r ((t+w * b) * (atP kvs u.1).2+u.2 * (atP kvs u.1).1 * b) (b * (atP kvs u.1).2)).2=_/\(addUp kvs r ((t+w * b) * (atP kvs u.1).2+u.2 * (atP kvs u.1).1 * b) (b * (atP kvs u.1).2)).1=_
  rw [e]
  exact ih
theorem addUp_bounds (kvs:List (Str × D)):∀ (r:List (Str × Int)) (t b:Int) (i:Nat),(∀ u∈r,Has kvs u.1/\B 64 u.2)->0 < b->B (20700+911 * i) t->B (910 * i+1) b->0 < (addUp kvs r t b).2/\B (20700+911 * (i+r.length)) (addUp kvs r t b).1/\B (910 * (i+r.length)+1) (addUp kvs r t b).2
 | [],t,b,i,_,hb,ht,hb2=>⟨hb,ht,hb2⟩
 | u :: r,t,b,i,h,hb,ht,hb2=>by
  obtain ⟨h1,h2⟩:=h u (List.mem_cons_self ..)
  obtain ⟨_,hy,bx,by'⟩:=h1.at
  have e1:20700+911 * (i+1)=(20700+911 * i+910)+1:=by omega
  have e2:910 * (i+1)+1=(910 * i+1)+910:=by omega
  have ih:=addUp_bounds kvs r (t * (atP kvs u.1).2+u.2 * (atP kvs u.1).1 * b) (b * (atP kvs u.1).2) (i+1) (fun v hv=>h v (List.mem_cons_of_mem _ hv)) (Int.mul_pos hb hy) (by
   rw [e1]
   refine B.add (B.mul ht by') (B.up ?_ (B.mul (B.mul h2 bx) hb2))
   omega) (by rw [e2];exact B.mul hb2 by')
  have e3:i+1+r.length=i+(u :: r).length:=by rw [List.length_cons];omega
  rw [e3] at ih
  exact ih
def word (k:Bool):Str:=if k then "least" else "more"
inductive spNames (ds:List D) (M:MH) (Q:DK):Prop | mk:∀ c,ds=[.int c]->Cell c->(∀ ss M',Names ss->Ext M M'->Q (nms ss) M')->spNames ds M Q
def AllHas (kvs:List (Str × D)) (ts:List (Str × Int)):Prop:=ts.length<=3/\∀ t∈ts,Has kvs t.1/\B 64 t.2
inductive spMust (ds:List D) (M:MH) (Q:DK):Prop | mk:∀ ts q kvs,ds=[trm ts,.ref q]->M q=some (.dic kvs)->AllHas kvs ts->Q .non M->spMust ds M Q
inductive spAdded (ds:List D) (M:MH) (Q:DK):Prop | mk:∀ ts q kvs,ds=[trm ts,.ref q]->M q=some (.dic kvs)->AllHas kvs ts->Q (fr (addUp kvs ts 0 1).1 (addUp kvs ts 0 1).2) M->spAdded ds M Q
inductive spWorth (ds:List D) (M:MH) (Q:DK):Prop | mk:∀ ts w b q kvs,ds=[.tup [trm ts,.int w,.int b],.ref q]->M q=some (.dic kvs)->AllHas kvs ts->B 64 w->0 < b->B 64 b->Q (fr (tp ((addUp kvs ts 0 1).1+w * (addUp kvs ts 0 1).2) ((addUp kvs ts 0 1).2 * b)) (bt ((addUp kvs ts 0 1).1+w * (addUp kvs ts 0 1).2) ((addUp kvs ts 0 1).2 * b))) M->spWorth ds M Q
theorem AllHas.bounds {kvs:List (Str × D)} {ts:List (Str × Int)} (h:AllHas kvs ts) (w:Int) (hw:B 64 w):0 < (addUp kvs ts w 1).2/\B 23500 (addUp kvs ts w 1).1/\B 2800 (addUp kvs ts w 1).2:=by
 obtain ⟨h1,h2,h3⟩:=addUp_bounds kvs ts w 1 0 h.2 (by decide) (B.up (by decide) hw) (by unfold B;decide)
 have:=h.1
 exact ⟨h1,B.up (by omega) h2,B.up (by omega) h3⟩
theorem AllHas.take {kvs:List (Str × D)} {ts:List (Str × Int)} (h:AllHas kvs ts) (i:Nat):AllHas kvs (ts.take i):=⟨by have:=h.1;rw [List.length_take];omega,fun t ht=>h.2 t (List.mem_of_mem_take ht)⟩
theorem lkD_mem {k:Str} {d:D}:∀ {kvs:List (Str × D)},(kvs.map (·.1)).Nodup->(k,d)∈kvs->lkD kvs k=some d
 | [],_,h=>by cases h
 | (x,e) :: r,nd,h=>by
  rw [lkD_cons]
  rw [List.map_cons,List.nodup_cons] at nd
  rcases List.mem_cons.mp h with h | h
  ·cases h;rw [if_pos rfl]
  ·rw [if_neg (fun z=>nd.1 (by subst z;exact List.mem_map_of_mem (f:=(·.1)) h))]
   exact lkD_mem nd.2 h
theorem lkD_some {k:Str}:∀ {kvs:List (Str × D)},k∈kvs.map (·.1)->∃ d,lkD kvs k=some d/\(k,d)∈kvs
 | [],h=>by cases h
 | (x,e) :: r,h=>by
  rw [lkD_cons]
  by_cases z:x=k
  ·subst z;rw [if_pos rfl];exact ⟨e,rfl,List.mem_cons_self ..⟩
  ·rw [if_neg z]
   rw [List.map_cons] at h
   rcases List.mem_cons.mp h with h | h
   ·exact absurd h.symm z
   ·obtain ⟨d,h1,h2⟩:=lkD_some h
    exact ⟨d,h1,List.mem_cons_of_mem _ h2⟩
def soB (k:Bool) (kvs:List (Str × D)) (ts:List (Str × Int)) (b:Int):Bool:=if k then decide (b * (addUp kvs ts 0 1).2<=(addUp kvs ts 0 1).1) else decide (b * (addUp kvs ts 0 1).2 < (addUp kvs ts 0 1).1)
abbrev rowD (k:Bool) (ts:List (Str × Int)) (b:Int):D:=.tup [.str (word k),trm ts,.int b]
inductive spIsSo (ds:List D) (M:MH) (Q:DK):Prop | mk:∀ k ts b q kvs,ds=[rowD k ts b,.ref q]->M q=some (.dic kvs)->AllHas kvs ts->B 600 b->Q (.bl (soB k kvs ts b)) M->spIsSo ds M Q
end KA
namespace D3
open PySem PySem.Spec PyProof.Rows L2
section
variable {P:Program} {w:World} {B:Around} {Z:Value->Shared->Prop}
end
section
variable {X:Cx} {G:Ga} {M:MH} {pos:Pos}
end
theorem depthAll_le {n:Nat}:∀ {ds:List D},(∀ d∈ds,(pd d).depth<=n)->PyData.depthAll (pdL ds)<=n
 | [],_=>by simp [pdL,PyData.depthAll]
 | d :: r,h=>by
  have h1:=h d (List.mem_cons_self ..)
  have h2:=depthAll_le (ds:=r) fun x hx=>h x (List.mem_cons_of_mem _ hx)
  simp only [pdL,PyData.depthAll]
  omega
theorem immL_of:∀ {ds:List D},(∀ d∈ds,imm d=true)->immL ds=true
 | [],_=>by simp [immL]
 | d :: r,h=>by
  simp only [immL]
  rw [h d (List.mem_cons_self ..),immL_of fun x hx=>h x (List.mem_cons_of_mem _ hx)];rfl
end D3
namespace KA
open PySem PySem.Spec PyProof.Rows L2 D3 K01
theorem one_of {k:Nat} {x y:Int} (h1:(k:Int) ∣ x) (h2:(k:Int) ∣ y) (g:Int.gcd x y=1):k=1:=Nat.dvd_one.mp (g ▸ Int.dvd_gcd h1 h2)
theorem cop_of {x y:Int} (h:∀ k:Nat,(k:Int) ∣ x->(k:Int) ∣ y->k=1):Int.gcd x y=1:=h _ (Int.gcd_dvd_left ..) (Int.gcd_dvd_right ..)
theorem cop_sub {x y u v:Int} (g:Int.gcd x y=1) (hu:u ∣ x) (hv:v ∣ y):Int.gcd u v=1:=cop_of fun k h1 h2=>one_of (Int.dvd_trans h1 hu) (Int.dvd_trans h2 hv) g
theorem cop_mul {x y z:Int} (h1:Int.gcd x y=1) (h2:Int.gcd x z=1):Int.gcd x (y * z)=1:=by
 show Nat.gcd _ _=1
 rw [Int.natAbs_mul]
 exact Nat.Coprime.mul_right (k:=x.natAbs) h1 h2
theorem cop_comm {x y:Int} (h:Int.gcd x y=1):Int.gcd y x=1:=by rw [Int.gcd_comm];exact h
theorem cop_mul2 {x u y z:Int} (h1:Int.gcd x y=1) (h2:Int.gcd x z=1) (h3:Int.gcd u y=1) (h4:Int.gcd u z=1):Int.gcd (x * u) (y * z)=1 :=
 cop_comm (cop_mul (cop_comm (cop_mul h1 h2)) (cop_comm (cop_mul h3 h4)))
theorem cop_div {x y:Int} (hy:y≠0):Int.gcd (x.fdiv (Int.gcd x y:Nat)) (y.fdiv (Int.gcd x y:Nat))=1:=by
 have e1:x.fdiv (Int.gcd x y:Nat) * (Int.gcd x y:Nat)=x:=Int.fdiv_mul_cancel_of_dvd (Int.gcd_dvd_left ..)
 have e2:y.fdiv (Int.gcd x y:Nat) * (Int.gcd x y:Nat)=y:=Int.fdiv_mul_cancel_of_dvd (Int.gcd_dvd_right ..)
 have h:=Int.gcd_mul_right (x.fdiv (Int.gcd x y:Nat)) ((Int.gcd x y:Nat):Int) (y.fdiv (Int.gcd x y:Nat))
 rw [e1,e2,Int.natAbs_natCast] at h
 have g:0 < Int.gcd x y:=gcd_pos hy
 exact Nat.eq_of_mul_eq_mul_right g (by rw [Nat.one_mul];exact h.symm)
theorem pos_div {x g:Int} (hx:0 < x) (hg:0 < g) (h:g ∣ x):0 < x.fdiv g:=by
 have e:x.fdiv g * g=x:=Int.fdiv_mul_cancel_of_dvd h
 refine Int.lt_of_not_ge fun z=>?_
 have:=Int.mul_nonpos_of_nonpos_of_nonneg z (Int.le_of_lt hg)
 omega
theorem plus_is {a b c d:Int} (hb:0 < b) (hd:0 < d) (h1:Int.gcd a b=1) (h2:Int.gcd c d=1) {s l t g:Int} (es:s=(Int.gcd b d:Nat)) (el:l=b.fdiv s) (et:t=a * d.fdiv s+c * l) (eg:g=(Int.gcd t s:Nat)) :
  0 < s/\0 < g/\s.natAbs<=b.natAbs/\g.natAbs<=s.natAbs/\tp (a * d+c * b) (b * d)=t.fdiv g/\bt (a * d+c * b) (b * d)=l * d.fdiv g:=by
 have hs:0 < s:=by have:=gcd_pos (t:=b) (b:=d) (by omega);omega
 have hg:0 < g:=by have:=gcd_pos (t:=t) (b:=s) (by omega);omega
 have sb:s ∣ b:=by rw [es];exact Int.gcd_dvd_left ..
 have sd:s ∣ d:=by rw [es];exact Int.gcd_dvd_right ..
 have gt:g ∣ t:=by rw [eg];exact Int.gcd_dvd_left ..
 have gs:g ∣ s:=by rw [eg];exact Int.gcd_dvd_right ..
 have lsb:s<=b:=Int.le_of_dvd hb sb
 have lgs:g<=s:=Int.le_of_dvd hs gs
 have c1:Int.gcd l (d.fdiv s)=1:=by rw [el,es];exact cop_div (by omega)
 have c2:Int.gcd (t.fdiv g) (s.fdiv g)=1:=by rw [eg];exact cop_div (by omega)
 have e1:l * s=b:=by rw [el];exact Int.fdiv_mul_cancel_of_dvd sb
 have e2:d.fdiv s * s=d:=Int.fdiv_mul_cancel_of_dvd sd
 have e3:t.fdiv g * g=t:=Int.fdiv_mul_cancel_of_dvd gt
 have e4:s.fdiv g * g=s:=Int.fdiv_mul_cancel_of_dvd gs
 have e5:d.fdiv g * g=d:=Int.fdiv_mul_cancel_of_dvd (Int.dvd_trans gs sd)
 have p5:0 < d.fdiv g:=pos_div hd hg (Int.dvd_trans gs sd)
 have p1:0 < l:=by rw [el];exact pos_div hb hs sb
 generalize d.fdiv s=d1 at *
 generalize t.fdiv g=t1 at *
 generalize s.fdiv g=s1 at *
 generalize d.fdiv g=d2 at *
 have e6:d2=d1 * s1:=by
  apply Int.eq_of_mul_eq_mul_right (a:=g) (by omega)
  rw [e5,Int.mul_assoc,e4,e2]
 have c3:Int.gcd t1 l=1:=cop_of fun k k1 k2=>by
  have kt:(k:Int) ∣ t:=by rw [<- e3];exact Int.dvd_trans k1 (Int.dvd_mul_right ..)
  have ka:(k:Int) ∣ a * d1:=by
   have:a * d1=t - c * l:=by rw [et];omega
   rw [this]
   exact Int.dvd_sub kt (Int.dvd_trans k2 (Int.dvd_mul_left ..))
  have kc:Int.gcd d1 (k:Int)=1:=cop_comm (cop_sub c1 k2 (Int.dvd_refl _))
  have ka':(k:Int) ∣ a:=dvd_cop (by rw [Int.mul_comm];exact ka) kc
  exact one_of ka' (Int.dvd_trans k2 ⟨s,e1.symm⟩) h1
 have c4:Int.gcd t1 d1=1:=cop_of fun k k1 k2=>by
  have kt:(k:Int) ∣ t:=by rw [<- e3];exact Int.dvd_trans k1 (Int.dvd_mul_right ..)
  have ka:(k:Int) ∣ c * l:=by
   have:c * l=t - a * d1:=by rw [et];omega
   rw [this]
   exact Int.dvd_sub kt (Int.dvd_trans k2 (Int.dvd_mul_left ..))
  have kc:Int.gcd l (k:Int)=1:=cop_sub c1 (Int.dvd_refl _) k2
  have ka':(k:Int) ∣ c:=dvd_cop (by rw [Int.mul_comm];exact ka) kc
  exact one_of ka' (Int.dvd_trans k2 ⟨s,e2.symm⟩) h2
 refine ⟨hs,hg,by omega,by omega,made_is (Int.mul_ne_zero (by omega) (by omega)) (Int.mul_pos p1 p5) ?_ ?_⟩
 ·rw [e6];exact cop_mul c3 (cop_mul c4 c2)
 ·grind
theorem times_is {a b c d:Int} (hb:0 < b) (hd:0 < d) (h1:Int.gcd a b=1) (h2:Int.gcd c d=1) {p q:Int} (ep:p=(Int.gcd a d:Nat)) (eq:q=(Int.gcd c b:Nat)) :
  0 < p/\0 < q/\p.natAbs<=d.natAbs/\q.natAbs<=b.natAbs/\tp (a * c) (b * d)=a.fdiv p * c.fdiv q/\bt (a * c) (b * d)=b.fdiv q * d.fdiv p:=by
 have hp:0 < p:=by have:=gcd_pos (t:=a) (b:=d) (by omega);omega
 have hq:0 < q:=by have:=gcd_pos (t:=c) (b:=b) (by omega);omega
 have pa:p ∣ a:=by rw [ep];exact Int.gcd_dvd_left ..
 have pd:p ∣ d:=by rw [ep];exact Int.gcd_dvd_right ..
 have qc:q ∣ c:=by rw [eq];exact Int.gcd_dvd_left ..
 have qb:q ∣ b:=by rw [eq];exact Int.gcd_dvd_right ..
 have lpd:p<=d:=Int.le_of_dvd hd pd
 have lqb:q<=b:=Int.le_of_dvd hb qb
 have c1:Int.gcd (a.fdiv p) (d.fdiv p)=1:=by rw [ep];exact cop_div (by omega)
 have c2:Int.gcd (c.fdiv q) (b.fdiv q)=1:=by rw [eq];exact cop_div (by omega)
 have e1:a.fdiv p * p=a:=Int.fdiv_mul_cancel_of_dvd pa
 have e2:d.fdiv p * p=d:=Int.fdiv_mul_cancel_of_dvd pd
 have e3:c.fdiv q * q=c:=Int.fdiv_mul_cancel_of_dvd qc
 have e4:b.fdiv q * q=b:=Int.fdiv_mul_cancel_of_dvd qb
 have p2:0 < d.fdiv p:=pos_div hd hp pd
 have p4:0 < b.fdiv q:=pos_div hb hq qb
 generalize a.fdiv p=a1 at *
 generalize d.fdiv p=d1 at *
 generalize c.fdiv q=c1 at *
 generalize b.fdiv q=b1 at *
 refine ⟨hp,hq,by omega,by omega,made_is (Int.mul_ne_zero (by omega) (by omega)) (Int.mul_pos p4 p2) ?_ ?_⟩
 ·exact cop_mul2 (cop_sub h1 ⟨p,e1.symm⟩ ⟨q,e4.symm⟩) ‹_› ‹_› (cop_sub h2 ⟨q,e3.symm⟩ ⟨p,e2.symm⟩)
 ·grind
theorem made_eq {t b t' b':Int} (hb:b≠0) (hb':b'≠0) (h:t * b'=t' * b):tp t b=tp t' b'/\bt t b=bt t' b':=by
 refine made_is hb (bt_pos hb') (coprime hb') ?_
 have c:=cross t' b'
 apply Int.eq_of_mul_eq_mul_right hb'
 calc tp t' b' * b * b'=(tp t' b' * b') * b:=by rw [Int.mul_right_comm]
  _=t' * bt t' b' * b:=by rw [c]
  _=(t' * b) * bt t' b':=by rw [Int.mul_right_comm]
  _=t * b' * bt t' b':=by rw [h]
  _=t * bt t' b' * b':=by rw [Int.mul_right_comm]
theorem gcd_abs (a b:Int):Int.gcd (a.natAbs:Int) b=Int.gcd a b:=by
 show Nat.gcd _ _=Nat.gcd _ _
 rw [Int.natAbs_natCast]
theorem tp_one {t:Int}:tp t 1=t/\bt t 1=1:=made_is (by decide) (by decide) (by rw [Int.gcd_one]) (by omega)
inductive spArL (g:Int->Int->Int->Int->Int × Int) (ds:List D) (M:MH) (Q:DK):Prop | mk:∀ a b c d:Int,ds=[fr a b,fr c d]->0 < b->0 < d->Int.gcd a b=1->Int.gcd c d=1->B 40000 a->B 3000 b->B 40000 c->B 3000 d->Q (fr (tp (g a b c d).1 (g a b c d).2) (bt (g a b c d).1 (g a b c d).2)) M->spArL g ds M Q
end KA
namespace D3
open PySem PySem.Spec PyProof.Rows L2
section
variable {X:Cx} {G:Ga} {M:MH} {elt tg iter e:Expr} {scope:Scope} {pos:Pos} {Q:DK} {own:List Str} {js:List Nat} {N:List Str} {cl:List (Str × Addr)}
def WalksV (J:It) (H:Hp) (ds:List D):Prop:=∀ H',Grow H H'->(∀ i,i=ds.length->J.stop i H')/\∀ i,i < ds.length->J.go i H'/\∀ x H2,J.yld i H' x H2->H2=H'/\∃ d,ds[i]?=some d/\Is H' d x
theorem block_nil {Iv:Addr->Nat->List D->MH->Prop} {ds:List D} (block:∀ Y:Cx,(∃ C s H fp,Y=compCx X N scope cl C s H fp)->∀ q i acc M' d,ds[i]?=some d->Iv q i acc M'->M' q=some (.lst acc)->GV Y (compG own js G) M' tg d fun G3 M3=>M3=M'/\Sub (compG own js G) G3/\EV Y G3 M' elt fun o M4=>M4 q=some (.lst acc)/\acc.length < sizeLine/\Iv q (i+1) (acc++[o]) (mset M4 q (.lst (acc++[o])))) :
  ∀ Y:Cx,(∃ C s H fp,Y=compCx X N scope cl C s H fp)->∀ q i acc M' d,ds[i]?=some d->Iv q i acc M'->M' q=some (.lst acc)->GV Y (compG own js G) M' tg d fun G3 M3=>M3=M'/\Sub (compG own js G) G3/\TVs Y G3 M' [] fun k M4=>M4=M'/\if k=true then EV Y G3 M' elt fun o M5=>M5 q=some (.lst acc)/\acc.length < sizeLine/\Iv q (i+1) (acc++[o]) (mset M5 q (.lst (acc++[o]))) else Iv q (i+1) acc M' :=
 fun Y hY q i acc M' d hd v m=>gv_mono (block Y hY q i acc M' d hd v m) fun _ _ ⟨e1,e2,e3⟩=>⟨e1,e2,rfl,by rw [if_pos rfl];exact e3⟩
theorem ev_compI {wi:TI} (T:CompOk X own js N scope cl) (hxe:X.xe=fun _ _=>False) (hc:X.calm=true) (hi:PI X tg iter wi)
  (h:∀ σ H,KF X.K H->Rel X G M σ H->wi σ H fun J H1=>Grow H H1/\∃ (M1:MH) (ds:List D) (Iv:Addr->Nat->List D->MH->Prop),Rel X G M1 σ H1/\WalksV J H1 ds/\(∀ q,M1 q=none->Iv q 0 [] (mset M1 q (.lst []))) /\
   (∀ Y:Cx,(∃ C s H fp,Y=compCx X N scope cl C s H fp)->∀ q i acc M' d,ds[i]?=some d->Iv q i acc M'->M' q=some (.lst acc)->GV Y (compG own js G) M' tg d fun G3 M3=>M3=M'/\Sub (compG own js G) G3/\EV Y G3 M' elt fun o M4=>M4 q=some (.lst acc)/\acc.length < sizeLine/\Iv q (i+1) (acc++[o]) (mset M4 q (.lst (acc++[o])))) /\
   ∀ q acc M',Iv q ds.length acc M'->M' q=some (.lst acc)->Q (.ref q) M')
  (hs:∀ x,foldedSetIterable iter X.env x=pure x:=by intro _;rfl):EV X G M (.ListComp elt [⟨tg,iter,[],0⟩] scope pos) Q :=
 ev_compK T hxe hc hi (fun σ H kf R=>⟨_,h σ H kf R,fun J H1 ⟨g,M1,ds,Iv,R1,w,iv0,b,fin⟩=>⟨g,M1,ds,Iv,R1,fun q i acc M' H' g' _ _=>⟨(w H' g').1 i,fun hlt=>⟨((w H' g').2 i hlt).1,fun x H2 y=>by
  obtain ⟨rfl,z⟩:=((w H' g').2 i hlt).2 x H2 y
  exact ⟨Grow.refl _,fun _ _ z=>z,z⟩⟩⟩,iv0,block_nil b,fin⟩⟩) hs
theorem ev_compR {p p2:Pos} (T:CompOk X own js N scope cl) (hxe:X.xe=fun _ _=>False) (hc:X.calm=true) (hm:X.mg "range" = none)
  (h:AV X G M [e] fun as M1=>∃ (n:Int) (Iv:Addr->Nat->List D->MH->Prop),as=[.int n]/\0<=n/\n < 1000/\(∀ q,M1 q=none->Iv q 0 [] (mset M1 q (.lst []))) /\
   (∀ Y:Cx,(∃ C s H fp,Y=compCx X N scope cl C s H fp)->∀ q i acc M',i < n.toNat->Iv q i acc M'->M' q=some (.lst acc)->GV Y (compG own js G) M' tg (.int (i:Nat)) fun G3 M3=>M3=M'/\Sub (compG own js G) G3/\EV Y G3 M' elt fun o M4=>M4 q=some (.lst acc)/\acc.length < sizeLine/\Iv q (i+1) (acc++[o]) (mset M4 q (.lst (acc++[o])))) /\
   ∀ q acc M',Iv q n.toNat acc M'->M' q=some (.lst acc)->Q (.ref q) M')
  (hg:Gl X "range") (hse:starEach [e] X.env=[(false,eval e X.env)]) (hs:∀ x,foldedSetIterable (.Call (.Name "range" p) [e] [] p2) X.env x=pure x):EV X G M (.ListComp elt [⟨tg,.Call (.Name "range" p) [e] [] p2,[],0⟩] scope pos) Q:=by
 refine ev_compI T hxe hc (pi_range1 hg hm (pa_D (G:=G)) hse) (fun σ H kf R=>?_) hs
 refine ⟨M,_,R,h,fun vs H' ds M' kf' g i R' q=>?_⟩
 obtain ⟨n,Iv,e,h1,h2,iv0,block,fin⟩:=q
 subst e
 obtain ⟨v,rfl,hv⟩:=isl1 i
 rw [is_int] at hv;subst hv
 refine ⟨n,rfl,by omega,by omega,g,M',(List.range n.toNat).map fun i:Nat=>D.int i,Iv,R',fun H2 g2=>⟨fun i e=>?_,fun i hlt=>⟨?_,fun x H3 y=>?_⟩⟩,iv0,fun Y hY q i acc M2 d hd v2 m2=>?_,fun q acc M2 v2 m2=>fin q acc M2 (by rw [List.length_map,List.length_range] at v2;exact v2) m2⟩
 ·show n.toNat<=i
  rw [e,List.length_map,List.length_range];exact Nat.le_refl _
 ·show i < n.toNat
  simpa using hlt
 ·obtain ⟨e,y⟩:=y
  subst e;subst y
  have hlt':i < n.toNat:=by simpa using hlt
  exact ⟨rfl,.int i,by rw [List.getElem?_map,List.getElem?_range hlt'];rfl,is_int.mpr (by simp)⟩
 ·rw [List.getElem?_map] at hd
  have hi:i < n.toNat:=by
   refine Nat.lt_of_not_le fun z=>?_
   rw [List.getElem?_eq_none (by rw [List.length_range];exact z)] at hd;cases hd
  rw [List.getElem?_range hi] at hd
  have hd:D.int (i:Nat)=d:=by simpa using hd
  subst hd
  exact block Y hY q i acc M2 hi v2 m2
end
section
variable {X:Cx} {G:Ga} {M:MH} {elt tg iter e:Expr} {scope:Scope} {pos:Pos} {Q:DK} {own:List Str} {js:List Nat} {N:List Str} {cl:List (Str × Addr)}
theorem ex_compI {wi:TI} {ifs:List Expr} {E:EndsD} {y:Str} {py spos:Pos} (jj:Nat) (T:CompOk X own js N scope cl) (hxe:X.xe=fun _ _=>False) (hc:X.calm=true) (hi:PI X tg iter wi) (hN:X.N.Nodup) (hj:X.N[jj]?=some y) (hy:Loc X.env.scope y) (hyf:X.fn y=true\/X.env.scope.names.lookup y=some .local)
  (hsw:swapsWith (.ListComp elt [⟨tg,iter,ifs,0⟩] scope pos) (some (.Name y py)) spos.line X.env=pure true)
  (h:∀ σ H,KF X.K H->Rel X G M σ H->wi σ H fun J H1=>Grow H H1/\∃ (M1:MH) (ds:List D) (Iv:Addr->Nat->List D->MH->Prop),Rel X G M1 σ H1 /\
   (∀ q i acc M' H',Grow H1 H'->MemOk X.K M' H'->Iv q i acc M'->(i=ds.length->J.stop i H')/\(i < ds.length->J.go i H'/\∀ x H2,J.yld i H' x H2->Grow H' H2/\(∀ b o,H' b=some o->H2 b=some o)/\∃ d,ds[i]?=some d/\Is H2 d x))/\(∀ q,M1 q=none->Iv q 0 [] (mset M1 q (.lst []))) /\
   (∀ Y:Cx,(∃ C s H fp,Y=compCx X N scope cl C s H fp)->∀ q i acc M' d,ds[i]?=some d->Iv q i acc M'->M' q=some (.lst acc)->GV Y (compG own js G) M' tg d fun G3 M3=>M3=M'/\Sub (compG own js G) G3/\TVs Y G3 M' ifs fun k M4=>M4=M'/\if k=true then EV Y G3 M' elt fun o M5=>M5 q=some (.lst acc)/\acc.length < sizeLine/\Iv q (i+1) (acc++[o]) (mset M5 q (.lst (acc++[o]))) else Iv q (i+1) acc M') /\
   ∀ q acc M',Iv q ds.length acc M'->M' q=some (.lst acc)->E.nx (G.set jj (some (.ref q))) M')
  (hs:∀ x,foldedSetIterable iter X.env x=pure x:=by intro _;rfl):EX X G M (.Assign [.Name y py] (.ListComp elt [⟨tg,iter,ifs,0⟩] scope pos) spos) E:=by
 intro pins s σ H I R
 rw [exec_Assign_Name_used _ _ _ _ hsw]
 refine wpAny_bind (wpAny_standAt (wpAny_bind ?_))
 show wpAny _ X.A (do let _ <- comprehension (.ListComp elt [⟨tg,iter,ifs,0⟩] scope pos) scope X.env _ (newList []) false (eval iter X.env) (some (assign (.Name y py) X.env))) _ _ s
 refine wpAny_bind (wpAny_mono (comp_core (use:=some (assign (.Name y py) X.env)) (Qc:=fun _ s'=>SPD X pins H E .next s') (F:=fun q=>E.nx (G.set jj (some (.ref q)))) T hxe hc hi hs I (h σ H (kf_of I) R) (fun J H1 h=>h) fun q M5 C s3 H3 fp σ5 H5 s6 f I3 f3 hC I6 g R5=>?_) (fun _ s' hq=>wpAny_pure (wpAny_pure hq)) fun _ _ e=>e)
 obtain ⟨mm,hmm,_⟩:=id I6.loc
 have IX:Inv X pins σ H5 s6:=Inv.unblock I3 f3 I6 hC (Heap.SameBut.refl C s6.heap)
 have freeC:H5 C=none:=I6.free
 have CneL:C≠X.env.locals:=by rw [hC];exact Nat.ne_of_gt I3.lt
 have CnF:C∉X.fs:=I3.nofs (by rw [hC];exact Nat.le_refl _)
 obtain ⟨oC,esC,epC,hoC,hdC,hrC⟩:=id hmm
 have hoC:s6.heap.get? C=some oC:=hoC
 have IXp:Inv X (pins++[(C,oC)]) σ H5 s6:=IX.pins_of fun z hz=>by
  rcases List.mem_append.mp hz with hz | hz
  ·exact IX.pin z (List.mem_append_right _ hz)
  ·rw [List.mem_singleton.mp hz]
   exact ⟨hoC,freeC,CneL,CnF,fun v e=>by rw [hdC] at e;cases e⟩
 have hl:jj < σ.length:=by rw [IX.len];exact (List.getElem?_eq_some_iff.mp hj).1
 refine wpAny_assign_Name (store_ok IXp hN hj hy (v:=.ref q) rfl (fun s7 I7=>?_) hyf)
 have pC:=I7.pin (C,oC) (List.mem_append_right _ (List.mem_append_right _ (List.mem_singleton.mpr rfl)))
 refine ⟨mm,⟨oC,esC,epC,pC.1,hdC,hrC⟩,fun h' hsb=>?_⟩
 have pinsne:∀ p∈X.pn++pins,p.1≠C:=fun z hz e=>by
  have:=(I3.pin z hz).1
  exact absurd (Heap.lt_size this) (by rw [e,hC];exact Nat.lt_irrefl _)
 have cellne:∀ x c,X.env.cells.lookup x=some c->c≠C:=fun x c e z=>by
  obtain ⟨v,qc⟩:=I3.cell x c e
  exact absurd qc.lt (by rw [z,hC];exact Nat.lt_irrefl _)
 have I8:Inv X pins (σ.set jj (some (.ref q))) H5 { s7 with heap:=h' }:=(I7.unpinned).turned (t':=s7.toks) (it:=C) (fun b o hb e=>(hsb.2 b hb).trans e) freeC CneL (.inr (by rw [hC];exact I3.sz)) cellne pinsne
 exact ⟨_,H5,_,M5,I8,g,R5.set hl (is_ref.mpr rfl),f⟩
theorem ex_comp_list {E:EndsD} {ifs:List Expr} {y:Str} {py spos:Pos} (jj:Nat) (T:CompOk X own js N scope cl) (hxe:X.xe=fun _ _=>False) (hc:X.calm=true) (hN:X.N.Nodup) (hj:X.N[jj]?=some y) (hy:Loc X.env.scope y) (hyf:X.fn y=true\/X.env.scope.names.lookup y=some .local)
  (hsw:swapsWith (.ListComp elt [⟨tg,iter,ifs,0⟩] scope pos) (some (.Name y py)) spos.line X.env=pure true) (f:D->D) (pr:D->Bool)
  (h:EV X G M iter fun d M1=>∃ (l:Addr) (ds:List D),d=.ref l/\(M1 l=some (.lst ds)\/M1 l=some (.ro ds))/\ds.length<=sizeLine /\
   (∀ Y:Cx,(∃ C s H fp,Y=compCx X N scope cl C s H fp)->∀ M',Ext M1 M'->∀ d∈ds,GV Y (compG own js G) M' tg d fun G3 M3=>M3=M'/\Sub (compG own js G) G3/\TVs Y G3 M' ifs (fun k M4=>M4=M'/\k=pr d)/\(pr d=true->EV Y G3 M' elt fun o M4=>M4=M'/\o=f d)) /\
   ∀ q,M1 q=none->E.nx (G.set jj (some (.ref q))) (mset M1 q (.lst ((ds.filter pr).map f))))
  (hs:∀ x,foldedSetIterable iter X.env x=pure x):EX X G M (.Assign [.Name y py] (.ListComp elt [⟨tg,iter,ifs,0⟩] scope pos) spos) E:=by
 refine ex_compI jj T hxe hc (pi_list (pe_D (G:=G))) hN hj hy hyf hsw (fun σ H kf R=>?_) hs
 refine ⟨M,_,R,h,fun v H' d M' kf' g i R' q=>?_⟩
 obtain ⟨l,ds,e,hl,hz,block,fin⟩:=q
 subst e
 rw [is_ref] at i;subst i
 have sq:∀ {H2:Hp},MemOk X.K M' H2->∃ xs,SqL X.K H2 l xs/\IsL H2 ds xs:=fun {H2} m=>by
  rcases hl with hl | hl
  ·obtain ⟨xs,h1,h2⟩:=m l _ hl;exact ⟨xs,SqL.of h1,h2⟩
  ·exact m l _ hl
 obtain ⟨xs0,hx0,_⟩:=sq R'.mem
 refine ⟨l,rfl,⟨xs0,hx0⟩,g,M',ds,fun q i acc M2=>M' q=none/\M2=mset M' q (.lst acc)/\acc=((ds.take i).filter pr).map f,R',fun q i acc M2 H2 g2 m2 v2=>?_,fun q hq=>⟨hq,rfl,by simp⟩,pure_block hz block,fun q acc M2 ⟨h1,h2,h3⟩ _=>by rw [h2,h3,List.take_length];exact fin q h1⟩
 obtain ⟨xs,hx2,hxi⟩:=sq (m2.ext (by rw [v2.2.1];exact ext_new v2.1))
 have hlen:=hxi.len
 refine ⟨fun e=>⟨xs,hx2,by omega⟩,fun hlt=>⟨⟨xs,xs[i]'(by omega),hx2,by simp⟩,fun x H3 y=>?_⟩⟩
 obtain ⟨e,y⟩:=y
 subst e
 have e1:=y xs hx2
 obtain ⟨d,e2,i2⟩:=hxi.get' e1
 exact ⟨Grow.refl _,fun _ _ z=>z,d,e2,i2⟩
end
section
variable {P:Program} {w:World} {B:Around} {Z:Value->Shared->Prop} {c t:Addr} {a:Nat} {xs:Array Value} {st:Shared} {R:Value->Shared->Prop}
theorem off_tuple {x:Value} (hi:st.heap.IsTupleIter c t a) (ht:st.heap.IsTuple t xs) (hx:xs[a]?=some x)
  (k:∀ g,g.IsTupleIter c t (a+1)->Heap.SameBut c st.heap g->R x { st with heap:=g }):wpAny (model P w) B (Builtin.SmallTypes.nextOf (.ref c)) R Z st:=by
 obtain ⟨oc,e1,e2,e3⟩:=id hi
 obtain ⟨ot,f1,f2,m,f3⟩:=ht
 unfold Builtin.SmallTypes.nextOf
 refine wpAny_bind (wpAny_callSpecial?_slot (name:=Str.ofString "__next__") hi.typeIs F.slot_tuple_iterator_next (wpAny_call_entry F.slot_tuple_iterator_next hi.typeIs F.entry_tuple_iterator_next ?_ (F.args_tuple_iterator_next_1 _)))
 show wpAny _ _ (field (.ref c) 0 >>= _) _ _ st
 refine wpAny_bind (wpAny_field e1 e3 (x:=.ref t) rfl ?_)
 have far:¬ ((Value.ref t == Value.none)=true):=Bool.false_ne_true
 show wpAny _ _ (if (Value.ref t == Value.none)=true then _ else _) _ _ st
 rw [if_neg far]
 show wpAny _ _ (field (.ref c) 1 >>= _) _ _ st
 refine wpAny_bind (wpAny_field e1 e3 (x:=.int a 0) rfl ?_)
 show wpAny _ _ (seqItems? (.ref t) >>= _) _ _ st
 refine wpAny_bind (wpAny_seqItems f1 f3 ?_)
 simp only [Int.toNat_natCast,hx]
 refine wpAny_bind (wpAny_setField e1 e3 (by simp) (wpAny_pure ⟨x,rfl,wpAny_pure (k _ ⟨_,Heap.get?_update_self _ e1 (Obj.isFreed_of_fields (Obj.data_mapFields e3 _)),(Obj.cls_mapFields ..).trans e2,?_⟩ (Heap.SameBut.update ..))⟩))
 rw [Obj.data_mapFields e3];simp [rawInt]
theorem out_tuple (calm:B.handled=none) (hi:st.heap.IsTupleIter c t a) (ht:st.heap.IsTuple t xs) (hx:xs[a]?=none)
  (k:∀ g e,Heap.ExtBut c st.heap g->(∃ o,g.get? e=some o/\o.cls=.type "StopIteration")->Z (.ref e) { st with heap:=g }):wpAny (model P w) B (Builtin.SmallTypes.nextOf (.ref c)) R Z st:=by
 obtain ⟨oc,e1,e2,e3⟩:=id hi
 obtain ⟨ot,f1,f2,m,f3⟩:=ht
 unfold Builtin.SmallTypes.nextOf
 refine wpAny_bind (wpAny_callSpecial?_slot (name:=Str.ofString "__next__") hi.typeIs F.slot_tuple_iterator_next (wpAny_call_entry F.slot_tuple_iterator_next hi.typeIs F.entry_tuple_iterator_next ?_ (F.args_tuple_iterator_next_1 _)))
 show wpAny _ _ (field (.ref c) 0 >>= _) _ _ st
 refine wpAny_bind (wpAny_field e1 e3 (x:=.ref t) rfl ?_)
 have far:¬ ((Value.ref t == Value.none)=true):=Bool.false_ne_true
 show wpAny _ _ (if (Value.ref t == Value.none)=true then _ else _) _ _ st
 rw [if_neg far]
 show wpAny _ _ (field (.ref c) 1 >>= _) _ _ st
 refine wpAny_bind (wpAny_field e1 e3 (x:=.int a 0) rfl ?_)
 show wpAny _ _ (seqItems? (.ref t) >>= _) _ _ st
 refine wpAny_bind (wpAny_seqItems f1 f3 ?_)
 simp only [Int.toNat_natCast,hx]
 refine wpAny_bind (wpAny_rule (wpAny_bind (wpAny_setField e1 e3 (by simp) (show wpAny _ _ (newExc (.type "StopIteration") [] >>= _) _ _ _ from wpAny_bind ?_))))
 simp only [newExc,newTuple]
 refine wpAny_bind (wpAny_newObj_type (wpAny_bind (m:=firstArgMember _ _) (wpAny_of_eq (a:=Value.none) (by first | rfl | (simp only [firstArgMember];rfl)) (wpAny_newObj_type ?_ (by size_fits)))) (by size_fits))
 simp only [raiseNew]
 refine wpAny_bind (wpAny_handled ?_)
 first | rw [show B.in1.handled=none from calm] | rw [calm]
 exact wpAny_bind (wpAny_pure (wpAny_throw (k _ _ (((Heap.SameBut.update ..).extBut.push _).push _) ⟨_,Heap.get?_push_size _ rfl,rfl⟩)))
end
theorem draws_tuple {P:Program} {w:World} {B:Around} (calm:B.handled=none) (c t:Addr) (far:t≠c) (xs:Array Value) :
  Draws P w B c [c,t] xs.size (fun i v=>xs[i]?=some v) (fun i h=>h.IsTupleIter c t i/\h.IsTuple t xs) where
 live:=fun _ _ q=>let ⟨o,e,_⟩:=q.1;⟨o,e⟩
 frame:=fun _ _ _ q k=>⟨q.1.at fun o e=>k c (by simp) o e,let ⟨o,e,r⟩:=q.2;⟨o,k t (by simp) o e,r⟩⟩
 item:=fun i st R Z lt q k=>by
  refine off_tuple q.1 q.2 (x:=xs[i]) (by simp [lt]) fun g h1 h2=>k _ g st.toks (by simp [lt]) ⟨h1,q.2.extBut h2.extBut far⟩ h2
 done:=fun st R Z q k=>out_tuple calm q.1 q.2 (by simp) k
open AutoSeq1 (wpAny_loadPart')
theorem new_enum (t:Addr) (xs:Array Value) (m:Nat) (dc:Option Addr) (sl:Array (Option Value)) :
  Meets (Builtin.«enumerate.__new__» ⟨[.type "enumerate",.ref t],[]⟩) (fun _ R st=>st.heap.get? t=some { cls:=.type "tuple",dict:=dc,data:=.seq xs m,slots:=sl } /\
   R (.ok (.ret (.ref (st.heap.push { cls:=.type "tuple_iterator",data:=.fields #[.ref t,.int 0 0] }).objs.size)))
    { st with heap:=(st.heap.push { cls:=.type "tuple_iterator",data:=.fields #[.ref t,.int 0 0] }).push { cls:=.type "enumerate",data:=.fields #[.none,.bool false,.ref st.heap.objs.size,rawInt 0,.none,.none] } }) :=
 .of_wp fun P w B R st q=>by
  obtain ⟨hp,gs,dr,tk,os⟩:=st
  obtain ⟨e1,q⟩:=q
  have sub:=sub_enumerate
  have hT:Heap.IsTuple (Shared.heap ⟨hp,gs,dr,tk,os⟩) t xs:=⟨_,e1,rfl,m,rfl⟩
  wp_walk using wpAny_loadPart' e1
  refine wpAny_stack_any fun _=>wpAny_pure ?_
  split
  ·rename_i k _ _ _ _ _
   cases (k == Value.type "enumerate")<;>(wp_walk using wpAny_loadPart' e1,wpAny_pyIter_tuple hT;exact ⟨_,rfl,q⟩)
  ·wp_walk using wpAny_loadPart' e1,wpAny_pyIter_tuple hT
   exact ⟨_,rfl,q⟩
theorem call_enum {P:Program} {w:World} {B:Around} {Z:Value->Shared->Prop} {st:Shared} {t:Addr} {xs:Array Value} {R:Value->Shared->Prop} (ht:st.heap.IsTuple t xs)
  (k:∀ g,IsEnum g (st.heap.objs.size+1) st.heap.objs.size 0 .none->g.IsTupleIter st.heap.objs.size t 0->(∀ b o,st.heap.get? b=some o->g.get? b=some o)->R (.ref (st.heap.objs.size+1)) { st with heap:=g }) :
  wpAny (model P w) B (call (.type "enumerate") [.ref t]) R Z st:=by
 obtain ⟨⟨cl,dc,dt,sl⟩,e1,e2,m,e3⟩:=ht
 replace e2:cl=.type "tuple" := e2
 replace e3:dt=.seq xs m:=e3
 subst e2 e3
 refine callType_new F.called_enumerate (by decide) (F.typeCall_enumerate_1 _) (F.newCall_enumerate_1 _) (fun o=>F.args_object_init_2 o _) F.entry_enumerate_new (new_enum t xs m dc sl) ⟨e1,?_⟩
 have sz:(st.heap.push { cls:=.type "tuple_iterator",data:=.fields #[.ref t,.int 0 0] }).objs.size=st.heap.objs.size+1:=Heap.size_push ..
 have en:IsEnum ((st.heap.push { cls:=.type "tuple_iterator",data:=.fields #[.ref t,.int 0 0] }).push { cls:=.type "enumerate",data:=.fields #[.none,.bool false,.ref st.heap.objs.size,rawInt 0,.none,.none] }) (st.heap.objs.size+1) st.heap.objs.size 0 .none:=by
  rw [<- sz]
  exact Heap.get?_push_size _ rfl
 show _/\_
 rw [sz]
 exact ⟨⟨_,en,rfl⟩,k _ en ⟨_,Heap.get?_push_of_some _ (Heap.get?_push_size _ rfl),rfl,rfl⟩ fun b o x=>Heap.get?_push_of_some _ (Heap.get?_push_of_some _ x)⟩
theorem turned2 {X:Cx} {pins:List (Addr × Obj)} {σ:St} {H:Hp} {s:Shared} {g:Heap} {e it:Addr} {tk:Nat} (I:L2.Inv X pins σ H s) (fe:FpOk X pins H e) (fi:FpOk X pins H it) (ne:e≠it)
  (he:∃ o,s.heap.get? e=some o) (hi:∃ o,s.heap.get? it=some o) (ke:∃ o,g.get? e=some o) (ki:∃ o,g.get? it=some o) (k:∀ b o,b≠e->b≠it->s.heap.get? b=some o->g.get? b=some o) :
  ∃ m:Heap,L2.Inv X pins σ H { s with heap:=m,toks:=tk }/\m.objs.size=s.heap.objs.size/\∀ b o,m.get? b=some o->g.get? b=some o:=by
 obtain ⟨oe,he⟩:=he
 obtain ⟨oi,hi⟩:=hi
 obtain ⟨ue,ke⟩:=ke
 obtain ⟨ui,ki⟩:=ki
 obtain ⟨a0,a1,a2,a3,a4,a5⟩:=fi
 obtain ⟨b0,b1,b2,b3,b4,b5⟩:=fe
 have s1:Heap.SameBut it s.heap (s.heap.update it fun _=>ui):=Heap.SameBut.update ..
 have s2:Heap.SameBut e (s.heap.update it fun _=>ui) ((s.heap.update it fun _=>ui).update e fun _=>ue):=Heap.SameBut.update ..
 have g1:(s.heap.update it fun _=>ui).get? it=some ui:=Heap.get?_update_self (fun _=>ui) hi (Heap.get?_some_iff.mp ki).2
 have g2:((s.heap.update it fun _=>ui).update e fun _=>ue).get? e=some ue:=Heap.get?_update_self (fun _=>ue) ((s1.2 e ne).trans he) (Heap.get?_some_iff.mp ke).2
 have I1:L2.Inv X pins σ H { s with heap:=s.heap.update it fun _=>ui }:=I.turned (t':=s.toks) (fun b o hb q=>(s1.2 b hb).trans q) a0 a1 a3 a4 a5
 have I2:L2.Inv X pins σ H { s with heap:=(s.heap.update it fun _=>ui).update e fun _=>ue,toks:=tk }:=I1.turned (fun b o hb q=>(s2.2 b hb).trans q) b0 b1 b3 b4 b5
 refine ⟨_,I2,s2.1.trans s1.1,fun b o q=>?_⟩
 by_cases z:b=e
 ·subst z;rw [g2] at q;rw [<- q];exact ke
 ·rw [s2.2 b z] at q
  by_cases z':b=it
  ·subst z';rw [g1] at q;rw [<- q];exact ki
  ·rw [s1.2 b z'] at q
   exact k b o z z' q
def Ite (K:PySem.W.Frag) (a:Addr):It :=
 ⟨fun i H=>∃ xs x,SqT K H a xs/\xs[i]?=some x,fun i H v H'=>∃ T x,v=.ref T/\H T=none/\H'=upd H T (.tup [.int i,x])/\∀ xs,SqT K H a xs->xs[i]?=some x,fun i H=>∃ xs,SqT K H a xs/\xs.length=i⟩
theorem turn_enum {P:Program} {w:World} {K:PySem.W.Frag} {ts:List Expr} {n:Nat} {pos:Pos} (a e it:Addr) (ne:e≠it) (ha:a≠e) (hb:a≠it) :
  Turn P w K (.Tuple ts n pos) (Ite K a) [e,it] e (fun i h=>(∃ old,IsEnum h e it i old)/\h.IsTupleIter it a i) where
 mem:=by simp
 obj:=fun i h q b hb=>by
  obtain ⟨⟨old,q1⟩,o,q2,_,q3⟩:=q
  rcases List.mem_cons.mp hb with z | z
  ·subst z;exact ⟨_,q1,fun v z=>by
    have z':Data.fields _=Data.cell v:=z
    cases z'⟩
  ·rw [List.mem_singleton.mp z];exact ⟨o,q2,fun v z=>by rw [q3] at z;cases z⟩
 keep:=fun i h h' q k=>⟨let ⟨old,q1⟩:=q.1;⟨old,k e (by simp) _ q1⟩,q.2.at fun o z=>k it (by simp) o z⟩
 item:=by
  intro X hP hw hK hc i pins s σ H E I hf q hg
  subst hP hw hK
  obtain ⟨xs,x,hq,hx⟩:=hg
  obtain ⟨its,rv,p,hz⟩:=I.tuple hq
  obtain ⟨u,hu,ru⟩:=rv.get hx
  obtain ⟨⟨old,q1⟩,q2⟩:=q
  have lt:i < its.toArray.size:=by
   have:=(List.getElem?_eq_some_iff.mp hu).1
   simpa using this
  refine wpAny_pyNext_enum_itemD (draws_tuple (B:=X.A.in1) (I.ok.hd hc) it a hb its.toArray) q1 ⟨q2,p⟩ lt ne (by simp [ne,ha.symm]) fun v g tk hv r1 r2 r3 r4 r5=>?_
  have ev:v=u:=by
   have h1:its[i]?=some v:=by simpa using hv
   rw [hu] at h1;exact (Option.some.inj h1).symm
  subst ev
  refine ⟨_,rfl,wpAny_letOwnedTupleGo_enum r1 fun g' s1 s2=>?_⟩
  have s2':∀ b,b≠e->g'.get? b=g.get? b:=s2.2
  have hT:e≠s.heap.objs.size:=Nat.ne_of_lt (Heap.lt_size q1)
  have hT':it≠s.heap.objs.size:=by obtain ⟨o,z,_⟩:=q2;exact Nat.ne_of_lt (Heap.lt_size z)
  obtain ⟨oi,zi,_⟩:=id r2.1
  obtain ⟨m,I1,sz,km⟩:=turned2 (tk:=tk+1) I (hf e (by simp)) (hf it (by simp)) ne ⟨_,q1⟩ (let ⟨o,z,_⟩:=q2;⟨o,z⟩) ⟨_,s1⟩ ⟨oi,(s2' it ne.symm).trans zi⟩ fun b o h1 h2 z=>(s2' b h1).trans (r5 b o h1 h2 z)
  have fr:H s.heap.objs.size=none:=I.hok.fresh (Nat.le_refl _)
  refine ⟨.ref s.heap.objs.size,upd H s.heap.objs.size (.tup [.int i,x]),I1.laid (t':=tk+1) (o:=.tup [.int i,x]) km (Nat.le_of_eq sz) ⟨⟨show 2<=sizeLine by decide,_,(s2' _ hT.symm).trans r3,rfl⟩,[.int i tk,v],.cons ⟨tk,rfl⟩ (.cons ru .nil),⟨_,(s2' _ hT.symm).trans r3,rfl,_,rfl⟩⟩,rfl,⟨_,x,rfl,fr,rfl,fun ys hy=>by rw [I.tuple_inj hy hq];exact hx⟩,⟨⟨_,s1⟩,r2.1.at fun o z=>(s2' it ne.symm).trans z⟩,fun b hb=>?_⟩
  rcases List.mem_cons.mp hb with z | z
  ·subst z;rw [upd_ne hT];exact (hf b (by simp)).1
  ·rw [List.mem_singleton.mp z,upd_ne hT'];exact (hf it (by simp)).1
 done:=by
  intro X hP hw hK hc i pins s σ H E I hf q hg
  subst hP hw hK
  obtain ⟨xs,hq,hx⟩:=hg
  obtain ⟨its,rv,p,hz⟩:=I.tuple hq
  obtain ⟨⟨old,q1⟩,q2⟩:=q
  have hl:its.toArray.size=i:=by rw [<- hx,rv.length];simp
  subst hl
  obtain ⟨f0,f1,f2,f3,f4,f5⟩:=hf it (by simp)
  exact wpAny_pyNext_enum_endD (draws_tuple (B:=X.A.in1) (I.ok.hd hc) it a hb its.toArray) q1 ⟨q2,p⟩ fun g eb=>⟨rfl,I.turned (t':=s.toks) (fun b o z y=>eb b o z y) f0 f1 f3 f4 f5⟩
 self:=fun _ _ _ _ _ q h=>let ⟨_,q1⟩:=q.1;wpAny_pyIter_enum q1 h
section
variable {X:Cx} {ts:List Expr} {n:Nat} {tp:Pos}
def iEnum (K:PySem.W.Frag) (ta:TA):TI:=fun σ H R=>ta σ H fun vs H1=>∃ a,vs=[.ref a]/\(∃ xs,SqT K H1 a xs)/\R (Ite K a) H1
theorem pi_enum {a:Expr} {ta:TA} {p pos:Pos} (hg:Gl X "enumerate") (hm:X.mg "enumerate" = none) (ha:PA X [a] ta) (hs:starEach [a] X.env=[(false,eval a X.env)]:=by rfl):PI X (.Tuple ts n tp) (.Call (.Name "enumerate" p) [a] [] pos) (iEnum X.K ta):=by
 intro pins s σ H R I h
 refine Call_ (ld_blt I hg hm boot_enumerate (PyProof.Rows.callWith_type1 (thn (ha pos pins s σ H _ I h) fun us s1 ⟨vs,H1,I1,r1,q1⟩=>?_) hs rfl))
 obtain ⟨l,e,⟨xs,hq⟩,q⟩:=q1
 subst e
 cases r1 with
 | cons r rr =>
  cases rr
  have r':_=Value.ref l:=r
  subst r'
  obtain ⟨its,rv,pt,hz⟩:=I1.tuple hq
  have lt:l < s1.heap.objs.size:=by obtain ⟨o,z,_⟩:=id pt;exact Heap.lt_size z
  refine call_enum (show s1.heap.IsTuple l its.toArray from pt) fun g en itr kp=>wpAny_pyIter_enum en ?_
  refine ⟨s1.heap.objs.size+1,[s1.heap.objs.size+1,s1.heap.objs.size],_,_,H1,rfl,I1.kept (t':=s1.toks) kp,turn_enum l _ _ (Nat.succ_ne_self _) (Nat.ne_of_lt (Nat.lt_succ_of_lt lt)) (Nat.ne_of_lt lt),⟨⟨_,en⟩,itr⟩,fun b hb=>?_,q⟩
  rcases List.mem_cons.mp hb with z | z
  ·subst z;exact I1.fpOk (Nat.le_succ _) (I1.hok.fresh (Nat.le_succ _))
  ·rw [List.mem_singleton.mp z];exact I1.fpOk (Nat.le_refl _) (I1.hok.fresh (Nat.le_refl _))
end
def numbered (ds:List D):List D:=ds.zipIdx.map fun p=>.tup [.int p.2,p.1]
theorem numbered_len (ds:List D):(numbered ds).length=ds.length:=by simp [numbered]
theorem numbered_get {ds:List D} {i:Nat} {d:D} (h:ds[i]?=some d):(numbered ds)[i]?=some (.tup [.int i,d]):=by simp [numbered,h]
section
variable {X:Cx} {G:Ga} {M:MH} {ts:List Expr} {n:Nat} {tp pos:Pos} {e:Expr} {body:List Stmt} {E:EndsD}
theorem ex_for_enum {p:Pos} (hp:PassesOwn (model X.prog X.w) X.A X.env X.xe) (hc:X.calm=true) (hm:X.mg "enumerate" = none)
  (h:AV X G M [e] fun es M1=>∃ (ds:List D) (Iv:Nat->Ga->MH->Prop),es=[.tup ds]/\Iv 0 G M1 /\
   (∀ (i:Nat) d G' M',ds[i]?=some d->Iv i G' M'->GV X G' M' (.Tuple ts n tp) (.tup [.int i,d]) fun G3 M3=>EXs X G3 M3 body { nx:=Iv (i+1),ct:=Iv (i+1),bk:=E.nx,rt:=E.rt })/\(∀ G' M',Iv ds.length G' M'->E.nx G' M'))
  (hg:Gl X "enumerate") (hse:starEach [e] X.env=[(false,eval e X.env)]) (hs:∀ x,foldedSetIterable (.Call (.Name "enumerate" p) [e] [] pos) X.env x=pure x) {pos':Pos}:EX X G M (.For (.Tuple ts n tp) (.Call (.Name "enumerate" p) [e] [] pos) body [] pos') E:=by
 refine ex_for hp hc (pi_enum hg hm (pa_D (G:=G)) hse) (fun σ H kf R=>?_) hs
 refine ⟨M,_,R,h,fun vs H' es M' kf' g i R' q=>?_⟩
 obtain ⟨ds,Iv,e,h0,step,fin⟩:=q
 subst e
 obtain ⟨v,rfl,hv⟩:=isl1 i
 rw [is_tup] at hv
 obtain ⟨l,xs,rfl,hx,hxi⟩:=hv
 have hlen:=hxi.len
 refine ⟨l,rfl,⟨xs,SqT.of hx⟩,g,M',ds.length,Iv,R',h0,fun i G2 M2 hin w2=>⟨fun e=>fin G2 M2 (by rw [<- e];exact w2),fun σ2 H2 g2 R2=>?_⟩⟩
 have hx2:SqT X.K H2 l xs:=SqT.of (g2 _ _ hx)
 refine ⟨fun e=>⟨xs,hx2,by omega⟩,fun hlt=>⟨⟨xs,xs[i]'(by omega),hx2,by simp⟩,fun x H3 y=>?_⟩⟩
 obtain ⟨T,z,e1,e2,e3,e4⟩:=y
 subst e1;subst e3
 obtain ⟨d,e5,i5⟩:=(hxi.grow g2).get' (e4 xs hx2)
 have gr:=grow_new (o:=.tup [.int i,z]) e2
 exact ⟨gr,.tup [.int i,d],M2,is_tup.mpr ⟨T,_,rfl,upd_same,isl_cons.mpr ⟨_,_,rfl,is_int.mpr rfl,isl_cons.mpr ⟨_,_,rfl,i5.grow gr,isl_nil.mpr rfl⟩⟩⟩,R2.mem.new e2,step i d G2 M2 e5 w2⟩
end
section
variable {X:Cx} {G:Ga} {M:MH} {elt e:Expr} {ts ifs:List Expr} {n:Nat} {tp p ep:Pos} {scope:Scope} {pos:Pos} {Q:DK} {own:List Str} {js:List Nat} {N:List Str} {cl:List (Str × Addr)}
theorem ex_comp_enum {E:EndsD} {y:Str} {py spos:Pos} (jj:Nat) (T:CompOk X own js N scope cl) (hxe:X.xe=fun _ _=>False) (hc:X.calm=true) (hm:X.mg "enumerate" = none) (hN:X.N.Nodup) (hj:X.N[jj]?=some y) (hy:Loc X.env.scope y) (hyf:X.fn y=true\/X.env.scope.names.lookup y=some .local)
  (hsw:swapsWith (.ListComp elt [⟨.Tuple ts n tp,.Call (.Name "enumerate" p) [e] [] ep,ifs,0⟩] scope pos) (some (.Name y py)) spos.line X.env=pure true) (f:D->D) (pr:D->Bool)
  (h:AV X G M [e] fun es M1=>∃ ds:List D,es=[.tup ds]/\ds.length<=sizeLine /\
   (∀ Y:Cx,(∃ C s H fp,Y=compCx X N scope cl C s H fp)->∀ M',Ext M1 M'->∀ d∈numbered ds,GV Y (compG own js G) M' (.Tuple ts n tp) d fun G3 M3=>M3=M'/\Sub (compG own js G) G3/\TVs Y G3 M' ifs (fun k M4=>M4=M'/\k=pr d)/\(pr d=true->EV Y G3 M' elt fun o M4=>M4=M'/\o=f d)) /\
   ∀ q,M1 q=none->E.nx (G.set jj (some (.ref q))) (mset M1 q (.lst (((numbered ds).filter pr).map f))))
  (hg:Gl X "enumerate") (hse:starEach [e] X.env=[(false,eval e X.env)]) (hs:∀ x,foldedSetIterable (.Call (.Name "enumerate" p) [e] [] ep) X.env x=pure x):EX X G M (.Assign [.Name y py] (.ListComp elt [⟨.Tuple ts n tp,.Call (.Name "enumerate" p) [e] [] ep,ifs,0⟩] scope pos) spos) E:=by
 refine ex_compI jj T hxe hc (pi_enum hg hm (pa_D (G:=G)) hse) hN hj hy hyf hsw (fun σ H kf R=>?_) hs
 refine ⟨M,_,R,h,fun vs H' es M' kf' g i R' q=>?_⟩
 obtain ⟨ds,e,hz,block,fin⟩:=q
 subst e
 obtain ⟨v,rfl,hv⟩:=isl1 i
 rw [is_tup] at hv
 obtain ⟨l,xs,rfl,hx,hxi⟩:=hv
 have hlen:=hxi.len
 have hnl:=numbered_len ds
 refine ⟨l,rfl,⟨xs,SqT.of hx⟩,g,M',numbered ds,fun q i acc M2=>M' q=none/\M2=mset M' q (.lst acc)/\acc=(((numbered ds).take i).filter pr).map f,R',fun q i acc M2 H2 g2 m2 v2=>?_,fun q hq=>⟨hq,rfl,by simp⟩,pure_block (by omega) block,fun q acc M2 ⟨h1,h2,h3⟩ _=>by rw [h2,h3,List.take_length];exact fin q h1⟩
 have hx2:SqT X.K H2 l xs:=SqT.of (g2 _ _ hx)
 refine ⟨fun e=>⟨xs,hx2,by omega⟩,fun hlt=>⟨⟨xs,xs[i]'(by omega),hx2,by simp⟩,fun x H3 y=>?_⟩⟩
 obtain ⟨T,z,e1,e2,e3,e4⟩:=y
 subst e1;subst e3
 obtain ⟨d,e5,i5⟩:=(hxi.grow g2).get' (e4 xs hx2)
 have gr:=grow_new (o:=.tup [.int i,z]) e2
 exact ⟨gr,fun b o w=>by rw [upd_ne (fun w'=>by rw [w',e2] at w;cases w)];exact w,_,numbered_get e5,is_tup.mpr ⟨T,_,rfl,upd_same,isl_cons.mpr ⟨_,_,rfl,is_int.mpr rfl,isl_cons.mpr ⟨_,_,rfl,i5.grow gr,isl_nil.mpr rfl⟩⟩⟩⟩
end
theorem IsL.erase {H:Hp}:∀ {ds:List D} {vs:List V} (k:Nat),IsL H ds vs->IsL H (ds.eraseIdx k) (vs.eraseIdx k)
 | [],vs,k,h=>by rw [isl_nil] at h;subst h;exact isl_nil.mpr rfl
 | d :: ds,vs,k,h=>by
  obtain ⟨x,r,rfl,h1,h2⟩:=isl_cons.mp h
  cases k with
  | zero=>exact h2
  | succ k=>exact isl_cons.mpr ⟨x,_,rfl,h1,IsL.erase k h2⟩
section
variable {X:Cx} {G:Ga} {M:MH} {o e:Expr} {Q:DK} {apos cpos pos:Pos}
theorem ev_popAt (h:EV X G M o fun d M1=>∃ p,d=.ref p/\(∃ ds,M1 p=some (.lst ds))/\EV X G M1 e fun d2 M2=>∃ ds,∃ (i:Int) (k:Nat) (x:D),d2=.int i/\M2 p=some (.lst ds)/\ds.length<=sizeLine/\ixN ds.length i=some k/\ds[k]?=some x/\Q x (mset M2 p (.lst (ds.eraseIdx k))))
  (hbase:attributeBase o "pop" X.env (eval o X.env)=eval o X.env)
  (hfew:HfX X cpos e)
  (hline:(apos.endLine == cpos.line)=true) (hs:SeX X e) (hplain:NpX X cpos) :
  EV X G M (.Call (.Attribute o "pop" apos) [e] [] cpos) Q:=by
 refine EV.of (pe_bm PySem.F.plainAttrs_list PySem.F.slot_list_pop PySem.F.type_list_pop mt_popAt (pe_D (G:=G)) (pa_D (G:=G) (es:=[e])) hbase hfew hline hs hplain) fun σ H kf R=>?_
 refine ⟨M,_,R,h,fun v H' d M' kf' g i R' q=>?_⟩
 obtain ⟨p,rfl,⟨ds,hds⟩,q⟩:=q
 rw [is_ref] at i;subst i
 obtain ⟨xs,hx,_⟩:=R'.mem p _ hds
 refine ⟨tyL hx,M',fun ds2 M2=>∃ d2,ds2=[d2]/\∃ ds,∃ (i:Int) (k:Nat) (x:D),d2=.int i/\M2 p=some (.lst ds)/\ds.length<=sizeLine/\ixN ds.length i=some k/\ds[k]?=some x/\Q x (mset M2 p (.lst (ds.eraseIdx k))),R',av_cons (q.mono fun d2 M2 q2=>av_nil ⟨d2,rfl,q2⟩) hs,fun vs H2 ds2 M2 kf2 g2 i2 R2 q2=>?_⟩
 obtain ⟨d2,rfl,ds,i,k,x,rfl,hp,hz,hk,hx',q2⟩:=q2
 obtain ⟨v2,rfl,hv2⟩:=isl1 i2
 rw [is_int] at hv2;subst hv2
 obtain ⟨xs,hx,hxi⟩:=R2.mem p _ hp
 have nt:∀ ys,H2 p≠some (.tup ys):=fun ys z=>by rw [hx] at z;cases z
 have gu:Grow H2 (upd H2 p (.lst (xs.eraseIdx k))):=grow_upd nt
 have hlen:=hxi.len
 obtain ⟨s1,s2,s3,s4⟩:=ixN_seq hk
 obtain ⟨y,hy,iy⟩:=hxi.get hx'
 have l63:=line63
 refine ⟨p,xs,i,k,y,rfl,rfl,hx,by omega,by omega,by rw [<- hlen];exact s1,hy,fun _=>⟨(g.trans g2).trans gu,x,_,Is.grow gu _ _ iy,R2.mem.put (u:=.lst (ds.eraseIdx k)) nt ⟨_,upd_same,(hxi.grow gu).erase k⟩,q2⟩⟩
theorem vals_get:∀ {xs:List V} {us:List Value},xs.length=us.length->(∀ (j:Nat) x u,xs[j]?=some x->us[j]?=some u->RelV x u)->Vals xs us
 | [],[],_,_=>.nil
 | [],_ :: _,h,_=>by cases h
 | _ :: _,[],h,_=>by cases h
 | x :: xs,u :: us,h,k=>.cons (k 0 x u rfl rfl) (vals_get (by simpa using h) fun j a b ha hb=>k (j+1) a b (by simpa using ha) (by simpa using hb))
abbrev chD (z:Str):List D:=z.cps.toList.map fun c=>D.str ⟨#[c]⟩
theorem isl_ch {H:Hp}:∀ cs:List Nat,IsL H (cs.map fun c=>D.str ⟨#[c]⟩) (cs.map fun c=>V.str ⟨#[c]⟩)
 | []=>isl_nil.mpr rfl
 | c :: r=>isl_cons.mpr ⟨_,_,rfl,is_str.mpr rfl,isl_ch r⟩
theorem call_listS (hc:X.calm=true):CallR X (.type "list") (fun xs H Q=>∃ z:Str,xs=[.str z]/\z.cps.size<=sizeLine/\∀ l,H l=none->Q (.ref l) (upd H l (.lst (z.cps.toList.map fun c=>V.str ⟨#[c]⟩)))):=by
 intro pins s σ H xs us Q I r h
 obtain ⟨z,rfl,hz,q⟩:=h
 obtain ⟨u,rfl,t,rfl⟩:=vals1 r
 refine call_list_str (I.ok.hd hc) z t (fun h' tk acc c' kp e hit=>?_) hz
 obtain ⟨h1,h2⟩:=hit
 refine ⟨.ref s.heap.objs.size,_,I.laid (t':=tk) kp (Nat.le_refl _) (show ObjOk X.prog X.w _ h' _ (.lst _) from ⟨?_,acc.toList,c',vals_get ?_ (fun j x u hx hu=>?_),by rw [Array.toArray_toList];exact e⟩),rfl,q _ (I.hok.fresh (Nat.le_refl _))⟩
 ·rw [List.length_map,Array.length_toList];exact hz
 ·rw [List.length_map,Array.length_toList,Array.length_toList,h1]
 ·obtain ⟨c,tk',hc',rfl⟩:=h2 j u (by rw [<- Array.getElem?_toList];exact hu)
  rw [List.getElem?_map,Array.getElem?_toList,hc'] at hx
  cases hx
  exact ⟨tk',rfl⟩
theorem ev_listS {p:Pos} (hm:X.mg "list" = none) (hc:X.calm=true) (h:AV X G M [e] fun ds M1=>∃ z:Str,ds=[.str z]/\z.cps.size<=sizeLine/\∀ r,M1 r=none->Q (.ref r) (mset M1 r (.lst (chD z)))) (hg:Gl X "list") (he:SeX X e) (hpl:NpX X pos) :
  EV X G M (.Call (.Name "list" p) [e] [] pos) Q :=
 ev_callTy (call_listS hc) hm bootList (h.mono fun ds M1 ⟨z,e1,hz,q⟩=>fun H xs kf hx m=>by
  subst e1
  obtain ⟨v,rfl,hv⟩:=isl1 hx
  rw [is_str] at hv;subst hv
  exact ⟨z,rfl,hz,fun r hr kf'=>⟨grow_new hr,.ref r,_,is_ref.mpr rfl,m.lay (u:=.lst (chD z)) hr ⟨_,upd_same,isl_ch _⟩,q r (m.fresh hr kf')⟩⟩) hg (by decide) (by decide) he hpl
end
section
variable {P:Program} {w:World} {B:Around} {Z:Value->Shared->Prop} {st:Shared} {z TI TO i1 i2:Addr} {f1 f2:List Addr} {n1 n2 k:Nat} {p1 p2:Nat->Value->Prop} {S1 S2:Nat->Heap->Prop} {a b:Value}
end
section
variable {X:Cx} {ts:List Expr} {n:Nat} {tp:Pos}
end
section
variable {X:Cx} {G:Ga} {M:MH} {ts:List Expr} {n:Nat} {tp pos:Pos} {e1 e2:Expr} {body:List Stmt} {E:EndsD}
end
section
variable {X:Cx} {G:Ga} {M:MH} {elt e1 e2:Expr} {ts ifs:List Expr} {n:Nat} {tp p ep:Pos} {scope:Scope} {pos:Pos} {Q:DK} {own:List Str} {js:List Nat} {N:List Str} {cl:List (Str × Addr)}
end
section
variable {X:Cx} {G:Ga} {M:MH} {a b:Expr} {pos:Pos} {Q:DK}
theorem isl_flat {H:Hp} {ds:List D} {vs:List V} (h:IsL H ds vs):∀ k:Nat,IsL H (List.replicate k ds).flatten (List.replicate k vs).flatten
 | 0=>isl_nil.mpr rfl
 | k+1=>by
  rw [List.replicate_succ,List.replicate_succ,List.flatten_cons,List.flatten_cons]
  exact h.app (isl_flat h k)
theorem ev_repL (h:EV X G M a fun da Ma=>EV X G Ma b fun db Mb=>∃ l ds,∃ k:Int,da=.ref l/\db=.int k/\Mb l=some (.lst ds)/\-(2 ^ 63)<=k/\k < 2 ^ 63/\ds.length * k.toNat<=sizeLine/\∀ p,Mb p=none->Q (.ref p) (mset Mb p (.lst (List.replicate k.toNat ds).flatten))):EV X G M (.BinOp a .Mult b pos) Q :=
 ev_op op_rep (h.mono fun da Ma q0=>q0.mono fun db Mb ⟨l,ds,k,e1,e2,hm,h2,h63,hz,q⟩=>fun H x y kf hx hy m=>by
  subst e1;subst e2
  rw [is_ref] at hx;subst hx
  rw [is_int] at hy;subst hy
  obtain ⟨xs,e,hi⟩:=m l _ hm
  have hl:=hi.len
  exact ⟨l,k,xs,rfl,rfl,e,h2,h63,by rw [<- hl];exact hz,fun p hp kf'=>⟨grow_new hp,.ref p,_,is_ref.mpr rfl,m.lay (u:=.lst (List.replicate k.toNat ds).flatten) hp ⟨_,upd_same,(isl_flat hi _).grow (grow_new hp)⟩,q p (m.fresh hp kf')⟩⟩)
end
section
variable {X:Cx} {G:Ga} {M:MH} {a b e:Expr} {pos:Pos} {Q:DK} {Qb:Bool->MH->Prop} {pins:List (Addr × Obj)} {σ:St} {H:Hp} {s:Shared}
theorem reads_lst (I:L2.Inv X pins σ H s) (m:MemOk X.K M H) {l:Addr} {ds:List D} (h:M l=some (.lst ds)) (hi:immL ds=true):∃ as,Reads s.heap (.ref l) (.list (pdL ds)) as:=by
 obtain ⟨xs,e1,e2⟩:=m l _ h
 obtain ⟨z,its,n,rv,hl,eo⟩:=I.lstM e1
 obtain ⟨as,q⟩:=readsAll_of I ds xs its e2 rv hi
 exact ⟨_,.list eo rfl rfl (by simpa using q)⟩
def rNilT:R2:=fun x y H Q=>∃ a b,x=.ref a/\y=.ref b/\H a=some (.tup [])/\(∃ ys,H b=some (.tup ys))/\Q (.ref b) H
theorem op_nilT:OpR X (binaryOp .Add) rNilT:=by
 intro pins s σ H x y v u Q I rx ry h
 obtain ⟨a,b,rfl,rfl,ha,⟨ys,hb⟩,q⟩:=h
 cases rx
 cases ry
 obtain ⟨its,r1,p1,_⟩:=I.tuple (SqT.of ha)
 obtain ⟨its2,r2,p2,_⟩:=I.tuple (SqT.of hb)
 cases r1
 obtain ⟨⟨cls,dd,data,sl⟩,ho,hc,n,hd⟩:=id p1
 obtain ⟨⟨cls2,dd2,data2,sl2⟩,ho2,hc2,n2,hd2⟩:=id p2
 simp only at hc hd hc2 hd2
 subst hc hd hc2 hd2
 exact concat_meets ⟨_,ho,rfl⟩ ⟨_,ho2,rfl⟩ noFill_tuple_add seq_tuple_add PySem.F.slot_tuple_add PySem.F.entry_tuple_add (PySem.F.args_tuple_add_2 _ _)
  (tuple_addW0 a b _ _ n n2 dd dd2 sl sl2 rfl) ⟨ho,ho2,⟨.ref b,H,I,rfl,q⟩⟩
theorem ev_addT (h:EV X G M a fun da Ma=>EV X G Ma b fun db Mb=>∃ xs ys,da=.tup xs/\db=.tup ys/\xs.length+ys.length<=sizeLine/\Q (.tup (xs++ys)) Mb):EV X G M (.BinOp a .Add b pos) Q :=
 ev_op (op_nilT.or op_addAll) (h.mono fun _ _ h1=>h1.mono fun _ Mb ⟨xs,ys,e1,e2,hz,q⟩=>by
  subst e1;subst e2
  by_cases hx:xs=[]
  ·subst hx
   intro H x y kf hx hy m
   rw [is_tup] at hx hy
   obtain ⟨l,us,rfl,hl,hu⟩:=hx
   obtain ⟨k,ws,rfl,hk,hw⟩:=hy
   rw [isl_nil] at hu;subst hu
   exact .inl ⟨l,k,rfl,rfl,hl,⟨ws,hk⟩,fun _=>⟨Grow.refl _,_,Mb,is_tup.mpr ⟨k,ws,rfl,hk,hw⟩,m,q⟩⟩
  ·intro H x y kf hx' hy' m
   exact .inr (rd_add (add_tt hx hz q) H x y kf hx' hy' m))
end
section
variable {X:Cx} {G:Ga} {M:MH} {a b e:Expr} {pos:Pos} {Q:DK} {Qb:Bool->MH->Prop} {pins:List (Addr × Obj)} {σ:St} {H:Hp} {s:Shared}
theorem reads_ro (I:L2.Inv X pins σ H s) (m:MemOk X.K M H) {l:Addr} {ds:List D} (h:M l=some (.ro ds)) (hi:immL ds=true):∃ as,Reads s.heap (.ref l) (.list (pdL ds)) as:=by
 obtain ⟨xs,e1,e2⟩:=m l _ h
 obtain ⟨its,rv,p,hz⟩:=I.list e1
 obtain ⟨o,ho,hc,n,hd⟩:=p.isList
 obtain ⟨as,q⟩:=readsAll_of I ds xs its e2 rv hi
 exact ⟨_,.list ho hc hd (by simpa using q)⟩
theorem lxt_neR (h:EV X G M a fun da Ma=>EV X G Ma b fun db Mb=>∃ l k xs,da=.ref l/\db=.ref k/\Mb l=some (.ro xs)/\Mb k=some (.lst [])/\immL xs=true/\PyData.depthAll (pdL xs)<=59/\Qb (!PyData.eqvAll (pdL xs) (pdL [])) Mb) (hu:X.A.units+64 < cLine):TV X G M (.Compare a [.NotEq] [b] pos) Qb:=by
 refine tv_cval (nomark _) fun pins s σ H I R=>?_
 refine thn (h pins s σ H I R) fun v s1 ⟨x,H1,da,Ma,I1,r1,g1,i1,R1,q1⟩=>?_
 refine thn (q1 pins s1 σ H1 I1 R1) fun u s2 ⟨y,H2,db,Mb,I2,r2,g2,i2,R2,l,k,xs,e1,e2,h1,h2,m1,hd,q⟩=>?_
 subst e1;subst e2
 have i1':=Is.grow g2 _ _ i1
 rw [is_ref] at i1' i2;subst i1';subst i2
 cases r1;cases r2
 obtain ⟨as,ra⟩:=reads_ro I2 R2.mem h1 m1
 obtain ⟨bs,rb⟩:=reads_lst I2 R2.mem h2 rfl
 have c1:(PyData.list (pdL xs)).canLay0=true:=by simp only [PyData.canLay0];exact canLayL_imm xs m1
 have hdp:(PyData.list (pdL xs)).depth<=60:=by simp only [PyData.depth];omega
 have hmin:min (PyData.list (pdL xs)).depth (PyData.list (pdL [])).depth<=(PyData.list (pdL xs)).depth:=Nat.min_le_left _ _
 have ee:PyData.eqv (.list (pdL xs)) (.list (pdL []))=PyData.eqvAll (pdL xs) (pdL []):=by simp only [PyData.eqv]
 exact PySem.SeqAt.compareNe_reads ra rb c1 rfl (by omega) ⟨.bl _,H2,.bl _,Mb,I2,rfl,g1.trans g2,is_bl.mpr rfl,R2,_,rfl,by rw [ee];exact q⟩
end
end D3
namespace X1
open PySem
section
variable {M:Model} {A:Around} {E:Value->Shared->Prop} {s:Shared}
def ExcAt (h:Heap) (e:Addr) (C:Value) (dd:Option Addr):Prop :=
 ∃ oe vs,h.get? e=some oe/\oe.cls=C/\oe.dict=dd/\oe.data=.fields vs/\1 < vs.size /\
  (vs[1]?=some .none\/∃ T oT ts,vs[1]?=some (.ref T)/\T≠e/\h.get? T=some oT/\oT.data=.fields ts/\ts[3]?=some .none)
def Passed (S:List Addr) (e:Addr) (h h':Heap):Prop :=
 (∀ b o,h.get? b=some o->b≠e->b∉S->h'.get? b=some o)/\∀ b o,h.get? b=some o->b≠e->∃ sl,h'.get? b=some { o with slots:=sl }
theorem entry {base:Heap} {env:Env} {outer:List Env} {L e:Addr} {oe:Obj} {vs:Array Value} {head:Value} {hadNext:Bool} {Q:Unit->Shared->Prop}
  (hfr:A.frames=some (env :: outer)) (hl:s.heap.FunFrames base (env :: outer)) (hf:env.frame=some L)
  (he:s.heap.get? e=some oe) (hd:oe.data=.fields vs) (hsz:1 < vs.size)
  (h:∀ h',Passed ((env :: outer).filterMap (·.frame)) e s.heap h'->ExcAt h' e oe.cls oe.dict->Q () { s with heap:=h' }) :
  wpAny M A (do let a <- frameOf env;let pl <- entryPlaceOf L hadNext;let b <- EntryCells.newEntry head a .none (rawInt L) .none pl;setField (.ref e) 1 b) (fun _ s'=>wpAny M A (setFlight (.ref e) none) Q E s') E s:=by
 have hene:e∉(env :: outer).filterMap (·.frame):=fun hm=>by
  obtain ⟨_,o,ho,hnf⟩:=hl.mem hm
  rw [he] at ho;cases ho;exact hnf vs hd
 refine wpAny_bind (wpAny_frameOf_fun hfr hl hf fun h₁ hs₁=>wpAny_bind (wpAny_entryPlaceOf fun pl hpl=>?_))
 unfold EntryCells.newEntry newFields
 refine wpAny_bind (wpAny_newObj_type ?_ (hpl.sizeOk5 _ _ _ _ _))
 have he₁:h₁.get? e=some oe:=(hs₁.2.1 e hene).trans he
 generalize htb:({ cls:=.type "traceback",dict:=none,data:=.fields ([head,.ref L,.none,rawInt L,.none]++(if pl.isEmpty then List.replicate 6 Value.none else pl)).toArray }:Obj)=tb
 have htd:tb.data=.fields ([head,.ref L,.none,rawInt L,.none]++(if pl.isEmpty then List.replicate 6 Value.none else pl)).toArray:=by rw [<- htb]
 have he₂:=Heap.get?_push_of_some tb he₁
 refine wpAny_setField he₂ hd hsz ?_
 have hTe:h₁.objs.size≠e:=Nat.ne_of_gt (Heap.lt_size he₁)
 have hd₃:=Obj.data_mapFields hd (·.setIfInBounds 1 (Value.ref h₁.objs.size))
 have he₃:=Heap.get?_update_self (Obj.mapFields (·.setIfInBounds 1 (Value.ref h₁.objs.size))) he₂ (Obj.isFreed_of_fields hd₃)
 have hfr':tb.isFreed=false:=Obj.isFreed_of_fields htd
 have hT₃:=(Heap.get?_update_other (h₁.push tb) (Obj.mapFields (·.setIfInBounds 1 (Value.ref h₁.objs.size))) (Ne.symm hTe)).trans (Heap.get?_push_size h₁ hfr')
 unfold setFlight
 refine wpAny_bind (wpAny_field he₃ hd₃ (x:=.ref h₁.objs.size) (by simp [hsz]) ?_)
 rw [if_pos (show (Value.ref h₁.objs.size != Value.none)=true from by simp)]
 refine wpAny_setField hT₃ htd (by simp only [List.size_toArray,List.length_append,List.length_cons,List.length_nil]<;>omega) (h _ ?_ ?_)
 ·have keep:∀ b o,b≠e->h₁.get? b=some o->(((h₁.push tb).update e (Obj.mapFields (·.setIfInBounds 1 (Value.ref h₁.objs.size)))).update h₁.objs.size
    (Obj.mapFields (·.setIfInBounds 3 ((none:Option Addr).elim Value.none fun f=>rawInt f)))).get? b=some o:=fun b o hbe hb=>by
   rw [Heap.get?_update_other _ _ (Nat.ne_of_gt (Heap.lt_size hb)),Heap.get?_update_other _ _ (Ne.symm hbe)]
   exact Heap.get?_push_of_some _ hb
  refine ⟨fun b o hb hbe hbS=>keep b o hbe ((hs₁.2.1 b hbS).trans hb),fun b o hb hbe=>?_⟩
  obtain ⟨sl,hs⟩:=hs₁.2.2 b o hb
  exact ⟨sl,keep b _ hbe hs⟩
 ·refine ⟨_,_,?_,Obj.cls_mapFields _ _,?_,hd₃,by simp [hsz],.inr ⟨h₁.objs.size,_,_,by simp [hsz],hTe,Heap.get?_update_self _ hT₃ (Obj.isFreed_of_fields (Obj.data_mapFields htd _)),Obj.data_mapFields htd _,?_⟩⟩
  ·rw [Heap.get?_update_other _ _ hTe];exact he₃
  ·obtain ⟨c,d,dt,sl⟩:=oe
   simp only at hd
   subst hd
   rfl
  ·first | (simp;done) | (rcases hpl with rfl | ⟨_,_,_,_,_,_,_,rfl⟩<;>simp)
theorem note {base:Heap} {env:Env} {outer:List Env} {L e:Addr} {C:Value} {dd:Option Addr} {Q:Unit->Shared->Prop}
  (hfr:A.frames=some (env :: outer)) (hl:s.heap.FunFrames base (env :: outer)) (hf:env.frame=some L) (hx:ExcAt s.heap e C dd)
  (h:∀ h',Passed ((env :: outer).filterMap (·.frame)) e s.heap h'->ExcAt h' e C dd->Q () { s with heap:=h' }):wpAny M A (noteFrame (.ref e) env) (fun _ s₂=>wpAny M A (setFlight (.ref e) none) Q E s₂) E s:=by
 obtain ⟨oe,vs,he,rfl,rfl,hd,hsz,hv⟩:=hx
 unfold noteFrame
 simp only [hf]
 rcases hv with h1 | ⟨T,oT,ts,h1,hTe,hT,hdT,h3⟩
 ·refine wpAny_bind (wpAny_field he hd h1 ?_)
  rw [if_neg (by decide)]
  exact entry hfr hl hf he hd hsz h
 ·refine wpAny_bind (wpAny_field he hd h1 ?_)
  rw [if_pos (show (Value.ref T != Value.none)=true from by simp)]
  refine wpAny_bind (wpAny_field hT hdT h3 ?_)
  rw [if_neg (show ¬ ((Value.none == rawInt L)=true) from by simp [rawInt])]
  refine wpAny_bind (wpAny_setField hT hdT (Array.getElem?_eq_some_iff.mp h3).1 ?_)
  have same:=Heap.update_setField_same s.heap T oT ts 3 .none hT hdT h3
  rw [same]
  exact entry hfr hl hf he hd hsz h
theorem leave {base:Heap} {env:Env} {outer:List Env} {L e:Addr} {C:Value} {dd:Option Addr} {Q:Unit->Shared->Prop}
  (hfr:A.frames=some (env :: outer)) (hl:s.heap.FunFrames base (env :: outer)) (hf:env.frame=some L) (hx:ExcAt s.heap e C dd)
  (h:∀ h',Passed ((env :: outer).filterMap (·.frame)) e s.heap h'->ExcAt h' e C dd->Q () { s with heap:=h' }):wpAny M A (leaving env (.ref e)) Q E s:=by
 unfold leaving
 exact wpAny_bind (note hfr hl hf hx h)
theorem rest {e:Addr} {C:Value} {dd:Option Addr} {Q:Unit->Shared->Prop} (hx:ExcAt s.heap e C dd) (h:Q () s):wpAny M A (setFlight (.ref e) none) Q E s:=by
 obtain ⟨oe,vs,he,rfl,rfl,hd,hsz,hv⟩:=hx
 unfold setFlight
 rcases hv with h1 | ⟨T,oT,ts,h1,hTe,hT,hdT,h3⟩
 ·refine wpAny_bind (wpAny_field he hd h1 ?_)
  rw [if_neg (by decide)]
  exact wpAny_pure h
 ·refine wpAny_bind (wpAny_field he hd h1 ?_)
  rw [if_pos (show (Value.ref T != Value.none)=true from by simp)]
  refine wpAny_setField hT hdT (Array.getElem?_eq_some_iff.mp h3).1 ?_
  have same:=Heap.update_setField_same s.heap T oT ts 3 .none hT hdT h3
  show Q () { s with heap:=s.heap.update T (Obj.mapFields (·.setIfInBounds 3 Value.none)) }
  rw [same]
  exact h
end
open PySem.W Builtin Builtin.ObjectAttr
section
variable {K:Frag} {M:Model} {A:Around} {E:Value->Shared->Prop} {h:Heap} {g:Array GenState} {d:Drawn} {t:Nat} {os:OsState} {C P:Addr}
end
section
variable {K:Frag} {prog:Program} {w:World} {A:Around} {E:Value->Shared->Prop} {h:Heap} {g:Array GenState} {d:Drawn} {t:Nat} {os:OsState} {C P x:Addr} {mA:Str->Option Value} {name:Str} {v:Value}
end
section
variable {M:Model} {A:Around} {E:Value->Shared->Prop} {env:Env}
variable {nm q:Str} {C N:Addr} {bs bm:List Value} {hdct:Bool} {sn:List Str} {sub:List Value} {ab:Bool} {col:Option Bool} {dd:Option Addr} {k0 k1 k2 k3 k5:Option Value} {newId:String}
end
section
variable {K:Frag} {prog:Program} {w:World} {A:Around} {E:Value->Shared->Prop} {h:Heap} {g:Array GenState} {d:Drawn} {t:Nat} {os:OsState} {C P x:Addr} {mA:Str->Option Value} {name:Str} {v:Value}
end
section
variable {K:Frag} {prog:Program} {w:World} {A:Around} {E:Value->Shared->Prop} {h:Heap} {g:Array GenState} {d:Drawn} {t:Nat} {os:OsState} {C P x:Addr} {mA:Str->Option Value} {name:Str} {v:Value}
end
section
variable {K:Frag} {M:Model} {A:Around} {E:Value->Shared->Prop} {h:Heap} {g:Array GenState} {d:Drawn} {t:Nat} {os:OsState} {C P e:Addr} {oe:Obj} {Q:Bool->Shared->Prop}
end
end X1
namespace D3
open PySem PySem.Spec PyProof.Rows L2 X1
abbrev XQ:=Addr->List (Str × D)->MH->Prop
section
variable {X:Cx} {G:Ga} {M:MH} {e:Expr} {es:List Expr} {pos:Pos} {Q:DK} {R:Ga->XQ}
end
section
variable {P:Program} {w:World} {K:PySem.W.Frag} {mg:Str->Option Value} {base:Heap}
end
section
variable {X:Cx} {pins:List (Addr × Obj)} {σ:St} {H:Hp} {s:Shared} {h':Heap}
end
section
variable {X:Cx} {G:Ga} {M:MH} {o value:Expr} {pos pos':Pos} {E:EndsD} {Q:DK}
theorem mem_not {K:PySem.W.Frag} {H:Hp} {h:Heap} {dx:Addr} (m:MemOk K M H) (kin:K.In h) (h1:H dx=none) (h2:h.objs.size<=dx):M dx=none:=by
 cases e:M dx with
 | none=>rfl
 | some u =>
  rcases (m dx u e).there with ⟨v,q⟩ | ⟨v,q⟩
  ·rw [h1] at q;cases q
  ·exact absurd (Heap.lt_size (kin dx v q)) (Nat.not_lt.mpr h2)
end
section
variable {X:Cx} {G:Ga} {M:MH} {e:Expr} {es:List Expr} {pos cpos:Pos} {E:EndsD} {Q:DK} {R:Ga->XQ}
end
section
variable {X:Cx} {pins:List (Addr × Obj)} {σ:St} {H:Hp} {s:Shared}
theorem goes {M:Model} {A:Around} {E:Value->Shared->Prop} {i:Nat} {n:Str} {pos:Pos} {Q:Unit->Shared->Prop} (I:L2.Inv X pins σ H s) (hN:X.N.Nodup) (hi:X.N[i]?=some n) (hl:X.env.scope.names.lookup n=some .local)
  (h:∀ s',L2.Inv X pins (σ.set i none) H s'->Q () s'):wpAny M A (do bindName X.env n .none;unbindBehindTheSuite X.env n pos) Q E s:=by
 obtain ⟨m,hn,hloc⟩:=id I.loc
 have hcls:(X.env.scope.kind == .class || (X.env.scope.kind == .module && X.env.locals != X.env.globals))=false:=by rw [I.ok.kind];rfl
 refine wpAny_nameGoes_keeps hl hn hcls fun h' v hn' hs=>h _ ?_
 have nl:∀ b o,X.s₀.heap.get? b=some o->b≠X.env.locals:=fun b o e=>Nat.ne_of_lt (Nat.lt_of_lt_of_le (Heap.lt_size e) I.ok.above)
 refine ⟨I.ok,I.os,I.bare,⟨fun b o e nb hb hx=>(hs.2 b (nl b o e)).trans (I.base.keep b o e nb hb hx),fun b o e nb hb hx=>?_,I.base.free,fun b o e hx=>?_,I.base.tups,I.base.frzs,I.base.tbls⟩,⟨_,hn',fun j y v' e1 e2 e3=>?_⟩,fun y c e=>?_,I.free,I.freeC,fun p hp=>?_,fun b ob e=>?_,by simpa using I.len⟩
 ·obtain ⟨sl,e1⟩:=I.base.slot b o e nb hb hx
  exact ⟨sl,(hs.2 b (nl b o e)).trans e1⟩
 ·obtain ⟨o',e1⟩:=I.base.there b o e hx
  exact ⟨o',(hs.2 b (nl b o e)).trans e1⟩
 ·by_cases hj:j=i
  ·subst hj
   have hlt:j < σ.length:=by rw [I.len];exact (List.getElem?_eq_some_iff.mp hi).1
   rw [List.getElem?_set_self hlt] at e2
   cases e2
  ·rw [List.getElem?_set_ne (Ne.symm hj)] at e2
   obtain ⟨u',r',q⟩:=hloc j y v' e1 e2 e3
   refine ⟨u',r',?_⟩
   rcases q with ⟨k,e⟩ | ⟨k,c,e,z⟩
   ·refine .inl ⟨k,?_⟩
    have hy:y≠n:=fun e=>hj (nodup_ix hN e1 (e ▸ hi))
    simp [hy,e]
   ·exact .inr ⟨k,c,e,z.sameBut hs (I.cne y c e)⟩
 ·obtain ⟨w',z⟩:=I.cell y c e
  exact ⟨w',z.sameBut hs (I.cne y c e)⟩
 ·obtain ⟨e,nb,ne,nf,d⟩:=I.pin p hp
  exact ⟨(hs.2 p.1 ne).trans e,nb,ne,nf,d⟩
 ·refine (I.hok b ob e).stay (fun c w' hc q=>(hs.2 c ?_).trans q) (fun _ q=>q) fun _ _ q=>q
  rintro rfl
  rcases hc with rfl | hc
  ·rw [I.free] at e;cases e
  ·rw [I.free] at hc;cases hc
end
section
variable {X:Cx} {G:Ga} {M:MH} {body:List Stmt} {b0:Stmt} {suite:List Stmt} {pos np hpos:Pos} {E:EndsD} {R:Ga->XQ}
end
section
variable {P:Program} {w:World} {K:PySem.W.Frag} {mg:Str->Option Value} {base:Heap}
end
end D3
namespace X1
open PySem PySem.W PySem.Calls Builtin Builtin.ObjectAttr
section
variable {K:Frag} {prog:Program} {w:World} {A:Around} {E:Value->Shared->Prop} {h:Heap} {g:Array GenState} {d:Drawn} {t:Nat} {os:OsState} {C P x:Addr} {ox:Obj} {od:Option Obj}
end
end X1
namespace D3
open PySem PySem.Spec PyProof.Rows L2 X1
section
variable {X:Cx} {G:Ga} {M:MH} {e e2:Expr} {es:List Expr} {pos:Pos} {Q:DK}
end
section
variable {X:Cx} {G:Ga} {M:MH} {e:Expr} {pos:Pos} {Q:DK}
end
section
variable {X:Cx} {G:Ga} {M:MH} {o e f:Expr} {Q:DK} {apos cpos pos:Pos}
theorem bootAll:bootBuiltins "all" = some (.builtin "all"):=by decide +kernel
theorem isl_bools {H:Hp}:∀ {bs:List Bool} {vs:List V},IsL H (bs.map D.bl) vs->vs=bs.map V.bl
 | [],vs,h=>by rw [List.map_nil,isl_nil] at h;subst h;rfl
 | n :: ns,vs,h=>by
  rw [List.map_cons,isl_cons] at h
  obtain ⟨x,r,rfl,h1,h2⟩:=h
  rw [is_bl] at h1
  rw [h1,isl_bools h2];rfl
theorem vals_bools {bs:List Bool} {us:List Value} {i:Nat} {u:Value} (r:Vals (bs.map V.bl) us) (h:us[i]?=some u):u=.bool ((bs[i]?).getD false):=by
 have hl:=r.length
 rw [List.length_map] at hl
 have hi:i < bs.length:=by
  have:=(List.getElem?_eq_some_iff.mp h).1
  omega
 obtain ⟨w,hw,rw'⟩:=r.get (i:=i) (x:=.bl bs[i]) (by simp [hi])
 rw [h] at hw
 cases hw
 rw [show u=.bool bs[i] from rw']
 simp [hi]
theorem range_all (bs:List Bool):((List.range bs.length).all fun i=>(bs[i]?).getD false)=bs.all id:=by
 have:bs=(List.range bs.length).map fun i=>(bs[i]?).getD false:=by
  apply List.ext_getElem?
  intro i
  rw [List.getElem?_map]
  by_cases h:i < bs.length
  ·rw [List.getElem?_range h];simp [h]
  ·rw [List.getElem?_eq_none (by omega),List.getElem?_eq_none (by simp;omega)];rfl
 conv=>rhs;rw [this]
 rw [List.all_map]
 rfl
theorem call_allL (hc:X.calm=true):CallR X (.builtin "all") (fun xs H Q=>∃ (a:Addr) (bs:List Bool),xs=[.ref a]/\H a=some (.lst (bs.map V.bl))/\Q (.bl (bs.all id)) H):=by
 intro pins s σ H xs us Q I r h
 obtain ⟨a,bs,rfl,e,q⟩:=h
 obtain ⟨u,rfl,ru⟩:=vals1 r
 cases ru
 obtain ⟨z,its,n,rv,hl,eo⟩:=I.lstM e
 have hlen:its.toArray.size=bs.length:=by
  rw [List.length_map] at hl
  simp [<- hl]
 have lt:a < s.heap.objs.size:=Heap.lt_size eo
 have hL:s.heap.IsList a its.toArray:=⟨_,eo,rfl,n,rfl⟩
 refine call_all_walk (wpAny_pyIter_list hL ?_)
 refine ⟨_,_,_,_,_,_,fun i=>(bs[i]?).getD false,rfl,Walks.list (A:=X.A.in1) (I.ok.hd hc) s.heap.objs.size a (Nat.ne_of_lt lt) its.toArray,⟨⟨_,Heap.get?_push_size _ rfl,rfl,rfl⟩,hL.push _⟩,?_,fun h' tk hk=>?_⟩
 ·intro i v s' Q' E' hv hq
  have ev:v=.bool ((bs[i]?).getD false):=vals_bools rv (by simpa using hv)
  subst ev
  exact wpAny_pure hq
 ·rw [hlen,range_all]
  exact ⟨.bl (bs.all id),H,I.kept fun b o y=>hk b o (by simp;exact Nat.ne_of_lt (Heap.lt_size y)) (Heap.get?_push_of_some _ y),rfl,q⟩
theorem ev_allL {p:Pos} (hc:X.calm=true) (hm:X.mg "all" = none) (h:AV X G M [e] fun ds M1=>∃ (q:Addr) (bs:List Bool),ds=[.ref q]/\M1 q=some (.lst (bs.map D.bl))/\Q (.bl (bs.all id)) M1) (hg:Gl X "all") (he:SeX X e) (hpl:NpX X pos) :
  EV X G M (.Call (.Name "all" p) [e] [] pos) Q :=
 ev_callB (call_allL hc) hm bootAll (h.mono fun ds M1 ⟨a,bs,e1,ha,q⟩=>fun H xs kf hx m=>by
  subst e1
  obtain ⟨v,rfl,hv⟩:=isl1 hx
  rw [is_ref] at hv;subst hv
  obtain ⟨ys,e1,e2⟩:=m a _ ha
  have e3:=isl_bools e2;subst e3
  exact ⟨a,bs,rfl,e1,fun _=>⟨Grow.refl _,.bl _,M1,is_bl.mpr rfl,m,q⟩⟩) hg (by decide) (by decide) he hpl
end
end D3
namespace KA
open PySem PySem.Spec PyProof.Rows L2 D3 K01
def Pv (M:MH) (p q:Addr) (n:Nat):Prop:=∃ (cs:List Int) (k c:Int),M p=some (.lst [.ref q,.int k,.int c])/\M q=some (.lst (cs.map D.int))/\q≠p/\cs.length<=62/\(∀ x∈cs,Cell x)/\Cell c/\0<=k/\k<=n
theorem Pv.up {M:MH} {p q:Addr} {n m:Nat} (h:Pv M p q n) (hm:n<=m):Pv M p q m:=by
 obtain ⟨cs,k,c,h1,h2,h3,h4,h5,h6,h7,h8⟩:=h
 exact ⟨cs,k,c,h1,h2,h3,h4,h5,h6,h7,by omega⟩
theorem Pv.ext {M M':MH} {p q:Addr} {n:Nat} (h:Pv M p q n) (e:Ext M M'):Pv M' p q n:=by
 obtain ⟨cs,k,c,h1,h2,h3⟩:=h
 exact ⟨cs,k,c,e _ _ h1,e _ _ h2,h3⟩
theorem Pv.ne {M:MH} {p q l:Addr} {n:Nat} (h:Pv M p q n) (hl:M l=none):p≠l/\q≠l:=let ⟨_,_,_,e,e',_⟩:=h;⟨ne_fresh e hl,ne_fresh e' hl⟩
theorem Pv.put {M:MH} {p q l:Addr} {n:Nat} {o:MO} (h:Pv M p q n) (h1:p≠l/\q≠l):Pv (mset M l o) p q n:=by
 obtain ⟨cs,k,c,e1,e2,r⟩:=h
 exact ⟨cs,k,c,by rw [mset_ne h1.1];exact e1,by rw [mset_ne h1.2];exact e2,r⟩
inductive spTake2 (ds:List D) (M:MH) (Q:DK):Prop | mk:∀ p q n,ds=[.ref p]->Pv M p q n->n<=100000->(∀ c M',Cell c->Pv M' p q (n+1)->Kp [p] M M'->Q (.int c) M')->spTake2 ds M Q
inductive spNumber2 (ds:List D) (M:MH) (Q:DK):Prop | mk:∀ c:Int,ds=[.int c]->Cell c->(∀ n,B 60 n->Q (.int n) M)->spNumber2 ds M Q
inductive spTerms2 (ds:List D) (M:MH) (Q:DK):Prop | mk:∀ p ss q n,ds=[.ref p,nms ss]->Pv M p q n->ss.length<=4->n<=90000->(∀ ts M',Terms ss ts->Pv M' p q (n+4)->Kp [p] M M'->Q (trm ts) M')->spTerms2 ds M Q
inductive spSum2 (ds:List D) (M:MH) (Q:DK):Prop | mk:∀ p ss q n,ds=[.ref p,nms ss]->Pv M p q n->ss.length<=4->n<=80000->(∀ ts w b M',Terms ss ts->B 60 w->1<=b->b<=3->Pv M' p q (n+6)->Kp [p] M M'->Q (.tup [trm ts,.int w,.int b]) M')->spSum2 ds M Q
inductive spRow2 (ds:List D) (M:MH) (Q:DK):Prop | mk:∀ p ss q n,ds=[.ref p,nms ss]->Pv M p q n->ss.length<=4->n<=80000->(∀ k ts w M',Terms ss ts->B 60 w->Pv M' p q (n+6)->Kp [p] M M'->Q (rowD k ts w) M')->spRow2 ds M Q
structure Out (L F:List Str) (i:Nat):Prop where
 nd:(L++F).Nodup
 lett:∀ s∈L++F,Letter s
 len:L.length=26 - i
 out:F.length=i
theorem Out.step {L F:List Str} {i k:Nat} {x:Str} (h:Out L F i) (hx:L[k]?=some x) (hi:i < 26):Out (L.eraseIdx k) (F++[x]) (i+1):=by
 obtain ⟨hk,he⟩:=List.getElem?_eq_some_iff.mp hx
 have hp:(L.eraseIdx k++(F++[x])).Perm (L++F):=by
  have p1:(x :: L.eraseIdx k).Perm L:=by
   have e:L=L.take k++x :: L.drop (k+1):=by
    conv=>lhs;rw [<- List.take_append_drop k L]
    congr 1
    rw [List.drop_eq_getElem_cons hk,he]
   rw [List.eraseIdx_eq_take_drop_succ]
   conv=>rhs;rw [e]
   exact (List.perm_middle).symm
  refine List.Perm.trans ?_ (List.Perm.append_right F p1)
  rw [<- List.append_assoc]
  refine (List.perm_append_comm).trans ?_
  exact List.Perm.refl _
 refine ⟨hp.nodup_iff.mpr h.nd,fun s hs=>h.lett s (hp.mem_iff.mp hs),?_,?_⟩
 ·rw [List.length_eraseIdx,if_pos hk,h.len];omega
 ·rw [List.length_append,h.out];rfl
theorem erase_map {α β:Type} (f:α->β):∀ (l:List α) (k:Nat),(l.map f).eraseIdx k=(l.eraseIdx k).map f
 | [],_=>rfl
 | a :: l,0=>rfl
 | a :: l,k+1=>by rw [List.map_cons,List.eraseIdx_cons_succ,List.eraseIdx_cons_succ,List.map_cons,erase_map f l k]
def abc:List Str:=(Str.cps "abcdefghijklmnopqrstuvwxyz").toList.map fun c=>⟨#[c]⟩
theorem abc_out:Out abc [] 0:=by
 refine ⟨by rw [List.append_nil];decide +kernel,fun s hs=>?_,by decide +kernel,rfl⟩
 rw [List.append_nil] at hs
 obtain ⟨c,hc,rfl⟩:=List.mem_map.mp hs
 have:∀ c∈(Str.cps "abcdefghijklmnopqrstuvwxyz").toList,97<=c/\c<=122:=by decide +kernel
 exact ⟨c,(this c hc).1,(this c hc).2,rfl⟩
theorem abc_D:chD "abcdefghijklmnopqrstuvwxyz" = abc.map D.str:=by
 unfold abc chD
 rw [List.map_map]
 rfl
end KA
namespace D3
open PySem PySem.Spec PyProof.Rows L2
theorem IsL.rev {H:Hp}:∀ {ds:List D} {vs:List V},IsL H ds vs->IsL H ds.reverse vs.reverse
 | [],vs,h=>by rw [isl_nil] at h;subst h;exact isl_nil.mpr rfl
 | d :: ds,vs,h=>by
  rw [isl_cons] at h
  obtain ⟨x,r,rfl,h1,h2⟩:=h
  rw [List.reverse_cons,List.reverse_cons]
  exact (IsL.rev h2).app (isl_cons.mpr ⟨x,[],rfl,h1,isl_nil.mpr rfl⟩)
theorem IsL.init {H:Hp} {ds:List D} {d:D} {vs:List V} (h:IsL H (ds++[d]) vs):∃ us u,vs=us++[u]/\IsL H ds us/\Is H d u:=by
 have h1:=h.rev
 rw [List.reverse_append] at h1
 obtain ⟨u,r,e,k1,k2⟩:=isl_cons.mp h1
 refine ⟨r.reverse,u,?_,?_,k1⟩
 ·have:=congrArg List.reverse e
  simpa using this
 ·have:=k2.rev
  simpa using this
section
variable {X:Cx} {G:Ga} {M:MH} {o e:Expr} {Q:DK} {apos cpos:Pos}
theorem ev_reverse (h:EV X G M o fun d M1=>∃ p ds,d=.ref p/\M1 p=some (.lst ds)/\Q .non (mset M1 p (.lst ds.reverse)))
  (hbase:attributeBase o "reverse" X.env (eval o X.env)=eval o X.env) (hline:(apos.endLine == cpos.line)=true):EV X G M (.Call (.Attribute o "reverse" apos) [] [] cpos) Q:=by
 refine EV.of (pe_bm0 PySem.F.plainAttrs_list PySem.F.slot_list_reverse PySem.F.type_list_reverse mt_reverse (pe_D (G:=G)) hbase hline) fun σ H kf R=>?_
 refine ⟨M,_,R,h,fun v H' d M' kf' g i R' q=>?_⟩
 obtain ⟨p,ds,rfl,hp,q⟩:=q
 rw [is_ref] at i;subst i
 obtain ⟨xs,hx,hxi⟩:=R'.mem p _ hp
 have nt:∀ ys,H' p≠some (.tup ys):=fun ys z=>by rw [hx] at z;cases z
 have gu:Grow H' (upd H' p (.lst xs.reverse)):=grow_upd nt
 exact ⟨tyL hx,p,xs,rfl,rfl,hx,fun _=>⟨g.trans gu,.non,_,is_non.mpr rfl,R'.mem.put (u:=.lst ds.reverse) nt ⟨_,upd_same,(hxi.grow gu).rev⟩,q⟩⟩
theorem ev_pop (h:EV X G M o fun d M1=>∃ p ds x,d=.ref p/\M1 p=some (.lst (ds++[x]))/\Q x (mset M1 p (.lst ds)))
  (hbase:attributeBase o "pop" X.env (eval o X.env)=eval o X.env) (hline:(apos.endLine == cpos.line)=true):EV X G M (.Call (.Attribute o "pop" apos) [] [] cpos) Q:=by
 refine EV.of (pe_bm0 PySem.F.plainAttrs_list PySem.F.slot_list_pop PySem.F.type_list_pop mt_pop (pe_D (G:=G)) hbase hline) fun σ H kf R=>?_
 refine ⟨M,_,R,h,fun v H' d M' kf' g i R' q=>?_⟩
 obtain ⟨p,ds,x,rfl,hp,q⟩:=q
 rw [is_ref] at i;subst i
 obtain ⟨xs,hx,hxi⟩:=R'.mem p _ hp
 obtain ⟨us,u,rfl,h1,h2⟩:=hxi.init
 have nt:∀ ys,H' p≠some (.tup ys):=fun ys z=>by rw [hx] at z;cases z
 have gu:Grow H' (upd H' p (.lst us)):=grow_upd nt
 refine ⟨tyL hx,p,us++[u],u,rfl,rfl,hx,by simp,?_⟩
 rw [List.dropLast_concat]
 exact fun _=>⟨g.trans gu,x,_,Is.grow gu _ _ h2,R'.mem.put (u:=.lst ds) nt ⟨_,upd_same,h1.grow gu⟩,q⟩
theorem ev_extend (h:EV X G M o fun d M1=>∃ p,d=.ref p/\(∃ ds,M1 p=some (.lst ds))/\EV X G M1 e fun d2 M2=>∃ q ds es,d2=.ref q/\M2 p=some (.lst ds)/\M2 q=some (.lst es)/\ds.length+es.length<=sizeLine/\Q .non (mset M2 p (.lst (ds++es))))
  (hbase:attributeBase o "extend" X.env (eval o X.env)=eval o X.env)
  (hfew:HfX X cpos e)
  (hline:(apos.endLine == cpos.line)=true) (hs:SeX X e) (hplain:NpX X cpos) :
  EV X G M (.Call (.Attribute o "extend" apos) [e] [] cpos) Q:=by
 refine EV.of (pe_bm PySem.F.plainAttrs_list PySem.F.slot_list_extend PySem.F.type_list_extend mt_extend (pe_D (G:=G)) (pa_D (G:=G) (es:=[e])) hbase hfew hline hs hplain) fun σ H kf R=>?_
 refine ⟨M,_,R,h,fun v H' d M' kf' g i R' q=>?_⟩
 obtain ⟨p,rfl,⟨ds,hds⟩,q⟩:=q
 rw [is_ref] at i;subst i
 obtain ⟨xs,hx,_⟩:=R'.mem p _ hds
 refine ⟨tyL hx,M',fun ds2 M2=>∃ d2,ds2=[d2]/\∃ q ds es,d2=.ref q/\M2 p=some (.lst ds)/\M2 q=some (.lst es)/\ds.length+es.length<=sizeLine/\Q .non (mset M2 p (.lst (ds++es))),R',av_cons (q.mono fun d2 M2 q2=>av_nil ⟨d2,rfl,q2⟩) hs,fun vs H2 ds2 M2 kf2 g2 i2 R2 q2=>?_⟩
 obtain ⟨d2,rfl,b,ds,es,rfl,hp,hb,hz,q2⟩:=q2
 obtain ⟨v2,rfl,hv2⟩:=isl1 i2
 rw [is_ref] at hv2;subst hv2
 obtain ⟨xs,hx,hxi⟩:=R2.mem p _ hp
 obtain ⟨ys,hy,hyi⟩:=R2.mem b _ hb
 have nt:∀ ys,H2 p≠some (.tup ys):=fun ys z=>by rw [hx] at z;cases z
 have gu:Grow H2 (upd H2 p (.lst (xs++ys))):=grow_upd nt
 exact ⟨p,b,xs,ys,rfl,rfl,hx,hy,by rw [<- hxi.len,<- hyi.len];exact hz,fun _=>⟨(g.trans g2).trans gu,.non,_,is_non.mpr rfl,R2.mem.put (u:=.lst (ds++es)) nt ⟨_,upd_same,(hxi.grow gu).app (hyi.grow gu)⟩,q2⟩⟩
end
theorem bootSum:bootBuiltins "sum" = some (.builtin "sum"):=by decide +kernel
theorem bootMaxB:bootBuiltins "max" = some (.builtin "max"):=by decide +kernel
theorem isl_nums {H:Hp}:∀ {ns:List Int} {vs:List V},IsL H (ns.map D.int) vs->vs=ns.map V.int
 | [],vs,h=>by rw [List.map_nil,isl_nil] at h;subst h;rfl
 | n :: ns,vs,h=>by
  rw [List.map_cons,isl_cons] at h
  obtain ⟨x,r,rfl,h1,h2⟩:=h
  rw [is_int] at h1
  rw [h1,isl_nums h2];rfl
theorem vals_nums {ns:List Int} {us:List Value} {i:Nat} {u:Value} (r:Vals (ns.map V.int) us) (h:us[i]?=some u):∃ t,u=.int ((ns[i]?).getD 0) t:=by
 have hl:=r.length
 rw [List.length_map] at hl
 have hi:i < ns.length:=by
  have:=(List.getElem?_eq_some_iff.mp h).1
  omega
 obtain ⟨w,hw,rw'⟩:=r.get (i:=i) (x:=.int ns[i]) (by simp [hi])
 rw [h] at hw
 cases hw
 obtain ⟨t,e⟩:=rw'
 exact ⟨t,by rw [e];simp [hi]⟩
theorem preSum_take (ns:List Int):∀ j,j<=ns.length->preSum (fun i=>(ns[i]?).getD 0) j=(ns.take j).sum
 | 0,_=>by simp [preSum]
 | j+1,h=>by
  have ih:=preSum_take ns j (by omega)
  have hj:j < ns.length:=by omega
  show preSum _ j+_=_
  rw [ih,List.take_succ_eq_append_getElem hj,List.sum_append]
  simp [hj]
theorem sum_small {m:Int} (h0:0<=m):∀ {ns:List Int},(∀ x∈ns,0<=x/\x<=m)->0<=ns.sum/\ns.sum<=ns.length * m
 | [],_=>by simp
 | x :: r,h=>by
  have h1:=h x (List.mem_cons_self ..)
  obtain ⟨h2,h3⟩:=sum_small h0 (ns:=r) fun y hy=>h y (List.mem_cons_of_mem _ hy)
  rw [List.sum_cons,List.length_cons]
  constructor
  ·omega
  ·have:((r.length+1:Nat):Int) * m=r.length * m+m:=by rw [Int.natCast_add,Int.add_mul];simp
   omega
section
variable {X:Cx} {G:Ga} {M:MH} {e:Expr} {Q:DK} {pos:Pos}
theorem call_sumL (hc:X.calm=true):CallR X (.builtin "sum") (fun xs H Q=>∃ (a:Addr) (ns:List Int),xs=[.ref a]/\H a=some (.lst (ns.map V.int))/\(∀ x∈ns,0<=x/\x<=1000000)/\ns.length<=1000000/\Q (.int ns.sum) H):=by
 intro pins s σ H xs us Q I r h
 obtain ⟨a,ns,rfl,e,hb,hl0,q⟩:=h
 obtain ⟨u,rfl,ru⟩:=vals1 r
 cases ru
 obtain ⟨z,its,n,rv,hl,eo⟩:=I.lstM e
 have hlen:its.toArray.size=ns.length:=by
  rw [List.length_map] at hl
  simp [<- hl]
 have lt:a < s.heap.objs.size:=Heap.lt_size eo
 have hL:s.heap.IsList a its.toArray:=⟨_,eo,rfl,n,rfl⟩
 refine call_sum_walk (wpAny_pyIter_list hL ?_)
 have small:∀ j,j<=ns.length->0<=(ns.take j).sum/\(ns.take j).sum<=1000000 * 1000000:=fun j hj=>by
  obtain ⟨h1,h2⟩:=sum_small (m:=1000000) (by decide) (ns:=ns.take j) fun x hx=>hb x (List.mem_of_mem_take hx)
  refine ⟨h1,?_⟩
  have:(ns.take j).length<=1000000:=by rw [List.length_take];omega
  omega
 refine ⟨_,_,_,_,_,_,fun i=>(ns[i]?).getD 0,rfl,Walks.list (A:=X.A.in1) (I.ok.hd hc) s.heap.objs.size a (Nat.ne_of_lt lt) its.toArray,⟨⟨_,Heap.get?_push_size _ rfl,rfl,rfl⟩,hL.push _⟩,fun b hb=>?_,fun i v hv=>vals_nums rv (by simpa using hv),fun j hj=>?_,fun h' tk t' hk=>?_⟩
 ·rw [Heap.size_push]
  rcases List.mem_cons.mp hb with z | z
  ·rw [z];exact Nat.lt_succ_self _
  ·rw [List.mem_singleton.mp z];exact Nat.lt_succ_of_lt lt
 ·rw [hlen] at hj
  rw [preSum_take ns (j+1) hj]
  have h1:=hb ns[j] (List.getElem_mem hj)
  have h2:=small (j+1) hj
  simp only [InLong,List.getElem?_eq_getElem hj,Option.getD_some]
  omega
 ·rw [hlen,preSum_take ns _ (Nat.le_refl _),List.take_length]
  exact ⟨.int ns.sum,H,I.kept fun b o y=>hk b o (by simp;exact Nat.ne_of_lt (Heap.lt_size y)) (Heap.get?_push_of_some _ y),⟨_,rfl⟩,q⟩
theorem ev_sumL {p:Pos} (hc:X.calm=true) (hm:X.mg "sum" = none) (h:AV X G M [e] fun ds M1=>∃ (q:Addr) (ns:List Int),ds=[.ref q]/\M1 q=some (.lst (ns.map D.int))/\(∀ x∈ns,0<=x/\x<=1000000)/\ns.length<=1000000/\Q (.int ns.sum) M1) (hg:Gl X "sum") (he:SeX X e) (hpl:NpX X pos) :
  EV X G M (.Call (.Name "sum" p) [e] [] pos) Q :=
 ev_callB (call_sumL hc) hm bootSum (h.mono fun ds M1 ⟨a,ns,e1,ha,h1,h2,q⟩=>fun H xs kf hx m=>by
  subst e1
  obtain ⟨v,rfl,hv⟩:=isl1 hx
  rw [is_ref] at hv;subst hv
  obtain ⟨ys,e1,e2⟩:=m a _ ha
  have e3:=isl_nums e2;subst e3
  exact ⟨a,ns,rfl,e1,h1,h2,fun _=>⟨Grow.refl _,.int ns.sum,M1,is_int.mpr rfl,m,q⟩⟩) hg (by decide) (by decide) he hpl
end
structure Top (r:Int) (f:Nat->Int) (j n:Nat) (x:Int):Prop where
 one:x=r\/∃ i,j<=i/\i < n/\x=f i
 own:r<=x
 all:∀ i,j<=i->i < n->f i<=x
theorem Top.up {r x:Int} {f:Nat->Int} {j n:Nat} (lt:j < n) (h:f j > r) (q:Top (f j) f (j+1) n x):Top r f j n x:=by
 obtain ⟨a,b,c⟩:=q
 refine ⟨.inr ?_,by omega,fun i h1 h2=>?_⟩
 ·rcases a with a | ⟨i,h1,h2,h3⟩
  ·exact ⟨j,Nat.le_refl _,lt,a⟩
  ·exact ⟨i,by omega,h2,h3⟩
 ·by_cases z:i=j
  ·subst z;exact b
  ·exact c i (by omega) h2
theorem Top.on {r x:Int} {f:Nat->Int} {j n:Nat} (h:¬ f j > r) (q:Top r f (j+1) n x):Top r f j n x:=by
 obtain ⟨a,b,c⟩:=q
 refine ⟨?_,b,fun i h1 h2=>?_⟩
 ·rcases a with a | ⟨i,h1,h2,h3⟩
  ·exact .inl a
  ·exact .inr ⟨i,by omega,h2,h3⟩
 ·by_cases z:i=j
  ·subst z;omega
  ·exact c i (by omega) h2
section
variable {P:Program} {w:World} {B:Around} {R:Result->Shared->Prop} {I:Addr} {fp wr:List Addr} {n:Nat} {Pi:Nat->Value->Prop} {St:Nat->Heap->Prop}
theorem loopName:(toString "max" ++ toString ".loop" : String) = "max.loop" := by decide
theorem top_loop (W:PySem.Walks P w B.in1 I fp wr n Pi St) (f:Nat->Int) (hv:∀ i v,Pi i v->∃ t,v=.int (f i) t) (S:Addr) (hS:S∉fp) (kw:List (Str × Value)) :
  ∀ (k j:Nat) (st:Shared) (r:Int) (t:Tok) (c:Nat),n - j=k->j<=n->St j st.heap->st.heap.get? S=some { cls:=.type "list",dict:=none,data:=.seq #[.int r t,.int r t] c,slots:=#[] } ->
  (∀ x g tk t',Top r f j n x->(∀ b o,b∉wr->b≠S->st.heap.get? b=some o->g.get? b=some o)->R (.ok (.ret (.int x t'))) { st with heap:=g,toks:=tk }) ->
  codeAny (model P w) B (.builtin "max.loop" ⟨[.ref I,.none,.ref S],kw⟩) R st:=by
 have off:S∉wr:=fun h=>hS (W.sub _ h)
 intro k
 induction k with
 | zero =>
  intro j st r t c hk hj hst eS q
  have e:j=n:=by omega
  subst e
  refine codeAny_builtin F.entry_max_loop ?_
  rw [Around.under_plainId F.plain_max_loop _]
  show wpAny _ B.in1 (seqItems? (.ref S) >>= _) _ _ st
  refine wpAny_bind (wpAny_seqItems eS rfl ?_)
  show wpAny _ B.in1 (tryCatch (pyNext (.ref I)) _ >>= _) _ _ st
  refine wpAny_bind (wpAny_tryCatch (W.done st _ _ hst fun g tk hg=>?_))
  show wpAny _ B.in1 (updateSeq S (fun _=>#[]) >>= _) _ _ _
  refine wpAny_bind (wpAny_updateSeq (hg S _ off eS) rfl (wpAny_bind (wpAny_letGo (wpAny_pure (q r _ tk t ⟨.inl rfl,Int.le_refl _,fun i h1 h2=>by omega⟩ fun b o h1 h2 y=>?_)))))
  exact (Heap.get?_update_other _ _ (Ne.symm h2)).trans (hg b o h1 y)
 | succ k ih =>
  intro j st r t c hk hj hst eS q
  have lt:j < n:=by omega
  refine codeAny_builtin F.entry_max_loop ?_
  rw [Around.under_plainId F.plain_max_loop _]
  show wpAny _ B.in1 (seqItems? (.ref S) >>= _) _ _ st
  refine wpAny_bind (wpAny_seqItems eS rfl ?_)
  show wpAny _ B.in1 (tryCatch (pyNext (.ref I)) _ >>= _) _ _ st
  refine wpAny_bind (wpAny_tryCatch (W.item j st _ _ lt hst fun v g tk hP hst' hg=>?_))
  obtain ⟨t',rfl⟩:=hv j v hP
  have eS':=hg S _ off eS
  show wpAny _ B.in1 (tryCatch (holding [.int (f j) t',.int (f j) t'] (richCompare .Gt (.int (f j) t') (.int r t) >>= _)) _ >>= _) _ _ _
  refine wpAny_bind (wpAny_tryCatch (wpAny_holding (wpAny_bind (richCompare_gives (op:=.Gt) (typeIs_int _ _ t') (typeIs_int _ _ t) F.slot_int_gt F.entry_int_gt (F.args_int_gt_2 _ _) (gives_int_gt _ _ t' t) (fun x=>nomatch x) ?_))))
  refine wpAny_bind (wpAny_holding (wpAny_truthy_bool (wpAny_bind (wpAny_letGo (wpAny_pure ?_)))))
  by_cases z:f j > r
  ·simp only [z,decide_true,if_true]
   refine wpAny_bind (wpAny_updateSeq eS' rfl (wpAny_bind (wpAny_letGo ?_)))
   rw [loopName]
   refine wpAny_pure ⟨plainId_quiet F.plain_max_loop _,ih (j+1) _ (f j) t' _ (by omega) lt (W.frame _ _ _ hst' fun b hb o y=>?_) (Heap.get?_update_self _ eS' rfl) fun x g2 tk2 t2 hx hg2=>?_⟩
   ·exact (Heap.get?_update_other _ _ (fun h:S=b=>hS (by rw [h];exact hb))).trans y
   ·exact q x g2 tk2 t2 (hx.up lt z) fun b o h1 h2 y=>hg2 b o h1 h2 ((Heap.get?_update_other _ _ (Ne.symm h2)).trans (hg b o h1 y))
  ·simp only [z,decide_false,Bool.false_eq_true,if_false]
   refine wpAny_bind (wpAny_letGo ?_)
   rw [loopName]
   exact wpAny_pure ⟨plainId_quiet F.plain_max_loop _,ih (j+1) _ r t c (by omega) lt hst' eS' fun x g2 tk2 t2 hx hg2=>q x g2 tk2 t2 (hx.on z) fun b o h1 h2 y=>hg2 b o h1 h2 (hg b o h1 y)⟩
theorem top_first (W:PySem.Walks P w B.in1 I fp wr n Pi St) (f:Nat->Int) (hv:∀ i v,Pi i v->∃ t,v=.int (f i) t) (S:Addr) (hS:S∉fp) {st:Shared} {c:Nat} {d:Int} {td:Tok} {nm:Str} (hst:St 0 st.heap)
  (eS:st.heap.get? S=some { cls:=.type "list",dict:=none,data:=.seq #[] c,slots:=#[] })
  (q:∀ x g tk t',((n=0/\x=d)\/(0 < n/\Top (f 0) f 1 n x))->(∀ b o,b∉wr->b≠S->st.heap.get? b=some o->g.get? b=some o)->R (.ok (.ret (.int x t'))) { st with heap:=g,toks:=tk }) :
  codeAny (model P w) B (.builtin "max.loop" ⟨[.ref I,.none,.ref S],[(nm,.int d td)]⟩) R st:=by
 have off:S∉wr:=fun h=>hS (W.sub _ h)
 refine codeAny_builtin F.entry_max_loop ?_
 rw [Around.under_plainId F.plain_max_loop _]
 show wpAny _ B.in1 (seqItems? (.ref S) >>= _) _ _ st
 refine wpAny_bind (wpAny_seqItems eS rfl ?_)
 show wpAny _ B.in1 (tryCatch (pyNext (.ref I)) _ >>= _) _ _ st
 by_cases z:n=0
 ·refine wpAny_bind (wpAny_tryCatch (W.done st _ _ (by rw [z];exact hst) fun g tk hg=>?_))
  show wpAny _ B.in1 (rule _ >>= _) _ _ _
  exact wpAny_bind (wpAny_rule (wpAny_pure (q d _ tk td (.inl ⟨z,rfl⟩) fun b o h1 _ y=>hg b o h1 y)))
 ·have lt:0 < n:=Nat.pos_of_ne_zero z
  refine wpAny_bind (wpAny_tryCatch (W.item 0 st _ _ lt hst fun v g tk hP hst' hg=>?_))
  obtain ⟨t',rfl⟩:=hv 0 v hP
  have eS':=hg S _ off eS
  show wpAny _ B.in1 (updateSeq S (fun _=>#[.int (f 0) t',.int (f 0) t']) >>= _) _ _ _
  refine wpAny_bind (wpAny_updateSeq eS' rfl ?_)
  rw [loopName]
  refine wpAny_pure ⟨plainId_quiet F.plain_max_loop _,top_loop W f hv S hS _ _ 1 _ (f 0) t' _ rfl lt (W.frame _ _ _ hst' fun b hb o y=>?_) (Heap.get?_update_self _ eS' rfl) fun x g2 tk2 t2 hx hg2=>?_⟩
  ·exact (Heap.get?_update_other _ _ (fun h:S=b=>hS (by rw [h];exact hb))).trans y
  ·exact q x g2 tk2 t2 (.inr ⟨lt,hx⟩) fun b o h1 h2 y=>hg2 b o h1 h2 ((Heap.get?_update_other _ _ (Ne.symm h2)).trans (hg b o h1 y))
end
theorem argsMaxD (u v:Value):argsOk "max" ⟨[u],[("default",v)]⟩:=by unfold argsOk;kernel_rfl
section
variable {P:Program} {w:World} {B:Around} {Z:Value->Shared->Prop} {st:Shared} {Q:Value->Shared->Prop}
theorem call_maxD {a:Addr} {its:Array Value} {f:Nat->Int} {d:Int} {td:Tok} (calm:B.handled=none) (hl:st.heap.IsList a its) (hv:∀ (i:Nat) (v:Value),its[i]?=some v->∃ t,v=.int (f i) t)
  (q:∀ x g tk t',((its.size=0/\x=d)\/(0 < its.size/\Top (f 0) f 1 its.size x))->(∀ b o,st.heap.get? b=some o->g.get? b=some o)->Q (.int x t') { st with heap:=g,toks:=tk }) :
  wpAny (model P w) B (call (.builtin "max") [.ref a] [("default",.int d td)]) Q Z st:=by
 have lt:a < st.heap.objs.size:=let ⟨_,e,_⟩:=hl;Heap.lt_size e
 have main:wpAny (model P w) B.in1 (Builtin.«max» ⟨[.ref a],[("default",.int d td)]⟩) (fun fin s'=>match fin with
   | .done f=>(match (Except.ok f:Result) with | .ok (.ret v)=>Q v s' | .ok _=>False | .error e=>Z e s')
   | .again c'=>c'.quiet=true/\codeAny (model P w) B c' (fun r s'=>match r with | .ok (.ret v)=>Q v s' | .ok _=>False | .error e=>Z e s') s') Z st:=by
  show wpAny _ B.in1 (Builtin.Builtins.bindParams "max" ["key", "default"] 0 ⟨[],[("default",.int d td)]⟩ >>= _) _ _ st
  refine wpAny_bind (wpAny_of_eq (show Builtin.Builtins.bindParams "max" ["key", "default"] 0 ⟨[],[("default",.int d td)]⟩=pure [none,some (Value.int d td)] from by kernel_rfl) ?_)
  refine wpAny_bind (wpAny_pure ?_)
  refine wpAny_bind (wpAny_pyIter_list hl ?_)
  refine wpAny_bind (wpAny_newObj_type ?_)
  rw [loopName]
  have W:=PySem.Walks.list (prog:=P) (w:=w) (A:=B.in1) calm st.heap.objs.size a (Nat.ne_of_lt lt) its
  refine wpAny_pure ⟨plainId_quiet F.plain_max_loop _,top_first W f hv _ (fun hm=>?_) ⟨⟨_,Heap.get?_push_of_some _ (Heap.get?_push_size _ rfl),rfl,rfl⟩,(hl.push _).push _⟩ (Heap.get?_push_size _ rfl) fun x g tk t' hx hg=>q x g tk t' hx fun b o y=>hg b o ?_ ?_ (Heap.get?_push_of_some _ (Heap.get?_push_of_some _ y))⟩
  ·rw [Heap.size_push] at hm
   rcases List.mem_cons.mp hm with z | z
   ·exact Nat.succ_ne_self _ z
   ·exact Nat.ne_of_gt (Nat.lt_succ_of_lt lt) (List.mem_singleton.mp z)
  ·have:=Heap.lt_size y
   simp only [List.mem_singleton]
   exact Nat.ne_of_lt this
  ·have:=Heap.lt_size y
   rw [Heap.size_push]
   exact Nat.ne_of_lt (Nat.lt_succ_of_lt this)
 refine wpAny_call (codeAny_call_builtin F.plain_max F.entry_max ?_)
 simp only [checkBuiltinCall,F.kind_max]
 cases hsig:Manifest.signature? "max" with
 | none=>exact wpAny_pure main
 | some sig =>
  have ok:Bind.checkArgs "max" sig ⟨[.ref a],[("default",.int d td)]⟩=pure ():=by
   have:=argsMaxD (.ref a) (.int d td)
   simpa only [argsOk,hsig] using this
  simp only [ok]
  exact wpAny_pure main
end
theorem nums_getD {ns:List Int} {i:Nat} (h:i < ns.length):(ns[i]?).getD 0∈ns:=by
 rw [List.getElem?_eq_getElem h,Option.getD_some];exact List.getElem_mem h
theorem top_nums {ns:List Int} {x:Int} (h:0 < ns.length) (q:Top ((ns[0]?).getD 0) (fun i=>(ns[i]?).getD 0) 1 ns.length x):x∈ns/\∀ y∈ns,y<=x:=by
 obtain ⟨a,b,c⟩:=q
 refine ⟨?_,fun y hy=>?_⟩
 ·rcases a with a | ⟨i,_,h2,h3⟩
  ·rw [a];exact nums_getD h
  ·rw [h3];exact nums_getD h2
 ·obtain ⟨i,hi,e⟩:=List.mem_iff_getElem.mp hy
  have e':y=(ns[i]?).getD 0:=by rw [List.getElem?_eq_getElem hi,Option.getD_some,e]
  by_cases z:i=0
  ·subst z;rw [e'];exact b
  ·rw [e'];exact c i (by omega) hi
section
variable {X:Cx} {G:Ga} {M:MH} {e:Expr} {Q:DK} {pos p kp np:Pos}
theorem ev_maxD {d:Int} (hc:X.calm=true) (hm:X.mg "max" = none)
  (h:AV X G M [e] fun ds M1=>∃ (q:Addr) (ns:List Int),ds=[.ref q]/\M1 q=some (.lst (ns.map D.int))/\∀ x,((ns=[]/\x=d)\/(x∈ns/\∀ y∈ns,y<=x))->Q (.int x) M1)
  (hg:Gl X "max") (he:backTo pos (starEach [e] X.env)=(false,eval e X.env) :: backTo pos (starEach [] X.env)) (hpl:(backTo pos (starEach [e] X.env)).any (·.1)=false)
  {ke:Expr} (hk:∀ (R:Value->Shared->Prop) (Z:Value->Shared->Prop) (s:Shared),(∀ t tk,R (.int d t) { s with toks:=tk })->wpAny (model X.prog X.w) X.A (eval ke X.env) R Z s) :
  EV X G M (.Call (.Name "max" p) [e] [⟨some "default",ke,kp⟩] pos) Q:=by
 intro pins s σ H I R
 refine wpAny_Call_Name_kw (ld_blt I hg hm bootMaxB ?_ (by decide) (by decide))
 refine PyProof.Rows.callWith_kw (thn (h pos pins s σ H I R) fun us s1 ⟨vs,H1,ds,M1,I1,r1,g1,i1,R1,q1⟩=>?_) he hpl rfl rfl
 refine kws_cons (hk _ _ _ fun t tk=>kws_nil ?_)
 obtain ⟨a,ns,rfl,ha,q⟩:=q1
 obtain ⟨v,rfl,hv⟩:=isl1 i1
 rw [is_ref] at hv;subst hv
 obtain ⟨u,rfl,ru⟩:=vals1 r1
 cases ru
 obtain ⟨xs,hx,hxi⟩:=R1.mem a _ ha
 have e3:=isl_nums hxi
 subst e3
 have I2:=I1.tok tk
 obtain ⟨z,its,n,rv,hl,eo⟩:=I2.lstM hx
 have hlen:its.toArray.size=ns.length:=by
  rw [List.length_map] at hl
  simp [<- hl]
 refine call_maxD (f:=fun i=>(ns[i]?).getD 0) (I2.ok.hd hc) (its:=its.toArray) ⟨_,eo,rfl,n,rfl⟩ (fun i v hv=>vals_nums rv (by simpa using hv)) fun x g tk' t' hx' kp'=>?_
 rw [hlen] at hx'
 refine ⟨.int x,H1,.int x,M1,I2.kept kp',⟨t',rfl⟩,g1,is_int.mpr rfl,R1,q x ?_⟩
 rcases hx' with ⟨h1,h2⟩ | ⟨h1,h2⟩
 ·exact .inl ⟨List.eq_nil_of_length_eq_zero h1,h2⟩
 ·exact .inr (top_nums h1 h2)
end
section
variable {X:Cx} {G:Ga} {M:MH} {a b:Expr} {pos:Pos}
theorem tv_isnot {Qb:Bool->MH->Prop} (h:EV X G M a fun da Ma=>EV X G Ma b fun db Mb=>∃ k,IsDv da db k/\db=.non/\Qb (!k) Mb):TV X G M (.Compare a [.IsNot] [b] pos) Qb :=
 tv_cmp op_notN (nomark _) (h.mono fun _ _ h1=>h1.mono fun _ Mb ⟨k,e1,e2,q⟩=>by
  intro H x y kf hx hy m
  subst e2
  have hy':=hy
  rw [is_non] at hy'
  rcases isD_val e1 hx hy with ⟨i,j,e3,e4,e⟩ | ⟨_,e⟩
  ·rw [hy'] at e4;cases e4
  ·exact ⟨hy',fun _=>⟨Grow.refl _,.bl (!k),Mb,is_bl.mpr (by rw [e]),m,!k,rfl,q⟩⟩)
end
end D3
namespace KA
open PySem PySem.Spec PyProof.Rows L2 D3 K01
abbrev Rw:=Bool × List (Str × Int) × Int
abbrev Sm:=List (Str × Int) × Int × Int
inductive Stm where
 | set (x:Str) (s:Sm)
 | any (x:Str)
 | note (rs:List Rw)
 | choose (a b:List Stm)
 | ite (r:Rw) (a b:List Stm)
 | whl (r:Rw) (rs:List Rw) (m:Option (Sm × Int)) (b:List Stm)
def rwD (r:Rw):D:=rowD r.1 r.2.1 r.2.2
def smD (s:Sm):D:=.tup [trm s.1,.int s.2.1,.int s.2.2]
def msD:Option (Sm × Int)->D
 | none=>.non
 | some m=>.tup [smD m.1,.int m.2]
mutual
def stD:Stm->D
 | .set x s=>.tup [.str "set",.str x,smD s]
 | .any x=>.tup [.str "any",.str x]
 | .note rs=>.tup [.str "note",.tup (rs.map rwD)]
 | .choose a b=>.tup [.str "choose",.tup (stDs a),.tup (stDs b)]
 | .ite r a b=>.tup [.str "if",rwD r,.tup (stDs a),.tup (stDs b)]
 | .whl r rs m b=>.tup [.str "while",rwD r,.tup (rs.map rwD),msD m,.tup (stDs b)]
def stDs:List Stm->List D
 | []=>[]
 | s :: r=>stD s :: stDs r
end
theorem stDs_map:∀ b:List Stm,stDs b=b.map stD
 | []=>by simp only [stDs,List.map_nil]
 | s :: r=>by simp only [stDs,List.map_cons,stDs_map r]
theorem stDs_snoc (b:List Stm) (s:Stm):stDs (b++[s])=stDs b++[stD s]:=by rw [stDs_map,stDs_map,List.map_append];rfl
structure Cnt where
 s:Nat
 b:Nat
 l:Nat
 a:Nat
 n:Nat
def Cnt.add (x y:Cnt):Cnt:=⟨x.s+y.s,x.b+y.b,x.l+y.l,x.a+y.a,x.n+y.n⟩
mutual
def tt:Stm->Cnt
 | .set _ _=>⟨1,0,0,0,0⟩
 | .any _=>⟨1,0,0,1,0⟩
 | .note rs=>⟨1,0,0,0,rs.length⟩
 | .choose a b=>((tts a).add (tts b)).add ⟨1,1,0,0,0⟩
 | .ite _ a b=>((tts a).add (tts b)).add ⟨1,1,0,0,0⟩
 | .whl _ _ _ b=>(tts b).add ⟨1,0,1,0,0⟩
def tts:List Stm->Cnt
 | []=>⟨0,0,0,0,0⟩
 | s :: r=>(tt s).add (tts r)
end
theorem Cnt.ext' {x y:Cnt} (h1:x.s=y.s) (h2:x.b=y.b) (h3:x.l=y.l) (h4:x.a=y.a) (h5:x.n=y.n):x=y:=by cases x;cases y;simp_all
theorem tts_app:∀ a b:List Stm,tts (a++b)=(tts a).add (tts b)
 | [],b=>by refine Cnt.ext' ?_ ?_ ?_ ?_ ?_<;>simp [tts,Cnt.add]
 | s :: r,b=>by
  have ih:=tts_app r b
  show tts (s :: (r++b))=_
  simp only [tts,ih]
  refine Cnt.ext' ?_ ?_ ?_ ?_ ?_<;>simp only [Cnt.add]<;>omega
def Took (n m c:Cnt):Prop:=n.s=m.s+c.s/\n.b=m.b+c.b/\n.l=m.l+c.l/\n.a=m.a+c.a/\n.n=m.n+c.n
mutual
def dp:Stm->Nat
 | .set _ _=>1
 | .any _=>1
 | .note _=>1
 | .choose a b=>max (dps a) (dps b)+1
 | .ite _ a b=>max (dps a) (dps b)+1
 | .whl _ _ _ b=>dps b+1
def dps:List Stm->Nat
 | []=>0
 | s :: r=>max (dp s) (dps r)
end
theorem dps_le {n:Nat}:∀ {b:List Stm},(∀ s∈b,dp s<=n)->dps b<=n
 | [],_=>by simp [dps]
 | s :: r,h=>by
  have h1:=h s (List.mem_cons_self ..)
  have h2:=dps_le (b:=r) fun x hx=>h x (List.mem_cons_of_mem _ hx)
  simp only [dps];omega
structure WfR (ss:List Str) (r:Rw):Prop where
 ts:Terms ss r.2.1
 b:B 64 r.2.2
structure WfS (ss:List Str) (s:Sm):Prop where
 ts:Terms ss s.1
 w:B 60 s.2.1
 pos:0 < s.2.2
 b:s.2.2 < 4
def WfM (ss:List Str) (b:List Stm):Option (Sm × Int)->Prop
 | none=>True
 | some m=>WfS ss m.1/\0 < m.2/\B 64 m.2/\(tts b).l=0
mutual
def wf (ss:List Str):Stm->Prop
 | .set x s=>x∈ss/\WfS ss s
 | .any x=>x∈ss
 | .note rs=>(∀ r∈rs,WfR ss r)/\1<=rs.length/\rs.length<=2
 | .choose a b=>wfs ss a/\wfs ss b
 | .ite r a b=>WfR ss r/\wfs ss a/\wfs ss b
 | .whl r rs m b=>WfR ss r/\(∀ r∈rs,WfR ss r)/\rs.length<=2/\WfM ss b m/\wfs ss b
def wfs (ss:List Str):List Stm->Prop
 | []=>True
 | s :: r=>wf ss s/\wfs ss r
end
theorem wfs_snoc {ss:List Str} {s:Stm}:∀ {b:List Stm},wfs ss b->wf ss s->wfs ss (b++[s])
 | [],_,h=>by simp only [List.nil_append,wfs];exact ⟨h,trivial⟩
 | x :: r,hb,h=>by
  simp only [wfs] at hb
  show wfs ss (x :: (r++[s]))
  simp only [wfs]
  exact ⟨hb.1,wfs_snoc hb.2 h⟩
theorem cast1 {n:Nat} (h:0 < n):(n:Int) - 1=((n - 1:Nat):Int):=by omega
structure Plan where
 ss:List Str
 rs:List Rw
 bl:List Stm
def plD (p:Plan):D:=.tup [nms p.ss,.tup (p.rs.map rwD),.tup (stDs p.bl)]
structure WfP (p:Plan):Prop where
 names:Names p.ss
 rs:∀ r∈p.rs,WfR p.ss r
 rl:p.rs.length<=2
 bl:wfs p.ss p.bl
 dp:∀ s∈p.bl,KA.dp s<=4
 cs:(tts p.bl).s<=24
 cb:(tts p.bl).b<=2
 cl:(tts p.bl).l<=2
 ca:(tts p.bl).a<=1
 cn:(tts p.bl).n<=2
abbrev Pce:=List Nat
def pcD (p:Pce):D:=.tup (p.map fun n:Nat=>D.int n)
def prD (x:Pce × Stm):D:=.tup [pcD x.1,stD x.2]
def blks:Stm->List (List Stm)
 | .set _ _=>[]
 | .any _=>[]
 | .note _=>[]
 | .choose a b=>[a,b]
 | .ite _ a b=>[a,b]
 | .whl _ _ _ b=>[b]
def blD (bs:List (List Stm)):D:=.tup (bs.map fun b=>.tup (stDs b))
def row (p:Pce) (i:Nat):List Stm->List (Pce × Stm)
 | []=>[]
 | s :: r=>(p++[i],s) :: row p (i+1) r
def rows (p:Pce) (n:Nat):List (List Stm)->List (Pce × Stm)
 | []=>[]
 | b :: r=>row (p++[n]) 0 b++rows p (n+1) r
theorem row_len (p:Pce):∀ (i:Nat) (b:List Stm),(row p i b).length=b.length
 | _,[]=>rfl
 | i,_ :: r=>by rw [row,List.length_cons,row_len p (i+1) r,List.length_cons]
theorem row_snoc (p:Pce) (s:Stm):∀ (i:Nat) (b:List Stm),row p i (b++[s])=row p i b++[(p++[i+b.length],s)]
 | i,[]=>rfl
 | i,x :: r=>by
  show _ :: row p (i+1) (r++[s])=_
  rw [row_snoc p s (i+1) r,List.length_cons]
  show _=_ :: _
  rw [show i+1+r.length=i+(r.length+1) by omega]
  rfl
theorem rows_snoc (p:Pce) (b:List Stm):∀ (n:Nat) (bs:List (List Stm)),rows p n (bs++[b])=rows p n bs++row (p++[n+bs.length]) 0 b
 | n,[]=>by simp [rows]
 | n,x :: r=>by
  show row (p++[n]) 0 x++rows p (n+1) (r++[b])=_
  rw [rows_snoc p b (n+1) r,List.length_cons,show n+1+r.length=n+(r.length+1) by omega,<- List.append_assoc]
  rfl
theorem rows_app (p:Pce) (cs:List (List Stm)):∀ (n:Nat) (bs:List (List Stm)),rows p n (bs++cs)=rows p n bs++rows p (n+bs.length) cs
 | n,[]=>by simp [rows]
 | n,x :: r=>by
  show row (p++[n]) 0 x++rows p (n+1) (r++cs)=_
  rw [rows_app p cs (n+1) r,List.length_cons,show n+1+r.length=n+(r.length+1) by omega,<- List.append_assoc]
  rfl
theorem rows_pre (p:Pce) {bs:List (List Stm)} {n:Nat} {b:List Stm} (h:bs[n]?=some b):rows p 0 (bs.take (n+1))=rows p 0 (bs.take n)++row (p++[n]) 0 b/\(rows p 0 (bs.take n)).length+b.length<=(rows p 0 bs).length:=by
 have hn:=(List.getElem?_eq_some_iff.mp h).1
 have e:bs.take (n+1)=bs.take n++[b]:=by
  rw [List.take_succ,h];rfl
 have e1:rows p 0 (bs.take (n+1))=rows p 0 (bs.take n)++row (p++[n]) 0 b:=by
  rw [e,rows_snoc,List.length_take,Nat.zero_add,Nat.min_eq_left (by omega)]
 refine ⟨e1,?_⟩
 have e2:rows p 0 bs=rows p 0 (bs.take (n+1))++rows p (0+(bs.take (n+1)).length) (bs.drop (n+1)):=by
  rw [<- rows_app,List.take_append_drop]
 rw [e2,e1,List.length_append,List.length_append,row_len]
 omega
mutual
def lay (p:Pce):Stm->List (Pce × Stm)
 | .set x s=>[(p,.set x s)]
 | .any x=>[(p,.any x)]
 | .note rs=>[(p,.note rs)]
 | .choose a b=>(p,.choose a b) :: (layB (p++[0]) 0 a++layB (p++[1]) 0 b)
 | .ite r a b=>(p,.ite r a b) :: (layB (p++[0]) 0 a++layB (p++[1]) 0 b)
 | .whl r rs m b=>(p,.whl r rs m b) :: layB (p++[0]) 0 b
def layB (p:Pce) (i:Nat):List Stm->List (Pce × Stm)
 | []=>[]
 | s :: r=>lay (p++[i]) s++layB p (i+1) r
end
def layP (x:Pce × Stm):List (Pce × Stm):=lay x.1 x.2
theorem layB_row (p:Pce):∀ (i:Nat) (b:List Stm),layB p i b=(row p i b).flatMap layP
 | i,[]=>by simp only [layB,row,List.flatMap_nil]
 | i,s :: r=>by
  simp only [layB,row,List.flatMap_cons,layB_row p (i+1) r]
  rfl
theorem lay_eq (p:Pce) (s:Stm):lay p s=(p,s) :: (rows p 0 (blks s)).flatMap layP:=by
 cases s<;>simp only [lay,blks,rows,List.flatMap_nil,List.flatMap_append,layB_row,List.append_nil,Nat.zero_add]
def bulk (xs:List (Pce × Stm)):Nat:=(xs.map fun x=>(tt x.2).s).sum
theorem bulk_app (a b:List (Pce × Stm)):bulk (a++b)=bulk a+bulk b:=by unfold bulk;rw [List.map_append,List.sum_append]
theorem bulk_rev (a:List (Pce × Stm)):bulk a.reverse=bulk a:=by
 unfold bulk;rw [List.map_reverse,List.sum_reverse]
theorem bulk_row (p:Pce):∀ (i:Nat) (b:List Stm),bulk (row p i b)=(tts b).s
 | i,[]=>rfl
 | i,s :: r=>by
  have ih:=bulk_row p (i+1) r
  show (tt s).s+bulk (row p (i+1) r)=_
  rw [ih];simp only [tts,Cnt.add]
theorem bulk_rows (p:Pce) (s:Stm):bulk (rows p 0 (blks s))+1=(tt s).s:=by
 cases s<;>simp only [blks,rows,bulk_app,bulk_row,tt,Cnt.add,List.append_nil]<;>rfl
mutual
theorem lay_len (p:Pce):∀ s:Stm,(lay p s).length=(tt s).s
 | .set x s=>rfl
 | .any x=>rfl
 | .note rs=>rfl
 | .choose a b=>by simp only [lay,List.length_cons,List.length_append,layB_len _ _ a,layB_len _ _ b,tt,Cnt.add]
 | .ite r a b=>by simp only [lay,List.length_cons,List.length_append,layB_len _ _ a,layB_len _ _ b,tt,Cnt.add]
 | .whl r rs m b=>by simp only [lay,List.length_cons,layB_len _ _ b,tt,Cnt.add]
theorem layB_len (p:Pce):∀ (i:Nat) (b:List Stm),(layB p i b).length=(tts b).s
 | i,[]=>rfl
 | i,s :: r=>by simp only [layB,List.length_append,lay_len _ s,layB_len p (i+1) r,tts,Cnt.add]
end
theorem sumS_pos (s:Stm):1<=(tt s).s:=by cases s<;>simp only [tt,Cnt.add]<;>omega
theorem len_bulk:∀ xs:List (Pce × Stm),xs.length<=bulk xs
 | []=>Nat.le_refl _
 | x :: r=>by
  have h1:=sumS_pos x.2
  have h2:=len_bulk r
  show r.length+1<=(tt x.2).s+bulk r
  omega
def Fits (n:Nat) (x:Pce × Stm):Prop:=x.1≠[]/\x.1.length+2 * (tt x.2).s<=2 * n+1
theorem fits_row {p:Pce} {n m:Nat}:∀ {i:Nat} {b:List Stm},p.length+1+2 * m<=2 * n+1->(tts b).s<=m->∀ x∈row p i b,Fits n x
 | _,[],_,_,x,hx=>by simp [row] at hx
 | i,s :: r,h1,h2,x,hx=>by
  simp only [tts,Cnt.add] at h2
  rcases List.mem_cons.mp hx with rfl | hx
  ·exact ⟨by simp,by rw [List.length_append];show _+1+2 * (tt s).s<=_;omega⟩
  ·exact fits_row (i:=i+1) (b:=r) h1 (by omega) x hx
theorem fits_rows {p:Pce} {n:Nat} {s:Stm} (h:Fits n (p,s)):∀ x∈rows p 0 (blks s),Fits n x:=by
 obtain ⟨_,h⟩:=h
 simp only at h
 intro x hx
 have one:∀ {k:Nat} {b:List Stm},(tts b).s+1<=(tt s).s->x∈row (p++[k]) 0 b->Fits n x:=fun {k b} hb hx =>
  fits_row (m:=(tts b).s) (by rw [List.length_append];show _+1+1+_<=_;omega) (Nat.le_refl _) x hx
 cases s with
 | set _ _=>simp [blks,rows] at hx
 | any _=>simp [blks,rows] at hx
 | note _=>simp [blks,rows] at hx
 | choose a b =>
  simp only [blks,rows,List.append_nil,List.mem_append] at hx
  rcases hx with hx | hx
  ·exact one (by simp only [tt,Cnt.add];omega) hx
  ·exact one (by simp only [tt,Cnt.add];omega) hx
 | ite _ a b =>
  simp only [blks,rows,List.append_nil,List.mem_append] at hx
  rcases hx with hx | hx
  ·exact one (by simp only [tt,Cnt.add];omega) hx
  ·exact one (by simp only [tt,Cnt.add];omega) hx
 | whl _ _ _ b =>
  simp only [blks,rows,List.append_nil] at hx
  exact one (by simp only [tt,Cnt.add];omega) hx
def wrap:D->D
 | .tup [i,s]=>.tup [.tup [i],s]
 | d=>d
theorem wrap_row:∀ (b:List Stm),((numbered (stDs b)).filter fun _=>true).map wrap=(row [] 0 b).map prD:=by
 have:∀ (i:Nat) (b:List Stm),(((stDs b).zipIdx i).map fun p=>D.tup [.int p.2,p.1]).map wrap=(row [] i b).map prD:=by
  intro i b
  induction b generalizing i with
  | nil=>rfl
  | cons s r ih =>
   simp only [stDs,List.zipIdx_cons,List.map_cons,row,ih (i+1)]
   rfl
 intro b
 rw [List.filter_eq_self.mpr (by simp)]
 exact this 0 b
inductive spLaid (ds:List D) (M:MH) (Q:DK):Prop | mk:∀ b,ds=[.tup (stDs b)]->(tts b).s<=100->(∀ q M',M q=none->M' q=some (.lst ((layB [] 0 b).map prD))->Ext M M'->Q (.ref q) M')->spLaid ds M Q
inductive spBlocksOf (ds:List D) (M:MH) (Q:DK):Prop | mk:∀ st,ds=[stD st]->Q (blD (blks st)) M->spBlocksOf ds M Q
inductive spWithin (ds:List D) (M:MH) (Q:DK):Prop | mk:∀ p st,ds=[pcD p,stD st]->(tt st).s<=100->p≠[]->p.length<=300->(∀ q M',M q=none->M' q=some (.lst ((rows p 0 (blks st)).map prD))->Ext M M'->Q (.ref q) M')->spWithin ds M Q
def fstD:D->D
 | .tup (a :: _)=>a
 | d=>d
def nmT (ts:List (Str × Int)):List Str:=ts.map (·.1)
def nmR (rs:List Rw):List Str:=rs.flatMap fun r=>nmT r.2.1
def nmM:Option (Sm × Int)->List Str
 | none=>[]
 | some m=>nmT m.1.1
def nmS:Stm->List Str
 | .set x s=>x :: nmT s.1
 | .any x=>[x]
 | .note rs=>nmR rs
 | .choose _ _=>[]
 | .ite r _ _=>nmT r.2.1
 | .whl r rs m _=>nmT r.2.1++nmR rs++nmM m
def RsOk (rs:List Rw):Prop:=rs.length<=5/\∀ r∈rs,r.2.1.length<=30
def MsOkQ:Option (Sm × Int)->Prop
 | none=>True
 | some m=>m.1.1.length<=30
def StOkQ:Stm->Prop
 | .set _ s=>s.1.length<=30
 | .note rs=>RsOk rs
 | .ite r _ _=>r.2.1.length<=30
 | .whl r rs m _=>r.2.1.length<=30/\RsOk rs/\MsOkQ m
 | _=>True
theorem nmR_len {n:Nat}:∀ {rs:List Rw},(∀ r∈rs,r.2.1.length<=n)->(nmR rs).length<=rs.length * n
 | [],_=>by simp [nmR]
 | r :: rs,h=>by
  have h1:=h r (List.mem_cons_self ..)
  have h2:=nmR_len (rs:=rs) fun x hx=>h x (List.mem_cons_of_mem _ hx)
  show (nmT r.2.1++nmR rs).length<=(rs.length+1) * n
  rw [List.length_append,Nat.add_mul]
  simp only [nmT,List.length_map] at *
  omega
theorem RsOk.len {rs:List Rw} (h:RsOk rs):(nmR rs).length<=150:=by
 have:=nmR_len h.2
 have:=h.1
 have:rs.length * 30<=5 * 30:=Nat.mul_le_mul_right _ h.1
 omega
def strsD (xs:List Str):MO:=.lst (xs.map D.str)
inductive spNmT (ds:List D) (M:MH) (Q:DK):Prop | mk:∀ ts,ds=[trm ts]->ts.length<=30->(∀ q M',M q=none->M' q=some (strsD (nmT ts))->Ext M M'->Q (.ref q) M')->spNmT ds M Q
inductive spNmR (ds:List D) (M:MH) (Q:DK):Prop | mk:∀ rs,ds=[.tup (rs.map rwD)]->RsOk rs->(∀ q M',M q=none->M' q=some (strsD (nmR rs))->Ext M M'->Q (.ref q) M')->spNmR ds M Q
inductive spNmL (ds:List D) (M:MH) (Q:DK):Prop | mk:∀ r rs m b,ds=[stD (.whl r rs m b)]->StOkQ (.whl r rs m b)->(∀ q M',M q=none->M' q=some (strsD (nmS (.whl r rs m b)))->Ext M M'->Q (.ref q) M')->spNmL ds M Q
inductive spNmS (ds:List D) (M:MH) (Q:DK):Prop | mk:∀ st,ds=[stD st]->StOkQ st->(∀ q M',M q=none->M' q=some (strsD (nmS st))->Ext M M'->Q (.ref q) M')->spNmS ds M Q
theorem fst_terms (ts:List (Str × Int)):((ts.map KA.tD).filter fun _=>true).map fstD=(nmT ts).map D.str:=by
 rw [List.filter_eq_self.mpr (by simp),nmT,List.map_map,List.map_map];rfl
theorem none_of {M M':MH} {p:Addr} (h:Ext M M') (e:M' p=none):M p=none:=by
 cases z:M p with
 | none=>rfl
 | some o=>rw [h _ _ z] at e;cases e
def wordS:Stm->Str
 | .set _ _=>Str.ofString "set"
 | .any _=>Str.ofString "any"
 | .note _=>Str.ofString "note"
 | .choose _ _=>Str.ofString "choose"
 | .ite _ _ _=>Str.ofString "if"
 | .whl _ _ _ _=>Str.ofString "while"
def wordD:D->Str
 | .tup (.str x :: _)=>x
 | _=>Str.ofString ""
theorem wordD_st (s:Stm):wordD (stD s)=wordS s:=by cases s<;>simp only [stD]<;>rfl
inductive spHow (ds:List D) (M:MH) (Q:DK):Prop | mk:∀ (a:Addr) (sts:List Stm) (ws:List Str),ds=[.ref a,.tup (ws.map D.str)]->M a=some (.lst (sts.map stD))->sts.length<=100->(∀ M',Ext M M'->Q (.int ((sts.filter fun s=>decide (wordS s∈ws)).length:Nat)) M')->spHow ds M Q
mutual
theorem cnt_l (p:Pce):∀ s:Stm,((lay p s).filter fun x=>decide (wordS x.2∈[Str.ofString "while"])).length=(tt s).l
 | .set x s=>rfl
 | .any x=>rfl
 | .note rs=>rfl
 | .choose a b=>by
  have h1:=cnts_l (p++[0]) 0 a
  have h2:=cnts_l (p++[1]) 0 b
  simp only [lay,tt,Cnt.add]
  rw [List.filter_cons_of_neg (fun h=>nomatch (show false=true from h)),List.filter_append,List.length_append,h1,h2];rfl
 | .ite r a b=>by
  have h1:=cnts_l (p++[0]) 0 a
  have h2:=cnts_l (p++[1]) 0 b
  simp only [lay,tt,Cnt.add]
  rw [List.filter_cons_of_neg (fun h=>nomatch (show false=true from h)),List.filter_append,List.length_append,h1,h2];rfl
 | .whl r rs m b=>by
  have h1:=cnts_l (p++[0]) 0 b
  simp only [lay,tt,Cnt.add]
  rw [List.filter_cons_of_pos (show true=true from rfl),List.length_cons,h1]
theorem cnts_l (p:Pce):∀ (i:Nat) (b:List Stm),((layB p i b).filter fun x=>decide (wordS x.2∈[Str.ofString "while"])).length=(tts b).l
 | i,[]=>rfl
 | i,s :: r=>by
  have h1:=cnt_l (p++[i]) s
  have h2:=cnts_l p (i+1) r
  simp only [layB,tts,Cnt.add]
  rw [List.filter_append,List.length_append,h1,h2]
end
mutual
theorem cnt_a (p:Pce):∀ s:Stm,((lay p s).filter fun x=>decide (wordS x.2∈[Str.ofString "any"])).length=(tt s).a
 | .set x s=>rfl
 | .any x=>rfl
 | .note rs=>rfl
 | .choose a b=>by
  have h1:=cnts_a (p++[0]) 0 a
  have h2:=cnts_a (p++[1]) 0 b
  simp only [lay,tt,Cnt.add]
  rw [List.filter_cons_of_neg (fun h=>nomatch (show false=true from h)),List.filter_append,List.length_append,h1,h2];rfl
 | .ite r a b=>by
  have h1:=cnts_a (p++[0]) 0 a
  have h2:=cnts_a (p++[1]) 0 b
  simp only [lay,tt,Cnt.add]
  rw [List.filter_cons_of_neg (fun h=>nomatch (show false=true from h)),List.filter_append,List.length_append,h1,h2];rfl
 | .whl r rs m b=>by
  have h1:=cnts_a (p++[0]) 0 b
  simp only [lay,tt,Cnt.add]
  rw [List.filter_cons_of_neg (fun h=>nomatch (show false=true from h)),h1];rfl
theorem cnts_a (p:Pce):∀ (i:Nat) (b:List Stm),((layB p i b).filter fun x=>decide (wordS x.2∈[Str.ofString "any"])).length=(tts b).a
 | i,[]=>rfl
 | i,s :: r=>by
  have h1:=cnt_a (p++[i]) s
  have h2:=cnts_a p (i+1) r
  simp only [layB,tts,Cnt.add]
  rw [List.filter_append,List.length_append,h1,h2]
end
mutual
theorem cnt_b (p:Pce):∀ s:Stm,((lay p s).filter fun x=>decide (wordS x.2∈[Str.ofString "choose",Str.ofString "if"])).length=(tt s).b
 | .set x s=>rfl
 | .any x=>rfl
 | .note rs=>rfl
 | .choose a b=>by
  have h1:=cnts_b (p++[0]) 0 a
  have h2:=cnts_b (p++[1]) 0 b
  simp only [lay,tt,Cnt.add]
  rw [List.filter_cons_of_pos (show true=true from rfl),List.length_cons,List.filter_append,List.length_append,h1,h2]
 | .ite r a b=>by
  have h1:=cnts_b (p++[0]) 0 a
  have h2:=cnts_b (p++[1]) 0 b
  simp only [lay,tt,Cnt.add]
  rw [List.filter_cons_of_pos (show true=true from rfl),List.length_cons,List.filter_append,List.length_append,h1,h2]
 | .whl r rs m b=>by
  have h1:=cnts_b (p++[0]) 0 b
  simp only [lay,tt,Cnt.add]
  rw [List.filter_cons_of_neg (fun h=>nomatch (show false=true from h)),h1];rfl
theorem cnts_b (p:Pce):∀ (i:Nat) (b:List Stm),((layB p i b).filter fun x=>decide (wordS x.2∈[Str.ofString "choose",Str.ofString "if"])).length=(tts b).b
 | i,[]=>rfl
 | i,s :: r=>by
  have h1:=cnt_b (p++[i]) s
  have h2:=cnts_b p (i+1) r
  simp only [layB,tts,Cnt.add]
  rw [List.filter_append,List.length_append,h1,h2]
end
inductive spLess (ds:List D) (M:MH) (Q:DK):Prop | mk:∀ a b:Int,ds=[.int a,.int b]->a<=b->Q .non M->spLess ds M Q
inductive spAmong (ds:List D) (M:MH) (Q:DK):Prop | mk:∀ (ss xs:List Str) (q:Addr),ds=[nms ss,.ref q]->M q=some (strsD xs)->xs.length<=500->(∀ x∈xs,x∈ss)->Q .non M->spAmong ds M Q
def deepD:D->D
 | .tup (.tup p :: _)=>.int (((p.length:Int)+1).fdiv 2)
 | d=>d
def deep (x:Pce × Stm):Int:=((x.1.length:Int)+1).fdiv 2
theorem deepD_pr (x:Pce × Stm):deepD (prD x)=.int (deep x):=by
 unfold prD pcD deepD deep;simp
inductive spDeep (ds:List D) (M:MH) (Q:DK):Prop | mk:∀ (a:Addr) (xs:List (Pce × Stm)),ds=[.ref a]->M a=some (.lst (xs.map prD))->xs.length<=100->(∀ x∈xs,x.1.length<=300)->(∀ r M',((xs=[]/\r=0)\/((∃ x∈xs,r=deep x)/\∀ x∈xs,deep x<=r))->Ext M M'->Q (.int r) M')->spDeep ds M Q
def noteN:Stm->Nat
 | .note rs=>rs.length
 | _=>0
def isNt:Stm->Bool
 | .note _=>true
 | _=>false
def ntD:D->Bool
 | .tup (.str w :: _)=>decide (w=Str.ofString "note")
 | _=>false
def lenD:D->D
 | .tup [_,.tup rs]=>.int (rs.length:Nat)
 | d=>d
theorem ntD_st (s:Stm):ntD (stD s)=isNt s:=by cases s<;>simp only [stD,ntD,isNt]<;>rfl
theorem lenD_st {s:Stm} (h:isNt s=true):lenD (stD s)=.int (noteN s:Nat):=by
 cases s with
 | note rs=>simp only [stD,lenD,noteN,List.length_map]
 | _=>cases h
def noted (sts:List Stm):List Int:=(sts.filter isNt).map fun s=>((noteN s:Nat):Int)
inductive spNoted (ds:List D) (M:MH) (Q:DK):Prop | mk:∀ (a:Addr) (sts:List Stm),ds=[.ref a]->M a=some (.lst (sts.map stD))->sts.length<=100->(∀ s∈sts,noteN s<=100)->(∀ M',Ext M M'->Q (.int (noted sts).sum) M')->spNoted ds M Q
def sndD:D->D
 | .tup [_,b]=>b
 | d=>d
theorem snd_map (xs:List (Pce × Stm)):((xs.map prD).filter fun _=>true).map sndD=(xs.map (·.2)).map stD:=by
 rw [List.filter_eq_self.mpr (by simp),List.map_map,List.map_map];rfl
def BearOk:Stm->Prop
 | .whl _ _ (some _) b=>(tts b).l=0
 | _=>True
inductive spBear (ds:List D) (M:MH) (Q:DK):Prop | mk:∀ (p:D) (st:Stm),ds=[p,stD st]->BearOk st->(tt st).s<=100->(∀ M',Ext M M'->Q .non M')->spBear ds M Q
structure Small (ss:List Str) (b:List Stm):Prop where
 names:ss.length<=3
 cs:(tts b).s<=24
 deep:∀ x∈layB [] 0 b,KA.deep x<=4
 long:∀ x∈layB [] 0 b,x.1.length<=300
 cb:(tts b).b<=2
 cl:(tts b).l<=2
 ca:(tts b).a<=1
 note:∀ s∈(layB [] 0 b).map (·.2),noteN s<=100
 cn:(noted ((layB [] 0 b).map (·.2))).sum<=2
inductive spSmall (ds:List D) (M:MH) (Q:DK):Prop | mk:∀ (ss:List Str) (a:Addr) (b:List Stm),ds=[nms ss,.ref a]->M a=some (.lst ((layB [] 0 b).map prD))->Small ss b->(∀ M',Ext M M'->Q .non M')->spSmall ds M Q
mutual
theorem lay_wf {ss:List Str} (p:Pce):∀ s:Stm,wf ss s->∀ x∈lay p s,wf ss x.2
 | .set x s,h,y,hy=>by simp only [lay,List.mem_singleton] at hy;subst hy;exact h
 | .any x,h,y,hy=>by simp only [lay,List.mem_singleton] at hy;subst hy;exact h
 | .note rs,h,y,hy=>by simp only [lay,List.mem_singleton] at hy;subst hy;exact h
 | .choose a b,h,y,hy=>by
  have h':=h
  simp only [wf] at h'
  simp only [lay,List.mem_cons,List.mem_append] at hy
  rcases hy with rfl | hy | hy
  ·exact h
  ·exact layB_wf _ _ a h'.1 y hy
  ·exact layB_wf _ _ b h'.2 y hy
 | .ite r a b,h,y,hy=>by
  have h':=h
  simp only [wf] at h'
  simp only [lay,List.mem_cons,List.mem_append] at hy
  rcases hy with rfl | hy | hy
  ·exact h
  ·exact layB_wf _ _ a h'.2.1 y hy
  ·exact layB_wf _ _ b h'.2.2 y hy
 | .whl r rs m b,h,y,hy=>by
  have h':=h
  simp only [wf] at h'
  simp only [lay,List.mem_cons] at hy
  rcases hy with rfl | hy
  ·exact h
  ·exact layB_wf _ _ b h'.2.2.2.2 y hy
theorem layB_wf {ss:List Str} (p:Pce):∀ (i:Nat) (b:List Stm),wfs ss b->∀ x∈layB p i b,wf ss x.2
 | i,[],h,y,hy=>by simp only [layB] at hy;cases hy
 | i,s :: r,h,y,hy=>by
  simp only [wfs] at h
  simp only [layB,List.mem_append] at hy
  rcases hy with hy | hy
  ·exact lay_wf _ s h.1 y hy
  ·exact layB_wf p (i+1) r h.2 y hy
end
mutual
theorem lay_dp (p:Pce):∀ s:Stm,∀ x∈lay p s,x.1.length+2<=p.length+2 * dp s
 | .set x s,y,hy=>by simp only [lay,List.mem_singleton] at hy;subst hy;simp only [dp];omega
 | .any x,y,hy=>by simp only [lay,List.mem_singleton] at hy;subst hy;simp only [dp];omega
 | .note rs,y,hy=>by simp only [lay,List.mem_singleton] at hy;subst hy;simp only [dp];omega
 | .choose a b,y,hy=>by
  simp only [lay,List.mem_cons,List.mem_append] at hy
  simp only [dp]
  rcases hy with rfl | hy | hy
  ·show p.length+2<=_;omega
  ·have:=layB_dp _ _ a y hy
   rw [List.length_append] at this
   have e:([0] : List Nat).length=1:=rfl
   omega
  ·have:=layB_dp _ _ b y hy
   rw [List.length_append] at this
   have e:([1] : List Nat).length=1:=rfl
   omega
 | .ite r a b,y,hy=>by
  simp only [lay,List.mem_cons,List.mem_append] at hy
  simp only [dp]
  rcases hy with rfl | hy | hy
  ·show p.length+2<=_;omega
  ·have:=layB_dp _ _ a y hy
   rw [List.length_append] at this
   have e:([0] : List Nat).length=1:=rfl
   omega
  ·have:=layB_dp _ _ b y hy
   rw [List.length_append] at this
   have e:([1] : List Nat).length=1:=rfl
   omega
 | .whl r rs m b,y,hy=>by
  simp only [lay,List.mem_cons] at hy
  simp only [dp]
  rcases hy with rfl | hy
  ·show p.length+2<=_;omega
  ·have:=layB_dp _ _ b y hy
   rw [List.length_append] at this
   have e:([0] : List Nat).length=1:=rfl
   omega
theorem layB_dp (p:Pce):∀ (i:Nat) (b:List Stm),∀ x∈layB p i b,x.1.length+1<=p.length+2 * dps b
 | i,[],y,hy=>by simp only [layB] at hy;cases hy
 | i,s :: r,y,hy=>by
  simp only [layB,List.mem_append] at hy
  simp only [dps]
  rcases hy with hy | hy
  ·have:=lay_dp _ s y hy
   rw [List.length_append] at this
   have e:([i] : List Nat).length=1:=rfl
   omega
  ·have:=layB_dp p (i+1) r y hy
   omega
end
theorem noted_app (a b:List Stm):noted (a++b)=noted a++noted b:=by unfold noted;rw [List.filter_append,List.map_append]
theorem noted_no {s:Stm} (h:isNt s=false) (r:List Stm):noted (s :: r)=noted r:=by unfold noted;rw [List.filter_cons_of_neg (by rw [h];decide)]
mutual
theorem lay_noted (p:Pce):∀ s:Stm,(noted ((lay p s).map (·.2))).sum=((tt s).n:Int)
 | .set x s=>by simp only [lay,List.map_cons,List.map_nil];rw [noted_no rfl];rfl
 | .any x=>by simp only [lay,List.map_cons,List.map_nil];rw [noted_no rfl];rfl
 | .note rs=>by
  simp only [lay,List.map_cons,List.map_nil,tt]
  show (List.map (fun s=>((noteN s:Nat):Int)) (List.filter isNt [Stm.note rs])).sum=_
  rw [List.filter_cons_of_pos rfl]
  simp [noteN]
 | .choose a b=>by
  have h1:=layB_noted (p++[0]) 0 a
  have h2:=layB_noted (p++[1]) 0 b
  simp only [lay,List.map_cons,List.map_append,tt,Cnt.add]
  rw [noted_no rfl,noted_app,List.sum_append,h1,h2];omega
 | .ite r a b=>by
  have h1:=layB_noted (p++[0]) 0 a
  have h2:=layB_noted (p++[1]) 0 b
  simp only [lay,List.map_cons,List.map_append,tt,Cnt.add]
  rw [noted_no rfl,noted_app,List.sum_append,h1,h2];omega
 | .whl r rs m b=>by
  have h1:=layB_noted (p++[0]) 0 b
  simp only [lay,List.map_cons,tt,Cnt.add]
  rw [noted_no rfl,h1];omega
theorem layB_noted (p:Pce):∀ (i:Nat) (b:List Stm),(noted ((layB p i b).map (·.2))).sum=((tts b).n:Int)
 | i,[]=>rfl
 | i,s :: r=>by
  have h1:=lay_noted (p++[i]) s
  have h2:=layB_noted p (i+1) r
  simp only [layB,List.map_append,tts,Cnt.add]
  rw [noted_app,List.sum_append,h1,h2];omega
end
theorem nmT_mem {ss:List Str} {ts:List (Str × Int)} (h:Terms ss ts):∀ x∈nmT ts,x∈ss:=fun x hx=>h.sub.subset hx
theorem nmR_mem {ss:List Str} {rs:List Rw} (h:∀ r∈rs,WfR ss r):∀ x∈nmR rs,x∈ss:=fun x hx=>by
 unfold nmR at hx
 obtain ⟨r,hr,hx⟩:=List.mem_flatMap.mp hx
 exact nmT_mem (h r hr).ts x hx
theorem nmS_mem {ss:List Str}:∀ {s:Stm},wf ss s->∀ x∈nmS s,x∈ss
 | .set y s,h,x,hx=>by
  simp only [wf] at h
  simp only [nmS,List.mem_cons] at hx
  rcases hx with rfl | hx
  ·exact h.1
  ·exact nmT_mem h.2.ts x hx
 | .any y,h,x,hx=>by
  simp only [wf] at h
  simp only [nmS,List.mem_singleton] at hx
  subst hx;exact h
 | .note rs,h,x,hx=>by
  simp only [wf] at h
  exact nmR_mem h.1 x hx
 | .choose a b,h,x,hx=>by simp only [nmS] at hx;cases hx
 | .ite r a b,h,x,hx=>by
  simp only [wf] at h
  exact nmT_mem h.1.ts x hx
 | .whl r rs m b,h,x,hx=>by
  simp only [wf] at h
  simp only [nmS,List.mem_append] at hx
  rcases hx with (hx | hx) | hx
  ·exact nmT_mem h.1.ts x hx
  ·exact nmR_mem h.2.1 x hx
  ·cases m with
   | none=>simp only [nmM] at hx;cases hx
   | some m=>exact nmT_mem h.2.2.2.1.1.ts x hx
theorem rsOk {ss:List Str} (hs:ss.length<=3) {rs:List Rw} (h:∀ r∈rs,WfR ss r) (hl:rs.length<=2):RsOk rs:=⟨by omega,fun r hr=>by have:=(h r hr).ts.len;omega⟩
theorem stOk {ss:List Str} (hs:ss.length<=3):∀ {s:Stm},wf ss s->StOkQ s
 | .set y s,h=>by
  simp only [wf] at h
  have:=h.2.ts.len
  simp only [StOkQ];omega
 | .any y,h=>by simp only [StOkQ]
 | .note rs,h=>by
  simp only [wf] at h
  exact rsOk hs h.1 h.2.2
 | .choose a b,h=>by simp only [StOkQ]
 | .ite r a b,h=>by
  simp only [wf] at h
  have:=h.1.ts.len
  simp only [StOkQ];omega
 | .whl r rs m b,h=>by
  simp only [wf] at h
  have h1:=h.1.ts.len
  refine ⟨by omega,rsOk hs h.2.1 h.2.2.1,?_⟩
  cases m with
  | none=>trivial
  | some m=>have:=h.2.2.2.1.1.ts.len;show _<=30;omega
theorem nmS_len {s:Stm} (h:StOkQ s):(nmS s).length<=500:=by
 cases s with
 | set y s=>simp only [StOkQ] at h;simp only [nmS,List.length_cons,nmT,List.length_map];omega
 | any y=>simp [nmS]
 | note rs=>have:=RsOk.len h;simp only [nmS];omega
 | choose a b=>simp [nmS]
 | ite r a b=>simp only [StOkQ] at h;simp only [nmS,nmT,List.length_map];omega
 | whl r rs m b =>
  obtain ⟨h1,h2,h3⟩:=h
  have:=h2.len
  simp only [nmS,List.length_append,nmT,List.length_map]
  cases m with
  | none=>simp only [nmM,List.length_nil];omega
  | some m=>have h3:m.1.1.length<=30:=h3;simp only [nmM,nmT,List.length_map];omega
theorem bearOk {ss:List Str}:∀ {s:Stm},wf ss s->BearOk s
 | .set _ _,_=>trivial
 | .any _,_=>trivial
 | .note _,_=>trivial
 | .choose _ _,_=>trivial
 | .ite _ _ _,_=>trivial
 | .whl r rs none b,h=>trivial
 | .whl r rs (some m) b,h=>by
  simp only [wf] at h
  exact h.2.2.2.1.2.2.2
theorem noteN_le {ss:List Str}:∀ {s:Stm},wf ss s->noteN s<=100
 | .set _ _,_=>by simp only [noteN];omega
 | .any _,_=>by simp only [noteN];omega
 | .note rs,h=>by simp only [wf] at h;simp only [noteN];omega
 | .choose _ _,_=>by simp only [noteN];omega
 | .ite _ _ _,_=>by simp only [noteN];omega
 | .whl _ _ _ _,_=>by simp only [noteN];omega
mutual
theorem lay_tt (p:Pce):∀ s:Stm,∀ x∈lay p s,(tt x.2).s<=(tt s).s
 | .set x s,y,hy=>by simp only [lay,List.mem_singleton] at hy;subst hy;exact Nat.le_refl _
 | .any x,y,hy=>by simp only [lay,List.mem_singleton] at hy;subst hy;exact Nat.le_refl _
 | .note rs,y,hy=>by simp only [lay,List.mem_singleton] at hy;subst hy;exact Nat.le_refl _
 | .choose a b,y,hy=>by
  simp only [lay,List.mem_cons,List.mem_append] at hy
  rcases hy with rfl | hy | hy
  ·exact Nat.le_refl _
  ·have:=layB_tt _ _ a y hy;simp only [tt,Cnt.add];omega
  ·have:=layB_tt _ _ b y hy;simp only [tt,Cnt.add];omega
 | .ite r a b,y,hy=>by
  simp only [lay,List.mem_cons,List.mem_append] at hy
  rcases hy with rfl | hy | hy
  ·exact Nat.le_refl _
  ·have:=layB_tt _ _ a y hy;simp only [tt,Cnt.add];omega
  ·have:=layB_tt _ _ b y hy;simp only [tt,Cnt.add];omega
 | .whl r rs m b,y,hy=>by
  simp only [lay,List.mem_cons] at hy
  rcases hy with rfl | hy
  ·exact Nat.le_refl _
  ·have:=layB_tt _ _ b y hy;simp only [tt,Cnt.add];omega
theorem layB_tt (p:Pce):∀ (i:Nat) (b:List Stm),∀ x∈layB p i b,(tt x.2).s<=(tts b).s
 | i,[],y,hy=>by simp only [layB] at hy;cases hy
 | i,s :: r,y,hy=>by
  simp only [layB,List.mem_append] at hy
  simp only [tts,Cnt.add]
  rcases hy with hy | hy
  ·have:=lay_tt _ s y hy;omega
  ·have:=layB_tt p (i+1) r y hy;omega
end
theorem WfP.small {p:Plan} (h:WfP p):Small p.ss p.bl:=by
 have hd:dps p.bl<=4:=dps_le h.dp
 have hl:∀ x∈layB [] 0 p.bl,x.1.length<=7:=fun x hx=>by
  have:=layB_dp [] 0 p.bl x hx
  simp only [List.length_nil] at this
  omega
 refine ⟨h.names.le,h.cs,fun x hx=>?_,fun x hx=>by have:=hl x hx;omega,h.cb,h.cl,h.ca,fun s hs=>?_,?_⟩
 ·have:=hl x hx
  unfold KA.deep
  rw [Int.fdiv_eq_ediv_of_nonneg _ (by decide)]
  omega
 ·obtain ⟨x,hx,rfl⟩:=List.mem_map.mp hs
  exact noteN_le (layB_wf _ _ _ h.bl x hx)
 ·rw [layB_noted];have:=h.cn;omega
inductive spMustPlan (ds:List D) (M:MH) (Q:DK):Prop | mk:∀ p,ds=[plD p]->WfP p->(∀ M',Ext M M'->Q .non M')->spMustPlan ds M Q
end KA
namespace D3
open PySem PySem.Spec PyProof.Rows L2
section
variable {X:Cx} {tg:Expr}
end
section
variable {X:Cx} {G:Ga} {M:MH} {a b c:Expr} {tg:Expr} {body:List Stmt} {pos:Pos} {E:EndsD}
end
section
variable {prog:Program} {w:World} {A:Around} {E:Value->Shared->Prop} {s:Shared}
end
section
variable {X:Cx} {G:Ga} {M:MH} {e:Expr} {pos:Pos} {Q:DK}
theorem isl_ints {H:Hp}:∀ {ns:List Int} {vs:List V},IsL H (ns.map D.int) vs->vs=ns.map V.int
 | [],vs,i=>by rw [List.map_nil,isl_nil] at i;subst i;rfl
 | n :: ns,vs,i=>by
  rw [List.map_cons,isl_cons] at i
  obtain ⟨x,r,rfl,i1,i2⟩:=i
  rw [is_int] at i1;subst i1
  rw [isl_ints i2];rfl
end
end D3
namespace KA
open PySem PySem.Spec PyProof.Rows L2 D3 K01
def down:Stm->Pce->Option Stm
 | s,[]=>some s
 | _,[_]=>none
 | s,k :: j :: r=>match (blks s)[k]? with
  | none=>none
  | some b=>match b[j]? with
   | none=>none
   | some t=>down t r
theorem down_step {s t:Stm} {k j:Nat} {b:List Stm} {r:Pce} (h1:(blks s)[k]?=some b) (h2:b[j]?=some t):down s (k :: j :: r)=down t r:=by
 rw [down,h1];simp only;rw [h2]
theorem down_inv {s y:Stm} {k j:Nat} {r:Pce} (h:down s (k :: j :: r)=some y):∃ b t,(blks s)[k]?=some b/\b[j]?=some t/\down t r=some y:=by
 rw [down] at h
 cases h1:(blks s)[k]? with
 | none=>rw [h1] at h;cases h
 | some b =>
  rw [h1] at h
  simp only at h
  cases h2:b[j]? with
  | none=>rw [h2] at h;cases h
  | some t=>rw [h2] at h;exact ⟨b,t,rfl,h2,h⟩
mutual
theorem lay_down (p:Pce):∀ s:Stm,∀ x∈lay p s,∃ r,x.1=p++r/\down s r=some x.2
 | .set x s,y,hy=>by simp only [lay,List.mem_singleton] at hy;subst hy;exact ⟨[],by simp,by simp only [down]⟩
 | .any x,y,hy=>by simp only [lay,List.mem_singleton] at hy;subst hy;exact ⟨[],by simp,by simp only [down]⟩
 | .note rs,y,hy=>by simp only [lay,List.mem_singleton] at hy;subst hy;exact ⟨[],by simp,by simp only [down]⟩
 | .choose a b,y,hy=>by
  simp only [lay,List.mem_cons,List.mem_append] at hy
  rcases hy with rfl | hy | hy
  ·exact ⟨[],by simp,by simp only [down]⟩
  ·obtain ⟨k,r,t,e,h1,h2⟩:=layB_down (p++[0]) 0 a y hy
   exact ⟨0 :: k :: r,by rw [e,Nat.zero_add,List.append_assoc];rfl,by rw [down_step (b:=a) rfl h1];exact h2⟩
  ·obtain ⟨k,r,t,e,h1,h2⟩:=layB_down (p++[1]) 0 b y hy
   exact ⟨1 :: k :: r,by rw [e,Nat.zero_add,List.append_assoc];rfl,by rw [down_step (b:=b) rfl h1];exact h2⟩
 | .ite _ a b,y,hy=>by
  simp only [lay,List.mem_cons,List.mem_append] at hy
  rcases hy with rfl | hy | hy
  ·exact ⟨[],by simp,by simp only [down]⟩
  ·obtain ⟨k,r,t,e,h1,h2⟩:=layB_down (p++[0]) 0 a y hy
   exact ⟨0 :: k :: r,by rw [e,Nat.zero_add,List.append_assoc];rfl,by rw [down_step (b:=a) rfl h1];exact h2⟩
  ·obtain ⟨k,r,t,e,h1,h2⟩:=layB_down (p++[1]) 0 b y hy
   exact ⟨1 :: k :: r,by rw [e,Nat.zero_add,List.append_assoc];rfl,by rw [down_step (b:=b) rfl h1];exact h2⟩
 | .whl _ _ _ b,y,hy=>by
  simp only [lay,List.mem_cons] at hy
  rcases hy with rfl | hy
  ·exact ⟨[],by simp,by simp only [down]⟩
  ·obtain ⟨k,r,t,e,h1,h2⟩:=layB_down (p++[0]) 0 b y hy
   exact ⟨0 :: k :: r,by rw [e,Nat.zero_add,List.append_assoc];rfl,by rw [down_step (b:=b) rfl h1];exact h2⟩
theorem layB_down (p:Pce):∀ (i:Nat) (b:List Stm),∀ x∈layB p i b,∃ k r t,x.1=p++(i+k) :: r/\b[k]?=some t/\down t r=some x.2
 | i,[],y,hy=>by simp only [layB] at hy;cases hy
 | i,s :: r,y,hy=>by
  simp only [layB,List.mem_append] at hy
  rcases hy with hy | hy
  ·obtain ⟨r',e,h⟩:=lay_down (p++[i]) s y hy
   exact ⟨0,r',s,by rw [e,List.append_assoc];rfl,rfl,h⟩
  ·obtain ⟨k,r',t,e,h1,h2⟩:=layB_down p (i+1) r y hy
   exact ⟨k+1,r',t,by rw [e,show i+1+k=i+(k+1) by omega],h1,h2⟩
end
theorem dps_mem {s:Stm}:∀ {b:List Stm},s∈b->dp s<=dps b
 | [],h=>by cases h
 | x :: r,h=>by
  simp only [dps]
  rcases List.mem_cons.mp h with rfl | h
  ·omega
  ·have:=dps_mem h;omega
theorem tts_mem {s:Stm}:∀ {b:List Stm},s∈b->(tt s).s<=(tts b).s
 | [],h=>by cases h
 | x :: r,h=>by
  simp only [tts,Cnt.add]
  rcases List.mem_cons.mp h with rfl | h
  ·omega
  ·have:=tts_mem h;omega
end KA
namespace D3
open PySem PySem.Spec PyProof.Rows L2
section
variable {X:Cx} {G:Ga} {M:MH} {Q:DK}
end
section
variable {P:Program} {w:World} {A:Around} {E:Value->Shared->Prop} {s:Shared}
end
theorem entryDul:entryFor table "dict.update.loop" = some Builtin.«dict.update.loop»:=by kernel_rfl
theorem plainDul:plainId "dict.update.loop" = true:=by decide +kernel
theorem dict_keep {P:Program} {w:World} {h h':Heap} {d:Addr} {kvs:List (Key × Value)} (hd:h.DictOf (mixKind P w) d kvs) (k:∀ o,h.get? d=some o->h'.get? d=some o):h'.DictOf (mixKind P w) d kvs:=by
 obtain ⟨o,es,ep,h1,h2⟩:=hd
 exact ⟨o,es,ep,k o h1,h2⟩
theorem stored_new {kvs:List (Key × Value)} {k:Key} {v:Value} (h:∀ x∈kvs,x.1≠k):stored kvs k v=kvs++[(k,v)]:=by
 unfold stored
 rw [if_neg]
 intro z
 obtain ⟨x,h1,h2⟩:=List.any_eq_true.mp z
 exact h x h1 (of_decide_eq_true h2)
def PairAt (P:Program) (w:World) (h:Heap) (v:Value) (kv:Key × Value):Prop:=∃ a o k0 n,v=.ref a/\h.get? a=some o/\o.cls=.type "tuple" /\ o.data=.seq #[k0,kv.2] n/\(mixKind P w).is kv.1 k0=true
section
variable {P:Program} {w:World} {B:Around} {R:Result->Shared->Prop} {I d:Addr} {fp wr:List Addr} {n:Nat} {Pi:Nat->Value->Prop} {St:Nat->Heap->Prop} {hp:Heap}
theorem pairs_loop (W:PySem.Walks P w B.in1 I fp wr n Pi St) (kv:Nat->Key × Value) (hv:∀ i v,Pi i v->PairAt P w hp v (kv i)) (hd:d∉fp) (hb:hp.get? d=none) (hw:∀ x∈wr,hp.get? x=none)
  (hnd:∀ i j,i < j->j < n->(kv i).1≠(kv j).1) (hn:n<=sizeLine) :
  ∀ (k j:Nat) (st:Shared) (tok:Tok) (i:Int),n - j=k->j<=n->St j st.heap->(∀ b o,hp.get? b=some o->st.heap.get? b=some o)->st.heap.DictOf (mixKind P w) d ((List.range j).map kv) ->
  (∀ g tk,g.DictOf (mixKind P w) d ((List.range n).map kv)->(∀ b o,hp.get? b=some o->g.get? b=some o)->R (.ok (.ret .none)) { st with heap:=g,toks:=tk }) ->
  codeAny (model P w) B (.builtin "dict.update.loop" ⟨[.ref d,.ref I,.int i tok,.none],[]⟩) R st:=by
 have off:d∉wr:=fun h=>hd (W.sub _ h)
 intro k
 induction k with
 | zero =>
  intro j st tok i hk hj hst hkp hdd q
  have e:j=n:=by omega
  subst e
  refine codeAny_builtin entryDul ?_
  rw [Around.under_plainId plainDul _]
  show wpAny _ B.in1 (pyNext (.ref I) >>= _) _ _ st
  refine wpAny_bind (W.done st _ _ hst fun g tk hg=>?_)
  show wpAny _ B.in1 (pure _ >>= _) _ _ _
  refine wpAny_bind (wpAny_pure (wpAny_pure ?_))
  refine q g tk (dict_keep hdd fun o e=>hg d o off e) fun b o e=>hg b o (fun z=>?_) (hkp b o e)
  rw [hw b z] at e;cases e
 | succ k ih =>
  intro j st tok i hk hj hst hkp hdd q
  have lt:j < n:=by omega
  refine codeAny_builtin entryDul ?_
  rw [Around.under_plainId plainDul _]
  show wpAny _ B.in1 (pyNext (.ref I) >>= _) _ _ st
  refine wpAny_bind (W.item j st _ _ lt hst fun v g tk hP hst' hg=>?_)
  obtain ⟨a,o,k0,nn,rfl,ea,ec,ed,hk0⟩:=hv j v hP
  have ea':g.get? a=some o:=hg a o (fun z=>by rw [hw a z] at ea;cases ea) (hkp a o ea)
  show wpAny _ B.in1 (holding [.ref a] (tryCatch (Builtin.Dict.pairItems (.ref a)) _ >>= _) >>= _) _ _ _
  refine wpAny_bind (wpAny_holding (wpAny_bind (wpAny_tryCatch ?_)))
  show wpAny _ B.in1 (typeOf (.ref a) >>= _) _ _ _
  refine wpAny_bind (wpAny_typeOf_ref ea' ?_)
  rw [ec]
  show wpAny _ B.in1 (seqItems? (.ref a) >>= _) _ _ _
  refine wpAny_bind (wpAny_seqItems ea' ed (wpAny_pure ?_))
  show wpAny _ B.in1 (holding [k0,(kv j).2] (dictSet d k0 (kv j).2)) _ _ _
  have hdd':=dict_keep hdd fun o e=>hg d o off e
  refine wpAny_holding (wpAny_dictSet_pairs hk0 hdd' (fun g2 dd2 hs=>?_) (by simp;omega))
  have es:stored ((List.range j).map kv) (kv j).1 (kv j).2=(List.range (j+1)).map kv:=by
   rw [stored_new,List.range_succ,List.map_append]
   ·rfl
   ·intro x hx
    obtain ⟨i',h1,rfl⟩:=List.mem_map.mp hx
    exact hnd i' j (List.mem_range.mp h1) lt
  rw [es] at dd2
  refine wpAny_pure ⟨plainId_quiet plainDul _,ih (j+1) _ _ _ (by omega) lt (W.frame _ _ _ hst' fun b hb' o y=>?_) (fun b o e=>?_) dd2 fun g3 tk3 dd3 k3=>q g3 tk3 dd3 k3⟩
  ·exact (hs.2 b (fun z=>hd (by rw [<- z];exact hb'))).trans y
  ·exact (hs.2 b (fun z=>by rw [z,hb] at e;cases e)).trans (hg b o (fun z=>by rw [hw b z] at e;cases e) (hkp b o e))
end
section
variable {P:Program} {w:World} {A:Around} {E:Value->Shared->Prop} {s:Shared}
end
theorem kv_of_ix:∀ {ys:List (Key × V)} {kv:Nat->Key × Value},(∀ i y,ys[i]?=some y->y.1=(kv i).1/\RelV y.2 (kv i).2)->KV ys ((List.range ys.length).map kv)
 | [],kv,_=>.nil
 | y :: ys,kv,h=>by
  rw [List.length_cons,List.range_succ_eq_map,List.map_cons,List.map_map]
  exact .cons (h 0 y rfl) (kv_of_ix (kv:=kv ∘ Nat.succ) fun i z e=>h (i+1) z (by simpa using e))
theorem nodup_inr:∀ {l:List Str},l.Nodup->(l.map (Sum.inr:Str->Key)).Nodup
 | [],_=>List.nodup_nil
 | a :: l,h=>by
  rw [List.nodup_cons] at h
  rw [List.map_cons,List.nodup_cons]
  exact ⟨fun z=>by
   obtain ⟨b,hb,e⟩:=List.mem_map.mp z
   cases e
   exact h.1 hb,nodup_inr h.2⟩
section
variable {X:Cx} {G:Ga} {M:MH} {e:Expr} {pos:Pos} {Q:DK}
abbrev pairD (t:Str × D):D:=.tup [.str t.1,t.2]
theorem pairs_is {H:Hp}:∀ {ps:List (Str × D)} {vs:List V},IsL H (ps.map pairD) vs->∃ ys,KvIs H ps ys/\vs.length=ys.length/\ys.map (·.1)=ps.map (fun t=>Sum.inr t.1)/\∀ (i:Nat) v y,vs[i]?=some v->ys[i]?=some y->∃ b,v=.ref b/\H b=some (.tup [kV y.1,y.2])
 | [],vs,h=>by
  rw [List.map_nil,isl_nil] at h;subst h
  exact ⟨[],rfl,rfl,rfl,fun i v y e=>by simp at e⟩
 | p :: ps,vs,h=>by
  rw [List.map_cons,isl_cons] at h
  obtain ⟨x,r,rfl,h1,h2⟩:=h
  obtain ⟨ys,k1,k2,k3,k4⟩:=pairs_is h2
  rw [is_tup] at h1
  obtain ⟨b,xs,rfl,hb,hx⟩:=h1
  rw [isl_cons] at hx
  obtain ⟨x1,r1,rfl,i1,hx⟩:=hx
  rw [isl_cons] at hx
  obtain ⟨x2,r2,rfl,i2,hx⟩:=hx
  rw [isl_nil] at hx;subst hx
  rw [is_str] at i1;subst i1
  refine ⟨(Sum.inr p.1,x2) :: ys,⟨x2,ys,rfl,i2,k1⟩,by simp [k2],by simp [k3],fun i v y e1 e2=>?_⟩
  cases i with
  | zero=>cases e1;cases e2;exact ⟨b,rfl,hb⟩
  | succ i=>exact k4 i v y (by simpa using e1) (by simpa using e2)
end
section
variable {X:Cx} {tg:Expr} {G:Ga} {M:MH} {iter elt:Expr} {ifs:List Expr} {Q:DK} {own N:List Str} {js:List Nat} {scope:Scope} {pos:Pos}
end
end D3
namespace HT
open PySem PySem.Spec PyProof.Rows
section
variable {prog:Program} {w:World} {A:Around} {E:Value->Shared->Prop} {s:Shared}
theorem getItem_tuple_all {t sl:Addr} {items:Array Value} {vl vu:Value} {lo hi:Option Int} {Q:Value->Shared->Prop} (ht:IsTup s.heap t items) (hs:s.heap.IsSliceOf sl vl vu .none) (pl:IsPart vl lo) (pu:IsPart vu hi)
  (hw:sIx items.size 0 lo=0/\sIx items.size items.size hi=items.size) (h:Q (.ref t) s):wpAny (model prog w) A (getItem (.ref t) (.ref sl)) Q E s:=by
 obtain ⟨os,hos,hcs,hds⟩:=id hs
 have hTs:s.TypeIs (.ref sl) "slice" := ⟨os,hos,hcs⟩
 unfold getItem
 try with_reducible refine wpAny_holding ?_
 first | refine wpAny_bind (wpAny_pure ?_) | skip
 refine wpAny_bind (wpAny_sequenceKey ht.typeIs (by decide) ?_)
 refine wpAny_bind (wpAny_callSpecial?_slot (name:=Str.ofString "__getitem__") ht.typeIs PyProof.Rows.slot_tuple_getitem
  (wpAny_call_entry PyProof.Rows.slot_tuple_getitem ht.typeIs entry_tuple_getitem ?_ (args_tuple_getitem _ _)))
 show wpAny _ _ (Builtin.Tuple.tupleItemsOf (.ref t) >>= _) _ _ s
 refine wpAny_bind (tupleItemsOf_ ht ?_)
 refine wpAny_bind (wpAny_typeOf hTs ?_)
 rw [if_pos (by decide)]
 refine wpAny_bind (sliceApplied_gen hs pl pu ?_)
 rw [hw.1,hw.2]
 show wpAny _ _ (if (((0:Nat):Int) == 0 && (1:Int) == 1 && (items.size - 0) == items.size)=true then _ else _) _ _ s
 rw [if_pos (by simp)]
 refine wpAny_bind (m:=Builtin.Tuple.tupleIsExact _) ?_
 obtain ⟨o,e1,e2,_⟩:=id ht
 unfold Builtin.Tuple.tupleIsExact
 refine wpAny_bind (wpAny_typeOf_ref e1 ?_)
 rw [e2]
 refine wpAny_pure ?_
 show wpAny _ _ (if ((Value.type "tuple" == Value.type "tuple")=true) then _ else _) _ _ s
 rw [if_pos (by decide)]
 refine wpAny_bind (wpAny_rule ?_)
 first
  | exact wpAny_pure ⟨_,rfl,wpAny_pure h⟩
  | exact wpAny_bind (wpAny_pure (wpAny_pure ⟨_,rfl,wpAny_pure h⟩))
end
end HT
namespace D3
open PySem PySem.Spec PyProof.Rows L2
def rSlA (K:PySem.W.Frag):V->Option Int->Option Int->Hp->VK->Prop:=fun x lo hi H Q=>∃ a xs,x=.ref a/\SqT K H a xs /\
 ((HT.sIx xs.length 0 lo=0/\HT.sIx xs.length xs.length hi=xs.length)->Q (.ref a) H)/\(¬ (HT.sIx xs.length 0 lo=0/\HT.sIx xs.length xs.length hi=xs.length)->∀ p,H p=none->Q (.ref p) (upd H p (.tup (cutV xs lo hi))))
section
variable {X:Cx} {G:Ga} {M:MH} {Q:DK} {a b:Expr} {pos:Pos}
theorem sl_all:SlR X (rSlA X.K):=by
 intro pins s σ H x v vl vu lo hi sl Q I rx hs pl pu h
 obtain ⟨a,xs,rfl,hx,q1,q2⟩:=h
 by_cases hw:HT.sIx xs.length 0 lo=0/\HT.sIx xs.length xs.length hi=xs.length
 ·cases rx
  obtain ⟨its,r,ht,hz⟩:=I.tuple hx
  have hlen:its.toArray.size=xs.length:=by rw [List.size_toArray];exact r.length.symm
  refine ⟨"tuple",_,PyProof.Rows.slot_tuple_getitem.lookup,ht.typeIs,?_⟩
  refine HT.getItem_tuple_all ht hs pl pu (by rw [hlen];exact hw) ?_
  exact ⟨.ref a,H,I,rfl,q1 hw⟩
 ·exact sl_tup pins s σ H (.ref a) v vl vu lo hi sl Q I rx hs pl pu ⟨a,xs,rfl,hx,hw,q2 hw⟩
theorem cutD_all {ds:List D} {lo hi:Option Int} (hw:HT.sIx ds.length 0 lo=0/\HT.sIx ds.length ds.length hi=ds.length):cutD ds lo hi=ds:=by
 unfold cutD
 rw [hw.1,hw.2]
 simp
theorem rs_tupA {da:D} {lo hi:Option Int} {ds:List D} (e:da=.tup ds) (h:Q (.tup (cutD ds lo hi)) M):RS X.K (rSlA X.K) da lo hi M Q:=by
 intro H x kf hx m
 subst e
 rw [is_tup] at hx
 obtain ⟨a,xs,rfl,h1,h2⟩:=hx
 have hc:=h2.cut lo hi
 have hl:=h2.len
 refine ⟨a,xs,rfl,SqT.of h1,fun hw _=>?_,fun hw p hp _=>⟨grow_new hp,.tup _,M,is_tup.mpr ⟨p,_,rfl,upd_same,hc.grow (grow_new hp)⟩,m.new hp,h⟩⟩
 rw [<- hl] at hw
 rw [cutD_all hw] at h
 exact ⟨Grow.refl _,.tup ds,M,is_tup.mpr ⟨a,xs,rfl,h1,h2⟩,m,h⟩
end
section
variable {X:Cx} {G:Ga} {M:MH} {elt tg iter e:Expr} {scope:Scope} {pos:Pos} {Q:DK} {own:List Str} {js:List Nat} {N:List Str} {cl:List (Str × Addr)}
end
section
variable {P:Program} {w:World} {A:Around} {E:Value->Shared->Prop} {s:Shared}
end
section
variable {P:Program} {w:World} {B:Around} {R:Result->Shared->Prop} {I a:Addr} {fp wr:List Addr} {n:Nat} {Pi:Nat->Value->Prop} {St:Nat->Heap->Prop}
end
section
variable {P:Program} {w:World} {A:Around} {E:Value->Shared->Prop} {s:Shared}
end
section
variable {P:Program} {w:World} {A:Around} {E:Value->Shared->Prop}
end
section
variable {P:Program} {w:World} {A:Around} {E:Value->Shared->Prop} {s:Shared} {I a tp:Addr} {ss:List Str} {o:Obj} {es:Array (Int × Value)} {ep:Nat} {t:SetTable} {Q:Option Value->Shared->Prop}
end
section
variable {P:Program} {w:World} {A:Around} {I a tp:Addr} {ss:List Str} {o:Obj} {es:Array (Int × Value)} {ep:Nat} {t:SetTable}
end
section
variable {P:Program} {w:World} {A:Around} {E:Value->Shared->Prop} {s:Shared} {a:Addr} {ss:List Str} {o:Obj} {es:Array (Int × Value)} {ep:Nat} {t:SetTable}
end
section
variable {P:Program} {w:World} {A:Around} {E:Value->Shared->Prop} {s:Shared} {a:Addr} {ss:List Str} {o:Obj} {es:Array (Int × Value)} {ep:Nat} {t:SetTable}
end
section
variable {X:Cx} {G:Ga} {M:MH} {e:Expr} {pos:Pos} {Q:DK}
end
end D3
namespace KA
open PySem PySem.Spec PyProof.Rows L2 D3 K01
def fL:Stm:=.whl (true,[],0) [] none []
def fS:Stm:=.set "q" ([],1,1)
def dL:D:=.tup [.str "while",.tup [.str "least",.tup [],.int 0],.tup [],.non,.tup []]
def dS:D:=.tup [.str "set",.str "q",.tup [.tup [],.int 1,.int 1]]
theorem eL:stD fL=dL:=by simp [fL,dL,stD,stDs,msD,rwD,word]
theorem eS:stD fS=dS:=by
 simp only [fS,stD]
 rfl
abbrev four:List Str:=["a", "m", "z", "q"]
def bk:Nat->Nat
 | 0=>61
 | k+1=>1+4 * (8+2 * bk k)
def sk:Nat->Nat
 | 0=>15
 | k+1=>8+2 * bk k
theorem bk_eq (k:Nat):bk k=1+4 * sk k:=by cases k<;>simp only [bk,sk]
theorem sk_ge (k:Nat):15<=sk k:=by
 cases k with
 | zero=>simp only [sk];omega
 | succ k=>simp only [sk];have:=bk_eq k;cases k<;>simp only [bk]<;>omega
theorem Pv.kp {S:List Addr} {M M':MH} {p c:Addr} {n:Nat} (h:Pv M p c n) (k:Kp S M M') (h1:p∉S) (h2:c∉S):Pv M' p c n:=by
 obtain ⟨cs,i,f,e1,e2,r⟩:=h
 exact ⟨cs,i,f,k.at e1 h1,k.at e2 h2,r⟩
def Lf (M:MH) (q:Addr) (n:Cnt):Prop:=M q=some (.lst [.int n.s,.int n.b,.int n.l,.int n.a,.int n.n])
theorem Lf.upd {M M2:MH} {q:Addr} {n m:Cnt} {l:List D} (h:Lf M q n) (e:mset M q (.lst l)=M2) (hl:l=[.int m.s,.int m.b,.int m.l,.int m.a,.int m.n]):Lf M2 q m/\Kp [q] M M2:=by
 subst e;subst hl
 exact ⟨mset_same,Kp.put (by simp)⟩
theorem Lf.kp {S:List Addr} {M M':MH} {q:Addr} {n:Cnt} (h:Lf M q n) (k:Kp S M M') (h1:q∉S):Lf M' q n:=k.at h h1
structure Bth (M:MH) (p c q:Addr) (k:Nat) (n:Cnt):Prop where
 pv:Pv M p c k
 lf:Lf M q n
 np:q≠p
 nc:q≠c
theorem Bth.ext {M M':MH} {p c q:Addr} {k:Nat} {n:Cnt} (h:Bth M p c q k n) (x:Ext M M'):Bth M' p c q k n:=⟨h.pv.ext x,x _ _ h.lf,h.np,h.nc⟩
theorem Bth.purse {M M':MH} {p c q:Addr} {k k':Nat} {n:Cnt} (h:Bth M p c q k n) (pv:Pv M' p c k') (x:Kp [p] M M'):Bth M' p c q k' n:=⟨pv,h.lf.kp x (by simp [h.np]),h.np,h.nc⟩
theorem Bth.left {M M2:MH} {p c q:Addr} {k:Nat} {n m:Cnt} {l:List D} (h:Bth M p c q k n) (e:mset M q (.lst l)=M2) (hl:l=[.int m.s,.int m.b,.int m.l,.int m.a,.int m.n]):Bth M2 p c q k m/\Kp [q] M M2:=by
 obtain ⟨h1,h2⟩:=h.lf.upd e hl
 exact ⟨⟨h.pv.kp h2 (by simp [h.np.symm]) (by simp [h.nc.symm]),h1,h.np,h.nc⟩,h2⟩
theorem Bth.up {M:MH} {p c q:Addr} {k k':Nat} {n:Cnt} (h:Bth M p c q k n) (x:k<=k'):Bth M p c q k' n:=⟨h.pv.up x,h.lf,h.np,h.nc⟩
inductive spRows2 (ds:List D) (M:MH) (Q:DK):Prop | mk:∀ (p:Addr) (ss:List Str) (c:Addr) (n m:Nat),ds=[.ref p,nms ss,.int m]->Pv M p c n->ss.length<=3->m<=2->n<=79980->(∀ (rs:List Rw) M',(∀ r∈rs,WfR ss r)->rs.length=m->Pv M' p c (n+12)->Kp [p] M M'->Q (.tup (rs.map rwD)) M')->spRows2 ds M Q
def oneS (x:Str) (w v:Int):Sm:=(if w=0 then [] else [(x,w)],v,1)
inductive spOne (ds:List D) (M:MH) (Q:DK):Prop | mk:∀ (x:Str) (w v:Int),ds=[.str x,.int w,.int v]->Q (smD (oneS x w v)) M->spOne ds M Q
inductive spStmt2 (d:Nat) (ds:List D) (M:MH) (Q:DK):Prop | mk:∀ p ss q c k n,ds=[.ref p,nms ss,.int d,.ref q]->Bth M p c q k n->Names ss->k+sk d<=70000->n.s<=100->(∀ st m M',Bth M' p c q (k+sk d) m->wf ss st->dp st<=d+1->Took ⟨n.s+1,n.b,n.l,n.a,n.n⟩ m (tt st)->Kp [p,q] M M'->Q (stD st) M')->spStmt2 d ds M Q
inductive spBlock2 (d:Nat) (ds:List D) (M:MH) (Q:DK):Prop | mk:∀ p ss q c k n,ds=[.ref p,nms ss,.int d,.ref q]->Bth M p c q k n->Names ss->k+bk d<=70000->n.s<=100->(∀ b m M',Bth M' p c q (k+bk d) m->wfs ss b->(∀ s∈b,dp s<=d+1)->Took n m (tts b)->Kp [p,q] M M'->Q (.tup (stDs b)) M')->spBlock2 d ds M Q
inductive spLoop2 (d:Nat) (ds:List D) (M:MH) (Q:DK):Prop | mk:∀ p ss q c k n,ds=[.ref p,nms ss,.int d,.ref q]->Bth M p c q k n->Names ss->k+27+bk (d - 1)<=70000->n.s<=100->(∀ st m M',Bth M' p c q (k+27+bk (d - 1)) m->wf ss st->dp st<=d+1->Took ⟨n.s+1,n.b,n.l+1,n.a,n.n⟩ m (tt st)->Kp [p,q] M M'->Q (stD st) M')->spLoop2 d ds M Q
inductive spLoopsN (k:Nat) (ds:List D) (M:MH) (Q:DK):Prop | mk:∀ b:List Stm,ds=[.tup (stDs b)]->dps b<=k->(tts b).s<=100->Q (.int ((tts b).l:Nat)) M->spLoopsN k ds M Q
structure TailOk (ss:List Str) (lp:Stm) (ks:List Rw) (nr:Rw):Prop where
 ok:wf ss lp
 sh:∃ r ms b,lp=.whl r ks ms b
 kl:ks.length=2
 dpt:dp lp<=3
 s:(tt lp).s<=6
 b:(tt lp).b<=1
 l:(tt lp).l=1
 a:(tt lp).a=0
 n:(tt lp).n=0
 nok:WfR ss nr
inductive spTail (ds:List D) (M:MH) (Q:DK):Prop | mk:∀ (p:Addr) (ss:List Str) (pick:Int) (c:Addr) (n:Nat),ds=[.ref p,nms ss,.int pick]->Pv M p c n->Names ss->Cell pick->n<=70000->(∀ l lp ks nr M',M l=none->M' l=some (.lst [stD lp,stD (.note [nr])])->TailOk ss lp ks nr->Pv M' p c (n+5)->Kp [p] M M'->Q (.ref l) M')->spTail ds M Q
inductive spMenu (ds:List D) (M:MH) (Q:DK):Prop | mk:∀ (p:Addr) (ss:List Str) (pick:Int) (c:Addr),ds=[.ref p,nms ss,.int pick]->Pv M p c 0->Names ss->Cell pick->(∀ pl M',WfP pl->pl.ss=ss->Kp [p] M M'->Q (plD pl) M')->spMenu ds M Q
inductive spPlan2 (ds:List D) (M:MH) (Q:DK):Prop | mk:∀ (l:Addr) (ns:List Int),ds=[.ref l]->M l=some (.ro (ns.map D.int))->ns.length<=63->(∀ n∈ns,Cell n)->(∀ pl M',WfP pl->Ext M M'->Q (plD pl) M')->spPlan2 ds M Q
end KA
namespace D3
open PySem PySem.Spec PyProof.Rows L2
section
variable {X:Cx} {G:Ga} {M:MH} {pos:Pos} {Q:DK}
end
def lkT:List (List Int × D)->List Int->Option D
 | [],_=>none
 | (x,d) :: r,k=>if x=k then some d else lkT r k
def putT (kvs:List (List Int × D)) (k:List Int) (d:D):List (List Int × D) :=
 if (kvs.any fun kv=>decide (kv.1=k))=true then kvs.map (fun kv=>if kv.1=k then (kv.1,d) else kv) else kvs++[(k,d)]
theorem inl_inj:∀ {a b:List Int},a.map (Sum.inl:Int->Key)=b.map Sum.inl->a=b
 | [],[],_=>rfl
 | [],_ :: _,h=>by cases h
 | _ :: _,[],h=>by cases h
 | x :: a,y :: b,h=>by
  rw [List.map_cons,List.map_cons] at h
  injection h with h1 h2
  injection h1 with h1
  rw [h1,inl_inj h2]
theorem inl_iff {a b:List Int}:(a.map (Sum.inl:Int->Key)=b.map Sum.inl) ↔ a=b:=⟨inl_inj,fun e=>by rw [e]⟩
theorem TkIs.len {H:Hp}:∀ {kvs:List (List Int × D)} {ys:List (List Key × V)},TkIs H kvs ys->kvs.length=ys.length
 | [],ys,h=>by rw [show ys=[] from h];rfl
 | (k,d) :: r,ys,h=>by
  obtain ⟨v,ys',rfl,_,h2⟩:=h
  rw [List.length_cons,List.length_cons,TkIs.len h2]
theorem TkIs.val {H:Hp}:∀ {kvs:List (List Int × D)} {ys:List (List Key × V)} (k:List Int),TkIs H kvs ys->match lkT kvs k with
  | some d=>∃ v,valV ys (k.map Sum.inl)=some v/\Is H d v
  | none=>valV ys (k.map Sum.inl)=none
 | [],ys,k,h=>by rw [show ys=[] from h];exact valV_nil
 | (x,d) :: r,ys,k,h=>by
  obtain ⟨v,ys',rfl,h1,h2⟩:=h
  have ih:=TkIs.val k h2
  show match (if x=k then some d else lkT r k) with
   | some d=>∃ v',valV ((x.map Sum.inl,v) :: ys') (k.map Sum.inl)=some v'/\Is H d v'
   | none=>valV ((x.map Sum.inl,v) :: ys') (k.map Sum.inl)=none
  by_cases e:x=k
  ·rw [if_pos e]
   exact ⟨v,valV_pos (by rw [e]),h1⟩
  ·rw [if_neg e,valV_neg (p:=(x.map Sum.inl,v)) (fun z=>e (inl_inj z))]
   exact ih
theorem TkIs.any {H:Hp} {k:List Int}:∀ {kvs:List (List Int × D)} {ys:List (List Key × V)},TkIs H kvs ys->(kvs.any fun kv=>decide (kv.1=k))=ys.any fun kv=>decide (kv.1=k.map Sum.inl)
 | [],ys,h=>by rw [show ys=[] from h];rfl
 | (x,d) :: r,ys,h=>by
  obtain ⟨v,ys',rfl,h1,h2⟩:=h
  rw [List.any_cons,List.any_cons,TkIs.any h2]
  simp only [inl_iff]
theorem TkIs.repl {H:Hp} {k:List Int} {d:D} {v:V} (i:Is H d v):∀ {kvs:List (List Int × D)} {ys:List (List Key × V)},TkIs H kvs ys ->
  TkIs H (kvs.map fun kv=>if kv.1=k then (kv.1,d) else kv) (ys.map fun kv=>if kv.1=k.map Sum.inl then (kv.1,v) else kv)
 | [],ys,h=>by rw [show ys=[] from h];rfl
 | (x,e) :: r,ys,h=>by
  obtain ⟨u,ys',rfl,h1,h2⟩:=h
  have ih:=TkIs.repl (k:=k) i h2
  rw [List.map_cons,List.map_cons]
  by_cases z:x=k
  ·rw [if_pos z,if_pos (by rw [z])]
   exact ⟨v,_,rfl,i,ih⟩
  ·rw [if_neg z,if_neg (fun q=>z (inl_inj q))]
   exact ⟨u,_,rfl,h1,ih⟩
theorem TkIs.snoc {H:Hp} {k:List Int} {d:D} {v:V} (i:Is H d v):∀ {kvs:List (List Int × D)} {ys:List (List Key × V)},TkIs H kvs ys->TkIs H (kvs++[(k,d)]) (ys++[(k.map Sum.inl,v)])
 | [],ys,h=>by rw [show ys=[] from h];exact ⟨v,[],rfl,i,rfl⟩
 | (x,e) :: r,ys,h=>by
  obtain ⟨u,ys',rfl,h1,h2⟩:=h
  exact ⟨u,_,rfl,h1,TkIs.snoc i h2⟩
theorem TkIs.put {H:Hp} {k:List Int} {d:D} {v:V} (i:Is H d v) {kvs:List (List Int × D)} {ys:List (List Key × V)} (h:TkIs H kvs ys):TkIs H (putT kvs k d) (putK ys (k.map Sum.inl) v):=by
 unfold putT putK
 rw [h.any]
 split
 ·exact h.repl i
 ·exact h.snoc i
theorem lkT_cons (x:List Int) (d:D) (r:List (List Int × D)) (k:List Int):lkT ((x,d) :: r) k=if x=k then some d else lkT r k:=rfl
theorem lkT_snoc (k j:List Int) (d:D):∀ kvs:List (List Int × D),lkT kvs k=none->lkT (kvs++[(k,d)]) j=if k=j then some d else lkT kvs j
 | [],_=>rfl
 | (x,e) :: r,h=>by
  rw [lkT_cons] at h
  by_cases hx:x=k
  ·rw [if_pos hx] at h;cases h
  ·rw [if_neg hx] at h
   show lkT ((x,e) :: (r++[(k,d)])) j=_
   rw [lkT_cons,lkT_cons,lkT_snoc k j d r h]
   by_cases hj:x=j
   ·rw [if_pos hj,if_pos hj,if_neg (by intro z;exact hx (hj.trans z.symm))]
   ·rw [if_neg hj,if_neg hj]
theorem any_lkT (k:List Int):∀ kvs:List (List Int × D),(kvs.any fun kv=>decide (kv.1=k))=(lkT kvs k).isSome
 | []=>rfl
 | (x,e) :: r=>by
  rw [List.any_cons,any_lkT k r,lkT_cons]
  by_cases h:x=k
  ·rw [if_pos h,decide_eq_true h];rfl
  ·rw [if_neg h,decide_eq_false h];rfl
theorem lkT_repl (k j:List Int) (d:D):∀ kvs:List (List Int × D),lkT (kvs.map fun kv=>if kv.1=k then (kv.1,d) else kv) j=(lkT kvs j).map fun x=>if j=k then d else x
 | []=>rfl
 | (x,e) :: r=>by
  rw [List.map_cons]
  by_cases hx:x=k
  ·rw [if_pos hx,lkT_cons,lkT_cons]
   by_cases hj:x=j
   ·rw [if_pos hj,if_pos hj,Option.map_some,if_pos (hj.symm.trans hx)]
   ·rw [if_neg hj,if_neg hj];exact lkT_repl k j d r
  ·rw [if_neg hx,lkT_cons,lkT_cons]
   by_cases hj:x=j
   ·rw [if_pos hj,if_pos hj,Option.map_some,if_neg (by intro z;exact hx (hj.trans z))]
   ·rw [if_neg hj,if_neg hj];exact lkT_repl k j d r
theorem lkT_put (kvs:List (List Int × D)) (k j:List Int) (d:D):lkT (putT kvs k d) j=if k=j then some d else lkT kvs j:=by
 unfold putT
 rw [any_lkT]
 cases e:lkT kvs k with
 | none =>
  rw [if_neg (by simp)]
  exact lkT_snoc k j d kvs e
 | some x =>
  rw [if_pos (show (some x).isSome=true from rfl),lkT_repl]
  by_cases h:k=j
  ·subst h;rw [if_pos rfl,e,Option.map_some,if_pos rfl]
  ·rw [if_neg h]
   cases lkT kvs j with
   | none=>rfl
   | some y=>rw [Option.map_some,if_neg (fun z=>h z.symm)]
theorem inl_kV (k:List Int):(k.map (Sum.inl:Int->Key)).map kV=k.map V.int:=by
 rw [List.map_map];rfl
section
variable {X:Cx} {G:Ga} {M:MH} {a b c e f o i:Expr} {pos apos cpos:Pos} {Q:DK}
theorem ev_dnewT (h:∀ p,M p=none->Q (.ref p) (mset M p (.tkd []))):EV X G M (.Dict [] [] pos) Q :=
 EV.of pe_dnewT fun σ H kf R=>fun p hp kf'=>⟨grow_new hp,.ref p,mset M p (.tkd []),is_ref.mpr rfl,R.mem.lay hp ⟨[],upd_same,rfl⟩,h p (R.mem.fresh hp kf')⟩
theorem gv_setT {d:D} {Qg:Ga->MH->Prop} (hu:X.A.units+64 < cLine) (h:EV X G M o fun d1 M1=>EV X G M1 i fun d2 M2=>∃ p ks kvs,d1=.ref p/\d2=.tup (ks.map D.int)/\M2 p=some (.tkd kvs)/\kvs.length < sizeLine/\Qg G (mset M2 p (.tkd (putT kvs ks d))))
  (ha:∀ v,assign (.Subscript o i pos) X.env v=(do
   let ov <- holding [v] (eval o X.env)
   let iv <- holding [v,ov] (eval i X.env)
   standAt pos
   holding [v,ov,iv] (setItem ov iv v)
   release [v,ov,iv] [])):GV X G M (.Subscript o i pos) d Qg:=by
 intro pins s σ H v u I R r iv
 rw [ha]
 refine wpAny_bind (wpAny_holding (thn (h pins s σ H I R) fun ov s1 ⟨x,H1,d1,M1,I1,r1,g1,i1,R1,q1⟩=>?_))
 refine wpAny_bind (wpAny_holding (thn (q1 pins s1 σ H1 I1 R1) fun iv' s2 ⟨y,H2,d2,M2,I2,r2,g2,i2,R2,q2⟩=>?_))
 obtain ⟨p,ks,kvs,rfl,rfl,hp,hz,q⟩:=q2
 rw [is_ref] at i1;subst i1
 rw [is_tup] at i2
 obtain ⟨b,xs,rfl,hb,hxs⟩:=i2
 have:=isl_ints hxs;subst this
 obtain ⟨ys,hx,hxi⟩:=R2.mem p _ hp
 cases r1
 have nt:∀ zs,H2 p≠some (.tup zs):=fun zs z=>by rw [hx] at z;cases z
 have gu:Grow H2 (upd H2 p (.dT (putK ys (ks.map Sum.inl) v))):=grow_upd nt
 refine wpAny_bind (wpAny_standAt (wpAny_bind (wpAny_holding (d_setItem (by omega) I2 (DPut.t (k:=ks.map Sum.inl) hx (by rw [inl_kV];exact hb) (by rw [<- hxi.len];exact hz)) r2 r fun s3 I3=>?_))))
 refine wpAny_release ⟨σ,_,G,_,I3,(g1.trans g2).trans gu,R2.to gu (R2.mem.put (u:=.tkd (putT kvs ks d)) nt ⟨_,upd_same,(hxi.grow gu).put (Is.grow ((g1.trans g2).trans gu) _ _ iv)⟩),q⟩
end
def putD9 (f:Str) (v:D):List (Str × D)->List (Str × D)
 | []=>[(f,v)]
 | (g,x) :: r=>if g=f then (g,v) :: r else (g,x) :: putD9 f v r
theorem FsIs.len {H:Hp}:∀ {fs:List (Str × D)} {ys:List (Str × V)},FsIs H fs ys->fs.length=ys.length
 | [],ys,h=>by rw [show ys=[] from h];rfl
 | (k,d) :: r,ys,h=>by
  obtain ⟨v,ys',rfl,_,h2⟩:=h
  rw [List.length_cons,List.length_cons,FsIs.len h2]
theorem FsIs.put9 {H:Hp} {f:Str} {d:D} {v:V} (i:Is H d v):∀ {fs:List (Str × D)} {ys:List (Str × V)},FsIs H fs ys->FsIs H (putD9 f d fs) (putF f v ys)
 | [],ys,h=>by rw [show ys=[] from h];exact ⟨v,[],rfl,i,rfl⟩
 | (k,e) :: r,ys,h=>by
  obtain ⟨u,ys',rfl,h1,h2⟩:=h
  unfold putD9 putF
  by_cases z:k=f
  ·rw [if_pos z,if_pos z];exact ⟨v,ys',rfl,i,h2⟩
  ·rw [if_neg z,if_neg z];exact ⟨u,_,rfl,h1,h2.put9 i⟩
theorem FsIs.look {H:Hp} {f:Str}:∀ {fs:List (Str × D)} {ys:List (Str × V)},FsIs H fs ys->match fs.lookup f with
  | some d=>∃ v,ys.lookup f=some v/\Is H d v
  | none=>ys.lookup f=none
 | [],ys,h=>by rw [show ys=[] from h];rfl
 | (k,e) :: r,ys,h=>by
  obtain ⟨u,ys',rfl,h1,h2⟩:=h
  have ih:=h2.look (f:=f)
  rw [List.lookup_cons,List.lookup_cons]
  cases hb:f == k with
  | true=>exact ⟨u,rfl,h1⟩
  | false=>exact ih
section
variable {X:Cx} {G:Ga} {M:MH} {o e value:Expr} {es:List Expr} {pos apos pos':Pos} {Q:DK} {E:EndsD}
theorem ev_fld {f:Str} (h:EV X G M o fun d M1=>∃ a C fs v,d=.ref a/\M1 a=some (.ins C fs)/\Cls X.K C/\NoAttr X.K C f/\fs.lookup f=some v/\Q v M1) (hb:attributeBase o f X.env (eval o X.env)=eval o X.env):EV X G M (.Attribute o f pos) Q:=by
 refine EV.of (pe_fld (pe_D (G:=G)) hb) fun σ H kf R=>?_
 refine ⟨M,_,R,h,fun v H' d M' kf' g i R' q=>?_⟩
 obtain ⟨a,C,fs,v',rfl,ha,c,n,hl,q⟩:=q
 rw [is_ref] at i;subst i
 obtain ⟨dx,ys,e1,hy⟩:=R'.mem a _ ha
 have:=hy.look (f:=f)
 rw [hl] at this
 obtain ⟨u,hu,iu⟩:=this
 exact ⟨a,C,dx,ys,u,rfl,e1,c,n,hu,fun _=>⟨g,v',M',iu,R'.mem,q⟩⟩
theorem ex_fld {f:Str} (h:EV X G M value fun dv M1=>EV X G M1 o fun d M2=>∃ a C fs,d=.ref a/\M2 a=some (.ins C fs)/\Cls X.K C/\NoAttr X.K C f/\fs.length < 1000/\E.nx G (mset M2 a (.ins C (putD9 f dv fs))))
  (hs:swapsWith value (some (.Attribute o f pos')) pos.line X.env=pure false):EX X G M (.Assign [.Attribute o f pos'] value pos) E:=by
 intro pins s σ H I R
 refine plainObj_wpAny_Assign_Attribute (thn (h pins s σ H I R) fun u s1 ⟨y,H1,dv,M1,I1,ry,g1,i1,R1,q1⟩=>thn (q1 pins s1 σ H1 I1 R1) fun ov s2 ⟨x,H2,dO,M2,I2,rx,g2,i2,R2,a,C,fs,e,ha,c,n,hl,q⟩=>?_) hs
 subst e
 rw [is_ref] at i2;subst i2
 obtain rfl:ov=Value.ref a:=rx
 obtain ⟨dx,ys,e1,hy⟩:=R2.mem a _ ha
 have nt:∀ zs,H2 a≠some (.tup zs):=fun zs z=>by rw [e1] at z;cases z
 have gu:Grow H2 (upd H2 a (.ins C dx (putF f y ys))):=grow_upd nt
 refine setattr_ok I2 e1 c n (by rw [<- hy.len];exact hl) ry fun s3 I3=>⟨σ,_,G,_,I3,(g1.trans g2).trans gu,R2.to gu (R2.mem.put (u:=.ins C (putD9 f dv fs)) nt ⟨dx,_,upd_same,?_⟩),q⟩
 exact (hy.grow gu).put9 (Is.grow (g2.trans gu) _ _ i1)
structure CalM (P:Program) (w:World) (K:PySem.W.Frag) (mg:Str->Option Value) (base:Heap) (k:Nat) (C:Addr) (m:Str) (sp:SpD):Prop where
 cls:Cls K C
 ex:∃ (f:Addr) (fd:FuncData) (ps:List Str),FnOk P w K mg base CX0 k f fd ps (liftSp K sp)/\Meth K C m f/\Binds K fd ps []
theorem ev_meth {j k:Nat} {C:Addr} {m:Str} {sp:SpD} {pl:Sem Bool} (c:CalM X.prog X.w X.K X.mg X.base j C m sp) (hr:Room k X.A) (hk:j<=k)
  (h:EV X G M o fun d M1=>∃ a fs,d=.ref a/\M1 a=some (.ins C fs)/\fs.lookup m=none/\AV X G M1 (e :: es) fun ds M2=>sp (.ref a :: ds) M2 Q)
  (hst:starEach (e :: es) X.env=(false,eval e X.env) :: starEach es X.env) (hpl:(backTo pos (starEach es X.env)).any (·.1)=false)
  (ht:eval (.Call (.Attribute o m apos) (e :: es) [] pos) X.env=(do
   let ov <- eval o X.env
   standAt apos.atName
   let (f,first) <- holding [ov] (getMethod ov m pl)
   callWith pos f first (backTo pos (starEach (e :: es) X.env)) (backToKw pos (keywordEach [] X.env)))):EV X G M (.Call (.Attribute o m apos) (e :: es) [] pos) Q:=by
 intro pins s σ H I R
 obtain ⟨f,fd,ps,F,hm,hb⟩:=c.ex
 refine PySem.W.methodCall_KW (pl:=pl) (thn (h pins s σ H I R) fun u s1 ⟨x,H1,d,M1,I1,rx,g1,i1,R1,a,fs,e1,ha,hl,q⟩=>?_) ht
 subst e1
 rw [is_ref] at i1;subst i1
 obtain rfl:u=Value.ref a:=rx
 obtain ⟨dx,ys,e2,hy⟩:=R1.mem a _ ha
 have:=hy.look (f:=m)
 rw [hl] at this
 refine getmeth_ok I1 e2 c.cls hm this ?_
 refine PySem.W.callWith_K (first:=[.ref a]) (h₀:=X.base) I.ok.mod.kin hm.kp (thn (q pos pins s1 σ H1 I1 R1) fun us s2 ⟨vs,H2,ds,M2,I2,r,g2,i2,R2,q2⟩=>⟨I2.kIn,?_⟩) hst hpl
 exact run_fnD (us:=.ref a :: us) (vs:=.ref a :: vs) (ds:=.ref a :: ds) (F.mono hk) hr hb I2 R2 (g1.trans g2) (.cons rfl r) (isl_cons.mpr ⟨_,_,rfl,is_ref.mpr rfl,i2⟩) q2
theorem ev_meth0 {j k:Nat} {C:Addr} {m:Str} {sp:SpD} {pl:Sem Bool} (c:CalM X.prog X.w X.K X.mg X.base j C m sp) (hr:Room k X.A) (hk:j<=k)
  (h:EV X G M o fun d M1=>∃ a fs,d=.ref a/\M1 a=some (.ins C fs)/\fs.lookup m=none/\sp [.ref a] M1 Q)
  (ht:eval (.Call (.Attribute o m apos) [] [] pos) X.env=(do
   let ov <- eval o X.env
   standAt apos.atName
   let (f,first) <- holding [ov] (getMethod ov m pl)
   callWith pos f first (backTo pos (starEach [] X.env)) (backToKw pos (keywordEach [] X.env)))):EV X G M (.Call (.Attribute o m apos) [] [] pos) Q:=by
 intro pins s σ H I R
 obtain ⟨f,fd,ps,F,hm,hb⟩:=c.ex
 refine PySem.W.methodCall_KW (pl:=pl) (thn (h pins s σ H I R) fun u s1 ⟨x,H1,d,M1,I1,rx,g1,i1,R1,a,fs,e1,ha,hl,q⟩=>?_) ht
 subst e1
 rw [is_ref] at i1;subst i1
 obtain rfl:u=Value.ref a:=rx
 obtain ⟨dx,ys,e2,hy⟩:=R1.mem a _ ha
 have:=hy.look (f:=m)
 rw [hl] at this
 refine getmeth_ok I1 e2 c.cls hm this ?_
 exact PySem.W.callWith_K0 (first:=[.ref a]) I1.kIn hm.kp (run_fnD (us:=[.ref a]) (vs:=[.ref a]) (ds:=[.ref a]) (F.mono hk) hr hb I1 R1 g1 (.cons rfl .nil) (isl_cons.mpr ⟨_,_,rfl,is_ref.mpr rfl,isl_nil.mpr rfl⟩) q)
structure Kls (P:Program) (w:World) (K:PySem.W.Frag) (mg:Str->Option Value) (base:Heap) (k:Nat) (x:Str) (C:Addr) (sp:SpD):Prop where
 ex:∃ (f:Addr) (fd:FuncData) (ps:List Str),FnOk P w K mg base CX0 k f fd ps (liftSp K sp)/\Mk K C f/\Binds K fd ps []
 mg:mg x=some (.ref C)
theorem made_run {k:Nat} {x:Str} {C:Addr} {sp:SpD} {pins:List (Addr × Obj)} {σ:St} {H0 H:Hp} {s:Shared} {us:List Value} {vs:List V} {ds:List D} (m:Kls X.prog X.w X.K X.mg X.base k x C sp) (hr:Room (k+1) X.A)
  (I:L2.Inv X pins σ H s) (R:Rel X G M σ H) (g0:Grow H0 H) (r:Vals vs us) (i:IsL H ds vs) (h:∀ a,M a=none->sp (.ref a :: ds) (mset M a (.ins C [])) fun d M2=>d=.non/\Q (.ref a) M2) :
  wpAny (model X.prog X.w) X.A (call (.ref C) us) (EPD X pins σ G H0 Q) X.xe s:=by
 obtain ⟨f,fd,ps,F,mk,hb⟩:=m.ex
 have hx:H (s.heap.objs.size+1)=none:=I.hok.fresh (Nat.le_succ _)
 have hd:H s.heap.objs.size=none:=I.hok.fresh (Nat.le_refl _)
 have hM:M (s.heap.objs.size+1)=none:=mem_not R.mem I.kIn hx (Nat.le_succ _)
 have hMd:M s.heap.objs.size=none:=mem_not R.mem I.kIn hd (Nat.le_refl _)
 have hne:s.heap.objs.size≠s.heap.objs.size+1:=Nat.ne_of_lt (Nat.lt_succ_self _)
 have I2:=Inv.made (C:=C) I
 generalize hH2:upd (upd H s.heap.objs.size (.own (s.heap.objs.size+1))) (s.heap.objs.size+1) (.ins C s.heap.objs.size [])=H2 at I2
 have gr:Grow H H2:=by
  rw [<- hH2]
  refine (grow_new hd).trans (grow_new ?_)
  rw [upd_ne hne.symm];exact hx
 have mem2:MemOk X.K (mset M (s.heap.objs.size+1) (.ins C [])) H2:=by
  rw [<- hH2]
  exact (R.mem.new hd).lay (by rw [upd_ne hne.symm];exact hx) ⟨_,[],upd_same,rfl⟩
 have hq:liftSp X.K sp (V.ref (s.heap.objs.size+1) :: vs) H2 (fun v H'=>v=.non/\∃ M',Grow H2 H'/\MemOk X.K M' H'/\Q (.ref (s.heap.objs.size+1)) M') E0 :=
  ⟨.ref (s.heap.objs.size+1) :: ds,_,_,isl_cons.mpr ⟨_,_,rfl,is_ref.mpr rfl,i.grow gr⟩,mem2,h _ hM,fun v H' d M' g iv mm q=>⟨by rw [q.1,is_non] at iv;exact iv,M',g,mm,q.2⟩⟩
 have r2:Vals (V.ref (s.heap.objs.size+1) :: vs) (Value.ref (s.heap.objs.size+1) :: us):=.cons rfl r
 have hl:(Value.ref (s.heap.objs.size+1) :: us++[]).length=ps.length:=by
  have e:=r2.length
  rw [F.len _ _ _ _ hq] at e
  rw [List.append_nil]
  exact e.symm
 have hbs:=hb _ (Value.ref (s.heap.objs.size+1) :: us) I2.kIn hl
 rw [List.append_nil] at hbs
 refine wpAny_call (make_map (f:=f) I.kIn mk.makes mk.init (beq_iff_eq.mp mk.fn) (codeAny_mono (F.run _ X.stack _ _ ⟨Value.ref (s.heap.objs.size+1) :: us,[]⟩ (Value.ref (s.heap.objs.size+1) :: us) _ _ E0 (hr.make C us []) (I2.env0.make C us []) hbs r2 hq) fun r s' hq'=>?_))
 cases r with
 | error e=>exact pass0 pins σ _ _ e s' I2 hq'
 | ok fl =>
  cases fl with
  | ret u =>
   obtain ⟨v,H',I3,rv,ev,M',g3,m3,q3⟩:=I2.after hq'
   subst ev
   exact ⟨rv,⟨V.ref (s.heap.objs.size+1),H',.ref (s.heap.objs.size+1),M',I3,rfl,g0.trans (gr.trans g3),is_ref.mpr rfl,R.to (gr.trans g3) m3,q3⟩⟩
  | next=>exact False.elim hq'
  | brk=>exact False.elim hq'
  | cont=>exact False.elim hq'
theorem ev_new {j k:Nat} {x:Str} {p:Pos} {C:Addr} {sp:SpD} (m:Kls X.prog X.w X.K X.mg X.base k x C sp) (hr:Room j X.A) (hj:k+1<=j)
  (h:AV X G M (e :: es) fun ds M1=>∀ a,M1 a=none->sp (.ref a :: ds) (mset M1 a (.ins C [])) fun d M2=>d=.non/\Q (.ref a) M2) (hg:Gl X x) (hdb:(x == ("__debug__" : Str))=false)
  (he:starEach (e :: es) X.env=(false,eval e X.env) :: starEach es X.env) (hpl:(backTo pos (starEach es X.env)).any (·.1)=false):EV X G M (.Call (.Name x p) (e :: es) [] pos) Q:=by
 intro pins s σ H I R
 obtain ⟨f,fd,ps,F,mk,hb⟩:=m.ex
 refine wpAny_Call_Name_kw (ld_glob I hg m.mg ?_ hdb)
 refine PySem.W.callWith_K (h₀:=X.base) I.ok.mod.kin mk.kp (thn (h pos pins s σ H I R) fun us s1 ⟨vs,H1,ds,M1,I1,r1,g1,i1,R1,q1⟩=>⟨I1.kIn,?_⟩) he hpl
 exact made_run m (hr.mono hj) I1 R1 g1 r1 i1 q1
end
def AtM (K:PySem.W.Frag) (C:Addr) (m qual:Str) (st:Stmt):Prop:=∃ (f:Addr) (od an:Option Addr) (sl:Array (Option Value)) (oc kV dc pm cd ct:Value),PySem.W.findIn K (.ref C) m=some (some (.ref f))/\K.lookup f=some ⟨oc,od,.func (PySem.W.fnOf m qual (defArgs st) (defBody st) (defScope st) .none kV dc pm an cd ct),sl⟩/\PySem.W.codeIn K cd qual=true/\PySem.W.keepIn K (.ref f)=true/\PySem.W.isFn K (.ref f)=true
theorem AtM.mk {K:PySem.W.Frag} {C:Addr} {m qual:Str} {st:Stmt} {f:Addr} {od an:Option Addr} {sl:Array (Option Value)} {oc kV dc pm cd ct:Value} (a:PySem.W.findIn K (.ref C) m=some (some (.ref f))) (l:K.lookup f=some ⟨oc,od,.func (PySem.W.fnOf m qual (defArgs st) (defBody st) (defScope st) .none kV dc pm an cd ct),sl⟩)
  (c:PySem.W.codeIn K cd qual=true) (k:PySem.W.keepIn K (.ref f)=true) (i:PySem.W.isFn K (.ref f)=true):AtM K C m qual st:=⟨f,od,an,sl,oc,kV,dc,pm,cd,ct,a,l,c,k,i⟩
theorem AtM.get {K:PySem.W.Frag} {C:Addr} {m qual:Str} {st:Stmt} (A:AtM K C m qual st):∃ f fd,Fun K m qual st f fd/\Meth K C m f:=by
 obtain ⟨f,od,an,sl,oc,kV,dc,pm,cd,ct,a,l,c,k,i⟩:=A
 exact ⟨f,_,fun_mk (st:=st) l c k,a,i,k⟩
structure ClsI (K:PySem.W.Frag) (x:Str) (C:Addr):Prop where
 ns:PySem.W.nsIn K mainGlobals x=some (some (.ref C))
 cls:Cls K C
 makes:PySem.W.makesIn K C=true
 kp:PySem.W.keepIn K (.ref C)=true
theorem ClsI.mk' {K:PySem.W.Frag} {x:Str} {C:Addr} (a:PySem.W.nsIn K mainGlobals x=some (some (.ref C))) (pg:PySem.W.plainGet K C Str.empty=true) (hd:PySem.W.hasDictIn K C=true) (po:PySem.W.plainOver K C=true)
  (sa:PySem.W.findIn K (.ref C) "__setattr__" = some (some (.builtin "object.__setattr__"))) (m:PySem.W.makesIn K C=true) (k:PySem.W.keepIn K (.ref C)=true):ClsI K x C:=⟨a,⟨pg,hd,po,sa⟩,m,k⟩
theorem ClsI.mk_ {K:PySem.W.Frag} {x:Str} {C f:Addr} (c:ClsI K x C) (m:Meth K C "__init__" f):Mk K C f:=⟨c.makes,m.at_,m.fn,c.kp⟩
end D3
namespace KA
open PySem PySem.Spec PyProof.Rows L2 D3 K01
abbrev Pl:=List Int
abbrev Fr:=Int × Int
def plcD (p:Pl):D:=.tup (p.map D.int)
def rwDk (r:Rw):D:=.tup [.str (word r.1),trm r.2.1,.int r.2.2]
def smDk (s:Sm):D:=.tup [trm s.1,.int s.2.1,.int s.2.2]
def msDk:Option (Sm × Int)->D
 | none=>.non
 | some m=>.tup [smDk m.1,.int m.2]
def frD (x:Fr):D:=fr x.1 x.2
inductive Ins where
 | set (p:Pl) (x:Str) (s:Sm)
 | any (p:Pl) (x:Str)
 | note (p:Pl) (rs:List Rw)
 | fork (p:Pl) (to:Nat)
 | unl (p:Pl) (r:Rw) (to:Nat)
 | enter (p:Pl)
 | head (p:Pl) (rs:List Rw) (m:Option (Sm × Int)) (r:Rw) (to:Nat)
 | jump (to:Nat)
 | halt
abbrev Pt0:=List (Str × Fr)
def ptKv (p:Pt0):List (Str × D):=p.map fun x=>(x.1,frD x.2)
def getP:Pt0->Str->Fr
 | [],_=>(0,1)
 | (y,v) :: r,x=>if y=x then v else getP r x
def putP (p:Pt0) (x:Str) (u:Fr):Pt0:=p.map fun y=>if y.1=x then (y.1,u) else y
def sumP (p:Pt0):List (Str × Int)->Int->Int->Int × Int
 | [],t,b=>(t,b)
 | u :: r,t,b=>sumP p r (t * (getP p u.1).2+u.2 * (getP p u.1).1 * b) (b * (getP p u.1).2)
def wthP (p:Pt0) (s:Sm):Fr :=
 let a:=sumP p s.1 0 1
 (tp (a.1+s.2.1 * a.2) (a.2 * s.2.2),bt (a.1+s.2.1 * a.2) (a.2 * s.2.2))
def soP (p:Pt0) (r:Rw):Bool :=
 let a:=sumP p r.2.1 0 1
 if r.1 then decide (r.2.2 * a.2<=a.1) else decide (r.2.2 * a.2 < a.1)
structure Mc where
 pt:Pt0
 tu:List Int
 gv:List Fr
 n:Nat
 pa:List (Pl × Pt0)
 kn:Pl->Option Fr
inductive Stp where
 | on (m:Mc) (to:Nat)
 | stop (w:Str) (m:Mc) (p:Pl)
def Mc.deed (m:Mc):Mc:={ m with n:=m.n+1 }
def hdOk (m : Mc) (p : Pl) (rs : List Rw) (ms : Option (Sm × Int)) (r : Rw) : Bool :=
  rs.all (soP m.pt) && match ms with
  | none => true
  | some (s, f) =>
    let w := wthP m.pt s
    (match m.kn p with
     | none => true
     | some k => decide (¬ (k.1 * w.2 - w.1 * k.2 < f * w.2 * k.2))) && (!soP m.pt r || decide (0 ≤ w.1))
 --odd
def hdKn (m:Mc) (p:Pl) (ms:Option (Sm × Int)) (r:Rw):Pl->Option Fr :=
 match ms with
 | none=>m.kn
 | some (s,_)=>if soP m.pt r then fun q=>if q=p then some (wthP m.pt s) else m.kn q else m.kn
def Mc.pass (m:Mc) (p:Pl):Mc:={ m with pa:=m.pa++[(p,m.pt)] }
def stpM (m:Mc) (at_:Nat):Ins->Stp
 | .halt=>.stop "done" m []
 | .jump to=>.on m to
 | .enter p=>.on { m with kn:=fun q=>if q=p then none else m.kn q } (at_+1)
 | .set p x s=>if m.n=300 then .stop "going" m p else .on { m.deed with pt:=putP m.pt x (wthP m.pt s) } (at_+1)
 | .any p x=>if m.n=300 then .stop "going" m p else match m.gv with
  | []=>.stop "wanting" m p
  | g :: r=>.on { m.deed with pt:=putP m.pt x g,gv:=r } (at_+1)
 | .note p rs=>if m.n=300 then .stop "going" m p else if rs.all (soP m.pt) then .on (m.deed.pass p) (at_+1) else .stop "broken" m p
 | .fork p to=>if m.n=300 then .stop "going" m p else match m.tu with
  | []=>.stop "wanting" m p
  | t :: r=>.on { m.deed with tu:=r } (if t=0 then at_+1 else to)
 | .unl p r to=>if m.n=300 then .stop "going" m p else .on m.deed (if soP m.pt r then at_+1 else to)
 | .head p rs ms r to=>if m.n=300 then .stop "going" m p else
  if hdOk m p rs ms r then .on { m.deed.pass p with kn:=hdKn m p ms r } (if soP m.pt r then at_+1 else to) else .stop "broken" m p
inductive Ends (cd:List Ins):Mc->Nat->Str->Mc->Pl->Prop
 | stop {m:Mc} {a:Nat} {i:Ins} {w:Str} {m':Mc} {p:Pl} (h:cd[a]?=some i) (e:stpM m a i=.stop w m' p):Ends cd m a w m' p
 | on {m:Mc} {a:Nat} {i:Ins} {m1:Mc} {b:Nat} {w:Str} {m':Mc} {p:Pl} (h:cd[a]?=some i) (e:stpM m a i=.on m1 b) (k:Ends cd m1 b w m' p):Ends cd m a w m' p
structure TrA where
 o:Addr
 pt:Addr
 tu:Addr
 gv:Addr
 pa:Addr
 wo:Addr
structure TrS where
 pt:Pt0
 tu:List Int
 gv:List Fr
 n:Nat
 pa:List (Pl × Addr)
 wo:List (Pl × D)
 wd:Str
 pl:Pl
def TrA.fp (a:TrA):List Addr:=[a.o,a.pt,a.tu,a.gv,a.pa,a.wo]
def trF (a:TrA) (s:TrS):List (Str × D):=[("point",.ref a.pt),("turns",.ref a.tu),("givens",.ref a.gv),("deeds",.int s.n),("passed",.ref a.pa),("worths",.ref a.wo),("word",.str s.wd),("place",plcD s.pl)]
def pasD (x:Pl × Addr):D:=.tup [plcD x.1,.ref x.2]
structure TrOk (C:Addr) (M:MH) (a:TrA) (s:TrS):Prop where
 o:M a.o=some (.ins C (trF a s))
 pt:M a.pt=some (.dic (ptKv s.pt))
 tu:M a.tu=some (.lst (s.tu.map D.int))
 gv:M a.gv=some (.lst (s.gv.map frD))
 pa:M a.pa=some (.lst (s.pa.map pasD))
 wo:M a.wo=some (.tkd s.wo)
 nd:a.fp.Nodup
def KeepT (a:TrA) (M M':MH):Prop:=∀ c o,c∉a.fp->M c=some o->M' c=some o
theorem KeepT.refl (a:TrA) (M:MH):KeepT a M M:=fun _ _ _ h=>h
theorem KeepT.trans {a:TrA} {M M1 M2:MH} (h:KeepT a M M1) (k:KeepT a M1 M2):KeepT a M M2:=fun c o n e=>k c o n (h c o n e)
theorem KeepT.ext {a:TrA} {M M':MH} (h:Ext M M'):KeepT a M M':=fun c o _ e=>h c o e
theorem TrOk.keep {C:Addr} {M M':MH} {a:TrA} {s:TrS} (h:TrOk C M a s) (k:∀ b∈a.fp,∀ o,M b=some o->M' b=some o):TrOk C M' a s :=
 ⟨k _ (by simp [TrA.fp]) _ h.o,k _ (by simp [TrA.fp]) _ h.pt,k _ (by simp [TrA.fp]) _ h.tu,k _ (by simp [TrA.fp]) _ h.gv,k _ (by simp [TrA.fp]) _ h.pa,k _ (by simp [TrA.fp]) _ h.wo,h.nd⟩
theorem TrOk.ext {C:Addr} {M M':MH} {a:TrA} {s:TrS} (h:TrOk C M a s) (x:Ext M M'):TrOk C M' a s:=h.keep fun b _ o e=>x b o e
theorem KeepT.put {a:TrA} {M:MH} {b:Addr} {o:MO} (hb:b∈a.fp):KeepT a M (mset M b o):=fun c u n e=>by
 rw [mset_ne (fun z=>n (by rw [z];exact hb))];exact e
theorem TrOk.setO {C:Addr} {M:MH} {a:TrA} {s s':TrS} (h:TrOk C M a s) (e1:s'.pt=s.pt) (e2:s'.tu=s.tu) (e3:s'.gv=s.gv) (e4:s'.pa=s.pa) (e5:s'.wo=s.wo) {fs:List (Str × D)} (ef:fs=trF a s'):TrOk C (mset M a.o (.ins C fs)) a s':=by
 have nd:=h.nd
 simp only [TrA.fp,List.nodup_cons,List.mem_cons,List.not_mem_nil,not_or,or_false] at nd
 obtain ⟨⟨n1,n2,n3,n4,n5⟩,_⟩:=nd
 refine ⟨by rw [mset_same,ef],?_,?_,?_,?_,?_,h.nd⟩
 ·rw [mset_ne (Ne.symm n1),e1];exact h.pt
 ·rw [mset_ne (Ne.symm n2),e2];exact h.tu
 ·rw [mset_ne (Ne.symm n3),e3];exact h.gv
 ·rw [mset_ne (Ne.symm n4),e4];exact h.pa
 ·rw [mset_ne (Ne.symm n5),e5];exact h.wo
theorem TrOk.setW {C:Addr} {M:MH} {a:TrA} {s:TrS} (h:TrOk C M a s) {wo wo':List (Pl × D)} (e:wo=wo'):TrOk C (mset M a.wo (.tkd wo)) a { s with wo:=wo' }:=by
 have nd:=h.nd
 simp only [TrA.fp,List.nodup_cons,List.mem_cons,List.not_mem_nil,not_or,or_false] at nd
 obtain ⟨⟨n1,n2,n3,n4,n5⟩,⟨m1,m2,m3,m4⟩,⟨k1,k2,k3⟩,⟨l1,l2⟩,j1,_⟩:=nd
 refine ⟨by rw [mset_ne n5];exact h.o,by rw [mset_ne m4];exact h.pt,by rw [mset_ne k3];exact h.tu,by rw [mset_ne l2];exact h.gv,by rw [mset_ne j1];exact h.pa,by rw [mset_same,e],h.nd⟩
theorem TrOk.setPt {C:Addr} {M:MH} {a:TrA} {s:TrS} (h:TrOk C M a s) {kv:List (Str × D)} {pt:Pt0} (e:kv=ptKv pt):TrOk C (mset M a.pt (.dic kv)) a { s with pt:=pt }:=by
 have nd:=h.nd
 simp only [TrA.fp,List.nodup_cons,List.mem_cons,List.not_mem_nil,not_or,or_false] at nd
 obtain ⟨⟨n1,n2,n3,n4,n5⟩,⟨m1,m2,m3,m4⟩,⟨k1,k2,k3⟩,⟨l1,l2⟩,j1,_⟩:=nd
 refine ⟨by rw [mset_ne n1];exact h.o,by rw [mset_same,e],by rw [mset_ne (Ne.symm m1)];exact h.tu,by rw [mset_ne (Ne.symm m2)];exact h.gv,by rw [mset_ne (Ne.symm m3)];exact h.pa,by rw [mset_ne (Ne.symm m4)];exact h.wo,h.nd⟩
theorem TrOk.setTu {C:Addr} {M:MH} {a:TrA} {s:TrS} (h:TrOk C M a s) {ds:List D} {tu:List Int} (e:ds=tu.map D.int):TrOk C (mset M a.tu (.lst ds)) a { s with tu:=tu }:=by
 have nd:=h.nd
 simp only [TrA.fp,List.nodup_cons,List.mem_cons,List.not_mem_nil,not_or,or_false] at nd
 obtain ⟨⟨n1,n2,n3,n4,n5⟩,⟨m1,m2,m3,m4⟩,⟨k1,k2,k3⟩,⟨l1,l2⟩,j1,_⟩:=nd
 refine ⟨by rw [mset_ne n2];exact h.o,by rw [mset_ne m1];exact h.pt,by rw [mset_same,e],by rw [mset_ne (Ne.symm k1)];exact h.gv,by rw [mset_ne (Ne.symm k2)];exact h.pa,by rw [mset_ne (Ne.symm k3)];exact h.wo,h.nd⟩
theorem TrOk.setGv {C:Addr} {M:MH} {a:TrA} {s:TrS} (h:TrOk C M a s) {ds:List D} {gv:List Fr} (e:ds=gv.map frD):TrOk C (mset M a.gv (.lst ds)) a { s with gv:=gv }:=by
 have nd:=h.nd
 simp only [TrA.fp,List.nodup_cons,List.mem_cons,List.not_mem_nil,not_or,or_false] at nd
 obtain ⟨⟨n1,n2,n3,n4,n5⟩,⟨m1,m2,m3,m4⟩,⟨k1,k2,k3⟩,⟨l1,l2⟩,j1,_⟩:=nd
 refine ⟨by rw [mset_ne n3];exact h.o,by rw [mset_ne m2];exact h.pt,by rw [mset_ne k1];exact h.tu,by rw [mset_same,e],by rw [mset_ne (Ne.symm l1)];exact h.pa,by rw [mset_ne (Ne.symm l2)];exact h.wo,h.nd⟩
theorem TrOk.setPa {C:Addr} {M:MH} {a:TrA} {s:TrS} (h:TrOk C M a s) {ds:List D} {pa:List (Pl × Addr)} (e:ds=pa.map pasD):TrOk C (mset M a.pa (.lst ds)) a { s with pa:=pa }:=by
 have nd:=h.nd
 simp only [TrA.fp,List.nodup_cons,List.mem_cons,List.not_mem_nil,not_or,or_false] at nd
 obtain ⟨⟨n1,n2,n3,n4,n5⟩,⟨m1,m2,m3,m4⟩,⟨k1,k2,k3⟩,⟨l1,l2⟩,j1,_⟩:=nd
 refine ⟨by rw [mset_ne n4];exact h.o,by rw [mset_ne m3];exact h.pt,by rw [mset_ne k2];exact h.tu,by rw [mset_ne l1];exact h.gv,by rw [mset_same,e],by rw [mset_ne (Ne.symm j1)];exact h.wo,h.nd⟩
structure TrK (K:PySem.W.Frag) (C:Addr):Prop where
 cls:Cls K C
 no:∀ f∈[Str.ofString "point",Str.ofString "turns",Str.ofString "givens",Str.ofString "deeds",Str.ofString "passed",Str.ofString "worths",Str.ofString "word",Str.ofString "place"],NoAttr K C f
theorem TrK.pt {K:PySem.W.Frag} {C:Addr} (h:TrK K C):NoAttr K C "point" := h.no _ (.head _)
theorem TrK.tu {K:PySem.W.Frag} {C:Addr} (h:TrK K C):NoAttr K C "turns" := h.no _ (.tail _ (.head _))
theorem TrK.gv {K:PySem.W.Frag} {C:Addr} (h:TrK K C):NoAttr K C "givens" := h.no _ (.tail _ (.tail _ (.head _)))
theorem TrK.n {K:PySem.W.Frag} {C:Addr} (h:TrK K C):NoAttr K C "deeds" := h.no _ (.tail _ (.tail _ (.tail _ (.head _))))
theorem TrK.pa {K:PySem.W.Frag} {C:Addr} (h:TrK K C):NoAttr K C "passed" := h.no _ (.tail _ (.tail _ (.tail _ (.tail _ (.head _)))))
theorem TrK.wo {K:PySem.W.Frag} {C:Addr} (h:TrK K C):NoAttr K C "worths" := h.no _ (.tail _ (.tail _ (.tail _ (.tail _ (.tail _ (.head _))))))
theorem TrK.wd {K:PySem.W.Frag} {C:Addr} (h:TrK K C):NoAttr K C "word" := h.no _ (.tail _ (.tail _ (.tail _ (.tail _ (.tail _ (.tail _ (.head _)))))))
theorem TrK.pl {K:PySem.W.Frag} {C:Addr} (h:TrK K C):NoAttr K C "place" := h.no _ (.tail _ (.tail _ (.tail _ (.tail _ (.tail _ (.tail _ (.tail _ (.head _))))))))
inductive spStop (C:Addr) (ds:List D) (M:MH) (Q:DK):Prop | mk:∀ (a:TrA) (s:TrS) (w:Str) (p:Pl),ds=[.ref a.o,.str w,plcD p]->TrOk C M a s->(∀ M',TrOk C M' a { s with wd:=w,pl:=p }->KeepT a M M'->Q .non M')->spStop C ds M Q
inductive spMay (C:Addr) (ds:List D) (M:MH) (Q:DK):Prop | mk:∀ (a:TrA) (s:TrS) (p:Pl),ds=[.ref a.o,plcD p]->TrOk C M a s->s.n<=300->(s.n=300->∀ M',TrOk C M' a { s with wd:=Str.ofString "going",pl:=p }->KeepT a M M'->Q (.bl false) M')->(s.n < 300->∀ M',TrOk C M' a { s with n:=s.n+1 }->KeepT a M M'->Q (.bl true) M')->spMay C ds M Q
inductive spTold (C:Addr) (ds:List D) (M:MH) (Q:DK):Prop | mk:∀ (a:TrA) (s:TrS),ds=[.ref a.o]->TrOk C M a s->(∀ q,M q=none->Q (.tup [.str s.wd,.ref a.pa,plcD s.pl,.ref q]) (mset M q (.dic (ptKv s.pt))))->spTold C ds M Q
inductive spEnter (C:Addr) (ds:List D) (M:MH) (Q:DK):Prop | mk:∀ (a:TrA) (s:TrS) (p:Pl),ds=[.ref a.o,plcD p]->TrOk C M a s->s.wo.length<=500->(∀ M',TrOk C M' a { s with wo:=putT s.wo p .non }->KeepT a M M'->Q .non M')->spEnter C ds M Q
theorem lk_kv (x:Str):∀ p:Pt0,lkD (ptKv p) x=(p.lookup x).map frD
 | []=>rfl
 | (y,v) :: r=>by
  show lkD ((y,frD v) :: ptKv r) x=_
  rw [lkD_cons,List.lookup_cons]
  by_cases z:y=x
  ·subst z;simp
  ·rw [if_neg z,lk_kv x r]
   have:(x == y)=false:=by simp [Ne.symm z]
   rw [this]
theorem getP_lk (x:Str):∀ p:Pt0,getP p x=(p.lookup x).getD (0,1)
 | []=>rfl
 | (y,v) :: r=>by
  unfold getP
  rw [List.lookup_cons]
  by_cases z:y=x
  ·subst z;simp
  ·rw [if_neg z,getP_lk x r]
   have:(x == y)=false:=by simp [Ne.symm z]
   rw [this]
theorem at_kv (p:Pt0) (x:Str):atP (ptKv p) x=getP p x:=by
 unfold atP
 rw [lk_kv,getP_lk]
 cases p.lookup x<;>rfl
theorem add_kv (p:Pt0):∀ (ts:List (Str × Int)) (t b:Int),addUp (ptKv p) ts t b=sumP p ts t b
 | [],t,b=>rfl
 | u :: r,t,b=>by
  unfold addUp sumP
  rw [at_kv]
  exact add_kv p r _ _
theorem so_kv (p:Pt0) (r:Rw):soB r.1 (ptKv p) r.2.1 r.2.2=soP p r:=by
 unfold soB soP
 rw [add_kv]
theorem wth_kv (p:Pt0) (s:Sm):fr (tp ((addUp (ptKv p) s.1 0 1).1+s.2.1 * (addUp (ptKv p) s.1 0 1).2) ((addUp (ptKv p) s.1 0 1).2 * s.2.2)) (bt ((addUp (ptKv p) s.1 0 1).1+s.2.1 * (addUp (ptKv p) s.1 0 1).2) ((addUp (ptKv p) s.1 0 1).2 * s.2.2))=frD (wthP p s):=by
 rw [add_kv];rfl
theorem put_kv (x:Str) (v:Fr) (p:Pt0) (h:x∈p.map (·.1)):putD (ptKv p) x (frD v)=ptKv (putP p x v):=by
 have ha:((ptKv p).any fun kv=>decide (kv.1=x))=true:=by
  obtain ⟨y,hy,e⟩:=List.mem_map.mp h
  exact List.any_eq_true.mpr ⟨(y.1,frD y.2),List.mem_map.mpr ⟨y,hy,rfl⟩,by simp [e]⟩
 unfold putD
 rw [if_pos ha]
 unfold ptKv putP
 rw [List.map_map,List.map_map]
 refine List.map_congr_left fun y _=>?_
 show (if y.1=x then (y.1,frD v) else (y.1,frD y.2))=((if y.1=x then (y.1,v) else y).1,frD (if y.1=x then (y.1,v) else y).2)
 split<;>rfl
theorem ix_zero {n:Nat} (h:0 < n):ixN n 0=some 0:=by simp [ixN,h]
theorem TrOk.has {C:Addr} {M:MH} {a:TrA} {s:TrS} (h:TrOk C M a s):∀ b∈a.fp,∃ o,M b=some o:=fun b hb=>by
 simp only [TrA.fp,List.mem_cons,List.not_mem_nil,or_false] at hb
 rcases hb with rfl | rfl | rfl | rfl | rfl | rfl
 ·exact ⟨_,h.o⟩
 ·exact ⟨_,h.pt⟩
 ·exact ⟨_,h.tu⟩
 ·exact ⟨_,h.gv⟩
 ·exact ⟨_,h.pa⟩
 ·exact ⟨_,h.wo⟩
theorem KeepT.none {C:Addr} {M M':MH} {a:TrA} {s:TrS} {r:Addr} (k:KeepT a M M') (h:TrOk C M' a s) (hr:M' r=none):M r=none:=by
 cases e:M r with
 | none=>rfl
 | some o =>
  have hn:r∉a.fp:=fun z=>by obtain ⟨u,hu⟩:=h.has r z;rw [hr] at hu;cases hu
  rw [k r o hn e] at hr;cases hr
def unT:D->Str × Int
 | .tup [.str s,.int i]=>(s,i)
 | _=>(Str.ofString "",0)
def unR:D->Rw
 | .tup [.str w,.tup ts,.int b]=>(decide (w=Str.ofString "least"),ts.map unT,b)
 | _=>(true,[],0)
theorem unR_rw (r:Rw):unR (rwDk r)=r:=by
 obtain ⟨k,ts,b⟩:=r
 show (decide (word k=Str.ofString "least"),(ts.map tD).map unT,b)=(k,ts,b)
 have e1:decide (word k=Str.ofString "least")=k:=by cases k<;>decide +kernel
 have e2:(ts.map tD).map unT=ts:=by
  rw [List.map_map]
  have:(unT ∘ tD)=id:=by funext t;rfl
  rw [this,List.map_id]
 rw [e1,e2]
def soD (p:Pt0) (d:D):D:=.bl (soP p (unR d))
theorem soD_all (p:Pt0) (rs:List Rw):((rs.map rwDk).filter fun _=>true).map (soD p)=(rs.map (soP p)).map D.bl:=by
 rw [List.filter_eq_self.mpr (by simp),List.map_map,List.map_map]
 refine List.map_congr_left fun r _=>?_
 show D.bl (soP p (unR (rwDk r)))=_
 rw [unR_rw];rfl
theorem all_map (p:Pt0) (rs:List Rw):(rs.map (soP p)).all id=rs.all (soP p):=by
 rw [List.all_map];rfl
def RwOk (p:Pt0) (r:Rw):Prop:=AllHas (ptKv p) r.2.1/\B 600 r.2.2
def SmOk (p:Pt0) (s:Sm):Prop:=AllHas (ptKv p) s.1/\B 64 s.2.1/\0 < s.2.2/\B 64 s.2.2
inductive spMeets (C:Addr) (ds:List D) (M:MH) (Q:DK):Prop | mk:∀ (a:TrA) (s:TrS) (rs:List Rw),ds=[.ref a.o,.tup (rs.map rwDk)]->TrOk C M a s->(∀ r∈rs,RwOk s.pt r)->rs.length<=5->(∀ M',Ext M M'->Q (.bl (rs.all (soP s.pt))) M')->spMeets C ds M Q
inductive spPasses (C:Addr) (ds:List D) (M:MH) (Q:DK):Prop | mk:∀ (a:TrA) (s:TrS) (p:Pl) (g:Bool) (way:Int),ds=[.ref a.o,plcD p,.bl g,.int way]->TrOk C M a s->s.pa.length<=300->(g=false->∀ M',TrOk C M' a { s with wd:=Str.ofString "broken",pl:=p }->KeepT a M M'->Q .non M')->(g=true->∀ q M',M q=none->M' q=some (.dic (ptKv s.pt))->TrOk C M' a { s with pa:=s.pa++[(p,q)] }->KeepT a M M'->Q (.int way) M')->spPasses C ds M Q
def Going (C:Addr) (M:MH) (a:TrA) (s:TrS) (p:Pl) (Q:DK):Prop:=s.n=300->∀ M',TrOk C M' a { s with wd:=Str.ofString "going",pl:=p }->KeepT a M M'->Q .non M'
inductive spPut (C:Addr) (ds:List D) (M:MH) (Q:DK):Prop | mk:∀ (a:TrA) (s:TrS) (p:Pl) (x:Str) (sm:Sm),ds=[.ref a.o,plcD p,.str x,smDk sm]->TrOk C M a s->s.n<=300->s.pt.length<=10->x∈s.pt.map (·.1)->SmOk s.pt sm->Going C M a s p Q->(s.n < 300->∀ M',TrOk C M' a { s with n:=s.n+1,pt:=putP s.pt x (wthP s.pt sm) }->KeepT a M M'->Q (.int 0) M')->spPut C ds M Q
inductive spTakeG (C:Addr) (ds:List D) (M:MH) (Q:DK):Prop | mk:∀ (a:TrA) (s:TrS) (p:Pl) (x:Str),ds=[.ref a.o,plcD p,.str x]->TrOk C M a s->s.n<=300->s.pt.length<=10->s.gv.length<=3000->x∈s.pt.map (·.1)->Going C M a s p Q->(s.n < 300->s.gv=[]->∀ M',TrOk C M' a { s with n:=s.n+1,wd:=Str.ofString "wanting",pl:=p }->KeepT a M M'->Q .non M')->(s.n < 300->∀ g r,s.gv=g :: r->∀ M',TrOk C M' a { s with n:=s.n+1,gv:=r,pt:=putP s.pt x g }->KeepT a M M'->Q (.int 0) M')->spTakeG C ds M Q
inductive spFork (C:Addr) (ds:List D) (M:MH) (Q:DK):Prop | mk:∀ (a:TrA) (s:TrS) (p:Pl),ds=[.ref a.o,plcD p]->TrOk C M a s->s.n<=300->s.tu.length<=3000->Going C M a s p Q->(s.n < 300->s.tu=[]->∀ M',TrOk C M' a { s with n:=s.n+1,wd:=Str.ofString "wanting",pl:=p }->KeepT a M M'->Q .non M')->(s.n < 300->∀ t r,s.tu=t :: r->∀ M',TrOk C M' a { s with n:=s.n+1,tu:=r }->KeepT a M M'->Q (.int t) M')->spFork C ds M Q
inductive spAsk (C:Addr) (ds:List D) (M:MH) (Q:DK):Prop | mk:∀ (a:TrA) (s:TrS) (p:Pl) (r:Rw),ds=[.ref a.o,plcD p,rwDk r]->TrOk C M a s->s.n<=300->RwOk s.pt r->Going C M a s p Q->(s.n < 300->∀ M',TrOk C M' a { s with n:=s.n+1 }->KeepT a M M'->Q (.int (if soP s.pt r then 0 else 1)) M')->spAsk C ds M Q
inductive spNote (C:Addr) (ds:List D) (M:MH) (Q:DK):Prop | mk:∀ (a:TrA) (s:TrS) (p:Pl) (rs:List Rw),ds=[.ref a.o,plcD p,.tup (rs.map rwDk)]->TrOk C M a s->s.n<=300->s.pa.length<=300->(∀ r∈rs,RwOk s.pt r)->rs.length<=5->Going C M a s p Q->(s.n < 300->rs.all (soP s.pt)=false->∀ M',TrOk C M' a { s with n:=s.n+1,wd:=Str.ofString "broken",pl:=p }->KeepT a M M'->Q .non M')->(s.n < 300->rs.all (soP s.pt)=true->∀ q M',M q=none->M' q=some (.dic (ptKv s.pt))->TrOk C M' a { s with n:=s.n+1,pa:=s.pa++[(p,q)] }->KeepT a M M'->Q (.int 0) M')->spNote C ds M Q
end KA
namespace D3
open PySem PySem.Spec PyProof.Rows L2
section
variable {X:Cx} {G:Ga} {M:MH} {e o:Expr} {apos cpos:Pos} {Q:DK}
theorem ev_dget1T (hu:X.A.units+64 < cLine) (h:EV X G M o fun d M1=>∃ p,d=.ref p/\(∃ kvs,M1 p=some (.tkd kvs))/\EV X G M1 e fun d2 M2=>∃ ks kvs,d2=.tup (ks.map D.int)/\M2 p=some (.tkd kvs)/\Q ((lkT kvs ks).getD .non) M2)
  (m:L2.M1 X o "get" apos e cpos):EV X G M (.Call (.Attribute o "get" apos) [e] [] cpos) Q:=by
 refine EV.of (pe_dget1 (Nat.lt_of_le_of_lt (by omega) hu) (pe_D (G:=G)) (pe_D (G:=G)) m) fun σ H kf R=>?_
 refine ⟨M,_,R,h,fun v H1 d M1 kf1 g1 i1 R1 q=>?_⟩
 obtain ⟨p,rfl,⟨kvs0,h0⟩,q⟩:=q
 rw [is_ref] at i1;subst i1
 obtain ⟨ys0,e0,_⟩:=R1.mem p _ h0
 refine ⟨p,rfl,.inr ⟨ys0,.inl e0⟩,M1,_,R1,q,fun y H2 d2 M2 kf2 g2 i2 R2 q=>?_⟩
 obtain ⟨ks,kvs,rfl,hp,q⟩:=q
 rw [is_tup] at i2
 obtain ⟨b,xs,rfl,hb,hxs⟩:=i2
 have:=isl_ints hxs;subst this
 obtain ⟨ys,e1,ky⟩:=R2.mem p _ hp
 refine ⟨valV ys (ks.map Sum.inl),DGet.t (k:=ks.map Sum.inl) e1 (by rw [inl_kV];exact hb),fun _=>⟨g1.trans g2,(lkT kvs ks).getD .non,M2,?_,R2.mem,q⟩⟩
 have:=ky.val ks
 cases hl:lkT kvs ks with
 | none =>
  rw [hl] at this
  rw [show valV ys (ks.map Sum.inl)=none from this];exact is_non.mpr rfl
 | some d =>
  rw [hl] at this
  obtain ⟨v,h1,h2⟩:=this
  rw [h1];exact h2
end
end D3
namespace KA
open PySem PySem.Spec PyProof.Rows L2 D3 K01
structure FrOk (x:Fr):Prop where
 pos:0 < x.2
 low:Int.gcd x.1 x.2=1
 top:B 23600 x.1
 bot:B 2900 x.2
def knW (wo:List (Pl × D)) (p:Pl):Option Fr:=match lkT wo p with
 | some (.tup [.int x,.int y])=>some (x,y)
 | _=>none
def WoOk (wo:List (Pl × D)):Prop:=∀ p d,lkT wo p=some d->d=.non\/∃ x,d=frD x/\FrOk x
theorem WoOk.cases {wo:List (Pl × D)} (h:WoOk wo) (p:Pl):((lkT wo p).getD .non=.non/\knW wo p=none)\/∃ x,(lkT wo p).getD .non=frD x/\knW wo p=some x/\FrOk x:=by
 unfold knW
 cases e:lkT wo p with
 | none=>exact .inl ⟨rfl,rfl⟩
 | some d =>
  rcases h p d e with rfl | ⟨x,rfl,ok⟩
  ·exact .inl ⟨rfl,rfl⟩
  ·exact .inr ⟨x,rfl,rfl,ok⟩
theorem WoOk.nil:WoOk []:=fun p d h=>by cases h
theorem WoOk.put {wo:List (Pl × D)} (h:WoOk wo) (p:Pl) {d:D} (hd:d=.non\/∃ x,d=frD x/\FrOk x):WoOk (putT wo p d):=fun q e hq=>by
 rw [lkT_put] at hq
 split at hq
 ·cases hq;exact hd
 ·exact h q e hq
theorem knW_put (wo:List (Pl × D)) (p q:Pl) (x:Fr):knW (putT wo p (frD x)) q=if q=p then some x else knW wo q:=by
 unfold knW
 rw [lkT_put]
 by_cases h:p=q
 ·rw [if_pos h,if_pos h.symm];rfl
 ·rw [if_neg h,if_neg (Ne.symm h)]
theorem knW_non (wo:List (Pl × D)) (p q:Pl):knW (putT wo p .non) q=if q=p then none else knW wo q:=by
 unfold knW
 rw [lkT_put]
 by_cases h:p=q
 ·rw [if_pos h,if_pos h.symm]
 ·rw [if_neg h,if_neg (Ne.symm h)]
theorem wth_ok {p:Pt0} {s:Sm} (h:SmOk p s):FrOk (wthP p s):=by
 obtain ⟨h1,h2,h3,h4⟩:=h
 obtain ⟨k1,k2,k3⟩:=h1.bounds 0 (by unfold B;decide)
 rw [add_kv] at k1 k2 k3
 have hU:(sumP p s.1 0 1).2 * s.2.2≠0:=by have:=Int.mul_pos k1 h3;omega
 exact ⟨bt_pos hU,coprime hU,B.le (tp_le hU) (B.up (by decide) (B.add k2 (B.up (n:=23500) (by decide) (B.mul h2 k3)))),B.le (bt_le hU) (B.up (by decide) (B.mul k3 h4))⟩
def lateF (k:Option Fr) (w:Fr) (f:Int):Bool:=match k with
 | none=>false
 | some k=>decide (k.1 * w.2 - w.1 * k.2 < f * w.2 * k.2)
theorem late_is {k w:Fr} {f:Int} (hk:0 < k.2) (hw:0 < w.2):decide (tp (gMinus k.1 k.2 f 1).1 (gMinus k.1 k.2 f 1).2 * w.2 < w.1 * bt (gMinus k.1 k.2 f 1).1 (gMinus k.1 k.2 f 1).2)=lateF (some k) w f:=by
 unfold lateF gMinus
 have c:=cross (k.1 * 1 - f * k.2) (k.2 * 1)
 have hb:=bt_pos (t:=k.1 * 1 - f * k.2) (b:=k.2 * 1) (by omega)
 generalize tp (k.1 * 1 - f * k.2) (k.2 * 1)=x at c
 generalize bt (k.1 * 1 - f * k.2) (k.2 * 1)=y at c hb
 refine decide_eq_decide.mpr ?_
 have e1:(x * w.2) * k.2=((k.1 - f * k.2) * w.2) * y:=by grind
 have e2:(w.1 * y) * k.2=(w.1 * k.2) * y:=by grind
 constructor
 ·intro h
  have h2:(x * w.2) * k.2 < (w.1 * y) * k.2:=Int.mul_lt_mul_of_pos_right h hk
  rw [e1,e2] at h2
  have h3:=Int.lt_of_mul_lt_mul_right h2 (Int.le_of_lt hb)
  grind
 ·intro h
  have h3:(k.1 - f * k.2) * w.2 < w.1 * k.2:=by grind
  have h2:=Int.mul_lt_mul_of_pos_right h3 hb
  rw [<- e1,<- e2] at h2
  exact Int.lt_of_mul_lt_mul_right h2 (Int.le_of_lt hk)
inductive spLessF (ds:List D) (M:MH) (Q:DK):Prop | mk:∀ a b c d:Int,ds=[fr a b,fr c d]->B 40000 a->B 3000 b->B 40000 c->B 3000 d->Q (.bl (decide (a * d < c * b))) M->spLessF ds M Q
def msGood (k:Option Fr) (w:Fr) (f:Int) (ins:Bool):Bool:=!lateF k w f && (!ins || decide (0<=w.1))
inductive spMeasured (C:Addr) (ds:List D) (M:MH) (Q:DK):Prop | mk:∀ (a:TrA) (s:TrS) (p:Pl) (sm:Sm) (f:Int) (ins:Bool),ds=[.ref a.o,plcD p,.tup [smDk sm,.int f],.bl ins]->TrOk C M a s->SmOk s.pt sm->B 64 f->WoOk s.wo->s.wo.length<=500->(∀ wo M',(msGood (knW s.wo p) (wthP s.pt sm) f ins=true->wo=if ins then putT s.wo p (frD (wthP s.pt sm)) else s.wo)->TrOk C M' a { s with wo:=wo }->KeepT a M M'->Q (.bl (msGood (knW s.wo p) (wthP s.pt sm) f ins)) M')->spMeasured C ds M Q
def MsOk (p:Pt0):Option (Sm × Int)->Prop
 | none=>True
 | some m=>SmOk p m.1/\B 64 m.2
def hdGood (s:TrS) (p:Pl) (rs:List Rw) (r:Rw):Option (Sm × Int)->Bool
 | none=>rs.all (soP s.pt)
 | some m=>rs.all (soP s.pt) && msGood (knW s.wo p) (wthP s.pt m.1) m.2 (soP s.pt r)
def hdWo (s:TrS) (p:Pl) (r:Rw):Option (Sm × Int)->List (Pl × D)
 | none=>s.wo
 | some m=>if soP s.pt r then putT s.wo p (frD (wthP s.pt m.1)) else s.wo
inductive spHead (C:Addr) (ds:List D) (M:MH) (Q:DK):Prop | mk:∀ (a:TrA) (s:TrS) (p:Pl) (rs:List Rw) (ms:Option (Sm × Int)) (r:Rw),ds=[.ref a.o,plcD p,.tup (rs.map rwDk),msDk ms,rwDk r]->TrOk C M a s->s.n<=300->s.pa.length<=300->(∀ r∈rs,RwOk s.pt r)->rs.length<=5->RwOk s.pt r->MsOk s.pt ms->WoOk s.wo->s.wo.length<=500->Going C M a s p Q->(s.n < 300->hdGood s p rs r ms=false->∀ wo M',TrOk C M' a { s with n:=s.n+1,wo:=wo,wd:=Str.ofString "broken",pl:=p }->KeepT a M M'->Q .non M')->(s.n < 300->hdGood s p rs r ms=true->∀ q M',M q=none->M' q=some (.dic (ptKv s.pt))->TrOk C M' a { s with n:=s.n+1,wo:=hdWo s p r ms,pa:=s.pa++[(p,q)] }->KeepT a M M'->Q (.int (if soP s.pt r then 0 else 1)) M')->spHead C ds M Q
end KA
namespace D3
open PySem PySem.Spec PyProof.Rows L2
section
variable {P:Program} {w:World} {A:Around} {E:Value->Shared->Prop} {s:Shared}
theorem keys_noneL:typeLookup (.type "list") (Str.ofString "keys")=pure none:=by kernel_rfl
theorem attrQ_missL {a:Addr} {xs:Array Value} {k:Nat} {sl:Array (Option Value)} {Q:Option Value->Shared->Prop} (e:s.heap.get? a=some { cls:=.type "list",data:=.seq xs k,slots:=sl }) (hh:A.handled=none)
  (q:∀ h' tk,(∀ b o,s.heap.get? b=some o->h'.get? b=some o)->Q none { s with heap:=h',toks:=tk }) :
  wpAny (model P w) A (getAttr? (.ref a) (Str.ofString "keys")) Q E s:=by
 show wpAny _ A (mkText _ >>= _) _ _ s
 refine wpAny_bind (wpAny_mkText ?_)
 show wpAny _ A (Sem.attempt (getAttrBy _ _ false) >>= _) _ _ _
 refine wpAny_bind (wpAny_attempt ?_)
 show wpAny _ A (holding _ (typeOf _ >>= _)) _ _ _
 refine wpAny_holding (wpAny_bind (wpAny_typeOf_ref e ?_))
 refine wpAny_bind (wpAny_of_eq PySem.F.slot_list_getattribute.lookup ?_)
 show wpAny _ A (getAttrByItsOwn _ _ (.type "list") (.builtin "list.__getattribute__") false false) _ _ _
 show wpAny _ A (hookBefore (.type "list") >>= _) _ _ _
 refine wpAny_bind (wpAny_of_eq (show hookBefore (.type "list")=pure none from by kernel_rfl) ?_)
 show wpAny _ A (Sem.attempt (holding [] (callGetattribute _ _ _ false)) >>= _) _ _ _
 refine wpAny_bind (wpAny_attempt (wpAny_holding ?_))
 show wpAny _ A (bindSpecial (.builtin "list.__getattribute__") (.ref a) >>= _) _ _ _
 refine wpAny_bind (wpAny_of_eq (PySem.F.slot_list_getattribute.bind _) ?_)
 refine call_meets PySem.F.slot_list_getattribute ⟨_,e,rfl⟩ am_entry_list_getattribute (PySem.F.args_list_getattribute_2 _ _) (meets_getattribute_miss_list a xs k sl _ _ keys_noneL (by decide +kernel)) ⟨e,hh,fun h' tk ex ne=>?_⟩
 obtain ⟨t,u,et⟩:=ne.there
 show wpAny _ A (isInstance _ _ >>= _) _ _ _
 refine wpAny_bind (wpAny_isInstance (T := "AttributeError") ⟨_,et,rfl⟩ sub_AttributeError ?_)
 show wpAny _ A (hookBehind (.type "list") none >>= _) _ _ _
 refine wpAny_bind (wpAny_of_eq am_list_getattr_none ?_)
 show wpAny _ A (throw _ >>= _) _ _ _
 refine wpAny_bind (wpAny_throw ?_)
 show wpAny _ A (isInstance _ _ >>= _) _ _ _
 refine wpAny_bind (wpAny_isInstance (T := "AttributeError") ⟨_,et,rfl⟩ sub_AttributeError ?_)
 exact wpAny_pure (q h' tk ne.keeps)
theorem call_pairsL {a:Addr} {its:List Value} {n:Nat} {sl:Array (Option Value)} {kv:Nat->Key × Value} {Q:Value->Shared->Prop} (hh:A.handled=none) (e:s.heap.get? a=some { cls:=.type "list",data:=.seq its.toArray n,slots:=sl }) (hz:its.length<=sizeLine)
  (hv:∀ i v,its[i]?=some v->PairAt P w s.heap v (kv i)) (hnd:∀ i j,i < j->j < its.length->(kv i).1≠(kv j).1)
  (q:∀ g tk,g.DictOf (mixKind P w) s.heap.objs.size ((List.range its.length).map kv)->(∀ b o,s.heap.get? b=some o->g.get? b=some o)->Q (.ref s.heap.objs.size) { s with heap:=g,toks:=tk }) :
  wpAny (model P w) A (call (.type "dict") [.ref a]) Q E s:=by
 refine callType_codes PySem.F.kt_called_dict (show checkTypeCall "dict" ⟨[.ref a],[]⟩=pure () from by kernel_rfl) PySem.F.entry_dict_init (kt_code_dict_new (Q₁:=fun obj s1=>obj=.ref s.heap.objs.size/\s1={ s with heap:=s.heap.push { cls:=.type "dict",data:=.dict #[] } }) _ ⟨rfl,rfl⟩) ?_
 rintro obj s1 ⟨rfl,rfl⟩
 have ed:(s.heap.push { cls:=.type "dict",data:=.dict #[] }).get? s.heap.objs.size=some { cls:=.type "dict",data:=.dict #[] }:=Heap.get?_push_size _ rfl
 refine ⟨⟨_,ed,rfl⟩,PySem.F.args_dict_init_2 _ _,?_⟩
 show wpAny _ A.in1.in1 (Builtin.Dict.selfAndRest "__init__" _ >>= _) _ _ _
 show wpAny _ A.in1.in1 ((Builtin.Dict.notOrdered "__init__" _ >>= _) >>= _) _ _ _
 refine wpAny_bind (wpAny_bind ?_)
 show wpAny _ A.in1.in1 (typeOf (.ref s.heap.objs.size) >>= _) _ _ _
 refine wpAny_bind (wpAny_typeOf_ref ed ?_)
 refine wpAny_pure ?_
 show wpAny _ A.in1.in1 (Builtin.Dict.addrOf (.ref s.heap.objs.size) >>= _) _ _ _
 refine wpAny_bind (wpAny_pure (wpAny_pure ?_))
 have ea:(s.heap.push { cls:=.type "dict",data:=.dict #[] }).get? a=some { cls:=.type "list",data:=.seq its.toArray n,slots:=sl }:=Heap.get?_push_of_some _ e
 show wpAny _ A.in1.in1 (typeOf (.ref a) >>= _) _ _ _
 refine wpAny_bind (wpAny_typeOf_ref ea ?_)
 show wpAny _ A.in1.in1 (getAttr? (.ref a) "keys" >>= _) _ _ _
 refine wpAny_bind (attrQ_missL ea hh fun h1 tk1 k1=>?_)
 show wpAny _ A.in1.in1 (rule _ >>= _) _ _ _
 refine wpAny_bind (wpAny_rule ?_)
 show wpAny _ A.in1.in1 (pyIter (.ref a) >>= _) _ _ _
 refine wpAny_bind (wpAny_pyIter_list ⟨_,k1 _ _ ea,rfl,n,rfl⟩ ?_)
 have ltA:a < h1.objs.size:=Heap.lt_size (k1 _ _ ea)
 have ltD:s.heap.objs.size < h1.objs.size:=Heap.lt_size (k1 _ _ ed)
 have W:=PySem.Walks.list (prog:=P) (w:=w) (A:=A.in1.in1) hh h1.objs.size a (Nat.ne_of_lt ltA) its.toArray
 have hs0:∀ b o,s.heap.get? b=some o->h1.get? b=some o:=fun b o z=>k1 _ _ (Heap.get?_push_of_some _ z)
 refine wpAny_pure ⟨plainId_quiet plainDul _,?_⟩
 refine pairs_loop (hp:=s.heap) (d:=s.heap.objs.size) W kv (fun i v hx=>hv i v (by simpa using hx)) (fun z=>?_) (Heap.get?_none_of_le (Nat.le_refl _)) (fun x hx=>?_) (fun i j h1 h2=>hnd i j h1 (by simpa using h2)) (by simpa using hz) _ 0 _ 0 0 rfl (Nat.zero_le _) ⟨⟨_,Heap.get?_push_size _ rfl,rfl,rfl⟩,⟨_,Heap.get?_push_of_some _ (k1 _ _ ea),rfl,n,rfl⟩⟩ (fun b o z=>Heap.get?_push_of_some _ (hs0 b o z)) ?_ fun g tk dd kp=>⟨rfl,?_⟩
 ·rcases List.mem_cons.mp z with z | z
  ·exact absurd z (Nat.ne_of_lt ltD)
  ·exact absurd (List.mem_singleton.mp z) (Nat.ne_of_gt (Heap.lt_size e))
 ·rw [List.mem_singleton.mp hx]
  exact Heap.get?_none_of_le (Nat.le_of_lt ltD)
 ·exact dict_keep (show (s.heap.push { cls:=.type "dict",data:=.dict #[] }).DictOf (mixKind P w) s.heap.objs.size [] from Heap.DictOf.new _) fun o z=>Heap.get?_push_of_some _ (k1 _ _ z)
 ·have:=q g tk (by simpa using dd) kp
  exact this
end
section
variable {X:Cx} {G:Ga} {M:MH} {e:Expr} {pos:Pos} {Q:DK}
theorem call_dictL (hc:X.calm=true):CallR X (.type "dict") (fun xs H Q=>∃ (a:Addr) (vs:List V) (ys:List (Key × V)),xs=[.ref a]/\H a=some (.lst vs)/\vs.length=ys.length/\(∀ (i:Nat) v y,vs[i]?=some v->ys[i]?=some y->∃ b,v=.ref b/\H b=some (.tup [kV y.1,y.2]))/\(ys.map (·.1)).Nodup/\∀ p,H p=none->Q (.ref p) (upd H p (.dK ys))):=by
 intro pins s σ H xs us Q I r h
 obtain ⟨a,vs,ys,rfl,e,hlen,hp,hnd,q⟩:=h
 obtain ⟨u,rfl,ru⟩:=vals1 r
 cases ru
 obtain ⟨z,its,n,rv,e1⟩:=(show ObjOk X.prog X.w H s.heap a (.lst vs) from I.hok a _ e)
 have hl:=rv.length
 have hit:∀ i:Nat,∃ kv:Key × Value,∀ y,ys[i]?=some y->y.1=kv.1/\RelV y.2 kv.2/\∀ u,its[i]?=some u->PairAt X.prog X.w s.heap u kv:=fun i=>by
  cases hy:ys[i]? with
  | none=>exact ⟨(Sum.inl 0,.none),fun y z=>by cases z⟩
  | some y =>
   have hi:i < vs.length:=by rw [hlen];exact (List.getElem?_eq_some_iff.mp hy).1
   obtain ⟨b,hb,hB⟩:=hp i vs[i] y (List.getElem?_eq_getElem hi) hy
   obtain ⟨u,hu,ru⟩:=rv.get (List.getElem?_eq_getElem hi)
   rw [hb] at ru
   cases (show u=Value.ref b from ru)
   obtain ⟨_,its2,rv2,o',e',cl',n',dat'⟩:=(show ObjOk X.prog X.w H s.heap b (.tup [kV y.1,y.2]) from I.hok b _ hB)
   cases rv2 with
   | cons r1 t1 =>
    cases t1 with
    | cons r2 t2 =>
     cases t2
     rename_i k0 v0
     refine ⟨(y.1,v0),fun y' hy'=>?_⟩
     cases hy'
     refine ⟨rfl,r2,fun u' hu'=>?_⟩
     rw [hu] at hu';cases hu'
     exact ⟨b,o',k0,n',rfl,e',cl',dat',kV_is r1⟩
 let kv:Nat->Key × Value:=fun i=>Classical.choose (hit i)
 have hkv:∀ i y,ys[i]?=some y->y.1=(kv i).1/\RelV y.2 (kv i).2/\∀ u,its[i]?=some u->PairAt X.prog X.w s.heap u (kv i):=fun i=>Classical.choose_spec (hit i)
 have hil:its.length=ys.length:=by rw [<- hl];exact hlen
 have hnone:s.heap.get? s.heap.objs.size=none:=Heap.get?_none_of_le (Nat.le_refl _)
 refine call_pairsL (kv:=kv) (I.ok.hd hc) e1 (by rw [<- hl];exact z) (fun i v hv=>?_) (fun i j h1 h2 z=>?_) fun g tk dd kp=>?_
 ·have hi:i < ys.length:=by rw [<- hil];exact (List.getElem?_eq_some_iff.mp hv).1
  exact (hkv i ys[i] (List.getElem?_eq_getElem hi)).2.2 v hv
 ·have hj:j < ys.length:=by rw [<- hil];exact h2
  have hi:i < ys.length:=Nat.lt_trans h1 hj
  rw [<- (hkv i ys[i] (List.getElem?_eq_getElem hi)).1,<- (hkv j ys[j] (List.getElem?_eq_getElem hj)).1] at z
  have:=List.pairwise_iff_getElem.mp hnd i j (by rw [List.length_map];exact hi) (by rw [List.length_map];exact hj) h1
  rw [List.getElem_map,List.getElem_map] at this
  exact this z
 ·rw [hil] at dd
  have I2:=I.laid (a:=s.heap.objs.size) (o:=.dK ys) (h':=g) (t':=tk) kp (Nat.le_refl _) (dk_new (by rw [<- hlen];exact z) (beq_eq_false_iff_ne.mpr (Ne.symm (Nat.ne_of_lt I.big))) (kv_of_ix fun i y hy=>⟨(hkv i y hy).1,(hkv i y hy).2.1⟩) dd)
  exact ⟨.ref s.heap.objs.size,_,I2,rfl,q _ (I.hok.fresh (Nat.le_refl _))⟩
theorem ev_dictL {p:Pos} (hc:X.calm=true) (hm:X.mg "dict" = none) (h:AV X G M [e] fun ds M1=>∃ (q:Addr) (ps:List (Str × D)),ds=[.ref q]/\M1 q=some (.lst (ps.map pairD))/\(ps.map (·.1)).Nodup/\∀ r,M1 r=none->Q (.ref r) (mset M1 r (.dic ps))) (hg:Gl X "dict") (he:SeX X e) (hpl:NpX X pos) :
  EV X G M (.Call (.Name "dict" p) [e] [] pos) Q :=
 ev_callTy (call_dictL hc) hm bootDict (h.mono fun ds M1 ⟨aq,ps,e1,hq,hnd,q⟩=>fun H xs kf hx m=>by
  subst e1
  obtain ⟨v,rfl,hv⟩:=isl1 hx
  rw [is_ref] at hv;subst hv
  obtain ⟨vs,ha,hvs⟩:=m aq _ hq
  obtain ⟨ys,k1,k2,k3,k4⟩:=pairs_is hvs
  refine ⟨aq,vs,ys,rfl,ha,k2,k4,?_,fun r hr kf'=>⟨grow_new hr,.ref r,mset M1 r (.dic ps),is_ref.mpr rfl,m.lay hr ⟨ys,upd_same,k1.grow (grow_new hr)⟩,q r (m.fresh hr kf')⟩⟩
  rw [k3]
  have:ps.map (fun t=>(Sum.inr t.1:Key))=(ps.map (·.1)).map Sum.inr:=by rw [List.map_map];rfl
  rw [this]
  exact nodup_inr hnd) hg (by decide) (by decide) he hpl
end
end D3
namespace KA
open PySem PySem.Spec PyProof.Rows L2 D3 K01
structure Bld (C o:Addr) (M:MH) (fs:List (Str × D)) (cs:List (Addr × MO)) (M':MH):Prop where
 nd:(o :: cs.map (·.1)).Nodup
 fr:∀ x∈cs,M x.1=none
 kp:∀ c u,c≠o->M c=some u->M' c=some u
 hc:∀ x∈cs,M' x.1=some x.2
 ho:M' o=some (.ins C fs)
theorem Bld.nil {C o:Addr} {M:MH} {fs:List (Str × D)} (h:M o=some (.ins C fs)):Bld C o M fs [] M:=⟨(by simp),(by simp),fun _ _ _ e=>e,(by simp),h⟩
theorem Bld.ext {C o:Addr} {M M' M2:MH} {fs:List (Str × D)} {cs:List (Addr × MO)} (h:Bld C o M fs cs M') (x:Ext M' M2):Bld C o M fs cs M2:=⟨h.nd,h.fr,fun c u n e=>x _ _ (h.kp c u n e),fun y hy=>x _ _ (h.hc y hy),x _ _ h.ho⟩
theorem Bld.new {C o:Addr} {M M':MH} {fs:List (Str × D)} {cs:List (Addr × MO)} (h:Bld C o M fs cs M') {c:Addr} (hc:M' c=none) (u:MO):Bld C o M fs (cs++[(c,u)]) (mset M' c u):=by
 have ho:c≠o:=fun z=>by rw [z,h.ho] at hc;cases hc
 have hcs:∀ x∈cs,x.1≠c:=fun x hx z=>by rw [<- z,h.hc x hx] at hc;cases hc
 refine ⟨?_,fun x hx=>?_,fun d v n e=>?_,fun x hx=>?_,by rw [mset_ne (Ne.symm ho)];exact h.ho⟩
 ·have nd:=h.nd
  rw [List.nodup_cons] at nd ⊢
  rw [List.map_append,List.nodup_append]
  refine ⟨fun z=>?_,nd.2,by simp,fun a ha b hb=>?_⟩
  ·rcases List.mem_append.mp z with z | z
   ·exact nd.1 z
   ·exact ho (Eq.symm (by simpa using z))
  ·obtain ⟨x,hx,rfl⟩:=List.mem_map.mp ha
   have:b=c:=by simpa using hb
   rw [this];exact hcs x hx
 ·rcases List.mem_append.mp hx with hx | hx
  ·exact h.fr x hx
  ·rw [List.mem_singleton.mp hx]
   show M c=none
   cases e:M c with
   | none=>rfl
   | some v=>rw [h.kp c v ho e] at hc;cases hc
 ·have:d≠c:=fun z=>by rw [z] at e;rw [h.kp c v ho e] at hc;cases hc
  rw [mset_ne this];exact h.kp d v n e
 ·rcases List.mem_append.mp hx with hx | hx
  ·rw [mset_ne (hcs x hx)];exact h.hc x hx
  ·rw [List.mem_singleton.mp hx];exact mset_same
theorem Bld.fld {C o:Addr} {M M':MH} {fs:List (Str × D)} {cs:List (Addr × MO)} (h:Bld C o M fs cs M') {fs':List (Str × D)}:Bld C o M fs' cs (mset M' o (.ins C fs')):=by
 have nd:=h.nd
 rw [List.nodup_cons] at nd
 refine ⟨h.nd,h.fr,fun c u n e=>by rw [mset_ne n];exact h.kp c u n e,fun x hx=>?_,mset_same⟩
 rw [mset_ne (fun z=>nd.1 (by rw [<- z];exact List.mem_map_of_mem hx))]
 exact h.hc x hx
def tr0 (pt:Pt0) (tu:List Int) (gv:List Fr):TrS:=⟨pt,tu,gv,0,[],[],Str.ofString "done",[]⟩
theorem Bld.tr {C:Addr} {M M':MH} {a:TrA} {s:TrS} (h:Bld C a.o M (trF a s) [(a.pt,.dic (ptKv s.pt)),(a.tu,.lst (s.tu.map D.int)),(a.gv,.lst (s.gv.map frD)),(a.pa,.lst (s.pa.map pasD)),(a.wo,.tkd s.wo)] M'):TrOk C M' a s/\KeepT a M M'/\∀ b∈a.fp,b≠a.o->M b=none:=by
 refine ⟨⟨h.ho,h.hc (a.pt,.dic (ptKv s.pt)) (by simp),h.hc (a.tu,.lst (s.tu.map D.int)) (by simp),h.hc (a.gv,.lst (s.gv.map frD)) (by simp),h.hc (a.pa,.lst (s.pa.map pasD)) (by simp),h.hc (a.wo,.tkd s.wo) (by simp),h.nd⟩,fun c u n e=>h.kp c u (fun z=>n (by rw [z];simp [TrA.fp])) e,fun b hb hn=>?_⟩
 simp only [TrA.fp,List.mem_cons,List.not_mem_nil,or_false] at hb
 rcases hb with rfl | rfl | rfl | rfl | rfl | rfl
 ·exact absurd rfl hn
 ·exact h.fr (a.pt,.dic (ptKv s.pt)) (by simp)
 ·exact h.fr (a.tu,.lst (s.tu.map D.int)) (by simp)
 ·exact h.fr (a.gv,.lst (s.gv.map frD)) (by simp)
 ·exact h.fr (a.pa,.lst (s.pa.map pasD)) (by simp)
 ·exact h.fr (a.wo,.tkd s.wo) (by simp)
def StOk (kvs:List (Str × D)) (pt:Pt0):Prop:=(pt.map (·.1)).Nodup/\pt.length<=10/\∀ x∈pt,lkD kvs x.1=some (frD x.2)
def unS:D->Str
 | .str s=>s
 | _=>Str.ofString ""
def stPair (kvs:List (Str × D)) (d:D):D:=D3.pairD (unS d,(lkD kvs (unS d)).getD .non)
theorem stPair_all {kvs:List (Str × D)} {pt:Pt0} (h:StOk kvs pt):(((pt.map (·.1)).map D.str).filter fun _=>true).map (stPair kvs)=(ptKv pt).map D3.pairD:=by
 rw [List.filter_eq_self.mpr (by simp),List.map_map,List.map_map]
 unfold ptKv
 rw [List.map_map]
 refine List.map_congr_left fun x hx=>?_
 show D3.pairD (x.1,(lkD kvs x.1).getD .non)=D3.pairD (x.1,frD x.2)
 rw [h.2.2 x hx];rfl
inductive spTrav (C:Addr) (ds:List D) (M:MH) (Q:DK):Prop | mk:∀ (o q tq gq:Addr) (kvs:List (Str × D)) (pt:Pt0) (tu:List Int) (gv:List Fr),ds=[.ref o,nms (pt.map (·.1)),.ref q,.ref tq,.ref gq]->M o=some (.ins C [])->M q=some (.dic kvs)->M tq=some (.lst (tu.map D.int))->M gq=some (.lst (gv.map frD))->StOk kvs pt->(∀ (a:TrA) M',a.o=o->TrOk C M' a (tr0 pt tu gv)->KeepT a M M'->(∀ b∈a.fp,b≠o->M b=none)->Q .non M')->spTrav C ds M Q
def PaIs (M:MH):List (Pl × Addr)->List (Pl × Pt0)->Prop
 | [],[]=>True
 | x :: r,y :: t=>x.1=y.1/\M x.2=some (.dic (ptKv y.2))/\PaIs M r t
 | _,_=>False
theorem PaIs.keep {M M':MH}:∀ {xs:List (Pl × Addr)} {ys:List (Pl × Pt0)},PaIs M xs ys->(∀ x∈xs,∀ o,M x.2=some o->M' x.2=some o)->PaIs M' xs ys
 | [],[],_,_=>trivial
 | x :: r,y :: t,h,k=>⟨h.1,k x (.head _) _ h.2.1,PaIs.keep h.2.2 fun z hz=>k z (.tail _ hz)⟩
 | [],_ :: _,h,_=>h.elim
 | _ :: _,[],h,_=>h.elim
theorem PaIs.snoc {M:MH} {p:Pl} {q:Addr} {pt:Pt0} (hq:M q=some (.dic (ptKv pt))):∀ {xs:List (Pl × Addr)} {ys:List (Pl × Pt0)},PaIs M xs ys->PaIs M (xs++[(p,q)]) (ys++[(p,pt)])
 | [],[],_=>⟨rfl,hq,trivial⟩
 | x :: r,y :: t,h=>⟨h.1,h.2.1,PaIs.snoc hq h.2.2⟩
 | [],_ :: _,h=>h.elim
 | _ :: _,[],h=>h.elim
theorem PaIs.has {M:MH}:∀ {xs:List (Pl × Addr)} {ys:List (Pl × Pt0)},PaIs M xs ys->∀ x∈xs,∃ o,M x.2=some o
 | [],[],_,x,hx=>by cases hx
 | z :: r,y :: t,h,x,hx=>by
  rcases List.mem_cons.mp hx with rfl | hx
  ·exact ⟨_,h.2.1⟩
  ·exact PaIs.has h.2.2 x hx
 | [],_ :: _,h,_,_=>h.elim
 | _ :: _,[],h,_,_=>h.elim
structure JnE (C:Addr) (M0 M:MH) (a:TrA) (s:TrS) (pt:Pt0) (pa:List (Pl × Pt0)):Prop where
 ok:TrOk C M a s
 kp:Ext M0 M
 fr:∀ b∈a.fp,M0 b=none
 pt:s.pt=pt
 pa:PaIs M s.pa pa
 pn:(s.pa.map (·.2)).Nodup
 pf:∀ x∈s.pa,M0 x.2=none/\x.2∉a.fp
theorem JnE.step {C:Addr} {M0 M M':MH} {a:TrA} {s s':TrS} {pt pt':Pt0} {pa:List (Pl × Pt0)} (h:JnE C M0 M a s pt pa) (ok:TrOk C M' a s') (k:KeepT a M M') (e1:s'.pt=pt') (e2:s'.pa=s.pa):JnE C M0 M' a s' pt' pa :=
 ⟨ok,fun c u e=>k c u (fun z=>by rw [h.fr c z] at e;cases e) (h.kp c u e),h.fr,e1,by rw [e2];exact h.pa.keep fun x hx o e=>k _ _ (h.pf x hx).2 e,by rw [e2];exact h.pn,by rw [e2];exact h.pf⟩
theorem JnE.pass {C:Addr} {M0 M M':MH} {a:TrA} {s s':TrS} {pt:Pt0} {pa:List (Pl × Pt0)} {p:Pl} {q:Addr} (h:JnE C M0 M a s pt pa) (ok:TrOk C M' a s') (k:KeepT a M M') (e1:s'.pt=pt) (hq:M q=none) (hq':M' q=some (.dic (ptKv pt))) (e2:s'.pa=s.pa++[(p,q)]):JnE C M0 M' a s' pt (pa++[(p,pt)]):=by
 have hn:q∉a.fp:=fun z=>by obtain ⟨u,hu⟩:=h.ok.has q z;rw [hq] at hu;cases hu
 have h0:M0 q=none:=by
  cases e:M0 q with
  | none=>rfl
  | some u=>rw [h.kp q u e] at hq;cases hq
 refine ⟨ok,fun c u e=>k c u (fun z=>by rw [h.fr c z] at e;cases e) (h.kp c u e),h.fr,e1,by rw [e2];exact (h.pa.keep fun x hx o e=>k _ _ (h.pf x hx).2 e).snoc hq',?_,?_⟩
 ·rw [e2,List.map_append,List.nodup_append]
  refine ⟨h.pn,by simp,fun x hx b hb=>?_⟩
  obtain ⟨y,hy,rfl⟩:=List.mem_map.mp hx
  have:b=q:=by simpa using hb
  rw [this]
  intro z
  obtain ⟨o,ho⟩:=h.pa.has y hy
  rw [z,hq] at ho;cases ho
 ·rw [e2]
  intro x hx
  rcases List.mem_append.mp hx with hx | hx
  ·exact h.pf x hx
  ·rw [List.mem_singleton.mp hx];exact ⟨h0,hn⟩
structure Jn (C:Addr) (M0 M:MH) (a:TrA) (s:TrS) (m:Mc):Prop where
 e:JnE C M0 M a s m.pt m.pa
 tu:s.tu=m.tu
 gv:s.gv=m.gv
 n:s.n=m.n
 kn:∀ p,knW s.wo p=m.kn p
 wo:WoOk s.wo
 le:s.pa.length<=s.n
def InsOk (pt:Pt0):Ins->Prop
 | .set _ x s=>x∈pt.map (·.1)/\SmOk pt s
 | .any _ x=>x∈pt.map (·.1)
 | .note _ rs=>(∀ r∈rs,RwOk pt r)/\rs.length<=5
 | .unl _ r _=>RwOk pt r
 | .head _ rs ms r _=>(∀ r∈rs,RwOk pt r)/\rs.length<=5/\RwOk pt r/\MsOk pt ms
 | _=>True
def deedI:Ins->Bool
 | .halt=>false
 | .jump _=>false
 | .enter _=>false
 | _=>true
def toI:Ins->Nat
 | .fork _ to=>to
 | .unl _ _ to=>to
 | .head _ _ _ _ to=>to
 | _=>0
def hasTo:Ins->Bool
 | .fork _ _=>true
 | .unl _ _ _=>true
 | .head _ _ _ _ _=>true
 | _=>false
def plI:Ins->Pl
 | .set p _ _=>p
 | .any p _=>p
 | .note p _=>p
 | .fork p _=>p
 | .unl p _ _=>p
 | .enter p=>p
 | .head p _ _ _ _=>p
 | _=>[]
def stopsAt (m:Mc) (i:Ins) (w:Str) (m':Mc) (p:Pl):Prop:=∀ n,stpM m n i=.stop w m' p
theorem hd_good {s:TrS} {m:Mc} {p:Pl} {rs:List Rw} {r:Rw} {ms:Option (Sm × Int)} (e1:s.pt=m.pt) (e2:∀ p,knW s.wo p=m.kn p):hdGood s p rs r ms=hdOk m p rs ms r:=by
 unfold hdGood hdOk
 cases ms with
 | none=>simp [e1]
 | some x =>
  obtain ⟨sm,f⟩:=x
  simp only
  rw [e1,e2]
  unfold msGood lateF
  cases m.kn p with
  | none=>simp
  | some k=>simp only [decide_not]
theorem hd_kn {s:TrS} {m:Mc} {p:Pl} {r:Rw} {ms:Option (Sm × Int)} (e1:s.pt=m.pt) (e2:∀ p,knW s.wo p=m.kn p) (q:Pl):knW (hdWo s p r ms) q=hdKn m p ms r q:=by
 unfold hdWo hdKn
 cases ms with
 | none=>exact e2 q
 | some x =>
  obtain ⟨sm,f⟩:=x
  simp only
  rw [e1]
  split
  ·rw [knW_put,e2]
  ·exact e2 q
theorem hd_wo {s:TrS} {p:Pl} {r:Rw} {ms:Option (Sm × Int)} (h:MsOk s.pt ms) (w:WoOk s.wo):WoOk (hdWo s p r ms):=by
 unfold hdWo
 cases ms with
 | none=>exact w
 | some x =>
  simp only
  split
  ·exact w.put p (.inr ⟨_,rfl,wth_ok h.1⟩)
  ·exact w
theorem hd_or {s:TrS} {p:Pl} {r:Rw} {ms:Option (Sm × Int)}:hdWo s p r ms=s.wo\/∃ d,hdWo s p r ms=putT s.wo p d:=by
 unfold hdWo
 cases ms with
 | none=>exact .inl rfl
 | some x =>
  simp only
  split
  ·exact .inr ⟨_,rfl⟩
  ·exact .inl rfl
structure WoK (ps:List Pl) (wo:List (Pl × D)):Prop where
 nd:(wo.map (·.1)).Nodup
 sub:∀ k∈wo.map (·.1),k∈ps
theorem WoK.nil (ps:List Pl):WoK ps []:=⟨by simp,fun k h=>by cases h⟩
theorem putT_keys (wo:List (Pl × D)) (p:Pl) (d:D):(putT wo p d).map (·.1)=if p∈wo.map (·.1) then wo.map (·.1) else wo.map (·.1)++[p]:=by
 unfold putT
 by_cases h:p∈wo.map (·.1)
 ·rw [if_pos h]
  have:(wo.any fun kv=>decide (kv.1=p))=true:=by
   obtain ⟨x,hx,e⟩:=List.mem_map.mp h
   exact List.any_eq_true.mpr ⟨x,hx,by simp [e]⟩
  rw [if_pos this,List.map_map]
  refine List.map_congr_left fun x _=>?_
  show (if x.1=p then (x.1,d) else x).1=x.1
  split<;>rfl
 ·rw [if_neg h]
  have:¬ (wo.any fun kv=>decide (kv.1=p))=true:=fun z=>by
   obtain ⟨x,hx,e⟩:=List.any_eq_true.mp z
   exact h (List.mem_map.mpr ⟨x,hx,of_decide_eq_true e⟩)
  rw [if_neg this,List.map_append];rfl
theorem WoK.put {ps:List Pl} {wo:List (Pl × D)} (h:WoK ps wo) {p:Pl} (hp:p∈ps) (d:D):WoK ps (putT wo p d):=by
 refine ⟨?_,?_⟩
 ·rw [putT_keys]
  split
  ·exact h.nd
  ·rename_i hn
   rw [List.nodup_append]
   exact ⟨h.nd,by simp,fun a ha b hb=>by
    have:b=p:=by simpa using hb
    rw [this];intro z;exact hn (by rw [<- z];exact ha)⟩
 ·rw [putT_keys]
  split
  ·exact h.sub
  ·intro k hk
   rcases List.mem_append.mp hk with hk | hk
   ·exact h.sub k hk
   ·rw [List.mem_singleton.mp hk];exact hp
theorem nodup_len:∀ {l:List Pl} {ps:List Pl},l.Nodup->(∀ k∈l,k∈ps)->l.length<=ps.length
 | [],ps,_,_=>Nat.zero_le _
 | x :: l,ps,h,s=>by
  rw [List.nodup_cons] at h
  have hx:=s x (.head _)
  have ih:=nodup_len (l:=l) (ps:=ps.erase x) h.2 fun k hk=>(List.mem_erase_of_ne (fun z=>h.1 (by rw [<- z];exact hk))).mpr (s k (.tail _ hk))
  rw [List.length_erase_of_mem hx] at ih
  have:0 < ps.length:=List.length_pos_of_mem hx
  rw [List.length_cons];omega
theorem WoK.len {ps:List Pl} {wo:List (Pl × D)} (h:WoK ps wo):wo.length<=ps.length:=by
 have:=nodup_len h.nd h.sub
 rwa [List.length_map] at this
structure Jw (C:Addr) (ps:List Pl) (M0 M:MH) (a:TrA) (s:TrS) (m:Mc):Prop where
 j:Jn C M0 M a s m
 wk:WoK ps s.wo
 wd:s.wd=Str.ofString "done"
 pl:s.pl=[]
structure McOk (m:Mc):Prop where
 n:m.n<=300
 pt:m.pt.length<=10
 tu:m.tu.length<=3000
 gv:m.gv.length<=3000
 t01:∀ t∈m.tu,t=0\/t=1
end KA
namespace D3
open PySem PySem.Spec PyProof.Rows L2
section
variable {X:Cx} {G:Ga} {M:MH} {c:Expr} {pos:Pos} {E:EndsD}
theorem ex_whileN {body:List Stmt} (Iv:Nat->Ga->MH->Prop) (n0:Nat) (hp:PassesOwn (model X.prog X.w) X.A X.env X.xe) (h0:Iv n0 G M)
  (step:∀ n G M,Iv n G M->TV X G M c fun k M1=>if k=true then EXs X G M1 body { nx:=fun G' M'=>∃ k,k < n/\Iv k G' M',ct:=fun G' M'=>∃ k,k < n/\Iv k G' M',bk:=E.nx,rt:=E.rt } else E.nx G M1) :
  EX X G M (.While c body [] pos) E:=by
 intro pins s σ H I R
 refine wpAny_While (codeAny_whileLoop (fun n s'=>∃ σ' H' G' M',Inv X pins σ' H' s'/\Grow H H'/\Rel X G' M' σ' H'/\Iv n G' M') ?_ n0 ⟨σ,H,G,M,I,Grow.refl _,R,h0⟩)
 rintro n s1 ⟨σ1,H1,G1,M1,I1,g1,R1,w1⟩
 refine wpAny_passesOwn hp (thn (step n G1 M1 w1 pins s1 σ1 H1 I1 R1) fun k s2 ⟨H2,M2,I2,g2,R2,q2⟩=>?_)
 cases k with
 | true =>
  rw [if_pos rfl]
  refine wpAny_passesOwn hp (thn (q2 pins s2 σ1 H2 I2 R2) fun f s3 q3=>?_)
  cases f with
  | next =>
   obtain ⟨σ3,H3,G3,M3,I3,g3,R3,k,lt,w3⟩:=q3
   exact ⟨k,lt,σ3,H3,G3,M3,I3,(g1.trans g2).trans g3,R3,w3⟩
  | cont =>
   obtain ⟨σ3,H3,G3,M3,I3,g3,R3,k,lt,w3⟩:=q3
   exact ⟨k,lt,σ3,H3,G3,M3,I3,(g1.trans g2).trans g3,R3,w3⟩
  | brk=>exact SPD.grow (f:=.brk) (E:={ E with bk:=E.nx }) (g1.trans g2) q3
  | ret v=>exact SPD.grow (f:=.ret v) (E:=E) (g1.trans g2) q3
 | false =>
  rw [if_neg Bool.false_ne_true]
  exact wpAny_execs_nil ⟨σ1,H2,G1,M2,I2,g1.trans g2,R2,q2⟩
end
end D3
namespace KA
open PySem PySem.Spec PyProof.Rows L2 D3 K01
structure ToldOk (M0 M:MH) (l r:Addr) (xs:List (Pl × Addr)) (pt:Pt0) (pa:List (Pl × Pt0)):Prop where
 ext:Ext M0 M
 hl:M l=some (.lst (xs.map pasD))
 hr:M r=some (.dic (ptKv pt))
 pa:PaIs M xs pa
 nd:(l :: r :: xs.map (·.2)).Nodup
 fr:∀ b∈l :: r :: xs.map (·.2),M0 b=none
theorem JnE.told {C:Addr} {M0 M:MH} {a:TrA} {s:TrS} {pt:Pt0} {pa:List (Pl × Pt0)} (h:JnE C M0 M a s pt pa) {r:Addr} (hr:M r=none):ToldOk M0 (mset M r (.dic (ptKv s.pt))) a.pa r s.pa pt pa:=by
 have x:=ext_new (o:=.dic (ptKv s.pt)) hr
 have hl:a.pa∈a.fp:=by simp [TrA.fp]
 have n1:a.pa≠r:=fun z=>by have:=h.ok.pa;rw [z,hr] at this;cases this
 have n2:∀ y∈s.pa,y.2≠r:=fun y hy z=>by obtain ⟨o,ho⟩:=h.pa.has y hy;rw [z,hr] at ho;cases ho
 have r0:M0 r=none:=by
  cases e:M0 r with
  | none=>rfl
  | some u=>rw [h.kp r u e] at hr;cases hr
 refine ⟨KA.Ext.trans h.kp x,x _ _ h.ok.pa,by rw [mset_same,h.pt],h.pa.keep fun y _ o e=>x _ _ e,?_,?_⟩
 ·rw [List.nodup_cons,List.nodup_cons]
  refine ⟨fun z=>?_,fun z=>?_,h.pn⟩
  ·rcases List.mem_cons.mp z with z | z
   ·exact n1 z
   ·obtain ⟨y,hy,e⟩:=List.mem_map.mp z
    exact (h.pf y hy).2 (by rw [e];exact hl)
  ·obtain ⟨y,hy,e⟩:=List.mem_map.mp z
   exact n2 y hy e
 ·intro b hb
  rcases List.mem_cons.mp hb with rfl | hb
  ·exact h.fr _ hl
  ·rcases List.mem_cons.mp hb with rfl | hb
   ·exact r0
   ·obtain ⟨y,hy,rfl⟩:=List.mem_map.mp hb
    exact (h.pf y hy).1
def mc0 (pt:Pt0) (tu:List Int) (gv:List Fr):Mc:=⟨pt,tu,gv,0,[],fun _=>none⟩
theorem jw0 {C:Addr} {M M1:MH} {a:TrA} {ps:List Pl} {pt:Pt0} {tu:List Int} {gv:List Fr} (ok:TrOk C M1 a (tr0 pt tu gv)) (k:Ext M M1) (fr:∀ b∈a.fp,M b=none):Jw C ps M M1 a (tr0 pt tu gv) (mc0 pt tu gv) :=
 ⟨⟨⟨ok,k,fr,rfl,trivial,by simp [tr0],fun x hx=>by cases hx⟩,rfl,rfl,rfl,fun p=>rfl,WoOk.nil,Nat.zero_le _⟩,WoK.nil ps,rfl,rfl⟩
def hlt:D:=.tup [.str "halt"]
def pcI (p:Pce):Pl:=p.map fun n:Nat=>(n:Int)
theorem pcD_pl (p:Pce):pcD p=plcD (pcI p):=by unfold pcD plcD pcI;rw [List.map_map];rfl
theorem msD_k (m:Option (Sm × Int)):msDk m=msD m:=by cases m<;>rfl
inductive Jb where
 | s (st:Stm) (pl:Pce)
 | b (bl:List Stm) (pl:Pce) (i:Nat)
 | l (r:Rw) (rs:List Rw) (ms:Option (Sm × Int)) (b:List Stm) (pl:Pce)
inductive Ot where
 | on (m:Mc)
 | stop (w:Str) (m:Mc) (p:Pl)
def lf:Stm->Pce->Option Ins
 | .set x s,pl=>some (.set (pcI pl) x s)
 | .any x,pl=>some (.any (pcI pl) x)
 | .note rs,pl=>some (.note (pcI pl) rs)
 | _,_=>none
def fkI:Stm->Pce->Nat->Option (Ins × List Stm × List Stm)
 | .choose a b,pl,to=>some (.fork (pcI pl) to,a,b)
 | .ite r a b,pl,to=>some (.unl (pcI pl) r to,a,b)
 | _,_,_=>none
def entM (m:Mc) (p:Pl):Mc:={ m with kn:=fun q=>if q=p then none else m.kn q }
inductive Rn:Jb->Mc->Ot->Prop
 | nil {pl:Pce} {i:Nat} {m:Mc}:Rn (.b [] pl i) m (.on m)
 | bstop {s:Stm} {r:List Stm} {pl:Pce} {i:Nat} {m:Mc} {w:Str} {m':Mc} {p:Pl} (h:Rn (.s s (pl++[i])) m (.stop w m' p)):Rn (.b (s :: r) pl i) m (.stop w m' p)
 | bon {s:Stm} {r:List Stm} {pl:Pce} {i:Nat} {m m1:Mc} {o:Ot} (h:Rn (.s s (pl++[i])) m (.on m1)) (k:Rn (.b r pl (i+1)) m1 o):Rn (.b (s :: r) pl i) m o
 | lstop {s:Stm} {pl:Pce} {m:Mc} {i:Ins} {w:Str} {m':Mc} {p:Pl} (h:lf s pl=some i) (e:stpM m 0 i=.stop w m' p):Rn (.s s pl) m (.stop w m' p)
 | lon {s:Stm} {pl:Pce} {m:Mc} {i:Ins} {m':Mc} (h:lf s pl=some i) (e:stpM m 0 i=.on m' 1):Rn (.s s pl) m (.on m')
 | fstop {s:Stm} {pl:Pce} {m:Mc} {i:Ins} {a b:List Stm} {w:Str} {m':Mc} {p:Pl} (h:fkI s pl 2=some (i,a,b)) (e:stpM m 0 i=.stop w m' p):Rn (.s s pl) m (.stop w m' p)
 | f0 {s:Stm} {pl:Pce} {m:Mc} {i:Ins} {a b:List Stm} {m1:Mc} {o:Ot} (h:fkI s pl 2=some (i,a,b)) (e:stpM m 0 i=.on m1 1) (k:Rn (.b a (pl++[0]) 0) m1 o):Rn (.s s pl) m o
 | f1 {s:Stm} {pl:Pce} {m:Mc} {i:Ins} {a b:List Stm} {m1:Mc} {o:Ot} (h:fkI s pl 2=some (i,a,b)) (e:stpM m 0 i=.on m1 2) (k:Rn (.b b (pl++[1]) 0) m1 o):Rn (.s s pl) m o
 | whl {r:Rw} {rs:List Rw} {ms:Option (Sm × Int)} {b:List Stm} {pl:Pce} {m:Mc} {o:Ot} (k:Rn (.l r rs ms b pl) (entM m (pcI pl)) o):Rn (.s (.whl r rs ms b) pl) m o
 | hstop {r:Rw} {rs:List Rw} {ms:Option (Sm × Int)} {b:List Stm} {pl:Pce} {m:Mc} {w:Str} {m':Mc} {p:Pl} (e:stpM m 0 (.head (pcI pl) rs ms r 2)=.stop w m' p):Rn (.l r rs ms b pl) m (.stop w m' p)
 | hout {r:Rw} {rs:List Rw} {ms:Option (Sm × Int)} {b:List Stm} {pl:Pce} {m m1:Mc} (e:stpM m 0 (.head (pcI pl) rs ms r 2)=.on m1 2):Rn (.l r rs ms b pl) m (.on m1)
 | hin0 {r:Rw} {rs:List Rw} {ms:Option (Sm × Int)} {b:List Stm} {pl:Pce} {m m1:Mc} {w:Str} {m':Mc} {p:Pl} (e:stpM m 0 (.head (pcI pl) rs ms r 2)=.on m1 1) (h:Rn (.b b (pl++[0]) 0) m1 (.stop w m' p)):Rn (.l r rs ms b pl) m (.stop w m' p)
 | hin1 {r:Rw} {rs:List Rw} {ms:Option (Sm × Int)} {b:List Stm} {pl:Pce} {m m1 m2:Mc} {o:Ot} (e:stpM m 0 (.head (pcI pl) rs ms r 2)=.on m1 1) (h:Rn (.b b (pl++[0]) 0) m1 (.on m2)) (k:Rn (.l r rs ms b pl) m2 o):Rn (.l r rs ms b pl) m o
def Re (b:List Stm) (m:Mc) (w:Str) (m':Mc) (p:Pl):Prop:=Rn (.b b [] 0) m (.stop w m' p)\/(Rn (.b b [] 0) m (.on m')/\w=Str.ofString "done" /\ p=[])
structure Fb (e n:Nat) (x:Fr):Prop where
 pos:0 < x.2
 low:Int.gcd x.1 x.2=1
 k:∃ k:Int,x.1 * 6 ^ e=k * x.2/\B (65 * n+110) k
theorem Fb.bot {e n:Nat} {x:Fr} (h:Fb e n x):x.2<=6 ^ e:=by
 obtain ⟨k,h1,_⟩:=h.k
 have d:x.2 ∣ x.1 * 6 ^ e:=by rw [h1];exact Int.dvd_mul_left _ _
 exact Int.le_of_dvd (Int.pow_pos (by decide)) (dvd_cop d h.low)
theorem six_nat (e:Nat):((6:Int) ^ e).natAbs=6 ^ e:=by rw [Int.natAbs_pow];rfl
theorem six_le (e:Nat):6 ^ e<=2 ^ (3 * e):=by
 rw [Nat.pow_mul];exact Nat.pow_le_pow_left (by decide) e
theorem Fb.frn {e n:Nat} {x:Fr} (h:Fb e n x) (hn:n<=300) (he:e<=n+1):B 19700 x.1/\B 910 x.2:=by
 have hb:=h.bot
 have p:=h.pos
 obtain ⟨k,h1,h2⟩:=h.k
 have hb2:x.2.natAbs<=6 ^ e:=by
  have:x.2.natAbs<=((6:Int) ^ e).natAbs:=by omega
  rw [six_nat] at this;exact this
 refine ⟨?_,?_⟩
 ·have e1:x.1.natAbs * 6 ^ e=k.natAbs * x.2.natAbs:=by
   have:=congrArg Int.natAbs h1
   rw [Int.natAbs_mul,Int.natAbs_mul,six_nat] at this;exact this
  have e2:x.1.natAbs * 6 ^ e<=k.natAbs * 6 ^ e:=by rw [e1];exact Nat.mul_le_mul_left _ hb2
  have e3:x.1.natAbs<=k.natAbs:=Nat.le_of_mul_le_mul_right e2 (Nat.pow_pos (by decide))
  exact B.up (by omega) (B.le e3 h2)
 ·exact Nat.lt_of_le_of_lt (Nat.le_trans hb2 (six_le e)) (Nat.pow_lt_pow_right (by decide) (by omega))
theorem Fb.up {e n:Nat} {x:Fr} (h:Fb e n x):Fb e (n+1) x:=by
 obtain ⟨k,h1,h2⟩:=h.k
 exact ⟨h.pos,h.low,k,h1,B.up (by omega) h2⟩
theorem Fb.six {e n:Nat} {x:Fr} (h:Fb e n x):Fb (e+1) (n+1) x:=by
 obtain ⟨k,h1,h2⟩:=h.k
 refine ⟨h.pos,h.low,k * 6,?_,B.up (n:=65 * (n+1)+110) (by omega) (B.mul (n:=3) h2 (by unfold B;decide))⟩
 rw [Int.pow_succ,<- Int.mul_assoc,h1,Int.mul_right_comm]
def PtB (n:Nat) (pt:Pt0):Prop:=∃ e,e<=n+1/\∀ x∈pt,Fb e n x.2
theorem getP_mem {x:Str}:∀ {p:Pt0},x∈p.map (·.1)->∃ v,(x,v)∈p/\getP p x=v
 | [],h=>by cases h
 | (y,v) :: r,h=>by
  unfold getP
  by_cases z:y=x
  ·subst z;rw [if_pos rfl];exact ⟨v,.head _,rfl⟩
  ·rw [if_neg z]
   rw [List.map_cons] at h
   rcases List.mem_cons.mp h with h | h
   ·exact absurd h.symm z
   ·obtain ⟨u,h1,h2⟩:=getP_mem h
    exact ⟨u,.tail _ h1,h2⟩
def TsOk (pt:Pt0) (ts:List (Str × Int)):Prop:=ts.length<=3/\∀ t∈ts,t.1∈pt.map (·.1)/\B 60 t.2
theorem sumP_grow {e n:Nat} {pt:Pt0} (hp:∀ x∈pt,Fb e n x.2):∀ (ts:List (Str × Int)) (t b K:Int),(∀ u∈ts,u.1∈pt.map (·.1)/\B 60 u.2)->0 < b->t * 6 ^ e=K * b ->
  0 < (sumP pt ts t b).2/\∃ L:Int,(sumP pt ts t b).1 * 6 ^ e=(K+L) * (sumP pt ts t b).2/\L.natAbs<=ts.length * (2 ^ 60 * 2 ^ (65 * n+110))
 | [],t,b,K,_,hb,h=>⟨hb,0,by simpa [sumP] using h,by simp⟩
 | u :: r,t,b,K,hu,hb,h=>by
  obtain ⟨h1,h2⟩:=hu u (.head _)
  obtain ⟨v,hv,ev⟩:=getP_mem h1
  obtain ⟨k,k1,k2⟩:=(hp _ hv).k
  have pv:=(hp _ hv).pos
  simp only at k1 k2 pv
  have ih:=sumP_grow hp r (t * (getP pt u.1).2+u.2 * (getP pt u.1).1 * b) (b * (getP pt u.1).2) (K+u.2 * k) (fun z hz=>hu z (.tail _ hz)) (by rw [ev];exact Int.mul_pos hb pv) (by
   rw [ev]
   have e1:(t * v.2+u.2 * v.1 * b) * 6 ^ e=(t * 6 ^ e) * v.2+u.2 * (v.1 * 6 ^ e) * b:=by
    generalize (6:Int) ^ e=z
    grind
   rw [e1,h,k1]
   grind)
  obtain ⟨i1,L,i2,i3⟩:=ih
  refine ⟨i1,u.2 * k+L,?_,?_⟩
  ·rw [<- Int.add_assoc];exact i2
  ·have a1:(u.2 * k).natAbs<=2 ^ 60 * 2 ^ (65 * n+110):=by
    rw [Int.natAbs_mul];exact Nat.mul_le_mul (Nat.le_of_lt h2) (Nat.le_of_lt k2)
   have a2:=Int.natAbs_add_le (u.2 * k) L
   rw [List.length_cons,Nat.succ_mul]
   omega
def SmG (pt:Pt0) (s:Sm):Prop:=TsOk pt s.1/\B 60 s.2.1/\0 < s.2.2/\s.2.2 < 4
def RwG (pt:Pt0) (r:Rw):Prop:=TsOk pt r.2.1/\B 64 r.2.2
theorem six_by {b:Int} (h0:0 < b) (h:b < 4):∃ c:Int,c * b=6/\c.natAbs<=6:=by
 rcases (by omega:b=1\/b=2\/b=3) with rfl | rfl | rfl
 ·exact ⟨6,by decide,by decide⟩
 ·exact ⟨3,by decide,by decide⟩
 ·exact ⟨2,by decide,by decide⟩
theorem wth_grow {e n:Nat} {pt:Pt0} {s:Sm} (he:e<=n+1) (hp:∀ x∈pt,Fb e n x.2) (h:SmG pt s):Fb (e+1) (n+1) (wthP pt s):=by
 obtain ⟨⟨h1,h2⟩,h3,h4,h5⟩:=h
 obtain ⟨d0,L,dL,bL⟩:=sumP_grow hp s.1 0 1 0 h2 (by decide) (by simp)
 rw [Int.zero_add] at dL
 unfold wthP
 simp only
 generalize (sumP pt s.1 0 1).1=T at dL ⊢
 generalize (sumP pt s.1 0 1).2=D at d0 dL ⊢
 have hb0:D * s.2.2≠0:=by
  have:=Int.mul_pos d0 h4
  omega
 have c:=cross (T+s.2.1 * D) (D * s.2.2)
 have p:=bt_pos (t:=T+s.2.1 * D) hb0
 have g:=coprime (t:=T+s.2.1 * D) hb0
 generalize tp (T+s.2.1 * D) (D * s.2.2)=x1 at c g ⊢
 generalize bt (T+s.2.1 * D) (D * s.2.2)=x2 at c g p ⊢
 obtain ⟨cc,hc,lc⟩:=six_by h4 h5
 refine ⟨p,g,cc * (L+s.2.1 * 6 ^ e),?_,?_⟩
 ·show x1 * 6 ^ (e+1)=cc * (L+s.2.1 * 6 ^ e) * x2
  have hD:D≠0:=by omega
  apply Int.eq_of_mul_eq_mul_right hD
  rw [Int.pow_succ]
  generalize (6:Int) ^ e=z at dL ⊢
  rw [<- hc]
  generalize s.2.2=b at c ⊢
  generalize s.2.1=w at c ⊢
  have e1:x1 * (z * (cc * b)) * D=cc * z * (x1 * (D * b)):=by grind
  have e2:cc * (L+w * z) * x2 * D=cc * ((L * D)+w * z * D) * x2:=by grind
  rw [e1,e2,c,<- dL]
  grind
 ·have a1:L.natAbs<=3 * (2 ^ 60 * 2 ^ (65 * n+110)):=Nat.le_trans bL (Nat.mul_le_mul_right _ h1)
  have a2:(s.2.1 * 6 ^ e).natAbs<=2 ^ 60 * 2 ^ (65 * n+110):=by
   rw [Int.natAbs_mul,six_nat]
   exact Nat.mul_le_mul (Nat.le_of_lt h3) (Nat.le_trans (six_le e) (Nat.pow_le_pow_right (by decide) (by omega)))
  have a3:=Int.natAbs_add_le L (s.2.1 * 6 ^ e)
  have a4:2 ^ (65 * (n+1)+110)=32 * (2 ^ 60 * 2 ^ (65 * n+110)):=by
   rw [show 65 * (n+1)+110=5+(60+(65 * n+110)) by omega,Nat.pow_add,Nat.pow_add]
  have a5:0 < 2 ^ 60 * 2 ^ (65 * n+110):=Nat.mul_pos (Nat.two_pow_pos _) (Nat.two_pow_pos _)
  have a6:(cc * (L+s.2.1 * 6 ^ e)).natAbs<=6 * (L+s.2.1 * 6 ^ e).natAbs:=by
   rw [Int.natAbs_mul];exact Nat.mul_le_mul_right _ lc
  unfold B
  omega
theorem putP_mem {p:Pt0} {x:Str} {u:Fr} {y:Str × Fr} (h:y∈putP p x u):y.2=u\/y∈p:=by
 obtain ⟨z,hz,rfl⟩:=List.mem_map.mp h
 split
 ·exact .inl rfl
 ·exact .inr hz
theorem putP_names (p:Pt0) (x:Str) (u:Fr):(putP p x u).map (·.1)=p.map (·.1):=by
 unfold putP
 rw [List.map_map]
 refine List.map_congr_left fun y _=>?_
 show (if y.1=x then (y.1,u) else y).1=y.1
 split<;>rfl
theorem PtB.up {n:Nat} {pt:Pt0} (h:PtB n pt):PtB (n+1) pt:=by
 obtain ⟨e,he,h⟩:=h
 exact ⟨e,by omega,fun x hx=>(h x hx).up⟩
theorem PtB.set {n:Nat} {pt:Pt0} (h:PtB n pt) {s:Sm} (hs:SmG pt s) (x:Str):PtB (n+1) (putP pt x (wthP pt s)):=by
 obtain ⟨e,he,h⟩:=h
 have w:=wth_grow he h hs
 refine ⟨e+1,by omega,fun y hy=>?_⟩
 rcases putP_mem hy with z | z
 ·rw [z];exact w
 ·exact (h y z).six
structure GvG (g:Fr):Prop where
 pos:0 < g.2
 le:g.2 < 4
 low:Int.gcd g.1 g.2=1
 top:B 100 g.1
theorem GvG.fb {g:Fr} (h:GvG g) {e n:Nat} (he:3 * (e+1)+100<=65 * n+110):Fb (e+1) n g:=by
 obtain ⟨cc,hc,lc⟩:=six_by h.pos h.le
 refine ⟨h.pos,h.low,g.1 * (cc * 6 ^ e),?_,?_⟩
 ·rw [Int.pow_succ]
  generalize (6:Int) ^ e=z
  rw [<- hc]
  grind
 ·have a1:(cc * 6 ^ e).natAbs<=6 ^ (e+1):=by
   rw [Int.natAbs_mul,six_nat,Nat.pow_succ,Nat.mul_comm];exact Nat.mul_le_mul_left _ lc
  have a2:=Nat.le_trans a1 (six_le (e+1))
  unfold B
  rw [Int.natAbs_mul]
  refine Nat.lt_of_lt_of_le (Nat.mul_lt_mul_of_lt_of_le h.top a2 (Nat.two_pow_pos _)) ?_
  rw [<- Nat.pow_add]
  exact Nat.pow_le_pow_right (by decide) (by omega)
theorem PtB.any {n:Nat} {pt:Pt0} (h:PtB n pt) {g:Fr} (hg:GvG g) (x:Str):PtB (n+1) (putP pt x g):=by
 obtain ⟨e,he,h⟩:=h
 refine ⟨e+1,by omega,fun y hy=>?_⟩
 rcases putP_mem hy with z | z
 ·rw [z];exact hg.fb (by omega)
 ·exact (h y z).six
theorem PtB.has {n:Nat} {pt:Pt0} (h:PtB n pt) (hn:n<=300) {x:Str} (hx:x∈pt.map (·.1)):Has (ptKv pt) x:=by
 obtain ⟨e,he,h⟩:=h
 obtain ⟨d,h1,h2⟩:=lkD_some (k:=x) (kvs:=ptKv pt) (by
  unfold ptKv;rw [List.map_map];exact hx)
 obtain ⟨y,hy,e1⟩:=List.mem_map.mp h2
 cases e1
 have f:=h y hy
 obtain ⟨b1,b2⟩:=f.frn hn he
 exact ⟨_,y.2.1,y.2.2,h1,rfl,f.pos,f.low,b1,b2⟩
theorem TsOk.all {n:Nat} {pt:Pt0} (h:PtB n pt) (hn:n<=300) {ts:List (Str × Int)} (k:TsOk pt ts):AllHas (ptKv pt) ts :=
 ⟨k.1,fun t ht=>⟨h.has hn (k.2 t ht).1,B.up (by decide) (k.2 t ht).2⟩⟩
theorem RwG.ok {n:Nat} {pt:Pt0} (h:PtB n pt) (hn:n<=300) {r:Rw} (k:RwG pt r):RwOk pt r:=⟨k.1.all h hn,B.up (by decide) k.2⟩
theorem SmG.ok {n:Nat} {pt:Pt0} (h:PtB n pt) (hn:n<=300) {s:Sm} (k:SmG pt s):SmOk pt s :=
 ⟨k.1.all h hn,B.up (by decide) k.2.1,k.2.2.1,by have:=k.2.2.1;have:=k.2.2.2;exact (Bd.rng (n:=64) (by omega) (by omega)).b⟩
def TsS (ss:List Str) (ts:List (Str × Int)):Prop:=ts.length<=3/\∀ t∈ts,t.1∈ss/\B 60 t.2
def SmS (ss:List Str) (s:Sm):Prop:=TsS ss s.1/\B 60 s.2.1/\0 < s.2.2/\s.2.2 < 4
def RwS (ss:List Str) (r:Rw):Prop:=TsS ss r.2.1/\B 64 r.2.2
def MsS (ss:List Str):Option (Sm × Int)->Prop
 | none=>True
 | some m=>SmS ss m.1/\B 64 m.2
def InsS (ss:List Str):Ins->Prop
 | .set _ x s=>x∈ss/\SmS ss s
 | .any _ x=>x∈ss
 | .note _ rs=>(∀ r∈rs,RwS ss r)/\rs.length<=5
 | .unl _ r _=>RwS ss r
 | .head _ rs ms r _=>(∀ r∈rs,RwS ss r)/\rs.length<=5/\RwS ss r/\MsS ss ms
 | _=>True
structure Gdm (ss:List Str) (m:Mc):Prop where
 nm:m.pt.map (·.1)=ss
 b:PtB m.n m.pt
 n:m.n<=300
 tu:m.tu.length<=3000
 gv:m.gv.length<=3000
 t01:∀ t∈m.tu,t=0\/t=1
 gg:∀ g∈m.gv,GvG g
theorem Gdm.ins {ss:List Str} {m:Mc} (h:Gdm ss m) {i:Ins} (hi:InsS ss i):InsOk m.pt i:=by
 obtain ⟨nm,b,n,_,_,_,_⟩:=h
 subst nm
 cases i with
 | set p x s=>exact ⟨hi.1,SmG.ok b n hi.2⟩
 | any p x=>exact hi
 | note p rs=>exact ⟨fun r hr=>RwG.ok b n (hi.1 r hr),hi.2⟩
 | unl p r to=>exact RwG.ok b n hi
 | head p rs ms r to =>
  refine ⟨fun r hr=>RwG.ok b n (hi.1 r hr),hi.2.1,RwG.ok b n hi.2.2.1,?_⟩
  have:=hi.2.2.2
  cases ms with
  | none=>trivial
  | some x=>exact ⟨SmG.ok b n this.1,this.2⟩
 | halt=>trivial
 | jump to=>trivial
 | enter p=>trivial
 | fork p to=>trivial
theorem Gdm.on {ss:List Str} {m:Mc} (h:Gdm ss m) {i:Ins} (hi:InsS ss i) {a:Nat} {m1:Mc} {b:Nat} (e:stpM m a i=.on m1 b):Gdm ss m1:=by
 obtain ⟨nm,hb,n,tu,gv,t01,gg⟩:=h
 cases i with
 | halt=>simp [stpM] at e
 | jump to=>simp only [stpM,Stp.on.injEq] at e;obtain ⟨rfl,rfl⟩:=e;exact ⟨nm,hb,n,tu,gv,t01,gg⟩
 | enter p=>simp only [stpM,Stp.on.injEq] at e;obtain ⟨rfl,rfl⟩:=e;exact ⟨nm,hb,n,tu,gv,t01,gg⟩
 | set p x s =>
  simp only [stpM] at e
  split at e
  ·cases e
  ·rename_i h3
   simp only [Stp.on.injEq] at e;obtain ⟨rfl,rfl⟩:=e
   subst nm
   exact ⟨putP_names ..,hb.set hi.2 x,by show m.n+1<=300;omega,tu,gv,t01,gg⟩
 | any p x =>
  simp only [stpM] at e
  split at e
  ·cases e
  ·rename_i h3
   split at e
   ·cases e
   ·rename_i g r eg
    simp only [Stp.on.injEq] at e;obtain ⟨rfl,rfl⟩:=e
    rw [eg] at gv gg
    exact ⟨(putP_names ..).trans nm,hb.any (gg g (.head _)) x,by show m.n+1<=300;omega,tu,by rw [List.length_cons] at gv;show r.length<=3000;omega,t01,fun z hz=>gg z (.tail _ hz)⟩
 | note p rs =>
  simp only [stpM] at e
  split at e
  ·cases e
  ·rename_i h3
   split at e
   ·simp only [Stp.on.injEq] at e;obtain ⟨rfl,rfl⟩:=e;exact ⟨nm,hb.up,by show m.n+1<=300;omega,tu,gv,t01,gg⟩
   ·cases e
 | fork p to =>
  simp only [stpM] at e
  split at e
  ·cases e
  ·rename_i h3
   split at e
   ·cases e
   ·rename_i t r et
    simp only [Stp.on.injEq] at e;obtain ⟨rfl,rfl⟩:=e
    rw [et] at tu t01
    exact ⟨nm,hb.up,by show m.n+1<=300;omega,by rw [List.length_cons] at tu;show r.length<=3000;omega,gv,fun z hz=>t01 z (.tail _ hz),gg⟩
 | unl p r to =>
  simp only [stpM] at e
  split at e
  ·cases e
  ·rename_i h3
   simp only [Stp.on.injEq] at e;obtain ⟨rfl,rfl⟩:=e;exact ⟨nm,hb.up,by show m.n+1<=300;omega,tu,gv,t01,gg⟩
 | head p rs ms r to =>
  simp only [stpM] at e
  split at e
  ·cases e
  ·rename_i h3
   split at e
   ·simp only [Stp.on.injEq] at e;obtain ⟨rfl,rfl⟩:=e;exact ⟨nm,hb.up,by show m.n+1<=300;omega,tu,gv,t01,gg⟩
   ·cases e
theorem gd0 {ss:List Str} {pt:Pt0} {tu:List Int} {gv:List Fr} (h1:pt.map (·.1)=ss) (h2:∀ x∈pt,GvG x.2) (h3:tu.length<=3000) (h4:gv.length<=3000) (h5:∀ t∈tu,t=0\/t=1) (h6:∀ g∈gv,GvG g):Gdm ss (mc0 pt tu gv) :=
 ⟨h1,⟨1,Nat.le_refl _,fun x hx=>(h2 x hx).fb (e:=0) (n:=0) (by decide)⟩,Nat.zero_le _,h3,h4,h5,h6⟩
theorem TsS.of {ss:List Str} (hs:ss.length<=3) {ts:List (Str × Int)} (h:Terms ss ts):TsS ss ts:=⟨Nat.le_trans h.len hs,fun t ht=>⟨h.mem ht,(h.wt t ht).2⟩⟩
theorem SmS.of {ss:List Str} (hs:ss.length<=3) {s:Sm} (h:WfS ss s):SmS ss s:=⟨TsS.of hs h.ts,h.w,h.pos,h.b⟩
theorem RwS.of {ss:List Str} (hs:ss.length<=3) {r:Rw} (h:WfR ss r):RwS ss r:=⟨TsS.of hs h.ts,h.b⟩
theorem MsS.of {ss:List Str} (hs:ss.length<=3) {b:List Stm} {m:Option (Sm × Int)} (h:WfM ss b m):MsS ss m:=by
 cases m with
 | none=>trivial
 | some m=>exact ⟨SmS.of hs h.1,h.2.2.1⟩
def psB (b:List Stm):List Pl:=[] :: (layB [] 0 b).map fun x=>pcI x.1
theorem psB_len {b:List Stm} (h:(tts b).s<=24):(psB b).length<=500:=by
 unfold psB;rw [List.length_cons,List.length_map,layB_len];omega
theorem psB_in (b:List Stm):∀ x∈layB [] 0 b,pcI x.1∈psB b:=fun x hx=>List.mem_cons_of_mem _ (List.mem_map_of_mem hx)
end KA
namespace D3
open PySem PySem.Spec PyProof.Rows L2
section
variable {X:Cx} {G:Ga} {M:MH} {a b:Expr} {pos:Pos} {Q:DK}
theorem ev_isnot (h:EV X G M a fun da Ma=>EV X G Ma b fun db Mb=>∃ k,IsDv da db k/\db=.non/\Q (.bl (!k)) Mb):EV X G M (.Compare a [.IsNot] [b] pos) Q :=
 ev_cmp op_notN (nomark _) (h.mono fun _ _ h1=>h1.mono fun _ Mb ⟨k,e1,e2,q⟩=>by
  intro H x y kf hx hy m
  subst e2
  have hy':=hy
  rw [is_non] at hy'
  rcases isD_val e1 hx hy with ⟨i,j,e3,e4,e⟩ | ⟨_,e⟩
  ·rw [hy'] at e4;cases e4
  ·exact ⟨hy',fun _=>⟨Grow.refl _,.bl (!k),Mb,is_bl.mpr (by rw [e]),m,q⟩⟩)
end
end D3
namespace KA
open PySem PySem.Spec PyProof.Rows L2 D3 K01
def DeedW (C:Addr) (ps:List Pl) (M0:MH) (a:TrA) (m:Mc) (i:Ins) (Q:DK):Prop :=
 (∀ w m' p,stopsAt m i w m' p->∀ M' s',JnE C M0 M' a s' m'.pt m'.pa->s'.wd=w->s'.pl=p->Q .non M') /\
 (∀ m' (wy:Nat),(wy=0\/wy=1/\hasTo i=true)->(∀ n,stpM m n i=.on m' (if wy=0 then n+1 else toI i))->∀ M' s',Jw C ps M0 M' a s' m'->Q (.int wy) M')
theorem Jw.to {C:Addr} {ps:List Pl} {M0 M M':MH} {a:TrA} {s s':TrS} {m m':Mc} {p:Pl} (j:Jw C ps M0 M a s m) (hp:p∈ps) (jj:Jn C M0 M' a s' m') (e1:s'.wd=s.wd) (e2:s'.pl=s.pl) (ew:s'.wo=s.wo\/∃ d,s'.wo=putT s.wo p d):Jw C ps M0 M' a s' m' :=
 ⟨jj,by rcases ew with ew | ⟨d,ew⟩<;>rw [ew];exact j.wk;exact j.wk.put hp d,e1.trans j.wd,e2.trans j.pl⟩
section
variable {C:Addr} {ps:List Pl} {M0 M:MH} {a:TrA} {s:TrS} {m:Mc} {Q:DK}
theorem jw_put {p:Pl} {x:Str} {sm:Sm} (j:Jw C ps M0 M a s m) (mo:McOk m) (hp:p∈ps) (hi:InsOk m.pt (.set p x sm)) (q:DeedW C ps M0 a m (.set p x sm) Q):spPut C [.ref a.o,plcD p,.str x,smDk sm] M Q:=by
 obtain ⟨q1,q2⟩:=q
 have hi:x∈m.pt.map (·.1)/\SmOk m.pt sm:=hi
 have ept:=j.j.e.pt
 have ej:=j.j.n
 have h3:=mo.n
 have h10:=mo.pt
 rw [<- ept] at hi h10
 refine ⟨a,s,p,x,sm,rfl,j.j.e.ok,by omega,h10,hi.1,hi.2,fun e M' h1 k1=>q1 (Str.ofString "going") m p (fun n=>by simp only [stpM];rw [if_pos (by omega)]) M' _ (j.j.e.step h1 k1 ept rfl) rfl rfl,fun e M' h1 k1=>?_⟩
 exact q2 { m.deed with pt:=putP m.pt x (wthP m.pt sm) } 0 (.inl rfl) (fun n=>by simp only [stpM];rw [if_neg (by omega)];rfl) M' _ (j.to hp ⟨j.j.e.step h1 k1 (by show putP s.pt x (wthP s.pt sm)=_;rw [ept]) rfl,j.j.tu,j.j.gv,by show s.n+1=m.n+1;omega,j.j.kn,j.j.wo,Nat.le_succ_of_le j.j.le⟩ rfl rfl (.inl rfl))
theorem jw_take {p:Pl} {x:Str} (j:Jw C ps M0 M a s m) (mo:McOk m) (hp:p∈ps) (hi:InsOk m.pt (.any p x)) (q:DeedW C ps M0 a m (.any p x) Q):spTakeG C [.ref a.o,plcD p,.str x] M Q:=by
 obtain ⟨q1,q2⟩:=q
 have hi:x∈m.pt.map (·.1):=hi
 have ept:=j.j.e.pt
 have ej:=j.j.n
 have h3:=mo.n
 have h10:=mo.pt
 have hgv:=mo.gv
 rw [<- ept] at hi h10
 rw [<- j.j.gv] at hgv
 refine ⟨a,s,p,x,rfl,j.j.e.ok,by omega,h10,hgv,hi,fun e M' h1 k1=>q1 (Str.ofString "going") m p (fun n=>by simp only [stpM];rw [if_pos (by omega)]) M' _ (j.j.e.step h1 k1 ept rfl) rfl rfl,fun e eg M' h1 k1=>?_,fun e g r eg M' h1 k1=>?_⟩
 ·have eg:m.gv=[]:=by rw [<- j.j.gv];exact eg
  exact q1 (Str.ofString "wanting") m p (fun n=>by simp only [stpM];rw [if_neg (by omega),eg]) M' _ (j.j.e.step h1 k1 ept rfl) rfl rfl
 ·have eg:m.gv=g :: r:=by rw [<- j.j.gv];exact eg
  exact q2 { m.deed with pt:=putP m.pt x g,gv:=r } 0 (.inl rfl) (fun n=>by simp only [stpM];rw [if_neg (by omega),eg];rfl) M' _ (j.to hp ⟨j.j.e.step h1 k1 (by show putP s.pt x g=_;rw [ept]) rfl,j.j.tu,rfl,by show s.n+1=m.n+1;omega,j.j.kn,j.j.wo,Nat.le_succ_of_le j.j.le⟩ rfl rfl (.inl rfl))
theorem jw_note {p:Pl} {rs:List Rw} (j:Jw C ps M0 M a s m) (mo:McOk m) (hp:p∈ps) (hi:InsOk m.pt (.note p rs)) (q:DeedW C ps M0 a m (.note p rs) Q):spNote C [.ref a.o,plcD p,.tup (rs.map rwDk)] M Q:=by
 obtain ⟨q1,q2⟩:=q
 have hi:(∀ r∈rs,RwOk m.pt r)/\rs.length<=5:=hi
 have ept:=j.j.e.pt
 have ej:=j.j.n
 have h3:=mo.n
 have hle:=j.j.le
 rw [<- ept] at hi
 refine ⟨a,s,p,rs,rfl,j.j.e.ok,by omega,by omega,hi.1,hi.2,fun e M' h1 k1=>q1 (Str.ofString "going") m p (fun n=>by simp only [stpM];rw [if_pos (by omega)]) M' _ (j.j.e.step h1 k1 ept rfl) rfl rfl,fun e eg M' h1 k1=>?_,fun e eg q M' hq hq' h1 k1=>?_⟩
 ·rw [ept] at eg
  exact q1 (Str.ofString "broken") m p (fun n=>by simp only [stpM];rw [if_neg (by omega),eg];rfl) M' _ (j.j.e.step h1 k1 ept rfl) rfl rfl
 ·rw [ept] at eg
  exact q2 (m.deed.pass p) 0 (.inl rfl) (fun n=>by simp only [stpM];rw [if_neg (by omega),eg];rfl) M' _ (j.to hp ⟨j.j.e.pass h1 k1 ept hq (by rw [<- ept];exact hq') rfl,j.j.tu,j.j.gv,by show s.n+1=m.n+1;omega,j.j.kn,j.j.wo,by show (s.pa++[(p,q)]).length<=s.n+1;rw [List.length_append];exact Nat.succ_le_succ j.j.le⟩ rfl rfl (.inl rfl))
theorem jw_fork {p:Pl} {to:Nat} (j:Jw C ps M0 M a s m) (mo:McOk m) (hp:p∈ps) (q:DeedW C ps M0 a m (.fork p to) Q):spFork C [.ref a.o,plcD p] M Q:=by
 obtain ⟨q1,q2⟩:=q
 have ept:=j.j.e.pt
 have ej:=j.j.n
 have h3:=mo.n
 have htu:=mo.tu
 rw [<- j.j.tu] at htu
 refine ⟨a,s,p,rfl,j.j.e.ok,by omega,htu,fun e M' h1 k1=>q1 (Str.ofString "going") m p (fun n=>by simp only [stpM];rw [if_pos (by omega)]) M' _ (j.j.e.step h1 k1 ept rfl) rfl rfl,fun e eg M' h1 k1=>?_,fun e t r eg M' h1 k1=>?_⟩
 ·have eg:m.tu=[]:=by rw [<- j.j.tu];exact eg
  exact q1 (Str.ofString "wanting") m p (fun n=>by simp only [stpM];rw [if_neg (by omega),eg]) M' _ (j.j.e.step h1 k1 ept rfl) rfl rfl
 ·have eg:m.tu=t :: r:=by rw [<- j.j.tu];exact eg
  have jj:=j.to (m':={ m.deed with tu:=r }) hp ⟨j.j.e.step h1 k1 ept rfl,rfl,j.j.gv,by show s.n+1=m.n+1;omega,j.j.kn,j.j.wo,Nat.le_succ_of_le j.j.le⟩ rfl rfl (.inl rfl)
  rcases mo.t01 t (by rw [eg];exact .head _) with rfl | rfl
  ·exact q2 _ 0 (.inl rfl) (fun n=>by simp only [stpM];rw [if_neg (by omega),eg];rfl) M' _ jj
  ·exact q2 _ 1 (.inr ⟨rfl,rfl⟩) (fun n=>by simp only [stpM];rw [if_neg (by omega),eg];rfl) M' _ jj
theorem jw_ask {p:Pl} {r:Rw} {to:Nat} (j:Jw C ps M0 M a s m) (mo:McOk m) (hp:p∈ps) (hi:InsOk m.pt (.unl p r to)) (q:DeedW C ps M0 a m (.unl p r to) Q):spAsk C [.ref a.o,plcD p,rwDk r] M Q:=by
 obtain ⟨q1,q2⟩:=q
 have hi:RwOk m.pt r:=hi
 have ept:=j.j.e.pt
 have ej:=j.j.n
 have h3:=mo.n
 rw [<- ept] at hi
 refine ⟨a,s,p,r,rfl,j.j.e.ok,by omega,hi,fun e M' h1 k1=>q1 (Str.ofString "going") m p (fun n=>by simp only [stpM];rw [if_pos (by omega)]) M' _ (j.j.e.step h1 k1 ept rfl) rfl rfl,fun e M' h1 k1=>?_⟩
 rw [ept]
 have jj:=j.to (m':=m.deed) hp ⟨j.j.e.step h1 k1 ept rfl,j.j.tu,j.j.gv,by show s.n+1=m.n+1;omega,j.j.kn,j.j.wo,Nat.le_succ_of_le j.j.le⟩ rfl rfl (.inl rfl)
 cases hs:soP m.pt r with
 | true=>exact q2 _ 0 (.inl rfl) (fun n=>by simp only [stpM];rw [if_neg (by omega),hs];rfl) M' _ jj
 | false=>exact q2 _ 1 (.inr ⟨rfl,rfl⟩) (fun n=>by simp only [stpM];rw [if_neg (by omega),hs];rfl) M' _ jj
theorem jw_head {p:Pl} {rs:List Rw} {ms:Option (Sm × Int)} {r:Rw} {to:Nat} (j:Jw C ps M0 M a s m) (mo:McOk m) (hps:ps.length<=500) (hp:p∈ps) (hi:InsOk m.pt (.head p rs ms r to)) (q:DeedW C ps M0 a m (.head p rs ms r to) Q):spHead C [.ref a.o,plcD p,.tup (rs.map rwDk),msDk ms,rwDk r] M Q:=by
 obtain ⟨q1,q2⟩:=q
 have hi:(∀ r∈rs,RwOk m.pt r)/\rs.length<=5/\RwOk m.pt r/\MsOk m.pt ms:=hi
 have ept:=j.j.e.pt
 have ej:=j.j.n
 have h3:=mo.n
 have hle:=j.j.le
 rw [<- ept] at hi
 refine ⟨a,s,p,rs,ms,r,rfl,j.j.e.ok,by omega,by omega,hi.1,hi.2.1,hi.2.2.1,hi.2.2.2,j.j.wo,Nat.le_trans j.wk.len hps,fun e M' h1 k1=>q1 (Str.ofString "going") m p (fun n=>by simp only [stpM];rw [if_pos (by omega)]) M' _ (j.j.e.step h1 k1 ept rfl) rfl rfl,fun e eg wo M' h1 k1=>?_,fun e eg q M' hq hq' h1 k1=>?_⟩
 ·rw [hd_good ept j.j.kn] at eg
  exact q1 (Str.ofString "broken") m p (fun n=>by simp only [stpM];rw [if_neg (by omega),eg];rfl) M' _ (j.j.e.step h1 k1 ept rfl) rfl rfl
 ·rw [hd_good ept j.j.kn] at eg
  rw [ept]
  have jj:=j.to (m':={ m.deed.pass p with kn:=hdKn m p ms r }) hp ⟨j.j.e.pass h1 k1 ept hq (by rw [<- ept];exact hq') rfl,j.j.tu,j.j.gv,by show s.n+1=m.n+1;omega,hd_kn ept j.j.kn,hd_wo hi.2.2.2 j.j.wo,by show (s.pa++[(p,q)]).length<=s.n+1;rw [List.length_append];exact Nat.succ_le_succ j.j.le⟩ rfl rfl hd_or
  cases hs:soP m.pt r with
  | true=>exact q2 _ 0 (.inl rfl) (fun n=>by simp only [stpM];rw [if_neg (by omega),eg,hs];rfl) M' _ jj
  | false=>exact q2 _ 1 (.inr ⟨rfl,rfl⟩) (fun n=>by simp only [stpM];rw [if_neg (by omega),eg,hs];rfl) M' _ jj
theorem jw_enter {p:Pl} (j:Jw C ps M0 M a s m) (hps:ps.length<=500) (hp:p∈ps) (q:∀ M' s',Jw C ps M0 M' a s' (entM m p)->Q .non M'):spEnter C [.ref a.o,plcD p] M Q :=
 ⟨a,s,p,rfl,j.j.e.ok,Nat.le_trans j.wk.len hps,fun M' h1 k1=>q M' _ ⟨⟨j.j.e.step h1 k1 j.j.e.pt rfl,j.j.tu,j.j.gv,j.j.n,fun q=>by show knW (putT s.wo p .non) q=_;rw [knW_non,j.j.kn];rfl,j.j.wo.put p (.inl rfl),j.j.le⟩,j.wk.put hp _,j.wd,j.pl⟩⟩
end
theorem Gdm.mc {ss:List Str} (hs:ss.length<=3) {m:Mc} (g:Gdm ss m):McOk m:=⟨g.n,by have:=congrArg List.length g.nm;rw [List.length_map] at this;omega,g.tu,g.gv,g.t01⟩
theorem Gdm.ent {ss:List Str} {m:Mc} (g:Gdm ss m) (p:Pl):Gdm ss (entM m p):=⟨g.nm,g.b,g.n,g.tu,g.gv,g.t01,g.gg⟩
theorem stp_n {m m':Mc} {a b:Nat} {i:Ins} (e:stpM m a i=.on m' b):m.n<=m'.n/\(deedI i=true->m'.n=m.n+1):=by
 cases i<;>simp only [stpM] at e<;>(repeat' split at e)<;>first | (cases e;done) | (simp only [Stp.on.injEq] at e;obtain ⟨rfl,_⟩:=e;first | exact ⟨Nat.le_refl _,fun h=>nomatch h⟩ | exact ⟨Nat.le_succ _,fun _=>rfl⟩)
def otN (n:Nat):Ot->Prop
 | .on m'=>n<=m'.n
 | .stop _ _ _=>True
theorem otN.le {k n:Nat} (h:k<=n) {o:Ot} (q:otN n o):otN k o:=by
 cases o with
 | on m'=>exact Nat.le_trans h q
 | stop w m' p=>trivial
theorem rn_n {J:Jb} {m:Mc} {o:Ot} (h:Rn J m o):otN m.n o:=by
 induction h with
 | nil=>exact Nat.le_refl _
 | bstop _ _=>trivial
 | bon _ _ h1 h2=>exact otN.le h1 h2
 | lstop _ _=>trivial
 | lon _ e=>exact (stp_n e).1
 | fstop _ _=>trivial
 | f0 _ e _ h1=>exact otN.le (stp_n e).1 h1
 | f1 _ e _ h1=>exact otN.le (stp_n e).1 h1
 | whl _ h1=>exact h1
 | hstop _=>trivial
 | hout e=>exact (stp_n e).1
 | hin0 _ _ _=>trivial
 | hin1 e _ _ h1 h2=>exact otN.le (Nat.le_trans (stp_n e).1 h1) h2
def OutQ (C:Addr) (ps:List Pl) (ss:List Str) (M0:MH) (a:TrA) (m:Mc) (J:Jb) (Q:DK):Prop :=
 (∀ w m' p,Rn J m (.stop w m' p)->∀ M' s',JnE C M0 M' a s' m'.pt m'.pa->s'.wd=w->s'.pl=p->Q (.bl false) M') /\
 (∀ m',Rn J m (.on m')->Gdm ss m'->∀ M' s',Jw C ps M0 M' a s' m'->Q (.bl true) M')
inductive spDoS (C:Addr) (k:Nat) (ds:List D) (M:MH) (Q:DK):Prop | mk:∀ (ps:List Pl) (M0:MH) (a:TrA) (s:TrS) (m:Mc) (ss:List Str) (st:Stm) (pl:Pce),ds=[.ref a.o,pcD pl,stD st]->Jw C ps M0 M a s m->Gdm ss m->ss.length<=3->wf ss st->(∀ x∈lay pl st,pcI x.1∈ps)->ps.length<=500->dp st<=k->pl.length+2 * k<=21->OutQ C ps ss M0 a m (.s st pl) Q->spDoS C k ds M Q
inductive spDoB (C:Addr) (k:Nat) (ds:List D) (M:MH) (Q:DK):Prop | mk:∀ (ps:List Pl) (M0:MH) (a:TrA) (s:TrS) (m:Mc) (ss:List Str) (b:List Stm) (pl:Pce),ds=[.ref a.o,pcD pl,.tup (stDs b)]->Jw C ps M0 M a s m->Gdm ss m->ss.length<=3->wfs ss b->(∀ x∈layB pl 0 b,pcI x.1∈ps)->ps.length<=500->dps b<=k->pl.length+2 * k<=20->OutQ C ps ss M0 a m (.b b pl 0) Q->spDoB C k ds M Q
inductive spDoO (C:Addr) (k:Nat) (ds:List D) (M:MH) (Q:DK):Prop | mk:∀ (a:TrA) (pl:Pce) (d:D) (b0 b1:List Stm),ds=[.ref a.o,pcD pl,d,.tup [.tup (stDs b0),.tup (stDs b1)]]->pl.length+2 * k<=19->((d=.non/\Q (.bl false) M)\/∃ (wy:Nat) (b:List Stm) (ps:List Pl) (M0:MH) (s:TrS) (m:Mc) (ss:List Str),d=.int wy/\(wy=0/\b=b0\/wy=1/\b=b1)/\Jw C ps M0 M a s m/\Gdm ss m/\ss.length<=3/\wfs ss b/\(∀ x∈layB (pl++[wy]) 0 b,pcI x.1∈ps)/\ps.length<=500/\dps b<=k/\OutQ C ps ss M0 a m (.b b (pl++[wy]) 0) Q)->spDoO C k ds M Q
inductive spDoL (C:Addr) (k:Nat) (ds:List D) (M:MH) (Q:DK):Prop | mk:∀ (ps:List Pl) (M0:MH) (a:TrA) (s:TrS) (m:Mc) (ss:List Str) (r:Rw) (rs:List Rw) (ms:Option (Sm × Int)) (b:List Stm) (pl:Pce),ds=[.ref a.o,pcD pl,stD (.whl r rs ms b)]->Jw C ps M0 M a s m->Gdm ss m->ss.length<=3->wf ss (.whl r rs ms b)->(∀ x∈lay pl (.whl r rs ms b),pcI x.1∈ps)->ps.length<=500->dps b<=k->pl.length+2 * k<=19->OutQ C ps ss M0 a m (.s (.whl r rs ms b) pl) Q->spDoL C k ds M Q
theorem Gdm.stp {ss:List Str} {m:Mc} (g:Gdm ss m) {i:Ins} (hi:InsS ss i) {m1:Mc} {b:Nat} (e:stpM m 0 i=.on m1 b):Gdm ss m1:=g.on hi e
theorem layB_at {x:Stm} (pl:Pce):∀ {b:List Stm} {i0 i:Nat},b[i]?=some x->∀ y∈lay (pl++[i0+i]) x,y∈layB pl i0 b
 | [],i0,i,h,y,hy=>by simp at h
 | s :: r,i0,0,h,y,hy=>by
  simp only [List.getElem?_cons_zero,Option.some.injEq] at h;subst h
  simp only [layB,List.mem_append];exact .inl hy
 | s :: r,i0,i+1,h,y,hy=>by
  simp only [List.getElem?_cons_succ] at h
  simp only [layB,List.mem_append]
  exact .inr (layB_at pl (i0:=i0+1) h y (by rw [show i0+1+i=i0+(i+1) by omega];exact hy))
theorem lay_self (pl:Pce) (s:Stm):(pl,s)∈lay pl s:=by cases s<;>simp only [lay]<;>exact .head _
theorem wfs_at {ss:List Str} {x:Stm}:∀ {b:List Stm},wfs ss b->x∈b->wf ss x
 | [],_,h=>by cases h
 | s :: r,hw,h=>by
  simp only [wfs] at hw
  rcases List.mem_cons.mp h with rfl | h
  ·exact hw.1
  ·exact wfs_at hw.2 h
theorem drop_at {b:List Stm} {i:Nat} {x:Stm} (h:b[i]?=some x):b.drop i=x :: b.drop (i+1):=by
 obtain ⟨h1,h2⟩:=List.getElem?_eq_some_iff.mp h
 rw [List.drop_eq_getElem_cons h1,h2]
theorem pl_snoc' (pl:Pce) (i:Nat):D.tup ((pl.map fun n:Nat=>D.int n)++[.int i])=pcD (pl++[i]):=by unfold pcD;rw [List.map_append];rfl
theorem pcD_eq (pl:Pce):pcD pl=.tup (pl.map fun n:Nat=>D.int n):=rfl
theorem st_set (x:Str) (s:Sm):stD (.set x s)=.tup [.str "set",.str x,smDk s]:=by simp only [stD];rfl
theorem st_any (x:Str):stD (.any x)=.tup [.str "any",.str x]:=by simp only [stD]
theorem st_note (rs:List Rw):stD (.note rs)=.tup [.str "note",.tup (rs.map rwDk)]:=by simp only [stD];rfl
theorem st_choose (a b:List Stm):stD (.choose a b)=.tup [.str "choose",.tup (stDs a),.tup (stDs b)]:=by simp only [stD]
theorem st_ite (r:Rw) (a b:List Stm):stD (.ite r a b)=.tup [.str "if",rwDk r,.tup (stDs a),.tup (stDs b)]:=by simp only [stD];rfl
theorem st_whl (r:Rw) (rs:List Rw) (m:Option (Sm × Int)) (b:List Stm):stD (.whl r rs m b)=.tup [.str "while",rwDk r,.tup (rs.map rwDk),msDk m,.tup (stDs b)]:=by simp only [stD,msD_k];rfl
theorem ends_of {ss:List Str} (h:Names ss):∃ x y,atI (ss.map D.str) 0=some (.str x)/\atI (ss.map D.str) (-1)=some (.str y)/\x∈ss/\y∈ss/\(x≠y->[x,y].Sublist ss):=by
 have h1:=h.pos
 have h3:=h.le
 match ss,h1,h3 with
 | [a],_,_=>exact ⟨a,a,rfl,rfl,.head _,.head _,fun z=>absurd rfl z⟩
 | [a,b],_,_=>exact ⟨a,b,rfl,rfl,.head _,.tail _ (.head _),fun _=>List.Sublist.refl _⟩
 | [a,b,c],_,_=>exact ⟨a,c,rfl,rfl,.head _,.tail _ (.tail _ (.head _)),fun _=>.cons₂ _ (.cons _ (List.Sublist.refl _))⟩
theorem t_one {ss:List Str} {x:Str} {a:Int} (hx:x∈ss) (ha:a≠0) (hb:B 60 a):Terms ss [(x,a)] :=
 ⟨List.singleton_sublist.mpr hx,fun t ht=>by rw [List.mem_singleton.mp ht];exact ⟨ha,hb⟩⟩
theorem t_nil (ss:List Str):Terms ss []:=⟨List.nil_sublist _,fun t ht=>by cases ht⟩
def bothT (x y:Str):List (Str × Int):=if x=y then [(x,2)] else [(x,1),(y,1)]
theorem t_both {ss:List Str} {x y:Str} (hx:x∈ss) (h:x≠y->[x,y].Sublist ss):Terms ss (bothT x y):=by
 unfold bothT
 split
 ·exact t_one hx (by decide) (by unfold B;decide)
 ·rename_i z
  refine ⟨h z,fun t ht=>?_⟩
  simp only [List.mem_cons,List.not_mem_nil,or_false] at ht
  rcases ht with rfl | rfl<;>exact ⟨show (1:Int)≠0 by decide,show B 60 1 by unfold B;decide⟩
theorem one_wf {ss:List Str} {x:Str} {w v:Int} (hx:x∈ss) (hw:B 60 w) (hv:B 60 v):WfS ss (oneS x w v):=by
 unfold oneS
 refine ⟨?_,hv,show (0:Int) < 1 by decide,show (1:Int) < 4 by decide⟩
 show Terms ss (if w=0 then [] else [(x,w)])
 split
 ·exact t_nil ss
 ·rename_i z;exact t_one hx z hw
theorem b60 {x:Int} (h1:-1000 < x) (h2:x < 1000):B 60 x:=(Bd.rng (n:=60) (by omega) (by omega)).b
theorem b64 {x:Int} (h1:-1000 < x) (h2:x < 1000):B 64 x:=(Bd.rng (n:=64) (by omega) (by omega)).b
theorem e_set (x:Str) (s:Sm):D.tup [.str "set",.str x,smD s]=stD (.set x s):=by simp only [stD]
theorem e_any (x:Str):D.tup [.str "any",.str x]=stD (.any x):=by simp only [stD]
theorem e_note (rs:List Rw):D.tup [.str "note",.tup (rs.map rwD)]=stD (.note rs):=by simp only [stD]
theorem e_choose (a b:List Stm):D.tup [.str "choose",.tup (stDs a),.tup (stDs b)]=stD (.choose a b):=by simp only [stD]
theorem e_ite (r:Rw) (a b:List Stm):D.tup [.str "if",rwD r,.tup (stDs a),.tup (stDs b)]=stD (.ite r a b):=by simp only [stD]
theorem e_whl (r:Rw) (rs:List Rw) (m:Option (Sm × Int)) (b:List Stm):D.tup [.str "while",rwD r,.tup (rs.map rwD),msD m,.tup (stDs b)]=stD (.whl r rs m b):=by simp only [stD]
theorem tts_cnt:∀ b:List Stm,b.length<=(tts b).s
 | []=>Nat.zero_le _
 | s :: r=>by
  have:=tts_cnt r
  have h1:1<=(tt s).s:=by cases s<;>simp only [tt,Cnt.add]<;>omega
  simp only [tts,Cnt.add,List.length_cons];omega
theorem stDs_app (a b:List Stm):stDs (a++b)=stDs a++stDs b:=by rw [stDs_map,stDs_map,stDs_map,List.map_append]
theorem stDs1 (a:Stm):stDs [a]=[stD a]:=by simp only [stDs]
theorem stDs2 (a b:Stm):stDs [a,b]=[stD a,stD b]:=by simp only [stDs]
theorem stDs3 (a b c:Stm):stDs [a,b,c]=[stD a,stD b,stD c]:=by simp only [stDs]
theorem tail_a {ss:List Str} {x y:Str} {st bd a:Int} (hx:x∈ss) (hy:y∈ss) (hT:x≠y->[x,y].Sublist ss) (hs:1<=st/\st<=3) (hb:-2<=bd/\bd<=2) (ha:0<=a/\a<=1) {e:Int} (he:0<=e/\e<=1) :
  TailOk ss (.whl (true,[(x,1)],1) [(true,[(x,1)],1 - st - a),(true,bothT x y,bd)] (some (oneS x 1 0,st)) [.set x (oneS x 1 (0 - st)),.set y (oneS y 1 st)]) [(true,[(x,1)],1 - st - a),(true,bothT x y,bd)] (true,bothT x y,bd - e):=by
 have w1:Terms ss [(x,1)]:=t_one hx (by decide) (by unfold B;decide)
 have wb:=t_both hx hT
 refine ⟨?_,⟨_,_,_,rfl⟩,rfl,by simp [dp,dps],by simp [tt,tts,Cnt.add],by simp [tt,tts,Cnt.add],by simp [tt,tts,Cnt.add],by simp [tt,tts,Cnt.add],by simp [tt,tts,Cnt.add],⟨wb,b64 (by show _ < bd - e;omega) (by show bd - e < _;omega)⟩⟩
 simp only [wf,wfs]
 refine ⟨⟨w1,show B 64 1 by unfold B;decide⟩,fun r hr=>?_,Nat.le_refl 2,⟨one_wf hx (b60 (by decide) (by decide)) (b60 (by decide) (by decide)),by show 0 < st;omega,b64 (by show _ < st;omega) (by show st < _;omega),by simp [tt,tts,Cnt.add]⟩,⟨hx,one_wf hx (b60 (by decide) (by decide)) (b60 (by omega) (by omega))⟩,⟨hy,one_wf hy (b60 (by decide) (by decide)) (b60 (by omega) (by omega))⟩,trivial⟩
 simp only [List.mem_cons,List.not_mem_nil,or_false] at hr
 rcases hr with rfl | rfl
 ·exact ⟨w1,b64 (by show _ < 1 - st - a;omega) (by show 1 - st - a < _;omega)⟩
 ·exact ⟨wb,b64 (by show _ < bd;omega) (by show bd < _;omega)⟩
theorem tail_b {ss:List Str} {x y:Str} {st bd a:Int} (hx:x∈ss) (hy:y∈ss) (hT:x≠y->[x,y].Sublist ss) (hs:1<=st/\st<=3) (hb:-2<=bd/\bd<=2) (ha:0<=a/\a<=1) {e g:Int} (he:0<=e/\e<=1) (hg:0<=g/\g<=1) :
  TailOk ss (.whl (true,[(x,1)],1) [(true,[(x,1)],1 - st - a),(true,bothT x y,bd)] none [.choose [.set x (oneS x 1 (0 - st))] [.set x (oneS x 1 (0 - st)),.set y (oneS y 1 st)],.set y (oneS y 1 g)]) [(true,[(x,1)],1 - st - a),(true,bothT x y,bd)] (true,bothT x y,bd - e):=by
 obtain ⟨h1,_,_,_,_,_,_,_,_,h10⟩:=tail_a hx hy hT hs hb ha he
 simp only [wf,wfs] at h1
 obtain ⟨k1,k2,k3,_,k5,k6,_⟩:=h1
 refine ⟨?_,⟨_,_,_,rfl⟩,rfl,by simp [dp,dps],by simp [tt,tts,Cnt.add],by simp [tt,tts,Cnt.add],by simp [tt,tts,Cnt.add],by simp [tt,tts,Cnt.add],by simp [tt,tts,Cnt.add],h10⟩
 simp only [wf,wfs]
 exact ⟨k1,k2,k3,trivial,⟨⟨k5,trivial⟩,k5,k6,trivial⟩,⟨hy,one_wf hy (b60 (by decide) (by decide)) (b60 (by omega) (by omega))⟩,trivial⟩
section
variable {ss:List Str} {lp:Stm} {ks:List Rw} {nr gr:Rw} {x y:Str}
theorem TailOk.note (h:TailOk ss lp ks nr):wf ss (.note [nr]):=by
 simp only [wf]
 exact ⟨fun r hr=>by rw [List.mem_singleton.mp hr];exact h.nok,Nat.le_refl 1,by show 1<=2;decide⟩
theorem menu3 (hs:Names ss) (h:TailOk ss lp ks nr) (hg:WfR ss gr) {b:List Stm} (hb:wfs ss b) (hd:∀ s∈b,dp s<=2) {m:Cnt} (tk:Took ⟨4,1,0,1,1⟩ m (tts b)):WfP ⟨ss,[gr,nr],b++[lp,.note [nr]]⟩:=by
 obtain ⟨t1,t2,t3,t4,t5⟩:=tk
 simp only at t1 t2 t3 t4 t5
 have h5:=h.s;have h6:=h.b;have h7:=h.l;have h8:=h.a;have h9:=h.n;have hd3:=h.dpt
 have e:tts (b++[lp,.note [nr]])=(tts b).add ((tt lp).add (tt (.note [nr]))):=by
  rw [tts_app];congr 1
 have en:tt (.note [nr])=⟨1,0,0,0,1⟩:=by simp only [tt,List.length_cons,List.length_nil]
 refine ⟨hs,fun r hr=>?_,Nat.le_refl 2,?_,fun s hs'=>?_,?_,?_,?_,?_,?_⟩
 ·simp only [List.mem_cons,List.not_mem_nil,or_false] at hr
  rcases hr with rfl | rfl
  ·exact hg
  ·exact h.nok
 ·show wfs ss (b++[lp,.note [nr]])
  rw [show b++[lp,Stm.note [nr]]=(b++[lp])++[.note [nr]] by simp]
  exact wfs_snoc (wfs_snoc hb h.ok) h.note
 ·rcases List.mem_append.mp hs' with z | z
  ·have:=hd s z;omega
  ·simp only [List.mem_cons,List.not_mem_nil,or_false] at z
   rcases z with rfl | rfl
   ·omega
   ·simp only [dp];omega
 all_goals (show _<=_;rw [e,en];simp only [Cnt.add];omega)
theorem menu0 (hs:Names ss) (h:TailOk ss lp ks nr) (hg:WfR ss gr):WfP ⟨ss,[gr,nr],[lp,.note [nr]]⟩ :=
 menu3 hs h hg (b:=[]) (by simp only [wfs]) (fun s z=>nomatch z) (m:=⟨4,1,0,1,1⟩) (by simp [Took,tts])
theorem menu1 (hs:Names ss) (hx:x∈ss) (hy:y∈ss) {e:Int} (he:0<=e/\e<=1):WfP ⟨ss,[],[.any y,.ite (false,[(y,1)],0) [.set x (oneS y 1 0)] [.set x (oneS y (-1) 0)],.note [(true,[(x,1)],0 - e)]]⟩:=by
 have wy:Terms ss [(y,1)]:=t_one hy (by decide) (by unfold B;decide)
 have wx:Terms ss [(x,1)]:=t_one hx (by decide) (by unfold B;decide)
 refine ⟨hs,(fun r hr=>nomatch hr),Nat.zero_le _,?_,fun s hs'=>?_,?_,?_,?_,?_,?_⟩
 ·simp only [wf,wfs]
  exact ⟨hy,⟨⟨wy,show B 64 0 by unfold B;decide⟩,⟨⟨hx,one_wf hy (b60 (by decide) (by decide)) (b60 (by decide) (by decide))⟩,trivial⟩,⟨hx,one_wf hy (b60 (by decide) (by decide)) (b60 (by decide) (by decide))⟩,trivial⟩,⟨fun r hr=>by rw [List.mem_singleton.mp hr];exact ⟨wx,b64 (by show _ < 0 - e;omega) (by show 0 - e < _;omega)⟩,Nat.le_refl 1,by show 1<=2;decide⟩,trivial⟩
 ·simp only [List.mem_cons,List.not_mem_nil,or_false] at hs'
  rcases hs' with rfl | rfl | rfl<;>simp [dp,dps]
 all_goals (simp [tts,tt,Cnt.add])
theorem menu2 (hs:Names ss) (hx:x∈ss) (hy:y∈ss) (h:TailOk ss lp ks nr) (hg:WfR ss gr) {rr:Rw} (hr:WfR ss rr):WfP ⟨ss,[gr],[.whl (true,[(x,1)],1) ks none [.any y,.whl (false,[(y,1)],0) (ks.take 1) (some (oneS y 1 0,1)) [.set y (oneS y 1 (-1))],.set x (oneS x 1 (-1))],.note [rr]]⟩:=by
 have wy:Terms ss [(y,1)]:=t_one hy (by decide) (by unfold B;decide)
 have wx:Terms ss [(x,1)]:=t_one hx (by decide) (by unfold B;decide)
 have hk:∀ r∈ks,WfR ss r:=by
  obtain ⟨r,ms,b,rfl⟩:=h.sh
  have:=h.ok
  simp only [wf] at this
  exact this.2.1
 have kl:=h.kl
 refine ⟨hs,fun r hr=>by rw [List.mem_singleton.mp hr];exact hg,by show 1<=2;decide,?_,fun s hs'=>?_,?_,?_,?_,?_,?_⟩
 ·simp only [wf,wfs]
  refine ⟨⟨⟨wx,show B 64 1 by unfold B;decide⟩,hk,by omega,trivial,hy,⟨⟨wy,show B 64 0 by unfold B;decide⟩,fun r hr=>hk r (List.mem_of_mem_take hr),by rw [List.length_take];omega,⟨one_wf hy (b60 (by decide) (by decide)) (b60 (by decide) (by decide)),show (0:Int) < 1 by decide,show B 64 1 by unfold B;decide,by simp [tts,tt,Cnt.add]⟩,⟨hy,one_wf hy (b60 (by decide) (by decide)) (b60 (by decide) (by decide))⟩,trivial⟩,⟨hx,one_wf hx (b60 (by decide) (by decide)) (b60 (by decide) (by decide))⟩,trivial⟩,⟨fun r hr'=>by rw [List.mem_singleton.mp hr'];exact hr,Nat.le_refl 1,by show 1<=2;decide⟩,trivial⟩
 ·simp only [List.mem_cons,List.not_mem_nil,or_false] at hs'
  rcases hs' with rfl | rfl<;>simp [dp,dps]
 all_goals (simp [tts,tt,Cnt.add])
end
end KA
namespace D3
open PySem PySem.Spec PyProof.Rows L2
section
variable {prog:Program} {w:World} {K:Type} [DecidableEq K] {knd:HeapKind prog w K} {A:Around} {E:Value->Shared->Prop} {s:Shared}
theorem erase_map {α β:Type} (f:α->β):∀ (l:List α) (j:Nat),(l.map f).eraseIdx j=(l.eraseIdx j).map f
 | [],_=>rfl
 | _ :: _,0=>rfl
 | _ :: l,j+1=>congrArg _ (erase_map f l j)
end
section
variable {X:Cx} {G:Ga} {M:MH} {e o i:Expr} {apos cpos pos:Pos} {Q:DK}
end
section
variable {X:Cx} {pins:List (Addr × Obj)} {σ:St} {H:Hp} {s:Shared} {M:MH} {K:PySem.W.Frag}
end
section
variable {X:Cx} {G:Ga} {M:MH} {a b e:Expr} {pos:Pos} {Q:DK}
theorem immL_map {α:Type} {f:α->D} (h:∀ x,D3.imm (f x)=true):∀ xs:List α,immL (xs.map f)=true
 | []=>by rw [List.map_nil];unfold immL;rfl
 | x :: xs=>by rw [List.map_cons];unfold immL;rw [h x,immL_map h xs];rfl
end
open PySem.SeqAt PySem.MeetsSeq PySem.MeetsSeq2 PySem.MeetsSeq3 PySem.SeqRoads2
open PySem.AutoSeq1 (wpAny_loadPart')
def EqW (p:Program) (w:World) (A:Around) (s:Shared) (y x:Value):Prop :=
 ∀ (E:Value->Shared->Prop) (Q:Bool->Shared->Prop),Q true s->wpAny (model p w) A (eqBool y x) Q E s
def RcW (p:Program) (w:World) (A:Around) (s:Shared) (y x:Value):Prop :=
 ∀ (E:Value->Shared->Prop) (Q:Value->Shared->Prop),Q (.bool true) s->wpAny (model p w) A (compareOp .Eq y x) Q E s
def Each (p:Program) (w:World) (A:Around) (s:Shared) (xs ys:Array Value):Prop:=xs.size=ys.size/\∀ j (h1:j < xs.size) (h2:j < ys.size),EqW p w A s xs[j] ys[j]
abbrev ob (T:String) (d:Option Addr) (xs:Array Value) (n:Nat) (sl:Array (Option Value)):Obj:={ cls:=.type T,dict:=d,data:=.seq xs n,slots:=sl }
theorem eqw_loop {p:Program} {w:World} (a b:Addr) (xs ys:Array Value) (n m:Nat) (d e:Option Addr) (sl tl:Array (Option Value)):∀ (k i:Nat),xs.size - i=k ->
  MeetsIn p w (Builtin.«list.__eq__.loop» ⟨[.ref a,.ref b,rawInt i,rawInt 2],[]⟩) (fun A R s=>s.heap.get? a=some (ob "list" d xs n sl)/\s.heap.get? b=some (ob "list" e ys m tl)/\Each p w A.in1 s xs ys/\R (.ok (.ret (.bool true))) s):=by
 intro k
 induction k with
 | zero =>
  intro i hk A R s h
  obtain ⟨hp,g,d0,tk,os⟩:=s
  obtain ⟨ha,hb,⟨sz,_⟩,q⟩:=h
  wp_walk using wpAny_loadPart' ha,wpAny_loadPart' hb
  rw [show xs[((i:Nat):Int).toNat]?=none by simp;omega,show ys[((i:Nat):Int).toNat]?=none by simp;omega]
  wp_walk using wpAny_loadPart' ha,wpAny_loadPart' hb
  show R (.ok (.ret (.bool (xs.size == ys.size)))) _
  rw [sz,beq_self_eq_true]
  exact q
 | succ k ih =>
  intro i hk A R s h
  obtain ⟨hp,g,d0,tk,os⟩:=s
  obtain ⟨ha,hb,⟨sz,he⟩,q⟩:=h
  wp_walk using wpAny_loadPart' ha,wpAny_loadPart' hb
  have l1:i < xs.size:=by omega
  have l2:i < ys.size:=by omega
  rw [show xs[((i:Nat):Int).toNat]?=some xs[i] by simp [l1],show ys[((i:Nat):Int).toNat]?=some ys[i] by simp [l2]]
  refine wpAny_bind (he i l1 l2 _ _ ?_)
  wp_walk
  rw [show ((i:Int)+1)=((i+1:Nat):Int) by omega]
  refine ⟨plainId_quiet plain_eq_loop _,codeAny_builtin entry_eq_loop ?_⟩
  rw [Around.under_plainId plain_eq_loop _]
  exact ih (i+1) (by omega) A R _ ⟨ha,hb,⟨sz,he⟩,q⟩
theorem eqw_list {p:Program} {w:World} (a b:Addr) (xs ys:Array Value) (n m:Nat) (d e:Option Addr) (sl tl:Array (Option Value)) :
  MeetsIn p w (Builtin.«list.__eq__» ⟨[.ref a,.ref b],[]⟩) (fun A R s=>s.heap.get? a=some (ob "list" d xs n sl)/\s.heap.get? b=some (ob "list" e ys m tl)/\Each p w A.in1 s xs ys/\R (.ok (.ret (.bool true))) s):=by
 intro A R s h
 obtain ⟨hp,g,d0,tk,os⟩:=s
 obtain ⟨ha,hb,⟨sz,he⟩,q⟩:=h
 have f3:=AutoSeq1.sub_list_list
 have hn:¬ (xs.size != ys.size)=true:=by simp [sz]
 wp_walk using wpAny_loadPart' ha,wpAny_loadPart' hb
 refine ⟨plainId_quiet plain_eq_loop _,codeAny_builtin entry_eq_loop ?_⟩
 rw [Around.under_plainId plain_eq_loop _]
 exact eqw_loop a b xs ys n m d e sl tl _ 0 rfl A R _ ⟨ha,hb,⟨sz,he⟩,q⟩
theorem eqw_tup {p:Program} {w:World} (a b:Addr) (xs ys:Array Value) (n m:Nat) (d e:Option Addr) (sl tl:Array (Option Value)) :
  MeetsIn p w (Builtin.«tuple.__eq__» ⟨[.ref a,.ref b],[]⟩) (fun A R s=>s.heap.get? a=some (ob "tuple" d xs n sl)/\s.heap.get? b=some (ob "tuple" e ys m tl)/\Each p w A.in1 s xs ys/\R (.ok (.ret (.bool true))) s) :=
 .of_wp fun A R s h=>by
  obtain ⟨hp,g,d0,tk,os⟩:=s
  obtain ⟨ha,hb,⟨sz,he⟩,q⟩:=h
  have f2:=AutoSeq1.sub_tuple_tuple
  wp_walk using wpAny_loadPart' ha,wpAny_loadPart' hb,wpAny_forIn_list _ (fun rest r s'=>r.1=none/\s'=⟨hp,g,d0,tk,os⟩/\∃ i,rest=(xs.toList.zip ys.toList).drop i) _
  case turn =>
   rintro ⟨y,x⟩ rest r s' ⟨hr,rfl,i,hz⟩
   have hlt:i < (xs.toList.zip ys.toList).length:=by
    rcases Nat.lt_or_ge i (xs.toList.zip ys.toList).length with z | z
    ·exact z
    ·rw [List.drop_of_length_le z] at hz;cases hz
   have hm:i < min xs.size ys.size:=by simpa using hlt
   have l1:i < xs.size:=by omega
   have l2:i < ys.size:=by omega
   rw [List.drop_eq_getElem_cons hlt] at hz
   injection hz with z1 z2
   have e1:y=xs[i]:=by simpa using congrArg Prod.fst z1
   have e2:x=ys[i]:=by simpa using congrArg Prod.snd z1
   subst e1 e2
   refine wpAny_bind (he i l1 l2 _ _ ?_)
   wp_walk
   exact ⟨rfl,rfl,i+1,z2⟩
  case fin =>
   rintro ⟨b1,b2⟩ s' ⟨hr,rfl,i,hz⟩
   simp only at hr
   subst hr
   wp_walk
   refine ⟨_,rfl,?_⟩
   simpa [Builtin.Tuple.tupleCompareSizes,sz] using q
  case h=>exact ⟨rfl,rfl,0,rfl⟩
theorem EqW.same {p:Program} {w:World} {A:Around} {s:Shared} (v:Value):EqW p w A s v v:=fun E Q q=>EqAt.same v p w E Q q
theorem EqW.refs {p:Program} {w:World} {A:Around} {s:Shared} {a b:Addr} (h:RcW p w A s (.ref a) (.ref b)):EqW p w A s (.ref a) (.ref b):=fun E Q q=>by
 by_cases z:a=b
 ·subst z;exact EqW.same _ E Q q
 ·unfold eqBool
  refine wpAny_holding (wpAny_ite_split (fun y=>absurd (Value.ref.inj (eq_of_beq y)) z) (fun _=>?_))
  exact wpAny_bind (h E _ (wpAny_truthy_bool q))
theorem RcW.lists {p:Program} {w:World} {A:Around} {s:Shared} {a b:Addr} {xs ys:Array Value} (ha:s.heap.IsList a xs) (hb:s.heap.IsList b ys) (hu:A.units < cLine) (he:Each p w A.in1 s xs ys):RcW p w A s (.ref a) (.ref b):=fun E Q q=>by
 obtain ⟨⟨c1,d1,x1,s1⟩,h1,hc1,n1,hd1⟩:=id ha
 obtain ⟨⟨c2,d2,x2,s2⟩,h2,hc2,n2,hd2⟩:=id hb
 simp only at hc1 hd1 hc2 hd2
 subst hc1 hd1 hc2 hd2
 exact wpAny_richCompare_same_room (op:=.Eq) ⟨_,h1,rfl⟩ ⟨_,h2,rfl⟩ F.slot_list_eq (call_meetsIn F.slot_list_eq ⟨_,h1,rfl⟩ F.entry_list_eq (F.args_list_eq_2 _ _) (eqw_list a b xs ys n1 n2 d1 d2 s1 s2) ⟨h1,h2,he,(fun z=>nomatch z),q⟩) hu
theorem RcW.tups {p:Program} {w:World} {A:Around} {s:Shared} {a b:Addr} {xs ys:Array Value} (ha:s.heap.IsTuple a xs) (hb:s.heap.IsTuple b ys) (hu:A.units < cLine) (he:Each p w A.in1 s xs ys):RcW p w A s (.ref a) (.ref b):=fun E Q q=>by
 obtain ⟨⟨c1,d1,x1,s1⟩,h1,hc1,n1,hd1⟩:=id ha
 obtain ⟨⟨c2,d2,x2,s2⟩,h2,hc2,n2,hd2⟩:=id hb
 simp only at hc1 hd1 hc2 hd2
 subst hc1 hd1 hc2 hd2
 exact wpAny_richCompare_same_room (op:=.Eq) ⟨_,h1,rfl⟩ ⟨_,h2,rfl⟩ F.slot_tuple_eq (call_meetsIn F.slot_tuple_eq ⟨_,h1,rfl⟩ F.entry_tuple_eq (F.args_tuple_eq_2 _ _) (eqw_tup a b xs ys n1 n2 d1 d2 s1 s2) ⟨h1,h2,he,(fun z=>nomatch z),q⟩) hu
def NeW (p:Program) (w:World) (A:Around) (s:Shared) (y x:Value):Prop :=
 ∀ (E:Value->Shared->Prop) (Q:Value->Shared->Prop),Q (.bool false) s->wpAny (model p w) A (compareOp .NotEq y x) Q E s
theorem new_loop {p:Program} {w:World} (a b:Addr) (xs ys:Array Value) (n m:Nat) (d e:Option Addr) (sl tl:Array (Option Value)):∀ (k i:Nat),xs.size - i=k ->
  MeetsIn p w (Builtin.«list.__eq__.loop» ⟨[.ref a,.ref b,rawInt i,rawInt 3],[]⟩) (fun A R s=>s.heap.get? a=some (ob "list" d xs n sl)/\s.heap.get? b=some (ob "list" e ys m tl)/\Each p w A.in1 s xs ys/\R (.ok (.ret (.bool false))) s):=by
 intro k
 induction k with
 | zero =>
  intro i hk A R s h
  obtain ⟨hp,g,d0,tk,os⟩:=s
  obtain ⟨ha,hb,⟨sz,_⟩,q⟩:=h
  wp_walk using wpAny_loadPart' ha,wpAny_loadPart' hb
  rw [show xs[((i:Nat):Int).toNat]?=none by simp;omega,show ys[((i:Nat):Int).toNat]?=none by simp;omega]
  wp_walk using wpAny_loadPart' ha,wpAny_loadPart' hb
  show R (.ok (.ret (.bool (xs.size != ys.size)))) _
  rw [sz,bne_self_eq_false]
  exact q
 | succ k ih =>
  intro i hk A R s h
  obtain ⟨hp,g,d0,tk,os⟩:=s
  obtain ⟨ha,hb,⟨sz,he⟩,q⟩:=h
  wp_walk using wpAny_loadPart' ha,wpAny_loadPart' hb
  have l1:i < xs.size:=by omega
  have l2:i < ys.size:=by omega
  rw [show xs[((i:Nat):Int).toNat]?=some xs[i] by simp [l1],show ys[((i:Nat):Int).toNat]?=some ys[i] by simp [l2]]
  refine wpAny_bind (he i l1 l2 _ _ ?_)
  wp_walk
  rw [show ((i:Int)+1)=((i+1:Nat):Int) by omega]
  refine ⟨plainId_quiet plain_eq_loop _,codeAny_builtin entry_eq_loop ?_⟩
  rw [Around.under_plainId plain_eq_loop _]
  exact ih (i+1) (by omega) A R _ ⟨ha,hb,⟨sz,he⟩,q⟩
theorem new_list {p:Program} {w:World} (a b:Addr) (xs ys:Array Value) (n m:Nat) (d e:Option Addr) (sl tl:Array (Option Value)) :
  MeetsIn p w (Builtin.«list.__ne__» ⟨[.ref a,.ref b],[]⟩) (fun A R s=>s.heap.get? a=some (ob "list" d xs n sl)/\s.heap.get? b=some (ob "list" e ys m tl)/\Each p w A.in1 s xs ys/\R (.ok (.ret (.bool false))) s):=by
 intro A R s h
 obtain ⟨hp,g,d0,tk,os⟩:=s
 obtain ⟨ha,hb,⟨sz,he⟩,q⟩:=h
 have f3:=AutoSeq1.sub_list_list
 have hn:¬ (xs.size != ys.size)=true:=by simp [sz]
 wp_walk using wpAny_loadPart' ha,wpAny_loadPart' hb
 refine ⟨plainId_quiet plain_eq_loop _,codeAny_builtin entry_eq_loop ?_⟩
 rw [Around.under_plainId plain_eq_loop _]
 exact new_loop a b xs ys n m d e sl tl _ 0 rfl A R _ ⟨ha,hb,⟨sz,he⟩,q⟩
theorem new_tup {p:Program} {w:World} (a b:Addr) (xs ys:Array Value) (n m:Nat) (d e:Option Addr) (sl tl:Array (Option Value)) :
  MeetsIn p w (Builtin.«tuple.__ne__» ⟨[.ref a,.ref b],[]⟩) (fun A R s=>s.heap.get? a=some (ob "tuple" d xs n sl)/\s.heap.get? b=some (ob "tuple" e ys m tl)/\Each p w A.in1 s xs ys/\R (.ok (.ret (.bool false))) s) :=
 .of_wp fun A R s h=>by
  obtain ⟨hp,g,d0,tk,os⟩:=s
  obtain ⟨ha,hb,⟨sz,he⟩,q⟩:=h
  have f2:=AutoSeq1.sub_tuple_tuple
  wp_walk using wpAny_loadPart' ha,wpAny_loadPart' hb,wpAny_forIn_list _ (fun rest r s'=>r.1=none/\s'=⟨hp,g,d0,tk,os⟩/\∃ i,rest=(xs.toList.zip ys.toList).drop i) _
  case turn =>
   rintro ⟨y,x⟩ rest r s' ⟨hr,rfl,i,hz⟩
   have hlt:i < (xs.toList.zip ys.toList).length:=by
    rcases Nat.lt_or_ge i (xs.toList.zip ys.toList).length with z | z
    ·exact z
    ·rw [List.drop_of_length_le z] at hz;cases hz
   have hm:i < min xs.size ys.size:=by simpa using hlt
   have l1:i < xs.size:=by omega
   have l2:i < ys.size:=by omega
   rw [List.drop_eq_getElem_cons hlt] at hz
   injection hz with z1 z2
   have e1:y=xs[i]:=by simpa using congrArg Prod.fst z1
   have e2:x=ys[i]:=by simpa using congrArg Prod.snd z1
   subst e1 e2
   refine wpAny_bind (he i l1 l2 _ _ ?_)
   wp_walk
   exact ⟨rfl,rfl,i+1,z2⟩
  case fin =>
   rintro ⟨b1,b2⟩ s' ⟨hr,rfl,i,hz⟩
   simp only at hr
   subst hr
   wp_walk
   refine ⟨_,rfl,?_⟩
   simpa [Builtin.Tuple.tupleCompareSizes,sz] using q
  case h=>exact ⟨rfl,rfl,0,rfl⟩
theorem NeW.lists {p:Program} {w:World} {A:Around} {s:Shared} {a b:Addr} {xs ys:Array Value} (ha:s.heap.IsList a xs) (hb:s.heap.IsList b ys) (hu:A.units < cLine) (he:Each p w A.in1 s xs ys):NeW p w A s (.ref a) (.ref b):=fun E Q q=>by
 obtain ⟨⟨c1,d1,x1,s1⟩,h1,hc1,n1,hd1⟩:=id ha
 obtain ⟨⟨c2,d2,x2,s2⟩,h2,hc2,n2,hd2⟩:=id hb
 simp only at hc1 hd1 hc2 hd2
 subst hc1 hd1 hc2 hd2
 exact wpAny_richCompare_same_room (op:=.NotEq) ⟨_,h1,rfl⟩ ⟨_,h2,rfl⟩ F.slot_list_ne (call_meetsIn F.slot_list_ne ⟨_,h1,rfl⟩ F.entry_list_ne (F.args_list_ne_2 _ _) (new_list a b xs ys n1 n2 d1 d2 s1 s2) ⟨h1,h2,he,(fun z=>nomatch z),q⟩) hu
theorem NeW.tups {p:Program} {w:World} {A:Around} {s:Shared} {a b:Addr} {xs ys:Array Value} (ha:s.heap.IsTuple a xs) (hb:s.heap.IsTuple b ys) (hu:A.units < cLine) (he:Each p w A.in1 s xs ys):NeW p w A s (.ref a) (.ref b):=fun E Q q=>by
 obtain ⟨⟨c1,d1,x1,s1⟩,h1,hc1,n1,hd1⟩:=id ha
 obtain ⟨⟨c2,d2,x2,s2⟩,h2,hc2,n2,hd2⟩:=id hb
 simp only at hc1 hd1 hc2 hd2
 subst hc1 hd1 hc2 hd2
 exact wpAny_richCompare_same_room (op:=.NotEq) ⟨_,h1,rfl⟩ ⟨_,h2,rfl⟩ F.slot_tuple_ne (call_meetsIn F.slot_tuple_ne ⟨_,h1,rfl⟩ F.entry_tuple_ne (F.args_tuple_ne_2 _ _) (new_tup a b xs ys n1 n2 d1 d2 s1 s2) ⟨h1,h2,he,(fun z=>nomatch z),q⟩) hu
open PySem.W
mutual
inductive SmD (M:MH):Nat->D->D->Prop
 | im {n:Nat} {d:D}:imm d=true->(pd d).depth<=20->SmD M n d d
 | tup {n:Nat} {ds es:List D}:SmL M n ds es->SmD M (n+1) (.tup ds) (.tup es)
 | lst {n:Nat} {a b:Addr} {ds es:List D}:M a=some (.lst ds)->M b=some (.lst es)->SmL M n ds es->SmD M (n+1) (.ref a) (.ref b)
 | dic {n:Nat} {a b:Addr} {kvs:List (Str × D)}:M a=some (.dic kvs)->M b=some (.dic kvs)->(∀ kv∈kvs,imm kv.2=true/\(pd kv.2).depth<=20)->SmD M (n+1) (.ref a) (.ref b)
inductive SmL (M:MH):Nat->List D->List D->Prop
 | nil {n:Nat}:SmL M n [] []
 | cons {n:Nat} {d e:D} {ds es:List D}:SmD M n d e->SmL M n ds es->SmL M n (d :: ds) (e :: es)
end
section
variable {X:Cx} {pins:List (Addr × Obj)} {σ:St} {H:Hp} {s:Shared} {M:MH} {K:PySem.W.Frag} {A:Around}
theorem eqAt_imm (I:L2.Inv X pins σ H s) {d:D} {x y:V} {u v:Value} (h:imm d=true) (hz:(pd d).depth<=20) (hx:Is H d x) (ru:RelV x u) (hy:Is H d y) (rv:RelV y v) (hu:A.units+20 < cLine):EqAt A s u v true:=by
 obtain ⟨as,ra⟩:=reads_of I d x u hx ru h
 obtain ⟨bs,rb⟩:=reads_of I d y v hy rv h
 have:=eqAt_reads (pd d) (pd d) A s u v as bs ra rb (canLay_imm d h) (canLay_imm d h) (by rw [Nat.min_self];omega)
 rwa [eqv_refl _ (canLay_imm d h)] at this
theorem lkD_mem {x:Str} {d:D}:∀ {kvs:List (Str × D)},(kvs.map (·.1)).Nodup->(x,d)∈kvs->lkD kvs x=some d
 | [],_,h=>by cases h
 | (y,e) :: r,hn,h=>by
  rw [lkD_cons]
  rw [List.map_cons,List.nodup_cons] at hn
  rcases List.mem_cons.mp h with z | z
  ·cases z;rw [if_pos rfl]
  ·rw [if_neg (fun q=>hn.1 (by rw [q];exact List.mem_map.mpr ⟨_,z,rfl⟩))];exact lkD_mem hn.2 z
theorem KvIs.keys {H:Hp}:∀ {kvs:List (Str × D)} {ys:List (Key × V)},KvIs H kvs ys->ys.map (·.1)=kvs.map fun kv=>(Sum.inr kv.1:Key)
 | [],ys,h=>by rw [show ys=[] from h];rfl
 | (k,d) :: r,ys,h=>by
  obtain ⟨v,t,rfl,_,h2⟩:=h
  rw [List.map_cons,List.map_cons,KvIs.keys h2]
theorem hits_of (I:L2.Inv X pins σ H s) {all:List (Str × D)} {yb:List (Key × V)} {vb:List (Key × Value)} (hn:(all.map (·.1)).Nodup) (hb:KvIs H all yb) (rb:KV yb vb) (hi:∀ kv∈all,imm kv.2=true/\(pd kv.2).depth<=20) (hu:A.units+20 < cLine) :
  ∀ {kvs:List (Str × D)} {ya:List (Key × V)} {va:List (Key × Value)},(∀ kv∈kvs,kv∈all)->KvIs H kvs ya->KV ya va->KeqHits A s vb va true
 | [],ya,va,_,h,r=>by
  rw [show ya=[] from h] at r;cases r;exact .nil
 | (k,d) :: t,ya,va,hs,h,r=>by
  obtain ⟨x,yt,rfl,h1,h2⟩:=h
  cases r with
  | cons r1 r2 =>
   rename_i q vt
   obtain ⟨q1,q2⟩:=q
   obtain ⟨e1,e2⟩:=r1
   simp only at e1 e2
   subst e1
   have hm:=hs (k,d) (.head _)
   obtain ⟨y,hy,iy⟩:=hb.get (lkD_mem hn hm)
   have hv:=rb.val (Sum.inr k)
   rw [hy] at hv
   obtain ⟨w',hw,rw'⟩:=RelO.some_of hv
   obtain ⟨i1,i2⟩:=hi _ hm
   exact .hit (e:=true) (b:=true) hw (eqAt_imm I i1 i2 h1 e2 iy rw' hu) (hits_of I hn hb rb hi hu (fun kv z=>hs kv (.tail _ z)) h2 r2)
theorem isl_each {A:Around}:∀ {us vs:List Value},us.length=vs.length->(∀ j (h1:j < us.length) (h2:j < vs.length),EqW X.prog X.w A s us[j] vs[j])->Each X.prog X.w A s us.toArray vs.toArray:=fun e h =>
 ⟨by simpa using e,fun j h1 h2=>by simpa using h j (by simpa using h1) (by simpa using h2)⟩
theorem dic_of (I:L2.Inv X pins σ H s) (m:MemOk K M H) {a b:Addr} {kvs:List (Str × D)} (ha:M a=some (.dic kvs)) (hb:M b=some (.dic kvs)) (hi:∀ kv∈kvs,imm kv.2=true/\(pd kv.2).depth<=20) (hu:A.units+25 < cLine) :
  ∃ va vb,(a == sysModules)=false/\(b == sysModules)=false/\s.heap.DictOf (mixKind X.prog X.w) a va/\s.heap.DictOf (mixKind X.prog X.w) b vb/\(va.length == vb.length)=true/\KeqHits A.in1 s vb va true:=by
 obtain ⟨ya,h1,i1⟩:=m a _ ha
 obtain ⟨yb,h2,i2⟩:=m b _ hb
 obtain ⟨_,na,va,ra,da⟩:=dk_of I.hok h1
 obtain ⟨_,nb,vb,rb,db⟩:=dk_of I.hok h2
 have hn:(kvs.map (·.1)).Nodup:=by
  obtain ⟨o1,es1,ep1,a1,a2,a3,a4,a5,hn⟩:=id db
  rw [<- KV.keys rb,KvIs.keys i2] at hn
  exact List.pairwise_map.mpr ((List.pairwise_map.mp hn).imp fun h e=>h (by rw [e]))
 refine ⟨va,vb,na,nb,da,db,?_,hits_of I hn i2 rb hi (by show A.units+1+20 < cLine;omega) (fun _ h=>h) i1 ra⟩
 rw [<- KV.length ra,<- KV.length rb,<- i1.len,<- i2.len]
 exact beq_self_eq_true _
mutual
theorem SmD.eqw (I:L2.Inv X pins σ H s) (m:MemOk K M H):∀ {n:Nat} {A:Around} {da db:D} {x y:V} {u v:Value},SmD M n da db->Is H da x->RelV x u->Is H db y->RelV y v->A.units+n+25 < cLine->EqW X.prog X.w A s u v
 | n,A,_,_,x,y,u,v,.im h z,i1,r1,i2,r2,hu=>fun E Q q=>eqAt_imm I h z i1 r1 i2 r2 (by omega) X.prog X.w E Q q
 | _,A,_,_,x,y,u,v,.tup h,i1,r1,i2,r2,hu=>by
  rw [is_tup] at i1 i2
  obtain ⟨a,xs,rfl,h1,l1⟩:=i1
  obtain ⟨b,ys,rfl,h2,l2⟩:=i2
  cases r1;cases r2
  obtain ⟨_,its,rv,o,ho,hc,k,hd⟩:=I.hok a _ h1
  obtain ⟨_,jts,sv,o',ho',hc',k',hd'⟩:=I.hok b _ h2
  obtain ⟨e,he⟩:=SmL.each I m (A:=A.in1) h l1 rv l2 sv (by show A.units+1+_+25 < cLine;omega)
  exact EqW.refs (RcW.tups ⟨o,ho,hc,k,hd⟩ ⟨o',ho',hc',k',hd'⟩ (by omega) (isl_each e he))
 | _,A,_,_,x,y,u,v,.lst (a:=a) (b:=b) ha hb h,i1,r1,i2,r2,hu=>by
  rw [is_ref] at i1 i2;subst i1;subst i2
  cases r1;cases r2
  obtain ⟨xs,h1,l1⟩:=m a _ ha
  obtain ⟨ys,h2,l2⟩:=m b _ hb
  obtain ⟨_,its,k,rv,ho⟩:=I.hok a _ h1
  obtain ⟨_,jts,k',sv,ho'⟩:=I.hok b _ h2
  obtain ⟨e,he⟩:=SmL.each I m (A:=A.in1) h l1 rv l2 sv (by show A.units+1+_+25 < cLine;omega)
  exact EqW.refs (RcW.lists ⟨_,ho,rfl,k,rfl⟩ ⟨_,ho',rfl,k',rfl⟩ (by omega) (isl_each e he))
 | _,A,_,_,x,y,u,v,.dic (a:=a) (b:=b) ha hb hi,i1,r1,i2,r2,hu=>by
  rw [is_ref] at i1 i2;subst i1;subst i2
  cases r1;cases r2
  obtain ⟨va,vb,na,nb,d1,d2,el,hh⟩:=dic_of I m ha hb hi (A:=A) (by omega)
  exact EqW.refs fun E Q q=>keq_eq na nb d1 d2 (by omega) (fun _=>hh) (by rw [el];exact q)
theorem SmL.each (I:L2.Inv X pins σ H s) (m:MemOk K M H):∀ {n:Nat} {A:Around} {ds es:List D} {xs ys:List V} {us vs:List Value},SmL M n ds es->IsL H ds xs->Vals xs us->IsL H es ys->Vals ys vs->A.units+n+25 < cLine->us.length=vs.length/\∀ j (h1:j < us.length) (h2:j < vs.length),EqW X.prog X.w A s us[j] vs[j]
 | _,A,_,_,xs,ys,us,vs,.nil,i1,r1,i2,r2,hu=>by
  rw [isl_nil] at i1 i2;subst i1;subst i2;cases r1;cases r2
  exact ⟨rfl,fun j h1=>absurd h1 (Nat.not_lt_zero _)⟩
 | _,A,_,_,xs,ys,us,vs,.cons h t,i1,r1,i2,r2,hu=>by
  rw [isl_cons] at i1 i2
  obtain ⟨x,xs',rfl,a1,a2⟩:=i1
  obtain ⟨y,ys',rfl,b1,b2⟩:=i2
  cases r1 with
  | cons p1 p2 =>
   cases r2 with
   | cons q1 q2 =>
    have e:=SmD.eqw I m h a1 p1 b1 q1 hu
    obtain ⟨e1,e2⟩:=SmL.each I m t a2 p2 b2 q2 hu
    refine ⟨by rw [List.length_cons,List.length_cons,e1],fun j h1 h2=>?_⟩
    cases j with
    | zero=>exact e
    | succ j=>exact e2 j (Nat.lt_of_succ_lt_succ h1) (Nat.lt_of_succ_lt_succ h2)
end
theorem SmD.rcw (I:L2.Inv X pins σ H s) (m:MemOk K M H) {n:Nat} {A:Around} {da db:D} {x y:V} {u v:Value} (h:SmD M n da db) (i1:Is H da x) (r1:RelV x u) (i2:Is H db y) (r2:RelV y v) (hu:A.units+n+25 < cLine):RcW X.prog X.w A s u v:=by
 cases h with
 | im h z =>
  obtain ⟨as,ra⟩:=reads_of I _ x u i1 r1 h
  obtain ⟨bs,rb⟩:=reads_of I _ y v i2 r2 h
  exact fun E Q q=>compareEq_reads ra rb (canLay_imm _ h) (canLay_imm _ h) (by rw [Nat.min_self];omega) (by rw [eqv_refl _ (canLay_imm _ h)];exact q)
 | tup h =>
  rw [is_tup] at i1 i2
  obtain ⟨a,xs,rfl,h1,l1⟩:=i1
  obtain ⟨b,ys,rfl,h2,l2⟩:=i2
  cases r1;cases r2
  obtain ⟨_,its,rv,o,ho,hc,k,hd⟩:=I.hok a _ h1
  obtain ⟨_,jts,sv,o',ho',hc',k',hd'⟩:=I.hok b _ h2
  obtain ⟨e,he⟩:=SmL.each I m (A:=A.in1) h l1 rv l2 sv (by show A.units+1+_+25 < cLine;omega)
  exact RcW.tups ⟨o,ho,hc,k,hd⟩ ⟨o',ho',hc',k',hd'⟩ (by omega) (isl_each e he)
 | lst ha hb h =>
  rename_i a b ds es
  rw [is_ref] at i1 i2;subst i1;subst i2
  cases r1;cases r2
  obtain ⟨xs,h1,l1⟩:=m a _ ha
  obtain ⟨ys,h2,l2⟩:=m b _ hb
  obtain ⟨_,its,k,rv,ho⟩:=I.hok a _ h1
  obtain ⟨_,jts,k',sv,ho'⟩:=I.hok b _ h2
  obtain ⟨e,he⟩:=SmL.each I m (A:=A.in1) h l1 rv l2 sv (by show A.units+1+_+25 < cLine;omega)
  exact RcW.lists ⟨_,ho,rfl,k,rfl⟩ ⟨_,ho',rfl,k',rfl⟩ (by omega) (isl_each e he)
 | dic ha hb hi =>
  rename_i a b kvs
  rw [is_ref] at i1 i2;subst i1;subst i2
  cases r1;cases r2
  obtain ⟨va,vb,na,nb,d1,d2,el,hh⟩:=dic_of I m ha hb hi (A:=A) (by omega)
  exact fun E Q q=>keq_eq na nb d1 d2 (by omega) (fun _=>hh) (by rw [el];exact q)
theorem SmD.new (I:L2.Inv X pins σ H s) (m:MemOk K M H) {n:Nat} {A:Around} {da db:D} {x y:V} {u v:Value} (h:SmD M n da db) (i1:Is H da x) (r1:RelV x u) (i2:Is H db y) (r2:RelV y v) (hu:A.units+n+25 < cLine):NeW X.prog X.w A s u v:=by
 cases h with
 | im h z =>
  obtain ⟨as,ra⟩:=reads_of I _ x u i1 r1 h
  obtain ⟨bs,rb⟩:=reads_of I _ y v i2 r2 h
  exact fun E Q q=>compareNe_reads ra rb (canLay_imm _ h) (canLay_imm _ h) (by rw [Nat.min_self];omega) (by rw [eqv_refl _ (canLay_imm _ h)];exact q)
 | tup h =>
  rw [is_tup] at i1 i2
  obtain ⟨a,xs,rfl,h1,l1⟩:=i1
  obtain ⟨b,ys,rfl,h2,l2⟩:=i2
  cases r1;cases r2
  obtain ⟨_,its,rv,o,ho,hc,k,hd⟩:=I.hok a _ h1
  obtain ⟨_,jts,sv,o',ho',hc',k',hd'⟩:=I.hok b _ h2
  obtain ⟨e,he⟩:=SmL.each I m (A:=A.in1) h l1 rv l2 sv (by show A.units+1+_+25 < cLine;omega)
  exact NeW.tups ⟨o,ho,hc,k,hd⟩ ⟨o',ho',hc',k',hd'⟩ (by omega) (isl_each e he)
 | lst ha hb h =>
  rename_i a b ds es
  rw [is_ref] at i1 i2;subst i1;subst i2
  cases r1;cases r2
  obtain ⟨xs,h1,l1⟩:=m a _ ha
  obtain ⟨ys,h2,l2⟩:=m b _ hb
  obtain ⟨_,its,k,rv,ho⟩:=I.hok a _ h1
  obtain ⟨_,jts,k',sv,ho'⟩:=I.hok b _ h2
  obtain ⟨e,he⟩:=SmL.each I m (A:=A.in1) h l1 rv l2 sv (by show A.units+1+_+25 < cLine;omega)
  exact NeW.lists ⟨_,ho,rfl,k,rfl⟩ ⟨_,ho',rfl,k',rfl⟩ (by omega) (isl_each e he)
 | dic ha hb hi =>
  rename_i a b kvs
  rw [is_ref] at i1 i2;subst i1;subst i2
  cases r1;cases r2
  obtain ⟨va,vb,na,nb,d1,d2,el,hh⟩:=dic_of I m ha hb hi (A:=A) (by omega)
  exact fun E Q q=>keq_ne na nb d1 d2 (by omega) (fun _=>hh) (by rw [el];exact q)
variable {G:Ga} {a b:Expr} {pos:Pos} {Q:DK}
theorem ev_eqS (hu:X.A.units+64 < cLine) (h:EV X G M a fun da Ma=>EV X G Ma b fun db Mb=>∃ n,n<=30/\SmD Mb n da db/\Q (.bl true) Mb):EV X G M (.Compare a [.Eq] [b] pos) Q:=by
 intro pins s σ H I R
 refine wpAny_Compare1 ?_ (nomark _)
 refine thn (h pins s σ H I R) fun v s1 ⟨x,H1,da,Ma,I1,r1,g1,i1,R1,q1⟩=>?_
 refine thn (q1 pins s1 σ H1 I1 R1) fun u s2 ⟨y,H2,db,Mb,I2,r2,g2,i2,R2,n,hn,hs,q⟩=>?_
 exact hs.rcw I2 R2.mem (Is.grow g2 _ _ i1) r1 i2 r2 (by omega) _ _ ⟨.bl _,H2,.bl _,Mb,I2,rfl,g1.trans g2,is_bl.mpr rfl,R2,q⟩
theorem tv_neS {Qb:Bool->MH->Prop} (hu:X.A.units+64 < cLine) (h:EV X G M a fun da Ma=>EV X G Ma b fun db Mb=>∃ n,n<=30/\SmD Mb n da db/\Qb false Mb):TV X G M (.Compare a [.NotEq] [b] pos) Qb:=by
 refine tv_cval (nomark _) fun pins s σ H I R=>?_
 refine thn (h pins s σ H I R) fun v s1 ⟨x,H1,da,Ma,I1,r1,g1,i1,R1,q1⟩=>?_
 refine thn (q1 pins s1 σ H1 I1 R1) fun u s2 ⟨y,H2,db,Mb,I2,r2,g2,i2,R2,n,hn,hs,q⟩=>?_
 exact hs.new I2 R2.mem (Is.grow g2 _ _ i1) r1 i2 r2 (by omega) _ _ ⟨.bl _,H2,.bl _,Mb,I2,rfl,g1.trans g2,is_bl.mpr rfl,R2,_,rfl,q⟩
end
section
variable {X:Cx} {G:Ga} {M:MH} {a b elt tg:Expr} {own:List Str} {js:List Nat} {N:List Str} {scope:Scope} {cl:List (Str × Addr)} {pos:Pos} {Q:DK}
end
end D3
namespace KA
open PySem PySem.Spec PyProof.Rows L2 D3 K01
theorem dep_ints:∀ p:List Int,PyData.depthAll (pdL (p.map D.int))<=1
 | []=>by simp [pdL,PyData.depthAll]
 | x :: p=>by
  have:=dep_ints p
  rw [List.map_cons]
  unfold pdL PyData.depthAll
  simp only [pd,PyData.depth]
  omega
theorem imm_ints (p:List Int):immL (p.map D.int)=true:=immL_map (fun _=>by unfold imm;rfl) p
theorem sm_plc {M:MH} {n:Nat} (p:Pl):SmD M n (plcD p) (plcD p):=by
 refine .im (by unfold plcD;simp only [imm];exact imm_ints p) ?_
 have:=dep_ints p
 unfold plcD
 simp only [pd,PyData.depth]
 omega
theorem fr_imm (x:Fr):imm (frD x)=true/\(pd (frD x)).depth<=20:=by
 unfold frD fr
 refine ⟨by simp only [imm,immL];rfl,by simp only [pd,pdL,PyData.depth,PyData.depthAll];decide⟩
theorem sm_pt {M:MH} {n:Nat} {a b:Addr} {pt:Pt0} (ha:M a=some (.dic (ptKv pt))) (hb:M b=some (.dic (ptKv pt))):SmD M (n+1) (.ref a) (.ref b) :=
 .dic ha hb fun kv h=>by
  obtain ⟨x,_,rfl⟩:=List.mem_map.mp h
  exact fr_imm x.2
theorem sm_pas {M:MH} {n:Nat}:∀ {xs ys:List (Pl × Addr)} {pa:List (Pl × Pt0)},PaIs M xs pa->PaIs M ys pa->SmL M (n+2) (xs.map pasD) (ys.map pasD)
 | [],[],_,_,_=>.nil
 | [],_ :: _,[],_,h=>h.elim
 | [],_ :: _,_ :: _,h,_=>h.elim
 | _ :: _,[],[],h,_=>h.elim
 | _ :: _,[],_ :: _,_,h=>h.elim
 | _ :: _,_ :: _,[],h,_=>h.elim
 | x :: xs,y :: ys,z :: pa,h,k=>by
  rw [List.map_cons,List.map_cons]
  refine .cons ?_ (sm_pas h.2.2 k.2.2)
  unfold pasD
  rw [h.1,k.1]
  exact .tup (.cons (sm_plc _) (.cons (sm_pt h.2.1 k.2.1) .nil))
theorem stop_ok {m m':Mc} {a:Nat} {i:Ins} {w:Str} {p:Pl} (e:stpM m a i=.stop w m' p):PyData.strOk w=true:=by
 cases i<;>simp only [stpM] at e<;>(repeat' split at e)<;>first | (cases e;decide +kernel) | cases e
theorem sm_told {M:MH} {w:Str} {p:Pl} {l r l2 r2:Addr} {xs ys:List (Pl × Addr)} {pt:Pt0} {pa:List (Pl × Pt0)} (hw:PyData.strOk w=true) (h1:M l=some (.lst (xs.map pasD))) (h2:M l2=some (.lst (ys.map pasD))) (p1:PaIs M xs pa) (p2:PaIs M ys pa) (r1:M r=some (.dic (ptKv pt))) (r2':M r2=some (.dic (ptKv pt))):SmD M 4 (.tup [.str w,.ref l,plcD p,.ref r]) (.tup [.str w,.ref l2,plcD p,.ref r2]) :=
 .tup (.cons (.im (by unfold imm;exact hw) (by simp only [pd,PyData.depth];decide)) (.cons (.lst h1 h2 (sm_pas p1 p2)) (.cons (sm_plc p) (.cons (sm_pt r1 r2') .nil))))
theorem cut_ints (ns:List Int) (lo hi:Option Int):∃ cs:List Int,D3.cutD (ns.map D.int) lo hi=cs.map D.int/\(∀ c∈cs,c∈ns)/\cs.length<=ns.length:=by
 refine ⟨(ns.drop (HT.sIx ns.length 0 lo)).take (HT.sIx ns.length ns.length hi - HT.sIx ns.length 0 lo),?_,fun c hc=>List.mem_of_mem_drop (List.mem_of_mem_take hc),?_⟩
 ·unfold D3.cutD
  rw [List.length_map,List.map_take,List.map_drop]
 ·rw [List.length_take,List.length_drop];omega
theorem lk_pt0 {x:Str × Fr}:∀ {pt:Pt0},(pt.map (·.1)).Nodup->x∈pt->lkD (ptKv pt) x.1=some (frD x.2)
 | [],_,h=>by cases h
 | y :: r,hn,h=>by
  rw [List.map_cons,List.nodup_cons] at hn
  show lkD ((y.1,frD y.2) :: ptKv r) x.1=_
  rw [lkD_cons]
  rcases List.mem_cons.mp h with z | z
  ·rw [z,if_pos rfl]
  ·rw [if_neg (fun q=>hn.1 (by rw [q];exact List.mem_map.mpr ⟨_,z,rfl⟩))];exact lk_pt0 hn.2 z
theorem stop_pa {m m':Mc} {a:Nat} {i:Ins} {w:Str} {p:Pl} (e:stpM m a i=.stop w m' p):m'=m:=by
 cases i<;>simp only [stpM] at e<;>(repeat' split at e)<;>first | (cases e;rfl) | (cases e;done)
theorem PaIs.len {M:MH}:∀ {xs:List (Pl × Addr)} {pa:List (Pl × Pt0)},PaIs M xs pa->xs.length=pa.length
 | [],[],_=>rfl
 | _ :: xs,_ :: pa,h=>by rw [List.length_cons,List.length_cons,PaIs.len h.2.2]
 | [],_ :: _,h=>h.elim
 | _ :: _,[],h=>h.elim
theorem Rn.det {J:Jb} {m:Mc} {o1:Ot} (h1:Rn J m o1):∀ {o2:Ot},Rn J m o2->o1=o2:=by
 induction h1 with
 | nil=>intro o2 h2;cases h2;rfl
 | bstop h ih =>
  intro o2 h2
  cases h2 with
  | bstop h'=>exact ih h'
  | bon h' k'=>cases ih h'
 | bon h k ih ik =>
  intro o2 h2
  cases h2 with
  | bstop h'=>cases ih h'
  | bon h' k'=>cases ih h';exact ik k'
 | @lstop s pl m i w m' p h e =>
  intro o2 h2
  cases s<;>simp only [lf,Option.some.injEq,reduceCtorEq] at h<;>subst h<;>cases h2<;>simp_all [lf,fkI]
 | @lon s pl m i m' h e =>
  intro o2 h2
  cases s<;>simp only [lf,Option.some.injEq,reduceCtorEq] at h<;>subst h<;>cases h2<;>simp_all [lf,fkI]
 | @fstop s pl m i a b w m' p h e =>
  intro o2 h2
  cases s<;>simp only [fkI,Option.some.injEq,reduceCtorEq,Prod.mk.injEq] at h<;>obtain ⟨rfl,rfl,rfl⟩:=h<;>cases h2<;>simp_all [lf,fkI]
 | @f0 s pl m i a b m1 o h e k ik =>
  intro o2 h2
  cases s<;>simp only [fkI,Option.some.injEq,reduceCtorEq,Prod.mk.injEq] at h<;>obtain ⟨rfl,rfl,rfl⟩:=h<;>cases h2 with
  | f0 h' e' k' =>
   simp only [fkI,Option.some.injEq,Prod.mk.injEq] at h'
   obtain ⟨rfl,rfl,rfl⟩:=h'
   rw [e] at e';cases e';exact ik k'
  | f1 h' e' k' =>
   simp only [fkI,Option.some.injEq,Prod.mk.injEq] at h'
   obtain ⟨rfl,rfl,rfl⟩:=h'
   rw [e] at e';cases e'
  | fstop h' e' =>
   simp only [fkI,Option.some.injEq,Prod.mk.injEq] at h'
   obtain ⟨rfl,rfl,rfl⟩:=h'
   rw [e] at e';cases e'
  | lstop h' e'=>simp [lf] at h'
  | lon h' e'=>simp [lf] at h'
 | @f1 s pl m i a b m1 o h e k ik =>
  intro o2 h2
  cases s<;>simp only [fkI,Option.some.injEq,reduceCtorEq,Prod.mk.injEq] at h<;>obtain ⟨rfl,rfl,rfl⟩:=h<;>cases h2 with
  | f1 h' e' k' =>
   simp only [fkI,Option.some.injEq,Prod.mk.injEq] at h'
   obtain ⟨rfl,rfl,rfl⟩:=h'
   rw [e] at e';cases e';exact ik k'
  | f0 h' e' k' =>
   simp only [fkI,Option.some.injEq,Prod.mk.injEq] at h'
   obtain ⟨rfl,rfl,rfl⟩:=h'
   rw [e] at e';cases e'
  | fstop h' e' =>
   simp only [fkI,Option.some.injEq,Prod.mk.injEq] at h'
   obtain ⟨rfl,rfl,rfl⟩:=h'
   rw [e] at e';cases e'
  | lstop h' e'=>simp [lf] at h'
  | lon h' e'=>simp [lf] at h'
 | whl k ik =>
  intro o2 h2
  cases h2 with
  | whl k'=>exact ik k'
  | lstop h' e'=>simp [lf] at h'
  | lon h' e'=>simp [lf] at h'
  | fstop h' e'=>simp [fkI] at h'
  | f0 h' e' _=>simp [fkI] at h'
  | f1 h' e' _=>simp [fkI] at h'
 | hstop e=>intro o2 h2;cases h2<;>simp_all
 | hout e=>intro o2 h2;cases h2<;>simp_all
 | hin0 e h ih =>
  intro o2 h2
  cases h2 with
  | hstop e'=>rw [e] at e';cases e'
  | hout e'=>rw [e] at e';cases e'
  | hin0 e' h'=>rw [e] at e';cases e';exact ih h'
  | hin1 e' h' k'=>rw [e] at e';cases e';cases ih h'
 | hin1 e h k ih ik =>
  intro o2 h2
  cases h2 with
  | hstop e'=>rw [e] at e';cases e'
  | hout e'=>rw [e] at e';cases e'
  | hin0 e' h'=>rw [e] at e';cases e';cases ih h'
  | hin1 e' h' k'=>rw [e] at e';cases e';cases ih h';exact ik k'
def otPa:Ot->List (Pl × Pt0)
 | .on m=>m.pa
 | .stop _ m _=>m.pa
theorem stp_pre {m m':Mc} {a b:Nat} {i:Ins} (e:stpM m a i=.on m' b):m.pa <+: m'.pa:=by
 cases i<;>simp only [stpM] at e<;>(repeat' split at e)<;>first | (cases e;done) | (simp only [Stp.on.injEq] at e;obtain ⟨rfl,_⟩:=e;first | exact List.prefix_refl _ | exact List.prefix_append _ _)
theorem Rn.pre {J:Jb} {m:Mc} {o:Ot} (h:Rn J m o):m.pa <+: otPa o:=by
 induction h with
 | nil=>exact List.prefix_refl _
 | bstop _ h=>exact h
 | bon _ _ h1 h2=>exact h1.trans h2
 | lstop _ e=>rw [stop_pa e];exact List.prefix_refl _
 | lon _ e=>exact stp_pre e
 | fstop _ e=>rw [stop_pa e];exact List.prefix_refl _
 | f0 _ e _ h=>exact (stp_pre e).trans h
 | f1 _ e _ h=>exact (stp_pre e).trans h
 | whl _ h=>exact h
 | hstop e=>rw [stop_pa e];exact List.prefix_refl _
 | hout e=>exact stp_pre e
 | hin0 e _ h=>exact (stp_pre e).trans h
 | hin1 e _ _ h1 h2=>exact (stp_pre e).trans (h1.trans h2)
structure Ge (m m':Mc):Prop where
 pt:m.pt=m'.pt
 n:m.n=m'.n
 pa:m.pa=m'.pa
 kn:m.kn=m'.kn
 tu:∃ x,m.tu=m'.tu++x
 gv:∃ y,m.gv=m'.gv++y
def isCA:Stm->Prop
 | .choose _ _=>True
 | .any _=>True
 | _=>False
def wantI:Ins->Prop
 | .fork _ _=>True
 | .any _ _=>True
 | _=>False
theorem Ge.on {m m' m1':Mc} {a b:Nat} {i:Ins} (g:Ge m m') (e:stpM m' a i=.on m1' b):∃ m1,stpM m a i=.on m1 b/\Ge m1 m1':=by
 obtain ⟨pt,tu,gv,n,pa,kn⟩:=m
 obtain ⟨pt',tu',gv',n',pa',kn'⟩:=m'
 obtain ⟨h1,h2,h3,h4,⟨x,h5⟩,⟨y,h6⟩⟩:=g
 simp only at h1 h2 h3 h4 h5 h6
 subst h1;subst h2;subst h3;subst h4;subst h5;subst h6
 cases i with
 | halt=>simp [stpM] at e
 | jump to=>simp only [stpM,Stp.on.injEq] at e ⊢;obtain ⟨rfl,rfl⟩:=e;exact ⟨_,⟨rfl,rfl⟩,rfl,rfl,rfl,rfl,⟨x,rfl⟩,⟨y,rfl⟩⟩
 | enter p=>simp only [stpM,Stp.on.injEq] at e ⊢;obtain ⟨rfl,rfl⟩:=e;exact ⟨_,⟨rfl,rfl⟩,rfl,rfl,rfl,rfl,⟨x,rfl⟩,⟨y,rfl⟩⟩
 | set p z s =>
  simp only [stpM] at e ⊢
  split at e
  ·cases e
  ·rename_i h;rw [if_neg h];simp only [Stp.on.injEq] at e ⊢;obtain ⟨rfl,rfl⟩:=e;exact ⟨_,⟨rfl,rfl⟩,rfl,rfl,rfl,rfl,⟨x,rfl⟩,⟨y,rfl⟩⟩
 | any p z =>
  simp only [stpM] at e ⊢
  split at e
  ·cases e
  ·rename_i h;rw [if_neg h]
   cases gv' with
   | nil=>cases e
   | cons g r=>simp only [List.cons_append,Stp.on.injEq] at e ⊢;obtain ⟨rfl,rfl⟩:=e;exact ⟨_,⟨rfl,rfl⟩,rfl,rfl,rfl,rfl,⟨x,rfl⟩,⟨y,rfl⟩⟩
 | note p rs =>
  simp only [stpM] at e ⊢
  split at e
  ·cases e
  ·rename_i h;rw [if_neg h]
   split at e
   ·rename_i k;rw [if_pos k];simp only [Stp.on.injEq] at e ⊢;obtain ⟨rfl,rfl⟩:=e;exact ⟨_,⟨rfl,rfl⟩,rfl,rfl,rfl,rfl,⟨x,rfl⟩,⟨y,rfl⟩⟩
   ·cases e
 | fork p to =>
  simp only [stpM] at e ⊢
  split at e
  ·cases e
  ·rename_i h;rw [if_neg h]
   cases tu' with
   | nil=>cases e
   | cons g r=>simp only [List.cons_append,Stp.on.injEq] at e ⊢;obtain ⟨rfl,rfl⟩:=e;exact ⟨_,⟨rfl,rfl⟩,rfl,rfl,rfl,rfl,⟨x,rfl⟩,⟨y,rfl⟩⟩
 | unl p r to =>
  simp only [stpM] at e ⊢
  split at e
  ·cases e
  ·rename_i h;rw [if_neg h];simp only [Stp.on.injEq] at e ⊢;obtain ⟨rfl,rfl⟩:=e;exact ⟨_,⟨rfl,rfl⟩,rfl,rfl,rfl,rfl,⟨x,rfl⟩,⟨y,rfl⟩⟩
 | head p rs ms r to =>
  simp only [stpM] at e ⊢
  split at e
  ·cases e
  ·rename_i h;rw [if_neg h]
   have e1:hdOk ⟨pt,tu'++x,gv'++y,n,pa,kn⟩ p rs ms r=hdOk ⟨pt,tu',gv',n,pa,kn⟩ p rs ms r:=rfl
   have e2:hdKn ⟨pt,tu'++x,gv'++y,n,pa,kn⟩ p ms r=hdKn ⟨pt,tu',gv',n,pa,kn⟩ p ms r:=rfl
   rw [e1]
   split at e
   ·rename_i k;rw [if_pos k];simp only [Stp.on.injEq] at e ⊢;obtain ⟨rfl,rfl⟩:=e;exact ⟨_,⟨rfl,rfl⟩,rfl,rfl,rfl,e2,⟨x,rfl⟩,⟨y,rfl⟩⟩
   ·cases e
theorem Ge.stop {m m' m1':Mc} {a:Nat} {i:Ins} {w:Str} {p:Pl} (g:Ge m m') (hi:deedI i=true) (e:stpM m' a i=.stop w m1' p):(w=Str.ofString "wanting" /\ p=plI i/\wantI i)\/stpM m a i=.stop w m p:=by
 obtain ⟨pt,tu,gv,n,pa,kn⟩:=m
 obtain ⟨pt',tu',gv',n',pa',kn'⟩:=m'
 obtain ⟨h1,h2,h3,h4,⟨x,h5⟩,⟨y,h6⟩⟩:=g
 simp only at h1 h2 h3 h4 h5 h6
 subst h1;subst h2;subst h3;subst h4;subst h5;subst h6
 cases i with
 | halt=>cases hi
 | jump to=>cases hi
 | enter p=>cases hi
 | set q z s =>
  simp only [stpM] at e ⊢
  split at e
  ·rename_i h;rw [if_pos h];simp only [Stp.stop.injEq] at e;obtain ⟨rfl,_,rfl⟩:=e;exact .inr rfl
  ·cases e
 | any q z =>
  simp only [stpM] at e ⊢
  split at e
  ·rename_i h;rw [if_pos h];simp only [Stp.stop.injEq] at e;obtain ⟨rfl,_,rfl⟩:=e;exact .inr rfl
  ·cases gv' with
   | nil=>simp only [Stp.stop.injEq] at e;obtain ⟨rfl,_,rfl⟩:=e;exact .inl ⟨rfl,rfl,trivial⟩
   | cons g r=>cases e
 | note q rs =>
  simp only [stpM] at e ⊢
  split at e
  ·rename_i h;rw [if_pos h];simp only [Stp.stop.injEq] at e;obtain ⟨rfl,_,rfl⟩:=e;exact .inr rfl
  ·rename_i h;rw [if_neg h]
   split at e
   ·cases e
   ·rename_i k;rw [if_neg k];simp only [Stp.stop.injEq] at e;obtain ⟨rfl,_,rfl⟩:=e;exact .inr rfl
 | fork q to =>
  simp only [stpM] at e ⊢
  split at e
  ·rename_i h;rw [if_pos h];simp only [Stp.stop.injEq] at e;obtain ⟨rfl,_,rfl⟩:=e;exact .inr rfl
  ·cases tu' with
   | nil=>simp only [Stp.stop.injEq] at e;obtain ⟨rfl,_,rfl⟩:=e;exact .inl ⟨rfl,rfl,trivial⟩
   | cons g r=>cases e
 | unl q r to =>
  simp only [stpM] at e ⊢
  split at e
  ·rename_i h;rw [if_pos h];simp only [Stp.stop.injEq] at e;obtain ⟨rfl,_,rfl⟩:=e;exact .inr rfl
  ·cases e
 | head q rs ms r to =>
  simp only [stpM] at e ⊢
  split at e
  ·rename_i h;rw [if_pos h];simp only [Stp.stop.injEq] at e;obtain ⟨rfl,_,rfl⟩:=e;exact .inr rfl
  ·rename_i h;rw [if_neg h]
   have e1:hdOk ⟨pt,tu'++x,gv'++y,n,pa,kn⟩ q rs ms r=hdOk ⟨pt,tu',gv',n,pa,kn⟩ q rs ms r:=rfl
   rw [e1]
   split at e
   ·cases e
   ·rename_i k;rw [if_neg k];simp only [Stp.stop.injEq] at e;obtain ⟨rfl,_,rfl⟩:=e;exact .inr rfl
def jbL:Jb->List (Pce × Stm)
 | .s st pl=>lay pl st
 | .b bl pl i=>layB pl i bl
 | .l _ _ _ b pl=>layB (pl++[0]) 0 b
def Lt (J:Jb) (m:Mc):Ot->Prop
 | .on m1'=>∃ m1,Ge m1 m1'/\Rn J m (.on m1)
 | .stop w m1' p=>(w=Str.ofString "wanting" /\ (∃ x∈jbL J,pcI x.1=p/\isCA x.2)/\∀ o,Rn J m o->m1'.pa <+: otPa o)\/∃ m1,m1.pt=m1'.pt/\m1.pa=m1'.pa/\Rn J m (.stop w m1 p)
theorem Lt.lift {J J1:Jb} {m m1:Mc} {o:Ot} (h:Lt J1 m1 o) (e:∀ o,Rn J1 m1 o->Rn J m o) (iv:∀ o,Rn J m o->Rn J1 m1 o) (hl:∀ x∈jbL J1,x∈jbL J):Lt J m o:=by
 cases o with
 | on m'=>obtain ⟨m2,g,r⟩:=h;exact ⟨m2,g,e _ r⟩
 | stop w m' p =>
  rcases h with ⟨h1,⟨x,hx,h2⟩,h3⟩ | ⟨m2,h1,h2,h3⟩
  ·exact .inl ⟨h1,⟨x,hl x hx,h2⟩,fun o r=>h3 o (iv o r)⟩
  ·exact .inr ⟨m2,h1,h2,e _ h3⟩
theorem inv_f {s:Stm} {pl:Pce} {i:Ins} {a b:List Stm} {m m1:Mc} {k:Nat} {o:Ot} (h:fkI s pl 2=some (i,a,b)) (e:stpM m 0 i=.on m1 k) (r:Rn (.s s pl) m o):(k=1/\Rn (.b a (pl++[0]) 0) m1 o)\/(k=2/\Rn (.b b (pl++[1]) 0) m1 o):=by
 cases s<;>simp only [fkI,Option.some.injEq,reduceCtorEq,Prod.mk.injEq] at h<;>obtain ⟨rfl,rfl,rfl⟩:=h<;>cases r with
  | f1 h' e' k' =>
   simp only [fkI,Option.some.injEq,Prod.mk.injEq] at h'
   obtain ⟨rfl,rfl,rfl⟩:=h'
   rw [e] at e';cases e';exact .inr ⟨rfl,k'⟩
  | f0 h' e' k' =>
   simp only [fkI,Option.some.injEq,Prod.mk.injEq] at h'
   obtain ⟨rfl,rfl,rfl⟩:=h'
   rw [e] at e';cases e';exact .inl ⟨rfl,k'⟩
  | fstop h' e' =>
   simp only [fkI,Option.some.injEq,Prod.mk.injEq] at h'
   obtain ⟨rfl,rfl,rfl⟩:=h'
   rw [e] at e';cases e'
  | lstop h' e'=>simp [lf] at h'
  | lon h' e'=>simp [lf] at h'
theorem inv_w {r:Rw} {rs:List Rw} {ms:Option (Sm × Int)} {b:List Stm} {pl:Pce} {m:Mc} {o:Ot} (h:Rn (.s (.whl r rs ms b) pl) m o):Rn (.l r rs ms b pl) (entM m (pcI pl)) o:=by
 cases h with
 | whl k'=>exact k'
 | lstop h' e'=>simp [lf] at h'
 | lon h' e'=>simp [lf] at h'
 | fstop h' e'=>simp [fkI] at h'
 | f0 h' e' _=>simp [fkI] at h'
 | f1 h' e' _=>simp [fkI] at h'
theorem lf_i {s:Stm} {pl:Pce} {i:Ins} (h:lf s pl=some i):deedI i=true/\plI i=pcI pl/\(wantI i->isCA s):=by
 cases s<;>simp only [lf,Option.some.injEq,reduceCtorEq] at h<;>subst h<;>simp [deedI,plI,wantI,isCA]
theorem fk_i {s:Stm} {pl:Pce} {i:Ins} {a b:List Stm} (h:fkI s pl 2=some (i,a,b)):deedI i=true/\plI i=pcI pl/\(wantI i->isCA s)/\(∀ x∈layB (pl++[0]) 0 a,x∈lay pl s)/\∀ x∈layB (pl++[1]) 0 b,x∈lay pl s:=by
 cases s<;>simp only [fkI,Option.some.injEq,reduceCtorEq,Prod.mk.injEq] at h<;>obtain ⟨rfl,rfl,rfl⟩:=h<;>refine ⟨rfl,rfl,by simp [wantI,isCA],fun x hx=>?_,fun x hx=>?_⟩<;>simp only [lay]<;>first | exact .tail _ (List.mem_append_left _ hx) | exact .tail _ (List.mem_append_right _ hx)
theorem Ge.want {J:Jb} {m m' m1':Mc} {i:Ins} {w:Str} {p:Pl} (g:Ge m m') (e:stpM m' 0 i=.stop w m1' p):∀ o,Rn J m o->m1'.pa <+: otPa o:=fun o r=>by
 rw [stop_pa e,<- g.pa];exact r.pre
theorem rn_lt {J:Jb} {m':Mc} {o':Ot} (h:Rn J m' o'):∀ {m:Mc},Ge m m'->Lt J m o':=by
 induction h with
 | nil=>intro m g;exact ⟨m,g,.nil⟩
 | bstop h ih =>
  intro m g
  rcases ih g with ⟨h1,⟨x,hx,h2⟩,h3⟩ | ⟨m2,h1,h2,h3⟩
  ·refine .inl ⟨h1,⟨x,by simp only [jbL,layB];exact List.mem_append_left _ hx,h2⟩,fun o r=>?_⟩
   cases r with
   | bstop h'=>exact h3 _ h'
   | bon h' k'=>exact (h3 _ h').trans k'.pre
  ·exact .inr ⟨m2,h1,h2,.bstop h3⟩
 | bon h k ih ik =>
  intro m g
  obtain ⟨m1,g1,r1⟩:=ih g
  refine (ik g1).lift (fun o r=>.bon r1 r) (fun o r=>?_) (fun x hx=>by simp only [jbL,layB];exact List.mem_append_right _ hx)
  cases r with
  | bstop h'=>cases r1.det h'
  | bon h' k'=>cases r1.det h';exact k'
 | lstop h e =>
  intro m g
  obtain ⟨d,hp,hw⟩:=lf_i h
  rcases g.stop d e with ⟨rfl,rfl,hi⟩ | e'
  ·exact .inl ⟨rfl,⟨_,lay_self _ _,hp.symm,hw hi⟩,g.want e⟩
  ·exact .inr ⟨m,by rw [stop_pa e];exact g.pt,by rw [stop_pa e];exact g.pa,.lstop h e'⟩
 | lon h e =>
  intro m g
  obtain ⟨m1,e1,g1⟩:=g.on e
  exact ⟨m1,g1,.lon h e1⟩
 | fstop h e =>
  intro m g
  obtain ⟨d,hp,hw,_⟩:=fk_i h
  rcases g.stop d e with ⟨rfl,rfl,hi⟩ | e'
  ·exact .inl ⟨rfl,⟨_,lay_self _ _,hp.symm,hw hi⟩,g.want e⟩
  ·exact .inr ⟨m,by rw [stop_pa e];exact g.pt,by rw [stop_pa e];exact g.pa,.fstop h e'⟩
 | f0 h e k ik =>
  intro m g
  obtain ⟨m1,e1,g1⟩:=g.on e
  obtain ⟨_,_,_,h0,_⟩:=fk_i h
  exact (ik g1).lift (fun o r=>.f0 h e1 r) (fun o r=>(inv_f h e1 r).elim (·.2) fun z=>nomatch z.1) h0
 | f1 h e k ik =>
  intro m g
  obtain ⟨m1,e1,g1⟩:=g.on e
  obtain ⟨_,_,_,_,h0⟩:=fk_i h
  exact (ik g1).lift (fun o r=>.f1 h e1 r) (fun o r=>(inv_f h e1 r).elim (fun z=>nomatch z.1) (·.2)) h0
 | whl k ik =>
  intro m g
  refine (ik (m:=entM m _) ⟨g.pt,g.n,g.pa,by simp only [entM,g.kn],g.tu,g.gv⟩).lift (fun o r=>.whl r) (fun o r=>inv_w r) fun x hx=>?_
  simp only [jbL,lay] at hx ⊢
  exact .tail _ hx
 | hstop e =>
  intro m g
  rcases g.stop rfl e with ⟨_,_,hi⟩ | e'
  ·exact hi.elim
  ·exact .inr ⟨m,by rw [stop_pa e];exact g.pt,by rw [stop_pa e];exact g.pa,.hstop e'⟩
 | hout e =>
  intro m g
  obtain ⟨m1,e1,g1⟩:=g.on e
  exact ⟨m1,g1,.hout e1⟩
 | hin0 e h ih =>
  intro m g
  obtain ⟨m1,e1,g1⟩:=g.on e
  rcases ih g1 with ⟨h1,⟨x,hx,h2⟩,h3⟩ | ⟨m2,h1,h2,h3⟩
  ·refine .inl ⟨h1,⟨x,hx,h2⟩,fun o r=>?_⟩
   cases r with
   | hstop e'=>rw [e1] at e';cases e'
   | hout e'=>rw [e1] at e';cases e'
   | hin0 e' h'=>rw [e1] at e';cases e';exact h3 _ h'
   | hin1 e' h' k'=>rw [e1] at e';cases e';exact (h3 _ h').trans k'.pre
  ·exact .inr ⟨m2,h1,h2,.hin0 e1 h3⟩
 | hin1 e h k ih ik =>
  intro m g
  obtain ⟨m1,e1,g1⟩:=g.on e
  obtain ⟨m2,g2,r2⟩:=ih g1
  refine (ik g2).lift (fun o r=>.hin1 e1 r2 r) (fun o r=>?_) fun x hx=>hx
  cases r with
  | hstop e'=>rw [e1] at e';cases e'
  | hout e'=>rw [e1] at e';cases e'
  | hin0 e' h'=>rw [e1] at e';cases e';cases r2.det h'
  | hin1 e' h' k'=>rw [e1] at e';cases e';cases r2.det h';exact k'
theorem stop_want {m m':Mc} {a:Nat} {i:Ins} {w:Str} {p:Pl} (hd:deedI i=true) (e:stpM m a i=.stop w m' p) (hw:w=Str.ofString "wanting"):p=plI i/\wantI i:=by
 cases i<;>simp only [stpM] at e<;>(repeat' split at e)<;>first | (cases e;done) | (cases hd;done) | (simp only [Stp.stop.injEq] at e;obtain ⟨rfl,_,rfl⟩:=e;first | exact ⟨rfl,trivial⟩ | exact absurd hw (by decide +kernel))
def otW (J:Jb):Ot->Prop
 | .on _=>True
 | .stop w _ p=>w=Str.ofString "wanting" -> ∃ x∈jbL J,pcI x.1=p/\isCA x.2
theorem otW.up {J J1:Jb} {o:Ot} (h:otW J1 o) (hl:∀ x∈jbL J1,x∈jbL J):otW J o:=by
 cases o with
 | on m=>trivial
 | stop w m p=>exact fun e=>let ⟨x,hx,h2⟩:=h e;⟨x,hl x hx,h2⟩
theorem rn_otW {J:Jb} {m:Mc} {o:Ot} (h:Rn J m o):otW J o:=by
 induction h with
 | nil=>trivial
 | bstop _ h=>exact h.up fun x hx=>by simp only [jbL,layB];exact List.mem_append_left _ hx
 | bon _ _ _ h2=>exact h2.up fun x hx=>by simp only [jbL,layB];exact List.mem_append_right _ hx
 | lstop h e =>
  intro z
  obtain ⟨d,hp,hw⟩:=lf_i h
  obtain ⟨rfl,hi⟩:=stop_want d e z
  exact ⟨_,lay_self _ _,hp.symm,hw hi⟩
 | lon _ e=>trivial
 | fstop h e =>
  intro z
  obtain ⟨d,hp,hw,_⟩:=fk_i h
  obtain ⟨rfl,hi⟩:=stop_want d e z
  exact ⟨_,lay_self _ _,hp.symm,hw hi⟩
 | f0 h _ _ k=>exact k.up (fk_i h).2.2.2.1
 | f1 h _ _ k=>exact k.up (fk_i h).2.2.2.2
 | whl _ h=>exact h.up fun x hx=>by simp only [jbL,lay] at hx ⊢;exact .tail _ hx
 | hstop e=>exact fun z=>(stop_want rfl e z).2.elim
 | hout e=>trivial
 | hin0 _ _ h=>exact h
 | hin1 _ _ _ _ h2=>exact h2
theorem rn_want {b:List Stm} {pl:Pce} {i:Nat} {m m':Mc} {w:Str} {p:Pl} (h:Rn (.b b pl i) m (.stop w m' p)) (z:w=Str.ofString "wanting"):∃ x∈layB pl i b,pcI x.1=p/\isCA x.2:=rn_otW h z
theorem re_lt {b:List Stm} {m m':Mc} (g:Ge m m') {w1 w2:Str} {m1 m2:Mc} {p1 p2:Pl} (h1:Re b m w1 m1 p1) (h2:Re b m' w2 m2 p2):(w2=Str.ofString "wanting" /\ (∃ x∈layB [] 0 b,pcI x.1=p2/\isCA x.2)/\m2.pa <+: m1.pa)\/(w1=w2/\p1=p2/\m1.pt=m2.pt/\m1.pa=m2.pa):=by
 rcases h2 with h2 | ⟨h2,rfl,rfl⟩
 ·rcases rn_lt h2 g with ⟨a1,a2,a3⟩ | ⟨m3,a1,a2,a3⟩
  ·refine .inl ⟨a1,a2,?_⟩
   rcases h1 with h1 | ⟨h1,_,_⟩
   ·exact a3 _ h1
   ·exact a3 _ h1
  ·rcases h1 with h1 | ⟨h1,rfl,rfl⟩
   ·cases a3.det h1;exact .inr ⟨rfl,rfl,a1,a2⟩
   ·cases a3.det h1
 ·obtain ⟨m3,g3,r3⟩:=rn_lt h2 g
  rcases h1 with h1 | ⟨h1,rfl,rfl⟩
  ·cases r3.det h1
  ·cases r3.det h1;exact .inr ⟨rfl,rfl,g3.pt,g3.pa⟩
structure Rich (m:Mc):Prop where
 tu:300<=m.n+m.tu.length
 gv:300<=m.n+m.gv.length
 n:m.n<=300
theorem Rich.on {m m':Mc} {a b:Nat} {i:Ins} (r:Rich m) (e:stpM m a i=.on m' b):Rich m':=by
 obtain ⟨h1,h2,h3⟩:=r
 cases i<;>simp only [stpM] at e<;>(repeat' split at e)<;>first | (cases e;done) | (simp only [Stp.on.injEq] at e;obtain ⟨rfl,_⟩:=e;refine ⟨?_,?_,?_⟩<;>simp_all [Mc.deed,Mc.pass]<;>omega)
theorem Rich.stop {m m':Mc} {a:Nat} {i:Ins} {w:Str} {p:Pl} (r:Rich m) (e:stpM m a i=.stop w m' p):w≠Str.ofString "wanting" := by
 obtain ⟨h1,h2,h3⟩:=r
 cases i<;>simp only [stpM] at e<;>(repeat' split at e)<;>first | (cases e;done) | (simp only [Stp.stop.injEq] at e;obtain ⟨rfl,_⟩:=e;first | (decide +kernel) | (exfalso;simp_all;omega))
def otR:Ot->Prop
 | .on m=>Rich m
 | .stop w _ _=>w≠Str.ofString "wanting"
theorem rn_rich {J:Jb} {m:Mc} {o:Ot} (h:Rn J m o):Rich m->otR o:=by
 induction h with
 | nil=>exact id
 | bstop _ h=>exact h
 | bon _ _ h1 h2=>exact fun r=>h2 (h1 r)
 | lstop _ e=>exact fun r=>r.stop e
 | lon _ e=>exact fun r=>r.on e
 | fstop _ e=>exact fun r=>r.stop e
 | f0 _ e _ h=>exact fun r=>h (r.on e)
 | f1 _ e _ h=>exact fun r=>h (r.on e)
 | whl _ h=>exact fun r=>h ⟨r.tu,r.gv,r.n⟩
 | hstop e=>exact fun r=>r.stop e
 | hout e=>exact fun r=>r.on e
 | hin0 e _ h=>exact fun r=>h (r.on e)
 | hin1 e _ _ h1 h2=>exact fun r=>h2 (h1 (r.on e))
theorem re_rich {b:List Stm} {m m1:Mc} {w:Str} {p:Pl} (h:Re b m w m1 p) (r:Rich m):w≠Str.ofString "wanting" := by
 rcases h with h | ⟨_,rfl,_⟩
 ·exact rn_rich h r
 ·decide +kernel
end KA
namespace D3
open PySem PySem.Spec PyProof.Rows L2
section
variable {X:Cx} {G:Ga} {M:MH} {a b c:Expr} {pos:Pos}
theorem tv_chain {op op':CmpOp} {g g':Int->Int->Bool} {Qb:Bool->MH->Prop} (ho:OpR X (compareOp op) (rI0 fun i j=>.bl (g i j))) (ho':OpR X (compareOp op') (rI0 fun i j=>.bl (g' i j)))
  (h:EV X G M a fun da Ma=>EV X G Ma b fun db Mb=>∃ i j,da=.int i/\db=.int j/\if g i j=true then EV X G Mb c fun dc Mc=>∃ k,dc=.int k/\Qb (g' j k) Mc else Qb false Mb)
  (hm:lastMarks [op,op'] [b,c]=false:=by with_unfolding_all rfl):TV X G M (.Compare a [op,op'] [b,c] pos) Qb:=by
 intro pins s σ H I R
 refine isTrue_chain (thn (h pins s σ H I R) fun v s1 ⟨x,H1,da,M1,I1,r1,g1,i1,R1,q1⟩=>test_link (thn (q1 pins s1 σ H1 I1 R1) fun u s2 ⟨y,H2,db,M2,I2,r2,g2,i2,R2,i,j,e1,e2,q2⟩=>?_)) hm
 subst e1;subst e2
 rw [is_int] at i1 i2
 subst i1;subst i2
 refine thn (ho pins s2 σ H2 _ _ v u (fun z H'=>z=.bl (g i j)/\H'=H2) I2 r1 r2 ⟨i,j,rfl,rfl,rfl,rfl⟩) fun d s3 ⟨z,H3,I3,r3,e3,e4⟩=>?_
 subst e3;subst e4
 cases r3
 refine wpAny_truthy_bool ?_
 cases hg:g i j with
 | false =>
  rw [hg,if_neg (by decide)] at q2
  exact ite_ff ⟨H3,M2,I3,g1.trans g2,R2,q2⟩
 | true =>
  rw [hg,if_pos rfl] at q2
  refine ite_tt (test_last (thn (q2 pins s3 σ H3 I3 R2) fun w' s4 ⟨z',H4,dc,M4,I4,r4,g4,i4,R4,k,e5,q4⟩=>?_))
  subst e5
  rw [is_int] at i4
  subst i4
  refine thn (ho' pins s4 σ H4 _ _ u w' (fun z H'=>z=.bl (g' j k)/\H'=H4) I4 r2 r4 ⟨j,k,rfl,rfl,rfl,rfl⟩) fun d' s5 ⟨z2,H5,I5,r5,e6,e7⟩=>?_
  subst e6;subst e7
  cases r5
  exact wpAny_truthy_bool ⟨H5,M4,I5,(g1.trans g2).trans g4,R4,q4⟩
end
section
variable {X:Cx} {G:Ga} {M:MH} {e:Expr} {pos:Pos} {Q:DK}
end
end D3
namespace KA
open PySem PySem.Spec PyProof.Rows L2 D3 K01
inductive spMade9 (ds:List D) (M:MH) (Q:DK):Prop | mk:∀ t b:Int,ds=[.int t,.int b]->0 < b->Lim b->Q (fr (tp t b) (bt t b)) M->spMade9 ds M Q
theorem tp_gcd {t b:Int} (hb:0 < b):tp t b=t.fdiv (Int.gcd t b:Nat)/\bt t b=b.fdiv (Int.gcd t b:Nat):=by
 have g:0 < Int.gcd t b:=gcd_pos (by omega)
 have d1:((Int.gcd t b:Nat):Int) ∣ t:=Int.gcd_dvd_left ..
 have d2:((Int.gcd t b:Nat):Int) ∣ b:=Int.gcd_dvd_right ..
 have e1:t.fdiv (Int.gcd t b:Nat) * (Int.gcd t b:Nat)=t:=Int.fdiv_mul_cancel_of_dvd d1
 have e2:b.fdiv (Int.gcd t b:Nat) * (Int.gcd t b:Nat)=b:=Int.fdiv_mul_cancel_of_dvd d2
 have c:=cop_div (x:=t) (y:=b) (by omega)
 have p:=pos_div hb (by omega) d2
 generalize t.fdiv (Int.gcd t b:Nat)=x at *
 generalize b.fdiv (Int.gcd t b:Nat)=y at *
 refine made_is (by omega) p c ?_
 generalize ((Int.gcd t b:Nat):Int)=z at *
 rw [<- e1,<- e2,Int.mul_assoc,Int.mul_comm y z,<- Int.mul_assoc]
theorem made_gv {t b:Int} (hb:0 < b) (h3:b < 4) (ht:B 100 t):GvG (tp t b,bt t b):=by
 have hb0:b≠0:=by omega
 have h1:=bt_pos (t:=t) hb0
 have h2:=bt_le (t:=t) hb0
 exact ⟨h1,by show bt t b < 4;omega,coprime hb0,B.le (tp_le hb0) ht⟩
inductive spCellL (ds:List D) (M:MH) (Q:DK):Prop | mk:∀ (l:Addr) (ns:List Int) (k:Int),ds=[.ref l,.int k]->M l=some (.lst (ns.map D.int))->(∀ n∈ns,Cell n)->0<=k->(∀ c,Cell c->Q (.int c) M)->spCellL ds M Q
inductive spStart9 (ds:List D) (M:MH) (Q:DK):Prop | mk:∀ (c:Addr) (cs:List Int) (ss:List Str),ds=[nms ss,.ref c]->M c=some (.lst (cs.map D.int))->(∀ c∈cs,Cell c)->ss.length<=3->ss.Nodup->(∀ (pt:Pt0) h M',pt.map (·.1)=ss->(∀ x∈pt,GvG x.2)->M h=none->M' h=some (.dic (ptKv pt))->Ext M M'->Q (.ref h) M')->spStart9 ds M Q
inductive spTurns (ds:List D) (M:MH) (Q:DK):Prop | mk:∀ (c:Addr) (cs:List Int),ds=[.ref c]->M c=some (.lst (cs.map D.int))->(∀ c∈cs,Cell c)->cs.length<=100->(∀ (tu:List Int) t M',(∀ x∈tu,x=0\/x=1)->tu.length=cs.length->M t=none->M' t=some (.lst (tu.map D.int))->Ext M M'->Q (.ref t) M')->spTurns ds M Q
inductive spGivens (ds:List D) (M:MH) (Q:DK):Prop | mk:∀ (c:Addr) (cs:List Int),ds=[.ref c]->M c=some (.lst (cs.map D.int))->(∀ c∈cs,Cell c)->cs.length<=100->(∀ (gv:List Fr) t M',(∀ x∈gv,GvG x)->gv.length=cs.length->M t=none->M' t=some (.lst (gv.map frD))->Ext M M'->Q (.ref t) M')->spGivens ds M Q
def tuF:D->Int
 | .int c=>(c.fdiv 3).fmod 2
 | _=>0
theorem tuF_01 (d:D):tuF d=0\/tuF d=1:=by
 cases d with
 | int c=>have h:=fmod_lt (a:=c.fdiv 3) (b:=2) (by decide);show (c.fdiv 3).fmod 2=0\/(c.fdiv 3).fmod 2=1;omega
 | _=>exact .inl rfl
def gvF:D->Fr
 | .int c=>(tp ((c.fdiv 2).fmod 41 - 20) (1+(c.fdiv 100).fmod 3),bt ((c.fdiv 2).fmod 41 - 20) (1+(c.fdiv 100).fmod 3))
 | _=>(0,1)
theorem gvF_ok (d:D):GvG (gvF d):=by
 cases d with
 | int c =>
  have h:=fmod_lt (a:=c.fdiv 2) (b:=41) (by decide)
  have h3:=fmod_lt (a:=c.fdiv 100) (b:=3) (by decide)
  exact made_gv (by omega) (by omega) (Bd.rng (n:=100) (by omega) (by omega)).b
 | _=>exact ⟨by show (0:Int) < 1;decide,by show (1:Int) < 4;decide,by show Int.gcd 0 1=1;decide,by show B 100 0;unfold B;decide⟩
theorem filt_t {α:Type} (l:List α):(l.filter fun _=>true)=l:=List.filter_eq_self.mpr fun _ _=>rfl
theorem put_new {pt:Pt0} {x:Str} (v:Fr) (h:x∉pt.map (·.1)):putD (ptKv pt) x (frD v)=ptKv (pt++[(x,v)]):=by
 unfold putD
 rw [if_neg]
 ·unfold ptKv;rw [List.map_append];rfl
 ·intro z
  obtain ⟨y,hy,e⟩:=List.any_eq_true.mp z
  obtain ⟨u,hu,rfl⟩:=List.mem_map.mp hy
  exact h (List.mem_map.mpr ⟨u,hu,of_decide_eq_true e⟩)
inductive spAt (n:Nat) (ds:List D) (M:MH) (Q:DK):Prop | mk:∀ (b:List Stm) (k:Nat) (r:Pce) (t y:Stm),ds=[.tup (stDs b),pcD (k :: r)]->b[k]?=some t->down t r=some y->r.length<=2 * n->r.length<=100->Q (stD y) M->spAt n ds M Q
def Rf (p:Plan) (m0:Mc) (w:Str) (m:Mc) (pl:Pl):Prop:=if p.rs.all (soP m0.pt)=true then Re p.bl m0 w m pl else w=Str.ofString "unmet" /\ m=m0/\pl=[]
inductive spRun9 (ds:List D) (M:MH) (Q:DK):Prop | mk:∀ (p:Plan) (q tq gq:Addr) (kvs:List (Str × D)) (pt:Pt0) (tu:List Int) (gv:List Fr),ds=[plD p,.ref q,.ref tq,.ref gq]->WfP p->pt.map (·.1)=p.ss->M q=some (.dic kvs)->M tq=some (.lst (tu.map D.int))->M gq=some (.lst (gv.map frD))->StOk kvs pt->Gdm p.ss (mc0 pt tu gv)->(∀ w m pl,Rf p (mc0 pt tu gv) w m pl->∀ l r xs M',ToldOk M M' l r xs m.pt m.pa->Q (.tup [.str w,.ref l,plcD pl,.ref r]) M')->spRun9 ds M Q
def otS:Ot->Prop
 | .on _=>True
 | .stop w _ _=>PyData.strOk w=true
theorem rn_ok {J:Jb} {m:Mc} {o:Ot} (h:Rn J m o):otS o:=by
 induction h with
 | nil=>trivial
 | bstop _ h=>exact h
 | bon _ _ _ h2=>exact h2
 | lstop _ e=>exact stop_ok e
 | lon _ e=>trivial
 | fstop _ e=>exact stop_ok e
 | f0 _ _ _ h=>exact h
 | f1 _ _ _ h=>exact h
 | whl _ h=>exact h
 | hstop e=>exact stop_ok e
 | hout e=>trivial
 | hin0 _ _ h=>exact h
 | hin1 _ _ _ _ h2=>exact h2
theorem rf_ok {p:Plan} {m0 m:Mc} {w:Str} {pl:Pl} (h:Rf p m0 w m pl):PyData.strOk w=true:=by
 unfold Rf at h
 split at h
 ·rcases h with h | ⟨_,rfl,_⟩
  ·exact rn_ok h
  ·decide +kernel
 ·rw [h.1];decide +kernel
theorem rf_lt {p:Plan} {m m':Mc} (g:Ge m m') {w1 w2:Str} {m1 m2:Mc} {p1 p2:Pl} (h1:Rf p m w1 m1 p1) (h2:Rf p m' w2 m2 p2):m2.pa <+: m1.pa/\((w2=Str.ofString "wanting" /\ ∃ x∈layB [] 0 p.bl,pcI x.1=p2/\isCA x.2)\/(w2≠Str.ofString "wanting" /\ w1=w2/\p1=p2/\m1.pt=m2.pt/\m1.pa=m2.pa)):=by
 have key:∀ {a b:List (Pl × Pt0)},b=a->a <+: b:=fun e=>by rw [e];exact List.prefix_refl _
 unfold Rf at h1 h2
 rw [<- g.pt] at h2
 split at h1
 ·rename_i z
  rw [if_pos z] at h2
  rcases re_lt g h1 h2 with ⟨a1,a2,a3⟩ | ⟨rfl,rfl,a3,a4⟩
  ·exact ⟨a3,.inl ⟨a1,a2⟩⟩
  ·refine ⟨key a4,?_⟩
   by_cases z:w1=Str.ofString "wanting"
   ·refine .inl ⟨z,?_⟩
    rcases h2 with h2 | ⟨_,e,_⟩
    ·exact rn_want h2 z
    ·exact absurd (z.symm.trans e) (by decide +kernel)
   ·exact .inr ⟨z,rfl,rfl,a3,a4⟩
 ·rename_i z
  rw [if_neg z] at h2
  obtain ⟨rfl,rfl,rfl⟩:=h1
  obtain ⟨rfl,rfl,rfl⟩:=h2
  exact ⟨key g.pa,.inr ⟨by decide +kernel,rfl,rfl,g.pt,g.pa⟩⟩
inductive spGood9 (ds:List D) (M:MH) (Q:DK):Prop | mk:∀ (p:Plan) (s t g:Addr) (c:Int) (pt:Pt0) (tu:List Int) (gv:List Fr),ds=[plD p,.ref s,.ref t,.ref g,.int c]->WfP p->pt.map (·.1)=p.ss->(∀ x∈pt,GvG x.2)->M s=some (.dic (ptKv pt))->M t=some (.lst (tu.map D.int))->M g=some (.lst (gv.map frD))->(∀ x∈tu,x=0\/x=1)->tu.length<=100->(∀ x∈gv,GvG x)->gv.length<=100->Cell c->(∀ M',Ext M M'->Q (.bl true) M')->spGood9 ds M Q
theorem cut_upto (xs:List D) (k:Nat):D3.cutD xs none (some (k:Int))=xs.take k:=by
 unfold D3.cutD
 rw [HT.sIx_none,HT.sIx_nat,List.drop_zero,Nat.sub_zero]
 by_cases h:k<=xs.length
 ·rw [Nat.min_eq_left h]
 ·rw [Nat.min_eq_right (by omega),List.take_length,List.take_of_length_le (by omega)]
theorem cut_on (xs:List D) (k:Nat):D3.cutD xs (some (k:Int)) none=xs.drop k:=by
 unfold D3.cutD
 rw [HT.sIx_none,HT.sIx_nat,List.take_of_length_le (by simp)]
 by_cases h:k<=xs.length
 ·rw [Nat.min_eq_left h]
 ·rw [Nat.min_eq_right (by omega),List.drop_length,List.drop_of_length_le (by omega)]
theorem PaIs.take {M:MH}:∀ {xs:List (Pl × Addr)} {pa:List (Pl × Pt0)} (k:Nat),PaIs M xs pa->PaIs M (xs.take k) (pa.take k)
 | [],[],k,_=>by cases k<;>exact trivial
 | x :: r,y :: t,0,_=>trivial
 | x :: r,y :: t,k+1,h=>⟨h.1,h.2.1,PaIs.take k h.2.2⟩
 | [],_ :: _,_,h=>h.elim
 | _ :: _,[],_,h=>h.elim
theorem pre_take {α:Type} {a b:List α} (h:a <+: b):b.take a.length=a:=by
 obtain ⟨c,rfl⟩:=h
 exact List.take_left
end KA
namespace K33
open PySem PySem.Spec PyProof.Rows L2 D3 K01 KA
section
set_option hygiene false
def firstT (ts:List (Lean.TSyntax `tactic)):Lean.MacroM (Lean.TSyntax `tactic):=do
 let a:=ts.toArray
 `(tactic| first $[| $a:tactic]*)
def strT (s:String):Lean.TSyntax `str:=Lean.Syntax.mkStrLit s
def oneT (s:Lean.TSyntax `str):Lean.MacroM (Lean.TSyntax `tactic):=do
 let t:=s.getString
 let all (c:String):Lean.MacroM (Lean.TSyntax `tactic):=do firstT (<- (List.range 16).mapM fun i=>`(tactic| tm_at $(strT s!"{c}{i}")))
 if t == "var" then
  let f <- all "v"
  `(tactic| ((with_reducible show EV _ _ _ (Expr.Name _ _) _);$f))
 else if t == "asg" then
  let f <- all "a"
  `(tactic| ((with_reducible show EX _ _ _ (Stmt.Assign [Expr.Name _ _] _ _) _);$f))
 else if t == "gvn" then
  let f <- all "g"
  `(tactic| ((with_reducible show GV _ _ _ (Expr.Name _ _) _ _);$f))
 else match (t.drop 1).toNat? with
 | none=>Lean.Macro.throwUnsupported
 | some i =>
  let n:Lean.TSyntax `num:=Lean.Syntax.mkNumLit (toString i)
  if t.front == 'v' then `(tactic| ((with_reducible refine' ev_var $n ?_ ?n1 ?n2 ?n3 ?n4 ?n5);tm_at "tv"))
  else if t.front == 'a' then `(tactic| ((with_reducible refine' ex_set $n ?n0 ?_ ?n1 ?n2 ?n3 ?n4);tm_at "ta"))
  else if t.front == 'g' then `(tactic| ((with_reducible refine gv_name $n ?n0 ?_ ?n1 ?n2 ?n3);tm_at "tg";try (with_reducible refine let_E ?_;intro EL)))
  else Lean.Macro.throwUnsupported
def namT (xs:List String) (s:Lean.TSyntax `str):Lean.MacroM (Lean.TSyntax `tactic):=do
 let t:=s.getString
 if t == "var" then
  firstT (<- xs.zipIdx.mapM fun (x,i)=>`(tactic| ((with_reducible show EV _ _ _ (Expr.Name $(strT x) _) _);tm_at $(strT s!"v{i}"))))
 else if t == "asg" then
  firstT (<- xs.zipIdx.mapM fun (x,i)=>`(tactic| ((with_reducible show EX _ _ _ (Stmt.Assign [Expr.Name $(strT x) _] _ _) _);tm_at $(strT s!"a{i}"))))
 else if t == "gvn" then
  firstT (<- xs.zipIdx.mapM fun (x,i)=>`(tactic| ((with_reducible show GV _ _ _ (Expr.Name $(strT x) _) _ _);tm_at $(strT s!"g{i}"))))
 else Lean.Macro.throwUnsupported
def callT (xs:List String):Lean.MacroM (Lean.TSyntax `tactic):=do
 firstT (<- xs.mapM fun x=>do
  let c:=Lean.mkIdent (Lean.Name.mkSimple (if "_law_".isPrefixOf x then "C_l_" ++ x.drop 5 else "C_" ++ x))
  `(tactic| ((with_reducible show EV _ _ _ (Expr.Call (Expr.Name $(strT x) _) _ _ _) _);tm_at "tC";(case n0=>exact $c);tm_at "tc")))
end
def top (i:Nat):Stmt:=PySem.Challenge.pw_notekeep_k33_whole_longer_runs.main.body.getD i (.Pass ⟨0,0,0,0⟩)
section
open Lean
set_option hygiene false
def alN:Nat->(List PySem.Value->Prop)->Prop
 | 0,P=>P []
 | n+1,P=>∀ x,alN n fun l=>P (x :: l)
@[elab_as_elim] theorem ul (n:Nat):∀ {P:List PySem.Value->Prop} (us:List PySem.Value),us.length=n->alN n P->P us:=by
 induction n with
 | zero =>
  intro P us e h
  cases us
  ·exact h
  ·cases e
 | succ n ih =>
  intro P us e h
  cases us with
  | nil=>cases e
  | cons x us=>exact ih us (by simpa using e) (h x)
def lD (p:String):List String:=(p.splitOn " ").filter (· ≠ "")
def lT (l:List String):MacroM Term:=do
 let a:Array Term:=(l.map fun s=>(Syntax.mkStrLit s:Term)).toArray
 `([$a,*])
def iT (a x:String):Ident:=mkIdent (.mkSimple (a++x))
def dT (t : String) (b : Term) (p n : String) : MacroM Command := do
  let P := lD p
  let N := P ++ lD n
  return ⟨mkNullNode #[← `(command| noncomputable abbrev $(iT "s_" t) : Stmt := $b), ← `(command| noncomputable abbrev $(iT "N_" t) : List Str := $(← lT N)), ← `(command| noncomputable abbrev $(iT "P_" t) : List Str := $(← lT P)), ← `(command| theorem $(iT "sc_" t) : FnScope $(iT "N_" t) $(iT "P_" t) (defScope $(iT "s_" t)) := ⟨rfl, rfl, rfl, by decide +kernel, rfl, by decide +kernel, by decide +kernel⟩), ← `(command| def $(iT "n_" t) : List String := $(← lT N))]⟩
def tT (a : Array (TSyntax `num)) : MacroM Command := do
  return ⟨mkNullNode (← a.mapM fun i => `(command| theorem $(mkIdent (.str `_root_.PySem.W.Fast s!"tw{i.getNat}")) : True := trivial))⟩
def sT (s:TSyntax `str):MacroM (TSyntax `tactic):=do
 match lD s.getString with
 | ["F",t]=>`(tactic| (refine fn_D F $(iT "sc_" t) (by tm_at "ar") fun cdv A outer s H EE ds M Q hr h=>?_;have nd:=$(mkIdent (.str (.mkSimple ("sc_" ++ t)) "nd"));try (refine let_X ?_;intro X)))
 | "gA" :: l =>
  let u <- l.toArray.mapM fun s=>do
   let t:=(s.take 2).toString
   let i:=(s.drop 2).toString
   let n:=i.toNat?.getD 0
   let u:Array Term <- (Array.range n).mapM fun _=>`(_)
   let k:=Syntax.mkNumLit i
   `(tactic| (obtain ⟨$(iT "f_" t):ident,$(iT "d_" t):ident,$(iT "F_" t):ident,$(iT "m_" t):ident⟩:=T.$(iT "a_" t).get X G;have $(iT "b_" t):ident:=($(iT "F_" t)).binds (ps:=$(iT "P_" t)) fun _ _ _ _ _ _ us hl=>ul $k us hl $(<- if n=0 then `(rfl) else `(fun $u*=>rfl))))
  `(tactic| ($[$u]*))
 | "zZ" :: l =>
  let u <- l.toArray.mapM fun x=>`(tactic| have $(iT "z_" x):ident:=PySem.W.mg_none_of X G T.$(iT "z_" x))
  `(tactic| ($[$u]*))
 | "gG" :: l =>
  let u <- l.toArray.mapM fun x=>`(tactic| (obtain ⟨$(iT "v_" x):ident,$(iT "hv_" x):ident,$(iT "t_" x):ident,rfl⟩:=T.$(iT "g_" x);have $(iT "g_" x):ident:=PySem.W.mg_of X G $(iT "hv_" x)))
  `(tactic| ($[$u]*))
 | "cC" :: t :: o :: a =>
  let a:Array Term:=(a.map fun s=>(iT s "" : Term)).toArray
  `(tactic| have $(iT "C_" (o.drop 3).toString):ident:Cal P w K mg base _ _ _:=cal_D $(iT "F_" t) ($(iT o "") $(iT "F_" t) $a*) $(iT "b_" t) $(iT "m_" t))
 | "cD" :: t :: c :: o :: d :: k :: n :: a =>
  let e <- (Array.range (n.toNat?.getD 0)).mapM fun _=>`(by decide)
  let na (s:String):MacroM (TSyntax ``Lean.Parser.Term.namedArgument):=`(Lean.Parser.Term.namedArgument| ($(iT (s.take 1).toString ""):ident:=$(Syntax.mkNumLit (s.drop 1).toString)))
  let nd <- na d
  let nk <- na k
  let a:Array Term <- a.toArray.mapM fun s=>do
   if s == "-" then `(fun h=>absurd h (by decide))
   else if s.front == '^' then `(fun _=>$(iT (s.drop 1).toString ""))
   else if s.front == '~' then `(fun _=>($(iT (s.drop 1).toString "")).mono (by decide))
   else pure (iT s "" : Term)
  `(tactic| have $(iT c ""):ident:Cal P w K mg base _ _ _:=cal_D $(iT "F_" t) ($(iT o "") $nd:namedArgument $nk:namedArgument $e* $(iT "F_" t) $a*) $(iT "b_" t) $(iT "m_" t))
 | ["kK",i] =>
  let c (a:String) (i:Nat):MacroM (TSyntax `tactic):=do `(tactic| (case $(iT s!"{a}{i}" ""):ident=>k_is))
  let u <- (Array.range (i.toNat?.getD 0)).mapM fun i=>do `(tactic| ($(<- c "a" i);$(<- c "l" i);$(<- c "c" i);$(<- c "k" i)))
  `(tactic| ($[$u]*))
 | "kL" :: l =>
  let u <- l.toArray.mapM fun i=>do `(tactic| (case $(iT i ""):ident=>k_is))
  `(tactic| ($[$u]*))
 | _=>Macro.throwUnsupported
end
local macro_rules
 | `(#check dD $x:ident $i:num $p:str $n:str)=>do dT x.getId.toString (<- `(top $i)) p.getString n.getString
 | `(#check dD $x:ident $i:num $j:num $p:str $n:str)=>do dT x.getId.toString (<- `(inClass (top $i) $j)) p.getString n.getString
local macro_rules | `(tactic| tm_at $s:str)=>sT s
local macro_rules | `(tactic| tm_at "ar")=>`(tactic| (intro ds M Q h;first | (cases h;subst_vars;rfl) | (repeat first | (obtain ⟨e,_⟩:=h;subst e;rfl) | obtain ⟨_,h⟩:=h)))
local macro_rules | `(tactic| lk)=>`(tactic| repeat tm_at "d")
local macro_rules | `(tactic| walk)=>`(tactic| repeat first | tm_at "d" | refine exs_cons ?_)
local macro_rules | `(tactic| k_go)=>`(tactic| tm_at "d")
#check dD aa 13 "plan" "names pairs place statement"
#check dD ab 14 "statement" "word"
#check dD ac 15 "block" "pairs waiting pair inner"
#check dD ad 16 "place statement" "pairs number block index inner"
#check dD ae 17 "names pairs" "statements"
#check dD af 18 "number most" ""
#check dD ag 19 "pairs" ""
#check dD ah 20 "statements words" ""
#check dD ai 21 "statements" ""
#check dD aj 22 "names found" "name"
#check dD ak 23 "place statement" ""
#check dD al 24 "place loop" "inner"
#check dD am 25 "statement" "word"
#check dD an 26 "statement" "names measure"
#check dD ao 27 "rows" "names row"
#check dD ap 28 "terms" ""
#check dD aq 32 "one other" "shared left top divisor"
#check dD ar 33 "one other" ""
#check dD au 34 "one other" "across back"
#check dD av 35 "one other" ""
#check dD aw 36 "one point" "added name weight"
#check dD ax 37 "row point" "added bound"
#check dD ay 38 "terms point" "top bottom name weight value"
#check dD az 39 "terms point" "term"
#check dD ba 40 "one other" "greater smaller pair rest"
#check dD bb 45 "plan start turns givens" "traveller"
#check dD bc 46 "traveller place block" "index statement"
#check dD bd 47 "traveller place statement" "word"
#check dD be 48 "traveller place way blocks" ""
#check dD bf 49 "traveller place statement" "way"
#check dD bg 50 0 "self names start turns givens" "name"
#check dD bh 50 1 "self" ""
#check dD bi 50 2 "self word place" ""
#check dD bj 50 3 "self rows" ""
#check dD bk 50 4 "self place" ""
#check dD bl 50 5 "self place name one" ""
#check dD bm 50 6 "self place name" ""
#check dD bn 50 7 "self place" ""
#check dD bo 50 8 "self place row" ""
#check dD bp 50 9 "self place rows" ""
#check dD bq 50 10 "self place" ""
#check dD br 50 11 "self place rows measure row" "inside good"
#check dD bs 50 12 "self place measure inside" "now known"
#check dD bt 50 13 "self place good way" ""
#check dD bu 52 "_law_script _law_k" ""
#check dD bv 53 "_law_purse" "_law_mixed"
#check dD bw 54 "_law_cell_here" ""
#check dD bx 55 "_law_cell_here" "_law_letters _law_found _law_k"
#check dD bz 56 "_law_purse _law_names_here" "_law_found _law_name _law_weight"
#check dD ca 57 "_law_purse _law_names_here" "_law_terms_here"
#check dD cb 58 "_law_purse _law_names_here" "_law_terms_here"
#check dD cc 59 "_law_purse _law_names_here _law_many" ""
#check dD cd 60 "_law_name _law_weight _law_whole" ""
#check dD ce 61 "_law_purse _law_names_here _law_pick" "_law_x _law_y _law_step _law_turn _law_both _law_bound _law_keep _law_row_here _law_loop_here _law_fork"
#check dD cf 62 "_law_purse _law_names_here _law_pick" "_law_x _law_y _law_tail_here _law_given _law_ways _law_fork _law_note _law_sets _law_within _law_outer _law_more"
#check dD cg 63 "_law_purse _law_names_here _law_low _law_left" "_law_found _law_k"
#check dD ch 64 "_law_block_here" "_law_found _law_one_here"
#check dD ci 65 "_law_purse _law_names_here _law_low _law_left" "_law_row_here _law_rows_here _law_block_here _law_measure"
#check dD cj 66 "_law_purse _law_names_here _law_low _law_left" "_law_kind _law_name _law_row_here _law_one_here _law_other _law_rows_here"
#check dD ck 67 "_law_script" "_law_first _law_purse _law_names_here _law_rows_here"
#check dD cl 68 "_law_top _law_low" "_law_one_here _law_other"
#check dD cm 73 "_law_names_here _law_cells" "_law_point _law_k _law_cell_here _law_some _law_top"
#check dD cn 74 "_law_cells" ""
#check dD co 75 "_law_cells" ""
#check dD cp 76 "_law_block_here _law_place" "_law_one_here"
#check dD cq 77 "_law_plan_here _law_start_here _law_turns_here _law_givens_here _law_cell_here" "_law_told _law_some _law_few _law_fewer"
#check dD cr 78 "_law_script" "_law_plan_here _law_cells _law_k _law_start_here _law_turns_here _law_givens_here _law_many"
set_option hygiene false
local macro_rules | `(tactic| tm_at $s:str)=>oneT s
local macro_rules | `(tactic| tm_at "tv")=>`(tactic| ((case n1=>rfl);(case n2=>rfl);(case n3=>first | exact Or.inl rfl | exact Or.inr (Or.inl rfl) | exact Or.inr (Or.inr rfl));(case n4=>decide);(case n5=>decide)))
local macro_rules | `(tactic| tm_at "ta")=>`(tactic| ((case n0=>exact nd);(case n1=>rfl);(case n2=>first | exact Or.inl rfl | exact Or.inr rfl);(case n3=>kernel_rfl);(case n4=>first | exact .inl rfl | exact .inr rfl)))
local macro_rules | `(tactic| tm_at "tg")=>`(tactic| ((case n0=>exact nd);(case n1=>rfl);(case n2=>first | exact Or.inl rfl | exact Or.inr rfl);(case n3=>first | exact .inl rfl | exact .inr rfl)))
local macro_rules | `(tactic| tm_at "tc")=>`(tactic| ((case n1=>exact hr);(case n2=>first | decide | omega);(case n3=>rfl);(case n4=>decide);(case n5=>rfl);(case n6=>rfl)))
local macro_rules | `(tactic| tm_at "tC")=>`(tactic| ((with_reducible refine' ev_callM ?n0 ?n1 ?n2 ?_ ?n3 ?n4 ?n5 ?n6)))
local macro_rules | `(tactic| tm_at "tb")=>`(tactic| ((case n1=>rfl);(case n2=>rfl);(case n3=>rfl)))
local macro_rules | `(tactic| tm_at "cl")=>callT ["must_plan", "blocks_of", "laid_out", "straight_within", "must_be_small", "must_be_within", "depth_of", "how_many", "rows_noted", "must_be_among", "must_bear_measure", "must_have_no_loop", "names_of_statement", "names_of_loop", "names_of_rows", "names_of_terms", "plus", "minus", "times", "less", "worth", "is_so", "added_up", "must_have_names", "common_divisor", "many_steps", "sure_steps", "run", "do_block", "do_statement", "do_one_of", "do_loop", "_law_cell", "_law_take", "_law_number", "_law_names", "_law_terms", "_law_sum", "_law_row", "_law_rows", "_law_one", "_law_tail", "_law_menu", "_law_block", "_law_loops", "_law_loop", "_law_statement", "_law_plan", "_law_made", "_law_total", "_law_worth", "_law_so", "_law_all_so", "_law_start", "_law_turns", "_law_givens", "_law_at", "_law_good", "law"]
local macro_rules | `(tactic| tm_at "side")=>`(tactic| first | assumption | decide | omega)
local macro_rules | `(tactic| tm_at "mulside")=>`(tactic| first | assumption | exact mulOk)
local macro_rules | `(tactic| tm_at "divside")=>`(tactic| first | assumption | exact divOk (by decide) | exact divOk (by assumption) | exact divOk (by omega))
local macro_rules | `(tactic| tm_at "modside")=>`(tactic| first | assumption | decide | omega)
local macro_rules | `(tactic| tm_at "powside")=>`(tactic| first | assumption | exact ⟨by decide,by decide,by decide⟩)
local macro_rules | `(tactic| tm_at "szside")=>`(tactic| first | (exact small (Nat.le_of_ble_eq_true rfl)) | (exact small (by simp;omega)) | (exact small (by omega)))
local macro_rules | `(tactic| tm_at "eC")=>`(tactic| first | with_reducible refine ev_int ?_ | with_reducible refine ev_bl ?_ | with_reducible refine ev_non ?_ | with_reducible refine ev_str ?_)
local macro_rules | `(tactic| tm_at "eN")=>`(tactic| first | tm_at "var")
local macro_rules | `(tactic| tm_at "eK")=>`(tactic| first | ((with_reducible show EV _ _ _ (Expr.Call (Expr.Name "tuple" _) [_] _ _) _);(with_reducible refine ev_tupleC ?n0 ?_ ?n1 ?n2 ?n3);(case n0=>exact h_tuple);tm_at "tb") | ((with_reducible show EV _ _ _ (Expr.Call (Expr.Name "dict" _) [_] _ _) _);(with_reducible refine ev_dictC ?n0 ?_ ?n1 ?n2 ?n3);(case n0=>exact h_dict);tm_at "tb") | ((with_reducible show EV _ _ _ (Expr.Call (Expr.Name "sorted" _) [_] _ _) _);(with_reducible refine ev_sortedS ?n0 ?_ ?n1 ?n2 ?n3);(case n0=>exact h_sorted);tm_at "tb") | ((with_reducible show EV _ _ _ (Expr.Call (Expr.Name "list" _) [_] _ _) _);(with_reducible refine ev_listC ?n0 ?_ ?n1 ?n2 ?n3);(case n0=>exact h_list);tm_at "tb") | ((with_reducible show EV _ _ _ (Expr.Call (Expr.Name "sum" _) [_] _ _) _);(with_reducible refine ev_sumL ?n9 ?n0 ?_ ?n1 ?n2 ?n3);(case n9=>rfl);(case n0=>exact h_sum);tm_at "tb") | ((with_reducible show EV _ _ _ (Expr.Call (Expr.Name "abs" _) _ _ _) _);(with_reducible refine ev_abs ?n0 ?_ ?n1 ?n2 ?n3);(case n0=>exact h_abs);tm_at "tb") | ((with_reducible show EV _ _ _ (Expr.Call (Expr.Name "len" _) _ _ _) _);(with_reducible refine ev_len ?n0 ?_ ?n1 ?n2 ?n3);(case n0=>exact h_len);tm_at "tb") | ((with_reducible show EV _ _ _ (Expr.Call (Expr.Name "int" _) _ _ _) _);(with_reducible refine ev_intC ?n0 ?_ ?n1 ?n2 ?n3);(case n0=>exact h_int);tm_at "tb") | ((with_reducible show EV _ _ _ (Expr.Call (Expr.Name "max" _) [_,_] _ _) _);(with_reducible refine ev_max2 ?n0 ?n9 ?_ ?n1 ?n2 ?n3);(case n0=>exact h_max);(case n9=>rfl);tm_at "tb") | ((with_reducible show EV _ _ _ (Expr.Call (Expr.Name "min" _) [_,_] _ _) _);(with_reducible refine ev_min2 ?n0 ?n9 ?_ ?n1 ?n2 ?n3);(case n0=>exact h_min);(case n9=>rfl);tm_at "tb"))
local macro_rules | `(tactic| tm_at "eA")=>`(tactic| first | ((with_reducible show EV _ _ _ (Expr.Call (Expr.Attribute _ "append" _) [_] [] _) _);(with_reducible refine ev_append ?_ ?n1 ?n2 ?n3 ?n4 ?n5);tm_at "tb";(case n4=>rfl);(case n5=>rfl)) | ((with_reducible show EV _ _ _ (Expr.Call (Expr.Attribute _ "extend" _) [_] [] _) _);(with_reducible refine ev_extend ?_ ?n1 ?n2 ?n3 ?n4 ?n5);tm_at "tb";(case n4=>rfl);(case n5=>rfl)) | ((with_reducible show EV _ _ _ (Expr.Call (Expr.Attribute _ "reverse" _) [] [] _) _);(with_reducible refine ev_reverse ?_ ?n1 ?n2);(case n1=>rfl);(case n2=>rfl)) | ((with_reducible show EV _ _ _ (Expr.Call (Expr.Attribute _ "pop" _) [] [] _) _);(with_reducible refine ev_pop ?_ ?n1 ?n2);(case n1=>rfl);(case n2=>rfl)))
local macro_rules | `(tactic| tm_at "eB")=>`(tactic| first | with_reducible refine ev_add ?_ | with_reducible refine l_sub ?_ | with_reducible refine l_mul ?_ | with_reducible refine l_fdiv ?_ | with_reducible refine l_mod ?_ | with_reducible refine l_pow ?_)
local macro_rules | `(tactic| tm_at "eM")=>`(tactic| first | with_reducible refine l_lt ?_ | with_reducible refine l_gt ?_ | with_reducible refine l_ge ?_ | ((with_reducible show EV _ _ _ (Expr.Compare _ [CmpOp.Eq] _ _) _);(with_reducible refine l_eq ?n0 ?_);(case n0=>exact hr.units)) | ((with_reducible show EV _ _ _ (Expr.Compare _ [CmpOp.In] _ _) _);(with_reducible refine l_in ?n1 ?_ ?n0);(case n1=>exact hr.units);(case n0=>rfl)))
local macro_rules | `(tactic| tm_at "eS")=>`(tactic| first | ((with_reducible show EV _ _ _ (Expr.Subscript _ (Expr.Constant _ _ _) _) _);(with_reducible refine l_item ?n1 ?_ ?n0);(case n1=>exact hr.units);(case n0=>(intro _ _;rfl))) | ((with_reducible show EV _ _ _ (Expr.Subscript _ (Expr.UnaryOp _ _ _) _) _);(with_reducible refine l_item ?n1 ?_ ?n0);(case n1=>exact hr.units);(case n0=>(intro _ _;rfl))) | ((with_reducible show EV _ _ _ (Expr.Subscript _ (Expr.Name _ _) _) _);(with_reducible refine l_item ?n1 ?_ ?n0);(case n1=>exact hr.units);(case n0=>(intro _ _;rfl))) | ((with_reducible show EV _ _ _ (Expr.Subscript _ (Expr.BinOp _ _ _ _) _) _);(with_reducible refine l_item ?n1 ?_ ?n0);(case n1=>exact hr.units);(case n0=>(intro _ _;rfl))) | ((with_reducible show EV _ _ _ (Expr.Subscript _ (Expr.Call _ _ _ _) _) _);(with_reducible refine l_item ?n1 ?_ ?n0);(case n1=>exact hr.units);(case n0=>(intro _ _;rfl))) | ((with_reducible show EV _ _ _ (Expr.Subscript _ (Expr.Subscript _ _ _) _) _);(with_reducible refine l_item ?n1 ?_ ?n0);(case n1=>exact hr.units);(case n0=>(intro _ _;rfl))))
local macro_rules | `(tactic| tm_at "eU")=>`(tactic| first | with_reducible refine l_neg ?_)
local macro_rules | `(tactic| tm_at "eL")=>`(tactic| first | fail)
local macro_rules | `(tactic| tm_at "eO")=>`(tactic| first | with_reducible refine ev_dnew ?_ | with_reducible refine ev_ifExp ?_ | with_reducible refine ev_tup ?_ | with_reducible refine ev_lst ?_)
local macro_rules | `(tactic| tm_at "tv")=>`(tactic| first | with_reducible refine lt_lt ?_ | with_reducible refine lt_le ?_ | with_reducible refine lt_gt ?_ | with_reducible refine tv_not ?_ | ((with_reducible show TV _ _ _ (Expr.Compare _ [CmpOp.Eq] _ _) _);(with_reducible refine lt_eq ?n0 ?_);(case n0=>exact hr.units)) | ((with_reducible show TV _ _ _ (Expr.Compare _ [CmpOp.NotEq] _ _) _);(with_reducible refine lt_ne ?n0 ?_);(case n0=>exact hr.units)) | ((with_reducible show TV _ _ _ (Expr.Compare _ [CmpOp.In] _ _) _);(with_reducible refine lt_in ?n1 ?_ ?n0);(case n1=>exact hr.units);(case n0=>rfl)) | ((with_reducible show TV _ _ _ (Expr.Compare _ [CmpOp.NotIn] _ _) _);(with_reducible refine lt_notin ?n1 ?_ ?n0);(case n1=>exact hr.units);(case n0=>rfl)) | with_reducible refine tv_is ?_ | with_reducible refine tv_isnot ?_ | ((with_reducible show TV _ _ _ (Expr.Call _ _ _ _) _);(with_reducible refine tv_call ?_ ?n0);(case n0=>(intro _;rfl))) | with_reducible refine TW.tv (tw_and ?_) | with_reducible refine TW.tv (tw_or ?_))
local macro_rules | `(tactic| tm_at "tw")=>`(tactic| first | with_reducible refine tw_and1 ?_ | with_reducible refine tw_or1 ?_ | with_reducible refine tw_and ?_ | with_reducible refine tw_or ?_)
local macro_rules | `(tactic| tm_at "av")=>`(tactic| first | with_reducible refine av_nil ?_ | ((with_reducible show AV _ _ _ (_ :: _) _);(with_reducible refine av_cons ?_ ?n0);(case n0=>rfl)))
local macro_rules | `(tactic| tm_at "xs")=>`(tactic| first | with_reducible refine exs_nil ?_ | with_reducible refine exs_one ?_ | ((with_reducible show EXs _ _ _ (Stmt.Assign _ _ _ :: _) _);with_reducible refine exs_cons ?_) | ((with_reducible show EXs _ _ _ (Stmt.Expr _ _ :: _) _);with_reducible refine exs_cons ?_))
local macro_rules | `(tactic| tm_at "ex")=>`(tactic| first | with_reducible refine ex_if ?_ | with_reducible refine ex_ret ?_ | ((with_reducible show EX _ _ _ (Stmt.Expr _ _) _);(with_reducible refine ex_expr ?_ ?n0);(case n0=>kernel_rfl)) | ((fail_if_success (with_reducible show EX _ _ _ (Stmt.Assign _ (Expr.ListComp _ _ _ _) _) _));tm_at "asg") | ((with_reducible show EX _ _ _ (Stmt.Assign [Expr.Subscript _ _ _] _ _) _);(with_reducible refine ex_asg ?_ ?n1 ?n2 ?n3);(case n1=>kernel_rfl);(case n2=>kernel_rfl);(case n3=>rfl)) | ((with_reducible show EX _ _ _ (Stmt.Assign [Expr.Tuple _ _ _] _ _) _);(with_reducible refine ex_asg ?_ ?n1 ?n2 ?n3);(case n1=>kernel_rfl);(case n2=>kernel_rfl);(case n3=>rfl)))
local macro_rules | `(tactic| tm_at "gv")=>`(tactic| first | tm_at "gvn" | ((with_reducible show GV _ _ _ (Expr.Subscript _ _ _) _ _);(with_reducible refine gv_set ?n1 ?_ ?n2);(case n1=>exact hr.units);(case n2=>(intro _;rfl))) | ((with_reducible show GV _ _ _ (Expr.Tuple _ _ _) (D.tup _) _);(with_reducible refine gv_tup ?n1 ?_ ?n2 ?n3);tm_at "tb"))
local macro_rules | `(tactic| tm_at "gs")=>`(tactic| first | ((with_reducible show GVs _ _ _ (_ :: _) (_ :: _) _);(with_reducible refine gvs_cons ?_ ?n1);(case n1=>rfl)) | with_reducible refine gvs_nil ?_)
local macro_rules | `(tactic| tm_at "ts")=>`(tactic| first | with_reducible refine tvs_one ?_ | with_reducible refine tvs_nil ?_)
local macro_rules | `(tactic| tm_at "lI")=>`(tactic| first | ((with_reducible show ite (true=true) _ _);refine ifT ?_) | ((with_reducible show ite (false=true) _ _);refine ifF ?_) | ((with_reducible show ite ((!true)=true) _ _);refine ifNT ?_) | ((with_reducible show ite ((!false)=true) _ _);refine ifNF ?_))
local macro_rules | `(tactic| tm_at "lE")=>`(tactic| first | ((with_reducible show ∃ k,D.bl _=D.bl k/\_);refine ⟨_,rfl,?_⟩) | ((with_reducible show ∃ k,D.int _=D.int k/\_);refine ⟨_,rfl,?_⟩) | ((with_reducible show ∃ k,TruD _ (D.bl _) _ k/\_);refine ⟨_,rfl,?_⟩) | ((with_reducible show ∃ k,TruD _ (D.tup _) _ k/\_);refine ⟨_,rfl,?_⟩) | ((with_reducible show ∃ k,TruD _ (D.int _) _ k/\_);refine ⟨_,rfl,?_⟩) | ((with_reducible show ∃ k,IsDv _ _ k/\_);refine ⟨_,rfl,?_⟩) | ((with_reducible show ∃ k,[D.int _]=[D.int k]/\_);refine ⟨_,rfl,?_⟩) | ((with_reducible show ∃ i j,[D.int _,D.int _]=[D.int i,D.int j]/\_);refine ⟨_,_,rfl,?_⟩))
local macro_rules | `(tactic| tm_at "lA")=>`(tactic| first | ((with_reducible show _<=sizeLine/\_);refine ⟨by tm_at "szside",?_⟩) | ((with_reducible show D.non=D.non/\_);refine ⟨rfl,?_⟩))
local macro_rules | `(tactic| tm_at "lP")=>`(tactic| first | ((with_reducible show PowL (D.int 10) (D.int 12) _ _);refine pow_n (k:=1000000000000) (by decide +kernel) ⟨by decide,by decide,by decide⟩ ?_) | ((with_reducible show PowL (D.int 10) (D.int 18) _ _);refine pow_n (k:=1000000000000000000) (by decide +kernel) ⟨by decide,by decide,by decide⟩ ?_) | ((with_reducible show PowL (D.int 10) (D.int 19) _ _);refine pow_n (k:=10000000000000000000) (by decide +kernel) ⟨by decide,by decide,by decide⟩ ?_) | ((with_reducible show PowL (D.int 10) (D.int 40) _ _);refine pow_n (k:=10000000000000000000000000000000000000000) (by decide +kernel) ⟨by decide,by decide,by decide⟩ ?_) | ((with_reducible show PowL (D.int 10) (D.int 50) _ _);refine pow_n (k:=100000000000000000000000000000000000000000000000000) (by decide +kernel) ⟨by decide,by decide,by decide⟩ ?_) | ((with_reducible show PowL (D.int 10) (D.int 59) _ _);refine pow_n (k:=100000000000000000000000000000000000000000000000000000000000) (by decide +kernel) ⟨by decide,by decide,by decide⟩ ?_))
local macro_rules | `(tactic| tm_at "lf")=>`(tactic| first | with_reducible refine add_ii ?_ | with_reducible refine sub_l ?_ | with_reducible refine neg_l ?_ | with_reducible refine cmp_l ?_ | with_reducible refine eq_ii ?_ | with_reducible refine eq_ss ?_ | ((with_reducible show MulL (D.int _) (D.int _) _ _);refine mul_l (by tm_at "mulside") ?_) | ((with_reducible show DivL (D.int _) (D.int _) _ _);refine div_l (by tm_at "divside") ?_) | ((with_reducible show ModL (D.int _) (D.int _) _ _);refine mod_l (by tm_at "modside") ?_) | ((with_reducible show IxA (D.tup _) (D.int _) _ _);refine ix_at rfl ?_) | with_reducible refine in_t ?_ | ((with_reducible show PowL _ _ _ _);tm_at "lP"))
local macro_rules | `(tactic| tm_at "eV")=>`(tactic| first | ((with_reducible show EV _ _ _ (Expr.Name _ _) _);tm_at "eN") | ((with_reducible show EV _ _ _ (Expr.Constant _ _ _) _);tm_at "eC") | ((with_reducible show EV _ _ _ (Expr.Call (Expr.Attribute _ _ _) _ _ _) _);tm_at "eA") | ((with_reducible show EV _ _ _ (Expr.Call (Expr.Name _ _) _ _ _) _);first | tm_at "eK" | tm_at "cl") | ((with_reducible show EV _ _ _ (Expr.Subscript _ _ _) _);tm_at "eS") | ((with_reducible show EV _ _ _ (Expr.BinOp _ _ _ _) _);tm_at "eB") | ((with_reducible show EV _ _ _ (Expr.Compare _ _ _ _) _);tm_at "eM") | ((with_reducible show EV _ _ _ (Expr.UnaryOp _ _ _) _);tm_at "eU") | ((with_reducible show EV _ _ _ (Expr.BoolOp _ _ _) _);tm_at "eL") | tm_at "eO")
local macro_rules | `(tactic| tm_at "d")=>`(tactic| first
 | ((with_reducible show EV _ _ _ _ _);tm_at "eV")
 | ((with_reducible show Exists _);tm_at "lE")
 | ((with_reducible show ite _ _ _);tm_at "lI")
 | ((with_reducible show TV _ _ _ _ _);tm_at "tv")
 | ((with_reducible show And _ _);tm_at "lA")
 | ((with_reducible show AV _ _ _ _ _);tm_at "av")
 | ((with_reducible show EXs _ _ _ _ _);tm_at "xs")
 | ((with_reducible show EX _ _ _ _ _);tm_at "ex")
 | tm_at "lf"
 | ((with_reducible show GV _ _ _ _ _ _);tm_at "gv")
 | ((with_reducible show GVs _ _ _ _ _ _);tm_at "gs")
 | ((with_reducible show TW _ _ _ _ _);tm_at "tw")
 | ((with_reducible show TVs _ _ _ _ _);tm_at "ts"))
section
variable {P:Program} {w:World} {K:PySem.W.Frag} {mg:Str->Option Value} {base:Heap} {f:Addr} {fd:FuncData}
local macro_rules | `(tactic| tm_at $s:str)=>namT n_bv s
theorem ok_l_take (F:Fun K "_law_take" "_law_take" s_bv f fd) (h_len:mg "len" = none):FnOk P w K mg base CX0 1 f fd P_bv (liftSp K spTake2):=by
 tm_at "F bv"
 obtain ⟨p,q0,n,rfl,⟨cs,k,c,h1,h2,h3,h4,h5,h6,h7,h8⟩,hn,q⟩:=h
 refine exs_cons ?_
 lk
 refine ix_al (d:=.int k) h1 rfl ?_
 lk
 refine set_ll h1 (j:=1) rfl ?_
 have m1:mset M p (.lst ([D.ref q0,.int k,.int c].set 1 (.int (k+1)))) p=some (.lst [.ref q0,.int (k+1),.int c]):=mset_same
 have m2:mset M p (.lst ([D.ref q0,.int k,.int c].set 1 (.int (k+1)))) q0=some (.lst (cs.map D.int)):=by rw [mset_ne h3];exact h2
 have k1:Kp [p] M (mset M p (.lst ([D.ref q0,.int k,.int c].set 1 (.int (k+1))))):=Kp.put (by simp)
 generalize mset M p (.lst ([D.ref q0,.int k,.int c].set 1 (.int (k+1))))=M1 at m1 m2 k1 ⊢
 have pv:Pv M1 p q0 (n+1):=⟨cs,k+1,c,m1,m2,h3,h4,h5,h6,by omega,by omega⟩
 walk
 refine ix_al (d:=.int (k+1)) m1 rfl ?_
 lk
 refine ix_al (d:=.ref q0) m1 rfl ?_
 lk
 refine ⟨_,_,rfl,Or.inl ⟨_,m2,rfl⟩,?_⟩
 rw [List.length_map]
 lk
 refine ifD ?_ ?_
 ·intro hle
  lk
  refine ix_al (d:=.ref q0) m1 rfl ?_
  lk
  refine ix_al (d:=.int (k+1)) m1 rfl ?_
  lk
  obtain ⟨j,rfl⟩:=Int.eq_ofNat_of_zero_le h7
  have hj:j < cs.length:=by omega
  have ej:(j:Int)+1 - 1=(j:Int):=by omega
  rw [ej]
  refine ix_al (d:=.int cs[j]) m2 (atI_nat (by rw [List.getElem?_map,List.getElem?_eq_getElem hj]<;>rfl)) ?_
  exact q _ M1 (h5 _ (List.getElem_mem hj)) pv k1
 ·intro _
  have bk:Bd (k+1) 40:=.rng (by omega) (by omega)
  have bc:=h6.bd
  lk
  refine ix_al (d:=.int c) m1 rfl ?_
  lk
  refine ix_al (d:=.int (k+1)) m1 rfl ?_
  lk
  obtain ⟨z1,z2⟩:=fmod_lt (a:=c+31 * (k+1)) (b:=2147483629) (by decide)
  generalize (c+31 * (k+1)).fmod 2147483629=y at *
  have by':Bd y 40:=.rng (by omega) (by omega)
  lk
  refine ix_al (d:=.int (k+1)) m1 rfl ?_
  lk
  obtain ⟨z3,z4⟩:=fmod_lt (a:=y * y+(k+1)) (b:=2147483629) (by decide)
  generalize (y * y+(k+1)).fmod 2147483629=x at *
  have bx:Bd x 40:=.rng (by omega) (by omega)
  lk
  obtain ⟨z5,z6⟩:=fmod_lt (a:=x * x) (b:=2147483587) (by decide)
  generalize (x * x).fmod 2147483587=v at *
  have bv:Bd v 40:=.rng (by omega) (by omega)
  exact q _ M1 Cell.of pv k1
local macro_rules | `(tactic| tm_at $s:str)=>namT n_bw s
theorem ok_l_number (F:Fun K "_law_number" "_law_number" s_bw f fd):FnOk P w K mg base CX0 1 f fd P_bw (liftSp K spNumber2):=by
 tm_at "F bw"
 obtain ⟨c,rfl,hc,q⟩:=h
 have bc:=hc.bd
 refine exs_cons ?_
 lk
 refine ifD ?_ ?_
 ·intro _
  lk
  obtain ⟨z1,z2⟩:=fmod_lt (a:=c.fdiv 16) (b:=2000000000000000001) (by decide)
  have bd:Bd ((c.fdiv 16).fmod 2000000000000000001 - 1000000000000000000) 60:=.rng (by omega) (by omega)
  exact q _ bd.b
 ·intro _
  lk
  obtain ⟨z1,z2⟩:=fmod_lt (a:=c.fdiv 16) (b:=7) (by decide)
  have bd:Bd ((c.fdiv 16).fmod 7 - 3) 60:=.rng (by omega) (by omega)
  exact q _ bd.b
local macro_rules | `(tactic| tm_at $s:str)=>namT n_bx s
theorem ok_l_names (F:Fun K "_law_names" "_law_names" s_bx f fd) (h_tuple:mg "tuple" = none) (h_sorted:mg "sorted" = none) (h_range:mg "range" = none) (hList:mg "list" = none) (h_len:mg "len" = none):FnOk P w K mg base CX0 1 f fd P_bx (liftSp K spNames):=by
 tm_at "F bx"
 obtain ⟨c,rfl,hc,q⟩:=h
 have bc:=hc.bd
 refine exs_cons ?_
 lk
 with_reducible refine' ev_listS ?n0 ?n1 ?_ ?n2 ?n3 ?n4
 case n0=>exact hList
 case n1=>rfl
 case n2=>rfl
 case n3=>rfl
 case n4=>rfl
 lk
 refine ⟨_,rfl,by decide,fun lp hlp=>?_⟩
 rw [abc_D]
 lk
 intro fp hfp
 have hne:lp≠fp:=ne_fresh (M:=mset M lp (.lst (abc.map D.str))) mset_same hfp
 refine exs_cons (ex_for_range PassesOwn.never rfl h_range ?_)
 lk
 have h3:=fmod_lt (a:=c) (b:=3) (by decide)
 generalize c.fmod 3=m at h3 ⊢
 have hfp0:M fp=none:=by rw [mset_ne hne.symm] at hfp;exact hfp
 refine ⟨_,fun i G' M'=>∃ (cc:Int) (L F:List Str) (r3:Option D),G'=[some (.int cc),some (.ref lp),some (.ref fp),r3]/\Bd cc (2097152+i)/\M' lp=some (.lst (L.map D.str))/\M' fp=some (.lst (F.map D.str))/\Out L F i/\Ext M M',rfl,by omega,by omega,
  ⟨c,abc,[],none,rfl,bc,by rw [mset_ne hne,mset_same],mset_same,abc_out,Ext.trans (ext_new hlp) (ext_new hfp)⟩,?_,?_⟩
 ·rintro i G' M' hi ⟨cc,L,F,r3,rfl,bcc,ml,mf,ho,hM⟩
  have hi3:i < 3:=by omega
  lk
  refine ⟨fp,rfl,⟨_,mf⟩,?_⟩
  with_reducible refine' ev_popAt ?_ ?n0 ?n1 ?n2 ?n3 ?n4
  case n0=>rfl
  case n1=>rfl
  case n2=>rfl
  case n3=>rfl
  case n4=>rfl
  lk
  refine ⟨lp,rfl,⟨_,ml⟩,?_⟩
  lk
  refine ⟨_,_,rfl,Or.inl ⟨_,ml,rfl⟩,?_⟩
  rw [List.length_map]
  have hL:=ho.len
  have hpos:(0:Int) < (L.length:Nat):=by omega
  refine mod_l (by omega) ?_
  obtain ⟨z1,z2⟩:=fmod_lt (a:=cc.fdiv 3) hpos
  generalize (cc.fdiv 3).fmod (L.length:Nat)=r at *
  obtain ⟨k,rfl⟩:=Int.eq_ofNat_of_zero_le z1
  have hk:k < L.length:=by omega
  have hF:=ho.out
  have ek:ixN (L.map D.str).length (k:Int)=some k:=by unfold ixN;rw [List.length_map,if_pos (by omega),if_pos (by omega)];rfl
  refine ⟨L.map D.str,k,k,.str L[k],rfl,ml,small (by rw [List.length_map];omega),ek,by rw [List.getElem?_map,List.getElem?_eq_getElem hk];rfl,F.map D.str,by rw [mset_ne hne.symm];exact mf,small1000 (by rw [List.length_map];omega),?_⟩
  lk
  refine ⟨_,L.eraseIdx k,F++[L[k]],_,rfl,?_,?_,?_,ho.step (List.getElem?_eq_getElem hk) (by omega),fun b o e=>?_⟩
  ·have b5:Bd (cc.fdiv 5) (2097152+i):=inferInstance
   have b7:B (2097152+i) 7:=B.up (show 3<=2097152+i by omega) (show B 3 7 by unfold B;decide)
   exact Bd.of (B.add b5.b b7)
  ·rw [mset_ne hne,mset_same,KA.erase_map]
  ·rw [mset_same,List.map_append];rfl
  ·rw [mset_ne (ne_fresh e hfp0),mset_ne (ne_fresh e hlp)];exact hM b o e
 ·rintro G' M' ⟨cc,L,F,r3,rfl,bcc,ml,mf,ho,hM⟩
  lk
  refine ⟨fp,F,rfl,mf,by have:=ho.out;omega,fun p1 ss' hp1 hperm hsort=>?_⟩
  lk
  refine ⟨_,rfl,_,mset_same,?_⟩
  have h1:=ho.out
  refine q ss' _ ⟨by rw [hperm.length_eq];omega,by rw [hperm.length_eq];omega,hperm.nodup_iff.mpr (List.nodup_append.mp ho.nd).2.1,fun s hs=>ho.lett s (List.mem_append_right _ (hperm.mem_iff.mp hs))⟩ (Ext.trans hM (ext_new hp1))
local macro_rules | `(tactic| tm_at $s:str)=>namT n_bz s
theorem ok_l_terms (F:Fun K "_law_terms" "_law_terms" s_bz f fd) (h_tuple:mg "tuple" = none) (C_l_number:Cal P w K mg base 1 "_law_number" spNumber2) (C_l_take:Cal P w K mg base 1 "_law_take" spTake2):FnOk P w K mg base CX0 2 f fd P_bz (liftSp K spTerms2):=by
 tm_at "F bz"
 obtain ⟨p,ss,q0,n0,rfl,pu,hlen,hn0,q⟩:=h
 refine exs_cons ?_
 lk
 intro l hl
 have hlq:=pu.ne hl
 have hlp:l≠p:=hlq.1.symm
 refine exs_cons (ex_for_tup PassesOwn.never rfl ?_)
 lk
 refine ⟨ss.map D.str,fun i G' M'=>∃ (ts:List (Str × Int)) (r3 r4:Option D),G'=[some (.ref p),some (nms ss),some (.ref l),r3,r4]/\M' l=some (.lst (ts.map tD))/\Terms (ss.take i) ts/\Pv M' p q0 (n0+i)/\Kp [p] M M',rfl,
  ⟨[],none,none,rfl,mset_same,⟨by simp,by simp⟩,pu.ext (ext_new hl),Kp.new hl⟩,?_,?_⟩
 ·rintro i d G' M' hd ⟨ts,r3,r4,rfl,ml,ht,pu',k'⟩
  rw [List.getElem?_map] at hd
  cases hs:ss[i]? with
  | none=>rw [hs] at hd;cases hd
  | some x =>
   rw [hs] at hd
   have hd:D.str x=d:=by simpa using hd
   subst hd
   have hil:i < ss.length:=(List.getElem?_eq_some_iff.mp hs).1
   have htk:ss.take (i+1)=ss.take i++[x]:=by rw [List.take_add_one,hs];rfl
   have hlen2:ts.length<=4:=by
    have:=ht.len
    rw [List.length_take] at this;omega
   lk
   refine ⟨_,_,_,rfl,pu',by omega,fun cx M2 hcx pu2 k2=>?_⟩
   lk
   refine ⟨_,rfl,hcx,fun n ln=>?_⟩
   have ml2:M2 l=some (.lst (ts.map tD)):=k2.at ml (by simp [hlp])
   lk
   refine ifN ?_ ?_
   ·intro hn
    lk
    refine ⟨l,rfl,⟨_,ml2⟩,?_⟩
    lk
    refine ⟨_,ml2,small1000 (by rw [List.length_map];omega),?_⟩
    refine ⟨ts++[(x,n)],_,_,rfl,?_,⟨?_,?_⟩,?_,?_⟩
    ·rw [mset_same,List.map_append];rfl
    ·rw [htk,List.map_append]
     exact List.Sublist.append ht.sub (List.Sublist.refl _)
    ·intro t hmem
     rcases List.mem_append.mp hmem with hmem | hmem
     ·exact ht.wt t hmem
     ·rw [List.mem_singleton.mp hmem];exact ⟨hn,ln⟩
    ·exact pu2.put hlq
    ·intro b o hb e
     rw [mset_ne (ne_fresh e hl)]
     exact (k'.trans k2) b o hb e
   ·intro hn
    refine exs_nil ?_
    refine ⟨ts,_,_,rfl,ml2,⟨?_,ht.wt⟩,pu2,k'.trans k2⟩
    rw [htk]
    exact ht.sub.trans (List.sublist_append_left _ _)
 ·rintro G' M' ⟨ts,r3,r4,rfl,ml,ht,pu',k'⟩
  rw [List.length_map,List.take_length] at ht
  lk
  refine ⟨_,rfl,_,ml,?_⟩
  exact q ts M' ht (pu'.up (by rw [List.length_map];omega)) k'
local macro_rules | `(tactic| tm_at $s:str)=>namT n_ca s
theorem ok_l_row (F:Fun K "_law_row" "_law_row" s_cb f fd) (C_l_take:Cal P w K mg base 1 "_law_take" spTake2) (C_l_terms:Cal P w K mg base 2 "_law_terms" spTerms2) (C_l_number:Cal P w K mg base 1 "_law_number" spNumber2):FnOk P w K mg base CX0 3 f fd P_cb (liftSp K spRow2):=by
 tm_at "F cb"
 obtain ⟨p,ss,q0,n0,rfl,pu,hlen,hn0,q⟩:=h
 refine exs_cons ?_
 lk
 refine ⟨p,ss,q0,n0,rfl,pu,hlen,by omega,fun ts M1 ht pu1 k1=>?_⟩
 lk
 intro l hl
 lk
 refine ⟨p,q0,_,rfl,pu1.ext (ext_new hl),by omega,fun r M2 hr2 pu2 k2=>?_⟩
 have hl2:M2 l=some (.lst [.str "least",.str "more"]):=k2.at mset_same (by simp [(pu1.ne hl).1.symm])
 lk
 have z:=fmod_lt (a:=r) (b:=2) (by decide)
 generalize r.fmod 2=m at *
 have hb:∃ k:Bool,atI [D.str "least",.str "more"] m=some (.str (word k)):=by
  have:m=0\/m=1:=by omega
  rcases this with rfl | rfl
  ·exact ⟨true,rfl⟩
  ·exact ⟨false,rfl⟩
 obtain ⟨k,eb⟩:=hb
 refine ix_al hl2 eb ?_
 lk
 refine ⟨p,q0,_,rfl,pu2,by omega,fun c3 M3 hc3 pu3 k3=>?_⟩
 lk
 refine ⟨_,rfl,hc3,fun n ln=>?_⟩
 lk
 exact q k ts n M3 ht ln pu3 (k1.trans ((Kp.new hl).trans (k2.trans k3)))
local macro_rules | `(tactic| tm_at $s:str)=>namT n_ca s
theorem ok_l_sum (F:Fun K "_law_sum" "_law_sum" s_ca f fd) (h_max:mg "max" = none) (C_l_take:Cal P w K mg base 1 "_law_take" spTake2) (C_l_terms:Cal P w K mg base 2 "_law_terms" spTerms2) (C_l_number:Cal P w K mg base 1 "_law_number" spNumber2):FnOk P w K mg base CX0 3 f fd P_ca (liftSp K spSum2):=by
 tm_at "F ca"
 obtain ⟨p,ss,q0,n0,rfl,pu,hlen,hn0,q⟩:=h
 refine exs_cons ?_
 lk
 refine ⟨p,ss,q0,n0,rfl,pu,hlen,by omega,fun ts M1 ht pu1 k1=>?_⟩
 lk
 refine ⟨p,q0,_,rfl,pu1,by omega,fun c2 M2 hc2 pu2 k2=>?_⟩
 lk
 refine ⟨_,rfl,hc2,fun n ln=>?_⟩
 lk
 refine ⟨p,q0,_,rfl,pu2,by omega,fun c3 M3 hc3 pu3 k3=>?_⟩
 lk
 have z:=fmod_lt (a:=c3) (b:=8) (by decide)
 generalize c3.fmod 8=m at *
 lk
 have hb:1<=1+(if m - 5 > 0 then m - 5 else 0)/\1+(if m - 5 > 0 then m - 5 else 0)<=3:=by split<;>omega
 exact q ts n _ M3 ht ln hb.1 hb.2 pu3 (k1.trans (k2.trans k3))
local macro_rules | `(tactic| tm_at $s:str)=>namT n_cc s
theorem ok_l_rows (F:Fun K "_law_rows" "_law_rows" s_cc f fd) (h_tuple:mg "tuple" = none) (h_range:mg "range" = none) (C_l_row:Cal P w K mg base 3 "_law_row" spRow2):FnOk P w K mg base CX0 4 f fd P_cc (liftSp K spRows2):=by
 tm_at "F cc"
 obtain ⟨p,ss,c,n,m,rfl,pu,hlen,hm,hn,q⟩:=h
 refine exs_one ?_
 lk
 with_reducible refine' ev_compR (own:=["_law_k"]) (js:=[0,1]) (N:=["_law_k", "_law_purse", "_law_names_here"]) ?T ?xe ?ca ?hm ?_ ?hg ?hse ?hs
 case T=>exact compOk_freeB (fs:=["_law_purse", "_law_names_here"]) rfl (by decide +kernel) (by decide +kernel) rfl rfl rfl rfl rfl
 case xe=>rfl
 case ca=>rfl
 case hm=>exact h_range
 case hg=>rfl
 case hse=>rfl
 case hs=>(intro _;rfl)
 lk
 refine ⟨_,fun q2 i2 acc M5=>∃ rs:List Rw,acc=rs.map rwD/\rs.length=i2/\(∀ x∈rs,WfR ss x)/\M q2=none/\Pv M5 p c (n+6 * i2)/\Kp [p] M M5,rfl,by omega,by omega,?_,?_,?_⟩
 ·intro q2 hq2
  exact ⟨[],rfl,rfl,by simp,hq2,pu.ext (ext_new hq2),Kp.new hq2⟩
 ·rintro Y ⟨C',s',H',fp,rfl⟩ q2 i2 acc M5 hi2 ⟨rs,rfl,hrl,hrw,hq2,pu5,k5⟩ hacc
  refine gv_name 0 (by show (["_law_k", "_law_purse", "_law_names_here"] : List Str).Nodup;decide +kernel) ?_
  refine ⟨rfl,fun i d e=>?_,?_⟩
  ·rcases i with _ | i
   ·simp [compG] at e
   ·exact e
  repeat first | (refine ev_var 1 ?_) | (refine ev_var 2 ?_) | k_go
  refine ⟨p,ss,c,_,rfl,pu5,by omega,by omega,fun kk ts wb M6 ht bw pu6 k6=>?_⟩
  have hqp:=pu.ne hq2
  have hrl2:rs.length<=2:=by omega
  refine ⟨k6.at hacc (by simp [hqp.1.symm]),small1000 (by rw [List.length_map];omega),rs++[(kk,ts,wb)],by rw [List.map_append];rfl,by rw [List.length_append,hrl];rfl,fun x hx=>?_,hq2,(pu6.put hqp).up (by omega),?_⟩
  ·rcases List.mem_append.mp hx with hx | hx
   ·exact hrw x hx
   ·rw [List.mem_singleton.mp hx];exact ⟨ht,B.up (by decide) bw⟩
  ·intro b o hb e
   rw [mset_ne (ne_fresh e hq2)]
   exact k6 b o hb (k5 b o hb e)
 rintro q2 acc M5 ⟨rs,rfl,hrl,hrw,hq2,pu5,k5⟩ hacc
 have hrl:rs.length=m:=by omega
 lk
 refine ⟨_,rfl,_,hacc,?_⟩
 exact q rs M5 hrw hrl (pu5.up (by omega)) k5
local macro_rules | `(tactic| tm_at $s:str)=>namT n_cd s
theorem ok_l_one (F:Fun K "_law_one" "_law_one" s_cd f fd):FnOk P w K mg base CX0 1 f fd P_cd (liftSp K spOne):=by
 tm_at "F cd"
 obtain ⟨x,wt,v,rfl,q⟩:=h
 unfold oneS at q
 refine exs_cons ?_
 lk
 refine ifD ?_ ?_
 ·intro e
  rw [if_pos e] at q
  lk
  exact q
 ·intro e
  rw [if_neg e] at q
  repeat first | k_go | refine exs_nil ?_
  exact q
local macro_rules | `(tactic| tm_at $s:str)=>namT n_cg s
theorem ok_l_block {d k:Nat} (hd:d<=3) (hk:4<=k) (F:Fun K "_law_block" "_law_block" s_cg f fd) (h_tuple:mg "tuple" = none) (h_range:mg "range" = none) (h_int:mg "int" = none)
  (C_l_take:Cal P w K mg base 1 "_law_take" spTake2) (C_l_statement:Cal P w K mg base k "_law_statement" (spStmt2 d)):FnOk P w K mg base CX0 (k+1) f fd P_cg (liftSp K (spBlock2 d)):=by
 tm_at "F cg"
 obtain ⟨p,ss,q0,c,n,cn,rfl,bt0,hss,hn,hcs,q⟩:=h
 have hbk:=bk_eq d
 refine exs_cons ?_
 lk
 intro f0 hf0
 have bt1:=bt0.ext (ext_new (o:=.lst []) hf0)
 have hfp:=(bt0.pv.ne hf0)
 have hfq:q0≠f0:=ne_fresh bt0.lf hf0
 have hf1:mset M f0 (.lst []) f0=some (.lst []):=mset_same
 have kk1:Ext M (mset M f0 (.lst [])):=ext_new hf0
 generalize mset M f0 (.lst [])=M1 at bt1 hf1 kk1 ⊢
 refine exs_cons (ex_for_range PassesOwn.never rfl h_range ?_)
 lk
 refine ⟨p,c,_,rfl,bt1.pv,by omega,fun r M2 hcr pv2 k2=>?_⟩
 have bt2:=bt1.purse pv2 k2
 have hf2:M2 f0=some (.lst []):=k2.at hf1 (by simp [hfp.1.symm])
 lk
 have z:=fmod_lt (a:=r) (b:=4) (by decide)
 generalize r.fmod 4=m4 at *
 refine Or.inr ⟨_,rfl,?_⟩
 obtain ⟨many,hmany,hm4⟩:∃ many:Nat,m4+(if decide ((d:Int)=3)=true then 1 else 0)=(many:Int)/\many<=4:=⟨(m4+(if decide ((d:Int)=3)=true then 1 else 0)).toNat,by split<;>omega,by split<;>omega⟩
 lk
 rw [hmany]
 refine ⟨_,fun i2 G' M'=>∃ (b:List Stm) (m:Cnt) (r5:Option D),G'=[some (.ref p),some (nms ss),some (.int d),some (.ref q0),some (.ref f0),r5]/\M' f0=some (.lst (stDs b))/\b.length<=i2/\Bth M' p c q0 (n+1+i2 * sk d) m/\wfs ss b/\(∀ s∈b,dp s<=d+1)/\Took cn m (tts b)/\Kp [p,q0,f0] M2 M',rfl,by omega,by omega,
  ⟨[],cn,none,rfl,by simp only [stDs];exact hf2,Nat.zero_le _,bt2.up (by omega),by simp only [wfs],by simp,by refine ⟨?_,?_,?_,?_,?_⟩<;>simp only [tts]<;>omega,Kp.refl _ _⟩,?_,?_⟩
 ·rintro i2 G' M' hi2 ⟨b,m,r5,rfl,hf,hbl,st4,hwb,hdb,htk,k4⟩
  have hi4:i2 < 4:=by omega
  have hsk:i2 * sk d+sk d<=4 * sk d:=by
   have:=Nat.mul_le_mul_right (sk d) (show i2+1<=4 by omega)
   rw [Nat.succ_mul] at this;exact this
  have hsk2:(i2+1) * sk d=i2 * sk d+sk d:=Nat.succ_mul ..
  lk
  refine ix_al st4.lf rfl ?_
  lk
  refine ifD ?_ ?_
  ·intro hs
   lk
   refine ix_al st4.lf rfl ?_
   lk
   refine set_ll st4.lf rfl ?_
   rw [cast1 (by omega)]
   generalize hM5:mset M' q0 _=M5
   obtain ⟨st5,k5⟩:=st4.left (m:=⟨m.s - 1,m.b,m.l,m.a,m.n⟩) hM5 rfl
   have hf5:M5 f0=some (.lst (stDs b)):=k5.at hf (by simp [hfq.symm])
   lk
   refine ⟨f0,rfl,⟨_,hf5⟩,?_⟩
   lk
   refine ⟨p,ss,q0,c,_,_,rfl,st5,hss,by omega,by obtain ⟨a1,_⟩:=htk;show m.s - 1<=100;omega,fun s' m' M6 st6 hw' hd' tk' k6=>?_⟩
   have hf6:M6 f0=some (.lst (stDs b)):=k6.at hf5 (by simp [hfp.1.symm,hfq.symm])
   refine ⟨_,hf6,small1000 (by rw [stDs_map,List.length_map];omega),?_⟩
   obtain ⟨a1,a2,a3,a4,a5⟩:=htk
   obtain ⟨c1,c2,c3,c4,c5⟩:=tk'
   simp only at c1 c2 c3 c4 c5
   refine ⟨b++[s'],m',_,rfl,by rw [mset_same,stDs_snoc],by rw [List.length_append];show _+1<=_;omega,?_,wfs_snoc hwb hw',?_,?_,?_⟩
   ·refine Bth.up ⟨st6.pv.put hfp,by show mset M6 f0 _ q0=_;rw [mset_ne hfq];exact st6.lf,st6.np,st6.nc⟩ (by omega)
   ·intro x hx
    rcases List.mem_append.mp hx with hx | hx
    ·exact hdb x hx
    ·rw [List.mem_singleton.mp hx];exact hd'
   ·rw [tts_app]
    refine ⟨?_,?_,?_,?_,?_⟩<;>simp only [tts,Cnt.add]<;>omega
   ·exact k4.trans ((k5.mono (by simp)).trans ((k6.mono (fun x hx=>by simp only [List.mem_cons,List.not_mem_nil,or_false] at hx ⊢;rcases hx with h | h;exact .inl h;exact .inr (.inl h))).trans (Kp.put (by simp))))
  ·intro hs
   refine exs_nil ?_
   exact ⟨b,m,_,rfl,hf,by omega,st4.up (by omega),hwb,hdb,htk,k4⟩
 ·rintro G' M' ⟨b,m,r5,rfl,hf,hbl,st4,hwb,hdb,htk,k4⟩
  have hsk:many * sk d<=4 * sk d:=Nat.mul_le_mul_right (sk d) hm4
  lk
  refine ⟨_,rfl,_,hf,?_⟩
  refine q b m M' (st4.up (by rw [Int.toNat_natCast];omega)) hwb hdb htk ?_
  intro x o hx e
  have hxf:x≠f0:=ne_fresh e hf0
  simp only [List.mem_cons,List.not_mem_nil,or_false,not_or] at hx
  exact k4 x o (by simp [hx.1,hx.2,hxf]) (k2 x o (by simp [hx.1]) (kk1 x o e))
theorem name_at {ss:List Str} {r:Int} (h0:0<=r) (h1:r < ss.length):∃ x,atI (ss.map D.str) r=some (.str x)/\x∈ss:=by
 obtain ⟨k,rfl⟩:=Int.eq_ofNat_of_zero_le h0
 have hk:k < ss.length:=by omega
 exact ⟨ss[k],atI_nat (by rw [List.getElem?_map,List.getElem?_eq_getElem hk]<;>rfl),List.getElem_mem hk⟩
local macro_rules | `(tactic| tm_at $s:str)=>namT n_cj s
theorem ok_l_statement {d k:Nat} (hd:d<=3) (hk:4<=k) (F:Fun K "_law_statement" "_law_statement" s_cj f fd) (h_len:mg "len" = none) (h_min:mg "min" = none)
  (C_l_take:Cal P w K mg base 1 "_law_take" spTake2) (C_l_row:Cal P w K mg base 3 "_law_row" spRow2) (C_l_rows:Cal P w K mg base 4 "_law_rows" spRows2) (C_l_sum:Cal P w K mg base 3 "_law_sum" spSum2)
  (hL:0 < d->Cal P w K mg base k "_law_loop" (spLoop2 d)) (hB:0 < d->Cal P w K mg base k "_law_block" (spBlock2 (d - 1))):FnOk P w K mg base CX0 (k+1) f fd P_cj (liftSp K (spStmt2 d)):=by
 tm_at "F cj"
 obtain ⟨p,ss,q0,c,n,cn,rfl,bt0,hss,hn,hcs,q⟩:=h
 have hsk:=sk_ge d
 refine exs_cons ?_
 lk
 refine ⟨p,c,_,rfl,bt0.pv,by omega,fun r M1 hcr pv1 k1=>?_⟩
 have bt1:=bt0.purse pv1 k1
 lk
 have z12:=fmod_lt (a:=r) (b:=12) (by decide)
 generalize r.fmod 12=kd at *
 walk
 refine ⟨p,c,_,rfl,bt1.pv,by omega,fun r2 M2 hcr2 pv2 k2=>?_⟩
 have bt2:=bt1.purse pv2 k2
 have hs1:=hss.pos
 have hs3:=hss.le
 lk
 refine ⟨_,_,rfl,rfl,?_⟩
 rw [List.length_map]
 have hpos:(0:Int) < (ss.length:Nat):=by omega
 refine mod_l (by omega) ?_
 have zl:=fmod_lt (a:=r2) hpos
 generalize r2.fmod (ss.length:Nat)=nx at *
 obtain ⟨x,ex,hx⟩:=name_at zl.1 zl.2
 refine ix_at ex ?_
 have k12:Kp [p,q0] M M2:=(k1.mono (by simp)).trans (k2.mono (by simp))
 clear k1 k2 bt1 pv1 pv2 bt0 z12 hcr hcr2 zl
 refine exs_join (fun G' M'=>G'=[some (.ref p),some (nms ss),some (.int d),some (.ref q0),some (.int kd),some (.str x),none,none,none,none]/\M2=M') ?_ ?_
 ·lk
  refine ifD ?_ ?_
  ·intro _
   lk
   refine ix_al bt2.lf rfl ?_
   lk
   refine ifD ?_ ?_
   ·intro hl
    lk
    refine ix_al bt2.lf rfl ?_
    lk
    refine set_ll bt2.lf rfl ?_
    rw [cast1 (by omega)]
    generalize hM3:mset M2 q0 _=M3
    obtain ⟨bt3,k3⟩:=bt2.left (m:=⟨cn.s,cn.b,cn.l,cn.a - 1,cn.n⟩) hM3 rfl
    lk
    refine q (.any x) _ M3 (bt3.up (by omega)) (by simp only [wf];exact hx) (by simp only [dp];omega) ?_ (k12.trans (k3.mono (by simp)))
    refine ⟨?_,?_,?_,?_,?_⟩<;>simp only [tt]<;>omega
   ·intro _
    refine exs_nil ?_
    exact ⟨rfl,rfl⟩
  ·intro _
   refine exs_nil ?_
   exact ⟨rfl,rfl⟩
 rintro G' M' ⟨rfl,rfl⟩
 refine exs_join (fun G' M'=>G'=[some (.ref p),some (nms ss),some (.int d),some (.ref q0),some (.int kd),some (.str x),none,none,none,none]/\M2=M') ?_ ?_
 ·lk
  refine ifD ?_ ?_
  ·intro _
   lk
   refine ix_al bt2.lf rfl ?_
   lk
   refine ifD ?_ ?_
   ·intro hl
    lk
    refine ifD ?_ ?_
    ·intro hd0
     have hd0:0 < d:=by omega
     have C_l_loop:=hL hd0
     obtain ⟨d',rfl⟩:∃ d',d=d'+1:=⟨d - 1,by omega⟩
     have hse:sk (d'+1)=8+2 * bk d':=rfl
     have hbe:=bk_eq d'
     have hsg:=sk_ge d'
     lk
     refine ix_al bt2.lf rfl ?_
     lk
     refine set_ll bt2.lf rfl ?_
     rw [cast1 (by omega)]
     generalize hM3:mset M2 q0 _=M3
     obtain ⟨bt3,k3⟩:=bt2.left (m:=⟨cn.s,cn.b,cn.l - 1,cn.a,cn.n⟩) hM3 rfl
     lk
     refine ⟨p,ss,q0,c,_,_,rfl,bt3,hss,by show n+1+1+27+bk d'<=_;omega,hcs,fun st m M4 bt4 hw hdp tk k4=>?_⟩
     obtain ⟨c1,c2,c3,c4,c5⟩:=tk
     simp only at c1 c2 c3 c4 c5
     refine q st m M4 (bt4.up (by show n+1+1+27+bk d'<=_;omega)) hw hdp ?_ (k12.trans ((k3.mono (by simp)).trans k4))
     refine ⟨?_,?_,?_,?_,?_⟩<;>simp only<;>omega
    ·intro _
     refine exs_nil ?_
     exact ⟨rfl,rfl⟩
   ·intro _
    refine exs_nil ?_
    exact ⟨rfl,rfl⟩
  ·intro _
   refine exs_nil ?_
   exact ⟨rfl,rfl⟩
 rintro G' M' ⟨rfl,rfl⟩
 refine exs_join (fun G' M'=>G'=[some (.ref p),some (nms ss),some (.int d),some (.ref q0),some (.int kd),some (.str x),none,none,none,none]/\M2=M') ?_ ?_
 ·lk
  refine ifD ?_ ?_
  ·intro _
   lk
   refine ix_al bt2.lf rfl ?_
   lk
   refine ifD ?_ ?_
   ·intro hl
    lk
    refine ifD ?_ ?_
    ·intro hd0
     have hd0:0 < d:=by omega
     have C_l_block:=hB hd0
     obtain ⟨d',rfl⟩:∃ d',d=d'+1:=⟨d - 1,by omega⟩
     have hse:sk (d'+1)=8+2 * bk d':=rfl
     have hdd:((d'+1:Nat):Int) - 1=(d':Nat):=by omega
     lk
     refine ix_al bt2.lf rfl ?_
     lk
     refine set_ll bt2.lf rfl ?_
     rw [cast1 (by omega)]
     generalize hM3:mset M2 q0 _=M3
     obtain ⟨bt3,k3⟩:=bt2.left (m:=⟨cn.s,cn.b - 1,cn.l,cn.a,cn.n⟩) hM3 rfl
     lk
     refine ⟨p,ss,c,_,rfl,bt3.pv,by omega,by omega,fun kk ts wb M4 ht bw pv4 k4=>?_⟩
     have bt4:=bt3.purse pv4 k4
     lk
     rw [hdd]
     refine ⟨p,ss,q0,c,_,_,rfl,bt4,hss,by show _+bk d'<=_;omega,hcs,fun b1 m1 M5 bt5 hw1 hd1 tk1 k5=>?_⟩
     lk
     rw [hdd]
     refine ⟨p,ss,q0,c,_,_,rfl,bt5,hss,by show _+bk d'+bk d'<=_;omega,by obtain ⟨a1,_⟩:=tk1;simp only at a1;omega,fun b2 m2 M6 bt6 hw2 hd2 tk2 k6=>?_⟩
     obtain ⟨a1,a2,a3,a4,a5⟩:=tk1
     obtain ⟨c1,c2,c3,c4,c5⟩:=tk2
     simp only at a1 a2 a3 a4 a5 c1 c2 c3 c4 c5
     have e1:=dps_le (n:=d'+1) fun s hs=>hd1 s hs
     have e2:=dps_le (n:=d'+1) fun s hs=>hd2 s hs
     have kk6:Kp [p,q0] M M6:=k12.trans ((k3.mono (by simp)).trans ((k4.mono (by simp)).trans (k5.trans k6)))
     have fin:∀ st M',(st=.choose b1 b2\/st=.ite (kk,ts,wb) b1 b2)->Ext M6 M'->Q (stD st) M':=fun st M' hst x6=>by
      refine q st m2 M' ((bt6.ext x6).up (by show _+bk d'+bk d'<=_;omega)) ?_ ?_ ?_ (kk6.trans (Kp.ext x6))
      ·rcases hst with rfl | rfl
       ·simp only [wf];exact ⟨hw1,hw2⟩
       ·simp only [wf];exact ⟨⟨ht,B.up (by decide) bw⟩,hw1,hw2⟩
      ·rcases hst with rfl | rfl<;>simp only [dp]<;>omega
      ·rcases hst with rfl | rfl<;>refine ⟨?_,?_,?_,?_,?_⟩<;>simp only [tt,Cnt.add]<;>omega
     lk
     intro l hl0
     lk
     have z2:=fmod_lt (a:=kd) (b:=2) (by decide)
     generalize kd.fmod 2=k2' at *
     have e0:stD (.choose b1 b2)=.tup [.str "choose",.tup (stDs b1),.tup (stDs b2)]:=by simp only [stD]
     have e1':stD (.ite (kk,ts,wb) b1 b2)=.tup [.str "if",rowD kk ts wb,.tup (stDs b1),.tup (stDs b2)]:=by simp only [stD];rfl
     rcases (by omega:k2'=0\/k2'=1) with rfl | rfl
     ·refine ix_al mset_same rfl ?_
      rw [<- e0]
      exact fin _ _ (.inl rfl) (ext_new hl0)
     ·refine ix_al mset_same rfl ?_
      rw [<- e1']
      exact fin _ _ (.inr rfl) (ext_new hl0)
    ·intro _
     refine exs_nil ?_
     exact ⟨rfl,rfl⟩
   ·intro _
    refine exs_nil ?_
    exact ⟨rfl,rfl⟩
  ·intro _
   refine exs_nil ?_
   exact ⟨rfl,rfl⟩
 rintro G' M' ⟨rfl,rfl⟩
 refine exs_join (fun G' M'=>G'=[some (.ref p),some (nms ss),some (.int d),some (.ref q0),some (.int kd),some (.str x),none,none,none,none]/\M2=M') ?_ ?_
 ·lk
  refine ifD ?_ ?_
  ·intro _
   lk
   refine ix_al bt2.lf rfl ?_
   lk
   refine ifD ?_ ?_
   ·intro hl
    lk
    refine ix_al bt2.lf rfl ?_
    lk
    refine ⟨p,c,_,rfl,bt2.pv,by omega,fun r3 M3 hcr3 pv3 k3=>?_⟩
    have bt3:=bt2.purse pv3 k3
    lk
    have z2:=fmod_lt (a:=r3) (b:=2) (by decide)
    generalize r3.fmod 2=r3' at *
    obtain ⟨many,hmany⟩:∃ many:Nat,(if 1+r3' < (cn.n:Int) then 1+r3' else (cn.n:Int))=(many:Int):=⟨(if 1+r3' < (cn.n:Int) then 1+r3' else (cn.n:Int)).toNat,by split<;>omega⟩
    have hm1:1<=many/\many<=2/\many<=cn.n:=by split at hmany<;>omega
    rw [hmany]
    refine ⟨p,ss,c,_,many,rfl,bt3.pv,by omega,by omega,by omega,fun rs M4 hrw hrl pv4 k4=>?_⟩
    have bt4:=bt3.purse pv4 k4
    lk
    refine ix_al bt4.lf rfl ?_
    lk
    refine ⟨_,_,rfl,rfl,?_⟩
    rw [List.length_map,hrl]
    lk
    refine set_ll bt4.lf rfl ?_
    rw [show (cn.n:Int) - (many:Nat)=((cn.n - many:Nat):Int) by omega]
    generalize hM5:mset M4 q0 _=M5
    obtain ⟨bt5,k5⟩:=bt4.left (m:=⟨cn.s,cn.b,cn.l,cn.a,cn.n - many⟩) hM5 rfl
    lk
    refine q (.note rs) _ M5 (bt5.up (by omega)) (by simp only [wf];exact ⟨hrw,by omega,by omega⟩) (by simp only [dp];omega) ?_ (k12.trans ((k3.mono (by simp)).trans ((k4.mono (by simp)).trans (k5.mono (by simp)))))
    refine ⟨?_,?_,?_,?_,?_⟩<;>simp only [tt]<;>omega
   ·intro _
    refine exs_nil ?_
    exact ⟨rfl,rfl⟩
  ·intro _
   refine exs_nil ?_
   exact ⟨rfl,rfl⟩
 rintro G' M' ⟨rfl,rfl⟩
 lk
 refine ⟨p,ss,c,_,rfl,bt2.pv,by omega,by omega,fun ts wb by0 M4 ht bw hb1 hb3 pv4 k4=>?_⟩
 have bt4:=bt2.purse pv4 k4
 lk
 refine q (.set x (ts,wb,by0)) cn M4 (bt4.up (by omega)) (by simp only [wf];exact ⟨hx,ht,bw,by show 0 < by0;omega,by show by0 < 4;omega⟩) (by simp only [dp];omega) ?_ (k12.trans (k4.mono (by simp)))
 refine ⟨?_,?_,?_,?_,?_⟩<;>simp only [tt]<;>omega
local macro_rules | `(tactic| tm_at "go")=>`(tactic| repeat first | tm_at "d" | refine ifDn (by decide +kernel) ?_ | refine ifDy rfl ?_ | refine exs_nil ?_ | refine exs_cons ?_)
local macro_rules | `(tactic| tm_at $s:str)=>namT n_ch s
theorem ok_l_loops {n k:Nat} (F:Fun K "_law_loops" "_law_loops" s_ch f fd) (hC:0 < n->Cal P w K mg base k "_law_loops" (spLoopsN (n - 1))):FnOk P w K mg base CX0 (k+1) f fd P_ch (liftSp K (spLoopsN n)):=by
 tm_at "F ch"
 obtain ⟨b,rfl,hdp,hsz,q⟩:=h
 refine exs_cons ?_
 lk
 refine exs_cons (ex_for_tup PassesOwn.never rfl ?_)
 lk
 refine ⟨_,fun i G' M'=>∃ r2:Option D,G'=[some (.tup (stDs b)),some (.int ((tts (b.take i)).l:Nat)),r2]/\M'=M,rfl,⟨none,by simp only [List.take_zero,tts];rfl,rfl⟩,?_,?_⟩
 ·rintro i d G' M' hd ⟨r2,rfl,rfl⟩
  rw [stDs_map,List.getElem?_map] at hd
  obtain ⟨x,hx,rfl⟩:=Option.map_eq_some_iff.mp hd
  have hmem:=List.mem_of_getElem? hx
  have hdst:=dps_mem hmem
  have hsst:=tts_mem hmem
  have htk:(tts (b.take (i+1))).l=(tts (b.take i)).l+(tt x).l:=by
   rw [List.take_add_one,hx,tts_app]
   show _+(tts [x]).l=_
   simp only [tts,Cnt.add];omega
  refine gv_name 2 nd ?_
  try (refine let_E ?_;intro EL)
  cases x with
  | set y s =>
   rw [show stD (.set y s)=.tup [.str "set",.str y,smD s] by simp only [stD]]
   tm_at "go"
   exact ⟨_,by rw [htk];simp only [tt,Nat.add_zero];rfl,rfl⟩
  | any y =>
   rw [show stD (.any y)=.tup [.str "any",.str y] by simp only [stD]]
   tm_at "go"
   exact ⟨_,by rw [htk];simp only [tt,Nat.add_zero];rfl,rfl⟩
  | note rs =>
   rw [show stD (.note rs)=.tup [.str "note",.tup (rs.map rwD)] by simp only [stD]]
   tm_at "go"
   exact ⟨_,by rw [htk];simp only [tt,Nat.add_zero];rfl,rfl⟩
  | choose b0 b1 =>
   simp only [dp] at hdst
   simp only [tt,Cnt.add] at hsst htk
   have C_l_loops:=hC (by omega)
   rw [show stD (.choose b0 b1)=.tup [.str "choose",.tup (stDs b0),.tup (stDs b1)] by simp only [stD]]
   tm_at "go"
   refine ⟨b0,rfl,by omega,by omega,?_⟩
   tm_at "go"
   refine ⟨b1,rfl,by omega,by omega,?_⟩
   tm_at "go"
   exact ⟨_,by rw [htk,Nat.add_zero,Int.natCast_add,Int.natCast_add,Int.add_assoc];rfl,rfl⟩
  | ite r b0 b1 =>
   simp only [dp] at hdst
   simp only [tt,Cnt.add] at hsst htk
   have C_l_loops:=hC (by omega)
   rw [show stD (.ite r b0 b1)=.tup [.str "if",rwD r,.tup (stDs b0),.tup (stDs b1)] by simp only [stD]]
   tm_at "go"
   refine ⟨b0,rfl,by omega,by omega,?_⟩
   tm_at "go"
   refine ⟨b1,rfl,by omega,by omega,?_⟩
   tm_at "go"
   exact ⟨_,by rw [htk,Nat.add_zero,Int.natCast_add,Int.natCast_add,Int.add_assoc];rfl,rfl⟩
  | whl r rs ms b0 =>
   simp only [dp] at hdst
   simp only [tt,Cnt.add] at hsst htk
   have C_l_loops:=hC (by omega)
   rw [show stD (.whl r rs ms b0)=.tup [.str "while",rwD r,.tup (rs.map rwD),msD ms,.tup (stDs b0)] by simp only [stD]]
   tm_at "go"
   refine ⟨b0,rfl,by omega,by omega,?_⟩
   tm_at "go"
   exact ⟨_,by rw [htk,show (tts (b.take i)).l+((tts b0).l+1)=(tts (b.take i)).l+1+(tts b0).l by omega,Int.natCast_add,Int.natCast_add];rfl,rfl⟩
 ·rintro G' M' ⟨r2,rfl,rfl⟩
  rw [stDs_map,List.length_map,List.take_length]
  lk
  exact q
local macro_rules | `(tactic| tm_at $s:str)=>namT n_ci s
theorem ok_l_loop {d k:Nat} (hd:d<=2) (hk:6<=k) (F:Fun K "_law_loop" "_law_loop" s_ci f fd) (C_l_take:Cal P w K mg base 1 "_law_take" spTake2) (C_l_row:Cal P w K mg base 3 "_law_row" spRow2) (C_l_rows:Cal P w K mg base 4 "_law_rows" spRows2) (C_l_sum:Cal P w K mg base 3 "_law_sum" spSum2) (C_l_loops:Cal P w K mg base 5 "_law_loops" (spLoopsN 4))
  (C_l_block:Cal P w K mg base k "_law_block" (spBlock2 d)):FnOk P w K mg base CX0 (k+1) f fd P_ci (liftSp K (spLoop2 (d+1))):=by
 tm_at "F ci"
 obtain ⟨p,ss,q0,c,n,cn,rfl,bt0,hss,hn,hcs,q⟩:=h
 have hn:n+27+bk d<=70000:=hn
 have hs3:=hss.le
 have hdd:((d+1:Nat):Int) - 1=(d:Nat):=by omega
 refine exs_cons ?_
 lk
 refine ⟨p,ss,c,_,rfl,bt0.pv,by omega,by omega,fun kk ts wb M1 ht bw pv1 k1=>?_⟩
 have bt1:=bt0.purse pv1 k1
 walk
 refine ⟨p,c,_,rfl,bt1.pv,by omega,fun r2 M2 hcr2 pv2 k2=>?_⟩
 have bt2:=bt1.purse pv2 k2
 lk
 have z3:=fmod_lt (a:=r2) (b:=3) (by decide)
 generalize r2.fmod 3=m3 at *
 obtain ⟨many,rfl⟩:=Int.eq_ofNat_of_zero_le z3.1
 refine ⟨p,ss,c,_,many,rfl,bt2.pv,by omega,by omega,by omega,fun rs M3 hrw hrl pv3 k3=>?_⟩
 have bt3:=bt2.purse pv3 k3
 walk
 rw [hdd]
 refine ⟨p,ss,q0,c,_,_,rfl,bt3,hss,by omega,hcs,fun b m M4 bt4 hwb hdb tk k4=>?_⟩
 obtain ⟨a1,a2,a3,a4,a5⟩:=tk
 have e1:=dps_le (n:=d+1) fun s hs=>hdb s hs
 lk
 have kk4:Kp [p,q0] M M4:=(k1.mono (by simp)).trans ((k2.mono (by simp)).trans ((k3.mono (by simp)).trans k4))
 refine exs_join (fun G' M'=>∃ ms:Option (Sm × Int),G'=[some (.ref p),some (nms ss),some (.int ((d+1:Nat):Int)),some (.ref q0),some (rowD kk ts wb),some (.tup (rs.map rwD)),some (.tup (stDs b)),some (msD ms)]/\WfM ss b ms/\Bth M' p c q0 (n+27+bk d) m/\Kp [p,q0] M M') ?_ ?_
 ·lk
  refine ⟨p,c,_,rfl,bt4.pv,by omega,fun r5 M5 hcr5 pv5 k5=>?_⟩
  have bt5:=bt4.purse pv5 k5
  lk
  refine ifD ?_ ?_
  ·intro _
   lk
   refine ⟨b,rfl,by omega,by omega,?_⟩
   lk
   refine ifD ?_ ?_
   ·intro hl0
    lk
    refine ⟨p,ss,c,_,rfl,bt5.pv,by omega,by omega,fun ts2 w2 b2 M6 ht2 bw2 hb1 hb3 pv6 k6=>?_⟩
    have bt6:=bt5.purse pv6 k6
    lk
    refine ⟨p,c,_,rfl,bt6.pv,by omega,fun r7 M7 hcr7 pv7 k7=>?_⟩
    have bt7:=bt6.purse pv7 k7
    lk
    have z7:=fmod_lt (a:=r7) (b:=3) (by decide)
    generalize r7.fmod 3=m7 at *
    have b7:Bd (1+m7) 64:=.rng (by omega) (by omega)
    refine ⟨some ((ts2,w2,b2),1+m7),rfl,⟨⟨ht2,bw2,by show 0 < b2;omega,by show b2 < 4;omega⟩,by show 0 < 1+m7;omega,b7.b,by omega⟩,bt7.up (by omega),kk4.trans ((k5.mono (by simp)).trans ((k6.mono (by simp)).trans (k7.mono (by simp))))⟩
   ·intro _
    refine exs_nil ?_
    exact ⟨none,rfl,trivial,bt5.up (by omega),kk4.trans (k5.mono (by simp))⟩
  ·intro _
   refine exs_nil ?_
   exact ⟨none,rfl,trivial,bt5.up (by omega),kk4.trans (k5.mono (by simp))⟩
 rintro G' M' ⟨ms,rfl,hms,bt8,k8⟩
 lk
 refine q (.whl (kk,ts,wb) rs ms b) m M' bt8 (by simp only [wf];exact ⟨⟨ht,B.up (by decide) bw⟩,hrw,by omega,hms,hwb⟩) (by simp only [dp];omega) ?_ k8
 refine ⟨?_,?_,?_,?_,?_⟩<;>simp only [tt,Cnt.add]<;>omega
local macro_rules | `(tactic| tm_at "go")=>`(tactic| walk)
local macro_rules | `(tactic| tm_at $s:str)=>namT n_ce s
theorem ok_l_tail (F:Fun K "_law_tail" "_law_tail" s_ce f fd) (h_tuple:mg "tuple" = none) (h_int:mg "int" = none) (C_l_take:Cal P w K mg base 1 "_law_take" spTake2) (C_l_one:Cal P w K mg base 1 "_law_one" spOne):FnOk P w K mg base CX0 2 f fd P_ce (liftSp K spTail):=by
 tm_at "F ce"
 obtain ⟨p,ss,pick,c,n,rfl,pu,hss,hpk,hn,q⟩:=h
 have bpk:=hpk.bd
 obtain ⟨x,y,ex,ey,hx,hy,hT⟩:=ends_of hss
 refine exs_cons ?_
 lk
 refine ix_at ex ?_
 tm_at "go"
 refine ix_at ey ?_
 tm_at "go"
 refine ⟨p,c,_,rfl,pu,by omega,fun r1 M1 hc1 pu1 k1=>?_⟩
 tm_at "go"
 have z1:=fmod_lt (a:=r1) (b:=3) (by decide)
 generalize r1.fmod 3=s3 at *
 generalize hst:1+s3=st
 have hst3:1<=st/\st<=3:=by omega
 clear z1 hst
 tm_at "go"
 refine ⟨x,1,0 - st,rfl,?_⟩
 tm_at "go"
 refine ⟨y,1,st,rfl,?_⟩
 tm_at "go"
 rw [e_set,e_set]
 intro tl htl
 have htp:=pu1.ne htl
 have pu2:=pu1.ext (ext_new (o:=.lst [stD (.set x (oneS x 1 (0 - st))),stD (.set y (oneS y 1 st))]) htl)
 have m2:mset M1 tl (.lst [stD (.set x (oneS x 1 (0 - st))),stD (.set y (oneS y 1 st))]) tl=_:=mset_same
 have k2:Kp [p] M (mset M1 tl (.lst [stD (.set x (oneS x 1 (0 - st))),stD (.set y (oneS y 1 st))])):=k1.trans (Kp.new htl)
 generalize mset M1 tl _=M2 at pu2 m2 k2 ⊢
 tm_at "go"
 refine Or.inr ⟨_,rfl,?_⟩
 refine ix_at (d:=trm (bothT x y)) ?_ ?_
 ·unfold bothT
  by_cases z:x=y
  ·rw [if_pos z,decide_eq_true z];rfl
  ·rw [if_neg z,decide_eq_false z];rfl
 tm_at "go"
 refine ⟨p,c,_,rfl,pu2,by omega,fun r3 M3 hc3 pu3 k3=>?_⟩
 have m3:=k3.at m2 (by simp [htp.1.symm])
 tm_at "go"
 have z3:=fmod_lt (a:=r3) (b:=5) (by decide)
 generalize r3.fmod 5=b5 at *
 generalize hbd:b5 - 2=bd
 have hbd2:-2<=bd/\bd<=2:=by omega
 clear z3 hbd
 tm_at "go"
 refine ⟨p,c,_,rfl,pu3,by omega,fun r4 M4 hc4 pu4 k4=>?_⟩
 have m4:=k4.at m3 (by simp [htp.1.symm])
 tm_at "go"
 have z4:=fmod_lt (a:=r4) (b:=2) (by decide)
 generalize r4.fmod 2=a2 at *
 tm_at "go"
 refine ⟨x,1,0,rfl,?_⟩
 tm_at "go"
 refine ⟨_,rfl,_,m4,?_⟩
 lk
 have kk4:Kp [p] M M4:=k2.trans (k3.trans k4)
 have el:D.tup [.str "while",.tup [.str "least",.tup [.tup [.str x,.int 1]],.int 1],.tup [.tup [.str "least",.tup [.tup [.str x,.int 1]],.int (1 - st - a2)],.tup [.str "least",trm (bothT x y),.int bd]],.tup [smD (oneS x 1 0),.int st],.tup [stD (.set x (oneS x 1 (0 - st))),stD (.set y (oneS y 1 st))]]=stD (.whl (true,[(x,1)],1) [(true,[(x,1)],1 - st - a2),(true,bothT x y,bd)] (some (oneS x 1 0,st)) [.set x (oneS x 1 (0 - st)),.set y (oneS y 1 st)]):=by rw [<- e_whl,stDs2];rfl
 rw [el]
 refine exs_join (fun G' M'=>∃ (lp:Stm) (r12:Option D),G'=[some (.ref p),some (nms ss),some (.int pick),some (.str x),some (.str y),some (.int st),some (.ref tl),some (trm (bothT x y)),some (.int bd),some (.tup [.tup [.str "least",.tup [.tup [.str x,.int 1]],.int (1 - st - a2)],.tup [.str "least",trm (bothT x y),.int bd]]),some (.tup [.str "least",.tup [.tup [.str x,.int 1]],.int 1]),some (stD lp),r12]/\(∀ e,0<=e/\e<=1->TailOk ss lp [(true,[(x,1)],1 - st - a2),(true,bothT x y,bd)] (true,bothT x y,bd - e))/\Pv M' p c (n+4)/\Kp [p] M M') ?_ ?_
 ·lk
  refine ifD ?_ ?_
  ·intro _
   tm_at "go"
   refine ix_al m4 rfl ?_
   tm_at "go"
   refine ⟨_,rfl,_,m4,?_⟩
   tm_at "go"
   rw [<- e_whl]
   refine ev_slice sl_all ?_
   tm_at "go"
   refine ov_none ?_
   refine ov_some ?_
   tm_at "go"
   refine rs_tupA rfl ?_
   tm_at "go"
   refine ⟨p,c,_,rfl,pu4,by omega,fun r5 M5 hc5 pu5 k5=>?_⟩
   tm_at "go"
   have z5:=fmod_lt (a:=r5) (b:=2) (by decide)
   generalize r5.fmod 2=g2 at *
   refine ⟨y,1,g2,rfl,?_⟩
   tm_at "go"
   refine add_tt (by simp [D3.cutD,HT.sIx]) (small (by simp [D3.cutD,HT.sIx])) ?_
   have el2:D.tup [.str "while",.tup [.str "least",.tup [.tup [.str x,.int 1]],.int 1],.tup [.tup [.str "least",.tup [.tup [.str x,.int 1]],.int (1 - st - a2)],.tup [.str "least",trm (bothT x y),.int bd]],.non,.tup [.tup [.str "choose",.tup [stD (.set x (oneS x 1 (0 - st)))],.tup [stD (.set x (oneS x 1 (0 - st))),stD (.set y (oneS y 1 st))]],.tup [.str "set",.str y,smD (oneS y 1 g2)]]]=stD (.whl (true,[(x,1)],1) [(true,[(x,1)],1 - st - a2),(true,bothT x y,bd)] none [.choose [.set x (oneS x 1 (0 - st))] [.set x (oneS x 1 (0 - st)),.set y (oneS y 1 st)],.set y (oneS y 1 g2)]):=by
    rw [<- e_whl,stDs2,<- e_choose,stDs1,stDs2,<- e_set y (oneS y 1 g2)];rfl
   refine ⟨_,some (.tup [.str "choose",.tup [stD (.set x (oneS x 1 (0 - st)))],.tup [stD (.set x (oneS x 1 (0 - st))),stD (.set y (oneS y 1 st))]]),?_,fun e he=>tail_b hx hy hT hst3 hbd2 (by omega) he (g:=g2) (by omega),pu5.up (by omega),kk4.trans k5⟩
   rw [<- el2]
   rfl
  ·intro _
   refine exs_nil ?_
   exact ⟨_,none,rfl,fun e he=>tail_a hx hy hT hst3 hbd2 (by omega) he,pu4.up (by omega),kk4⟩
 rintro G' M' ⟨lp,r12,rfl,hlp,pu5,kk5⟩
 lk
 refine ⟨p,c,_,rfl,pu5,by omega,fun r6 M6 hc6 pu6 k6=>?_⟩
 tm_at "go"
 have z6:=fmod_lt (a:=r6) (b:=2) (by decide)
 generalize r6.fmod 2=e2 at *
 intro l hl
 have kk6:=kk5.trans k6
 refine q l lp _ _ _ ?_ ?_ (hlp e2 (by omega)) (pu6.ext (ext_new hl)) (kk6.trans (Kp.new hl))
 ·by_cases z:l=p
  ·obtain ⟨_,_,_,e,_⟩:=pu6
   rw [z,e] at hl;cases hl
  ·cases e:M l with
   | none=>rfl
   | some o=>rw [kk6 l o (by simp [z]) e] at hl;cases hl
 ·rw [mset_same,<- e_note];rfl
local macro_rules | `(tactic| tm_at "go")=>`(tactic| repeat first | ((with_reducible show EV _ _ _ (Expr.BinOp (Expr.Name "_law_more" _) Operator.Add _ _) _);with_reducible refine ev_addT ?_) | tm_at "d" | refine exs_cons ?_ | refine exs_nil ?_)
local macro_rules | `(tactic| tm_at $s:str)=>namT n_cf s
theorem ok_l_menu (F:Fun K "_law_menu" "_law_menu" s_cf f fd) (h_tuple:mg "tuple" = none) (C_l_take:Cal P w K mg base 1 "_law_take" spTake2) (C_l_one:Cal P w K mg base 1 "_law_one" spOne) (C_l_tail:Cal P w K mg base 2 "_law_tail" spTail) (C_l_row:Cal P w K mg base 3 "_law_row" spRow2) (C_l_block:Cal P w K mg base 9 "_law_block" (spBlock2 1)):FnOk P w K mg base CX0 10 f fd P_cf (liftSp K spMenu):=by
 tm_at "F cf"
 obtain ⟨p,ss,pick,c,rfl,pu,hss,hpk,q⟩:=h
 have bpk:=hpk.bd
 obtain ⟨x,y,ex,ey,hx,hy,hT⟩:=ends_of hss
 have hs3:=hss.le
 refine exs_cons ?_
 lk
 refine ix_at ex ?_
 tm_at "go"
 refine ix_at ey ?_
 tm_at "go"
 refine ⟨p,ss,pick,c,0,rfl,pu,hss,hpk,by decide,fun l lp ks nr M1 hl0 hl1 tok pu1 k1=>?_⟩
 have hlp:=pu.ne hl0
 obtain ⟨r0,ms0,b0,rfl⟩:=tok.sh
 tm_at "go"
 refine ⟨p,c,_,rfl,pu1,by omega,fun r2 M2 hc2 pu2 k2=>?_⟩
 have hl2:=k2.at hl1 (by simp [hlp.1.symm])
 tm_at "go"
 have z2:=fmod_lt (a:=r2) (b:=3) (by decide)
 generalize r2.fmod 3=g3 at *
 refine ix_al hl2 rfl ?_
 rw [<- e_note]
 tm_at "go"
 intro gl hgl
 have hgp:=pu2.ne hgl
 have wx:Terms ss [(x,1)]:=t_one hx (by decide) (by unfold B;decide)
 have hgr:WfR ss (true,[(x,1)],g3 - 1):=⟨wx,b64 (by show _ < g3 - 1;omega) (by show g3 - 1 < _;omega)⟩
 have eg:mset M2 gl (.lst [.tup [.str "least",.tup [.tup [.str x,.int 1]],.int (g3 - 1)],rwD nr]) gl=some (.lst ([(true,[(x,1)],g3 - 1),nr].map rwD)):=mset_same
 have pu3:=pu2.ext (ext_new (o:=.lst [.tup [.str "least",.tup [.tup [.str x,.int 1]],.int (g3 - 1)],rwD nr]) hgl)
 have hl3:=ext_new (o:=.lst [.tup [.str "least",.tup [.tup [.str x,.int 1]],.int (g3 - 1)],rwD nr]) hgl _ _ hl2
 have k3:Kp [p] M (mset M2 gl (.lst [.tup [.str "least",.tup [.tup [.str x,.int 1]],.int (g3 - 1)],rwD nr])):=k1.trans (k2.trans (Kp.new hgl))
 generalize mset M2 gl _=M3 at eg pu3 hl3 k3 ⊢
 clear hl2 k2 k1 hl1 pu1 pu2 hgl
 tm_at "go"
 have z4:=fmod_lt (a:=pick.fdiv 3) (b:=4) (by decide)
 generalize (pick.fdiv 3).fmod 4=pk at *
 refine ifD ?_ ?_
 ·intro _
  tm_at "go"
  refine ⟨_,rfl,_,eg,?_⟩
  tm_at "go"
  refine ⟨_,rfl,_,hl3,?_⟩
  tm_at "go"
  have:=q _ M3 (menu0 hss tok hgr) rfl k3
  unfold plD at this
  rw [stDs2] at this
  exact this
 intro _
 tm_at "go"
 refine ifD ?_ ?_
 ·intro _
  tm_at "go"
  refine ⟨y,1,0,rfl,?_⟩
  tm_at "go"
  refine ⟨y,-1,0,rfl,?_⟩
  tm_at "go"
  intro wl hwl
  have pu4:=pu3.ext (ext_new (o:=.lst [.tup [.tup [.str "set",.str x,smD (oneS y 1 0)]],.tup [.tup [.str "set",.str x,smD (oneS y (-1) 0)]]]) hwl)
  have k4:=k3.trans (Kp.new (S:=[p]) (o:=.lst [.tup [.tup [.str "set",.str x,smD (oneS y 1 0)]],.tup [.tup [.str "set",.str x,smD (oneS y (-1) 0)]]]) hwl)
  have ew:mset M3 wl (.lst [.tup [.tup [.str "set",.str x,smD (oneS y 1 0)]],.tup [.tup [.str "set",.str x,smD (oneS y (-1) 0)]]]) wl=_:=mset_same
  generalize mset M3 wl _=M4 at pu4 k4 ew ⊢
  tm_at "go"
  refine ix_al ew rfl ?_
  tm_at "go"
  refine ix_al ew rfl ?_
  tm_at "go"
  refine ⟨p,c,_,rfl,pu4,by omega,fun r5 M5 hc5 pu5 k5=>?_⟩
  tm_at "go"
  have z5:=fmod_lt (a:=r5) (b:=2) (by decide)
  generalize r5.fmod 2=e5 at *
  have:=q _ M5 (menu1 hss hx hy (e:=e5) (by omega)) rfl (k4.trans k5)
  unfold plD at this
  rw [stDs3,<- e_any,<- e_ite,<- e_note,stDs1,stDs1,<- e_set,<- e_set] at this
  exact this
 intro _
 tm_at "go"
 refine ifD ?_ ?_
 ·intro _
  obtain ⟨k0,k1,rfl⟩:∃ k0 k1,ks=[k0,k1]:=by
   have kl:=tok.kl
   match ks,kl with
   | [k0,k1],_=>exact ⟨k0,k1,rfl⟩
  tm_at "go"
  refine ⟨y,1,-1,rfl,?_⟩
  tm_at "go"
  refine ⟨x,1,-1,rfl,?_⟩
  tm_at "go"
  intro wl hwl
  have pu4:=pu3.ext (ext_new (o:=.lst [.tup [.str "set",.str y,smD (oneS y 1 (-1))],.tup [.str "set",.str x,smD (oneS x 1 (-1))]]) hwl)
  have hl4:=ext_new (o:=.lst [.tup [.str "set",.str y,smD (oneS y 1 (-1))],.tup [.str "set",.str x,smD (oneS x 1 (-1))]]) hwl _ _ hl3
  have eg4:=ext_new (o:=.lst [.tup [.str "set",.str y,smD (oneS y 1 (-1))],.tup [.str "set",.str x,smD (oneS x 1 (-1))]]) hwl _ _ eg
  have k4:=k3.trans (Kp.new (S:=[p]) (o:=.lst [.tup [.str "set",.str y,smD (oneS y 1 (-1))],.tup [.str "set",.str x,smD (oneS x 1 (-1))]]) hwl)
  have ew:mset M3 wl (.lst [.tup [.str "set",.str y,smD (oneS y 1 (-1))],.tup [.str "set",.str x,smD (oneS x 1 (-1))]]) wl=_:=mset_same
  generalize mset M3 wl _=M4 at pu4 k4 ew hl4 eg4 ⊢
  tm_at "go"
  refine ev_slice sl_all ?_
  tm_at "go"
  refine ix_al hl4 rfl ?_
  rw [<- e_whl]
  tm_at "go"
  refine ov_none ?_
  refine ov_some ?_
  tm_at "go"
  refine rs_tupA rfl ?_
  tm_at "go"
  refine ⟨y,1,0,rfl,?_⟩
  tm_at "go"
  refine ix_al ew rfl ?_
  tm_at "go"
  refine ix_al hl4 rfl ?_
  rw [<- e_whl]
  tm_at "go"
  refine ix_al ew rfl ?_
  tm_at "go"
  refine ev_slice sl_list ?_
  tm_at "go"
  refine ov_none ?_
  refine ov_some ?_
  tm_at "go"
  refine rs_list rfl (Or.inl eg4) fun p5 hp5=>?_
  have pu5:=pu4.ext (ext_new (o:=.lst (D3.cutD ([(true,[(x,1)],g3 - 1),nr].map rwD) none (some 1))) hp5)
  have k5:=k4.trans (Kp.new (S:=[p]) (o:=.lst (D3.cutD ([(true,[(x,1)],g3 - 1),nr].map rwD) none (some 1))) hp5)
  have e5:mset M4 p5 (.lst (D3.cutD ([(true,[(x,1)],g3 - 1),nr].map rwD) none (some 1))) p5=_:=mset_same
  generalize mset M4 p5 _=M5 at pu5 k5 e5 ⊢
  tm_at "go"
  refine ⟨_,rfl,_,e5,?_⟩
  tm_at "go"
  refine ⟨p,ss,c,_,rfl,pu5,by omega,by omega,fun kk ts wb M6 ht bw pu6 k6=>?_⟩
  tm_at "go"
  have:=q _ M6 (menu2 hss hx hy tok hgr (rr:=(kk,ts,wb)) ⟨ht,B.up (by decide) bw⟩) rfl (k5.trans k6)
  unfold plD at this
  rw [stDs2,<- e_whl,stDs3,<- e_note,<- e_any,<- e_whl,stDs1,<- e_set,<- e_set] at this
  exact this
 intro _
 tm_at "go"
 intro lq hlq
 have pu4:=pu3.ext (ext_new (o:=.lst [.int 4,.int 1,.int 0,.int 1,.int 1]) hlq)
 have hl4:=ext_new (o:=.lst [.int 4,.int 1,.int 0,.int 1,.int 1]) hlq _ _ hl3
 have eg4:=ext_new (o:=.lst [.int 4,.int 1,.int 0,.int 1,.int 1]) hlq _ _ eg
 have hq3:=pu3.ne hlq
 have k4:=k3.trans (Kp.new (S:=[p]) (o:=.lst [.int 4,.int 1,.int 0,.int 1,.int 1]) hlq)
 have bt4:Bth (mset M3 lq (.lst [.int 4,.int 1,.int 0,.int 1,.int 1])) p c lq 6 ⟨4,1,0,1,1⟩:=⟨pu4,mset_same,hq3.1.symm,hq3.2.symm⟩
 have n4:l≠lq:=ne_fresh hl3 hlq
 have n5:gl≠lq:=ne_fresh eg hlq
 have hM:∀ b o,M b=some o->b≠p->b≠lq:=fun b o e z=>ne_fresh (k3 b o (by simp [z]) e) hlq
 generalize mset M3 lq _=M4 at pu4 hl4 eg4 k4 bt4 ⊢
 tm_at "go"
 refine ⟨p,ss,lq,c,_,_,rfl,bt4,hss,by decide,by decide,fun b m M5 bt5 hwb hdb tk k5=>?_⟩
 have hl5:=k5.at hl4 (by simp [n4,hlp.1.symm])
 have eg5:=k5.at eg4 (by simp [n5,hgp.1.symm])
 tm_at "go"
 refine ⟨_,rfl,_,eg5,?_⟩
 tm_at "go"
 refine ⟨_,rfl,_,hl5,?_⟩
 obtain ⟨t1,_⟩:=id tk
 have hbl:b.length<=4:=Nat.le_trans (tts_cnt b) (by simp only at t1;omega)
 refine ⟨_,_,rfl,rfl,small (by rw [stDs_map,List.length_map];show _+2<=1000;omega),?_⟩
 tm_at "go"
 have:=q _ M5 (menu3 hss tok hgr hwb hdb tk) rfl (fun z o hz e=>by
  have hz:z≠p:=by simpa using hz
  exact k5 z o (by simp [hz,hM z o e hz]) (k4 z o (by simp [hz]) e))
 unfold plD at this
 rw [stDs_app,stDs2] at this
 exact this
local macro_rules | `(tactic| tm_at "go")=>`(tactic| repeat first | tm_at "d" | refine exs_cons ?_ | refine exs_nil ?_)
local macro_rules | `(tactic| tm_at $s:str)=>namT n_ck s
theorem ok_l_plan (F:Fun K "_law_plan" "_law_plan" s_ck f fd) (C_l_names:Cal P w K mg base 1 "_law_names" spNames) (C_l_take:Cal P w K mg base 1 "_law_take" spTake2) (C_l_rows:Cal P w K mg base 4 "_law_rows" spRows2) (C_l_menu:Cal P w K mg base 10 "_law_menu" spMenu) (C_l_block:Cal P w K mg base 15 "_law_block" (spBlock2 3)):FnOk P w K mg base CX0 16 f fd P_ck (liftSp K spPlan2):=by
 tm_at "F ck"
 obtain ⟨l,ns,rfl,hl,h63,hcell,q⟩:=h
 refine exs_cons ?_
 lk
 refine exs_join (fun G' M'=>∃ c0:Int,G'=[some (.ref l),some (.int c0),none,none,none]/\Cell c0/\Ext M M') ?_ ?_
 ·refine ex_if ?_
  with_reducible refine' lxt_neR ?_ ?n0
  case n0=>exact hr.units
  lk
  intro p0 hp0
  refine ⟨l,p0,ns.map D.int,rfl,rfl,mset_old hp0 hl,mset_same,immL_of (fun d hd=>by obtain ⟨n,_,rfl⟩:=List.mem_map.mp hd;rfl),depthAll_le (fun d hd=>by obtain ⟨n,_,rfl⟩:=List.mem_map.mp hd;exact Nat.zero_le _),?_⟩
  cases ns with
  | nil =>
   refine ifF ?_
   lk
   exact ⟨0,rfl,Cell.of,ext_new hp0⟩
  | cons n r =>
   refine ifT ?_
   lk
   refine ix_ar (mset_old hp0 hl) (atI_nat (j:=0) rfl) ?_
   lk
   exact ⟨n,rfl,hcell n (List.mem_cons_self ..),ext_new hp0⟩
 rintro G' M1 ⟨c0,rfl,hc0,e1⟩
 have bc0:=hc0.bd
 refine exs_cons ?_
 lk
 refine ev_slice sl_list ?_
 lk
 refine ov_some ?_
 lk
 refine ov_some ?_
 lk
 refine rs_list rfl (Or.inr (e1 _ _ hl)) fun p1 hp1=>?_
 rw [show D3.cutD (ns.map D.int) (some 1) (some 63)=((ns.take 63).drop 1).map D.int from cut_mid ns 1 63]
 lk
 intro p2 hp2
 have pv2:Pv (mset (mset M1 p1 (.lst (((ns.take 63).drop 1).map D.int))) p2 (.lst [.ref p1,.int 0,.int c0])) p2 p1 0 :=
  ⟨(ns.take 63).drop 1,0,c0,mset_same,mset_old hp2 mset_same,ne_fresh (M:=mset M1 p1 (.lst (((ns.take 63).drop 1).map D.int))) mset_same hp2,by rw [List.length_drop,List.length_take];omega,fun x hx=>hcell x (List.mem_of_mem_take (List.mem_of_mem_drop hx)),hc0,by omega,by omega⟩
 have x2:Ext M (mset (mset M1 p1 (.lst (((ns.take 63).drop 1).map D.int))) p2 (.lst [.ref p1,.int 0,.int c0])):=Ext.trans e1 (Ext.trans (ext_new hp1) (ext_new hp2))
 have np2:M p2=none:=none_of e1 (none_of (ext_new (o:=.lst (((ns.take 63).drop 1).map D.int)) hp1) hp2)
 generalize mset (mset M1 p1 (.lst (((ns.take 63).drop 1).map D.int))) p2 (.lst [.ref p1,.int 0,.int c0])=M2 at pv2 x2 ⊢
 tm_at "go"
 refine ⟨c0,rfl,hc0,fun ss M3 hss e3=>?_⟩
 have pv3:=pv2.ext e3
 have x3:=Ext.trans x2 e3
 have hs3:=hss.le
 tm_at "go"
 have fin:∀ {M':MH},Kp [p2] M3 M'->Ext M M':=fun {M'} k b o e=>k b o (by simp [ne_fresh e np2]) (x3 _ _ e)
 refine ifD ?_ ?_
 ·intro _
  tm_at "go"
  exact ⟨p2,ss,c0.fdiv 9,p1,rfl,pv3,hss,Cell.of,fun pl M4 hw _ k4=>q pl M4 hw (fin k4)⟩
 intro _
 tm_at "go"
 refine ⟨p2,p1,_,rfl,pv3,by omega,fun r4 M4 hc4 pu4 k4=>?_⟩
 tm_at "go"
 have z4:=fmod_lt (a:=r4) (b:=3) (by decide)
 generalize r4.fmod 3=m3 at *
 obtain ⟨many,rfl⟩:=Int.eq_ofNat_of_zero_le z4.1
 refine ⟨p2,ss,p1,_,many,rfl,pu4,hs3,by omega,by omega,fun rs M5 hrw hrl pu5 k5=>?_⟩
 tm_at "go"
 intro lq hlq
 have hq5:=pu5.ne hlq
 have bt6:Bth (mset M5 lq (.lst [.int 24,.int 2,.int 2,.int 1,.int 2])) p2 p1 lq 13 ⟨24,2,2,1,2⟩:=⟨(pu5.ext (ext_new hlq)).up (by omega),mset_same,hq5.1.symm,hq5.2.symm⟩
 have k6:Kp [p2] M3 (mset M5 lq (.lst [.int 24,.int 2,.int 2,.int 1,.int 2])):=k4.trans (k5.trans (Kp.new hlq))
 have hM:∀ b o,M b=some o->b≠lq:=fun b o e=>ne_fresh (fin (k4.trans k5) b o e) hlq
 generalize mset M5 lq _=M6 at bt6 k6 ⊢
 tm_at "go"
 refine ⟨p2,ss,lq,p1,_,_,rfl,bt6,hss,by decide,by decide,fun b m M7 bt7 hwb hdb tk k7=>?_⟩
 tm_at "go"
 obtain ⟨t1,t2,t3,t4,t5⟩:=tk
 simp only at t1 t2 t3 t4 t5
 exact q ⟨ss,rs,b⟩ M7 ⟨hss,hrw,by show rs.length<=2;omega,hwb,hdb,by show (tts b).s<=24;omega,by show (tts b).b<=2;omega,by show (tts b).l<=2;omega,by show (tts b).a<=1;omega,by show (tts b).n<=2;omega⟩ fun z o e=>k7 z o (by simp [ne_fresh e np2,hM z o e]) (fin k6 z o e)
local macro_rules | `(tactic| tm_at "go")=>`(tactic| repeat first | ((with_reducible show TV _ _ _ (Expr.Compare _ [CmpOp.Lt,CmpOp.Lt] _ _) _);refine tv_chain op_lt op_lt ?_) | ((with_reducible show TV _ _ _ (Expr.Compare _ [CmpOp.Gt,CmpOp.Gt] _ _) _);refine tv_chain op_gt op_gt ?_) | tm_at "d" | refine exs_cons ?_ | refine exs_nil ?_)
local macro_rules | `(tactic| tm_at $s:str)=>namT n_cl s
theorem ok_l_made (F:Fun K "_law_made" "_law_made" s_cl f fd):FnOk P w K mg base CX0 1 f fd P_cl (liftSp K spMade9):=by
 tm_at "F cl"
 obtain ⟨t,b,rfl,hb,lb,q⟩:=h
 refine exs_cons (ex_par 2 3 rfl nd ?_ rfl)
 lk
 refine ⟨_,_,rfl,?_⟩
 refine exs_cons (ex_while (fun G' M'=>∃ x y:Int,G'=[some (.int t),some (.int b),some (.int x),some (.int y)]/\M'=M/\0<=y/\y<=b/\Int.gcd x y=Int.gcd t b/\(y=0->0 < x/\x<=b)) (fun G' _=>match G' with | [_,_,_,some (.int s)]=>s.toNat | _=>0) PassesOwn.never ⟨t,b,rfl,rfl,by omega,by omega,rfl,fun z=>by omega⟩ ?_)
 rintro G' M' ⟨x,y,rfl,rfl,hy,hyb,e,h0⟩
 lk
 refine ifN ?_ ?_
 ·intro hy0
  refine exs_one (ex_par 2 3 rfl nd ?_ rfl)
  lk
  refine ⟨_,_,rfl,?_⟩
  have hlt:=fmod_lt (a:=x) (b:=y) (by omega)
  refine ⟨⟨y,x.fmod y,rfl,rfl,hlt.1,by omega,?_,fun _=>⟨by omega,hyb⟩⟩,?_⟩
  ·rw [gcd_step (by omega)];exact e
  ·show (x.fmod y).toNat < y.toNat
   omega
 ·intro hy0
  subst hy0
  obtain ⟨x0,xb⟩:=h0 rfl
  have ex:x=(Int.gcd t b:Nat):=by rw [<- e,gcd_zero_right' (by omega)]
  have lx:Lim x:=Lim.le (by omega) lb
  have d1:CDivB t x:=Lim.div (by omega) lx
  have d2:CDivB b x:=Lim.div (by omega) lx
  obtain ⟨t1,t2⟩:=tp_gcd (t:=t) hb
  rw [t1,t2,<- ex] at q
  tm_at "go"
  refine ⟨_,_,rfl,rfl,Eq.mpr (if_neg (by rw [decide_eq_false (by omega)];decide)) ?_⟩
  tm_at "go"
  refine ⟨_,_,rfl,rfl,Eq.mpr (if_pos (by rw [decide_eq_true (by omega)])) ?_⟩
  tm_at "go"
  rw [decide_eq_false (by omega)]
  tm_at "go"
  exact q
local macro_rules | `(tactic| tm_at "go")=>`(tactic| repeat first | tm_at "d" | refine exs_cons ?_ | refine exs_nil ?_)
local macro_rules | `(tactic| tm_at $s:str)=>namT n_bu s
theorem ok_l_cell (F:Fun K "_law_cell" "_law_cell" s_bu f fd) (h_len:mg "len" = none):FnOk P w K mg base CX0 1 f fd P_bu (liftSp K spCellL):=by
 tm_at "F bu"
 obtain ⟨l,ns,k,rfl,hl,hc,hk,q⟩:=h
 refine exs_cons ?_
 lk
 refine ⟨_,_,rfl,Or.inl ⟨_,hl,rfl⟩,?_⟩
 lk
 rw [List.length_map]
 refine ifD ?_ ?_
 ·intro hlt
  lk
  obtain ⟨k',rfl⟩:=Int.eq_ofNat_of_zero_le hk
  have hk':k' < ns.length:=by omega
  refine ix_al (d:=.int ns[k']) hl (atI_nat (by rw [List.getElem?_map,List.getElem?_eq_getElem hk']<;>rfl)) ?_
  exact q _ (hc _ (List.getElem_mem hk'))
 ·intro _
  lk
  exact q _ Cell.of
local macro_rules | `(tactic| tm_at $s:str)=>namT n_cm s
theorem ok_l_start (F:Fun K "_law_start" "_law_start" s_cm f fd) (h_len:mg "len" = none) (h_range:mg "range" = none) (h_max:mg "max" = none) (C_l_cell:Cal P w K mg base 1 "_law_cell" spCellL) (C_l_made:Cal P w K mg base 1 "_law_made" spMade9):FnOk P w K mg base CX0 2 f fd P_cm (liftSp K spStart9):=by
 tm_at "F cm"
 obtain ⟨cq,cs,ss,rfl,hc,hcs,h3,hn',q⟩:=h
 refine exs_cons ?_
 tm_at "go"
 intro h h0
 refine exs_cons (ex_for_range PassesOwn.never rfl h_range ?_)
 tm_at "go"
 refine ⟨nms ss,ss.length,rfl,by show _=_;simp,?_⟩
 tm_at "go"
 refine ⟨ss.length,fun i G' M'=>∃ (pt:Pt0) (r3 r4 r5 r6:Option D),G'=[some (nms ss),some (.ref cq),some (.ref h),r3,r4,r5,r6]/\pt.map (·.1)=ss.take i/\(∀ x∈pt,GvG x.2)/\M' h=some (.dic (ptKv pt))/\Ext M M',rfl,by omega,by omega,⟨[],none,none,none,none,rfl,rfl,(fun x hx=>nomatch hx),mset_same,ext_new h0⟩,?_,?_⟩
 ·rintro i G' M' hi ⟨pt,r3,r4,r5,r6,rfl,hp,hb,hm,hx⟩
  have hi:i < ss.length:=by simpa using hi
  refine gv_name 3 nd ?_
  try (refine let_E ?_;intro EL)
  tm_at "go"
  refine ⟨cq,cs,_,rfl,hx _ _ hc,hcs,by omega,fun c cc=>?_⟩
  have bc:=cc.bd
  tm_at "go"
  have hn:=fmod_lt (a:=c) (b:=4) (by decide)
  have hs:=fmod_lt (a:=c.fdiv 4) (b:=13) (by decide)
  have hs2:=fmod_lt (a:=c.fdiv 4) (b:=200) (by decide)
  have hs3:=fmod_lt (a:=c.fdiv 4) (b:=7) (by decide)
  have hs4:=fmod_lt (a:=c.fdiv 4) (b:=1000000000000000000000000000000) (by decide)
  refine pow_n (k:=1000000000000000000000000000000) (by decide +kernel) (by first | exact ⟨by decide,by decide,by decide⟩ | exact ⟨by decide,by decide +kernel⟩ | decide +kernel) ?_
  tm_at "go"
  intro l hl0
  tm_at "go"
  obtain ⟨u,hu,eu⟩:∃ u:Int,B 100 u/\atI [D.int ((c.fdiv 4).fmod 13 - 3),.int ((c.fdiv 4).fmod 200 - 50),.int ((c.fdiv 4).fmod 7),.int ((c.fdiv 4).fmod 1000000000000000000000000000000)] (c.fmod 4)=some (.int u):=by
   rcases (by omega:c.fmod 4=0\/c.fmod 4=1\/c.fmod 4=2\/c.fmod 4=3) with z | z | z | z
   ·exact ⟨(c.fdiv 4).fmod 13 - 3,(Bd.rng (n:=100) (by omega) (by omega)).b,by rw [z];rfl⟩
   ·exact ⟨(c.fdiv 4).fmod 200 - 50,(Bd.rng (n:=100) (by omega) (by omega)).b,by rw [z];rfl⟩
   ·exact ⟨(c.fdiv 4).fmod 7,(Bd.rng (n:=100) (by omega) (by omega)).b,by rw [z];rfl⟩
   ·exact ⟨(c.fdiv 4).fmod 1000000000000000000000000000000,(Bd.rng (n:=100) (by omega) (by omega)).b,by rw [z];rfl⟩
  refine ix_al mset_same eu ?_
  have x2:=Ext.trans hx (ext_new (o:=.lst [.int ((c.fdiv 4).fmod 13 - 3),.int ((c.fdiv 4).fmod 200 - 50),.int ((c.fdiv 4).fmod 7),.int ((c.fdiv 4).fmod 1000000000000000000000000000000)]) hl0)
  have hm2:=(ext_new (o:=.lst [.int ((c.fdiv 4).fmod 13 - 3),.int ((c.fdiv 4).fmod 200 - 50),.int ((c.fdiv 4).fmod 7),.int ((c.fdiv 4).fmod 1000000000000000000000000000000)]) hl0) _ _ hm
  generalize mset M' l _=M2 at *
  have h9:=fmod_lt (a:=c.fdiv 11) (b:=9) (by decide)
  tm_at "go"
  generalize hbv:1+(if (c.fdiv 11).fmod 9 - 6 > 0 then (c.fdiv 11).fmod 9 - 6 else 0)=bv
  have hbv2:0 < bv/\bv < 4:=by split at hbv<;>omega
  have ibv:Bd bv 10:=.rng (by omega) (by omega)
  refine ⟨u,bv,rfl,hbv2.1,lim,?_⟩
  have gok:=made_gv hbv2.1 hbv2.2 hu
  tm_at "go"
  refine ix_at (d:=.str ss[i]) (atI_nat (by rw [List.getElem?_map,List.getElem?_eq_getElem hi];rfl)) ?_
  tm_at "go"
  have hpl:pt.length=i:=by have:=congrArg List.length hp;rw [List.length_map,List.length_take] at this;omega
  refine set_dl hm2 (by unfold ptKv;rw [List.length_map,hpl];exact Nat.lt_of_lt_of_le hi (Nat.le_trans h3 (by decide +kernel))) ?_
  have hnew:ss[i]∉pt.map (·.1):=by
   rw [hp]
   intro z
   obtain ⟨j,hj,e⟩:=List.getElem_of_mem z
   rw [List.getElem_take] at e
   rw [List.length_take] at hj
   exact List.pairwise_iff_getElem.mp hn' j i (by omega) hi (by omega) e
  rw [show fr (tp u bv) (bt u bv)=frD (tp u bv,bt u bv) from rfl,put_new _ hnew]
  refine ⟨pt++[(ss[i],(tp u bv,bt u bv))],_,_,_,_,rfl,by rw [List.map_append,hp,List.take_add_one,List.getElem?_eq_getElem hi];rfl,fun x hx=>?_,mset_same,fun c o e=>?_⟩
  ·rcases List.mem_append.mp hx with hx | hx
   ·exact hb x hx
   ·rw [List.mem_singleton.mp hx];exact gok
  ·rw [mset_ne (fun z=>by rw [z,h0] at e;cases e)];exact x2 _ _ e
 ·rintro G' M' ⟨pt,r3,r4,r5,r6,rfl,hp,hb,hm,hx⟩
  tm_at "go"
  exact q pt h M' (by rw [hp,Int.toNat_natCast,List.take_length]) hb h0 hm hx
local macro_rules | `(tactic| tm_at $s:str)=>namT n_cn s
theorem ok_l_turns (F:Fun K "_law_turns" "_law_turns" s_cn f fd):FnOk P w K mg base CX0 1 f fd P_cn (liftSp K spTurns):=by
 tm_at "F cn"
 obtain ⟨cq,cs,rfl,hc,hcs,hl,q⟩:=h
 refine exs_one ?_
 lk
 with_reducible refine' ev_comp_list (own:=["_law_cell_here"]) (js:=[]) (N:=["_law_cell_here"]) (cl:=[]) ?T ?xe ?ca (fun d=>.int (tuF d)) (fun _=>true) ?_ ?hs
 case T=>exact compOk_plain (by decide +kernel) (by decide +kernel) rfl (by decide +kernel) rfl
 case xe=>rfl
 case ca=>rfl
 case hs=>(intro _;rfl)
 tm_at "go"
 refine ⟨cq,_,rfl,.inl hc,small (by rw [List.length_map];omega),?_,fun t ht=>?_⟩
 ·rintro Y ⟨C',s',H',fp,rfl⟩ M' hM d hd
  obtain ⟨c,hc',rfl⟩:=List.mem_map.mp hd
  have bc:=(hcs c hc').bd
  have nd2:(["_law_cell_here"] : List Str).Nodup:=by decide +kernel
  refine gv_name 0 nd2 ?_
  refine ⟨rfl,fun i d e=>by rcases i with _ | i<;>simp [compG] at e,tvs_nil ⟨rfl,rfl⟩,fun _=>?_⟩
  repeat first | (refine ev_var 0 ?_) | k_go
  exact ⟨rfl,rfl⟩
 rw [filt_t]
 refine q (cs.map fun c=>tuF (.int c)) t _ (fun x hx=>?_) (by rw [List.length_map]) ht ?_ (ext_new ht)
 ·obtain ⟨c,_,rfl⟩:=List.mem_map.mp hx;exact tuF_01 _
 ·rw [mset_same,List.map_map,List.map_map];rfl
local macro_rules | `(tactic| tm_at $s:str)=>namT n_cn s
theorem ok_l_givens (F:Fun K "_law_givens" "_law_givens" s_co f fd) (C_l_made:Cal P w K mg base 1 "_law_made" spMade9):FnOk P w K mg base CX0 2 f fd P_co (liftSp K spGivens):=by
 tm_at "F co"
 obtain ⟨cq,cs,rfl,hc,hcs,hl,q⟩:=h
 refine exs_one ?_
 lk
 with_reducible refine' ev_comp_list (own:=["_law_cell_here"]) (js:=[]) (N:=["_law_cell_here"]) (cl:=[]) ?T ?xe ?ca (fun d=>frD (gvF d)) (fun _=>true) ?_ ?hs
 case T=>exact compOk_plain (by decide +kernel) (by decide +kernel) rfl (by decide +kernel) rfl
 case xe=>rfl
 case ca=>rfl
 case hs=>(intro _;rfl)
 tm_at "go"
 refine ⟨cq,_,rfl,.inl hc,small (by rw [List.length_map];omega),?_,fun t ht=>?_⟩
 ·rintro Y ⟨C',s',H',fp,rfl⟩ M' hM d hd
  obtain ⟨c,hc',rfl⟩:=List.mem_map.mp hd
  have bc:=(hcs c hc').bd
  have nd2:(["_law_cell_here"] : List Str).Nodup:=by decide +kernel
  refine gv_name 0 nd2 ?_
  refine ⟨rfl,fun i d e=>by rcases i with _ | i<;>simp [compG] at e,tvs_nil ⟨rfl,rfl⟩,fun _=>?_⟩
  have h3:=fmod_lt (a:=c.fdiv 100) (b:=3) (by decide)
  repeat first | (refine ev_var 0 ?_) | k_go
  have ib:Bd (1+(c.fdiv 100).fmod 3) 10:=.rng (by omega) (by omega)
  exact ⟨_,_,rfl,by omega,lim,rfl,rfl⟩
 rw [filt_t]
 refine q (cs.map fun c=>gvF (.int c)) t _ (fun x hx=>?_) (by rw [List.length_map]) ht ?_ (ext_new ht)
 ·obtain ⟨c,_,rfl⟩:=List.mem_map.mp hx;exact gvF_ok _
 ·rw [mset_same,List.map_map,List.map_map];rfl
local macro_rules | `(tactic| tm_at "go")=>`(tactic| repeat first | tm_at "d" | refine ifDn (by decide +kernel) ?_ | refine ifDy rfl ?_ | refine exs_cons ?_ | refine exs_nil ?_)
local macro_rules | `(tactic| tm_at "cut")=>`(tactic| (refine ev_slice sl_all ?_;tm_at "go";refine ov_some ?_;tm_at "go";refine ov_none ?_;refine rs_tupA rfl ?_;tm_at "go"))
theorem cut2 (k k1 j:Nat) (r:Pce):D.tup (D3.cutD ((k :: k1 :: j :: r).map fun n:Nat=>D.int n) (some 2) none)=pcD (j :: r):=by
 unfold D3.cutD pcD
 simp [HT.sIx,List.take_of_length_le]
local macro_rules | `(tactic| tm_at $s:str)=>namT n_cp s
theorem ok_l_at {n k:Nat} (F:Fun K "_law_at" "_law_at" s_cp f fd) (h_len:mg "len" = none) (h_int:mg "int" = none) (hC:0 < n->Cal P w K mg base k "_law_at" (spAt (n - 1))):FnOk P w K mg base CX0 (k+1) f fd P_cp (liftSp K (spAt n)):=by
 tm_at "F cp"
 obtain ⟨b,k0,r,t,y,rfl,hb,hd,hr2,hr100,q⟩:=h
 have eb:atI (stDs b) (k0:Int)=some (stD t):=atI_nat (by rw [stDs_map,List.getElem?_map,hb];rfl)
 unfold pcD
 refine exs_cons ?_
 lk
 refine ix_at (atI_nat (j:=0) rfl) ?_
 refine ix_at eb ?_
 tm_at "go"
 refine ⟨_,_,rfl,rfl,?_⟩
 rw [List.length_map,List.length_cons]
 tm_at "go"
 match r,hd,hr2,hr100 with
 | [],hd,_,_ =>
  simp only [down,Option.some.injEq] at hd
  subst hd
  refine ifDy (by rfl) ?_
  tm_at "go"
  exact q
 | [_],hd,_,_=>simp [down] at hd
 | k1 :: j :: r',hd,hr2,hr100 =>
  rw [List.length_cons,List.length_cons] at hr2 hr100
  refine ifDn (by rw [List.length_cons,List.length_cons];omega) ?_
  obtain ⟨b',t',h1,h2,h3⟩:=down_inv hd
  have C_l_at:=hC (by omega)
  have fin:spAt (n - 1) [.tup (stDs b'),D.tup (D3.cutD ((k0 :: k1 :: j :: r').map fun n:Nat=>D.int n) (some 2) none)] M Q:=⟨b',j,r',t',y,by rw [cut2],h2,h3,by omega,by omega,q⟩
  cases t with
  | set x s=>simp [blks] at h1
  | any x=>simp [blks] at h1
  | note rs=>simp [blks] at h1
  | whl rw_ rs ms b0 =>
   have e1:b0=b':=by
    match k1,h1 with
    | 0,h1=>simpa [blks] using h1
    | k1+1,h1=>simp [blks] at h1
   subst e1
   rw [<- e_whl]
   tm_at "go"
   tm_at "cut"
   exact fin
  | choose b0 b1 =>
   rw [<- e_choose]
   tm_at "go"
   refine ix_at (atI_nat (j:=1) rfl) ?_
   tm_at "go"
   refine Or.inr ⟨_,rfl,?_⟩
   rw [show (if decide (("choose" : Str) = "if")=true then (1:Int) else 0)=0 by decide +kernel]
   tm_at "go"
   have ei:atI [D.str "choose",.tup (stDs b0),.tup (stDs b1)] ((k1:Int)+1+0)=some (.tup (stDs b')):=by
    match k1,h1 with
    | 0,h1=>simp only [blks,List.getElem?_cons_zero,Option.some.injEq] at h1;rw [h1];rfl
    | 1,h1=>simp only [blks,List.getElem?_cons_succ,List.getElem?_cons_zero,Option.some.injEq] at h1;rw [h1];rfl
    | k1+2,h1=>simp [blks] at h1
   refine ix_at ei ?_
   tm_at "go"
   tm_at "cut"
   exact fin
  | ite rw_ b0 b1 =>
   rw [<- e_ite]
   tm_at "go"
   refine ix_at (atI_nat (j:=1) rfl) ?_
   tm_at "go"
   refine Or.inr ⟨_,rfl,?_⟩
   rw [show (if decide (("if" : Str) = "if")=true then (1:Int) else 0)=1 by decide +kernel]
   tm_at "go"
   have ei:atI [D.str "if",rwD rw_,.tup (stDs b0),.tup (stDs b1)] ((k1:Int)+1+1)=some (.tup (stDs b')):=by
    match k1,h1 with
    | 0,h1=>simp only [blks,List.getElem?_cons_zero,Option.some.injEq] at h1;rw [h1];rfl
    | 1,h1=>simp only [blks,List.getElem?_cons_succ,List.getElem?_cons_zero,Option.some.injEq] at h1;rw [h1];rfl
    | k1+2,h1=>simp [blks] at h1
   refine ix_at ei ?_
   tm_at "go"
   tm_at "cut"
   exact fin
local macro_rules | `(tactic| tm_at $s:str)=>namT n_ab s
theorem ok_blocks_of (F:Fun K "blocks_of" "blocks_of" s_ab f fd):FnOk P w K mg base CX0 1 f fd P_ab (liftSp K spBlocksOf):=by
 tm_at "F ab"
 obtain ⟨st,rfl,q⟩:=h
 cases st<;>simp only [stD,blks,blD,List.map_cons,List.map_nil] at q ⊢<;>refine exs_cons ?_<;>repeat first | k_go | refine ifDy rfl ?_ | refine ifDn (by decide) ?_ | refine exs_cons ?_
 all_goals exact q
end
theorem pc_app (p:Pce) (n i:Nat):pcD (p++[n]++[i])=.tup (p.map (fun n:Nat=>D.int n)++[.int n,.int i]):=by
 unfold pcD;rw [List.append_assoc,List.map_append];rfl
section
variable {P:Program} {w:World} {K:PySem.W.Frag} {mg:Str->Option Value} {base:Heap} {f:Addr} {fd:FuncData}
local macro_rules | `(tactic| tm_at $s:str)=>namT n_ad s
theorem ok_straight_within (F:Fun K "straight_within" "straight_within" s_ad f fd) (h_enumerate:mg "enumerate" = none) (C_blocks_of:Cal P w K mg base 1 "blocks_of" spBlocksOf):FnOk P w K mg base CX0 2 f fd P_ad (liftSp K spWithin):=by
 tm_at "F ad"
 obtain ⟨p,st,rfl,hs,hp0,hp,q⟩:=h
 have hlen:(rows p 0 (blks st)).length<=100:=Nat.le_trans (len_bulk _) (by have:=bulk_rows p st;omega)
 refine exs_cons ?_
 lk
 intro f0 hf0
 refine exs_cons ?_
 with_reducible refine' ex_for_enum ?_ ?_ ?_ ?_ ?g ?h ?i
 case g=>rfl
 case h=>rfl
 case i=>(intro _;rfl)
 ·exact PassesOwn.never
 ·rfl
 ·exact h_enumerate
 lk
 refine ⟨st,rfl,?_⟩
 lk
 refine ⟨_,fun n G' M'=>∃ r3 r4 r5 r6,G'=[some (pcD p),some (stD st),some (.ref f0),r3,r4,r5,r6]/\M' f0=some (.lst ((rows p 0 ((blks st).take n)).map prD))/\Ext M M',rfl,⟨none,none,none,none,rfl,mset_same,ext_new hf0⟩,?_,?_⟩
 ·rintro n d G' M' hd ⟨r3,r4,r5,r6,rfl,hf,hx⟩
  rw [List.getElem?_map] at hd
  obtain ⟨b,hb,rfl⟩:=Option.map_eq_some_iff.mp hd
  obtain ⟨e1,e2⟩:=rows_pre p hb
  lk
  with_reducible refine' ex_for_enum ?_ ?_ ?_ ?_ ?g ?h ?i
  case g=>rfl
  case h=>rfl
  case i=>(intro _;rfl)
  ·exact PassesOwn.never
  ·rfl
  ·exact h_enumerate
  lk
  refine ⟨_,fun i G' M'=>∃ r5 r6,G'=[some (pcD p),some (stD st),some (.ref f0),some (.int n),some (.tup (stDs b)),r5,r6]/\M' f0=some (.lst ((rows p 0 ((blks st).take n)++row (p++[n]) 0 (b.take i)).map prD))/\Ext M M',rfl,⟨r5,r6,rfl,by simp only [List.take_zero,row,List.append_nil];exact hf,hx⟩,?_,?_⟩
  ·rintro i d G' M' hd ⟨r5,r6,rfl,hf,hx⟩
   rw [stDs_map,List.getElem?_map] at hd
   obtain ⟨s1,hs1,rfl⟩:=Option.map_eq_some_iff.mp hd
   have hi:=(List.getElem?_eq_some_iff.mp hs1).1
   lk
   refine ⟨f0,rfl,⟨_,hf⟩,?_⟩
   lk
   refine add_tt (by simpa using hp0) (small (by rw [List.length_map];show _+2<=_;omega)) ?_
   lk
   refine ⟨_,hf,small1000 (by rw [List.length_map,List.length_append,row_len,List.length_take];omega),?_⟩
   refine ⟨_,_,rfl,?_,fun x o e=>by rw [mset_ne (ne_fresh e hf0)];exact hx x o e⟩
   have e3:b.take (i+1)=b.take i++[s1]:=by rw [List.take_succ,hs1];rfl
   rw [mset_same,e3,row_snoc,List.length_take,Nat.zero_add,Nat.min_eq_left (by omega),<- List.append_assoc]
   have e4:prD (p++[n]++[i],s1)=.tup [.tup (p.map (fun n:Nat=>D.int n)++[.int n,.int i]),stD s1]:=by unfold prD;rw [pc_app]
   rw [<- e4,List.map_append (l₁:=rows p 0 ((blks st).take n)++row (p++[n]) 0 (b.take i))]
   rfl
  ·rintro G' M' ⟨r5,r6,rfl,hf,hx⟩
   refine ⟨_,_,_,_,rfl,?_,hx⟩
   rw [stDs_map,List.length_map,List.take_length] at hf
   rw [hf,e1]
 ·rintro G' M' ⟨r3,r4,r5,r6,rfl,hf,hx⟩
  lk
  rw [List.length_map,List.take_length] at hf
  exact q f0 M' hf0 hf hx
local macro_rules | `(tactic| tm_at $s:str)=>namT n_ac s
theorem ok_laid_out (F:Fun K "laid_out" "laid_out" s_ac f fd) (h_enumerate:mg "enumerate" = none) (h_len:mg "len" = none) (C_straight_within:Cal P w K mg base 2 "straight_within" spWithin):FnOk P w K mg base CX0 3 f fd P_ac (liftSp K spLaid):=by
 tm_at "F ac"
 obtain ⟨b,rfl,hN,q⟩:=h
 have hbl:b.length<=100:=by
  have:=len_bulk (row [] 0 b)
  rw [row_len,bulk_row] at this
  omega
 refine exs_cons ?_
 lk
 intro f0 hf0
 lk
 with_reducible refine' ex_comp_enum 2 (own:=["index", "statement"]) (js:=[]) (N:=["index", "statement"]) (cl:=[]) ?T ?xe ?ca ?hm ?hN ?hj ?hy ?hyf ?hsw wrap (fun _=>true) ?_ ?hg ?hse ?hs
 case T=>exact compOk_plain (by decide +kernel) (by decide +kernel) rfl (by decide +kernel) rfl
 case xe=>rfl
 case ca=>rfl
 case hm=>exact h_enumerate
 case hN=>exact nd
 case hj=>rfl
 case hy=>first | exact Or.inl rfl | exact Or.inr rfl
 case hyf=>exact .inl rfl
 case hsw=>rfl
 case hg=>rfl
 case hse=>rfl
 case hs=>(intro _;rfl)
 lk
 refine ⟨stDs b,rfl,small (by rw [stDs_map,List.length_map];omega),?_,fun w0 hw0=>?_⟩
 ·rintro Y ⟨C',s',H',fp,rfl⟩ M' hM d hd
  unfold D3.numbered at hd
  obtain ⟨t,ht,rfl⟩:=List.mem_map.mp hd
  have nd2:(["index", "statement"] : List Str).Nodup:=by decide +kernel
  refine gv_tup rfl ?_
  refine gvs_cons ?_
  refine gv_name 0 nd2 ?_
  refine gvs_cons ?_
  refine gv_name 1 nd2 ?_
  refine gvs_nil ?_
  refine ⟨rfl,fun i d e=>by rcases i with _ | _ | i<;>simp [compG] at e,tvs_nil ⟨rfl,rfl⟩,fun _=>?_⟩
  repeat first | (refine ev_var 0 ?_) | (refine ev_var 1 ?_) | k_go
  exact ⟨rfl,rfl⟩
 rw [wrap_row]
 have hw:w0≠f0:=(ne_fresh (o:=.lst []) mset_same hw0).symm
 lk
 refine ⟨w0,_,rfl,mset_same,?_⟩
 rw [mset_mset,<- List.map_reverse]
 refine exs_cons (ex_while (fun G' M'=>∃ (dn wt:List (Pce × Stm)) (r3 r4:Option D),G'=[some (.tup (stDs b)),some (.ref f0),some (.ref w0),r3,r4]/\M' f0=some (.lst (dn.map prD))/\M' w0=some (.lst (wt.map prD))/\dn++wt.reverse.flatMap layP=layB [] 0 b/\dn.length+bulk wt=(tts b).s/\(∀ x∈wt,Fits (tts b).s x)/\Ext M M')
  (fun _ M'=>match M' f0 with | some (.lst l)=>200 - l.length | _=>0) PassesOwn.never
  ⟨[],(row [] 0 b).reverse,none,none,rfl,by rw [mset_ne hw.symm];exact mset_same,mset_same,by rw [List.reverse_reverse,<- layB_row];rfl,by rw [bulk_rev,bulk_row];simp,fun x hx=>fits_row (m:=(tts b).s) (by show 0+1+_<=_;omega) (Nat.le_refl _) x (List.mem_reverse.mp hx),Ext.trans (ext_new hf0) (ext_new hw0)⟩ ?_)
 rintro G' M' ⟨dn,wt,r3,r4,rfl,hf,hwt,hall,hbk,hfit,hx⟩
 have hdl:dn.length<=100:=by omega
 lk
 refine ⟨_,_,rfl,Or.inl ⟨_,hwt,rfl⟩,?_⟩
 rw [List.length_map]
 lk
 refine ifD ?_ ?_
 ·intro hpos
  obtain ⟨wt',x,rfl⟩:∃ wt' x,wt=wt'++[x]:=by
   have:wt≠[]:=by intro z;subst z;simp at hpos
   exact ⟨wt.dropLast,wt.getLast this,(List.dropLast_concat_getLast this).symm⟩
  have hfx:=hfit x (by simp)
  have hbk2:bulk (wt'++[x])=bulk wt'+(tt x.2).s:=by rw [bulk_app];simp [bulk]
  rw [hbk2] at hbk
  rw [List.map_append] at hwt
  lk
  refine ⟨w0,_,_,rfl,hwt,?_⟩
  lk
  refine ⟨f0,rfl,⟨_,by rw [mset_ne hw.symm];exact hf⟩,?_⟩
  lk
  refine ⟨_,by rw [mset_ne hw.symm];exact hf,small1000 (by rw [List.length_map];omega),?_⟩
  generalize hM2:mset (mset M' w0 _) f0 _=M2
  have hf2:M2 f0=some (.lst ((dn++[x]).map prD)):=by rw [<- hM2,mset_same,List.map_append];rfl
  have hw2:M2 w0=some (.lst (wt'.map prD)):=by rw [<- hM2,mset_ne hw,mset_same]
  have hx2:Ext M M2:=fun z o e=>by
   rw [<- hM2,mset_ne (ne_fresh e hf0),mset_ne (ne_fresh (ext_new hf0 _ _ e) hw0)]
   exact hx z o e
  lk
  refine (show IxA (D.tup [pcD x.1,stD x.2]) (D.int 0) _ _ from ix_at rfl ?_)
  lk
  refine (show IxA (D.tup [pcD x.1,stD x.2]) (D.int 1) _ _ from ix_at rfl ?_)
  lk
  obtain ⟨hx1,hxl⟩:=id hfx
  refine ⟨x.1,x.2,rfl,by omega,hx1,by omega,fun i0 M3 hi0 hi hx3=>?_⟩
  have hif:i0≠f0:=(ne_fresh hf2 hi0).symm
  have hiw:i0≠w0:=(ne_fresh hw2 hi0).symm
  lk
  refine ⟨i0,_,rfl,hi,?_⟩
  lk
  refine ⟨w0,rfl,⟨_,by rw [mset_ne hiw.symm];exact hx3 _ _ hw2⟩,?_⟩
  lk
  have hbr:=bulk_rows x.1 x.2
  have hl1:=len_bulk (rows x.1 0 (blks x.2))
  have hl2:=len_bulk wt'
  refine ⟨i0,_,_,rfl,by rw [mset_ne hiw.symm];exact hx3 _ _ hw2,mset_same,small (by rw [List.length_map,List.length_reverse,List.length_map];omega),?_⟩
  refine ⟨⟨dn++[x],wt'++(rows x.1 0 (blks x.2)).reverse,_,_,rfl,by rw [mset_ne hw.symm,mset_ne hif.symm];exact hx3 _ _ hf2,by rw [mset_same,List.map_append,List.map_reverse],?_,?_,?_,?_⟩,?_⟩
  ·rw [List.reverse_append,List.reverse_reverse,List.flatMap_append,<- hall,List.reverse_append]
   show dn++[x]++_=dn++(layP x++_)
   have e5:layP x=x :: (rows x.1 0 (blks x.2)).flatMap layP:=lay_eq x.1 x.2
   rw [e5,List.append_assoc,List.cons_append]
   rfl
  ·rw [List.length_append,bulk_app,bulk_rev]
   show dn.length+1+_=_
   omega
  ·intro z hz
   rcases List.mem_append.mp hz with hz | hz
   ·exact hfit z (List.mem_append_left _ hz)
   ·exact fits_rows hfx z (List.mem_reverse.mp hz)
  ·intro z o e
   have e2:=hx2 z o e
   rw [mset_ne (ne_fresh (ext_new hf0 _ _ e) hw0),mset_ne (ne_fresh e2 hi0)]
   exact hx3 _ _ e2
  ·rw [mset_ne hw.symm,mset_ne hif.symm,hx3 _ _ hf2,hf]
   show 200 - ((dn++[x]).map prD).length < 200 - (dn.map prD).length
   rw [List.length_map,List.length_map,List.length_append]
   show 200 - (_+1) < _
   omega
 ·intro hpos
  have:wt=[]:=List.eq_nil_of_length_eq_zero (by omega)
  subst this
  lk
  refine q f0 M' hf0 ?_ hx
  rw [hf,<- hall];simp
local macro_rules | `(tactic| tm_at $s:str)=>namT n_ap s
theorem ok_names_of_terms (F:Fun K "names_of_terms" "names_of_terms" s_ap f fd):FnOk P w K mg base CX0 1 f fd P_ap (liftSp K spNmT):=by
 tm_at "F ap"
 obtain ⟨ts,rfl,hN,q⟩:=h
 refine exs_one ?_
 lk
 with_reducible refine' ev_comp_tup (own:=["term"]) (js:=[]) (N:=["term"]) (cl:=[]) ?T ?xe ?ca fstD (fun _=>true) ?_ ?hs
 case T=>exact compOk_plain (by decide +kernel) (by decide +kernel) rfl (by decide +kernel) rfl
 case xe=>rfl
 case ca=>rfl
 case hs=>(intro _;rfl)
 lk
 refine ⟨ts.map KA.tD,rfl,small (by rw [List.length_map];omega),?_,fun p0 hp0=>?_⟩
 ·rintro Y ⟨C',s',H',fp,rfl⟩ M' hM d hd
  obtain ⟨x,hx',rfl⟩:=List.mem_map.mp hd
  have nd2:(["term"] : List Str).Nodup:=by decide +kernel
  refine gv_name 0 nd2 ?_
  refine ⟨rfl,fun i d e=>by rcases i with _ | i<;>simp [compG] at e,tvs_nil ⟨rfl,rfl⟩,fun _=>?_⟩
  unfold KA.tD
  repeat first | (refine ev_var 0 ?_) | k_go
  exact ⟨rfl,rfl⟩
 ·rw [fst_terms]
  exact q p0 _ hp0 mset_same (ext_new hp0)
local macro_rules | `(tactic| tm_at $s:str)=>namT n_ao s
theorem ok_names_of_rows (F:Fun K "names_of_rows" "names_of_rows" s_ao f fd) (C_names_of_terms:Cal P w K mg base 1 "names_of_terms" spNmT):FnOk P w K mg base CX0 2 f fd P_ao (liftSp K spNmR):=by
 tm_at "F ao"
 obtain ⟨rs,rfl,hN,q⟩:=h
 refine exs_cons ?_
 lk
 intro f0 hf0
 refine exs_cons (ex_for_tup PassesOwn.never rfl ?_)
 lk
 refine ⟨_,fun i G' M'=>∃ r2,G'=[some (.tup (rs.map rwD)),some (.ref f0),r2]/\M' f0=some (strsD (nmR (rs.take i)))/\Ext M M',rfl,⟨none,rfl,mset_same,ext_new hf0⟩,?_,?_⟩
 ·rintro i d G' M' hd ⟨r2,rfl,hf,hx⟩
  rw [List.getElem?_map] at hd
  obtain ⟨r,hr1,rfl⟩:=Option.map_eq_some_iff.mp hd
  have hmem:=List.mem_of_getElem? hr1
  have e3:rs.take (i+1)=rs.take i++[r]:=by rw [List.take_succ,hr1];rfl
  have hl1:RsOk (rs.take i):=⟨by rw [List.length_take];have:=hN.1;omega,fun x hx=>hN.2 x (List.mem_of_mem_take hx)⟩
  have hl2:=hl1.len
  have hl3:=hN.2 r hmem
  unfold rwD rowD
  lk
  refine ⟨f0,rfl,⟨_,hf⟩,?_⟩
  lk
  refine ⟨r.2.1,rfl,hl3,fun q1 M1 hq1 hq2 hx1=>?_⟩
  refine ⟨q1,_,_,rfl,hx1 _ _ hf,hq2,small (by rw [List.length_map,List.length_map,nmT,List.length_map];omega),?_⟩
  refine ⟨_,rfl,?_,fun x o e=>by rw [mset_ne (ne_fresh e hf0)];exact hx1 _ _ (hx x o e)⟩
  rw [mset_same,e3,nmR,nmR,List.flatMap_append,strsD,List.map_append]
  simp
 ·rintro G' M' ⟨r2,rfl,hf,hx⟩
  lk
  rw [List.length_map,List.take_length] at hf
  exact q f0 M' hf0 hf hx
local macro_rules | `(tactic| tm_at $s:str)=>namT n_an s
theorem ok_names_of_loop (F:Fun K "names_of_loop" "names_of_loop" s_an f fd) (C_names_of_terms:Cal P w K mg base 1 "names_of_terms" spNmT) (C_names_of_rows:Cal P w K mg base 2 "names_of_rows" spNmR):FnOk P w K mg base CX0 3 f fd P_an (liftSp K spNmL):=by
 tm_at "F an"
 obtain ⟨r,rs,m,b,rfl,⟨h1,h2,h3⟩,q⟩:=h
 have hrl:=h2.len
 simp only [stD]
 unfold rwD rowD
 refine exs_cons ?_
 lk
 refine ⟨r.2.1,rfl,h1,fun q1 M1 hq1 hv1 hx1=>?_⟩
 lk
 refine ⟨rs,rfl,h2,fun q2 M2 hq2 hv2 hx2=>?_⟩
 lk
 refine add_ll (hx2 _ _ hv1) hv2 (small (by rw [List.length_map,List.length_map,nmT,List.length_map];omega)) fun q3 hq3=>?_
 lk
 have e0:mset M2 q3 (.lst ((nmT r.2.1).map D.str++(nmR rs).map D.str)) q3=some (strsD (nmT r.2.1++nmR rs)):=by rw [mset_same,strsD,List.map_append]
 have hx3:Ext M (mset M2 q3 (.lst ((nmT r.2.1).map D.str++(nmR rs).map D.str))):=Ext.trans hx1 (Ext.trans hx2 (ext_new hq3))
 have hM3:M q3=none:=none_of (Ext.trans hx1 hx2) hq3
 generalize mset M2 q3 (.lst ((nmT r.2.1).map D.str++(nmR rs).map D.str))=M3 at e0 hx3 ⊢
 refine exs_cons ?_
 cases m with
 | none =>
  simp only [msD]
  lk
  exact q q3 M3 hM3 (by rw [e0];simp [nmS,nmM]) hx3
 | some m =>
  simp only [msD,smD]
  lk
  refine ⟨q3,rfl,⟨_,e0⟩,?_⟩
  lk
  refine ⟨m.1.1,rfl,h3,fun q4 M4 hq4 hv4 hx4=>?_⟩
  refine ⟨q4,_,_,rfl,hx4 _ _ e0,hv4,small (by rw [List.length_map,List.length_append,List.length_map,nmT,nmT,List.length_map,List.length_map];have:m.1.1.length<=30:=h3;omega),?_⟩
  lk
  refine q q3 _ hM3 (by rw [mset_same,strsD,<- List.map_append];rfl) fun x o e=>by rw [mset_ne (ne_fresh e hM3)];exact hx4 _ _ (hx3 x o e)
local macro_rules | `(tactic| tm_at $s:str)=>namT n_ab s
theorem ok_names_of_statement (F:Fun K "names_of_statement" "names_of_statement" s_am f fd) (C_names_of_terms:Cal P w K mg base 1 "names_of_terms" spNmT) (C_names_of_rows:Cal P w K mg base 2 "names_of_rows" spNmR) (C_names_of_loop:Cal P w K mg base 3 "names_of_loop" spNmL):FnOk P w K mg base CX0 4 f fd P_am (liftSp K spNmS):=by
 tm_at "F am"
 obtain ⟨st,rfl,hok,q⟩:=h
 cases st with
 | set x sm =>
  have hk:sm.1.length<=30:=hok
  simp only [stD,smD]
  refine exs_cons ?_
  repeat first | k_go | refine ifDy rfl ?_ | refine ifDn (by decide) ?_ | refine exs_cons ?_
  intro q1 hq1
  lk
  refine ⟨sm.1,rfl,hk,fun q2 M2 hq2 hv2 hx2=>?_⟩
  lk
  refine add_ll (hx2 _ _ mset_same) hv2 (small (by rw [List.length_map,nmT,List.length_map];show 1+_<=_;omega)) fun q3 hq3=>?_
  exact q q3 _ (none_of (Ext.trans (ext_new hq1) hx2) hq3) (by rw [mset_same];rfl) (Ext.trans (ext_new hq1) (Ext.trans hx2 (ext_new hq3)))
 | any x =>
  simp only [stD]
  refine exs_cons ?_
  repeat first | k_go | refine ifDy rfl ?_ | refine ifDn (by decide) ?_ | refine exs_cons ?_
  intro q1 hq1
  exact q q1 _ hq1 mset_same (ext_new hq1)
 | note rs =>
  simp only [stD]
  refine exs_cons ?_
  repeat first | k_go | refine ifDy rfl ?_ | refine ifDn (by decide) ?_ | refine exs_cons ?_
  exact ⟨rs,rfl,hok,q⟩
 | choose a b =>
  simp only [stD]
  refine exs_cons ?_
  repeat first | k_go | refine ifDy rfl ?_ | refine ifDn (by decide) ?_ | refine exs_cons ?_
  intro q1 hq1
  exact q q1 _ hq1 mset_same (ext_new hq1)
 | ite r a b =>
  simp only [stD]
  unfold rwD rowD
  refine exs_cons ?_
  repeat first | k_go | refine ifDy rfl ?_ | refine ifDn (by decide) ?_ | refine exs_cons ?_
  exact ⟨r.2.1,rfl,hok,q⟩
 | whl r rs m b =>
  have e0:stD (.whl r rs m b)=.tup [.str "while",rwD r,.tup (rs.map rwD),msD m,.tup (stDs b)]:=by simp only [stD]
  rw [e0]
  refine exs_cons ?_
  repeat first | k_go | refine ifDy rfl ?_ | refine ifDn (by decide) ?_ | refine exs_cons ?_
  exact ⟨r,rs,m,b,by rw [e0],hok,q⟩
local macro_rules | `(tactic| tm_at $s:str)=>namT n_ah s
theorem ok_how_many (F:Fun K "how_many" "how_many" s_ah f fd) (h_len:mg "len" = none):FnOk P w K mg base CX0 1 f fd P_ah (liftSp K spHow):=by
 tm_at "F ah"
 obtain ⟨a,sts,ws,rfl,ha,hN,q⟩:=h
 refine exs_one ?_
 lk
 with_reducible refine' ev_comp_list (own:=["statement"]) (js:=[1]) (N:=["statement", "words"]) ?T ?xe ?ca (fun d=>d) (fun d=>decide (wordD d∈ws)) ?_ ?hs
 case T=>exact compOk_freeB (fs:=["words"]) rfl (by decide +kernel) (by decide +kernel) rfl rfl rfl rfl rfl
 case xe=>rfl
 case ca=>rfl
 case hs=>(intro _;rfl)
 lk
 refine ⟨a,_,rfl,.inl ha,small (by rw [List.length_map];omega),?_,fun p0 hp0=>?_⟩
 ·rintro Y ⟨C',s',H',fp,rfl⟩ M' hM d hd
  obtain ⟨st,hs',rfl⟩:=List.mem_map.mp hd
  rw [wordD_st]
  have nd2:(["statement", "words"] : List Str).Nodup:=by decide +kernel
  refine gv_name 0 nd2 ?_
  refine ⟨rfl,fun i d e=>?_,?_,fun _=>?_⟩
  ·rcases i with _ | i
   ·simp [compG] at e
   ·exact e
  ·cases st<;>simp only [stD,wordS]<;>(repeat first | (refine ev_var 0 ?_) | (refine ev_var 1 ?_) | k_go)
   all_goals exact ⟨rfl,rfl⟩
  ·repeat first | (refine ev_var 0 ?_) | k_go
   exact ⟨rfl,rfl⟩
 ·lk
  refine ⟨_,_,rfl,Or.inl ⟨_,mset_same,rfl⟩,?_⟩
  rw [List.map_id',List.filter_map,List.length_map]
  have:((fun d=>decide (wordD d∈ws)) ∘ stD)=fun s:Stm=>decide (wordS s∈ws):=by funext x;simp only [Function.comp,wordD_st]
  rw [this]
  exact q _ (ext_new hp0)
local macro_rules | `(tactic| tm_at $s:str)=>namT n_af s
theorem ok_must_be_within (F:Fun K "must_be_within" "must_be_within" s_af f fd):FnOk P w K mg base CX0 1 f fd P_af (liftSp K spLess):=by
 tm_at "F af"
 obtain ⟨a,b,rfl,hab,q⟩:=h
 refine exs_one ?_
 lk
 refine ifDn (by omega) ?_
 lk
 exact q
local macro_rules | `(tactic| tm_at $s:str)=>namT n_aj s
theorem ok_must_be_among (F:Fun K "must_be_among" "must_be_among" s_aj f fd):FnOk P w K mg base CX0 1 f fd P_aj (liftSp K spAmong):=by
 tm_at "F aj"
 obtain ⟨ss,xs,p,rfl,hp,hl,hin,q⟩:=h
 refine exs_one (ex_for_list PassesOwn.never rfl ?_)
 lk
 refine ⟨p,xs.map D.str,fun i G' M'=>∃ r2,G'=[some (nms ss),some (.ref p),r2]/\M'=M,rfl,.inl hp,⟨none,rfl,rfl⟩,?_,?_,?_⟩
 ·rintro i G' M' _ ⟨r2,_,rfl⟩
  rfl
 ·rintro i d G' M' hd ⟨r2,rfl,rfl⟩
  rw [List.getElem?_map] at hd
  obtain ⟨x,hx,rfl⟩:=Option.map_eq_some_iff.mp hd
  have hm:=hin x (List.mem_of_getElem? hx)
  lk
  unfold nms
  lk
  refine ifNn hm ?_
  lk
  exact ⟨_,rfl,rfl⟩
 ·rintro G' M' ⟨r2,rfl,rfl⟩
  exact q
local macro_rules | `(tactic| tm_at $s:str)=>namT n_ag s
theorem ok_depth_of (F:Fun K "depth_of" "depth_of" s_ag f fd) (h_len:mg "len" = none) (h_max:mg "max" = none):FnOk P w K mg base CX0 1 f fd P_ag (liftSp K spDeep):=by
 tm_at "F ag"
 obtain ⟨a,xs,rfl,ha,hl,hb,q⟩:=h
 refine exs_one ?_
 lk
 with_reducible refine' ev_maxD (d:=0) ?n1 ?n2 ?_ ?n3 ?n4 ?n5 ?n6
 case n1=>rfl
 case n2=>exact h_max
 case n3=>rfl
 case n4=>rfl
 case n5=>rfl
 case n6=>exact fun R Z s h=>wpAny_Constant_int (h _ _)
 lk
 with_reducible refine' ev_comp_list (own:=["pair"]) (js:=[]) (N:=["pair"]) (cl:=[]) ?T ?xe ?ca deepD (fun _=>true) ?_ ?hs
 case T=>exact compOk_plain (by decide +kernel) (by decide +kernel) rfl (by decide +kernel) rfl
 case xe=>rfl
 case ca=>rfl
 case hs=>(intro _;rfl)
 lk
 refine ⟨a,_,rfl,.inl ha,small (by rw [List.length_map];omega),?_,fun p0 hp0=>?_⟩
 ·rintro Y ⟨C',s',H',fp,rfl⟩ M' hM d hd
  obtain ⟨x,hx',rfl⟩:=List.mem_map.mp hd
  rw [deepD_pr]
  have nd2:(["pair"] : List Str).Nodup:=by decide +kernel
  refine gv_name 0 nd2 ?_
  refine ⟨rfl,fun i d e=>by rcases i with _ | i<;>simp [compG] at e,tvs_nil ⟨rfl,rfl⟩,fun _=>?_⟩
  have hb':=hb x hx'
  have bl:Bd (((x.1.length:Nat):Int)+1) 40:=.rng (by omega) (by omega)
  repeat first | (refine ev_var 0 ?_) | k_go
  refine (show IxA (D.tup [pcD x.1,stD x.2]) (D.int 0) _ _ from ix_at rfl ?_)
  lk
  refine ⟨_,_,rfl,rfl,?_⟩
  rw [List.length_map]
  lk
  exact ⟨rfl,rfl⟩
 ·have e0:((xs.map prD).filter fun _=>true).map deepD=(xs.map deep).map D.int:=by
   rw [List.filter_eq_self.mpr (by simp),List.map_map,List.map_map]
   exact List.map_congr_left fun x _=>deepD_pr x
  rw [e0]
  lk
  refine ⟨p0,xs.map deep,rfl,mset_same,fun r hr'=>q r _ ?_ (ext_new hp0)⟩
  rcases hr' with ⟨h1,h2⟩ | ⟨h1,h2⟩
  ·exact .inl ⟨List.map_eq_nil_iff.mp h1,h2⟩
  ·obtain ⟨x,hx,e⟩:=List.mem_map.mp h1
   exact .inr ⟨⟨x,hx,e.symm⟩,fun y hy=>h2 _ (List.mem_map_of_mem hy)⟩
local macro_rules | `(tactic| tm_at $s:str)=>namT n_ai s
theorem ok_rows_noted (F:Fun K "rows_noted" "rows_noted" s_ai f fd) (h_len:mg "len" = none) (h_sum:mg "sum" = none):FnOk P w K mg base CX0 1 f fd P_ai (liftSp K spNoted):=by
 tm_at "F ai"
 obtain ⟨a,sts,rfl,ha,hl,hb,q⟩:=h
 refine exs_one ?_
 lk
 with_reducible refine' ev_comp_list (own:=["statement"]) (js:=[]) (N:=["statement"]) (cl:=[]) ?T ?xe ?ca lenD ntD ?_ ?hs
 case T=>exact compOk_plain (by decide +kernel) (by decide +kernel) rfl (by decide +kernel) rfl
 case xe=>rfl
 case ca=>rfl
 case hs=>(intro _;rfl)
 lk
 refine ⟨a,_,rfl,.inl ha,small (by rw [List.length_map];omega),?_,fun p0 hp0=>?_⟩
 ·rintro Y ⟨C',s',H',fp,rfl⟩ M' hM d hd
  obtain ⟨st,hs',rfl⟩:=List.mem_map.mp hd
  rw [ntD_st]
  have nd2:(["statement"] : List Str).Nodup:=by decide +kernel
  refine gv_name 0 nd2 ?_
  refine ⟨rfl,fun i d e=>by rcases i with _ | i<;>simp [compG] at e,?_,fun hn=>?_⟩
  ·cases st<;>simp only [stD,isNt]<;>(repeat first | (refine ev_var 0 ?_) | k_go)<;>exact ⟨rfl,by decide⟩
  ·rw [lenD_st hn]
   cases st with
   | note rs =>
    simp only [stD]
    repeat first | (refine ev_var 0 ?_) | k_go
    refine ⟨_,_,rfl,rfl,?_⟩
    rw [List.length_map]
    exact ⟨rfl,rfl⟩
   | _=>cases hn
 ·have e0:((sts.map stD).filter ntD).map lenD=(noted sts).map D.int:=by
   rw [List.filter_map,List.map_map,noted,List.map_map]
   have:(ntD ∘ stD)=isNt:=by funext x;exact ntD_st x
   rw [this]
   exact List.map_congr_left fun x hx=>lenD_st (List.mem_filter.mp hx).2
  rw [e0]
  lk
  refine ⟨p0,noted sts,rfl,mset_same,fun x hx=>?_,?_,q _ (ext_new hp0)⟩
  ·obtain ⟨s1,h1,rfl⟩:=List.mem_map.mp hx
   have:=hb s1 (List.mem_filter.mp h1).1
   omega
  ·rw [noted,List.length_map]
   have:=List.length_filter_le isNt sts
   omega
local macro_rules | `(tactic| tm_at $s:str)=>namT n_ae s
theorem ok_must_be_small {t1 t2 t3 t4 t5 t6 t7:Tok} (F:Fun K "must_be_small" "must_be_small" s_ae f fd) (h_len:mg "len" = none) (g1:mg "MOST_NAMES" = some (.int 3 t1)) (g2:mg "MOST_STATEMENTS" = some (.int 24 t2)) (g3:mg "MOST_DEPTH" = some (.int 4 t3)) (g4:mg "MOST_BRANCHES" = some (.int 2 t4)) (g5:mg "MOST_LOOPS" = some (.int 2 t5)) (g6:mg "MOST_GIVEN" = some (.int 1 t6)) (g7:mg "MOST_NOTED" = some (.int 2 t7))
  (C_must_be_within:Cal P w K mg base 1 "must_be_within" spLess) (C_depth_of:Cal P w K mg base 1 "depth_of" spDeep) (C_how_many:Cal P w K mg base 1 "how_many" spHow) (C_rows_noted:Cal P w K mg base 1 "rows_noted" spNoted):FnOk P w K mg base CX0 2 f fd P_ae (liftSp K spSmall):=by
 tm_at "F ae"
 obtain ⟨ss,a,b,rfl,ha,sm,q⟩:=h
 have hs:=sm.cs
 have hll:(layB [] 0 b).length<=24:=by rw [layB_len];exact hs
 refine exs_cons ?_
 with_reducible refine' ex_comp_list 2 (own:=["pair"]) (js:=[]) (N:=["pair"]) (cl:=[]) ?T ?xe ?ca ?hN ?hj ?hy ?hyf ?hsw sndD (fun _=>true) ?_ ?hs
 case T=>exact compOk_plain (by decide +kernel) (by decide +kernel) rfl (by decide +kernel) rfl
 case xe=>rfl
 case ca=>rfl
 case hN=>exact nd
 case hj=>rfl
 case hy=>first | exact Or.inl rfl | exact Or.inr rfl
 case hyf=>exact .inl rfl
 case hsw=>rfl
 case hs=>(intro _;rfl)
 lk
 refine ⟨a,_,rfl,.inl ha,small (by rw [List.length_map];omega),?_,fun p0 hp0=>?_⟩
 ·rintro Y ⟨C',s',H',fp,rfl⟩ M' hM d hd
  obtain ⟨x,hx',rfl⟩:=List.mem_map.mp hd
  have nd2:(["pair"] : List Str).Nodup:=by decide +kernel
  refine gv_name 0 nd2 ?_
  refine ⟨rfl,fun i d e=>by rcases i with _ | i<;>simp [compG] at e,tvs_nil ⟨rfl,rfl⟩,fun _=>?_⟩
  repeat first | (refine ev_var 0 ?_) | k_go
  refine (show IxA (D.tup [pcD x.1,stD x.2]) (D.int 1) _ _ from ix_at rfl ?_)
  exact ⟨rfl,rfl⟩
 rw [snd_map]
 have ha1:mset M p0 (.lst (((layB [] 0 b).map (·.2)).map stD)) a=some (.lst ((layB [] 0 b).map prD)):=mset_old hp0 ha
 have hp1:mset M p0 (.lst (((layB [] 0 b).map (·.2)).map stD)) p0=some (.lst (((layB [] 0 b).map (·.2)).map stD)):=mset_same
 have hx1:Ext M (mset M p0 (.lst (((layB [] 0 b).map (·.2)).map stD))):=ext_new hp0
 generalize mset M p0 (.lst (((layB [] 0 b).map (·.2)).map stD))=M1 at ha1 hp1 hx1 ⊢
 have hc:∀ ws:List Str,(((layB [] 0 b).map (·.2)).filter fun s=>decide (wordS s∈ws)).length=((layB [] 0 b).filter fun x=>decide (wordS x.2∈ws)).length:=fun ws=>by
  rw [List.filter_map,List.length_map];rfl
 repeat first | k_go | (refine ev_gint g1 ?_) | refine exs_cons ?_
 refine ⟨_,_,rfl,rfl,?_⟩
 rw [List.length_map]
 repeat first | k_go | (refine ev_gint g1 ?_)
 refine ⟨_,_,rfl,by have:=sm.names;omega,?_⟩
 walk
 refine ⟨_,_,rfl,Or.inl ⟨_,hp1,rfl⟩,?_⟩
 rw [List.length_map,List.length_map]
 repeat first | k_go | (refine ev_gint g2 ?_)
 refine ⟨_,_,rfl,by omega,?_⟩
 walk
 refine ⟨a,_,rfl,ha1,by omega,sm.long,fun r M2 hr' hx2=>?_⟩
 have hr4:r<=4:=by
  rcases hr' with ⟨_,h⟩ | ⟨⟨x,hx,h⟩,_⟩
  ·omega
  ·rw [h];exact sm.deep x hx
 repeat first | k_go | (refine ev_gint g3 ?_)
 refine ⟨_,_,rfl,hr4,?_⟩
 walk
 refine ⟨p0,(layB [] 0 b).map (·.2),[Str.ofString "choose",Str.ofString "if"],rfl,hx2 _ _ hp1,by rw [List.length_map];omega,fun M3 hx3=>?_⟩
 rw [hc,cnts_b]
 repeat first | k_go | (refine ev_gint g4 ?_)
 refine ⟨_,_,rfl,by have:=sm.cb;omega,?_⟩
 walk
 refine ⟨p0,(layB [] 0 b).map (·.2),[Str.ofString "while"],rfl,hx3 _ _ (hx2 _ _ hp1),by rw [List.length_map];omega,fun M4 hx4=>?_⟩
 rw [hc,cnts_l]
 repeat first | k_go | (refine ev_gint g5 ?_)
 refine ⟨_,_,rfl,by have:=sm.cl;omega,?_⟩
 walk
 refine ⟨p0,(layB [] 0 b).map (·.2),[Str.ofString "any"],rfl,hx4 _ _ (hx3 _ _ (hx2 _ _ hp1)),by rw [List.length_map];omega,fun M5 hx5=>?_⟩
 rw [hc,cnts_a]
 repeat first | k_go | (refine ev_gint g6 ?_)
 refine ⟨_,_,rfl,by have:=sm.ca;omega,?_⟩
 walk
 refine ⟨p0,(layB [] 0 b).map (·.2),rfl,hx5 _ _ (hx4 _ _ (hx3 _ _ (hx2 _ _ hp1))),by rw [List.length_map];omega,sm.note,fun M6 hx6=>?_⟩
 repeat first | k_go | (refine ev_gint g7 ?_)
 refine ⟨_,_,rfl,sm.cn,?_⟩
 lk
 exact q M6 (Ext.trans hx1 (Ext.trans hx2 (Ext.trans hx3 (Ext.trans hx4 (Ext.trans hx5 hx6)))))
end
inductive spNoLp (ds:List D) (M:MH) (Q:DK):Prop | mk:∀ (p:D) (r:Rw) (rs:List Rw) (m:Sm × Int) (b:List Stm),ds=[p,stD (.whl r rs (some m) b)]->(tts b).l=0->(tts b).s<=100->(∀ M',Ext M M'->Q .non M')->spNoLp ds M Q
section
variable {P:Program} {w:World} {K:PySem.W.Frag} {mg:Str->Option Value} {base:Heap} {f:Addr} {fd:FuncData}
local macro_rules | `(tactic| tm_at $s:str)=>namT n_al s
theorem ok_must_have_no_loop (F:Fun K "must_have_no_loop" "must_have_no_loop" s_al f fd) (C_laid_out:Cal P w K mg base 3 "laid_out" spLaid) (C_how_many:Cal P w K mg base 1 "how_many" spHow):FnOk P w K mg base CX0 4 f fd P_al (liftSp K spNoLp):=by
 tm_at "F al"
 obtain ⟨p,r,rs,m,b,rfl,hz,hs,q⟩:=h
 have e0:stD (.whl r rs (some m) b)=.tup [.str "while",rwD r,.tup (rs.map rwD),.tup [smD m.1,.int m.2],.tup (stDs b)]:=by simp only [stD,msD]
 rw [e0]
 refine exs_cons ?_
 with_reducible refine' ex_comp_list 2 (own:=["pair"]) (js:=[]) (N:=["pair"]) (cl:=[]) ?T ?xe ?ca ?hN ?hj ?hy ?hyf ?hsw sndD (fun _=>true) ?_ ?hs
 case T=>exact compOk_plain (by decide +kernel) (by decide +kernel) rfl (by decide +kernel) rfl
 case xe=>rfl
 case ca=>rfl
 case hN=>exact nd
 case hj=>rfl
 case hy=>first | exact Or.inl rfl | exact Or.inr rfl
 case hyf=>exact .inl rfl
 case hsw=>rfl
 case hs=>(intro _;rfl)
 lk
 refine ⟨b,rfl,hs,fun l M1 hl hl1 hx=>?_⟩
 refine ⟨l,_,rfl,.inl hl1,small (by rw [List.length_map,layB_len];omega),?_,fun p0 hp0=>?_⟩
 ·rintro Y ⟨C',s',H',fp,rfl⟩ M' hM d hd
  obtain ⟨x,hx',rfl⟩:=List.mem_map.mp hd
  have nd2:(["pair"] : List Str).Nodup:=by decide +kernel
  refine gv_name 0 nd2 ?_
  refine ⟨rfl,fun i d e=>by rcases i with _ | i<;>simp [compG] at e,tvs_nil ⟨rfl,rfl⟩,fun _=>?_⟩
  repeat first | (refine ev_var 0 ?_) | k_go
  refine (show IxA (D.tup [pcD x.1,stD x.2]) (D.int 1) _ _ from ix_at rfl ?_)
  exact ⟨rfl,rfl⟩
 ·rw [snd_map]
  refine exs_one ?_
  lk
  refine ⟨p0,(layB [] 0 b).map (·.2),[Str.ofString "while"],rfl,mset_same,by rw [List.length_map,layB_len];omega,fun M2 hx2=>?_⟩
  have hc:(((layB [] 0 b).map (·.2)).filter fun s=>decide (wordS s∈[Str.ofString "while"])).length=0:=by
   rw [List.filter_map,List.length_map]
   have:=cnts_l [] 0 b
   rw [hz] at this
   exact this
  rw [hc]
  lk
  refine ifDn (by decide) ?_
  lk
  exact q M2 (Ext.trans hx (Ext.trans (ext_new hp0) hx2))
local macro_rules | `(tactic| tm_at $s:str)=>namT n_ak s
theorem ok_must_bear_measure (F:Fun K "must_bear_measure" "must_bear_measure" s_ak f fd) (C_must_have_no_loop:Cal P w K mg base 4 "must_have_no_loop" spNoLp):FnOk P w K mg base CX0 5 f fd P_ak (liftSp K spBear):=by
 tm_at "F ak"
 obtain ⟨p,st,rfl,hok,hsz,q⟩:=h
 cases st with
 | whl r rs m b =>
  cases m with
  | none =>
   have e0:stD (.whl r rs none b)=.tup [.str "while",rwD r,.tup (rs.map rwD),.non,.tup (stDs b)]:=by simp only [stD,msD]
   rw [e0]
   refine exs_one ?_
   repeat first | k_go | refine ifDy rfl ?_ | refine ifDn (by decide) ?_
   exact q M (Ext.refl M)
  | some m =>
   have e0:stD (.whl r rs (some m) b)=.tup [.str "while",rwD r,.tup (rs.map rwD),.tup [smD m.1,.int m.2],.tup (stDs b)]:=by simp only [stD,msD]
   have hz:(tts b).l=0:=hok
   have hs:(tts b).s<=100:=by simp only [tt,Cnt.add] at hsz;omega
   rw [e0]
   refine exs_one ?_
   repeat first | k_go | refine ifDy rfl ?_ | refine ifDn (by decide) ?_
   refine ⟨_,r,rs,m,b,by rw [e0],hz,hs,fun M' hx=>?_⟩
   lk
   exact q M' hx
 | set _ _=>all_goals (simp only [stD];refine exs_one ?_;(repeat first | k_go | refine ifDy rfl ?_ | refine ifDn (by decide) ?_);exact q M (Ext.refl M))
 | any _=>all_goals (simp only [stD];refine exs_one ?_;(repeat first | k_go | refine ifDy rfl ?_ | refine ifDn (by decide) ?_);exact q M (Ext.refl M))
 | note _=>all_goals (simp only [stD];refine exs_one ?_;(repeat first | k_go | refine ifDy rfl ?_ | refine ifDn (by decide) ?_);exact q M (Ext.refl M))
 | choose _ _=>all_goals (simp only [stD];refine exs_one ?_;(repeat first | k_go | refine ifDy rfl ?_ | refine ifDn (by decide) ?_);exact q M (Ext.refl M))
 | ite _ _ _=>all_goals (simp only [stD];refine exs_one ?_;(repeat first | k_go | refine ifDy rfl ?_ | refine ifDn (by decide) ?_);exact q M (Ext.refl M))
local macro_rules | `(tactic| tm_at $s:str)=>namT n_aa s
theorem ok_must_plan (F:Fun K "must_plan" "must_plan" s_aa f fd) (C_laid_out:Cal P w K mg base 3 "laid_out" spLaid) (C_must_be_small:Cal P w K mg base 2 "must_be_small" spSmall) (C_must_be_among:Cal P w K mg base 1 "must_be_among" spAmong) (C_names_of_rows:Cal P w K mg base 2 "names_of_rows" spNmR) (C_names_of_statement:Cal P w K mg base 4 "names_of_statement" spNmS) (C_must_bear_measure:Cal P w K mg base 5 "must_bear_measure" spBear):FnOk P w K mg base CX0 6 f fd P_aa (liftSp K spMustPlan):=by
 tm_at "F aa"
 obtain ⟨p,rfl,hp,q⟩:=h
 have hs:=hp.cs
 have hn:=hp.names.le
 unfold plD
 refine exs_cons ?_
 lk
 refine ⟨p.bl,rfl,by omega,fun l M1 hl hl1 hx1=>?_⟩
 walk
 refine ⟨p.ss,l,p.bl,rfl,hl1,hp.small,fun M2 hx2=>?_⟩
 walk
 refine ⟨p.rs,rfl,rsOk hn hp.rs hp.rl,fun q3 M3 hq3 hq3' hx3=>?_⟩
 have hrl:=(rsOk hn hp.rs hp.rl).len
 lk
 refine ⟨p.ss,nmR p.rs,q3,rfl,hq3',by omega,nmR_mem hp.rs,?_⟩
 have hl3:M3 l=some (.lst ((layB [] 0 p.bl).map prD)):=hx3 _ _ (hx2 _ _ hl1)
 have hx03:Ext M M3:=Ext.trans hx1 (Ext.trans hx2 hx3)
 lk
 refine (ex_for_list PassesOwn.never rfl ?_)
 lk
 refine ⟨l,_,fun i G' M'=>∃ r3 r4,G'=[some (.tup [nms p.ss,.tup (p.rs.map rwD),.tup (stDs p.bl)]),some (nms p.ss),some (.ref l),r3,r4]/\Ext M3 M',rfl,.inl hl3,⟨none,none,rfl,Ext.refl _⟩,?_,?_,?_⟩
 ·rintro i G' M' _ ⟨r3,r4,rfl,hx⟩
  rw [hx _ _ hl3,hl3]
 ·rintro i d G' M' hd ⟨r3,r4,rfl,hx⟩
  rw [List.getElem?_map] at hd
  obtain ⟨x,hx1,rfl⟩:=Option.map_eq_some_iff.mp hd
  have hmem:=List.mem_of_getElem? hx1
  have hw:=layB_wf _ _ _ hp.bl x hmem
  have hst:=stOk hn hw
  have htt:=layB_tt _ _ _ x hmem
  unfold prD
  walk
  refine ⟨x.2,rfl,hst,fun q4 M4 hq4 hq4' hx4=>?_⟩
  lk
  refine ⟨p.ss,nmS x.2,q4,rfl,hq4',nmS_len hst,nmS_mem hw,?_⟩
  walk
  refine ⟨pcD x.1,x.2,rfl,bearOk hw,by omega,fun M5 hx5=>?_⟩
  lk
  exact ⟨_,_,rfl,Ext.trans hx (Ext.trans hx4 hx5)⟩
 ·rintro G' M' ⟨r3,r4,rfl,hx⟩
  exact q M' (Ext.trans hx03 hx)
local macro_rules | `(tactic| tm_at $s:str)=>namT n_ba s
theorem ok_common_divisor {t:Tok} (F:Fun K "common_divisor" "common_divisor" s_ba f fd) (h_max:mg "max" = none) (h_min:mg "min" = none) (hL:mg "LONG" = some (.int 8192 t)):FnOk P w K mg base CX0 1 f fd P_ba (liftSp K spCd):=by
 tm_at "F ba"
 obtain ⟨a,b,rfl,ha,hb,lb,q⟩:=h
 refine exs_cons ?_
 lk
 refine exs_cons ?_
 generalize hg:(if b > a then b else a)=g
 generalize hs:(if b < a then b else a)=s
 have hgs:0<=g/\0<=s/\Int.gcd g s=Int.gcd a b/\Lim s:=by
  by_cases c:b > a
  ·have c2:¬ b < a:=by omega
   rw [if_pos c] at hg
   rw [if_neg c2] at hs
   subst hg;subst hs
   exact ⟨hb,ha,Int.gcd_comm ..,Lim.le (by omega) lb⟩
  ·rw [if_neg c] at hg
   by_cases c2:b < a
   ·rw [if_pos c2] at hs
    subst hg;subst hs
    exact ⟨ha,hb,rfl,lb⟩
   ·rw [if_neg c2] at hs
    have e:a=b:=by omega
    subst hg;subst hs;subst e
    exact ⟨ha,ha,rfl,lb⟩
 obtain ⟨h1,h2,h3,h4⟩:=hgs
 refine (ex_while (fun G' M'=>G'=[some (.int a),some (.int b),some (.int g),some (.int s),none,none]/\M'=M) (fun _ _=>0) PassesOwn.never ⟨rfl,rfl⟩ ?_)
 rintro G' M' ⟨rfl,rfl⟩
 refine lt_gt ?_
 refine ev_bits PySem.F.plainAttrs_int ?_
 lk
 refine ev_gint hL ?_
 refine cmp_l ?_
 have hbits:=bits_le h4
 refine ifDn (by omega) ?_
 refine exs_cons (ex_while (fun G' M''=>∃ g s r,G'=[some (.int a),some (.int b),some (.int g),some (.int s),none,r]/\M''=M'/\0<=g/\0<=s/\Int.gcd g s=Int.gcd a b)
  (fun G' _=>match G' with | [_,_,_,some (.int s),_,_]=>s.toNat | _=>0) PassesOwn.never ⟨g,s,none,rfl,rfl,h1,h2,h3⟩ ?_)
 rintro G' M'' ⟨g,s,r,rfl,rfl,hg,hs,e⟩
 lk
 refine ifN ?_ ?_
 ·intro hs0
  lk
  have hlt:=fmod_lt (a:=g) (b:=s) (by omega)
  refine ⟨⟨s,g.fmod s,some (.int (g.fmod s)),rfl,rfl,hs,hlt.1,?_⟩,?_⟩
  ·rw [gcd_step (by omega)];exact e
  ·show (g.fmod s).toNat < s.toNat
   omega
 ·intro hs0
  subst hs0
  lk
  rw [<- e,gcd_zero_right' hg] at q
  exact q
local macro_rules | `(tactic| tm_at $s:str)=>namT n_aq s
theorem ok_plus (F:Fun K "plus" "plus" s_aq f fd) (h_abs:mg "abs" = none) (C_common_divisor:Cal P w K mg base 1 "common_divisor" spCd):FnOk P w K mg base CX0 2 f fd P_aq (liftSp K (spArL gPlus)):=by
 tm_at "F aq"
 obtain ⟨a,b,c,d,rfl,hb,hd,ga,gc,la,lb,lc,ld,q⟩:=h
 have i1:=Bd.of la
 have i2:=Bd.of lb
 have i3:=Bd.of lc
 have i4:=Bd.of ld
 refine exs_cons ?_
 lk
 refine ⟨_,_,rfl,by omega,by omega,lim,?_⟩
 generalize es:((Int.gcd b d:Nat):Int)=sh
 generalize el:b.fdiv sh=lf
 generalize et:a * d.fdiv sh+c * lf=t
 generalize eg:((Int.gcd t sh:Nat):Int)=g
 obtain ⟨hs,hg,lsb,lgs,r1,r2⟩:=plus_is hb hd ga gc es.symm el.symm et.symm eg.symm
 have i5:Bd sh 3000:=Bd.le lsb i2
 have i6:Bd g 3000:=Bd.le lgs i5
 have i7:Bd lf 3000:=by rw [<- el];infer_instance
 have i8:Bd t 43001:=by rw [<- et];exact Bd.up
 lk
 rw [el]
 lk
 rw [et]
 lk
 rw [abs_eq]
 refine ⟨_,_,rfl,Int.natCast_nonneg _,by omega,lim,?_⟩
 rw [gcd_abs,eg]
 lk
 simp only [gPlus] at q
 rw [r1,r2] at q
 exact q
local macro_rules | `(tactic| tm_at $s:str)=>namT n_au s
theorem ok_times (F:Fun K "times" "times" s_au f fd) (h_abs:mg "abs" = none) (C_common_divisor:Cal P w K mg base 1 "common_divisor" spCd):FnOk P w K mg base CX0 2 f fd P_au (liftSp K (spArL gTimes)):=by
 tm_at "F au"
 obtain ⟨a,b,c,d,rfl,hb,hd,ga,gc,la,lb,lc,ld,q⟩:=h
 have i1:=Bd.of la
 have i2:=Bd.of lb
 have i3:=Bd.of lc
 have i4:=Bd.of ld
 generalize ep:((Int.gcd a d:Nat):Int)=p0
 generalize eq:((Int.gcd c b:Nat):Int)=q0
 obtain ⟨hp,hq,lpd,lqb,r1,r2⟩:=times_is hb hd ga gc ep.symm eq.symm
 have i5:Bd p0 3000:=Bd.le lpd i4
 have i6:Bd q0 3000:=Bd.le lqb i2
 refine exs_cons ?_
 lk
 rw [abs_eq]
 refine ⟨_,_,rfl,Int.natCast_nonneg _,by omega,lim,?_⟩
 rw [gcd_abs,ep]
 lk
 rw [abs_eq]
 refine ⟨_,_,rfl,Int.natCast_nonneg _,by omega,lim,?_⟩
 rw [gcd_abs,eq]
 lk
 simp only [gTimes] at q
 rw [r1,r2] at q
 exact q
local macro_rules | `(tactic| tm_at $s:str)=>namT n_ar s
theorem ok_minus (F:Fun K "minus" "minus" s_ar f fd) (C_plus:Cal P w K mg base 2 "plus" (spArL gPlus)):FnOk P w K mg base CX0 3 f fd P_ar (liftSp K (spArL gMinus)):=by
 tm_at "F ar"
 obtain ⟨a,b,c,d,rfl,hb,hd,ga,gc,la,lb,lc,ld,q⟩:=h
 refine exs_one ?_
 lk
 refine ⟨_,_,_,_,rfl,hb,hd,ga,by rw [Int.neg_gcd];exact gc,la,lb,B.neg lc,ld,?_⟩
 have e:gPlus a b (-c) d=gMinus a b c d:=by unfold gPlus gMinus;rw [Int.neg_mul,<- Int.sub_eq_add_neg]
 rw [e]
 exact q
local macro_rules | `(tactic| tm_at $s:str)=>namT n_az s
theorem ok_must_have_names (F:Fun K "must_have_names" "must_have_names" s_az f fd):FnOk P w K mg base CX0 1 f fd P_az (liftSp K spMust):=by
 tm_at "F az"
 obtain ⟨ts,d0,kvs,rfl,hd,hall,q⟩:=h
 refine exs_cons (ex_for_tup PassesOwn.never rfl ?_)
 lk
 refine ⟨ts.map tD,fun i G' M'=>∃ r2:Option D,G'=[some (trm ts),some (.ref d0),r2]/\M'=M,rfl,⟨none,rfl,rfl⟩,?_,?_⟩
 ·rintro i d G' M' hx ⟨r2,rfl,rfl⟩
  rw [List.getElem?_map] at hx
  cases ht:ts[i]? with
  | none=>rw [ht] at hx;cases hx
  | some t =>
   rw [ht] at hx
   have hx:tD t=d:=by simpa using hx
   subst hx
   obtain ⟨hh,_⟩:=hall.2 t (List.mem_of_getElem? ht)
   obtain ⟨h1,_⟩:=hh.at
   unfold KA.tD
   lk
   refine in_d hd ?_
   rw [h1]
   refine ifNT ?_
   lk
   exact ⟨_,rfl,rfl⟩
 ·rintro G' M' ⟨r2,rfl,rfl⟩
  refine exs_nil ?_
  exact q
local macro_rules | `(tactic| tm_at $s:str)=>namT n_aw s
theorem ok_worth (F:Fun K "worth" "worth" s_aw f fd) (C_must_have_names:Cal P w K mg base 1 "must_have_names" spMust) (C_plus:Cal P w K mg base 2 "plus" (spArL gPlus)) (C_times:Cal P w K mg base 2 "times" (spArL gTimes)):FnOk P w K mg base CX0 3 f fd P_aw (liftSp K spWorth):=by
 tm_at "F aw"
 obtain ⟨ts,wh,by0,d0,kvs,rfl,hd,hall,bw,hb,lb,q⟩:=h
 refine exs_cons ?_
 lk
 refine ⟨ts,d0,kvs,rfl,hd,hall,?_⟩
 walk
 refine (ex_for_tup PassesOwn.never rfl ?_)
 lk
 refine ⟨ts.map KA.tD,fun i G' M'=>∃ r3 r4:Option D,G'=[some (.tup [trm ts,.int wh,.int by0]),some (.ref d0),some (fr (tp (addUp kvs (ts.take i) wh 1).1 (addUp kvs (ts.take i) wh 1).2) (bt (addUp kvs (ts.take i) wh 1).1 (addUp kvs (ts.take i) wh 1).2)),r3,r4]/\M'=M,rfl,⟨none,none,?_,rfl⟩,?_,?_⟩
 ·show _=[_,_,some (fr (tp wh 1) (bt wh 1)),_,_]
  rw [tp_one.1,tp_one.2];rfl
 ·rintro i d G' M' hx ⟨r3,r4,rfl,rfl⟩
  rw [List.getElem?_map] at hx
  cases ht:ts[i]? with
  | none=>rw [ht] at hx;cases hx
  | some t =>
   rw [ht] at hx
   have hx:KA.tD t=d:=by simpa using hx
   subst hx
   obtain ⟨hh,bt'⟩:=hall.2 t (List.mem_of_getElem? ht)
   obtain ⟨h1,hv,bx,by'⟩:=hh.at
   have hco:Int.gcd (atP kvs t.1).1 (atP kvs t.1).2=1:=by
    obtain ⟨d,x,y,e1,rfl,_,e3,_,_⟩:=hh
    have e:atP kvs t.1=(x,y):=by unfold atP;rw [e1]
    rw [e];exact e3
   obtain ⟨hU,b1,b2⟩:=(hall.take i).bounds wh bw
   have e:=addUp_snoc kvs t (ts.take i) wh 1
   have htk:ts.take (i+1)=ts.take i++[t]:=by rw [List.take_add_one,ht];rfl
   rw [<- htk] at e
   generalize (addUp kvs (ts.take i) wh 1).1=T at *
   generalize (addUp kvs (ts.take i) wh 1).2=U at *
   generalize (atP kvs t.1).1=vx at *
   generalize (atP kvs t.1).2=vy at *
   have hU0:U≠0:=by omega
   have hv0:(1:Int) * vy≠0:=by omega
   have l1:B 40000 (tp T U):=B.up (by decide) (B.le (tp_le hU0) b1)
   have l2:B 3000 (bt T U):=B.up (by decide) (B.le (bt_le hU0) b2)
   have i3:=Bd.of bt'
   have i4:=Bd.of bx
   have i5:=Bd.of by'
   unfold KA.tD
   lk
   refine ix_ad hd h1 ?_
   lk
   refine ⟨_,_,_,_,rfl,by decide,hv,by rw [Int.gcd_one],hco,(Bd.up (x:=t.2)).b,(Bd.up (x:=1)).b,B.up (by decide) bx,B.up (by decide) by',?_⟩
   simp only [gTimes]
   have p1:=bt_pos (t:=T) hU0
   have p2:=bt_pos (t:=t.2 * vx) hv0
   have l3:B 40000 (tp (t.2 * vx) (1 * vy)):=B.le (tp_le hv0) (Bd.b (Bd.up (x:=t.2 * vx)))
   have l4:B 3000 (bt (t.2 * vx) (1 * vy)):=B.le (bt_le hv0) (Bd.b (Bd.up (x:=1 * vy)))
   lk
   refine ⟨_,_,_,_,rfl,p1,p2,coprime hU0,coprime hv0,l1,l2,l3,l4,?_⟩
   simp only [gPlus]
   have c1:=cross T U
   have c2:=cross (t.2 * vx) (1 * vy)
   have me:=made_eq (t:=tp T U * bt (t.2 * vx) (1 * vy)+tp (t.2 * vx) (1 * vy) * bt T U) (b:=bt T U * bt (t.2 * vx) (1 * vy)) (t':=T * vy+t.2 * vx * U) (b':=U * vy) (Int.mul_ne_zero (by omega) (by omega)) (Int.mul_ne_zero hU0 (by omega)) (by
    generalize tp T U=x1 at *
    generalize bt T U=y1 at *
    generalize tp (t.2 * vx) (1 * vy)=x2 at *
    generalize bt (t.2 * vx) (1 * vy)=y2 at *
    grind)
   rw [me.1,me.2]
   lk
   exact ⟨_,_,by rw [e];rfl,by first | rfl | trivial⟩
 ·rintro G' M' ⟨r3,r4,rfl,rfl⟩
  rw [List.length_map,List.take_length]
  obtain ⟨hU,b1,b2⟩:=hall.bounds wh bw
  obtain ⟨e1,e2⟩:=addUp_whole kvs wh ts 0 1
  have e3:(0:Int)+wh * 1=wh:=by omega
  rw [e3] at e1 e2
  rw [<- e2,<- e1] at q
  generalize (addUp kvs ts wh 1).1=T at *
  generalize (addUp kvs ts wh 1).2=U at *
  have hU0:U≠0:=by omega
  have l1:B 40000 (tp T U):=B.up (by decide) (B.le (tp_le hU0) b1)
  have l2:B 3000 (bt T U):=B.up (by decide) (B.le (bt_le hU0) b2)
  lk
  refine ⟨_,_,_,_,rfl,bt_pos hU0,hb,coprime hU0,by rw [Int.one_gcd],l1,l2,(Bd.up (x:=1)).b,B.up (by decide) lb,?_⟩
  simp only [gTimes]
  have c1:=cross T U
  have p1:=bt_pos (t:=T) hU0
  have me:=made_eq (t:=tp T U * 1) (b:=bt T U * by0) (t':=T) (b':=U * by0) (Int.mul_ne_zero (by omega) (by omega)) (Int.mul_ne_zero hU0 (by omega)) (by
   generalize tp T U=x1 at *
   generalize bt T U=y1 at *
   grind)
  rw [me.1,me.2]
  exact q
local macro_rules | `(tactic| tm_at $s:str)=>namT n_ay s
theorem ok_added_up (F:Fun K "added_up" "added_up" s_ay f fd) (C_must_have_names:Cal P w K mg base 1 "must_have_names" spMust):FnOk P w K mg base CX0 2 f fd P_ay (liftSp K spAdded):=by
 tm_at "F ay"
 obtain ⟨ts,d0,kvs,rfl,hd,hall,q⟩:=h
 refine exs_cons ?_
 lk
 refine ⟨ts,d0,kvs,rfl,hd,hall,?_⟩
 lk
 refine exs_cons (ex_for_tup PassesOwn.never rfl ?_)
 lk
 refine ⟨ts.map tD,fun i G' M'=>∃ r4 r5 r6:Option D,G'=[some (trm ts),some (.ref d0),some (.int (addUp kvs (ts.take i) 0 1).1),some (.int (addUp kvs (ts.take i) 0 1).2),r4,r5,r6]/\M'=M,rfl,⟨none,none,none,rfl,rfl⟩,?_,?_⟩
 ·rintro i d G' M' hx ⟨r4,r5,r6,rfl,rfl⟩
  rw [List.getElem?_map] at hx
  cases ht:ts[i]? with
  | none=>rw [ht] at hx;cases hx
  | some t =>
   rw [ht] at hx
   have hx:tD t=d:=by simpa using hx
   subst hx
   obtain ⟨hh,bw⟩:=hall.2 t (List.mem_of_getElem? ht)
   obtain ⟨h1,_,bx,by'⟩:=hh.at
   obtain ⟨_,b1,b2⟩:=(hall.take i).bounds 0 (by unfold B;decide)
   have e:=addUp_snoc kvs t (ts.take i) 0 1
   have htk:ts.take (i+1)=ts.take i++[t]:=by rw [List.take_add_one,ht];rfl
   rw [<- htk] at e
   generalize (addUp kvs (ts.take i) 0 1).1=T at *
   generalize (addUp kvs (ts.take i) 0 1).2=U at *
   have i1:=Bd.of b1
   have i2:=Bd.of b2
   have i3:=Bd.of bw
   have i4:=Bd.of bx
   have i5:=Bd.of by'
   unfold KA.tD
   lk
   refine ix_ad hd h1 ?_
   lk
   exact ⟨_,_,_,by rw [e];rfl,rfl⟩
 ·rintro G' M' ⟨r4,r5,r6,rfl,rfl⟩
  rw [List.length_map,List.take_length]
  lk
  exact q
local macro_rules | `(tactic| tm_at $s:str)=>namT n_ax s
theorem ok_is_so (F:Fun K "is_so" "is_so" s_ax f fd) (C_added_up:Cal P w K mg base 2 "added_up" spAdded):FnOk P w K mg base CX0 3 f fd P_ax (liftSp K spIsSo):=by
 tm_at "F ax"
 obtain ⟨k,ts,b,d0,kvs,rfl,hd,hall,lb,q⟩:=h
 refine exs_cons ?_
 lk
 refine ⟨ts,d0,kvs,rfl,hd,hall,?_⟩
 obtain ⟨h0,b1,b2⟩:=hall.bounds 0 (by unfold B;decide)
 unfold soB at q
 generalize (addUp kvs ts 0 1).1=T at *
 generalize (addUp kvs ts 0 1).2=U at *
 have i1:=Bd.of b1
 have i2:=Bd.of b2
 have i3:=Bd.of lb
 lk
 refine exs_cons ?_
 lk
 cases k with
 | true =>
  refine ifDy rfl ?_
  lk
  exact q
 | false =>
  refine ifDn (by decide) ?_
  lk
  exact q
local macro_rules | `(tactic| tm_at $s:str)=>namT n_ar s
theorem ok_less (F:Fun K "less" "less" s_av f fd):FnOk P w K mg base CX0 1 f fd P_av (liftSp K spLessF):=by
 tm_at "F av"
 obtain ⟨a,b,c,d,rfl,la,lb,lc,ld,q⟩:=h
 have i1:=Bd.of la
 have i2:=Bd.of lb
 have i3:=Bd.of lc
 have i4:=Bd.of ld
 refine exs_one ?_
 lk
 exact q
end
section
variable {P:Program} {w:World} {K:PySem.W.Frag} {mg:Str->Option Value} {base:Heap} {f:Addr} {fd:FuncData} {C:Addr} {tM:Tok}
local macro_rules | `(tactic| tm_at $s:str)=>namT n_bi s
theorem ok_Traveller_stop (F:Fun K "stop" "Traveller.stop" s_bi f fd) (k:TrK K C):FnOk P w K mg base CX0 1 f fd P_bi (liftSp K (spStop C)):=by
 tm_at "F bi"
 obtain ⟨a,st,wd,p,rfl,ht,q⟩:=h
 refine exs_cons ?_
 with_reducible refine' ex_fld ?_ ?n0
 case n0=>rfl
 lk
 refine ⟨a.o,C,trF a st,rfl,ht.o,k.cls,k.wd,Nat.le_of_ble_eq_true rfl,?_⟩
 have h1:TrOk C (mset M a.o (.ins C (putD9 "word" (.str wd) (trF a st)))) a { st with wd:=wd }:=ht.setO (s':={ st with wd:=wd }) rfl rfl rfl rfl rfl rfl
 have k1:KeepT a M (mset M a.o (.ins C (putD9 "word" (.str wd) (trF a st)))):=KeepT.put (by simp [TrA.fp])
 generalize mset M a.o (.ins C (putD9 "word" (.str wd) (trF a st)))=M1 at h1 k1 ⊢
 refine exs_one ?_
 with_reducible refine' ex_fld ?_ ?n0
 case n0=>rfl
 lk
 refine ⟨a.o,C,trF a { st with wd:=wd },rfl,h1.o,k.cls,k.pl,Nat.le_of_ble_eq_true rfl,?_⟩
 exact q _ (h1.setO (s':={ st with wd:=wd,pl:=p }) rfl rfl rfl rfl rfl rfl) (k1.trans (KeepT.put (by simp [TrA.fp])))
local macro_rules | `(tactic| tm_at $s:str)=>namT n_bk s
local macro_rules | `(tactic| tm_at "d")=>`(tactic| first
 | ((with_reducible show EV _ _ _ (Expr.Attribute _ _ _) _);(with_reducible refine' ev_fld ?_ ?n0);(case n0=>rfl))
 | ((with_reducible show EV _ _ _ (Expr.Name "MOST_DEEDS" _) _);(with_reducible refine' ev_gint ?n0 ?_ ?n1 ?n2);(case n0=>exact gM);(case n1=>rfl);(case n2=>decide))
 | ((with_reducible show EV _ _ _ (Expr.Call (Expr.Attribute _ "stop" _) (_ :: _) [] _) _);(with_reducible refine' ev_meth ?n0 ?n1 ?n2 ?_ ?n3 ?n4 ?n5);(case n0=>exact C_stop);(case n1=>exact hr);(case n2=>first | decide | omega);(case n3=>rfl);(case n4=>rfl);(case n5=>rfl)))
theorem ok_Traveller_may_do (F:Fun K "may_do" "Traveller.may_do" s_bk f fd) (k:TrK K C) (gM:mg "MOST_DEEDS" = some (.int 300 tM)) (C_stop:CalM P w K mg base 1 C "stop" (spStop C)):FnOk P w K mg base CX0 2 f fd P_bk (liftSp K (spMay C)):=by
 tm_at "F bk"
 obtain ⟨a,st,p,rfl,ht,hn,q1,q2⟩:=h
 refine exs_cons ?_
 lk
 refine ⟨a.o,C,trF a st,_,rfl,ht.o,k.cls,k.n,rfl,?_⟩
 lk
 refine ifD ?_ ?_
 ·intro e
  have e:st.n=300:=by omega
  walk
  refine ⟨a.o,trF a st,rfl,ht.o,rfl,?_⟩
  lk
  refine ⟨a,st,_,p,rfl,ht,fun M' h1 k1=>?_⟩
  walk
  exact q1 e M' h1 k1
 ·intro e
  walk
  with_reducible refine' ex_fld ?_ ?n0
  case n0=>rfl
  lk
  refine ⟨a.o,C,trF a st,_,rfl,ht.o,k.cls,k.n,rfl,?_⟩
  lk
  refine ⟨a.o,C,trF a st,rfl,ht.o,k.cls,k.n,Nat.le_of_ble_eq_true rfl,?_⟩
  walk
  exact q2 (by omega) _ (ht.setO (s':={ st with n:=st.n+1 }) rfl rfl rfl rfl rfl rfl) (KeepT.put (by simp [TrA.fp]))
local macro_rules | `(tactic| tm_at $s:str)=>namT n_bh s
local macro_rules | `(tactic| tm_at "d")=>`(tactic| ((with_reducible show EV _ _ _ (Expr.Attribute _ _ _) _);(with_reducible refine' ev_fld ?_ ?n0);(case n0=>rfl)))
theorem ok_Traveller_told (F:Fun K "told" "Traveller.told" s_bh f fd) (k:TrK K C) (h_dict:mg "dict" = none):FnOk P w K mg base CX0 1 f fd P_bh (liftSp K (spTold C)):=by
 tm_at "F bh"
 obtain ⟨a,st,rfl,ht,q⟩:=h
 refine exs_one ?_
 lk
 refine ⟨a.o,C,trF a st,_,rfl,ht.o,k.cls,k.wd,rfl,?_⟩
 lk
 refine ⟨a.o,C,trF a st,_,rfl,ht.o,k.cls,k.pa,rfl,?_⟩
 lk
 refine ⟨a.o,C,trF a st,_,rfl,ht.o,k.cls,k.pl,rfl,?_⟩
 lk
 refine ⟨a.o,C,trF a st,_,rfl,ht.o,k.cls,k.pt,rfl,?_⟩
 lk
 refine ⟨a.pt,_,rfl,ht.pt,fun r hr1=>?_⟩
 lk
 exact q r hr1
local macro_rules | `(tactic| tm_at $s:str)=>namT n_bk s
theorem ok_Traveller_enter (F:Fun K "enter" "Traveller.enter" s_bq f fd) (k:TrK K C):FnOk P w K mg base CX0 1 f fd P_bq (liftSp K (spEnter C)):=by
 tm_at "F bq"
 obtain ⟨a,st,p,rfl,ht,hl,q⟩:=h
 refine exs_one ?_
 with_reducible refine ex_asg ?_ ?n1 ?n2 ?n3
 case n1=>kernel_rfl
 case n2=>kernel_rfl
 case n3=>rfl
 with_reducible refine ev_non ?_
 with_reducible refine' gv_setT ?n1 ?_ ?n2
 case n1=>exact hr.units
 case n2=>(intro _;rfl)
 lk
 refine ⟨a.o,C,trF a st,_,rfl,ht.o,k.cls,k.wo,rfl,?_⟩
 lk
 refine ⟨a.wo,p,st.wo,rfl,rfl,ht.wo,Nat.lt_of_lt_of_le (Nat.lt_succ_of_le hl) (small (by decide)),?_⟩
 exact q _ (ht.setW rfl) (KeepT.put (by simp [TrA.fp]))
end
section
variable {P:Program} {w:World} {K:PySem.W.Frag} {mg:Str->Option Value} {base:Heap} {f:Addr} {fd:FuncData} {C:Addr}
local macro_rules | `(tactic| tm_at $s:str)=>namT n_bj s
theorem ok_Traveller_meets (F:Fun K "meets" "Traveller.meets" s_bj f fd) (k:TrK K C) (h_all:mg "all" = none) (C_is_so:Cal P w K mg base 3 "is_so" spIsSo):FnOk P w K mg base CX0 4 f fd P_bj (liftSp K (spMeets C)):=by
 tm_at "F bj"
 obtain ⟨a,st,rs,rfl,ht,hrs,h5,q⟩:=h
 refine exs_one ?_
 with_reducible refine ex_ret ?_
 with_reducible refine' ev_allL ?n0 ?n1 ?_ ?n2 ?n3 ?n4
 case n0=>rfl
 case n1=>exact h_all
 case n2=>rfl
 case n3=>rfl
 case n4=>rfl
 lk
 with_reducible refine' ev_comp_tup (own:=["row"]) (js:=[0]) (N:=["row", "self"]) ?T ?xe ?ca (soD st.pt) (fun _=>true) ?_ ?hs
 case T=>exact compOk_freeB (fs:=["self"]) rfl (by decide +kernel) (by decide +kernel) rfl rfl rfl rfl rfl
 case xe=>rfl
 case ca=>rfl
 case hs=>(intro _;rfl)
 lk
 refine ⟨_,rfl,small (by rw [List.length_map];omega),?_,fun q1 hq1=>?_⟩
 ·rintro Y ⟨C',s',H',fp,rfl⟩ M' hM d hd
  obtain ⟨r,hr',rfl⟩:=List.mem_map.mp hd
  have nd2:(["row", "self"] : List Str).Nodup:=by decide +kernel
  refine gv_name 0 nd2 ?_
  refine ⟨rfl,fun i d e=>?_,tvs_nil ⟨rfl,rfl⟩,fun _=>?_⟩
  ·rcases i with _ | i
   ·simp [compG] at e
   ·exact e
  repeat first | (refine ev_var 0 ?_) | k_go
  with_reducible refine' ev_fld ?_ ?n0
  case n0=>rfl
  refine ev_var 1 ?_
  refine ⟨a.o,C,trF a st,_,rfl,hM _ _ ht.o,k.cls,k.pt,rfl,?_⟩
  lk
  refine ⟨r.1,r.2.1,r.2.2,a.pt,_,rfl,hM _ _ ht.pt,(hrs r hr').1,(hrs r hr').2,?_⟩
  rw [so_kv]
  exact ⟨rfl,by unfold soD;rw [unR_rw]⟩
 ·rw [soD_all]
  lk
  refine ⟨q1,_,rfl,mset_same,?_⟩
  rw [all_map]
  exact q _ (ext_new hq1)
local macro_rules | `(tactic| tm_at $s:str)=>namT n_bt s
local macro_rules | `(tactic| tm_at "d")=>`(tactic| first
 | ((with_reducible show EV _ _ _ (Expr.Attribute _ _ _) _);(with_reducible refine' ev_fld ?_ ?n0);(case n0=>rfl))
 | ((with_reducible show EV _ _ _ (Expr.Call (Expr.Attribute _ "stop" _) (_ :: _) [] _) _);(with_reducible refine' ev_meth ?n0 ?n1 ?n2 ?_ ?n3 ?n4 ?n5);(case n0=>exact C_stop);(case n1=>exact hr);(case n2=>first | decide | omega);(case n3=>rfl);(case n4=>rfl);(case n5=>rfl)))
theorem ok_Traveller_passes (F:Fun K "passes" "Traveller.passes" s_bt f fd) (k:TrK K C) (h_dict:mg "dict" = none) (C_stop:CalM P w K mg base 1 C "stop" (spStop C)):FnOk P w K mg base CX0 2 f fd P_bt (liftSp K (spPasses C)):=by
 tm_at "F bt"
 obtain ⟨a,st,p,g,way,rfl,ht,h300,q1,q2⟩:=h
 refine exs_cons ?_
 cases g with
 | false =>
  lk
  refine tv_of ?_ (by intro _;rfl)
  walk
  refine ⟨a.o,trF a st,rfl,ht.o,rfl,?_⟩
  lk
  refine ⟨a,st,_,p,rfl,ht,fun M' h1 k1=>?_⟩
  walk
  exact q1 rfl M' h1 k1
 | true =>
  lk
  refine tv_of ?_ (by intro _;rfl)
  walk
  refine ⟨a.o,C,trF a st,_,rfl,ht.o,k.cls,k.pa,rfl,?_⟩
  refine ⟨a.pa,rfl,⟨_,ht.pa⟩,?_⟩
  lk
  refine ⟨a.o,C,trF a st,_,rfl,ht.o,k.cls,k.pt,rfl,?_⟩
  lk
  refine ⟨a.pt,_,rfl,ht.pt,fun r hr1=>?_⟩
  have x1:=ext_new (o:=.dic (ptKv st.pt)) hr1
  have h1:=ht.ext x1
  have hr2:mset M r (.dic (ptKv st.pt)) r=some (.dic (ptKv st.pt)):=mset_same
  have hrp:r≠a.pa:=fun z=>by rw [z,ht.pa] at hr1;cases hr1
  generalize mset M r (.dic (ptKv st.pt))=M1 at x1 h1 hr2 ⊢
  lk
  refine ⟨_,h1.pa,Nat.lt_of_lt_of_le (Nat.lt_succ_of_le (show _<=300 by rw [List.length_map];exact h300)) (small (by decide)),?_⟩
  walk
  exact q2 rfl r _ hr1 (by rw [mset_ne hrp];exact hr2) (h1.setPa (pa:=st.pa++[(p,r)]) (by rw [List.map_append];rfl)) ((KeepT.ext x1).trans (KeepT.put (by simp [TrA.fp])))
local macro_rules | `(tactic| tm_at "me")=>`(tactic| first
 | ((with_reducible show EV _ _ _ (Expr.Attribute _ _ _) _);(with_reducible refine' ev_fld ?_ ?n0);(case n0=>rfl))
 | ((with_reducible show EV _ _ _ (Expr.Call (Expr.Attribute _ "may_do" _) (_ :: _) [] _) _);(with_reducible refine' ev_meth ?n0 ?n1 ?n2 ?_ ?n3 ?n4 ?n5);(case n0=>exact C_may_do);(case n1=>exact hr);(case n2=>first | decide | omega);(case n3=>rfl);(case n4=>rfl);(case n5=>rfl))
 | ((with_reducible show EV _ _ _ (Expr.Call (Expr.Attribute _ "stop" _) (_ :: _) [] _) _);(with_reducible refine' ev_meth ?n0 ?n1 ?n2 ?_ ?n3 ?n4 ?n5);(case n0=>exact C_stop);(case n1=>exact hr);(case n2=>first | decide | omega);(case n3=>rfl);(case n4=>rfl);(case n5=>rfl))
 | ((with_reducible show EV _ _ _ (Expr.Call (Expr.Attribute _ "meets" _) (_ :: _) [] _) _);(with_reducible refine' ev_meth ?n0 ?n1 ?n2 ?_ ?n3 ?n4 ?n5);(case n0=>exact C_meets);(case n1=>exact hr);(case n2=>first | decide | omega);(case n3=>rfl);(case n4=>rfl);(case n5=>rfl))
 | ((with_reducible show EV _ _ _ (Expr.Call (Expr.Attribute _ "passes" _) (_ :: _) [] _) _);(with_reducible refine' ev_meth ?n0 ?n1 ?n2 ?_ ?n3 ?n4 ?n5);(case n0=>exact C_passes);(case n1=>exact hr);(case n2=>first | decide | omega);(case n3=>rfl);(case n4=>rfl);(case n5=>rfl))
 | ((with_reducible show EV _ _ _ (Expr.Call (Expr.Attribute _ "measured" _) (_ :: _) [] _) _);(with_reducible refine' ev_meth ?n0 ?n1 ?n2 ?_ ?n3 ?n4 ?n5);(case n0=>exact C_measured);(case n1=>exact hr);(case n2=>first | decide | omega);(case n3=>rfl);(case n4=>rfl);(case n5=>rfl))
 | ((with_reducible show EV _ _ _ (Expr.Call (Expr.Attribute _ "pop" _) [_] [] _) _);(with_reducible refine' ev_popAt ?_ ?n1 ?n2 ?n3 ?n4 ?n5);(case n1=>rfl);(case n2=>rfl);(case n3=>rfl);(case n4=>rfl);(case n5=>rfl)))
local macro_rules | `(tactic| tm_at "go")=>`(tactic| repeat first | tm_at "me" | tm_at "d" | refine exs_cons ?_)
local macro_rules | `(tactic| tm_at $s:str)=>namT n_bl s
theorem ok_Traveller_put (F:Fun K "put" "Traveller.put" s_bl f fd) (k:TrK K C) (C_may_do:CalM P w K mg base 2 C "may_do" (spMay C)) (C_worth:Cal P w K mg base 3 "worth" spWorth):FnOk P w K mg base CX0 4 f fd P_bl (liftSp K (spPut C)):=by
 tm_at "F bl"
 obtain ⟨a,st,p,x,sm,rfl,ht,hn,h10,hx,hs,q1,q2⟩:=h
 tm_at "go"
 refine ⟨a.o,trF a st,rfl,ht.o,rfl,?_⟩
 tm_at "go"
 refine ⟨a,st,p,rfl,ht,hn,fun e M1 h1 k1=>?_,fun e M1 h1 k1=>?_⟩
 ·tm_at "go"
  exact q1 e M1 h1 k1
 ·tm_at "go"
  refine ⟨a.o,C,trF a _,_,rfl,h1.o,k.cls,k.pt,rfl,?_⟩
  tm_at "go"
  refine ⟨sm.1,sm.2.1,sm.2.2,a.pt,_,rfl,h1.pt,hs.1,hs.2.1,hs.2.2.1,hs.2.2.2,?_⟩
  rw [wth_kv]
  tm_at "go"
  refine ⟨a.o,C,trF a _,_,rfl,h1.o,k.cls,k.pt,rfl,?_⟩
  tm_at "go"
  refine set_dl h1.pt (Nat.lt_of_lt_of_le (Nat.lt_succ_of_le (show _<=10 by unfold ptKv;rw [List.length_map];exact h10)) (small (by decide))) ?_
  rw [put_kv x _ _ hx]
  tm_at "go"
  exact q2 e _ (h1.setPt rfl) (k1.trans (KeepT.put (by simp [TrA.fp])))
local macro_rules | `(tactic| tm_at $s:str)=>namT n_bm s
theorem ok_Traveller_take (F:Fun K "take" "Traveller.take" s_bm f fd) (k:TrK K C) (h_len:mg "len" = none) (C_may_do:CalM P w K mg base 2 C "may_do" (spMay C)) (C_stop:CalM P w K mg base 1 C "stop" (spStop C)):FnOk P w K mg base CX0 3 f fd P_bm (liftSp K (spTakeG C)):=by
 tm_at "F bm"
 obtain ⟨a,st,p,x,rfl,ht,hn,h10,hg,hx,q1,q2,q3⟩:=h
 tm_at "go"
 refine ⟨a.o,trF a st,rfl,ht.o,rfl,?_⟩
 tm_at "go"
 refine ⟨a,st,p,rfl,ht,hn,fun e M1 h1 k1=>?_,fun e M1 h1 k1=>?_⟩
 ·tm_at "go"
  exact q1 e M1 h1 k1
 ·tm_at "go"
  refine ⟨a.o,C,trF a _,_,rfl,h1.o,k.cls,k.gv,rfl,?_⟩
  tm_at "go"
  refine ⟨_,_,rfl,Or.inl ⟨_,h1.gv,rfl⟩,?_⟩
  tm_at "go"
  rw [List.length_map]
  cases hgv:st.gv with
  | nil =>
   refine ifDy (by simp [hgv]) ?_
   tm_at "go"
   refine ⟨a.o,trF a _,rfl,h1.o,rfl,?_⟩
   tm_at "go"
   refine ⟨a,_,_,p,rfl,h1,fun M2 h2 k2=>?_⟩
   tm_at "go"
   exact q2 e hgv M2 h2 (k1.trans k2)
  | cons g r =>
   refine ifDn (by simp [hgv];omega) ?_
   tm_at "go"
   refine ⟨a.o,C,trF a _,_,rfl,h1.o,k.cls,k.gv,rfl,?_⟩
   refine ⟨a.gv,rfl,⟨_,h1.gv⟩,?_⟩
   tm_at "go"
   refine ⟨_,0,0,frD g,rfl,h1.gv,Nat.le_trans (by rw [List.length_map];exact hg) (show 3000<=sizeLine by decide),ix_zero (by rw [List.length_map];show 0 < st.gv.length;rw [hgv];simp),by show (st.gv.map frD)[0]?=_;rw [hgv];rfl,?_⟩
   have e1:(st.gv.map frD).eraseIdx 0=r.map frD:=by rw [hgv];rfl
   have h2:=h1.setGv (gv:=r) e1
   have k2:=k1.trans (KeepT.put (M:=M1) (b:=a.gv) (o:=.lst ((st.gv.map frD).eraseIdx 0)) (a:=a) (by simp [TrA.fp]))
   generalize mset M1 a.gv _=M2 at h2 k2 ⊢
   tm_at "go"
   refine ⟨a.o,C,trF a _,_,rfl,h2.o,k.cls,k.pt,rfl,?_⟩
   tm_at "go"
   refine set_dl h2.pt (Nat.lt_of_lt_of_le (Nat.lt_succ_of_le (show _<=10 by unfold ptKv;rw [List.length_map];exact h10)) (small (by decide))) ?_
   rw [put_kv x _ _ hx]
   tm_at "go"
   exact q3 e g r hgv _ (h2.setPt rfl) (k2.trans (KeepT.put (by simp [TrA.fp])))
local macro_rules | `(tactic| tm_at $s:str)=>namT n_bk s
theorem ok_Traveller_fork (F:Fun K "fork" "Traveller.fork" s_bn f fd) (k:TrK K C) (h_len:mg "len" = none) (C_may_do:CalM P w K mg base 2 C "may_do" (spMay C)) (C_stop:CalM P w K mg base 1 C "stop" (spStop C)):FnOk P w K mg base CX0 3 f fd P_bn (liftSp K (spFork C)):=by
 tm_at "F bn"
 obtain ⟨a,st,p,rfl,ht,hn,hg,q1,q2,q3⟩:=h
 tm_at "go"
 refine ⟨a.o,trF a st,rfl,ht.o,rfl,?_⟩
 tm_at "go"
 refine ⟨a,st,p,rfl,ht,hn,fun e M1 h1 k1=>?_,fun e M1 h1 k1=>?_⟩
 ·tm_at "go"
  exact q1 e M1 h1 k1
 ·tm_at "go"
  refine ⟨a.o,C,trF a _,_,rfl,h1.o,k.cls,k.tu,rfl,?_⟩
  tm_at "go"
  refine ⟨_,_,rfl,Or.inl ⟨_,h1.tu,rfl⟩,?_⟩
  tm_at "go"
  rw [List.length_map]
  cases hgv:st.tu with
  | nil =>
   refine ifDy (by simp [hgv]) ?_
   tm_at "go"
   refine ⟨a.o,trF a _,rfl,h1.o,rfl,?_⟩
   tm_at "go"
   refine ⟨a,_,_,p,rfl,h1,fun M2 h2 k2=>?_⟩
   tm_at "go"
   exact q2 e hgv M2 h2 (k1.trans k2)
  | cons g r =>
   refine ifDn (by simp [hgv];omega) ?_
   tm_at "go"
   refine ⟨a.o,C,trF a _,_,rfl,h1.o,k.cls,k.tu,rfl,?_⟩
   refine ⟨a.tu,rfl,⟨_,h1.tu⟩,?_⟩
   tm_at "go"
   refine ⟨_,0,0,.int g,rfl,h1.tu,Nat.le_trans (by rw [List.length_map];exact hg) (show 3000<=sizeLine by decide),ix_zero (by rw [List.length_map];show 0 < st.tu.length;rw [hgv];simp),by show (st.tu.map D.int)[0]?=_;rw [hgv];rfl,?_⟩
   have e1:(st.tu.map D.int).eraseIdx 0=r.map D.int:=by rw [hgv];rfl
   exact q3 e g r hgv _ (h1.setTu e1) (k1.trans (KeepT.put (by simp [TrA.fp])))
local macro_rules | `(tactic| tm_at $s:str)=>namT n_bo s
theorem ok_Traveller_ask (F:Fun K "ask" "Traveller.ask" s_bo f fd) (k:TrK K C) (C_may_do:CalM P w K mg base 2 C "may_do" (spMay C)) (C_is_so:Cal P w K mg base 3 "is_so" spIsSo):FnOk P w K mg base CX0 4 f fd P_bo (liftSp K (spAsk C)):=by
 tm_at "F bo"
 obtain ⟨a,st,p,r,rfl,ht,hn,hrw,q1,q2⟩:=h
 tm_at "go"
 refine ⟨a.o,trF a st,rfl,ht.o,rfl,?_⟩
 tm_at "go"
 refine ⟨a,st,p,rfl,ht,hn,fun e M1 h1 k1=>?_,fun e M1 h1 k1=>?_⟩
 ·tm_at "go"
  exact q1 e M1 h1 k1
 ·tm_at "go"
  refine ⟨a.o,C,trF a _,_,rfl,h1.o,k.cls,k.pt,rfl,?_⟩
  tm_at "go"
  refine ⟨r.1,r.2.1,r.2.2,a.pt,_,rfl,h1.pt,hrw.1,hrw.2,?_⟩
  rw [so_kv]
  have q:=q2 e M1 h1 k1
  cases hb:soP st.pt r with
  | true =>
   rw [hb] at q
   tm_at "go"
   exact q
  | false =>
   rw [hb] at q
   tm_at "go"
   exact q
local macro_rules | `(tactic| tm_at $s:str)=>namT n_bp s
theorem ok_Traveller_note (F:Fun K "note" "Traveller.note" s_bp f fd) (k:TrK K C) (C_may_do:CalM P w K mg base 2 C "may_do" (spMay C)) (C_meets:CalM P w K mg base 4 C "meets" (spMeets C)) (C_passes:CalM P w K mg base 2 C "passes" (spPasses C)):FnOk P w K mg base CX0 5 f fd P_bp (liftSp K (spNote C)):=by
 tm_at "F bp"
 obtain ⟨a,st,p,rs,rfl,ht,hn,h300,hrw,h5,q1,q2,q3⟩:=h
 tm_at "go"
 refine ⟨a.o,trF a st,rfl,ht.o,rfl,?_⟩
 tm_at "go"
 refine ⟨a,st,p,rfl,ht,hn,fun e M1 h1 k1=>?_,fun e M1 h1 k1=>?_⟩
 ·tm_at "go"
  exact q1 e M1 h1 k1
 ·tm_at "go"
  refine ⟨a.o,trF a _,rfl,h1.o,rfl,?_⟩
  tm_at "go"
  refine ⟨a.o,trF a _,rfl,h1.o,rfl,?_⟩
  tm_at "go"
  refine ⟨a,_,rs,rfl,h1,hrw,h5,fun M2 x2=>?_⟩
  have h2:=h1.ext x2
  have k2:=k1.trans (KeepT.ext x2)
  tm_at "go"
  refine ⟨a,_,p,_,0,rfl,h2,h300,fun eg M3 h3 k3=>q2 e eg M3 h3 (k2.trans k3),fun eg r M3 hr3 hr4 h3 k3=>q3 e eg r M3 (k2.none h2 hr3) hr4 h3 (k2.trans k3)⟩
local macro_rules | `(tactic| tm_at "me")=>`(tactic| first
 | ((with_reducible show EV _ _ _ (Expr.Attribute _ _ _) _);(with_reducible refine' ev_fld ?_ ?n0);(case n0=>rfl))
 | ((with_reducible show EV _ _ _ (Expr.Call (Expr.Attribute _ "may_do" _) (_ :: _) [] _) _);(with_reducible refine' ev_meth ?n0 ?n1 ?n2 ?_ ?n3 ?n4 ?n5);(case n0=>exact C_may_do);(case n1=>exact hr);(case n2=>first | decide | omega);(case n3=>rfl);(case n4=>rfl);(case n5=>rfl))
 | ((with_reducible show EV _ _ _ (Expr.Call (Expr.Attribute _ "meets" _) (_ :: _) [] _) _);(with_reducible refine' ev_meth ?n0 ?n1 ?n2 ?_ ?n3 ?n4 ?n5);(case n0=>exact C_meets);(case n1=>exact hr);(case n2=>first | decide | omega);(case n3=>rfl);(case n4=>rfl);(case n5=>rfl))
 | ((with_reducible show EV _ _ _ (Expr.Call (Expr.Attribute _ "passes" _) (_ :: _) [] _) _);(with_reducible refine' ev_meth ?n0 ?n1 ?n2 ?_ ?n3 ?n4 ?n5);(case n0=>exact C_passes);(case n1=>exact hr);(case n2=>first | decide | omega);(case n3=>rfl);(case n4=>rfl);(case n5=>rfl))
 | ((with_reducible show EV _ _ _ (Expr.Call (Expr.Attribute _ "measured" _) (_ :: _) [] _) _);(with_reducible refine' ev_meth ?n0 ?n1 ?n2 ?_ ?n3 ?n4 ?n5);(case n0=>exact C_measured);(case n1=>exact hr);(case n2=>first | decide | omega);(case n3=>rfl);(case n4=>rfl);(case n5=>rfl))
 | ((with_reducible show EX _ _ _ (Stmt.Assign [Expr.Subscript _ (Expr.Name "place" _) _] _ _) _);(with_reducible refine' ex_asg ?_ ?n1 ?n2 ?n3);(case n1=>kernel_rfl);(case n2=>kernel_rfl);(case n3=>rfl))
 | ((with_reducible show GV _ _ _ (Expr.Subscript _ (Expr.Name "place" _) _) _ _);(with_reducible refine' gv_setT ?n1 ?_ ?n2);(case n1=>exact hr.units);(case n2=>(intro _;rfl)))
 | ((with_reducible show EV _ _ _ (Expr.Call (Expr.Attribute _ "get" _) [_] [] _) _);(with_reducible refine' ev_dget1T ?n0 ?_ ?n1);(case n0=>exact hr.units);(case n1=>exact ⟨rfl,rfl,rfl,rfl⟩)))
local macro_rules | `(tactic| tm_at "go")=>`(tactic| repeat first | tm_at "me" | tm_at "d" | refine exs_cons ?_)
local macro_rules | `(tactic| tm_at "tl")=>`(tactic| (
  cases ins with
  | false =>
   refine tv_of ?_ (by intro _;rfl)
   tm_at "go"
   have q:=q st.wo M (fun _=>rfl) ht (KeepT.refl a M)
   unfold msGood at q
   rw [el] at q
   exact q
  | true =>
   refine tv_of ?_ (by intro _;rfl)
   tm_at "go"
   refine ⟨a.o,C,trF a st,_,rfl,ht.o,k.cls,k.wo,rfl,?_⟩
   tm_at "go"
   refine ⟨a.wo,p,st.wo,rfl,rfl,ht.wo,Nat.lt_of_lt_of_le (Nat.lt_succ_of_le hl) (small (by decide)),?_⟩
   tm_at "go"
   show IxA (.tup [.int (wthP st.pt sm).1,.int (wthP st.pt sm).2]) _ _ _
   tm_at "go"
   have q:=q _ _ (fun _=>rfl) (ht.setW rfl) (KeepT.put (by simp [TrA.fp]))
   unfold msGood at q
   rw [el] at q
   exact q))
local macro_rules | `(tactic| tm_at $s:str)=>namT n_bs s
theorem ok_Traveller_measured (F:Fun K "measured" "Traveller.measured" s_bs f fd) (k:TrK K C) (C_worth:Cal P w K mg base 3 "worth" spWorth) (C_minus:Cal P w K mg base 3 "minus" (spArL gMinus)) (C_less:Cal P w K mg base 1 "less" spLessF):FnOk P w K mg base CX0 4 f fd P_bs (liftSp K (spMeasured C)):=by
 tm_at "F bs"
 obtain ⟨a,st,p,sm,fl,ins,rfl,ht,hs,hf,hwo,hl,q⟩:=h
 tm_at "go"
 refine ⟨a.o,C,trF a st,_,rfl,ht.o,k.cls,k.pt,rfl,?_⟩
 tm_at "go"
 refine ⟨sm.1,sm.2.1,sm.2.2,a.pt,_,rfl,ht.pt,hs.1,hs.2.1,hs.2.2.1,hs.2.2.2,?_⟩
 rw [wth_kv]
 have okw:=wth_ok hs
 tm_at "go"
 refine ⟨a.o,C,trF a st,_,rfl,ht.o,k.cls,k.wo,rfl,?_⟩
 refine ⟨a.wo,rfl,⟨_,ht.wo⟩,?_⟩
 tm_at "go"
 refine ⟨p,_,rfl,ht.wo,?_⟩
 rcases hwo.cases p with ⟨e1,e2⟩ | ⟨x,e1,e2,ok⟩
 ·rw [e1]
  rw [e2] at q
  have el:lateF none (wthP st.pt sm) fl=false:=rfl
  tm_at "go"
  tm_at "tl"
 ·rw [e1]
  rw [e2] at q
  tm_at "go"
  refine ⟨x.1,x.2,fl,1,rfl,ok.pos,by decide,ok.low,Int.gcd_one ..,B.up (by decide) ok.top,B.up (by decide) ok.bot,B.up (by decide) hf,by unfold B;decide,?_⟩
  tm_at "go"
  have h0:(gMinus x.1 x.2 fl 1).2≠0:=by show x.2 * 1≠0;have:=ok.pos;omega
  refine ⟨_,_,(wthP st.pt sm).1,(wthP st.pt sm).2,rfl,B.le (tp_le h0) (B.up (by decide) (B.sub (m:=24000) (B.up (by decide) (B.mul (n:=1) ok.top (by unfold B;decide))) (B.up (by decide) (B.mul hf ok.bot)))),B.le (bt_le h0) (B.up (by decide) (B.mul (n:=1) ok.bot (by unfold B;decide))),B.up (by decide) okw.top,B.up (by decide) okw.bot,?_⟩
  rw [late_is ok.pos okw.pos]
  cases el:lateF (some x) (wthP st.pt sm) fl with
  | true =>
   tm_at "go"
   have q:=q st.wo M (fun h=>by unfold msGood at h;rw [el] at h;cases h) ht (KeepT.refl a M)
   unfold msGood at q
   rw [el] at q
   exact q
  | false =>
   tm_at "go"
   tm_at "tl"
local macro_rules | `(tactic| tm_at "pq")=>`(tactic| (tm_at "go";refine tv_of ?_ (by intro _;rfl);tm_at "go"))
local macro_rules | `(tactic| tm_at "pf") => `(tactic| (
        tm_at "pq"
        refine ⟨a, _, p, _, _, rfl, h2, h300, fun eg M3 h3 k3 => q2 e gF _ M3 h3 (k2.trans k3), fun eg r M3 hr3 hr4 h3 k3 => by cases eg⟩))
 --odd
local macro_rules | `(tactic| tm_at "pz") => `(tactic| (
        rw [hi] at q2 q3
        intro ew
        tm_at "pq"
        refine ⟨a, _, p, _, _, rfl, h3, h300, fun eg M4 h4 k4 => q2 e eg wo M4 h4 ((k2.trans k3).trans k4), fun eg r4 M4 hr3 hr4 h4 k4 => ?_⟩
        have ew := ew eg
        subst ew
        have q := q3 e eg r4 M4 ((k2.trans k3).none h3 hr3) hr4 (by unfold hdWo; rw [hi]; exact h4) ((k2.trans k3).trans k4)
        exact q))
 --odd
local macro_rules | `(tactic| tm_at $s:str)=>namT n_br s
theorem ok_Traveller_head (F:Fun K "head" "Traveller.head" s_br f fd) (k:TrK K C) (C_may_do:CalM P w K mg base 2 C "may_do" (spMay C)) (C_is_so:Cal P w K mg base 3 "is_so" spIsSo) (C_meets:CalM P w K mg base 4 C "meets" (spMeets C)) (C_measured:CalM P w K mg base 4 C "measured" (spMeasured C)) (C_passes:CalM P w K mg base 2 C "passes" (spPasses C)):FnOk P w K mg base CX0 5 f fd P_br (liftSp K (spHead C)):=by
 tm_at "F br"
 obtain ⟨a,st,p,rs,ms,r,rfl,ht,hn,h300,hrw,h5,hrr,hms,hwo,hl,q1,q2,q3⟩:=h
 tm_at "go"
 refine ⟨a.o,trF a st,rfl,ht.o,rfl,?_⟩
 tm_at "go"
 refine ⟨a,st,p,rfl,ht,hn,fun e M1 h1 k1=>?_,fun e M1 h1 k1=>?_⟩
 ·tm_at "go"
  exact q1 e M1 h1 k1
 ·tm_at "go"
  refine ⟨a.o,C,trF a _,_,rfl,h1.o,k.cls,k.pt,rfl,?_⟩
  tm_at "go"
  refine ⟨r.1,r.2.1,r.2.2,a.pt,_,rfl,h1.pt,hrr.1,hrr.2,?_⟩
  rw [so_kv]
  tm_at "go"
  refine ⟨a.o,trF a _,rfl,h1.o,rfl,?_⟩
  tm_at "go"
  refine ⟨a,_,rs,rfl,h1,hrw,h5,fun M2 x2=>?_⟩
  have h2:=h1.ext x2
  have k2:=k1.trans (KeepT.ext x2)
  tm_at "go"
  cases hg:rs.all (soP st.pt) with
  | false =>
   have gF:hdGood st p rs r ms=false:=by unfold hdGood;split<;>rw [hg]<;>rfl
   refine tv_of ?_ (by intro _;rfl)
   tm_at "go"
   refine ⟨a.o,trF a _,rfl,h2.o,rfl,?_⟩
   cases hi:soP st.pt r with
   | false=>tm_at "pf"
   | true=>tm_at "pf"
  | true =>
   refine tv_of ?_ (by intro _;rfl)
   cases ms with
   | none =>
    rw [show msDk none=.non from rfl]
    have gT:hdGood st p rs r none=true:=hg
    tm_at "go"
    refine ⟨a.o,trF a _,rfl,h2.o,rfl,?_⟩
    cases hi:soP st.pt r with
    | false =>
     tm_at "pq"
     refine ⟨a,_,p,_,_,rfl,h2,h300,(fun eg=>by cases eg),fun eg r M3 hr3 hr4 h3 k3=>?_⟩
     have q:=q3 e gT r M3 (k2.none h2 hr3) hr4 h3 (k2.trans k3)
     rw [hi] at q
     exact q
    | true =>
     tm_at "pq"
     refine ⟨a,_,p,_,_,rfl,h2,h300,(fun eg=>by cases eg),fun eg r M3 hr3 hr4 h3 k3=>?_⟩
     have q:=q3 e gT r M3 (k2.none h2 hr3) hr4 h3 (k2.trans k3)
     rw [hi] at q
     exact q
   | some m =>
    rw [show msDk (some m)=.tup [smDk m.1,.int m.2] from rfl]
    tm_at "go"
    refine ⟨a.o,trF a _,rfl,h2.o,rfl,?_⟩
    tm_at "go"
    refine ⟨a,_,p,m.1,m.2,_,rfl,h2,hms.1,hms.2,hwo,hl,fun wo M3 ew h3 k3=>?_⟩
    tm_at "go"
    refine ⟨a.o,trF a _,rfl,h3.o,rfl,?_⟩
    have hG:hdGood st p rs r (some m)=msGood (knW st.wo p) (wthP st.pt m.1) m.2 (soP st.pt r):=by unfold hdGood;rw [hg];rfl
    rw [hG] at q2 q3
    revert ew
    cases hi:soP st.pt r with
    | false=>tm_at "pz"
    | true=>tm_at "pz"
local macro_rules | `(tactic| tm_at "fs")=>`(tactic| ((with_reducible refine' ex_fld ?_ ?n0);(case n0=>rfl)))
local macro_rules | `(tactic| tm_at $s:str)=>namT n_bg s
theorem ok_Traveller_init (F:Fun K "__init__" "Traveller.__init__" s_bg f fd) (k:TrK K C) (h_dict:mg "dict" = none) (h_list:mg "list" = none):FnOk P w K mg base CX0 1 f fd P_bg (liftSp K (spTrav C)):=by
 tm_at "F bg"
 obtain ⟨o,q0,tq,gq,kvs,pt,tu,gv,rfl,ho,hq,htq,hgq,hs,q⟩:=h
 have b0:=Bld.nil ho
 refine exs_cons ?_
 with_reducible refine' ex_for_tup ?n0 ?n1 ?_ ?n2
 case n0=>exact PassesOwn.never
 case n1=>rfl
 case n2=>(intro _;rfl)
 lk
 refine ⟨(pt.map (·.1)).map D.str,fun i G' M'=>∃ r5:Option D,G'=[some (.ref o),some (nms (pt.map (·.1))),some (.ref q0),some (.ref tq),some (.ref gq),r5]/\M'=M,rfl,⟨none,rfl,rfl⟩,?_,?_⟩
 ·rintro i d G' M' hx ⟨r5,rfl,rfl⟩
  obtain ⟨x,hx1,rfl⟩:=List.mem_map.mp (List.mem_of_getElem? hx)
  obtain ⟨y,hy,rfl⟩:=List.mem_map.mp hx1
  lk
  refine in_d hq ?_
  rw [hs.2.2 y hy]
  refine ifNT ?_
  lk
  exact ⟨_,rfl,rfl⟩
 ·rintro G' M' ⟨r5,rfl,rfl⟩
  refine exs_cons ?_
  tm_at "fs"
  with_reducible refine' ev_dictL ?n0 ?n1 ?_ ?n2 ?n3 ?n4
  case n0=>rfl
  case n1=>exact h_dict
  case n2=>rfl
  case n3=>rfl
  case n4=>rfl
  lk
  with_reducible refine' ev_comp_tup (own:=["name"]) (js:=[2]) (N:=["name", "start"]) ?T ?xe ?ca (stPair kvs) (fun _=>true) ?_ ?hs
  case T=>exact compOk_freeB (fs:=["start"]) rfl (by decide +kernel) (by decide +kernel) rfl rfl rfl rfl rfl
  case xe=>rfl
  case ca=>rfl
  case hs=>(intro _;rfl)
  lk
  refine ⟨_,rfl,small (by rw [List.length_map,List.length_map];have:=hs.2.1;omega),?_,fun q1 hq1=>?_⟩
  ·rintro Y ⟨C',s',H',fp,rfl⟩ M' hM d hd
   obtain ⟨x,hx1,rfl⟩:=List.mem_map.mp hd
   obtain ⟨y,hy,rfl⟩:=List.mem_map.mp hx1
   have nd2:(["name", "start"] : List Str).Nodup:=by decide +kernel
   refine gv_name 0 nd2 ?_
   refine ⟨rfl,fun i d e=>?_,tvs_nil ⟨rfl,rfl⟩,fun _=>?_⟩
   ·rcases i with _ | i
    ·simp [compG] at e
    ·exact e
   repeat first | ((with_reducible show EV _ _ _ (Expr.Name "name" _) _);refine ev_var 0 ?_) | ((with_reducible show EV _ _ _ (Expr.Name "start" _) _);refine ev_var 1 ?_) | k_go
   refine ix_ad (hM _ _ hq) (hs.2.2 y hy) ?_
   lk
   refine ⟨rfl,?_⟩
   unfold stPair
   show _=D3.pairD (y.1,(lkD kvs y.1).getD .non)
   rw [hs.2.2 y hy];rfl
  ·rw [stPair_all hs]
   have nt:tq≠o:=fun z=>by rw [z,ho] at htq;cases htq
   have ng:gq≠o:=fun z=>by rw [z,ho] at hgq;cases hgq
   have b1:=b0.ext (ext_new (o:=.lst ((ptKv pt).map D3.pairD)) hq1)
   have e1:mset M' q1 (.lst ((ptKv pt).map D3.pairD)) q1=some (.lst ((ptKv pt).map D3.pairD)):=mset_same
   generalize mset M' q1 (.lst ((ptKv pt).map D3.pairD))=M1 at b1 e1 ⊢
   lk
   refine ⟨q1,ptKv pt,rfl,e1,by unfold ptKv;rw [List.map_map];exact hs.1,fun c1 hc1=>?_⟩
   have b2:=b1.new hc1 (.dic (ptKv pt))
   generalize mset M1 c1 (.dic (ptKv pt))=M2 at b2 ⊢
   lk
   refine ⟨o,C,_,rfl,b2.ho,k.cls,k.pt,Nat.le_of_ble_eq_true rfl,?_⟩
   have b3:=b2.fld (fs':=[("point",.ref c1)])
   generalize hM3:mset M2 o _=M3
   have b3:Bld C o M' [("point",.ref c1)] _ M3:=hM3 ▸ b3
   clear hM3
   refine exs_cons ?_
   tm_at "fs"
   lk
   refine ⟨_,rfl,_,b3.kp _ _ nt htq,fun c2 hc2=>?_⟩
   have b4:=b3.new hc2 (.lst (tu.map D.int))
   generalize mset M3 c2 _=M4 at b4 ⊢
   lk
   refine ⟨o,C,_,rfl,b4.ho,k.cls,k.tu,Nat.le_of_ble_eq_true rfl,?_⟩
   generalize hM5:mset M4 o _=M5
   have b5:Bld C o M' [("point",.ref c1),("turns",.ref c2)] _ M5:=hM5 ▸ b4.fld
   clear hM5
   refine exs_cons ?_
   tm_at "fs"
   lk
   refine ⟨_,rfl,_,b5.kp _ _ ng hgq,fun c3 hc3=>?_⟩
   have b6:=b5.new hc3 (.lst (gv.map frD))
   generalize mset M5 c3 _=M6 at b6 ⊢
   lk
   refine ⟨o,C,_,rfl,b6.ho,k.cls,k.gv,Nat.le_of_ble_eq_true rfl,?_⟩
   generalize hM3:mset M6 o _=N3
   have d3:Bld C o M' [("point",.ref c1),("turns",.ref c2),("givens",.ref c3)] _ N3:=hM3 ▸ b6.fld
   clear hM3
   refine exs_cons ?_
   tm_at "fs"
   lk
   refine ⟨o,C,_,rfl,d3.ho,k.cls,k.n,Nat.le_of_ble_eq_true rfl,?_⟩
   generalize hM4:mset N3 o _=N4
   have d4:Bld C o M' [("point",.ref c1),("turns",.ref c2),("givens",.ref c3),("deeds",.int 0)] _ N4:=hM4 ▸ d3.fld
   clear hM4
   refine exs_cons ?_
   tm_at "fs"
   lk
   intro c4 hc4
   have b8:=d4.new hc4 (.lst [])
   generalize mset N4 c4 _=M8 at b8 ⊢
   lk
   refine ⟨o,C,_,rfl,b8.ho,k.cls,k.pa,Nat.le_of_ble_eq_true rfl,?_⟩
   generalize hM5:mset M8 o _=N5
   have d5:Bld C o M' [("point",.ref c1),("turns",.ref c2),("givens",.ref c3),("deeds",.int 0),("passed",.ref c4)] _ N5:=hM5 ▸ b8.fld
   clear hM5
   refine exs_cons ?_
   tm_at "fs"
   with_reducible refine ev_dnewT fun c5 hc5=>?_
   have b9:=d5.new hc5 (.tkd [])
   generalize mset N5 c5 _=M9 at b9 ⊢
   lk
   refine ⟨o,C,_,rfl,b9.ho,k.cls,k.wo,Nat.le_of_ble_eq_true rfl,?_⟩
   generalize hM6:mset M9 o _=N6
   have d6:Bld C o M' [("point",.ref c1),("turns",.ref c2),("givens",.ref c3),("deeds",.int 0),("passed",.ref c4),("worths",.ref c5)] _ N6:=hM6 ▸ b9.fld
   clear hM6
   refine exs_cons ?_
   tm_at "fs"
   lk
   refine ⟨o,C,_,rfl,d6.ho,k.cls,k.wd,Nat.le_of_ble_eq_true rfl,?_⟩
   generalize hM7:mset N6 o _=N7
   have d7:Bld C o M' [("point",.ref c1),("turns",.ref c2),("givens",.ref c3),("deeds",.int 0),("passed",.ref c4),("worths",.ref c5),("word",.str "done")] _ N7:=hM7 ▸ d6.fld
   clear hM7
   refine exs_cons ?_
   tm_at "fs"
   lk
   refine ⟨o,C,_,rfl,d7.ho,k.cls,k.pl,Nat.le_of_ble_eq_true rfl,?_⟩
   generalize hM8:mset N7 o _=N8
   have d8:Bld C o M' [("point",.ref c1),("turns",.ref c2),("givens",.ref c3),("deeds",.int 0),("passed",.ref c4),("worths",.ref c5),("word",.str "done"),("place",plcD [])] _ N8:=hM8 ▸ d7.fld
   clear hM8
   refine exs_nil ?_
   obtain ⟨z1,z2,z3⟩:=Bld.tr (a:=⟨o,c1,c2,c3,c4,c5⟩) (s:=tr0 pt tu gv) d8
   exact q _ _ rfl z1 z2 z3
local macro_rules | `(tactic| tm_at "d")=>`(tactic| ((with_reducible show EV _ _ _ (Expr.BinOp _ Operator.Add (Expr.Tuple _ _ _) _) _);with_reducible refine ev_addT ?_))
local macro_rules | `(tactic| tm_at $s:str)=>namT n_bc s
theorem ok_do_block {n k:Nat} (hk:1<=k) (F:Fun K "do_block" "do_block" s_bc f fd) (h_enumerate:mg "enumerate" = none) (hC:0 < n->Cal P w K mg base k "do_statement" (spDoS C n)):FnOk P w K mg base CX0 (k+1) f fd P_bc (liftSp K (spDoB C n)):=by
 tm_at "F bc"
 obtain ⟨ps,M0,a,s0,m,ss,b,pl,rfl,j,gd,hss,hw,hps,hpl,hdp,hln,q1,q2⟩:=h
 refine exs_cons ?_
 with_reducible refine' ex_for_enum ?_ ?_ ?_ ?_ ?g ?h ?i
 case g=>rfl
 case h=>rfl
 case i=>(intro _;rfl)
 ·exact PassesOwn.never
 ·rfl
 ·exact h_enumerate
 lk
 refine ⟨_,fun i G' M'=>∃ r3 r4 s' m',G'=[some (.ref a.o),some (pcD pl),some (.tup (stDs b)),r3,r4]/\Jw C ps M0 M' a s' m'/\Gdm ss m'/\(∀ o,Rn (.b (b.drop i) pl i) m' o->Rn (.b b pl 0) m o),rfl,⟨none,none,s0,m,rfl,j,gd,fun o h=>h⟩,?_,?_⟩
 ·rintro i d G' M' hd ⟨r3,r4,s1,m1,rfl,j1,g1,hR⟩
  rw [stDs_map,List.getElem?_map] at hd
  obtain ⟨x,hx,rfl⟩:=Option.map_eq_some_iff.mp hd
  have hmem:=List.mem_of_getElem? hx
  have hdst:=dps_mem hmem
  have hp1:1<=dp x:=by cases x<;>simp only [dp]<;>omega
  have C_do_statement:=hC (by omega)
  rw [drop_at hx] at hR
  lk
  rw [pcD_eq]
  lk
  refine ⟨_,_,rfl,rfl,small (by rw [List.length_map];show _+1<=1000;omega),?_⟩
  lk
  rw [pl_snoc']
  refine ⟨ps,M0,a,s1,m1,ss,x,pl++[i],rfl,j1,g1,hss,wfs_at hw hmem,fun y hy=>hps y (layB_at pl hx y (by rw [Nat.zero_add];exact hy)),hpl,by omega,by rw [List.length_append];show _+1+_<=_;omega,fun w' m' p hr M' s' je e1 e2=>?_,fun m' hr g' M' s' j'=>?_⟩
  ·lk
   exact q1 _ _ _ (hR _ (.bstop hr)) M' s' je e1 e2
  ·lk
   exact ⟨_,_,s',m',rfl,j',g',fun o h=>hR o (.bon hr h)⟩
 ·rintro G' M' ⟨r3,r4,s1,m1,rfl,j1,g1,hR⟩
  rw [stDs_map,List.length_map,List.drop_length] at hR
  lk
  exact q2 m1 (hR _ .nil) g1 M' s1 j1
local macro_rules | `(tactic| tm_at "d")=>`(tactic| ((with_reducible show EV _ _ _ (Expr.BinOp _ Operator.Add (Expr.Tuple _ _ _) _) _);with_reducible refine ev_addT ?_))
local macro_rules | `(tactic| tm_at $s:str)=>namT n_be s
theorem ok_do_one_of {n k:Nat} (hk:1<=k) (F:Fun K "do_one_of" "do_one_of" s_be f fd) (C_do_block:Cal P w K mg base k "do_block" (spDoB C n)):FnOk P w K mg base CX0 (k+1) f fd P_be (liftSp K (spDoO C n)):=by
 tm_at "F be"
 obtain ⟨a,pl,d,b0,b1,rfl,hln,⟨rfl,q⟩ | ⟨wy,b,ps,M0,s1,m,ss,rfl,hb,j,gd,hss,hw,hps,hpl,hdp,q⟩⟩:=h
 ·walk
  exact q
 ·repeat first | k_go | refine exs_cons ?_ | refine exs_nil ?_
  rw [pcD_eq]
  lk
  refine ⟨_,_,rfl,rfl,small (by rw [List.length_map];show _+1<=1000;omega),?_⟩
  lk
  rw [pl_snoc']
  refine ix_at (d:=.tup (stDs b)) (by rcases hb with ⟨rfl,rfl⟩ | ⟨rfl,rfl⟩<;>rfl) ?_
  lk
  exact ⟨ps,M0,a,s1,m,ss,b,pl++[wy],rfl,j,gd,hss,hw,hps,hpl,hdp,by rw [List.length_append];show _+1+_<=_;omega,q⟩
local macro_rules | `(tactic| tm_at "mc")=>`(tactic| ((case n1=>exact hr);(case n2=>first | decide | omega);(case n3=>rfl);(case n4=>rfl);(case n5=>rfl)))
local macro_rules | `(tactic| tm_at "me")=>`(tactic| first
 | ((with_reducible show EV _ _ _ (Expr.Call (Expr.Attribute _ "put" _) (_ :: _) [] _) _);(with_reducible refine' ev_meth ?n0 ?n1 ?n2 ?_ ?n3 ?n4 ?n5);(case n0=>exact C_put);tm_at "mc")
 | ((with_reducible show EV _ _ _ (Expr.Call (Expr.Attribute _ "take" _) (_ :: _) [] _) _);(with_reducible refine' ev_meth ?n0 ?n1 ?n2 ?_ ?n3 ?n4 ?n5);(case n0=>exact C_take);tm_at "mc")
 | ((with_reducible show EV _ _ _ (Expr.Call (Expr.Attribute _ "note" _) (_ :: _) [] _) _);(with_reducible refine' ev_meth ?n0 ?n1 ?n2 ?_ ?n3 ?n4 ?n5);(case n0=>exact C_note);tm_at "mc")
 | ((with_reducible show EV _ _ _ (Expr.Call (Expr.Attribute _ "fork" _) (_ :: _) [] _) _);(with_reducible refine' ev_meth ?n0 ?n1 ?n2 ?_ ?n3 ?n4 ?n5);(case n0=>exact C_fork);tm_at "mc")
 | ((with_reducible show EV _ _ _ (Expr.Call (Expr.Attribute _ "ask" _) (_ :: _) [] _) _);(with_reducible refine' ev_meth ?n0 ?n1 ?n2 ?_ ?n3 ?n4 ?n5);(case n0=>exact C_ask);tm_at "mc")
 | with_reducible refine ev_isnot ?_)
local macro_rules | `(tactic| tm_at "go")=>`(tactic| repeat first | tm_at "me" | tm_at "d" | refine ifDn (by decide +kernel) ?_ | refine ifDy rfl ?_ | with_reducible refine exs_nil ?_ | refine exs_cons ?_)
local macro_rules | `(tactic| tm_at "cut")=>`(tactic| (refine ev_slice sl_all ?_;tm_at "go";refine ov_some ?_;tm_at "go";refine ov_none ?_;refine rs_tupA rfl ?_;tm_at "go"))
local macro_rules | `(tactic| tm_at $s:str)=>namT n_bd s
theorem ok_do_statement {n k:Nat} (hk:6<=k) (F:Fun K "do_statement" "do_statement" s_bd f fd) (C_put:CalM P w K mg base 4 C "put" (spPut C)) (C_take:CalM P w K mg base 3 C "take" (spTakeG C)) (C_note:CalM P w K mg base 5 C "note" (spNote C)) (C_fork:CalM P w K mg base 3 C "fork" (spFork C)) (C_ask:CalM P w K mg base 4 C "ask" (spAsk C)) (C_do_one_of:Cal P w K mg base k "do_one_of" (spDoO C n)) (C_do_loop:Cal P w K mg base k "do_loop" (spDoL C n)):FnOk P w K mg base CX0 (k+1) f fd P_bd (liftSp K (spDoS C (n+1))):=by
 tm_at "F bd"
 obtain ⟨ps,M0,a,s1,m,ss,st,pl,rfl,j,gd,hss,hw,hps,hpl,hdp,hln,q1,q2⟩:=h
 have mo:=gd.mc hss
 have hp:pcI pl∈ps:=hps _ (lay_self pl st)
 rw [pcD_pl]
 cases st with
 | set x sm =>
  simp only [wf] at hw
  have hi:InsS ss (.set (pcI pl) x sm):=⟨hw.1,SmS.of hss hw.2⟩
  rw [st_set]
  tm_at "go"
  refine ⟨a.o,trF a s1,rfl,j.j.e.ok.o,rfl,?_⟩
  tm_at "go"
  refine jw_put j mo hp (gd.ins hi) ⟨fun w' m' p e M' s' je e1 e2=>?_,fun m' wy hwy e M' s' jj=>?_⟩
  ·tm_at "go"
   exact q1 _ _ _ (.lstop rfl (e 0)) M' s' je e1 e2
  ·obtain rfl:wy=0:=hwy.elim id fun h=>nomatch h.2
   tm_at "go"
   exact q2 m' (.lon rfl (e 0)) (gd.stp hi (e 0)) M' s' jj
 | any x =>
  simp only [wf] at hw
  have hi:InsS ss (.any (pcI pl) x):=hw
  rw [st_any]
  tm_at "go"
  refine ⟨a.o,trF a s1,rfl,j.j.e.ok.o,rfl,?_⟩
  tm_at "go"
  refine jw_take j mo hp (gd.ins hi) ⟨fun w' m' p e M' s' je e1 e2=>?_,fun m' wy hwy e M' s' jj=>?_⟩
  ·tm_at "go"
   exact q1 _ _ _ (.lstop rfl (e 0)) M' s' je e1 e2
  ·obtain rfl:wy=0:=hwy.elim id fun h=>nomatch h.2
   tm_at "go"
   exact q2 m' (.lon rfl (e 0)) (gd.stp hi (e 0)) M' s' jj
 | note rs =>
  simp only [wf] at hw
  have hi:InsS ss (.note (pcI pl) rs):=⟨fun r hr=>RwS.of hss (hw.1 r hr),by have:=hw.2.2;omega⟩
  rw [st_note]
  tm_at "go"
  refine ⟨a.o,trF a s1,rfl,j.j.e.ok.o,rfl,?_⟩
  tm_at "go"
  refine jw_note j mo hp (gd.ins hi) ⟨fun w' m' p e M' s' je e1 e2=>?_,fun m' wy hwy e M' s' jj=>?_⟩
  ·tm_at "go"
   exact q1 _ _ _ (.lstop rfl (e 0)) M' s' je e1 e2
  ·obtain rfl:wy=0:=hwy.elim id fun h=>nomatch h.2
   tm_at "go"
   exact q2 m' (.lon rfl (e 0)) (gd.stp hi (e 0)) M' s' jj
 | choose b0 b1 =>
  simp only [wf] at hw
  simp only [dp] at hdp
  have hi:InsS ss (.fork (pcI pl) 2):=trivial
  rw [st_choose]
  tm_at "go"
  refine ⟨a.o,trF a s1,rfl,j.j.e.ok.o,rfl,?_⟩
  tm_at "go"
  refine jw_fork (to:=2) j mo hp ⟨fun w' m' p e M' s' je e1 e2=>?_,fun m' wy hwy e M' s' jj=>?_⟩
  ·tm_at "go"
   tm_at "cut"
   exact ⟨a,pl,.non,b0,b1,by rw [pcD_pl];rfl,by omega,.inl ⟨rfl,q1 _ _ _ (.fstop rfl (e 0)) M' s' je e1 e2⟩⟩
  ·tm_at "go"
   tm_at "cut"
   refine ⟨a,pl,.int wy,b0,b1,by rw [pcD_pl];rfl,by omega,.inr ⟨wy,if wy=0 then b0 else b1,ps,M0,s',m',ss,rfl,?_,jj,gd.stp hi (e 0),hss,?_,?_,hpl,?_,?_⟩⟩<;>rcases hwy with rfl | ⟨rfl,_⟩
   ·exact .inl ⟨rfl,rfl⟩
   ·exact .inr ⟨rfl,rfl⟩
   ·exact hw.1
   ·exact hw.2
   ·exact fun x hx=>hps x (by simp only [lay];exact .tail _ (List.mem_append_left _ hx))
   ·exact fun x hx=>hps x (by simp only [lay];exact .tail _ (List.mem_append_right _ hx))
   ·show dps b0<=n;omega
   ·show dps b1<=n;omega
   ·exact ⟨fun w2 m2 p2 hr M' s' je e1 e2=>q1 _ _ _ (.f0 rfl (e 0) hr) M' s' je e1 e2,fun m2 hr g2 M' s' jj=>q2 m2 (.f0 rfl (e 0) hr) g2 M' s' jj⟩
   ·exact ⟨fun w2 m2 p2 hr M' s' je e1 e2=>q1 _ _ _ (.f1 rfl (e 0) hr) M' s' je e1 e2,fun m2 hr g2 M' s' jj=>q2 m2 (.f1 rfl (e 0) hr) g2 M' s' jj⟩
 | ite r b0 b1 =>
  simp only [wf] at hw
  simp only [dp] at hdp
  have hi:InsS ss (.unl (pcI pl) r 2):=RwS.of hss hw.1
  rw [st_ite]
  tm_at "go"
  refine ⟨a.o,trF a s1,rfl,j.j.e.ok.o,rfl,?_⟩
  tm_at "go"
  refine jw_ask (to:=2) j mo hp (gd.ins hi) ⟨fun w' m' p e M' s' je e1 e2=>?_,fun m' wy hwy e M' s' jj=>?_⟩
  ·tm_at "go"
   tm_at "cut"
   exact ⟨a,pl,.non,b0,b1,by rw [pcD_pl];rfl,by omega,.inl ⟨rfl,q1 _ _ _ (.fstop rfl (e 0)) M' s' je e1 e2⟩⟩
  ·tm_at "go"
   tm_at "cut"
   refine ⟨a,pl,.int wy,b0,b1,by rw [pcD_pl];rfl,by omega,.inr ⟨wy,if wy=0 then b0 else b1,ps,M0,s',m',ss,rfl,?_,jj,gd.stp hi (e 0),hss,?_,?_,hpl,?_,?_⟩⟩<;>rcases hwy with rfl | ⟨rfl,_⟩
   ·exact .inl ⟨rfl,rfl⟩
   ·exact .inr ⟨rfl,rfl⟩
   ·exact hw.2.1
   ·exact hw.2.2
   ·exact fun x hx=>hps x (by simp only [lay];exact .tail _ (List.mem_append_left _ hx))
   ·exact fun x hx=>hps x (by simp only [lay];exact .tail _ (List.mem_append_right _ hx))
   ·show dps b0<=n;omega
   ·show dps b1<=n;omega
   ·exact ⟨fun w2 m2 p2 hr M' s' je e1 e2=>q1 _ _ _ (.f0 rfl (e 0) hr) M' s' je e1 e2,fun m2 hr g2 M' s' jj=>q2 m2 (.f0 rfl (e 0) hr) g2 M' s' jj⟩
   ·exact ⟨fun w2 m2 p2 hr M' s' je e1 e2=>q1 _ _ _ (.f1 rfl (e 0) hr) M' s' je e1 e2,fun m2 hr g2 M' s' jj=>q2 m2 (.f1 rfl (e 0) hr) g2 M' s' jj⟩
 | whl r rs ms b =>
  simp only [dp] at hdp
  have e0:=st_whl r rs ms b
  rw [e0]
  tm_at "go"
  exact ⟨ps,M0,a,s1,m,ss,r,rs,ms,b,pl,by rw [e0,pcD_pl],j,gd,hss,hw,hps,hpl,by omega,by omega,q1,q2⟩
local macro_rules | `(tactic| tm_at "mc")=>`(tactic| ((case n1=>exact hr);(case n2=>first | decide | omega);(case n3=>rfl);(case n4=>rfl);(case n5=>rfl)))
local macro_rules | `(tactic| tm_at "d")=>`(tactic| ((with_reducible show EV _ _ _ (Expr.BinOp _ Operator.Add (Expr.Tuple _ _ _) _) _);with_reducible refine ev_addT ?_))
local macro_rules | `(tactic| tm_at "me")=>`(tactic| first
 | ((with_reducible show EV _ _ _ (Expr.Call (Expr.Attribute _ "head" _) (_ :: _) [] _) _);(with_reducible refine' ev_meth ?n0 ?n1 ?n2 ?_ ?n3 ?n4 ?n5);(case n0=>exact C_head);tm_at "mc")
 | ((with_reducible show EV _ _ _ (Expr.Call (Expr.Attribute _ "enter" _) (_ :: _) [] _) _);(with_reducible refine' ev_meth ?n0 ?n1 ?n2 ?_ ?n3 ?n4 ?n5);(case n0=>exact C_enter);tm_at "mc"))
local macro_rules | `(tactic| tm_at "go")=>`(tactic| repeat first | tm_at "me" | tm_at "d" | with_reducible refine exs_nil ?_ | refine exs_cons ?_)
local macro_rules | `(tactic| tm_at $s:str)=>namT n_bf s
theorem ok_do_loop {n k:Nat} (hk:6<=k) (F:Fun K "do_loop" "do_loop" s_bf f fd) (C_enter:CalM P w K mg base 1 C "enter" (spEnter C)) (C_head:CalM P w K mg base 5 C "head" (spHead C)) (C_do_block:Cal P w K mg base k "do_block" (spDoB C n)):FnOk P w K mg base CX0 (k+1) f fd P_bf (liftSp K (spDoL C n)):=by
 tm_at "F bf"
 obtain ⟨ps,M0,a,s1,m,ss,r,rs,ms,b,pl,rfl,j,gd,hss,hw,hps,hpl,hdp,hln,q1,q2⟩:=h
 have hw':=hw
 simp only [wf] at hw'
 have hp:pcI pl∈ps:=hps (pl,_) (by simp only [lay];exact .head _)
 have hi:InsS ss (.head (pcI pl) rs ms r 2):=⟨fun x hx=>RwS.of hss (hw'.2.1 x hx),by have:=hw'.2.2.1;omega,RwS.of hss hw'.1,MsS.of hss hw'.2.2.2.1⟩
 rw [pcD_pl,st_whl]
 refine exs_cons ?_
 tm_at "go"
 refine ⟨a.o,trF a s1,rfl,j.j.e.ok.o,rfl,?_⟩
 tm_at "go"
 refine jw_enter j hpl hp fun M1 s2 j2=>?_
 tm_at "go"
 refine ex_whileN (fun k G' M'=>∃ r3 s' m',G'=[some (.ref a.o),some (plcD (pcI pl)),some (.tup [.str "while",rwDk r,.tup (rs.map rwDk),msDk ms,.tup (stDs b)]),r3]/\Jw C ps M0 M' a s' m'/\Gdm ss m'/\300 - m'.n < k/\(∀ o,Rn (.l r rs ms b pl) m' o->Rn (.s (.whl r rs ms b) pl) m o)) 301 PassesOwn.never ⟨none,s2,entM m (pcI pl),rfl,j2,gd.ent _,by omega,fun o h=>.whl h⟩ ?_
 rintro kk G' M' ⟨r3,s3,m3,rfl,j3,g3,hk3,hR⟩
 refine tv_of ?_ (by intro _;rfl)
 tm_at "go"
 refine ⟨a.o,trF a s3,rfl,j3.j.e.ok.o,rfl,?_⟩
 tm_at "go"
 refine jw_head (to:=2) j3 (g3.mc hss) hpl hp (g3.ins hi) ⟨fun w' m' p e M4 s4 je e1 e2=>?_,fun m4 wy hwy e M4 s4 j4=>?_⟩
 ·tm_at "go"
  exact q1 _ _ _ (hR _ (.hstop (e 0))) M4 s4 je e1 e2
 ·have g4:=g3.stp hi (e 0)
  have n4:=(stp_n (e 0)).2 rfl
  have n3:=g4.n
  rcases hwy with rfl | ⟨rfl,_⟩
  ·tm_at "go"
   refine ifDn (by decide) ?_
   tm_at "go"
   rw [show plcD (pcI pl)=.tup (pl.map fun n:Nat=>D.int n) from (pcD_pl pl).symm]
   tm_at "go"
   refine ⟨_,_,rfl,rfl,small (by rw [List.length_map];show _+1<=1000;omega),?_⟩
   tm_at "go"
   rw [show D.tup ((pl.map fun n:Nat=>D.int n)++[.int 0])=pcD (pl++[0]) from pl_snoc' pl 0]
   refine ⟨ps,M0,a,s4,m4,ss,b,pl++[0],rfl,j4,g4,hss,hw'.2.2.2.2,fun x hx=>hps x (by simp only [lay];exact .tail _ hx),hpl,hdp,by rw [List.length_append];show _+1+_<=_;omega,fun w' m' p hr M5 s5 je e1 e2=>?_,fun m5 hr g5 M5 s5 j5=>?_⟩
   ·tm_at "go"
    exact q1 _ _ _ (hR _ (.hin0 (e 0) hr)) M5 s5 je e1 e2
   ·tm_at "go"
    have n5:m4.n<=m5.n:=rn_n hr
    exact ⟨300 - m3.n,hk3,_,s5,m5,rfl,j5,g5,by omega,fun o h=>hR o (.hin1 (e 0) hr h)⟩
  ·tm_at "go"
   exact q2 m4 (hR _ (.hout (e 0))) g4 M4 s4 j4
local macro_rules | `(tactic| tm_at "mc")=>`(tactic| ((case n1=>exact hr);(case n2=>first | decide | omega);(case n3=>rfl);(case n4=>rfl);(case n5=>rfl)))
local macro_rules | `(tactic| tm_at "me")=>`(tactic| first
 | ((with_reducible show EV _ _ _ (Expr.Call (Expr.Name "Traveller" _) (_ :: _) [] _) _);(with_reducible refine' ev_new ?n0 ?n1 ?n2 ?_ ?n3 ?n4 ?n5 ?n6);(case n0=>exact hK);(case n1=>exact hr);(case n2=>first | decide | omega);(case n3=>rfl);(case n4=>decide);(case n5=>rfl);(case n6=>rfl))
 | ((with_reducible show EV _ _ _ (Expr.Call (Expr.Attribute _ "meets" _) (_ :: _) [] _) _);(with_reducible refine' ev_meth ?n0 ?n1 ?n2 ?_ ?n3 ?n4 ?n5);(case n0=>exact C_meets);tm_at "mc")
 | ((with_reducible show EV _ _ _ (Expr.Call (Expr.Attribute _ "stop" _) (_ :: _) [] _) _);(with_reducible refine' ev_meth ?n0 ?n1 ?n2 ?_ ?n3 ?n4 ?n5);(case n0=>exact C_stop);tm_at "mc")
 | ((with_reducible show EV _ _ _ (Expr.Call (Expr.Attribute _ "told" _) [] [] _) _);(with_reducible refine' ev_meth0 ?n0 ?n1 ?n2 ?_ ?n3);(case n0=>exact C_told);(case n1=>exact hr);(case n2=>first | decide | omega);(case n3=>rfl)))
local macro_rules | `(tactic| tm_at "go")=>`(tactic| repeat first | tm_at "me" | tm_at "d" | refine exs_cons ?_)
local macro_rules | `(tactic| tm_at $s:str)=>namT n_bb s
theorem ok_run (F:Fun K "run" "run" s_bb f fd) (hK:Kls P w K mg base 1 "Traveller" C (spTrav C)) (C_must_plan:Cal P w K mg base 6 "must_plan" spMustPlan) (C_meets:CalM P w K mg base 4 C "meets" (spMeets C)) (C_stop:CalM P w K mg base 1 C "stop" (spStop C)) (C_told:CalM P w K mg base 1 C "told" (spTold C)) (C_do_block:Cal P w K mg base 18 "do_block" (spDoB C 4)):FnOk P w K mg base CX0 19 f fd P_bb (liftSp K spRun9):=by
 tm_at "F bb"
 obtain ⟨p,q0,tq,gq,kvs,pt,tu,gv,rfl,hp,hpt,hq,htq,hgq,hs,g0,qr⟩:=h
 have h3:=hp.names.le
 refine exs_cons ?_
 tm_at "go"
 refine ⟨p,rfl,hp,fun M1 x1=>?_⟩
 unfold plD
 tm_at "go"
 intro o ho
 have ne:∀ {c:Addr} {u:MO},M c=some u->c≠o:=fun {c u} e z=>by have:=x1 _ _ e;rw [z,ho] at this;cases this
 refine ⟨o,q0,tq,gq,kvs,pt,tu,gv,by rw [hpt],mset_same,by rw [mset_ne (ne hq)];exact x1 _ _ hq,by rw [mset_ne (ne htq)];exact x1 _ _ htq,by rw [mset_ne (ne hgq)];exact x1 _ _ hgq,hs,fun a M2 ea t1 k1 f1=>⟨rfl,?_⟩⟩
 subst ea
 have fr1:∀ b∈a.fp,M1 b=none:=fun b hb=>by
  by_cases z:b=a.o
  ·rw [z];exact ho
  ·have:=f1 b hb z;rw [mset_ne z] at this;exact this
 have fr:∀ b∈a.fp,M b=none:=fun b hb=>none_of x1 (fr1 b hb)
 have x2:Ext M M2:=fun c u e=>k1 c u (fun z=>by rw [fr c z] at e;cases e) (by rw [mset_ne (ne e)];exact x1 _ _ e)
 have jw:=jw0 (ps:=psB p.bl) t1 x2 fr
 clear k1 f1 t1
 tm_at "go"
 refine ⟨a.o,trF a (tr0 pt tu gv),rfl,jw.j.e.ok.o,rfl,?_⟩
 tm_at "go"
 refine ⟨a,tr0 pt tu gv,p.rs,rfl,jw.j.e.ok,fun r hr=>RwG.ok (n:=0) (pt:=pt) g0.b (by decide) (by have:=RwS.of h3 (hp.rs r hr);rw [<- hpt] at this;exact this),by have:=hp.rl;omega,fun M3 x3=>?_⟩
 cases hm:p.rs.all (soP pt) with
 | true =>
  rw [show p.rs.all (soP (tr0 pt tu gv).pt)=true from hm]
  tm_at "go"
  have j3:Jw C (psB p.bl) M M3 a (tr0 pt tu gv) (mc0 pt tu gv):=⟨⟨jw.j.e.step (jw.j.e.ok.ext x3) (KeepT.ext x3) rfl rfl,rfl,rfl,rfl,jw.j.kn,jw.j.wo,jw.j.le⟩,jw.wk,jw.wd,jw.pl⟩
  refine ⟨psB p.bl,M,a,tr0 pt tu gv,mc0 pt tu gv,p.ss,p.bl,[],rfl,j3,g0,h3,hp.bl,psB_in p.bl,psB_len hp.cs,dps_le hp.dp,by decide,fun w' m' p' hR M4 s4 je e1 e2=>?_,fun m' hR g4 M4 s4 j4=>?_⟩
  ·tm_at "go"
   refine ⟨a.o,trF a s4,rfl,je.ok.o,rfl,?_⟩
   refine ⟨a,s4,rfl,je.ok,fun r hr'=>?_⟩
   rw [e1,e2]
   exact qr w' m' p' (by unfold Rf;rw [if_pos (show p.rs.all (soP (mc0 pt tu gv).pt)=true from hm)];exact .inl hR) a.pa r s4.pa _ (je.told hr')
  ·tm_at "go"
   refine ⟨a.o,trF a s4,rfl,j4.j.e.ok.o,rfl,?_⟩
   refine ⟨a,s4,rfl,j4.j.e.ok,fun r hr'=>?_⟩
   rw [j4.wd,j4.pl]
   exact qr _ m' [] (by unfold Rf;rw [if_pos (show p.rs.all (soP (mc0 pt tu gv).pt)=true from hm)];exact .inr ⟨hR,rfl,rfl⟩) a.pa r s4.pa _ (j4.j.e.told hr')
 | false =>
  rw [show p.rs.all (soP (tr0 pt tu gv).pt)=false from hm]
  tm_at "go"
  have t3:=jw.j.e.ok.ext x3
  refine ⟨a.o,trF a (tr0 pt tu gv),rfl,t3.o,rfl,?_⟩
  tm_at "go"
  refine ⟨a,tr0 pt tu gv,Str.ofString "unmet",[],rfl,t3,fun M4 t4 k4=>?_⟩
  tm_at "go"
  refine ⟨a.o,_,rfl,t4.o,rfl,?_⟩
  refine ⟨a,_,rfl,t4,fun r hr'=>?_⟩
  have je:JnE C M M4 a { tr0 pt tu gv with wd:=Str.ofString "unmet",pl:=[] } (mc0 pt tu gv).pt (mc0 pt tu gv).pa:=(jw.j.e.step t3 (KeepT.ext x3) rfl rfl).step t4 k4 rfl rfl
  exact qr _ (mc0 pt tu gv) [] (by unfold Rf;rw [if_neg (by rw [show p.rs.all (soP (mc0 pt tu gv).pt)=false from hm];decide)];exact ⟨rfl,rfl,rfl⟩) a.pa r _ _ (je.told hr')
end
section
variable {P:Program} {w:World} {K:PySem.W.Frag} {mg:Str->Option Value} {base:Heap} {f:Addr} {fd:FuncData}
local macro_rules | `(tactic| tm_at "me")=>`(tactic| first
 | ((with_reducible show TV _ _ _ (Expr.Compare (Expr.Subscript _ (Expr.Constant (Const.int 1) _ _) _) [CmpOp.NotEq] [_] _) _);(with_reducible refine tv_neS ?n0 ?_);(case n0=>exact hr.units))
 | ((with_reducible show EV _ _ _ (Expr.Compare (Expr.Name _ _) [CmpOp.Eq] [Expr.Name _ _] _) _);(with_reducible refine ev_eqS ?n0 ?_);(case n0=>exact hr.units)))
local macro_rules | `(tactic| tm_at "go")=>`(tactic| repeat first | tm_at "me" | tm_at "d" | refine exs_cons ?_ | refine exs_nil ?_)
local macro_rules | `(tactic| tm_at $s:str)=>namT n_cq s
theorem ok_l_good (F:Fun K "_law_good" "_law_good" s_cq f fd) (h_len:mg "len" = none) (C_run:Cal P w K mg base 19 "run" spRun9) (C_l_at:Cal P w K mg base 5 "_law_at" (spAt 4)):FnOk P w K mg base CX0 20 f fd P_cq (liftSp K spGood9):=by
 tm_at "F cq"
 obtain ⟨p,sq,tq,gq,c,pt,tu,gv,rfl,hp,ept,hpt,hs,ht,hg,h01,ltu,hgv,lgv,hc,q⟩:=h
 have bc:=hc.bd
 have h3:=hp.names.le
 have ndp:(pt.map (·.1)).Nodup:=by rw [ept];exact hp.names.nodup
 have lpt:pt.length<=3:=by have:=congrArg List.length ept;rw [List.length_map] at this;omega
 have hst:StOk (ptKv pt) pt:=⟨ndp,by omega,fun x hx=>lk_pt0 ndp hx⟩
 have gd:=gd0 ept hpt (Nat.le_trans ltu (by decide)) (Nat.le_trans lgv (by decide)) h01 hgv
 refine exs_cons ?_
 tm_at "go"
 refine ⟨p,sq,tq,gq,ptKv pt,pt,tu,gv,rfl,hp,ept,hs,ht,hg,hst,gd,fun w1 m1 p1 e1 l1 r1 xs1 M1 t1=>?_⟩
 have x1:=t1.ext
 tm_at "go"
 refine ev_slice sl_list ?_
 tm_at "go"
 refine ov_none ?_
 refine ov_some ?_
 tm_at "go"
 refine ⟨_,_,rfl,.inl ⟨_,x1 _ _ ht,rfl⟩,?_⟩
 rw [List.length_map]
 tm_at "go"
 have zt:=fmod_lt (a:=c) (b:=(tu.length:Int)+1) (by omega)
 generalize c.fmod ((tu.length:Int)+1)=k1 at *
 obtain ⟨k1,rfl⟩:=Int.eq_ofNat_of_zero_le zt.1
 refine rs_list rfl (Or.inl (x1 _ _ ht)) fun a1 ha1=>?_
 rw [cut_upto,<- List.map_take]
 have x2:=ext_new (o:=.lst ((tu.take k1).map D.int)) ha1
 have m2:mset M1 a1 (.lst ((tu.take k1).map D.int)) a1=_:=mset_same
 generalize mset M1 a1 _=M2 at x2 m2 ⊢
 tm_at "go"
 refine ev_slice sl_list ?_
 tm_at "go"
 refine ov_none ?_
 refine ov_some ?_
 tm_at "go"
 refine ⟨_,_,rfl,.inl ⟨_,x2 _ _ (x1 _ _ hg),rfl⟩,?_⟩
 rw [List.length_map]
 tm_at "go"
 have zg:=fmod_lt (a:=c.fdiv 30) (b:=(gv.length:Int)+1) (by omega)
 generalize (c.fdiv 30).fmod ((gv.length:Int)+1)=k2 at *
 obtain ⟨k2,rfl⟩:=Int.eq_ofNat_of_zero_le zg.1
 refine rs_list rfl (Or.inl (x2 _ _ (x1 _ _ hg))) fun a2 ha2=>?_
 rw [cut_upto,<- List.map_take]
 have x3:=ext_new (o:=.lst ((gv.take k2).map frD)) ha2
 have m3:mset M2 a2 (.lst ((gv.take k2).map frD)) a2=_:=mset_same
 generalize mset M2 a2 _=M3 at x3 m3 ⊢
 have x13:=Ext.trans x2 x3
 have gd2:=gd0 ept hpt (tu:=tu.take k1) (gv:=gv.take k2) (by rw [List.length_take];omega) (by rw [List.length_take];omega) (fun x hx=>h01 x (List.mem_of_mem_take hx)) (fun x hx=>hgv x (List.mem_of_mem_take hx))
 tm_at "go"
 refine ⟨p,sq,a1,a2,ptKv pt,pt,tu.take k1,gv.take k2,rfl,hp,ept,x13 _ _ (x1 _ _ hs),x3 _ _ m2,m3,hst,gd2,fun w2 m2' p2 e2 l2 r2 xs2 M4 t2=>?_⟩
 have x4:=t2.ext
 have x14:=Ext.trans x13 x4
 have ge:Ge (mc0 pt tu gv) (mc0 pt (tu.take k1) (gv.take k2)):=⟨rfl,rfl,rfl,rfl,⟨tu.drop k1,(List.take_append_drop ..).symm⟩,⟨gv.drop k2,(List.take_append_drop ..).symm⟩⟩
 obtain ⟨hpre,hcase⟩:=rf_lt ge e1 e2
 have pa1:PaIs M4 xs1 m1.pa:=t1.pa.keep fun _ _ _ e=>x14 _ _ e
 tm_at "go"
 refine ev_slice sl_list ?_
 tm_at "go"
 refine ov_none ?_
 refine ov_some ?_
 tm_at "go"
 refine ⟨_,_,rfl,.inl ⟨_,t2.hl,rfl⟩,?_⟩
 rw [List.length_map]
 tm_at "go"
 refine rs_list rfl (Or.inl (x14 _ _ t1.hl)) fun a3 ha3=>?_
 rw [cut_upto,<- List.map_take]
 have x5:=ext_new (o:=.lst ((xs1.take xs2.length).map pasD)) ha3
 have m5:mset M4 a3 (.lst ((xs1.take xs2.length).map pasD)) a3=_:=mset_same
 generalize mset M4 a3 _=M5 at x5 m5 ⊢
 have pa5:PaIs M5 (xs1.take xs2.length) m2'.pa:=by
  have h1:=(pa1.keep fun _ _ _ e=>x5 _ _ e).take xs2.length
  rw [t2.pa.len,pre_take hpre] at h1
  rw [t2.pa.len]
  exact h1
 have pa6:PaIs M5 xs2 m2'.pa:=t2.pa.keep fun _ _ _ e=>x5 _ _ e
 refine ⟨4,by decide,.lst (n:=3) (x5 _ _ t2.hl) m5 (sm_pas (n:=1) pa6 pa5),?_⟩
 have xf:=Ext.trans x1 (Ext.trans x14 x5)
 tm_at "go"
 rcases hcase with ⟨rfl,x,hx,epl,hca⟩ | ⟨hw,rfl,rfl,e3,e4⟩
 ·refine Eq.mpr (if_neg (by decide +kernel)) ?_
  obtain ⟨k,r,t,exp,hk,hd⟩:=layB_down _ _ _ x hx
  rw [List.nil_append,Nat.zero_add] at exp
  have hdp:=layB_dp [] 0 p.bl x hx
  have hdl:=dps_le hp.dp
  rw [exp] at hdp
  rw [List.length_cons,List.length_nil] at hdp
  unfold plD
  tm_at "go"
  refine ⟨p.bl,k,r,t,x.2,by rw [<- epl,exp,pcD_pl],hk,hd,by omega,by omega,?_⟩
  have fin:∀ ww,(ww=Str.ofString "choose" \/ ww=Str.ofString "any")->∀ l,M5 l=none->decide (ww∈[Str.ofString "choose",Str.ofString "any"])=true:=fun ww h l _=>by
   rcases h with rfl | rfl<;>decide +kernel
  cases hx2:x.2 with
  | choose b0 b1 =>
   rw [<- e_choose]
   tm_at "go"
   intro l hl
   refine in_l (ss:=[Str.ofString "choose",Str.ofString "any"]) mset_same ?_
   rw [fin _ (.inl rfl) l hl]
   exact q _ (Ext.trans xf (ext_new hl))
  | any z =>
   rw [<- e_any]
   tm_at "go"
   intro l hl
   refine in_l (ss:=[Str.ofString "choose",Str.ofString "any"]) mset_same ?_
   rw [fin _ (.inr rfl) l hl]
   exact q _ (Ext.trans xf (ext_new hl))
  | set _ _=>rw [hx2] at hca;exact hca.elim
  | note _=>rw [hx2] at hca;exact hca.elim
  | ite _ _ _=>rw [hx2] at hca;exact hca.elim
  | whl _ _ _ _=>rw [hx2] at hca;exact hca.elim
 ·refine Eq.mpr (if_pos (by rw [decide_eq_false hw];rfl)) ?_
  tm_at "go"
  refine ⟨4,by decide,sm_told (rf_ok e2) (x5 _ _ t2.hl) (x5 _ _ (x14 _ _ t1.hl)) pa6 (by rw [<- e4];exact pa1.keep fun _ _ _ e=>x5 _ _ e) (x5 _ _ t2.hr) (by rw [<- e3];exact x5 _ _ (x14 _ _ t1.hr)),?_⟩
  exact q _ xf
end
section
inductive spLaw (ds:List D) (M:MH) (Q:DK):Prop | mk:∀ (l:Addr) (ns:List Int),ds=[.ref l]->M l=some (.ro (ns.map D.int))->ns.length<=63->(∀ n∈ns,Cell n)->(∀ M',Q (.bl true) M')->spLaw ds M Q
variable {P:Program} {w:World} {K:PySem.W.Frag} {mg:Str->Option Value} {base:Heap} {f:Addr} {fd:FuncData}
local macro_rules | `(tactic| tm_at "go")=>`(tactic| repeat first | ((with_reducible show EV _ _ _ (Expr.BinOp _ Operator.Mult (Expr.Constant (Const.int 60) _ _) _) _);with_reducible refine ev_repL ?_) | ((with_reducible show EV _ _ _ (Expr.BinOp _ Operator.Mult (Expr.Constant (Const.int 300) _ _) _) _);with_reducible refine ev_repL ?_) | tm_at "d" | refine exs_cons ?_ | refine exs_nil ?_)
theorem rep_map {α:Type} (g:α->D) (l:List α):∀ n:Nat,(List.replicate n (l.map g)).flatten=((List.replicate n l).flatten).map g
 | 0=>rfl
 | n+1=>by rw [List.replicate_succ,List.replicate_succ,List.flatten_cons,List.flatten_cons,List.map_append,rep_map g l n]
theorem rep_len {α:Type} (l:List α):∀ n:Nat,((List.replicate n l).flatten).length=n * l.length
 | 0=>by simp
 | n+1=>by rw [List.replicate_succ,List.flatten_cons,List.length_append,rep_len l n,Nat.succ_mul];omega
theorem rep_mem {α:Type} {l:List α} {n:Nat} {x:α} (h:x∈(List.replicate n l).flatten):x∈l:=by
 obtain ⟨y,hy,hx⟩:=List.mem_flatten.mp h
 rw [(List.mem_replicate.mp hy).2] at hx;exact hx
local macro_rules | `(tactic| tm_at $s:str)=>namT n_cr s
theorem ok_law (F:Fun K "law" "law" s_cr f fd) (h_range:mg "range" = none) (C_l_plan:Cal P w K mg base 16 "_law_plan" spPlan2) (C_l_start:Cal P w K mg base 2 "_law_start" spStart9) (C_l_turns:Cal P w K mg base 1 "_law_turns" spTurns) (C_l_givens:Cal P w K mg base 2 "_law_givens" spGivens) (C_l_good:Cal P w K mg base 20 "_law_good" spGood9) (C_run:Cal P w K mg base 19 "run" spRun9) :
  FnOk P w K mg base CX0 21 f fd P_cr (liftSp K spLaw):=by
 tm_at "F cr"
 obtain ⟨l,ns,rfl,hl,h63,hcell,q⟩:=h
 refine exs_cons ?_
 tm_at "go"
 refine ⟨l,ns,rfl,hl,h63,hcell,fun p M1 hp x1=>?_⟩
 have hl1:=x1 _ _ hl
 clear x1 hl
 have h3:=hp.names.le
 tm_at "go"
 refine ev_slice sl_list ?_
 tm_at "go"
 refine ov_some ?_
 tm_at "go"
 refine ov_some ?_
 tm_at "go"
 refine rs_list rfl (Or.inr hl1) fun p1 hp1=>?_
 rw [show D3.cutD (ns.map D.int) (some 40) (some 63)=((ns.take 63).drop 40).map D.int from cut_mid ns 40 63]
 generalize hcs0:(ns.take 63).drop 40=cs
 have hcs:∀ c∈cs,Cell c:=fun c hc=>hcell c (by rw [<- hcs0] at hc;exact List.mem_of_mem_take (List.mem_of_mem_drop hc))
 have lcs2:cs.length<=23:=by rw [<- hcs0,List.length_drop,List.length_take];omega
 have m1:mset M1 p1 (.lst (cs.map D.int)) p1=_:=mset_same
 generalize mset M1 p1 _=M2 at m1 ⊢
 tm_at "go"
 intro p2 hp2
 refine add_ll (mset_old hp2 m1) mset_same (by rw [List.length_map];exact small (by show _+8<=1000;omega)) fun p3 hp3=>?_
 rw [show cs.map D.int++[.int 3,.int 11,.int 8,.int 30,.int 17,.int 2,.int 40,.int 9]=(cs++[3,11,8,30,17,2,40,9]).map D.int by rw [List.map_append];rfl]
 have m4:mset (mset M2 p2 (.lst [.int 3,.int 11,.int 8,.int 30,.int 17,.int 2,.int 40,.int 9])) p3 (.lst ((cs++[3,11,8,30,17,2,40,9]).map D.int)) p3=_:=mset_same
 generalize mset (mset M2 p2 _) p3 _=M4 at m4 ⊢
 have ccs:∀ c∈cs++[3,11,8,30,17,2,40,9],Cell c:=fun c hc=>(List.mem_append.mp hc).elim (hcs c) fun z=>by
  simp only [List.mem_cons,List.not_mem_nil,or_false] at z
  rcases z with rfl | rfl | rfl | rfl | rfl | rfl | rfl | rfl<;>exact Cell.of
 have lcc:8<=(cs++[3,11,8,30,17,2,40,9]).length/\(cs++[3,11,8,30,17,2,40,9]).length<=31:=by rw [List.length_append];show 8<=_+8/\_+8<=31;omega
 generalize cs++[3,11,8,30,17,2,40,9]=cc at m4 ccs lcc ⊢
 clear hcs lcs2 hl1 m1 hp1 hp2 hp3
 have e0:plD p=.tup [nms p.ss,.tup (p.rs.map rwD),.tup (stDs p.bl)]:=rfl
 refine exs_cons (ex_for_range PassesOwn.never rfl h_range ?_)
 tm_at "go"
 refine ⟨5,fun i G' M'=>∃ r3 r4 r5 r6 r7:Option D,G'=[some (.ref l),some (plD p),some (.ref p3),r3,r4,r5,r6,r7]/\Ext M4 M',rfl,by decide,by decide,⟨none,none,none,none,none,rfl,fun _ _ e=>e⟩,?_,?_⟩
 ·rintro i G' M' hi ⟨r3,r4,r5,r6,r7,rfl,x5⟩
  have hi:i < 5:=hi
  have bi:Bd (i:Int) 10:=.rng (by omega) (by omega)
  have m5:=x5 _ _ m4
  refine gv_name 3 nd ?_
  try (refine let_E ?_;intro EL)
  tm_at "go"
  rw [e0]
  tm_at "go"
  refine ev_slice sl_list ?_
  tm_at "go"
  refine ov_some ?_
  tm_at "go"
  refine ov_some ?_
  tm_at "go"
  refine rs_list rfl (Or.inl m5) fun a1 ha1=>?_
  obtain ⟨c1,ec1,hc1,lc1⟩:=cut_ints cc (some (i:Int)) (some ((i:Int)+3))
  rw [ec1]
  have x6:=Ext.trans x5 (ext_new (o:=.lst (c1.map D.int)) ha1)
  have m6:mset M' a1 (.lst (c1.map D.int)) a1=_:=mset_same
  generalize mset M' a1 _=M6 at x6 m6 ⊢
  tm_at "go"
  refine ⟨a1,c1,p.ss,rfl,m6,fun c hc=>ccs c (hc1 c hc),h3,hp.names.nodup,fun pt sq M7 ept hpt s0 s7 x7=>?_⟩
  have x7:=Ext.trans x6 x7
  clear m6 x6
  tm_at "go"
  refine ev_slice sl_list ?_
  tm_at "go"
  refine ov_some ?_
  tm_at "go"
  refine ov_none ?_
  refine rs_list rfl (Or.inl (x7 _ _ m4)) fun a2 ha2=>?_
  rw [cut_on,<- List.map_drop]
  have x8:=ext_new (o:=.lst ((cc.drop i).map D.int)) ha2
  have m8:mset M7 a2 (.lst ((cc.drop i).map D.int)) a2=_:=mset_same
  have s8:=x8 _ _ s7
  have x8:=Ext.trans x7 x8
  generalize mset M7 a2 _=M8 at x8 m8 s8 ⊢
  tm_at "go"
  refine ev_slice sl_list ?_
  tm_at "go"
  refine ov_none ?_
  refine ov_some ?_
  tm_at "go"
  refine rs_list rfl (Or.inl (x8 _ _ m4)) fun a3 ha3=>?_
  rw [cut_upto,<- List.map_take]
  refine add_ll (mset_old ha3 m8) mset_same (by rw [List.length_map,List.length_map,List.length_drop,List.length_take];exact small (by omega)) fun a4 ha4=>?_
  rw [<- List.map_append]
  have x9:=Ext.trans x8 (Ext.trans (ext_new (o:=.lst ((cc.take i).map D.int)) ha3) (ext_new (o:=.lst ((cc.drop i++cc.take i).map D.int)) ha4))
  have s9:=ext_new (o:=.lst ((cc.drop i++cc.take i).map D.int)) ha4 _ _ (ext_new (o:=.lst ((cc.take i).map D.int)) ha3 _ _ s8)
  have m9:mset (mset M8 a3 (.lst ((cc.take i).map D.int))) a4 (.lst ((cc.drop i++cc.take i).map D.int)) a4=_:=mset_same
  generalize mset (mset M8 a3 _) a4 _=M9 at x9 m9 s9 ⊢
  have l9:(cc.drop i++cc.take i).length=cc.length:=by rw [List.length_append,List.length_drop,List.length_take];omega
  tm_at "go"
  refine ⟨a4,_,rfl,m9,fun c hc=>ccs c ((List.mem_append.mp hc).elim List.mem_of_mem_drop List.mem_of_mem_take),by rw [l9];omega,fun tu tq Ma h01 ltu t0 ta xa=>?_⟩
  rw [l9] at ltu
  have sa:=xa _ _ s9
  have xa:=Ext.trans x9 xa
  clear m9 s9 x9 m8 s8 x8
  tm_at "go"
  refine ev_slice sl_list ?_
  tm_at "go"
  refine ov_some ?_
  tm_at "go"
  refine ov_some ?_
  tm_at "go"
  refine rs_list rfl (Or.inl (xa _ _ m4)) fun a5 ha5=>?_
  rw [show (2:Int) * (i:Int)=((2 * i:Nat):Int) by omega,show ((2 * i:Nat):Int)+6=((2 * i+6:Nat):Int) by omega,cut_mid]
  have xb:=ext_new (o:=.lst (((cc.take (2 * i+6)).drop (2 * i)).map D.int)) ha5
  have mb:mset Ma a5 (.lst (((cc.take (2 * i+6)).drop (2 * i)).map D.int)) a5=_:=mset_same
  have sb:=xb _ _ sa
  have tb:=xb _ _ ta
  have xb:=Ext.trans xa xb
  generalize mset Ma a5 _=Mb at xb mb sb tb ⊢
  tm_at "go"
  refine ⟨a5,_,rfl,mb,fun c hc=>ccs c (List.mem_of_mem_take (List.mem_of_mem_drop hc)),by rw [List.length_drop,List.length_take];omega,fun gv gq Mc hgv lgv g0 gc xc=>?_⟩
  have lgv6:gv.length<=6:=by rw [lgv,List.length_drop,List.length_take];omega
  have sc:=xc _ _ sb
  have tc:=xc _ _ tb
  have xc:=Ext.trans xb xc
  clear mb sb tb xb sa ta xa lgv
  have hik:i+3 < cc.length:=by omega
  rw [<- e0]
  tm_at "go"
  rw [show (i:Int)+3=((i+3:Nat):Int) by omega]
  refine ix_al (xc _ _ m4) (d:=.int cc[i+3]) (atI_nat (by rw [List.getElem?_map,List.getElem?_eq_getElem hik];rfl)) ?_
  tm_at "go"
  refine ⟨p,sq,tq,gq,cc[i+3],pt,tu,gv,rfl,hp,ept,hpt,sc,tc,gc,h01,by omega,hgv,by omega,ccs _ (List.getElem_mem hik),fun Md xd=>?_⟩
  have sd:=xd _ _ sc
  have td:=xd _ _ tc
  have gd:=xd _ _ gc
  have xd:=Ext.trans xc xd
  clear sc tc gc xc
  refine ⟨_,rfl,?_⟩
  tm_at "go"
  refine ⟨gq,_,60,rfl,rfl,gd,by decide,by decide,by rw [List.length_map];exact small (by show _ * 60<=1000;omega),fun b1 hb1=>?_⟩
  rw [rep_map]
  have xe:=ext_new (o:=.lst (((List.replicate (Int.toNat 60) gv).flatten).map frD)) hb1
  have me:mset Md b1 (.lst (((List.replicate (Int.toNat 60) gv).flatten).map frD)) b1=_:=mset_same
  have se:=xe _ _ sd
  have te:=xe _ _ td
  have xe:=Ext.trans xd xe
  generalize mset Md b1 _=Me at xe me se te ⊢
  clear sd td gd xd
  tm_at "go"
  intro b2 hb2
  have xf:=ext_new (o:=.lst [.tup [.int 1,.int 1]]) hb2
  have mf:mset Me b2 (.lst [.tup [.int 1,.int 1]]) b2=some (.lst ([(1,1)].map frD)):=mset_same
  have sf:=xf _ _ se
  have tf:=xf _ _ te
  have mf1:=xf _ _ me
  have xf:=Ext.trans xe xf
  generalize mset Me b2 _=Mf at xf mf sf tf mf1 ⊢
  clear se te me xe
  tm_at "go"
  refine ⟨b2,_,300,rfl,rfl,mf,by decide,by decide,by exact small (by decide),fun b3 hb3=>?_⟩
  rw [rep_map]
  have hl1:=rep_len gv 60
  have hl2:=rep_len [((1:Int),(1:Int))] 300
  refine add_ll (mset_old hb3 mf1) mset_same (by rw [List.length_map,List.length_map];exact small (by show ((List.replicate 60 gv).flatten).length+((List.replicate 300 [((1:Int),(1:Int))]).flatten).length<=1000;rw [hl1,hl2];show 60 * _+300 * 1<=1000;omega)) fun b4 hb4=>?_
  rw [<- List.map_append]
  generalize hmany:(List.replicate (Int.toNat 60) gv).flatten++(List.replicate (Int.toNat 300) [((1:Int),(1:Int))]).flatten=many
  have lmany:300<=many.length/\many.length<=1000:=by
   rw [<- hmany,List.length_append]
   show 300<=((List.replicate 60 gv).flatten).length+((List.replicate 300 [((1:Int),(1:Int))]).flatten).length/\_
   show _/\((List.replicate 60 gv).flatten).length+((List.replicate 300 [((1:Int),(1:Int))]).flatten).length<=1000
   rw [hl1,hl2]
   show 300<=60 * _+300 * 1/\60 * _+300 * 1<=1000
   omega
  have gmany:∀ x∈many,GvG x:=fun x hx=>by
   rw [<- hmany] at hx
   rcases List.mem_append.mp hx with hx | hx
   ·exact hgv x (rep_mem hx)
   ·rw [List.mem_singleton.mp (rep_mem hx)]
    exact ⟨by show (0:Int) < 1;decide,by show (1:Int) < 4;decide,by show Int.gcd 1 1=1;decide,by show B 100 1;unfold B;decide⟩
  have xg:=Ext.trans (ext_new (o:=.lst ((List.replicate (Int.toNat 300) [((1:Int),(1:Int))]).flatten.map frD)) hb3) (ext_new (o:=.lst (many.map frD)) hb4)
  have sg:=xg _ _ sf
  have tg:=xg _ _ tf
  have mg':mset (mset Mf b3 (.lst ((List.replicate (Int.toNat 300) [((1:Int),(1:Int))]).flatten.map frD))) b4 (.lst (many.map frD)) b4=_:=mset_same
  have xg:=Ext.trans xf xg
  generalize mset (mset Mf b3 _) b4 _=Mg at xg mg' sg tg ⊢
  clear sf tf xf mf mf1 hmany hl1 hl2
  tm_at "go"
  have hlt:=rep_len tu 60
  refine ⟨tq,_,60,rfl,rfl,tg,by decide,by decide,by rw [List.length_map];exact Nat.le_trans (show _ * 60<=3000 by omega) (show 3000<=sizeLine by decide),fun b5 hb5=>?_⟩
  rw [rep_map]
  generalize htm:(List.replicate (Int.toNat 60) tu).flatten=tm
  have htm:(List.replicate 60 tu).flatten=tm:=htm
  rw [htm] at hlt
  have xh:=ext_new (o:=.lst (tm.map D.int)) hb5
  have mh:mset Mg b5 (.lst (tm.map D.int)) b5=_:=mset_same
  have sh:=xh _ _ sg
  have mh1:=xh _ _ mg'
  have xh:=Ext.trans xg xh
  generalize mset Mg b5 _=Mh at xh mh sh mh1 ⊢
  tm_at "go"
  have ndp:(pt.map (·.1)).Nodup:=by rw [ept];exact hp.names.nodup
  have lpt:pt.length<=3:=by have:=congrArg List.length ept;rw [List.length_map] at this;omega
  refine ⟨p,sq,b5,b4,ptKv pt,pt,tm,many,rfl,hp,ept,sh,mh,mh1,⟨ndp,by omega,fun x hx=>lk_pt0 ndp hx⟩,gd0 ept hpt (by omega) (by omega) (fun x hx=>h01 x (by rw [<- htm] at hx;exact rep_mem hx)) gmany,fun w1 m1 p1' e1 l1 r1 xs1 Mi t1=>?_⟩
  have hne:w1≠Str.ofString "wanting" := by
   unfold Rf at e1
   split at e1
   ·exact re_rich e1 ⟨by show 300<=0+tm.length;omega,by show 300<=0+many.length;omega,by show 0<=300;omega⟩
   ·rw [e1.1];decide +kernel
  tm_at "go"
  refine ifDn hne ?_
  tm_at "go"
  exact ⟨_,_,_,_,_,rfl,Ext.trans xh t1.ext⟩
 ·rintro G' M' ⟨r3,r4,r5,r6,r7,rfl,x5⟩
  tm_at "go"
  exact q _
end
theorem lawSp:LawSp spLaw:=fun l ns M Q h1 h2 h3 q=>⟨l,ns,rfl,h1,h2,h3,q⟩
structure Txt (K:PySem.W.Frag) (C:Addr):Prop where
 a_bv:At K "_law_take" s_bv
 a_bw:At K "_law_number" s_bw
 a_bx:At K "_law_names" s_bx
 a_bz:At K "_law_terms" s_bz
 a_cb:At K "_law_row" s_cb
 a_ca:At K "_law_sum" s_ca
 a_cc:At K "_law_rows" s_cc
 a_cd:At K "_law_one" s_cd
 a_cg:At K "_law_block" s_cg
 a_cj:At K "_law_statement" s_cj
 a_ch:At K "_law_loops" s_ch
 a_ci:At K "_law_loop" s_ci
 a_ce:At K "_law_tail" s_ce
 a_cf:At K "_law_menu" s_cf
 a_ck:At K "_law_plan" s_ck
 a_cl:At K "_law_made" s_cl
 a_bu:At K "_law_cell" s_bu
 a_cm:At K "_law_start" s_cm
 a_cn:At K "_law_turns" s_cn
 a_co:At K "_law_givens" s_co
 a_cp:At K "_law_at" s_cp
 a_ab:At K "blocks_of" s_ab
 a_ad:At K "straight_within" s_ad
 a_ac:At K "laid_out" s_ac
 a_ap:At K "names_of_terms" s_ap
 a_ao:At K "names_of_rows" s_ao
 a_an:At K "names_of_loop" s_an
 a_am:At K "names_of_statement" s_am
 a_ah:At K "how_many" s_ah
 a_af:At K "must_be_within" s_af
 a_aj:At K "must_be_among" s_aj
 a_ag:At K "depth_of" s_ag
 a_ai:At K "rows_noted" s_ai
 a_ae:At K "must_be_small" s_ae
 a_al:At K "must_have_no_loop" s_al
 a_ak:At K "must_bear_measure" s_ak
 a_aa:At K "must_plan" s_aa
 a_ba:At K "common_divisor" s_ba
 a_aq:At K "plus" s_aq
 a_au:At K "times" s_au
 a_ar:At K "minus" s_ar
 a_az:At K "must_have_names" s_az
 a_aw:At K "worth" s_aw
 a_ay:At K "added_up" s_ay
 a_ax:At K "is_so" s_ax
 a_av:At K "less" s_av
 a_bc:At K "do_block" s_bc
 a_be:At K "do_one_of" s_be
 a_bd:At K "do_statement" s_bd
 a_bf:At K "do_loop" s_bf
 a_bb:At K "run" s_bb
 a_cq:At K "_law_good" s_cq
 a_cr:At K "law" s_cr
 g_MOST_NAMES:∃ v,PySem.W.nsIn K mainGlobals "MOST_NAMES" = some (some v)/\RelV (.int 3) v
 g_MOST_STATEMENTS:∃ v,PySem.W.nsIn K mainGlobals "MOST_STATEMENTS" = some (some v)/\RelV (.int 24) v
 g_MOST_DEPTH:∃ v,PySem.W.nsIn K mainGlobals "MOST_DEPTH" = some (some v)/\RelV (.int 4) v
 g_MOST_BRANCHES:∃ v,PySem.W.nsIn K mainGlobals "MOST_BRANCHES" = some (some v)/\RelV (.int 2) v
 g_MOST_LOOPS:∃ v,PySem.W.nsIn K mainGlobals "MOST_LOOPS" = some (some v)/\RelV (.int 2) v
 g_MOST_GIVEN:∃ v,PySem.W.nsIn K mainGlobals "MOST_GIVEN" = some (some v)/\RelV (.int 1) v
 g_MOST_NOTED:∃ v,PySem.W.nsIn K mainGlobals "MOST_NOTED" = some (some v)/\RelV (.int 2) v
 g_LONG:∃ v,PySem.W.nsIn K mainGlobals "LONG" = some (some v)/\RelV (.int 8192) v
 g_MOST_DEEDS:∃ v,PySem.W.nsIn K mainGlobals "MOST_DEEDS" = some (some v)/\RelV (.int 300) v
 z_len:PySem.W.nsIn K mainGlobals "len" = some none
 z_tuple:PySem.W.nsIn K mainGlobals "tuple" = some none
 z_sorted:PySem.W.nsIn K mainGlobals "sorted" = some none
 z_range:PySem.W.nsIn K mainGlobals "range" = some none
 z_list:PySem.W.nsIn K mainGlobals "list" = some none
 z_max:PySem.W.nsIn K mainGlobals "max" = some none
 z_int:PySem.W.nsIn K mainGlobals "int" = some none
 z_min:PySem.W.nsIn K mainGlobals "min" = some none
 z_enumerate:PySem.W.nsIn K mainGlobals "enumerate" = some none
 z_sum:PySem.W.nsIn K mainGlobals "sum" = some none
 z_abs:PySem.W.nsIn K mainGlobals "abs" = some none
 z_dict:PySem.W.nsIn K mainGlobals "dict" = some none
 z_all:PySem.W.nsIn K mainGlobals "all" = some none
 cl:ClsI K "Traveller" C
 m_stop:AtM K C "stop" "Traveller.stop" s_bi
 m_may_do:AtM K C "may_do" "Traveller.may_do" s_bk
 m_told:AtM K C "told" "Traveller.told" s_bh
 m_enter:AtM K C "enter" "Traveller.enter" s_bq
 m_meets:AtM K C "meets" "Traveller.meets" s_bj
 m_passes:AtM K C "passes" "Traveller.passes" s_bt
 m_put:AtM K C "put" "Traveller.put" s_bl
 m_take:AtM K C "take" "Traveller.take" s_bm
 m_fork:AtM K C "fork" "Traveller.fork" s_bn
 m_ask:AtM K C "ask" "Traveller.ask" s_bo
 m_note:AtM K C "note" "Traveller.note" s_bp
 m_measured:AtM K C "measured" "Traveller.measured" s_bs
 m_head:AtM K C "head" "Traveller.head" s_br
 m_init:AtM K C "__init__" "Traveller.__init__" s_bg
 n_point:PySem.W.findIn K (.ref C) "point" = some none
 n_turns:PySem.W.findIn K (.ref C) "turns" = some none
 n_givens:PySem.W.findIn K (.ref C) "givens" = some none
 n_deeds:PySem.W.findIn K (.ref C) "deeds" = some none
 n_passed:PySem.W.findIn K (.ref C) "passed" = some none
 n_worths:PySem.W.findIn K (.ref C) "worths" = some none
 n_word:PySem.W.findIn K (.ref C) "word" = some none
 n_place:PySem.W.findIn K (.ref C) "place" = some none
theorem all_mk {P:Program} {w:World} {K:PySem.W.Frag} {h:Heap} {mg:Str->Option Value} {fa C:Addr} (T:Txt K C) (X:K.In h) (G:h.Ns mainGlobals mg) (hfa:mg "law" = some (.ref fa)) :
  ∃ fd:FuncData,(∀ (s:Shared) (v:Value),BindsTo s fd ⟨[v],[]⟩ [("_law_script",v)])/\∀ base:Heap,K.In base->base.Ns mainGlobals mg->FnOk P w K mg base CX0 21 fa fd P_cr (liftSp K spLaw):=by
 tm_at "gA bv1 bw1 bx1 bz2 cb2 ca2 cc3 cd3 cg4 cj4 ch1 ci4 ce3 cf3 ck1 cl2 bu2 cm2 cn1 co1 cp2 ab1 ad2 ac1 ap1 ao1 an1 am1 ah2 af2 aj2 ag1 ai1 ae2 al2 ak2 aa1 ba2 aq2 au2 ar2 az2 aw2 ay2 ax2 av2 bc3 be4 bd3 bf3 bb4 cq5"
 obtain ⟨f_cr,d_cr,F_cr,m_cr⟩:=T.a_cr.get X G
 have e:=hfa.symm.trans m_cr
 cases e
 tm_at "gG MOST_NAMES MOST_STATEMENTS MOST_DEPTH MOST_BRANCHES MOST_LOOPS MOST_GIVEN MOST_NOTED LONG MOST_DEEDS"
 have mC:mg "Traveller" = some (.ref C):=PySem.W.mg_of X G T.cl.ns
 have OK:TrK K C:=⟨T.cl.cls,fun f hf=>by
  rcases hf with _ | ⟨_,hf⟩;exact T.n_point
  rcases hf with _ | ⟨_,hf⟩;exact T.n_turns
  rcases hf with _ | ⟨_,hf⟩;exact T.n_givens
  rcases hf with _ | ⟨_,hf⟩;exact T.n_deeds
  rcases hf with _ | ⟨_,hf⟩;exact T.n_passed
  rcases hf with _ | ⟨_,hf⟩;exact T.n_worths
  rcases hf with _ | ⟨_,hf⟩;exact T.n_word
  rcases hf with _ | ⟨_,hf⟩;exact T.n_place
  cases hf⟩
 obtain ⟨f_bi,d_bi,F_bi,m_bi⟩:=T.m_stop.get
 have b_bi:=F_bi.binds (ps:=P_bi) fun _ _ _ _ _ _ us hl=>ul 3 us hl (fun _ _ _=>rfl)
 obtain ⟨f_bk,d_bk,F_bk,m_bk⟩:=T.m_may_do.get
 have b_bk:=F_bk.binds (ps:=P_bk) fun _ _ _ _ _ _ us hl=>ul 2 us hl (fun _ _=>rfl)
 obtain ⟨f_bh,d_bh,F_bh,m_bh⟩:=T.m_told.get
 have b_bh:=F_bh.binds (ps:=P_bh) fun _ _ _ _ _ _ us hl=>ul 1 us hl (fun _=>rfl)
 obtain ⟨f_bq,d_bq,F_bq,m_bq⟩:=T.m_enter.get
 have b_bq:=F_bq.binds (ps:=P_bq) fun _ _ _ _ _ _ us hl=>ul 2 us hl (fun _ _=>rfl)
 obtain ⟨f_bj,d_bj,F_bj,m_bj⟩:=T.m_meets.get
 have b_bj:=F_bj.binds (ps:=P_bj) fun _ _ _ _ _ _ us hl=>ul 2 us hl (fun _ _=>rfl)
 obtain ⟨f_bt,d_bt,F_bt,m_bt⟩:=T.m_passes.get
 have b_bt:=F_bt.binds (ps:=P_bt) fun _ _ _ _ _ _ us hl=>ul 4 us hl (fun _ _ _ _=>rfl)
 obtain ⟨f_bl,d_bl,F_bl,m_bl⟩:=T.m_put.get
 have b_bl:=F_bl.binds (ps:=P_bl) fun _ _ _ _ _ _ us hl=>ul 4 us hl (fun _ _ _ _=>rfl)
 obtain ⟨f_bm,d_bm,F_bm,m_bm⟩:=T.m_take.get
 have b_bm:=F_bm.binds (ps:=P_bm) fun _ _ _ _ _ _ us hl=>ul 3 us hl (fun _ _ _=>rfl)
 obtain ⟨f_bn,d_bn,F_bn,m_bn⟩:=T.m_fork.get
 have b_bn:=F_bn.binds (ps:=P_bn) fun _ _ _ _ _ _ us hl=>ul 2 us hl (fun _ _=>rfl)
 obtain ⟨f_bo,d_bo,F_bo,m_bo⟩:=T.m_ask.get
 have b_bo:=F_bo.binds (ps:=P_bo) fun _ _ _ _ _ _ us hl=>ul 3 us hl (fun _ _ _=>rfl)
 obtain ⟨f_bp,d_bp,F_bp,m_bp⟩:=T.m_note.get
 have b_bp:=F_bp.binds (ps:=P_bp) fun _ _ _ _ _ _ us hl=>ul 3 us hl (fun _ _ _=>rfl)
 obtain ⟨f_bs,d_bs,F_bs,m_bs⟩:=T.m_measured.get
 have b_bs:=F_bs.binds (ps:=P_bs) fun _ _ _ _ _ _ us hl=>ul 4 us hl (fun _ _ _ _=>rfl)
 obtain ⟨f_br,d_br,F_br,m_br⟩:=T.m_head.get
 have b_br:=F_br.binds (ps:=P_br) fun _ _ _ _ _ _ us hl=>ul 5 us hl (fun _ _ _ _ _=>rfl)
 obtain ⟨f_bg,d_bg,F_bg,m_bg⟩:=T.m_init.get
 have b_bg:=F_bg.binds (ps:=P_bg) fun _ _ _ _ _ _ us hl=>ul 5 us hl (fun _ _ _ _ _=>rfl)
 tm_at "zZ len tuple sorted range list max int min enumerate sum abs dict all"
 refine ⟨d_cr,?_,fun base _ _=>?_⟩
 ·obtain ⟨oc,od,kV,doc,pm,an,cdv,ct,osl,rfl,_,_⟩:=F_cr.ex
  exact fun s v=>.of_eq rfl
 tm_at "cC bv ok_l_take z_len"
 have C_l_number:Cal P w K mg base 1 "_law_number" (spNumber2):=cal_D F_bw (ok_l_number F_bw ) b_bw m_bw
 tm_at "cC bx ok_l_names z_tuple z_sorted z_range z_list z_len"
 tm_at "cC bz ok_l_terms z_tuple C_l_number C_l_take"
 tm_at "cC cb ok_l_row C_l_take C_l_terms C_l_number"
 tm_at "cC ca ok_l_sum z_max C_l_take C_l_terms C_l_number"
 tm_at "cC cc ok_l_rows z_tuple z_range C_l_row"
 have C_l_one:Cal P w K mg base 1 "_law_one" (spOne):=cal_D F_cd (ok_l_one F_cd ) b_cd m_cd
 tm_at "cD ch C_l_loops0 ok_l_loops n0 k0 0 -"
 tm_at "cD ch C_l_loops1 ok_l_loops n1 k1 0 ^C_l_loops0"
 tm_at "cD ch C_l_loops2 ok_l_loops n2 k2 0 ^C_l_loops1"
 tm_at "cD ch C_l_loops3 ok_l_loops n3 k3 0 ^C_l_loops2"
 tm_at "cD ch C_l_loops4 ok_l_loops n4 k4 0 ^C_l_loops3"
 tm_at "cD cj C_l_statement0 ok_l_statement d0 k4 2 z_len z_min C_l_take C_l_row C_l_rows C_l_sum - -"
 tm_at "cD cg C_l_block0 ok_l_block d0 k5 2 z_tuple z_range z_int C_l_take C_l_statement0"
 tm_at "cD ci C_l_loop1 ok_l_loop d0 k6 2 C_l_take C_l_row C_l_rows C_l_sum C_l_loops4 C_l_block0"
 tm_at "cD cj C_l_statement1 ok_l_statement d1 k7 2 z_len z_min C_l_take C_l_row C_l_rows C_l_sum ^C_l_loop1 ~C_l_block0"
 tm_at "cD cg C_l_block1 ok_l_block d1 k8 2 z_tuple z_range z_int C_l_take C_l_statement1"
 tm_at "cD ci C_l_loop2 ok_l_loop d1 k9 2 C_l_take C_l_row C_l_rows C_l_sum C_l_loops4 C_l_block1"
 tm_at "cD cj C_l_statement2 ok_l_statement d2 k10 2 z_len z_min C_l_take C_l_row C_l_rows C_l_sum ^C_l_loop2 ~C_l_block1"
 tm_at "cD cg C_l_block2 ok_l_block d2 k11 2 z_tuple z_range z_int C_l_take C_l_statement2"
 tm_at "cD ci C_l_loop3 ok_l_loop d2 k12 2 C_l_take C_l_row C_l_rows C_l_sum C_l_loops4 C_l_block2"
 tm_at "cD cj C_l_statement3 ok_l_statement d3 k13 2 z_len z_min C_l_take C_l_row C_l_rows C_l_sum ^C_l_loop3 ~C_l_block2"
 tm_at "cD cg C_l_block3 ok_l_block d3 k14 2 z_tuple z_range z_int C_l_take C_l_statement3"
 tm_at "cC ce ok_l_tail z_tuple z_int C_l_take C_l_one"
 tm_at "cC cf ok_l_menu z_tuple C_l_take C_l_one C_l_tail C_l_row C_l_block1"
 tm_at "cC ck ok_l_plan C_l_names C_l_take C_l_rows C_l_menu C_l_block3"
 have C_l_made:Cal P w K mg base 1 "_law_made" (spMade9):=cal_D F_cl (ok_l_made F_cl ) b_cl m_cl
 tm_at "cC bu ok_l_cell z_len"
 tm_at "cC cm ok_l_start z_len z_range z_max C_l_cell C_l_made"
 have C_l_turns:Cal P w K mg base 1 "_law_turns" (spTurns):=cal_D F_cn (ok_l_turns F_cn ) b_cn m_cn
 tm_at "cC co ok_l_givens C_l_made"
 tm_at "cD cp C_l_at0 ok_l_at n0 k0 0 z_len z_int -"
 tm_at "cD cp C_l_at1 ok_l_at n1 k1 0 z_len z_int ^C_l_at0"
 tm_at "cD cp C_l_at2 ok_l_at n2 k2 0 z_len z_int ^C_l_at1"
 tm_at "cD cp C_l_at3 ok_l_at n3 k3 0 z_len z_int ^C_l_at2"
 tm_at "cD cp C_l_at4 ok_l_at n4 k4 0 z_len z_int ^C_l_at3"
 have C_blocks_of:Cal P w K mg base 1 "blocks_of" (spBlocksOf):=cal_D F_ab (ok_blocks_of F_ab ) b_ab m_ab
 tm_at "cC ad ok_straight_within z_enumerate C_blocks_of"
 tm_at "cC ac ok_laid_out z_enumerate z_len C_straight_within"
 have C_names_of_terms:Cal P w K mg base 1 "names_of_terms" (spNmT):=cal_D F_ap (ok_names_of_terms F_ap ) b_ap m_ap
 tm_at "cC ao ok_names_of_rows C_names_of_terms"
 tm_at "cC an ok_names_of_loop C_names_of_terms C_names_of_rows"
 tm_at "cC am ok_names_of_statement C_names_of_terms C_names_of_rows C_names_of_loop"
 tm_at "cC ah ok_how_many z_len"
 have C_must_be_within:Cal P w K mg base 1 "must_be_within" (spLess):=cal_D F_af (ok_must_be_within F_af ) b_af m_af
 have C_must_be_among:Cal P w K mg base 1 "must_be_among" (spAmong):=cal_D F_aj (ok_must_be_among F_aj ) b_aj m_aj
 tm_at "cC ag ok_depth_of z_len z_max"
 tm_at "cC ai ok_rows_noted z_len z_sum"
 tm_at "cC ae ok_must_be_small z_len g_MOST_NAMES g_MOST_STATEMENTS g_MOST_DEPTH g_MOST_BRANCHES g_MOST_LOOPS g_MOST_GIVEN g_MOST_NOTED C_must_be_within C_depth_of C_how_many C_rows_noted"
 tm_at "cC al ok_must_have_no_loop C_laid_out C_how_many"
 tm_at "cC ak ok_must_bear_measure C_must_have_no_loop"
 tm_at "cC aa ok_must_plan C_laid_out C_must_be_small C_must_be_among C_names_of_rows C_names_of_statement C_must_bear_measure"
 tm_at "cC ba ok_common_divisor z_max z_min g_LONG"
 tm_at "cC aq ok_plus z_abs C_common_divisor"
 tm_at "cC au ok_times z_abs C_common_divisor"
 tm_at "cC ar ok_minus C_plus"
 have C_must_have_names:Cal P w K mg base 1 "must_have_names" (spMust):=cal_D F_az (ok_must_have_names F_az ) b_az m_az
 tm_at "cC aw ok_worth C_must_have_names C_plus C_times"
 tm_at "cC ay ok_added_up C_must_have_names"
 tm_at "cC ax ok_is_so C_added_up"
 have C_less:Cal P w K mg base 1 "less" (spLessF):=cal_D F_av (ok_less F_av ) b_av m_av
 have M_stop:CalM P w K mg base 1 C "stop" (spStop C):=⟨T.cl.cls,f_bi,d_bi,P_bi,ok_Traveller_stop F_bi OK,m_bi,b_bi⟩
 have M_may_do:CalM P w K mg base 2 C "may_do" (spMay C):=⟨T.cl.cls,f_bk,d_bk,P_bk,ok_Traveller_may_do F_bk OK g_MOST_DEEDS M_stop,m_bk,b_bk⟩
 have M_told:CalM P w K mg base 1 C "told" (spTold C):=⟨T.cl.cls,f_bh,d_bh,P_bh,ok_Traveller_told F_bh OK z_dict,m_bh,b_bh⟩
 have M_enter:CalM P w K mg base 1 C "enter" (spEnter C):=⟨T.cl.cls,f_bq,d_bq,P_bq,ok_Traveller_enter F_bq OK,m_bq,b_bq⟩
 have M_meets:CalM P w K mg base 4 C "meets" (spMeets C):=⟨T.cl.cls,f_bj,d_bj,P_bj,ok_Traveller_meets F_bj OK z_all C_is_so,m_bj,b_bj⟩
 have M_passes:CalM P w K mg base 2 C "passes" (spPasses C):=⟨T.cl.cls,f_bt,d_bt,P_bt,ok_Traveller_passes F_bt OK z_dict M_stop,m_bt,b_bt⟩
 have M_put:CalM P w K mg base 4 C "put" (spPut C):=⟨T.cl.cls,f_bl,d_bl,P_bl,ok_Traveller_put F_bl OK M_may_do C_worth,m_bl,b_bl⟩
 have M_take:CalM P w K mg base 3 C "take" (spTakeG C):=⟨T.cl.cls,f_bm,d_bm,P_bm,ok_Traveller_take F_bm OK z_len M_may_do M_stop,m_bm,b_bm⟩
 have M_fork:CalM P w K mg base 3 C "fork" (spFork C):=⟨T.cl.cls,f_bn,d_bn,P_bn,ok_Traveller_fork F_bn OK z_len M_may_do M_stop,m_bn,b_bn⟩
 have M_ask:CalM P w K mg base 4 C "ask" (spAsk C):=⟨T.cl.cls,f_bo,d_bo,P_bo,ok_Traveller_ask F_bo OK M_may_do C_is_so,m_bo,b_bo⟩
 have M_note:CalM P w K mg base 5 C "note" (spNote C):=⟨T.cl.cls,f_bp,d_bp,P_bp,ok_Traveller_note F_bp OK M_may_do M_meets M_passes,m_bp,b_bp⟩
 have M_measured:CalM P w K mg base 4 C "measured" (spMeasured C):=⟨T.cl.cls,f_bs,d_bs,P_bs,ok_Traveller_measured F_bs OK C_worth C_minus C_less,m_bs,b_bs⟩
 have M_head:CalM P w K mg base 5 C "head" (spHead C):=⟨T.cl.cls,f_br,d_br,P_br,ok_Traveller_head F_br OK M_may_do C_is_so M_meets M_measured M_passes,m_br,b_br⟩
 have K_T:Kls P w K mg base 1 "Traveller" C (spTrav C):=⟨⟨f_bg,d_bg,P_bg,ok_Traveller_init F_bg OK z_dict z_list,T.cl.mk_ m_bg,b_bg⟩,mC⟩
 have C_do_block0:Cal P w K mg base 6 "do_block" (spDoB C 0):=cal_D F_bc (ok_do_block (n:=0) (k:=5) (by decide) F_bc z_enumerate (fun h=>absurd h (by decide))) b_bc m_bc
 tm_at "cD be C_do_one_of1 ok_do_one_of n0 k6 1 C_do_block0"
 tm_at "cD bf C_do_loop1 ok_do_loop n0 k6 1 M_enter M_head C_do_block0"
 tm_at "cD bd C_do_statement1 ok_do_statement n0 k7 1 M_put M_take M_note M_fork M_ask C_do_one_of1 C_do_loop1"
 tm_at "cD bc C_do_block1 ok_do_block n1 k8 1 z_enumerate ^C_do_statement1"
 tm_at "cD be C_do_one_of2 ok_do_one_of n1 k9 1 C_do_block1"
 tm_at "cD bf C_do_loop2 ok_do_loop n1 k9 1 M_enter M_head C_do_block1"
 tm_at "cD bd C_do_statement2 ok_do_statement n1 k10 1 M_put M_take M_note M_fork M_ask C_do_one_of2 C_do_loop2"
 tm_at "cD bc C_do_block2 ok_do_block n2 k11 1 z_enumerate ^C_do_statement2"
 tm_at "cD be C_do_one_of3 ok_do_one_of n2 k12 1 C_do_block2"
 tm_at "cD bf C_do_loop3 ok_do_loop n2 k12 1 M_enter M_head C_do_block2"
 tm_at "cD bd C_do_statement3 ok_do_statement n2 k13 1 M_put M_take M_note M_fork M_ask C_do_one_of3 C_do_loop3"
 tm_at "cD bc C_do_block3 ok_do_block n3 k14 1 z_enumerate ^C_do_statement3"
 tm_at "cD be C_do_one_of4 ok_do_one_of n3 k15 1 C_do_block3"
 tm_at "cD bf C_do_loop4 ok_do_loop n3 k15 1 M_enter M_head C_do_block3"
 tm_at "cD bd C_do_statement4 ok_do_statement n3 k16 1 M_put M_take M_note M_fork M_ask C_do_one_of4 C_do_loop4"
 tm_at "cD bc C_do_block4 ok_do_block n4 k17 1 z_enumerate ^C_do_statement4"
 tm_at "cC bb ok_run K_T C_must_plan M_meets M_stop M_told C_do_block4"
 tm_at "cC cq ok_l_good z_len C_run C_l_at4"
 exact ok_law F_cr z_range C_l_plan C_l_start C_l_turns C_l_givens C_l_good C_run
end K33
local macro_rules | `(tactic| tm_at $s:str)=>K33.sT s
local macro_rules | `(#check tT $a:num*)=>K33.tT a
#check tT 8918467949904844369 2406163588332908002 9316567310497652822 8009762961089722199 16708821154134232504 2540030778412448199 4572319918792222323 8103166766427354765 2085226371680392819 8940060228518758136 3249924134536988780 9299859565807853747 18319647028668170836 11399147791932736395 643089825494165148 16787613097287347611 16941076093736361407 10371153119063390376 14616684879883208112 13680523617926545527 15124658022051156621 8127763157122109896 4428287940845187494 10942807927307193793 15587602899518076082 5867223281829224595 14631362656584027814 1514985203612863788 8207119558072997692 16450203429737896741 7758318877113998337 11098952075507465876 997042348919385525 16486924176287733621 17259654048033079375 3538479683818286657 14349485951994099546 18297876730516698765 2065291741295062056 6156147552808252549 17202028250449129867 14415879285104040270 12163332905939796884 8312825805971527356 11914212350480716799 7868308877300636043 16195361572869752022 12415636180684288801 13087850737214304983 14866595432990413271 14927802661080922174 4208056806088382711 6213868532815726999 6609720423481253879 16114881283931530408 11792275967233028816 7677465981965020669 18340754968754413743 8757110141091458032 10790473786186652149 6329212390282509858 2404989168023323845 16842809602906863375 15165306173154166007 17147564590387890903 11809130744813596459 17291144088385571794 12519728456858822803 9609004302779417447 829280359967341326 6638811396172054396 4381735189237183523 10606958015336782671 3054318969440123096 6551736520543810191 9982757977247782893 11394863223769717117 10140236737438222889 12553622805051126739 12050837305793298022 15443025556949306730 9884234182845208972 10348344948042159197 17399146373623208017 18097867125303377990 15619186133150856239 250230960959131857 6395364096718132848 16340937422942481670 4850094706700662233 6805048049732683718 12251259375907217956 9632705509896513876 7677549531909665176 5183078072128759310 1933145415333488813 2035459941606798868 10961711920091935500 2983486004675767069 8828350362176158248 4283524211441088331 5218576036144258221 4119853151245639039 11559590790226088739 5149538058081769596 10808755534948007054 6072391523942638938 6574515706918621792 2433292603131220090 4438485833466263370 1306357039007151871 2376255968838953774 13934499893767778642 13631036473456005908 14853069221706166039 11072867910609120659 16852312188000902979 14799513994234116986 15930563783115755093 4078936181253371674 10495451253371338932 7136702505989261942 7244145332058034276 4347588407281484913 6894495704390766097 11275957147860561112 15098609691569337462 16695641799536011886 12056165492305486993 13208314742883703058 15983974372836294649 6027124527015421803 17281953034332271947 14126048144487227965 429306033483502876 6736252950653939361 13968364548508341555 4694710651483008616 4458650141627978893 5236074875651226004 3700700038306845199 12074924469473283132 10432689063219453798 10315552477252118336 6878854217702509952 11132622729504906754 11055498059867492787 10137757511416806244 13937641729910136444 16772805532875980936 9729961308982543778 9569116787335958194 10385171055825515997 11071803399018535190 11851346684308364421 10278852910612035590 17285105128857781245 3903698152919438875 4073133413947646639 3996996791729249483 10633239385538641438 6721128003057632468 12267800323364786892 1670271748138356905 9785184674030880085 4289124790517723334 2325736277354102318 8258503932705823592 15664330981421103281 12018770817909862164 10616059229258051502 15833065389357391553 9983277571952825153 4943805213928469842 17980493238207333215 17034101157994774144 10192475350900535765 16830330577148150063 2351942240368832851 1194761748277451179 2205922492888554551 12602441412675139070 12442432096218859581 16009831768853414917 4545757419383392880 9278901344187270112 13331580131772100135 11441584807537235358 9271967723301859553 18154232205700683542 10787431288216381523 3617314972857879993 12827046596402326389 5233510552323169906 12275658198239947124 17905827887127246885 6707304515371953358 13770704099656675967 10325976066007212016 6676246656835144719 96332552346056169 13065435195138730446 7254707411083246134 13642300715575953506 11701225104267573380 2696164511410740239 4017498016075017055 3450883498418778012 11100682965743901839 12024953640877836241 17423842605752121219 3776470413313180201 3835490030930417003 9790472051803618658 8462622098006920422 10124053710507415569 3879224907762297409 2245027790911148128 11175981953412027124 3582747482809731780 545884915863426171 15971326154701390044 10638474088081828256 1257766122652904118 17252942220535030837 3541643722289985858 13809155846156702005 11719615021857877601 9044140127597754167 9159658933358854654 6855641032799222068 5116815876058923410 6031886348960132137 9343192551932216662 11848593962372568832 16098662946004214267 6532754862782728048 644896832617709091 12861258441044366432 924966279540924253 3033244545137333478 3090408331576033909 3165334378983554226 15770140600910633550 7332441127696323124 17025003719621831038 13912033301352369783 1407224461604177502 17869415368395150604 13385444978864647199 14520304996558113246 1707971097381832874 8096989889699496344 9906475307787785087 13513084458062310182 8848258449485740956 1264704710626131473 12650913705539147463 16273477321143108473 1225454608425614433 2301659473778423833 943244374596452783 1471484049528723294 13816703135979628911 14373032125857951612 6466081833822525392 9944978419284224292 4411601329808352459 8568029453841963851 16451376346235301809 11281498498369960193 2328138534167155519 910535314094697285 9659212860897923903 6657141546056677397 6252948855436579205 11510523615011919544 13213698186714235100 17031106480650943471 1428551380848734389 3540566488374252939 12724503555722988394 5814118152034892438 11235577143640008298 11429869031214249553 4030264092009380589 7295133446158144754 14762312594123758847 9540184699018007593 9309622815731177689 18098190134499769763 9923408115081897331 8351943971764482290 15963518895936859233 3511525834838610485 12383218519150705453 16998713431537263827 11680904352174268316 17474855718112566800 7404815907997107104 12687980552272254189 12641625656577357918 12596899740030857851 2436679125208685106 5094563240036124805 908619646298232843 10155589159744762457 3604558119100596393 4947938375861947790 6170762591389645394 13400464790505089399 13103604676036082765 3660017946731721478 16990579403418675232 383746759981581941 15259687173648593706 18070185340952563170 15682896165579473736 14627217671277629288 15468418565899149435 11384352527583219371 9355254238576808424 12761457755500577330 4143741244428892266 17880788838007484835 15854515114374301717 18103393247676883923 9339516185652506277 11340668822802192504 5757633971280076059 4402316948601061982 5050145408285659748 7714298230185302452 726649571051003154 15136353866098672887 4016709314640929873 781958019118867616 3845765617879326414 16526025308585161417 8378235779527882298 17835447756816328527 12179210693942857976 10663837967377892438 15387131867179059814 1291872278609910541 7558799043748124132 14564567018320967271 15408773885269492784 11172584045964471176 18208427173813336150 16116533751925562754 15771349561831576788 3124814096881376635 14283075439300549488 8143756609994181582 12100093921574751652 8044211373909120023 12459837882895031977 5699943507418270216 17672938666106592862 10955309099486927876 7884858137906766074 11539246124469251362 5191646816341212837 3994520518574207970
open PySem PySem.W PyProof.Rows
set_option maxRecDepth 100000 in
set_option maxHeartbeats 0 in
theorem PySem.Challenge.cw_notekeep_k33_whole_longer_runs_holds : PySem.Challenge.rw_notekeep_k33_whole_longer_runs.Holds := by
  w_on; o_law; k_head; (case hw => w_witness2)
  k_fill
  refine D3.walk_D (l := PySem.Challenge.rw_notekeep_k33_whole_longer_runs) (k := 21) (sp := K33.spLaw) (x := "_law_script") rfl rfl ⟨rfl, by decide, by decide⟩ K33.lawSp (fun w h Y => PySem.W.kIn_of Y) ?F
  case F =>
    intro w mg fa h KX G hmg
    obtain ⟨C, T⟩ : ∃ C, K33.Txt (L2.KOf KX) C := by
     dsimp only [L2.KOf]
     refine' ⟨_,KA.At.mk ?a0 ?l0 ?c0 ?k0,KA.At.mk ?a1 ?l1 ?c1 ?k1,KA.At.mk ?a2 ?l2 ?c2 ?k2,KA.At.mk ?a3 ?l3 ?c3 ?k3,KA.At.mk ?a4 ?l4 ?c4 ?k4,KA.At.mk ?a5 ?l5 ?c5 ?k5,KA.At.mk ?a6 ?l6 ?c6 ?k6,KA.At.mk ?a7 ?l7 ?c7 ?k7,KA.At.mk ?a8 ?l8 ?c8 ?k8,KA.At.mk ?a9 ?l9 ?c9 ?k9,KA.At.mk ?a10 ?l10 ?c10 ?k10,KA.At.mk ?a11 ?l11 ?c11 ?k11,KA.At.mk ?a12 ?l12 ?c12 ?k12,KA.At.mk ?a13 ?l13 ?c13 ?k13,KA.At.mk ?a14 ?l14 ?c14 ?k14,KA.At.mk ?a15 ?l15 ?c15 ?k15,KA.At.mk ?a16 ?l16 ?c16 ?k16,KA.At.mk ?a17 ?l17 ?c17 ?k17,KA.At.mk ?a18 ?l18 ?c18 ?k18,KA.At.mk ?a19 ?l19 ?c19 ?k19,KA.At.mk ?a20 ?l20 ?c20 ?k20,KA.At.mk ?a21 ?l21 ?c21 ?k21,KA.At.mk ?a22 ?l22 ?c22 ?k22,KA.At.mk ?a23 ?l23 ?c23 ?k23,KA.At.mk ?a24 ?l24 ?c24 ?k24,KA.At.mk ?a25 ?l25 ?c25 ?k25,KA.At.mk ?a26 ?l26 ?c26 ?k26,KA.At.mk ?a27 ?l27 ?c27 ?k27,KA.At.mk ?a28 ?l28 ?c28 ?k28,KA.At.mk ?a29 ?l29 ?c29 ?k29,KA.At.mk ?a30 ?l30 ?c30 ?k30,KA.At.mk ?a31 ?l31 ?c31 ?k31,KA.At.mk ?a32 ?l32 ?c32 ?k32,KA.At.mk ?a33 ?l33 ?c33 ?k33,KA.At.mk ?a34 ?l34 ?c34 ?k34,KA.At.mk ?a35 ?l35 ?c35 ?k35,KA.At.mk ?a36 ?l36 ?c36 ?k36,KA.At.mk ?a37 ?l37 ?c37 ?k37,KA.At.mk ?a38 ?l38 ?c38 ?k38,KA.At.mk ?a39 ?l39 ?c39 ?k39,KA.At.mk ?a40 ?l40 ?c40 ?k40,KA.At.mk ?a41 ?l41 ?c41 ?k41,KA.At.mk ?a42 ?l42 ?c42 ?k42,KA.At.mk ?a43 ?l43 ?c43 ?k43,KA.At.mk ?a44 ?l44 ?c44 ?k44,KA.At.mk ?a45 ?l45 ?c45 ?k45,KA.At.mk ?a46 ?l46 ?c46 ?k46,KA.At.mk ?a47 ?l47 ?c47 ?k47,KA.At.mk ?a48 ?l48 ?c48 ?k48,KA.At.mk ?a49 ?l49 ?c49 ?k49,KA.At.mk ?a50 ?l50 ?c50 ?k50,KA.At.mk ?a51 ?l51 ?c51 ?k51,KA.At.mk ?a52 ?l52 ?c52 ?k52,⟨?t0,?u0,?r0⟩,⟨?t1,?u1,?r1⟩,⟨?t2,?u2,?r2⟩,⟨?t3,?u3,?r3⟩,⟨?t4,?u4,?r4⟩,⟨?t5,?u5,?r5⟩,⟨?t6,?u6,?r6⟩,⟨?t7,?u7,?r7⟩,⟨?t8,?u8,?r8⟩,?z0,?z1,?z2,?z3,?z4,?z5,?z6,?z7,?z8,?z9,?z10,?z11,?z12,D3.ClsI.mk' ?e0 ?e1 ?e2 ?e3 ?e4 ?e5 ?e6,D3.AtM.mk ?i00 ?i01 ?i02 ?i03 ?i04,D3.AtM.mk ?i10 ?i11 ?i12 ?i13 ?i14,D3.AtM.mk ?i20 ?i21 ?i22 ?i23 ?i24,D3.AtM.mk ?i30 ?i31 ?i32 ?i33 ?i34,D3.AtM.mk ?i40 ?i41 ?i42 ?i43 ?i44,D3.AtM.mk ?i50 ?i51 ?i52 ?i53 ?i54,D3.AtM.mk ?i60 ?i61 ?i62 ?i63 ?i64,D3.AtM.mk ?i70 ?i71 ?i72 ?i73 ?i74,D3.AtM.mk ?i80 ?i81 ?i82 ?i83 ?i84,D3.AtM.mk ?i90 ?i91 ?i92 ?i93 ?i94,D3.AtM.mk ?i100 ?i101 ?i102 ?i103 ?i104,D3.AtM.mk ?i110 ?i111 ?i112 ?i113 ?i114,D3.AtM.mk ?i120 ?i121 ?i122 ?i123 ?i124,D3.AtM.mk ?i130 ?i131 ?i132 ?i133 ?i134,?n0,?n1,?n2,?n3,?n4,?n5,?n6,?n7⟩
     tm_at "kK 53"
     (case u0 => (with_unfolding_all exact rfl)); (case r0 => exact ⟨_, rfl⟩)
     (case u1 => (with_unfolding_all exact rfl)); (case r1 => exact ⟨_, rfl⟩)
     (case u2 => (with_unfolding_all exact rfl)); (case r2 => exact ⟨_, rfl⟩)
     (case u3 => (with_unfolding_all exact rfl)); (case r3 => exact ⟨_, rfl⟩)
     (case u4 => (with_unfolding_all exact rfl)); (case r4 => exact ⟨_, rfl⟩)
     (case u5 => (with_unfolding_all exact rfl)); (case r5 => exact ⟨_, rfl⟩)
     (case u6 => (with_unfolding_all exact rfl)); (case r6 => exact ⟨_, rfl⟩)
     (case u7 => (with_unfolding_all exact rfl)); (case r7 => exact ⟨_, rfl⟩)
     (case u8 => (with_unfolding_all exact rfl)); (case r8 => exact ⟨_, rfl⟩)
     tm_at "kL z0 z1 z2 z3 z4 z5 z6 z7 z8 z9 z10 z11 z12 e0 e1 e2 e3 e4 e5 e6 i00 i01 i02 i03 i04 i10 i11 i12 i13 i14 i20 i21 i22 i23 i24 i30 i31 i32 i33 i34 i40 i41 i42 i43 i44 i50 i51 i52 i53 i54 i60 i61 i62 i63 i64 i70 i71 i72 i73 i74 i80 i81 i82 i83 i84 i90 i91 i92 i93 i94 i100 i101 i102 i103 i104 i110 i111 i112 i113 i114 i120 i121 i122 i123 i124 i130 i131 i132 i133 i134 n0 n1 n2 n3 n4 n5 n6 n7"
    exact K33.all_mk T KX G hmg
