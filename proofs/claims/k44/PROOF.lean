import PyProof.Rows.All
import Wide.All
import OpenK.AllK
import Wide.FinOn
import Lean
import PyProof.EqAt
import PyProof.EqKinds
import PyProof.TupleCall
import PyProof.ListStr
import PyProof.ZipIter
import PyProof.ListMulRoad
import PyProof.FactsAll.tuple
import PyProof.RaisesMany
import PyProof.PassesOwn
import PyProof.ExcInit
import PyProof.ExcClass2
import PyProof.ExcClass3
import PyProof.InstStoreFacts
import PyProof.InstLoad
import PyProof.ExcArgsOwn
import PyProof.ExcAttrAll.ValueError
import PyProof.ExcBaseAll.ValueError
import OpenK.Peek
import PyProof.NsDelKeeps
import PyProof.RulesAs
import KE.KIsAll
import KE.KDictSum
import PyProof.ConsumeWalk
import PyProof.SetNew
import PyProof.SetRoads
import PyProof.SetKind
import PyProof.SetScanFacts
import PyProof.FactsAll.set
import PyProof.Rows.CountFlat
import PySem.Challenge.RW_notekeep_k44_code_refused
set_option compiler.extract_closed false
section
open Lean
set_option hygiene false
def pO:Nat→Syntax→MacroM (TSyntax `rcasesPat)
|0,_=>Macro.throwUnsupported
|n+1,s=>do
 if s.isOfKind ``Parser.Term.anonymousCtor then
  let p←s[1].getSepArgs.mapM (pO n)
  `(rcasesPat|⟨$[$p],*⟩)
 else if s.isIdent then `(rcasesPat|$(⟨s⟩):ident)
 else if s.isOfKind ``Parser.Term.hole then `(rcasesPat|_)
 else if s.isOfKind ``Parser.Term.paren then pO n s[1]
 else Macro.throwUnsupported
def hI:Nat→Syntax→Nat
|0,_=>0
|n+1,s=>if s.isOfKind ``Parser.Term.syntheticHole then 1 else if s.isOfKind ``Parser.Term.byTactic then 0 else s.getArgs.foldl (λk x=>k+hI n x) 0
def iP (s:Syntax):=s.isOfKind ``Parser.Term.anonymousCtor
def fP (bs:Array Syntax) (b:Term):MacroM Term:=do
 match bs.findIdx? iP with
 |none=>Macro.throwUnsupported
 |some i=>
  if hI 99 b≠0 then Macro.throwUnsupported
  let p←pO 20 bs[i]!
  let m (xs:Array Syntax) (b:Term):MacroM Term:=if xs.isEmpty then pure b else do
   let ys:TSyntaxArray ``Parser.Term.funBinder:=xs.map (⟨·⟩)
   `(fun $ys*=>$b)
  let c←m (bs.extract (i+1) bs.size) b
  m (bs.extract 0 i) (←`(by rintro ($p);exact $c))
def lP (p:Syntax) (v b:Term):MacroM Term:=do
 if iP p&&hI 99 b==0 then
  let p←pO 20 p
  `(by obtain $p :=$v;exact $b)
 else Macro.throwUnsupported
def oP (h:Syntax):Nat→Syntax→StateM (Option (Array Syntax)) Syntax
|0,s=>pure s
|n+1,s=>do
 if s.isOfKind ``Parser.Term.byTactic then return s
 match s with
 |`(fun $bs*=>?_)=>
  let bs:=bs.map (·.raw)
  if bs.any iP then set (some bs);return h else return s
 |_=>return s.setArgs (←s.getArgs.mapM (oP h n))
def rP (t:Term):MacroM (TSyntax `tactic):=do
 if hI 99 t≠1 then Macro.throwUnsupported
 let (t,o):=(oP (←`(?_)) 99 t).run none
 match o with
 |none=>Macro.throwUnsupported
 |some bs=>
  let ps←bs.mapM λb=>do let p←pO 20 b;`(rintroPat|$p:rcasesPat)
  `(tactic|(refine $(⟨t⟩);rintro $ps*))
end
local macro_rules|`(fun $bs*=>$b)=>fP (bs.map (·.raw)) b
local macro_rules|`(let $p:term:=$v;$b)=>lP p v b
local macro_rules|`(tactic|refine $t)=>rP t
set_option Elab.async false
set_option linter.all false
set_option maxRecDepth 100000
namespace L2
open PySem PySem.Spec PyProof.Rows
abbrev Key:=Sum Int Str
def keyIs:Key->Value->Bool
 | .inl k,v=>Value.isInt k v
 | .inr x,v=>Value.isStrOf x v
def keyH (w:World):Key->Int
 | .inl k=>hashInt k
 | .inr x=>hashStr w x
theorem keyIs_shape:∀ {k:Key} {v:Value},keyIs k v=true->(∃ i t,k=Sum.inl i/\v=Value.int i t)\/(∃ x t,k=Sum.inr x/\v=Value.str x t)
 | .inl i,v,h=>by
  obtain ⟨t,e⟩:=Value.isInt_shape (k:=i) (v:=v) h
  exact .inl ⟨i,t,rfl,e⟩
 | .inr x,v,h=>by
  obtain ⟨t,e⟩:=Value.isStrOf_shape (x:=x) (v:=v) h
  exact .inr ⟨x,t,rfl,e⟩
theorem keyIs_int (i:Int) (t:Tok):keyIs (.inl i) (.int i t)=true:=by simp [keyIs,Value.isInt]
theorem keyIs_str (x:Str) (t:Tok):keyIs (.inr x) (.str x t)=true:=by simp [keyIs,Value.isStrOf]
theorem key_ll (a b:Int):decide ((Sum.inl a:Key)=Sum.inl b)=(a == b):=by
 by_cases e:a=b
 ·subst e;simp
 ·have h:¬ (Sum.inl a:Key)=Sum.inl b:=fun q=>e (Sum.inl.inj q)
  rw [decide_eq_false h]
  exact (beq_eq_false_iff_ne.mpr e).symm
theorem key_rr (a b:Str):decide ((Sum.inr a:Key)=Sum.inr b)=decide (a=b):=by
 by_cases e:a=b
 ·subst e;simp
 ·have h:¬ (Sum.inr a:Key)=Sum.inr b:=fun q=>e (Sum.inr.inj q)
  rw [decide_eq_false h,decide_eq_false e]
theorem key_lr (a:Int) (b:Str):decide ((Sum.inl a:Key)=Sum.inr b)=false:=decide_eq_false (fun q=>nomatch q)
theorem key_rl (a:Str) (b:Int):decide ((Sum.inr a:Key)=Sum.inl b)=false:=decide_eq_false (fun q=>nomatch q)
def mixKind (prog:Program) (w:World):PySem.KeyKind prog w Key where
 is:=keyIs
 hash:=keyH w
 inj:=fun v a b ha hb=>by
  rcases keyIs_shape ha with ⟨i,t,rfl,rfl⟩ | ⟨x,t,rfl,rfl⟩
  ·rcases keyIs_shape hb with ⟨j,u,rfl,e⟩ | ⟨y,u,rfl,e⟩
   ·injection e with e1 _;rw [e1]
   ·exact nomatch e
  ·rcases keyIs_shape hb with ⟨j,u,rfl,e⟩ | ⟨y,u,rfl,e⟩
   ·exact nomatch e
   ·injection e with e1 _;rw [e1]
 byValue:=fun k v h=>by
  rcases keyIs_shape h with ⟨i,t,rfl,rfl⟩ | ⟨x,t,rfl,rfl⟩<;>rfl
 pyHash:=fun hv h=>by
  rcases keyIs_shape hv with ⟨i,t,rfl,rfl⟩ | ⟨x,t,rfl,rfl⟩
  ·exact wpAny_pyHash_int h
  ·exact wpAny_pyHash_str h
 eqBool:=fun hu hv h=>by
  rcases keyIs_shape hu with ⟨i,t,rfl,rfl⟩ | ⟨x,t,rfl,rfl⟩
  ·rcases keyIs_shape hv with ⟨j,u,rfl,rfl⟩ | ⟨y,u,rfl,rfl⟩
   ·rw [key_ll] at h;exact wpAny_eqBool_int h
   ·rw [key_lr] at h;exact SeqAt.EqAt.int_str i t y u _ _ _ _ h
  ·rcases keyIs_shape hv with ⟨j,u,rfl,rfl⟩ | ⟨y,u,rfl,rfl⟩
   ·rw [key_rl] at h;exact SeqAt.EqAt.str_int x t j u _ _ _ _ h
   ·rw [key_rr] at h;exact wpAny_eqBool_str h
 «strs»:=fun k x t v h=>by
  rcases keyIs_shape h with ⟨i,u,rfl,e⟩ | ⟨y,u,rfl,e⟩
  ·exact nomatch e
  ·injection e with e1 _
   subst e1
   cases v<;>rfl
theorem mixKind_int (prog:Program) (w:World) (i:Int) (t:Tok):(mixKind prog w).is (.inl i) (.int i t)=true:=keyIs_int i t
theorem mixKind_str (prog:Program) (w:World) (x:Str) (t:Tok):(mixKind prog w).is (.inr x) (.str x t)=true:=keyIs_str x t
inductive V where
 | non | bl (b:Bool) | int (i:Int) | str (x:Str) | byt (b:Array UInt8) | flt (b:UInt64) | ref (a:Addr) | ty (n:String)
 deriving DecidableEq
def RelV:V->Value->Prop
 | .non,u=>u=Value.none
 | .bl b,u=>u=Value.bool b
 | .int i,u=>∃ t,u=Value.int i t
 | .str x,u=>∃ t,u=Value.str x t
 | .byt b,u=>∃ t,u=Value.bytes b t
 | .flt b,u=>∃ t,u=Value.float b t
 | .ref a,u=>u=Value.ref a
 | .ty n,u=>u=Value.type n
abbrev Vals:List V->List Value->Prop:=Paired RelV
theorem Vals.length {xs:List V} {us:List Value} (r:Vals xs us):xs.length=us.length:=Paired.length r
theorem Vals.get:∀ {xs:List V} {us:List Value} {i:Nat} {x:V},Vals xs us->xs[i]?=some x->∃ u,us[i]?=some u/\RelV x u
 | _,_,_,_,.nil,e=>by simp at e
 | _,_,0,_,.cons r _,e=>by simp at e;subst e;exact ⟨_,rfl,r⟩
 | _,_,i+1,x,.cons _ t,e=>by
  obtain ⟨u,h1,h2⟩:=Vals.get (i:=i) (x:=x) t (by simpa using e)
  exact ⟨u,by simpa using h1,h2⟩
theorem Vals.set {x:V} {u:Value} (r:RelV x u):∀ {xs:List V} {us:List Value} (i:Nat),Vals xs us->Vals (xs.set i x) (us.set i u)
 | _,_,_,.nil=>.nil
 | _,_,0,.cons _ t=>.cons r t
 | _,_,i+1,.cons q t=>.cons q (Vals.set r i t)
theorem Vals.append:∀ {xs ys:List V} {us ws:List Value},Vals xs us->Vals ys ws->Vals (xs++ys) (us++ws)
 | _,_,_,_,.nil,s=>s
 | _,_,_,_,.cons r t,s=>.cons r (Vals.append t s)
theorem Vals.take:∀ {xs:List V} {us:List Value} (n:Nat),Vals xs us->Vals (xs.take n) (us.take n)
 | _,_,0,_=>.nil
 | _,_,_+1,.nil=>.nil
 | _,_,n+1,.cons r t=>.cons r (Vals.take n t)
theorem Vals.drop:∀ {xs:List V} {us:List Value} (n:Nat),Vals xs us->Vals (xs.drop n) (us.drop n)
 | _,_,0,r=>r
 | _,_,_+1,.nil=>.nil
 | _,_,n+1,.cons _ t=>Vals.drop n t
def RelO:Option V->Option Value->Prop
 | some v,some u=>RelV v u
 | none,none=>True
 | _,_=>False
def KV {κ:Type}:List (κ × V)->List (κ × Value)->Prop:=Paired fun (p:κ × V) (q:κ × Value)=>p.1=q.1/\RelV p.2 q.2
def kV:Key->V
 | .inl i=>.int i
 | .inr x=>.str x
inductive HO where
 | lst (xs:List V)
 | tup (xs:List V)
 | dK (kvs:List (Key × V)) | dT (kvs:List (List Key × V))
 | set (S:Int->Bool) (n:Nat)
 | ins (C dx:Addr) (fs:List (Str × V))
 | own (x:Addr)
 | xd (fs:List (Str × V))
 | met (f x:Addr)
 | rng (lo hi:Int)
 | frz (o:Obj) (u:HO)
 | tbl (ps:Array Value)
 | ext (φ:Heap->Prop)
abbrev Hp:=Addr->Option HO
def upd (H:Hp) (a:Addr) (o:HO):Hp:=fun b=>if b=a then some o else H b
theorem upd_same {H:Hp} {a:Addr} {o:HO}:upd H a o a=some o:=by unfold upd;rw [if_pos rfl]
theorem upd_ne {H:Hp} {a b:Addr} {o:HO} (h:b≠a):upd H a o b=H b:=by unfold upd;rw [if_neg h]
theorem ne_of {H:Hp} {a b:Addr} {o u:HO} (h:H a=some o) (h':H b=some u) (d:o≠u):a≠b:=by
 intro e;subst e;rw [h] at h';exact d (Option.some.inj h')
theorem ne_of_none {H:Hp} {a b:Addr} {o:HO} (h:H a=some o) (h':H b=none):a≠b:=by
 intro e;subst e;rw [h] at h';cases h'
section
variable (P:Program) (w:World)
def ObjOk (H:Hp) (h:Heap) (a:Addr):HO->Prop
 | .lst xs=>xs.length<=sizeLine/\∃ (its:List Value) (n:Nat),Vals xs its/\h.get? a=some { cls:=.type "list",data:=.seq its.toArray n }
 | .tup xs=>(xs.length<=sizeLine/\∃ o,h.get? a=some o/\o.dict=none)/\∃ its:List Value,Vals xs its/\IsTup h a its.toArray
 | .dK kvs=>kvs.length<=sizeLine/\(a == sysModules)=false/\∃ vs,KV kvs vs/\h.DictOf (mixKind P w) a vs
 | .dT kvs=>kvs.length<=sizeLine/\(a == sysModules)=false/\∃ xs:List (List Key × Addr × Value),
   Paired (fun (p:List Key × V) (q:List Key × Addr × Value)=>p.1=q.1/\H q.2.1=some (.tup (p.1.map kV))/\RelV p.2 q.2.2) kvs xs /\
   ∃ o es ep,h.get? a=some o/\o.ExactDict/\o.data=.dict es ep/\es.toList=xs.map (entryOfKey (tupleKind (mixKind P w)))/\(xs.map (·.1)).Nodup
 | .set S n=>h.SetOf (intKind P w) a S n
 | .ins C dx fs=>H dx=some (.own a)/\fs.length<=1000/\dx≠a/\h.get? a=some (PySem.W.instObj C dx) /\
   ∃ mA,h.Ns1 dx mA/\(∀ f,RelO (fs.lookup f) (mA f))/\PySem.Within mA (fs.map (·.1))
 | .own _=>∃ o,h.get? a=some o
 | .xd fs=>∃ mA,h.Ns1 a mA/\∀ f,RelO (fs.lookup f) (mA f)
 | .rng lo hi=>∃ t u v,h.get? a=some { cls:=.type "range",data:=.fields #[.int lo t,.int hi u,.int 1 v] }
 | .frz o u=>h.get? a=some o/\ObjOk H h a u
 | .tbl ps=>h.get? a=some { cls:=.none,data:=.fields ps }
 | .met f x=>h.get? a=some (PySem.W.methodObj (.ref f) (.ref x))
 | .ext φ=>φ h/\(∃ o,h.get? a=some o)/\∀ h1 h2:Heap,φ h1->(∀ o,h1.get? a=some o->h2.get? a=some o)->φ h2
def HOk (H:Hp) (h:Heap):Prop:=∀ a o,H a=some o->ObjOk P w H h a o
end
section
variable {P:Program} {w:World} {H H':Hp} {h h':Heap} {a:Addr} {o:HO}
theorem ObjOk.lt (x:ObjOk P w H h a o):a < h.objs.size:=by
 cases o with
 | lst xs=>obtain ⟨_,_,_,_,e⟩:=x;exact Heap.lt_size e
 | tup xs=>obtain ⟨_,_,_,p⟩:=x;exact p.lt
 | dK kvs=>obtain ⟨_,_,_,_,o,_,_,e,_⟩:=x;exact Heap.lt_size e
 | dT kvs=>obtain ⟨_,_,_,_,o,_,_,e,_⟩:=x;exact Heap.lt_size e
 | set S n=>obtain ⟨o,_,_,_,e,_⟩:=x;exact Heap.lt_size e
 | ins C dx fs=>obtain ⟨_,_,_,e,_⟩:=x;exact Heap.lt_size e
 | own y=>obtain ⟨_,e⟩:=x;exact Heap.lt_size e
 | xd fs=>obtain ⟨_,⟨_,_,_,e,_⟩,_⟩:=x;exact Heap.lt_size e
 | rng lo hi=>obtain ⟨_,_,_,e⟩:=x;exact Heap.lt_size e
 | frz ob u=>obtain ⟨e,_⟩:=x;exact Heap.lt_size e
 | tbl ps=>exact Heap.lt_size (show h.get? a=some _ from x)
 | met f y=>exact Heap.lt_size (show h.get? a=some _ from x)
 | ext φ=>obtain ⟨_,⟨_,e⟩,_⟩:=x;exact Heap.lt_size e
theorem Paired.mapP {α β:Type} {F G:α->β->Prop}:∀ {l₁:List α} {l₂:List β},Paired F l₁ l₂->(∀ a b,F a b->G a b)->Paired G l₁ l₂
 | _,_,.nil,_=>.nil
 | _,_,.cons r t,f=>.cons (f _ _ r) (Paired.mapP t f)
theorem ObjOk.stay (x:ObjOk P w H h a o) (k:∀ b u,(b=a\/H b=some (.own a))->h.get? b=some u->h'.get? b=some u)
  (ho:∀ b,H b=some (.own a)->H' b=some (.own a)) (ht:∀ b xs,H b=some (.tup xs)->H' b=some (.tup xs)):ObjOk P w H' h' a o:=by
 induction o with
 | lst xs=>obtain ⟨z,its,n,r,e⟩:=x;exact ⟨z,its,n,r,k _ _ (.inl rfl) e⟩
 | tup xs=>obtain ⟨⟨z,o2,e2,c2⟩,its,r,ob,e,c⟩:=x;exact ⟨⟨z,o2,k _ _ (.inl rfl) e2,c2⟩,its,r,ob,k _ _ (.inl rfl) e,c⟩
 | dK kvs=>obtain ⟨z,y,vs,r,ob,es,ep,e,c⟩:=x;exact ⟨z,y,vs,r,ob,es,ep,k _ _ (.inl rfl) e,c⟩
 | dT kvs =>
  obtain ⟨z,y,xs,r,ob,es,ep,e,c⟩:=x
  exact ⟨z,y,xs,Paired.mapP r fun p q z=>⟨z.1,ht _ _ z.2.1,z.2.2⟩,ob,es,ep,k _ _ (.inl rfl) e,c⟩
 | set S n=>obtain ⟨ob,es,ep,t,e,c⟩:=x;exact ⟨ob,es,ep,t,k _ _ (.inl rfl) e,c⟩
 | ins C dx fs =>
  obtain ⟨d,z,ne,e,mA,⟨od,es,ep,e2,c⟩,r⟩:=x
  exact ⟨ho _ d,z,ne,k _ _ (.inl rfl) e,mA,⟨od,es,ep,k _ _ (.inr d) e2,c⟩,r⟩
 | own y=>obtain ⟨ob,e⟩:=x;exact ⟨ob,k _ _ (.inl rfl) e⟩
 | xd fs=>obtain ⟨mA,⟨od,es,ep,e,c⟩,r⟩:=x;exact ⟨mA,⟨od,es,ep,k _ _ (.inl rfl) e,c⟩,r⟩
 | rng lo hi=>obtain ⟨t,u,v,e⟩:=x;exact ⟨t,u,v,k _ _ (.inl rfl) e⟩
 | frz ob u ih=>obtain ⟨e,q⟩:=x;exact ⟨k _ _ (.inl rfl) e,ih q⟩
 | tbl ps =>
  have e:h.get? a=some { cls:=.none,data:=.fields ps }:=x
  show h'.get? a=some { cls:=.none,data:=.fields ps }
  exact k a _ (.inl rfl) e
 | met f y =>
  have e:h.get? a=some (PySem.W.methodObj (.ref f) (.ref y)):=x
  show h'.get? a=some (PySem.W.methodObj (.ref f) (.ref y))
  exact k a _ (.inl rfl) e
 | ext φ=>obtain ⟨p,⟨o,e⟩,st⟩:=x;exact ⟨st _ _ p fun o q=>k _ _ (.inl rfl) q,⟨o,k _ _ (.inl rfl) e⟩,st⟩
theorem HOk.lt (x:HOk P w H h) (e:H a=some o):a < h.objs.size:=(x a o e).lt
theorem HOk.fresh (x:HOk P w H h) (e:h.objs.size<=a):H a=none:=by
 cases q:H a with
 | none=>rfl
 | some u=>exact absurd (Nat.lt_of_lt_of_le (x.lt q) e) (Nat.lt_irrefl _)
theorem HOk.kept (x:HOk P w H h) (k:∀ b u,h.get? b=some u->h'.get? b=some u):HOk P w H h':=fun a o e =>
 (x a o e).stay (fun b u _ q=>k b u q) (fun _ q=>q) fun _ _ q=>q
theorem HOk.laid (x:HOk P w H h) (k:∀ b u,h.get? b=some u->h'.get? b=some u) (hp:h.objs.size<=a) (new:ObjOk P w (upd H a o) h' a o):HOk P w (upd H a o) h':=fun b u e=>by
 have hn:=x.fresh hp
 by_cases hb:b=a
 ·subst hb;rw [upd_same] at e;cases e;exact new
 ·rw [upd_ne hb] at e
  exact (x b u e).stay (fun c v _ q=>k c v q) (fun c q=>by rw [upd_ne (ne_of_none q hn)];exact q) fun c xs q=>by rw [upd_ne (ne_of_none q hn)];exact q
end
def Rd (H:Hp) (a:Addr) (u:HO):Prop:=H a=some u\/∃ o,H a=some (.frz o u)
theorem Rd.ok {P:Program} {w:World} {H:Hp} {h:Heap} {a:Addr} {u:HO} (r:Rd H a u) (x:HOk P w H h):ObjOk P w H h a u:=by
 rcases r with r | ⟨o,r⟩
 ·exact x a u r
 ·obtain ⟨_,q⟩:=x a _ r
  exact q
def Mut:Option HO->Prop
 | some (.lst _)=>True
 | some (.dK _)=>True
 | some (.dT _)=>True
 | some (.set _ _)=>True
 | some (.ins _ _ _)=>True
 | some (.ext _)=>True
 | _=>False
section
variable {P:Program} {w:World} {H:Hp} {h h':Heap} {x e:Addr} {o':HO}
theorem HOk.write (ok:HOk P w H h) (mu:Mut (H x)) (he:e=x\/H e=some (.own x)) (k:∀ b u,b≠e->h.get? b=some u->h'.get? b=some u) (heo:∃ u,h'.get? e=some u)
  (new:ObjOk P w (upd H x o') h' x o'):HOk P w (upd H x o') h':=fun b u q=>by
 have nown:∀ c y,H c=some (.own y)->c≠x:=fun c y r z=>by subst z;rw [r] at mu;exact mu
 have ntup:∀ c xs,H c=some (.tup xs)->c≠x:=fun c xs r z=>by subst z;rw [r] at mu;exact mu
 by_cases hb:b=x
 ·subst hb;rw [upd_same] at q;cases q;exact new
 ·rw [upd_ne hb] at q
  by_cases hbe:b=e
  ·have q':H b=some (.own x):=by
    rcases he with z | z
    ·exact absurd (hbe.trans z) hb
    ·rw [hbe];exact z
   rw [q] at q';cases q'
   obtain ⟨v,hv⟩:=heo
   exact ⟨v,by rw [hbe];exact hv⟩
  ·refine (ok b u q).stay (fun c v hc r=>k c v ?_ r) (fun c r=>by rw [upd_ne (nown c b r)];exact r) fun c xs r=>by rw [upd_ne (ntup c xs r)];exact r
   rcases hc with rfl | hc
   ·exact hbe
   ·rintro rfl
    rcases he with z | z
    ·exact nown c b hc z
    ·rw [hc] at z;cases z;exact hb rfl
end
structure Un (fs ex:List Addr) (H H':Hp) (h h':Heap):Prop where
 keep:∀ b o,h.get? b=some o->H b=none->b∉fs->b∉ex->h'.get? b=some o
 slot:∀ b o,h.get? b=some o->H b=none->b∈fs->b∉ex->∃ sl,h'.get? b=some { o with slots:=sl }
 free:∀ b o,h.get? b=some o->H b=none->b∉ex->H' b=none
 there:∀ b o,h.get? b=some o->b∉ex->∃ o',h'.get? b=some o'
 tups:∀ b xs,H b=some (.tup xs)->H' b=some (.tup xs)
 frzs:∀ b o u,H b=some (.frz o u)->H' b=some (.frz o u)
 tbls:∀ b ps,H b=some (.tbl ps)->∃ more,H' b=some (.tbl (ps++more))
section
variable {fs fs' ex ex':List Addr} {H H1 H2:Hp} {h h1 h2 h':Heap} {a x e:Addr} {o:HO}
theorem Un.any (u:Un fs ex H H1 h h1) {b:Addr} {ob:Obj} (q:h.get? b=some ob) (n:H b=none) (hx:b∉ex):∃ sl,h1.get? b=some { ob with slots:=sl }:=by
 by_cases hb:b∈fs
 ·exact u.slot b ob q n hb hx
 ·exact ⟨ob.slots,u.keep b ob q n hb hx⟩
theorem Un.kept (k:∀ b u,h.get? b=some u->h'.get? b=some u):Un fs ex H H h h' :=
 ⟨fun b ob q _ _ _=>k b ob q,fun b ob q _ _ _=>⟨ob.slots,k b ob q⟩,fun _ _ _ n _=>n,fun b ob q _=>⟨ob,k b ob q⟩,fun _ _ q=>q,fun _ _ _ q=>q,fun _ ps q=>⟨#[],by rw [q];simp⟩⟩
theorem Un.refl:Un fs ex H H h h:=Un.kept fun _ _ q=>q
theorem Un.laid (k:∀ b u,h.get? b=some u->h'.get? b=some u) (hp:h.objs.size<=a) (hn:H a=none):Un fs ex H (upd H a o) h h' where
 keep:=fun b u q _ _ _=>k b u q
 slot:=fun b u q _ _ _=>⟨u.slots,k b u q⟩
 free:=fun b u q n _=>by rw [upd_ne (Nat.ne_of_lt (Nat.lt_of_lt_of_le (Heap.lt_size q) hp))];exact n
 there:=fun b u q _=>⟨u,k b u q⟩
 tups:=fun b xs q=>by rw [upd_ne (ne_of_none q hn)];exact q
 frzs:=fun b u xs q=>by rw [upd_ne (ne_of_none q hn)];exact q
 tbls:=fun b ps q=>⟨#[],by rw [upd_ne (ne_of_none q hn),q];simp⟩
theorem Un.write (mu:Mut (H x)) (he:e=x\/H e=some (.own x)) (k:∀ b u,b≠e->h.get? b=some u->h'.get? b=some u) (heo:∃ u,h'.get? e=some u):Un fs ex H (upd H x o) h h':=by
 have hx:∀ b,H b=none->b≠x:=fun b n z=>by subst z;rw [n] at mu;exact mu
 have hb:∀ b,H b=none->b≠e:=fun b n z=>by
  subst z
  rcases he with r | r
  ·exact hx b n r
  ·rw [n] at r;cases r
 have hm:∀ b u,H b=some u->¬ Mut (some u)->b≠x:=fun b u q nm z=>by subst z;rw [q] at mu;exact nm mu
 refine ⟨fun b u q n _ _=>k b u (hb b n) q,fun b u q n _ _=>⟨u.slots,k b u (hb b n) q⟩,fun b u q n _=>by rw [upd_ne (hx b n)];exact n,fun b u q _=>?_,
  fun b xs q=>by rw [upd_ne (hm b _ q fun z=>z)];exact q,fun b u xs q=>by rw [upd_ne (hm b _ q fun z=>z)];exact q,fun b ps q=>⟨#[],by rw [upd_ne (hm b _ q fun z=>z),q];simp⟩⟩
 by_cases hbe:b=e
 ·subst hbe;exact heo
 ·exact ⟨u,k b u hbe q⟩
end
def trk (h:Heap) (H:Hp):List Addr:=(List.range h.objs.size).filter fun a=>(H a).isSome
def hidT (h:Heap) (H:Hp):Heap:=PySem.W.hideAll h (trk h H)
theorem hidT_size (h:Heap) (H:Hp):(hidT h H).objs.size=h.objs.size:=PySem.W.hideAll_size _ _
theorem hidT_get {h:Heap} {H:Hp} {b:Addr} {o:Obj} (e:h.get? b=some o) (n:H b=none):(hidT h H).get? b=some o :=
 PySem.W.hideAll_get _ e fun hm=>by
  have q:(H b).isSome=true:=(List.mem_filter.mp hm).2
  rw [n] at q;simp at q
theorem of_hidT {h:Heap} {H:Hp} {b:Addr} {o:Obj} (e:(hidT h H).get? b=some o):h.get? b=some o/\H b=none:=by
 have e':h.get? b=some o:=PySem.W.of_hideAll (trk h H) e
 refine ⟨e',?_⟩
 cases q:H b with
 | none=>rfl
 | some x =>
  have hm:b∈trk h H:=List.mem_filter.mpr ⟨List.mem_range.mpr (Heap.lt_size e'),by simp [q]⟩
  have z:(hidT h H).get? b=none:=PySem.W.hideAll_none (trk h H) hm
  rw [z] at e;cases e
def allNews (g h:Heap) (L:Addr):List (Addr × Obj):=(List.range h.objs.size).filterMap fun a=>if a=L\/(g.get? a).isSome=true then none else (h.get? a).map fun o=>(a,o)
def rest (g h:Heap) (L d:Addr):List (Addr × Obj):=(allNews g h L).filter fun p=>decide (p.1≠d)
structure Mod (K:PySem.W.Frag) (mg:Str->Option Value) (base:Heap):Prop where
 kin:K.In base
 glob:base.Ns mainGlobals mg
 blt:∃ mb,base.Ns builtinsNs mb/\∀ x:Str,x ≠ "__name__" -> mb x=bootBuiltins x
 nolimit:base.NoLimit
structure Cx where
 prog:Program
 w:World
 K:PySem.W.Frag
 mg:Str->Option Value
 base:Heap
 A:Around
 N:List Str
 s₀:Shared
 H₀:Hp
 env:Env
 outer:List Env
 stack:List Env
 ex:List Addr
 fn:Str->Bool
 calm:Bool
 pn:List (Addr × Obj)
 xe:Value->Shared->Prop
abbrev HfX (X:Cx) (p:Pos) (e:Expr):Prop:=((backTo p (starEach [e] X.env)).all (fun x=>!x.1) && (backToKw p (keywordEach [] X.env)).all (fun x=>x.1.isSome) && decide (([e] : List Expr).length+([] : List Keyword).length+(if ([] : List Keyword).isEmpty then 0 else 1) < 30))=true
abbrev NpX (X:Cx) (p:Pos):Prop:=(backTo p (starEach ([] : List Expr) X.env)).any (·.1)=false
abbrev SeX (X:Cx) (e:Expr):Prop:=starEach [e] X.env=(false,eval e X.env) :: starEach [] X.env
def frs (l:List Env):List Addr:=l.filterMap (·.frame)
abbrev Cx.fs (X:Cx):List Addr:=frs X.outer
def Vis (sc:Scope) (x:Str):Prop:=sc.names.lookup x=some .local\/sc.names.lookup x=some .cell\/sc.names.lookup x=some .free
def Loc (sc:Scope) (x:Str):Prop:=sc.names.lookup x=some .local\/sc.names.lookup x=some .cell
def Look (env:Env) (h:Heap) (m:Str->Option Value) (x:Str) (u:Value):Prop :=
 (env.kindOf x=some .local/\m x=some u)\/((env.kindOf x=some .cell\/env.kindOf x=some .free)/\∃ c,env.cells.lookup x=some c/\h.IsCell c (some u))
structure Cx.Ok (X:Cx):Prop where
 mod:Mod X.K X.mg X.base
 kind:X.env.scope.kind=.function
 glob:X.env.globals=mainGlobals
 blt:X.env.builtins=builtinsNs
 above:X.s₀.heap.objs.size<=X.env.locals
 inj:∀ x y c,X.env.cells.lookup x=some c->X.env.cells.lookup y=some c->x=y
 has:∀ x,(X.env.kindOf x=some .cell\/X.env.kindOf x=some .free)->∃ c,X.env.cells.lookup x=some c
 cab:∀ x c,X.fn x=true->X.env.cells.lookup x=some c->X.s₀.heap.objs.size<=c
 hd:X.calm=true->X.A.handled=none
 frames:X.A.frames=some X.stack
 stk:X.stack=X.outer\/(X.stack=X.env :: X.outer/\X.env.frame=some X.env.locals)
 exf:∀ b∈X.ex,b≠X.env.locals/\∀ x c,X.env.cells.lookup x=some c->c≠b
 bs:∀ b o,X.base.get? b=some o->X.s₀.heap.get? b=some o/\X.H₀ b=none
 bsz:X.base.objs.size<=X.s₀.heap.objs.size
 noex:∀ b o,X.base.get? b=some o->b∉X.ex
 exfs:∀ b∈X.ex,b∉X.fs
 funs:X.s₀.heap.FunFrames X.base X.outer
 frf:∀ b∈X.fs,X.H₀ b=none
structure Inv (X:Cx) (pins:List (Addr × Obj)) (σ:List (Option V)) (H:Hp) (s:Shared):Prop where
 ok:X.Ok
 os:s.os=X.s₀.os
 bare:AllBare s.gens
 base:Un X.fs X.ex X.H₀ H X.s₀.heap s.heap
 loc:∃ m,s.heap.Ns X.env.locals m/\∀ (i:Nat) (x:Str) (v:V),X.N[i]?=some x->σ[i]?=some (some v)->Vis X.env.scope x->∃ u,RelV v u/\Look X.env s.heap m x u
 cell:∀ x c,X.env.cells.lookup x=some c->∃ v,s.heap.IsCell c v
 free:H X.env.locals=none
 freeC:∀ x c,X.env.cells.lookup x=some c->H c=none
 pin:∀ p∈X.pn++pins,s.heap.get? p.1=some p.2/\H p.1=none/\p.1≠X.env.locals/\p.1∉X.fs/\∀ v,p.2.data≠.cell v
 hok:HOk X.prog X.w H s.heap
 len:σ.length=X.N.length
section
variable {X:Cx} {pins:List (Addr × Obj)} {σ:List (Option V)} {H H':Hp} {s:Shared} {h':Heap}
theorem Cx.Ok.nofr (ok:X.Ok) {b:Addr} {o:Obj} (e:X.base.get? b=some o):b∉X.fs:=fun hb=>by
 have:=(ok.funs.mem hb).1
 rw [e] at this;cases this
theorem Inv.bs (I:Inv X pins σ H s):∀ b o,X.base.get? b=some o->s.heap.get? b=some o/\H b=none:=fun b o e =>
 ⟨I.base.keep b o (I.ok.bs b o e).1 (I.ok.bs b o e).2 (I.ok.nofr e) (I.ok.noex b o e),I.base.free b o (I.ok.bs b o e).1 (I.ok.bs b o e).2 (I.ok.noex b o e)⟩
theorem Inv.bk (I:Inv X pins σ H s):∀ b o,X.base.get? b=some o->s.heap.get? b=some o:=fun b o e=>(I.bs b o e).1
theorem Inv.mod (I:Inv X pins σ H s):Mod X.K X.mg X.base:=I.ok.mod
theorem Inv.kIn (I:Inv X pins σ H s):X.K.In s.heap:=I.ok.mod.kin.keeps I.bk
theorem Inv.lt (I:Inv X pins σ H s):X.env.locals < s.heap.objs.size:=let ⟨_,hn,_⟩:=I.loc;hn.lt
theorem Inv.sz (I:Inv X pins σ H s):X.s₀.heap.objs.size<=s.heap.objs.size:=Nat.le_trans I.ok.above (Nat.le_of_lt I.lt)
theorem Inv.nofs (I:Inv X pins σ H s) {a:Addr} (h:s.heap.objs.size<=a):a∉X.fs:=fun hb=>by
 obtain ⟨_,o,ho,_⟩:=I.ok.funs.mem hb
 exact absurd (Nat.lt_of_lt_of_le (Heap.lt_size ho) (Nat.le_trans I.sz h)) (Nat.lt_irrefl _)
theorem Inv.cne (I:Inv X pins σ H s):∀ x c,X.env.cells.lookup x=some c->c≠X.env.locals:=fun x c e z=>by
 obtain ⟨v,o,ho,hd⟩:=I.cell x c e
 obtain ⟨m,⟨o',es,ep,ho',hd',_⟩,_⟩:=I.loc
 rw [z,ho'] at ho;cases ho;rw [hd'] at hd;cases hd
theorem Inv.funs (I:Inv X pins σ H s):s.heap.FunFrames X.base X.outer:=by
 have all:∀ (l:List Env),(∀ b∈frs l,b∈X.fs)->X.s₀.heap.FunFrames X.base l->s.heap.FunFrames X.base l:=by
  intro l
  induction l with
  | nil=>intro _ _;trivial
  | cons env r ih =>
   intro hs hl
   obtain ⟨hk,⟨L,o,hf,hn,ho,hd⟩,hr⟩:=hl
   have hL:L∈X.fs:=hs L (by unfold frs;rw [List.filterMap_cons,hf];exact List.mem_cons_self)
   obtain ⟨sl,e⟩:=I.base.slot L o ho (I.ok.frf L hL) hL fun z=>I.ok.exfs L z hL
   exact ⟨hk,⟨L,_,hf,hn,e,hd⟩,ih (fun b hb=>hs b (by unfold frs;rw [List.filterMap_cons,hf];exact List.mem_cons_of_mem _ hb)) hr⟩
 exact all X.outer (fun _ hb=>hb) I.ok.funs
theorem Inv.stack (I:Inv X pins σ H s):s.heap.FunFrames X.base X.stack:=by
 rcases I.ok.stk with e | ⟨e,hf⟩
 ·rw [e];exact I.funs
 ·rw [e]
  obtain ⟨m,hn,_⟩:=I.loc
  refine .cons (by rw [I.ok.kind];decide) hf hn ?_ I.funs
  exact Heap.get?_none_of_le (Nat.le_trans I.ok.bsz I.ok.above)
theorem Inv.stkSub (I:Inv X pins σ H s):∀ b∈frs X.stack,b∈X.env.locals :: X.fs:=fun b hb=>by
 rcases I.ok.stk with e | ⟨e,hf⟩
 ·rw [e] at hb;exact List.mem_cons_of_mem _ hb
 ·rw [e] at hb
  unfold frs at hb
  rw [List.filterMap_cons,hf] at hb
  exact hb
theorem Inv.stkFree (I:Inv X pins σ H s):∀ b∈frs X.stack,H b=none:=fun b hb=>by
 rcases List.mem_cons.mp (I.stkSub b hb) with e | hb
 ·rw [e];exact I.free
 ·obtain ⟨_,o,ho,_⟩:=I.ok.funs.mem hb
  exact I.base.free b o ho (I.ok.frf b hb) fun z=>I.ok.exfs b z hb
theorem Inv.step {g':Array GenState} {t':Nat} {d':Drawn} {ch:List Addr} (I:Inv X pins σ H s)
  (hch:∀ b∈ch,(b∈X.ex\/X.s₀.heap.objs.size<=b)/\b≠X.env.locals/\(∀ x c,X.env.cells.lookup x=some c->c≠b)/\∀ p∈X.pn++pins,p.1≠b)
  (keep:∀ b o,b≠X.env.locals->b∉X.fs->b∉ch->s.heap.get? b=some o->H b=none->h'.get? b=some o)
  (slot:∀ b o,b≠X.env.locals->b∈X.fs->b∉ch->s.heap.get? b=some o->H b=none->∃ sl,h'.get? b=some { o with slots:=sl }) (free:∀ b o,b∉ch->s.heap.get? b=some o->H b=none->H' b=none)
  (there:∀ b o,b∉ch->s.heap.get? b=some o->∃ o',h'.get? b=some o')
  (tups:∀ b xs,H b=some (.tup xs)->H' b=some (.tup xs)) (frzs:∀ b o u,H b=some (.frz o u)->H' b=some (.frz o u)) (tbls:∀ b ps,H b=some (.tbl ps)->∃ more,H' b=some (.tbl (ps++more)))
  (ns:∀ m,s.heap.Ns X.env.locals m->h'.Ns X.env.locals m) (hok:HOk X.prog X.w H' h') (hg:AllBare g') :
  Inv X pins σ H' { s with heap:=h',gens:=g',drawn:=d',toks:=t' }:=by
 have neL:∀ b o,X.s₀.heap.get? b=some o->b≠X.env.locals:=fun b o e=>Nat.ne_of_lt (Nat.lt_of_lt_of_le (Heap.lt_size e) I.ok.above)
 have neC:∀ b o,X.s₀.heap.get? b=some o->b∉X.ex->b∉ch:=fun b o e hx hb=>by
  rcases (hch b hb).1 with z | z
  ·exact hx z
  ·exact absurd (Nat.lt_of_lt_of_le (Heap.lt_size e) z) (Nat.lt_irrefl _)
 have cellK:∀ x c,X.env.cells.lookup x=some c->∀ v,s.heap.IsCell c v->h'.IsCell c v:=fun x c e v ⟨o,ho,hd⟩=>by
  have nch:c∉ch:=fun z=>(hch c z).2.2.1 x c e rfl
  by_cases hc:c∈X.fs
  ·obtain ⟨sl,q⟩:=slot c o (I.cne x c e) hc nch ho (I.freeC x c e)
   exact ⟨_,q,hd⟩
  ·exact ⟨o,keep c o (I.cne x c e) hc nch ho (I.freeC x c e),hd⟩
 refine ⟨I.ok,I.os,hg,⟨fun b o e n hb hx=>?_,fun b o e n hb hx=>?_,fun b o e n hx=>?_,fun b o e hx=>?_,fun b xs e=>tups b xs (I.base.tups b xs e),fun b o xs e=>frzs b o xs (I.base.frzs b o xs e),fun b ps e=>?_⟩,?_,fun x c e=>?_,?_,fun x c e=>?_,fun p hp=>?_,hok,I.len⟩
 ·exact keep b o (neL b o e) hb (neC b o e hx) (I.base.keep b o e n hb hx) (I.base.free b o e n hx)
 ·obtain ⟨sl,e1⟩:=I.base.slot b o e n hb hx
  obtain ⟨sl',e2⟩:=slot b _ (neL b o e) hb (neC b o e hx) e1 (I.base.free b o e n hx)
  exact ⟨sl',e2⟩
 ·obtain ⟨o',e1⟩:=I.base.there b o e hx
  exact free b o' (neC b o e hx) e1 (I.base.free b o e n hx)
 ·obtain ⟨o',e1⟩:=I.base.there b o e hx
  exact there b o' (neC b o e hx) e1
 ·obtain ⟨m1,e1⟩:=I.base.tbls b ps e
  obtain ⟨m2,e2⟩:=tbls b _ e1
  exact ⟨m1++m2,by rw [e2,Array.append_assoc]⟩
 ·obtain ⟨m,hn,hl⟩:=I.loc
  refine ⟨m,ns m hn,fun i x v e1 e2 e3=>?_⟩
  obtain ⟨u,r,l⟩:=hl i x v e1 e2 e3
  refine ⟨u,r,?_⟩
  rcases l with l | ⟨k,c,e,z⟩
  ·exact .inl l
  ·exact .inr ⟨k,c,e,cellK x c e _ z⟩
 ·obtain ⟨v,z⟩:=I.cell x c e
  exact ⟨v,cellK x c e v z⟩
 ·obtain ⟨m,⟨o,_,_,ho,_⟩,_⟩:=I.loc
  exact free _ o (fun z=>(hch _ z).2.1 rfl) ho I.free
 ·obtain ⟨v,o,ho,hd⟩:=I.cell x c e
  exact free c o (fun z=>(hch c z).2.2.1 x c e rfl) ho (I.freeC x c e)
 ·obtain ⟨e,n,ne,nf,d⟩:=I.pin p hp
  have nch:p.1∉ch:=fun z=>(hch p.1 z).2.2.2 p hp rfl
  exact ⟨keep p.1 p.2 ne nf nch e n,free p.1 p.2 nch e n,ne,nf,d⟩
theorem Inv.un {t':Nat} (I:Inv X pins σ H s) (u:Un X.fs [] H H' s.heap h') (hok:HOk X.prog X.w H' h'):Inv X pins σ H' { s with heap:=h',toks:=t' }:=by
 obtain ⟨m,⟨o,es,ep,ho,r⟩,_⟩:=id I.loc
 obtain ⟨sl,hL⟩:=u.any ho I.free (by simp)
 exact I.step (g':=s.gens) (d':=s.drawn) (ch:=[]) (fun _ z=>nomatch z) (fun b o _ hb _ e n=>u.keep b o e n hb (by simp)) (fun b o _ hb _ e n=>u.slot b o e n hb (by simp)) (fun b o _ e n=>u.free b o e n (by simp)) (fun b o _ e=>u.there b o e (by simp)) u.tups u.frzs u.tbls (fun m' hm=>by
  obtain ⟨o',es',ep',ho',r'⟩:=hm
  rw [ho] at ho';cases ho'
  exact ⟨_,es',ep',hL,r'⟩) hok I.bare
theorem Inv.call {g':Array GenState} {t':Nat} {d':Drawn} {ch:List Addr} (I:Inv X pins σ H s) (u:Un (frs X.stack) ch H H' s.heap h') (hok:HOk X.prog X.w H' h') (hg:AllBare g')
  (hch:∀ b∈ch,(b∈X.ex\/X.s₀.heap.objs.size<=b)/\b≠X.env.locals/\(∀ x c,X.env.cells.lookup x=some c->c≠b)/\∀ p∈X.pn++pins,p.1≠b) :
  Inv X pins σ H' { s with heap:=h',gens:=g',drawn:=d',toks:=t' }:=by
 obtain ⟨m,⟨o,es,ep,ho,r⟩,_⟩:=id I.loc
 obtain ⟨sl,hL⟩:=u.any ho I.free fun z=>(hch _ z).2.1 rfl
 exact I.step (ch:=ch) hch (fun b o hL hb hc e n=>u.keep b o e n (fun z=>(List.mem_cons.mp (I.stkSub b z)).elim hL hb) hc) (fun b o _ _ hc e n=>u.any e n hc) (fun b o hc e n=>u.free b o e n hc) (fun b o hc e=>u.there b o e hc) u.tups u.frzs u.tbls (fun m' hm=>by
  obtain ⟨o',es',ep',ho',r'⟩:=hm
  rw [ho] at ho';cases ho'
  exact ⟨_,es',ep',hL,r'⟩) hok hg
theorem Inv.turned {t':Nat} {it:Addr} (I:Inv X pins σ H s) (k:∀ b o,b≠it->s.heap.get? b=some o->h'.get? b=some o) (hn:H it=none) (hL:it≠X.env.locals)
  (h1:it∈X.ex\/X.s₀.heap.objs.size<=it) (h2:∀ x c,X.env.cells.lookup x=some c->c≠it) (h3:∀ p∈X.pn++pins,p.1≠it):Inv X pins σ H { s with heap:=h',toks:=t' }:=by
 have nit:∀ b u,H b=some u->b≠it:=fun b u e z=>by rw [z,hn] at e;cases e
 refine I.step (g':=s.gens) (d':=s.drawn) (ch:=[it]) (fun b hb=>?_) (fun b o _ _ hc e _=>k b o (fun z=>hc (by simp [z])) e) (fun b o _ _ hc e _=>⟨o.slots,k b o (fun z=>hc (by simp [z])) e⟩) (fun _ _ _ _ n=>n)
  (fun b o hc e=>⟨o,k b o (fun z=>hc (by simp [z])) e⟩) (fun _ _ e=>e) (fun _ _ _ e=>e) (fun b ps e=>⟨#[],by rw [e];simp⟩) (fun m hm=>?_) (fun b u e=>?_) I.bare
 ·have e:b=it:=by simpa using hb
  subst e
  exact ⟨h1,hL,h2,h3⟩
 ·obtain ⟨o,es,ep,ho,r⟩:=hm
  exact ⟨o,es,ep,k _ o (Ne.symm hL) ho,r⟩
 ·refine (I.hok b u e).stay (fun c v hc q=>k c v ?_ q) (fun _ q=>q) fun _ _ q=>q
  rcases hc with z | z
  ·rw [z];exact nit b u e
  ·exact nit c _ z
theorem Inv.tok (I:Inv X pins σ H s) (t:Nat):Inv X pins σ H { s with toks:=t }:=I.un (h':=s.heap) (t':=t) Un.refl I.hok
theorem Inv.kept {t':Nat} (I:Inv X pins σ H s) (k:∀ b u,s.heap.get? b=some u->h'.get? b=some u):Inv X pins σ H { s with heap:=h',toks:=t' }:=I.un (Un.kept k) (I.hok.kept k)
theorem Inv.laid {a:Addr} {o:HO} {t':Nat} (I:Inv X pins σ H s) (k:∀ b u,s.heap.get? b=some u->h'.get? b=some u) (hp:s.heap.objs.size<=a) (new:ObjOk X.prog X.w (upd H a o) h' a o) :
  Inv X pins σ (upd H a o) { s with heap:=h',toks:=t' }:=I.un (Un.laid k hp (I.hok.fresh hp)) (I.hok.laid k hp new)
theorem Inv.write {x e:Addr} {o:HO} {t':Nat} (I:Inv X pins σ H s) (mu:Mut (H x)) (he:e=x\/H e=some (.own x)) (k:∀ b u,b≠e->s.heap.get? b=some u->h'.get? b=some u) (heo:∃ u,h'.get? e=some u)
  (new:ObjOk X.prog X.w (upd H x o) h' x o):Inv X pins σ (upd H x o) { s with heap:=h',toks:=t' }:=I.un (Un.write mu he k heo) (I.hok.write mu he k heo new)
theorem Inv.pins_of {pins':List (Addr × Obj)} (I:Inv X pins σ H s) (h:∀ p∈pins',s.heap.get? p.1=some p.2/\H p.1=none/\p.1≠X.env.locals/\p.1∉X.fs/\∀ v,p.2.data≠.cell v):Inv X pins' σ H s :=
 ⟨I.ok,I.os,I.bare,I.base,I.loc,I.cell,I.free,I.freeC,fun p hp=>(List.mem_append.mp hp).elim (fun z=>I.pin p (List.mem_append_left _ z)) (h p),I.hok,I.len⟩
theorem nodup_ix {N:List Str} (hN:N.Nodup) {i j:Nat} {x:Str} (a:N[i]?=some x) (b:N[j]?=some x):i=j:=by
 obtain ⟨h1,e1⟩:=List.getElem?_eq_some_iff.mp a
 obtain ⟨h2,e2⟩:=List.getElem?_eq_some_iff.mp b
 exact (List.getElem_inj hN).mp (e1.trans e2.symm)
theorem store_ok2 {M:Model} {A:Around} {E:Value->Shared->Prop} {i:Nat} {x:Str} {v:V} {u:Value} {Q:Unit->Shared->Prop} (I:Inv X pins σ H s) (hN:X.N.Nodup) (hi:X.N[i]?=some x) (hx:Loc X.env.scope x) (r:RelV v u)
  (h:∀ s',Inv X pins (σ.set i (some v)) H s'->(∃ a,Heap.SameBut a s.heap s'.heap/\(a=X.env.locals\/X.env.cells.lookup x=some a))->Q () s') (hf:X.fn x=true\/X.env.scope.names.lookup x=some .local:=by first | exact .inl rfl | exact .inr rfl | assumption):wpAny M A (storeName X.env x u) Q E s:=by
 obtain ⟨m,hn,hl⟩:=id I.loc
 have hcls:(X.env.scope.kind == .class || (X.env.scope.kind == .module && X.env.locals != X.env.globals))=false:=by rw [I.ok.kind];rfl
 have hiσ:i < σ.length:=by rw [I.len];exact (List.getElem?_eq_some_iff.mp hi).1
 have cne:=I.cne
 have tracked:∀ {a:Addr} {h':Heap},(∃ o,s.heap.get? a=some o/\H a=none)->Heap.SameBut a s.heap h'->HOk X.prog X.w H h':=fun {a h'} ha hs b ob e=>by
  obtain ⟨_,_,hfree⟩:=ha
  refine (I.hok b ob e).stay (fun c w' hc q=>(hs.2 c ?_).trans q) (fun _ q=>q) fun _ _ q=>q
  rintro rfl
  rcases hc with rfl | hc
  ·rw [hfree] at e;cases e
  ·rw [hfree] at hc;cases hc
 rcases hx with hk | hk
 ·refine wpAny_storeName_local hk hn (fun h' hn' hs=>?_) hcls
  obtain ⟨oL,_,_,hoL,_⟩:=id hn
  refine h _ ⟨I.ok,I.os,I.bare,⟨fun b o e n hb hx=>?_,fun b o e n hb hx=>?_,I.base.free,fun b o e hx=>?_,I.base.tups,I.base.frzs,I.base.tbls⟩,⟨_,hn',fun j y v' e1 e2 e3=>?_⟩,fun y c e=>?_,I.free,I.freeC,fun p hp=>?_,tracked ⟨oL,hoL,I.free⟩ hs,by simpa using I.len⟩ ⟨_,hs,.inl rfl⟩
  ·exact (hs.2 b (Nat.ne_of_lt (Nat.lt_of_lt_of_le (Heap.lt_size e) I.ok.above))).trans (I.base.keep b o e n hb hx)
  ·obtain ⟨sl,e1⟩:=I.base.slot b o e n hb hx
   exact ⟨sl,(hs.2 b (Nat.ne_of_lt (Nat.lt_of_lt_of_le (Heap.lt_size e) I.ok.above))).trans e1⟩
  ·obtain ⟨o',e1⟩:=I.base.there b o e hx
   exact ⟨o',(hs.2 b (Nat.ne_of_lt (Nat.lt_of_lt_of_le (Heap.lt_size e) I.ok.above))).trans e1⟩
  ·by_cases hj:j=i
   ·subst hj
    rw [hi] at e1;cases e1
    rw [List.getElem?_set_self hiσ] at e2
    cases e2
    exact ⟨u,r,.inl ⟨hk,by simp⟩⟩
   ·rw [List.getElem?_set_ne (Ne.symm hj)] at e2
    obtain ⟨u',r',q⟩:=hl j y v' e1 e2 e3
    refine ⟨u',r',?_⟩
    rcases q with ⟨k,e⟩ | ⟨k,c,e,z⟩
    ·refine .inl ⟨k,?_⟩
     have:y≠x:=fun e=>hj (nodup_ix hN e1 (e ▸ hi))
     simp [this,e]
    ·exact .inr ⟨k,c,e,z.sameBut hs (cne y c e)⟩
  ·obtain ⟨w',z⟩:=I.cell y c e
   exact ⟨w',z.sameBut hs (cne y c e)⟩
  ·obtain ⟨e,n,ne,nf,d⟩:=I.pin p hp
   exact ⟨(hs.2 p.1 ne).trans e,n,ne,nf,d⟩
 ·have hfn:X.fn x=true:=by
   rcases hf with z | z
   ·exact z
   ·rw [z] at hk;cases hk
  obtain ⟨c,hc⟩:=I.ok.has x (.inl hk)
  obtain ⟨w',z⟩:=I.cell x c hc
  refine wpAny_storeName_cell I.ok.kind hk hc z (fun h' hc' hs=>?_)
  obtain ⟨oc,hoc,hocd⟩:=id z
  refine h { s with heap:=h' } ⟨I.ok,I.os,I.bare,⟨fun b o e n hb hx=>?_,fun b o e n hb hx=>?_,I.base.free,fun b o e hx=>?_,I.base.tups,I.base.frzs,I.base.tbls⟩,⟨m,hn.sameBut hs (Ne.symm (cne x c hc)),fun j y v' e1 e2 e3=>?_⟩,fun y c' e=>?_,I.free,I.freeC,fun p hp=>?_,tracked ⟨oc,hoc,I.freeC x c hc⟩ hs,by simpa using I.len⟩ ⟨c,hs,.inr hc⟩
  ·exact (hs.2 b (Nat.ne_of_lt (Nat.lt_of_lt_of_le (Heap.lt_size e) (I.ok.cab x c hfn hc)))).trans (I.base.keep b o e n hb hx)
  ·obtain ⟨sl,e1⟩:=I.base.slot b o e n hb hx
   exact ⟨sl,(hs.2 b (Nat.ne_of_lt (Nat.lt_of_lt_of_le (Heap.lt_size e) (I.ok.cab x c hfn hc)))).trans e1⟩
  ·obtain ⟨o',e1⟩:=I.base.there b o e hx
   exact ⟨o',(hs.2 b (Nat.ne_of_lt (Nat.lt_of_lt_of_le (Heap.lt_size e) (I.ok.cab x c hfn hc)))).trans e1⟩
  ·by_cases hj:j=i
   ·subst hj
    rw [hi] at e1;cases e1
    rw [List.getElem?_set_self hiσ] at e2
    cases e2
    exact ⟨u,r,.inr ⟨.inl hk,c,hc,hc'⟩⟩
   ·rw [List.getElem?_set_ne (Ne.symm hj)] at e2
    obtain ⟨u',r',q⟩:=hl j y v' e1 e2 e3
    refine ⟨u',r',?_⟩
    rcases q with q | ⟨k,c',e,z'⟩
    ·exact .inl q
    ·refine .inr ⟨k,c',e,z'.sameBut hs ?_⟩
     rintro rfl
     exact hj (nodup_ix hN e1 (I.ok.inj _ _ _ e hc ▸ hi))
  ·by_cases hcc:c'=c
   ·subst hcc;exact ⟨_,hc'⟩
   ·obtain ⟨w2,z2⟩:=I.cell y c' e
    exact ⟨w2,z2.sameBut hs hcc⟩
  ·obtain ⟨e,n,ne,nf,d⟩:=I.pin p hp
   refine ⟨(hs.2 p.1 ?_).trans e,n,ne,nf,d⟩
   intro q
   rw [q,hoc] at e
   have q':oc=p.2:=Option.some.inj e
   exact d w' (by rw [<- q'];exact hocd)
theorem store_ok {M:Model} {A:Around} {E:Value->Shared->Prop} {i:Nat} {x:Str} {v:V} {u:Value} {Q:Unit->Shared->Prop} (I:Inv X pins σ H s) (hN:X.N.Nodup) (hi:X.N[i]?=some x) (hx:Loc X.env.scope x) (r:RelV v u)
  (h:∀ s',Inv X pins (σ.set i (some v)) H s'->Q () s') (hf:X.fn x=true\/X.env.scope.names.lookup x=some .local:=by first | exact .inl rfl | exact .inr rfl | assumption):wpAny M A (storeName X.env x u) Q E s :=
 store_ok2 I hN hi hx r (fun s' I' _=>h s' I') hf
theorem Inv.call' {s':Shared} {ch:List Addr} (I:Inv X pins σ H s) (ho:s'.os=s.os) (u:Un (frs X.stack) ch H H' s.heap s'.heap) (hok:HOk X.prog X.w H' s'.heap) (hg:AllBare s'.gens)
  (hch:∀ b∈ch,(b∈X.ex\/X.s₀.heap.objs.size<=b)/\b≠X.env.locals/\(∀ x c,X.env.cells.lookup x=some c->c≠b)/\∀ p∈X.pn++pins,p.1≠b):Inv X pins σ H' s':=by
 obtain ⟨h',g',d',t',o'⟩:=s'
 have e:o'=s.os:=ho
 subst e
 exact I.call (g':=g') (t':=t') (d':=d') u hok hg hch
end
abbrev XK:=Value->Option Addr->Hp->Prop
abbrev St:=List (Option V)
abbrev VK:=V->Hp->Prop
abbrev TE:=St->Hp->VK->Prop
abbrev TT:=St->Hp->(Bool->Hp->Prop)->Prop
abbrev TA:=St->Hp->(List V->Hp->Prop)->Prop
structure Ends where
 nx:St->Hp->Prop
 rt:VK
 bk:St->Hp->Prop:=fun _ _=>False
 ct:St->Hp->Prop:=fun _ _=>False
abbrev TS:=Ends->St->Hp->Prop
def EP (X:Cx) (pins:List (Addr × Obj)) (σ:St) (Q:VK) (u:Value) (s':Shared):Prop:=∃ v H',Inv X pins σ H' s'/\RelV v u/\Q v H'
def TP (X:Cx) (pins:List (Addr × Obj)) (σ:St) (Q:Bool->Hp->Prop) (b:Bool) (s':Shared):Prop:=∃ H',Inv X pins σ H' s'/\Q b H'
def AP (X:Cx) (pins:List (Addr × Obj)) (σ:St) (Q:List V->Hp->Prop) (us:List Value) (s':Shared):Prop:=∃ vs H',Inv X pins σ H' s'/\Vals vs us/\Q vs H'
def SP (X:Cx) (pins:List (Addr × Obj)) (D:Ends) (f:Flow) (s':Shared):Prop :=
 match f with
 | .next=>∃ σ' H',Inv X pins σ' H' s'/\D.nx σ' H'
 | .brk=>∃ σ' H',Inv X pins σ' H' s'/\D.bk σ' H'
 | .cont=>∃ σ' H',Inv X pins σ' H' s'/\D.ct σ' H'
 | .ret u=>∃ v σ' H',Inv X pins σ' H' s'/\RelV v u/\D.rt v H'
def PE (X:Cx) (e:Expr) (t:TE):Prop :=
 ∀ (pins:List (Addr × Obj)) (s:Shared) (σ:St) (H:Hp) (Q:VK),Inv X pins σ H s->t σ H Q->wpAny (model X.prog X.w) X.A (eval e X.env) (EP X pins σ Q) X.xe s
def PA (X:Cx) (es:List Expr) (t:TA):Prop :=
 ∀ (pos:Pos) (pins:List (Addr × Obj)) (s:Shared) (σ:St) (H:Hp) (Q:List V->Hp->Prop),Inv X pins σ H s->t σ H Q->wpAny (model X.prog X.w) X.A (spliced (backTo pos (starEach es X.env))) (AP X pins σ Q) X.xe s
def PSs (X:Cx) (st:List Stmt) (t:TS):Prop :=
 ∀ (pins:List (Addr × Obj)) (s:Shared) (σ:St) (H:Hp) (D:Ends),Inv X pins σ H s->t D σ H->wpAny (model X.prog X.w) X.A (execs st X.env) (SP X pins D) X.xe s
theorem thn {α:Type} {t:Sem α} {Q Q':α->Shared->Prop} {M:Model} {A:Around} {E:Value->Shared->Prop} {s:Shared} (h:wpAny M A t Q E s) (hQ:∀ a s,Q a s->Q' a s):wpAny M A t Q' E s:=wpAny_mono h hQ fun _ _ x=>x
section
variable {X:Cx}
def tVar (i:Nat):TE:=fun σ H Q=>∃ v,σ[i]?=some (some v)/\Q v H
def tC (v:V):TE:=fun _ H Q=>Q v H
theorem pe_var {i:Nat} {x:Str} {pos:Pos} (hN:X.N[i]?=some x) (hv:Vis X.env.scope x) (hd:(x == ("__debug__" : Str))=false:=by decide) (hcd:(x == ("__classdict__" : Str))=false:=by decide):PE X (.Name x pos) (tVar i):=by
 intro pins s σ H Q I h
 obtain ⟨v,e,h⟩:=h
 obtain ⟨m,hn,hl⟩:=I.loc
 obtain ⟨u,r,l⟩:=hl i x v hN e hv
 have fin:EP X pins σ Q u s:=⟨v,H,I,r,h⟩
 rcases l with ⟨hk,hm⟩ | ⟨hk,c,hc,hcell⟩
 ·exact wpAny_Name (wpAny_loadName_local I.ok.kind hk hn hm fin) hd
 ·rcases hk with hk | hk
  ·exact wpAny_Name (wpAny_loadName_cell I.ok.kind hk hc hcell fin) hd
  ·exact wpAny_Name (wpAny_loadName_free I.ok.kind hk hc hcell fin hcd) hd
theorem pe_int {i j pos}:PE X (.Constant (.int i) j pos) (tC (.int i)):=fun _ _ _ H _ I h=>wpAny_Constant_int ⟨.int i,H,I.tok _,⟨_,rfl⟩,h⟩
theorem pe_bl {b j pos}:PE X (.Constant (.bool b) j pos) (tC (.bl b)):=fun _ _ _ H _ I h=>Constant_bool ⟨.bl b,H,I,rfl,h⟩
theorem pe_non {j pos}:PE X (.Constant .none j pos) (tC .non):=fun _ _ _ H _ I h=>Constant_none ⟨.non,H,I,rfl,h⟩
theorem pe_str {x j pos}:PE X (.Constant (.str x) j pos) (tC (.str x)):=fun _ _ _ H _ I h=>Calls.Constant_str ⟨.str x,H,I.tok _,⟨_,rfl⟩,h⟩
def Gl (X:Cx) (x:Str):Prop:=X.env.kindOf x=some .globalImplicit
theorem ld_glob {E:Value->Shared->Prop} {pins:List (Addr × Obj)} {s:Shared} {σ:St} {H:Hp} {x:Str} {u:Value} {pos:Pos} {Q:Value->Shared->Prop} (I:Inv X pins σ H s) (hg:Gl X x) (hm:X.mg x=some u) (h:Q u s)
  (hd:(x == ("__debug__" : Str))=false:=by decide):wpAny (model X.prog X.w) X.A (eval (.Name x pos) X.env) Q E s :=
 Calls.Name_function_global I.ok.kind hg (Calls.loadGlobal_global (by rw [I.ok.glob];exact I.mod.glob.keeps I.bk) hm h) hd
theorem ld_blt {E:Value->Shared->Prop} {pins:List (Addr × Obj)} {s:Shared} {σ:St} {H:Hp} {x:Str} {u:Value} {pos:Pos} {Q:Value->Shared->Prop} (I:Inv X pins σ H s) (hg:Gl X x) (hm:X.mg x=none) (hv:bootBuiltins x=some u) (h:Q u s)
  (hn:x ≠ "__name__" := by decide) (hd:(x == ("__debug__" : Str))=false:=by decide):wpAny (model X.prog X.w) X.A (eval (.Name x pos) X.env) Q E s:=by
 obtain ⟨mb,h1,h2⟩:=I.mod.blt
 exact Calls.Name_function_global I.ok.kind hg (Calls.loadGlobal_builtin (by rw [I.ok.glob];exact I.mod.glob.keeps I.bk) hm (by rw [I.ok.blt];exact h1.keeps I.bk) ((h2 x hn).trans hv) h) hd
theorem pe_glob {x:Str} {v:V} {u:Value} {pos:Pos} (hg:Gl X x) (hm:X.mg x=some u) (r:RelV v u) (hd:(x == ("__debug__" : Str))=false:=by decide):PE X (.Name x pos) (tC v) :=
 fun _ _ _ H _ I h=>ld_glob I hg hm ⟨v,H,I,r,h⟩ hd
theorem pe_bltn {x:Str} {v:V} {u:Value} {pos:Pos} (hg:Gl X x) (hm:X.mg x=none) (hv:bootBuiltins x=some u) (r:RelV v u) (hn:x ≠ "__name__" := by decide) (hd:(x == ("__debug__" : Str))=false:=by decide):PE X (.Name x pos) (tC v) :=
 fun _ _ _ H _ I h=>ld_blt I hg hm hv ⟨v,H,I,r,h⟩ hn hd
variable {a b:Expr} {ta tb:TE} {pos:Pos}
variable {tA tB':TT} {rest:List Expr}
end
def SqL (K:PySem.W.Frag) (H:Hp) (a:Addr) (xs:List V):Prop :=
 Rd H a (.lst xs) \/
  ∃ (o:Obj) (its:Array Value) (n:Nat),K.lookup a=some o/\o.cls=.type "list" /\ o.dict=none/\o.data=.seq its n/\its.size<=sizeLine/\Vals xs its.toList
def SqT (K:PySem.W.Frag) (H:Hp) (a:Addr) (xs:List V):Prop :=
 Rd H a (.tup xs) \/
  ∃ (o:Obj) (its:Array Value) (n:Nat),K.lookup a=some o/\o.cls=.type "tuple" /\ o.data=.seq its n/\its.size<=sizeLine/\Vals xs its.toList
def absV:Value->Option V
 | .none=>some .non
 | .bool b=>some (.bl b)
 | .int i _=>some (.int i)
 | .str x _=>some (.str x)
 | .bytes b _=>some (.byt b)
 | .float b _=>some (.flt b)
 | .ref a=>some (.ref a)
 | .type n=>some (.ty n)
 | _=>none
theorem RelV.abs {x:V} {u:Value} (r:RelV x u):absV u=some x:=by
 cases x with
 | non=>cases r;rfl
 | bl _=>cases r;rfl
 | int _=>obtain ⟨t,rfl⟩:=r;rfl
 | str _=>obtain ⟨t,rfl⟩:=r;rfl
 | byt _=>obtain ⟨t,rfl⟩:=r;rfl
 | flt _=>obtain ⟨t,rfl⟩:=r;rfl
 | ref _=>cases r;rfl
 | ty _=>cases r;rfl
theorem RelV.inj {x y:V} {u:Value} (r:RelV x u) (q:RelV y u):x=y:=Option.some.inj (r.abs.symm.trans q.abs)
theorem Vals.inj:∀ {xs ys:List V} {us:List Value},Vals xs us->Vals ys us->xs=ys
 | _,_,_,.nil,.nil=>rfl
 | _,_,_,.cons r t,.cons r' t'=>by rw [r.inj r',Vals.inj t t']
section
variable {X:Cx} {pins:List (Addr × Obj)} {σ:St} {H:Hp} {s:Shared} {a:Addr} {xs ys:List V}
theorem SqL.of {K:PySem.W.Frag} (h:H a=some (.lst xs)):SqL K H a xs:=.inl (.inl h)
theorem SqT.of {K:PySem.W.Frag} (h:H a=some (.tup xs)):SqT K H a xs:=.inl (.inl h)
theorem Inv.list (I:Inv X pins σ H s) (h:SqL X.K H a xs):∃ its:List Value,Vals xs its/\PlainL s.heap a its.toArray/\xs.length<=sizeLine:=by
 rcases h with h | ⟨o,its,n,hk,hc,hd,hs,hz,r⟩
 ·obtain ⟨z,its,n,r,e⟩:=h.ok I.hok
  exact ⟨its,r,⟨_,n,e,rfl,rfl,rfl⟩,z⟩
 ·refine ⟨its.toList,r,⟨o,n,I.kIn a o hk,hc,hd,by simpa using hs⟩,?_⟩
  have e:=r.length
  simp only [Array.length_toList] at e
  omega
theorem Inv.tuple (I:Inv X pins σ H s) (h:SqT X.K H a xs):∃ its:List Value,Vals xs its/\IsTup s.heap a its.toArray/\xs.length<=sizeLine:=by
 rcases h with h | ⟨o,its,n,hk,hc,hs,hz,r⟩
 ·obtain ⟨z,its,r,p⟩:=h.ok I.hok
  exact ⟨its,r,p,z.1⟩
 ·refine ⟨its.toList,r,⟨o,I.kIn a o hk,hc,n,by simpa using hs⟩,?_⟩
  have e:=r.length
  simp only [Array.length_toList] at e
  omega
theorem Inv.list_inj (I:Inv X pins σ H s) (h:SqL X.K H a xs) (h':SqL X.K H a ys):xs=ys:=by
 obtain ⟨its,r,⟨o,n,e,_,_,d⟩,_⟩:=I.list h
 obtain ⟨its',r',⟨o',n',e',_,_,d'⟩,_⟩:=I.list h'
 rw [e] at e';cases e'
 rw [d] at d'
 injection d' with d1 _
 have:its=its':=by simpa using congrArg Array.toList d1
 subst this
 exact r.inj r'
theorem Inv.tuple_inj (I:Inv X pins σ H s) (h:SqT X.K H a xs) (h':SqT X.K H a ys):xs=ys:=by
 obtain ⟨its,r,⟨o,e,_,n,d⟩,_⟩:=I.tuple h
 obtain ⟨its',r',⟨o',e',_,n',d'⟩,_⟩:=I.tuple h'
 rw [e] at e';cases e'
 rw [d] at d'
 injection d' with d1 _
 have:its=its':=by simpa using congrArg Array.toList d1
 subst this
 exact r.inj r'
end
abbrev Cx.wish (X:Cx) (E:Value->Shared->Prop):Cx:={ X with xe:=E }
abbrev Cx.nox (X:Cx):Cx:=X.wish fun _ _=>False
theorem Cx.Ok.wish {X:Cx} (ok:X.Ok) (E:Value->Shared->Prop):(X.wish E).Ok :=
 ⟨ok.mod,ok.kind,ok.glob,ok.blt,ok.above,ok.inj,ok.has,ok.cab,ok.hd,ok.frames,ok.stk,ok.exf,ok.bs,ok.bsz,ok.noex,ok.exfs,ok.funs,ok.frf⟩
theorem Cx.Ok.unwish {X:Cx} {E:Value->Shared->Prop} (ok:(X.wish E).Ok):X.Ok :=
 ⟨ok.mod,ok.kind,ok.glob,ok.blt,ok.above,ok.inj,ok.has,ok.cab,ok.hd,ok.frames,ok.stk,ok.exf,ok.bs,ok.bsz,ok.noex,ok.exfs,ok.funs,ok.frf⟩
section
variable {X:Cx} {pins:List (Addr × Obj)} {σ:St} {H:Hp} {s:Shared} {E:Value->Shared->Prop}
theorem Inv.wish (I:Inv X pins σ H s) (E:Value->Shared->Prop):Inv (X.wish E) pins σ H s:=⟨I.ok.wish E,I.os,I.bare,I.base,I.loc,I.cell,I.free,I.freeC,I.pin,I.hok,I.len⟩
theorem Inv.unwish (I:Inv (X.wish E) pins σ H s):Inv X pins σ H s:=⟨I.ok.unwish,I.os,I.bare,I.base,I.loc,I.cell,I.free,I.freeC,I.pin,I.hok,I.len⟩
theorem SP.unwish {D:Ends} {f:Flow} {s':Shared} (h:SP (X.wish E) pins D f s'):SP X pins D f s':=by
 cases f with
 | next=>obtain ⟨σ',H',I,q⟩:=h;exact ⟨σ',H',I.unwish,q⟩
 | brk=>obtain ⟨σ',H',I,q⟩:=h;exact ⟨σ',H',I.unwish,q⟩
 | cont=>obtain ⟨σ',H',I,q⟩:=h;exact ⟨σ',H',I.unwish,q⟩
 | ret u=>obtain ⟨v,σ',H',I,r,q⟩:=h;exact ⟨v,σ',H',I.unwish,r,q⟩
theorem PSs.nox {st:List Stmt} {t:TS} (h:PSs X.nox st t):PSs X st t:=fun pins s σ H D I hw =>
 wpAny_mono (h pins s σ H D (I.wish _) hw) (fun _ _ q=>q.unwish) fun _ _ z=>False.elim z
end
section
variable {X:Cx} {st:Stmt} {rest:List Stmt} {t u:TS} {e:Expr} {te:TE} {pos:Pos}
theorem Inv.quiet {pins:List (Addr × Obj)} {σ:St} {H:Hp} {s:Shared} (I:Inv X pins σ H s):interactive X.env=false:=by simp [interactive,I.ok.kind]
end
abbrev TSet:=V->V->V->Hp->(Hp->Prop)->Prop
def PSet (X:Cx) (t:TSet):Prop :=
 ∀ (pins:List (Addr × Obj)) (s:Shared) (σ:St) (H:Hp) (o i v:V) (ov iv u:Value) (Q:Hp->Prop),Inv X pins σ H s->RelV o ov->RelV i iv->RelV v u->t o i v H Q ->
  wpAny (model X.prog X.w) X.A (setItem ov iv u) (fun _ s'=>∃ H',Inv X pins σ H' s'/\Q H') X.xe s
section
variable {X:Cx} {pos:Pos}
end
section
variable {X:Cx} {pos:Pos}
end
structure It where
 go:Nat->Hp->Prop
 yld:Nat->Hp->V->Hp->Prop
 stop:Nat->Hp->Prop
def FpOk (X:Cx) (pins:List (Addr × Obj)) (H:Hp) (b:Addr):Prop :=
 H b=none/\b≠X.env.locals/\b∉X.fs/\(b∈X.ex\/X.s₀.heap.objs.size<=b)/\(∀ x c,X.env.cells.lookup x=some c->c≠b)/\∀ p∈X.pn++pins,p.1≠b
theorem Inv.fpOk {X:Cx} {pins:List (Addr × Obj)} {σ:St} {H H':Hp} {s:Shared} {b:Addr} (I:Inv X pins σ H s) (hb:s.heap.objs.size<=b) (hn:H' b=none):FpOk X pins H' b:=by
 refine ⟨hn,Nat.ne_of_gt (Nat.lt_of_lt_of_le I.lt hb),I.nofs hb,.inr (Nat.le_trans I.sz hb),fun x c e z=>?_,fun p hp z=>?_⟩
 ·obtain ⟨v,q⟩:=I.cell x c e
  exact absurd (Nat.lt_of_lt_of_le q.lt (by rw [z];exact hb)) (Nat.lt_irrefl _)
 ·exact absurd (Nat.lt_of_lt_of_le (Heap.lt_size (I.pin p hp).1) (by rw [z];exact hb)) (Nat.lt_irrefl _)
structure Turn (P:Program) (w:World) (K:PySem.W.Frag) (tg:Expr) (J:It) (fp:List Addr) (it:Addr) (tn:Nat->Heap->Prop):Prop where
 mem:it∈fp
 obj:∀ i h,tn i h->∀ b∈fp,∃ o,h.get? b=some o/\∀ v,o.data≠.cell v
 keep:∀ i h h',tn i h->(∀ b∈fp,∀ o,h.get? b=some o->h'.get? b=some o)->tn i h'
 item:∀ (X:Cx),X.prog=P->X.w=w->X.K=K->X.calm=true->∀ (i:Nat) (pins:List (Addr × Obj)) (s:Shared) (σ:St) (H:Hp) (E:Value->Shared->Prop),Inv X pins σ H s->(∀ b∈fp,FpOk X pins H b)->tn i s.heap->J.go i H ->
  wpAny (model P w) X.A (pyNext (.ref it)) (fun r s1=>∃ u,r=some u /\
   wpAny (model P w) X.A (letOwnedTupleGo tg (.ref it) u) (fun _ s2=>∃ x H',Inv X pins σ H' s2/\RelV x u/\J.yld i H x H'/\tn (i+1) s2.heap/\∀ b∈fp,H' b=none) E s1) E s
 done:∀ (X:Cx),X.prog=P->X.w=w->X.K=K->X.calm=true->∀ (i:Nat) (pins:List (Addr × Obj)) (s:Shared) (σ:St) (H:Hp) (E:Value->Shared->Prop),Inv X pins σ H s->(∀ b∈fp,FpOk X pins H b)->tn i s.heap->J.stop i H ->
  wpAny (model P w) X.A (pyNext (.ref it)) (fun r s1=>r=none/\Inv X pins σ H s1) E s
 self:∀ (A:Around) (i:Nat) (s:Shared) (Q:Value->Shared->Prop) (E:Value->Shared->Prop),tn i s.heap->Q (.ref it) s->wpAny (model P w) A (pyIter (.ref it)) Q E s
abbrev TI:=St->Hp->(It->Hp->Prop)->Prop
def PIE (X:Cx) (pins:List (Addr × Obj)) (σ:St) (tg:Expr) (R:It->Hp->Prop) (itv:Value) (s2:Shared):Prop :=
 ∃ (it:Addr) (fp:List Addr) (tn:Nat->Heap->Prop) (J:It) (H':Hp),itv=.ref it/\Inv X pins σ H' s2/\Turn X.prog X.w X.K tg J fp it tn/\tn 0 s2.heap/\(∀ b∈fp,FpOk X pins H' b)/\R J H'
def PI (X:Cx) (tg iter:Expr) (wi:TI):Prop :=
 ∀ (pins:List (Addr × Obj)) (s:Shared) (σ:St) (H:Hp) (R:It->Hp->Prop),Inv X pins σ H s->wi σ H R ->
  wpAny (model X.prog X.w) X.A (eval iter X.env) (fun v s1=>wpAny (model X.prog X.w) X.A (pyIter v) (PIE X pins σ tg R) X.xe s1) X.xe s
theorem go_of {M : Model} {A : Around} {E : Value → Shared → Prop} {s : Shared} {tg : Expr} {it : Addr} {u : Value} {o : Obj} {n : String} {vs : Array Value} {Q : Unit → Shared → Prop} (ho : s.heap.get? it = some o) (hc : o.cls = .type n) (hd : o.data = .fields vs)
    (hn : ["enumerate", "zip", "dict_itemiterator", "dict_reverseitemiterator", "odict_iterator", "itertools.zip_longest", "itertools.pairwise"].contains n = false) (hQ : Q () s) : wpAny M A (letOwnedTupleGo tg (.ref it) u) Q E s := by
  unfold letOwnedTupleGo
  cases tg <;> first
    | exact wpAny_pure hQ
    | (cases u <;> first
        | exact wpAny_pure hQ
        | (refine wpAny_bind (wpAny_load ho ?_)
           rw [hc, hd]
           show wpAny M A (if (["enumerate", "zip", "dict_itemiterator", "dict_reverseitemiterator", "odict_iterator", "itertools.zip_longest", "itertools.pairwise"].contains n && vs[0]? == some (rawInt _)) = true then _ else _) Q E s
           rw [if_neg (by intro h; rw [hn, Bool.false_and] at h; cases h)]
           exact wpAny_pure hQ))
 --odd
def Itl (K:PySem.W.Frag) (a:Addr):It :=
 ⟨fun i H=>∃ xs x,SqL K H a xs/\xs[i]?=some x,fun i H x H'=>H'=H/\∀ xs,SqL K H a xs->xs[i]?=some x,fun i H=>∃ xs,SqL K H a xs/\xs.length<=i⟩
def Itt (K:PySem.W.Frag) (a:Addr):It :=
 ⟨fun i H=>∃ xs x,SqT K H a xs/\xs[i]?=some x,fun i H x H'=>H'=H/\∀ xs,SqT K H a xs->xs[i]?=some x,fun i H=>∃ xs,SqT K H a xs/\xs.length<=i⟩
def Itr (lo:Int) (n:Nat):It:=⟨fun i _=>i < n,fun i H x H'=>H'=H/\x=.int (lo+i),fun i _=>n<=i⟩
theorem turn_list {P:Program} {w:World} {K:PySem.W.Frag} {tg:Expr} (a it:Addr):Turn P w K tg (Itl K a) [it] it (fun i h=>h.IsListIter it a i) where
 mem:=by simp
 obj:=fun i h st b hb=>by
  have e:b=it:=by simpa using hb
  subst e
  obtain ⟨o,e,c,d⟩:=st
  exact ⟨o,e,fun v z=>by rw [d] at z;cases z⟩
 keep:=fun i h h' st k=>st.at fun o e=>k it (by simp) o e
 item:=by
  intro X hP hw hK hc i pins s σ H E I hf st hg
  subst hP hw hK
  obtain ⟨xs,x,hq,hx⟩:=hg
  obtain ⟨its,rv,p,hz⟩:=I.list hq
  obtain ⟨u,hu,ru⟩:=rv.get hx
  obtain ⟨f0,f1,f2,f3,f4,f5⟩:=hf it (by simp)
  refine wpAny_pyNext_list_item st p.isList (x:=u) (by simpa using hu) fun h' st' sb=>?_
  have I1:Inv X pins σ H { s with heap:=h' }:=I.turned (t':=s.toks) (fun b o hb e=>(sb.2 b hb).trans e) f0 f1 f3 f4 f5
  obtain ⟨o,e,c,d⟩:=id st'
  exact ⟨u,rfl,go_of (s:={ s with heap:=h' }) e c d (by decide) ⟨x,H,I1,ru,⟨rfl,fun ys hy=>by rw [I.list_inj hy hq];exact hx⟩,st',fun b hb=>(hf b hb).1⟩⟩
 done:=by
  intro X hP hw hK hc i pins s σ H E I hf st hg
  subst hP hw hK
  obtain ⟨xs,hq,hx⟩:=hg
  obtain ⟨its,rv,p,hz⟩:=I.list hq
  obtain ⟨f0,f1,f2,f3,f4,f5⟩:=hf it (by simp)
  have hl:=rv.length
  exact wpAny_pyNext_list_end (I.ok.hd hc) st p.isList (by simp;omega) fun h' eb=>⟨rfl,I.turned (t':=s.toks) (fun b o hb e=>eb b o hb e) f0 f1 f3 f4 f5⟩
 self:=fun _ _ _ _ _ st h=>wpAny_pyIter_listiter st h
theorem turn_tuple {P:Program} {w:World} {K:PySem.W.Frag} {tg:Expr} (a it:Addr):Turn P w K tg (Itt K a) [it] it (fun i h=>h.IsTupleIter it a i) where
 mem:=by simp
 obj:=fun i h st b hb=>by
  have e:b=it:=by simpa using hb
  subst e
  obtain ⟨o,e,c,d⟩:=st
  exact ⟨o,e,fun v z=>by rw [d] at z;cases z⟩
 keep:=fun i h h' st k=>st.at fun o e=>k it (by simp) o e
 item:=by
  intro X hP hw hK hc i pins s σ H E I hf st hg
  subst hP hw hK
  obtain ⟨xs,x,hq,hx⟩:=hg
  obtain ⟨its,rv,p,hz⟩:=I.tuple hq
  obtain ⟨u,hu,ru⟩:=rv.get hx
  obtain ⟨f0,f1,f2,f3,f4,f5⟩:=hf it (by simp)
  refine wpAny_pyNext_tuple_item st (show s.heap.IsTuple a its.toArray from p) (x:=u) (by simpa using hu) fun h' st' sb=>?_
  have I1:Inv X pins σ H { s with heap:=h' }:=I.turned (t':=s.toks) (fun b o hb e=>(sb.2 b hb).trans e) f0 f1 f3 f4 f5
  obtain ⟨o,e,c,d⟩:=id st'
  exact ⟨u,rfl,go_of (s:={ s with heap:=h' }) e c d (by decide) ⟨x,H,I1,ru,⟨rfl,fun ys hy=>by rw [I.tuple_inj hy hq];exact hx⟩,st',fun b hb=>(hf b hb).1⟩⟩
 done:=by
  intro X hP hw hK hc i pins s σ H E I hf st hg
  subst hP hw hK
  obtain ⟨xs,hq,hx⟩:=hg
  obtain ⟨its,rv,p,hz⟩:=I.tuple hq
  obtain ⟨f0,f1,f2,f3,f4,f5⟩:=hf it (by simp)
  have hl:=rv.length
  exact wpAny_pyNext_tuple_end (I.ok.hd hc) st (show s.heap.IsTuple a its.toArray from p) (by simp;omega) fun h' eb=>⟨rfl,I.turned (t':=s.toks) (fun b o hb e=>eb b o hb e) f0 f1 f3 f4 f5⟩
 self:=fun _ _ _ _ _ st h=>wpAny_pyIter_tupleiter st h
theorem turn_range {P:Program} {w:World} {K:PySem.W.Frag} {tg:Expr} (it:Addr) (lo:Int) (n:Nat):Turn P w K tg (Itr lo n) [it] it (fun i h=>IsRangeIter h it (lo+(i:Nat) * 1) ((n:Int) - (i:Nat)) 1) where
 mem:=by simp
 obj:=fun i h st b hb=>by
  have e:b=it:=by simpa using hb
  subst e
  exact ⟨_,st,fun v z=>by
   have z':Data.fields _=Data.cell v:=z
   cases z'⟩
 keep:=fun i h h' st k=>k it (by simp) _ st
 item:=by
  intro X hP hw hK hc i pins s σ H E I hf st hg
  subst hP hw hK
  obtain ⟨f0,f1,f2,f3,f4,f5⟩:=hf it (by simp)
  have W:=Walks.range (prog:=X.prog) (w:=X.w) (I.ok.hd hc) it lo 1 n
  refine W.item i s _ _ hg st fun v h' tk hv st' kk=>?_
  obtain ⟨t,rfl⟩:=hv
  have I1:Inv X pins σ H { s with heap:=h',toks:=tk }:=I.turned (fun b o hb e=>kk b o (by simpa using hb) e) f0 f1 f3 f4 f5
  refine ⟨_,rfl,go_of (s:={ s with heap:=h',toks:=tk }) (n := "range_iterator") st' rfl rfl (by decide) ⟨.int (lo+i),H,I1,⟨t,?_⟩,⟨rfl,rfl⟩,st',fun b hb=>(hf b hb).1⟩⟩
  rw [Int.mul_one]
 done:=by
  intro X hP hw hK hc i pins s σ H E I hf st hg
  subst hP hw hK
  obtain ⟨f0,f1,f2,f3,f4,f5⟩:=hf it (by simp)
  exact wpAny_pyNext_range_end (I.ok.hd hc) st (by have:n<=i:=hg;omega) fun h' eb=>⟨rfl,I.turned (t':=s.toks) (fun b o hb e=>eb b o hb e) f0 f1 f3 f4 f5⟩
 self:=fun _ _ _ _ _ st h=>wpAny_pyIter_rangeiter st h
section
variable {X:Cx} {tg:Expr}
def iList (K:PySem.W.Frag) (tl:TE):TI:=fun σ H R=>tl σ H fun x H1=>∃ a,x=.ref a/\(∃ xs,SqL K H1 a xs)/\R (Itl K a) H1
def iTup (K:PySem.W.Frag) (tl:TE):TI:=fun σ H R=>tl σ H fun x H1=>∃ a,x=.ref a/\(∃ xs,SqT K H1 a xs)/\R (Itt K a) H1
theorem pi_list {l:Expr} {tl:TE} (hl:PE X l tl):PI X tg l (iList X.K tl):=by
 intro pins s σ H R I h
 refine thn (hl pins s σ H _ I h) fun v s1 ⟨x,H1,I1,r1,q1⟩=>?_
 obtain ⟨a,e,⟨xs,hq⟩,q⟩:=q1
 subst e
 cases r1
 obtain ⟨its,rv,p,hz⟩:=I1.list hq
 refine wpAny_pyIter_list p.isList ?_
 refine ⟨s1.heap.objs.size,[s1.heap.objs.size],_,_,H1,rfl,I1.kept (t':=s1.toks) fun b o e=>Heap.get?_push_of_some _ e,turn_list a _,⟨_,Heap.get?_push_size _ rfl,rfl,rfl⟩,fun b hb=>?_,q⟩
 have e:b=s1.heap.objs.size:=by simpa using hb
 subst e
 exact I1.fpOk (Nat.le_refl _) (I1.hok.fresh (Nat.le_refl _))
theorem pi_tup {l:Expr} {tl:TE} (hl:PE X l tl):PI X tg l (iTup X.K tl):=by
 intro pins s σ H R I h
 refine thn (hl pins s σ H _ I h) fun v s1 ⟨x,H1,I1,r1,q1⟩=>?_
 obtain ⟨a,e,⟨xs,hq⟩,q⟩:=q1
 subst e
 cases r1
 obtain ⟨its,rv,p,hz⟩:=I1.tuple hq
 refine wpAny_pyIter_tuple (show s1.heap.IsTuple a its.toArray from p) ?_
 refine ⟨s1.heap.objs.size,[s1.heap.objs.size],_,_,H1,rfl,I1.kept (t':=s1.toks) fun b o e=>Heap.get?_push_of_some _ e,turn_tuple a _,⟨_,Heap.get?_push_size _ rfl,rfl,rfl⟩,fun b hb=>?_,q⟩
 have e:b=s1.heap.objs.size:=by simpa using hb
 subst e
 exact I1.fpOk (Nat.le_refl _) (I1.hok.fresh (Nat.le_refl _))
theorem range_it {pins:List (Addr × Obj)} {σ:St} {H:Hp} {s:Shared} {R:It->Hp->Prop} {E:Value->Shared->Prop} {lo hi:Int} {t u v:Tok} {tk:Nat} (I:Inv X pins σ H s) (h1:-(2 ^ 62)<=lo) (h2:lo < 2 ^ 62) (h3:-(2 ^ 62)<=hi) (h4:hi < 2 ^ 62)
  (q:R (Itr lo (hi - lo).toNat) H):wpAny (model X.prog X.w) X.A (pyIter (.ref s.heap.objs.size)) (PIE X pins σ tg R) E { s with heap:=s.heap.push { cls:=.type "range",data:=.fields #[.int lo t,.int hi u,.int 1 v] },toks:=tk }:=by
 refine wpAny_pyIter_range (IsRange.new ..) (small_one h1 h2 h3 h4) ?_
 have I1:Inv X pins σ H { s with heap:=s.heap.push { cls:=.type "range",data:=.fields #[.int lo t,.int hi u,.int 1 v] },toks:=tk }:=I.kept fun b o e=>Heap.get?_push_of_some _ e
 refine ⟨(s.heap.push { cls:=.type "range",data:=.fields #[.int lo t,.int hi u,.int 1 v] }).objs.size,[(s.heap.push { cls:=.type "range",data:=.fields #[.int lo t,.int hi u,.int 1 v] }).objs.size],_,_,H,rfl,
  I1.kept (t':=tk) fun b o e=>Heap.get?_push_of_some _ e,turn_range _ lo (hi - lo).toNat,?_,fun b hb=>?_,q⟩
 ·have e1:lo+((0:Nat):Int) * 1=lo:=by simp
  have e2:(((hi - lo).toNat:Nat):Int) - ((0:Nat):Int)=Builtin.Range.rangeSize lo hi 1:=by rw [rangeSize_one];split<;>omega
  show IsRangeIter _ _ (lo+((0:Nat):Int) * 1) ((((hi - lo).toNat:Nat):Int) - ((0:Nat):Int)) 1
  rw [e1,e2]
  exact Heap.get?_push_size _ rfl
 ·have e:b=(s.heap.push { cls:=.type "range",data:=.fields #[.int lo t,.int hi u,.int 1 v] }).objs.size:=by simpa using hb
  subst e
  exact I1.fpOk (Nat.le_refl _) (I1.hok.fresh (Nat.le_refl _))
def iRng1 (ta:TA):TI:=fun σ H R=>ta σ H fun vs H1=>∃ j:Int,vs=[.int j]/\-(2 ^ 62)<=j/\j < 2 ^ 62/\R (Itr 0 j.toNat) H1
theorem pi_range1 {a:Expr} {ta:TA} {p pos:Pos} (hg:Gl X "range") (hm:X.mg "range" = none) (ha:PA X [a] ta) (hs:starEach [a] X.env=[(false,eval a X.env)]:=by rfl):PI X tg (.Call (.Name "range" p) [a] [] pos) (iRng1 ta):=by
 intro pins s σ H R I h
 refine Call_ (ld_blt I hg hm boot_range (PyProof.Rows.callWith_type1 (thn (ha pos pins s σ H _ I h) fun us s1 ⟨vs,H1,I1,r1,q1⟩=>?_) hs rfl))
 obtain ⟨j,e,q1,q2,q⟩:=q1
 subst e
 cases r1 with
 | cons r rr =>
  cases rr
  obtain ⟨t,rfl⟩:=r
  exact call_range_1 (range_it I1 (by omega) (by omega) q1 q2 (by simpa using q))
def pinsAt (fp:List Addr) (h:Heap):List (Addr × Obj):=fp.filterMap fun b=>(h.get? b).map fun o=>(b,o)
theorem mem_pinsAt {fp:List Addr} {h:Heap} {b:Addr} {o:Obj} (hb:b∈fp) (e:h.get? b=some o):(b,o)∈pinsAt fp h:=List.mem_filterMap.mpr ⟨b,hb,by rw [e];rfl⟩
theorem of_pinsAt {fp:List Addr} {h:Heap} {p:Addr × Obj} (hp:p∈pinsAt fp h):p.1∈fp/\h.get? p.1=some p.2:=by
 obtain ⟨b,hb,e⟩:=List.mem_filterMap.mp hp
 cases q:h.get? b with
 | none=>rw [q] at e;cases e
 | some o =>
  rw [q] at e
  have e':(b,o)=p:=Option.some.inj e
  subst e'
  exact ⟨hb,q⟩
theorem Inv.pinned {pins:List (Addr × Obj)} {σ:St} {H:Hp} {s:Shared} {fp:List Addr} (I:Inv X pins σ H s) (hf:∀ b∈fp,FpOk X pins H b) (ho:∀ b∈fp,∃ o,s.heap.get? b=some o/\∀ v,o.data≠.cell v):Inv X (pins++pinsAt fp s.heap) σ H s :=
 I.pins_of fun p hp=>(List.mem_append.mp hp).elim (fun z=>I.pin p (List.mem_append_right _ z)) fun z=>by
  obtain ⟨hb,e⟩:=of_pinsAt z
  obtain ⟨f0,f1,f2,_⟩:=hf p.1 hb
  obtain ⟨o,e',d⟩:=ho p.1 hb
  rw [e] at e';cases e'
  exact ⟨e,f0,f1,f2,d⟩
theorem Inv.unpinned {pins pl:List (Addr × Obj)} {σ:St} {H:Hp} {s:Shared} (I:Inv X (pins++pl) σ H s):Inv X pins σ H s:=I.pins_of fun p hp=>I.pin p (List.mem_append_right _ (List.mem_append_left _ hp))
end
abbrev R2:=V->V->Hp->VK->Prop
def OpR (X:Cx) (f:Value->Value->Sem Value) (r:R2):Prop :=
 ∀ (pins:List (Addr × Obj)) (s:Shared) (σ:St) (H:Hp) (x y:V) (v u:Value) (Q:VK),Inv X pins σ H s->RelV x v->RelV y u->r x y H Q ->
  wpAny (model X.prog X.w) X.A (f v u) (EP X pins σ Q) X.xe s
def UnR (X:Cx) (f:Value->Sem Value) (r:V->Hp->VK->Prop):Prop :=
 ∀ (pins:List (Addr × Obj)) (s:Shared) (σ:St) (H:Hp) (x:V) (v:Value) (Q:VK),Inv X pins σ H s->RelV x v->r x H Q ->
  wpAny (model X.prog X.w) X.A (f v) (EP X pins σ Q) X.xe s
def CallR (X:Cx) (f:Value) (r:List V->Hp->VK->Prop):Prop :=
 ∀ (pins:List (Addr × Obj)) (s:Shared) (σ:St) (H:Hp) (xs:List V) (us:List Value) (Q:VK),Inv X pins σ H s->Vals xs us->r xs H Q ->
  wpAny (model X.prog X.w) X.A (call f us) (EP X pins σ Q) X.xe s
def TruR (X:Cx) (r:V->Hp->(Bool->Hp->Prop)->Prop):Prop :=
 ∀ (pins:List (Addr × Obj)) (s:Shared) (σ:St) (H:Hp) (x:V) (v:Value) (Q:Bool->Hp->Prop),Inv X pins σ H s->RelV x v->r x H Q ->
  wpAny (model X.prog X.w) X.A (truthy v) (TP X pins σ Q) X.xe s
def rI (C:Int->Int->Prop) (g:Int->Int->V):R2:=fun x y H Q=>∃ i j,x=.int i/\y=.int j/\C i j/\Q (g i j) H
def rI0 (g:Int->Int->V):R2:=fun x y H Q=>∃ i j,x=.int i/\y=.int j/\Q (g i j) H
def rU (g:Int->V):V->Hp->VK->Prop:=fun x H Q=>∃ i,x=.int i/\Q (g i) H
section
variable {X:Cx} {a b c:Expr} {ta tb tc:TE} {pos:Pos}
theorem opI {f:Value->Value->Sem Value} {C:Int->Int->Prop} {g:Int->Int->Int}
  (rule:∀ (i j:Int) (t u:Tok) (s:Shared) (Q:Value->Shared->Prop) (E:Value->Shared->Prop),C i j->Q (.int (g i j) s.toks) { s with toks:=s.toks+1 }->wpAny (model X.prog X.w) X.A (f (.int i t) (.int j u)) Q E s) :
  OpR X f (rI C fun i j=>.int (g i j)):=by
 intro pins s σ H x y v u Q I rx ry h
 obtain ⟨i,j,rfl,rfl,hc,q⟩:=h
 obtain ⟨t,rfl⟩:=rx
 obtain ⟨t',rfl⟩:=ry
 exact rule i j t t' s _ _ hc ⟨.int (g i j),H,I.tok _,⟨_,rfl⟩,q⟩
theorem opI0 {f:Value->Value->Sem Value} {g:Int->Int->Int}
  (rule:∀ (i j:Int) (t u:Tok) (s:Shared) (Q:Value->Shared->Prop) (E:Value->Shared->Prop),Q (.int (g i j) s.toks) { s with toks:=s.toks+1 }->wpAny (model X.prog X.w) X.A (f (.int i t) (.int j u)) Q E s) :
  OpR X f (rI0 fun i j=>.int (g i j)):=by
 intro pins s σ H x y v u Q I rx ry h
 obtain ⟨i,j,rfl,rfl,q⟩:=h
 obtain ⟨t,rfl⟩:=rx
 obtain ⟨t',rfl⟩:=ry
 exact rule i j t t' s _ _ ⟨.int (g i j),H,I.tok _,⟨_,rfl⟩,q⟩
theorem opB0 {f:Value->Value->Sem Value} {g:Int->Int->Bool}
  (rule:∀ (i j:Int) (t u:Tok) (s:Shared) (Q:Value->Shared->Prop) (E:Value->Shared->Prop),Q (.bool (g i j)) s->wpAny (model X.prog X.w) X.A (f (.int i t) (.int j u)) Q E s) :
  OpR X f (rI0 fun i j=>.bl (g i j)):=by
 intro pins s σ H x y v u Q I rx ry h
 obtain ⟨i,j,rfl,rfl,q⟩:=h
 obtain ⟨t,rfl⟩:=rx
 obtain ⟨t',rfl⟩:=ry
 exact rule i j t t' s _ _ ⟨.bl (g i j),H,I,rfl,q⟩
def CPow (i j:Int):Prop:=0<=j/\j<=1000000/\i.natAbs < 2 ^ 64
theorem op_add:OpR X (binaryOp .Add) (rI0 fun i j=>.int (i+j)):=opI0 fun _ _ _ _ _ _ _ q=>add_int q
theorem op_sub:OpR X (binaryOp .Sub) (rI0 fun i j=>.int (i - j)):=opI0 fun _ _ _ _ _ _ _ q=>sub_int q
theorem op_modN:OpR X (binaryOp .Mod) (rI (fun _ j=>j≠0) fun i j=>.int (i.fmod j)):=opI fun _ _ _ _ _ _ _ hc q=>mod_int' hc q
theorem op_pow:OpR X (binaryOp .Pow) (rI CPow fun i j=>.int (i ^ j.toNat)):=opI fun _ _ _ _ _ _ _ hc q=>pow_int_small hc.1 hc.2.1 hc.2.2 q
theorem unI {f:Value->Sem Value} {g:Int->Int}
  (rule:∀ (i:Int) (t:Tok) (s:Shared) (Q:Value->Shared->Prop) (E:Value->Shared->Prop),Q (.int (g i) s.toks) { s with toks:=s.toks+1 }->wpAny (model X.prog X.w) X.A (f (.int i t)) Q E s) :
  UnR X f (rU fun i=>.int (g i)):=by
 intro pins s σ H x v Q I rx h
 obtain ⟨i,rfl,q⟩:=h
 obtain ⟨t,rfl⟩:=rx
 exact rule i t s _ _ ⟨.int (g i),H,I.tok _,⟨_,rfl⟩,q⟩
theorem un_neg:UnR X (unaryOp .USub) (rU fun i=>.int (-i)):=unI fun _ _ _ _ _ q=>neg_int q
end
def scal:V->V->Bool
 | .non,.non=>true | .non,.int _=>true | .int _,.non=>true | .non,.bl _=>true | .bl _,.non=>true | .non,.str _=>true | .str _,.non=>true
 | .int _,.int _=>true | .bl _,.bl _=>true | .str _,.str _=>true | .byt _,.byt _=>true
 | .int _,.str _=>true | .str _,.int _=>true | .bl _,.str _=>true | .str _,.bl _=>true
 | _,_=>false
def rEq:R2:=fun x y H Q=>scal x y=true/\Q (.bl (decide (x=y))) H
def rNe:R2:=fun x y H Q=>scal x y=true/\Q (.bl (!decide (x=y))) H
theorem dec_int {i j:Int}:decide (V.int i=V.int j)=(i == j):=by
 rw [Bool.eq_iff_iff]
 simp
theorem dec_bl {i j:Bool}:decide (V.bl i=V.bl j)=(i == j):=by
 rw [Bool.eq_iff_iff]
 simp
theorem dec_str {i j:Str}:decide (V.str i=V.str j)=(i == j):=by
 rw [Bool.eq_iff_iff]
 simp
theorem dec_byt {i j:Array UInt8}:decide (V.byt i=V.byt j)=(i.toList == j.toList):=by
 rw [Bool.eq_iff_iff]
 cases i
 cases j
 simp
section
variable {X:Cx} {a b c:Expr} {ta tb tc:TE} {pos:Pos}
theorem fin_bl {pins:List (Addr × Obj)} {σ:St} {H:Hp} {s:Shared} {Q:VK} {k k':Bool} (I:Inv X pins σ H s) (q:Q (.bl k) H) (e:k=k'):EP X pins σ Q (.bool k') s:=by
 subst e
 exact ⟨.bl k,H,I,rfl,q⟩
theorem op_eq:OpR X (compareOp .Eq) rEq:=by
 intro pins s σ H x y v u Q I rx ry h
 obtain ⟨hs,q⟩:=h
 cases x with
 | non =>
  cases rx
  cases y with
  | non=>cases ry;exact PySem.EqNone.eq_none_none (fin_bl I q (by simp))
  | bl j=>cases ry;exact PySem.EqNone.eq_none_bool (fin_bl I q (by simp))
  | int j=>obtain ⟨t',rfl⟩:=ry;exact PySem.EqNone.eq_none_int (fin_bl I q (by simp))
  | str j=>obtain ⟨t',rfl⟩:=ry;exact PySem.EqNone.eq_none_str (fin_bl I q (by simp))
  | _=>exact absurd (show false=true from hs) Bool.false_ne_true
 | bl i =>
  cases rx
  cases y with
  | non=>cases ry;exact PySem.EqNone.eq_bool_none (fin_bl I q (by simp))
  | bl j=>cases ry;exact eq_bool (fin_bl I q dec_bl)
  | str j=>obtain ⟨t',rfl⟩:=ry;exact PySem.EqMixed.eq_bool_str (fin_bl I q (by simp))
  | _=>exact absurd (show false=true from hs) Bool.false_ne_true
 | int i =>
  obtain ⟨t,rfl⟩:=rx
  cases y with
  | non=>cases ry;exact PySem.EqNone.eq_int_none (fin_bl I q (by simp))
  | int j=>obtain ⟨t',rfl⟩:=ry;exact eq_int (fin_bl I q dec_int)
  | str j=>obtain ⟨t',rfl⟩:=ry;exact PySem.EqMixed.eq_int_str (fin_bl I q (by simp))
  | _=>exact absurd (show false=true from hs) Bool.false_ne_true
 | str i =>
  obtain ⟨t,rfl⟩:=rx
  cases y with
  | non=>cases ry;exact PySem.EqNone.eq_str_none (fin_bl I q (by simp))
  | bl j=>cases ry;exact PySem.EqMixed.eq_str_bool (fin_bl I q (by simp))
  | int j=>obtain ⟨t',rfl⟩:=ry;exact PySem.EqMixed.eq_str_int (fin_bl I q (by simp))
  | str j=>obtain ⟨t',rfl⟩:=ry;exact eq_str (fin_bl I q dec_str)
  | _=>exact absurd (show false=true from hs) Bool.false_ne_true
 | byt i =>
  obtain ⟨t,rfl⟩:=rx
  cases y with
  | byt j=>obtain ⟨t',rfl⟩:=ry;exact PySem.W.eq_bytes (fin_bl I q dec_byt)
  | _=>exact absurd (show false=true from hs) Bool.false_ne_true
 | _=>cases y<;>exact absurd (show false=true from hs) Bool.false_ne_true
theorem op_ne:OpR X (compareOp .NotEq) rNe:=by
 intro pins s σ H x y v u Q I rx ry h
 obtain ⟨hs,q⟩:=h
 cases x with
 | non =>
  cases rx
  cases y with
  | non=>cases ry;exact PySem.EqNone.ne_none_none (fin_bl I q (by simp))
  | bl j=>cases ry;exact PySem.EqNone.ne_none_bool (fin_bl I q (by simp))
  | int j=>obtain ⟨t',rfl⟩:=ry;exact PySem.EqNone.ne_none_int (fin_bl I q (by simp))
  | str j=>obtain ⟨t',rfl⟩:=ry;exact PySem.EqNone.ne_none_str (fin_bl I q (by simp))
  | _=>exact absurd (show false=true from hs) Bool.false_ne_true
 | bl i =>
  cases rx
  cases y with
  | non=>cases ry;exact PySem.EqNone.ne_bool_none (fin_bl I q (by simp))
  | bl j=>cases ry;exact ne_bool (fin_bl I q (congrArg not dec_bl))
  | str j=>obtain ⟨t',rfl⟩:=ry;exact PySem.EqMixed.ne_bool_str (fin_bl I q (by simp))
  | _=>exact absurd (show false=true from hs) Bool.false_ne_true
 | int i =>
  obtain ⟨t,rfl⟩:=rx
  cases y with
  | non=>cases ry;exact PySem.EqNone.ne_int_none (fin_bl I q (by simp))
  | int j=>obtain ⟨t',rfl⟩:=ry;exact ne_int (fin_bl I q (congrArg not dec_int))
  | str j=>obtain ⟨t',rfl⟩:=ry;exact PySem.EqMixed.ne_int_str (fin_bl I q (by simp))
  | _=>exact absurd (show false=true from hs) Bool.false_ne_true
 | str i =>
  obtain ⟨t,rfl⟩:=rx
  cases y with
  | non=>cases ry;exact PySem.EqNone.ne_str_none (fin_bl I q (by simp))
  | bl j=>cases ry;exact PySem.EqMixed.ne_str_bool (fin_bl I q (by simp))
  | int j=>obtain ⟨t',rfl⟩:=ry;exact PySem.EqMixed.ne_str_int (fin_bl I q (by simp))
  | str j=>obtain ⟨t',rfl⟩:=ry;exact ne_str (fin_bl I q (congrArg not dec_str))
  | _=>exact absurd (show false=true from hs) Bool.false_ne_true
 | byt i =>
  obtain ⟨t,rfl⟩:=rx
  cases y with
  | byt j=>obtain ⟨t',rfl⟩:=ry;exact PySem.W.ne_bytes (fin_bl I q (congrArg not dec_byt))
  | _=>exact absurd (show false=true from hs) Bool.false_ne_true
 | _=>cases y<;>exact absurd (show false=true from hs) Bool.false_ne_true
theorem op_lt:OpR X (compareOp .Lt) (rI0 fun i j=>.bl (decide (i < j))):=opB0 fun _ _ _ _ _ _ _ q=>lt_int q
theorem op_gt:OpR X (compareOp .Gt) (rI0 fun i j=>.bl (decide (j < i))):=opB0 fun _ _ _ _ _ _ _ q=>gt_int q
theorem op_notN:OpR X (compareOp .IsNot) (fun x y H Q=>y=.non/\Q (.bl (!decide (x=.non))) H):=by
 intro pins s σ H x y v u Q I rx ry h
 obtain ⟨rfl,q⟩:=h
 cases ry
 refine isnot_none_gen (fin_bl I q ?_)
 cases x<;>first
  | (cases rx;rfl)
  | (obtain ⟨t,rfl⟩:=rx;rfl)
theorem OpR.or {f:Value->Value->Sem Value} {r r':R2} (h:OpR X f r) (h':OpR X f r'):OpR X f (fun x y H Q=>r x y H Q\/r' x y H Q):=by
 intro pins s σ H x y v u Q I rx ry q
 rcases q with q | q
 ·exact h pins s σ H x y v u Q I rx ry q
 ·exact h' pins s σ H x y v u Q I rx ry q
theorem nomark (b:Expr) {op:CmpOp} (h:op≠.In:=by decide) (h2:op≠.NotIn:=by decide):behindInMarks op b=false:=by
 have e1:(op == CmpOp.In)=false:=by cases op<;>first | rfl | exact absurd rfl h
 have e2:(op == CmpOp.NotIn)=false:=by cases op<;>first | rfl | exact absurd rfl h2
 cases b<;>simp [behindInMarks,e1,e2]
def TruV (K:PySem.W.Frag) (x:V) (H:Hp) (k:Bool):Prop :=
 match x with
 | .non=>k=false
 | .bl b=>k=b
 | .int i=>k=(i != 0)
 | .str y=>y.length<=sizeLine/\k=((y.length:Int) != 0)
 | .byt y=>y.size<=sizeLine/\k=((y.size:Int) != 0)
 | .ref p=>(∃ xs,SqL K H p xs/\k=!xs.isEmpty)\/(∃ xs,SqT K H p xs/\k=!xs.isEmpty)\/∃ kvs,H p=some (.dK kvs)/\k=!kvs.isEmpty
 | _=>False
theorem isEmpty_kv {κ:Type} {kvs:List (κ × V)} {vs:List (κ × Value)} (r:KV kvs vs):(!vs.isEmpty)=!kvs.isEmpty:=by
 cases r<;>rfl
theorem isEmpty_of {xs:List V} {its:List Value} (r:Vals xs its):(!its.toArray.isEmpty)=!xs.isEmpty:=by
 cases r<;>simp
theorem line63:(sizeLine:Nat) < 2 ^ 63:=by rw [sizeLine_eq];decide
theorem tru_ok:TruR X (fun x H Q=>∃ k,TruV X.K x H k/\Q k H):=by
 intro pins s σ H x v Q I rx h
 obtain ⟨k,e,q⟩:=h
 have hl:=line63
 have hs:sizeLine=16777216:=sizeLine_eq
 cases x with
 | non =>
  cases rx
  have e':k=false:=e
  subst e'
  exact truthy_none ⟨H,I,q⟩
 | bl b =>
  cases rx
  have e':k=b:=e
  subst e'
  exact wpAny_truthy_bool ⟨H,I,q⟩
 | int i =>
  obtain ⟨t,rfl⟩:=rx
  have e':k=(i != 0):=e
  subst e'
  exact PySem.P.truthy_int ⟨H,I,q⟩
 | str y =>
  obtain ⟨t,rfl⟩:=rx
  obtain ⟨hy,e'⟩:y.length<=sizeLine/\k=((y.length:Int) != 0):=e
  subst e'
  exact PySem.P.truthy_str (by omega) ⟨H,I.tok _,q⟩
 | byt y =>
  obtain ⟨t,rfl⟩:=rx
  obtain ⟨hy,e'⟩:y.size<=sizeLine/\k=((y.size:Int) != 0):=e
  subst e'
  exact PySem.W.truthy_bytes (by omega) ⟨H,I.tok _,q⟩
 | ref p =>
  cases rx
  have e':(∃ xs,SqL X.K H p xs/\k=!xs.isEmpty)\/(∃ xs,SqT X.K H p xs/\k=!xs.isEmpty)\/∃ kvs,H p=some (.dK kvs)/\k=!kvs.isEmpty:=e
  rcases e' with ⟨xs,hx,e'⟩ | ⟨xs,hx,e'⟩ | ⟨kvs,hx,e'⟩
  ·subst e'
   obtain ⟨its,r,pl,hz⟩:=I.list hx
   have hlen:=r.length
   exact wpAny_truthy_list pl.isList (by simp only [List.size_toArray];omega) ⟨H,I.tok _,by rw [isEmpty_of r];exact q⟩
  ·subst e'
   obtain ⟨its,r,pl,hz⟩:=I.tuple hx
   have hlen:=r.length
   exact truthy_tuple pl (by simp only [List.size_toArray];omega) ⟨H,I.tok _,by rw [isEmpty_of r];exact q⟩
  ·subst e'
   obtain ⟨hz,hS,vs,r,m⟩:kvs.length<=sizeLine/\(p == sysModules)=false/\∃ vs,KV kvs vs/\s.heap.DictOf (mixKind X.prog X.w) p vs:=I.hok p _ hx
   have hlen:kvs.length=vs.length:=Paired.length r
   exact wpAny_truthy_dict hS m (by omega) ⟨H,I.tok _,by rw [isEmpty_kv r];exact q⟩
 | _=>exact (show False from e).elim
theorem op_add_str:OpR X (binaryOp .Add) (fun x y H Q=>∃ i j,x=.str i/\y=.str j/\i.length+j.length<=sizeLine/\Q (.str (i++j)) H):=by
 intro pins s σ H x y v u Q I rx ry h
 obtain ⟨i,j,rfl,rfl,hz,q⟩:=h
 obtain ⟨t,rfl⟩:=rx
 obtain ⟨t',rfl⟩:=ry
 exact add_str (fun t' tk=>⟨.str (i++j),H,I.tok _,⟨_,rfl⟩,q⟩) hz
theorem vals1 {x:V} {us:List Value} (r:Vals [x] us):∃ u,us=[u]/\RelV x u:=by
 cases r with
 | cons r1 r2=>cases r2;exact ⟨_,rfl,r1⟩
theorem vals2 {x y:V} {us:List Value} (r:Vals [x,y] us):∃ u w',us=[u,w']/\RelV x u/\RelV y w':=by
 cases r with
 | cons r1 r2 =>
  cases r2 with
  | cons r3 r4=>cases r4;exact ⟨_,_,rfl,r1,r3⟩
theorem call_abs:CallR X (.builtin "abs") (fun xs H Q=>∃ i,xs=[.int i]/\Q (.int (if i < 0 then -i else i)) H):=by
 intro pins s σ H xs us Q I r h
 obtain ⟨i,rfl,q⟩:=h
 obtain ⟨u,rfl,t,rfl⟩:=vals1 r
 exact call_abs_int fun u tk=>⟨.int (if i < 0 then -i else i),H,I.tok _,⟨_,rfl⟩,q⟩
theorem call_min2 (hc:X.calm=true):CallR X (.builtin "min") (fun xs H Q=>∃ i j,xs=[.int i,.int j]/\Q (.int (if j < i then j else i)) H):=by
 intro pins s σ H xs us Q I r h
 obtain ⟨i,j,rfl,q⟩:=h
 obtain ⟨u,w',rfl,⟨t,rfl⟩,⟨t',rfl⟩⟩:=vals2 r
 refine min_two_ints (I.ok.hd hc) fun h' tk k=>⟨_,H,I.kept k,?_,q⟩
 by_cases hj:j < i
 ·rw [if_pos hj,if_pos hj];exact ⟨_,rfl⟩
 ·rw [if_neg hj,if_neg hj];exact ⟨_,rfl⟩
theorem call_int1:CallR X (.type "int") (fun xs H Q=>(∃ i,xs=[.int i]/\Q (.int i) H)\/∃ k,xs=[.bl k]/\Q (.int (if k then 1 else 0)) H):=by
 intro pins s σ H xs us Q I r h
 rcases h with ⟨i,rfl,q⟩ | ⟨k,rfl,q⟩
 ·obtain ⟨u,rfl,t,rfl⟩:=vals1 r
  exact call_int_int ⟨.int i,H,I,⟨_,rfl⟩,q⟩
 ·obtain ⟨u,rfl,r1⟩:=vals1 r
  cases r1
  exact call_int_bool ⟨.int (if k then 1 else 0),H,I.tok _,⟨_,rfl⟩,q⟩
end
structure ObjM (h:Heap) (x dx C:Addr) (mA:Str->Option Value):Prop where
 obj:h.get? x=some (PySem.W.instObj C dx)
 ns:h.Ns1 dx mA
 ne:dx≠x
theorem lookIn_ns {h:Heap} {dx:Addr} {mA:Str->Option Value} (n:h.Ns1 dx mA):∃ od,h.get? dx=some od/\∀ name,PySem.W.lookIn name od=some (mA name):=by
 obtain ⟨o,es,ep,ho,hd,hk,_,hm⟩:=n
 refine ⟨o,ho,fun name=>?_⟩
 have e:=hm name
 unfold nsFind findBy at e
 rw [<- Array.find?_toList] at e
 unfold PySem.W.lookIn
 rw [hd]
 dsimp only
 split
 ·rename_i y q
  rw [q] at e
  exact congrArg some e
 ·rename_i q
  rw [q] at e
  have a:es.toList.any (·.refKey)=false:=by
   rw [List.any_eq_false]
   intro y hy
   obtain ⟨z,t,hkey⟩:=hk y (Array.mem_toList_iff.mp hy)
   simp [DictEntry.refKey,hkey]
  have a':¬ es.toList.any (·.refKey)=true:=by rw [a];exact Bool.false_ne_true
  rw [if_neg a']
  exact congrArg some e
theorem ObjM.look {h:Heap} {x dx C:Addr} {mA:Str->Option Value} (I:ObjM h x dx C mA):∃ od,PySem.W.InstAt h x (PySem.W.instObj C dx) C (some od)/\∀ name,PySem.W.lookIn name od=some (mA name) :=
 let ⟨od,ho,hl⟩:=lookIn_ns I.ns
 ⟨od,⟨I.obj,rfl,rfl,ho⟩,hl⟩
section
variable {prog:Program} {w:World} {A:Around} {E:Value->Shared->Prop} {s:Shared} {K:PySem.W.Frag} {x dx C f:Addr} {mA:Str->Option Value} {name:Str} {v:Value}
theorem get_map {expr:Bool} {Q:Value->Shared->Prop} (X:K.In s.heap) (I:ObjM s.heap x dx C mA) (hg:PySem.W.plainGet K C name=true) (hh:PySem.W.hasDictIn K C=true)
  (ha:PySem.W.findIn K (.ref C) name=some none) (hv:mA name=some v) (hv':PySem.W.handedIn v=true) (h:Q v { s with toks:=s.toks+1 }) :
  wpAny (model prog w) A (getAttr (.ref x) name expr) Q E s:=by
 obtain ⟨od,J,hl⟩:=I.look
 exact PySem.W.get_value X J (PySem.W.plainGet_of hg).1 (PySem.W.findObj_own hh ha rfl (by rw [hl,hv])) hv' h
theorem get_meth {pl:Sem Bool} {Q:Value × List Value->Shared->Prop} (X:K.In s.heap) (I:ObjM s.heap x dx C mA) (hg:PySem.W.plainGet K C name=true)
  (hf:PySem.W.findIn K (.ref C) name=some (some (.ref f))) (ht:PySem.W.isFn K (.ref f)=true) (hv:mA name=none) (h:Q (.ref f,[.ref x]) s) :
  wpAny (model prog w) A (getMethod (.ref x) name pl) Q E s:=by
 obtain ⟨od,J,hl⟩:=I.look
 exact PySem.W.method_fn X J (PySem.W.plainGet_of hg).1 (PySem.W.plainGet_of hg).2 hf (beq_iff_eq.mp ht) (by show (PySem.W.lookIn name od).map (·.isSome)=some false;rw [hl,hv];rfl) h
theorem set_map {ns:List Str} {Q:Unit->Shared->Prop} (X:K.In s.heap) (I:ObjM s.heap x dx C mA)
  (hs:PySem.W.findIn K (.ref C) "__setattr__" = some (some (.builtin "object.__setattr__"))) (hp:PySem.W.plainOver K C=true) (ht:PySem.W.takerIn K C name=some none) (hh:PySem.W.hasDictIn K C=true)
  (hw:PySem.Within mA ns) (hsz:ns.length<=sizeLine)
  (h:∀ h',ObjM h' x dx C (fun y=>if y=name then some v else mA y)->Heap.SameBut dx s.heap h'->Q () { s with heap:=h',toks:=s.toks+2 }) :
  wpAny (model prog w) A (setAttr (.ref x) name v) Q E s:=by
 obtain ⟨od,J,hl⟩:=I.look
 refine PySem.W.set_plain X J hs (PySem.W.osa_open (s:={ s with toks:=s.toks+1 }) (r:=none) X J hp ht fun b=>?_)
 obtain ⟨cd,hc,hd'⟩:=PySem.W.any_some hh
 have hx:s.heap.get? x=some ⟨.ref C,some dx,.plain,#[]⟩:=I.obj
 refine wpAny_bind (wpAny_pure (wpAny_bind (wpAny_bind (wpAny_loadPart hx (wpAny_bind (PySem.W.Looks.here (s:={ s with toks:=s.toks+1 }) (PySem.W.looks_clsIn X hc) ?_))))))
 rw [hd']
 refine wpAny_pure (a:=some dx) (wpAny_bind (wpAny_pure (wpAny_bind ?_)))
 refine wpAny_nsSet1 (s:={ s with toks:=s.toks+1 }) I.ns fun h' hn2 hs2=>?_
 obtain ⟨oD,esD,epD,hoD,hdD,hcD⟩:=hn2.count (PySem.Within.cons name v hw)
 refine wpAny_bind (wpAny_lookBehind hoD (by rw [hdD];exact pastItsLine_dict (Nat.le_trans hcD (by rw [List.length_cons];omega))) ?_)
 exact wpAny_pure (h _ ⟨(hs2.2 _ (Ne.symm I.ne)).trans I.obj,hn2,I.ne⟩ hs2)
theorem make_map {R:Result->Shared->Prop} {vs:List Value} {kw:List (Str × Value)} (X:K.In s.heap) (hm:PySem.W.makesIn K C=true)
  (hi:PySem.W.findIn K (.ref C) "__init__" = some (some (.ref f))) (hf:PySem.W.typeIn K (.ref f)=some (.type "function"))
  (h:codeAny (model prog w) (A.under (.builtin "type.__call__" ⟨.ref C :: vs,kw⟩)) (.call (.ref f) ⟨.ref (s.heap.objs.size+1) :: vs,kw⟩) (PySem.W.InitBack (s.heap.objs.size+1) R)
   { s with heap:=(s.heap.push PySem.W.emptyDict).push (PySem.W.instObj C s.heap.objs.size) }) :
  codeAny (model prog w) A (.call (.ref C) ⟨vs,kw⟩) R s:=by
 obtain ⟨hh,g,d,t,os⟩:=s
 exact PySem.W.make_core (PySem.W.makes_of X hm) (PySem.W.looks_findIn X hi) (fun self=>PySem.W.bind_fn X self hf) (.inl rfl) h
end
def putF (f:Str) (v:V):List (Str × V)->List (Str × V)
 | []=>[(f,v)]
 | (g,x) :: r=>if g=f then (g,v) :: r else (g,x) :: putF f v r
theorem lookup_putF (f g:Str) (v:V):∀ fs:List (Str × V),(putF f v fs).lookup g=if g=f then some v else fs.lookup g
 | []=>by
  show List.lookup g [(f,v)]=_
  by_cases h:g=f
  ·have hb:(g == f)=true:=beq_iff_eq.mpr h
   simp only [List.lookup,hb,if_pos h]
  ·have hb:(g == f)=false:=beq_eq_false_iff_ne.mpr h
   simp only [List.lookup,hb,if_neg h]
 | (k,x) :: r=>by
  have ih:=lookup_putF f g v r
  rw [show putF f v ((k,x) :: r)=(if k=f then (k,v) :: r else (k,x) :: putF f v r) from rfl]
  by_cases hk:k=f
  ·rw [if_pos hk]
   by_cases h:g=k
   ·have hb:(g == k)=true:=beq_iff_eq.mpr h
    simp only [List.lookup,hb,if_pos (h.trans hk)]
   ·have hb:(g == k)=false:=beq_eq_false_iff_ne.mpr h
    simp only [List.lookup,hb,if_neg (fun e:g=f=>h (e.trans hk.symm))]
  ·rw [if_neg hk]
   by_cases h:g=k
   ·have hb:(g == k)=true:=beq_iff_eq.mpr h
    simp only [List.lookup,hb,if_neg (fun e:g=f=>hk (h.symm.trans e))]
   ·have hb:(g == k)=false:=beq_eq_false_iff_ne.mpr h
    simp only [List.lookup,hb]
    exact ih
theorem keys_putF (f:Str) (v:V):∀ fs:List (Str × V),f∈(putF f v fs).map (·.1)/\∀ g,g∈fs.map (·.1)->g∈(putF f v fs).map (·.1)
 | []=>⟨by simp [putF],fun g h=>by simp at h⟩
 | (k,x) :: r=>by
  obtain ⟨i1,i2⟩:=keys_putF f v r
  rw [show putF f v ((k,x) :: r)=(if k=f then (k,v) :: r else (k,x) :: putF f v r) from rfl]
  by_cases hk:k=f
  ·rw [if_pos hk]
   subst hk
   exact ⟨by simp,fun g h=>by simpa using h⟩
  ·rw [if_neg hk]
   refine ⟨?_,fun g h=>?_⟩
   ·rw [List.map_cons]
    exact List.mem_cons_of_mem _ i1
   ·rw [List.map_cons] at h ⊢
    rcases List.mem_cons.mp h with e | e
    ·exact List.mem_cons.mpr (.inl e)
    ·exact List.mem_cons_of_mem _ (i2 g e)
theorem length_putF (f:Str) (v:V):∀ fs:List (Str × V),(putF f v fs).length<=fs.length+1
 | []=>by simp [putF]
 | (k,x) :: r=>by
  have ih:=length_putF f v r
  rw [show putF f v ((k,x) :: r)=(if k=f then (k,v) :: r else (k,x) :: putF f v r) from rfl]
  by_cases hk:k=f
  ·rw [if_pos hk,List.length_cons,List.length_cons];omega
  ·rw [if_neg hk,List.length_cons,List.length_cons];omega
theorem RelO.some_of {v:V} {o:Option Value} (r:RelO (some v) o):∃ u,o=some u/\RelV v u:=by
 cases o with
 | none=>exact (show False from r).elim
 | some u=>exact ⟨u,rfl,r⟩
theorem RelO.none_of {o:Option Value} (r:RelO none o):o=none:=by
 cases o with
 | none=>rfl
 | some u=>exact (show False from r).elim
theorem handed_of {v:V} {u:Value} (r:RelV v u):PySem.W.handedIn u=true:=by
 cases v with
 | non=>cases (show u=Value.none from r);rfl
 | bl b=>cases (show u=Value.bool b from r);rfl
 | int i=>obtain ⟨t,e⟩:=(show ∃ t,u=Value.int i t from r);cases e;rfl
 | str x=>obtain ⟨t,e⟩:=(show ∃ t,u=Value.str x t from r);cases e;rfl
 | byt b=>obtain ⟨t,e⟩:=(show ∃ t,u=Value.bytes b t from r);cases e;rfl
 | flt b=>obtain ⟨t,e⟩:=(show ∃ t,u=Value.float b t from r);cases e;rfl
 | ref a=>cases (show u=Value.ref a from r);rfl
 | ty n=>cases (show u=Value.type n from r);rfl
section
variable {P:Program} {w:World} {H H':Hp} {h h':Heap} {a C dx:Addr} {fs fs':List (Str × V)}
theorem ins_get (hok:HOk P w H h) (e:H a=some (.ins C dx fs)):∃ mA,ObjM h a dx C mA/\(∀ f,RelO (fs.lookup f) (mA f))/\PySem.Within mA (fs.map (·.1))/\fs.length<=1000/\H dx=some (.own a):=by
 obtain ⟨d,z,ne,ob,mA,n,r,q⟩:=(show ObjOk P w H h a (.ins C dx fs) from hok a _ e)
 exact ⟨mA,⟨ob,n,ne⟩,r,q,z,d⟩
end
structure Cls (K:PySem.W.Frag) (C:Addr):Prop where
 pg:PySem.W.plainGet K C Str.empty=true
 hd:PySem.W.hasDictIn K C=true
 po:PySem.W.plainOver K C=true
 sa:PySem.W.findIn K (.ref C) "__setattr__" = some (some (.builtin "object.__setattr__"))
theorem Cls.get {K:PySem.W.Frag} {C:Addr} (c:Cls K C) (f:Str):PySem.W.plainGet K C f=true:=c.pg
def NoAttr (K:PySem.W.Frag) (C:Addr) (f:Str):Prop:=PySem.W.findIn K (.ref C) f=some none
theorem NoAttr.taker {K:PySem.W.Frag} {C:Addr} {f:Str} (n:NoAttr K C f):PySem.W.takerIn K C f=some none:=by
 unfold PySem.W.takerIn
 rw [show PySem.W.findIn K (.ref C) f=some none from n]
 rfl
structure Meth (K:PySem.W.Frag) (C:Addr) (m:Str) (f:Addr):Prop where
 at_:PySem.W.findIn K (.ref C) m=some (some (.ref f))
 fn:PySem.W.isFn K (.ref f)=true
 kp:PySem.W.keepIn K (.ref f)=true
section
variable {X:Cx} {pins:List (Addr × Obj)} {σ:St} {H:Hp} {s:Shared} {a C dx:Addr} {fs:List (Str × V)} {f:Str} {v:V} {A:Around} {E:Value->Shared->Prop}
theorem getattr_ok {b:Bool} {Q:Value->Shared->Prop} (I:Inv X pins σ H s) (e:H a=some (.ins C dx fs)) (c:Cls X.K C) (n:NoAttr X.K C f) (l:fs.lookup f=some v)
  (h:∀ u s',Inv X pins σ H s'->RelV v u->Q u s'):wpAny (model X.prog X.w) A (getAttr (.ref a) f b) Q E s:=by
 obtain ⟨mA,O,r,_,_,_⟩:=ins_get I.hok e
 obtain ⟨u,hu,ru⟩:=RelO.some_of (v:=v) (o:=mA f) (by rw [<- l];exact r f)
 exact get_map I.kIn O (c.get f) c.hd n hu (handed_of ru) (h u _ (I.tok _) ru)
theorem getmeth_ok {m:Str} {g:Addr} {pl:Sem Bool} {Q:Value × List Value->Shared->Prop} (I:Inv X pins σ H s) (e:H a=some (.ins C dx fs)) (c:Cls X.K C) (k:Meth X.K C m g) (l:fs.lookup m=none)
  (h:Q (.ref g,[.ref a]) s):wpAny (model X.prog X.w) A (getMethod (.ref a) m pl) Q E s:=by
 obtain ⟨mA,O,r,_,_,_⟩:=ins_get I.hok e
 have hn:mA m=none:=RelO.none_of (by rw [<- l];exact r m)
 exact get_meth I.kIn O (c.get m) k.at_ k.fn hn h
theorem setattr_ok {y:V} {u:Value} {Q:Unit->Shared->Prop} (I:Inv X pins σ H s) (e:H a=some (.ins C dx fs)) (c:Cls X.K C) (n:NoAttr X.K C f) (hl:fs.length < 1000) (ry:RelV y u)
  (h:∀ s',Inv X pins σ (upd H a (.ins C dx (putF f y fs))) s'->Q () s'):wpAny (model X.prog X.w) A (setAttr (.ref a) f u) Q E s:=by
 obtain ⟨mA,O,r,wi,_,ho⟩:=ins_get I.hok e
 have hz:(fs.map (·.1)).length<=sizeLine:=by rw [List.length_map,sizeLine_eq];omega
 refine set_map I.kIn O c.sa c.po n.taker c.hd wi hz fun h' O' sb=>h _ ?_
 have hd:∃ o,h'.get? dx=some o:=let ⟨o,_,_,e',_⟩:=O'.ns;⟨o,e'⟩
 refine I.write (x:=a) (e:=dx) (by rw [e];exact True.intro) (.inr ho) (fun b q hb z=>(sb.2 b hb).trans z) hd ?_
 refine ⟨by rw [upd_ne O.ne];exact ho,?_,O.ne,O'.obj,_,O'.ns,fun g=>?_,fun g hg=>?_⟩
 ·have:=length_putF f y fs;omega
 ·show RelO ((putF f y fs).lookup g) (if g=f then some u else mA g)
  rw [lookup_putF]
  by_cases q:g=f
  ·rw [if_pos q,if_pos q];exact ry
  ·rw [if_neg q,if_neg q];exact r g
 ·by_cases q:g=f
  ·rw [q];exact (keys_putF f y fs).1
  ·refine (keys_putF f y fs).2 g (wi g fun z=>hg ?_)
   show (if g=f then some u else mA g)=none
   rw [if_neg q];exact z
theorem Inv.made (I:Inv X pins σ H s):Inv X pins σ (upd (upd H s.heap.objs.size (.own (s.heap.objs.size+1))) (s.heap.objs.size+1) (.ins C s.heap.objs.size []))
  { s with heap:=(s.heap.push PySem.W.emptyDict).push (PySem.W.instObj C s.heap.objs.size) }:=by
 have e1:(s.heap.push PySem.W.emptyDict).get? s.heap.objs.size=some PySem.W.emptyDict:=Heap.get?_push_size s.heap rfl
 have e2:((s.heap.push PySem.W.emptyDict).push (PySem.W.instObj C s.heap.objs.size)).get? (s.heap.objs.size+1)=some (PySem.W.instObj C s.heap.objs.size):=by
  have:=Heap.get?_push_size (s.heap.push PySem.W.emptyDict) (o:=PySem.W.instObj C s.heap.objs.size) rfl
  rwa [Heap.size_push] at this
 have e3:(s.heap.push PySem.W.emptyDict).Ns s.heap.objs.size (fun _=>none):=⟨PySem.W.emptyDict,#[],_,e1,rfl,(fun e he=>absurd he (by simp)),fun _=>rfl⟩
 have I1:=I.laid (a:=s.heap.objs.size) (o:=.own (s.heap.objs.size+1)) (h':=s.heap.push PySem.W.emptyDict) (t':=s.toks) (fun b u q=>Heap.get?_push_of_some _ q) (Nat.le_refl _) ⟨_,e1⟩
 refine I1.laid (a:=s.heap.objs.size+1) (o:=.ins C s.heap.objs.size []) (t':=s.toks) (fun b u q=>Heap.get?_push_of_some _ q) (Nat.le_of_eq (Heap.size_push _ _)) ?_
 have ne:s.heap.objs.size≠s.heap.objs.size+1:=Nat.ne_of_lt (Nat.lt_succ_self _)
 refine ⟨by rw [upd_ne ne,upd_same],Nat.zero_le _,ne,e2,fun _=>none,(Heap.Ns1.of_empty e3).at fun o q=>Heap.get?_push_of_some _ q,fun _=>True.intro,fun y hy=>absurd rfl hy⟩
theorem attr_of {prog:Program} {w:World} {env:Env} {e:Expr} {f:Str} {pos:Pos} {s:Shared} {Q:Value->Shared->Prop} (hb:attributeBase e f env (eval e env)=eval e env)
  (h:wpAny (model prog w) A (eval e env) (fun o s₁=>wpAny (model prog w) A (getAttr o f true) Q E s₁) E s):wpAny (model prog w) A (eval (.Attribute e f pos) env) Q E s :=
 Attribute_any_ h (by rw [arm_eval_Attribute,hb])
end
def tFld (K:PySem.W.Frag) (ta:TE) (f:Str):TE:=fun σ H Q=>ta σ H fun x H1=>∃ a C dx fs v,x=.ref a/\H1 a=some (.ins C dx fs)/\Cls K C/\NoAttr K C f/\fs.lookup f=some v/\Q v H1
section
variable {X:Cx} {o e value:Expr} {f:Str} {pos pos' tpos:Pos} {ta tv:TE}
theorem pe_fld (he:PE X e ta) (hb:attributeBase e f X.env (eval e X.env)=eval e X.env):PE X (.Attribute e f pos) (tFld X.K ta f):=by
 intro pins s σ H Q I h
 refine attr_of hb (thn (he pins s σ H _ I h) fun u s1 ⟨x,H1,I1,rx,a,C,dx,fs,v,ex,ea,c,n,l,q⟩=>?_)
 subst ex
 obtain rfl:u=Value.ref a:=rx
 exact getattr_ok I1 ea c n l fun u' s2 I2 ru=>⟨v,H1,I2,ru,q⟩
end
section
variable {X:Cx} {pins:List (Addr × Obj)} {σ:St} {H:Hp} {s:Shared} {A:Around} {E:Value->Shared->Prop} {Q:Value->Shared->Prop} {c:Value} {b:Bool}
end
structure Room (k:Nat) (A:Around):Prop where
 hd:A.handled=none
 dp:A.depth+3 * k+5 < recursionLimit
 un:A.units+16 * k+200 < cLine
theorem Room.mono {j k:Nat} {A:Around} (r:Room k A) (h:j<=k):Room j A:=⟨r.hd,by have:=r.dp;omega,by have:=r.un;omega⟩
theorem Room.deeper {k:Nat} {A:Around} (r:Room (k+1) A) (env:Env):Room k (A.deeper env) :=
 ⟨r.hd,by have:=r.dp;show A.depth+1+3 * k+5 < _;omega,by have:=r.un;show A.units+3+16 * k+200 < _;omega⟩
theorem make_depth {A:Around} {C:Addr} {us:List Value} {kw:List (Str × Value)}:(A.under (.builtin "type.__call__" ⟨.ref C :: us,kw⟩)).depth=A.depth+1:=by
 first | rfl | simp [Around.under,Code.weight,Code.isCreation,Code.isGuard,Code.isCaller,Code.frames,Code.isFrame,guardIds]
theorem make_units {A:Around} {C:Addr} {us:List Value} {kw:List (Str × Value)}:(A.under (.builtin "type.__call__" ⟨.ref C :: us,kw⟩)).units=A.units+1:=by
 first | rfl | simp [Around.under,Code.cUnits,Code.frames,Code.isFrame]
theorem Room.make {k:Nat} {A:Around} (r:Room (k+1) A) (C:Addr) (us:List Value) (kw:List (Str × Value)):Room k (A.under (.builtin "type.__call__" ⟨.ref C :: us,kw⟩)) :=
 ⟨r.hd,by have:=r.dp;rw [make_depth];omega,by have:=r.un;rw [make_units];omega⟩
theorem Room.depth {k:Nat} {A:Around} (r:Room k A):A.depth < recursionLimit:=by have:=r.dp;omega
theorem Room.units {k:Nat} {A:Around} (r:Room k A):A.units+64 < cLine:=by have:=r.un;omega
section
variable {X:Cx} {e:Expr} {es:List Expr} {te:TE} {t:TA} {pos:Pos}
end
abbrev Sp:=List V->Hp->VK->XK->Prop
abbrev CXT:=List Env->Hp->Shared->XK->Value->Shared->Prop
structure Env0 (P:Program) (w:World) (K:PySem.W.Frag) (mg:Str->Option Value) (base:Heap) (A:Around) (outer:List Env) (s:Shared) (H:Hp):Prop where
 frames:A.frames=some outer
 mod:Mod K mg base
 bs:∀ b o,base.get? b=some o->s.heap.get? b=some o/\H b=none
 bsz:base.objs.size<=s.heap.objs.size
 funs:s.heap.FunFrames base outer
 frf:∀ b∈frs outer,H b=none
 hok:HOk P w H s.heap
 bare:AllBare s.gens
def CE (outer:List Env) (P:Program) (w:World) (H:Hp) (s:Shared) (Q:VK) (u:Value) (s':Shared):Prop :=
 ∃ v H',s'.os=s.os/\AllBare s'.gens/\Un (frs outer) [] H H' s.heap s'.heap/\HOk P w H' s'.heap/\RelV v u/\Q v H'
def CR (CX:CXT) (outer:List Env) (P:Program) (w:World) (H:Hp) (s:Shared) (Q:VK) (E:XK) (r:Result) (s':Shared):Prop :=
 match r with
 | .ok (.ret u)=>CE outer P w H s Q u s'
 | .ok _=>False
 | .error e=>CX outer H s E e s'
structure FnOk (P:Program) (w:World) (K:PySem.W.Frag) (mg:Str->Option Value) (base:Heap) (CX:CXT) (k:Nat) (f:Addr) (fd:FuncData) (ps:List Str) (sp:Sp):Prop where
 len:∀ vs H Q E,sp vs H Q E->vs.length=ps.length
 run:∀ (A:Around) (outer:List Env) (s:Shared) (H:Hp) (args:Args) (us:List Value) (vs:List V) (Q:VK) (E:XK),Room k A->Env0 P w K mg base A outer s H->BindsTo s fd args (ps.zip us)->Vals vs us->sp vs H Q E ->
  codeAny (model P w) A (.call (.ref f) args) (CR CX outer P w H s Q E) s
theorem FnOk.mono {P:Program} {w:World} {K:PySem.W.Frag} {mg:Str->Option Value} {base:Heap} {CX:CXT} {j k:Nat} {f:Addr} {fd:FuncData} {ps:List Str} {sp:Sp} (F:FnOk P w K mg base CX j f fd ps sp) (h:j<=k) :
  FnOk P w K mg base CX k f fd ps sp:=⟨F.len,fun A outer s H args us vs Q E hr=>F.run A outer s H args us vs Q E (hr.mono h)⟩
theorem Env0.make {P:Program} {w:World} {K:PySem.W.Frag} {mg:Str->Option Value} {base:Heap} {A:Around} {outer:List Env} {s:Shared} {H:Hp} (e:Env0 P w K mg base A outer s H) (C:Addr) (us:List Value) (kw:List (Str × Value)) :
  Env0 P w K mg base (A.under (.builtin "type.__call__" ⟨.ref C :: us,kw⟩)) outer s H:=⟨by first | exact e.frames | (simpa [Around.under,Code.envs,Code.isFrame,pushEnvs] using e.frames),e.mod,e.bs,e.bsz,e.funs,e.frf,e.hok,e.bare⟩
section
variable {X:Cx} {pins:List (Addr × Obj)} {σ:St} {H:Hp} {s s':Shared}
theorem Inv.env0 (I:Inv X pins σ H s):Env0 X.prog X.w X.K X.mg X.base X.A X.stack s H :=
 ⟨I.ok.frames,I.ok.mod,I.bs,Nat.le_trans I.ok.bsz I.sz,I.stack,I.stkFree,I.hok,I.bare⟩
theorem Inv.after {Q:VK} {u:Value} (I:Inv X pins σ H s) (h:CE X.stack X.prog X.w H s Q u s'):EP X pins σ Q u s':=by
 obtain ⟨v,H',os,bare,un,hok,r,q⟩:=h
 obtain ⟨hh,g,d,t,os'⟩:=s'
 obtain rfl:os'=s.os:=os
 exact ⟨v,H',I.call (h':=hh) (g':=g) (d':=d) (t':=t) (ch:=[]) un hok bare (fun b z=>absurd z (by simp)),r,q⟩
end
def Binds (K:PySem.W.Frag) (fd:FuncData) (ps:List Str) (ds:List Value):Prop :=
 ∀ (s:Shared) (us:List Value),K.In s.heap->(us++ds).length=ps.length->BindsTo s fd ⟨us,[]⟩ (ps.zip (us++ds))
theorem Binds.all {K:PySem.W.Frag} {fd:FuncData} {ps:List Str} (h:∀ us:List Value,us.length=ps.length->bindArgs fd ⟨us,[]⟩=pure (ps.zip us)):Binds K fd ps []:=fun s us _ hl=>by
 rw [List.append_nil] at hl ⊢
 exact .of_eq (h us hl)
def Passes (CX:CXT) (X:Cx) (E:XK):Prop:=∀ (pins:List (Addr × Obj)) (σ:St) (H:Hp) (s:Shared) (e:Value) (s':Shared),Inv X pins σ H s->CX X.stack H s E e s'->X.xe e s'
section
variable {X:Cx} {CX:CXT} {k:Nat} {f C:Addr} {fd:FuncData} {ps:List Str} {sp:Sp} {dvs:List V} {ds:List Value} {E:XK} {x m:Str} {p pos apos:Pos} {e o:Expr} {es:List Expr} {ta:TE} {t:TA}
theorem run_fn {pins:List (Addr × Obj)} {σ:St} {H:Hp} {s:Shared} {Q:VK} {us:List Value} {vs:List V} (F:FnOk X.prog X.w X.K X.mg X.base CX k f fd ps sp) (hr:Room k X.A) (hb:Binds X.K fd ps ds) (hd:Vals dvs ds) (hx:Passes CX X E)
  (I:Inv X pins σ H s) (r:Vals vs us) (h:sp (vs++dvs) H Q E):wpAny (model X.prog X.w) X.A (call (.ref f) us) (EP X pins σ Q) X.xe s:=by
 have r2:Vals (vs++dvs) (us++ds):=r.append hd
 have hl:(us++ds).length=ps.length:=by rw [<- r2.length];exact F.len _ _ _ _ h
 refine wpAny_call (codeAny_mono (F.run X.A X.stack s H ⟨us,[]⟩ (us++ds) (vs++dvs) Q E hr I.env0 (hb s us I.kIn hl) r2 h) fun r s' hq=>?_)
 cases r with
 | error e=>exact hx pins σ H s e s' I hq
 | ok fl =>
  cases fl with
  | ret u=>exact I.after hq
  | next=>exact False.elim hq
  | brk=>exact False.elim hq
  | cont=>exact False.elim hq
structure Mk (K:PySem.W.Frag) (C f:Addr):Prop where
 makes:PySem.W.makesIn K C=true
 init:PySem.W.findIn K (.ref C) "__init__" = some (some (.ref f))
 fn:PySem.W.isFn K (.ref f)=true
 kp:PySem.W.keepIn K (.ref C)=true
end
section
variable {X:Cx} {CX:CXT} {k:Nat} {f C:Addr} {fd:FuncData} {ps ks:List Str} {sp:Sp} {E:XK} {x m:Str} {p pos apos kpos:Pos} {e o:Expr} {es:List Expr} {kws:List Keyword} {te ta:TE} {t tk:TA} {nm:Option Str}
variable {g:List Value->List Value->List Value} {gV:List V->List V->List V}
end
structure FnScope (N P:List Str) (sc:Scope):Prop where
 kind:sc.kind=.function
 co:sc.isCoroutine=false
 gen:sc.isGenerator=false
 nd:N.Nodup
 pre:N.take P.length=P
 par:∀ x∈P,sc.names.lookup x=some .local\/sc.names.lookup x=some .cell
 nofree:∀ y∈sc.names,y.2≠.free
theorem bindL_out {kindOf:Str->Option NameKind} {x:Str}:∀ {binds:List (Str × Value)} {m:Str->Option Value},(∀ v,(x,v)∉binds)->bindL kindOf binds m x=m x
 | [],_,_=>rfl
 | (n,v) :: r,m,h=>by
  unfold bindL
  rw [bindL_out fun w hw=>h w (List.mem_cons_of_mem _ hw)]
  split
  ·have:x≠n:=by rintro rfl;exact h v List.mem_cons_self
   simp [this]
  ·rfl
theorem bindC_out {kindOf:Str->Option NameKind} {x:Str}:∀ {binds:List (Str × Value)} {m:Str->Option Value},(∀ v,(x,v)∉binds)->bindC kindOf binds m x=m x
 | [],_,_=>rfl
 | (n,v) :: r,m,h=>by
  unfold bindC
  rw [bindC_out fun w hw=>h w (List.mem_cons_of_mem _ hw)]
  split
  ·rfl
  ·have:x≠n:=by rintro rfl;exact h v List.mem_cons_self
   simp [this]
theorem bindL_get {kindOf:Str->Option NameKind} {x:Str} {v:Value}:∀ {P:List Str} {vs:List Value} {i:Nat} {m:Str->Option Value},P.Nodup->P[i]?=some x->vs[i]?=some v->kindOf x=some .local ->
  bindL kindOf (P.zip vs) m x=some v
 | [],_,_,_,_,h,_,_=>by simp at h
 | _ :: _,[],_,_,_,_,h,_=>by simp at h
 | p :: P,w :: vs,0,m,nd,h1,h2,hk=>by
  simp at h1 h2;subst h1;subst h2
  show bindL kindOf ((p,w) :: P.zip vs) m p=_
  unfold bindL
  rw [bindL_out fun v hv=>(List.nodup_cons.mp nd).1 (List.of_mem_zip hv).1,if_pos hk]
  simp
 | p :: P,w :: vs,i+1,m,nd,h1,h2,hk=>by
  show bindL kindOf ((p,w) :: P.zip vs) m x=_
  unfold bindL
  exact bindL_get (i:=i) (List.nodup_cons.mp nd).2 (by simpa using h1) (by simpa using h2) hk
theorem bindC_get {kindOf:Str->Option NameKind} {x:Str} {v:Value}:∀ {P:List Str} {vs:List Value} {i:Nat} {m:Str->Option Value},P.Nodup->P[i]?=some x->vs[i]?=some v->kindOf x≠some .local ->
  bindC kindOf (P.zip vs) m x=some v
 | [],_,_,_,_,h,_,_=>by simp at h
 | _ :: _,[],_,_,_,_,h,_=>by simp at h
 | p :: P,w :: vs,0,m,nd,h1,h2,hk=>by
  simp at h1 h2;subst h1;subst h2
  show bindC kindOf ((p,w) :: P.zip vs) m p=_
  unfold bindC
  rw [bindC_out fun v hv=>(List.nodup_cons.mp nd).1 (List.of_mem_zip hv).1,if_neg hk]
  simp
 | p :: P,w :: vs,i+1,m,nd,h1,h2,hk=>by
  show bindC kindOf ((p,w) :: P.zip vs) m x=_
  unfold bindC
  exact bindC_get (i:=i) (List.nodup_cons.mp nd).2 (by simpa using h1) (by simpa using h2) hk
def start (N:List Str) (vs:List V):St:=vs.map some++List.replicate (N.length - vs.length) none
def cxOf (CX:CXT) (P:Program) (w:World) (K:PySem.W.Frag) (mg:Str->Option Value) (base:Heap) (N:List Str) (qual:Str) (scope:Scope) (f:Addr) (cd:Value) (A:Around) (outer:List Env) (s:Shared) (H:Hp) (E:XK):Cx where
 prog:=P
 w:=w
 K:=K
 mg:=mg
 base:=base
 A:=A.deeper (envOfC qual scope s.heap.objs.size f cd)
 N:=N
 s₀:=s
 H₀:=H
 env:=envOfC qual scope s.heap.objs.size f cd
 outer:=outer
 stack:=envOfC qual scope s.heap.objs.size f cd :: outer
 ex:=[]
 calm:=true
 fn:=fun _=>true
 pn:=[]
 xe:=fun e s'=>wpAny (model P w) (A.deeper (envOfC qual scope s.heap.objs.size f cd)) (leaving (envOfC qual scope s.heap.objs.size f cd) e) (fun _ s''=>CX outer H s E e s'') (fun e' s''=>CX outer H s E e' s'') s'
theorem cell_has {sc:Scope} {n:Nat} {x:Str} (h:sc.names.lookup x=some .cell):∃ c,(cellsFrom n sc.names []).lookup x=some c:=by
 have q:=PySem.W.cellsFrom_some sc.names n [] (.inl h)
 exact Option.isSome_iff_exists.mp q
theorem inv_start {CX:CXT} {P:Program} {w:World} {K:PySem.W.Frag} {mg:Str->Option Value} {base:Heap} {N ps:List Str} {qual:Str} {scope:Scope} {f:Addr} {cd:Value} {A:Around} {outer:List Env} {s s1:Shared} {H:Hp} {E:XK} {us:List Value} {vs:List V}
  (S:FnScope N ps scope) (hd:A.handled=none) (e0:Env0 P w K mg base A outer s H) (hl:vs.length=ps.length) (r:Vals vs us)
  (x:InCallC s s.heap.objs.size (bindL (envOfC qual scope s.heap.objs.size f cd).kindOf (ps.zip us) fun _=>none) (cellsFrom (s.heap.objs.size+1) scope.names []) (bindC (envOfC qual scope s.heap.objs.size f cd).kindOf (ps.zip us) fun _=>none) s1) :
  Inv (cxOf CX P w K mg base N qual scope f cd A outer s H E) [] (start N vs) H s1:=by
 have hpl:ps.length<=N.length:=by have:=congrArg List.length S.pre;rw [List.length_take] at this;omega
 obtain ⟨h1,tk,rfl,hk⟩:=x.done
 have noA:∀ b:Addr,b∉(cxOf CX P w K mg base N qual scope f cd A outer s H E).ex:=fun b z=>absurd (show b∈([] : List Addr) from z) (by simp)
 refine ⟨⟨e0.mod,S.kind,rfl,rfl,Nat.le_refl _,fun y z c h1 h2=>?_,fun y hy=>?_,fun y c _ h=>?_,fun _=>hd,Around.frames_deeper e0.frames,.inr ⟨rfl,rfl⟩,fun b z=>absurd z (noA b),e0.bs,e0.bsz,fun b _ _=>noA b,fun b z=>absurd z (noA b),e0.funs,e0.frf⟩,
  rfl,e0.bare,Un.kept hk,⟨_,x.toInCall.ns,fun i y v h1 h2 h3=>?_⟩,fun y c h=>⟨_,x.cell y c h⟩,e0.hok.fresh (Nat.le_refl _),fun y c h=>?_,fun p hp=>absurd (show p∈([] : List (Addr × Obj)) from hp) (by simp),e0.hok.kept hk,?_⟩
 ·exact name_of_addr x.apart (PySem.mem_of_lookup h1) (PySem.mem_of_lookup h2)
 ·have hy:scope.names.lookup y=some .cell\/scope.names.lookup y=some .free:=hy
  rcases hy with hy | hy
  ·exact cell_has hy
  ·exact absurd rfl (S.nofree _ (PySem.mem_of_lookup hy))
 ·exact Nat.le_of_lt (x.above y c (PySem.mem_of_lookup h))
 ·have hi:i < vs.length:=by
   unfold start at h2
   by_cases hi:i < vs.length
   ·exact hi
   ·rw [List.getElem?_append_right (by simpa using hi)] at h2
    rw [List.getElem?_replicate] at h2
    split at h2<;>cases h2
  have ha:vs[i]?=some v:=by
   unfold start at h2
   rw [List.getElem?_append_left (by simpa using hi),List.getElem?_map] at h2
   cases e:vs[i]? with
   | none=>rw [e] at h2;cases h2
   | some a=>rw [e] at h2;cases h2;rfl
  obtain ⟨u,hu,rv⟩:=r.get ha
  have hp:ps[i]?=some y:=by
   rw [<- S.pre,List.getElem?_take_of_lt (by omega)];exact h1
  have ndP:ps.Nodup:=by rw [<- S.pre];exact S.nd.sublist (List.take_sublist _ _)
  refine ⟨u,rv,?_⟩
  rcases S.par y (List.mem_of_getElem? hp) with k | k
  ·exact .inl ⟨k,bindL_get ndP hp hu k⟩
  ·obtain ⟨c,e⟩:=cell_has (n:=s.heap.objs.size+1) k
   refine .inr ⟨.inl k,c,e,?_⟩
   have q:=x.cell y c e
   rw [bindC_get ndP hp hu (by show scope.names.lookup y≠_;rw [k];decide)] at q
   exact q
 ·exact e0.hok.fresh (Nat.le_of_lt (x.above y c (PySem.mem_of_lookup h)))
 ·unfold start
  show _=N.length
  rw [List.length_append,List.length_map,List.length_replicate]
  omega
theorem fn_of {CX:CXT} {P:Program} {w:World} {K:PySem.W.Frag} {mg:Str->Option Value} {base:Heap} {k:Nat} {f:Addr} {name qual:Str} {params:Arguments} {body:List Stmt} {scope:Scope} {dV kV doc pm cdv ct oc:Value} {an od:Option Addr}
  {osl:Array (Option Value)} {N ps:List Str} {sp:Sp} (lk:K.lookup f=some ⟨oc,od,.func (PySem.W.fnOf name qual params body scope dV kV doc pm an cdv ct),osl⟩) (hcd:PySem.W.codeIn K cdv qual=true) (S:FnScope N ps scope)
  (len:∀ vs H Q E,sp vs H Q E->vs.length=ps.length)
  (hbody:∀ (A:Around) (outer:List Env) (s:Shared) (H:Hp) (vs:List V) (Q:VK) (E:XK),Room k (A.deeper (envOfC qual scope s.heap.objs.size f cdv))->sp vs H Q E ->
   ∃ t,PSs (cxOf CX P w K mg base N qual scope f cdv A outer s H E) body t/\t { nx:=fun _ H'=>Q .non H',rt:=Q } (start N vs) H) :
  FnOk P w K mg base CX (k+1) f (PySem.W.fnOf name qual params body scope dV kV doc pm an cdv ct) ps sp:=by
 refine ⟨len,fun A outer s H args us vs Q E hr e0 hb r hsp=>?_⟩
 have hl:=len _ _ _ _ hsp
 have KX:K.In s.heap:=e0.mod.kin.keeps fun b o e=>(e0.bs b o e).1
 have lim:s.heap.NoLimit:=e0.mod.nolimit.keeps fun b o e=>(e0.bs b o e).1
 have hkind:∀ y∈ps.zip us,scope.names.lookup y.1=some .local\/(scope.names.lookup y.1=some .cell/\((cellsFrom (s.heap.objs.size+1) scope.names []).lookup y.1).isSome=true):=fun ⟨n,v⟩ hy=>by
  rcases S.par n (List.of_mem_zip hy).1 with q | q
  ·exact .inl q
  ·exact .inr ⟨q,PySem.W.cellsFrom_some _ _ _ (.inl q)⟩
 refine codeAny_call_function hr.depth (KX _ _ lk) rfl S.co S.gen rfl (PySem.W.codeRec_of KX hcd) (hb _ _ _ _ ?_)
 refine wpAny_newFunctionEnv_cells S.kind hkind fun env he s1 x=>?_
 subst he
 refine ⟨lim.keeps x.toInCall.keep,codeAny_func ?_⟩
 obtain ⟨t,ht,hq⟩:=hbody A outer s H vs Q E (hr.deeper _) hsp
 have I:Inv (cxOf CX P w K mg base N qual scope f cdv A outer s H E) [] (start N vs) H s1:=inv_start S hr.hd e0 hl r x
 refine wpAny_mono (ht [] s1 (start N vs) H _ I hq) (fun fl s' hs=>?_) fun e s' hs=>hs
 have fin:∀ {σ':St} {H':Hp} {v:V} {u:Value},Inv (cxOf CX P w K mg base N qual scope f cdv A outer s H E) [] σ' H' s'->RelV v u->Q v H'->CE outer P w H s Q u s' :=
  fun {σ' H' v u} J rv q=>⟨v,H',J.os,J.bare,J.base,J.hok,rv,q⟩
 cases fl with
 | ret u =>
  obtain ⟨v,σ',H',J,rv,q⟩:=hs
  exact fin J rv q
 | next =>
  obtain ⟨σ',H',J,q⟩:=hs
  exact fin (v:=V.non) (u:=Value.none) J rfl q
 | brk =>
  obtain ⟨_,_,_,q⟩:=hs
  exact False.elim q
 | cont =>
  obtain ⟨_,_,_,q⟩:=hs
  exact False.elim q
section
variable {X:Cx} {x:Str} {p pos:Pos} {e:Expr} {es:List Expr} {t:TA} {id T:String} {r:List V->Hp->VK->Prop}
end
end L2
namespace HT
open PySem PyProof.Rows
section
open PySem.SeqAt
open PySem.AutoSeq1 (wpAny_loadPart')
open PySem.MeetsSeq PySem.MeetsSeq2 PySem.MeetsSeq3
end
section
variable {prog:Program} {w:World} {A:Around} {E:Value->Shared->Prop} {s:Shared}
theorem cat_tup {t b:Addr} {vs ws:List Value} {Q:Value->Shared->Prop} (ht:IsTup s.heap t vs.toArray) (hb:IsTup s.heap b ws.toArray) (hv:vs≠[])
  (h1:ws=[]->Q (.ref t) s) (h2:ws≠[]->Q (.ref s.heap.objs.size) { s with heap:=s.heap.push { cls:=.type "tuple",data:=.seq (vs++ws).toArray } })
  (hsz:vs.length+ws.length<=sizeLine):wpAny (model prog w) A (binaryOp .Add (.ref t) (.ref b)) Q E s:=by
 obtain ⟨⟨cls,dd,data,sl⟩,ho,hc,n,hd⟩:=id ht
 obtain ⟨⟨cls2,dd2,data2,sl2⟩,ho2,hc2,n2,hd2⟩:=id hb
 simp only at hc hd hc2 hd2
 subst hc hd hc2 hd2
 have e:vs.toArray++ws.toArray=(vs++ws).toArray:=by simp
 by_cases hw:ws=[]
 ·exact concat_meets ⟨_,ho,rfl⟩ ⟨_,ho2,rfl⟩ noFill_tuple_add seq_tuple_add PySem.F.slot_tuple_add PySem.F.entry_tuple_add (PySem.F.args_tuple_add_2 _ _)
   (tuple_addW1 t b vs.toArray ws.toArray n n2 dd dd2 sl sl2 (by simpa using hv) (by simp [hw])) ⟨ho,ho2,h1 hw⟩
 ·refine concat_meets ⟨_,ho,rfl⟩ ⟨_,ho2,rfl⟩ noFill_tuple_add seq_tuple_add PySem.F.slot_tuple_add PySem.F.entry_tuple_add (PySem.F.args_tuple_add_2 _ _)
   (tuple_addW2 t b vs.toArray ws.toArray n n2 dd dd2 sl sl2 (by simpa using hv) (by simpa using hw) (by rw [List.size_toArray,List.size_toArray];exact hsz)) ⟨ho,ho2,?_⟩
  rw [e]
  exact h2 hw
def sIx (n d:Nat):Option Int->Nat
 | none=>d
 | some v=>if v < 0 then (v+(n:Int)).toNat else min v.toNat n
theorem sIx_none (n d:Nat):sIx n d none=d:=rfl
theorem sIx_nat (n d k:Nat):sIx n d (some (k:Int))=min k n:=by
 show (if (k:Int) < 0 then ((k:Int)+(n:Int)).toNat else min (k:Int).toNat n)=min k n
 rw [if_neg (by omega),Int.toNat_natCast]
theorem sIx_le (n d:Nat) (hd:d<=n) (o:Option Int):sIx n d o<=n:=by
 cases o with
 | none=>exact hd
 | some v =>
  show (if v < 0 then (v+(n:Int)).toNat else min v.toNat n)<=n
  by_cases hv:v < 0
  ·rw [if_pos hv];omega
  ·rw [if_neg hv];exact Nat.min_le_right _ _
theorem clip_eq (v:Int) (n d:Nat):(if v < 0 then max (v+(n:Int)) 0 else min v (n:Int))=((sIx n d (some v):Nat):Int):=by
 show (if v < 0 then max (v+(n:Int)) 0 else min v (n:Int))=(((if v < 0 then (v+(n:Int)).toNat else min v.toNat n):Nat):Int)
 by_cases hv:v < 0
 ·simp only [if_pos hv];omega
 ·simp only [if_neg hv];omega
theorem adjust_gen (lo hi:Option Int) (n:Nat):Builtin.Slice.sliceAdjust lo hi 1 (n:Int)=(((sIx n 0 lo:Nat):Int),((sIx n n hi:Nat):Int)):=by
 have h1:¬ ((1:Int) < 0):=by omega
 unfold Builtin.Slice.sliceAdjust
 simp only [h1,if_false]
 refine Prod.ext ?_ ?_
 ·cases lo with
  | none=>rfl
  | some v=>exact clip_eq v n 0
 ·cases hi with
  | none=>rfl
  | some v=>exact clip_eq v n n
theorem places_gen (i j:Nat):Builtin.Slice.slicePlaces (i:Int) (j:Int) 1=j - i:=by
 unfold Builtin.Slice.slicePlaces
 have h1:(1:Int) > 0:=by omega
 simp only [h1,if_true,Int.ediv_one]
 split<;>omega
theorem slicePart_ {v:Value} {o:Option Int} {Q:Option Int->Shared->Prop} (p:IsPart v o) (h:Q o s):wpAny (model prog w) A (Builtin.Slice.slicePartIndex v) Q E s:=by
 cases p with
 | none=>exact slicePart_none h
 | int i t=>exact slicePart_int h
theorem sliceApplied_gen {sl:Addr} {vl vu:Value} {lo hi:Option Int} {n:Nat} {Q:Int × Int × Nat->Shared->Prop} (hs:s.heap.IsSliceOf sl vl vu .none) (pl:IsPart vl lo) (pu:IsPart vu hi)
  (h:Q (((sIx n 0 lo:Nat):Int),1,sIx n n hi - sIx n 0 lo) s):wpAny (model prog w) A (Builtin.Slice.sliceApplied (.ref sl) (pure (n:Int))) Q E s:=by
 obtain ⟨os,hos,hcs,hds⟩:=id hs
 unfold Builtin.Slice.sliceApplied Builtin.Slice.sliceFields
 refine wpAny_bind (wpAny_bind (wpAny_field hos hds (x:=vl) rfl (wpAny_bind (wpAny_field hos hds (x:=vu) rfl (wpAny_bind (wpAny_field hos hds (x:=.none) rfl (wpAny_pure ?_)))))))
 refine wpAny_bind (slicePart_none ?_)
 show wpAny _ _ (if ((1:Int) == 0)=true then _ else _) _ _ s
 rw [if_neg (by decide)]
 refine wpAny_bind (slicePart_ pl (wpAny_bind (slicePart_ pu (wpAny_bind (wpAny_pure ?_)))))
 show wpAny _ _ (match Builtin.Slice.sliceAdjust lo hi 1 (n:Int) with | (lo,hi)=>pure (lo,(1:Int),Builtin.Slice.slicePlaces lo hi 1)) _ _ s
 rw [adjust_gen lo hi n]
 show wpAny _ _ (pure (((sIx n 0 lo:Nat):Int),(1:Int),Builtin.Slice.slicePlaces ((sIx n 0 lo:Nat):Int) ((sIx n n hi:Nat):Int) 1)) _ _ s
 rw [places_gen]
 exact wpAny_pure h
theorem pick_gen (xs:Array Value) (i k:Nat):((List.range k).filterMap fun (m:Nat)=>xs[((i:Int)+(m:Int) * 1).toNat]?).toArray=((xs.toList.drop i).take k).toArray:=by
 have e:(fun (m:Nat)=>xs[((i:Int)+(m:Int) * 1).toNat]?)=fun m=>xs[i+m]?:=by
  funext m
  have:((i:Int)+(m:Int) * 1).toNat=i+m:=by omega
  rw [this]
 rw [e]
 have:=pick_run xs i k
 rw [List.filterMap_map] at this
 have e2:((fun x=>xs[x]?) ∘ fun x=>i+x)=fun m=>xs[i+m]?:=rfl
 rw [e2] at this
 rw [this]
theorem getItem_tuple_cut {t sl:Addr} {items:Array Value} {vl vu:Value} {lo hi:Option Int} {Q:Value->Shared->Prop} (ht:IsTup s.heap t items) (hs:s.heap.IsSliceOf sl vl vu .none) (pl:IsPart vl lo) (pu:IsPart vu hi)
  (hw:¬ (sIx items.size 0 lo=0/\sIx items.size items.size hi=items.size))
  (h:Q (.ref s.heap.objs.size) { s with heap:=s.heap.push { cls:=.type "tuple",data:=.seq ((items.toList.drop (sIx items.size 0 lo)).take (sIx items.size items.size hi - sIx items.size 0 lo)).toArray } })
  (hsz:items.size<=sizeLine):wpAny (model prog w) A (getItem (.ref t) (.ref sl)) Q E s:=by
 have htake:sizeOk (.seq ((items.toList.drop (sIx items.size 0 lo)).take (sIx items.size items.size hi - sIx items.size 0 lo)).toArray):=by
  show ((items.toList.drop (sIx items.size 0 lo)).take (sIx items.size items.size hi - sIx items.size 0 lo)).toArray.size<=sizeLine
  rw [List.size_toArray,List.length_take,List.length_drop,Array.length_toList]
  omega
 have hj:sIx items.size items.size hi<=items.size:=sIx_le _ _ (Nat.le_refl _) hi
 obtain ⟨os,hos,hcs,hds⟩:=id hs
 have hTs:s.TypeIs (.ref sl) "slice" := ⟨os,hos,hcs⟩
 unfold getItem
 try with_reducible refine wpAny_holding ?_
 first | refine wpAny_bind (wpAny_pure ?_) | skip
 refine wpAny_bind (wpAny_sequenceKey ht.typeIs (by decide) ?_)
 refine wpAny_bind (wpAny_callSpecial?_slot (name:=Str.ofString "__getitem__") ht.typeIs PyProof.Rows.slot_tuple_getitem
  (wpAny_call_entry PyProof.Rows.slot_tuple_getitem ht.typeIs entry_tuple_getitem ?_ (args_tuple_getitem _ _)))
 show wpAny _ _ (Builtin.Tuple.tupleItemsOf (.ref t) >>= _) _ _ s
 refine wpAny_bind (tupleItemsOf_ ht ?_)
 refine wpAny_bind (wpAny_typeOf hTs ?_)
 rw [if_pos (by decide)]
 refine wpAny_bind (sliceApplied_gen hs pl pu ?_)
 have hno:¬ ((((sIx items.size 0 lo:Nat):Int) == 0 && (1:Int) == 1 && (sIx items.size items.size hi - sIx items.size 0 lo) == items.size)=true):=by
  intro q
  rw [Bool.and_eq_true,Bool.and_eq_true] at q
  have q1:((sIx items.size 0 lo:Nat):Int)=0:=eq_of_beq q.1.1
  have q2:sIx items.size items.size hi - sIx items.size 0 lo=items.size:=eq_of_beq q.2
  exact hw ⟨by omega,by omega⟩
 show wpAny _ _ (if (((sIx items.size 0 lo:Nat):Int) == 0 && (1:Int) == 1 && (sIx items.size items.size hi - sIx items.size 0 lo) == items.size)=true then _ else _) _ _ s
 rw [if_neg hno,pick_gen]
 first
  | exact wpAny_bind (m:=Builtin.Tuple.tupleExact _) (wpAny_newObj_type (wpAny_pure ⟨_,rfl,wpAny_pure h⟩) htake)
  | exact wpAny_bind (m:=Builtin.Tuple.tupleExact _) (wpAny_newObj_type (wpAny_bind (wpAny_pure (wpAny_pure ⟨_,rfl,wpAny_pure h⟩))) htake)
  | exact wpAny_bind (wpAny_bind (m:=Builtin.Tuple.tupleExact _) (wpAny_newObj_type (wpAny_pure (wpAny_pure ⟨_,rfl,wpAny_pure h⟩)) htake))
  | exact wpAny_bind (wpAny_bind (m:=Builtin.Tuple.tupleExact _) (wpAny_newObj_type (wpAny_pure ⟨_,rfl,wpAny_pure h⟩) htake))
end
end HT
namespace L2
open PySem PySem.Spec PyProof.Rows
abbrev TO:=St->Hp->(Option Int->Hp->Prop)->Prop
section
variable {X:Cx} {e:Expr} {te:TE} {lo hi:Option Expr} {tl th:TO} {pos p2:Pos}
def SlR (X:Cx) (r:V->Option Int->Option Int->Hp->VK->Prop):Prop :=
 ∀ (pins:List (Addr × Obj)) (s:Shared) (σ:St) (H:Hp) (x:V) (v vl vu:Value) (lo hi:Option Int) (sl:Addr) (Q:VK),Inv X pins σ H s->RelV x v->s.heap.IsSliceOf sl vl vu .none->IsPart vl lo->IsPart vu hi->r x lo hi H Q ->
  ∃ T id,typeLookup (.type T) "__getitem__" = pure (some (.builtin id))/\s.TypeIs v T/\wpAny (model X.prog X.w) X.A (getItem v (.ref sl)) (EP X pins σ Q) X.xe s
def cutV (xs:List V) (lo hi:Option Int):List V:=(xs.drop (HT.sIx xs.length 0 lo)).take (HT.sIx xs.length xs.length hi - HT.sIx xs.length 0 lo)
theorem cutV_length (xs:List V) (lo hi:Option Int):(cutV xs lo hi).length<=xs.length:=by
 unfold cutV
 rw [List.length_take,List.length_drop]
 omega
def rSlT (K:PySem.W.Frag):V->Option Int->Option Int->Hp->VK->Prop:=fun x lo hi H Q=>∃ a xs,x=.ref a/\SqT K H a xs /\
 ¬ (HT.sIx xs.length 0 lo=0/\HT.sIx xs.length xs.length hi=xs.length)/\∀ p,H p=none->Q (.ref p) (upd H p (.tup (cutV xs lo hi)))
theorem sl_tup:SlR X (rSlT X.K):=by
 intro pins s σ H x v vl vu lo hi sl Q I rx hs pl pu h
 obtain ⟨a,xs,rfl,hx,hw,q⟩:=h
 cases rx
 obtain ⟨its,r,ht,hz⟩:=I.tuple hx
 have hlen:its.toArray.size=xs.length:=by rw [List.size_toArray];exact r.length.symm
 refine ⟨"tuple",_,PyProof.Rows.slot_tuple_getitem.lookup,ht.typeIs,?_⟩
 refine HT.getItem_tuple_cut ht hs pl pu (by rw [hlen];exact hw) ?_ (by rw [hlen];exact hz)
 rw [hlen]
 refine ⟨.ref s.heap.objs.size,_,I.laid (t':=s.toks) (o:=.tup (cutV xs lo hi)) (fun b ob q=>Heap.get?_push_of_some _ q) (Nat.le_refl _) ?_,rfl,q _ (I.hok.fresh (Nat.le_refl _))⟩
 exact ⟨⟨Nat.le_trans (cutV_length xs lo hi) hz,_,Heap.get?_push_size _ rfl,rfl⟩,_,(r.drop (HT.sIx xs.length 0 lo)).take (HT.sIx xs.length xs.length hi - HT.sIx xs.length 0 lo),IsTup.new _ _⟩
def rCatT (K:PySem.W.Frag):R2:=fun x y H Q=>∃ a b xs ys,x=.ref a/\y=.ref b/\SqT K H a xs/\SqT K H b ys/\xs≠[]/\xs.length+ys.length<=sizeLine /\
 (ys=[]->Q (.ref a) H)/\(ys≠[]->∀ p,H p=none->Q (.ref p) (upd H p (.tup (xs++ys))))
theorem Vals.nil_iff {xs:List V} {us:List Value} (r:Vals xs us):us=[] ↔ xs=[]:=by
 cases r with
 | nil=>simp
 | cons _ _=>simp
theorem op_catT:OpR X (binaryOp .Add) (rCatT X.K):=by
 intro pins s σ H x y v u Q I rx ry h
 obtain ⟨a,b,xs,ys,rfl,rfl,ha,hb,hx,hz,q1,q2⟩:=h
 cases rx
 cases ry
 obtain ⟨its,r1,p1,_⟩:=I.tuple ha
 obtain ⟨its2,r2,p2,_⟩:=I.tuple hb
 refine HT.cat_tup p1 p2 (fun z=>hx (r1.nil_iff.mp z)) (fun z=>⟨.ref a,H,I,rfl,q1 (r2.nil_iff.mp z)⟩) (fun z=>?_) (by rw [<- r1.length,<- r2.length];exact hz)
 refine ⟨.ref s.heap.objs.size,_,I.laid (t':=s.toks) (o:=.tup (xs++ys)) (fun b ob q=>Heap.get?_push_of_some _ q) (Nat.le_refl _) ?_,rfl,q2 (fun w=>z (r2.nil_iff.mpr w)) _ (I.hok.fresh (Nat.le_refl _))⟩
 exact ⟨⟨by rw [List.length_append];exact hz,_,Heap.get?_push_size _ rfl,rfl⟩,_,r1.append r2,IsTup.new _ _⟩
end
def ixN (n:Nat) (i:Int):Option Nat:=if 0<=i then (if i < n then some i.toNat else none) else if -(n:Int)<=i then some (i+n).toNat else none
def atI {α:Type} (xs:List α) (i:Int):Option α:=(ixN xs.length i).bind fun j=>xs[j]?
theorem ixN_seq {n:Nat} {i:Int} {j:Nat} (h:ixN n i=some j):seqIndex? i n=some j/\j < n/\-(n:Int)<=i/\i < n:=by
 unfold ixN at h
 by_cases h0:0<=i
 ·rw [if_pos h0] at h
  by_cases h1:i < n
  ·rw [if_pos h1] at h
   have e:i.toNat=j:=Option.some.inj h
   exact ⟨by rw [seqIndex_of h0 h1,e],by omega,by omega,h1⟩
  ·rw [if_neg h1] at h;cases h
 ·rw [if_neg h0] at h
  by_cases h1:-(n:Int)<=i
  ·rw [if_pos h1] at h
   have e:(i+n).toNat=j:=Option.some.inj h
   exact ⟨by rw [seqIndex_neg (by omega) h1,e],by omega,h1,by omega⟩
  ·rw [if_neg h1] at h;cases h
theorem atI_get {α:Type} {xs:List α} {i:Int} {v:α} (h:atI xs i=some v):∃ j,seqIndex? i xs.length=some j/\xs[j]?=some v/\j < xs.length/\-(xs.length:Int)<=i/\i < xs.length:=by
 unfold atI at h
 cases e:ixN xs.length i with
 | none=>rw [e] at h;cases h
 | some j =>
  rw [e] at h
  obtain ⟨h1,h2,h3,h4⟩:=ixN_seq e
  exact ⟨j,h1,h,h2,h3,h4⟩
theorem atI_nat {α:Type} {xs:List α} {j:Nat} {v:α} (h:xs[j]?=some v):atI xs (j:Int)=some v:=by
 have hj:j < xs.length:=(List.getElem?_eq_some_iff.mp h).1
 have e:ixN xs.length (j:Int)=some j:=by
  unfold ixN
  rw [if_pos (by omega),if_pos (by omega)];simp
 unfold atI;rw [e];exact h
def PlainIx (b:Expr):Prop:=∀ o i,subscripted b false o i=operate [o,i] (getItem o i)
def IxR (X:Cx) (r:R2):Prop :=
 ∀ (value slice:Expr) (pins:List (Addr × Obj)) (s:Shared) (σ:St) (H:Hp) (x y:V) (v u:Value) (Q:VK),Inv X pins σ H s->RelV x v->RelV y u->r x y H Q ->
  subscripted slice false v u=operate [v,u] (getItem v u)->wpAny (model X.prog X.w) X.A (subscriptTail value slice v u) (EP X pins σ Q) X.xe s
def MtR (X:Cx) (id:String) (r:V->List V->Hp->VK->Prop):Prop :=
 ∀ (pins:List (Addr × Obj)) (s:Shared) (σ:St) (H:Hp) (x:V) (xs:List V) (v:Value) (us:List Value) (Q:VK),Inv X pins σ H s->RelV x v->Vals xs us->r x xs H Q ->
  wpAny (model X.prog X.w) X.A (call (.builtin id) (v :: us)) (EP X pins σ Q) X.xe s
section
variable {X:Cx} {a b:Expr} {ta tb:TE} {pos:Pos}
theorem IxR.or {r r':R2} (h:IxR X r) (h':IxR X r'):IxR X (fun x y H Q=>r x y H Q\/r' x y H Q):=by
 intro value slice pins s σ H x y v u Q I rx ry q hs
 rcases q with q | q
 ·exact h value slice pins s σ H x y v u Q I rx ry q hs
 ·exact h' value slice pins s σ H x y v u Q I rx ry q hs
def rIxL (K:PySem.W.Frag):R2:=fun x y H Q=>∃ p xs i v,x=.ref p/\y=.int i/\SqL K H p xs/\atI xs i=some v/\Q v H
def rIxT (K:PySem.W.Frag):R2:=fun x y H Q=>∃ p xs i v,x=.ref p/\y=.int i/\SqT K H p xs/\atI xs i=some v/\Q v H
def rIxS:R2:=fun x y H Q=>∃ z i c,x=.str z/\y=.int i/\z.length<=sizeLine/\atI z.cps.toList i=some c/\Q (.str ⟨#[c]⟩) H
theorem ix_list:IxR X (rIxL X.K):=by
 intro value slice pins s σ H x y v u Q I rx ry h hs
 obtain ⟨p,xs,i,z,rfl,rfl,hq,he,q⟩:=h
 cases rx
 obtain ⟨t,rfl⟩:=ry
 obtain ⟨its,r,pl,hz⟩:=I.list hq
 obtain ⟨j,h1,h2,h3,h4,h5⟩:=atI_get he
 obtain ⟨w,ew,rw'⟩:=r.get h2
 have hl:=r.length
 have hn:=line63
 have fin:EP X pins σ Q w s:=⟨z,H,I,rw',q⟩
 by_cases h0:0<=i
 ·have hj:i.toNat=j:=by
   rw [seqIndex_of h0 h5] at h1
   exact Option.some.inj h1
  exact item_listR pl.isList h0 (by omega) (by rw [hj];simpa using ew) fin hs
 ·have hj:(i+(its.toArray.size:Int)).toNat=j:=by
   rw [seqIndex_neg (by omega) h4] at h1
   rw [List.size_toArray,<- hl]
   exact Option.some.inj h1
  exact subscriptTail_builtinR (x:=w) pl.isList.typeIs slot_list_getitem.lookup
   (wpAny_getItem_list_neg (Q:=fun r s'=>r=w/\EP X pins σ Q r s') pl.isList (by omega) (by rw [List.size_toArray]<;>omega) (by omega) (by rw [hj];simpa using ew) ⟨rfl,fin⟩) hs
theorem ix_tup:IxR X (rIxT X.K):=by
 intro value slice pins s σ H x y v u Q I rx ry h hs
 obtain ⟨p,xs,i,z,rfl,rfl,hq,he,q⟩:=h
 cases rx
 obtain ⟨t,rfl⟩:=ry
 obtain ⟨its,r,pl,hz⟩:=I.tuple hq
 obtain ⟨j,h1,h2,h3,h4,h5⟩:=atI_get he
 obtain ⟨w,ew,rw'⟩:=r.get h2
 have hl:=r.length
 have hn:=line63
 have fin:EP X pins σ Q w s:=⟨z,H,I,rw',q⟩
 exact subscriptTail_builtinR (x:=w) pl.typeIs slot_tuple_getitem.lookup
  (getItem_tuple (j:=j) (Q:=fun r s'=>r=w/\EP X pins σ Q r s') pl (by omega) (by omega) (by rw [List.size_toArray,<- hl];exact h1) (by simpa using ew) ⟨rfl,fin⟩) hs
theorem ix_str:IxR X rIxS:=by
 intro value slice pins s σ H x y v u Q I rx ry h hs
 obtain ⟨z,i,c,rfl,rfl,hz,he,q⟩:=h
 obtain ⟨t,rfl⟩:=rx
 obtain ⟨t',rfl⟩:=ry
 obtain ⟨j,h1,h2,h3,h4,h5⟩:=atI_get he
 have hl:z.cps.toList.length=z.length:=by simp [Str.length]
 rw [hl] at h1 h4 h5
 have hn:=line63
 exact tail_any (typeIs_str s z t) slot_str_getitem.lookup (getItem_str (c:=c) (by
  have e1:decide (i < -(2 ^ 63:Int))=false:=decide_eq_false (by omega)
  have e2:decide (i ≥ 2 ^ 63)=false:=decide_eq_false (by omega)
  rw [e1,e2,Bool.or_false]) (by rw [h1];simpa using h2) ⟨.str ⟨#[c]⟩,H,I.tok _,⟨_,rfl⟩,q⟩) hs
def rIx (K:PySem.W.Frag):R2:=fun x y H Q=>rIxL K x y H Q\/rIxT K x y H Q\/rIxS x y H Q
theorem ix_seq:IxR X (rIx X.K):=ix_list.or (ix_tup.or ix_str)
theorem mapSeq_set (its:List Value) (n j:Nat) (u:Value):Obj.mapSeq (·.setIfInBounds j u) { cls:=.type "list",data:=.seq its.toArray n }={ cls:=.type "list",data:=.seq (its.set j u).toArray n }:=by
 simp [Obj.mapSeq]
theorem Inv.lst {pins:List (Addr × Obj)} {σ:St} {H:Hp} {s:Shared} {p:Addr} {xs:List V} (I:Inv X pins σ H s) (h:H p=some (.lst xs)) :
  ∃ (its:List Value) (n:Nat),Vals xs its/\s.heap.get? p=some { cls:=.type "list",data:=.seq its.toArray n }/\xs.length<=sizeLine:=by
 obtain ⟨z,its,n,r,e⟩:=I.hok p _ h
 exact ⟨its,n,r,e,z⟩
theorem Inv.lstUpd {pins:List (Addr × Obj)} {σ:St} {H:Hp} {s:Shared} {p:Addr} {xs ys:List V} {its its':List Value} {n n':Nat} {f:Obj->Obj} (I:Inv X pins σ H s) (h:H p=some (.lst xs))
  (ho:s.heap.get? p=some { cls:=.type "list",data:=.seq its.toArray n }) (hf:f { cls:=.type "list",data:=.seq its.toArray n }={ cls:=.type "list",data:=.seq its'.toArray n' }) (r:Vals ys its') (hz:ys.length<=sizeLine) (t:Nat) :
  Inv X pins σ (upd H p (.lst ys)) { s with heap:=s.heap.update p f,toks:=t }:=by
 have e:(s.heap.update p f).get? p=some { cls:=.type "list",data:=.seq its'.toArray n' }:=by
  rw [Heap.get?_update_self f ho (by rw [hf]<;>rfl),hf]
 refine I.write (x:=p) (e:=p) (by rw [h];trivial) (.inl rfl) (fun b u hb q=>(Heap.get?_update_other _ _ (Ne.symm hb)).trans q) ⟨_,e⟩ ?_
 exact ⟨hz,its',n',r,e⟩
def rSetL:V->V->V->Hp->(Hp->Prop)->Prop:=fun o i v H Q=>∃ p xs k j,o=.ref p/\i=.int k/\H p=some (.lst xs)/\ixN xs.length k=some j/\Q (upd H p (.lst (xs.set j v)))
theorem set_list:PSet X rSetL:=by
 intro pins s σ H o i v ov iv u Q I ro ri rv h
 obtain ⟨p,xs,k,j,rfl,rfl,hp,hj,q⟩:=h
 cases ro
 obtain ⟨t,rfl⟩:=ri
 obtain ⟨its,n,r,ho,hz⟩:=I.lst hp
 obtain ⟨h1,h2,h3,h4⟩:=ixN_seq hj
 have hl:=r.length
 have hn:=line63
 have I':Inv X pins σ (upd H p (.lst (xs.set j v))) { s with heap:=s.heap.update p (Obj.mapSeq (·.setIfInBounds j u)) } :=
  I.lstUpd hp ho (mapSeq_set its n j u) (r.set rv j) (by rw [List.length_set];exact hz) s.toks
 by_cases h0:0<=k
 ·have hk:k.toNat=j:=by
   rw [seqIndex_of h0 h4] at h1
   exact Option.some.inj h1
  exact PySem.W.ki_setAt ho h0 (by omega) (by rw [List.size_toArray,<- hl];exact h4) (by rw [hk];exact ⟨_,I',q⟩)
 ·have hk:(k+(its.toArray.size:Int)).toNat=j:=by
   rw [seqIndex_neg (by omega) h3] at h1
   rw [List.size_toArray,<- hl]
   exact Option.some.inj h1
  exact PySem.W.ki_setBack ho (by omega) (by rw [List.size_toArray,<- hl];exact h3) (by omega) (by rw [hk];exact ⟨_,I',q⟩)
theorem slice_bounds (lo hi:Option Int) (n:Nat):(sliceBounds lo hi none n).1=((HT.sIx n 0 lo:Nat):Int)/\(sliceBounds lo hi none n).2.1=((HT.sIx n n hi:Nat):Int)/\(sliceBounds lo hi none n).2.2=1:=by
 refine ⟨?_,?_,rfl⟩
 ·cases lo with
  | none=>simp [sliceBounds,HT.sIx]
  | some i =>
   simp only [sliceBounds,HT.sIx,Option.getD_none,show (1:Int) > 0 by decide,if_true]
   by_cases h:i < 0
   ·simp only [h,if_true]<;>omega
   ·simp only [h,if_false]<;>omega
 ·cases hi with
  | none=>simp [sliceBounds,HT.sIx]
  | some i =>
   simp only [sliceBounds,HT.sIx,Option.getD_none,show (1:Int) > 0 by decide,if_true]
   by_cases h:i < 0
   ·simp only [h,if_true]<;>omega
   ·simp only [h,if_false]<;>omega
theorem slicePick_cut (its:List Value) (lo hi:Option Int):slicePick its.toArray lo hi none=((its.drop (HT.sIx its.length 0 lo)).take (HT.sIx its.length its.length hi - HT.sIx its.length 0 lo)).toArray:=by
 obtain ⟨h1,h2,h3⟩:=slice_bounds lo hi its.toArray.size
 unfold slicePick
 rw [h1,h2,h3]
 simp only [sliceRange_one,pick_run,List.size_toArray]<;>rfl
def rSlL (K:PySem.W.Frag):V->Option Int->Option Int->Hp->VK->Prop:=fun x lo hi H Q=>∃ a xs,x=.ref a/\SqL K H a xs/\∀ p,H p=none->Q (.ref p) (upd H p (.lst (cutV xs lo hi)))
theorem sl_list:SlR X (rSlL X.K):=by
 intro pins s σ H x v vl vu lo hi sl Q I rx hs pl pu h
 obtain ⟨a,xs,rfl,hx,q⟩:=h
 cases rx
 obtain ⟨its,r,ht,hz⟩:=I.list hx
 have hlen:=r.length
 refine ⟨"list",_,slot_list_getitem.lookup,ht.isList.typeIs,?_⟩
 refine wpAny_getItem_list_slice ht.isList hs pl pu .none (by simp) ?_ (by rw [List.size_toArray]<;>omega)
 rw [slicePick_cut,<- hlen]
 refine ⟨.ref s.heap.objs.size,_,I.laid (t':=s.toks) (o:=.lst (cutV xs lo hi)) (fun b ob q=>Heap.get?_push_of_some _ q) (Nat.le_refl _) ?_,rfl,q _ (I.hok.fresh (Nat.le_refl _))⟩
 exact ⟨Nat.le_trans (cutV_length xs lo hi) hz,_,0,(r.drop (HT.sIx xs.length 0 lo)).take (HT.sIx xs.length xs.length hi - HT.sIx xs.length 0 lo),Heap.get?_push_size _ rfl⟩
def flatV:V->Bool
 | .non=>true
 | .bl _=>true
 | .int _=>true
 | .str _=>true
 | _=>false
def eqV:V->V->Bool
 | .non,.non=>true
 | .bl a,.bl b=>a == b
 | .bl a,.int b=>(if a then 1 else 0) == b
 | .int a,.bl b=>a == (if b then 1 else 0)
 | .int a,.int b=>a == b
 | .str a,.str b=>a == b
 | _,_=>false
theorem eqAt_V {A:Around} {s:Shared} {y x:V} {u v:Value} (ry:RelV y u) (rx:RelV x v) (fy:flatV y=true) (fx:flatV x=true):SeqAt.EqAt A s u v (eqV y x):=by
 cases y with
 | non =>
  cases ry
  cases x with
  | non=>cases rx;exact SeqAt.EqAt.same _
  | bl b=>cases rx;exact SeqAt.EqAt.none_bool b
  | int b=>obtain ⟨t,rfl⟩:=rx;exact SeqAt.EqAt.none_int b t
  | str b=>obtain ⟨t,rfl⟩:=rx;exact SeqAt.EqAt.none_str b t
  | _=>exact absurd (show false=true from fx) Bool.false_ne_true
 | bl a =>
  cases ry
  cases x with
  | non=>cases rx;exact SeqAt.EqAt.bool_none a
  | bl b=>cases rx;exact SeqAt.EqAt.bool_bool a b
  | int b=>obtain ⟨t,rfl⟩:=rx;exact SeqAt.EqAt.bool_int a b t
  | str b=>obtain ⟨t,rfl⟩:=rx;exact SeqAt.EqAt.bool_str a b t
  | _=>exact absurd (show false=true from fx) Bool.false_ne_true
 | int a =>
  obtain ⟨t',rfl⟩:=ry
  cases x with
  | non=>cases rx;exact SeqAt.EqAt.int_none a t'
  | bl b=>cases rx;exact SeqAt.EqAt.int_bool a t' b
  | int b=>obtain ⟨t,rfl⟩:=rx;exact SeqAt.EqAt.int_int a t' b t
  | str b=>obtain ⟨t,rfl⟩:=rx;exact SeqAt.EqAt.int_str a t' b t
  | _=>exact absurd (show false=true from fx) Bool.false_ne_true
 | str a =>
  obtain ⟨t',rfl⟩:=ry
  cases x with
  | non=>cases rx;exact SeqAt.EqAt.str_none a t'
  | bl b=>cases rx;exact SeqAt.EqAt.str_bool a t' b
  | int b=>obtain ⟨t,rfl⟩:=rx;exact SeqAt.EqAt.str_int a t' b t
  | str b=>obtain ⟨t,rfl⟩:=rx;exact SeqAt.EqAt.str_str a t' b t
  | _=>exact absurd (show false=true from fx) Bool.false_ne_true
 | _=>exact absurd (show false=true from fy) Bool.false_ne_true
def eqU (x:V) (u:Value):Bool:=match u with
 | .none=>eqV .non x
 | .bool b=>eqV (.bl b) x
 | .int i _=>eqV (.int i) x
 | .str z _=>eqV (.str z) x
 | _=>false
theorem eqU_of {x y:V} {u:Value} (r:RelV y u) (f:flatV y=true):eqU x u=eqV y x:=by
 cases y with
 | non=>cases r;rfl
 | bl b=>cases r;rfl
 | int i=>obtain ⟨t,rfl⟩:=r;rfl
 | str z=>obtain ⟨t,rfl⟩:=r;rfl
 | _=>exact absurd (show false=true from f) Bool.false_ne_true
theorem any_eqU {x:V}:∀ {xs:List V} {us:List Value},Vals xs us->xs.all flatV=true->us.any (eqU x)=xs.any fun y=>eqV y x
 | _,_,.nil,_=>rfl
 | y :: xs,u :: us,.cons r t,f=>by
  rw [List.all_cons,Bool.and_eq_true] at f
  rw [List.any_cons,List.any_cons,eqU_of r f.1,any_eqU t f.2]
theorem mem_eqAt {A:Around} {s:Shared} {x:V} {v:Value} (rx:RelV x v) (fx:flatV x=true):∀ {xs:List V} {us:List Value},Vals xs us->xs.all flatV=true->∀ u∈us,SeqAt.EqAt A s u v (eqU x u)
 | _,_,.nil,_=>fun u hu=>by cases hu
 | y :: xs,u :: us,.cons r t,f=>fun u' hu=>by
  rw [List.all_cons,Bool.and_eq_true] at f
  rcases List.mem_cons.mp hu with rfl | hu
  ·rw [eqU_of r f.1];exact eqAt_V r rx f.1 fx
  ·exact mem_eqAt rx fx t f.2 u' hu
def inV (x:V) (xs:List V):Bool:=xs.any fun y=>eqV y x
def rIn (K:PySem.W.Frag) (neg:Bool):R2:=fun x y H Q=>∃ p xs,y=.ref p/\(SqL K H p xs\/SqT K H p xs)/\flatV x=true/\xs.all flatV=true/\Q (.bl (if neg then !inV x xs else inV x xs)) H
theorem op_in_seq:OpR X (compareOp .In) (rIn X.K false):=by
 intro pins s σ H x y v u Q I rx ry h
 obtain ⟨p,xs,rfl,hq,fx,fs,q⟩:=h
 cases ry
 rcases hq with hq | hq
 ·obtain ⟨its,r,pl,hz⟩:=I.list hq
  refine SeqAt.in_listAt (eqU x) pl.isList (fun w hw=>mem_eqAt rx fx r fs w (by simpa using hw)) ⟨.bl _,H,I,rfl,?_⟩
  rw [show its.toArray.any (eqU x)=its.any (eqU x) by simp,any_eqU r fs]
  exact q
 ·obtain ⟨its,r,pl,hz⟩:=I.tuple hq
  refine SeqAt.in_tupleAt (eqU x) pl (fun w hw=>mem_eqAt rx fx r fs w (by simpa using hw)) ⟨.bl _,H,I,rfl,?_⟩
  rw [show its.toArray.any (eqU x)=its.any (eqU x) by simp,any_eqU r fs]
  exact q
theorem op_notIn_seq:OpR X (compareOp .NotIn) (rIn X.K true):=by
 intro pins s σ H x y v u Q I rx ry h
 obtain ⟨p,xs,rfl,hq,fx,fs,q⟩:=h
 cases ry
 rcases hq with hq | hq
 ·obtain ⟨its,r,pl,hz⟩:=I.list hq
  refine SeqAt.notIn_listAt (eqU x) pl.isList (fun w hw=>mem_eqAt rx fx r fs w (by simpa using hw)) ⟨.bl _,H,I,rfl,?_⟩
  rw [show its.toArray.any (eqU x)=its.any (eqU x) by simp,any_eqU r fs]
  exact q
 ·obtain ⟨its,r,pl,hz⟩:=I.tuple hq
  refine SeqAt.notIn_tupleAt (eqU x) pl (fun w hw=>mem_eqAt rx fx r fs w (by simpa using hw)) ⟨.bl _,H,I,rfl,?_⟩
  rw [show its.toArray.any (eqU x)=its.any (eqU x) by simp,any_eqU r fs]
  exact q
theorem call_len_seq:CallR X (.builtin "len") (fun xs H Q=>∃ p ys,xs=[.ref p]/\(SqL X.K H p ys\/SqT X.K H p ys)/\Q (.int ys.length) H):=by
 intro pins s σ H xs us Q I r h
 obtain ⟨p,ys,rfl,hq,q⟩:=h
 obtain ⟨u,rfl,rx⟩:=vals1 r
 cases rx
 have hn:=line63
 rcases hq with hq | hq
 ·obtain ⟨its,r',pl,hz⟩:=I.list hq
  have hlen:=r'.length
  exact Calls.call_len_list pl.isList (by simp only [List.size_toArray]<;>omega) ⟨.int ys.length,H,I.tok _,⟨s.toks+1,by rw [List.size_toArray,hlen]⟩,q⟩
 ·obtain ⟨its,r',pl,hz⟩:=I.tuple hq
  have hlen:=r'.length
  exact len_tuple pl (by simp only [List.size_toArray]<;>omega) ⟨.int ys.length,H,I.tok _,⟨s.toks+1,by rw [List.size_toArray,hlen]⟩,q⟩
theorem call_list_of:CallR X (.type "list") (fun xs H Q=>∃ p ys,xs=[.ref p]/\(SqL X.K H p ys\/SqT X.K H p ys)/\∀ l,H l=none->Q (.ref l) (upd H l (.lst ys))):=by
 intro pins s σ H xs us Q I r h
 obtain ⟨p,ys,rfl,hq,q⟩:=h
 obtain ⟨u,rfl,rx⟩:=vals1 r
 cases rx
 have fin:∀ (its:List Value),Vals ys its->ys.length<=sizeLine->∀ (h':Heap) (c':Nat),(∀ b o',s.heap.get? b=some o'->h'.get? b=some o') ->
   h'.get? s.heap.objs.size=some { cls:=.type "list",dict:=none,data:=.seq its.toArray c',slots:=#[] }->EP X pins σ Q (.ref s.heap.objs.size) { s with heap:=h' }:=fun its r' hz h' c' kp e =>
  ⟨.ref s.heap.objs.size,_,I.laid (t':=s.toks) kp (Nat.le_refl _) (show ObjOk X.prog X.w _ h' _ (.lst ys) from ⟨hz,its,c',r',e⟩),rfl,q _ (I.hok.fresh (Nat.le_refl _))⟩
 rcases hq with hq | hq
 ·obtain ⟨its,r',pl,hz⟩:=I.list hq
  have hlen:=r'.length
  obtain ⟨o,ho,hc,n,hd⟩:=pl.isList
  exact call_list_seq p (.inl rfl) ho hc hd (fun h' c' kp e=>fin its r' hz h' c' kp e) (by simp only [List.size_toArray]<;>omega)
 ·obtain ⟨its,r',pl,hz⟩:=I.tuple hq
  have hlen:=r'.length
  obtain ⟨o,ho,hc,n,hd⟩:=pl
  exact call_list_seq p (.inr rfl) ho hc hd (fun h' c' kp e=>fin its r' hz h' c' kp e) (by simp only [List.size_toArray]<;>omega)
theorem call_tuple_of:CallR X (.type "tuple") (fun xs H Q=>∃ p ys,xs=[.ref p]/\((SqL X.K H p ys/\∀ l,H l=none->Q (.ref l) (upd H l (.tup ys)))\/(SqT X.K H p ys/\Q (.ref p) H))):=by
 intro pins s σ H xs us Q I r h
 obtain ⟨p,ys,rfl,h⟩:=h
 obtain ⟨u,rfl,rx⟩:=vals1 r
 cases rx
 rcases h with ⟨hq,q⟩ | ⟨hq,q⟩
 ·obtain ⟨its,r',pl,hz⟩:=I.list hq
  have hlen:=r'.length
  refine call_tuple_list pl.isList (fun h' kp=>?_) (by simp only [List.size_toArray]<;>omega)
  have I1:Inv X pins σ H { s with heap:=h' }:=I.kept (t':=s.toks) kp
  have I2:Inv X pins σ (upd H h'.objs.size (.tup ys)) { s with heap:=h'.push { cls:=.type "tuple",data:=.seq its.toArray } } :=
   I1.laid (t':=s.toks) (fun b o e=>Heap.get?_push_of_some _ e) (Nat.le_refl _) (show ObjOk X.prog X.w _ _ _ (.tup ys) from ⟨⟨hz,_,Heap.get?_push_size _ rfl,rfl⟩,its,r',IsTup.new _ _⟩)
  exact ⟨.ref h'.objs.size,_,I2,rfl,q _ (I1.hok.fresh (Nat.le_refl _))⟩
 ·obtain ⟨its,r',pl,hz⟩:=I.tuple hq
  exact call_tuple_same pl ⟨.ref p,H,I,rfl,q⟩
def tyV (K:PySem.W.Frag) (T:String) (x:V) (H:Hp):Prop:=match x with
 | .str _=>T = "str"
 | .int _=>T = "int"
 | .ref p=>(T = "list" /\ ∃ xs,SqL K H p xs)\/(T = "tuple" /\ ∃ o,K.lookup p=some o/\o.cls=.type "tuple" /\ o.dict=none) \/
   (T = "dict" /\ ((∃ kvs,H p=some (.dK kvs))\/∃ kvs,H p=some (.dT kvs)))\/(T = "set" /\ ∃ S n,H p=some (.set S n))
 | _=>False
theorem tyV_is {pins:List (Addr × Obj)} {σ:St} {H:Hp} {s:Shared} {T:String} {x:V} {v:Value} (I:Inv X pins σ H s) (r:RelV x v) (ty:tyV X.K T x H) :
  s.TypeIs v T/\∀ a,v=.ref a->∃ ob,s.heap.get? a=some ob/\ob.dict=none:=by
 cases x with
 | str z =>
  obtain ⟨t,rfl⟩:=r
  cases (show T = "str" from ty)
  exact ⟨typeIs_str s z t,fun _ e=>nomatch e⟩
 | int i =>
  obtain ⟨t,rfl⟩:=r
  cases (show T = "int" from ty)
  exact ⟨typeIs_int s i t,fun _ e=>nomatch e⟩
 | ref p =>
  cases r
  rcases ty with ⟨rfl,xs,hq⟩ | ⟨rfl,o,hk,hc,hd⟩ | ⟨rfl,hk⟩ | ⟨rfl,S,n,hk⟩
  ·obtain ⟨its,_,pl,_⟩:=I.list hq
   refine ⟨pl.isList.typeIs,fun a e=>?_⟩
   cases e
   obtain ⟨o,n,e,c,hd,_⟩:=pl
   exact ⟨o,e,hd⟩
  ·refine ⟨⟨o,I.kIn p o hk,hc⟩,fun a e=>?_⟩
   cases e
   exact ⟨o,I.kIn _ o hk,hd⟩
  ·have z:∃ o,s.heap.get? p=some o/\o.ExactDict:=by
    rcases hk with ⟨kvs,hk⟩ | ⟨kvs,hk⟩
    ·obtain ⟨_,_,_,_,o,_,_,e,ex,_⟩:=I.hok p _ hk
     exact ⟨o,e,ex⟩
    ·obtain ⟨_,_,_,_,o,_,_,e,ex,_⟩:=I.hok p _ hk
     exact ⟨o,e,ex⟩
   obtain ⟨o,e,ex⟩:=z
   refine ⟨⟨o,e,ex.1⟩,fun a e2=>?_⟩
   cases e2
   exact ⟨o,e,ex.2.1⟩
  ·obtain ⟨o,_,_,_,e,ex,_⟩:=I.hok p _ hk
   refine ⟨⟨o,e,ex.1⟩,fun a e2=>?_⟩
   cases e2
   exact ⟨o,e,ex.2.1⟩
 | _=>exact False.elim ty
def tBM0 (K:PySem.W.Frag) (T:String) (r:V->List V->Hp->VK->Prop) (to:TE):TE:=fun σ H Q=>to σ H fun x H1=>tyV K T x H1/\r x [] H1 Q
def tBM (K:PySem.W.Frag) (T:String) (r:V->List V->Hp->VK->Prop) (to:TE) (t:TA):TE:=fun σ H Q=>to σ H fun x H1=>tyV K T x H1/\t σ H1 fun xs H2=>r x xs H2 Q
variable {o e:Expr} {es:List Expr} {to:TE} {t:TA} {name:Str} {apos cpos:Pos} {T id:String} {r:V->List V->Hp->VK->Prop}
theorem pe_bm0 (pa:PlainAttrs T) (slot:Slot T name id) (hty:typeOf (.builtin id)=pure (.type "method_descriptor")) (hm:MtR X id r) (ho:PE X o to)
  (hbase:attributeBase o name X.env (eval o X.env)=eval o X.env:=by rfl) (hline:(apos.endLine == cpos.line)=true:=by rfl):PE X (.Call (.Attribute o name apos) [] [] cpos) (tBM0 X.K T r to):=by
 intro pins s σ H Q I h
 refine wpAny_Call_method0_late hbase hline (thn (ho pins s σ H _ I h) fun v s1 ⟨x,H1,I1,r1,ty,q1⟩=>?_)
 obtain ⟨h1,h2⟩:=tyV_is I1 r1 ty
 exact ⟨T,id,pa,slot,hty,h1,h2,Calls.callWith_builtin rfl (PySem.evalArgs_none (hm pins s1 σ H1 x [] v [] Q I1 r1 .nil q1))⟩
theorem pe_bm (pa:PlainAttrs T) (slot:Slot T name id) (hty:typeOf (.builtin id)=pure (.type "method_descriptor")) (hm:MtR X id r) (ho:PE X o to) (ha:PA X (e :: es) t)
  (hbase:attributeBase o name X.env (eval o X.env)=eval o X.env:=by rfl)
  (hfew:((backTo cpos (starEach (e :: es) X.env)).all (fun x=>!x.1) && (backToKw cpos (keywordEach [] X.env)).all (fun x=>x.1.isSome)
   && decide ((e :: es).length+([] : List Keyword).length+(if ([] : List Keyword).isEmpty then 0 else 1) < 30))=true:=by rfl)
  (hline:(apos.endLine == cpos.line)=true:=by rfl) (hs:starEach (e :: es) X.env=(false,eval e X.env) :: starEach es X.env:=by rfl) (hplain:(backTo cpos (starEach es X.env)).any (·.1)=false:=by rfl) :
  PE X (.Call (.Attribute o name apos) (e :: es) [] cpos) (tBM X.K T r to t):=by
 intro pins s σ H Q I h
 refine wpAny_Call_method_late hbase hfew hline rfl (thn (ho pins s σ H _ I h) fun v s1 ⟨x,H1,I1,r1,ty,q1⟩=>?_)
 obtain ⟨h1,h2⟩:=tyV_is I1 r1 ty
 refine ⟨T,id,pa,slot,hty,h1,h2,?_⟩
 have hA:=ha cpos pins s1 σ H1 _ I1 q1
 rw [hs] at hA ⊢
 refine Calls.callWith_builtin (by show (false || (backTo cpos (starEach es X.env)).any (·.1))=false;rw [hplain]<;>rfl) (Calls.evalArgs_plain ?_)
 exact thn hA fun us s2 ⟨vs,H2,I2,r2,q2⟩=>hm pins s2 σ H2 x vs v us Q I2 r1 r2 q2
end
def MtM (X:Cx) (id:String) (r:V->List V->Hp->VK->Prop):Prop :=
 ∀ (pins:List (Addr × Obj)) (s:Shared) (σ:St) (H:Hp) (x:V) (xs:List V) (v:Value) (us:List Value) (Q:VK),Inv X pins σ H s->RelV x v->Vals xs us->r x xs H Q ->
  wpAny (model X.prog X.w) X.A (call (.builtin id) (v :: us)) (EP X pins σ Q) X.xe s
theorem Vals.one:∀ {x:V} {us:List Value},Vals [x] us->∃ u,us=[u]/\RelV x u
 | _,_,.cons r .nil=>⟨_,rfl,r⟩
theorem Vals.zero:∀ {us:List Value},Vals [] us->us=[]
 | _,.nil=>rfl
theorem Vals.dropLast {xs:List V} {us:List Value} (h:Vals xs us):Vals xs.dropLast us.dropLast:=by
 induction h with
 | nil=>exact .nil
 | cons r t ih =>
  cases t with
  | nil=>exact .nil
  | cons q t'=>exact .cons r ih
theorem Vals.reverse {xs:List V} {us:List Value} (h:Vals xs us):Vals xs.reverse us.reverse:=by
 induction h with
 | nil=>exact .nil
 | cons r t ih=>rw [List.reverse_cons,List.reverse_cons];exact Vals.append ih (.cons r .nil)
theorem Vals.rep {xs:List V} {us:List Value} (h:Vals xs us):∀ k:Nat,Vals (List.replicate k xs).flatten (List.replicate k us).flatten
 | 0=>.nil
 | k+1=>by
  rw [List.replicate_succ,List.replicate_succ,List.flatten_cons,List.flatten_cons]
  exact Vals.append h (Vals.rep h k)
theorem erase_last {α:Type} (l:List α):l.eraseIdx (l.length - 1)=l.dropLast:=by
 induction l with
 | nil=>rfl
 | cons a r ih =>
  cases r with
  | nil=>rfl
  | cons b r =>
   have e:(a :: b :: r).length - 1=((b :: r).length - 1)+1:=by
    have h1:(a :: b :: r).length=r.length+2:=rfl
    have h2:(b :: r).length=r.length+1:=rfl
    omega
   rw [e,List.eraseIdx_cons_succ,ih]
   all_goals rfl
theorem foldl_rep (its:List Value):∀ (k:Nat) (acc:List Value),
  List.foldl (fun x1 x2=>x1++x2) acc.toArray (List.replicate k its.toArray)=(acc++(List.replicate k its).flatten).toArray
 | 0,acc=>by simp
 | k+1,acc=>by
  have e:acc.toArray++its.toArray=(acc++its).toArray:=by simp
  have e2:(acc++its)++(List.replicate k its).flatten=acc++(List.replicate (k+1) its).flatten:=by
   rw [List.replicate_succ,List.flatten_cons,List.append_assoc]
  rw [<- e2,<- foldl_rep its k (acc++its),<- e,List.replicate_succ,List.foldl_cons]
section
variable {X:Cx} {pins:List (Addr × Obj)} {σ:St} {H:Hp} {s:Shared} {l b:Addr} {xs ys zs:List V}
theorem Inv.lset {its its':List Value} {n:Nat} {f:Array Value->Array Value} {t':Nat} (I:Inv X pins σ H s) (hH:H l=some (.lst xs))
  (e:s.heap.get? l=some { cls:=.type "list",data:=.seq its.toArray n }) (hf:f its.toArray=its'.toArray) (hv:Vals ys its') (hz:ys.length<=sizeLine) :
  Inv X pins σ (upd H l (.lst ys)) { s with heap:=s.heap.update l (Obj.mapSeq f),toks:=t' }:=by
 have q:=PySem.IsL.update e f
 rw [hf] at q
 refine I.write (x:=l) (e:=l) (by rw [hH];exact trivial) (.inl rfl) (fun b' u hb hu=>(Heap.get?_update_other s.heap (Obj.mapSeq f) (Ne.symm hb)).trans hu) ⟨_,q⟩ ?_
 exact ⟨hz,its',_,hv,q⟩
theorem Inv.lnew {its:List Value} {t':Nat} (I:Inv X pins σ H s) (hv:Vals ys its) (hz:ys.length<=sizeLine) :
  Inv X pins σ (upd H s.heap.objs.size (.lst ys)) { s with heap:=s.heap.push { cls:=.type "list",data:=.seq its.toArray },toks:=t' } :=
 I.laid (fun _ _ q=>Heap.get?_push_of_some _ q) (Nat.le_refl _) ⟨hz,its,0,hv,Heap.get?_push_size _ rfl⟩
theorem Inv.fresh (I:Inv X pins σ H s):H s.heap.objs.size=none:=I.hok.fresh (Nat.le_refl _)
theorem Inv.lstM (I:Inv X pins σ H s) (hH:H l=some (.lst xs)):xs.length<=sizeLine/\∃ (its:List Value) (n:Nat),Vals xs its/\xs.length=its.length/\s.heap.get? l=some { cls:=.type "list",data:=.seq its.toArray n }:=by
 obtain ⟨z,its,n,r,e⟩:=I.hok l _ hH
 exact ⟨z,its,n,r,r.length,e⟩
theorem notLongL {n:Nat} (h:n<=sizeLine):Builtin.List.listTooLong n=false:=by
 unfold Builtin.List.listTooLong
 exact decide_eq_false (by omega)
end
section
variable {X:Cx}
def rAppend:V->List V->Hp->VK->Prop:=fun x vs H Q=>∃ l xs y,x=.ref l/\vs=[y]/\H l=some (.lst xs)/\xs.length < sizeLine/\Q .non (upd H l (.lst (xs++[y])))
theorem mt_append:MtM X "list.append" rAppend:=by
 intro pins s σ H x vs v us Q I rx rv h
 obtain ⟨l,xs,y,rfl,rfl,hH,hz,q⟩:=h
 cases rx
 obtain ⟨u,rfl,ru⟩:=rv.one
 obtain ⟨z,its,n,r,hl,e⟩:=I.lstM hH
 refine call_meets F.slot_list_append ⟨_,e,rfl⟩ F.entry_list_append (F.args_list_append_2 _ _) (PySem.list_append l its.toArray n u (by rw [List.size_toArray];omega)) ⟨e,?_⟩
 refine ⟨.non,_,I.lset (its':=its++[u]) hH e (by simp) (r.append (.cons ru .nil)) ?_,rfl,q⟩
 rw [List.length_append,List.length_singleton]
 omega
def rExtend:V->List V->Hp->VK->Prop:=fun x vs H Q=>∃ l b xs zs,x=.ref l/\vs=[.ref b]/\H l=some (.lst xs)/\H b=some (.lst zs)/\xs.length+zs.length<=sizeLine/\Q .non (upd H l (.lst (xs++zs)))
theorem mt_extend:MtM X "list.extend" rExtend:=by
 intro pins s σ H x vs v us Q I rx rv h
 obtain ⟨l,b,xs,zs,rfl,rfl,hH,hB,hz,q⟩:=h
 cases rx
 obtain ⟨u,rfl,ru⟩:=rv.one
 cases ru
 obtain ⟨z,its,n,r,hl,e⟩:=I.lstM hH
 obtain ⟨z2,its2,n2,r2,hl2,e2⟩:=I.lstM hB
 have hsz:its.toArray.size+its2.toArray.size<=sizeLine:=by rw [List.size_toArray,List.size_toArray];omega
 have hlong:¬ (!its.toArray.isEmpty && Builtin.List.listTooLong (its.toArray.size+its2.toArray.size))=true:=by
  rw [notLongL hsz,Bool.and_false]
  exact Bool.false_ne_true
 refine call_meets F.slot_list_extend ⟨_,e,rfl⟩ F.entry_list_extend (F.args_list_extend_2 _ _)
  (AutoSeq1.list_extend_list_list_0 l its.toArray n b its2.toArray n2 hlong (by rw [List.size_toArray];omega) (by omega)) ⟨e,e2,?_⟩
 refine ⟨.non,_,I.lset (its':=its++its2) hH e (by simp) (r.append r2) ?_,rfl,q⟩
 rw [List.length_append]
 omega
def rPop:V->List V->Hp->VK->Prop:=fun x vs H Q=>∃ l xs y,x=.ref l/\vs=[]/\H l=some (.lst xs)/\xs[xs.length - 1]?=some y/\Q y (upd H l (.lst xs.dropLast))
theorem mt_pop:MtM X "list.pop" rPop:=by
 intro pins s σ H x vs v us Q I rx rv h
 obtain ⟨l,xs,y,rfl,rfl,hH,hy,q⟩:=h
 cases rx
 have hus:=rv.zero
 subst hus
 obtain ⟨z,its,n,r,hl,e⟩:=I.lstM hH
 obtain ⟨u,hu,ru⟩:=r.get hy
 have hy':its.toArray[its.toArray.size - 1]?=some u:=by
  show its.toArray[its.length - 1]?=some u
  rw [<- Array.getElem?_toList,<- hl]
  exact hu
 refine call_meets F.slot_list_pop ⟨_,e,rfl⟩ F.entry_list_pop (F.args_list_pop_1 _) (MeetsSeq.list_pop_last l its.toArray n u hy' (by rw [List.size_toArray];omega)) ⟨e,?_⟩
 refine ⟨y,_,I.lset (its':=its.dropLast) hH e ?_ r.dropLast ?_,ru,q⟩
 ·show its.toArray.eraseIdxIfInBounds (its.toArray.size - 1)=its.dropLast.toArray
  rw [List.size_toArray,List.eraseIdxIfInBounds_toArray,erase_last]
 ·rw [List.length_dropLast]
  omega
def rReverse:V->List V->Hp->VK->Prop:=fun x vs H Q=>∃ l xs,x=.ref l/\vs=[]/\H l=some (.lst xs)/\Q .non (upd H l (.lst xs.reverse))
theorem mt_reverse:MtM X "list.reverse" rReverse:=by
 intro pins s σ H x vs v us Q I rx rv h
 obtain ⟨l,xs,rfl,rfl,hH,q⟩:=h
 cases rx
 have hus:=rv.zero
 subst hus
 obtain ⟨z,its,n,r,hl,e⟩:=I.lstM hH
 refine call_meets F.slot_list_reverse ⟨_,e,rfl⟩ F.entry_list_reverse (F.args_list_reverse_1 _) (AutoSeq1.list_reverse_list_0 l its.toArray n (by rw [List.size_toArray];omega)) ⟨e,?_⟩
 refine ⟨.non,_,I.lset (its':=its.reverse) hH e (by simp) r.reverse ?_,rfl,q⟩
 rw [List.length_reverse]
 omega
def rCat:R2:=fun x y H Q=>∃ l b xs zs,x=.ref l/\y=.ref b/\H l=some (.lst xs)/\H b=some (.lst zs)/\xs.length+zs.length<=sizeLine/\∀ p,H p=none->Q (.ref p) (upd H p (.lst (xs++zs)))
theorem op_cat:OpR X (binaryOp .Add) rCat:=by
 intro pins s σ H x y v u Q I rx ry h
 obtain ⟨l,b,xs,zs,rfl,rfl,hH,hB,hz,q⟩:=h
 cases rx
 cases ry
 obtain ⟨z,its,n,r,hl,e⟩:=I.lstM hH
 obtain ⟨z2,its2,n2,r2,hl2,e2⟩:=I.lstM hB
 refine PySem.P.add_list e e2 ?_ (by rw [List.size_toArray,List.size_toArray];omega)
 have ea:its.toArray++its2.toArray=(its++its2).toArray:=by simp
 rw [ea]
 exact ⟨.ref _,_,I.lnew (t':=s.toks) (r.append r2) (by rw [List.length_append];omega),rfl,q _ I.fresh⟩
theorem len_rep {α:Type} (xs:List α) (k:Nat):(List.replicate k xs).flatten.length=k * xs.length:=by
 induction k with
 | zero=>simp
 | succ k ih=>rw [List.replicate_succ,List.flatten_cons,List.length_append,ih,Nat.succ_mul,Nat.add_comm]
end
section
variable {prog:Program} {w:World} {A:Around} {E:Value->Shared->Prop} {s:Shared}
end
section
variable {X:Cx}
end
end L2
namespace Att
open PySem PySem.W PySem.Calls PyProof.Rows
theorem ints_of_wellAll {P:Params} {h:Heap}:∀ (ns:List Int) (vs:List Value),WellAll P h vs (ns.map WData.int)->IntsAre vs ns:=by
 intro ns
 induction ns with
 | nil =>
  intro vs w
  rw [List.map_nil] at w
  cases w
  exact .nil
 | cons n ns ih =>
  intro vs w
  rw [List.map_cons] at w
  cases w with
  | cons a b =>
   cases a
   exact .cons _ _ (ih _ b)
theorem script_of {l:OpenLaw} {n:Nat} (hn:l.most=some n) {P:Params} {h:Heap} {args:List WData} {vals:List Value}
  (hpre:l.row.toRowW.claim.pre args=true) (hwl:WellAll P h vals args) :
  ∃ a vs ns,vals=[Value.ref a]/\args=[WData.list (ns.map WData.int)]/\h.get? a=some { cls:=.type "list",data:=.seq vs.toArray }/\IntsAre vs ns/\ns.length<=n:=by
 have hsh:WShape.hasAll [] args [.list .int]=true:=(pre_splitW hpre).1
 have hc:l.pre.holds [] { args:=args }=true:=(pre_splitW hpre).2
 obtain ⟨d,r,rfl,h1,h2⟩:=hasAllW_cons hsh
 obtain rfl:=hasAllW_nil h2
 obtain ⟨xs,rfl,h3⟩:=hasW_list h1
 obtain ⟨ns,rfl⟩:=items_int h3
 have hlen:ns.length<=n:=by
  unfold OpenLaw.pre at hc
  have h4:(WTm.not (.lt (.lit (.int (n:Int))) (.len (.arg 0)))).holds [] { args:=[.list (ns.map .int)] }=true:=by
   have h4:=(holds_andW hc).1
   rw [hn] at h4
   exact h4
  have h5:=condW_of h4 (w_not (w_lt w_lit (w_len_list (w_arg rfl))))
  rw [List.length_map] at h5
  refine Nat.le_of_not_lt fun q=>?_
  have q':(n:Int) < ((ns.length:Nat):Int):=by omega
  first
   | (rw [decide_eq_true q'] at h5;exact absurd h5 (by decide))
   | (simp at h5;omega)
 cases hwl with
 | cons w1 w2 =>
  cases w2
  cases w1 with
  | list ho hall=>exact ⟨_,_,ns,rfl,rfl,ho,ints_of_wellAll ns _ hall,hlen⟩
theorem post_true (l:OpenLaw) (args:List WData):l.row.toRowW.claim.post args (.bool true) args=true :=
 postW_of (r:=l.row.toRowW) (X:=(true == true))
  (show WShape.has [] (.bool true) .bool=true by first | rfl | decide | simp [WShape.has,WShape.arms,WShape.armsAll])
  (show (WTm.eq .res (.lit (.bool true))).value [] { args:=args,res:=some (.bool true),after:=args }=some (.bool (true == true)) from w_eq_bool (w_res rfl) w_lit) rfl
section
variable {prog:Program} {w:World} {A:Around} {E:Value->Shared->Prop} {s:Shared} {K:Frag}
def ledger (h:Heap) (L d:Addr):List (Addr × Obj):=(List.range h.objs.size).filterMap fun a=>if a=L\/a=d then none else (h.get? a).map fun o=>(a,o)
end
end Att
namespace L2
open PySem PySem.Spec PyProof.Rows
theorem vals_ints:∀ {vs:List Value} {ns:List Int},IntsAre vs ns->Vals (ns.map V.int) vs
 | _,_,.nil=>.nil
 | _,_,.cons n t h=>.cons ⟨t,rfl⟩ (vals_ints h)
def Only (H:Hp):Prop:=∀ b,H b=none\/∃ o xs,H b=some (.frz o (.lst xs))
theorem law_call {P:Program} {w:World} {K:PySem.W.Frag} {mg mb:Str->Option Value} {CX:CXT} {k:Nat} {fa a:Addr} {fd:FuncData} {x:Str} {sp:Sp} {s₁:Shared} {vs:List Value} {ns:List Int}
  (KX:K.In s₁.heap) (hns:s₁.heap.Ns mainGlobals mg) (hb:s₁.heap.Ns builtinsNs mb) (hbb:∀ x:Str,x ≠ "__name__" -> mb x=bootBuiltins x) (hlim:s₁.heap.NoLimit) (hg:s₁.gens=#[])
  (ha:s₁.heap.get? a=some { cls:=.type "list",data:=.seq vs.toArray }) (hi:IntsAre vs ns) (hl:ns.length<=sizeLine) (hr:Room k callerA)
  (F:∀ base:Heap,K.In base->base.Ns mainGlobals mg->FnOk P w K mg base CX k fa fd [x] sp) (hbind:∀ (s:Shared) (u:Value),BindsTo s fd ⟨[u],[]⟩ [(x,u)])
  (hsp:∀ H:Hp,Only H->SqL K H a (ns.map V.int)->sp [.ref a] H (fun v _=>v=.bl true) fun _ _ _=>False)
  (hCX:∀ H e s',CX [] H s₁ (fun _ _ _=>False) e s'->False) :
  codeAny (model P w) callerA (.call (.ref fa) ⟨[.ref a],[]⟩) (fun r s'=>r=.ok (.ret (.bool true))/\OldK s₁.heap s'.heap/\s'.os=s₁.os/\AllBare s'.gens) s₁:=by
 have rv:=vals_ints hi
 have lenV:=hi.length
 have core:∀ H:Hp,Only H->SqL K H a (ns.map V.int)->HOk P w H s₁.heap->(∀ b,H b≠none->b=a)->(H a≠none->K.lookup a=none) ->
   codeAny (model P w) callerA (.call (.ref fa) ⟨[.ref a],[]⟩) (fun r s'=>r=.ok (.ret (.bool true))/\OldK s₁.heap s'.heap/\s'.os=s₁.os/\AllBare s'.gens) s₁:=by
  intro H hO hS hok hA hK
  have base_of:∀ {b:Addr} {o:Obj},s₁.heap.get? b=some o->H b=none->(hidT s₁.heap H).get? b=some o:=fun e n=>hidT_get e n
  have noA:∀ {b:Addr} {o:Obj} {es:Array DictEntry} {ep:Nat},s₁.heap.get? b=some o->o.data=.dict es ep->H b=none:=fun {b o es ep} e d=>by
   cases q:H b with
   | none=>rfl
   | some u =>
    have e':b=a:=hA b (by rw [q];simp)
    subst e'
    rw [ha] at e;cases e
    have d':Data.seq vs.toArray _=Data.dict es ep:=d
    cases d'
  have nsK:∀ {b:Addr} {m:Str->Option Value},s₁.heap.Ns b m->(hidT s₁.heap H).Ns b m:=fun {b m} ⟨o,es,ep,e,d,r⟩=>⟨o,es,ep,base_of e (noA e d),d,r⟩
  have hKb:K.In (hidT s₁.heap H):=fun b o e=>base_of (KX b o e) (by
   cases q:H b with
   | none=>rfl
   | some u =>
    have e':b=a:=hA b (by rw [q];simp)
    subst e'
    rw [hK (by rw [q];simp)] at e;cases e)
  have hM:Mod K mg (hidT s₁.heap H):=⟨hKb,nsK hns,⟨mb,nsK hb,hbb⟩,let ⟨mc,h1,h2⟩:=hlim;⟨mc,nsK h1,h2⟩⟩
  have e0:Env0 P w K mg (hidT s₁.heap H) callerA [] s₁ H:=⟨rfl,hM,fun b o e=>of_hidT e,Nat.le_of_eq (hidT_size _ _),trivial,fun b hb=>absurd (show b∈([] : List Addr) from hb) (by simp),hok,.of_eq hg⟩
  refine codeAny_mono ((F _ hKb (nsK hns)).run callerA [] s₁ H ⟨[.ref a],[]⟩ [.ref a] [.ref a] _ _ hr e0 (hbind s₁ (.ref a)) (.cons rfl .nil) (hsp H hO hS)) fun r s' h=>?_
  cases r with
  | error e=>exact (hCX H e s' h).elim
  | ok fl =>
   cases fl with
   | next=>exact False.elim h
   | brk=>exact False.elim h
   | cont=>exact False.elim h
   | ret u =>
    obtain ⟨v,H',os,bare,un,hok',r',q⟩:=h
    have q':v=.bl true:=q
    subst q'
    obtain rfl:u=Value.bool true:=r'
    refine ⟨rfl,OldK.of_keep fun b o e=>?_,os,bare⟩
    cases q:H b with
    | none=>exact un.keep b o e q (by intro z;exact absurd (show b∈([] : List Addr) from z) (by simp)) (by simp)
    | some u =>
     rcases hO b with z | ⟨ob,xs,z⟩
     ·rw [q] at z;cases z
     ·have z2:=un.frzs b ob _ z
      obtain ⟨e1,_⟩:=hok b _ z
      obtain ⟨e2,_⟩:=hok' b _ z2
      rw [e] at e1;cases e1
      exact e2
 cases hk:K.lookup a with
 | some o =>
  have e:=KX a o hk
  rw [ha] at e
  cases e
  refine core (fun _=>none) (fun _=>.inl rfl) (.inr ⟨_,vs.toArray,_,hk,rfl,rfl,rfl,by rw [List.size_toArray,lenV];exact hl,by simpa using rv⟩) (fun b u z=>by have z':(none:Option HO)=some u:=z;cases z') (fun b z=>absurd rfl z) fun z=>absurd rfl z
 | none =>
  refine core (fun b=>if b=a then some (.frz { cls:=.type "list",data:=.seq vs.toArray } (.lst (ns.map V.int))) else none) (fun b=>?_) (.inl (.inr ⟨{ cls:=.type "list",data:=.seq vs.toArray },if_pos rfl⟩)) (fun b u z=>?_) (fun b z=>?_) fun _=>hk
  ·by_cases hb:b=a
   ·exact .inr ⟨_,_,if_pos hb⟩
   ·exact .inl (if_neg hb)
  ·by_cases hb:b=a
   ·have z':=(if_pos hb).symm.trans z
    cases z'
    subst hb
    exact ⟨ha,by rw [List.length_map];exact hl,vs,_,rv,ha⟩
   ·have z':=(if_neg hb).symm.trans z
    cases z'
  ·by_cases hb:b=a
   ·exact hb
   ·exact absurd (if_neg hb) z
abbrev KOf {K:PySem.W.Frag} {h:Heap} (_:K.In h):PySem.W.Frag:=K
def inClass (s:Stmt) (j:Nat):Stmt:=match s with
 | .ClassDef _ _ _ body _ _ _ _ _ _ _=>body.getD j (.Pass ⟨0,0,0,0⟩)
 | _=>.Pass ⟨0,0,0,0⟩
def defArgs (s:Stmt):Arguments:=match s with
 | .FunctionDef _ a _ _ _ _ _ _ _ _=>a
 | _=>{ posonlyargs:=[],args:=[],vararg:=none,kwonlyargs:=[],kw_defaults:=[],kwarg:=none,defaults:=[] }
def defBody (s:Stmt):List Stmt:=match s with
 | .FunctionDef _ _ b _ _ _ _ _ _ _=>b
 | _=>[]
def defScope (s:Stmt):Scope:=match s with
 | .FunctionDef _ _ _ _ _ _ sc _ _ _=>sc
 | _=>{ kind:=.function,names:=[],isGenerator:=false,isCoroutine:=false }
abbrev CX0:CXT:=fun _ _ _ _ _ _=>False
abbrev E0:XK:=fun _ _ _=>False
theorem pass0 {X:Cx}:Passes CX0 X E0:=fun _ _ _ _ _ _ _ h=>h.elim
structure Fun (K:PySem.W.Frag) (x qual:Str) (st:Stmt) (f:Addr) (fd:FuncData):Prop where
 ex:∃ (oc:Value) (od:Option Addr) (kV doc pm:Value) (an:Option Addr) (cdv ct:Value) (osl:Array (Option Value)),
  fd=PySem.W.fnOf x qual (defArgs st) (defBody st) (defScope st) .none kV doc pm an cdv ct/\K.lookup f=some ⟨oc,od,.func fd,osl⟩/\PySem.W.codeIn K cdv qual=true
 kp:PySem.W.keepIn K (.ref f)=true
section
variable {P:Program} {w:World} {K:PySem.W.Frag} {mg:Str->Option Value} {base:Heap}
theorem Fun.ok {x qual:Str} {st:Stmt} {f:Addr} {fd:FuncData} {N ps:List Str} {k:Nat} {sp:Sp} (F:Fun K x qual st f fd) (S:FnScope N ps (defScope st)) (len:∀ vs H Q E,sp vs H Q E->vs.length=ps.length)
  (hbody:∀ (cdv:Value) (A:Around) (outer:List Env) (s:Shared) (H:Hp) (vs:List V) (Q:VK) (E:XK),Room k (A.deeper (envOfC qual (defScope st) s.heap.objs.size f cdv))->sp vs H Q E ->
   ∃ t,PSs (cxOf CX0 P w K mg base N qual (defScope st) f cdv A outer s H E).nox (defBody st) t/\t { nx:=fun _ H'=>Q .non H',rt:=Q } (start N vs) H):FnOk P w K mg base CX0 (k+1) f fd ps sp:=by
 obtain ⟨oc,od,kV,doc,pm,an,cdv,ct,osl,rfl,lk,hcd⟩:=F.ex
 refine fn_of lk hcd S len fun A outer s H vs Q E hr hsp=>?_
 obtain ⟨t,h,q⟩:=hbody cdv A outer s H vs Q E hr hsp
 exact ⟨t,h.nox,q⟩
theorem Fun.binds {x qual:Str} {st:Stmt} {f:Addr} {fd:FuncData} {ps:List Str} (F:Fun K x qual st f fd)
  (h:∀ (kV doc pm:Value) (an:Option Addr) (cdv ct:Value) (us:List Value),us.length=ps.length->bindArgs (PySem.W.fnOf x qual (defArgs st) (defBody st) (defScope st) .none kV doc pm an cdv ct) ⟨us,[]⟩=pure (ps.zip us)):Binds K fd ps []:=by
 obtain ⟨oc,od,kV,doc,pm,an,cdv,ct,osl,rfl,lk,hcd⟩:=F.ex
 exact .all (h kV doc pm an cdv ct)
theorem fun_mk {x qual:Str} {st:Stmt} {f:Addr} {oc:Value} {od an:Option Addr} {osl:Array (Option Value)} {kV doc pm cdv ct:Value} (l:K.lookup f=some ⟨oc,od,.func (PySem.W.fnOf x qual (defArgs st) (defBody st) (defScope st) .none kV doc pm an cdv ct),osl⟩)
  (c:PySem.W.codeIn K cdv qual=true) (k:PySem.W.keepIn K (.ref f)=true):Fun K x qual st f (PySem.W.fnOf x qual (defArgs st) (defBody st) (defScope st) .none kV doc pm an cdv ct):=⟨⟨oc,od,kV,doc,pm,an,cdv,ct,osl,rfl,l,c⟩,k⟩
end
theorem small1000 {n:Nat} (h:n<=1000):n < sizeLine:=Nat.lt_of_le_of_lt h (by decide)
section
variable {X:Cx}
end
section
variable {κ:Type} [DecidableEq κ]
def valV (kvs:List (κ × V)) (k:κ):Option V:=(kvs.find? fun kv=>decide (kv.1=k)).map (·.2)
def putK (kvs:List (κ × V)) (k:κ) (v:V):List (κ × V) :=
 if (kvs.any fun kv=>decide (kv.1=k))=true then kvs.map (fun kv=>if kv.1=k then (kv.1,v) else kv) else kvs++[(k,v)]
theorem valV_nil {k:κ}:valV ([] : List (κ × V)) k=none:=rfl
theorem valV_pos {p:κ × V} {r:List (κ × V)} {k:κ} (e:p.1=k):valV (p :: r) k=some p.2:=by simp [valV,List.find?_cons,e]
theorem valV_neg {p:κ × V} {r:List (κ × V)} {k:κ} (e:¬ p.1=k):valV (p :: r) k=valV r k:=by simp [valV,List.find?_cons,e]
theorem valV_any (k:κ):∀ kvs:List (κ × V),(kvs.any fun kv=>decide (kv.1=k))=(valV kvs k).isSome
 | []=>rfl
 | p :: r=>by
  rw [List.any_cons]
  by_cases e:p.1=k
  ·simp only [valV_pos e,decide_eq_true e,Bool.true_or,Option.isSome_some]
  ·rw [valV_neg e,decide_eq_false e,Bool.false_or];exact valV_any k r
theorem length_putK (kvs:List (κ × V)) (k:κ) (v:V):(putK kvs k v).length<=kvs.length+1:=by
 unfold putK
 split
 ·rw [List.length_map];omega
 ·rw [List.length_append,List.length_cons,List.length_nil];omega
theorem RelO.isSome_eq {o:Option V} {u:Option Value} (r:RelO o u):o.isSome=u.isSome:=by
 cases o with
 | none=>cases u with
  | none=>rfl
  | some _=>exact (show False from r).elim
 | some _=>cases u with
  | none=>exact (show False from r).elim
  | some _=>rfl
theorem KV.val {kvs:List (κ × V)} {vs:List (κ × Value)} (r:KV kvs vs) (k:κ):RelO (valV kvs k) (valueAt vs k):=by
 unfold KV at r
 induction r with
 | nil=>exact True.intro
 | @cons p q ps qs h t ih =>
  obtain ⟨h1,h2⟩:=h
  by_cases e:p.1=k
  ·have e':q.1=k:=h1.symm.trans e
   have b:valueAt (q :: qs) k=some q.2:=by simp [valueAt,List.find?_cons,e']
   rw [valV_pos e,b];exact h2
  ·have e':¬ q.1=k:=fun z=>e (h1.trans z)
   have b:valueAt (q :: qs) k=valueAt qs k:=by simp [valueAt,List.find?_cons,e']
   rw [valV_neg e,b];exact ih
theorem KV.any {kvs:List (κ × V)} {vs:List (κ × Value)} (r:KV kvs vs) (k:κ):(kvs.any fun kv=>decide (kv.1=k))=vs.any fun kv=>decide (kv.1=k):=by
 unfold KV at r
 induction r with
 | nil=>rfl
 | cons h t ih=>rw [List.any_cons,List.any_cons,ih,h.1]
theorem KV.repl {kvs:List (κ × V)} {vs:List (κ × Value)} (r:KV kvs vs) (k:κ) {y:V} {u:Value} (ry:RelV y u) :
  KV (kvs.map fun kv=>if kv.1=k then (kv.1,y) else kv) (vs.map fun kv=>if kv.1=k then (kv.1,u) else kv):=by
 unfold KV at r ⊢
 induction r with
 | nil=>exact .nil
 | @cons p q ps qs h t ih =>
  rw [List.map_cons,List.map_cons]
  refine .cons ?_ ih
  obtain ⟨h1,h2⟩:=h
  by_cases e:p.1=k
  ·rw [if_pos e,if_pos (h1.symm.trans e)];exact ⟨h1,ry⟩
  ·rw [if_neg e,if_neg (fun z=>e (h1.trans z))];exact ⟨h1,h2⟩
theorem KV.put {kvs:List (κ × V)} {vs:List (κ × Value)} (r:KV kvs vs) (k:κ) {y:V} {u:Value} (ry:RelV y u):KV (putK kvs k y) (stored vs k u):=by
 unfold putK stored
 rw [r.any k]
 by_cases e:(vs.any fun kv=>decide (kv.1=k))=true
 ·rw [if_pos e,if_pos e];exact r.repl k ry
 ·rw [if_neg e,if_neg e];exact Paired.snoc r ⟨rfl,ry⟩
theorem KV.length {kvs:List (κ × V)} {vs:List (κ × Value)} (r:KV kvs vs):kvs.length=vs.length:=Paired.length r
end
theorem kV_is {P:Program} {w:World} {k:Key} {u:Value} (r:RelV (kV k) u):(mixKind P w).is k u=true:=by
 cases k with
 | inl i=>obtain ⟨t,e⟩:=(show ∃ t,u=Value.int i t from r);subst e;exact mixKind_int P w i t
 | inr x=>obtain ⟨t,e⟩:=(show ∃ t,u=Value.str x t from r);subst e;exact mixKind_str P w x t
theorem items_are {P:Program} {w:World}:∀ {ks:List Key} {us:List Value},Vals (ks.map kV) us->ItemsAre (mixKind P w) ks us
 | [],_,r=>by rw [List.map_nil] at r;cases r;exact .nil
 | k :: ks,_,r=>by
  rw [List.map_cons] at r
  cases r with
  | cons h t=>exact .cons (kV_is h) (items_are t)
abbrev KT (H:Hp):List (List Key × V)->List (List Key × Addr × Value)->Prop:=Paired fun p q=>p.1=q.1/\H q.2.1=some (.tup (p.1.map kV))/\RelV p.2 q.2.2
theorem KT.val {H:Hp} {kvs:List (List Key × V)} {xs:List (List Key × Addr × Value)} (r:KT H kvs xs) (k:List Key):RelO (valV kvs k) ((atKey xs k).map (·.2)):=by
 induction r with
 | nil=>exact True.intro
 | @cons p q ps qs h t ih =>
  obtain ⟨h1,_,h2⟩:=h
  by_cases e:p.1=k
  ·have e':q.1=k:=h1.symm.trans e
   have b:atKey (q :: qs) k=some q.2:=by simp [atKey,List.find?_cons,e']
   rw [valV_pos e,b];exact h2
  ·have e':¬ q.1=k:=fun z=>e (h1.trans z)
   have b:atKey (q :: qs) k=atKey qs k:=by simp [atKey,List.find?_cons,e']
   rw [valV_neg e,b];exact ih
theorem KT.repl {H:Hp} {kvs:List (List Key × V)} {xs:List (List Key × Addr × Value)} (r:KT H kvs xs) (k:List Key) {y:V} {u:Value} (ry:RelV y u) :
  KT H (kvs.map fun kv=>if kv.1=k then (kv.1,y) else kv) (xs.map (putAt k u)):=by
 induction r with
 | nil=>exact .nil
 | @cons p q ps qs h t ih =>
  rw [List.map_cons,List.map_cons]
  refine .cons ?_ ih
  obtain ⟨h1,h2,h3⟩:=h
  unfold putAt
  by_cases e:p.1=k
  ·rw [if_pos e,if_pos (h1.symm.trans e)];exact ⟨h1,h2,ry⟩
  ·rw [if_neg e,if_neg (fun z=>e (h1.trans z))];exact ⟨h1,h2,h3⟩
theorem KT.put {H:Hp} {kvs:List (List Key × V)} {xs:List (List Key × Addr × Value)} (r:KT H kvs xs) (k:List Key) {b:Addr} {y:V} {u:Value} (hb:H b=some (.tup (k.map kV))) (ry:RelV y u) :
  KT H (putK kvs k y) (storedH xs k b u):=by
 have e:(kvs.any fun kv=>decide (kv.1=k))=(atKey xs k).isSome:=by
  rw [valV_any,(r.val k).isSome_eq,Option.isSome_map]
 unfold putK storedH
 rw [e]
 by_cases q:(atKey xs k).isSome=true
 ·rw [if_pos q,if_pos q];exact r.repl k ry
 ·rw [if_neg q,if_neg q];exact Paired.snoc r ⟨rfl,hb,ry⟩
theorem KT.keeps {H H':Hp} {kvs:List (List Key × V)} {xs:List (List Key × Addr × Value)} (r:KT H kvs xs) (ht:∀ b ys,H b=some (.tup ys)->H' b=some (.tup ys)):KT H' kvs xs :=
 Paired.mapP r fun _ _ z=>⟨z.1,ht _ _ z.2.1,z.2.2⟩
section
variable {P:Program} {w:World} {H:Hp} {h:Heap} {a:Addr}
theorem rd_of {u:HO} (ok:HOk P w H h) (e:Rd H a u):ObjOk P w H h a u:=e.ok ok
theorem dk_rd {kvs:List (Key × V)} (ok:HOk P w H h) (e:Rd H a (.dK kvs)):kvs.length<=sizeLine/\(a == sysModules)=false/\∃ vs,KV kvs vs/\h.DictOf (mixKind P w) a vs :=
 show ObjOk P w H h a (.dK kvs) from rd_of ok e
theorem dk_of {kvs:List (Key × V)} (ok:HOk P w H h) (e:H a=some (.dK kvs)):kvs.length<=sizeLine/\(a == sysModules)=false/\∃ vs,KV kvs vs/\h.DictOf (mixKind P w) a vs:=dk_rd ok (.inl e)
theorem key_of {ks:List Key} (ok:HOk P w H h) (e:H a=some (.tup (ks.map kV))):(tupleKind (mixKind P w)).is h ks a:=by
 obtain ⟨_,its,r,o,h1,h2,n,h3⟩:=(show ObjOk P w H h a (.tup (ks.map kV)) from ok a _ e)
 exact ⟨o,its.toArray,n,h1,h2,h3,by simpa using items_are r⟩
theorem dt_rd {kvs:List (List Key × V)} (ok:HOk P w H h) (e:Rd H a (.dT kvs)):kvs.length<=sizeLine/\(a == sysModules)=false /\
  ∃ xs,KT H kvs xs/\h.DictOfH (tupleKind (mixKind P w)) a xs:=by
 obtain ⟨z,y,xs,r,o,es,ep,h1,h2,h3,h4,h5⟩:=(show ObjOk P w H h a (.dT kvs) from rd_of ok e)
 refine ⟨z,y,xs,r,o,es,ep,h1,h2,h3,h4,fun x hx=>?_,h5⟩
 have all:∀ {l:List (List Key × V)} {m:List (List Key × Addr × Value)},KT H l m->∀ x∈m,(tupleKind (mixKind P w)).is h x.1 x.2.1:=by
  intro l m q
  induction q with
  | nil=>intro x hx;exact nomatch hx
  | @cons p q ps qs hq t ih =>
   intro x hx
   rcases List.mem_cons.mp hx with e | hx
   ·subst e
    exact key_of ok (by rw [<- hq.1];exact hq.2.1)
   ·exact ih x hx
 exact all r x hx
theorem dt_of {kvs:List (List Key × V)} (ok:HOk P w H h) (e:H a=some (.dT kvs)):kvs.length<=sizeLine/\(a == sysModules)=false /\
  ∃ xs,KT H kvs xs/\h.DictOfH (tupleKind (mixKind P w)) a xs:=dt_rd ok (.inl e)
end
def DGet (H:Hp) (a:Addr) (y:V) (r:Option V):Prop :=
 (∃ kvs k,Rd H a (.dK kvs)/\y=kV k/\r=valV kvs k)\/∃ kvs k b,Rd H a (.dT kvs)/\y=.ref b/\H b=some (.tup (k.map kV))/\r=valV kvs k
def DPut (H:Hp) (a:Addr) (y v:V) (H':Hp):Prop :=
 (∃ kvs k,H a=some (.dK kvs)/\y=kV k/\kvs.length < sizeLine/\H'=upd H a (.dK (putK kvs k v))) \/
 ∃ kvs k b,H a=some (.dT kvs)/\y=.ref b/\H b=some (.tup (k.map kV))/\kvs.length < sizeLine/\H'=upd H a (.dT (putK kvs k v))
theorem DGet.k {H:Hp} {a:Addr} {kvs:List (Key × V)} {k:Key} (e:H a=some (.dK kvs)):DGet H a (kV k) (valV kvs k):=.inl ⟨kvs,k,.inl e,rfl,rfl⟩
theorem DPut.k {H:Hp} {a:Addr} {kvs:List (Key × V)} {k:Key} {v:V} (e:H a=some (.dK kvs)) (hl:kvs.length < sizeLine):DPut H a (kV k) v (upd H a (.dK (putK kvs k v))):=.inl ⟨kvs,k,e,rfl,hl,rfl⟩
section
variable {X:Cx} {pins:List (Addr × Obj)} {σ:St} {H:Hp} {s:Shared} {a:Addr} {y v:V} {u r:Value} {o:Option V} {A:Around} {E:Value->Shared->Prop}
theorem Inv.big (I:Inv X pins σ H s):sysModules < s.heap.objs.size:=by
 have h:mainGlobals < s.heap.objs.size:=(I.mod.glob.keeps I.bk).lt
 exact Nat.lt_trans (by decide) h
theorem d_getItem {Q:Value->Shared->Prop} (hu:A.units+1 < cLine) (I:Inv X pins σ H s) (g:DGet H a y (some v)) (ry:RelV y u) (h:∀ w' s',Inv X pins σ H s'->RelV v w'->Q w' s') :
  wpAny (model X.prog X.w) A (getItem (.ref a) u) Q E s:=by
 rcases g with ⟨kvs,k,e,ey,l⟩ | ⟨kvs,k,b,e,ey,eb,l⟩
 ·subst ey
  obtain ⟨z,hd,vs,rel,dd⟩:=dk_rd I.hok e
  obtain ⟨w',hw,rw'⟩:=RelO.some_of (v:=v) (o:=valueAt vs k) (by rw [l];exact rel.val k)
  exact wpAny_getItem_of (kV_is ry) dd.mapOf hw (h w' _ (I.tok _) rw')
 ·subst ey
  cases (show u=Value.ref b from ry)
  obtain ⟨z,hd,xs,rel,dd⟩:=dt_rd I.hok e
  obtain ⟨w',hw,rw'⟩:=RelO.some_of (v:=v) (o:=(atKey xs k).map (·.2)) (by rw [l];exact rel.val k)
  obtain ⟨p,hp,hp2⟩:=Option.map_eq_some_iff.mp hw
  refine wpAny_getItem_heap (tupleKind_room_in1 hu) (key_of I.hok eb) dd hp ?_
  rw [hp2]
  exact h w' _ (I.tok _) rw'
theorem d_in {Q:Value->Shared->Prop} (hu:A.units+1 < cLine) (I:Inv X pins σ H s) (g:DGet H a y o) (ry:RelV y u) (h:∀ s',Inv X pins σ H s'->Q (.bool o.isSome) s') :
  wpAny (model X.prog X.w) A (compareOp .In u (.ref a)) Q E s:=by
 rcases g with ⟨kvs,k,e,ey,l⟩ | ⟨kvs,k,b,e,ey,eb,l⟩
 ·subst ey
  obtain ⟨z,hd,vs,rel,dd⟩:=dk_rd I.hok e
  refine wpAny_in_of (kV_is ry) hd dd.mapOf ?_
  rw [<- (rel.val k).isSome_eq,<- l]
  exact h _ (I.tok _)
 ·subst ey
  cases (show u=Value.ref b from ry)
  obtain ⟨z,hd,xs,rel,dd⟩:=dt_rd I.hok e
  refine wpAny_in_heap (tupleKind_room_in1 hu) (key_of I.hok eb) hd dd ?_
  have q:=(rel.val k).isSome_eq
  rw [Option.isSome_map] at q
  rw [<- q,<- l]
  exact h _ (I.tok _)
theorem d_notIn {Q:Value->Shared->Prop} (hu:A.units+1 < cLine) (I:Inv X pins σ H s) (g:DGet H a y o) (ry:RelV y u) (h:∀ s',Inv X pins σ H s'->Q (.bool (!o.isSome)) s') :
  wpAny (model X.prog X.w) A (compareOp .NotIn u (.ref a)) Q E s:=by
 rcases g with ⟨kvs,k,e,ey,l⟩ | ⟨kvs,k,b,e,ey,eb,l⟩
 ·subst ey
  obtain ⟨z,hd,vs,rel,dd⟩:=dk_rd I.hok e
  refine wpAny_notIn_of (kV_is ry) hd dd.mapOf ?_
  rw [<- (rel.val k).isSome_eq,<- l]
  exact h _ (I.tok _)
 ·subst ey
  cases (show u=Value.ref b from ry)
  obtain ⟨z,hd,xs,rel,dd⟩:=dt_rd I.hok e
  refine wpAny_notIn_heap (tupleKind_room_in1 hu) (key_of I.hok eb) hd dd ?_
  have q:=(rel.val k).isSome_eq
  rw [Option.isSome_map] at q
  rw [<- q,<- l]
  exact h _ (I.tok _)
theorem d_write {h':Heap} {t':Nat} {ob:HO} (I:Inv X pins σ H s) (mu:Mut (H a)) (hs:Heap.SameBut a s.heap h') (he:∃ q,h'.get? a=some q) (new:ObjOk X.prog X.w (upd H a ob) h' a ob) :
  Inv X pins σ (upd H a ob) { s with heap:=h',toks:=t' } :=
 I.write (x:=a) (e:=a) mu (.inl rfl) (fun b q hb z=>(hs.2 b hb).trans z) he new
theorem dk_new {P:Program} {w:World} {H':Hp} {h':Heap} {kvs:List (Key × V)} {vs:List (Key × Value)} (z:kvs.length<=sizeLine) (hd:(a == sysModules)=false) (rel:KV kvs vs) (dd:h'.DictOf (mixKind P w) a vs) :
  ObjOk P w H' h' a (.dK kvs):=⟨z,hd,vs,rel,dd⟩
theorem d_setItem {H':Hp} {Q:Unit->Shared->Prop} (hu:A.units+1 < cLine) (I:Inv X pins σ H s) (g:DPut H a y v H') (ry:RelV y u) (rv:RelV v r) (h:∀ s',Inv X pins σ H' s'->Q () s') :
  wpAny (model X.prog X.w) A (setItem (.ref a) u r) Q E s:=by
 rcases g with ⟨kvs,k,e,ey,l,eH⟩ | ⟨kvs,k,b,e,ey,eb,l,eH⟩
 ·subst ey eH
  obtain ⟨z,hd,vs,rel,dd⟩:=dk_of I.hok e
  have hz:vs.length<=sizeLine:=by rw [<- rel.length];exact z
  have hl:(putK kvs k v).length<=sizeLine:=by have:=length_putK kvs k v;omega
  refine wpAny_setItem_pairs (hsz:=hz) (kV_is ry) dd fun h' dd' hs=>h _ ?_
  have he:∃ q,h'.get? a=some q:=let ⟨q,_,_,hq,_⟩:=dd';⟨q,hq⟩
  exact d_write I (by rw [e];exact True.intro) hs he (dk_new hl hd (rel.put k rv) dd')
 ·subst ey eH
  cases (show u=Value.ref b from ry)
  obtain ⟨z,hd,xs,rel,dd⟩:=dt_of I.hok e
  have hz:xs.length<=sizeLine:=by rw [<- Paired.length rel];exact z
  have hl:(putK kvs k v).length<=sizeLine:=by have:=length_putK kvs k v;omega
  refine wpAny_setItem_heap (hsz:=hz) (tupleKind_room_in1 hu) (key_of I.hok eb) dd fun h' dd' hs=>h _ ?_
  obtain ⟨q,es,ep,hq,h2,h3,h4,_,h5⟩:=dd'
  refine d_write I (by rw [e];exact True.intro) hs ⟨q,hq⟩ ⟨hl,hd,_,(rel.put k eb rv).keeps fun c ys ec=>?_,q,es,ep,hq,h2,h3,h4,h5⟩
  rw [upd_ne (ne_of ec e (fun z=>nomatch z))]
  exact ec
end
section
variable {X:Cx} {pins:List (Addr × Obj)} {σ:St} {H:Hp} {s:Shared} {a:Addr} {kvs:List (Key × V)} {k:Key} {u:Value} {A:Around} {E:Value->Shared->Prop}
end
theorem dict_typeIs {X:Cx} {pins:List (Addr × Obj)} {σ:St} {H:Hp} {s:Shared} {a:Addr} {y:V} {o:Option V} (I:Inv X pins σ H s) (g:DGet H a y o):s.TypeIs (.ref a) "dict" := by
 rcases g with ⟨kvs,k,e,_,_⟩ | ⟨kvs,k,b,e,_,_,_⟩
 ·obtain ⟨_,_,vs,_,dd⟩:=dk_rd I.hok e
  exact dd.typeIs
 ·obtain ⟨_,_,xs,_,dd⟩:=dt_rd I.hok e
  exact dd.typeIs
section
variable {X:Cx} {o i e value:Expr} {pos pos' tpos:Pos} {td ty tv:TE}
end
theorem dk_empty {P:Program} {w:World} {H:Hp} (h:Heap) (hb:sysModules < h.objs.size):ObjOk P w H (h.push { cls:=.type "dict",data:=.dict #[] }) h.objs.size (.dK []) :=
 ⟨Nat.zero_le _,beq_eq_false_iff_ne.mpr (Ne.symm (Nat.ne_of_lt hb)),[],.nil,Heap.DictOf.new h⟩
def tDNewK:TE:=fun _ H Q=>∀ p,H p=none->Q (.ref p) (upd H p (.dK []))
section
variable {X:Cx} {pos:Pos}
theorem pe_dnewK:PE X (.Dict [] [] pos) tDNewK:=fun pins s σ H Q I h =>
 wpAny_Dict_empty ⟨.ref s.heap.objs.size,_,I.laid (a:=s.heap.objs.size) (o:=.dK []) (t':=s.toks) (fun _ _ q=>Heap.get?_push_of_some _ q) (Nat.le_refl _) (dk_empty s.heap I.big),rfl,h _ (I.hok.fresh (Nat.le_refl _))⟩
end
structure M1 (X:Cx) (o:Expr) (m:Str) (apos:Pos) (e:Expr) (cpos:Pos):Prop where
 base:attributeBase o m X.env (eval o X.env)=eval o X.env
 few:((backTo cpos (starEach [e] X.env)).all (fun x=>!x.1) && (backToKw cpos (keywordEach [] X.env)).all (fun x=>x.1.isSome)
  && decide (([e] : List Expr).length+([] : List Keyword).length+(if ([] : List Keyword).isEmpty then 0 else 1) < 30))=true
 line:(apos.endLine == cpos.line)=true
 trees:backTo cpos (starEach [e] X.env)=[(false,eval e X.env)]
structure M2 (X:Cx) (o:Expr) (m:Str) (apos:Pos) (e f:Expr) (cpos:Pos):Prop where
 base:attributeBase o m X.env (eval o X.env)=eval o X.env
 few:((backTo cpos (starEach [e,f] X.env)).all (fun x=>!x.1) && (backToKw cpos (keywordEach [] X.env)).all (fun x=>x.1.isSome)
  && decide (([e,f] : List Expr).length+([] : List Keyword).length+(if ([] : List Keyword).isEmpty then 0 else 1) < 30))=true
 line:(apos.endLine == cpos.line)=true
 trees:backTo cpos (starEach [e,f] X.env)=[(false,eval e X.env),(false,eval f X.env)]
section
variable {X:Cx} {pins:List (Addr × Obj)} {σ:St} {H:Hp} {s:Shared} {a:Addr} {y d:V} {u r:Value} {o:Option V} {A:Around} {E:Value->Shared->Prop}
end
section
variable {X:Cx} {o e f:Expr} {apos cpos:Pos} {td ty tx:TE}
end
section
variable {X:Cx} {pins:List (Addr × Obj)} {σ:St} {H:Hp} {s:Shared} {a:Addr} {kvs:List (Key × V)} {A:Around} {E:Value->Shared->Prop}
theorem d_copyOf {Q:Value->Shared->Prop} (I:Inv X pins σ H s) (e:Rd H a (.dK kvs)) (h:∀ p s',H p=none->Inv X pins σ (upd H p (.dK kvs)) s'->Q (.ref p) s'):wpAny (model X.prog X.w) A (call (.type "dict") [.ref a]) Q E s:=by
 obtain ⟨z,hd,vs,rel,dd⟩:=dk_rd I.hok e
 refine kt_call_dict hd dd (by rw [<- rel.length];exact z) fun h' dd' hs=>?_
 refine h _ _ (I.hok.fresh (Nat.le_refl _)) (I.laid (a:=s.heap.objs.size) (o:=.dK kvs) (t':=s.toks) (fun b q hq=>?_) (Nat.le_refl _) (dk_new z (beq_eq_false_iff_ne.mpr (Ne.symm (Nat.ne_of_lt I.big))) rel dd'))
 exact (hs.2 b (Nat.ne_of_lt (Heap.lt_size hq))).trans (Heap.get?_push_of_some _ hq)
end
section
variable {X:Cx} {pins:List (Addr × Obj)} {σ:St} {H:Hp} {s:Shared} {a:Addr} {y:V} {u:Value} {A:Around} {E:Value->Shared->Prop}
end
end L2
set_option maxHeartbeats 4000000
namespace D3
open PySem PySem.Spec PyProof.Rows L2
abbrev St:=L2.St
inductive D where
 | non | bl (b:Bool) | int (i:Int) | str (x:Str) | ty (n:String) | tup (ds:List D) | ref (a:Addr)
mutual
def Is (H:Hp):D->V->Prop
 | .non,v=>v=.non
 | .bl b,v=>v=.bl b
 | .int i,v=>v=.int i
 | .str x,v=>v=.str x
 | .ty n,v=>v=.ty n
 | .tup ds,v=>∃ a xs,v=.ref a/\H a=some (.tup xs)/\IsL H ds xs
 | .ref a,v=>v=.ref a
def IsL (H:Hp):List D->List V->Prop
 | [],xs=>xs=[]
 | d :: ds,xs=>∃ x r,xs=x :: r/\Is H d x/\IsL H ds r
end
def Grow (H H':Hp):Prop:=∀ b xs,H b=some (.tup xs)->H' b=some (.tup xs)
theorem Grow.refl (H:Hp):Grow H H:=fun _ _ h=>h
theorem Grow.trans {H H1 H2:Hp} (a:Grow H H1) (b:Grow H1 H2):Grow H H2:=fun c o h=>b c o (a c o h)
theorem grow_upd {H:Hp} {p:Addr} {o:HO} (h:∀ xs,H p≠some (.tup xs)):Grow H (upd H p o):=fun b xs e=>by
 have:b≠p:=by intro z;subst z;exact h xs e
 rw [upd_ne this];exact e
theorem grow_new {H:Hp} {p:Addr} {o:HO} (h:H p=none):Grow H (upd H p o):=grow_upd (by intro xs e;rw [h] at e;cases e)
mutual
theorem Is.grow {H H':Hp} (g:Grow H H'):∀ (d:D) (v:V),Is H d v->Is H' d v
 | .non,_,h=>by unfold Is at h ⊢;exact h
 | .bl _,_,h=>by unfold Is at h ⊢;exact h
 | .int _,_,h=>by unfold Is at h ⊢;exact h
 | .str _,_,h=>by unfold Is at h ⊢;exact h
 | .ty _,_,h=>by unfold Is at h ⊢;exact h
 | .ref _,_,h=>by unfold Is at h ⊢;exact h
 | .tup ds,v,h=>by
  unfold Is at h ⊢
  obtain ⟨a,xs,e,h1,h2⟩:=h
  exact ⟨a,xs,e,g _ _ h1,IsL.grow g ds xs h2⟩
theorem IsL.grow {H H':Hp} (g:Grow H H'):∀ (ds:List D) (vs:List V),IsL H ds vs->IsL H' ds vs
 | [],_,h=>by unfold IsL at h ⊢;exact h
 | d :: ds,vs,h=>by
  unfold IsL at h ⊢
  obtain ⟨x,r,e,h1,h2⟩:=h
  exact ⟨x,r,e,Is.grow g d x h1,IsL.grow g ds r h2⟩
end
theorem is_non {H:Hp} {v:V}:Is H .non v ↔ v=.non:=by unfold Is;exact Iff.rfl
theorem is_bl {H:Hp} {v:V} {b:Bool}:Is H (.bl b) v ↔ v=.bl b:=by unfold Is;exact Iff.rfl
theorem is_int {H:Hp} {v:V} {i:Int}:Is H (.int i) v ↔ v=.int i:=by unfold Is;exact Iff.rfl
theorem is_str {H:Hp} {v:V} {x:Str}:Is H (.str x) v ↔ v=.str x:=by unfold Is;exact Iff.rfl
theorem is_ty {H:Hp} {v:V} {x:String}:Is H (.ty x) v ↔ v=.ty x:=by unfold Is;exact Iff.rfl
theorem is_ref {H:Hp} {v:V} {a:Addr}:Is H (.ref a) v ↔ v=.ref a:=by unfold Is;exact Iff.rfl
theorem is_tup {H:Hp} {v:V} {ds:List D}:Is H (.tup ds) v ↔ ∃ a xs,v=.ref a/\H a=some (.tup xs)/\IsL H ds xs:=by
 constructor
 ·intro h;unfold Is at h;exact h
 ·intro h;unfold Is;exact h
theorem isl_nil {H:Hp} {vs:List V}:IsL H [] vs ↔ vs=[]:=by unfold IsL;exact Iff.rfl
theorem isl_cons {H:Hp} {vs:List V} {d:D} {ds:List D}:IsL H (d :: ds) vs ↔ ∃ x r,vs=x :: r/\Is H d x/\IsL H ds r:=by
 constructor
 ·intro h;unfold IsL at h;exact h
 ·intro h;unfold IsL;exact h
theorem IsL.len {H:Hp}:∀ {ds:List D} {vs:List V},IsL H ds vs->ds.length=vs.length
 | [],vs,h=>by rw [isl_nil] at h;rw [h];rfl
 | d :: ds,vs,h=>by
  rw [isl_cons] at h
  obtain ⟨x,r,e,_,h2⟩:=h
  rw [e,List.length_cons,List.length_cons,IsL.len h2]
theorem IsL.get {H:Hp}:∀ {ds:List D} {vs:List V} {i:Nat} {d:D},IsL H ds vs->ds[i]?=some d->∃ v,vs[i]?=some v/\Is H d v
 | [],vs,i,d,_,e=>by simp at e
 | d' :: ds,vs,0,d,h,e=>by
  rw [isl_cons] at h
  obtain ⟨x,r,e1,h1,_⟩:=h
  simp at e;subst e;subst e1
  exact ⟨x,rfl,h1⟩
 | d' :: ds,vs,i+1,d,h,e=>by
  rw [isl_cons] at h
  obtain ⟨x,r,e1,_,h2⟩:=h
  subst e1
  obtain ⟨v,e2,h3⟩:=IsL.get (i:=i) h2 (by simpa using e)
  exact ⟨v,by simpa using e2,h3⟩
theorem IsL.get' {H:Hp}:∀ {ds:List D} {vs:List V} {i:Nat} {v:V},IsL H ds vs->vs[i]?=some v->∃ d,ds[i]?=some d/\Is H d v
 | [],vs,i,d,h,e=>by rw [isl_nil] at h;subst h;simp at e
 | d' :: ds,vs,0,v,h,e=>by
  rw [isl_cons] at h
  obtain ⟨x,r,e1,h1,_⟩:=h
  subst e1;simp at e;subst e
  exact ⟨d',rfl,h1⟩
 | d' :: ds,vs,i+1,v,h,e=>by
  rw [isl_cons] at h
  obtain ⟨x,r,e1,_,h2⟩:=h
  subst e1
  obtain ⟨d,e2,h3⟩:=IsL.get' (i:=i) h2 (by simpa using e)
  exact ⟨d,by simpa using e2,h3⟩
theorem IsL.app {H:Hp}:∀ {ds es:List D} {vs us:List V},IsL H ds vs->IsL H es us->IsL H (ds++es) (vs++us)
 | [],es,vs,us,h,k=>by rw [isl_nil] at h;subst h;exact k
 | d :: ds,es,vs,us,h,k=>by
  rw [isl_cons] at h
  obtain ⟨x,r,e,h1,h2⟩:=h
  subst e
  show IsL H (d :: (ds++es)) (x :: (r++us))
  rw [isl_cons]
  exact ⟨x,r++us,rfl,h1,h2.app k⟩
theorem IsL.take {H:Hp}:∀ {ds:List D} {vs:List V} (n:Nat),IsL H ds vs->IsL H (ds.take n) (vs.take n)
 | _,_,0,_=>by rw [List.take_zero,List.take_zero,isl_nil]
 | [],vs,n+1,h=>by rw [isl_nil] at h;subst h;rw [List.take_nil,List.take_nil,isl_nil]
 | d :: ds,vs,n+1,h=>by
  rw [isl_cons] at h
  obtain ⟨x,r,e,h1,h2⟩:=h
  subst e
  rw [List.take_succ_cons,List.take_succ_cons,isl_cons]
  exact ⟨x,r.take n,rfl,h1,h2.take n⟩
theorem IsL.drop {H:Hp}:∀ {ds:List D} {vs:List V} (n:Nat),IsL H ds vs->IsL H (ds.drop n) (vs.drop n)
 | _,_,0,h=>h
 | [],vs,n+1,h=>by rw [isl_nil] at h;subst h;rw [List.drop_nil,List.drop_nil,isl_nil]
 | d :: ds,vs,n+1,h=>by
  rw [isl_cons] at h
  obtain ⟨x,r,e,h1,h2⟩:=h
  subst e
  rw [List.drop_succ_cons,List.drop_succ_cons]
  exact h2.drop n
theorem IsL.ints {H:Hp}:∀ {ns:List Int},IsL H (ns.map D.int) (ns.map V.int)
 | []=>by rw [List.map_nil,List.map_nil,isl_nil]
 | n :: ns=>by rw [List.map_cons,List.map_cons,isl_cons];exact ⟨_,_,rfl,is_int.mpr rfl,IsL.ints⟩
inductive MO where
 | lst (ds:List D) | ro (ds:List D) | dic (kvs:List (Str × D))
 | exc (C:Addr) (dd:Option Addr) (fresh:Bool) | att (fs:List (Str × D))
 | rod (o:Obj) (kvs:List (Str × D))
 | raw (φ:Heap->Prop)
 | tkd (kvs:List (List Int × D))
 | ins (C:Addr) (fs:List (Str × D))
abbrev MH:=Addr->Option MO
def mset (M:MH) (a:Addr) (o:MO):MH:=fun b=>if b=a then some o else M b
theorem mset_same {M:MH} {a:Addr} {o:MO}:mset M a o a=some o:=by unfold mset;rw [if_pos rfl]
theorem mset_ne {M:MH} {a b:Addr} {o:MO} (h:b≠a):mset M a o b=M b:=by unfold mset;rw [if_neg h]
theorem mset_old {M:MH} {a b:Addr} {o u:MO} (n:M a=none) (h:M b=some u):mset M a o b=some u:=by
 rw [mset_ne];exact h
 intro z;subst z;rw [n] at h;cases h
def KvIs (H:Hp):List (Str × D)->List (Key × V)->Prop
 | [],ys=>ys=[]
 | (k,d) :: r,ys=>∃ v ys',ys=(Sum.inr k,v) :: ys'/\Is H d v/\KvIs H r ys'
def ExcO (a C:Addr) (dd:Option Addr) (fresh:Bool) (h:Heap):Prop :=
 ∃ o vs,h.get? a=some o/\o.cls=.ref C/\o.dict=dd/\o.data=.fields vs/\(fresh=true->o.slots=#[]/\∃ t,vs=#[.ref t,.none,.none,.none,.bool false,.none])
def FsIs (H:Hp):List (Str × D)->List (Str × V)->Prop
 | [],ys=>ys=[]
 | (k,d) :: r,ys=>∃ v ys',ys=(k,v) :: ys'/\Is H d v/\FsIs H r ys'
def TkIs (H:Hp):List (List Int × D)->List (List Key × V)->Prop
 | [],ys=>ys=[]
 | (k,d) :: r,ys=>∃ v ys',ys=(k.map Sum.inl,v) :: ys'/\Is H d v/\TkIs H r ys'
theorem TkIs.grow {H H':Hp} (g:Grow H H'):∀ {fs:List (List Int × D)} {ys:List (List Key × V)},TkIs H fs ys->TkIs H' fs ys
 | [],ys,h=>h
 | (k,d) :: r,ys,h=>by
  obtain ⟨v,ys',e,h1,h2⟩:=h
  exact ⟨v,ys',e,Is.grow g _ _ h1,TkIs.grow g h2⟩
def IsM (K:PySem.W.Frag) (H:Hp) (a:Addr):MO->Prop
 | .lst ds=>∃ xs,H a=some (.lst xs)/\IsL H ds xs
 | .ro ds=>∃ xs,SqL K H a xs/\IsL H ds xs
 | .dic kvs=>∃ ys,H a=some (.dK ys)/\KvIs H kvs ys
 | .exc C dd fr=>H a=some (.ext (ExcO a C dd fr))
 | .att fs=>∃ ys,H a=some (.xd ys)/\FsIs H fs ys
 | .rod o kvs=>∃ ys,H a=some (.frz o (.dK ys))/\KvIs H kvs ys
 | .raw φ=>H a=some (.ext φ)
 | .tkd kvs=>∃ ys,H a=some (.dT ys)/\TkIs H kvs ys
 | .ins C fs=>∃ dx ys,H a=some (.ins C dx ys)/\FsIs H fs ys
theorem FsIs.grow {H H':Hp} (g:Grow H H'):∀ {fs:List (Str × D)} {ys:List (Str × V)},FsIs H fs ys->FsIs H' fs ys
 | [],ys,h=>h
 | (k,d) :: r,ys,h=>by
  obtain ⟨v,ys',e,h1,h2⟩:=h
  exact ⟨v,ys',e,Is.grow g _ _ h1,FsIs.grow g h2⟩
theorem KvIs.grow {H H':Hp} (g:Grow H H'):∀ {kvs:List (Str × D)} {ys:List (Key × V)},KvIs H kvs ys->KvIs H' kvs ys
 | [],ys,h=>h
 | (k,d) :: r,ys,h=>by
  obtain ⟨v,ys',e,h1,h2⟩:=h
  exact ⟨v,ys',e,Is.grow g _ _ h1,KvIs.grow g h2⟩
def MemOk (K:PySem.W.Frag) (M:MH) (H:Hp):Prop:=∀ a o,M a=some o->IsM K H a o
def KF (K:PySem.W.Frag) (H:Hp):Prop:=∀ a o,K.lookup a=some o->H a=none
theorem IsM.there {K:PySem.W.Frag} {H:Hp} {a:Addr} {o:MO} (h:IsM K H a o):(∃ u,H a=some u)\/∃ u,K.lookup a=some u:=by
 cases o with
 | lst ds=>obtain ⟨xs,e,_⟩:=h;exact .inl ⟨_,e⟩
 | dic kvs=>obtain ⟨xs,e,_⟩:=h;exact .inl ⟨_,e⟩
 | att fs=>obtain ⟨xs,e,_⟩:=h;exact .inl ⟨_,e⟩
 | rod o kvs=>obtain ⟨xs,e,_⟩:=h;exact .inl ⟨_,e⟩
 | exc C dd fr=>exact .inl ⟨_,h⟩
 | raw φ=>exact .inl ⟨_,h⟩
 | tkd kvs=>obtain ⟨xs,e,_⟩:=h;exact .inl ⟨_,e⟩
 | ins C fs=>obtain ⟨dx,xs,e,_⟩:=h;exact .inl ⟨_,e⟩
 | ro ds =>
  obtain ⟨xs,e,_⟩:=h
  rcases e with (e | ⟨o,e⟩) | ⟨o,_,_,e,_⟩
  ·exact .inl ⟨_,e⟩
  ·exact .inl ⟨_,e⟩
  ·exact .inr ⟨_,e⟩
theorem MemOk.fresh {K:PySem.W.Frag} {M:MH} {H:Hp} {p:Addr} {o:HO} (m:MemOk K M H) (hp:H p=none) (kf:KF K (upd H p o)):M p=none:=by
 cases e:M p with
 | none=>rfl
 | some u =>
  rcases (m p u e).there with ⟨u,h⟩ | ⟨u,h⟩
  ·rw [hp] at h;cases h
  ·have:=kf p u h
   rw [upd_same] at this;cases this
theorem IsM.stay {K:PySem.W.Frag} {H H':Hp} {a:Addr} {o:MO} (g:Grow H H') (same:∀ u,H a=some u->H' a=some u) (h:IsM K H a o):IsM K H' a o:=by
 cases o with
 | lst ds=>obtain ⟨xs,e,q⟩:=h;exact ⟨xs,same _ e,q.grow g⟩
 | dic kvs=>obtain ⟨xs,e,q⟩:=h;exact ⟨xs,same _ e,q.grow g⟩
 | att fs=>obtain ⟨xs,e,q⟩:=h;exact ⟨xs,same _ e,q.grow g⟩
 | rod o kvs=>obtain ⟨xs,e,q⟩:=h;exact ⟨xs,same _ e,q.grow g⟩
 | exc C dd fr=>exact same _ h
 | raw φ=>exact same _ h
 | tkd kvs=>obtain ⟨xs,e,q⟩:=h;exact ⟨xs,same _ e,q.grow g⟩
 | ins C fs=>obtain ⟨dx,xs,e,q⟩:=h;exact ⟨dx,xs,same _ e,q.grow g⟩
 | ro ds =>
  obtain ⟨xs,e,q⟩:=h
  refine ⟨xs,?_,q.grow g⟩
  rcases e with (e | ⟨o,e⟩) | e
  ·exact .inl (.inl (same _ e))
  ·exact .inl (.inr ⟨o,same _ e⟩)
  ·exact .inr e
theorem MemOk.new {K:PySem.W.Frag} {M:MH} {H:Hp} {p:Addr} {o:HO} (m:MemOk K M H) (hp:H p=none):MemOk K M (upd H p o):=fun a u e =>
 (m a u e).stay (grow_new hp) fun v h=>by rw [upd_ne (ne_of_none h hp)];exact h
theorem MemOk.lay {K:PySem.W.Frag} {M:MH} {H:Hp} {p:Addr} {o:HO} {u:MO} (m:MemOk K M H) (hp:H p=none) (h:IsM K (upd H p o) p u):MemOk K (mset M p u) (upd H p o):=fun a v e=>by
 by_cases z:a=p
 ·subst z;rw [mset_same] at e;cases e;exact h
 ·rw [mset_ne z] at e;exact m.new hp a v e
theorem MemOk.put {K:PySem.W.Frag} {M:MH} {H:Hp} {p:Addr} {o:HO} {u:MO} (m:MemOk K M H) (hp:∀ xs,H p≠some (.tup xs)) (h:IsM K (upd H p o) p u):MemOk K (mset M p u) (upd H p o):=fun a v e=>by
 by_cases z:a=p
 ·subst z;rw [mset_same] at e;cases e;exact h
 ·rw [mset_ne z] at e
  exact (m a v e).stay (grow_upd hp) fun w q=>by rw [upd_ne z];exact q
abbrev Ga:=List (Option D)
abbrev DK:=D->MH->Prop
structure Rel (X:Cx) (G:Ga) (M:MH) (σ:St) (H:Hp):Prop where
 loc:∀ (i:Nat) (d:D),G[i]?=some (some d)->∃ v,σ[i]?=some (some v)/\Is H d v
 mem:MemOk X.K M H
theorem Rel.to {X:Cx} {G:Ga} {M M':MH} {σ:St} {H H':Hp} (R:Rel X G M σ H) (g:Grow H H') (m:MemOk X.K M' H'):Rel X G M' σ H' :=
 ⟨fun i d e=>let ⟨v,e1,h⟩:=R.loc i d e;⟨v,e1,Is.grow g _ _ h⟩,m⟩
theorem Rel.set {X:Cx} {G:Ga} {M:MH} {σ:St} {H:Hp} {i:Nat} {d:D} {v:V} (R:Rel X G M σ H) (hi:i < σ.length) (h:Is H d v):Rel X (G.set i (some d)) M (σ.set i (some v)) H :=
 ⟨fun j e q=>by
  by_cases z:i=j
  ·subst z
   by_cases hG:i < G.length
   ·rw [List.getElem?_set_self hG] at q
    cases q
    exact ⟨v,List.getElem?_set_self hi,h⟩
   ·rw [List.getElem?_eq_none (by rw [List.length_set];omega)] at q;cases q
  ·rw [List.getElem?_set_ne z] at q
   obtain ⟨w,e1,h1⟩:=R.loc j e q
   exact ⟨w,by rw [List.getElem?_set_ne z];exact e1,h1⟩,R.mem⟩
theorem kf_of {X:Cx} {pins:List (Addr × Obj)} {σ:St} {H:Hp} {s:Shared} (I:Inv X pins σ H s):KF X.K H:=fun a o e=>(I.bs a o (I.mod.kin a o e)).2
def EPD (X:Cx) (pins:List (Addr × Obj)) (σ:St) (G:Ga) (H:Hp) (Q:DK) (u:Value) (s':Shared):Prop :=
 ∃ v H' d M',Inv X pins σ H' s'/\RelV v u/\Grow H H'/\Is H' d v/\Rel X G M' σ H'/\Q d M'
def EV (X:Cx) (G:Ga) (M:MH) (e:Expr) (Q:DK):Prop :=
 ∀ (pins:List (Addr × Obj)) (s:Shared) (σ:St) (H:Hp),Inv X pins σ H s->Rel X G M σ H->wpAny (model X.prog X.w) X.A (eval e X.env) (EPD X pins σ G H Q) X.xe s
def TPD (X:Cx) (pins:List (Addr × Obj)) (σ:St) (G:Ga) (H:Hp) (Q:Bool->MH->Prop) (b:Bool) (s':Shared):Prop :=
 ∃ H' M',Inv X pins σ H' s'/\Grow H H'/\Rel X G M' σ H'/\Q b M'
def TV (X:Cx) (G:Ga) (M:MH) (e:Expr) (Q:Bool->MH->Prop):Prop :=
 ∀ (pins:List (Addr × Obj)) (s:Shared) (σ:St) (H:Hp),Inv X pins σ H s->Rel X G M σ H->wpAny (model X.prog X.w) X.A (isTrue e X.env (eval e X.env)) (TPD X pins σ G H Q) X.xe s
def TW (X:Cx) (G:Ga) (M:MH) (e:Expr) (Q:Bool->MH->Prop):Prop :=
 ∀ (whole:Sem Value) (pins:List (Addr × Obj)) (s:Shared) (σ:St) (H:Hp),Inv X pins σ H s->Rel X G M σ H->wpAny (model X.prog X.w) X.A (isTrue e X.env whole) (TPD X pins σ G H Q) X.xe s
theorem TW.tv {X:Cx} {G:Ga} {M:MH} {e:Expr} {Q:Bool->MH->Prop} (h:TW X G M e Q):TV X G M e Q:=h _
def APD (X:Cx) (pins:List (Addr × Obj)) (σ:St) (G:Ga) (H:Hp) (Q:List D->MH->Prop) (us:List Value) (s':Shared):Prop :=
 ∃ vs H' ds M',Inv X pins σ H' s'/\Vals vs us/\Grow H H'/\IsL H' ds vs/\Rel X G M' σ H'/\Q ds M'
def AV (X:Cx) (G:Ga) (M:MH) (es:List Expr) (Q:List D->MH->Prop):Prop :=
 ∀ (pos:Pos) (pins:List (Addr × Obj)) (s:Shared) (σ:St) (H:Hp),Inv X pins σ H s->Rel X G M σ H->wpAny (model X.prog X.w) X.A (spliced (backTo pos (starEach es X.env))) (APD X pins σ G H Q) X.xe s
structure EndsD where
 nx:Ga->MH->Prop
 rt:DK
 bk:Ga->MH->Prop:=fun _ _=>False
 ct:Ga->MH->Prop:=fun _ _=>False
def SPD (X:Cx) (pins:List (Addr × Obj)) (H:Hp) (E:EndsD) (f:Flow) (s':Shared):Prop :=
 match f with
 | .next=>∃ σ' H' G' M',Inv X pins σ' H' s'/\Grow H H'/\Rel X G' M' σ' H'/\E.nx G' M'
 | .brk=>∃ σ' H' G' M',Inv X pins σ' H' s'/\Grow H H'/\Rel X G' M' σ' H'/\E.bk G' M'
 | .cont=>∃ σ' H' G' M',Inv X pins σ' H' s'/\Grow H H'/\Rel X G' M' σ' H'/\E.ct G' M'
 | .ret u=>∃ v σ' H' d M',Inv X pins σ' H' s'/\RelV v u/\Grow H H'/\Is H' d v/\MemOk X.K M' H'/\E.rt d M'
def EX (X:Cx) (G:Ga) (M:MH) (st:Stmt) (E:EndsD):Prop :=
 ∀ (pins:List (Addr × Obj)) (s:Shared) (σ:St) (H:Hp),Inv X pins σ H s->Rel X G M σ H->wpAny (model X.prog X.w) X.A (exec st X.env) (SPD X pins H E) X.xe s
def EXs (X:Cx) (G:Ga) (M:MH) (st:List Stmt) (E:EndsD):Prop :=
 ∀ (pins:List (Addr × Obj)) (s:Shared) (σ:St) (H:Hp),Inv X pins σ H s->Rel X G M σ H->wpAny (model X.prog X.w) X.A (execs st X.env) (SPD X pins H E) X.xe s
theorem EPD.grow {X:Cx} {pins:List (Addr × Obj)} {σ:St} {G:Ga} {H0 H:Hp} {Q:DK} {u:Value} {s':Shared} (g:Grow H0 H) (h:EPD X pins σ G H Q u s'):EPD X pins σ G H0 Q u s' :=
 let ⟨v,H',d,M',I,r,g',i,R,q⟩:=h;⟨v,H',d,M',I,r,g.trans g',i,R,q⟩
theorem TPD.grow {X:Cx} {pins:List (Addr × Obj)} {σ:St} {G:Ga} {H0 H:Hp} {Q:Bool->MH->Prop} {u:Bool} {s':Shared} (g:Grow H0 H) (h:TPD X pins σ G H Q u s'):TPD X pins σ G H0 Q u s' :=
 let ⟨H',M',I,g',R,q⟩:=h;⟨H',M',I,g.trans g',R,q⟩
theorem SPD.grow {X:Cx} {pins:List (Addr × Obj)} {H0 H:Hp} {E:EndsD} {f:Flow} {s':Shared} (g:Grow H0 H) (h:SPD X pins H E f s'):SPD X pins H0 E f s':=by
 cases f with
 | next=>obtain ⟨σ',H',G',M',I,g',R,q⟩:=h;exact ⟨σ',H',G',M',I,g.trans g',R,q⟩
 | brk=>obtain ⟨σ',H',G',M',I,g',R,q⟩:=h;exact ⟨σ',H',G',M',I,g.trans g',R,q⟩
 | cont=>obtain ⟨σ',H',G',M',I,g',R,q⟩:=h;exact ⟨σ',H',G',M',I,g.trans g',R,q⟩
 | ret u=>obtain ⟨v,σ',H',d,M',I,r,g',i,R,q⟩:=h;exact ⟨v,σ',H',d,M',I,r,g.trans g',i,R,q⟩
section
variable {X:Cx} {G:Ga} {M:MH} {a b c e:Expr} {es rest:List Expr} {pos:Pos} {Q:DK}
theorem EV.mono {Q':DK} (h:EV X G M e Q) (k:∀ d M',Q d M'->Q' d M'):EV X G M e Q':=fun pins s σ H I R =>
 thn (h pins s σ H I R) fun u s' ⟨v,H',d,M',I',r,g,i,R',q⟩=>⟨v,H',d,M',I',r,g,i,R',k _ _ q⟩
theorem EV.of {t:TE} (h:PE X e t) (k:∀ σ H,KF X.K H->Rel X G M σ H->t σ H fun v H'=>KF X.K H'->Grow H H'/\∃ d M',Is H' d v/\MemOk X.K M' H'/\Q d M'):EV X G M e Q:=fun pins s σ H I R =>
 thn (h pins s σ H _ I (k σ H (kf_of I) R)) fun u s' ⟨v,H',I',r,q⟩ =>
  let ⟨g,d,M',i,m,q⟩:=q (kf_of I')
  ⟨v,H',d,M',I',r,g,i,R.to g m,q⟩
theorem ev_var (i:Nat) {d:D} {x:Str} (q:Q d M) (hN:X.N[i]?=some x:=by rfl) (hG:G[i]?=some (some d):=by rfl) (hv:Vis X.env.scope x:=by first | exact Or.inl rfl | exact Or.inr (Or.inl rfl) | exact Or.inr (Or.inr rfl))
  (hd:(x == ("__debug__" : Str))=false:=by decide) (hcd:(x == ("__classdict__" : Str))=false:=by decide):EV X G M (.Name x pos) Q :=
 EV.of (pe_var hN hv hd hcd) fun σ H kf R=>let ⟨v,e1,h⟩:=R.loc i d hG;⟨v,e1,fun _=>⟨Grow.refl _,d,M,h,R.mem,q⟩⟩
theorem ev_int {i:Int} {j} (q:Q (.int i) M):EV X G M (.Constant (.int i) j pos) Q:=EV.of pe_int fun σ H kf R=>show _ from fun _=>⟨Grow.refl _,_,M,is_int.mpr rfl,R.mem,q⟩
theorem ev_bl {i:Bool} {j} (q:Q (.bl i) M):EV X G M (.Constant (.bool i) j pos) Q:=EV.of pe_bl fun σ H kf R=>show _ from fun _=>⟨Grow.refl _,_,M,is_bl.mpr rfl,R.mem,q⟩
theorem ev_non {j} (q:Q .non M):EV X G M (.Constant .none j pos) Q:=EV.of pe_non fun σ H kf R=>show _ from fun _=>⟨Grow.refl _,_,M,is_non.mpr rfl,R.mem,q⟩
theorem ev_str {x} {j} (q:Q (.str x) M):EV X G M (.Constant (.str x) j pos) Q:=EV.of pe_str fun σ H kf R=>show _ from fun _=>⟨Grow.refl _,_,M,is_str.mpr rfl,R.mem,q⟩
theorem ev_gint {x:Str} {i:Int} {t:Tok} (hm:X.mg x=some (.int i t)) (q:Q (.int i) M) (hg:Gl X x:=by rfl) (hd:(x == ("__debug__" : Str))=false:=by decide):EV X G M (.Name x pos) Q :=
 EV.of (pe_glob (v:=.int i) hg hm ⟨_,rfl⟩ hd) fun σ H kf R=>show _ from fun _=>⟨Grow.refl _,_,M,is_int.mpr rfl,R.mem,q⟩
theorem ev_gty {x:Str} {n:String} (hm:X.mg x=none) (hv:bootBuiltins x=some (.type n)) (q:Q (.ty n) M) (hg:Gl X x:=by rfl) (hn:x ≠ "__name__" := by decide) (hd:(x == ("__debug__" : Str))=false:=by decide):EV X G M (.Name x pos) Q :=
 EV.of (pe_bltn (v:=.ty n) hg hm hv rfl hn hd) fun σ H kf R=>show _ from fun _=>⟨Grow.refl _,_,M,is_ty.mpr rfl,R.mem,q⟩
abbrev RDP (K:PySem.W.Frag) (H:Hp) (Q:DK):VK:=fun v H'=>KF K H'->Grow H H'/\∃ d M',Is H' d v/\MemOk K M' H'/\Q d M'
def RD (K:PySem.W.Frag) (r:R2) (da db:D) (M:MH) (Q:DK):Prop:=∀ H x y,KF K H->Is H da x->Is H db y->MemOk K M H->r x y H (RDP K H Q)
def RU (K:PySem.W.Frag) (r:V->Hp->VK->Prop) (da:D) (M:MH) (Q:DK):Prop:=∀ H x,KF K H->Is H da x->MemOk K M H->r x H (RDP K H Q)
def RC (K:PySem.W.Frag) (r:List V->Hp->VK->Prop) (ds:List D) (M:MH) (Q:DK):Prop:=∀ H xs,KF K H->IsL H ds xs->MemOk K M H->r xs H (RDP K H Q)
theorem rd_fin {pins:List (Addr × Obj)} {σ:St} {H0 H:Hp} {u:Value} {s':Shared} (g0:Grow H0 H) {M0:MH} (R:Rel X G M0 σ H) (h:EP X pins σ (RDP X.K H Q) u s'):EPD X pins σ G H0 Q u s' :=
 let ⟨v,H',I',r,q⟩:=h
 let ⟨g,d,M',i,m,q⟩:=q (kf_of I')
 ⟨v,H',d,M',I',r,g0.trans g,i,R.to g m,q⟩
theorem ev2 {f:Value->Value->Sem Value} {r:R2} (ho:OpR X f r) (h:EV X G M a fun da Ma=>EV X G Ma b fun db Mb=>RD X.K r da db Mb Q)
  {pins:List (Addr × Obj)} {s:Shared} {σ:St} {H:Hp} (I:Inv X pins σ H s) (R:Rel X G M σ H) :
  wpAny (model X.prog X.w) X.A (eval a X.env) (fun v s1=>wpAny (model X.prog X.w) X.A (eval b X.env) (fun u s2=>wpAny (model X.prog X.w) X.A (f v u) (EPD X pins σ G H Q) X.xe s2) X.xe s1) X.xe s:=by
 refine thn (h pins s σ H I R) fun v s1 ⟨x,H1,da,Ma,I1,r1,g1,i1,R1,q1⟩=>?_
 refine thn (q1 pins s1 σ H1 I1 R1) fun u s2 ⟨y,H2,db,Mb,I2,r2,g2,i2,R2,q2⟩=>?_
 exact thn (ho pins s2 σ H2 x y v u _ I2 r1 r2 (q2 H2 x y (kf_of I2) (Is.grow g2 _ _ i1) i2 R2.mem)) fun w s3 h3=>rd_fin (g1.trans g2) R2 h3
theorem ev_op {op:Operator} {r:R2} (ho:OpR X (binaryOp op) r) (h:EV X G M a fun da Ma=>EV X G Ma b fun db Mb=>RD X.K r da db Mb Q):EV X G M (.BinOp a op b pos) Q :=
 fun pins s σ H I R=>wpAny_BinOp (ev2 ho h I R)
theorem ev_un {op:UnaryOp} {r:V->Hp->VK->Prop} (ho:UnR X (unaryOp op) r) (h:EV X G M a fun da Ma=>RU X.K r da Ma Q):EV X G M (.UnaryOp op a pos) Q :=
 fun pins s σ H I R=>UnaryOp_ (thn (h pins s σ H I R) fun v s1 ⟨x,H1,da,Ma,I1,r1,g1,i1,R1,q1⟩ =>
  thn (ho pins s1 σ H1 x v _ I1 r1 (q1 H1 x (kf_of I1) i1 R1.mem)) fun w s3 h3=>rd_fin g1 R1 h3)
theorem tv_cmp {op:CmpOp} {r:R2} {Qb:Bool->MH->Prop} (ho:OpR X (compareOp op) r) (hm:behindInMarks op b=false)
  (h:EV X G M a fun da Ma=>EV X G Ma b fun db Mb=>RD X.K r da db Mb fun d M'=>∃ k,d=.bl k/\Qb k M'):TV X G M (.Compare a [op] [b] pos) Qb:=by
 intro pins s σ H I R
 refine wpAny_isTrue_Compare1 (thn (ev2 ho h I R) fun v s1 h1=>thn h1 fun u s2 h2=>thn h2 fun w s3 ⟨z,H3,d,M3,I3,r3,g3,i3,R3,k,e,q⟩=>?_) hm
 subst e
 rw [is_bl] at i3;subst i3
 cases r3
 exact wpAny_truthy_bool ⟨H3,M3,I3,g3,R3,q⟩
def TruD (K:PySem.W.Frag) (d:D) (M:MH) (k:Bool):Prop:=match d with
 | .non=>k=false
 | .bl b=>k=b
 | .int i=>k=(i != 0)
 | .tup ds=>k=!ds.isEmpty
 | .ref a=>(∃ ds,M a=some (.lst ds)/\k=!ds.isEmpty)\/(∃ ds,M a=some (.ro ds)/\k=!ds.isEmpty)
 | _=>False
theorem IsL.empty {H:Hp} {ds:List D} {vs:List V} (h:IsL H ds vs):ds.isEmpty=vs.isEmpty:=by
 cases ds with
 | nil=>rw [isl_nil] at h;subst h;rfl
 | cons d r=>rw [isl_cons] at h;obtain ⟨_,_,e,_⟩:=h;subst e;rfl
theorem tru_of {K:PySem.W.Frag} {H:Hp} {d:D} {M:MH} {v:V} {k:Bool} (m:MemOk K M H) (i:Is H d v) (t:TruD K d M k):TruV K v H k:=by
 cases d with
 | non=>rw [is_non] at i;subst i;exact t
 | bl b=>rw [is_bl] at i;subst i;exact t
 | int b=>rw [is_int] at i;subst i;exact t
 | tup ds =>
  rw [is_tup] at i
  obtain ⟨a,xs,rfl,h1,h2⟩:=i
  exact .inr (.inl ⟨xs,SqT.of h1,by rw [<- h2.empty];exact t⟩)
 | ref a =>
  rw [is_ref] at i;subst i
  rcases t with ⟨ds,h,e⟩ | ⟨ds,h,e⟩
  ·obtain ⟨xs,h1,h2⟩:=m a _ h
   exact .inl ⟨xs,SqL.of h1,by rw [<- h2.empty];exact e⟩
  ·obtain ⟨xs,h1,h2⟩:=m a _ h
   exact .inl ⟨xs,h1,by rw [<- h2.empty];exact e⟩
 | str x=>exact t.elim
 | ty x=>exact t.elim
theorem tv_of {Qb:Bool->MH->Prop} (h:EV X G M e fun d M'=>∃ k,TruD X.K d M' k/\Qb k M') (he:∀ whole,isTrue e X.env whole=(do let v <- whole;standAt e.pos;holding [v] (truthy v)):=by intro _;rfl):TV X G M e Qb:=by
 intro pins s σ H I R
 refine isTrue_plain (thn (h pins s σ H I R) fun v s1 ⟨x,H1,d,M1,I1,r1,g1,i1,R1,k,t,q⟩=>?_) (he _)
 exact thn (tru_ok pins s1 σ H1 x v (fun b H'=>b=k/\H'=H1) I1 r1 ⟨k,tru_of R1.mem i1 t,rfl,rfl⟩) fun b s2 ⟨H2,I2,e1,e2⟩=>by
  subst e1;subst e2
  exact ⟨H2,M1,I2,g1,R1,q⟩
theorem tv_not {Qb:Bool->MH->Prop} (h:TV X G M a fun k M'=>Qb (!k) M'):TV X G M (.UnaryOp .Not a pos) Qb:=by
 intro pins s σ H I R
 exact isTrue_not (thn (h pins s σ H I R) fun b s1 h1=>h1)
theorem tw_and1 {Qb:Bool->MH->Prop} (h:TV X G M a Qb):TW X G M (.BoolOp .And [a] pos) Qb:=by
 intro wh pins s σ H I R
 refine isTrue_and (thn (h pins s σ H I R) fun c s1 e=>?_)
 cases c with
 | true=>exact isTrue_and_nil e
 | false=>exact e
theorem tw_or1 {Qb:Bool->MH->Prop} (h:TV X G M a Qb):TW X G M (.BoolOp .Or [a] pos) Qb:=by
 intro wh pins s σ H I R
 refine isTrue_or (thn (h pins s σ H I R) fun c s1 e=>?_)
 cases c with
 | false=>exact isTrue_or_nil e
 | true=>exact e
theorem tw_and {Qb:Bool->MH->Prop} (h:TV X G M a fun k M1=>if k=true then TW X G M1 (.BoolOp .And (b :: rest) pos) Qb else Qb false M1):TW X G M (.BoolOp .And (a :: b :: rest) pos) Qb:=by
 intro wh pins s σ H I R
 refine isTrue_and (thn (h pins s σ H I R) fun c s1 ⟨H1,M1,I1,g1,R1,q1⟩=>?_)
 cases c with
 | true=>exact thn (q1 wh pins s1 σ H1 I1 R1) fun b s2 h2=>h2.grow g1
 | false=>exact ⟨H1,M1,I1,g1,R1,q1⟩
theorem tw_or {Qb:Bool->MH->Prop} (h:TV X G M a fun k M1=>if k=true then Qb true M1 else TW X G M1 (.BoolOp .Or (b :: rest) pos) Qb):TW X G M (.BoolOp .Or (a :: b :: rest) pos) Qb:=by
 intro wh pins s σ H I R
 refine isTrue_or (thn (h pins s σ H I R) fun c s1 ⟨H1,M1,I1,g1,R1,q1⟩=>?_)
 cases c with
 | true=>exact ⟨H1,M1,I1,g1,R1,q1⟩
 | false=>exact thn (q1 wh pins s1 σ H1 I1 R1) fun b s2 h2=>h2.grow g1
theorem av_nil {Qa:List D->MH->Prop} (q:Qa [] M):AV X G M [] Qa:=fun _ pins s σ H I R=>Calls.spliced_nil ⟨[],H,[],M,I,.nil,Grow.refl _,isl_nil.mpr rfl,R,q⟩
theorem av_cons {Qa:List D->MH->Prop} (h:EV X G M e fun d M1=>AV X G M1 es fun ds M2=>Qa (d :: ds) M2) (hs:starEach (e :: es) X.env=(false,eval e X.env) :: starEach es X.env:=by rfl):AV X G M (e :: es) Qa:=by
 intro pos pins s σ H I R
 rw [hs]
 show wpAny _ _ (spliced ((false,eval e X.env) :: backTo pos (starEach es X.env))) _ _ s
 refine Calls.spliced_cons (thn (h pins s σ H I R) fun u s1 ⟨x,H1,d,M1,I1,r1,g1,i1,R1,q1⟩=>?_)
 exact thn (q1 pos pins s1 σ H1 I1 R1) fun us s2 ⟨xs,H2,ds,M2,I2,r2,g2,i2,R2,q2⟩ =>
  ⟨x :: xs,H2,d :: ds,M2,I2,.cons r1 r2,g1.trans g2,isl_cons.mpr ⟨x,xs,rfl,Is.grow g2 _ _ i1,i2⟩,R2,q2⟩
theorem ev_tup {k} (h:AV X G M es fun ds M1=>ds.length<=sizeLine/\Q (.tup ds) M1):EV X G M (.Tuple es k pos) Q:=by
 intro pins s σ H I R
 refine wpAny_Tuple_spliced (thn (h pos pins s σ H I R) fun us s1 ⟨xs,H1,ds,M1,I1,r,g1,i1,R1,z,q⟩=>?_)
 have hl:=i1.len
 refine ⟨by rw [<- r.length,<- hl];exact z,?_⟩
 have hf:H1 s1.heap.objs.size=none:=I1.hok.fresh (Nat.le_refl _)
 refine ⟨.ref s1.heap.objs.size,upd H1 s1.heap.objs.size (.tup xs),.tup ds,M1,I1.laid (t':=s1.toks) (fun b u e=>Heap.get?_push_of_some _ e) (Nat.le_refl _) ⟨⟨by rw [<- hl];exact z,_,Heap.get?_push_size _ rfl,rfl⟩,us,r,⟨_,Heap.get?_push_size _ rfl,rfl,_,rfl⟩⟩,rfl,g1.trans (grow_new hf),?_,R1.to (grow_new hf) (R1.mem.new hf),q⟩
 exact is_tup.mpr ⟨_,xs,rfl,upd_same,i1.grow (grow_new hf)⟩
theorem ev_lst (h:AV X G M es fun ds M1=>ds.length<=sizeLine/\∀ p,M1 p=none->Q (.ref p) (mset M1 p (.lst ds))):EV X G M (.List es pos) Q:=by
 intro pins s σ H I R
 refine wpAny_List_spliced (thn (h pos pins s σ H I R) fun us s1 ⟨xs,H1,ds,M1,I1,r,g1,i1,R1,z,q⟩=>?_)
 have hl:=i1.len
 refine ⟨by rw [<- r.length,<- hl];exact z,?_⟩
 have hf:H1 s1.heap.objs.size=none:=I1.hok.fresh (Nat.le_refl _)
 have I2:=I1.laid (o:=.lst xs) (t':=s1.toks) (h':=s1.heap.push { cls:=.type "list",data:=.seq us.toArray }) (fun b u e=>Heap.get?_push_of_some _ e) (Nat.le_refl _) ⟨by rw [<- hl];exact z,us,0,r,Heap.get?_push_size _ rfl⟩
 refine ⟨.ref s1.heap.objs.size,upd H1 s1.heap.objs.size (.lst xs),.ref s1.heap.objs.size,mset M1 s1.heap.objs.size (.lst ds),I2,rfl,g1.trans (grow_new hf),is_ref.mpr rfl,R1.to (grow_new hf) (R1.mem.lay hf ⟨xs,upd_same,i1.grow (grow_new hf)⟩),q _ (R1.mem.fresh hf (kf_of I2))⟩
theorem ev_ix {r:R2} (hr:IxR X r) (hs:PlainIx b) (h:EV X G M a fun da Ma=>EV X G Ma b fun db Mb=>RD X.K r da db Mb Q):EV X G M (.Subscript a b pos) Q:=by
 intro pins s σ H I R
 refine Subscript_ (thn (h pins s σ H I R) fun v s1 ⟨x,H1,da,Ma,I1,r1,g1,i1,R1,q1⟩=>?_)
 refine thn (q1 pins s1 σ H1 I1 R1) fun u s2 ⟨y,H2,db,Mb,I2,r2,g2,i2,R2,q2⟩=>?_
 exact thn (hr a b pins s2 σ H2 x y v u _ I2 r1 r2 (q2 H2 x y (kf_of I2) (Is.grow g2 _ _ i1) i2 R2.mem) (hs _ _)) fun w s3 h3=>rd_fin (g1.trans g2) R2 h3
def IxD (da:D) (i:Int) (M:MH) (Q:DK):Prop:=match da with
 | .tup ds=>∃ d,atI ds i=some d/\Q d M
 | .ref a=>(∃ ds d,M a=some (.lst ds)/\atI ds i=some d/\Q d M)\/(∃ ds d,M a=some (.ro ds)/\atI ds i=some d/\Q d M)
 | _=>False
theorem atI_is {H:Hp} {ds:List D} {vs:List V} {i:Int} {d:D} (h:IsL H ds vs) (e:atI ds i=some d):∃ v,atI vs i=some v/\Is H d v:=by
 obtain ⟨j,_,h2,_⟩:=atI_get e
 unfold atI at e ⊢
 rw [<- h.len]
 cases q:ixN ds.length i with
 | none=>rw [q] at e;cases e
 | some k =>
  rw [q] at e
  exact h.get (i:=k) e
theorem rd_ix {da:D} {i:Int} (h:IxD da i M Q):RD X.K (rIx X.K) da (.int i) M Q:=by
 intro H x y kf hx hy m
 rw [is_int] at hy;subst hy
 cases da with
 | tup ds =>
  rw [is_tup] at hx
  obtain ⟨a,xs,rfl,h1,h2⟩:=hx
  obtain ⟨d,e,q⟩:=h
  obtain ⟨v,e2,h3⟩:=atI_is h2 e
  exact .inr (.inl ⟨a,xs,i,v,rfl,rfl,SqT.of h1,e2,fun _=>⟨Grow.refl _,d,M,h3,m,q⟩⟩)
 | ref a =>
  rw [is_ref] at hx;subst hx
  rcases h with ⟨ds,d,h1,e,q⟩ | ⟨ds,d,h1,e,q⟩
  ·obtain ⟨xs,h2,h3⟩:=m a _ h1
   obtain ⟨v,e2,h4⟩:=atI_is h3 e
   exact .inl ⟨a,xs,i,v,rfl,rfl,SqL.of h2,e2,fun _=>⟨Grow.refl _,d,M,h4,m,q⟩⟩
  ·obtain ⟨xs,h2,h3⟩:=m a _ h1
   obtain ⟨v,e2,h4⟩:=atI_is h3 e
   exact .inl ⟨a,xs,i,v,rfl,rfl,h2,e2,fun _=>⟨Grow.refl _,d,M,h4,m,q⟩⟩
 | non=>exact h.elim
 | bl _=>exact h.elim
 | int _=>exact h.elim
 | str _=>exact h.elim
 | ty _=>exact h.elim
end
section
variable {X:Cx} {G:Ga} {M:MH} {a b c e:Expr} {es rest:List Expr} {pos:Pos} {Q:DK}
def OV (X:Cx) (G:Ga) (M:MH) (e:Option Expr) (Q:Option Int->MH->Prop):Prop :=
 ∀ (pins:List (Addr × Obj)) (s:Shared) (σ:St) (H:Hp),Inv X pins σ H s->Rel X G M σ H ->
  wpAny (model X.prog X.w) X.A (evalPart e X.env) (fun u s'=>∃ o H' M',Inv X pins σ H' s'/\Grow H H'/\IsPart u o/\Rel X G M' σ H'/\Q o M') X.xe s
theorem ov_none {Qo:Option Int->MH->Prop} (q:Qo none M):OV X G M none Qo:=by
 intro pins s σ H I R
 rw [evalPart_none]
 exact wpAny_pure ⟨none,H,M,I,Grow.refl _,.none,R,q⟩
theorem ov_some {Qo:Option Int->MH->Prop} (h:EV X G M e fun d M1=>∃ i,d=.int i/\Qo (some i) M1):OV X G M (some e) Qo:=by
 intro pins s σ H I R
 rw [evalPart_some]
 refine thn (h pins s σ H I R) fun u s1 ⟨x,H1,d,M1,I1,r1,g1,i1,R1,i,e,q⟩=>?_
 subst e
 rw [is_int] at i1;subst i1
 obtain ⟨t,rfl⟩:=r1
 exact ⟨some i,H1,M1,I1,g1,.int i t,R1,q⟩
def cutD (xs:List D) (lo hi:Option Int):List D:=(xs.drop (HT.sIx xs.length 0 lo)).take (HT.sIx xs.length xs.length hi - HT.sIx xs.length 0 lo)
theorem IsL.cut {H:Hp} {ds:List D} {vs:List V} (h:IsL H ds vs) (lo hi:Option Int):IsL H (cutD ds lo hi) (cutV vs lo hi):=by
 unfold cutD cutV
 rw [h.len]
 exact (h.drop _).take _
def RS (K:PySem.W.Frag) (r:V->Option Int->Option Int->Hp->VK->Prop) (da:D) (lo hi:Option Int) (M:MH) (Q:DK):Prop:=∀ H x,KF K H->Is H da x->MemOk K M H->r x lo hi H (RDP K H Q)
theorem ev_slice {r:V->Option Int->Option Int->Hp->VK->Prop} {lo hi:Option Expr} {p2:Pos} (hr:SlR X r) (h:EV X G M e fun d M1=>OV X G M1 lo fun l M2=>OV X G M2 hi fun u M3=>RS X.K r d l u M3 Q) :
  EV X G M (.Subscript e (.Slice lo hi none p2) pos) Q:=by
 intro pins s σ H I R
 refine Subscript_ (thn (h pins s σ H I R) fun v s1 ⟨x,H1,d,M1,I1,r1,g1,i1,R1,q1⟩=>?_)
 refine wpAny_Slice (thn (q1 pins s1 σ H1 I1 R1) fun vl s2 ⟨l,H2,M2,I2,g2,pl,R2,q2⟩=>thn (q2 pins s2 σ H2 I2 R2) fun vu s3 ⟨u,H3,M3,I3,g3,pu,R3,q3⟩=>?_)
 rw [evalPart_none]
 refine wpAny_pure ?_
 have I4:Inv X pins σ H3 { s3 with heap:=s3.heap.push { cls:=.type "slice",data:=.fields #[vl,vu,.none] } }:=I3.kept (t':=s3.toks) fun b ob q=>Heap.get?_push_of_some _ q
 obtain ⟨T,id,hT,ht,hg⟩:=hr pins { s3 with heap:=s3.heap.push { cls:=.type "slice",data:=.fields #[vl,vu,.none] } } σ H3 x v vl vu l u s3.heap.objs.size _ I4 r1 (Heap.IsSliceOf.new ..) pl pu (q3 H3 x (kf_of I3) (Is.grow (g2.trans g3) _ _ i1) R3.mem)
 show wpAny (model X.prog X.w) X.A (subscriptTail e (.Slice lo hi none p2) v (.ref s3.heap.objs.size)) _ X.xe { s3 with heap:=s3.heap.push { cls:=.type "slice",data:=.fields #[vl,vu,.none] } }
 exact tail_any (ops:=[.ref s3.heap.objs.size,v]) ht hT (thn hg fun w s5 h5=>rd_fin ((g1.trans g2).trans g3) R3 h5) (by with_unfolding_all rfl)
theorem rs_list {da:D} {lo hi:Option Int} {l:Addr} {ds:List D} (e:da=.ref l) (hl:M l=some (.lst ds)\/M l=some (.ro ds)) (h:∀ p,M p=none->Q (.ref p) (mset M p (.lst (cutD ds lo hi)))):RS X.K (rSlL X.K) da lo hi M Q:=by
 intro H x kf hx m
 subst e
 rw [is_ref] at hx;subst hx
 have hq:∃ xs,SqL X.K H l xs/\IsL H ds xs:=by
  rcases hl with hl | hl
  ·obtain ⟨xs,h1,h2⟩:=m l _ hl;exact ⟨xs,SqL.of h1,h2⟩
  ·exact m l _ hl
 obtain ⟨xs,h1,h2⟩:=hq
 refine ⟨l,xs,rfl,h1,fun p hp kf'=>⟨grow_new hp,.ref p,mset M p (.lst (cutD ds lo hi)),is_ref.mpr rfl,m.lay hp ⟨_,upd_same,(h2.cut lo hi).grow (grow_new hp)⟩,h p (m.fresh hp kf')⟩⟩
theorem rd_I {C:Int->Int->Prop} {g:Int->Int->Int} {i j:Int} (c:C i j) (q:Q (.int (g i j)) M):RD X.K (rI C fun i j=>.int (g i j)) (.int i) (.int j) M Q:=by
 intro H x y kf hx hy m
 rw [is_int] at hx hy;subst hx;subst hy
 exact ⟨i,j,rfl,rfl,c,fun _=>⟨Grow.refl _,_,M,is_int.mpr rfl,m,q⟩⟩
theorem rd_I0 {g:Int->Int->Int} {i j:Int} (q:Q (.int (g i j)) M):RD X.K (rI0 fun i j=>.int (g i j)) (.int i) (.int j) M Q:=by
 intro H x y kf hx hy m
 rw [is_int] at hx hy;subst hx;subst hy
 exact ⟨i,j,rfl,rfl,fun _=>⟨Grow.refl _,_,M,is_int.mpr rfl,m,q⟩⟩
theorem rd_B0 {g:Int->Int->Bool} {i j:Int} (q:Q (.bl (g i j)) M):RD X.K (rI0 fun i j=>.bl (g i j)) (.int i) (.int j) M Q:=by
 intro H x y kf hx hy m
 rw [is_int] at hx hy;subst hx;subst hy
 exact ⟨i,j,rfl,rfl,fun _=>⟨Grow.refl _,_,M,is_bl.mpr rfl,m,q⟩⟩
theorem op_mulB:OpR X (binaryOp .Mult) (rI IntMulOk fun i j=>.int (i * j)):=opI fun _ _ _ _ _ _ _ hc q=>mul_int q hc
def CDivB (i j:Int):Prop:=j≠0/\j.natAbs.log2 < 9000
theorem op_fdivB:OpR X (binaryOp .FloorDiv) (rI CDivB fun i j=>.int (i.fdiv j)):=opI fun _ _ _ _ _ _ _ hc q=>floordiv_int hc.1 q (.inl (PyProof.noPylong_of_log2 hc.2))
def AddD (da db:D) (M:MH) (Q:DK):Prop:=match da,db with
 | .int i,.int j=>Q (.int (i+j)) M
 | .tup xs,.tup ys=>xs≠[]/\xs.length+ys.length<=sizeLine/\Q (.tup (xs++ys)) M
 | .str x,.str y=>x.length+y.length<=sizeLine/\Q (.str (x++y)) M
 | .ref l,.ref k=>∃ xs ys,M l=some (.lst xs)/\M k=some (.lst ys)/\xs.length+ys.length<=sizeLine/\∀ p,M p=none->Q (.ref p) (mset M p (.lst (xs++ys)))
 | _,_=>False
theorem op_addAll:OpR X (binaryOp .Add) (fun x y H Q=>rI0 (fun i j=>.int (i+j)) x y H Q\/(rCatT X.K x y H Q\/((∃ i j,x=.str i/\y=.str j/\i.length+j.length<=sizeLine/\Q (.str (i++j)) H)\/rCat x y H Q))) :=
 op_add.or (op_catT.or (op_add_str.or op_cat))
theorem rd_add {da db:D} (h:AddD da db M Q):RD X.K (fun x y H Q=>rI0 (fun i j=>.int (i+j)) x y H Q\/(rCatT X.K x y H Q\/((∃ i j,x=.str i/\y=.str j/\i.length+j.length<=sizeLine/\Q (.str (i++j)) H)\/rCat x y H Q))) da db M Q:=by
 intro H x y kf hx hy m
 unfold AddD at h
 split at h
 ·rw [is_int] at hx hy;subst hx;subst hy
  exact .inl ⟨_,_,rfl,rfl,fun _=>⟨Grow.refl _,_,M,is_int.mpr rfl,m,h⟩⟩
 ·rename_i xs ys
  obtain ⟨h0,h1,q⟩:=h
  rw [is_tup] at hx hy
  obtain ⟨l,us,rfl,hl,hu⟩:=hx
  obtain ⟨k,ws,rfl,hk,hw⟩:=hy
  refine .inr (.inl ⟨l,k,us,ws,rfl,rfl,SqT.of hl,SqT.of hk,?_,by rw [<- hu.len,<- hw.len];exact h1,?_,?_⟩)
  ·intro z;subst z
   have:=hu.len
   exact h0 (List.eq_nil_of_length_eq_zero (by simpa using this))
  ·intro z _
   subst z
   have hy:ys=[]:=List.eq_nil_of_length_eq_zero (by simpa using hw.len)
   subst hy
   rw [List.append_nil] at q
   exact ⟨Grow.refl _,_,M,is_tup.mpr ⟨l,us,rfl,hl,hu⟩,m,q⟩
  ·intro _ p hp _
   exact ⟨grow_new hp,_,M,is_tup.mpr ⟨p,_,rfl,upd_same,(hu.app hw).grow (grow_new hp)⟩,m.new hp,q⟩
 ·rw [is_str] at hx hy;subst hx;subst hy
  exact .inr (.inr (.inl ⟨_,_,rfl,rfl,h.1,fun _=>⟨Grow.refl _,_,M,is_str.mpr rfl,m,h.2⟩⟩))
 ·rw [is_ref] at hx hy;subst hx;subst hy
  obtain ⟨xs,ys,h1,h2,h3,q⟩:=h
  obtain ⟨us,e1,i1⟩:=m _ _ h1
  obtain ⟨ws,e2,i2⟩:=m _ _ h2
  refine .inr (.inr (.inr ⟨_,_,us,ws,rfl,rfl,e1,e2,by rw [<- i1.len,<- i2.len];exact h3,fun p hp kf'=>⟨grow_new hp,.ref p,mset M p (.lst (xs++ys)),is_ref.mpr rfl,m.lay hp ⟨_,upd_same,(i1.app i2).grow (grow_new hp)⟩,q p (m.fresh hp kf')⟩⟩))
 ·exact h.elim
theorem ev_add (h:EV X G M a fun da Ma=>EV X G Ma b fun db Mb=>AddD da db Mb Q):EV X G M (.BinOp a .Add b pos) Q:=ev_op op_addAll (h.mono fun _ _ h1=>h1.mono fun _ _ h2=>rd_add h2)
theorem ev_sub (h:EV X G M a fun da Ma=>EV X G Ma b fun db Mb=>∃ i j,da=.int i/\db=.int j/\Q (.int (i - j)) Mb):EV X G M (.BinOp a .Sub b pos) Q :=
 ev_op op_sub (h.mono fun _ _ h1=>h1.mono fun _ _ ⟨i,j,e1,e2,q⟩=>by subst e1;subst e2;exact rd_I0 (g:=fun i j=>i - j) q)
theorem ev_mul (h:EV X G M a fun da Ma=>EV X G Ma b fun db Mb=>∃ i j,da=.int i/\db=.int j/\IntMulOk i j/\Q (.int (i * j)) Mb):EV X G M (.BinOp a .Mult b pos) Q :=
 ev_op op_mulB (h.mono fun _ _ h1=>h1.mono fun _ _ ⟨i,j,e1,e2,z,q⟩=>by subst e1;subst e2;exact rd_I (C:=IntMulOk) (g:=fun i j=>i * j) z q)
theorem ev_fdiv (h:EV X G M a fun da Ma=>EV X G Ma b fun db Mb=>∃ i j,da=.int i/\db=.int j/\CDivB i j/\Q (.int (i.fdiv j)) Mb):EV X G M (.BinOp a .FloorDiv b pos) Q :=
 ev_op op_fdivB (h.mono fun _ _ h1=>h1.mono fun _ _ ⟨i,j,e1,e2,z,q⟩=>by subst e1;subst e2;exact rd_I (C:=CDivB) (g:=fun i j=>i.fdiv j) z q)
theorem ev_mod (h:EV X G M a fun da Ma=>EV X G Ma b fun db Mb=>∃ i j,da=.int i/\db=.int j/\j≠0/\Q (.int (i.fmod j)) Mb):EV X G M (.BinOp a .Mod b pos) Q :=
 ev_op op_modN (h.mono fun _ _ h1=>h1.mono fun _ _ ⟨i,j,e1,e2,z,q⟩=>by subst e1;subst e2;exact rd_I (C:=fun _ j=>j≠0) (g:=fun i j=>i.fmod j) z q)
theorem ev_pow (h:EV X G M a fun da Ma=>EV X G Ma b fun db Mb=>∃ i j,da=.int i/\db=.int j/\CPow i j/\Q (.int (i ^ j.toNat)) Mb):EV X G M (.BinOp a .Pow b pos) Q :=
 ev_op op_pow (h.mono fun _ _ h1=>h1.mono fun _ _ ⟨i,j,e1,e2,z,q⟩=>by subst e1;subst e2;exact rd_I (C:=CPow) (g:=fun i j=>i ^ j.toNat) z q)
theorem ev_neg (h:EV X G M a fun da Ma=>∃ i,da=.int i/\Q (.int (-i)) Ma):EV X G M (.UnaryOp .USub a pos) Q :=
 ev_un un_neg (h.mono fun _ Ma ⟨i,e1,q⟩=>by
  subst e1
  intro H x kf hx m
  rw [is_int] at hx;subst hx
  exact ⟨i,rfl,fun _=>⟨Grow.refl _,_,Ma,is_int.mpr rfl,m,q⟩⟩)
def EqD (da db:D) (k:Bool):Prop:=match da,db with
 | .int i,.int j=>k=decide (i=j)
 | .bl i,.bl j=>k=decide (i=j)
 | .str i,.str j=>k=decide (i=j)
 | _,_=>False
theorem eqD_val {H:Hp} {da db:D} {k:Bool} {x y:V} (h:EqD da db k) (hx:Is H da x) (hy:Is H db y):scal x y=true/\k=decide (x=y):=by
 unfold EqD at h
 split at h
 ·rw [is_int] at hx hy;subst hx;subst hy;subst h
  exact ⟨rfl,by simp⟩
 ·rw [is_bl] at hx hy;subst hx;subst hy;subst h
  exact ⟨rfl,by simp⟩
 ·rw [is_str] at hx hy;subst hx;subst hy;subst h
  exact ⟨rfl,by simp⟩
 ·exact h.elim
theorem tv_lt {Qb:Bool->MH->Prop} (h:EV X G M a fun da Ma=>EV X G Ma b fun db Mb=>∃ i j,da=.int i/\db=.int j/\Qb (decide (i < j)) Mb):TV X G M (.Compare a [.Lt] [b] pos) Qb :=
 tv_cmp op_lt (nomark _) (h.mono fun _ _ h1=>h1.mono fun _ _ ⟨i,j,e1,e2,q⟩=>by subst e1;subst e2;exact rd_B0 (g:=fun i j=>decide (i < j)) ⟨_,rfl,q⟩)
theorem tv_gt {Qb:Bool->MH->Prop} (h:EV X G M a fun da Ma=>EV X G Ma b fun db Mb=>∃ i j,da=.int i/\db=.int j/\Qb (decide (j < i)) Mb):TV X G M (.Compare a [.Gt] [b] pos) Qb :=
 tv_cmp op_gt (nomark _) (h.mono fun _ _ h1=>h1.mono fun _ _ ⟨i,j,e1,e2,q⟩=>by subst e1;subst e2;exact rd_B0 (g:=fun i j=>decide (j < i)) ⟨_,rfl,q⟩)
theorem ev_callB {x:Str} {p:Pos} {id:String} {r:List V->Hp->VK->Prop} (hc:CallR X (.builtin id) r) (hm:X.mg x=none) (hv:bootBuiltins x=some (.builtin id)) (h:AV X G M (e :: es) fun ds M1=>RC X.K r ds M1 Q) (hg:Gl X x:=by rfl)
  (hn:x ≠ "__name__" := by decide) (hdb:(x == ("__debug__" : Str))=false:=by decide) (he:starEach (e :: es) X.env=(false,eval e X.env) :: starEach es X.env:=by rfl) (hpl:(backTo pos (starEach es X.env)).any (·.1)=false:=by rfl) :
  EV X G M (.Call (.Name x p) (e :: es) [] pos) Q:=by
 intro pins s σ H I R
 refine wpAny_Call_Name_kw (ld_blt I hg hm hv ?_ hn hdb)
 exact PyProof.Rows.callWith_builtin1 (thn (h pos pins s σ H I R) fun us s1 ⟨vs,H1,ds,M1,I1,r1,g1,i1,R1,q1⟩ =>
  thn (hc pins s1 σ H1 vs us _ I1 r1 (q1 H1 vs (kf_of I1) i1 R1.mem)) fun w s2 h2=>rd_fin g1 R1 h2) he hpl
theorem ev_callTy {x:Str} {p:Pos} {T:String} {r:List V->Hp->VK->Prop} (hc:CallR X (.type T) r) (hm:X.mg x=none) (hv:bootBuiltins x=some (.type T)) (h:AV X G M (e :: es) fun ds M1=>RC X.K r ds M1 Q) (hg:Gl X x:=by rfl)
  (hn:x ≠ "__name__" := by decide) (hdb:(x == ("__debug__" : Str))=false:=by decide) (he:starEach (e :: es) X.env=(false,eval e X.env) :: starEach es X.env:=by rfl) (hpl:(backTo pos (starEach es X.env)).any (·.1)=false:=by rfl) :
  EV X G M (.Call (.Name x p) (e :: es) [] pos) Q:=by
 intro pins s σ H I R
 refine wpAny_Call_Name_kw (ld_blt I hg hm hv ?_ hn hdb)
 exact PyProof.Rows.callWith_type1 (thn (h pos pins s σ H I R) fun us s1 ⟨vs,H1,ds,M1,I1,r1,g1,i1,R1,q1⟩ =>
  thn (hc pins s1 σ H1 vs us _ I1 r1 (q1 H1 vs (kf_of I1) i1 R1.mem)) fun w s2 h2=>rd_fin g1 R1 h2) he hpl
theorem isl1 {H:Hp} {d:D} {vs:List V} (h:IsL H [d] vs):∃ v,vs=[v]/\Is H d v:=by
 rw [isl_cons] at h
 obtain ⟨x,r,e,h1,h2⟩:=h
 rw [isl_nil] at h2;subst h2
 exact ⟨x,e,h1⟩
theorem isl2 {H:Hp} {d d':D} {vs:List V} (h:IsL H [d,d'] vs):∃ v v',vs=[v,v']/\Is H d v/\Is H d' v':=by
 rw [isl_cons] at h
 obtain ⟨x,r,e,h1,h2⟩:=h
 obtain ⟨y,rfl,h3⟩:=isl1 h2
 exact ⟨x,y,e,h1,h3⟩
theorem AV.mono {Qa Qb:List D->MH->Prop} (h:AV X G M es Qa) (k:∀ ds M',Qa ds M'->Qb ds M'):AV X G M es Qb:=fun pos pins s σ H I R =>
 thn (h pos pins s σ H I R) fun us s1 ⟨vs,H1,ds,M1,I1,r1,g1,i1,R1,q1⟩=>⟨vs,H1,ds,M1,I1,r1,g1,i1,R1,k _ _ q1⟩
theorem bootAbs:bootBuiltins "abs" = some (.builtin "abs"):=by decide +kernel
theorem bootMin:bootBuiltins "min" = some (.builtin "min"):=by decide +kernel
theorem bootLen:bootBuiltins "len" = some (.builtin "len"):=by decide +kernel
theorem bootIsi:bootBuiltins "isinstance" = some (.builtin "isinstance"):=by decide +kernel
theorem bootTuple:bootBuiltins "tuple" = some (.type "tuple"):=by decide +kernel
theorem ev_abs {p:Pos} (hm:X.mg "abs" = none) (h:AV X G M [e] fun ds M1=>∃ i:Int,ds=[.int i]/\Q (.int (if i < 0 then -i else i)) M1) (hg:Gl X "abs" := by rfl) (he:SeX X e:=by rfl) (hpl:NpX X pos:=by rfl):EV X G M (.Call (.Name "abs" p) [e] [] pos) Q :=
 ev_callB call_abs hm bootAbs (h.mono fun ds M1 ⟨i,e1,q⟩=>fun H xs kf hx m=>by
  subst e1
  obtain ⟨v,rfl,hv⟩:=isl1 hx
  rw [is_int] at hv;subst hv
  exact ⟨i,rfl,fun _=>⟨Grow.refl _,_,M1,is_int.mpr rfl,m,q⟩⟩) hg (by decide) (by decide) he hpl
theorem ev_min2 {p:Pos} {e2:Expr} (hm:X.mg "min" = none) (hc:X.calm=true) (h:AV X G M [e,e2] fun ds M1=>∃ i j:Int,ds=[.int i,.int j]/\Q (.int (if j < i then j else i)) M1) (hg:Gl X "min" := by rfl) (he:starEach [e,e2] X.env=(false,eval e X.env) :: starEach [e2] X.env:=by rfl) (hpl:(backTo pos (starEach [e2] X.env)).any (·.1)=false:=by rfl):EV X G M (.Call (.Name "min" p) [e,e2] [] pos) Q :=
 ev_callB (call_min2 hc) hm bootMin (h.mono fun ds M1 ⟨i,j,e1,q⟩=>fun H xs kf hx m=>by
  subst e1
  obtain ⟨v,w,rfl,hv,hw⟩:=isl2 hx
  rw [is_int] at hv hw;subst hv;subst hw
  exact ⟨i,j,rfl,fun _=>⟨Grow.refl _,_,M1,is_int.mpr rfl,m,q⟩⟩) hg (by decide) (by decide) he hpl
def LenD (d:D) (M:MH) (n:Nat):Prop:=match d with
 | .tup ds=>n=ds.length
 | .ref a=>(∃ ds,M a=some (.lst ds)/\n=ds.length)\/(∃ ds,M a=some (.ro ds)/\n=ds.length)
 | _=>False
theorem ev_len {p:Pos} (hm:X.mg "len" = none) (h:AV X G M [e] fun ds M1=>∃ d n,ds=[d]/\LenD d M1 n/\Q (.int (n:Nat)) M1) (hg:Gl X "len" := by rfl) (he:SeX X e:=by rfl) (hpl:NpX X pos:=by rfl):EV X G M (.Call (.Name "len" p) [e] [] pos) Q :=
 ev_callB call_len_seq hm bootLen (h.mono fun ds M1 ⟨d,n,e1,hl,q⟩=>fun H xs kf hx m=>by
  subst e1
  obtain ⟨v,rfl,hv⟩:=isl1 hx
  cases d with
  | tup ds =>
   rw [is_tup] at hv
   obtain ⟨a,ys,rfl,h1,h2⟩:=hv
   have e2:n=ds.length:=hl
   exact ⟨a,ys,rfl,.inr (SqT.of h1),fun _=>⟨Grow.refl _,.int n,M1,is_int.mpr (by rw [e2,h2.len]),m,q⟩⟩
  | ref a =>
   rw [is_ref] at hv;subst hv
   rcases hl with ⟨ds,h1,e2⟩ | ⟨ds,h1,e2⟩
   ·obtain ⟨ys,h3,h4⟩:=m a _ h1
    exact ⟨a,ys,rfl,.inl (SqL.of h3),fun _=>⟨Grow.refl _,.int n,M1,is_int.mpr (by rw [e2,h4.len]),m,q⟩⟩
   ·obtain ⟨ys,h3,h4⟩:=m a _ h1
    exact ⟨a,ys,rfl,.inl h3,fun _=>⟨Grow.refl _,.int n,M1,is_int.mpr (by rw [e2,h4.len]),m,q⟩⟩
  | non=>exact hl.elim
  | bl _=>exact hl.elim
  | int _=>exact hl.elim
  | str _=>exact hl.elim
  | ty _=>exact hl.elim) hg (by decide) (by decide) he hpl
def IsDv (da db:D) (k:Bool):Prop:=match da,db with
 | .bl i,.bl j=>k=(i == j)
 | .non,.non=>k=true
 | .bl _,.non=>k=false
 | .int _,.non=>k=false
 | .str _,.non=>k=false
 | .tup _,.non=>k=false
 | .ref _,.non=>k=false
 | _,_=>False
theorem isD_val {H:Hp} {da db:D} {k:Bool} {x y:V} (h:IsDv da db k) (hx:Is H da x) (hy:Is H db y):(∃ i j,x=.bl i/\y=.bl j/\k=(i == j))\/(y=.non/\k=decide (x=.non)):=by
 unfold IsDv at h
 split at h
 ·rw [is_bl] at hx hy;subst hx;subst hy;subst h;exact .inl ⟨_,_,rfl,rfl,rfl⟩
 ·rw [is_non] at hx hy;subst hx;subst hy;subst h;exact .inr ⟨rfl,rfl⟩
 ·rw [is_bl] at hx;rw [is_non] at hy;subst hx;subst hy;subst h;exact .inr ⟨rfl,by simp⟩
 ·rw [is_int] at hx;rw [is_non] at hy;subst hx;subst hy;subst h;exact .inr ⟨rfl,by simp⟩
 ·rw [is_str] at hx;rw [is_non] at hy;subst hx;subst hy;subst h;exact .inr ⟨rfl,by simp⟩
 ·rw [is_tup] at hx;rw [is_non] at hy;obtain ⟨a,xs,rfl,_⟩:=hx;subst hy;subst h;exact .inr ⟨rfl,by simp⟩
 ·rw [is_ref] at hx;rw [is_non] at hy;subst hx;subst hy;subst h;exact .inr ⟨rfl,by simp⟩
 ·exact h.elim
end
abbrev SpD:=List D->MH->DK->Prop
def liftSp (K:PySem.W.Frag) (sp:SpD):Sp:=fun vs H Q _=>∃ ds M Qd,IsL H ds vs/\MemOk K M H/\sp ds M Qd/\∀ v H' d M',Grow H H'->Is H' d v->MemOk K M' H'->Qd d M'->Q v H'
structure Cal (P:Program) (w:World) (K:PySem.W.Frag) (mg:Str->Option Value) (base:Heap) (k:Nat) (x:Str) (sp:SpD):Prop where
 ex:∃ (f:Addr) (fd:FuncData) (ps:List Str),FnOk P w K mg base CX0 k f fd ps (liftSp K sp)/\mg x=some (.ref f)/\PySem.W.keepIn K (.ref f)=true/\Binds K fd ps []
section
variable {X:Cx} {G:Ga} {M:MH} {a b c e:Expr} {es rest:List Expr} {pos:Pos} {Q:DK}
theorem run_fnD {k:Nat} {f:Addr} {fd:FuncData} {ps:List Str} {sp:SpD} {pins:List (Addr × Obj)} {σ:St} {H0 H:Hp} {s:Shared} {us:List Value} {vs:List V} {ds:List D} (F:FnOk X.prog X.w X.K X.mg X.base CX0 k f fd ps (liftSp X.K sp)) (hr:Room k X.A) (hb:Binds X.K fd ps [])
  (I:Inv X pins σ H s) (R:Rel X G M σ H) (g0:Grow H0 H) (r:Vals vs us) (i:IsL H ds vs) (h:sp ds M Q):wpAny (model X.prog X.w) X.A (call (.ref f) us) (EPD X pins σ G H0 Q) X.xe s:=by
 have h':liftSp X.K sp (vs++[]) H (fun v H'=>∃ d M',Grow H H'/\Is H' d v/\MemOk X.K M' H'/\Q d M') E0 :=
  ⟨ds,M,Q,by rw [List.append_nil];exact i,R.mem,h,fun v H' d M' g i m q=>⟨d,M',g,i,m,q⟩⟩
 exact thn (run_fn (dvs:=[]) (ds:=[]) F hr hb .nil pass0 I r h') fun u s' ⟨v,H',I',r',d,M',g,i',m,q⟩=>⟨v,H',d,M',I',r',g0.trans g,i',R.to g m,q⟩
theorem ev_call {k:Nat} {x:Str} {p:Pos} {sp:SpD} (C:Cal X.prog X.w X.K X.mg X.base k x sp) (hr:Room k X.A) (h:AV X G M (e :: es) fun ds M1=>sp ds M1 Q) (hg:Gl X x:=by rfl) (hdb:(x == ("__debug__" : Str))=false:=by decide)
  (he:starEach (e :: es) X.env=(false,eval e X.env) :: starEach es X.env:=by rfl) (hpl:(backTo pos (starEach es X.env)).any (·.1)=false:=by rfl):EV X G M (.Call (.Name x p) (e :: es) [] pos) Q:=by
 intro pins s σ H I R
 obtain ⟨f,fd,ps,F,hm,hk,hb⟩:=C.ex
 refine wpAny_Call_Name_kw (ld_glob I hg hm ?_ hdb)
 refine PySem.W.callWith_K (h₀:=X.base) I.ok.mod.kin hk (thn (h pos pins s σ H I R) fun us s1 ⟨vs,H1,ds,M1,I1,r1,g1,i1,R1,q1⟩=>⟨I1.kIn,?_⟩) he hpl
 exact run_fnD F hr hb I1 R1 g1 r1 i1 q1
variable {st:Stmt} {sts:List Stmt} {E:EndsD}
theorem let_X {X:Cx} {G:Ga} {M:MH} {sts:List Stmt} {E:EndsD} (h:let Y:=X;EXs Y G M sts E):EXs X G M sts E:=h
theorem let_E {X:Cx} {G:Ga} {M:MH} {sts:List Stmt} {E:EndsD} (h:let F:=E;EXs X G M sts F):EXs X G M sts E:=h
theorem exs_nil (q:E.nx G M):EXs X G M [] E:=fun pins s σ H I R=>wpAny_execs_nil ⟨σ,H,G,M,I,Grow.refl _,R,q⟩
theorem exs_cons (h:EX X G M st { E with nx:=fun G' M'=>EXs X G' M' sts E }):EXs X G M (st :: sts) E:=by
 intro pins s σ H I R
 refine wpAny_execs_cons (thn (h pins s σ H I R) fun f s1 q=>?_)
 cases f with
 | next =>
  obtain ⟨σ',H',G',M',I',g',R',q⟩:=q
  exact thn (q pins s1 σ' H' I' R') fun f s2 h2=>h2.grow g'
 | ret v=>exact q
 | brk=>exact q
 | cont=>exact q
theorem exs_one (h:EX X G M st E):EXs X G M [st] E:=by
 intro pins s σ H I R
 refine wpAny_execs_cons (thn (h pins s σ H I R) fun f s1 q=>?_)
 cases f with
 | next=>exact wpAny_execs_nil q
 | ret v=>exact q
 | brk=>exact q
 | cont=>exact q
theorem ex_ret (h:EV X G M e E.rt):EX X G M (.Return (some e) pos) E:=fun pins s σ H I R =>
 wpAny_Return_some (thn (h pins s σ H I R) fun v s1 ⟨x,H1,d,M1,I1,r1,g1,i1,R1,q1⟩=>⟨x,σ,H1,d,M1,I1,r1,g1,i1,R1.mem,q1⟩)
theorem ex_expr (h:EV X G M e fun _ M1=>E.nx G M1) (hs:swapsWith e none pos.line X.env=pure false:=by rfl):EX X G M (.Expr e pos) E:=fun pins s σ H I R =>
 wpAny_Expr_any (thn (h pins s σ H I R) fun v s1 ⟨x,H1,d,M1,I1,r1,g1,i1,R1,q1⟩=>⟨σ,H1,G,M1,I1,g1,R1,q1⟩) I.quiet hs
theorem ex_if {A B:List Stmt} (h:TV X G M c fun k M1=>if k=true then EXs X G M1 A E else EXs X G M1 B E):EX X G M (.If c A B pos) E:=by
 intro pins s σ H I R
 refine wpAny_If (thn (h pins s σ H I R) fun d s1 ⟨H1,M1,I1,g1,R1,q1⟩=>?_)
 cases d with
 | true=>exact thn (q1 pins s1 σ H1 I1 R1) fun f s2 h2=>h2.grow g1
 | false=>exact thn (q1 pins s1 σ H1 I1 R1) fun f s2 h2=>h2.grow g1
theorem ex_set (i:Nat) {x:Str} {pos':Pos} (hN:X.N.Nodup) (h:EV X G M e fun d M1=>E.nx (G.set i (some d)) M1) (hi:X.N[i]?=some x:=by rfl) (hx:Loc X.env.scope x:=by exact Or.inl rfl) (hs:swapsWith e (some (.Name x pos')) pos.line X.env=pure false:=by rfl)
  (hf:X.fn x=true\/X.env.scope.names.lookup x=some .local:=by first | exact .inl rfl | exact .inr rfl | assumption):EX X G M (.Assign [.Name x pos'] e pos) E:=by
 intro pins s σ H I R
 refine wpAny_Assign_Name (thn (h pins s σ H I R) fun v s1 ⟨y,H1,d,M1,I1,r1,g1,i1,R1,q1⟩=>?_) hs
 have hl:i < σ.length:=by rw [I1.len];exact (List.getElem?_eq_some_iff.mp hi).1
 exact store_ok I1 hN hi hx r1 (fun s2 I2=>⟨_,H1,_,M1,I2,g1,R1.set hl i1,q1⟩) hf
theorem ex_while {body:List Stmt} (Iv:Ga->MH->Prop) (μ:Ga->MH->Nat) (hp:PassesOwn (model X.prog X.w) X.A X.env X.xe) (h0:Iv G M)
  (step:∀ G M,Iv G M->TV X G M c fun k M1=>if k=true then EXs X G M1 body { nx:=fun G' M'=>Iv G' M'/\μ G' M' < μ G M,ct:=fun G' M'=>Iv G' M'/\μ G' M' < μ G M,bk:=E.nx,rt:=E.rt } else E.nx G M1) :
  EX X G M (.While c body [] pos) E:=by
 intro pins s σ H I R
 refine wpAny_While (codeAny_whileLoop (fun n s'=>∃ σ' H' G' M',Inv X pins σ' H' s'/\Grow H H'/\Rel X G' M' σ' H'/\Iv G' M'/\n=μ G' M') ?_ (μ G M) ⟨σ,H,G,M,I,Grow.refl _,R,h0,rfl⟩)
 rintro n s1 ⟨σ1,H1,G1,M1,I1,g1,R1,w1,rfl⟩
 refine wpAny_passesOwn hp (thn (step G1 M1 w1 pins s1 σ1 H1 I1 R1) fun k s2 ⟨H2,M2,I2,g2,R2,q2⟩=>?_)
 cases k with
 | true =>
  rw [if_pos rfl]
  refine wpAny_passesOwn hp (thn (q2 pins s2 σ1 H2 I2 R2) fun f s3 q3=>?_)
  cases f with
  | next =>
   obtain ⟨σ3,H3,G3,M3,I3,g3,R3,w3,lt⟩:=q3
   exact ⟨_,lt,σ3,H3,G3,M3,I3,(g1.trans g2).trans g3,R3,w3,rfl⟩
  | cont =>
   obtain ⟨σ3,H3,G3,M3,I3,g3,R3,w3,lt⟩:=q3
   exact ⟨_,lt,σ3,H3,G3,M3,I3,(g1.trans g2).trans g3,R3,w3,rfl⟩
  | brk=>exact SPD.grow (f:=.brk) (E:={ E with bk:=E.nx }) (g1.trans g2) q3
  | ret v=>exact SPD.grow (f:=.ret v) (E:=E) (g1.trans g2) q3
 | false =>
  rw [if_neg Bool.false_ne_true]
  exact wpAny_execs_nil ⟨σ1,H2,G1,M2,I2,g1.trans g2,R2,q2⟩
def GV (X:Cx) (G:Ga) (M:MH) (tg:Expr) (d:D) (Q:Ga->MH->Prop):Prop :=
 ∀ (pins:List (Addr × Obj)) (s:Shared) (σ:St) (H:Hp) (v:V) (u:Value),Inv X pins σ H s->Rel X G M σ H->RelV v u->Is H d v ->
  wpAny (model X.prog X.w) X.A (assign tg X.env u) (fun _ s'=>∃ σ' H' G' M',Inv X pins σ' H' s'/\Grow H H'/\Rel X G' M' σ' H'/\Q G' M') X.xe s
theorem gv_name (i:Nat) {x:Str} {d:D} {Qg:Ga->MH->Prop} (hN:X.N.Nodup) (q:Qg (G.set i (some d)) M) (hi:X.N[i]?=some x:=by rfl) (hx:Loc X.env.scope x:=by exact Or.inl rfl) (hf:X.fn x=true\/X.env.scope.names.lookup x=some .local:=by first | exact .inl rfl | exact .inr rfl | assumption) :
  GV X G M (.Name x pos) d Qg:=by
 intro pins s σ H v u I R r i1
 have hl:i < σ.length:=by rw [I.len];exact (List.getElem?_eq_some_iff.mp hi).1
 exact wpAny_assign_Name (store_ok I hN hi hx r (fun s' I'=>⟨_,H,_,M,I',Grow.refl _,R.set hl i1,q⟩) hf)
def GVs (X:Cx) (G:Ga) (M:MH) (ts:List Expr) (ds:List D) (Q:Ga->MH->Prop):Prop :=
 ∀ (pins:List (Addr × Obj)) (s:Shared) (σ:St) (H:Hp) (vs:List V) (us:List Value),Inv X pins σ H s->Rel X G M σ H->Vals vs us->IsL H ds vs ->
  wpAny (model X.prog X.w) X.A (assignInOrder ((assignEach ts X.env).map (·.2)) us) (fun _ s'=>∃ σ' H' G' M',Inv X pins σ' H' s'/\Grow H H'/\Rel X G' M' σ' H'/\Q G' M') X.xe s
theorem gvs_nil {Qg:Ga->MH->Prop} (q:Qg G M):GVs X G M [] [] Qg:=by
 intro pins s σ H vs us I R r i
 rw [isl_nil] at i;subst i
 cases r
 exact assignInOrder_nil ⟨σ,H,G,M,I,Grow.refl _,R,q⟩
theorem gvs_cons {tg:Expr} {ts:List Expr} {d:D} {ds:List D} {Qg:Ga->MH->Prop} (h:GV X G M tg d fun G1 M1=>GVs X G1 M1 ts ds Qg) (hs:(assignEach (tg :: ts) X.env).map (·.2)=assign tg X.env :: (assignEach ts X.env).map (·.2):=by rfl):GVs X G M (tg :: ts) (d :: ds) Qg:=by
 intro pins s σ H vs us I R r i
 rw [isl_cons] at i
 obtain ⟨x,xs,rfl,i1,i2⟩:=i
 cases r with
 | cons r rr =>
  rw [hs]
  refine assignInOrder_cons (thn (h pins s σ H _ _ I R r i1) fun _ s1 ⟨σ1,H1,G1,M1,I1,g1,R1,q1⟩=>?_)
  exact thn (q1 pins s1 σ1 H1 _ _ I1 R1 rr (i2.grow g1)) fun _ s2 ⟨σ2,H2,G2,M2,I2,g2,R2,q2⟩=>⟨σ2,H2,G2,M2,I2,g1.trans g2,R2,q2⟩
theorem gv_tup {ts:List Expr} {k:Nat} {ds:List D} {Qg:Ga->MH->Prop} (hc:X.calm=true) (h:GVs X G M ts ds Qg) (hn:(assignEach ts X.env).length=ds.length:=by rfl) (hst:(assignEach ts X.env).findIdx? (·.1)=none:=by rfl):GV X G M (.Tuple ts k pos) (.tup ds) Qg:=by
 intro pins s σ H v u I R r i
 rw [is_tup] at i
 obtain ⟨a,xs,rfl,h1,h2⟩:=i
 cases r
 obtain ⟨its,rv,ht,hz⟩:=I.tuple (SqT.of h1)
 refine assign_Tuple_tuple (I.ok.hd hc) ht (by simp [hn,h2.len,rv.length]) hst fun h' hx=>?_
 have I1:Inv X pins σ H { s with heap:=h' }:=I.kept (t':=s.toks) fun b o e=>hx b o (Nat.ne_of_lt (Heap.lt_size e)) e
 exact h pins _ σ H xs _ I1 R (by simpa using rv) h2
theorem ex_asg {tg:Expr} (h:EV X G M e fun d M1=>GV X G M1 tg d E.nx) (hs:swapsWithSole [tg] e pos.line X.env=pure false:=by rfl) (hw:swappedStores [tg] e X.env=pure none:=by rfl)
  (h1:(assignEach [tg] X.env).map (·.2)=[assign tg X.env]:=by rfl):EX X G M (.Assign [tg] e pos) E:=by
 intro pins s σ H I R
 refine wpAny_Assign_stores (thn (h pins s σ H I R) fun v s1 ⟨x,H1,d,M1,I1,r1,g1,i1,R1,q1⟩=>?_) hs hw
 rw [h1]
 exact thn (q1 pins s1 σ H1 x v I1 R1 r1 i1) fun _ s2 ⟨σ2,H2,G2,M2,I2,g2,R2,q2⟩=>⟨σ2,H2,G2,M2,I2,g1.trans g2,R2,q2⟩
theorem ex_for {tg iter:Expr} {body:List Stmt} {wi:TI} (hp:PassesOwn (model X.prog X.w) X.A X.env X.xe) (hc:X.calm=true) (hi:PI X tg iter wi)
  (h:∀ σ H,KF X.K H->Rel X G M σ H->wi σ H fun J H1=>Grow H H1/\∃ (M1:MH) (n:Nat) (Iv:Nat->Ga->MH->Prop),Rel X G M1 σ H1/\Iv 0 G M1 /\
   ∀ i G' M',i<=n->Iv i G' M'->(i=n->E.nx G' M')/\(∀ σ' H',Grow H1 H'->Rel X G' M' σ' H'->(i=n->J.stop i H')/\(i < n->J.go i H'/\∀ x H2,J.yld i H' x H2->Grow H' H2/\∃ d M2,Is H2 d x/\MemOk X.K M2 H2 /\
    GV X G' M2 tg d fun G3 M3=>EXs X G3 M3 body { nx:=Iv (i+1),ct:=Iv (i+1),bk:=E.nx,rt:=E.rt })))
  (hs:∀ x,foldedSetIterable iter X.env x=pure x:=by intro _;rfl):EX X G M (.For tg iter body [] pos) E:=by
 intro pins s σ H I R
 refine wpAny_For (thn (hi pins s σ H _ I (h σ H (kf_of I) R)) fun v s1 h1=>thn h1 fun itv s2 h2=>?_) hs
 obtain ⟨it,fp,tn,J,H2,e,I2,T,st2,f2,g2,M2,n,Iv,R2,w0,turn⟩:=h2
 subst e
 have stat:∀ {H':Hp},(∀ b∈fp,H' b=none)->∀ b∈fp,FpOk X pins H' b:=fun hn b hb=>⟨hn b hb,(f2 b hb).2⟩
 refine codeAny_forLoop_any (fun m s'=>∃ i σ' H' G' M',Inv X pins σ' H' s'/\Grow H2 H'/\Rel X G' M' σ' H'/\tn i s'.heap/\(∀ b∈fp,H' b=none)/\i<=n/\m=n - i/\Iv i G' M') ?_ n ⟨0,σ,H2,G,M2,I2,Grow.refl _,R2,st2,fun b hb=>(f2 b hb).1,Nat.zero_le _,rfl,w0⟩
 rintro m s3 ⟨i,σ3,H3,G3,M3,I3,g3,R3,st3,fr3,hin,rfl,w3⟩
 obtain ⟨tn1,tn2⟩:=turn i G3 M3 hin w3
 obtain ⟨stop,go⟩:=tn2 σ3 H3 g3 R3
 by_cases hlt:i < n
 ·obtain ⟨go,step⟩:=go hlt
  refine wpAny_passesOwn hp (thn (T.item X rfl rfl rfl hc i pins s3 σ3 H3 X.xe I3 (stat fr3) st3 go) fun r s4 ⟨u,hr,h4⟩=>?_)
  subst hr
  refine wpAny_passesOwn hp (thn h4 fun _ s5 ⟨x,H5,I5,r5,y5,st5,fr5⟩=>?_)
  have I5':=I5.pinned (stat fr5) (T.obj _ _ st5)
  obtain ⟨g5,d,M5,i5,m5,gv⟩:=step x H5 y5
  refine wpAny_passesOwn hp (thn (gv _ s5 σ3 H5 x u I5' (R3.to g5 m5) r5 i5) fun _ s6 ⟨σ6,H6,G6,M6,I6,g6,R6,q6⟩=>?_)
  refine wpAny_passesOwn hp (thn (q6 _ s6 σ6 H6 I6 R6) fun f s7 q7=>?_)
  have gg:Grow H2 H6:=(g3.trans g5).trans g6
  have again:∀ {σ7:St} {H7:Hp} {G7:Ga} {M7:MH},Inv X (pins++pinsAt fp s5.heap) σ7 H7 s7->Grow H6 H7->Rel X G7 M7 σ7 H7->Iv (i+1) G7 M7 ->
    ∃ m,m < n - i/\∃ i σ' H' G' M',Inv X pins σ' H' s7/\Grow H2 H'/\Rel X G' M' σ' H'/\tn i s7.heap/\(∀ b∈fp,H' b=none)/\i<=n/\m=n - i/\Iv i G' M':=fun {σ7 H7 G7 M7} I7 g7 R7 n7=>by
   refine ⟨n - (i+1),by omega,i+1,σ7,H7,G7,M7,I7.unpinned,gg.trans g7,R7,T.keep _ _ _ st5 fun b hb o e=>(I7.pin (b,o) (List.mem_append_right _ (List.mem_append_right _ (mem_pinsAt hb e)))).1,fun b hb=>?_,hlt,rfl,n7⟩
   obtain ⟨o,e,d⟩:=T.obj _ _ st5 b hb
   exact (I7.pin (b,o) (List.mem_append_right _ (List.mem_append_right _ (mem_pinsAt hb e)))).2.1
  cases f with
  | next=>obtain ⟨σ7,H7,G7,M7,I7,g7,R7,n7⟩:=q7;exact again I7 g7 R7 n7
  | cont=>obtain ⟨σ7,H7,G7,M7,I7,g7,R7,n7⟩:=q7;exact again I7 g7 R7 n7
  | brk=>obtain ⟨σ7,H7,G7,M7,I7,g7,R7,q7⟩:=q7;exact ⟨σ7,H7,G7,M7,I7.unpinned,g2.trans (gg.trans g7),R7,q7⟩
  | ret v=>obtain ⟨x7,σ7,H7,d7,M7,I7,r7,g7,i7,R7,q7⟩:=q7;exact ⟨x7,σ7,H7,d7,M7,I7.unpinned,r7,g2.trans (gg.trans g7),i7,R7,q7⟩
 ·have e:i=n:=by omega
  subst e
  refine wpAny_passesOwn hp (thn (T.done X rfl rfl rfl hc i pins s3 σ3 H3 X.xe I3 (stat fr3) st3 (stop rfl)) fun r s4 ⟨hr,I4⟩=>?_)
  subst hr
  exact wpAny_execs_nil ⟨σ3,H3,G3,M3,I4,g2.trans g3,R3,tn1 rfl⟩
end
section
variable {X:Cx} {G:Ga} {M:MH} {a b c e tg iter:Expr} {es rest:List Expr} {body:List Stmt} {pos:Pos} {Q:DK} {E:EndsD}
def tD (X:Cx) (G:Ga) (e:Expr):TE:=fun σ H Q=>∃ M Qd,Rel X G M σ H/\EV X G M e Qd/\∀ v H' d M',KF X.K H'->Grow H H'->Is H' d v->Rel X G M' σ H'->Qd d M'->Q v H'
theorem pe_D:PE X e (tD X G e):=by
 intro pins s σ H Q I ⟨M,Qd,R,h,k⟩
 exact thn (h pins s σ H I R) fun u s' ⟨v,H',d,M',I',r,g,i,R',q⟩=>⟨v,H',I',r,k v H' d M' (kf_of I') g i R' q⟩
def tAD (X:Cx) (G:Ga) (es:List Expr):TA:=fun σ H Q=>∃ M Qd,Rel X G M σ H/\AV X G M es Qd/\∀ vs H' ds M',KF X.K H'->Grow H H'->IsL H' ds vs->Rel X G M' σ H'->Qd ds M'->Q vs H'
theorem pa_D:PA X es (tAD X G es):=by
 intro pos pins s σ H Q I ⟨M,Qd,R,h,k⟩
 exact thn (h pos pins s σ H I R) fun u s' ⟨v,H',d,M',I',r,g,i,R',q⟩=>⟨v,H',I',r,k v H' d M' (kf_of I') g i R' q⟩
theorem ex_for_list (hp:PassesOwn (model X.prog X.w) X.A X.env X.xe) (hc:X.calm=true)
  (h:EV X G M iter fun d M1=>∃ (l:Addr) (ds:List D) (Iv:Nat->Ga->MH->Prop),d=.ref l/\(M1 l=some (.lst ds)\/M1 l=some (.ro ds))/\Iv 0 G M1/\(∀ i G' M',i<=ds.length->Iv i G' M'->M' l=M1 l) /\
   (∀ i x G' M',ds[i]?=some x->Iv i G' M'->GV X G' M' tg x fun G3 M3=>EXs X G3 M3 body { nx:=Iv (i+1),ct:=Iv (i+1),bk:=E.nx,rt:=E.rt })/\(∀ G' M',Iv ds.length G' M'->E.nx G' M'))
  (hs:∀ x,foldedSetIterable iter X.env x=pure x:=by intro _;rfl):EX X G M (.For tg iter body [] pos) E:=by
 refine ex_for hp hc (pi_list (pe_D (G:=G))) (fun σ H kf R=>?_) hs
 refine ⟨M,_,R,h,fun v H' d M' kf' g i R' q=>?_⟩
 obtain ⟨l,ds,Iv,e,hl,h0,keep,step,fin⟩:=q
 subst e
 rw [is_ref] at i;subst i
 have sq:∀ {H2:Hp} {M2:MH},MemOk X.K M2 H2->M2 l=M' l->∃ xs,SqL X.K H2 l xs/\IsL H2 ds xs:=fun {H2 M2} m e=>by
  rcases hl with hl | hl
  ·obtain ⟨xs,h1,h2⟩:=m l _ (e.trans hl);exact ⟨xs,SqL.of h1,h2⟩
  ·exact m l _ (e.trans hl)
 obtain ⟨xs0,hx0,hi0⟩:=sq R'.mem rfl
 refine ⟨l,rfl,⟨xs0,hx0⟩,g,M',ds.length,Iv,R',h0,fun i G2 M2 hin w2=>⟨fun e=>fin G2 M2 (by rw [<- e];exact w2),fun σ2 H2 _ R2=>?_⟩⟩
 obtain ⟨xs,hx,hxi⟩:=sq R2.mem (keep i G2 M2 hin w2)
 have hlen:=hxi.len
 refine ⟨fun e=>⟨xs,hx,by omega⟩,fun hlt=>⟨⟨xs,xs[i]'(by omega),hx,by simp⟩,fun x H3 y=>?_⟩⟩
 obtain ⟨e,y⟩:=y
 subst e
 have e1:=y xs hx
 obtain ⟨d,e2,i2⟩:=hxi.get' e1
 exact ⟨Grow.refl _,d,M2,i2,R2.mem,step i d G2 M2 e2 w2⟩
theorem ex_for_tup (hp:PassesOwn (model X.prog X.w) X.A X.env X.xe) (hc:X.calm=true)
  (h:EV X G M iter fun d M1=>∃ (ds:List D) (Iv:Nat->Ga->MH->Prop),d=.tup ds/\Iv 0 G M1 /\
   (∀ i x G' M',ds[i]?=some x->Iv i G' M'->GV X G' M' tg x fun G3 M3=>EXs X G3 M3 body { nx:=Iv (i+1),ct:=Iv (i+1),bk:=E.nx,rt:=E.rt })/\(∀ G' M',Iv ds.length G' M'->E.nx G' M'))
  (hs:∀ x,foldedSetIterable iter X.env x=pure x:=by intro _;rfl):EX X G M (.For tg iter body [] pos) E:=by
 refine ex_for hp hc (pi_tup (pe_D (G:=G))) (fun σ H kf R=>?_) hs
 refine ⟨M,_,R,h,fun v H' d M' kf' g i R' q=>?_⟩
 obtain ⟨ds,Iv,e,h0,step,fin⟩:=q
 subst e
 rw [is_tup] at i
 obtain ⟨l,xs,rfl,hx,hxi⟩:=i
 have hlen:=hxi.len
 refine ⟨l,rfl,⟨xs,SqT.of hx⟩,g,M',ds.length,Iv,R',h0,fun i G2 M2 hin w2=>⟨fun e=>fin G2 M2 (by rw [<- e];exact w2),fun σ2 H2 g2 R2=>?_⟩⟩
 have hx2:SqT X.K H2 l xs:=SqT.of (g2 _ _ hx)
 refine ⟨fun e=>⟨xs,hx2,by omega⟩,fun hlt=>⟨⟨xs,xs[i]'(by omega),hx2,by simp⟩,fun x H3 y=>?_⟩⟩
 obtain ⟨e,y⟩:=y
 subst e
 have e1:=y xs hx2
 obtain ⟨d,e2,i2⟩:=(hxi.grow g2).get' e1
 exact ⟨Grow.refl _,d,M2,i2,R2.mem,step i d G2 M2 e2 w2⟩
theorem ex_for_range {p:Pos} (hp:PassesOwn (model X.prog X.w) X.A X.env X.xe) (hc:X.calm=true) (hm:X.mg "range" = none)
  (h:AV X G M [e] fun ds M1=>∃ (n:Int) (Iv:Nat->Ga->MH->Prop),ds=[.int n]/\-(2 ^ 62)<=n/\n < 2 ^ 62/\Iv 0 G M1 /\
   (∀ (i:Nat) G' M',i < n.toNat->Iv i G' M'->GV X G' M' tg (.int i) fun G3 M3=>EXs X G3 M3 body { nx:=Iv (i+1),ct:=Iv (i+1),bk:=E.nx,rt:=E.rt })/\(∀ G' M',Iv n.toNat G' M'->E.nx G' M'))
  (hg:Gl X "range" := by rfl) (hse:starEach [e] X.env=[(false,eval e X.env)]:=by rfl) (hs:∀ x,foldedSetIterable (.Call (.Name "range" p) [e] [] pos) X.env x=pure x:=by intro _;rfl) {pos':Pos}:EX X G M (.For tg (.Call (.Name "range" p) [e] [] pos) body [] pos') E:=by
 refine ex_for hp hc (pi_range1 hg hm (pa_D (G:=G)) hse) (fun σ H kf R=>?_) hs
 refine ⟨M,_,R,h,fun vs H' ds M' kf' g i R' q=>?_⟩
 obtain ⟨n,Iv,e,h1,h2,h0,step,fin⟩:=q
 subst e
 obtain ⟨v,rfl,hv⟩:=isl1 i
 rw [is_int] at hv;subst hv
 refine ⟨n,rfl,h1,h2,g,M',n.toNat,Iv,R',h0,fun i G2 M2 hin w2=>⟨fun e=>fin G2 M2 (by rw [<- e];exact w2),fun σ2 H2 _ R2=>⟨fun e=>?_,fun hlt=>⟨hlt,fun x H3 y=>?_⟩⟩⟩⟩
 ·show n.toNat<=i
  omega
 ·obtain ⟨e,y⟩:=y
  subst e;subst y
  refine ⟨Grow.refl _,.int i,M2,is_int.mpr (by simp),R2.mem,step i G2 M2 hlt w2⟩
def startG (N:List Str) (ds:List D):Ga:=ds.map some++List.replicate (N.length - ds.length) none
theorem rel_start {X:Cx} {N:List Str} {ds:List D} {vs:List V} {M:MH} {H:Hp} (i:IsL H ds vs) (m:MemOk X.K M H):Rel X (startG N ds) M (L2.start N vs) H:=by
 refine ⟨fun j d e=>?_,m⟩
 have hl:=i.len
 unfold startG at e
 unfold L2.start
 by_cases hj:j < ds.length
 ·rw [List.getElem?_append_left (by simpa using hj),List.getElem?_map] at e
  cases q:ds[j]? with
  | none=>rw [q] at e;cases e
  | some d' =>
   rw [q] at e
   have e':d'=d:=by simpa using e
   subst e'
   obtain ⟨v,e2,h⟩:=i.get q
   refine ⟨v,?_,h⟩
   rw [List.getElem?_append_left (by simp;omega),List.getElem?_map,e2]
   rfl
 ·rw [List.getElem?_append_right (by simpa using hj),List.getElem?_replicate] at e
  split at e<;>cases e
end
section
variable {P:Program} {w:World} {K:PySem.W.Frag} {mg:Str->Option Value} {base:Heap}
theorem fn_D {x qual:Str} {st:Stmt} {f:Addr} {fd:FuncData} {N ps:List Str} {k:Nat} {sp:SpD} (F:Fun K x qual st f fd) (S:FnScope N ps (defScope st)) (len:∀ ds M Q,sp ds M Q->ds.length=ps.length)
  (hbody:∀ (cdv:Value) (A:Around) (outer:List Env) (s:Shared) (H:Hp) (EE:XK) (ds:List D) (M:MH) (Q:DK),Room k (A.deeper (envOfC qual (defScope st) s.heap.objs.size f cdv))->sp ds M Q ->
   EXs (cxOf CX0 P w K mg base N qual (defScope st) f cdv A outer s H EE).nox (startG N ds) M (defBody st) { nx:=fun _ M'=>Q .non M',rt:=Q }):FnOk P w K mg base CX0 (k+1) f fd ps (liftSp K sp):=by
 refine F.ok S (fun vs H Q E h=>?_) (fun cdv A outer s H vs Q E hr h=>?_)
 ·obtain ⟨ds,M,Qd,i,_,h,_⟩:=h
  rw [<- i.len];exact len _ _ _ h
 obtain ⟨ds,M,Qd,i,m,h,k⟩:=h
 have B:=hbody cdv A outer s H E ds M Qd hr h
 refine ⟨fun D σ' H'=>σ'=L2.start N vs/\H'=H/\D.nx=(fun _ H'=>Q .non H')/\D.rt=Q,?_,rfl,rfl,rfl,rfl⟩
 intro pins s' σ' H' D I ⟨e1,e2,e3,e4⟩
 subst e1;subst e2
 refine thn (B pins s' _ _ I (rel_start i m)) fun fl s'' q=>?_
 cases fl with
 | next =>
  obtain ⟨σ2,H2,G2,M2,I2,g2,R2,q2⟩:=q
  refine ⟨σ2,H2,I2,?_⟩
  rw [e3]
  exact k .non H2 .non M2 g2 (is_non.mpr rfl) R2.mem q2
 | brk=>obtain ⟨_,_,_,_,_,_,_,z⟩:=q;exact z.elim
 | cont=>obtain ⟨_,_,_,_,_,_,_,z⟩:=q;exact z.elim
 | ret u =>
  obtain ⟨v,σ2,H2,d,M2,I2,r2,g2,i2,m2,q2⟩:=q
  refine ⟨v,σ2,H2,I2,r2,?_⟩
  rw [e4]
  exact k v H2 d M2 g2 i2 m2 q2
theorem cal_D {x:Str} {st:Stmt} {f:Addr} {fd:FuncData} {ps:List Str} {k:Nat} {sp:SpD} (F:Fun K x x st f fd) (G:FnOk P w K mg base CX0 k f fd ps (liftSp K sp)) (b:Binds K fd ps []) (m:mg x=some (.ref f)):Cal P w K mg base k x sp :=
 ⟨f,fd,ps,G,m,F.kp,b⟩
theorem Cal.mono {j k:Nat} {x:Str} {sp:SpD} (C:Cal P w K mg base j x sp) (h:j<=k):Cal P w K mg base k x sp :=
 let ⟨f,fd,ps,F,m,kp,b⟩:=C.ex;⟨f,fd,ps,F.mono h,m,kp,b⟩
end
theorem compLoop_own {prog:Program} {w:World} {A:Around} {R:Result->Shared->Prop} {s:Shared} {elt target iter:Expr} {ifs:List Expr} {scope:Scope} {pos:Pos} {it acc:Value} {env:Env} (I:Nat->Shared->Prop)
  (turn:∀ n s,I n s->wpAny (model prog w) A (pyNext it) (fun r s1=>match r with
   | none=>R (.ok .next) s1
   | some v=>wpAny (model prog w) A (letOwnedTupleGo target it v) (fun _ s2=>wpAny (model prog w) A (assign target env v) (fun _ s2 =>
     wpAny (model prog w) A (forIn ifs true fun c r=>if r=true then do let ok <- isTrue c env (eval c env);pure (ForInStep.yield ok) else pure (ForInStep.yield r)) (fun ok s3 =>
      if ok=true then wpAny (model prog w) A (eval elt env) (fun x s4 =>
       wpAny (model prog w) A (call (.builtin "list.append") [acc,x]) (fun _ s5=>∃ m,m < n/\I m s5) (fun _ _=>False) s4) (fun _ _=>False) s3
      else ∃ m,m < n/\I m s3) (fun _ _=>False) s2) (fun _ _=>False) s2) (fun _ _=>False) s1) (fun _ _=>False) s)
  (n:Nat) (h:I n s) :
  codeAny (model prog w) A (.compLoop (.ListComp elt [⟨target,iter,ifs,0⟩] scope pos) 0 it acc env) R s:=by
 refine codeAny_loop rfl I (fun n s hI=>?_) n h
 show wpAny _ A ((compTurn (.ListComp elt [⟨target,iter,ifs,0⟩] scope pos) 0 it acc env).onRaise (fun x=>do noteFrame x env;theTreesLotGoes x)) _ _ s
 refine wpAny_noted ?_
 rw [compTurn_list]
 have no:∀ {α:Type} {t:Sem α} {Q:α->Shared->Prop} {E:Value->Shared->Prop} {s:Shared},wpAny (model prog w) A t Q (fun _ _=>False) s->wpAny (model prog w) A t Q E s:=fun h=>wpAny_mono h (fun _ _ x=>x) fun _ _ x=>x.elim
 refine wpAny_bind (wpAny_standAt (wpAny_bind (no (thn (turn n s hI) fun r s1 h1=>?_))))
 cases r with
 | none=>exact wpAny_pure h1
 | some v =>
  refine wpAny_bind (no (thn h1 fun _ s2 h2=>?_))
  refine wpAny_bind (no (thn h2 fun _ s3 h3=>wpAny_bind (no (thn h3 fun ok s4 h4=>?_))))
  cases ok with
  | false=>exact wpAny_pure ⟨rfl,h4⟩
  | true =>
   exact wpAny_bind (wpAny_bind (no (thn h4 fun x s5 h5=>wpAny_bind (no (thn h5 fun _ s6 h6=>wpAny_pure (wpAny_pure ⟨rfl,h6⟩))))))
def compCx (X:Cx) (N:List Str) (scope:Scope) (cl:List (Str × Addr)) (C:Addr) (s:Shared) (H:Hp) (ex:List Addr):Cx :=
 { X with N:=N,s₀:=s,H₀:=H,env:=compEnvC scope cl C X.env,outer:=X.stack,ex:=ex,fn:=fun _=>false,pn:=[] }
structure CompOk (X:Cx) (own:List Str) (js:List Nat) (N:List Str) (scope:Scope) (cl:List (Str × Addr)):Prop where
 clos:closureFor scope X.env=pure cl
 kind:scope.kind=.function
 names:∀ x∈scope.names,x.2=.local->scope.names.lookup x.1=some .local
 nocell:∀ x∈scope.names,x.2≠.cell
 cells:∀ x c,cl.lookup x=some c->X.env.cells.lookup x=some c
 has:∀ x,((relabel scope X.env).names.lookup x=some .cell\/(relabel scope X.env).names.lookup x=some .free)->∃ c,cl.lookup x=some c
 frees:∀ (k j:Nat),js[k]?=some j->∃ x,N[own.length+k]?=some x/\X.N[j]?=some x/\Vis X.env.scope x/\(∀ m h u,Look X.env h m x u->∃ c,cl.lookup x=some c/\h.IsCell c (some u)) /\
  ((relabel scope X.env).names.lookup x=some .cell\/(relabel scope X.env).names.lookup x=some .free)
 len:N.length=own.length+js.length
def compG (own:List Str) (js:List Nat) (G:Ga):Ga:=List.replicate own.length none++js.map fun j=>(G[j]?).getD none
def Sub (G G':Ga):Prop:=∀ (i:Nat) (d:D),G[i]?=some (some d)->G'[i]?=some (some d)
theorem Rel.sub {X:Cx} {G G':Ga} {M:MH} {σ:St} {H:Hp} (R:Rel X G' M σ H) (s:Sub G G'):Rel X G M σ H:=⟨fun i d e=>R.loc i d (s i d e),R.mem⟩
def TVs (X:Cx) (G:Ga) (M:MH) (cs:List Expr) (Q:Bool->MH->Prop):Prop:=match cs with
 | []=>Q true M
 | [c]=>TV X G M c Q
 | _=>False
theorem tvs_run {X:Cx} {G:Ga} {M:MH} {cs:List Expr} {Q:Bool->MH->Prop} (h:TVs X G M cs Q) {pins:List (Addr × Obj)} {s:Shared} {σ:St} {H:Hp} (I:Inv X pins σ H s) (R:Rel X G M σ H) :
  wpAny (model X.prog X.w) X.A (forIn cs true fun c r=>if r=true then do let ok <- isTrue c X.env (eval c X.env);pure (ForInStep.yield ok) else pure (ForInStep.yield r)) (TPD X pins σ G H Q) X.xe s:=by
 unfold TVs at h
 split at h
 ·exact wpAny_tests_nil ⟨H,M,I,Grow.refl _,R,h⟩
 ·exact wpAny_tests_one (h pins s σ H I R)
 ·exact h.elim
section
variable {X:Cx} {G:Ga} {M:MH} {elt tg iter:Expr} {ifs:List Expr} {scope:Scope} {pos:Pos} {Q:DK} {own:List Str} {js:List Nat} {N:List Str} {cl:List (Str × Addr)}
def Walks (K:PySem.W.Frag) (M:MH) (J:It) (H:Hp) (ds:List D):Prop:=∀ H',Grow H H'->MemOk K M H'->(∀ i,i=ds.length->J.stop i H') /\
 ∀ i,i < ds.length->J.go i H'/\∀ x H2,J.yld i H' x H2->Grow H' H2/\(∀ b o,H' b=some o->H2 b=some o)/\MemOk K M H2/\∃ d,ds[i]?=some d/\Is H2 d x
theorem comp_ok (T:CompOk X own js N scope cl) {pins:List (Addr × Obj)} {σ:St} {H:Hp} {s:Shared} {h1:Heap} {tk:Nat} {fp:List Addr} (I:Inv X pins σ H s) (hf:∀ b∈fp,FpOk X pins H b) (ht:∀ b∈fp,∃ o,s.heap.get? b=some o)
  (hn:h1.Ns s.heap.objs.size (fun _=>none)) (hk:∀ b o,s.heap.get? b=some o->h1.get? b=some o) (R:Rel X G M σ H) :
  ∃ σc,Inv (compCx X N scope cl s.heap.objs.size s H fp) [] σc H { s with heap:=h1,toks:=tk }/\Rel (compCx X N scope cl s.heap.objs.size s H fp) (compG own js G) M σc H:=by
 let σc:St:=List.replicate own.length none++js.map fun j=>(σ[j]?).getD none
 have hlow:∀ b∈fp,b < s.heap.objs.size:=fun b hb=>let ⟨o,e⟩:=ht b hb;Heap.lt_size e
 refine ⟨σc,⟨?_,rfl,I.bare,Un.kept hk,?_,?_,?_,?_,?_,I.hok.kept hk,?_⟩,?_⟩
 ·exact {
   mod:=I.ok.mod
   kind:=T.kind
   glob:=I.ok.glob
   blt:=I.ok.blt
   above:=Nat.le_refl _
   inj:=fun x y c h1 h2=>I.ok.inj x y c (T.cells x c h1) (T.cells y c h2)
   has:=fun x hx=>T.has x hx
   cab:=fun x c hx _=>nomatch hx
   hd:=I.ok.hd
   frames:=I.ok.frames
   stk:=.inl rfl
   exf:=fun b hb=>⟨Nat.ne_of_lt (hlow b hb),fun x c e=>(hf b hb).2.2.2.2.1 x c (T.cells x c e)⟩
   bs:=I.bs
   bsz:=Nat.le_trans I.ok.bsz I.sz
   noex:=fun b o e hb=>by
    rcases (hf b hb).2.2.2.1 with z | z
    ·exact I.ok.noex b o e z
    ·exact absurd (Nat.lt_of_lt_of_le (Heap.lt_size (I.ok.bs b o e).1) z) (Nat.lt_irrefl _)
   exfs:=fun b hb z=>by
    rcases List.mem_cons.mp (I.stkSub b z) with e | e
    ·exact (hf b hb).2.1 e
    ·exact (hf b hb).2.2.1 e
   funs:=I.stack
   frf:=I.stkFree }
 ·refine ⟨_,hn,fun i x v e1 e2 e3=>?_⟩
  obtain ⟨m,hm,hl⟩:=I.loc
  have hi:own.length<=i:=by
   refine Nat.le_of_not_lt fun z=>?_
   have e2':(List.replicate own.length none++js.map fun j=>(σ[j]?).getD none)[i]?=some (some v):=e2
   rw [List.getElem?_append_left (by simpa using z),List.getElem?_replicate] at e2'
   split at e2'<;>cases e2'
  have e2':(List.replicate own.length none++js.map fun j=>(σ[j]?).getD none)[i]?=some (some v):=e2
  rw [List.getElem?_append_right (by simpa using hi),List.getElem?_map,List.length_replicate] at e2'
  cases q:js[i - own.length]? with
  | none=>rw [q] at e2';cases e2'
  | some j =>
   rw [q] at e2'
   have e4:(σ[j]?).getD none=some v:=by simpa using e2'
   obtain ⟨y,n1,n2,n3,n4,n5⟩:=T.frees _ _ q
   have e5:own.length+(i - own.length)=i:=by omega
   rw [e5] at n1
   have e6:N[i]?=some x:=e1
   rw [e6] at n1;cases n1
   have e7:σ[j]?=some (some v):=by
    cases z:σ[j]? with
    | none=>rw [z] at e4;cases e4
    | some w=>rw [z] at e4;exact congrArg some e4
   obtain ⟨u,r,l⟩:=hl j x v n2 e7 n3
   obtain ⟨c,c1,c2⟩:=n4 m s.heap u l
   refine ⟨u,r,.inr ⟨n5,c,c1,?_⟩⟩
   obtain ⟨o,ho,hd⟩:=c2
   exact ⟨o,hk _ _ ho,hd⟩
 ·intro x c e
  obtain ⟨v,o,ho,hd⟩:=I.cell x c (T.cells x c e)
  exact ⟨v,o,hk _ _ ho,hd⟩
 ·exact I.hok.fresh (Nat.le_refl _)
 ·exact fun x c e=>I.freeC x c (T.cells x c e)
 ·intro p hp
  exact absurd (show p∈([] : List (Addr × Obj)) from hp) (by simp)
 ·show (List.replicate own.length none++js.map fun j=>(σ[j]?).getD none).length=N.length
  rw [List.length_append,List.length_replicate,List.length_map,T.len]
 ·refine ⟨fun i d e=>?_,R.mem⟩
  unfold compG at e
  have hi:own.length<=i:=by
   refine Nat.le_of_not_lt fun z=>?_
   rw [List.getElem?_append_left (by simpa using z),List.getElem?_replicate] at e
   split at e<;>cases e
  rw [List.getElem?_append_right (by simpa using hi),List.getElem?_map,List.length_replicate] at e
  cases q:js[i - own.length]? with
  | none=>rw [q] at e;cases e
  | some j =>
   rw [q] at e
   have e4:(G[j]?).getD none=some d:=by simpa using e
   have e7:G[j]?=some (some d):=by
    cases z:G[j]? with
    | none=>rw [z] at e4;cases e4
    | some w=>rw [z] at e4;exact congrArg some e4
   obtain ⟨v,v1,v2⟩:=R.loc j d e7
   refine ⟨v,?_,v2⟩
   show (List.replicate own.length none++js.map fun j=>(σ[j]?).getD none)[i]?=some (some v)
   rw [List.getElem?_append_right (by simpa using hi),List.getElem?_map,List.length_replicate,q]
   show some ((σ[j]?).getD none)=some (some v)
   rw [v1];rfl
def Ext (M M':MH):Prop:=∀ a o,M a=some o->M' a=some o
theorem mset_mset {M:MH} {a:Addr} {o u:MO}:mset (mset M a o) a u=mset M a u:=by
 funext b;unfold mset;split<;>rfl
theorem ext_new {M:MH} {a:Addr} {o:MO} (h:M a=none):Ext M (mset M a o):=fun b u e=>mset_old h e
theorem MemOk.ext {K:PySem.W.Frag} {M M':MH} {H:Hp} (m:MemOk K M' H) (e:Ext M M'):MemOk K M H:=fun a o h=>m a o (e a o h)
theorem Inv.unblock {pins:List (Addr × Obj)} {σ σc:St} {H3 H':Hp} {s3 s':Shared} {C:Addr} {h':Heap} {fp:List Addr} (I3:Inv X pins σ H3 s3) (hf:∀ b∈fp,FpOk X pins H3 b) (I':Inv (compCx X N scope cl C s3 H3 fp) [] σc H' s')
  (hC:C=s3.heap.objs.size) (hs:Heap.SameBut C s'.heap h'):Inv X pins σ H' { s' with heap:=h' }:=by
 have ne:∀ b o,s3.heap.get? b=some o->b≠C:=fun b o e=>by rw [hC];exact Nat.ne_of_lt (Heap.lt_size e)
 have B:Un (frs X.stack) fp H3 H' s3.heap s'.heap:=I'.base
 have fC:H' C=none:=I'.free
 refine I3.call' (ch:=fp) I'.os ?_ ?_ I'.bare ?_
 ·exact {
   keep:=fun b o e n h1 h2=>(hs.2 b (ne b o e)).trans (B.keep b o e n h1 h2)
   slot:=fun b o e n h1 h2=>let ⟨sl,q⟩:=B.slot b o e n h1 h2;⟨sl,(hs.2 b (ne b o e)).trans q⟩
   free:=B.free
   there:=fun b o e h2=>let ⟨o',q⟩:=B.there b o e h2;⟨o',(hs.2 b (ne b o e)).trans q⟩
   tups:=B.tups
   frzs:=B.frzs
   tbls:=B.tbls }
 ·intro b u e
  refine (I'.hok b u e).stay (fun c v hc q=>(hs.2 c ?_).trans q) (fun _ q=>q) fun _ _ q=>q
  rintro rfl
  rcases hc with z | z
  ·rw [<- z,fC] at e;cases e
  ·rw [fC] at z;cases z
 ·intro b hb
  obtain ⟨h0,h1,h2,h3,h4,h5⟩:=hf b hb
  exact ⟨h3,h1,h4,h5⟩
def CompT (X:Cx) (G:Ga) (own:List Str) (js:List Nat) (N:List Str) (scope:Scope) (cl:List (Str × Addr)) (tg elt:Expr) (ifs:List Expr) (σ:St) (F:Addr->MH->Prop) (J:It) (H1:Hp):Prop :=
 ∃ (M1:MH) (ds:List D) (Iv:Addr->Nat->List D->MH->Prop),Rel X G M1 σ H1/\(∀ q i acc M' H',Grow H1 H'->MemOk X.K M' H'->Iv q i acc M'->(i=ds.length->J.stop i H')/\(i < ds.length->J.go i H'/\∀ x H2,J.yld i H' x H2->Grow H' H2/\(∀ b o,H' b=some o->H2 b=some o)/\∃ d,ds[i]?=some d/\Is H2 d x))/\(∀ q,M1 q=none->Iv q 0 [] (mset M1 q (.lst []))) /\
  (∀ Y:Cx,(∃ C s H fp,Y=compCx X N scope cl C s H fp)->∀ q i acc M' d,ds[i]?=some d->Iv q i acc M'->M' q=some (.lst acc)->GV Y (compG own js G) M' tg d fun G3 M3=>M3=M'/\Sub (compG own js G) G3/\TVs Y G3 M' ifs fun k M4=>M4=M'/\if k=true then EV Y G3 M' elt fun o M5=>M5 q=some (.lst acc)/\acc.length < sizeLine/\Iv q (i+1) (acc++[o]) (mset M5 q (.lst (acc++[o]))) else Iv q (i+1) acc M') /\
  ∀ q acc M',Iv q ds.length acc M'->M' q=some (.lst acc)->F q M'
theorem comp_core {wi:TI} {Ψ:It->Hp->Prop} {F:Addr->MH->Prop} {use:Option (Value->Sem Unit)} {Qc:Value->Shared->Prop} {p0:Pos} {pins:List (Addr × Obj)} {s:Shared} {σ:St} {H:Hp} (T:CompOk X own js N scope cl) (hxe:X.xe=fun _ _=>False) (hc:X.calm=true) (hi:PI X tg iter wi)
  (hs:∀ x,foldedSetIterable iter X.env x=pure x) (I:Inv X pins σ H s) (h:wi σ H Ψ) (k:∀ J H1,Ψ J H1->Grow H H1/\CompT X G own js N scope cl tg elt ifs σ F J H1)
  (fe:∀ q M' C s3 H3 fp σ' H' s',F q M'->Inv X pins σ H3 s3->(∀ b∈fp,FpOk X pins H3 b)->C=s3.heap.objs.size->Inv (compCx X N scope cl C s3 H3 fp) [] σ' H' s'->Grow H H'->Rel X G M' σ H'->compPost (model X.prog X.w) X.A X.xe use Qc (.ref q) C (.ok .next) s') :
  wpAny (model X.prog X.w) X.A (comprehension (.ListComp elt [⟨tg,iter,ifs,0⟩] scope pos) scope X.env p0 (newList []) false (eval iter X.env) use) Qc X.xe s:=by
 refine wpAny_comprehension_free (use:=use) rfl hs T.clos T.kind T.names (thn (hi pins s σ H _ I h) fun v s1 h1=>thn h1 fun itv s2 h2=>?_)
 obtain ⟨it,fp,tn,J,H2,e,I2,TT,st2,f2,psi⟩:=h2
 obtain ⟨g2,M1,ds,Iv,R2,walks,iv0,block,fin⟩:=k J H2 psi
 subst e
 refine wpAny_newObj_type ?_ (by show 0<=sizeLine;exact Nat.zero_le _)
 have hq:H2 s2.heap.objs.size=none:=I2.hok.fresh (Nat.le_refl _)
 have I3:Inv X pins σ (upd H2 s2.heap.objs.size (.lst [])) { s2 with heap:=s2.heap.push { cls:=.type "list",dict:=none,data:=.seq ([] : List Value).toArray } } :=
  I2.laid (t':=s2.toks) (fun b u e=>Heap.get?_push_of_some _ e) (Nat.le_refl _) ⟨Nat.zero_le _,[],0,.nil,Heap.get?_push_size _ rfl⟩
 have gq:Grow H2 (upd H2 s2.heap.objs.size (.lst [])):=grow_new hq
 have mq:M1 s2.heap.objs.size=none:=R2.mem.fresh hq (kf_of I3)
 have R3:Rel X G (mset M1 s2.heap.objs.size (.lst [])) σ (upd H2 s2.heap.objs.size (.lst [])):=R2.to gq (R2.mem.lay hq ⟨[],upd_same,isl_nil.mpr rfl⟩)
 have f3:∀ b∈fp,FpOk X pins (upd H2 s2.heap.objs.size (.lst [])) b:=fun b hb=>by
  refine ⟨?_,(f2 b hb).2⟩
  rw [upd_ne]
  ·exact (f2 b hb).1
  ·intro z
   obtain ⟨o,e,_⟩:=TT.obj _ _ st2 b hb
   rw [z] at e
   exact absurd (Heap.lt_size e) (Nat.lt_irrefl _)
 have ft:∀ b∈fp,∃ o,(s2.heap.push { cls:=.type "list",dict:=none,data:=.seq ([] : List Value).toArray }).get? b=some o:=fun b hb=>by
  obtain ⟨o,e,_⟩:=TT.obj _ _ st2 b hb
  exact ⟨o,Heap.get?_push_of_some _ e⟩
 have stq:tn 0 (s2.heap.push { cls:=.type "list",dict:=none,data:=.seq ([] : List Value).toArray }):=TT.keep _ _ _ st2 fun b hb o e=>Heap.get?_push_of_some _ e
 generalize s2.heap.objs.size=q at hq I3 gq mq R3 f3 ⊢
 refine wpAny_newFunctionEnv (T.nocell) (by intro y hy;simp at hy) (fun h1 hns1 hsb1=>?_) T.kind
 generalize hH3:upd H2 q (.lst [])=H3 at I3 R3 f3 gq
 generalize hs3:({ s2 with heap:=s2.heap.push { cls:=.type "list",dict:=none,data:=.seq ([] : List Value).toArray } }:Shared)=s3 at I3 hns1 hsb1 ⊢
 have es3:s3.heap=s2.heap.push { cls:=.type "list",dict:=none,data:=.seq ([] : List Value).toArray }:=by rw [<- hs3]
 rw [<- es3] at stq ft
 have hk1:∀ b o,s3.heap.get? b=some o->h1.get? b=some o:=fun b o e=>hsb1.extBut b o (Nat.ne_of_lt (Heap.lt_size e)) (Heap.get?_push_of_some _ e)
 obtain ⟨σc,Ic,Rc⟩:=comp_ok (tk:=s3.toks+([] : List (Str × Value)).length) T I3 f3 ft (by simpa using hns1) hk1 R3
 have stc:tn 0 h1:=TT.keep _ _ _ stq fun b hb o e=>hk1 b o e
 have hC:∃ C,C=s3.heap.objs.size:=⟨_,rfl⟩
 obtain ⟨C,hC⟩:=hC
 rw [<- hC] at Ic Rc
 generalize hY:compCx X N scope cl C s3 H3 fp=Y at Ic Rc
 have blockY:=block Y ⟨C,s3,H3,fp,hY.symm⟩
 have yA:Y.A=X.A:=by rw [<- hY];rfl
 have yp:Y.prog=X.prog:=by rw [<- hY];rfl
 have yw:Y.w=X.w:=by rw [<- hY];rfl
 have yK:Y.K=X.K:=by rw [<- hY];rfl
 have yc:Y.calm=true:=by rw [<- hY];exact hc
 have yx:Y.xe=fun _ _=>False:=by rw [<- hY];exact hxe
 have ye:Y.env=compEnvC scope cl C X.env:=by rw [<- hY];rfl
 have ypn:Y.pn=[]:=by rw [<- hY];rfl
 have yex:Y.ex=fp:=by rw [<- hY];rfl
 have fpY:∀ {H':Hp},(∀ b∈fp,H' b=none)->∀ b∈fp,FpOk Y [] H' b:=fun {H'} hn b hb=>by
  have o1:=Ic.ok.exf b (by rw [yex];exact hb)
  refine ⟨hn b hb,o1.1,Ic.ok.exfs b (by rw [yex];exact hb),.inl (by rw [yex];exact hb),o1.2,fun p hp=>?_⟩
  rw [ypn] at hp;exact absurd hp (by simp)
 have loop:∀ s4:Shared,s4={ s3 with heap:=h1,toks:=s3.toks+([] : List (Str × Value)).length } ->
   codeAny (model X.prog X.w) X.A (.compLoop (.ListComp elt [⟨tg,iter,ifs,0⟩] scope pos) 0 (.ref it) (.ref q) (compEnvC scope cl C X.env)) (compPost (model X.prog X.w) X.A X.xe use Qc (.ref q) C) s4:=by
  rintro s4 rfl
  refine compLoop_own (fun m s'=>∃ i σ' H' acc M',Inv Y [] σ' H' s'/\Grow H3 H'/\Rel Y (compG own js G) M' σ' H'/\M' q=some (.lst acc)/\Iv q i acc M'/\tn i s'.heap/\(∀ b∈fp,H' b=none)/\i<=ds.length/\m=ds.length - i) ?_ ds.length
   ⟨0,σc,H3,[],mset M1 q (.lst []),Ic,Grow.refl _,Rc,mset_same,iv0 q mq,stc,fun b hb=>(f3 b hb).1,Nat.zero_le _,rfl⟩
  rintro m s5 ⟨i,σ5,H5,acc,M5,I5,g5,R5,m5,v5,st5,fr5,hin,rfl⟩
  obtain ⟨wstop,wgo⟩:=walks q i acc M5 H5 (gq.trans g5) (by rw [<- yK];exact R5.mem) v5
  by_cases hlt:i < ds.length
  ·obtain ⟨go,yld⟩:=wgo hlt
   have it5:=TT.item Y yp yw yK yc i [] s5 σ5 H5 (fun _ _=>False) I5 (fpY fr5) st5 go
   rw [yA] at it5
   refine thn it5 fun r s6 ⟨u,hr,h6⟩=>?_
   subst hr
   refine thn h6 fun _ s7 ⟨x,H7,I7,r7,y7,st7,fr7⟩=>?_
   obtain ⟨g7,keep7,d,ed,i7⟩:=yld x H7 y7
   have I7':=I7.pinned (fpY fr7) (TT.obj _ _ st7)
   have R7:Rel Y (compG own js G) M5 σ5 H7:=R5.to g7 fun a o e=>(R5.mem a o e).stay g7 fun u h=>keep7 _ _ h
   have gv:=blockY q i acc M5 d ed v5 m5 _ s7 σ5 H7 x u I7' R7 r7 i7
   rw [yp,yw,yA,yx,ye] at gv
   refine thn gv fun _ s8 ⟨σ8,H8,G8,M8,I8,g8,R8,e8,sub8,tests⟩=>?_
   subst e8
   have back:∀ {σ':St} {H':Hp} {s':Shared},Inv Y ([]++pinsAt fp s7.heap) σ' H' s'->tn (i+1) s'.heap/\∀ b∈fp,H' b=none:=fun {σ' H' s'} I'=>by
    refine ⟨TT.keep _ _ _ st7 fun b hb o e=>(I'.pin (b,o) (List.mem_append_right _ (List.mem_append_right _ (mem_pinsAt hb e)))).1,fun b hb=>?_⟩
    obtain ⟨o,e,_⟩:=TT.obj _ _ st7 b hb
    exact (I'.pin (b,o) (List.mem_append_right _ (List.mem_append_right _ (mem_pinsAt hb e)))).2.1
   have tr:=tvs_run tests I8 R8
   rw [yp,yw,yA,yx,ye] at tr
   refine thn tr fun ok s9 ⟨H9,M9,I9,g9,R9,e9,elt8⟩=>?_
   subst e9
   cases ok with
   | false =>
    rw [if_neg (by decide)]
    rw [if_neg (by decide)] at elt8
    obtain ⟨t1,t2⟩:=back I9
    exact ⟨ds.length - (i+1),by omega,i+1,σ8,H9,acc,_,I9.unpinned,((g5.trans g7).trans g8).trans g9,R9.sub sub8,m5,elt8,t1,t2,hlt,rfl⟩
   | true =>
    rw [if_pos rfl]
    rw [if_pos rfl] at elt8
    have ev:=elt8 _ s9 σ8 H9 I9 R9
    rw [yp,yw,yA,yx,ye] at ev
    refine thn ev fun u9 s10 ⟨v10,H10,o10,M10,I10,r10,g10,i10,R10,e10,ez,eo⟩=>?_
    obtain ⟨xs,hx,hxi⟩:=R10.mem q _ e10
    have hlen:=hxi.len
    have ap:=mt_append (X:=Y) _ s10 σ8 H10 (.ref q) [v10] (.ref q) [u9] (fun _ H'=>H'=upd H10 q (.lst (xs++[v10]))) I10 rfl (.cons r10 .nil) ⟨q,xs,v10,rfl,rfl,hx,by omega,rfl⟩
    rw [yp,yw,yA,yx] at ap
    refine thn ap fun _ s11 ⟨_,H11,I11,_,e11⟩=>?_
    subst e11
    obtain ⟨t1,t2⟩:=back I11
    have nt:∀ ys,H10 q≠some (.tup ys):=fun ys z=>by rw [hx] at z;cases z
    have ga:Grow H10 (upd H10 q (.lst (xs++[v10]))):=grow_upd nt
    have mm:=R10.mem.put (p:=q) (o:=.lst (xs++[v10])) (u:=.lst (acc++[o10])) nt ⟨_,upd_same,(hxi.grow ga).app (isl_cons.mpr ⟨v10,[],rfl,Is.grow ga _ _ i10,isl_nil.mpr rfl⟩)⟩
    exact ⟨ds.length - (i+1),by omega,i+1,σ8,_,acc++[o10],_,I11.unpinned,((((g5.trans g7).trans g8).trans g9).trans g10).trans ga,(R10.to ga mm).sub sub8,mset_same,eo,t1,t2,hlt,rfl⟩
  ·have ei:i=ds.length:=by omega
   subst ei
   have dn:=TT.done Y yp yw yK yc ds.length [] s5 σ5 H5 (fun _ _=>False) I5 (fpY fr5) st5 (wstop rfl)
   rw [yA] at dn
   refine thn dn fun r s6 ⟨hr,I6⟩=>?_
   subst hr
   exact fe q M5 C s3 H3 fp σ5 H5 s6 (fin q acc M5 v5 m5) I3 f3 hC (by rw [hY];exact I6) ((g2.trans gq).trans g5) (R3.to g5 (by rw [<- yK];exact R5.mem))
 have fin0:=codeAny_compStart_list (R:=compPost (model X.prog X.w) X.A X.xe use Qc (.ref q) C) (loop _ rfl) (TT.self _ 0 _ _ _ stc (loop _ rfl))
 rw [hC] at fin0
 exact fin0
theorem ev_compK {wi:TI} (T:CompOk X own js N scope cl) (hxe:X.xe=fun _ _=>False) (hc:X.calm=true) (hi:PI X tg iter wi)
  (h:∀ σ H,KF X.K H->Rel X G M σ H->∃ Ψ,wi σ H Ψ/\∀ J H1,Ψ J H1->Grow H H1/\CompT X G own js N scope cl tg elt ifs σ (fun q=>Q (.ref q)) J H1)
  (hs:∀ x,foldedSetIterable iter X.env x=pure x):EV X G M (.ListComp elt [⟨tg,iter,ifs,0⟩] scope pos) Q:=by
 intro pins s σ H I R
 rw [eval_ListComp]
 obtain ⟨Ψ,h1,h2⟩:=h σ H (kf_of I) R
 refine comp_core T hxe hc hi hs I h1 h2 fun q M' C s3 H3 fp σ' H' s' f I3 f3 hC I6 g R'=>?_
 obtain ⟨mm,hmm,_⟩:=I6.loc
 exact ⟨mm,hmm,fun h' hsb=>⟨.ref q,H',.ref q,_,Inv.unblock I3 f3 I6 hC hsb,rfl,g,is_ref.mpr rfl,R',f⟩⟩
theorem tvs_mono {Y:Cx} {G:Ga} {M:MH} {cs:List Expr} {Q Q':Bool->MH->Prop} (h:TVs Y G M cs Q) (k:∀ k M',Q k M'->Q' k M'):TVs Y G M cs Q':=by
 unfold TVs at h ⊢
 split at h
 ·exact k _ _ h
 ·exact fun pins s σ H I R=>thn (h pins s σ H I R) fun b s' ⟨H',M',I',g,R',q⟩=>⟨H',M',I',g,R',k _ _ q⟩
 ·exact h
theorem gv_mono {Y:Cx} {G:Ga} {M:MH} {tg:Expr} {d:D} {Q Q':Ga->MH->Prop} (h:GV Y G M tg d Q) (k:∀ G' M',Q G' M'->Q' G' M'):GV Y G M tg d Q' :=
 fun pins s σ H v u I R r i=>thn (h pins s σ H v u I R r i) fun _ s2 ⟨σ2,H2,G2,M2,I2,g2,R2,q⟩=>⟨σ2,H2,G2,M2,I2,g2,R2,k _ _ q⟩
theorem pure_block {M1:MH} {ds:List D} {ifs:List Expr} {f:D->D} {pr:D->Bool} (hz:ds.length<=sizeLine)
  (block:∀ Y:Cx,(∃ C s H fp,Y=compCx X N scope cl C s H fp)->∀ M',Ext M1 M'->∀ d∈ds,GV Y (compG own js G) M' tg d fun G3 M3=>M3=M'/\Sub (compG own js G) G3/\TVs Y G3 M' ifs (fun k M4=>M4=M'/\k=pr d)/\(pr d=true->EV Y G3 M' elt fun o M4=>M4=M'/\o=f d)) :
  ∀ Y:Cx,(∃ C s H fp,Y=compCx X N scope cl C s H fp)->∀ q i acc M' d,ds[i]?=some d->(M1 q=none/\M'=mset M1 q (.lst acc)/\acc=((ds.take i).filter pr).map f)->M' q=some (.lst acc)->GV Y (compG own js G) M' tg d fun G3 M3=>M3=M'/\Sub (compG own js G) G3/\TVs Y G3 M' ifs fun k M4=>M4=M'/\if k=true then EV Y G3 M' elt fun o M5=>M5 q=some (.lst acc)/\acc.length < sizeLine/\(M1 q=none/\mset M5 q (.lst (acc++[o]))=mset M1 q (.lst (acc++[o]))/\acc++[o]=((ds.take (i+1)).filter pr).map f) else (M1 q=none/\M'=mset M1 q (.lst acc)/\acc=((ds.take (i+1)).filter pr).map f):=by
 intro Y hY q i acc M' d hd ⟨hq,hM,hacc⟩ mq
 have hi:i < ds.length:=(List.getElem?_eq_some_iff.mp hd).1
 have tk:(ds.take (i+1)).filter pr=(ds.take i).filter pr++(if pr d then [d] else []):=take_succ_filter pr ds i d hd
 have hl:acc.length<=i:=by
  rw [hacc,List.length_map]
  exact Nat.le_trans (List.length_filter_le _ _) (by rw [List.length_take];omega)
 refine gv_mono (block Y hY M' (by rw [hM];exact ext_new hq) d (List.mem_of_getElem? hd)) fun G3 M3 ⟨e1,e2,e3,e4⟩=>⟨e1,e2,tvs_mono e3 fun k M4 ⟨e5,e6⟩=>⟨e5,?_⟩⟩
 subst e6
 cases hp:pr d with
 | true =>
  rw [if_pos rfl]
  refine (e4 hp).mono fun o M5 ⟨e7,e8⟩=>?_
  subst e7;subst e8
  refine ⟨mq,by omega,hq,by rw [hM,mset_mset],?_⟩
  rw [tk,hp,if_pos rfl,List.map_append,<- hacc];rfl
 | false =>
  rw [if_neg (by decide)]
  refine ⟨hq,hM,?_⟩
  rw [tk,hp,if_neg (by decide),List.append_nil];exact hacc
theorem pure_T {J:It} {σ:St} {H1:Hp} {M1:MH} {ds:List D} {f:D->D} {pr:D->Bool} {F:Addr->MH->Prop} (R1:Rel X G M1 σ H1) (walks:Walks X.K M1 J H1 ds) (hz:ds.length<=sizeLine)
  (block:∀ Y:Cx,(∃ C s H fp,Y=compCx X N scope cl C s H fp)->∀ M',Ext M1 M'->∀ d∈ds,GV Y (compG own js G) M' tg d fun G3 M3=>M3=M'/\Sub (compG own js G) G3/\TVs Y G3 M' ifs (fun k M4=>M4=M'/\k=pr d)/\(pr d=true->EV Y G3 M' elt fun o M4=>M4=M'/\o=f d))
  (fin:∀ q,M1 q=none->F q (mset M1 q (.lst ((ds.filter pr).map f)))):CompT X G own js N scope cl tg elt ifs σ F J H1:=by
 refine ⟨M1,ds,fun q i acc M2=>M1 q=none/\M2=mset M1 q (.lst acc)/\acc=((ds.take i).filter pr).map f,R1,fun q i acc M2 H2 g2 m2 v2=>?_,fun q hq=>⟨hq,rfl,by simp⟩,pure_block hz block,fun q acc M2 ⟨h1,h2,h3⟩ _=>by rw [h2,h3,List.take_length];exact fin q h1⟩
 obtain ⟨a,b⟩:=walks H2 g2 (m2.ext (by rw [v2.2.1];exact ext_new v2.1))
 exact ⟨a i,fun hlt=>⟨(b i hlt).1,fun x H3 y=>let ⟨c,d,_,e⟩:=(b i hlt).2 x H3 y;⟨c,d,e⟩⟩⟩
theorem ev_comp {wi:TI} (T:CompOk X own js N scope cl) (hxe:X.xe=fun _ _=>False) (hc:X.calm=true) (hi:PI X tg iter wi) (f:D->D) (p:D->Bool)
  (h:∀ σ H,KF X.K H->Rel X G M σ H->wi σ H fun J H1=>Grow H H1/\∃ (M1:MH) (ds:List D),Rel X G M1 σ H1/\Walks X.K M1 J H1 ds/\ds.length<=sizeLine /\
   (∀ Y:Cx,(∃ C s H fp,Y=compCx X N scope cl C s H fp)->∀ M',Ext M1 M'->∀ d∈ds,GV Y (compG own js G) M' tg d fun G3 M3=>M3=M'/\Sub (compG own js G) G3/\TVs Y G3 M' ifs (fun k M4=>M4=M'/\k=p d)/\(p d=true->EV Y G3 M' elt fun o M4=>M4=M'/\o=f d)) /\
   ∀ q,M1 q=none->Q (.ref q) (mset M1 q (.lst ((ds.filter p).map f))))
  (hs:∀ x,foldedSetIterable iter X.env x=pure x:=by intro _;rfl):EV X G M (.ListComp elt [⟨tg,iter,ifs,0⟩] scope pos) Q :=
 ev_compK T hxe hc hi (fun σ H kf R=>⟨_,h σ H kf R,fun J H1 ⟨g,M1,ds,R1,w,hz,b,fin⟩=>⟨g,pure_T R1 w hz b fin⟩⟩) hs
end
section
variable {X:Cx} {G:Ga} {M:MH} {elt tg iter:Expr} {ifs:List Expr} {scope:Scope} {pos:Pos} {Q:DK} {own:List Str} {js:List Nat} {N:List Str} {cl:List (Str × Addr)}
theorem ev_comp_tup (T:CompOk X own js N scope cl) (hxe:X.xe=fun _ _=>False) (hc:X.calm=true) (f:D->D) (p:D->Bool)
  (h:EV X G M iter fun d M1=>∃ ds:List D,d=.tup ds/\ds.length<=sizeLine /\
   (∀ Y:Cx,(∃ C s H fp,Y=compCx X N scope cl C s H fp)->∀ M',Ext M1 M'->∀ d∈ds,GV Y (compG own js G) M' tg d fun G3 M3=>M3=M'/\Sub (compG own js G) G3/\TVs Y G3 M' ifs (fun k M4=>M4=M'/\k=p d)/\(p d=true->EV Y G3 M' elt fun o M4=>M4=M'/\o=f d)) /\
   ∀ q,M1 q=none->Q (.ref q) (mset M1 q (.lst ((ds.filter p).map f))))
  (hs:∀ x,foldedSetIterable iter X.env x=pure x:=by intro _;rfl):EV X G M (.ListComp elt [⟨tg,iter,ifs,0⟩] scope pos) Q:=by
 refine ev_comp T hxe hc (pi_tup (pe_D (G:=G))) f p (fun σ H kf R=>?_) hs
 refine ⟨M,_,R,h,fun v H' d M' kf' g i R' q=>?_⟩
 obtain ⟨ds,e,hz,block,fin⟩:=q
 subst e
 rw [is_tup] at i
 obtain ⟨l,xs,rfl,hx,hxi⟩:=i
 have hlen:=hxi.len
 refine ⟨l,rfl,⟨xs,SqT.of hx⟩,g,M',ds,R',fun H2 g2 m2=>?_,hz,block,fin⟩
 have hx2:SqT X.K H2 l xs:=SqT.of (g2 _ _ hx)
 refine ⟨fun i e=>⟨xs,hx2,by omega⟩,fun i hlt=>⟨⟨xs,xs[i]'(by omega),hx2,by simp⟩,fun x H3 y=>?_⟩⟩
 obtain ⟨e,y⟩:=y
 subst e
 have e1:=y xs hx2
 obtain ⟨d,e2,i2⟩:=(hxi.grow g2).get' e1
 exact ⟨Grow.refl _,fun _ _ z=>z,m2,d,e2,i2⟩
theorem ev_comp_list (T:CompOk X own js N scope cl) (hxe:X.xe=fun _ _=>False) (hc:X.calm=true) (f:D->D) (p:D->Bool)
  (h:EV X G M iter fun d M1=>∃ (l:Addr) (ds:List D),d=.ref l/\(M1 l=some (.lst ds)\/M1 l=some (.ro ds))/\ds.length<=sizeLine /\
   (∀ Y:Cx,(∃ C s H fp,Y=compCx X N scope cl C s H fp)->∀ M',Ext M1 M'->∀ d∈ds,GV Y (compG own js G) M' tg d fun G3 M3=>M3=M'/\Sub (compG own js G) G3/\TVs Y G3 M' ifs (fun k M4=>M4=M'/\k=p d)/\(p d=true->EV Y G3 M' elt fun o M4=>M4=M'/\o=f d)) /\
   ∀ q,M1 q=none->Q (.ref q) (mset M1 q (.lst ((ds.filter p).map f))))
  (hs:∀ x,foldedSetIterable iter X.env x=pure x:=by intro _;rfl):EV X G M (.ListComp elt [⟨tg,iter,ifs,0⟩] scope pos) Q:=by
 refine ev_comp T hxe hc (pi_list (pe_D (G:=G))) f p (fun σ H kf R=>?_) hs
 refine ⟨M,_,R,h,fun v H' d M' kf' g i R' q=>?_⟩
 obtain ⟨l,ds,e,hl,hz,block,fin⟩:=q
 subst e
 rw [is_ref] at i;subst i
 have sq:∀ {H2:Hp},MemOk X.K M' H2->∃ xs,SqL X.K H2 l xs/\IsL H2 ds xs:=fun {H2} m=>by
  rcases hl with hl | hl
  ·obtain ⟨xs,h1,h2⟩:=m l _ hl;exact ⟨xs,SqL.of h1,h2⟩
  ·exact m l _ hl
 obtain ⟨xs0,hx0,_⟩:=sq R'.mem
 refine ⟨l,rfl,⟨xs0,hx0⟩,g,M',ds,R',fun H2 g2 m2=>?_,hz,block,fin⟩
 obtain ⟨xs,hx2,hxi⟩:=sq m2
 have hlen:=hxi.len
 refine ⟨fun i e=>⟨xs,hx2,by omega⟩,fun i hlt=>⟨⟨xs,xs[i]'(by omega),hx2,by simp⟩,fun x H3 y=>?_⟩⟩
 obtain ⟨e,y⟩:=y
 subst e
 have e1:=y xs hx2
 obtain ⟨d,e2,i2⟩:=hxi.get' e1
 exact ⟨Grow.refl _,fun _ _ z=>z,m2,d,e2,i2⟩
theorem compOk_plain (hfree:∀ x∈scope.names,x.2≠.free) (hcell:∀ x∈scope.names,x.2≠.cell) (hk:scope.kind=.function) (hn:∀ x∈scope.names,x.2=.local->scope.names.lookup x.1=some .local) (hN:N=own):CompOk X own [] N scope []:=by
 have key:(relabel scope X.env).names=scope.names:=by
  unfold relabel
  exact map_eq_self (l:=scope.names) fun x hx=>by
   obtain ⟨n,k⟩:=x
   have:(k == NameKind.free)=false:=by simpa using hfree _ hx
   simp [this]
 refine ⟨closureFor_none hfree,hk,hn,hcell,fun x c e=>by simp at e,fun x h=>?_,fun k j e=>by simp at e,by rw [hN];rfl⟩
 rw [key] at h
 rcases h with h | h
 ·exact absurd rfl (hcell _ (PySem.mem_of_lookup h))
 ·exact absurd rfl (hfree _ (PySem.mem_of_lookup h))
end
theorem bits_weight (n:Int):Builtin.Int.intBits n=PySem.W.WData.weight (.int n):=by
 unfold Builtin.Int.intBits PySem.W.WData.weight
 rfl
theorem bits_of_all:∀ (ns:List Int) (k:Nat),PySem.W.WData.weightAll (ns.map PySem.W.WData.int)<=k->∀ n∈ns,Builtin.Int.intBits n<=k
 | [],_,_,n,hn=>nomatch hn
 | m :: ns,k,h,n,hn=>by
  rw [List.map_cons] at h
  have h':PySem.W.WData.weight (.int m)+1+PySem.W.WData.weightAll (ns.map PySem.W.WData.int)<=k:=by
   unfold PySem.W.WData.weightAll at h
   exact h
  rcases List.mem_cons.mp hn with e | hn
  ·subst e
   rw [bits_weight]
   omega
  ·exact bits_of_all ns k (by omega) n hn
theorem bits_of_lay {ns:List Int} (h:PySem.W.WData.layableAll [PySem.W.WData.list (ns.map PySem.W.WData.int)]=true):∀ n∈ns,Builtin.Int.intBits n<=2097152:=by
 unfold PySem.W.WData.layableAll at h
 rw [List.all_cons,Bool.and_eq_true] at h
 have h1:=h.1
 unfold PySem.W.WData.layable at h1
 rw [Bool.and_eq_true] at h1
 have h2:=of_decide_eq_true h1.2
 have h3:PySem.W.WData.weightAll (ns.map PySem.W.WData.int)<=2 ^ 20:=by
  unfold PySem.W.WData.weight at h2
  exact h2
 intro n hn
 have:=bits_of_all ns _ h3 n hn
 omega
open PySem.W PySem.Calls
theorem attach_callB {l:PySem.W.OpenLaw} {n:Nat} {q:Program} {loose:List Str} {XP:(Str->Option Value)->Heap->Prop} {YP:World->Heap->Prop} {d:DefRec}
  (hn:l.most=some n) (hdf:d.params.defaults=[])
  (call:∀ (w:World) (s₀ s₁:Shared) (mg mb:Str->Option Value) (fa:Addr) (o:Obj) (pm cd doc:Value) (a:Addr) (vs:List Value) (ns:List Int),
   Ground q loose [] XP w s₀ mg mb s₁.heap->YP w s₁.heap ->
   s₁.heap.get? fa=some o->o.data=.func (docDef d.name d.params d.body d.scope pm cd doc)->s₁.heap.CodeRec cd d.name->mg d.name=some (.ref fa) ->
   s₁.heap.get? a=some { cls:=.type "list",data:=.seq vs.toArray }->IntsAre vs ns->ns.length<=n->(∀ n∈ns,Builtin.Int.intBits n<=2097152)->s₁.gens=#[] ->
   codeAny (model l.prog w) callerA (.call (.ref fa) ⟨[.ref a],[]⟩) (fun r s'=>r=.ok (.ret (.bool true))/\OldK s₁.heap s'.heap/\s'.os=s₁.os/\AllBare s'.gens) s₁) :
  PySem.W.WalkO q loose XP YP l.row.toRowW d [] (fun f vs=>PySem.call f vs):=by
 intro w s₀ s₁ mg mb G Y fa o pm cd doc dV kV ho hd hcd hD hmg hg args vals as hpre hlay hrd hwl hlo
 obtain rfl:dV=.none:=Dflts.none hD hdf
 obtain rfl:kV=.none:=Dflts.noKw hD
 obtain ⟨a,vs,ns,rfl,rfl,hobj,hints,hlen⟩:=Att.script_of hn hpre hwl
 refine enter_call (codeAny_mono (call w s₀ s₁ mg mb fa o pm cd doc a vs ns G Y ho (fd_plain hd) hcd hmg hobj hints hlen (bits_of_lay hlay) hg) fun r s' hq=>?_)
 obtain ⟨rfl,h2,h3,h4⟩:=hq
 exact ⟨.inl ⟨.bool true,.bool true,[],rfl,fun _=>rfl,.bool true,Att.post_true l _,fun _=>⟨List.Pairwise.nil,fun _ hm=>(nomatch hm)⟩⟩,h2,h3,h4⟩
def LawSp (sp:SpD):Prop:=∀ (l:Addr) (ns:List Int) (M:MH) (Q:DK),M l=some (.ro (ns.map D.int))->ns.length<=63->(∀ n∈ns,Builtin.Int.intBits n<=2097152)->(∀ M',Q (.bl true) M')->sp [.ref l] M Q
theorem walk_D {l:PySem.W.OpenLaw} {k:Nat} {q:Program} {loose:List Str} {XP:(Str->Option Value)->Heap->Prop} {YP:World->Heap->Prop} {d:DefRec} {K:Params->PySem.W.Frag} {sp:SpD} {x:Str}
  (hn:l.most=some 63) (hdf:d.params.defaults=[]) (hr:Room k callerA) (hs:LawSp sp)
  (hY:∀ (w:World) (h:Heap),YP w h->(K w.params).In h)
  (F:∀ (w:World) (mg:Str->Option Value) (fa:Addr) (h:Heap),(K w.params).In h->h.Ns mainGlobals mg->mg d.name=some (.ref fa) ->
   ∃ fd:FuncData,(∀ (s:Shared) (u:Value),BindsTo s fd ⟨[u],[]⟩ [(x,u)]) /\
    ∀ base:Heap,(K w.params).In base->base.Ns mainGlobals mg->FnOk l.prog w (K w.params) mg base CX0 k fa fd [x] (liftSp (K w.params) sp)) :
  PySem.W.WalkO q loose XP YP l.row.toRowW d [] (fun f vs=>PySem.call f vs):=by
 refine attach_callB hn hdf fun w s₀ s₁ mg mb fa o pm cd doc a vs ns G Y ho hd hcd hmg hobj hints hlen hbits hg=>?_
 have KX:=hY w _ Y
 obtain ⟨fd,hb,hF⟩:=F w mg fa _ KX G.T.g hmg
 refine law_call KX G.T.g G.T.b G.T.builtins G.T.nolimit hg hobj hints (Nat.le_trans hlen (by decide)) hr hF hb (fun H hO hS=>?_) fun H e s' z=>z
 refine ⟨[.ref a],fun b=>if b=a then some (.ro (ns.map D.int)) else none,fun d M'=>d=.bl true,isl_cons.mpr ⟨.ref a,[],rfl,is_ref.mpr rfl,isl_nil.mpr rfl⟩,fun b o e=>?_,hs a ns _ _ (if_pos rfl) hlen hbits (fun _=>rfl),fun v H' d M' _ i _ e=>?_⟩
 ·have e:(if b=a then some (MO.ro (ns.map D.int)) else none)=some o:=e
  by_cases z:b=a
  ·rw [if_pos z] at e
   cases e
   subst z
   exact ⟨_,hS,IsL.ints⟩
  ·rw [if_neg z] at e;cases e
 ·subst e
  rw [is_bl] at i
  exact i
mutual
def pd:D->PyData
 | .non=>.none
 | .bl b=>.bool b
 | .int i=>.int i
 | .str x=>.str x
 | .ty _=>.none
 | .tup ds=>.tuple (pdL ds)
 | .ref _=>.none
def pdL:List D->List PyData
 | []=>[]
 | d :: ds=>pd d :: pdL ds
end
mutual
def imm:D->Bool
 | .non=>true
 | .bl _=>true
 | .int _=>true
 | .str x=>PyData.strOk x
 | .ty _=>false
 | .tup ds=>immL ds
 | .ref _=>false
def immL:List D->Bool
 | []=>true
 | d :: ds=>imm d && immL ds
end
section
variable {X:Cx} {pins:List (Addr × Obj)} {σ:St} {H:Hp} {s:Shared}
mutual
theorem reads_of (I:L2.Inv X pins σ H s):∀ (d:D) (v:V) (u:Value),Is H d v->RelV v u->imm d=true->∃ as,Reads s.heap u (pd d) as
 | .non,v,u,i,r,_=>by
  rw [is_non] at i;subst i;cases r
  unfold pd;exact ⟨_,.none⟩
 | .bl b,v,u,i,r,_=>by
  rw [is_bl] at i;subst i;cases r
  unfold pd;exact ⟨_,.bool b⟩
 | .int b,v,u,i,r,_=>by
  rw [is_int] at i;subst i;obtain ⟨t,rfl⟩:=r
  unfold pd;exact ⟨_,.int b t⟩
 | .str b,v,u,i,r,_=>by
  rw [is_str] at i;subst i;obtain ⟨t,rfl⟩:=r
  unfold pd;exact ⟨_,.str b t⟩
 | .ty _,_,_,_,_,h=>by unfold imm at h;cases h
 | .ref _,_,_,_,_,h=>by unfold imm at h;cases h
 | .tup ds,v,u,i,r,h=>by
  rw [is_tup] at i
  obtain ⟨a,xs,rfl,h1,h2⟩:=i
  cases r
  unfold imm at h
  obtain ⟨_,its,rv,o,ho,hc,n,hd⟩:=I.hok a _ h1
  obtain ⟨as,q⟩:=readsAll_of I ds xs its h2 rv h
  unfold pd
  exact ⟨as,.tuple ho hc hd (by simpa using q)⟩
theorem readsAll_of (I:L2.Inv X pins σ H s):∀ (ds:List D) (vs:List V) (us:List Value),IsL H ds vs->Vals vs us->immL ds=true->∃ as,ReadsAll s.heap us (pdL ds) as
 | [],vs,us,i,r,_=>by
  rw [isl_nil] at i;subst i;cases r
  unfold pdL;exact ⟨_,.nil⟩
 | d :: ds,vs,us,i,r,h=>by
  rw [isl_cons] at i
  obtain ⟨x,xs,rfl,i1,i2⟩:=i
  unfold immL at h
  rw [Bool.and_eq_true] at h
  cases r with
  | cons r1 r2 =>
   obtain ⟨as,q1⟩:=reads_of I d x _ i1 r1 h.1
   obtain ⟨bs,q2⟩:=readsAll_of I ds xs _ i2 r2 h.2
   unfold pdL
   exact ⟨_,.cons q1 q2⟩
end
mutual
theorem canLay_imm:∀ d:D,imm d=true->(pd d).canLay0=true
 | .non,_=>by simp only [pd,PyData.canLay0]
 | .bl _,_=>by simp only [pd,PyData.canLay0]
 | .int _,_=>by simp only [pd,PyData.canLay0]
 | .str x,h=>by
  unfold imm at h
  simp only [pd,PyData.canLay0];exact h
 | .ty _,h=>by unfold imm at h;cases h
 | .ref _,h=>by unfold imm at h;cases h
 | .tup ds,h=>by
  unfold imm at h
  simp only [pd,PyData.canLay0]
  exact canLayL_imm ds h
theorem canLayL_imm:∀ ds:List D,immL ds=true->PyData.canLayAll0 (pdL ds)=true
 | [],_=>by simp only [pdL,PyData.canLayAll0]
 | d :: ds,h=>by
  unfold immL at h
  rw [Bool.and_eq_true] at h
  simp only [pdL,PyData.canLayAll0,canLay_imm d h.1,canLayL_imm ds h.2,Bool.and_self]
end
end
section
variable {X:Cx} {G:Ga} {M:MH} {a b e:Expr} {pos:Pos} {Q:DK}
theorem tv_cval {op:CmpOp} {Qb:Bool->MH->Prop} (hm:behindInMarks op b=false)
  (h:∀ (pins:List (Addr × Obj)) (s:Shared) (σ:St) (H:Hp),L2.Inv X pins σ H s->Rel X G M σ H->wpAny (model X.prog X.w) X.A (eval a X.env) (fun v s1=>wpAny (model X.prog X.w) X.A (eval b X.env) (fun u s2=>wpAny (model X.prog X.w) X.A (compareOp op v u) (EPD X pins σ G H fun d M'=>∃ k,d=.bl k/\Qb k M') X.xe s2) X.xe s1) X.xe s):TV X G M (.Compare a [op] [b] pos) Qb:=by
 intro pins s σ H I R
 refine wpAny_isTrue_Compare1 (thn (h pins s σ H I R) fun v s1 h1=>thn h1 fun u s2 h2=>thn h2 fun w s3 ⟨z,H3,d,M3,I3,r3,g3,i3,R3,k,e,q⟩=>?_) hm
 subst e
 rw [is_bl] at i3;subst i3
 cases r3
 exact wpAny_truthy_bool ⟨H3,M3,I3,g3,R3,q⟩
theorem IsL.set {H:Hp}:∀ {ds:List D} {vs:List V} (j:Nat) {d:D} {v:V},IsL H ds vs->Is H d v->IsL H (ds.set j d) (vs.set j v)
 | [],vs,j,d,v,h,_=>by rw [isl_nil] at h;subst h;rw [List.set_nil,List.set_nil,isl_nil]
 | d' :: ds,vs,0,d,v,h,k=>by
  rw [isl_cons] at h
  obtain ⟨x,r,rfl,h1,h2⟩:=h
  rw [List.set_cons_zero,List.set_cons_zero,isl_cons]
  exact ⟨v,r,rfl,k,h2⟩
 | d' :: ds,vs,j+1,d,v,h,k=>by
  rw [isl_cons] at h
  obtain ⟨x,r,rfl,h1,h2⟩:=h
  rw [List.set_cons_succ,List.set_cons_succ,isl_cons]
  exact ⟨x,r.set j v,rfl,h1,h2.set j k⟩
theorem bootIntT:bootBuiltins "int" = some (.type "int"):=by decide +kernel
theorem ev_intC {p:Pos} (hm:X.mg "int" = none) (h:AV X G M [e] fun ds M1=>(∃ i,ds=[.int i]/\Q (.int i) M1)\/∃ k:Bool,ds=[.bl k]/\Q (.int (if k then 1 else 0)) M1) (hg:Gl X "int" := by rfl)
  (he:SeX X e:=by rfl) (hpl:NpX X pos:=by rfl):EV X G M (.Call (.Name "int" p) [e] [] pos) Q :=
 ev_callTy call_int1 hm bootIntT (h.mono fun ds M1 hq=>fun H xs kf hx m=>by
  rcases hq with ⟨i,rfl,q⟩ | ⟨k,rfl,q⟩
  ·obtain ⟨v,rfl,hv⟩:=isl1 hx
   rw [is_int] at hv;subst hv
   exact .inl ⟨i,rfl,fun _=>⟨Grow.refl _,_,M1,is_int.mpr rfl,m,q⟩⟩
  ·obtain ⟨v,rfl,hv⟩:=isl1 hx
   rw [is_bl] at hv;subst hv
   exact .inr ⟨k,rfl,fun _=>⟨Grow.refl _,_,M1,is_int.mpr rfl,m,q⟩⟩) hg (by decide) (by decide) he hpl
end
def SubL (da db:D) (M:MH) (Q:DK):Prop:=match da,db with
 | .int i,.int j=>Q (.int (i - j)) M
 | _,_=>False
def MulL (da db:D) (M:MH) (Q:DK):Prop:=match da,db with
 | .int i,.int j=>IntMulOk i j/\Q (.int (i * j)) M
 | _,_=>False
def DivL (da db:D) (M:MH) (Q:DK):Prop:=match da,db with
 | .int i,.int j=>CDivB i j/\Q (.int (i.fdiv j)) M
 | _,_=>False
def ModL (da db:D) (M:MH) (Q:DK):Prop:=match da,db with
 | .int i,.int j=>j≠0/\Q (.int (i.fmod j)) M
 | _,_=>False
def PowL (da db:D) (M:MH) (Q:DK):Prop:=match da,db with
 | .int i,.int j=>CPow i j/\Q (.int (i ^ j.toNat)) M
 | _,_=>False
def NegL (da:D) (M:MH) (Q:DK):Prop:=match da with
 | .int i=>Q (.int (-i)) M
 | _=>False
def CmpL (p:Int->Int->Bool) (da db:D) (M:MH) (Qb:Bool->MH->Prop):Prop:=match da,db with
 | .int i,.int j=>Qb (p i j) M
 | _,_=>False
def eqB (da db:D):Bool:=match da,db with
 | .int i,.int j=>decide (i=j)
 | .bl i,.bl j=>decide (i=j)
 | .str i,.str j=>decide (i=j)
 | _,_=>PyData.eqv (pd da) (pd db)
def EqOk (da db:D):Prop:=match da,db with
 | .int _,.int _=>True
 | .bl _,.bl _=>True
 | .str _,.str _=>True
 | _,_=>imm da=true/\imm db=true/\(pd da).depth<=60
def EqL (da db:D) (M:MH) (Qb:Bool->MH->Prop):Prop:=EqOk da db/\Qb (eqB da db) M
section
variable {X:Cx} {G:Ga} {M:MH} {a b c e:Expr} {es rest:List Expr} {pos:Pos} {Q:DK} {Qb:Bool->MH->Prop} {i j:Int}
theorem add_ii (q:Q (.int (i+j)) M):AddD (.int i) (.int j) M Q:=q
theorem add_tt {xs ys:List D} (h:xs≠[]) (z:xs.length+ys.length<=sizeLine) (q:Q (.tup (xs++ys)) M):AddD (.tup xs) (.tup ys) M Q:=⟨h,z,q⟩
theorem add_ll {l k:Addr} {xs ys:List D} (h:M l=some (.lst xs)) (h':M k=some (.lst ys)) (z:xs.length+ys.length<=sizeLine) (q:∀ p,M p=none->Q (.ref p) (mset M p (.lst (xs++ys)))):AddD (.ref l) (.ref k) M Q:=⟨xs,ys,h,h',z,q⟩
theorem sub_l (q:Q (.int (i - j)) M):SubL (.int i) (.int j) M Q:=q
theorem mul_l (c:IntMulOk i j) (q:Q (.int (i * j)) M):MulL (.int i) (.int j) M Q:=⟨c,q⟩
theorem div_l (c:CDivB i j) (q:Q (.int (i.fdiv j)) M):DivL (.int i) (.int j) M Q:=⟨c,q⟩
theorem mod_l (c:j≠0) (q:Q (.int (i.fmod j)) M):ModL (.int i) (.int j) M Q:=⟨c,q⟩
theorem pow_n {k:Int} (e:i ^ j.toNat=k) (c:CPow i j) (q:Q (.int k) M):PowL (.int i) (.int j) M Q:=⟨c,by rw [e];exact q⟩
theorem neg_l (q:Q (.int (-i)) M):NegL (.int i) M Q:=q
theorem cmp_l {p:Int->Int->Bool} (q:Qb (p i j) M):CmpL p (.int i) (.int j) M Qb:=q
theorem eq_ii (q:Qb (decide (i=j)) M):EqL (.int i) (.int j) M Qb:=⟨trivial,q⟩
theorem eq_ss {i j:Str} (q:Qb (decide (i=j)) M):EqL (.str i) (.str j) M Qb:=⟨trivial,q⟩
theorem ix_tl {ds:List D} {d:D} (e:atI ds i=some d) (q:Q d M):IxD (.tup ds) i M Q:=⟨d,e,q⟩
theorem ix_ll {l:Addr} {ds:List D} {d:D} (h:M l=some (.lst ds)) (e:atI ds i=some d) (q:Q d M):IxD (.ref l) i M Q:=.inl ⟨ds,d,h,e,q⟩
theorem ix_rl {l:Addr} {ds:List D} {d:D} (h:M l=some (.ro ds)) (e:atI ds i=some d) (q:Q d M):IxD (.ref l) i M Q:=.inr ⟨ds,d,h,e,q⟩
theorem SubL.ex {da db:D} (h:SubL da db M Q):∃ i j,da=.int i/\db=.int j/\Q (.int (i - j)) M:=by
 unfold SubL at h;split at h
 ·exact ⟨_,_,rfl,rfl,h⟩
 ·exact h.elim
theorem MulL.ex {da db:D} (h:MulL da db M Q):∃ i j,da=.int i/\db=.int j/\IntMulOk i j/\Q (.int (i * j)) M:=by
 unfold MulL at h;split at h
 ·exact ⟨_,_,rfl,rfl,h⟩
 ·exact h.elim
theorem DivL.ex {da db:D} (h:DivL da db M Q):∃ i j,da=.int i/\db=.int j/\CDivB i j/\Q (.int (i.fdiv j)) M:=by
 unfold DivL at h;split at h
 ·exact ⟨_,_,rfl,rfl,h⟩
 ·exact h.elim
theorem ModL.ex {da db:D} (h:ModL da db M Q):∃ i j,da=.int i/\db=.int j/\j≠0/\Q (.int (i.fmod j)) M:=by
 unfold ModL at h;split at h
 ·exact ⟨_,_,rfl,rfl,h⟩
 ·exact h.elim
theorem PowL.ex {da db:D} (h:PowL da db M Q):∃ i j,da=.int i/\db=.int j/\CPow i j/\Q (.int (i ^ j.toNat)) M:=by
 unfold PowL at h;split at h
 ·exact ⟨_,_,rfl,rfl,h⟩
 ·exact h.elim
theorem NegL.ex {da:D} (h:NegL da M Q):∃ i,da=.int i/\Q (.int (-i)) M:=by
 unfold NegL at h;split at h
 ·exact ⟨_,rfl,h⟩
 ·exact h.elim
theorem CmpL.ex {p:Int->Int->Bool} {da db:D} (h:CmpL p da db M Qb):∃ i j,da=.int i/\db=.int j/\Qb (p i j) M:=by
 unfold CmpL at h;split at h
 ·exact ⟨_,_,rfl,rfl,h⟩
 ·exact h.elim
theorem l_sub (h:EV X G M a fun da Ma=>EV X G Ma b fun db Mb=>SubL da db Mb Q):EV X G M (.BinOp a .Sub b pos) Q:=ev_sub (h.mono fun _ _ h1=>h1.mono fun _ _ h2=>h2.ex)
theorem l_mul (h:EV X G M a fun da Ma=>EV X G Ma b fun db Mb=>MulL da db Mb Q):EV X G M (.BinOp a .Mult b pos) Q:=ev_mul (h.mono fun _ _ h1=>h1.mono fun _ _ h2=>h2.ex)
theorem l_fdiv (h:EV X G M a fun da Ma=>EV X G Ma b fun db Mb=>DivL da db Mb Q):EV X G M (.BinOp a .FloorDiv b pos) Q:=ev_fdiv (h.mono fun _ _ h1=>h1.mono fun _ _ h2=>h2.ex)
theorem l_mod (h:EV X G M a fun da Ma=>EV X G Ma b fun db Mb=>ModL da db Mb Q):EV X G M (.BinOp a .Mod b pos) Q:=ev_mod (h.mono fun _ _ h1=>h1.mono fun _ _ h2=>h2.ex)
theorem l_pow (h:EV X G M a fun da Ma=>EV X G Ma b fun db Mb=>PowL da db Mb Q):EV X G M (.BinOp a .Pow b pos) Q:=ev_pow (h.mono fun _ _ h1=>h1.mono fun _ _ h2=>h2.ex)
theorem l_neg (h:EV X G M a fun da Ma=>NegL da Ma Q):EV X G M (.UnaryOp .USub a pos) Q:=ev_neg (h.mono fun _ _ h1=>h1.ex)
theorem lt_lt (h:EV X G M a fun da Ma=>EV X G Ma b fun db Mb=>CmpL (fun i j=>decide (i < j)) da db Mb Qb):TV X G M (.Compare a [.Lt] [b] pos) Qb:=tv_lt (h.mono fun _ _ h1=>h1.mono fun _ _ h2=>h2.ex)
theorem lt_gt (h:EV X G M a fun da Ma=>EV X G Ma b fun db Mb=>CmpL (fun i j=>decide (j < i)) da db Mb Qb):TV X G M (.Compare a [.Gt] [b] pos) Qb:=tv_gt (h.mono fun _ _ h1=>h1.mono fun _ _ h2=>h2.ex)
theorem eqL_cases {da db:D} (h:EqL da db M Qb):(∃ k,EqD da db k/\Qb k M)\/(imm da=true/\imm db=true/\(pd da).depth<=60/\Qb (PyData.eqv (pd da) (pd db)) M):=by
 obtain ⟨h,q⟩:=h
 unfold EqOk at h
 unfold eqB at q
 split at h
 ·exact .inl ⟨_,rfl,q⟩
 ·exact .inl ⟨_,rfl,q⟩
 ·exact .inl ⟨_,rfl,q⟩
 ·rename_i h1 h2 h3
  split at q
  ·exact absurd rfl (fun z=>h1 _ _ rfl z)
  ·exact absurd rfl (fun z=>h2 _ _ rfl z)
  ·exact absurd rfl (fun z=>h3 _ _ rfl z)
  ·exact .inr ⟨h.1,h.2.1,h.2.2,q⟩
theorem eqL_run {neg:Bool} {op:CmpOp} (ho:op=if neg then .NotEq else .Eq) (hu:X.A.units+64 < cLine) {pins:List (Addr × Obj)} {σ:St} {H:Hp} {s:Shared} {da db:D} {x y:V} {v u:Value} (I:L2.Inv X pins σ H s) (R:Rel X G M σ H) (i1:Is H da x) (i2:Is H db y) (r1:RelV x v) (r2:RelV y u)
  (h:EqL da db M fun k M'=>Q (.bl (if neg then !k else k)) M'):wpAny (model X.prog X.w) X.A (compareOp op v u) (EPD X pins σ G H Q) X.xe s:=by
 subst ho
 rcases eqL_cases h with ⟨k,e1,q⟩ | ⟨m1,m2,hd,q⟩
 ·obtain ⟨h2,h3⟩:=eqD_val e1 i1 i2
  cases neg with
  | false =>
   refine thn (op_eq pins s σ H x y v u (fun z H3=>z=.bl (decide (x=y))/\H3=H) I r1 r2 ⟨h2,rfl,rfl⟩) fun w s3 hw=>?_
   obtain ⟨z,H3,I3,r3,e3,e4⟩:=hw
   subst e3;subst e4
   exact ⟨_,H3,.bl k,M,I3,r3,Grow.refl _,is_bl.mpr (by rw [h3]),R,q⟩
  | true =>
   refine thn (op_ne pins s σ H x y v u (fun z H3=>z=.bl (!decide (x=y))/\H3=H) I r1 r2 ⟨h2,rfl,rfl⟩) fun w s3 hw=>?_
   obtain ⟨z,H3,I3,r3,e3,e4⟩:=hw
   subst e3;subst e4
   exact ⟨_,H3,.bl (!k),M,I3,r3,Grow.refl _,is_bl.mpr (by rw [h3]),R,q⟩
 ·obtain ⟨as,ra⟩:=reads_of I da x v i1 r1 m1
  obtain ⟨bs,rb⟩:=reads_of I db y u i2 r2 m2
  have hmin:min (pd da).depth (pd db).depth<=(pd da).depth:=Nat.min_le_left _ _
  cases neg with
  | false=>exact PySem.SeqAt.compareEq_reads ra rb (canLay_imm _ m1) (canLay_imm _ m2) (by omega) ⟨.bl _,H,.bl _,M,I,rfl,Grow.refl _,is_bl.mpr rfl,R,q⟩
  | true=>exact PySem.SeqAt.compareNe_reads ra rb (canLay_imm _ m1) (canLay_imm _ m2) (by omega) ⟨.bl _,H,.bl _,M,I,rfl,Grow.refl _,is_bl.mpr rfl,R,q⟩
theorem l_eq (hu:X.A.units+64 < cLine) (h:EV X G M a fun da Ma=>EV X G Ma b fun db Mb=>EqL da db Mb fun k M'=>Q (.bl k) M'):EV X G M (.Compare a [.Eq] [b] pos) Q:=by
 intro pins s σ H I R
 refine wpAny_Compare1 ?_ (nomark _)
 refine thn (h pins s σ H I R) fun v s1 ⟨x,H1,da,Ma,I1,r1,g1,i1,R1,q1⟩=>?_
 refine thn (q1 pins s1 σ H1 I1 R1) fun u s2 ⟨y,H2,db,Mb,I2,r2,g2,i2,R2,q⟩=>?_
 exact thn (eqL_run (neg:=false) rfl hu I2 R2 (Is.grow g2 _ _ i1) i2 r1 r2 q) fun _ _ h=>h.grow (g1.trans g2)
theorem lt_eq (hu:X.A.units+64 < cLine) (h:EV X G M a fun da Ma=>EV X G Ma b fun db Mb=>EqL da db Mb Qb):TV X G M (.Compare a [.Eq] [b] pos) Qb:=by
 refine tv_cval (nomark _) fun pins s σ H I R=>?_
 refine thn (h pins s σ H I R) fun v s1 ⟨x,H1,da,Ma,I1,r1,g1,i1,R1,q1⟩=>?_
 refine thn (q1 pins s1 σ H1 I1 R1) fun u s2 ⟨y,H2,db,Mb,I2,r2,g2,i2,R2,q⟩=>?_
 exact thn (eqL_run (neg:=false) rfl hu I2 R2 (Is.grow g2 _ _ i1) i2 r1 r2 (Q:=fun d M'=>∃ k,d=.bl k/\Qb k M') ⟨q.1,_,rfl,q.2⟩) fun _ _ h=>h.grow (g1.trans g2)
theorem lt_ne (hu:X.A.units+64 < cLine) (h:EV X G M a fun da Ma=>EV X G Ma b fun db Mb=>EqL da db Mb fun k M'=>Qb (!k) M'):TV X G M (.Compare a [.NotEq] [b] pos) Qb:=by
 refine tv_cval (nomark _) fun pins s σ H I R=>?_
 refine thn (h pins s σ H I R) fun v s1 ⟨x,H1,da,Ma,I1,r1,g1,i1,R1,q1⟩=>?_
 refine thn (q1 pins s1 σ H1 I1 R1) fun u s2 ⟨y,H2,db,Mb,I2,r2,g2,i2,R2,q⟩=>?_
 exact thn (eqL_run (neg:=true) rfl hu I2 R2 (Is.grow g2 _ _ i1) i2 r1 r2 (Q:=fun d M'=>∃ k,d=.bl k/\Qb k M') ⟨q.1,_,rfl,q.2⟩) fun _ _ h=>h.grow (g1.trans g2)
theorem tv_call {f:Expr} {kws:List Keyword} (h:EV X G M (.Call f es kws pos) fun d M'=>∃ k,TruD X.K d M' k/\Qb k M') (he:∀ whole,isTrue (.Call f es kws pos) X.env whole=(do let v <- whole;standAt (Expr.Call f es kws pos).pos;holding [v] (truthy v)):=by intro _;rfl):TV X G M (.Call f es kws pos) Qb:=tv_of h he
theorem ev_callM {j k:Nat} {x:Str} {p:Pos} {sp:SpD} (C:Cal X.prog X.w X.K X.mg X.base j x sp) (hr:Room k X.A) (hk:j<=k) (h:AV X G M (e :: es) fun ds M1=>sp ds M1 Q) (hg:Gl X x:=by rfl) (hdb:(x == ("__debug__" : Str))=false:=by decide)
  (he:starEach (e :: es) X.env=(false,eval e X.env) :: starEach es X.env:=by rfl) (hpl:(backTo pos (starEach es X.env)).any (·.1)=false:=by rfl):EV X G M (.Call (.Name x p) (e :: es) [] pos) Q:=ev_call (C.mono hk) hr h hg hdb he hpl
theorem tvs_one (h:TV X G M c Qb):TVs X G M [c] Qb:=h
theorem tvs_nil (h:Qb true M):TVs X G M [] Qb:=h
theorem exs_join {st:Stmt} {sts:List Stmt} {E:EndsD} (J:Ga->MH->Prop) (h:EX X G M st { E with nx:=J }) (k:∀ G' M',J G' M'->EXs X G' M' sts E):EXs X G M (st :: sts) E:=by
 refine exs_cons ?_
 intro pins s σ H I R
 refine thn (h pins s σ H I R) fun f s1 q=>?_
 cases f with
 | next=>obtain ⟨σ',H',G',M',I',g',R',q⟩:=q;exact ⟨σ',H',G',M',I',g',R',k _ _ q⟩
 | ret v=>exact q
 | brk=>exact q
 | cont=>exact q
theorem ifD {c A B:Prop} [Decidable c] (h1:c->A) (h2:¬ c->B):if decide c=true then A else B:=by
 by_cases h:c
 ·rw [if_pos (decide_eq_true h)];exact h1 h
 ·rw [if_neg (by simp [h])];exact h2 h
theorem ifN {c A B:Prop} [Decidable c] (h1:¬ c->A) (h2:c->B):if (!decide c)=true then A else B:=by
 by_cases h:c
 ·rw [if_neg (by simp [h])];exact h2 h
 ·rw [if_pos (by simp [h])];exact h1 h
theorem ifT {A B:Prop} (h:A):if true=true then A else B:=by rw [if_pos rfl];exact h
theorem ifF {A B:Prop} (h:B):if false=true then A else B:=by rw [if_neg (by decide)];exact h
theorem ifNT {A B:Prop} (h:B):if (!true)=true then A else B:=by rw [if_neg (by decide)];exact h
theorem ifNF {A B:Prop} (h:A):if (!false)=true then A else B:=by rw [if_pos (by decide)];exact h
theorem ifDy {c A B:Prop} [Decidable c] (h:c) (a:A):if decide c=true then A else B:=by rw [if_pos (decide_eq_true h)];exact a
theorem ifDn {c A B:Prop} [Decidable c] (h:¬ c) (b:B):if decide c=true then A else B:=by rw [if_neg (by simp [h])];exact b
theorem ifNy {c A B:Prop} [Decidable c] (h:¬ c) (a:A):if (!decide c)=true then A else B:=by rw [if_pos (by simp [h])];exact a
theorem ifNn {c A B:Prop} [Decidable c] (h:c) (b:B):if (!decide c)=true then A else B:=by rw [if_neg (by simp [h])];exact b
end
def lkD:List (Str × D)->Str->Option D
 | [],_=>none
 | (x,d) :: r,k=>if x=k then some d else lkD r k
def putD (kvs:List (Str × D)) (k:Str) (d:D):List (Str × D) :=
 if (kvs.any fun kv=>decide (kv.1=k))=true then kvs.map (fun kv=>if kv.1=k then (kv.1,d) else kv) else kvs++[(k,d)]
theorem lkD_cons (x:Str) (d:D) (r:List (Str × D)) (k:Str):lkD ((x,d) :: r) k=if x=k then some d else lkD r k:=rfl
theorem KvIs.len {H:Hp}:∀ {kvs:List (Str × D)} {ys:List (Key × V)},KvIs H kvs ys->kvs.length=ys.length
 | [],ys,h=>by rw [show ys=[] from h];rfl
 | (k,d) :: r,ys,h=>by
  obtain ⟨v,ys',rfl,_,h2⟩:=h
  rw [List.length_cons,List.length_cons,KvIs.len h2]
theorem KvIs.val {H:Hp}:∀ {kvs:List (Str × D)} {ys:List (Key × V)} (k:Str),KvIs H kvs ys->match lkD kvs k with
  | some d=>∃ v,valV ys (Sum.inr k)=some v/\Is H d v
  | none=>valV ys (Sum.inr k)=none
 | [],ys,k,h=>by rw [show ys=[] from h];exact valV_nil
 | (x,d) :: r,ys,k,h=>by
  obtain ⟨v,ys',rfl,h1,h2⟩:=h
  have ih:=KvIs.val k h2
  rw [lkD_cons]
  by_cases e:x=k
  ·rw [if_pos e]
   exact ⟨v,valV_pos (by rw [e]),h1⟩
  ·rw [if_neg e]
   have hne:¬ (Sum.inr x:Key)=Sum.inr k:=fun z=>e (Sum.inr.inj z)
   rw [valV_neg (p:=(Sum.inr x,v)) hne]
   exact ih
theorem KvIs.get {H:Hp} {kvs:List (Str × D)} {ys:List (Key × V)} {k:Str} {d:D} (h:KvIs H kvs ys) (e:lkD kvs k=some d):∃ v,valV ys (Sum.inr k)=some v/\Is H d v:=by
 have:=h.val k;rw [e] at this;exact this
theorem KvIs.some_eq {H:Hp} {kvs:List (Str × D)} {ys:List (Key × V)} (h:KvIs H kvs ys) (k:Str):(valV ys (Sum.inr k)).isSome=(lkD kvs k).isSome:=by
 have:=h.val k
 cases e:lkD kvs k with
 | none=>rw [e] at this;rw [show valV ys (Sum.inr k)=none from this];rfl
 | some d=>rw [e] at this;obtain ⟨v,h1,_⟩:=this;rw [h1];rfl
theorem KvIs.any {H:Hp} {k:Str}:∀ {kvs:List (Str × D)} {ys:List (Key × V)},KvIs H kvs ys->(kvs.any fun kv=>decide (kv.1=k))=ys.any fun kv=>decide (kv.1=Sum.inr k)
 | [],ys,h=>by rw [show ys=[] from h];rfl
 | (x,d) :: r,ys,h=>by
  obtain ⟨v,ys',rfl,h1,h2⟩:=h
  rw [List.any_cons,List.any_cons,KvIs.any h2,key_rr]
theorem KvIs.repl {H:Hp} {k:Str} {d:D} {v:V} (i:Is H d v):∀ {kvs:List (Str × D)} {ys:List (Key × V)},KvIs H kvs ys ->
  KvIs H (kvs.map fun kv=>if kv.1=k then (kv.1,d) else kv) (ys.map fun kv=>if kv.1=Sum.inr k then (kv.1,v) else kv)
 | [],ys,h=>by rw [show ys=[] from h];rfl
 | (x,e) :: r,ys,h=>by
  obtain ⟨u,ys',rfl,h1,h2⟩:=h
  have ih:=KvIs.repl (k:=k) i h2
  rw [List.map_cons,List.map_cons]
  by_cases z:x=k
  ·rw [if_pos z,if_pos (by rw [z])]
   exact ⟨v,_,rfl,i,ih⟩
  ·rw [if_neg z,if_neg (fun q=>z (Sum.inr.inj q))]
   exact ⟨u,_,rfl,h1,ih⟩
theorem KvIs.snoc {H:Hp} {k:Str} {d:D} {v:V} (i:Is H d v):∀ {kvs:List (Str × D)} {ys:List (Key × V)},KvIs H kvs ys->KvIs H (kvs++[(k,d)]) (ys++[(Sum.inr k,v)])
 | [],ys,h=>by rw [show ys=[] from h];exact ⟨v,[],rfl,i,rfl⟩
 | (x,e) :: r,ys,h=>by
  obtain ⟨u,ys',rfl,h1,h2⟩:=h
  exact ⟨u,_,rfl,h1,KvIs.snoc i h2⟩
theorem KvIs.put {H:Hp} {k:Str} {d:D} {v:V} (i:Is H d v) {kvs:List (Str × D)} {ys:List (Key × V)} (h:KvIs H kvs ys):KvIs H (putD kvs k d) (putK ys (Sum.inr k) v):=by
 unfold putD putK
 rw [h.any]
 split
 ·exact h.repl i
 ·exact h.snoc i
theorem putD_len (kvs:List (Str × D)) (k:Str) (d:D):(putD kvs k d).length<=kvs.length+1:=by
 unfold putD;split<;>simp
section
variable {X:Cx} {G:Ga} {M:MH} {a b c e o i:Expr} {es rest:List Expr} {pos:Pos} {Q:DK} {Qb:Bool->MH->Prop}
theorem ev_dnew (h:∀ p,M p=none->Q (.ref p) (mset M p (.dic []))):EV X G M (.Dict [] [] pos) Q :=
 EV.of pe_dnewK fun σ H kf R=>fun p hp kf'=>⟨grow_new hp,.ref p,mset M p (.dic []),is_ref.mpr rfl,R.mem.lay hp ⟨[],upd_same,rfl⟩,h p (R.mem.fresh hp kf')⟩
def IxA (da db:D) (M:MH) (Q:DK):Prop:=match db with
 | .int i=>match da with
  | .str z=>∃ c,z.length<=sizeLine/\atI z.cps.toList i=some c/\Q (.str ⟨#[c]⟩) M
  | _=>IxD da i M Q
 | .str k=>∃ p kvs d,da=.ref p/\M p=some (.dic kvs)/\lkD kvs k=some d/\Q d M
 | _=>False
theorem ix_at {ds:List D} {j:Int} {d:D} (e:atI ds j=some d) (q:Q d M):IxA (.tup ds) (.int j) M Q:=ix_tl e q
theorem ix_al {l:Addr} {ds:List D} {j:Int} {d:D} (h:M l=some (.lst ds)) (e:atI ds j=some d) (q:Q d M):IxA (.ref l) (.int j) M Q:=ix_ll h e q
theorem ix_ar {l:Addr} {ds:List D} {j:Int} {d:D} (h:M l=some (.ro ds)) (e:atI ds j=some d) (q:Q d M):IxA (.ref l) (.int j) M Q:=ix_rl h e q
theorem ix_as {z:Str} {j:Int} {c:Nat} (h:z.length<=sizeLine) (e:atI z.cps.toList j=some c) (q:Q (.str ⟨#[c]⟩) M):IxA (.str z) (.int j) M Q:=⟨c,h,e,q⟩
theorem ix_ad {p:Addr} {kvs:List (Str × D)} {k:Str} {d:D} (h:M p=some (.dic kvs)) (e:lkD kvs k=some d) (q:Q d M):IxA (.ref p) (.str k) M Q:=⟨p,kvs,d,rfl,h,e,q⟩
theorem ix_dict (hu:X.A.units+1 < cLine):IxR X (fun x y H Q=>∃ a v,x=.ref a/\DGet H a y (some v)/\Q v H):=by
 intro value slice pins s σ H x y v u Q I rx ry h hs
 obtain ⟨a,z,rfl,g,q⟩:=h
 cases rx
 exact tail_any (dict_typeIs I g) PySem.F.slot_dict_getitem.lookup (d_getItem hu I g ry fun w' s3 I3 rw'=>⟨z,H,I3,rw',q⟩) hs
theorem rd_ixA {da db:D} (h:IxA da db M Q):RD X.K (fun x y H Q=>rIx X.K x y H Q\/∃ a v,x=.ref a/\DGet H a y (some v)/\Q v H) da db M Q:=by
 intro H x y kf hx hy m
 unfold IxA at h
 cases db with
 | int i =>
  cases da with
  | str z =>
   obtain ⟨c,h1,h2,q⟩:=h
   rw [is_int] at hy;subst hy
   rw [is_str] at hx;subst hx
   exact .inl (.inr (.inr ⟨z,i,c,rfl,rfl,h1,h2,fun _=>⟨Grow.refl _,_,M,is_str.mpr rfl,m,q⟩⟩))
  | non=>exact h.elim
  | bl _=>exact h.elim
  | int _=>exact h.elim
  | ty _=>exact h.elim
  | tup ds=>exact .inl (rd_ix (X:=X) h H x y kf hx hy m)
  | ref l=>exact .inl (rd_ix (X:=X) h H x y kf hx hy m)
 | str k =>
  obtain ⟨p,kvs,d,rfl,h1,h2,q⟩:=h
  rw [is_ref] at hx;subst hx
  rw [is_str] at hy;subst hy
  obtain ⟨ys,e1,e2⟩:=m p _ h1
  obtain ⟨v,e3,e4⟩:=e2.get h2
  exact .inr ⟨p,v,rfl,by rw [<- e3];exact DGet.k (k:=Sum.inr k) e1,fun _=>⟨Grow.refl _,d,M,e4,m,q⟩⟩
 | non=>exact h.elim
 | bl _=>exact h.elim
 | ty _=>exact h.elim
 | tup _=>exact h.elim
 | ref _=>exact h.elim
theorem l_item (hu:X.A.units+64 < cLine) (h:EV X G M a fun da Ma=>EV X G Ma b fun db Mb=>IxA da db Mb Q) (hs:PlainIx b):EV X G M (.Subscript a b pos) Q :=
 ev_ix (ix_seq.or (ix_dict (by omega))) hs (h.mono fun _ _ h1=>h1.mono fun _ _ q=>rd_ixA q)
def SetL (d1 d2 d:D) (M:MH) (Qm:MH->Prop):Prop:=match d1,d2 with
 | .ref p,.int k=>∃ ds j,M p=some (.lst ds)/\ixN ds.length k=some j/\Qm (mset M p (.lst (ds.set j d)))
 | .ref p,.str k=>∃ kvs,M p=some (.dic kvs)/\kvs.length < sizeLine/\Qm (mset M p (.dic (putD kvs k d)))
 | _,_=>False
theorem set_ll {p:Addr} {k:Int} {d:D} {ds:List D} {j:Nat} {Qm:MH->Prop} (h:M p=some (.lst ds)) (e:ixN ds.length k=some j) (q:Qm (mset M p (.lst (ds.set j d)))):SetL (.ref p) (.int k) d M Qm:=⟨ds,j,h,e,q⟩
theorem set_dl {p:Addr} {k:Str} {d:D} {kvs:List (Str × D)} {Qm:MH->Prop} (h:M p=some (.dic kvs)) (e:kvs.length < sizeLine) (q:Qm (mset M p (.dic (putD kvs k d)))):SetL (.ref p) (.str k) d M Qm:=⟨kvs,h,e,q⟩
theorem SetL.cases {d1 d2 d:D} {Qm:MH->Prop} (h:SetL d1 d2 d M Qm):(∃ p k ds j,d1=.ref p/\d2=.int k/\M p=some (.lst ds)/\ixN ds.length k=some j/\Qm (mset M p (.lst (ds.set j d))))\/∃ p k kvs,d1=.ref p/\d2=.str k/\M p=some (.dic kvs)/\kvs.length < sizeLine/\Qm (mset M p (.dic (putD kvs k d))):=by
 unfold SetL at h
 split at h
 ·obtain ⟨ds,j,h1,h2,h3⟩:=h
  exact .inl ⟨_,_,ds,j,rfl,rfl,h1,h2,h3⟩
 ·obtain ⟨kvs,h1,h2,h3⟩:=h
  exact .inr ⟨_,_,kvs,rfl,rfl,h1,h2,h3⟩
 ·exact h.elim
theorem gv_set {d:D} {Qg:Ga->MH->Prop} (hu:X.A.units+64 < cLine) (h:EV X G M o fun d1 M1=>EV X G M1 i fun d2 M2=>SetL d1 d2 d M2 fun M3=>Qg G M3)
  (ha:∀ v,assign (.Subscript o i pos) X.env v=(do
   let ov <- holding [v] (eval o X.env)
   let iv <- holding [v,ov] (eval i X.env)
   standAt pos
   holding [v,ov,iv] (setItem ov iv v)
   release [v,ov,iv] [])):GV X G M (.Subscript o i pos) d Qg:=by
 intro pins s σ H v u I R r iv
 rw [ha]
 refine wpAny_bind (wpAny_holding (thn (h pins s σ H I R) fun ov s1 ⟨x,H1,d1,M1,I1,r1,g1,i1,R1,q1⟩=>?_))
 refine wpAny_bind (wpAny_holding (thn (q1 pins s1 σ H1 I1 R1) fun iv' s2 ⟨y,H2,d2,M2,I2,r2,g2,i2,R2,q2⟩=>?_))
 rcases SetL.cases q2 with ⟨p,k,ds,j,rfl,rfl,hp,hj,q⟩ | ⟨p,k,kvs,rfl,rfl,hp,hz,q⟩
 ·skip
  rw [is_ref] at i1;subst i1
  rw [is_int] at i2;subst i2
  obtain ⟨xs,hx,hxi⟩:=R2.mem p _ hp
  have nt:∀ ys,H2 p≠some (.tup ys):=fun ys z=>by rw [hx] at z;cases z
  have gu:Grow H2 (upd H2 p (.lst (xs.set j v))):=grow_upd nt
  refine wpAny_bind (wpAny_standAt (wpAny_bind (wpAny_holding (thn (set_list pins s2 σ H2 (.ref p) (.int k) v ov iv' u (fun H'=>H'=upd H2 p (.lst (xs.set j v))) I2 r1 r2 r ⟨p,xs,k,j,rfl,rfl,hx,by rw [<- hxi.len];exact hj,rfl⟩) fun _ s3 ⟨H3,I3,e3⟩=>?_))))
  subst e3
  refine wpAny_release ⟨σ,_,G,_,I3,(g1.trans g2).trans gu,R2.to gu (R2.mem.put (u:=.lst (ds.set j d)) nt ⟨_,upd_same,(hxi.grow gu).set j (Is.grow ((g1.trans g2).trans gu) _ _ iv)⟩),q⟩
 ·skip
  rw [is_ref] at i1;subst i1
  rw [is_str] at i2;subst i2
  obtain ⟨ys,hx,hxi⟩:=R2.mem p _ hp
  cases r1
  have nt:∀ zs,H2 p≠some (.tup zs):=fun zs z=>by rw [hx] at z;cases z
  have gu:Grow H2 (upd H2 p (.dK (putK ys (Sum.inr k) v))):=grow_upd nt
  refine wpAny_bind (wpAny_standAt (wpAny_bind (wpAny_holding (d_setItem (by omega) I2 (DPut.k (k:=Sum.inr k) hx (by rw [<- hxi.len];exact hz)) r2 r fun s3 I3=>?_))))
  refine wpAny_release ⟨σ,_,G,_,I3,(g1.trans g2).trans gu,R2.to gu (R2.mem.put (u:=.dic (putD kvs k d)) nt ⟨_,upd_same,(hxi.grow gu).put (Is.grow ((g1.trans g2).trans gu) _ _ iv)⟩),q⟩
end
end D3
namespace K01
theorem fmod_lt {a b:Int} (hb:0 < b):0<=a.fmod b/\a.fmod b < b:=by
 rw [Int.fmod_eq_emod_of_nonneg a (Int.le_of_lt hb)]
 exact ⟨Int.emod_nonneg _ (by omega),Int.emod_lt_of_pos _ hb⟩
def dv (t b:Int):Int:=if b < 0 then -((Int.gcd t b:Nat):Int) else ((Int.gcd t b:Nat):Int)
def tp (t b:Int):Int:=t.fdiv (dv t b)
theorem log2_lt {n k:Nat} (hk:0 < k) (h:n < 2 ^ k):n.log2 < k:=by
 rcases Nat.eq_zero_or_pos n with h0 | hp
 ·rw [h0,Nat.log2_zero];exact hk
 ·exact (Nat.log2_lt (Nat.ne_of_gt hp)).mpr h
end K01
namespace KA
open PySem PySem.Spec PyProof.Rows L2 D3 K01
def Lim (x:Int):Prop:=x.natAbs < 2 ^ 8000
def Cell (c:Int):Prop:=Builtin.Int.intBits c<=2097152
abbrev fr (t b:Int):D:=.tup [.int t,.int b]
def B (n:Nat) (x:Int):Prop:=x.natAbs < 2 ^ n
theorem bits_le {x:Int} {n:Nat} (h:x.natAbs < 2 ^ n):Builtin.Int.intBits x<=n:=by
 unfold Builtin.Int.intBits
 split
 ·exact Nat.zero_le _
 ·rename_i hx
  have:x.natAbs≠0:=by intro z;apply hx;simp;omega
  have:=(Nat.log2_lt this).mpr h
  omega
theorem mul_ok {x y:Int} {m n:Nat} (hx:Builtin.Int.intBits x<=m) (hy:Builtin.Int.intBits y<=n) (h:m+n<=134217728):IntMulOk x y:=by
 unfold IntMulOk
 intro z
 rw [Bool.and_eq_true] at z
 have z2:=z.2
 unfold Builtin.Int.intTooBig at z2
 rw [bitsLine_eq] at z2
 have:=of_decide_eq_true z2
 omega
theorem Lim.div {x y:Int} (h0:y≠0) (hy:Lim y):CDivB x y:=⟨h0,Nat.lt_trans (log2_lt (by decide) hy) (by decide)⟩
theorem B.mulOk {x y:Int} {m n:Nat} (hx:B m x) (hy:B n y) (h:m+n<=134217728):IntMulOk x y:=mul_ok (bits_le hx) (bits_le hy) h
theorem B.mul {x y:Int} {m n:Nat} (hx:B m x) (hy:B n y):B (m+n) (x * y):=by
 unfold B
 rw [Int.natAbs_mul,Nat.pow_add]
 exact Nat.mul_lt_mul'' hx hy
theorem B.up {x:Int} {m n:Nat} (h:m<=n) (hx:B m x):B n x:=Nat.lt_of_lt_of_le hx (Nat.pow_le_pow_right (by decide) h)
theorem B.add {x y:Int} {m:Nat} (hx:B m x) (hy:B m y):B (m+1) (x+y):=by
 unfold B at *
 rw [Nat.pow_succ]
 have:=Int.natAbs_add_le x y
 omega
theorem B.lim {x:Int} {m:Nat} (hx:B m x) (h:m<=8000):Lim x:=B.up (n:=8000) h hx
theorem abs_eq (a:Int):(if a < 0 then -a else a)=(a.natAbs:Int):=by split<;>omega
theorem small {n:Nat} (h:n<=1000):n<=sizeLine:=Nat.le_of_lt (small1000 h)
theorem Ext.refl (M:MH):Ext M M:=fun _ _ h=>h
theorem Ext.trans {M M1 M2:MH} (a:Ext M M1) (b:Ext M1 M2):Ext M M2:=fun x o h=>b x o (a x o h)
def At (K:PySem.W.Frag) (x:Str) (st:Stmt):Prop:=∃ (f:Addr) (od an:Option Addr) (sl:Array (Option Value)) (oc kV dc pm cd ct:Value),PySem.W.nsIn K mainGlobals x=some (some (.ref f))/\K.lookup f=some ⟨oc,od,.func (PySem.W.fnOf x x (defArgs st) (defBody st) (defScope st) .none kV dc pm an cd ct),sl⟩/\PySem.W.codeIn K cd x=true/\PySem.W.keepIn K (.ref f)=true
theorem At.mk {K:PySem.W.Frag} {x:Str} {st:Stmt} {f:Addr} {od an:Option Addr} {sl:Array (Option Value)} {oc kV dc pm cd ct:Value} (a:PySem.W.nsIn K mainGlobals x=some (some (.ref f))) (l:K.lookup f=some ⟨oc,od,.func (PySem.W.fnOf x x (defArgs st) (defBody st) (defScope st) .none kV dc pm an cd ct),sl⟩)
  (c:PySem.W.codeIn K cd x=true) (k:PySem.W.keepIn K (.ref f)=true):At K x st:=⟨f,od,an,sl,oc,kV,dc,pm,cd,ct,a,l,c,k⟩
theorem At.get {K:PySem.W.Frag} {x:Str} {st:Stmt} {h:Heap} {mg:Str->Option Value} (A:At K x st) (X:K.In h) (G:h.Ns mainGlobals mg):∃ f fd,Fun K x x st f fd/\mg x=some (.ref f):=by
 obtain ⟨f,od,an,sl,oc,kV,dc,pm,cd,ct,a,l,c,k⟩:=A
 exact ⟨f,_,fun_mk (st:=st) l c k,PySem.W.mg_of X G a⟩
theorem dvd_cop {y x b:Int} (h:y ∣ x * b) (g:Int.gcd x y=1):y ∣ b:=by
 have h1:y.natAbs ∣ x.natAbs * b.natAbs:=by rw [<- Int.natAbs_mul];exact Int.natAbs_dvd_natAbs.mpr h
 have h2:Nat.Coprime y.natAbs x.natAbs:=by
  show Nat.gcd _ _=1
  rw [Nat.gcd_comm];exact g
 exact Int.natAbs_dvd_natAbs.mp (h2.dvd_of_dvd_mul_left h1)
theorem lowest {x y a b:Int} (hy:0 < y) (hb:0 < b) (h1:Int.gcd x y=1) (h2:Int.gcd a b=1) (h:x * b=a * y):x=a/\y=b:=by
 have d1:y ∣ b:=by
  have:y ∣ x * b:=by rw [h];exact Int.dvd_mul_left _ _
  exact dvd_cop this h1
 have d2:b ∣ y:=by
  have:b ∣ a * y:=by rw [<- h];exact Int.dvd_mul_left _ _
  exact dvd_cop this h2
 have e:y=b:=Int.le_antisymm (Int.le_of_dvd hb d1) (Int.le_of_dvd hy d2)
 subst e
 exact ⟨Int.eq_of_mul_eq_mul_right (by omega) h,rfl⟩
class Bd (x:Int) (n:outParam Nat):Prop where
 h:x.natAbs < 2 ^ n
theorem Bd.b {x:Int} {n:Nat} (i:Bd x n):B n x:=i.h
instance bd_mul {x y:Int} {m n:Nat} [i:Bd x m] [j:Bd y n] : Bd (x * y) (m+n):=⟨B.mul i.h j.h⟩
instance bd_add {x y:Int} {m n:Nat} [i:Bd x m] [j:Bd y n] : Bd (x+y) (max m n+1):=⟨B.add (B.up (Nat.le_max_left ..) i.h) (B.up (Nat.le_max_right ..) j.h)⟩
instance (priority:=low) bd_any {x:Int}:Bd x (x.natAbs.log2+1):=⟨Nat.lt_log2_self⟩
theorem mulOk {x y:Int} {m n:Nat} [i:Bd x m] [j:Bd y n] (h:m+n<=134217728:=by first | decide +kernel | omega):IntMulOk x y:=B.mulOk i.h j.h h
theorem lim {x:Int} {m:Nat} [i:Bd x m] (h:m<=8000:=by first | decide +kernel | omega):Lim x:=B.lim i.h h
theorem divOk {x y:Int} {m:Nat} [i:Bd y m] (h0:y≠0) (h:m<=8000:=by first | decide +kernel | omega):CDivB x y:=Lim.div h0 (lim h)
theorem Bd.up' {x:Int} {m n:Nat} (i:Bd x m) (h:m<=n):Bd x n:=⟨B.up h i.h⟩
theorem Bd.rng {x:Int} {n:Nat} (h1:-((2:Int) ^ n) < x) (h2:x < 2 ^ n):Bd x n:=⟨by
 have e:((2 ^ n:Nat):Int)=(2:Int) ^ n:=by rw [Int.natCast_pow];rfl
 rw [<- e] at h1 h2
 omega⟩
theorem Cell.bd {c:Int} (h:Cell c):Bd c 2097152:=⟨by
 have h:Builtin.Int.intBits c<=2097152:=h
 by_cases z:c.natAbs=0
 ·rw [z];exact Nat.pow_pos (by decide)
 ·have e:Builtin.Int.intBits c=c.natAbs.log2+1:=by
   unfold Builtin.Int.intBits
   rw [if_neg (by simp;omega)]
  rw [e] at h
  exact Nat.lt_of_lt_of_le Nat.lt_log2_self (Nat.pow_le_pow_right (by decide) h)⟩
theorem Cell.of {c:Int} {n:Nat} [i:Bd c n] (h:n<=2097152:=by first | decide +kernel | omega):Cell c:=Nat.le_trans (bits_le i.h) h
def Kp (S:List Addr) (M M':MH):Prop:=∀ b o,b∉S->M b=some o->M' b=some o
theorem Kp.refl (S:List Addr) (M:MH):Kp S M M:=fun _ _ _ h=>h
theorem Kp.trans {S:List Addr} {M M1 M2:MH} (a:Kp S M M1) (b:Kp S M1 M2):Kp S M M2:=fun x o h e=>b x o h (a x o h e)
theorem Kp.mono {S S':List Addr} {M M1:MH} (h:∀ x∈S,x∈S') (a:Kp S M M1):Kp S' M M1:=fun x o n e=>a x o (fun z=>n (h x z)) e
theorem Kp.ext {S:List Addr} {M M1:MH} (a:Ext M M1):Kp S M M1:=fun x o _ e=>a x o e
theorem Kp.new {S:List Addr} {M:MH} {p:Addr} {o:MO} (h:M p=none):Kp S M (mset M p o):=Kp.ext (ext_new h)
theorem Kp.put {S:List Addr} {M:MH} {p:Addr} {o:MO} (h:p∈S):Kp S M (mset M p o):=fun x u n e=>by
 have hx:x≠p:=by intro z;subst z;exact n h
 rw [mset_ne hx];exact e
theorem Kp.at {S:List Addr} {M M':MH} {b:Addr} {o:MO} (a:Kp S M M') (e:M b=some o) (n:b∉S):M' b=some o:=a b o n e
theorem ne_fresh {M:MH} {p q:Addr} {o:MO} (h:M q=some o) (n:M p=none):q≠p:=fun z=>by rw [z,n] at h;cases h
def Pu (M:MH) (p:Addr):Prop:=∃ a b:Int,M p=some (.lst [.int a,.int b])/\0<=a/\0<=b
theorem Pu.kp {S:List Addr} {M M':MH} {p:Addr} (h:Pu M p) (k:Kp S M M') (n:p∉S):Pu M' p:=let ⟨a,b,e,ha,hb⟩:=h;⟨a,b,k p _ n e,ha,hb⟩
theorem Pu.ext {M M':MH} {p:Addr} (h:Pu M p) (k:Ext M M'):Pu M' p:=let ⟨a,b,e,ha,hb⟩:=h;⟨a,b,k p _ e,ha,hb⟩
theorem Pu.some {M:MH} {p:Addr} (h:Pu M p):∃ o,M p=.some o:=let ⟨_,_,e,_⟩:=h;⟨_,e⟩
theorem Pu.ne {M:MH} {p q:Addr} (h:Pu M p) (n:M q=none):p≠q:=let ⟨_,e⟩:=h.some;ne_fresh e n
def spPurse:SpD:=fun ds M Q=>∃ c:Int,ds=[.int c]/\Cell c/\∀ p M',M p=none->Pu M' p->Ext M M'->Q (.ref p) M'
def spTake:SpD:=fun ds M Q=>∃ (p:Addr) (m:Int),ds=[.ref p,.int m]/\Pu M p/\0 < m/\Lim m/\∀ (r:Int) M',0<=r->r < m->Pu M' p->Kp [p] M M'->Q (.int r) M'
theorem cut_mid (ns:List Int) (j k:Nat):D3.cutD (ns.map D.int) (some (j:Int)) (some (k:Int))=((ns.take k).drop j).map D.int:=by
 unfold D3.cutD
 rw [HT.sIx_nat,HT.sIx_nat,List.length_map,List.map_drop,List.map_take,List.drop_take]
 by_cases h:k<=ns.length
 ·rw [Nat.min_eq_left h]
  by_cases hj:j<=ns.length
  ·rw [Nat.min_eq_left hj]
  ·rw [Nat.min_eq_right (by omega),List.drop_of_length_le (by simp),List.drop_of_length_le (by simp;omega),List.take_nil,List.take_nil]
 ·rw [Nat.min_eq_right (by omega)]
  by_cases hj:j<=ns.length
  ·rw [Nat.min_eq_left hj,List.take_of_length_le (by simp),List.take_of_length_le (by simp;omega)]
  ·rw [Nat.min_eq_right (by omega),List.drop_of_length_le (by simp),List.drop_of_length_le (by simp;omega),List.take_nil,List.take_nil]
end KA
namespace D3
open PySem PySem.Spec PyProof.Rows L2
section
variable {X:Cx} {G:Ga} {M:MH} {a b c e o i:Expr} {es rest:List Expr} {pos:Pos} {Q:DK} {Qb:Bool->MH->Prop}
def InL (da db:D) (M:MH) (Qb:Bool->MH->Prop):Prop:=match da,db with
 | .str k,.ref p=>(∃ kvs,M p=some (.dic kvs)/\Qb (lkD kvs k).isSome M)\/(∃ ss:List Str,M p=some (.lst (ss.map D.str))/\Qb (decide (k∈ss)) M)
 | .str k,.tup ds=>∃ ss:List Str,ds=ss.map D.str/\Qb (decide (k∈ss)) M
 | _,_=>False
theorem in_d {k:Str} {p:Addr} {kvs:List (Str × D)} (h:M p=some (.dic kvs)) (q:Qb (lkD kvs k).isSome M):InL (.str k) (.ref p) M Qb:=.inl ⟨kvs,h,q⟩
theorem in_t {k:Str} {ss:List Str} (q:Qb (decide (k∈ss)) M):InL (.str k) (.tup (ss.map D.str)) M Qb:=⟨ss,rfl,q⟩
theorem isl_strs {H:Hp}:∀ {ss:List Str} {vs:List V},IsL H (ss.map D.str) vs->vs=ss.map V.str
 | [],vs,h=>by rw [List.map_nil,isl_nil] at h;exact h
 | s :: r,vs,h=>by
  rw [List.map_cons,isl_cons] at h
  obtain ⟨x,t,rfl,h1,h2⟩:=h
  rw [is_str] at h1;subst h1
  rw [isl_strs h2];rfl
theorem inV_strs (k:Str):∀ ss:List Str,inV (.str k) (ss.map V.str)=decide (k∈ss)
 | []=>by simp [inV]
 | s :: r=>by
  have ih:=inV_strs k r
  unfold inV at ih ⊢
  rw [List.map_cons,List.any_cons,ih]
  show ((s == k) || _)=_
  by_cases h:s=k
  ·subst h;simp
  ·have:¬ k=s:=fun z=>h z.symm
   simp [h,this]
theorem flat_strs (ss:List Str):(ss.map V.str).all flatV=true:=by
 induction ss with
 | nil=>rfl
 | cons s r ih=>rw [List.map_cons,List.all_cons,ih];rfl
theorem op_dIn (hu:X.A.units+1 < cLine):OpR X (compareOp .In) (fun x y H Q=>∃ a o,y=.ref a/\DGet H a x o/\Q (.bl o.isSome) H):=by
 intro pins s σ H x y v u Q I rx ry h
 obtain ⟨a,o,rfl,g,q⟩:=h
 cases ry
 exact d_in hu I g rx fun s' I'=>⟨.bl _,H,I',rfl,q⟩
theorem op_dNotIn (hu:X.A.units+1 < cLine):OpR X (compareOp .NotIn) (fun x y H Q=>∃ a o,y=.ref a/\DGet H a x o/\Q (.bl (!o.isSome)) H):=by
 intro pins s σ H x y v u Q I rx ry h
 obtain ⟨a,o,rfl,g,q⟩:=h
 cases ry
 exact d_notIn hu I g rx fun s' I'=>⟨.bl _,H,I',rfl,q⟩
theorem rd_in (neg:Bool) {da db:D} (h:InL da db M fun k M'=>Q (.bl (if neg then !k else k)) M'):RD X.K (fun x y H Q=>rIn X.K neg x y H Q\/∃ a o,y=.ref a/\DGet H a x o/\Q (.bl (if neg then !o.isSome else o.isSome)) H) da db M Q:=by
 intro H x y kf hx hy m
 unfold InL at h
 split at h
 ·rename_i k p
  rw [is_str] at hx;subst hx
  rw [is_ref] at hy;subst hy
  rcases h with ⟨kvs,h1,q⟩ | ⟨ss,h1,q⟩
  ·obtain ⟨ys,e1,e2⟩:=m p _ h1
   refine .inr ⟨p,_,rfl,DGet.k (k:=Sum.inr k) e1,fun _=>⟨Grow.refl _,_,M,is_bl.mpr rfl,m,?_⟩⟩
   rw [e2.some_eq];exact q
  ·obtain ⟨ys,e1,e2⟩:=m p _ h1
   have e3:=isl_strs e2;subst e3
   refine .inl ⟨p,_,rfl,.inl (SqL.of e1),rfl,flat_strs ss,fun _=>⟨Grow.refl _,_,M,is_bl.mpr rfl,m,?_⟩⟩
   rw [inV_strs];exact q
 ·rename_i k ds
  obtain ⟨ss,rfl,q⟩:=h
  rw [is_str] at hx;subst hx
  rw [is_tup] at hy
  obtain ⟨p,xs,rfl,e1,e2⟩:=hy
  have e3:=isl_strs e2;subst e3
  refine .inl ⟨p,_,rfl,.inr (SqT.of e1),rfl,flat_strs ss,fun _=>⟨Grow.refl _,_,M,is_bl.mpr rfl,m,?_⟩⟩
  rw [inV_strs];exact q
 ·exact h.elim
theorem InL.mono {da db:D} {Qc:Bool->MH->Prop} (h:InL da db M Qb) (k:∀ b,Qb b M->Qc b M):InL da db M Qc:=by
 unfold InL at h ⊢
 split at h
 ·rcases h with ⟨x,y,z⟩ | ⟨x,y,z⟩
  ·exact .inl ⟨x,y,k _ z⟩
  ·exact .inr ⟨x,y,k _ z⟩
 ·obtain ⟨x,y,z⟩:=h;exact ⟨x,y,k _ z⟩
 ·exact h
theorem lt_in (hu:X.A.units+64 < cLine) (h:EV X G M a fun da Ma=>EV X G Ma b fun db Mb=>InL da db Mb Qb) (hm:behindInMarks .In b=false):TV X G M (.Compare a [.In] [b] pos) Qb :=
 tv_cmp (op_in_seq.or (op_dIn (by omega))) hm (h.mono fun _ _ h1=>h1.mono fun _ _ q=>rd_in false (InL.mono q fun k q=>⟨k,rfl,q⟩))
theorem lt_notin (hu:X.A.units+64 < cLine) (h:EV X G M a fun da Ma=>EV X G Ma b fun db Mb=>InL da db Mb fun k M'=>Qb (!k) M') (hm:behindInMarks .NotIn b=false):TV X G M (.Compare a [.NotIn] [b] pos) Qb :=
 tv_cmp (op_notIn_seq.or (op_dNotIn (by omega))) hm (h.mono fun _ _ h1=>h1.mono fun _ _ q=>rd_in true (InL.mono q fun k q=>⟨_,rfl,q⟩))
theorem bootDict:bootBuiltins "dict" = some (.type "dict"):=by decide +kernel
theorem bootSorted:bootBuiltins "sorted" = some (.builtin "sorted"):=by decide +kernel
theorem bootList:bootBuiltins "list" = some (.type "list"):=by decide +kernel
theorem call_dcopy:CallR X (.type "dict") (fun xs H Q=>∃ a kvs,xs=[.ref a]/\H a=some (.dK kvs)/\∀ p,H p=none->Q (.ref p) (upd H p (.dK kvs))):=by
 intro pins s σ H xs us Q I r h
 obtain ⟨a,kvs,rfl,e,q⟩:=h
 obtain ⟨u,rfl,ru⟩:=vals1 r
 cases ru
 exact d_copyOf I (.inl e) fun p s' hp I'=>⟨.ref p,_,I',rfl,q p hp⟩
theorem ev_dictC {p:Pos} (hm:X.mg "dict" = none) (h:AV X G M [e] fun ds M1=>∃ q kvs,ds=[.ref q]/\M1 q=some (.dic kvs)/\∀ r,M1 r=none->Q (.ref r) (mset M1 r (.dic kvs))) (hg:Gl X "dict") (he:SeX X e) (hpl:NpX X pos) :
  EV X G M (.Call (.Name "dict" p) [e] [] pos) Q :=
 ev_callTy call_dcopy hm bootDict (h.mono fun ds M1 ⟨a,kvs,e1,ha,q⟩=>fun H xs kf hx m=>by
  subst e1
  obtain ⟨v,rfl,hv⟩:=isl1 hx
  rw [is_ref] at hv;subst hv
  obtain ⟨ys,e1,e2⟩:=m a _ ha
  exact ⟨a,ys,rfl,e1,fun p hp kf'=>⟨grow_new hp,.ref p,mset M1 p (.dic kvs),is_ref.mpr rfl,m.lay hp ⟨ys,upd_same,e2.grow (grow_new hp)⟩,q p (m.fresh hp kf')⟩⟩) hg (by decide) (by decide) he hpl
theorem tyL {K:PySem.W.Frag} {H:Hp} {p:Addr} {xs:List V} (h:H p=some (.lst xs)):tyV K "list" (.ref p) H:=.inl ⟨rfl,xs,SqL.of h⟩
theorem ev_append {apos cpos:Pos} (h:EV X G M o fun d M1=>∃ p,d=.ref p/\(∃ ds,M1 p=some (.lst ds))/\EV X G M1 e fun d2 M2=>∃ ds,M2 p=some (.lst ds)/\ds.length < sizeLine/\Q .non (mset M2 p (.lst (ds++[d2]))))
  (hbase:attributeBase o "append" X.env (eval o X.env)=eval o X.env)
  (hfew:HfX X cpos e)
  (hline:(apos.endLine == cpos.line)=true) (hs:SeX X e) (hplain:NpX X cpos) :
  EV X G M (.Call (.Attribute o "append" apos) [e] [] cpos) Q:=by
 refine EV.of (pe_bm PySem.F.plainAttrs_list PySem.F.slot_list_append PySem.F.type_list_append mt_append (pe_D (G:=G)) (pa_D (G:=G) (es:=[e])) hbase hfew hline hs hplain) fun σ H kf R=>?_
 refine ⟨M,_,R,h,fun v H' d M' kf' g i R' q=>?_⟩
 obtain ⟨p,rfl,⟨ds,hds⟩,q⟩:=q
 rw [is_ref] at i;subst i
 obtain ⟨xs,hx,_⟩:=R'.mem p _ hds
 refine ⟨tyL hx,M',fun ds2 M2=>∃ d2,ds2=[d2]/\∃ ds,M2 p=some (.lst ds)/\ds.length < sizeLine/\Q .non (mset M2 p (.lst (ds++[d2]))),R',av_cons (q.mono fun d2 M2 q2=>av_nil ⟨d2,rfl,q2⟩) hs,fun vs H2 ds2 M2 kf2 g2 i2 R2 q2=>?_⟩
 obtain ⟨d2,rfl,ds,hp,hz,q2⟩:=q2
 obtain ⟨v2,rfl,hv2⟩:=isl1 i2
 obtain ⟨xs,hx,hxi⟩:=R2.mem p _ hp
 have nt:∀ ys,H2 p≠some (.tup ys):=fun ys z=>by rw [hx] at z;cases z
 have gu:Grow H2 (upd H2 p (.lst (xs++[v2]))):=grow_upd nt
 exact ⟨p,xs,v2,rfl,rfl,hx,by rw [<- hxi.len];exact hz,fun _=>⟨(g.trans g2).trans gu,.non,_,is_non.mpr rfl,R2.mem.put (u:=.lst (ds++[d2])) nt ⟨_,upd_same,(hxi.grow gu).app (isl_cons.mpr ⟨v2,[],rfl,Is.grow gu _ _ hv2,isl_nil.mpr rfl⟩)⟩,q2⟩⟩
theorem ev_tupleC {p:Pos} (hm:X.mg "tuple" = none) (h:AV X G M [e] fun ds M1=>∃ d,ds=[d]/\match d with
   | .ref q=>∃ es,M1 q=some (.lst es)/\Q (.tup es) M1
   | .tup es=>Q (.tup es) M1
   | _=>False) (hg:Gl X "tuple") (he:SeX X e) (hpl:NpX X pos) :
  EV X G M (.Call (.Name "tuple" p) [e] [] pos) Q :=
 ev_callTy call_tuple_of hm bootTuple (h.mono fun ds M1 ⟨d,e1,q⟩=>fun H xs kf hx m=>by
  subst e1
  obtain ⟨v,rfl,hv⟩:=isl1 hx
  cases d with
  | ref a =>
   obtain ⟨es,ha,q⟩:=q
   rw [is_ref] at hv;subst hv
   obtain ⟨ys,e1,e2⟩:=m a _ ha
   exact ⟨a,ys,rfl,.inl ⟨SqL.of e1,fun p hp kf'=>⟨grow_new hp,.tup es,M1,is_tup.mpr ⟨p,ys,rfl,upd_same,e2.grow (grow_new hp)⟩,m.new hp,q⟩⟩⟩
  | tup es =>
   have hv':=hv
   rw [is_tup] at hv
   obtain ⟨a,ys,rfl,e1,e2⟩:=hv
   exact ⟨a,ys,rfl,.inr ⟨SqT.of e1,fun _=>⟨Grow.refl _,.tup es,M1,hv',m,q⟩⟩⟩
  | non=>exact q.elim
  | bl _=>exact q.elim
  | int _=>exact q.elim
  | str _=>exact q.elim
  | ty _=>exact q.elim) hg (by decide) (by decide) he hpl
theorem ev_listC {p:Pos} (hm:X.mg "list" = none) (h:AV X G M [e] fun ds M1=>∃ d,ds=[d]/\match d with
   | .ref q=>∃ es,M1 q=some (.lst es)/\∀ r,M1 r=none->Q (.ref r) (mset M1 r (.lst es))
   | .tup es=>∀ r,M1 r=none->Q (.ref r) (mset M1 r (.lst es))
   | _=>False) (hg:Gl X "list") (he:SeX X e) (hpl:NpX X pos) :
  EV X G M (.Call (.Name "list" p) [e] [] pos) Q :=
 ev_callTy call_list_of hm bootList (h.mono fun ds M1 ⟨d,e1,q⟩=>fun H xs kf hx m=>by
  subst e1
  obtain ⟨v,rfl,hv⟩:=isl1 hx
  cases d with
  | ref a =>
   obtain ⟨es,ha,q⟩:=q
   rw [is_ref] at hv;subst hv
   obtain ⟨ys,e1,e2⟩:=m a _ ha
   exact ⟨a,ys,rfl,.inl (SqL.of e1),fun p hp kf'=>⟨grow_new hp,.ref p,mset M1 p (.lst es),is_ref.mpr rfl,m.lay hp ⟨ys,upd_same,e2.grow (grow_new hp)⟩,q p (m.fresh hp kf')⟩⟩
  | tup es =>
   rw [is_tup] at hv
   obtain ⟨a,ys,rfl,e1,e2⟩:=hv
   exact ⟨a,ys,rfl,.inr (SqT.of e1),fun p hp kf'=>⟨grow_new hp,.ref p,mset M1 p (.lst es),is_ref.mpr rfl,m.lay hp ⟨ys,upd_same,e2.grow (grow_new hp)⟩,q p (m.fresh hp kf')⟩⟩
  | non=>exact q.elim
  | bl _=>exact q.elim
  | int _=>exact q.elim
  | str _=>exact q.elim
  | ty _=>exact q.elim) hg (by decide) (by decide) he hpl
theorem IsL.strs {H:Hp}:∀ {ss:List Str},IsL H (ss.map D.str) (ss.map V.str)
 | []=>isl_nil.mpr rfl
 | s :: r=>isl_cons.mpr ⟨.str s,r.map V.str,rfl,is_str.mpr rfl,IsL.strs⟩
theorem strs_of_vals:∀ {ss:List Str} {us:List Value},Vals (ss.map V.str) us->StrsAre us ss
 | [],us,r=>by cases r;exact .nil
 | s :: r,us,h=>by
  cases h with
  | cons h1 h2 =>
   obtain ⟨t,rfl⟩:=h1
   exact .cons s t (strs_of_vals h2)
theorem vals_of_strs:∀ {ss:List Str} {us:List Value},StrsAre us ss->Vals (ss.map V.str) us
 | _,_,.nil=>.nil
 | _,_,.cons y t r=>.cons ⟨t,rfl⟩ (vals_of_strs r)
theorem call_sortedS:CallR X (.builtin "sorted") (fun xs H Q=>∃ (a:Addr) (ss:List Str),xs=[.ref a]/\H a=some (.lst (ss.map V.str))/\ss.length < 64/\∀ p ss',H p=none->ss'.Perm ss->PyProof.Rows.sortedS ss'=true->Q (.ref p) (upd H p (.lst (ss'.map V.str)))):=by
 intro pins s σ H xs us Q I r h
 obtain ⟨a,ss,rfl,e,h64,q⟩:=h
 obtain ⟨u,rfl,ru⟩:=vals1 r
 cases ru
 obtain ⟨z,its,n,rv,hl,eo⟩:=I.lstM e
 have hl2:its.length=ss.length:=by rw [<- hl,List.length_map]
 refine sorted_strs (l:=a) (vs:=its) ⟨_,eo,rfl,n,rfl⟩ (strs_of_vals rv) (by omega) fun out ss' h1 h2 h3=>?_
 obtain ⟨en,he⟩:=sortedAll_at s.heap its out
 have hf:H (s.heap.objs.size+1)=none:=I.hok.fresh (Nat.le_succ _)
 refine ⟨.ref (s.heap.objs.size+1),_,I.laid (a:=s.heap.objs.size+1) (o:=.lst (ss'.map V.str)) (t':=s.toks) (fun b ob hb=>sortedAll_old hb) (Nat.le_succ _) ⟨?_,out.toList,en,vals_of_strs h1,?_⟩,rfl,q _ ss' hf h2 h3⟩
 ·rw [List.length_map,h2.length_eq];rw [List.length_map] at z;exact z
 ·rw [he]
theorem ev_sortedS {p:Pos} (hm:X.mg "sorted" = none) (h:AV X G M [e] fun ds M1=>∃ (q:Addr) (ss:List Str),ds=[.ref q]/\M1 q=some (.lst (ss.map D.str))/\ss.length < 64/\∀ r ss',M1 r=none->ss'.Perm ss->PyProof.Rows.sortedS ss'=true->Q (.ref r) (mset M1 r (.lst (ss'.map D.str)))) (hg:Gl X "sorted") (he:SeX X e) (hpl:NpX X pos) :
  EV X G M (.Call (.Name "sorted" p) [e] [] pos) Q :=
 ev_callB call_sortedS hm bootSorted (h.mono fun ds M1 ⟨a,ss,e1,ha,h64,q⟩=>fun H xs kf hx m=>by
  subst e1
  obtain ⟨v,rfl,hv⟩:=isl1 hx
  rw [is_ref] at hv;subst hv
  obtain ⟨ys,e1,e2⟩:=m a _ ha
  have e3:=isl_strs e2;subst e3
  refine ⟨a,ss,rfl,e1,h64,fun p ss' hp h1 h2 kf'=>⟨grow_new hp,.ref p,mset M1 p (.lst (ss'.map D.str)),is_ref.mpr rfl,m.lay hp ⟨_,upd_same,?_⟩,q p ss' (m.fresh hp kf') h1 h2⟩⟩
  exact IsL.strs) hg (by decide) (by decide) he hpl
end
def clOf (env:Env):List (Str × NameKind)->List (Str × Addr)->List (Str × Addr)
 | [],acc=>acc
 | (n,k) :: r,acc=>clOf env r (if k == .free then (n,(env.cells.lookup n).getD 0) :: acc else acc)
theorem closure_loop (env:Env):∀ (names:List (Str × NameKind)) (acc:List (Str × Addr)),(∀ x∈names,x.2=.free->(env.cells.lookup x.1).isSome=true) ->
  (forIn names acc fun (x:Str × NameKind) (r:List (Str × Addr))=>(match x with
   | (name,kind)=>if (kind == NameKind.free)=true then do let c <- cellOf env name;pure (ForInStep.yield ((name,c) :: r)) else pure (ForInStep.yield r):Sem (ForInStep (List (Str × Addr)))))=pure (clOf env names acc)
 | [],acc,_=>rfl
 | (n,k) :: r,acc,h=>by
  rw [List.forIn_cons]
  have ih:=fun acc'=>closure_loop env r acc' fun x hx=>h x (List.mem_cons_of_mem _ hx)
  unfold clOf
  by_cases e:(k == NameKind.free)=true
  ·have hc:=h (n,k) (List.mem_cons_self ..) (by simpa using e)
   obtain ⟨c,hc⟩:=Option.isSome_iff_exists.mp hc
   have hc:env.cells.lookup n=some c:=hc
   rw [if_pos e,hc]
   have:cellOf env n=pure c:=by unfold cellOf;rw [hc]
   simp only [e,if_true,this]
   exact ih _
  ·rw [if_neg e]
   simp only [e,if_false]
   exact ih _
theorem closureFor_of {scope:Scope} {env:Env} (h:∀ x∈scope.names,x.2=.free->(env.cells.lookup x.1).isSome=true):closureFor scope env=pure (clOf env scope.names []):=by
 have:=closure_loop env scope.names [] h
 simp only [closureFor]
 simpa using this
theorem clOf_sub (env:Env) (x:Str) (c:Addr):∀ (names:List (Str × NameKind)) (acc:List (Str × Addr)),(∀ y∈names,y.2=.free->(env.cells.lookup y.1).isSome=true)->(∀ c,acc.lookup x=some c->env.cells.lookup x=some c)->(clOf env names acc).lookup x=some c->env.cells.lookup x=some c
 | [],acc,_,ha,h=>ha c h
 | (n,k) :: r,acc,hn,ha,h=>by
  unfold clOf at h
  refine clOf_sub env x c r _ (fun y hy=>hn y (List.mem_cons_of_mem _ hy)) (fun c' hc'=>?_) h
  by_cases e:(k == NameKind.free)=true
  ·rw [if_pos e,List.lookup_cons] at hc'
   by_cases hx:(x == n)=true
   ·rw [hx] at hc'
    have hx':x=n:=by simpa using hx
    subst hx'
    obtain ⟨d,hd⟩:=Option.isSome_iff_exists.mp (hn (x,k) (List.mem_cons_self ..) (by simpa using e))
    have hd:env.cells.lookup x=some d:=hd
    rw [hd] at hc' ⊢
    simpa using hc'
   ·have hx:(x == n)=false:=by simpa using hx
    rw [hx] at hc'
    exact ha c' hc'
  ·rw [if_neg e] at hc'
   exact ha c' hc'
theorem clOf_has (env:Env) (x:Str):∀ (names:List (Str × NameKind)) (acc:List (Str × Addr)),((x,NameKind.free)∈names\/(acc.lookup x).isSome=true)->((clOf env names acc).lookup x).isSome=true
 | [],acc,h=>by rcases h with h | h;cases h;exact h
 | (n,k) :: r,acc,h=>by
  unfold clOf
  refine clOf_has env x r _ ?_
  rcases h with h | h
  ·rcases List.mem_cons.mp h with h | h
   ·cases h
    refine .inr ?_
    rw [if_pos (show (NameKind.free == NameKind.free)=true from rfl),List.lookup_cons,beq_self_eq_true];rfl
   ·exact .inl h
  ·refine .inr ?_
   split
   ·rw [List.lookup_cons]
    cases x == n
    ·exact h
    ·rfl
   ·exact h
theorem mem_of_lookup' {α β:Type} [BEq α] [LawfulBEq α] {k:α} {v:β}:∀ {l:List (α × β)},l.lookup k=some v->(k,v)∈l
 | [],h=>by cases h
 | (a,b) :: r,h=>by
  rw [List.lookup_cons] at h
  cases e:k == a with
  | true =>
   rw [e] at h
   have:k=a:=by simpa using e
   subst this
   cases h
   exact List.mem_cons_self ..
  | false=>rw [e] at h;exact List.mem_cons_of_mem _ (mem_of_lookup' h)
section
variable {X:Cx} {G:Ga} {M:MH} {elt tg iter e:Expr} {ifs:List Expr} {scope:Scope} {pos:Pos} {Q:DK} {own:List Str} {js:List Nat} {N:List Str}
theorem compOk_free {fs:List Str} (hk:scope.kind=.function) (hn:∀ x∈scope.names,x.2=.local->scope.names.lookup x.1=some .local) (hcell:∀ x∈scope.names,x.2≠.cell)
  (hf:∀ x∈scope.names,x.2=.free->(X.env.cells.lookup x.1).isSome=true)
  (hN:N=own++fs) (hl:fs.length=js.length) (hj:∀ (k j:Nat),js[k]?=some j->∃ x,fs[k]?=some x/\X.N[j]?=some x/\X.env.kindOf x=some .cell/\X.env.scope.names.lookup x=some .cell/\scope.names.lookup x=some .free)
  (hfun:X.env.scope.kind=.function):CompOk X own js N scope (clOf X.env scope.names []):=by
 refine ⟨closureFor_of hf,hk,hn,hcell,fun x c e=>clOf_sub X.env x c scope.names [] hf (fun c z=>by cases z) e,fun x h=>?_,fun k j e=>?_,by rw [hN,List.length_append,hl]⟩
 ·refine Option.isSome_iff_exists.mp (clOf_has X.env x scope.names [] (.inl ?_))
  have:∃ k,(x,k)∈(relabel scope X.env).names/\(k=.cell\/k=.free):=by
   rcases h with h | h
   ·exact ⟨_,mem_of_lookup' h,.inl rfl⟩
   ·exact ⟨_,mem_of_lookup' h,.inr rfl⟩
  obtain ⟨k,hm,hk⟩:=this
  unfold relabel at hm
  obtain ⟨⟨n,q⟩,hq,he⟩:=List.mem_map.mp hm
  have he:(if (q == NameKind.free && X.env.scope.kind == .function && X.env.kindOf n == some .cell)=true then (n,NameKind.cell) else (n,q))=(x,k):=he
  split at he
  ·rename_i hc
   injection he with e1 e2
   subst e1
   have:q=.free:=by
    rw [Bool.and_eq_true,Bool.and_eq_true] at hc
    simpa using hc.1.1
   rw [this] at hq;exact hq
  ·injection he with e1 e2
   subst e1;subst e2
   rcases hk with hk | hk
   ·exact absurd hk (hcell _ hq)
   ·rw [hk] at hq;exact hq
 ·obtain ⟨x,h1,h2,h3,h4,h5⟩:=hj k j e
  refine ⟨x,?_,h2,.inr (.inl h4),fun m h u lk=>?_,?_⟩
  ·rw [hN,List.getElem?_append_right (by omega),show own.length+k - own.length=k by omega];exact h1
  ·rcases lk with ⟨z,_⟩ | ⟨_,c,hc,hi⟩
   ·rw [h3] at z;cases z
   ·obtain ⟨c',hc'⟩:=Option.isSome_iff_exists.mp (clOf_has X.env x scope.names [] (.inl (mem_of_lookup' h5)))
    have:=clOf_sub X.env x c' scope.names [] hf (fun c z=>by cases z) hc'
    rw [hc] at this;cases this
    exact ⟨c,hc',hi⟩
  ·refine .inl ?_
   have:∀ names:List (Str × NameKind),names.lookup x=some .free->(names.map fun (y:Str × NameKind)=>match y with | (n,k)=>if (k == NameKind.free && X.env.scope.kind == .function && X.env.kindOf n == some .cell)=true then (n,NameKind.cell) else (n,k)).lookup x=some .cell:=by
    intro names hl
    induction names with
    | nil=>cases hl
    | cons y r ih =>
     obtain ⟨n,q⟩:=y
     rw [List.lookup_cons] at hl
     rw [List.map_cons]
     cases en:x == n with
     | true =>
      rw [en] at hl
      have hx:x=n:=by simpa using en
      subst hx
      injection hl with hl
      subst hl
      have hc:(NameKind.free == NameKind.free && X.env.scope.kind == .function && X.env.kindOf x == some .cell)=true:=by rw [hfun,h3];rfl
      simp only [hc,if_true]
      rw [List.lookup_cons,beq_self_eq_true]
     | false =>
      rw [en] at hl
      have ih:=ih hl
      simp only
      split
      ·rw [List.lookup_cons,en];exact ih
      ·rw [List.lookup_cons,en];exact ih
   exact this scope.names h5
theorem compOk_freeB {fs:List Str} (hk:scope.kind=.function) (hnB:(scope.names.all fun x=>!(x.2 == .local) || scope.names.lookup x.1 == some .local)=true) (hcB:(scope.names.all fun x=>!(x.2 == .cell))=true)
  (hfB:(scope.names.all fun x=>!(x.2 == .free) || (X.env.cells.lookup x.1).isSome)=true)
  (hN:N=own++fs) (hl:fs.length=js.length) (hjB:((fs.zip js).all fun y=>(X.N[y.2]? == some y.1) && (X.env.kindOf y.1 == some .cell) && (X.env.scope.names.lookup y.1 == some .cell) && (scope.names.lookup y.1 == some .free))=true)
  (hfun:X.env.scope.kind=.function):CompOk X own js N scope (clOf X.env scope.names []):=by
 refine compOk_free (fs:=fs) hk (fun x hx e=>?_) (fun x hx e=>?_) (fun x hx e=>?_) hN hl (fun k j e=>?_) hfun
 ·have:=List.all_eq_true.mp hnB x hx
  rw [e] at this
  simpa using this
 ·have:=List.all_eq_true.mp hcB x hx
  rw [e] at this
  cases this
 ·have:=List.all_eq_true.mp hfB x hx
  rw [e] at this
  simpa using this
 ·have hkl:k < fs.length:=by rw [hl];exact (List.getElem?_eq_some_iff.mp e).1
  have hz:(fs.zip js)[k]?=some (fs[k],j):=by
   rw [List.getElem?_zip_eq_some]
   exact ⟨List.getElem?_eq_getElem hkl,e⟩
  have:=List.all_eq_true.mp hjB _ (List.mem_of_getElem? hz)
  rw [Bool.and_eq_true,Bool.and_eq_true,Bool.and_eq_true] at this
  obtain ⟨⟨⟨h1,h2⟩,h3⟩,h4⟩:=this
  exact ⟨fs[k],List.getElem?_eq_getElem hkl,by simpa using h1,by simpa using h2,by simpa using h3,by simpa using h4⟩
theorem ev_comp_range {cl:List (Str × Addr)} {p p2:Pos} (T:CompOk X own js N scope cl) (hxe:X.xe=fun _ _=>False) (hc:X.calm=true) (hm:X.mg "range" = none) (f:D->D) (pr:D->Bool)
  (h:AV X G M [e] fun as M1=>∃ n:Int,as=[.int n]/\0<=n/\n < 1000 /\
   (∀ Y:Cx,(∃ C s H fp,Y=compCx X N scope cl C s H fp)->∀ M',Ext M1 M'->∀ i:Nat,i < n.toNat->GV Y (compG own js G) M' tg (.int i) fun G3 M3=>M3=M'/\Sub (compG own js G) G3/\TVs Y G3 M' ifs (fun k M4=>M4=M'/\k=pr (.int i))/\(pr (.int i)=true->EV Y G3 M' elt fun o M4=>M4=M'/\o=f (.int i))) /\
   ∀ q,M1 q=none->Q (.ref q) (mset M1 q (.lst ((((List.range n.toNat).map fun i:Nat=>D.int i).filter pr).map f))))
  (hg:Gl X "range") (hse:starEach [e] X.env=[(false,eval e X.env)]) (hs:∀ x,foldedSetIterable (.Call (.Name "range" p) [e] [] p2) X.env x=pure x):EV X G M (.ListComp elt [⟨tg,.Call (.Name "range" p) [e] [] p2,ifs,0⟩] scope pos) Q:=by
 refine ev_comp T hxe hc (pi_range1 hg hm (pa_D (G:=G)) hse) f pr (fun σ H kf R=>?_) hs
 refine ⟨M,_,R,h,fun vs H' ds M' kf' g i R' q=>?_⟩
 obtain ⟨n,e,h1,h2,block,fin⟩:=q
 subst e
 obtain ⟨v,rfl,hv⟩:=isl1 i
 rw [is_int] at hv;subst hv
 refine ⟨n,rfl,by omega,by omega,g,M',(List.range n.toNat).map fun i:Nat=>D.int i,R',fun H2 g2 m2=>⟨fun i e=>?_,fun i hlt=>⟨?_,fun x H3 y=>?_⟩⟩,by rw [List.length_map,List.length_range];exact KA.small (by omega),fun Y hY M2 hM d hd=>?_,fin⟩
 ·show n.toNat<=i
  rw [e,List.length_map,List.length_range];exact Nat.le_refl _
 ·show i < n.toNat
  simpa using hlt
 ·obtain ⟨e,y⟩:=y
  subst e;subst y
  have hlt':i < n.toNat:=by simpa using hlt
  exact ⟨Grow.refl _,fun _ _ z=>z,m2,.int i,by rw [List.getElem?_map,List.getElem?_range hlt'];rfl,is_int.mpr (by simp)⟩
 ·obtain ⟨i,hi,e⟩:=List.mem_map.mp hd
  subst e
  exact block Y hY M2 hM i (List.mem_range.mp hi)
def Its (x:Str):It:=⟨fun i _=>∃ c,x.cps[i]?=some c,fun i H v H'=>H'=H/\∃ c,x.cps[i]?=some c/\v=.str ⟨#[c]⟩,fun i _=>x.cps[i]?=none⟩
theorem turn_str {P:Program} {w:World} {K:PySem.W.Frag} {tg:Expr} (it:Addr) (x:Str) (t:Tok):Turn P w K tg (Its x) [it] it (fun i h=>h.IsStrIter it "str_ascii_iterator" x t i) where
 mem:=by simp
 obj:=fun i h st b hb=>by
  have e:b=it:=by simpa using hb
  subst e
  obtain ⟨o,e,c,d⟩:=st
  exact ⟨o,e,fun v z=>by rw [d] at z;cases z⟩
 keep:=fun i h h' st k=>let ⟨o,e,c,d⟩:=st;⟨o,k it (by simp) o e,c,d⟩
 item:=by
  intro X hP hw hK hc i pins s σ H E I hf st hg
  subst hP hw hK
  obtain ⟨c,hx⟩:=hg
  obtain ⟨f0,f1,f2,f3,f4,f5⟩:=hf it (by simp)
  refine wpAny_pyNext_ascii_item st hx fun h' st' sb=>?_
  have I1:L2.Inv X pins σ H { s with heap:=h',toks:=s.toks+1 }:=I.turned (t':=s.toks+1) (fun b o hb e=>(sb.2 b hb).trans e) f0 f1 f3 f4 f5
  obtain ⟨o,e,c',d⟩:=id st'
  exact ⟨_,rfl,go_of (s:={ s with heap:=h',toks:=s.toks+1 }) e c' d (by decide) ⟨.str ⟨#[c]⟩,H,I1,⟨_,rfl⟩,⟨rfl,c,hx,rfl⟩,st',fun b hb=>(hf b hb).1⟩⟩
 done:=by
  intro X hP hw hK hc i pins s σ H E I hf st hg
  subst hP hw hK
  obtain ⟨f0,f1,f2,f3,f4,f5⟩:=hf it (by simp)
  exact wpAny_pyNext_ascii_end (I.ok.hd hc) st hg fun h' eb=>⟨rfl,I.turned (t':=s.toks) (fun b o hb e=>eb b o hb e) f0 f1 f3 f4 f5⟩
 self:=fun _ _ _ _ _ st h=>wpAny_pyIter_striter_ascii st h
def iStr (tl:TE):TI:=fun σ H R=>tl σ H fun x H1=>∃ z,x=.str z/\z.cps.all (· < 128)=true/\R (Its z) H1
theorem pi_str {l:Expr} {tl:TE} (hl:PE X l tl):PI X tg l (iStr tl):=by
 intro pins s σ H R I h
 refine thn (hl pins s σ H _ I h) fun v s1 ⟨x,H1,I1,r1,q1⟩=>?_
 obtain ⟨z,e,ha,q⟩:=q1
 subst e
 obtain ⟨t,rfl⟩:=r1
 refine wpAny_pyIter_ascii ha ?_
 refine ⟨s1.heap.objs.size,[s1.heap.objs.size],_,_,H1,rfl,I1.kept (t':=s1.toks) fun b o e=>Heap.get?_push_of_some _ e,turn_str _ z t,⟨_,Heap.get?_push_size _ rfl,rfl,rfl⟩,fun b hb=>?_,q⟩
 have e:b=s1.heap.objs.size:=by simpa using hb
 subst e
 exact I1.fpOk (Nat.le_refl _) (I1.hok.fresh (Nat.le_refl _))
theorem ev_comp_str {cl:List (Str × Addr)} (T:CompOk X own js N scope cl) (hxe:X.xe=fun _ _=>False) (hc:X.calm=true) (f:D->D) (pr:D->Bool)
  (h:EV X G M iter fun d M1=>∃ z:Str,d=.str z/\z.cps.all (· < 128)=true/\z.cps.size<=1000 /\
   (∀ Y:Cx,(∃ C s H fp,Y=compCx X N scope cl C s H fp)->∀ M',Ext M1 M'->∀ c∈z.cps.toList,GV Y (compG own js G) M' tg (.str ⟨#[c]⟩) fun G3 M3=>M3=M'/\Sub (compG own js G) G3/\TVs Y G3 M' ifs (fun k M4=>M4=M'/\k=pr (.str ⟨#[c]⟩))/\(pr (.str ⟨#[c]⟩)=true->EV Y G3 M' elt fun o M4=>M4=M'/\o=f (.str ⟨#[c]⟩))) /\
   ∀ q,M1 q=none->Q (.ref q) (mset M1 q (.lst (((z.cps.toList.map fun c=>D.str ⟨#[c]⟩).filter pr).map f))))
  (hs:∀ x,foldedSetIterable iter X.env x=pure x):EV X G M (.ListComp elt [⟨tg,iter,ifs,0⟩] scope pos) Q:=by
 refine ev_comp T hxe hc (pi_str (pe_D (G:=G))) f pr (fun σ H kf R=>?_) hs
 refine ⟨M,_,R,h,fun v H' d M' kf' g i R' q=>?_⟩
 obtain ⟨z,e,ha,hz,block,fin⟩:=q
 subst e
 rw [is_str] at i;subst i
 refine ⟨z,rfl,ha,g,M',z.cps.toList.map fun c=>D.str ⟨#[c]⟩,R',fun H2 g2 m2=>⟨fun i e=>?_,fun i hlt=>⟨?_,fun x H3 y=>?_⟩⟩,by rw [List.length_map,Array.length_toList];exact KA.small hz,fun Y hY M2 hM d hd=>?_,fin⟩
 ·show z.cps[i]?=none
  rw [e,List.length_map,Array.length_toList];simp
 ·show ∃ c,z.cps[i]?=some c
  have hlt':i < z.cps.size:=by simpa using hlt
  exact ⟨z.cps[i],by simp [hlt']⟩
 ·obtain ⟨e,c,hcc,y⟩:=y
  subst e;subst y
  exact ⟨Grow.refl _,fun _ _ z=>z,m2,.str ⟨#[c]⟩,by rw [List.getElem?_map,Array.getElem?_toList,hcc];rfl,is_str.mpr rfl⟩
 ·obtain ⟨c,hcc,e⟩:=List.mem_map.mp hd
  subst e
  exact block Y hY M2 hM c hcc
end
end D3
namespace KA
open PySem PySem.Spec PyProof.Rows L2 D3 K01
def tD (t:Str × Int):D:=.tup [.str t.1,.int t.2]
abbrev trm (ts:List (Str × Int)):D:=.tup (ts.map tD)
abbrev nms (ss:List Str):D:=.tup (ss.map D.str)
def Letter (s:Str):Prop:=∃ c,97<=c/\c<=122/\s=⟨#[c]⟩
structure Names (ss:List Str):Prop where
 pos:1<=ss.length
 le:ss.length<=3
 nodup:ss.Nodup
 lett:∀ s∈ss,Letter s
structure Terms (ss:List Str) (ts:List (Str × Int)):Prop where
 sub:(ts.map (·.1)).Sublist ss
 wt:∀ t∈ts,t.2≠0/\B 64 t.2
theorem Terms.len {ss:List Str} {ts:List (Str × Int)} (h:Terms ss ts):ts.length<=ss.length:=by
 have:=h.sub.length_le;rw [List.length_map] at this;exact this
def spCell:SpD:=fun ds M Q=>∃ (l:Addr) (ns:List Int) (k:Int),ds=[.ref l,.int k]/\M l=some (.ro (ns.map D.int))/\(∀ n∈ns,Cell n)/\ns.length<=63/\0<=k/\∀ c,Cell c->Q (.int c) M
def spNumber:SpD:=fun ds M Q=>∃ p,ds=[.ref p]/\Pu M p/\∀ n M',B 64 n->Pu M' p->Kp [p] M M'->Q (.int n) M'
def spTerms:SpD:=fun ds M Q=>∃ p ss,ds=[.ref p,nms ss]/\Pu M p/\ss.length<=3/\∀ ts M',Terms ss ts->Pu M' p->Kp [p] M M'->Q (trm ts) M'
def spSum:SpD:=fun ds M Q=>∃ p ss,ds=[.ref p,nms ss]/\Pu M p/\ss.length<=3/\∀ ts w b M',Terms ss ts->B 64 w->0 < b->B 64 b->Pu M' p->Kp [p] M M'->Q (.tup [trm ts,.int w,.int b]) M'
def word (k:Bool):Str:=if k then "least" else "more"
def spRow:SpD:=fun ds M Q=>∃ p ss,ds=[.ref p,nms ss]/\Pu M p/\ss.length<=3/\∀ k ts w M',Terms ss ts->B 64 w->Pu M' p->Kp [p] M M'->Q (.tup [.str (word k),trm ts,.int w]) M'
def spNames:SpD:=fun ds M Q=>∃ c,ds=[.int c]/\Cell c/\∀ ss M',Names ss->Ext M M'->Q (nms ss) M'
theorem lkD_some {k:Str}:∀ {kvs:List (Str × D)},k∈kvs.map (·.1)->∃ d,lkD kvs k=some d/\(k,d)∈kvs
 | [],h=>by cases h
 | (x,e) :: r,h=>by
  rw [lkD_cons]
  by_cases z:x=k
  ·subst z;rw [if_pos rfl];exact ⟨e,rfl,List.mem_cons_self ..⟩
  ·rw [if_neg z]
   rw [List.map_cons] at h
   rcases List.mem_cons.mp h with h | h
   ·exact absurd h.symm z
   ·obtain ⟨d,h1,h2⟩:=lkD_some h
    exact ⟨d,h1,List.mem_cons_of_mem _ h2⟩
theorem lkD_none {k:Str}:∀ {kvs:List (Str × D)},k∉kvs.map (·.1)->lkD kvs k=none
 | [],h=>rfl
 | (x,e) :: r,h=>by
  rw [List.map_cons] at h
  rw [lkD_cons,if_neg (fun z=>h (by subst z;exact List.mem_cons_self ..))]
  exact lkD_none fun z=>h (List.mem_cons_of_mem _ z)
abbrev rowD (k:Bool) (ts:List (Str × Int)) (b:Int):D:=.tup [.str (word k),trm ts,.int b]
end KA
namespace D3
open PySem PySem.Spec PyProof.Rows L2
section
variable {P:Program} {w:World} {B:Around} {Z:Value->Shared->Prop}
end
section
variable {X:Cx} {G:Ga} {M:MH} {pos:Pos}
end
theorem depthAll_le {n:Nat}:∀ {ds:List D},(∀ d∈ds,(pd d).depth<=n)->PyData.depthAll (pdL ds)<=n
 | [],_=>by simp [pdL,PyData.depthAll]
 | d :: r,h=>by
  have h1:=h d (List.mem_cons_self ..)
  have h2:=depthAll_le (ds:=r) fun x hx=>h x (List.mem_cons_of_mem _ hx)
  simp only [pdL,PyData.depthAll]
  omega
theorem depth_le {n:Nat} {ds:List D} (h:∀ d∈ds,(pd d).depth<=n):(pd (.tup ds)).depth<=n+1:=by
 have:=depthAll_le h
 simp only [pd,PyData.depth]
 omega
theorem immL_of:∀ {ds:List D},(∀ d∈ds,imm d=true)->immL ds=true
 | [],_=>by simp [immL]
 | d :: r,h=>by
  simp only [immL]
  rw [h d (List.mem_cons_self ..),immL_of fun x hx=>h x (List.mem_cons_of_mem _ hx)];rfl
theorem imm_tup {ds:List D} (h:∀ d∈ds,imm d=true):imm (.tup ds)=true:=by simp only [imm];exact immL_of h
theorem eq_self {ds:List D} {M:MH} {Qb:Bool->MH->Prop} (h:imm (.tup ds)=true) (z:(pd (.tup ds)).depth<=60) (q:Qb true M):EqL (.tup ds) (.tup ds) M Qb:=by
 refine ⟨⟨h,h,z⟩,?_⟩
 show Qb (PyData.eqv (pd (.tup ds)) (pd (.tup ds))) M
 rw [PySem.SeqAt.eqv_refl _ (canLay_imm _ h)]
 exact q
theorem eq_self' {d e:D} {ds:List D} {M:MH} {Qb:Bool->MH->Prop} (h1:d=.tup ds) (h2:e=.tup ds) (h:imm (.tup ds)=true) (z:(pd (.tup ds)).depth<=60) (q:Qb true M):EqL d e M Qb:=by
 subst h1;subst h2;exact eq_self h z q
end D3
namespace KA
open PySem PySem.Spec PyProof.Rows L2 D3 K01
theorem Letter.ok {s:Str} (h:Letter s):PyData.strOk s=true:=by
 obtain ⟨c,h1,h2,rfl⟩:=h
 simp [PyData.strOk]
 omega
end KA
namespace D3
open PySem PySem.Spec PyProof.Rows L2
section
variable {X:Cx} {G:Ga} {M:MH} {elt tg iter e:Expr} {scope:Scope} {pos:Pos} {Q:DK} {own:List Str} {js:List Nat} {N:List Str} {cl:List (Str × Addr)}
def WalksV (J:It) (H:Hp) (ds:List D):Prop:=∀ H',Grow H H'->(∀ i,i=ds.length->J.stop i H')/\∀ i,i < ds.length->J.go i H'/\∀ x H2,J.yld i H' x H2->H2=H'/\∃ d,ds[i]?=some d/\Is H' d x
theorem block_nil {Iv:Addr->Nat->List D->MH->Prop} {ds:List D} (block:∀ Y:Cx,(∃ C s H fp,Y=compCx X N scope cl C s H fp)->∀ q i acc M' d,ds[i]?=some d->Iv q i acc M'->M' q=some (.lst acc)->GV Y (compG own js G) M' tg d fun G3 M3=>M3=M'/\Sub (compG own js G) G3/\EV Y G3 M' elt fun o M4=>M4 q=some (.lst acc)/\acc.length < sizeLine/\Iv q (i+1) (acc++[o]) (mset M4 q (.lst (acc++[o])))) :
  ∀ Y:Cx,(∃ C s H fp,Y=compCx X N scope cl C s H fp)->∀ q i acc M' d,ds[i]?=some d->Iv q i acc M'->M' q=some (.lst acc)->GV Y (compG own js G) M' tg d fun G3 M3=>M3=M'/\Sub (compG own js G) G3/\TVs Y G3 M' [] fun k M4=>M4=M'/\if k=true then EV Y G3 M' elt fun o M5=>M5 q=some (.lst acc)/\acc.length < sizeLine/\Iv q (i+1) (acc++[o]) (mset M5 q (.lst (acc++[o]))) else Iv q (i+1) acc M' :=
 fun Y hY q i acc M' d hd v m=>gv_mono (block Y hY q i acc M' d hd v m) fun _ _ ⟨e1,e2,e3⟩=>⟨e1,e2,rfl,by rw [if_pos rfl];exact e3⟩
theorem ev_compI {wi:TI} (T:CompOk X own js N scope cl) (hxe:X.xe=fun _ _=>False) (hc:X.calm=true) (hi:PI X tg iter wi)
  (h:∀ σ H,KF X.K H->Rel X G M σ H->wi σ H fun J H1=>Grow H H1/\∃ (M1:MH) (ds:List D) (Iv:Addr->Nat->List D->MH->Prop),Rel X G M1 σ H1/\WalksV J H1 ds/\(∀ q,M1 q=none->Iv q 0 [] (mset M1 q (.lst []))) /\
   (∀ Y:Cx,(∃ C s H fp,Y=compCx X N scope cl C s H fp)->∀ q i acc M' d,ds[i]?=some d->Iv q i acc M'->M' q=some (.lst acc)->GV Y (compG own js G) M' tg d fun G3 M3=>M3=M'/\Sub (compG own js G) G3/\EV Y G3 M' elt fun o M4=>M4 q=some (.lst acc)/\acc.length < sizeLine/\Iv q (i+1) (acc++[o]) (mset M4 q (.lst (acc++[o])))) /\
   ∀ q acc M',Iv q ds.length acc M'->M' q=some (.lst acc)->Q (.ref q) M')
  (hs:∀ x,foldedSetIterable iter X.env x=pure x:=by intro _;rfl):EV X G M (.ListComp elt [⟨tg,iter,[],0⟩] scope pos) Q :=
 ev_compK T hxe hc hi (fun σ H kf R=>⟨_,h σ H kf R,fun J H1 ⟨g,M1,ds,Iv,R1,w,iv0,b,fin⟩=>⟨g,M1,ds,Iv,R1,fun q i acc M' H' g' _ _=>⟨(w H' g').1 i,fun hlt=>⟨((w H' g').2 i hlt).1,fun x H2 y=>by
  obtain ⟨rfl,z⟩:=((w H' g').2 i hlt).2 x H2 y
  exact ⟨Grow.refl _,fun _ _ z=>z,z⟩⟩⟩,iv0,block_nil b,fin⟩⟩) hs
theorem ev_compR {p p2:Pos} (T:CompOk X own js N scope cl) (hxe:X.xe=fun _ _=>False) (hc:X.calm=true) (hm:X.mg "range" = none)
  (h:AV X G M [e] fun as M1=>∃ (n:Int) (Iv:Addr->Nat->List D->MH->Prop),as=[.int n]/\0<=n/\n < 1000/\(∀ q,M1 q=none->Iv q 0 [] (mset M1 q (.lst []))) /\
   (∀ Y:Cx,(∃ C s H fp,Y=compCx X N scope cl C s H fp)->∀ q i acc M',i < n.toNat->Iv q i acc M'->M' q=some (.lst acc)->GV Y (compG own js G) M' tg (.int (i:Nat)) fun G3 M3=>M3=M'/\Sub (compG own js G) G3/\EV Y G3 M' elt fun o M4=>M4 q=some (.lst acc)/\acc.length < sizeLine/\Iv q (i+1) (acc++[o]) (mset M4 q (.lst (acc++[o])))) /\
   ∀ q acc M',Iv q n.toNat acc M'->M' q=some (.lst acc)->Q (.ref q) M')
  (hg:Gl X "range") (hse:starEach [e] X.env=[(false,eval e X.env)]) (hs:∀ x,foldedSetIterable (.Call (.Name "range" p) [e] [] p2) X.env x=pure x):EV X G M (.ListComp elt [⟨tg,.Call (.Name "range" p) [e] [] p2,[],0⟩] scope pos) Q:=by
 refine ev_compI T hxe hc (pi_range1 hg hm (pa_D (G:=G)) hse) (fun σ H kf R=>?_) hs
 refine ⟨M,_,R,h,fun vs H' ds M' kf' g i R' q=>?_⟩
 obtain ⟨n,Iv,e,h1,h2,iv0,block,fin⟩:=q
 subst e
 obtain ⟨v,rfl,hv⟩:=isl1 i
 rw [is_int] at hv;subst hv
 refine ⟨n,rfl,by omega,by omega,g,M',(List.range n.toNat).map fun i:Nat=>D.int i,Iv,R',fun H2 g2=>⟨fun i e=>?_,fun i hlt=>⟨?_,fun x H3 y=>?_⟩⟩,iv0,fun Y hY q i acc M2 d hd v2 m2=>?_,fun q acc M2 v2 m2=>fin q acc M2 (by rw [List.length_map,List.length_range] at v2;exact v2) m2⟩
 ·show n.toNat<=i
  rw [e,List.length_map,List.length_range];exact Nat.le_refl _
 ·show i < n.toNat
  simpa using hlt
 ·obtain ⟨e,y⟩:=y
  subst e;subst y
  have hlt':i < n.toNat:=by simpa using hlt
  exact ⟨rfl,.int i,by rw [List.getElem?_map,List.getElem?_range hlt'];rfl,is_int.mpr (by simp)⟩
 ·rw [List.getElem?_map] at hd
  have hi:i < n.toNat:=by
   refine Nat.lt_of_not_le fun z=>?_
   rw [List.getElem?_eq_none (by rw [List.length_range];exact z)] at hd;cases hd
  rw [List.getElem?_range hi] at hd
  have hd:D.int (i:Nat)=d:=by simpa using hd
  subst hd
  exact block Y hY q i acc M2 hi v2 m2
end
section
variable {X:Cx} {G:Ga} {M:MH} {elt tg iter e:Expr} {scope:Scope} {pos:Pos} {Q:DK} {own:List Str} {js:List Nat} {N:List Str} {cl:List (Str × Addr)}
theorem ex_compI {wi:TI} {ifs:List Expr} {E:EndsD} {y:Str} {py spos:Pos} (jj:Nat) (T:CompOk X own js N scope cl) (hxe:X.xe=fun _ _=>False) (hc:X.calm=true) (hi:PI X tg iter wi) (hN:X.N.Nodup) (hj:X.N[jj]?=some y) (hy:Loc X.env.scope y) (hyf:X.fn y=true\/X.env.scope.names.lookup y=some .local)
  (hsw:swapsWith (.ListComp elt [⟨tg,iter,ifs,0⟩] scope pos) (some (.Name y py)) spos.line X.env=pure true)
  (h:∀ σ H,KF X.K H->Rel X G M σ H->wi σ H fun J H1=>Grow H H1/\∃ (M1:MH) (ds:List D) (Iv:Addr->Nat->List D->MH->Prop),Rel X G M1 σ H1 /\
   (∀ q i acc M' H',Grow H1 H'->MemOk X.K M' H'->Iv q i acc M'->(i=ds.length->J.stop i H')/\(i < ds.length->J.go i H'/\∀ x H2,J.yld i H' x H2->Grow H' H2/\(∀ b o,H' b=some o->H2 b=some o)/\∃ d,ds[i]?=some d/\Is H2 d x))/\(∀ q,M1 q=none->Iv q 0 [] (mset M1 q (.lst []))) /\
   (∀ Y:Cx,(∃ C s H fp,Y=compCx X N scope cl C s H fp)->∀ q i acc M' d,ds[i]?=some d->Iv q i acc M'->M' q=some (.lst acc)->GV Y (compG own js G) M' tg d fun G3 M3=>M3=M'/\Sub (compG own js G) G3/\TVs Y G3 M' ifs fun k M4=>M4=M'/\if k=true then EV Y G3 M' elt fun o M5=>M5 q=some (.lst acc)/\acc.length < sizeLine/\Iv q (i+1) (acc++[o]) (mset M5 q (.lst (acc++[o]))) else Iv q (i+1) acc M') /\
   ∀ q acc M',Iv q ds.length acc M'->M' q=some (.lst acc)->E.nx (G.set jj (some (.ref q))) M')
  (hs:∀ x,foldedSetIterable iter X.env x=pure x:=by intro _;rfl):EX X G M (.Assign [.Name y py] (.ListComp elt [⟨tg,iter,ifs,0⟩] scope pos) spos) E:=by
 intro pins s σ H I R
 rw [exec_Assign_Name_used _ _ _ _ hsw]
 refine wpAny_bind (wpAny_standAt (wpAny_bind ?_))
 show wpAny _ X.A (do let _ <- comprehension (.ListComp elt [⟨tg,iter,ifs,0⟩] scope pos) scope X.env _ (newList []) false (eval iter X.env) (some (assign (.Name y py) X.env))) _ _ s
 refine wpAny_bind (wpAny_mono (comp_core (use:=some (assign (.Name y py) X.env)) (Qc:=fun _ s'=>SPD X pins H E .next s') (F:=fun q=>E.nx (G.set jj (some (.ref q)))) T hxe hc hi hs I (h σ H (kf_of I) R) (fun J H1 h=>h) fun q M5 C s3 H3 fp σ5 H5 s6 f I3 f3 hC I6 g R5=>?_) (fun _ s' hq=>wpAny_pure (wpAny_pure hq)) fun _ _ e=>e)
 obtain ⟨mm,hmm,_⟩:=id I6.loc
 have IX:Inv X pins σ H5 s6:=Inv.unblock I3 f3 I6 hC (Heap.SameBut.refl C s6.heap)
 have freeC:H5 C=none:=I6.free
 have CneL:C≠X.env.locals:=by rw [hC];exact Nat.ne_of_gt I3.lt
 have CnF:C∉X.fs:=I3.nofs (by rw [hC];exact Nat.le_refl _)
 obtain ⟨oC,esC,epC,hoC,hdC,hrC⟩:=id hmm
 have hoC:s6.heap.get? C=some oC:=hoC
 have IXp:Inv X (pins++[(C,oC)]) σ H5 s6:=IX.pins_of fun z hz=>by
  rcases List.mem_append.mp hz with hz | hz
  ·exact IX.pin z (List.mem_append_right _ hz)
  ·rw [List.mem_singleton.mp hz]
   exact ⟨hoC,freeC,CneL,CnF,fun v e=>by rw [hdC] at e;cases e⟩
 have hl:jj < σ.length:=by rw [IX.len];exact (List.getElem?_eq_some_iff.mp hj).1
 refine wpAny_assign_Name (store_ok IXp hN hj hy (v:=.ref q) rfl (fun s7 I7=>?_) hyf)
 have pC:=I7.pin (C,oC) (List.mem_append_right _ (List.mem_append_right _ (List.mem_singleton.mpr rfl)))
 refine ⟨mm,⟨oC,esC,epC,pC.1,hdC,hrC⟩,fun h' hsb=>?_⟩
 have pinsne:∀ p∈X.pn++pins,p.1≠C:=fun z hz e=>by
  have:=(I3.pin z hz).1
  exact absurd (Heap.lt_size this) (by rw [e,hC];exact Nat.lt_irrefl _)
 have cellne:∀ x c,X.env.cells.lookup x=some c->c≠C:=fun x c e z=>by
  obtain ⟨v,qc⟩:=I3.cell x c e
  exact absurd qc.lt (by rw [z,hC];exact Nat.lt_irrefl _)
 have I8:Inv X pins (σ.set jj (some (.ref q))) H5 { s7 with heap:=h' }:=(I7.unpinned).turned (t':=s7.toks) (it:=C) (fun b o hb e=>(hsb.2 b hb).trans e) freeC CneL (.inr (by rw [hC];exact I3.sz)) cellne pinsne
 exact ⟨_,H5,_,M5,I8,g,R5.set hl (is_ref.mpr rfl),f⟩
theorem ex_compR {E:EndsD} {y:Str} {py spos p p2:Pos} (jj:Nat) (T:CompOk X own js N scope cl) (hxe:X.xe=fun _ _=>False) (hc:X.calm=true) (hm:X.mg "range" = none) (hN:X.N.Nodup) (hj:X.N[jj]?=some y) (hy:Loc X.env.scope y) (hyf:X.fn y=true\/X.env.scope.names.lookup y=some .local)
  (hsw:swapsWith (.ListComp elt [⟨tg,.Call (.Name "range" p) [e] [] p2,[],0⟩] scope pos) (some (.Name y py)) spos.line X.env=pure true)
  (h:AV X G M [e] fun as M1=>∃ (n:Int) (Iv:Addr->Nat->List D->MH->Prop),as=[.int n]/\0<=n/\n < 1000/\(∀ q,M1 q=none->Iv q 0 [] (mset M1 q (.lst []))) /\
   (∀ Y:Cx,(∃ C s H fp,Y=compCx X N scope cl C s H fp)->∀ q i acc M',i < n.toNat->Iv q i acc M'->M' q=some (.lst acc)->GV Y (compG own js G) M' tg (.int (i:Nat)) fun G3 M3=>M3=M'/\Sub (compG own js G) G3/\EV Y G3 M' elt fun o M4=>M4 q=some (.lst acc)/\acc.length < sizeLine/\Iv q (i+1) (acc++[o]) (mset M4 q (.lst (acc++[o])))) /\
   ∀ q acc M',Iv q n.toNat acc M'->M' q=some (.lst acc)->E.nx (G.set jj (some (.ref q))) M')
  (hg:Gl X "range") (hse:starEach [e] X.env=[(false,eval e X.env)]) (hs:∀ x,foldedSetIterable (.Call (.Name "range" p) [e] [] p2) X.env x=pure x):EX X G M (.Assign [.Name y py] (.ListComp elt [⟨tg,.Call (.Name "range" p) [e] [] p2,[],0⟩] scope pos) spos) E:=by
 refine ex_compI jj T hxe hc (pi_range1 hg hm (pa_D (G:=G)) hse) hN hj hy hyf hsw (fun σ H kf R=>?_) hs
 refine ⟨M,_,R,h,fun vs H' ds M' kf' g i R' q=>?_⟩
 obtain ⟨n,Iv,e,h1,h2,iv0,block,fin⟩:=q
 subst e
 obtain ⟨v,rfl,hv⟩:=isl1 i
 rw [is_int] at hv;subst hv
 refine ⟨n,rfl,by omega,by omega,g,M',(List.range n.toNat).map fun i:Nat=>D.int i,Iv,R',fun q i acc M2 H2 g2 m2 v2=>⟨fun e=>?_,fun hlt=>⟨?_,fun x H3 y=>?_⟩⟩,iv0,fun Y hY q i acc M2 d hd v2 m2=>?_,fun q acc M2 v2 m2=>fin q acc M2 (by rw [List.length_map,List.length_range] at v2;exact v2) m2⟩
 ·show n.toNat<=i
  rw [e,List.length_map,List.length_range];exact Nat.le_refl _
 ·show i < n.toNat
  simpa using hlt
 ·obtain ⟨e,y⟩:=y
  subst e;subst y
  have hlt':i < n.toNat:=by simpa using hlt
  exact ⟨Grow.refl _,fun _ _ z=>z,.int i,by rw [List.getElem?_map,List.getElem?_range hlt'];rfl,is_int.mpr (by simp)⟩
 ·rw [List.getElem?_map] at hd
  have hi:i < n.toNat:=by
   refine Nat.lt_of_not_le fun z=>?_
   rw [List.getElem?_eq_none (by rw [List.length_range];exact z)] at hd;cases hd
  rw [List.getElem?_range hi] at hd
  have hd:D.int (i:Nat)=d:=by simpa using hd
  subst hd
  have:=block Y hY q i acc M2 hi v2 m2
  intro pins s σ H v u I R r i1
  refine thn (this pins s σ H v u I R r i1) fun _ s2 h2=>?_
  obtain ⟨σ2,H2,G2,M3,I2,g2,R2,e1,e2,e3⟩:=h2
  exact ⟨σ2,H2,G2,M3,I2,g2,R2,e1,e2,⟨rfl,by rw [if_pos rfl];exact e3⟩⟩
theorem ex_comp_tup {E:EndsD} {ifs:List Expr} {y:Str} {py spos:Pos} (jj:Nat) (T:CompOk X own js N scope cl) (hxe:X.xe=fun _ _=>False) (hc:X.calm=true) (hN:X.N.Nodup) (hj:X.N[jj]?=some y) (hy:Loc X.env.scope y) (hyf:X.fn y=true\/X.env.scope.names.lookup y=some .local)
  (hsw:swapsWith (.ListComp elt [⟨tg,iter,ifs,0⟩] scope pos) (some (.Name y py)) spos.line X.env=pure true) (f:D->D) (pr:D->Bool)
  (h:EV X G M iter fun d M1=>∃ ds:List D,d=.tup ds/\ds.length<=sizeLine /\
   (∀ Y:Cx,(∃ C s H fp,Y=compCx X N scope cl C s H fp)->∀ M',Ext M1 M'->∀ d∈ds,GV Y (compG own js G) M' tg d fun G3 M3=>M3=M'/\Sub (compG own js G) G3/\TVs Y G3 M' ifs (fun k M4=>M4=M'/\k=pr d)/\(pr d=true->EV Y G3 M' elt fun o M4=>M4=M'/\o=f d)) /\
   ∀ q,M1 q=none->E.nx (G.set jj (some (.ref q))) (mset M1 q (.lst ((ds.filter pr).map f))))
  (hs:∀ x,foldedSetIterable iter X.env x=pure x):EX X G M (.Assign [.Name y py] (.ListComp elt [⟨tg,iter,ifs,0⟩] scope pos) spos) E:=by
 refine ex_compI jj T hxe hc (pi_tup (pe_D (G:=G))) hN hj hy hyf hsw (fun σ H kf R=>?_) hs
 refine ⟨M,_,R,h,fun v H' d M' kf' g i R' q=>?_⟩
 obtain ⟨ds,e,hz,block,fin⟩:=q
 subst e
 rw [is_tup] at i
 obtain ⟨l,xs,rfl,hx,hxi⟩:=i
 have hlen:=hxi.len
 refine ⟨l,rfl,⟨xs,SqT.of hx⟩,g,M',ds,fun q i acc M2=>M' q=none/\M2=mset M' q (.lst acc)/\acc=((ds.take i).filter pr).map f,R',fun q i acc M2 H2 g2 m2 v2=>?_,fun q hq=>⟨hq,rfl,by simp⟩,pure_block hz block,fun q acc M2 ⟨h1,h2,h3⟩ _=>by rw [h2,h3,List.take_length];exact fin q h1⟩
 have hx2:SqT X.K H2 l xs:=SqT.of (g2 _ _ hx)
 refine ⟨fun e=>⟨xs,hx2,by omega⟩,fun hlt=>⟨⟨xs,xs[i]'(by omega),hx2,by simp⟩,fun x H3 y=>?_⟩⟩
 obtain ⟨e,y⟩:=y
 subst e
 have e1:=y xs hx2
 obtain ⟨d,e2,i2⟩:=(hxi.grow g2).get' e1
 exact ⟨Grow.refl _,fun _ _ z=>z,d,e2,i2⟩
theorem ex_comp_list {E:EndsD} {ifs:List Expr} {y:Str} {py spos:Pos} (jj:Nat) (T:CompOk X own js N scope cl) (hxe:X.xe=fun _ _=>False) (hc:X.calm=true) (hN:X.N.Nodup) (hj:X.N[jj]?=some y) (hy:Loc X.env.scope y) (hyf:X.fn y=true\/X.env.scope.names.lookup y=some .local)
  (hsw:swapsWith (.ListComp elt [⟨tg,iter,ifs,0⟩] scope pos) (some (.Name y py)) spos.line X.env=pure true) (f:D->D) (pr:D->Bool)
  (h:EV X G M iter fun d M1=>∃ (l:Addr) (ds:List D),d=.ref l/\(M1 l=some (.lst ds)\/M1 l=some (.ro ds))/\ds.length<=sizeLine /\
   (∀ Y:Cx,(∃ C s H fp,Y=compCx X N scope cl C s H fp)->∀ M',Ext M1 M'->∀ d∈ds,GV Y (compG own js G) M' tg d fun G3 M3=>M3=M'/\Sub (compG own js G) G3/\TVs Y G3 M' ifs (fun k M4=>M4=M'/\k=pr d)/\(pr d=true->EV Y G3 M' elt fun o M4=>M4=M'/\o=f d)) /\
   ∀ q,M1 q=none->E.nx (G.set jj (some (.ref q))) (mset M1 q (.lst ((ds.filter pr).map f))))
  (hs:∀ x,foldedSetIterable iter X.env x=pure x):EX X G M (.Assign [.Name y py] (.ListComp elt [⟨tg,iter,ifs,0⟩] scope pos) spos) E:=by
 refine ex_compI jj T hxe hc (pi_list (pe_D (G:=G))) hN hj hy hyf hsw (fun σ H kf R=>?_) hs
 refine ⟨M,_,R,h,fun v H' d M' kf' g i R' q=>?_⟩
 obtain ⟨l,ds,e,hl,hz,block,fin⟩:=q
 subst e
 rw [is_ref] at i;subst i
 have sq:∀ {H2:Hp},MemOk X.K M' H2->∃ xs,SqL X.K H2 l xs/\IsL H2 ds xs:=fun {H2} m=>by
  rcases hl with hl | hl
  ·obtain ⟨xs,h1,h2⟩:=m l _ hl;exact ⟨xs,SqL.of h1,h2⟩
  ·exact m l _ hl
 obtain ⟨xs0,hx0,_⟩:=sq R'.mem
 refine ⟨l,rfl,⟨xs0,hx0⟩,g,M',ds,fun q i acc M2=>M' q=none/\M2=mset M' q (.lst acc)/\acc=((ds.take i).filter pr).map f,R',fun q i acc M2 H2 g2 m2 v2=>?_,fun q hq=>⟨hq,rfl,by simp⟩,pure_block hz block,fun q acc M2 ⟨h1,h2,h3⟩ _=>by rw [h2,h3,List.take_length];exact fin q h1⟩
 obtain ⟨xs,hx2,hxi⟩:=sq (m2.ext (by rw [v2.2.1];exact ext_new v2.1))
 have hlen:=hxi.len
 refine ⟨fun e=>⟨xs,hx2,by omega⟩,fun hlt=>⟨⟨xs,xs[i]'(by omega),hx2,by simp⟩,fun x H3 y=>?_⟩⟩
 obtain ⟨e,y⟩:=y
 subst e
 have e1:=y xs hx2
 obtain ⟨d,e2,i2⟩:=hxi.get' e1
 exact ⟨Grow.refl _,fun _ _ z=>z,d,e2,i2⟩
end
section
variable {P:Program} {w:World} {B:Around} {Z:Value->Shared->Prop} {c t:Addr} {a:Nat} {xs:Array Value} {st:Shared} {R:Value->Shared->Prop}
theorem off_tuple {x:Value} (hi:st.heap.IsTupleIter c t a) (ht:st.heap.IsTuple t xs) (hx:xs[a]?=some x)
  (k:∀ g,g.IsTupleIter c t (a+1)->Heap.SameBut c st.heap g->R x { st with heap:=g }):wpAny (model P w) B (Builtin.SmallTypes.nextOf (.ref c)) R Z st:=by
 obtain ⟨oc,e1,e2,e3⟩:=id hi
 obtain ⟨ot,f1,f2,m,f3⟩:=ht
 unfold Builtin.SmallTypes.nextOf
 refine wpAny_bind (wpAny_callSpecial?_slot (name:=Str.ofString "__next__") hi.typeIs F.slot_tuple_iterator_next (wpAny_call_entry F.slot_tuple_iterator_next hi.typeIs F.entry_tuple_iterator_next ?_ (F.args_tuple_iterator_next_1 _)))
 show wpAny _ _ (field (.ref c) 0 >>= _) _ _ st
 refine wpAny_bind (wpAny_field e1 e3 (x:=.ref t) rfl ?_)
 have far:¬ ((Value.ref t == Value.none)=true):=Bool.false_ne_true
 show wpAny _ _ (if (Value.ref t == Value.none)=true then _ else _) _ _ st
 rw [if_neg far]
 show wpAny _ _ (field (.ref c) 1 >>= _) _ _ st
 refine wpAny_bind (wpAny_field e1 e3 (x:=.int a 0) rfl ?_)
 show wpAny _ _ (seqItems? (.ref t) >>= _) _ _ st
 refine wpAny_bind (wpAny_seqItems f1 f3 ?_)
 simp only [Int.toNat_natCast,hx]
 refine wpAny_bind (wpAny_setField e1 e3 (by simp) (wpAny_pure ⟨x,rfl,wpAny_pure (k _ ⟨_,Heap.get?_update_self _ e1 (Obj.isFreed_of_fields (Obj.data_mapFields e3 _)),(Obj.cls_mapFields ..).trans e2,?_⟩ (Heap.SameBut.update ..))⟩))
 rw [Obj.data_mapFields e3];simp [rawInt]
theorem out_tuple (calm:B.handled=none) (hi:st.heap.IsTupleIter c t a) (ht:st.heap.IsTuple t xs) (hx:xs[a]?=none)
  (k:∀ g e,Heap.ExtBut c st.heap g->(∃ o,g.get? e=some o/\o.cls=.type "StopIteration")->Z (.ref e) { st with heap:=g }):wpAny (model P w) B (Builtin.SmallTypes.nextOf (.ref c)) R Z st:=by
 obtain ⟨oc,e1,e2,e3⟩:=id hi
 obtain ⟨ot,f1,f2,m,f3⟩:=ht
 unfold Builtin.SmallTypes.nextOf
 refine wpAny_bind (wpAny_callSpecial?_slot (name:=Str.ofString "__next__") hi.typeIs F.slot_tuple_iterator_next (wpAny_call_entry F.slot_tuple_iterator_next hi.typeIs F.entry_tuple_iterator_next ?_ (F.args_tuple_iterator_next_1 _)))
 show wpAny _ _ (field (.ref c) 0 >>= _) _ _ st
 refine wpAny_bind (wpAny_field e1 e3 (x:=.ref t) rfl ?_)
 have far:¬ ((Value.ref t == Value.none)=true):=Bool.false_ne_true
 show wpAny _ _ (if (Value.ref t == Value.none)=true then _ else _) _ _ st
 rw [if_neg far]
 show wpAny _ _ (field (.ref c) 1 >>= _) _ _ st
 refine wpAny_bind (wpAny_field e1 e3 (x:=.int a 0) rfl ?_)
 show wpAny _ _ (seqItems? (.ref t) >>= _) _ _ st
 refine wpAny_bind (wpAny_seqItems f1 f3 ?_)
 simp only [Int.toNat_natCast,hx]
 refine wpAny_bind (wpAny_rule (wpAny_bind (wpAny_setField e1 e3 (by simp) (show wpAny _ _ (newExc (.type "StopIteration") [] >>= _) _ _ _ from wpAny_bind ?_))))
 simp only [newExc,newTuple]
 refine wpAny_bind (wpAny_newObj_type (wpAny_bind (m:=firstArgMember _ _) (wpAny_of_eq (a:=Value.none) (by first | rfl | (simp only [firstArgMember];rfl)) (wpAny_newObj_type ?_ (by size_fits)))) (by size_fits))
 simp only [raiseNew]
 refine wpAny_bind (wpAny_handled ?_)
 first | rw [show B.in1.handled=none from calm] | rw [calm]
 exact wpAny_bind (wpAny_pure (wpAny_throw (k _ _ (((Heap.SameBut.update ..).extBut.push _).push _) ⟨_,Heap.get?_push_size _ rfl,rfl⟩)))
end
theorem draws_tuple {P:Program} {w:World} {B:Around} (calm:B.handled=none) (c t:Addr) (far:t≠c) (xs:Array Value) :
  Draws P w B c [c,t] xs.size (fun i v=>xs[i]?=some v) (fun i h=>h.IsTupleIter c t i/\h.IsTuple t xs) where
 live:=fun _ _ q=>let ⟨o,e,_⟩:=q.1;⟨o,e⟩
 frame:=fun _ _ _ q k=>⟨q.1.at fun o e=>k c (by simp) o e,let ⟨o,e,r⟩:=q.2;⟨o,k t (by simp) o e,r⟩⟩
 item:=fun i st R Z lt q k=>by
  refine off_tuple q.1 q.2 (x:=xs[i]) (by simp [lt]) fun g h1 h2=>k _ g st.toks (by simp [lt]) ⟨h1,q.2.extBut h2.extBut far⟩ h2
 done:=fun st R Z q k=>out_tuple calm q.1 q.2 (by simp) k
open AutoSeq1 (wpAny_loadPart')
theorem new_enum (t:Addr) (xs:Array Value) (m:Nat) (dc:Option Addr) (sl:Array (Option Value)) :
  Meets (Builtin.«enumerate.__new__» ⟨[.type "enumerate",.ref t],[]⟩) (fun _ R st=>st.heap.get? t=some { cls:=.type "tuple",dict:=dc,data:=.seq xs m,slots:=sl } /\
   R (.ok (.ret (.ref (st.heap.push { cls:=.type "tuple_iterator",data:=.fields #[.ref t,.int 0 0] }).objs.size)))
    { st with heap:=(st.heap.push { cls:=.type "tuple_iterator",data:=.fields #[.ref t,.int 0 0] }).push { cls:=.type "enumerate",data:=.fields #[.none,.bool false,.ref st.heap.objs.size,rawInt 0,.none,.none] } }) :=
 .of_wp fun P w B R st q=>by
  obtain ⟨hp,gs,dr,tk,os⟩:=st
  obtain ⟨e1,q⟩:=q
  have sub:=sub_enumerate
  have hT:Heap.IsTuple (Shared.heap ⟨hp,gs,dr,tk,os⟩) t xs:=⟨_,e1,rfl,m,rfl⟩
  wp_walk using wpAny_loadPart' e1
  refine wpAny_stack_any fun _=>wpAny_pure ?_
  split
  ·rename_i k _ _ _ _ _
   cases (k == Value.type "enumerate")<;>(wp_walk using wpAny_loadPart' e1,wpAny_pyIter_tuple hT;exact ⟨_,rfl,q⟩)
  ·wp_walk using wpAny_loadPart' e1,wpAny_pyIter_tuple hT
   exact ⟨_,rfl,q⟩
theorem call_enum {P:Program} {w:World} {B:Around} {Z:Value->Shared->Prop} {st:Shared} {t:Addr} {xs:Array Value} {R:Value->Shared->Prop} (ht:st.heap.IsTuple t xs)
  (k:∀ g,IsEnum g (st.heap.objs.size+1) st.heap.objs.size 0 .none->g.IsTupleIter st.heap.objs.size t 0->(∀ b o,st.heap.get? b=some o->g.get? b=some o)->R (.ref (st.heap.objs.size+1)) { st with heap:=g }) :
  wpAny (model P w) B (call (.type "enumerate") [.ref t]) R Z st:=by
 obtain ⟨⟨cl,dc,dt,sl⟩,e1,e2,m,e3⟩:=ht
 replace e2:cl=.type "tuple" := e2
 replace e3:dt=.seq xs m:=e3
 subst e2 e3
 refine callType_new F.called_enumerate (by decide) (F.typeCall_enumerate_1 _) (F.newCall_enumerate_1 _) (fun o=>F.args_object_init_2 o _) F.entry_enumerate_new (new_enum t xs m dc sl) ⟨e1,?_⟩
 have sz:(st.heap.push { cls:=.type "tuple_iterator",data:=.fields #[.ref t,.int 0 0] }).objs.size=st.heap.objs.size+1:=Heap.size_push ..
 have en:IsEnum ((st.heap.push { cls:=.type "tuple_iterator",data:=.fields #[.ref t,.int 0 0] }).push { cls:=.type "enumerate",data:=.fields #[.none,.bool false,.ref st.heap.objs.size,rawInt 0,.none,.none] }) (st.heap.objs.size+1) st.heap.objs.size 0 .none:=by
  rw [<- sz]
  exact Heap.get?_push_size _ rfl
 show _/\_
 rw [sz]
 exact ⟨⟨_,en,rfl⟩,k _ en ⟨_,Heap.get?_push_of_some _ (Heap.get?_push_size _ rfl),rfl,rfl⟩ fun b o x=>Heap.get?_push_of_some _ (Heap.get?_push_of_some _ x)⟩
theorem turned2 {X:Cx} {pins:List (Addr × Obj)} {σ:St} {H:Hp} {s:Shared} {g:Heap} {e it:Addr} {tk:Nat} (I:L2.Inv X pins σ H s) (fe:FpOk X pins H e) (fi:FpOk X pins H it) (ne:e≠it)
  (he:∃ o,s.heap.get? e=some o) (hi:∃ o,s.heap.get? it=some o) (ke:∃ o,g.get? e=some o) (ki:∃ o,g.get? it=some o) (k:∀ b o,b≠e->b≠it->s.heap.get? b=some o->g.get? b=some o) :
  ∃ m:Heap,L2.Inv X pins σ H { s with heap:=m,toks:=tk }/\m.objs.size=s.heap.objs.size/\∀ b o,m.get? b=some o->g.get? b=some o:=by
 obtain ⟨oe,he⟩:=he
 obtain ⟨oi,hi⟩:=hi
 obtain ⟨ue,ke⟩:=ke
 obtain ⟨ui,ki⟩:=ki
 obtain ⟨a0,a1,a2,a3,a4,a5⟩:=fi
 obtain ⟨b0,b1,b2,b3,b4,b5⟩:=fe
 have s1:Heap.SameBut it s.heap (s.heap.update it fun _=>ui):=Heap.SameBut.update ..
 have s2:Heap.SameBut e (s.heap.update it fun _=>ui) ((s.heap.update it fun _=>ui).update e fun _=>ue):=Heap.SameBut.update ..
 have g1:(s.heap.update it fun _=>ui).get? it=some ui:=Heap.get?_update_self (fun _=>ui) hi (Heap.get?_some_iff.mp ki).2
 have g2:((s.heap.update it fun _=>ui).update e fun _=>ue).get? e=some ue:=Heap.get?_update_self (fun _=>ue) ((s1.2 e ne).trans he) (Heap.get?_some_iff.mp ke).2
 have I1:L2.Inv X pins σ H { s with heap:=s.heap.update it fun _=>ui }:=I.turned (t':=s.toks) (fun b o hb q=>(s1.2 b hb).trans q) a0 a1 a3 a4 a5
 have I2:L2.Inv X pins σ H { s with heap:=(s.heap.update it fun _=>ui).update e fun _=>ue,toks:=tk }:=I1.turned (fun b o hb q=>(s2.2 b hb).trans q) b0 b1 b3 b4 b5
 refine ⟨_,I2,s2.1.trans s1.1,fun b o q=>?_⟩
 by_cases z:b=e
 ·subst z;rw [g2] at q;rw [<- q];exact ke
 ·rw [s2.2 b z] at q
  by_cases z':b=it
  ·subst z';rw [g1] at q;rw [<- q];exact ki
  ·rw [s1.2 b z'] at q
   exact k b o z z' q
def Ite (K:PySem.W.Frag) (a:Addr):It :=
 ⟨fun i H=>∃ xs x,SqT K H a xs/\xs[i]?=some x,fun i H v H'=>∃ T x,v=.ref T/\H T=none/\H'=upd H T (.tup [.int i,x])/\∀ xs,SqT K H a xs->xs[i]?=some x,fun i H=>∃ xs,SqT K H a xs/\xs.length=i⟩
theorem turn_enum {P:Program} {w:World} {K:PySem.W.Frag} {ts:List Expr} {n:Nat} {pos:Pos} (a e it:Addr) (ne:e≠it) (ha:a≠e) (hb:a≠it) :
  Turn P w K (.Tuple ts n pos) (Ite K a) [e,it] e (fun i h=>(∃ old,IsEnum h e it i old)/\h.IsTupleIter it a i) where
 mem:=by simp
 obj:=fun i h q b hb=>by
  obtain ⟨⟨old,q1⟩,o,q2,_,q3⟩:=q
  rcases List.mem_cons.mp hb with z | z
  ·subst z;exact ⟨_,q1,fun v z=>by
    have z':Data.fields _=Data.cell v:=z
    cases z'⟩
  ·rw [List.mem_singleton.mp z];exact ⟨o,q2,fun v z=>by rw [q3] at z;cases z⟩
 keep:=fun i h h' q k=>⟨let ⟨old,q1⟩:=q.1;⟨old,k e (by simp) _ q1⟩,q.2.at fun o z=>k it (by simp) o z⟩
 item:=by
  intro X hP hw hK hc i pins s σ H E I hf q hg
  subst hP hw hK
  obtain ⟨xs,x,hq,hx⟩:=hg
  obtain ⟨its,rv,p,hz⟩:=I.tuple hq
  obtain ⟨u,hu,ru⟩:=rv.get hx
  obtain ⟨⟨old,q1⟩,q2⟩:=q
  have lt:i < its.toArray.size:=by
   have:=(List.getElem?_eq_some_iff.mp hu).1
   simpa using this
  refine wpAny_pyNext_enum_itemD (draws_tuple (B:=X.A.in1) (I.ok.hd hc) it a hb its.toArray) q1 ⟨q2,p⟩ lt ne (by simp [ne,ha.symm]) fun v g tk hv r1 r2 r3 r4 r5=>?_
  have ev:v=u:=by
   have h1:its[i]?=some v:=by simpa using hv
   rw [hu] at h1;exact (Option.some.inj h1).symm
  subst ev
  refine ⟨_,rfl,wpAny_letOwnedTupleGo_enum r1 fun g' s1 s2=>?_⟩
  have s2':∀ b,b≠e->g'.get? b=g.get? b:=s2.2
  have hT:e≠s.heap.objs.size:=Nat.ne_of_lt (Heap.lt_size q1)
  have hT':it≠s.heap.objs.size:=by obtain ⟨o,z,_⟩:=q2;exact Nat.ne_of_lt (Heap.lt_size z)
  obtain ⟨oi,zi,_⟩:=id r2.1
  obtain ⟨m,I1,sz,km⟩:=turned2 (tk:=tk+1) I (hf e (by simp)) (hf it (by simp)) ne ⟨_,q1⟩ (let ⟨o,z,_⟩:=q2;⟨o,z⟩) ⟨_,s1⟩ ⟨oi,(s2' it ne.symm).trans zi⟩ fun b o h1 h2 z=>(s2' b h1).trans (r5 b o h1 h2 z)
  have fr:H s.heap.objs.size=none:=I.hok.fresh (Nat.le_refl _)
  refine ⟨.ref s.heap.objs.size,upd H s.heap.objs.size (.tup [.int i,x]),I1.laid (t':=tk+1) (o:=.tup [.int i,x]) km (Nat.le_of_eq sz) ⟨⟨show 2<=sizeLine by decide,_,(s2' _ hT.symm).trans r3,rfl⟩,[.int i tk,v],.cons ⟨tk,rfl⟩ (.cons ru .nil),⟨_,(s2' _ hT.symm).trans r3,rfl,_,rfl⟩⟩,rfl,⟨_,x,rfl,fr,rfl,fun ys hy=>by rw [I.tuple_inj hy hq];exact hx⟩,⟨⟨_,s1⟩,r2.1.at fun o z=>(s2' it ne.symm).trans z⟩,fun b hb=>?_⟩
  rcases List.mem_cons.mp hb with z | z
  ·subst z;rw [upd_ne hT];exact (hf b (by simp)).1
  ·rw [List.mem_singleton.mp z,upd_ne hT'];exact (hf it (by simp)).1
 done:=by
  intro X hP hw hK hc i pins s σ H E I hf q hg
  subst hP hw hK
  obtain ⟨xs,hq,hx⟩:=hg
  obtain ⟨its,rv,p,hz⟩:=I.tuple hq
  obtain ⟨⟨old,q1⟩,q2⟩:=q
  have hl:its.toArray.size=i:=by rw [<- hx,rv.length];simp
  subst hl
  obtain ⟨f0,f1,f2,f3,f4,f5⟩:=hf it (by simp)
  exact wpAny_pyNext_enum_endD (draws_tuple (B:=X.A.in1) (I.ok.hd hc) it a hb its.toArray) q1 ⟨q2,p⟩ fun g eb=>⟨rfl,I.turned (t':=s.toks) (fun b o z y=>eb b o z y) f0 f1 f3 f4 f5⟩
 self:=fun _ _ _ _ _ q h=>let ⟨_,q1⟩:=q.1;wpAny_pyIter_enum q1 h
section
variable {X:Cx} {ts:List Expr} {n:Nat} {tp:Pos}
def iEnum (K:PySem.W.Frag) (ta:TA):TI:=fun σ H R=>ta σ H fun vs H1=>∃ a,vs=[.ref a]/\(∃ xs,SqT K H1 a xs)/\R (Ite K a) H1
theorem pi_enum {a:Expr} {ta:TA} {p pos:Pos} (hg:Gl X "enumerate") (hm:X.mg "enumerate" = none) (ha:PA X [a] ta) (hs:starEach [a] X.env=[(false,eval a X.env)]:=by rfl):PI X (.Tuple ts n tp) (.Call (.Name "enumerate" p) [a] [] pos) (iEnum X.K ta):=by
 intro pins s σ H R I h
 refine Call_ (ld_blt I hg hm boot_enumerate (PyProof.Rows.callWith_type1 (thn (ha pos pins s σ H _ I h) fun us s1 ⟨vs,H1,I1,r1,q1⟩=>?_) hs rfl))
 obtain ⟨l,e,⟨xs,hq⟩,q⟩:=q1
 subst e
 cases r1 with
 | cons r rr =>
  cases rr
  have r':_=Value.ref l:=r
  subst r'
  obtain ⟨its,rv,pt,hz⟩:=I1.tuple hq
  have lt:l < s1.heap.objs.size:=by obtain ⟨o,z,_⟩:=id pt;exact Heap.lt_size z
  refine call_enum (show s1.heap.IsTuple l its.toArray from pt) fun g en itr kp=>wpAny_pyIter_enum en ?_
  refine ⟨s1.heap.objs.size+1,[s1.heap.objs.size+1,s1.heap.objs.size],_,_,H1,rfl,I1.kept (t':=s1.toks) kp,turn_enum l _ _ (Nat.succ_ne_self _) (Nat.ne_of_lt (Nat.lt_succ_of_lt lt)) (Nat.ne_of_lt lt),⟨⟨_,en⟩,itr⟩,fun b hb=>?_,q⟩
  rcases List.mem_cons.mp hb with z | z
  ·subst z;exact I1.fpOk (Nat.le_succ _) (I1.hok.fresh (Nat.le_succ _))
  ·rw [List.mem_singleton.mp z];exact I1.fpOk (Nat.le_refl _) (I1.hok.fresh (Nat.le_refl _))
end
def numbered (ds:List D):List D:=ds.zipIdx.map fun p=>.tup [.int p.2,p.1]
theorem numbered_len (ds:List D):(numbered ds).length=ds.length:=by simp [numbered]
theorem numbered_get {ds:List D} {i:Nat} {d:D} (h:ds[i]?=some d):(numbered ds)[i]?=some (.tup [.int i,d]):=by simp [numbered,h]
section
variable {X:Cx} {G:Ga} {M:MH} {ts:List Expr} {n:Nat} {tp pos:Pos} {e:Expr} {body:List Stmt} {E:EndsD}
theorem ex_for_enum {p:Pos} (hp:PassesOwn (model X.prog X.w) X.A X.env X.xe) (hc:X.calm=true) (hm:X.mg "enumerate" = none)
  (h:AV X G M [e] fun es M1=>∃ (ds:List D) (Iv:Nat->Ga->MH->Prop),es=[.tup ds]/\Iv 0 G M1 /\
   (∀ (i:Nat) d G' M',ds[i]?=some d->Iv i G' M'->GV X G' M' (.Tuple ts n tp) (.tup [.int i,d]) fun G3 M3=>EXs X G3 M3 body { nx:=Iv (i+1),ct:=Iv (i+1),bk:=E.nx,rt:=E.rt })/\(∀ G' M',Iv ds.length G' M'->E.nx G' M'))
  (hg:Gl X "enumerate") (hse:starEach [e] X.env=[(false,eval e X.env)]) (hs:∀ x,foldedSetIterable (.Call (.Name "enumerate" p) [e] [] pos) X.env x=pure x) {pos':Pos}:EX X G M (.For (.Tuple ts n tp) (.Call (.Name "enumerate" p) [e] [] pos) body [] pos') E:=by
 refine ex_for hp hc (pi_enum hg hm (pa_D (G:=G)) hse) (fun σ H kf R=>?_) hs
 refine ⟨M,_,R,h,fun vs H' es M' kf' g i R' q=>?_⟩
 obtain ⟨ds,Iv,e,h0,step,fin⟩:=q
 subst e
 obtain ⟨v,rfl,hv⟩:=isl1 i
 rw [is_tup] at hv
 obtain ⟨l,xs,rfl,hx,hxi⟩:=hv
 have hlen:=hxi.len
 refine ⟨l,rfl,⟨xs,SqT.of hx⟩,g,M',ds.length,Iv,R',h0,fun i G2 M2 hin w2=>⟨fun e=>fin G2 M2 (by rw [<- e];exact w2),fun σ2 H2 g2 R2=>?_⟩⟩
 have hx2:SqT X.K H2 l xs:=SqT.of (g2 _ _ hx)
 refine ⟨fun e=>⟨xs,hx2,by omega⟩,fun hlt=>⟨⟨xs,xs[i]'(by omega),hx2,by simp⟩,fun x H3 y=>?_⟩⟩
 obtain ⟨T,z,e1,e2,e3,e4⟩:=y
 subst e1;subst e3
 obtain ⟨d,e5,i5⟩:=(hxi.grow g2).get' (e4 xs hx2)
 have gr:=grow_new (o:=.tup [.int i,z]) e2
 exact ⟨gr,.tup [.int i,d],M2,is_tup.mpr ⟨T,_,rfl,upd_same,isl_cons.mpr ⟨_,_,rfl,is_int.mpr rfl,isl_cons.mpr ⟨_,_,rfl,i5.grow gr,isl_nil.mpr rfl⟩⟩⟩,R2.mem.new e2,step i d G2 M2 e5 w2⟩
end
section
variable {X:Cx} {G:Ga} {M:MH} {elt e:Expr} {ts ifs:List Expr} {n:Nat} {tp p ep:Pos} {scope:Scope} {pos:Pos} {Q:DK} {own:List Str} {js:List Nat} {N:List Str} {cl:List (Str × Addr)}
theorem ex_comp_enum {E:EndsD} {y:Str} {py spos:Pos} (jj:Nat) (T:CompOk X own js N scope cl) (hxe:X.xe=fun _ _=>False) (hc:X.calm=true) (hm:X.mg "enumerate" = none) (hN:X.N.Nodup) (hj:X.N[jj]?=some y) (hy:Loc X.env.scope y) (hyf:X.fn y=true\/X.env.scope.names.lookup y=some .local)
  (hsw:swapsWith (.ListComp elt [⟨.Tuple ts n tp,.Call (.Name "enumerate" p) [e] [] ep,ifs,0⟩] scope pos) (some (.Name y py)) spos.line X.env=pure true) (f:D->D) (pr:D->Bool)
  (h:AV X G M [e] fun es M1=>∃ ds:List D,es=[.tup ds]/\ds.length<=sizeLine /\
   (∀ Y:Cx,(∃ C s H fp,Y=compCx X N scope cl C s H fp)->∀ M',Ext M1 M'->∀ d∈numbered ds,GV Y (compG own js G) M' (.Tuple ts n tp) d fun G3 M3=>M3=M'/\Sub (compG own js G) G3/\TVs Y G3 M' ifs (fun k M4=>M4=M'/\k=pr d)/\(pr d=true->EV Y G3 M' elt fun o M4=>M4=M'/\o=f d)) /\
   ∀ q,M1 q=none->E.nx (G.set jj (some (.ref q))) (mset M1 q (.lst (((numbered ds).filter pr).map f))))
  (hg:Gl X "enumerate") (hse:starEach [e] X.env=[(false,eval e X.env)]) (hs:∀ x,foldedSetIterable (.Call (.Name "enumerate" p) [e] [] ep) X.env x=pure x):EX X G M (.Assign [.Name y py] (.ListComp elt [⟨.Tuple ts n tp,.Call (.Name "enumerate" p) [e] [] ep,ifs,0⟩] scope pos) spos) E:=by
 refine ex_compI jj T hxe hc (pi_enum hg hm (pa_D (G:=G)) hse) hN hj hy hyf hsw (fun σ H kf R=>?_) hs
 refine ⟨M,_,R,h,fun vs H' es M' kf' g i R' q=>?_⟩
 obtain ⟨ds,e,hz,block,fin⟩:=q
 subst e
 obtain ⟨v,rfl,hv⟩:=isl1 i
 rw [is_tup] at hv
 obtain ⟨l,xs,rfl,hx,hxi⟩:=hv
 have hlen:=hxi.len
 have hnl:=numbered_len ds
 refine ⟨l,rfl,⟨xs,SqT.of hx⟩,g,M',numbered ds,fun q i acc M2=>M' q=none/\M2=mset M' q (.lst acc)/\acc=(((numbered ds).take i).filter pr).map f,R',fun q i acc M2 H2 g2 m2 v2=>?_,fun q hq=>⟨hq,rfl,by simp⟩,pure_block (by omega) block,fun q acc M2 ⟨h1,h2,h3⟩ _=>by rw [h2,h3,List.take_length];exact fin q h1⟩
 have hx2:SqT X.K H2 l xs:=SqT.of (g2 _ _ hx)
 refine ⟨fun e=>⟨xs,hx2,by omega⟩,fun hlt=>⟨⟨xs,xs[i]'(by omega),hx2,by simp⟩,fun x H3 y=>?_⟩⟩
 obtain ⟨T,z,e1,e2,e3,e4⟩:=y
 subst e1;subst e3
 obtain ⟨d,e5,i5⟩:=(hxi.grow g2).get' (e4 xs hx2)
 have gr:=grow_new (o:=.tup [.int i,z]) e2
 exact ⟨gr,fun b o w=>by rw [upd_ne (fun w'=>by rw [w',e2] at w;cases w)];exact w,_,numbered_get e5,is_tup.mpr ⟨T,_,rfl,upd_same,isl_cons.mpr ⟨_,_,rfl,is_int.mpr rfl,isl_cons.mpr ⟨_,_,rfl,i5.grow gr,isl_nil.mpr rfl⟩⟩⟩⟩
end
theorem IsL.rev {H:Hp}:∀ {ds:List D} {vs:List V},IsL H ds vs->IsL H ds.reverse vs.reverse
 | [],vs,h=>by rw [isl_nil] at h;subst h;exact isl_nil.mpr rfl
 | d :: ds,vs,h=>by
  rw [isl_cons] at h
  obtain ⟨x,r,rfl,h1,h2⟩:=h
  rw [List.reverse_cons,List.reverse_cons]
  exact (IsL.rev h2).app (isl_cons.mpr ⟨x,[],rfl,h1,isl_nil.mpr rfl⟩)
theorem IsL.init {H:Hp} {ds:List D} {d:D} {vs:List V} (h:IsL H (ds++[d]) vs):∃ us u,vs=us++[u]/\IsL H ds us/\Is H d u:=by
 have h1:=h.rev
 rw [List.reverse_append] at h1
 obtain ⟨u,r,e,k1,k2⟩:=isl_cons.mp h1
 refine ⟨r.reverse,u,?_,?_,k1⟩
 ·have:=congrArg List.reverse e
  simpa using this
 ·have:=k2.rev
  simpa using this
section
variable {X:Cx} {G:Ga} {M:MH} {o e:Expr} {Q:DK} {apos cpos:Pos}
theorem ev_reverse (h:EV X G M o fun d M1=>∃ p ds,d=.ref p/\M1 p=some (.lst ds)/\Q .non (mset M1 p (.lst ds.reverse)))
  (hbase:attributeBase o "reverse" X.env (eval o X.env)=eval o X.env) (hline:(apos.endLine == cpos.line)=true):EV X G M (.Call (.Attribute o "reverse" apos) [] [] cpos) Q:=by
 refine EV.of (pe_bm0 PySem.F.plainAttrs_list PySem.F.slot_list_reverse PySem.F.type_list_reverse mt_reverse (pe_D (G:=G)) hbase hline) fun σ H kf R=>?_
 refine ⟨M,_,R,h,fun v H' d M' kf' g i R' q=>?_⟩
 obtain ⟨p,ds,rfl,hp,q⟩:=q
 rw [is_ref] at i;subst i
 obtain ⟨xs,hx,hxi⟩:=R'.mem p _ hp
 have nt:∀ ys,H' p≠some (.tup ys):=fun ys z=>by rw [hx] at z;cases z
 have gu:Grow H' (upd H' p (.lst xs.reverse)):=grow_upd nt
 exact ⟨tyL hx,p,xs,rfl,rfl,hx,fun _=>⟨g.trans gu,.non,_,is_non.mpr rfl,R'.mem.put (u:=.lst ds.reverse) nt ⟨_,upd_same,(hxi.grow gu).rev⟩,q⟩⟩
theorem ev_pop (h:EV X G M o fun d M1=>∃ p ds x,d=.ref p/\M1 p=some (.lst (ds++[x]))/\Q x (mset M1 p (.lst ds)))
  (hbase:attributeBase o "pop" X.env (eval o X.env)=eval o X.env) (hline:(apos.endLine == cpos.line)=true):EV X G M (.Call (.Attribute o "pop" apos) [] [] cpos) Q:=by
 refine EV.of (pe_bm0 PySem.F.plainAttrs_list PySem.F.slot_list_pop PySem.F.type_list_pop mt_pop (pe_D (G:=G)) hbase hline) fun σ H kf R=>?_
 refine ⟨M,_,R,h,fun v H' d M' kf' g i R' q=>?_⟩
 obtain ⟨p,ds,x,rfl,hp,q⟩:=q
 rw [is_ref] at i;subst i
 obtain ⟨xs,hx,hxi⟩:=R'.mem p _ hp
 obtain ⟨us,u,rfl,h1,h2⟩:=hxi.init
 have nt:∀ ys,H' p≠some (.tup ys):=fun ys z=>by rw [hx] at z;cases z
 have gu:Grow H' (upd H' p (.lst us)):=grow_upd nt
 refine ⟨tyL hx,p,us++[u],u,rfl,rfl,hx,by simp,?_⟩
 rw [List.dropLast_concat]
 exact fun _=>⟨g.trans gu,x,_,Is.grow gu _ _ h2,R'.mem.put (u:=.lst ds) nt ⟨_,upd_same,h1.grow gu⟩,q⟩
theorem ev_extend (h:EV X G M o fun d M1=>∃ p,d=.ref p/\(∃ ds,M1 p=some (.lst ds))/\EV X G M1 e fun d2 M2=>∃ q ds es,d2=.ref q/\M2 p=some (.lst ds)/\M2 q=some (.lst es)/\ds.length+es.length<=sizeLine/\Q .non (mset M2 p (.lst (ds++es))))
  (hbase:attributeBase o "extend" X.env (eval o X.env)=eval o X.env)
  (hfew:HfX X cpos e)
  (hline:(apos.endLine == cpos.line)=true) (hs:SeX X e) (hplain:NpX X cpos) :
  EV X G M (.Call (.Attribute o "extend" apos) [e] [] cpos) Q:=by
 refine EV.of (pe_bm PySem.F.plainAttrs_list PySem.F.slot_list_extend PySem.F.type_list_extend mt_extend (pe_D (G:=G)) (pa_D (G:=G) (es:=[e])) hbase hfew hline hs hplain) fun σ H kf R=>?_
 refine ⟨M,_,R,h,fun v H' d M' kf' g i R' q=>?_⟩
 obtain ⟨p,rfl,⟨ds,hds⟩,q⟩:=q
 rw [is_ref] at i;subst i
 obtain ⟨xs,hx,_⟩:=R'.mem p _ hds
 refine ⟨tyL hx,M',fun ds2 M2=>∃ d2,ds2=[d2]/\∃ q ds es,d2=.ref q/\M2 p=some (.lst ds)/\M2 q=some (.lst es)/\ds.length+es.length<=sizeLine/\Q .non (mset M2 p (.lst (ds++es))),R',av_cons (q.mono fun d2 M2 q2=>av_nil ⟨d2,rfl,q2⟩) hs,fun vs H2 ds2 M2 kf2 g2 i2 R2 q2=>?_⟩
 obtain ⟨d2,rfl,b,ds,es,rfl,hp,hb,hz,q2⟩:=q2
 obtain ⟨v2,rfl,hv2⟩:=isl1 i2
 rw [is_ref] at hv2;subst hv2
 obtain ⟨xs,hx,hxi⟩:=R2.mem p _ hp
 obtain ⟨ys,hy,hyi⟩:=R2.mem b _ hb
 have nt:∀ ys,H2 p≠some (.tup ys):=fun ys z=>by rw [hx] at z;cases z
 have gu:Grow H2 (upd H2 p (.lst (xs++ys))):=grow_upd nt
 exact ⟨p,b,xs,ys,rfl,rfl,hx,hy,by rw [<- hxi.len,<- hyi.len];exact hz,fun _=>⟨(g.trans g2).trans gu,.non,_,is_non.mpr rfl,R2.mem.put (u:=.lst (ds++es)) nt ⟨_,upd_same,(hxi.grow gu).app (hyi.grow gu)⟩,q2⟩⟩
end
theorem bootSum:bootBuiltins "sum" = some (.builtin "sum"):=by decide +kernel
theorem bootMaxB:bootBuiltins "max" = some (.builtin "max"):=by decide +kernel
theorem isl_nums {H:Hp}:∀ {ns:List Int} {vs:List V},IsL H (ns.map D.int) vs->vs=ns.map V.int
 | [],vs,h=>by rw [List.map_nil,isl_nil] at h;subst h;rfl
 | n :: ns,vs,h=>by
  rw [List.map_cons,isl_cons] at h
  obtain ⟨x,r,rfl,h1,h2⟩:=h
  rw [is_int] at h1
  rw [h1,isl_nums h2];rfl
theorem vals_nums {ns:List Int} {us:List Value} {i:Nat} {u:Value} (r:Vals (ns.map V.int) us) (h:us[i]?=some u):∃ t,u=.int ((ns[i]?).getD 0) t:=by
 have hl:=r.length
 rw [List.length_map] at hl
 have hi:i < ns.length:=by
  have:=(List.getElem?_eq_some_iff.mp h).1
  omega
 obtain ⟨w,hw,rw'⟩:=r.get (i:=i) (x:=.int ns[i]) (by simp [hi])
 rw [h] at hw
 cases hw
 obtain ⟨t,e⟩:=rw'
 exact ⟨t,by rw [e];simp [hi]⟩
theorem preSum_take (ns:List Int):∀ j,j<=ns.length->preSum (fun i=>(ns[i]?).getD 0) j=(ns.take j).sum
 | 0,_=>by simp [preSum]
 | j+1,h=>by
  have ih:=preSum_take ns j (by omega)
  have hj:j < ns.length:=by omega
  show preSum _ j+_=_
  rw [ih,List.take_succ_eq_append_getElem hj,List.sum_append]
  simp [hj]
theorem sum_small {m:Int} (h0:0<=m):∀ {ns:List Int},(∀ x∈ns,0<=x/\x<=m)->0<=ns.sum/\ns.sum<=ns.length * m
 | [],_=>by simp
 | x :: r,h=>by
  have h1:=h x (List.mem_cons_self ..)
  obtain ⟨h2,h3⟩:=sum_small h0 (ns:=r) fun y hy=>h y (List.mem_cons_of_mem _ hy)
  rw [List.sum_cons,List.length_cons]
  constructor
  ·omega
  ·have:((r.length+1:Nat):Int) * m=r.length * m+m:=by rw [Int.natCast_add,Int.add_mul];simp
   omega
section
variable {X:Cx} {G:Ga} {M:MH} {e:Expr} {Q:DK} {pos:Pos}
theorem call_sumL (hc:X.calm=true):CallR X (.builtin "sum") (fun xs H Q=>∃ (a:Addr) (ns:List Int),xs=[.ref a]/\H a=some (.lst (ns.map V.int))/\(∀ x∈ns,0<=x/\x<=1000000)/\ns.length<=1000000/\Q (.int ns.sum) H):=by
 intro pins s σ H xs us Q I r h
 obtain ⟨a,ns,rfl,e,hb,hl0,q⟩:=h
 obtain ⟨u,rfl,ru⟩:=vals1 r
 cases ru
 obtain ⟨z,its,n,rv,hl,eo⟩:=I.lstM e
 have hlen:its.toArray.size=ns.length:=by
  rw [List.length_map] at hl
  simp [<- hl]
 have lt:a < s.heap.objs.size:=Heap.lt_size eo
 have hL:s.heap.IsList a its.toArray:=⟨_,eo,rfl,n,rfl⟩
 refine call_sum_walk (wpAny_pyIter_list hL ?_)
 have small:∀ j,j<=ns.length->0<=(ns.take j).sum/\(ns.take j).sum<=1000000 * 1000000:=fun j hj=>by
  obtain ⟨h1,h2⟩:=sum_small (m:=1000000) (by decide) (ns:=ns.take j) fun x hx=>hb x (List.mem_of_mem_take hx)
  refine ⟨h1,?_⟩
  have:(ns.take j).length<=1000000:=by rw [List.length_take];omega
  omega
 refine ⟨_,_,_,_,_,_,fun i=>(ns[i]?).getD 0,rfl,Walks.list (A:=X.A.in1) (I.ok.hd hc) s.heap.objs.size a (Nat.ne_of_lt lt) its.toArray,⟨⟨_,Heap.get?_push_size _ rfl,rfl,rfl⟩,hL.push _⟩,fun b hb=>?_,fun i v hv=>vals_nums rv (by simpa using hv),fun j hj=>?_,fun h' tk t' hk=>?_⟩
 ·rw [Heap.size_push]
  rcases List.mem_cons.mp hb with z | z
  ·rw [z];exact Nat.lt_succ_self _
  ·rw [List.mem_singleton.mp z];exact Nat.lt_succ_of_lt lt
 ·rw [hlen] at hj
  rw [preSum_take ns (j+1) hj]
  have h1:=hb ns[j] (List.getElem_mem hj)
  have h2:=small (j+1) hj
  simp only [InLong,List.getElem?_eq_getElem hj,Option.getD_some]
  omega
 ·rw [hlen,preSum_take ns _ (Nat.le_refl _),List.take_length]
  exact ⟨.int ns.sum,H,I.kept fun b o y=>hk b o (by simp;exact Nat.ne_of_lt (Heap.lt_size y)) (Heap.get?_push_of_some _ y),⟨_,rfl⟩,q⟩
theorem ev_sumL {p:Pos} (hc:X.calm=true) (hm:X.mg "sum" = none) (h:AV X G M [e] fun ds M1=>∃ (q:Addr) (ns:List Int),ds=[.ref q]/\M1 q=some (.lst (ns.map D.int))/\(∀ x∈ns,0<=x/\x<=1000000)/\ns.length<=1000000/\Q (.int ns.sum) M1) (hg:Gl X "sum") (he:SeX X e) (hpl:NpX X pos) :
  EV X G M (.Call (.Name "sum" p) [e] [] pos) Q :=
 ev_callB (call_sumL hc) hm bootSum (h.mono fun ds M1 ⟨a,ns,e1,ha,h1,h2,q⟩=>fun H xs kf hx m=>by
  subst e1
  obtain ⟨v,rfl,hv⟩:=isl1 hx
  rw [is_ref] at hv;subst hv
  obtain ⟨ys,e1,e2⟩:=m a _ ha
  have e3:=isl_nums e2;subst e3
  exact ⟨a,ns,rfl,e1,h1,h2,fun _=>⟨Grow.refl _,.int ns.sum,M1,is_int.mpr rfl,m,q⟩⟩) hg (by decide) (by decide) he hpl
end
structure Top (r:Int) (f:Nat->Int) (j n:Nat) (x:Int):Prop where
 one:x=r\/∃ i,j<=i/\i < n/\x=f i
 own:r<=x
 all:∀ i,j<=i->i < n->f i<=x
theorem Top.up {r x:Int} {f:Nat->Int} {j n:Nat} (lt:j < n) (h:f j > r) (q:Top (f j) f (j+1) n x):Top r f j n x:=by
 obtain ⟨a,b,c⟩:=q
 refine ⟨.inr ?_,by omega,fun i h1 h2=>?_⟩
 ·rcases a with a | ⟨i,h1,h2,h3⟩
  ·exact ⟨j,Nat.le_refl _,lt,a⟩
  ·exact ⟨i,by omega,h2,h3⟩
 ·by_cases z:i=j
  ·subst z;exact b
  ·exact c i (by omega) h2
theorem Top.on {r x:Int} {f:Nat->Int} {j n:Nat} (h:¬ f j > r) (q:Top r f (j+1) n x):Top r f j n x:=by
 obtain ⟨a,b,c⟩:=q
 refine ⟨?_,b,fun i h1 h2=>?_⟩
 ·rcases a with a | ⟨i,h1,h2,h3⟩
  ·exact .inl a
  ·exact .inr ⟨i,by omega,h2,h3⟩
 ·by_cases z:i=j
  ·subst z;omega
  ·exact c i (by omega) h2
section
variable {P:Program} {w:World} {B:Around} {R:Result->Shared->Prop} {I:Addr} {fp wr:List Addr} {n:Nat} {Pi:Nat->Value->Prop} {St:Nat->Heap->Prop}
theorem loopName:(toString "max" ++ toString ".loop" : String) = "max.loop" := by decide
theorem top_loop (W:PySem.Walks P w B.in1 I fp wr n Pi St) (f:Nat->Int) (hv:∀ i v,Pi i v->∃ t,v=.int (f i) t) (S:Addr) (hS:S∉fp) (kw:List (Str × Value)) :
  ∀ (k j:Nat) (st:Shared) (r:Int) (t:Tok) (c:Nat),n - j=k->j<=n->St j st.heap->st.heap.get? S=some { cls:=.type "list",dict:=none,data:=.seq #[.int r t,.int r t] c,slots:=#[] } ->
  (∀ x g tk t',Top r f j n x->(∀ b o,b∉wr->b≠S->st.heap.get? b=some o->g.get? b=some o)->R (.ok (.ret (.int x t'))) { st with heap:=g,toks:=tk }) ->
  codeAny (model P w) B (.builtin "max.loop" ⟨[.ref I,.none,.ref S],kw⟩) R st:=by
 have off:S∉wr:=fun h=>hS (W.sub _ h)
 intro k
 induction k with
 | zero =>
  intro j st r t c hk hj hst eS q
  have e:j=n:=by omega
  subst e
  refine codeAny_builtin F.entry_max_loop ?_
  rw [Around.under_plainId F.plain_max_loop _]
  show wpAny _ B.in1 (seqItems? (.ref S) >>= _) _ _ st
  refine wpAny_bind (wpAny_seqItems eS rfl ?_)
  show wpAny _ B.in1 (tryCatch (pyNext (.ref I)) _ >>= _) _ _ st
  refine wpAny_bind (wpAny_tryCatch (W.done st _ _ hst fun g tk hg=>?_))
  show wpAny _ B.in1 (updateSeq S (fun _=>#[]) >>= _) _ _ _
  refine wpAny_bind (wpAny_updateSeq (hg S _ off eS) rfl (wpAny_bind (wpAny_letGo (wpAny_pure (q r _ tk t ⟨.inl rfl,Int.le_refl _,fun i h1 h2=>by omega⟩ fun b o h1 h2 y=>?_)))))
  exact (Heap.get?_update_other _ _ (Ne.symm h2)).trans (hg b o h1 y)
 | succ k ih =>
  intro j st r t c hk hj hst eS q
  have lt:j < n:=by omega
  refine codeAny_builtin F.entry_max_loop ?_
  rw [Around.under_plainId F.plain_max_loop _]
  show wpAny _ B.in1 (seqItems? (.ref S) >>= _) _ _ st
  refine wpAny_bind (wpAny_seqItems eS rfl ?_)
  show wpAny _ B.in1 (tryCatch (pyNext (.ref I)) _ >>= _) _ _ st
  refine wpAny_bind (wpAny_tryCatch (W.item j st _ _ lt hst fun v g tk hP hst' hg=>?_))
  obtain ⟨t',rfl⟩:=hv j v hP
  have eS':=hg S _ off eS
  show wpAny _ B.in1 (tryCatch (holding [.int (f j) t',.int (f j) t'] (richCompare .Gt (.int (f j) t') (.int r t) >>= _)) _ >>= _) _ _ _
  refine wpAny_bind (wpAny_tryCatch (wpAny_holding (wpAny_bind (richCompare_gives (op:=.Gt) (typeIs_int _ _ t') (typeIs_int _ _ t) F.slot_int_gt F.entry_int_gt (F.args_int_gt_2 _ _) (gives_int_gt _ _ t' t) (fun x=>nomatch x) ?_))))
  refine wpAny_bind (wpAny_holding (wpAny_truthy_bool (wpAny_bind (wpAny_letGo (wpAny_pure ?_)))))
  by_cases z:f j > r
  ·simp only [z,decide_true,if_true]
   refine wpAny_bind (wpAny_updateSeq eS' rfl (wpAny_bind (wpAny_letGo ?_)))
   rw [loopName]
   refine wpAny_pure ⟨plainId_quiet F.plain_max_loop _,ih (j+1) _ (f j) t' _ (by omega) lt (W.frame _ _ _ hst' fun b hb o y=>?_) (Heap.get?_update_self _ eS' rfl) fun x g2 tk2 t2 hx hg2=>?_⟩
   ·exact (Heap.get?_update_other _ _ (fun h:S=b=>hS (by rw [h];exact hb))).trans y
   ·exact q x g2 tk2 t2 (hx.up lt z) fun b o h1 h2 y=>hg2 b o h1 h2 ((Heap.get?_update_other _ _ (Ne.symm h2)).trans (hg b o h1 y))
  ·simp only [z,decide_false,Bool.false_eq_true,if_false]
   refine wpAny_bind (wpAny_letGo ?_)
   rw [loopName]
   exact wpAny_pure ⟨plainId_quiet F.plain_max_loop _,ih (j+1) _ r t c (by omega) lt hst' eS' fun x g2 tk2 t2 hx hg2=>q x g2 tk2 t2 (hx.on z) fun b o h1 h2 y=>hg2 b o h1 h2 (hg b o h1 y)⟩
theorem top_first (W:PySem.Walks P w B.in1 I fp wr n Pi St) (f:Nat->Int) (hv:∀ i v,Pi i v->∃ t,v=.int (f i) t) (S:Addr) (hS:S∉fp) {st:Shared} {c:Nat} {d:Int} {td:Tok} {nm:Str} (hst:St 0 st.heap)
  (eS:st.heap.get? S=some { cls:=.type "list",dict:=none,data:=.seq #[] c,slots:=#[] })
  (q:∀ x g tk t',((n=0/\x=d)\/(0 < n/\Top (f 0) f 1 n x))->(∀ b o,b∉wr->b≠S->st.heap.get? b=some o->g.get? b=some o)->R (.ok (.ret (.int x t'))) { st with heap:=g,toks:=tk }) :
  codeAny (model P w) B (.builtin "max.loop" ⟨[.ref I,.none,.ref S],[(nm,.int d td)]⟩) R st:=by
 have off:S∉wr:=fun h=>hS (W.sub _ h)
 refine codeAny_builtin F.entry_max_loop ?_
 rw [Around.under_plainId F.plain_max_loop _]
 show wpAny _ B.in1 (seqItems? (.ref S) >>= _) _ _ st
 refine wpAny_bind (wpAny_seqItems eS rfl ?_)
 show wpAny _ B.in1 (tryCatch (pyNext (.ref I)) _ >>= _) _ _ st
 by_cases z:n=0
 ·refine wpAny_bind (wpAny_tryCatch (W.done st _ _ (by rw [z];exact hst) fun g tk hg=>?_))
  show wpAny _ B.in1 (rule _ >>= _) _ _ _
  exact wpAny_bind (wpAny_rule (wpAny_pure (q d _ tk td (.inl ⟨z,rfl⟩) fun b o h1 _ y=>hg b o h1 y)))
 ·have lt:0 < n:=Nat.pos_of_ne_zero z
  refine wpAny_bind (wpAny_tryCatch (W.item 0 st _ _ lt hst fun v g tk hP hst' hg=>?_))
  obtain ⟨t',rfl⟩:=hv 0 v hP
  have eS':=hg S _ off eS
  show wpAny _ B.in1 (updateSeq S (fun _=>#[.int (f 0) t',.int (f 0) t']) >>= _) _ _ _
  refine wpAny_bind (wpAny_updateSeq eS' rfl ?_)
  rw [loopName]
  refine wpAny_pure ⟨plainId_quiet F.plain_max_loop _,top_loop W f hv S hS _ _ 1 _ (f 0) t' _ rfl lt (W.frame _ _ _ hst' fun b hb o y=>?_) (Heap.get?_update_self _ eS' rfl) fun x g2 tk2 t2 hx hg2=>?_⟩
  ·exact (Heap.get?_update_other _ _ (fun h:S=b=>hS (by rw [h];exact hb))).trans y
  ·exact q x g2 tk2 t2 (.inr ⟨lt,hx⟩) fun b o h1 h2 y=>hg2 b o h1 h2 ((Heap.get?_update_other _ _ (Ne.symm h2)).trans (hg b o h1 y))
end
theorem argsMaxD (u v:Value):argsOk "max" ⟨[u],[("default",v)]⟩:=by unfold argsOk;kernel_rfl
section
variable {P:Program} {w:World} {B:Around} {Z:Value->Shared->Prop} {st:Shared} {Q:Value->Shared->Prop}
theorem call_maxD {a:Addr} {its:Array Value} {f:Nat->Int} {d:Int} {td:Tok} (calm:B.handled=none) (hl:st.heap.IsList a its) (hv:∀ (i:Nat) (v:Value),its[i]?=some v->∃ t,v=.int (f i) t)
  (q:∀ x g tk t',((its.size=0/\x=d)\/(0 < its.size/\Top (f 0) f 1 its.size x))->(∀ b o,st.heap.get? b=some o->g.get? b=some o)->Q (.int x t') { st with heap:=g,toks:=tk }) :
  wpAny (model P w) B (call (.builtin "max") [.ref a] [("default",.int d td)]) Q Z st:=by
 have lt:a < st.heap.objs.size:=let ⟨_,e,_⟩:=hl;Heap.lt_size e
 have main:wpAny (model P w) B.in1 (Builtin.«max» ⟨[.ref a],[("default",.int d td)]⟩) (fun fin s'=>match fin with
   | .done f=>(match (Except.ok f:Result) with | .ok (.ret v)=>Q v s' | .ok _=>False | .error e=>Z e s')
   | .again c'=>c'.quiet=true/\codeAny (model P w) B c' (fun r s'=>match r with | .ok (.ret v)=>Q v s' | .ok _=>False | .error e=>Z e s') s') Z st:=by
  show wpAny _ B.in1 (Builtin.Builtins.bindParams "max" ["key", "default"] 0 ⟨[],[("default",.int d td)]⟩ >>= _) _ _ st
  refine wpAny_bind (wpAny_of_eq (show Builtin.Builtins.bindParams "max" ["key", "default"] 0 ⟨[],[("default",.int d td)]⟩=pure [none,some (Value.int d td)] from by kernel_rfl) ?_)
  refine wpAny_bind (wpAny_pure ?_)
  refine wpAny_bind (wpAny_pyIter_list hl ?_)
  refine wpAny_bind (wpAny_newObj_type ?_)
  rw [loopName]
  have W:=PySem.Walks.list (prog:=P) (w:=w) (A:=B.in1) calm st.heap.objs.size a (Nat.ne_of_lt lt) its
  refine wpAny_pure ⟨plainId_quiet F.plain_max_loop _,top_first W f hv _ (fun hm=>?_) ⟨⟨_,Heap.get?_push_of_some _ (Heap.get?_push_size _ rfl),rfl,rfl⟩,(hl.push _).push _⟩ (Heap.get?_push_size _ rfl) fun x g tk t' hx hg=>q x g tk t' hx fun b o y=>hg b o ?_ ?_ (Heap.get?_push_of_some _ (Heap.get?_push_of_some _ y))⟩
  ·rw [Heap.size_push] at hm
   rcases List.mem_cons.mp hm with z | z
   ·exact Nat.succ_ne_self _ z
   ·exact Nat.ne_of_gt (Nat.lt_succ_of_lt lt) (List.mem_singleton.mp z)
  ·have:=Heap.lt_size y
   simp only [List.mem_singleton]
   exact Nat.ne_of_lt this
  ·have:=Heap.lt_size y
   rw [Heap.size_push]
   exact Nat.ne_of_lt (Nat.lt_succ_of_lt this)
 refine wpAny_call (codeAny_call_builtin F.plain_max F.entry_max ?_)
 simp only [checkBuiltinCall,F.kind_max]
 cases hsig:Manifest.signature? "max" with
 | none=>exact wpAny_pure main
 | some sig =>
  have ok:Bind.checkArgs "max" sig ⟨[.ref a],[("default",.int d td)]⟩=pure ():=by
   have:=argsMaxD (.ref a) (.int d td)
   simpa only [argsOk,hsig] using this
  simp only [ok]
  exact wpAny_pure main
end
theorem nums_getD {ns:List Int} {i:Nat} (h:i < ns.length):(ns[i]?).getD 0∈ns:=by
 rw [List.getElem?_eq_getElem h,Option.getD_some];exact List.getElem_mem h
theorem top_nums {ns:List Int} {x:Int} (h:0 < ns.length) (q:Top ((ns[0]?).getD 0) (fun i=>(ns[i]?).getD 0) 1 ns.length x):x∈ns/\∀ y∈ns,y<=x:=by
 obtain ⟨a,b,c⟩:=q
 refine ⟨?_,fun y hy=>?_⟩
 ·rcases a with a | ⟨i,_,h2,h3⟩
  ·rw [a];exact nums_getD h
  ·rw [h3];exact nums_getD h2
 ·obtain ⟨i,hi,e⟩:=List.mem_iff_getElem.mp hy
  have e':y=(ns[i]?).getD 0:=by rw [List.getElem?_eq_getElem hi,Option.getD_some,e]
  by_cases z:i=0
  ·subst z;rw [e'];exact b
  ·rw [e'];exact c i (by omega) hi
section
variable {X:Cx} {G:Ga} {M:MH} {e:Expr} {Q:DK} {pos p kp np:Pos}
theorem ev_maxD {d:Int} (hc:X.calm=true) (hm:X.mg "max" = none)
  (h:AV X G M [e] fun ds M1=>∃ (q:Addr) (ns:List Int),ds=[.ref q]/\M1 q=some (.lst (ns.map D.int))/\∀ x,((ns=[]/\x=d)\/(x∈ns/\∀ y∈ns,y<=x))->Q (.int x) M1)
  (hg:Gl X "max") (he:backTo pos (starEach [e] X.env)=(false,eval e X.env) :: backTo pos (starEach [] X.env)) (hpl:(backTo pos (starEach [e] X.env)).any (·.1)=false)
  {ke:Expr} (hk:∀ (R:Value->Shared->Prop) (Z:Value->Shared->Prop) (s:Shared),(∀ t tk,R (.int d t) { s with toks:=tk })->wpAny (model X.prog X.w) X.A (eval ke X.env) R Z s) :
  EV X G M (.Call (.Name "max" p) [e] [⟨some "default",ke,kp⟩] pos) Q:=by
 intro pins s σ H I R
 refine wpAny_Call_Name_kw (ld_blt I hg hm bootMaxB ?_ (by decide) (by decide))
 refine PyProof.Rows.callWith_kw (thn (h pos pins s σ H I R) fun us s1 ⟨vs,H1,ds,M1,I1,r1,g1,i1,R1,q1⟩=>?_) he hpl rfl rfl
 refine kws_cons (hk _ _ _ fun t tk=>kws_nil ?_)
 obtain ⟨a,ns,rfl,ha,q⟩:=q1
 obtain ⟨v,rfl,hv⟩:=isl1 i1
 rw [is_ref] at hv;subst hv
 obtain ⟨u,rfl,ru⟩:=vals1 r1
 cases ru
 obtain ⟨xs,hx,hxi⟩:=R1.mem a _ ha
 have e3:=isl_nums hxi
 subst e3
 have I2:=I1.tok tk
 obtain ⟨z,its,n,rv,hl,eo⟩:=I2.lstM hx
 have hlen:its.toArray.size=ns.length:=by
  rw [List.length_map] at hl
  simp [<- hl]
 refine call_maxD (f:=fun i=>(ns[i]?).getD 0) (I2.ok.hd hc) (its:=its.toArray) ⟨_,eo,rfl,n,rfl⟩ (fun i v hv=>vals_nums rv (by simpa using hv)) fun x g tk' t' hx' kp'=>?_
 rw [hlen] at hx'
 refine ⟨.int x,H1,.int x,M1,I2.kept kp',⟨t',rfl⟩,g1,is_int.mpr rfl,R1,q x ?_⟩
 rcases hx' with ⟨h1,h2⟩ | ⟨h1,h2⟩
 ·exact .inl ⟨List.eq_nil_of_length_eq_zero h1,h2⟩
 ·exact .inr (top_nums h1 h2)
end
section
variable {X:Cx} {G:Ga} {M:MH} {a b:Expr} {pos:Pos}
theorem tv_isnot {Qb:Bool->MH->Prop} (h:EV X G M a fun da Ma=>EV X G Ma b fun db Mb=>∃ k,IsDv da db k/\db=.non/\Qb (!k) Mb):TV X G M (.Compare a [.IsNot] [b] pos) Qb :=
 tv_cmp op_notN (nomark _) (h.mono fun _ _ h1=>h1.mono fun _ Mb ⟨k,e1,e2,q⟩=>by
  intro H x y kf hx hy m
  subst e2
  have hy':=hy
  rw [is_non] at hy'
  rcases isD_val e1 hx hy with ⟨i,j,e3,e4,e⟩ | ⟨_,e⟩
  ·rw [hy'] at e4;cases e4
  ·exact ⟨hy',fun _=>⟨Grow.refl _,.bl (!k),Mb,is_bl.mpr (by rw [e]),m,!k,rfl,q⟩⟩)
end
end D3
namespace KA
open PySem PySem.Spec PyProof.Rows L2 D3 K01
abbrev Rw:=Bool × List (Str × Int) × Int
abbrev Sm:=List (Str × Int) × Int × Int
inductive Stm where
 | set (x:Str) (s:Sm)
 | any (x:Str)
 | note (rs:List Rw)
 | choose (a b:List Stm)
 | ite (r:Rw) (a b:List Stm)
 | whl (r:Rw) (rs:List Rw) (m:Option (Sm × Int)) (b:List Stm)
def rwD (r:Rw):D:=rowD r.1 r.2.1 r.2.2
def smD (s:Sm):D:=.tup [trm s.1,.int s.2.1,.int s.2.2]
def msD:Option (Sm × Int)->D
 | none=>.non
 | some m=>.tup [smD m.1,.int m.2]
mutual
def stD:Stm->D
 | .set x s=>.tup [.str "set",.str x,smD s]
 | .any x=>.tup [.str "any",.str x]
 | .note rs=>.tup [.str "note",.tup (rs.map rwD)]
 | .choose a b=>.tup [.str "choose",.tup (stDs a),.tup (stDs b)]
 | .ite r a b=>.tup [.str "if",rwD r,.tup (stDs a),.tup (stDs b)]
 | .whl r rs m b=>.tup [.str "while",rwD r,.tup (rs.map rwD),msD m,.tup (stDs b)]
def stDs:List Stm->List D
 | []=>[]
 | s :: r=>stD s :: stDs r
end
theorem stDs_map:∀ b:List Stm,stDs b=b.map stD
 | []=>by simp only [stDs,List.map_nil]
 | s :: r=>by simp only [stDs,List.map_cons,stDs_map r]
theorem stDs_snoc (b:List Stm) (s:Stm):stDs (b++[s])=stDs b++[stD s]:=by rw [stDs_map,stDs_map,List.map_append];rfl
structure Cnt where
 s:Nat
 b:Nat
 l:Nat
 a:Nat
 n:Nat
def Cnt.add (x y:Cnt):Cnt:=⟨x.s+y.s,x.b+y.b,x.l+y.l,x.a+y.a,x.n+y.n⟩
mutual
def tt:Stm->Cnt
 | .set _ _=>⟨1,0,0,0,0⟩
 | .any _=>⟨1,0,0,1,0⟩
 | .note rs=>⟨1,0,0,0,rs.length⟩
 | .choose a b=>((tts a).add (tts b)).add ⟨1,1,0,0,0⟩
 | .ite _ a b=>((tts a).add (tts b)).add ⟨1,1,0,0,0⟩
 | .whl _ _ _ b=>(tts b).add ⟨1,0,1,0,0⟩
def tts:List Stm->Cnt
 | []=>⟨0,0,0,0,0⟩
 | s :: r=>(tt s).add (tts r)
end
theorem Cnt.ext' {x y:Cnt} (h1:x.s=y.s) (h2:x.b=y.b) (h3:x.l=y.l) (h4:x.a=y.a) (h5:x.n=y.n):x=y:=by cases x;cases y;simp_all
theorem tts_app:∀ a b:List Stm,tts (a++b)=(tts a).add (tts b)
 | [],b=>by refine Cnt.ext' ?_ ?_ ?_ ?_ ?_<;>simp [tts,Cnt.add]
 | s :: r,b=>by
  have ih:=tts_app r b
  show tts (s :: (r++b))=_
  simp only [tts,ih]
  refine Cnt.ext' ?_ ?_ ?_ ?_ ?_<;>simp only [Cnt.add]<;>omega
def Took (n m c:Cnt):Prop:=n.s=m.s+c.s/\n.b=m.b+c.b/\n.l=m.l+c.l/\n.a=m.a+c.a/\n.n=m.n+c.n
mutual
def dp:Stm->Nat
 | .set _ _=>1
 | .any _=>1
 | .note _=>1
 | .choose a b=>max (dps a) (dps b)+1
 | .ite _ a b=>max (dps a) (dps b)+1
 | .whl _ _ _ b=>dps b+1
def dps:List Stm->Nat
 | []=>0
 | s :: r=>max (dp s) (dps r)
end
theorem dps_le {n:Nat}:∀ {b:List Stm},(∀ s∈b,dp s<=n)->dps b<=n
 | [],_=>by simp [dps]
 | s :: r,h=>by
  have h1:=h s (List.mem_cons_self ..)
  have h2:=dps_le (b:=r) fun x hx=>h x (List.mem_cons_of_mem _ hx)
  simp only [dps];omega
structure WfR (ss:List Str) (r:Rw):Prop where
 ts:Terms ss r.2.1
 b:B 64 r.2.2
structure WfS (ss:List Str) (s:Sm):Prop where
 ts:Terms ss s.1
 w:B 64 s.2.1
 pos:0 < s.2.2
 b:B 64 s.2.2
def WfM (ss:List Str) (b:List Stm):Option (Sm × Int)->Prop
 | none=>True
 | some m=>WfS ss m.1/\0 < m.2/\B 65 m.2/\(tts b).l=0
mutual
def wf (ss:List Str):Stm->Prop
 | .set x s=>x∈ss/\WfS ss s
 | .any x=>x∈ss
 | .note rs=>(∀ r∈rs,WfR ss r)/\1<=rs.length/\rs.length<=2
 | .choose a b=>wfs ss a/\wfs ss b
 | .ite r a b=>WfR ss r/\wfs ss a/\wfs ss b
 | .whl r rs m b=>WfR ss r/\(∀ r∈rs,WfR ss r)/\rs.length<=2/\WfM ss b m/\wfs ss b
def wfs (ss:List Str):List Stm->Prop
 | []=>True
 | s :: r=>wf ss s/\wfs ss r
end
theorem wfs_snoc {ss:List Str} {s:Stm}:∀ {b:List Stm},wfs ss b->wf ss s->wfs ss (b++[s])
 | [],_,h=>by simp only [List.nil_append,wfs];exact ⟨h,trivial⟩
 | x :: r,hb,h=>by
  simp only [wfs] at hb
  show wfs ss (x :: (r++[s]))
  simp only [wfs]
  exact ⟨hb.1,wfs_snoc hb.2 h⟩
structure Stt (M:MH) (p c:Addr) (cs:List Int) (i:Nat) (n:Cnt):Prop where
 st:M p=some (.lst [.ref c,.int i,.int n.s,.int n.b,.int n.l,.int n.a,.int n.n])
 cl:M c=some (.lst (cs.map D.int))
theorem Stt.ne {M:MH} {p c:Addr} {cs:List Int} {i:Nat} {n:Cnt} (h:Stt M p c cs i n):c≠p:=by
 intro z;subst z
 have:=h.st.symm.trans h.cl
 simp only [Option.some.injEq,MO.lst.injEq] at this
 cases cs with
 | nil=>cases this
 | cons x r=>injection this with h1 _;cases h1
theorem Stt.kp {S:List Addr} {M M':MH} {p c:Addr} {cs:List Int} {i:Nat} {n:Cnt} (h:Stt M p c cs i n) (k:Kp S M M') (h1:p∉S) (h2:c∉S):Stt M' p c cs i n:=⟨k.at h.st h1,k.at h.cl h2⟩
theorem Stt.ext {M M':MH} {p c:Addr} {cs:List Int} {i:Nat} {n:Cnt} (h:Stt M p c cs i n) (k:Ext M M'):Stt M' p c cs i n:=⟨k _ _ h.st,k _ _ h.cl⟩
theorem Stt.put {M:MH} {p c:Addr} {cs:List Int} {i j:Nat} {n m:Cnt} (h:Stt M p c cs i n):Stt (mset M p (.lst [.ref c,.int j,.int m.s,.int m.b,.int m.l,.int m.a,.int m.n])) p c cs j m :=
 ⟨mset_same,by rw [mset_ne h.ne];exact h.cl⟩
theorem Stt.upd {M M2:MH} {p c:Addr} {cs:List Int} {i j:Nat} {n m:Cnt} {l:List D} (h:Stt M p c cs i n) (e:mset M p (.lst l)=M2) (hl:l=[.ref c,.int j,.int m.s,.int m.b,.int m.l,.int m.a,.int m.n]):Stt M2 p c cs j m/\Kp [p] M M2/\∀ q,M2 q=none->M q=none:=by
 subst e;subst hl
 refine ⟨h.put,Kp.put (by simp),fun q hq=>?_⟩
 by_cases z:q=p
 ·subst z;rw [mset_same] at hq;cases hq
 ·rw [mset_ne z] at hq;exact hq
theorem cast1 {n:Nat} (h:0 < n):(n:Int) - 1=((n - 1:Nat):Int):=by omega
def Cells (cs:List Int):Prop:=cs.length<=63/\∀ x∈cs,Cell x
def spNext:SpD:=fun ds M Q=>∃ p c cs i n,ds=[.ref p]/\Stt M p c cs i n/\Cells cs/\∀ q M',M q=none->Pu M' q->Stt M' p c cs (i+1) n->Kp [p] M M'->Q (.ref q) M'
def spStmt (d:Nat):SpD:=fun ds M Q=>∃ p c cs i n ss,ds=[.ref p,nms ss,.int d]/\Stt M p c cs i n/\Cells cs/\Names ss/\∀ st j m M',i < j->Stt M' p c cs j m->wf ss st->dp st+d<=5->Took ⟨n.s+1,n.b,n.l,n.a,n.n⟩ m (tt st)->Kp [p] M M'->Q (stD st) M'
def spLoop (d:Nat):SpD:=fun ds M Q=>∃ p c cs i n ss q,ds=[.ref p,nms ss,.int d,.ref q]/\Stt M p c cs i n/\Cells cs/\Names ss/\Pu M q/\q≠p/\q≠c/\0 < n.l/\∀ st j m M',i<=j->Stt M' p c cs j m->wf ss st->dp st+d<=5->Took ⟨n.s+1,n.b,n.l,n.a,n.n⟩ m (tt st)->Kp [p,q] M M'->Q (stD st) M'
def spBlock (d:Nat):SpD:=fun ds M Q=>∃ p c cs i n ss,ds=[.ref p,nms ss,.int d]/\Stt M p c cs i n/\Cells cs/\Names ss/\∀ b j m M',i<=j->Stt M' p c cs j m->wfs ss b->(∀ s∈b,dp s+d<=5)->Took n m (tts b)->Kp [p] M M'->Q (.tup (stDs b)) M'
structure Plan where
 ss:List Str
 rs:List Rw
 bl:List Stm
def plD (p:Plan):D:=.tup [nms p.ss,.tup (p.rs.map rwD),.tup (stDs p.bl)]
structure WfP (p:Plan):Prop where
 names:Names p.ss
 rs:∀ r∈p.rs,WfR p.ss r
 rl:p.rs.length<=2
 bl:wfs p.ss p.bl
 dp:∀ s∈p.bl,KA.dp s<=4
 cs:(tts p.bl).s<=24
 cb:(tts p.bl).b<=2
 cl:(tts p.bl).l<=2
 ca:(tts p.bl).a<=1
 cn:(tts p.bl).n<=2
def spPlan:SpD:=fun ds M Q=>∃ c cs first ss,ds=[.ref c,.int first,nms ss]/\M c=some (.lst (cs.map D.int))/\Cells cs/\Cell first/\Names ss/\∀ p M',WfP p->p.ss=ss->Ext M M'->Q (plD p) M'
abbrev Pce:=List Nat
def pcD (p:Pce):D:=.tup (p.map fun n:Nat=>D.int n)
def prD (x:Pce × Stm):D:=.tup [pcD x.1,stD x.2]
def blks:Stm->List (List Stm)
 | .set _ _=>[]
 | .any _=>[]
 | .note _=>[]
 | .choose a b=>[a,b]
 | .ite _ a b=>[a,b]
 | .whl _ _ _ b=>[b]
def blD (bs:List (List Stm)):D:=.tup (bs.map fun b=>.tup (stDs b))
def row (p:Pce) (i:Nat):List Stm->List (Pce × Stm)
 | []=>[]
 | s :: r=>(p++[i],s) :: row p (i+1) r
def rows (p:Pce) (n:Nat):List (List Stm)->List (Pce × Stm)
 | []=>[]
 | b :: r=>row (p++[n]) 0 b++rows p (n+1) r
theorem row_len (p:Pce):∀ (i:Nat) (b:List Stm),(row p i b).length=b.length
 | _,[]=>rfl
 | i,_ :: r=>by rw [row,List.length_cons,row_len p (i+1) r,List.length_cons]
theorem row_snoc (p:Pce) (s:Stm):∀ (i:Nat) (b:List Stm),row p i (b++[s])=row p i b++[(p++[i+b.length],s)]
 | i,[]=>rfl
 | i,x :: r=>by
  show _ :: row p (i+1) (r++[s])=_
  rw [row_snoc p s (i+1) r,List.length_cons]
  show _=_ :: _
  rw [show i+1+r.length=i+(r.length+1) by omega]
  rfl
theorem rows_snoc (p:Pce) (b:List Stm):∀ (n:Nat) (bs:List (List Stm)),rows p n (bs++[b])=rows p n bs++row (p++[n+bs.length]) 0 b
 | n,[]=>by simp [rows]
 | n,x :: r=>by
  show row (p++[n]) 0 x++rows p (n+1) (r++[b])=_
  rw [rows_snoc p b (n+1) r,List.length_cons,show n+1+r.length=n+(r.length+1) by omega,<- List.append_assoc]
  rfl
theorem rows_app (p:Pce) (cs:List (List Stm)):∀ (n:Nat) (bs:List (List Stm)),rows p n (bs++cs)=rows p n bs++rows p (n+bs.length) cs
 | n,[]=>by simp [rows]
 | n,x :: r=>by
  show row (p++[n]) 0 x++rows p (n+1) (r++cs)=_
  rw [rows_app p cs (n+1) r,List.length_cons,show n+1+r.length=n+(r.length+1) by omega,<- List.append_assoc]
  rfl
theorem rows_pre (p:Pce) {bs:List (List Stm)} {n:Nat} {b:List Stm} (h:bs[n]?=some b):rows p 0 (bs.take (n+1))=rows p 0 (bs.take n)++row (p++[n]) 0 b/\(rows p 0 (bs.take n)).length+b.length<=(rows p 0 bs).length:=by
 have hn:=(List.getElem?_eq_some_iff.mp h).1
 have e:bs.take (n+1)=bs.take n++[b]:=by
  rw [List.take_succ,h];rfl
 have e1:rows p 0 (bs.take (n+1))=rows p 0 (bs.take n)++row (p++[n]) 0 b:=by
  rw [e,rows_snoc,List.length_take,Nat.zero_add,Nat.min_eq_left (by omega)]
 refine ⟨e1,?_⟩
 have e2:rows p 0 bs=rows p 0 (bs.take (n+1))++rows p (0+(bs.take (n+1)).length) (bs.drop (n+1)):=by
  rw [<- rows_app,List.take_append_drop]
 rw [e2,e1,List.length_append,List.length_append,row_len]
 omega
mutual
def lay (p:Pce):Stm->List (Pce × Stm)
 | .set x s=>[(p,.set x s)]
 | .any x=>[(p,.any x)]
 | .note rs=>[(p,.note rs)]
 | .choose a b=>(p,.choose a b) :: (layB (p++[0]) 0 a++layB (p++[1]) 0 b)
 | .ite r a b=>(p,.ite r a b) :: (layB (p++[0]) 0 a++layB (p++[1]) 0 b)
 | .whl r rs m b=>(p,.whl r rs m b) :: layB (p++[0]) 0 b
def layB (p:Pce) (i:Nat):List Stm->List (Pce × Stm)
 | []=>[]
 | s :: r=>lay (p++[i]) s++layB p (i+1) r
end
def layP (x:Pce × Stm):List (Pce × Stm):=lay x.1 x.2
theorem layB_row (p:Pce):∀ (i:Nat) (b:List Stm),layB p i b=(row p i b).flatMap layP
 | i,[]=>by simp only [layB,row,List.flatMap_nil]
 | i,s :: r=>by
  simp only [layB,row,List.flatMap_cons,layB_row p (i+1) r]
  rfl
theorem lay_eq (p:Pce) (s:Stm):lay p s=(p,s) :: (rows p 0 (blks s)).flatMap layP:=by
 cases s<;>simp only [lay,blks,rows,List.flatMap_nil,List.flatMap_append,layB_row,List.append_nil,Nat.zero_add]
def bulk (xs:List (Pce × Stm)):Nat:=(xs.map fun x=>(tt x.2).s).sum
theorem bulk_app (a b:List (Pce × Stm)):bulk (a++b)=bulk a+bulk b:=by unfold bulk;rw [List.map_append,List.sum_append]
theorem bulk_rev (a:List (Pce × Stm)):bulk a.reverse=bulk a:=by
 unfold bulk;rw [List.map_reverse,List.sum_reverse]
theorem bulk_row (p:Pce):∀ (i:Nat) (b:List Stm),bulk (row p i b)=(tts b).s
 | i,[]=>rfl
 | i,s :: r=>by
  have ih:=bulk_row p (i+1) r
  show (tt s).s+bulk (row p (i+1) r)=_
  rw [ih];simp only [tts,Cnt.add]
theorem bulk_rows (p:Pce) (s:Stm):bulk (rows p 0 (blks s))+1=(tt s).s:=by
 cases s<;>simp only [blks,rows,bulk_app,bulk_row,tt,Cnt.add,List.append_nil]<;>rfl
mutual
theorem lay_len (p:Pce):∀ s:Stm,(lay p s).length=(tt s).s
 | .set x s=>rfl
 | .any x=>rfl
 | .note rs=>rfl
 | .choose a b=>by simp only [lay,List.length_cons,List.length_append,layB_len _ _ a,layB_len _ _ b,tt,Cnt.add]
 | .ite r a b=>by simp only [lay,List.length_cons,List.length_append,layB_len _ _ a,layB_len _ _ b,tt,Cnt.add]
 | .whl r rs m b=>by simp only [lay,List.length_cons,layB_len _ _ b,tt,Cnt.add]
theorem layB_len (p:Pce):∀ (i:Nat) (b:List Stm),(layB p i b).length=(tts b).s
 | i,[]=>rfl
 | i,s :: r=>by simp only [layB,List.length_append,lay_len _ s,layB_len p (i+1) r,tts,Cnt.add]
end
theorem sumS_pos (s:Stm):1<=(tt s).s:=by cases s<;>simp only [tt,Cnt.add]<;>omega
theorem len_bulk:∀ xs:List (Pce × Stm),xs.length<=bulk xs
 | []=>Nat.le_refl _
 | x :: r=>by
  have h1:=sumS_pos x.2
  have h2:=len_bulk r
  show r.length+1<=(tt x.2).s+bulk r
  omega
def Fits (n:Nat) (x:Pce × Stm):Prop:=x.1≠[]/\x.1.length+2 * (tt x.2).s<=2 * n+1
theorem fits_row {p:Pce} {n m:Nat}:∀ {i:Nat} {b:List Stm},p.length+1+2 * m<=2 * n+1->(tts b).s<=m->∀ x∈row p i b,Fits n x
 | _,[],_,_,x,hx=>by simp [row] at hx
 | i,s :: r,h1,h2,x,hx=>by
  simp only [tts,Cnt.add] at h2
  rcases List.mem_cons.mp hx with rfl | hx
  ·exact ⟨by simp,by rw [List.length_append];show _+1+2 * (tt s).s<=_;omega⟩
  ·exact fits_row (i:=i+1) (b:=r) h1 (by omega) x hx
theorem fits_rows {p:Pce} {n:Nat} {s:Stm} (h:Fits n (p,s)):∀ x∈rows p 0 (blks s),Fits n x:=by
 obtain ⟨_,h⟩:=h
 simp only at h
 intro x hx
 have one:∀ {k:Nat} {b:List Stm},(tts b).s+1<=(tt s).s->x∈row (p++[k]) 0 b->Fits n x:=fun {k b} hb hx =>
  fits_row (m:=(tts b).s) (by rw [List.length_append];show _+1+1+_<=_;omega) (Nat.le_refl _) x hx
 cases s with
 | set _ _=>simp [blks,rows] at hx
 | any _=>simp [blks,rows] at hx
 | note _=>simp [blks,rows] at hx
 | choose a b =>
  simp only [blks,rows,List.append_nil,List.mem_append] at hx
  rcases hx with hx | hx
  ·exact one (by simp only [tt,Cnt.add];omega) hx
  ·exact one (by simp only [tt,Cnt.add];omega) hx
 | ite _ a b =>
  simp only [blks,rows,List.append_nil,List.mem_append] at hx
  rcases hx with hx | hx
  ·exact one (by simp only [tt,Cnt.add];omega) hx
  ·exact one (by simp only [tt,Cnt.add];omega) hx
 | whl _ _ _ b =>
  simp only [blks,rows,List.append_nil] at hx
  exact one (by simp only [tt,Cnt.add];omega) hx
def wrap:D->D
 | .tup [i,s]=>.tup [.tup [i],s]
 | d=>d
theorem wrap_row:∀ (b:List Stm),((numbered (stDs b)).filter fun _=>true).map wrap=(row [] 0 b).map prD:=by
 have:∀ (i:Nat) (b:List Stm),(((stDs b).zipIdx i).map fun p=>D.tup [.int p.2,p.1]).map wrap=(row [] i b).map prD:=by
  intro i b
  induction b generalizing i with
  | nil=>rfl
  | cons s r ih =>
   simp only [stDs,List.zipIdx_cons,List.map_cons,row,ih (i+1)]
   rfl
 intro b
 rw [List.filter_eq_self.mpr (by simp)]
 exact this 0 b
def spLaid:SpD:=fun ds M Q=>∃ b,ds=[.tup (stDs b)]/\(tts b).s<=100/\∀ q M',M q=none->M' q=some (.lst ((layB [] 0 b).map prD))->Ext M M'->Q (.ref q) M'
def spBlocksOf:SpD:=fun ds M Q=>∃ st,ds=[stD st]/\Q (blD (blks st)) M
def spWithin:SpD:=fun ds M Q=>∃ p st,ds=[pcD p,stD st]/\(tt st).s<=100/\p≠[]/\p.length<=300/\∀ q M',M q=none->M' q=some (.lst ((rows p 0 (blks st)).map prD))->Ext M M'->Q (.ref q) M'
def fstD:D->D
 | .tup (a :: _)=>a
 | d=>d
def nmT (ts:List (Str × Int)):List Str:=ts.map (·.1)
def nmR (rs:List Rw):List Str:=rs.flatMap fun r=>nmT r.2.1
def nmM:Option (Sm × Int)->List Str
 | none=>[]
 | some m=>nmT m.1.1
def nmS:Stm->List Str
 | .set x s=>x :: nmT s.1
 | .any x=>[x]
 | .note rs=>nmR rs
 | .choose _ _=>[]
 | .ite r _ _=>nmT r.2.1
 | .whl r rs m _=>nmT r.2.1++nmR rs++nmM m
def RsOk (rs:List Rw):Prop:=rs.length<=5/\∀ r∈rs,r.2.1.length<=30
def MsOk:Option (Sm × Int)->Prop
 | none=>True
 | some m=>m.1.1.length<=30
def StOk:Stm->Prop
 | .set _ s=>s.1.length<=30
 | .note rs=>RsOk rs
 | .ite r _ _=>r.2.1.length<=30
 | .whl r rs m _=>r.2.1.length<=30/\RsOk rs/\MsOk m
 | _=>True
theorem nmR_len {n:Nat}:∀ {rs:List Rw},(∀ r∈rs,r.2.1.length<=n)->(nmR rs).length<=rs.length * n
 | [],_=>by simp [nmR]
 | r :: rs,h=>by
  have h1:=h r (List.mem_cons_self ..)
  have h2:=nmR_len (rs:=rs) fun x hx=>h x (List.mem_cons_of_mem _ hx)
  show (nmT r.2.1++nmR rs).length<=(rs.length+1) * n
  rw [List.length_append,Nat.add_mul]
  simp only [nmT,List.length_map] at *
  omega
theorem RsOk.len {rs:List Rw} (h:RsOk rs):(nmR rs).length<=150:=by
 have:=nmR_len h.2
 have:=h.1
 have:rs.length * 30<=5 * 30:=Nat.mul_le_mul_right _ h.1
 omega
def strsD (xs:List Str):MO:=.lst (xs.map D.str)
def spNmT:SpD:=fun ds M Q=>∃ ts,ds=[trm ts]/\ts.length<=30/\∀ q M',M q=none->M' q=some (strsD (nmT ts))->Ext M M'->Q (.ref q) M'
def spNmR:SpD:=fun ds M Q=>∃ rs,ds=[.tup (rs.map rwD)]/\RsOk rs/\∀ q M',M q=none->M' q=some (strsD (nmR rs))->Ext M M'->Q (.ref q) M'
def spNmL:SpD:=fun ds M Q=>∃ r rs m b,ds=[stD (.whl r rs m b)]/\StOk (.whl r rs m b)/\∀ q M',M q=none->M' q=some (strsD (nmS (.whl r rs m b)))->Ext M M'->Q (.ref q) M'
def spNmS:SpD:=fun ds M Q=>∃ st,ds=[stD st]/\StOk st/\∀ q M',M q=none->M' q=some (strsD (nmS st))->Ext M M'->Q (.ref q) M'
theorem fst_terms (ts:List (Str × Int)):((ts.map KA.tD).filter fun _=>true).map fstD=(nmT ts).map D.str:=by
 rw [List.filter_eq_self.mpr (by simp),nmT,List.map_map,List.map_map];rfl
theorem none_of {M M':MH} {p:Addr} (h:Ext M M') (e:M' p=none):M p=none:=by
 cases z:M p with
 | none=>rfl
 | some o=>rw [h _ _ z] at e;cases e
def wordS:Stm->Str
 | .set _ _=>Str.ofString "set"
 | .any _=>Str.ofString "any"
 | .note _=>Str.ofString "note"
 | .choose _ _=>Str.ofString "choose"
 | .ite _ _ _=>Str.ofString "if"
 | .whl _ _ _ _=>Str.ofString "while"
def wordD:D->Str
 | .tup (.str x :: _)=>x
 | _=>Str.ofString ""
theorem wordD_st (s:Stm):wordD (stD s)=wordS s:=by cases s<;>simp only [stD]<;>rfl
def spHow:SpD:=fun ds M Q=>∃ (a:Addr) (sts:List Stm) (ws:List Str),ds=[.ref a,.tup (ws.map D.str)]/\M a=some (.lst (sts.map stD))/\sts.length<=100/\∀ M',Ext M M'->Q (.int ((sts.filter fun s=>decide (wordS s∈ws)).length:Nat)) M'
mutual
theorem cnt_l (p:Pce):∀ s:Stm,((lay p s).filter fun x=>decide (wordS x.2∈[Str.ofString "while"])).length=(tt s).l
 | .set x s=>rfl
 | .any x=>rfl
 | .note rs=>rfl
 | .choose a b=>by
  have h1:=cnts_l (p++[0]) 0 a
  have h2:=cnts_l (p++[1]) 0 b
  simp only [lay,tt,Cnt.add]
  rw [List.filter_cons_of_neg (fun h=>nomatch (show false=true from h)),List.filter_append,List.length_append,h1,h2];rfl
 | .ite r a b=>by
  have h1:=cnts_l (p++[0]) 0 a
  have h2:=cnts_l (p++[1]) 0 b
  simp only [lay,tt,Cnt.add]
  rw [List.filter_cons_of_neg (fun h=>nomatch (show false=true from h)),List.filter_append,List.length_append,h1,h2];rfl
 | .whl r rs m b=>by
  have h1:=cnts_l (p++[0]) 0 b
  simp only [lay,tt,Cnt.add]
  rw [List.filter_cons_of_pos (show true=true from rfl),List.length_cons,h1]
theorem cnts_l (p:Pce):∀ (i:Nat) (b:List Stm),((layB p i b).filter fun x=>decide (wordS x.2∈[Str.ofString "while"])).length=(tts b).l
 | i,[]=>rfl
 | i,s :: r=>by
  have h1:=cnt_l (p++[i]) s
  have h2:=cnts_l p (i+1) r
  simp only [layB,tts,Cnt.add]
  rw [List.filter_append,List.length_append,h1,h2]
end
mutual
theorem cnt_a (p:Pce):∀ s:Stm,((lay p s).filter fun x=>decide (wordS x.2∈[Str.ofString "any"])).length=(tt s).a
 | .set x s=>rfl
 | .any x=>rfl
 | .note rs=>rfl
 | .choose a b=>by
  have h1:=cnts_a (p++[0]) 0 a
  have h2:=cnts_a (p++[1]) 0 b
  simp only [lay,tt,Cnt.add]
  rw [List.filter_cons_of_neg (fun h=>nomatch (show false=true from h)),List.filter_append,List.length_append,h1,h2];rfl
 | .ite r a b=>by
  have h1:=cnts_a (p++[0]) 0 a
  have h2:=cnts_a (p++[1]) 0 b
  simp only [lay,tt,Cnt.add]
  rw [List.filter_cons_of_neg (fun h=>nomatch (show false=true from h)),List.filter_append,List.length_append,h1,h2];rfl
 | .whl r rs m b=>by
  have h1:=cnts_a (p++[0]) 0 b
  simp only [lay,tt,Cnt.add]
  rw [List.filter_cons_of_neg (fun h=>nomatch (show false=true from h)),h1];rfl
theorem cnts_a (p:Pce):∀ (i:Nat) (b:List Stm),((layB p i b).filter fun x=>decide (wordS x.2∈[Str.ofString "any"])).length=(tts b).a
 | i,[]=>rfl
 | i,s :: r=>by
  have h1:=cnt_a (p++[i]) s
  have h2:=cnts_a p (i+1) r
  simp only [layB,tts,Cnt.add]
  rw [List.filter_append,List.length_append,h1,h2]
end
mutual
theorem cnt_b (p:Pce):∀ s:Stm,((lay p s).filter fun x=>decide (wordS x.2∈[Str.ofString "choose",Str.ofString "if"])).length=(tt s).b
 | .set x s=>rfl
 | .any x=>rfl
 | .note rs=>rfl
 | .choose a b=>by
  have h1:=cnts_b (p++[0]) 0 a
  have h2:=cnts_b (p++[1]) 0 b
  simp only [lay,tt,Cnt.add]
  rw [List.filter_cons_of_pos (show true=true from rfl),List.length_cons,List.filter_append,List.length_append,h1,h2]
 | .ite r a b=>by
  have h1:=cnts_b (p++[0]) 0 a
  have h2:=cnts_b (p++[1]) 0 b
  simp only [lay,tt,Cnt.add]
  rw [List.filter_cons_of_pos (show true=true from rfl),List.length_cons,List.filter_append,List.length_append,h1,h2]
 | .whl r rs m b=>by
  have h1:=cnts_b (p++[0]) 0 b
  simp only [lay,tt,Cnt.add]
  rw [List.filter_cons_of_neg (fun h=>nomatch (show false=true from h)),h1];rfl
theorem cnts_b (p:Pce):∀ (i:Nat) (b:List Stm),((layB p i b).filter fun x=>decide (wordS x.2∈[Str.ofString "choose",Str.ofString "if"])).length=(tts b).b
 | i,[]=>rfl
 | i,s :: r=>by
  have h1:=cnt_b (p++[i]) s
  have h2:=cnts_b p (i+1) r
  simp only [layB,tts,Cnt.add]
  rw [List.filter_append,List.length_append,h1,h2]
end
def deepD:D->D
 | .tup (.tup p :: _)=>.int (((p.length:Int)+1).fdiv 2)
 | d=>d
def deep (x:Pce × Stm):Int:=((x.1.length:Int)+1).fdiv 2
theorem deepD_pr (x:Pce × Stm):deepD (prD x)=.int (deep x):=by
 unfold prD pcD deepD deep;simp
def spDeep:SpD:=fun ds M Q=>∃ (a:Addr) (xs:List (Pce × Stm)),ds=[.ref a]/\M a=some (.lst (xs.map prD))/\xs.length<=100/\(∀ x∈xs,x.1.length<=300)/\∀ r M',((xs=[]/\r=0)\/((∃ x∈xs,r=deep x)/\∀ x∈xs,deep x<=r))->Ext M M'->Q (.int r) M'
def noteN:Stm->Nat
 | .note rs=>rs.length
 | _=>0
def isNt:Stm->Bool
 | .note _=>true
 | _=>false
def ntD:D->Bool
 | .tup (.str w :: _)=>decide (w=Str.ofString "note")
 | _=>false
def lenD:D->D
 | .tup [_,.tup rs]=>.int (rs.length:Nat)
 | d=>d
theorem ntD_st (s:Stm):ntD (stD s)=isNt s:=by cases s<;>simp only [stD,ntD,isNt]<;>rfl
theorem lenD_st {s:Stm} (h:isNt s=true):lenD (stD s)=.int (noteN s:Nat):=by
 cases s with
 | note rs=>simp only [stD,lenD,noteN,List.length_map]
 | _=>cases h
def noted (sts:List Stm):List Int:=(sts.filter isNt).map fun s=>((noteN s:Nat):Int)
def spNoted:SpD:=fun ds M Q=>∃ (a:Addr) (sts:List Stm),ds=[.ref a]/\M a=some (.lst (sts.map stD))/\sts.length<=100/\(∀ s∈sts,noteN s<=100)/\∀ M',Ext M M'->Q (.int (noted sts).sum) M'
def sndD:D->D
 | .tup [_,b]=>b
 | d=>d
theorem snd_map (xs:List (Pce × Stm)):((xs.map prD).filter fun _=>true).map sndD=(xs.map (·.2)).map stD:=by
 rw [List.filter_eq_self.mpr (by simp),List.map_map,List.map_map];rfl
structure Small (ss:List Str) (b:List Stm):Prop where
 names:ss.length<=3
 cs:(tts b).s<=24
 deep:∀ x∈layB [] 0 b,KA.deep x<=4
 long:∀ x∈layB [] 0 b,x.1.length<=300
 cb:(tts b).b<=2
 cl:(tts b).l<=2
 ca:(tts b).a<=1
 note:∀ s∈(layB [] 0 b).map (·.2),noteN s<=100
 cn:(noted ((layB [] 0 b).map (·.2))).sum<=2
mutual
theorem lay_wf {ss:List Str} (p:Pce):∀ s:Stm,wf ss s->∀ x∈lay p s,wf ss x.2
 | .set x s,h,y,hy=>by simp only [lay,List.mem_singleton] at hy;subst hy;exact h
 | .any x,h,y,hy=>by simp only [lay,List.mem_singleton] at hy;subst hy;exact h
 | .note rs,h,y,hy=>by simp only [lay,List.mem_singleton] at hy;subst hy;exact h
 | .choose a b,h,y,hy=>by
  have h':=h
  simp only [wf] at h'
  simp only [lay,List.mem_cons,List.mem_append] at hy
  rcases hy with rfl | hy | hy
  ·exact h
  ·exact layB_wf _ _ a h'.1 y hy
  ·exact layB_wf _ _ b h'.2 y hy
 | .ite r a b,h,y,hy=>by
  have h':=h
  simp only [wf] at h'
  simp only [lay,List.mem_cons,List.mem_append] at hy
  rcases hy with rfl | hy | hy
  ·exact h
  ·exact layB_wf _ _ a h'.2.1 y hy
  ·exact layB_wf _ _ b h'.2.2 y hy
 | .whl r rs m b,h,y,hy=>by
  have h':=h
  simp only [wf] at h'
  simp only [lay,List.mem_cons] at hy
  rcases hy with rfl | hy
  ·exact h
  ·exact layB_wf _ _ b h'.2.2.2.2 y hy
theorem layB_wf {ss:List Str} (p:Pce):∀ (i:Nat) (b:List Stm),wfs ss b->∀ x∈layB p i b,wf ss x.2
 | i,[],h,y,hy=>by simp only [layB] at hy;cases hy
 | i,s :: r,h,y,hy=>by
  simp only [wfs] at h
  simp only [layB,List.mem_append] at hy
  rcases hy with hy | hy
  ·exact lay_wf _ s h.1 y hy
  ·exact layB_wf p (i+1) r h.2 y hy
end
mutual
theorem lay_dp (p:Pce):∀ s:Stm,∀ x∈lay p s,x.1.length+2<=p.length+2 * dp s
 | .set x s,y,hy=>by simp only [lay,List.mem_singleton] at hy;subst hy;simp only [dp];omega
 | .any x,y,hy=>by simp only [lay,List.mem_singleton] at hy;subst hy;simp only [dp];omega
 | .note rs,y,hy=>by simp only [lay,List.mem_singleton] at hy;subst hy;simp only [dp];omega
 | .choose a b,y,hy=>by
  simp only [lay,List.mem_cons,List.mem_append] at hy
  simp only [dp]
  rcases hy with rfl | hy | hy
  ·show p.length+2<=_;omega
  ·have:=layB_dp _ _ a y hy
   rw [List.length_append] at this
   have e:([0] : List Nat).length=1:=rfl
   omega
  ·have:=layB_dp _ _ b y hy
   rw [List.length_append] at this
   have e:([1] : List Nat).length=1:=rfl
   omega
 | .ite r a b,y,hy=>by
  simp only [lay,List.mem_cons,List.mem_append] at hy
  simp only [dp]
  rcases hy with rfl | hy | hy
  ·show p.length+2<=_;omega
  ·have:=layB_dp _ _ a y hy
   rw [List.length_append] at this
   have e:([0] : List Nat).length=1:=rfl
   omega
  ·have:=layB_dp _ _ b y hy
   rw [List.length_append] at this
   have e:([1] : List Nat).length=1:=rfl
   omega
 | .whl r rs m b,y,hy=>by
  simp only [lay,List.mem_cons] at hy
  simp only [dp]
  rcases hy with rfl | hy
  ·show p.length+2<=_;omega
  ·have:=layB_dp _ _ b y hy
   rw [List.length_append] at this
   have e:([0] : List Nat).length=1:=rfl
   omega
theorem layB_dp (p:Pce):∀ (i:Nat) (b:List Stm),∀ x∈layB p i b,x.1.length+1<=p.length+2 * dps b
 | i,[],y,hy=>by simp only [layB] at hy;cases hy
 | i,s :: r,y,hy=>by
  simp only [layB,List.mem_append] at hy
  simp only [dps]
  rcases hy with hy | hy
  ·have:=lay_dp _ s y hy
   rw [List.length_append] at this
   have e:([i] : List Nat).length=1:=rfl
   omega
  ·have:=layB_dp p (i+1) r y hy
   omega
end
theorem noted_app (a b:List Stm):noted (a++b)=noted a++noted b:=by unfold noted;rw [List.filter_append,List.map_append]
theorem noted_no {s:Stm} (h:isNt s=false) (r:List Stm):noted (s :: r)=noted r:=by unfold noted;rw [List.filter_cons_of_neg (by rw [h];decide)]
mutual
theorem lay_noted (p:Pce):∀ s:Stm,(noted ((lay p s).map (·.2))).sum=((tt s).n:Int)
 | .set x s=>by simp only [lay,List.map_cons,List.map_nil];rw [noted_no rfl];rfl
 | .any x=>by simp only [lay,List.map_cons,List.map_nil];rw [noted_no rfl];rfl
 | .note rs=>by
  simp only [lay,List.map_cons,List.map_nil,tt]
  show (List.map (fun s=>((noteN s:Nat):Int)) (List.filter isNt [Stm.note rs])).sum=_
  rw [List.filter_cons_of_pos rfl]
  simp [noteN]
 | .choose a b=>by
  have h1:=layB_noted (p++[0]) 0 a
  have h2:=layB_noted (p++[1]) 0 b
  simp only [lay,List.map_cons,List.map_append,tt,Cnt.add]
  rw [noted_no rfl,noted_app,List.sum_append,h1,h2];omega
 | .ite r a b=>by
  have h1:=layB_noted (p++[0]) 0 a
  have h2:=layB_noted (p++[1]) 0 b
  simp only [lay,List.map_cons,List.map_append,tt,Cnt.add]
  rw [noted_no rfl,noted_app,List.sum_append,h1,h2];omega
 | .whl r rs m b=>by
  have h1:=layB_noted (p++[0]) 0 b
  simp only [lay,List.map_cons,tt,Cnt.add]
  rw [noted_no rfl,h1];omega
theorem layB_noted (p:Pce):∀ (i:Nat) (b:List Stm),(noted ((layB p i b).map (·.2))).sum=((tts b).n:Int)
 | i,[]=>rfl
 | i,s :: r=>by
  have h1:=lay_noted (p++[i]) s
  have h2:=layB_noted p (i+1) r
  simp only [layB,List.map_append,tts,Cnt.add]
  rw [noted_app,List.sum_append,h1,h2];omega
end
theorem nmT_mem {ss:List Str} {ts:List (Str × Int)} (h:Terms ss ts):∀ x∈nmT ts,x∈ss:=fun x hx=>h.sub.subset hx
theorem nmR_mem {ss:List Str} {rs:List Rw} (h:∀ r∈rs,WfR ss r):∀ x∈nmR rs,x∈ss:=fun x hx=>by
 unfold nmR at hx
 obtain ⟨r,hr,hx⟩:=List.mem_flatMap.mp hx
 exact nmT_mem (h r hr).ts x hx
theorem nmS_mem {ss:List Str}:∀ {s:Stm},wf ss s->∀ x∈nmS s,x∈ss
 | .set y s,h,x,hx=>by
  simp only [wf] at h
  simp only [nmS,List.mem_cons] at hx
  rcases hx with rfl | hx
  ·exact h.1
  ·exact nmT_mem h.2.ts x hx
 | .any y,h,x,hx=>by
  simp only [wf] at h
  simp only [nmS,List.mem_singleton] at hx
  subst hx;exact h
 | .note rs,h,x,hx=>by
  simp only [wf] at h
  exact nmR_mem h.1 x hx
 | .choose a b,h,x,hx=>by simp only [nmS] at hx;cases hx
 | .ite r a b,h,x,hx=>by
  simp only [wf] at h
  exact nmT_mem h.1.ts x hx
 | .whl r rs m b,h,x,hx=>by
  simp only [wf] at h
  simp only [nmS,List.mem_append] at hx
  rcases hx with (hx | hx) | hx
  ·exact nmT_mem h.1.ts x hx
  ·exact nmR_mem h.2.1 x hx
  ·cases m with
   | none=>simp only [nmM] at hx;cases hx
   | some m=>exact nmT_mem h.2.2.2.1.1.ts x hx
theorem rsOk {ss:List Str} (hs:ss.length<=3) {rs:List Rw} (h:∀ r∈rs,WfR ss r) (hl:rs.length<=2):RsOk rs:=⟨by omega,fun r hr=>by have:=(h r hr).ts.len;omega⟩
theorem stOk {ss:List Str} (hs:ss.length<=3):∀ {s:Stm},wf ss s->StOk s
 | .set y s,h=>by
  simp only [wf] at h
  have:=h.2.ts.len
  simp only [StOk];omega
 | .any y,h=>by simp only [StOk]
 | .note rs,h=>by
  simp only [wf] at h
  exact rsOk hs h.1 h.2.2
 | .choose a b,h=>by simp only [StOk]
 | .ite r a b,h=>by
  simp only [wf] at h
  have:=h.1.ts.len
  simp only [StOk];omega
 | .whl r rs m b,h=>by
  simp only [wf] at h
  have h1:=h.1.ts.len
  refine ⟨by omega,rsOk hs h.2.1 h.2.2.1,?_⟩
  cases m with
  | none=>trivial
  | some m=>have:=h.2.2.2.1.1.ts.len;show _<=30;omega
theorem nmS_len {s:Stm} (h:StOk s):(nmS s).length<=500:=by
 cases s with
 | set y s=>simp only [StOk] at h;simp only [nmS,List.length_cons,nmT,List.length_map];omega
 | any y=>simp [nmS]
 | note rs=>have:=RsOk.len h;simp only [nmS];omega
 | choose a b=>simp [nmS]
 | ite r a b=>simp only [StOk] at h;simp only [nmS,nmT,List.length_map];omega
 | whl r rs m b =>
  obtain ⟨h1,h2,h3⟩:=h
  have:=h2.len
  simp only [nmS,List.length_append,nmT,List.length_map]
  cases m with
  | none=>simp only [nmM,List.length_nil];omega
  | some m=>have h3:m.1.1.length<=30:=h3;simp only [nmM,nmT,List.length_map];omega
theorem noteN_le {ss:List Str}:∀ {s:Stm},wf ss s->noteN s<=100
 | .set _ _,_=>by simp only [noteN];omega
 | .any _,_=>by simp only [noteN];omega
 | .note rs,h=>by simp only [wf] at h;simp only [noteN];omega
 | .choose _ _,_=>by simp only [noteN];omega
 | .ite _ _ _,_=>by simp only [noteN];omega
 | .whl _ _ _ _,_=>by simp only [noteN];omega
mutual
theorem lay_tt (p:Pce):∀ s:Stm,∀ x∈lay p s,(tt x.2).s<=(tt s).s
 | .set x s,y,hy=>by simp only [lay,List.mem_singleton] at hy;subst hy;exact Nat.le_refl _
 | .any x,y,hy=>by simp only [lay,List.mem_singleton] at hy;subst hy;exact Nat.le_refl _
 | .note rs,y,hy=>by simp only [lay,List.mem_singleton] at hy;subst hy;exact Nat.le_refl _
 | .choose a b,y,hy=>by
  simp only [lay,List.mem_cons,List.mem_append] at hy
  rcases hy with rfl | hy | hy
  ·exact Nat.le_refl _
  ·have:=layB_tt _ _ a y hy;simp only [tt,Cnt.add];omega
  ·have:=layB_tt _ _ b y hy;simp only [tt,Cnt.add];omega
 | .ite r a b,y,hy=>by
  simp only [lay,List.mem_cons,List.mem_append] at hy
  rcases hy with rfl | hy | hy
  ·exact Nat.le_refl _
  ·have:=layB_tt _ _ a y hy;simp only [tt,Cnt.add];omega
  ·have:=layB_tt _ _ b y hy;simp only [tt,Cnt.add];omega
 | .whl r rs m b,y,hy=>by
  simp only [lay,List.mem_cons] at hy
  rcases hy with rfl | hy
  ·exact Nat.le_refl _
  ·have:=layB_tt _ _ b y hy;simp only [tt,Cnt.add];omega
theorem layB_tt (p:Pce):∀ (i:Nat) (b:List Stm),∀ x∈layB p i b,(tt x.2).s<=(tts b).s
 | i,[],y,hy=>by simp only [layB] at hy;cases hy
 | i,s :: r,y,hy=>by
  simp only [layB,List.mem_append] at hy
  simp only [tts,Cnt.add]
  rcases hy with hy | hy
  ·have:=lay_tt _ s y hy;omega
  ·have:=layB_tt p (i+1) r y hy;omega
end
theorem WfP.small {p:Plan} (h:WfP p):Small p.ss p.bl:=by
 have hd:dps p.bl<=4:=dps_le h.dp
 have hl:∀ x∈layB [] 0 p.bl,x.1.length<=7:=fun x hx=>by
  have:=layB_dp [] 0 p.bl x hx
  simp only [List.length_nil] at this
  omega
 refine ⟨h.names.le,h.cs,fun x hx=>?_,fun x hx=>by have:=hl x hx;omega,h.cb,h.cl,h.ca,fun s hs=>?_,?_⟩
 ·have:=hl x hx
  unfold KA.deep
  rw [Int.fdiv_eq_ediv_of_nonneg _ (by decide)]
  omega
 ·obtain ⟨x,hx,rfl⟩:=List.mem_map.mp hs
  exact noteN_le (layB_wf _ _ _ h.bl x hx)
 ·rw [layB_noted];have:=h.cn;omega
end KA
namespace D3
open PySem PySem.Spec PyProof.Rows L2
section
variable {X:Cx} {tg:Expr}
end
section
variable {X:Cx} {G:Ga} {M:MH} {a b c:Expr} {tg:Expr} {body:List Stmt} {pos:Pos} {E:EndsD}
end
section
variable {X:Cx} {G:Ga} {M:MH} {a b e:Expr} {pos:Pos} {Q:DK} {Qb:Bool->MH->Prop} {pins:List (Addr × Obj)} {σ:St} {H:Hp} {s:Shared}
theorem reads_lst (I:L2.Inv X pins σ H s) (m:MemOk X.K M H) {l:Addr} {ds:List D} (h:M l=some (.lst ds)) (hi:immL ds=true):∃ as,Reads s.heap (.ref l) (.list (pdL ds)) as:=by
 obtain ⟨xs,e1,e2⟩:=m l _ h
 obtain ⟨z,its,n,rv,hl,eo⟩:=I.lstM e1
 obtain ⟨as,q⟩:=readsAll_of I ds xs its e2 rv hi
 exact ⟨_,.list eo rfl rfl (by simpa using q)⟩
def EqX (da db:D) (M:MH) (Qb:Bool->MH->Prop):Prop:=match da,db with
 | .ref l,.ref k=>∃ xs ys,M l=some (.lst xs)/\M k=some (.lst ys)/\immL xs=true/\immL ys=true/\PyData.depthAll (pdL xs)<=59/\Qb (PyData.eqvAll (pdL xs) (pdL ys)) M
 | _,_=>EqL da db M Qb
theorem eqx_l {l k:Addr} {xs ys:List D} (h1:M l=some (.lst xs)) (h2:M k=some (.lst ys)) (i1:immL xs=true) (i2:immL ys=true) (hd:PyData.depthAll (pdL xs)<=59) (q:Qb (PyData.eqvAll (pdL xs) (pdL ys)) M):EqX (.ref l) (.ref k) M Qb:=⟨xs,ys,h1,h2,i1,i2,hd,q⟩
theorem eqvAll_refl {xs:List D} (h:immL xs=true):PyData.eqvAll (pdL xs) (pdL xs)=true:=by
 have:=PySem.SeqAt.eqv_refl (pd (.tup xs)) (canLay_imm _ (by simp only [imm];exact h))
 simp only [pd,PyData.eqv] at this
 exact this
theorem eqx_same {l k:Addr} {xs:List D} (h1:M l=some (.lst xs)) (h2:M k=some (.lst xs)) (i1:immL xs=true) (hd:PyData.depthAll (pdL xs)<=59) (q:Qb true M):EqX (.ref l) (.ref k) M Qb :=
 eqx_l h1 h2 i1 i1 hd (by rw [eqvAll_refl i1];exact q)
theorem eqX_run {neg:Bool} {op:CmpOp} (ho:op=if neg then .NotEq else .Eq) (hu:X.A.units+64 < cLine) {da db:D} {x y:V} {v u:Value} (I:L2.Inv X pins σ H s) (R:Rel X G M σ H) (i1:Is H da x) (i2:Is H db y) (r1:RelV x v) (r2:RelV y u)
  (h:EqX da db M fun k M'=>Q (.bl (if neg then !k else k)) M'):wpAny (model X.prog X.w) X.A (compareOp op v u) (EPD X pins σ G H Q) X.xe s:=by
 unfold EqX at h
 split at h
 ·rename_i l k
  obtain ⟨xs,ys,h1,h2,m1,m2,hd,q⟩:=h
  rw [is_ref] at i1 i2;subst i1;subst i2
  cases r1;cases r2
  obtain ⟨as,ra⟩:=reads_lst I R.mem h1 m1
  obtain ⟨bs,rb⟩:=reads_lst I R.mem h2 m2
  have c1:(PyData.list (pdL xs)).canLay0=true:=by simp only [PyData.canLay0];exact canLayL_imm xs m1
  have c2:(PyData.list (pdL ys)).canLay0=true:=by simp only [PyData.canLay0];exact canLayL_imm ys m2
  have hdp:(PyData.list (pdL xs)).depth<=60:=by simp only [PyData.depth];omega
  have hmin:min (PyData.list (pdL xs)).depth (PyData.list (pdL ys)).depth<=(PyData.list (pdL xs)).depth:=Nat.min_le_left _ _
  have ee:PyData.eqv (.list (pdL xs)) (.list (pdL ys))=PyData.eqvAll (pdL xs) (pdL ys):=by simp only [PyData.eqv]
  subst ho
  cases neg with
  | false=>exact PySem.SeqAt.compareEq_reads ra rb c1 c2 (by omega) ⟨.bl _,H,.bl _,M,I,rfl,Grow.refl _,is_bl.mpr rfl,R,by rw [ee];exact q⟩
  | true=>exact PySem.SeqAt.compareNe_reads ra rb c1 c2 (by omega) ⟨.bl _,H,.bl _,M,I,rfl,Grow.refl _,is_bl.mpr rfl,R,by rw [ee];exact q⟩
 ·exact eqL_run ho hu I R i1 i2 r1 r2 h
theorem lx_eq (hu:X.A.units+64 < cLine) (h:EV X G M a fun da Ma=>EV X G Ma b fun db Mb=>EqX da db Mb fun k M'=>Q (.bl k) M'):EV X G M (.Compare a [.Eq] [b] pos) Q:=by
 intro pins s σ H I R
 refine wpAny_Compare1 ?_ (nomark _)
 refine thn (h pins s σ H I R) fun v s1 ⟨x,H1,da,Ma,I1,r1,g1,i1,R1,q1⟩=>?_
 refine thn (q1 pins s1 σ H1 I1 R1) fun u s2 ⟨y,H2,db,Mb,I2,r2,g2,i2,R2,q⟩=>?_
 exact thn (eqX_run (neg:=false) rfl hu I2 R2 (Is.grow g2 _ _ i1) i2 r1 r2 q) fun _ _ h=>h.grow (g1.trans g2)
theorem EqX.to {da db:D} (h:EqX da db M Qb) {Qc:Bool->MH->Prop} (k:∀ b M',Qb b M'->Qc b M'):EqX da db M Qc:=by
 unfold EqX at h ⊢
 split at h
 ·obtain ⟨xs,ys,h1,h2,m1,m2,hd,q⟩:=h
  exact ⟨xs,ys,h1,h2,m1,m2,hd,k _ _ q⟩
 ·exact ⟨h.1,k _ _ h.2⟩
theorem lxt_eq (hu:X.A.units+64 < cLine) (h:EV X G M a fun da Ma=>EV X G Ma b fun db Mb=>EqX da db Mb Qb):TV X G M (.Compare a [.Eq] [b] pos) Qb:=by
 refine tv_cval (nomark _) fun pins s σ H I R=>?_
 refine thn (h pins s σ H I R) fun v s1 ⟨x,H1,da,Ma,I1,r1,g1,i1,R1,q1⟩=>?_
 refine thn (q1 pins s1 σ H1 I1 R1) fun u s2 ⟨y,H2,db,Mb,I2,r2,g2,i2,R2,q⟩=>?_
 exact thn (eqX_run (neg:=false) rfl hu I2 R2 (Is.grow g2 _ _ i1) i2 r1 r2 (Q:=fun d M'=>∃ k,d=.bl k/\Qb k M') (q.to fun b M' q=>⟨_,rfl,q⟩)) fun _ _ h=>h.grow (g1.trans g2)
theorem lxt_ne (hu:X.A.units+64 < cLine) (h:EV X G M a fun da Ma=>EV X G Ma b fun db Mb=>EqX da db Mb fun k M'=>Qb (!k) M'):TV X G M (.Compare a [.NotEq] [b] pos) Qb:=by
 refine tv_cval (nomark _) fun pins s σ H I R=>?_
 refine thn (h pins s σ H I R) fun v s1 ⟨x,H1,da,Ma,I1,r1,g1,i1,R1,q1⟩=>?_
 refine thn (q1 pins s1 σ H1 I1 R1) fun u s2 ⟨y,H2,db,Mb,I2,r2,g2,i2,R2,q⟩=>?_
 exact thn (eqX_run (neg:=true) rfl hu I2 R2 (Is.grow g2 _ _ i1) i2 r1 r2 (Q:=fun d M'=>∃ k,d=.bl k/\Qb k M') (q.to fun b M' q=>⟨_,rfl,q⟩)) fun _ _ h=>h.grow (g1.trans g2)
def rNilT:R2:=fun x y H Q=>∃ a b,x=.ref a/\y=.ref b/\H a=some (.tup [])/\(∃ ys,H b=some (.tup ys))/\Q (.ref b) H
theorem op_nilT:OpR X (binaryOp .Add) rNilT:=by
 intro pins s σ H x y v u Q I rx ry h
 obtain ⟨a,b,rfl,rfl,ha,⟨ys,hb⟩,q⟩:=h
 cases rx
 cases ry
 obtain ⟨its,r1,p1,_⟩:=I.tuple (SqT.of ha)
 obtain ⟨its2,r2,p2,_⟩:=I.tuple (SqT.of hb)
 cases r1
 obtain ⟨⟨cls,dd,data,sl⟩,ho,hc,n,hd⟩:=id p1
 obtain ⟨⟨cls2,dd2,data2,sl2⟩,ho2,hc2,n2,hd2⟩:=id p2
 simp only at hc hd hc2 hd2
 subst hc hd hc2 hd2
 exact concat_meets ⟨_,ho,rfl⟩ ⟨_,ho2,rfl⟩ noFill_tuple_add seq_tuple_add PySem.F.slot_tuple_add PySem.F.entry_tuple_add (PySem.F.args_tuple_add_2 _ _)
  (tuple_addW0 a b _ _ n n2 dd dd2 sl sl2 rfl) ⟨ho,ho2,⟨.ref b,H,I,rfl,q⟩⟩
theorem ev_addT (h:EV X G M a fun da Ma=>EV X G Ma b fun db Mb=>∃ xs ys,da=.tup xs/\db=.tup ys/\xs.length+ys.length<=sizeLine/\Q (.tup (xs++ys)) Mb):EV X G M (.BinOp a .Add b pos) Q :=
 ev_op (op_nilT.or op_addAll) (h.mono fun _ _ h1=>h1.mono fun _ Mb ⟨xs,ys,e1,e2,hz,q⟩=>by
  subst e1;subst e2
  by_cases hx:xs=[]
  ·subst hx
   intro H x y kf hx hy m
   rw [is_tup] at hx hy
   obtain ⟨l,us,rfl,hl,hu⟩:=hx
   obtain ⟨k,ws,rfl,hk,hw⟩:=hy
   rw [isl_nil] at hu;subst hu
   exact .inl ⟨l,k,rfl,rfl,hl,⟨ws,hk⟩,fun _=>⟨Grow.refl _,_,Mb,is_tup.mpr ⟨k,ws,rfl,hk,hw⟩,m,q⟩⟩
  ·intro H x y kf hx' hy' m
   exact .inr (rd_add (add_tt hx hz q) H x y kf hx' hy' m))
end
section
variable {prog:Program} {w:World} {A:Around} {E:Value->Shared->Prop} {s:Shared}
end
section
variable {X:Cx} {G:Ga} {M:MH} {e:Expr} {pos:Pos} {Q:DK}
end
end D3
namespace KA
open PySem PySem.Spec PyProof.Rows L2 D3 K01
def down:Stm->Pce->Option Stm
 | s,[]=>some s
 | _,[_]=>none
 | s,k :: j :: r=>match (blks s)[k]? with
  | none=>none
  | some b=>match b[j]? with
   | none=>none
   | some t=>down t r
theorem dps_mem {s:Stm}:∀ {b:List Stm},s∈b->dp s<=dps b
 | [],h=>by cases h
 | x :: r,h=>by
  simp only [dps]
  rcases List.mem_cons.mp h with rfl | h
  ·omega
  ·have:=dps_mem h;omega
theorem tts_mem {s:Stm}:∀ {b:List Stm},s∈b->(tt s).s<=(tts b).s
 | [],h=>by cases h
 | x :: r,h=>by
  simp only [tts,Cnt.add]
  rcases List.mem_cons.mp h with rfl | h
  ·omega
  ·have:=tts_mem h;omega
theorem tts_take {b:List Stm}:∀ i,(tts (b.take i)).s<=(tts b).s:=fun i=>by
 have:=tts_app (b.take i) (b.drop i)
 rw [List.take_append_drop] at this
 rw [this];simp only [Cnt.add];omega
end KA
namespace D3
open PySem PySem.Spec PyProof.Rows L2
section
variable {X:Cx} {G:Ga} {M:MH} {o e:Expr} {Q:DK} {apos cpos pos:Pos}
end
section
variable {P:Program} {w:World} {B:Around} {Z:Value->Shared->Prop} {st:Shared} {z TI TO i1 i2:Addr} {f1 f2:List Addr} {n1 n2 k:Nat} {p1 p2:Nat->Value->Prop} {S1 S2:Nat->Heap->Prop} {a b:Value}
end
section
variable {X:Cx} {ts:List Expr} {n:Nat} {tp:Pos}
end
section
variable {X:Cx} {G:Ga} {M:MH} {ts:List Expr} {n:Nat} {tp pos:Pos} {e1 e2:Expr} {body:List Stmt} {E:EndsD}
end
section
variable {X:Cx} {G:Ga} {M:MH} {elt e1 e2:Expr} {ts ifs:List Expr} {n:Nat} {tp p ep:Pos} {scope:Scope} {pos:Pos} {Q:DK} {own:List Str} {js:List Nat} {N:List Str} {cl:List (Str × Addr)}
end
theorem noFill_tup:fillsNumberSlot (.type "tuple") "mul" = pure false :=
 PySem.fillsNumberSlot_seq (id := "tuple.__mul__") (r:=some (.builtin "tuple.__rmul__")) F.slot_tuple_mul.lookup (by decide +kernel) F.slot_tuple_rmul.lookup (by decide +kernel)
theorem rep_tup:seqRepeat? (.type "tuple")=pure (some (.builtin "tuple.__mul__")):=by
 unfold seqRepeat?
 rw [PySem.seqSlot_of (T := "tuple") (name := "__mul__") (id := "tuple.__mul__") F.slot_tuple_mul.lookup (by decide +kernel),PySem.seqSlot_of (T := "tuple") (name := "__rmul__") (id := "tuple.__rmul__") F.slot_tuple_rmul.lookup (by decide +kernel)]
 rfl
theorem rmul_tup (a:Int) (t:Tok) (l:Addr) (items:Array Value) (n:Nat) (dc:Option Addr) (sl:Array (Option Value)):Meets (Builtin.«int.__rmul__» ⟨[.int a t,.ref l],[]⟩) (fun _ R st=>st.heap.get? l=some { cls:=.type "tuple",dict:=dc,data:=.seq items n,slots:=sl }/\R (.ok (.ret Value.notImplemented)) st) :=
 .of_wp fun P w B R st q=>by
  obtain ⟨hp,gs,dr,tk,os⟩:=st
  obtain ⟨h1,q⟩:=q
  wp_walk
  exact ⟨_,rfl,q⟩
theorem fold_rep (its:List Value) (m:Nat):List.foldl (fun x1 x2=>x1++x2) #[] (List.replicate m its.toArray)=(List.replicate m its).flatten.toArray:=by
 have:=foldl_rep its m []
 rw [List.nil_append] at this
 exact this
theorem mul_tup (k:Int) (t:Tok) (l:Addr) (its:List Value) (n:Nat) (dc:Option Addr) (sl:Array (Option Value)) (h2:2<=k) (h63:k < 2 ^ 63) (hne:its≠[]) (hsz:its.length * k.toNat<=sizeLine) :
  Meets (Builtin.«tuple.__mul__» ⟨[.ref l,.int k t],[]⟩) (fun _ R st=>st.heap.get? l=some { cls:=.type "tuple",dict:=dc,data:=.seq its.toArray n,slots:=sl } /\
   R (.ok (.ret (.ref st.heap.objs.size))) { st with heap:=st.heap.push { cls:=.type "tuple",data:=.seq (List.replicate k.toNat its).flatten.toArray } }) :=
 .of_wp fun P w B R st q=>by
  obtain ⟨hp,gs,dr,tk,os⟩:=st
  obtain ⟨h1,q⟩:=q
  have he:its.toArray.isEmpty=false:=by cases its with | nil=>exact absurd rfl hne | cons a r=>simp
  have hk:(its.toArray.size:Int) * k=((its.length * k.toNat:Nat):Int):=by
   rw [List.size_toArray,Int.natCast_mul,Int.toNat_of_nonneg (by omega)]
  have c1:(decide (k < -(2 ^ 63)) || decide (k ≥ 2 ^ 63))=false:=by simp;omega
  have c2:(its.toArray.isEmpty || k == 1)=false:=by rw [he];simp;omega
  have c3:(decide (k<=0) || its.toArray.isEmpty)=false:=by rw [he];simp;omega
  have c4:¬ ((its.toArray.size:Int) * k > (2 ^ 63 - 1) / 8):=by rw [hk];rw [sizeLine_eq] at hsz;omega
  have c5:Builtin.Tuple.tupleTooMany ((its.toArray.size:Int) * k)=false:=decide_eq_false (by rw [hk];intro z;have z:(sizeLine:Int) < _:=z;have:=Int.ofNat_lt.mp z;omega)
  wp_walk
  rw [if_neg (by rw [c1];exact Bool.false_ne_true)]
  wp_walk
  rw [if_neg (by rw [c2];exact Bool.false_ne_true)]
  dsimp only
  rw [if_neg (by rw [c3];exact Bool.false_ne_true),if_neg c4,if_neg (by rw [c5];exact Bool.false_ne_true),fold_rep]
  unfold Builtin.Tuple.tupleExact
  exact wpAny_bind (wpAny_newObj_type (wpAny_pure ⟨_,rfl,q⟩) (by show (List.replicate k.toNat its).flatten.toArray.size<=sizeLine;rw [List.size_toArray,len_rep,Nat.mul_comm];exact hsz))
def rRepT (K:PySem.W.Frag):R2:=fun x y H Q=>∃ l k xs,x=.ref l/\y=.int k/\SqT K H l xs/\xs≠[]/\2<=k/\k < 2 ^ 63/\xs.length * k.toNat<=sizeLine/\∀ p,H p=none->Q (.ref p) (upd H p (.tup (List.replicate k.toNat xs).flatten))
section
variable {X:Cx} {G:Ga} {M:MH} {a b:Expr} {pos:Pos} {Q:DK}
theorem op_repT:OpR X (binaryOp .Mult) (rRepT X.K):=by
 intro pins s σ H x y v u Q I rx ry h
 obtain ⟨l,k,xs,rfl,rfl,hq,hne,h2,h63,hz,q⟩:=h
 cases rx
 obtain ⟨t,rfl⟩:=ry
 obtain ⟨its,r,⟨⟨c,dc,dt,sl⟩,e,hc,n,hd⟩,_⟩:=I.tuple hq
 simp only at hc hd
 subst hc;subst hd
 have hl:=r.length
 refine wpAny_binaryOp_repeat_ref (T := "tuple") (U := "int") (by decide) ⟨_,e,rfl⟩ (fun s'=>typeIs_int s' k t) noFill_tup F.fills_int_mul F.slot_int_rmul rep_tup F.slot_int_index.lookup
  (call_meets F.slot_int_rmul (typeIs_int s k t) F.entry_int_rmul (F.args_int_rmul_2 _ _) (rmul_tup k t l its.toArray n dc sl)
   ⟨e,rfl,⟨_,e,rfl⟩,call_meets F.slot_tuple_mul ⟨_,e,rfl⟩ F.entry_tuple_mul (F.args_tuple_mul_2 _ _) (mul_tup k t l its n dc sl h2 h63 (fun z=>hne (r.nil_iff.mp z)) (by rw [<- hl];exact hz)) ⟨e,?_⟩⟩)
 exact ⟨.ref s.heap.objs.size,_,I.laid (t':=s.toks) (o:=.tup (List.replicate k.toNat xs).flatten) (fun b ob q=>Heap.get?_push_of_some _ q) (Nat.le_refl _) ⟨⟨by rw [len_rep,Nat.mul_comm];exact hz,_,Heap.get?_push_size _ rfl,rfl⟩,_,r.rep k.toNat,IsTup.new _ _⟩,rfl,q _ (I.hok.fresh (Nat.le_refl _))⟩
theorem isl_flat {H:Hp} {ds:List D} {vs:List V} (h:IsL H ds vs):∀ k:Nat,IsL H (List.replicate k ds).flatten (List.replicate k vs).flatten
 | 0=>isl_nil.mpr rfl
 | k+1=>by
  rw [List.replicate_succ,List.replicate_succ,List.flatten_cons,List.flatten_cons]
  exact h.app (isl_flat h k)
end
section
variable {X:Cx} {G:Ga} {M:MH} {a b e:Expr} {pos:Pos} {Q:DK} {Qb:Bool->MH->Prop} {pins:List (Addr × Obj)} {σ:St} {H:Hp} {s:Shared}
end
end D3
namespace X1
open PySem
section
variable {M:Model} {A:Around} {E:Value->Shared->Prop} {s:Shared}
def ExcAt (h:Heap) (e:Addr) (C:Value) (dd:Option Addr):Prop :=
 ∃ oe vs,h.get? e=some oe/\oe.cls=C/\oe.dict=dd/\oe.data=.fields vs/\1 < vs.size /\
  (vs[1]?=some .none\/∃ T oT ts,vs[1]?=some (.ref T)/\T≠e/\h.get? T=some oT/\oT.data=.fields ts/\ts[3]?=some .none)
def Passed (S:List Addr) (e:Addr) (h h':Heap):Prop :=
 (∀ b o,h.get? b=some o->b≠e->b∉S->h'.get? b=some o)/\∀ b o,h.get? b=some o->b≠e->∃ sl,h'.get? b=some { o with slots:=sl }
theorem entry {base:Heap} {env:Env} {outer:List Env} {L e:Addr} {oe:Obj} {vs:Array Value} {head:Value} {hadNext:Bool} {Q:Unit->Shared->Prop}
  (hfr:A.frames=some (env :: outer)) (hl:s.heap.FunFrames base (env :: outer)) (hf:env.frame=some L)
  (he:s.heap.get? e=some oe) (hd:oe.data=.fields vs) (hsz:1 < vs.size)
  (h:∀ h',Passed ((env :: outer).filterMap (·.frame)) e s.heap h'->ExcAt h' e oe.cls oe.dict->Q () { s with heap:=h' }) :
  wpAny M A (do let a <- frameOf env;let pl <- entryPlaceOf L hadNext;let b <- EntryCells.newEntry head a .none (rawInt L) .none pl;setField (.ref e) 1 b) (fun _ s'=>wpAny M A (setFlight (.ref e) none) Q E s') E s:=by
 have hene:e∉(env :: outer).filterMap (·.frame):=fun hm=>by
  obtain ⟨_,o,ho,hnf⟩:=hl.mem hm
  rw [he] at ho;cases ho;exact hnf vs hd
 refine wpAny_bind (wpAny_frameOf_fun hfr hl hf fun h₁ hs₁=>wpAny_bind (wpAny_entryPlaceOf fun pl hpl=>?_))
 unfold EntryCells.newEntry newFields
 refine wpAny_bind (wpAny_newObj_type ?_ (hpl.sizeOk5 _ _ _ _ _))
 have he₁:h₁.get? e=some oe:=(hs₁.2.1 e hene).trans he
 generalize htb:({ cls:=.type "traceback",dict:=none,data:=.fields ([head,.ref L,.none,rawInt L,.none]++(if pl.isEmpty then List.replicate 6 Value.none else pl)).toArray }:Obj)=tb
 have htd:tb.data=.fields ([head,.ref L,.none,rawInt L,.none]++(if pl.isEmpty then List.replicate 6 Value.none else pl)).toArray:=by rw [<- htb]
 have he₂:=Heap.get?_push_of_some tb he₁
 refine wpAny_setField he₂ hd hsz ?_
 have hTe:h₁.objs.size≠e:=Nat.ne_of_gt (Heap.lt_size he₁)
 have hd₃:=Obj.data_mapFields hd (·.setIfInBounds 1 (Value.ref h₁.objs.size))
 have he₃:=Heap.get?_update_self (Obj.mapFields (·.setIfInBounds 1 (Value.ref h₁.objs.size))) he₂ (Obj.isFreed_of_fields hd₃)
 have hfr':tb.isFreed=false:=Obj.isFreed_of_fields htd
 have hT₃:=(Heap.get?_update_other (h₁.push tb) (Obj.mapFields (·.setIfInBounds 1 (Value.ref h₁.objs.size))) (Ne.symm hTe)).trans (Heap.get?_push_size h₁ hfr')
 unfold setFlight
 refine wpAny_bind (wpAny_field he₃ hd₃ (x:=.ref h₁.objs.size) (by simp [hsz]) ?_)
 rw [if_pos (show (Value.ref h₁.objs.size != Value.none)=true from by simp)]
 refine wpAny_setField hT₃ htd (by simp only [List.size_toArray,List.length_append,List.length_cons,List.length_nil]<;>omega) (h _ ?_ ?_)
 ·have keep:∀ b o,b≠e->h₁.get? b=some o->(((h₁.push tb).update e (Obj.mapFields (·.setIfInBounds 1 (Value.ref h₁.objs.size)))).update h₁.objs.size
    (Obj.mapFields (·.setIfInBounds 3 ((none:Option Addr).elim Value.none fun f=>rawInt f)))).get? b=some o:=fun b o hbe hb=>by
   rw [Heap.get?_update_other _ _ (Nat.ne_of_gt (Heap.lt_size hb)),Heap.get?_update_other _ _ (Ne.symm hbe)]
   exact Heap.get?_push_of_some _ hb
  refine ⟨fun b o hb hbe hbS=>keep b o hbe ((hs₁.2.1 b hbS).trans hb),fun b o hb hbe=>?_⟩
  obtain ⟨sl,hs⟩:=hs₁.2.2 b o hb
  exact ⟨sl,keep b _ hbe hs⟩
 ·refine ⟨_,_,?_,Obj.cls_mapFields _ _,?_,hd₃,by simp [hsz],.inr ⟨h₁.objs.size,_,_,by simp [hsz],hTe,Heap.get?_update_self _ hT₃ (Obj.isFreed_of_fields (Obj.data_mapFields htd _)),Obj.data_mapFields htd _,?_⟩⟩
  ·rw [Heap.get?_update_other _ _ hTe];exact he₃
  ·obtain ⟨c,d,dt,sl⟩:=oe
   simp only at hd
   subst hd
   rfl
  ·first | (simp;done) | (rcases hpl with rfl | ⟨_,_,_,_,_,_,_,rfl⟩<;>simp)
theorem note {base:Heap} {env:Env} {outer:List Env} {L e:Addr} {C:Value} {dd:Option Addr} {Q:Unit->Shared->Prop}
  (hfr:A.frames=some (env :: outer)) (hl:s.heap.FunFrames base (env :: outer)) (hf:env.frame=some L) (hx:ExcAt s.heap e C dd)
  (h:∀ h',Passed ((env :: outer).filterMap (·.frame)) e s.heap h'->ExcAt h' e C dd->Q () { s with heap:=h' }):wpAny M A (noteFrame (.ref e) env) (fun _ s₂=>wpAny M A (setFlight (.ref e) none) Q E s₂) E s:=by
 obtain ⟨oe,vs,he,rfl,rfl,hd,hsz,hv⟩:=hx
 unfold noteFrame
 simp only [hf]
 rcases hv with h1 | ⟨T,oT,ts,h1,hTe,hT,hdT,h3⟩
 ·refine wpAny_bind (wpAny_field he hd h1 ?_)
  rw [if_neg (by decide)]
  exact entry hfr hl hf he hd hsz h
 ·refine wpAny_bind (wpAny_field he hd h1 ?_)
  rw [if_pos (show (Value.ref T != Value.none)=true from by simp)]
  refine wpAny_bind (wpAny_field hT hdT h3 ?_)
  rw [if_neg (show ¬ ((Value.none == rawInt L)=true) from by simp [rawInt])]
  refine wpAny_bind (wpAny_setField hT hdT (Array.getElem?_eq_some_iff.mp h3).1 ?_)
  have same:=Heap.update_setField_same s.heap T oT ts 3 .none hT hdT h3
  rw [same]
  exact entry hfr hl hf he hd hsz h
theorem leave {base:Heap} {env:Env} {outer:List Env} {L e:Addr} {C:Value} {dd:Option Addr} {Q:Unit->Shared->Prop}
  (hfr:A.frames=some (env :: outer)) (hl:s.heap.FunFrames base (env :: outer)) (hf:env.frame=some L) (hx:ExcAt s.heap e C dd)
  (h:∀ h',Passed ((env :: outer).filterMap (·.frame)) e s.heap h'->ExcAt h' e C dd->Q () { s with heap:=h' }):wpAny M A (leaving env (.ref e)) Q E s:=by
 unfold leaving
 exact wpAny_bind (note hfr hl hf hx h)
theorem rest {e:Addr} {C:Value} {dd:Option Addr} {Q:Unit->Shared->Prop} (hx:ExcAt s.heap e C dd) (h:Q () s):wpAny M A (setFlight (.ref e) none) Q E s:=by
 obtain ⟨oe,vs,he,rfl,rfl,hd,hsz,hv⟩:=hx
 unfold setFlight
 rcases hv with h1 | ⟨T,oT,ts,h1,hTe,hT,hdT,h3⟩
 ·refine wpAny_bind (wpAny_field he hd h1 ?_)
  rw [if_neg (by decide)]
  exact wpAny_pure h
 ·refine wpAny_bind (wpAny_field he hd h1 ?_)
  rw [if_pos (show (Value.ref T != Value.none)=true from by simp)]
  refine wpAny_setField hT hdT (Array.getElem?_eq_some_iff.mp h3).1 ?_
  have same:=Heap.update_setField_same s.heap T oT ts 3 .none hT hdT h3
  show Q () { s with heap:=s.heap.update T (Obj.mapFields (·.setIfInBounds 3 Value.none)) }
  rw [same]
  exact h
end
open PySem.W Builtin Builtin.ObjectAttr
abbrev VE:List Value:=[.type "ValueError",.type "Exception",.type "BaseException",.type "object"]
structure Err (K:Frag) (C P:Addr):Prop where
 ex:∃ nm q N bs sn sub ab col dd k0 k1 k2 k3 k5,K.lookup C=some (excClassObj nm q C N bs (.ref P :: VE) true sn sub ab col dd k0 k1 k2 k3 k5 "ValueError.__new__")
section
variable {K:Frag} {M:Model} {A:Around} {E:Value->Shared->Prop} {h:Heap} {g:Array GenState} {d:Drawn} {t:Nat} {os:OsState} {C P:Addr}
theorem look (X:K.In h) {name:Str} {y:Option Value} {Q:Option Value->Shared->Prop} (hf:findIn K (.ref C) name=some y) (hq:Q y ⟨h,g,d,t,os⟩):wpAny M A (typeLookup (.ref C) name) Q E ⟨h,g,d,t,os⟩:=(looks_findIn X hf).here hq
end
section
variable {K:Frag} {prog:Program} {w:World} {A:Around} {E:Value->Shared->Prop} {h:Heap} {g:Array GenState} {d:Drawn} {t:Nat} {os:OsState} {C P x:Addr} {mA:Str->Option Value} {name:Str} {v:Value}
theorem new_check {M:Model} {rest:List Value} {Q:Unit->Shared->Prop} (X:K.In h) (e:Err K C P) (hq:Q () ⟨h,g,d,t,os⟩):wpAny M A (checkBuiltinCall "ValueError.__new__" ⟨.ref C :: rest,[]⟩) Q E ⟨h,g,d,t,os⟩:=by
 obtain ⟨nm,q,N,bs,sn,sub,ab,col,dd,k0,k1,k2,k3,k5,hC⟩:=e.ex
 have hC:=X _ _ hC
 have FF:=F.excBase_ValueError
 have hcont:(Value.ref C :: .ref P :: VE).contains (.type "ValueError")=true:=by simp [VE]
 have hstar:=FF.noStar
 simp only [checkBuiltinCall,FF.newKind,FF.newSplit,FF.newRow]
 repeat (first | (refine wpAny_isSubtype_exc hC ?_;rw [hcont]) | refine wpAny_loadPart_at hC ?_ | refine wpAny_madeBy_exc hC ?_ | refine wpAny_staticBase_exc hC ?_ | simp only [bne_self_eq_false,Bool.false_eq_true,if_false] | wp_step)
 exact hq
theorem new_code {R:Result->Shared->Prop} {rest:List Value} (X:K.In h) (e:Err K C P)
  (hq:R (.ok (.ret (.ref (h.objs.size+1)))) ⟨(h.push { cls:=.type "tuple",data:=.seq rest.toArray }).push { cls:=.ref C,data:=.fields #[.ref h.objs.size,.none,.none,.none,.bool false,.none] },g,d,t,os⟩) (hrest:rest.length<=sizeLine) :
  codeAny (model prog w) A (.builtin "ValueError.__new__" ⟨.ref C :: rest,[]⟩) R ⟨h,g,d,t,os⟩:=by
 obtain ⟨nm,q,N,bs,sn,sub,ab,col,dd,k0,k1,k2,k3,k5,hC⟩:=e.ex
 have hC:=X _ _ hC
 have FF:=F.excBase_ValueError
 have hends:=FF.ends
 have hcB:(Value.ref C :: .ref P :: VE).contains (.type "ValueError")=true:=by simp [VE]
 have hcA:(Value.ref C :: .ref P :: VE).contains (.type "AttributeError")=false:=by simp [VE]
 have hcN:(Value.ref C :: .ref P :: VE).contains (.type "NameError")=false:=by simp [VE]
 refine codeAny_builtinAt FF.entry ?_
 unfold Builtin.«BaseException.__new__»
 refine wpAt_bind ?_
 show wpAt _ _ _ (stack >>= _) _ _ _
 refine wpAt_bind (wpAt_stack fun p below=>wpAt_of_wpAny ?_)
 wp_walk
 refine wpAt_of_wpAny ?_
 rw [FF.owner]
 repeat (first | (with_reducible refine wpAny_isSubtype_exc hC ?_;first | rw [hcB] | rw [hcA] | rw [hcN]) | with_reducible refine wpAny_madeHere_exc FF.canon hC ?_ | with_reducible refine wpAny_loadPart_at hC ?_ | wp_step)
 show R _ _
 rw [Heap.size_push]
 exact hq
theorem type_call {rest:List Value} {fI:Addr} {oI:Obj} {Q:Fin->Shared->Prop} (X:K.In h) (e:Err K C P) (hi:findIn K (.ref C) "__init__" = some (some (.ref fI))) (hfI:K.lookup fI=some oI) (hfc:oI.cls=.type "function")
  (hq:∀ h',Heap.MadeExcOf h h' (h.objs.size+1) (.ref C) rest->wpAny (model prog w) A (call (.ref fI) (.ref (h.objs.size+1) :: rest)) (fun r s'=>r=.none/\Q (.done (.ret (.ref (h.objs.size+1)))) s') E ⟨h',g,d,t,os⟩) (hrest:rest.length<=sizeLine) :
  wpAny (model prog w) A (Builtin.«type.__call__» ⟨.ref C :: rest,[]⟩) Q E ⟨h,g,d,t,os⟩:=by
 obtain ⟨nm,q,N,bs,sn,sub,ab,col,dd,k0,k1,k2,k3,k5,hC0⟩:=e.ex
 have hC:=X _ _ hC0
 have FF:=F.excBase_ValueError
 repeat (first | with_reducible refine wpAny_madeBy_exc hC ?_ | with_reducible refine wpAny_loadPart_at hC ?_ | wp_step)
 refine codeAny_call_builtin_code (Code.quiet_builtin _ FF.quiet) (new_check X e (new_code X e ?_ hrest))
 show wpAny _ _ _ _ _ _
 generalize htp:({ cls:=.type "tuple",data:=.seq rest.toArray }:Obj)=tp
 generalize hex:({ cls:=.ref C,data:=.fields #[.ref h.objs.size,.none,.none,.none,.bool false,.none] }:Obj)=ex
 have keep:∀ b o,h.get? b=some o->((h.push tp).push ex).get? b=some o:=fun b o hb=>Heap.get?_push_of_some _ (Heap.get?_push_of_some _ hb)
 have X₁:K.In ((h.push tp).push ex):=X.keeps keep
 have hC₁:=keep _ _ hC
 have hfI₁:=X₁ _ _ hfI
 have hget:((h.push tp).push ex).get? (h.objs.size+1)=some ex:=by
  rw [<- Heap.size_push h tp]
  exact Heap.get?_push_size _ (by rw [<- hex];rfl)
 have hcC:(Value.ref C :: .ref P :: VE).contains (.ref C)=true:=by simp
 have hec:ex.cls=.ref C:=by rw [<- hex]
 unfold isInstance
 repeat (first | (with_reducible refine wpAny_isSubtype_exc hC₁ ?_;rw [hcC]) | (with_reducible refine wpAny_loadPart_at hget ?_;rw [hec]) | wp_step)
 show wpAny _ _ (typeLookup (.ref C) _) _ _ _
 refine look X₁ hi (wpAny_holding (wpAny_bind ?_))
 unfold bindSpecial
 refine wpAny_bind (wpAny_typeOf (T := "function") ⟨_,hfI₁,hfc⟩ ?_)
 rw [if_pos (by decide)]
 refine wpAny_pure (wpAny_bind (wpAny_mono (hq _ ⟨keep,Heap.get?_none_of_le (Nat.le_succ _),h.objs.size,by rw [hget,<- hex],Heap.get?_none_of_le (Nat.le_refl _),?_⟩) (fun r s' hr=>?_) fun _ _ x=>x))
 ·refine Heap.get?_push_of_some _ ?_
  rw [<- htp]
  exact Heap.get?_push_size _ rfl
 ·obtain ⟨rfl,hQ⟩:=hr
  wp_walk
  exact hQ
theorem make_exc {rest:List Value} {fI:Addr} {oI:Obj} {Q:Value->Shared->Prop} (X:K.In h) (e:Err K C P) (hi:findIn K (.ref C) "__init__" = some (some (.ref fI))) (hfI:K.lookup fI=some oI) (hfc:oI.cls=.type "function")
  (hq:∀ h',Heap.MadeExcOf h h' (h.objs.size+1) (.ref C) rest ->
   wpAny (model prog w) (A.under (.builtin "type.__call__" ⟨.ref C :: rest,[]⟩)) (call (.ref fI) (.ref (h.objs.size+1) :: rest)) (fun r s'=>r=.none/\Q (.ref (h.objs.size+1)) s') E ⟨h',g,d,t,os⟩) (hrest:rest.length<=sizeLine) :
  wpAny (model prog w) A (call (.ref C) rest) Q E ⟨h,g,d,t,os⟩:=by
 obtain ⟨nm,q,N,bs,sn,sub,ab,col,dd,k0,k1,k2,k3,k5,hC⟩:=e.ex
 have hC:=X _ _ hC
 have f1:=tc_lookup
 have f2:=tc_bind (.ref C)
 have hT:(⟨h,g,d,t,os⟩:Shared).TypeIs (.ref C) "type" := ⟨_,hC,rfl⟩
 refine wpAny_call (codeAny_of_tree ?_)
 show wpAny _ _ (callAny (.ref C) _) _ _ _
 repeat (any_goals (first | assumption | with_reducible refine wpAny_loadPart_at hC ?_ | wp_step))
 refine ⟨rfl,codeAny_call_builtin_at (Code.quiet_builtin _ (by decide +kernel)) entry_typeCall (wpAny_check_type_call_sub hC (type_call X e hi hfI hfc (fun h' hm=>hq h' hm) hrest))⟩
end
section
variable {M:Model} {A:Around} {E:Value->Shared->Prop} {env:Env}
variable {nm q:Str} {C N:Addr} {bs bm:List Value} {hdct:Bool} {sn:List Str} {sub:List Value} {ab:Bool} {col:Option Bool} {dd:Option Addr} {k0 k1 k2 k3 k5:Option Value} {newId:String}
theorem raise_made {s:Shared} {x:Sem Value} {Q:Flow->Shared->Prop} (hbase:bm.contains (.type "BaseException")=true) (hh:A.handled=none)
  (h:wpAny M A x (fun v s₁=>∃ e t de,v=.ref e/\s₁.heap.get? C=some (excClassObj nm q C N bs bm hdct sn sub ab col dd k0 k1 k2 k3 k5 newId) /\
   s₁.heap.get? e=some { cls:=.ref C,dict:=de,data:=.fields #[.ref t,.none,.none,.none,.bool false,.none] }/\E (.ref e) s₁) E s) :
  wpAny M A (raiseStmt env (some x) none) Q E s:=by
 have hcB:(Value.ref C :: bm).contains (.type "BaseException")=true:=by rw [List.contains_cons,hbase,Bool.or_true]
 unfold raiseStmt
 refine wpAny_bind (wpAny_mono h (fun v s₁ h₁=>?_) fun _ _ x=>x)
 obtain ⟨e,t,de,rfl,hC,he,hE⟩:=h₁
 obtain ⟨hp,g,d,tk,os⟩:=s₁
 repeat (first | with_reducible refine wpAny_loadPart_at he ?_ | with_reducible refine wpAny_loadPart_at hC ?_ | (with_reducible refine wpAny_isSubtype_exc hC ?_;rw [hcB]) | wp_step)
 exact wpAny_raiseNew_none hh hE
end
section
variable {K:Frag} {prog:Program} {w:World} {A:Around} {E:Value->Shared->Prop} {h:Heap} {g:Array GenState} {d:Drawn} {t:Nat} {os:OsState} {C P x:Addr} {mA:Str->Option Value} {name:Str} {v:Value}
theorem passes_own (self:Value):refuseLoop self "__setattr__" (.ref C :: .ref P :: VE)=pure ():=by
 rw [refuseLoop_ref,refuseLoop_ref]
 exact F.store_ValueError.passes self
theorem sa_check {M:Model} {o:Obj} {nameV:Value} {Q:Unit->Shared->Prop} (X:K.In h) (e:Err K C P) (hx:h.get? x=some o) (hc:o.cls=.ref C) (hq:Q () ⟨h,g,d,t,os⟩) :
  wpAny M A (checkBuiltinCall "object.__setattr__" ⟨[.ref x,nameV,v],[]⟩) Q E ⟨h,g,d,t,os⟩:=by
 obtain ⟨nm,q,N,bs,sn,sub,ab,col,dd,k0,k1,k2,k3,k5,hC⟩:=e.ex
 have hC:=X _ _ hC
 have SF:=F.store_ValueError
 have hcB:(Value.ref C :: .ref P :: VE).contains (.type "object")=true:=by simp [VE]
 have ha:=SF.args (.ref x) nameV v
 simp only [checkBuiltinCall,SF.kind,SF.split]
 refine wpAny_bind ?_
 unfold isInstance
 repeat (first | (with_reducible refine wpAny_loadPart_at hx ?_;rw [hc]) | (with_reducible refine wpAny_isSubtype_exc hC ?_;rw [hcB]) | wp_step)
 exact hq
theorem sa_entry {tk:Tok} {Q:Fin->Shared->Prop} {ns:List Str} (X:K.In h) (e:Err K C P) (hna:findIn K (.ref C) name=some none) (I:h.Inst x C mA)
  (hq:∀ h' tk',h'.Inst x C (fun y=>if y=name then some v else mA y) ->
   (∀ b o,b≠x->(∀ o₀ dx,h.get? x=some o₀->o₀.dict=some dx->b≠dx)->h.get? b=some o->h'.get? b=some o) ->
   (∀ o₀,h.get? x=some o₀->∃ o₁,h'.get? x=some o₁/\o₁.cls=o₀.cls/\o₁.data=o₀.data/\o₁.slots=o₀.slots/\(∀ dx,o₀.dict=some dx->o₁.dict=some dx)/\(o₀.dict=none->o₁.dict=some h.objs.size))->Q (.done (.ret .none)) ⟨h',g,d,tk',os⟩) (hw:Within mA ns) (hsz:ns.length<=sizeLine) :
  wpAny (model prog w) A (Builtin.«object.__setattr__» ⟨[.ref x,.str name tk,v],[]⟩) Q E ⟨h,g,d,t,os⟩:=by
 obtain ⟨nm,q,N,bs,sn,sub,ab,col,dd,k0,k1,k2,k3,k5,hC⟩:=e.ex
 have hC:=X _ _ hC
 obtain ⟨o,hx,hc,hnc,hd⟩:=I
 have hpass:=passes_own (C:=C) (P:=P) (.ref x)
 unfold Builtin.«object.__setattr__»
 repeat (first | rw [refuse_eq] | rw [hpass] | (with_reducible refine wpAny_loadPart_at hx ?_;rw [hc]) | with_reducible refine wpAny_mroOf_exc hC ?_ | with_reducible refine look X hna ?_ | wp_step)
 rcases hd with ⟨hdn,hmA⟩ | ⟨dx,hdx,hne,hns⟩
 ·rw [hdn,if_neg (by simp [typeHasDict])]
  split
  ·rename_i hcd
   cases hcd
  split
  ·rename_i c hcd
   exact absurd hcd (hnc c)
  ·generalize hob:({ cls:=.type "dict",data:=.dict #[] }:Obj)=ob
   have hx₁:(h.push ob).get? x=some o:=Heap.get?_push_of_some _ hx
   have hxs:x≠h.objs.size:=Nat.ne_of_lt (Heap.lt_size hx)
   refine wpAny_bind (wpAny_alloc' (wpAny_bind (wpAny_update' hx₁ (wpAny_pure ?_))))
   have hgd:((h.push ob).update x fun o=>{ cls:=o.cls,dict:=some h.objs.size,data:=o.data,slots:=o.slots }).get? h.objs.size=some ob :=
    (Heap.get?_update_ne _ _ _ _ hxs.symm).trans (Heap.get?_push_at rfl (by rw [<- hob];rfl))
   have hnd:((h.push ob).update x fun o=>{ cls:=o.cls,dict:=some h.objs.size,data:=o.data,slots:=o.slots }).Ns h.objs.size (fun _=>none) :=
    ⟨_,#[],_,hgd,by rw [<- hob],fun e he=>absurd he (by simp),fun _=>rfl⟩
   show wpAny _ _ (storeInDict h.objs.size (.str name tk) name v) _ _ _
   unfold storeInDict newKeyGuard
   refine wpAny_bind (wpAny_pure (wpAny_bind (wpAny_nsSet1 (Heap.Ns1.of_empty hnd) fun h' hn' hs=>?_)))
   obtain ⟨oD,esD,epD,hoD,hdD,hcD⟩:=hn'.count (Within.cons name v Within.nil)
   refine wpAny_bind (wpAny_lookBehind hoD (by rw [hdD];exact pastItsLine_dict (Nat.le_trans hcD (by rw [List.length_cons,List.length_nil,sizeLine_eq];omega))) ?_)
   wp_walk
   have hx':h'.get? x=some { cls:=o.cls,dict:=some h.objs.size,data:=o.data,slots:=o.slots }:=by
    refine (hs.2 x hxs).trans (Heap.get?_update_self _ hx₁ ?_)
    have hfr:=(Heap.get?_some_iff.mp hx).2
    obtain ⟨oc,od,odt,osl⟩:=o
    cases odt<;>first | rfl | exact hfr
   refine hq h' _ ⟨_,hx',hc,hnc,.inr ⟨h.objs.size,rfl,hxs.symm,?_⟩⟩ (fun b ob hbx _ hb=>?_) (fun o₀ h₀=>?_)
   ·obtain ⟨o',es,ep,e1,e2,e3,eu,e4⟩:=hn'
    exact ⟨o',es,ep,e1,e2,e3,eu,fun y=>by rw [e4 y];by_cases hy:y=name<;>simp [hy,hmA]⟩
   ·exact (hs.2 b (Nat.ne_of_lt (Heap.lt_size hb))).trans ((Heap.get?_update_ne _ _ _ _ hbx).trans (Heap.get?_push_of_some _ hb))
   ·obtain rfl:o=o₀:=Option.some.inj (hx.symm.trans h₀)
    exact ⟨_,hx',rfl,rfl,rfl,fun dx e=>(by rw [hdn] at e;cases e),fun _=>rfl⟩
 ·rw [hdx]
  refine wpAny_pure ?_
  show wpAny _ _ (storeInDict dx (.str name tk) name v) _ _ _
  unfold storeInDict newKeyGuard
  refine wpAny_bind (wpAny_pure (wpAny_bind (wpAny_nsSet1 hns fun h' hn' hs=>?_)))
  obtain ⟨oD,esD,epD,hoD,hdD,hcD⟩:=hn'.count (Within.cons name v hw)
  refine wpAny_bind (wpAny_lookBehind hoD (by rw [hdD];exact pastItsLine_dict (Nat.le_trans hcD (by rw [List.length_cons];omega))) ?_)
  wp_walk
  refine hq h' _ ⟨o,(hs.2 x hne.symm).trans hx,hc,hnc,.inr ⟨dx,hdx,hne,hn'⟩⟩ (fun b ob _ hbd hb=>?_) (fun o₀ h₀=>?_)
  ·exact (hs.2 b (hbd o dx hx hdx)).trans hb
  ·obtain rfl:o=o₀:=Option.some.inj (hx.symm.trans h₀)
   exact ⟨o,(hs.2 x hne.symm).trans h₀,rfl,rfl,rfl,fun _ e=>e,fun e=>(by rw [hdx] at e;cases e)⟩
theorem store_x {Q:Unit->Shared->Prop} {ns:List Str} (X:K.In h) (e:Err K C P) (hns:findIn K (.ref C) "__setattr__" = some (some (.builtin "object.__setattr__"))) (hna:findIn K (.ref C) name=some none) (I:h.Inst x C mA)
  (hq:∀ h' tk',h'.Inst x C (fun y=>if y=name then some v else mA y) ->
   (∀ b o,b≠x->(∀ o₀ dx,h.get? x=some o₀->o₀.dict=some dx->b≠dx)->h.get? b=some o->h'.get? b=some o) ->
   (∀ o₀,h.get? x=some o₀->∃ o₁,h'.get? x=some o₁/\o₁.cls=o₀.cls/\o₁.data=o₀.data/\o₁.slots=o₀.slots/\(∀ dx,o₀.dict=some dx->o₁.dict=some dx)/\(o₀.dict=none->o₁.dict=some h.objs.size))->Q () ⟨h',g,d,tk',os⟩) (hw:Within mA ns) (hsz:ns.length<=sizeLine) :
  wpAny (model prog w) A (setAttr (.ref x) name v) Q E ⟨h,g,d,t,os⟩:=by
 obtain ⟨o,hx,hc,_⟩:=id I
 have SF:=F.store_ValueError
 have f3:=SF.slot.bind (.ref x)
 unfold setAttr callSpecial? specialOf
 repeat (any_goals (first | assumption | (with_reducible refine wpAny_loadPart_at hx ?_;rw [hc]) | with_reducible refine look X hns ?_ | wp_step))
 refine codeAny_call_builtin SF.slot.plain SF.entry (sa_check X e hx hc (sa_entry X e hna I (fun h' tk' I' hk hsame=>?_) hw hsz))
 repeat (any_goals (first | assumption | wp_step))
 exact hq h' tk' I' hk hsame
end
section
variable {K:Frag} {prog:Program} {w:World} {A:Around} {E:Value->Shared->Prop} {h:Heap} {g:Array GenState} {d:Drawn} {t:Nat} {os:OsState} {C P x:Addr} {mA:Str->Option Value} {name:Str} {v:Value}
theorem ga_check {M:Model} {o:Obj} {nameV:Value} {Q:Unit->Shared->Prop} (X:K.In h) (e:Err K C P) (hx:h.get? x=some o) (hc:o.cls=.ref C) (hq:Q () ⟨h,g,d,t,os⟩) :
  wpAny M A (checkBuiltinCall "BaseException.__getattribute__" ⟨[.ref x,nameV],[]⟩) Q E ⟨h,g,d,t,os⟩:=by
 obtain ⟨nm,q,N,bs,sn,sub,ab,col,dd,k0,k1,k2,k3,k5,hC⟩:=e.ex
 have hC:=X _ _ hC
 have hk:builtinKind "BaseException.__getattribute__" = some .slot:=by decide +kernel
 have hsp:splitId "BaseException.__getattribute__" = some ("BaseException", "__getattribute__"):=by decide +kernel
 have hcB:(Value.ref C :: .ref P :: VE).contains (.type "BaseException")=true:=by simp [VE]
 have ha:=F.args_bexc_ga (.ref x) nameV
 simp only [checkBuiltinCall,hk,hsp]
 refine wpAny_bind ?_
 unfold isInstance
 repeat (first | (with_reducible refine wpAny_isSubtype_exc hC ?_;rw [hcB]) | (with_reducible refine wpAny_loadPart_at hx ?_;rw [hc]) | wp_step)
 exact hq
theorem ga_entry {tk:Tok} {Q:Fin->Shared->Prop} (X:K.In h) (e:Err K C P) (hna:findIn K (.ref C) name=some none) (I:h.Inst x C mA) (hv:mA name=some v) (hq:Q (.done (.ret v)) ⟨h,g,d,t,os⟩) :
  wpAny (model prog w) A (Builtin.«object.__getattribute__» ⟨[.ref x,.str name tk],[]⟩) Q E ⟨h,g,d,t,os⟩:=by
 obtain ⟨nm,q,N,bs,sn,sub,ab,col,dd,k0,k1,k2,k3,k5,hC⟩:=e.ex
 have hC:=X _ _ hC
 obtain ⟨o,hx,hc,hnc,hd⟩:=I
 rcases hd with ⟨_,hmA⟩ | ⟨dx,hdx,hne,hns⟩
 ·rw [hmA name] at hv;cases hv
 unfold Builtin.«object.__getattribute__»
 repeat (first | with_reducible refine look X hna ?_ | (with_reducible refine wpAny_loadPart_at hx ?_;rw [hc]) | wp_step)
 split
 ·rename_i c hcd
  exact absurd hcd (hnc c)
 unfold instanceDict
 repeat (first | with_reducible refine wpAny_loadPart_at hC ?_ | (with_reducible refine wpAny_loadPart_at hx ?_;rw [hc]) | wp_step)
 rw [hdx]
 repeat (first | (with_reducible refine wpAny_nsGet hns.ns ?_;rw [hv]) | wp_step)
 exact hq
theorem load_x {expr:Bool} {Q:Value->Shared->Prop} (X:K.In h) (e:Err K C P) (hng:findIn K (.ref C) "__getattribute__" = some (some (.builtin "BaseException.__getattribute__"))) (hgh:findIn K (.ref C) "__getattr__" = some none) (hna:findIn K (.ref C) name=some none) (I:h.Inst x C mA) (hv:mA name=some v) (hh:handedOut v=pure v) (hq:Q v ⟨h,g,d,t+1,os⟩) :
  wpAny (model prog w) A (getAttr (.ref x) name expr) Q E ⟨h,g,d,t,os⟩:=by
 obtain ⟨o,hx,hc,_⟩:=id I
 have FB:=F.attrBase_ValueError
 have f3:=FB.ga.bind (.ref x)
 have hx0:(expr && onTheHeap (Value.builtin "BaseException.__getattribute__"))=false:=by cases expr<;>rfl
 have hx2:(Value.builtin "BaseException.__getattribute__" == Value.builtin "object.__getattribute__")=false:=by decide +kernel
 have hx1:(onTheHeap (Value.ref C) && Value.builtin "BaseException.__getattribute__" == Value.builtin "object.__getattribute__")=false:=by rw [hx2];rfl
 unfold getAttr
 repeat (any_goals (first | assumption | with_reducible refine look X hng ?_ | with_reducible refine look X hgh ?_ | (with_reducible refine wpAny_loadPart_at hx ?_;rw [hc]) | wp_step))
 refine codeAny_call_builtin FB.ga.plain F.entry_bexc_ga (ga_check X e hx hc (ga_entry X e hna I hv ?_))
 repeat (any_goals (first | assumption | wp_step))
end
structure Err0 (K:Frag) (P:Addr):Prop where
 ex:∃ nm q N bs sn sub ab col dd k0 k1 k2 k3 k5 newId,K.lookup P=some (excClassObj nm q P N bs VE true sn sub ab col dd k0 k1 k2 k3 k5 newId)
section
variable {K:Frag} {M:Model} {A:Around} {E:Value->Shared->Prop} {h:Heap} {g:Array GenState} {d:Drawn} {t:Nat} {os:OsState} {C P e:Addr} {oe:Obj} {Q:Bool->Shared->Prop}
theorem caught (X:K.In h) (c:Err K C P) (b:Err0 K P) (he:h.get? e=some oe) (hcls:oe.cls=.ref C) (hq:Q true ⟨h,g,d,t,os⟩):wpAny M A (excMatches (.ref e) (.ref P)) Q E ⟨h,g,d,t,os⟩:=by
 obtain ⟨nm,q,N,bs,sn,sub,ab,col,dd,k0,k1,k2,k3,k5,hC⟩:=c.ex
 obtain ⟨nm',q',N',bs',sn',sub',ab',col',dd',k0',k1',k2',k3',k5',newId',hP⟩:=b.ex
 have hC:=X _ _ hC
 have hP:=X _ _ hP
 have h1:(Value.ref P :: VE).contains (.type "BaseException")=true:=by simp [VE]
 have h2:(Value.ref C :: .ref P :: VE).contains (.ref P)=true:=by simp [VE]
 have f:=tc_notTuple
 unfold excMatches
 repeat (first | (with_reducible refine wpAny_loadPart_at he ?_;rw [hcls]) | with_reducible refine wpAny_loadPart_at hP ?_ | (with_reducible refine wpAny_isSubtype_exc hP ?_;rw [h1]) | (with_reducible refine wpAny_isSubtype_exc hC ?_;rw [h2]) | wp_step)
 exact hq
end
end X1
namespace D3
open PySem PySem.Spec PyProof.Rows L2 X1
abbrev XQ:=Addr->List (Str × D)->MH->Prop
structure Flies (H:Hp) (h:Heap) (a C dx:Addr) (fs:List (Str × V)):Prop where
 at_:ExcAt h a (.ref C) (some dx)
 ne:dx≠a
 own:H dx=some (.xd fs)
 free:H a=none
def XCX (P:Program) (w:World):CXT:=fun outer H s E e s'=>∃ a C dx fs H',e=.ref a/\s'.os=s.os/\AllBare s'.gens/\Un (frs outer) [] H H' s.heap s'.heap/\HOk P w H' s'.heap/\Flies H' s'.heap a C dx fs/\s.heap.objs.size<=a/\E (.ref C) (some dx) H'
def Thr (X:Cx) (R:Ga->XQ):Prop:=∀ (pins:List (Addr × Obj)) (σ:St) (H:Hp) (s:Shared) (a C dx:Addr) (fs:List (Str × V)) (ds:List (Str × D)) (G:Ga) (M:MH),
 L2.Inv X pins σ H s->Flies H s.heap a C dx fs->X.s₀.heap.objs.size<=a->(∀ p∈X.pn++pins,p.1≠a)->Rel X G M σ H->FsIs H ds fs->R G C ds M->X.xe (.ref a) s
theorem un_grow {fs ex:List Addr} {H H':Hp} {h h':Heap} (u:Un fs ex H H' h h'):Grow H H':=fun b xs e=>u.tups b xs e
theorem thr_fn {P:Program} {w:World} {K:PySem.W.Frag} {mg:Str->Option Value} {base:Heap} {N:List Str} {qual:Str} {scope:Scope} {f:Addr} {cdv:Value} {A:Around} {outer:List Env} {s₀:Shared} {H₀:Hp} {E:XK} {R:XQ}
  (hE:∀ C dx fs ds M H',Grow H₀ H'->H' dx=some (.xd fs)->MemOk K M H'->FsIs H' ds fs->R C ds M->E (.ref C) (some dx) H'):Thr (cxOf (XCX P w) P w K mg base N qual scope f cdv A outer s₀ H₀ E) (fun _=>R):=by
 intro pins σ H s a C dx fs ds G M I fl hsz _ Rl hf hr
 have g:Grow H₀ H:=un_grow I.base
 have m:MemOk K M H:=Rl.mem
 have hst:frs (cxOf (XCX P w) P w K mg base N qual scope f cdv A outer s₀ H₀ E).stack=(cxOf (XCX P w) P w K mg base N qual scope f cdv A outer s₀ H₀ E).env.locals :: frs outer:=rfl
 refine leave (base:=base) I.ok.frames I.stack rfl fl.at_ fun h' hp hx=>?_
 have hsf:(List.filterMap (fun x:Env=>x.frame) (cxOf (XCX P w) P w K mg base N qual scope f cdv A outer s₀ H₀ E).stack)=(cxOf (XCX P w) P w K mg base N qual scope f cdv A outer s₀ H₀ E).env.locals :: frs outer:=rfl
 have old:∀ b o,s₀.heap.get? b=some o->b≠a/\b≠(cxOf (XCX P w) P w K mg base N qual scope f cdv A outer s₀ H₀ E).env.locals:=fun b o hb=>by
  have h1:b < s₀.heap.objs.size:=Heap.lt_size hb
  have h2:s₀.heap.objs.size<=(cxOf (XCX P w) P w K mg base N qual scope f cdv A outer s₀ H₀ E).env.locals:=I.ok.above
  have h3:s₀.heap.objs.size<=a:=hsz
  exact ⟨Nat.ne_of_lt (Nat.lt_of_lt_of_le h1 h3),Nat.ne_of_lt (Nat.lt_of_lt_of_le h1 h2)⟩
 refine ⟨a,C,dx,fs,H,rfl,I.os,I.bare,⟨?_,?_,?_,?_,I.base.tups,I.base.frzs,I.base.tbls⟩,fun b o e=>?_,⟨hx,fl.ne,fl.own,fl.free⟩,hsz,hE C dx fs ds M H g fl.own m hf hr⟩
 ·intro b o hb n hbf hbx
  obtain ⟨q1,q2⟩:=old b o hb
  refine hp.1 b o (I.base.keep b o hb n hbf hbx) q1 fun z=>?_
  rcases List.mem_cons.mp (show b∈(cxOf (XCX P w) P w K mg base N qual scope f cdv A outer s₀ H₀ E).env.locals :: frs outer from z) with z | z
  ·exact q2 z
  ·exact hbf z
 ·intro b o hb n hbf hbx
  obtain ⟨sl,e⟩:=I.base.slot b o hb n hbf hbx
  obtain ⟨sl',e'⟩:=hp.2 b _ e (old b o hb).1
  exact ⟨sl',e'⟩
 ·exact fun b o hb n hbx=>I.base.free b o hb n hbx
 ·intro b o hb hbx
  obtain ⟨o',e⟩:=I.base.there b o hb hbx
  obtain ⟨sl',e'⟩:=hp.2 b _ e (old b o hb).1
  exact ⟨_,e'⟩
 ·refine (I.hok b o e).stay (fun c u hc hu=>?_) (fun _ z=>z) (fun _ _ z=>z)
  have htr:H c≠none:=by
   rcases hc with rfl | hc
   ·rw [e];simp
   ·rw [hc];simp
  refine hp.1 c u hu (fun z=>htr (by rw [z];exact fl.free)) fun z=>htr (I.stkFree c z)
abbrev SpX:=List D->MH->DK->XQ->Prop
def liftX (K:PySem.W.Frag) (sp:SpX):Sp:=fun vs H Q E=>∃ ds M Qd R,IsL H ds vs/\MemOk K M H/\sp ds M Qd R/\(∀ v H' d M',Grow H H'->Is H' d v->MemOk K M' H'->Qd d M'->Q v H') /\
 ∀ C dx fs es M' H',Grow H H'->H' dx=some (.xd fs)->MemOk K M' H'->FsIs H' es fs->R C es M'->E (.ref C) (some dx) H'
structure CalX (P:Program) (w:World) (K:PySem.W.Frag) (mg:Str->Option Value) (base:Heap) (k:Nat) (x:Str) (sp:SpX):Prop where
 ex:∃ (f:Addr) (fd:FuncData) (ps:List Str),FnOk P w K mg base (XCX P w) k f fd ps (liftX K sp)/\mg x=some (.ref f)/\PySem.W.keepIn K (.ref f)=true/\Binds K fd ps []
section
variable {X:Cx} {G:Ga} {M:MH} {e:Expr} {es:List Expr} {pos:Pos} {Q:DK} {R:Ga->XQ}
theorem run_fnX {k:Nat} {f:Addr} {fd:FuncData} {ps:List Str} {sp:SpX} {pins:List (Addr × Obj)} {σ:St} {H0 H:Hp} {s:Shared} {us:List Value} {vs:List V} {ds:List D} (F:FnOk X.prog X.w X.K X.mg X.base (XCX X.prog X.w) k f fd ps (liftX X.K sp)) (hr:Room k X.A) (hb:Binds X.K fd ps [])
  (T:Thr X R) (I:L2.Inv X pins σ H s) (Rl:Rel X G M σ H) (g0:Grow H0 H) (r:Vals vs us) (i:IsL H ds vs) (h:sp ds M Q (R G)):wpAny (model X.prog X.w) X.A (call (.ref f) us) (EPD X pins σ G H0 Q) X.xe s:=by
 have h':liftX X.K sp vs H (fun v H'=>∃ d M',Grow H H'/\Is H' d v/\MemOk X.K M' H'/\Q d M') (fun cv dd H'=>∃ C dx fs es M',cv=.ref C/\dd=some dx/\Grow H H'/\H' dx=some (.xd fs)/\MemOk X.K M' H'/\FsIs H' es fs/\R G C es M') :=
  ⟨ds,M,Q,R G,i,Rl.mem,h,fun v H' d M' g i m q=>⟨d,M',g,i,m,q⟩,fun C dx fs es M' H' g h1 m h2 q=>⟨C,dx,fs,es,M',rfl,rfl,g,h1,m,h2,q⟩⟩
 have hl:(us++[]).length=ps.length:=by rw [List.append_nil,<- r.length];exact F.len _ _ _ _ h'
 have hbb:=hb s us I.kIn hl
 rw [List.append_nil] at hbb
 refine wpAny_call (codeAny_mono (F.run X.A X.stack s H ⟨us,[]⟩ us vs _ _ hr I.env0 hbb r h') fun r s' hq=>?_)
 cases r with
 | error e =>
  obtain ⟨a,C,dx,fs,H',rfl,hos,hb',un,hok,fl,hsz,C',dx',fs',es,M',e1,e3,g,h1,m,h2,q⟩:=hq
  cases e1;cases e3
  have I3:=I.call' hos un hok hb' (fun b z=>absurd z (by simp))
  have hfe:fs=fs':=by
   have:=fl.own.symm.trans h1
   simpa using this
  subst hfe
  exact T pins σ H' s' a C dx fs es G M' I3 fl (Nat.le_trans I.sz hsz) (fun p hp=>Nat.ne_of_lt (Nat.lt_of_lt_of_le (Heap.lt_size (I.pin p hp).1) hsz)) (Rl.to g m) h2 q
 | ok fl =>
  cases fl with
  | ret u =>
   obtain ⟨v,H',I',r',d,M',g,i',m,q⟩:=I.after hq
   exact ⟨v,H',d,M',I',r',g0.trans g,i',Rl.to g m,q⟩
  | next=>exact False.elim hq
  | brk=>exact False.elim hq
  | cont=>exact False.elim hq
theorem ev_callX {j k:Nat} {x:Str} {p:Pos} {sp:SpX} (C:CalX X.prog X.w X.K X.mg X.base j x sp) (hr:Room k X.A) (hk:j<=k) (T:Thr X R) (h:AV X G M (e :: es) fun ds M1=>sp ds M1 Q (R G)) (hg:Gl X x:=by rfl) (hdb:(x == ("__debug__" : Str))=false:=by decide)
  (he:starEach (e :: es) X.env=(false,eval e X.env) :: starEach es X.env:=by rfl) (hpl:(backTo pos (starEach es X.env)).any (·.1)=false:=by rfl):EV X G M (.Call (.Name x p) (e :: es) [] pos) Q:=by
 intro pins s σ H I Rl
 obtain ⟨f,fd,ps,F,hm,hkp,hb⟩:=C.ex
 refine wpAny_Call_Name_kw (ld_glob I hg hm ?_ hdb)
 refine PySem.W.callWith_K (h₀:=X.base) I.ok.mod.kin hkp (thn (h pos pins s σ H I Rl) fun us s1 ⟨vs,H1,ds,M1,I1,r1,g1,i1,R1,q1⟩=>⟨I1.kIn,?_⟩) he hpl
 exact run_fnX (F.mono hk) hr hb T I1 R1 g1 r1 i1 q1
end
section
variable {P:Program} {w:World} {K:PySem.W.Frag} {mg:Str->Option Value} {base:Heap}
theorem fn_X {x qual:Str} {st:Stmt} {f:Addr} {fd:FuncData} {N ps:List Str} {k:Nat} {sp:SpX} (F:Fun K x qual st f fd) (S:FnScope N ps (defScope st)) (len:∀ ds M Q R,sp ds M Q R->ds.length=ps.length)
  (hbody:∀ (cdv:Value) (A:Around) (outer:List Env) (s:Shared) (H:Hp) (EE:XK) (ds:List D) (M:MH) (Q:DK) (R:XQ),Room k (A.deeper (envOfC qual (defScope st) s.heap.objs.size f cdv))->sp ds M Q R->Thr (cxOf (XCX P w) P w K mg base N qual (defScope st) f cdv A outer s H EE) (fun _=>R) ->
   EXs (cxOf (XCX P w) P w K mg base N qual (defScope st) f cdv A outer s H EE) (startG N ds) M (defBody st) { nx:=fun _ M'=>Q .non M',rt:=Q }):FnOk P w K mg base (XCX P w) (k+1) f fd ps (liftX K sp):=by
 obtain ⟨oc,od,kV,doc,pm,an,cdv,ct,osl,rfl,lk,hcd⟩:=F.ex
 refine fn_of lk hcd S (fun vs H Q E h=>?_) (fun A outer s H vs Q E hr h=>?_)
 ·obtain ⟨ds,M,Qd,R,i,_,h,_⟩:=h
  rw [<- i.len];exact len _ _ _ _ h
 obtain ⟨ds,M,Qd,R,i,m,h,kq,kx⟩:=h
 have B:=hbody cdv A outer s H E ds M Qd R hr h (thr_fn kx)
 refine ⟨fun D σ' H'=>σ'=L2.start N vs/\H'=H/\D.nx=(fun _ H'=>Q .non H')/\D.rt=Q,?_,rfl,rfl,rfl,rfl⟩
 intro pins s' σ' H' D I ⟨e1,e2,e3,e4⟩
 subst e1;subst e2
 refine thn (B pins s' _ _ I (rel_start i m)) fun fl s'' q=>?_
 cases fl with
 | next =>
  obtain ⟨σ2,H2,G2,M2,I2,g2,R2,q2⟩:=q
  refine ⟨σ2,H2,I2,?_⟩
  rw [e3]
  exact kq .non H2 .non M2 g2 (is_non.mpr rfl) R2.mem q2
 | brk=>obtain ⟨_,_,_,_,_,_,_,z⟩:=q;exact z.elim
 | cont=>obtain ⟨_,_,_,_,_,_,_,z⟩:=q;exact z.elim
 | ret u =>
  obtain ⟨v,σ2,H2,d,M2,I2,r2,g2,i2,m2,q2⟩:=q
  refine ⟨v,σ2,H2,I2,r2,?_⟩
  rw [e4]
  exact kq v H2 d M2 g2 i2 m2 q2
theorem cal_X {x:Str} {st:Stmt} {f:Addr} {fd:FuncData} {ps:List Str} {k:Nat} {sp:SpX} (F:Fun K x x st f fd) (G:FnOk P w K mg base (XCX P w) k f fd ps (liftX K sp)) (b:Binds K fd ps []) (m:mg x=some (.ref f)):CalX P w K mg base k x sp :=
 ⟨f,fd,ps,G,m,F.kp,b⟩
theorem pass_fn {N:List Str} {qual:Str} {scope:Scope} {f:Addr} {cdv:Value} {A:Around} {outer:List Env} {s₀:Shared} {H₀:Hp} {E:XK} :
  PassesOwn (model P w) (cxOf (XCX P w) P w K mg base N qual scope f cdv A outer s₀ H₀ E).A (cxOf (XCX P w) P w K mg base N qual scope f cdv A outer s₀ H₀ E).env (cxOf (XCX P w) P w K mg base N qual scope f cdv A outer s₀ H₀ E).xe:=PassesOwn.leaving
end
def putA (f:Str) (d:D):List (Str × D)->List (Str × D)
 | []=>[(f,d)]
 | (g,x) :: r=>if g=f then (g,d) :: r else (g,x) :: putA f d r
theorem FsIs.put {H:Hp} {f:Str} {d:D} {y:V} (i:Is H d y):∀ {fs:List (Str × D)} {ys:List (Str × V)},FsIs H fs ys->FsIs H (putA f d fs) (putF f y ys)
 | [],ys,h=>by
  have h:ys=[]:=h
  subst h
  exact ⟨y,[],rfl,i,rfl⟩
 | (g,x) :: r,ys,h=>by
  obtain ⟨v,ys',rfl,h1,h2⟩:=h
  unfold putA putF
  by_cases c:g=f
  ·rw [if_pos c,if_pos c];exact ⟨y,ys',rfl,i,h2⟩
  ·rw [if_neg c,if_neg c];exact ⟨v,_,rfl,h1,FsIs.put i h2⟩
theorem FsIs.get {H:Hp} {f:Str} {d:D}:∀ {fs:List (Str × D)} {ys:List (Str × V)},FsIs H fs ys->fs.lookup f=some d->∃ y,ys.lookup f=some y/\Is H d y
 | [],_,_,e=>by cases e
 | (g,x) :: r,ys,h,e=>by
  obtain ⟨v,ys',rfl,h1,h2⟩:=h
  unfold List.lookup at e ⊢
  by_cases c:f=g
  ·have hb:(f == g)=true:=beq_iff_eq.mpr c
   rw [hb] at e ⊢
   cases e
   exact ⟨v,rfl,h1⟩
  ·have hb:(f == g)=false:=by simpa using c
   rw [hb] at e ⊢
   exact FsIs.get h2 e
section
variable {X:Cx} {pins:List (Addr × Obj)} {σ:St} {H:Hp} {s:Shared} {h':Heap}
theorem obj_ext {P:Program} {w:World} {H:Hp} {h:Heap} {a C:Addr} {dd:Option Addr} {fr:Bool} (x:ExcO a C dd fr h):ObjOk P w H h a (.ext (ExcO a C dd fr)):=by
 obtain ⟨o,vs,e,h1,h2,h3,h4⟩:=id x
 exact ⟨x,⟨o,e⟩,fun h1 h2 ⟨o,vs,e,q⟩ k=>⟨o,vs,k o e,q⟩⟩
theorem inv_x {a dx:Addr} {o1 o2:HO} {t':Nat} (I:L2.Inv X pins σ H s) (hA:∃ φ,H a=some (.ext φ)) (hD:(H dx=none/\s.heap.objs.size<=dx)\/∃ fs,H dx=some (.xd fs)) (hne:dx≠a)
  (k:∀ b u,b≠a->b≠dx->s.heap.get? b=some u->h'.get? b=some u) (ta:∃ o,h'.get? a=some o) (td:∃ o,h'.get? dx=some o) (oa:ObjOk X.prog X.w (upd (upd H dx o1) a o2) h' a o2) (od:ObjOk X.prog X.w (upd (upd H dx o1) a o2) h' dx o1) :
  L2.Inv X pins σ (upd (upd H dx o1) a o2) { s with heap:=h',toks:=t' }:=by
 obtain ⟨φ,hA⟩:=hA
 have ne1:∀ b o,s.heap.get? b=some o->H b=none->b≠a/\b≠dx:=fun b o hb n=>by
  refine ⟨fun z=>(by rw [z,hA] at n;cases n),fun z=>?_⟩
  rcases hD with ⟨_,h2⟩ | ⟨fs,h2⟩
  ·rw [z] at hb;exact absurd (Heap.lt_size hb) (Nat.not_lt.mpr h2)
  ·rw [z,h2] at n;cases n
 have ne2:∀ b u,H b=some u->(∀ φ,u≠.ext φ)->(∀ fs,u≠.xd fs)->upd (upd H dx o1) a o2 b=some u:=fun b u hb n1 n2=>by
  have q1:b≠a:=fun z=>by rw [z,hA] at hb;cases hb;exact n1 _ rfl
  have q2:b≠dx:=fun z=>by
   rcases hD with ⟨h2,_⟩ | ⟨fs,h2⟩
   ·rw [z,h2] at hb;cases hb
   ·rw [z,h2] at hb;cases hb;exact n2 _ rfl
  rw [upd_ne q1,upd_ne q2];exact hb
 refine I.un ⟨fun b o hb n _ _=>k b o (ne1 b o hb n).1 (ne1 b o hb n).2 hb,fun b o hb n _ _=>⟨o.slots,k b o (ne1 b o hb n).1 (ne1 b o hb n).2 hb⟩,fun b o hb n _=>?_,fun b o hb _=>?_,
  fun b xs e=>ne2 b _ e (fun _ z=>by cases z) (fun _ z=>by cases z),fun b o u e=>ne2 b _ e (fun _ z=>by cases z) (fun _ z=>by cases z),fun b ps e=>⟨#[],by rw [ne2 b _ e (fun _ z=>by cases z) (fun _ z=>by cases z)];simp⟩⟩ ?_
 ·rw [upd_ne (ne1 b o hb n).1,upd_ne (ne1 b o hb n).2];exact n
 ·by_cases q1:b=a
  ·rw [q1];exact ta
  ·by_cases q2:b=dx
   ·rw [q2];exact td
   ·exact ⟨o,k b o q1 q2 hb⟩
 ·intro b u e
  by_cases q1:b=a
  ·subst q1;rw [upd_same] at e;cases e;exact oa
  ·rw [upd_ne q1] at e
   by_cases q2:b=dx
   ·subst q2;rw [upd_same] at e;cases e;exact od
   ·rw [upd_ne q2] at e
    refine (I.hok b u e).stay (fun c v hc hv=>?_) (fun c hc=>ne2 c _ hc (fun _ z=>by cases z) (fun _ z=>by cases z)) (fun c xs hc=>ne2 c _ hc (fun _ z=>by cases z) (fun _ z=>by cases z))
    rcases hc with rfl | hc
    ·exact k c v q1 q2 hv
    ·refine k c v (fun z=>?_) (fun z=>?_) hv
     ·rw [z,hA] at hc;cases hc
     ·rcases hD with ⟨h2,_⟩ | ⟨fs,h2⟩
      ·rw [z,h2] at hc;cases hc
      ·rw [z,h2] at hc;cases hc
end
structure ErrF (K:PySem.W.Frag) (C P:Addr) (f:Str):Prop where
 cls:Err K C P
 sa:PySem.W.findIn K (.ref C) "__setattr__" = some (some (.builtin "object.__setattr__"))
 ga:PySem.W.findIn K (.ref C) "__getattribute__" = some (some (.builtin "BaseException.__getattribute__"))
 gh:PySem.W.findIn K (.ref C) "__getattr__" = some none
 no:PySem.W.findIn K (.ref C) f=some none
section
variable {X:Cx} {G:Ga} {M:MH} {o value:Expr} {pos pos':Pos} {E:EndsD} {Q:DK}
theorem mem_not {K:PySem.W.Frag} {H:Hp} {h:Heap} {dx:Addr} (m:MemOk K M H) (kin:K.In h) (h1:H dx=none) (h2:h.objs.size<=dx):M dx=none:=by
 cases e:M dx with
 | none=>rfl
 | some u =>
  rcases (m dx u e).there with ⟨v,q⟩ | ⟨v,q⟩
  ·rw [h1] at q;cases q
  ·exact absurd (Heap.lt_size (kin dx v q)) (Nat.not_lt.mpr h2)
theorem ex_fldX {C P:Addr} {f:Str} (F:ErrF X.K C P f) (h:EV X G M value fun dv M1=>EV X G M1 o fun dO M2=>∃ a,dO=.ref a /\
   ((M2 a=some (.exc C none true)/\∀ dx,M2 dx=none->dx≠a->E.nx G (mset (mset M2 dx (.att [(f,dv)])) a (.exc C (some dx) true))) \/
    ∃ dx fs,M2 a=some (.exc C (some dx) true)/\M2 dx=some (.att fs)/\dx≠a/\fs.length < 100/\E.nx G (mset (mset M2 dx (.att (putA f dv fs))) a (.exc C (some dx) true))))
  (hs:swapsWith value (some (.Attribute o f pos')) pos.line X.env=pure false:=by rfl):EX X G M (.Assign [.Attribute o f pos'] value pos) E:=by
 intro pins s σ H I R
 refine plainObj_wpAny_Assign_Attribute (thn (h pins s σ H I R) fun u s1 ⟨y,H1,dv,M1,I1,ry,g1,i1,R1,q1⟩=>thn (q1 pins s1 σ H1 I1 R1) fun ov s2 ⟨x,H2,dO,M2,I2,rx,g2,i2,R2,a,e,q⟩=>?_) hs
 subst e
 rw [is_ref] at i2;subst i2
 obtain rfl:ov=Value.ref a:=rx
 have iv:=Is.grow g2 _ _ i1
 obtain ⟨h2,gg,dd,tt,oo⟩:=s2
 rcases q with ⟨ha,q⟩ | ⟨dx,fs,ha,hdx,hne,hfl,q⟩
 ·have hA:H2 a=some (.ext (ExcO a C none true)):=R2.mem a _ ha
  obtain ⟨⟨ob,vs,ho,hc,hd,hdt,hfr⟩,_,_⟩:=I2.hok a _ hA
  have hlt:a < h2.objs.size:=Heap.lt_size ho
  have Ix:h2.Inst a C (fun _=>none):=⟨ob,ho,hc,fun c z=>(by rw [hdt] at z;cases z),.inl ⟨hd,fun _=>rfl⟩⟩
  refine store_x (ns:=[]) I2.kIn F.cls F.sa F.no Ix (fun h3 tk' I' hk hsame=>?_) Within.nil (by simp)
  obtain ⟨o1,e1,e2,e3,e4,e5,e6⟩:=hsame ob ho
  have e6:=e6 hd
  have hfresh:H2 h2.objs.size=none:=I2.hok.fresh (Nat.le_refl _)
  have hne:h2.objs.size≠a:=(Nat.ne_of_lt hlt).symm
  have hM:=mem_not R2.mem I2.kIn hfresh (Nat.le_refl _)
  obtain ⟨o2,f1,f2,f3,f4⟩:=I'
  have:o2=o1:=Option.some.inj (f1.symm.trans e1)
  subst this
  obtain ⟨d2,f5,f6,f7⟩:∃ d,o2.dict=some d/\d≠a/\h3.Ns1 d (fun y=>if y=f then some u else none):=by
   rcases f4 with ⟨z,_⟩ | z
   ·rw [e6] at z;cases z
   ·exact z
  have:d2=h2.objs.size:=by rw [e6] at f5;exact (Option.some.inj f5).symm
  subst this
  have okA:∀ H3,ObjOk X.prog X.w H3 h3 a (.ext (ExcO a C (some h2.objs.size) true)):=fun H3=>obj_ext ⟨o2,vs,e1,by rw [e2];exact hc,e6,by rw [e3];exact hdt,fun z=>by rw [e4];exact hfr z⟩
  have okD:∀ H3,ObjOk X.prog X.w H3 h3 h2.objs.size (.xd [(f,y)]):=fun H3=>⟨_,f7,fun g=>by
   by_cases c:g=f
   ·subst c
    simp only [List.lookup,beq_self_eq_true,if_true];exact ry
   ·have hb:(g == f)=false:=by simpa using c
    simp only [List.lookup,hb,if_neg c];exact trivial⟩
  have I3:=inv_x (t':=tk') (o1:=.xd [(f,y)]) (o2:=.ext (ExcO a C (some h2.objs.size) true)) I2 ⟨_,hA⟩ (.inl ⟨hfresh,Nat.le_refl _⟩) hne (fun b v q1 q2 hb=>hk b v q1 (fun o₀ dx hz hz2 z=>by
   have:o₀=ob:=Option.some.inj (hz.symm.trans ho)
   subst this
   rw [hd] at hz2;cases hz2) hb) ⟨_,e1⟩ (let ⟨o,_,_,e,_⟩:=f7;⟨o,e⟩) (okA _) (okD _)
  have gr:Grow H2 (upd (upd H2 h2.objs.size (.xd [(f,y)])) a (.ext (ExcO a C (some h2.objs.size) true))):=(grow_new hfresh).trans (grow_upd fun xs z=>by rw [upd_ne hne.symm,hA] at z;cases z)
  refine ⟨σ,_,G,_,I3,g1.trans (g2.trans gr),R2.to gr (fun b v hb=>?_),q _ hM hne⟩
  by_cases c1:b=a
  ·subst c1;rw [mset_same] at hb;cases hb;exact upd_same
  ·rw [mset_ne c1] at hb
   by_cases c2:b=h2.objs.size
   ·subst c2;rw [mset_same] at hb;cases hb
    exact ⟨[(f,y)],by rw [upd_ne c1,upd_same],y,[],rfl,Is.grow gr _ _ iv,rfl⟩
   ·rw [mset_ne c2] at hb
    exact (R2.mem b v hb).stay gr fun w hw=>by rw [upd_ne c1,upd_ne c2];exact hw
 ·have hA:H2 a=some (.ext (ExcO a C (some dx) true)):=R2.mem a _ ha
  obtain ⟨ys,hX,hF⟩:=R2.mem dx _ hdx
  obtain ⟨⟨ob,vs,ho,hc,hd,hdt,hfr⟩,_,_⟩:=I2.hok a _ hA
  obtain ⟨mA,hN,hR⟩:=I2.hok dx _ hX
  have Ix:h2.Inst a C mA:=⟨ob,ho,hc,fun c z=>(by rw [hdt] at z;cases z),.inr ⟨dx,hd,hne,hN⟩⟩
  have hW:PySem.Within mA (ys.map (·.1)):=fun g hg=>by
   have:=hR g
   cases hl:ys.lookup g with
   | none =>
    rw [hl] at this
    cases hm:mA g with
    | none=>exact absurd hm hg
    | some v=>rw [hm] at this;exact this.elim
   | some v=>exact List.mem_map.mpr ⟨(g,v),PySem.mem_of_lookup hl,rfl⟩
  have hyl:ys.length=fs.length:=by
   have:∀ {fs:List (Str × D)} {ys:List (Str × V)},FsIs H2 fs ys->ys.length=fs.length:=by
    intro fs
    induction fs with
    | nil=>intro ys h;have h:ys=[]:=h;rw [h];rfl
    | cons p r ih =>
     intro ys h
     obtain ⟨v,ys',rfl,_,h2⟩:=h
     rw [List.length_cons,List.length_cons,ih h2]
   exact this hF
  refine store_x (ns:=ys.map (·.1)) I2.kIn F.cls F.sa F.no Ix (fun h3 tk' I' hk hsame=>?_) hW (by rw [List.length_map,sizeLine_eq];omega)
  obtain ⟨o1,e1,e2,e3,e4,e5,e6⟩:=hsame ob ho
  have e5:=e5 dx hd
  obtain ⟨o2,f1,f2,f3,f4⟩:=I'
  have:o2=o1:=Option.some.inj (f1.symm.trans e1)
  subst this
  obtain ⟨d2,f5,f6,f7⟩:∃ d,o2.dict=some d/\d≠a/\h3.Ns1 d (fun y=>if y=f then some u else mA y):=by
   rcases f4 with ⟨z,_⟩ | z
   ·rw [e5] at z;cases z
   ·exact z
  have:d2=dx:=by rw [e5] at f5;exact (Option.some.inj f5).symm
  subst this
  have okA:∀ H3,ObjOk X.prog X.w H3 h3 a (.ext (ExcO a C (some d2) true)):=fun H3=>obj_ext ⟨o2,vs,e1,by rw [e2];exact hc,e5,by rw [e3];exact hdt,fun z=>by rw [e4];exact hfr z⟩
  have okD:∀ H3,ObjOk X.prog X.w H3 h3 d2 (.xd (putF f y ys)):=fun H3=>⟨_,f7,fun g=>by
   rw [lookup_putF]
   by_cases c:g=f
   ·rw [if_pos c,if_pos c];exact ry
   ·rw [if_neg c,if_neg c];exact hR g⟩
  have I3:=inv_x (t':=tk') (o1:=.xd (putF f y ys)) (o2:=.ext (ExcO a C (some d2) true)) I2 ⟨_,hA⟩ (.inr ⟨_,hX⟩) hne (fun b v q1 q2 hb=>hk b v q1 (fun o₀ dx hz hz2 z=>by
   have:o₀=ob:=Option.some.inj (hz.symm.trans ho)
   subst this
   rw [hd] at hz2;cases hz2;exact q2 z) hb) ⟨_,e1⟩ (let ⟨o,_,_,e,_⟩:=f7;⟨o,e⟩) (okA _) (okD _)
  have gr:Grow H2 (upd (upd H2 d2 (.xd (putF f y ys))) a (.ext (ExcO a C (some d2) true))):=(grow_upd fun xs z=>by rw [hX] at z;cases z).trans (grow_upd fun xs z=>by rw [upd_ne hne.symm,hA] at z;cases z)
  refine ⟨σ,_,G,_,I3,g1.trans (g2.trans gr),R2.to gr (fun b v hb=>?_),q⟩
  by_cases c1:b=a
  ·subst c1;rw [mset_same] at hb;cases hb;exact upd_same
  ·rw [mset_ne c1] at hb
   by_cases c2:b=d2
   ·subst c2;rw [mset_same] at hb;cases hb
    exact ⟨putF f y ys,by rw [upd_ne c1,upd_same],FsIs.put (Is.grow gr _ _ iv) (FsIs.grow gr hF)⟩
   ·rw [mset_ne c2] at hb
    exact (R2.mem b v hb).stay gr fun w hw=>by rw [upd_ne c1,upd_ne c2];exact hw
end
def spIni (C:Addr) (fs:List Str):SpD:=fun ds M Q=>∃ a vs,ds=.ref a :: vs/\vs.length=fs.length/\M a=some (.exc C none true)/\∀ dx,M dx=none->dx≠a->Q .non (mset (mset M dx (.att (fs.zip vs))) a (.exc C (some dx) true))
structure Mkr (P:Program) (w:World) (K:PySem.W.Frag) (mg:Str->Option Value) (base:Heap) (k:Nat) (x:Str) (C P0:Addr) (fs:List Str):Prop where
 ex:∃ (fI:Addr) (fd:FuncData) (ps:List Str) (oI:Obj),FnOk P w K mg base CX0 k fI fd ps (liftSp K (spIni C fs))/\Binds K fd ps []/\PySem.W.findIn K (.ref C) "__init__" = some (some (.ref fI))/\K.lookup fI=some oI/\oI.cls=.type "function"
 mg:mg x=some (.ref C)
 kp:PySem.W.keepIn K (.ref C)=true
 cls:Err K C P0
theorem mset_again {M:MH} {a dx:Addr} {o1 o2 o3:MO} (h:dx≠a):mset (mset (mset M a o1) dx o2) a o3=mset (mset M dx o2) a o3:=by
 funext b
 by_cases c:b=a
 ·subst c;rw [mset_same,mset_same]
 ·rw [mset_ne c,mset_ne c]
  by_cases c2:b=dx
  ·subst c2;rw [mset_same,mset_same]
  ·rw [mset_ne c2,mset_ne c2,mset_ne c]
section
variable {X:Cx} {G:Ga} {M:MH} {e:Expr} {es:List Expr} {pos cpos:Pos} {E:EndsD} {Q:DK} {R:Ga->XQ}
theorem make_run {k:Nat} {x:Str} {C P0:Addr} {fs:List Str} {pins:List (Addr × Obj)} {σ:St} {H:Hp} {s:Shared} {us:List Value} {vs:List V} {ds:List D} {Qv:Value->Shared->Prop} (m:Mkr X.prog X.w X.K X.mg X.base k x C P0 fs) (hr:Room (k+1) X.A)
  (I:L2.Inv X pins σ H s) (Rl:Rel X G M σ H) (r:Vals vs us) (i:IsL H ds vs) (hl:ds.length=fs.length) (hsz:fs.length<=100)
  (hQ:∀ a dx H' s',L2.Inv X pins σ H' s'->Grow H H'->Rel X G (mset (mset M dx (.att (fs.zip ds))) a (.exc C (some dx) true)) σ H'->s.heap.objs.size<=a->M a=none->M dx=none->dx≠a->Qv (.ref a) s') :
  wpAny (model X.prog X.w) X.A (call (.ref C) us) Qv X.xe s:=by
 obtain ⟨fI,fd,ps,oI,F,hb,hi,hfI,hfc⟩:=m.ex
 obtain ⟨h,g,d,t,os⟩:=s
 have hul:us.length=fs.length:=by rw [<- hl,i.len,r.length]
 refine make_exc I.kIn m.cls hi hfI hfc (fun h' hm=>?_) (by rw [hul,sizeLine_eq];omega)
 obtain ⟨tt,he,_,_⟩:=hm.there
 have fresh:H (h.objs.size+1)=none:=I.hok.fresh (Nat.le_succ _)
 have I2:L2.Inv X pins σ (upd H (h.objs.size+1) (.ext (ExcO (h.objs.size+1) C none true))) ⟨h',g,d,t,os⟩:=I.laid (t':=t) hm.keeps (Nat.le_succ _) (obj_ext ⟨_,_,he,rfl,rfl,rfl,fun _=>⟨rfl,tt,rfl⟩⟩)
 have hMa:=mem_not Rl.mem I.kIn fresh (Nat.le_succ _)
 have R2:Rel X G (mset M (h.objs.size+1) (.exc C none true)) σ (upd H (h.objs.size+1) (.ext (ExcO (h.objs.size+1) C none true))):=Rl.to (grow_new fresh) (Rl.mem.lay fresh upd_same)
 have i2:IsL (upd H (h.objs.size+1) (.ext (ExcO (h.objs.size+1) C none true))) (.ref (h.objs.size+1) :: ds) (.ref (h.objs.size+1) :: vs):=isl_cons.mpr ⟨_,_,rfl,is_ref.mpr rfl,i.grow (grow_new fresh)⟩
 have hsp:liftSp X.K (spIni C fs) (.ref (h.objs.size+1) :: vs) (upd H (h.objs.size+1) (.ext (ExcO (h.objs.size+1) C none true))) (fun v H'=>∃ dO M',Grow (upd H (h.objs.size+1) (.ext (ExcO (h.objs.size+1) C none true))) H'/\Is H' dO v/\MemOk X.K M' H'/\dO=.non/\∃ dx,mset M (h.objs.size+1) (.exc C none true) dx=none/\dx≠h.objs.size+1/\M'=mset (mset (mset M (h.objs.size+1) (.exc C none true)) dx (.att (fs.zip ds))) (h.objs.size+1) (.exc C (some dx) true)) E0 :=
  ⟨_,_,fun dO M'=>dO=.non/\∃ dx,mset M (h.objs.size+1) (.exc C none true) dx=none/\dx≠h.objs.size+1/\M'=mset (mset (mset M (h.objs.size+1) (.exc C none true)) dx (.att (fs.zip ds))) (h.objs.size+1) (.exc C (some dx) true),i2,R2.mem,
   ⟨_,ds,rfl,hl,mset_same,fun dx h1 h2=>⟨rfl,dx,h1,h2,rfl⟩⟩,fun v H' dO M' g i m q=>⟨dO,M',g,i,m,q⟩⟩
 have r2:Vals (V.ref (h.objs.size+1) :: vs) (Value.ref (h.objs.size+1) :: us):=.cons rfl r
 have hl2:(Value.ref (h.objs.size+1) :: us++[]).length=ps.length:=by
  rw [List.append_nil,<- r2.length]
  exact F.len _ _ _ _ hsp
 have hbb:=hb (⟨h',g,d,t,os⟩:Shared) (Value.ref (h.objs.size+1) :: us) I2.kIn hl2
 rw [List.append_nil] at hbb
 refine wpAny_call (codeAny_mono (F.run _ X.stack _ _ ⟨Value.ref (h.objs.size+1) :: us,[]⟩ (Value.ref (h.objs.size+1) :: us) _ _ E0 (hr.make C us []) (I2.env0.make C us []) hbb r2 hsp) fun r s' hq'=>?_)
 cases r with
 | error e=>exact hq'.elim
 | ok fl =>
  cases fl with
  | ret u =>
   obtain ⟨v,H',I3,rv,dO,M',g3,i3,m3,rfl,dx,h1,h2,rfl⟩:=I2.after hq'
   rw [is_non] at i3;subst i3
   cases rv
   have h1':M dx=none:=by rw [mset_ne h2] at h1;exact h1
   rw [mset_again h2] at m3
   have g4:Grow H H':=(grow_new fresh).trans g3
   exact ⟨rfl,hQ _ dx H' s' I3 g4 (Rl.to g4 m3) (Nat.le_succ _) hMa h1' h2⟩
  | next=>exact False.elim hq'
  | brk=>exact False.elim hq'
  | cont=>exact False.elim hq'
def delH (H:Hp) (a:Addr):Hp:=fun b=>if b=a then none else H b
theorem inv_del {pins:List (Addr × Obj)} {σ:St} {H:Hp} {s:Shared} {a:Addr} (I:L2.Inv X pins σ H s) (hA:∃ φ,H a=some (.ext φ)):L2.Inv X pins σ (delH H a) s:=by
 obtain ⟨φ,hA⟩:=hA
 have same:∀ b,b≠a->delH H a b=H b:=fun b hb=>by unfold delH;rw [if_neg hb]
 have keep:∀ b u,H b=some u->(∀ φ,u≠.ext φ)->delH H a b=some u:=fun b u e n=>by
  rw [same b (fun z=>by rw [z,hA] at e;cases e;exact n _ rfl)];exact e
 have nn:∀ b,H b=none->delH H a b=none:=fun b e=>by
  unfold delH
  split
  ·rfl
  ·exact e
 have:=I.un (H':=delH H a) (h':=s.heap) (t':=s.toks) ⟨fun b o hb _ _ _=>hb,fun b o hb _ _ _=>⟨o.slots,hb⟩,fun b o _ n _=>nn b n,fun b o hb _=>⟨o,hb⟩,fun b xs e=>keep b _ e (fun _ z=>by cases z),fun b o u e=>keep b _ e (fun _ z=>by cases z),fun b ps e=>⟨#[],by rw [keep b _ e (fun _ z=>by cases z)];simp⟩⟩
  (fun b u e=>by
   have hba:b≠a:=fun z=>by unfold delH at e;rw [if_pos z] at e;cases e
   rw [same b hba] at e
   exact (I.hok b u e).stay (fun _ _ _ z=>z) (fun c hc=>keep c _ hc (fun _ z=>by cases z)) (fun c xs hc=>keep c _ hc (fun _ z=>by cases z)))
 exact this
theorem grow_del {H:Hp} {a:Addr} (hA:∃ φ,H a=some (.ext φ)):Grow H (delH H a):=fun b xs e=>by
 obtain ⟨φ,hA⟩:=hA
 unfold delH
 rw [if_neg (fun z=>by rw [z,hA] at e;cases e)];exact e
theorem ex_raise {k:Nat} {x:Str} {p:Pos} {C P0:Addr} {fs:List Str} (m:Mkr X.prog X.w X.K X.mg X.base k x C P0 fs) {j:Nat} (hr:Room j X.A) (hj:k+1<=j) (hc:X.calm=true) (T:Thr X R) (hsz:fs.length<=100)
  (h:AV X G M (e :: es) fun ds M1=>ds.length=fs.length/\∀ dx,M1 dx=none->R G C (fs.zip ds) (mset M1 dx (.att (fs.zip ds)))) (hg:Gl X x:=by rfl) (hdb:(x == ("__debug__" : Str))=false:=by decide)
  (he:starEach (e :: es) X.env=(false,eval e X.env) :: starEach es X.env:=by rfl) (hpl:(backTo cpos (starEach es X.env)).any (·.1)=false:=by rfl):EX X G M (.Raise (some (.Call (.Name x p) (e :: es) [] cpos)) none pos) E:=by
 intro pins s σ H I Rl
 obtain ⟨nm,q,N,bs,sn,sub,ab,col,dd,k0,k1,k2,k3,k5,hC⟩:=m.cls.ex
 rw [arm_exec_Raise]
 refine wpAny_bind (wpAny_standAt (raise_made (C:=C) (nm:=nm) (q:=q) (N:=N) (bs:=bs) (bm:=.ref P0 :: VE) (hdct:=true) (sn:=sn) (sub:=sub) (ab:=ab) (col:=col) (dd:=dd) (k0:=k0) (k1:=k1) (k2:=k2) (k3:=k3) (k5:=k5) (newId := "ValueError.__new__") (by simp [VE]) (I.ok.hd hc) ?_))
 refine wpAny_bind (wpAny_mono (Q:=fun v s₁=>∃ e t de,v=.ref e/\s₁.heap.get? C=some (excClassObj nm q C N bs (.ref P0 :: VE) true sn sub ab col dd k0 k1 k2 k3 k5 "ValueError.__new__")/\s₁.heap.get? e=some { cls:=.ref C,dict:=de,data:=.fields #[.ref t,.none,.none,.none,.bool false,.none] }/\X.xe (.ref e) s₁) ?_ (fun v s₃ h₃=>wpAny_bind (wpAny_standAt (wpAny_pure h₃))) fun _ _ x=>x)
 refine wpAny_Call_Name_kw (ld_glob I hg m.mg ?_ hdb)
 refine PySem.W.callWith_K (h₀:=X.base) I.ok.mod.kin m.kp (thn (h cpos pins s σ H I Rl) fun us s1 ⟨vs,H1,ds,M1,I1,r1,g1,i1,R1,hl,q1⟩=>⟨I1.kIn,?_⟩) he hpl
 refine make_run m (hr.mono hj) I1 R1 r1 i1 hl hsz fun a dx H' s' I' g' R' hs0 h1 h2 h3=>?_
 have hA:H' a=some (.ext (ExcO a C (some dx) true)):=R'.mem a _ mset_same
 obtain ⟨ys,hX,hF⟩:=R'.mem dx (.att (fs.zip ds)) (by rw [mset_ne h3,mset_same])
 obtain ⟨⟨ob,vs',ho,hcl,hd,hdt,hfr⟩,_,_⟩:=I'.hok a _ hA
 obtain ⟨hsl,tt,hvs⟩:=hfr rfl
 have hob:ob={ cls:=.ref C,dict:=some dx,data:=.fields #[.ref tt,.none,.none,.none,.bool false,.none] }:=by
  obtain ⟨c1,c2,c3,c4⟩:=ob
  simp only at hcl hd hdt hsl
  rw [hcl,hd,hdt,hsl,hvs]
 have gd:Grow H' (delH H' a):=grow_del ⟨_,hA⟩
 have I3:=inv_del I' ⟨_,hA⟩
 refine ⟨a,tt,some dx,rfl,I'.kIn _ _ hC,by rw [<- hob];exact ho,?_⟩
 refine T pins σ (delH H' a) s' a C dx ys (fs.zip ds) G (mset M1 dx (.att (fs.zip ds))) I3 ⟨⟨ob,vs',ho,hcl,hd,hdt,(by rw [hvs];show 1 < 6;omega),.inl (by rw [hvs];rfl)⟩,h3,?_,?_⟩ (Nat.le_trans I1.sz hs0) (fun p hp=>Nat.ne_of_lt (Nat.lt_of_lt_of_le (Heap.lt_size (I1.pin p hp).1) hs0)) (R'.to gd (fun b v hb=>?_)) (FsIs.grow gd hF) (q1 dx h2)
 ·unfold delH;rw [if_neg h3];exact hX
 ·unfold delH;rw [if_pos rfl]
 ·have hba:b≠a:=fun z=>by
   rw [z,mset_ne (fun z=>h3 z.symm),h1] at hb;cases hb
  refine (R'.mem b v (by rw [mset_ne hba];exact hb)).stay gd fun w hw=>?_
  unfold delH;rw [if_neg hba];exact hw
end
structure Cth (K:PySem.W.Frag) (C P:Addr):Prop where
 run:∀ {M:Model} {A:Around} {E:Value->Shared->Prop} {h:Heap} {g:Array GenState} {d:Drawn} {t:Nat} {os:OsState} {e:Addr} {oe:Obj} {Q:Bool->Shared->Prop},K.In h->h.get? e=some oe->oe.cls=.ref C->Q true ⟨h,g,d,t,os⟩->wpAny M A (excMatches (.ref e) (.ref P)) Q E ⟨h,g,d,t,os⟩
theorem Cth.of {K:PySem.W.Frag} {C P:Addr} (c:Err K C P) (b:Err0 K P):Cth K C P:=⟨fun X he hc hq=>caught X c b he hc hq⟩
section
variable {X:Cx} {pins:List (Addr × Obj)} {σ:St} {H:Hp} {s:Shared}
theorem goes {M:Model} {A:Around} {E:Value->Shared->Prop} {i:Nat} {n:Str} {pos:Pos} {Q:Unit->Shared->Prop} (I:L2.Inv X pins σ H s) (hN:X.N.Nodup) (hi:X.N[i]?=some n) (hl:X.env.scope.names.lookup n=some .local)
  (h:∀ s',L2.Inv X pins (σ.set i none) H s'->Q () s'):wpAny M A (do bindName X.env n .none;unbindBehindTheSuite X.env n pos) Q E s:=by
 obtain ⟨m,hn,hloc⟩:=id I.loc
 have hcls:(X.env.scope.kind == .class || (X.env.scope.kind == .module && X.env.locals != X.env.globals))=false:=by rw [I.ok.kind];rfl
 refine wpAny_nameGoes_keeps hl hn hcls fun h' v hn' hs=>h _ ?_
 have nl:∀ b o,X.s₀.heap.get? b=some o->b≠X.env.locals:=fun b o e=>Nat.ne_of_lt (Nat.lt_of_lt_of_le (Heap.lt_size e) I.ok.above)
 refine ⟨I.ok,I.os,I.bare,⟨fun b o e nb hb hx=>(hs.2 b (nl b o e)).trans (I.base.keep b o e nb hb hx),fun b o e nb hb hx=>?_,I.base.free,fun b o e hx=>?_,I.base.tups,I.base.frzs,I.base.tbls⟩,⟨_,hn',fun j y v' e1 e2 e3=>?_⟩,fun y c e=>?_,I.free,I.freeC,fun p hp=>?_,fun b ob e=>?_,by simpa using I.len⟩
 ·obtain ⟨sl,e1⟩:=I.base.slot b o e nb hb hx
  exact ⟨sl,(hs.2 b (nl b o e)).trans e1⟩
 ·obtain ⟨o',e1⟩:=I.base.there b o e hx
  exact ⟨o',(hs.2 b (nl b o e)).trans e1⟩
 ·by_cases hj:j=i
  ·subst hj
   have hlt:j < σ.length:=by rw [I.len];exact (List.getElem?_eq_some_iff.mp hi).1
   rw [List.getElem?_set_self hlt] at e2
   cases e2
  ·rw [List.getElem?_set_ne (Ne.symm hj)] at e2
   obtain ⟨u',r',q⟩:=hloc j y v' e1 e2 e3
   refine ⟨u',r',?_⟩
   rcases q with ⟨k,e⟩ | ⟨k,c,e,z⟩
   ·refine .inl ⟨k,?_⟩
    have hy:y≠n:=fun e=>hj (nodup_ix hN e1 (e ▸ hi))
    simp [hy,e]
   ·exact .inr ⟨k,c,e,z.sameBut hs (I.cne y c e)⟩
 ·obtain ⟨w',z⟩:=I.cell y c e
  exact ⟨w',z.sameBut hs (I.cne y c e)⟩
 ·obtain ⟨e,nb,ne,nf,d⟩:=I.pin p hp
  exact ⟨(hs.2 p.1 ne).trans e,nb,ne,nf,d⟩
 ·refine (I.hok b ob e).stay (fun c w' hc q=>(hs.2 c ?_).trans q) (fun _ q=>q) fun _ _ q=>q
  rintro rfl
  rcases hc with rfl | hc
  ·rw [I.free] at e;cases e
  ·rw [I.free] at hc;cases hc
abbrev Cx.suite (X:Cx) (a:Addr):Cx:={ X with A:=X.A.mark (some (.ref a)),calm:=false,xe:=fun _ _=>False }
theorem Inv.suite (I:L2.Inv X pins σ H s) (a:Addr):L2.Inv (Cx.suite X a) pins σ H s :=
 ⟨⟨I.ok.mod,I.ok.kind,I.ok.glob,I.ok.blt,I.ok.above,I.ok.inj,I.ok.has,I.ok.cab,fun z=>(by cases z),I.ok.frames,I.ok.stk,I.ok.exf,I.ok.bs,I.ok.bsz,I.ok.noex,I.ok.exfs,I.ok.funs,I.ok.frf⟩,I.os,I.bare,I.base,I.loc,I.cell,I.free,I.freeC,I.pin,I.hok,I.len⟩
theorem Inv.unsuite {a:Addr} (I:L2.Inv (Cx.suite X a) pins σ H s) (ok:X.Ok):L2.Inv X pins σ H s:=⟨ok,I.os,I.bare,I.base,I.loc,I.cell,I.free,I.freeC,I.pin,I.hok,I.len⟩
theorem lands {a C dx:Addr} {fs:List (Str × V)} {h':Heap} (I:L2.Inv X pins σ H s) (fl:Flies H s.heap a C dx fs) (hsz:X.s₀.heap.objs.size<=a) (hp:∀ p∈X.pn++pins,p.1≠a) (hst:X.stack=X.env :: X.outer) (hfr:X.env.frame=some X.env.locals)
  (ps:X1.Passed ((X.env :: X.outer).filterMap (·.frame)) a s.heap h') (hx:ExcAt h' a (.ref C) (some dx)):L2.Inv X pins σ (upd H a (.ext (ExcO a C (some dx) false))) { s with heap:=h' }:=by
 obtain ⟨oe,vs,he,hc,hd,hdt,_,_⟩:=fl.at_
 have hsf:∀ b,b∈(X.env :: X.outer).filterMap (·.frame) ↔ b=X.env.locals\/b∈X.fs:=fun b=>by
  rw [List.filterMap_cons,hfr]
  exact List.mem_cons
 obtain ⟨m,hn,_⟩:=id I.loc
 have hal:a≠X.env.locals:=fun z=>by
  obtain ⟨o,es,ep,ho,hdd,_⟩:=hn
  rw [<- z,he] at ho
  cases ho
  rw [hdt] at hdd;cases hdd
 have hac:∀ x c,X.env.cells.lookup x=some c->c≠a:=fun x c e z=>by
  obtain ⟨v,o,ho,hdd⟩:=I.cell x c e
  rw [z,he] at ho
  cases ho
  rw [hdt] at hdd;cases hdd
 have:=I.step (g':=s.gens) (t':=s.toks) (d':=s.drawn) (ch:=[a]) (h':=h') (H':=upd H a (.ext (ExcO a C (some dx) false)))
  (fun b hb=>by
   have e:b=a:=by simpa using hb
   subst e
   exact ⟨.inr hsz,hal,hac,hp⟩)
  (fun b o n1 n2 n3 e _=>ps.1 b o e (by simpa using n3) (by rw [hsf];simp only [not_or];exact ⟨n1,n2⟩))
  (fun b o n1 n2 n3 e _=>ps.2 b o e (by simpa using n3))
  (fun b o n3 e n=>by rw [upd_ne (by simpa using n3)];exact n)
  (fun b o n3 e=>let ⟨sl,q⟩:=ps.2 b o e (by simpa using n3);⟨_,q⟩)
  (fun b xs e=>by rw [upd_ne (fun z=>by rw [z,fl.free] at e;cases e)];exact e)
  (fun b o u e=>by rw [upd_ne (fun z=>by rw [z,fl.free] at e;cases e)];exact e)
  (fun b p e=>⟨#[],by rw [upd_ne (fun z=>by rw [z,fl.free] at e;cases e),e];simp⟩)
  (fun m hm=>by
   obtain ⟨o,es,ep,ho,hdd,r⟩:=hm
   obtain ⟨sl,q⟩:=ps.2 _ o ho hal.symm
   exact ⟨_,es,ep,q,hdd,r⟩)
  (fun b u e=>by
   by_cases hb:b=a
   ·subst hb
    rw [upd_same] at e;cases e
    obtain ⟨oe',vs',he',hc',hd',hdt',_,_⟩:=hx
    exact obj_ext ⟨oe',vs',he',hc',hd',hdt',fun z=>by cases z⟩
   ·rw [upd_ne hb] at e
    refine (I.hok b u e).stay (fun c v hc hv=>?_) (fun c hc=>by rw [upd_ne (fun z=>by rw [z,fl.free] at hc;cases hc)];exact hc) (fun c xs hc=>by rw [upd_ne (fun z=>by rw [z,fl.free] at hc;cases hc)];exact hc)
    have htr:H c≠none:=by
     rcases hc with rfl | hc
     ·rw [e];simp
     ·rw [hc];simp
    refine ps.1 c v hv (fun z=>htr (by rw [z];exact fl.free)) fun z=>htr (I.stkFree c ?_)
    rw [hst];exact z) I.bare
 exact this
end
section
variable {X:Cx} {G:Ga} {M:MH} {body:List Stmt} {b0:Stmt} {suite:List Stmt} {pos np hpos:Pos} {E:EndsD} {R:Ga->XQ}
theorem Rel.drop {σ:St} {H:Hp} {i:Nat} (Rl:Rel X G M σ H):Rel X (G.set i none) M (σ.set i none) H:=by
 refine ⟨fun j d e=>?_,Rl.mem⟩
 by_cases hj:j=i
 ·subst hj
  rw [List.getElem?_set] at e
  rw [if_pos rfl] at e
  split at e<;>cases e
 ·rw [List.getElem?_set_ne (Ne.symm hj)] at e ⊢
  exact Rl.loc j d e
def SPT (X:Cx) (pins:List (Addr × Obj)) (E:EndsD) (f:Flow) (s':Shared):Prop :=
 match f with
 | .next=>∃ σ' H' G' M',L2.Inv X pins σ' H' s'/\Rel X G' M' σ' H'/\E.nx G' M'
 | .ret u=>∃ v σ' H' d M',L2.Inv X pins σ' H' s'/\RelV v u/\Is H' d v/\MemOk X.K M' H'/\E.rt d M'
 | _=>False
def EXt (X:Cx) (G:Ga) (M:MH) (st:List Stmt) (E:EndsD):Prop :=
 ∀ (pins:List (Addr × Obj)) (s:Shared) (σ:St) (H:Hp),L2.Inv X pins σ H s->Rel X G M σ H->wpAny (model X.prog X.w) X.A (execs st X.env) (SPT X pins E) X.xe s
theorem ext_of {st:List Stmt} {nx:Ga->MH->Prop} {rt:DK} (h:EXs X G M st { nx:=nx,rt:=rt }):EXt X G M st { nx:=nx,rt:=rt }:=fun pins s σ H I Rl=>thn (h pins s σ H I Rl) fun f s' q=>by
 cases f with
 | next=>obtain ⟨σ',H',G',M',I',g',R',q⟩:=q;exact ⟨σ',H',G',M',I',R',q⟩
 | brk=>obtain ⟨_,_,_,_,_,_,_,z⟩:=q;exact z.elim
 | cont=>obtain ⟨_,_,_,_,_,_,_,z⟩:=q;exact z.elim
 | ret u=>obtain ⟨v,σ',H',d,M',I',r,g',i',m',q⟩:=q;exact ⟨v,σ',H',d,M',I',r,i',m',q⟩
theorem ext_cons {st:Stmt} {sts:List Stmt} {nx:Ga->MH->Prop} {rt:DK} (h:EX X G M st { nx:=fun G' M'=>EXt X G' M' sts { nx:=nx,rt:=rt },rt:=rt }):EXt X G M (st :: sts) { nx:=nx,rt:=rt }:=fun pins s σ H I Rl=>by
 refine wpAny_execs_cons (thn (h pins s σ H I Rl) fun f s' q=>?_)
 cases f with
 | next=>obtain ⟨σ',H',G',M',I',g',R',q⟩:=q;exact q pins s' σ' H' I' R'
 | brk=>obtain ⟨_,_,_,_,_,_,_,z⟩:=q;exact z.elim
 | cont=>obtain ⟨_,_,_,_,_,_,_,z⟩:=q;exact z.elim
 | ret u=>obtain ⟨v,σ',H',d,M',I',r,g',i',m',q⟩:=q;exact ⟨v,σ',H',d,M',I',r,i',m',q⟩
abbrev Cx.tried (X:Cx) (pins:List (Addr × Obj)) (xe':Value->Shared->Prop):Cx:={ X with pn:=X.pn++pins,xe:=xe' }
theorem Inv.tried {pins:List (Addr × Obj)} {σ:St} {H:Hp} {s:Shared} (I:L2.Inv X pins σ H s) (xe':Value->Shared->Prop):L2.Inv (Cx.tried X pins xe') [] σ H s :=
 ⟨⟨I.ok.mod,I.ok.kind,I.ok.glob,I.ok.blt,I.ok.above,I.ok.inj,I.ok.has,I.ok.cab,I.ok.hd,I.ok.frames,I.ok.stk,I.ok.exf,I.ok.bs,I.ok.bsz,I.ok.noex,I.ok.exfs,I.ok.funs,I.ok.frf⟩,I.os,I.bare,I.base,I.loc,I.cell,I.free,I.freeC,fun p hp=>I.pin p (by simpa using hp),I.hok,I.len⟩
theorem Inv.untried {pins pins':List (Addr × Obj)} {σ:St} {H:Hp} {s:Shared} {xe':Value->Shared->Prop} (I:L2.Inv (Cx.tried X pins xe') pins' σ H s) (ok:X.Ok):L2.Inv X pins σ H s :=
 ⟨ok,I.os,I.bare,I.base,I.loc,I.cell,I.free,I.freeC,fun p hp=>I.pin p (List.mem_append_left _ hp),I.hok,I.len⟩
def QT (X:Cx) (pins:List (Addr × Obj)) (rest:List Stmt) (E:EndsD):Flow->Shared->Prop
 | .next,s'=>wpAny (model X.prog X.w) X.A (execs rest X.env) (SPT X pins E) X.xe s'
 | .ret u,s'=>SPT X pins E (.ret u) s'
 | _,_=>False
theorem ext_tryC {i:Nat} {n cn:Str} {P0:Addr} {rest:List Stmt} {nx:Ga->MH->Prop} {rt:DK} (hok:∀ pins xe',Thr (Cx.tried X pins xe') R->EXs (Cx.tried X pins xe') G M body { nx:=fun G' M'=>EXt X G' M' rest { nx:=nx,rt:=rt },rt:=rt }) (hst:X.stack=X.env :: X.outer) (hfr:X.env.frame=some X.env.locals)
  (hN:X.N.Nodup) (hi:X.N[i]?=some n) (hl:X.env.scope.names.lookup n=some .local) (hf:X.fn n=true) (hm:X.mg cn=some (.ref P0)) (hg:Gl X cn)
  (hR:∀ G1 C fs M1,R G1 C fs M1->Cth X.K C P0/\∀ a dx,M1 a=none->(M1 dx=none\/∃ fs',M1 dx=some (.att fs'))->dx≠a ->
   EXs (Cx.suite X a) (G1.set i (some (.ref a))) (mset (mset M1 dx (.att fs)) a (.exc C (some dx) false)) (b0 :: suite) { nx:=fun G2 M2=>EXt X (G2.set i none) M2 rest { nx:=nx,rt:=rt },rt:=fun _ _=>False })
  (hdb:(cn == ("__debug__" : Str))=false:=by decide):EXt X G M (.Try body [.ExceptHandler (some (.Name cn np)) (some n) (b0 :: suite) hpos] [] [] pos :: rest) { nx:=nx,rt:=rt }:=by
 intro pins s σ H I Rl
 have ok:=I.ok
 refine wpAny_execs_cons (wpAny_mono (Q:=QT X pins rest { nx:=nx,rt:=rt }) ?_ (fun f s' h=>?_) fun _ _ x=>x)
 rotate_left
 ·cases f with
  | next=>exact h
  | brk=>exact h.elim
  | cont=>exact h.elim
  | ret u=>exact h
 refine wpAny_Try_except ?_
 generalize hxe:(fun e s₁=>wpAny (model X.prog X.w) X.A (noteFrame e X.env) (fun _ s₂=>wpAny (model X.prog X.w) X.A (setFlight e none) (fun _ s₃=>wpAny (model X.prog X.w) X.A (handleBy e X.env [.ExceptHandler (some (.Name cn np)) (some n) (b0 :: suite) hpos]) (QT X pins rest { nx:=nx,rt:=rt }) X.xe s₃) X.xe s₂) X.xe s₁)=xe'
 have T:Thr (Cx.tried X pins xe') R:=by
  intro pins' σ1 H1 s1 a C dx fs ds G1 M1 I1 fl hsz hp Rl1 hF hr
  obtain ⟨hErr,hsuite⟩:=hR G1 C ds M1 hr
  have J:L2.Inv X pins σ1 H1 s1:=Inv.untried I1 ok
  have Rl1:Rel X G1 M1 σ1 H1:=⟨Rl1.loc,Rl1.mem⟩
  show xe' (.ref a) s1
  rw [<- hxe]
  have hA:X.A.frames=some (X.env :: X.outer):=by rw [<- hst];exact ok.frames
  have hS:s1.heap.FunFrames X.base (X.env :: X.outer):=by rw [<- hst];exact J.stack
  refine note (base:=X.base) hA hS hfr fl.at_ fun h' ps hx=>?_
  have J2:=lands J fl hsz (fun p hp'=>hp p (List.mem_append_left _ hp')) hst hfr ps hx
  have gr:Grow H1 (upd H1 a (.ext (ExcO a C (some dx) false))):=grow_new fl.free
  have hM1:M1 a=none:=by
   cases e:M1 a with
   | none=>rfl
   | some u =>
    rcases (Rl1.mem a u e).there with ⟨v,q⟩ | ⟨v,q⟩
    ·rw [fl.free] at q;cases q
    ·have h1:=Heap.lt_size (ok.mod.kin a v q)
     exact absurd (Nat.lt_of_lt_of_le h1 (Nat.le_trans ok.bsz hsz)) (Nat.lt_irrefl _)
  have hMd:M1 dx=none\/∃ fs',M1 dx=some (.att fs'):=by
   cases e:M1 dx with
   | none=>exact .inl rfl
   | some u =>
    have hu:=Rl1.mem dx u e
    cases u with
    | att fs'=>exact .inr ⟨fs',rfl⟩
    | lst _=>obtain ⟨_,z,_⟩:=hu;rw [fl.own] at z;cases z
    | dic _=>obtain ⟨_,z,_⟩:=hu;rw [fl.own] at z;cases z
    | rod _ _=>obtain ⟨_,z,_⟩:=hu;rw [fl.own] at z;cases z
    | exc _ _ _=>have z:H1 dx=_:=hu;rw [fl.own] at z;cases z
    | raw _=>have z:H1 dx=_:=hu;rw [fl.own] at z;cases z
    | tkd _=>obtain ⟨_,z,_⟩:=hu;rw [fl.own] at z;cases z
    | ins _ _=>obtain ⟨_,_,z,_⟩:=hu;rw [fl.own] at z;cases z
    | ro _ =>
     obtain ⟨_,z,_⟩:=hu
     rcases z with (z | ⟨o,z⟩) | ⟨o,_,_,z,_⟩
     ·rw [fl.own] at z;cases z
     ·rw [fl.own] at z;cases z
     ·have:=kf_of J dx _ z
      rw [fl.own] at this;cases this
  have Rl2:Rel X G1 (mset (mset M1 dx (.att ds)) a (.exc C (some dx) false)) σ1 (upd H1 a (.ext (ExcO a C (some dx) false))):=Rl1.to gr (fun c v hc=>by
   by_cases c1:c=a
   ·subst c1;rw [mset_same] at hc;cases hc;exact upd_same
   ·rw [mset_ne c1] at hc
    by_cases c2:c=dx
    ·subst c2;rw [mset_same] at hc;cases hc
     exact ⟨fs,by rw [upd_ne c1];exact fl.own,FsIs.grow gr hF⟩
    ·rw [mset_ne c2] at hc
     exact (Rl1.mem c v hc).stay gr fun w hw=>by rw [upd_ne c1];exact hw)
  obtain ⟨hh,g,d,t,os⟩:=s1
  obtain ⟨oe',vs',he',hc',_⟩:=id hx
  refine wpAny_handleBy_cons (codeAny_handlers_test (ld_glob (Inv.suite J2 a) hg hm (hErr.run J2.kIn he' hc' ?_) hdb)) (by intro q;cases q)
  refine codeAny_handlers_suite_as (X1.rest hx (store_ok J2 hN hi (Or.inl hl) (v:=.ref a) rfl (fun s4 I4=>?_) (.inl hf)))
  have hil:i < σ1.length:=by rw [J.len];exact (List.getElem?_eq_some_iff.mp hi).1
  have Rl3:Rel (Cx.suite X a) (G1.set i (some (.ref a))) (mset (mset M1 dx (.att ds)) a (.exc C (some dx) false)) (σ1.set i (some (.ref a))) (upd H1 a (.ext (ExcO a C (some dx) false))):=Rel.set (X:=Cx.suite X a) ⟨Rl2.loc,Rl2.mem⟩ hil (is_ref.mpr rfl)
  refine wpAny_mono (hsuite a dx hM1 hMd fl.ne pins s4 _ _ (Inv.suite I4 a) Rl3) (fun f s5 h5=>?_) fun _ _ z=>z.elim
  cases f with
  | next =>
   obtain ⟨σ',H',G',M',I',g',R',q⟩:=h5
   refine goes (Inv.unsuite I' ok) hN hi hl fun s6 I6=>?_
   exact q pins s6 _ H' I6 (Rel.drop (X:=X) ⟨R'.loc,R'.mem⟩)
  | brk=>obtain ⟨_,_,_,_,_,_,_,z⟩:=h5;exact z.elim
  | cont=>obtain ⟨_,_,_,_,_,_,_,z⟩:=h5;exact z.elim
  | ret u=>obtain ⟨_,_,_,_,_,_,_,_,_,_,z⟩:=h5;exact z.elim
 refine wpAny_mono (hok pins xe' T [] s σ H (Inv.tried I xe') ⟨Rl.loc,Rl.mem⟩) (fun f s1 h1=>?_) fun e s1 h1=>h1
 cases f with
 | next =>
  obtain ⟨σ',H',G',M',I',g',R',q⟩:=h1
  refine wpAny_execs_nil ?_
  exact q pins s1 σ' H' (Inv.untried I' ok) ⟨R'.loc,R'.mem⟩
 | brk=>obtain ⟨_,_,_,_,_,_,_,z⟩:=h1;exact z.elim
 | cont=>obtain ⟨_,_,_,_,_,_,_,z⟩:=h1;exact z.elim
 | ret u =>
  obtain ⟨v,σ',H',d,M',I',r,g',i',m',q⟩:=h1
  exact ⟨v,σ',H',d,M',Inv.untried I' ok,r,i',m',q⟩
theorem ext_try {i:Nat} {n cn:Str} {P0:Addr} {rest:List Stmt} {nx:Ga->MH->Prop} {rt:DK} (hok:∀ pins xe',Thr (Cx.tried X pins xe') R->EXs (Cx.tried X pins xe') G M body { nx:=fun G' M'=>EXt X G' M' rest { nx:=nx,rt:=rt },rt:=rt }) (hst:X.stack=X.env :: X.outer) (hfr:X.env.frame=some X.env.locals)
  (hN:X.N.Nodup) (hi:X.N[i]?=some n) (hl:X.env.scope.names.lookup n=some .local) (hf:X.fn n=true) (hm:X.mg cn=some (.ref P0)) (hg:Gl X cn) (b:Err0 X.K P0)
  (hR:∀ G1 C fs M1,R G1 C fs M1->Err X.K C P0/\∀ a dx,M1 a=none->(M1 dx=none\/∃ fs',M1 dx=some (.att fs'))->dx≠a ->
   EXs (Cx.suite X a) (G1.set i (some (.ref a))) (mset (mset M1 dx (.att fs)) a (.exc C (some dx) false)) (b0 :: suite) { nx:=fun G2 M2=>EXt X (G2.set i none) M2 rest { nx:=nx,rt:=rt },rt:=fun _ _=>False })
  (hdb:(cn == ("__debug__" : Str))=false:=by decide):EXt X G M (.Try body [.ExceptHandler (some (.Name cn np)) (some n) (b0 :: suite) hpos] [] [] pos :: rest) { nx:=nx,rt:=rt } :=
 ext_tryC hok hst hfr hN hi hl hf hm hg (fun G1 C fs M1 r=>let ⟨h1,h2⟩:=hR G1 C fs M1 r;⟨Cth.of h1 b,h2⟩) hdb
end
section
variable {P:Program} {w:World} {K:PySem.W.Frag} {mg:Str->Option Value} {base:Heap}
theorem fn_T {x qual:Str} {st:Stmt} {f:Addr} {fd:FuncData} {N ps:List Str} {k:Nat} {sp:SpD} (F:Fun K x qual st f fd) (S:FnScope N ps (defScope st)) (len:∀ ds M Q,sp ds M Q->ds.length=ps.length)
  (hbody:∀ (cdv:Value) (A:Around) (outer:List Env) (s:Shared) (H:Hp) (EE:XK) (ds:List D) (M:MH) (Q:DK),Room k (A.deeper (envOfC qual (defScope st) s.heap.objs.size f cdv))->sp ds M Q ->
   EXt (cxOf CX0 P w K mg base N qual (defScope st) f cdv A outer s H EE).nox (startG N ds) M (defBody st) { nx:=fun _ M'=>Q .non M',rt:=Q }):FnOk P w K mg base CX0 (k+1) f fd ps (liftSp K sp):=by
 refine F.ok S (fun vs H Q E h=>?_) (fun cdv A outer s H vs Q E hr h=>?_)
 ·obtain ⟨ds,M,Qd,i,_,h,_⟩:=h
  rw [<- i.len];exact len _ _ _ h
 obtain ⟨ds,M,Qd,i,m,h,k⟩:=h
 have B:=hbody cdv A outer s H E ds M Qd hr h
 refine ⟨fun D σ' H'=>σ'=L2.start N vs/\H'=H/\D.nx=(fun _ H'=>Q .non H')/\D.rt=Q,?_,rfl,rfl,rfl,rfl⟩
 intro pins s' σ' H' D I ⟨e1,e2,e3,e4⟩
 subst e1;subst e2
 refine thn (B pins s' _ _ I (rel_start i m)) fun fl s'' q=>?_
 cases fl with
 | next =>
  obtain ⟨σ2,H2,G2,M2,I2,R2,q2⟩:=q
  refine ⟨σ2,H2,I2,?_⟩
  rw [e3]
  exact k .non H2 .non M2 (un_grow I2.base) (is_non.mpr rfl) R2.mem q2
 | brk=>exact q.elim
 | cont=>exact q.elim
 | ret u =>
  obtain ⟨v,σ2,H2,d,M2,I2,r2,i2,m2,q2⟩:=q
  refine ⟨v,σ2,H2,I2,r2,?_⟩
  rw [e4]
  exact k v H2 d M2 (un_grow I2.base) i2 m2 q2
end
end D3
namespace X1
open PySem PySem.W PySem.Calls Builtin Builtin.ObjectAttr
structure ErrG (K:Frag) (C:Addr):Prop where
 ex:∃ nm q N bs bm sn sub ab col dd k0 k1 k2 k3 k5 newId,K.lookup C=some (excClassObj nm q C N bs bm true sn sub ab col dd k0 k1 k2 k3 k5 newId)/\bm.contains (.type "BaseException")=true
theorem Err.g {K:Frag} {C P:Addr} (e:Err K C P):ErrG K C:=by
 obtain ⟨nm,q,N,bs,sn,sub,ab,col,dd,k0,k1,k2,k3,k5,hC⟩:=e.ex
 exact ⟨_,_,_,_,_,_,_,_,_,_,_,_,_,_,_,_,hC,by simp [VE]⟩
structure Knd (K:Frag) (C:Addr):Prop where
 cls:ErrG K C
 ga:findIn K (.ref C) "__getattribute__" = some (some (.builtin "BaseException.__getattribute__"))
 gh:findIn K (.ref C) "__getattr__" = some none
 ca:findIn K (.ref C) "__class__" = some (some (.builtin "object.__class__"))
 gt:specialIn K (.builtin "object.__class__") "__get__" = some (some (.builtin "getset_descriptor.__get__"))
 tk:takesIn K (.builtin "object.__class__")=some true
 mr:mroIn K C (.type "object")=some true
 is:(clsIn K C).isSome=true
section
variable {K:Frag} {prog:Program} {w:World} {A:Around} {E:Value->Shared->Prop} {h:Heap} {g:Array GenState} {d:Drawn} {t:Nat} {os:OsState} {C P x:Addr} {ox:Obj} {od:Option Obj}
theorem ga_checkG {M:Model} {o:Obj} {nameV:Value} {Q:Unit->Shared->Prop} (X:K.In h) (e:ErrG K C) (hx:h.get? x=some o) (hc:o.cls=.ref C) (hq:Q () ⟨h,g,d,t,os⟩) :
  wpAny M A (checkBuiltinCall "BaseException.__getattribute__" ⟨[.ref x,nameV],[]⟩) Q E ⟨h,g,d,t,os⟩:=by
 obtain ⟨nm,q,N,bs,bm,sn,sub,ab,col,dd,k0,k1,k2,k3,k5,nid,hC,hb⟩:=e.ex
 have hC:=X _ _ hC
 have z1:builtinKind "BaseException.__getattribute__" = some .slot:=by decide +kernel
 have z2:splitId "BaseException.__getattribute__" = some ("BaseException", "__getattribute__"):=by decide +kernel
 have hcB:(Value.ref C :: bm).contains (.type "BaseException")=true:=by rw [List.contains_cons,hb,Bool.or_true]
 have ha:=F.args_bexc_ga (.ref x) nameV
 simp only [checkBuiltinCall,z1,z2]
 refine wpAny_bind ?_
 unfold isInstance
 repeat (first | (with_reducible refine wpAny_loadPart_at hx ?_;rw [hc]) | (with_reducible refine wpAny_isSubtype_exc hC ?_;rw [hcB]) | wp_step)
 exact hq
theorem find_cls (k:Knd K C):findObj K C od "__class__" = some (.bind (.builtin "getset_descriptor.__get__") (.builtin "object.__class__")):=by
 obtain ⟨cd,hc⟩:=Option.isSome_iff_exists.mp k.is
 unfold findObj
 rw [hc,Option.bind_some,k.ca,Option.bind_some]
 simp [k.gt,k.tk]
theorem class_x {Q:Option Value->Shared->Prop} (X:K.In h) (k:Knd K C) (I:InstAt h x ox C od) (hq:Q (some (.ref C)) ⟨h,g,d,t+1,os⟩):wpAny (model prog w) A (getAttr? (.ref x) "__class__") Q E ⟨h,g,d,t,os⟩:=by
 have hx:=I.at_
 have hc:=I.cls
 have hng:=k.ga
 have hgh:=k.gh
 have FB:=F.attrBase_ValueError
 have f3:=FB.ga.bind (.ref x)
 have hx2:(Value.builtin "BaseException.__getattribute__" == Value.builtin "object.__getattribute__")=false:=by decide +kernel
 have hx1:(onTheHeap (Value.ref C) && Value.builtin "BaseException.__getattribute__" == Value.builtin "object.__getattribute__")=false:=by rw [hx2];rfl
 have hf:=find_cls (od:=od) k
 have L0:=I.type (M:=model prog w)
 have L1:=looks_find (M:=model prog w) X I hf
 unfold getAttr? getAttrBy?
 refine wpAny_bind (wpAny_mkText (wpAny_bind (wpAny_attempt ?_)))
 repeat (any_goals (first | assumption | with_reducible refine look X hng ?_ | with_reducible refine look X hgh ?_ | (with_reducible refine wpAny_loadPart_at hx ?_;rw [hc]) | wp_step))
 refine codeAny_call_builtin FB.ga.plain F.entry_bexc_ga (ga_checkG X k.cls hx hc ?_)
 unfold Builtin.«object.__getattribute__»
 repeat (first | (with_reducible refine wpAny_bind (L1.at ?_)) | (with_reducible refine wpAny_loadPart_at hx ?_;rw [hc]) | wp_step)
 refine class_get (s:=⟨h,g,d,t+1,os⟩) X I k.mr ?_
 exact wpAny_pure (wpAny_pure (wpAny_pure hq))
theorem kitx_x (k:Knd K C):KitX K (.ref x) (.ref C) (fun h=>∃ ox od,InstAt h x ox C od) where
 ty:=fun _ _ _ ⟨_,_,I⟩=>I.type
 it:=fun _ _ X _=>by
  obtain ⟨cd,hcd⟩:=Option.isSome_iff_exists.mp k.is
  unfold clsIn at hcd
  split at hcd
  ·rename_i ho
   intro A' Q' E' s' z q
   unfold isType loadHead
   exact wpAny_bind (wpAny_loadPart (z _ _ (X _ _ ho)) (wpAny_pure q))
  ·cases hcd
 ne:=fun h tp dd its n sl X htp=>by
  obtain ⟨cd,hcd⟩:=Option.isSome_iff_exists.mp k.is
  refine Bool.eq_false_iff.mpr fun q=>?_
  have e:C=tp:=Value.ref.inj (beq_iff_eq.mp q)
  subst e
  unfold clsIn at hcd
  split at hcd
  ·rename_i ho
   cases (X _ _ ho).symm.trans htp
  ·cases hcd
 ca:=fun {_ _ _ _ _ s} X ⟨_,_,I⟩ q=>by
  obtain ⟨hh,gg,dd,tt,oo⟩:=s
  exact class_x X k I q
end
end X1
namespace D3
open PySem PySem.Spec PyProof.Rows L2 X1
def Lies (H:Hp) (dd:Option Addr):Prop:=match dd with
 | none=>True
 | some dx=>∃ fs,H dx=some (.xd fs)
theorem inst_x {P:Program} {w:World} {H:Hp} {h:Heap} {a C:Addr} {dd:Option Addr} {fr:Bool} (ok:HOk P w H h) (ha:H a=some (.ext (ExcO a C dd fr))) (l:Lies H dd):∃ ox od,PySem.W.InstAt h a ox C od:=by
 obtain ⟨⟨o,vs,e,h1,h2,h3,_⟩,_,_⟩:=ok a _ ha
 cases dd with
 | none=>exact ⟨o,none,e,h1,by unfold PySem.W.notCls;rw [h3],by rw [h2];trivial⟩
 | some dx =>
  obtain ⟨fs,hfs⟩:=l
  obtain ⟨mA,⟨od,es,ep,hod,_⟩,_⟩:=ok dx _ hfs
  exact ⟨o,some od,e,h1,by unfold PySem.W.notCls;rw [h3],by rw [h2];exact hod⟩
def LiesM (M:MH) (dd:Option Addr):Prop:=match dd with
 | none=>True
 | some dx=>∃ fs,M dx=some (.att fs)
theorem LiesM.of {K:PySem.W.Frag} {M:MH} {H:Hp} {dd:Option Addr} (m:MemOk K M H) (l:LiesM M dd):Lies H dd:=by
 cases dd with
 | none=>trivial
 | some dx=>obtain ⟨fs,e⟩:=l;obtain ⟨ys,q,_⟩:=m dx _ e;exact ⟨ys,q⟩
section
variable {X:Cx} {G:Ga} {M:MH} {e e2:Expr} {es:List Expr} {pos:Pos} {Q:DK}
theorem ne_opq {a:Addr}:Value.ref a≠.builtin "__main__.__loader__#opaque" := fun z=>by cases z
theorem call_isX1:CallR X (.builtin "isinstance") (fun xs H Q=>∃ a C dd fr b c u,xs=[.ref a,c]/\H a=some (.ext (ExcO a C dd fr))/\Lies H dd/\Knd X.K C/\(∀ u',RelV c u'->u'=u)/\PySem.W.kitOne X.K (.ref C) u=some b/\Q (.bl b) H):=by
 intro pins s σ H xs us Q I r h
 obtain ⟨a,C,dd,fr,b,c,u,rfl,ha,l,k,hu,e,q⟩:=h
 obtain ⟨u1,u2,rfl,r1,r2⟩:=vals2 r
 obtain rfl:u1=Value.ref a:=r1
 have:=hu _ r2
 subst this
 exact PySem.W.kia_one (kitx_x k) I.kIn (inst_x I.hok ha l) e ne_opq fun tk=>⟨.bl b,H,I.tok tk,rfl,q⟩
theorem call_isXT:CallR X (.builtin "isinstance") (fun xs H Q=>∃ a C dd fr b tp,∃ cs:List Addr,xs=[.ref a,.ref tp]/\H a=some (.ext (ExcO a C dd fr))/\Lies H dd/\Knd X.K C/\H tp=some (.tup (cs.map V.ref))/\PySem.W.kitAny X.K (.ref C) (cs.map Value.ref)=some b/\Q (.bl b) H):=by
 intro pins s σ H xs us Q I r h
 obtain ⟨a,C,dd,fr,b,tp,cs,rfl,ha,l,k,ht,e,q⟩:=h
 obtain ⟨u1,u2,rfl,r1,r2⟩:=vals2 r
 obtain rfl:u1=Value.ref a:=r1
 obtain rfl:u2=Value.ref tp:=r2
 obtain ⟨_,its,hv,⟨c1,c2,c3,c4⟩,ho,hc,n,hd⟩:=I.hok tp _ ht
 have hi:∀ (cs:List Addr) (its:List Value),Vals (cs.map V.ref) its->its=cs.map Value.ref:=by
  intro cs
  induction cs with
  | nil=>intro its hv;cases hv;rfl
  | cons c r ih =>
   intro its hv
   cases hv with
   | cons h1 h2 =>
    obtain rfl:=(show _=Value.ref c from h1)
    rw [ih _ h2];rfl
 obtain rfl:=hi cs its hv
 simp only at hc hd
 subst hc;subst hd
 exact PySem.W.kia_tup (kitx_x k) I.kIn (inst_x I.hok ha l) ho e ne_opq fun tk=>⟨.bl b,H,I.tok tk,rfl,q⟩
theorem ev_isX {p:Pos} (hm:X.mg "isinstance" = none) (h:AV X G M [e,e2] fun ds M1=>∃ a C dd fr b,M1 a=some (.exc C dd fr)/\LiesM M1 dd/\Knd X.K C/\((∃ c,ds=[.ref a,.ref c]/\PySem.W.kitOne X.K (.ref C) (.ref c)=some b)\/∃ T,ds=[.ref a,.ty T]/\PySem.W.kitOne X.K (.ref C) (.type T)=some b)/\Q (.bl b) M1)
  (hg:Gl X "isinstance" := by rfl) (he:starEach [e,e2] X.env=(false,eval e X.env) :: starEach [e2] X.env:=by rfl) (hpl:(backTo pos (starEach [e2] X.env)).any (·.1)=false:=by rfl):EV X G M (.Call (.Name "isinstance" p) [e,e2] [] pos) Q :=
 ev_callB call_isX1 hm bootIsi (h.mono fun ds M1 ⟨a,C,dd,fr,b,ha,l,k,hc,q⟩=>fun H xs kf hx m=>by
  rcases hc with ⟨c,rfl,hc⟩ | ⟨T,rfl,hc⟩
  ·obtain ⟨v,w,rfl,hv,hw⟩:=isl2 hx
   rw [is_ref] at hv hw;subst hv;subst hw
   exact ⟨a,C,dd,fr,b,.ref c,.ref c,rfl,m a _ ha,l.of m,k,fun u' z=>z,hc,fun _=>⟨Grow.refl _,.bl b,M1,is_bl.mpr rfl,m,q⟩⟩
  ·obtain ⟨v,w,rfl,hv,hw⟩:=isl2 hx
   rw [is_ref] at hv;rw [is_ty] at hw;subst hv;subst hw
   exact ⟨a,C,dd,fr,b,.ty T,.type T,rfl,m a _ ha,l.of m,k,fun u' z=>z,hc,fun _=>⟨Grow.refl _,.bl b,M1,is_bl.mpr rfl,m,q⟩⟩) hg (by decide) (by decide) he hpl
theorem ev_isXT {p:Pos} (hm:X.mg "isinstance" = none) (h:AV X G M [e,e2] fun ds M1=>∃ a C dd fr b,∃ cs:List Addr,M1 a=some (.exc C dd fr)/\LiesM M1 dd/\Knd X.K C/\ds=[.ref a,.tup (cs.map D.ref)]/\PySem.W.kitAny X.K (.ref C) (cs.map Value.ref)=some b/\Q (.bl b) M1)
  (hg:Gl X "isinstance" := by rfl) (he:starEach [e,e2] X.env=(false,eval e X.env) :: starEach [e2] X.env:=by rfl) (hpl:(backTo pos (starEach [e2] X.env)).any (·.1)=false:=by rfl):EV X G M (.Call (.Name "isinstance" p) [e,e2] [] pos) Q :=
 ev_callB call_isXT hm bootIsi (h.mono fun ds M1 ⟨a,C,dd,fr,b,cs,ha,l,k,e1,hc,q⟩=>fun H xs kf hx m=>by
  subst e1
  obtain ⟨v,w,rfl,hv,hw⟩:=isl2 hx
  rw [is_ref] at hv;subst hv
  rw [is_tup] at hw
  obtain ⟨tp,ys,rfl,h1,h2⟩:=hw
  have hy:∀ (cs:List Addr) (ys:List V),IsL H (cs.map D.ref) ys->ys=cs.map V.ref:=by
   intro cs
   induction cs with
   | nil=>intro ys h2;exact isl_nil.mp h2
   | cons c r ih =>
    intro ys h2
    obtain ⟨y,ys',rfl,i1,i2⟩:=isl_cons.mp h2
    rw [is_ref] at i1;subst i1
    rw [ih _ i2];rfl
  obtain rfl:=hy cs ys h2
  exact ⟨a,C,dd,fr,b,tp,cs,rfl,m a _ ha,l.of m,k,h1,hc,fun _=>⟨Grow.refl _,.bl b,M1,is_bl.mpr rfl,m,q⟩⟩) hg (by decide) (by decide) he hpl
theorem ev_cls {x:Str} {C:Addr} (hm:X.mg x=some (.ref C)) (q:Q (.ref C) M) (hg:Gl X x:=by rfl) (hd:(x == ("__debug__" : Str))=false:=by decide):EV X G M (.Name x pos) Q:=fun pins s σ H I Rl =>
 ld_glob I hg hm ⟨.ref C,H,.ref C,M,I,rfl,Grow.refl _,is_ref.mpr rfl,Rl,q⟩ hd
theorem handed_V {v:V} {u:Value} (r:RelV v u):handedOut u=pure u:=by
 cases v<;>first | (obtain ⟨t,rfl⟩:=r;rfl) | (cases r;rfl)
theorem ev_fldX {f:Str} (h:EV X G M e fun d M1=>∃ a C P dx fr fs d',d=.ref a/\M1 a=some (.exc C (some dx) fr)/\dx≠a/\M1 dx=some (.att fs)/\ErrF X.K C P f/\fs.lookup f=some d'/\Q d' M1) (hbase:attributeBase e f X.env (eval e X.env)=eval e X.env:=by rfl):EV X G M (.Attribute e f pos) Q:=by
 intro pins s σ H I Rl
 refine attr_of hbase (thn (h pins s σ H I Rl) fun u s1 ⟨x,H1,d,M1,I1,rx,g1,i1,R1,a,C,P,dx,fr,fs,d',e1,ha,hne,hd,F,hl,q⟩=>?_)
 subst e1
 rw [is_ref] at i1;subst i1
 obtain rfl:u=Value.ref a:=rx
 have hA:H1 a=some (.ext (ExcO a C (some dx) fr)):=R1.mem a _ ha
 obtain ⟨ys,hX,hF⟩:=R1.mem dx _ hd
 obtain ⟨⟨ob,vs,ho,hc,hdd,hdt,_⟩,_,_⟩:=I1.hok a _ hA
 obtain ⟨mA,hN,hR⟩:=I1.hok dx _ hX
 obtain ⟨y,hy,iy⟩:=hF.get hl
 obtain ⟨hh,gg,dd,tt,oo⟩:=s1
 have Ix:hh.Inst a C mA:=⟨ob,ho,hc,fun c z=>(by rw [hdt] at z;cases z),.inr ⟨dx,hdd,hne,hN⟩⟩
 have hr:=hR f
 rw [hy] at hr
 cases hm:mA f with
 | none=>rw [hm] at hr;exact hr.elim
 | some v =>
  rw [hm] at hr
  exact load_x I1.kIn F.cls F.ga F.gh F.no Ix hm (handed_V hr) ⟨y,H1,d',M1,I1.tok (tt+1),hr,g1,iy,R1,q⟩
theorem obj_in {P:Program} {w:World} {H:Hp} {h:Heap} {a:Addr} {o:HO} (x:ObjOk P w H h a o):∃ u,h.get? a=some u:=by
 induction o generalizing a with
 | lst xs=>obtain ⟨_,_,_,_,e⟩:=x;exact ⟨_,e⟩
 | tup xs=>obtain ⟨_,_,_,o,e,_⟩:=x;exact ⟨_,e⟩
 | dK kvs=>obtain ⟨_,_,_,_,o,_,_,e,_⟩:=x;exact ⟨_,e⟩
 | dT kvs=>obtain ⟨_,_,_,_,o,_,_,e,_⟩:=x;exact ⟨_,e⟩
 | set S n=>obtain ⟨o,_,_,_,e,_⟩:=x;exact ⟨_,e⟩
 | ins C dx fs=>obtain ⟨_,_,_,e,_⟩:=x;exact ⟨_,e⟩
 | own _=>exact x
 | xd fs=>obtain ⟨_,⟨o,_,_,e,_⟩,_⟩:=x;exact ⟨_,e⟩
 | rng lo hi=>obtain ⟨_,_,_,e⟩:=x;exact ⟨_,e⟩
 | frz o u ih=>exact ⟨_,x.1⟩
 | tbl ps=>exact ⟨_,x⟩
 | met f y=>exact ⟨_,x⟩
 | ext φ=>exact x.2.1
end
section
variable {X:Cx} {G:Ga} {M:MH} {e:Expr} {pos:Pos} {Q:DK}
end
section
variable {X:Cx} {G:Ga} {M:MH} {Q:DK}
end
section
variable {X:Cx} {G:Ga} {M:MH} {o e f:Expr} {Q:DK} {apos cpos pos:Pos}
end
section
variable {P:Program} {w:World} {A:Around} {E:Value->Shared->Prop} {s:Shared}
end
theorem entryDul:entryFor table "dict.update.loop" = some Builtin.«dict.update.loop»:=by kernel_rfl
theorem plainDul:plainId "dict.update.loop" = true:=by decide +kernel
theorem dict_keep {P:Program} {w:World} {h h':Heap} {d:Addr} {kvs:List (Key × Value)} (hd:h.DictOf (mixKind P w) d kvs) (k:∀ o,h.get? d=some o->h'.get? d=some o):h'.DictOf (mixKind P w) d kvs:=by
 obtain ⟨o,es,ep,h1,h2⟩:=hd
 exact ⟨o,es,ep,k o h1,h2⟩
theorem stored_new {kvs:List (Key × Value)} {k:Key} {v:Value} (h:∀ x∈kvs,x.1≠k):stored kvs k v=kvs++[(k,v)]:=by
 unfold stored
 rw [if_neg]
 intro z
 obtain ⟨x,h1,h2⟩:=List.any_eq_true.mp z
 exact h x h1 (of_decide_eq_true h2)
def PairAt (P:Program) (w:World) (h:Heap) (v:Value) (kv:Key × Value):Prop:=∃ a o k0 n,v=.ref a/\h.get? a=some o/\o.cls=.type "tuple" /\ o.data=.seq #[k0,kv.2] n/\(mixKind P w).is kv.1 k0=true
section
variable {P:Program} {w:World} {B:Around} {R:Result->Shared->Prop} {I d:Addr} {fp wr:List Addr} {n:Nat} {Pi:Nat->Value->Prop} {St:Nat->Heap->Prop} {hp:Heap}
theorem pairs_loop (W:PySem.Walks P w B.in1 I fp wr n Pi St) (kv:Nat->Key × Value) (hv:∀ i v,Pi i v->PairAt P w hp v (kv i)) (hd:d∉fp) (hb:hp.get? d=none) (hw:∀ x∈wr,hp.get? x=none)
  (hnd:∀ i j,i < j->j < n->(kv i).1≠(kv j).1) (hn:n<=sizeLine) :
  ∀ (k j:Nat) (st:Shared) (tok:Tok) (i:Int),n - j=k->j<=n->St j st.heap->(∀ b o,hp.get? b=some o->st.heap.get? b=some o)->st.heap.DictOf (mixKind P w) d ((List.range j).map kv) ->
  (∀ g tk,g.DictOf (mixKind P w) d ((List.range n).map kv)->(∀ b o,hp.get? b=some o->g.get? b=some o)->R (.ok (.ret .none)) { st with heap:=g,toks:=tk }) ->
  codeAny (model P w) B (.builtin "dict.update.loop" ⟨[.ref d,.ref I,.int i tok,.none],[]⟩) R st:=by
 have off:d∉wr:=fun h=>hd (W.sub _ h)
 intro k
 induction k with
 | zero =>
  intro j st tok i hk hj hst hkp hdd q
  have e:j=n:=by omega
  subst e
  refine codeAny_builtin entryDul ?_
  rw [Around.under_plainId plainDul _]
  show wpAny _ B.in1 (pyNext (.ref I) >>= _) _ _ st
  refine wpAny_bind (W.done st _ _ hst fun g tk hg=>?_)
  show wpAny _ B.in1 (pure _ >>= _) _ _ _
  refine wpAny_bind (wpAny_pure (wpAny_pure ?_))
  refine q g tk (dict_keep hdd fun o e=>hg d o off e) fun b o e=>hg b o (fun z=>?_) (hkp b o e)
  rw [hw b z] at e;cases e
 | succ k ih =>
  intro j st tok i hk hj hst hkp hdd q
  have lt:j < n:=by omega
  refine codeAny_builtin entryDul ?_
  rw [Around.under_plainId plainDul _]
  show wpAny _ B.in1 (pyNext (.ref I) >>= _) _ _ st
  refine wpAny_bind (W.item j st _ _ lt hst fun v g tk hP hst' hg=>?_)
  obtain ⟨a,o,k0,nn,rfl,ea,ec,ed,hk0⟩:=hv j v hP
  have ea':g.get? a=some o:=hg a o (fun z=>by rw [hw a z] at ea;cases ea) (hkp a o ea)
  show wpAny _ B.in1 (holding [.ref a] (tryCatch (Builtin.Dict.pairItems (.ref a)) _ >>= _) >>= _) _ _ _
  refine wpAny_bind (wpAny_holding (wpAny_bind (wpAny_tryCatch ?_)))
  show wpAny _ B.in1 (typeOf (.ref a) >>= _) _ _ _
  refine wpAny_bind (wpAny_typeOf_ref ea' ?_)
  rw [ec]
  show wpAny _ B.in1 (seqItems? (.ref a) >>= _) _ _ _
  refine wpAny_bind (wpAny_seqItems ea' ed (wpAny_pure ?_))
  show wpAny _ B.in1 (holding [k0,(kv j).2] (dictSet d k0 (kv j).2)) _ _ _
  have hdd':=dict_keep hdd fun o e=>hg d o off e
  refine wpAny_holding (wpAny_dictSet_pairs hk0 hdd' (fun g2 dd2 hs=>?_) (by simp;omega))
  have es:stored ((List.range j).map kv) (kv j).1 (kv j).2=(List.range (j+1)).map kv:=by
   rw [stored_new,List.range_succ,List.map_append]
   ·rfl
   ·intro x hx
    obtain ⟨i',h1,rfl⟩:=List.mem_map.mp hx
    exact hnd i' j (List.mem_range.mp h1) lt
  rw [es] at dd2
  refine wpAny_pure ⟨plainId_quiet plainDul _,ih (j+1) _ _ _ (by omega) lt (W.frame _ _ _ hst' fun b hb' o y=>?_) (fun b o e=>?_) dd2 fun g3 tk3 dd3 k3=>q g3 tk3 dd3 k3⟩
  ·exact (hs.2 b (fun z=>hd (by rw [<- z];exact hb'))).trans y
  ·exact (hs.2 b (fun z=>by rw [z,hb] at e;cases e)).trans (hg b o (fun z=>by rw [hw b z] at e;cases e) (hkp b o e))
end
section
variable {P:Program} {w:World} {A:Around} {E:Value->Shared->Prop} {s:Shared}
end
theorem kv_of_ix:∀ {ys:List (Key × V)} {kv:Nat->Key × Value},(∀ i y,ys[i]?=some y->y.1=(kv i).1/\RelV y.2 (kv i).2)->KV ys ((List.range ys.length).map kv)
 | [],kv,_=>.nil
 | y :: ys,kv,h=>by
  rw [List.length_cons,List.range_succ_eq_map,List.map_cons,List.map_map]
  exact .cons (h 0 y rfl) (kv_of_ix (kv:=kv ∘ Nat.succ) fun i z e=>h (i+1) z (by simpa using e))
theorem nodup_inr:∀ {l:List Str},l.Nodup->(l.map (Sum.inr:Str->Key)).Nodup
 | [],_=>List.nodup_nil
 | a :: l,h=>by
  rw [List.nodup_cons] at h
  rw [List.map_cons,List.nodup_cons]
  exact ⟨fun z=>by
   obtain ⟨b,hb,e⟩:=List.mem_map.mp z
   cases e
   exact h.1 hb,nodup_inr h.2⟩
section
variable {X:Cx} {G:Ga} {M:MH} {e:Expr} {pos:Pos} {Q:DK}
abbrev pairD (t:Str × D):D:=.tup [.str t.1,t.2]
theorem pairs_is {H:Hp}:∀ {ps:List (Str × D)} {vs:List V},IsL H (ps.map pairD) vs->∃ ys,KvIs H ps ys/\vs.length=ys.length/\ys.map (·.1)=ps.map (fun t=>Sum.inr t.1)/\∀ (i:Nat) v y,vs[i]?=some v->ys[i]?=some y->∃ b,v=.ref b/\H b=some (.tup [kV y.1,y.2])
 | [],vs,h=>by
  rw [List.map_nil,isl_nil] at h;subst h
  exact ⟨[],rfl,rfl,rfl,fun i v y e=>by simp at e⟩
 | p :: ps,vs,h=>by
  rw [List.map_cons,isl_cons] at h
  obtain ⟨x,r,rfl,h1,h2⟩:=h
  obtain ⟨ys,k1,k2,k3,k4⟩:=pairs_is h2
  rw [is_tup] at h1
  obtain ⟨b,xs,rfl,hb,hx⟩:=h1
  rw [isl_cons] at hx
  obtain ⟨x1,r1,rfl,i1,hx⟩:=hx
  rw [isl_cons] at hx
  obtain ⟨x2,r2,rfl,i2,hx⟩:=hx
  rw [isl_nil] at hx;subst hx
  rw [is_str] at i1;subst i1
  refine ⟨(Sum.inr p.1,x2) :: ys,⟨x2,ys,rfl,i2,k1⟩,by simp [k2],by simp [k3],fun i v y e1 e2=>?_⟩
  cases i with
  | zero=>cases e1;cases e2;exact ⟨b,rfl,hb⟩
  | succ i=>exact k4 i v y (by simpa using e1) (by simpa using e2)
end
section
variable {X:Cx} {tg:Expr} {G:Ga} {M:MH} {iter elt:Expr} {ifs:List Expr} {Q:DK} {own N:List Str} {js:List Nat} {scope:Scope} {pos:Pos}
end
end D3
namespace HT
open PySem PySem.Spec PyProof.Rows
section
variable {prog:Program} {w:World} {A:Around} {E:Value->Shared->Prop} {s:Shared}
theorem getItem_tuple_all {t sl:Addr} {items:Array Value} {vl vu:Value} {lo hi:Option Int} {Q:Value->Shared->Prop} (ht:IsTup s.heap t items) (hs:s.heap.IsSliceOf sl vl vu .none) (pl:IsPart vl lo) (pu:IsPart vu hi)
  (hw:sIx items.size 0 lo=0/\sIx items.size items.size hi=items.size) (h:Q (.ref t) s):wpAny (model prog w) A (getItem (.ref t) (.ref sl)) Q E s:=by
 obtain ⟨os,hos,hcs,hds⟩:=id hs
 have hTs:s.TypeIs (.ref sl) "slice" := ⟨os,hos,hcs⟩
 unfold getItem
 try with_reducible refine wpAny_holding ?_
 first | refine wpAny_bind (wpAny_pure ?_) | skip
 refine wpAny_bind (wpAny_sequenceKey ht.typeIs (by decide) ?_)
 refine wpAny_bind (wpAny_callSpecial?_slot (name:=Str.ofString "__getitem__") ht.typeIs PyProof.Rows.slot_tuple_getitem
  (wpAny_call_entry PyProof.Rows.slot_tuple_getitem ht.typeIs entry_tuple_getitem ?_ (args_tuple_getitem _ _)))
 show wpAny _ _ (Builtin.Tuple.tupleItemsOf (.ref t) >>= _) _ _ s
 refine wpAny_bind (tupleItemsOf_ ht ?_)
 refine wpAny_bind (wpAny_typeOf hTs ?_)
 rw [if_pos (by decide)]
 refine wpAny_bind (sliceApplied_gen hs pl pu ?_)
 rw [hw.1,hw.2]
 show wpAny _ _ (if (((0:Nat):Int) == 0 && (1:Int) == 1 && (items.size - 0) == items.size)=true then _ else _) _ _ s
 rw [if_pos (by simp)]
 refine wpAny_bind (m:=Builtin.Tuple.tupleIsExact _) ?_
 obtain ⟨o,e1,e2,_⟩:=id ht
 unfold Builtin.Tuple.tupleIsExact
 refine wpAny_bind (wpAny_typeOf_ref e1 ?_)
 rw [e2]
 refine wpAny_pure ?_
 show wpAny _ _ (if ((Value.type "tuple" == Value.type "tuple")=true) then _ else _) _ _ s
 rw [if_pos (by decide)]
 refine wpAny_bind (wpAny_rule ?_)
 first
  | exact wpAny_pure ⟨_,rfl,wpAny_pure h⟩
  | exact wpAny_bind (wpAny_pure (wpAny_pure ⟨_,rfl,wpAny_pure h⟩))
end
end HT
namespace D3
open PySem PySem.Spec PyProof.Rows L2
def rSlA (K:PySem.W.Frag):V->Option Int->Option Int->Hp->VK->Prop:=fun x lo hi H Q=>∃ a xs,x=.ref a/\SqT K H a xs /\
 ((HT.sIx xs.length 0 lo=0/\HT.sIx xs.length xs.length hi=xs.length)->Q (.ref a) H)/\(¬ (HT.sIx xs.length 0 lo=0/\HT.sIx xs.length xs.length hi=xs.length)->∀ p,H p=none->Q (.ref p) (upd H p (.tup (cutV xs lo hi))))
section
variable {X:Cx} {G:Ga} {M:MH} {Q:DK} {a b:Expr} {pos:Pos}
theorem sl_all:SlR X (rSlA X.K):=by
 intro pins s σ H x v vl vu lo hi sl Q I rx hs pl pu h
 obtain ⟨a,xs,rfl,hx,q1,q2⟩:=h
 by_cases hw:HT.sIx xs.length 0 lo=0/\HT.sIx xs.length xs.length hi=xs.length
 ·cases rx
  obtain ⟨its,r,ht,hz⟩:=I.tuple hx
  have hlen:its.toArray.size=xs.length:=by rw [List.size_toArray];exact r.length.symm
  refine ⟨"tuple",_,PyProof.Rows.slot_tuple_getitem.lookup,ht.typeIs,?_⟩
  refine HT.getItem_tuple_all ht hs pl pu (by rw [hlen];exact hw) ?_
  exact ⟨.ref a,H,I,rfl,q1 hw⟩
 ·exact sl_tup pins s σ H (.ref a) v vl vu lo hi sl Q I rx hs pl pu ⟨a,xs,rfl,hx,hw,q2 hw⟩
theorem cutD_all {ds:List D} {lo hi:Option Int} (hw:HT.sIx ds.length 0 lo=0/\HT.sIx ds.length ds.length hi=ds.length):cutD ds lo hi=ds:=by
 unfold cutD
 rw [hw.1,hw.2]
 simp
theorem rs_tupA {da:D} {lo hi:Option Int} {ds:List D} (e:da=.tup ds) (h:Q (.tup (cutD ds lo hi)) M):RS X.K (rSlA X.K) da lo hi M Q:=by
 intro H x kf hx m
 subst e
 rw [is_tup] at hx
 obtain ⟨a,xs,rfl,h1,h2⟩:=hx
 have hc:=h2.cut lo hi
 have hl:=h2.len
 refine ⟨a,xs,rfl,SqT.of h1,fun hw _=>?_,fun hw p hp _=>⟨grow_new hp,.tup _,M,is_tup.mpr ⟨p,_,rfl,upd_same,hc.grow (grow_new hp)⟩,m.new hp,h⟩⟩
 rw [<- hl] at hw
 rw [cutD_all hw] at h
 exact ⟨Grow.refl _,.tup ds,M,is_tup.mpr ⟨a,xs,rfl,h1,h2⟩,m,h⟩
theorem mul_tup1 (t:Tok) (l:Addr) (its:List Value) (n:Nat) (dc:Option Addr) (sl:Array (Option Value)) :
  Meets (Builtin.«tuple.__mul__» ⟨[.ref l,.int 1 t],[]⟩) (fun _ R st=>st.heap.get? l=some { cls:=.type "tuple",dict:=dc,data:=.seq its.toArray n,slots:=sl } /\
   R (.ok (.ret (.ref l))) st) :=
 .of_wp fun P w B R st q=>by
  obtain ⟨hp,gs,dr,tk,os⟩:=st
  obtain ⟨h1,q⟩:=q
  have c1:(decide ((1:Int) < -(2 ^ 63)) || decide ((1:Int) ≥ 2 ^ 63))=false:=by decide
  have c2:(its.toArray.isEmpty || (1:Int) == 1)=true:=by simp
  wp_walk
  exact ⟨_,rfl,q⟩
def rRepT1 (K:PySem.W.Frag):R2:=fun x y H Q=>∃ l xs,x=.ref l/\y=.int 1/\SqT K H l xs/\Q (.ref l) H
theorem op_repT1:OpR X (binaryOp .Mult) (rRepT1 X.K):=by
 intro pins s σ H x y v u Q I rx ry h
 obtain ⟨l,xs,rfl,rfl,hq,q⟩:=h
 cases rx
 obtain ⟨t,rfl⟩:=ry
 obtain ⟨its,r,⟨⟨c,dc,dt,sl⟩,e,hc,n,hd⟩,_⟩:=I.tuple hq
 simp only at hc hd
 subst hc;subst hd
 refine wpAny_binaryOp_repeat_ref (T := "tuple") (U := "int") (by decide) ⟨_,e,rfl⟩ (fun s'=>typeIs_int s' 1 t) noFill_tup F.fills_int_mul F.slot_int_rmul rep_tup F.slot_int_index.lookup
  (call_meets F.slot_int_rmul (typeIs_int s 1 t) F.entry_int_rmul (F.args_int_rmul_2 _ _) (rmul_tup 1 t l its.toArray n dc sl)
   ⟨e,rfl,⟨_,e,rfl⟩,call_meets F.slot_tuple_mul ⟨_,e,rfl⟩ F.entry_tuple_mul (F.args_tuple_mul_2 _ _) (mul_tup1 t l its n dc sl) ⟨e,?_⟩⟩)
 exact ⟨.ref l,H,I,rfl,q⟩
end
section
variable {X:Cx} {G:Ga} {M:MH} {elt tg iter e:Expr} {scope:Scope} {pos:Pos} {Q:DK} {own:List Str} {js:List Nat} {N:List Str} {cl:List (Str × Addr)}
end
def BT (w:World):Bool:=w.params.followText "set-order"
theorem strs_perm:∀ {vs vs':List Value},vs'.Perm vs->∀ {ss:List Str},StrsAre vs ss->∃ ss',ss'.Perm ss/\StrsAre vs' ss':=by
 intro vs vs' p
 induction p with
 | nil=>intro ss h;cases h;exact ⟨[],.nil,.nil⟩
 | cons x p ih =>
  intro ss h
  cases h with
  | cons s t h =>
   obtain ⟨ss',h1,h2⟩:=ih h
   exact ⟨s :: ss',h1.cons s,.cons s t h2⟩
 | swap x y l =>
  intro ss h
  cases h with
  | cons s t h =>
   cases h with
   | cons s2 t2 h=>exact ⟨s2 :: s :: _,.swap ..,.cons s2 t2 (.cons s t h)⟩
 | trans p1 p2 ih1 ih2 =>
  intro ss h
  obtain ⟨s1,h1,h2⟩:=ih2 h
  obtain ⟨s2,h3,h4⟩:=ih1 h2
  exact ⟨s2,h3.trans h1,h4⟩
theorem strs_app:∀ {vs:List Value} {ss:List Str} (x:Str) (t:Tok),StrsAre vs ss->StrsAre (vs++[.str x t]) (ss++[x])
 | _,_,x,t,.nil=>.cons x t .nil
 | _,_,x,t,.cons s u h=>.cons s u (strs_app x t h)
theorem strs_mem:∀ {vs:List Value} {ss:List Str} {x:Str},StrsAre vs ss->(x∈ss ↔ ∃ v∈vs,keyIs (Sum.inr x) v=true)
 | _,_,x,.nil=>by simp
 | _,_,x,.cons s u h=>by
  have ih:=strs_mem (x:=x) h
  rw [List.mem_cons,ih]
  constructor
  ·rintro (rfl | ⟨v,h1,h2⟩)
   ·exact ⟨_,List.mem_cons_self ..,by simp [keyIs,Value.isStrOf]⟩
   ·exact ⟨v,List.mem_cons_of_mem _ h1,h2⟩
  ·rintro ⟨v,h1,h2⟩
   rcases List.mem_cons.mp h1 with rfl | h1
   ·left
    have:s=x:=by simpa [keyIs,Value.isStrOf] using h2
    exact this.symm
   ·exact .inr ⟨v,h1,h2⟩
theorem strs_len:∀ {vs:List Value} {ss:List Str},StrsAre vs ss->vs.length=ss.length
 | _,_,.nil=>rfl
 | _,_,.cons s u h=>by rw [List.length_cons,List.length_cons,strs_len h]
structure SetS (P:Program) (w:World) (h:Heap) (a:Addr) (ss:List Str) (o:Obj) (es:Array (Int × Value)) (ep:Nat) (t:SetTable):Prop where
 at_:h.get? a=some o
 ex:o.ExactSet
 dat:o.data=.set es ep t
 fit:t.fits es.size=true
 elems:ElemsOf (mixKind P w) es.toList
 str_:StrsAre (es.toList.map (·.2)) ss
 plain:t.plain=false\/es.size=0
 led:BT w=false->t.led=true
section
variable {P:Program} {w:World} {A:Around} {E:Value->Shared->Prop} {s:Shared}
theorem wp_byText {Q:Bool->Shared->Prop} (q:Q (BT w) s):wpAny (model P w) A setsByText Q E s:=by
 show wpAny _ A (ask >>= _) _ _ s
 exact wpAny_bind (wpAny_askSetting (wpAny_pure q))
theorem relay_plain (t:SetTable) (es:Array (Int × Value)) (n:Nat) (h:t.plain=false):(relayAll t es n).2.1.plain=false:=by
 unfold relayAll
 split
 ·rename_i t' order he
  have:t'.plain=false:=by
   unfold SetTable.relaid SetTable.laid at he
   cases hl:SetTable.layClean (SetTable.sizeAbove n - 1) (Array.map (fun x=>x.fst) es) with
   | none=>rw [hl] at he;cases he
   | some ow =>
    rw [hl] at he
    injection he with he
    injection he with h1 h2
    rw [<- h1];exact h
  dsimp only
  split
  ·exact this
  ·rfl
 ·rfl
theorem relay_led (t:SetTable) (es:Array (Int × Value)) (n:Nat):(relayAll t es n).2.1.led=t.led:=by
 unfold relayAll
 split
 ·rename_i t' order he
  have:t'.led=t.led:=by
   unfold SetTable.relaid SetTable.laid at he
   cases hl:SetTable.layClean (SetTable.sizeAbove n - 1) (Array.map (fun x=>x.fst) es) with
   | none=>rw [hl] at he;cases he
   | some ow =>
    rw [hl] at he
    injection he with he
    injection he with h1 h2
    rw [<- h1]
  dsimp only
  split
  ·exact this
  ·rfl
 ·rfl
theorem layNew_led (t:SetTable) (es:Array (Int × Value)) (h:Int) (x:Value):(layNew t es h x).2.1.led=t.led:=by
 unfold layNew
 split
 ·dsimp only
  unfold SetTable.orStandIn
  split
  ·rfl
  ·rfl
 ·rfl
theorem SetS.store {h:Heap} {a:Addr} {ss ss':List Str} {o:Obj} {es es':Array (Int × Value)} {ep:Nat} {t t':SetTable} (H:SetS P w h a ss o es ep t) (fit:t'.fits es'.size=true) (el:ElemsOf (mixKind P w) es'.toList) (st:StrsAre (es'.toList.map (·.2)) ss') (pl:t'.plain=false\/es'.size=0) (ld:BT w=false->t'.led=true) :
  SetS P w (h.update a (Obj.putSet es' t')) a ss' (Obj.putSet es' t' o) es' (ep+1) t':=by
 obtain ⟨oc,od,odt,osl⟩:=o
 have hd:=H.dat
 simp only at hd
 subst hd
 exact ⟨Heap.get?_update_self _ H.at_ rfl,H.ex,rfl,fit,el,st,pl,ld⟩
theorem set_add {a:Addr} {ss:List Str} {o:Obj} {es:Array (Int × Value)} {ep:Nat} {t:SetTable} {x:Str} {tok:Tok} {Q:Bool->Shared->Prop} (h:SetS P w s.heap a ss o es ep t) (hz:es.size < 200)
  (q:∀ b h' tk ss' o' es' ep' t',SetS P w h' a ss' o' es' ep' t'->(∀ b o,b≠a->s.heap.get? b=some o->h'.get? b=some o)->((x∈ss/\ss'=ss)\/(x∉ss/\ss'.Perm (ss++[x])))->Q b { s with heap:=h',toks:=tk }):wpAny (model P w) A (setAdd a (.str x tok)) Q E s:=by
 show wpAny _ A (holding [_] (pyHash _ >>= _)) _ _ s
 refine wpAny_holding (wpAny_bind ((mixKind P w).pyHash (k:=Sum.inr x) (mixKind_str P w x tok) ?_))
 show wpAny _ A (holding [_] (setAddHashedIn a _ _ 100000)) _ _ _
 refine wpAny_holding ?_
 rw [show (100000:Nat)=99999+1 from rfl,setAddHashedIn.eq_def]
 show wpAny _ A (setState a >>= _) _ _ _
 refine wpAny_bind (wpAny_setState_of h.at_ h.dat h.fit ?_)
 show wpAny _ A (if byScan _ es=true then _ else _) _ _ _
 rw [if_pos (byScan_of (knd:=mixKind P w) rfl (by unfold scanBound;omega) h.elems)]
 refine wpAny_bind ?_
 show wpAny _ A (rule _ >>= _) _ _ _
 refine wpAny_bind (wpAny_rule (wpAny_bind (wpAny_setScan_of (knd:=mixKind P w) (k:=Sum.inr x) (mixKind_str P w x tok) h.at_ h.dat h.fit h.elems ?_)))
 have hmem:x∈ss ↔ ∃ e∈es.toList,(mixKind P w).is (Sum.inr x) e.2=true:=by
  rw [strs_mem h.str_]
  constructor
  ·rintro ⟨v,h1,h2⟩
   obtain ⟨e,h3,rfl⟩:=List.mem_map.mp h1
   exact ⟨e,h3,h2⟩
  ·rintro ⟨e,h1,h2⟩
   exact ⟨e.2,List.mem_map.mpr ⟨e,h1,rfl⟩,h2⟩
 cases hf:List.findIdx? (fun e=>(mixKind P w).is (Sum.inr x) e.snd) es.toList with
 | some j =>
  refine wpAny_pure (wpAny_pure (q _ _ _ ss o es ep t h (fun b o _ e=>e) (.inl ⟨hmem.mpr ?_,rfl⟩)))
  obtain ⟨hj,hp,_⟩:=List.findIdx?_eq_some_iff_getElem.mp hf
  exact ⟨_,List.getElem_mem hj,hp⟩
 | none =>
  have hno:x∉ss:=fun z=>by
   obtain ⟨e,h1,h2⟩:=hmem.mp z
   have:=List.findIdx?_eq_none_iff.mp hf e h1
   rw [h2] at this;cases this
  dsimp only
  have hp:=layNew_perm t es ((mixKind P w).hash (Sum.inr x)) (.str x tok)
  have hfit:=layNew_fits t es ((mixKind P w).hash (Sum.inr x)) (.str x tok)
  have hld:=layNew_led t es ((mixKind P w).hash (Sum.inr x)) (.str x tok)
  generalize layNew t es ((mixKind P w).hash (Sum.inr x)) (.str x tok)=L at hp hfit hld ⊢
  obtain ⟨es1,t1,wd,gv⟩:=L
  dsimp only at hp hfit hld ⊢
  have hld1:BT w=false->t1.led=true:=fun z=>by rw [hld];exact h.led z
  have hel:ElemsOf (mixKind P w) es1.toList:=fun e he=>by
   have:=hp.mem_iff.mp he
   rw [Array.toList_push,List.mem_append] at this
   rcases this with this | this
   ·exact h.elems e this
   ·rw [List.mem_singleton.mp this]
    exact ⟨⟨Sum.inr x,mixKind_str P w x tok,rfl⟩,rfl⟩
  have hvs:(es1.toList.map (·.2)).Perm (es.toList.map (·.2)++[.str x tok]):=by
   have:=hp.map (·.2)
   rw [Array.toList_push,List.map_append] at this
   exact this
  obtain ⟨ss1,hs1,hst1⟩:=strs_perm hvs (strs_app x tok h.str_)
  have hsz1:es1.size=es.size+1:=by
   have:=hp.length_eq
   simpa using this
  have tail:∀ (t2:SetTable) (g:Bool->Sem Unit),t2.plain=false->t2.fits es1.size=true->(BT w=false->t2.led=true)->(∀ (b:Bool) (Q:Unit->Shared->Prop) (s':Shared),Q () s'->wpAny (model P w) A (g b) Q E s') ->
    wpAny (model P w) A (storeSet a es1 t2 >>= fun _=>if (!wd && t2.tooFull)=true then (g (relayAll t2 es1 (SetTable.grown es1.size)).2.2 >>= fun _=>storeSet a (relayAll t2 es1 (SetTable.grown es1.size)).1 (relayAll t2 es1 (SetTable.grown es1.size)).2.1 >>= fun _=>pure (some true)) else pure (some true))
     (fun a_2 s'=>wpAny (model P w) A (match a_2 with | some added=>pure added | none=>setAddHashedIn a (Value.str x tok) ((mixKind P w).hash (Sum.inr x)) 99999) Q E s') E { s with toks:=s.toks+1 }:=by
   intro t2 g hpl2 hfit2 hld2 hg
   have S1:SetS P w (s.heap.update a (Obj.putSet es1 t2)) a ss1 (Obj.putSet es1 t2 o) es1 (ep+1) t2:=h.store hfit2 hel hst1 (.inl hpl2) hld2
   have k1:∀ b o,b≠a->s.heap.get? b=some o->(s.heap.update a (Obj.putSet es1 t2)).get? b=some o:=fun b o hb e=>(Heap.get?_update_other _ _ (Ne.symm hb)).trans e
   refine wpAny_bind (wpAny_storeSet_of h.at_ h.dat ?_ (by rw [hsz1,sizeLine_eq];omega))
   by_cases hc:(!wd && t2.tooFull)=true
   ·rw [if_pos hc]
    have hp2:=relayAll_perm t2 es1 (SetTable.grown es1.size)
    have hf2:=relayAll_fits t2 es1 (SetTable.grown es1.size)
    have hq2:=relay_plain t2 es1 (SetTable.grown es1.size) hpl2
    have hq3:=relay_led t2 es1 (SetTable.grown es1.size)
    generalize relayAll t2 es1 (SetTable.grown es1.size)=L at hp2 hf2 hq2 hq3 ⊢
    obtain ⟨es3,t3,g3⟩:=L
    dsimp only at hp2 hf2 hq2 hq3 ⊢
    have hel3:ElemsOf (mixKind P w) es3.toList:=fun e he=>hel e (hp2.mem_iff.mp he)
    obtain ⟨ss3,hs3,hst3⟩:=strs_perm (hp2.map (·.2)) hst1
    have hsz3:es3.size=es1.size:=by have:=hp2.length_eq;simpa using this
    refine wpAny_bind (hg _ _ _ ?_)
    refine wpAny_bind (wpAny_storeSet_of S1.at_ S1.dat ?_ (by rw [hsz3,hsz1,sizeLine_eq];omega))
    refine wpAny_pure (wpAny_pure (q _ _ _ ss3 _ es3 _ t3 (S1.store hf2 hel3 hst3 (.inl hq2) fun z=>by rw [hq3];exact hld2 z) (fun b o hb e=>(Heap.get?_update_other _ _ (Ne.symm hb)).trans (k1 b o hb e)) (.inr ⟨hno,hs3.trans hs1⟩)))
   ·rw [if_neg hc]
    exact wpAny_pure (wpAny_pure (q _ _ _ ss1 _ es1 _ t2 S1 k1 (.inr ⟨hno,hs1⟩)))
  refine wpAny_bind ?_
  have gw:∀ (b:Bool) (Q:Unit->Shared->Prop) (s':Shared),Q () s'->wpAny (model P w) A (match b with | true=>rule "set.scan.the-table-gave-way" | false=>pure ()) Q E s':=fun b Q s' q=>by
   cases b
   ·exact wpAny_pure q
   ·exact wpAny_rule q
  refine gw gv _ _ ?_
  cases hpl:t1.plain with
  | true =>
   rw [if_pos rfl]
   refine wpAny_bind (wpAny_of_eq (hashByValue_scannable 8 rfl) ?_)
   exact tail { mask:=t1.mask,place:=t1.place,dummies:=t1.dummies,finger:=t1.finger,led:=t1.led,moves:=t1.moves,plain:=false } _ rfl hfit hld1 gw
  | false =>
   rw [if_neg (by decide)]
   refine wpAny_bind (wpAny_pure ?_)
   exact tail t1 _ hpl hfit hld1 gw
end
theorem SetS.keep {P:Program} {w:World} {h h':Heap} {a:Addr} {ss:List Str} {o:Obj} {es:Array (Int × Value)} {ep:Nat} {t:SetTable} (H:SetS P w h a ss o es ep t) (k:∀ o,h.get? a=some o->h'.get? a=some o):SetS P w h' a ss o es ep t :=
 ⟨k _ H.at_,H.ex,H.dat,H.fit,H.elems,H.str_,H.plain,H.led⟩
theorem code_set_newL {prog:Program} {w:World} {A:Around} {E:Value->Shared->Prop} {s:Shared} (a:Value) {Q₁:Value->Shared->Prop}
  (h:Q₁ (.ref s.heap.objs.size) { s with heap:=s.heap.push { cls:=.type "set",dict:=none,data:=.set #[] 0 (.fresh 0 0 (!BT w)) } }) :
  codeAny (model prog w) A (.call (.builtin "set.__new__") ⟨[.type "set",a],[]⟩) (wants Q₁ E) s:=by
 refine codeAny_of_tree ?_
 show wpAny _ A.in1 (do checkBuiltinCall "set.__new__" ⟨[.type "set",a],[]⟩;again (.builtin "set.__new__" ⟨[.type "set",a],[]⟩)) _ _ s
 refine wpAny_bind (wpAny_of_eq (PySem.F.newCall_set_1 a) (wpAny_pure ⟨plainId_quiet PySem.F.plain_set_new _,codeAny_builtin PySem.F.entry_set_new ?_⟩))
 rw [Around.under_plainId PySem.F.plain_set_new _]
 unfold Builtin.«set.__new__» Builtin.Frozenset.newClass
 have hsub:=PySem.sub_set_self
 obtain ⟨hp,g,d,tk,os⟩:=s
 dsimp only
 wp_walk
 refine wpAny_askSetting (wpAny_pure ?_)
 dsimp only
 simp only [newObj]
 refine wpAny_bind (wpAny_alloc (wpAny_pure ?_))
 exact wpAny_pure h
theorem SetS.size {P:Program} {w:World} {h:Heap} {a:Addr} {ss:List Str} {o:Obj} {es:Array (Int × Value)} {ep:Nat} {t:SetTable} (H:SetS P w h a ss o es ep t):es.size=ss.length:=by
 have:=strs_len H.str_
 simpa using this
theorem strs_at:∀ {vs:List Value} {ss:List Str},StrsAre vs ss->∀ (i:Nat) v,vs[i]?=some v->∃ x t,ss[i]?=some x/\v=.str x t
 | _,_,.nil,i,v,h=>by simp at h
 | _,_,.cons s u h,i,v,hv=>by
  cases i with
  | zero=>cases hv;exact ⟨s,u,rfl,rfl⟩
  | succ i=>exact strs_at h i v (by simpa using hv)
theorem plainSul:plainId "set.update.loop" = true:=by decide +kernel
section
variable {P:Program} {w:World} {B:Around} {R:Result->Shared->Prop} {I a:Addr} {fp wr:List Addr} {n:Nat} {Pi:Nat->Value->Prop} {St:Nat->Heap->Prop}
theorem set_loop (W:PySem.Walks P w B.in1 I fp wr n Pi St) (xs:List Str) (hv:∀ i v,Pi i v->∃ x t,xs[i]?=some x/\v=.str x t) (ha:a∉fp) (hn:n=xs.length) (hn100:n<=100) :
  ∀ (k j:Nat) (st:Shared) (ss:List Str) (o:Obj) (es:Array (Int × Value)) (ep:Nat) (t:SetTable),n - j=k->j<=n->St j st.heap->SetS P w st.heap a ss o es ep t->ss.length<=j->ss.Nodup->(∀ y,y∈ss ↔ y∈xs.take j) ->
  (∀ g tk ss' o' es' ep' t',SetS P w g a ss' o' es' ep' t'->ss'.Nodup->ss'.length<=n->(∀ y,y∈ss' ↔ y∈xs)->(∀ b o,b∉wr->b≠a->st.heap.get? b=some o->g.get? b=some o)->R (.ok (.ret .none)) { st with heap:=g,toks:=tk }) ->
  codeAny (model P w) B (.builtin "set.update.loop" ⟨[.ref a,.ref I],[]⟩) R st:=by
 have off:a∉wr:=fun h=>ha (W.sub _ h)
 intro k
 induction k with
 | zero =>
  intro j st ss o es ep t hk hj hst hS hl hnd hm q
  have e:j=n:=by omega
  subst e
  refine codeAny_builtin PyProof.Rows.F.entry_set_update_loop ?_
  rw [Around.under_plainId plainSul _]
  show wpAny _ B.in1 (pyNext (.ref I) >>= _) _ _ st
  refine wpAny_bind (W.done st _ _ hst fun g tk hg=>?_)
  refine wpAny_pure ?_
  refine q g tk ss o es ep t (hS.keep fun o e=>hg a o off e) hnd hl (fun y=>by rw [hm y,hn,List.take_length]) fun b o hb _ e=>hg b o hb e
 | succ k ih =>
  intro j st ss o es ep t hk hj hst hS hl hnd hm q
  have lt:j < n:=by omega
  refine codeAny_builtin PyProof.Rows.F.entry_set_update_loop ?_
  rw [Around.under_plainId plainSul _]
  show wpAny _ B.in1 (pyNext (.ref I) >>= _) _ _ st
  refine wpAny_bind (W.item j st _ _ lt hst fun v g tk hP hst' hg=>?_)
  obtain ⟨x,tok,hx,rfl⟩:=hv j v hP
  have hS':=hS.keep (h':=g) fun o e=>hg a o off e
  show wpAny _ B.in1 (holding [_] (setAdd a _) >>= _) _ _ _
  refine wpAny_bind (wpAny_holding (set_add hS' (by rw [hS.size];omega) fun b g2 tk2 ss2 o2 es2 ep2 t2 hS2 k2 hc=>?_))
  have htk:xs.take (j+1)=xs.take j++[x]:=by rw [List.take_add_one,hx];rfl
  have h1:ss2.length<=j+1/\ss2.Nodup/\∀ y,y∈ss2 ↔ y∈xs.take (j+1):=by
   rcases hc with ⟨hin,rfl⟩ | ⟨hno,hp⟩
   ·refine ⟨by omega,hnd,fun y=>?_⟩
    rw [hm y,htk,List.mem_append,List.mem_singleton]
    constructor
    ·exact .inl
    ·rintro (z | rfl)
     ·exact z
     ·exact (hm y).mp hin
   ·refine ⟨by rw [hp.length_eq,List.length_append];show _+1<=_;omega,hp.nodup_iff.mpr ?_,fun y=>?_⟩
    ·rw [List.nodup_append]
     exact ⟨hnd,by simp,fun a ha b hb=>by rw [List.mem_singleton.mp hb];exact fun z=>hno (by rw [<- z];exact ha)⟩
    ·rw [hp.mem_iff,htk,List.mem_append,List.mem_append,hm y]
  refine wpAny_pure ⟨plainId_quiet plainSul _,ih (j+1) _ ss2 o2 es2 ep2 t2 (by omega) lt (W.frame _ _ _ hst' fun b hb o y=>k2 b o (fun z=>ha (by rw [<- z];exact hb)) y) hS2 h1.1 h1.2.1 h1.2.2 fun g3 tk3 ss3 o3 es3 ep3 t3 hS3 a1 a2 a3 k3=>q g3 tk3 ss3 o3 es3 ep3 t3 hS3 a1 a2 a3 fun b o hb hba e=>k3 b o hb hba (k2 b o hba (hg b o hb e))⟩
end
section
variable {P:Program} {w:World} {A:Around} {E:Value->Shared->Prop} {s:Shared}
theorem call_setC {l:Addr} {tc:String} (hc:tc = "tuple" \/ tc = "list") {its:List Value} {n:Nat} {xs:List Str} {Q:Value->Shared->Prop} (hh:A.handled=none) (e:∃ o,s.heap.get? l=some o/\o.cls=.type tc/\o.data=.seq its.toArray n) (hx:StrsAre its xs) (hz:xs.length<=100)
  (q:∀ g tk ss o es ep t,SetS P w g s.heap.objs.size ss o es ep t->ss.Nodup->ss.length<=100->(∀ y,y∈ss ↔ y∈xs)->(∀ b o,s.heap.get? b=some o->g.get? b=some o)->Q (.ref s.heap.objs.size) { s with heap:=g,toks:=tk }) :
  wpAny (model P w) A (call (.type "set") [.ref l]) Q E s:=by
 obtain ⟨ol,el,cl,dl⟩:=e
 refine wpAny_call (codeAny_of_tree (wpAny_pure ⟨Code.quiet_builtin _ (by decide +kernel),codeAny_builtin PySem.F.entry_type_call ?_⟩))
 rw [Around.under_plain (weight_type_call_type _ _ _) rfl]
 unfold Builtin.«type.__call__»
 dsimp only
 refine wpAny_ite_false (by rw [PySem.F.called_set.notType];rfl) ?_
 refine wpAny_ite_false (by rw [PySem.F.called_set.canCreate];rfl) ?_
 refine wpAny_bind (wpAny_of_eq (PySem.F.typeCall_set_1 _) ?_)
 obtain ⟨c,tl,hm⟩:=PySem.F.called_set.mro
 refine wpAny_bind (wpAny_of_eq hm ?_)
 refine wpAny_ite_false rfl ?_
 refine wpAny_bind (wpAny_of_eq PySem.F.called_set.made ?_)
 refine wpAny_bind (wpAny_pure ?_)
 refine wpAny_bind (wpAny_holding (wpAny_call (code_set_newL (Q₁:=_) (E:=_) _ ?_)))
 have ed:(s.heap.push { cls:=.type "set",data:=.set #[] 0 (SetTable.fresh 0 0 (!BT w)) }).get? s.heap.objs.size=some { cls:=.type "set",data:=.set #[] 0 (SetTable.fresh 0 0 (!BT w)) }:=Heap.get?_push_size _ rfl
 have el':(s.heap.push { cls:=.type "set",data:=.set #[] 0 (SetTable.fresh 0 0 (!BT w)) }).get? l=some ol:=Heap.get?_push_of_some _ el
 have S0:SetS P w (s.heap.push { cls:=.type "set",data:=.set #[] 0 (SetTable.fresh 0 0 (!BT w)) }) s.heap.objs.size [] { cls:=.type "set",data:=.set #[] 0 (SetTable.fresh 0 0 (!BT w)) } #[] 0 (SetTable.fresh 0 0 (!BT w)) :=
  ⟨ed,⟨rfl,rfl,rfl⟩,rfl,rfl,fun e he=>by simp at he,.nil,.inr rfl,fun z=>by show (!BT w)=true;rw [z];rfl⟩
 refine wpAny_bind (wpAny_isInstance (T := "set") ⟨_,ed,rfl⟩ PySem.F.called_set.sub ?_)
 refine wpAny_ite_false rfl ?_
 refine wpAny_bind (wpAny_holding (wpAny_callSpecial?_slot (T := "set") ⟨_,ed,rfl⟩ PySem.F.called_set.init ?_))
 refine wpAny_call (codeAny_call_builtin PySem.F.called_set.init.plain PySem.F.entry_set_init (check_set_init_1 ⟨_,ed,rfl⟩ ?_))
 show wpAny _ A.in1.in1 (noKeywords "set" _ >>= _) _ _ _
 refine wpAny_bind (wpAny_pure ?_)
 show wpAny _ A.in1.in1 (typeNameOfCut 200 (.ref s.heap.objs.size) >>= _) _ _ _
 refine wpAny_bind ?_
 show wpAny _ A.in1.in1 ((typeOf (.ref s.heap.objs.size) >>= _) >>= _) _ _ _
 refine wpAny_bind (wpAny_bind (wpAny_typeOf_ref ed ?_))
 refine wpAny_ite_false (show decide ((Value.type "set" == Value.type "builtin_function_or_method")=true)=false by decide) ?_
 refine wpAny_pure ?_
 show wpAny _ A.in1.in1 (typeName (.type "set")) _ _ _
 refine wpAny_of_eq (show typeName (.type "set")=pure "set" from by kernel_rfl) ?_
 show wpAny _ A.in1.in1 (checkCount "set" 0 1 1 >>= _) _ _ _
 refine wpAny_bind (wpAny_of_eq (show checkCount "set" 0 1 1=pure () from by kernel_rfl) ?_)
 refine wpAny_bind (wpAny_pure ?_)
 show wpAny _ A.in1.in1 ((setState s.heap.objs.size >>= _) >>= _) _ _ _
 refine wpAny_bind (wpAny_bind (wpAny_setState_of S0.at_ S0.dat S0.fit (wpAny_pure ?_)))
 refine wpAny_ite_false rfl ?_
 refine wpAny_bind ?_
 show wpAny _ A.in1.in1 (Builtin.Frozenset.isAnySet (.ref l) >>= _) _ _ _
 refine wpAny_bind ?_
 show wpAny _ A.in1.in1 (isInstance (.ref l) (.type "set") >>= _) _ _ _
 refine wpAny_bind (wpAny_isInstance (T:=tc) ⟨ol,el',cl⟩ (show isSubtype (.type tc) (.type "set")=pure false from by rcases hc with rfl | rfl<;>kernel_rfl) ?_)
 show wpAny _ A.in1.in1 (isInstance (.ref l) (.type "frozenset")) _ _ _
 refine wpAny_isInstance (T:=tc) ⟨ol,el',cl⟩ (show isSubtype (.type tc) (.type "frozenset")=pure false from by rcases hc with rfl | rfl<;>kernel_rfl) ?_
 refine wpAny_ite_false rfl ?_
 refine wpAny_bind (wpAny_typeOf_ref el' ?_)
 rw [cl]
 refine wpAny_ite_false (by rcases hc with rfl | rfl<;>decide) ?_
 have ltA:l < (s.heap.push { cls:=.type "set",data:=.set #[] 0 (SetTable.fresh 0 0 (!BT w)) }).objs.size:=Heap.lt_size el'
 have ltD:s.heap.objs.size < (s.heap.push { cls:=.type "set",data:=.set #[] 0 (SetTable.fresh 0 0 (!BT w)) }).objs.size:=Heap.lt_size ed
 rcases hc with rfl | rfl
 case' inl =>
  refine wpAny_bind (wpAny_pyIter_tuple ⟨ol,el',cl,n,dl⟩ ?_)
  have W:=PySem.Walks.tuple (prog:=P) (w:=w) (A:=A.in1.in1.in1) hh (s.heap.push { cls:=.type "set",data:=.set #[] 0 (SetTable.fresh 0 0 (!BT w)) }).objs.size l (Nat.ne_of_lt ltA) its.toArray
 case' inr =>
  refine wpAny_bind (wpAny_pyIter_list ⟨ol,el',cl,n,dl⟩ ?_)
  have W:=PySem.Walks.list (prog:=P) (w:=w) (A:=A.in1.in1.in1) hh (s.heap.push { cls:=.type "set",data:=.set #[] 0 (SetTable.fresh 0 0 (!BT w)) }).objs.size l (Nat.ne_of_lt ltA) its.toArray
 all_goals
  refine wpAny_bind (wpAny_runValue ?_)
  have hlen:its.toArray.size=xs.length:=by rw [List.size_toArray];exact strs_len hx
  refine set_loop W xs (fun i v hv=>?_) (fun z=>?_) hlen (by rw [hlen];exact hz) _ 0 _ [] _ #[] 0 _ rfl (Nat.zero_le _) ⟨⟨_,Heap.get?_push_size _ rfl,rfl,rfl⟩,⟨ol,Heap.get?_push_of_some _ el',cl,n,dl⟩⟩ (S0.keep fun o e=>Heap.get?_push_of_some _ e) (Nat.zero_le _) List.nodup_nil (fun y=>by simp) fun g tk ss o es ep t hS a1 a2 a3 kp=>?_
  ·obtain ⟨x,t,h1,h2⟩:=strs_at hx i v (by simpa using hv)
   exact ⟨x,t,h1,h2⟩
  ·rcases List.mem_cons.mp z with z | z
   ·exact absurd z (Nat.ne_of_lt ltD)
   ·exact absurd (List.mem_singleton.mp z) (Nat.ne_of_gt (Heap.lt_size el))
  ·refine wpAny_pure (wpAny_pure ?_)
   refine wpAny_ite_false rfl ?_
   refine wpAny_pure (q g tk ss o es ep t hS a1 (by rw [hlen] at a2;omega) a3 fun b o e=>kp b o (fun z=>?_) (Nat.ne_of_lt (Heap.lt_size e)) (Heap.get?_push_of_some _ (Heap.get?_push_of_some _ e)))
   have h1:=List.mem_singleton.mp z
   have h2:=Heap.lt_size e
   rw [h1] at h2
   exact absurd (Nat.lt_trans ltD h2) (Nat.lt_irrefl _)
end
theorem lkSI:typeLookup (.type "set_iterator") (Str.ofString "__next__")=pure (some (.builtin "set_iterator.__next__")):=by
 rw [typeLookup_type,builtinLookup_eq_fast]
 kernel_rfl
theorem subSI:isSubtype (.type "set_iterator") (.type "set_iterator")=pure true:=by
 rw [isSubtype_type]
 kernel_rfl
theorem slotSI:Slot "set_iterator" (Str.ofString "__next__") "set_iterator.__next__" := Slot.of (owner := "set_iterator") (n := "__next__") lkSI (by kernel_rfl) (by decide +kernel) (by decide +kernel) (.inl (by decide +kernel)) subSI (by decide +kernel)
theorem entrySI:entryFor table "set_iterator.__next__" = some Builtin.«set_iterator.__next__»:=entryFor_of_tree (by kernel_rfl)
theorem entrySet:entryFor table "set.__iter__" = some Builtin.«frozenset.__iter__»:=entryFor_alias (id' := "frozenset.__iter__") (by kernel_rfl) rfl (by decide +kernel) (by kernel_rfl)
theorem argsSI (a:Value):argsOk "set_iterator.__next__" ⟨[a],[]⟩:=by unfold argsOk;kernel_rfl
theorem lkSJ:typeLookup (.type "set_iterator") (Str.ofString "__iter__")=pure (some (.builtin "set_iterator.__iter__")):=by
 rw [typeLookup_type,builtinLookup_eq_fast]
 kernel_rfl
theorem slotSJ:Slot "set_iterator" (Str.ofString "__iter__") "set_iterator.__iter__" := Slot.of (owner := "set_iterator") (n := "__iter__") lkSJ (by kernel_rfl) (by decide +kernel) (by decide +kernel) (.inl (by decide +kernel)) subSI (by decide +kernel)
theorem entrySJ:entryFor table "set_iterator.__iter__" = some Builtin.«dict_keyiterator.__iter__»:=entryFor_alias (id' := "dict_keyiterator.__iter__") (by kernel_rfl) rfl (by decide +kernel) (by kernel_rfl)
theorem argsSJ (a:Value):argsOk "set_iterator.__iter__" ⟨[a],[]⟩:=by unfold argsOk;kernel_rfl
section
variable {P:Program} {w:World} {A:Around} {E:Value->Shared->Prop}
theorem erase_perm {α:Type} {l:List α} {i:Nat} {x:α} (h:l[i]?=some x):(x :: l.eraseIdx i).Perm l:=by
 obtain ⟨hk,he⟩:=List.getElem?_eq_some_iff.mp h
 have e:l=l.take i++x :: l.drop (i+1):=by
  conv=>lhs;rw [<- List.take_append_drop i l]
  congr 1
  rw [List.drop_eq_getElem_cons hk,he]
 rw [List.eraseIdx_eq_take_drop_succ]
 conv=>rhs;rw [e]
 exact (List.perm_middle).symm
theorem wp_choose {s:Shared} {src:Source} {n:Nat} {Q:Nat->Shared->Prop} (hn:n≠0) (q:∀ i dr,i < n->Q i { s with drawn:=dr }):wpAny (model P w) A (choose src n) Q E s:=by
 intro Γ p hΓ
 unfold choose
 rw [Sem.wp_choose]
 refine ⟨hn,?_⟩
 exact q _ _ (Nat.mod_lt _ (Nat.pos_of_ne_zero hn))
theorem wp_drawOrder:∀ (n:Nat) {s:Shared} {xs:List Nat} {Q:List Nat->Shared->Prop},xs.length=n->(∀ ys dr,ys.Perm xs->Q ys { s with drawn:=dr })->wpAny (model P w) A (drawOrder n xs) Q E s
 | 0,s,xs,Q,h,q=>by
  rw [drawOrder.eq_def]
  have:xs=[]:=List.length_eq_zero_iff.mp h
  subst this
  exact wpAny_pure (q [] s.drawn .nil)
 | n+1,s,[],Q,h,q=>by cases h
 | n+1,s,x :: xs,Q,h,q=>by
  rw [drawOrder.eq_def]
  refine wpAny_bind (wp_choose (by simp) fun i dr hi=>?_)
  have hg:(x :: xs)[i]?=some ((x :: xs)[i]):=List.getElem?_eq_getElem hi
  simp only [hg]
  refine wpAny_bind (wp_drawOrder n (by rw [List.length_eraseIdx,if_pos hi,h];rfl) fun ys dr2 hp=>wpAny_pure (q _ dr2 ?_))
  exact (hp.cons _).trans (erase_perm hg)
theorem pick_go {α:Type} (next:Nat->Nat):∀ (fuel k:Nat) (left:List α) (out:Array α),left.length=fuel->(pickOrder.go next fuel k left out).toList.Perm (out.toList++left)
 | 0,k,left,out,h=>by
  rw [pickOrder.go.eq_def]
  have:left=[]:=List.length_eq_zero_iff.mp h
  subst this
  simp
 | fuel+1,k,left,out,h=>by
  rw [pickOrder.go.eq_def]
  have hi:next k % left.length < left.length:=Nat.mod_lt _ (by omega)
  have hg:left[next k % left.length]?=some (left[next k % left.length]):=List.getElem?_eq_getElem hi
  simp only [hg]
  refine (pick_go next fuel (k+1) _ _ (by rw [List.length_eraseIdx,if_pos hi,h];rfl)).trans ?_
  rw [Array.toList_push,List.append_assoc]
  exact (erase_perm hg).append_left _
theorem pick_perm {α:Type} (next:Nat->Nat) (xs:Array α):(pickOrder next xs).toList.Perm xs.toList:=by
 unfold pickOrder
 exact (pick_go next xs.size 0 xs.toList #[] (by simp)).trans (by simp)
end
def siO (first:Value) (i:Nat) (a:Addr) (n ep:Nat):Obj:={ cls:=.type "set_iterator",data:=.fields #[first,.int i 0,.ref a,.int n 0,.int ep 0] }
section
variable {P:Program} {w:World} {A:Around} {E:Value->Shared->Prop} {s:Shared} {I a tp:Addr} {ss:List Str} {o:Obj} {es:Array (Int × Value)} {ep:Nat} {t:SetTable} {Q:Option Value->Shared->Prop}
theorem next_drawn {ord:List Nat} {i m p:Nat} {e:Int × Value} (hI:s.heap.get? I=some (siO (.ref tp) i a es.size ep)) (htp:s.heap.get? tp=some { cls:=.type "tuple",data:=.seq (ord.map fun k:Nat=>rawInt (k:Int)).toArray m }) (hS:SetS P w s.heap a ss o es ep t) (hp:ord[i]?=some p) (he:es[p]?=some e)
  (q:∀ h',h'.get? I=some (siO (.ref tp) (i+1) a es.size ep)->(∀ b o,b≠I->s.heap.get? b=some o->h'.get? b=some o)->Q (some e.2) { s with heap:=h' }):wpAny (model P w) A (pyNext (.ref I)) Q E s:=by
 have hT:s.TypeIs (.ref I) "set_iterator" := ⟨_,hI,rfl⟩
 unfold pyNext
 refine wpAny_bind (wpAny_attempt (wpAny_callSpecial?_slot (T := "set_iterator") (name:=Str.ofString "__next__") hT slotSI (wpAny_call_entry slotSI hT entrySI ?_ (argsSI _))))
 show wpAny _ _ (slotArgs "__next__" 0 _ >>= _) _ _ s
 refine wpAny_bind (wpAny_pure ?_)
 show wpAny _ _ (fieldsOf (.ref I) >>= _) _ _ s
 refine wpAny_bind (wpAny_fieldsOf hI rfl ?_)
 dsimp only
 refine wpAny_bind (wpAny_bind (wpAny_setState_of hS.at_ hS.dat hS.fit (wpAny_pure ?_)))
 refine wpAny_ite_false (by simp) ?_
 refine wpAny_bind (wpAny_seqItems htp rfl ?_)
 have hx:((ord.map fun k:Nat=>rawInt (k:Int)).toArray)[(i:Int).toNat]?=some (.int (p:Int) 0):=by
  rw [Int.toNat_natCast,List.getElem?_toArray,List.getElem?_map,hp];rfl
 simp only [hx]
 refine wpAny_bind ?_
 show wpAny _ _ (setState a >>= _) _ _ _
 refine wpAny_bind (wpAny_setState_of hS.at_ hS.dat hS.fit ?_)
 refine wpAny_ite_false (by simp) ?_
 simp only [Int.toNat_natCast,he]
 refine wpAny_pure ?_
 refine wpAny_bind (wpAny_setField hI rfl (by simp) (wpAny_pure ⟨e.2,rfl,wpAny_pure (q _ ?_ fun b o hb z=>(Heap.get?_update_other _ _ (Ne.symm hb)).trans z)⟩))
 refine (Heap.get?_update_self _ hI rfl).trans ?_
 rfl
theorem isStop {s:Shared} {e:Addr} {Q:Option Value->Shared->Prop} (h:∃ o,s.heap.get? e=some o/\o.cls=.type "StopIteration") (q:Q none s):wpAny (model P w) A (isInstance (.ref e) (.type "StopIteration") >>= fun b=>if b=true then pure none else throw (.ref e)) Q E s:=by
 obtain ⟨o,h1,h2⟩:=h
 exact wpAny_bind (wpAny_isInstance (T := "StopIteration") ⟨o,h1,h2⟩ (show isSubtype (.type "StopIteration") (.type "StopIteration")=pure true from by kernel_rfl) (wpAny_pure q))
theorem stop_end {R:PySem.Fin->Shared->Prop} {Z:Value->Shared->Prop} {j:Nat} {vs:Array Value} {oI:Obj} (hh:A.handled=none) (hI:s.heap.get? I=some oI) (hd:oI.data=.fields vs) (hj:j < vs.size) (q:∀ g e,(∀ b o,b≠I->s.heap.get? b=some o->g.get? b=some o)->(∃ o,g.get? e=some o/\o.cls=.type "StopIteration")->Z (.ref e) { s with heap:=g }) :
  wpAny (model P w) A (setField (.ref I) j .none >>= fun _=>newExc (.type "StopIteration") [] >>= fun e=>raiseNew e) R Z s:=by
 refine wpAny_bind (wpAny_setField hI hd hj ?_)
 refine wpAny_bind ?_
 simp only [newExc,newTuple]
 refine wpAny_bind (wpAny_newObj_type (wpAny_bind (m:=firstArgMember _ _) (wpAny_of_eq (a:=Value.none) (by first | rfl | (simp only [firstArgMember];rfl)) (wpAny_newObj_type ?_ (by size_fits)))) (by size_fits))
 simp only [raiseNew]
 refine wpAny_bind (wpAny_handled ?_)
 rw [hh]
 refine wpAny_bind (wpAny_pure (wpAny_throw (q _ _ (fun b o hb z=>?_) ⟨_,Heap.get?_push_size _ rfl,rfl⟩)))
 exact Heap.get?_push_of_some _ (Heap.get?_push_of_some _ ((Heap.get?_update_other _ _ (Ne.symm hb)).trans z))
theorem end_drawn {ord:List Nat} {i m:Nat} (hh:A.handled=none) (hI:s.heap.get? I=some (siO (.ref tp) i a es.size ep)) (htp:s.heap.get? tp=some { cls:=.type "tuple",data:=.seq (ord.map fun k:Nat=>rawInt (k:Int)).toArray m }) (hS:SetS P w s.heap a ss o es ep t) (hp:ord[i]?=none)
  (q:∀ h',(∀ b o,b≠I->s.heap.get? b=some o->h'.get? b=some o)->Q none { s with heap:=h' }):wpAny (model P w) A (pyNext (.ref I)) Q E s:=by
 have hT:s.TypeIs (.ref I) "set_iterator" := ⟨_,hI,rfl⟩
 unfold pyNext
 refine wpAny_bind (wpAny_attempt (wpAny_callSpecial?_slot (T := "set_iterator") (name:=Str.ofString "__next__") hT slotSI (wpAny_call_entry slotSI hT entrySI ?_ (argsSI _))))
 show wpAny _ _ (slotArgs "__next__" 0 _ >>= _) _ _ s
 refine wpAny_bind (wpAny_pure ?_)
 show wpAny _ _ (fieldsOf (.ref I) >>= _) _ _ s
 refine wpAny_bind (wpAny_fieldsOf hI rfl ?_)
 dsimp only
 refine wpAny_bind (wpAny_bind (wpAny_setState_of hS.at_ hS.dat hS.fit (wpAny_pure ?_)))
 refine wpAny_ite_false (by simp) ?_
 refine wpAny_bind (wpAny_seqItems htp rfl ?_)
 have hx:((ord.map fun k:Nat=>rawInt (k:Int)).toArray)[(i:Int).toNat]?=none:=by
  rw [Int.toNat_natCast,List.getElem?_toArray,List.getElem?_map,hp];rfl
 simp only [hx]
 refine wpAny_bind (wpAny_setField hI rfl (by simp) ?_)
 have hI2:=Heap.get?_update_self (h:=s.heap) (a:=I) (f:=Obj.mapFields fun x_1=>x_1.setIfInBounds 0 (rawInt 0)) hI rfl
 refine stop_end (s:={ s with heap:=s.heap.update I (Obj.mapFields fun x_1=>x_1.setIfInBounds 0 (rawInt 0)) }) hh hI2 rfl (by simp) fun g e k h=>?_
 refine isStop h (q g fun b o hb z=>k b o hb ((Heap.get?_update_other _ _ (Ne.symm hb)).trans z))
theorem next_text {i:Nat} {e:Int × Value} (hb:BT w=true) (hI:s.heap.get? I=some (siO (.int 0 0) i a es.size ep)) (hS:SetS P w s.heap a ss o es ep t) (he:(pickOrder (w.params.setOrder a ep) es)[i]?=some e)
  (q:∀ h',h'.get? I=some (siO (.int 0 0) (i+1) a es.size ep)->(∀ b o,b≠I->s.heap.get? b=some o->h'.get? b=some o)->Q (some e.2) { s with heap:=h' }):wpAny (model P w) A (pyNext (.ref I)) Q E s:=by
 have hT:s.TypeIs (.ref I) "set_iterator" := ⟨_,hI,rfl⟩
 unfold pyNext
 refine wpAny_bind (wpAny_attempt (wpAny_callSpecial?_slot (T := "set_iterator") (name:=Str.ofString "__next__") hT slotSI (wpAny_call_entry slotSI hT entrySI ?_ (argsSI _))))
 show wpAny _ _ (slotArgs "__next__" 0 _ >>= _) _ _ s
 refine wpAny_bind (wpAny_pure ?_)
 show wpAny _ _ (fieldsOf (.ref I) >>= _) _ _ s
 refine wpAny_bind (wpAny_fieldsOf hI rfl ?_)
 dsimp only
 refine wpAny_bind (wpAny_bind (wpAny_setState_of hS.at_ hS.dat hS.fit (wpAny_pure ?_)))
 refine wpAny_ite_false (by simp) ?_
 refine wpAny_bind ?_
 show wpAny _ _ (setState a >>= _) _ _ _
 refine wpAny_bind (wpAny_setState_of hS.at_ hS.dat hS.fit ?_)
 refine wpAny_bind (wp_byText ?_)
 rw [if_pos hb]
 refine wpAny_ite_false (by simp) ?_
 refine wpAny_bind ?_
 show wpAny _ _ (setState a >>= _) _ _ _
 refine wpAny_bind (wpAny_setState_of hS.at_ hS.dat hS.fit ?_)
 refine wpAny_bind (wp_byText ?_)
 rw [if_pos hb]
 refine wpAny_bind (wpAny_askSetting (wpAny_pure ?_))
 refine wpAny_pure ?_
 have he':(pickOrder ((model P w).w.params.setOrder a ep) es)[(i:Int).toNat]?=some e:=by rw [Int.toNat_natCast];exact he
 simp only [he',Option.map_some]
 refine wpAny_bind (wpAny_setField hI rfl (by simp) ?_)
 have hI2:=Heap.get?_update_self (h:=s.heap) (a:=I) (f:=Obj.mapFields fun x_1=>x_1.setIfInBounds 0 (rawInt ↑(Int.toNat 0))) hI rfl
 refine wpAny_bind (wpAny_setField hI2 rfl (by simp) (wpAny_pure ⟨e.2,rfl,wpAny_pure (q _ ?_ fun b o hb z=>(Heap.get?_update_other _ _ (Ne.symm hb)).trans ((Heap.get?_update_other _ _ (Ne.symm hb)).trans z))⟩))
 refine (Heap.get?_update_self _ hI2 rfl).trans ?_
 rfl
theorem end_text {i:Nat} (hh:A.handled=none) (hb:BT w=true) (hI:s.heap.get? I=some (siO (.int 0 0) i a es.size ep)) (hS:SetS P w s.heap a ss o es ep t) (he:(pickOrder (w.params.setOrder a ep) es)[i]?=none)
  (q:∀ h',(∀ b o,b≠I->s.heap.get? b=some o->h'.get? b=some o)->Q none { s with heap:=h' }):wpAny (model P w) A (pyNext (.ref I)) Q E s:=by
 have hT:s.TypeIs (.ref I) "set_iterator" := ⟨_,hI,rfl⟩
 unfold pyNext
 refine wpAny_bind (wpAny_attempt (wpAny_callSpecial?_slot (T := "set_iterator") (name:=Str.ofString "__next__") hT slotSI (wpAny_call_entry slotSI hT entrySI ?_ (argsSI _))))
 show wpAny _ _ (slotArgs "__next__" 0 _ >>= _) _ _ s
 refine wpAny_bind (wpAny_pure ?_)
 show wpAny _ _ (fieldsOf (.ref I) >>= _) _ _ s
 refine wpAny_bind (wpAny_fieldsOf hI rfl ?_)
 dsimp only
 refine wpAny_bind (wpAny_bind (wpAny_setState_of hS.at_ hS.dat hS.fit (wpAny_pure ?_)))
 refine wpAny_ite_false (by simp) ?_
 refine wpAny_bind ?_
 show wpAny _ _ (setState a >>= _) _ _ _
 refine wpAny_bind (wpAny_setState_of hS.at_ hS.dat hS.fit ?_)
 refine wpAny_bind (wp_byText ?_)
 rw [if_pos hb]
 refine wpAny_ite_false (by simp) ?_
 refine wpAny_bind ?_
 show wpAny _ _ (setState a >>= _) _ _ _
 refine wpAny_bind (wpAny_setState_of hS.at_ hS.dat hS.fit ?_)
 refine wpAny_bind (wp_byText ?_)
 rw [if_pos hb]
 refine wpAny_bind (wpAny_askSetting (wpAny_pure ?_))
 refine wpAny_pure ?_
 have he':(pickOrder ((model P w).w.params.setOrder a ep) es)[(i:Int).toNat]?=none:=by rw [Int.toNat_natCast];exact he
 simp only [he',Option.map_none]
 exact stop_end hh hI rfl (by simp) fun g e k h=>isStop h (q g k)
theorem next_one {i:Nat} {e:Int × Value} {j:Nat} {sl:Nat} (hb:BT w=false) (h1:es.size<=1) (hI:s.heap.get? I=some (siO (rawInt (sl:Nat)) i a es.size ep)) (hS:SetS P w s.heap a ss o es ep t) (hw:SetTable.below t.place sl=0) (he:es[0]?=some e) (hj:t.place[0]?=some j)
  (q:∀ h',h'.get? I=some (siO (rawInt ((j+1:Nat):Int)) (i+1) a es.size ep)->(∀ b o,b≠I->s.heap.get? b=some o->h'.get? b=some o)->Q (some e.2) { s with heap:=h' }):wpAny (model P w) A (pyNext (.ref I)) Q E s:=by
 have hT:s.TypeIs (.ref I) "set_iterator" := ⟨_,hI,rfl⟩
 have hled:=hS.led hb
 unfold pyNext
 refine wpAny_bind (wpAny_attempt (wpAny_callSpecial?_slot (T := "set_iterator") (name:=Str.ofString "__next__") hT slotSI (wpAny_call_entry slotSI hT entrySI ?_ (argsSI _))))
 show wpAny _ _ (slotArgs "__next__" 0 _ >>= _) _ _ s
 refine wpAny_bind (wpAny_pure ?_)
 show wpAny _ _ (fieldsOf (.ref I) >>= _) _ _ s
 refine wpAny_bind (wpAny_fieldsOf hI rfl ?_)
 dsimp only
 refine wpAny_bind (wpAny_bind (wpAny_setState_of hS.at_ hS.dat hS.fit (wpAny_pure ?_)))
 refine wpAny_ite_false (by simp) ?_
 refine wpAny_bind ?_
 show wpAny _ _ (setState a >>= _) _ _ _
 refine wpAny_bind (wpAny_setState_of hS.at_ hS.dat hS.fit ?_)
 refine wpAny_bind (wp_byText ?_)
 rw [if_neg (by rw [hb];decide)]
 show wpAny _ _ (if (!t.plain && decide (es.size > 1))=true then _ else _) _ _ _
 rw [if_neg (by rw [decide_eq_false (by omega)];simp)]
 refine wpAny_bind ?_
 show wpAny _ _ (if (!t.led && !es.isEmpty)=true then _ else _) _ _ _
 rw [if_neg (by rw [hled];simp)]
 refine wpAny_pure ?_
 refine wpAny_pure ?_
 rw [Int.toNat_natCast,hw]
 simp only [he,hj]
 refine wpAny_bind (wpAny_setField hI rfl (by simp) ?_)
 have hI2:=Heap.get?_update_self (h:=s.heap) (a:=I) (f:=Obj.mapFields fun x_1=>x_1.setIfInBounds 0 (rawInt ((j+1:Nat):Int))) hI rfl
 refine wpAny_bind (wpAny_setField hI2 rfl (by simp) (wpAny_pure ⟨e.2,rfl,wpAny_pure (q _ ?_ fun b o hb z=>(Heap.get?_update_other _ _ (Ne.symm hb)).trans ((Heap.get?_update_other _ _ (Ne.symm hb)).trans z))⟩))
 refine (Heap.get?_update_self _ hI2 rfl).trans ?_
 rfl
theorem end_one {i:Nat} {sl:Nat} (hh:A.handled=none) (hb:BT w=false) (h1:es.size<=1) (hI:s.heap.get? I=some (siO (rawInt (sl:Nat)) i a es.size ep)) (hS:SetS P w s.heap a ss o es ep t) (he:es[SetTable.below t.place sl]?=none)
  (q:∀ h',(∀ b o,b≠I->s.heap.get? b=some o->h'.get? b=some o)->Q none { s with heap:=h' }):wpAny (model P w) A (pyNext (.ref I)) Q E s:=by
 have hT:s.TypeIs (.ref I) "set_iterator" := ⟨_,hI,rfl⟩
 have hled:=hS.led hb
 unfold pyNext
 refine wpAny_bind (wpAny_attempt (wpAny_callSpecial?_slot (T := "set_iterator") (name:=Str.ofString "__next__") hT slotSI (wpAny_call_entry slotSI hT entrySI ?_ (argsSI _))))
 show wpAny _ _ (slotArgs "__next__" 0 _ >>= _) _ _ s
 refine wpAny_bind (wpAny_pure ?_)
 show wpAny _ _ (fieldsOf (.ref I) >>= _) _ _ s
 refine wpAny_bind (wpAny_fieldsOf hI rfl ?_)
 dsimp only
 refine wpAny_bind (wpAny_bind (wpAny_setState_of hS.at_ hS.dat hS.fit (wpAny_pure ?_)))
 refine wpAny_ite_false (by simp) ?_
 refine wpAny_bind ?_
 show wpAny _ _ (setState a >>= _) _ _ _
 refine wpAny_bind (wpAny_setState_of hS.at_ hS.dat hS.fit ?_)
 refine wpAny_bind (wp_byText ?_)
 rw [if_neg (by rw [hb];decide)]
 show wpAny _ _ (if (!t.plain && decide (es.size > 1))=true then _ else _) _ _ _
 rw [if_neg (by rw [decide_eq_false (by omega)];simp)]
 refine wpAny_bind ?_
 show wpAny _ _ (if (!t.led && !es.isEmpty)=true then _ else _) _ _ _
 rw [if_neg (by rw [hled];simp)]
 refine wpAny_pure ?_
 refine wpAny_pure ?_
 rw [Int.toNat_natCast]
 simp only [he]
 exact stop_end hh hI rfl (by simp) fun g e k h=>isStop h (q g k)
end
section
variable {P:Program} {w:World} {A:Around} {I a tp:Addr} {ss:List Str} {o:Obj} {es:Array (Int × Value)} {ep:Nat} {t:SetTable}
theorem iter_self {s:Shared} {Q E:Value->Shared->Prop} (hT:s.TypeIs (.ref I) "set_iterator") (q:Q (.ref I) s):wpAny (model P w) A (pyIter (.ref I)) Q E s :=
 wpAny_pyIter_slot hT slotSJ (wpAny_call_entry slotSJ hT entrySJ (wpAny_pure ⟨.ref I,rfl, "set_iterator",.builtin "set_iterator.__next__",hT,lkSI,q⟩) (argsSJ _))
theorem walks_drawn (hh:A.handled=none) {ord:List Nat} {m:Nat} (hia:a≠I) (hit:tp≠I) (hord:ord.Perm (List.range es.size)) :
  PySem.Walks P w A I [I,tp,a] [I] es.size (fun i v=>∃ p e,ord[i]?=some p/\es[p]?=some e/\v=e.2) (fun i h=>h.get? I=some (siO (.ref tp) i a es.size ep)/\h.get? tp=some { cls:=.type "tuple",data:=.seq (ord.map fun k:Nat=>rawInt (k:Int)).toArray m }/\SetS P w h a ss o es ep t) where
 sub:=by simp
 frame:=fun i h h' ⟨h1,h2,h3⟩ k=>⟨k _ (by simp) _ h1,k _ (by simp) _ h2,h3.keep fun o e=>k _ (by simp) o e⟩
 item:=fun i s Q E hi ⟨h1,h2,h3⟩ q=>by
  have hl:ord.length=es.size:=by rw [hord.length_eq,List.length_range]
  have hp:ord[i]?=some (ord[i]'(by omega)):=List.getElem?_eq_getElem _
  have hm:ord[i]'(by omega)∈List.range es.size:=hord.mem_iff.mp (List.getElem_mem _)
  have hlt:=List.mem_range.mp hm
  have he:es[ord[i]'(by omega)]?=some (es[ord[i]'(by omega)]):=Array.getElem?_eq_getElem hlt
  exact next_drawn h1 h2 h3 hp he fun h' g1 g2=>q _ h' s.toks ⟨_,_,hp,he,rfl⟩ ⟨g1,g2 _ _ hit h2,h3.keep fun o e=>g2 _ _ hia e⟩ fun b o hb e=>g2 b o (fun z=>hb (by simp [z])) e
 done:=fun s Q E ⟨h1,h2,h3⟩ q=>by
  have hl:ord.length=es.size:=by rw [hord.length_eq,List.length_range]
  exact end_drawn hh h1 h2 h3 (List.getElem?_eq_none (by omega)) fun h' k=>q h' s.toks fun b o hb e=>k b o (fun z=>hb (by simp [z])) e
 self:=fun i s Q E ⟨h1,h2,h3⟩ q=>iter_self ⟨_,h1,rfl⟩ q
theorem walks_text (hh:A.handled=none) (hb:BT w=true) (hia:a≠I) :
  PySem.Walks P w A I [I,a] [I] es.size (fun i v=>∃ e,(pickOrder (w.params.setOrder a ep) es)[i]?=some e/\v=e.2) (fun i h=>h.get? I=some (siO (.int 0 0) i a es.size ep)/\SetS P w h a ss o es ep t) where
 sub:=by simp
 frame:=fun i h h' ⟨h1,h3⟩ k=>⟨k _ (by simp) _ h1,h3.keep fun o e=>k _ (by simp) o e⟩
 item:=fun i s Q E hi ⟨h1,h3⟩ q=>by
  have hl:(pickOrder (w.params.setOrder a ep) es).size=es.size:=by have:=(pick_perm (w.params.setOrder a ep) es).length_eq;simpa using this
  have he:(pickOrder (w.params.setOrder a ep) es)[i]?=some ((pickOrder (w.params.setOrder a ep) es)[i]'(by omega)):=Array.getElem?_eq_getElem _
  exact next_text hb h1 h3 he fun h' g1 g2=>q _ h' s.toks ⟨_,he,rfl⟩ ⟨g1,h3.keep fun o e=>g2 _ _ hia e⟩ fun b o hb e=>g2 b o (fun z=>hb (by simp [z])) e
 done:=fun s Q E ⟨h1,h3⟩ q=>by
  have hl:(pickOrder (w.params.setOrder a ep) es).size=es.size:=by have:=(pick_perm (w.params.setOrder a ep) es).length_eq;simpa using this
  exact end_text hh hb h1 h3 (Array.getElem?_eq_none (by omega)) fun h' k=>q h' s.toks fun b o hb e=>k b o (fun z=>hb (by simp [z])) e
 self:=fun i s Q E ⟨h1,h3⟩ q=>iter_self ⟨_,h1,rfl⟩ q
theorem below_one {xs:Array Nat} {j:Nat} (h1:xs.size=1) (hj:xs[0]?=some j):SetTable.below xs 0=0/\SetTable.below xs (j+1)=1:=by
 obtain ⟨l⟩:=xs
 match l,h1 with
 | [x],_ =>
  have e:x=j:=by simpa using hj
  subst e
  constructor
  ·rfl
  ·show SetTable.below.go #[x] (x+1) 1 0 1=1
   simp [SetTable.below.go]
theorem walks_one (hh:A.handled=none) (hb:BT w=false) (hia:a≠I) (h1:es.size=1) {j:Nat} (hp:t.place.size=1) (hj:t.place[0]?=some j) :
  PySem.Walks P w A I [I,a] [I] es.size (fun i v=>∃ e,es[i]?=some e/\v=e.2) (fun i h=>h.get? I=some (siO (rawInt ((if i=0 then 0 else j+1:Nat):Int)) i a es.size ep)/\SetS P w h a ss o es ep t) where
 sub:=by simp
 frame:=fun i h h' ⟨h1,h3⟩ k=>⟨k _ (by simp) _ h1,h3.keep fun o e=>k _ (by simp) o e⟩
 item:=fun i s Q E hi ⟨g1,h3⟩ q=>by
  have hi0:i=0:=by omega
  subst hi0
  have he:es[0]?=some (es[0]'(by omega)):=Array.getElem?_eq_getElem _
  exact next_one hb (by omega) g1 h3 (below_one hp hj).1 he hj fun h' a1 a2=>q _ h' s.toks ⟨_,he,rfl⟩ ⟨a1,h3.keep fun o e=>a2 _ _ hia e⟩ fun b o hb e=>a2 b o (fun z=>hb (by simp [z])) e
 done:=fun s Q E ⟨g1,h3⟩ q=>by
  rw [if_neg (by omega)] at g1
  exact end_one hh hb (by omega) g1 h3 (by rw [(below_one hp hj).2];exact Array.getElem?_eq_none (by omega)) fun h' k=>q h' s.toks fun b o hb e=>k b o (fun z=>hb (by simp [z])) e
 self:=fun i s Q E ⟨h1,h3⟩ q=>iter_self ⟨_,h1,rfl⟩ q
theorem walks_zero (hh:A.handled=none) (hb:BT w=false) (hia:a≠I) (h0:es.size=0) :
  PySem.Walks P w A I [I,a] [I] es.size (fun i v=>∃ e,es[i]?=some e/\v=e.2) (fun i h=>h.get? I=some (siO (rawInt ((0:Nat):Int)) i a es.size ep)/\SetS P w h a ss o es ep t) where
 sub:=by simp
 frame:=fun i h h' ⟨h1,h3⟩ k=>⟨k _ (by simp) _ h1,h3.keep fun o e=>k _ (by simp) o e⟩
 item:=fun i s Q E hi ⟨g1,h3⟩ q=>absurd hi (by omega)
 done:=fun s Q E ⟨g1,h3⟩ q=>by
  exact end_one hh hb (by omega) g1 h3 (Array.getElem?_eq_none (by omega)) fun h' k=>q h' s.toks fun b o hb e=>k b o (fun z=>hb (by simp [z])) e
 self:=fun i s Q E ⟨h1,h3⟩ q=>iter_self ⟨_,h1,rfl⟩ q
end
section
variable {P:Program} {w:World} {A:Around} {E:Value->Shared->Prop} {s:Shared} {a:Addr} {ss:List Str} {o:Obj} {es:Array (Int × Value)} {ep:Nat} {t:SetTable}
theorem items_map {Pi:Nat->Value->Prop} {acc:Array Value} {n:Nat} {vs:List Value} (h:ItemsOf Pi acc n) (hn:vs.length=n) (hv:∀ i v,Pi i v->vs[i]?=some v):acc.toList=vs:=by
 refine List.ext_getElem? fun i=>?_
 by_cases hi:i < n
 ·have hi':i < acc.size:=by rw [h.1];exact hi
  rw [Array.getElem?_toList,Array.getElem?_eq_getElem hi',hv i _ (h.2 i _ (Array.getElem?_eq_getElem hi'))]
 ·rw [List.getElem?_eq_none (by rw [Array.length_toList,h.1];omega),List.getElem?_eq_none (by omega)]
theorem iter_set {Q:Value->Shared->Prop} (hS:SetS P w s.heap a ss o es ep t) (hz:ss.length<=1000)
  (q:∀ (I:Addr) (h':Heap) dr (fp:List Addr) (Pi:Nat->Value->Prop) (St:Nat->Heap->Prop),(∀ B:Around,B.handled=none->PySem.Walks P w B I fp [I] es.size Pi St)->St 0 h'->(∀ b∈fp,b=a\/s.heap.objs.size<=b)->I∈fp->s.heap.objs.size<=I->(∃ oI,h'.get? I=some oI/\oI.cls=.type "set_iterator") ->
   (∀ acc,ItemsOf Pi acc es.size->∃ ss',ss'.Perm ss/\StrsAre acc.toList ss')->(∀ b o,s.heap.get? b=some o->h'.get? b=some o)->Q (.ref I) { s with heap:=h',drawn:=dr }) :
  wpAny (model P w) A (pyIter (.ref a)) Q E s:=by
 have hT:s.TypeIs (.ref a) "set" := ⟨o,hS.at_,hS.ex.1⟩
 have hsz:=hS.size
 have hla:a < s.heap.objs.size:=Heap.lt_size hS.at_
 refine wpAny_pyIter_slot hT PySem.F.slot_set_iter (wpAny_call_entry PySem.F.slot_set_iter hT entrySet ?_ (PySem.F.args_set_iter_1 _))
 show wpAny _ _ (Builtin.Frozenset.slot0 "__iter__" _ >>= _) _ _ s
 refine wpAny_bind (wpAny_pure ?_)
 refine wpAny_bind ?_
 show wpAny _ _ ((setState a >>= _) >>= _) _ _ s
 refine wpAny_bind (wpAny_bind (wpAny_setState_of hS.at_ hS.dat hS.fit (wpAny_pure (wpAny_pure ?_))))
 refine wpAny_bind ?_
 show wpAny _ _ (setState a >>= _) _ _ s
 refine wpAny_bind (wpAny_setState_of hS.at_ hS.dat hS.fit ?_)
 refine wpAny_bind (wp_byText (wpAny_pure ?_))
 cases hb:BT w with
 | true =>
  refine wpAny_ite_false rfl ?_
  refine wpAny_bind (wpAny_pure ?_)
  refine wpAny_bind ?_
  show wpAny _ _ (setState a >>= _) _ _ s
  refine wpAny_bind (wpAny_setState_of hS.at_ hS.dat hS.fit (wpAny_pure ?_))
  refine wpAny_bind (wpAny_newObj_type ?_ (by size_fits))
  have hI:(s.heap.push (siO (.int 0 0) 0 a es.size ep)).get? s.heap.objs.size=some (siO (.int 0 0) 0 a es.size ep):=Heap.get?_push_size _ rfl
  refine wpAny_pure ⟨.ref s.heap.objs.size,rfl, "set_iterator",.builtin "set_iterator.__next__",⟨_,hI,rfl⟩,lkSI,?_⟩
  refine q s.heap.objs.size (s.heap.push (siO (.int 0 0) 0 a es.size ep)) s.drawn _ _ _ (fun B hB=>walks_text (ss:=ss) (o:=o) (t:=t) hB hb (Nat.ne_of_lt hla)) ⟨hI,hS.keep fun o e=>Heap.get?_push_of_some _ e⟩ (fun b hb=>?_) (by simp) (Nat.le_refl _) ⟨_,hI,rfl⟩ (fun acc hacc=>?_) fun b o e=>Heap.get?_push_of_some _ e
  ·simp only [List.mem_cons,List.not_mem_nil,or_false] at hb
   rcases hb with rfl | rfl
   ·exact .inr (Nat.le_refl _)
   ·exact .inl rfl
  ·have hpp:=pick_perm (w.params.setOrder a ep) es
   have e:acc.toList=(pickOrder (w.params.setOrder a ep) es).toList.map (·.2):=items_map hacc (by rw [List.length_map,hpp.length_eq];simp) fun i v ⟨x,h1,h2⟩=>by rw [List.getElem?_map,Array.getElem?_toList,h1,h2];rfl
   rw [e]
   exact strs_perm (hpp.map (·.2)) hS.str_
 | false =>
  split
  ·refine wpAny_bind (wp_drawOrder es.size (by simp) fun ord dr hord=>?_)
   refine wpAny_bind (wpAny_newObj_type ?_ (by show (ord.map _).toArray.size<=sizeLine;rw [List.size_toArray,List.length_map,hord.length_eq,List.length_range,sizeLine_eq];show es.size<=_;omega))
   refine wpAny_bind ?_
   show wpAny _ _ (setState a >>= _) _ _ _
   refine wpAny_bind (wpAny_setState_of (Heap.get?_push_of_some _ hS.at_) hS.dat hS.fit (wpAny_pure ?_))
   refine wpAny_bind (wpAny_newObj_type ?_ (by size_fits))
   have hord:ord.Perm (List.range es.size):=hord
   have htp:((s.heap.push { cls:=.type "tuple",data:=.seq (ord.map fun k:Nat=>rawInt (k:Int)).toArray }).push (siO (.ref s.heap.objs.size) 0 a es.size ep)).get? s.heap.objs.size=some { cls:=.type "tuple",data:=.seq (ord.map fun k:Nat=>rawInt (k:Int)).toArray }:=Heap.get?_push_of_some _ (Heap.get?_push_size _ rfl)
   have hI:((s.heap.push { cls:=.type "tuple",data:=.seq (ord.map fun k:Nat=>rawInt (k:Int)).toArray }).push (siO (.ref s.heap.objs.size) 0 a es.size ep)).get? (s.heap.push { cls:=.type "tuple",data:=.seq (ord.map fun k:Nat=>rawInt (k:Int)).toArray }).objs.size=some (siO (.ref s.heap.objs.size) 0 a es.size ep):=Heap.get?_push_size _ rfl
   have hsp:(s.heap.push { cls:=.type "tuple",data:=.seq (ord.map fun k:Nat=>rawInt (k:Int)).toArray }).objs.size=s.heap.objs.size+1:=Heap.size_push _ _
   refine wpAny_pure ⟨_,rfl, "set_iterator",.builtin "set_iterator.__next__",⟨_,hI,rfl⟩,lkSI,?_⟩
   refine q _ ((s.heap.push { cls:=.type "tuple",data:=.seq (ord.map fun k:Nat=>rawInt (k:Int)).toArray }).push (siO (.ref s.heap.objs.size) 0 a es.size ep)) dr _ _ _ (fun B hB=>walks_drawn (m:=0) (ss:=ss) (o:=o) (t:=t) (tp:=s.heap.objs.size) (ep:=ep) hB (by rw [hsp];exact Nat.ne_of_lt (Nat.lt_succ_of_lt hla)) (by rw [hsp];exact Nat.ne_of_lt (Nat.lt_succ_self _)) hord) ⟨hI,htp,hS.keep fun o e=>Heap.get?_push_of_some _ (Heap.get?_push_of_some _ e)⟩ (fun b hb=>?_) (by simp) (by rw [hsp];exact Nat.le_succ _) ⟨_,hI,rfl⟩ (fun acc hacc=>?_) fun b o e=>Heap.get?_push_of_some _ (Heap.get?_push_of_some _ e)
   ·simp only [List.mem_cons,List.not_mem_nil,or_false] at hb
    rcases hb with rfl | rfl | rfl
    ·rw [hsp];exact .inr (Nat.le_succ _)
    ·exact .inr (Nat.le_refl _)
    ·exact .inl rfl
   ·have hf:∀ (l:List Nat),(∀ p∈l,p < es.size)->True:=fun _ _=>trivial
    have e:acc.toList=ord.map (fun p=>((es[p]?).map (·.2)).getD .none):=items_map hacc (by rw [List.length_map,hord.length_eq,List.length_range]) fun i v ⟨p,x,h1,h2,h3⟩=>by rw [List.getElem?_map,h1,h3];simp [h2]
    have e2:(List.range es.size).map (fun p=>((es[p]?).map (·.2)).getD .none)=es.toList.map (·.2):=by
     refine List.ext_getElem? fun i=>?_
     rw [List.getElem?_map,List.getElem?_map]
     by_cases hi:i < es.size
     ·rw [List.getElem?_range hi];simp [hi]
     ·rw [List.getElem?_eq_none (l:=List.range es.size) (by rw [List.length_range];omega)];simp [hi]
    rw [e]
    exact strs_perm (by rw [<- e2];exact hord.map _) hS.str_
  ·rename_i hn
   by_cases h0:es.size=0
   ·refine wpAny_bind (wpAny_pure ?_)
    refine wpAny_bind ?_
    show wpAny _ _ (setState a >>= _) _ _ s
    refine wpAny_bind (wpAny_setState_of hS.at_ hS.dat hS.fit (wpAny_pure ?_))
    refine wpAny_bind (wpAny_newObj_type ?_ (by size_fits))
    have hI:(s.heap.push (siO (.int 0 0) 0 a es.size ep)).get? s.heap.objs.size=some (siO (.int 0 0) 0 a es.size ep):=Heap.get?_push_size _ rfl
    refine wpAny_pure ⟨.ref s.heap.objs.size,rfl, "set_iterator",.builtin "set_iterator.__next__",⟨_,hI,rfl⟩,lkSI,?_⟩
    refine q s.heap.objs.size (s.heap.push (siO (.int 0 0) 0 a es.size ep)) s.drawn _ _ _ (fun B hB=>walks_zero (ss:=ss) (o:=o) (t:=t) (ep:=ep) hB hb (Nat.ne_of_lt hla) h0) ⟨hI,hS.keep fun o e=>Heap.get?_push_of_some _ e⟩ (fun b hb=>?_) (by simp) (Nat.le_refl _) ⟨_,hI,rfl⟩ (fun acc hacc=>?_) fun b o e=>Heap.get?_push_of_some _ e
    ·simp only [List.mem_cons,List.not_mem_nil,or_false] at hb
     rcases hb with rfl | rfl
     ·exact .inr (Nat.le_refl _)
     ·exact .inl rfl
    ·have e:acc.toList=es.toList.map (·.2):=items_map hacc (by simp) fun i v ⟨x,h1,h2⟩=>by rw [List.getElem?_map,Array.getElem?_toList,h1,h2];rfl
     rw [e]
     exact ⟨ss,.refl _,hS.str_⟩
   ·have h1:es.size=1:=by
     have hn':¬ (!false && (!t.plain && decide (es.size > 1)))=true:=hn
     rw [show t.plain=false from by rcases hS.plain with h | h;exact h;omega] at hn'
     simp at hn'
     omega
    have hp:t.place.size=1:=by
     have:=hS.fit
     unfold SetTable.fits at this
     simp at this
     omega
    have hj:t.place[0]?=some (t.place[0]'(by omega)):=Array.getElem?_eq_getElem _
    refine wpAny_bind (wpAny_pure ?_)
    refine wpAny_bind ?_
    show wpAny _ _ (setState a >>= _) _ _ s
    refine wpAny_bind (wpAny_setState_of hS.at_ hS.dat hS.fit (wpAny_pure ?_))
    refine wpAny_bind (wpAny_newObj_type ?_ (by size_fits))
    have hI:(s.heap.push (siO (.int 0 0) 0 a es.size ep)).get? s.heap.objs.size=some (siO (.int 0 0) 0 a es.size ep):=Heap.get?_push_size _ rfl
    refine wpAny_pure ⟨.ref s.heap.objs.size,rfl, "set_iterator",.builtin "set_iterator.__next__",⟨_,hI,rfl⟩,lkSI,?_⟩
    refine q s.heap.objs.size (s.heap.push (siO (.int 0 0) 0 a es.size ep)) s.drawn _ _ _ (fun B hB=>walks_one (ss:=ss) (o:=o) (t:=t) (ep:=ep) hB hb (Nat.ne_of_lt hla) h1 hp hj) ⟨hI,hS.keep fun o e=>Heap.get?_push_of_some _ e⟩ (fun b hb=>?_) (by simp) (Nat.le_refl _) ⟨_,hI,rfl⟩ (fun acc hacc=>?_) fun b o e=>Heap.get?_push_of_some _ e
    ·simp only [List.mem_cons,List.not_mem_nil,or_false] at hb
     rcases hb with rfl | rfl
     ·exact .inr (Nat.le_refl _)
     ·exact .inl rfl
    ·have e:acc.toList=es.toList.map (·.2):=items_map hacc (by simp) fun i v ⟨x,h1,h2⟩=>by rw [List.getElem?_map,Array.getElem?_toList,h1,h2];rfl
     rw [e]
     exact ⟨ss,.refl _,hS.str_⟩
end
section
variable {P:Program} {w:World} {A:Around} {E:Value->Shared->Prop} {s:Shared} {a:Addr} {ss:List Str} {o:Obj} {es:Array (Int × Value)} {ep:Nat} {t:SetTable}
theorem wp_ite {α:Type} {c:Prop} [Decidable c] {x y:Sem α} {Q:α->Shared->Prop} (h:c) (q:wpAny (model P w) A x Q E s):wpAny (model P w) A (if c then x else y) Q E s:=by rw [if_pos h];exact q
theorem hint_set {Q:Bool->Shared->Prop} (hT:s.TypeIs (.ref a) "set") (q:Q false s):wpAny (model P w) A (Builtin.List.listLengthHint (.ref a)) Q E s:=by
 show wpAny _ A (specialOf (.ref a) "__len__" >>= _) _ _ s
 refine wpAny_bind (wpAny_specialOf hT PySem.F.slot_set_len.lookup ?_)
 have e:splitId "set.__len__" = some ("set", "__len__"):=by decide +kernel
 dsimp only
 generalize splitId "set.__len__" = r at e ⊢
 subst e
 dsimp only
 refine wpAny_bind (wpAny_isInstance (T := "set") hT PySem.F.called_set.sub ?_)
 refine wpAny_ite_false rfl ?_
 refine wp_ite (by decide) ?_
 refine wpAny_bind (wpAny_typeOf hT ?_)
 exact wpAny_pure q
theorem collect_set {Q:List Value->Shared->Prop} (hh:A.handled=none) (hS:SetS P w s.heap a ss o es ep t) (hz:ss.length<=1000)
  (q:∀ acc h' dr tk,(∃ ss',ss'.Perm ss/\StrsAre acc ss')->(∀ b o,s.heap.get? b=some o->h'.get? b=some o)->Q acc { s with heap:=h',drawn:=dr,toks:=tk }):wpAny (model P w) A (collect (.ref a)) Q E s:=by
 have hsz:=hS.size
 have hla:a < s.heap.objs.size:=Heap.lt_size hS.at_
 show wpAny _ A (runValue (.builtin "proto.collect" ⟨[.ref a],[]⟩) >>= _) _ _ s
 refine wpAny_bind (wpAny_runValue (codeAny_builtin PySem.F.entry_proto_collect ?_))
 rw [Around.under_plainId PySem.F.plain_proto_collect _]
 show wpAny _ A.in1 (newList [] >>= _) _ _ s
 refine wpAny_bind (wpAny_newList ?_ (by simp))
 refine wpAny_pure ⟨plainId_quiet PySem.F.plain_list_iadd _,codeAny_builtin PySem.F.entry_list_iadd ?_⟩
 rw [Around.under_plainId PySem.F.plain_list_iadd _]
 show wpAny _ A.in1 (slotArgs "__iadd__" 1 _ >>= _) _ _ _
 refine wpAny_bind (wpAny_pure ?_)
 have hL:(s.heap.push { cls:=.type "list",data:=.seq ([] : List Value).toArray }).get? s.heap.objs.size=some { cls:=.type "list",data:=.seq ([] : List Value).toArray }:=Heap.get?_push_size _ rfl
 have hS1:=hS.keep (h':=s.heap.push { cls:=.type "list",data:=.seq ([] : List Value).toArray }) fun o e=>Heap.get?_push_of_some _ e
 show wpAny _ A.in1 (typeOf (.ref a) >>= _) _ _ _
 refine wpAny_bind (wpAny_typeOf_ref hS1.at_ ?_)
 rw [hS.ex.1]
 have hne:Builtin.List.listSameRef (.ref s.heap.objs.size) (.ref a)=false:=by
  show (s.heap.objs.size == a)=false
  exact beq_eq_false_iff_ne.mpr (Nat.ne_of_gt hla)
 refine wpAny_ite_false (by rw [hne];decide) ?_
 refine wpAny_bind (iter_set hS1 hz fun I h' dr fp Pi St W st0 hlt hIf hIge hIt items kp=>?_)
 refine wpAny_bind (wpAny_holding (hint_set ⟨o,kp _ _ hS1.at_,hS.ex.1⟩ ?_))
 split
 case isFalse hx=>exact absurd (by decide) hx
 ·refine wpAny_bind (wpAny_rule (wpAny_bind ?_))
  have eL:=kp _ _ hL
  have eL1:(h'.update s.heap.objs.size (Obj.mapSeq fun x=>x.push Value.none)).get? s.heap.objs.size=some { cls:=.type "list",data:=.seq #[Value.none] 1 }:=Heap.get?_update_self _ eL rfl
  have eL2:((h'.update s.heap.objs.size (Obj.mapSeq fun x=>x.push Value.none)).update s.heap.objs.size (Obj.mapSeq fun x=>x.pop)).get? s.heap.objs.size=some { cls:=.type "list",data:=.seq #[] 2 }:=Heap.get?_update_self _ eL1 rfl
  show wpAny _ A.in1 (updateSeq s.heap.objs.size (fun x=>x.push Value.none) >>= fun _=>updateSeq s.heap.objs.size (fun x=>x.pop)) _ _ _
  refine wpAny_bind (wpAny_updateSeq eL rfl (wpAny_updateSeq eL1 rfl ?_ (by rw [sizeLine_eq];simp) (by rw [sizeLine_eq];simp)) (by rw [sizeLine_eq];simp) (by rw [sizeLine_eq];simp))
  have hL1:s.heap.objs.size < (s.heap.push { cls:=.type "list",data:=.seq ([] : List Value).toArray }).objs.size:=Heap.lt_size hL
  have hLI:s.heap.objs.size∉fp:=fun z=>by
   rcases hlt _ z with z | z
   ·exact absurd z (Nat.ne_of_gt hla)
   ·exact absurd (Nat.lt_of_lt_of_le hL1 z) (Nat.lt_irrefl _)
  have k2:∀ b o,b≠s.heap.objs.size->h'.get? b=some o->((h'.update s.heap.objs.size (Obj.mapSeq fun x=>x.push Value.none)).update s.heap.objs.size (Obj.mapSeq fun x=>x.pop)).get? b=some o:=fun b o hb e=>(Heap.get?_update_other _ _ (Ne.symm hb)).trans ((Heap.get?_update_other _ _ (Ne.symm hb)).trans e)
  refine wpAny_pure ⟨plainId_quiet PySem.F.plain_extend_loop _,?_⟩
  refine codeAny_extend_loopS (W A.in1 hh).toS (by rw [hsz,sizeLine_eq];omega) s.heap.objs.size hLI (.ref s.heap.objs.size) _ 0 _ #[] 2 rfl (Nat.zero_le _) ((W A.in1 hh).frame 0 _ _ st0 fun b hb o e=>k2 b o (fun z=>hLI (by rw [<- z];exact hb)) e) eL2 ⟨rfl,fun j v h=>by simp at h⟩ fun s' acc c' mv hS' it=>?_
  refine wpAny_bind (wpAny_load hS' ?_)
  obtain ⟨h1,gs,dr2,tk,os⟩:=s'
  obtain ⟨m1,m2,m3,m4,m5⟩:=mv
  have m3:dr2=dr:=m3
  have m4:os=s.os:=m4
  subst m3;subst m4
  refine wpAny_pure ?_
  have hgs:gs=s.gens:=m2
  subst hgs
  refine q acc.toList h1 dr2 tk (items acc it) fun b o e=>?_
  have hb:b < s.heap.objs.size:=Heap.lt_size e
  have hbI:b≠I:=fun z=>absurd (Nat.lt_of_lt_of_le hL1 hIge) (by rw [<- z];exact Nat.not_lt.mpr (Nat.le_of_lt hb))
  exact m1 b o (by simp [hbI,Nat.ne_of_lt hb]) (k2 b o (Nat.ne_of_lt hb) (kp b o (Heap.get?_push_of_some _ e)))
end
def SetW (P:Program) (w:World) (a:Addr) (ss:List Str) (h:Heap):Prop:=∃ o es ep t,SetS P w h a ss o es ep t
theorem SetW.ok {P:Program} {w:World} {H:Hp} {h:Heap} {a:Addr} {ss:List Str} (x:SetW P w a ss h):ObjOk P w H h a (.ext (SetW P w a ss)):=by
 refine ⟨x,?_,fun h1 h2 ⟨o,es,ep,t,y⟩ k=>⟨o,es,ep,t,y.keep k⟩⟩
 obtain ⟨o,es,ep,t,y⟩:=x
 exact ⟨o,y.at_⟩
theorem laid_nd {X:Cx} {pins:List (Addr × Obj)} {σ:St} {H:Hp} {s:Shared} {h':Heap} {a:Addr} {o:HO} {t':Nat} {dr:Drawn} (I:L2.Inv X pins σ H s) (k:∀ b u,s.heap.get? b=some u->h'.get? b=some u) (ha:s.heap.get? a=none) (new:ObjOk X.prog X.w (upd H a o) h' a o) :
  H a=none/\L2.Inv X pins σ (upd H a o) { s with heap:=h',drawn:=dr,toks:=t' }:=by
 have hn:H a=none:=by
  cases e:H a with
  | none=>rfl
  | some u=>obtain ⟨v,q⟩:=obj_in (I.hok a u e);rw [ha] at q;cases q
 have old:∀ b u,H b=some u->upd H a o b=some u:=fun b u e=>by rw [upd_ne (fun z=>by rw [z,hn] at e;cases e)];exact e
 refine ⟨hn,I.step (g':=s.gens) (d':=dr) (ch:=[]) (fun b hb=>absurd hb (by simp)) (fun b o _ _ _ e _=>k b o e) (fun b o _ _ _ e _=>⟨o.slots,k b o e⟩) (fun b o _ e n=>by rw [upd_ne (fun z=>by rw [z,ha] at e;cases e)];exact n) (fun b o _ e=>⟨o,k b o e⟩)
  (fun b xs e=>old b _ e) (fun b o u e=>old b _ e) (fun b p e=>⟨#[],by rw [old b _ e];simp⟩) (fun m ⟨o,es,ep,ho,r⟩=>⟨o,es,ep,k _ _ ho,r⟩) (fun b u e=>?_) I.bare⟩
 by_cases hb:b=a
 ·subst hb;rw [upd_same] at e;cases e;exact new
 ·rw [upd_ne hb] at e
  exact (I.hok b u e).stay (fun c v _ hv=>k c v hv) (fun c hc=>old c _ hc) (fun c xs hc=>old c _ hc)
theorem strs_vals:∀ {ss:List Str} {us:List Value},Vals (ss.map V.str) us->StrsAre us ss
 | [],us,h=>by cases h;exact .nil
 | s :: ss,us,h=>by
  cases h with
  | cons r t =>
   obtain ⟨tk,rfl⟩:=r
   exact .cons s tk (strs_vals t)
theorem bootSet:bootBuiltins "set" = some (.type "set"):=by decide +kernel
section
variable {X:Cx} {G:Ga} {M:MH} {e:Expr} {pos:Pos} {Q:DK}
theorem call_setD (hc:X.calm=true):CallR X (.type "set") (fun xs H Q=>∃ (a:Addr) (ys:List Str),xs=[.ref a]/\H a=some (.tup (ys.map V.str))/\ys.length<=100/\∀ p ss,H p=none->ss.Nodup->ss.length<=100->(∀ y,y∈ss ↔ y∈ys)->Q (.ref p) (upd H p (.ext (SetW X.prog X.w p ss)))):=by
 intro pins s σ H xs us Q I r h
 obtain ⟨a,ys,rfl,e,hz,q⟩:=h
 obtain ⟨u,rfl,ru⟩:=vals1 r
 cases ru
 obtain ⟨_,its,rv,o,e1,cl,n,dat⟩:=(show ObjOk X.prog X.w H s.heap a (.tup (ys.map V.str)) from I.hok a _ e)
 refine call_setC (.inl rfl) (xs:=ys) (I.ok.hd hc) ⟨o,e1,cl,dat⟩ (strs_vals rv) hz fun g tk ss o' es ep t hS a1 a2 a3 kp=>?_
 exact ⟨.ref s.heap.objs.size,_,I.laid (t':=tk) (o:=.ext (SetW X.prog X.w s.heap.objs.size ss)) kp (Nat.le_refl _) (SetW.ok ⟨o',es,ep,t,hS⟩),rfl,q _ ss (I.hok.fresh (Nat.le_refl _)) a1 a2 a3⟩
theorem isl_str5 {H:Hp}:∀ {ss:List Str} {vs:List V},IsL H (ss.map D.str) vs->vs=ss.map V.str
 | [],vs,h=>by rw [List.map_nil,isl_nil] at h;subst h;rfl
 | s :: ss,vs,h=>by
  rw [List.map_cons,isl_cons] at h
  obtain ⟨x,r,rfl,h1,h2⟩:=h
  rw [is_str] at h1
  rw [h1,isl_str5 h2];rfl
theorem ev_setT {p:Pos} (hc:X.calm=true) (hm:X.mg "set" = none) (h:AV X G M [e] fun ds M1=>∃ ys:List Str,ds=[.tup (ys.map D.str)]/\ys.length<=100/\∀ r ss,M1 r=none->ss.Nodup->ss.length<=100->(∀ y,y∈ss ↔ y∈ys)->Q (.ref r) (mset M1 r (.raw (SetW X.prog X.w r ss)))) (hg:Gl X "set") (he:SeX X e) (hpl:NpX X pos) :
  EV X G M (.Call (.Name "set" p) [e] [] pos) Q :=
 ev_callTy (call_setD hc) hm bootSet (h.mono fun ds M1 ⟨ys,e1,hz,q⟩=>fun H xs kf hx m=>by
  subst e1
  obtain ⟨v,rfl,hv⟩:=isl1 hx
  rw [is_tup] at hv
  obtain ⟨a,vs,rfl,ha,hvs⟩:=hv
  have:=isl_str5 hvs;subst this
  exact ⟨a,ys,rfl,ha,hz,fun r ss hr a1 a2 a3 kf'=>⟨grow_new hr,.ref r,mset M1 r (.raw (SetW X.prog X.w r ss)),is_ref.mpr rfl,m.lay (u:=.raw (SetW X.prog X.w r ss)) hr upd_same,q r ss (m.fresh hr kf') a1 a2 a3⟩⟩) hg (by decide) (by decide) he hpl
theorem call_sortedSet (hc:X.calm=true):CallR X (.builtin "sorted") (fun xs H Q=>∃ (a:Addr) (ss:List Str),xs=[.ref a]/\H a=some (.ext (SetW X.prog X.w a ss))/\ss.length < 64/\∀ p ss',H p=none->ss'.Perm ss->PyProof.Rows.sortedS ss'=true->Q (.ref p) (upd H p (.lst (ss'.map V.str)))):=by
 intro pins s σ H xs us Q I r h
 obtain ⟨a,ss,rfl,e,h64,q⟩:=h
 obtain ⟨u,rfl,ru⟩:=vals1 r
 cases ru
 obtain ⟨⟨o,es,ep,t,hS⟩,_,_⟩:=(show ObjOk X.prog X.w H s.heap a (.ext (SetW X.prog X.w a ss)) from I.hok a _ e)
 have hh:X.A.in1.handled=none:=I.ok.hd hc
 refine Calls.call_function_entry kind_sorted plain_sorted entry_sorted (args_sorted1 _) ?_
 unfold Builtin.«sorted»
 refine wpAny_bind (m:=checkCount "sorted" 1 1 _) (wpAny_pure ?_)
 refine wpAny_bind (collect_set (A:=X.A.in1) hh hS (by omega) fun acc h' dr tk ⟨ss1,hp1,hS1⟩ hkp=>?_)
 have hal:acc.length=ss.length:=by rw [strs_len hS1,hp1.length_eq]
 refine wpAny_bind (wpAny_newList ?_ (by rw [hal,sizeLine_eq];omega))
 have hoL:(h'.push (seqObj "list" acc.toArray 0)).get? h'.objs.size=some (seqObj "list" acc.toArray 0):=Heap.get?_push_size _ rfl
 refine (show wpAny _ _ _ _ _ ({ s with heap:=h'.push (seqObj "list" acc.toArray 0),drawn:=dr,toks:=tk }:Shared) from ?_)
 refine wpAny_bind (wpAny_holding (wpAny_call_entry slot_list_sort ⟨_,hoL,rfl⟩ entry_list_sort (list_sort_treeK strKind_oneLt hoL hS1.keysOf (fun v1 v2 rest e=>keyKind_strs (by rw [<- e];exact hS1)) (by rw [hal];exact h64) fun st' a1 a2=>⟨_,rfl,?_⟩) (args_list_sort _)))
 obtain ⟨ss',b1,b2,b3⟩:=sorted_out_str hS1 a1 a2
 obtain ⟨en,he⟩:=sortedHeap_at (out:=(arrOf st').map (·.2)) (vs:=acc) hoL
 have ha:s.heap.get? h'.objs.size=none:=by
  cases x:s.heap.get? h'.objs.size with
  | none=>rfl
  | some o=>exact absurd (Heap.lt_size (hkp _ _ x)) (Nat.lt_irrefl _)
 have hkeep:∀ b ob,s.heap.get? b=some ob->(sortedHeap (h'.push (seqObj "list" acc.toArray 0)) h'.objs.size acc ((arrOf st').map (·.2))).get? b=some ob:=fun b ob hb=>by
  have hb':=hkp b ob hb
  have hlt:=Heap.lt_size hb'
  rw [sortedHeap_old (Nat.ne_of_lt hlt) (by rw [size_push'];exact Nat.lt_succ_of_lt hlt)]
  exact Heap.get?_push_of_some _ hb'
 obtain ⟨hn,I2⟩:=laid_nd (t':=tk) (dr:=dr) (o:=.lst (ss'.map V.str)) I hkeep ha ⟨by rw [List.length_map,b2.length_eq,hp1.length_eq,sizeLine_eq];omega,((arrOf st').map (·.2)).toList,en,vals_of_strs b1,by rw [he]⟩
 exact wpAny_pure ⟨_,rfl,.ref h'.objs.size,_,I2,rfl,q _ ss' hn (b2.trans hp1) b3⟩
theorem ev_sortedSet {p:Pos} (hc:X.calm=true) (hm:X.mg "sorted" = none) (h:AV X G M [e] fun ds M1=>∃ (q:Addr) (ss:List Str),ds=[.ref q]/\M1 q=some (.raw (SetW X.prog X.w q ss))/\1<=ss.length/\ss.length < 64/\∀ r ss',M1 r=none->ss'.Perm ss->PyProof.Rows.sortedS ss'=true->Q (.ref r) (mset M1 r (.lst (ss'.map D.str)))) (hg:Gl X "sorted") (he:SeX X e) (hpl:NpX X pos) :
  EV X G M (.Call (.Name "sorted" p) [e] [] pos) Q :=
 ev_callB (call_sortedSet hc) hm bootSorted (h.mono fun ds M1 ⟨a,ss,e1,ha,h2,h64,q⟩=>fun H xs kf hx m=>by
  subst e1
  obtain ⟨v,rfl,hv⟩:=isl1 hx
  rw [is_ref] at hv;subst hv
  have e1:H a=some (.ext (SetW X.prog X.w a ss)):=m a _ ha
  refine ⟨a,ss,rfl,e1,h64,fun p ss' hp h1 h2 kf'=>⟨grow_new hp,.ref p,mset M1 p (.lst (ss'.map D.str)),is_ref.mpr rfl,m.lay (u:=.lst (ss'.map D.str)) hp ⟨_,upd_same,?_⟩,q p ss' (m.fresh hp kf') h1 h2⟩⟩
  exact IsL.strs) hg (by decide) (by decide) he hpl
end
end D3
namespace KA
open PySem PySem.Spec PyProof.Rows L2 D3 K01
def okT (ts:List (Str × Int)):Prop:=∀ t∈ts,PyData.strOk t.1=true
def okM:Option (Sm × Int)->Prop
 | none=>True
 | some m=>okT m.1.1
mutual
def okS:Stm->Prop
 | .set x s=>PyData.strOk x=true/\okT s.1
 | .any x=>PyData.strOk x=true
 | .note rs=>∀ r∈rs,okT r.2.1
 | .choose a b=>okSs a/\okSs b
 | .ite r a b=>okT r.2.1/\okSs a/\okSs b
 | .whl r rs m b=>okT r.2.1/\(∀ r∈rs,okT r.2.1)/\okM m/\okSs b
def okSs:List Stm->Prop
 | []=>True
 | s :: r=>okS s/\okSs r
end
theorem okT_of {ss:List Str} {ts:List (Str × Int)} (hl:∀ x∈ss,Letter x) (h:Terms ss ts):okT ts:=fun t ht=>(hl _ (h.sub.subset (List.mem_map.mpr ⟨t,ht,rfl⟩))).ok
mutual
theorem wf_ok {ss:List Str} (hl:∀ x∈ss,Letter x):∀ s:Stm,wf ss s->okS s
 | .set x s,h=>by
  simp only [wf] at h
  simp only [okS]
  exact ⟨(hl x h.1).ok,okT_of hl h.2.ts⟩
 | .any x,h=>by
  simp only [wf] at h
  simp only [okS]
  exact (hl x h).ok
 | .note rs,h=>by
  simp only [wf] at h
  simp only [okS]
  exact fun r hr=>okT_of hl (h.1 r hr).ts
 | .choose a b,h=>by
  simp only [wf] at h
  simp only [okS]
  exact ⟨wfs_ok hl a h.1,wfs_ok hl b h.2⟩
 | .ite r a b,h=>by
  simp only [wf] at h
  simp only [okS]
  exact ⟨okT_of hl h.1.ts,wfs_ok hl a h.2.1,wfs_ok hl b h.2.2⟩
 | .whl r rs m b,h=>by
  simp only [wf] at h
  simp only [okS]
  refine ⟨okT_of hl h.1.ts,fun r hr=>okT_of hl (h.2.1 r hr).ts,?_,wfs_ok hl b h.2.2.2.2⟩
  cases m with
  | none=>trivial
  | some m=>exact okT_of hl h.2.2.2.1.1.ts
theorem wfs_ok {ss:List Str} (hl:∀ x∈ss,Letter x):∀ b:List Stm,wfs ss b->okSs b
 | [],_=>by simp only [okSs]
 | s :: r,h=>by
  simp only [wfs] at h
  simp only [okSs]
  exact ⟨wf_ok hl s h.1,wfs_ok hl r h.2⟩
end
theorem len_sub5:∀ {l m:List Str},l.Nodup->(∀ x∈l,x∈m)->l.length<=m.length
 | [],_,_,_=>Nat.zero_le _
 | a :: l,m,h,hs=>by
  rw [List.nodup_cons] at h
  have ha:=hs a (List.mem_cons_self ..)
  have ih:=len_sub5 (m:=m.erase a) h.2 fun x hx=>(List.mem_erase_of_ne (fun z=>h.1 (by rw [<- z];exact hx))).mpr (hs x (List.mem_cons_of_mem _ hx))
  rw [List.length_erase_of_mem ha] at ih
  have:=List.length_pos_of_mem ha
  rw [List.length_cons];omega
def fL:Stm:=.whl (true,[],0) [] none []
def fI:Stm:=.whl (true,[("q",1)],0) [] (some (([],1,1),1)) [fL]
def fS:Stm:=.set "q" ([],1,1)
def dL:D:=.tup [.str "while",.tup [.str "least",.tup [],.int 0],.tup [],.non,.tup []]
def dS:D:=.tup [.str "set",.str "q",.tup [.tup [],.int 1,.int 1]]
theorem eL:stD fL=dL:=by simp [fL,dL,stD,stDs,msD,rwD,word]
theorem eS:stD fS=dS:=by
 simp only [fS,stD]
 rfl
abbrev four:List Str:=["a", "m", "z", "q"]
theorem imm_pc (p:Pce):imm (pcD p)=true:=imm_tup fun d hd=>by
 obtain ⟨n,_,rfl⟩:=List.mem_map.mp hd
 simp only [imm]
end KA
namespace D3
open PySem PySem.Spec PyProof.Rows L2
section
variable {X:Cx} {G:Ga} {M:MH} {pos:Pos} {Q:DK}
end
end D3
namespace KA
open PySem PySem.Spec PyProof.Rows L2 D3 K01
theorem kit_self {K:PySem.W.Frag} {C:Addr}:PySem.W.kitOne K (.ref C) (.ref C)=some true:=by
 unfold PySem.W.kitOne
 rw [if_pos (by simp)]
theorem bootVE:bootBuiltins "ValueError" = some (.type "ValueError"):=by decide +kernel
structure ClsT (K:PySem.W.Frag) (x qual:Str) (st:Stmt) (C P0:Addr):Prop where
 ns:PySem.W.nsIn K mainGlobals x=some (some (.ref C))
 er:X1.Err K C P0
 kp:PySem.W.keepIn K (.ref C)=true
 fn:∃ fI fd oI,PySem.W.findIn K (.ref C) "__init__" = some (some (.ref fI))/\Fun K "__init__" qual st fI fd/\K.lookup fI=some oI/\oI.cls=.type "function"
 sa:PySem.W.findIn K (.ref C) "__setattr__" = some (some (.builtin "object.__setattr__"))
 ga:PySem.W.findIn K (.ref C) "__getattribute__" = some (some (.builtin "BaseException.__getattribute__"))
 gh:PySem.W.findIn K (.ref C) "__getattr__" = some none
theorem ClsT.mk' {K:PySem.W.Frag} {x qual:Str} {st:Stmt} {C P0 fI N:Addr} {nm q:Str} {bs:List Value} {sn:List Str} {sub:List Value} {ab:Bool} {col:Option Bool} {dd od an:Option Addr} {k0 k1 k2 k3 k5:Option Value} {sl:Array (Option Value)} {oc kV dc pm cd ct:Value}
  (a:PySem.W.nsIn K mainGlobals x=some (some (.ref C))) (l:K.lookup C=some (excClassObj nm q C N bs (.ref P0 :: X1.VE) true sn sub ab col dd k0 k1 k2 k3 k5 "ValueError.__new__")) (k:PySem.W.keepIn K (.ref C)=true) (i:PySem.W.findIn K (.ref C) "__init__" = some (some (.ref fI)))
  (fl:K.lookup fI=some ⟨oc,od,.func (PySem.W.fnOf "__init__" qual (defArgs st) (defBody st) (defScope st) .none kV dc pm an cd ct),sl⟩) (fc:PySem.W.codeIn K cd qual=true) (fk:PySem.W.keepIn K (.ref fI)=true) (fo:oc=.type "function")
  (sa:PySem.W.findIn K (.ref C) "__setattr__" = some (some (.builtin "object.__setattr__"))) (ga:PySem.W.findIn K (.ref C) "__getattribute__" = some (some (.builtin "BaseException.__getattribute__"))) (gh:PySem.W.findIn K (.ref C) "__getattr__" = some none):ClsT K x qual st C P0 :=
 ⟨a,⟨⟨_,_,_,_,_,_,_,_,_,_,_,_,_,_,l⟩⟩,k,⟨fI,_,_,i,fun_mk fl fc fk,fl,fo⟩,sa,ga,gh⟩
theorem ClsT.fld {K:PySem.W.Frag} {x qual:Str} {st:Stmt} {C P0:Addr} (c:ClsT K x qual st C P0) {f:Str} (h:PySem.W.findIn K (.ref C) f=some none):ErrF K C P0 f:=⟨c.er,c.sa,c.ga,c.gh,h⟩
theorem ClsT.mkr {P:Program} {w:World} {K:PySem.W.Frag} {mg:Str->Option Value} {h base:Heap} {x qual:Str} {st:Stmt} {C P0:Addr} {fs ps:List Str} (c:ClsT K x qual st C P0) (X:K.In h) (G:h.Ns mainGlobals mg) (ok:∀ fI fd,Fun K "__init__" qual st fI fd->FnOk P w K mg base CX0 1 fI fd ps (liftSp K (spIni C fs)))
  (b:∀ fI fd,Fun K "__init__" qual st fI fd->Binds K fd ps []):Mkr P w K mg base 1 x C P0 fs:=by
 obtain ⟨fI,fd,oI,h1,F,h2,h3⟩:=c.fn
 exact ⟨⟨fI,fd,ps,oI,ok fI fd F,b fI fd F,h1,h2,h3⟩,PySem.W.mg_of X G c.ns,c.kp,c.er⟩
theorem cls_some {K:PySem.W.Frag} {C:Addr} (e:X1.ErrG K C):(PySem.W.clsIn K C).isSome=true:=by
 obtain ⟨nm,q,N,bs,bm,sn,sub,ab,col,dd,k0,k1,k2,k3,k5,nid,hC,_⟩:=e.ex
 unfold PySem.W.clsIn
 rw [hC]
 rfl
theorem kit_ty {K:PySem.W.Frag} {C:Addr} (h:PySem.W.subIn K (.ref C) (.type "ValueError")=some true):PySem.W.kitOne K (.ref C) (.type "ValueError")=some true:=by
 unfold PySem.W.kitOne
 rw [if_neg (fun z=>by cases (beq_iff_eq.mp z))]
 show (if PySem.W.kitMeta "ValueError" = true then PySem.W.subIn K (.ref C) (.type "ValueError") else none)=_
 rw [if_pos (by decide +kernel)]
 exact h
theorem kit_no {K:PySem.W.Frag} {C c:Addr} (n:C≠c) (e:X1.ErrG K c) (t:PySem.W.typeIn K (.ref c)=some (.type "type")) (h:PySem.W.subIn K (.ref C) (.ref c)=some false):PySem.W.kitOne K (.ref C) (.ref c)=some false:=by
 unfold PySem.W.kitOne
 rw [if_neg (fun z=>n (Value.ref.inj (beq_iff_eq.mp z)))]
 show (if ((PySem.W.clsIn K c).isSome && PySem.W.typeIn K (.ref c) == some (.type "type"))=true then PySem.W.subIn K (.ref C) (.ref c) else none)=_
 rw [if_pos (by rw [cls_some e,t];rfl)]
 exact h
theorem errG_of {K:PySem.W.Frag} {C N:Addr} {nm q:Str} {bs bm:List Value} {sn:List Str} {sub:List Value} {ab:Bool} {col:Option Bool} {dd:Option Addr} {k0 k1 k2 k3 k5:Option Value} {nid:String} (l:K.lookup C=some (excClassObj nm q C N bs bm true sn sub ab col dd k0 k1 k2 k3 k5 nid)) (h:bm.contains (.type "BaseException")=true):X1.ErrG K C :=
 ⟨_,_,_,_,_,_,_,_,_,_,_,_,_,_,_,_,l,h⟩
theorem per_mk {K:PySem.W.Frag} {p0 N:Addr} {nm q:Str} {bs:List Value} {sn:List Str} {sub:List Value} {ab:Bool} {col:Option Bool} {dd od:Option Addr} {k0 k1 k2 k3 k5:Option Value} {es:Array DictEntry} {ep:Nat} {oc:Value} {sl:Array (Option Value)} (l:K.lookup p0=some (excClassObj nm q p0 N bs X1.VE true sn sub ab col dd k0 k1 k2 k3 k5 "ValueError.__new__")) (n:K.lookup N=some ⟨oc,od,.dict es ep,sl⟩) (s:StrKeys es) (i:nsFind es "__init__" = none) :
  ∃ nm q N bs sn sub ab col dd k0 k1 k2 k3 k5 es ep oc od sl,K.lookup p0=some (excClassObj nm q p0 N bs X1.VE true sn sub ab col dd k0 k1 k2 k3 k5 "ValueError.__new__")/\K.lookup N=some ⟨oc,od,.dict es ep,sl⟩/\StrKeys es/\nsFind es "__init__" = none :=
 ⟨_,_,_,_,_,_,_,_,_,_,_,_,_,_,_,_,_,_,_,l,n,s,i⟩
def isStrK (e:DictEntry):Bool:=match e.key with
 | .str _ _=>true
 | _=>false
theorem strKeys_of {es:Array DictEntry} (h:es.all isStrK=true):StrKeys es:=fun e he=>by
 have:=Array.all_eq_true_iff_forall_mem.mp h e he
 unfold isStrK at this
 split at this
 ·rename_i n t z;exact ⟨n,t,z⟩
 ·cases this
end KA
namespace D3
open PySem PySem.Spec PyProof.Rows L2
abbrev hush (X:Cx):Cx:={ X with xe:=fun _ _=>False }
section
variable {X:Cx} {pins:List (Addr × Obj)} {σ:St} {H:Hp} {s:Shared} {G:Ga} {M:MH}
theorem ok_hush (o:X.Ok):(hush X).Ok:=⟨o.mod,o.kind,o.glob,o.blt,o.above,o.inj,o.has,o.cab,o.hd,o.frames,o.stk,o.exf,o.bs,o.bsz,o.noex,o.exfs,o.funs,o.frf⟩
theorem ok_loud (o:(hush X).Ok):X.Ok:=⟨o.mod,o.kind,o.glob,o.blt,o.above,o.inj,o.has,o.cab,o.hd,o.frames,o.stk,o.exf,o.bs,o.bsz,o.noex,o.exfs,o.funs,o.frf⟩
theorem inv_hush (I:L2.Inv X pins σ H s):L2.Inv (hush X) pins σ H s:=⟨ok_hush I.ok,I.os,I.bare,I.base,I.loc,I.cell,I.free,I.freeC,I.pin,I.hok,I.len⟩
theorem inv_loud (I:L2.Inv (hush X) pins σ H s):L2.Inv X pins σ H s:=⟨ok_loud I.ok,I.os,I.bare,I.base,I.loc,I.cell,I.free,I.freeC,I.pin,I.hok,I.len⟩
theorem rel_hush (R:Rel X G M σ H):Rel (hush X) G M σ H:=⟨R.loc,R.mem⟩
theorem rel_loud (R:Rel (hush X) G M σ H):Rel X G M σ H:=⟨R.loc,R.mem⟩
theorem ex_hush {st:Stmt} {E:EndsD} (h:EX (hush X) G M st E):EX X G M st E:=by
 intro pins s σ H I R
 refine wpAny_mono (h pins s σ H (inv_hush I) (rel_hush R)) (fun f s' q=>?_) (fun _ _ z=>z.elim)
 cases f with
 | next=>obtain ⟨σ',H',G',M',I',g,R',q⟩:=q;exact ⟨σ',H',G',M',inv_loud I',g,rel_loud R',q⟩
 | brk=>obtain ⟨σ',H',G',M',I',g,R',q⟩:=q;exact ⟨σ',H',G',M',inv_loud I',g,rel_loud R',q⟩
 | cont=>obtain ⟨σ',H',G',M',I',g,R',q⟩:=q;exact ⟨σ',H',G',M',inv_loud I',g,rel_loud R',q⟩
 | ret u=>obtain ⟨v,σ',H',d,M',I',r,g,i,m,q⟩:=q;exact ⟨v,σ',H',d,M',inv_loud I',r,g,i,m,q⟩
end
end D3
namespace KA
open PySem PySem.Spec PyProof.Rows L2 D3 K01
inductive Rf where
 | great (n m:Int) | name (x:Str) | meas (p:Pce)
def Rf.c (Cg Cn Cm:Addr):Rf->Addr
 | .great _ _=>Cg
 | .name _=>Cn
 | .meas _=>Cm
def Rf.f:Rf->List (Str × D)
 | .great n m=>[("number",.int n),("most",.int m)]
 | .name x=>[("name",.str x)]
 | .meas p=>[("place",pcD p)]
def Tells (Cg Cn Cm:Addr) (r:Option Rf) (M:MH) (Q:DK) (R:XQ):Prop:=match r with
 | none=>∀ M',Ext M M'->Q .non M'
 | some e=>∀ M' dx,Ext M M'->M' dx=none->R (e.c Cg Cn Cm) e.f (mset M' dx (.att e.f))
section
variable {Cg Cn Cm:Addr} {M M1:MH} {Q Q1:DK} {R:XQ}
theorem Tells.ext {r:Option Rf} (h:Tells Cg Cn Cm r M Q R) (e:Ext M M1):Tells Cg Cn Cm r M1 Q R:=by
 cases r with
 | none=>exact fun M' h'=>h M' (Ext.trans e h')
 | some x=>exact fun M' dx h' hd=>h M' dx (Ext.trans e h') hd
theorem Tells.first {r1 r2:Option Rf} (h:Tells Cg Cn Cm (r1 <|> r2) M Q R) (k:∀ M',Ext M M'->Tells Cg Cn Cm r2 M' Q R->Q1 .non M'):Tells Cg Cn Cm r1 M Q1 R:=by
 cases r1 with
 | some x=>exact h
 | none=>exact fun M' h'=>k M' h' (Tells.ext h h')
theorem Tells.last {r:Option Rf} (h:Tells Cg Cn Cm r M Q R) (k:∀ M',Q .non M'->Q1 .non M'):Tells Cg Cn Cm r M Q1 R:=by
 cases r with
 | some x=>exact h
 | none=>exact fun M' h'=>k M' (h M' h')
end
def over (a b:Int):Option Rf:=if a > b then some (.great a b) else none
def notIn (ss:List Str):List Str->Option Rf
 | []=>none
 | x :: xs=>if x∈ss then notIn ss xs else some (.name x)
def loopIn (x:Pce × Stm):Option Rf:=match x.2 with
 | .whl _ _ (some _) b=>if (tts b).l > 0 then some (.meas x.1) else none
 | _=>none
def within (ss:List Str):List (Pce × Stm)->Option Rf
 | []=>none
 | x :: xs=>notIn ss (nmS x.2) <|> (loopIn x <|> within ss xs)
def deepest (xs:List (Pce × Stm)):Int:=xs.foldr (fun x m=>max (deep x) m) 0
def smallDue (ss:List Str) (b:List Stm):Option Rf :=
 over (ss.length:Nat) 3 <|> (over ((tts b).s:Nat) 24 <|> (over (deepest (layB [] 0 b)) 4 <|> (over ((tts b).b:Nat) 2 <|> (over ((tts b).l:Nat) 2 <|> (over ((tts b).a:Nat) 1 <|> over (noted ((layB [] 0 b).map (·.2))).sum 2)))))
def planDue (ss:List Str) (rs:List Rw) (b:List Stm):Option Rf:=smallDue ss b <|> (notIn ss (nmR rs) <|> within ss (layB [] 0 b))
structure Fine (rs:List Rw) (b:List Stm):Prop where
 s:(tts b).s<=100
 long:∀ x∈layB [] 0 b,x.1.length<=300
 note:∀ s∈(layB [] 0 b).map (·.2),noteN s<=100
 rs:RsOk rs
 st:∀ x∈layB [] 0 b,StOk x.2
def spLessX (Cg Cn Cm:Addr):SpX:=fun ds M Q R=>∃ a b:Int,ds=[.int a,.int b]/\Tells Cg Cn Cm (over a b) M Q R
def spAmongX (Cg Cn Cm:Addr):SpX:=fun ds M Q R=>∃ (ss xs:List Str) (q:Addr),ds=[nms ss,.ref q]/\M q=some (strsD xs)/\xs.length<=500/\Tells Cg Cn Cm (notIn ss xs) M Q R
def spNoLpX (Cg Cn Cm:Addr):SpX:=fun ds M Q R=>∃ (p:Pce) (r:Rw) (rs:List Rw) (m:Option (Sm × Int)) (b:List Stm),ds=[pcD p,stD (.whl r rs m b)]/\(tts b).s<=100/\Tells Cg Cn Cm (if (tts b).l > 0 then some (.meas p) else none) M Q R
def spBearX (Cg Cn Cm:Addr):SpX:=fun ds M Q R=>∃ (x:Pce × Stm),ds=[pcD x.1,stD x.2]/\(tt x.2).s<=100/\Tells Cg Cn Cm (loopIn x) M Q R
def spSmallX (Cg Cn Cm:Addr):SpX:=fun ds M Q R=>∃ (ss:List Str) (a:Addr) (rs:List Rw) (b:List Stm),ds=[nms ss,.ref a]/\M a=some (.lst ((layB [] 0 b).map prD))/\Fine rs b/\Tells Cg Cn Cm (smallDue ss b) M Q R
def spPlanX (Cg Cn Cm:Addr):SpX:=fun ds M Q R=>∃ (ss:List Str) (rs:List Rw) (b:List Stm),ds=[.tup [nms ss,.tup (rs.map rwD),.tup (stDs b)]]/\Fine rs b/\Tells Cg Cn Cm (planDue ss rs b) M Q R
theorem deepest_is {xs:List (Pce × Stm)} {r:Int} (hd:∀ x∈xs,0<=deep x) (h:(xs=[]/\r=0)\/((∃ x∈xs,r=deep x)/\∀ x∈xs,deep x<=r)):r=deepest xs:=by
 have lo:∀ {xs:List (Pce × Stm)} {x},x∈xs->deep x<=deepest xs:=by
  intro xs
  induction xs with
  | nil=>intro x h;cases h
  | cons y ys ih =>
   intro x h
   show deep x<=max (deep y) (deepest ys)
   rcases List.mem_cons.mp h with rfl | h
   ·omega
   ·have:=ih h;omega
 have hi:∀ {xs:List (Pce × Stm)} {r:Int},0<=r->(∀ x∈xs,deep x<=r)->deepest xs<=r:=by
  intro xs
  induction xs with
  | nil=>intro r h _;exact h
  | cons y ys ih =>
   intro r h h2
   show max (deep y) (deepest ys)<=r
   have h3:=h2 y (List.mem_cons_self ..)
   have h4:=ih h fun x hx=>h2 x (List.mem_cons_of_mem _ hx)
   omega
 rcases h with ⟨rfl,rfl⟩ | ⟨⟨x,hx,rfl⟩,h⟩
 ·rfl
 ·have h1:=lo hx
  have h2:=hi (hd x hx) h
  omega
theorem notIn_app {ss:List Str}:∀ {xs:List Str} {i:Nat} {x:Str},xs[i]?=some x->(∀ y∈xs.take i,y∈ss)->x∉ss->notIn ss xs=some (.name x)
 | [],i,x,h,_,_=>by simp at h
 | y :: ys,0,x,h,_,hx=>by cases h;unfold notIn;rw [if_neg hx]
 | y :: ys,i+1,x,h,ht,hx=>by
  unfold notIn
  rw [if_pos (ht y (by simp))]
  exact notIn_app (by simpa using h) (fun z hz=>ht z (by rw [List.take_succ_cons];exact List.mem_cons_of_mem _ hz)) hx
theorem notIn_none {ss:List Str}:∀ {xs:List Str},(∀ y∈xs,y∈ss)->notIn ss xs=none
 | [],_=>rfl
 | y :: ys,h=>by unfold notIn;rw [if_pos (h y (List.mem_cons_self ..))];exact notIn_none fun z hz=>h z (List.mem_cons_of_mem _ hz)
end KA
namespace D3
open PySem PySem.Spec PyProof.Rows L2
section
variable {X:Cx} {G:Ga} {M:MH} {o e:Expr} {Q:DK} {apos cpos pos:Pos}
end
section
variable {X:Cx} {G:Ga} {M:MH} {own:List Str} {js:List Nat} {N:List Str} {scope:Scope} {elt tg iter:Expr} {pos:Pos}
end
section
variable {X:Cx} {G:Ga} {M:MH} {elt tg iter:Expr} {ifs:List Expr} {scope:Scope} {pos:Pos} {Q:DK} {own:List Str} {js:List Nat} {N:List Str} {cl:List (Str × Addr)}
end
end D3
namespace KA
open PySem PySem.Spec PyProof.Rows L2 D3 K01
def gS (s:Stm):Prop:=okS s/\∀ p,∀ x∈lay p s,StOk x.2
def gSs (b:List Stm):Prop:=∀ s∈b,gS s
theorem layB_of (p:Pce):∀ {i:Nat} {b:List Stm} {x:Pce × Stm},x∈layB p i b->∃ s∈b,∃ q,x∈lay q s
 | i,[],x,h=>by simp only [layB] at h;cases h
 | i,s :: r,x,h=>by
  simp only [layB,List.mem_append] at h
  rcases h with h | h
  ·exact ⟨s,List.mem_cons_self ..,_,h⟩
  ·obtain ⟨t,ht,q,hq⟩:=layB_of p h
   exact ⟨t,List.mem_cons_of_mem _ ht,q,hq⟩
theorem gSs.at {b:List Stm} (h:gSs b) {p:Pce} {i:Nat} {x:Pce × Stm} (hx:x∈layB p i b):StOk x.2:=by
 obtain ⟨s,hs,q,hq⟩:=layB_of p hx
 exact (h s hs).2 q x hq
structure Pl (k:Nat) (ss:List Str) (rs:List Rw) (b:List Stm):Prop where
 ne:ss≠[]
 ok:∀ x∈ss,PyData.strOk x=true
 nm:ss.length<=3+6 * k
 rl:rs.length<=2
 rt:∀ r∈rs,r.2.1.length<=30
 rk:∀ r∈rs,okT r.2.1
 g:gSs b
 dp:dps b<=6
 s:(tts b).s<=24+27 * k
theorem Pl.rok {k:Nat} {ss:List Str} {rs:List Rw} {b:List Stm} (h:Pl k ss rs b):RsOk rs:=⟨by have:=h.rl;omega,h.rt⟩
theorem WfP.pl {pl:Plan} (h:WfP pl):Pl 0 pl.ss pl.rs pl.bl:=by
 have hl:=h.names.le
 refine ⟨fun z=>by have:=h.names.pos;rw [z] at this;exact absurd this (by decide),fun x hx=>(h.names.lett x hx).ok,by omega,h.rl,fun r hr=>by have:=(h.rs r hr).ts.len;omega,fun r hr=>okT_of h.names.lett (h.rs r hr).ts,fun s hs=>?_,Nat.le_trans (dps_le h.dp) (by decide),by have:=h.cs;omega⟩
 have hw:wf pl.ss s:=by
  have hb:=h.bl
  generalize pl.bl=b at hb hs
  induction b with
  | nil=>cases hs
  | cons t r ih =>
   simp only [wfs] at hb
   rcases List.mem_cons.mp hs with rfl | hs
   ·exact hb.1
   ·exact ih hb.2 hs
 exact ⟨wf_ok h.names.lett s hw,fun p x hx=>stOk hl (lay_wf _ s hw x hx)⟩
theorem Pl.fine {k:Nat} {ss:List Str} {rs:List Rw} {b:List Stm} (h:Pl k ss rs b) (hk:k<=2):Fine rs b:=by
 refine ⟨by have:=h.s;omega,fun x hx=>?_,fun s hs=>?_,h.rok,fun x hx=>h.g.at hx⟩
 ·have h1:=layB_dp [] 0 b x hx
  have h2:=h.dp
  have:([] : Pce).length=0:=rfl
  omega
 ·obtain ⟨x,hx,rfl⟩:=List.mem_map.mp hs
  have:=h.g.at hx
  cases e:x.2 with
  | note rs=>rw [e] at this;have:=this.1;show rs.length<=100;omega
  | _=>show 0<=100;omega
def plA (ss:List Str) (rs:List Rw) (b:List Stm):D:=.tup [nms ss,.tup (rs.map rwD),.tup (stDs b)]
theorem within_none {ss:List Str}:∀ {xs:List (Pce × Stm)},(∀ x∈xs,wf ss x.2)->within ss xs=none
 | [],_=>rfl
 | x :: xs,h=>by
  have hx:=h x (List.mem_cons_self ..)
  unfold within
  rw [notIn_none (nmS_mem hx),within_none fun y hy=>h y (List.mem_cons_of_mem _ hy)]
  have:loopIn x=none:=by
   obtain ⟨p,s⟩:=x
   unfold loopIn
   cases s with
   | whl r rs m b =>
    cases m with
    | none=>rfl
    | some m =>
     have:=hx
     simp only [wf] at this
     have hl:(tts b).l=0:=this.2.2.2.1.2.2.2
     simp only
     rw [if_neg (by omega)]
   | _=>rfl
  rw [this];rfl
theorem over_none {a b:Int} (h:a<=b):over a b=none:=by unfold over;rw [if_neg (by omega)]
theorem WfP.due {p:Plan} (h:WfP p):planDue p.ss p.rs p.bl=none:=by
 have hs:=h.small
 have hd:deepest (layB [] 0 p.bl)<=4:=by
  have:=hs.deep
  generalize layB [] 0 p.bl=xs at this
  induction xs with
  | nil=>show (0:Int)<=4;decide
  | cons x r ih =>
   show max (deep x) (deepest r)<=4
   have h1:=this x (List.mem_cons_self ..)
   have h2:=ih fun y hy=>this y (List.mem_cons_of_mem _ hy)
   omega
 unfold planDue smallDue
 rw [over_none (by have:=hs.names;omega),over_none (by have:=hs.cs;omega),over_none hd,over_none (by have:=hs.cb;omega),over_none (by have:=hs.cl;omega),over_none (by have:=hs.ca;omega),over_none hs.cn,notIn_none (nmR_mem h.rs),within_none (layB_wf _ _ _ h.bl)]
 rfl
def okE:Option Rf->Prop
 | some (.name x)=>PyData.strOk x=true
 | _=>True
def dueD:Option Rf->List D
 | none=>[]
 | some (.great n m)=>[.str "great",.int n,.int m]
 | some (.name x)=>[.str "name",.str x]
 | some (.meas p)=>[.str "measure",pcD p]
def ExtE (M M':MH):Prop:=∀ b o,M b=some o->(∀ fs,o≠.att fs)->M' b=some o
theorem extE {M M':MH} (h:Ext M M'):ExtE M M':=fun b o e _=>h b o e
theorem ExtE.trans {M M1 M2:MH} (h:ExtE M M1) (k:ExtE M1 M2):ExtE M M2:=fun b o e n=>k b o (h b o e n) n
theorem eqv_nil (ds:List D):PyData.eqvAll (pdL ds) (pdL [])=decide (ds=[]):=by
 cases ds with
 | nil=>simp [pdL,PyData.eqvAll]
 | cons d r=>simp [pdL,PyData.eqvAll]
theorem cut1 (xs:List D):D3.cutD xs (some 1) none=xs.drop 1:=by
 unfold D3.cutD
 rw [HT.sIx_none]
 have:HT.sIx xs.length 0 (some 1)=min 1 xs.length:=HT.sIx_nat xs.length 0 1
 rw [this]
 cases xs with
 | nil=>rfl
 | cons x r=>rw [show min 1 (x :: r).length=1 by simp];exact List.take_of_length_le (by rw [List.length_drop];omega)
theorem dep_pc (p:Pce):(pd (pcD p)).depth<=1:=depth_le (n:=0) fun d hd=>by
 obtain ⟨n,_,rfl⟩:=List.mem_map.mp hd
 simp [pd,PyData.depth]
end KA
namespace D3
open PySem PySem.Spec PyProof.Rows L2
section
variable {X:Cx} {G:Ga} {M:MH} {a b c e f o i:Expr} {pos apos cpos:Pos} {Q:DK}
end
end D3
namespace KA
open PySem PySem.Spec PyProof.Rows L2 D3 K01
def jmp (t:Nat):D:=.tup [.str "jump",.int t]
def hlt:D:=.tup [.str "halt"]
def brC (ask:List D) (n:Nat) (f:List D) (g:List D):List D :=
 .tup (ask++[.int ((n+1+f.length+1:Nat):Int)]) :: (f++jmp (n+1+f.length+1+g.length) :: g)
def lpC (pl:Pce) (r:Rw) (rs:List Rw) (m:Option (Sm × Int)) (n:Nat) (c:List D):List D :=
 .tup [.str "enter",pcD pl] :: .tup [.str "head",pcD pl,.tup (rs.map rwD),msD m,rwD r,.int ((n+2+c.length+1:Nat):Int)] :: (c++[jmp (n+1)])
mutual
def cS:Stm->Pce->Nat->List D
 | .set x s,pl,_=>[.tup [.str "set",pcD pl,.str x,smD s]]
 | .any x,pl,_=>[.tup [.str "any",pcD pl,.str x]]
 | .note rs,pl,_=>[.tup [.str "note",pcD pl,.tup (rs.map rwD)]]
 | .choose a b,pl,n=>brC [.str "fork",pcD pl] n (cB a (pl++[0]) 0 (n+1)) (cB b (pl++[1]) 0 (n+1+(cB a (pl++[0]) 0 (n+1)).length+1))
 | .ite r a b,pl,n=>brC [.str "unless",pcD pl,rwD r] n (cB a (pl++[0]) 0 (n+1)) (cB b (pl++[1]) 0 (n+1+(cB a (pl++[0]) 0 (n+1)).length+1))
 | .whl r rs m b,pl,n=>lpC pl r rs m n (cB b (pl++[0]) 0 (n+2))
def cB:List Stm->Pce->Nat->Nat->List D
 | [],_,_,_=>[]
 | s :: r,pl,i,n=>cS s (pl++[i]) n++cB r pl (i+1) (n+(cS s (pl++[i]) n).length)
end
theorem cB_app (pl:Pce) (b:List Stm):∀ (a:List Stm) (i n:Nat),cB (a++b) pl i n=cB a pl i n++cB b pl (i+a.length) (n+(cB a pl i n).length)
 | [],i,n=>by simp only [List.nil_append,cB,List.length_nil,Nat.add_zero]
 | s :: a,i,n=>by
  show cB (s :: (a++b)) pl i n=_
  simp only [cB,cB_app pl b a,List.append_assoc,List.length_append,List.length_cons]
  rw [show i+1+a.length=i+(a.length+1) from by omega,Nat.add_assoc n]
theorem cB_take {pl:Pce} {b:List Stm} {i n:Nat} {s:Stm} (h:b[i]?=some s):cB (b.take (i+1)) pl 0 n=cB (b.take i) pl 0 n++cS s (pl++[i]) (n+(cB (b.take i) pl 0 n).length):=by
 have hi:=(List.getElem?_eq_some_iff.mp h).1
 have e:b.take (i+1)=b.take i++[s]:=by rw [List.take_succ,h];rfl
 rw [e,cB_app]
 simp only [cB,List.append_nil,List.length_take,Nat.min_eq_left (Nat.le_of_lt hi),Nat.zero_add]
theorem brC_len (ask:List D) (n:Nat) (f g:List D):(brC ask n f g).length=f.length+g.length+2:=by
 simp only [brC,List.length_cons,List.length_append];omega
theorem lpC_len (pl:Pce) (r:Rw) (rs:List Rw) (m:Option (Sm × Int)) (n:Nat) (c:List D):(lpC pl r rs m n c).length=c.length+3:=by
 simp only [lpC,List.length_cons,List.length_append,List.length_nil]
mutual
theorem cS_len:∀ (s:Stm) (pl:Pce) (n:Nat),(cS s pl n).length<=3 * (tt s).s
 | .set x s,pl,n=>by simp only [cS,tt,List.length_cons,List.length_nil];decide
 | .any x,pl,n=>by simp only [cS,tt,List.length_cons,List.length_nil];decide
 | .note rs,pl,n=>by simp only [cS,tt,List.length_cons,List.length_nil];decide
 | .choose a b,pl,n=>by
  have h1:=cB_len a (pl++[0]) 0 (n+1)
  have h2:=cB_len b (pl++[1]) 0 (n+1+(cB a (pl++[0]) 0 (n+1)).length+1)
  simp only [cS,brC_len,tt,Cnt.add];omega
 | .ite r a b,pl,n=>by
  have h1:=cB_len a (pl++[0]) 0 (n+1)
  have h2:=cB_len b (pl++[1]) 0 (n+1+(cB a (pl++[0]) 0 (n+1)).length+1)
  simp only [cS,brC_len,tt,Cnt.add];omega
 | .whl r rs m b,pl,n=>by
  have h1:=cB_len b (pl++[0]) 0 (n+2)
  simp only [cS,lpC_len,tt,Cnt.add];omega
theorem cB_len:∀ (b:List Stm) (pl:Pce) (i n:Nat),(cB b pl i n).length<=3 * (tts b).s
 | [],pl,i,n=>by simp only [cB,tts,List.length_nil];omega
 | s :: r,pl,i,n=>by
  have h1:=cS_len s (pl++[i]) n
  have h2:=cB_len r pl (i+1) (n+(cS s (pl++[i]) n).length)
  simp only [cB,tts,Cnt.add,List.length_append];omega
end
theorem w1:(Str.ofString "enter")≠Str.ofString "jump" := by decide +kernel
def spCodeB (k:Nat):SpD:=fun ds M Q=>∃ (pl:Pce) (b:List Stm) (n:Nat),ds=[pcD pl,.tup (stDs b),.int n]/\dps b<=k/\(tts b).s<=24/\pl.length+2 * k<=20/\∀ q M',M q=none->M' q=some (.lst (cB b pl 0 n))->Ext M M'->Q (.ref q) M'
def spCodeS (k:Nat):SpD:=fun ds M Q=>∃ (pl:Pce) (s:Stm) (n:Nat),ds=[pcD pl,stD s,.int n]/\dp s<=k/\(tt s).s<=24/\pl≠[]/\pl.length+2 * k<=21/\∀ q M',M q=none->M' q=some (.lst (cS s pl n))->Ext M M'->Q (.ref q) M'
def spCodeBr (k:Nat):SpD:=fun ds M Q=>∃ (pl:Pce) (ask:List D) (a b:List Stm) (n:Nat),ds=[pcD pl,.tup ask,blD [a,b],.int n]/\ask≠[]/\ask.length<=5/\dps a<=k/\dps b<=k/\(tts a).s+(tts b).s<=24/\pl≠[]/\pl.length+1+2 * k<=20/\∀ q M',M q=none->M' q=some (.lst (brC ask n (cB a (pl++[0]) 0 (n+1)) (cB b (pl++[1]) 0 (n+1+(cB a (pl++[0]) 0 (n+1)).length+1))))->Ext M M'->Q (.ref q) M'
def spCodeL (k:Nat):SpD:=fun ds M Q=>∃ (pl:Pce) (r:Rw) (rs:List Rw) (m:Option (Sm × Int)) (b:List Stm) (n:Nat),ds=[pcD pl,stD (.whl r rs m b),.int n]/\dps b<=k/\(tts b).s<=24/\pl≠[]/\pl.length+1+2 * k<=20/\∀ q M',M q=none->M' q=some (.lst (lpC pl r rs m n (cB b (pl++[0]) 0 (n+2))))->Ext M M'->Q (.ref q) M'
end KA
namespace D3
open PySem PySem.Spec PyProof.Rows L2
def putD9 (f:Str) (v:D):List (Str × D)->List (Str × D)
 | []=>[(f,v)]
 | (g,x) :: r=>if g=f then (g,v) :: r else (g,x) :: putD9 f v r
theorem FsIs.len {H:Hp}:∀ {fs:List (Str × D)} {ys:List (Str × V)},FsIs H fs ys->fs.length=ys.length
 | [],ys,h=>by rw [show ys=[] from h];rfl
 | (k,d) :: r,ys,h=>by
  obtain ⟨v,ys',rfl,_,h2⟩:=h
  rw [List.length_cons,List.length_cons,FsIs.len h2]
theorem FsIs.put9 {H:Hp} {f:Str} {d:D} {v:V} (i:Is H d v):∀ {fs:List (Str × D)} {ys:List (Str × V)},FsIs H fs ys->FsIs H (putD9 f d fs) (putF f v ys)
 | [],ys,h=>by rw [show ys=[] from h];exact ⟨v,[],rfl,i,rfl⟩
 | (k,e) :: r,ys,h=>by
  obtain ⟨u,ys',rfl,h1,h2⟩:=h
  unfold putD9 putF
  by_cases z:k=f
  ·rw [if_pos z,if_pos z];exact ⟨v,ys',rfl,i,h2⟩
  ·rw [if_neg z,if_neg z];exact ⟨u,_,rfl,h1,h2.put9 i⟩
theorem FsIs.look {H:Hp} {f:Str}:∀ {fs:List (Str × D)} {ys:List (Str × V)},FsIs H fs ys->match fs.lookup f with
  | some d=>∃ v,ys.lookup f=some v/\Is H d v
  | none=>ys.lookup f=none
 | [],ys,h=>by rw [show ys=[] from h];rfl
 | (k,e) :: r,ys,h=>by
  obtain ⟨u,ys',rfl,h1,h2⟩:=h
  have ih:=h2.look (f:=f)
  rw [List.lookup_cons,List.lookup_cons]
  cases hb:f == k with
  | true=>exact ⟨u,rfl,h1⟩
  | false=>exact ih
section
variable {X:Cx} {G:Ga} {M:MH} {o e value:Expr} {es:List Expr} {pos apos pos':Pos} {Q:DK} {E:EndsD}
theorem ev_fld {f:Str} (h:EV X G M o fun d M1=>∃ a C fs v,d=.ref a/\M1 a=some (.ins C fs)/\Cls X.K C/\NoAttr X.K C f/\fs.lookup f=some v/\Q v M1) (hb:attributeBase o f X.env (eval o X.env)=eval o X.env):EV X G M (.Attribute o f pos) Q:=by
 refine EV.of (pe_fld (pe_D (G:=G)) hb) fun σ H kf R=>?_
 refine ⟨M,_,R,h,fun v H' d M' kf' g i R' q=>?_⟩
 obtain ⟨a,C,fs,v',rfl,ha,c,n,hl,q⟩:=q
 rw [is_ref] at i;subst i
 obtain ⟨dx,ys,e1,hy⟩:=R'.mem a _ ha
 have:=hy.look (f:=f)
 rw [hl] at this
 obtain ⟨u,hu,iu⟩:=this
 exact ⟨a,C,dx,ys,u,rfl,e1,c,n,hu,fun _=>⟨g,v',M',iu,R'.mem,q⟩⟩
theorem ex_fld {f:Str} (h:EV X G M value fun dv M1=>EV X G M1 o fun d M2=>∃ a C fs,d=.ref a/\M2 a=some (.ins C fs)/\Cls X.K C/\NoAttr X.K C f/\fs.length < 1000/\E.nx G (mset M2 a (.ins C (putD9 f dv fs))))
  (hs:swapsWith value (some (.Attribute o f pos')) pos.line X.env=pure false):EX X G M (.Assign [.Attribute o f pos'] value pos) E:=by
 intro pins s σ H I R
 refine plainObj_wpAny_Assign_Attribute (thn (h pins s σ H I R) fun u s1 ⟨y,H1,dv,M1,I1,ry,g1,i1,R1,q1⟩=>thn (q1 pins s1 σ H1 I1 R1) fun ov s2 ⟨x,H2,dO,M2,I2,rx,g2,i2,R2,a,C,fs,e,ha,c,n,hl,q⟩=>?_) hs
 subst e
 rw [is_ref] at i2;subst i2
 obtain rfl:ov=Value.ref a:=rx
 obtain ⟨dx,ys,e1,hy⟩:=R2.mem a _ ha
 have nt:∀ zs,H2 a≠some (.tup zs):=fun zs z=>by rw [e1] at z;cases z
 have gu:Grow H2 (upd H2 a (.ins C dx (putF f y ys))):=grow_upd nt
 refine setattr_ok I2 e1 c n (by rw [<- hy.len];exact hl) ry fun s3 I3=>⟨σ,_,G,_,I3,(g1.trans g2).trans gu,R2.to gu (R2.mem.put (u:=.ins C (putD9 f dv fs)) nt ⟨dx,_,upd_same,?_⟩),q⟩
 exact (hy.grow gu).put9 (Is.grow (g2.trans gu) _ _ i1)
structure CalM (P:Program) (w:World) (K:PySem.W.Frag) (mg:Str->Option Value) (base:Heap) (k:Nat) (C:Addr) (m:Str) (sp:SpD):Prop where
 cls:Cls K C
 ex:∃ (f:Addr) (fd:FuncData) (ps:List Str),FnOk P w K mg base CX0 k f fd ps (liftSp K sp)/\Meth K C m f/\Binds K fd ps []
theorem ev_meth0 {j k:Nat} {C:Addr} {m:Str} {sp:SpD} {pl:Sem Bool} (c:CalM X.prog X.w X.K X.mg X.base j C m sp) (hr:Room k X.A) (hk:j<=k)
  (h:EV X G M o fun d M1=>∃ a fs,d=.ref a/\M1 a=some (.ins C fs)/\fs.lookup m=none/\sp [.ref a] M1 Q)
  (ht:eval (.Call (.Attribute o m apos) [] [] pos) X.env=(do
   let ov <- eval o X.env
   standAt apos.atName
   let (f,first) <- holding [ov] (getMethod ov m pl)
   callWith pos f first (backTo pos (starEach [] X.env)) (backToKw pos (keywordEach [] X.env)))):EV X G M (.Call (.Attribute o m apos) [] [] pos) Q:=by
 intro pins s σ H I R
 obtain ⟨f,fd,ps,F,hm,hb⟩:=c.ex
 refine PySem.W.methodCall_KW (pl:=pl) (thn (h pins s σ H I R) fun u s1 ⟨x,H1,d,M1,I1,rx,g1,i1,R1,a,fs,e1,ha,hl,q⟩=>?_) ht
 subst e1
 rw [is_ref] at i1;subst i1
 obtain rfl:u=Value.ref a:=rx
 obtain ⟨dx,ys,e2,hy⟩:=R1.mem a _ ha
 have:=hy.look (f:=m)
 rw [hl] at this
 refine getmeth_ok I1 e2 c.cls hm this ?_
 exact PySem.W.callWith_K0 (first:=[.ref a]) I1.kIn hm.kp (run_fnD (us:=[.ref a]) (vs:=[.ref a]) (ds:=[.ref a]) (F.mono hk) hr hb I1 R1 g1 (.cons rfl .nil) (isl_cons.mpr ⟨_,_,rfl,is_ref.mpr rfl,isl_nil.mpr rfl⟩) q)
end
def AtM (K:PySem.W.Frag) (C:Addr) (m qual:Str) (st:Stmt):Prop:=∃ (f:Addr) (od an:Option Addr) (sl:Array (Option Value)) (oc kV dc pm cd ct:Value),PySem.W.findIn K (.ref C) m=some (some (.ref f))/\K.lookup f=some ⟨oc,od,.func (PySem.W.fnOf m qual (defArgs st) (defBody st) (defScope st) .none kV dc pm an cd ct),sl⟩/\PySem.W.codeIn K cd qual=true/\PySem.W.keepIn K (.ref f)=true/\PySem.W.isFn K (.ref f)=true
theorem AtM.mk {K:PySem.W.Frag} {C:Addr} {m qual:Str} {st:Stmt} {f:Addr} {od an:Option Addr} {sl:Array (Option Value)} {oc kV dc pm cd ct:Value} (a:PySem.W.findIn K (.ref C) m=some (some (.ref f))) (l:K.lookup f=some ⟨oc,od,.func (PySem.W.fnOf m qual (defArgs st) (defBody st) (defScope st) .none kV dc pm an cd ct),sl⟩)
  (c:PySem.W.codeIn K cd qual=true) (k:PySem.W.keepIn K (.ref f)=true) (i:PySem.W.isFn K (.ref f)=true):AtM K C m qual st:=⟨f,od,an,sl,oc,kV,dc,pm,cd,ct,a,l,c,k,i⟩
theorem AtM.get {K:PySem.W.Frag} {C:Addr} {m qual:Str} {st:Stmt} (A:AtM K C m qual st):∃ f fd,Fun K m qual st f fd/\Meth K C m f:=by
 obtain ⟨f,od,an,sl,oc,kV,dc,pm,cd,ct,a,l,c,k,i⟩:=A
 exact ⟨f,_,fun_mk (st:=st) l c k,a,i,k⟩
structure ClsI (K:PySem.W.Frag) (x:Str) (C:Addr):Prop where
 ns:PySem.W.nsIn K mainGlobals x=some (some (.ref C))
 cls:Cls K C
 makes:PySem.W.makesIn K C=true
 kp:PySem.W.keepIn K (.ref C)=true
theorem ClsI.mk' {K:PySem.W.Frag} {x:Str} {C:Addr} (a:PySem.W.nsIn K mainGlobals x=some (some (.ref C))) (pg:PySem.W.plainGet K C Str.empty=true) (hd:PySem.W.hasDictIn K C=true) (po:PySem.W.plainOver K C=true)
  (sa:PySem.W.findIn K (.ref C) "__setattr__" = some (some (.builtin "object.__setattr__"))) (m:PySem.W.makesIn K C=true) (k:PySem.W.keepIn K (.ref C)=true):ClsI K x C:=⟨a,⟨pg,hd,po,sa⟩,m,k⟩
theorem ClsI.mk_ {K:PySem.W.Frag} {x:Str} {C f:Addr} (c:ClsI K x C) (m:Meth K C "__init__" f):Mk K C f:=⟨c.makes,m.at_,m.fn,c.kp⟩
open X1
theorem exs_nox {X:Cx} {G:Ga} {M:MH} {st:List Stmt} {E:EndsD} (h:EXs X.nox G M st E):EXs X G M st E:=fun pins s σ H I R =>
 wpAny_mono (h pins s σ H (I.wish _) ⟨R.1,R.2⟩) (fun f s' q=>by
  cases f with
  | next=>obtain ⟨σ',H',G',M',I,g',R,q⟩:=q;exact ⟨σ',H',G',M',I.unwish,g',⟨R.1,R.2⟩,q⟩
  | brk=>obtain ⟨σ',H',G',M',I,g',R,q⟩:=q;exact ⟨σ',H',G',M',I.unwish,g',⟨R.1,R.2⟩,q⟩
  | cont=>obtain ⟨σ',H',G',M',I,g',R,q⟩:=q;exact ⟨σ',H',G',M',I.unwish,g',⟨R.1,R.2⟩,q⟩
  | ret u=>obtain ⟨v,σ',H',d,M',I,q⟩:=q;exact ⟨v,σ',H',d,M',I.unwish,q⟩) fun _ _ z=>False.elim z
structure KlsX (P:Program) (w:World) (K:PySem.W.Frag) (mg:Str->Option Value) (base:Heap) (k:Nat) (x:Str) (C:Addr) (sp:SpX):Prop where
 ex:∃ (f:Addr) (fd:FuncData) (ps:List Str),FnOk P w K mg base (XCX P w) k f fd ps (liftX K sp)/\Mk K C f/\Binds K fd ps []
 mg:mg x=some (.ref C)
section
variable {X:Cx} {G:Ga} {M:MH} {e:Expr} {es:List Expr} {pos:Pos} {Q:DK} {R:Ga->XQ}
theorem made_runX {k:Nat} {x:Str} {C:Addr} {sp:SpX} {pins:List (Addr × Obj)} {σ:St} {H0 H:Hp} {s:Shared} {us:List Value} {vs:List V} {ds:List D} (m:KlsX X.prog X.w X.K X.mg X.base k x C sp) (hr:Room (k+1) X.A)
  (T:Thr X R) (I:L2.Inv X pins σ H s) (Rl:Rel X G M σ H) (g0:Grow H0 H) (r:Vals vs us) (i:IsL H ds vs) (h:∀ a,M a=none->sp (.ref a :: ds) (mset M a (.ins C [])) (fun d M2=>d=.non/\Q (.ref a) M2) (R G)) :
  wpAny (model X.prog X.w) X.A (call (.ref C) us) (EPD X pins σ G H0 Q) X.xe s:=by
 obtain ⟨f,fd,ps,F,mk,hb⟩:=m.ex
 have hx:H (s.heap.objs.size+1)=none:=I.hok.fresh (Nat.le_succ _)
 have hd:H s.heap.objs.size=none:=I.hok.fresh (Nat.le_refl _)
 have hM:M (s.heap.objs.size+1)=none:=mem_not Rl.mem I.kIn hx (Nat.le_succ _)
 have hMd:M s.heap.objs.size=none:=mem_not Rl.mem I.kIn hd (Nat.le_refl _)
 have hne:s.heap.objs.size≠s.heap.objs.size+1:=Nat.ne_of_lt (Nat.lt_succ_self _)
 have I2:=Inv.made (C:=C) I
 generalize hH2:upd (upd H s.heap.objs.size (.own (s.heap.objs.size+1))) (s.heap.objs.size+1) (.ins C s.heap.objs.size [])=H2 at I2
 have gr:Grow H H2:=by
  rw [<- hH2]
  refine (grow_new hd).trans (grow_new ?_)
  rw [upd_ne hne.symm];exact hx
 have mem2:MemOk X.K (mset M (s.heap.objs.size+1) (.ins C [])) H2:=by
  rw [<- hH2]
  exact (Rl.mem.new hd).lay (by rw [upd_ne hne.symm];exact hx) ⟨_,[],upd_same,rfl⟩
 have hq:liftX X.K sp (V.ref (s.heap.objs.size+1) :: vs) H2 (fun v H'=>v=.non/\∃ M',Grow H2 H'/\MemOk X.K M' H'/\Q (.ref (s.heap.objs.size+1)) M') (fun cv dd H'=>∃ C dx fs es M',cv=.ref C/\dd=some dx/\Grow H2 H'/\H' dx=some (.xd fs)/\MemOk X.K M' H'/\FsIs H' es fs/\R G C es M') :=
  ⟨.ref (s.heap.objs.size+1) :: ds,_,_,R G,isl_cons.mpr ⟨_,_,rfl,is_ref.mpr rfl,i.grow gr⟩,mem2,h _ hM,fun v H' d M' g iv mm q=>⟨by rw [q.1,is_non] at iv;exact iv,M',g,mm,q.2⟩,fun C dx fs es M' H' g h1 m h2 q=>⟨C,dx,fs,es,M',rfl,rfl,g,h1,m,h2,q⟩⟩
 have r2:Vals (V.ref (s.heap.objs.size+1) :: vs) (Value.ref (s.heap.objs.size+1) :: us):=.cons rfl r
 have hl:(Value.ref (s.heap.objs.size+1) :: us++[]).length=ps.length:=by
  have e:=r2.length
  rw [F.len _ _ _ _ hq] at e
  rw [List.append_nil]
  exact e.symm
 have hbs:=hb _ (Value.ref (s.heap.objs.size+1) :: us) I2.kIn hl
 rw [List.append_nil] at hbs
 refine wpAny_call (make_map (f:=f) I.kIn mk.makes mk.init (beq_iff_eq.mp mk.fn) (codeAny_mono (F.run _ X.stack _ _ ⟨Value.ref (s.heap.objs.size+1) :: us,[]⟩ (Value.ref (s.heap.objs.size+1) :: us) _ _ _ (hr.make C us []) (I2.env0.make C us []) hbs r2 hq) fun r s' hq'=>?_))
 cases r with
 | error e =>
  obtain ⟨a,C',dx,fs,H',rfl,hos,hb',un,hok,fl,hsz,C2,dx',fs',es,M',e1,e3,g,h1,m,h2,q⟩:=hq'
  cases e1;cases e3
  have I3:=I2.call' hos un hok hb' (fun b z=>absurd z (by simp))
  have hfe:fs=fs':=by
   have:=fl.own.symm.trans h1
   simpa using this
  subst hfe
  exact T pins σ H' s' a C' dx fs es G M' I3 fl (Nat.le_trans I2.sz hsz) (fun p hp=>Nat.ne_of_lt (Nat.lt_of_lt_of_le (Heap.lt_size (I2.pin p hp).1) hsz)) (Rl.to (gr.trans g) m) h2 q
 | ok fl =>
  cases fl with
  | ret u =>
   obtain ⟨v,H',I3,rv,ev,M',g3,m3,q3⟩:=I2.after hq'
   subst ev
   exact ⟨rv,⟨V.ref (s.heap.objs.size+1),H',.ref (s.heap.objs.size+1),M',I3,rfl,g0.trans (gr.trans g3),is_ref.mpr rfl,Rl.to (gr.trans g3) m3,q3⟩⟩
  | next=>exact False.elim hq'
  | brk=>exact False.elim hq'
  | cont=>exact False.elim hq'
theorem ev_newX {j k:Nat} {x:Str} {p:Pos} {C:Addr} {sp:SpX} (m:KlsX X.prog X.w X.K X.mg X.base k x C sp) (hr:Room j X.A) (hj:k+1<=j) (T:Thr X R)
  (h:AV X G M (e :: es) fun ds M1=>∀ a,M1 a=none->sp (.ref a :: ds) (mset M1 a (.ins C [])) (fun d M2=>d=.non/\Q (.ref a) M2) (R G)) (hg:Gl X x) (hdb:(x == ("__debug__" : Str))=false)
  (he:starEach (e :: es) X.env=(false,eval e X.env) :: starEach es X.env) (hpl:(backTo pos (starEach es X.env)).any (·.1)=false):EV X G M (.Call (.Name x p) (e :: es) [] pos) Q:=by
 intro pins s σ H I Rl
 obtain ⟨f,fd,ps,F,mk,hb⟩:=m.ex
 refine wpAny_Call_Name_kw (ld_glob I hg m.mg ?_ hdb)
 refine PySem.W.callWith_K (h₀:=X.base) I.ok.mod.kin mk.kp (thn (h pos pins s σ H I Rl) fun us s1 ⟨vs,H1,ds,M1,I1,r1,g1,i1,R1,q1⟩=>⟨I1.kIn,?_⟩) he hpl
 exact made_runX m (hr.mono hj) T I1 R1 g1 r1 i1 q1
end
section
variable {P:Program} {w:World} {A:Around} {E:Value->Shared->Prop} {s:Shared}
theorem keys_noneL:typeLookup (.type "list") (Str.ofString "keys")=pure none:=by kernel_rfl
theorem attrQ_missL {a:Addr} {xs:Array Value} {k:Nat} {sl:Array (Option Value)} {Q:Option Value->Shared->Prop} (e:s.heap.get? a=some { cls:=.type "list",data:=.seq xs k,slots:=sl }) (hh:A.handled=none)
  (q:∀ h' tk,(∀ b o,s.heap.get? b=some o->h'.get? b=some o)->Q none { s with heap:=h',toks:=tk }) :
  wpAny (model P w) A (getAttr? (.ref a) (Str.ofString "keys")) Q E s:=by
 show wpAny _ A (mkText _ >>= _) _ _ s
 refine wpAny_bind (wpAny_mkText ?_)
 show wpAny _ A (Sem.attempt (getAttrBy _ _ false) >>= _) _ _ _
 refine wpAny_bind (wpAny_attempt ?_)
 show wpAny _ A (holding _ (typeOf _ >>= _)) _ _ _
 refine wpAny_holding (wpAny_bind (wpAny_typeOf_ref e ?_))
 refine wpAny_bind (wpAny_of_eq PySem.F.slot_list_getattribute.lookup ?_)
 show wpAny _ A (getAttrByItsOwn _ _ (.type "list") (.builtin "list.__getattribute__") false false) _ _ _
 show wpAny _ A (hookBefore (.type "list") >>= _) _ _ _
 refine wpAny_bind (wpAny_of_eq (show hookBefore (.type "list")=pure none from by kernel_rfl) ?_)
 show wpAny _ A (Sem.attempt (holding [] (callGetattribute _ _ _ false)) >>= _) _ _ _
 refine wpAny_bind (wpAny_attempt (wpAny_holding ?_))
 show wpAny _ A (bindSpecial (.builtin "list.__getattribute__") (.ref a) >>= _) _ _ _
 refine wpAny_bind (wpAny_of_eq (PySem.F.slot_list_getattribute.bind _) ?_)
 refine call_meets PySem.F.slot_list_getattribute ⟨_,e,rfl⟩ am_entry_list_getattribute (PySem.F.args_list_getattribute_2 _ _) (meets_getattribute_miss_list a xs k sl _ _ keys_noneL (by decide +kernel)) ⟨e,hh,fun h' tk ex ne=>?_⟩
 obtain ⟨t,u,et⟩:=ne.there
 show wpAny _ A (isInstance _ _ >>= _) _ _ _
 refine wpAny_bind (wpAny_isInstance (T := "AttributeError") ⟨_,et,rfl⟩ sub_AttributeError ?_)
 show wpAny _ A (hookBehind (.type "list") none >>= _) _ _ _
 refine wpAny_bind (wpAny_of_eq am_list_getattr_none ?_)
 show wpAny _ A (throw _ >>= _) _ _ _
 refine wpAny_bind (wpAny_throw ?_)
 show wpAny _ A (isInstance _ _ >>= _) _ _ _
 refine wpAny_bind (wpAny_isInstance (T := "AttributeError") ⟨_,et,rfl⟩ sub_AttributeError ?_)
 exact wpAny_pure (q h' tk ne.keeps)
theorem call_pairsL {a:Addr} {its:List Value} {n:Nat} {sl:Array (Option Value)} {kv:Nat->Key × Value} {Q:Value->Shared->Prop} (hh:A.handled=none) (e:s.heap.get? a=some { cls:=.type "list",data:=.seq its.toArray n,slots:=sl }) (hz:its.length<=sizeLine)
  (hv:∀ i v,its[i]?=some v->PairAt P w s.heap v (kv i)) (hnd:∀ i j,i < j->j < its.length->(kv i).1≠(kv j).1)
  (q:∀ g tk,g.DictOf (mixKind P w) s.heap.objs.size ((List.range its.length).map kv)->(∀ b o,s.heap.get? b=some o->g.get? b=some o)->Q (.ref s.heap.objs.size) { s with heap:=g,toks:=tk }) :
  wpAny (model P w) A (call (.type "dict") [.ref a]) Q E s:=by
 refine callType_codes PySem.F.kt_called_dict (show checkTypeCall "dict" ⟨[.ref a],[]⟩=pure () from by kernel_rfl) PySem.F.entry_dict_init (kt_code_dict_new (Q₁:=fun obj s1=>obj=.ref s.heap.objs.size/\s1={ s with heap:=s.heap.push { cls:=.type "dict",data:=.dict #[] } }) _ ⟨rfl,rfl⟩) ?_
 rintro obj s1 ⟨rfl,rfl⟩
 have ed:(s.heap.push { cls:=.type "dict",data:=.dict #[] }).get? s.heap.objs.size=some { cls:=.type "dict",data:=.dict #[] }:=Heap.get?_push_size _ rfl
 refine ⟨⟨_,ed,rfl⟩,PySem.F.args_dict_init_2 _ _,?_⟩
 show wpAny _ A.in1.in1 (Builtin.Dict.selfAndRest "__init__" _ >>= _) _ _ _
 show wpAny _ A.in1.in1 ((Builtin.Dict.notOrdered "__init__" _ >>= _) >>= _) _ _ _
 refine wpAny_bind (wpAny_bind ?_)
 show wpAny _ A.in1.in1 (typeOf (.ref s.heap.objs.size) >>= _) _ _ _
 refine wpAny_bind (wpAny_typeOf_ref ed ?_)
 refine wpAny_pure ?_
 show wpAny _ A.in1.in1 (Builtin.Dict.addrOf (.ref s.heap.objs.size) >>= _) _ _ _
 refine wpAny_bind (wpAny_pure (wpAny_pure ?_))
 have ea:(s.heap.push { cls:=.type "dict",data:=.dict #[] }).get? a=some { cls:=.type "list",data:=.seq its.toArray n,slots:=sl }:=Heap.get?_push_of_some _ e
 show wpAny _ A.in1.in1 (typeOf (.ref a) >>= _) _ _ _
 refine wpAny_bind (wpAny_typeOf_ref ea ?_)
 show wpAny _ A.in1.in1 (getAttr? (.ref a) "keys" >>= _) _ _ _
 refine wpAny_bind (attrQ_missL ea hh fun h1 tk1 k1=>?_)
 show wpAny _ A.in1.in1 (rule _ >>= _) _ _ _
 refine wpAny_bind (wpAny_rule ?_)
 show wpAny _ A.in1.in1 (pyIter (.ref a) >>= _) _ _ _
 refine wpAny_bind (wpAny_pyIter_list ⟨_,k1 _ _ ea,rfl,n,rfl⟩ ?_)
 have ltA:a < h1.objs.size:=Heap.lt_size (k1 _ _ ea)
 have ltD:s.heap.objs.size < h1.objs.size:=Heap.lt_size (k1 _ _ ed)
 have W:=PySem.Walks.list (prog:=P) (w:=w) (A:=A.in1.in1) hh h1.objs.size a (Nat.ne_of_lt ltA) its.toArray
 have hs0:∀ b o,s.heap.get? b=some o->h1.get? b=some o:=fun b o z=>k1 _ _ (Heap.get?_push_of_some _ z)
 refine wpAny_pure ⟨plainId_quiet plainDul _,?_⟩
 refine pairs_loop (hp:=s.heap) (d:=s.heap.objs.size) W kv (fun i v hx=>hv i v (by simpa using hx)) (fun z=>?_) (Heap.get?_none_of_le (Nat.le_refl _)) (fun x hx=>?_) (fun i j h1 h2=>hnd i j h1 (by simpa using h2)) (by simpa using hz) _ 0 _ 0 0 rfl (Nat.zero_le _) ⟨⟨_,Heap.get?_push_size _ rfl,rfl,rfl⟩,⟨_,Heap.get?_push_of_some _ (k1 _ _ ea),rfl,n,rfl⟩⟩ (fun b o z=>Heap.get?_push_of_some _ (hs0 b o z)) ?_ fun g tk dd kp=>⟨rfl,?_⟩
 ·rcases List.mem_cons.mp z with z | z
  ·exact absurd z (Nat.ne_of_lt ltD)
  ·exact absurd (List.mem_singleton.mp z) (Nat.ne_of_gt (Heap.lt_size e))
 ·rw [List.mem_singleton.mp hx]
  exact Heap.get?_none_of_le (Nat.le_of_lt ltD)
 ·exact dict_keep (show (s.heap.push { cls:=.type "dict",data:=.dict #[] }).DictOf (mixKind P w) s.heap.objs.size [] from Heap.DictOf.new _) fun o z=>Heap.get?_push_of_some _ (k1 _ _ z)
 ·have:=q g tk (by simpa using dd) kp
  exact this
end
section
variable {X:Cx} {G:Ga} {M:MH} {e:Expr} {pos:Pos} {Q:DK}
theorem call_dictL (hc:X.calm=true):CallR X (.type "dict") (fun xs H Q=>∃ (a:Addr) (vs:List V) (ys:List (Key × V)),xs=[.ref a]/\H a=some (.lst vs)/\vs.length=ys.length/\(∀ (i:Nat) v y,vs[i]?=some v->ys[i]?=some y->∃ b,v=.ref b/\H b=some (.tup [kV y.1,y.2]))/\(ys.map (·.1)).Nodup/\∀ p,H p=none->Q (.ref p) (upd H p (.dK ys))):=by
 intro pins s σ H xs us Q I r h
 obtain ⟨a,vs,ys,rfl,e,hlen,hp,hnd,q⟩:=h
 obtain ⟨u,rfl,ru⟩:=vals1 r
 cases ru
 obtain ⟨z,its,n,rv,e1⟩:=(show ObjOk X.prog X.w H s.heap a (.lst vs) from I.hok a _ e)
 have hl:=rv.length
 have hit:∀ i:Nat,∃ kv:Key × Value,∀ y,ys[i]?=some y->y.1=kv.1/\RelV y.2 kv.2/\∀ u,its[i]?=some u->PairAt X.prog X.w s.heap u kv:=fun i=>by
  cases hy:ys[i]? with
  | none=>exact ⟨(Sum.inl 0,.none),fun y z=>by cases z⟩
  | some y =>
   have hi:i < vs.length:=by rw [hlen];exact (List.getElem?_eq_some_iff.mp hy).1
   obtain ⟨b,hb,hB⟩:=hp i vs[i] y (List.getElem?_eq_getElem hi) hy
   obtain ⟨u,hu,ru⟩:=rv.get (List.getElem?_eq_getElem hi)
   rw [hb] at ru
   cases (show u=Value.ref b from ru)
   obtain ⟨_,its2,rv2,o',e',cl',n',dat'⟩:=(show ObjOk X.prog X.w H s.heap b (.tup [kV y.1,y.2]) from I.hok b _ hB)
   cases rv2 with
   | cons r1 t1 =>
    cases t1 with
    | cons r2 t2 =>
     cases t2
     rename_i k0 v0
     refine ⟨(y.1,v0),fun y' hy'=>?_⟩
     cases hy'
     refine ⟨rfl,r2,fun u' hu'=>?_⟩
     rw [hu] at hu';cases hu'
     exact ⟨b,o',k0,n',rfl,e',cl',dat',kV_is r1⟩
 let kv:Nat->Key × Value:=fun i=>Classical.choose (hit i)
 have hkv:∀ i y,ys[i]?=some y->y.1=(kv i).1/\RelV y.2 (kv i).2/\∀ u,its[i]?=some u->PairAt X.prog X.w s.heap u (kv i):=fun i=>Classical.choose_spec (hit i)
 have hil:its.length=ys.length:=by rw [<- hl];exact hlen
 have hnone:s.heap.get? s.heap.objs.size=none:=Heap.get?_none_of_le (Nat.le_refl _)
 refine call_pairsL (kv:=kv) (I.ok.hd hc) e1 (by rw [<- hl];exact z) (fun i v hv=>?_) (fun i j h1 h2 z=>?_) fun g tk dd kp=>?_
 ·have hi:i < ys.length:=by rw [<- hil];exact (List.getElem?_eq_some_iff.mp hv).1
  exact (hkv i ys[i] (List.getElem?_eq_getElem hi)).2.2 v hv
 ·have hj:j < ys.length:=by rw [<- hil];exact h2
  have hi:i < ys.length:=Nat.lt_trans h1 hj
  rw [<- (hkv i ys[i] (List.getElem?_eq_getElem hi)).1,<- (hkv j ys[j] (List.getElem?_eq_getElem hj)).1] at z
  have:=List.pairwise_iff_getElem.mp hnd i j (by rw [List.length_map];exact hi) (by rw [List.length_map];exact hj) h1
  rw [List.getElem_map,List.getElem_map] at this
  exact this z
 ·rw [hil] at dd
  have I2:=I.laid (a:=s.heap.objs.size) (o:=.dK ys) (h':=g) (t':=tk) kp (Nat.le_refl _) (dk_new (by rw [<- hlen];exact z) (beq_eq_false_iff_ne.mpr (Ne.symm (Nat.ne_of_lt I.big))) (kv_of_ix fun i y hy=>⟨(hkv i y hy).1,(hkv i y hy).2.1⟩) dd)
  exact ⟨.ref s.heap.objs.size,_,I2,rfl,q _ (I.hok.fresh (Nat.le_refl _))⟩
theorem ev_dictL {p:Pos} (hc:X.calm=true) (hm:X.mg "dict" = none) (h:AV X G M [e] fun ds M1=>∃ (q:Addr) (ps:List (Str × D)),ds=[.ref q]/\M1 q=some (.lst (ps.map pairD))/\(ps.map (·.1)).Nodup/\∀ r,M1 r=none->Q (.ref r) (mset M1 r (.dic ps))) (hg:Gl X "dict") (he:SeX X e) (hpl:NpX X pos) :
  EV X G M (.Call (.Name "dict" p) [e] [] pos) Q :=
 ev_callTy (call_dictL hc) hm bootDict (h.mono fun ds M1 ⟨aq,ps,e1,hq,hnd,q⟩=>fun H xs kf hx m=>by
  subst e1
  obtain ⟨v,rfl,hv⟩:=isl1 hx
  rw [is_ref] at hv;subst hv
  obtain ⟨vs,ha,hvs⟩:=m aq _ hq
  obtain ⟨ys,k1,k2,k3,k4⟩:=pairs_is hvs
  refine ⟨aq,vs,ys,rfl,ha,k2,k4,?_,fun r hr kf'=>⟨grow_new hr,.ref r,mset M1 r (.dic ps),is_ref.mpr rfl,m.lay hr ⟨ys,upd_same,k1.grow (grow_new hr)⟩,q r (m.fresh hr kf')⟩⟩
  rw [k3]
  have:ps.map (fun t=>(Sum.inr t.1:Key))=(ps.map (·.1)).map Sum.inr:=by rw [List.map_map];rfl
  rw [this]
  exact nodup_inr hnd) hg (by decide) (by decide) he hpl
end
section
variable {X:Cx} {G:Ga} {M:MH} {c:Expr} {pos:Pos} {E:EndsD}
theorem ex_whileN {body:List Stmt} (Iv:Nat->Ga->MH->Prop) (n0:Nat) (hp:PassesOwn (model X.prog X.w) X.A X.env X.xe) (h0:Iv n0 G M)
  (step:∀ n G M,Iv n G M->TV X G M c fun k M1=>if k=true then EXs X G M1 body { nx:=fun G' M'=>∃ k,k < n/\Iv k G' M',ct:=fun G' M'=>∃ k,k < n/\Iv k G' M',bk:=E.nx,rt:=E.rt } else E.nx G M1) :
  EX X G M (.While c body [] pos) E:=by
 intro pins s σ H I R
 refine wpAny_While (codeAny_whileLoop (fun n s'=>∃ σ' H' G' M',Inv X pins σ' H' s'/\Grow H H'/\Rel X G' M' σ' H'/\Iv n G' M') ?_ n0 ⟨σ,H,G,M,I,Grow.refl _,R,h0⟩)
 rintro n s1 ⟨σ1,H1,G1,M1,I1,g1,R1,w1⟩
 refine wpAny_passesOwn hp (thn (step n G1 M1 w1 pins s1 σ1 H1 I1 R1) fun k s2 ⟨H2,M2,I2,g2,R2,q2⟩=>?_)
 cases k with
 | true =>
  rw [if_pos rfl]
  refine wpAny_passesOwn hp (thn (q2 pins s2 σ1 H2 I2 R2) fun f s3 q3=>?_)
  cases f with
  | next =>
   obtain ⟨σ3,H3,G3,M3,I3,g3,R3,k,lt,w3⟩:=q3
   exact ⟨k,lt,σ3,H3,G3,M3,I3,(g1.trans g2).trans g3,R3,w3⟩
  | cont =>
   obtain ⟨σ3,H3,G3,M3,I3,g3,R3,k,lt,w3⟩:=q3
   exact ⟨k,lt,σ3,H3,G3,M3,I3,(g1.trans g2).trans g3,R3,w3⟩
  | brk=>exact SPD.grow (f:=.brk) (E:={ E with bk:=E.nx }) (g1.trans g2) q3
  | ret v=>exact SPD.grow (f:=.ret v) (E:=E) (g1.trans g2) q3
 | false =>
  rw [if_neg Bool.false_ne_true]
  exact wpAny_execs_nil ⟨σ1,H2,G1,M2,I2,g1.trans g2,R2,q2⟩
end
theorem mul_tup0 (t:Tok) (l:Addr) (its:List Value) (n:Nat) (dc:Option Addr) (sl:Array (Option Value)) (hne:its≠[]) :
  Meets (Builtin.«tuple.__mul__» ⟨[.ref l,.int 0 t],[]⟩) (fun _ R st=>st.heap.get? l=some { cls:=.type "tuple",dict:=dc,data:=.seq its.toArray n,slots:=sl } /\
   R (.ok (.ret (.ref st.heap.objs.size))) { st with heap:=st.heap.push { cls:=.type "tuple",data:=.seq #[] } }) :=
 .of_wp fun P w B R st q=>by
  obtain ⟨hp,gs,dr,tk,os⟩:=st
  obtain ⟨h1,q⟩:=q
  have he:its.toArray.isEmpty=false:=by cases its with | nil=>exact absurd rfl hne | cons a r=>simp
  have c1:(decide ((0:Int) < -(2 ^ 63)) || decide ((0:Int) ≥ 2 ^ 63))=false:=by decide
  have c2:(its.toArray.isEmpty || (0:Int) == 1)=false:=by rw [he];decide
  have c3:(decide ((0:Int)<=0) || its.toArray.isEmpty)=true:=by simp
  wp_walk
  exact ⟨_,rfl,q⟩
def rRepT0 (K:PySem.W.Frag):R2:=fun x y H Q=>∃ l xs,x=.ref l/\y=.int 0/\SqT K H l xs/\xs≠[]/\∀ p,H p=none->Q (.ref p) (upd H p (.tup []))
section
variable {X:Cx} {G:Ga} {M:MH} {a b:Expr} {pos:Pos} {Q:DK}
theorem op_repT0:OpR X (binaryOp .Mult) (rRepT0 X.K):=by
 intro pins s σ H x y v u Q I rx ry h
 obtain ⟨l,xs,rfl,rfl,hq,hne,q⟩:=h
 cases rx
 obtain ⟨t,rfl⟩:=ry
 obtain ⟨its,r,⟨⟨c,dc,dt,sl⟩,e,hc,n,hd⟩,_⟩:=I.tuple hq
 simp only at hc hd
 subst hc;subst hd
 refine wpAny_binaryOp_repeat_ref (T := "tuple") (U := "int") (by decide) ⟨_,e,rfl⟩ (fun s'=>typeIs_int s' 0 t) noFill_tup F.fills_int_mul F.slot_int_rmul rep_tup F.slot_int_index.lookup
  (call_meets F.slot_int_rmul (typeIs_int s 0 t) F.entry_int_rmul (F.args_int_rmul_2 _ _) (rmul_tup 0 t l its.toArray n dc sl)
   ⟨e,rfl,⟨_,e,rfl⟩,call_meets F.slot_tuple_mul ⟨_,e,rfl⟩ F.entry_tuple_mul (F.args_tuple_mul_2 _ _) (mul_tup0 t l its n dc sl (fun z=>hne (r.nil_iff.mp z))) ⟨e,?_⟩⟩)
 exact ⟨.ref s.heap.objs.size,_,I.laid (t':=s.toks) (o:=.tup []) (fun b ob q=>Heap.get?_push_of_some _ q) (Nat.le_refl _) ⟨⟨Nat.zero_le _,_,Heap.get?_push_size _ rfl,rfl⟩,_,.nil,IsTup.new _ _⟩,rfl,q _ (I.hok.fresh (Nat.le_refl _))⟩
theorem ev_repT9 (h:EV X G M a fun da Ma=>EV X G Ma b fun db Mb=>∃ ds,∃ k:Nat,da=.tup ds/\db=.int (k:Int)/\ds≠[]/\k<=100/\ds.length<=100/\Q (.tup (List.replicate k ds).flatten) Mb):EV X G M (.BinOp a .Mult b pos) Q :=
 ev_op (op_repT0.or (op_repT1.or op_repT)) (h.mono fun _ _ h1=>h1.mono fun _ Mb ⟨ds,k,e1,e2,hne,hk,hd,q⟩=>by
  subst e1;subst e2
  intro H x y kf hx hy m
  rw [is_tup] at hx
  obtain ⟨l,us,rfl,hl,hu⟩:=hx
  rw [is_int] at hy;subst hy
  have hul:=hu.len
  have hun:us≠[]:=fun z=>hne (by rw [z] at hul;exact List.length_eq_zero_iff.mp hul)
  match k,hk,q with
  | 0,_,q=>exact .inl ⟨l,us,rfl,rfl,SqT.of hl,hun,fun p hp _=>⟨grow_new hp,.tup [],Mb,is_tup.mpr ⟨p,_,rfl,upd_same,isl_nil.mpr rfl⟩,m.new hp,q⟩⟩
  | 1,_,q =>
   refine .inr (.inl ⟨l,us,rfl,rfl,SqT.of hl,fun _=>⟨Grow.refl _,.tup ds,Mb,is_tup.mpr ⟨l,us,rfl,hl,hu⟩,m,?_⟩⟩)
   have e:(List.replicate 1 ds).flatten=ds:=by simp
   rw [e] at q;exact q
  | k+2,hk,q =>
   refine .inr (.inr ⟨l,((k+2:Nat):Int),us,rfl,rfl,SqT.of hl,hun,by omega,by omega,?_,fun p hp _=>⟨grow_new hp,.tup _,Mb,is_tup.mpr ⟨p,_,rfl,upd_same,(isl_flat hu _).grow (grow_new hp)⟩,m.new hp,?_⟩⟩)
   ·rw [<- hul]
    refine Nat.le_trans (Nat.mul_le_mul hd (show Int.toNat ((k+2:Nat):Int)<=100 by omega)) (by decide +kernel)
   ·rw [show Int.toNat ((k+2:Nat):Int)=k+2 from rfl];exact q)
end
end D3
namespace KA
open PySem PySem.Spec PyProof.Rows L2 D3 K01
def TellsR (Cg Cn Cm:Addr) (r:Option Rf) (M:MH) (q:Prop) (R:XQ):Prop:=match r with
 | none=>q
 | some e=>∀ M' dx,Ext M M'->M' dx=none->R (e.c Cg Cn Cm) e.f (mset M' dx (.att e.f))
def spCodeX (Cg Cn Cm:Addr):SpX:=fun ds M Q R=>∃ (ss:List Str) (rs:List Rw) (b:List Stm),ds=[plA ss rs b]/\Fine rs b/\(planDue ss rs b=none->dps b<=4/\(tts b).s<=24)/\TellsR Cg Cn Cm (planDue ss rs b) M (∀ q M',Ext M M'->Q (.ref q) M') R
structure TrG (K:PySem.W.Frag) (C:Addr):Prop where
 cls:Cls K C
 no:∀ f∈[Str.ofString "point",Str.ofString "turns",Str.ofString "givens",Str.ofString "deeds",Str.ofString "passed",Str.ofString "worths",Str.ofString "word",Str.ofString "place"],NoAttr K C f
structure Bl (C o:Addr) (M:MH) (fs:List (Str × D)) (M':MH):Prop where
 kp:∀ c u,c≠o->M c=some u->M' c=some u
 ho:M' o=some (.ins C fs)
theorem Bl.ext {C o:Addr} {M M' M2:MH} {fs:List (Str × D)} (h:Bl C o M fs M') (x:Ext M' M2):Bl C o M fs M2:=⟨fun c u n e=>x _ _ (h.kp c u n e),x _ _ h.ho⟩
theorem Bl.fld {C o:Addr} {M M':MH} {fs:List (Str × D)} (h:Bl C o M fs M') {fs':List (Str × D)}:Bl C o M fs' (mset M' o (.ins C fs')):=⟨fun c u n e=>by rw [mset_ne n];exact h.kp c u n e,mset_same⟩
def trG (p t g pa wo:Addr):List (Str × D):=[("point",.ref p),("turns",.ref t),("givens",.ref g),("deeds",.int 0),("passed",.ref pa),("worths",.ref wo),("word",.str "done"),("place",.tup [])]
def TrOn (C:Addr) (M:MH) (o:Addr):Prop:=∃ p t g pa wo kvs,M o=some (.ins C (trG p t g pa wo))/\M p=some (.dic kvs)
def stPr (kvs:List (Str × D)):D->D
 | .str s=>D3.pairD (s,(lkD kvs s).getD .non)
 | d=>d
def ptG (kvs:List (Str × D)) (ss:List Str):List (Str × D):=ss.map fun s=>(s,(lkD kvs s).getD .non)
theorem stPr_all (kvs:List (Str × D)) (ss:List Str):((ss.map D.str).filter fun _=>true).map (stPr kvs)=(ptG kvs ss).map D3.pairD:=by
 rw [List.filter_eq_self.mpr (by simp),List.map_map]
 unfold ptG
 rw [List.map_map]
 rfl
theorem ptG_keys (kvs:List (Str × D)) (ss:List Str):(ptG kvs ss).map (·.1)=ss:=by
 unfold ptG
 rw [List.map_map]
 exact List.map_id' _
def lackG (kvs:List (Str × D)) (ss:List Str):Option Rf:=notIn (kvs.map (·.1)) ss
def spTravX (Cg Cn Cm C:Addr):SpX:=fun ds M Q R=>∃ (o q0 tq gq:Addr) (kvs:List (Str × D)) (ss:List Str),ds=[.ref o,nms ss,.ref q0,.ref tq,.ref gq]/\M o=some (.ins C [])/\M q0=some (.dic kvs)/\M tq=some (.lst [])/\M gq=some (.lst [])/\ss.length<=3/\ss.Nodup/\TellsR Cg Cn Cm (lackG kvs ss) M (∀ M',TrOn C M' o->(∀ c u,c≠o->M c=some u->M' c=some u)->Q .non M') R
def spToldG (C:Addr):SpD:=fun ds M Q=>∃ o,ds=[.ref o]/\TrOn C M o/\∀ d M',Ext M M'->Q d M'
def spNbG:SpD:=fun ds M Q=>∃ o,ds=[.ref o,.tup [.str "halt"],.int 0]/\Q .non M
def spWalkX (Cg Cn Cm:Addr):SpX:=fun ds M Q R=>∃ (cq q0 tq gq:Addr) (kvs:List (Str × D)) (ss:List Str),ds=[.ref cq,nms ss,.ref q0,.ref tq,.ref gq]/\M cq=some (.lst [.tup [.str "halt"]])/\M q0=some (.dic kvs)/\M tq=some (.lst [])/\M gq=some (.lst [])/\ss.length<=3/\ss.Nodup/\TellsR Cg Cn Cm (lackG kvs ss) M (∀ d M',Ext M M'->Q d M') R
def spCaughtG (Cg Cn Cm:Addr):SpD:=fun ds M Q=>∃ (way:Int) (ss:List Str) (rs:List Rw) (b:List Stm) (q0:Addr) (kvs:List (Str × D)) (r:Option Rf),ds=[.int way,plA ss rs b,.ref q0]/\M q0=some (.dic kvs) /\
 ((way=0/\r=planDue ss rs b/\Fine rs b/\(planDue ss rs b=none->dps b<=4/\(tts b).s<=24))\/(way=1/\r=lackG kvs ss/\ss.length<=3/\ss.Nodup)) /\
 (r=none->∀ M',Ext M M'->Q .non M')/\(∀ e,r=some e->∀ a dx M',ExtE M M'->M' a=some (.exc (e.c Cg Cn Cm) (some dx) false)->M' dx=some (.att e.f)->dx≠a->Q (.ref a) M')
def spRefusedG (Cg Cn Cm:Addr):SpD:=fun ds M Q=>∃ (a dx q:Addr) (e:Rf),ds=[.ref a,.ref q]/\M q=some (.lst (dueD (some e)))/\okE (some e)/\M a=some (.exc (e.c Cg Cn Cm) (some dx) false)/\M dx=some (.att e.f)/\dx≠a/\∀ M',Ext M M'->Q (.bl true) M'
def spLackG:SpD:=fun ds M Q=>∃ (ss:List Str) (c:Int),ds=[nms ss,.int c]/\ss.length<=3/\0<=c/\c<=7/\∀ q kvs M',M' q=some (.dic kvs)->Ext M M'->Q (.ref q) M'
theorem notIn_filter (ks:List Str):∀ ss:List Str,notIn ks ss=((ss.filter fun s=>!decide (s∈ks)).head?).map Rf.name
 | []=>rfl
 | x :: r=>by
  unfold notIn
  rw [List.filter_cons]
  by_cases h:x∈ks
  ·rw [if_pos h,notIn_filter ks r,decide_eq_true h];rfl
  ·rw [if_neg h,decide_eq_false h];rfl
def setG (x:Str) (n:Int):Stm:=.set x ([],n,1)
def rowG (x:Str):Rw:=(true,[(x,1)],2)
def lpG (x:Str):Stm:=.whl (rowG x) [] (some (([],3,1),1)) [setG x 1,.whl (rowG x) [] none []]
theorem lay_lp (p:Pce) (x:Str):lay p (lpG x)=[(p,lpG x),(p++[0]++[0],setG x 1),(p++[0]++[1],.whl (rowG x) [] none [])]:=by
 simp only [lpG,lay,setG,layB,List.append_nil,List.nil_append,List.cons_append]
theorem lay_set (p:Pce) (x:Str) (n:Int):lay p (setG x n)=[(p,setG x n)]:=by simp only [setG,lay]
def blkG (x:Str) (k:Nat) (b:List Stm):List Stm:=List.replicate k (setG x 2)++b
theorem notIn_cons {ss xs:List Str} {x:Str} (h:x∈ss):notIn ss (x :: xs)=notIn ss xs:=by
 show (if x∈ss then notIn ss xs else _)=_
 rw [if_pos h]
theorem nm_set {x:Str} {n:Int}:nmS (setG x n)=[x]:=rfl
theorem nm_lp {x:Str}:nmS (lpG x)=[x]:=rfl
theorem within_set {ss:List Str} {x:Str} {n:Int} {p:Pce} {xs:List (Pce × Stm)} (h:x∈ss):within ss ((p,setG x n) :: xs)=within ss xs:=by
 show (notIn ss (nmS (setG x n)) <|> (loopIn (p,setG x n) <|> within ss xs))=_
 rw [nm_set,notIn_cons h]
 rfl
theorem within_lp {ss:List Str} {x:Str} {p:Pce} {xs:List (Pce × Stm)} (h:x∈ss):within ss ((p,lpG x) :: xs)=some (.meas p):=by
 show (notIn ss (nmS (lpG x)) <|> (loopIn (p,lpG x) <|> within ss xs))=_
 rw [nm_lp,notIn_cons h]
 rfl
theorem within_bad {ss:List Str} {y:Str} {n:Int} {p:Pce} {xs:List (Pce × Stm)} (h:y∉ss):within ss ((p,setG y n) :: xs)=some (.name y):=by
 show (notIn ss (nmS (setG y n)) <|> _)=_
 rw [nm_set]
 show ((if y∈ss then notIn ss [] else some (Rf.name y)) <|> _)=_
 rw [if_neg h]
 rfl
def laidG (x:Str) (k:Nat) (b:List Stm):List (Pce × Stm):=layB [] 0 (blkG x k b)
theorem laid1 (x:Str) (b:List Stm):laidG x 1 b=([0],setG x 2) :: layB [] 1 b:=by
 show layB [] 0 (setG x 2 :: b)=_
 simp only [layB,lay_set];rfl
theorem laid2 (x:Str) (b:List Stm):laidG x 2 b=([0],setG x 2) :: ([1],setG x 2) :: layB [] 2 b:=by
 show layB [] 0 (setG x 2 :: setG x 2 :: b)=_
 simp only [layB,lay_set];rfl
theorem lay_end (x:Str) (k:Nat):layB [] k [lpG x]=[([k],lpG x),([k,0,0],setG x 1),([k,0,1],.whl (rowG x) [] none [])]:=by
 simp only [layB,lay_lp];rfl
theorem lay_end2 (x y:Str) (k:Nat):layB [] k [setG y 1,lpG x]=[([k],setG y 1),([k+1],lpG x),([k+1,0,0],setG x 1),([k+1,0,1],.whl (rowG x) [] none [])]:=by
 simp only [layB,lay_lp,lay_set];rfl
theorem tt_lp (x:Str):tt (lpG x)=⟨3,0,2,0,0⟩:=by simp only [lpG,tt,tts,setG,Cnt.add]
theorem tt_set (x:Str) (n:Int):tt (setG x n)=⟨1,0,0,0,0⟩:=by simp only [setG,tt]
theorem tts_blk {x:Str} {b:List Stm} {c:Cnt} (h:tts b=c):∀ k,tts (blkG x k b)=⟨k+c.s,c.b,c.l,c.a,c.n⟩
 | 0=>by show tts b=_;rw [h];cases c;simp
 | k+1=>by
  show tts (setG x 2 :: blkG x k b)=_
  rw [tts,tt_set,tts_blk h k]
  simp only [Cnt.add]
  refine Cnt.ext' ?_ ?_ ?_ ?_ ?_<;>simp<;>omega
theorem tts1 (x:Str):tts [lpG x]=⟨3,0,2,0,0⟩:=by simp only [tts,tt_lp,Cnt.add]
theorem tts2 (x y:Str):tts [setG y 1,lpG x]=⟨4,0,2,0,0⟩:=by simp only [tts,tt_lp,tt_set,Cnt.add]
theorem due_meas {ss:List Str} {x:Str} (hx:x∈ss) (h3:ss.length<=3) {k:Nat} (hk:k<=2):planDue ss [] (blkG x k [lpG x])=some (.meas [k]):=by
 unfold planDue smallDue
 rw [over_none (a:=(ss.length:Nat)) (by omega),tts_blk (tts1 x)]
 rcases (by omega:k=0\/k=1\/k=2) with rfl | rfl | rfl
 ·rw [show layB [] 0 (blkG x 0 [lpG x])=_ from lay_end x 0,within_lp hx];kernel_rfl
 ·rw [show layB [] 0 (blkG x 1 [lpG x])=_ from laid1 x [lpG x],lay_end,within_set hx,within_lp hx];kernel_rfl
 ·rw [show layB [] 0 (blkG x 2 [lpG x])=_ from laid2 x [lpG x],lay_end,within_set hx,within_set hx,within_lp hx];kernel_rfl
theorem due_name {ss:List Str} {x y:Str} (hx:x∈ss) (hy:y∉ss) (h3:ss.length<=3) {k:Nat} (hk:k<=2):planDue ss [] (blkG x k [setG y 1,lpG x])=some (.name y):=by
 unfold planDue smallDue
 rw [over_none (a:=(ss.length:Nat)) (by omega),tts_blk (tts2 x y)]
 rcases (by omega:k=0\/k=1\/k=2) with rfl | rfl | rfl
 ·rw [show layB [] 0 (blkG x 0 [setG y 1,lpG x])=_ from lay_end2 x y 0,within_bad hy];kernel_rfl
 ·rw [show layB [] 0 (blkG x 1 [setG y 1,lpG x])=_ from laid1 x _,lay_end2,within_set hx,within_bad hy];kernel_rfl
 ·rw [show layB [] 0 (blkG x 2 [setG y 1,lpG x])=_ from laid2 x _,lay_end2,within_set hx,within_set hx,within_bad hy];kernel_rfl
theorem due_four {ss:List Str} (h:ss.length=4) (b:List Stm):planDue ss [] b=some (.great 4 3):=by
 unfold planDue smallDue
 rw [h];rfl
theorem fine_set {x:Str} {n:Int}:StOk (setG x n):=Nat.zero_le _
theorem fine_lp {x:Str}:StOk (lpG x):=⟨Nat.le_of_ble_eq_true rfl,⟨by decide,fun r h=>by cases h⟩,Nat.zero_le _⟩
theorem fine_in {x:Str}:StOk (.whl (rowG x) [] none []):=⟨Nat.le_of_ble_eq_true rfl,⟨by decide,fun r h=>by cases h⟩,trivial⟩
theorem fine_of {b:List Stm} {c:Cnt} (h:tts b=c) (hc:c.s<=100) (ha:∀ y∈layB [] 0 b,y.1.length<=300/\noteN y.2<=100/\StOk y.2):Fine [] b :=
 ⟨by rw [h];exact hc,fun y hy=>(ha y hy).1,fun s hs=>by obtain ⟨y,hy,rfl⟩:=List.mem_map.mp hs;exact (ha y hy).2.1,⟨by decide,fun r h=>by cases h⟩,fun y hy=>(ha y hy).2.2⟩
theorem fine_meas {x:Str} {k:Nat} (hk:k<=2):Fine [] (blkG x k [lpG x]):=by
 refine fine_of (tts_blk (tts1 x) k) (by show k+3<=100;omega) fun y hy=>?_
 rcases (by omega:k=0\/k=1\/k=2) with rfl | rfl | rfl
 ·rw [show layB [] 0 (blkG x 0 [lpG x])=_ from lay_end x 0] at hy
  simp only [List.mem_cons,List.not_mem_nil,or_false] at hy
  rcases hy with rfl | rfl | rfl<;>first | exact ⟨Nat.le_of_ble_eq_true rfl,Nat.le_of_ble_eq_true rfl,fine_lp⟩ | exact ⟨Nat.le_of_ble_eq_true rfl,Nat.le_of_ble_eq_true rfl,fine_set⟩ | exact ⟨Nat.le_of_ble_eq_true rfl,Nat.le_of_ble_eq_true rfl,fine_in⟩
 ·rw [show layB [] 0 (blkG x 1 [lpG x])=_ from laid1 x [lpG x],lay_end] at hy
  simp only [List.mem_cons,List.not_mem_nil,or_false] at hy
  rcases hy with rfl | rfl | rfl | rfl<;>first | exact ⟨Nat.le_of_ble_eq_true rfl,Nat.le_of_ble_eq_true rfl,fine_lp⟩ | exact ⟨Nat.le_of_ble_eq_true rfl,Nat.le_of_ble_eq_true rfl,fine_set⟩ | exact ⟨Nat.le_of_ble_eq_true rfl,Nat.le_of_ble_eq_true rfl,fine_in⟩
 ·rw [show layB [] 0 (blkG x 2 [lpG x])=_ from laid2 x [lpG x],lay_end] at hy
  simp only [List.mem_cons,List.not_mem_nil,or_false] at hy
  rcases hy with rfl | rfl | rfl | rfl | rfl<;>first | exact ⟨Nat.le_of_ble_eq_true rfl,Nat.le_of_ble_eq_true rfl,fine_lp⟩ | exact ⟨Nat.le_of_ble_eq_true rfl,Nat.le_of_ble_eq_true rfl,fine_set⟩ | exact ⟨Nat.le_of_ble_eq_true rfl,Nat.le_of_ble_eq_true rfl,fine_in⟩
theorem fine_name {x z:Str} {k:Nat} (hk:k<=2):Fine [] (blkG x k [setG z 1,lpG x]):=by
 refine fine_of (tts_blk (tts2 x z) k) (by show k+4<=100;omega) fun y hy=>?_
 rcases (by omega:k=0\/k=1\/k=2) with rfl | rfl | rfl
 ·rw [show layB [] 0 (blkG x 0 [setG z 1,lpG x])=_ from lay_end2 x z 0] at hy
  simp only [List.mem_cons,List.not_mem_nil,or_false] at hy
  rcases hy with rfl | rfl | rfl | rfl<;>first | exact ⟨Nat.le_of_ble_eq_true rfl,Nat.le_of_ble_eq_true rfl,fine_lp⟩ | exact ⟨Nat.le_of_ble_eq_true rfl,Nat.le_of_ble_eq_true rfl,fine_set⟩ | exact ⟨Nat.le_of_ble_eq_true rfl,Nat.le_of_ble_eq_true rfl,fine_in⟩
 ·rw [show layB [] 0 (blkG x 1 [setG z 1,lpG x])=_ from laid1 x _,lay_end2] at hy
  simp only [List.mem_cons,List.not_mem_nil,or_false] at hy
  rcases hy with rfl | rfl | rfl | rfl | rfl<;>first | exact ⟨Nat.le_of_ble_eq_true rfl,Nat.le_of_ble_eq_true rfl,fine_lp⟩ | exact ⟨Nat.le_of_ble_eq_true rfl,Nat.le_of_ble_eq_true rfl,fine_set⟩ | exact ⟨Nat.le_of_ble_eq_true rfl,Nat.le_of_ble_eq_true rfl,fine_in⟩
 ·rw [show layB [] 0 (blkG x 2 [setG z 1,lpG x])=_ from laid2 x _,lay_end2] at hy
  simp only [List.mem_cons,List.not_mem_nil,or_false] at hy
  rcases hy with rfl | rfl | rfl | rfl | rfl | rfl<;>first | exact ⟨Nat.le_of_ble_eq_true rfl,Nat.le_of_ble_eq_true rfl,fine_lp⟩ | exact ⟨Nat.le_of_ble_eq_true rfl,Nat.le_of_ble_eq_true rfl,fine_set⟩ | exact ⟨Nat.le_of_ble_eq_true rfl,Nat.le_of_ble_eq_true rfl,fine_in⟩
theorem layB_tk:∀ (b:List Stm) (p:Pce) (i n:Nat),∀ x∈layB p i (b.take n),x∈layB p i b
 | [],p,i,n=>by rw [List.take_nil];exact fun x h=>h
 | s :: r,p,i,0=>fun x h=>by rw [List.take_zero] at h;simp only [layB] at h;cases h
 | s :: r,p,i,n+1=>fun x h=>by
  rw [List.take_succ_cons] at h
  simp only [layB] at h ⊢
  rcases List.mem_append.mp h with h | h
  ·exact List.mem_append_left _ h
  ·exact List.mem_append_right _ (layB_tk r p (i+1) n x h)
theorem tts_tk:∀ (b:List Stm) (n:Nat),(tts (b.take n)).s<=(tts b).s
 | [],n=>by rw [List.take_nil];exact Nat.le_refl _
 | s :: r,0=>by rw [List.take_zero];simp only [tts];exact Nat.zero_le _
 | s :: r,n+1=>by
  rw [List.take_succ_cons]
  simp only [tts,Cnt.add]
  have:=tts_tk r n
  omega
theorem Fine.take {rs:List Rw} {b:List Stm} (h:Fine rs b) (n:Nat):Fine [] (b.take n) :=
 ⟨Nat.le_trans (tts_tk b n) h.s,fun x hx=>h.long x (layB_tk _ _ _ _ x hx),fun s hs=>by obtain ⟨y,hy,rfl⟩:=List.mem_map.mp hs;exact h.note _ (List.mem_map.mpr ⟨y,layB_tk _ _ _ _ y hy,rfl⟩),⟨by decide,fun r h=>by cases h⟩,fun x hx=>h.st x (layB_tk _ _ _ _ x hx)⟩
theorem cutG (ds:List D) (k:Nat):D3.cutD ds none (some (k:Int))=ds.take k:=by
 unfold D3.cutD
 rw [HT.sIx_nat,HT.sIx_none]
 rw [List.drop_zero,Nat.sub_zero]
 by_cases h:k<=ds.length
 ·rw [Nat.min_eq_left h]
 ·rw [Nat.min_eq_right (by omega),List.take_length,List.take_of_length_le (by omega)]
theorem set_D (x:Str) (n:Int):stD (setG x n)=.tup [.str "set",.str x,.tup [.tup [],.int n,.int 1]]:=by simp only [setG,stD];rfl
theorem blk_D (x:Str) (b:List Stm):∀ k:Nat,(List.replicate k [D.tup [.str "set",.str x,.tup [.tup [],.int 2,.int 1]]]).flatten++stDs b=stDs (blkG x k b)
 | 0=>rfl
 | k+1=>by
  rw [List.replicate_succ,List.flatten_cons,List.append_assoc,blk_D x b k]
  show _=stDs (setG x 2 :: blkG x k b)
  rw [stDs,set_D];rfl
theorem lack_name {ks ss:List Str} {x:Str} {r:List Str} (h:(ss.filter fun s=>!decide (s∈ks))=x :: r):notIn ks ss=some (.name x):=by rw [notIn_filter,h];rfl
theorem lack_none {ks ss:List Str} (h:(ss.filter fun s=>!decide (s∈ks))=[]):notIn ks ss=none:=by rw [notIn_filter,h];rfl
def lkG (kvs:List (Str × D)):D->Bool
 | .str s=>(lkD kvs s).isNone
 | _=>false
def lacksG (kvs:List (Str × D)) (ss:List Str):List Str:=ss.filter fun s=>!decide (s∈kvs.map (·.1))
theorem lkG_eq (kvs:List (Str × D)) (s:Str):(lkD kvs s).isNone=!decide (s∈kvs.map (·.1)):=by
 by_cases h:s∈kvs.map (·.1)
 ·obtain ⟨d,e,_⟩:=lkD_some h
  rw [e,decide_eq_true h];rfl
 ·rw [lkD_none h,decide_eq_false h];rfl
theorem lacks_map (kvs:List (Str × D)):∀ ss:List Str,((ss.map D.str).filter (lkG kvs)).map (fun d=>d)=(lacksG kvs ss).map D.str
 | []=>rfl
 | s :: r=>by
  have ih:=lacks_map kvs r
  rw [List.map_id'] at ih ⊢
  unfold lacksG at ih ⊢
  rw [List.map_cons,List.filter_cons,List.filter_cons]
  show (if (lkD kvs s).isNone=true then _ else _)=_
  rw [lkG_eq]
  split
  ·rw [List.map_cons,ih]
  ·exact ih
theorem imm_strsG {ss:List Str} (h:∀ s∈ss,PyData.strOk s=true):immL (ss.map D.str)=true:=immL_of fun d hd=>by
 obtain ⟨s,hs,rfl⟩:=List.mem_map.mp hd
 exact h s hs
theorem dep_strsG (ss:List Str):PyData.depthAll (pdL (ss.map D.str))<=59:=Nat.le_trans (depthAll_le (n:=0) fun d hd=>by
 obtain ⟨s,_,rfl⟩:=List.mem_map.mp hd
 exact Nat.le_refl _) (by decide)
end KA
namespace K44
open PySem PySem.Spec PyProof.Rows L2 D3 K01 KA
section
set_option hygiene false
def firstT (ts:List (Lean.TSyntax `tactic)):Lean.MacroM (Lean.TSyntax `tactic):=do
 let a:=ts.toArray
 `(tactic| first $[| $a:tactic]*)
def strT (s:String):Lean.TSyntax `str:=Lean.Syntax.mkStrLit s
def oneT (s:Lean.TSyntax `str):Lean.MacroM (Lean.TSyntax `tactic):=do
 let t:=s.getString
 let all (c:String):Lean.MacroM (Lean.TSyntax `tactic):=do firstT (<- (List.range 16).mapM fun i=>`(tactic| tm_at $(strT s!"{c}{i}")))
 if t == "var" then
  let f <- all "v"
  `(tactic| ((with_reducible show EV _ _ _ (Expr.Name _ _) _);$f))
 else if t == "asg" then
  let f <- all "a"
  `(tactic| ((with_reducible show EX _ _ _ (Stmt.Assign [Expr.Name _ _] _ _) _);$f))
 else if t == "gvn" then
  let f <- all "g"
  `(tactic| ((with_reducible show GV _ _ _ (Expr.Name _ _) _ _);$f))
 else match (t.drop 1).toNat? with
 | none=>Lean.Macro.throwUnsupported
 | some i =>
  let n:Lean.TSyntax `num:=Lean.Syntax.mkNumLit (toString i)
  if t.front == 'v' then `(tactic| ((with_reducible refine' ev_var $n ?_ ?n1 ?n2 ?n3 ?n4 ?n5);tm_at "tv"))
  else if t.front == 'a' then `(tactic| ((with_reducible refine' ex_set $n ?n0 ?_ ?n1 ?n2 ?n3 ?n4);tm_at "ta"))
  else if t.front == 'g' then `(tactic| ((with_reducible refine gv_name $n ?n0 ?_ ?n1 ?n2 ?n3);tm_at "tg";try (with_reducible refine let_E ?_;intro EL)))
  else Lean.Macro.throwUnsupported
def namT (xs:List String) (s:Lean.TSyntax `str):Lean.MacroM (Lean.TSyntax `tactic):=do
 let t:=s.getString
 if t == "var" then
  firstT (<- xs.zipIdx.mapM fun (x,i)=>`(tactic| ((with_reducible show EV _ _ _ (Expr.Name $(strT x) _) _);tm_at $(strT s!"v{i}"))))
 else if t == "asg" then
  firstT (<- xs.zipIdx.mapM fun (x,i)=>`(tactic| ((with_reducible show EX _ _ _ (Stmt.Assign [Expr.Name $(strT x) _] _ _) _);tm_at $(strT s!"a{i}"))))
 else if t == "gvn" then
  firstT (<- xs.zipIdx.mapM fun (x,i)=>`(tactic| ((with_reducible show GV _ _ _ (Expr.Name $(strT x) _) _ _);tm_at $(strT s!"g{i}"))))
 else Lean.Macro.throwUnsupported
def callT (xs:List String):Lean.MacroM (Lean.TSyntax `tactic):=do
 firstT (<- xs.mapM fun x=>do
  let c:=Lean.mkIdent (Lean.Name.mkSimple (if "_law_".isPrefixOf x then "C_l_" ++ x.drop 5 else "C_" ++ x))
  `(tactic| ((with_reducible show EV _ _ _ (Expr.Call (Expr.Name $(strT x) _) _ _ _) _);tm_at "tC";(case n0=>exact $c);tm_at "tc")))
end
def top (i:Nat):Stmt:=PySem.Challenge.pw_notekeep_k44_code_refused.main.body.getD i (.Pass ⟨0,0,0,0⟩)
section
open Lean
set_option hygiene false
def alN:Nat->(List PySem.Value->Prop)->Prop
 | 0,P=>P []
 | n+1,P=>∀ x,alN n fun l=>P (x :: l)
@[elab_as_elim] theorem ul (n:Nat):∀ {P:List PySem.Value->Prop} (us:List PySem.Value),us.length=n->alN n P->P us:=by
 induction n with
 | zero =>
  intro P us e h
  cases us
  ·exact h
  ·cases e
 | succ n ih =>
  intro P us e h
  cases us with
  | nil=>cases e
  | cons x us=>exact ih us (by simpa using e) (h x)
def lD (p:String):List String:=(p.splitOn " ").filter (· ≠ "")
def lT (l:List String):MacroM Term:=do
 let a:Array Term:=(l.map fun s=>(Syntax.mkStrLit s:Term)).toArray
 `([$a,*])
def iT (a x:String):Ident:=mkIdent (.mkSimple (a++x))
def dT (t : String) (b : Term) (p n : String) : MacroM Command := do
  let P := lD p
  let N := P ++ lD n
  return ⟨mkNullNode #[← `(command| noncomputable abbrev $(iT "s_" t) : Stmt := $b), ← `(command| noncomputable abbrev $(iT "N_" t) : List Str := $(← lT N)), ← `(command| noncomputable abbrev $(iT "P_" t) : List Str := $(← lT P)), ← `(command| theorem $(iT "sc_" t) : FnScope $(iT "N_" t) $(iT "P_" t) (defScope $(iT "s_" t)) := ⟨rfl, rfl, rfl, by decide +kernel, rfl, by decide +kernel, by decide +kernel⟩), ← `(command| def $(iT "n_" t) : List String := $(← lT N))]⟩
def tT (a : Array (TSyntax `num)) : MacroM Command := do
  return ⟨mkNullNode (← a.mapM fun i => `(command| theorem $(mkIdent (.str `_root_.PySem.W.Fast s!"tw{i.getNat}")) : True := trivial))⟩
def sT (s:TSyntax `str):MacroM (TSyntax `tactic):=do
 match lD s.getString with
 | ["F",t]=>`(tactic| (refine fn_D F $(iT "sc_" t) (by tm_at "ar") fun cdv A outer s H EE ds M Q hr h=>?_;have nd:=$(mkIdent (.str (.mkSimple ("sc_" ++ t)) "nd"));try (refine let_X ?_;intro X)))
 | "gA" :: l =>
  let u <- l.toArray.mapM fun s=>do
   let t:=(s.take 2).toString
   let i:=(s.drop 2).toString
   let n:=i.toNat?.getD 0
   let u:Array Term <- (Array.range n).mapM fun _=>`(_)
   let k:=Syntax.mkNumLit i
   `(tactic| (obtain ⟨$(iT "f_" t):ident,$(iT "d_" t):ident,$(iT "F_" t):ident,$(iT "m_" t):ident⟩:=T.$(iT "a_" t).get X G;have $(iT "b_" t):ident:=($(iT "F_" t)).binds (ps:=$(iT "P_" t)) fun _ _ _ _ _ _ us hl=>ul $k us hl $(<- if n=0 then `(rfl) else `(fun $u*=>rfl))))
  `(tactic| ($[$u]*))
 | "zZ" :: l =>
  let u <- l.toArray.mapM fun x=>`(tactic| have $(iT "z_" x):ident:=PySem.W.mg_none_of X G T.$(iT "z_" x))
  `(tactic| ($[$u]*))
 | "gG" :: l =>
  let u <- l.toArray.mapM fun x=>`(tactic| (obtain ⟨$(iT "v_" x):ident,$(iT "hv_" x):ident,$(iT "t_" x):ident,rfl⟩:=T.$(iT "g_" x);have $(iT "g_" x):ident:=PySem.W.mg_of X G $(iT "hv_" x)))
  `(tactic| ($[$u]*))
 | "cC" :: t :: o :: a =>
  let a:Array Term:=(a.map fun s=>(iT s "" : Term)).toArray
  `(tactic| have $(iT "C_" (o.drop 3).toString):ident:Cal P w K mg base _ _ _:=cal_D $(iT "F_" t) ($(iT o "") $(iT "F_" t) $a*) $(iT "b_" t) $(iT "m_" t))
 | "cD" :: t :: c :: o :: d :: k :: n :: a =>
  let e <- (Array.range (n.toNat?.getD 0)).mapM fun _=>`(by decide)
  let na (s:String):MacroM (TSyntax ``Lean.Parser.Term.namedArgument):=`(Lean.Parser.Term.namedArgument| ($(iT (s.take 1).toString ""):ident:=$(Syntax.mkNumLit (s.drop 1).toString)))
  let nd <- na d
  let nk <- na k
  let a:Array Term <- a.toArray.mapM fun s=>do
   if s == "-" then `(fun h=>absurd h (by decide))
   else if s.front == '^' then `(fun _=>$(iT (s.drop 1).toString ""))
   else if s.front == '~' then `(fun _=>($(iT (s.drop 1).toString "")).mono (by decide))
   else pure (iT s "" : Term)
  `(tactic| have $(iT c ""):ident:Cal P w K mg base _ _ _:=cal_D $(iT "F_" t) ($(iT o "") $nd:namedArgument $nk:namedArgument $e* $(iT "F_" t) $a*) $(iT "b_" t) $(iT "m_" t))
 | ["kK",i] =>
  let c (a:String) (i:Nat):MacroM (TSyntax `tactic):=do `(tactic| (case $(iT s!"{a}{i}" ""):ident=>k_is))
  let u <- (Array.range (i.toNat?.getD 0)).mapM fun i=>do `(tactic| ($(<- c "a" i);$(<- c "l" i);$(<- c "c" i);$(<- c "k" i)))
  `(tactic| ($[$u]*))
 | "kL" :: l =>
  let u <- l.toArray.mapM fun i=>do `(tactic| (case $(iT i ""):ident=>k_is))
  `(tactic| ($[$u]*))
 | _=>Macro.throwUnsupported
end
local macro_rules
 | `(#check dD $x:ident $i:num $p:str $n:str)=>do dT x.getId.toString (<- `(top $i)) p.getString n.getString
 | `(#check dD $x:ident $i:num $j:num $p:str $n:str)=>do dT x.getId.toString (<- `(inClass (top $i) $j)) p.getString n.getString
local macro_rules | `(tactic| tm_at $s:str)=>sT s
local macro_rules | `(tactic| tm_at "ar")=>`(tactic| (intro ds M Q h;repeat first | (obtain ⟨e,_⟩:=h;subst e;rfl) | obtain ⟨_,h⟩:=h))
local macro_rules | `(tactic| lk)=>`(tactic| repeat tm_at "d")
local macro_rules | `(tactic| walk)=>`(tactic| repeat first | tm_at "d" | refine exs_cons ?_)
local macro_rules | `(tactic| k_go)=>`(tactic| tm_at "d")
#check dD aa 2 0 "self name" ""
#check dD ab 3 0 "self number most" ""
#check dD ac 4 0 "self place" ""
abbrev s_NoText_init:Stmt:=inClass (top 5) 0
abbrev s_NoLoop_init:Stmt:=inClass (top 6) 0
#check dD ad 15 "plan" "names pairs place statement"
#check dD ae 16 "statement" "word"
#check dD af 17 "block" "pairs waiting pair inner"
#check dD ag 18 "place statement" "pairs number block index inner"
#check dD ah 19 "names pairs" "statements"
#check dD ai 20 "number most" ""
#check dD aj 21 "pairs" ""
#check dD ak 22 "statements words" ""
#check dD al 23 "statements" ""
#check dD am 24 "names found" "name"
#check dD an 25 "place statement" ""
#check dD ao 26 "place loop" "inner"
#check dD ap 27 "statement" "word"
#check dD aq 28 "statement" "names measure"
#check dD ar 29 "rows" "names row"
#check dD au 30 "terms" ""
#check dD av 47 0 "self names start turns givens" "name"
#check dD aw 47 1 "self" ""
#check dD ax 49 "plan" ""
#check dD ay 50 "place block number" "instructions index statement"
#check dD az 51 "place statement number" "word"
#check dD ba 52 "place asking blocks number" "first to second"
#check dD bb 53 "place statement number" "inner behind head"
#check dD bc 54 "code names start turns givens" "traveller number"
#check dD bd 55 "traveller instruction number" "word way"
#check dD be 58 "_law_script _law_k" ""
#check dD bf 59 "_law_cell_here" "_law_number_here _law_found _law_k"
#check dD bg 60 "_law_purse_here _law_many" "_law_at _law_found"
#check dD bh 61 "_law_state" "_law_at"
#check dD bi 62 "_law_purse_here" ""
#check dD bj 63 "_law_purse_here _law_names_here" "_law_found _law_name _law_weight"
#check dD bk 64 "_law_purse_here _law_names_here" "_law_by _law_terms_here"
#check dD bl 65 "_law_purse_here _law_names_here" "_law_word _law_terms_here"
#check dD bm 66 "_law_state _law_names_here _law_depth" "_law_purse_here _law_sort _law_row_here _law_many _law_name"
#check dD bn 67 "_law_state _law_names_here _law_depth _law_purse_here" "_law_row_here _law_rows _law_measure _law_left _law_block_here"
#check dD bo 68 "_law_state _law_names_here _law_depth" "_law_purse_here _law_found _law_k"
#check dD bp 69 "_law_cells _law_first _law_names_here" "_law_state _law_found _law_purse_here _law_rows"
#check dD bq 70 "_law_cell_here" "_law_letters"
#check dD br 73 "_law_way _law_plan_here _law_start" "_law_caught_here _law_e"
#check dD bs 74 "_law_e _law_due" "_law_found"
#check dD bt 75 "_law_names_here _law_cell_here" "_law_point _law_k"
#check dD bu 76 "_law_script" "_law_names_here _law_spare _law_plan_here _law_four _law_row_here _law_loop_here _law_at _law_block_here _law_cell_here _law_start _law_lacks _law_e"
set_option hygiene false
local macro_rules | `(tactic| tm_at $s:str)=>oneT s
local macro_rules | `(tactic| tm_at "tv")=>`(tactic| ((case n1=>rfl);(case n2=>rfl);(case n3=>first | exact Or.inl rfl | exact Or.inr (Or.inl rfl) | exact Or.inr (Or.inr rfl));(case n4=>decide);(case n5=>decide)))
local macro_rules | `(tactic| tm_at "ta")=>`(tactic| ((case n0=>exact nd);(case n1=>rfl);(case n2=>first | exact Or.inl rfl | exact Or.inr rfl);(case n3=>kernel_rfl);(case n4=>first | exact .inl rfl | exact .inr rfl)))
local macro_rules | `(tactic| tm_at "tg")=>`(tactic| ((case n0=>exact nd);(case n1=>rfl);(case n2=>first | exact Or.inl rfl | exact Or.inr rfl);(case n3=>first | exact .inl rfl | exact .inr rfl)))
local macro_rules | `(tactic| tm_at "tc")=>`(tactic| ((case n1=>exact hr);(case n2=>first | decide | omega);(case n3=>rfl);(case n4=>decide);(case n5=>rfl);(case n6=>rfl)))
local macro_rules | `(tactic| tm_at "tC")=>`(tactic| ((with_reducible refine' ev_callM ?n0 ?n1 ?n2 ?_ ?n3 ?n4 ?n5 ?n6)))
local macro_rules | `(tactic| tm_at "tb")=>`(tactic| ((case n1=>rfl);(case n2=>rfl);(case n3=>rfl)))
local macro_rules | `(tactic| tm_at "cl")=>callT ["must_plan", "blocks_of", "laid_out", "straight_within", "must_be_small", "must_be_within", "depth_of", "how_many", "rows_noted", "must_be_among", "must_bear_measure", "must_have_no_loop", "names_of_statement", "names_of_loop", "names_of_rows", "names_of_terms", "plus", "minus", "times", "less", "worth", "is_so", "added_up", "must_have_names", "common_divisor", "many_steps", "sure_steps", "code", "code_of_block", "code_of_statement", "code_of_branch", "code_of_loop", "walk", "number_behind", "way_of", "_law_cell", "_law_purse", "_law_take", "_law_next", "_law_number", "_law_terms", "_law_sum", "_law_row", "_law_statement", "_law_loop", "_law_block", "_law_plan", "_law_names", "_law_blocks", "_law_placed", "_law_caught", "_law_refused", "_law_lacking", "law"]
local macro_rules | `(tactic| tm_at "side")=>`(tactic| first | assumption | decide | omega)
local macro_rules | `(tactic| tm_at "mulside")=>`(tactic| first | assumption | exact mulOk)
local macro_rules | `(tactic| tm_at "divside")=>`(tactic| first | assumption | exact divOk (by decide) | exact divOk (by assumption) | exact divOk (by omega))
local macro_rules | `(tactic| tm_at "modside")=>`(tactic| first | assumption | decide | omega)
local macro_rules | `(tactic| tm_at "powside")=>`(tactic| first | assumption | exact ⟨by decide,by decide,by decide⟩)
local macro_rules | `(tactic| tm_at "szside")=>`(tactic| first | (exact small (Nat.le_of_ble_eq_true rfl)) | (exact small (by simp;omega)) | (exact small (by omega)))
local macro_rules | `(tactic| tm_at "eC")=>`(tactic| first | with_reducible refine ev_int ?_ | with_reducible refine ev_bl ?_ | with_reducible refine ev_non ?_ | with_reducible refine ev_str ?_)
local macro_rules | `(tactic| tm_at "eN")=>`(tactic| first | tm_at "var" | ((with_reducible show EV _ _ _ (Expr.Name "tuple" _) _);(with_reducible refine' ev_gty ?n0 ?n1 ?_ ?n2 ?n3 ?n4);(case n0=>exact h_tuple);(case n1=>exact bootTuple);(case n2=>rfl);(case n3=>decide);(case n4=>decide)))
local macro_rules | `(tactic| tm_at "eK")=>`(tactic| first | ((with_reducible show EV _ _ _ (Expr.Call (Expr.Name "tuple" _) [_] _ _) _);(with_reducible refine ev_tupleC ?n0 ?_ ?n1 ?n2 ?n3);(case n0=>exact h_tuple);tm_at "tb") | ((with_reducible show EV _ _ _ (Expr.Call (Expr.Name "dict" _) [_] _ _) _);(with_reducible refine ev_dictC ?n0 ?_ ?n1 ?n2 ?n3);(case n0=>exact h_dict);tm_at "tb") | ((with_reducible show EV _ _ _ (Expr.Call (Expr.Name "sorted" _) [_] _ _) _);(with_reducible refine ev_sortedS ?n0 ?_ ?n1 ?n2 ?n3);(case n0=>exact h_sorted);tm_at "tb") | ((with_reducible show EV _ _ _ (Expr.Call (Expr.Name "list" _) [_] _ _) _);(with_reducible refine ev_listC ?n0 ?_ ?n1 ?n2 ?n3);(case n0=>exact h_list);tm_at "tb") | ((with_reducible show EV _ _ _ (Expr.Call (Expr.Name "sum" _) [_] _ _) _);(with_reducible refine ev_sumL ?n9 ?n0 ?_ ?n1 ?n2 ?n3);(case n9=>rfl);(case n0=>exact h_sum);tm_at "tb") | ((with_reducible show EV _ _ _ (Expr.Call (Expr.Name "abs" _) _ _ _) _);(with_reducible refine ev_abs ?n0 ?_ ?n1 ?n2 ?n3);(case n0=>exact h_abs);tm_at "tb") | ((with_reducible show EV _ _ _ (Expr.Call (Expr.Name "len" _) _ _ _) _);(with_reducible refine ev_len ?n0 ?_ ?n1 ?n2 ?n3);(case n0=>exact h_len);tm_at "tb") | ((with_reducible show EV _ _ _ (Expr.Call (Expr.Name "int" _) _ _ _) _);(with_reducible refine ev_intC ?n0 ?_ ?n1 ?n2 ?n3);(case n0=>exact h_int);tm_at "tb") | ((with_reducible show EV _ _ _ (Expr.Call (Expr.Name "min" _) [_,_] _ _) _);(with_reducible refine ev_min2 ?n0 ?n9 ?_ ?n1 ?n2 ?n3);(case n0=>exact h_min);(case n9=>rfl);tm_at "tb"))
local macro_rules | `(tactic| tm_at "eA")=>`(tactic| first | ((with_reducible show EV _ _ _ (Expr.Call (Expr.Attribute _ "append" _) [_] [] _) _);(with_reducible refine ev_append ?_ ?n1 ?n2 ?n3 ?n4 ?n5);tm_at "tb";(case n4=>rfl);(case n5=>rfl)) | ((with_reducible show EV _ _ _ (Expr.Call (Expr.Attribute _ "extend" _) [_] [] _) _);(with_reducible refine ev_extend ?_ ?n1 ?n2 ?n3 ?n4 ?n5);tm_at "tb";(case n4=>rfl);(case n5=>rfl)) | ((with_reducible show EV _ _ _ (Expr.Call (Expr.Attribute _ "reverse" _) [] [] _) _);(with_reducible refine ev_reverse ?_ ?n1 ?n2);(case n1=>rfl);(case n2=>rfl)) | ((with_reducible show EV _ _ _ (Expr.Call (Expr.Attribute _ "pop" _) [] [] _) _);(with_reducible refine ev_pop ?_ ?n1 ?n2);(case n1=>rfl);(case n2=>rfl)))
local macro_rules | `(tactic| tm_at "eB")=>`(tactic| first | with_reducible refine ev_add ?_ | with_reducible refine l_sub ?_ | with_reducible refine l_mul ?_ | with_reducible refine l_fdiv ?_ | with_reducible refine l_mod ?_ | with_reducible refine l_pow ?_)
local macro_rules | `(tactic| tm_at "eM")=>`(tactic| first | ((with_reducible show EV _ _ _ (Expr.Compare _ [CmpOp.Eq] _ _) _);(with_reducible refine l_eq ?n0 ?_);(case n0=>exact hr.units)))
local macro_rules | `(tactic| tm_at "eS")=>`(tactic| first | ((with_reducible show EV _ _ _ (Expr.Subscript _ (Expr.Constant _ _ _) _) _);(with_reducible refine l_item ?n1 ?_ ?n0);(case n1=>exact hr.units);(case n0=>(intro _ _;rfl))) | ((with_reducible show EV _ _ _ (Expr.Subscript _ (Expr.UnaryOp _ _ _) _) _);(with_reducible refine l_item ?n1 ?_ ?n0);(case n1=>exact hr.units);(case n0=>(intro _ _;rfl))) | ((with_reducible show EV _ _ _ (Expr.Subscript _ (Expr.Name _ _) _) _);(with_reducible refine l_item ?n1 ?_ ?n0);(case n1=>exact hr.units);(case n0=>(intro _ _;rfl))) | ((with_reducible show EV _ _ _ (Expr.Subscript _ (Expr.BinOp _ _ _ _) _) _);(with_reducible refine l_item ?n1 ?_ ?n0);(case n1=>exact hr.units);(case n0=>(intro _ _;rfl))) | ((with_reducible show EV _ _ _ (Expr.Subscript _ (Expr.Call _ _ _ _) _) _);(with_reducible refine l_item ?n1 ?_ ?n0);(case n1=>exact hr.units);(case n0=>(intro _ _;rfl))) | ((with_reducible show EV _ _ _ (Expr.Subscript _ (Expr.Subscript _ _ _) _) _);(with_reducible refine l_item ?n1 ?_ ?n0);(case n1=>exact hr.units);(case n0=>(intro _ _;rfl))))
local macro_rules | `(tactic| tm_at "eU")=>`(tactic| first | with_reducible refine l_neg ?_)
local macro_rules | `(tactic| tm_at "eL")=>`(tactic| first | fail)
local macro_rules | `(tactic| tm_at "eO")=>`(tactic| first | with_reducible refine ev_dnew ?_ | with_reducible refine ev_tup ?_ | with_reducible refine ev_lst ?_)
local macro_rules | `(tactic| tm_at "tv")=>`(tactic| first | with_reducible refine lt_lt ?_ | with_reducible refine lt_gt ?_ | with_reducible refine tv_not ?_ | ((with_reducible show TV _ _ _ (Expr.Compare _ [CmpOp.Eq] _ _) _);(with_reducible refine lt_eq ?n0 ?_);(case n0=>exact hr.units)) | ((with_reducible show TV _ _ _ (Expr.Compare _ [CmpOp.NotEq] _ _) _);(with_reducible refine lt_ne ?n0 ?_);(case n0=>exact hr.units)) | ((with_reducible show TV _ _ _ (Expr.Compare _ [CmpOp.In] _ _) _);(with_reducible refine lt_in ?n1 ?_ ?n0);(case n1=>exact hr.units);(case n0=>rfl)) | ((with_reducible show TV _ _ _ (Expr.Compare _ [CmpOp.NotIn] _ _) _);(with_reducible refine lt_notin ?n1 ?_ ?n0);(case n1=>exact hr.units);(case n0=>rfl)) | with_reducible refine tv_isnot ?_ | ((with_reducible show TV _ _ _ (Expr.Call _ _ _ _) _);(with_reducible refine tv_call ?_ ?n0);(case n0=>(intro _;rfl))) | with_reducible refine TW.tv (tw_and ?_) | with_reducible refine TW.tv (tw_or ?_))
local macro_rules | `(tactic| tm_at "tw")=>`(tactic| first | with_reducible refine tw_and1 ?_ | with_reducible refine tw_or1 ?_ | with_reducible refine tw_and ?_ | with_reducible refine tw_or ?_)
local macro_rules | `(tactic| tm_at "av")=>`(tactic| first | with_reducible refine av_nil ?_ | ((with_reducible show AV _ _ _ (_ :: _) _);(with_reducible refine av_cons ?_ ?n0);(case n0=>rfl)))
local macro_rules | `(tactic| tm_at "xs")=>`(tactic| first | with_reducible refine exs_nil ?_ | with_reducible refine exs_one ?_ | ((with_reducible show EXs _ _ _ (Stmt.Assign _ _ _ :: _) _);with_reducible refine exs_cons ?_) | ((with_reducible show EXs _ _ _ (Stmt.Expr _ _ :: _) _);with_reducible refine exs_cons ?_))
local macro_rules | `(tactic| tm_at "ex")=>`(tactic| first | with_reducible refine ex_if ?_ | with_reducible refine ex_ret ?_ | ((with_reducible show EX _ _ _ (Stmt.Expr _ _) _);(with_reducible refine ex_expr ?_ ?n0);(case n0=>kernel_rfl)) | ((fail_if_success (with_reducible show EX _ _ _ (Stmt.Assign _ (Expr.ListComp _ _ _ _) _) _));tm_at "asg") | ((with_reducible show EX _ _ _ (Stmt.Assign [Expr.Subscript _ _ _] _ _) _);(with_reducible refine ex_asg ?_ ?n1 ?n2 ?n3);(case n1=>kernel_rfl);(case n2=>kernel_rfl);(case n3=>rfl)) | ((with_reducible show EX _ _ _ (Stmt.Assign [Expr.Tuple _ _ _] _ _) _);(with_reducible refine ex_asg ?_ ?n1 ?n2 ?n3);(case n1=>kernel_rfl);(case n2=>kernel_rfl);(case n3=>rfl)))
local macro_rules | `(tactic| tm_at "gv")=>`(tactic| first | tm_at "gvn" | ((with_reducible show GV _ _ _ (Expr.Subscript _ _ _) _ _);(with_reducible refine gv_set ?n1 ?_ ?n2);(case n1=>exact hr.units);(case n2=>(intro _;rfl))) | ((with_reducible show GV _ _ _ (Expr.Tuple _ _ _) (D.tup _) _);(with_reducible refine gv_tup ?n1 ?_ ?n2 ?n3);tm_at "tb"))
local macro_rules | `(tactic| tm_at "gs")=>`(tactic| first | ((with_reducible show GVs _ _ _ (_ :: _) (_ :: _) _);(with_reducible refine gvs_cons ?_ ?n1);(case n1=>rfl)) | with_reducible refine gvs_nil ?_)
local macro_rules | `(tactic| tm_at "ts")=>`(tactic| first | with_reducible refine tvs_one ?_ | with_reducible refine tvs_nil ?_)
local macro_rules | `(tactic| tm_at "lI")=>`(tactic| first | ((with_reducible show ite (true=true) _ _);refine ifT ?_) | ((with_reducible show ite (false=true) _ _);refine ifF ?_) | ((with_reducible show ite ((!true)=true) _ _);refine ifNT ?_) | ((with_reducible show ite ((!false)=true) _ _);refine ifNF ?_))
local macro_rules | `(tactic| tm_at "lE")=>`(tactic| first | ((with_reducible show ∃ k,D.bl _=D.bl k/\_);refine ⟨_,rfl,?_⟩) | ((with_reducible show ∃ k,D.int _=D.int k/\_);refine ⟨_,rfl,?_⟩) | ((with_reducible show ∃ k,TruD _ (D.bl _) _ k/\_);refine ⟨_,rfl,?_⟩) | ((with_reducible show ∃ k,TruD _ (D.tup _) _ k/\_);refine ⟨_,rfl,?_⟩) | ((with_reducible show ∃ k,TruD _ (D.int _) _ k/\_);refine ⟨_,rfl,?_⟩) | ((with_reducible show ∃ k,IsDv _ _ k/\_);refine ⟨_,rfl,?_⟩) | ((with_reducible show ∃ k,[D.int _]=[D.int k]/\_);refine ⟨_,rfl,?_⟩) | ((with_reducible show ∃ i j,[D.int _,D.int _]=[D.int i,D.int j]/\_);refine ⟨_,_,rfl,?_⟩))
local macro_rules | `(tactic| tm_at "lA")=>`(tactic| first | ((with_reducible show _<=sizeLine/\_);refine ⟨by tm_at "szside",?_⟩) | ((with_reducible show D.non=D.non/\_);refine ⟨rfl,?_⟩))
local macro_rules | `(tactic| tm_at "lP")=>`(tactic| first | ((with_reducible show PowL (D.int 10) (D.int 12) _ _);refine pow_n (k:=1000000000000) (by decide +kernel) ⟨by decide,by decide,by decide⟩ ?_) | ((with_reducible show PowL (D.int 10) (D.int 18) _ _);refine pow_n (k:=1000000000000000000) (by decide +kernel) ⟨by decide,by decide,by decide⟩ ?_) | ((with_reducible show PowL (D.int 10) (D.int 19) _ _);refine pow_n (k:=10000000000000000000) (by decide +kernel) ⟨by decide,by decide,by decide⟩ ?_) | ((with_reducible show PowL (D.int 10) (D.int 40) _ _);refine pow_n (k:=10000000000000000000000000000000000000000) (by decide +kernel) ⟨by decide,by decide,by decide⟩ ?_) | ((with_reducible show PowL (D.int 10) (D.int 50) _ _);refine pow_n (k:=100000000000000000000000000000000000000000000000000) (by decide +kernel) ⟨by decide,by decide,by decide⟩ ?_) | ((with_reducible show PowL (D.int 10) (D.int 59) _ _);refine pow_n (k:=100000000000000000000000000000000000000000000000000000000000) (by decide +kernel) ⟨by decide,by decide,by decide⟩ ?_))
local macro_rules | `(tactic| tm_at "lf")=>`(tactic| first | with_reducible refine add_ii ?_ | with_reducible refine sub_l ?_ | with_reducible refine neg_l ?_ | with_reducible refine cmp_l ?_ | with_reducible refine eq_ii ?_ | with_reducible refine eq_ss ?_ | ((with_reducible show MulL (D.int _) (D.int _) _ _);refine mul_l (by tm_at "mulside") ?_) | ((with_reducible show DivL (D.int _) (D.int _) _ _);refine div_l (by tm_at "divside") ?_) | ((with_reducible show ModL (D.int _) (D.int _) _ _);refine mod_l (by tm_at "modside") ?_) | ((with_reducible show IxA (D.tup _) (D.int _) _ _);refine ix_at rfl ?_) | with_reducible refine in_t ?_ | ((with_reducible show PowL _ _ _ _);tm_at "lP"))
local macro_rules | `(tactic| tm_at "eV")=>`(tactic| first | ((with_reducible show EV _ _ _ (Expr.Name _ _) _);tm_at "eN") | ((with_reducible show EV _ _ _ (Expr.Constant _ _ _) _);tm_at "eC") | ((with_reducible show EV _ _ _ (Expr.Call (Expr.Attribute _ _ _) _ _ _) _);tm_at "eA") | ((with_reducible show EV _ _ _ (Expr.Call (Expr.Name _ _) _ _ _) _);first | tm_at "eK" | tm_at "cl") | ((with_reducible show EV _ _ _ (Expr.Subscript _ _ _) _);tm_at "eS") | ((with_reducible show EV _ _ _ (Expr.BinOp _ _ _ _) _);tm_at "eB") | ((with_reducible show EV _ _ _ (Expr.Compare _ _ _ _) _);tm_at "eM") | ((with_reducible show EV _ _ _ (Expr.UnaryOp _ _ _) _);tm_at "eU") | ((with_reducible show EV _ _ _ (Expr.BoolOp _ _ _) _);tm_at "eL") | tm_at "eO")
local macro_rules | `(tactic| tm_at "d")=>`(tactic| first
 | ((with_reducible show EV _ _ _ _ _);tm_at "eV")
 | ((with_reducible show Exists _);tm_at "lE")
 | ((with_reducible show ite _ _ _);tm_at "lI")
 | ((with_reducible show TV _ _ _ _ _);tm_at "tv")
 | ((with_reducible show And _ _);tm_at "lA")
 | ((with_reducible show AV _ _ _ _ _);tm_at "av")
 | ((with_reducible show EXs _ _ _ _ _);tm_at "xs")
 | ((with_reducible show EX _ _ _ _ _);tm_at "ex")
 | tm_at "lf"
 | ((with_reducible show GV _ _ _ _ _ _);tm_at "gv")
 | ((with_reducible show GVs _ _ _ _ _ _);tm_at "gs")
 | ((with_reducible show TW _ _ _ _ _);tm_at "tw")
 | ((with_reducible show TVs _ _ _ _ _);tm_at "ts"))
section
variable {P:Program} {w:World} {K:PySem.W.Frag} {mg:Str->Option Value} {base:Heap} {f:Addr} {fd:FuncData}
local macro_rules | `(tactic| tm_at $s:str)=>namT n_bf s
theorem ok_l_purse (F:Fun K "_law_purse" "_law_purse" s_bf f fd) (h_range:mg "range" = none) (h_abs:mg "abs" = none):FnOk P w K mg base CX0 1 f fd P_bf (liftSp K spPurse):=by
 tm_at "F bf"
 obtain ⟨c,rfl,hc,q⟩:=h
 have:=hc.bd
 refine exs_cons ?_
 lk
 have hl:=fmod_lt (a:=c) (b:=2147483647) (by decide)
 generalize c.fmod 2147483647=n0 at hl ⊢
 refine exs_cons ?_
 refine ex_for_range PassesOwn.never rfl h_range ?_
 lk
 refine ⟨_,fun i G' M'=>∃ (n g:Int) (r:Option D),G'=[some (.int c),some (.int n),some (.int g),r]/\M'=M/\0<=n/\n < 2147483647/\0<=g/\Bd g (40 * i+1),rfl,by decide,by decide,⟨n0,1,none,rfl,rfl,hl.1,by omega,by decide,⟨by decide⟩⟩,?_,?_⟩
 ·rintro i G' M' hi ⟨n,g,r,rfl,rfl,hn0,hn1,hg,bg⟩
  refine gv_name 3 nd ?_
  try (refine let_E ?_;intro EL)
  have hi:i < 16:=hi
  have bn:Bd n 40:=.rng (by omega) (by omega)
  have bg2:Bd g 700:=bg.up' (by omega)
  have bi:Bd (i:Int) 40:=.rng (by omega) (by omega)
  lk
  have hl2:=fmod_lt (a:=n * n+48271 * (i:Int) * i+i+3) (b:=2147483629) (by decide)
  generalize (n * n+48271 * (i:Int) * i+i+3).fmod 2147483629=n2 at hl2 ⊢
  have bn2:Bd n2 40:=.rng (by omega) (by omega)
  lk
  have hl3:=fmod_lt (a:=n2 * n2) (b:=2147483587) (by decide)
  generalize (n2 * n2).fmod 2147483587=n3 at hl3 ⊢
  refine ⟨n2,_,_,rfl,rfl,hl2.1,by omega,by omega,?_⟩
  have bn3:Bd n3 31:=.rng (by omega) (by omega)
  refine ⟨?_⟩
  have h1:=bg.h
  have h2:=bn3.h
  have e:(2:Nat) ^ (40 * (i+1)+1)=2 ^ (40 * i+1) * 2 ^ 40:=by rw [<- Nat.pow_add];congr 1<;>omega
  rw [e]
  have h3:g.natAbs * 2147483587+2 ^ 31<=2 ^ (40 * i+1) * 2 ^ 40:=by
   have hp:1<=2 ^ (40 * i+1):=Nat.pow_pos (by decide)
   omega
  have h4:(g * 2147483587+n3).natAbs<=g.natAbs * 2147483587+n3.natAbs:=by
   have:=Int.natAbs_add_le (g * 2147483587) n3
   rw [Int.natAbs_mul] at this
   exact this
  omega
 ·rintro G' M' ⟨n,g,r,rfl,rfl,hn0,hn1,hg,bg⟩
  refine exs_cons ?_
  lk
  refine ifD ?_ ?_
  ·intro _
   lk
   intro p hp
   refine q p _ hp ⟨_,_,mset_same,?_,hg⟩ (ext_new hp)
   rw [abs_eq]
   exact Int.fdiv_nonneg (Int.natCast_nonneg _) (by decide)
  ·intro _
   lk
   intro p hp
   exact q p _ hp ⟨_,_,mset_same,by decide,hg⟩ (ext_new hp)
local macro_rules | `(tactic| tm_at $s:str)=>namT n_bg s
theorem ok_l_take (F:Fun K "_law_take" "_law_take" s_bg f fd) (h_int:mg "int" = none):FnOk P w K mg base CX0 1 f fd P_bg (liftSp K spTake):=by
 tm_at "F bg"
 obtain ⟨p,m,rfl,⟨x,y,hp,hx,hy⟩,hm,hl,q⟩:=h
 have dok:∀ z,CDivB z m:=fun z=>Lim.div (by omega) hl
 have key:∀ (n:Int) (v:Int) (j:Nat),ixN 2 n=some j->atI [D.int x,D.int y] n=some (.int v)->0<=v->(∀ r M',0<=r->r < m->M'=mset M p (.lst ([D.int x,D.int y].set j (.int (v.fdiv m))))->Q (.int r) M') ->
   EXs (cxOf CX0 P w K mg base N_bg "_law_take" (defScope s_bg) f cdv A outer s H EE).nox [some (.ref p),some (.int m),some (.int n),none] M ((defBody s_bg).drop 1) { nx:=fun _ M'=>Q .non M',rt:=Q }:=by
  intro n v j hj hv hv0 q
  refine exs_cons ?_
  lk
  refine ix_al hp hv ?_
  have d1:=dok v
  lk
  refine ix_al hp hv ?_
  lk
  refine set_ll hp hj ?_
  lk
  have hlt:=fmod_lt (a:=v) (b:=m) hm
  exact q _ _ hlt.1 hlt.2 rfl
 refine exs_cons ?_
 lk
 refine ix_al hp rfl ?_
 lk
 refine Or.inr ⟨_,rfl,?_⟩
 by_cases c:x=0
 ·rw [decide_eq_true c]
  refine key 1 y 1 rfl rfl hy fun r M' h1 h2 e=>?_
  subst e
  exact q r _ h1 h2 ⟨_,_,mset_same,hx,Int.fdiv_nonneg hy (by omega)⟩ (Kp.put (by simp))
 ·rw [decide_eq_false c]
  refine key 0 x 0 rfl rfl hx fun r M' h1 h2 e=>?_
  subst e
  exact q r _ h1 h2 ⟨_,_,mset_same,Int.fdiv_nonneg hx (by omega),hy⟩ (Kp.put (by simp))
local macro_rules | `(tactic| tm_at $s:str)=>namT n_be s
theorem ok_l_cell (F:Fun K "_law_cell" "_law_cell" s_be f fd) (h_len:mg "len" = none):FnOk P w K mg base CX0 1 f fd P_be (liftSp K spCell):=by
 tm_at "F be"
 obtain ⟨l,ns,k,rfl,hl,hc,h63,hk,q⟩:=h
 refine exs_cons ?_
 lk
 refine ⟨_,_,rfl,Or.inr ⟨_,hl,rfl⟩,?_⟩
 lk
 rw [List.length_map]
 refine ifD ?_ ?_
 ·intro hlt
  lk
  obtain ⟨k',rfl⟩:=Int.eq_ofNat_of_zero_le hk
  have hk':k' < ns.length:=by omega
  refine ix_ar (d:=.int ns[k']) hl (atI_nat (by rw [List.getElem?_map,List.getElem?_eq_getElem hk']<;>rfl)) ?_
  exact q _ (hc _ (List.getElem_mem hk'))
 ·intro _
  lk
  exact q _ Cell.of
local macro_rules | `(tactic| tm_at $s:str)=>namT n_bi s
theorem ok_l_number (F:Fun K "_law_number" "_law_number" s_bi f fd) (C_l_take:Cal P w K mg base 1 "_law_take" spTake):FnOk P w K mg base CX0 2 f fd P_bi (liftSp K spNumber):=by
 tm_at "F bi"
 obtain ⟨p,rfl,pu,q⟩:=h
 refine exs_cons ?_
 lk
 refine ⟨_,_,rfl,pu,by decide,lim,fun r M1 h1 h2 pu1 k1=>?_⟩
 lk
 refine ifD ?_ ?_
 ·intro _
  lk
  intro l hl
  lk
  refine ⟨_,_,rfl,pu1.ext (ext_new hl),by decide,lim,fun r2 M2 h3 h4 pu2 k2=>?_⟩
  have hlp:l≠p:=(pu1.ne hl).symm
  have hl2:M2 l=some (.lst [.int 0,.int 1,.int (-1),.int 2,.int (-3),.int 5,.int 1]):=k2.at mset_same (by simp [hlp])
  have hb:∃ b:Int,atI [D.int 0,.int 1,.int (-1),.int 2,.int (-3),.int 5,.int 1] r2=some (.int b)/\B 64 b:=by
   have:r2=0\/r2=1\/r2=2\/r2=3\/r2=4\/r2=5\/r2=6:=by omega
   rcases this with rfl | rfl | rfl | rfl | rfl | rfl | rfl
   ·exact ⟨0,rfl,by unfold B;decide⟩
   ·exact ⟨1,rfl,by unfold B;decide⟩
   ·exact ⟨-1,rfl,by unfold B;decide⟩
   ·exact ⟨2,rfl,by unfold B;decide⟩
   ·exact ⟨-3,rfl,by unfold B;decide⟩
   ·exact ⟨5,rfl,by unfold B;decide⟩
   ·exact ⟨1,rfl,by unfold B;decide⟩
  obtain ⟨b,eb,lb⟩:=hb
  lk
  refine ix_al hl2 eb ?_
  exact q b M2 lb pu2 (k1.trans ((Kp.new hl).trans k2))
 ·intro _
  lk
  refine ⟨_,_,rfl,pu1,by decide +kernel,lim,fun r2 M2 h3 h4 pu2 k2=>?_⟩
  lk
  have bd:Bd (r2 - 10000000000000000000) 64:=.rng (by omega) (by omega)
  exact q _ M2 bd.b pu2 (k1.trans k2)
local macro_rules | `(tactic| tm_at $s:str)=>namT n_bj s
theorem ok_l_terms (F:Fun K "_law_terms" "_law_terms" s_bj f fd) (h_tuple:mg "tuple" = none) (C_l_number:Cal P w K mg base 2 "_law_number" spNumber):FnOk P w K mg base CX0 3 f fd P_bj (liftSp K spTerms):=by
 tm_at "F bj"
 obtain ⟨p,ss,rfl,pu,hlen,q⟩:=h
 refine exs_cons ?_
 lk
 intro l hl
 have hlp:l≠p:=(pu.ne hl).symm
 refine exs_cons (ex_for_tup PassesOwn.never rfl ?_)
 lk
 refine ⟨ss.map D.str,fun i G' M'=>∃ (ts:List (Str × Int)) (r3 r4:Option D),G'=[some (.ref p),some (nms ss),some (.ref l),r3,r4]/\M' l=some (.lst (ts.map tD))/\Terms (ss.take i) ts/\Pu M' p/\Kp [p] M M',rfl,
  ⟨[],none,none,rfl,mset_same,⟨by simp,by simp⟩,pu.ext (ext_new hl),Kp.new hl⟩,?_,?_⟩
 ·rintro i d G' M' hd ⟨ts,r3,r4,rfl,ml,ht,pu',k'⟩
  rw [List.getElem?_map] at hd
  cases hs:ss[i]? with
  | none=>rw [hs] at hd;cases hd
  | some x =>
   rw [hs] at hd
   have hd:D.str x=d:=by simpa using hd
   subst hd
   have hil:i < ss.length:=(List.getElem?_eq_some_iff.mp hs).1
   have htk:ss.take (i+1)=ss.take i++[x]:=by rw [List.take_add_one,hs];rfl
   have hlen2:ts.length<=3:=by
    have:=ht.len
    rw [List.length_take] at this;omega
   lk
   refine ⟨_,rfl,pu',fun n M2 ln pu2 k2=>?_⟩
   have ml2:M2 l=some (.lst (ts.map tD)):=k2.at ml (by simp [hlp])
   lk
   refine ifN ?_ ?_
   ·intro hn
    lk
    refine ⟨l,rfl,⟨_,ml2⟩,?_⟩
    lk
    refine ⟨_,ml2,small1000 (by rw [List.length_map];omega),?_⟩
    refine ⟨ts++[(x,n)],_,_,rfl,?_,⟨?_,?_⟩,?_,?_⟩
    ·rw [mset_same,List.map_append];rfl
    ·rw [htk,List.map_append]
     exact List.Sublist.append ht.sub (List.Sublist.refl _)
    ·intro t hmem
     rcases List.mem_append.mp hmem with hmem | hmem
     ·exact ht.wt t hmem
     ·rw [List.mem_singleton.mp hmem];exact ⟨hn,ln⟩
    ·obtain ⟨a,b,e,ha,hb⟩:=pu2
     exact ⟨a,b,by rw [mset_ne hlp.symm];exact e,ha,hb⟩
    ·intro b o hb e
     rw [mset_ne (ne_fresh e hl)]
     exact (k'.trans k2) b o hb e
   ·intro hn
    refine exs_nil ?_
    refine ⟨ts,_,_,rfl,ml2,⟨?_,ht.wt⟩,pu2,k'.trans k2⟩
    rw [htk]
    exact ht.sub.trans (List.sublist_append_left _ _)
 ·rintro G' M' ⟨ts,r3,r4,rfl,ml,ht,pu',k'⟩
  rw [List.length_map,List.take_length] at ht
  lk
  refine ⟨_,rfl,_,ml,?_⟩
  exact q ts M' ht pu' k'
local macro_rules | `(tactic| tm_at $s:str)=>namT n_bk s
theorem ok_l_sum (F:Fun K "_law_sum" "_law_sum" s_bk f fd) (C_l_take:Cal P w K mg base 1 "_law_take" spTake) (C_l_terms:Cal P w K mg base 3 "_law_terms" spTerms) (C_l_number:Cal P w K mg base 2 "_law_number" spNumber):FnOk P w K mg base CX0 4 f fd P_bk (liftSp K spSum):=by
 tm_at "F bk"
 obtain ⟨p,ss,rfl,pu,hlen,q⟩:=h
 refine exs_cons ?_
 lk
 intro l hl
 lk
 refine ⟨_,_,rfl,pu.ext (ext_new hl),by decide,lim,fun r M1 h1 h2 pu1 k1=>?_⟩
 have hlp:l≠p:=(pu.ne hl).symm
 have hl1:M1 l=some (.lst [.int 1,.int 1,.int 2,.int 1,.int 3,.int 0]):=k1.at mset_same (by simp [hlp])
 have hb:∃ b:Int,atI [D.int 1,.int 1,.int 2,.int 1,.int 3,.int 0] r=some (.int b)/\0<=b/\b<=3:=by
  have:r=0\/r=1\/r=2\/r=3\/r=4\/r=5:=by omega
  rcases this with rfl | rfl | rfl | rfl | rfl | rfl
  ·exact ⟨1,rfl,by decide,by decide⟩
  ·exact ⟨1,rfl,by decide,by decide⟩
  ·exact ⟨2,rfl,by decide,by decide⟩
  ·exact ⟨1,rfl,by decide,by decide⟩
  ·exact ⟨3,rfl,by decide,by decide⟩
  ·exact ⟨0,rfl,by decide,by decide⟩
 obtain ⟨b,eb,hb0,hb3⟩:=hb
 have k2:Kp [p] M M1:=(Kp.new hl).trans k1
 lk
 refine ix_al hl1 eb ?_
 refine exs_join (fun G' M'=>∃ b:Int,G'=[some (.ref p),some (nms ss),some (.int b),none]/\Kp [p] M M'/\Pu M' p/\0 < b/\B 64 b) ?_ ?_
 ·lk
  refine ifD ?_ ?_
  ·intro _
   lk
   refine ⟨_,_,rfl,pu1,by decide +kernel,lim,fun r2 M2 h3 h4 pu2 k3=>?_⟩
   lk
   have bd:Bd (1+r2) 64:=.rng (by omega) (by omega)
   exact ⟨_,rfl,k2.trans k3,pu2,by omega,bd.b⟩
  ·intro _
   refine exs_nil ?_
   have bd:Bd b 64:=.rng (by omega) (by omega)
   exact ⟨_,rfl,k2,pu1,by omega,bd.b⟩
 rintro G' M' ⟨b,rfl,k,pu,hb,lb⟩
 lk
 refine ⟨_,_,rfl,pu,hlen,fun ts M2 ht pu2 k3=>?_⟩
 lk
 refine ⟨_,rfl,pu2,fun n M3 ln pu3 k4=>?_⟩
 lk
 exact q ts n b M3 ht ln hb lb pu3 (k.trans (k3.trans k4))
end
theorem letters_at (r:Int) (h0:0<=r) (h1:r < 26):atI (Str.cps "abcdefghijklmnopqrstuvwxyz").toList r=some (97+r.toNat):=by
 obtain ⟨k,rfl⟩:=Int.eq_ofNat_of_zero_le h0
 refine atI_nat ?_
 have hk:k < 26:=by omega
 have:∀ k:Fin 26,(Str.cps "abcdefghijklmnopqrstuvwxyz").toList[k.val]?=some (97+k.val):=by decide +kernel
 exact this ⟨k,hk⟩
def nthL (c:Int) (k:Nat):Str:=⟨#[97+((c.fmod 26+7 * (k:Int)).fmod 26).toNat]⟩
def nameF (c:Int):D->D
 | .int k=>.str (nthL c k.toNat)
 | _=>.non
theorem nthL_letter (c:Int) (k:Nat):Letter (nthL c k):=by
 have:=fmod_lt (a:=c.fmod 26+7 * (k:Int)) (b:=26) (by decide)
 exact ⟨_,by omega,by omega,rfl⟩
theorem nthL_inj {c:Int} {i j:Nat} (hi:i < 3) (hj:j < 3) (h:nthL c i=nthL c j):i=j:=by
 have h1:=fmod_lt (a:=c.fmod 26+7 * (i:Int)) (b:=26) (by decide)
 have h2:=fmod_lt (a:=c.fmod 26+7 * (j:Int)) (b:=26) (by decide)
 have e:97+((c.fmod 26+7 * (i:Int)).fmod 26).toNat=97+((c.fmod 26+7 * (j:Int)).fmod 26).toNat:=by
  have:=congrArg (fun s:Str=>s.cps[0]?) h
  simpa [nthL] using this
 have e2:(c.fmod 26+7 * (i:Int)).fmod 26=(c.fmod 26+7 * (j:Int)).fmod 26:=by omega
 generalize c.fmod 26=a at *
 rw [Int.fmod_eq_emod_of_nonneg (a+7 * (i:Int)) (by decide),Int.fmod_eq_emod_of_nonneg (a+7 * (j:Int)) (by decide)] at e2
 omega
section
variable {P:Program} {w:World} {K:PySem.W.Frag} {mg:Str->Option Value} {base:Heap} {f:Addr} {fd:FuncData}
local macro_rules | `(tactic| tm_at $s:str)=>namT n_bq s
theorem ok_l_names (F:Fun K "_law_names" "_law_names" s_bq f fd) (h_tuple:mg "tuple" = none) (h_sorted:mg "sorted" = none) (h_range:mg "range" = none):FnOk P w K mg base CX0 1 f fd P_bq (liftSp K spNames):=by
 tm_at "F bq"
 obtain ⟨c,rfl,hc,q⟩:=h
 have bc:=hc.bd
 refine exs_cons ?_
 lk
 with_reducible refine' ev_comp_range (own:=["_law_k"]) (js:=[1,0]) (N:=["_law_k", "_law_letters", "_law_cell_here"]) ?T ?xe ?ca ?hm (nameF c) (fun _=>true) ?_ ?hg ?hse ?hs
 case T=>exact compOk_freeB (fs:=["_law_letters", "_law_cell_here"]) rfl (by decide +kernel) (by decide +kernel) rfl rfl rfl rfl rfl
 case xe=>rfl
 case ca=>rfl
 case hm=>exact h_range
 case hg=>rfl
 case hse=>rfl
 case hs=>(intro _;rfl)
 lk
 have h3:=fmod_lt (a:=(c.fdiv 26)) (b:=3) (by decide)
 generalize hm:(c.fdiv 26).fmod 3=m at h3 ⊢
 refine ⟨by omega,by omega,?_,?_⟩
 ·rintro Y ⟨C',s',H',fp,rfl⟩ M' hM i hi
  refine gv_name 0 (by show (["_law_k", "_law_letters", "_law_cell_here"] : List Str).Nodup;decide +kernel) ?_
  refine ⟨rfl,fun i d e=>?_,tvs_nil ⟨rfl,rfl⟩,fun _=>?_⟩
  ·rcases i with _ | i
   ·simp [compG] at e
   ·exact e
  ·have hi':(i:Int) < 3:=by omega
   have bi:Bd (i:Int) 40:=.rng (by omega) (by omega)
   repeat first | (refine ev_var 0 ?_) | (refine ev_var 1 ?_) | (refine ev_var 2 ?_) | k_go
   have hr26:=fmod_lt (a:=c.fmod 26+7 * (i:Int)) (b:=26) (by decide)
   refine ix_as (by decide) (letters_at _ hr26.1 hr26.2) ?_
   exact ⟨rfl,rfl⟩
 ·intro p0 hp0
  have hmap:((((List.range (1+m).toNat).map fun i:Nat=>D.int i).filter fun _=>true).map (nameF c))=((List.range (1+m).toNat).map (nthL c)).map D.str:=by
   rw [List.filter_eq_self.mpr (by simp),List.map_map,List.map_map]
   rfl
  rw [hmap]
  have hnd:((List.range (1+m).toNat).map (nthL c)).Nodup:=by
   have hb:(1+m).toNat<=3:=by omega
   unfold List.Nodup
   rw [List.pairwise_map]
   refine List.Pairwise.imp_of_mem (R:=fun a b=>a≠b) (fun {a b} ha hb' hne e=>hne (nthL_inj (c:=c) (by have:=List.mem_range.mp ha;omega) (by have:=List.mem_range.mp hb';omega) e)) List.nodup_range
  generalize hss:(List.range (1+m).toNat).map (nthL c)=ss at hnd
  have hsl:ss.length=(1+m).toNat:=by rw [<- hss,List.length_map,List.length_range]
  lk
  refine ⟨p0,ss,rfl,mset_same,by omega,fun p1 ss' hp1 hperm hsort=>?_⟩
  lk
  refine ⟨_,rfl,_,mset_same,?_⟩
  refine q ss' _ ⟨by rw [hperm.length_eq];omega,by rw [hperm.length_eq];omega,hperm.nodup_iff.mpr hnd,fun s hs=>?_⟩ (Ext.trans (ext_new hp0) (ext_new hp1))
  have:=hperm.mem_iff.mp hs
  rw [<- hss] at this
  obtain ⟨k,_,rfl⟩:=List.mem_map.mp this
  exact nthL_letter c k
local macro_rules | `(tactic| tm_at $s:str)=>namT n_bl s
theorem ok_l_row (F:Fun K "_law_row" "_law_row" s_bl f fd) (C_l_take:Cal P w K mg base 1 "_law_take" spTake) (C_l_terms:Cal P w K mg base 3 "_law_terms" spTerms) (C_l_number:Cal P w K mg base 2 "_law_number" spNumber):FnOk P w K mg base CX0 4 f fd P_bl (liftSp K spRow):=by
 tm_at "F bl"
 obtain ⟨p,ss,rfl,pu,hlen,q⟩:=h
 refine exs_cons ?_
 lk
 intro l hl
 lk
 refine ⟨_,_,rfl,pu.ext (ext_new hl),by decide,lim,fun r M1 h1 h2 pu1 k1=>?_⟩
 have hlp:l≠p:=(pu.ne hl).symm
 have hl1:M1 l=some (.lst [.str "least",.str "more"]):=k1.at mset_same (by simp [hlp])
 have hb:∃ k:Bool,atI [D.str "least",.str "more"] r=some (.str (word k)):=by
  have:r=0\/r=1:=by omega
  rcases this with rfl | rfl
  ·exact ⟨true,rfl⟩
  ·exact ⟨false,rfl⟩
 obtain ⟨k,eb⟩:=hb
 have k2:Kp [p] M M1:=(Kp.new hl).trans k1
 lk
 refine ix_al hl1 eb ?_
 lk
 refine ⟨_,_,rfl,pu1,hlen,fun ts M2 ht pu2 k3=>?_⟩
 lk
 refine ⟨_,rfl,pu2,fun n M3 ln pu3 k4=>?_⟩
 lk
 exact q k ts n M3 ht ln pu3 (k2.trans (k3.trans k4))
local macro_rules | `(tactic| tm_at $s:str)=>namT n_bh s
theorem ok_l_next (F:Fun K "_law_next" "_law_next" s_bh f fd) (h_len:mg "len" = none) (C_l_purse:Cal P w K mg base 1 "_law_purse" spPurse):FnOk P w K mg base CX0 2 f fd P_bh (liftSp K spNext):=by
 tm_at "F bh"
 obtain ⟨p,c,cs,i,n,rfl,st,hcs,q⟩:=h
 refine exs_cons ?_
 lk
 refine ix_al st.st rfl ?_
 lk
 refine set_ll st.st rfl ?_
 generalize hM2:mset M p _=M2
 obtain ⟨st2,k2,fr2⟩:=st.upd (j:=i+1) (m:=n) hM2 rfl
 refine exs_cons ?_
 lk
 refine ix_al st2.st rfl ?_
 lk
 refine ⟨_,_,rfl,Or.inl ⟨_,st2.cl,rfl⟩,?_⟩
 rw [List.length_map]
 lk
 refine ifD ?_ ?_
 ·intro hlt
  have hlt:i < cs.length:=by omega
  lk
  refine ix_al st2.st rfl ?_
  lk
  refine ix_al (d:=.int cs[i]) st2.cl (atI_nat (by rw [List.getElem?_map,List.getElem?_eq_getElem hlt]<;>rfl)) ?_
  lk
  refine ⟨_,rfl,hcs.2 _ (List.getElem_mem _),fun q2 M3 hq2 pu k3=>?_⟩
  exact q q2 M3 (fr2 _ hq2) pu (st2.ext k3) (k2.trans (Kp.ext k3))
 ·intro _
  lk
  intro q2 hq2
  exact q q2 _ (fr2 _ hq2) ⟨0,0,mset_same,by decide,by decide⟩ (st2.ext (ext_new hq2)) (k2.trans (Kp.new hq2))
theorem name_at {ss:List Str} (h:Names ss) {r:Int} (h0:0<=r) (h1:r < ss.length):∃ x,atI (ss.map D.str) r=some (.str x)/\x∈ss:=by
 obtain ⟨k,rfl⟩:=Int.eq_ofNat_of_zero_le h0
 have hk:k < ss.length:=by omega
 exact ⟨ss[k],atI_nat (by rw [List.getElem?_map,List.getElem?_eq_getElem hk]<;>rfl),List.getElem_mem hk⟩
local macro_rules | `(tactic| tm_at $s:str)=>namT n_bm s
theorem ok_l_statement {d k:Nat} (hd1:1<=d) (hd:d<=4) (hk:4<=k) (F:Fun K "_law_statement" "_law_statement" s_bm f fd) (h_len:mg "len" = none) (h_tuple:mg "tuple" = none) (h_range:mg "range" = none) (h_min:mg "min" = none)
  (C_l_next:Cal P w K mg base 2 "_law_next" spNext) (C_l_take:Cal P w K mg base 1 "_law_take" spTake) (C_l_row:Cal P w K mg base 4 "_law_row" spRow) (C_l_sum:Cal P w K mg base 4 "_law_sum" spSum)
  (hL:d < 4->Cal P w K mg base k "_law_loop" (spLoop d)) (hB:d < 4->Cal P w K mg base k "_law_block" (spBlock (d+1))):FnOk P w K mg base CX0 (k+1) f fd P_bm (liftSp K (spStmt d)):=by
 tm_at "F bm"
 obtain ⟨p,c,cs,i,n,ss,rfl,st,hcs,hss,q⟩:=h
 refine exs_cons ?_
 lk
 refine ⟨p,c,cs,i,n,rfl,st,hcs,fun u M1 hu pu st1 k1=>?_⟩
 have hup:u≠p:=(ne_fresh st.st hu).symm
 have huc:u≠c:=(ne_fresh st.cl hu).symm
 lk
 refine ⟨_,_,rfl,pu,by decide,lim,fun r M2 h1 h2 pu2 k2=>?_⟩
 have st2:=st1.kp k2 (by simp [hup.symm]) (by simp [huc.symm])
 have kp2:∀ {M3:MH},Kp [p,u] M2 M3->Kp [p] M M3:=fun {M3} k3=>by
  intro b o hb e
  have hbu:b≠u:=ne_fresh e hu
  exact k3 b o (by simp at hb ⊢;exact ⟨hb,hbu⟩) (k2 b o (by simp [hbu]) (k1 b o hb e))
 lk
 refine exs_join (fun G' M'=>G'=[some (.ref p),some (nms ss),some (.int d),some (.ref u),some (.int r),none,none,none]/\M2=M') ?_ ?_
 ·lk
  refine ifD ?_ ?_
  ·intro _
   lk
   refine ifD ?_ ?_
   ·intro hd4
    have hd4:d < 4:=by omega
    lk
    refine ix_al st2.st rfl ?_
    lk
    refine ifD ?_ ?_
    ·intro hl
     have C_l_loop:=hL hd4
     lk
     refine ⟨p,c,cs,i+1,n,ss,u,rfl,st2,hcs,hss,pu2,hup,huc,by omega,fun st' j m M3 hj s3 hw hdp htk k3=>?_⟩
     exact q st' j m M3 (by omega) s3 hw hdp htk (kp2 k3)
    ·intro _
     refine exs_nil ?_
     exact ⟨rfl,rfl⟩
   ·intro _
    refine exs_nil ?_
    exact ⟨rfl,rfl⟩
  ·intro _
   refine exs_nil ?_
   exact ⟨rfl,rfl⟩
 rintro G' M' ⟨rfl,rfl⟩
 refine exs_join (fun G' M'=>G'=[some (.ref p),some (nms ss),some (.int d),some (.ref u),some (.int r),none,none,none]/\M2=M') ?_ ?_
 ·lk
  refine ifD ?_ ?_
  ·intro _
   lk
   refine ifD ?_ ?_
   ·intro hd4
    have hd4:d < 4:=by omega
    lk
    refine ix_al st2.st rfl ?_
    lk
    refine ifD ?_ ?_
    ·intro hl
     have C_l_block:=hB hd4
     lk
     refine ix_al st2.st rfl ?_
     lk
     refine set_ll st2.st rfl ?_
     rw [cast1 (by omega)]
     generalize hM3:mset M2 p _=M3
     obtain ⟨st3,k3,fr3⟩:=st2.upd (j:=i+1) (m:=⟨n.s,n.b - 1,n.l,n.a,n.n⟩) hM3 rfl
     lk
     have st4:=st3
     have kk4:Kp [p,u] M2 M3:=k3.mono (by simp)
     refine ⟨p,c,cs,i+1,_,ss,rfl,st4,hcs,hss,fun b1 j1 m1 M5 hj1 st5 hw1 hd1 tk1 k5=>?_⟩
     lk
     refine ⟨p,c,cs,j1,_,ss,rfl,st5,hcs,hss,fun b2 j2 m2 M6 hj2 st6 hw2 hd2 tk2 k6=>?_⟩
     lk
     obtain ⟨a1,a2,a3,a4,a5⟩:=tk1
     obtain ⟨c1,c2,c3,c4,c5⟩:=tk2
     have e1:=dps_le (n:=4 - d) fun s hs=>by have:=hd1 s hs;omega
     have e2:=dps_le (n:=4 - d) fun s hs=>by have:=hd2 s hs;omega
     refine q (.choose b1 b2) j2 m2 M6 (by omega) st6 (by simp only [wf];exact ⟨hw1,hw2⟩) (by simp only [dp];omega) ?_ (kp2 (kk4.trans ((k5.mono (by simp)).trans (k6.mono (by simp)))))
     simp only [Took,tt,Cnt.add] at *
     omega
    ·intro _
     refine exs_nil ?_
     exact ⟨rfl,rfl⟩
   ·intro _
    refine exs_nil ?_
    exact ⟨rfl,rfl⟩
  ·intro _
   refine exs_nil ?_
   exact ⟨rfl,rfl⟩
 rintro G' M' ⟨rfl,rfl⟩
 refine exs_join (fun G' M'=>G'=[some (.ref p),some (nms ss),some (.int d),some (.ref u),some (.int r),none,none,none]/\M2=M') ?_ ?_
 ·lk
  refine ifD ?_ ?_
  ·intro _
   lk
   refine ifD ?_ ?_
   ·intro hd4
    have hd4:d < 4:=by omega
    lk
    refine ix_al st2.st rfl ?_
    lk
    refine ifD ?_ ?_
    ·intro hl
     have C_l_block:=hB hd4
     lk
     refine ix_al st2.st rfl ?_
     lk
     refine set_ll st2.st rfl ?_
     rw [cast1 (by omega)]
     generalize hM3:mset M2 p _=M3
     obtain ⟨st3,k3,fr3⟩:=st2.upd (j:=i+1) (m:=⟨n.s,n.b - 1,n.l,n.a,n.n⟩) hM3 rfl
     lk
     refine ⟨u,ss,rfl,pu2.kp k3 (by simp [hup]),hss.le,fun kk ts wb M4 ht bw pu4 k4=>?_⟩
     have st4:=st3.kp k4 (by simp [hup.symm]) (by simp [huc.symm])
     have kk4:Kp [p,u] M2 M4:=(k3.mono (by simp)).trans (k4.mono (by simp))
     lk
     refine ⟨p,c,cs,i+1,_,ss,rfl,st4,hcs,hss,fun b1 j1 m1 M5 hj1 st5 hw1 hd1 tk1 k5=>?_⟩
     lk
     refine ⟨p,c,cs,j1,_,ss,rfl,st5,hcs,hss,fun b2 j2 m2 M6 hj2 st6 hw2 hd2 tk2 k6=>?_⟩
     lk
     obtain ⟨a1,a2,a3,a4,a5⟩:=tk1
     obtain ⟨c1,c2,c3,c4,c5⟩:=tk2
     have e1:=dps_le (n:=4 - d) fun s hs=>by have:=hd1 s hs;omega
     have e2:=dps_le (n:=4 - d) fun s hs=>by have:=hd2 s hs;omega
     refine q (.ite (kk,ts,wb) b1 b2) j2 m2 M6 (by omega) st6 (by simp only [wf];exact ⟨⟨ht,bw⟩,hw1,hw2⟩) (by simp only [dp];omega) ?_ (kp2 (kk4.trans ((k5.mono (by simp)).trans (k6.mono (by simp)))))
     simp only [Took,tt,Cnt.add] at *
     omega
    ·intro _
     refine exs_nil ?_
     exact ⟨rfl,rfl⟩
   ·intro _
    refine exs_nil ?_
    exact ⟨rfl,rfl⟩
  ·intro _
   refine exs_nil ?_
   exact ⟨rfl,rfl⟩
 rintro G' M' ⟨rfl,rfl⟩
 refine exs_join (fun G' M'=>G'=[some (.ref p),some (nms ss),some (.int d),some (.ref u),some (.int r),none,none,none]/\M2=M') ?_ ?_
 ·lk
  refine ifD ?_ ?_
  ·intro _
   lk
   refine ix_al st2.st rfl ?_
   lk
   refine ifD ?_ ?_
   ·intro hl
    lk
    refine ix_al st2.st rfl ?_
    lk
    refine set_ll st2.st rfl ?_
    rw [cast1 (by omega)]
    generalize hM3:mset M2 p _=M3
    obtain ⟨st3,k3,fr3⟩:=st2.upd (j:=i+1) (m:=⟨n.s,n.b,n.l,n.a - 1,n.n⟩) hM3 rfl
    lk
    refine ⟨_,_,rfl,rfl,?_⟩
    rw [List.length_map]
    lk
    have hs1:=hss.pos
    have hs3:=hss.le
    have bl:Bd (ss.length:Int) 40:=.rng (by omega) (by omega)
    refine ⟨_,_,rfl,pu2.kp k3 (by simp [hup]),by omega,lim,fun r2 M4 h3 h4 pu4 k4=>?_⟩
    obtain ⟨x,ex,hx⟩:=name_at hss h3 h4
    lk
    refine ix_at ex ?_
    lk
    refine q (.any x) (i+1) ⟨n.s,n.b,n.l,n.a - 1,n.n⟩ M4 (by omega) (st3.kp k4 (by simp [hup.symm]) (by simp [huc.symm])) (by simp only [wf];exact hx) (by simp only [dp];omega) ?_ (kp2 ((k3.mono (by simp)).trans (k4.mono (by simp))))
    refine ⟨?_,?_,?_,?_,?_⟩<;>simp only [tt]<;>omega
   ·intro _
    refine exs_nil ?_
    exact ⟨rfl,rfl⟩
  ·intro _
   refine exs_nil ?_
   exact ⟨rfl,rfl⟩
 rintro G' M' ⟨rfl,rfl⟩
 refine exs_join (fun G' M'=>G'=[some (.ref p),some (nms ss),some (.int d),some (.ref u),some (.int r),none,none,none]/\M2=M') ?_ ?_
 ·lk
  refine ifD ?_ ?_
  ·intro _
   lk
   refine ix_al st2.st rfl ?_
   lk
   refine ifD ?_ ?_
   ·intro hl
    lk
    refine ix_al st2.st rfl ?_
    lk
    refine ⟨_,_,rfl,pu2,by decide,lim,fun r2 M3 h3 h4 pu3 k3=>?_⟩
    have st3:=st2.kp k3 (by simp [hup.symm]) (by simp [huc.symm])
    lk
    obtain ⟨many,hmany⟩:∃ many:Nat,(many:Int)=(if 1+r2 < (n.n:Int) then 1+r2 else (n.n:Int)):=⟨(if 1+r2 < (n.n:Int) then 1+r2 else (n.n:Int)).toNat,by split<;>omega⟩
    have hm1:1<=many/\many<=2/\many<=n.n:=by split at hmany<;>omega
    rw [<- hmany]
    refine ix_al st3.st rfl ?_
    lk
    refine set_ll st3.st rfl ?_
    have ec:(n.n:Int) - (many:Int)=((n.n - many:Nat):Int):=by omega
    rw [ec]
    generalize hM4:mset M3 p _=M4
    obtain ⟨st4,k4,fr4⟩:=st3.upd (j:=i+1) (m:=⟨n.s,n.b,n.l,n.a,n.n - many⟩) hM4 rfl
    have pu4:=pu3.kp k4 (by simp [hup])
    lk
    with_reducible refine' ev_compR (own:=["_law_k"]) (js:=[3,1]) (N:=["_law_k", "_law_purse_here", "_law_names_here"]) ?T ?xe ?ca ?hm ?_ ?hg ?hse ?hs
    case T=>exact compOk_freeB (fs:=["_law_purse_here", "_law_names_here"]) rfl (by decide +kernel) (by decide +kernel) rfl rfl rfl rfl rfl
    case xe=>rfl
    case ca=>rfl
    case hm=>exact h_range
    case hg=>rfl
    case hse=>rfl
    case hs=>(intro _;rfl)
    lk
    refine ⟨_,fun q2 i2 acc M5=>∃ rs:List Rw,acc=rs.map rwD/\rs.length=i2/\(∀ x∈rs,WfR ss x)/\M4 q2=none/\Stt M5 p c cs (i+1) ⟨n.s,n.b,n.l,n.a,n.n - many⟩/\Pu M5 u/\Kp [p,u] M4 M5,rfl,by omega,by omega,?_,?_,?_⟩
    ·intro q2 hq2
     exact ⟨[],rfl,rfl,by simp,hq2,st4.ext (ext_new hq2),pu4.ext (ext_new hq2),Kp.new hq2⟩
    ·rintro Y ⟨C',s',H',fp,rfl⟩ q2 i2 acc M5 hi2 ⟨rs,rfl,hrl,hrw,hq2,st5,pu5,k5⟩ hacc
     refine gv_name 0 (by show (["_law_k", "_law_purse_here", "_law_names_here"] : List Str).Nodup;decide +kernel) ?_
     refine ⟨rfl,fun i d e=>?_,?_⟩
     ·rcases i with _ | i
      ·simp [compG] at e
      ·exact e
     repeat first | (refine ev_var 1 ?_) | (refine ev_var 2 ?_) | k_go
     refine ⟨u,ss,rfl,pu5,hss.le,fun kk ts wb M6 ht bw pu6 k6=>?_⟩
     have hqp:q2≠p:=fun z=>by rw [z,st4.st] at hq2;cases hq2
     have hqc:q2≠c:=fun z=>by rw [z,st4.cl] at hq2;cases hq2
     have hqu:q2≠u:=(pu4.ne hq2).symm
     have hrl2:rs.length<=2:=by omega
     refine ⟨k6.at hacc (by simp [hqu]),small1000 (by rw [List.length_map];omega),rs++[(kk,ts,wb)],by rw [List.map_append];rfl,by rw [List.length_append,hrl];rfl,fun x hx=>?_,hq2,?_,?_,?_⟩
     ·rcases List.mem_append.mp hx with hx | hx
      ·exact hrw x hx
      ·rw [List.mem_singleton.mp hx];exact ⟨ht,bw⟩
     ·have:=st5.kp k6 (by simp [hup.symm]) (by simp [huc.symm])
      exact ⟨by rw [mset_ne hqp.symm];exact this.st,by rw [mset_ne hqc.symm];exact this.cl⟩
     ·obtain ⟨a,b,e,ha,hb⟩:=pu6
      exact ⟨a,b,by rw [mset_ne hqu.symm];exact e,ha,hb⟩
     ·intro b o hb e
      rw [mset_ne (ne_fresh e hq2)]
      exact k6 b o (by simp at hb ⊢;exact hb.2) (k5 b o hb e)
    rintro q2 acc M5 ⟨rs,rfl,hrl,hrw,hq2,st5,pu5,k5⟩ hacc
    have hrl:rs.length=many:=by omega
    lk
    refine ⟨_,rfl,_,hacc,?_⟩
    lk
    refine q (.note rs) (i+1) ⟨n.s,n.b,n.l,n.a,n.n - many⟩ M5 (by omega) st5 (by simp only [wf];exact ⟨hrw,by omega,by omega⟩) (by simp only [dp];omega) ?_ (kp2 ((k3.mono (by simp)).trans ((k4.mono (by simp)).trans k5)))
    refine ⟨?_,?_,?_,?_,?_⟩<;>simp only [tt]<;>omega
   ·intro _
    refine exs_nil ?_
    exact ⟨rfl,rfl⟩
  ·intro _
   refine exs_nil ?_
   exact ⟨rfl,rfl⟩
 rintro G' M' ⟨rfl,rfl⟩
 lk
 refine ⟨_,_,rfl,rfl,?_⟩
 rw [List.length_map]
 lk
 have hs1:=hss.pos
 have hs3:=hss.le
 have bl:Bd (ss.length:Int) 40:=.rng (by omega) (by omega)
 refine ⟨_,_,rfl,pu2,by omega,lim,fun r2 M3 h3 h4 pu3 k3=>?_⟩
 obtain ⟨x,ex,hx⟩:=name_at hss h3 h4
 lk
 refine ix_at ex ?_
 lk
 refine ⟨u,ss,rfl,pu3,hss.le,fun ts wb by0 M4 ht bw hb lb pu4 k4=>?_⟩
 lk
 have st4:=(st2.kp k3 (by simp [hup.symm]) (by simp [huc.symm])).kp k4 (by simp [hup.symm]) (by simp [huc.symm])
 refine q (.set x (ts,wb,by0)) (i+1) n M4 (by omega) st4 (by simp only [wf];exact ⟨hx,ht,bw,hb,lb⟩) (by simp only [dp];omega) ?_ (kp2 ((k3.mono (by simp)).trans (k4.mono (by simp))))
 refine ⟨?_,?_,?_,?_,?_⟩<;>simp only [tt]<;>omega
local macro_rules | `(tactic| tm_at $s:str)=>namT n_bn s
theorem ok_l_loop {d k:Nat} (hd1:1<=d) (hd:d < 4) (hk:4<=k) (F:Fun K "_law_loop" "_law_loop" s_bn f fd) (h_tuple:mg "tuple" = none) (h_range:mg "range" = none) (h_abs:mg "abs" = none)
  (C_l_take:Cal P w K mg base 1 "_law_take" spTake) (C_l_row:Cal P w K mg base 4 "_law_row" spRow) (C_l_sum:Cal P w K mg base 4 "_law_sum" spSum) (C_l_number:Cal P w K mg base 2 "_law_number" spNumber)
  (C_l_block:Cal P w K mg base k "_law_block" (spBlock (d+1))):FnOk P w K mg base CX0 (k+1) f fd P_bn (liftSp K (spLoop d)):=by
 tm_at "F bn"
 obtain ⟨p,c,cs,i,n,ss,u,rfl,st,hcs,hss,pu,hup,huc,hnl,q⟩:=h
 refine exs_cons ?_
 lk
 refine ix_al st.st rfl ?_
 lk
 refine set_ll st.st rfl ?_
 rw [cast1 hnl]
 generalize hM1:mset M p _=M1
 obtain ⟨st1,k1,fr1⟩:=st.upd (j:=i) (m:=⟨n.s,n.b,n.l - 1,n.a,n.n⟩) hM1 rfl
 have pu1:=pu.kp k1 (by simp [hup])
 lk
 refine ⟨u,ss,rfl,pu1,hss.le,fun kk0 ts0 wb0 M2 ht0 bw0 pu2 k2=>?_⟩
 have st2:=st1.kp k2 (by simp [hup.symm]) (by simp [huc.symm])
 lk
 with_reducible refine' ex_compR 5 (own:=["_law_k"]) (js:=[3,1]) (N:=["_law_k", "_law_purse_here", "_law_names_here"]) ?T ?xe ?ca ?hm ?hN ?hj ?hy ?hyf ?hsw ?_ ?hg ?hse ?hs
 case T=>exact compOk_freeB (fs:=["_law_purse_here", "_law_names_here"]) rfl (by decide +kernel) (by decide +kernel) rfl rfl rfl rfl rfl
 case xe=>rfl
 case ca=>rfl
 case hm=>exact h_range
 case hN=>exact nd
 case hj=>rfl
 case hy=>first | exact Or.inl rfl | exact Or.inr rfl
 case hyf=>exact .inl rfl
 case hsw=>rfl
 case hg=>rfl
 case hse=>rfl
 case hs=>(intro _;rfl)
 lk
 refine ⟨_,_,rfl,pu2,by decide,lim,fun r M3 h1 h2 pu3 k3=>?_⟩
 have st3:=st2.kp k3 (by simp [hup.symm]) (by simp [huc.symm])
 lk
 refine ⟨_,fun q2 i2 acc M5=>∃ rs:List Rw,acc=rs.map rwD/\rs.length=i2/\(∀ x∈rs,WfR ss x)/\M3 q2=none/\Stt M5 p c cs i ⟨n.s,n.b,n.l - 1,n.a,n.n⟩/\Pu M5 u/\Kp [u] M3 M5,rfl,by omega,by omega,?_,?_,?_⟩
 ·intro q2 hq2
  exact ⟨[],rfl,rfl,by simp,hq2,st3.ext (ext_new hq2),pu3.ext (ext_new hq2),Kp.new hq2⟩
 ·rintro Y ⟨C',s',H',fp,rfl⟩ q2 i2 acc M5 hi2 ⟨rs,rfl,hrl,hrw,hq2,st5,pu5,k5⟩ hacc
  refine gv_name 0 (by show (["_law_k", "_law_purse_here", "_law_names_here"] : List Str).Nodup;decide +kernel) ?_
  refine ⟨rfl,fun i d e=>?_,?_⟩
  ·rcases i with _ | i
   ·simp [compG] at e
   ·exact e
  repeat first | (refine ev_var 1 ?_) | (refine ev_var 2 ?_) | k_go
  refine ⟨u,ss,rfl,pu5,hss.le,fun kk ts wb M6 ht bw pu6 k6=>?_⟩
  have hqu:q2≠u:=(pu3.ne hq2).symm
  have hrl2:rs.length<=2:=by omega
  refine ⟨k6.at hacc (by simp [hqu]),small1000 (by rw [List.length_map];omega),rs++[(kk,ts,wb)],by rw [List.map_append];rfl,by rw [List.length_append,hrl];rfl,fun x hx=>?_,hq2,?_,?_,?_⟩
  ·rcases List.mem_append.mp hx with hx | hx
   ·exact hrw x hx
   ·rw [List.mem_singleton.mp hx];exact ⟨ht,bw⟩
  ·have hqp:q2≠p:=fun z=>by rw [z,st3.st] at hq2;cases hq2
   have hqc:q2≠c:=fun z=>by rw [z,st3.cl] at hq2;cases hq2
   have:=st5.kp k6 (by simp [hup.symm]) (by simp [huc.symm])
   exact ⟨by rw [mset_ne hqp.symm];exact this.st,by rw [mset_ne hqc.symm];exact this.cl⟩
  ·obtain ⟨a,b,e,ha,hb⟩:=pu6
   exact ⟨a,b,by rw [mset_ne hqu.symm];exact e,ha,hb⟩
  ·intro b o hb e
   rw [mset_ne (ne_fresh e hq2)]
   exact k6 b o hb (k5 b o hb e)
 rintro q2 acc M5 ⟨rs,rfl,hrl,hrw,hq2,st5,pu5,k5⟩ hacc
 have hrl:rs.length<=2:=by omega
 have kq:∀ {M6:MH},Kp [p,u] M5 M6->M6 q2=some (.lst (rs.map rwD)):=fun {M6} k6=>k6.at hacc (by
  have hqp:q2≠p:=fun z=>by rw [z,st3.st] at hq2;cases hq2
  have hqu:q2≠u:=(pu3.ne hq2).symm
  simp [hqp,hqu])
 have kk5:Kp [p,u] M M5:=(k1.mono (by simp)).trans ((k2.mono (by simp)).trans ((k3.mono (by simp)).trans (k5.mono (by simp))))
 lk
 refine exs_join (fun G' M'=>∃ ms:Option (Sm × Int),G'=[some (.ref p),some (nms ss),some (.int d),some (.ref u),some (rowD kk0 ts0 wb0),some (.ref q2),some (msD ms),none,none]/\(∀ m,ms=some m->WfS ss m.1/\0 < m.2/\B 65 m.2)/\Stt M' p c cs i ⟨n.s,n.b,n.l - 1,n.a,n.n⟩/\Kp [p,u] M5 M') ?_ ?_
 ·lk
  refine ⟨_,_,rfl,pu5,by decide,lim,fun r2 M6 h3 h4 pu6 k6=>?_⟩
  have st6:=st5.kp k6 (by simp [hup.symm]) (by simp [huc.symm])
  lk
  refine ifD ?_ ?_
  ·intro _
   lk
   refine ⟨u,ss,rfl,pu6,hss.le,fun ts wb by0 M7 ht bw hb lb pu7 k7=>?_⟩
   have st7:=st6.kp k7 (by simp [hup.symm]) (by simp [huc.symm])
   lk
   refine ⟨u,rfl,pu7,fun nn M8 ln pu8 k8=>?_⟩
   have st8:=st7.kp k8 (by simp [hup.symm]) (by simp [huc.symm])
   lk
   rw [abs_eq]
   have ln:nn.natAbs < 2 ^ 64:=ln
   have bf:B 65 (1+(nn.natAbs:Int)):=by unfold B;omega
   refine ⟨some ((ts,wb,by0),1+(nn.natAbs:Int)),rfl,fun m e=>?_,st8,(k6.mono (by simp)).trans ((k7.mono (by simp)).trans (k8.mono (by simp)))⟩
   cases e
   exact ⟨⟨ht,bw,hb,lb⟩,by omega,bf⟩
  ·intro _
   refine exs_nil ?_
   exact ⟨none,rfl,(fun m e=>by cases e),st6,k6.mono (by simp)⟩
 rintro G' M' ⟨ms,rfl,hms,st7,k7⟩
 lk
 refine ix_al st7.st rfl ?_
 lk
 refine ⟨p,c,cs,i,_,ss,rfl,st7,hcs,hss,fun b j m M8 hj st8 hw hdb htk k8=>?_⟩
 obtain ⟨a1,a2,a3,a4,a5⟩:=htk
 simp only at a1 a2 a3 a4 a5
 have e1:=dps_le (n:=4 - d) fun s hs=>by have:=hdb s hs;omega
 have k78:Kp [p,u] M5 M8:=k7.trans (k8.mono (by simp))
 have fin:∀ ms:Option (Sm × Int),WfM ss b ms->Q (stD (.whl (kk0,ts0,wb0) rs ms b)) M8:=by
  intro ms hm
  refine q _ j m M8 hj st8 (by simp only [wf];exact ⟨⟨ht0,bw0⟩,hrw,hrl,hm,hw⟩) (by simp only [dp];omega) ?_ (kk5.trans k78)
  refine ⟨?_,?_,?_,?_,?_⟩<;>simp only [tt,Cnt.add]<;>omega
 lk
 refine exs_cons ?_
 lk
 refine ix_al st8.st rfl ?_
 lk
 refine ifD ?_ ?_
 ·intro _
  lk
  refine ⟨_,rfl,_,kq k78,?_⟩
  lk
  exact fin none trivial
 ·intro hl
  simp only at hl
  lk
  refine ⟨_,rfl,_,kq k78,?_⟩
  lk
  refine fin ms ?_
  cases ms with
  | none=>exact trivial
  | some m =>
   obtain ⟨h1,h2,h3⟩:=hms m rfl
   exact ⟨h1,h2,h3,by omega⟩
local macro_rules | `(tactic| tm_at $s:str)=>namT n_bo s
theorem ok_l_block {d k:Nat} (hk:4<=k) (F:Fun K "_law_block" "_law_block" s_bo f fd) (h_tuple:mg "tuple" = none) (h_range:mg "range" = none)
  (C_l_next:Cal P w K mg base 2 "_law_next" spNext) (C_l_take:Cal P w K mg base 1 "_law_take" spTake) (C_l_statement:Cal P w K mg base k "_law_statement" (spStmt d)):FnOk P w K mg base CX0 (k+1) f fd P_bo (liftSp K (spBlock d)):=by
 tm_at "F bo"
 obtain ⟨p,c,cs,i,n,ss,rfl,st,hcs,hss,q⟩:=h
 refine exs_cons ?_
 lk
 refine ⟨p,c,cs,i,n,rfl,st,hcs,fun u M1 hu pu st1 k1=>?_⟩
 have hup:u≠p:=(ne_fresh st.st hu).symm
 have huc:u≠c:=(ne_fresh st.cl hu).symm
 lk
 intro f0 hf0
 have hf0p:f0≠p:=(ne_fresh st1.st hf0).symm
 have hf0u:f0≠u:=(pu.ne hf0).symm
 have st2:=st1.ext (ext_new (o:=.lst []) hf0)
 refine exs_cons (ex_for_range PassesOwn.never rfl h_range ?_)
 lk
 intro l hl
 lk
 have pu2:=(pu.ext (ext_new (o:=.lst []) hf0)).ext (ext_new (o:=.lst [.int 0,.int 1,.int 2,.int 1,.int 3]) hl)
 refine ⟨_,_,rfl,pu2,by decide,lim,fun r M3 h1 h2 pu3 k3=>?_⟩
 have hlu:l≠u:=((pu.ext (ext_new (o:=.lst []) hf0)).ne hl).symm
 have hl3:M3 l=some (.lst [.int 0,.int 1,.int 2,.int 1,.int 3]):=k3.at mset_same (by simp [hlu])
 have hb:∃ b:Nat,atI [D.int 0,.int 1,.int 2,.int 1,.int 3] r=some (.int (b:Int))/\b<=3:=by
  have:r=0\/r=1\/r=2\/r=3\/r=4:=by omega
  rcases this with rfl | rfl | rfl | rfl | rfl
  ·exact ⟨0,rfl,by decide⟩
  ·exact ⟨1,rfl,by decide⟩
  ·exact ⟨2,rfl,by decide⟩
  ·exact ⟨1,rfl,by decide⟩
  ·exact ⟨3,rfl,by decide⟩
 obtain ⟨many,eb,hm3⟩:=hb
 have st3:Stt M3 p c cs (i+1) n:=(st2.ext (ext_new hl)).kp k3 (by simp [hup.symm]) (by simp [huc.symm])
 have hf3:M3 f0=some (.lst []):=k3.at (mset_old hl mset_same) (by simp [hf0u])
 have kk3:Kp [p] M M3:=fun b o hb e=>k3 b o (by simp;exact ne_fresh e hu) (ext_new hl _ _ (ext_new hf0 _ _ (k1 b o hb e)))
 lk
 refine ix_al hl3 eb ?_
 lk
 refine ⟨_,fun i2 G' M'=>∃ (b:List Stm) (j:Nat) (m:Cnt) (r5:Option D),G'=[some (.ref p),some (nms ss),some (.int d),some (.ref u),some (.ref f0),r5]/\M' f0=some (.lst (stDs b))/\b.length<=i2/\i<=j/\Stt M' p c cs j m/\wfs ss b/\(∀ s∈b,dp s+d<=5)/\Took n m (tts b)/\Kp [p,f0] M3 M',rfl,by omega,by omega,
  ⟨[],i+1,n,none,rfl,by simp only [stDs];exact hf3,Nat.zero_le _,by omega,st3,by simp only [wfs],by simp,by refine ⟨?_,?_,?_,?_,?_⟩<;>simp only [tts]<;>omega,Kp.refl _ _⟩,?_,?_⟩
 ·rintro i2 G' M' hi2 ⟨b,j,m,r5,rfl,hf,hbl,hij,st4,hwb,hdb,htk,k4⟩
  have hf0c:f0≠c:=by
   intro z;subst z
   exact absurd st1.cl (by rw [hf0];intro z;cases z)
  lk
  refine ix_al st4.st rfl ?_
  lk
  refine ifD ?_ ?_
  ·intro hs
   lk
   refine ix_al st4.st rfl ?_
   lk
   refine set_ll st4.st rfl ?_
   rw [cast1 (by omega)]
   generalize hM5:mset M' p _=M5
   obtain ⟨st5,k5,fr5⟩:=st4.upd (j:=j) (m:=⟨m.s - 1,m.b,m.l,m.a,m.n⟩) hM5 rfl
   have hf5:M5 f0=some (.lst (stDs b)):=k5.at hf (by simp [hf0p])
   lk
   refine ⟨f0,rfl,⟨_,hf5⟩,?_⟩
   lk
   refine ⟨p,c,cs,j,_,ss,rfl,st5,hcs,hss,fun s' j' m' M6 hj' st6 hw' hd' tk' k6=>?_⟩
   have hf6:M6 f0=some (.lst (stDs b)):=k6.at hf5 (by simp [hf0p])
   refine ⟨_,hf6,small1000 (by rw [stDs_map,List.length_map];omega),?_⟩
   obtain ⟨a1,a2,a3,a4,a5⟩:=htk
   obtain ⟨c1,c2,c3,c4,c5⟩:=tk'
   simp only at c1 c2 c3 c4 c5
   refine ⟨b++[s'],j',m',_,rfl,by rw [mset_same,stDs_snoc],by rw [List.length_append];show _+1<=_;omega,by omega,⟨by rw [mset_ne hf0p.symm];exact st6.st,by rw [mset_ne hf0c.symm];exact st6.cl⟩,wfs_snoc hwb hw',?_,?_,?_⟩
   ·intro x hx
    rcases List.mem_append.mp hx with hx | hx
    ·exact hdb x hx
    ·rw [List.mem_singleton.mp hx];exact hd'
   ·rw [tts_app]
    refine ⟨?_,?_,?_,?_,?_⟩<;>simp only [tts,Cnt.add]<;>omega
   ·exact k4.trans ((k5.mono (by simp)).trans ((k6.mono (by simp)).trans (Kp.put (by simp))))
  ·intro hs
   refine exs_nil ?_
   exact ⟨b,j,m,_,rfl,hf,by omega,hij,st4,hwb,hdb,htk,k4⟩
 ·rintro G' M' ⟨b,j,m,r5,rfl,hf,hbl,hij,st4,hwb,hdb,htk,k4⟩
  lk
  refine ⟨_,rfl,_,hf,?_⟩
  refine q b j m M' hij st4 hwb hdb htk ?_
  intro x o hx e
  have hxf:x≠f0:=by
   intro z;subst z
   have:=k1 _ _ hx e
   rw [hf0] at this;cases this
  exact k4 x o (by simp at hx ⊢;exact ⟨hx,hxf⟩) (kk3 x o hx e)
local macro_rules | `(tactic| tm_at $s:str)=>namT n_bp s
theorem ok_l_plan {k:Nat} (hk:4<=k) (F:Fun K "_law_plan" "_law_plan" s_bp f fd) (h_tuple:mg "tuple" = none) (h_range:mg "range" = none) (h_len:mg "len" = none)
  (C_l_purse:Cal P w K mg base 1 "_law_purse" spPurse) (C_l_take:Cal P w K mg base 1 "_law_take" spTake) (C_l_row:Cal P w K mg base 4 "_law_row" spRow) (C_l_statement:Cal P w K mg base k "_law_statement" (spStmt 1)):FnOk P w K mg base CX0 (k+1) f fd P_bp (liftSp K spPlan):=by
 tm_at "F bp"
 obtain ⟨c,cs,first,ss,rfl,hc,hcs,hfirst,hss,q⟩:=h
 refine exs_cons ?_
 lk
 intro p hp
 have hpc:c≠p:=ne_fresh hc hp
 lk
 intro f0 hf0
 have st0:Stt (mset M p (.lst [.ref c,.int 0,.int 24,.int 2,.int 2,.int 1,.int 2])) p c cs 0 ⟨24,2,2,1,2⟩:=⟨mset_same,by rw [mset_ne hpc];exact hc⟩
 have hf0p:f0≠p:=(ne_fresh st0.st hf0).symm
 have hf0c:f0≠c:=(ne_fresh st0.cl hf0).symm
 have st1:=st0.ext (ext_new (o:=.lst []) hf0)
 have e1:Ext M (mset (mset M p (.lst [.ref c,.int 0,.int 24,.int 2,.int 2,.int 1,.int 2])) f0 (.lst [])):=Ext.trans (ext_new hp) (ext_new hf0)
 have hM0:∀ x o,M x=some o->x≠p/\x≠f0:=fun x o e=>⟨ne_fresh e hp,ne_fresh (ext_new hp _ _ e) hf0⟩
 have hf1:mset (mset M p (.lst [.ref c,.int 0,.int 24,.int 2,.int 2,.int 1,.int 2])) f0 (.lst []) f0=some (.lst []):=mset_same
 generalize mset (mset M p (.lst [.ref c,.int 0,.int 24,.int 2,.int 2,.int 1,.int 2])) f0 (.lst [])=M1 at st1 e1 hf1 ⊢
 refine exs_cons (ex_while (fun G' M'=>∃ (b:List Stm) (j:Nat) (m:Cnt),G'=[some (.ref c),some (.int first),some (nms ss),some (.ref p),some (.ref f0),none,none]/\M' f0=some (.lst (stDs b))/\b.length+m.s<=24/\Stt M' p c cs j m/\wfs ss b/\(∀ s∈b,dp s+1<=5)/\Took ⟨24,2,2,1,2⟩ m (tts b)/\Kp [p,f0] M1 M')
  (fun _ M'=>match M' p with | some (.lst [_,.int a,_,_,_,_,_])=>cs.length - a.toNat | _=>0) PassesOwn.never
  ⟨[],0,⟨24,2,2,1,2⟩,rfl,by simp only [stDs];exact hf1,by decide,st1,by simp only [wfs],by simp,by refine ⟨?_,?_,?_,?_,?_⟩<;>simp only [tts],Kp.refl _ _⟩ ?_)
 rintro G' M' ⟨b,j,m,rfl,hf,hbl,st2,hwb,hdb,htk,k2⟩
 have fin:EXs (cxOf CX0 P w K mg base N_bp "_law_plan" (defScope s_bp) f cdv A outer s H EE).nox [some (.ref c),some (.int first),some (nms ss),some (.ref p),some (.ref f0),none,none] M' ((defBody s_bp).drop 3) { nx:=fun _ M'=>Q .non M',rt:=Q }:=by
  refine exs_cons ?_
  lk
  refine ⟨_,rfl,hfirst,fun u M2 hu pu2 k3=>?_⟩
  lk
  with_reducible refine' ex_compR 6 (own:=["_law_k"]) (js:=[5,2]) (N:=["_law_k", "_law_purse_here", "_law_names_here"]) ?T ?xe ?ca ?hm ?hN ?hj ?hy ?hyf ?hsw ?_ ?hg ?hse ?hs
  case T=>exact compOk_freeB (fs:=["_law_purse_here", "_law_names_here"]) rfl (by decide +kernel) (by decide +kernel) rfl rfl rfl rfl rfl
  case xe=>rfl
  case ca=>rfl
  case hm=>exact h_range
  case hN=>exact nd
  case hj=>rfl
  case hy=>first | exact Or.inl rfl | exact Or.inr rfl
  case hyf=>exact .inl rfl
  case hsw=>rfl
  case hg=>rfl
  case hse=>rfl
  case hs=>(intro _;rfl)
  lk
  refine ⟨_,_,rfl,pu2,by decide,lim,fun r M3 h1 h2 pu3 k4=>?_⟩
  lk
  refine ⟨_,fun q2 i2 acc M5=>∃ rs:List Rw,acc=rs.map rwD/\rs.length=i2/\(∀ x∈rs,WfR ss x)/\M3 q2=none/\True/\Pu M5 u/\Kp [u] M3 M5,rfl,by omega,by omega,?_,?_,?_⟩
  ·intro q2 hq2
   exact ⟨[],rfl,rfl,by simp,hq2,trivial,pu3.ext (ext_new hq2),Kp.new hq2⟩
  ·rintro Y ⟨C',s',H',fp,rfl⟩ q2 i2 acc M5 hi2 ⟨rs,rfl,hrl,hrw,hq2,st5,pu5,k5⟩ hacc
   refine gv_name 0 (by show (["_law_k", "_law_purse_here", "_law_names_here"] : List Str).Nodup;decide +kernel) ?_
   refine ⟨rfl,fun i d e=>?_,?_⟩
   ·rcases i with _ | i
    ·simp [compG] at e
    ·exact e
   repeat first | (refine ev_var 1 ?_) | (refine ev_var 2 ?_) | k_go
   refine ⟨u,ss,rfl,pu5,hss.le,fun kk ts wb M6 ht bw pu6 k6=>?_⟩
   have hqu:q2≠u:=(pu3.ne hq2).symm
   have hrl2:rs.length<=2:=by omega
   refine ⟨k6.at hacc (by simp [hqu]),small1000 (by rw [List.length_map];omega),rs++[(kk,ts,wb)],by rw [List.map_append];rfl,by rw [List.length_append,hrl];rfl,fun x hx=>?_,hq2,?_,?_,?_⟩
   ·rcases List.mem_append.mp hx with hx | hx
    ·exact hrw x hx
    ·rw [List.mem_singleton.mp hx];exact ⟨ht,bw⟩
   ·trivial
   ·obtain ⟨a,b,e,ha,hb⟩:=pu6
    exact ⟨a,b,by rw [mset_ne hqu.symm];exact e,ha,hb⟩
   ·intro b o hb e
    rw [mset_ne (ne_fresh e hq2)]
    exact k6 b o hb (k5 b o hb e)
  rintro q2 acc M5 ⟨rs,rfl,hrl,hrw,hq2,st5,pu5,k5⟩ hacc
  have hf6:M5 f0=some (.lst (stDs b)):=k5.at (k4.at (k3 _ _ hf) (by simp [(ne_fresh hf hu)])) (by simp [(ne_fresh hf hu)])
  lk
  refine ⟨_,rfl,_,hacc,?_⟩
  lk
  refine ⟨_,rfl,_,hf6,?_⟩
  lk
  obtain ⟨a1,a2,a3,a4,a5⟩:=htk
  simp only at a1 a2 a3 a4 a5
  refine q ⟨ss,rs,b⟩ M5 ⟨hss,hrw,(by show rs.length<=2;omega),hwb,(fun s hs=>by have:=hdb s hs;omega),(by show (tts b).s<=24;omega),(by show (tts b).b<=2;omega),(by show (tts b).l<=2;omega),(by show (tts b).a<=1;omega),(by show (tts b).n<=2;omega)⟩ rfl ?_
  intro x o e
  obtain ⟨x1,x2⟩:=hM0 x o e
  have e2:M' x=some o:=k2 x o (by simp [x1,x2]) (e1 _ _ e)
  have hxu:x≠u:=ne_fresh e2 hu
  exact k5 x o (by simp [hxu]) (k4 x o (by simp [hxu]) (k3 _ _ e2))
 lk
 refine ix_al st2.st rfl ?_
 lk
 refine ⟨_,_,rfl,Or.inl ⟨_,st2.cl,rfl⟩,?_⟩
 rw [List.length_map]
 lk
 refine ifD ?_ ?_
 ·intro hj
  lk
  refine ix_al st2.st rfl ?_
  lk
  refine ifD ?_ ?_
  ·intro hs
   lk
   refine ix_al st2.st rfl ?_
   lk
   refine set_ll st2.st rfl ?_
   rw [cast1 (by omega)]
   generalize hM5:mset M' p _=M5
   obtain ⟨st5,k5,fr5⟩:=st2.upd (j:=j) (m:=⟨m.s - 1,m.b,m.l,m.a,m.n⟩) hM5 rfl
   have hf5:M5 f0=some (.lst (stDs b)):=k5.at hf (by simp [hf0p])
   lk
   refine ⟨f0,rfl,⟨_,hf5⟩,?_⟩
   lk
   refine ⟨p,c,cs,j,_,ss,rfl,st5,hcs,hss,fun s' j' m' M6 hj' st6 hw' hd' tk' k6=>?_⟩
   have hf6:M6 f0=some (.lst (stDs b)):=k6.at hf5 (by simp [hf0p])
   refine ⟨_,hf6,small1000 (by rw [stDs_map,List.length_map];omega),?_⟩
   obtain ⟨a1,a2,a3,a4,a5⟩:=htk
   obtain ⟨c1,c2,c3,c4,c5⟩:=tk'
   simp only at a1 a2 a3 a4 a5 c1 c2 c3 c4 c5
   have hc1:1<=(tt s').s:=by cases s'<;>simp only [tt,Cnt.add]<;>omega
   refine ⟨⟨b++[s'],j',m',rfl,by rw [mset_same,stDs_snoc],by rw [List.length_append];show _+1+_<=_;omega,⟨by rw [mset_ne hf0p.symm];exact st6.st,by rw [mset_ne hf0c.symm];exact st6.cl⟩,wfs_snoc hwb hw',?_,?_,?_⟩,?_⟩
   ·intro x hx
    rcases List.mem_append.mp hx with hx | hx
    ·exact hdb x hx
    ·rw [List.mem_singleton.mp hx];exact hd'
   ·rw [tts_app]
    refine ⟨?_,?_,?_,?_,?_⟩<;>simp only [tts,Cnt.add]<;>omega
   ·exact k2.trans ((k5.mono (by simp)).trans ((k6.mono (by simp)).trans (Kp.put (by simp))))
   ·rw [mset_ne hf0p.symm,st6.st,st2.st]
    show cs.length - Int.toNat (j':Int) < cs.length - Int.toNat (j:Int)
    omega
  ·intro _
   exact fin
 ·intro _
  exact fin
local macro_rules | `(tactic| tm_at $s:str)=>namT n_ae s
theorem ok_blocks_of (F:Fun K "blocks_of" "blocks_of" s_ae f fd):FnOk P w K mg base CX0 1 f fd P_ae (liftSp K spBlocksOf):=by
 tm_at "F ae"
 obtain ⟨st,rfl,q⟩:=h
 cases st<;>simp only [stD,blks,blD,List.map_cons,List.map_nil] at q ⊢<;>refine exs_cons ?_<;>repeat first | k_go | refine ifDy rfl ?_ | refine ifDn (by decide) ?_ | refine exs_cons ?_
 all_goals exact q
end
theorem pc_app (p:Pce) (n i:Nat):pcD (p++[n]++[i])=.tup (p.map (fun n:Nat=>D.int n)++[.int n,.int i]):=by
 unfold pcD;rw [List.append_assoc,List.map_append];rfl
section
variable {P:Program} {w:World} {K:PySem.W.Frag} {mg:Str->Option Value} {base:Heap} {f:Addr} {fd:FuncData}
local macro_rules | `(tactic| tm_at $s:str)=>namT n_ag s
theorem ok_straight_within (F:Fun K "straight_within" "straight_within" s_ag f fd) (h_enumerate:mg "enumerate" = none) (C_blocks_of:Cal P w K mg base 1 "blocks_of" spBlocksOf):FnOk P w K mg base CX0 2 f fd P_ag (liftSp K spWithin):=by
 tm_at "F ag"
 obtain ⟨p,st,rfl,hs,hp0,hp,q⟩:=h
 have hlen:(rows p 0 (blks st)).length<=100:=Nat.le_trans (len_bulk _) (by have:=bulk_rows p st;omega)
 refine exs_cons ?_
 lk
 intro f0 hf0
 refine exs_cons ?_
 with_reducible refine' ex_for_enum ?_ ?_ ?_ ?_ ?g ?h ?i
 case g=>rfl
 case h=>rfl
 case i=>(intro _;rfl)
 ·exact PassesOwn.never
 ·rfl
 ·exact h_enumerate
 lk
 refine ⟨st,rfl,?_⟩
 lk
 refine ⟨_,fun n G' M'=>∃ r3 r4 r5 r6,G'=[some (pcD p),some (stD st),some (.ref f0),r3,r4,r5,r6]/\M' f0=some (.lst ((rows p 0 ((blks st).take n)).map prD))/\Ext M M',rfl,⟨none,none,none,none,rfl,mset_same,ext_new hf0⟩,?_,?_⟩
 ·rintro n d G' M' hd ⟨r3,r4,r5,r6,rfl,hf,hx⟩
  rw [List.getElem?_map] at hd
  obtain ⟨b,hb,rfl⟩:=Option.map_eq_some_iff.mp hd
  obtain ⟨e1,e2⟩:=rows_pre p hb
  lk
  with_reducible refine' ex_for_enum ?_ ?_ ?_ ?_ ?g ?h ?i
  case g=>rfl
  case h=>rfl
  case i=>(intro _;rfl)
  ·exact PassesOwn.never
  ·rfl
  ·exact h_enumerate
  lk
  refine ⟨_,fun i G' M'=>∃ r5 r6,G'=[some (pcD p),some (stD st),some (.ref f0),some (.int n),some (.tup (stDs b)),r5,r6]/\M' f0=some (.lst ((rows p 0 ((blks st).take n)++row (p++[n]) 0 (b.take i)).map prD))/\Ext M M',rfl,⟨r5,r6,rfl,by simp only [List.take_zero,row,List.append_nil];exact hf,hx⟩,?_,?_⟩
  ·rintro i d G' M' hd ⟨r5,r6,rfl,hf,hx⟩
   rw [stDs_map,List.getElem?_map] at hd
   obtain ⟨s1,hs1,rfl⟩:=Option.map_eq_some_iff.mp hd
   have hi:=(List.getElem?_eq_some_iff.mp hs1).1
   lk
   refine ⟨f0,rfl,⟨_,hf⟩,?_⟩
   lk
   refine add_tt (by simpa using hp0) (small (by rw [List.length_map];show _+2<=_;omega)) ?_
   lk
   refine ⟨_,hf,small1000 (by rw [List.length_map,List.length_append,row_len,List.length_take];omega),?_⟩
   refine ⟨_,_,rfl,?_,fun x o e=>by rw [mset_ne (ne_fresh e hf0)];exact hx x o e⟩
   have e3:b.take (i+1)=b.take i++[s1]:=by rw [List.take_succ,hs1];rfl
   rw [mset_same,e3,row_snoc,List.length_take,Nat.zero_add,Nat.min_eq_left (by omega),<- List.append_assoc]
   have e4:prD (p++[n]++[i],s1)=.tup [.tup (p.map (fun n:Nat=>D.int n)++[.int n,.int i]),stD s1]:=by unfold prD;rw [pc_app]
   rw [<- e4,List.map_append (l₁:=rows p 0 ((blks st).take n)++row (p++[n]) 0 (b.take i))]
   rfl
  ·rintro G' M' ⟨r5,r6,rfl,hf,hx⟩
   refine ⟨_,_,_,_,rfl,?_,hx⟩
   rw [stDs_map,List.length_map,List.take_length] at hf
   rw [hf,e1]
 ·rintro G' M' ⟨r3,r4,r5,r6,rfl,hf,hx⟩
  lk
  rw [List.length_map,List.take_length] at hf
  exact q f0 M' hf0 hf hx
local macro_rules | `(tactic| tm_at $s:str)=>namT n_af s
theorem ok_laid_out (F:Fun K "laid_out" "laid_out" s_af f fd) (h_enumerate:mg "enumerate" = none) (h_len:mg "len" = none) (C_straight_within:Cal P w K mg base 2 "straight_within" spWithin):FnOk P w K mg base CX0 3 f fd P_af (liftSp K spLaid):=by
 tm_at "F af"
 obtain ⟨b,rfl,hN,q⟩:=h
 have hbl:b.length<=100:=by
  have:=len_bulk (row [] 0 b)
  rw [row_len,bulk_row] at this
  omega
 refine exs_cons ?_
 lk
 intro f0 hf0
 lk
 with_reducible refine' ex_comp_enum 2 (own:=["index", "statement"]) (js:=[]) (N:=["index", "statement"]) (cl:=[]) ?T ?xe ?ca ?hm ?hN ?hj ?hy ?hyf ?hsw wrap (fun _=>true) ?_ ?hg ?hse ?hs
 case T=>exact compOk_plain (by decide +kernel) (by decide +kernel) rfl (by decide +kernel) rfl
 case xe=>rfl
 case ca=>rfl
 case hm=>exact h_enumerate
 case hN=>exact nd
 case hj=>rfl
 case hy=>first | exact Or.inl rfl | exact Or.inr rfl
 case hyf=>exact .inl rfl
 case hsw=>rfl
 case hg=>rfl
 case hse=>rfl
 case hs=>(intro _;rfl)
 lk
 refine ⟨stDs b,rfl,small (by rw [stDs_map,List.length_map];omega),?_,fun w0 hw0=>?_⟩
 ·rintro Y ⟨C',s',H',fp,rfl⟩ M' hM d hd
  unfold D3.numbered at hd
  obtain ⟨t,ht,rfl⟩:=List.mem_map.mp hd
  have nd2:(["index", "statement"] : List Str).Nodup:=by decide +kernel
  refine gv_tup rfl ?_
  refine gvs_cons ?_
  refine gv_name 0 nd2 ?_
  refine gvs_cons ?_
  refine gv_name 1 nd2 ?_
  refine gvs_nil ?_
  refine ⟨rfl,fun i d e=>by rcases i with _ | _ | i<;>simp [compG] at e,tvs_nil ⟨rfl,rfl⟩,fun _=>?_⟩
  repeat first | (refine ev_var 0 ?_) | (refine ev_var 1 ?_) | k_go
  exact ⟨rfl,rfl⟩
 rw [wrap_row]
 have hw:w0≠f0:=(ne_fresh (o:=.lst []) mset_same hw0).symm
 lk
 refine ⟨w0,_,rfl,mset_same,?_⟩
 rw [mset_mset,<- List.map_reverse]
 refine exs_cons (ex_while (fun G' M'=>∃ (dn wt:List (Pce × Stm)) (r3 r4:Option D),G'=[some (.tup (stDs b)),some (.ref f0),some (.ref w0),r3,r4]/\M' f0=some (.lst (dn.map prD))/\M' w0=some (.lst (wt.map prD))/\dn++wt.reverse.flatMap layP=layB [] 0 b/\dn.length+bulk wt=(tts b).s/\(∀ x∈wt,Fits (tts b).s x)/\Ext M M')
  (fun _ M'=>match M' f0 with | some (.lst l)=>200 - l.length | _=>0) PassesOwn.never
  ⟨[],(row [] 0 b).reverse,none,none,rfl,by rw [mset_ne hw.symm];exact mset_same,mset_same,by rw [List.reverse_reverse,<- layB_row];rfl,by rw [bulk_rev,bulk_row];simp,fun x hx=>fits_row (m:=(tts b).s) (by show 0+1+_<=_;omega) (Nat.le_refl _) x (List.mem_reverse.mp hx),Ext.trans (ext_new hf0) (ext_new hw0)⟩ ?_)
 rintro G' M' ⟨dn,wt,r3,r4,rfl,hf,hwt,hall,hbk,hfit,hx⟩
 have hdl:dn.length<=100:=by omega
 lk
 refine ⟨_,_,rfl,Or.inl ⟨_,hwt,rfl⟩,?_⟩
 rw [List.length_map]
 lk
 refine ifD ?_ ?_
 ·intro hpos
  obtain ⟨wt',x,rfl⟩:∃ wt' x,wt=wt'++[x]:=by
   have:wt≠[]:=by intro z;subst z;simp at hpos
   exact ⟨wt.dropLast,wt.getLast this,(List.dropLast_concat_getLast this).symm⟩
  have hfx:=hfit x (by simp)
  have hbk2:bulk (wt'++[x])=bulk wt'+(tt x.2).s:=by rw [bulk_app];simp [bulk]
  rw [hbk2] at hbk
  rw [List.map_append] at hwt
  lk
  refine ⟨w0,_,_,rfl,hwt,?_⟩
  lk
  refine ⟨f0,rfl,⟨_,by rw [mset_ne hw.symm];exact hf⟩,?_⟩
  lk
  refine ⟨_,by rw [mset_ne hw.symm];exact hf,small1000 (by rw [List.length_map];omega),?_⟩
  generalize hM2:mset (mset M' w0 _) f0 _=M2
  have hf2:M2 f0=some (.lst ((dn++[x]).map prD)):=by rw [<- hM2,mset_same,List.map_append];rfl
  have hw2:M2 w0=some (.lst (wt'.map prD)):=by rw [<- hM2,mset_ne hw,mset_same]
  have hx2:Ext M M2:=fun z o e=>by
   rw [<- hM2,mset_ne (ne_fresh e hf0),mset_ne (ne_fresh (ext_new hf0 _ _ e) hw0)]
   exact hx z o e
  lk
  refine (show IxA (D.tup [pcD x.1,stD x.2]) (D.int 0) _ _ from ix_at rfl ?_)
  lk
  refine (show IxA (D.tup [pcD x.1,stD x.2]) (D.int 1) _ _ from ix_at rfl ?_)
  lk
  obtain ⟨hx1,hxl⟩:=id hfx
  refine ⟨x.1,x.2,rfl,by omega,hx1,by omega,fun i0 M3 hi0 hi hx3=>?_⟩
  have hif:i0≠f0:=(ne_fresh hf2 hi0).symm
  have hiw:i0≠w0:=(ne_fresh hw2 hi0).symm
  lk
  refine ⟨i0,_,rfl,hi,?_⟩
  lk
  refine ⟨w0,rfl,⟨_,by rw [mset_ne hiw.symm];exact hx3 _ _ hw2⟩,?_⟩
  lk
  have hbr:=bulk_rows x.1 x.2
  have hl1:=len_bulk (rows x.1 0 (blks x.2))
  have hl2:=len_bulk wt'
  refine ⟨i0,_,_,rfl,by rw [mset_ne hiw.symm];exact hx3 _ _ hw2,mset_same,small (by rw [List.length_map,List.length_reverse,List.length_map];omega),?_⟩
  refine ⟨⟨dn++[x],wt'++(rows x.1 0 (blks x.2)).reverse,_,_,rfl,by rw [mset_ne hw.symm,mset_ne hif.symm];exact hx3 _ _ hf2,by rw [mset_same,List.map_append,List.map_reverse],?_,?_,?_,?_⟩,?_⟩
  ·rw [List.reverse_append,List.reverse_reverse,List.flatMap_append,<- hall,List.reverse_append]
   show dn++[x]++_=dn++(layP x++_)
   have e5:layP x=x :: (rows x.1 0 (blks x.2)).flatMap layP:=lay_eq x.1 x.2
   rw [e5,List.append_assoc,List.cons_append]
   rfl
  ·rw [List.length_append,bulk_app,bulk_rev]
   show dn.length+1+_=_
   omega
  ·intro z hz
   rcases List.mem_append.mp hz with hz | hz
   ·exact hfit z (List.mem_append_left _ hz)
   ·exact fits_rows hfx z (List.mem_reverse.mp hz)
  ·intro z o e
   have e2:=hx2 z o e
   rw [mset_ne (ne_fresh (ext_new hf0 _ _ e) hw0),mset_ne (ne_fresh e2 hi0)]
   exact hx3 _ _ e2
  ·rw [mset_ne hw.symm,mset_ne hif.symm,hx3 _ _ hf2,hf]
   show 200 - ((dn++[x]).map prD).length < 200 - (dn.map prD).length
   rw [List.length_map,List.length_map,List.length_append]
   show 200 - (_+1) < _
   omega
 ·intro hpos
  have:wt=[]:=List.eq_nil_of_length_eq_zero (by omega)
  subst this
  lk
  refine q f0 M' hf0 ?_ hx
  rw [hf,<- hall];simp
local macro_rules | `(tactic| tm_at $s:str)=>namT n_au s
theorem ok_names_of_terms (F:Fun K "names_of_terms" "names_of_terms" s_au f fd):FnOk P w K mg base CX0 1 f fd P_au (liftSp K spNmT):=by
 tm_at "F au"
 obtain ⟨ts,rfl,hN,q⟩:=h
 refine exs_one ?_
 lk
 with_reducible refine' ev_comp_tup (own:=["term"]) (js:=[]) (N:=["term"]) (cl:=[]) ?T ?xe ?ca fstD (fun _=>true) ?_ ?hs
 case T=>exact compOk_plain (by decide +kernel) (by decide +kernel) rfl (by decide +kernel) rfl
 case xe=>rfl
 case ca=>rfl
 case hs=>(intro _;rfl)
 lk
 refine ⟨ts.map KA.tD,rfl,small (by rw [List.length_map];omega),?_,fun p0 hp0=>?_⟩
 ·rintro Y ⟨C',s',H',fp,rfl⟩ M' hM d hd
  obtain ⟨x,hx',rfl⟩:=List.mem_map.mp hd
  have nd2:(["term"] : List Str).Nodup:=by decide +kernel
  refine gv_name 0 nd2 ?_
  refine ⟨rfl,fun i d e=>by rcases i with _ | i<;>simp [compG] at e,tvs_nil ⟨rfl,rfl⟩,fun _=>?_⟩
  unfold KA.tD
  repeat first | (refine ev_var 0 ?_) | k_go
  exact ⟨rfl,rfl⟩
 ·rw [fst_terms]
  exact q p0 _ hp0 mset_same (ext_new hp0)
local macro_rules | `(tactic| tm_at $s:str)=>namT n_ar s
theorem ok_names_of_rows (F:Fun K "names_of_rows" "names_of_rows" s_ar f fd) (C_names_of_terms:Cal P w K mg base 1 "names_of_terms" spNmT):FnOk P w K mg base CX0 2 f fd P_ar (liftSp K spNmR):=by
 tm_at "F ar"
 obtain ⟨rs,rfl,hN,q⟩:=h
 refine exs_cons ?_
 lk
 intro f0 hf0
 refine exs_cons (ex_for_tup PassesOwn.never rfl ?_)
 lk
 refine ⟨_,fun i G' M'=>∃ r2,G'=[some (.tup (rs.map rwD)),some (.ref f0),r2]/\M' f0=some (strsD (nmR (rs.take i)))/\Ext M M',rfl,⟨none,rfl,mset_same,ext_new hf0⟩,?_,?_⟩
 ·rintro i d G' M' hd ⟨r2,rfl,hf,hx⟩
  rw [List.getElem?_map] at hd
  obtain ⟨r,hr1,rfl⟩:=Option.map_eq_some_iff.mp hd
  have hmem:=List.mem_of_getElem? hr1
  have e3:rs.take (i+1)=rs.take i++[r]:=by rw [List.take_succ,hr1];rfl
  have hl1:RsOk (rs.take i):=⟨by rw [List.length_take];have:=hN.1;omega,fun x hx=>hN.2 x (List.mem_of_mem_take hx)⟩
  have hl2:=hl1.len
  have hl3:=hN.2 r hmem
  unfold rwD rowD
  lk
  refine ⟨f0,rfl,⟨_,hf⟩,?_⟩
  lk
  refine ⟨r.2.1,rfl,hl3,fun q1 M1 hq1 hq2 hx1=>?_⟩
  refine ⟨q1,_,_,rfl,hx1 _ _ hf,hq2,small (by rw [List.length_map,List.length_map,nmT,List.length_map];omega),?_⟩
  refine ⟨_,rfl,?_,fun x o e=>by rw [mset_ne (ne_fresh e hf0)];exact hx1 _ _ (hx x o e)⟩
  rw [mset_same,e3,nmR,nmR,List.flatMap_append,strsD,List.map_append]
  simp
 ·rintro G' M' ⟨r2,rfl,hf,hx⟩
  lk
  rw [List.length_map,List.take_length] at hf
  exact q f0 M' hf0 hf hx
local macro_rules | `(tactic| tm_at $s:str)=>namT n_aq s
theorem ok_names_of_loop (F:Fun K "names_of_loop" "names_of_loop" s_aq f fd) (C_names_of_terms:Cal P w K mg base 1 "names_of_terms" spNmT) (C_names_of_rows:Cal P w K mg base 2 "names_of_rows" spNmR):FnOk P w K mg base CX0 3 f fd P_aq (liftSp K spNmL):=by
 tm_at "F aq"
 obtain ⟨r,rs,m,b,rfl,⟨h1,h2,h3⟩,q⟩:=h
 have hrl:=h2.len
 simp only [stD]
 unfold rwD rowD
 refine exs_cons ?_
 lk
 refine ⟨r.2.1,rfl,h1,fun q1 M1 hq1 hv1 hx1=>?_⟩
 lk
 refine ⟨rs,rfl,h2,fun q2 M2 hq2 hv2 hx2=>?_⟩
 lk
 refine add_ll (hx2 _ _ hv1) hv2 (small (by rw [List.length_map,List.length_map,nmT,List.length_map];omega)) fun q3 hq3=>?_
 lk
 have e0:mset M2 q3 (.lst ((nmT r.2.1).map D.str++(nmR rs).map D.str)) q3=some (strsD (nmT r.2.1++nmR rs)):=by rw [mset_same,strsD,List.map_append]
 have hx3:Ext M (mset M2 q3 (.lst ((nmT r.2.1).map D.str++(nmR rs).map D.str))):=Ext.trans hx1 (Ext.trans hx2 (ext_new hq3))
 have hM3:M q3=none:=none_of (Ext.trans hx1 hx2) hq3
 generalize mset M2 q3 (.lst ((nmT r.2.1).map D.str++(nmR rs).map D.str))=M3 at e0 hx3 ⊢
 refine exs_cons ?_
 cases m with
 | none =>
  simp only [msD]
  lk
  exact q q3 M3 hM3 (by rw [e0];simp [nmS,nmM]) hx3
 | some m =>
  simp only [msD,smD]
  lk
  refine ⟨q3,rfl,⟨_,e0⟩,?_⟩
  lk
  refine ⟨m.1.1,rfl,h3,fun q4 M4 hq4 hv4 hx4=>?_⟩
  refine ⟨q4,_,_,rfl,hx4 _ _ e0,hv4,small (by rw [List.length_map,List.length_append,List.length_map,nmT,nmT,List.length_map,List.length_map];have:m.1.1.length<=30:=h3;omega),?_⟩
  lk
  refine q q3 _ hM3 (by rw [mset_same,strsD,<- List.map_append];rfl) fun x o e=>by rw [mset_ne (ne_fresh e hM3)];exact hx4 _ _ (hx3 x o e)
local macro_rules | `(tactic| tm_at $s:str)=>namT n_ae s
theorem ok_names_of_statement (F:Fun K "names_of_statement" "names_of_statement" s_ap f fd) (C_names_of_terms:Cal P w K mg base 1 "names_of_terms" spNmT) (C_names_of_rows:Cal P w K mg base 2 "names_of_rows" spNmR) (C_names_of_loop:Cal P w K mg base 3 "names_of_loop" spNmL):FnOk P w K mg base CX0 4 f fd P_ap (liftSp K spNmS):=by
 tm_at "F ap"
 obtain ⟨st,rfl,hok,q⟩:=h
 cases st with
 | set x sm =>
  have hk:sm.1.length<=30:=hok
  simp only [stD,smD]
  refine exs_cons ?_
  repeat first | k_go | refine ifDy rfl ?_ | refine ifDn (by decide) ?_ | refine exs_cons ?_
  intro q1 hq1
  lk
  refine ⟨sm.1,rfl,hk,fun q2 M2 hq2 hv2 hx2=>?_⟩
  lk
  refine add_ll (hx2 _ _ mset_same) hv2 (small (by rw [List.length_map,nmT,List.length_map];show 1+_<=_;omega)) fun q3 hq3=>?_
  exact q q3 _ (none_of (Ext.trans (ext_new hq1) hx2) hq3) (by rw [mset_same];rfl) (Ext.trans (ext_new hq1) (Ext.trans hx2 (ext_new hq3)))
 | any x =>
  simp only [stD]
  refine exs_cons ?_
  repeat first | k_go | refine ifDy rfl ?_ | refine ifDn (by decide) ?_ | refine exs_cons ?_
  intro q1 hq1
  exact q q1 _ hq1 mset_same (ext_new hq1)
 | note rs =>
  simp only [stD]
  refine exs_cons ?_
  repeat first | k_go | refine ifDy rfl ?_ | refine ifDn (by decide) ?_ | refine exs_cons ?_
  exact ⟨rs,rfl,hok,q⟩
 | choose a b =>
  simp only [stD]
  refine exs_cons ?_
  repeat first | k_go | refine ifDy rfl ?_ | refine ifDn (by decide) ?_ | refine exs_cons ?_
  intro q1 hq1
  exact q q1 _ hq1 mset_same (ext_new hq1)
 | ite r a b =>
  simp only [stD]
  unfold rwD rowD
  refine exs_cons ?_
  repeat first | k_go | refine ifDy rfl ?_ | refine ifDn (by decide) ?_ | refine exs_cons ?_
  exact ⟨r.2.1,rfl,hok,q⟩
 | whl r rs m b =>
  have e0:stD (.whl r rs m b)=.tup [.str "while",rwD r,.tup (rs.map rwD),msD m,.tup (stDs b)]:=by simp only [stD]
  rw [e0]
  refine exs_cons ?_
  repeat first | k_go | refine ifDy rfl ?_ | refine ifDn (by decide) ?_ | refine exs_cons ?_
  exact ⟨r,rs,m,b,by rw [e0],hok,q⟩
local macro_rules | `(tactic| tm_at $s:str)=>namT n_ak s
theorem ok_how_many (F:Fun K "how_many" "how_many" s_ak f fd) (h_len:mg "len" = none):FnOk P w K mg base CX0 1 f fd P_ak (liftSp K spHow):=by
 tm_at "F ak"
 obtain ⟨a,sts,ws,rfl,ha,hN,q⟩:=h
 refine exs_one ?_
 lk
 with_reducible refine' ev_comp_list (own:=["statement"]) (js:=[1]) (N:=["statement", "words"]) ?T ?xe ?ca (fun d=>d) (fun d=>decide (wordD d∈ws)) ?_ ?hs
 case T=>exact compOk_freeB (fs:=["words"]) rfl (by decide +kernel) (by decide +kernel) rfl rfl rfl rfl rfl
 case xe=>rfl
 case ca=>rfl
 case hs=>(intro _;rfl)
 lk
 refine ⟨a,_,rfl,.inl ha,small (by rw [List.length_map];omega),?_,fun p0 hp0=>?_⟩
 ·rintro Y ⟨C',s',H',fp,rfl⟩ M' hM d hd
  obtain ⟨st,hs',rfl⟩:=List.mem_map.mp hd
  rw [wordD_st]
  have nd2:(["statement", "words"] : List Str).Nodup:=by decide +kernel
  refine gv_name 0 nd2 ?_
  refine ⟨rfl,fun i d e=>?_,?_,fun _=>?_⟩
  ·rcases i with _ | i
   ·simp [compG] at e
   ·exact e
  ·cases st<;>simp only [stD,wordS]<;>(repeat first | (refine ev_var 0 ?_) | (refine ev_var 1 ?_) | k_go)
   all_goals exact ⟨rfl,rfl⟩
  ·repeat first | (refine ev_var 0 ?_) | k_go
   exact ⟨rfl,rfl⟩
 ·lk
  refine ⟨_,_,rfl,Or.inl ⟨_,mset_same,rfl⟩,?_⟩
  rw [List.map_id',List.filter_map,List.length_map]
  have:((fun d=>decide (wordD d∈ws)) ∘ stD)=fun s:Stm=>decide (wordS s∈ws):=by funext x;simp only [Function.comp,wordD_st]
  rw [this]
  exact q _ (ext_new hp0)
local macro_rules | `(tactic| tm_at $s:str)=>namT n_aj s
theorem ok_depth_of (F:Fun K "depth_of" "depth_of" s_aj f fd) (h_len:mg "len" = none) (h_max:mg "max" = none):FnOk P w K mg base CX0 1 f fd P_aj (liftSp K spDeep):=by
 tm_at "F aj"
 obtain ⟨a,xs,rfl,ha,hl,hb,q⟩:=h
 refine exs_one ?_
 lk
 with_reducible refine' ev_maxD (d:=0) ?n1 ?n2 ?_ ?n3 ?n4 ?n5 ?n6
 case n1=>rfl
 case n2=>exact h_max
 case n3=>rfl
 case n4=>rfl
 case n5=>rfl
 case n6=>exact fun R Z s h=>wpAny_Constant_int (h _ _)
 lk
 with_reducible refine' ev_comp_list (own:=["pair"]) (js:=[]) (N:=["pair"]) (cl:=[]) ?T ?xe ?ca deepD (fun _=>true) ?_ ?hs
 case T=>exact compOk_plain (by decide +kernel) (by decide +kernel) rfl (by decide +kernel) rfl
 case xe=>rfl
 case ca=>rfl
 case hs=>(intro _;rfl)
 lk
 refine ⟨a,_,rfl,.inl ha,small (by rw [List.length_map];omega),?_,fun p0 hp0=>?_⟩
 ·rintro Y ⟨C',s',H',fp,rfl⟩ M' hM d hd
  obtain ⟨x,hx',rfl⟩:=List.mem_map.mp hd
  rw [deepD_pr]
  have nd2:(["pair"] : List Str).Nodup:=by decide +kernel
  refine gv_name 0 nd2 ?_
  refine ⟨rfl,fun i d e=>by rcases i with _ | i<;>simp [compG] at e,tvs_nil ⟨rfl,rfl⟩,fun _=>?_⟩
  have hb':=hb x hx'
  have bl:Bd (((x.1.length:Nat):Int)+1) 40:=.rng (by omega) (by omega)
  repeat first | (refine ev_var 0 ?_) | k_go
  refine (show IxA (D.tup [pcD x.1,stD x.2]) (D.int 0) _ _ from ix_at rfl ?_)
  lk
  refine ⟨_,_,rfl,rfl,?_⟩
  rw [List.length_map]
  lk
  exact ⟨rfl,rfl⟩
 ·have e0:((xs.map prD).filter fun _=>true).map deepD=(xs.map deep).map D.int:=by
   rw [List.filter_eq_self.mpr (by simp),List.map_map,List.map_map]
   exact List.map_congr_left fun x _=>deepD_pr x
  rw [e0]
  lk
  refine ⟨p0,xs.map deep,rfl,mset_same,fun r hr'=>q r _ ?_ (ext_new hp0)⟩
  rcases hr' with ⟨h1,h2⟩ | ⟨h1,h2⟩
  ·exact .inl ⟨List.map_eq_nil_iff.mp h1,h2⟩
  ·obtain ⟨x,hx,e⟩:=List.mem_map.mp h1
   exact .inr ⟨⟨x,hx,e.symm⟩,fun y hy=>h2 _ (List.mem_map_of_mem hy)⟩
local macro_rules | `(tactic| tm_at $s:str)=>namT n_al s
theorem ok_rows_noted (F:Fun K "rows_noted" "rows_noted" s_al f fd) (h_len:mg "len" = none) (h_sum:mg "sum" = none):FnOk P w K mg base CX0 1 f fd P_al (liftSp K spNoted):=by
 tm_at "F al"
 obtain ⟨a,sts,rfl,ha,hl,hb,q⟩:=h
 refine exs_one ?_
 lk
 with_reducible refine' ev_comp_list (own:=["statement"]) (js:=[]) (N:=["statement"]) (cl:=[]) ?T ?xe ?ca lenD ntD ?_ ?hs
 case T=>exact compOk_plain (by decide +kernel) (by decide +kernel) rfl (by decide +kernel) rfl
 case xe=>rfl
 case ca=>rfl
 case hs=>(intro _;rfl)
 lk
 refine ⟨a,_,rfl,.inl ha,small (by rw [List.length_map];omega),?_,fun p0 hp0=>?_⟩
 ·rintro Y ⟨C',s',H',fp,rfl⟩ M' hM d hd
  obtain ⟨st,hs',rfl⟩:=List.mem_map.mp hd
  rw [ntD_st]
  have nd2:(["statement"] : List Str).Nodup:=by decide +kernel
  refine gv_name 0 nd2 ?_
  refine ⟨rfl,fun i d e=>by rcases i with _ | i<;>simp [compG] at e,?_,fun hn=>?_⟩
  ·cases st<;>simp only [stD,isNt]<;>(repeat first | (refine ev_var 0 ?_) | k_go)<;>exact ⟨rfl,by decide⟩
  ·rw [lenD_st hn]
   cases st with
   | note rs =>
    simp only [stD]
    repeat first | (refine ev_var 0 ?_) | k_go
    refine ⟨_,_,rfl,rfl,?_⟩
    rw [List.length_map]
    exact ⟨rfl,rfl⟩
   | _=>cases hn
 ·have e0:((sts.map stD).filter ntD).map lenD=(noted sts).map D.int:=by
   rw [List.filter_map,List.map_map,noted,List.map_map]
   have:(ntD ∘ stD)=isNt:=by funext x;exact ntD_st x
   rw [this]
   exact List.map_congr_left fun x hx=>lenD_st (List.mem_filter.mp hx).2
  rw [e0]
  lk
  refine ⟨p0,noted sts,rfl,mset_same,fun x hx=>?_,?_,q _ (ext_new hp0)⟩
  ·obtain ⟨s1,h1,rfl⟩:=List.mem_map.mp hx
   have:=hb s1 (List.mem_filter.mp h1).1
   omega
  ·rw [noted,List.length_map]
   have:=List.length_filter_le isNt sts
   omega
local macro_rules | `(tactic| tm_at "d")=>`(tactic| ((with_reducible show EV _ _ _ (Expr.BinOp _ Operator.Add (Expr.Tuple _ _ _) _) _);with_reducible refine ev_addT ?_))
theorem pl_snoc (pl:Pce) (i:Nat):D.tup ((pl.map fun n:Nat=>D.int n)++[.int i])=pcD (pl++[i]):=by unfold pcD;rw [List.map_append];rfl
local macro_rules | `(tactic| tm_at $s:str)=>namT n_ay s
theorem ok_code_of_block {n k:Nat} (hk:1<=k) (F:Fun K "code_of_block" "code_of_block" s_ay f fd) (h_enumerate:mg "enumerate" = none) (h_len:mg "len" = none) (hC:0 < n->Cal P w K mg base k "code_of_statement" (spCodeS n)):FnOk P w K mg base CX0 (k+1) f fd P_ay (liftSp K (spCodeB n)):=by
 tm_at "F ay"
 obtain ⟨pl,b,n0,rfl,hdp,hsz,hpl,q⟩:=h
 refine exs_cons ?_
 lk
 intro f0 hf0
 refine exs_cons ?_
 with_reducible refine' ex_for_enum ?_ ?_ ?_ ?_ ?g ?h ?i
 case g=>rfl
 case h=>rfl
 case i=>(intro _;rfl)
 ·exact PassesOwn.never
 ·rfl
 ·exact h_enumerate
 lk
 refine ⟨_,fun i G' M'=>∃ r4 r5,G'=[some (pcD pl),some (.tup (stDs b)),some (.int n0),some (.ref f0),r4,r5]/\M' f0=some (.lst (cB (b.take i) pl 0 n0))/\Ext M M',rfl,⟨none,none,rfl,by simp only [List.take_zero,cB];exact mset_same,ext_new hf0⟩,?_,?_⟩
 ·rintro i d G' M' hd ⟨r4,r5,rfl,hf,hx⟩
  rw [stDs_map,List.getElem?_map] at hd
  obtain ⟨s1,hs1,rfl⟩:=Option.map_eq_some_iff.mp hd
  have hmem:=List.mem_of_getElem? hs1
  have hdst:=dps_mem hmem
  have htst:=tts_mem hmem
  have h1:=cB_len (b.take i) pl 0 n0
  have h2:=tts_take (b:=b) i
  have h3:=cS_len s1 (pl++[i]) (n0+(cB (b.take i) pl 0 n0).length)
  have hp1:1<=dp s1:=by cases s1<;>simp only [dp]<;>omega
  have C_code_of_statement:=hC (by omega)
  lk
  refine ⟨f0,rfl,⟨_,hf⟩,?_⟩
  unfold pcD
  lk
  refine ⟨_,_,rfl,rfl,small (by rw [List.length_map];show _+1<=1000;omega),?_⟩
  lk
  refine ⟨_,_,rfl,Or.inl ⟨_,hf,rfl⟩,?_⟩
  lk
  rw [pl_snoc]
  refine ⟨pl++[i],s1,n0+(cB (b.take i) pl 0 n0).length,by rw [Int.natCast_add],by omega,by omega,by simp,by rw [List.length_append];show _+1+_<=_;omega,fun q5 M5 hq5 hq5' hx5=>?_⟩
  lk
  refine ⟨q5,_,_,rfl,hx5 _ _ hf,hq5',small (by omega),?_⟩
  rw [<- cB_take hs1]
  refine ⟨_,_,rfl,mset_same,fun x o e=>by rw [mset_ne (ne_fresh e hf0)];exact hx5 _ _ (hx x o e)⟩
 ·rintro G' M' ⟨r4,r5,rfl,hf,hx⟩
  rw [stDs_map,List.length_map,List.take_length] at hf
  lk
  exact q f0 M' hf0 hf hx
local macro_rules | `(tactic| tm_at $s:str)=>namT n_az s
theorem ok_code_of_statement {n k:Nat} (hk:1<=k) (F:Fun K "code_of_statement" "code_of_statement" s_az f fd) (C_blocks_of:Cal P w K mg base 1 "blocks_of" spBlocksOf) (C_code_of_branch:Cal P w K mg base k "code_of_branch" (spCodeBr n)) (C_code_of_loop:Cal P w K mg base k "code_of_loop" (spCodeL n)):FnOk P w K mg base CX0 (k+1) f fd P_az (liftSp K (spCodeS (n+1))):=by
 tm_at "F az"
 obtain ⟨pl,st,n0,rfl,hdp,hsz,hpe,hpl,q⟩:=h
 cases st with
 | choose a b =>
  have e0:stD (.choose a b)=.tup [.str "choose",.tup (stDs a),.tup (stDs b)]:=by simp only [stD]
  simp only [dp] at hdp
  simp only [tt,Cnt.add] at hsz
  rw [e0]
  refine exs_cons ?_
  lk
  refine exs_cons ?_
  lk
  refine ifDy rfl ?_
  lk
  refine ⟨.choose a b,by rw [e0],?_⟩
  lk
  exact ⟨pl,_,a,b,n0,rfl,by simp,Nat.le_of_ble_eq_true rfl,by omega,by omega,by omega,hpe,by omega,fun q5 M5 hq5 hq5' hx5=>q q5 M5 hq5 (by rw [hq5'];simp only [cS]) hx5⟩
 | ite r a b =>
  have e0:stD (.ite r a b)=.tup [.str "if",rwD r,.tup (stDs a),.tup (stDs b)]:=by simp only [stD]
  simp only [dp] at hdp
  simp only [tt,Cnt.add] at hsz
  rw [e0]
  refine exs_cons ?_
  lk
  refine exs_cons ?_
  repeat first | k_go | refine ifDn (by decide +kernel) ?_ | refine exs_cons ?_ | refine ifDy rfl ?_
  refine ⟨.ite r a b,by rw [e0],?_⟩
  lk
  exact ⟨pl,_,a,b,n0,rfl,by simp,Nat.le_of_ble_eq_true rfl,by omega,by omega,by omega,hpe,by omega,fun q5 M5 hq5 hq5' hx5=>q q5 M5 hq5 (by rw [hq5'];simp only [cS]) hx5⟩
 | whl r rs m b =>
  have e0:stD (.whl r rs m b)=.tup [.str "while",rwD r,.tup (rs.map rwD),msD m,.tup (stDs b)]:=by simp only [stD]
  simp only [dp] at hdp
  simp only [tt,Cnt.add] at hsz
  rw [e0]
  refine exs_cons ?_
  lk
  refine exs_cons ?_
  repeat first | k_go | refine ifDn (by decide +kernel) ?_ | refine exs_cons ?_ | refine ifDy rfl ?_
  exact ⟨pl,r,rs,m,b,n0,by rw [e0],by omega,by omega,hpe,by omega,fun q5 M5 hq5 hq5' hx5=>q q5 M5 hq5 (by rw [hq5'];simp only [cS]) hx5⟩
 | set x s =>
  have e0:stD (.set x s)=.tup [.str "set",.str x,smD s]:=by simp only [stD]
  rw [e0]
  refine exs_cons ?_
  lk
  refine exs_cons ?_
  repeat first | k_go | refine ifDn (by decide +kernel) ?_ | refine exs_cons ?_
  refine ev_slice sl_all ?_
  lk
  refine ov_some ?_
  lk
  refine ov_none ?_
  refine rs_tupA rfl ?_
  refine add_tt (by simp) (small (Nat.le_of_ble_eq_true rfl)) ?_
  lk
  intro p hp
  exact q p _ hp (by rw [mset_same];simp only [cS];rfl) (ext_new hp)
 | any x =>
  have e0:stD (.any x)=.tup [.str "any",.str x]:=by simp only [stD]
  rw [e0]
  refine exs_cons ?_
  lk
  refine exs_cons ?_
  repeat first | k_go | refine ifDn (by decide +kernel) ?_ | refine exs_cons ?_
  refine ev_slice sl_all ?_
  lk
  refine ov_some ?_
  lk
  refine ov_none ?_
  refine rs_tupA rfl ?_
  refine add_tt (by simp) (small (Nat.le_of_ble_eq_true rfl)) ?_
  lk
  intro p hp
  exact q p _ hp (by rw [mset_same];simp only [cS];rfl) (ext_new hp)
 | note rs =>
  have e0:stD (.note rs)=.tup [.str "note",.tup (rs.map rwD)]:=by simp only [stD]
  rw [e0]
  refine exs_cons ?_
  lk
  refine exs_cons ?_
  repeat first | k_go | refine ifDn (by decide +kernel) ?_ | refine exs_cons ?_
  refine ev_slice sl_all ?_
  lk
  refine ov_some ?_
  lk
  refine ov_none ?_
  refine rs_tupA rfl ?_
  refine add_tt (by simp) (small (Nat.le_of_ble_eq_true rfl)) ?_
  lk
  intro p hp
  exact q p _ hp (by rw [mset_same];simp only [cS];rfl) (ext_new hp)
local macro_rules | `(tactic| tm_at "d")=>`(tactic| ((with_reducible show EV _ _ _ (Expr.BinOp _ Operator.Add (Expr.Tuple _ _ _) _) _);with_reducible refine ev_addT ?_))
local macro_rules | `(tactic| tm_at $s:str)=>namT n_ba s
theorem ok_code_of_branch {n k:Nat} (hk:1<=k) (F:Fun K "code_of_branch" "code_of_branch" s_ba f fd) (h_len:mg "len" = none) (C_code_of_block:Cal P w K mg base k "code_of_block" (spCodeB n)):FnOk P w K mg base CX0 (k+1) f fd P_ba (liftSp K (spCodeBr n)):=by
 tm_at "F ba"
 obtain ⟨pl,ask,a,b,n0,rfl,hak,hal,hda,hdb,hsz,hpe,hpl,q⟩:=h
 have l1:=cB_len a (pl++[0]) 0 (n0+1)
 have l2:=cB_len b (pl++[1]) 0 (n0+1+(cB a (pl++[0]) 0 (n0+1)).length+1)
 have s0:D.tup ((pl.map fun n:Nat=>D.int n)++[.int 0])=pcD (pl++[0]):=pl_snoc pl 0
 have s1:D.tup ((pl.map fun n:Nat=>D.int n)++[.int 1])=pcD (pl++[1]):=pl_snoc pl 1
 have eb:blD [a,b]=.tup [.tup (stDs a),.tup (stDs b)]:=rfl
 rw [eb]
 have ep:pcD pl=.tup (pl.map fun n:Nat=>D.int n):=rfl
 rw [ep]
 refine exs_cons ?_
 lk
 refine ⟨_,_,rfl,rfl,small (by rw [List.length_map];show _+1<=1000;omega),?_⟩
 lk
 rw [s0]
 refine ⟨pl++[0],a,n0+1,by rw [Int.natCast_add];rfl,hda,by omega,by rw [List.length_append];show _+1+_<=_;omega,fun q1 M1 hq1 hq1' hx1=>?_⟩
 lk
 refine ⟨_,_,rfl,Or.inl ⟨_,hq1',rfl⟩,?_⟩
 lk
 have et:(n0:Int)+1+((cB a (pl++[0]) 0 (n0+1)).length:Nat)+1=((n0+1+(cB a (pl++[0]) 0 (n0+1)).length+1:Nat):Int):=by omega
 rw [et]
 refine ⟨_,_,rfl,rfl,small (by rw [List.length_map];show _+1<=1000;omega),?_⟩
 lk
 rw [s1]
 refine ⟨pl++[1],b,_,rfl,hdb,by omega,by rw [List.length_append];show _+1+_<=_;omega,fun q2 M2 hq2 hq2' hx2=>?_⟩
 have hq12:=hx2 _ _ hq1'
 generalize hf:cB a (pl++[0]) 0 (n0+1)=fc at *
 generalize hg:cB b (pl++[1]) 0 (n0+1+fc.length+1)=gc at *
 lk
 refine ⟨_,_,rfl,rfl,small (by show _+1<=1000;omega),?_⟩
 lk
 intro p3 hp3
 have x3:=ext_new (o:=.lst [.tup (ask++[.int ((n0+1+fc.length+1:Nat):Int)])]) hp3
 lk
 refine add_ll mset_same (x3 _ _ hq12) (small (by show 1+_<=_;omega)) fun p4 hp4=>?_
 have x4:=ext_new (o:=.lst ([D.tup (ask++[.int ((n0+1+fc.length+1:Nat):Int)])]++fc)) hp4
 lk
 refine ⟨_,_,rfl,Or.inl ⟨_,x4 _ _ (x3 _ _ hq2'),rfl⟩,?_⟩
 lk
 intro p5 hp5
 have ej:D.tup [.str "jump",.int (((n0+1+fc.length+1:Nat):Int)+(gc.length:Nat))]=jmp (n0+1+fc.length+1+gc.length):=by unfold jmp;rw [Int.natCast_add (n0+1+fc.length+1)]
 rw [ej]
 have x5:=ext_new (o:=.lst [jmp (n0+1+fc.length+1+gc.length)]) hp5
 lk
 refine add_ll (x5 _ _ mset_same) mset_same (small (by rw [List.length_append];show 1+_+1<=_;omega)) fun p6 hp6=>?_
 have x6:=ext_new (o:=.lst ([D.tup (ask++[.int ((n0+1+fc.length+1:Nat):Int)])]++fc++[jmp (n0+1+fc.length+1+gc.length)])) hp6
 lk
 refine add_ll mset_same (x6 _ _ (x5 _ _ (x4 _ _ (x3 _ _ hq2')))) (small (by rw [List.length_append,List.length_append];show 1+_+1+_<=_;omega)) fun p7 hp7=>?_
 have x7:=ext_new (o:=.lst ([D.tup (ask++[.int ((n0+1+fc.length+1:Nat):Int)])]++fc++[jmp (n0+1+fc.length+1+gc.length)]++gc)) hp7
 refine q p7 _ (none_of hx1 (none_of hx2 (none_of x3 (none_of x4 (none_of x5 (none_of x6 hp7)))))) ?_ (Ext.trans hx1 (Ext.trans hx2 (Ext.trans x3 (Ext.trans x4 (Ext.trans x5 (Ext.trans x6 x7))))))
 rw [mset_same]
 unfold brC
 simp only [List.cons_append,List.nil_append,List.append_assoc]
local macro_rules | `(tactic| tm_at $s:str)=>namT n_bb s
theorem ok_code_of_loop {n k:Nat} (hk:1<=k) (F:Fun K "code_of_loop" "code_of_loop" s_bb f fd) (h_len:mg "len" = none) (C_code_of_block:Cal P w K mg base k "code_of_block" (spCodeB n)):FnOk P w K mg base CX0 (k+1) f fd P_bb (liftSp K (spCodeL n)):=by
 tm_at "F bb"
 obtain ⟨pl,r,rs,m,b,n0,rfl,hdb,hsz,hpe,hpl,q⟩:=h
 have l1:=cB_len b (pl++[0]) 0 (n0+2)
 have s0:D.tup ((pl.map fun n:Nat=>D.int n)++[.int 0])=pcD (pl++[0]):=pl_snoc pl 0
 have e0:stD (.whl r rs m b)=.tup [.str "while",rwD r,.tup (rs.map rwD),msD m,.tup (stDs b)]:=by simp only [stD]
 rw [e0]
 have ep:pcD pl=.tup (pl.map fun n:Nat=>D.int n):=rfl
 rw [ep]
 refine exs_cons ?_
 lk
 refine ⟨_,_,rfl,rfl,small (by rw [List.length_map];show _+1<=1000;omega),?_⟩
 lk
 rw [s0]
 refine ⟨pl++[0],b,n0+2,by rw [Int.natCast_add];rfl,hdb,hsz,by rw [List.length_append];show _+1+_<=_;omega,fun q1 M1 hq1 hq1' hx1=>?_⟩
 generalize hc:cB b (pl++[0]) 0 (n0+2)=c at *
 lk
 refine ⟨_,_,rfl,Or.inl ⟨_,hq1',rfl⟩,?_⟩
 lk
 have et:(n0:Int)+2+(c.length:Nat)+1=((n0+2+c.length+1:Nat):Int):=by omega
 rw [et]
 rw [<- ep]
 lk
 intro p3 hp3
 have x3:=ext_new (o:=.lst [.tup [.str "enter",pcD pl],.tup [.str "head",pcD pl,.tup (rs.map rwD),msD m,rwD r,.int ((n0+2+c.length+1:Nat):Int)]]) hp3
 lk
 refine add_ll mset_same (x3 _ _ hq1') (small (by show 2+_<=_;omega)) fun p4 hp4=>?_
 have x4:=ext_new (o:=.lst ([D.tup [.str "enter",pcD pl],.tup [.str "head",pcD pl,.tup (rs.map rwD),msD m,rwD r,.int ((n0+2+c.length+1:Nat):Int)]]++c)) hp4
 lk
 intro p5 hp5
 have ej:D.tup [.str "jump",.int ((n0:Int)+1)]=jmp (n0+1):=by unfold jmp;rw [Int.natCast_add];rfl
 rw [ej]
 have x5:=ext_new (o:=.lst [jmp (n0+1)]) hp5
 lk
 refine add_ll (x5 _ _ mset_same) mset_same (small (by rw [List.length_append];show 2+_+1<=_;omega)) fun p6 hp6=>?_
 have x6:=ext_new (o:=.lst ([D.tup [.str "enter",pcD pl],.tup [.str "head",pcD pl,.tup (rs.map rwD),msD m,rwD r,.int ((n0+2+c.length+1:Nat):Int)]]++c++[jmp (n0+1)])) hp6
 refine q p6 _ (none_of hx1 (none_of x3 (none_of x4 (none_of x5 hp6)))) ?_ (Ext.trans hx1 (Ext.trans x3 (Ext.trans x4 (Ext.trans x5 x6))))
 rw [mset_same]
 unfold lpC
 simp only [List.cons_append,List.nil_append,List.append_assoc]
end
section
variable {P:Program} {w:World} {K:PySem.W.Frag} {mg:Str->Option Value} {base:Heap} {f:Addr} {fd:FuncData} {C P0:Addr}
local macro_rules | `(tactic| tm_at $s:str)=>namT n_aa s
theorem ok_NoName_init (F:Fun K "__init__" "NoName.__init__" s_aa f fd) (e:ErrF K C P0 "name"):FnOk P w K mg base CX0 1 f fd P_aa (liftSp K (spIni C ["name"])):=by
 refine fn_D F sc_aa (fun ds M Q ⟨a,vs,h,hl,_⟩=>by subst h;show vs.length+1=_;rw [hl];rfl) fun cdv A outer s H EE ds M Q hr h=>?_
 have nd:=sc_aa.nd
 try (refine let_X ?_;intro X)
 obtain ⟨a,vs,rfl,hl,ha,q⟩:=h
 obtain ⟨v,rfl⟩:∃ v,vs=[v]:=match vs,hl with | [v],_=>⟨v,rfl⟩
 refine exs_one ?_
 with_reducible refine' ex_fldX (C:=C) (P:=P0) ?n1 ?_ ?n0
 case n1=>exact e
 case n0=>rfl
 lk
 exact ⟨a,rfl,.inl ⟨ha,fun dx h1 h2=>q dx h1 h2⟩⟩
local macro_rules | `(tactic| tm_at $s:str)=>namT n_ac s
theorem ok_NoMeasure_init (F:Fun K "__init__" "NoMeasure.__init__" s_ac f fd) (e:ErrF K C P0 "place"):FnOk P w K mg base CX0 1 f fd P_ac (liftSp K (spIni C ["place"])):=by
 refine fn_D F sc_ac (fun ds M Q ⟨a,vs,h,hl,_⟩=>by subst h;show vs.length+1=_;rw [hl];rfl) fun cdv A outer s H EE ds M Q hr h=>?_
 have nd:=sc_ac.nd
 try (refine let_X ?_;intro X)
 obtain ⟨a,vs,rfl,hl,ha,q⟩:=h
 obtain ⟨v,rfl⟩:∃ v,vs=[v]:=match vs,hl with | [v],_=>⟨v,rfl⟩
 refine exs_one ?_
 with_reducible refine' ex_fldX (C:=C) (P:=P0) ?n1 ?_ ?n0
 case n1=>exact e
 case n0=>rfl
 lk
 exact ⟨a,rfl,.inl ⟨ha,fun dx h1 h2=>q dx h1 h2⟩⟩
local macro_rules | `(tactic| tm_at $s:str)=>namT ["self", "line"] s
local macro_rules | `(tactic| tm_at $s:str)=>namT n_ac s
theorem mset_two {M:MH} {a dx:Addr} {o1 o2 o3 o4:MO} (h:dx≠a):mset (mset (mset (mset M dx o1) a o2) dx o3) a o4=mset (mset M dx o3) a o4:=by
 funext b
 by_cases c:b=a
 ·subst c;rw [mset_same,mset_same]
 ·rw [mset_ne c,mset_ne c]
  by_cases c2:b=dx
  ·subst c2;rw [mset_same,mset_same]
  ·rw [mset_ne c2,mset_ne c2,mset_ne c,mset_ne c2]
local macro_rules | `(tactic| tm_at $s:str)=>namT n_ab s
theorem ok_TooGreat_init (F:Fun K "__init__" "TooGreat.__init__" s_ab f fd) (e:ErrF K C P0 "number") (e':ErrF K C P0 "most"):FnOk P w K mg base CX0 1 f fd P_ab (liftSp K (spIni C ["number", "most"])):=by
 refine fn_D F sc_ab (fun ds M Q ⟨a,vs,h,hl,_⟩=>by subst h;show vs.length+1=_;rw [hl];rfl) fun cdv A outer s H EE ds M Q hr h=>?_
 have nd:=sc_ab.nd
 try (refine let_X ?_;intro X)
 obtain ⟨a,vs,rfl,hl,ha,q⟩:=h
 obtain ⟨v,u,rfl⟩:∃ v u,vs=[v,u]:=match vs,hl with | [v,u],_=>⟨v,u,rfl⟩
 refine exs_cons ?_
 with_reducible refine' ex_fldX (C:=C) (P:=P0) ?n1 ?_ ?n0
 case n1=>exact e
 case n0=>rfl
 lk
 refine ⟨a,rfl,.inl ⟨ha,fun dx h1 h2=>?_⟩⟩
 refine exs_one ?_
 with_reducible refine' ex_fldX (C:=C) (P:=P0) ?n1 ?_ ?n0
 case n1=>exact e'
 case n0=>rfl
 lk
 refine ⟨a,rfl,.inr ⟨dx,[("number",v)],mset_same,by rw [mset_ne h2,mset_same],h2,(by show 1 < 100;omega),?_⟩⟩
 rw [mset_two h2]
 exact q dx h1 h2
end
section
variable {P:Program} {w:World} {K:PySem.W.Frag} {mg:Str->Option Value} {base:Heap} {f:Addr} {fd:FuncData} {Cg Cn Cm P0:Addr}
local macro_rules | `(tactic| tm_at $s:str)=>namT n_ai s
theorem ok_must_be_within (F:Fun K "must_be_within" "must_be_within" s_ai f fd) (m:Mkr P w K mg base 1 "TooGreat" Cg P0 ["number", "most"]):FnOk P w K mg base (XCX P w) 3 f fd P_ai (liftX K (spLessX Cg Cn Cm)):=by
 refine fn_X F sc_ai (fun ds M Q R ⟨a,b,e,_⟩=>by subst e;rfl) fun cdv A outer s H EE ds M Q R hr h T=>?_
 have nd:=sc_ai.nd
 try (refine let_X ?_;intro X)
 obtain ⟨a,b,rfl,q⟩:=h
 unfold over at q
 refine exs_one ?_
 lk
 refine ifD ?_ ?_
 ·intro hab
  rw [if_pos hab] at q
  lk
  with_reducible refine' ex_raise ?n0 ?n1 ?n2 ?n3 ?n4 ?n5 ?_ ?n6 ?n7 ?n8 ?n9
  case n0=>exact m
  case n1=>exact hr
  case n2=>omega
  case n3=>rfl
  case n4=>exact T
  case n5=>decide
  case n6=>rfl
  case n7=>decide
  case n8=>rfl
  case n9=>rfl
  lk
  exact ⟨rfl,fun dx hdx=>q M dx (Ext.refl M) hdx⟩
 ·intro hab
  rw [if_neg hab] at q
  lk
  exact q M (Ext.refl M)
local macro_rules | `(tactic| tm_at $s:str)=>namT n_am s
theorem ok_must_be_among (F:Fun K "must_be_among" "must_be_among" s_am f fd) (m:Mkr P w K mg base 1 "NoName" Cn P0 ["name"]):FnOk P w K mg base (XCX P w) 3 f fd P_am (liftX K (spAmongX Cg Cn Cm)):=by
 refine fn_X F sc_am (fun ds M Q R ⟨a,b,c,h,_⟩=>by subst h;rfl) fun cdv A outer s H EE ds M Q R hr h T=>?_
 have nd:=sc_am.nd
 try (refine let_X ?_;intro X)
 obtain ⟨ss,xs,p,rfl,hp,hl,q⟩:=h
 refine exs_one (ex_for_list pass_fn rfl ?_)
 lk
 refine ⟨p,xs.map D.str,fun i G' M'=>∃ r2,G'=[some (nms ss),some (.ref p),r2]/\M'=M/\∀ y∈xs.take i,y∈ss,rfl,.inl hp,⟨none,rfl,rfl,by simp⟩,?_,?_,?_⟩
 ·rintro i G' M' _ ⟨r2,_,rfl,_⟩
  rfl
 ·rintro i d G' M' hd ⟨r2,rfl,rfl,h0⟩
  rw [List.getElem?_map] at hd
  obtain ⟨x,hx,rfl⟩:=Option.map_eq_some_iff.mp hd
  lk
  unfold nms
  lk
  by_cases hm:x∈ss
  ·refine ifNn hm ?_
   lk
   refine ⟨_,rfl,rfl,fun y hy=>?_⟩
   rw [List.take_add_one,hx] at hy
   rcases List.mem_append.mp hy with hy | hy
   ·exact h0 y hy
   ·rw [List.mem_singleton.mp hy];exact hm
  ·refine ifNy hm ?_
   lk
   with_reducible refine' ex_raise ?n0 ?n1 ?n2 ?n3 ?n4 ?n5 ?_ ?n6 ?n7 ?n8 ?n9
   case n0=>exact m
   case n1=>exact hr
   case n2=>omega
   case n3=>rfl
   case n4=>exact T
   case n5=>decide
   case n6=>rfl
   case n7=>decide
   case n8=>rfl
   case n9=>rfl
   lk
   rw [notIn_app hx h0 hm] at q
   exact ⟨rfl,fun dx hdx=>q _ dx (Ext.refl _) hdx⟩
 ·rintro G' M' ⟨r2,rfl,rfl,h0⟩
  rw [List.length_map,List.take_length] at h0
  rw [notIn_none h0] at q
  exact q _ (Ext.refl _)
local macro_rules | `(tactic| tm_at $s:str)=>namT n_ao s
theorem ok_must_have_no_loop (F:Fun K "must_have_no_loop" "must_have_no_loop" s_ao f fd) (C_laid_out:Cal P w K mg base 3 "laid_out" spLaid) (C_how_many:Cal P w K mg base 1 "how_many" spHow) (m0:Mkr P w K mg base 1 "NoMeasure" Cm P0 ["place"]):FnOk P w K mg base (XCX P w) 4 f fd P_ao (liftX K (spNoLpX Cg Cn Cm)):=by
 refine fn_X F sc_ao (fun ds M Q R ⟨a,b,c,d,e,h,_⟩=>by subst h;rfl) fun cdv A outer s H EE ds M Q R hr h T=>?_
 have nd:=sc_ao.nd
 try (refine let_X ?_;intro X)
 obtain ⟨p,r,rs,m,b,rfl,hs,q⟩:=h
 have e0:stD (.whl r rs m b)=.tup [.str "while",rwD r,.tup (rs.map rwD),msD m,.tup (stDs b)]:=by simp only [stD]
 rw [e0]
 refine exs_cons (ex_hush ?_)
 with_reducible refine' ex_comp_list 2 (own:=["pair"]) (js:=[]) (N:=["pair"]) (cl:=[]) ?T ?xe ?ca ?hN ?hj ?hy ?hyf ?hsw sndD (fun _=>true) ?_ ?hs
 case T=>exact compOk_plain (by decide +kernel) (by decide +kernel) rfl (by decide +kernel) rfl
 case xe=>rfl
 case ca=>rfl
 case hN=>exact nd
 case hj=>rfl
 case hy=>first | exact Or.inl rfl | exact Or.inr rfl
 case hyf=>exact .inl rfl
 case hsw=>rfl
 case hs=>(intro _;rfl)
 lk
 refine ⟨b,rfl,hs,fun l M1 hl hl1 hx=>?_⟩
 refine ⟨l,_,rfl,.inl hl1,small (by rw [List.length_map,layB_len];omega),?_,fun p0 hp0=>?_⟩
 ·rintro Y ⟨C',s',H',fp,rfl⟩ M' hM d hd
  obtain ⟨x,hx',rfl⟩:=List.mem_map.mp hd
  have nd2:(["pair"] : List Str).Nodup:=by decide +kernel
  refine gv_name 0 nd2 ?_
  refine ⟨rfl,fun i d e=>by rcases i with _ | i<;>simp [compG] at e,tvs_nil ⟨rfl,rfl⟩,fun _=>?_⟩
  repeat first | (refine ev_var 0 ?_) | k_go
  refine (show IxA (D.tup [pcD x.1,stD x.2]) (D.int 1) _ _ from ix_at rfl ?_)
  exact ⟨rfl,rfl⟩
 ·rw [snd_map]
  refine exs_one ?_
  lk
  refine ⟨p0,(layB [] 0 b).map (·.2),[Str.ofString "while"],rfl,mset_same,by rw [List.length_map,layB_len];omega,fun M2 hx2=>?_⟩
  have hc:(((layB [] 0 b).map (·.2)).filter fun s=>decide (wordS s∈[Str.ofString "while"])).length=(tts b).l:=by
   rw [List.filter_map,List.length_map]
   exact cnts_l [] 0 b
  rw [hc]
  have hx3:=Ext.trans hx (Ext.trans (ext_new hp0) hx2)
  lk
  refine ifD ?_ ?_
  ·intro hab
   rw [if_pos (by omega)] at q
   lk
   with_reducible refine' ex_raise ?n0 ?n1 ?n2 ?n3 ?n4 ?n5 ?_ ?n6 ?n7 ?n8 ?n9
   case n0=>exact m0
   case n1=>exact hr
   case n2=>omega
   case n3=>rfl
   case n4=>exact T
   case n5=>decide
   case n6=>rfl
   case n7=>decide
   case n8=>rfl
   case n9=>rfl
   lk
   exact ⟨rfl,fun dx hdx=>q _ dx hx3 hdx⟩
  ·intro hab
   rw [if_neg (by omega)] at q
   lk
   exact q M2 hx3
local macro_rules | `(tactic| tm_at $s:str)=>namT n_an s
theorem ok_must_bear_measure (F:Fun K "must_bear_measure" "must_bear_measure" s_an f fd) (CX:CalX P w K mg base 4 "must_have_no_loop" (spNoLpX Cg Cn Cm)):FnOk P w K mg base (XCX P w) 5 f fd P_an (liftX K (spBearX Cg Cn Cm)):=by
 refine fn_X F sc_an (fun ds M Q R ⟨a,h,_⟩=>by subst h;rfl) fun cdv A outer s H EE ds M Q R hr h T=>?_
 have nd:=sc_an.nd
 try (refine let_X ?_;intro X)
 obtain ⟨⟨p,st⟩,rfl,hsz,q⟩:=h
 cases st with
 | whl r rs m b =>
  cases m with
  | none =>
   have e0:stD (.whl r rs none b)=.tup [.str "while",rwD r,.tup (rs.map rwD),.non,.tup (stDs b)]:=by simp only [stD,msD]
   show EXs _ [some (pcD p),some (stD (.whl r rs none b))] _ _ _
   rw [e0]
   refine exs_one ?_
   repeat first | k_go | refine ifDy rfl ?_ | refine ifDn (by decide) ?_
   exact q M (Ext.refl M)
  | some m =>
   have e0:stD (.whl r rs (some m) b)=.tup [.str "while",rwD r,.tup (rs.map rwD),.tup [smD m.1,.int m.2],.tup (stDs b)]:=by simp only [stD,msD]
   have hs:(tts b).s<=100:=by simp only [tt,Cnt.add] at hsz;omega
   show EXs _ [some (pcD p),some (stD (.whl r rs (some m) b))] _ _ _
   rw [e0]
   refine exs_one ?_
   repeat first | k_go | refine ifDy rfl ?_ | refine ifDn (by decide) ?_
   with_reducible refine' ev_callX ?n0 ?n1 ?n2 ?n3 ?_ ?n4 ?n5 ?n6 ?n7
   case n0=>exact CX
   case n1=>exact hr
   case n2=>omega
   case n3=>exact T
   case n4=>rfl
   case n5=>decide
   case n6=>rfl
   case n7=>rfl
   lk
   refine ⟨p,r,rs,some m,b,by rw [e0],hs,?_⟩
   have q:Tells Cg Cn Cm (if (tts b).l > 0 then some (.meas p) else none) M Q R:=q
   split at q
   ·rename_i h;rw [if_pos h];exact q
   ·rename_i h
    rw [if_neg h]
    intro M' hx
    lk
    exact q M' hx
 | set _ _=>all_goals (simp only [stD];refine exs_one ?_;(repeat first | k_go | refine ifDy rfl ?_ | refine ifDn (by decide) ?_);exact q M (Ext.refl M))
 | any _=>all_goals (simp only [stD];refine exs_one ?_;(repeat first | k_go | refine ifDy rfl ?_ | refine ifDn (by decide) ?_);exact q M (Ext.refl M))
 | note _=>all_goals (simp only [stD];refine exs_one ?_;(repeat first | k_go | refine ifDy rfl ?_ | refine ifDn (by decide) ?_);exact q M (Ext.refl M))
 | choose _ _=>all_goals (simp only [stD];refine exs_one ?_;(repeat first | k_go | refine ifDy rfl ?_ | refine ifDn (by decide) ?_);exact q M (Ext.refl M))
 | ite _ _ _=>all_goals (simp only [stD];refine exs_one ?_;(repeat first | k_go | refine ifDy rfl ?_ | refine ifDn (by decide) ?_);exact q M (Ext.refl M))
local macro_rules | `(tactic| tm_at $s:str)=>namT n_ah s
local macro_rules | `(tactic| tm_at "wi")=>`(tactic| ((with_reducible refine' ev_callX ?n0 ?n1 ?n2 ?n3 ?_ ?n4 ?n5 ?n6 ?n7);(case n0=>exact CX);(case n1=>exact hr);(case n2=>omega);(case n3=>exact T);(case n4=>rfl);(case n5=>decide);(case n6=>rfl);(case n7=>rfl)))
theorem ok_must_be_small {t1 t2 t3 t4 t5 t6 t7:Tok} (F:Fun K "must_be_small" "must_be_small" s_ah f fd) (h_len:mg "len" = none) (g1:mg "MOST_NAMES" = some (.int 3 t1)) (g2:mg "MOST_STATEMENTS" = some (.int 24 t2)) (g3:mg "MOST_DEPTH" = some (.int 4 t3)) (g4:mg "MOST_BRANCHES" = some (.int 2 t4)) (g5:mg "MOST_LOOPS" = some (.int 2 t5)) (g6:mg "MOST_GIVEN" = some (.int 1 t6)) (g7:mg "MOST_NOTED" = some (.int 2 t7))
  (CX:CalX P w K mg base 3 "must_be_within" (spLessX Cg Cn Cm)) (C_depth_of:Cal P w K mg base 1 "depth_of" spDeep) (C_how_many:Cal P w K mg base 1 "how_many" spHow) (C_rows_noted:Cal P w K mg base 1 "rows_noted" spNoted):FnOk P w K mg base (XCX P w) 4 f fd P_ah (liftX K (spSmallX Cg Cn Cm)):=by
 refine fn_X F sc_ah (fun ds M Q R ⟨a,b,c,d,h,_⟩=>by subst h;rfl) fun cdv A outer s H EE ds M Q R hr h T=>?_
 have nd:=sc_ah.nd
 try (refine let_X ?_;intro X)
 obtain ⟨ss,a,rs,b,rfl,ha,sm,q⟩:=h
 have hs:=sm.s
 have hll:(layB [] 0 b).length<=100:=by rw [layB_len];exact hs
 refine exs_cons (ex_hush ?_)
 with_reducible refine' ex_comp_list 2 (own:=["pair"]) (js:=[]) (N:=["pair"]) (cl:=[]) ?T ?xe ?ca ?hN ?hj ?hy ?hyf ?hsw sndD (fun _=>true) ?_ ?hs
 case T=>exact compOk_plain (by decide +kernel) (by decide +kernel) rfl (by decide +kernel) rfl
 case xe=>rfl
 case ca=>rfl
 case hN=>exact nd
 case hj=>rfl
 case hy=>first | exact Or.inl rfl | exact Or.inr rfl
 case hyf=>exact .inl rfl
 case hsw=>rfl
 case hs=>(intro _;rfl)
 lk
 refine ⟨a,_,rfl,.inl ha,small (by rw [List.length_map];omega),?_,fun p0 hp0=>?_⟩
 ·rintro Y ⟨C',s',H',fp,rfl⟩ M' hM d hd
  obtain ⟨x,hx',rfl⟩:=List.mem_map.mp hd
  have nd2:(["pair"] : List Str).Nodup:=by decide +kernel
  refine gv_name 0 nd2 ?_
  refine ⟨rfl,fun i d e=>by rcases i with _ | i<;>simp [compG] at e,tvs_nil ⟨rfl,rfl⟩,fun _=>?_⟩
  repeat first | (refine ev_var 0 ?_) | k_go
  refine (show IxA (D.tup [pcD x.1,stD x.2]) (D.int 1) _ _ from ix_at rfl ?_)
  exact ⟨rfl,rfl⟩
 rw [snd_map]
 have ha1:mset M p0 (.lst (((layB [] 0 b).map (·.2)).map stD)) a=some (.lst ((layB [] 0 b).map prD)):=mset_old hp0 ha
 have hp1:mset M p0 (.lst (((layB [] 0 b).map (·.2)).map stD)) p0=some (.lst (((layB [] 0 b).map (·.2)).map stD)):=mset_same
 have q:=Tells.ext q (ext_new (o:=.lst (((layB [] 0 b).map (·.2)).map stD)) hp0)
 generalize mset M p0 (.lst (((layB [] 0 b).map (·.2)).map stD))=M1 at ha1 hp1 q ⊢
 have hc:∀ ws:List Str,(((layB [] 0 b).map (·.2)).filter fun s=>decide (wordS s∈ws)).length=((layB [] 0 b).filter fun x=>decide (wordS x.2∈ws)).length:=fun ws=>by
  rw [List.filter_map,List.length_map];rfl
 unfold smallDue at q
 refine exs_cons ?_
 lk
 tm_at "wi"
 repeat first | k_go | (refine ev_gint g1 ?_)
 refine ⟨_,_,rfl,rfl,?_⟩
 rw [List.length_map]
 repeat first | k_go | (refine ev_gint g1 ?_)
 refine ⟨_,_,rfl,Tells.first q fun M2 hx2 q=>?_⟩
 have ha1:=hx2 _ _ ha1
 have hp1:=hx2 _ _ hp1
 walk
 tm_at "wi"
 lk
 refine ⟨_,_,rfl,Or.inl ⟨_,hp1,rfl⟩,?_⟩
 rw [List.length_map,List.length_map,layB_len]
 repeat first | k_go | (refine ev_gint g2 ?_)
 refine ⟨_,_,rfl,Tells.first q fun M2 hx2 q=>?_⟩
 have ha1:=hx2 _ _ ha1
 have hp1:=hx2 _ _ hp1
 walk
 tm_at "wi"
 lk
 refine ⟨a,_,rfl,ha1,by omega,sm.long,fun r M2 hr' hx2=>?_⟩
 have ha1:=hx2 _ _ ha1
 have hp1:=hx2 _ _ hp1
 have q:=Tells.ext q hx2
 rw [deepest_is (fun x _=>by unfold KA.deep;rw [Int.fdiv_eq_ediv_of_nonneg _ (by decide)];omega) hr']
 repeat first | k_go | (refine ev_gint g3 ?_)
 refine ⟨_,_,rfl,Tells.first q fun M2 hx2 q=>?_⟩
 have ha1:=hx2 _ _ ha1
 have hp1:=hx2 _ _ hp1
 walk
 tm_at "wi"
 lk
 refine ⟨p0,(layB [] 0 b).map (·.2),[Str.ofString "choose",Str.ofString "if"],rfl,hp1,by rw [List.length_map];omega,fun M3 hx3=>?_⟩
 have ha1:=hx3 _ _ ha1
 have hp1:=hx3 _ _ hp1
 have q:=Tells.ext q hx3
 rw [hc,cnts_b]
 repeat first | k_go | (refine ev_gint g4 ?_)
 refine ⟨_,_,rfl,Tells.first q fun M2 hx2 q=>?_⟩
 have ha1:=hx2 _ _ ha1
 have hp1:=hx2 _ _ hp1
 walk
 tm_at "wi"
 lk
 refine ⟨p0,(layB [] 0 b).map (·.2),[Str.ofString "while"],rfl,hp1,by rw [List.length_map];omega,fun M3 hx3=>?_⟩
 have ha1:=hx3 _ _ ha1
 have hp1:=hx3 _ _ hp1
 have q:=Tells.ext q hx3
 rw [hc,cnts_l]
 repeat first | k_go | (refine ev_gint g5 ?_)
 refine ⟨_,_,rfl,Tells.first q fun M2 hx2 q=>?_⟩
 have ha1:=hx2 _ _ ha1
 have hp1:=hx2 _ _ hp1
 walk
 tm_at "wi"
 lk
 refine ⟨p0,(layB [] 0 b).map (·.2),[Str.ofString "any"],rfl,hp1,by rw [List.length_map];omega,fun M3 hx3=>?_⟩
 have ha1:=hx3 _ _ ha1
 have hp1:=hx3 _ _ hp1
 have q:=Tells.ext q hx3
 rw [hc,cnts_a]
 repeat first | k_go | (refine ev_gint g6 ?_)
 refine ⟨_,_,rfl,Tells.first q fun M2 hx2 q=>?_⟩
 have ha1:=hx2 _ _ ha1
 have hp1:=hx2 _ _ hp1
 walk
 tm_at "wi"
 lk
 refine ⟨p0,(layB [] 0 b).map (·.2),rfl,hp1,by rw [List.length_map];omega,sm.note,fun M6 hx6=>?_⟩
 have q:=Tells.ext q hx6
 repeat first | k_go | (refine ev_gint g7 ?_)
 refine ⟨_,_,rfl,?_⟩
 refine Tells.last q fun M' q=>?_
 lk
 exact q
local macro_rules | `(tactic| tm_at $s:str)=>namT n_ad s
local macro_rules | `(tactic| tm_at "wx")=>`(tactic| ((with_reducible refine' ev_callX ?n0 ?n1 ?n2 ?n3 ?_ ?n4 ?n5 ?n6 ?n7);(case n0=>first | exact CS | exact CA | exact CB);(case n1=>exact hr);(case n2=>omega);(case n3=>exact T);(case n4=>rfl);(case n5=>decide);(case n6=>rfl);(case n7=>rfl)))
theorem ok_must_plan (F:Fun K "must_plan" "must_plan" s_ad f fd) (C_laid_out:Cal P w K mg base 3 "laid_out" spLaid) (CS:CalX P w K mg base 4 "must_be_small" (spSmallX Cg Cn Cm)) (CA:CalX P w K mg base 3 "must_be_among" (spAmongX Cg Cn Cm)) (C_names_of_rows:Cal P w K mg base 2 "names_of_rows" spNmR) (C_names_of_statement:Cal P w K mg base 4 "names_of_statement" spNmS) (CB:CalX P w K mg base 5 "must_bear_measure" (spBearX Cg Cn Cm)):FnOk P w K mg base (XCX P w) 6 f fd P_ad (liftX K (spPlanX Cg Cn Cm)):=by
 refine fn_X F sc_ad (fun ds M Q R ⟨a,b,c,h,_⟩=>by subst h;rfl) fun cdv A outer s H EE ds M Q R hr h T=>?_
 have nd:=sc_ad.nd
 try (refine let_X ?_;intro X)
 obtain ⟨ss,rs,b,rfl,hp,q⟩:=h
 have hs:=hp.s
 refine exs_cons ?_
 lk
 refine ⟨b,rfl,by omega,fun l M1 hl hl1 hx1=>?_⟩
 have q:=Tells.ext q hx1
 walk
 tm_at "wx"
 lk
 unfold planDue at q
 refine ⟨ss,l,rs,b,rfl,hl1,hp,Tells.first q fun M2 hx2 q=>?_⟩
 have hl1:=hx2 _ _ hl1
 walk
 tm_at "wx"
 lk
 refine ⟨rs,rfl,hp.rs,fun q3 M3 hq3 hq3' hx3=>?_⟩
 have hrl:=hp.rs.len
 have hl1:=hx3 _ _ hl1
 have q:=Tells.ext q hx3
 lk
 refine ⟨ss,nmR rs,q3,rfl,hq3',by omega,Tells.first q fun M4 hx4 q=>?_⟩
 have hl4:=hx4 _ _ hl1
 lk
 refine (ex_for_list pass_fn rfl ?_)
 lk
 refine ⟨l,_,fun i G' M'=>∃ r3 r4,G'=[some (.tup [nms ss,.tup (rs.map rwD),.tup (stDs b)]),some (nms ss),some (.ref l),r3,r4]/\Ext M4 M'/\Tells Cg Cn Cm (within ss ((layB [] 0 b).drop i)) M' Q R,rfl,.inl hl4,⟨none,none,rfl,Ext.refl _,q⟩,?_,?_,?_⟩
 ·rintro i G' M' _ ⟨r3,r4,rfl,hx,_⟩
  rw [hx _ _ hl4,hl4]
 ·rintro i d G' M' hd ⟨r3,r4,rfl,hx,q⟩
  rw [List.getElem?_map] at hd
  obtain ⟨x,hx1,rfl⟩:=Option.map_eq_some_iff.mp hd
  have hmem:=List.mem_of_getElem? hx1
  have hst:=hp.st x hmem
  have htt:=layB_tt _ _ _ x hmem
  obtain ⟨hi,he⟩:=List.getElem?_eq_some_iff.mp hx1
  rw [List.drop_eq_getElem_cons hi,he] at q
  unfold KA.within at q
  unfold prD
  walk
  tm_at "wx"
  lk
  refine ⟨x.2,rfl,hst,fun q4 M4 hq4 hq4' hx4=>?_⟩
  have q:=Tells.ext q hx4
  lk
  refine ⟨ss,nmS x.2,q4,rfl,hq4',nmS_len hst,Tells.first q fun M5 hx5 q=>?_⟩
  walk
  tm_at "wx"
  lk
  refine ⟨x,rfl,by omega,Tells.first q fun M6 hx6 q=>?_⟩
  lk
  exact ⟨_,_,rfl,Ext.trans hx (Ext.trans hx4 (Ext.trans hx5 hx6)),q⟩
 ·rintro G' M' ⟨r3,r4,rfl,hx,q⟩
  rw [List.length_map,List.drop_length] at q
  exact q M' (Ext.refl _)
end
section
variable {P:Program} {w:World} {K:PySem.W.Frag} {mg:Str->Option Value} {base:Heap} {f:Addr} {fd:FuncData}
local macro_rules | `(tactic| tm_at "go")=>`(tactic| walk)
local macro_rules | `(tactic| tm_at $s:str)=>namT n_bt s
theorem ok_l_lacking (F:Fun K "_law_lacking" "_law_lacking" s_bt f fd) (h_len:mg "len" = none) (h_range:mg "range" = none):FnOk P w K mg base CX0 1 f fd P_bt (liftSp K spLackG):=by
 tm_at "F bt"
 obtain ⟨ss,c,rfl,h3,hc0,hc7,q⟩:=h
 have bc:Bd c 40:=.rng (by omega) (by omega)
 refine exs_cons ?_
 tm_at "go"
 intro h h0
 refine exs_cons (ex_for_range PassesOwn.never rfl h_range ?_)
 tm_at "go"
 refine ⟨nms ss,ss.length,rfl,by show _=_;simp,?_⟩
 tm_at "go"
 refine ⟨ss.length,fun i G' M'=>∃ (kvs:List (Str × D)) (r3:Option D),G'=[some (nms ss),some (.int c),some (.ref h),r3]/\kvs.length<=i/\M' h=some (.dic kvs)/\Ext M M',rfl,by omega,by omega,⟨[],none,rfl,Nat.le_refl _,mset_same,ext_new h0⟩,?_,?_⟩
 ·rintro i G' M' hi ⟨kvs,r3,rfl,hl,hm,hx⟩
  have hi:i < ss.length:=by simpa using hi
  refine gv_name 3 nd ?_
  try (refine let_E ?_;intro EL)
  tm_at "go"
  intro l hl0
  obtain ⟨u,hu,eu⟩:∃ u:Int,(u=1\/u=2\/u=4)/\atI [D.int 1,.int 2,.int 4] (i:Int)=some (.int u):=by
   rcases (by omega:i=0\/i=1\/i=2) with rfl | rfl | rfl
   ·exact ⟨1,.inl rfl,rfl⟩
   ·exact ⟨2,.inr (.inl rfl),rfl⟩
   ·exact ⟨4,.inr (.inr rfl),rfl⟩
  have bu:Bd u 40:=.rng (by omega) (by omega)
  have u0:u≠0:=by omega
  have x1:=ext_new (o:=.lst [.int 1,.int 2,.int 4]) hl0
  have e1:mset M' l (.lst [.int 1,.int 2,.int 4]) l=some (.lst [.int 1,.int 2,.int 4]):=mset_same
  have hm:=x1 _ _ hm
  have hx:=Ext.trans hx x1
  generalize mset M' l _=M1 at *
  tm_at "go"
  refine ix_al e1 eu ?_
  tm_at "go"
  refine ifD ?_ ?_
  ·intro _
   tm_at "go"
   refine ix_at (d:=.str ss[i]) (atI_nat (by rw [List.getElem?_map,List.getElem?_eq_getElem hi];rfl)) ?_
   tm_at "go"
   refine set_dl hm (small1000 (by omega)) ?_
   exact ⟨_,_,rfl,by have:=putD_len kvs ss[i] (.tup [.int (c.fmod 9),.int 1]);omega,mset_same,fun b o e=>by rw [mset_ne (ne_fresh e h0)];exact hx _ _ e⟩
  ·intro _
   refine exs_nil ?_
   exact ⟨kvs,_,rfl,by omega,hm,hx⟩
 ·rintro G' M' ⟨kvs,r3,rfl,hl,hm,hx⟩
  tm_at "go"
  exact q _ kvs M' hm hx
end
section
variable {P:Program} {w:World} {K:PySem.W.Frag} {mg:Str->Option Value} {base:Heap} {f:Addr} {fd:FuncData} {Cg Cn Cm:Addr}
local macro_rules | `(tactic| tm_at $s:str)=>namT n_ax s
theorem ok_code (F:Fun K "code" "code" s_ax f fd) (CP:CalX P w K mg base 6 "must_plan" (spPlanX Cg Cn Cm)) (C_code_of_block:Cal P w K mg base 14 "code_of_block" (spCodeB 4)):FnOk P w K mg base (XCX P w) 15 f fd P_ax (liftX K (spCodeX Cg Cn Cm)):=by
 refine fn_X F sc_ax (fun ds M Q R ⟨a,b,c,h,_⟩=>by subst h;rfl) fun cdv A outer s H EE ds M Q R hr h T=>?_
 have nd:=sc_ax.nd
 try (refine let_X ?_;intro X)
 obtain ⟨ss,rs,b,rfl,hf,hd,q⟩:=h
 refine exs_cons ?_
 lk
 with_reducible refine' ev_callX ?n0 ?n1 ?n2 ?n3 ?_ ?n4 ?n5 ?n6 ?n7
 case n0=>exact CP
 case n1=>exact hr
 case n2=>omega
 case n3=>exact T
 case n4=>rfl
 case n5=>decide
 case n6=>rfl
 case n7=>rfl
 lk
 refine ⟨ss,rs,b,rfl,hf,?_⟩
 cases hp:planDue ss rs b with
 | some e=>rw [hp] at q;exact q
 | none =>
  rw [hp] at q
  obtain ⟨h4,hs⟩:=hd hp
  have l1:=cB_len b [] 0 0
  intro M1 hx1
  unfold plA
  walk
  refine ⟨[],b,0,rfl,h4,hs,by decide,fun q1 M2 hq1 hq1' hx2=>?_⟩
  lk
  intro p3 hp3
  have eh:(D.tup [.str "halt"])=hlt:=rfl
  rw [eh]
  have x3:=ext_new (o:=.lst [hlt]) hp3
  lk
  refine add_ll (x3 _ _ hq1') mset_same (small (by show _+1<=_;omega)) fun p4 hp4=>?_
  exact q p4 _ (Ext.trans hx1 (Ext.trans hx2 (Ext.trans x3 (ext_new hp4))))
end
section
variable {P:Program} {w:World} {K:PySem.W.Frag} {mg:Str->Option Value} {base:Heap} {f:Addr} {fd:FuncData} {C Cg Cn Cm P0:Addr}
local macro_rules | `(tactic| tm_at "fs")=>`(tactic| ((with_reducible refine' ex_fld ?_ ?n0);(case n0=>rfl)))
local macro_rules | `(tactic| tm_at "go")=>`(tactic| walk)
local macro_rules | `(tactic| tm_at $s:str)=>namT n_av s
theorem ok_Traveller_init (F:Fun K "__init__" "Traveller.__init__" s_av f fd) (k:TrG K C) (h_dict:mg "dict" = none) (h_list:mg "list" = none) (m:Mkr P w K mg base 1 "NoName" Cn P0 ["name"]):FnOk P w K mg base (XCX P w) 3 f fd P_av (liftX K (spTravX Cg Cn Cm C)):=by
 refine fn_X F sc_av (fun ds M Q R ⟨a,b,c,d,e,g,h,_⟩=>by subst h;rfl) fun cdv A outer s H EE ds M Q R hr h T=>?_
 have nd:=sc_av.nd
 try (refine let_X ?_;intro X)
 obtain ⟨o,q0,tq,gq,kvs,ss,rfl,ho,hq,htq,hgq,h3,hnd,q⟩:=h
 refine exs_cons ?_
 with_reducible refine' ex_for_tup ?n0 ?n1 ?_ ?n2
 case n0=>exact pass_fn
 case n1=>rfl
 case n2=>(intro _;rfl)
 lk
 refine ⟨ss.map D.str,fun i G' M'=>∃ r5:Option D,G'=[some (.ref o),some (nms ss),some (.ref q0),some (.ref tq),some (.ref gq),r5]/\M'=M/\∀ y∈ss.take i,y∈kvs.map (·.1),rfl,⟨none,rfl,rfl,by simp⟩,?_,?_⟩
 ·rintro i d G' M' hd ⟨r5,rfl,rfl,h0⟩
  rw [List.getElem?_map] at hd
  obtain ⟨x,hx,rfl⟩:=Option.map_eq_some_iff.mp hd
  lk
  refine in_d hq ?_
  by_cases hm:x∈kvs.map (·.1)
  ·obtain ⟨d,e,_⟩:=lkD_some hm
   rw [e]
   refine ifNT ?_
   lk
   refine ⟨_,rfl,rfl,fun y hy=>?_⟩
   rw [List.take_add_one,hx] at hy
   rcases List.mem_append.mp hy with hy | hy
   ·exact h0 y hy
   ·rw [List.mem_singleton.mp hy];exact hm
  ·rw [lkD_none hm]
   refine ifNF ?_
   lk
   with_reducible refine' ex_raise ?n0 ?n1 ?n2 ?n3 ?n4 ?n5 ?_ ?n6 ?n7 ?n8 ?n9
   case n0=>exact m
   case n1=>exact hr
   case n2=>omega
   case n3=>rfl
   case n4=>exact T
   case n5=>decide
   case n6=>rfl
   case n7=>decide
   case n8=>rfl
   case n9=>rfl
   lk
   unfold lackG at q
   rw [notIn_app hx h0 hm] at q
   exact ⟨rfl,fun dx hdx=>q _ dx (Ext.refl _) hdx⟩
 ·rintro G' M' ⟨r5,rfl,rfl,h0⟩
  rw [List.length_map,List.take_length] at h0
  unfold lackG at q
  rw [notIn_none h0] at q
  have b0:Bl C o M' [] M':=⟨fun _ _ _ e=>e,ho⟩
  refine exs_nox ?_
  refine exs_cons ?_
  tm_at "fs"
  with_reducible refine' ev_dictL ?n0 ?n1 ?_ ?n2 ?n3 ?n4
  case n0=>rfl
  case n1=>exact h_dict
  case n2=>rfl
  case n3=>rfl
  case n4=>rfl
  lk
  with_reducible refine' ev_comp_tup (own:=["name"]) (js:=[2]) (N:=["name", "start"]) ?T ?xe ?ca (stPr kvs) (fun _=>true) ?_ ?hs
  case T=>exact compOk_freeB (fs:=["start"]) rfl (by decide +kernel) (by decide +kernel) rfl rfl rfl rfl rfl
  case xe=>rfl
  case ca=>rfl
  case hs=>(intro _;rfl)
  lk
  refine ⟨_,rfl,small (by rw [List.length_map];omega),?_,fun q1 hq1=>?_⟩
  ·rintro Y ⟨C',s',H',fp,rfl⟩ M1 hM d hd
   obtain ⟨x,hx,rfl⟩:=List.mem_map.mp hd
   obtain ⟨v,ev,_⟩:=lkD_some (h0 x hx)
   have nd2:(["name", "start"] : List Str).Nodup:=by decide +kernel
   refine gv_name 0 nd2 ?_
   refine ⟨rfl,fun i d e=>?_,tvs_nil ⟨rfl,rfl⟩,fun _=>?_⟩
   ·rcases i with _ | i
    ·simp [compG] at e
    ·exact e
   repeat first | ((with_reducible show EV _ _ _ (Expr.Name "name" _) _);refine ev_var 0 ?_) | ((with_reducible show EV _ _ _ (Expr.Name "start" _) _);refine ev_var 1 ?_) | k_go
   refine ix_ad (hM _ _ hq) ev ?_
   lk
   refine ⟨rfl,?_⟩
   unfold stPr
   show _=D3.pairD (x,(lkD kvs x).getD .non)
   rw [ev];rfl
  ·rw [stPr_all]
   have nt:tq≠o:=fun z=>by rw [z,ho] at htq;cases htq
   have ng:gq≠o:=fun z=>by rw [z,ho] at hgq;cases hgq
   have b1:=b0.ext (ext_new (o:=.lst ((ptG kvs ss).map D3.pairD)) hq1)
   have e1:mset M' q1 (.lst ((ptG kvs ss).map D3.pairD)) q1=some (.lst ((ptG kvs ss).map D3.pairD)):=mset_same
   generalize mset M' q1 (.lst ((ptG kvs ss).map D3.pairD))=M1 at b1 e1 ⊢
   lk
   refine ⟨q1,ptG kvs ss,rfl,e1,by rw [ptG_keys];exact hnd,fun c1 hc1=>?_⟩
   have b2:=b1.ext (ext_new (o:=.dic (ptG kvs ss)) hc1)
   have p2:mset M1 c1 (.dic (ptG kvs ss)) c1=some (.dic (ptG kvs ss)):=mset_same
   generalize mset M1 c1 (.dic (ptG kvs ss))=M2 at b2 p2 ⊢
   have nc:c1≠o:=fun z=>by rw [z,b2.ho] at p2;cases p2
   lk
   refine ⟨o,C,_,rfl,b2.ho,k.cls,k.no _ (.head _),Nat.le_of_ble_eq_true rfl,?_⟩
   have p3:mset M2 o (.ins C [("point",.ref c1)]) c1=some (.dic (ptG kvs ss)):=by rw [mset_ne nc];exact p2
   have b3:=b2.fld (fs':=[("point",.ref c1)])
   generalize hM3:mset M2 o _=M3
   have b3:Bl C o M' [("point",.ref c1)] M3:=hM3 ▸ b3
   have p3:M3 c1=some (.dic (ptG kvs ss)):=hM3 ▸ p3
   clear hM3
   refine exs_cons ?_
   tm_at "fs"
   lk
   refine ⟨_,rfl,_,b3.kp _ _ nt htq,fun c2 hc2=>?_⟩
   have x2:=ext_new (o:=.lst []) hc2
   have b4:=b3.ext x2
   have p4:=x2 _ _ p3
   generalize mset M3 c2 _=M4 at b4 p4 ⊢
   lk
   refine ⟨o,C,_,rfl,b4.ho,k.cls,k.no _ (.tail _ (.head _)),Nat.le_of_ble_eq_true rfl,?_⟩
   generalize hM5:mset M4 o _=M5
   have b5:Bl C o M' [("point",.ref c1),("turns",.ref c2)] M5:=hM5 ▸ b4.fld
   have p5:M5 c1=some (.dic (ptG kvs ss)):=by rw [<- hM5,mset_ne nc];exact p4
   clear hM5
   refine exs_cons ?_
   tm_at "fs"
   lk
   refine ⟨_,rfl,_,b5.kp _ _ ng hgq,fun c3 hc3=>?_⟩
   have x3:=ext_new (o:=.lst []) hc3
   have b6:=b5.ext x3
   have p6:=x3 _ _ p5
   generalize mset M5 c3 _=M6 at b6 p6 ⊢
   lk
   refine ⟨o,C,_,rfl,b6.ho,k.cls,k.no _ (.tail _ (.tail _ (.head _))),Nat.le_of_ble_eq_true rfl,?_⟩
   generalize hN3:mset M6 o _=N3
   have d3:Bl C o M' [("point",.ref c1),("turns",.ref c2),("givens",.ref c3)] N3:=hN3 ▸ b6.fld
   have p7:N3 c1=some (.dic (ptG kvs ss)):=by rw [<- hN3,mset_ne nc];exact p6
   clear hN3
   refine exs_cons ?_
   tm_at "fs"
   lk
   refine ⟨o,C,_,rfl,d3.ho,k.cls,k.no _ (.tail _ (.tail _ (.tail _ (.head _)))),Nat.le_of_ble_eq_true rfl,?_⟩
   generalize hN4:mset N3 o _=N4
   have d4:Bl C o M' [("point",.ref c1),("turns",.ref c2),("givens",.ref c3),("deeds",.int 0)] N4:=hN4 ▸ d3.fld
   have p8:N4 c1=some (.dic (ptG kvs ss)):=by rw [<- hN4,mset_ne nc];exact p7
   clear hN4
   refine exs_cons ?_
   tm_at "fs"
   lk
   intro c4 hc4
   have x4:=ext_new (o:=.lst []) hc4
   have b8:=d4.ext x4
   have p8:=x4 _ _ p8
   generalize mset N4 c4 _=M8 at b8 p8 ⊢
   lk
   refine ⟨o,C,_,rfl,b8.ho,k.cls,k.no _ (.tail _ (.tail _ (.tail _ (.tail _ (.head _))))),Nat.le_of_ble_eq_true rfl,?_⟩
   generalize hN5:mset M8 o _=N5
   have d5:Bl C o M' [("point",.ref c1),("turns",.ref c2),("givens",.ref c3),("deeds",.int 0),("passed",.ref c4)] N5:=hN5 ▸ b8.fld
   have p9:N5 c1=some (.dic (ptG kvs ss)):=by rw [<- hN5,mset_ne nc];exact p8
   clear hN5
   refine exs_cons ?_
   tm_at "fs"
   lk
   intro c5 hc5
   have x5:=ext_new (o:=.dic []) hc5
   have b9:=d5.ext x5
   have p9:=x5 _ _ p9
   generalize mset N5 c5 _=M9 at b9 p9 ⊢
   lk
   refine ⟨o,C,_,rfl,b9.ho,k.cls,k.no _ (.tail _ (.tail _ (.tail _ (.tail _ (.tail _ (.head _)))))),Nat.le_of_ble_eq_true rfl,?_⟩
   generalize hN6:mset M9 o _=N6
   have d6:Bl C o M' [("point",.ref c1),("turns",.ref c2),("givens",.ref c3),("deeds",.int 0),("passed",.ref c4),("worths",.ref c5)] N6:=hN6 ▸ b9.fld
   have pa:N6 c1=some (.dic (ptG kvs ss)):=by rw [<- hN6,mset_ne nc];exact p9
   clear hN6
   refine exs_cons ?_
   tm_at "fs"
   lk
   refine ⟨o,C,_,rfl,d6.ho,k.cls,k.no _ (.tail _ (.tail _ (.tail _ (.tail _ (.tail _ (.tail _ (.head _))))))),Nat.le_of_ble_eq_true rfl,?_⟩
   generalize hN7:mset N6 o _=N7
   have d7:Bl C o M' [("point",.ref c1),("turns",.ref c2),("givens",.ref c3),("deeds",.int 0),("passed",.ref c4),("worths",.ref c5),("word",.str "done")] N7:=hN7 ▸ d6.fld
   have pb:N7 c1=some (.dic (ptG kvs ss)):=by rw [<- hN7,mset_ne nc];exact pa
   clear hN7
   refine exs_cons ?_
   tm_at "fs"
   lk
   refine ⟨o,C,_,rfl,d7.ho,k.cls,k.no _ (.tail _ (.tail _ (.tail _ (.tail _ (.tail _ (.tail _ (.tail _ (.head _)))))))),Nat.le_of_ble_eq_true rfl,?_⟩
   generalize hN8:mset N7 o _=N8
   have d8:Bl C o M' (trG c1 c2 c3 c4 c5) N8:=hN8 ▸ d7.fld
   have pc:N8 c1=some (.dic (ptG kvs ss)):=by rw [<- hN8,mset_ne nc];exact pb
   clear hN8
   refine exs_nil ?_
   exact q N8 ⟨c1,c2,c3,c4,c5,_,d8.ho,pc⟩ d8.kp
local macro_rules | `(tactic| tm_at "at")=>`(tactic| ((with_reducible show EV _ _ _ (Expr.Attribute _ _ _) _);(with_reducible refine' ev_fld ?_ ?n0);(case n0=>rfl)))
local macro_rules | `(tactic| tm_at $s:str)=>namT n_aw s
theorem ok_Traveller_told (F:Fun K "told" "Traveller.told" s_aw f fd) (k:TrG K C) (h_dict:mg "dict" = none):FnOk P w K mg base CX0 1 f fd P_aw (liftSp K (spToldG C)):=by
 tm_at "F aw"
 obtain ⟨o,rfl,⟨p,t,g,pa,wo,kvs,ho,hp⟩,q⟩:=h
 refine exs_one ?_
 repeat first | tm_at "at" | k_go
 refine ⟨o,C,trG p t g pa wo,_,rfl,ho,k.cls,k.no _ (.tail _ (.tail _ (.tail _ (.tail _ (.tail _ (.tail _ (.head _))))))),rfl,?_⟩
 repeat first | tm_at "at" | k_go
 refine ⟨o,C,trG p t g pa wo,_,rfl,ho,k.cls,k.no _ (.tail _ (.tail _ (.tail _ (.tail _ (.head _))))),rfl,?_⟩
 repeat first | tm_at "at" | k_go
 refine ⟨o,C,trG p t g pa wo,_,rfl,ho,k.cls,k.no _ (.tail _ (.tail _ (.tail _ (.tail _ (.tail _ (.tail _ (.tail _ (.head _)))))))),rfl,?_⟩
 repeat first | tm_at "at" | k_go
 refine ⟨o,C,trG p t g pa wo,_,rfl,ho,k.cls,k.no _ (.head _),rfl,?_⟩
 repeat first | tm_at "at" | k_go
 refine ⟨p,_,rfl,hp,fun r hr1=>?_⟩
 repeat first | tm_at "at" | k_go
 exact q _ _ (ext_new hr1)
local macro_rules | `(tactic| tm_at $s:str)=>namT n_bd s
theorem ok_number_behind (F:Fun K "number_behind" "number_behind" s_bd f fd):FnOk P w K mg base CX0 1 f fd P_bd (liftSp K spNbG):=by
 tm_at "F bd"
 obtain ⟨o,rfl,q⟩:=h
 refine exs_cons ?_
 walk
 exact q
end
section
variable {P:Program} {w:World} {K:PySem.W.Frag} {mg:Str->Option Value} {base:Heap} {f:Addr} {fd:FuncData} {C Cg Cn Cm:Addr}
local macro_rules | `(tactic| tm_at "me")=>`(tactic| first
 | ((with_reducible show EV _ _ _ (Expr.Call (Expr.Attribute _ "told" _) [] [] _) _);(with_reducible refine' ev_meth0 ?n0 ?n1 ?n2 ?_ ?n3);(case n0=>exact C_told);(case n1=>exact hr);(case n2=>first | decide | omega);(case n3=>rfl)))
local macro_rules | `(tactic| tm_at "go")=>`(tactic| repeat first | tm_at "me" | tm_at "d" | refine exs_cons ?_)
local macro_rules | `(tactic| tm_at $s:str)=>namT n_bc s
theorem ok_walk (F:Fun K "walk" "walk" s_bc f fd) (hK:KlsX P w K mg base 3 "Traveller" C (spTravX Cg Cn Cm C)) (C_number_behind:Cal P w K mg base 1 "number_behind" spNbG) (C_told:CalM P w K mg base 1 C "told" (spToldG C)):FnOk P w K mg base (XCX P w) 6 f fd P_bc (liftX K (spWalkX Cg Cn Cm)):=by
 refine fn_X F sc_bc (fun ds M Q R ⟨a,b,c,d,e,g,h,_⟩=>by subst h;rfl) fun cdv A outer s H EE ds M Q R hr h T=>?_
 have nd:=sc_bc.nd
 try (refine let_X ?_;intro X)
 obtain ⟨cq,q0,tq,gq,kvs,ss,rfl,hc,hq,htq,hgq,h3,hnd,q⟩:=h
 refine exs_cons ?_
 lk
 with_reducible refine' ev_newX ?n0 ?n1 ?n2 ?n3 ?_ ?n4 ?n5 ?n6 ?n7
 case n0=>exact hK
 case n1=>exact hr
 case n2=>decide
 case n3=>exact T
 case n4=>rfl
 case n5=>decide
 case n6=>rfl
 case n7=>rfl
 lk
 intro o ho
 have ne:∀ {c:Addr} {u:MO},M c=some u->c≠o:=fun {c u} e z=>by rw [z,ho] at e;cases e
 refine ⟨o,q0,tq,gq,kvs,ss,rfl,mset_same,by rw [mset_ne (ne hq)];exact hq,by rw [mset_ne (ne htq)];exact htq,by rw [mset_ne (ne hgq)];exact hgq,h3,hnd,?_⟩
 cases hp:lackG kvs ss with
 | some e =>
  rw [hp] at q
  exact fun M' dx hx hdx=>q M' dx (Ext.trans (ext_new ho) hx) hdx
 | none =>
  rw [hp] at q
  intro M1 ht hk
  refine ⟨rfl,?_⟩
  have x1:Ext M M1:=fun c u e=>hk c u (ne e) (by rw [mset_ne (ne e)];exact e)
  clear hk
  refine exs_nox ?_
  tm_at "go"
  refine ex_whileN (fun k G' M'=>∃ d,G'=[some (.ref cq),some (nms ss),some (.ref q0),some (.ref tq),some (.ref gq),some (.ref o),some d]/\M'=M1/\((k=1/\d=.int 0)\/d=.non)) 1 PassesOwn.never ⟨.int 0,rfl,rfl,.inl ⟨rfl,rfl⟩⟩ ?_
  rintro kk G' M' ⟨d,rfl,rfl,⟨rfl,rfl⟩ | rfl⟩
  ·tm_at "go"
   refine ix_al (x1 _ _ hc) (d:=.tup [.str "halt"]) rfl ?_
   tm_at "go"
   refine ⟨o,rfl,?_⟩
   tm_at "go"
   exact ⟨0,by decide,.non,rfl,rfl,.inr rfl⟩
  ·tm_at "go"
   obtain ⟨p,t,g,pa,wo,kv2,ho2,hp2⟩:=ht
   refine ⟨o,_,rfl,ho2,rfl,?_⟩
   refine ⟨o,rfl,⟨p,t,g,pa,wo,kv2,ho2,hp2⟩,fun d M3 x3=>?_⟩
   exact q d M3 (Ext.trans x1 x3)
end
def flyP (G0:Ga) (M:MH) (Cg Cn Cm:Addr) (r:Option Rf):Ga->XQ:=fun G' C fs M'=>G'=G0/\∃ (e:Rf) (M1:MH) (dx0:Addr),r=some e/\C=e.c Cg Cn Cm/\fs=e.f/\Ext M M1/\M1 dx0=none/\M'=mset M1 dx0 (.att e.f)
section
variable {P:Program} {w:World} {K:PySem.W.Frag} {mg:Str->Option Value} {base:Heap} {f:Addr} {fd:FuncData} {Cg Cn Cm P0:Addr}
local macro_rules | `(tactic| tm_at "wx")=>`(tactic| ((with_reducible refine' ev_callX ?n0 ?n1 ?n2 ?n3 ?_ ?n4 ?n5 ?n6 ?n7);(case n0=>first | exact CC | exact CW);(case n1=>exact hr);(case n2=>omega);(case n3=>exact T);(case n4=>rfl);(case n5=>decide);(case n6=>rfl);(case n7=>rfl)))
local macro_rules | `(tactic| tm_at $s:str)=>namT n_br s
theorem ok_l_caught (F:Fun K "_law_caught" "_law_caught" s_br f fd) (CC:CalX P w K mg base 15 "code" (spCodeX Cg Cn Cm)) (CW:CalX P w K mg base 6 "walk" (spWalkX Cg Cn Cm)) (eE:∀ e:Rf,X1.Err K (e.c Cg Cn Cm) P0) (e0:X1.Err0 K P0) (mK:mg "KeepError" = some (.ref P0)):FnOk P w K mg base CX0 16 f fd P_br (liftSp K (spCaughtG Cg Cn Cm)):=by
 refine fn_T F sc_br (fun ds M Q ⟨a,b,c,d,e,g,i,h,_⟩=>by subst h;rfl) fun cdv A outer s H EE ds M Q hr h=>?_
 have nd:=sc_br.nd
 try (refine let_X ?_;intro X)
 obtain ⟨way,ss,rs,b,q0,kvs,r,rfl,hq0,hw,qn,qx⟩:=h
 refine ext_cons ?_
 lk
 generalize hG0:([some (.int way),some (plA ss rs b),some (.ref q0),some .non,none] : Ga)=G0
 refine ext_try (i:=4) (R:=flyP G0 M Cg Cn Cm r) ?hok rfl rfl nd rfl ?hl ?hf mK ?hg e0 ?hR
 case hl=>rfl
 case hf=>rfl
 case hg=>rfl
 case hok =>
  subst hG0
  intro pins xe' T
  rcases hw with ⟨rfl,rfl,hf,h4⟩ | ⟨rfl,rfl,h3,hnd⟩
  ·refine exs_cons ?_
   lk
   refine ifDy rfl ?_
   lk
   tm_at "wx"
   lk
   refine ⟨ss,rs,b,rfl,hf,h4,?_⟩
   cases hd:planDue ss rs b with
   | none =>
    intro q1 M' hx
    walk
    refine ifDn (by decide) ?_
    walk
    refine ext_of ?_
    lk
    exact qn hd M' hx
   | some e=>exact fun M' dx hx hdx=>⟨rfl,e,M',dx,rfl,rfl,rfl,hx,hdx,rfl⟩
  ·refine exs_cons ?_
   walk
   refine ifDn (by decide) ?_
   walk
   tm_at "wx"
   lk
   intro cq hcq
   lk
   refine ix_at rfl ?_
   lk
   intro tq htq
   lk
   intro gq hgq
   lk
   have x1:=ext_new (o:=.lst [.tup [.str "halt"]]) hcq
   have x2:=ext_new (o:=.lst []) htq
   have x3:=ext_new (o:=.lst []) hgq
   have x:=Ext.trans x1 (Ext.trans x2 x3)
   refine ⟨cq,q0,tq,gq,kvs,ss,rfl,x3 _ _ (x2 _ _ mset_same),x _ _ hq0,x3 _ _ mset_same,mset_same,h3,hnd,?_⟩
   cases hd:lackG kvs ss with
   | none =>
    intro d M' hx
    walk
    refine ext_of ?_
    lk
    exact qn hd M' (Ext.trans x hx)
   | some e=>exact fun M' dx hx hdx=>⟨rfl,e,M',dx,rfl,rfl,rfl,Ext.trans x hx,hdx,rfl⟩
 case hR =>
  rintro G1 C fs M1 ⟨rfl,e,M2,dx0,hd,rfl,rfl,hx,hdx0,rfl⟩
  subst hG0
  refine ⟨eE e,fun a dx ha hdx hne=>?_⟩
  lk
  show EXt _ _ _ _ _
  refine ext_of ?_
  lk
  refine qx e hd a dx _ (fun b o hb ho=>?_) mset_same (by rw [mset_ne hne,mset_same]) hne
  have hb:=hx _ _ hb
  have hb0:b≠dx0:=fun z=>by rw [z,hdx0] at hb;cases hb
  have hb1:mset M2 dx0 (.att e.f) b=some o:=by rw [mset_ne hb0];exact hb
  have hba:b≠a:=fun z=>by rw [z,ha] at hb1;cases hb1
  rw [mset_ne hba]
  by_cases hbd:b=dx
  ·subst hbd
   rcases hdx with z | ⟨fs',z⟩
   ·rw [hb1] at z;cases z
   ·rw [hb1] at z;cases z;exact absurd rfl (ho fs')
  ·rw [mset_ne hbd];exact hb1
end
theorem gen2 {M:MH} {p1 p2:Addr} {o1 o2:MO} {C:MH->Prop} (h1:M p1=none) (h2:mset M p1 o1 p2=none) (k:∀ M2,Ext M M2->C M2):C (mset (mset M p1 o1) p2 o2):=k _ (Ext.trans (ext_new h1) (ext_new h2))
structure Kinds (K:PySem.W.Frag) (Cg Cn Cm cl ct:Addr):Prop where
 kn:∀ e:Rf,X1.Knd K (e.c Cg Cn Cm)
 kv:∀ e:Rf,PySem.W.kitOne K (.ref (e.c Cg Cn Cm)) (.type "ValueError")=some true
 ka:∀ e:Rf,PySem.W.kitAny K (.ref (e.c Cg Cn Cm)) [.ref cl,.ref ct]=some false
 kg:∀ e:Rf,PySem.W.kitOne K (.ref (e.c Cg Cn Cm)) (.ref Cg)=some (match e with | .great _ _=>true | _=>false)
 kN:∀ e:Rf,PySem.W.kitOne K (.ref (e.c Cg Cn Cm)) (.ref Cn)=some (match e with | .name _=>true | _=>false)
 km:∀ e:Rf,PySem.W.kitOne K (.ref (e.c Cg Cn Cm)) (.ref Cm)=some (match e with | .meas _=>true | _=>false)
section
variable {P:Program} {w:World} {K:PySem.W.Frag} {mg:Str->Option Value} {base:Heap} {f:Addr} {fd:FuncData} {Cg Cn Cm cl ct P0:Addr}
local macro_rules | `(tactic| tm_at "me")=>`(tactic| first
 | ((with_reducible show EV _ _ _ (Expr.Compare (Expr.List _ _) [CmpOp.Eq] _ _) _);(with_reducible refine lx_eq ?n0 ?_);(case n0=>exact hr.units))
 | ((with_reducible show TV _ _ _ (Expr.Compare (Expr.Name "_law_found" _) [CmpOp.NotEq] _ _) _);(with_reducible refine lxt_ne ?n0 ?_);(case n0=>exact hr.units)))
local macro_rules | `(tactic| tm_at "ix")=>`(tactic| ((with_reducible refine' ev_isX ?n0 ?_ ?n1 ?n2 ?n3);(case n0=>exact hIsi);(case n1=>rfl);(case n2=>rfl);(case n3=>rfl)))
local macro_rules | `(tactic| tm_at "iy")=>`(tactic| ((with_reducible refine' ev_isXT ?n0 ?_ ?n1 ?n2 ?n3);(case n0=>exact hIsi);(case n1=>rfl);(case n2=>rfl);(case n3=>rfl)))
local macro_rules | `(tactic| tm_at "ic")=>`(tactic| first
 | ((with_reducible show EV _ _ _ (Expr.Name "ValueError" _) _);(with_reducible refine' ev_gty ?n0 ?n1 ?_ ?n2 ?n3 ?n4);(case n0=>exact hVE);(case n1=>exact bootVE);(case n2=>rfl);(case n3=>decide);(case n4=>decide))
 | ((with_reducible show EV _ _ _ (Expr.Name "NoLoop" _) _);(with_reducible refine' ev_cls ?n0 ?_ ?n1 ?n2);(case n0=>exact ml);(case n1=>rfl);(case n2=>decide))
 | ((with_reducible show EV _ _ _ (Expr.Name "NoText" _) _);(with_reducible refine' ev_cls ?n0 ?_ ?n1 ?n2);(case n0=>exact mt);(case n1=>rfl);(case n2=>decide))
 | ((with_reducible show EV _ _ _ (Expr.Name "TooGreat" _) _);(with_reducible refine' ev_cls ?n0 ?_ ?n1 ?n2);(case n0=>exact m1);(case n1=>rfl);(case n2=>decide))
 | ((with_reducible show EV _ _ _ (Expr.Name "NoName" _) _);(with_reducible refine' ev_cls ?n0 ?_ ?n1 ?n2);(case n0=>exact m2);(case n1=>rfl);(case n2=>decide))
 | ((with_reducible show EV _ _ _ (Expr.Name "NoMeasure" _) _);(with_reducible refine' ev_cls ?n0 ?_ ?n1 ?n2);(case n0=>exact m3);(case n1=>rfl);(case n2=>decide)))
local macro_rules | `(tactic| tm_at "go")=>`(tactic| repeat first | tm_at "me" | tm_at "d" | refine exs_cons ?_)
local macro_rules | `(tactic| tm_at $s:str)=>namT n_bs s
theorem ok_l_refused (F:Fun K "_law_refused" "_law_refused" s_bs f fd) (hIsi:mg "isinstance" = none) (hVE:mg "ValueError" = none) (m1:mg "TooGreat" = some (.ref Cg)) (m2:mg "NoName" = some (.ref Cn)) (m3:mg "NoMeasure" = some (.ref Cm)) (ml:mg "NoLoop" = some (.ref cl)) (mt:mg "NoText" = some (.ref ct))
  (kd:Kinds K Cg Cn Cm cl ct) (x1:ErrF K Cg P0 "number") (x2':ErrF K Cg P0 "most") (x3:ErrF K Cn P0 "name") (x4:ErrF K Cm P0 "place"):FnOk P w K mg base CX0 1 f fd P_bs (liftSp K (spRefusedG Cg Cn Cm)):=by
 tm_at "F bs"
 obtain ⟨a,dx,p0,e,rfl,hp0,hoe,ha,hdx,hne,q⟩:=h
 ·have e1:Ext M M:=Ext.refl _
  have kn:=kd.kn e
  have kv:=kd.kv e
  have ka:=kd.ka e
  have kg:=kd.kg e
  have kN:=kd.kN e
  have km:=kd.km e
  tm_at "go"
  tm_at "ix"
  repeat first | tm_at "me" | k_go | tm_at "ic"
  refine ⟨a,_,some dx,false,true,ha,⟨_,hdx⟩,kn,.inr ⟨"ValueError",rfl,kv⟩,?_⟩
  tm_at "go"
  tm_at "iy"
  repeat first | tm_at "me" | k_go | tm_at "ic"
  refine ⟨a,_,some dx,false,false,[cl,ct],ha,⟨_,hdx⟩,kn,rfl,ka,?_⟩
  tm_at "go"
  tm_at "ix"
  repeat first | tm_at "me" | k_go | tm_at "ic"
  refine ⟨a,_,some dx,false,_,ha,⟨_,hdx⟩,kn,.inl ⟨Cg,rfl,kg⟩,?_⟩
  tm_at "go"
  tm_at "ix"
  repeat first | tm_at "me" | k_go | tm_at "ic"
  refine ⟨a,_,some dx,false,_,ha,⟨_,hdx⟩,kn,.inl ⟨Cn,rfl,kN⟩,?_⟩
  tm_at "go"
  tm_at "ix"
  repeat first | tm_at "me" | k_go | tm_at "ic"
  refine ⟨a,_,some dx,false,_,ha,⟨_,hdx⟩,kn,.inl ⟨Cm,rfl,km⟩,?_⟩
  tm_at "go"
  intro p1 hp1
  cases e with
  | great n m =>
   tm_at "go"
   refine ix_al (d:=.str "great") (mset_old hp1 hp0) rfl ?_
   tm_at "go"
   refine ix_al (d:=.str "great") (mset_old hp1 hp0) rfl ?_
   tm_at "go"
   refine ix_al (d:=.str "great") (mset_old hp1 hp0) rfl ?_
   tm_at "go"
   intro p2 hp2
   refine eqx_l (mset_old hp2 mset_same) mset_same rfl rfl (by show PyData.depthAll (pdL [D.bl true,D.bl false,D.bl false])<=59;decide) ?_
   refine ifNT ?_
   refine gen2 (C:=fun M=>EXs _ _ M _ _) hp1 hp2 fun M2 x2=>?_
   have e2:=Ext.trans e1 x2
   have hp0:=x2 _ _ hp0
   have ha:=x2 _ _ ha
   have hdx:=x2 _ _ hdx
   tm_at "go"
   refine ix_al (d:=.str "great") hp0 rfl ?_
   tm_at "go"
   try refine ifDy rfl ?_
   tm_at "go"
   with_reducible refine' ev_fldX ?_ ?n0
   case n0=>rfl
   tm_at "go"
   refine ⟨a,Cg,P0,dx,false,_,.int n,rfl,ha,hne,hdx,x1,rfl,?_⟩
   tm_at "go"
   with_reducible refine' ev_fldX ?_ ?n0
   case n0=>rfl
   tm_at "go"
   refine ⟨a,Cg,P0,dx,false,_,.int m,rfl,ha,hne,hdx,x2',rfl,?_⟩
   tm_at "go"
   intro p3 hp3
   refine ev_slice sl_list ?_
   tm_at "go"
   refine ov_some ?_
   tm_at "go"
   refine ov_none ?_
   refine rs_list rfl (Or.inl (mset_old hp3 hp0)) fun p4 hp4=>?_
   rw [cut1]
   refine eqx_same (xs:=[.int n,.int m]) (mset_old hp4 mset_same) mset_same rfl (by simp [pdL,pd,PyData.depthAll,PyData.depth]) ?_
   exact q _ (Ext.trans e2 (Ext.trans (ext_new hp3) (ext_new hp4)))
  | name x =>
   tm_at "go"
   refine ix_al (d:=.str "name") (mset_old hp1 hp0) rfl ?_
   tm_at "go"
   refine ix_al (d:=.str "name") (mset_old hp1 hp0) rfl ?_
   tm_at "go"
   refine ix_al (d:=.str "name") (mset_old hp1 hp0) rfl ?_
   tm_at "go"
   intro p2 hp2
   refine eqx_l (mset_old hp2 mset_same) mset_same rfl rfl (by show PyData.depthAll (pdL [D.bl false,D.bl true,D.bl false])<=59;decide) ?_
   refine ifNT ?_
   refine gen2 (C:=fun M=>EXs _ _ M _ _) hp1 hp2 fun M2 x2=>?_
   have e2:=Ext.trans e1 x2
   have hp0:=x2 _ _ hp0
   have ha:=x2 _ _ ha
   have hdx:=x2 _ _ hdx
   tm_at "go"
   refine ix_al (d:=.str "name") hp0 rfl ?_
   tm_at "go"
   refine ifDn (by decide +kernel) ?_
   tm_at "go"
   refine ix_al (d:=.str "name") hp0 rfl ?_
   tm_at "go"
   try refine ifDy rfl ?_
   tm_at "go"
   with_reducible refine' ev_fldX ?_ ?n0
   case n0=>rfl
   tm_at "go"
   refine ⟨a,Cn,P0,dx,false,_,.str x,rfl,ha,hne,hdx,x3,rfl,?_⟩
   tm_at "go"
   refine ix_al (d:=.str x) hp0 rfl ?_
   tm_at "go"
   rw [decide_eq_true rfl]
   exact q _ e2
  | meas pc =>
   tm_at "go"
   refine ix_al (d:=.str "measure") (mset_old hp1 hp0) rfl ?_
   tm_at "go"
   refine ix_al (d:=.str "measure") (mset_old hp1 hp0) rfl ?_
   tm_at "go"
   refine ix_al (d:=.str "measure") (mset_old hp1 hp0) rfl ?_
   tm_at "go"
   intro p2 hp2
   refine eqx_l (mset_old hp2 mset_same) mset_same rfl rfl (by show PyData.depthAll (pdL [D.bl false,D.bl false,D.bl true])<=59;decide) ?_
   refine ifNT ?_
   refine gen2 (C:=fun M=>EXs _ _ M _ _) hp1 hp2 fun M2 x2=>?_
   have e2:=Ext.trans e1 x2
   have hp0:=x2 _ _ hp0
   have ha:=x2 _ _ ha
   have hdx:=x2 _ _ hdx
   tm_at "go"
   refine ix_al (d:=.str "measure") hp0 rfl ?_
   tm_at "go"
   refine ifDn (by decide +kernel) ?_
   tm_at "go"
   refine ix_al (d:=.str "measure") hp0 rfl ?_
   tm_at "go"
   refine ifDn (by decide +kernel) ?_
   tm_at "go"
   with_reducible refine' ev_fldX ?_ ?n0
   case n0=>rfl
   tm_at "go"
   refine ⟨a,Cm,P0,dx,false,_,pcD pc,rfl,ha,hne,hdx,x4,rfl,?_⟩
   tm_at "go"
   refine ix_al (d:=pcD pc) hp0 rfl ?_
   tm_at "go"
   refine eq_self' rfl rfl (imm_pc pc) (Nat.le_trans (dep_pc pc) (by decide)) ?_
   exact q _ e2
end
def spLaw:SpD:=fun ds M Q=>∃ (l:Addr) (ns:List Int),ds=[.ref l]/\M l=some (.ro (ns.map D.int))/\ns.length<=63/\(∀ n∈ns,Cell n)/\∀ M',Q (.bl true) M'
theorem lawSp:LawSp spLaw:=fun l ns M Q h1 h2 h3 q=>⟨l,ns,rfl,h1,h2,h3,q⟩
theorem first_of {α:Type} {p:α->Bool}:∀ {l:List α},(∃ x∈l,p x=true)->∃ x r,l.filter p=x :: r/\x∈l/\p x=true
 | [],h=>by obtain ⟨x,hx,_⟩:=h;cases hx
 | a :: l,h=>by
  by_cases ha:p a=true
  ·exact ⟨a,l.filter p,by rw [List.filter_cons,if_pos ha],List.mem_cons_self ..,ha⟩
  ·obtain ⟨x,hx,hp⟩:=h
   rcases List.mem_cons.mp hx with rfl | hx
   ·exact absurd hp ha
   ·obtain ⟨y,r,h1,h3,h4⟩:=first_of (l:=l) ⟨x,hx,hp⟩
    exact ⟨y,r,by rw [List.filter_cons,if_neg ha];exact h1,List.mem_cons_of_mem _ h3,h4⟩
def notInP (ss:List Str):D->Bool
 | .str x=>!decide (x∈ss)
 | _=>false
theorem spare_of {ss:List Str} (h:ss.length<=3):∃ x r,(((Str.cps "qjxz").toList.map fun c=>D.str ⟨#[c]⟩).filter (notInP ss)).map (fun d=>d)=D.str x :: r/\PyData.strOk x=true/\x∉ss:=by
 rw [List.map_id']
 have e:(Str.cps "qjxz").toList.map (fun c=>D.str ⟨#[c]⟩)=[(⟨#[113]⟩:Str),⟨#[106]⟩,⟨#[120]⟩,⟨#[122]⟩].map D.str:=by
  have:(Str.cps "qjxz").toList=[113,106,120,122]:=by decide +kernel
  rw [this];rfl
 rw [e]
 have hx:∃ x∈[(⟨#[113]⟩:Str),⟨#[106]⟩,⟨#[120]⟩,⟨#[122]⟩].map D.str,notInP ss x=true:=by
  refine Classical.byContradiction fun hn=>?_
  have:=len_sub5 (l:=[(⟨#[113]⟩:Str),⟨#[106]⟩,⟨#[120]⟩,⟨#[122]⟩]) (m:=ss) (by decide +kernel) fun x hx=>Classical.byContradiction fun z=>hn ⟨.str x,List.mem_map.mpr ⟨x,hx,rfl⟩,by simp [notInP,z]⟩
  simp at this
  omega
 obtain ⟨x,r,h1,h3,h4⟩:=first_of hx
 obtain ⟨y,hy,rfl⟩:=List.mem_map.mp h3
 refine ⟨y,r,h1,?_,by simpa [notInP] using h4⟩
 simp at hy
 rcases hy with rfl | rfl | rfl | rfl<;>decide +kernel
theorem caught0 {Cg Cn Cm:Addr} {ss:List Str} {rs:List Rw} {b:List Stm} {M:MH} {Q:DK} {q0:Addr} {kvs:List (Str × D)} (hq:M q0=some (.dic kvs)) (hf:Fine rs b) (h4:planDue ss rs b=none->dps b<=4/\(tts b).s<=24) (qn:planDue ss rs b=none->∀ M',Ext M M'->Q .non M') (qx:∀ e,planDue ss rs b=some e->∀ a dx M',ExtE M M'->M' a=some (.exc (e.c Cg Cn Cm) (some dx) false)->M' dx=some (.att e.f)->dx≠a->Q (.ref a) M'):spCaughtG Cg Cn Cm [.int 0,plA ss rs b,.ref q0] M Q :=
 ⟨0,ss,rs,b,q0,kvs,_,rfl,hq,.inl ⟨rfl,rfl,hf,h4⟩,qn,qx⟩
section
variable {P:Program} {w:World} {K:PySem.W.Frag} {mg:Str->Option Value} {base:Heap} {f:Addr} {fd:FuncData} {Cg Cn Cm:Addr}
local macro_rules | `(tactic| tm_at "me")=>`(tactic| first
 | ((with_reducible show EV _ _ _ (Expr.BinOp (Expr.Tuple _ _ _) Operator.Mult _ _) _);with_reducible refine ev_repT9 ?_)
 | ((with_reducible show EV _ _ _ (Expr.BinOp (Expr.Name "_law_block_here" _) Operator.Add _ _) _);with_reducible refine ev_addT ?_)
 | ((with_reducible show TV _ _ _ (Expr.Compare (Expr.Name "_law_lacks" _) [CmpOp.Eq] _ _) _);(with_reducible refine lxt_eq ?n0 ?_);(case n0=>exact hr.units))
 | ((with_reducible show TV _ _ _ (Expr.Compare (Expr.Name "_law_lacks" _) [CmpOp.NotEq] _ _) _);(with_reducible refine lxt_ne ?n0 ?_);(case n0=>exact hr.units)))
local macro_rules | `(tactic| tm_at "go")=>`(tactic| repeat first | tm_at "me" | tm_at "d" | refine exs_cons ?_)
local macro_rules | `(tactic| tm_at "n0")=>`(tactic| (refine ix_at (ds:=(x :: sr).map D.str) (d:=.str x) (atI_nat (j:=0) rfl) ?_))
local macro_rules | `(tactic| tm_at $s:str)=>namT n_bu s
theorem ok_law (F:Fun K "law" "law" s_bu f fd) (h_tuple:mg "tuple" = none) (hSorted:mg "sorted" = none) (hSet:mg "set" = none) (C_l_names:Cal P w K mg base 1 "_law_names" spNames) (C_l_cell:Cal P w K mg base 1 "_law_cell" spCell) (C_l_plan:Cal P w K mg base 15 "_law_plan" spPlan) (C_l_caught:Cal P w K mg base 16 "_law_caught" (spCaughtG Cg Cn Cm)) (C_l_refused:Cal P w K mg base 1 "_law_refused" (spRefusedG Cg Cn Cm)) (C_l_lacking:Cal P w K mg base 1 "_law_lacking" spLackG) :
  FnOk P w K mg base CX0 17 f fd P_bu (liftSp K spLaw):=by
 tm_at "F bu"
 obtain ⟨l,ns,rfl,hl,h63,hcell,q⟩:=h
 refine exs_cons ?_
 lk
 refine ⟨l,ns,_,rfl,hl,hcell,h63,by decide,fun c0 hc0=>?_⟩
 lk
 refine ⟨_,rfl,hc0,fun ss M1 hss k1=>?_⟩
 lk
 with_reducible refine' ev_comp_str (own:=["_law_letter"]) (js:=[1]) (N:=["_law_letter", "_law_names_here"]) ?T ?xe ?ca (fun d=>d) (notInP ss) ?_ ?hs
 case T=>exact compOk_freeB (fs:=["_law_names_here"]) rfl (by decide +kernel) (by decide +kernel) rfl rfl rfl rfl rfl
 case xe=>rfl
 case ca=>rfl
 case hs=>(intro _;rfl)
 lk
 refine ⟨_,rfl,by decide +kernel,by decide +kernel,?_,?_⟩
 ·rintro Y ⟨C',s',H',fp,rfl⟩ M' hM c hc
  refine gv_name 0 (by show (["_law_letter", "_law_names_here"] : List Str).Nodup;decide +kernel) ?_
  refine ⟨rfl,fun i d e=>?_,?_,fun _=>?_⟩
  ·rcases i with _ | i
   ·simp [compG] at e
   ·exact e
  ·repeat first | (refine ev_var 0 ?_) | (refine ev_var 1 ?_) | k_go
   exact ⟨rfl,rfl⟩
  ·refine ev_var 0 ?_
   exact ⟨rfl,rfl⟩
 intro p0 hp0
 obtain ⟨spare,rest,hsp,hspn,hsps⟩:=spare_of hss.le
 rw [hsp]
 lk
 refine ix_al (d:=.str spare) mset_same (atI_nat (j:=0) rfl) ?_
 have k2:Ext M (mset M1 p0 (.lst (D.str spare :: rest))):=Ext.trans k1 (ext_new hp0)
 generalize mset M1 p0 (.lst (D.str spare :: rest))=M2 at k2 ⊢
 clear k1 hp0 hsp
 lk
 refine ev_slice sl_list ?_
 lk
 refine ov_some ?_
 lk
 refine ov_some ?_
 lk
 refine rs_list rfl (Or.inr (k2 _ _ hl)) fun p1 hp1=>?_
 have ec:D3.cutD (ns.map D.int) (some 2) (some 40)=((ns.take 40).drop 2).map D.int:=cut_mid ns 2 40
 rw [ec]
 have hcs:Cells ((ns.take 40).drop 2):=⟨by rw [List.length_drop,List.length_take];omega,fun x hx=>hcell x (List.mem_of_mem_take (List.mem_of_mem_drop hx))⟩
 lk
 refine ⟨l,ns,_,rfl,mset_old hp1 (k2 _ _ hl),hcell,h63,by decide,fun c1 hc1=>?_⟩
 lk
 refine ⟨p1,_,c1,ss,rfl,mset_same,hcs,hc1,hss,fun p M3 hp hps e2=>?_⟩
 have k3:Ext M M3:=Ext.trans k2 (Ext.trans (ext_new hp1) e2)
 clear e2 hp1 k2
 tm_at "go"
 refine ev_slice sl_all ?_
 lk
 with_reducible refine' ev_sortedSet ?n0 ?n1 ?_ ?n2 ?n3 ?n4
 case n0=>rfl
 case n1=>exact hSorted
 case n2=>rfl
 case n3=>rfl
 case n4=>rfl
 refine av_cons ?_ rfl
 with_reducible refine' ev_setT ?n0 ?n1 ?_ ?n2 ?n3 ?n4
 case n0=>rfl
 case n1=>exact hSet
 case n2=>rfl
 case n3=>rfl
 case n4=>rfl
 repeat (first | (with_reducible refine ev_addT ?_) | k_go)
 have hle:=hss.le
 have hpos:=hss.pos
 refine ⟨ss.map D.str,[Str.ofString "b",Str.ofString "m",Str.ofString "k",Str.ofString "t"].map D.str,rfl,rfl,small (by rw [List.length_map,List.length_map];show _+4<=_;omega),?_⟩
 lk
 refine ⟨ss++[Str.ofString "b",Str.ofString "m",Str.ofString "k",Str.ofString "t"],by rw [List.map_append],by rw [List.length_append];show _+4<=_;omega,fun r s2 hr2 hnd2 hl2 hmem=>?_⟩
 have h4:4<=s2.length:=by
  have:=len_sub5 (l:=[Str.ofString "b",Str.ofString "m",Str.ofString "k",Str.ofString "t"]) (m:=s2) (by decide +kernel) fun x hx=>(hmem x).mpr (List.mem_append_right _ hx)
  exact this
 have h7:s2.length<=7:=by
  have:=len_sub5 hnd2 fun x hx=>(hmem x).mp hx
  rw [List.length_append] at this
  have:s2.length<=ss.length+4:=this
  omega
 lk
 refine ⟨r,s2,rfl,mset_same,by omega,by omega,fun r2 s4 hr4 hpm hso=>?_⟩
 lk
 refine ⟨_,rfl,_,mset_same,?_⟩
 lk
 refine ov_none ?_
 refine ov_some ?_
 lk
 refine rs_tupA rfl ?_
 have ec4:D3.cutD (s4.map D.str) none (some 4)=(s4.take 4).map D.str:=by have:=cutG (s4.map D.str) 4;rw [<- List.map_take] at this;exact this
 rw [ec4]
 have hfour:(s4.take 4).length=4:=by rw [List.length_take,hpm.length_eq];omega
 have hnd4:(s4.take 4).Nodup:=(hpm.nodup_iff.mpr hnd2).sublist (List.take_sublist 4 s4)
 generalize s4.take 4=four at hfour hnd4 ⊢
 have k4:=Ext.trans k3 (Ext.trans (ext_new hr2) (ext_new (o:=.lst (s4.map D.str)) hr4))
 generalize mset (mset M3 r _) r2 (.lst (s4.map D.str))=M4 at k4 ⊢
 clear k3 hr2 hr4 hpm hso hnd2 hmem h4 h7
 obtain ⟨x,sr,rfl⟩:∃ x sr,ss=x :: sr:=by
  cases ss with
  | nil=>exact absurd hpos (by decide)
  | cons x r=>exact ⟨x,r,rfl⟩
 tm_at "go"
 tm_at "n0"
 tm_at "go"
 tm_at "n0"
 tm_at "go"
 have eR:D.tup [.str "least",.tup [.tup [.str x,.int 1]],.int 2]=rwD (rowG x):=rfl
 have eL:D.tup [.str "while",.tup [.str "least",.tup [.tup [.str x,.int 1]],.int 2],.tup [],.tup [.tup [.tup [],.int 3,.int 1],.int 1],.tup [.tup [.str "set",.str x,.tup [.tup [],.int 1,.int 1]],.tup [.str "while",.tup [.str "least",.tup [.tup [.str x,.int 1]],.int 2],.tup [],.non,.tup []]]]=stD (lpG x):=by
  simp only [lpG,setG,stD,stDs];rfl
 rw [eL]
 intro pd hpd
 have xd:=ext_new (o:=.dic []) hpd
 tm_at "go"
 refine caught0 (ss:=p.ss) (rs:=p.rs) (b:=p.bl) mset_same (hp.pl.fine (by decide)) (fun _=>⟨dps_le hp.dp,hp.cs⟩) (fun _ M5 x5=>?_) (fun e he=>by rw [hp.due] at he;cases he)
 have k5:=Ext.trans k4 (Ext.trans xd x5)
 clear x5 xd k4 hpd
 tm_at "go"
 refine ev_slice sl_all ?_
 tm_at "go"
 refine ix_at (ds:=[nms p.ss,.tup (p.rs.map rwD),.tup (stDs p.bl)]) (d:=.tup (stDs p.bl)) rfl ?_
 tm_at "go"
 refine ov_none ?_
 refine ov_some ?_
 tm_at "go"
 refine rs_tupA rfl ?_
 have ec3:D3.cutD (stDs p.bl) none (some 3)=stDs (p.bl.take 3):=by have:=cutG (stDs p.bl) 3;rw [stDs_map,<- List.map_take,<- stDs_map,<- stDs_map] at this;exact this
 rw [ec3]
 tm_at "go"
 intro pd hpd
 have xd:=ext_new (o:=.dic []) hpd
 tm_at "go"
 refine caught0 (ss:=four) (rs:=[]) (b:=p.bl.take 3) mset_same ((hp.pl.fine (by decide)).take 3) (fun h=>by rw [due_four hfour] at h;cases h) (fun h=>by rw [due_four hfour] at h;cases h) (fun e he a dx M6 x6 ha hdx hne=>?_)
 rw [due_four hfour] at he
 cases he
 have k6:=ExtE.trans (extE (Ext.trans k5 xd)) x6
 clear x6 xd k5 hpd
 tm_at "go"
 intro pl hpl
 have xl:=ext_new (o:=.lst [.str "great",.int 4,.int 3]) hpl
 tm_at "go"
 refine ⟨a,dx,pl,.great 4 3,rfl,mset_same,trivial,xl _ _ ha,xl _ _ hdx,hne,fun M7 x7=>?_⟩
 have k7:=ExtE.trans k6 (extE (Ext.trans xl x7))
 clear xl x7 k6 hpl ha hdx hne
 tm_at "go"
 refine ⟨l,ns,_,rfl,k7 _ _ hl (fun _ z=>by cases z),hcell,h63,by decide,fun c2 hc2=>?_⟩
 have bc2:=hc2.bd
 tm_at "go"
 have h3:=fmod_lt (a:=c2) (b:=3) (by decide)
 obtain ⟨k,hk⟩:∃ k:Nat,c2.fmod 3=(k:Int):=⟨(c2.fmod 3).toNat,by omega⟩
 rw [hk]
 have hk2:k<=2:=by omega
 tm_at "n0"
 tm_at "go"
 refine ⟨_,k,rfl,rfl,by simp,by omega,Nat.le_of_ble_eq_true rfl,?_⟩
 tm_at "go"
 have el1:stDs [lpG x]=[stD (lpG x)]:=by simp only [stDs]
 have eb:=blk_D x [lpG x] k
 rw [el1] at eb
 have hbl:(List.replicate k [D.tup [.str "set",.str x,.tup [.tup [],.int 2,.int 1]]]).flatten.length<=100:=by rw [List.length_flatten,List.map_replicate,List.sum_replicate_nat];show k * 1<=100;omega
 refine ⟨_,_,rfl,rfl,small (by show _+1<=1000;omega),?_⟩
 rw [eb]
 tm_at "go"
 intro pd hpd
 have xd:=ext_new (o:=.dic []) hpd
 tm_at "go"
 have hx:x∈x :: sr:=List.mem_cons_self ..
 have due1:=due_meas hx hle hk2
 refine caught0 (ss:=x :: sr) (rs:=[]) (b:=blkG x k [lpG x]) mset_same (fine_meas hk2) (fun h=>by rw [due1] at h;cases h) (fun h=>by rw [due1] at h;cases h) (fun e he a dx M8 x8 ha hdx hne=>?_)
 rw [due1] at he
 cases he
 have k8:=ExtE.trans (ExtE.trans k7 (extE xd)) x8
 clear x8 xd k7 hpd
 tm_at "go"
 intro pl hpl
 have xl:=ext_new (o:=.lst [.str "measure",.tup [.int (k:Int)]]) hpl
 tm_at "go"
 refine ⟨a,dx,pl,.meas [k],rfl,mset_same,trivial,xl _ _ ha,xl _ _ hdx,hne,fun M9 x9=>?_⟩
 have k9:=ExtE.trans k8 (extE (Ext.trans xl x9))
 clear xl x9 k8 hpl ha hdx hne
 tm_at "go"
 have el2:stDs [setG spare 1,lpG x]=[.tup [.str "set",.str spare,.tup [.tup [],.int 1,.int 1]],stD (lpG x)]:=by simp only [stDs,set_D]
 have eb2:=blk_D x [setG spare 1,lpG x] k
 rw [el2] at eb2
 refine ⟨_,_,rfl,rfl,small (by show _+2<=1000;omega),?_⟩
 rw [eb2]
 tm_at "go"
 intro pd hpd
 have xd:=ext_new (o:=.dic []) hpd
 tm_at "go"
 have due2:=due_name hx hsps hle hk2
 refine caught0 (ss:=x :: sr) (rs:=[]) (b:=blkG x k [setG spare 1,lpG x]) mset_same (fine_name hk2) (fun h=>by rw [due2] at h;cases h) (fun h=>by rw [due2] at h;cases h) (fun e he a dx M8 x8 ha hdx hne=>?_)
 rw [due2] at he
 cases he
 have k8:=ExtE.trans (ExtE.trans k9 (extE xd)) x8
 clear x8 xd k9 hpd
 tm_at "go"
 intro pl hpl
 have xl:=ext_new (o:=.lst [.str "name",.str spare]) hpl
 tm_at "go"
 refine ⟨a,dx,pl,.name spare,rfl,mset_same,hspn,xl _ _ ha,xl _ _ hdx,hne,fun M9 x9=>?_⟩
 have k9:=ExtE.trans k8 (extE (Ext.trans xl x9))
 clear xl x9 k8 hpl ha hdx hne due1 due2 eb eb2 el1 el2 hbl
 tm_at "go"
 generalize D.tup (four.map D.str)=g4
 generalize D.tup [.str "least",.tup [.tup [.str x,.int 1]],.int 2]=g5
 generalize stD (lpG x)=g6
 generalize D.tup (List.replicate k [D.tup [.str "set",.str x,.tup [.tup [],.int 2,.int 1]]]).flatten=g8
 with_reducible refine' ex_for_list ?n0 ?n1 ?_ ?n2
 case n0=>exact PassesOwn.never
 case n1=>rfl
 case n2=>(intro _;rfl)
 lk
 intro p3 hp3
 have m4:mset M9 p3 (.lst [.int 0,.int 1,.int 2,.int 3,.int 4,.int 5,.int 6,.int 7]) p3=some (.lst [.int 0,.int 1,.int 2,.int 3,.int 4,.int 5,.int 6,.int 7]):=mset_same
 generalize mset M9 p3 _=M4 at m4 ⊢
 clear hp3 k9
 lk
 refine ⟨p3,[.int 0,.int 1,.int 2,.int 3,.int 4,.int 5,.int 6,.int 7],fun i G' M'=>∃ r9 r10 r11 r12:Option D,G'=[some (.ref l),some (nms (x :: sr)),some (.str spare),some (plD p),some g4,some g5,some g6,some (.int k),some g8,r9,r10,r11,r12]/\ExtE M4 M',rfl,Or.inl m4,⟨none,none,none,none,rfl,fun _ _ z _=>z⟩,?_,?_,?_⟩
 ·rintro i G' M' hi ⟨r9,r10,r11,r12,rfl,hM⟩
  rw [m4];exact hM _ _ m4 (fun _ z=>by cases z)
 ·rintro i d G' M' hd ⟨r9,r10,r11,r12,rfl,hM⟩
  obtain ⟨c,rfl,hc0',hc7⟩:∃ c:Int,d=.int c/\0<=c/\c<=7:=by
   have:=List.mem_of_getElem? hd
   simp only [List.mem_cons,List.not_mem_nil,or_false] at this
   rcases this with rfl | rfl | rfl | rfl | rfl | rfl | rfl | rfl<;>exact ⟨_,rfl,by decide,by decide⟩
  refine gv_name 9 nd ?_
  try (refine let_E ?_;intro EL)
  tm_at "go"
  refine ⟨x :: sr,c,rfl,hle,hc0',hc7,fun sq kvs M1 hsq x1=>?_⟩
  have hM1:=ExtE.trans hM (extE x1)
  clear x1 hM
  tm_at "go"
  with_reducible refine' ex_comp_tup 11 (own:=["_law_name"]) (js:=[10]) (N:=["_law_name", "_law_start"]) ?T ?xe ?ca ?hN ?hj ?hy ?hyf ?hsw (fun d=>d) (lkG kvs) ?_ ?hs
  case T=>exact compOk_freeB (fs:=["_law_start"]) rfl (by decide +kernel) (by decide +kernel) rfl rfl rfl rfl rfl
  case xe=>rfl
  case ca=>rfl
  case hN=>exact nd
  case hj=>rfl
  case hy=>first | exact Or.inl rfl | exact Or.inr rfl
  case hyf=>exact .inl rfl
  case hsw=>rfl
  case hs=>(intro _;rfl)
  lk
  refine ⟨(x :: sr).map D.str,rfl,small (by rw [List.length_map];omega),?_,fun lq hlq=>?_⟩
  ·rintro Y ⟨C',s',H',fp,rfl⟩ M2 hM2 d hd
   obtain ⟨y,hy,rfl⟩:=List.mem_map.mp hd
   have nd2:(["_law_name", "_law_start"] : List Str).Nodup:=by decide +kernel
   refine gv_name 0 nd2 ?_
   refine ⟨rfl,fun i d e=>?_,?_,fun _=>?_⟩
   ·rcases i with _ | i
    ·simp [compG] at e
    ·exact e
   ·repeat first | (refine ev_var 0 ?_) | (refine ev_var 1 ?_) | k_go
    refine in_d (hM2 _ _ hsq) ?_
    exact ⟨rfl,by show _=(lkD kvs y).isNone;cases lkD kvs y<;>rfl⟩
   ·refine ev_var 0 ?_
    exact ⟨rfl,rfl⟩
  rw [lacks_map]
  have hlk:∀ s∈lacksG kvs (x :: sr),PyData.strOk s=true:=fun s hs=>(hss.lett s (List.mem_filter.mp hs).1).ok
  have xq:=ext_new (o:=.lst ((lacksG kvs (x :: sr)).map D.str)) hlq
  have hq1:mset M1 lq (.lst ((lacksG kvs (x :: sr)).map D.str)) lq=some (.lst ((lacksG kvs (x :: sr)).map D.str)):=mset_same
  have hsq:=xq _ _ hsq
  have hM2:=ExtE.trans hM1 (extE xq)
  generalize mset M1 lq _=M2 at hq1 hsq hM2 ⊢
  clear xq hlq hM1
  tm_at "go"
  have ek:lackG kvs p.ss=notIn (kvs.map (·.1)) (x :: sr):=by rw [hps];rfl
  have l3:p.ss.length<=3:=by rw [hps];exact hle
  have n3:p.ss.Nodup:=by rw [hps];exact hss.nodup
  cases hlc:lacksG kvs (x :: sr) with
  | nil =>
   rw [hlc] at hq1
   refine ⟨1,p.ss,p.rs,p.bl,sq,kvs,_,rfl,hsq,.inr ⟨rfl,rfl,l3,n3⟩,fun _ M5 x5=>?_,fun e he=>by rw [ek,lack_none hlc] at he;cases he⟩
   have hq2:=x5 _ _ hq1
   have hM3:=ExtE.trans hM2 (extE x5)
   clear hM2 hq1 x5 hsq
   have e0:PyData.eqvAll (pdL ([] : List D)) (pdL [])=true:=by rw [eqv_nil];rfl
   tm_at "go"
   intro q0 h0
   have x0:=ext_new (o:=.lst []) h0
   refine eqx_l (xs:=[]) (ys:=[]) (x0 _ _ hq2) mset_same rfl rfl (dep_strsG []) ?_
   rw [e0]
   have hq3:=x0 _ _ hq2
   have hM4:=ExtE.trans hM3 (extE x0)
   generalize mset M5 q0 _=M6 at hq3 hM4 ⊢
   clear hq2 hM3 x0 h0
   tm_at "go"
   intro q1 h1
   have x0:=ext_new (o:=.lst []) h1
   refine eqx_l (xs:=[]) (ys:=[]) (x0 _ _ hq3) mset_same rfl rfl (dep_strsG []) ?_
   rw [e0]
   have hM5:=ExtE.trans hM4 (extE x0)
   tm_at "go"
   exact ⟨_,_,_,_,rfl,hM5⟩
  | cons y yr =>
   rw [hlc] at hq1 hlk
   refine ⟨1,p.ss,p.rs,p.bl,sq,kvs,_,rfl,hsq,.inr ⟨rfl,rfl,l3,n3⟩,(fun h=>by rw [ek,lack_name hlc] at h;cases h),fun e he a dx M5 x5 ha hdx hne=>?_⟩
   rw [ek,lack_name hlc] at he
   cases he
   have hq2:=x5 _ _ hq1 (fun _ z=>by cases z)
   have hM3:=ExtE.trans hM2 x5
   clear hM2 hq1 x5 hsq
   have e0:PyData.eqvAll (pdL ((y :: yr).map D.str)) (pdL [])=false:=by rw [eqv_nil];rfl
   tm_at "go"
   intro q0 h0
   have x0:=ext_new (o:=.lst []) h0
   refine eqx_l (ys:=[]) (x0 _ _ hq2) mset_same (imm_strsG hlk) rfl (dep_strsG _) ?_
   rw [e0]
   have hq3:=x0 _ _ hq2
   have ha:=x0 _ _ ha
   have hdx:=x0 _ _ hdx
   have hM4:=ExtE.trans hM3 (extE x0)
   generalize mset M5 q0 _=M6 at hq3 hM4 ha hdx ⊢
   clear hq2 hM3 x0 h0
   tm_at "go"
   intro q1 h1
   have x0:=ext_new (o:=.lst []) h1
   refine eqx_l (ys:=[]) (x0 _ _ hq3) mset_same (imm_strsG hlk) rfl (dep_strsG _) ?_
   rw [e0]
   have hq4:=x0 _ _ hq3
   have ha:=x0 _ _ ha
   have hdx:=x0 _ _ hdx
   have hM5:=ExtE.trans hM4 (extE x0)
   generalize mset M6 q1 _=M7 at hq4 hM5 ha hdx ⊢
   clear hq3 hM4 x0 h1
   tm_at "go"
   refine ix_al (d:=.str y) hq4 (atI_nat (j:=0) rfl) ?_
   tm_at "go"
   intro pl hpl
   have xl:=ext_new (o:=.lst [.str "name",.str y]) hpl
   tm_at "go"
   refine ⟨a,dx,pl,.name y,rfl,mset_same,hlk y (List.mem_cons_self ..),xl _ _ ha,xl _ _ hdx,hne,fun M8 x8=>?_⟩
   have hM6:=ExtE.trans hM5 (extE (Ext.trans xl x8))
   tm_at "go"
   exact ⟨_,_,_,_,rfl,hM6⟩
 ·rintro G' M' ⟨r9,r10,r11,r12,rfl,hM⟩
  tm_at "go"
  exact q _
end
structure Txt (K:PySem.W.Frag) (p0 cN cM cG cL cT C:Addr):Prop where
 a_bf:At K "_law_purse" s_bf
 a_bg:At K "_law_take" s_bg
 a_be:At K "_law_cell" s_be
 a_bi:At K "_law_number" s_bi
 a_bj:At K "_law_terms" s_bj
 a_bk:At K "_law_sum" s_bk
 a_bq:At K "_law_names" s_bq
 a_bl:At K "_law_row" s_bl
 a_bh:At K "_law_next" s_bh
 a_bm:At K "_law_statement" s_bm
 a_bn:At K "_law_loop" s_bn
 a_bo:At K "_law_block" s_bo
 a_bp:At K "_law_plan" s_bp
 a_ae:At K "blocks_of" s_ae
 a_ag:At K "straight_within" s_ag
 a_af:At K "laid_out" s_af
 a_au:At K "names_of_terms" s_au
 a_ar:At K "names_of_rows" s_ar
 a_aq:At K "names_of_loop" s_aq
 a_ap:At K "names_of_statement" s_ap
 a_ak:At K "how_many" s_ak
 a_aj:At K "depth_of" s_aj
 a_al:At K "rows_noted" s_al
 a_ay:At K "code_of_block" s_ay
 a_az:At K "code_of_statement" s_az
 a_ba:At K "code_of_branch" s_ba
 a_bb:At K "code_of_loop" s_bb
 a_bt:At K "_law_lacking" s_bt
 a_ai:At K "must_be_within" s_ai
 a_am:At K "must_be_among" s_am
 a_ao:At K "must_have_no_loop" s_ao
 a_an:At K "must_bear_measure" s_an
 a_ah:At K "must_be_small" s_ah
 a_ad:At K "must_plan" s_ad
 a_ax:At K "code" s_ax
 a_bc:At K "walk" s_bc
 a_bd:At K "number_behind" s_bd
 a_br:At K "_law_caught" s_br
 a_bs:At K "_law_refused" s_bs
 a_bu:At K "law" s_bu
 g_MOST_NAMES:∃ v,PySem.W.nsIn K mainGlobals "MOST_NAMES" = some (some v)/\RelV (.int 3) v
 g_MOST_STATEMENTS:∃ v,PySem.W.nsIn K mainGlobals "MOST_STATEMENTS" = some (some v)/\RelV (.int 24) v
 g_MOST_DEPTH:∃ v,PySem.W.nsIn K mainGlobals "MOST_DEPTH" = some (some v)/\RelV (.int 4) v
 g_MOST_BRANCHES:∃ v,PySem.W.nsIn K mainGlobals "MOST_BRANCHES" = some (some v)/\RelV (.int 2) v
 g_MOST_LOOPS:∃ v,PySem.W.nsIn K mainGlobals "MOST_LOOPS" = some (some v)/\RelV (.int 2) v
 g_MOST_GIVEN:∃ v,PySem.W.nsIn K mainGlobals "MOST_GIVEN" = some (some v)/\RelV (.int 1) v
 g_MOST_NOTED:∃ v,PySem.W.nsIn K mainGlobals "MOST_NOTED" = some (some v)/\RelV (.int 2) v
 z_range:PySem.W.nsIn K mainGlobals "range" = some none
 z_abs:PySem.W.nsIn K mainGlobals "abs" = some none
 z_int:PySem.W.nsIn K mainGlobals "int" = some none
 z_len:PySem.W.nsIn K mainGlobals "len" = some none
 z_tuple:PySem.W.nsIn K mainGlobals "tuple" = some none
 z_sorted:PySem.W.nsIn K mainGlobals "sorted" = some none
 z_min:PySem.W.nsIn K mainGlobals "min" = some none
 z_enumerate:PySem.W.nsIn K mainGlobals "enumerate" = some none
 z_max:PySem.W.nsIn K mainGlobals "max" = some none
 z_sum:PySem.W.nsIn K mainGlobals "sum" = some none
 z_isinstance:PySem.W.nsIn K mainGlobals "isinstance" = some none
 z_ValueError:PySem.W.nsIn K mainGlobals "ValueError" = some none
 z_dict:PySem.W.nsIn K mainGlobals "dict" = some none
 z_list:PySem.W.nsIn K mainGlobals "list" = some none
 z_set:PySem.W.nsIn K mainGlobals "set" = some none
 k_NoName:ClsT K "NoName" "NoName.__init__" s_aa cN p0
 f_NoName_name:PySem.W.findIn K (.ref cN) "name" = some none
 k_NoMeasure:ClsT K "NoMeasure" "NoMeasure.__init__" s_ac cM p0
 f_NoMeasure_place:PySem.W.findIn K (.ref cM) "place" = some none
 k_TooGreat:ClsT K "TooGreat" "TooGreat.__init__" s_ab cG p0
 f_TooGreat_number:PySem.W.findIn K (.ref cG) "number" = some none
 f_TooGreat_most:PySem.W.findIn K (.ref cG) "most" = some none
 k_NoLoop:ClsT K "NoLoop" "NoLoop.__init__" s_NoLoop_init cL p0
 k_NoText:ClsT K "NoText" "NoText.__init__" s_NoText_init cT p0
 p_ns:PySem.W.nsIn K mainGlobals "KeepError" = some (some (.ref p0))
 p_er:∃ nm q N bs sn sub ab col dd k0 k1 k2 k3 k5 es ep oc od sl,K.lookup p0=some (excClassObj nm q p0 N bs X1.VE true sn sub ab col dd k0 k1 k2 k3 k5 "ValueError.__new__")/\K.lookup N=some ⟨oc,od,.dict es ep,sl⟩/\StrKeys es/\nsFind es "__init__" = none
 n_cG:X1.Knd K cG
 s_cG:PySem.W.subIn K (.ref cG) (.type "ValueError")=some true
 n_cN:X1.Knd K cN
 s_cN:PySem.W.subIn K (.ref cN) (.type "ValueError")=some true
 n_cM:X1.Knd K cM
 s_cM:PySem.W.subIn K (.ref cM) (.type "ValueError")=some true
 t_cG:PySem.W.typeIn K (.ref cG)=some (.type "type")
 t_cN:PySem.W.typeIn K (.ref cN)=some (.type "type")
 t_cM:PySem.W.typeIn K (.ref cM)=some (.type "type")
 t_cL:PySem.W.typeIn K (.ref cL)=some (.type "type")
 t_cT:PySem.W.typeIn K (.ref cT)=some (.type "type")
 d_cG_cN:cG≠cN
 u_cG_cN:PySem.W.subIn K (.ref cG) (.ref cN)=some false
 d_cG_cM:cG≠cM
 u_cG_cM:PySem.W.subIn K (.ref cG) (.ref cM)=some false
 d_cG_cL:cG≠cL
 u_cG_cL:PySem.W.subIn K (.ref cG) (.ref cL)=some false
 d_cG_cT:cG≠cT
 u_cG_cT:PySem.W.subIn K (.ref cG) (.ref cT)=some false
 d_cN_cG:cN≠cG
 u_cN_cG:PySem.W.subIn K (.ref cN) (.ref cG)=some false
 d_cN_cM:cN≠cM
 u_cN_cM:PySem.W.subIn K (.ref cN) (.ref cM)=some false
 d_cN_cL:cN≠cL
 u_cN_cL:PySem.W.subIn K (.ref cN) (.ref cL)=some false
 d_cN_cT:cN≠cT
 u_cN_cT:PySem.W.subIn K (.ref cN) (.ref cT)=some false
 d_cM_cG:cM≠cG
 u_cM_cG:PySem.W.subIn K (.ref cM) (.ref cG)=some false
 d_cM_cN:cM≠cN
 u_cM_cN:PySem.W.subIn K (.ref cM) (.ref cN)=some false
 d_cM_cL:cM≠cL
 u_cM_cL:PySem.W.subIn K (.ref cM) (.ref cL)=some false
 d_cM_cT:cM≠cT
 u_cM_cT:PySem.W.subIn K (.ref cM) (.ref cT)=some false
 cl:ClsI K "Traveller" C
 m_init:AtM K C "__init__" "Traveller.__init__" s_av
 m_told:AtM K C "told" "Traveller.told" s_aw
 n_point:PySem.W.findIn K (.ref C) "point" = some none
 n_turns:PySem.W.findIn K (.ref C) "turns" = some none
 n_givens:PySem.W.findIn K (.ref C) "givens" = some none
 n_deeds:PySem.W.findIn K (.ref C) "deeds" = some none
 n_passed:PySem.W.findIn K (.ref C) "passed" = some none
 n_worths:PySem.W.findIn K (.ref C) "worths" = some none
 n_word:PySem.W.findIn K (.ref C) "word" = some none
 n_place:PySem.W.findIn K (.ref C) "place" = some none
theorem all_mk {P:Program} {w:World} {K:PySem.W.Frag} {h:Heap} {mg:Str->Option Value} {fa p0 cN cM cG cL cT C:Addr} (T:Txt K p0 cN cM cG cL cT C) (X:K.In h) (G:h.Ns mainGlobals mg) (hfa:mg "law" = some (.ref fa)) :
  ∃ fd:FuncData,(∀ (s:Shared) (v:Value),BindsTo s fd ⟨[v],[]⟩ [("_law_script",v)])/\∀ base:Heap,K.In base->base.Ns mainGlobals mg->FnOk P w K mg base CX0 17 fa fd P_bu (liftSp K spLaw):=by
 tm_at "gA bf1 bg2 be2 bi1 bj2 bk2 bq1 bl2 bh1 bm3 bn4 bo3 bp3 ae1 ag2 af1 au1 ar1 aq1 ap1 ak2 aj1 al1 ay3 az3 ba4 bb3 bt2 ai2 am2 ao2 an2 ah2 ad1 ax1 bc5 bd3 br3 bs2"
 obtain ⟨f_bu,d_bu,F_bu,m_bu⟩:=T.a_bu.get X G
 have e:=hfa.symm.trans m_bu
 cases e
 tm_at "gG MOST_NAMES MOST_STATEMENTS MOST_DEPTH MOST_BRANCHES MOST_LOOPS MOST_GIVEN MOST_NOTED"
 have mC:mg "Traveller" = some (.ref C):=PySem.W.mg_of X G T.cl.ns
 have OK:TrG K C:=⟨T.cl.cls,fun f hf=>by
  rcases hf with _ | ⟨_,hf⟩;exact T.n_point
  rcases hf with _ | ⟨_,hf⟩;exact T.n_turns
  rcases hf with _ | ⟨_,hf⟩;exact T.n_givens
  rcases hf with _ | ⟨_,hf⟩;exact T.n_deeds
  rcases hf with _ | ⟨_,hf⟩;exact T.n_passed
  rcases hf with _ | ⟨_,hf⟩;exact T.n_worths
  rcases hf with _ | ⟨_,hf⟩;exact T.n_word
  rcases hf with _ | ⟨_,hf⟩;exact T.n_place
  cases hf⟩
 obtain ⟨f_av,d_av,F_av,m_av⟩:=T.m_init.get
 have b_av:=F_av.binds (ps:=P_av) fun _ _ _ _ _ _ us hl=>match us,hl with | [_,_,_,_,_],_=>rfl
 obtain ⟨f_aw,d_aw,F_aw,m_aw⟩:=T.m_told.get
 have b_aw:=F_aw.binds (ps:=P_aw) fun _ _ _ _ _ _ us hl=>match us,hl with | [_],_=>rfl
 tm_at "zZ range abs int len tuple sorted min enumerate max sum isinstance ValueError dict list set"
 obtain ⟨nm,q,N,bs,sn,sub,ab,col,dd,k0,k1,k2,k3,k5,es,ep,oc,od,sl,lP,lN,sk,ni⟩:=T.p_er
 have e0:X1.Err0 K p0:=⟨⟨_,_,_,_,_,_,_,_,_,_,_,_,_,_,_,lP⟩⟩
 have mP:mg "KeepError" = some (.ref p0):=PySem.W.mg_of X G T.p_ns
 have x_NoName_name:=T.k_NoName.fld T.f_NoName_name
 have x_NoMeasure_place:=T.k_NoMeasure.fld T.f_NoMeasure_place
 have x_TooGreat_number:=T.k_TooGreat.fld T.f_TooGreat_number
 have x_TooGreat_most:=T.k_TooGreat.fld T.f_TooGreat_most
 have w_cG_cN:=kit_no T.d_cG_cN T.k_NoName.er.g T.t_cN T.u_cG_cN
 have w_cG_cM:=kit_no T.d_cG_cM T.k_NoMeasure.er.g T.t_cM T.u_cG_cM
 have w_cG_cL:=kit_no T.d_cG_cL T.k_NoLoop.er.g T.t_cL T.u_cG_cL
 have w_cG_cT:=kit_no T.d_cG_cT T.k_NoText.er.g T.t_cT T.u_cG_cT
 have w_cN_cG:=kit_no T.d_cN_cG T.k_TooGreat.er.g T.t_cG T.u_cN_cG
 have w_cN_cM:=kit_no T.d_cN_cM T.k_NoMeasure.er.g T.t_cM T.u_cN_cM
 have w_cN_cL:=kit_no T.d_cN_cL T.k_NoLoop.er.g T.t_cL T.u_cN_cL
 have w_cN_cT:=kit_no T.d_cN_cT T.k_NoText.er.g T.t_cT T.u_cN_cT
 have w_cM_cG:=kit_no T.d_cM_cG T.k_TooGreat.er.g T.t_cG T.u_cM_cG
 have w_cM_cN:=kit_no T.d_cM_cN T.k_NoName.er.g T.t_cN T.u_cM_cN
 have w_cM_cL:=kit_no T.d_cM_cL T.k_NoLoop.er.g T.t_cL T.u_cM_cL
 have w_cM_cT:=kit_no T.d_cM_cT T.k_NoText.er.g T.t_cT T.u_cM_cT
 have eE:∀ e:Rf,X1.Err K (e.c cG cN cM) p0:=fun e=>by
  cases e with
  | great _ _=>exact T.k_TooGreat.er
  | name _=>exact T.k_NoName.er
  | meas _=>exact T.k_NoMeasure.er
 have kn:∀ e:Rf,X1.Knd K (e.c cG cN cM):=fun e=>by
  cases e with
  | great _ _=>exact T.n_cG
  | name _=>exact T.n_cN
  | meas _=>exact T.n_cM
 have kv:∀ e:Rf,PySem.W.kitOne K (.ref (e.c cG cN cM)) (.type "ValueError")=some true:=fun e=>by
  cases e with
  | great _ _=>exact kit_ty T.s_cG
  | name _=>exact kit_ty T.s_cN
  | meas _=>exact kit_ty T.s_cM
 have ka:∀ e:Rf,PySem.W.kitAny K (.ref (e.c cG cN cM)) [.ref cL,.ref cT]=some false:=fun e=>by
  cases e with
  | great _ _=>exact (by simp only [Rf.c,PySem.W.kitAny,w_cG_cL,w_cG_cT])
  | name _=>exact (by simp only [Rf.c,PySem.W.kitAny,w_cN_cL,w_cN_cT])
  | meas _=>exact (by simp only [Rf.c,PySem.W.kitAny,w_cM_cL,w_cM_cT])
 have kd:Kinds K cG cN cM cL cT:=⟨kn,kv,ka,(fun e=>by
  cases e with
  | great _ _=>exact kit_self
  | name _=>exact w_cN_cG
  | meas _=>exact w_cM_cG),(fun e=>by
  cases e with
  | great _ _=>exact w_cG_cN
  | name _=>exact kit_self
  | meas _=>exact w_cM_cN),(fun e=>by
  cases e with
  | great _ _=>exact w_cG_cM
  | name _=>exact w_cN_cM
  | meas _=>exact kit_self)⟩
 refine ⟨d_bu,?_,fun base _ _=>?_⟩
 ·obtain ⟨oc,od,kV,doc,pm,an,cdv,ct,osl,rfl,_,_⟩:=F_bu.ex
  exact fun s v=>.of_eq rfl
 tm_at "cC bf ok_l_purse z_range z_abs"
 tm_at "cC bg ok_l_take z_int"
 tm_at "cC be ok_l_cell z_len"
 tm_at "cC bi ok_l_number C_l_take"
 tm_at "cC bj ok_l_terms z_tuple C_l_number"
 tm_at "cC bk ok_l_sum C_l_take C_l_terms C_l_number"
 tm_at "cC bq ok_l_names z_tuple z_sorted z_range"
 tm_at "cC bl ok_l_row C_l_take C_l_terms C_l_number"
 tm_at "cC bh ok_l_next z_len C_l_purse"
 tm_at "cD bm C_l_statement4 ok_l_statement d4 k4 3 z_len z_tuple z_range z_min C_l_next C_l_take C_l_row C_l_sum - -"
 tm_at "cD bo C_l_block4 ok_l_block d4 k5 1 z_tuple z_range C_l_next C_l_take C_l_statement4"
 tm_at "cD bn C_l_loop3 ok_l_loop d3 k6 3 z_tuple z_range z_abs C_l_take C_l_row C_l_sum C_l_number C_l_block4"
 tm_at "cD bm C_l_statement3 ok_l_statement d3 k7 3 z_len z_tuple z_range z_min C_l_next C_l_take C_l_row C_l_sum ^C_l_loop3 ~C_l_block4"
 tm_at "cD bo C_l_block3 ok_l_block d3 k8 1 z_tuple z_range C_l_next C_l_take C_l_statement3"
 tm_at "cD bn C_l_loop2 ok_l_loop d2 k9 3 z_tuple z_range z_abs C_l_take C_l_row C_l_sum C_l_number C_l_block3"
 tm_at "cD bm C_l_statement2 ok_l_statement d2 k10 3 z_len z_tuple z_range z_min C_l_next C_l_take C_l_row C_l_sum ^C_l_loop2 ~C_l_block3"
 tm_at "cD bo C_l_block2 ok_l_block d2 k11 1 z_tuple z_range C_l_next C_l_take C_l_statement2"
 tm_at "cD bn C_l_loop1 ok_l_loop d1 k12 3 z_tuple z_range z_abs C_l_take C_l_row C_l_sum C_l_number C_l_block2"
 tm_at "cD bm C_l_statement1 ok_l_statement d1 k13 3 z_len z_tuple z_range z_min C_l_next C_l_take C_l_row C_l_sum ^C_l_loop1 ~C_l_block2"
 have C_l_plan:Cal P w K mg base 15 "_law_plan" (spPlan):=cal_D F_bp (ok_l_plan (k:=14) (by decide) F_bp z_tuple z_range z_len C_l_purse C_l_take C_l_row C_l_statement1) b_bp m_bp
 have C_blocks_of:Cal P w K mg base 1 "blocks_of" (spBlocksOf):=cal_D F_ae (ok_blocks_of F_ae ) b_ae m_ae
 tm_at "cC ag ok_straight_within z_enumerate C_blocks_of"
 tm_at "cC af ok_laid_out z_enumerate z_len C_straight_within"
 have C_names_of_terms:Cal P w K mg base 1 "names_of_terms" (spNmT):=cal_D F_au (ok_names_of_terms F_au ) b_au m_au
 tm_at "cC ar ok_names_of_rows C_names_of_terms"
 tm_at "cC aq ok_names_of_loop C_names_of_terms C_names_of_rows"
 tm_at "cC ap ok_names_of_statement C_names_of_terms C_names_of_rows C_names_of_loop"
 tm_at "cC ak ok_how_many z_len"
 tm_at "cC aj ok_depth_of z_len z_max"
 tm_at "cC al ok_rows_noted z_len z_sum"
 tm_at "cD ay C_code_of_block0 ok_code_of_block n0 k1 1 z_enumerate z_len -"
 tm_at "cD ba C_code_of_branch1 ok_code_of_branch n0 k2 1 z_len C_code_of_block0"
 tm_at "cD bb C_code_of_loop1 ok_code_of_loop n0 k2 1 z_len C_code_of_block0"
 tm_at "cD az C_code_of_statement1 ok_code_of_statement n0 k3 1 C_blocks_of C_code_of_branch1 C_code_of_loop1"
 tm_at "cD ay C_code_of_block1 ok_code_of_block n1 k4 1 z_enumerate z_len ^C_code_of_statement1"
 tm_at "cD ba C_code_of_branch2 ok_code_of_branch n1 k5 1 z_len C_code_of_block1"
 tm_at "cD bb C_code_of_loop2 ok_code_of_loop n1 k5 1 z_len C_code_of_block1"
 tm_at "cD az C_code_of_statement2 ok_code_of_statement n1 k6 1 C_blocks_of C_code_of_branch2 C_code_of_loop2"
 tm_at "cD ay C_code_of_block2 ok_code_of_block n2 k7 1 z_enumerate z_len ^C_code_of_statement2"
 tm_at "cD ba C_code_of_branch3 ok_code_of_branch n2 k8 1 z_len C_code_of_block2"
 tm_at "cD bb C_code_of_loop3 ok_code_of_loop n2 k8 1 z_len C_code_of_block2"
 tm_at "cD az C_code_of_statement3 ok_code_of_statement n2 k9 1 C_blocks_of C_code_of_branch3 C_code_of_loop3"
 tm_at "cD ay C_code_of_block3 ok_code_of_block n3 k10 1 z_enumerate z_len ^C_code_of_statement3"
 tm_at "cD ba C_code_of_branch4 ok_code_of_branch n3 k11 1 z_len C_code_of_block3"
 tm_at "cD bb C_code_of_loop4 ok_code_of_loop n3 k11 1 z_len C_code_of_block3"
 tm_at "cD az C_code_of_statement4 ok_code_of_statement n3 k12 1 C_blocks_of C_code_of_branch4 C_code_of_loop4"
 tm_at "cD ay C_code_of_block4 ok_code_of_block n4 k13 1 z_enumerate z_len ^C_code_of_statement4"
 tm_at "cC bt ok_l_lacking z_len z_range"
 have r_NoName:Mkr P w K mg base 1 "NoName" cN p0 ["name"]:=T.k_NoName.mkr (ps:=P_aa) X G (fun _ _ F=>ok_NoName_init F x_NoName_name) fun _ _ F=>F.binds fun _ _ _ _ _ _ us hl=>match us,hl with | [_,_],_=>rfl
 have r_NoMeasure:Mkr P w K mg base 1 "NoMeasure" cM p0 ["place"]:=T.k_NoMeasure.mkr (ps:=P_ac) X G (fun _ _ F=>ok_NoMeasure_init F x_NoMeasure_place) fun _ _ F=>F.binds fun _ _ _ _ _ _ us hl=>match us,hl with | [_,_],_=>rfl
 have r_TooGreat:Mkr P w K mg base 1 "TooGreat" cG p0 ["number", "most"]:=T.k_TooGreat.mkr (ps:=P_ab) X G (fun _ _ F=>ok_TooGreat_init F x_TooGreat_number x_TooGreat_most) fun _ _ F=>F.binds fun _ _ _ _ _ _ us hl=>match us,hl with | [_,_,_],_=>rfl
 have D_within:CalX P w K mg base 3 "must_be_within" (spLessX cG cN cM):=cal_X F_ai (ok_must_be_within F_ai r_TooGreat) b_ai m_ai
 have D_among:CalX P w K mg base 3 "must_be_among" (spAmongX cG cN cM):=cal_X F_am (ok_must_be_among F_am r_NoName) b_am m_am
 have D_noloop:CalX P w K mg base 4 "must_have_no_loop" (spNoLpX cG cN cM):=cal_X F_ao (ok_must_have_no_loop F_ao C_laid_out C_how_many r_NoMeasure) b_ao m_ao
 have D_bear:CalX P w K mg base 5 "must_bear_measure" (spBearX cG cN cM):=cal_X F_an (ok_must_bear_measure F_an D_noloop) b_an m_an
 have D_small:CalX P w K mg base 4 "must_be_small" (spSmallX cG cN cM):=cal_X F_ah (ok_must_be_small F_ah z_len g_MOST_NAMES g_MOST_STATEMENTS g_MOST_DEPTH g_MOST_BRANCHES g_MOST_LOOPS g_MOST_GIVEN g_MOST_NOTED D_within C_depth_of C_how_many C_rows_noted) b_ah m_ah
 have D_plan:CalX P w K mg base 6 "must_plan" (spPlanX cG cN cM):=cal_X F_ad (ok_must_plan F_ad C_laid_out D_small D_among C_names_of_rows C_names_of_statement D_bear) b_ad m_ad
 have D_code:CalX P w K mg base 15 "code" (spCodeX cG cN cM):=cal_X F_ax (ok_code F_ax D_plan C_code_of_block4) b_ax m_ax
 have K_T:KlsX P w K mg base 3 "Traveller" C (spTravX cG cN cM C):=⟨⟨f_av,d_av,P_av,ok_Traveller_init F_av OK z_dict z_list r_NoName,T.cl.mk_ m_av,b_av⟩,mC⟩
 have M_told:CalM P w K mg base 1 C "told" (spToldG C):=⟨T.cl.cls,f_aw,d_aw,P_aw,ok_Traveller_told F_aw OK z_dict,m_aw,b_aw⟩
 tm_at "cC bd ok_number_behind"
 have D_walk:CalX P w K mg base 6 "walk" (spWalkX cG cN cM):=cal_X F_bc (ok_walk F_bc K_T C_number_behind M_told) b_bc m_bc
 tm_at "cC br ok_l_caught D_code D_walk eE e0 mP"
 have C_l_refused:Cal P w K mg base 1 "_law_refused" (spRefusedG cG cN cM):=cal_D F_bs (ok_l_refused F_bs z_isinstance z_ValueError (PySem.W.mg_of X G T.k_TooGreat.ns) (PySem.W.mg_of X G T.k_NoName.ns) (PySem.W.mg_of X G T.k_NoMeasure.ns) (PySem.W.mg_of X G T.k_NoLoop.ns) (PySem.W.mg_of X G T.k_NoText.ns) kd x_TooGreat_number x_TooGreat_most x_NoName_name x_NoMeasure_place) b_bs m_bs
 exact ok_law F_bu z_tuple z_sorted z_set C_l_names C_l_cell C_l_plan C_l_caught C_l_refused C_l_lacking
end K44
local macro_rules | `(tactic| tm_at $s:str)=>K44.sT s
local macro_rules | `(#check tT $a:num*)=>K44.tT a
#check tT 13598696111265894265 4737344941002198024 13629228846692199941 17924702491601877967 11721984963871798814 13571711921770865997 16988202696936013550 1119542079193892529 4871311276122672356 4175600352562545769 16783334552515089549 18037776099926925856 10855059063154571895 9041835938824628640 3273913511241011956 10686546968330925872 1363677114822508906 18302057223136445450 6086022216383061290 14479401593397015253 8962104875566159229 16048470359656650241 9188762667786505935 377622028402297845 14661969573995207927 4447849007219036522 9002601041310914223 8970635627627247309 14741583861396671035 11783763986570904668 2288780247685418286 8505697090524948756 7969550180365982031 3098891732283968759 8295632745686500758 9568251576792990656 6484265170858664502 2065719618067583518 14678872916148819531 6228550402811479071 11736567855783613211 2732112531318087257 12147376484348610152 16748337875370735645 12870858438902936091 1914836586956149232 17061715230866683077 16759068495498839985 9629090423005854662 11829731680100105813 14346145552776173888 12844197476179563918 8281265934019070297 6997784936782058541 15958851913250401231 15109694973675451388 17466255110599337718 3030634576948614570 11203463382670123916 12971864591608204601 18391930176320735360 11866865370816263416 2967486057615404922 3980082695659071126 10891661983404692500 4626650912194548680 3716130053006299630 9278161894491250798 5262239173890115354 12482656173497300131 11348899591601064617 9694434756965023301 1566451053047090110 18180435978884443677 18217373643226794943 15115190938239751766 15389005103969316652 5922514404049152018 782378123983605034 1513913563210436357 17452009764119029440 16341805081731597071 12281020547238375964 2512604041063910552 6747782432570247185 12098660756088057137 723124786984181731 2943199364263972416 13801518472925524401 4035487808284470173 17155783682902487418 13086813675212834795 6583355371409433658 4068219128528636302 3722023726266193566 12815634287088370740 10640047060193836071 17808320395057125934 14244200380598526133 1694162271198467371 3253571940513814212 9798277133412400387 7991252827208703805 17070292175958683491 4378325170469981391 13459840227653993075 13693320596805065396
open PySem PySem.W PyProof.Rows
set_option maxRecDepth 100000 in
set_option maxHeartbeats 0 in
theorem PySem.Challenge.cw_notekeep_k44_code_refused_holds : PySem.Challenge.rw_notekeep_k44_code_refused.Holds := by
  w_on; o_law; k_head; (case hw => w_witness2)
  k_fill
  refine D3.walk_D (l := PySem.Challenge.rw_notekeep_k44_code_refused) (k := 17) (sp := K44.spLaw) (x := "_law_script") rfl rfl ⟨rfl, by decide, by decide⟩ K44.lawSp (fun w h Y => PySem.W.kIn_of Y) ?F
  case F =>
    intro w mg fa h KX G hmg
    obtain ⟨p0, cN, cM, cG, cL, cT, C, T⟩ : ∃ p0 cN cM cG cL cT C, K44.Txt (L2.KOf KX) p0 cN cM cG cL cT C := by
     dsimp only [L2.KOf]
     refine' ⟨_,_,_,_,_,_,_,KA.At.mk ?a0 ?l0 ?c0 ?k0,KA.At.mk ?a1 ?l1 ?c1 ?k1,KA.At.mk ?a2 ?l2 ?c2 ?k2,KA.At.mk ?a3 ?l3 ?c3 ?k3,KA.At.mk ?a4 ?l4 ?c4 ?k4,KA.At.mk ?a5 ?l5 ?c5 ?k5,KA.At.mk ?a6 ?l6 ?c6 ?k6,KA.At.mk ?a7 ?l7 ?c7 ?k7,KA.At.mk ?a8 ?l8 ?c8 ?k8,KA.At.mk ?a9 ?l9 ?c9 ?k9,KA.At.mk ?a10 ?l10 ?c10 ?k10,KA.At.mk ?a11 ?l11 ?c11 ?k11,KA.At.mk ?a12 ?l12 ?c12 ?k12,KA.At.mk ?a13 ?l13 ?c13 ?k13,KA.At.mk ?a14 ?l14 ?c14 ?k14,KA.At.mk ?a15 ?l15 ?c15 ?k15,KA.At.mk ?a16 ?l16 ?c16 ?k16,KA.At.mk ?a17 ?l17 ?c17 ?k17,KA.At.mk ?a18 ?l18 ?c18 ?k18,KA.At.mk ?a19 ?l19 ?c19 ?k19,KA.At.mk ?a20 ?l20 ?c20 ?k20,KA.At.mk ?a21 ?l21 ?c21 ?k21,KA.At.mk ?a22 ?l22 ?c22 ?k22,KA.At.mk ?a23 ?l23 ?c23 ?k23,KA.At.mk ?a24 ?l24 ?c24 ?k24,KA.At.mk ?a25 ?l25 ?c25 ?k25,KA.At.mk ?a26 ?l26 ?c26 ?k26,KA.At.mk ?a27 ?l27 ?c27 ?k27,KA.At.mk ?a28 ?l28 ?c28 ?k28,KA.At.mk ?a29 ?l29 ?c29 ?k29,KA.At.mk ?a30 ?l30 ?c30 ?k30,KA.At.mk ?a31 ?l31 ?c31 ?k31,KA.At.mk ?a32 ?l32 ?c32 ?k32,KA.At.mk ?a33 ?l33 ?c33 ?k33,KA.At.mk ?a34 ?l34 ?c34 ?k34,KA.At.mk ?a35 ?l35 ?c35 ?k35,KA.At.mk ?a36 ?l36 ?c36 ?k36,KA.At.mk ?a37 ?l37 ?c37 ?k37,KA.At.mk ?a38 ?l38 ?c38 ?k38,KA.At.mk ?a39 ?l39 ?c39 ?k39,⟨?t0,?u0,?r0⟩,⟨?t1,?u1,?r1⟩,⟨?t2,?u2,?r2⟩,⟨?t3,?u3,?r3⟩,⟨?t4,?u4,?r4⟩,⟨?t5,?u5,?r5⟩,⟨?t6,?u6,?r6⟩,?z0,?z1,?z2,?z3,?z4,?z5,?z6,?z7,?z8,?z9,?z10,?z11,?z12,?z13,?z14,KA.ClsT.mk' ?y0_0 ?y0_1 ?y0_2 ?y0_3 ?y0_4 ?y0_5 ?y0_6 ?y0_7 ?y0_8 ?y0_9 ?y0_10,?g_NoName_name,KA.ClsT.mk' ?y1_0 ?y1_1 ?y1_2 ?y1_3 ?y1_4 ?y1_5 ?y1_6 ?y1_7 ?y1_8 ?y1_9 ?y1_10,?g_NoMeasure_place,KA.ClsT.mk' ?y2_0 ?y2_1 ?y2_2 ?y2_3 ?y2_4 ?y2_5 ?y2_6 ?y2_7 ?y2_8 ?y2_9 ?y2_10,?g_TooGreat_number,?g_TooGreat_most,KA.ClsT.mk' ?y3_0 ?y3_1 ?y3_2 ?y3_3 ?y3_4 ?y3_5 ?y3_6 ?y3_7 ?y3_8 ?y3_9 ?y3_10,KA.ClsT.mk' ?y4_0 ?y4_1 ?y4_2 ?y4_3 ?y4_4 ?y4_5 ?y4_6 ?y4_7 ?y4_8 ?y4_9 ?y4_10,?p1,KA.per_mk ?p3 ?p4 ?p5 ?p6,⟨?ncG_e,?ncG_1,?ncG_2,?ncG_3,?ncG_4,?ncG_5,?ncG_6,?ncG_7⟩,?s_cG,⟨?ncN_e,?ncN_1,?ncN_2,?ncN_3,?ncN_4,?ncN_5,?ncN_6,?ncN_7⟩,?s_cN,⟨?ncM_e,?ncM_1,?ncM_2,?ncM_3,?ncM_4,?ncM_5,?ncM_6,?ncM_7⟩,?s_cM,?ty_cG,?ty_cN,?ty_cM,?ty_cL,?ty_cT,?d_cG_cN,?u_cG_cN,?d_cG_cM,?u_cG_cM,?d_cG_cL,?u_cG_cL,?d_cG_cT,?u_cG_cT,?d_cN_cG,?u_cN_cG,?d_cN_cM,?u_cN_cM,?d_cN_cL,?u_cN_cL,?d_cN_cT,?u_cN_cT,?d_cM_cG,?u_cM_cG,?d_cM_cN,?u_cM_cN,?d_cM_cL,?u_cM_cL,?d_cM_cT,?u_cM_cT,D3.ClsI.mk' ?e0 ?e1 ?e2 ?e3 ?e4 ?e5 ?e6,D3.AtM.mk ?i00 ?i01 ?i02 ?i03 ?i04,D3.AtM.mk ?i10 ?i11 ?i12 ?i13 ?i14,?n0,?n1,?n2,?n3,?n4,?n5,?n6,?n7⟩
     tm_at "kK 40"
     (case u0 => (with_unfolding_all exact rfl)); (case r0 => exact ⟨_, rfl⟩)
     (case u1 => (with_unfolding_all exact rfl)); (case r1 => exact ⟨_, rfl⟩)
     (case u2 => (with_unfolding_all exact rfl)); (case r2 => exact ⟨_, rfl⟩)
     (case u3 => (with_unfolding_all exact rfl)); (case r3 => exact ⟨_, rfl⟩)
     (case u4 => (with_unfolding_all exact rfl)); (case r4 => exact ⟨_, rfl⟩)
     (case u5 => (with_unfolding_all exact rfl)); (case r5 => exact ⟨_, rfl⟩)
     (case u6 => (with_unfolding_all exact rfl)); (case r6 => exact ⟨_, rfl⟩)
     tm_at "kL z0 z1 z2 z3 z4 z5 z6 z7 z8 z9 z10 z11 z12 z13 z14 y0_0 y0_1 y0_2 y0_3 y0_4 y0_5 y0_6"; (case y0_7 => rfl); tm_at "kL y0_8 y0_9 y0_10 g_NoName_name y1_0 y1_1 y1_2 y1_3 y1_4 y1_5 y1_6"; (case y1_7 => rfl); tm_at "kL y1_8 y1_9 y1_10 g_NoMeasure_place y2_0 y2_1 y2_2 y2_3 y2_4 y2_5 y2_6"; (case y2_7 => rfl); tm_at "kL y2_8 y2_9 y2_10 g_TooGreat_number g_TooGreat_most y3_0 y3_1 y3_2 y3_3 y3_4 y3_5 y3_6"; (case y3_7 => rfl); tm_at "kL y3_8 y3_9 y3_10 y4_0 y4_1 y4_2 y4_3 y4_4 y4_5 y4_6"; (case y4_7 => rfl); tm_at "kL y4_8 y4_9 y4_10 p1 p3 p4"
     (case p5 => exact KA.strKeys_of (by first | rfl | kernel_rfl))
     (case p6 => first | rfl | kernel_rfl)
     tm_at "kL ncG_1 ncG_2 ncG_3 ncG_4 ncG_5 ncG_6 s_cG ncN_1 ncN_2 ncN_3 ncN_4 ncN_5 ncN_6 s_cN ncM_1 ncM_2 ncM_3 ncM_4 ncM_5 ncM_6 s_cM ty_cG ty_cN ty_cM ty_cL ty_cT"
     (case d_cG_cN => decide); (case u_cG_cN => k_is)
     (case d_cG_cM => decide); (case u_cG_cM => k_is)
     (case d_cG_cL => decide); (case u_cG_cL => k_is)
     (case d_cG_cT => decide); (case u_cG_cT => k_is)
     (case d_cN_cG => decide); (case u_cN_cG => k_is)
     (case d_cN_cM => decide); (case u_cN_cM => k_is)
     (case d_cN_cL => decide); (case u_cN_cL => k_is)
     (case d_cN_cT => decide); (case u_cN_cT => k_is)
     (case d_cM_cG => decide); (case u_cM_cG => k_is)
     (case d_cM_cN => decide); (case u_cM_cN => k_is)
     (case d_cM_cL => decide); (case u_cM_cL => k_is)
     (case d_cM_cT => decide); tm_at "kL u_cM_cT e0 e1 e2 e3 e4 e5 e6 i00 i01 i02 i03 i04 i10 i11 i12 i13 i14 n0 n1 n2 n3 n4 n5 n6 n7"
     (case ncG_e => exact KA.errG_of (by k_is) rfl); (case ncG_7 => exact KA.cls_some (KA.errG_of (by k_is) rfl))
     (case ncN_e => exact KA.errG_of (by k_is) rfl); (case ncN_7 => exact KA.cls_some (KA.errG_of (by k_is) rfl))
     (case ncM_e => exact KA.errG_of (by k_is) rfl); (case ncM_7 => exact KA.cls_some (KA.errG_of (by k_is) rfl))
    exact K44.all_mk T KX G hmg
